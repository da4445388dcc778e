import PyProof.Rows.All
import Wide.All
import OpenK.AllK
import Wide.FinOn
import Lean
import PyProof.EqAt
import PyProof.EqKinds
import PyProof.TupleCall
import PySem.Challenge.RW_knotwise_k61_whole_switched_reflected
open Array renaming length_toList -> fA, forIn_toList -> yi, getElem?_eq_getElem -> Hx, getD -> JJ, mk -> Le, getElem?_eq_none -> MU
open Array.Perm renaming refl -> nj
open Bool renaming false_eq_true -> ar, and_eq_true -> aJ, not_true -> bc, noConfusion -> bA, not_false -> eG, false_ne_true -> gZ, or_eq_true -> iu, and_eq_true_iff -> j7, false_and -> JH, and_false -> JI, false_or -> MT, beq_eq_decide_eq -> QB
open Classical renaming byContradiction -> gP
open False renaming elim -> bN
open ForInStep renaming yield -> sf
open Function renaming comp_def -> QA
open Int renaming toNat_natCast -> cV, emod_lt_of_pos -> lO, emod_nonneg -> oW, natCast_nonneg -> qg, add_zero -> vA, zero_add -> DX, mul_add -> Hs
open List renaming getElem?_cons_zero -> aa, getElem?_cons_succ -> ae, set_cons_zero -> ah, getElem?_eq_getElem -> ai, length_cons -> aj, length_map -> ak, map_cons -> ao, set_cons_succ -> aq, length_nil -> ax, cons_append -> aB, length_append -> aE, map_append -> aK, mem_cons_of_mem -> aL, map_map -> aM, replicate -> aO, nil_append -> aP, map_nil -> aT, size_toArray -> aX, nodup_cons -> a9, getElem?_map -> bq, mem_of_getElem? -> bx, mem_cons -> bD, getElem?_append_right -> bG, mem_singleton -> bL, mem_map_of_mem -> bP, filter_cons -> bQ, getElem?_append_left -> bS, length_singleton -> cb, nodup_nil -> cf, find?_cons_of_pos -> cg, find?_cons_of_neg -> ck, mem_cons_self -> cp, length_drop -> cq, nodup_append -> cA, getElem_mem -> cB, foldl_cons -> cE, map_congr_left -> cL, getElem?_set_self -> cO, not_mem_nil -> cP, flatMap_cons -> cT, append_assoc -> cU, mem_append_right -> dg, find?_cons -> dn, append_nil -> dq, all_eq_true -> du, getElem?_set_ne -> dw, length -> dO, getD_eq_getElem?_getD -> d6, range -> ez, length_set -> eE, length_take -> eL, getElem_of_mem -> eS, length_replicate -> eV, flatten_cons -> eW, getElem?_of_mem -> fe, take_append_drop -> fI, length_filter_le -> fJ, all_map -> fK, find?_eq_none -> fP, filter_append -> fQ, getElem?_replicate -> gj, mem_of_find?_eq_some -> hZ, drop_eq_getElem_cons -> ib, foldl_append -> iq, filter_sublist -> iO, getElem_map -> kF, map_id -> kJ, flatten_append -> kK, length_zip -> lH, getElem_range -> lI, any_cons -> lJ, all_cons -> lK, drop_eq_nil_of_le -> me, length_range -> mz, mem_append_left -> nZ, getElem?_modify -> oe, zip_cons_cons -> pY, append_of_mem -> pZ, getElem_zip -> sP, perm_append_comm -> vg, getElem?_eq_none -> vh, find?_some -> vi, filter_nil -> vj, filter_map -> vk, contains_iff_mem -> vm, filterMap_cons -> xu, take_nil -> Am, map_take -> An, map_drop -> Ap, drop_nil -> As, pairwise_map -> A9, find?_append -> Ba, set_nil -> Ci, map_set -> Cj, take_append_of_le_length -> DT, lookup_cons -> DU, of_mem_zip -> GK, mem_or_eq_of_mem_set -> JA, drop_left -> JC, length_erase_of_mem -> Ld, pairwise_mergeSort -> MO, filter_cons_of_pos -> MP, filter_cons_of_neg -> MQ, eraseIdx_cons_zero -> MR, eraseIdx_cons_succ -> MS, take_of_length_le -> Ng, length_pos_of_mem -> Nh, set_getElem_self -> Qy, mem_map -> Qz, replicate_succ' -> QQ, mem_of_mem_drop -> QR, mem_erase_of_ne -> QS
open List.Pairwise renaming of_map -> DW, map -> Hr
open List.Perm renaming swap -> lM, append -> yh, cons -> Ck, eq_of_pairwise -> DV
open List.Sublist renaming map -> lL, nodup -> nq
open Nat renaming le_refl -> aC, le_trans -> bw, ne_of_lt -> bB, lt_of_lt_of_le -> bM, zero_le -> cw, lt_of_le_of_lt -> hW, lt_irrefl -> iQ, pow_le_pow_right -> kc, mul_le_mul_right -> kd, add_assoc -> oB, not_lt_zero -> oV, add_sub_cancel_left -> sO, succ_le_succ -> tP, lt_succ_self -> tQ, le_add_right -> tR, lt_of_succ_lt_succ -> tU, le_of_succ_le_succ -> tV, lt_succ_of_lt -> Cg, le_succ -> Hq, pow_succ -> QN, le_of_lt -> QO, add_zero -> QP
open Ne renaming symm -> e7
open Option renaming getD_some -> kb, map_some -> tO, isSome_map -> Aj, getD_none -> A8
open Option.some renaming inj -> a8, injEq -> Lc
open PyProof.Rows renaming callWith_type1 -> fU, IntsAre -> mK, slot_tuple_getitem -> ve, callWith_builtin1 -> vt, seqObj -> x6, envOfC -> A6, AllBare -> Cm
open PySem renaming wpAny_bind -> ag, Shared -> az, wpAny_pure -> aA, sizeLine -> aZ, Program -> bI, mainGlobals -> bW, starEach -> bY, wpAny_loadPart' -> bZ, sizeLine_eq -> cF, wpAny_call_entry -> cX, wpAny_newObj_type -> cZ, sysModules -> da, Around -> dI, wpAny_holding -> eu, bootBuiltins -> eK, compareOp -> fb, DictEntry -> fE, FuncData -> gm, wpAny_dictEntries -> gN, ReadsAll -> gY, mem_of_lookup -> iL, tupleKind -> iP, wpAny_typeNameOfWhole_itemiter -> jc, wpAny_callSpecial?_slot -> jg, binaryOp -> jh, wpAny_typeNameOfWhole_keyiter -> jw, wpAny_Call_Name_kw -> jV, wpAny_passesOwn -> j9, Paired -> kH, wpAny_typeNameOf_itemiter -> lh, wpAny_forIn_list -> lF, wpAny_typeNameOf_keyiter -> lW, wpAny_setField_rec -> mH, wpAny_dictEpoch -> mI, tupleKind_room_in1 -> mJ, wpAny_isOneOf_itemiter -> nE, wpAny_truthy_bool -> nV, wpAny_pyIter_slot -> nW, foldedSetIterable -> nX, valueAt -> nY, IsItemIter -> og, wpAny_fieldsOf -> oz, wpAny_isInstance -> oT, plainId_quiet -> pW, wpAny_field -> qi, sliceBounds -> qj, richCompare -> qk, codeAny_builtin -> qm, argBest -> qo, NameKind -> sy, wpAny_seqItems -> sM, wpAny_letGo -> vo, wpAny_Call_method0_late -> vp, pyNext -> wy, backTo -> wz, richCompare_meets_room -> xh, evalArgs_none -> xi, wpAny_updateSeq -> xW, wpAny_specialOf -> xX, wpAny_notOrdered_dict -> xY, wpAny_execs_nil -> xZ, letOwnedTupleGo -> x8, isSubtype_tuple_tuple -> yd, importedModules -> ye, call_meetsIn -> yf, assignEach -> Ah, wpAny_tryCatch -> A4, firstArgMember -> A5, codeAny -> Ce, wpAny_tupleItemsOf -> D6, wpAny_standAt -> D7, wpAny_attempt -> D8, rawInt -> D9, pyIter -> Ea, attributeBase -> Eb, HeapKind -> Ed, wpAny_truthy_dict -> Hb, wpAny_mono -> Hd, storedH -> He, relabel -> Hf, intKind -> Hg, holding -> Hh, callerA -> Hi, call_meets -> Hj, wpAny_callSpecialIfBound?_slot -> Jt, assign -> Ju, call -> Jv, wpAny_letOwnedTupleGo_items -> M8, valueAt -> M9, swapsWith -> Na, eqIsQuiet -> Nc, wpAny_setField -> QM
open PySem.Around renaming under_plainId -> jW
open PySem.AutoSeq1 renaming sub_tuple_tuple -> pK, sub_list_list -> Hw
open PySem.Builtin.Builtins renaming bindParams -> vn
open PySem.Builtin.Dict renaming showsAll -> kU, takeOut -> Eg
open PySem.Builtin.Dict_items renaming ownsTuple -> fy, ownedTupleIsFree -> iZ, ownedTupleFields -> pJ, pairFromOwner -> qu
open PySem.Builtin.Int renaming intBits -> Hv
open PySem.Builtin.List renaming listTooLong -> jO
open PySem.Builtin.Slice renaming slicePlaces -> jm, sliceAdjust -> nu, sliceApplied -> xA
open PySem.Builtin.Tuple renaming tupleHashOf -> dU, tupleExact -> jH, tupleCompareSizes -> tW, tupleItemsOf -> xx
open PySem.Calls renaming callWith_builtin -> lX, spliced_cons -> pI, spliced_nil -> Ay, Name_function_global -> GP
open PySem.Challenge renaming rw_knotwise_k61_whole_switched_reflected -> aW
open PySem.F renaming plainAttrs_list -> dc, plainAttrs_dict -> df, type_list_append -> eM, slot_list_append -> eP, slot_dict_items -> fW, slot_dict_get -> gO, slot_dict_itemiterator_next -> jj, slot_dict_itemiterator_iter -> jk, plain_min_loop -> jl, slot_dict_keyiterator_next -> jG, type_dict_get -> l0, slot_tuple_lt -> md, args_dict_items_1 -> oU, entry_dict_items -> pX, type_dict_items -> qr, args_tuple_lt_2 -> qt, entry_tuple_lt -> se, slot_dict_pop -> sN, slot_list_lt -> tT, args_dict_itemiterator_next_1 -> Ee, args_dict_itemiterator_iter_1 -> Ef, args_tuple_add_2 -> GJ, entry_dict_itemiterator_next -> GL, args_dict_keyiterator_next_1 -> GN, slot_list_index -> Hm, entry_tuple_add -> Hn, args_dict_get_3 -> Ho, entry_min_loop -> Ht, entry_dict_keyiterator_next -> Hu, slot_tuple_add -> Jx, entry_dict_get -> Jy, args_list_lt_2 -> Jz, slot_dict_keyiterator_iter -> JG, type_dict_pop -> La, entry_list_lt -> Lb
open PySem.Heap renaming get?_push_of_some -> aH, lt_size -> aS, get?_push_size -> bh, get?_update_other -> dB, SameBut -> fL, get?_update_self -> jE, size_push -> mL, size_update -> DY, get?_none_of_le -> QT
open PySem.Heap.SameBut renaming update -> jF
open PySem.NameKind renaming free -> kI
open PySem.Obj renaming mapSeq -> jd
open PySem.Paired renaming length -> iI, snoc -> Qx
open PySem.PassesOwn renaming never -> aY
open PySem.PyData renaming depthAll -> b9, eqv -> qf
open PySem.SeqAt renaming items_eqAt -> nk, any_by_data -> qp, readOf -> A7
open PySem.Str renaming ofString -> vr
open PySem.Value renaming int -> fi, ref -> fV, none -> gn, isInt -> sd
open PySem.W renaming Frag -> au, nsIn -> gf, kas_rev -> gS, kia_one -> ji, kas_place -> ka, fnOf -> kD, kas_desc -> lG, kas_asc -> ql, keepIn -> vd, kas_descPart -> yc, methodObj -> yg, OpenLaw -> Cf, codeIn -> Ec, boot_drawn -> Hk, cellsFrom_some -> Jw, kas_tail3 -> Nb, boot_toks -> Nd, boot_heap -> Nf, callWith_K -> Qw
open PySem.W.KasT renaming ret -> vw
open Sum renaming inl -> vq, inr -> Hl
open True renaming intro -> gq
set_option Elab.async false
set_option linter.all false
set_option maxRecDepth 100000
set_option maxHeartbeats 4000000
set_option genSizeOf false
set_option genInjectivity false
set_option compiler.extract_closed false
namespace Internal
theorem Ad(h:0=0:=by decide):0=0:=h
theorem Ae(h:0=0:=by first | rfl | decide):0=0:=h
theorem Af(h:0=0:=by first | k_is | rfl):0=0:=h
theorem Ai(h:0=0:=by intro _; rfl):0=0:=h
theorem Ak(h:0=0:=by decide +kernel):0=0:=h
theorem Al(h:0=0:=by intro _ _ _ _ h; repeat (first | (cases h.1; rfl) | (cases h <;> rename_i h))):0=0:=h
theorem Ao(h:0=0:=by first | exact .inl rfl | exact .inr rfl | exact .inr (.inl rfl) | exact .inr (.inr rfl) | assumption):0=0:=h
theorem Aq(h:0=0:=by k_is):0=0:=h
theorem Ar(h:0=0:=by rfl):0=0:=h
theorem Aua(h:0=0:=by exact scm):0=0:=h
theorem Aub(h:0=0:=by intro _ _ _ _ _ _ us hl; rcases us with _ | ⟨_,_ | ⟨_,_ | ⟨_,_ | ⟨_,_ | ⟨_,_⟩⟩⟩⟩⟩ <;> first | rfl | (simp at hl; done)):0=0:=h
theorem M6(h:0=0:=by show _=_; k_is):0=0:=h
namespace L2
open PySem PySem.Spec PyProof.Rows
noncomputable abbrev Key:=Sum Int Str
noncomputable def BC:Key->Value->Bool
 | .inl k,v=>sd k v
 | .inr x,v=>Value.isStrOf x v
noncomputable def Zj(w:World):Key->Int
 | .inl k=>hashInt k
 | .inr x=>hashStr w x
theorem eX:∀ {k:Key} {v:Value},BC k v=true->(∃ i t,k=vq i/\v=fi i t)\/(∃ x t,k=Hl x/\v=Value.str x t)
 | .inl i,v,h=>by
  obtain⟨t,e⟩:=Value.isInt_shape (k:=i) (v:=v) h;exact .inl ⟨i,t,rfl,e⟩
 | .inr x,v,h=>by
  obtain⟨t,e⟩:=Value.isStrOf_shape (x:=x) (v:=v) h;exact .inr ⟨x,t,rfl,e⟩
theorem L5(i:Int)(t:Tok):BC (.inl i) (.int i t)=true:=by simp [BC,sd]
theorem L4(x:Str)(t:Tok):BC (.inr x) (.str x t)=true:=by simp [BC,Value.isStrOf]
theorem OT(a b:Int):decide ((vq a:Key)=vq b)=(a == b):=by
 by_cases e:a=b
 ·subst e; simp
 ·have h:¬ (vq a:Key)=vq b:=fun q=>e (Sum.inl.inj q);rw [decide_eq_false h];exact(beq_eq_false_iff_ne.mpr e).symm
theorem OS(a b:Str):decide ((Hl a:Key)=Hl b)=decide (a=b):=by
 by_cases e:a=b
 ·subst e; simp
 ·have h:¬ (Hl a:Key)=Hl b:=fun q=>e (Sum.inr.inj q);rw [decide_eq_false h,decide_eq_false e]
theorem UR(a:Int)(b:Str):decide ((vq a:Key)=Hl b)=false:=decide_eq_false (fun q=>nomatch q)
theorem UQ(a:Str)(b:Int):decide ((Hl a:Key)=vq b)=false:=decide_eq_false (fun q=>nomatch q)
noncomputable def cC(prog:bI)(w:World):PySem.KeyKind prog w Key where
 is:=BC
 hash:=Zj w
 inj:=fun v a b ha hb=>by
  rcases eX ha with ⟨i,t,rfl,rfl⟩ | ⟨x,t,rfl,rfl⟩
  ·rcases eX hb with ⟨j,u,rfl,e⟩ | ⟨y,u,rfl,e⟩
   ·injection e with e1 _; rw [e1]
   ·exact nomatch e
  ·rcases eX hb with ⟨j,u,rfl,e⟩ | ⟨y,u,rfl,e⟩
   ·exact nomatch e
   ·injection e with e1 _; rw [e1]
 byValue:=fun k v h=>by
  rcases eX h with ⟨i,t,rfl,rfl⟩ | ⟨x,t,rfl,rfl⟩ <;> rfl
 pyHash:=fun hv h=>by
  rcases eX hv with ⟨i,t,rfl,rfl⟩ | ⟨x,t,rfl,rfl⟩
  ·exact wpAny_pyHash_int h
  ·exact wpAny_pyHash_str h
 eqBool:=fun hu hv h=>by
  rcases eX hu with ⟨i,t,rfl,rfl⟩ | ⟨x,t,rfl,rfl⟩
  ·rcases eX hv with ⟨j,u,rfl,rfl⟩ | ⟨y,u,rfl,rfl⟩
   ·rw [OT] at h; exact wpAny_eqBool_int h
   ·rw [UR] at h; exact SeqAt.EqAt.int_str i t y u _ _ _ _ h
  ·rcases eX hv with ⟨j,u,rfl,rfl⟩ | ⟨y,u,rfl,rfl⟩
   ·rw [UQ] at h; exact SeqAt.EqAt.str_int x t j u _ _ _ _ h
   ·rw [OS] at h; exact wpAny_eqBool_str h
 «strs»:=fun k x t v h=>by
  rcases eX h with ⟨i,u,rfl,e⟩ | ⟨y,u,rfl,e⟩
  ·exact nomatch e
  ·injection e with e1 _
   subst e1;cases v <;> rfl
theorem Fe(prog:bI)(w:World)(i:Int)(t:Tok):(cC prog w).is (.inl i) (.int i t)=true:=L5 i t
theorem Fd(prog:bI)(w:World)(x:Str)(t:Tok):(cC prog w).is (.inr x) (.str x t)=true:=L4 x t
inductive V where
 | eQ | bl (b:Bool) | int (i:Int) | str (x:Str) | Vo (b:Array UInt8) | flt (b:UInt64) | ref (a:Addr) | ty (n:String)
noncomputable def RelV:V->Value->Prop
 | .eQ,u=>u=gn
 | .bl b,u=>u=Value.bool b
 | .int i,u=>∃ t,u=fi i t
 | .str x,u=>∃ t,u=Value.str x t
 | .Vo b,u=>∃ t,u=Value.bytes b t
 | .flt b,u=>∃ t,u=Value.float b t
 | .ref a,u=>u=fV a
 | .ty n,u=>u=Value.type n
noncomputable abbrev Vals:List V->List Value->Prop:=kH RelV
theorem Vals.length{xs:List V}{us:List Value}(r:Vals xs us):xs.length=us.length:=iI r
theorem Vals.get:∀ {xs:List V} {us:List Value} {i:Nat} {x:V},Vals xs us->xs[i]?=some x->∃ u,us[i]?=some u/\RelV x u:=by
 intro xs us i x h;induction h generalizing i with
 | nil=>intro e; cases e
 | cons r t ih =>
  intro e;cases i with
  | zero=>cases e; exact⟨_,rfl,r⟩
  | succ i=>exact ih e
theorem Vals.set{x:V}{u:Value}(r:RelV x u):∀ {xs:List V} {us:List Value} (i:Nat),Vals xs us->Vals (xs.set i x) (us.set i u):=by
 intro xs us i h;induction h generalizing i with
 | nil=>rw [Ci,Ci]; exact .nil
 | cons q t ih =>
  cases i with
  | zero=>exact .cons r t
  | succ i=>exact .cons q (ih i)
theorem Vals.append:∀ {xs ys:List V} {us ws:List Value},Vals xs us->Vals ys ws->Vals (xs++ys) (us++ws):=by
 intro xs ys us ws h s;induction h with
 | nil=>exact s
 | cons r t ih=>exact .cons r ih
theorem Vals.take:∀ {xs:List V} {us:List Value} (n:Nat),Vals xs us->Vals (xs.take n) (us.take n):=by
 intro xs us n h;induction h generalizing n with
 | nil=>rw [Am,Am]; exact .nil
 | cons r t ih =>
  cases n with
  | zero=>exact .nil
  | succ n=>exact .cons r (ih n)
theorem Vals.drop:∀ {xs:List V} {us:List Value} (n:Nat),Vals xs us->Vals (xs.drop n) (us.drop n):=by
 intro xs us n h;induction h generalizing n with
 | nil=>rw [As,As]; exact .nil
 | cons r t ih =>
  cases n with
  | zero=>exact .cons r t
  | succ n=>exact ih n
noncomputable def wj:Option V->Option Value->Prop
 | some v,some u=>RelV v u
 | none,none=>True
 | _,_=>False
noncomputable def KV{κ:Type}:List (κ×V)->List (κ×Value)->Prop:=kH fun (p:κ×V) (q:κ×Value)=>p.1=q.1/\RelV p.2 q.2
noncomputable def kV:Key->V
 | .inl i=>.int i
 | .inr x=>.str x
inductive HO where
 | lst (xs:List V)
 | tup (xs:List V)
 | dK (kvs:List (Key×V)) | dT (kvs:List (List Key×V))
 | set (S:Int->Bool) (n:Nat)
 | ins (C dx:Addr) (fs:List (Str×V))
 | own (x:Addr)
 | xd (fs:List (Str×V))
 | met (f x:Addr)
 | XX (lo hi:Int)
 | ja (o:Obj) (u:HO)
 | SI (q:Str)
 | ext (φ:Heap->Prop)
noncomputable abbrev Hp:=Addr->Option HO
noncomputable def upd(H:Hp)(a:Addr)(o:HO):Hp:=fun b=>if b=a then some o else H b
theorem bU{H:Hp}{a:Addr}{o:HO}:upd H a o a=some o:=by unfold upd; rw [if_pos rfl]
theorem bO{H:Hp}{a b:Addr}{o:HO}(h:b≠a):upd H a o b=H b:=by unfold upd; rw [if_neg h]
theorem S4{H:Hp}{a b:Addr}{o u:HO}(h:H a=some o)(h':H b=some u)(d:o≠u):a≠b:=by
 intro e; subst e; rw [h] at h'; exact d (a8 h')
theorem dQ{H:Hp}{a b:Addr}{o:HO}(h:H a=some o)(h':H b=none):a≠b:=by
 intro e; subst e; rw [h] at h'; cases h'
section
variable (P:bI) (w:World)
noncomputable def fH(H:Hp)(h:Heap)(a:Addr):HO->Prop
 | .lst xs=>xs.length<=aZ/\∃ (bH:List Value) (n:Nat),Vals xs bH/\h.get? a=some { cls:=.type "list",data:=.seq bH.toArray n }
 | .tup xs=>xs.length<=aZ/\∃ bH:List Value,Vals xs bH/\IsTup h a bH.toArray
 | .dK kvs=>kvs.length<=aZ/\(a == da)=false/\∃ vs,KV kvs vs/\h.DictOf (cC P w) a vs
 | .dT kvs=>kvs.length<=aZ/\(a == da)=false/\∃ xs:List (List Key×Addr×Value),
   kH (fun (p:List Key×V) (q:List Key×Addr×Value)=>p.1=q.1/\H q.2.1=some (.tup (p.1.map kV))/\RelV p.2 q.2.2) kvs xs /\
   ∃ o es ep,h.get? a=some o/\o.ExactDict/\o.data=.dict es ep/\es.toList=xs.map (entryOfKey (iP (cC P w)))/\(xs.map (·.1)).Nodup
 | .set S n=>h.SetOf (Hg P w) a S n
 | .ins C dx fs=>H dx=some (.own a)/\fs.length<=1000/\dx≠a/\h.get? a=some (PySem.W.instObj C dx) /\
   ∃ mA,h.Ns1 dx mA/\(∀ f,wj (fs.lookup f) (mA f))/\PySem.Within mA (fs.map (·.1))
 | .own _=>∃ o,h.get? a=some o
 | .xd fs=>∃ mA,h.Ns1 a mA/\∀ f,wj (fs.lookup f) (mA f)
 | .XX lo hi=>∃ t u v,h.get? a=some { cls:=.type "range",data:=.fields #[.int lo t,.int hi u,.int 1 v] }
 | .ja o u=>h.get? a=some o/\fH H h a u
 | .SI q=>∃ ps,h.get? a=some { cls:=.none,data:=.fields ps }/\TriplesOk ps.toList/\∀ pos cv,codeAmong pos ps.toList=some cv->∃ c',cv=.ref c'/\H c'=some (.own a)/\h.CodeRec (.ref c') q
 | .met f x=>h.get? a=some (yg (.ref f) (.ref x))
 | .ext φ=>φ h/\(∃ o,h.get? a=some o)/\∀ h1 h2:Heap,φ h1->(∀ o,h1.get? a=some o->h2.get? a=some o)->φ h2
noncomputable def pV(H:Hp)(h:Heap):Prop:=∀ a o,H a=some o->fH P w H h a o
end
section
variable {P:bI} {w:World} {H H':Hp} {h h':Heap} {a:Addr} {o:HO}
theorem fH.lt(x:fH P w H h a o):a < h.objs.size:=by
 cases o with
 | lst xs=>obtain⟨_,_,_,_,e⟩:=x; exact aS e
 | tup xs=>obtain⟨_,_,_,p⟩:=x; exact p.lt
 | dK kvs=>obtain⟨_,_,_,_,o,_,_,e,_⟩:=x; exact aS e
 | dT kvs=>obtain⟨_,_,_,_,o,_,_,e,_⟩:=x; exact aS e
 | set S n=>obtain⟨o,_,_,_,e,_⟩:=x; exact aS e
 | ins C dx fs=>obtain⟨_,_,_,e,_⟩:=x; exact aS e
 | own y=>obtain⟨_,e⟩:=x; exact aS e
 | xd fs=>obtain⟨_,⟨_,_,_,e,_⟩,_⟩:=x; exact aS e
 | XX lo hi=>obtain⟨_,_,_,e⟩:=x; exact aS e
 | ja ob u=>obtain⟨e,_⟩:=x; exact aS e
 | SI q=>obtain⟨_,e,_⟩:=x; exact aS e
 | met f y=>exact aS (show h.get? a=some _ from x)
 | ext φ=>obtain⟨_,⟨_,e⟩,_⟩:=x; exact aS e
theorem Paired.UN{α β:Type}{F G:α->β->Prop}:∀ {l₁:List α} {l₂:List β},kH F l₁ l₂->(∀ a b,F a b->G a b)->kH G l₁ l₂:=by
 intro l₁ l₂ h f;induction h with
 | nil=>exact .nil
 | cons r t ih=>exact .cons (f _ _ r) ih
theorem fH.mi(x:fH P w H h a o)(k:∀ b u,(b=a\/H b=some (.own a))->h.get? b=some u->h'.get? b=some u)
  (ho:∀ b,H b=some (.own a)->H' b=some (.own a)) (ht:∀ b xs,H b=some (.tup xs)->H' b=some (.tup xs)):fH P w H' h' a o:=by
 induction o with
 | lst xs=>obtain⟨z,bH,n,r,e⟩:=x; exact⟨z,bH,n,r,k _ _ (.inl rfl) e⟩
 | tup xs=>obtain⟨z,bH,r,ob,e,c⟩:=x; exact⟨z,bH,r,ob,k _ _ (.inl rfl) e,c⟩
 | dK kvs=>obtain⟨z,y,vs,r,ob,es,ep,e,c⟩:=x; exact⟨z,y,vs,r,ob,es,ep,k _ _ (.inl rfl) e,c⟩
 | dT kvs =>
  obtain⟨z,y,xs,r,ob,es,ep,e,c⟩:=x;exact⟨z,y,xs,Paired.UN r fun p q z=>⟨z.1,ht _ _ z.2.1,z.2.2⟩,ob,es,ep,k _ _ (.inl rfl) e,c⟩
 | set S n=>obtain⟨ob,es,ep,t,e,c⟩:=x; exact⟨ob,es,ep,t,k _ _ (.inl rfl) e,c⟩
 | ins C dx fs =>
  obtain⟨d,z,ne,e,mA,⟨od,es,ep,e2,c⟩,r⟩:=x;exact⟨ho _ d,z,ne,k _ _ (.inl rfl) e,mA,⟨od,es,ep,k _ _ (.inr d) e2,c⟩,r⟩
 | own y=>obtain⟨ob,e⟩:=x; exact⟨ob,k _ _ (.inl rfl) e⟩
 | xd fs=>obtain⟨mA,⟨od,es,ep,e,c⟩,r⟩:=x; exact⟨mA,⟨od,es,ep,k _ _ (.inl rfl) e,c⟩,r⟩
 | XX lo hi=>obtain⟨t,u,v,e⟩:=x; exact⟨t,u,v,k _ _ (.inl rfl) e⟩
 | ja ob u ih=>obtain⟨e,q⟩:=x; exact⟨k _ _ (.inl rfl) e,ih q⟩
 | SI q =>
  obtain⟨ps,e,t,z⟩:=x;refine⟨ps,k _ _ (.inl rfl) e,t,fun pos cv y=>?_⟩;obtain⟨c',e1,e2,c2,oc,vs,tq,e3,e4,r⟩:=z pos cv y;cases e3;exact⟨c',e1,ho _ e2,c',oc,vs,tq,rfl,k _ _ (.inr e2) e4,r⟩
 | met f y =>
  have e:h.get? a=some (yg (.ref f) (.ref y)):=x;show h'.get? a=some (yg (.ref f) (.ref y));exact k a _ (.inl rfl) e
 | ext φ=>obtain⟨p,⟨o,e⟩,st⟩:=x; exact⟨st _ _ p fun o q=>k _ _ (.inl rfl) q,⟨o,k _ _ (.inl rfl) e⟩,st⟩
theorem pV.lt(x:pV P w H h)(e:H a=some o):a < h.objs.size:=(x a o e).lt
theorem pV.fresh(x:pV P w H h)(e:h.objs.size<=a):H a=none:=by
 cases q:H a with
 | none=>rfl
 | some u=>exact absurd (bM (x.lt q) e) (iQ _)
theorem pV.kept(x:pV P w H h)(k:∀ b u,h.get? b=some u->h'.get? b=some u):pV P w H h':=fun a o e =>
 (x a o e).mi (fun b u _ q=>k b u q) (fun _ q=>q) fun _ _ q=>q
theorem pV.laid(x:pV P w H h)(k:∀ b u,h.get? b=some u->h'.get? b=some u)(hp:h.objs.size<=a)(new:fH P w (upd H a o) h' a o):pV P w (upd H a o) h':=fun b u e=>by
 have hn:=x.fresh hp;by_cases hb:b=a
 ·subst hb; rw [bU] at e; cases e; exact new
 ·rw [bO hb] at e;exact(x b u e).mi (fun c v _ q=>k c v q) (fun c q=>by rw [bO (dQ q hn)]; exact q) fun c xs q=>by rw [bO (dQ q hn)]; exact q
end
noncomputable def Rd(H:Hp)(a:Addr)(u:HO):Prop:=H a=some u\/∃ o,H a=some (.ja o u)
theorem Rd.ok{P:bI}{w:World}{H:Hp}{h:Heap}{a:Addr}{u:HO}(r:Rd H a u)(x:pV P w H h):fH P w H h a u:=by
 rcases r with r | ⟨o,r⟩
 ·exact x a u r
 ·obtain⟨_,q⟩:=x a _ r;exact q
noncomputable def XE:Option HO->Prop
 | some (.lst _)=>True
 | some (.dK _)=>True
 | some (.dT _)=>True
 | some (.set _ _)=>True
 | some (.ins _ _ _)=>True
 | some (.ext _)=>True
 | _=>False
section
variable {P:bI} {w:World} {H:Hp} {h h':Heap} {x e:Addr} {o':HO}
theorem pV.write(ok:pV P w H h)(mu:XE (H x))(he:e=x\/H e=some (.own x))(k:∀ b u,b≠e->h.get? b=some u->h'.get? b=some u)(VO:∃ u,h'.get? e=some u)
  (new:fH P w (upd H x o') h' x o'):pV P w (upd H x o') h':=fun b u q=>by
 have Wu:∀ c y,H c=some (.own y)->c≠x:=fun c y r z=>by subst z; rw [r] at mu; exact mu
 have Y0:∀ c xs,H c=some (.tup xs)->c≠x:=fun c xs r z=>by subst z; rw [r] at mu; exact mu
 by_cases hb:b=x
 ·subst hb; rw [bU] at q; cases q; exact new
 ·rw [bO hb] at q;by_cases U7:b=e
  ·have q':H b=some (.own x):=by
    rcases he with z | z
    ·exact absurd (U7.trans z) hb
    ·rw [U7]; exact z
   rw [q] at q'; cases q';obtain⟨v,hv⟩:=VO;exact⟨v,by rw [U7]; exact hv⟩
  ·refine(ok b u q).mi (fun c v hc r=>k c v ?_ r) (fun c r=>by rw [bO (Wu c b r)]; exact r) fun c xs r=>by rw [bO (Y0 c xs r)]; exact r
   rcases hc with rfl | hc
   ·exact U7
   ·rintro rfl;rcases he with z | z
    ·exact Wu c b hc z
    ·rw [hc] at z; cases z; exact hb rfl
end
structure Un(fs ex:List Addr)(H H':Hp)(h h':Heap):Prop where
 keep:∀ b o,h.get? b=some o->H b=none->b∉fs->b∉ex->h'.get? b=some o
 slot:∀ b o,h.get? b=some o->H b=none->b∈fs->b∉ex->∃ sl,h'.get? b=some { o with slots:=sl }
 free:∀ b o,h.get? b=some o->H b=none->b∉ex->H' b=none
 there:∀ b o,h.get? b=some o->b∉ex->∃ o',h'.get? b=some o'
 vC:∀ b xs,H b=some (.tup xs)->H' b=some (.tup xs)
 uS:∀ b o u,H b=some (.ja o u)->H' b=some (.ja o u)
 vD:∀ b q,H b=some (.SI q)->H' b=some (.SI q)
 vR:∀ b x,H b=some (.own x)->H' b=some (.own x)
section
variable {fs fs' ex ex':List Addr} {H H1 H2:Hp} {h h1 h2 h':Heap} {a x e:Addr} {o:HO}
theorem Un.any(u:Un fs ex H H1 h h1){b:Addr}{ob:Obj}(q:h.get? b=some ob)(n:H b=none)(hx:b∉ex):∃ sl,h1.get? b=some { ob with slots:=sl }:=by
 by_cases hb:b∈fs
 ·exact u.slot b ob q n hb hx
 ·exact⟨ob.slots,u.keep b ob q n hb hx⟩
theorem Un.kept(k:∀ b u,h.get? b=some u->h'.get? b=some u):Un fs ex H H h h' :=
 ⟨fun b ob q _ _ _=>k b ob q,fun b ob q _ _ _=>⟨ob.slots,k b ob q⟩,fun _ _ _ n _=>n,fun b ob q _=>⟨ob,k b ob q⟩,fun _ _ q=>q,fun _ _ _ q=>q,fun _ _ q=>q,fun _ _ q=>q⟩
theorem Un.refl:Un fs ex H H h h:=Un.kept fun _ _ q=>q
theorem Un.laid(k:∀ b u,h.get? b=some u->h'.get? b=some u)(hp:h.objs.size<=a)(hn:H a=none):Un fs ex H (upd H a o) h h' where
 keep:=fun b u q _ _ _=>k b u q
 slot:=fun b u q _ _ _=>⟨u.slots,k b u q⟩
 free:=fun b u q n _=>by rw [bO (bB (bM (aS q) hp))]; exact n
 there:=fun b u q _=>⟨u,k b u q⟩
 vC:=fun b xs q=>by rw [bO (dQ q hn)]; exact q
 uS:=fun b u xs q=>by rw [bO (dQ q hn)]; exact q
 vD:=fun b ps q=>by rw [bO (dQ q hn)]; exact q
 vR:=fun b ps q=>by rw [bO (dQ q hn)]; exact q
theorem Un.write(mu:XE (H x))(he:e=x\/H e=some (.own x))(k:∀ b u,b≠e->h.get? b=some u->h'.get? b=some u)(VO:∃ u,h'.get? e=some u):Un fs ex H (upd H x o) h h':=by
 have hx:∀ b,H b=none->b≠x:=fun b n z=>by subst z; rw [n] at mu; exact mu
 have hb:∀ b,H b=none->b≠e:=fun b n z=>by
  subst z;rcases he with r | r
  ·exact hx b n r
  ·rw [n] at r; cases r
 have hm:∀ b u,H b=some u->¬ XE (some u)->b≠x:=fun b u q nm z=>by subst z; rw [q] at mu; exact nm mu
 refine⟨fun b u q n _ _=>k b u (hb b n) q,fun b u q n _ _=>⟨u.slots,k b u (hb b n) q⟩,fun b u q n _=>by rw [bO (hx b n)]; exact n,fun b u q _=>?_,
  fun b xs q=>by rw [bO (hm b _ q fun z=>z)]; exact q,fun b u xs q=>by rw [bO (hm b _ q fun z=>z)]; exact q,fun b ps q=>by rw [bO (hm b _ q fun z=>z)]; exact q,fun b ps q=>by rw [bO (hm b _ q fun z=>z)]; exact q⟩
 by_cases U7:b=e
 ·subst U7; exact VO
 ·exact⟨u,k b u U7 q⟩
end
noncomputable def XO(h:Heap)(H:Hp):List Addr:=(ez h.objs.size).filter fun a=>(H a).isSome
noncomputable def C1(h:Heap)(H:Hp):Heap:=PySem.W.hideAll h (XO h H)
theorem Me(h:Heap)(H:Hp):(C1 h H).objs.size=h.objs.size:=PySem.W.hideAll_size _ _
theorem Pk{h:Heap}{H:Hp}{b:Addr}{o:Obj}(e:h.get? b=some o)(n:H b=none):(C1 h H).get? b=some o :=
 PySem.W.hideAll_get _ e fun hm=>by
  have q:(H b).isSome=true:=(List.mem_filter.mp hm).2;rw [n] at q; simp at q
theorem RL{h:Heap}{H:Hp}{b:Addr}{o:Obj}(e:(C1 h H).get? b=some o):h.get? b=some o/\H b=none:=by
 have e':h.get? b=some o:=PySem.W.of_hideAll (XO h H) e;refine⟨e',?_⟩;cases q:H b with
 | none=>rfl
 | some x =>
  have hm:b∈XO h H:=List.mem_filter.mpr ⟨List.mem_range.mpr (aS e'),by simp [q]⟩;have z:(C1 h H).get? b=none:=PySem.W.hideAll_none (XO h H) hm;rw [z] at e; cases e
noncomputable def rY(g h:Heap)(L:Addr):List (Addr×Obj):=(ez h.objs.size).filterMap fun a=>if a=L\/(g.get? a).isSome=true then none else (h.get? a).map fun o=>(a,o)
theorem wR{g h:Heap}{L a:Addr}{o:Obj}(h1:a≠L)(h2:g.get? a=none)(h3:h.get? a=some o):(a,o)∈rY g h L :=
 List.mem_filterMap.mpr ⟨a,List.mem_range.mpr (aS h3),by simp [h1,h2,h3]⟩
theorem yQ{g h:Heap}{L:Addr}{p:Addr×Obj}(hp:p∈rY g h L):p.1≠L/\g.get? p.1=none/\h.get? p.1=some p.2:=by
 obtain⟨b,_,e⟩:=List.mem_filterMap.mp hp;split at e
 ·cases e
 ·rename_i hn;cases q:h.get? b with
  | none=>rw [q] at e; simp at e
  | some u =>
   rw [q] at e;simp only [tO,Lc] at e;subst e;refine⟨fun z=>hn (.inl z),?_,q⟩;show g.get? b=none;cases r:g.get? b with
   | none=>rfl
   | some v=>exact(hn (.inr (by simp [r]))).elim
noncomputable def rest(g h:Heap)(L d:Addr):List (Addr×Obj):=(rY g h L).filter fun p=>decide (p.1≠d)
theorem E9{g h:Heap}{L:Addr}:News g L h (rY g h L):=fun p hp=>let ⟨a,b,c⟩:=yQ hp; ⟨c,a,b⟩
structure Mod(K:au)(mg:Str->Option Value)(base:Heap):Prop where
 WJ:K.In base
 glob:base.Ns bW mg
 blt:∃ mb,base.Ns builtinsNs mb/\∀ x:Str,x≠"__name__"->mb x=eK x
 nolimit:base.NoLimit
structure Cx where
 prog:bI
 w:World
 K:au
 mg:Str->Option Value
 base:Heap
 A:dI
 N:List Str
 ny:az
 Qr:Hp
 env:Env
 outer:List Env
 stack:List Env
 ex:List Addr
 fn:Str->Bool
 calm:Bool
 pn:List (Addr×Obj)
 xe:Value->az->Prop
noncomputable def M3(l:List Env):List Addr:=l.filterMap (·.frame)
noncomputable abbrev Cx.fs(X:Cx):List Addr:=M3 X.outer
noncomputable def Yn(sc:Scope)(x:Str):Prop:=sc.names.lookup x=some .local\/sc.names.lookup x=some .cell\/sc.names.lookup x=some .free
noncomputable def Loc(sc:Scope)(x:Str):Prop:=sc.names.lookup x=some .local\/sc.names.lookup x=some .cell
noncomputable def Look(env:Env)(h:Heap)(m:Str->Option Value)(x:Str)(u:Value):Prop :=
 (env.kindOf x=some .local/\m x=some u)\/((env.kindOf x=some .cell\/env.kindOf x=some .free)/\∃ c,env.cells.lookup x=some c/\h.IsCell c (some u))
structure Cx.Ok(X:Cx):Prop where
 mod:Mod X.K X.mg X.base
 kind:X.env.scope.kind=.function
 glob:X.env.globals=bW
 blt:X.env.builtins=builtinsNs
 above:X.ny.heap.objs.size<=X.env.locals
 inj:∀ x y c,X.env.cells.lookup x=some c->X.env.cells.lookup y=some c->x=y
 has:∀ x,(X.env.kindOf x=some .cell\/X.env.kindOf x=some .free)->∃ c,X.env.cells.lookup x=some c
 Xv:∀ x c,X.fn x=true->X.env.cells.lookup x=some c->X.ny.heap.objs.size<=c
 hd:X.calm=true->X.A.handled=none
 frames:X.A.frames=some X.stack
 XT:X.stack=X.outer\/(X.stack=X.env :: X.outer/\X.env.frame=some X.env.locals)
 Yk:∀ b∈X.ex,b≠X.env.locals/\∀ x c,X.env.cells.lookup x=some c->c≠b
 bs:∀ b o,X.base.get? b=some o->X.ny.heap.get? b=some o/\X.Qr b=none
 Sr:X.base.objs.size<=X.ny.heap.objs.size
 LL:∀ b o,X.base.get? b=some o->b∉X.ex
 PF:∀ b∈X.ex,b∉X.fs
 zt:X.ny.heap.FunFrames X.base X.outer
 VQ:∀ b∈X.fs,X.Qr b=none
structure Inv(X:Cx)(pins:List (Addr×Obj))(σ:List (Option V))(H:Hp)(s:az):Prop where
 ok:X.Ok
 os:s.os=X.ny.os
 bare:Cm s.gens
 base:Un X.fs X.ex X.Qr H X.ny.heap s.heap
 loc:∃ m,s.heap.Ns X.env.locals m/\∀ (i:Nat) (x:Str) (v:V),X.N[i]?=some x->σ[i]?=some (some v)->Yn X.env.scope x->∃ u,RelV v u/\Look X.env s.heap m x u
 cell:∀ x c,X.env.cells.lookup x=some c->∃ v,s.heap.IsCell c v
 free:H X.env.locals=none
 mZ:∀ x c,X.env.cells.lookup x=some c->H c=none
 pin:∀ p∈X.pn++pins,s.heap.get? p.1=some p.2/\H p.1=none/\p.1≠X.env.locals/\p.1∉X.fs/\∀ v,p.2.data≠.cell v
 cn:pV X.prog X.w H s.heap
 len:σ.length=X.N.length
section
variable {X:Cx} {pins:List (Addr×Obj)} {σ:List (Option V)} {H H':Hp} {s:az} {h':Heap}
theorem Cx.Ok.Y2(ok:X.Ok){b:Addr}{o:Obj}(e:X.base.get? b=some o):b∉X.fs:=fun hb=>by
 have:=(ok.zt.mem hb).1;rw [e] at this; cases this
theorem Inv.bs(I:Inv X pins σ H s):∀ b o,X.base.get? b=some o->s.heap.get? b=some o/\H b=none:=fun b o e =>
 ⟨I.base.keep b o (I.ok.bs b o e).1 (I.ok.bs b o e).2 (I.ok.Y2 e) (I.ok.LL b o e),I.base.free b o (I.ok.bs b o e).1 (I.ok.bs b o e).2 (I.ok.LL b o e)⟩
theorem Inv.bk(I:Inv X pins σ H s):∀ b o,X.base.get? b=some o->s.heap.get? b=some o:=fun b o e=>(I.bs b o e).1
theorem Inv.mod(I:Inv X pins σ H s):Mod X.K X.mg X.base:=I.ok.mod
theorem Inv.Ip(I:Inv X pins σ H s):X.K.In s.heap:=I.ok.mod.WJ.keeps I.bk
theorem Inv.fr(I:Inv X pins σ H s):∃ m,Fr X.base X.env.locals s.heap m :=
 let ⟨m,hn,_⟩:=I.loc
 ⟨m,hn,I.bk,bw I.ok.Sr I.ok.above⟩
theorem Inv.lt(I:Inv X pins σ H s):X.env.locals < s.heap.objs.size:=let ⟨_,hn,_⟩:=I.loc; hn.lt
theorem Inv.sz(I:Inv X pins σ H s):X.ny.heap.objs.size<=s.heap.objs.size:=bw I.ok.above (QO I.lt)
theorem Inv.Y1(I:Inv X pins σ H s){a:Addr}(h:s.heap.objs.size<=a):a∉X.fs:=fun hb=>by
 obtain⟨_,o,ho,_⟩:=I.ok.zt.mem hb;exact absurd (bM (aS ho) (bw I.sz h)) (iQ _)
theorem Inv.Vl(I:Inv X pins σ H s):∀ x c,X.env.cells.lookup x=some c->c≠X.env.locals:=fun x c e z=>by
 obtain⟨v,o,ho,hd⟩:=I.cell x c e;obtain⟨m,⟨o',es,ep,D0,Av,_⟩,_⟩:=I.loc;rw [z,D0] at ho; cases ho; rw [Av] at hd; cases hd
theorem Inv.zt(I:Inv X pins σ H s):s.heap.FunFrames X.base X.outer:=by
 have all:∀ (l:List Env),(∀ b∈M3 l,b∈X.fs)->X.ny.heap.FunFrames X.base l->s.heap.FunFrames X.base l:=by
  intro l;induction l with
  | nil=>intro _ _; trivial
  | cons env r ih =>
   intro hs hl;obtain⟨hk,⟨L,o,hf,hn,ho,hd⟩,hr⟩:=hl;have hL:L∈X.fs:=hs L (by unfold M3; rw [xu,hf]; exact cp);obtain⟨sl,e⟩:=I.base.slot L o ho (I.ok.VQ L hL) hL fun z=>I.ok.PF L z hL;exact⟨hk,⟨L,_,hf,hn,e,hd⟩,ih (fun b hb=>hs b (by unfold M3; rw [xu,hf]; exact aL _ hb)) hr⟩
 exact all X.outer (fun _ hb=>hb) I.ok.zt
theorem Inv.stack(I:Inv X pins σ H s):s.heap.FunFrames X.base X.stack:=by
 rcases I.ok.XT with e | ⟨e,hf⟩
 ·rw [e]; exact I.zt
 ·rw [e];obtain⟨m,hn,_⟩:=I.loc;refine .cons (by rw [I.ok.kind]; decide) hf hn ?_ I.zt;exact QT (bw I.ok.Sr I.ok.above)
theorem Inv.HE(I:Inv X pins σ H s):∀ b∈M3 X.stack,b∈X.env.locals :: X.fs:=fun b hb=>by
 rcases I.ok.XT with e | ⟨e,hf⟩
 ·rw [e] at hb; exact aL _ hb
 ·rw [e] at hb;unfold M3 at hb;rw [xu,hf] at hb;exact hb
theorem Inv.JR(I:Inv X pins σ H s):∀ b∈M3 X.stack,H b=none:=fun b hb=>by
 rcases List.mem_cons.mp (I.HE b hb) with e | hb
 ·rw [e]; exact I.free
 ·obtain⟨_,o,ho,_⟩:=I.ok.zt.mem hb;exact I.base.free b o ho (I.ok.VQ b hb) fun z=>I.ok.PF b z hb
theorem Inv.step{g':Array GenState}{t':Nat}{d':Drawn}{ch:List Addr}(I:Inv X pins σ H s)
  (Tt:∀ b∈ch,(b∈X.ex\/X.ny.heap.objs.size<=b)/\b≠X.env.locals/\(∀ x c,X.env.cells.lookup x=some c->c≠b)/\∀ p∈X.pn++pins,p.1≠b)
  (keep:∀ b o,b≠X.env.locals->b∉X.fs->b∉ch->s.heap.get? b=some o->H b=none->h'.get? b=some o)
  (slot:∀ b o,b≠X.env.locals->b∈X.fs->b∉ch->s.heap.get? b=some o->H b=none->∃ sl,h'.get? b=some { o with slots:=sl }) (free:∀ b o,b∉ch->s.heap.get? b=some o->H b=none->H' b=none)
  (there:∀ b o,b∉ch->s.heap.get? b=some o->∃ o',h'.get? b=some o')
  (vC:∀ b xs,H b=some (.tup xs)->H' b=some (.tup xs)) (uS:∀ b o u,H b=some (.ja o u)->H' b=some (.ja o u)) (vD:∀ b q,H b=some (.SI q)->H' b=some (.SI q)) (vR:∀ b x,H b=some (.own x)->H' b=some (.own x))
  (ns:∀ m,s.heap.Ns X.env.locals m->h'.Ns X.env.locals m) (cn:pV X.prog X.w H' h') (hg:Cm g') :
  Inv X pins σ H' { s with heap:=h',gens:=g',drawn:=d',toks:=t' }:=by
 have neL:∀ b o,X.ny.heap.get? b=some o->b≠X.env.locals:=fun b o e=>bB (bM (aS e) I.ok.above);have X5:∀ b o,X.ny.heap.get? b=some o->b∉X.ex->b∉ch:=fun b o e hx hb=>by
  rcases (Tt b hb).1 with z | z
  ·exact hx z
  ·exact absurd (bM (aS e) z) (iQ _)
 have cellK:∀ x c,X.env.cells.lookup x=some c->∀ v,s.heap.IsCell c v->h'.IsCell c v:=fun x c e v ⟨o,ho,hd⟩=>by
  have Wz:c∉ch:=fun z=>(Tt c z).2.2.1 x c e rfl;by_cases hc:c∈X.fs
  ·obtain⟨sl,q⟩:=slot c o (I.Vl x c e) hc Wz ho (I.mZ x c e);exact⟨_,q,hd⟩
  ·exact⟨o,keep c o (I.Vl x c e) hc Wz ho (I.mZ x c e),hd⟩
 refine⟨I.ok,I.os,hg,⟨fun b o e n hb hx=>?_,fun b o e n hb hx=>?_,fun b o e n hx=>?_,fun b o e hx=>?_,fun b xs e=>vC b xs (I.base.vC b xs e),fun b o xs e=>uS b o xs (I.base.uS b o xs e),fun b ps e=>?_,fun b x e=>vR b x (I.base.vR b x e)⟩,?_,fun x c e=>?_,?_,fun x c e=>?_,fun p hp=>?_,cn,I.len⟩
 ·exact keep b o (neL b o e) hb (X5 b o e hx) (I.base.keep b o e n hb hx) (I.base.free b o e n hx)
 ·obtain⟨sl,e1⟩:=I.base.slot b o e n hb hx;obtain⟨sl',e2⟩:=slot b _ (neL b o e) hb (X5 b o e hx) e1 (I.base.free b o e n hx);exact⟨sl',e2⟩
 ·obtain⟨o',e1⟩:=I.base.there b o e hx;exact free b o' (X5 b o e hx) e1 (I.base.free b o e n hx)
 ·obtain⟨o',e1⟩:=I.base.there b o e hx;exact there b o' (X5 b o e hx) e1
 ·exact vD b _ (I.base.vD b ps e)
 ·obtain⟨m,hn,hl⟩:=I.loc;refine⟨m,ns m hn,fun i x v e1 e2 e3=>?_⟩;obtain⟨u,r,l⟩:=hl i x v e1 e2 e3;refine⟨u,r,?_⟩;rcases l with l | ⟨k,c,e,z⟩
  ·exact .inl l
  ·exact .inr ⟨k,c,e,cellK x c e _ z⟩
 ·obtain⟨v,z⟩:=I.cell x c e;exact⟨v,cellK x c e v z⟩
 ·obtain⟨m,⟨o,_,_,ho,_⟩,_⟩:=I.loc;exact free _ o (fun z=>(Tt _ z).2.1 rfl) ho I.free
 ·obtain⟨v,o,ho,hd⟩:=I.cell x c e;exact free c o (fun z=>(Tt c z).2.2.1 x c e rfl) ho (I.mZ x c e)
 ·obtain⟨e,n,ne,nf,d⟩:=I.pin p hp;have Wz:p.1∉ch:=fun z=>(Tt p.1 z).2.2.2 p hp rfl;exact⟨keep p.1 p.2 ne nf Wz e n,free p.1 p.2 Wz e n,ne,nf,d⟩
theorem Inv.un{t':Nat}(I:Inv X pins σ H s)(u:Un X.fs [] H H' s.heap h')(cn:pV X.prog X.w H' h'):Inv X pins σ H' { s with heap:=h',toks:=t' }:=by
 obtain⟨m,⟨o,es,ep,ho,r⟩,_⟩:=id I.loc;obtain⟨sl,hL⟩:=u.any ho I.free (by simp);exact I.step (g':=s.gens) (d':=s.drawn) (ch:=[]) (fun _ z=>nomatch z) (fun b o _ hb _ e n=>u.keep b o e n hb (by simp)) (fun b o _ hb _ e n=>u.slot b o e n hb (by simp)) (fun b o _ e n=>u.free b o e n (by simp)) (fun b o _ e=>u.there b o e (by simp)) u.vC u.uS u.vD u.vR (fun m' hm=>by
  obtain⟨o',es',ep',D0,r'⟩:=hm;rw [ho] at D0; cases D0;exact⟨_,es',ep',hL,r'⟩) cn I.bare
theorem Inv.call{g':Array GenState}{t':Nat}{d':Drawn}{ch:List Addr}(I:Inv X pins σ H s)(u:Un (M3 X.stack) ch H H' s.heap h')(cn:pV X.prog X.w H' h')(hg:Cm g')
  (Tt:∀ b∈ch,(b∈X.ex\/X.ny.heap.objs.size<=b)/\b≠X.env.locals/\(∀ x c,X.env.cells.lookup x=some c->c≠b)/\∀ p∈X.pn++pins,p.1≠b) :
  Inv X pins σ H' { s with heap:=h',gens:=g',drawn:=d',toks:=t' }:=by
 obtain⟨m,⟨o,es,ep,ho,r⟩,_⟩:=id I.loc;obtain⟨sl,hL⟩:=u.any ho I.free fun z=>(Tt _ z).2.1 rfl;exact I.step (ch:=ch) Tt (fun b o hL hb hc e n=>u.keep b o e n (fun z=>(List.mem_cons.mp (I.HE b z)).elim hL hb) hc) (fun b o _ _ hc e n=>u.any e n hc) (fun b o hc e n=>u.free b o e n hc) (fun b o hc e=>u.there b o e hc) u.vC u.uS u.vD u.vR (fun m' hm=>by
  obtain⟨o',es',ep',D0,r'⟩:=hm;rw [ho] at D0; cases D0;exact⟨_,es',ep',hL,r'⟩) cn hg
theorem Inv.turned{t':Nat}{it:Addr}(I:Inv X pins σ H s)(k:∀ b o,b≠it->s.heap.get? b=some o->h'.get? b=some o)(hn:H it=none)(hL:it≠X.env.locals)
  (h1:it∈X.ex\/X.ny.heap.objs.size<=it) (h2:∀ x c,X.env.cells.lookup x=some c->c≠it) (h3:∀ p∈X.pn++pins,p.1≠it):Inv X pins σ H { s with heap:=h',toks:=t' }:=by
 have nit:∀ b u,H b=some u->b≠it:=fun b u e z=>by rw [z,hn] at e; cases e
 refine I.step (g':=s.gens) (d':=s.drawn) (ch:=[it]) (fun b hb=>?_) (fun b o _ _ hc e _=>k b o (fun z=>hc (by simp [z])) e) (fun b o _ _ hc e _=>⟨o.slots,k b o (fun z=>hc (by simp [z])) e⟩) (fun _ _ _ _ n=>n)
  (fun b o hc e=>⟨o,k b o (fun z=>hc (by simp [z])) e⟩) (fun _ _ e=>e) (fun _ _ _ e=>e) (fun _ _ e=>e) (fun _ _ e=>e) (fun m hm=>?_) (fun b u e=>?_) I.bare
 ·have e:b=it:=by simpa using hb
  subst e;exact⟨h1,hL,h2,h3⟩
 ·obtain⟨o,es,ep,ho,r⟩:=hm;exact⟨o,es,ep,k _ o (e7 hL) ho,r⟩
 ·refine(I.cn b u e).mi (fun c v hc q=>k c v ?_ q) (fun _ q=>q) fun _ _ q=>q;rcases hc with z | z
  ·rw [z]; exact nit b u e
  ·exact nit c _ z
theorem Inv.tok(I:Inv X pins σ H s)(t:Nat):Inv X pins σ H { s with toks:=t }:=I.un (h':=s.heap) (t':=t) Un.refl I.cn
theorem Inv.kept{t':Nat}(I:Inv X pins σ H s)(k:∀ b u,s.heap.get? b=some u->h'.get? b=some u):Inv X pins σ H { s with heap:=h',toks:=t' }:=I.un (Un.kept k) (I.cn.kept k)
theorem Inv.laid{a:Addr}{o:HO}{t':Nat}(I:Inv X pins σ H s)(k:∀ b u,s.heap.get? b=some u->h'.get? b=some u)(hp:s.heap.objs.size<=a)(new:fH X.prog X.w (upd H a o) h' a o) :
  Inv X pins σ (upd H a o) { s with heap:=h',toks:=t' }:=I.un (Un.laid k hp (I.cn.fresh hp)) (I.cn.laid k hp new)
theorem Inv.write{x e:Addr}{o:HO}{t':Nat}(I:Inv X pins σ H s)(mu:XE (H x))(he:e=x\/H e=some (.own x))(k:∀ b u,b≠e->s.heap.get? b=some u->h'.get? b=some u)(VO:∃ u,h'.get? e=some u)
  (new:fH X.prog X.w (upd H x o) h' x o):Inv X pins σ (upd H x o) { s with heap:=h',toks:=t' }:=I.un (Un.write mu he k VO) (I.cn.write mu he k VO new)
theorem Inv.J7{SY:List (Addr×Obj)}(I:Inv X pins σ H s)(h:∀ p∈SY,s.heap.get? p.1=some p.2/\H p.1=none/\p.1≠X.env.locals/\p.1∉X.fs/\∀ v,p.2.data≠.cell v):Inv X SY σ H s :=
 ⟨I.ok,I.os,I.bare,I.base,I.loc,I.cell,I.free,I.mZ,fun p hp=>(List.mem_append.mp hp).elim (fun z=>I.pin p (nZ _ z)) (h p),I.cn,I.len⟩
theorem E4{N:List Str}(hN:N.Nodup){i j:Nat}{x:Str}(a:N[i]?=some x)(b:N[j]?=some x):i=j:=by
 obtain⟨h1,e1⟩:=List.getElem?_eq_some_iff.mp a;obtain⟨h2,e2⟩:=List.getElem?_eq_some_iff.mp b;exact(List.getElem_inj hN).mp (e1.trans e2.symm)
theorem Bc{M:Model}{A:dI}{E:Value->az->Prop}{i:Nat}{x:Str}{v:V}{u:Value}{Q:Unit->az->Prop}(I:Inv X pins σ H s)(hN:X.N.Nodup)(hi:X.N[i]?=some x)(hx:Loc X.env.scope x)(r:RelV v u)
  (h:∀ s',Inv X pins (σ.set i (some v)) H s'->(∃ a,fL a s.heap s'.heap/\(a=X.env.locals\/X.env.cells.lookup x=some a))->Q () s') (hf:autoParam (X.fn x=true\/X.env.scope.names.lookup x=some .local) Ao._auto_1):wpAny M A (storeName X.env x u) Q E s:=by
 obtain⟨m,hn,hl⟩:=id I.loc;have Z8:(X.env.scope.kind == .class||(X.env.scope.kind == .module&&X.env.locals != X.env.globals))=false:=by rw [I.ok.kind]; rfl
 have W4:i < σ.length:=by rw [I.len]; exact(List.getElem?_eq_some_iff.mp hi).1
 have Vl:=I.Vl;have tracked:∀ {a:Addr} {h':Heap},(∃ o,s.heap.get? a=some o/\H a=none)->fL a s.heap h'->pV X.prog X.w H h':=fun {a h'} ha hs b ob e=>by
  obtain⟨_,_,pP⟩:=ha;refine(I.cn b ob e).mi (fun c w' hc q=>(hs.2 c ?_).trans q) (fun _ q=>q) fun _ _ q=>q;rintro rfl;rcases hc with rfl | hc
  ·rw [pP] at e; cases e
  ·rw [pP] at hc; cases hc
 rcases hx with hk | hk
 ·refine wpAny_storeName_local hk hn (fun h' VN hs=>?_) Z8;obtain⟨oL,_,_,hoL,_⟩:=id hn;refine h _ ⟨I.ok,I.os,I.bare,⟨fun b o e n hb hx=>?_,fun b o e n hb hx=>?_,I.base.free,fun b o e hx=>?_,I.base.vC,I.base.uS,I.base.vD,I.base.vR⟩,⟨_,VN,fun j y v' e1 e2 e3=>?_⟩,fun y c e=>?_,I.free,I.mZ,fun p hp=>?_,tracked ⟨oL,hoL,I.free⟩ hs,by simpa using I.len⟩ ⟨_,hs,.inl rfl⟩
  ·exact(hs.2 b (bB (bM (aS e) I.ok.above))).trans (I.base.keep b o e n hb hx)
  ·obtain⟨sl,e1⟩:=I.base.slot b o e n hb hx;exact⟨sl,(hs.2 b (bB (bM (aS e) I.ok.above))).trans e1⟩
  ·obtain⟨o',e1⟩:=I.base.there b o e hx;exact⟨o',(hs.2 b (bB (bM (aS e) I.ok.above))).trans e1⟩
  ·by_cases hj:j=i
   ·subst hj;rw [hi] at e1; cases e1;rw [cO W4] at e2;cases e2;exact⟨u,r,.inl ⟨hk,by simp⟩⟩
   ·rw [dw (e7 hj)] at e2;obtain⟨u',r',q⟩:=hl j y v' e1 e2 e3;refine⟨u',r',?_⟩;rcases q with ⟨k,e⟩ | ⟨k,c,e,z⟩
    ·refine .inl ⟨k,?_⟩;have:y≠x:=fun e=>hj (E4 hN e1 (e ▸ hi));simp [this,e]
    ·exact .inr ⟨k,c,e,z.sameBut hs (Vl y c e)⟩
  ·obtain⟨w',z⟩:=I.cell y c e;exact⟨w',z.sameBut hs (Vl y c e)⟩
  ·obtain⟨e,n,ne,nf,d⟩:=I.pin p hp;exact⟨(hs.2 p.1 ne).trans e,n,ne,nf,d⟩
 ·have Z3:X.fn x=true:=by
   rcases hf with z | z
   ·exact z
   ·rw [z] at hk; cases hk
  obtain⟨c,hc⟩:=I.ok.has x (.inl hk);obtain⟨w',z⟩:=I.cell x c hc;refine wpAny_storeName_cell I.ok.kind hk hc z (fun h' Tu hs=>?_);obtain⟨oc,VM,ZO⟩:=id z;refine h { s with heap:=h' } ⟨I.ok,I.os,I.bare,⟨fun b o e n hb hx=>?_,fun b o e n hb hx=>?_,I.base.free,fun b o e hx=>?_,I.base.vC,I.base.uS,I.base.vD,I.base.vR⟩,⟨m,hn.sameBut hs (e7 (Vl x c hc)),fun j y v' e1 e2 e3=>?_⟩,fun y c' e=>?_,I.free,I.mZ,fun p hp=>?_,tracked ⟨oc,VM,I.mZ x c hc⟩ hs,by simpa using I.len⟩ ⟨c,hs,.inr hc⟩
  ·exact(hs.2 b (bB (bM (aS e) (I.ok.Xv x c Z3 hc)))).trans (I.base.keep b o e n hb hx)
  ·obtain⟨sl,e1⟩:=I.base.slot b o e n hb hx;exact⟨sl,(hs.2 b (bB (bM (aS e) (I.ok.Xv x c Z3 hc)))).trans e1⟩
  ·obtain⟨o',e1⟩:=I.base.there b o e hx;exact⟨o',(hs.2 b (bB (bM (aS e) (I.ok.Xv x c Z3 hc)))).trans e1⟩
  ·by_cases hj:j=i
   ·subst hj;rw [hi] at e1; cases e1;rw [cO W4] at e2;cases e2;exact⟨u,r,.inr ⟨.inl hk,c,hc,Tu⟩⟩
   ·rw [dw (e7 hj)] at e2;obtain⟨u',r',q⟩:=hl j y v' e1 e2 e3;refine⟨u',r',?_⟩;rcases q with q | ⟨k,c',e,z'⟩
    ·exact .inl q
    ·refine .inr ⟨k,c',e,z'.sameBut hs ?_⟩;rintro rfl;exact hj (E4 hN e1 (I.ok.inj _ _ _ e hc ▸ hi))
  ·by_cases hcc:c'=c
   ·subst hcc; exact⟨_,Tu⟩
   ·obtain⟨w2,z2⟩:=I.cell y c' e;exact⟨w2,z2.sameBut hs hcc⟩
  ·obtain⟨e,n,ne,nf,d⟩:=I.pin p hp;refine⟨(hs.2 p.1 ?_).trans e,n,ne,nf,d⟩;intro q;rw [q,VM] at e;have q':oc=p.2:=a8 e;exact d w' (by rw [<-q']; exact ZO)
theorem Ep{M:Model}{A:dI}{E:Value->az->Prop}{i:Nat}{x:Str}{v:V}{u:Value}{Q:Unit->az->Prop}(I:Inv X pins σ H s)(hN:X.N.Nodup)(hi:X.N[i]?=some x)(hx:Loc X.env.scope x)(r:RelV v u)
  (h:∀ s',Inv X pins (σ.set i (some v)) H s'->Q () s') (hf:autoParam (X.fn x=true\/X.env.scope.names.lookup x=some .local) Ao._auto_1):wpAny M A (storeName X.env x u) Q E s :=
 Bc I hN hi hx r (fun s' I' _=>h s' I') hf
end
noncomputable abbrev XK:=Value->Option Addr->Hp->Prop
noncomputable abbrev St:=List (Option V)
noncomputable abbrev VK:=V->Hp->Prop
noncomputable abbrev TE:=St->Hp->VK->Prop
noncomputable abbrev TT:=St->Hp->(Bool->Hp->Prop)->Prop
noncomputable abbrev TA:=St->Hp->(List V->Hp->Prop)->Prop
structure Ends where
 nx:St->Hp->Prop
 rt:VK
 bk:St->Hp->Prop:=fun _ _=>False
 ct:St->Hp->Prop:=fun _ _=>False
noncomputable abbrev TS:=Ends->St->Hp->Prop
noncomputable def EP(X:Cx)(pins:List (Addr×Obj))(σ:St)(Q:VK)(u:Value)(s':az):Prop:=∃ v H',Inv X pins σ H' s'/\RelV v u/\Q v H'
noncomputable def TP(X:Cx)(pins:List (Addr×Obj))(σ:St)(Q:Bool->Hp->Prop)(b:Bool)(s':az):Prop:=∃ H',Inv X pins σ H' s'/\Q b H'
noncomputable def SP(X:Cx)(pins:List (Addr×Obj))(D:Ends)(f:Flow)(s':az):Prop :=
 match f with
 | .next=>∃ jX H',Inv X pins jX H' s'/\D.nx jX H'
 | .brk=>∃ jX H',Inv X pins jX H' s'/\D.bk jX H'
 | .cont=>∃ jX H',Inv X pins jX H' s'/\D.ct jX H'
 | .ret u=>∃ v jX H',Inv X pins jX H' s'/\RelV v u/\D.rt v H'
noncomputable def PE(X:Cx)(e:Expr)(t:TE):Prop :=
 ∀ (pins:List (Addr×Obj)) (s:az) (σ:St) (H:Hp) (Q:VK),Inv X pins σ H s->t σ H Q->wpAny (model X.prog X.w) X.A (eval e X.env) (EP X pins σ Q) X.xe s
noncomputable def VX(X:Cx)(st:List Stmt)(t:TS):Prop :=
 ∀ (pins:List (Addr×Obj)) (s:az) (σ:St) (H:Hp) (D:Ends),Inv X pins σ H s->t D σ H->wpAny (model X.prog X.w) X.A (execs st X.env) (SP X pins D) X.xe s
theorem hU{α:Type}{t:Sem α}{Q Q':α->az->Prop}{M:Model}{A:dI}{E:Value->az->Prop}{s:az}(h:wpAny M A t Q E s)(hQ:∀ a s,Q a s->Q' a s):wpAny M A t Q' E s:=Hd h hQ fun _ _ x=>x
section
variable {X:Cx}
noncomputable def YB(i:Nat):TE:=fun σ H Q=>∃ v,σ[i]?=some (some v)/\Q v H
noncomputable def tC(v:V):TE:=fun _ H Q=>Q v H
theorem Uy {i:Nat} {x:Str} {pos:Pos} (hN:X.N[i]?=some x) (hv:Yn X.env.scope x) (hd:autoParam ((x == ("__debug__" : Str))=false) Ad._auto_1) (Ks:autoParam ((x == ("__classdict__" : Str))=false) Ad._auto_1):PE X (.Name x pos) (YB i):=by
 intro pins s σ H Q I h;obtain⟨v,e,h⟩:=h;obtain⟨m,hn,hl⟩:=I.loc;obtain⟨u,r,l⟩:=hl i x v hN e hv;have fin:EP X pins σ Q u s:=⟨v,H,I,r,h⟩;rcases l with ⟨hk,hm⟩ | ⟨hk,c,hc,pQ⟩
 ·exact wpAny_Name (wpAny_loadName_local I.ok.kind hk hn hm fin) hd
 ·rcases hk with hk | hk
  ·exact wpAny_Name (wpAny_loadName_cell I.ok.kind hk hc pQ fin) hd
  ·exact wpAny_Name (wpAny_loadName_free I.ok.kind hk hc pQ fin Ks) hd
theorem Uz{i j pos}:PE X (.Constant (.int i) j pos) (tC (.int i)):=fun _ _ _ H _ I h=>wpAny_Constant_int ⟨.int i,H,I.tok _,⟨_,rfl⟩,h⟩
theorem Wo{b j pos}:PE X (.Constant (.bool b) j pos) (tC (.bl b)):=fun _ _ _ H _ I h=>Constant_bool ⟨.bl b,H,I,rfl,h⟩
noncomputable def Gl(X:Cx)(x:Str):Prop:=X.env.kindOf x=some .globalImplicit
theorem xK{E:Value->az->Prop}{pins:List (Addr×Obj)}{s:az}{σ:St}{H:Hp}{x:Str}{u:Value}{pos:Pos}{Q:Value->az->Prop}(I:Inv X pins σ H s)(hg:Gl X x)(hm:X.mg x=some u)(h:Q u s)
  (hd:autoParam ((x == ("__debug__" : Str))=false) Ad._auto_1):wpAny (model X.prog X.w) X.A (eval (.Name x pos) X.env) Q E s :=
 GP I.ok.kind hg (Calls.loadGlobal_global (by rw [I.ok.glob]; exact I.mod.glob.keeps I.bk) hm h) hd
theorem qL{E:Value->az->Prop}{pins:List (Addr×Obj)}{s:az}{σ:St}{H:Hp}{x:Str}{u:Value}{pos:Pos}{Q:Value->az->Prop}(I:Inv X pins σ H s)(hg:Gl X x)(hm:X.mg x=none)(hv:eK x=some u)(h:Q u s)
  (hn:autoParam (x≠"__name__") Ad._auto_1) (hd:autoParam ((x == ("__debug__" : Str))=false) Ad._auto_1):wpAny (model X.prog X.w) X.A (eval (.Name x pos) X.env) Q E s:=by
 obtain⟨mb,h1,h2⟩:=I.mod.blt;exact GP I.ok.kind hg (Calls.loadGlobal_builtin (by rw [I.ok.glob]; exact I.mod.glob.keeps I.bk) hm (by rw [I.ok.blt]; exact h1.keeps I.bk) ((h2 x hn).trans hv) h) hd
theorem Rw {x:Str} {v:V} {u:Value} {pos:Pos} (hg:Gl X x) (hm:X.mg x=some u) (r:RelV v u) (hd:autoParam ((x == ("__debug__" : Str))=false) Ad._auto_1):PE X (.Name x pos) (tC v) :=
 fun _ _ _ H _ I h=>xK I hg hm ⟨v,H,I,r,h⟩ hd
variable {a b:Expr} {ta tb:TE} {pos:Pos}
noncomputable def tB(t:TE):TT:=fun σ H Q=>t σ H fun x H1=>∃ c,x=.bl c/\Q c H1
variable {tA tB':TT} {rest:List Expr}
end
noncomputable def oS(K:au)(H:Hp)(a:Addr)(xs:List V):Prop :=
 Rd H a (.lst xs) \/
  ∃ (o:Obj) (bH:Array Value) (n:Nat),K.lookup a=some o/\o.cls=.type "list"/\o.dict=none/\o.data=.seq bH n/\bH.size<=aZ/\Vals xs bH.toList
noncomputable def xU(K:au)(H:Hp)(a:Addr)(xs:List V):Prop :=
 Rd H a (.tup xs) \/
  ∃ (o:Obj) (bH:Array Value) (n:Nat),K.lookup a=some o/\o.cls=.type "tuple"/\o.data=.seq bH n/\bH.size<=aZ/\Vals xs bH.toList
noncomputable def aaF:Value->Option V
 | .none=>some .eQ
 | .bool b=>some (.bl b)
 | .int i _=>some (.int i)
 | .str x _=>some (.str x)
 | .bytes b _=>some (.Vo b)
 | .float b _=>some (.flt b)
 | .ref a=>some (.ref a)
 | .type n=>some (.ty n)
 | _=>none
theorem RelV.abs{x:V}{u:Value}(r:RelV x u):aaF u=some x:=by
 cases x with
 | eQ=>cases r; rfl
 | bl _=>cases r; rfl
 | int _=>obtain⟨t,rfl⟩:=r; rfl
 | str _=>obtain⟨t,rfl⟩:=r; rfl
 | Vo _=>obtain⟨t,rfl⟩:=r; rfl
 | flt _=>obtain⟨t,rfl⟩:=r; rfl
 | ref _=>cases r; rfl
 | ty _=>cases r; rfl
theorem RelV.inj{x y:V}{u:Value}(r:RelV x u)(q:RelV y u):x=y:=a8 (r.abs.symm.trans q.abs)
theorem Vals.inj:∀ {xs ys:List V} {us:List Value},Vals xs us->Vals ys us->xs=ys:=by
 intro xs ys us h;induction h generalizing ys with
 | nil=>intro k; cases k; rfl
 | cons r t ih =>
  intro k;cases k with
  | cons r' t'=>rw [r.inj r',ih t']
section
variable {X:Cx} {pins:List (Addr×Obj)} {σ:St} {H:Hp} {s:az} {a:Addr} {xs ys:List V}
theorem oS.of{K:au}(h:H a=some (.lst xs)):oS K H a xs:=.inl (.inl h)
theorem xU.of{K:au}(h:H a=some (.tup xs)):xU K H a xs:=.inl (.inl h)
theorem Inv.list(I:Inv X pins σ H s)(h:oS X.K H a xs):∃ bH:List Value,Vals xs bH/\PlainL s.heap a bH.toArray/\xs.length<=aZ:=by
 rcases h with h | ⟨o,bH,n,hk,hc,hd,hs,hz,r⟩
 ·obtain⟨z,bH,n,r,e⟩:=h.ok I.cn;exact⟨bH,r,⟨_,n,e,rfl,rfl,rfl⟩,z⟩
 ·refine⟨bH.toList,r,⟨o,n,I.Ip a o hk,hc,hd,by simpa using hs⟩,?_⟩;have e:=r.length;simp only [fA] at e;lia
theorem Inv.tuple(I:Inv X pins σ H s)(h:xU X.K H a xs):∃ bH:List Value,Vals xs bH/\IsTup s.heap a bH.toArray/\xs.length<=aZ:=by
 rcases h with h | ⟨o,bH,n,hk,hc,hs,hz,r⟩
 ·obtain⟨z,bH,r,p⟩:=h.ok I.cn;exact⟨bH,r,p,z⟩
 ·refine⟨bH.toList,r,⟨o,I.Ip a o hk,hc,n,by simpa using hs⟩,?_⟩;have e:=r.length;simp only [fA] at e;lia
theorem Inv.uE(I:Inv X pins σ H s)(h:oS X.K H a xs)(h':oS X.K H a ys):xs=ys:=by
 obtain⟨bH,r,⟨o,n,e,_,_,d⟩,_⟩:=I.list h;obtain⟨its',r',⟨o',n',e',_,_,d'⟩,_⟩:=I.list h';rw [e] at e'; cases e';rw [d] at d';injection d' with d1 _
 have:bH=its':=by simpa using congrArg Array.toList d1
 subst this;exact r.inj r'
theorem Inv.Ll(I:Inv X pins σ H s)(h:xU X.K H a xs)(h':xU X.K H a ys):xs=ys:=by
 obtain⟨bH,r,⟨o,e,_,n,d⟩,_⟩:=I.tuple h;obtain⟨its',r',⟨o',e',_,n',d'⟩,_⟩:=I.tuple h';rw [e] at e'; cases e';rw [d] at d';injection d' with d1 _
 have:bH=its':=by simpa using congrArg Array.toList d1
 subst this;exact r.inj r'
end
noncomputable abbrev Cx.Az(X:Cx)(E:Value->az->Prop):Cx:={ X with xe:=E }
noncomputable abbrev Cx.UK(X:Cx):Cx:=X.Az fun _ _=>False
theorem Cx.Ok.Az{X:Cx}(ok:X.Ok)(E:Value->az->Prop):(X.Az E).Ok :=
 ⟨ok.mod,ok.kind,ok.glob,ok.blt,ok.above,ok.inj,ok.has,ok.Xv,ok.hd,ok.frames,ok.XT,ok.Yk,ok.bs,ok.Sr,ok.LL,ok.PF,ok.zt,ok.VQ⟩
theorem Cx.Ok.qx{X:Cx}{E:Value->az->Prop}(ok:(X.Az E).Ok):X.Ok :=
 ⟨ok.mod,ok.kind,ok.glob,ok.blt,ok.above,ok.inj,ok.has,ok.Xv,ok.hd,ok.frames,ok.XT,ok.Yk,ok.bs,ok.Sr,ok.LL,ok.PF,ok.zt,ok.VQ⟩
section
variable {X:Cx} {pins:List (Addr×Obj)} {σ:St} {H:Hp} {s:az} {E:Value->az->Prop}
theorem Inv.Az(I:Inv X pins σ H s)(E:Value->az->Prop):Inv (X.Az E) pins σ H s:=⟨I.ok.Az E,I.os,I.bare,I.base,I.loc,I.cell,I.free,I.mZ,I.pin,I.cn,I.len⟩
theorem Inv.qx(I:Inv (X.Az E) pins σ H s):Inv X pins σ H s:=⟨I.ok.qx,I.os,I.bare,I.base,I.loc,I.cell,I.free,I.mZ,I.pin,I.cn,I.len⟩
theorem SP.qx{D:Ends}{f:Flow}{s':az}(h:SP (X.Az E) pins D f s'):SP X pins D f s':=by
 cases f with
 | next=>obtain⟨jX,H',I,q⟩:=h; exact⟨jX,H',I.qx,q⟩
 | brk=>obtain⟨jX,H',I,q⟩:=h; exact⟨jX,H',I.qx,q⟩
 | cont=>obtain⟨jX,H',I,q⟩:=h; exact⟨jX,H',I.qx,q⟩
 | ret u=>obtain⟨v,jX,H',I,r,q⟩:=h; exact⟨v,jX,H',I.qx,r,q⟩
theorem VX.UK{st:List Stmt}{t:TS}(h:VX X.UK st t):VX X st t:=fun pins s σ H D I hw =>
 Hd (h pins s σ H D (I.Az _) hw) (fun _ _ q=>q.qx) fun _ _ z=>bN z
end
section
variable {X:Cx} {st:Stmt} {rest:List Stmt} {t u:TS} {e:Expr} {te:TE} {pos:Pos}
theorem Inv.quiet{pins:List (Addr×Obj)}{σ:St}{H:Hp}{s:az}(I:Inv X pins σ H s):interactive X.env=false:=by simp [interactive,I.ok.kind]
end
noncomputable abbrev aaH:=V->V->V->Hp->(Hp->Prop)->Prop
noncomputable def aaJ(X:Cx)(t:aaH):Prop :=
 ∀ (pins:List (Addr×Obj)) (s:az) (σ:St) (H:Hp) (o i v:V) (ov iv u:Value) (Q:Hp->Prop),Inv X pins σ H s->RelV o ov->RelV i iv->RelV v u->t o i v H Q ->
  wpAny (model X.prog X.w) X.A (setItem ov iv u) (fun _ s'=>∃ H',Inv X pins σ H' s'/\Q H') X.xe s
structure It where
 go:Nat->Hp->Prop
 yld:Nat->Hp->V->Hp->Prop
 stop:Nat->Hp->Prop
noncomputable def nC(X:Cx)(pins:List (Addr×Obj))(H:Hp)(b:Addr):Prop :=
 H b=none/\b≠X.env.locals/\b∉X.fs/\(b∈X.ex\/X.ny.heap.objs.size<=b)/\(∀ x c,X.env.cells.lookup x=some c->c≠b)/\∀ p∈X.pn++pins,p.1≠b
theorem Inv.AO{X:Cx}{pins:List (Addr×Obj)}{σ:St}{H H':Hp}{s:az}{b:Addr}(I:Inv X pins σ H s)(hb:s.heap.objs.size<=b)(hn:H' b=none):nC X pins H' b:=by
 refine⟨hn,Nat.ne_of_gt (bM I.lt hb),I.Y1 hb,.inr (bw I.sz hb),fun x c e z=>?_,fun p hp z=>?_⟩
 ·obtain⟨v,q⟩:=I.cell x c e;exact absurd (bM q.lt (by rw [z]; exact hb)) (iQ _)
 ·exact absurd (bM (aS (I.pin p hp).1) (by rw [z]; exact hb)) (iQ _)
structure Turn(P:bI)(w:World)(K:au)(tg:Expr)(J:It)(fp:List Addr)(it:Addr)(tn:Nat->Heap->Prop):Prop where
 mem:it∈fp
 obj:∀ i h,tn i h->∀ b∈fp,∃ o,h.get? b=some o/\∀ v,o.data≠.cell v
 keep:∀ i h h',tn i h->(∀ b∈fp,∀ o,h.get? b=some o->h'.get? b=some o)->tn i h'
 item:∀ (X:Cx),X.prog=P->X.w=w->X.K=K->X.calm=true->∀ (i:Nat) (pins:List (Addr×Obj)) (s:az) (σ:St) (H:Hp) (E:Value->az->Prop),Inv X pins σ H s->(∀ b∈fp,nC X pins H b)->tn i s.heap->J.go i H ->
  wpAny (model P w) X.A (wy (.ref it)) (fun r s1=>∃ u,r=some u /\
   wpAny (model P w) X.A (x8 tg (.ref it) u) (fun _ s2=>∃ x H',Inv X pins σ H' s2/\RelV x u/\J.yld i H x H'/\tn (i+1) s2.heap/\∀ b∈fp,H' b=none) E s1) E s
 done:∀ (X:Cx),X.prog=P->X.w=w->X.K=K->X.calm=true->∀ (i:Nat) (pins:List (Addr×Obj)) (s:az) (σ:St) (H:Hp) (E:Value->az->Prop),Inv X pins σ H s->(∀ b∈fp,nC X pins H b)->tn i s.heap->J.stop i H ->
  wpAny (model P w) X.A (wy (.ref it)) (fun r s1=>r=none/\Inv X pins σ H s1) E s
 self:∀ (A:dI) (i:Nat) (s:az) (Q:Value->az->Prop) (E:Value->az->Prop),tn i s.heap->Q (.ref it) s->wpAny (model P w) A (Ea (.ref it)) Q E s
noncomputable abbrev TI:=St->Hp->(It->Hp->Prop)->Prop
noncomputable def PIE(X:Cx)(pins:List (Addr×Obj))(σ:St)(tg:Expr)(R:It->Hp->Prop)(S9:Value)(s2:az):Prop :=
 ∃ (it:Addr) (fp:List Addr) (tn:Nat->Heap->Prop) (J:It) (H':Hp),S9=.ref it/\Inv X pins σ H' s2/\Turn X.prog X.w X.K tg J fp it tn/\tn 0 s2.heap/\(∀ b∈fp,nC X pins H' b)/\R J H'
theorem Ku{M:Model}{A:dI}{E:Value->az->Prop}{s:az}{tg:Expr}{it:Addr}{u:Value}{o:Obj}{n:String}{vs:Array Value}{Q:Unit->az->Prop}(ho:s.heap.get? it=some o)(hc:o.cls=.type n)(hd:o.data=.fields vs)
    (hn:["enumerate","zip","dict_itemiterator","dict_reverseitemiterator","odict_iterator","itertools.zip_longest","itertools.pairwise"].contains n=false) (hQ:Q () s):wpAny M A (x8 tg (.ref it) u) Q E s:=by
  unfold x8;cases tg <;> first
    | exact aA hQ
    | (cases u <;> first
        | exact aA hQ
        | (refine ag (wpAny_load ho ?_)
           rw [hc,hd];show wpAny M A (if (["enumerate","zip","dict_itemiterator","dict_reverseitemiterator","odict_iterator","itertools.zip_longest","itertools.pairwise"].contains n&&vs[0]? == some (D9 _))=true then _ else _) Q E s;rw [if_neg (by intro h; rw [hn,JH] at h; cases h)];exact aA hQ))
noncomputable def Itl(K:au)(a:Addr):It :=
 ⟨fun i H=>∃ xs x,oS K H a xs/\xs[i]?=some x,fun i H x H'=>H'=H/\∀ xs,oS K H a xs->xs[i]?=some x,fun i H=>∃ xs,oS K H a xs/\xs.length<=i⟩
noncomputable def Itt(K:au)(a:Addr):It :=
 ⟨fun i H=>∃ xs x,xU K H a xs/\xs[i]?=some x,fun i H x H'=>H'=H/\∀ xs,xU K H a xs->xs[i]?=some x,fun i H=>∃ xs,xU K H a xs/\xs.length<=i⟩
noncomputable def Itr(lo:Int)(n:Nat):It:=⟨fun i _=>i < n,fun i H x H'=>H'=H/\x=.int (lo+i),fun i _=>n<=i⟩
theorem Lh{P:bI}{w:World}{K:au}{tg:Expr}(a it:Addr):Turn P w K tg (Itl K a) [it] it (fun i h=>h.IsListIter it a i) where
 mem:=by simp
 obj:=fun i h st b hb=>by
  have e:b=it:=by simpa using hb
  subst e;obtain⟨o,e,c,d⟩:=st;exact⟨o,e,fun v z=>by rw [d] at z; cases z⟩
 keep:=fun i h h' st k=>st.at fun o e=>k it (by simp) o e
 item:=by
  intro X hP hw hK hc i pins s σ H E I hf st hg;subst hP hw hK;obtain⟨xs,x,hq,hx⟩:=hg;obtain⟨bH,rv,p,hz⟩:=I.list hq;obtain⟨u,hu,ru⟩:=rv.get hx;obtain⟨f0,f1,f2,f3,f4,f5⟩:=hf it (by simp);refine wpAny_pyNext_list_item st p.isList (x:=u) (by simpa using hu) fun h' AD sb=>?_;have I1:Inv X pins σ H { s with heap:=h' }:=I.turned (t':=s.toks) (fun b o hb e=>(sb.2 b hb).trans e) f0 f1 f3 f4 f5;obtain⟨o,e,c,d⟩:=id AD;exact⟨u,rfl,Ku (s:={ s with heap:=h' }) e c d (by decide) ⟨x,H,I1,ru,⟨rfl,fun ys hy=>by rw [I.uE hy hq]; exact hx⟩,AD,fun b hb=>(hf b hb).1⟩⟩
 done:=by
  intro X hP hw hK hc i pins s σ H E I hf st hg;subst hP hw hK;obtain⟨xs,hq,hx⟩:=hg;obtain⟨bH,rv,p,hz⟩:=I.list hq;obtain⟨f0,f1,f2,f3,f4,f5⟩:=hf it (by simp);have hl:=rv.length;exact wpAny_pyNext_list_end (I.ok.hd hc) st p.isList (by simp; lia) fun h' eb=>⟨rfl,I.turned (t':=s.toks) (fun b o hb e=>eb b o hb e) f0 f1 f3 f4 f5⟩
 self:=fun _ _ _ _ _ st h=>wpAny_pyIter_listiter st h
theorem Hz{P:bI}{w:World}{K:au}{tg:Expr}(a it:Addr):Turn P w K tg (Itt K a) [it] it (fun i h=>h.IsTupleIter it a i) where
 mem:=by simp
 obj:=fun i h st b hb=>by
  have e:b=it:=by simpa using hb
  subst e;obtain⟨o,e,c,d⟩:=st;exact⟨o,e,fun v z=>by rw [d] at z; cases z⟩
 keep:=fun i h h' st k=>st.at fun o e=>k it (by simp) o e
 item:=by
  intro X hP hw hK hc i pins s σ H E I hf st hg;subst hP hw hK;obtain⟨xs,x,hq,hx⟩:=hg;obtain⟨bH,rv,p,hz⟩:=I.tuple hq;obtain⟨u,hu,ru⟩:=rv.get hx;obtain⟨f0,f1,f2,f3,f4,f5⟩:=hf it (by simp);refine wpAny_pyNext_tuple_item st (show s.heap.IsTuple a bH.toArray from p) (x:=u) (by simpa using hu) fun h' AD sb=>?_;have I1:Inv X pins σ H { s with heap:=h' }:=I.turned (t':=s.toks) (fun b o hb e=>(sb.2 b hb).trans e) f0 f1 f3 f4 f5;obtain⟨o,e,c,d⟩:=id AD;exact⟨u,rfl,Ku (s:={ s with heap:=h' }) e c d (by decide) ⟨x,H,I1,ru,⟨rfl,fun ys hy=>by rw [I.Ll hy hq]; exact hx⟩,AD,fun b hb=>(hf b hb).1⟩⟩
 done:=by
  intro X hP hw hK hc i pins s σ H E I hf st hg;subst hP hw hK;obtain⟨xs,hq,hx⟩:=hg;obtain⟨bH,rv,p,hz⟩:=I.tuple hq;obtain⟨f0,f1,f2,f3,f4,f5⟩:=hf it (by simp);have hl:=rv.length;exact wpAny_pyNext_tuple_end (I.ok.hd hc) st (show s.heap.IsTuple a bH.toArray from p) (by simp; lia) fun h' eb=>⟨rfl,I.turned (t':=s.toks) (fun b o hb e=>eb b o hb e) f0 f1 f3 f4 f5⟩
 self:=fun _ _ _ _ _ st h=>wpAny_pyIter_tupleiter st h
theorem HA{P:bI}{w:World}{K:au}{tg:Expr}(it:Addr)(lo:Int)(n:Nat):Turn P w K tg (Itr lo n) [it] it (fun i h=>IsRangeIter h it (lo+(i:Nat) * 1) ((n:Int) - (i:Nat)) 1) where
 mem:=by simp
 obj:=fun i h st b hb=>by
  have e:b=it:=by simpa using hb
  subst e;exact⟨_,st,fun v z=>by
   have z':Data.fields _=Data.cell v:=z;cases z'⟩
 keep:=fun i h h' st k=>k it (by simp) _ st
 item:=by
  intro X hP hw hK hc i pins s σ H E I hf st hg;subst hP hw hK;obtain⟨f0,f1,f2,f3,f4,f5⟩:=hf it (by simp);have W:=Walks.range (prog:=X.prog) (w:=X.w) (I.ok.hd hc) it lo 1 n;refine W.item i s _ _ hg st fun v h' tk hv AD kk=>?_;obtain⟨t,rfl⟩:=hv;have I1:Inv X pins σ H { s with heap:=h',toks:=tk }:=I.turned (fun b o hb e=>kk b o (by simpa using hb) e) f0 f1 f3 f4 f5;refine⟨_,rfl,Ku (s:={ s with heap:=h',toks:=tk }) (n:="range_iterator") AD rfl rfl (by decide) ⟨.int (lo+i),H,I1,⟨t,?_⟩,⟨rfl,rfl⟩,AD,fun b hb=>(hf b hb).1⟩⟩;rw [Int.mul_one]
 done:=by
  intro X hP hw hK hc i pins s σ H E I hf st hg;subst hP hw hK;obtain⟨f0,f1,f2,f3,f4,f5⟩:=hf it (by simp);exact wpAny_pyNext_range_end (I.ok.hd hc) st (by have:n<=i:=hg; lia) fun h' eb=>⟨rfl,I.turned (t':=s.toks) (fun b o hb e=>eb b o hb e) f0 f1 f3 f4 f5⟩
 self:=fun _ _ _ _ _ st h=>wpAny_pyIter_rangeiter st h
section
variable {X:Cx} {tg:Expr}
theorem N0{pins:List (Addr×Obj)}{σ:St}{H:Hp}{s:az}{R:It->Hp->Prop}{E:Value->az->Prop}{lo hi:Int}{t u v:Tok}{tk:Nat}(I:Inv X pins σ H s)(h1:-(2 ^ 62)<=lo)(h2:lo < 2 ^ 62)(h3:-(2 ^ 62)<=hi)(h4:hi < 2 ^ 62)
  (q:R (Itr lo (hi - lo).toNat) H):wpAny (model X.prog X.w) X.A (Ea (.ref s.heap.objs.size)) (PIE X pins σ tg R) E { s with heap:=s.heap.push { cls:=.type "range",data:=.fields #[.int lo t,.int hi u,.int 1 v] },toks:=tk }:=by
 refine wpAny_pyIter_range (IsRange.new ..) (small_one h1 h2 h3 h4) ?_;have I1:Inv X pins σ H { s with heap:=s.heap.push { cls:=.type "range",data:=.fields #[.int lo t,.int hi u,.int 1 v] },toks:=tk }:=I.kept fun b o e=>aH _ e
 refine⟨(s.heap.push { cls:=.type "range",data:=.fields #[.int lo t,.int hi u,.int 1 v] }).objs.size,[(s.heap.push { cls:=.type "range",data:=.fields #[.int lo t,.int hi u,.int 1 v] }).objs.size],_,_,H,rfl,
  I1.kept (t':=tk) fun b o e=>aH _ e,HA _ lo (hi - lo).toNat,?_,fun b hb=>?_,q⟩
 ·have e1:lo+((0:Nat):Int) * 1=lo:=by simp
  have e2:(((hi - lo).toNat:Nat):Int) - ((0:Nat):Int)=Builtin.Range.rangeSize lo hi 1:=by rw [rangeSize_one]; split <;> lia
  show IsRangeIter _ _ (lo+((0:Nat):Int) * 1) ((((hi - lo).toNat:Nat):Int) - ((0:Nat):Int)) 1;rw [e1,e2];exact bh _ rfl
 ·have e:b=(s.heap.push { cls:=.type "range",data:=.fields #[.int lo t,.int hi u,.int 1 v] }).objs.size:=by simpa using hb
  subst e;exact I1.AO (aC _) (I1.cn.fresh (aC _))
noncomputable def qJ(fp:List Addr)(h:Heap):List (Addr×Obj):=fp.filterMap fun b=>(h.get? b).map fun o=>(b,o)
theorem pb{fp:List Addr}{h:Heap}{b:Addr}{o:Obj}(hb:b∈fp)(e:h.get? b=some o):(b,o)∈qJ fp h:=List.mem_filterMap.mpr ⟨b,hb,by rw [e]; rfl⟩
theorem LK{fp:List Addr}{h:Heap}{p:Addr×Obj}(hp:p∈qJ fp h):p.1∈fp/\h.get? p.1=some p.2:=by
 obtain⟨b,hb,e⟩:=List.mem_filterMap.mp hp;cases q:h.get? b with
 | none=>rw [q] at e; cases e
 | some o =>
  rw [q] at e;have e':(b,o)=p:=a8 e;subst e';exact⟨hb,q⟩
theorem Inv.pinned{pins:List (Addr×Obj)}{σ:St}{H:Hp}{s:az}{fp:List Addr}(I:Inv X pins σ H s)(hf:∀ b∈fp,nC X pins H b)(ho:∀ b∈fp,∃ o,s.heap.get? b=some o/\∀ v,o.data≠.cell v):Inv X (pins++qJ fp s.heap) σ H s :=
 I.J7 fun p hp=>(List.mem_append.mp hp).elim (fun z=>I.pin p (dg _ z)) fun z=>by
  obtain⟨hb,e⟩:=LK z;obtain⟨f0,f1,f2,_⟩:=hf p.1 hb;obtain⟨o,e',d⟩:=ho p.1 hb;rw [e] at e'; cases e';exact⟨e,f0,f1,f2,d⟩
theorem Inv.tY{pins pl:List (Addr×Obj)}{σ:St}{H:Hp}{s:az}(I:Inv X (pins++pl) σ H s):Inv X pins σ H s:=I.J7 fun p hp=>I.pin p (dg _ (nZ _ hp))
end
noncomputable abbrev R2:=V->V->Hp->VK->Prop
noncomputable def MH(X:Cx)(f:Value->Value->Sem Value)(r:R2):Prop :=
 ∀ (pins:List (Addr×Obj)) (s:az) (σ:St) (H:Hp) (x y:V) (v u:Value) (Q:VK),Inv X pins σ H s->RelV x v->RelV y u->r x y H Q ->
  wpAny (model X.prog X.w) X.A (f v u) (EP X pins σ Q) X.xe s
noncomputable def UnR(X:Cx)(f:Value->Sem Value)(r:V->Hp->VK->Prop):Prop :=
 ∀ (pins:List (Addr×Obj)) (s:az) (σ:St) (H:Hp) (x:V) (v:Value) (Q:VK),Inv X pins σ H s->RelV x v->r x H Q ->
  wpAny (model X.prog X.w) X.A (f v) (EP X pins σ Q) X.xe s
noncomputable def Qs(X:Cx)(f:Value)(r:List V->Hp->VK->Prop):Prop :=
 ∀ (pins:List (Addr×Obj)) (s:az) (σ:St) (H:Hp) (xs:List V) (us:List Value) (Q:VK),Inv X pins σ H s->Vals xs us->r xs H Q ->
  wpAny (model X.prog X.w) X.A (call f us) (EP X pins σ Q) X.xe s
noncomputable def aaG(X:Cx)(r:V->Hp->(Bool->Hp->Prop)->Prop):Prop :=
 ∀ (pins:List (Addr×Obj)) (s:az) (σ:St) (H:Hp) (x:V) (v:Value) (Q:Bool->Hp->Prop),Inv X pins σ H s->RelV x v->r x H Q ->
  wpAny (model X.prog X.w) X.A (truthy v) (TP X pins σ Q) X.xe s
noncomputable def rI(C:Int->Int->Prop)(g:Int->Int->V):R2:=fun x y H Q=>∃ i j,x=.int i/\y=.int j/\C i j/\Q (g i j) H
noncomputable def Wi(g:Int->Int->V):R2:=fun x y H Q=>∃ i j,x=.int i/\y=.int j/\Q (g i j) H
noncomputable def rU(g:Int->V):V->Hp->VK->Prop:=fun x H Q=>∃ i,x=.int i/\Q (g i) H
section
variable {X:Cx} {a b c:Expr} {ta tb tc:TE} {pos:Pos}
theorem X0{f:Value->Value->Sem Value}{C:Int->Int->Prop}{g:Int->Int->Int}
  (rule:∀ (i j:Int) (t u:Tok) (s:az) (Q:Value->az->Prop) (E:Value->az->Prop),C i j->Q (.int (g i j) s.toks) { s with toks:=s.toks+1 }->wpAny (model X.prog X.w) X.A (f (.int i t) (.int j u)) Q E s) :
  MH X f (rI C fun i j=>.int (g i j)):=by
 intro pins s σ H x y v u Q I rx ry h;obtain⟨i,j,rfl,rfl,hc,q⟩:=h;obtain⟨t,rfl⟩:=rx;obtain⟨t',rfl⟩:=ry;exact rule i j t t' s _ _ hc ⟨.int (g i j),H,I.tok _,⟨_,rfl⟩,q⟩
theorem Wr{f:Value->Value->Sem Value}{g:Int->Int->Int}
  (rule:∀ (i j:Int) (t u:Tok) (s:az) (Q:Value->az->Prop) (E:Value->az->Prop),Q (.int (g i j) s.toks) { s with toks:=s.toks+1 }->wpAny (model X.prog X.w) X.A (f (.int i t) (.int j u)) Q E s) :
  MH X f (Wi fun i j=>.int (g i j)):=by
 intro pins s σ H x y v u Q I rx ry h;obtain⟨i,j,rfl,rfl,q⟩:=h;obtain⟨t,rfl⟩:=rx;obtain⟨t',rfl⟩:=ry;exact rule i j t t' s _ _ ⟨.int (g i j),H,I.tok _,⟨_,rfl⟩,q⟩
theorem YV{f:Value->Value->Sem Value}{g:Int->Int->Bool}
  (rule:∀ (i j:Int) (t u:Tok) (s:az) (Q:Value->az->Prop) (E:Value->az->Prop),Q (.bool (g i j)) s->wpAny (model X.prog X.w) X.A (f (.int i t) (.int j u)) Q E s) :
  MH X f (Wi fun i j=>.bl (g i j)):=by
 intro pins s σ H x y v u Q I rx ry h;obtain⟨i,j,rfl,rfl,q⟩:=h;obtain⟨t,rfl⟩:=rx;obtain⟨t',rfl⟩:=ry;exact rule i j t t' s _ _ ⟨.bl (g i j),H,I,rfl,q⟩
noncomputable def aaQ(i j:Int):Prop:=0 < j/\j < 1073741824
noncomputable def VC(i j:Int):Prop:=(-(2 ^ 64) < i/\i < 2 ^ 64)\/(-(2 ^ 64) < j/\j < 2 ^ 64)
theorem VC.ok{i j:Int}(h:VC i j):IntMulOk i j:=by
 rcases h with ⟨h1,h2⟩ | ⟨h1,h2⟩
 ·exact .of_left (intBits_le_64 h1 h2)
 ·exact .of_right (intBits_le_64 h1 h2)
theorem UI:MH X (jh .Add) (Wi fun i j=>.int (i+j)):=Wr fun _ _ _ _ _ _ _ q=>add_int q
theorem UD:MH X (jh .Sub) (Wi fun i j=>.int (i - j)):=Wr fun _ _ _ _ _ _ _ q=>sub_int q
theorem UE:MH X (jh .Mult) (rI VC fun i j=>.int (i * j)):=X0 fun _ _ _ _ _ _ _ hc q=>mul_int q hc.ok
theorem RF:MH X (jh .FloorDiv) (rI aaQ fun i j=>.int (i / j)):=X0 fun i j _ _ _ _ _ hc q=>by
 have h1:(0:Int) < j:=hc.1;have h2:j < 1073741824:=hc.2;exact floordiv_int (by lia) (by rw [Int.fdiv_eq_ediv_of_nonneg i (by lia)]; exact q) (.inl (PyProof.noPylong_small (by lia)))
theorem UG:MH X (jh .Mod) (rI (fun _ j=>0 < j) fun i j=>.int (i % j)):=X0 fun i j _ _ _ _ _ hc q=>by
 have h1:(0:Int) < j:=hc;exact mod_int' (by lia) (by rw [Int.fmod_eq_emod_of_nonneg i (by lia)]; exact q)
theorem unI{f:Value->Sem Value}{g:Int->Int}
  (rule:∀ (i:Int) (t:Tok) (s:az) (Q:Value->az->Prop) (E:Value->az->Prop),Q (.int (g i) s.toks) { s with toks:=s.toks+1 }->wpAny (model X.prog X.w) X.A (f (.int i t)) Q E s) :
  UnR X f (rU fun i=>.int (g i)):=by
 intro pins s σ H x v Q I rx h;obtain⟨i,rfl,q⟩:=h;obtain⟨t,rfl⟩:=rx;exact rule i t s _ _ ⟨.int (g i),H,I.tok _,⟨_,rfl⟩,q⟩
theorem TU:UnR X (unaryOp .USub) (rU fun i=>.int (-i)):=unI fun _ _ _ _ _ q=>neg_int q
end
section
variable {X:Cx} {a b c:Expr} {ta tb tc:TE} {pos:Pos}
theorem Wq:MH X (fb .Lt) (Wi fun i j=>.bl (decide (i < j))):=YV fun _ _ _ _ _ _ _ q=>lt_int q
theorem eZ(b:Expr){op:CmpOp}(h:autoParam (op≠.In) Ad._auto_1)(h2:autoParam (op≠.NotIn) Ad._auto_1):behindInMarks op b=false:=by
 have e1:(op == CmpOp.In)=false:=by cases op <;> first | rfl | exact absurd rfl h
 have e2:(op == CmpOp.NotIn)=false:=by cases op <;> first | rfl | exact absurd rfl h2
 cases b with
 | Set es k _ =>
  show (k == 0&&(op == .In||op == .NotIn)&&es.all (constantsAlone 8))=false;rw [e1,e2,Bool.or_false,JI,JH]
 | _=>rfl
noncomputable def Vv(K:au)(x:V)(H:Hp)(k:Bool):Prop :=
 match x with
 | .eQ=>k=false
 | .bl b=>k=b
 | .int i=>k=(i != 0)
 | .str y=>y.length<=aZ/\k=((y.length:Int) != 0)
 | .Vo y=>y.size<=aZ/\k=((y.size:Int) != 0)
 | .ref p=>(∃ xs,oS K H p xs/\k=!xs.isEmpty)\/(∃ xs,xU K H p xs/\k=!xs.isEmpty)\/∃ kvs,H p=some (.dK kvs)/\k=!kvs.isEmpty
 | _=>False
theorem Ir{κ:Type}{kvs:List (κ×V)}{vs:List (κ×Value)}(r:KV kvs vs):(!vs.isEmpty)=!kvs.isEmpty:=by
 cases r <;> rfl
theorem zj{xs:List V}{bH:List Value}(r:Vals xs bH):(!bH.toArray.isEmpty)=!xs.isEmpty:=by
 cases r <;> simp
theorem zc:(aZ:Nat) < 2 ^ 63:=by rw [cF]; decide
theorem TY:aaG X (fun x H Q=>∃ k,Vv X.K x H k/\Q k H):=by
 intro pins s σ H x v Q I rx h;obtain⟨k,e,q⟩:=h;have hl:=zc;have hs:aZ=16777216:=cF;cases x with
 | eQ =>
  cases rx;have e':k=false:=e;subst e';exact truthy_none ⟨H,I,q⟩
 | bl b =>
  cases rx;have e':k=b:=e;subst e';exact nV ⟨H,I,q⟩
 | int i =>
  obtain⟨t,rfl⟩:=rx;have e':k=(i != 0):=e;subst e';exact PySem.P.truthy_int ⟨H,I,q⟩
 | str y =>
  obtain⟨t,rfl⟩:=rx;obtain⟨hy,e'⟩:y.length<=aZ/\k=((y.length:Int) != 0):=e;subst e';exact PySem.P.truthy_str (by lia) ⟨H,I.tok _,q⟩
 | Vo y =>
  obtain⟨t,rfl⟩:=rx;obtain⟨hy,e'⟩:y.size<=aZ/\k=((y.size:Int) != 0):=e;subst e';exact PySem.W.truthy_bytes (by lia) ⟨H,I.tok _,q⟩
 | ref p =>
  cases rx;have e':(∃ xs,oS X.K H p xs/\k=!xs.isEmpty)\/(∃ xs,xU X.K H p xs/\k=!xs.isEmpty)\/∃ kvs,H p=some (.dK kvs)/\k=!kvs.isEmpty:=e;rcases e' with ⟨xs,hx,e'⟩ | ⟨xs,hx,e'⟩ | ⟨kvs,hx,e'⟩
  ·subst e';obtain⟨bH,r,pl,hz⟩:=I.list hx;have hlen:=r.length;exact wpAny_truthy_list pl.isList (by simp only [aX]; lia) ⟨H,I.tok _,by rw [zj r]; exact q⟩
  ·subst e';obtain⟨bH,r,pl,hz⟩:=I.tuple hx;have hlen:=r.length;exact truthy_tuple pl (by simp only [aX]; lia) ⟨H,I.tok _,by rw [zj r]; exact q⟩
  ·subst e';obtain⟨hz,hS,vs,r,m⟩:kvs.length<=aZ/\(p == da)=false/\∃ vs,KV kvs vs/\s.heap.DictOf (cC X.prog X.w) p vs:=I.cn p _ hx;have hlen:kvs.length=vs.length:=iI r;exact Hb hS m (by lia) ⟨H,I.tok _,by rw [Ir r]; exact q⟩
 | _=>exact(show False from e).elim
theorem HV:MH X (jh .Add) (fun x y H Q=>∃ i j,x=.str i/\y=.str j/\i.length+j.length<=aZ/\Q (.str (i++j)) H):=by
 intro pins s σ H x y v u Q I rx ry h;obtain⟨i,j,rfl,rfl,hz,q⟩:=h;obtain⟨t,rfl⟩:=rx;obtain⟨t',rfl⟩:=ry;exact add_str (fun t' tk=>⟨.str (i++j),H,I.tok _,⟨_,rfl⟩,q⟩) hz
theorem vals1{x:V}{us:List Value}(r:Vals [x] us):∃ u,us=[u]/\RelV x u:=by
 cases r with
 | cons r1 r2=>cases r2; exact⟨_,rfl,r1⟩
theorem vals2{x y:V}{us:List Value}(r:Vals [x,y] us):∃ u w',us=[u,w']/\RelV x u/\RelV y w':=by
 cases r with
 | cons r1 r2 =>
  cases r2 with
  | cons r3 r4=>cases r4; exact⟨_,_,rfl,r1,r3⟩
noncomputable def XF(K:au)(x:V)(H:Hp)(n:Nat):Prop :=
 match x with
 | .str y=>y.length<=aZ/\n=y.length
 | .Vo y=>y.size<=aZ/\n=y.size
 | .ref p=>(∃ xs,oS K H p xs/\n=xs.length)\/∃ xs,xU K H p xs/\n=xs.length
 | _=>False
theorem PZ:Qs X (.builtin "len") (fun xs H Q=>∃ x n,xs=[x]/\XF X.K x H n/\Q (.int n) H):=by
 intro pins s σ H xs us Q I r h;obtain⟨x,n,rfl,e,q⟩:=h;obtain⟨u,rfl,rx⟩:=vals1 r;have hl:=zc;have hs:aZ=16777216:=cF;cases x with
 | str y =>
  obtain⟨t,rfl⟩:=rx;obtain⟨hy,e'⟩:y.length<=aZ/\n=y.length:=e;subst e';exact len_str (by lia) ⟨.int _,H,I.tok _,⟨_,rfl⟩,q⟩
 | Vo y =>
  obtain⟨t,rfl⟩:=rx;obtain⟨hy,e'⟩:y.size<=aZ/\n=y.size:=e;subst e';exact PySem.W.len_bytes (by lia) ⟨.int _,H,I.tok _,⟨_,rfl⟩,q⟩
 | ref p =>
  cases rx;have e':(∃ xs,oS X.K H p xs/\n=xs.length)\/∃ xs,xU X.K H p xs/\n=xs.length:=e;rcases e' with ⟨xs,hx,e'⟩ | ⟨xs,hx,e'⟩
  ·subst e';obtain⟨bH,r',pl,hz⟩:=I.list hx;have hlen:=r'.length;exact Calls.call_len_list pl.isList (by simp only [aX]; lia) ⟨.int xs.length,H,I.tok _,⟨_,by simp only [aX]; rw [hlen]⟩,q⟩
  ·subst e';obtain⟨bH,r',pl,hz⟩:=I.tuple hx;have hlen:=r'.length;exact len_tuple pl (by simp only [aX]; lia) ⟨.int xs.length,H,I.tok _,⟨_,by simp only [aX]; rw [hlen]⟩,q⟩
 | _=>exact(show False from e).elim
end
theorem wj.some_of{v:V}{o:Option Value}(r:wj (some v) o):∃ u,o=some u/\RelV v u:=by
 cases o with
 | none=>exact(show False from r).elim
 | some u=>exact⟨u,rfl,r⟩
structure lV(k:Nat)(A:dI):Prop where
 hd:A.handled=none
 dp:A.depth+3 * k+5 < recursionLimit
 un:A.units+16 * k+200 < cLine
theorem lV.mono{j k:Nat}{A:dI}(r:lV k A)(h:j<=k):lV j A:=⟨r.hd,by have:=r.dp; lia,by have:=r.un; lia⟩
theorem lV.deeper{k:Nat}{A:dI}(r:lV (k+1) A)(env:Env):lV k (A.deeper env) :=
 ⟨r.hd,by have:=r.dp; show A.depth+1+3 * k+5 < _; lia,by have:=r.un; show A.units+3+16 * k+200 < _; lia⟩
theorem lV.depth{k:Nat}{A:dI}(r:lV k A):A.depth < recursionLimit:=by have:=r.dp; lia
theorem lV.units{k:Nat}{A:dI}(r:lV k A):A.units+64 < cLine:=by have:=r.un; lia
theorem lV.Hy{k:Nat}{A:dI}(r:lV k A):A.units < cLine:=by have:=r.un; lia
noncomputable abbrev Sp:=List V->Hp->VK->XK->Prop
noncomputable abbrev K8:=List Env->Hp->az->XK->Value->az->Prop
structure SF(P:bI)(w:World)(K:au)(mg:Str->Option Value)(base:Heap)(A:dI)(outer:List Env)(s:az)(H:Hp):Prop where
 frames:A.frames=some outer
 mod:Mod K mg base
 bs:∀ b o,base.get? b=some o->s.heap.get? b=some o/\H b=none
 Sr:base.objs.size<=s.heap.objs.size
 zt:s.heap.FunFrames base outer
 VQ:∀ b∈M3 outer,H b=none
 cn:pV P w H s.heap
 bare:Cm s.gens
noncomputable def CE(outer:List Env)(P:bI)(w:World)(H:Hp)(s:az)(Q:VK)(u:Value)(s':az):Prop :=
 ∃ v H',s'.os=s.os/\Cm s'.gens/\Un (M3 outer) [] H H' s.heap s'.heap/\pV P w H' s'.heap/\RelV v u/\Q v H'
noncomputable def CR(CX:K8)(outer:List Env)(P:bI)(w:World)(H:Hp)(s:az)(Q:VK)(E:XK)(r:Result)(s':az):Prop :=
 match r with
 | .ok (.ret u)=>CE outer P w H s Q u s'
 | .ok _=>False
 | .error e=>CX outer H s E e s'
structure wu(P:bI)(w:World)(K:au)(mg:Str->Option Value)(base:Heap)(CX:K8)(k:Nat)(f:Addr)(fd:gm)(ps:List Str)(sp:Sp):Prop where
 len:∀ vs H Q E,sp vs H Q E->vs.length=ps.length
 run:∀ (A:dI) (outer:List Env) (s:az) (H:Hp) (args:Args) (us:List Value) (vs:List V) (Q:VK) (E:XK),lV k A->SF P w K mg base A outer s H->BindsTo s fd args (ps.zip us)->Vals vs us->sp vs H Q E ->
  Ce (model P w) A (.call (.ref f) args) (CR CX outer P w H s Q E) s
section
variable {X:Cx} {pins:List (Addr×Obj)} {σ:St} {H:Hp} {s s':az}
theorem Inv.aat(I:Inv X pins σ H s):SF X.prog X.w X.K X.mg X.base X.A X.stack s H :=
 ⟨I.ok.frames,I.ok.mod,I.bs,bw I.ok.Sr I.sz,I.stack,I.JR,I.cn,I.bare⟩
theorem Inv.after{Q:VK}{u:Value}(I:Inv X pins σ H s)(h:CE X.stack X.prog X.w H s Q u s'):EP X pins σ Q u s':=by
 obtain⟨v,H',os,bare,un,cn,r,q⟩:=h;obtain⟨hh,g,d,t,os'⟩:=s';obtain rfl:os'=s.os:=os;exact⟨v,H',I.call (h':=hh) (g':=g) (d':=d) (t':=t) (ch:=[]) un cn bare (fun b z=>absurd z (by simp)),r,q⟩
end
noncomputable def Binds(K:au)(fd:gm)(ps:List Str)(ds:List Value):Prop :=
 ∀ (s:az) (us:List Value),K.In s.heap->(us++ds).length=ps.length->BindsTo s fd ⟨us,[]⟩ (ps.zip (us++ds))
theorem Binds.all{K:au}{fd:gm}{ps:List Str}(h:∀ us:List Value,us.length=ps.length->bindArgs fd ⟨us,[]⟩=pure (ps.zip us)):Binds K fd ps []:=fun s us _ hl=>by
 rw [dq] at hl ⊢;exact .of_eq (h us hl)
noncomputable def Passes(CX:K8)(X:Cx)(E:XK):Prop:=∀ (pins:List (Addr×Obj)) (σ:St) (H:Hp) (s:az) (e:Value) (s':az),Inv X pins σ H s->CX X.stack H s E e s'->X.xe e s'
section
variable {X:Cx} {CX:K8} {k:Nat} {f C:Addr} {fd:gm} {ps:List Str} {sp:Sp} {Yl:List V} {ds:List Value} {E:XK} {x m:Str} {p pos apos:Pos} {e o:Expr} {es:List Expr} {ta:TE} {t:TA}
theorem NO{pins:List (Addr×Obj)}{σ:St}{H:Hp}{s:az}{Q:VK}{us:List Value}{vs:List V}(F:wu X.prog X.w X.K X.mg X.base CX k f fd ps sp)(hr:lV k X.A)(hb:Binds X.K fd ps ds)(hd:Vals Yl ds)(hx:Passes CX X E)
  (I:Inv X pins σ H s) (r:Vals vs us) (h:sp (vs++Yl) H Q E):wpAny (model X.prog X.w) X.A (call (.ref f) us) (EP X pins σ Q) X.xe s:=by
 have r2:Vals (vs++Yl) (us++ds):=r.append hd;have hl:(us++ds).length=ps.length:=by rw [<-r2.length]; exact F.len _ _ _ _ h
 refine wpAny_call (codeAny_mono (F.run X.A X.stack s H ⟨us,[]⟩ (us++ds) (vs++Yl) Q E hr I.aat (hb s us I.Ip hl) r2 h) fun r s' hq=>?_);cases r with
 | error e=>exact hx pins σ H s e s' I hq
 | ok fl =>
  cases fl with
  | ret u=>exact I.after hq
  | next=>exact bN hq
  | brk=>exact bN hq
  | cont=>exact bN hq
end
structure nT(N P:List Str)(sc:Scope):Prop where
 kind:sc.kind=.function
 co:sc.isCoroutine=false
 gen:sc.isGenerator=false
 nd:N.Nodup
 pre:N.take P.length=P
 par:∀ x∈P,sc.names.lookup x=some .local\/sc.names.lookup x=some .cell
 UL:∀ y∈sc.names,y.2≠.free
theorem B4{kindOf:Str->Option sy}{x:Str}:∀ {binds:List (Str×Value)} {m:Str->Option Value},(∀ v,(x,v)∉binds)->bindL kindOf binds m x=m x
 | [],_,_=>rfl
 | (n,v) :: r,m,h=>by
  unfold bindL;rw [B4 fun w hw=>h w (aL _ hw)];split
  ·have:x≠n:=by rintro rfl; exact h v cp
   simp [this]
  ·rfl
theorem B6{kindOf:Str->Option sy}{x:Str}:∀ {binds:List (Str×Value)} {m:Str->Option Value},(∀ v,(x,v)∉binds)->bindC kindOf binds m x=m x
 | [],_,_=>rfl
 | (n,v) :: r,m,h=>by
  unfold bindC;rw [B6 fun w hw=>h w (aL _ hw)];split
  ·rfl
  ·have:x≠n:=by rintro rfl; exact h v cp
   simp [this]
theorem B5{kindOf:Str->Option sy}{x:Str}{v:Value}:∀ {P:List Str} {vs:List Value} {i:Nat} {m:Str->Option Value},P.Nodup->P[i]?=some x->vs[i]?=some v->kindOf x=some .local ->
  bindL kindOf (P.zip vs) m x=some v
 | [],_,_,_,_,h,_,_=>by simp at h
 | _ :: _,[],_,_,_,_,h,_=>by simp at h
 | p :: P,w :: vs,0,m,nd,h1,h2,hk=>by
  simp at h1 h2; subst h1; subst h2;show bindL kindOf ((p,w) :: P.zip vs) m p=_;unfold bindL;rw [B4 fun v hv=>(List.nodup_cons.mp nd).1 (GK hv).1,if_pos hk];simp
 | p :: P,w :: vs,i+1,m,nd,h1,h2,hk=>by
  show bindL kindOf ((p,w) :: P.zip vs) m x=_;unfold bindL;exact B5 (i:=i) (List.nodup_cons.mp nd).2 (by simpa using h1) (by simpa using h2) hk
theorem B7{kindOf:Str->Option sy}{x:Str}{v:Value}:∀ {P:List Str} {vs:List Value} {i:Nat} {m:Str->Option Value},P.Nodup->P[i]?=some x->vs[i]?=some v->kindOf x≠some .local ->
  bindC kindOf (P.zip vs) m x=some v
 | [],_,_,_,_,h,_,_=>by simp at h
 | _ :: _,[],_,_,_,_,h,_=>by simp at h
 | p :: P,w :: vs,0,m,nd,h1,h2,hk=>by
  simp at h1 h2; subst h1; subst h2;show bindC kindOf ((p,w) :: P.zip vs) m p=_;unfold bindC;rw [B6 fun v hv=>(List.nodup_cons.mp nd).1 (GK hv).1,if_neg hk];simp
 | p :: P,w :: vs,i+1,m,nd,h1,h2,hk=>by
  show bindC kindOf ((p,w) :: P.zip vs) m x=_;unfold bindC;exact B7 (i:=i) (List.nodup_cons.mp nd).2 (by simpa using h1) (by simpa using h2) hk
noncomputable def start(N:List Str)(vs:List V):St:=vs.map some++aO (N.length - vs.length) none
noncomputable def Ds(CX:K8)(P:bI)(w:World)(K:au)(mg:Str->Option Value)(base:Heap)(N:List Str)(qual:Str)(scope:Scope)(f:Addr)(cd:Value)(A:dI)(outer:List Env)(s:az)(H:Hp)(E:XK):Cx where
 prog:=P
 w:=w
 K:=K
 mg:=mg
 base:=base
 A:=A.deeper (A6 qual scope s.heap.objs.size f cd)
 N:=N
 ny:=s
 Qr:=H
 env:=A6 qual scope s.heap.objs.size f cd
 outer:=outer
 stack:=A6 qual scope s.heap.objs.size f cd :: outer
 ex:=[]
 calm:=true
 fn:=fun _=>true
 pn:=[]
 xe:=fun e s'=>wpAny (model P w) (A.deeper (A6 qual scope s.heap.objs.size f cd)) (leaving (A6 qual scope s.heap.objs.size f cd) e) (fun _ Wd=>CX outer H s E e Wd) (fun e' Wd=>CX outer H s E e' Wd) s'
theorem Gn{sc:Scope}{n:Nat}{x:Str}(h:sc.names.lookup x=some .cell):∃ c,(cellsFrom n sc.names []).lookup x=some c:=by
 have q:=Jw sc.names n [] (.inl h);exact Option.isSome_iff_exists.mp q
theorem L8{CX:K8}{P:bI}{w:World}{K:au}{mg:Str->Option Value}{base:Heap}{N ps:List Str}{qual:Str}{scope:Scope}{f:Addr}{cd:Value}{A:dI}{outer:List Env}{s s1:az}{H:Hp}{E:XK}{us:List Value}{vs:List V}
  (S:nT N ps scope) (hd:A.handled=none) (e0:SF P w K mg base A outer s H) (hl:vs.length=ps.length) (r:Vals vs us)
  (x:InCallC s s.heap.objs.size (bindL (A6 qual scope s.heap.objs.size f cd).kindOf (ps.zip us) fun _=>none) (cellsFrom (s.heap.objs.size+1) scope.names []) (bindC (A6 qual scope s.heap.objs.size f cd).kindOf (ps.zip us) fun _=>none) s1) :
  Inv (Ds CX P w K mg base N qual scope f cd A outer s H E) [] (start N vs) H s1:=by
 have GV:ps.length<=N.length:=by have:=congrArg dO S.pre; rw [eL] at this; lia
 obtain⟨h1,tk,rfl,hk⟩:=x.done;have Wx:∀ b:Addr,b∉(Ds CX P w K mg base N qual scope f cd A outer s H E).ex:=fun b z=>absurd (show b∈([]:List Addr) from z) (by simp);refine⟨⟨e0.mod,S.kind,rfl,rfl,aC _,fun y z c h1 h2=>?_,fun y hy=>?_,fun y c _ h=>?_,fun _=>hd,Around.frames_deeper e0.frames,.inr ⟨rfl,rfl⟩,fun b z=>absurd z (Wx b),e0.bs,e0.Sr,fun b _ _=>Wx b,fun b z=>absurd z (Wx b),e0.zt,e0.VQ⟩,
  rfl,e0.bare,Un.kept hk,⟨_,x.toInCall.ns,fun i y v h1 h2 h3=>?_⟩,fun y c h=>⟨_,x.cell y c h⟩,e0.cn.fresh (aC _),fun y c h=>?_,fun p hp=>absurd (show p∈([]:List (Addr×Obj)) from hp) (by simp),e0.cn.kept hk,?_⟩
 ·exact name_of_addr x.apart (iL h1) (iL h2)
 ·have hy:scope.names.lookup y=some .cell\/scope.names.lookup y=some .free:=hy;rcases hy with hy | hy
  ·exact Gn hy
  ·exact absurd rfl (S.UL _ (iL hy))
 ·exact QO (x.above y c (iL h))
 ·have hi:i < vs.length:=by
   unfold start at h2;by_cases hi:i < vs.length
   ·exact hi
   ·rw [bG (by simpa using hi)] at h2;rw [gj] at h2;split at h2 <;> cases h2
  have ha:vs[i]?=some v:=by
   unfold start at h2;rw [bS (by simpa using hi),bq] at h2;cases e:vs[i]? with
   | none=>rw [e] at h2; cases h2
   | some a=>rw [e] at h2; cases h2; rfl
  obtain⟨u,hu,rv⟩:=r.get ha;have hp:ps[i]?=some y:=by
   rw [<-S.pre,List.getElem?_take_of_lt (by lia)]; exact h1
  have ndP:ps.Nodup:=by rw [<-S.pre]; exact S.nd.sublist (List.take_sublist _ _)
  refine⟨u,rv,?_⟩;rcases S.par y (bx hp) with k | k
  ·exact .inl ⟨k,B5 ndP hp hu k⟩
  ·obtain⟨c,e⟩:=Gn (n:=s.heap.objs.size+1) k;refine .inr ⟨.inl k,c,e,?_⟩;have q:=x.cell y c e;rw [B7 ndP hp hu (by show scope.names.lookup y≠_; rw [k]; decide)] at q;exact q
 ·exact e0.cn.fresh (QO (x.above y c (iL h)))
 ·unfold start;show _=N.length;rw [aE,ak,eV];lia
theorem Xl{CX:K8}{P:bI}{w:World}{K:au}{mg:Str->Option Value}{base:Heap}{k:Nat}{f:Addr}{name qual:Str}{params:Arguments}{body:List Stmt}{scope:Scope}{dV kV doc pm mE ct oc:Value}{an od:Option Addr}
  {LJ:Array (Option Value)} {N ps:List Str} {sp:Sp} (lk:K.lookup f=some ⟨oc,od,.func (kD name qual params body scope dV kV doc pm an mE ct),LJ⟩) (Ks:Ec K mE qual=true) (S:nT N ps scope)
  (len:∀ vs H Q E,sp vs H Q E->vs.length=ps.length)
  (Pp:∀ (A:dI) (outer:List Env) (s:az) (H:Hp) (vs:List V) (Q:VK) (E:XK),lV k (A.deeper (A6 qual scope s.heap.objs.size f mE))->sp vs H Q E ->
   ∃ t,VX (Ds CX P w K mg base N qual scope f mE A outer s H E) body t/\t { nx:=fun _ H'=>Q .eQ H',rt:=Q } (start N vs) H) :
  wu P w K mg base CX (k+1) f (kD name qual params body scope dV kV doc pm an mE ct) ps sp:=by
 refine⟨len,fun A outer s H args us vs Q E hr e0 hb r Td=>?_⟩;have hl:=len _ _ _ _ Td;have KX:K.In s.heap:=e0.mod.WJ.keeps fun b o e=>(e0.bs b o e).1;have lim:s.heap.NoLimit:=e0.mod.nolimit.keeps fun b o e=>(e0.bs b o e).1;have BG:∀ y∈ps.zip us,scope.names.lookup y.1=some .local\/(scope.names.lookup y.1=some .cell/\((cellsFrom (s.heap.objs.size+1) scope.names []).lookup y.1).isSome=true):=fun ⟨n,v⟩ hy=>by
  rcases S.par n (GK hy).1 with q | q
  ·exact .inl q
  ·exact .inr ⟨q,Jw _ _ _ (.inl q)⟩
 refine codeAny_call_function hr.depth (KX _ _ lk) rfl S.co S.gen rfl (PySem.W.codeRec_of KX Ks) (hb _ _ _ _ ?_);refine wpAny_newFunctionEnv_cells S.kind BG fun env he s1 x=>?_;subst he;refine⟨lim.keeps x.toInCall.keep,codeAny_func ?_⟩;obtain⟨t,ht,hq⟩:=Pp A outer s H vs Q E (hr.deeper _) Td;have I:Inv (Ds CX P w K mg base N qual scope f mE A outer s H E) [] (start N vs) H s1:=L8 S hr.hd e0 hl r x;refine Hd (ht [] s1 (start N vs) H _ I hq) (fun fl s' hs=>?_) fun e s' hs=>hs;have fin:∀ {jX:St} {H':Hp} {v:V} {u:Value},Inv (Ds CX P w K mg base N qual scope f mE A outer s H E) [] jX H' s'->RelV v u->Q v H'->CE outer P w H s Q u s' :=
  fun {jX H' v u} J rv q=>⟨v,H',J.os,J.bare,J.base,J.cn,rv,q⟩
 cases fl with
 | ret u =>
  obtain⟨v,jX,H',J,rv,q⟩:=hs;exact fin J rv q
 | next =>
  obtain⟨jX,H',J,q⟩:=hs;exact fin (v:=V.eQ) (u:=gn) J rfl q
 | brk =>
  obtain⟨_,_,_,q⟩:=hs;exact bN q
 | cont =>
  obtain⟨_,_,_,q⟩:=hs;exact bN q
end L2
namespace HT
open PySem PyProof.Rows
noncomputable def lexLt:List Int->List Int->Bool
 | [],[]=>false
 | [],_ :: _=>true
 | _ :: _,[]=>false
 | x :: xs,y :: ys=>if x=y then lexLt xs ys else decide (x < y)
theorem Im(x y:Int)(xs ys:List Int):lexLt (x :: xs) (y :: ys)=if x=y then lexLt xs ys else decide (x < y):=rfl
theorem AM:lexLt [] []=false:=rfl
theorem zd(y:Int)(ys:List Int):lexLt [] (y :: ys)=true:=rfl
theorem ze(x:Int)(xs:List Int):lexLt (x :: xs) []=false:=rfl
theorem PI(A:dI)(s:az)(a:Int)(t:Tok)(c:Int)(u:Tok):∃ e,SeqAt.EqAt A s (.int a t) (.int c u) e/\(e=true↔a=c) :=
 ⟨(a == c),SeqAt.EqAt.int_int a t c u,by simp⟩
theorem yF(A:dI)(s:az)(a:Int)(t:Tok)(c:Int)(u:Tok)(prog:bI)(w:World)(E:Value->az->Prop)(Q:Value->az->Prop)(h:Q (.bool (decide (a < c))) s) :
  wpAny (model prog w) A (qk .Lt (.int a t) (.int c u)) Q E s :=
 (PyProof.Rows.lt_int h:wpAny (model prog w) A (fb .Lt (.int a t) (.int c u)) Q E s)
section
open PySem.SeqAt
open PySem.AutoSeq1 (wpAny_loadPart')
open PySem.MeetsSeq PySem.MeetsSeq2 PySem.MeetsSeq3
theorem AA(l b:Addr)(items ot:Array Value)(n n2:Nat)(dd D3:Option Addr)(sl JV:Array (Option Value))(ns ms:List Int)(hi:mK items.toList ns)(hj:mK ot.toList ms) :
  Meets (Builtin.«tuple.__lt__» ⟨[.ref l,.ref b],[]⟩)
   (fun _ R s=>s.heap.get? l=some { cls:=.type "tuple",dict:=dd,data:=.seq items n,slots:=sl }/\s.heap.get? b=some { cls:=.type "tuple",dict:=D3,data:=.seq ot n2,slots:=JV } /\
    R (.ok (.ret (.bool (lexLt ns ms)))) s) :=
 .of_wp fun prog w A R s h=>by
  obtain⟨hp,g,d,tk,os⟩:=s; obtain⟨hl,hb,h⟩:=h;have f2:=pK;have z1:items.size=ns.length:=by rw [<-hi.length]; simp
  have z2:ot.size=ms.length:=by rw [<-hj.length]; simp
  wp_walk using bZ hl,bZ hb,lF _ (fun rest b s'=>b.1=none/\s'=⟨hp,g,d,tk,os⟩/\∃ (vs ws:List Value) (VG VI:List Int),rest=vs.zip ws /\
   mK vs VG/\mK ws VI/\VG.length+ot.size=VI.length+items.size/\R (.ok (.ret (.bool (lexLt VG VI)))) ⟨hp,g,d,tk,os⟩) _
  case turn =>
   rintro⟨y,x⟩ rest b s' ⟨IA,rfl,vs,ws,VG,VI,hz,ZC,X7,hlen,hR⟩;cases ZC with
   | nil=>rw [List.zip_nil_left] at hz; cases hz
   | cons a t ZA =>
    cases X7 with
    | nil=>rw [List.zip_nil_right] at hz; cases hz
    | cons c u Zy =>
     rw [pY] at hz;injection hz with Zr Pe
     injection Zr with hy hx
     subst hy hx;rw [Im] at hR;simp only [aj] at hlen;obtain⟨e,he,W5⟩:=PI A.in1 ⟨hp,g,d,tk,os⟩ a t c u;refine ag (he prog w _ _ ?_);cases e with
     | true =>
      rw [if_pos (W5.mp rfl)] at hR
      wp_walk
      exact⟨rfl,rfl,_,_,_,_,Pe,ZA,Zy,by lia,hR⟩
     | false =>
      rw [if_neg (fun q=>absurd (W5.mpr q) gZ)] at hR;have WT:=yF A.in1 ⟨hp,g,d,tk,os⟩ a t c u prog w
      wp_walk using WT
      exact⟨_,rfl,by simpa using hR⟩
  case fin =>
   rintro⟨b1,b2⟩ s' ⟨IA,rfl,vs,ws,VG,VI,hz,ZC,X7,hlen,hR⟩;simp only at IA;subst IA;have hv:lexLt VG VI=decide (items.size < ot.size):=by
    cases ZC with
    | nil =>
     cases X7 with
     | nil =>
      simp only [ax] at hlen;rw [AM];exact(decide_eq_false (by lia)).symm
     | cons c u hw =>
      simp only [ax,aj] at hlen;rw [zd];exact(decide_eq_true (by lia)).symm
    | cons a t hv =>
     cases X7 with
     | nil =>
      simp only [ax,aj] at hlen;rw [ze];exact(decide_eq_false (by lia)).symm
     | cons c u hw =>
      rw [pY] at hz;cases hz
   rw [hv] at hR
   wp_walk
   exact⟨_,rfl,by simpa [tW] using hR⟩
  case h =>
   exact⟨rfl,rfl,items.toList,ot.toList,ns,ms,rfl,hi,hj,by lia,h⟩
end
section
variable {prog:bI} {w:World} {A:dI} {E:Value->az->Prop} {s:az}
theorem y0{l b:Addr}{items ot:Array Value}{ns ms:List Int}{Q:Value->az->Prop}(hl:IsTup s.heap l items)(hb:IsTup s.heap b ot)(hi:mK items.toList ns)(hj:mK ot.toList ms)
  (hu:A.units < cLine) (h:Q (.bool (lexLt ns ms)) s):wpAny (model prog w) A (fb .Lt (.ref l) (.ref b)) Q E s:=by
 obtain⟨⟨cls,dd,data,sl⟩,ho,hc,n,hd⟩:=id hl;obtain⟨⟨PX,D3,data2,JV⟩,BF,C2,n2,hd2⟩:=id hb;simp only at hc hd C2 hd2;subst hc hd C2 hd2;exact xh (op:=.Lt) ⟨_,ho,rfl⟩ ⟨_,BF,rfl⟩ md se (qt _ _) (AA l b items ot n n2 dd D3 sl JV ns ms hi hj)
  ⟨ho,BF,show Value.bool (lexLt ns ms)≠Value.notImplemented/\Q (.bool (lexLt ns ms)) s from⟨(fun x=>nomatch x),h⟩⟩ hu
theorem Si{t b:Addr}{vs ws:List Value}{Q:Value->az->Prop}(ht:IsTup s.heap t vs.toArray)(hb:IsTup s.heap b ws.toArray)(hv:vs≠[])
  (h1:ws=[]->Q (.ref t) s) (h2:ws≠[]->Q (.ref s.heap.objs.size) { s with heap:=s.heap.push { cls:=.type "tuple",data:=.seq (vs++ws).toArray } })
  (hsz:vs.length+ws.length<=aZ):wpAny (model prog w) A (jh .Add (.ref t) (.ref b)) Q E s:=by
 obtain⟨⟨cls,dd,data,sl⟩,ho,hc,n,hd⟩:=id ht;obtain⟨⟨PX,D3,data2,JV⟩,BF,C2,n2,hd2⟩:=id hb;simp only at hc hd C2 hd2;subst hc hd C2 hd2;have e:vs.toArray++ws.toArray=(vs++ws).toArray:=by simp
 by_cases hw:ws=[]
 ·exact concat_meets ⟨_,ho,rfl⟩ ⟨_,BF,rfl⟩ noFill_tuple_add seq_tuple_add Jx Hn (GJ _ _)
   (tuple_addW1 t b vs.toArray ws.toArray n n2 dd D3 sl JV (by simpa using hv) (by simp [hw])) ⟨ho,BF,h1 hw⟩
 ·refine concat_meets ⟨_,ho,rfl⟩ ⟨_,BF,rfl⟩ noFill_tuple_add seq_tuple_add Jx Hn (GJ _ _)
   (tuple_addW2 t b vs.toArray ws.toArray n n2 dd D3 sl JV (by simpa using hv) (by simpa using hw) (by rw [aX,aX]; exact hsz)) ⟨ho,BF,?_⟩
  rw [e];exact h2 hw
noncomputable def jJ(n d:Nat):Option Int->Nat
 | none=>d
 | some v=>if v < 0 then (v+(n:Int)).toNat else min v.toNat n
theorem Uj(n d:Nat)(hd:d<=n)(o:Option Int):jJ n d o<=n:=by
 cases o with
 | none=>exact hd
 | some v =>
  show (if v < 0 then (v+(n:Int)).toNat else min v.toNat n)<=n;by_cases hv:v < 0
  ·rw [if_pos hv]; lia
  ·rw [if_neg hv]; exact Nat.min_le_right _ _
theorem KR(v:Int)(n d:Nat):(if v < 0 then max (v+(n:Int)) 0 else min v (n:Int))=((jJ n d (some v):Nat):Int):=by
 show (if v < 0 then max (v+(n:Int)) 0 else min v (n:Int))=(((if v < 0 then (v+(n:Int)).toNat else min v.toNat n):Nat):Int);by_cases hv:v < 0
 ·simp only [if_pos hv]; lia
 ·simp only [if_neg hv]; lia
theorem Jg(lo hi:Option Int)(n:Nat):nu lo hi 1 (n:Int)=(((jJ n 0 lo:Nat):Int),((jJ n n hi:Nat):Int)):=by
 have h1:¬ ((1:Int) < 0):=by lia
 unfold nu;simp only [h1,if_false];refine Prod.ext ?_ ?_
 ·cases lo with
  | none=>rfl
  | some v=>exact KR v n 0
 ·cases hi with
  | none=>rfl
  | some v=>exact KR v n n
theorem HN(i j:Nat):jm (i:Int) (j:Int) 1=j - i:=by
 unfold jm;have h1:(1:Int) > 0:=by lia
 simp only [h1,if_true,Int.ediv_one];split <;> lia
theorem yp{v:Value}{o:Option Int}{Q:Option Int->az->Prop}(p:IsPart v o)(h:Q o s):wpAny (model prog w) A (Builtin.Slice.slicePartIndex v) Q E s:=by
 cases p with
 | none=>exact slicePart_none h
 | int i t=>exact slicePart_int h
theorem vF{sl:Addr}{vl vu:Value}{lo hi:Option Int}{n:Nat}{Q:Int×Int×Nat->az->Prop}(hs:s.heap.IsSliceOf sl vl vu .none)(pl:IsPart vl lo)(pu:IsPart vu hi)
  (h:Q (((jJ n 0 lo:Nat):Int),1,jJ n n hi - jJ n 0 lo) s):wpAny (model prog w) A (xA (.ref sl) (pure (n:Int))) Q E s:=by
 obtain⟨os,WY,Xd,Yg⟩:=id hs;unfold xA Builtin.Slice.sliceFields;refine ag (ag (qi WY Yg (x:=vl) rfl (ag (qi WY Yg (x:=vu) rfl (ag (qi WY Yg (x:=.none) rfl (aA ?_)))))));refine ag (slicePart_none ?_);show wpAny _ _ (if ((1:Int) == 0)=true then _ else _) _ _ s;rw [if_neg (by decide)];refine ag (yp pl (ag (yp pu (ag (aA ?_)))));show wpAny _ _ (match nu lo hi 1 (n:Int) with | (lo,hi)=>pure (lo,(1:Int),jm lo hi 1)) _ _ s;rw [Jg lo hi n];show wpAny _ _ (pure (((jJ n 0 lo:Nat):Int),(1:Int),jm ((jJ n 0 lo:Nat):Int) ((jJ n n hi:Nat):Int) 1)) _ _ s;rw [HN];exact aA h
theorem Oj(xs:Array Value)(i k:Nat):((ez k).filterMap fun (m:Nat)=>xs[((i:Int)+(m:Int) * 1).toNat]?).toArray=((xs.toList.drop i).take k).toArray:=by
 have e:(fun (m:Nat)=>xs[((i:Int)+(m:Int) * 1).toNat]?)=fun m=>xs[i+m]?:=by
  funext m;have:((i:Int)+(m:Int) * 1).toNat=i+m:=by lia
  rw [this]
 rw [e];have:=pick_run xs i k;rw [List.filterMap_map] at this;have e2:((fun x=>xs[x]?)∘fun x=>i+x)=fun m=>xs[i+m]?:=rfl;rw [e2] at this;rw [this]
theorem uR{t sl:Addr}{items:Array Value}{vl vu:Value}{lo hi:Option Int}{Q:Value->az->Prop}(ht:IsTup s.heap t items)(hs:s.heap.IsSliceOf sl vl vu .none)(pl:IsPart vl lo)(pu:IsPart vu hi)
  (hw:¬ (jJ items.size 0 lo=0/\jJ items.size items.size hi=items.size))
  (h:Q (.ref s.heap.objs.size) { s with heap:=s.heap.push { cls:=.type "tuple",data:=.seq ((items.toList.drop (jJ items.size 0 lo)).take (jJ items.size items.size hi - jJ items.size 0 lo)).toArray } })
  (hsz:items.size<=aZ):wpAny (model prog w) A (getItem (.ref t) (.ref sl)) Q E s:=by
 have Kr:sizeOk (.seq ((items.toList.drop (jJ items.size 0 lo)).take (jJ items.size items.size hi - jJ items.size 0 lo)).toArray):=by
  show ((items.toList.drop (jJ items.size 0 lo)).take (jJ items.size items.size hi - jJ items.size 0 lo)).toArray.size<=aZ;rw [aX];exact bw (bw (List.length_take_le' _ _) (by rw [cq,fA]; exact Nat.sub_le _ _)) hsz
 have hj:jJ items.size items.size hi<=items.size:=Uj _ _ (aC _) hi;obtain⟨os,WY,Xd,Yg⟩:=id hs;have hTs:s.TypeIs (.ref sl) "slice":=⟨os,WY,Xd⟩;unfold getItem
 try with_reducible refine eu ?_
 first | refine ag (aA ?_) | skip
 refine ag (wpAny_sequenceKey ht.typeIs (by decide) ?_);refine ag (jg (name:=vr "__getitem__") ht.typeIs ve
  (cX ve ht.typeIs entry_tuple_getitem ?_ (args_tuple_getitem _ _)))
 show wpAny _ _ (xx (.ref t) >>= _) _ _ s;refine ag (tupleItemsOf_ ht ?_);refine ag (wpAny_typeOf hTs ?_);rw [if_pos (by decide)];refine ag (vF hs pl pu ?_);have U0:¬ ((((jJ items.size 0 lo:Nat):Int) == 0&&(1:Int) == 1&&(jJ items.size items.size hi - jJ items.size 0 lo) == items.size)=true):=by
  intro q;rw [aJ,aJ] at q;have q1:((jJ items.size 0 lo:Nat):Int)=0:=eq_of_beq q.1.1;have q2:jJ items.size items.size hi - jJ items.size 0 lo=items.size:=eq_of_beq q.2;exact hw ⟨by lia,by lia⟩
 show wpAny _ _ (if (((jJ items.size 0 lo:Nat):Int) == 0&&(1:Int) == 1&&(jJ items.size items.size hi - jJ items.size 0 lo) == items.size)=true then _ else _) _ _ s;rw [if_neg U0,Oj]
 first
  | exact ag (m:=jH _) (cZ (aA ⟨_,rfl,aA h⟩) Kr)
  | exact ag (m:=jH _) (cZ (ag (aA (aA ⟨_,rfl,aA h⟩))) Kr)
  | exact ag (ag (m:=jH _) (cZ (aA (aA ⟨_,rfl,aA h⟩)) Kr))
  | exact ag (ag (m:=jH _) (cZ (aA ⟨_,rfl,aA h⟩) Kr))
end
end HT
namespace L2
open PySem PySem.Spec PyProof.Rows
noncomputable abbrev TO:=St->Hp->(Option Int->Hp->Prop)->Prop
theorem intsAre_of{ns:List Int}:∀ {us:List Value},Vals (ns.map V.int) us->mK us ns:=by
 induction ns with
 | nil=>intro us r; rw [aT] at r; cases r; exact .nil
 | cons n ns ih =>
  intro us r;rw [ao] at r;cases r with
  | cons r1 r2 =>
   obtain⟨t,e⟩:=r1;subst e;exact .cons n t (ih r2)
section
variable {X:Cx} {e:Expr} {te:TE} {lo hi:Option Expr} {tl th:TO} {pos p2:Pos}
noncomputable def SlR(X:Cx)(r:V->Option Int->Option Int->Hp->VK->Prop):Prop :=
 ∀ (pins:List (Addr×Obj)) (s:az) (σ:St) (H:Hp) (x:V) (v vl vu:Value) (lo hi:Option Int) (sl:Addr) (Q:VK),Inv X pins σ H s->RelV x v->s.heap.IsSliceOf sl vl vu .none->IsPart vl lo->IsPart vu hi->r x lo hi H Q ->
  ∃ T id,typeLookup (.type T) "__getitem__" = pure (some (.builtin id))/\s.TypeIs v T/\wpAny (model X.prog X.w) X.A (getItem v (.ref sl)) (EP X pins σ Q) X.xe s
noncomputable def Gk(xs:List V)(lo hi:Option Int):List V:=(xs.drop (HT.jJ xs.length 0 lo)).take (HT.jJ xs.length xs.length hi - HT.jJ xs.length 0 lo)
theorem w7(xs:List V)(lo hi:Option Int):(Gk xs lo hi).length<=xs.length:=by
 unfold Gk;rw [eL,cq];lia
noncomputable def YL(K:au):V->Option Int->Option Int->Hp->VK->Prop:=fun x lo hi H Q=>∃ a xs,x=.ref a/\xU K H a xs /\
 ¬ (HT.jJ xs.length 0 lo=0/\HT.jJ xs.length xs.length hi=xs.length)/\∀ p,H p=none->Q (.ref p) (upd H p (.tup (Gk xs lo hi)))
theorem Uh:SlR X (YL X.K):=by
 intro pins s σ H x v vl vu lo hi sl Q I rx hs pl pu h;obtain⟨a,xs,rfl,hx,hw,q⟩:=h;cases rx;obtain⟨bH,r,ht,hz⟩:=I.tuple hx;have hlen:bH.toArray.size=xs.length:=by rw [aX]; exact r.length.symm
 refine⟨"tuple",_,PyProof.Rows.slot_tuple_getitem.lookup,ht.typeIs,?_⟩;refine HT.uR ht hs pl pu (by rw [hlen]; exact hw) ?_ (by rw [hlen]; exact hz);rw [hlen];refine⟨.ref s.heap.objs.size,_,I.laid (t':=s.toks) (o:=.tup (Gk xs lo hi)) (fun b ob q=>aH _ q) (aC _) ?_,rfl,q _ (I.cn.fresh (aC _))⟩;exact⟨bw (w7 xs lo hi) hz,_,(r.drop (HT.jJ xs.length 0 lo)).take (HT.jJ xs.length xs.length hi - HT.jJ xs.length 0 lo),IsTup.new _ _⟩
noncomputable def YO(K:au):R2:=fun x y H Q=>∃ a b ns ms,x=.ref a/\y=.ref b/\xU K H a (ns.map V.int)/\xU K H b (ms.map V.int)/\Q (.bl (HT.lexLt ns ms)) H
theorem UH(hu:X.A.units < cLine):MH X (fb .Lt) (YO X.K):=by
 intro pins s σ H x y v u Q I rx ry h;obtain⟨a,b,ns,ms,rfl,rfl,ha,hb,q⟩:=h;cases rx;cases ry;obtain⟨bH,r1,p1,_⟩:=I.tuple ha;obtain⟨si,r2,p2,_⟩:=I.tuple hb;have i1:mK bH.toArray.toList ns:=intsAre_of r1;have i2:mK si.toArray.toList ms:=intsAre_of r2;exact HT.y0 p1 p2 i1 i2 hu ⟨.bl (HT.lexLt ns ms),H,I,rfl,q⟩
noncomputable def Wj(K:au):R2:=fun x y H Q=>∃ a b xs ys,x=.ref a/\y=.ref b/\xU K H a xs/\xU K H b ys/\xs≠[]/\xs.length+ys.length<=aZ /\
 (ys=[]->Q (.ref a) H)/\(ys≠[]->∀ p,H p=none->Q (.ref p) (upd H p (.tup (xs++ys))))
theorem Vals.CO{xs:List V}{us:List Value}(r:Vals xs us):us=[]↔xs=[]:=by
 cases r with
 | nil=>simp
 | cons _ _=>simp
theorem RG:MH X (jh .Add) (Wj X.K):=by
 intro pins s σ H x y v u Q I rx ry h;obtain⟨a,b,xs,ys,rfl,rfl,ha,hb,hx,hz,q1,q2⟩:=h;cases rx;cases ry;obtain⟨bH,r1,p1,_⟩:=I.tuple ha;obtain⟨si,r2,p2,_⟩:=I.tuple hb;refine HT.Si p1 p2 (fun z=>hx (r1.CO.mp z)) (fun z=>⟨.ref a,H,I,rfl,q1 (r2.CO.mp z)⟩) (fun z=>?_) (by rw [<-r1.length,<-r2.length]; exact hz);refine⟨.ref s.heap.objs.size,_,I.laid (t':=s.toks) (o:=.tup (xs++ys)) (fun b ob q=>aH _ q) (aC _) ?_,rfl,q2 (fun w=>z (r2.CO.mpr w)) _ (I.cn.fresh (aC _))⟩;exact⟨by rw [aE]; exact hz,_,r1.append r2,IsTup.new _ _⟩
end
noncomputable def GU(n:Nat)(i:Int):Option Nat:=if 0<=i then (if i < n then some i.toNat else none) else if -(n:Int)<=i then some (i+n).toNat else none
noncomputable def pU{α:Type}(xs:List α)(i:Int):Option α:=(GU xs.length i).bind fun j=>xs[j]?
theorem Km{n:Nat}{i:Int}{j:Nat}(h:GU n i=some j):seqIndex? i n=some j/\j < n/\-(n:Int)<=i/\i < n:=by
 unfold GU at h;by_cases h0:0<=i
 ·rw [if_pos h0] at h;by_cases h1:i < n
  ·rw [if_pos h1] at h;have e:i.toNat=j:=a8 h;exact⟨by rw [seqIndex_of h0 h1,e],by lia,by lia,h1⟩
  ·rw [if_neg h1] at h; cases h
 ·rw [if_neg h0] at h;by_cases h1:-(n:Int)<=i
  ·rw [if_pos h1] at h;have e:(i+n).toNat=j:=a8 h;exact⟨by rw [seqIndex_neg (by lia) h1,e],by lia,h1,by lia⟩
  ·rw [if_neg h1] at h; cases h
theorem KZ{α:Type}{xs:List α}{i:Int}{v:α}(h:pU xs i=some v):∃ j,seqIndex? i xs.length=some j/\xs[j]?=some v/\j < xs.length/\-(xs.length:Int)<=i/\i < xs.length:=by
 unfold pU at h;cases e:GU xs.length i with
 | none=>rw [e] at h; cases h
 | some j =>
  rw [e] at h;obtain⟨h1,h2,h3,h4⟩:=Km e;exact⟨j,h1,h,h2,h3,h4⟩
noncomputable def Sy(b:Expr):Prop:=∀ o i,subscripted b false o i=operate [o,i] (getItem o i)
noncomputable def IxR(X:Cx)(r:R2):Prop :=
 ∀ (value slice:Expr) (pins:List (Addr×Obj)) (s:az) (σ:St) (H:Hp) (x y:V) (v u:Value) (Q:VK),Inv X pins σ H s->RelV x v->RelV y u->r x y H Q ->
  subscripted slice false v u=operate [v,u] (getItem v u)->wpAny (model X.prog X.w) X.A (subscriptTail value slice v u) (EP X pins σ Q) X.xe s
noncomputable def MtR(X:Cx)(id:String)(r:V->List V->Hp->VK->Prop):Prop :=
 ∀ (pins:List (Addr×Obj)) (s:az) (σ:St) (H:Hp) (x:V) (xs:List V) (v:Value) (us:List Value) (Q:VK),Inv X pins σ H s->RelV x v->Vals xs us->r x xs H Q ->
  wpAny (model X.prog X.w) X.A (call (.builtin id) (v :: us)) (EP X pins σ Q) X.xe s
section
variable {X:Cx} {a b:Expr} {ta tb:TE} {pos:Pos}
noncomputable def YR(K:au):R2:=fun x y H Q=>∃ p xs i v,x=.ref p/\y=.int i/\oS K H p xs/\pU xs i=some v/\Q v H
noncomputable def YQ(K:au):R2:=fun x y H Q=>∃ p xs i v,x=.ref p/\y=.int i/\xU K H p xs/\pU xs i=some v/\Q v H
theorem Kl:IxR X (YR X.K):=by
 intro value slice pins s σ H x y v u Q I rx ry h hs;obtain⟨p,xs,i,z,rfl,rfl,hq,he,q⟩:=h;cases rx;obtain⟨t,rfl⟩:=ry;obtain⟨bH,r,pl,hz⟩:=I.list hq;obtain⟨j,h1,h2,h3,h4,h5⟩:=KZ he;obtain⟨w,ew,qb⟩:=r.get h2;have hl:=r.length;have hn:=zc;have fin:EP X pins σ Q w s:=⟨z,H,I,qb,q⟩;by_cases h0:0<=i
 ·have hj:i.toNat=j:=by
   rw [seqIndex_of h0 h5] at h1;exact a8 h1
  exact item_listR pl.isList h0 (by lia) (by rw [hj]; simpa using ew) fin hs
 ·have hj:(i+(bH.toArray.size:Int)).toNat=j:=by
   rw [seqIndex_neg (by lia) h4] at h1;rw [aX,<-hl];exact a8 h1
  exact subscriptTail_builtinR (x:=w) pl.isList.typeIs slot_list_getitem.lookup
   (wpAny_getItem_list_neg (Q:=fun r s'=>r=w/\EP X pins σ Q r s') pl.isList (by lia) (by rw [aX] <;> lia) (by lia) (by rw [hj]; simpa using ew) ⟨rfl,fin⟩) hs
theorem UU:IxR X (YQ X.K):=by
 intro value slice pins s σ H x y v u Q I rx ry h hs;obtain⟨p,xs,i,z,rfl,rfl,hq,he,q⟩:=h;cases rx;obtain⟨t,rfl⟩:=ry;obtain⟨bH,r,pl,hz⟩:=I.tuple hq;obtain⟨j,h1,h2,h3,h4,h5⟩:=KZ he;obtain⟨w,ew,qb⟩:=r.get h2;have hl:=r.length;have hn:=zc;have fin:EP X pins σ Q w s:=⟨z,H,I,qb,q⟩;exact subscriptTail_builtinR (x:=w) pl.typeIs slot_tuple_getitem.lookup
  (getItem_tuple (j:=j) (Q:=fun r s'=>r=w/\EP X pins σ Q r s') pl (by lia) (by lia) (by rw [aX,<-hl]; exact h1) (by simpa using ew) ⟨rfl,fin⟩) hs
theorem Ih (bH:List Value) (n j:Nat) (u:Value):jd (·.setIfInBounds j u) { cls:=.type "list",data:=.seq bH.toArray n } = { cls:=.type "list",data:=.seq (bH.set j u).toArray n }:=by
 simp [jd]
theorem Inv.lst{pins:List (Addr×Obj)}{σ:St}{H:Hp}{s:az}{p:Addr}{xs:List V}(I:Inv X pins σ H s)(h:H p=some (.lst xs)) :
  ∃ (bH:List Value) (n:Nat),Vals xs bH/\s.heap.get? p=some { cls:=.type "list",data:=.seq bH.toArray n }/\xs.length<=aZ:=by
 obtain⟨z,bH,n,r,e⟩:=I.cn p _ h;exact⟨bH,n,r,e,z⟩
theorem Inv.UO{pins:List (Addr×Obj)}{σ:St}{H:Hp}{s:az}{p:Addr}{xs ys:List V}{bH its':List Value}{n n':Nat}{f:Obj->Obj}(I:Inv X pins σ H s)(h:H p=some (.lst xs))
  (ho:s.heap.get? p=some { cls:=.type "list",data:=.seq bH.toArray n }) (hf:f { cls:=.type "list",data:=.seq bH.toArray n } = { cls:=.type "list",data:=.seq its'.toArray n' }) (r:Vals ys its') (hz:ys.length<=aZ) (t:Nat) :
  Inv X pins σ (upd H p (.lst ys)) { s with heap:=s.heap.update p f,toks:=t }:=by
 have e:(s.heap.update p f).get? p=some { cls:=.type "list",data:=.seq its'.toArray n' }:=by
  rw [jE f ho (by rw [hf] <;> rfl),hf]
 refine I.write (x:=p) (e:=p) (by rw [h]; trivial) (.inl rfl) (fun b u hb q=>(dB _ _ (e7 hb)).trans q) ⟨_,e⟩ ?_;exact⟨hz,its',n',r,e⟩
noncomputable def Wg:V->V->V->Hp->(Hp->Prop)->Prop:=fun o i v H Q=>∃ p xs k j,o=.ref p/\i=.int k/\H p=some (.lst xs)/\GU xs.length k=some j/\Q (upd H p (.lst (xs.set j v)))
theorem set_list:aaJ X Wg:=by
 intro pins s σ H o i v ov iv u Q I ro ri rv h;obtain⟨p,xs,k,j,rfl,rfl,hp,hj,q⟩:=h;cases ro;obtain⟨t,rfl⟩:=ri;obtain⟨bH,n,r,ho,hz⟩:=I.lst hp;obtain⟨h1,h2,h3,h4⟩:=Km hj;have hl:=r.length;have hn:=zc;have I':Inv X pins σ (upd H p (.lst (xs.set j v))) { s with heap:=s.heap.update p (jd (·.setIfInBounds j u)) } :=
  I.UO hp ho (Ih bH n j u) (r.set rv j) (by rw [eE]; exact hz) s.toks
 by_cases h0:0<=k
 ·have hk:k.toNat=j:=by
   rw [seqIndex_of h0 h4] at h1;exact a8 h1
  exact PySem.W.ki_setAt ho h0 (by lia) (by rw [aX,<-hl]; exact h4) (by rw [hk]; exact⟨_,I',q⟩)
 ·have hk:(k+(bH.toArray.size:Int)).toNat=j:=by
   rw [seqIndex_neg (by lia) h3] at h1;rw [aX,<-hl];exact a8 h1
  exact PySem.W.ki_setBack ho (by lia) (by rw [aX,<-hl]; exact h3) (by lia) (by rw [hk]; exact⟨_,I',q⟩)
theorem Cv(lo hi:Option Int)(n:Nat):(qj lo hi none n).1=((HT.jJ n 0 lo:Nat):Int)/\(qj lo hi none n).2.1=((HT.jJ n n hi:Nat):Int)/\(qj lo hi none n).2.2=1:=by
 refine⟨?_,?_,rfl⟩
 ·cases lo with
  | none=>simp [qj,HT.jJ]
  | some i =>
   simp only [qj,HT.jJ,A8,show (1:Int) > 0 by decide,if_true];by_cases h:i < 0
   ·simp only [h,if_true] <;> lia
   ·simp only [h,if_false] <;> lia
 ·cases hi with
  | none=>simp [qj,HT.jJ]
  | some i =>
   simp only [qj,HT.jJ,A8,show (1:Int) > 0 by decide,if_true];by_cases h:i < 0
   ·simp only [h,if_true] <;> lia
   ·simp only [h,if_false] <;> lia
theorem AH(bH:List Value)(lo hi:Option Int):slicePick bH.toArray lo hi none=((bH.drop (HT.jJ bH.length 0 lo)).take (HT.jJ bH.length bH.length hi - HT.jJ bH.length 0 lo)).toArray:=by
 obtain⟨h1,h2,h3⟩:=Cv lo hi bH.toArray.size;unfold slicePick;rw [h1,h2,h3];simp only [sliceRange_one,pick_run,aX] <;> rfl
noncomputable def YM(K:au):V->Option Int->Option Int->Hp->VK->Prop:=fun x lo hi H Q=>∃ a xs,x=.ref a/\oS K H a xs/\∀ p,H p=none->Q (.ref p) (upd H p (.lst (Gk xs lo hi)))
theorem JU:SlR X (YM X.K):=by
 intro pins s σ H x v vl vu lo hi sl Q I rx hs pl pu h;obtain⟨a,xs,rfl,hx,q⟩:=h;cases rx;obtain⟨bH,r,ht,hz⟩:=I.list hx;have hlen:=r.length;refine⟨"list",_,slot_list_getitem.lookup,ht.isList.typeIs,?_⟩;refine wpAny_getItem_list_slice ht.isList hs pl pu .none (by simp) ?_ (by rw [aX] <;> lia);rw [AH,<-hlen];refine⟨.ref s.heap.objs.size,_,I.laid (t':=s.toks) (o:=.lst (Gk xs lo hi)) (fun b ob q=>aH _ q) (aC _) ?_,rfl,q _ (I.cn.fresh (aC _))⟩;exact⟨bw (w7 xs lo hi) hz,_,0,(r.drop (HT.jJ xs.length 0 lo)).take (HT.jJ xs.length xs.length hi - HT.jJ xs.length 0 lo),bh _ rfl⟩
theorem Dw:Qs X (.type "list") (fun xs H Q=>∃ p ys,xs=[.ref p]/\(oS X.K H p ys\/xU X.K H p ys)/\∀ l,H l=none->Q (.ref l) (upd H l (.lst ys))):=by
 intro pins s σ H xs us Q I r h;obtain⟨p,ys,rfl,hq,q⟩:=h;obtain⟨u,rfl,rx⟩:=vals1 r;cases rx;have fin:∀ (bH:List Value),Vals ys bH->ys.length<=aZ->∀ (h':Heap) (c':Nat),(∀ b o',s.heap.get? b=some o'->h'.get? b=some o') ->
   h'.get? s.heap.objs.size=some { cls:=.type "list",dict:=none,data:=.seq bH.toArray c',slots:=#[] }->EP X pins σ Q (.ref s.heap.objs.size) { s with heap:=h' }:=fun bH r' hz h' c' kp e =>
  ⟨.ref s.heap.objs.size,_,I.laid (t':=s.toks) kp (aC _) (show fH X.prog X.w _ h' _ (.lst ys) from⟨hz,bH,c',r',e⟩),rfl,q _ (I.cn.fresh (aC _))⟩
 rcases hq with hq | hq
 ·obtain⟨bH,r',pl,hz⟩:=I.list hq;have hlen:=r'.length;obtain⟨o,ho,hc,n,hd⟩:=pl.isList;exact call_list_seq p (.inl rfl) ho hc hd (fun h' c' kp e=>fin bH r' hz h' c' kp e) (by simp only [aX] <;> lia)
 ·obtain⟨bH,r',pl,hz⟩:=I.tuple hq;have hlen:=r'.length;obtain⟨o,ho,hc,n,hd⟩:=pl;exact call_list_seq p (.inr rfl) ho hc hd (fun h' c' kp e=>fin bH r' hz h' c' kp e) (by simp only [aX] <;> lia)
theorem AW:Qs X (.type "tuple") (fun xs H Q=>∃ p ys,xs=[.ref p]/\((oS X.K H p ys/\∀ l,H l=none->Q (.ref l) (upd H l (.tup ys)))\/(xU X.K H p ys/\Q (.ref p) H))):=by
 intro pins s σ H xs us Q I r h;obtain⟨p,ys,rfl,h⟩:=h;obtain⟨u,rfl,rx⟩:=vals1 r;cases rx;rcases h with ⟨hq,q⟩ | ⟨hq,q⟩
 ·obtain⟨bH,r',pl,hz⟩:=I.list hq;have hlen:=r'.length;refine call_tuple_list pl.isList (fun h' kp=>?_) (by simp only [aX] <;> lia);have I1:Inv X pins σ H { s with heap:=h' }:=I.kept (t':=s.toks) kp;have I2:Inv X pins σ (upd H h'.objs.size (.tup ys)) { s with heap:=h'.push { cls:=.type "tuple",data:=.seq bH.toArray } } :=
   I1.laid (t':=s.toks) (fun b o e=>aH _ e) (aC _) (show fH X.prog X.w _ _ _ (.tup ys) from⟨hz,bH,r',IsTup.new _ _⟩)
  exact⟨.ref h'.objs.size,_,I2,rfl,q _ (I1.cn.fresh (aC _))⟩
 ·obtain⟨bH,r',pl,hz⟩:=I.tuple hq;exact call_tuple_same pl ⟨.ref p,H,I,rfl,q⟩
noncomputable def tyV(K:au)(T:String)(x:V)(H:Hp):Prop:=match x with
 | .str _=>T = "str"
 | .int _=>T = "int"
 | .ref p=>(T = "list"/\∃ xs,oS K H p xs)\/(T = "tuple"/\∃ o,K.lookup p=some o/\o.cls=.type "tuple"/\o.dict=none) \/
   (T = "dict"/\((∃ kvs,H p=some (.dK kvs))\/∃ kvs,H p=some (.dT kvs)))\/(T = "set"/\∃ S n,H p=some (.set S n))
 | _=>False
theorem Cp{pins:List (Addr×Obj)}{σ:St}{H:Hp}{s:az}{T:String}{x:V}{v:Value}(I:Inv X pins σ H s)(r:RelV x v)(ty:tyV X.K T x H) :
  s.TypeIs v T/\∀ a,v=.ref a->∃ ob,s.heap.get? a=some ob/\ob.dict=none:=by
 cases x with
 | str z =>
  obtain⟨t,rfl⟩:=r;cases (show T = "str" from ty);exact⟨typeIs_str s z t,fun _ e=>nomatch e⟩
 | int i =>
  obtain⟨t,rfl⟩:=r;cases (show T = "int" from ty);exact⟨typeIs_int s i t,fun _ e=>nomatch e⟩
 | ref p =>
  cases r;rcases ty with ⟨rfl,xs,hq⟩ | ⟨rfl,o,hk,hc,hd⟩ | ⟨rfl,hk⟩ | ⟨rfl,S,n,hk⟩
  ·obtain⟨bH,_,pl,_⟩:=I.list hq;refine⟨pl.isList.typeIs,fun a e=>?_⟩;cases e;obtain⟨o,n,e,c,hd,_⟩:=pl;exact⟨o,e,hd⟩
  ·refine⟨⟨o,I.Ip p o hk,hc⟩,fun a e=>?_⟩;cases e;exact⟨o,I.Ip _ o hk,hd⟩
  ·have z:∃ o,s.heap.get? p=some o/\o.ExactDict:=by
    rcases hk with ⟨kvs,hk⟩ | ⟨kvs,hk⟩
    ·obtain⟨_,_,_,_,o,_,_,e,ex,_⟩:=I.cn p _ hk;exact⟨o,e,ex⟩
    ·obtain⟨_,_,_,_,o,_,_,e,ex,_⟩:=I.cn p _ hk;exact⟨o,e,ex⟩
   obtain⟨o,e,ex⟩:=z;refine⟨⟨o,e,ex.1⟩,fun a e2=>?_⟩;cases e2;exact⟨o,e,ex.2.1⟩
  ·obtain⟨o,_,_,_,e,ex,_⟩:=I.cn p _ hk;refine⟨⟨o,e,ex.1⟩,fun a e2=>?_⟩;cases e2;exact⟨o,e,ex.2.1⟩
 | _=>exact bN ty
variable {o e:Expr} {es:List Expr} {to:TE} {t:TA} {name:Str} {apos pC:Pos} {T id:String} {r:V->List V->Hp->VK->Prop}
/- xs.append(e),list.index on a WA tuple .. are MtR facts of 06m -/
end
noncomputable def MtM(X:Cx)(id:String)(r:V->List V->Hp->VK->Prop):Prop :=
 ∀ (pins:List (Addr×Obj)) (s:az) (σ:St) (H:Hp) (x:V) (xs:List V) (v:Value) (us:List Value) (Q:VK),Inv X pins σ H s->RelV x v->Vals xs us->r x xs H Q ->
  wpAny (model X.prog X.w) X.A (call (.builtin id) (v :: us)) (EP X pins σ Q) X.xe s
theorem Vals.one:∀ {x:V} {us:List Value},Vals [x] us->∃ u,us=[u]/\RelV x u:=by
 intro x us h;cases h with
 | cons r t=>cases t; exact⟨_,rfl,r⟩
section
variable {X:Cx} {pins:List (Addr×Obj)} {σ:St} {H:Hp} {s:az} {l b:Addr} {xs ys zs:List V}
theorem Inv.WC{bH its':List Value}{n:Nat}{f:Array Value->Array Value}{t':Nat}(I:Inv X pins σ H s)(hH:H l=some (.lst xs))
  (e:s.heap.get? l=some { cls:=.type "list",data:=.seq bH.toArray n }) (hf:f bH.toArray=its'.toArray) (hv:Vals ys its') (hz:ys.length<=aZ) :
  Inv X pins σ (upd H l (.lst ys)) { s with heap:=s.heap.update l (jd f),toks:=t' }:=by
 have q:=PySem.IsL.update e f;rw [hf] at q;refine I.write (x:=l) (e:=l) (by rw [hH]; exact trivial) (.inl rfl) (fun b' u hb hu=>(dB s.heap (jd f) (e7 hb)).trans hu) ⟨_,q⟩ ?_;exact⟨hz,its',_,hv,q⟩
theorem Inv.Ze{bH:List Value}{t':Nat}(I:Inv X pins σ H s)(hv:Vals ys bH)(hz:ys.length<=aZ) :
  Inv X pins σ (upd H s.heap.objs.size (.lst ys)) { s with heap:=s.heap.push { cls:=.type "list",data:=.seq bH.toArray },toks:=t' } :=
 I.laid (fun _ _ q=>aH _ q) (aC _) ⟨hz,bH,0,hv,bh _ rfl⟩
theorem Inv.WB (I:Inv X pins σ H s) (hH:H l=some (.lst xs)):xs.length<=aZ/\∃ (bH:List Value) (n:Nat),Vals xs bH/\xs.length=bH.length/\s.heap.get? l=some { cls:=.type "list",data:=.seq bH.toArray n }:=by
 obtain⟨z,bH,n,r,e⟩:=I.cn l _ hH;exact⟨z,bH,n,r,r.length,e⟩
theorem OA{n:Nat}(h:n<=aZ):jO n=false:=by
 unfold jO;exact decide_eq_false (by lia)
end
section
variable {X:Cx}
noncomputable def Rm:V->List V->Hp->VK->Prop:=fun x vs H Q=>∃ l xs y,x=.ref l/\vs=[y]/\H l=some (.lst xs)/\xs.length < aZ/\Q .eQ (upd H l (.lst (xs++[y])))
theorem Bu:MtM X "list.append" Rm:=by
 intro pins s σ H x vs v us Q I rx rv h;obtain⟨l,xs,y,rfl,rfl,hH,hz,q⟩:=h;cases rx;obtain⟨u,rfl,ru⟩:=rv.one;obtain⟨z,bH,n,r,hl,e⟩:=I.WB hH;refine Hj F.slot_list_append ⟨_,e,rfl⟩ F.entry_list_append (F.args_list_append_2 _ _) (PySem.list_append l bH.toArray n u (by rw [aX]; lia)) ⟨e,?_⟩;refine⟨.eQ,_,I.WC (its':=bH++[u]) hH e (by simp) (r.append (.cons ru .nil)) ?_,rfl,q⟩;rw [aE,cb];lia
end
section
variable {κ:Type} [DecidableEq κ]
noncomputable def mf(kvs:List (κ×V))(k:κ):Option V:=(kvs.find? fun kv=>decide (kv.1=k)).map (·.2)
noncomputable def putK(kvs:List (κ×V))(k:κ)(v:V):List (κ×V) :=
 if (kvs.any fun kv=>decide (kv.1=k))=true then kvs.map (fun kv=>if kv.1=k then (kv.1,v) else kv) else kvs++[(k,v)]
theorem qv{p:κ×V}{r:List (κ×V)}{k:κ}(e:p.1=k):mf (p :: r) k=some p.2:=by simp [mf,dn,e]
theorem qw{p:κ×V}{r:List (κ×V)}{k:κ}(e:¬ p.1=k):mf (p :: r) k=mf r k:=by simp [mf,dn,e]
theorem Ek(k:κ):∀ kvs:List (κ×V),(kvs.any fun kv=>decide (kv.1=k))=(mf kvs k).isSome
 | []=>rfl
 | p :: r=>by
  rw [lJ];by_cases e:p.1=k
  ·simp only [qv e,decide_eq_true e,Bool.true_or,Option.isSome_some]
  ·rw [qw e,decide_eq_false e,MT]; exact Ek k r
theorem wW(kvs:List (κ×V))(k:κ)(v:V):(putK kvs k v).length<=kvs.length+1:=by
 unfold putK;split
 ·rw [ak]; lia
 ·rw [aE,aj,ax]; lia
theorem wj.oO{o:Option V}{u:Option Value}(r:wj o u):o.isSome=u.isSome:=by
 cases o with
 | none=>cases u with
  | none=>rfl
  | some _=>exact(show False from r).elim
 | some _=>cases u with
  | none=>exact(show False from r).elim
  | some _=>rfl
theorem wj.getD{o:Option V}{u:Option Value}{d:V}{d':Value}(r:wj o u)(rd:RelV d d'):RelV (o.getD d) (u.getD d'):=by
 cases o with
 | none=>cases u with
  | none=>exact rd
  | some _=>exact(show False from r).elim
 | some _=>cases u with
  | none=>exact(show False from r).elim
  | some _=>exact r
theorem KV.val{kvs:List (κ×V)}{vs:List (κ×Value)}(r:KV kvs vs)(k:κ):wj (mf kvs k) (M9 vs k):=by
 unfold KV at r;induction r with
 | nil=>exact gq
 | @cons p q ps qs h t ih =>
  obtain⟨h1,h2⟩:=h;by_cases e:p.1=k
  ·have e':q.1=k:=h1.symm.trans e;have b:M9 (q :: qs) k=some q.2:=by simp [M9,dn,e']
   rw [qv e,b]; exact h2
  ·have e':¬ q.1=k:=fun z=>e (h1.trans z);have b:M9 (q :: qs) k=M9 qs k:=by simp [M9,dn,e']
   rw [qw e,b]; exact ih
theorem KV.any{kvs:List (κ×V)}{vs:List (κ×Value)}(r:KV kvs vs)(k:κ):(kvs.any fun kv=>decide (kv.1=k))=vs.any fun kv=>decide (kv.1=k):=by
 unfold KV at r;induction r with
 | nil=>rfl
 | cons h t ih=>rw [lJ,lJ,ih,h.1]
theorem KV.NV{kvs:List (κ×V)}{vs:List (κ×Value)}(r:KV kvs vs)(k:κ){y:V}{u:Value}(ry:RelV y u) :
  KV (kvs.map fun kv=>if kv.1=k then (kv.1,y) else kv) (vs.map fun kv=>if kv.1=k then (kv.1,u) else kv):=by
 unfold KV at r ⊢;induction r with
 | nil=>exact .nil
 | @cons p q ps qs h t ih =>
  rw [ao,ao];refine .cons ?_ ih;obtain⟨h1,h2⟩:=h;by_cases e:p.1=k
  ·rw [if_pos e,if_pos (h1.symm.trans e)]; exact⟨h1,ry⟩
  ·rw [if_neg e,if_neg (fun z=>e (h1.trans z))]; exact⟨h1,h2⟩
theorem KV.put{kvs:List (κ×V)}{vs:List (κ×Value)}(r:KV kvs vs)(k:κ){y:V}{u:Value}(ry:RelV y u):KV (putK kvs k y) (stored vs k u):=by
 unfold putK stored;rw [r.any k];by_cases e:(vs.any fun kv=>decide (kv.1=k))=true
 ·rw [if_pos e,if_pos e]; exact r.NV k ry
 ·rw [if_neg e,if_neg e]; exact Qx r ⟨rfl,ry⟩
theorem KV.length{kvs:List (κ×V)}{vs:List (κ×Value)}(r:KV kvs vs):kvs.length=vs.length:=iI r
end
theorem zi{P:bI}{w:World}{k:Key}{u:Value}(r:RelV (kV k) u):(cC P w).is k u=true:=by
 cases k with
 | inl i=>obtain⟨t,e⟩:=(show ∃ t,u=fi i t from r); subst e; exact Fe P w i t
 | inr x=>obtain⟨t,e⟩:=(show ∃ t,u=Value.str x t from r); subst e; exact Fd P w x t
theorem BE{P:bI}{w:World}:∀ {ks:List Key} {us:List Value},Vals (ks.map kV) us->ItemsAre (cC P w) ks us
 | [],_,r=>by rw [aT] at r; cases r; exact .nil
 | k :: ks,_,r=>by
  rw [ao] at r;cases r with
  | cons h t=>exact .cons (zi h) (BE t)
noncomputable abbrev KT(H:Hp):List (List Key×V)->List (List Key×Addr×Value)->Prop:=kH fun p q=>p.1=q.1/\H q.2.1=some (.tup (p.1.map kV))/\RelV p.2 q.2.2
theorem KT.val{H:Hp}{kvs:List (List Key×V)}{xs:List (List Key×Addr×Value)}(r:KT H kvs xs)(k:List Key):wj (mf kvs k) ((atKey xs k).map (·.2)):=by
 induction r with
 | nil=>exact gq
 | @cons p q ps qs h t ih =>
  obtain⟨h1,_,h2⟩:=h;by_cases e:p.1=k
  ·have e':q.1=k:=h1.symm.trans e;have b:atKey (q :: qs) k=some q.2:=by simp [atKey,dn,e']
   rw [qv e,b]; exact h2
  ·have e':¬ q.1=k:=fun z=>e (h1.trans z);have b:atKey (q :: qs) k=atKey qs k:=by simp [atKey,dn,e']
   rw [qw e,b]; exact ih
theorem KT.NV{H:Hp}{kvs:List (List Key×V)}{xs:List (List Key×Addr×Value)}(r:KT H kvs xs)(k:List Key){y:V}{u:Value}(ry:RelV y u) :
  KT H (kvs.map fun kv=>if kv.1=k then (kv.1,y) else kv) (xs.map (putAt k u)):=by
 induction r with
 | nil=>exact .nil
 | @cons p q ps qs h t ih =>
  rw [ao,ao];refine .cons ?_ ih;obtain⟨h1,h2,h3⟩:=h;unfold putAt;by_cases e:p.1=k
  ·rw [if_pos e,if_pos (h1.symm.trans e)]; exact⟨h1,h2,ry⟩
  ·rw [if_neg e,if_neg (fun z=>e (h1.trans z))]; exact⟨h1,h2,h3⟩
theorem KT.put{H:Hp}{kvs:List (List Key×V)}{xs:List (List Key×Addr×Value)}(r:KT H kvs xs)(k:List Key){b:Addr}{y:V}{u:Value}(hb:H b=some (.tup (k.map kV)))(ry:RelV y u) :
  KT H (putK kvs k y) (He xs k b u):=by
 have e:(kvs.any fun kv=>decide (kv.1=k))=(atKey xs k).isSome:=by
  rw [Ek,(r.val k).oO,Aj]
 unfold putK He;rw [e];by_cases q:(atKey xs k).isSome=true
 ·rw [if_pos q,if_pos q]; exact r.NV k ry
 ·rw [if_neg q,if_neg q]; exact Qx r ⟨rfl,hb,ry⟩
theorem KT.keeps{H H':Hp}{kvs:List (List Key×V)}{xs:List (List Key×Addr×Value)}(r:KT H kvs xs)(ht:∀ b ys,H b=some (.tup ys)->H' b=some (.tup ys)):KT H' kvs xs :=
 Paired.UN r fun _ _ z=>⟨z.1,ht _ _ z.2.1,z.2.2⟩
section
variable {P:bI} {w:World} {H:Hp} {h:Heap} {a:Addr}
theorem SV{u:HO}(ok:pV P w H h)(e:Rd H a u):fH P w H h a u:=e.ok ok
theorem sJ{kvs:List (Key×V)}(ok:pV P w H h)(e:Rd H a (.dK kvs)):kvs.length<=aZ/\(a == da)=false/\∃ vs,KV kvs vs/\h.DictOf (cC P w) a vs :=
 show fH P w H h a (.dK kvs) from SV ok e
theorem BW{kvs:List (Key×V)}(ok:pV P w H h)(e:H a=some (.dK kvs)):kvs.length<=aZ/\(a == da)=false/\∃ vs,KV kvs vs/\h.DictOf (cC P w) a vs:=sJ ok (.inl e)
theorem vY{ks:List Key}(ok:pV P w H h)(e:H a=some (.tup (ks.map kV))):(iP (cC P w)).is h ks a:=by
 obtain⟨_,bH,r,o,h1,h2,n,h3⟩:=(show fH P w H h a (.tup (ks.map kV)) from ok a _ e);exact⟨o,bH.toArray,n,h1,h2,h3,by simpa using BE r⟩
theorem zI{kvs:List (List Key×V)}(ok:pV P w H h)(e:Rd H a (.dT kvs)):kvs.length<=aZ/\(a == da)=false /\
  ∃ xs,KT H kvs xs/\h.DictOfH (iP (cC P w)) a xs:=by
 obtain⟨z,y,xs,r,o,es,ep,h1,h2,h3,h4,h5⟩:=(show fH P w H h a (.dT kvs) from SV ok e);refine⟨z,y,xs,r,o,es,ep,h1,h2,h3,h4,fun x hx=>?_,h5⟩;have all:∀ {l:List (List Key×V)} {m:List (List Key×Addr×Value)},KT H l m->∀ x∈m,(iP (cC P w)).is h x.1 x.2.1:=by
  intro l m q;induction q with
  | nil=>intro x hx; exact nomatch hx
  | @cons p q ps qs hq t ih =>
   intro x hx;rcases List.mem_cons.mp hx with e | hx
   ·subst e;exact vY ok (by rw [<-hq.1]; exact hq.2.1)
   ·exact ih x hx
 exact all r x hx
theorem PO{kvs:List (List Key×V)}(ok:pV P w H h)(e:H a=some (.dT kvs)):kvs.length<=aZ/\(a == da)=false /\
  ∃ xs,KT H kvs xs/\h.DictOfH (iP (cC P w)) a xs:=zI ok (.inl e)
end
noncomputable def Ac(H:Hp)(a:Addr)(y:V)(r:Option V):Prop :=
 (∃ kvs k,Rd H a (.dK kvs)/\y=kV k/\r=mf kvs k)\/∃ kvs k b,Rd H a (.dT kvs)/\y=.ref b/\H b=some (.tup (k.map kV))/\r=mf kvs k
noncomputable def MN(H:Hp)(a:Addr)(y v:V)(H':Hp):Prop :=
 (∃ kvs k,H a=some (.dK kvs)/\y=kV k/\kvs.length < aZ/\H'=upd H a (.dK (putK kvs k v))) \/
 ∃ kvs k b,H a=some (.dT kvs)/\y=.ref b/\H b=some (.tup (k.map kV))/\kvs.length < aZ/\H'=upd H a (.dT (putK kvs k v))
theorem Ac.k{H:Hp}{a:Addr}{kvs:List (Key×V)}{k:Key}(e:H a=some (.dK kvs)):Ac H a (kV k) (mf kvs k):=.inl ⟨kvs,k,.inl e,rfl,rfl⟩
theorem Ac.t{H:Hp}{a b:Addr}{kvs:List (List Key×V)}{k:List Key}(e:H a=some (.dT kvs))(eb:H b=some (.tup (k.map kV))):Ac H a (.ref b) (mf kvs k):=.inr ⟨kvs,k,b,.inl e,rfl,eb,rfl⟩
theorem MN.k{H:Hp}{a:Addr}{kvs:List (Key×V)}{k:Key}{v:V}(e:H a=some (.dK kvs))(hl:kvs.length < aZ):MN H a (kV k) v (upd H a (.dK (putK kvs k v))):=.inl ⟨kvs,k,e,rfl,hl,rfl⟩
theorem MN.t{H:Hp}{a b:Addr}{kvs:List (List Key×V)}{k:List Key}{v:V}(e:H a=some (.dT kvs))(eb:H b=some (.tup (k.map kV)))(hl:kvs.length < aZ) :
  MN H a (.ref b) v (upd H a (.dT (putK kvs k v))):=.inr ⟨kvs,k,b,e,rfl,eb,hl,rfl⟩
section
variable {X:Cx} {pins:List (Addr×Obj)} {σ:St} {H:Hp} {s:az} {a:Addr} {y v:V} {u r:Value} {o:Option V} {A:dI} {E:Value->az->Prop}
theorem Inv.big(I:Inv X pins σ H s):da < s.heap.objs.size:=by
 have h:bW < s.heap.objs.size:=(I.mod.glob.keeps I.bk).lt;exact Nat.lt_trans (by decide) h
theorem v9{Q:Value->az->Prop}(hu:A.units+1 < cLine)(I:Inv X pins σ H s)(g:Ac H a y (some v))(ry:RelV y u)(h:∀ w' s',Inv X pins σ H s'->RelV v w'->Q w' s') :
  wpAny (model X.prog X.w) A (getItem (.ref a) u) Q E s:=by
 rcases g with ⟨kvs,k,e,ey,l⟩ | ⟨kvs,k,b,e,ey,eb,l⟩
 ·subst ey;obtain⟨z,hd,vs,rel,dd⟩:=sJ I.cn e;obtain⟨w',hw,qb⟩:=wj.some_of (v:=v) (o:=M9 vs k) (by rw [l]; exact rel.val k);exact wpAny_getItem_of (zi ry) dd.mapOf hw (h w' _ (I.tok _) qb)
 ·subst ey;cases (show u=fV b from ry);obtain⟨z,hd,xs,rel,dd⟩:=zI I.cn e;obtain⟨w',hw,qb⟩:=wj.some_of (v:=v) (o:=(atKey xs k).map (·.2)) (by rw [l]; exact rel.val k);obtain⟨p,hp,qe⟩:=Option.map_eq_some_iff.mp hw;refine wpAny_getItem_heap (mJ hu) (vY I.cn eb) dd hp ?_;rw [qe];exact h w' _ (I.tok _) qb
theorem Xo{Q:Value->az->Prop}(hu:A.units+1 < cLine)(I:Inv X pins σ H s)(g:Ac H a y o)(ry:RelV y u)(h:∀ s',Inv X pins σ H s'->Q (.bool o.isSome) s') :
  wpAny (model X.prog X.w) A (fb .In u (.ref a)) Q E s:=by
 rcases g with ⟨kvs,k,e,ey,l⟩ | ⟨kvs,k,b,e,ey,eb,l⟩
 ·subst ey;obtain⟨z,hd,vs,rel,dd⟩:=sJ I.cn e;refine wpAny_in_of (zi ry) hd dd.mapOf ?_;rw [<-(rel.val k).oO,<-l];exact h _ (I.tok _)
 ·subst ey;cases (show u=fV b from ry);obtain⟨z,hd,xs,rel,dd⟩:=zI I.cn e;refine wpAny_in_heap (mJ hu) (vY I.cn eb) hd dd ?_;have q:=(rel.val k).oO;rw [Aj] at q;rw [<-q,<-l];exact h _ (I.tok _)
theorem KO{Q:Value->az->Prop}(hu:A.units+1 < cLine)(I:Inv X pins σ H s)(g:Ac H a y o)(ry:RelV y u)(h:∀ s',Inv X pins σ H s'->Q (.bool (!o.isSome)) s') :
  wpAny (model X.prog X.w) A (fb .NotIn u (.ref a)) Q E s:=by
 rcases g with ⟨kvs,k,e,ey,l⟩ | ⟨kvs,k,b,e,ey,eb,l⟩
 ·subst ey;obtain⟨z,hd,vs,rel,dd⟩:=sJ I.cn e;refine wpAny_notIn_of (zi ry) hd dd.mapOf ?_;rw [<-(rel.val k).oO,<-l];exact h _ (I.tok _)
 ·subst ey;cases (show u=fV b from ry);obtain⟨z,hd,xs,rel,dd⟩:=zI I.cn e;refine wpAny_notIn_heap (mJ hu) (vY I.cn eb) hd dd ?_;have q:=(rel.val k).oO;rw [Aj] at q;rw [<-q,<-l];exact h _ (I.tok _)
theorem rS{h':Heap}{t':Nat}{ob:HO}(I:Inv X pins σ H s)(mu:XE (H a))(hs:fL a s.heap h')(he:∃ q,h'.get? a=some q)(new:fH X.prog X.w (upd H a ob) h' a ob) :
  Inv X pins σ (upd H a ob) { s with heap:=h',toks:=t' } :=
 I.write (x:=a) (e:=a) mu (.inl rfl) (fun b q hb z=>(hs.2 b hb).trans z) he new
theorem Dl{P:bI}{w:World}{H':Hp}{h':Heap}{kvs:List (Key×V)}{vs:List (Key×Value)}(z:kvs.length<=aZ)(hd:(a == da)=false)(rel:KV kvs vs)(dd:h'.DictOf (cC P w) a vs) :
  fH P w H' h' a (.dK kvs):=⟨z,hd,vs,rel,dd⟩
theorem Mq{H':Hp}{Q:Unit->az->Prop}(hu:A.units+1 < cLine)(I:Inv X pins σ H s)(g:MN H a y v H')(ry:RelV y u)(rv:RelV v r)(h:∀ s',Inv X pins σ H' s'->Q () s') :
  wpAny (model X.prog X.w) A (setItem (.ref a) u r) Q E s:=by
 rcases g with ⟨kvs,k,e,ey,l,eH⟩ | ⟨kvs,k,b,e,ey,eb,l,eH⟩
 ·subst ey eH;obtain⟨z,hd,vs,rel,dd⟩:=BW I.cn e;have hz:vs.length<=aZ:=by rw [<-rel.length]; exact z
  have hl:(putK kvs k v).length<=aZ:=by have:=wW kvs k v; lia
  refine wpAny_setItem_pairs (hsz:=hz) (zi ry) dd fun h' BZ hs=>h _ ?_;have he:∃ q,h'.get? a=some q:=let ⟨q,_,_,hq,_⟩:=BZ; ⟨q,hq⟩
  exact rS I (by rw [e]; exact gq) hs he (Dl hl hd (rel.put k rv) BZ)
 ·subst ey eH;cases (show u=fV b from ry);obtain⟨z,hd,xs,rel,dd⟩:=PO I.cn e;have hz:xs.length<=aZ:=by rw [<-iI rel]; exact z
  have hl:(putK kvs k v).length<=aZ:=by have:=wW kvs k v; lia
  refine wpAny_setItem_heap (hsz:=hz) (mJ hu) (vY I.cn eb) dd fun h' BZ hs=>h _ ?_;obtain⟨q,es,ep,hq,h2,h3,h4,_,h5⟩:=BZ;refine rS I (by rw [e]; exact gq) hs ⟨q,hq⟩ ⟨hl,hd,_,(rel.put k eb rv).keeps fun c ys ec=>?_,q,es,ep,hq,h2,h3,h4,h5⟩;rw [bO (S4 ec e (fun z=>nomatch z))];exact ec
end
section
variable {X:Cx} {pins:List (Addr×Obj)} {σ:St} {H:Hp} {s:az} {a:Addr} {kvs:List (Key×V)} {k:Key} {u:Value} {A:dI} {E:Value->az->Prop}
theorem Tz {Q:Value->az->Prop} (I:Inv X pins σ H s) (e:Rd H a (.dK kvs)) (h:∀ t s',Inv X pins σ H s'->Q (.int kvs.length t) s'):wpAny (model X.prog X.w) A (call (.builtin "len") [.ref a]) Q E s:=by
 obtain⟨z,hd,vs,rel,dd⟩:=sJ I.cn e;refine call_len_dict hd dd (by rw [<-rel.length]; rw [cF] at z; lia) ?_;rw [<-rel.length];exact h _ _ (I.tok _)
theorem Sa{Q:Bool->az->Prop}(I:Inv X pins σ H s)(e:Rd H a (.dK kvs))(h:∀ s',Inv X pins σ H s'->Q (!kvs.isEmpty) s'):wpAny (model X.prog X.w) A (truthy (.ref a)) Q E s:=by
 obtain⟨z,hd,vs,rel,dd⟩:=sJ I.cn e;refine Hb hd dd (by rw [<-rel.length]; rw [cF] at z; lia) ?_;have q:kvs.isEmpty=vs.isEmpty:=by cases rel <;> rfl
 rw [<-q];exact h _ (I.tok _)
end
theorem qS {X:Cx} {pins:List (Addr×Obj)} {σ:St} {H:Hp} {s:az} {a:Addr} {y:V} {o:Option V} (I:Inv X pins σ H s) (g:Ac H a y o):s.TypeIs (.ref a) "dict":=by
 rcases g with ⟨kvs,k,e,_,_⟩ | ⟨kvs,k,b,e,_,_,_⟩
 ·obtain⟨_,_,vs,_,dd⟩:=sJ I.cn e;exact dd.typeIs
 ·obtain⟨_,_,xs,_,dd⟩:=zI I.cn e;exact dd.typeIs
theorem Gd {P:bI} {w:World} {H:Hp} (h:Heap) (hb:da < h.objs.size):fH P w H (h.push { cls:=.type "dict",data:=.dict #[] }) h.objs.size (.dK []) :=
 ⟨cw _,beq_eq_false_iff_ne.mpr (e7 (bB hb)),[],.nil,Heap.DictOf.new h⟩
noncomputable def T6:TE:=fun _ H Q=>∀ p,H p=none->Q (.ref p) (upd H p (.dK []))
section
variable {X:Cx} {pos:Pos}
theorem Om:PE X (.Dict [] [] pos) T6:=fun pins s σ H Q I h =>
 wpAny_Dict_empty ⟨.ref s.heap.objs.size,_,I.laid (a:=s.heap.objs.size) (o:=.dK []) (t':=s.toks) (fun _ _ q=>aH _ q) (aC _) (Gd s.heap I.big),rfl,h _ (I.cn.fresh (aC _))⟩
end
noncomputable abbrev VV:List (V×V)->List (Value×Value)->Prop:=kH fun p q=>RelV p.1 q.1/\RelV p.2 q.2
noncomputable def Ig(kvs more:List (Key×V)):List (Key×V):=more.foldl (fun acc kv=>putK acc kv.1 kv.2) kvs
theorem KV.merge:∀ {more:List (Key×V)} {rs:List (Key×Value)} {kvs:List (Key×V)} {vs:List (Key×Value)},KV more rs->KV kvs vs->KV (Ig kvs more) (merged vs rs):=by
 intro more rs kvs vs r;unfold KV at r;induction r generalizing kvs vs with
 | nil=>intro q; exact q
 | @cons p q ps qs h t ih =>
  intro r0;have e:KV (putK kvs p.1 p.2) (stored vs q.1 q.2):=by
   have:=r0.put p.1 h.2;rw [<-h.1]; exact this
  exact ih e
theorem zM{P:bI}{w:World}:∀ {kvs:List (Key×V)} {ws:List (Value×Value)},VV (kvs.map fun kv=>(kV kv.1,kv.2)) ws->∃ rs,Carries (cC P w) ws rs/\KV kvs rs
 | [],_,r=>by rw [aT] at r; cases r; exact⟨[],gq,.nil⟩
 | p :: kvs,_,r=>by
  rw [ao] at r;cases r with
  | @cons a b as bs h t =>
   obtain⟨rs,c,q⟩:=zM (P:=P) (w:=w) t;obtain⟨b1,b2⟩:=b;exact⟨(p.1,b2) :: rs,⟨zi h.1,rfl,c⟩,.cons ⟨rfl,h.2⟩ q⟩
noncomputable def IsD(H:Hp)(a:Addr):Prop:=(∃ kvs,Rd H a (.dK kvs))\/∃ kvs,Rd H a (.dT kvs)
theorem O5{X:Cx}{pins:List (Addr×Obj)}{σ:St}{H:Hp}{s:az}{a:Addr}(I:Inv X pins σ H s)(d:IsD H a) :
  s.TypeIs (.ref a) "dict"/\(∀ b,fV a=.ref b->∃ ob,s.heap.get? b=some ob/\ob.dict=none)/\(a == da)=false:=by
 rcases d with ⟨kvs,e⟩ | ⟨kvs,e⟩
 ·obtain⟨_,hd,vs,_,dd⟩:=sJ I.cn e;refine⟨dd.typeIs,fun b q=>?_,hd⟩;cases q;obtain⟨ob,_,_,h1,h2,_⟩:=dd;exact⟨ob,h1,h2.2.1⟩
 ·obtain⟨_,hd,xs,_,dd⟩:=zI I.cn e;refine⟨dd.typeIs,fun b q=>?_,hd⟩;cases q;obtain⟨ob,_,_,h1,h2,_⟩:=dd;exact⟨ob,h1,h2.2.1⟩
end L2
namespace Att
open PySem PySem.W PySem.Calls PyProof.Rows
theorem xl{P:Params}{h:Heap}:∀ (ns:List Int) (vs:List Value),WellAll P h vs (ns.map WData.int)->mK vs ns:=by
 intro ns;induction ns with
 | nil =>
  intro vs w;rw [aT] at w;cases w;exact .nil
 | cons n ns ih =>
  intro vs w;rw [ao] at w;cases w with
  | cons a b =>
   cases a;exact .cons _ _ (ih _ b)
theorem Ls{l:OpenLaw}{n:Nat}(hn:l.most=some n){P:Params}{h:Heap}{args:List WData}{vals:List Value}
  (RZ:l.row.toRowW.claim.pre args=true) (Zx:WellAll P h vals args) :
  ∃ a vs ns,vals=[fV a]/\args=[WData.list (ns.map WData.int)]/\h.get? a=some { cls:=.type "list",data:=.seq vs.toArray }/\mK vs ns/\ns.length<=n:=by
 have hsh:WShape.hasAll [] args [.list .int]=true:=(pre_splitW RZ).1;have hc:l.pre.holds [] { args:=args } = true:=(pre_splitW RZ).2;obtain⟨d,r,rfl,h1,h2⟩:=hasAllW_cons hsh;obtain rfl:=hasAllW_nil h2;obtain⟨xs,rfl,h3⟩:=hasW_list h1;obtain⟨ns,rfl⟩:=items_int h3;have hlen:ns.length<=n:=by
  unfold OpenLaw.pre at hc;have h4:(WTm.not (.lt (.lit (.int (n:Int))) (.len (.arg 0)))).holds [] { args:=[.list (ns.map .int)] } = true:=by
   have h4:=(holds_andW hc).1;rw [hn] at h4;exact h4
  have h5:=condW_of h4 (w_not (w_lt w_lit (w_len_list (w_arg rfl))));rw [ak] at h5;refine Nat.le_of_not_lt fun q=>?_;have q':(n:Int) < ((ns.length:Nat):Int):=by lia
  first
   | (rw [decide_eq_true q'] at h5; exact absurd h5 (by decide))
   | (simp at h5; lia)
 cases Zx with
 | cons w1 w2 =>
  cases w2;cases w1 with
  | list ho AN=>exact⟨_,_,ns,rfl,rfl,ho,xl ns _ AN,hlen⟩
theorem LG(l:OpenLaw)(args:List WData):l.row.toRowW.claim.post args (.bool true) args=true :=
 postW_of (r:=l.row.toRowW) (X:=(true == true))
  (show WShape.has [] (.bool true) .bool=true by first | rfl | decide | simp [WShape.has,WShape.arms,WShape.armsAll])
  (show (WTm.eq .res (.lit (.bool true))).value [] { args:=args,res:=some (.bool true),after:=args } = some (.bool (true == true)) from w_eq_bool (w_res rfl) w_lit) rfl
theorem Gv{l:OpenLaw}{n:Nat}{q:bI}{loose:List Str}{XP:(Str->Option Value)->Heap->Prop}{YP:World->Heap->Prop}{d:DefRec}
  (hn:l.most=some n) (W9:d.params.defaults=[])
  (call:∀ (w:World) (ny fX:az) (mg mb:Str->Option Value) (fa:Addr) (o:Obj) (pm cd doc:Value) (a:Addr) (vs:List Value) (ns:List Int),
   Ground q loose [] XP w ny mg mb fX.heap->YP w fX.heap ->
   fX.heap.get? fa=some o->o.data=.func (docDef d.name d.params d.body d.scope pm cd doc)->fX.heap.CodeRec cd d.name->mg d.name=some (.ref fa) ->
   fX.heap.get? a=some { cls:=.type "list",data:=.seq vs.toArray }->mK vs ns->ns.length<=n->fX.gens=#[] ->
   Ce (model l.prog w) Hi (.call (.ref fa) ⟨[.ref a],[]⟩) (fun r s'=>r=.ok (.ret (.bool true))/\OldK fX.heap s'.heap/\s'.os=fX.os/\Cm s'.gens) fX) :
  WalkO q loose XP YP l.row.toRowW d [] (fun f vs=>Jv f vs):=by
 intro w ny fX mg mb G Y fa o pm cd doc dV kV ho hd Ks hD W2 hg args vals as RZ adN hrd Zx hlo;obtain rfl:dV=.none:=Dflts.none hD W9;obtain rfl:kV=.none:=Dflts.noKw hD;obtain⟨a,vs,ns,rfl,rfl,Pg,hints,hlen⟩:=Ls hn RZ Zx;refine enter_call (codeAny_mono (call w ny fX mg mb fa o pm cd doc a vs ns G Y ho (fd_plain hd) Ks W2 Pg hints hlen hg) fun r s' hq=>?_);obtain⟨rfl,h2,h3,h4⟩:=hq;exact⟨.inl ⟨.bool true,.bool true,[],rfl,fun _=>rfl,.bool true,LG l _,fun _=>⟨List.Pairwise.nil,fun _ hm=>(nomatch hm)⟩⟩,h2,h3,h4⟩
end Att
namespace L2
open PySem PySem.Spec PyProof.Rows
theorem Bb:∀ {vs:List Value} {ns:List Int},mK vs ns->Vals (ns.map V.int) vs
 | _,_,.nil=>.nil
 | _,_,.cons n t h=>.cons ⟨t,rfl⟩ (Bb h)
noncomputable def SD(H:Hp):Prop:=∀ b,H b=none\/∃ o xs,H b=some (.ja o (.lst xs))
theorem OQ{P:bI}{w:World}{K:au}{mg mb:Str->Option Value}{CX:K8}{k:Nat}{fa a:Addr}{fd:gm}{x:Str}{sp:Sp}{fX:az}{vs:List Value}{ns:List Int}
  (KX:K.In fX.heap) (QK:fX.heap.Ns bW mg) (hb:fX.heap.Ns builtinsNs mb) (hbb:∀ x:Str,x≠"__name__"->mb x=eK x) (ZV:fX.heap.NoLimit) (hg:fX.gens=#[])
  (ha:fX.heap.get? a=some { cls:=.type "list",data:=.seq vs.toArray }) (hi:mK vs ns) (hl:ns.length<=aZ) (hr:lV k Hi)
  (F:∀ base:Heap,K.In base->base.Ns bW mg->wu P w K mg base CX k fa fd [x] sp) (Xf:∀ (s:az) (u:Value),BindsTo s fd ⟨[u],[]⟩ [(x,u)])
  (Td:∀ H:Hp,SD H->oS K H a (ns.map V.int)->sp [.ref a] H (fun v _=>v=.bl true) fun _ _ _=>False)
  (hCX:∀ H e s',CX [] H fX (fun _ _ _=>False) e s'->False) :
  Ce (model P w) Hi (.call (.ref fa) ⟨[.ref a],[]⟩) (fun r s'=>r=.ok (.ret (.bool true))/\OldK fX.heap s'.heap/\s'.os=fX.os/\Cm s'.gens) fX:=by
 have rv:=Bb hi;have Zg:=hi.length;have core:∀ H:Hp,SD H->oS K H a (ns.map V.int)->pV P w H fX.heap->(∀ b,H b≠none->b=a)->(H a≠none->K.lookup a=none) ->
   Ce (model P w) Hi (.call (.ref fa) ⟨[.ref a],[]⟩) (fun r s'=>r=.ok (.ret (.bool true))/\OldK fX.heap s'.heap/\s'.os=fX.os/\Cm s'.gens) fX:=by
  intro H hO hS cn hA hK;have KY:∀ {b:Addr} {o:Obj},fX.heap.get? b=some o->H b=none->(C1 fX.heap H).get? b=some o:=fun e n=>Pk e n;have Wx:∀ {b:Addr} {o:Obj} {es:Array fE} {ep:Nat},fX.heap.get? b=some o->o.data=.dict es ep->H b=none:=fun {b o es ep} e d=>by
   cases q:H b with
   | none=>rfl
   | some u =>
    have e':b=a:=hA b (by rw [q]; simp);subst e';rw [ha] at e; cases e;have d':Data.seq vs.toArray _=Data.dict es ep:=d;cases d'
  have X3:∀ {b:Addr} {m:Str->Option Value},fX.heap.Ns b m->(C1 fX.heap H).Ns b m:=fun {b m} ⟨o,es,ep,e,d,r⟩=>⟨o,es,ep,KY e (Wx e d),d,r⟩;have hKb:K.In (C1 fX.heap H):=fun b o e=>KY (KX b o e) (by
   cases q:H b with
   | none=>rfl
   | some u =>
    have e':b=a:=hA b (by rw [q]; simp);subst e';rw [hK (by rw [q]; simp)] at e; cases e)
  have hM:Mod K mg (C1 fX.heap H):=⟨hKb,X3 QK,⟨mb,X3 hb,hbb⟩,let ⟨mc,h1,h2⟩:=ZV; ⟨mc,X3 h1,h2⟩⟩;have e0:SF P w K mg (C1 fX.heap H) Hi [] fX H:=⟨rfl,hM,fun b o e=>RL e,Nat.le_of_eq (Me _ _),trivial,fun b hb=>absurd (show b∈([]:List Addr) from hb) (by simp),cn,.of_eq hg⟩;refine codeAny_mono ((F _ hKb (X3 QK)).run Hi [] fX H ⟨[.ref a],[]⟩ [.ref a] [.ref a] _ _ hr e0 (Xf fX (.ref a)) (.cons rfl .nil) (Td H hO hS)) fun r s' h=>?_;cases r with
  | error e=>exact(hCX H e s' h).elim
  | ok fl =>
   cases fl with
   | next=>exact bN h
   | brk=>exact bN h
   | cont=>exact bN h
   | ret u =>
    obtain⟨v,H',os,bare,un,ZN,r',q⟩:=h;have q':v=.bl true:=q;subst q';obtain rfl:u=Value.bool true:=r';refine⟨rfl,OldK.of_keep fun b o e=>?_,os,bare⟩;cases q:H b with
    | none=>exact un.keep b o e q (by intro z; exact absurd (show b∈([]:List Addr) from z) (by simp)) (by simp)
    | some u =>
     rcases hO b with z | ⟨ob,xs,z⟩
     ·rw [q] at z; cases z
     ·have z2:=un.uS b ob _ z;obtain⟨e1,_⟩:=cn b _ z;obtain⟨e2,_⟩:=ZN b _ z2;rw [e] at e1; cases e1;exact e2
 cases hk:K.lookup a with
 | some o =>
  have e:=KX a o hk;rw [ha] at e;cases e;refine core (fun _=>none) (fun _=>.inl rfl) (.inr ⟨_,vs.toArray,_,hk,rfl,rfl,rfl,by rw [aX,Zg]; exact hl,by simpa using rv⟩) (fun b u z=>by have z':(none:Option HO)=some u:=z; cases z') (fun b z=>absurd rfl z) fun z=>absurd rfl z
 | none =>
  refine core (fun b=>if b=a then some (.ja { cls:=.type "list",data:=.seq vs.toArray } (.lst (ns.map V.int))) else none) (fun b=>?_) (.inl (.inr ⟨{ cls:=.type "list",data:=.seq vs.toArray },if_pos rfl⟩)) (fun b u z=>?_) (fun b z=>?_) fun _=>hk
  ·by_cases hb:b=a
   ·exact .inr ⟨_,_,if_pos hb⟩
   ·exact .inl (if_neg hb)
  ·by_cases hb:b=a
   ·have z':=(if_pos hb).symm.trans z;cases z';subst hb;exact⟨ha,by rw [ak]; exact hl,vs,_,rv,ha⟩
   ·have z':=(if_neg hb).symm.trans z;cases z'
  ·by_cases hb:b=a
   ·exact hb
   ·exact absurd (if_neg hb) z
theorem QW{l:Cf}{n k:Nat}{q:bI}{loose:List Str}{XP:(Str->Option Value)->Heap->Prop}{YP:World->Heap->Prop}{d:DefRec}{K:Params->au}{CX:World->K8}{sp:World->Sp}{x:Str}
  (hn:l.most=some n) (hn2:n<=aZ) (W9:d.params.defaults=[]) (hr:lV k Hi)
  (hY:∀ (w:World) (h:Heap),YP w h->(K w.params).In h)
  (F:∀ (w:World) (mg:Str->Option Value) (fa:Addr) (h:Heap),(K w.params).In h->h.Ns bW mg->mg d.name=some (.ref fa) ->
   ∃ fd:gm,(∀ (s:az) (u:Value),BindsTo s fd ⟨[u],[]⟩ [(x,u)]) /\
    ∀ base:Heap,(K w.params).In base->base.Ns bW mg->wu l.prog w (K w.params) mg base (CX w) k fa fd [x] (sp w))
  (Td:∀ (w:World) (H:Hp) (a:Addr) (ns:List Int),ns.length<=n->SD H->oS (K w.params) H a (ns.map V.int)->sp w [.ref a] H (fun v _=>v=.bl true) fun _ _ _=>False)
  (hCX:∀ (w:World) (H:Hp) (s:az) (e:Value) (s':az),CX w [] H s (fun _ _ _=>False) e s'->False) :
  PySem.W.WalkO q loose XP YP l.row.toRowW d [] (fun f vs=>Jv f vs):=by
 refine Att.Gv hn W9 fun w ny fX mg mb fa o pm cd doc a vs ns G Y ho hd Ks W2 Pg hints hlen hg=>?_;have KX:=hY w _ Y;obtain⟨fd,hb,hF⟩:=F w mg fa _ KX G.T.g W2;exact OQ KX G.T.g G.T.b G.T.builtins G.T.nolimit hg Pg hints (bw hlen hn2) hr hF hb (fun H hO hS=>Td w H a ns hlen hO hS) fun H e s'=>hCX w H fX e s'
end L2
/- THE aeZ Yo (shape; LID,My.* are aaR):
   My.Adr: a structure of YA addresses acA acu abo names (classes,VP); My.Txt K t: a structure (Prop) of YA equations over K;
   My.Yz:{K} {implicit addresses ..} (e1:nsIn K bW "law" = some (some (.ref f))) (e2:K.lookup f=some ⟨oc,od,.func (fnOf "law" "law" params body scope dV kV doc pm an mE ct),sl⟩) (e3:codeIn K mE "law" = true) ..:∃ t,My.Txt K t
(YA tactic k_is has no namespace: write k_is) -/
namespace L2
open PySem PySem.Spec PyProof.Rows
noncomputable def k7(s:Stmt):Arguments:=match s with
 | .FunctionDef _ a _ _ _ _ _ _ _ _=>a
 | _=>{ posonlyargs:=[],args:=[],vararg:=none,kwonlyargs:=[],kw_defaults:=[],kwarg:=none,defaults:=[] }
noncomputable def iK(s:Stmt):List Stmt:=match s with
 | .FunctionDef _ _ b _ _ _ _ _ _ _=>b
 | _=>[]
noncomputable def bV(s:Stmt):Scope:=match s with
 | .FunctionDef _ _ _ _ _ _ sc _ _ _=>sc
 | _=>{ kind:=.function,names:=[],isGenerator:=false,isCoroutine:=false }
noncomputable abbrev Js:K8:=fun _ _ _ _ _ _=>False
noncomputable abbrev E0:XK:=fun _ _ _=>False
theorem S0{X:Cx}:Passes Js X E0:=fun _ _ _ _ _ _ _ h=>h.elim
structure SE(K:au)(x qual:Str)(st:Stmt)(f:Addr)(fd:gm):Prop where
 ex:∃ (oc:Value) (od:Option Addr) (kV doc pm:Value) (an:Option Addr) (mE ct:Value) (LJ:Array (Option Value)),
  fd=kD x qual (k7 st) (iK st) (bV st) .none kV doc pm an mE ct/\K.lookup f=some ⟨oc,od,.func fd,LJ⟩/\Ec K mE qual=true
 kp:vd K (.ref f)=true
section
variable {P:bI} {w:World} {K:au} {mg:Str->Option Value} {base:Heap}
theorem SE.ok{x qual:Str}{st:Stmt}{f:Addr}{fd:gm}{N ps:List Str}{k:Nat}{sp:Sp}(F:SE K x qual st f fd)(S:nT N ps (bV st))(len:∀ vs H Q E,sp vs H Q E->vs.length=ps.length)
  (Pp:∀ (mE:Value) (A:dI) (outer:List Env) (s:az) (H:Hp) (vs:List V) (Q:VK) (E:XK),lV k (A.deeper (A6 qual (bV st) s.heap.objs.size f mE))->sp vs H Q E ->
   ∃ t,VX (Ds Js P w K mg base N qual (bV st) f mE A outer s H E).UK (iK st) t/\t { nx:=fun _ H'=>Q .eQ H',rt:=Q } (start N vs) H):wu P w K mg base Js (k+1) f fd ps sp:=by
 obtain⟨oc,od,kV,doc,pm,an,mE,ct,LJ,rfl,lk,Ks⟩:=F.ex;refine Xl lk Ks S len fun A outer s H vs Q E hr Td=>?_;obtain⟨t,h,q⟩:=Pp mE A outer s H vs Q E hr Td;exact⟨t,h.UK,q⟩
theorem SE.binds{x qual:Str}{st:Stmt}{f:Addr}{fd:gm}{ps:List Str}(F:SE K x qual st f fd)
  (h:∀ (kV doc pm:Value) (an:Option Addr) (mE ct:Value) (us:List Value),us.length=ps.length->bindArgs (kD x qual (k7 st) (iK st) (bV st) .none kV doc pm an mE ct) ⟨us,[]⟩=pure (ps.zip us)):Binds K fd ps []:=by
 obtain⟨oc,od,kV,doc,pm,an,mE,ct,LJ,rfl,lk,Ks⟩:=F.ex;exact .all (h kV doc pm an mE ct)
theorem Vd{x qual:Str}{st:Stmt}{f:Addr}{oc:Value}{od an:Option Addr}{LJ:Array (Option Value)}{kV doc pm mE ct:Value}(l:K.lookup f=some ⟨oc,od,.func (kD x qual (k7 st) (iK st) (bV st) .none kV doc pm an mE ct),LJ⟩)
  (c:Ec K mE qual=true) (k:vd K (.ref f)=true):SE K x qual st f (kD x qual (k7 st) (iK st) (bV st) .none kV doc pm an mE ct):=⟨⟨oc,od,kV,doc,pm,an,mE,ct,LJ,rfl,l,c⟩,k⟩
end
end L2
set_option autoImplicit false
section
namespace K2
open PySem (Str)
noncomputable abbrev PK:=List (List (List Int))
inductive D where
 | eQ | bl (b:Bool) | int (i:Int) | str (x:Str) | tup (ds:List D) | cY (ds:List D) | j8 (kvs:List (D×D)) | ref (a:Nat) | exc (c:Str) | FZ (c:Str) (ns:List Str) (ds:List D) | oF (kvs:List (PK×D))
 deriving Inhabited
inductive GO where
 | lst (ds:List D)
 | gK (kvs:List (D×D))
 | ins (c:Str) (fs:List (Str×D))
 | qh (kvs:List (PK×D))
noncomputable abbrev Gp:=Nat->Option GO
noncomputable def eA(G:Gp)(a:Nat)(o:GO):Gp:=fun b=>if b=a then some o else G b
theorem ay{G:Gp}{a:Nat}{o:GO}:eA G a o a=some o:=by unfold eA; rw [if_pos rfl]
theorem cu{G:Gp}{a b:Nat}{o:GO}(h:b≠a):eA G a o b=G b:=by unfold eA; rw [if_neg h]
noncomputable abbrev SZ:Nat:=16777216
structure Ex where
 cls:Str
 aep:List (Str×D)
noncomputable abbrev mG:=Ex->Gp->Prop
noncomputable abbrev iN:=List (Option D)
noncomputable abbrev DK:=D->Gp->Prop
noncomputable abbrev gJ:=mG->iN->Gp->DK->Prop
noncomputable abbrev xT:=mG->iN->Gp->(Bool->Gp->Prop)->Prop
noncomputable abbrev D4:=mG->iN->Gp->(List D->Gp->Prop)->Prop
structure nU where
 nx:iN->Gp->Prop
 rt:DK
 bk:iN->Gp->Prop
 ct:iN->Gp->Prop
noncomputable abbrev hV:=mG->nU->iN->Gp->Prop
noncomputable abbrev jU:=List D->Gp->DK->mG->Prop
noncomputable abbrev Ax:=D->D->Gp->DK->Prop
noncomputable def GU(n:Nat)(i:Int):Option Nat:=if 0<=i then (if i < n then some i.toNat else none) else if -(n:Int)<=i then some (i+n).toNat else none
noncomputable def pU{α:Type}(xs:List α)(i:Int):Option α:=(GU xs.length i).bind fun j=>xs[j]?
noncomputable def jJ(n d:Nat):Option Int->Nat
 | none=>d
 | some v=>if v < 0 then (v+(n:Int)).toNat else min v.toNat n
noncomputable def cut{α:Type}(xs:List α)(lo hi:Option Int):List α:=(xs.drop (jJ xs.length 0 lo)).take (jJ xs.length xs.length hi - jJ xs.length 0 lo)
mutual
noncomputable def ij:D->D->Bool
 | .eQ,.eQ=>true
 | .bl a,.bl b=>a == b
 | .bl a,.int b=>(if a then 1 else 0) == b
 | .int a,.bl b=>a == (if b then 1 else 0)
 | .int a,.int b=>a == b
 | .str a,.str b=>a == b
 | .tup a,.tup b=>lA a b
 | .cY a,.cY b=>lA a b
 | _,_=>false
noncomputable def lA:List D->List D->Bool
 | [],[]=>true
 | a :: r,b :: t=>ij a b&&lA r t
 | _,_=>false
end
mutual
noncomputable def nr:D->Bool
 | .ref _=>false
 | .exc _=>false
 | .FZ _ _ _=>false
 | .j8 _=>false
 | .oF _=>false
 | .str x=>x.cps.all (· < 0x110000)
 | .tup ds=>pN ds
 | .cY ds=>pN ds
 | _=>true
noncomputable def pN:List D->Bool
 | []=>true
 | d :: r=>nr d&&pN r
end
class inductive Sn (G:Gp):Nat->D->D->Prop
 | eQ {n:Nat}:Sn G n .eQ .eQ
 | bl {n:Nat} (b:Bool):Sn G n (.bl b) (.bl b)
 | int {n:Nat} (i:Int):Sn G n (.int i) (.int i)
 | str {n:Nat} (x:Str) (h:x.cps.all (· < 0x110000)=true):Sn G n (.str x) (.str x)
 | HC {n:Nat}:Sn G (n+1) (.tup []) (.tup [])
 | qy {n:Nat} {d s:D} {ds ss:List D}:Sn G n d s->Sn G (n+1) (.tup ds) (.tup ss)->Sn G (n+1) (.tup (d :: ds)) (.tup (s :: ss))
 | EA {n:Nat}:Sn G (n+1) (.cY []) (.cY [])
 | yE {n:Nat} {d s:D} {ds ss:List D}:Sn G n d s->Sn G (n+1) (.cY ds) (.cY ss)->Sn G (n+1) (.cY (d :: ds)) (.cY (s :: ss))
 | ref {n:Nat} {a:Nat} {ds ss:List D}:G a=some (.lst ds)->Sn G n (.cY ds) (.cY ss)->Sn G n (.ref a) (.cY ss)
noncomputable abbrev SN:Nat:=8
theorem Sn.nr{G:Gp}{n:Nat}{d t:D}(h:Sn G n d t):K2.nr t=true:=by
 induction h with
 | eQ=>rfl
 | bl b=>rfl
 | int i=>rfl
 | str x h=>exact h
 | HC=>rfl
 | qy _ _ Pb Pa =>
  show (K2.nr _&&K2.pN _)=true;rw [Pb];exact Pa
 | EA=>rfl
 | yE _ _ Pb Pa =>
  show (K2.nr _&&K2.pN _)=true;rw [Pb];exact Pa
 | ref _ _ ih=>exact ih
noncomputable def pM(k:PK):D:=.tup (k.map fun r=>.tup (r.map fun t=>.tup (t.map D.int)))
noncomputable def dE:D->Bool
 | .int _=>true
 | .str _=>true
 | _=>false
noncomputable def En:D->Gp->Option Bool
 | .eQ,_=>some false
 | .bl b,_=>some b
 | .int i,_=>some (i != 0)
 | .str x,_=>if x.length<=SZ then some ((x.length:Int) != 0) else none
 | .tup ds,_=>some (!ds.isEmpty)
 | .cY ds,_=>some (!ds.isEmpty)
 | .exc _,_=>none
 | .FZ _ _ _,_=>none
 | .oF _,_=>none
 | .j8 kvs,_=>if (kvs.all fun p=>dE p.1)=true then some (!kvs.isEmpty) else none
 | .ref a,G=>match G a with
  | some (.lst ds)=>some (!ds.isEmpty)
  | some (.gK kvs)=>if (kvs.all fun p=>dE p.1)=true then some (!kvs.isEmpty) else none
  | _=>none
noncomputable def av(i:Nat):gJ:=fun _ τ G Q=>match τ[i]? with
 | some (some d)=>Q d G
 | _=>False
noncomputable def dC(d:D):gJ:=fun _ _ G Q=>Q d G
noncomputable def aQ:D4:=fun _ _ G Q=>Q [] G
noncomputable def aw(a:gJ)(r:D4):D4:=fun E τ G Q=>a E τ G fun x G1=>r E τ G1 fun xs G2=>Q (x :: xs) G2
noncomputable def gi(t:D4):gJ:=fun E τ G Q=>t E τ G fun ds G1=>ds.length<=SZ/\Q (.tup ds) G1
noncomputable def jb(t:D4):gJ:=fun E τ G Q=>t E τ G fun ds G1=>ds.length<=SZ/\∀ p,G1 p=none->Q (.ref p) (eA G1 p (.lst ds))
noncomputable def br(r:Ax)(a b:gJ):gJ:=fun E τ G Q=>a E τ G fun x G1=>b E τ G1 fun y G2=>r x y G2 Q
noncomputable def GX(r:D->Gp->DK->Prop)(a:gJ):gJ:=fun E τ G Q=>a E τ G fun x G1=>r x G1 Q
noncomputable def gX(G:Gp)(o:GO)(Q:DK):Prop:=∀ p,G p=none->Q (.ref p) (eA G p o)
noncomputable def MulOk(i j:Int):Prop:=(-(2 ^ 64) < i/\i < 2 ^ 64)\/(-(2 ^ 64) < j/\j < 2 ^ 64)
noncomputable def qK:D->Gp->Option (List D)
 | .cY ds,_=>some ds
 | .ref a,G=>match G a with
  | some (.lst ds)=>some ds
  | _=>none
 | _,_=>none
noncomputable def DJ(x y:D)(G:Gp)(Q:DK):Prop:=match qK x G,qK y G with
 | some xs,some ys=>xs.length+ys.length<=SZ/\gX G (.lst (xs++ys)) Q
 | _,_=>False
noncomputable def jP:Ax
 | .int i,.int j,G,Q=>Q (.int (i+j)) G
 | .str a,.str b,G,Q=>a.length+b.length<=SZ/\Q (.str (a++b)) G
 | .tup a,.tup b,G,Q=>a≠[]/\a.length+b.length<=SZ/\Q (.tup (a++b)) G
 | x,y,G,Q=>DJ x y G Q
noncomputable def N1:Ax
 | .int i,.int j,G,Q=>Q (.int (i - j)) G
 | _,_,_,_=>False
noncomputable def LA:Ax
 | .int i,.int j,G,Q=>MulOk i j/\Q (.int (i * j)) G
 | _,_,_,_=>False
noncomputable def sR:Ax
 | .int i,.int j,G,Q=>0 < j/\Q (.int (i % j)) G
 | _,_,_,_=>False
noncomputable def EL:Ax
 | .int i,.int j,G,Q=>0 < j/\j < 2 ^ 30/\Q (.int (i / j)) G
 | _,_,_,_=>False
noncomputable def AJ:D->Gp->DK->Prop
 | .int i,G,Q=>Q (.int (-i)) G
 | _,_,_=>False
noncomputable def GR(neg:Bool):Ax:=fun x y G Q=>∃ a b,Sn G SN x a/\Sn G SN y b/\Q (.bl (if neg then !ij a b else ij a b)) G
noncomputable def lexLt:List Int->List Int->Bool
 | [],[]=>false
 | [],_ :: _=>true
 | _ :: _,[]=>false
 | x :: xs,y :: ys=>if x=y then lexLt xs ys else decide (x < y)
noncomputable def Wh:Ax
 | .int i,.int j,G,Q=>Q (.bl (decide (i < j))) G
 | .tup a,.tup b,G,Q=>∃ xs ys,a=xs.map D.int/\b=ys.map D.int/\Q (.bl (lexLt xs ys)) G
 | _,_,_,_=>False
noncomputable def rLe:Ax
 | .int i,.int j,G,Q=>Q (.bl (decide (i<=j))) G
 | _,_,_,_=>False
noncomputable def rGt:Ax
 | .int i,.int j,G,Q=>Q (.bl (decide (i > j))) G
 | _,_,_,_=>False
noncomputable def rGe:Ax
 | .int i,.int j,G,Q=>Q (.bl (decide (i>=j))) G
 | _,_,_,_=>False
noncomputable def itemsOf:D->Gp->Option (List D)
 | .tup ds,_=>some ds
 | .cY ds,_=>some ds
 | .ref a,G=>match G a with
  | some (.lst ds)=>some ds
  | _=>none
 | _,_=>none
noncomputable def kR:D->Bool
 | .tup ds=>ds.all dE
 | _=>false
noncomputable def ie(kvs:List (D×D))(k:D):Bool:=(dE k&&kvs.all fun p=>dE p.1)||(kR k&&kvs.all fun p=>kR p.1)
noncomputable def look(kvs:List (D×D))(k:D):Option D:=(kvs.find? fun p=>ij p.1 k).map (·.2)
noncomputable def put(kvs:List (D×D))(k v:D):List (D×D) :=
 if (kvs.any fun p=>ij p.1 k)=true then kvs.map (fun p=>if ij p.1 k=true then (p.1,v) else p) else kvs++[(k,v)]
noncomputable def Oa(neg:Bool):Ax:=fun x y G Q=>match y with
 | .ref a=>(match G a with
  | some (.gK kvs)=>ie kvs x=true/\Q (.bl (if neg then !(look kvs x).isSome else (look kvs x).isSome)) G
  | some (.lst ds)=>∃ s ss,Sn G SN x s/\Sn G SN (.cY ds) (.cY ss)/\Q (.bl (if neg then !ss.any (ij · s) else ss.any (ij · s))) G
  | _=>False)
 | .j8 kvs=>kvs≠[]/\ie kvs x=true/\Q (.bl (if neg then !(look kvs x).isSome else (look kvs x).isSome)) G
 | .tup ds=>∃ s ss,Sn G SN x s/\Sn G SN (.cY ds) (.cY ss)/\Q (.bl (if neg then !ss.any (ij · s) else ss.any (ij · s))) G
 | .cY ds=>∃ s ss,Sn G SN x s/\Sn G SN (.cY ds) (.cY ss)/\Q (.bl (if neg then !ss.any (ij · s) else ss.any (ij · s))) G
 | _=>False
noncomputable def kE:Ax
 | .tup ds,.int i,G,Q=>(match pU ds i with
  | some d=>Q d G
  | none=>False)
 | .cY ds,.int i,G,Q=>(match pU ds i with
  | some d=>Q d G
  | none=>False)
 | .j8 kvs,k,G,Q=>ie kvs k=true/\(match look kvs k with
  | some d=>Q d G
  | none=>False)
 | .ref a,k,G,Q=>(match G a with
  | some (.lst ds)=>(match k with
   | .int i=>(match pU ds i with
    | some d=>Q d G
    | none=>False)
   | _=>False)
  | some (.gK kvs)=>ie kvs k=true/\(match look kvs k with
   | some d=>Q d G
   | none=>False)
  | _=>False)
 | _,_,_,_=>False
noncomputable abbrev XC:=mG->iN->Gp->(Option Int->Gp->Prop)->Prop
noncomputable def fM:XC:=fun _ _ G Q=>Q none G
noncomputable def lC(t:gJ):XC:=fun E τ G Q=>t E τ G fun x G1=>match x with
 | .int i=>Q (some i) G1
 | _=>False
noncomputable def N6:D->Option Int->Option Int->Gp->DK->Prop
 | .tup ds,lo,hi,G,Q=>¬ (jJ ds.length 0 lo=0/\jJ ds.length ds.length hi=ds.length)/\Q (.tup (cut ds lo hi)) G
 | .cY ds,lo,hi,G,Q=>gX G (.lst (cut ds lo hi)) Q
 | .ref a,lo,hi,G,Q=>(match G a with
  | some (.lst ds)=>gX G (.lst (cut ds lo hi)) Q
  | _=>False)
 | _,_,_,_,_=>False
noncomputable def zK(a:gJ)(lo hi:XC):gJ:=fun E τ G Q=>a E τ G fun x G1=>lo E τ G1 fun l G2=>hi E τ G2 fun h G3=>N6 x l h G3 Q
noncomputable def fT(a:gJ):xT:=fun E τ G Q=>a E τ G fun x G1=>match En x G1 with
 | some b=>Q b G1
 | none=>False
noncomputable def aaB(a b:xT):xT:=fun E τ G Q=>a E τ G fun c G1=>if c=true then b E τ G1 Q else Q false G1
noncomputable def B0(a b:xT):xT:=fun E τ G Q=>a E τ G fun c G1=>if c=true then Q true G1 else b E τ G1 Q
noncomputable def mw(a:xT):xT:=fun E τ G Q=>a E τ G fun c G1=>Q (!c) G1
noncomputable def KQ(a b:gJ):gJ:=fun E τ G Q=>a E τ G fun x G1=>match En x G1 with
 | some true=>b E τ G1 Q
 | some false=>Q x G1
 | none=>False
noncomputable def Xr(a b:gJ):gJ:=fun E τ G Q=>a E τ G fun x G1=>match En x G1 with
 | some true=>Q x G1
 | some false=>b E τ G1 Q
 | none=>False
noncomputable def PT(a:gJ):gJ:=fun E τ G Q=>a E τ G fun x G1=>match En x G1 with
 | some c=>Q (.bl (!c)) G1
 | none=>False
noncomputable def dIf(c:xT)(a b:gJ):gJ:=fun E τ G Q=>c E τ G fun k G1=>if k=true then a E τ G1 Q else b E τ G1 Q
noncomputable def bu(sp:jU)(t:D4):gJ:=fun E τ G Q=>t E τ G fun ds G1=>sp ds G1 Q fun _ _=>False
noncomputable def wa(r:List D->Gp->DK->Prop)(t:D4):gJ:=fun E τ G Q=>t E τ G fun ds G1=>r ds G1 Q
noncomputable def Cq(x:D)(G:Gp):Prop:=match x with
 | .ref a=>(match G a with
  | some (.lst _)=>True
  | _=>False)
 | .cY _=>True
 | _=>False
noncomputable def Q0(x:D)(G:Gp):Prop:=match x with
 | .j8 _=>True
 | .ref a=>(match G a with
  | some (.gK _)=>True
  | _=>False)
 | _=>False
noncomputable def tyS(x:D)(_:Gp):Prop:=match x with
 | .str _=>True
 | _=>False
noncomputable def tS(ty:D->Gp->Prop)(r:D->List D->Gp->DK->Prop)(o:gJ)(t:D4):gJ:=fun E τ G Q=>o E τ G fun x G1=>ty x G1/\t E τ G1 fun ds G2=>r x ds G2 Q
noncomputable def lenOf:D->Gp->Option Nat
 | .tup ds,_=>some ds.length
 | .cY ds,_=>some ds.length
 | .str x,_=>if x.length<=SZ then some x.length else none
 | .j8 kvs,_=>if (kvs.all fun p=>dE p.1)=true then some kvs.length else none
 | .ref a,G=>match G a with
  | some (.lst ds)=>some ds.length
  | some (.gK kvs)=>if (kvs.all fun p=>dE p.1)=true then some kvs.length else none
  | _=>none
 | _,_=>none
noncomputable def tK(ds:List D)(G:Gp)(Q:DK):Prop:=match ds with
 | [x]=>(match lenOf x G with
  | some n=>Q (.int (n:Int)) G
  | none=>False)
 | _=>False
noncomputable def w9(ds:List D)(G:Gp)(Q:DK):Prop:=match ds with
 | [x]=>(match itemsOf x G with
  | some xs=>gX G (.lst xs) Q
  | none=>False)
 | _=>False
noncomputable def Ta(C:String):D->Gp->Option Bool
 | .eQ,_=>some false
 | .bl _,_=>some (C == "bool" || C == "int")
 | .int _,_=>some (C == "int")
 | .str _,_=>some (C == "str")
 | .tup _,_=>some (C == "tuple")
 | .cY _,_=>some (C == "list")
 | .j8 _,_=>some (C == "dict")
 | .exc _,_=>none
 | .FZ _ _ _,_=>none
 | .oF _,_=>none
 | .ref a,G=>match G a with
  | some (.lst _)=>some (C == "list")
  | some (.gK _)=>some (C == "dict")
  | _=>none
noncomputable def Mr(C:String)(a:gJ):gJ:=fun E τ G Q=>a E τ G fun x G1=>match Ta C x G1 with
 | some b=>Q (.bl b) G1
 | none=>False
noncomputable def k6(x:D)(ds:List D)(G:Gp)(Q:DK):Prop:=match x,ds with
 | .ref a,[d]=>(match G a with
  | some (.lst xs)=>xs.length < SZ/\Q .eQ (eA G a (.lst (xs++[d])))
  | _=>False)
 | _,_=>False
noncomputable def xI(x:D)(ds:List D)(G:Gp)(Q:DK):Prop:=match x,ds with
 | .ref a,[y]=>(match G a,qK y G with
  | some (.lst xs),some ys=>xs.length+ys.length<=SZ/\Q .eQ (eA G a (.lst (xs++ys)))
  | _,_=>False)
 | _,_=>False
noncomputable def RP(x:D)(ds:List D)(G:Gp)(Q:DK):Prop:=match x,ds with
 | .ref a,[.int i,d]=>(match G a with
  | some (.lst xs)=>0<=i/\i<=xs.length/\xs.length < SZ/\Q .eQ (eA G a (.lst (xs.take i.toNat++d :: xs.drop i.toNat)))
  | _=>False)
 | _,_=>False
noncomputable def CS(x:D)(ds:List D)(G:Gp)(Q:DK):Prop:=match ds with
 | [d]=>Cq x G/\∃ xs s ss,itemsOf x G=some xs/\Sn G SN d s/\Sn G SN (.cY xs) (.cY ss)/\(match ss.findIdx? (ij · s) with
  | some k=>Q (.int (k:Int)) G
  | none=>False)
 | _=>False
noncomputable def Fg(x:D)(ds:List D)(G:Gp)(Q:DK):Prop:=match x,ds with
 | .ref a,[k,d]=>(match G a with
  | some (.gK kvs)=>ie kvs k=true/\dE k=true/\(match look kvs k with
   | some v=>Q v G
   | none=>kvs.length < SZ/\Q d (eA G a (.gK (put kvs k d))))
  | _=>False)
 | _,_=>False
noncomputable def cN:hV:=fun _ K τ G=>K.nx τ G
noncomputable def b8(a b:hV):hV:=fun E K τ G=>a E { K with nx:=b E K } τ G
noncomputable def kA(a:gJ):hV:=fun E K τ G=>a E τ G fun _ G1=>K.nx τ G1
noncomputable def bR(a:gJ):hV:=fun E K τ G=>a E τ G K.rt
noncomputable def Xq:hV:=fun _ K _ G=>K.rt .eQ G
noncomputable def fc(c:xT)(a b:hV):hV:=fun E K τ G=>c E τ G fun k G1=>if k=true then a E K τ G1 else b E K τ G1
noncomputable def IZ:hV:=fun _ _ _ _=>False
noncomputable abbrev Aw:=mG->D->iN->Gp->(iN->Gp->Prop)->Prop
noncomputable abbrev DM:=mG->List D->iN->Gp->(iN->Gp->Prop)->Prop
noncomputable def aG(i:Nat):Aw:=fun _ d τ G Q=>Q (τ.set i (some d)) G
noncomputable def ip:DM:=fun _ ds τ G Q=>match ds with
 | []=>Q τ G
 | _=>False
noncomputable def cy(t:Aw)(r:DM):DM:=fun E ds τ G Q=>match ds with
 | d :: ds=>t E d τ G fun oX G1=>r E ds oX G1 Q
 | _=>False
noncomputable def iH(t:DM):Aw:=fun E d τ G Q=>match d with
 | .tup ds=>t E ds τ G Q
 | _=>False
noncomputable def wC(o k d:D)(G:Gp)(Q:Gp->Prop):Prop:=match o with
 | .ref a=>(match G a with
  | some (.lst xs)=>(match k with
   | .int i=>(match GU xs.length i with
    | some j=>Q (eA G a (.lst (xs.set j d)))
    | none=>False)
   | _=>False)
  | some (.gK kvs)=>ie kvs k=true/\kvs.length < SZ/\Q (eA G a (.gK (put kvs k d)))
  | _=>False)
 | _=>False
noncomputable def lS(o k:gJ):Aw:=fun E d τ G Q=>o E τ G fun x G1=>k E τ G1 fun y G2=>wC x y d G2 fun G3=>Q τ G3
noncomputable def bE(a:gJ)(g:Aw):hV:=fun E K τ G=>a E τ G fun x G1=>g E x τ G1 K.nx
noncomputable abbrev MC:=mG->iN->Gp->(List D->(Gp->Prop)->Gp->Prop)->Prop
noncomputable def jS(a:gJ):MC:=fun E τ G R=>a E τ G fun x G1=>match x with
 | .tup ds=>R ds (fun _=>True) G1
 | .cY ds=>R ds (fun _=>True) G1
 | .ref p=>(match G1 p with
  | some (.lst ds)=>R ds (fun G2=>G2 p=some (.lst ds)) G1
  | _=>False)
 | _=>False
noncomputable def gM(lo:Int)(n:Nat):List D:=(ez n).map fun (i:Nat)=>D.int (lo+(i:Int))
noncomputable def wY(a:gJ):MC:=fun E τ G R=>a E τ G fun x G1=>match x with
 | .int n=>-(2 ^ 62)<=n/\n < 2 ^ 62/\R (gM 0 n.toNat) (fun _=>True) G1
 | _=>False
noncomputable def pR(g:Aw)(body:hV)(ok:Gp->Prop):List D->hV
 | []=>fun _ K τ G=>ok G/\K.nx τ G
 | d :: r=>fun E K τ G=>ok G/\g E d τ G fun oX G1=>body E { K with nx:=pR g body ok r E K,ct:=pR g body ok r E K,bk:=K.nx } oX G1
noncomputable def dN(i:MC)(g:Aw)(body:hV):hV:=fun E K τ G=>i E τ G fun ds ok G1=>pR g body ok ds E K τ G1
noncomputable def Ej(c:xT)(body:hV):Nat->hV
 | 0=>fun _ _ _ _=>False
 | n+1=>fun E K τ G=>c E τ G fun k G1=>if k=true then body E { K with nx:=Ej c body n E K,ct:=Ej c body n E K,bk:=K.nx } τ G1 else K.nx τ G1
noncomputable def IY(c:xT)(body:hV):hV:=fun E K τ G=>∃ n,Ej c body n E K τ G
noncomputable def jv(g:Aw)(c:Option xT)(e:gJ)(ok:Gp->Prop):List D->mG->iN->Gp->List D->(List D->Gp->Prop)->Prop
 | [],_,_,G,acc,Q=>ok G/\Q acc G
 | d :: r,E,τ,G,acc,Q=>ok G/\g E d τ G fun oX G1=>match c with
  | none=>e E oX G1 fun x G2=>jv g c e ok r E oX G2 (acc++[x]) Q
  | some c=>c E oX G1 fun k G2=>if k=true then e E oX G2 fun x G3=>jv g (some c) e ok r E oX G3 (acc++[x]) Q else jv g (some c) e ok r E oX G2 acc Q
noncomputable def zL(m:Nat)(fr:List Nat)(τ:iN):iN:=aO m none++fr.map fun i=>(τ[i]?).getD none
noncomputable def fx(m:Nat)(fr:List Nat)(i:MC)(g:Aw)(c:Option xT)(e:gJ):gJ:=fun E τ G Q =>
 i E τ G fun ds ok G1=>ds.length<=SZ/\jv g c e ok ds (fun _ _=>False) (zL m fr τ) G1 [] fun xs G2=>gX G2 (.lst xs) Q
noncomputable abbrev tI(ns:List Int):D:=.tup (ns.map D.int)
noncomputable def Za:List Int->Option Int
 | []=>none
 | a :: r=>some (r.foldl (fun m x=>if x < m then x else m) a)
noncomputable def Y9:List (List Int)->Option (List Int)
 | []=>none
 | a :: r=>some (r.foldl (fun m x=>if lexLt x m=true then x else m) a)
noncomputable def P6(ds:List D)(G:Gp)(Q:DK):Prop:=match ds with
 | [x]=>(∃ ns m,itemsOf x G=some (ns.map D.int)/\Za ns=some m/\Q (.int m) G)\/∃ X2 m,itemsOf x G=some (X2.map tI)/\Y9 X2=some m/\Q (tI m) G
 | _=>False
noncomputable def pB:gJ:=fun _ _ G Q=>gX G (.gK []) Q
noncomputable def ff(G G':Gp):Prop:=∀ a o,G a=some o->G' a=some o
theorem ff.refl(G:Gp):ff G G:=fun _ _ h=>h
theorem ff.trans{G G1 G2:Gp}(a:ff G G1)(b:ff G1 G2):ff G G2:=fun c o h=>b c o (a c o h)
theorem ff.new{G:Gp}{p:Nat}{o:GO}(h:G p=none):ff G (eA G p o):=fun a ob e=>by
 by_cases ha:a=p
 ·subst ha; rw [h] at e; cases e
 ·rw [cu ha]; exact e
theorem ff.free{G G':Gp}{p:Nat}(l:ff G G')(h:G' p=none):G p=none:=by
 cases q:G p with
 | none=>rfl
 | some o=>rw [l p o q] at h; cases h
theorem ff.put{G G':Gp}{p:Nat}{o:GO}(l:ff G G')(h:G p=none):ff G (eA G' p o):=fun a ob e=>by
 by_cases ha:a=p
 ·subst ha; rw [h] at e; cases e
 ·rw [cu ha]; exact l a ob e
noncomputable def ends(Q:DK):nU:=⟨fun _ G=>Q .eQ G,Q,fun _ _=>False,fun _ _=>False⟩
noncomputable def ba(n:Nat)(ds:List D):iN:=ds.map some++aO (n - ds.length) none
noncomputable def QI(x:D)(G1:Gp)(R:List D->(Gp->Prop)->Gp->Prop):Prop:=match x with
 | .tup ds=>R ds (fun _=>True) G1
 | .cY ds=>R ds (fun _=>True) G1
 | .ref p=>(match G1 p with
  | some (.lst ds)=>R ds (fun G2=>G2 p=some (.lst ds)) G1
  | _=>False)
 | _=>False
noncomputable def Ou(x:D)(G1:Gp)(Q:Option Int->Gp->Prop):Prop:=match x with
 | .int i=>Q (some i) G1
 | _=>False
noncomputable def nG(x:D)(G1:Gp)(Q:Bool->Gp->Prop):Prop:=match En x G1 with
 | some b=>Q b G1
 | none=>False
noncomputable def SS(x:D)(G1:Gp)(R:List D->(Gp->Prop)->Gp->Prop):Prop:=match x with
 | .int n=>-(2 ^ 62)<=n/\n < 2 ^ 62/\R (gM 0 n.toNat) (fun _=>True) G1
 | _=>False
noncomputable def isAt(C:String)(x:D)(G1:Gp)(Q:DK):Prop:=match Ta C x G1 with
 | some b=>Q (.bl b) G1
 | none=>False
theorem fF{i j:Int}{G:Gp}{Q:DK}:jP (.int i) (.int j) G Q=Q (.int (i+j)) G:=rfl
theorem EN{a b:List D}{G:Gp}{Q:DK}:jP (.tup a) (.tup b) G Q=(a≠[]/\a.length+b.length<=SZ/\Q (.tup (a++b)) G):=rfl
theorem qG{i j:Int}{G:Gp}{Q:DK}:N1 (.int i) (.int j) G Q=Q (.int (i - j)) G:=rfl
theorem uj{i j:Int}{G:Gp}{Q:DK}:LA (.int i) (.int j) G Q=(MulOk i j/\Q (.int (i * j)) G):=rfl
theorem kl{i j:Int}{G:Gp}{Q:DK}:sR (.int i) (.int j) G Q=(0 < j/\Q (.int (i % j)) G):=rfl
theorem rq{i j:Int}{G:Gp}{Q:DK}:EL (.int i) (.int j) G Q=(0 < j/\j < 2 ^ 30/\Q (.int (i / j)) G):=rfl
theorem lx{i:Int}{G:Gp}{Q:DK}:AJ (.int i) G Q=Q (.int (-i)) G:=rfl
theorem CC{i j:Int}{G:Gp}{Q:DK}:Wh (.int i) (.int j) G Q=Q (.bl (decide (i < j))) G:=rfl
theorem Rf{i j:Int}{G:Gp}{Q:DK}:rLe (.int i) (.int j) G Q=Q (.bl (decide (i<=j))) G:=rfl
theorem Rj{i j:Int}{G:Gp}{Q:DK}:rGt (.int i) (.int j) G Q=Q (.bl (decide (i > j))) G:=rfl
theorem Rk{i j:Int}{G:Gp}{Q:DK}:rGe (.int i) (.int j) G Q=Q (.bl (decide (i>=j))) G:=rfl
theorem Rg{ds:List D}{i:Int}{d:D}{G:Gp}{Q:DK}(h:pU ds i=some d):kE (.cY ds) (.int i) G Q=Q d G:=by unfold kE; simp only [h]
theorem Rh{a:Nat}{ds:List D}{i:Int}{d:D}{G:Gp}{Q:DK}(h1:G a=some (.lst ds))(h:pU ds i=some d):kE (.ref a) (.int i) G Q=Q d G:=by unfold kE; simp only [h1,h]
theorem CB{ds:List D}{lo hi:Option Int}{G:Gp}{Q:DK}:N6 (.tup ds) lo hi G Q=(¬ (jJ ds.length 0 lo=0/\jJ ds.length ds.length hi=ds.length)/\Q (.tup (cut ds lo hi)) G):=rfl
theorem ui{ds:List D}{lo hi:Option Int}{G:Gp}{Q:DK}:N6 (.cY ds) lo hi G Q=gX G (.lst (cut ds lo hi)) Q:=rfl
theorem Rc{a:Nat}{ds:List D}{lo hi:Option Int}{G:Gp}{Q:DK}(h:G a=some (.lst ds)):N6 (.ref a) lo hi G Q=gX G (.lst (cut ds lo hi)) Q:=by unfold N6; simp only [h]
theorem zS{ds:List D}{G:Gp}{Q:DK}:tK [.cY ds] G Q=Q (.int (ds.length:Int)) G:=rfl
theorem P8{ds:List D}{G:Gp}{Q:DK}:tK [.tup ds] G Q=Q (.int (ds.length:Int)) G:=rfl
theorem Gu{a:Nat}{ds:List D}{G:Gp}{Q:DK}(h:G a=some (.lst ds)):tK [.ref a] G Q=Q (.int (ds.length:Int)) G:=by unfold tK lenOf; simp only [h]
theorem dM{a:gJ}{E:mG}{τ:iN}{G:Gp}{R:List D->(Gp->Prop)->Gp->Prop}:jS a E τ G R=a E τ G fun x G1=>QI x G1 R:=by
 unfold jS QI; rfl
theorem Kn{ds:List D}{G:Gp}{R:List D->(Gp->Prop)->Gp->Prop}:QI (.cY ds) G R=R ds (fun _=>True) G:=rfl
theorem C0{ds:List D}{G:Gp}{R:List D->(Gp->Prop)->Gp->Prop}:QI (.tup ds) G R=R ds (fun _=>True) G:=rfl
theorem Ko{a:Nat}{ds:List D}{G:Gp}{R:List D->(Gp->Prop)->Gp->Prop}(h:G a=some (.lst ds)):QI (.ref a) G R=R ds (fun G2=>G2 a=some (.lst ds)) G:=by unfold QI; simp only [h]
theorem kz{t:gJ}{E:mG}{τ:iN}{G:Gp}{Q:Option Int->Gp->Prop}:lC t E τ G Q=t E τ G fun x G1=>Ou x G1 Q:=rfl
theorem iV{i:Int}{G:Gp}{Q:Option Int->Gp->Prop}:Ou (.int i) G Q=Q (some i) G:=rfl
theorem cD{a:gJ}{E:mG}{τ:iN}{G:Gp}{Q:Bool->Gp->Prop}:fT a E τ G Q=a E τ G fun x G1=>nG x G1 Q:=rfl
theorem bF{b:Bool}{G:Gp}{Q:Bool->Gp->Prop}:nG (.bl b) G Q=Q b G:=rfl
theorem Ln{a:Nat}{ds:List D}{G:Gp}{Q:Bool->Gp->Prop}(h:G a=some (.lst ds)):nG (.ref a) G Q=Q (!ds.isEmpty) G:=by unfold nG En; simp only [h]
theorem mX{a:gJ}{E:mG}{τ:iN}{G:Gp}{R:List D->(Gp->Prop)->Gp->Prop}:wY a E τ G R=a E τ G fun x G1=>SS x G1 R:=rfl
theorem kN{n:Int}{G:Gp}{R:List D->(Gp->Prop)->Gp->Prop}:SS (.int n) G R=(-(2 ^ 62)<=n/\n < 2 ^ 62/\R (gM 0 n.toNat) (fun _=>True) G):=rfl
theorem xO{C:String}{a:gJ}{E:mG}{τ:iN}{G:Gp}{Q:DK}:Mr C a E τ G Q=a E τ G fun x G1=>isAt C x G1 Q:=rfl
theorem Fy {C:String} {i:Int} {G:Gp} {Q:DK}:isAt C (.int i) G Q=Q (.bl (C == "int")) G:=rfl
theorem O6 {C:String} {ds:List D} {G:Gp} {Q:DK}:isAt C (.tup ds) G Q=Q (.bl (C == "tuple")) G:=rfl
theorem Gj{a b:gJ}{E:mG}{τ:iN}{G:Gp}{Q:DK}:KQ a b E τ G Q=a E τ G fun x G1=>nG x G1 fun k G2=>if k=true then b E τ G2 Q else Q x G2:=by
 unfold KQ nG;refine congrArg (a E τ G) ?_;funext x G1;cases En x G1 with
 | none=>rfl
 | some k=>cases k <;> simp
theorem Sb{a b:gJ}{E:mG}{τ:iN}{G:Gp}{Q:DK}:Xr a b E τ G Q=a E τ G fun x G1=>nG x G1 fun k G2=>if k=true then Q x G2 else b E τ G2 Q:=by
 unfold Xr nG;refine congrArg (a E τ G) ?_;funext x G1;cases En x G1 with
 | none=>rfl
 | some k=>cases k <;> simp
theorem Gg{a:gJ}{E:mG}{τ:iN}{G:Gp}{Q:DK}:PT a E τ G Q=a E τ G fun x G1=>nG x G1 fun k G2=>Q (.bl (!k)) G2:=rfl
theorem uk{a:Nat}{y:D}{G:Gp}{Q:DK}:jP (.ref a) y G Q=DJ (.ref a) y G Q:=by cases y <;> rfl
theorem yH{a:List D}{y:D}{G:Gp}{Q:DK}:jP (.cY a) y G Q=DJ (.cY a) y G Q:=by cases y <;> rfl
theorem JY{a:Nat}{lo hi:Option Int}{G:Gp}{Q:DK}:N6 (.ref a) lo hi G Q=(match G a with
  | some (.lst ds)=>gX G (.lst (cut ds lo hi)) Q
  | _=>False):=rfl
theorem CD{a:Nat}{k:D}{G:Gp}{Q:DK}:kE (.ref a) k G Q=(match G a with
  | some (.lst ds)=>(match k with
   | .int i=>(match pU ds i with
    | some d=>Q d G
    | none=>False)
   | _=>False)
  | some (.gK kvs)=>ie kvs k=true/\(match look kvs k with
   | some d=>Q d G
   | none=>False)
  | _=>False):=by unfold kE; cases k <;> rfl
theorem jB{ds:List D}{i:Int}{G:Gp}{Q:DK}:kE (.tup ds) (.int i) G Q=(match pU ds i with
  | some d=>Q d G
  | none=>False):=rfl
theorem mR{ds:List D}{i:Int}{G:Gp}{Q:DK}:kE (.cY ds) (.int i) G Q=(match pU ds i with
  | some d=>Q d G
  | none=>False):=rfl
theorem Mx{a:Nat}{G:Gp}{Q:DK}:w9 [.ref a] G Q=(match G a with
  | some (.lst ds)=>gX G (.lst ds) Q
  | _=>False):=by
 unfold w9 itemsOf;cases h:G a with
 | none=>simp only [h]
 | some g=>cases g <;> simp only [h]
theorem iX{a:Nat}{d:D}{G:Gp}{Q:DK}:k6 (.ref a) [d] G Q=(match G a with
  | some (.lst xs)=>xs.length < SZ/\Q .eQ (eA G a (.lst (xs++[d])))
  | _=>False):=rfl
theorem wU{a:Nat}{y:D}{G:Gp}{Q:DK}:xI (.ref a) [y] G Q=(match G a,qK y G with
  | some (.lst xs),some ys=>xs.length+ys.length<=SZ/\Q .eQ (eA G a (.lst (xs++ys)))
  | _,_=>False):=rfl
theorem Fi{a:Nat}{i:Int}{d:D}{G:Gp}{Q:DK}:RP (.ref a) [.int i,d] G Q=(match G a with
  | some (.lst xs)=>0<=i/\i<=xs.length/\xs.length < SZ/\Q .eQ (eA G a (.lst (xs.take i.toNat++d :: xs.drop i.toNat)))
  | _=>False):=rfl
theorem xk{a:Nat}{k d:D}{G:Gp}{Q:DK}:Fg (.ref a) [k,d] G Q=(match G a with
  | some (.gK kvs)=>ie kvs k=true/\dE k=true/\(match look kvs k with
   | some v=>Q v G
   | none=>kvs.length < SZ/\Q d (eA G a (.gK (put kvs k d))))
  | _=>False):=rfl
theorem RY{p:Nat}{G:Gp}{R:List D->(Gp->Prop)->Gp->Prop}:QI (.ref p) G R=(match G p with
  | some (.lst ds)=>R ds (fun G2=>G2 p=some (.lst ds)) G
  | _=>False):=rfl
theorem O7{C:String}{p:Nat}{G:Gp}{Q:DK}:isAt C (.ref p) G Q=(match G p with
  | some (.lst _)=>Q (.bl (C == "list")) G
  | some (.gK _)=>Q (.bl (C == "dict")) G
  | _=>False):=by
 unfold isAt Ta;cases h:G p with
 | none=>simp only [h]
 | some g=>cases g <;> simp only [h]
theorem RX {C:String} {b:Bool} {G:Gp} {Q:DK}:isAt C (.bl b) G Q=Q (.bl (C == "bool" || C == "int")) G:=rfl
theorem nF{a:Nat}{G:Gp}:Cq (.ref a) G=(match G a with
  | some (.lst _)=>True
  | _=>False):=rfl
theorem xB{a:Nat}{G:Gp}:Q0 (.ref a) G=(match G a with
  | some (.gK _)=>True
  | _=>False):=rfl
theorem QZ{ds:List D}{G:Gp}:Cq (.cY ds) G=True:=rfl
theorem xD{kvs:List (D×D)}{k:D}{G:Gp}{Q:DK}:kE (.j8 kvs) k G Q=(ie kvs k=true/\(match look kvs k with
  | some d=>Q d G
  | none=>False)):=by unfold kE; cases k <;> rfl
theorem QY{x:Str}{G:Gp}:tyS (.str x) G=True:=rfl
noncomputable def AU(R:Nat->Bool)(G:Gp):Gp:=fun a=>if R a=true then none else G a
mutual
inductive Fz (G:Gp) (R:Nat->Bool):D->D->Prop
 | same (d:D):Fz G R d d
 | tup {ds ss:List D}:Ab G R ds ss->Fz G R (.tup ds) (.tup ss)
 | cY {ds ss:List D}:Ab G R ds ss->Fz G R (.cY ds) (.cY ss)
 | ref {a:Nat} {ds ss:List D}:G a=some (.lst ds)->R a=true->Ab G R ds ss->Fz G R (.ref a) (.cY ss)
 | gK {a:Nat} {kvs S7:List (D×D)}:G a=some (.gK kvs)->R a=true->Jq G R kvs S7->Fz G R (.ref a) (.j8 S7)
 | qh {a:Nat} {kvs S7:List (PK×D)}:G a=some (.qh kvs)->R a=true->Ab G R (kvs.map fun p=>p.2) (S7.map fun p=>p.2)->kvs.map (fun p=>p.1)=S7.map (fun p=>p.1)->Fz G R (.ref a) (.oF S7)
inductive Ab (G:Gp) (R:Nat->Bool):List D->List D->Prop
 | nil:Ab G R [] []
 | cons {d s:D} {ds ss:List D}:Fz G R d s->Ab G R ds ss->Ab G R (d :: ds) (s :: ss)
inductive Jq (G:Gp) (R:Nat->Bool):List (D×D)->List (D×D)->Prop
 | nil:Jq G R [] []
 | cons {k d s:D} {ds ss:List (D×D)}:Fz G R d s->Jq G R ds ss->Jq G R ((k,d) :: ds) ((k,s) :: ss)
end
theorem Jq.same{G:Gp}{R:Nat->Bool}:∀ (kvs:List (D×D)),Jq G R kvs kvs
 | []=>.nil
 | (k,v) :: r=>.cons (.same v) (Jq.same r)
noncomputable def Jr(G:Gp)(x:D)(Q:DK):Prop:=∃ (R:Nat->Bool) (t:D),Fz G R x t/\Q t (AU R G)
noncomputable def cm(e:gJ):gJ:=fun E τ G Q=>e E τ G fun x G1=>Jr G1 x Q
noncomputable def Gh(i:Nat)(t:hV):hV:=fun E K τ G=>t E { K with nx:=fun oX G1=>match oX[i]? with
 | some (some d)=>Jr G1 d fun t G2=>K.nx (oX.set i (some t)) G2
 | _=>False } τ G
theorem Ab.same{G:Gp}{R:Nat->Bool}:∀ (ds:List D),Ab G R ds ds
 | []=>.nil
 | d :: ds=>.cons (.same d) (Ab.same ds)
theorem uZ{G G1:Gp}(l:ff G G1):AU (fun a=>(G a).isNone) G1=G:=by
 funext a;unfold AU;cases h:G a with
 | none=>simp [h]
 | some o=>simp [l a o h,h]
theorem Mp{G G1:Gp}{p:Nat}{o:GO}(l:ff G G1)(hp:G p=none)(h1:G1 p=some o):AU (fun a=>(G a).isNone&&decide (a≠p)) G1=eA G p o:=by
 funext a;unfold AU eA;by_cases ha:a=p
 ·subst ha; simp [h1]
 ·cases h:G a with
  | none=>simp [ha,h]
  | some o=>simp [l a o h,ha,h]
theorem cS{G:Gp}{d:D}{Q:DK}(q:Q d G):Jr G d Q:=⟨fun _=>false,d,.same d,by
 have e:AU (fun _=>false) G=G:=by funext a; simp [AU]
 rw [e]; exact q⟩
theorem xN{G G1:Gp}{d:D}{Q:DK}(l:ff G G1)(q:Q d G):Jr G1 d Q:=⟨_,d,.same d,by rw [uZ l]; exact q⟩
theorem C4{G G1:Gp}{p:Nat}{o:GO}{Q:DK}(l:ff G G1)(hp:G p=none)(h1:G1 p=some o)(q:Q (.ref p) (eA G p o)):Jr G1 (.ref p) Q :=
 ⟨_,.ref p,.same _,by rw [Mp l hp h1]; exact q⟩
theorem C3{G G1:Gp}{p:Nat}{ds ss:List D}{Q:DK}(l:ff G G1)(hp:G p=none)(h1:G1 p=some (.lst ds))(hs:Ab G1 (fun a=>(G a).isNone) ds ss)(q:Q (.cY ss) G):Jr G1 (.ref p) Q :=
 ⟨_,.cY ss,.ref h1 (by simp [hp]) hs,by rw [uZ l]; exact q⟩
theorem ju{G G1:Gp}{p:Nat}{kvs:List (D×D)}{Q:DK}(l:ff G G1)(hp:G p=none)(h1:G1 p=some (.gK kvs))(q:Q (.j8 kvs) G):Jr G1 (.ref p) Q :=
 ⟨fun a=>(G a).isNone,.j8 kvs,.gK h1 (by simp [hp]) (.same _),by rw [uZ l]; exact q⟩
noncomputable def Be:jU:=fun ds G Q _=>∃ ns:List Int,ds=[.cY (ns.map D.int)]/\ns.length<=63/\(∀ a,G a=none)/\∀ G',Q (.bl true) G'
theorem cM{a b:hV}{E:mG}{K:nU}{τ:iN}{G:Gp}(P:iN->Gp->Prop)(h1:∀ N,(∀ τ G,P τ G->N τ G)->a E { K with nx:=N } τ G)(h2:∀ τ G,P τ G->b E K τ G):b8 a b E K τ G:=h1 (b E K) h2
theorem yq{a b:hV}{E:mG}{K:nU}{τ:iN}{G:Gp}:b8 a b E K τ G=a E { K with nx:=b E K } τ G:=rfl
theorem cJ{a:gJ}{g:Aw}{b:hV}{E:mG}{K:nU}{τ:iN}{G:Gp}:b8 (bE a g) b E K τ G=bE a g E { K with nx:=b E K } τ G:=rfl
theorem Et{a:gJ}{b:hV}{E:mG}{K:nU}{τ:iN}{G:Gp}:b8 (kA a) b E K τ G=kA a E { K with nx:=b E K } τ G:=rfl
theorem Py{g:Aw}{body:hV}{ok:Gp->Prop}{ds:List D}{E:mG}{K:nU}{τ:iN}{G:Gp}(I:List D->iN->Gp->Prop)
  (h0:I [] τ G) (cn:∀ pre τ G,I pre τ G->ok G)
  (step:∀ (pre:List D) (d:D) (post:List D) τ G (N:iN->Gp->Prop),ds=pre++d :: post->I pre τ G->(∀ vB G2,I (pre++[d]) vB G2->N vB G2) ->
   g E d τ G fun oX G1=>body E { K with nx:=N,ct:=N,bk:=K.nx } oX G1)
  (fin:∀ τ G,I ds τ G->K.nx τ G):pR g body ok ds E K τ G:=by
 have main:∀ (post pre:List D) τ G,ds=pre++post->I pre τ G->pR g body ok post E K τ G:=by
  intro post;induction post with
  | nil =>
   intro pre τ G e h;rw [dq] at e;subst e;exact⟨cn _ _ _ h,fin _ _ h⟩
  | cons d post ih =>
   intro pre τ G e h;refine⟨cn _ _ _ h,?_⟩;exact step pre d post τ G _ e h fun vB G2 h2=>ih (pre++[d]) vB G2 (by rw [e,cU]; rfl) h2
 exact main ds [] τ G rfl h0
theorem Se{g:Aw}{c:Option xT}{e:gJ}{ok:Gp->Prop}{ds:List D}{E:mG}{τ:iN}{G:Gp}{Q:List D->Gp->Prop}(I:List D->List D->iN->Gp->Prop)
  (h0:I [] [] τ G) (cn:∀ pre acc τ G,I pre acc τ G->ok G)
  (step:∀ (pre:List D) (d:D) (post acc:List D) τ G (N:iN->List D->Gp->Prop),ds=pre++d :: post->I pre acc τ G->(∀ vB wg G2,I (pre++[d]) wg vB G2->N vB wg G2) ->
   g E d τ G fun oX G1=>match c with
    | none=>e E oX G1 fun x G2=>N oX (acc++[x]) G2
    | some c=>c E oX G1 fun k G2=>if k=true then e E oX G2 fun x G3=>N oX (acc++[x]) G3 else N oX acc G2)
  (fin:∀ acc τ G,I ds acc τ G->Q acc G):jv g c e ok ds E τ G [] Q:=by
 have main:∀ (post pre acc:List D) τ G,ds=pre++post->I pre acc τ G->jv g c e ok post E τ G acc Q:=by
  intro post;induction post with
  | nil =>
   intro pre acc τ G e h;rw [dq] at e;subst e;exact⟨cn _ _ _ _ h,fin _ _ _ h⟩
  | cons d post ih =>
   intro pre acc τ G e' h;refine⟨cn _ _ _ _ h,?_⟩;have:=step pre d post acc τ G (fun vB wg G2=>jv g c e ok post E vB G2 wg Q) e' h fun vB wg G2 h2=>ih (pre++[d]) wg vB G2 (by rw [e',cU]; rfl) h2;cases c with
   | none=>exact this
   | some c=>exact this
 exact main ds [] [] τ G rfl h0
theorem Sn.rI{G:Gp}{n:Nat}:∀ (ns:List Int),Sn G (n+1) (.cY (ns.map D.int)) (.cY (ns.map D.int))
 | []=>.EA
 | i :: ns=>.yE (.int i) (Sn.rI ns)
theorem pz(a b:D)(r t:List D):lA (a :: r) (b :: t)=(ij a b&&lA r t):=rfl
theorem kT(a b:Int):ij (.int a) (.int b)=(a == b):=rfl
theorem IU(a b:List D):ij (.tup a) (.tup b)=lA a b:=rfl
theorem Gf{α:Type} [DecidableEq α](a b:α)(as bs:List α):(decide (a=b)&&decide (as=bs))=decide (a :: as=b :: bs):=by
 by_cases h:a=b <;> by_cases h2:as=bs <;> simp [h,h2]
set_option genInjectivity true in structure T2 where
 a:Int
 b:Int
 deriving DecidableEq
set_option genInjectivity true in structure T3 where
 a:Int
 b:Int
 c:Int
 deriving DecidableEq
class Enc (α:Type) [DecidableEq α] where
 enc:α->D
 dep:Nat
 eqv:∀ a b,ij (enc a) (enc b)=decide (a=b)
 sn:∀ (G:Gp) (n:Nat) (a:α),dep<=n->Sn G n (enc a) (enc a)
open Enc (enc)
noncomputable instance:Enc Int where
 enc:=D.int
 dep:=0
 eqv:=fun a b=>rfl
 sn:=fun G n a _=>.int a
noncomputable instance:Enc Bool where
 enc:=D.bl
 dep:=0
 eqv:=fun a b=>QB a b
 sn:=fun G n a _=>.bl a
noncomputable instance:Enc T2 where
 enc:=fun t=>.tup [.int t.a,.int t.b]
 dep:=1
 eqv:=fun x y=>by
  cases x; cases y;rw [IU,pz,pz,kT,kT]; simp only [T2.mk.injEq]; rename_i a b c d; by_cases h:a=c <;> by_cases h2:b=d <;> simp [h,h2,show lA [] []=true from rfl]
 sn:=fun G n t h=>by
  obtain⟨m,rfl⟩:∃ m,n=m+1:=⟨n - 1,by lia⟩;exact .qy (.int _) (.qy (.int _) .HC)
noncomputable instance:Enc T3 where
 enc:=fun t=>.tup [.int t.a,.int t.b,.int t.c]
 dep:=1
 eqv:=fun x y=>by
  cases x; cases y;rw [IU,pz,pz,pz,kT,kT,kT]; simp only [T3.mk.injEq]; rename_i a b e c d f; by_cases h:a=c <;> by_cases h2:b=d <;> by_cases h3:e=f <;> simp [h,h2,h3,show lA [] []=true from rfl]
 sn:=fun G n t h=>by
  obtain⟨m,rfl⟩:∃ m,n=m+1:=⟨n - 1,by lia⟩;exact .qy (.int _) (.qy (.int _) (.qy (.int _) .HC))
noncomputable instance {α β:Type} [DecidableEq α] [DecidableEq β] [Enc α] [Enc β]:Enc (α×β) where
 enc:=fun t=>.tup [enc t.1,enc t.2]
 dep:=max (Enc.dep α) (Enc.dep β)+1
 eqv:=fun x y=>by
  cases x; cases y;rw [IU,pz,pz,Enc.eqv,Enc.eqv]; simp only [Prod.mk.injEq]; rename_i a b c d; by_cases h:a=c <;> by_cases h2:b=d <;> simp [h,h2,show lA [] []=true from rfl]
 sn:=fun G n t h=>by
  obtain⟨m,rfl⟩:∃ m,n=m+1:=⟨n - 1,by lia⟩;exact .qy (Enc.sn _ _ _ (by lia)) (.qy (Enc.sn _ _ _ (by lia)) .HC)
theorem Gb{α:Type} [DecidableEq α] [Enc α]:∀ (a b:List α),lA (a.map enc) (b.map enc)=decide (a=b)
 | [],[]=>(decide_eq_true rfl).symm
 | [],b :: bs=>(decide_eq_false (fun z=>nomatch z)).symm
 | a :: as,[]=>(decide_eq_false (fun z=>nomatch z)).symm
 | a :: as,b :: bs=>by
  show (ij (enc a) (enc b)&&lA (as.map enc) (bs.map enc))=_;rw [Enc.eqv,Gb as bs,Gf]
theorem sQ{α:Type} [DecidableEq α] [Enc α](G:Gp)(n:Nat)(h:Enc.dep α<=n):∀ (xs:List α),Sn G (n+1) (.cY (xs.map enc)) (.cY (xs.map enc))
 | []=>.EA
 | a :: as=>.yE (Enc.sn _ _ _ h) (sQ G n h as)
noncomputable instance {α:Type} [DecidableEq α] [Enc α]:Enc (List α) where
 enc:=fun xs=>.cY (xs.map enc)
 dep:=Enc.dep α+1
 eqv:=fun a b=>by
  show lA _ _=_;exact Gb a b
 sn:=fun G n t h=>by
  obtain⟨m,rfl⟩:∃ m,n=m+1:=⟨n - 1,by lia⟩;exact sQ G m (by lia) t
section
variable {α:Type} [DecidableEq α] [Enc α]
theorem K1(L:List α)(t:α):(L.map enc).any (ij · (enc t))=decide (t∈L):=by
 induction L with
 | nil=>simp
 | cons a r ih =>
  simp only [ao,lJ,Enc.eqv,ih,bD];by_cases h:a=t
  ·simp [h]
  ·have h':¬ t=a:=fun z=>h z.symm;by_cases h2:t∈r <;> simp [h,h',h2]
end
section
variable {κ α:Type} [DecidableEq κ] [Enc κ] [DecidableEq α] [Enc α]
noncomputable def bz(l:List (κ×α)):List (D×D):=l.map fun p=>(enc p.1,enc p.2)
noncomputable def cz(l:List (κ×α))(k:κ):Option α:=(l.find? fun p=>p.1=k).map (·.2)
noncomputable def eU(l:List (κ×α))(k:κ)(v:α):List (κ×α):=if (l.any fun p=>p.1=k)=true then l.map (fun p=>if p.1=k then (p.1,v) else p) else l++[(k,v)]
theorem uC(l:List (κ×α))(k:κ):look (bz l) (enc k)=(cz l k).map enc:=by
 unfold look cz bz;induction l with
 | nil=>rfl
 | cons p r ih =>
  rw [ao,dn,dn];simp only [Enc.eqv];by_cases h:p.1=k
  ·simp [h]
  ·simp only [h,decide_false]; exact ih
theorem J1(l:List (κ×α))(k:κ)(v:α):put (bz l) (enc k) (enc v)=bz (eU l k v):=by
 unfold put eU;have e:((bz l).any fun p=>ij p.1 (enc k))=l.any fun p=>decide (p.1=k):=by
  unfold bz; rw [List.any_map]; congr 1; funext p; exact Enc.eqv _ _
 rw [e];split
 ·unfold bz; rw [aM,aM];refine cL fun p _=>?_;simp only [Function.comp,Enc.eqv,decide_eq_true_eq];split <;> rfl
 ·unfold bz; rw [aK]; rfl
theorem rZ(l:List (κ×α))(k j:κ)(v:α):cz (eU l k v) j=if k=j then some v else cz l j:=by
 unfold eU;split
 ·rename_i h;unfold cz;induction l with
  | nil=>simp at h
  | cons p r ih =>
   rw [ao,dn,dn];by_cases h1:p.1=k
   ·rw [if_pos h1];by_cases h2:k=j
    ·simp [h1,h2]
    ·have:¬ p.1=j:=fun z=>h2 (h1.symm.trans z);simp only [this,decide_false,h2,if_false];by_cases h3:(r.any fun p=>decide (p.1=k))=true
     ·have:=ih h3;rw [if_neg h2] at this;exact this
     ·congr 1;have:r.map (fun p=>if p.1=k then (p.1,v) else p)=r:=by
       conv=>rhs; rw [<-kJ r]
       refine cL fun q hq=>?_;rw [if_neg]; rfl;intro z; exact h3 (List.any_eq_true.mpr ⟨q,hq,by simpa using z⟩)
      rw [this]
   ·rw [if_neg h1];have h3:(r.any fun p=>decide (p.1=k))=true:=by simpa [h1] using h
    by_cases h2:p.1=j
    ·have:¬ k=j:=fun z=>h1 (h2.trans z.symm);simp [h2,this]
    ·simp only [h2,decide_false]; exact ih h3
 ·rename_i h;unfold cz;rw [Ba];by_cases h2:k=j
  ·subst h2;have:l.find? (fun p=>decide (p.1=k))=none:=by
    rw [fP];intro p hp z;exact h (List.any_eq_true.mpr ⟨p,hp,z⟩)
   rw [this]; simp
  ·simp [h2]
theorem qU(l:List (κ×α))(k:κ)(v:α):(eU l k v).length<=l.length+1:=by
 unfold eU; split <;> simp
end
class wx (κ:Type) [DecidableEq κ] [Enc κ] where
 ok:(∀ k:κ,dE (enc k)=true)\/∀ k:κ,kR (enc k)=true
noncomputable instance:wx Int:=⟨.inl fun _=>rfl⟩
noncomputable instance:wx T2:=⟨.inr fun _=>rfl⟩
noncomputable instance:wx T3:=⟨.inr fun _=>rfl⟩
theorem mW{κ α:Type} [DecidableEq κ] [Enc κ] [wx κ] [DecidableEq α] [Enc α](l:List (κ×α))(k:κ):ie (bz l) (enc k)=true:=by
 unfold ie bz;rcases wx.ok (κ:=κ) with h | h
 ·rw [iu]; left;rw [h k,Bool.true_and,fK,du];intro p _; exact h p.1
 ·rw [iu]; right;rw [h k,Bool.true_and,fK,du];intro p _; exact h p.1
end K2
end
section
namespace K2
open PySem (Str)
open Enc (enc)
mutual
noncomputable def oK:D->D->Bool
 | .int a,.int b=>decide (a < b)
 | .tup a,.tup b=>ml a b
 | .cY a,.cY b=>ml a b
 | _,_=>false
noncomputable def ml:List D->List D->Bool
 | [],[]=>false
 | [],_ :: _=>true
 | _ :: _,[]=>false
 | x :: xs,y :: ys=>if ij x y=true then ml xs ys else oK x y
end
theorem mV(x y:D)(xs ys:List D):ml (x :: xs) (y :: ys)=if ij x y=true then ml xs ys else oK x y:=rfl
theorem OJ(a b:Int):oK (.int a) (.int b)=decide (a < b):=rfl
inductive nA where
 | int | tup (l:List nA) | lst (s:nA)
mutual
noncomputable def cH:nA->D->Bool
 | .int,.int _=>true
 | .tup l,.tup ds=>fC l ds
 | .lst s,.cY ds=>gW s ds
 | _,_=>false
noncomputable def fC:List nA->List D->Bool
 | [],[]=>true
 | s :: l,d :: ds=>cH s d&&fC l ds
 | _,_=>false
noncomputable def gW:nA->List D->Bool
 | _,[]=>true
 | s,d :: ds=>cH s d&&gW s ds
end
theorem dH{a:D}(h:cH .int a=true):∃ i,a=.int i:=by cases a <;> first | exact⟨_,rfl⟩ | exact bA (show false=true from h)
theorem dF{l:List nA}{a:D}(h:cH (.tup l) a=true):∃ x,a=.tup x:=by cases a <;> first | exact⟨_,rfl⟩ | exact bA (show false=true from h)
theorem dG{l:nA}{a:D}(h:cH (.lst l) a=true):∃ x,a=.cY x:=by cases a <;> first | exact⟨_,rfl⟩ | exact bA (show false=true from h)
mutual
noncomputable def Tw:nA->Nat
 | .int=>0
 | .tup l=>PQ l+1
 | .lst s=>Tw s+1
noncomputable def PQ:List nA->Nat
 | []=>0
 | s :: l=>max (Tw s) (PQ l)
end
noncomputable def UJ(sh:nA):Bool:=decide (Tw sh<=7)&&(match sh with
 | .tup []=>false
 | _=>true)
noncomputable def QH(a b:D):Bool:=!oK b a
noncomputable def qz(ds:List D):List D:=ds.mergeSort QH
noncomputable def u5(ds:List D)(G:Gp)(Q:DK):Prop:=match ds with
 | [x]=>∃ (sh:nA) (xs:List D),Cq x G/\itemsOf x G=some xs/\xs.all (cH sh)=true/\UJ sh=true/\xs.length < 64/\gX G (.lst (qz xs)) Q
 | _=>False
class aU (α:Type) [DecidableEq α] [Enc α] where
 lt:α->α->Bool
 AI:nA
 zr:∀ a:α,cH AI (enc a)=true
 QG:∀ a b:α,oK (enc a) (enc b)=lt a b
 FA:∀ a,lt a a=false
 trans:∀ a b c,lt a b=true->lt b c=true->lt a c=true
 nv:∀ a b,lt a b=false->lt b a=false->a=b
noncomputable instance:aU Int where
 lt:=fun a b=>decide (a < b)
 AI:=.int
 zr:=fun _=>rfl
 QG:=fun a b=>rfl
 FA:=fun a=>by simp
 trans:=fun a b c h1 h2=>by simp at *; lia
 nv:=fun a b h1 h2=>by simp at *; lia
noncomputable def qc{α:Type} [DecidableEq α](lt:α->α->Bool):List α->List α->Bool
 | [],[]=>false
 | [],_ :: _=>true
 | _ :: _,[]=>false
 | x :: xs,y :: ys=>if x=y then qc lt xs ys else lt x y
theorem vW{α:Type} [DecidableEq α](lt:α->α->Bool)(x y:α)(xs ys:List α):qc lt (x :: xs) (y :: ys)=if x=y then qc lt xs ys else lt x y:=rfl
section
variable {α:Type} [DecidableEq α] {lt:α->α->Bool}
theorem uG:∀ x:List α,qc lt x x=false
 | []=>rfl
 | a :: x=>by simp only [vW,if_true]; exact uG x
theorem uF(t:∀ a b,lt a b=false->lt b a=false->a=b):∀ (x y:List α),qc lt x y=false->qc lt y x=false->x=y
 | [],[],_,_=>rfl
 | [],_ :: _,h,_=>by cases h
 | _ :: _,[],_,h=>by cases h
 | a :: x,b :: y,h1,h2=>by
  simp only [vW] at h1 h2;by_cases e:a=b
  ·subst e;simp only [if_true] at h1 h2;rw [uF t x y h1 h2]
  ·rw [if_neg e] at h1;rw [if_neg (e7 e)] at h2;exact absurd (t a b h1 h2) e
theorem pg(ir:∀ a,lt a a=false)(tr:∀ a b c,lt a b=true->lt b c=true->lt a c=true):∀ (x y z:List α),qc lt x y=true->qc lt y z=true->qc lt x z=true
 | [],[],_,h,_=>by cases h
 | [],_ :: _,[],_,h=>by cases h
 | [],_ :: _,_ :: _,_,_=>rfl
 | _ :: _,[],_,h,_=>by cases h
 | _ :: _,_ :: _,[],_,h=>by cases h
 | a :: x,b :: y,c :: z,h1,h2=>by
  simp only [vW] at h1 h2 ⊢;by_cases e1:a=b
  ·subst e1;simp only [if_true] at h1;by_cases e2:a=c
   ·subst e2;simp only [if_true] at h2 ⊢;exact pg ir tr x y z h1 h2
   ·rw [if_neg e2] at h2 ⊢; exact h2
  ·rw [if_neg e1] at h1;by_cases e2:b=c
   ·subst e2;rw [if_neg e1]; exact h1
   ·rw [if_neg e2] at h2;have h3:=tr _ _ _ h1 h2;rw [if_neg (by rintro rfl; rw [ir] at h3; cases h3)]; exact h3
end
theorem ux{α:Type} [DecidableEq α] [Enc α] [aU α]:∀ (x y:List α),ml (x.map enc) (y.map enc)=qc (aU.lt (α:=α)) x y
 | [],[]=>rfl
 | [],_ :: _=>rfl
 | _ :: _,[]=>rfl
 | a :: x,b :: y=>by simp only [ao,mV,vW,Enc.eqv,ux x y,aU.QG,decide_eq_true_eq]
theorem BI{α:Type} [DecidableEq α] [Enc α] [aU α]:∀ (x:List α),gW (aU.AI α) (x.map enc)=true
 | []=>rfl
 | a :: x=>by simp only [ao,gW,aU.zr,BI x,Bool.and_self]
noncomputable instance {α:Type} [DecidableEq α] [Enc α] [aU α]:aU (List α) where
 lt:=qc aU.lt
 AI:=.lst (aU.AI α)
 zr:=fun a=>BI a
 QG:=fun a b=>ux a b
 FA:=uG
 trans:=pg aU.FA aU.trans
 nv:=uF aU.nv
noncomputable def T2.l(t:T2):List Int:=[t.a,t.b]
noncomputable def T3.l(t:T3):List Int:=[t.a,t.b,t.c]
noncomputable instance:aU T2 where
 lt:=fun x y=>qc (fun a b=>decide (a < b)) x.l y.l
 AI:=.tup [.int,.int]
 zr:=fun _=>rfl
 QG:=fun a b=>ux a.l b.l
 FA:=fun a=>uG _
 trans:=fun a b c=>pg (α:=Int) aU.FA aU.trans _ _ _
 nv:=fun ⟨a,b⟩ ⟨c,d⟩ h1 h2=>by
  have:=uF (α:=Int) aU.nv _ _ h1 h2;simpa [T2.l] using this
noncomputable instance:aU T3 where
 lt:=fun x y=>qc (fun a b=>decide (a < b)) x.l y.l
 AI:=.tup [.int,.int,.int]
 zr:=fun _=>rfl
 QG:=fun a b=>ux a.l b.l
 FA:=fun a=>uG _
 trans:=fun a b c=>pg (α:=Int) aU.FA aU.trans _ _ _
 nv:=fun ⟨a,b,e⟩ ⟨c,d,f⟩ h1 h2=>by
  have:=uF (α:=Int) aU.nv _ _ h1 h2;simpa [T3.l] using this
section
variable {α:Type} [DecidableEq α] [Enc α] [aU α]
noncomputable def zg(a b:α):Bool:=!aU.lt b a
noncomputable def MX(xs:List α):List α:=xs.mergeSort zg
theorem Lr(xs:List α):qz (xs.map enc)=(MX xs).map enc:=by
 unfold qz MX;symm;exact List.map_mergeSort fun a _ b _=>by unfold zg QH; rw [aU.QG]
theorem vX(a b c:α)(h1:zg a b=true)(h2:zg b c=true):zg a c=true:=by
 unfold zg at *;simp only [Bool.not_eq_true'] at *;cases h:aU.lt c a with
 | false=>rfl
 | true =>
  by_cases e:a=b
  ·subst e; rw [h] at h2; cases h2
  ·have Xg:aU.lt a b=true:=by
    cases q:aU.lt a b with
    | true=>rfl
    | false=>exact absurd (aU.nv _ _ q h1) e
   rw [aU.trans _ _ _ h Xg] at h2; cases h2
theorem LX(a b:α):(zg a b||zg b a)=true:=by
 unfold zg;cases h:aU.lt b a with
 | false=>rfl
 | true =>
  cases h2:aU.lt a b with
  | false=>rfl
  | true=>have:=aU.trans _ _ _ h h2; rw [aU.FA] at this; cases this
theorem zf(a b:α)(h1:zg a b=true)(h2:zg b a=true):a=b:=by
 unfold zg at *;exact aU.nv a b (by simpa using h2) (by simpa using h1)
theorem oD(xs:List α):(MX xs).Perm xs:=List.mergeSort_perm xs zg
theorem yn(xs:List α):(MX xs).Pairwise fun a b=>zg a b=true:=MO vX LX xs
theorem AG:∀ {xs ys:List α},xs.Perm ys->xs.Pairwise (fun a b=>zg a b=true)->ys.Pairwise (fun a b=>zg a b=true)->xs=ys:=by
 intro xs ys hp h1 h2;exact DV (fun a b _ _ h h'=>zf a b h h') h1 h2 hp
theorem Ub{xs ys:List α}(h:xs.Perm ys):MX xs=MX ys:=AG (((oD xs).trans h).trans (oD ys).symm) (yn xs) (yn ys)
theorem Q7{xs:List α}{x:α}:x∈MX xs↔x∈xs:=(oD xs).mem_iff
theorem Lq{xs:List α}(h:xs.Nodup):(MX xs).Nodup:=(oD xs).nodup_iff.mpr h
end
end K2
end
section
namespace K2
open PySem (Str)
mutual
theorem kS:∀ (sh:nA) (a:D),cH sh a=true->ij a a=true
 | .int,.int i,_=>by show (i == i)=true; exact beq_self_eq_true i
 | .tup l,.tup xs,h=>by show lA xs xs=true; exact w5 l xs h
 | .lst l,.cY xs,h=>by show lA xs xs=true; exact w6 l xs h
theorem w5:∀ (l:List nA) (xs:List D),fC l xs=true->lA xs xs=true
 | [],[],_=>rfl
 | s :: l,x :: xs,h=>by
  have h:(cH s x&&fC l xs)=true:=h;rw [aJ] at h;show (ij x x&&lA xs xs)=true;rw [kS s x h.1,w5 l xs h.2]; rfl
theorem w6:∀ (s:nA) (xs:List D),gW s xs=true->lA xs xs=true
 | _,[],_=>rfl
 | s,x :: xs,h=>by
  have h:(cH s x&&gW s xs)=true:=h;rw [aJ] at h;show (ij x x&&lA xs xs)=true;rw [kS s x h.1,w6 s xs h.2]; rfl
end
theorem Vg(s:nA)(ih:∀ (a b:D),cH s a=true->cH s b=true->ij a b=true->a=b):∀ (xs ys:List D),gW s xs=true->gW s ys=true->lA xs ys=true->xs=ys:=by
 intro xs;induction xs with
 | nil=>intro ys _ _ h; cases ys with
  | nil=>rfl
  | cons _ _=>cases h
 | cons x xs WN =>
  intro ys h1 h2 h;cases ys with
  | nil=>cases h
  | cons y ys =>
   have h1:(cH s x&&gW s xs)=true:=h1;have h2:(cH s y&&gW s ys)=true:=h2;have h:(ij x y&&lA xs ys)=true:=h;rw [aJ] at h1 h2 h;rw [ih x y h1.1 h2.1 h.1,WN ys h1.2 h2.2 h.2]
mutual
theorem pT:∀ (sh:nA) (a b:D),cH sh a=true->cH sh b=true->ij a b=true->a=b
 | .int,a,b,h1,h2,h=>by
  first | obtain⟨_,rfl⟩:=dH h1 | obtain⟨_,rfl⟩:=dF h1 | obtain⟨_,rfl⟩:=dG h1
  first | obtain⟨_,rfl⟩:=dH h2 | obtain⟨_,rfl⟩:=dF h2 | obtain⟨_,rfl⟩:=dG h2
  rw [kT] at h; rw [beq_iff_eq.mp h]
 | .tup l,a,b,h1,h2,h=>by
  first | obtain⟨_,rfl⟩:=dH h1 | obtain⟨_,rfl⟩:=dF h1 | obtain⟨_,rfl⟩:=dG h1
  first | obtain⟨_,rfl⟩:=dH h2 | obtain⟨_,rfl⟩:=dF h2 | obtain⟨_,rfl⟩:=dG h2
  rw [PH l _ _ h1 h2 h]
 | .lst l,a,b,h1,h2,h=>by
  first | obtain⟨_,rfl⟩:=dH h1 | obtain⟨_,rfl⟩:=dF h1 | obtain⟨_,rfl⟩:=dG h1
  first | obtain⟨_,rfl⟩:=dH h2 | obtain⟨_,rfl⟩:=dF h2 | obtain⟨_,rfl⟩:=dG h2
  rw [Vg l (pT l) _ _ h1 h2 h]
theorem PH:∀ (l:List nA) (xs ys:List D),fC l xs=true->fC l ys=true->lA xs ys=true->xs=ys
 | [],xs,ys,h1,h2,_=>by
  cases xs with
  | nil=>cases ys with
   | nil=>rfl
   | cons _ _=>cases h2
  | cons _ _=>cases h1
 | s :: l,xs,ys,h1,h2,h=>by
  cases xs with
  | nil=>cases h1
  | cons x xs =>
   cases ys with
   | nil=>cases h2
   | cons y ys =>
    have h1:(cH s x&&fC l xs)=true:=h1;have h2:(cH s y&&fC l ys)=true:=h2;have h:(ij x y&&lA xs ys)=true:=h;rw [aJ] at h1 h2 h;rw [pT s x y h1.1 h2.1 h.1,PH l xs ys h1.2 h2.2 h.2]
end
theorem OI(s:nA)(ih:∀ (a b:D),cH s a=true->cH s b=true->oK a b=false->oK b a=false->a=b):∀ (xs ys:List D),gW s xs=true->gW s ys=true->ml xs ys=false->ml ys xs=false->xs=ys:=by
 intro xs;induction xs with
 | nil=>intro ys _ _ h _; cases ys with
  | nil=>rfl
  | cons _ _=>cases h
 | cons x xs WN =>
  intro ys h1 h2 h3 h4;cases ys with
  | nil=>cases h4
  | cons y ys =>
   have h1:(cH s x&&gW s xs)=true:=h1;have h2:(cH s y&&gW s ys)=true:=h2;rw [aJ] at h1 h2;simp only [mV] at h3 h4;by_cases e:ij x y=true
   ·have exy:=pT s x y h1.1 h2.1 e;subst exy;rw [if_pos e] at h3 h4;rw [WN ys h1.2 h2.2 h3 h4]
   ·rw [if_neg e] at h3;by_cases e2:ij y x=true
    ·have:=pT s y x h2.1 h1.1 e2;subst this; exact absurd e2 e
    ·rw [if_neg e2] at h4;have:=ih x y h1.1 h2.1 h3 h4;subst this;exact absurd (kS s x h1.1) e
mutual
theorem xJ:∀ (sh:nA) (a b:D),cH sh a=true->cH sh b=true->oK a b=false->oK b a=false->a=b
 | .int,a,b,h1,h2,h3,h4=>by
  first | obtain⟨_,rfl⟩:=dH h1 | obtain⟨_,rfl⟩:=dF h1 | obtain⟨_,rfl⟩:=dG h1
  first | obtain⟨_,rfl⟩:=dH h2 | obtain⟨_,rfl⟩:=dF h2 | obtain⟨_,rfl⟩:=dG h2
  simp [OJ] at h3 h4; congr 1; lia
 | .tup l,a,b,h1,h2,h3,h4=>by
  first | obtain⟨_,rfl⟩:=dH h1 | obtain⟨_,rfl⟩:=dF h1 | obtain⟨_,rfl⟩:=dG h1
  first | obtain⟨_,rfl⟩:=dH h2 | obtain⟨_,rfl⟩:=dF h2 | obtain⟨_,rfl⟩:=dG h2
  rw [Fm l _ _ h1 h2 h3 h4]
 | .lst l,a,b,h1,h2,h3,h4=>by
  first | obtain⟨_,rfl⟩:=dH h1 | obtain⟨_,rfl⟩:=dF h1 | obtain⟨_,rfl⟩:=dG h1
  first | obtain⟨_,rfl⟩:=dH h2 | obtain⟨_,rfl⟩:=dF h2 | obtain⟨_,rfl⟩:=dG h2
  rw [OI l (xJ l) _ _ h1 h2 h3 h4]
theorem Fm:∀ (l:List nA) (xs ys:List D),fC l xs=true->fC l ys=true->ml xs ys=false->ml ys xs=false->xs=ys
 | [],xs,ys,h1,h2,_,_=>by
  cases xs with
  | nil=>cases ys with
   | nil=>rfl
   | cons _ _=>cases h2
  | cons _ _=>cases h1
 | s :: l,xs,ys,h1,h2,h3,h4=>by
  cases xs with
  | nil=>cases h1
  | cons x xs =>
   cases ys with
   | nil=>cases h2
   | cons y ys =>
    have h1:(cH s x&&fC l xs)=true:=h1;have h2:(cH s y&&fC l ys)=true:=h2;rw [aJ] at h1 h2;simp only [mV] at h3 h4;by_cases e:ij x y=true
    ·have exy:=pT s x y h1.1 h2.1 e;subst exy;rw [if_pos e] at h3 h4;rw [Fm l xs ys h1.2 h2.2 h3 h4]
    ·rw [if_neg e] at h3;by_cases e2:ij y x=true
     ·have:=pT s y x h2.1 h1.1 e2;subst this; exact absurd e2 e
     ·rw [if_neg e2] at h4;have:=xJ s x y h1.1 h2.1 h3 h4;subst this;exact absurd (kS s x h1.1) e
end
mutual
theorem CT:∀ (sh:nA) (a:D),cH sh a=true->oK a a=false
 | .int,.int i,_=>by rw [OJ]; exact decide_eq_false (Int.lt_irrefl _)
 | .tup l,.tup xs,h=>by show ml xs xs=false; exact Fo l xs h
 | .lst l,.cY xs,h=>by show ml xs xs=false; exact Fp l xs h
theorem Fo:∀ (l:List nA) (xs:List D),fC l xs=true->ml xs xs=false
 | [],[],_=>rfl
 | s :: l,x :: xs,h=>by
  have h:(cH s x&&fC l xs)=true:=h;rw [aJ] at h;simp only [mV,kS s x h.1,if_true]; exact Fo l xs h.2
theorem Fp:∀ (s:nA) (xs:List D),gW s xs=true->ml xs xs=false
 | _,[],_=>rfl
 | s,x :: xs,h=>by
  have h:(cH s x&&gW s xs)=true:=h;rw [aJ] at h;simp only [mV,kS s x h.1,if_true]; exact Fp s xs h.2
end
theorem Ii(s:nA)(ih:∀ (a b c:D),cH s a=true->cH s b=true->cH s c=true->oK a b=true->oK b c=true->oK a c=true):∀ (xs ys zs:List D),gW s xs=true->gW s ys=true->gW s zs=true->ml xs ys=true->ml ys zs=true->ml xs zs=true:=by
 intro xs;induction xs with
 | nil =>
  intro ys zs _ _ _ h4 h5;cases ys with
  | nil=>cases h4
  | cons _ _=>cases zs with
   | nil=>cases h5
   | cons _ _=>rfl
 | cons x xs WN =>
  intro ys zs h1 h2 h3 h4 h5;cases ys with
  | nil=>cases h4
  | cons y ys =>
   cases zs with
   | nil=>cases h5
   | cons z zs =>
    have h1:(cH s x&&gW s xs)=true:=h1;have h2:(cH s y&&gW s ys)=true:=h2;have h3:(cH s z&&gW s zs)=true:=h3;rw [aJ] at h1 h2 h3;simp only [mV] at h4 h5 ⊢;by_cases e1:ij x y=true
    ·have:=pT s x y h1.1 h2.1 e1;subst this;rw [if_pos e1] at h4;by_cases e2:ij x z=true
     ·rw [if_pos e2] at h5 ⊢;exact WN ys zs h1.2 h2.2 h3.2 h4 h5
     ·rw [if_neg e2] at h5 ⊢; exact h5
    ·rw [if_neg e1] at h4;by_cases e2:ij y z=true
     ·have:=pT s y z h2.1 h3.1 e2;subst this;rw [if_neg e1]; exact h4
     ·rw [if_neg e2] at h5;have h6:=ih x y z h1.1 h2.1 h3.1 h4 h5;rw [if_neg (fun e3=>by
       have:=pT s x z h1.1 h3.1 e3;subst this;rw [CT s x h1.1] at h6; cases h6)]
      exact h6
mutual
theorem rG:∀ (sh:nA) (a b c:D),cH sh a=true->cH sh b=true->cH sh c=true->oK a b=true->oK b c=true->oK a c=true
 | .int,a,b,c,h1,h2,h3,h4,h5=>by
  first | obtain⟨_,rfl⟩:=dH h1 | obtain⟨_,rfl⟩:=dF h1 | obtain⟨_,rfl⟩:=dG h1
  first | obtain⟨_,rfl⟩:=dH h2 | obtain⟨_,rfl⟩:=dF h2 | obtain⟨_,rfl⟩:=dG h2
  first | obtain⟨_,rfl⟩:=dH h3 | obtain⟨_,rfl⟩:=dF h3 | obtain⟨_,rfl⟩:=dG h3
  simp [OJ] at *; lia
 | .tup l,a,b,c,h1,h2,h3,h4,h5=>by
  first | obtain⟨_,rfl⟩:=dH h1 | obtain⟨_,rfl⟩:=dF h1 | obtain⟨_,rfl⟩:=dG h1
  first | obtain⟨_,rfl⟩:=dH h2 | obtain⟨_,rfl⟩:=dF h2 | obtain⟨_,rfl⟩:=dG h2
  first | obtain⟨_,rfl⟩:=dH h3 | obtain⟨_,rfl⟩:=dF h3 | obtain⟨_,rfl⟩:=dG h3
  exact y7 l _ _ _ h1 h2 h3 h4 h5
 | .lst l,a,b,c,h1,h2,h3,h4,h5=>by
  first | obtain⟨_,rfl⟩:=dH h1 | obtain⟨_,rfl⟩:=dF h1 | obtain⟨_,rfl⟩:=dG h1
  first | obtain⟨_,rfl⟩:=dH h2 | obtain⟨_,rfl⟩:=dF h2 | obtain⟨_,rfl⟩:=dG h2
  first | obtain⟨_,rfl⟩:=dH h3 | obtain⟨_,rfl⟩:=dF h3 | obtain⟨_,rfl⟩:=dG h3
  exact Ii l (rG l) _ _ _ h1 h2 h3 h4 h5
theorem y7:∀ (l:List nA) (xs ys zs:List D),fC l xs=true->fC l ys=true->fC l zs=true->ml xs ys=true->ml ys zs=true->ml xs zs=true
 | [],xs,ys,zs,h1,h2,_,h,_=>by
  cases xs with
  | nil=>cases ys with
   | nil=>cases h
   | cons _ _=>cases h2
  | cons _ _=>cases h1
 | s :: l,xs,ys,zs,h1,h2,h3,h4,h5=>by
  cases xs with
  | nil=>cases h1
  | cons x xs =>
   cases ys with
   | nil=>cases h2
   | cons y ys =>
    cases zs with
    | nil=>cases h3
    | cons z zs =>
     have h1:(cH s x&&fC l xs)=true:=h1;have h2:(cH s y&&fC l ys)=true:=h2;have h3:(cH s z&&fC l zs)=true:=h3;rw [aJ] at h1 h2 h3;simp only [mV] at h4 h5 ⊢;by_cases e1:ij x y=true
     ·have:=pT s x y h1.1 h2.1 e1;subst this;rw [if_pos e1] at h4;by_cases e2:ij x z=true
      ·rw [if_pos e2] at h5 ⊢;exact y7 l xs ys zs h1.2 h2.2 h3.2 h4 h5
      ·rw [if_neg e2] at h5 ⊢; exact h5
     ·rw [if_neg e1] at h4;by_cases e2:ij y z=true
      ·have:=pT s y z h2.1 h3.1 e2;subst this;rw [if_neg e1]; exact h4
      ·rw [if_neg e2] at h5;have h6:=rG s x y z h1.1 h2.1 h3.1 h4 h5;rw [if_neg (fun e3=>by
        have:=pT s x z h1.1 h3.1 e3;subst this;rw [CT s x h1.1] at h6; cases h6)]
       exact h6
end
theorem Bw(sh:nA){a b:D}(h1:cH sh a=true)(h2:cH sh b=true)(h:oK a b=true):oK b a=false:=by
 cases q:oK b a with
 | false=>rfl
 | true=>have:=rG sh a b a h1 h2 h1 h q; rw [CT sh a h1] at this; cases this
theorem y8(sh:nA){a b c:D}(h1:cH sh a=true)(h2:cH sh b=true)(h3:cH sh c=true)(q1:oK b a=false)(q2:oK c b=false):oK c a=false:=by
 cases h:oK c a with
 | false=>rfl
 | true =>
  exfalso;cases q:oK a b with
  | false =>
   have:=xJ sh a b h1 h2 q q1;subst this; rw [h] at q2; cases q2
  | true=>rw [rG sh c a b h3 h1 h2 h q] at q2; cases q2
theorem t6(sh:nA){xs ys:List D}(hx:∀ x∈xs,cH sh x=true)(hp:ys.Perm xs)(hs:ys.Pairwise fun a b=>oK b a=false):qz xs=ys:=by
 have hy:∀ y∈ys,cH sh y=true:=fun y h=>hx y (hp.mem_iff.mp h);have p1:(qz xs).Perm xs:=List.mergeSort_perm xs QH;have hz:∀ z∈qz xs,cH sh z=true:=fun z h=>hx z (p1.mem_iff.mp h);have s1:(qz xs).Pairwise fun a b=>oK b a=false:=by
  let Nj:List { d:D // cH sh d=true }:=xs.attach.map fun x=>⟨x.1,hx x.1 x.2⟩
  have ex:xs=Nj.map (·.1):=by
   simp only [Nj,aM]
   conv=>lhs; rw [<-List.attach_map_subtype_val xs]
   rfl
  have e2:qz xs=(Nj.mergeSort fun a b=>QH a.1 b.1).map (·.1):=by
   unfold qz;rw [ex];exact(List.map_mergeSort (r:=fun (a b:{ d:D // cH sh d=true })=>QH a.1 b.1) (s:=QH) (f:=fun x=>x.1) (l:=Nj) fun a _ b _=>rfl).symm
  rw [e2,A9]
  have:=MO (le:=fun (a b:{ d:D // cH sh d=true })=>QH a.1 b.1) (fun a b c h1 h2=>by
   unfold QH at *;simp only [Bool.not_eq_true'] at *;exact y8 sh a.2 b.2 c.2 h1 h2) (fun a b=>by
   unfold QH;cases q:oK b.1 a.1 with
   | false=>rfl
   | true=>rw [Bw sh b.2 a.2 q]; rfl) Nj
  exact this.imp fun h=>by unfold QH at h; simpa using h
 refine DV (le:=fun a b=>oK b a=false) (fun a b ha hb h h'=>?_) s1 hs (p1.trans hp.symm);exact xJ sh a b (hz a ha) (hy b hb) h' h
end K2
end
section
namespace K2
open PySem (Str)
open Enc (enc)
noncomputable def kL(k:Nat):List D->List D
 | []=>[]
 | d :: r=>.tup [.int (k:Int),d] :: kL (k+1) r
theorem BS:∀ (ds:List D) (k i:Nat),(kL k ds)[i]?=(ds[i]?).map fun d=>D.tup [.int ((k+i:Nat):Int),d]
 | [],k,i=>by simp [kL]
 | d :: r,k,0=>by simp [kL]
 | d :: r,k,i+1=>by
  rw [kL,ae,BS r (k+1) i,ae];congr 1; funext x; congr 3; lia
theorem BR:∀ (ds:List D) (k:Nat),(kL k ds).length=ds.length
 | [],_=>rfl
 | d :: r,k=>by rw [kL,aj,aj,BR r]
noncomputable def uN(x:D)(G1:Gp)(R:List D->(Gp->Prop)->Gp->Prop):Prop:=match x with
 | .cY ds=>R (kL 0 ds) (fun _=>True) G1
 | .ref p=>(match G1 p with
  | some (.lst ds)=>R (kL 0 ds) (fun G2=>G2 p=some (.lst ds)) G1
  | _=>False)
 | _=>False
noncomputable def FE(a:gJ):MC:=fun E τ G R=>a E τ G fun x G1=>uN x G1 R
noncomputable def YX(P:D->Gp->Prop):List D->Gp->Prop
 | [x],G=>P x G
 | _,_=>False
noncomputable def YW(P:D->D->Gp->Prop):List D->Gp->Prop
 | [x,y],G=>P x y G
 | _,_=>False
noncomputable def oY:List D->List D->List D
 | x :: xs,y :: ys=>.tup [x,y] :: oY xs ys
 | _,_=>[]
theorem Ei:∀ (xs ys:List D) (i:Nat),(oY xs ys)[i]?=(xs[i]?).bind fun x=>(ys[i]?).map fun y=>D.tup [x,y]
 | [],ys,i=>by simp [oY]
 | x :: xs,[],i=>by cases h:(x :: xs)[i]? <;> simp [oY]
 | x :: xs,y :: ys,0=>by simp [oY]
 | x :: xs,y :: ys,i+1=>by rw [oY,ae,Ei xs ys i,ae,ae]
theorem Eh:∀ (xs ys:List D),(oY xs ys).length=min xs.length ys.length
 | [],ys=>by simp [oY]
 | x :: xs,[]=>by simp [oY]
 | x :: xs,y :: ys=>by rw [oY,aj,Eh xs ys,aj,aj]; lia
noncomputable def uA(x:D)(G:Gp):Option (List D×(Gp->Prop)):=match x with
 | .cY ds=>some (ds,fun _=>True)
 | .ref p=>(match G p with
  | some (.lst ds)=>some (ds,fun G2=>G2 p=some (.lst ds))
  | _=>none)
 | _=>none
noncomputable def tf(x y:D)(G1:Gp)(R:List D->(Gp->Prop)->Gp->Prop):Prop:=match uA x G1,uA y G1 with
 | some (xs,k1),some (ys,k2)=>R (oY xs ys) (fun G2=>k1 G2/\k2 G2) G1
 | _,_=>False
noncomputable def Pc(a b:gJ):MC:=fun E τ G R=>a E τ G fun x G1=>b E τ G1 fun y G2=>tf x y G2 R
noncomputable def CZ(x:D)(G1:Gp)(R:List D->(Gp->Prop)->Gp->Prop):Prop:=match x with
 | .j8 kvs=>R (kvs.map (·.1)) (fun _=>True) G1
 | _=>False
noncomputable def uO(a:gJ):MC:=fun E τ G R=>a E τ G fun x G1=>CZ x G1 R
noncomputable def IsL(G:Gp)(d:D)(ds:List D):Prop:=d=.cY ds\/∃ a,d=.ref a/\G a=some (.lst ds)
theorem IsL.cY{G:Gp}{ds:List D}:IsL G (.cY ds) ds:=.inl rfl
theorem IsL.enc{α:Type} [DecidableEq α] [Enc α]{G:Gp}(xs:List α):IsL G (enc xs) (xs.map enc):=.inl rfl
theorem IsL.ref{G:Gp}{a:Nat}{ds:List D}(h:G a=some (.lst ds)):IsL G (.ref a) ds:=.inr ⟨a,rfl,h⟩
theorem IsL.mono{G G':Gp}{d:D}{ds:List D}(h:IsL G d ds)(l:ff G G'):IsL G' d ds:=by
 rcases h with h | ⟨a,h,e⟩
 ·exact .inl h
 ·exact .inr ⟨a,h,l a _ e⟩
theorem Fs{G:Gp}{d:D}{ds:List D}(h:IsL G d ds):∃ ok:Gp->Prop,uA d G=some (ds,ok)/\∀ G',ff G G'->ok G':=by
 rcases h with rfl | ⟨a,rfl,e⟩
 ·exact⟨_,rfl,fun _ _=>trivial⟩
 ·unfold uA; simp only [e]; exact⟨_,rfl,fun G' l=>l a _ e⟩
theorem L9{G:Gp}{d d':D}{ds ds':List D}{R:List D->(Gp->Prop)->Gp->Prop}(h:IsL G d ds)(h':IsL G d' ds')(k:∀ ok:Gp->Prop,(∀ G',ff G G'->ok G')->R (oY ds ds') ok G):tf d d' G R:=by
 obtain⟨k1,e1,h1⟩:=Fs h;obtain⟨k2,e2,h2⟩:=Fs h';unfold tf; simp only [e1,e2];exact k _ fun G' l=>⟨h1 G' l,h2 G' l⟩
theorem Np{G:Gp}{d:D}{ds:List D}{Q:Bool->Gp->Prop}(h:IsL G d ds)(k:Q (!ds.isEmpty) G):nG d G Q:=by
 rcases h with rfl | ⟨a,rfl,e⟩
 ·exact k
 ·rw [Ln e]; exact k
theorem sZ{G:Gp}{d:D}{ds:List D}(h:IsL G d ds):itemsOf d G=some ds:=by
 rcases h with rfl | ⟨a,rfl,e⟩
 ·rfl
 ·unfold itemsOf; simp only [e]
theorem TV{G:Gp}{d:D}{ds:List D}(h:IsL G d ds):Cq d G:=by
 rcases h with rfl | ⟨a,rfl,e⟩
 ·trivial
 ·unfold Cq; simp only [e]
theorem vH{G:Gp}{d:D}{ds:List D}{lo hi:Option Int}{Q:DK}(h:IsL G d ds)(k:gX G (.lst (cut ds lo hi)) Q):N6 d lo hi G Q:=by
 rcases h with rfl | ⟨a,rfl,e⟩
 ·exact k
 ·rw [Rc e]; exact k
theorem KS{G:Gp}{d:D}{ds:List D}{Q:DK}(h:IsL G d ds)(k:Q (.int (ds.length:Int)) G):tK [d] G Q:=by
 rcases h with rfl | ⟨a,rfl,e⟩
 ·exact k
 ·rw [Gu e]; exact k
theorem P7{G:Gp}{d:D}{ds:List D}{Q:DK}(h:IsL G d ds)(k:gX G (.lst ds) Q):w9 [d] G Q:=by
 unfold w9; simp only [sZ h]; exact k
theorem zR{α:Type} [DecidableEq α] [Enc α] [aU α]{G:Gp}{d:D}{xs:List α}{Q:DK}(h:IsL G d (xs.map enc))(hl:xs.length < 64)(k:gX G (.lst ((MX xs).map enc)) Q)(ok:autoParam (UJ (aU.AI α)=true) Ad._auto_1):u5 [d] G Q :=
 ⟨aU.AI α,xs.map enc,TV h,sZ h,by rw [fK,du]; intro x _; exact aU.zr x,ok,by rw [ak]; exact hl,by rw [Lr]; exact k⟩
theorem vJ{G:Gp}{d x:D}{ds:List D}{i:Int}{Q:DK}(h:IsL G d ds)(e:pU ds i=some x)(k:Q x G):kE d (.int i) G Q:=by
 rcases h with rfl | ⟨a,rfl,e2⟩
 ·rw [Rg e]; exact k
 ·rw [Rh e2 e]; exact k
theorem oM{G:Gp}{d:D}{ds:List D}(h:IsL G d ds):qK d G=some ds:=by
 rcases h with rfl | ⟨a,rfl,e⟩
 ·rfl
 ·unfold qK; simp only [e]
theorem Ss{G:Gp}{d e:D}{ds es:List D}{Q:DK}(h:IsL G d ds)(h':IsL G e es)(hz:ds.length+es.length<=SZ)(k:gX G (.lst (ds++es)) Q):DJ d e G Q:=by
 unfold DJ; simp only [oM h,oM h']; exact⟨hz,k⟩
theorem um{G:Gp}{d e:D}{ds es:List D}{Q:DK}(h:IsL G d ds)(h':IsL G e es)(hz:ds.length+es.length<=SZ)(k:gX G (.lst (ds++es)) Q):jP d e G Q:=by
 have:=Ss h h' hz k;rcases h with rfl | ⟨a,rfl,_⟩
 ·rw [yH]; exact this
 ·rw [uk]; exact this
theorem u3{α:Type}(xs:List α)(i:Nat)(h:i<=xs.length):cut xs (some (i:Int)) none=xs.drop i:=by
 unfold cut jJ;simp only;rw [if_neg (by lia),cV,Nat.min_eq_left h];exact Ng (by rw [cq]; lia)
theorem Dt{α:Type}(xs:List α)(i:Nat)(h:i<=xs.length):cut xs none (some (i:Int))=xs.take i:=by
 unfold cut jJ;simp only;rw [if_neg (by lia),cV,Nat.min_eq_left h];simp
theorem nP{α β:Type}(f:α->β)(xs:List α)(lo hi:Option Int):cut (xs.map f) lo hi=(cut xs lo hi).map f:=by
 unfold cut; rw [ak,An,Ap]
theorem nS{α:Type}(xs:List α){k:Int}(h0:0<=k)(h1:k < xs.length):pU xs k=some (xs[k.toNat]'(by lia)):=by
 unfold pU GU;rw [if_pos h0,if_pos h1];show xs[k.toNat]?=_;exact ai (by lia)
theorem HJ{n:Nat}{pre post:List D}{d:D}(h:gM 0 n=pre++d :: post):d=.int (pre.length:Int)/\pre.length < n:=by
 have hl:pre.length < n:=by
  have:=congrArg dO h;simp [gM] at this; lia
 have:=congrArg (fun l=>l[pre.length]?) h;simp only [gM,bq,List.getElem?_range hl] at this;rw [bG (aC _)] at this;simp at this;exact⟨this.symm,hl⟩
noncomputable def V8{α β:Type} [DecidableEq α] [Enc α] [DecidableEq β] [Enc β](pre:α->Prop)(f:α->β):jU:=fun ds G Q _=>∃ a:α,ds=[enc a]/\pre a/\Q (enc (f a)) G
noncomputable def V7{α β γ:Type} [DecidableEq α] [Enc α] [DecidableEq β] [Enc β] [DecidableEq γ] [Enc γ](pre:α->β->Prop)(f:α->β->γ):jU:=fun ds G Q _=>∃ (a:α) (b:β),ds=[enc a,enc b]/\pre a b/\Q (enc (f a b)) G
noncomputable def YN:Ax
 | .int i,.int j,G,Q=>(0<=j/\j<=1000000/\i.natAbs < 2 ^ 64)/\Q (.int (i ^ j.toNat)) G
 | _,_,_,_=>False
noncomputable def sr:Nat:=2 ^ 4000
noncomputable def JZ:Ax
 | .int i,.int j,G,Q=>(i.natAbs < sr/\j.natAbs < sr)/\Q (.int (i * j)) G
 | _,_,_,_=>False
theorem N7{i j:Int}{G:Gp}{Q:DK}:YN (.int i) (.int j) G Q=((0<=j/\j<=1000000/\i.natAbs < 2 ^ 64)/\Q (.int (i ^ j.toNat)) G):=rfl
theorem vI{i j:Int}{G:Gp}{Q:DK}:JZ (.int i) (.int j) G Q=((i.natAbs < sr/\j.natAbs < sr)/\Q (.int (i * j)) G):=rfl
noncomputable def uY:D->Gp->Option (List (D×D))
 | .j8 kvs,_=>some kvs
 | .ref a,G=>match G a with
  | some (.gK kvs)=>some kvs
  | _=>none
 | _,_=>none
noncomputable def uJ(kvs:List (D×D)):Bool:=kvs.all fun p=>dE p.1
noncomputable def KU(ds:List D)(G:Gp)(Q:DK):Prop:=match ds with
 | [x]=>∃ kvs,uY x G=some kvs/\uJ kvs=true/\kvs.length<=SZ/\gX G (.gK kvs) Q
 | _=>False
noncomputable def LO(x:D)(ds:List D)(G:Gp)(Q:DK):Prop:=match ds with
 | [k,d]=>∃ kvs,uY x G=some kvs/\uJ kvs=true/\dE k=true/\Q ((look kvs k).getD d) G
 | _=>False
noncomputable def FD(x:D)(G1:Gp)(R:List D->(Gp->Prop)->Gp->Prop):Prop:=match x with
 | .j8 kvs=>uJ kvs=true/\R (kvs.map fun p=>.tup [p.1,p.2]) (fun _=>True) G1
 | _=>False
noncomputable def lR(a:gJ):MC:=fun E τ G R=>a E τ G fun x G1=>FD x G1 R
noncomputable def mS:D->Bool
 | .eQ=>true
 | .bl _=>true
 | .int _=>true
 | _=>false
noncomputable def KP(k v:gJ):gJ:=fun E τ G Q=>k E τ G fun x G1=>v E τ G1 fun y G2=>dE x=true/\gX G2 (.gK [(x,y)]) Q
noncomputable def v7(l m:List (Int×Int)):Bool:=l.length == m.length&&l.all fun p=>cz m p.1 == some p.2
noncomputable def Us(neg:Bool):Ax:=fun x y G Q=>∃ l m:List (Int×Int),uY x G=some (bz l)/\uY y G=some (bz m)/\Q (.bl (if neg then !v7 l m else v7 l m)) G
noncomputable def qH(neg:Bool):Ax:=fun x y G Q=>GR neg x y G Q\/Us neg x y G Q
noncomputable def wo{κ α:Type} [DecidableEq κ] [Enc κ] [DecidableEq α] [Enc α](G:Gp)(d:D)(l:List (κ×α)):Prop:=uY d G=some (bz l)
section
variable {κ α:Type} [DecidableEq κ] [Enc κ] [DecidableEq α] [Enc α] {l:List (κ×α)} {G G':Gp} {d:D}
theorem wo.ref{a:Nat}(h:G a=some (.gK (bz l))):wo G (.ref a) l:=by unfold wo uY; simp only [h]
theorem wo.j8:wo G (.j8 (bz l)) l:=rfl
theorem wo.inv(h:wo G d l):d=.j8 (bz l)\/∃ a,d=.ref a/\G a=some (.gK (bz l)):=by
 unfold wo uY at h;split at h
 ·exact .inl (by rw [a8 h])
 ·rename_i a;split at h
  ·rename_i kvs e;exact .inr ⟨a,rfl,by rw [e,a8 h]⟩
  ·cases h
 ·cases h
noncomputable def TL(_:Gp)(d:D)(l:List (κ×α)):Prop:=d=.j8 (bz l)
theorem TL.p(h:TL G d l):wo G' d l:=by unfold TL at h; rw [h]; exact .j8
theorem kQ{β:Type} [DecidableEq β] [Enc β](l:List (Int×β)):uJ (bz l)=true:=by
 unfold uJ bz; rw [fK,du]; intro p _; rfl
theorem BU(l:List (κ×α)):(bz l).length=l.length:=by unfold bz; rw [ak]
theorem Nl(h:wo G d l):Q0 d G:=by
 rcases h.inv with rfl | ⟨a,rfl,e⟩
 ·trivial
 ·unfold Q0; simp only [e]
theorem O8 {C:String} {Q:DK} (h:wo G d l) (k:Q (.bl (C == "dict")) G):isAt C d G Q:=by
 rcases h.inv with rfl | ⟨a,rfl,e⟩
 ·exact k
 ·rw [O7]; simp only [e]; exact k
end
section
variable {α:Type} [DecidableEq α] [Enc α] {l:List (Int×α)} {G:Gp} {d:D}
theorem P9{Q:DK}(h:wo G d l)(hs:l.length<=SZ)(k:gX G (.gK (bz l)) Q):KU [d] G Q:=⟨_,h,kQ l,by rw [BU]; exact hs,k⟩
theorem RQ{Q:DK}{i:Int}{e:α}(h:wo G d l)(k:Q (enc ((cz l i).getD e)) G):LO d [.int i,enc e] G Q:=by
 refine⟨_,h,kQ l,rfl,?_⟩;have:(look (bz l) (.int i)).getD (enc e)=enc ((cz l i).getD e):=by
  rw [show (D.int i)=enc i from rfl,uC]; cases cz l i <;> rfl
 rw [this]; exact k
theorem lz{G0:Gp}{R:List D->(Gp->Prop)->Gp->Prop}(h:TL G0 d l)(le0:ff G0 G)(k:∀ ok:Gp->Prop,(∀ G',ff G0 G'->ok G')->R (l.map fun p=>.tup [.int p.1,enc p.2]) ok G):FD d G R:=by
 unfold TL at h;rw [h];refine⟨kQ l,?_⟩;have:(bz l).map (fun p=>D.tup [p.1,p.2])=l.map fun p=>.tup [.int p.1,enc p.2]:=by unfold bz; rw [aM]; rfl
 rw [this];exact k _ fun G' le=>trivial
theorem zk{G0:Gp}{R:List D->(Gp->Prop)->Gp->Prop}(h:TL G0 d l)(le0:ff G0 G)(k:∀ ok:Gp->Prop,(∀ G',ff G0 G'->ok G')->R (l.map fun p=>.int p.1) ok G):CZ d G R:=by
 unfold TL at h;rw [h];show R ((bz l).map (·.1)) _ G;have:(bz l).map (·.1)=l.map fun p=>D.int p.1:=by unfold bz; rw [aM]; rfl
 rw [this];exact k _ fun G' le=>trivial
theorem N9{i:Int}{v:α}{Q:DK}(h:wo G d l)(e:cz l i=some v)(k:Q (enc v) G):kE d (.int i) G Q:=by
 have hk:ie (bz l) (.int i)=true:=mW l i;have hl:look (bz l) (.int i)=some (enc v):=by rw [show (D.int i)=enc i from rfl,uC,e]; rfl
 rcases h.inv with rfl | ⟨a,rfl,e⟩
 ·rw [xD,hl]; exact⟨hk,k⟩
 ·rw [CD,e]; simp only [hl]; exact⟨hk,k⟩
theorem gT{a:Nat}{i:Int}{v:α}{Q:Gp->Prop}(h:G a=some (.gK (bz l)))(hs:l.length < SZ)(k:Q (eA G a (.gK (bz (eU l i v))))):wC (.ref a) (.int i) (enc v) G Q:=by
 unfold wC;simp only [h];refine⟨mW l i,by rw [BU]; exact hs,?_⟩;rw [show (D.int i)=enc i from rfl,J1]; exact k
end
theorem yG{neg:Bool}{G:Gp}{d e:D}{l m:List (Int×Int)}{Q:DK}(h1:wo G d l)(h2:wo G e m)(k:Q (.bl (if neg then !v7 l m else v7 l m)) G):qH neg d e G Q:=.inr ⟨l,m,h1,h2,k⟩
theorem EM{neg:Bool}{G:Gp}{i j:Int}{Q:DK}(k:Q (.bl (if neg then !decide (i=j) else decide (i=j))) G):qH neg (.int i) (.int j) G Q:=.inl ⟨_,_,.int _,.int _,by
 have:ij (.int i) (.int j)=decide (i=j):=Enc.eqv i j;rw [this]; exact k⟩
theorem Oh(l:List (Int×Int)):((bz l).all fun p=>dE p.1&&mS p.2)=true:=by
 unfold bz; rw [fK,du]; intro p _; rfl
noncomputable abbrev TF2:=mG->iN->Gp->(List Str->Gp->Prop)->Prop
end K2
end
section
namespace K2
open PySem (Str)
noncomputable def Ma(x:D)(G1:Gp)(R:List D->(Gp->Prop)->Gp->Prop):Prop:=match x with
 | .j8 kvs=>(kvs.all fun p=>kR p.1)=true/\R (kvs.map fun p=>.tup [p.1,p.2]) (fun _=>True) G1
 | _=>False
noncomputable def CY(a:gJ):MC:=fun E τ G R=>a E τ G fun x G1=>Ma x G1 R
noncomputable def Gi(kv:List (Int×Int)):gJ:=fun _ _ G Q=>gX G (.gK (bz kv)) Q
end K2
end
section
namespace K2
open PySem (Str)
open Enc (enc)
noncomputable def h2(t:T2):Int:=PySem.reduceHash (PySem.Builtin.Tuple.tupleHashOf [PySem.hashInt t.a,PySem.hashInt t.b])
end K2
end
section
namespace K2
open Enc (enc)
noncomputable def Ur:Ax:=fun x y G Q=>∃ (sh:nA) (a b:D),(Sn G SN x a/\Sn G SN y b)/\(cH sh a=true/\cH sh b=true)/\Q (.bl (oK a b)) G
theorem N8{α:Type} [DecidableEq α] [Enc α] [aU α]{x y:α}{G:Gp}{Q:DK}(hd:Enc.dep α<=8)(q:Q (.bl (aU.lt x y)) G):Ur (enc x) (enc y) G Q :=
 ⟨aU.AI α,enc x,enc y,⟨Enc.sn _ _ _ hd,Enc.sn _ _ _ hd⟩,⟨aU.zr _,aU.zr _⟩,by rw [aU.QG]; exact q⟩
end K2
end
section
namespace K2
open PySem (Str)
noncomputable def Sk(ds:List D)(G:Gp)(Q:DK):Prop:=match ds with
 | [x]=>(match qK x G with
  | some xs=>Q (.tup xs) G
  | none=>False)
 | _=>False
noncomputable def only(a:Nat)(o:GO):Gp:=fun b=>if b=a then some o else none
noncomputable def pO(kvs:List (PK×D))(k:PK):Option D:=(kvs.find? fun p=>decide (p.1=k)).map (·.2)
noncomputable def LB(kvs:List (PK×D))(k:PK)(v:D):List (PK×D) :=
 if (kvs.any fun p=>decide (p.1=k))=true then kvs.map (fun p=>if p.1=k then (p.1,v) else p) else kvs++[(k,v)]
noncomputable def tyP(x:D)(G:Gp):Prop:=match x with
 | .ref a=>(match G a with
  | some (.qh _)=>True
  | _=>False)
 | .oF _=>True
 | _=>False
noncomputable def Fj(x:D)(ds:List D)(G:Gp)(Q:DK):Prop:=match x,ds with
 | .ref a,[k,d]=>∃ kvs pk,G a=some (.qh kvs)/\k=pM pk/\Q ((pO kvs pk).getD d) G
 | .oF kvs,[k,d]=>∃ pk,k=pM pk/\Q ((pO kvs pk).getD d) G
 | _,_=>False
noncomputable def HI(o k d:D)(G:Gp)(Q:Gp->Prop):Prop:=match o with
 | .ref a=>∃ kvs pk,G a=some (.qh kvs)/\k=pM pk/\kvs.length < SZ/\Q (eA G a (.qh (LB kvs pk d)))
 | _=>False
noncomputable def FI(o k:gJ):Aw:=fun E d τ G Q=>o E τ G fun x G1=>k E τ G1 fun y G2=>HI x y d G2 fun G3=>Q τ G3
noncomputable def PV:gJ:=fun _ _ G Q=>gX G (.qh []) Q
noncomputable def PU(k v:gJ):gJ:=fun E τ G Q=>k E τ G fun x G1=>v E τ G1 fun y G2=>∃ pk,x=pM pk/\gX G2 (.qh [(pk,y)]) Q
noncomputable def Mb(x:D)(G1:Gp)(R:List D->(Gp->Prop)->Gp->Prop):Prop:=match x with
 | .oF kvs=>R (kvs.map fun p=>.tup [pM p.1,p.2]) (fun _=>True) G1
 | _=>False
noncomputable def uM(a:gJ):MC:=fun E τ G R=>a E τ G fun x G1=>Mb x G1 R
noncomputable def Fh(x:D)(ds:List D)(G:Gp)(Q:DK):Prop:=match x,ds with
 | .ref a,[k]=>∃ kvs d,G a=some (.gK kvs)/\(kR k=true/\(kvs.all fun p=>kR p.1)=true/\look kvs k=some d)/\Q d (eA G a (.gK (kvs.filter fun p=>!ij p.1 k)))
 | _,_=>False
end K2
end
section
namespace K2
noncomputable def tupP:D->Bool
 | .tup ds=>ds.all mS
 | .ref _=>true
 | .j8 kvs=>kvs.all fun p=>dE p.1&&mS p.2
 | d=>mS d
noncomputable def ur:GO->Bool
 | .lst ds=>ds.all tupP
 | .gK kvs=>kvs.all fun p=>dE p.1&&mS p.2
 | _=>false
noncomputable def JL(G2 G1:Gp):Gp:=fun a=>match G2 a with
 | some o=>some o
 | none=>G1 a
noncomputable def resT(T:Nat->Bool)(G:Gp):Gp:=fun a=>if T a=true then G a else none
noncomputable def nc(sp:jU)(t:D4):gJ:=fun E τ G Q=>t E τ G fun ds G1=>∃ (R:Nat->Bool) (ts:List D),(∀ a,R a=true->∃ xs,G1 a=some (.lst xs))/\Ab G1 R ds ts /\
 sp ts (fun _=>none) (fun x G2=>tupP x=true/\∃ T:Nat->Bool,(∀ a o,T a=true->G2 a=some o->ur o=true)/\((∀ a o,G2 a=some o->G1 a=none)->Q x (JL (resT T G2) G1))) fun _ _=>False
end K2
end
section
namespace K2
open PySem
section
variable {prog:bI} {w:World} {K:Type} [DecidableEq K] (knd:Ed prog w K)
inductive su (h:Heap):List K->List Value->Prop
 | nil:su h [] []
 | cons {k:K} {b:Addr} {ks:List K} {vs:List Value}:knd.is h k b->su h ks vs->su h (k :: ks) (.ref b :: vs)
noncomputable def sx (h:Heap) (ks:List K) (a:Addr):Prop:=∃ o items n,h.get? a=some o/\o.cls=.type "tuple"/\o.data=.seq items n/\su knd h ks items.toList
variable {knd}
theorem su.inj{h:Heap}{x y:List K}{vs:List Value}(hx:su knd h x vs)(hy:su knd h y vs):x=y:=by
 induction hx generalizing y with
 | nil=>cases hy; rfl
 | cons h1 _ ih =>
  cases hy with
  | cons h2 t2=>rw [knd.inj h1 h2,ih t2]
theorem su.keeps{h h':Heap}{ks:List K}{vs:List Value}{d:Addr}{o:Obj}{es ep}(x:su knd h ks vs)(ho:h.get? d=some o)(hd:o.data=.dict es ep)(hs:fL d h h'):su knd h' ks vs:=by
 induction x with
 | nil=>exact .nil
 | cons h1 _ ih=>exact .cons (knd.keeps h1 ho hd hs) ih
theorem sx.typeIs {s:az} {ks:List K} {a:Addr} (x:sx knd s.heap ks a):s.TypeIs (.ref a) "tuple":=let ⟨o,_,_,ho,hc,_⟩:=x; ⟨o,ho,hc⟩
theorem sx.inj{h:Heap}{a:Addr}{x y:List K}(hx:sx knd h x a)(hy:sx knd h y a):x=y:=by
 obtain⟨o,items,n,ho,_,hd,hi⟩:=hx;obtain⟨o',Zm,n',D0,_,Av,Ts⟩:=hy;obtain rfl:o=o':=a8 (ho.symm.trans D0);rw [hd] at Av;injection Av with h1 _
 subst h1;exact hi.inj Ts
theorem sx.keeps{h h':Heap}{ks:List K}{a d:Addr}{o:Obj}{es ep}(x:sx knd h ks a)(ho:h.get? d=some o)(hd:o.data=.dict es ep)(hs:fL d h h'):sx knd h' ks a:=by
 obtain⟨o',items,n,D0,hc,Av,hi⟩:=x;have oA:a≠d:=by
  rintro rfl;obtain rfl:o'=o:=a8 (D0.symm.trans ho);rw [hd] at Av; exact nomatch Av
 exact⟨o',items,n,(hs.2 a oA).trans D0,hc,Av,hi.keeps ho hd hs⟩
noncomputable def CN(knd:Ed prog w K)(ks:List K):Int:=reduceHash (dU (ks.map knd.hash))
noncomputable def k0(knd:Ed prog w K):List K->Nat
 | []=>0
 | k :: ks=>knd.draws k+k0 knd ks
theorem uv(ks:List K)(k:K):k0 knd (ks++[k])=k0 knd ks+knd.draws k:=by
 induction ks with
 | nil=>simp [k0]
 | cons a r ih=>rw [aB,k0,k0,ih,oB]
variable {A:dI} {E:Value->az->Prop} {s:az}
theorem Kt{ks:List K}{a:Addr}{Q:Int->az->Prop}(hu:A.units < cLine/\knd.room A.in1)(hk:sx knd s.heap ks a)(h:Q (CN knd ks) { s with toks:=s.toks+(k0 knd ks+1) }) :
  wpAny (model prog w) A (pyHash (.ref a)) Q E s:=by
 have hT:=hk.typeIs;obtain⟨o,items,n,ho,_,hd,hi⟩:=hk;unfold pyHash
 first | unfold pyHashByItsType | skip
 first | refine ag (wpAny_cRoomFor_or (.inr hu.1) ?_) | skip
 refine ag (xX hT F.slot_tuple_hash.lookup ?_);show wpAny _ _ (if (some (Value.builtin "tuple.__hash__") == some gn)=true then _ else _) Q E s;rw [if_neg (by rw [beq_builtin_none]; exact gZ)];refine ag (xX hT F.slot_tuple_hash.lookup ?_);show wpAny _ _ (callSpecialIfBoundUnlessNone? (.ref a) "__hash__" _ >>= _) Q E s;refine ag (wpAny_callSpecialIfBoundUnlessNone?_slot hT F.slot_tuple_hash (cX F.slot_tuple_hash hT F.entry_tuple_hash ?_ (F.args_tuple_hash_1 _)));show wpAny _ _ (xx (.ref a) >>= _) _ _ s;refine ag (D6 ho hd ?_);refine ag ?_;rw [<-yi];refine lF _
  (fun rest (b:Array Int) s'=>∃ done left,ks=done++left/\su knd s.heap left rest/\b.toList=done.map knd.hash/\s'={ s with toks:=s.toks+k0 knd done })
  _ ?_ ?_ _ _ ⟨[],ks,rfl,hi,rfl,rfl⟩
 ·rintro x rest b s' ⟨done,left,rfl,hl,hb,rfl⟩;cases hl with
  | @cons k _ ks' _ h1 hl' =>
   refine ag (knd.pyHash hu.2 h1 ?_)
   first
    | exact aA ⟨done++[k],ks',by simp,hl',by simp [hb],by simp [uv,oB]⟩
    | exact ag (aA (aA ⟨done++[k],ks',by simp,hl',by simp [hb],by simp [uv,oB]⟩))
 ·rintro b s' ⟨done,left,rfl,hl,hb,rfl⟩;cases hl;rw [dq] at h;show wpAny _ _ (retInt (dU b.toList)) _ _ _;rw [hb];refine wpAny_ret_mkInt ?_;show wpAny _ _ (if (decide (-(2:Int) ^ 63<=dU (done.map knd.hash))&&decide (dU (done.map knd.hash) < 2 ^ 63))=true then _ else _) Q E _;unfold CN reduceHash at h;by_cases hr:(decide (-(2:Int) ^ 63<=dU (done.map knd.hash))&&decide (dU (done.map knd.hash) < 2 ^ 63))=true
  ·rw [if_pos hr];rw [if_pos hr] at h;exact aA (by simpa [oB] using h)
  ·rw [if_neg hr];rw [if_neg hr] at h;exact ag (wpAny_rule (aA (by simpa [oB] using h)))
theorem IT{x y:List K}{a b:Addr}{P:Fin->az->Prop}(hu:knd.room A)(hx:sx knd s.heap x a)(hy:sx knd s.heap y b)(h:P (.done (.ret (.bool (decide (x=y))))) s) :
  wpAny (model prog w) A (Builtin.«tuple.__eq__» ⟨[.ref a,.ref b],[]⟩) P E s:=by
 have hTb:=hy.typeIs;obtain⟨oa,xs,na,hoa,_,hda,hia⟩:=hx;obtain⟨ob,ys,nb,hob,_,Iz,hib⟩:=hy;show wpAny _ _ (isInstance (.ref b) (.type "tuple") >>= _) _ _ s;refine ag (oT hTb yd ?_);simp only [bc,ar,if_false];refine ag (D6 hoa hda ?_);refine ag (D6 hob Iz ?_);refine ag ?_;refine lF _
  (fun rest r s'=>r.1=none/\s'=s/\∃ x' y' Nj VZ,rest=List.zip Nj VZ/\su knd s.heap x' Nj/\su knd s.heap y' VZ/\decide (x'=y')=decide (x=y)/\(Nj.length == VZ.length)=(xs.size == ys.size))
  _ ?_ ?_ _ _ ⟨rfl,rfl,x,y,xs.toList,ys.toList,rfl,hia,hib,rfl,by simp⟩
 ·rintro⟨u,v⟩ rest r s' ⟨hr,rfl,x',y',Nj,VZ,hz,Zw,Tc,R3,hlen⟩;cases Zw with
  | nil=>simp at hz
  | @cons k1 u' x'' Yx h1 Zv =>
   cases Tc with
   | nil=>simp at hz
   | @cons k2 v' y'' Yw h2 Zt =>
    simp only [pY,List.cons.injEq,Prod.mk.injEq] at hz;obtain⟨⟨rfl,rfl⟩,rfl⟩:=hz;refine ag (knd.eqBool hu h1 h2 ?_);by_cases hk:k1=k2
    ·subst hk;rw [decide_eq_true rfl];simp only [bc,ar,if_false];refine aA ⟨rfl,rfl,x'',y'',Yx,Yw,rfl,Zv,Zt,?_,by simpa using hlen⟩;rw [<-R3];by_cases VJ:x''=y''
     ·simp [VJ]
     ·simp [VJ]
    ·rw [decide_eq_false hk];simp only [eG,if_true];have hf:decide (x=y)=false:=by rw [<-R3]; simp [hk]
     rw [hf] at h;exact ag (aA (aA (aA h)))
 ·rintro⟨r1,r2⟩ s' ⟨hr,rfl,x',y',Nj,VZ,hz,Zw,Tc,R3,hlen⟩;simp only at hr;subst hr;refine aA ?_;have Z5:(xs.size == ys.size)=decide (x=y):=by
   rw [<-R3,<-hlen];cases Zw with
   | nil =>
    cases Tc with
    | nil=>simp
    | cons _ _=>simp
   | cons _ _ =>
    cases Tc with
    | nil=>simp
    | cons _ _=>simp at hz
  show P (.done (.ret (.bool (xs.size == ys.size)))) s';rw [Z5]; exact h
theorem BQ{x y:List K}{a b:Addr}{Q:Bool->az->Prop}(hu:A.units < cLine/\knd.room A.in1)(hx:sx knd s.heap x a)(hy:sx knd s.heap y b)(h:Q (decide (x=y)) s) :
  wpAny (model prog w) A (eqBool (.ref a) (.ref b)) Q E s:=by
 unfold eqBool
 try with_reducible refine eu ?_
 show wpAny _ _ (if (fV a == fV b)=true then _ else _) Q E s;by_cases Xg:(fV a == fV b)=true
 ·rw [if_pos Xg];have e:a=b:=by have:=eq_of_beq Xg; injection this
  subst e;obtain rfl:=hx.inj hy;exact ag (wpAny_rule (aA (by simpa using h)))
 ·rw [if_neg Xg];exact ag (wpAny_richCompare_same_room (op:=.Eq) hx.typeIs hy.typeIs F.slot_tuple_eq
   (cX F.slot_tuple_eq hx.typeIs F.entry_tuple_eq (IT hu.2 hx hy ⟨_,rfl,(fun e=>nomatch e),nV h⟩) (F.args_tuple_eq_2 _ _)) hu.1)
theorem yI{ks:List K}{a:Addr}{Q:Bool->az->Prop}(n:Nat)(hq:∀ (k:K) (b:Addr) (Q:Bool->az->Prop),knd.is s.heap k b->Q true s->wpAny (model prog w) A (Nc n (.ref b)) Q E s)(hk:sx knd s.heap ks a)(h:Q true s):wpAny (model prog w) A (Nc (n+1) (.ref a)) Q E s:=by
 have hT:=hk.typeIs;obtain⟨o,items,n',ho,_,hd,hi⟩:=hk;unfold Nc;refine ag (xX hT F.slot_tuple_eq.lookup ?_);show wpAny _ _ (isInstance (.ref a) (.type "tuple") >>= _) _ _ s;refine ag (oT hT yd ?_);simp only [bc,ar,if_false];refine ag (sM ho hd ?_);refine ag ?_;show wpAny _ _ (forIn items _ _) _ _ s;rw [<-yi];refine lF _ (fun rest r s'=>r.1=none/\s'=s/\∃ l,su knd s.heap l rest) _ ?_ ?_ _ _ ⟨rfl,rfl,_,hi⟩
 ·rintro v rest r s' ⟨hr,rfl,l,AN⟩;cases AN with
  | cons h1 h2 =>
   refine ag (hq _ _ _ h1 ?_);simp only [bc,ar,if_false];exact aA ⟨rfl,rfl,_,h2⟩
 ·rintro⟨r1,r2⟩ s' ⟨hr,rfl,_⟩;simp only at hr;subst hr;exact aA h
end
theorem J0{prog:bI}{w:World}{K:Type} [DecidableEq K]{knd:KeyKind prog w K}{A:dI}{E:Value->az->Prop}{s:az}{ks:List K}{a:Addr}{Q:Bool->az->Prop}(n:Nat)(hk:IsTupleKey knd s.heap ks a)(h:Q true s):wpAny (model prog w) A (Nc (n+1) (.ref a)) Q E s:=by
 have hT:=hk.typeIs;obtain⟨o,items,n',ho,_,hd,hi⟩:=hk;unfold Nc;refine ag (xX hT F.slot_tuple_eq.lookup ?_);show wpAny _ _ (isInstance (.ref a) (.type "tuple") >>= _) _ _ s;refine ag (oT hT yd ?_);simp only [bc,ar,if_false];refine ag (sM ho hd ?_);refine ag ?_;show wpAny _ _ (forIn items _ _) _ _ s;rw [<-yi];refine lF _ (fun rest r s'=>r.1=none/\s'=s/\∀ v∈rest,carriedByValue v=true) _ ?_ ?_ _ _ ⟨rfl,rfl,hi.byValue⟩
 ·rintro v rest r s' ⟨hr,rfl,AN⟩;rw [eqIsQuiet_byValue _ (AN v cp)];refine ag (aA ?_);simp only [bc,ar,if_false];exact aA ⟨rfl,rfl,fun u Kq=>AN u (aL _ Kq)⟩
 ·rintro⟨r1,r2⟩ s' ⟨hr,rfl,_⟩;simp only at hr;subst hr;exact aA h
section
variable {prog:bI} {w:World}
noncomputable def VH{K:Type} [DecidableEq K](knd:KeyKind prog w K):Ed prog w (List (List K)) where
 is:=sx (iP knd)
 hash:=CN (iP knd)
 draws:=fun ks=>k0 (iP knd) ks+1
 room:=fun A=>A.units < cLine/\(iP knd).room A.in1
 inj:=fun hx hy=>hx.inj hy
 keeps:=fun x ho hd hs=>x.keeps ho hd hs
 pyHash:=fun hu hk h=>Kt hu hk h
 eqBool:=fun hu hx hy h=>BQ hu hx hy h
 quiet:=fun hk h=>yI 7 (fun _ _ _ h1 h2=>J0 6 h1 h2) hk h
noncomputable def Y5{K:Type} [DecidableEq K](knd:KeyKind prog w K):Ed prog w (List (List (List K))) where
 is:=sx (VH knd)
 hash:=CN (VH knd)
 draws:=fun ks=>k0 (VH knd) ks+1
 room:=fun A=>A.units < cLine/\(VH knd).room A.in1
 inj:=fun hx hy=>hx.inj hy
 keeps:=fun x ho hd hs=>x.keeps ho hd hs
 pyHash:=fun hu hk h=>Kt hu hk h
 eqBool:=fun hu hx hy h=>BQ hu hx hy h
 quiet:=fun hk h=>yI 7 (fun _ _ _ h1 h2=>yI 6 (fun _ _ _ h3 h4=>J0 5 h3 h4) h1 h2) hk h
theorem LM{K:Type} [DecidableEq K]{knd:KeyKind prog w K}{A:dI}(hu:A.units+8 < cLine):(Y5 knd).room A:=by
 refine⟨?_,?_,?_⟩
 ·lia
 ·show A.units+1 < cLine; lia
 ·show A.units+1+1 < cLine; lia
theorem E6{K:Type} [DecidableEq K]{knd:KeyKind prog w K}{A:dI}(hu:A.units+8 < cLine):(Y5 knd).room A.in1:=by
 refine⟨?_,?_,?_⟩
 ·show A.units+1 < cLine; lia
 ·show A.units+1+1 < cLine; lia
 ·show A.units+1+1+1 < cLine; lia
end
section
variable {K:Type} [DecidableEq K]
noncomputable def TR(xs:List (K×Addr×Value))(k:K):List (K×Addr×Value):=xs.filter fun x=>decide (x.1≠k)
theorem Lf{xs:List (K×Addr×Value)}(hn:(xs.map (·.1)).Nodup):∀ {j:Nat} {k:K} {p:Addr×Value},xs[j]?=some (k,p)->xs.eraseIdx j=TR xs k:=by
 induction xs with
 | nil=>intro j k p h; simp at h
 | cons x r ih =>
  intro j k p h;rw [ao,a9] at hn;cases j with
  | zero =>
   simp only [aa,Lc] at h;subst h;unfold TR;rw [MR,MQ (by simp)];symm;refine List.filter_eq_self.mpr fun y hy=>?_;have:y.1≠k:=fun z=>hn.1 (List.mem_map.mpr ⟨y,hy,z⟩);simpa using this
  | succ j =>
   simp only [ae] at h;have:x.1≠k:=fun z=>hn.1 (by rw [z]; exact List.mem_map.mpr ⟨_,bx h,rfl⟩);unfold TR;rw [MS,MP (by simpa using this),ih hn.2 h];rfl
theorem Bv{α β:Type}(f:α->β):∀ (l:List α) (j:Nat),(l.eraseIdx j).map f=(l.map f).eraseIdx j
 | [],_=>rfl
 | _ :: _,0=>rfl
 | a :: l,j+1=>congrArg (f a :: ·) (Bv f l j)
end
section
variable {prog:bI} {w:World} {K:Type} [DecidableEq K] {knd:Ed prog w K} {A:dI} {E:Value->az->Prop} {s:az}
theorem Cu{d a:Addr}{xs:List (K×Addr×Value)}{k:K}{p:Addr×Value}{Q:Option fE->az->Prop}(hu:knd.room A)(R1:knd.is s.heap k a)(hm:s.heap.DictOfH knd d xs)(hp:atKey xs k=some p)(hsz:xs.length<=aZ)
  (hQ:∀ e:fE,e.val=p.2->∀ h',h'.DictOfH knd d (TR xs k)->fL d s.heap h'->Q (some e) { s with heap:=h',toks:=s.toks+knd.draws k }) :
  wpAny (model prog w) A (Eg d (.ref a)) Q E s:=by
 obtain⟨o,es,ep,ho,hc,hd,he,ZY,hn⟩:=hm;unfold Eg
 try with_reducible refine eu ?_
 refine ag (knd.pyHash hu R1 (ag (wpAny_dictFind_heap (s:={ s with toks:=s.toks+knd.draws k }) hu R1 ho hd he ZY hn ?_ ?_)))
 ·intro U0;rw [atKey_none_of_get U0] at hp; cases hp
 ·intro j q hj;rw [atKey_of_get hn hj] at hp;cases hp;refine ag (gN (s:={ s with toks:=s.toks+knd.draws k }) ho hd ?_);rw [entry_at he j,hj]
  refine ag (wpAny_updateDictKeys (hz:=by have e:=size_of_entries he; lia) (s:={ s with toks:=s.toks+knd.draws k }) ho hd (aA (hQ _ rfl _ ⟨_,_,ep+1,jE _ ho (Obj.isFreed_of_dict (Obj.data_mapDictKeys hd _)),
   hc.mapDictKeys _,Obj.data_mapDictKeys hd _,?_,?_,?_⟩ (jF ..))))
  ·rw [<-Lf hn hj,Bv,<-he];obtain⟨l⟩:=es;simp
  ·intro x hx;exact knd.keeps (ZY x (List.mem_filter.mp hx).1) ho hd (jF ..)
  ·exact nq (lL _ iO) hn
theorem Og{d a:Addr}{xs:List (K×Addr×Value)}{k:K}{p:Addr×Value}{Q:Value->az->Prop}(hu:knd.room A.in1)(R1:knd.is s.heap k a)(hm:s.heap.DictOfH knd d xs)(hp:atKey xs k=some p)(hsz:xs.length<=aZ)
  (hQ:∀ h',h'.DictOfH knd d (TR xs k)->fL d s.heap h'->Q p.2 { s with heap:=h',toks:=s.toks+knd.draws k }) :
  wpAny (model prog w) A (call (.builtin "dict.pop") [.ref d,.ref a]) Q E s:=by
 have hT:s.TypeIs (.ref d) "dict":=by obtain⟨o,es,ep,ho,hc,_⟩:=hm; exact⟨o,ho,hc.1⟩
 refine cX sN hT PySem.F.entry_dict_pop ?_ (PySem.F.args_dict_pop_2 _ _);unfold Builtin.«dict.pop»;refine ag ?_;unfold Builtin.Dict.keyAndDefault;refine ag (xY hT ?_);show wpAny _ _ (pure (d,fV a,none)) _ _ s;refine aA ?_;have ZU:=hm;obtain⟨o,es,ep,ho,hc,hd,he,ZY,hn⟩:=ZU;have oA:es.isEmpty=false:=by
  have:xs≠[]:=by rintro rfl; cases hp
  have h2:=size_of_entries he;have h3:0 < xs.length:=List.length_pos_iff.mpr this;rw [Array.isEmpty_eq_false_iff];rintro rfl;simp at h2; lia
 simp only [keyPart,Option.isSome_none,ar,if_false];refine ag (gN ho hd (ag (aA ?_)));rw [oA,if_neg gZ];refine ag (Cu hu R1 hm hp hsz fun e hv h' ZU Te=>?_);simp only [Option.isNone_some,ar,if_false];exact ag (vo (aA ⟨e.val,rfl,by rw [hv]; exact hQ h' ZU Te⟩))
end
end K2
end
section
namespace K2
open PySem PySem.Spec PyProof.Rows L2
noncomputable def VW(K:au)(H:Hp)(a:Addr)(xs:List V):Prop :=
 (∃ o,H a=some (.ja o (.lst xs))) \/
  ∃ (o:Obj) (bH:Array Value) (n:Nat),K.lookup a=some o/\o.cls=.type "list"/\o.dict=none/\o.data=.seq bH n/\bH.size<=aZ/\Vals xs bH.toList
theorem VW.sq{K:au}{H:Hp}{a:Addr}{xs:List V}(h:VW K H a xs):oS K H a xs:=by
 rcases h with ⟨o,h⟩ | h
 ·exact .inl (.inr ⟨o,h⟩)
 ·exact .inr h
noncomputable def eC:Key->D
 | .inl i=>.int i
 | .inr x=>.str x
noncomputable def ExcAt(K:au)(H:Hp)(a:Addr)(c:Str):Prop:=∃ (o:Obj) (C:Addr),H a=some (.ja o (.ext fun h=>h.get? a=some o))/\o.cls=.ref C/\gf K bW c=some (some (.ref C))
noncomputable def K7(K:au)(H:Hp)(a:Addr)(c:Str)(ns:List Str)(vs:List V):Prop:=∃ (o:Obj) (C dx:Addr) (od:Obj) (fs:List (Str×V)),H a=some (.ja o (.ext fun h=>h.get? a=some o))/\o.cls=.ref C/\gf K bW c=some (some (.ref C))/\o.dict=some dx/\H dx=some (.ja od (.xd fs))/\PySem.W.notCls o=true/\fs.map (·.1)=ns/\fs.map (·.2)=vs
noncomputable def ZI(hs:List Int):Int:=reduceHash (dU hs)
noncomputable def hP(k:PK):Int:=ZI (k.map fun r=>ZI (r.map fun t=>ZI (t.map hashInt)))
noncomputable def Jj(a:Addr)(xs:List (PK×Addr×Value))(h:Heap):Prop:=xs.length<=aZ/\(a == da)=false/\∃ (o:Obj) (es:Array fE) (ep:Nat),h.get? a=some o/\o.ExactDict/\o.data=.dict es ep/\es.toList=xs.map (fun x=>⟨hP x.1,.ref x.2.1,x.2.2⟩)/\(xs.map (·.1)).Nodup
noncomputable def Sz(kvs:List (PK×D))(ks vs:List V)(xs:List (PK×Addr×Value)):Prop:=kvs.map (fun p=>p.1)=xs.map (fun x=>x.1)/\ks=xs.map (fun x=>V.ref x.2.1)/\Vals vs (xs.map fun x=>x.2.2)
mutual
inductive bX (K:au) (H:Hp):V->D->Prop
 | eQ:bX K H .eQ .eQ
 | bl (b:Bool):bX K H (.bl b) (.bl b)
 | int (i:Int):bX K H (.int i) (.int i)
 | str (x:Str):bX K H (.str x) (.str x)
 | tup {a:Addr} {vs:List V} {ds:List D}:H a=some (.tup vs)->bg K H vs ds->bX K H (.ref a) (.tup ds)
 | cY {a:Addr} {vs:List V} {ds:List D}:VW K H a vs->bg K H vs ds->bX K H (.ref a) (.cY ds)
 | oj {a:Addr} {o:Obj} {kv:List (Key×V)} {kvs:List (D×D)}:H a=some (.ja o (.dK kv))->lN K H kv kvs->bX K H (.ref a) (.j8 kvs)
 | oi {a:Addr} {o:Obj} {kv:List (List Key×V)} {kvs:List (D×D)}:H a=some (.ja o (.dT kv))->my K H kv kvs->bX K H (.ref a) (.j8 kvs)
 | ref (a:Addr):bX K H (.ref a) (.ref a)
 | exc {a:Addr} {c:Str}:ExcAt K H a c->bX K H (.ref a) (.exc c)
 | FZ {a:Addr} {c:Str} {ns:List Str} {vs:List V} {ds:List D}:K7 K H a c ns vs->bg K H vs ds->bX K H (.ref a) (.FZ c ns ds)
 | oF {a:Addr} {o:Obj} {xs:List (PK×Addr×Value)} {ks vs:List V} {kvs:List (PK×D)}:H a=some (.ja o (.ext (Jj a xs)))->Sz kvs ks vs xs->bg K H ks (kvs.map fun p=>pM p.1)->bg K H vs (kvs.map fun p=>p.2)->bX K H (.ref a) (.oF kvs)
inductive bg (K:au) (H:Hp):List V->List D->Prop
 | nil:bg K H [] []
 | cons {v:V} {d:D} {vs:List V} {ds:List D}:bX K H v d->bg K H vs ds->bg K H (v :: vs) (d :: ds)
inductive lN (K:au) (H:Hp):List (Key×V)->List (D×D)->Prop
 | nil:lN K H [] []
 | cons {k:Key} {v:V} {d:D} {r:List (Key×V)} {t:List (D×D)}:bX K H v d->lN K H r t->lN K H ((k,v) :: r) ((eC k,d) :: t)
inductive my (K:au) (H:Hp):List (List Key×V)->List (D×D)->Prop
 | nil:my K H [] []
 | cons {k:List Key} {v:V} {d:D} {r:List (List Key×V)} {t:List (D×D)}:bX K H v d->my K H r t->my K H ((k,v) :: r) ((.tup (k.map eC),d) :: t)
end
structure Kp(H H':Hp):Prop where
 tup:∀ a xs,H a=some (.tup xs)->H' a=some (.tup xs)
 ja:∀ a o u,H a=some (.ja o u)->H' a=some (.ja o u)
theorem Kp.refl(H:Hp):Kp H H:=⟨fun _ _ h=>h,fun _ _ _ h=>h⟩
theorem Kp.trans{H H1 H2:Hp}(a:Kp H H1)(b:Kp H1 H2):Kp H H2:=⟨fun c xs h=>b.tup c xs (a.tup c xs h),fun c o u h=>b.ja c o u (a.ja c o u h)⟩
theorem Kp.sqT{K:au}{H H':Hp}{a:Addr}{xs:List V}(k:Kp H H')(h:xU K H a xs):xU K H' a xs:=by
 rcases h with (h | ⟨o,h⟩) | h
 ·exact .inl (.inl (k.tup _ _ h))
 ·exact .inl (.inr ⟨o,k.ja _ _ _ h⟩)
 ·exact .inr h
theorem Kp.Uc{K:au}{H H':Hp}{a:Addr}{xs:List V}(k:Kp H H')(h:VW K H a xs):VW K H' a xs:=by
 rcases h with ⟨o,h⟩ | h
 ·exact .inl ⟨o,k.ja _ _ _ h⟩
 ·exact .inr h
theorem ExcAt.mono{K:au}{H H':Hp}(k:Kp H H'){a:Addr}{c:Str}(h:ExcAt K H a c):ExcAt K H' a c :=
 let ⟨o,C,h1,h2,h3⟩:=h
 ⟨o,C,k.ja _ _ _ h1,h2,h3⟩
theorem K7.mono{K:au}{H H':Hp}(k:Kp H H'){a:Addr}{c:Str}{ns:List Str}{vs:List V}(h:K7 K H a c ns vs):K7 K H' a c ns vs :=
 let ⟨o,C,dx,od,fs,h1,h2,h3,h4,h5,h6⟩:=h
 ⟨o,C,dx,od,fs,k.ja _ _ _ h1,h2,h3,h4,k.ja _ _ _ h5,h6⟩
theorem bg.Iu{K:au}{H:Hp}{P:List V->List D->Prop}(h0:P [] [])(h1:∀ {v:V} {d:D} {vs:List V} {ds:List D},bX K H v d->bg K H vs ds->P vs ds->P (v :: vs) (d :: ds)){vs:List V}{ds:List D}(h:bg K H vs ds):P vs ds :=
 bg.rec (motive_1:=fun _ _ _=>True) (motive_2:=fun vs ds _=>P vs ds) (motive_3:=fun _ _ _=>True) (motive_4:=fun _ _ _=>True) trivial (fun _=>trivial) (fun _=>trivial) (fun _=>trivial) (fun _ _ _=>trivial) (fun _ _ _=>trivial) (fun _ _ _=>trivial) (fun _ _ _=>trivial) (fun _=>trivial) (fun _=>trivial) (fun _ _ _=>trivial) (fun _ _ _ _ _ _=>trivial) h0 (fun a b _ ih=>h1 a b ih) trivial (fun _ _ _ _=>trivial) trivial (fun _ _ _ _=>trivial) h
theorem bX.mono{K:au}{H H':Hp}(k:Kp H H'):∀ {v:V} {d:D},bX K H v d->bX K H' v d:=fun h =>
 bX.rec (motive_1:=fun v d _=>bX K H' v d) (motive_2:=fun v d _=>bg K H' v d) (motive_3:=fun v d _=>lN K H' v d) (motive_4:=fun v d _=>my K H' v d)
  .eQ .bl .int .str (fun h _ r=>.tup (k.tup _ _ h) r) (fun h _ r=>.cY (k.Uc h) r) (fun h _ r=>.oj (k.ja _ _ _ h) r) (fun h _ r=>.oi (k.ja _ _ _ h) r) .ref (fun h=>.exc (h.mono k)) (fun h _ r=>.FZ (h.mono k) r) (fun h z _ _ r1 r2=>.oF (k.ja _ _ _ h) z r1 r2) .nil (fun _ _ a b=>.cons a b) .nil (fun _ _ a b=>.cons a b) .nil (fun _ _ a b=>.cons a b) h
theorem bg.mono{K:au}{H H':Hp}(k:Kp H H'){v:List V}{d:List D}(h:bg K H v d):bg K H' v d :=
 bg.Iu (P:=fun v d=>bg K H' v d) .nil (fun r _ ih=>.cons (r.mono k) ih) h
theorem lN.mono{K:au}{H H':Hp}(k:Kp H H'){v:List (Key×V)}{d:List (D×D)}(h:lN K H v d):lN K H' v d :=
 lN.rec (motive_1:=fun v d _=>bX K H' v d) (motive_2:=fun v d _=>bg K H' v d) (motive_3:=fun v d _=>lN K H' v d) (motive_4:=fun v d _=>my K H' v d)
  .eQ .bl .int .str (fun h _ r=>.tup (k.tup _ _ h) r) (fun h _ r=>.cY (k.Uc h) r) (fun h _ r=>.oj (k.ja _ _ _ h) r) (fun h _ r=>.oi (k.ja _ _ _ h) r) .ref (fun h=>.exc (h.mono k)) (fun h _ r=>.FZ (h.mono k) r) (fun h z _ _ r1 r2=>.oF (k.ja _ _ _ h) z r1 r2) .nil (fun _ _ a b=>.cons a b) .nil (fun _ _ a b=>.cons a b) .nil (fun _ _ a b=>.cons a b) h
theorem my.mono{K:au}{H H':Hp}(k:Kp H H'){v:List (List Key×V)}{d:List (D×D)}(h:my K H v d):my K H' v d :=
 my.rec (motive_1:=fun v d _=>bX K H' v d) (motive_2:=fun v d _=>bg K H' v d) (motive_3:=fun v d _=>lN K H' v d) (motive_4:=fun v d _=>my K H' v d)
  .eQ .bl .int .str (fun h _ r=>.tup (k.tup _ _ h) r) (fun h _ r=>.cY (k.Uc h) r) (fun h _ r=>.oj (k.ja _ _ _ h) r) (fun h _ r=>.oi (k.ja _ _ _ h) r) .ref (fun h=>.exc (h.mono k)) (fun h _ r=>.FZ (h.mono k) r) (fun h z _ _ r1 r2=>.oF (k.ja _ _ _ h) z r1 r2) .nil (fun _ _ a b=>.cons a b) .nil (fun _ _ a b=>.cons a b) .nil (fun _ _ a b=>.cons a b) h
theorem bg.length{K:au}{H:Hp}:∀ {vs:List V} {ds:List D},bg K H vs ds->vs.length=ds.length:=fun h =>
 bg.Iu (P:=fun vs ds=>vs.length=ds.length) rfl (fun _ _ ih=>congrArg (· + 1) ih) h
theorem bg.get{K:au}{H:Hp}:∀ {vs:List V} {ds:List D} {i:Nat} {d:D},bg K H vs ds->ds[i]?=some d->∃ v,vs[i]?=some v/\bX K H v d:=by
 intro vs ds i d h;refine bg.Iu (P:=fun vs ds=>∀ (i:Nat) (d:D),ds[i]?=some d->∃ v,vs[i]?=some v/\bX K H v d) (fun i d e=>by cases e) (fun r _ ih i d e=>?_) h i d;cases i with
 | zero=>cases e; exact⟨_,rfl,r⟩
 | succ i=>exact ih i d e
theorem bg.append{K:au}{H:Hp}:∀ {vs ws:List V} {ds es:List D},bg K H vs ds->bg K H ws es->bg K H (vs++ws) (ds++es):=fun {_ ws _ es} h s =>
 bg.Iu (P:=fun vs ds=>bg K H (vs++ws) (ds++es)) s (fun r _ ih=>.cons r ih) h
theorem bg.take{K:au}{H:Hp}:∀ {vs:List V} {ds:List D} (n:Nat),bg K H vs ds->bg K H (vs.take n) (ds.take n):=fun {_ _} n h =>
 bg.Iu (P:=fun vs ds=>∀ n,bg K H (vs.take n) (ds.take n)) (fun n=>by rw [Am,Am]; exact .nil) (fun r _ ih n=>by
  cases n with
  | zero=>exact .nil
  | succ n=>exact .cons r (ih n)) h n
theorem bg.drop{K:au}{H:Hp}:∀ {vs:List V} {ds:List D} (n:Nat),bg K H vs ds->bg K H (vs.drop n) (ds.drop n):=fun {_ _} n h =>
 bg.Iu (P:=fun vs ds=>∀ n,bg K H (vs.drop n) (ds.drop n)) (fun n=>by rw [As,As]; exact .nil) (fun r t ih n=>by
  cases n with
  | zero=>exact .cons r t
  | succ n=>exact ih n) h n
theorem bg.set{K:au}{H:Hp}{v:V}{d:D}(r:bX K H v d):∀ {vs:List V} {ds:List D} (i:Nat),bg K H vs ds->bg K H (vs.set i v) (ds.set i d):=fun {_ _} i h =>
 bg.Iu (P:=fun vs ds=>∀ i,bg K H (vs.set i v) (ds.set i d)) (fun i=>by rw [Ci,Ci]; exact .nil) (fun q t ih i=>by
  cases i with
  | zero=>exact .cons r t
  | succ i=>exact .cons q (ih i)) h i
theorem bg.one{K:au}{H:Hp}:∀ {vs:List V} {d:D},bg K H vs [d]->∃ v,vs=[v]/\bX K H v d:=by
 intro vs d h;cases h with
 | cons r t=>cases t; exact⟨_,rfl,r⟩
theorem bg.two{K:au}{H:Hp}:∀ {vs:List V} {d e:D},bg K H vs [d,e]->∃ v u,vs=[v,u]/\bX K H v d/\bX K H u e:=by
 intro vs d e h;cases h with
 | cons r t =>
  obtain⟨u,rfl,q⟩:=bg.one t;exact⟨_,_,rfl,r,q⟩
theorem bg.zero{K:au}{H:Hp}:∀ {vs:List V},bg K H vs []->vs=[]
 | _,.nil=>rfl
theorem bg.ints{K:au}{H:Hp}:∀ {vs:List V} {ns:List Int},bg K H vs (ns.map D.int)->vs=ns.map V.int:=by
 intro vs ns;induction ns generalizing vs with
 | nil=>intro h; exact h.zero
 | cons n ns ih =>
  intro h;cases h with
  | cons r t =>
   cases r;rw [ih t]; rfl
theorem bg.Kb{K:au}{H:Hp}:∀ (ns:List Int),bg K H (ns.map V.int) (ns.map D.int)
 | []=>.nil
 | n :: ns=>.cons (.int n) (bg.Kb ns)
theorem lN.ind{K:au}{H:Hp}{motive:∀ (kv:List (Key×V)) (kvs:List (D×D)),lN K H kv kvs->Prop}(nil:motive [] [] .nil)
  (cons:∀ {k:Key} {v:V} {d:D} {r:List (Key×V)} {t:List (D×D)} (re:bX K H v d) (rs:lN K H r t),motive r t rs->motive ((k,v) :: r) ((eC k,d) :: t) (.cons re rs)):∀ {kv:List (Key×V)} {kvs:List (D×D)} (h:lN K H kv kvs),motive kv kvs h:=fun h =>
 lN.rec (motive_1:=fun _ _ _=>True) (motive_2:=fun _ _ _=>True) (motive_3:=motive) (motive_4:=fun _ _ _=>True) trivial (fun _=>trivial) (fun _=>trivial) (fun _=>trivial) (fun _ _ _=>trivial) (fun _ _ _=>trivial) (fun _ _ _=>trivial) (fun _ _ _=>trivial) (fun _=>trivial) (fun _=>trivial) (fun _ _ _=>trivial) (fun _ _ _ _ _ _=>trivial) trivial (fun _ _ _ _=>trivial) nil (fun a b _ ih=>cons a b ih) trivial (fun _ _ _ _=>trivial) h
theorem my.ind{K:au}{H:Hp}{motive:∀ (kv:List (List Key×V)) (kvs:List (D×D)),my K H kv kvs->Prop}(nil:motive [] [] .nil)
  (cons:∀ {k:List Key} {v:V} {d:D} {r:List (List Key×V)} {t:List (D×D)} (re:bX K H v d) (rs:my K H r t),motive r t rs->motive ((k,v) :: r) ((.tup (k.map eC),d) :: t) (.cons re rs)):∀ {kv:List (List Key×V)} {kvs:List (D×D)} (h:my K H kv kvs),motive kv kvs h:=fun h =>
 my.rec (motive_1:=fun _ _ _=>True) (motive_2:=fun _ _ _=>True) (motive_3:=fun _ _ _=>True) (motive_4:=motive) trivial (fun _=>trivial) (fun _=>trivial) (fun _=>trivial) (fun _ _ _=>trivial) (fun _ _ _=>trivial) (fun _ _ _=>trivial) (fun _ _ _=>trivial) (fun _=>trivial) (fun _=>trivial) (fun _ _ _=>trivial) (fun _ _ _ _ _ _=>trivial) trivial (fun _ _ _ _=>trivial) trivial (fun _ _ _ _=>trivial) nil (fun a b _ ih=>cons a b ih) h
theorem lN.length{K:au}{H:Hp}:∀ {v:List (Key×V)} {d:List (D×D)},lN K H v d->v.length=d.length:=fun h =>
 lN.ind (motive:=fun v d _=>v.length=d.length) rfl (fun _ _ ih=>congrArg (· + 1) ih) h
theorem my.length{K:au}{H:Hp}:∀ {v:List (List Key×V)} {d:List (D×D)},my K H v d->v.length=d.length:=fun h =>
 my.ind (motive:=fun v d _=>v.length=d.length) rfl (fun _ _ ih=>congrArg (· + 1) ih) h
noncomputable def Ha(K:au)(H:Hp)(a:Addr):GO->Prop
 | .lst ds=>∃ vs,H a=some (.lst vs)/\bg K H vs ds
 | .gK kvs=>(∃ kv,H a=some (.dK kv)/\lN K H kv kvs)\/∃ kv,H a=some (.dT kv)/\my K H kv kvs
 | .ins c fs=>∃ C dx fv,H a=some (.ins C dx fv)/\gf K bW c=some (some (.ref C))/\fv.map (·.1)=fs.map (·.1)/\bg K H (fv.map (·.2)) (fs.map (·.2))
 | .qh kvs=>∃ xs ks vs,H a=some (.ext (Jj a xs))/\Sz kvs ks vs xs/\bg K H ks (kvs.map fun p=>pM p.1)/\bg K H vs (kvs.map fun p=>p.2)
noncomputable def lE(K:au)(H:Hp)(G:Gp):Prop:=∀ a g,G a=some g->Ha K H a g
theorem Ha.dk{K:au}{H:Hp}{a:Addr}{kv:List (Key×V)}{kvs:List (D×D)}(h:H a=some (.dK kv))(r:lN K H kv kvs):Ha K H a (.gK kvs):=.inl ⟨kv,h,r⟩
theorem Ha.dt{K:au}{H:Hp}{a:Addr}{kv:List (List Key×V)}{kvs:List (D×D)}(h:H a=some (.dT kv))(r:my K H kv kvs):Ha K H a (.gK kvs):=.inr ⟨kv,h,r⟩
theorem Ha.mono{K:au}{H H':Hp}{a:Addr}{g:GO}(k:Kp H H')(e:H' a=H a)(h:Ha K H a g):Ha K H' a g:=by
 cases g with
 | lst ds=>obtain⟨vs,q,r⟩:=h; exact⟨vs,e.trans q,r.mono k⟩
 | ins c fs=>obtain⟨C,dx,fv,q,h1,h2,r⟩:=h; exact⟨C,dx,fv,e.trans q,h1,h2,r.mono k⟩
 | qh kvs=>obtain⟨xs,ks,vs,q,h1,r1,r2⟩:=h; exact⟨xs,ks,vs,e.trans q,h1,r1.mono k,r2.mono k⟩
 | gK kvs =>
  rcases h with ⟨kv,q,r⟩ | ⟨kv,q,r⟩
  ·exact .inl ⟨kv,e.trans q,r.mono k⟩
  ·exact .inr ⟨kv,e.trans q,r.mono k⟩
theorem Ha.tracked{K:au}{H:Hp}{a:Addr}{g:GO}(h:Ha K H a g):H a≠none:=by
 cases g with
 | lst ds=>obtain⟨vs,q,r⟩:=h; rw [q]; simp
 | ins c fs=>obtain⟨C,dx,fv,q,_⟩:=h; rw [q]; simp
 | qh kvs=>obtain⟨xs,ks,vs,q,_⟩:=h; rw [q]; simp
 | gK kvs =>
  rcases h with ⟨kv,q,r⟩ | ⟨kv,q,r⟩
  ·rw [q]; simp
  ·rw [q]; simp
theorem lE.free{K:au}{H:Hp}{G:Gp}{a:Addr}(h:lE K H G)(e:H a=none):G a=none:=by
 cases q:G a with
 | none=>rfl
 | some g=>exact absurd e (h a g q).tracked
theorem lE.Wv{K:au}{H:Hp}{G:Gp}{a:Addr}{xs:List V}(h:lE K H G)(e:H a=some (.tup xs)):G a=none:=by
 cases q:G a with
 | none=>rfl
 | some g =>
  have z:=h a g q;cases g with
  | lst ds=>obtain⟨vs,q,r⟩:=z; rw [e] at q; cases q
  | ins c fs=>obtain⟨C,dx,fv,q,_⟩:=z; rw [e] at q; cases q
  | qh kvs=>obtain⟨xs,ks,vs,q,_⟩:=z; rw [e] at q; cases q
  | gK kvs =>
   rcases z with ⟨kv,q,r⟩ | ⟨kv,q,r⟩
   ·rw [e] at q; cases q
   ·rw [e] at q; cases q
theorem lE.Ww{K:au}{H:Hp}{G:Gp}{a:Addr}{o:Obj}{u:HO}(h:lE K H G)(e:H a=some (.ja o u)):G a=none:=by
 cases q:G a with
 | none=>rfl
 | some g =>
  have z:=h a g q;cases g with
  | lst ds=>obtain⟨vs,q,r⟩:=z; rw [e] at q; cases q
  | ins c fs=>obtain⟨C,dx,fv,q,_⟩:=z; rw [e] at q; cases q
  | qh kvs=>obtain⟨xs,ks,vs,q,_⟩:=z; rw [e] at q; cases q
  | gK kvs =>
   rcases z with ⟨kv,q,r⟩ | ⟨kv,q,r⟩
   ·rw [e] at q; cases q
   ·rw [e] at q; cases q
structure Mv(K:au)(H:Hp)(G:Gp)(H':Hp)(G':Gp):Prop where
 keep:∀ a o,H a=some o->G a=none->H' a=some o/\G' a=none
 mi:∀ a,G a≠none->H' a≠none
 ab:lE K H' G'
theorem Mv.refl{K:au}{H:Hp}{G:Gp}(h:lE K H G):Mv K H G H G:=⟨fun _ _ e n=>⟨e,n⟩,fun a n=>by
 cases q:G a with
 | none=>exact absurd q n
 | some g=>exact(h a g q).tracked,h⟩
theorem Mv.trans{K:au}{H H1 H2:Hp}{G G1 G2:Gp}(a:Mv K H G H1 G1)(b:Mv K H1 G1 H2 G2):Mv K H G H2 G2 :=
 ⟨fun c o e n=>let ⟨e1,n1⟩:=a.keep c o e n; b.keep c o e1 n1,fun c n=>by
  have h1:=a.mi c n;cases q:G1 c with
  | some g=>exact b.mi c (by rw [q]; simp)
  | none =>
   cases q1:H1 c with
   | none=>exact absurd q1 h1
   | some o=>rw [(b.keep c o q1 q).1]; simp,b.ab⟩
theorem Mv.kp{K:au}{H H':Hp}{G G':Gp}(m:Mv K H G H' G')(h:lE K H G):Kp H H' :=
 ⟨fun a xs e=>(m.keep a _ e (h.Wv e)).1,fun a o u e=>(m.keep a _ e (h.Ww e)).1⟩
theorem Kp.new{H:Hp}{p:Addr}{o:HO}(hp:H p=none):Kp H (upd H p o):=⟨fun a xs e=>by rw [bO (dQ e hp)]; exact e,fun a ob u e=>by rw [bO (dQ e hp)]; exact e⟩
theorem Kp.putL{H:Hp}{p:Addr}{xs:List V}{o:HO}(hp:H p=some (.lst xs)):Kp H (upd H p o) :=
 ⟨fun a ys e=>by rw [bO (by rintro rfl; rw [hp] at e; cases e)]; exact e,fun a ob u e=>by rw [bO (by rintro rfl; rw [hp] at e; cases e)]; exact e⟩
theorem Mv.new{K:au}{H:Hp}{G:Gp}{p:Addr}{o:HO}{g:GO}(h:lE K H G)(hp:H p=none)(ho:Ha K (upd H p o) p g):Mv K H G (upd H p o) (eA G p g) where
 keep:=fun a ob e n=>by
  have ne:=dQ e hp;exact⟨by rw [bO ne]; exact e,by rw [cu ne]; exact n⟩
 mi:=fun a n=>by
  have ne:a≠p:=by rintro rfl; exact n (h.free hp)
  rw [bO ne];exact(Mv.refl h).mi a n
 ab:=fun a g' e=>by
  by_cases ha:a=p
  ·subst ha; rw [ay] at e; cases e; exact ho
  ·rw [cu ha] at e;exact(h a g' e).mono (.new hp) (bO ha)
theorem Mv.Mf{K:au}{H:Hp}{G:Gp}{p:Addr}{o:HO}(h:lE K H G)(hp:H p=none):Mv K H G (upd H p o) G where
 keep:=fun a ob e n=>⟨by rw [bO (dQ e hp)]; exact e,n⟩
 mi:=fun a n=>by
  have ne:a≠p:=by rintro rfl; exact n (h.free hp)
  rw [bO ne];exact(Mv.refl h).mi a n
 ab:=fun a g' e=>by
  have ne:a≠p:=by rintro rfl; rw [h.free hp] at e; cases e
  exact(h a g' e).mono (.new hp) (bO ne)
theorem Mv.put{K:au}{H:Hp}{G:Gp}{p:Addr}{o:HO}{g g0:GO}(h:lE K H G)(hg:G p=some g0)(k:Kp H (upd H p o))(ho:Ha K (upd H p o) p g):Mv K H G (upd H p o) (eA G p g) where
 keep:=fun a ob e n=>by
  have ne:a≠p:=by rintro rfl; rw [hg] at n; cases n
  exact⟨by rw [bO ne]; exact e,by rw [cu ne]; exact n⟩
 mi:=fun a n=>by
  by_cases ha:a=p
  ·subst ha; rw [bU]; simp
  ·rw [bO ha]; exact(Mv.refl h).mi a n
 ab:=fun a g' e=>by
  by_cases ha:a=p
  ·subst ha; rw [ay] at e; cases e; exact ho
  ·rw [cu ha] at e;exact(h a g' e).mono k (bO ha)
theorem lE.lst{K:au}{H:Hp}{G:Gp}{a:Addr}{ds:List D}(h:lE K H G)(e:G a=some (.lst ds)):∃ vs,H a=some (.lst vs)/\bg K H vs ds:=h a _ e
theorem Mv.Ia{K:au}{H:Hp}{G:Gp}{p:Addr}{vs:List V}{ds:List D}(h:lE K H G)(hp:H p=none)(r:bg K H vs ds):Mv K H G (upd H p (.lst vs)) (eA G p (.lst ds)) :=
 .new h hp ⟨vs,bU,r.mono (.new hp)⟩
theorem Mv.putL{K:au}{H:Hp}{G:Gp}{p:Addr}{vs0 vs:List V}{ds0 ds:List D}(h:lE K H G)(hg:G p=some (.lst ds0))(hp:H p=some (.lst vs0))(r:bg K H vs ds):Mv K H G (upd H p (.lst vs)) (eA G p (.lst ds)) :=
 .put h hg (.putL hp) ⟨vs,bU,r.mono (.putL hp)⟩
structure QL(K:au)(H:Hp)(σ:L2.St)(τ:iN):Prop where
 len:σ.length=τ.length
 at':∀ (i:Nat) (d:D),τ[i]?=some (some d)->∃ v,σ[i]?=some (some v)/\bX K H v d
theorem QL.mono{K:au}{H H':Hp}{σ:L2.St}{τ:iN}(k:Kp H H')(a:QL K H σ τ):QL K H' σ τ :=
 ⟨a.len,fun i d e=>let ⟨v,h1,h2⟩:=a.at' i d e; ⟨v,h1,h2.mono k⟩⟩
theorem QL.set{K:au}{H:Hp}{σ:L2.St}{τ:iN}{v:V}{d:D}(a:QL K H σ τ)(i:Nat)(r:bX K H v d):QL K H (σ.set i (some v)) (τ.set i (some d)):=by
 refine⟨by rw [eE,eE]; exact a.len,fun j e h=>?_⟩;by_cases hj:i=j
 ·subst hj;by_cases hi:i < τ.length
  ·rw [cO hi] at h;cases h;exact⟨v,by rw [cO (by rw [a.len]; exact hi)],r⟩
  ·rw [List.set_eq_of_length_le (by lia)] at h;rw [vh (by lia)] at h;cases h
 ·rw [dw hj] at h;obtain⟨w,h1,h2⟩:=a.at' j e h;exact⟨w,by rw [dw hj]; exact h1,h2⟩
structure I2(X:Cx)(pins:List (Addr×Obj))(σ:L2.St)(H:Hp)(τ:iN)(G:Gp)(s:az):Prop where
 inv:Inv X pins σ H s
 st:QL X.K H σ τ
 ab:lE X.K H G
theorem I2.mv{X:Cx}{pins:List (Addr×Obj)}{σ:L2.St}{H H':Hp}{τ:iN}{G G':Gp}{s s':az}(I:I2 X pins σ H τ G s)(I':Inv X pins σ H' s')(m:Mv X.K H G H' G'):I2 X pins σ H' τ G' s' :=
 ⟨I',I.st.mono (m.kp I.ab),m.ab⟩
noncomputable def CXe(P:bI)(w:World):K8:=fun outer H s E e s'=>∃ (a C t:Addr) (B:Heap) (H':Hp),e=.ref a/\s'.os=s.os/\Cm s'.gens/\Un (M3 outer) [] H H' s.heap s'.heap/\pV P w H' s'.heap /\
 (∀ b o,s'.heap.get? b=some o->b∉M3 outer->(s.heap.get? b≠none\/H' b≠none)->B.get? b=some o)/\PySem.Heap.FlyingW B outer a (.ref C) (.ref t) s'.heap/\H' a=none/\s.heap.get? a=none/\E (.ref C) none H'
noncomputable def exK(K:au)(mg:Str->Option Value)(E:mG):XK:=fun cls _ H=>∃ (ex:Ex) (C:Addr) (G:Gp),cls=.ref C/\mg ex.cls=some (.ref C)/\lE K H G/\E ex G
structure Lk(X:Cx)(E:mG):Prop where
 made:∀ (pins:List (Addr×Obj)) (σ:L2.St) (H:Hp) (s:az) (h1:Heap) (a C:Addr) (args:List Value) (ex:Ex) (G:Gp),Inv X pins σ H s->lE X.K H G->PySem.Heap.MadeExcOf s.heap h1 a (.ref C) args->X.mg ex.cls=some (.ref C)->E ex G->X.xe (.ref a) { s with heap:=h1 }
 pass:∀ (pins:List (Addr×Obj)) (σ:L2.St) (H:Hp) (s s':az) (e:Value),Inv X pins σ H s->CXe X.prog X.w X.stack H s (exK X.K X.mg E) e s'->X.xe e s'
theorem Lk.none{X:Cx}{E:mG}(h:∀ ex G,¬ E ex G):Lk X E where
 made:=fun _ _ _ _ _ _ _ _ ex _ _ _ _ _ z=>absurd z (h ex _)
 pass:=fun _ _ _ _ _ _ _ hc=>by
  obtain⟨_,_,_,_,_,_,_,_,_,_,_,_,_,_,hz⟩:=hc;obtain⟨ex,_,_,_,_,_,z⟩:=hz;exact absurd z (h ex _)
inductive r8 (X:Cx) (pins:List (Addr×Obj)) (σ:L2.St) (H:Hp) (G:Gp) (Q:DK) (u:Value) (s':az):Prop
 | mk (v:V) (H':Hp) (d:D) (G':Gp) (i:Inv X pins σ H' s') (m:Mv X.K H G H' G') (r:RelV v u) (rd:bX X.K H' v d) (q:Q d G'):r8 X pins σ H G Q u s'
inductive VU (X:Cx) (pins:List (Addr×Obj)) (σ:L2.St) (H:Hp) (G:Gp) (Q:Bool->Gp->Prop) (b:Bool) (s':az):Prop
 | mk (H':Hp) (G':Gp) (i:Inv X pins σ H' s') (m:Mv X.K H G H' G') (q:Q b G'):VU X pins σ H G Q b s'
inductive AP2 (X:Cx) (pins:List (Addr×Obj)) (σ:L2.St) (H:Hp) (G:Gp) (Q:List D->Gp->Prop) (us:List Value) (s':az):Prop
 | mk (vs:List V) (H':Hp) (ds:List D) (G':Gp) (i:Inv X pins σ H' s') (m:Mv X.K H G H' G') (r:Vals vs us) (rd:bg X.K H' vs ds) (q:Q ds G'):AP2 X pins σ H G Q us s'
inductive Yp (X:Cx) (pins:List (Addr×Obj)) (H:Hp) (G:Gp) (P:iN->Gp->Prop) (s':az):Prop
 | mk (jX:L2.St) (H':Hp) (qa:iN) (G':Gp) (i:I2 X pins jX H' qa G' s') (m:Mv X.K H G H' G') (q:P qa G'):Yp X pins H G P s'
inductive SPr (X:Cx) (pins:List (Addr×Obj)) (H:Hp) (G:Gp) (P:D->Gp->Prop) (u:Value) (s':az):Prop
 | mk (v:V) (jX:L2.St) (H':Hp) (d:D) (G':Gp) (i:Inv X pins jX H' s') (m:Mv X.K H G H' G') (r:RelV v u) (rd:bX X.K H' v d) (q:P d G'):SPr X pins H G P u s'
noncomputable def Vw(X:Cx)(pins:List (Addr×Obj))(H:Hp)(G:Gp)(D:nU)(f:Flow)(s':az):Prop :=
 match f with
 | .next=>Yp X pins H G D.nx s'
 | .brk=>Yp X pins H G D.bk s'
 | .cont=>Yp X pins H G D.ct s'
 | .ret u=>SPr X pins H G D.rt u s'
noncomputable def gu(X:Cx)(e:Expr)(t:gJ):Prop :=
 ∀ (E:mG) (pins:List (Addr×Obj)) (s:az) (σ:L2.St) (H:Hp) (τ:iN) (G:Gp) (Q:DK),Lk X E->I2 X pins σ H τ G s->t E τ G Q->wpAny (model X.prog X.w) X.A (eval e X.env) (r8 X pins σ H G Q) X.xe s
noncomputable def M4(X:Cx)(e:Expr)(t:xT):Prop :=
 ∀ (E:mG) (pins:List (Addr×Obj)) (s:az) (σ:L2.St) (H:Hp) (τ:iN) (G:Gp) (Q:Bool->Gp->Prop),Lk X E->I2 X pins σ H τ G s->t E τ G Q->wpAny (model X.prog X.w) X.A (isTrue e X.env (eval e X.env)) (VU X pins σ H G Q) X.xe s
noncomputable def ME(X:Cx)(e:Expr)(t:xT):Prop :=
 ∀ (wh:Sem Value) (E:mG) (pins:List (Addr×Obj)) (s:az) (σ:L2.St) (H:Hp) (τ:iN) (G:Gp) (Q:Bool->Gp->Prop),Lk X E->I2 X pins σ H τ G s->t E τ G Q->wpAny (model X.prog X.w) X.A (isTrue e X.env wh) (VU X pins σ H G Q) X.xe s
noncomputable def D5(X:Cx)(es:List Expr)(t:D4):Prop :=
 ∀ (pos:Pos) (E:mG) (pins:List (Addr×Obj)) (s:az) (σ:L2.St) (H:Hp) (τ:iN) (G:Gp) (Q:List D->Gp->Prop),Lk X E->I2 X pins σ H τ G s->t E τ G Q->wpAny (model X.prog X.w) X.A (spliced (wz pos (bY es X.env))) (AP2 X pins σ H G Q) X.xe s
noncomputable def Jh(X:Cx)(st:Stmt)(t:hV):Prop :=
 ∀ (E:mG) (pins:List (Addr×Obj)) (s:az) (σ:L2.St) (H:Hp) (τ:iN) (G:Gp) (D:nU),Lk X E->I2 X pins σ H τ G s->t E D τ G->wpAny (model X.prog X.w) X.A (exec st X.env) (Vw X pins H G D) X.xe s
noncomputable def xr(X:Cx)(st:List Stmt)(t:hV):Prop :=
 ∀ (E:mG) (pins:List (Addr×Obj)) (s:az) (σ:L2.St) (H:Hp) (τ:iN) (G:Gp) (D:nU),Lk X E->I2 X pins σ H τ G s->t E D τ G->wpAny (model X.prog X.w) X.A (execs st X.env) (Vw X pins H G D) X.xe s
theorem Vw.trans{X:Cx}{pins:List (Addr×Obj)}{H H1:Hp}{G G1:Gp}{D:nU}{f:Flow}{s':az}(m:Mv X.K H G H1 G1)(h:Vw X pins H1 G1 D f s'):Vw X pins H G D f s':=by
 cases f with
 | next=>obtain⟨jX,H',qa,G',I,m',q⟩:=h; exact⟨jX,H',qa,G',I,m.trans m',q⟩
 | brk=>obtain⟨jX,H',qa,G',I,m',q⟩:=h; exact⟨jX,H',qa,G',I,m.trans m',q⟩
 | cont=>obtain⟨jX,H',qa,G',I,m',q⟩:=h; exact⟨jX,H',qa,G',I,m.trans m',q⟩
 | ret u=>obtain⟨v,jX,H',d,G',I,m',r,rd,q⟩:=h; exact⟨v,jX,H',d,G',I,m.trans m',r,rd,q⟩
section
variable {X:Cx} {a b c:Expr} {ta tb tc:gJ} {pos:Pos}
theorem j6{pins:List (Addr×Obj)}{σ:L2.St}{H:Hp}{τ:iN}{G:Gp}{s:az}{E:mG}{R:DK}{Q:Value->az->Prop}(ha:gu X a ta)(hE:Lk X E)(I:I2 X pins σ H τ G s)(h:ta E τ G R)
  (k:∀ v H1 d G1 u s1,I2 X pins σ H1 τ G1 s1->Mv X.K H G H1 G1->RelV v u->bX X.K H1 v d->R d G1->Q u s1):wpAny (model X.prog X.w) X.A (eval a X.env) Q X.xe s :=
 hU (ha E pins s σ H τ G R hE I h) (by rintro u s1 ⟨v,H1,d,G1,I1,m,r,rd,q⟩; exact k v H1 d G1 u s1 (I.mv I1 m) m r rd q)
theorem r8.trans{pins:List (Addr×Obj)}{σ:L2.St}{H H1:Hp}{G G1:Gp}{Q:DK}{u:Value}{s':az}(m:Mv X.K H G H1 G1)(h:r8 X pins σ H1 G1 Q u s'):r8 X pins σ H G Q u s':=by
 obtain⟨v,H',d,G',I,m',r,rd,q⟩:=h;exact⟨v,H',d,G',I,m.trans m',r,rd,q⟩
theorem VU.trans{pins:List (Addr×Obj)}{σ:L2.St}{H H1:Hp}{G G1:Gp}{Q:Bool->Gp->Prop}{u:Bool}{s':az}(m:Mv X.K H G H1 G1)(h:VU X pins σ H1 G1 Q u s'):VU X pins σ H G Q u s':=by
 obtain⟨H',G',I,m',r⟩:=h;exact⟨H',G',I,m.trans m',r⟩
theorem Rx {i:Nat} {x:Str} (hN:X.N[i]?=some x) (hv:Yn X.env.scope x) (hd:autoParam ((x == ("__debug__" : Str))=false) Ad._auto_1) (Ks:autoParam ((x == ("__classdict__" : Str))=false) Ad._auto_1):gu X (.Name x pos) (av i):=by
 intro E pins s σ H τ G Q hE I h;unfold av at h;split at h
 ·rename_i d e;obtain⟨v,h1,h2⟩:=I.st.at' i d e;exact hU (Uy hN hv hd Ks pins s σ H (fun v' H'=>v'=v/\H'=H) I.inv ⟨v,h1,rfl,rfl⟩) fun u s1 QJ=>by
   obtain⟨v',H',I1,r,e1,e2⟩:=QJ;subst e1; subst e2;exact⟨_,_,d,G,I1,.refl I.ab,r,h2,h⟩
 ·exact h.elim
theorem vO{e:Expr}{v:V}{d:D}(h:PE X e (tC v))(r:∀ K H,bX K H v d):gu X e (dC d):=by
 intro E pins s σ H τ G Q hE I hq;exact hU (h pins s σ H (fun v' H'=>v'=v/\H'=H) I.inv ⟨rfl,rfl⟩) fun u s1 ZL=>by
  obtain⟨v',H',I1,rr,e1,e2⟩:=ZL;subst e1; subst e2;exact⟨_,_,d,G,I1,.refl I.ab,rr,r _ _,hq⟩
theorem aN{i j}:gu X (.Constant (.int i) j pos) (dC (.int i)):=vO Uz fun _ _=>.int i
noncomputable def pH(X:Cx)(f:Value->Value->Sem Value)(r:Ax):Prop :=
 ∀ (pins:List (Addr×Obj)) (s:az) (σ:L2.St) (H:Hp) (G:Gp) (x y:V) (dx dy:D) (v u:Value) (Q:DK),Inv X pins σ H s->lE X.K H G->RelV x v->RelV y u->bX X.K H x dx->bX X.K H y dy->r dx dy G Q ->
  wpAny (model X.prog X.w) X.A (f v u) (r8 X pins σ H G Q) X.xe s
noncomputable def XA(X:Cx)(f:Value->Sem Value)(r:D->Gp->DK->Prop):Prop :=
 ∀ (pins:List (Addr×Obj)) (s:az) (σ:L2.St) (H:Hp) (G:Gp) (x:V) (dx:D) (v:Value) (Q:DK),Inv X pins σ H s->lE X.K H G->RelV x v->bX X.K H x dx->r dx G Q ->
  wpAny (model X.prog X.w) X.A (f v) (r8 X pins σ H G Q) X.xe s
noncomputable def rg(X:Cx)(f:Value)(r:List D->Gp->DK->Prop):Prop :=
 ∀ (pins:List (Addr×Obj)) (s:az) (σ:L2.St) (H:Hp) (G:Gp) (xs:List V) (ds:List D) (us:List Value) (Q:DK),Inv X pins σ H s->lE X.K H G->Vals xs us->bg X.K H xs ds->r ds G Q ->
  wpAny (model X.prog X.w) X.A (call f us) (r8 X pins σ H G Q) X.xe s
noncomputable abbrev B9(K:au)(H:Hp)(G:Gp)(Q:DK):VK:=fun v H'=>∃ d G',Mv K H G H' G'/\bX K H' v d/\Q d G'
theorem r8.of{pins:List (Addr×Obj)}{σ:L2.St}{H:Hp}{G:Gp}{Q:DK}{u:Value}{s':az}(h:EP X pins σ (B9 X.K H G Q) u s'):r8 X pins σ H G Q u s':=by
 obtain⟨v,H',I,r,d,G',m,rd,q⟩:=h;exact⟨v,H',d,G',I,m,r,rd,q⟩
theorem Qg(ha:gu X a ta)(hb:gu X b tb){E:mG}{pins:List (Addr×Obj)}{s:az}{σ:L2.St}{H:Hp}{τ:iN}{G:Gp}{R:D->D->Gp->Prop}(hE:Lk X E)(I:I2 X pins σ H τ G s)
  (h:ta E τ G fun x G1=>tb E τ G1 fun y G2=>R x y G2) {Q:Value->az->Prop} {f:Value->Value->Sem Value}
  (hf:∀ v u s2 x y dx dy H2 G2,I2 X pins σ H2 τ G2 s2->Mv X.K H G H2 G2->RelV x v->RelV y u->bX X.K H2 x dx->bX X.K H2 y dy->R dx dy G2->wpAny (model X.prog X.w) X.A (f v u) Q X.xe s2) :
  wpAny (model X.prog X.w) X.A (eval a X.env) (fun v fX=>wpAny (model X.prog X.w) X.A (eval b X.env) (fun u lP=>wpAny (model X.prog X.w) X.A (f v u) Q X.xe lP) X.xe fX) X.xe s:=by
 refine j6 ha hE I h fun x H1 dx G1 v s1 I1 m1 r1 jK q1=>?_;refine j6 hb hE I1 q1 fun y H2 dy G2 u s2 nB m2 r2 yD q2=>?_;exact hf v u s2 x y dx dy H2 G2 nB (m1.trans m2) r1 r2 (jK.mono (m2.kp I1.ab)) yD q2
theorem cx{op:Operator}{r:Ax}(ho:pH X (jh op) r)(ha:gu X a ta)(hb:gu X b tb):gu X (.BinOp a op b pos) (br r ta tb):=by
 intro E pins s σ H τ G Q hE I h;exact wpAny_BinOp (Qg ha hb hE I h fun v u s2 x y dx dy H2 G2 nB m rx ry dX dY q=>hU (ho pins s2 σ H2 G2 x y dx dy v u Q nB.inv nB.ab rx ry dX dY q) fun _ _ z=>z.trans m)
theorem sT{op:UnaryOp}{r:D->Gp->DK->Prop}(ho:XA X (unaryOp op) r)(ha:gu X a ta):gu X (.UnaryOp op a pos) (GX r ta):=by
 intro E pins s σ H τ G Q hE I h;exact UnaryOp_ (j6 ha hE I h fun x H1 dx G1 v s1 I1 m1 r1 jK q1=>hU (ho pins s1 σ H1 G1 x dx v Q I1.inv I1.ab r1 jK q1) fun _ _ z=>z.trans m1)
theorem RA{op:CmpOp}{r:Ax}(ho:pH X (fb op) r)(ha:gu X a ta)(hb:gu X b tb)(hm:behindInMarks op b=false):gu X (.Compare a [op] [b] pos) (br r ta tb):=by
 intro E pins s σ H τ G Q hE I h;exact wpAny_Compare1 (Qg ha hb hE I h fun v u s2 x y dx dy H2 G2 nB m rx ry dX dY q=>hU (ho pins s2 σ H2 G2 x y dx dy v u Q nB.inv nB.ab rx ry dX dY q) fun _ _ z=>z.trans m) hm
end
theorem V1{K:au}{H:Hp}{G:Gp}{x:V}{d:D}{k:Bool}(ab:lE K H G)(r:bX K H x d)(e:En d G=some k):(∃ p,x=.ref p/\Rd H p (.dT [])/\k=false)\/(∃ p kv,x=.ref p/\Rd H p (.dK kv)/\k=!kv.isEmpty)\/Vv K x H k:=by
 have PR:∀ kvs:List (D×D),(if (kvs.all fun p=>dE p.1)=true then some (!kvs.isEmpty) else none)=some k->∀ p,((∃ kv,Rd H p (.dK kv)/\lN K H kv kvs)\/∃ kv,Rd H p (.dT kv)/\my K H kv kvs) ->
   (∃ p',V.ref p=.ref p'/\Rd H p' (.dT [])/\k=false)\/(∃ p' kv,V.ref p=.ref p'/\Rd H p' (.dK kv)/\k=!kv.isEmpty)\/Vv K (.ref p) H k:=by
  intro kvs e p z;by_cases ha:(kvs.all fun p=>dE p.1)=true
  ·rw [if_pos ha] at e;cases e;rcases z with ⟨kv,hv,rs⟩ | ⟨kv,hv,rs⟩
   ·right; left;refine⟨p,kv,rfl,hv,?_⟩;cases rs <;> rfl
   ·left;cases rs with
    | nil=>exact⟨p,rfl,hv,rfl⟩
    | cons _ _=>simp [dE] at ha
  ·rw [if_neg ha] at e; cases e
 cases r with
 | eQ=>right; right; cases e; rfl
 | bl b=>right; right; cases e; rfl
 | int i=>right; right; cases e; rfl
 | str y =>
  right; right;unfold En at e;dsimp only at e;by_cases h:y.length<=SZ
  ·rw [if_pos h] at e; cases e; exact⟨by rw [cF]; exact h,rfl⟩
  ·rw [if_neg h] at e; cases e
 | tup h rs =>
  right; right;cases e;refine .inr (.inl ⟨_,.of h,?_⟩);cases rs <;> rfl
 | cY h rs =>
  right; right;cases e;refine .inl ⟨_,h.sq,?_⟩;cases rs <;> rfl
 | oj h rs=>exact PR _ e _ (.inl ⟨_,.inr ⟨_,h⟩,rs⟩)
 | oi h rs=>exact PR _ e _ (.inr ⟨_,.inr ⟨_,h⟩,rs⟩)
 | exc h=>simp [En] at e
 | FZ h _=>simp [En] at e
 | oF _ _ _ _=>simp [En] at e
 | ref a =>
  unfold En at e;dsimp only at e;cases q:G a with
  | none=>rw [q] at e; cases e
  | some g =>
   rw [q] at e;have z:=ab a g q;cases g with
   | lst ds =>
    right; right;obtain⟨vs,hv,rs⟩:=z;cases e;refine .inl ⟨vs,.of hv,?_⟩;cases rs <;> rfl
   | ins _ _=>cases e
   | qh _=>cases e
   | gK kvs =>
    refine PR kvs e a ?_;rcases z with ⟨kv,hv,rs⟩ | ⟨kv,hv,rs⟩
    ·exact .inl ⟨kv,.inl hv,rs⟩
    ·exact .inr ⟨kv,.inl hv,rs⟩
section
variable {X:Cx} {a b c:Expr} {ta tb tc:gJ} {pos:Pos}
noncomputable def XB(X:Cx):Prop:=∀ (pins:List (Addr×Obj)) (s:az) (σ:L2.St) (H:Hp) (G:Gp) (x:V) (d:D) (v:Value) (k:Bool) (Q:Bool->az->Prop),Inv X pins σ H s->lE X.K H G->RelV x v->bX X.K H x d->En d G=some k ->
  (∀ s',Inv X pins σ H s'->Q k s')->wpAny (model X.prog X.w) X.A (truthy v) Q X.xe s
theorem Nq:XB X:=by
 intro pins s σ H G x d v k Q I ab rx rd e q;rcases V1 ab rd e with ⟨p,rfl,hv,hk⟩ | ⟨p,kv,rfl,hv,hk⟩ | h
 ·obtain⟨z,hS,xs,rel,o,es,ep,ho,hx,Av,hl,nd⟩:=hv.ok I.cn;have Zu:xs=[]:=by cases rel; rfl
  subst Zu;have he:es=#[]:=by simpa using hl
  subst he;cases rx;have dd:s.heap.DictOf (cC X.prog X.w) p []:=⟨o,#[],ep,ho,hx,Av,(fun _ h=>by simp at h),.nil,cf⟩;refine Hb hS dd (by simp) ?_;subst hk;exact q _ (I.tok _)
 ·cases rx;subst hk;exact Sa I hv q
 ·exact hU (TY pins s σ H x v (fun k' H'=>k'=k/\H'=H) I rx ⟨k,h,rfl,rfl⟩) fun k' s' QJ=>by
   obtain⟨H',I',e1,e2⟩:=QJ;subst e1; subst e2; exact q s' I'
theorem fB(ha:gu X a ta)(he:autoParam (∀ whole,isTrue a X.env whole=(do let v ← whole; standAt a.pos; Hh [v] (truthy v))) Ai._auto_1):M4 X a (fT ta):=by
 intro E pins s σ H τ G Q hE I h;refine isTrue_plain (j6 ha hE I h fun x H1 d G1 v s1 I1 m1 r1 jK q1=>?_) (he _)
 try dsimp only at q1
 split at q1
 ·rename_i k e;exact Nq pins s1 σ H1 G1 x d v k _ I1.inv I1.ab r1 jK e fun s' I'=>⟨H1,G1,I',m1,q1⟩
 ·exact q1.elim
theorem dh{op:CmpOp}{r:Ax}(ho:pH X (fb op) r)(ha:gu X a ta)(hb:gu X b tb)(hm:behindInMarks op b=false):M4 X (.Compare a [op] [b] pos) (fT (br r ta tb)):=by
 intro E pins s σ H τ G Q hE I h;refine wpAny_isTrue_Compare1 (j6 ha hE I h fun x H1 dx G1 v s1 I1 m1 r1 jK q1=>j6 hb hE I1 q1 fun y H2 dy G2 u s2 nB m2 r2 yD q2 =>
  hU (ho pins s2 σ H2 G2 x y dx dy v u _ nB.inv nB.ab r1 r2 (jK.mono (m2.kp I1.ab)) yD q2) ?_) hm
 rintro c s3 ⟨z,H3,dz,G3,I3,m3,r3,YK,q3⟩
 try dsimp only at q3
 split at q3
 ·rename_i k e;exact Nq pins s3 σ H3 G3 z dz c k _ I3 m3.ab r3 YK e fun s' I'=>⟨H3,G3,I',(m1.trans m2).trans m3,q3⟩
 ·exact q3.elim
variable {tA tB:xT} {rest:List Expr}
theorem ME.pt{e:Expr}{t:xT}(h:ME X e t):M4 X e t:=fun E pins s σ H τ G Q hE I q=>h _ E pins s σ H τ G Q hE I q
theorem Nu{pins:List (Addr×Obj)}{σ:L2.St}{H:Hp}{τ:iN}{G:Gp}{s:az}{E:mG}{R:Bool->Gp->Prop}{Q:Bool->az->Prop}(ha:M4 X a tA)(hE:Lk X E)(I:I2 X pins σ H τ G s)(h:tA E τ G R)
  (k:∀ c H1 G1 s1,I2 X pins σ H1 τ G1 s1->Mv X.K H G H1 G1->R c G1->Q c s1):wpAny (model X.prog X.w) X.A (isTrue a X.env (eval a X.env)) Q X.xe s :=
 hU (ha E pins s σ H τ G R hE I h) (by rintro c s1 ⟨H1,G1,I1,m,q⟩; exact k c H1 G1 s1 (I.mv I1 m) m q)
theorem nK(ha:M4 X a tA):ME X (.BoolOp .Or [a] pos) tA:=by
 intro wh E pins s σ H τ G Q hE I h;refine isTrue_or (hU (ha E pins s σ H τ G Q hE I h) fun c s1 e=>?_);cases c with
 | false=>exact isTrue_or_nil e
 | true=>exact e
theorem oq(ha:M4 X a tA)(hb:ME X (.BoolOp .Or (b :: rest) pos) tB):ME X (.BoolOp .Or (a :: b :: rest) pos) (B0 tA tB):=by
 intro wh E pins s σ H τ G Q hE I h;refine isTrue_or (Nu ha hE I h fun c H1 G1 s1 I1 m1 q1=>?_);cases c with
 | false=>exact hU (hb wh E pins s1 σ H1 τ G1 Q hE I1 (by simpa using q1)) fun _ _ z=>z.trans m1
 | true=>exact⟨H1,G1,I1.inv,m1,by simpa using q1⟩
theorem jL(ha:M4 X a tA):M4 X (.UnaryOp .Not a pos) (mw tA):=by
 intro E pins s σ H τ G Q hE I h;exact isTrue_not (hU (ha E pins s σ H τ G (fun c H1=>Q (!c) H1) hE I h) (by rintro c s' ⟨H',G',i,m,q⟩; exact⟨H',G',i,m,q⟩))
theorem Ry{op}{t:gJ}(h:gu X a t):gu X (.BoolOp op [a] pos) t:=fun E pins s σ H τ G Q hE I hw=>BoolOp_one (h E pins s σ H τ G Q hE I hw)
theorem RB(ha:gu X a ta)(hb:gu X (.BoolOp .And (b :: rest) pos) tb):gu X (.BoolOp .And (a :: b :: rest) pos) (KQ ta tb):=by
 intro E pins s σ H τ G Q hE I h;refine BoolOp_and (j6 ha hE I h fun x H1 d G1 v s1 I1 m1 r1 jK q1=>?_)
 try dsimp only at q1
 split at q1
 ·rename_i e;exact Nq pins s1 σ H1 G1 x d v true _ I1.inv I1.ab r1 jK e fun s' I'=>hU (hb E pins s' σ H1 τ G1 Q hE ⟨I',I1.st,I1.ab⟩ q1) fun _ _ z=>z.trans m1
 ·rename_i e;exact Nq pins s1 σ H1 G1 x d v false _ I1.inv I1.ab r1 jK e fun s' I'=>⟨x,H1,d,G1,I',m1,r1,jK,q1⟩
 ·exact q1.elim
theorem Rz(ha:gu X a ta):gu X (.UnaryOp .Not a pos) (PT ta):=by
 intro E pins s σ H τ G Q hE I h;refine UnaryOp_ (j6 ha hE I h fun x H1 d G1 v s1 I1 m1 r1 jK q1=>?_)
 try dsimp only at q1
 split at q1
 ·rename_i k e;exact not_of (Nq pins s1 σ H1 G1 x d v k _ I1.inv I1.ab r1 jK e fun s' I'=>⟨.bl (!k),H1,.bl (!k),G1,I',m1,rfl,.bl _,q1⟩)
 ·exact q1.elim
theorem UA(hc:M4 X c tA)(ha:gu X a ta)(hb:gu X b tb):gu X (.IfExp c a b pos) (dIf tA ta tb):=by
 intro E pins s σ H τ G Q hE I h;refine wpAny_IfExp (Nu hc hE I h fun d H1 G1 s1 I1 m1 q1=>?_);cases d with
 | true=>exact hU (ha E pins s1 σ H1 τ G1 Q hE I1 (by simpa using q1)) fun _ _ z=>z.trans m1
 | false=>exact hU (hb E pins s1 σ H1 τ G1 Q hE I1 (by simpa using q1)) fun _ _ z=>z.trans m1
variable {e:Expr} {es:List Expr} {te:gJ} {t:D4}
theorem gE:D5 X [] aQ:=fun _ _ _ _ _ H _ G Q _ I h=>Ay ⟨[],H,[],G,I.inv,.refl I.ab,.nil,.nil,h⟩
theorem dW(ha:gu X e te)(hr:D5 X es t)(hs:autoParam (bY (e :: es) X.env=(false,eval e X.env) :: bY es X.env) Ar._auto_1):D5 X (e :: es) (aw te t):=by
 intro pos E pins s σ H τ G Q hE I h;rw [hs];show wpAny _ _ (spliced ((false,eval e X.env) :: wz pos (bY es X.env))) _ _ s;refine pI (j6 ha hE I h fun x H1 d G1 u s1 I1 m1 r1 jK q1=>?_);exact hU (hr pos E pins s1 σ H1 τ G1 _ hE I1 q1) (by rintro us s2 ⟨xs,H2,ds,G2,nB,m2,r2,yD,q2⟩; exact⟨x :: xs,H2,d :: ds,G2,nB,m1.trans m2,.cons r1 r2,.cons (jK.mono (m2.kp I1.ab)) yD,q2⟩)
theorem Cs{pins:List (Addr×Obj)}{σ:L2.St}{H:Hp}{τ:iN}{G:Gp}{s:az}{E:mG}{R:List D->Gp->Prop}{Q:List Value->az->Prop}(ha:D5 X es t)(pos:Pos)(hE:Lk X E)(I:I2 X pins σ H τ G s)(h:t E τ G R)
  (k:∀ vs H1 ds G1 us s1,I2 X pins σ H1 τ G1 s1->Mv X.K H G H1 G1->Vals vs us->bg X.K H1 vs ds->R ds G1->Q us s1):wpAny (model X.prog X.w) X.A (spliced (wz pos (bY es X.env))) Q X.xe s :=
 hU (ha pos E pins s σ H τ G R hE I h) (by rintro us s1 ⟨vs,H1,ds,G1,I1,m,r,rd,q⟩; exact k vs H1 ds G1 us s1 (I.mv I1 m) m r rd q)
theorem di{x1}(h:D5 X es t):gu X (.Tuple es x1 pos) (gi t):=by
 intro E pins s σ H τ G Q hE I hq;refine wpAny_Tuple_spliced (Cs h pos hE I hq ?_);rintro xs H1 ds G1 us s1 I1 m1 r rd ⟨z,q⟩;refine⟨by rw [<-r.length,rd.length,cF]; exact z,?_⟩;have hf:H1 s1.heap.objs.size=none:=I1.inv.cn.fresh (aC _);refine⟨.ref s1.heap.objs.size,upd H1 s1.heap.objs.size (.tup xs),.tup ds,G1,I1.inv.laid (t':=s1.toks) (fun b u e=>aH _ e) (aC _) ?_,m1.trans (.Mf I1.ab hf),rfl,?_,q⟩
 ·exact⟨by rw [rd.length,cF]; exact z,us,r,⟨_,bh _ rfl,rfl,_,rfl⟩⟩
 ·exact .tup bU (rd.mono (.new hf))
theorem gB(h:D5 X es t):gu X (.List es pos) (jb t):=by
 intro E pins s σ H τ G Q hE I hq;refine wpAny_List_spliced (Cs h pos hE I hq ?_);rintro xs H1 ds G1 us s1 I1 m1 r rd ⟨z,q⟩;refine⟨by rw [<-r.length,rd.length,cF]; exact z,?_⟩;have hf:H1 s1.heap.objs.size=none:=I1.inv.cn.fresh (aC _);refine⟨.ref s1.heap.objs.size,upd H1 s1.heap.objs.size (.lst xs),.ref _,eA G1 s1.heap.objs.size (.lst ds),I1.inv.laid (t':=s1.toks) (fun b u e=>aH _ e) (aC _) ?_,m1.trans (.Ia I1.ab hf rd),rfl,.ref _,q _ (I1.ab.free hf)⟩;exact⟨by rw [rd.length,cF]; exact z,us,0,r,bh _ rfl⟩
noncomputable def AF(K:au)(sp:jU):Sp:=fun vs H Q _=>∃ ds G Q2,bg K H vs ds/\lE K H G/\sp ds G Q2 (fun _ _=>False)/\∀ d G' v H',Q2 d G'->Mv K H G H' G'->bX K H' v d->Q v H'
variable {k:Nat} {f:Addr} {fd:gm} {ps:List Str} {sp:jU} {x:Str} {p:Pos} {r:List D->Gp->DK->Prop} {id:String}
theorem Ot(F:wu X.prog X.w X.K X.mg X.base Js k f fd ps (AF X.K sp))(hr:lV k X.A)(hg:Gl X x)(hm:X.mg x=some (.ref f))(hk:vd X.K (.ref f)=true)(hb:Binds X.K fd ps [])
  (ha:D5 X (e :: es) t) (Iz:autoParam ((x == ("__debug__" : Str))=false) Ad._auto_1) (he:autoParam (bY (e :: es) X.env=(false,eval e X.env) :: bY es X.env) Ar._auto_1) (GV:autoParam ((wz pos (bY es X.env)).any (·.1)=false) Ar._auto_1) :
  gu X (.Call (.Name x p) (e :: es) [] pos) (fun E τ G Q=>bu (fun ds G1 Q1 _=>sp ds G1 Q1 fun _ _=>False) t E τ G Q):=by
 intro E pins s σ H τ G Q hE I h;refine jV (xK I.inv hg hm ?_ Iz);refine Qw (h₀:=X.base) I.inv.ok.mod.WJ hk (Cs ha pos hE I h fun vs H1 ds G1 us s1 I1 m1 r rd q=>⟨I1.inv.Ip,?_⟩) he GV;refine hU (NO F hr hb .nil S0 I1.inv r (Q:=B9 X.K H1 G1 Q) ?_) fun _ _ z=>(r8.of z).trans m1;rw [dq];exact⟨ds,G1,Q,rd,I1.ab,q,fun d G' v H' q' m' VF=>⟨d,G',m',VF,q'⟩⟩
theorem i8 (hc:rg X (.builtin id) r) (hg:Gl X x) (hm:X.mg x=none) (hv:eK x=some (.builtin id)) (ha:D5 X (e :: es) t) (hn:autoParam (x≠"__name__") Ad._auto_1) (Iz:autoParam ((x == ("__debug__" : Str))=false) Ad._auto_1)
  (he:autoParam (bY (e :: es) X.env=(false,eval e X.env) :: bY es X.env) Ar._auto_1) (GV:autoParam ((wz pos (bY es X.env)).any (·.1)=false) Ar._auto_1):gu X (.Call (.Name x p) (e :: es) [] pos) (wa r t):=by
 intro E pins s σ H τ G Q hE I h;refine jV (qL I.inv hg hm hv ?_ hn Iz);exact vt (Cs ha pos hE I h fun vs H1 ds G1 us s1 I1 m1 r1 jK q1=>hU (hc pins s1 σ H1 G1 vs ds us Q I1.inv I1.ab r1 jK q1) fun _ _ z=>z.trans m1) he GV
variable {st:Stmt} {sts:List Stmt} {u v:hV}
theorem cR:xr X [] cN:=fun _ _ _ σ H τ G _ _ I h=>xZ ⟨σ,H,τ,G,I,.refl I.ab,h⟩
theorem aF(h1:Jh X st u)(h2:xr X sts v):xr X (st :: sts) (b8 u v):=by
 intro E pins s σ H τ G D hE I h;refine wpAny_execs_cons (hU (h1 E pins s σ H τ G { D with nx:=v E D } hE I h) fun f s1 q=>?_);cases f with
 | next =>
  obtain⟨jX,H',qa,G',I',m,q⟩:=q;exact hU (h2 E pins s1 jX H' qa G' D hE I' q) fun _ _ z=>z.trans m
 | ret v=>exact q
 | brk=>exact q
 | cont=>exact q
theorem aI(h1:Jh X st u):xr X [st] u:=by
 intro E pins s σ H τ G D hE I h;refine wpAny_execs_cons (hU (h1 E pins s σ H τ G D hE I h) fun f s1 q=>?_);cases f with
 | next=>exact xZ q
 | ret v=>exact q
 | brk=>exact q
 | cont=>exact q
theorem bC(he:gu X e te):Jh X (.Return (some e) pos) (bR te):=by
 intro E pins s σ H τ G D hE I h;exact wpAny_Return_some (hU (he E pins s σ H τ G _ hE I h) (by rintro v s1 ⟨x,H1,d,G1,I1,m,r1,rd,q1⟩; exact⟨x,σ,H1,d,G1,I1,m,r1,rd,q1⟩))
theorem eY{sa sb:List Stmt}(hc:M4 X c tA)(ha:xr X sa u)(hb:xr X sb v):Jh X (.If c sa sb pos) (fc tA u v):=by
 intro E pins s σ H τ G D hE I h;refine wpAny_If (Nu hc hE I h fun d H1 G1 s1 I1 m1 q1=>?_);cases d with
 | true=>exact hU (ha E pins s1 σ H1 τ G1 D hE I1 (by simpa using q1)) fun _ _ z=>z.trans m1
 | false=>exact hU (hb E pins s1 σ H1 τ G1 D hE I1 (by simpa using q1)) fun _ _ z=>z.trans m1
noncomputable def MG(X:Cx)(target:Expr)(t:Aw):Prop :=
 ∀ (E:mG) (pins:List (Addr×Obj)) (s:az) (σ:L2.St) (H:Hp) (τ:iN) (G:Gp) (w:V) (d:D) (u:Value) (Q:iN->Gp->Prop),Lk X E->I2 X pins σ H τ G s->RelV w u->bX X.K H w d->t E d τ G Q ->
  wpAny (model X.prog X.w) X.A (Ju target X.env u) (fun _ s'=>∃ jX H' qa G',I2 X pins jX H' qa G' s'/\Mv X.K H G H' G'/\Q qa G') X.xe s
noncomputable def SA(X:Cx)(ts:List Expr)(t:DM):Prop :=
 ∀ (E:mG) (pins:List (Addr×Obj)) (s:az) (σ:L2.St) (H:Hp) (τ:iN) (G:Gp) (ws:List V) (ds:List D) (us:List Value) (Q:iN->Gp->Prop),Lk X E->I2 X pins σ H τ G s->Vals ws us->bg X.K H ws ds->t E ds τ G Q ->
  wpAny (model X.prog X.w) X.A (assignInOrder ((Ah ts X.env).map (·.2)) us) (fun _ s'=>∃ jX H' qa G',I2 X pins jX H' qa G' s'/\Mv X.K H G H' G'/\Q qa G') X.xe s
theorem Ol{i:Nat}{x:Str}(hN:X.N.Nodup)(hi:X.N[i]?=some x)(hx:Loc X.env.scope x)(hf:autoParam (X.fn x=true\/X.env.scope.names.lookup x=some .local) Ao._auto_1):MG X (.Name x pos) (aG i):=by
 intro E pins s σ H τ G w d u Q hE I r rd h;exact wpAny_assign_Name (Ep I.inv hN hi hx r (fun s' I'=>⟨_,H,_,G,⟨I',I.st.set i rd,I.ab⟩,.refl I.ab,h⟩) hf)
theorem fm:SA X [] ip:=by
 intro E pins s σ H τ G ws ds us Q hE I r rd h;unfold ip at h;split at h
 ·have e:=rd.zero;subst e;cases r;exact assignInOrder_nil ⟨σ,H,τ,G,I,.refl I.ab,h⟩
 ·exact h.elim
theorem bJ{t:Aw}{u:DM}(h1:MG X e t)(h2:SA X es u)
  (hs:autoParam ((Ah (e :: es) X.env).map (·.2)=Ju e X.env :: (Ah es X.env).map (·.2)) Ar._auto_1):SA X (e :: es) (cy t u):=by
 intro E pins s σ H τ G ws ds us Q hE I r rd h;unfold cy at h;split at h
 ·cases rd with
  | cons jK yD =>
   cases r with
   | cons r1 r2 =>
    rw [hs];refine assignInOrder_cons (hU (h1 E pins s σ H τ G _ _ _ _ hE I r1 jK h) ?_);rintro _ s1 ⟨XM,H1,oX,G1,I1,m1,q1⟩;exact hU (h2 E pins s1 XM H1 oX G1 _ _ _ Q hE I1 r2 (yD.mono (m1.kp I.ab)) q1) (by rintro _ _ ⟨Yv,H2,vB,G2,nB,m2,q2⟩; exact⟨Yv,H2,vB,G2,nB,m1.trans m2,q2⟩)
 ·exact h.elim
theorem gz{k:Nat}{t:DM}{n:Nat}(hc:X.calm=true)(h:SA X es t)(hgl:∀ E ds τ G Q,t E ds τ G Q->ds.length=n)
  (hn:autoParam ((Ah es X.env).length=n) Ar._auto_1) (ZG:autoParam ((Ah es X.env).findIdx? (·.1)=none) Ar._auto_1):MG X (.Tuple es k pos) (iH t):=by
 intro E pins s σ H τ G w d u Q hE I r rd hw;unfold iH at hw;split at hw
 ·cases rd with
  | tup hq rs =>
   cases r;obtain⟨bH,rv,ht,hz⟩:=I.inv.tuple (.of hq);refine assign_Tuple_tuple (I.inv.ok.hd hc) ht (by rw [hn,aX,<-rv.length,rs.length]; exact(hgl _ _ _ _ _ hw).symm) ZG fun h' hx=>?_;have I1:Inv X pins σ H { s with heap:=h' }:=I.inv.kept (t':=s.toks) fun b o e=>hx b o (bB (aS e)) e;exact h E pins _ σ H τ G _ _ _ Q hE ⟨I1,I.st,I.ab⟩ (by simpa using rv) rs hw
 ·exact hw.elim
theorem ft:∀ E ds τ G Q,ip E ds τ G Q->ds.length=0:=by
 intro E ds τ G Q h;cases ds with
 | nil=>rfl
 | cons _ _=>exact h.elim
theorem Mj{t:Aw}{u:DM}{n:Nat}(h:∀ E ds τ G Q,u E ds τ G Q->ds.length=n)(hm:∀ E d τ G (Q Q':iN->Gp->Prop),t E d τ G Q->(∀ qa G',Q qa G'->Q' qa G')->t E d τ G Q')(hx:∀ E d τ G,¬ t E d τ G fun _ _=>False) :
  ∀ E ds τ G Q,cy t u E ds τ G Q->ds.length=n+1:=by
 intro E ds τ G Q q;cases ds with
 | nil=>exact q.elim
 | cons d ds =>
  by_cases hl:ds.length=n
  ·rw [aj,hl]
  ·exact absurd (hm E d τ G _ (fun _ _=>False) q fun qa G' z=>hl (h _ _ _ _ _ z)) (hx E d τ G)
theorem iJ{tg:Expr}{g:Aw}(he:gu X e te)(hg:MG X tg g)(hs:autoParam (swapsWithSole [tg] e pos.line X.env=pure false) Ar._auto_1)(hw:autoParam (swappedStores [tg] e X.env=pure none) Ar._auto_1)
  (h1:autoParam ((Ah [tg] X.env).map (·.2)=[Ju tg X.env]) Ar._auto_1):Jh X (.Assign [tg] e pos) (bE te g):=by
 intro E pins s σ H τ G D hE I h;refine wpAny_Assign_stores (j6 he hE I h fun x H1 d G1 v s1 I1 m1 r1 jK q1=>?_) hs hw;rw [h1];exact hU (hg E pins s1 σ H1 τ G1 x d v _ hE I1 r1 jK q1) (by rintro _ s2 ⟨Yv,H2,vB,G2,nB,m2,q2⟩; exact⟨Yv,H2,vB,G2,nB,m1.trans m2,q2⟩)
theorem Ro{i:Nat}{x:Str}{pos':Pos}(hN:X.N.Nodup)(hi:X.N[i]?=some x)(hx:Loc X.env.scope x)(he:gu X e te)(hs:autoParam (Na e (some (.Name x pos')) pos.line X.env=pure false) Ar._auto_1)(hf:autoParam (X.fn x=true\/X.env.scope.names.lookup x=some .local) Ao._auto_1) :
  Jh X (.Assign [.Name x pos'] e pos) (bE te (aG i)):=by
 intro E pins s σ H τ G D hE I h;refine wpAny_Assign_Name (j6 he hE I h fun y H1 d G1 v s1 I1 m1 r1 jK q1=>?_) hs;exact Ep I1.inv hN hi hx r1 (fun s2 nB=>⟨_,H1,_,G1,⟨nB,I1.st.set i jK,I1.ab⟩,m1,q1⟩) hf
theorem ly(he:gu X e te)(hs:autoParam (Na e none pos.line X.env=pure false) Ar._auto_1):Jh X (.Expr e pos) (kA te):=by
 intro E pins s σ H τ G D hE I h;exact wpAny_Expr_any (j6 he hE I h fun y H1 d G1 v s1 I1 m1 r1 jK q1=>⟨σ,H1,τ,G1,I1,m1,q1⟩) I.inv.quiet hs
end
noncomputable def TG(K:au)(J:It)(H':Hp)(ds:List D)(ok:Gp->Prop):Prop :=
 ∀ i H1 G1,Kp H' H1->lE K H1 G1->ok G1->(∀ d,ds[i]?=some d->J.go i H1/\∀ x H2,J.yld i H1 x H2->bX K H2 x d/\Mv K H1 G1 H2 G1)/\(ds.length<=i->J.stop i H1)
inductive Ji (X:Cx) (pins:List (Addr×Obj)) (σ:L2.St) (tg:Expr) (H:Hp) (G:Gp) (R:List D->(Gp->Prop)->Gp->Prop) (S9:Value) (s2:az):Prop
 | mk (it:Addr) (fp:List Addr) (tn:Nat->Heap->Prop) (J:It) (H':Hp) (G':Gp) (ds:List D) (ok:Gp->Prop) (e:S9=.ref it) (i:Inv X pins σ H' s2) (m:Mv X.K H G H' G') (T:Turn X.prog X.w X.K tg J fp it tn) (t0:tn 0 s2.heap) (f:∀ b∈fp,nC X pins H' b)
  (wk:TG X.K J H' ds ok) (q:R ds ok G'):Ji X pins σ tg H G R S9 s2
noncomputable def MF(X:Cx)(tg iter:Expr)(wi:MC):Prop :=
 ∀ (E:mG) (pins:List (Addr×Obj)) (s:az) (σ:L2.St) (H:Hp) (τ:iN) (G:Gp) (R:List D->(Gp->Prop)->Gp->Prop),Lk X E->I2 X pins σ H τ G s->wi E τ G R ->
  wpAny (model X.prog X.w) X.A (eval iter X.env) (fun v s1=>wpAny (model X.prog X.w) X.A (Ea v) (Ji X pins σ tg H G R) X.xe s1) X.xe s
section
variable {X:Cx} {tg:Expr} {a b:Expr} {ta tb:gJ} {pos p:Pos}
theorem Kg{pins:List (Addr×Obj)}{σ:L2.St}{H H1:Hp}{G G1:Gp}{s1:az}{l:Addr}{vs:List V}{ds:List D}{ok:Gp->Prop}{R:List D->(Gp->Prop)->Gp->Prop}(I1:Inv X pins σ H1 s1)(m:Mv X.K H G H1 G1)(hq:oS X.K H1 l vs)
  (hk:∀ H2 G2,Kp H1 H2->lE X.K H2 G2->ok G2->∃ ws,oS X.K H2 l ws/\bg X.K H2 ws ds) (q:R ds ok G1):wpAny (model X.prog X.w) X.A (Ea (.ref l)) (Ji X pins σ tg H G R) X.xe s1:=by
 obtain⟨bH,rv,pl,hz⟩:=I1.list hq;refine wpAny_pyIter_list pl.isList ?_;refine⟨s1.heap.objs.size,[s1.heap.objs.size],_,_,H1,G1,ds,ok,rfl,I1.kept (t':=s1.toks) fun b o e=>aH _ e,m,Lh l _,⟨_,bh _ rfl,rfl,rfl⟩,fun b hb=>?_,fun i H2 G2 k ab o=>?_,q⟩
 ·have e:b=s1.heap.objs.size:=by simpa using hb
  subst e;exact I1.AO (aC _) (I1.cn.fresh (aC _))
 ·obtain⟨ws,hw,rd⟩:=hk H2 G2 k ab o;refine⟨fun d hd=>?_,fun hl=>⟨ws,hw,by rw [rd.length]; exact hl⟩⟩;obtain⟨v,hv,r⟩:=rd.get hd;refine⟨⟨ws,v,hw,hv⟩,?_⟩;rintro x H3 ⟨e,y⟩;subst e;have:=y ws hw;rw [hv] at this;cases this;exact⟨r,.refl ab⟩
theorem TX{pins:List (Addr×Obj)}{σ:L2.St}{H H1:Hp}{G G1:Gp}{s1:az}{l:Addr}{vs:List V}{ds:List D}{R:List D->(Gp->Prop)->Gp->Prop}(I1:Inv X pins σ H1 s1)(m:Mv X.K H G H1 G1)(hq:xU X.K H1 l vs)(rd:bg X.K H1 vs ds)
  (q:R ds (fun _=>True) G1):wpAny (model X.prog X.w) X.A (Ea (.ref l)) (Ji X pins σ tg H G R) X.xe s1:=by
 obtain⟨bH,rv,pl,hz⟩:=I1.tuple hq;refine wpAny_pyIter_tuple (show s1.heap.IsTuple l bH.toArray from pl) ?_;refine⟨s1.heap.objs.size,[s1.heap.objs.size],_,_,H1,G1,ds,_,rfl,I1.kept (t':=s1.toks) fun b o e=>aH _ e,m,Hz l _,⟨_,bh _ rfl,rfl,rfl⟩,fun b hb=>?_,fun i H2 G2 k ab _=>?_,q⟩
 ·have e:b=s1.heap.objs.size:=by simpa using hb
  subst e;exact I1.AO (aC _) (I1.cn.fresh (aC _))
 ·have hw:=k.sqT hq;have yD:=rd.mono k;refine⟨fun d hd=>?_,fun hl=>⟨vs,hw,by rw [rd.length]; exact hl⟩⟩;obtain⟨v,hv,r⟩:=yD.get hd;refine⟨⟨vs,v,hw,hv⟩,?_⟩;rintro x H3 ⟨e,y⟩;subst e;have:=y vs hw;rw [hv] at this;cases this;exact⟨r,.refl ab⟩
theorem dJ(ha:gu X a ta):MF X tg a (jS ta):=by
 intro E pins s σ H τ G R hE I h;refine j6 ha hE I h fun x H1 d G1 v s1 I1 m1 r1 jK q1=>?_;cases jK with
 | tup hq rs=>cases r1; exact TX I1.inv m1 (.of hq) rs q1
 | cY hq rs=>cases r1; exact Kg I1.inv m1 hq.sq (fun H2 G2 k ab _=>⟨_,(k.Uc hq).sq,rs.mono k⟩) q1
 | ref p =>
  cases r1;dsimp only at q1;split at q1
  ·rename_i ds e;obtain⟨vs,hv,rs⟩:=I1.ab.lst e;refine Kg I1.inv m1 (.of hv) (fun H2 G2 k ab o=>?_) q1;obtain⟨ws,hw,qb⟩:=ab.lst o;exact⟨ws,.of hw,qb⟩
  ·exact q1.elim
 | oj _ _=>exact q1.elim
 | oi _ _=>exact q1.elim
 | eQ=>exact q1.elim
 | bl _=>exact q1.elim
 | int _=>exact q1.elim
 | str _=>exact q1.elim
 | exc _=>exact q1.elim
 | FZ _ _=>exact q1.elim
 | oF _ _ _ _=>exact q1.elim
theorem Um{pins:List (Addr×Obj)}{σ:L2.St}{H H1:Hp}{G G1:Gp}{s:az}{R:List D->(Gp->Prop)->Gp->Prop}{lo hi:Int}{t u v:Tok}{tk:Nat}(I:Inv X pins σ H1 s)(m:Mv X.K H G H1 G1)(h1:-(2 ^ 62)<=lo)(h2:lo < 2 ^ 62)(h3:-(2 ^ 62)<=hi)(h4:hi < 2 ^ 62)
  (q:R (gM lo (hi - lo).toNat) (fun _=>True) G1):wpAny (model X.prog X.w) X.A (Ea (.ref s.heap.objs.size)) (Ji X pins σ tg H G R) X.xe { s with heap:=s.heap.push { cls:=.type "range",data:=.fields #[.int lo t,.int hi u,.int 1 v] },toks:=tk }:=by
 refine hU (N0 (tg:=tg) I h1 h2 h3 h4 (R:=fun J H'=>J=Itr lo (hi - lo).toNat/\H'=H1) ⟨rfl,rfl⟩) ?_;rintro S9 s2 ⟨it,fp,tn,J,H',e,nB,T,st,fo,eJ,eH⟩;subst eJ; subst eH;refine⟨it,fp,tn,_,H',G1,_,_,e,nB,m,T,st,fo,fun i H2 G2 k ab _=>⟨fun d hd=>?_,fun hl=>?_⟩,q⟩
 ·unfold gM at hd;rw [bq] at hd;cases Ts:(ez (hi - lo).toNat)[i]? with
  | none=>rw [Ts] at hd; cases hd
  | some j =>
   rw [Ts] at hd;obtain⟨xn,ej⟩:=List.getElem?_eq_some_iff.mp Ts;rw [mz] at xn;rw [lI] at ej;subst ej;cases hd;refine⟨xn,?_⟩;rintro x H3 ⟨e1,e2⟩;subst e1; subst e2;exact⟨.int _,.refl ab⟩
 ·unfold gM at hl;rw [ak,mz] at hl;exact hl
theorem kP (hg:Gl X "range") (hm:X.mg "range" = none) (ha:gu X a ta) (hs:autoParam (bY [a] X.env=[(false,eval a X.env)]) Ar._auto_1):MF X tg (.Call (.Name "range" p) [a] [] pos) (wY ta):=by
 intro E pins s σ H τ G R hE I h;have hA:D5 X [a] (aw ta aQ):=dW ha gE hs;refine Call_ (qL I.inv hg hm boot_range (fU (Cs hA pos hE I (R:=fun ds G1=>match ds with | [.int n]=>-(2 ^ 62)<=n/\n < 2 ^ 62/\R (gM 0 n.toNat) (fun _=>True) G1 | _=>False) ?_ fun vs H1 ds G1 us s1 I1 m1 r1 jK q1=>?_) hs rfl))
 ·show ta E τ G _;have e:(fun (x:D) (G1:Gp)=>match [x] with | [.int n]=>-(2 ^ 62)<=n/\n < 2 ^ 62/\R (gM 0 n.toNat) (fun _=>True) G1 | _=>False)=fun x G1=>match x with | .int n=>-(2 ^ 62)<=n/\n < 2 ^ 62/\R (gM 0 n.toNat) (fun _=>True) G1 | _=>False:=by
   funext x G1; cases x <;> rfl
  exact e ▸ h
 ·split at q1
  ·rename_i n;obtain⟨w,rfl,Ew⟩:=jK.one;cases Ew;obtain⟨u,rfl,ru⟩:=r1.one;obtain⟨t,rfl⟩:=ru;obtain⟨q1,q2,q⟩:=q1;exact call_range_1 (Um I1.inv m1 (by lia) (by lia) q1 q2 (by simpa using q))
  ·exact q1.elim
theorem cK{iter:Expr}{body:List Stmt}{wi:MC}{g:Aw}{t:hV}(hp:PassesOwn (model X.prog X.w) X.A X.env X.xe)(hc:X.calm=true)(hi:MF X tg iter wi)(hg:MG X tg g)(hb:xr X body t)
  (hs:autoParam (∀ x,nX iter X.env x=pure x) Ai._auto_1):Jh X (.For tg iter body [] pos) (dN wi g t):=by
 intro E pins s σ H τ G D hE I h;refine wpAny_For (hU (hi E pins s σ H τ G _ hE I h) fun v s1 h1=>hU h1 fun S9 s2 h2=>?_) hs;obtain⟨it,fp,tn,J,H2,G2,ds,ok,e,nB,m2,T,QF,f2,wk,q⟩:=h2;subst e;have Ua:∀ {H':Hp},(∀ b∈fp,H' b=none)->∀ b∈fp,nC X pins H' b:=fun hn b hb=>⟨hn b hb,(f2 b hb).2⟩;refine codeAny_forLoop_any (fun n s'=>∃ i jX H' qa G',I2 X pins jX H' qa G' s'/\Mv X.K H G H' G'/\Kp H2 H'/\tn i s'.heap/\(∀ b∈fp,H' b=none)/\n=ds.length - i/\i<=ds.length/\pR g t ok (ds.drop i) E D qa G') ?_ ds.length
  ⟨0,σ,H2,τ,G2,I.mv nB m2,m2,.refl _,QF,fun b hb=>(f2 b hb).1,rfl,cw _,q⟩
 rintro n s3 ⟨i,QU,H3,TN,G3,I3,m3,k3,XU,fr3,rfl,hle,w3⟩;by_cases xn:i < ds.length
 ·rw [ib xn] at w3;obtain⟨YZ,w3⟩:=w3;obtain⟨go,yl⟩:=(wk i H3 G3 k3 I3.ab YZ).1 ds[i] (by simp [xn]);refine j9 hp (hU (T.item X rfl rfl rfl hc i pins s3 QU H3 X.xe I3.inv (Ua fr3) XU go) ?_);rintro r s4 ⟨u,hr,h4⟩;subst hr;refine j9 hp (hU h4 ?_);rintro _ s5 ⟨x,H5,I5,r5,y5,YD,fr5⟩;obtain⟨rd5,m5⟩:=yl x H5 y5;have I5':=I5.pinned (Ua fr5) (T.obj _ _ YD);have J5:I2 X (pins++qJ fp s5.heap) QU H5 TN G3 s5:=⟨I5',I3.st.mono (m5.kp I3.ab),m5.ab⟩;refine j9 hp (hU (hg E _ s5 QU H5 TN G3 x ds[i] u _ hE J5 r5 rd5 w3) ?_);rintro _ s6 ⟨σ6,H6,τ6,G6,I6,m6,q6⟩;refine j9 hp (hU (hb E _ s6 σ6 H6 τ6 G6 _ hE I6 q6) fun f s7 q7=>?_);have again:∀ {MW:L2.St} {H7:Hp} {MV:iN} {G7:Gp},I2 X (pins++qJ fp s5.heap) MW H7 MV G7 s7->Mv X.K H6 G6 H7 G7->pR g t ok (ds.drop (i+1)) E D MV G7 ->
    ∃ m,m < ds.length - i/\∃ i jX H' qa G',I2 X pins jX H' qa G' s7/\Mv X.K H G H' G'/\Kp H2 H'/\tn i s7.heap/\(∀ b∈fp,H' b=none)/\m=ds.length - i/\i<=ds.length/\pR g t ok (ds.drop i) E D qa G':=fun {MW H7 MV G7} I7 m7 n7=>by
   have mm:=m5.trans (m6.trans m7);refine⟨ds.length - (i+1),by lia,i+1,MW,H7,MV,G7,⟨I7.inv.tY,I7.st,I7.ab⟩,m3.trans mm,k3.trans (mm.kp I3.ab),T.keep _ _ _ YD fun b hb o e=>(I7.inv.pin (b,o) (dg _ (dg _ (pb hb e)))).1,fun b hb=>?_,rfl,xn,n7⟩;obtain⟨o,e,d⟩:=T.obj _ _ YD b hb;exact(I7.inv.pin (b,o) (dg _ (dg _ (pb hb e)))).2.1
  cases f with
  | next=>obtain⟨MW,H7,MV,G7,I7,m7,n7⟩:=q7; exact again I7 m7 n7
  | cont=>obtain⟨MW,H7,MV,G7,I7,m7,n7⟩:=q7; exact again I7 m7 n7
  | brk=>obtain⟨MW,H7,MV,G7,I7,m7,q7⟩:=q7; exact⟨MW,H7,MV,G7,⟨I7.inv.tY,I7.st,I7.ab⟩,m3.trans (m5.trans (m6.trans m7)),q7⟩
  | ret v=>obtain⟨x7,MW,H7,d7,G7,I7,m7,r7,rd7,q7⟩:=q7; exact⟨x7,MW,H7,d7,G7,I7.tY,m3.trans (m5.trans (m6.trans m7)),r7,rd7,q7⟩
 ·have hn:ds.length<=i:=by lia
  rw [me hn] at w3;obtain⟨YZ,qn⟩:=w3;have stop:=(wk i H3 G3 k3 I3.ab YZ).2 hn;refine j9 hp (hU (T.done X rfl rfl rfl hc i pins s3 QU H3 X.xe I3.inv (Ua fr3) XU stop) ?_);rintro r s4 ⟨hr,I4⟩;subst hr;exact xZ ⟨QU,H3,TN,G3,⟨I4,I3.st,I3.ab⟩,m3,qn⟩
theorem LD{c:Expr}{body:List Stmt}{tc:xT}{t:hV}(hp:PassesOwn (model X.prog X.w) X.A X.env X.xe)(hc:M4 X c tc)(hb:xr X body t):Jh X (.While c body [] pos) (IY tc t):=by
 intro E pins s σ H τ G D hE I h;obtain⟨n0,w0⟩:=h;refine wpAny_While (codeAny_whileLoop (fun n s'=>∃ jX H' qa G',I2 X pins jX H' qa G' s'/\Mv X.K H G H' G'/\Ej tc t n E D qa G') ?_ n0 ⟨σ,H,τ,G,I,.refl I.ab,w0⟩);rintro n s1 ⟨XM,H1,oX,G1,I1,m1,w1⟩;cases n with
 | zero=>exact w1.elim
 | succ n =>
  refine j9 hp (Nu hc hE I1 w1 fun b H2 G2 s2 nB m2 q2=>?_);cases b with
  | true =>
   rw [if_pos rfl] at q2 ⊢;refine j9 hp (hU (hb E pins s2 XM H2 oX G2 _ hE nB q2) fun f s3 q3=>?_);cases f with
   | next=>obtain⟨QU,H3,TN,G3,I3,m3,n3⟩:=q3; exact⟨n,tQ _,QU,H3,TN,G3,I3,m1.trans (m2.trans m3),n3⟩
   | cont=>obtain⟨QU,H3,TN,G3,I3,m3,n3⟩:=q3; exact⟨n,tQ _,QU,H3,TN,G3,I3,m1.trans (m2.trans m3),n3⟩
   | brk=>exact q3.trans (m1.trans m2)
   | ret v=>exact q3.trans (m1.trans m2)
  | false =>
   rw [if_neg gZ] at q2 ⊢;exact xZ ⟨XM,H2,oX,G2,nB,m1.trans m2,q2⟩
end
theorem Cy(n d:Nat)(o:Option Int):HT.jJ n d o=jJ n d o:=by cases o <;> rfl
theorem bg.cut{K:au}{H:Hp}{vs:List V}{ds:List D}(r:bg K H vs ds)(lo hi:Option Int):bg K H (Gk vs lo hi) (K2.cut ds lo hi):=by
 unfold Gk K2.cut;rw [Cy,Cy,r.length];exact(r.drop _).take _
theorem bg.pU{K:au}{H:Hp}{vs:List V}{ds:List D}{i:Int}{d:D}(r:bg K H vs ds)(h:K2.pU ds i=some d):∃ v,L2.pU vs i=some v/\bX K H v d:=by
 unfold K2.pU at h;cases e:K2.GU ds.length i with
 | none=>rw [e] at h; cases h
 | some j =>
  rw [e] at h;obtain⟨v,h1,h2⟩:=r.get (show ds[j]?=some d from h);refine⟨v,?_,h2⟩;show (L2.GU vs.length i).bind _=_;have e':L2.GU vs.length i=some j:=by rw [r.length]; exact e
  rw [e'];exact h1
section
variable {X:Cx} {a b c e:Expr} {ta tb tc te:gJ} {pos p2:Pos}
theorem pG{pins:List (Addr×Obj)}{s:az}{σ:L2.St}{H:Hp}{G:Gp}{x:V}{d:D}{v:Value}{zs:List D}(I:Inv X pins σ H s)(ab:lE X.K H G)(rx:RelV x v)(rd:bX X.K H x d)(hi:qK d G=some zs) :
  ∃ l vs bH,v=.ref l/\Vals vs bH/\bg X.K H vs zs/\s.heap.IsList l bH.toArray/\vs.length<=aZ:=by
 cases rd with
 | cY hq rs =>
  cases hi;cases rx;obtain⟨bH,rv,pl,hz⟩:=I.list hq.sq;exact⟨_,_,bH,rfl,rv,rs,pl.isList,hz⟩
 | ref l =>
  unfold qK at hi;dsimp only at hi;cases hg:G l with
  | none=>rw [hg] at hi; cases hi
  | some gg =>
   rw [hg] at hi;cases gg with
   | lst ds =>
    cases hi;cases rx;obtain⟨vs,hv,rs⟩:=ab.lst hg;obtain⟨bH,rv,pl,hz⟩:=I.list (.of hv);exact⟨_,_,bH,rfl,rv,rs,pl.isList,hz⟩
   | ins _ _=>cases hi
   | qh _=>cases hi
   | gK _=>cases hi
 | _=>cases hi
theorem vV{pins:List (Addr×Obj)}{s:az}{σ:L2.St}{H:Hp}(I:Inv X pins σ H s){m:Str->Option Value}(F0:Fr X.base X.env.locals s.heap m){h':Heap}(F:Fr X.base X.env.locals h' m)(N:News X.base X.env.locals h' (rY X.base s.heap X.env.locals)) :
  (∀ b o,b≠X.env.locals->s.heap.get? b=some o->h'.get? b=some o)/\∀ m',s.heap.Ns X.env.locals m'->h'.Ns X.env.locals m':=by
 refine⟨fun b o hb e=>?_,fun m' hm=>?_⟩
 ·cases q:X.base.get? b with
  | some u =>
   have:=I.bk b u q;rw [e] at this; cases this;exact F.keep b _ q
  | none=>exact(N (b,o) (wR hb q e)).1
 ·have e1:=hm.eq_nsMap;have e2:=F0.ns.eq_nsMap;rw [e1,<-e2]; exact F.ns
theorem j4{P:bI}{w:World}{H:Hp}{h:Heap}{a:Addr}:∀ {o:HO},fH P w H h a o->∃ ob,h.get? a=some ob:=by
 intro o x;cases o with
 | lst _=>obtain⟨_,_,_,_,e⟩:=x; exact⟨_,e⟩
 | tup _=>obtain⟨_,_,_,ob,e,_⟩:=x; exact⟨ob,e⟩
 | dK _=>obtain⟨_,_,_,_,ob,_,_,e,_⟩:=x; exact⟨ob,e⟩
 | dT _=>obtain⟨_,_,_,_,ob,_,_,e,_⟩:=x; exact⟨ob,e⟩
 | set _ _=>obtain⟨ob,_,_,_,e,_⟩:=x; exact⟨ob,e⟩
 | ins _ _ _=>obtain⟨_,_,_,e,_⟩:=x; exact⟨_,e⟩
 | own _=>exact x
 | xd _=>obtain⟨_,⟨ob,_,_,e,_⟩,_⟩:=x; exact⟨ob,e⟩
 | met _ _=>exact⟨_,x⟩
 | XX _ _=>obtain⟨_,_,_,e⟩:=x; exact⟨_,e⟩
 | ja _ _=>exact⟨_,x.1⟩
 | SI _=>obtain⟨_,e,_⟩:=x; exact⟨_,e⟩
 | ext _=>exact x.2.1
theorem Ky{P:bI}{w:World}{H:Hp}{h:Heap}{a:Addr}(ok:pV P w H h)(e:h.get? a=none):H a=none:=by
 cases q:H a with
 | none=>rfl
 | some o =>
  obtain⟨ob,z⟩:=j4 (ok a o q);rw [e] at z; cases z
theorem Inv.S6{pins:List (Addr×Obj)}{s:az}{σ:L2.St}{H:Hp}(I:Inv X pins σ H s){h':Heap}{t':Nat}{a:Addr}{o:HO}(k:∀ b o,b≠X.env.locals->s.heap.get? b=some o->h'.get? b=some o)(ns:∀ m',s.heap.Ns X.env.locals m'->h'.Ns X.env.locals m')
  (hp:s.heap.get? a=none) (new:fH X.prog X.w (upd H a o) h' a o):Inv X pins σ (upd H a o) { s with heap:=h',toks:=t' }:=by
 have hn:H a=none:=Ky I.cn hp;have ne:∀ b u,H b=some u->b≠a:=fun b u e=>dQ e hn;have nL:∀ b u,H b=some u->b≠X.env.locals:=fun b u e=>dQ e I.free;have ht:∀ b u,s.heap.get? b=some u->b≠a:=fun b u e z=>by subst z; rw [hp] at e; cases e
 have thL:∃ o',h'.get? X.env.locals=some o':=by
  obtain⟨m,hm,_⟩:=I.loc;obtain⟨o',_,_,ho,_⟩:=ns m hm;exact⟨o',ho⟩
 refine I.step (g':=s.gens) (d':=s.drawn) (ch:=[]) (fun b hb=>absurd hb (by simp)) (fun b o hL _ _ e _=>k b o hL e) (fun b o hL _ _ e _=>⟨o.slots,k b o hL e⟩) (fun b o _ e n=>by rw [bO (ht b o e)]; exact n)
  (fun b o _ e=>?_) (fun b xs e=>by rw [bO (ne _ _ e)]; exact e) (fun b o u e=>by rw [bO (ne _ _ e)]; exact e) (fun b ps e=>by rw [bO (ne _ _ e)]; exact e) (fun b ps e=>by rw [bO (ne _ _ e)]; exact e) ns (fun b u e=>?_) I.bare
 ·by_cases hb:b=X.env.locals
  ·rw [hb]; exact thL
  ·exact⟨o,k b o hb e⟩
 ·by_cases hb:b=a
  ·subst hb; rw [bU] at e; cases e; exact new
  ·rw [bO hb] at e;refine(I.cn b u e).mi (fun c v hc r=>k c v ?_ r) (fun c z=>by rw [bO (ne _ _ z)]; exact z) (fun c xs z=>by rw [bO (ne _ _ z)]; exact z);rcases hc with rfl | hc
   ·exact nL _ _ e
   ·exact nL _ _ hc
theorem e9:pH X (jh .Add) jP:=by
 intro pins s σ H G x y dx dy v u Q I ab rx ry dX dY q;have lists:DJ dx dy G Q->wpAny (model X.prog X.w) X.A (jh .Add v u) (r8 X pins σ H G Q) X.xe s:=by
  intro q;unfold DJ at q;split at q
  ·rename_i xs ys e1 e2;obtain⟨hz,q⟩:=q;obtain⟨l,vs,bH,rfl,rv,rs,hl,_⟩:=pG I ab rx dX e1;obtain⟨b,ws,si,rfl,Lu,GQ,hb,_⟩:=pG I ab ry dY e2;obtain⟨m,F0⟩:=I.fr;have hsz:bH.length+si.length<=aZ:=by rw [<-rv.length,<-Lu.length,rs.length,GQ.length,cF]; exact hz
   refine PyProof.Rows.add_lists F0 E9 hl hb (fun h' F N=>?_) hsz;obtain⟨kk,ns⟩:=vV I F0 F fun p hp=>N p (aL _ hp);have hp:H s.heap.objs.size=none:=I.cn.fresh (aC _);refine⟨.ref s.heap.objs.size,upd H s.heap.objs.size (.lst (vs++ws)),.ref _,_,Inv.S6 (t':=s.toks) I kk ns (QT (aC _)) ?_,.Ia ab hp (rs.append GQ),rfl,.ref _,q _ (ab.free hp)⟩;exact⟨by rw [aE,rv.length,Lu.length]; exact hsz,bH++si,0,rv.append Lu,(N _ cp).1⟩
  ·exact q.elim
 cases dX with
 | int i =>
  cases dY with
  | int j=>exact hU (UI pins s σ H _ _ v u (B9 X.K H G Q) I rx ry ⟨i,j,rfl,rfl,_,_,.refl ab,.int _,q⟩) fun _ _ z=>.of z
  | _=>exact lists q
 | str i =>
  cases dY with
  | str j =>
   obtain⟨hz,q⟩:=q;exact hU (HV pins s σ H _ _ v u (B9 X.K H G Q) I rx ry ⟨i,j,rfl,rfl,by rw [cF]; exact hz,_,_,.refl ab,.str _,q⟩) fun _ _ z=>.of z
  | _=>exact lists q
 | tup h1 r1 =>
  cases dY with
  | tup h2 r2 =>
   obtain⟨hn,hz,q⟩:=q;refine hU (RG pins s σ H _ _ v u (B9 X.K H G Q) I rx ry ⟨_,_,_,_,rfl,rfl,.of h1,.of h2,?_,?_,fun e=>?_,fun e p hp=>?_⟩) fun _ _ z=>.of z
   ·rintro rfl; cases r1; exact hn rfl
   ·rw [r1.length,r2.length,cF]; exact hz
   ·subst e;cases r2;rw [dq] at q;exact⟨_,_,.refl ab,.tup h1 r1,q⟩
   ·exact⟨_,_,.Mf ab hp,.tup bU ((r1.append r2).mono (.new hp)),q⟩
  | _=>exact lists q
 | ref l=>exact lists (by rw [uk] at q; exact q)
 | cY _ _=>exact lists (by rw [yH] at q; exact q)
 | _=>exact lists (by cases dY <;> exact q)
theorem CJ:pH X (jh .Sub) N1:=by
 intro pins s σ H G x y dx dy v u Q I ab rx ry dX dY q;cases dX with
 | int i =>
  cases dY with
  | int j=>exact hU (UD pins s σ H _ _ v u (B9 X.K H G Q) I rx ry ⟨i,j,rfl,rfl,_,_,.refl ab,.int _,q⟩) fun _ _ z=>.of z
  | _=>exact bN q
 | _=>exact bN q
theorem xH:pH X (jh .Mult) LA:=by
 intro pins s σ H G x y dx dy v u Q I ab rx ry dX dY q;cases dX with
 | int i =>
  cases dY with
  | int j=>exact hU (UE pins s σ H _ _ v u (B9 X.K H G Q) I rx ry ⟨i,j,rfl,rfl,q.1,_,_,.refl ab,.int _,q.2⟩) fun _ _ z=>.of z
  | _=>exact bN q
 | _=>exact bN q
theorem km:pH X (jh .Mod) sR:=by
 intro pins s σ H G x y dx dy v u Q I ab rx ry dX dY q;cases dX with
 | int i =>
  cases dY with
  | int j=>exact hU (UG pins s σ H _ _ v u (B9 X.K H G Q) I rx ry ⟨i,j,rfl,rfl,q.1,_,_,.refl ab,.int _,q.2⟩) fun _ _ z=>.of z
  | _=>exact bN q
 | _=>exact bN q
theorem yP:pH X (jh .FloorDiv) EL:=by
 intro pins s σ H G x y dx dy v u Q I ab rx ry dX dY q;cases dX with
 | int i =>
  cases dY with
  | int j=>exact hU (RF pins s σ H _ _ v u (B9 X.K H G Q) I rx ry ⟨i,j,rfl,rfl,⟨q.1,q.2.1⟩,_,_,.refl ab,.int _,q.2.2⟩) fun _ _ z=>.of z
  | _=>exact bN q
 | _=>exact bN q
theorem HW(hu:X.A.units < cLine):pH X (fb .Lt) Wh:=by
 intro pins s σ H G x y dx dy v u Q I ab rx ry dX dY q;cases dX with
 | int i =>
  cases dY with
  | int j=>exact hU (Wq pins s σ H _ _ v u (B9 X.K H G Q) I rx ry ⟨i,j,rfl,rfl,_,_,.refl ab,.bl _,q⟩) fun _ _ z=>.of z
  | _=>exact bN q
 | tup h1 r1 =>
  cases dY with
  | tup h2 r2 =>
   obtain⟨xs,ys,e1,e2,q⟩:=q;subst e1 e2;have z1:=r1.ints;have z2:=r2.ints;subst z1 z2;have el:∀ xs ys:List Int,HT.lexLt xs ys=K2.lexLt xs ys:=by
    intro xs;induction xs with
    | nil=>intro ys; cases ys <;> rfl
    | cons x xs ih=>intro ys; cases ys with
     | nil=>rfl
     | cons y ys=>unfold HT.lexLt K2.lexLt; rw [ih]
   exact hU (UH hu pins s σ H _ _ v u (B9 X.K H G Q) I rx ry ⟨_,_,xs,ys,rfl,rfl,.of h1,.of h2,_,_,.refl ab,.bl _,by rw [el]; exact q⟩) fun _ _ z=>.of z
  | _=>exact bN q
 | _=>exact bN q
mutual
noncomputable def pd:D->PyData
 | .eQ=>.none
 | .bl b=>.bool b
 | .int i=>.int i
 | .str x=>.str x
 | .tup ds=>.tuple (lY ds)
 | .cY ds=>.list (lY ds)
 | .j8 _=>.none
 | .exc _=>.none
 | .FZ _ _ _=>.none
 | .oF _=>.none
 | .ref _=>.none
noncomputable def lY:List D->List PyData
 | []=>[]
 | d :: r=>pd d :: lY r
end
mutual
theorem tw:∀ (s t:D),nr s=true->nr t=true->qf (pd s) (pd t)=ij s t
 | .eQ,t,_,ht=>by cases t <;> first | rfl | (exact bA (show false=true from ht))
 | .bl a,t,_,ht=>by cases t <;> first | rfl | (exact bA (show false=true from ht))
 | .int a,t,_,ht=>by cases t <;> first | rfl | (exact bA (show false=true from ht))
 | .str a,t,_,ht=>by cases t <;> first | rfl | (exact bA (show false=true from ht))
 | .tup a,t,hs,ht=>by
  cases t with
  | tup b=>exact De a b hs ht
  | ref _=>exact bA (show false=true from ht)
  | exc _=>exact bA (show false=true from ht)
  | FZ _ _ _=>exact bA (show false=true from ht)
  | oF _=>exact bA (show false=true from ht)
  | j8 _=>exact bA (show false=true from ht)
  | _=>rfl
 | .cY a,t,hs,ht=>by
  cases t with
  | cY b=>exact De a b hs ht
  | ref _=>exact bA (show false=true from ht)
  | exc _=>exact bA (show false=true from ht)
  | FZ _ _ _=>exact bA (show false=true from ht)
  | oF _=>exact bA (show false=true from ht)
  | j8 _=>exact bA (show false=true from ht)
  | _=>rfl
 | .ref _,_,hs,_=>bA (show false=true from hs)
 | .exc _,_,hs,_=>bA (show false=true from hs)
 | .FZ _ _ _,_,hs,_=>bA (show false=true from hs)
 | .oF _,_,hs,_=>bA (show false=true from hs)
 | .j8 _,_,hs,_=>bA (show false=true from hs)
theorem De:∀ (s t:List D),pN s=true->pN t=true->PyData.eqvAll (lY s) (lY t)=lA s t
 | [],[],_,_=>rfl
 | [],_ :: _,_,_=>rfl
 | _ :: _,[],_,_=>rfl
 | a :: r,b :: t,hs,ht=>by
  have Te:nr a=true/\pN r=true:=(j7).mp hs;have VL:nr b=true/\pN t=true:=(j7).mp ht;show (qf (pd a) (pd b)&&PyData.eqvAll (lY r) (lY t))=(ij a b&&lA r t);rw [tw a b Te.1 VL.1,De r t Te.2 VL.2]
end
mutual
theorem kq:∀ (s:D),nr s=true->(pd s).canLay0=true
 | .eQ,_=>rfl
 | .bl a,_=>rfl
 | .int a,_=>rfl
 | .str a,h=>h
 | .tup a,h=>uH a h
 | .cY a,h=>uH a h
 | .exc _,_=>rfl
 | .FZ _ _ _,_=>rfl
 | .oF _,_=>rfl
 | .ref _,_=>rfl
 | .j8 _,_=>rfl
theorem uH:∀ (s:List D),pN s=true->PyData.canLayAll0 (lY s)=true
 | [],_=>rfl
 | a :: r,h=>by
  have h':nr a=true/\pN r=true:=(j7).mp h;show ((pd a).canLay0&&PyData.canLayAll0 (lY r))=true;rw [kq a h'.1,uH r h'.2]; rfl
end
theorem zJ{G:Gp}{n:Nat}{d t:D}(h:Sn G n d t):(pd t).depth<=n:=by
 induction h with
 | eQ=>exact cw _
 | bl b=>exact cw _
 | int i=>exact cw _
 | str x h=>exact cw _
 | HC=>exact tP (cw _)
 | qy _ _ Pb Pa =>
  exact tP (Nat.max_le.mpr ⟨Pb,tV Pa⟩)
 | EA=>exact tP (cw _)
 | yE _ _ Pb Pa =>
  exact tP (Nat.max_le.mpr ⟨Pb,tV Pa⟩)
 | ref _ _ ih=>exact ih
theorem gU{pins:List (Addr×Obj)}{σ:L2.St}{H:Hp}{s:az}{G:Gp}(I:Inv X pins σ H s)(ab:lE X.K H G){n:Nat}{d t:D}(h:Sn G n d t) :
  (∀ v u,bX X.K H v d->RelV v u->∃ as,Reads s.heap u (pd t) as) /\
  (∀ ds ss,(d=.cY ds/\t=.cY ss)\/(d=.tup ds/\t=.tup ss)->∀ vs us,bg X.K H vs ds->Vals vs us->∃ as,gY s.heap us (lY ss) as):=by
 have SH:∀ {ds ss:List D},(∀ vs us,bg X.K H vs ds->Vals vs us->∃ as,gY s.heap us (lY ss) as)->∀ v u,bX X.K H v (.tup ds)->RelV v u->∃ as,Reads s.heap u (pd (.tup ss)) as:=by
  intro ds ss k v u r ru;cases r with
  | tup hq rs =>
   cases ru;obtain⟨bH,rv,⟨o,ho,hc,n,hd⟩,hz⟩:=I.tuple (.of hq);obtain⟨as,ra⟩:=k _ bH rs rv;exact⟨as,.tuple ho hc hd (by simpa using ra)⟩
 have SR:∀ {ds ss:List D},(∀ vs us,bg X.K H vs ds->Vals vs us->∃ as,gY s.heap us (lY ss) as)->∀ v u,bX X.K H v (.cY ds)->RelV v u->∃ as,Reads s.heap u (pd (.cY ss)) as:=by
  intro ds ss k v u r ru;cases r with
  | cY hq rs =>
   cases ru;obtain⟨bH,rv,pl,hz⟩:=I.list hq.sq;obtain⟨o,ho,hc,n,hd⟩:=pl.isList;obtain⟨as,ra⟩:=k _ bH rs rv;exact⟨_,.list ho hc hd (by simpa using ra)⟩
 induction h with
 | eQ=>exact⟨fun v u r ru=>by cases r; cases ru; exact⟨_,.none⟩,fun ds ss e=>by rcases e with ⟨e,_⟩ | ⟨e,_⟩ <;> cases e⟩
 | bl b=>exact⟨fun v u r ru=>by cases r; cases ru; exact⟨_,.bool b⟩,fun ds ss e=>by rcases e with ⟨e,_⟩ | ⟨e,_⟩ <;> cases e⟩
 | int i=>exact⟨fun v u r ru=>by cases r; obtain⟨t,rfl⟩:=ru; exact⟨_,.int i t⟩,fun ds ss e=>by rcases e with ⟨e,_⟩ | ⟨e,_⟩ <;> cases e⟩
 | str x hx=>exact⟨fun v u r ru=>by cases r; obtain⟨t,rfl⟩:=ru; exact⟨_,.str x t⟩,fun ds ss e=>by rcases e with ⟨e,_⟩ | ⟨e,_⟩ <;> cases e⟩
 | HC =>
  have k:∀ vs us,bg X.K H vs []->Vals vs us->∃ as,gY s.heap us (lY []) as:=fun vs us r ru=>by
   have e:=r.zero;subst e;cases ru;exact⟨_,.nil⟩
  refine⟨SH k,fun ds ss e=>?_⟩;rcases e with ⟨e,_⟩ | ⟨e,e2⟩
  ·cases e
  ·cases e; cases e2; exact k
 | qy h1 h2 Pb Pa =>
  have k2:=Pa.2 _ _ (.inr ⟨rfl,rfl⟩);have k:∀ vs us,bg X.K H vs (_ :: _)->Vals vs us->∃ as,gY s.heap us (lY (_ :: _)) as:=fun vs us r ru=>by
   cases r with
   | cons r1 r2 =>
    cases ru with
    | cons u1 u2 =>
     obtain⟨as,ra⟩:=Pb.1 _ _ r1 u1;obtain⟨bs,rb⟩:=k2 _ _ r2 u2;exact⟨_,.cons ra rb⟩
  refine⟨SH k,fun ds ss e=>?_⟩;rcases e with ⟨e,_⟩ | ⟨e,e2⟩
  ·cases e
  ·cases e; cases e2; exact k
 | EA =>
  have k:∀ vs us,bg X.K H vs []->Vals vs us->∃ as,gY s.heap us (lY []) as:=fun vs us r ru=>by
   have e:=r.zero;subst e;cases ru;exact⟨_,.nil⟩
  refine⟨SR k,fun ds ss e=>?_⟩;rcases e with ⟨e,e2⟩ | ⟨e,_⟩
  ·cases e; cases e2; exact k
  ·cases e
 | yE h1 h2 Pb Pa =>
  have k2:=Pa.2 _ _ (.inl ⟨rfl,rfl⟩);have k:∀ vs us,bg X.K H vs (_ :: _)->Vals vs us->∃ as,gY s.heap us (lY (_ :: _)) as:=fun vs us r ru=>by
   cases r with
   | cons r1 r2 =>
    cases ru with
    | cons u1 u2 =>
     obtain⟨as,ra⟩:=Pb.1 _ _ r1 u1;obtain⟨bs,rb⟩:=k2 _ _ r2 u2;exact⟨_,.cons ra rb⟩
  refine⟨SR k,fun ds ss e=>?_⟩;rcases e with ⟨e,e2⟩ | ⟨e,_⟩
  ·cases e; cases e2; exact k
  ·cases e
 | ref hg h1 ih =>
  refine⟨fun v u r ru=>?_,fun ds ss e=>by rcases e with ⟨e,_⟩ | ⟨e,_⟩ <;> cases e⟩;cases r;cases ru;obtain⟨vs,hv,rs⟩:=ab.lst hg;obtain⟨bH,rv,pl,hz⟩:=I.list (.of hv);obtain⟨o,ho,hc,n,hd⟩:=pl.isList;obtain⟨as,ra⟩:=ih.2 _ _ (.inl ⟨rfl,rfl⟩) vs bH rs rv;exact⟨_,.list ho hc hd (by simpa using ra)⟩
theorem o7(hu:X.A.units+64 < cLine):pH X (fb .Eq) (GR false):=by
 intro pins s σ H G x y dx dy v u Q I ab rx ry dX dY q;obtain⟨a,b,sa,sb,q⟩:=q;obtain⟨as,ra⟩:=(gU I ab sa).1 x v dX rx;obtain⟨bs,rb⟩:=(gU I ab sb).1 y u dY ry;have d1:=zJ sa;refine SeqAt.compareEq_reads ra rb (kq _ sa.nr) (kq _ sb.nr) (by unfold SN at d1; lia) ?_;rw [tw _ _ sa.nr sb.nr];exact⟨.bl _,H,.bl _,G,I,.refl ab,rfl,.bl _,q⟩
theorem vS(hu:X.A.units+64 < cLine):pH X (fb .NotEq) (GR true):=by
 intro pins s σ H G x y dx dy v u Q I ab rx ry dX dY q;obtain⟨a,b,sa,sb,q⟩:=q;obtain⟨as,ra⟩:=(gU I ab sa).1 x v dX rx;obtain⟨bs,rb⟩:=(gU I ab sb).1 y u dY ry;have d1:=zJ sa;refine SeqAt.compareNe_reads ra rb (kq _ sa.nr) (kq _ sb.nr) (by unfold SN at d1; lia) ?_;rw [tw _ _ sa.nr sb.nr];exact⟨.bl _,H,.bl _,G,I,.refl ab,rfl,.bl _,q⟩
end
theorem uV(j k:Key):ij (eC j) (eC k)=decide (j=k):=by
 cases j with
 | inl a=>cases k with
  | inl b=>rw [OT]; rfl
  | inr b=>exact(decide_eq_false (fun z=>nomatch z)).symm
 | inr a=>cases k with
  | inl b=>exact(decide_eq_false (fun z=>nomatch z)).symm
  | inr b=>rw [OS]; exact(QB a b)
theorem BO:∀ (js ks:List Key),lA (js.map eC) (ks.map eC)=decide (js=ks)
 | [],[]=>(decide_eq_true rfl).symm
 | [],_ :: _=>(decide_eq_false (fun z=>nomatch z)).symm
 | _ :: _,[]=>(decide_eq_false (fun z=>nomatch z)).symm
 | j :: js,k :: ks=>by
  show (ij (eC j) (eC k)&&lA (js.map eC) (ks.map eC))=_;rw [uV,BO js ks,Gf]
theorem qQ(js ks:List Key):ij (.tup (js.map eC)) (.tup (ks.map eC))=decide (js=ks):=by
 exact BO js ks
section
variable {K:au} {H:Hp}
theorem uK{d:D}(h:dE d=true):∃ k:Key,d=eC k:=by
 cases d with
 | int i=>exact⟨.inl i,rfl⟩
 | str x=>exact⟨.inr x,rfl⟩
 | _=>exact absurd h (by simp [dE])
theorem Kh:∀ {ds:List D},ds.all dE=true->∃ ks:List Key,ds=ks.map eC
 | [],_=>⟨[],rfl⟩
 | d :: r,h=>by
  rw [lK,aJ] at h;obtain⟨k,rfl⟩:=uK h.1;obtain⟨ks,rfl⟩:=Kh h.2;exact⟨k :: ks,rfl⟩
theorem Ki{d:D}(h:kR d=true):∃ ks:List Key,d=.tup (ks.map eC):=by
 cases d with
 | tup ds=>obtain⟨ks,rfl⟩:=Kh (ds:=ds) h; exact⟨ks,rfl⟩
 | _=>exact absurd h (by simp [kR])
theorem uc{v:V}{k:Key}(r:bX K H v (eC k)):v=kV k:=by
 cases k with
 | inl i=>cases r; rfl
 | inr x=>cases r; rfl
theorem EB:∀ {vs:List V} {ks:List Key},bg K H vs (ks.map eC)->vs=ks.map kV
 | _,[],r=>r.zero
 | _,k :: ks,r=>by
  rw [ao] at r;cases r with
  | cons r1 r2=>rw [uc r1,EB r2]; rfl
theorem ED{v:V}{ks:List Key}(r:bX K H v (.tup (ks.map eC))):∃ b,v=.ref b/\H b=some (.tup (ks.map kV)):=by
 cases r with
 | tup h rs=>have e:=EB rs; subst e; exact⟨_,rfl,h⟩
theorem lN.look{kv:List (Key×V)}{kvs:List (D×D)}(r:lN K H kv kvs)(k:Key):(∃ v d,mf kv k=some v/\K2.look kvs (eC k)=some d/\bX K H v d)\/(mf kv k=none/\K2.look kvs (eC k)=none):=by
 induction r using lN.ind with
 | nil=>exact .inr ⟨rfl,rfl⟩
 | @cons j v d r t rd rs ih =>
  by_cases e:j=k
  ·left;refine⟨v,d,qv (p:=(j,v)) e,?_,rd⟩;unfold K2.look;rw [cg (by show ij (eC j) (eC k)=true; rw [uV]; exact decide_eq_true e)]; rfl
  ·have e1:mf ((j,v) :: r) k=mf r k:=qw (p:=(j,v)) e;have e2:K2.look ((eC j,d) :: t) (eC k)=K2.look t (eC k):=by
    unfold K2.look;rw [ck (by show ¬ ij (eC j) (eC k)=true; rw [uV]; simpa using e)]
   rw [e1,e2];exact ih
theorem my.look{kv:List (List Key×V)}{kvs:List (D×D)}(r:my K H kv kvs)(k:List Key):(∃ v d,mf kv k=some v/\K2.look kvs (.tup (k.map eC))=some d/\bX K H v d)\/(mf kv k=none/\K2.look kvs (.tup (k.map eC))=none):=by
 induction r using my.ind with
 | nil=>exact .inr ⟨rfl,rfl⟩
 | @cons j v d r t rd rs ih =>
  by_cases e:j=k
  ·left;refine⟨v,d,qv (p:=(j,v)) e,?_,rd⟩;unfold K2.look;rw [cg (by show ij (.tup (j.map eC)) (.tup (k.map eC))=true; rw [qQ]; exact decide_eq_true e)]; rfl
  ·have e1:mf ((j,v) :: r) k=mf r k:=qw (p:=(j,v)) e;have e2:K2.look ((.tup (j.map eC),d) :: t) (.tup (k.map eC))=K2.look t (.tup (k.map eC)):=by
    unfold K2.look;rw [ck (by show ¬ ij (.tup (j.map eC)) (.tup (k.map eC))=true; rw [qQ]; simpa using e)]
   rw [e1,e2];exact ih
theorem lN.any{kv:List (Key×V)}{kvs:List (D×D)}(r:lN K H kv kvs)(k:Key):(kv.any fun p=>decide (p.1=k))=kvs.any fun p=>ij p.1 (eC k):=by
 induction r using lN.ind with
 | nil=>rfl
 | @cons j v d r t rd rs ih=>simp only [lJ]; rw [ih,uV]
theorem my.any{kv:List (List Key×V)}{kvs:List (D×D)}(r:my K H kv kvs)(k:List Key):(kv.any fun p=>decide (p.1=k))=kvs.any fun p=>ij p.1 (.tup (k.map eC)):=by
 induction r using my.ind with
 | nil=>rfl
 | @cons j v d r t rd rs ih=>simp only [lJ]; rw [ih,qQ]
theorem lN.put{kv:List (Key×V)}{kvs:List (D×D)}(r:lN K H kv kvs)(k:Key){v:V}{d:D}(rd:bX K H v d):lN K H (putK kv k v) (K2.put kvs (eC k) d):=by
 unfold putK K2.put;rw [r.any k];by_cases h:(kvs.any fun p=>ij p.1 (eC k))=true
 ·rw [if_pos h,if_pos h];clear h;induction r using lN.ind with
  | nil=>exact .nil
  | @cons j w e r t re rs ih =>
   simp only [ao];rw [uV];by_cases e:j=k
   ·simp only [e,if_true,decide_true]; exact .cons rd ih
   ·simp only [e,if_false,decide_false,ar]; exact .cons re ih
 ·rw [if_neg h,if_neg h];clear h;induction r using lN.ind with
  | nil=>exact .cons rd .nil
  | cons re rs ih=>exact .cons re ih
theorem my.put{kv:List (List Key×V)}{kvs:List (D×D)}(r:my K H kv kvs)(k:List Key){v:V}{d:D}(rd:bX K H v d):my K H (putK kv k v) (K2.put kvs (.tup (k.map eC)) d):=by
 unfold putK K2.put;rw [r.any k];by_cases h:(kvs.any fun p=>ij p.1 (.tup (k.map eC)))=true
 ·rw [if_pos h,if_pos h];clear h;induction r using my.ind with
  | nil=>exact .nil
  | @cons j w e r t re rs ih =>
   simp only [ao];rw [qQ];by_cases e:j=k
   ·simp only [e,if_true,decide_true]; exact .cons rd ih
   ·simp only [e,if_false,decide_false,ar]; exact .cons re ih
 ·rw [if_neg h,if_neg h];clear h;induction r using my.ind with
  | nil=>exact .cons rd .nil
  | cons re rs ih=>exact .cons re ih
end
theorem Kp.putD{H:Hp}{p:Addr}{o o':HO}(hp:H p=some o)(h:(∃ k,o=.dK k)\/∃ k,o=.dT k):Kp H (upd H p o') :=
 ⟨fun a ys e=>by rw [bO (by rintro rfl; rw [hp] at e; rcases h with ⟨_,rfl⟩ | ⟨_,rfl⟩ <;> cases e)]; exact e,fun a ob u e=>by rw [bO (by rintro rfl; rw [hp] at e; rcases h with ⟨_,rfl⟩ | ⟨_,rfl⟩ <;> cases e)]; exact e⟩
section
variable {X:Cx} {pins:List (Addr×Obj)} {σ:L2.St} {H:Hp} {s:az} {G:Gp} {a:Addr} {kvs:List (D×D)} {k:D} {y:V}
theorem toT(I:Inv X pins σ H s)(e:H a=some (.dK [])):Inv X pins σ (upd H a (.dT [])) s:=by
 obtain⟨z,hd,vs,rel,dd⟩:=BW I.cn e;have hv:vs=[]:=by cases rel; rfl
 subst hv;obtain⟨o,es,ep,ho,hx,Av,hko,hl,nd⟩:=dd;have he:es=#[]:=by
  cases hq:es.toList with
  | nil=>simpa using hq
  | cons _ _=>rw [hq] at hl; cases hl
 subst he;exact I.write (h':=s.heap) (t':=s.toks) (x:=a) (e:=a) (by rw [e]; exact gq) (.inl rfl) (fun b u _ q=>q) ⟨o,ho⟩ ⟨cw _,hd,[],.nil,o,#[],ep,ho,hx,Av,rfl,cf⟩
theorem toK(I:Inv X pins σ H s)(e:H a=some (.dT [])):Inv X pins σ (upd H a (.dK [])) s:=by
 obtain⟨z,hd,xs,rel,o,es,ep,ho,hx,Av,hl,nd⟩:=I.cn a _ e;have hv:xs=[]:=by cases rel; rfl
 subst hv;have he:es=#[]:=by simpa using hl
 subst he;exact I.write (h':=s.heap) (t':=s.toks) (x:=a) (e:=a) (by rw [e]; exact gq) (.inl rfl) (fun b u _ q=>q) ⟨o,ho⟩ ⟨cw _,hd,[],.nil,o,#[],ep,ho,hx,Av,(fun _ h=>by simp at h),.nil,cf⟩
theorem Ke{o:HO}(ab:lE X.K H G)(hg:G a=some (.gK kvs))(k:Kp H (upd H a o))(ho:Ha X.K (upd H a o) a (.gK kvs)):Mv X.K H G (upd H a o) G:=by
 have m:=Mv.put ab hg k ho;have e:eA G a (.gK kvs)=G:=by
  funext b; unfold eA; split
  ·rename_i z; rw [z,hg]
  ·rfl
 rw [e] at m;exact m
theorem Dp(I:Inv X pins σ H s)(ab:lE X.K H G)(hg:G a=some (.gK kvs))(hk:ie kvs k=true)(ry:bX X.K H y k) :
  ∃ H',Inv X pins σ H' s/\Mv X.K H G H' G/\((∃ (kv:List (Key×V)) (kk:Key),H' a=some (.dK kv)/\lN X.K H' kv kvs/\k=eC kk/\y=kV kk)\/∃ (kv:List (List Key×V)) (kk:List Key) (b:Addr),H' a=some (.dT kv)/\my X.K H' kv kvs/\k=.tup (kk.map eC)/\y=.ref b/\H' b=some (.tup (kk.map kV))):=by
 unfold ie at hk;rw [iu,aJ,aJ] at hk;rcases hk with ⟨h1,h2⟩ | ⟨h1,h2⟩
 ·obtain⟨kk,rfl⟩:=uK h1;have ey:=uc ry;subst ey;rcases ab a _ hg with ⟨kv,hv,rs⟩ | ⟨kv,hv,rs⟩
  ·exact⟨H,I,.refl ab,.inl ⟨kv,kk,hv,rs,rfl,rfl⟩⟩
  ·cases rs with
   | nil =>
    refine⟨_,toK I hv,Ke ab hg (.putD hv (.inr ⟨_,rfl⟩)) (.inl ⟨[],bU,.nil⟩),.inl ⟨[],kk,bU,.nil,rfl,rfl⟩⟩
   | cons _ _=>simp [dE] at h2
 ·obtain⟨kk,rfl⟩:=Ki h1;obtain⟨b,rfl,hb⟩:=ED ry;rcases ab a _ hg with ⟨kv,hv,rs⟩ | ⟨kv,hv,rs⟩
  ·cases rs with
   | nil =>
    have kp:Kp H (upd H a (.dT [])):=.putD hv (.inl ⟨_,rfl⟩);exact⟨_,toT I hv,Ke ab hg kp (.inr ⟨[],bU,.nil⟩),.inr ⟨[],kk,b,bU,.nil,rfl,rfl,kp.tup _ _ hb⟩⟩
   | @cons j _ _ _ _ _ _=>cases j <;> simp [eC,kR] at h2
  ·exact⟨H,I,.refl ab,.inr ⟨kv,kk,b,hv,rs,rfl,rfl,hb⟩⟩
theorem Ge(I:Inv X pins σ H s)(ab:lE X.K H G)(hg:G a=some (.gK kvs))(hk:ie kvs k=true)(ry:bX X.K H y k) :
  ∃ H' o,Inv X pins σ H' s/\Mv X.K H G H' G/\Ac H' a y o/\o.isSome=(look kvs k).isSome/\∀ d,look kvs k=some d->∃ v,o=some v/\bX X.K H' v d:=by
 obtain⟨H',I',m,h⟩:=Dp I ab hg hk ry;rcases h with ⟨kv,kk,hv,rs,rfl,rfl⟩ | ⟨kv,kk,b,hv,rs,rfl,rfl,hb⟩
 ·refine⟨H',mf kv kk,I',m,.k hv,?_,fun d hd=>?_⟩
  ·rcases rs.look kk with ⟨v,d,e1,e2,_⟩ | ⟨e1,e2⟩ <;> rw [e1,e2] <;> rfl
  ·rcases rs.look kk with ⟨v,d',e1,e2,r⟩ | ⟨e1,e2⟩
   ·rw [e2] at hd; cases hd; exact⟨v,e1,r⟩
   ·rw [e2] at hd; cases hd
 ·refine⟨H',mf kv kk,I',m,.t hv hb,?_,fun d hd=>?_⟩
  ·rcases rs.look kk with ⟨v,d,e1,e2,_⟩ | ⟨e1,e2⟩ <;> rw [e1,e2] <;> rfl
  ·rcases rs.look kk with ⟨v,d',e1,e2,r⟩ | ⟨e1,e2⟩
   ·rw [e2] at hd; cases hd; exact⟨v,e1,r⟩
   ·rw [e2] at hd; cases hd
theorem Cz{x:V}(I:Inv X pins σ H s)(rd:bX X.K H x (.j8 kvs))(hk:ie kvs k=true)(ry:bX X.K H y k) :
  ∃ a o,x=.ref a/\(kvs=[]\/Ac H a y o)/\o.isSome=(look kvs k).isSome/\∀ d,look kvs k=some d->∃ v,o=some v/\bX X.K H v d:=by
 unfold ie at hk;rw [iu,aJ,aJ] at hk;cases rd with
 | oj h rs =>
  rename_i a ob kv;rcases hk with ⟨h1,h2⟩ | ⟨h1,h2⟩
  ·obtain⟨kk,rfl⟩:=uK h1;have ey:=uc ry;subst ey;refine⟨a,mf kv kk,rfl,.inr (.inl ⟨kv,kk,.inr ⟨_,h⟩,rfl,rfl⟩),?_,fun d hd=>?_⟩
   ·rcases rs.look kk with ⟨v,d,e1,e2,_⟩ | ⟨e1,e2⟩ <;> rw [e1,e2] <;> rfl
   ·rcases rs.look kk with ⟨v,d',e1,e2,r⟩ | ⟨e1,e2⟩
    ·rw [e2] at hd; cases hd; exact⟨v,e1,r⟩
    ·rw [e2] at hd; cases hd
  ·cases rs with
   | nil=>exact⟨a,none,rfl,.inl rfl,rfl,fun d hd=>by cases hd⟩
   | cons _ _ =>
    rename_i kx _ _ _ _ _ _;rw [lK,aJ] at h2;cases kx <;> exact absurd h2.1 (by simp [eC,kR])
 | oi h rs =>
  rename_i a ob kv;rcases hk with ⟨h1,h2⟩ | ⟨h1,h2⟩
  ·cases rs with
   | nil=>exact⟨a,none,rfl,.inl rfl,rfl,fun d hd=>by cases hd⟩
   | cons _ _ =>
    rw [lK,aJ] at h2;exact absurd h2.1 (by simp [dE])
  ·obtain⟨kk,rfl⟩:=Ki h1;obtain⟨b,rfl,hb⟩:=ED ry;refine⟨a,mf kv kk,rfl,.inr (.inr ⟨kv,kk,b,.inr ⟨_,h⟩,rfl,hb,rfl⟩),?_,fun d hd=>?_⟩
   ·rcases rs.look kk with ⟨v,d,e1,e2,_⟩ | ⟨e1,e2⟩ <;> rw [e1,e2] <;> rfl
   ·rcases rs.look kk with ⟨v,d',e1,e2,r⟩ | ⟨e1,e2⟩
    ·rw [e2] at hd; cases hd; exact⟨v,e1,r⟩
    ·rw [e2] at hd; cases hd
theorem PS{v:V}{d:D}(I:Inv X pins σ H s)(ab:lE X.K H G)(hg:G a=some (.gK kvs))(hk:ie kvs k=true)(hz:kvs.length < SZ)(ry:bX X.K H y k)(rv:bX X.K H v d) :
  ∃ H' H'',Inv X pins σ H' s/\MN H' a y v H''/\Mv X.K H G H'' (eA G a (.gK (put kvs k d))):=by
 obtain⟨H',I',m,h⟩:=Dp I ab hg hk ry;have rv':=rv.mono (m.kp ab);have sz:aZ=16777216:=cF;rcases h with ⟨kv,kk,hv,rs,rfl,rfl⟩ | ⟨kv,kk,b,hv,rs,rfl,rfl,hb⟩
 ·have kp:Kp H' (upd H' a (.dK (putK kv kk v))):=.putD hv (.inl ⟨_,rfl⟩);exact⟨H',_,I',.k hv (by rw [rs.length,sz]; exact hz),m.trans (.put m.ab hg kp (.inl ⟨_,bU,(rs.put kk rv').mono kp⟩))⟩
 ·have kp:Kp H' (upd H' a (.dT (putK kv kk v))):=.putD hv (.inr ⟨_,rfl⟩);exact⟨H',_,I',.t hv hb (by rw [rs.length,sz]; exact hz),m.trans (.put m.ab hg kp (.inr ⟨_,bU,(rs.put kk rv').mono kp⟩))⟩
end
section
variable {X:Cx} {a b c e:Expr} {es:List Expr} {ta tb tc te:gJ} {t:D4} {pos p p2 apos pC:Pos} {x:Str}
theorem iE{k:Bool}{j}:gu X (.Constant (.bool k) j pos) (dC (.bl k)):=vO Wo fun _ _=>.bl k
theorem Bm{st:Stmt}:Jh X st IZ:=fun _ _ _ _ _ _ _ _ _ _ h=>h.elim
theorem oZ:XA X (unaryOp .USub) AJ:=by
 intro pins s σ H G x dx v Q I ab rx dX q;cases dX with
 | int i=>exact hU (TU pins s σ H _ v (B9 X.K H G Q) I rx ⟨i,rfl,_,_,.refl ab,.int _,q⟩) fun _ _ z=>.of z
 | _=>exact bN q
theorem cG(hu:X.A.units+64 < cLine)(ha:gu X a ta)(hb:gu X b tb)(hs:Sy b):gu X (.Subscript a b pos) (br kE ta tb):=by
 intro E pins s σ H τ G Q hE I h;refine Subscript_ (Qg ha hb hE I h fun v u s2 x y dx dy H2 G2 J m rx ry dX dY q=>?_);have fin:∀ {rb:R2},IxR X rb->rb x y H2 (B9 X.K H2 G2 Q)->wpAny (model X.prog X.w) X.A (subscriptTail a b v u) (r8 X pins σ H G Q) X.xe s2:=fun hr hq =>
  hU (hr a b pins s2 σ H2 x y v u _ J.inv rx ry hq (hs _ _)) fun _ _ z=>(r8.of z).trans m
 cases dX with
 | tup hq rs =>
  cases dY with
  | int i =>
   rw [jB] at q;split at q
   ·rename_i d hd;obtain⟨w,hw,qb⟩:=rs.pU hd;exact fin UU ⟨_,_,i,w,rfl,rfl,.of hq,hw,d,G2,.refl J.ab,qb,q⟩
   ·exact q.elim
  | _=>exact bN q
 | cY hq rs =>
  cases dY with
  | int i =>
   rw [mR] at q;split at q
   ·rename_i d hd;obtain⟨w,hw,qb⟩:=rs.pU hd;exact fin Kl ⟨_,_,i,w,rfl,rfl,hq.sq,hw,d,G2,.refl J.ab,qb,q⟩
   ·exact q.elim
  | _=>exact bN q
 | oj h rs =>
  rw [xD] at q;obtain⟨hk,q⟩:=q;split at q
  ·rename_i d hd;obtain⟨a',o,ea,g,_,hv⟩:=Cz J.inv (.oj h rs) hk dY;obtain⟨w,rfl,qb⟩:=hv d hd;cases ea;rcases g with rfl | g
   ·cases hd
   ·cases rx;exact tail_any (qS J.inv g) PySem.F.slot_dict_getitem.lookup (v9 (by lia) J.inv g ry fun w' s3 I4 rv=>⟨w,H2,d,G2,I4,m,rv,qb,q⟩) (hs _ _)
  ·exact q.elim
 | oi h rs =>
  rw [xD] at q;obtain⟨hk,q⟩:=q;split at q
  ·rename_i d hd;obtain⟨a',o,ea,g,_,hv⟩:=Cz J.inv (.oi h rs) hk dY;obtain⟨w,rfl,qb⟩:=hv d hd;cases ea;rcases g with rfl | g
   ·cases hd
   ·cases rx;exact tail_any (qS J.inv g) PySem.F.slot_dict_getitem.lookup (v9 (by lia) J.inv g ry fun w' s3 I4 rv=>⟨w,H2,d,G2,I4,m,rv,qb,q⟩) (hs _ _)
  ·exact q.elim
 | ref l =>
  rw [CD] at q;split at q
  ·rename_i ds hl;obtain⟨vs,hv,rs⟩:=J.ab.lst hl;cases dY with
   | int i =>
    dsimp only at q;split at q
    ·rename_i d hd;obtain⟨w,hw,qb⟩:=rs.pU hd;exact fin Kl ⟨_,_,i,w,rfl,rfl,.of hv,hw,d,G2,.refl J.ab,qb,q⟩
    ·exact q.elim
   | _=>exact bN q
  ·rename_i kvs hl;obtain⟨hk,q⟩:=q;split at q
   ·rename_i d hd;obtain⟨H3,o,I3,m3,g,_,hv⟩:=Ge J.inv J.ab hl hk dY;obtain⟨w,rfl,qb⟩:=hv d hd;cases rx;exact tail_any (qS I3 g) PySem.F.slot_dict_getitem.lookup (v9 (by lia) I3 g ry fun w' s3 I4 rv=>⟨w,H3,d,G2,I4,m.trans m3,rv,qb,q⟩) (hs _ _)
   ·exact q.elim
  ·exact q.elim
 | _=>exact bN q
noncomputable def Yq(X:Cx)(e:Option Expr)(t:XC):Prop :=
 ∀ (E:mG) (pins:List (Addr×Obj)) (s:az) (σ:L2.St) (H:Hp) (τ:iN) (G:Gp) (Q:Option Int->Gp->Prop),Lk X E->I2 X pins σ H τ G s->t E τ G Q ->
  wpAny (model X.prog X.w) X.A (evalPart e X.env) (fun u s'=>∃ o H' G',Inv X pins σ H' s'/\Mv X.K H G H' G'/\IsPart u o/\Q o G') X.xe s
theorem iT:Yq X none fM:=by
 intro E pins s σ H τ G Q hE I h;rw [evalPart_none];exact aA ⟨none,H,G,I.inv,.refl I.ab,.none,h⟩
theorem gc(h:gu X e te):Yq X (some e) (lC te):=by
 intro E pins s σ H τ G Q hE I hw;rw [evalPart_some];refine j6 h hE I hw fun x H1 d G1 u s1 I1 m1 r1 jK q1=>?_;cases jK with
 | int i =>
  obtain⟨t,rfl⟩:=r1;exact⟨some i,H1,G1,I1.inv,m1,.int i t,q1⟩
 | _=>exact bN q1
theorem fR{lo hi:Option Expr}{tl th:XC}(he:gu X a ta)(hl:Yq X lo tl)(hu:Yq X hi th):gu X (.Subscript a (.Slice lo hi none p2) pos) (zK ta tl th):=by
 intro E pins s σ H τ G Q hE I h;refine Subscript_ (j6 he hE I h fun x H1 d G1 v s1 I1 m1 r1 jK q1=>?_);refine wpAny_Slice (hU (hl E pins s1 σ H1 τ G1 _ hE I1 q1) ?_);rintro vl s2 ⟨l,H2,G2,nB,m2,pl,q2⟩;refine hU (hu E pins s2 σ H2 τ G2 _ hE (I1.mv nB m2) q2) ?_;rintro vu s3 ⟨r,H3,G3,I3,m3,pu,q3⟩;rw [evalPart_none];refine aA ?_;have m13:=m2.trans m3;have mm:=m1.trans m13;have I4:Inv X pins σ H3 { s3 with heap:=s3.heap.push { cls:=.type "slice",data:=.fields #[vl,vu,.none] } }:=I3.kept (t':=s3.toks) fun b ob q=>aH _ q;have YK:=jK.mono (m13.kp I1.ab);have Qi:=m3.ab;have key:∀ {rb:V->Option Int->Option Int->Hp->VK->Prop},SlR X rb->rb x l r H3 (B9 X.K H3 G3 Q)->wpAny (model X.prog X.w) X.A (subscriptTail a (.Slice lo hi none p2) v (.ref s3.heap.objs.size)) (r8 X pins σ H G Q) X.xe { s3 with heap:=s3.heap.push { cls:=.type "slice",data:=.fields #[vl,vu,.none] } }:=fun hr hq=>by
  obtain⟨T,id,hT,ht,hg⟩:=hr pins { s3 with heap:=s3.heap.push { cls:=.type "slice",data:=.fields #[vl,vu,.none] } } σ H3 x v vl vu l r s3.heap.objs.size _ I4 r1 (Heap.IsSliceOf.new ..) pl pu hq;exact hU (tail_any (ops:=[.ref s3.heap.objs.size,v]) ht hT hg (by with_unfolding_all rfl)) fun _ _ z=>(r8.of z).trans mm
 cases YK with
 | tup hq rs =>
  obtain⟨hw,q⟩:=q3;refine key Uh ⟨_,_,rfl,.of hq,?_,fun p hp=>⟨_,G3,.Mf Qi hp,.tup bU ((rs.cut l r).mono (.new hp)),q⟩⟩;rw [Cy,Cy,rs.length];exact hw
 | cY hq rs=>exact key JU ⟨_,_,rfl,hq.sq,fun p hp=>⟨_,_,.Ia Qi hp (rs.cut l r),.ref _,q3 p (Qi.free hp)⟩⟩
 | ref g =>
  rw [JY] at q3;split at q3
  ·rename_i ds hg;obtain⟨vs,hv,rs⟩:=Qi.lst hg;exact key JU ⟨_,_,rfl,.of hv,fun p hp=>⟨_,_,.Ia Qi hp (rs.cut l r),.ref _,q3 p (Qi.free hp)⟩⟩
  ·exact q3.elim
 | _=>exact bN q3
theorem RC(ss:List D)(s:D)(h1:pN ss=true)(h2:nr s=true):((lY ss).any fun y=>qf y (pd s))=ss.any (ij · s):=by
 induction ss with
 | nil=>rfl
 | cons d r ih =>
  have h':nr d=true/\pN r=true:=(j7).mp h1;show (qf (pd d) (pd s)||(lY r).any _)=_;rw [ih h'.2,tw d s h'.1 h2]; rfl
theorem KN{G:Gp}{n:Nat}{ds ss:List D}(h:Sn G (n+1) (.cY ds) (.cY ss)):b9 (lY ss)<=n:=by
 exact tV (zJ h)
theorem CW(hu:X.A.units+64 < cLine)(neg:Bool){pins:List (Addr×Obj)}{s:az}{σ:L2.St}{H:Hp}{G:Gp}{x y:V}{dx t:D}{ds ss:List D}{v u:Value}{Q:DK}(I:Inv X pins σ H s)(ab:lE X.K H G)(rx:RelV x v)(dX:bX X.K H x dx)
  (hy:(∃ l vs bH,u=.ref l/\Vals vs bH/\bg X.K H vs ds/\(s.heap.IsList l bH.toArray\/s.heap.IsTuple l bH.toArray))) (s1:Sn G SN dx t) (s2:Sn G SN (.cY ds) (.cY ss))
  (q:Q (.bl (if neg then !ss.any (ij · t) else ss.any (ij · t))) G):wpAny (model X.prog X.w) X.A (fb (if neg then .NotIn else .In) v u) (r8 X pins σ H G Q) X.xe s:=by
 obtain⟨l,vs,bH,rfl,rv,rs,hl⟩:=hy;obtain⟨as,ra⟩:=(gU I ab s1).1 x v dX rx;obtain⟨bs,rb⟩:=(gU I ab s2).2 ds ss (.inl ⟨rfl,rfl⟩) vs bH rs rv;have d2:=KN (n:=7) s2;have n2:pN ss=true:=s2.nr;have zh:=uH _ n2;have e:=RC ss t n2 s1.nr;have Kq:X.A.units+1+min (b9 (lY ss)) (pd t).depth < cLine:=by lia
 have NY:gY s.heap bH.toArray.toList (lY ss) bs:=by simpa using rb
 have fin:∀ k:Bool,k=(if neg then !ss.any (ij · t) else ss.any (ij · t))->r8 X pins σ H G Q (.bool k) s:=fun k hk=>by subst hk; exact⟨.bl _,H,.bl _,G,I,.refl ab,rfl,.bl _,q⟩
 cases neg with
 | false =>
  rcases hl with hl | hl
  ·exact SeqAt.in_listAt _ hl (nk NY ra zh (kq _ s1.nr) Kq) (by rw [qp NY zh,e]; exact fin _ rfl)
  ·exact SeqAt.in_tupleAt _ hl (nk NY ra zh (kq _ s1.nr) Kq) (by rw [qp NY zh,e]; exact fin _ rfl)
 | true =>
  rcases hl with hl | hl
  ·exact SeqAt.notIn_listAt _ hl (nk NY ra zh (kq _ s1.nr) Kq) (by rw [qp NY zh,e]; exact fin _ rfl)
  ·exact SeqAt.notIn_tupleAt _ hl (nk NY ra zh (kq _ s1.nr) Kq) (by rw [qp NY zh,e]; exact fin _ rfl)
theorem O9(hu:X.A.units+64 < cLine)(neg:Bool){pins:List (Addr×Obj)}{s:az}{σ:L2.St}{H:Hp}{G:Gp}{x y:V}{dx:D}{kvs:List (D×D)}{v u:Value}{Q:DK}(I:Inv X pins σ H s)(ab:lE X.K H G)(rx:RelV x v)(ry:RelV y u)(dY:bX X.K H y (.j8 kvs))(dX:bX X.K H x dx)
  (q:Oa neg dx (.j8 kvs) G Q):wpAny (model X.prog X.w) X.A (fb (if neg then .NotIn else .In) v u) (r8 X pins σ H G Q) X.xe s:=by
 obtain⟨oA,hk,q⟩:=q;have go:∀ (a:Addr) (o:Option V),y=.ref a->Ac H a x o->o.isSome=(look kvs dx).isSome->wpAny (model X.prog X.w) X.A (fb (if neg then .NotIn else .In) v u) (r8 X pins σ H G Q) X.xe s:=by
  intro a o ea g ho;subst ea;cases ry;cases neg with
  | false=>exact Xo (by lia) I g rx fun s3 I4=>⟨.bl _,H,.bl _,G,I4,.refl ab,rfl,.bl _,by rw [ho]; exact q⟩
  | true=>exact KO (by lia) I g rx fun s3 I4=>⟨.bl _,H,.bl _,G,I4,.refl ab,rfl,.bl _,by rw [ho]; exact q⟩
 obtain⟨a,o,ea,g,ho,_⟩:=Cz I dY hk dX;rcases g with rfl | g
 ·exact absurd rfl oA
 ·exact go a o ea g ho
theorem RJ(hu:X.A.units+64 < cLine)(neg:Bool):pH X (fb (if neg then .NotIn else .In)) (Oa neg):=by
 intro pins s σ H G x y dx dy v u Q I ab rx ry dX dY q;cases dY with
 | tup hq rs =>
  obtain⟨t,ss,s1,s2,q⟩:=q;cases ry;obtain⟨bH,rv,pl,hz⟩:=I.tuple (.of hq);exact CW hu neg (y:=x) I ab rx dX ⟨_,_,bH,rfl,rv,rs,.inr pl⟩ s1 s2 q
 | cY hq rs =>
  obtain⟨t,ss,s1,s2,q⟩:=q;cases ry;obtain⟨bH,rv,pl,hz⟩:=I.list hq.sq;exact CW hu neg (y:=x) I ab rx dX ⟨_,_,bH,rfl,rv,rs,.inl pl.isList⟩ s1 s2 q
 | oj h rs=>exact O9 hu neg I ab rx ry (.oj h rs) dX q
 | oi h rs=>exact O9 hu neg I ab rx ry (.oi h rs) dX q
 | ref l =>
  unfold Oa at q;dsimp only at q;split at q
  ·rename_i kvs hl;obtain⟨hk,q⟩:=q;obtain⟨H3,o,I3,m3,g,ho,_⟩:=Ge I ab hl hk dX;cases ry;cases neg with
   | false=>exact Xo (by lia) I3 g rx fun s3 I4=>⟨.bl _,H3,.bl _,G,I4,m3,rfl,.bl _,by rw [ho]; exact q⟩
   | true=>exact KO (by lia) I3 g rx fun s3 I4=>⟨.bl _,H3,.bl _,G,I4,m3,rfl,.bl _,by rw [ho]; exact q⟩
  ·rename_i ds hl;obtain⟨t,ss,s1,s2,q⟩:=q;cases ry;obtain⟨vs,hv,rs⟩:=ab.lst hl;obtain⟨bH,rv,pl,hz⟩:=I.list (.of hv);exact CW hu neg (y:=x) I ab rx dX ⟨_,_,bH,rfl,rv,rs,.inl pl.isList⟩ s1 s2 q
  ·exact q.elim
 | _=>exact bN q
theorem Ow(hu:X.A.units+64 < cLine):pH X (fb .In) (Oa false):=RJ hu false
end
section
variable {X:Cx} {a b c e o:Expr} {es:List Expr} {ta tb tc te to:gJ} {t:D4} {pos p p2 apos pC:Pos} {x name:Str} {id T:String}
theorem mF:rg X (.builtin "len") tK:=by
 intro pins s σ H G xs ds us Q I ab rx rd q;unfold tK at q;split at q
 ·rename_i x;obtain⟨v,rfl,r⟩:=rd.one;have QX:∀ (n:Nat),XF X.K v H n->Q (.int (n:Int)) G->wpAny (model X.prog X.w) X.A (call (.builtin "len") us) (r8 X pins σ H G Q) X.xe s:=fun n hn hq =>
   hU (PZ pins s σ H [v] us (B9 X.K H G Q) I rx ⟨v,n,rfl,hn,_,_,.refl ab,.int _,hq⟩) fun _ _ z=>.of z
  have sz:aZ=16777216:=cF;cases r with
  | tup hq rs=>exact QX _ (.inr ⟨_,.of hq,by rw [rs.length]⟩) q
  | cY hq rs=>exact QX _ (.inl ⟨_,hq.sq,by rw [rs.length]⟩) q
  | str y =>
   unfold lenOf at q;dsimp only at q;by_cases hz:y.length<=SZ
   ·rw [if_pos hz] at q; exact QX _ ⟨by rw [sz]; exact hz,rfl⟩ q
   ·rw [if_neg hz] at q; exact q.elim
  | oj h rs =>
   rename_i l o kv kvs;obtain⟨u,rfl,ru⟩:=rx.one;cases ru;unfold lenOf at q;dsimp only at q;by_cases ha:(kvs.all fun p=>dE p.1)=true
   ·rw [if_pos ha] at q;exact Tz I (.inr ⟨_,h⟩) fun t s' I'=>⟨.int kv.length,H,_,G,I',.refl ab,⟨t,rfl⟩,.int _,by rw [rs.length]; exact q⟩
   ·rw [if_neg ha] at q; exact q.elim
  | oi h rs =>
   rename_i l o kv kvs;obtain⟨u,rfl,ru⟩:=rx.one;cases ru;unfold lenOf at q;dsimp only at q;by_cases ha:(kvs.all fun p=>dE p.1)=true
   ·rw [if_pos ha] at q;cases rs with
    | nil =>
     obtain⟨z,hS,xs,rel,ob,es,ep,ho,hx,Av,hl,nd⟩:=(I.cn l _ h).2;have Zu:xs=[]:=by cases rel; rfl
     subst Zu;have he:es=#[]:=by simpa using hl
     subst he;have dd:s.heap.DictOf (cC X.prog X.w) l []:=⟨ob,#[],ep,ho,hx,Av,(fun _ h=>by simp at h),.nil,cf⟩;refine call_len_dict hS dd (by simp) ?_;exact⟨.int 0,H,_,G,I.tok _,.refl ab,⟨_,rfl⟩,.int _,q⟩
    | cons _ _=>simp [dE] at ha
   ·rw [if_neg ha] at q; exact q.elim
  | ref l =>
   unfold lenOf at q;dsimp only at q;cases hg:G l with
   | none=>rw [hg] at q; exact q.elim
   | some g =>
    rw [hg] at q;cases g with
    | lst ds =>
     obtain⟨vs,hv,rs⟩:=ab.lst hg;exact QX _ (.inl ⟨_,.of hv,by rw [rs.length]⟩) q
    | ins _ _=>exact q.elim
    | qh _=>exact q.elim
    | gK kvs =>
     obtain⟨u,rfl,ru⟩:=rx.one;cases ru;dsimp only at q;by_cases ha:(kvs.all fun p=>dE p.1)=true
     ·rw [if_pos ha] at q;rcases ab l _ hg with ⟨kv,hv,rs⟩ | ⟨kv,hv,rs⟩
      ·exact Tz I (.inl hv) fun t s' I'=>⟨.int kv.length,H,_,G,I',.refl ab,⟨t,rfl⟩,.int _,by rw [rs.length]; exact q⟩
      ·cases rs with
       | nil =>
        obtain⟨z,hd,vs,rel,dd⟩:=BW (toK I hv).cn bU;have hvs:vs=[]:=by cases rel; rfl
        subst hvs;refine call_len_dict hd dd (by simp) ?_;exact⟨.int 0,H,_,G,I.tok _,.refl ab,⟨_,rfl⟩,.int _,q⟩
       | cons _ _=>simp [dE] at ha
     ·rw [if_neg ha] at q; exact q.elim
  | _=>exact bN q
 ·exact q.elim
theorem I0:rg X (.type "list") w9:=by
 intro pins s σ H G xs ds us Q I ab rx rd q;unfold w9 at q;split at q
 ·rename_i x;obtain⟨v,rfl,r⟩:=rd.one;have VD:∀ (l:Addr) (ys:List V) (zs:List D),v=.ref l->(oS X.K H l ys\/xU X.K H l ys)->bg X.K H ys zs->gX G (.lst zs) Q->wpAny (model X.prog X.w) X.A (call (.type "list") us) (r8 X pins σ H G Q) X.xe s:=fun l ys zs e h rs hq=>by
   subst e;exact hU (Dw pins s σ H _ us (B9 X.K H G Q) I rx ⟨l,ys,rfl,h,fun p hp=>⟨_,_,.Ia ab hp rs,.ref _,hq p (ab.free hp)⟩⟩) fun _ _ z=>.of z
  cases r with
  | tup hq rs=>exact VD _ _ _ rfl (.inr (.of hq)) rs q
  | cY hq rs=>exact VD _ _ _ rfl (.inl hq.sq) rs q
  | ref l =>
   unfold itemsOf at q;dsimp only at q;cases hg:G l with
   | none=>rw [hg] at q; exact q.elim
   | some g =>
    rw [hg] at q;cases g with
    | lst ds =>
     obtain⟨vs,hv,rs⟩:=ab.lst hg;exact VD _ _ _ rfl (.inl (.of hv)) rs q
    | ins _ _=>exact q.elim
    | qh _=>exact q.elim
    | gK kvs=>exact q.elim
  | _=>exact bN q
 ·exact q.elim
theorem sU {r:List D->Gp->DK->Prop} (hc:rg X (.type T) r) (hg:Gl X x) (hm:X.mg x=none) (hv:eK x=some (.type T)) (ha:D5 X (e :: es) t) (hn:autoParam (x≠"__name__") Ad._auto_1) (Iz:autoParam ((x == ("__debug__" : Str))=false) Ad._auto_1)
  (he:autoParam (bY (e :: es) X.env=(false,eval e X.env) :: bY es X.env) Ar._auto_1) (GV:autoParam ((wz pos (bY es X.env)).any (·.1)=false) Ar._auto_1):gu X (.Call (.Name x p) (e :: es) [] pos) (wa r t):=by
 intro E pins s σ H τ G Q hE I h;refine jV (qL I.inv hg hm hv ?_ hn Iz);exact fU (Cs ha pos hE I h fun vs H1 ds G1 us s1 I1 m1 r1 jK q1=>hU (hc pins s1 σ H1 G1 vs ds us Q I1.inv I1.ab r1 jK q1) fun _ _ z=>z.trans m1) he GV
theorem UP (K:au):∀ C∈["int","bool","list","tuple","dict","str"],∀ T∈["NoneType","bool","int","str","tuple","list","dict"],PySem.W.kitOne K (.type T) (.type C)=some (T == C||(T == "bool" && C == "int")):=by
 intro C hC T hT;simp only [bD,cP,or_false] at hC hT;rcases hC with rfl | rfl | rfl | rfl | rfl | rfl <;> rcases hT with rfl | rfl | rfl | rfl | rfl | rfl | rfl <;> kernel_rfl
theorem O4 (C:String) (hC:C∈["int","bool","list","tuple","dict","str"]) {pins:List (Addr×Obj)} {s:az} {σ:L2.St} {H:Hp} {G:Gp} {v:V} {d:D} {u:Value} {k:Bool} {Q:DK} (I:Inv X pins σ H s) (ab:lE X.K H G) (ru:RelV v u) (r:bX X.K H v d)
  (hk:Ta C d G=some k) (q:Q (.bl k) G):wpAny (model X.prog X.w) X.A (call (.builtin "isinstance") [u,.type C]) (r8 X pins σ H G Q) X.xe s:=by
 have fin:∀ tk,r8 X pins σ H G Q (.bool k) { s with toks:=tk }:=fun tk=>⟨.bl k,H,.bl k,G,I.tok _,.refl ab,rfl,.bl k,q⟩;have hl:∀ T∈["NoneType","bool","int","str","tuple","list","dict"],k=(T == C||(T == "bool" && C == "int"))->PySem.W.kitOne X.K (.type T) (.type C)=some k:=fun T hT e=>by rw [UP X.K C hC T hT,e]
 have tl:∀ {l:Addr} {o:Obj},s.heap.get? l=some o->o.cls=.type "list"->k=("list" == C||("list" == "bool" && C == "int"))->v=.ref l->wpAny (model X.prog X.w) X.A (call (.builtin "isinstance") [u,.type C]) (r8 X pins σ H G Q) X.xe s:=fun ho hc e ev=>by
  subst ev;cases ru;exact ji PySem.W.kitx_list I.Ip ⟨_,ho,hc⟩ (hl "list" (by decide) e) (fun z=>nomatch z) fin
 have td:∀ {l:Addr} {o:Obj},s.heap.get? l=some o->o.cls=.type "dict"->k=("dict" == C||("dict" == "bool" && C == "int"))->v=.ref l->wpAny (model X.prog X.w) X.A (call (.builtin "isinstance") [u,.type C]) (r8 X pins σ H G Q) X.xe s:=fun ho hc e ev=>by
  subst ev;cases ru;exact ji PySem.W.kitx_dict I.Ip ⟨_,ho,hc⟩ (hl "dict" (by decide) e) (fun z=>nomatch z) fin
 have ow:∀ P:String->Prop,(∀ C'∈["int","bool","list","tuple","dict","str"],P C')->P C:=fun P h=>h C hC;cases r with
 | eQ =>
  cases ru;have e:k=("NoneType" == C||("NoneType" == "bool" && C == "int")):=by
   have:k=false:=(a8 hk).symm;rw [this];exact ow (fun C=>false=("NoneType" == C||("NoneType" == "bool" && C == "int"))) (by decide)
  exact ji PySem.W.kitx_none I.Ip gq (hl _ (by decide) e) (fun z=>nomatch z) fin
 | bl y =>
  cases ru;have e:k=("bool" == C||("bool" == "bool" && C == "int")):=by
   have:k=(C == "bool" || C == "int"):=(a8 hk).symm;rw [this];exact ow (fun C=>(C == "bool" || C == "int")=("bool" == C||("bool" == "bool" && C == "int"))) (by decide)
  exact ji PySem.W.kitx_bool I.Ip gq (hl _ (by decide) e) (fun z=>nomatch z) fin
 | int y =>
  obtain⟨t,rfl⟩:=ru;have e:k=("int" == C||("int" == "bool" && C == "int")):=by
   have:k=(C == "int"):=(a8 hk).symm;rw [this];exact ow (fun C=>(C == "int")=("int" == C||("int" == "bool" && C == "int"))) (by decide)
  exact ji PySem.W.kitx_int I.Ip gq (hl _ (by decide) e) (fun z=>nomatch z) fin
 | str y =>
  obtain⟨t,rfl⟩:=ru;have e:k=("str" == C||("str" == "bool" && C == "int")):=by
   have:k=(C == "str"):=(a8 hk).symm;rw [this];exact ow (fun C=>(C == "str")=("str" == C||("str" == "bool" && C == "int"))) (by decide)
  exact ji PySem.W.kitx_str I.Ip gq (hl _ (by decide) e) (fun z=>nomatch z) fin
 | tup hq rs =>
  cases ru;have e:k=("tuple" == C||("tuple" == "bool" && C == "int")):=by
   have:k=(C == "tuple"):=(a8 hk).symm;rw [this];exact ow (fun C=>(C == "tuple")=("tuple" == C||("tuple" == "bool" && C == "int"))) (by decide)
  obtain⟨bH,rv,⟨o,h1,h2,_⟩,hz⟩:=I.tuple (.of hq);exact ji PySem.W.kitx_tuple I.Ip ⟨o,h1,h2⟩ (hl _ (by decide) e) (fun z=>nomatch z) fin
 | cY hq rs =>
  obtain⟨bH,rv,pl,hz⟩:=I.list hq.sq;obtain⟨o,h1,h2,_⟩:=pl.isList;refine tl h1 h2 ?_ rfl;have:k=(C == "list"):=(a8 hk).symm;rw [this];exact ow (fun C=>(C == "list")=("list" == C||("list" == "bool" && C == "int"))) (by decide)
 | oj h rs =>
  have e:k=("dict" == C||("dict" == "bool" && C == "int")):=by
   have:k=(C == "dict"):=(a8 hk).symm;rw [this];exact ow (fun C=>(C == "dict")=("dict" == C||("dict" == "bool" && C == "int"))) (by decide)
  obtain⟨_,_,vs,_,ob,_,_,h1,h2,_⟩:=sJ I.cn (.inr ⟨_,h⟩);exact td h1 h2.1 e rfl
 | oi h rs =>
  have e:k=("dict" == C||("dict" == "bool" && C == "int")):=by
   have:k=(C == "dict"):=(a8 hk).symm;rw [this];exact ow (fun C=>(C == "dict")=("dict" == C||("dict" == "bool" && C == "int"))) (by decide)
  obtain⟨_,_,ys,_,ob,_,_,h1,h2,_⟩:=zI I.cn (.inr ⟨_,h⟩);exact td h1 h2.1 e rfl
 | exc h=>simp [Ta] at hk
 | FZ h _=>simp [Ta] at hk
 | oF _ _ _ _=>simp [Ta] at hk
 | ref l =>
  unfold Ta at hk;dsimp only at hk;cases hg:G l with
  | none=>rw [hg] at hk; cases hk
  | some g =>
   rw [hg] at hk;cases g with
   | lst ds =>
    obtain⟨vs,hv,rs⟩:=ab.lst hg;obtain⟨bH,rv,pl,hz⟩:=I.list (.of hv);obtain⟨o,h1,h2,_⟩:=pl.isList;refine tl h1 h2 ?_ rfl;have:k=(C == "list"):=(a8 hk).symm;rw [this];exact ow (fun C=>(C == "list")=("list" == C||("list" == "bool" && C == "int"))) (by decide)
   | ins _ _=>cases hk
   | qh _=>cases hk
   | gK kvs =>
    have e:k=("dict" == C||("dict" == "bool" && C == "int")):=by
     have:k=(C == "dict"):=(a8 hk).symm;rw [this];exact ow (fun C=>(C == "dict")=("dict" == C||("dict" == "bool" && C == "int"))) (by decide)
    rcases ab l _ hg with ⟨kv,hv,rs⟩ | ⟨kv,hv,rs⟩
    ·obtain⟨_,_,vs,_,ob,_,_,h1,h2,_⟩:=BW I.cn hv;exact td h1 h2.1 e rfl
    ·obtain⟨_,_,ys,_,ob,_,_,h1,h2,_⟩:=PO I.cn hv;exact td h1 h2.1 e rfl
theorem xF (C:String) (hC:C∈["int","bool","list","tuple","dict","str"]) {y:Str} {py:Pos} (hg:Gl X "isinstance") (hm:X.mg "isinstance" = none) (hgC:Gl X y) (hmC:X.mg y=none) (hvC:eK y=some (.type C)) (ha:gu X a ta) (hn:autoParam (y≠"__name__") Ad._auto_1) (Iz:autoParam ((y == ("__debug__" : Str))=false) Ad._auto_1)
  (he:autoParam (bY [a,.Name y py] X.env=(false,eval a X.env) :: bY [.Name y py] X.env) Ar._auto_1) (GV:autoParam ((wz pos (bY [Expr.Name y py] X.env)).any (·.1)=false) Ar._auto_1) (U4:autoParam (bY [.Name y py] X.env=[(false,eval (.Name y py) X.env)]) Ar._auto_1) :
  gu X (.Call (.Name "isinstance" p) [a,.Name y py] [] pos) (Mr C ta):=by
 intro E pins s σ H τ G Q hE I h;refine jV (qL I.inv hg hm PyProof.Rows.boot_isinstance ?_);refine vt ?_ he GV;rw [he];show wpAny _ _ (spliced ((false,eval a X.env) :: wz pos (bY [.Name y py] X.env))) _ _ s;refine pI (j6 ha hE I h fun v H1 d G1 u s1 I1 m1 r1 jK q1=>?_);rw [U4];show wpAny _ _ (spliced [(false,eval (.Name y py) X.env)]) _ _ s1;refine pI (qL I1.inv hgC hmC hvC (Ay ?_) hn Iz)
 try dsimp only at q1
 split at q1
 ·rename_i k hk;exact hU (O4 C hC I1.inv I1.ab r1 jK hk q1) fun _ _ z=>z.trans m1
 ·exact q1.elim
end
section
variable {X:Cx} {a b c e o:Expr} {es:List Expr} {ta tb tc te to:gJ} {t:D4} {pos p p2 apos pC:Pos} {x name:Str} {id T:String}
noncomputable def Jo(X:Cx)(id:String)(r:D->List D->Gp->DK->Prop):Prop :=
 ∀ (pins:List (Addr×Obj)) (s:az) (σ:L2.St) (H:Hp) (G:Gp) (x:V) (d:D) (xs:List V) (ds:List D) (v:Value) (us:List Value) (Q:DK),Inv X pins σ H s->lE X.K H G->RelV x v->bX X.K H x d->Vals xs us->bg X.K H xs ds->r d ds G Q ->
  wpAny (model X.prog X.w) X.A (call (.builtin id) (v :: us)) (r8 X pins σ H G Q) X.xe s
noncomputable def Sv(X:Cx)(T:String)(ty:D->Gp->Prop):Prop:=∀ (pins:List (Addr×Obj)) (s:az) (σ:L2.St) (H:Hp) (G:Gp) (x:V) (d:D) (v:Value),Inv X pins σ H s->lE X.K H G->RelV x v->bX X.K H x d->ty d G ->
  s.TypeIs v T/\∀ a,v=.ref a->∃ ob,s.heap.get? a=some ob/\ob.dict=none
theorem ke:Sv X "list" Cq:=by
 intro pins s σ H G x d v I ab r rd h;cases rd with
 | cY hq rs=>exact Cp I r (.inl ⟨rfl,_,hq.sq⟩)
 | ref l =>
  unfold Cq at h;dsimp only at h;split at h
  ·rename_i ds hg;obtain⟨vs,hv,rs⟩:=ab.lst hg;exact Cp I r (.inl ⟨rfl,vs,.of hv⟩)
  ·exact h.elim
 | _=>exact bN h
theorem oC:Sv X "dict" Q0:=by
 intro pins s σ H G x d v I ab r rd h;cases rd with
 | oj q rs =>
  cases r;obtain⟨t1,t2,_⟩:=O5 I (.inl ⟨_,.inr ⟨_,q⟩⟩);exact⟨t1,t2⟩
 | oi q rs =>
  cases r;obtain⟨t1,t2,_⟩:=O5 I (.inr ⟨_,.inr ⟨_,q⟩⟩);exact⟨t1,t2⟩
 | ref l =>
  unfold Q0 at h;dsimp only at h;split at h
  ·rename_i kvs hg;rcases ab l _ hg with ⟨kv,hv,rs⟩ | ⟨kv,hv,rs⟩
   ·exact Cp I r (.inr (.inr (.inl ⟨rfl,.inl ⟨kv,hv⟩⟩)))
   ·exact Cp I r (.inr (.inr (.inl ⟨rfl,.inr ⟨kv,hv⟩⟩)))
  ·exact h.elim
 | _=>exact bN h
theorem jQ {ty:D->Gp->Prop} {r:D->List D->Gp->DK->Prop} (pa:PlainAttrs T) (slot:Slot T name id) (hty:typeOf (.builtin id)=pure (.type "method_descriptor")) (ht:Sv X T ty) (hm:Jo X id r) (ho:gu X o to) (ha:D5 X (e :: es) t)
  (zq:autoParam (Eb o name X.env (eval o X.env)=eval o X.env) Ar._auto_1)
  (Z6:autoParam (((wz pC (bY (e :: es) X.env)).all (fun x=>!x.1)&&(backToKw pC (keywordEach [] X.env)).all (fun x=>x.1.isSome)
   && decide ((e :: es).length+([]:List Keyword).length+(if ([]:List Keyword).isEmpty then 0 else 1) < 30))=true) Ar._auto_1)
  (zo:autoParam ((apos.endLine == pC.line)=true) Ar._auto_1) (hs:autoParam (bY (e :: es) X.env=(false,eval e X.env) :: bY es X.env) Ar._auto_1) (UZ:autoParam ((wz pC (bY es X.env)).any (·.1)=false) Ar._auto_1) :
  gu X (.Call (.Attribute o name apos) (e :: es) [] pC) (tS ty r to t):=by
 intro E pins s σ H τ G Q hE I h;refine wpAny_Call_method_late zq Z6 zo rfl (j6 ho hE I h ?_);rintro x H1 d G1 v s1 I1 m1 r1 jK ⟨hy,q1⟩;obtain⟨h1,h2⟩:=ht pins s1 σ H1 G1 x d v I1.inv I1.ab r1 jK hy;refine⟨T,id,pa,slot,hty,h1,h2,?_⟩;have hA:=ha pC E pins s1 σ H1 τ G1 _ hE I1 q1;rw [hs] at hA ⊢;refine lX (by show (false||(wz pC (bY es X.env)).any (·.1))=false; rw [UZ] <;> rfl) (Calls.evalArgs_plain ?_);exact hU hA (by rintro us s2 ⟨vs,H2,ds,G2,nB,m2,r2,yD,q2⟩; exact hU (hm pins s2 σ H2 G2 x d vs ds v us Q nB m2.ab r1 (jK.mono (m2.kp I1.ab)) r2 yD q2) fun _ _ z=>z.trans (m1.trans m2))
theorem jR:Jo X "list.append" k6:=by
 intro pins s σ H G x d xs ds v us Q I ab rx rd MY CA q;unfold k6 at q;split at q
 ·rename_i l d';cases rd;obtain⟨w,rfl,qb⟩:=CA.one;split at q
  ·rename_i zs hg;obtain⟨hz,q⟩:=q;obtain⟨vs,hv,rs⟩:=ab.lst hg;exact hU (Bu pins s σ H _ _ v us (B9 X.K H G Q) I rx MY ⟨l,vs,w,rfl,rfl,hv,by rw [rs.length,cF]; exact hz,_,_,.putL ab hg hv (rs.append (.cons qb .nil)),.eQ,q⟩) fun _ _ z=>.of z
  ·exact q.elim
 ·exact q.elim
theorem IQ(l:Addr)(xs:Array Value)(n:Nat)(b:Addr)(ys:Array Value)(n2:Nat)(dd:Option Addr)(sl:Array (Option Value))(Tj:¬(!xs.isEmpty&&jO (xs.size+ys.size))=true)(hx:xs.size<=aZ)(VJ:xs.size+ys.size<=aZ+1) :
  Meets (Builtin.«list.extend» ⟨[.ref l,.ref b],[]⟩) (fun _ R s=>s.heap.get? l=some { cls:=.type "list",dict:=none,data:=.seq xs n,slots:=#[] }/\s.heap.get? b=some { cls:=.type "list",dict:=dd,data:=.seq ys n2,slots:=sl }/\R (.ok (.ret gn)) { s with heap:=s.heap.update l (jd fun x=>x++ys),toks:=s.toks }) :=
 .of_wp fun prog w A R s h=>by
  obtain⟨hp,g,d,tk,os⟩:=s;obtain⟨h1,h2,h3⟩:=h;have e1:=AutoSeq1.idx_int;have e2:=pK;have e3:=Hw;have e4:=AutoSeq1.sub_tuple_list;have e5:=AutoSeq1.sub_list_tuple;have hz':(xs++ys).size<=aZ+1:=by rw [Array.size_append]; exact VJ
  wp_walk using (xW h1 rfl (hz:=hx) (_hz':=hz')),bZ h1,bZ h2
  exact⟨_,rfl,h3⟩
theorem Ie:Jo X "list.extend" xI:=by
 intro pins s σ H G x d xs ds v us Q I ab rx rd MY CA q;unfold xI at q;split at q
 ·rename_i l y;cases rd;obtain⟨w,rfl,qb⟩:=CA.one;obtain⟨u,rfl,ru⟩:=MY.one;split at q
  ·rename_i zs ys hg Z1;obtain⟨hz,q⟩:=q;obtain⟨vs,hv,rs⟩:=ab.lst hg;obtain⟨b,ws,si,rfl,Lu,GQ,hb,_⟩:=pG I ab ru qb Z1;cases rx;obtain⟨z,bH,n,r,hl,e⟩:=I.WB hv;obtain⟨⟨cl,dd,dt,sl⟩,ho,Mh,n2,hdt⟩:=hb;simp only at Mh hdt;subst Mh hdt;have h1:=Lu.length;have h2:=GQ.length;have h3:=rs.length;have h4:=r.length;have h5:aZ=16777216:=cF;have h6:SZ=16777216:=rfl;have hsz:bH.toArray.size+si.toArray.size<=aZ:=by rw [aX,aX]; lia
   have Tj:¬ (!bH.toArray.isEmpty&&jO (bH.toArray.size+si.toArray.size))=true:=by
    rw [OA hsz,JI];exact gZ
   refine Hj F.slot_list_extend ⟨_,e,rfl⟩ F.entry_list_extend (F.args_list_extend_2 _ _) (IQ l bH.toArray n b si.toArray n2 dd sl Tj (by rw [aX]; lia) (by lia)) ⟨e,ho,?_⟩;refine⟨.eQ,_,.eQ,_,I.WC (its':=bH++si) hv e (by simp) (r.append Lu) ?_,.putL ab hg hv (rs.append GQ),rfl,.eQ,q⟩;rw [aE];lia
  ·exact q.elim
 ·exact q.elim
theorem LN (hu : X.A.units + 64 < cLine) : Jo X "list.index" CS := by
  intro pins s σ H G x d xs ds v us Q I ab rx rd MY CA q;unfold CS at q;split at q
  · rename_i d'
    obtain⟨hy, zs, sn, ss, hi, s1, s2, q⟩ := q;obtain⟨w, rfl, qb⟩ := CA.one;obtain⟨u, rfl, ru⟩ := MY.one;have lists : ∃ l vs bH, v = .ref l ∧ Vals vs bH ∧ bg X.K H vs zs ∧ s.heap.IsList l bH.toArray ∧ vs.length ≤ aZ := by
      cases rd with
      | cY hq rs =>
        cases hi;cases rx;obtain⟨bH, rv, pl, hz⟩ := I.list hq.sq;exact⟨_, _, bH, rfl, rv, rs, pl.isList, hz⟩
      | ref l =>
        unfold itemsOf at hi;dsimp only at hi;cases hg : G l with
        | none => rw [hg] at hi; cases hi
        | some g =>
          rw [hg] at hi;cases g with
          | lst ds =>
            cases hi;cases rx;obtain⟨vs, hv, rs⟩ := ab.lst hg;obtain⟨bH, rv, pl, hz⟩ := I.list (.of hv);exact⟨_, _, bH, rfl, rv, rs, pl.isList, hz⟩
          | ins _ _ => cases hi
          | qh _ => cases hi
          | gK _ => cases hi
      | _ => exact bN hy
    obtain⟨l, vs, bH, rfl, rv, rs, hl, hz⟩ := lists;obtain⟨as, ra⟩ := (gU I ab s1).1 w u qb ru;obtain⟨bs, rb⟩ := (gU I ab s2).2 zs ss (.inl ⟨rfl, rfl⟩) vs bH rs rv;have d2 := KN (n := 7) s2;have n2 : pN ss = true := s2.nr;have zh := uH _ n2;have Kq : X.A.units + 1 + min (b9 (lY ss)) (pd sn).depth < cLine := by lia
    have NY : gY s.heap bH.toArray.toList (lY ss) bs := by simpa using rb
    have mp := SeqAt.readsAll_map _ _ _ zh NY;split at q
    · rename_i k hk
      obtain⟨xn, ZZ, U0⟩ := List.findIdx?_eq_some_iff_getElem.mp hk;have pdl : ∀ (zz : List D), (lY zz).length = zz.length := by
        intro zz;induction zz with
        | nil => rfl
        | cons a r ih => exact congrArg Nat.succ ih
      have hlen : bH.length = ss.length := by
        have := congrArg dO mp;rw [ak, pdl] at this;simpa using this
      have at_ : ∀ (m : Nat) (h1 : m < bH.toArray.size) (h2 : m < ss.length), qf (A7 s.heap bH.toArray[m]) (pd sn) = ij ss[m] sn := by
        intro m h1 h2;have e1 : (bH.toArray.toList.map (A7 s.heap))[m]? = (lY ss)[m]? := by rw [mp]
        have pdg : ∀ (zz : List D) (m : Nat) (h : m < zz.length), (lY zz)[m]? = some (pd zz[m]) := by
          intro zz;induction zz with
          | nil => intro m h; simp at h
          | cons a r ih => intro m h; cases m with
            | zero => rfl
            | succ m => exact ih m (tU h)
        rw [pdg ss m h2] at e1;have h1' : m < bH.length := by simpa using h1
        have e2 : A7 s.heap bH.toArray[m] = pd ss[m] := by
          simpa [h1'] using e1
        rw [e2];have fG : nr ss[m] = true := by
          have : ∀ (zz : List D) (m : Nat) (h : m < zz.length), pN zz = true -> nr zz[m] = true := by
            intro zz;induction zz with
            | nil => intro m h; simp at h
            | cons a r ih => intro m h hn; have VN : nr a = true ∧ pN r = true := (j7).mp hn
                             cases m with
                             | zero => exact VN.1
                             | succ m => exact ih m (by simpa using h) VN.2
          exact this ss m h2 n2
        exact tw _ _ fG s1.nr
      have sz : aZ = 16777216 := cF;have hvl : vs.length = bH.length := rv.length;obtain⟨⟨cls, dd, data, sl⟩, ho, hc, n, hd⟩ := id hl;simp only at hc hd;subst hc hd;have GW : k < bH.toArray.size := by rw [aX]; lia
      refine Hj Hm ⟨_, ho, rfl⟩ PySem.F.entry_list_index (PySem.F.args_list_index_2 _ _)
        (SeqAt.list_indexAt l bH.toArray n dd sl u (fun y => qf (A7 s.heap y) (pd sn)) k GW (by lia) ?_ ?_) ⟨ho, nk NY ra zh (kq _ s1.nr) Kq, ?_⟩
      · rw [at_ k GW xn]; exact ZZ
      · intro m hm hmk
        have U1 : m < ss.length := by lia
        rw [at_ m hm U1];simpa using U0 m hmk
      · exact⟨.int k, H, .int k, G, I.tok _, .refl ab, ⟨_, rfl⟩, .int _, q⟩
    · exact q.elim
  · exact q.elim
theorem nN:gu X (.Dict [] [] pos) pB:=by
 intro E pins s σ H τ G Q hE I h;exact hU (Om pins s σ H (B9 X.K H G Q) I.inv fun p hp=>⟨_,_,.new I.ab hp (.dk bU .nil),.ref _,h p (I.ab.free hp)⟩) fun _ _ z=>.of z
end
noncomputable def gv(env:Env):List (Str×sy)->List (Str×Addr)->List (Str×Addr)
 | [],acc=>acc
 | (n,k) :: r,acc=>if k=.free then gv env r ((n,(env.cells.lookup n).getD 0) :: acc) else gv env r acc
theorem tE(env:Env)(f:Str×sy->List (Str×Addr)->Sem (ForInStep (List (Str×Addr))))(hf:∀ n k c,f (n,k) c=if (k == kI)=true then (cellOf env n >>= fun a=>pure (sf ((n,a) :: c))) else pure (sf c)) :
  ∀ (ns:List (Str×sy)) (acc:List (Str×Addr)),(∀ x∈ns,x.2=.free->∃ c,env.cells.lookup x.1=some c)->forIn ns acc f=(pure (gv env ns acc):Sem (List (Str×Addr)))
 | [],acc,_=>rfl
 | (n,k) :: r,acc,h=>by
  rw [List.forIn_cons,hf];have hr:∀ x∈r,x.2=.free->∃ c,env.cells.lookup x.1=some c:=fun x hx=>h x (aL _ hx);by_cases hk:k=.free
  ·subst hk;obtain⟨c,hc⟩:=h (n,.free) cp rfl;have ec:cellOf env n=pure c:=by unfold cellOf; rw [hc]
   rw [if_pos (by decide),ec,pure_bind,pure_bind];show forIn r ((n,c) :: acc) f=_;rw [tE env f hf r _ hr];show _=(pure (gv env ((n,.free) :: r) acc):Sem (List (Str×Addr)));rw [gv,if_pos rfl,hc]; rfl
  ·rw [if_neg (by simpa using hk),pure_bind];show forIn r acc f=_;rw [tE env f hf r _ hr];show _=(pure (gv env ((n,k) :: r) acc):Sem (List (Str×Addr)));rw [gv,if_neg hk]
theorem AV{env:Env}{scope:Scope}(h:∀ x∈scope.names,x.2=.free->∃ c,env.cells.lookup x.1=some c):closureFor scope env=pure (gv env scope.names []):=by
 unfold closureFor;dsimp only;rw [tE env _ (fun n k c=>?_) scope.names [] h]
 ·rfl
 ·by_cases hk:(k == kI)=true
  ·simp only [hk,if_true]
  ·simp only [hk,if_false,ar]
theorem tZ{env:Env}{x:Str}{c:Addr}:∀ {ns:List (Str×sy)} {acc:List (Str×Addr)},(∀ y∈ns,y.2=.free->∃ c,env.cells.lookup y.1=some c)->(∀ y c,acc.lookup y=some c->env.cells.lookup y=some c)->(gv env ns acc).lookup x=some c->env.cells.lookup x=some c
 | [],_,_,ha,e=>ha _ _ e
 | (n,k) :: r,acc,h,ha,e=>by
  have hr:∀ y∈r,y.2=.free->∃ c,env.cells.lookup y.1=some c:=fun y hy=>h y (aL _ hy);unfold gv at e;by_cases hk:k=.free
  ·rw [if_pos hk] at e;refine tZ hr (fun y c' q=>?_) e;rw [DU] at q;by_cases hy:(y == n)=true
   ·rw [hy] at q;have e1:y=n:=eq_of_beq hy;subst e1;obtain⟨c0,hc0⟩:=h (y,k) cp hk;rw [hc0] at q ⊢;exact q
   ·have Tc:(y == n)=false:=by simpa using hy
    rw [Tc] at q;exact ha y c' q
  ·rw [if_neg hk] at e;exact tZ hr ha e
theorem o3{env:Env}{x:Str}:∀ {ns:List (Str×sy)} {acc:List (Str×Addr)},((x,kI)∈ns\/∃ c,acc.lookup x=some c)->∃ c,(gv env ns acc).lookup x=some c
 | [],_,h=>by rcases h with h | h; exact absurd h (by simp); exact h
 | (n,k) :: r,acc,h=>by
  unfold gv;have grow:∀ a,(∃ c,acc.lookup x=some c)->∃ c,((n,a) :: acc).lookup x=some c:=fun a QJ=>by
   obtain⟨c,hc⟩:=QJ;rw [DU];by_cases hy:(x == n)=true
   ·rw [hy]; exact⟨_,rfl⟩
   ·have Tc:(x == n)=false:=by simpa using hy
    rw [Tc]; exact⟨c,hc⟩
  by_cases hk:k=.free
  ·rw [if_pos hk];refine o3 ?_;rcases h with h | h
   ·rcases List.mem_cons.mp h with e | h
    ·injection e with e1 e2
     subst e1;exact .inr ⟨(env.cells.lookup x).getD 0,by rw [DU]; simp⟩
    ·exact .inl h
   ·exact .inr (grow _ h)
  ·rw [if_neg hk];refine o3 ?_;rcases h with h | h
   ·rcases List.mem_cons.mp h with e | h
    ·injection e with e1 e2
     exact absurd e2.symm hk
    ·exact .inl h
   ·exact .inr h
noncomputable abbrev dZ(X:Cx)(N:List Str)(scope:Scope)(C:Addr)(s:az)(H:Hp)(fp:List Addr):Cx :=
 { X with env:=compEnvC scope (gv X.env scope.names []) C X.env,N:=N,ny:=s,Qr:=H,outer:=X.stack,stack:=X.stack,ex:=fp,fn:=fun _=>false,pn:=[],xe:=fun _ _=>False }
theorem ud{scope:Scope}{env:Env}{x:Str}(h:(Hf scope env).names.lookup x=some .cell\/(Hf scope env).names.lookup x=some .free)(pQ:∀ y∈scope.names,y.2≠.cell):(x,kI)∈scope.names:=by
 have go:∀ k,(Hf scope env).names.lookup x=some k->k=.cell\/k=.free->(x,kI)∈scope.names:=by
  intro k hk hkk;have hm:=iL hk;unfold Hf at hm;dsimp only at hm;obtain⟨⟨n,j⟩,hj,e⟩:=List.mem_map.mp hm;dsimp only at e;by_cases hc:(j == kI&&env.scope.kind == .function&&env.kindOf n == some .cell)=true
  ·rw [if_pos hc] at e;rw [aJ,aJ] at hc;injection e with e1 e2
   have ej:j=.free:=eq_of_beq hc.1.1;rw [ej,e1] at hj;exact hj
  ·rw [if_neg hc] at e;injection e with e1 e2
   subst e1;rcases hkk with r | r
   ·exact absurd (e2.trans r) (pQ _ hj)
   ·rw [e2.trans r] at hj; exact hj
 rcases h with h | h
 ·exact go _ h (.inl rfl)
 ·exact go _ h (.inr rfl)
section
variable {X:Cx} {N:List Str} {scope:Scope} {fp:List Addr} {pins:List (Addr×Obj)} {σ:L2.St} {H:Hp} {s:az} {C:Addr}
theorem Vk(I:Inv X pins σ H s)(pQ:∀ y∈scope.names,y.2≠.cell)(BG:scope.kind=.function)(pP:∀ y∈scope.names,y.2=.free->X.env.kindOf y.1=some .cell)(hC:s.heap.objs.size<=C)(W8:∀ b∈fp,nC X pins H b/\b < s.heap.objs.size):(dZ X N scope C s H fp).Ok:=by
 have Mh:∀ y∈scope.names,y.2=.free->∃ c,X.env.cells.lookup y.1=some c:=fun y hy hf=>I.ok.has _ (.inl (pP y hy hf));have TZ:∀ x c,(gv X.env scope.names []).lookup x=some c->X.env.cells.lookup x=some c:=fun x c e=>tZ Mh (fun y c q=>by simp at q) e;refine⟨I.ok.mod,BG,I.ok.glob,I.ok.blt,hC,fun x y c h1 h2=>I.ok.inj x y c (TZ x c h1) (TZ y c h2),fun x hx=>?_,fun x c h=>absurd h (by simp),I.ok.hd,I.ok.frames,.inl rfl,fun b hb=>?_,I.bs,bw I.ok.Sr I.sz,fun b o e hb=>?_,fun b hb=>?_,I.stack,I.JR⟩
 ·exact o3 (.inl (ud hx pQ))
 ·obtain⟨⟨f0,f1,f2,f3,f4,f5⟩,xn⟩:=W8 b hb;exact⟨bB (bM xn hC),fun x c e=>f4 x c (TZ x c e)⟩
 ·obtain⟨⟨f0,f1,f2,f3,f4,f5⟩,xn⟩:=W8 b hb;rcases f3 with f3 | f3
  ·exact I.ok.LL b o e f3
  ·exact absurd (bM (aS e) (bw I.ok.Sr f3)) (iQ _)
 ·obtain⟨⟨f0,f1,f2,f3,f4,f5⟩,xn⟩:=W8 b hb;intro z;rcases List.mem_cons.mp (I.HE b z) with e | e
  ·exact f1 e
  ·exact f2 e
theorem Sf{sk:Heap}{m:Nat}{fr:List Nat}{tk:Nat}(I:Inv X pins σ H s)(ok:(dZ X N scope s.heap.objs.size s H fp).Ok)(U6:∀ y∈scope.names,y.2≠.cell)(pP:∀ y∈scope.names,y.2=.free->X.env.kindOf y.1=some .cell)(hN:N.length=m+fr.length)
  (Z2:∀ j i x,fr[j]?=some i->N[m+j]?=some x->X.N[i]?=some x/\X.env.scope.names.lookup x=some .cell/\(Hf scope X.env).names.lookup x=some .cell) (QK:∃ mm,sk.Ns s.heap.objs.size mm) (hk:∀ b o,s.heap.get? b=some o->sk.get? b=some o) :
  Inv (dZ X N scope s.heap.objs.size s H fp) [] (aO m none++fr.map fun i=>(σ[i]?).getD none) H { s with heap:=sk,toks:=tk }:=by
 have Mh:∀ y∈scope.names,y.2=.free->∃ c,X.env.cells.lookup y.1=some c:=fun y hy hf=>I.ok.has _ (.inl (pP y hy hf));have TZ:∀ x c,(gv X.env scope.names []).lookup x=some c->X.env.cells.lookup x=some c:=fun x c e=>tZ Mh (fun y c q=>by simp at q) e;obtain⟨mm,QK⟩:=QK;refine⟨ok,rfl,I.bare,Un.kept hk,⟨mm,QK,fun i x v h1 h2 h3=>?_⟩,fun x c e=>?_,I.cn.fresh (aC _),fun x c e=>?_,fun p hp=>absurd hp (by simp),I.cn.kept hk,?_⟩
 ·by_cases hi:i < m
  ·rw [bS (by simpa using hi),gj] at h2;split at h2 <;> cases h2
  ·obtain⟨j,rfl⟩:∃ j,i=m+j:=⟨i - m,by lia⟩;rw [bG (by simp),eV,sO,bq] at h2;cases hj:fr[j]? with
   | none=>rw [hj] at h2; cases h2
   | some k =>
    rw [hj] at h2;have Mi:(σ[k]?).getD none=some v:=by simpa using h2
    have Ye:σ[k]?=some (some v):=by
     cases q:σ[k]? with
     | none=>rw [q] at Mi; cases Mi
     | some o=>rw [q] at Mi; simp at Mi; rw [Mi]
    obtain⟨e1,e2,e3⟩:=Z2 j k x hj h1;obtain⟨m0,hn0,hl0⟩:=I.loc;obtain⟨u,r,l⟩:=hl0 k x v e1 Ye (.inr (.inl e2));refine⟨u,r,.inr ⟨.inl e3,?_⟩⟩;rcases l with ⟨l1,_⟩ | ⟨_,c,hc,pQ⟩
    ·have:X.env.scope.names.lookup x=some .local:=l1;rw [e2] at this; cases this
    ·have hx:(x,kI)∈scope.names:=ud (.inl e3) U6;obtain⟨c',Tu⟩:=o3 (env:=X.env) (x:=x) (ns:=scope.names) (acc:=[]) (.inl hx);have:=TZ x c' Tu;rw [hc] at this;have ec:c=c':=a8 this;subst ec;obtain⟨oc,VM,hd⟩:=pQ;exact⟨c,Tu,oc,hk _ _ VM,hd⟩
 ·obtain⟨v,oc,VM,hd⟩:=I.cell x c (TZ x c e);exact⟨v,oc,hk _ _ VM,hd⟩
 ·exact I.mZ x c (TZ x c e)
 ·rw [aE,eV,ak];exact hN.symm
theorem Du{prog:bI}{w:World}{A:dI}{R:Result->az->Prop}{s:az}{elt target iter:Expr}{ifs:List Expr}{sc:Scope}{pos:Pos}{it acc:Value}{env:Env}(J:Nat->az->Prop)
  (turn:∀ n s,J n s->wpAny (model prog w) A (wy it) (fun r fX=>match r with
   | none=>R (.ok .next) fX
   | some v=>wpAny (model prog w) A (x8 target it v) (fun _ V4=>wpAny (model prog w) A (Ju target env v) (fun _ lP =>
     wpAny (model prog w) A (forIn ifs true fun c r=>if r=true then do let ok ← isTrue c env (eval c env); pure (sf ok) else pure (sf r)) (fun k Ny =>
      if k=true then wpAny (model prog w) A (eval elt env) (fun x Lp=>wpAny (model prog w) A (call (.builtin "list.append") [acc,x]) (fun _ Nx=>∃ m,m < n/\J m Nx) (fun _ _=>False) Lp) (fun _ _=>False) Ny
      else ∃ m,m < n/\J m Ny) (fun _ _=>False) lP) (fun _ _=>False) V4) (fun _ _=>False) fX) (fun _ _=>False) s) (n:Nat) (h:J n s) :
  Ce (model prog w) A (.compLoop (.ListComp elt [⟨target,iter,ifs,0⟩] sc pos) 0 it acc env) R s:=by
 have no:∀ {α:Type} {t:Sem α} {Q:α->az->Prop} {E:Value->az->Prop} {s:az},wpAny (model prog w) A t Q (fun _ _=>False) s->wpAny (model prog w) A t Q E s:=fun h=>Hd h (fun _ _ q=>q) fun _ _ z=>z.elim;refine codeAny_loop rfl J (fun n s hJ=>?_) n h;show wpAny _ A ((compTurn (.ListComp elt [⟨target,iter,ifs,0⟩] sc pos) 0 it acc env).onRaise (fun x=>do noteFrame x env; theTreesLotGoes x)) _ _ s;refine wpAny_noted ?_;rw [compTurn_list];refine ag (D7 (ag (hU (no (turn n s hJ)) fun r fX sk=>?_)));cases r with
 | none=>exact aA sk
 | some v =>
  refine ag (hU (no sk) fun _ lP Iw=>ag (hU (no Iw) fun _ Ny Zp=>ag (hU (no Zp) fun k Lp WO=>?_)));cases k with
  | false=>exact aA ⟨rfl,WO⟩
  | true=>exact ag (ag (hU (no WO) fun x Nx Zo=>ag (hU (no Zo) fun _ acC Zn=>aA (aA ⟨rfl,Zn⟩))))
noncomputable def CompEnd(X:Cx)(pins:List (Addr×Obj))(σ:L2.St)(H:Hp)(G:Gp)(Q:DK)(C Dd:Addr)(s':az):Prop :=
 ∃ m H' G',Inv X pins σ H' s'/\s'.heap.Ns C m/\nC X pins H' C/\Mv X.K H G H' G'/\Q (.ref Dd) G'
inductive Vx (Xc:Cx):List Expr->Option xT->Prop
 | none:Vx Xc [] none
 | some {c:Expr} {t:xT}:M4 Xc c t->Vx Xc [c] (some t)
theorem B1{τ:iN}{G G2:Gp}{H2:Hp}{s2:az}{tg elt iter:Expr}{ifs:List Expr}{pos:Pos}{m:Nat}{fr:List Nat}{E:mG}{g:Aw}{c:Option xT}{te:gJ}{J:It}{tn:Nat->Heap->Prop}{it:Addr}{ds:List D}{ok:Gp->Prop}{Q:DK}{Rr:Value->Addr->Result->az->Prop}{E0:Value->az->Prop}
  (hc:X.calm=true) (pQ:∀ y∈scope.names,y.2≠.cell) (BG:scope.kind=.function) (pP:∀ y∈scope.names,y.2=.free->X.env.kindOf y.1=some .cell) (hN:N.length=m+fr.length)
  (Z2:∀ j i x,fr[j]?=some i->N[m+j]?=some x->X.N[i]?=some x/\X.env.scope.names.lookup x=some .cell/\(Hf scope X.env).names.lookup x=some .cell)
  (hg:∀ C s H fp,MG (dZ X N scope C s H fp) tg g) (hi:∀ C s H fp,Vx (dZ X N scope C s H fp) ifs c) (he:∀ C s H fp,gu (dZ X N scope C s H fp) elt te)
  (I:I2 X pins σ H2 τ G2 s2) (m2:Mv X.K H G H2 G2) (T:Turn X.prog X.w X.K tg J fp it tn) (QF:tn 0 s2.heap) (f2:∀ b∈fp,nC X pins H2 b) (wk:TG X.K J H2 ds ok) (hz:ds.length<=SZ)
  (hE0:∀ ex G,¬ E ex G) (q:jv g c te ok ds E (zL m fr τ) G2 [] fun xs G3=>gX G3 (.lst xs) Q)
  (fin:∀ C s',CompEnd X pins σ H G Q C s2.heap.objs.size s'->Rr (.ref s2.heap.objs.size) C (.ok .next) s') :
  wpAny (model X.prog X.w) X.A (newList []) (fun acc Ny=>wpAny (model X.prog X.w) X.A (newFunctionEnv scope X.env.globals (gv X.env scope.names []) [] X.env.qual none .none (some X.env)) (fun Xu Lp =>
   Ce (model X.prog X.w) X.A (.compStart (.ListComp elt [⟨tg,iter,ifs,0⟩] scope pos) 0 (.ref it) acc { Xu with scope:=Hf scope X.env }) (Rr acc Xu.locals) Lp) E0 Ny) E0 s2:=by
 have sz:aZ=16777216:=cF;have v3:H2 s2.heap.objs.size=none:=I.inv.cn.fresh (aC _);have Vc:G2 s2.heap.objs.size=none:=I.ab.free v3;refine cZ (wpAny_newFunctionEnv pQ (by intro y hy; simp at hy) (fun sk Ph Pd=>?_) BG);dsimp only at Ph Pd ⊢;have I3:Inv X pins σ (upd H2 s2.heap.objs.size (.lst [])) { s2 with heap:=s2.heap.push { cls:=.type "list",data:=.seq ([]:List Value).toArray },toks:=s2.toks }:=I.inv.Ze (ys:=[]) .nil (cw _);generalize hs3:({ s2 with heap:=s2.heap.push { cls:=.type "list",data:=.seq ([]:List Value).toArray },toks:=s2.toks }:az)=s3 at I3;generalize Xi:upd H2 s2.heap.objs.size (.lst [])=H3 at I3;have eH3:∀ b,b≠s2.heap.objs.size->H3 b=H2 b:=fun b hb=>by rw [<-Xi,bO hb]
 have FH:s3.heap=s2.heap.push { cls:=.type "list",data:=.seq ([]:List Value).toArray }:=by rw [<-hs3]
 have Wb:s3.heap.objs.size=s2.heap.objs.size+1:=by rw [FH,mL]
 have Pm:∀ b∈fp,b < s2.heap.objs.size:=fun b hb=>by
  obtain⟨o,e,_⟩:=T.obj _ _ QF b hb;exact aS e
 have W7:∀ b∈fp,nC X pins H3 b/\b < s3.heap.objs.size:=fun b hb=>by
  have hb2:=Pm b hb;obtain⟨f0,f1⟩:=f2 b hb;exact⟨⟨by rw [eH3 b (bB hb2)]; exact f0,f1⟩,bM hb2 (by rw [Wb]; exact Hq _)⟩
 have X1:(dZ X N scope s3.heap.objs.size s3 H3 fp).Ok:=Vk I3 pQ BG pP (aC _) W7;have Tq:∀ b o,s3.heap.get? b=some o->sk.get? b=some o:=fun b o e=>by
  have hb:b < s3.heap.objs.size:=aS e;refine Pd.extBut b o ?_ (aH _ ?_)
  ·rw [<-FH]; exact bB hb
  ·rw [<-FH]; exact e
 have ZP:∃ mm,sk.Ns s3.heap.objs.size mm:=⟨_,by rw [FH]; exact Ph⟩;have I4:=Sf (tk:=s3.toks+([]:List (Str×Value)).length) I3 X1 pQ pP hN Z2 ZP Tq;have Zi:Kp H2 H3:=by rw [<-Xi]; exact .new v3
 have Qi:lE X.K H3 G2:=by rw [<-Xi]; exact(Mv.Mf I.ab v3).ab
 have mv3:Mv X.K H2 G2 H3 G2:=by rw [<-Xi]; exact .Mf I.ab v3
 have XU:QL X.K H3 (aO m none++fr.map fun i=>(σ[i]?).getD none) (zL m fr τ):=by
  refine⟨by unfold zL; rw [aE,aE,ak,ak,eV,eV],fun i d h2=>?_⟩;unfold zL at h2;by_cases hi:i < m
  ·rw [bS (by simpa using hi),gj] at h2;split at h2 <;> cases h2
  ·obtain⟨j,rfl⟩:∃ j,i=m+j:=⟨i - m,by lia⟩;rw [bG (by simp),eV,sO,bq] at h2;rw [bG (by simp),eV,sO,bq];cases hj:fr[j]? with
   | none=>rw [hj] at h2; cases h2
   | some k =>
    rw [hj] at h2;have Mi:(τ[k]?).getD none=some d:=by simpa using h2
    have Ye:τ[k]?=some (some d):=by
     cases qq:τ[k]? with
     | none=>rw [qq] at Mi; cases Mi
     | some o=>rw [qq] at Mi; simp at Mi; rw [Mi]
    obtain⟨v,e1,e2⟩:=I.st.at' k d Ye;exact⟨v,by simp [e1],e2.mono Zi⟩
 have hD3:H3 s2.heap.objs.size=some (.lst []):=by rw [<-Xi,bU]
 have V6:tn 0 sk:=T.keep _ _ _ QF fun b hb o e=>Tq b o (by rw [FH]; exact aH _ e);have NF:∀ {Hc:Hp},(∀ b∈fp,Hc b=none)->∀ b∈fp,nC (dZ X N scope s3.heap.objs.size s3 H3 fp) [] Hc b:=fun hn b hb =>
  ⟨hn b hb,(X1.Yk b hb).1,X1.PF b hb,.inl hb,fun x c e=>(X1.Yk b hb).2 x c e,fun p hp=>absurd hp (by simp)⟩
 have neD:∀ b∈fp,b≠s2.heap.objs.size:=fun b hb=>bB (Pm b hb);have loop:Ce (model X.prog X.w) X.A (.compLoop (.ListComp elt [⟨tg,iter,ifs,0⟩] scope pos) 0 (.ref it) (.ref s2.heap.objs.size) (dZ X N scope s3.heap.objs.size s3 H3 fp).env) (Rr (.ref s2.heap.objs.size) s3.heap.objs.size)
   { s3 with heap:=sk,toks:=s3.toks+([]:List (Str×Value)).length }:=by
  refine Du (fun n s'=>∃ i QC Hc Ni Gc tL vb,I2 (dZ X N scope s3.heap.objs.size s3 H3 fp) [] QC Hc Ni Gc s'/\Gc s2.heap.objs.size=none/\Hc s2.heap.objs.size=some (.lst tL)/\bg X.K Hc tL vb/\vb.length<=i/\Mv X.K H2 G2 Hc Gc/\tn i s'.heap/\(∀ b∈fp,Hc b=none) /\
   n=ds.length - i/\i<=ds.length/\jv g c te ok (ds.drop i) E Ni Gc vb fun xs G3=>gX G3 (.lst xs) Q) ?_ ds.length
   ⟨0,_,H3,_,G2,[],[],⟨I4,XU,Qi⟩,Vc,hD3,.nil,aC _,mv3,V6,fun b hb=>by rw [eH3 b (neD b hb)]; exact(f2 b hb).1,rfl,cw _,q⟩
  rintro n s4 ⟨i,QC,Hc,Ni,Gc,tL,vb,Ic,gD,hD,rA,hA,mc,stc,frc,rfl,hle,wq⟩;have kpc:Kp H2 Hc:=mc.kp I.ab;by_cases xn:i < ds.length
  ·rw [ib xn] at wq;obtain⟨YY,wq⟩:=wq;obtain⟨go,yl⟩:=(wk i Hc Gc kpc Ic.ab YY).1 ds[i] (by simp [xn]);refine hU (T.item (dZ X N scope s3.heap.objs.size s3 H3 fp) rfl rfl rfl hc i [] s4 QC Hc (fun _ _=>False) Ic.inv (NF frc) stc go) ?_;rintro r s5 ⟨u,hr,h5⟩;subst hr;refine hU h5 ?_;rintro _ s6 ⟨x,H6,I6,r6,y6,YC,fr6⟩;obtain⟨rd6,m6⟩:=yl x H6 y6;have I6':=I6.pinned (NF fr6) (T.obj _ _ YC);have J6:I2 (dZ X N scope s3.heap.objs.size s3 H3 fp) ([]++qJ fp s6.heap) QC H6 Ni Gc s6:=⟨I6',Ic.st.mono (m6.kp Ic.ab),m6.ab⟩;have back:∀ {Yu:L2.St} {H9:Hp} {XJ:iN} {G9:Gp} {s9:az} {aV:List V} {aD:List D},I2 (dZ X N scope s3.heap.objs.size s3 H3 fp) ([]++qJ fp s6.heap) Yu H9 XJ G9 s9->Mv X.K H2 G2 H9 G9->G9 s2.heap.objs.size=none->H9 s2.heap.objs.size=some (.lst aV)->bg X.K H9 aV aD->aD.length<=i+1 ->
     (jv g c te ok (ds.drop (i+1)) E XJ G9 aD fun xs G3=>gX G3 (.lst xs) Q)->∃ mm,mm < ds.length - i/\∃ i QC Hc Ni Gc tL vb,I2 (dZ X N scope s3.heap.objs.size s3 H3 fp) [] QC Hc Ni Gc s9/\Gc s2.heap.objs.size=none/\Hc s2.heap.objs.size=some (.lst tL)/\bg X.K Hc tL vb/\vb.length<=i /\
      Mv X.K H2 G2 Hc Gc/\tn i s9.heap/\(∀ b∈fp,Hc b=none)/\mm=ds.length - i/\i<=ds.length/\jv g c te ok (ds.drop i) E Ni Gc vb fun xs G3=>gX G3 (.lst xs) Q:=fun {Yu H9 XJ G9 s9 aV aD} I9 m9 g9 h9 r9 l9 n9=>by
    refine⟨ds.length - (i+1),by lia,i+1,Yu,H9,XJ,G9,aV,aD,⟨I9.inv.tY,I9.st,I9.ab⟩,g9,h9,r9,l9,m9,T.keep _ _ _ YC fun b hb o e=>(I9.inv.pin (b,o) (dg _ (dg _ (pb hb e)))).1,fun b hb=>?_,rfl,xn,n9⟩;obtain⟨o,e,d⟩:=T.obj _ _ YC b hb;exact(I9.inv.pin (b,o) (dg _ (dg _ (pb hb e)))).2.1
   have mc6:=mc.trans m6;have hD6:=m6.keep _ _ hD gD;refine hU (hg _ _ _ _ E _ s6 QC H6 Ni Gc x ds[i] u _ (Lk.none hE0) J6 r6 rd6 wq) ?_;rintro _ s7 ⟨MW,H7,MV,G7,I7,m7,q7⟩;have Yi:=m7.keep _ _ hD6.1 gD;have mc7:=mc6.trans m7;have rA7:=rA.mono ((m6.trans m7).kp Ic.ab);have Xm:∀ (H8:Hp) (G8:Gp) (s8:az),I2 (dZ X N scope s3.heap.objs.size s3 H3 fp) ([]++qJ fp s6.heap) MW H8 MV G8 s8->Mv X.K H7 G7 H8 G8->(te E MV G8 fun y G9=>jv g c te ok (ds.drop (i+1)) E MV G9 (vb++[y]) fun xs G3=>gX G3 (.lst xs) Q) ->
     wpAny (model X.prog X.w) X.A (eval elt (dZ X N scope s3.heap.objs.size s3 H3 fp).env) (fun y Lp=>wpAny (model X.prog X.w) X.A (call (.builtin "list.append") [.ref s2.heap.objs.size,y]) (fun _ Nx=>∃ mm,mm < ds.length - i/\∃ i QC Hc Ni Gc tL vb,I2 (dZ X N scope s3.heap.objs.size s3 H3 fp) [] QC Hc Ni Gc Nx/\Gc s2.heap.objs.size=none/\Hc s2.heap.objs.size=some (.lst tL)/\bg X.K Hc tL vb/\vb.length<=i /\
      Mv X.K H2 G2 Hc Gc/\tn i Nx.heap/\(∀ b∈fp,Hc b=none)/\mm=ds.length - i/\i<=ds.length/\jv g c te ok (ds.drop i) E Ni Gc vb fun xs G3=>gX G3 (.lst xs) Q) (fun _ _=>False) Lp) (fun _ _=>False) s8:=fun H8 G8 s8 I8 m8 q8=>by
    refine j6 (he _ _ _ _) (Lk.none hE0) I8 q8 fun v H9 d9 G9 u9 s9 I9 m9 r9 rd9 q9=>?_;have Zc:=m8.trans m9;have Yh:=Zc.keep _ _ Yi.1 Yi.2;have rA9:=rA7.mono (Zc.kp I7.ab);have mc9:=mc7.trans Zc;refine hU (Bu (X:=dZ X N scope s3.heap.objs.size s3 H3 fp) _ s9 MW H9 (.ref s2.heap.objs.size) [v] _ [u9] (fun _ H'=>H'=upd H9 s2.heap.objs.size (.lst (tL++[v]))) I9.inv rfl (.cons r9 .nil)
     ⟨_,tL,v,rfl,rfl,Yh.1,by rw [rA.length,sz]; have:SZ=16777216:=rfl; lia,rfl⟩) ?_
    rintro _ s10 ⟨v10,H10,I10,_,e10⟩;subst e10;have Zh:Kp H9 (upd H9 s2.heap.objs.size (.lst (tL++[v]))):=.putL Yh.1;have abA:lE X.K (upd H9 s2.heap.objs.size (.lst (tL++[v]))) G9:=fun a g' e=>by
     have ne:a≠s2.heap.objs.size:=by rintro rfl; rw [Yh.2] at e; cases e
     exact(I9.ab a g' e).mono Zh (bO ne)
    have mA:Mv X.K H2 G2 (upd H9 s2.heap.objs.size (.lst (tL++[v]))) G9:=⟨fun a o e n=>by
      have ne:a≠s2.heap.objs.size:=dQ e v3;obtain⟨e1,e2⟩:=mc9.keep a o e n;exact⟨by rw [bO ne]; exact e1,e2⟩,fun a n=>by
      by_cases ha:a=s2.heap.objs.size
      ·rw [ha,bU]; simp
      ·rw [bO ha]; exact mc9.mi a n,abA⟩
    exact back ⟨I10,I9.st.mono Zh,abA⟩ mA Yh.2 bU ((rA9.append (.cons rd9 .nil)).mono Zh) (by rw [aE,cb]; lia) q9
   cases hi s3.heap.objs.size s3 H3 fp with
   | none =>
    refine wpAny_tests_nil ?_;rw [if_pos rfl];exact Xm H7 G7 s7 I7 (.refl I7.ab) q7
   | some Xe =>
    refine wpAny_tests_one (Nu Xe (Lk.none hE0) I7 q7 fun k H8 G8 s8 I8 m8 q8=>?_);cases k with
    | true =>
     rw [if_pos rfl] at q8 ⊢;exact Xm H8 G8 s8 I8 m8 q8
    | false =>
     rw [if_neg gZ] at q8 ⊢;have hD8:=m8.keep _ _ Yi.1 Yi.2;exact back I8 (mc7.trans m8) hD8.2 hD8.1 (rA7.mono (m8.kp I7.ab)) (by lia) q8
  ·have hn:ds.length<=i:=by lia
   rw [me hn] at wq;obtain⟨YY,qn⟩:=wq;have stop:=(wk i Hc Gc kpc Ic.ab YY).2 hn;refine hU (T.done (dZ X N scope s3.heap.objs.size s3 H3 fp) rfl rfl rfl hc i [] s4 QC Hc (fun _ _=>False) Ic.inv (NF frc) stc stop) ?_;rintro r s5 ⟨hr,I5⟩;subst hr;refine fin s3.heap.objs.size s5 ?_;obtain⟨mm,ZQ,_⟩:=I5.loc;have hC5:Hc s3.heap.objs.size=none:=I5.free;have I6:Inv X pins σ Hc s5:=by
    obtain⟨h5,g5,d5,t5,o5⟩:=s5;have eo:o5=s3.os:=I5.os;subst eo;exact I3.call (h':=h5) (g':=g5) (d':=d5) (t':=t5) (ch:=fp) I5.base I5.cn I5.bare fun b hb=>by
     obtain⟨⟨f0,f1,f2',f3,f4,f5⟩,hl⟩:=W7 b hb;exact⟨f3,f1,f4,f5⟩
   have mvF:Mv X.K H2 G2 Hc (eA Gc s2.heap.objs.size (.lst vb)):=⟨fun a o e n=>by
     have ne:a≠s2.heap.objs.size:=dQ e v3;obtain⟨e1,e2⟩:=mc.keep a o e n;exact⟨e1,by rw [cu ne]; exact e2⟩,mc.mi,fun a g' e=>by
     by_cases ha:a=s2.heap.objs.size
     ·subst ha;rw [ay] at e;cases e;exact⟨tL,hD,rA⟩
     ·rw [cu ha] at e;exact Ic.ab a g' e⟩
   exact⟨mm,Hc,_,I6,ZQ,I3.AO (aC _) hC5,m2.trans mvF,qn _ gD⟩
 have all:Ce (model X.prog X.w) X.A (.compStart (.ListComp elt [⟨tg,iter,ifs,0⟩] scope pos) 0 (.ref it) (.ref s2.heap.objs.size) (dZ X N scope s3.heap.objs.size s3 H3 fp).env) (Rr (.ref s2.heap.objs.size) s3.heap.objs.size)
   { s3 with heap:=sk,toks:=s3.toks+([]:List (Str×Value)).length }:=codeAny_compStart_list loop (T.self _ 0 _ _ _ V6 loop)
 subst hs3;exact all
end
section
variable {X:Cx} {N:List Str} {scope:Scope} {tg elt iter:Expr} {ifs:List Expr} {pos:Pos} {m:Nat} {fr:List Nat} {wi:MC} {g:Aw} {c:Option xT} {te:gJ}
structure Ag(X:Cx)(N:List Str)(scope:Scope)(m:Nat)(fr:List Nat):Prop where
 cell:∀ y∈scope.names,y.2≠.cell
 kind:scope.kind=.function
 names:∀ y∈scope.names,y.2=.local->scope.names.lookup y.1=some .local
 free:∀ y∈scope.names,y.2=.free->X.env.kindOf y.1=some .cell
 len:N.length=m+fr.length
 at':∀ j i x,fr[j]?=some i->N[m+j]?=some x->X.N[i]?=some x/\X.env.scope.names.lookup x=some .cell/\(Hf scope X.env).names.lookup x=some .cell
theorem Ag.closed{X:Cx}{N:List Str}{scope:Scope}{m:Nat}{fr:List Nat}(k:Ag X N scope m fr){pins:List (Addr×Obj)}{σ:L2.St}{H:Hp}{s:az}(I:Inv X pins σ H s):closureFor scope X.env=pure (gv X.env scope.names []) :=
 AV fun y hy hf=>I.ok.has _ (.inl (k.free y hy hf))
theorem LI(hc:X.calm=true)(k:Ag X N scope m fr)(hi:MF X tg iter wi)(hg:∀ C s H fp,MG (dZ X N scope C s H fp) tg g)(U3:∀ C s H fp,Vx (dZ X N scope C s H fp) ifs c)(he:∀ C s H fp,gu (dZ X N scope C s H fp) elt te)
  (hs:autoParam (∀ x,nX iter X.env x=pure x) Ai._auto_1):gu X (.ListComp elt [⟨tg,iter,ifs,0⟩] scope pos) (fx m fr wi g c te):=by
 intro E pins s σ H τ G Q hE I h;rw [eval_ListComp];refine wpAny_comprehension_free (use:=none) rfl hs (k.closed I.inv) k.kind k.names (hU (hi E pins s σ H τ G _ hE I h) fun xv fX sk=>hU sk fun S9 lP Iw=>?_);obtain⟨it,fp,tn,J,H2,G2,ds,ok,e,nB,m2,T,QF,f2,wk,hz,q⟩:=Iw;subst e;refine B1 (Rr:=fun acc C=>compPost (model X.prog X.w) X.A X.xe none (r8 X pins σ H G Q) acc C) hc k.cell k.kind k.free k.len k.at' hg U3 he (I.mv nB m2) m2 T QF f2 wk hz (fun _ _ z=>z) q ?_;rintro C s' ⟨mm,H',G',I',QK,fpC,mv,q'⟩;refine⟨mm,QK,fun h' Te=>?_⟩;obtain⟨f0,f1,_,f3,f4,f5⟩:=fpC;exact⟨.ref _,H',.ref _,G',I'.turned (t':=s'.toks) (fun b o hb e=>Te.extBut b o hb e) f0 f1 f3 f4 f5,mv,rfl,.ref _,q'⟩
theorem EO{i:Nat}{y:Str}{py NI:Pos}(hN:X.N.Nodup)(Zs:X.N[i]?=some y)(hy:X.env.scope.names.lookup y=some .local)(hc:X.calm=true)(k:Ag X N scope m fr)(hi:MF X tg iter wi)(hg:∀ C s H fp,MG (dZ X N scope C s H fp) tg g)
  (U3:∀ C s H fp,Vx (dZ X N scope C s H fp) ifs c) (he:∀ C s H fp,gu (dZ X N scope C s H fp) elt te) (ZE:autoParam (Na (.ListComp elt [⟨tg,iter,ifs,0⟩] scope pos) (some (.Name y py)) NI.line X.env=pure true) Ar._auto_1)
  (hs:autoParam (∀ x,nX iter X.env x=pure x) Ai._auto_1):Jh X (.Assign [.Name y py] (.ListComp elt [⟨tg,iter,ifs,0⟩] scope pos) NI) (bE (fx m fr wi g c te) (aG i)):=by
 intro E pins s σ H τ G D hE I h;rw [exec_Assign_Name_used _ _ _ _ ZE];refine ag (D7 (ag ?_));show wpAny _ X.A (do let _ ← comprehension (.ListComp elt [⟨tg,iter,ifs,0⟩] scope pos) scope X.env _ (newList []) false (eval iter X.env) (some (Ju (.Name y py) X.env))) _ _ s;refine ag (hU (wpAny_comprehension_free (use:=some (Ju (.Name y py) X.env)) (Q:=fun _ s'=>Vw X pins H G D .next s') rfl hs (k.closed I.inv) k.kind k.names (hU (hi E pins s σ H τ G _ hE I h) fun xv fX sk=>hU sk fun S9 lP Iw=>?_)) fun _ s' hq=>aA (aA hq));obtain⟨it,fp,tn,J,H2,G2,ds,ok,e,nB,m2,T,QF,f2,wk,hz,q⟩:=Iw;subst e;refine B1 (Rr:=fun acc C=>compPost (model X.prog X.w) X.A X.xe (some (Ju (.Name y py) X.env)) (fun _ s'=>Vw X pins H G D .next s') acc C) hc k.cell k.kind k.free k.len k.at' hg U3 he (I.mv nB m2) m2 T QF f2 wk hz (fun _ _ z=>z) q ?_;rintro C s' ⟨mm,H',G',I',QK,fpC,mv,q'⟩;show wpAny (model X.prog X.w) X.A (Ju (.Name y py) X.env (.ref lP.heap.objs.size)) _ X.xe s';obtain⟨f0,f1,_,f3,f4,f5⟩:=fpC;refine wpAny_assign_Name (Bc (v:=.ref lP.heap.objs.size) I' hN Zs (.inl hy) rfl (?_) (.inr hy));rintro s3 I3 ⟨a,hsb,ha⟩;have hCa:C≠a:=by
  rcases ha with rfl | ha
  ·exact f1
  ·exact fun e=>f4 y a ha e.symm
 refine⟨mm,QK.sameBut hsb hCa,fun h' Te=>?_⟩;exact⟨_,H',_,G',⟨I3.turned (t':=s3.toks) (fun b o hb e=>Te.extBut b o hb e) f0 f1 f3 f4 f5,(I.st.mono (mv.kp I.ab)).set i (.ref _),mv.ab⟩,mv,q'⟩
theorem bK{i:Nat}{u:DM}{n:Nat}(h:∀ E ds τ G Q,u E ds τ G Q->ds.length=n):∀ E ds τ G Q,cy (aG i) u E ds τ G Q->ds.length=n+1 :=
 Mj h (fun _ _ _ _ _ _ q k=>k _ _ q) fun _ _ _ _ q=>q
theorem bo (i:Nat) {x:Str} {pos:Pos} (hN:autoParam (X.N[i]?=some x) Ar._auto_1) (hv:autoParam (Yn X.env.scope x) Ao._auto_1) (hd:autoParam ((x == ("__debug__" : Str))=false) Ad._auto_1)
  (Ks:autoParam ((x == ("__classdict__" : Str))=false) Ad._auto_1):gu X (.Name x pos) (av i):=Rx hN hv hd Ks
theorem Il{pins:List (Addr×Obj)}{s:az}{σ:L2.St}{H:Hp}{G:Gp}{x:V}{d:D}{v:Value}{zs:List D}(I:Inv X pins σ H s)(ab:lE X.K H G)(rx:RelV x v)(rd:bX X.K H x d)(hi:itemsOf d G=some zs) :
  ∃ l vs bH,v=.ref l/\Vals vs bH/\bg X.K H vs zs/\(s.heap.IsList l bH.toArray\/s.heap.IsTuple l bH.toArray)/\vs.length<=aZ:=by
 cases rd with
 | cY hq rs =>
  cases hi;cases rx;obtain⟨bH,rv,pl,hz⟩:=I.list hq.sq;exact⟨_,_,bH,rfl,rv,rs,.inl pl.isList,hz⟩
 | tup hq rs =>
  cases hi;cases rx;obtain⟨bH,rv,pl,hz⟩:=I.tuple (.of hq);exact⟨_,_,bH,rfl,rv,rs,.inr pl,hz⟩
 | ref l =>
  unfold itemsOf at hi;dsimp only at hi;cases hg:G l with
  | none=>rw [hg] at hi; cases hi
  | some gg =>
   rw [hg] at hi;cases gg with
   | lst ds =>
    cases hi;cases rx;obtain⟨vs,hv,rs⟩:=ab.lst hg;obtain⟨bH,rv,pl,hz⟩:=I.list (.of hv);exact⟨_,_,bH,rfl,rv,rs,.inl pl.isList,hz⟩
   | ins _ _=>cases hi
   | qh _=>cases hi
   | gK _=>cases hi
 | _=>cases hi
theorem Uu{body:List Stmt}{t2:hV}(h:xr X body t2){E:mG}(hE:Lk X E):VX X body (fun D σ H=>∃ (τ:iN) (G:Gp) (D2:nU),QL X.K H σ τ/\lE X.K H G/\t2 E D2 τ G /\
  (∀ jX H' qa G',Mv X.K H G H' G'->D2.nx qa G'->D.nx jX H')/\(∀ v H' d G',Mv X.K H G H' G'->bX X.K H' v d->D2.rt d G'->D.rt v H')/\(∀ τ G,¬ D2.bk τ G)/\(∀ τ G,¬ D2.ct τ G)):=by
 rintro pins s σ H D I ⟨τ,G,D2,st,ab,q,k1,k2,k3,k4⟩;refine hU (h E pins s σ H τ G D2 hE ⟨I,st,ab⟩ q) fun f s1 z=>?_;cases f with
 | next=>obtain⟨jX,H',qa,G',J,mv,z⟩:=z; exact⟨jX,H',J.inv,k1 jX H' qa G' mv z⟩
 | brk=>obtain⟨jX,H',qa,G',J,mv,z⟩:=z; exact(k3 _ _ z).elim
 | cont=>obtain⟨jX,H',qa,G',J,mv,z⟩:=z; exact(k4 _ _ z).elim
 | ret u=>obtain⟨v,jX,H',d,G',J,mv,r,rd,z⟩:=z; exact⟨v,jX,H',J,r,k2 v H' d G' mv rd z⟩
theorem NG{K:au}{H:Hp}{Nn:List Str}{vs:List V}{ds:List D}(r:bg K H vs ds):QL K H (L2.start Nn vs) (ba Nn.length ds):=by
 unfold L2.start ba;refine⟨by simp [r.length],fun i d h=>?_⟩;by_cases hi:i < ds.length
 ·rw [bS (by simpa using hi),bq] at h;cases hd:ds[i]? with
  | none=>rw [hd] at h; cases h
  | some d' =>
   rw [hd] at h;have e:d'=d:=by simpa using h
   subst e;obtain⟨v,h1,h2⟩:=r.get hd;refine⟨v,?_,h2⟩;rw [bS (by simpa [r.length] using hi),bq,h1]; rfl
 ·rw [bG (by simpa using hi),gj] at h;split at h <;> cases h
theorem Kx{P:bI}{w:World}{K:au}{mg:Str->Option Value}{base:Heap}{x qual:Str}{st:Stmt}{f:Addr}{fd:gm}{Nn ps:List Str}{k:Nat}{sp:jU}{rd:hV}(F:SE K x qual st f fd)(S:nT Nn ps (bV st))(len:∀ ds G Q E,sp ds G Q E->ds.length=ps.length)
  (hr:∀ ds G Q,sp ds G Q (fun _ _=>False)->rd (fun _ _=>False) (ends Q) (ba Nn.length ds) G)
  (hb:∀ (mE:Value) (A:dI) (outer:List Env) (s:az) (H:Hp) (E:XK),lV k (A.deeper (A6 qual (bV st) s.heap.objs.size f mE))->xr (Ds Js P w K mg base Nn qual (bV st) f mE A outer s H E).UK (iK st) rd):wu P w K mg base Js (k+1) f fd ps (AF K sp):=by
 refine F.ok S ((by rintro vs H Q E ⟨ds,G,Q2,r,ab,q,_⟩; exact by rw [r.length]; exact len _ _ _ _ q)) ?_;rintro mE A outer s H vs Q E WS ⟨ds,G,Q2,r,ab,q,kk⟩;refine⟨_,Uu (hb mE A outer s H E WS) (E:=fun _ _=>False) (Lk.none fun _ _ z=>z),?_⟩;exact⟨ba Nn.length ds,G,ends Q2,NG r,ab,hr ds G Q2 q,fun jX H' qa G' mv z=>kk _ _ _ _ z mv .eQ,fun v H' d G' mv YJ z=>kk _ _ _ _ z mv YJ,fun _ _ z=>z,fun _ _ z=>z⟩
section
variable {prog:bI} {w:World} {A:dI} {R:Result->az->Prop} {Ys:Addr} {fq wr:List Addr} {n:Nat} {P:Nat->Value->Prop} {Sx:Nat->Heap->Prop}
theorem UM(W:Walks prog w A.in1 Ys fq wr n P Sx)(bt:Nat->Nat->Bool)(T:Heap->Prop)(B:Addr)(hB:B∉fq)(hT:∀ h h',T h->(∀ b o,b∉wr->b≠B->h.get? b=some o->h'.get? b=some o)->T h')
  (cmp:∀ i j x y s (Q:Value->az->Prop) (E:Value->az->Prop),T s.heap->P i x->P j y->Q (.bool (bt i j)) s->wpAny (model prog w) A.in1 (qk .Lt x y) Q E s) :
  ∀ (k j:Nat) (s:az) (best:Value) (cc:Nat),n - (j+1)=k->j+1<=n->Sx (j+1) s.heap->T s.heap->P (qo bt j) best ->
  s.heap.get? B=some { cls:=.type "list",dict:=none,data:=.seq #[best,best] cc,slots:=#[] } ->
  (∀ v h' tk,P (qo bt (n - 1)) v->(∀ b o,b∉wr->b≠B->s.heap.get? b=some o->h'.get? b=some o)->R (.ok (.ret v)) { s with heap:=h',toks:=tk }) ->
  Ce (model prog w) A (.builtin "min.loop" ⟨[.ref Ys,.none,.ref B],[]⟩) R s:=by
 have hBw:B∉wr:=fun z=>hB (W.sub _ z);have nm:(toString "min"++toString ".loop" : String) = "min.loop":=by decide
 intro k;induction k with
 | zero =>
  intro j s best cc hk hj hs ht hp hb hR;have ej:j+1=n:=by lia
  refine qm Ht ?_; rw [jW jl _];show wpAny _ A.in1 (seqItems? (.ref B) >>= _) _ _ s; refine ag (sM hb rfl ?_);show wpAny _ A.in1 (tryCatch (wy (.ref Ys)) _ >>= _) _ _ s; refine ag (A4 (W.done s _ _ (ej ▸ hs) fun h' tk kept=>?_));have IA:=kept B _ hBw hb;show wpAny _ A.in1 (updateSeq B (fun _=>#[]) >>= _) _ _ _; refine ag ?_;refine xW IA rfl (ag (vo (aA ?_)));exact hR best _ tk (by rw [<-ej]; exact hp) fun b o z1 z2 e=>(dB _ _ (e7 z2)).trans (kept b o z1 e)
 | succ k ih =>
  intro j s best cc hk hj hs ht hp hb hR;have lt:j+1 < n:=by lia
  refine qm Ht ?_; rw [jW jl _];show wpAny _ A.in1 (seqItems? (.ref B) >>= _) _ _ s; refine ag (sM hb rfl ?_);show wpAny _ A.in1 (tryCatch (wy (.ref Ys)) _ >>= _) _ _ s; refine ag (A4 (W.item (j+1) s _ _ lt hs fun v h' tk pv AD kept=>?_));have IA:=kept B _ hBw hb;have VL:T h':=hT _ _ ht fun b o z1 _ e=>kept b o z1 e;show wpAny _ A.in1 (tryCatch (Hh [v,v] (qk .Lt v best >>= _)) _ >>= _) _ _ _;refine ag (A4 (eu (ag (cmp (j+1) (qo bt j) v best _ _ _ VL pv hp ?_)))); refine ag (eu (nV ?_)); refine ag (vo (aA ?_));cases hbt:bt (j+1) (qo bt j) with
  | true =>
   simp only [if_true]; refine ag ?_;refine xW IA rfl (ag (vo ?_)); rw [nm];refine aA ⟨pW jl _,ih (j+1) _ v _ (by lia) lt (W.frame _ _ _ AD fun b z o e=>?_) (hT _ _ VL fun b o _ z2 e=>?_) (by simp only [qo,hbt,if_true]; exact pv) (jE _ IA rfl) fun v' Xj Nr Wk kk=>?_⟩
   ·exact(dB _ _ (fun z':B=b=>hB (by rw [z']; exact z))).trans e
   ·exact(dB _ _ (e7 z2)).trans e
   ·exact hR v' Xj Nr Wk fun b o z1 z2 e=>kk b o z1 z2 ((dB _ _ (e7 z2)).trans (kept b o z1 e))
  | false =>
   simp only [ar,if_false]; refine ag (vo ?_); rw [nm];refine aA ⟨pW jl _,ih (j+1) _ best cc (by lia) lt AD VL (by simp only [qo,hbt,ar,if_false]; exact hp) IA fun v' Xj Nr Wk kk=>?_⟩;exact hR v' Xj Nr Wk fun b o z1 z2 e=>kk b o z1 z2 (kept b o z1 e)
end
theorem Ff{prog:bI}{w:World}{A:dI}{E:Value->az->Prop}{s:az}{x:Value}{Q:Value->az->Prop}
  (h:wpAny (model prog w) A.in1 (Ea x) (fun it lP=>∃ (I:Addr) (fq wr:List Addr) (n:Nat) (P:Nat->Value->Prop) (Sx:Nat->Heap->Prop) (bt:Nat->Nat->Bool) (T:Heap->Prop),it=.ref I/\Walks prog w A.in1 I fq wr n P Sx/\Sx 0 lP.heap/\(∀ b∈fq,b < lP.heap.objs.size)/\0 < n/\T lP.heap/\(∀ (h h':Heap) (B:Addr),lP.heap.objs.size<=B->T h->(∀ b o,b∉wr->b≠B->h.get? b=some o->h'.get? b=some o)->T h') /\
   (∀ i j x y s (Q:Value->az->Prop) (E:Value->az->Prop),T s.heap->P i x->P j y->Q (.bool (bt i j)) s->wpAny (model prog w) A.in1 (qk .Lt x y) Q E s) /\
   ∀ v h' tk,P (qo bt (n - 1)) v->(∀ b o,b∉wr->lP.heap.get? b=some o->h'.get? b=some o)->Q v { lP with heap:=h',toks:=tk }) E s) :
  wpAny (model prog w) A (call (.builtin "min") [x]) Q E s:=by
 have nm:(toString "min"++toString ".loop" : String) = "min.loop":=by decide
 refine call_function_tree F.kind_min F.plain_min F.entry_min (F.args_min1 _) ?_;show wpAny _ A.in1 (vn "min" ["key","default"] 0 ⟨[],[]⟩ >>= _) _ _ s; refine ag (wpAny_of_eq (show vn "min" ["key","default"] 0 ⟨[],[]⟩=pure [none,none] from rfl) ?_);refine ag (aA ?_); refine ag (Hd h (fun it lP Iw=>?_) fun _ _ e=>e);obtain⟨I,fq,wr,n,P,Sx,bt,T,rfl,W,ZG,W8,hn,ht,hT,cmp,hQ⟩:=Iw;refine ag (cZ ?_);have hSf:lP.heap.objs.size∉fq:=fun z=>iQ _ (W8 _ z);have hSw:lP.heap.objs.size∉wr:=fun z=>hSf (W.sub _ z);rw [nm];generalize hh:lP.heap.push { cls:=.type "list",data:=.seq ([]:List Value).toArray } = hp;have hb:hp.get? lP.heap.objs.size=some { cls:=.type "list",dict:=none,data:=.seq #[] 0,slots:=#[] }:=by rw [<-hh]; exact bh _ rfl
 have old:∀ b o,lP.heap.get? b=some o->hp.get? b=some o:=fun b o e=>by rw [<-hh]; exact aH _ e
 have st0:Sx 0 hp:=W.frame _ _ _ ZG fun b _ o e=>old b o e;have ht0:T hp:=hT _ _ _ (aC _) ht fun b o _ _ e=>old b o e;refine aA ⟨pW jl _,?_⟩;refine qm Ht ?_; rw [jW jl _];show wpAny _ A.in1 (seqItems? (.ref lP.heap.objs.size) >>= _) _ _ _; refine ag (sM hb rfl ?_);show wpAny _ A.in1 (tryCatch (wy (.ref I)) _ >>= _) _ _ _; refine ag (A4 (W.item 0 _ _ _ hn st0 fun v h' tk pv AD kept=>?_));have IA:=kept _ _ hSw hb;show wpAny _ A.in1 (updateSeq lP.heap.objs.size (fun _=>#[v,v]) >>= _) _ _ _; refine ag ?_;refine xW IA rfl ?_; rw [nm];refine aA ⟨pW jl _,UM W bt T _ hSf (fun h h'=>hT h h' _ (aC _)) cmp _ 0 _ v _ rfl hn (W.frame _ _ _ AD fun b z o e=>?_) (hT _ _ _ (aC _) (hT _ _ _ (aC _) ht0 fun b o z1 _ e=>kept b o z1 e) fun b o _ z2 e=>?_) pv (jE _ IA rfl) fun v' Xj Nr Wk kk=>?_⟩
 ·exact(dB _ _ (fun z':lP.heap.objs.size=b=>hSf (by rw [z']; exact z))).trans e
 ·exact(dB _ _ (e7 z2)).trans e
 ·refine hQ v' Xj Nr Wk fun b o z1 e=>?_;have nb:b≠lP.heap.objs.size:=bB (aS e);exact kk b o z1 nb ((dB _ _ (e7 nb)).trans (kept b o z1 (old b o e)))
theorem Gx{α:Type}(lt:α->α->Bool)(l:List α)(a:α)(f:Nat->α)(hf:∀ i,i < l.length+1->f i=(a :: l).getD i a) :
  f (qo (fun i j=>lt (f i) (f j)) l.length)=l.foldl (fun m x=>if lt x m=true then x else m) a:=by
 have key:∀ k,k<=l.length->f (qo (fun i j=>lt (f i) (f j)) k)=(l.take k).foldl (fun m x=>if lt x m=true then x else m) a:=by
  intro k;induction k with
  | zero=>intro _; rw [qo,hf 0 (by lia)]; rfl
  | succ k ih =>
   intro hk;have ih':=ih (by lia);rw [List.take_succ_eq_append_getElem (by lia),iq,<-ih'];have e:f (k+1)=l[k]:=by
    rw [hf (k+1) (by lia),d6];simp [show k < l.length by lia]
   show f (if lt (f (k+1)) (f (qo _ k))=true then k+1 else qo _ k)=(if lt l[k] _=true then l[k] else _);rw [<-e];split <;> rfl
 rw [key l.length (aC _),List.take_length]
theorem Ms (hc : X.calm = true) (hu : X.A.units + 64 < cLine) : rg X (.builtin "min") P6 := by
  intro pins s σ H G xs ds us Q I ab rx rd q;unfold P6 at q;split at q
  · rename_i x
    obtain⟨v, rfl, r⟩ := rd.one;obtain⟨u, rfl, ru⟩ := rx.one;have main : ∀ {α : Type} (zs : List α) (a : α) (enc : α -> D) (lt : α -> α -> Bool) (T : Heap -> Prop), itemsOf x G = some ((a :: zs).map enc) -> T s.heap -> (∀ (h h' : Heap) (B : Addr), s.heap.objs.size ≤ B -> T h -> (∀ b o, b < s.heap.objs.size -> b ≠ B -> h.get? b = some o -> h'.get? b = some o) -> T h') ->
        (∀ y z vy vz uy uz (s' : az) (Q' : Value -> az -> Prop) (E' : Value -> az -> Prop), T s'.heap -> bX X.K H vy (enc y) -> RelV vy uy -> bX X.K H vz (enc z) -> RelV vz uz -> Q' (.bool (lt y z)) s' -> wpAny (model X.prog X.w) X.A.in1 (qk .Lt uy uz) Q' E' s') ->
        Q (enc (zs.foldl (fun m x => if lt x m = true then x else m) a)) G -> wpAny (model X.prog X.w) X.A (call (.builtin "min") [u]) (r8 X pins σ H G Q) X.xe s := by
      intro α zs a enc lt T hi ht hT cmp hq;obtain⟨l, vs, bH, rfl, rv, rs, hl, hz⟩ := Il I ab ru r hi;have hlen : bH.length = zs.length + 1 := by rw [<-rv.length, rs.length, ak, aj]
      have oA : ∀ {o : Obj}, s.heap.get? l = some o -> l ≠ s.heap.objs.size := fun e => bB (aS e);have at_ : ∀ i uu, bH.toArray[i]? = some uu -> ∃ vv, RelV vv uu ∧ bX X.K H vv (enc ((a :: zs).getD i a)) := fun i uu e => by
        have e' : bH[i]? = some uu := by simpa using e
        have Ts : i < bH.length := (List.getElem?_eq_some_iff.mp e').1;have hd : ((a :: zs).map enc)[i]? = some (enc ((a :: zs).getD i a)) := by
          rw [bq, d6];cases h9 : (a :: zs)[i]? with
          | none => rw [List.getElem?_eq_none_iff] at h9; simp at h9; lia
          | some z => rfl
        obtain⟨vv, h1, h2⟩ := rs.get hd;obtain⟨uu', h3, h4⟩ := rv.get h1;rw [e'] at h3;cases h3;exact⟨vv, h4, h2⟩
      have Xs : ∀ i j p9 q9 s' (Q' : Value -> az -> Prop) (E' : Value -> az -> Prop), T s'.heap -> bH.toArray[i]? = some p9 -> bH.toArray[j]? = some q9 -> Q' (.bool (lt ((a :: zs).getD i a) ((a :: zs).getD j a))) s' -> wpAny (model X.prog X.w) X.A.in1 (qk .Lt p9 q9) Q' E' s' := fun i j p9 q9 s' Q' E' t' h1 h2 h3 => by
        obtain⟨v1, r1, d1⟩ := at_ i p9 h1;obtain⟨v2, r2, d2⟩ := at_ j q9 h2;exact cmp _ _ v1 v2 p9 q9 s' Q' E' t' d1 r1 d2 r2 h3
      have fin : ∀ vv h' tk, bH.toArray[qo (fun i j => lt ((a :: zs).getD i a) ((a :: zs).getD j a)) (bH.toArray.size - 1)]? = some vv -> (∀ b o, b ∉ [s.heap.objs.size] -> s.heap.get? b = some o -> h'.get? b = some o) -> r8 X pins σ H G Q vv { s with heap := h', toks := tk } := fun vv h' tk e hk => by
        obtain⟨v1, r1, d1⟩ := at_ _ vv e;have es : bH.toArray.size - 1 = zs.length := by rw [aX]; lia
        rw [es, Gx lt zs a (fun i => (a :: zs).getD i a) (fun i _ => rfl)] at d1;exact⟨v1, H, _, G, I.kept fun b o e => hk b o (by simpa using bB (aS e)) e, .refl ab, r1, d1, hq⟩
      have R0 : 0 < bH.toArray.size := by rw [aX]; lia
      have hTp : ∀ (oo : Obj), T (s.heap.push oo) := fun oo => hT _ _ (s.heap.objs.size + 1) (Hq _) ht fun b o hb _ e => aH _ e;have hT2 : ∀ (oo : Obj) (h h' : Heap) (B : Addr), (s.heap.push oo).objs.size ≤ B -> T h -> (∀ b o, b ∉ [s.heap.objs.size] -> b ≠ B -> h.get? b = some o -> h'.get? b = some o) -> T h' := fun oo h h' B hB t kk => hT h h' B (by rw [mL] at hB; exact Nat.le_of_succ_le hB) t fun b o hb hn e => kk b o (by simpa using bB hb) hn e;rcases hl with hl | hl
      · refine Ff (wpAny_pyIter_list hl ?_)
        obtain⟨o, ho, Mh, n, hd⟩ := id hl;exact⟨s.heap.objs.size, _, _, _, _, _, _, T, rfl, Walks.list (A := X.A.in1) (show X.A.in1.handled = none from I.ok.hd hc) _ l (oA ho) bH.toArray, ⟨⟨_, bh _ rfl, rfl, rfl⟩, ⟨o, aH _ ho, Mh, n, hd⟩⟩,
          fun b hb => by rcases (by simpa using hb : b = s.heap.objs.size ∨ b = l) with rfl | rfl
                         · rw [mL]; exact tQ _
                         · rw [mL]; exact Cg (aS ho), R0, hTp _, hT2 _, Xs, fun vv h' tk e hk => fin vv h' tk e fun b o hb e => hk b o hb (aH _ e)⟩
      · refine Ff (wpAny_pyIter_tuple hl ?_)
        obtain⟨o, ho, Mh, n, hd⟩ := id hl;exact⟨s.heap.objs.size, _, _, _, _, _, _, T, rfl, Walks.tuple (A := X.A.in1) (show X.A.in1.handled = none from I.ok.hd hc) _ l (oA ho) bH.toArray, ⟨⟨_, bh _ rfl, rfl, rfl⟩, ⟨o, aH _ ho, Mh, n, hd⟩⟩,
          fun b hb => by rcases (by simpa using hb : b = s.heap.objs.size ∨ b = l) with rfl | rfl
                         · rw [mL]; exact tQ _
                         · rw [mL]; exact Cg (aS ho), R0, hTp _, hT2 _, Xs, fun vv h' tk e hk => fin vv h' tk e fun b o hb e => hk b o hb (aH _ e)⟩
    rcases q with ⟨ns, mm, hi, hm, q⟩ | ⟨X2, mm, hi, hm, q⟩
    · cases ns with
      | nil => cases hm
      | cons a zs =>
        cases hm;have e : (fun m x : Int => if x < m then x else m) = fun m x => if decide (x < m) = true then x else m := by funext m x; simp
        rw [e] at q;refine main zs a D.int (fun x y => decide (x < y)) (fun _ => True) hi trivial (fun _ _ _ _ _ _ => trivial) (fun y z vy vz uy uz s' Q' E' _ d1 r1 d2 r2 hq => ?_) q;cases d1;cases d2;obtain⟨t1, rfl⟩ := r1;obtain⟨t2, rfl⟩ := r2;exact HT.yF X.A.in1 s' y t1 z t2 X.prog X.w E' Q' hq
    · cases X2 with
      | nil => cases hm
      | cons a zs =>
        cases hm;have el : ∀ xs ys : List Int, HT.lexLt xs ys = K2.lexLt xs ys := by
          intro xs;induction xs with
          | nil => intro ys; cases ys <;> rfl
          | cons x xs ih => intro ys; cases ys with
            | nil => rfl
            | cons y ys => unfold HT.lexLt K2.lexLt; rw [ih]
        refine main zs a tI K2.lexLt (fun h => ∀ b o, b < s.heap.objs.size -> s.heap.get? b = some o -> h.get? b = some o) hi (fun b o _ e => e) (fun h h' B hB t kk b o hb e => kk b o hb (bB (bM hb hB)) (t b o hb e)) (fun y z vy vz uy uz s' Q' E' t' d1 r1 d2 r2 hq => ?_) q;cases d1 with
        | tup h1 rs1 =>
          cases d2 with
          | tup h2 GQ =>
            cases r1;cases r2;have z1 := rs1.ints;have z2 := GQ.ints;subst z1 z2;obtain⟨O3, VE, ⟨o1, ho1, hc1, n1, Xb⟩, _⟩ := I.tuple (.of h1);obtain⟨si, Lu, ⟨o2, BF, C2, n2, hd2⟩, _⟩ := I.tuple (.of h2);have p1 : IsTup s'.heap _ O3.toArray := ⟨o1, t' _ _ (aS ho1) ho1, hc1, n1, Xb⟩;have p2 : IsTup s'.heap _ si.toArray := ⟨o2, t' _ _ (aS BF) BF, C2, n2, hd2⟩;rw [<-el] at hq;have i1 : mK O3.toArray.toList y := intsAre_of VE;have i2 : mK si.toArray.toList z := intsAre_of Lu;exact(HT.y0 p1 p2 i1 i2 (show X.A.units + 1 < cLine by lia) hq : wpAny (model X.prog X.w) X.A.in1 (fb .Lt _ _) Q' E' s')
  · exact q.elim
noncomputable def YI(scope sc:Scope):List (Str×sy):=scope.names.map fun (n,k)=>if (k == .free&&sc.kind == .function&&sc.names.lookup n == some .cell) then (n,.cell) else (n,k)
noncomputable def xP(N:List Str)(scope:Scope)(m:Nat)(fr:List Nat)(sc:Scope)(XN:List Str):Bool :=
 scope.names.all (fun y=>decide (y.2≠.cell))&&decide (scope.kind=.function)&&scope.names.all (fun y=>!decide (y.2=.local)||decide (scope.names.lookup y.1=some .local)) &&
 scope.names.all (fun y=>!decide (y.2=.free)||decide (sc.names.lookup y.1=some .cell))&&decide (N.length=m+fr.length) &&
 (ez fr.length).all (fun j=>match fr[j]?,N[m+j]? with
  | some i,some x=>decide (XN[i]?=some x)&&decide (sc.names.lookup x=some .cell)&&decide ((YI scope sc).lookup x=some .cell)
  | _,_=>false)
theorem B2{sc:Scope}{XN:List Str}(WR:X.env.scope=sc)(Xh:X.N=XN)(hb:xP N scope m fr sc XN=true):Ag X N scope m fr:=by
 subst WR Xh;unfold xP at hb;simp only [aJ] at hb;obtain⟨⟨⟨⟨⟨h1,h2⟩,h3⟩,h4⟩,h5⟩,h6⟩:=hb;refine⟨fun y hy=>of_decide_eq_true (List.all_eq_true.mp h1 y hy),of_decide_eq_true h2,fun y hy hl=>?_,fun y hy hl=>?_,of_decide_eq_true h5,fun j i x e1 e2=>?_⟩
 ·have:=List.all_eq_true.mp h3 y hy;simp only [hl,decide_true,bc,MT] at this;exact of_decide_eq_true this
 ·have:=List.all_eq_true.mp h4 y hy;simp only [hl,decide_true,bc,MT] at this;exact of_decide_eq_true this
 ·have hj:j < fr.length:=(List.getElem?_eq_some_iff.mp e1).1;have:=List.all_eq_true.mp h6 j (List.mem_range.mpr hj);rw [e1,e2] at this;simp only [aJ] at this;exact⟨of_decide_eq_true this.1.1,of_decide_eq_true this.1.2,of_decide_eq_true this.2⟩
theorem iU(N:List Str){sc:Scope}{XN:List Str}(hi:MF X tg iter wi)(hg:∀ C s H fp,MG (dZ X N scope C s H fp) tg g)(U3:∀ C s H fp,Vx (dZ X N scope C s H fp) ifs c)(he:∀ C s H fp,gu (dZ X N scope C s H fp) elt te)
  (WR:autoParam (X.env.scope=sc) Ar._auto_1) (Xh:autoParam (X.N=XN) Ar._auto_1) (hb:autoParam (xP N scope m fr sc XN=true) Ak._auto_1) (hc:autoParam (X.calm=true) Ar._auto_1) (hs:autoParam (∀ x,nX iter X.env x=pure x) Ai._auto_1):gu X (.ListComp elt [⟨tg,iter,ifs,0⟩] scope pos) (fx m fr wi g c te) :=
 LI hc (B2 WR Xh hb) hi hg U3 he hs
theorem uo(N:List Str){sc:Scope}{XN:List Str}{i:Nat}{y:Str}{py NI:Pos}(hN:X.N.Nodup)(Zs:X.N[i]?=some y)(hy:X.env.scope.names.lookup y=some .local)(hi:MF X tg iter wi)(hg:∀ C s H fp,MG (dZ X N scope C s H fp) tg g)
  (U3:∀ C s H fp,Vx (dZ X N scope C s H fp) ifs c) (he:∀ C s H fp,gu (dZ X N scope C s H fp) elt te) (WR:autoParam (X.env.scope=sc) Ar._auto_1) (Xh:autoParam (X.N=XN) Ar._auto_1) (hb:autoParam (xP N scope m fr sc XN=true) Ak._auto_1) (hc:autoParam (X.calm=true) Ar._auto_1)
  (ZE:autoParam (Na (.ListComp elt [⟨tg,iter,ifs,0⟩] scope pos) (some (.Name y py)) NI.line X.env=pure true) Ar._auto_1) (hs:autoParam (∀ x,nX iter X.env x=pure x) Ai._auto_1) :
  Jh X (.Assign [.Name y py] (.ListComp elt [⟨tg,iter,ifs,0⟩] scope pos) NI) (bE (fx m fr wi g c te) (aG i)) :=
 EO hN Zs hy hc (B2 WR Xh hb) hi hg U3 he ZE hs
theorem LZ{K:au}{H:Hp}{a:Addr}{ns:List Int}(hO:SD H)(hS:oS K H a (ns.map V.int))(hl:ns.length<=63):AF K Be [.ref a] H (fun v _=>v=.bl true) fun _ _ _=>False:=by
 have hF:VW K H a (ns.map V.int):=by
  rcases hS with (h | ⟨o,h⟩) | h
  ·rcases hO a with z | ⟨o,xs,z⟩
   ·rw [z] at h; cases h
   ·rw [z] at h; cases h
  ·exact .inl ⟨o,h⟩
  ·exact .inr h
 refine⟨[.cY (ns.map D.int)],fun _=>none,fun d _=>d=.bl true,.cons (.cY hF (bg.Kb ns)) .nil,fun a g e=>(by cases e),⟨ns,rfl,hl,fun _=>rfl,fun _=>rfl⟩,fun d G' v H' e mv r=>?_⟩;subst e;cases r;rfl
theorem OP{l:Cf}{q:bI}{loose:List Str}{XP:(Str->Option Value)->Heap->Prop}{YP:World->Heap->Prop}{d:DefRec}{K:Params->au}{k:Nat}{x:Str}(hn:l.most=some 63)(W9:d.params.defaults=[])(hr:lV k Hi)
  (hY:∀ (w:World) (h:Heap),YP w h->(K w.params).In h)
  (F:∀ (w:World) (mg:Str->Option Value) (fa:Addr) (h:Heap),(K w.params).In h->h.Ns bW mg->mg d.name=some (.ref fa) ->
   ∃ fd:gm,(∀ (s:az) (u:Value),BindsTo s fd ⟨[u],[]⟩ [(x,u)])/\∀ base:Heap,(K w.params).In base->base.Ns bW mg->wu l.prog w (K w.params) mg base Js k fa fd [x] (AF (K w.params) Be)) :
  PySem.W.WalkO q loose XP YP l.row.toRowW d [] (fun f vs=>Jv f vs) :=
 L2.QW (n:=63) (k:=k) (x:=x) (CX:=fun _=>Js) (sp:=fun w=>AF (K w.params) Be) hn (by decide) W9 hr hY F (fun _ _ _ _ hl hO hS=>LZ hO hS hl) fun _ _ _ _ _ z=>z
end
noncomputable def Dv:HO->Bool
 | .lst _=>true
 | .dK _=>true
 | .dT _=>true
 | .ext _=>true
 | _=>false
noncomputable def lT(h:Heap)(S:Addr->Bool)(H:Hp):Hp:=fun a=>match H a with
 | some u=>if (Dv u&&S a)=true then (match h.get? a with
  | some o=>some (.ja o u)
  | none=>some u) else some u
 | none=>none
section
variable {h:Heap} {S:Addr->Bool} {H:Hp} {a:Addr}
theorem ID(n:∀ u,H a=some u->Dv u=false):lT h S H a=H a:=by
 unfold lT;cases e:H a with
 | none=>rfl
 | some u=>simp only [n u e,JH,ar,if_false]
theorem uT(hs:S a=false):lT h S H a=H a:=by
 unfold lT;cases e:H a with
 | none=>rfl
 | some u=>simp only [hs,JI,ar,if_false]
theorem ph{u:HO}{o:Obj}(hs:S a=true)(e:H a=some u)(hu:Dv u=true)(ho:h.get? a=some o):lT h S H a=some (.ja o u):=by
 unfold lT;simp only [e,hs,hu,Bool.and_self,if_true,ho]
theorem oP(e:H a=none):lT h S H a=none:=by unfold lT; rw [e]
theorem mr{u:HO}(e:H a=some u)(hu:Dv u=false):lT h S H a=some u:=by rw [ID (fun v z=>by rw [e] at z; cases z; exact hu)]; exact e
theorem rM:Kp H (lT h S H):=⟨fun a xs e=>mr e rfl,fun a o u e=>mr e rfl⟩
end
section
variable {X:Cx} {pins:List (Addr×Obj)} {σ:L2.St} {H:Hp} {s:az} {G:Gp}
theorem Inv.freeze(I : Inv X pins σ H s)(S : Addr -> Bool) : Inv X pins σ (lT s.heap S H) s where
  ok := I.ok
  os := I.os
  bare := I.bare
  base := { keep := I.base.keep, slot := I.base.slot, there := I.base.there
            free := fun b o q n hx => oP (I.base.free b o q n hx)
            vC := fun b xs q => mr (I.base.vC b xs q) rfl
            uS := fun b o u q => mr (I.base.uS b o u q) rfl
            vD := fun b ps q => mr (I.base.vD b ps q) rfl
            vR := fun b x q => mr (I.base.vR b x q) rfl }
  loc := I.loc
  cell := I.cell
  free := oP I.free
  mZ := fun x c e => oP (I.mZ x c e)
  pin := fun p hp => let ⟨h1, h2, h3⟩ := I.pin p hp; ⟨h1, oP h2, h3⟩
  cn := fun a o q => by
    have st : ∀ u, H a = some u -> fH X.prog X.w (lT s.heap S H) s.heap a u := fun u e =>
      (I.cn a u e).mi (fun b v _ r => r) (fun b r => mr r rfl) (fun b xs r => mr r rfl)
    cases e : H a with
    | none => rw [oP e] at q; cases q
    | some u =>
      by_cases hc : Dv u = true
      · by_cases hs : S a = true
        · obtain⟨ob, ho⟩ := j4 (I.cn a _ e)
          rw [ph hs e hc ho] at q;cases q;exact⟨ho, st _ e⟩
        · rw [uT (by simpa using hs), e] at q
          cases q;exact st _ e
      · rw [mr e (by simpa using hc)] at q
        cases q;exact st _ e
  len := I.len
noncomputable def ik(R:Nat->Bool)(G:Gp):Addr->Bool:=fun a=>R a&&(G a).isSome
theorem BL(I:Inv X pins σ H s)(ab:lE X.K H G)(R:Nat->Bool):Mv X.K H G (lT s.heap (ik R G) H) (AU R G) where
 keep:=fun a o e n=>by
  refine⟨by rw [uT (by simp [ik,n])]; exact e,?_⟩;unfold AU; split
  ·rfl
  ·exact n
 mi:=fun a n=>by
  cases q:G a with
  | none=>exact absurd q n
  | some g =>
   have t:=(ab a g q).tracked;cases e:H a with
   | none=>exact absurd e t
   | some u =>
    unfold lT;rw [e];dsimp only;split
    ·split <;> simp
    ·simp
 ab:=fun a g e=>by
  unfold AU at e;split at e
  ·cases e
  ·rename_i hr;exact(ab a g e).mono rM (uT (by simp [ik,hr]))
theorem IC(I:Inv X pins σ H s)(ab:lE X.K H G){R:Nat->Bool}:∀ {d t:D} {v:V},Fz G R d t->bX X.K H v d->bX X.K (lT s.heap (ik R G) H) v t:=by
 intro d t v h;revert v;refine Fz.rec (motive_1:=fun d t _=>∀ {v:V},bX X.K H v d->bX X.K (lT s.heap (ik R G) H) v t)
  (motive_2:=fun ds ts _=>∀ {vs:List V},bg X.K H vs ds->bg X.K (lT s.heap (ik R G) H) vs ts)
  (motive_3:=fun ds ts _=>(∀ {vs:List (Key×V)},lN X.K H vs ds->lN X.K (lT s.heap (ik R G) H) vs ts)/\∀ {vs:List (List Key×V)},my X.K H vs ds->my X.K (lT s.heap (ik R G) H) vs ts)
  ?_ ?_ ?_ ?_ ?_ ?_ ?_ ?_ ?_ ?_ h
 ·intro d v r; exact r.mono rM
 ·intro ds ss _ ih v r;cases r with
  | tup h rs=>exact .tup (rM.tup _ _ h) (ih rs)
 ·intro ds ss _ ih v r;cases r with
  | cY h rs=>exact .cY (rM.Uc h) (ih rs)
 ·intro a ds ss g hr _ ih v r;cases r;obtain⟨vs,hv,rs⟩:=ab a _ g;obtain⟨ob,ho⟩:=j4 (I.cn a _ hv);exact .cY (.inl ⟨_,ph (by simp [ik,hr,g]) hv rfl ho⟩) (ih rs)
 ·intro a ds ss g hr _ ih v r;cases r;rcases ab a _ g with ⟨kv,hv,rs⟩ | ⟨kv,hv,rs⟩
  ·obtain⟨ob,ho⟩:=j4 (I.cn a _ hv);exact .oj (ph (by simp [ik,hr,g]) hv rfl ho) (ih.1 rs)
  ·obtain⟨ob,ho⟩:=j4 (I.cn a _ hv);exact .oi (ph (by simp [ik,hr,g]) hv rfl ho) (ih.2 rs)
 ·intro a kvs S7 g hr _ ek ih v r;cases r;obtain⟨xs,ks,vs,hv,rel,r1,r2⟩:=ab a _ g;obtain⟨ob,ho⟩:=j4 (I.cn a _ hv);have e2:(S7.map fun p=>pM p.1)=kvs.map fun p=>pM p.1:=by
   have:=congrArg (List.map pM) ek;rw [aM,aM] at this;exact this.symm
  exact .oF (ph (by simp [ik,hr,g]) hv rfl ho) ⟨ek.symm.trans rel.1,rel.2⟩ (by rw [e2]; exact r1.mono rM) (ih r2)
 ·intro vs r; cases r; exact .nil
 ·intro d s ds ss _ _ i1 i2 vs r;cases r with
  | cons r rs=>exact .cons (i1 r) (i2 rs)
 ·exact⟨fun r=>by cases r; exact .nil,fun r=>by cases r; exact .nil⟩
 ·intro k d s ds ss _ _ i1 i2;exact⟨fun r=>by cases r with | cons r rs=>exact .cons (i1 r) (i2.1 rs),fun r=>by cases r with | cons r rs=>exact .cons (i1 r) (i2.2 rs)⟩
variable {e:Expr} {te:gJ} {st:Stmt} {t:hV}
theorem aR(he:gu X e te):gu X e (cm te):=by
 intro E pins s σ H τ G Q hE I h;refine hU (he E pins s σ H τ G _ hE I h) ?_;rintro u s1 ⟨v,H1,d,G1,I1,m,r,rd,R,t,hf,q⟩;exact⟨v,_,t,_,Inv.freeze I1 _,m.trans (BL I1 m.ab R),r,IC I1 m.ab hf rd,q⟩
theorem xE{i:Nat}(h1:Jh X st t):Jh X st (Gh i t):=by
 intro E pins s σ H τ G D hE I h;refine hU (h1 E pins s σ H τ G _ hE I h) fun f s1 z=>?_;cases f with
 | next =>
  obtain⟨jX,H',qa,G',I',m,q⟩:=z;simp only at q;split at q
  ·rename_i d hd;obtain⟨R,t,hf,q⟩:=q;obtain⟨v,hv,rv⟩:=I'.st.at' i d hd;have a1:=(I'.st.mono (H':=lT s1.heap (ik R G') H') rM).set i (IC I'.inv I'.ab hf rv);have es:jX.set i (some v)=jX:=by
    have hi:i < jX.length:=(List.getElem?_eq_some_iff.mp hv).1;have e2:=(List.getElem?_eq_some_iff.mp hv).2;rw [<-e2]; exact Qy hi
   rw [es] at a1;have m2:=BL I'.inv I'.ab R;exact⟨jX,_,_,_,⟨Inv.freeze I'.inv _,a1,m2.ab⟩,m.trans m2,q⟩
  ·exact q.elim
 | ret v=>exact z
 | brk=>exact z
 | cont=>exact z
end
theorem wd:eK "len" = some (.builtin "len"):=by decide +kernel
theorem Vq:eK "min" = some (.builtin "min"):=by decide +kernel
theorem B3:eK "sorted" = some (.builtin "sorted"):=by decide +kernel
theorem KW:eK "list" = some (.type "list"):=by decide +kernel
theorem Qd:eK "tuple" = some (.type "tuple"):=by decide +kernel
theorem DE:eK "dict" = some (.type "dict"):=by decide +kernel
theorem Vr:eK "int" = some (.type "int"):=by decide +kernel
theorem So:eK "bool" = some (.type "bool"):=by decide +kernel
end K2
end
section
namespace L2
open PySem PySem.Spec PyProof.Rows
section
variable {X:Cx} {pins:List (Addr×Obj)} {σ:St} {H:Hp} {s:az} {h':Heap}
theorem Inv.rh{t':Nat}{fp:List Addr}(I:Inv X pins σ H s)(hf:∀ b∈fp,nC X pins H b)(k:∀ b o,b∉fp->s.heap.get? b=some o->h'.get? b=some o):Inv X pins σ H { s with heap:=h',toks:=t' }:=by
 have nt:∀ b u,H b=some u->b∉fp:=fun b u e z=>by rw [(hf b z).1] at e; cases e
 refine I.step (g':=s.gens) (d':=s.drawn) (ch:=fp) (fun b hb=>?_) (fun b o _ _ hc e _=>k b o hc e) (fun b o _ _ hc e _=>⟨o.slots,k b o hc e⟩) (fun _ _ _ _ n=>n)
  (fun b o hc e=>⟨o,k b o hc e⟩) (fun _ _ e=>e) (fun _ _ _ e=>e) (fun _ _ e=>e) (fun _ _ e=>e) (fun m hm=>?_) (fun b u e=>?_) I.bare
 ·obtain⟨f0,f1,f2,f3,f4,f5⟩:=hf b hb;exact⟨f3,f1,f4,f5⟩
 ·obtain⟨o,es,ep,ho,r⟩:=hm;exact⟨o,es,ep,k _ _ (fun z=>(hf _ z).2.1 rfl) ho,r⟩
 ·refine(I.cn b u e).mi (fun c v hc r=>k c v ?_ r) (fun _ z=>z) (fun _ _ z=>z);rcases hc with rfl | hc
  ·exact nt _ _ e
  ·exact nt _ _ hc
theorem Inv.xC{t':Nat}{fp:List Addr}{T:Addr}{vs:List V}(I:Inv X pins σ H s)(hf:∀ b∈fp,nC X pins H b)(k:∀ b o,b∉fp->s.heap.get? b=some o->h'.get? b=some o)(hT:s.heap.objs.size<=T)
  (new:fH X.prog X.w (upd H T (.tup vs)) h' T (.tup vs)):Inv X pins σ (upd H T (.tup vs)) { s with heap:=h',toks:=t' }:=by
 have hn:H T=none:=I.cn.fresh hT;have ht:∀ b o,s.heap.get? b=some o->b≠T:=fun b o e z=>by subst z; exact absurd (aS e) (Nat.not_lt.mpr hT)
 have nt:∀ b u,H b=some u->b∉fp:=fun b u e z=>by rw [(hf b z).1] at e; cases e
 have ne:∀ b u,H b=some u->b≠T:=fun b u e=>dQ e hn;refine I.step (g':=s.gens) (d':=s.drawn) (ch:=fp) (fun b hb=>?_) (fun b o _ _ hc e _=>k b o hc e) (fun b o _ _ hc e _=>⟨o.slots,k b o hc e⟩) (fun b o _ e n=>by rw [bO (ht b o e)]; exact n)
  (fun b o hc e=>⟨o,k b o hc e⟩) (fun b xs e=>by rw [bO (ne _ _ e)]; exact e) (fun b o u e=>by rw [bO (ne _ _ e)]; exact e) (fun b ps e=>by rw [bO (ne _ _ e)]; exact e) (fun b ps e=>by rw [bO (ne _ _ e)]; exact e) (fun m hm=>?_) (fun b u e=>?_) I.bare
 ·obtain⟨f0,f1,f2,f3,f4,f5⟩:=hf b hb;exact⟨f3,f1,f4,f5⟩
 ·obtain⟨o,es,ep,ho,r⟩:=hm;exact⟨o,es,ep,k _ _ (fun z=>(hf _ z).2.1 rfl) ho,r⟩
 ·by_cases hb:b=T
  ·subst hb; rw [bU] at e; cases e; exact new
  ·rw [bO hb] at e;refine(I.cn b u e).mi (fun c v hc r=>k c v ?_ r) (fun c z=>by rw [bO (ne _ _ z)]; exact z) (fun c xs z=>by rw [bO (ne _ _ z)]; exact z);rcases hc with rfl | hc
   ·exact nt _ _ e
   ·exact nt _ _ hc
theorem nC.upd{b T:Addr}{o:HO}(h:nC X pins H b)(hb:b≠T):nC X pins (L2.upd H T o) b:=by
 obtain⟨f0,r⟩:=h;exact⟨by rw [bO hb]; exact f0,r⟩
end
noncomputable def Ite(K:au)(a:Addr):It :=
  ⟨fun i H=>∃ xs x,oS K H a xs/\xs[i]?=some x,
   fun i H v H'=>∃ T y,v=.ref T/\H T=none/\H'=upd H T (.tup [.int i,y])/\∀ xs,oS K H a xs->xs[i]?=some y,
   fun i H=>∃ xs,oS K H a xs/\xs.length<=i⟩
theorem Lj{P:bI}{w:World}{K:au}{elts:List Expr}{kk:Nat}{pos:Pos}(a e it:Addr)(oA:e≠it) :
  Turn P w K (.Tuple elts kk pos) (Ite K a) [e,it] e (fun i h=>(∃ old,IsEnum h e it i old)/\h.IsListIter it a i) where
 mem:=by simp
 obj:=fun i h QJ b hb=>by
  obtain⟨⟨old,he⟩,hit⟩:=QJ;rcases List.mem_cons.mp hb with rfl | hb
  ·exact⟨_,he,fun v z=>by cases z⟩
  ·have e:b=it:=by simpa using hb
   subst e;obtain⟨o,e,c,d⟩:=hit;exact⟨o,e,fun v z=>by rw [d] at z; cases z⟩
 keep:=(by rintro i h h' ⟨⟨old,he⟩,hit⟩ k; exact⟨⟨old,k e (by simp) _ he⟩,hit.at fun o q=>k it (by simp) o q⟩)
 item:=by
  intro X hP hw hK hc i pins s σ H E I hf st hg;obtain⟨⟨old,he⟩,hit⟩:=st;subst hP hw hK;obtain⟨xs,x,hq,hx⟩:=hg;obtain⟨bH,rv,p,hz⟩:=I.list hq;obtain⟨u,hu,ru⟩:=rv.get hx;have Vb:H s.heap.objs.size=none:=I.cn.fresh (aC _);have heT:e≠s.heap.objs.size:=bB (aS he);have W6:it≠s.heap.objs.size:=by obtain⟨o,q,_⟩:=hit; exact bB (aS q)
  refine wpAny_pyNext_enum_item he hit p.isList (x:=u) (by simpa using hu) oA fun h' ho ZX hT hsz kk=>?_;refine⟨_,rfl,?_⟩;have I1:Inv X pins σ (upd H s.heap.objs.size (.tup [.int i,x])) { s with heap:=h',toks:=s.toks+1 } :=
   I.xC (fp:=[e,it]) hf (fun b o hb q=>kk b o (fun z=>hb (by simp [z])) (fun z=>hb (by simp [z])) q) (aC _)
    ⟨by show 2<=aZ; decide,[.int i s.toks,u],.cons ⟨_,rfl⟩ (.cons ru .nil),⟨_,hT,rfl,_,rfl⟩⟩
  refine wpAny_letOwnedTupleGo_enum (s:={ s with heap:=h',toks:=s.toks+1 }) ho fun h2 U4 FF=>?_;have f1:∀ b∈[e,it],nC X pins (upd H s.heap.objs.size (.tup [.int i,x])) b:=fun b hb=>(hf b hb).upd (by
   rcases List.mem_cons.mp hb with rfl | hb
   ·exact heT
   ·rw [List.mem_singleton.mp hb]; exact W6)
  have I2:Inv X pins σ (upd H s.heap.objs.size (.tup [.int i,x])) { s with heap:=h2,toks:=s.toks+1 } :=
   Inv.rh (s:={ s with heap:=h',toks:=s.toks+1 }) (t':=s.toks+1) (fp:=[e,it]) I1 f1 fun b o hb q=>(FF.2 b (fun z=>hb (by simp [z]))).trans q
  refine⟨.ref s.heap.objs.size,_,I2,rfl,⟨_,x,rfl,Vb,rfl,fun ys hy=>by rw [I.uE hy hq]; exact hx⟩,⟨⟨u,?_⟩,?_⟩,fun b hb=>(f1 b hb).1⟩
  ·simpa using U4
  ·exact ZX.at fun o q=>(FF.2 it (e7 oA)).trans q
 done:=by
  intro X hP hw hK hc i pins s σ H E I hf st hg;obtain⟨⟨old,he⟩,hit⟩:=st;subst hP hw hK;obtain⟨xs,hq,hx⟩:=hg;obtain⟨bH,rv,p,hz⟩:=I.list hq;have hl:=rv.length;refine wpAny_pyNext_enum_end (I.ok.hd hc) he hit p.isList (by simp; lia) fun h' eb=>⟨rfl,?_⟩;exact I.rh (t':=s.toks) (fp:=[e,it]) hf fun b o hb q=>eb b o (fun z=>hb (by simp [z])) q
 self:=(by rintro A i s Q E ⟨⟨old,he⟩,_⟩ h; exact wpAny_pyIter_enum he h)
end L2
namespace K2
open PySem PySem.Spec PyProof.Rows L2
section
variable {X:Cx} {elts:List Expr} {kk:Nat} {AB:Pos} {a b:Expr} {ta tb:gJ} {pos p:Pos}
theorem KH{pins:List (Addr×Obj)}{σ:L2.St}{H H1:Hp}{G G1:Gp}{s1:az}{l:Addr}{vs:List V}{ds:List D}{ok:Gp->Prop}{R:List D->(Gp->Prop)->Gp->Prop}(I1:Inv X pins σ H1 s1)(m:Mv X.K H G H1 G1)(hq:oS X.K H1 l vs)
  (hk:∀ H2 G2,Kp H1 H2->lE X.K H2 G2->ok G2->∃ ws,oS X.K H2 l ws/\bg X.K H2 ws ds) (q:R (kL 0 ds) ok G1) :
  wpAny (model X.prog X.w) X.A (call (.type "enumerate") [.ref l]) (fun v s2=>wpAny (model X.prog X.w) X.A (Ea v) (Ji X pins σ (.Tuple elts kk AB) H G R) X.xe s2) X.xe s1:=by
 obtain⟨bH,rv,pl,hz⟩:=I1.list hq;refine call_enumerate_list pl.isList fun h' he hit hsz kp=>?_;refine wpAny_pyIter_enum he ?_;refine⟨_,[s1.heap.objs.size+1,s1.heap.objs.size],_,_,H1,G1,kL 0 ds,ok,rfl,I1.kept (t':=s1.toks) kp,m,Lj l _ _ (Nat.succ_ne_self _),⟨⟨_,he⟩,hit⟩,fun b hb=>?_,fun i H2 G2 k ab o=>?_,q⟩
 ·have IA:s1.heap.objs.size<=b:=by
   rcases List.mem_cons.mp hb with rfl | hb
   ·lia
   ·rw [List.mem_singleton.mp hb]; exact aC _
  exact I1.AO IA (I1.cn.fresh IA)
 ·obtain⟨ws,hw,rd⟩:=hk H2 G2 k ab o;refine⟨fun d hd=>?_,fun hl=>⟨ws,hw,by rw [rd.length,<-BR ds 0]; exact hl⟩⟩;rw [BS] at hd;cases Z7:ds[i]? with
  | none=>rw [Z7] at hd; cases hd
  | some d' =>
   rw [Z7] at hd;obtain⟨v,hv,r⟩:=rd.get Z7;refine⟨⟨ws,v,hw,hv⟩,?_⟩;rintro x H3 ⟨T,y,ex,hT,e3,hy⟩;subst ex e3;have:=hy ws hw;rw [hv] at this;cases this;have ed:D.tup [.int ((0+i:Nat):Int),d']=d:=by simpa using hd
   subst ed;refine⟨.tup bU (.cons (by rw [Nat.zero_add]; exact .int _) (.cons (r.mono (.new hT)) .nil)),.Mf ab hT⟩
theorem DD:eK "enumerate" = some (.type "enumerate"):=by decide +kernel
theorem Vp:eK "zip" = some (.type "zip"):=by decide +kernel
theorem EU (hg:Gl X "enumerate") (hm:X.mg "enumerate" = none) (ha:gu X a ta) (hs:autoParam (bY [a] X.env=[(false,eval a X.env)]) Ar._auto_1):MF X (.Tuple elts kk AB) (.Call (.Name "enumerate" p) [a] [] pos) (FE ta):=by
 intro E pins s σ H τ G R hE I h;have hA:D5 X [a] (aw ta aQ):=dW ha gE hs;refine Call_ (qL I.inv hg hm DD (fU (Cs hA pos hE I (R:=YX fun x G1=>uN x G1 R) h fun vs H1 ds G1 us s1 I1 m1 r1 jK q1=>?_) hs rfl))
 match ds,q1 with
 | [x],q1 =>
  change uN x G1 R at q1;obtain⟨w,rfl,Ew⟩:=jK.one;obtain⟨u,rfl,ru⟩:=r1.one;cases Ew with
  | cY hq rs=>cases ru; exact KH I1.inv m1 hq.sq (fun H2 G2 k ab _=>⟨_,(k.Uc hq).sq,rs.mono k⟩) q1
  | ref p =>
   cases ru;unfold uN at q1;dsimp only at q1;split at q1
   ·rename_i ds e;obtain⟨vs,hv,rs⟩:=I1.ab.lst e;refine KH I1.inv m1 (.of hv) (fun H2 G2 k ab o=>?_) q1;obtain⟨ws,hw,qb⟩:=ab.lst o;exact⟨ws,.of hw,qb⟩
   ·exact q1.elim
  | tup _ _=>exact q1.elim
  | oj _ _=>exact q1.elim
  | oi _ _=>exact q1.elim
  | eQ=>exact q1.elim
  | bl _=>exact q1.elim
  | int _=>exact q1.elim
  | str _=>exact q1.elim
  | exc _=>exact q1.elim
  | FZ _ _=>exact q1.elim
  | oF _ _ _ _=>exact q1.elim
 | [],q1=>exact q1.elim
 | _ :: _ :: _,q1=>exact q1.elim
end
end K2
end
section
namespace K2
open PySem PySem.Spec PyProof.Rows L2
section
variable {X:Cx} {o i a b:Expr} {to ti ta tb:gJ} {pos p:Pos}
theorem jM(hu:X.A.units+64 < cLine)(ho:gu X o to)(hi:gu X i ti)
  (ha:autoParam (∀ v,Ju (.Subscript o i pos) X.env v=(do
   let ov ← Hh [v] (eval o X.env)
   let iv ← Hh [v,ov] (eval i X.env)
   standAt pos
   Hh [v,ov,iv] (setItem ov iv v)
   release [v,ov,iv] [])) Ai._auto_1):MG X (.Subscript o i pos) (lS to ti):=by
 intro E pins s σ H τ G w d u Q hE I r rd h;rw [ha];refine ag (eu (j6 ho hE I h fun x H1 dx G1 ov s1 I1 m1 r1 jK q1=>?_));refine ag (eu (j6 hi hE I1 q1 fun y H2 dy G2 iv s2 nB m2 r2 yD q2=>?_));refine ag (D7 (ag (eu ?_)));have GS:=m1.trans m2;have VF:=rd.mono (GS.kp I.ab);have AD:=I.st.mono (GS.kp I.ab);have YE:=jK.mono (m2.kp I1.ab);unfold wC at q2;split at q2
 ·rename_i l;cases YE;cases r1;split at q2
  ·rename_i xs hg;obtain⟨vs,hv,rs⟩:=nB.ab.lst hg;split at q2
   ·rename_i k;cases yD;split at q2
    ·rename_i j hj;have m3:Mv X.K H2 G2 (upd H2 l (.lst (vs.set j w))) (eA G2 l (.lst (xs.set j d))):=.putL nB.ab hg hv (rs.set VF j);refine hU (set_list pins s2 σ H2 (.ref l) (.int k) w _ _ _ (fun H3=>H3=upd H2 l (.lst (vs.set j w))) nB.inv rfl r2 r ⟨l,vs,k,j,rfl,rfl,hv,?_,rfl⟩) ?_
     ·rw [rs.length]; exact hj
     ·rintro _ s3 ⟨H3,I3,e3⟩;subst e3;exact wpAny_release ⟨σ,_,τ,_,⟨I3,AD.mono (m3.kp nB.ab),m3.ab⟩,GS.trans m3,q2⟩
    ·exact q2.elim
   ·exact q2.elim
  ·rename_i kvs hg;obtain⟨hk,hz,q⟩:=q2;obtain⟨H3,H4,I3,dp,m3⟩:=PS nB.inv nB.ab hg hk hz yD VF;exact Mq (by lia) I3 dp r2 r fun s4 I4=>wpAny_release ⟨σ,H4,τ,_,⟨I4,AD.mono (m3.kp nB.ab),m3.ab⟩,GS.trans m3,q⟩
  ·exact q2.elim
 ·exact q2.elim
end
end K2
end
section
namespace L2
open PySem PySem.Spec PyProof.Rows
theorem t4{X:Cx}{pins:List (Addr×Obj)}{σ:St}{H:Hp}{s:az}{l b:Addr}{xs:List V}(I:Inv X pins σ H s)(hq:oS X.K H l xs)(hf:nC X pins H b):l≠b:=by
 rintro rfl;obtain⟨f0,f1,f2,f3,f4,f5⟩:=hf;rcases hq with (h | ⟨o,h⟩) | ⟨o,bH,n,h,_⟩
 ·rw [f0] at h; cases h
 ·rw [f0] at h; cases h
 ·have hb:=I.ok.mod.WJ _ _ h;rcases f3 with f3 | f3
  ·exact I.ok.LL _ _ hb f3
  ·exact absurd (aS (I.ok.bs _ _ hb).1) (Nat.not_lt.mpr f3)
noncomputable def Itz(K:au)(a b:Addr):It :=
  ⟨fun i H=>∃ xs x ys y,oS K H a xs/\xs[i]?=some x/\oS K H b ys/\ys[i]?=some y,
   fun i H v H'=>∃ T x y,v=.ref T/\H T=none/\H'=upd H T (.tup [x,y])/\(∀ xs,oS K H a xs->xs[i]?=some x)/\∀ ys,oS K H b ys->ys[i]?=some y,
   fun i H=>∃ xs ys,oS K H a xs/\oS K H b ys/\(xs.length<=i\/ys.length<=i)⟩
structure Xz(z TI TO i1 i2 a b:Addr)(i:Nat)(h:Heap):Prop where
 hz:IsZip h z TI TO .none
 hI:IsPair h TI (.ref i1) (.ref i2)
 hO:∃ x y,IsPair h TO x y
 h1:h.IsListIter i1 a i
 h2:h.IsListIter i2 b i
theorem Nm{P:bI}{w:World}{K:au}{elts:List Expr}{kk:Nat}{pos:Pos}(a b z TI TO i1 i2:Addr)(nd:[z,TI,TO,i1,i2].Nodup) :
  Turn P w K (.Tuple elts kk pos) (Itz K a b) [z,TI,TO,i1,i2] z (Xz z TI TO i1 i2 a b) where
 mem:=by simp
 obj:=fun i h st c hc=>by
  simp only [bD,cP,or_false] at hc;rcases hc with rfl | rfl | rfl | rfl | rfl
  ·exact⟨_,st.hz,fun v q=>by cases q⟩
  ·exact⟨_,st.hI,fun v q=>by cases q⟩
  ·obtain⟨x,y,h⟩:=st.hO; exact⟨_,h,fun v q=>by cases q⟩
  ·obtain⟨o,e,_,d⟩:=st.h1; exact⟨o,e,fun v q=>by rw [d] at q; cases q⟩
  ·obtain⟨o,e,_,d⟩:=st.h2; exact⟨o,e,fun v q=>by rw [d] at q; cases q⟩
 keep:=fun i h h' st k=>⟨k _ (by simp) _ st.hz,k _ (by simp) _ st.hI,let ⟨x,y,q⟩:=st.hO; ⟨x,y,k _ (by simp) _ q⟩,st.h1.at fun o q=>k _ (by simp) o q,st.h2.at fun o q=>k _ (by simp) o q⟩
 item:=by
  intro X hP hw hK hc i pins s σ H E I hf st hg;subst hP hw hK;obtain⟨xs,x,ys,y,Tg,hx,Tf,hy⟩:=hg;obtain⟨O3,VE,p1,hz1⟩:=I.list Tg;obtain⟨si,Lu,p2,Zq⟩:=I.list Tf;obtain⟨u1,X9,Lx⟩:=VE.get hx;obtain⟨u2,ZD,NQ⟩:=Lu.get hy;obtain⟨xo,yo,hO⟩:=st.hO;have ap:∀ c∈[z,TI,TO,i1,i2],a≠c/\b≠c:=fun c hc=>⟨t4 I Tg (hf c hc),t4 I Tf (hf c hc)⟩;simp only [a9,bD,cP,or_false,not_or] at nd;obtain⟨⟨n1,n2,n3,n4⟩,⟨n5,n6,n7⟩,⟨n8,n9⟩,Y8,_⟩:=nd;have Dz:ZipApart z TI TO i1 i2 a b:=⟨e7 n1,e7 n2,e7 n3,e7 n4,n5,n6,n7,n8,n9,Y8,(ap z (by simp)).1,(ap TO (by simp)).1,(ap i1 (by simp)).1,(ap i2 (by simp)).1,(ap z (by simp)).2,(ap TO (by simp)).2,(ap i1 (by simp)).2,(ap i2 (by simp)).2⟩;have Vb:H s.heap.objs.size=none:=I.cn.fresh (aC _);have inH:∀ c∈[z,TI,TO,i1,i2],c≠s.heap.objs.size:=fun c hc=>by
   simp only [bD,cP,or_false] at hc;rcases hc with rfl | rfl | rfl | rfl | rfl
   ·exact bB (aS st.hz)
   ·exact bB (aS st.hI)
   ·exact bB (aS hO)
   ·obtain⟨o,e,_⟩:=st.h1; exact bB (aS e)
   ·obtain⟨o,e,_⟩:=st.h2; exact bB (aS e)
  refine wpAny_pyNext_zip_item Dz st.hz st.hI hO st.h1 st.h2 p1.isList p2.isList (x:=u1) (y:=u2) (by simpa using X9) (by simpa using ZD) fun h' a1 a2 a3 a4 a5 a6 a7=>?_;refine⟨_,rfl,?_⟩;have k1:∀ c o,c∉[z,TI,TO,i1,i2]->s.heap.get? c=some o->h'.get? c=some o:=fun c o hc q =>
   a7 c o (fun e=>hc (by simp [e])) (fun e=>hc (by simp [e])) (fun e=>hc (by simp [e])) (fun e=>hc (by simp [e])) q
  have I1:Inv X pins σ (upd H s.heap.objs.size (.tup [x,y])) { s with heap:=h' } :=
   I.xC (t':=s.toks) (fp:=[z,TI,TO,i1,i2]) hf k1 (aC _) ⟨by show 2<=aZ; decide,[u1,u2],.cons Lx (.cons NQ .nil),⟨_,a5,rfl,_,rfl⟩⟩
  refine wpAny_letOwnedTupleGo_zip (s:={ s with heap:=h' }) a1 fun h2 Zq FF=>?_;have f1:∀ c∈[z,TI,TO,i1,i2],nC X pins (upd H s.heap.objs.size (.tup [x,y])) c:=fun c hc=>(hf c hc).upd (inH c hc);have I2:Inv X pins σ (upd H s.heap.objs.size (.tup [x,y])) { s with heap:=h2 } :=
   Inv.rh (s:={ s with heap:=h' }) (t':=s.toks) (fp:=[z,TI,TO,i1,i2]) I1 f1 fun c o hc q=>(FF.2 c (fun e=>hc (by simp [e]))).trans q
  have hI':IsPair h' TI (.ref i1) (.ref i2):=a7 TI _ (e7 n1) n5 n6 n7 st.hI;refine⟨.ref s.heap.objs.size,_,I2,rfl,⟨_,x,y,rfl,Vb,rfl,fun zs hs=>by rw [I.uE hs Tg]; exact hx,fun zs hs=>by rw [I.uE hs Tf]; exact hy⟩,⟨Zq,?_,⟨u1,u2,?_⟩,?_,?_⟩,fun c hc=>(f1 c hc).1⟩
  ·exact(FF.2 TI (e7 n1)).trans hI'
  ·exact(FF.2 TO (e7 n2)).trans a2
  ·exact a3.at fun o q=>(FF.2 i1 (e7 n3)).trans q
  ·exact a4.at fun o q=>(FF.2 i2 (e7 n4)).trans q
 done:=by
  intro X hP hw hK hc i pins s σ H E I hf st hg;subst hP hw hK;obtain⟨xs,ys,Tg,Tf,hx⟩:=hg;obtain⟨O3,VE,p1,hz1⟩:=I.list Tg;obtain⟨si,Lu,p2,Zq⟩:=I.list Tf;have Tp:=VE.length;have tj:=Lu.length;obtain⟨xo,yo,hO⟩:=st.hO;have ap:∀ c∈[z,TI,TO,i1,i2],a≠c/\b≠c:=fun c hc=>⟨t4 I Tg (hf c hc),t4 I Tf (hf c hc)⟩;simp only [a9,bD,cP,or_false,not_or] at nd;obtain⟨⟨n1,n2,n3,n4⟩,⟨n5,n6,n7⟩,⟨n8,n9⟩,Y8,_⟩:=nd;have Dz:ZipApart z TI TO i1 i2 a b:=⟨e7 n1,e7 n2,e7 n3,e7 n4,n5,n6,n7,n8,n9,Y8,(ap z (by simp)).1,(ap TO (by simp)).1,(ap i1 (by simp)).1,(ap i2 (by simp)).1,(ap z (by simp)).2,(ap TO (by simp)).2,(ap i1 (by simp)).2,(ap i2 (by simp)).2⟩;refine wpAny_pyNext_zip_end (I.ok.hd hc) Dz st.hz st.hI hO st.h1 st.h2 p1.isList p2.isList (by
   rcases hx with hx | hx
   ·left; simp; lia
   ·right; simp; lia) fun h' k1=>⟨rfl,?_⟩
  exact I.rh (t':=s.toks) (fp:=[z,TI,TO,i1,i2]) hf fun c o hc q=>k1 c o (fun e=>hc (by simp [e])) (fun e=>hc (by simp [e])) (fun e=>hc (by simp [e])) (fun e=>hc (by simp [e])) q
 self:=fun A i s Q E st h=>wpAny_pyIter_zip st.hz h
end L2
namespace K2
open PySem PySem.Spec PyProof.Rows L2
section
variable {X:Cx} {elts:List Expr} {kk:Nat} {AB:Pos} {a b:Expr} {ta tb:gJ} {pos p:Pos}
theorem Fq{pins:List (Addr×Obj)}{s:az}{σ:L2.St}{H:Hp}{G:Gp}{x:V}{d:D}{v:Value}{ds:List D}{ok:Gp->Prop}(I:Inv X pins σ H s)(ab:lE X.K H G)(rx:RelV x v)(rd:bX X.K H x d)(hi:uA d G=some (ds,ok)) :
  ∃ l vs,v=.ref l/\oS X.K H l vs/\bg X.K H vs ds/\∀ H2 G2,Kp H H2->lE X.K H2 G2->ok G2->∃ ws,oS X.K H2 l ws/\bg X.K H2 ws ds:=by
 cases rd with
 | cY hq rs=>cases hi; cases rx; exact⟨_,_,rfl,hq.sq,rs,fun H2 G2 k ab _=>⟨_,(k.Uc hq).sq,rs.mono k⟩⟩
 | ref l =>
  unfold uA at hi;dsimp only at hi;cases hg:G l with
  | none=>rw [hg] at hi; cases hi
  | some gg =>
   rw [hg] at hi;cases gg with
   | lst zs =>
    cases hi;cases rx;obtain⟨vs,hv,rs⟩:=ab.lst hg;refine⟨_,_,rfl,.of hv,rs,fun H2 G2 k ab o=>?_⟩;obtain⟨ws,hw,qb⟩:=ab.lst o;exact⟨ws,.of hw,qb⟩
   | ins _ _=>cases hi
   | qh _=>cases hi
   | gK _=>cases hi
 | _=>cases hi
theorem J8 (hg:Gl X "zip") (hm:X.mg "zip" = none) (ha:gu X a ta) (hb:gu X b tb) (hs:autoParam (bY [a,b] X.env=[(false,eval a X.env),(false,eval b X.env)]) Ar._auto_1) (FF:autoParam (bY [b] X.env=[(false,eval b X.env)]) Ar._auto_1) :
  MF X (.Tuple elts kk AB) (.Call (.Name "zip" p) [a,b] [] pos) (Pc ta tb):=by
 intro E pins s σ H τ G R hE I h;have hA:D5 X [a,b] (aw ta (aw tb aQ)):=dW ha (dW hb gE FF) (by rw [hs,FF]);refine Call_ (qL I.inv hg hm Vp (fU (Cs hA pos hE I (R:=YW fun x y G1=>tf x y G1 R) h fun vs H1 ds G1 us s1 I1 m1 r1 jK q1=>?_) (by rw [hs,FF]) (by rw [FF]; rfl)))
 match ds,q1 with
 | [x,y],q1 =>
  change tf x y G1 R at q1;obtain⟨w1,w2,rfl,Ew,Q9⟩:=jK.two;obtain⟨u1,u2,rfl,Lx,NQ⟩:=vals2 r1;unfold tf at q1;split at q1
  ·rename_i xs k1 ys k2 e1 e2;obtain⟨l1,v1,rfl,Tg,rs1,st1⟩:=Fq I1.inv I1.ab Lx Ew e1;obtain⟨l2,v2,rfl,Tf,GQ,QF⟩:=Fq I1.inv I1.ab NQ Q9 e2;obtain⟨O3,VE,pl1,_⟩:=I1.inv.list Tg;obtain⟨si,Lu,pl2,_⟩:=I1.inv.list Tf;refine call_zip_2 pl1.isList pl2.isList fun h' z1 z2 z3 z4 z5 z6 z7=>?_;refine wpAny_pyIter_zip z1 ?_;refine⟨_,[s1.heap.objs.size+4,s1.heap.objs.size+2,s1.heap.objs.size+3,s1.heap.objs.size,s1.heap.objs.size+1],_,_,H1,G1,oY xs ys,_,rfl,I1.inv.kept (t':=s1.toks) z7,m1,
    Nm l1 l2 _ _ _ _ _ (by simp),⟨z1,z2,⟨_,_,z3⟩,z4,z5⟩,fun c hc=>?_,fun i H2 G2 k ab o=>?_,q1⟩
   ·have Tu:s1.heap.objs.size<=c:=by
     simp only [bD,cP,or_false] at hc;rcases hc with rfl | rfl | rfl | rfl | rfl
     ·exact tR _ _
     ·exact tR _ _
     ·exact tR _ _
     ·exact aC _
     ·exact tR _ _
    exact I1.inv.AO Tu (I1.inv.cn.fresh Tu)
   ·obtain⟨V0,Zz,jK⟩:=st1 H2 G2 k ab o.1;obtain⟨Yy,X8,yD⟩:=QF H2 G2 k ab o.2;refine⟨fun d hd=>?_,fun hl=>⟨V0,Yy,Zz,X8,?_⟩⟩
    ·rw [Ei] at hd;cases hx:xs[i]? with
     | none=>rw [hx] at hd; cases hd
     | some x' =>
      cases hy:ys[i]? with
      | none=>rw [hx,hy] at hd; cases hd
      | some y' =>
       rw [hx,hy] at hd;have ed:D.tup [x',y']=d:=by simpa using hd
       subst ed;obtain⟨vx,hvx,rx⟩:=jK.get hx;obtain⟨vy,hvy,ry⟩:=yD.get hy;refine⟨⟨V0,vx,Yy,vy,Zz,hvx,X8,hvy⟩,?_⟩;rintro v H3 ⟨T,px,py,ex,hT,e3,hx3,hy3⟩;subst ex e3;have q1:=hx3 V0 Zz;have q2:=hy3 Yy X8;rw [hvx] at q1;rw [hvy] at q2;cases q1; cases q2;exact⟨.tup bU (.cons (rx.mono (.new hT)) (.cons (ry.mono (.new hT)) .nil)),.Mf ab hT⟩
    ·rw [Eh] at hl;rw [jK.length,yD.length];lia
  ·exact q1.elim
 | [],q1=>exact q1.elim
 | [_],q1=>exact q1.elim
 | _ :: _ :: _ :: _,q1=>exact q1.elim
end
end K2
end
section
namespace K2
open PySem PySem.W PyProof.Rows
noncomputable def iD{α:Type}(lt:Nat->Nat->Bool):KasT α->α
 | .ret a=>a
 | .ask i j k=>iD lt (k (lt i j))
theorem mB{α β:Type}(lt:Nat->Nat->Bool)(f:α->KasT β):∀ t:KasT α,iD lt (t.bind f)=iD lt (f (iD lt t))
 | .ret _=>rfl
 | .ask i j k=>mB lt f (k (lt i j))
noncomputable abbrev gA(p:Array Nat)(k:Nat):Nat:=p.getD k 0
theorem BJ(p:Array Nat)(k:Nat):gA p k=(p[k]?).getD 0:=by
 unfold gA; rw [Array.getD_eq_getD_getElem?]
structure MD(lt:Nat->Nat->Bool):Prop where
 asymm:∀ i j,lt i j=true->lt j i=false
 trans:∀ i j k,lt j i=false->lt k j=false->lt k i=false
theorem MD.refl{lt:Nat->Nat->Bool}(w:MD lt)(i:Nat):lt i i=false:=by
 cases h:lt i i with
 | false=>rfl
 | true=>rw [w.asymm _ _ h] at h; cases h
noncomputable def Up(lt:Nat->Nat->Bool)(p:Array Nat)(m:Nat):Prop:=∀ i j,i<=j->j < m->lt (gA p j) (gA p i)=false
noncomputable def Dn(lt:Nat->Nat->Bool)(p:Array Nat)(m:Nat):Prop:=∀ i j,i<=j->j < m->lt (gA p i) (gA p j)=false
section
variable {lt:Nat->Nat->Bool}
theorem Up.more(w:MD lt){p:Array Nat}{n m:Nat}(h1:1<=n)(h:Up lt p n)(hs:∀ k,n<=k->k < m->lt (gA p k) (gA p (k - 1))=false):Up lt p m:=by
 intro i j BH hjm;induction j with
 | zero =>
  have:i=0:=by lia
  subst this; exact w.refl _
 | succ j ih =>
  by_cases hj:j+1 < n
  ·exact h i (j+1) BH hj
  ·by_cases e:i=j+1
   ·subst e; exact w.refl _
   ·have h1:=ih (by lia) (by lia);have h2:=hs (j+1) (by lia) hjm;exact w.trans _ _ _ h1 h2
theorem JW(p:Array Nat):∀ (f n:Nat),n<=iD lt (ql p f n)/\iD lt (ql p f n)<=n+f/\(∀ k,n<=k->k < iD lt (ql p f n)->lt (gA p k) (gA p (k - 1))=false) /\
  (iD lt (ql p f n) < n+f->lt (gA p (iD lt (ql p f n))) (gA p (iD lt (ql p f n) - 1))=true):=by
 intro f;induction f with
 | zero=>intro n; exact⟨aC _,aC _,fun k h1 h2=>absurd (show k < n from h2) (by lia),fun h=>absurd (show n < n+0 from h) (by lia)⟩
 | succ f ih =>
  intro n;have e:iD lt (ql p (f+1) n)=if lt (gA p n) (gA p (n - 1))=true then n else iD lt (ql p f (n+1)):=by
   show iD lt (if lt (gA p n) (gA p (n - 1))=true then vw n else ql p f (n+1))=_;split <;> rfl
  rw [e];by_cases c:lt (gA p n) (gA p (n - 1))=true
  ·rw [if_pos c];exact⟨aC _,by lia,fun k h1 h2=>absurd h2 (by lia),fun _=>c⟩
  ·rw [if_neg c];obtain⟨h1,h2,h3,h4⟩:=ih (n+1);refine⟨by lia,by lia,fun k k1 k2=>?_,fun h=>h4 (by lia)⟩;by_cases e:k=n
   ·subst e; simpa using c
   ·exact h3 k (by lia) k2
theorem iC{p:Array Nat}{i j:Nat}(hj:j<=p.size)(k:Nat):gA (gS p i j) k=if i<=k/\k < j then gA p (i+j - 1 - k) else gA p k:=by
 rw [BJ,gS,getElem?_mirror_all hj];split <;> rw [BJ]
theorem mO(p:Array Nat)(i j:Nat):(gS p i j).size=p.size:=mirror_size _ _ _ _
theorem kh(p:Array Nat)(i j:Nat):(gS p i j).Perm p:=mirror_perm _ _ _ _
theorem Dn.rev{p:Array Nat}{a n:Nat}(w:MD lt)(hn:n<=p.size)(h:Dn lt p n)(he:∀ k,a<=k->k < n->lt (gA p (n - 1)) (gA p k)=false):Dn lt (gS p a n) n:=by
 intro i j BH W3;rw [iC hn,iC hn];by_cases hi:a<=i
 ·rw [if_pos ⟨hi,by lia⟩,if_pos ⟨by lia,W3⟩];exact w.trans _ _ _ (he (a+n - 1 - j) (by lia) (by lia)) (h (a+n - 1 - i) (n - 1) (by lia) (by lia))
 ·rw [if_neg (by lia)];by_cases hj:a<=j
  ·rw [if_pos ⟨hj,W3⟩];exact h i (a+n - 1 - j) (by lia) (by lia)
  ·rw [if_neg (by lia)];exact h i j BH W3
noncomputable def Eqs(lt:Nat->Nat->Bool)(p:Array Nat)(n q:Nat):Prop:=q+1<=n/\∀ k,n - (q+1)<=k->k < n->lt (gA p (n - 1)) (gA p k)=false
theorem Dn.one(w:MD lt){p:Array Nat}{n:Nat}(h1:1<=n)(h:Dn lt p n)(hc:lt (gA p (n - 1)) (gA p n)=false):Dn lt p (n+1):=by
 intro i j BH hj;by_cases e:j=n
 ·subst e;by_cases e2:i=j
  ·subst e2; exact w.refl _
  ·exact w.trans _ _ _ hc (h i (j - 1) (by lia) (by lia))
 ·exact h i j BH (by lia)
theorem NP(w:MD lt):∀ (f:Nat) (p:Array Nat) (n q:Nat),n+f<=p.size->Dn lt p n->Eqs lt p n q->∃ p' n' q',iD lt (lG f p n q)=(p',n',q')/\p'.Perm p/\p'.size=p.size/\n<=n'/\n'<=n+f/\Dn lt p' n'/\Eqs lt p' n' q':=by
 intro f;induction f with
 | zero=>intro p n q _ hd he; exact⟨p,n,q,rfl,nj _,rfl,aC _,aC _,hd,he⟩
 | succ f ih =>
  intro p n q hs hd he;have h1:1<=n:=by have:=he.1; lia
  have e:iD lt (lG (f+1) p n q)=if lt (gA p n) (gA p (n - 1))=true then (if q > 0 then iD lt (lG f (gS p (n - (q+1)) n) (n+1) 0) else iD lt (lG f p (n+1) 0))
    else if lt (gA p (n - 1)) (gA p n)=true then (p,n,q) else iD lt (lG f p (n+1) (q+1)):=by
   show iD lt (if lt (gA p n) (gA p (n - 1))=true then (if q > 0 then lG f (gS p (n - (q+1)) n) (n+1) 0 else lG f p (n+1) 0) else .ask (gA p (n - 1)) (gA p n) fun d=>if d=true then .ret (p,n,q) else lG f p (n+1) (q+1))=_;split
   ·split <;> rfl
   ·show iD lt (if lt (gA p (n - 1)) (gA p n)=true then vw (p,n,q) else lG f p (n+1) (q+1))=_;split <;> rfl
  rw [e];by_cases c:lt (gA p n) (gA p (n - 1))=true
  ·rw [if_pos c];have ca:=w.asymm _ _ c;by_cases hq:q > 0
   ·rw [if_pos hq];have d1:Dn lt (gS p (n - (q+1)) n) n:=hd.rev w (by lia) he.2;have en:gA (gS p (n - (q+1)) n) n=gA p n:=by rw [iC (by lia),if_neg (by lia)]
    have ca':lt (gA (gS p (n - (q+1)) n) (n - 1)) (gA (gS p (n - (q+1)) n) n)=false:=by
     rw [en,iC (by lia)];split
     ·-- an item of YA XS is above p n
      exact w.trans _ _ _ ca (hd _ (n - 1) (by lia) (by lia))
     ·exact ca
    obtain⟨p',n',q',z,h2,h3,h4,h5,h6,h7⟩:=ih (gS p (n - (q+1)) n) (n+1) 0 (by rw [mO]; lia) (d1.one w h1 ca') ⟨by lia,fun k k1 k2=>by
     have:k=n:=by lia
     subst this; exact w.refl _⟩
    exact⟨p',n',q',z,h2.trans (kh _ _ _),h3.trans (mO _ _ _),by lia,by lia,h6,h7⟩
   ·rw [if_neg hq];obtain⟨p',n',q',z,h2,h3,h4,h5,h6,h7⟩:=ih p (n+1) 0 (by lia) (hd.one w h1 ca) ⟨by lia,fun k k1 k2=>by
     have:k=n:=by lia
     subst this; exact w.refl _⟩
    exact⟨p',n',q',z,h2,h3,by lia,by lia,h6,h7⟩
  ·rw [if_neg c];have c':lt (gA p n) (gA p (n - 1))=false:=by simpa using c
   by_cases d:lt (gA p (n - 1)) (gA p n)=true
   ·rw [if_pos d];exact⟨p,n,q,rfl,nj _,rfl,aC _,by lia,hd,he⟩
   ·rw [if_neg d];have d':lt (gA p (n - 1)) (gA p n)=false:=by simpa using d
    obtain⟨p',n',q',z,h2,h3,h4,h5,h6,h7⟩:=ih p (n+1) (q+1) (by lia) (hd.one w h1 d') ⟨by have:=he.1; lia,fun k k1 k2=>by
     rw [Nat.add_sub_cancel];by_cases e:k=n
     ·subst e; exact w.refl _
     ·exact w.trans _ _ _ (he.2 k (by lia) (by lia)) c'⟩
    exact⟨p',n',q',z,h2,h3,by lia,by lia,h6,h7⟩
theorem Dn.up{p:Array Nat}{n:Nat}(hn:n<=p.size)(h:Dn lt p n):Up lt (gS p 0 n) n:=by
 intro i j BH W3;rw [iC hn,iC hn,if_pos ⟨by lia,W3⟩,if_pos ⟨by lia,by lia⟩];exact h _ _ (by lia) (by lia)
theorem Ey(w:MD lt){p:Array Nat}{n nrem:Nat}(h1:1<=n)(hn:n<=nrem)(hs:nrem<=p.size)(h:Dn lt p n):∃ p' m,iD lt (Nb n nrem p)=(m,p')/\p'.Perm p/\p'.size=p.size/\n<=m/\m<=nrem/\Up lt p' m:=by
 obtain⟨a1,a2,a3,_⟩:=JW (lt:=lt) (gS p 0 n) (nrem - n) n;refine⟨gS p 0 n,iD lt (ql (gS p 0 n) (nrem - n) n),by rw [Nb,mB]; rfl,kh _ _ _,mO _ _ _,a1,by lia,?_⟩;exact(h.up (by lia)).more w h1 a3
theorem t9(w:MD lt){p:Array Nat}{n nrem:Nat}(h1:1<=n)(hn:n < nrem)(hs:nrem<=p.size)(h:Dn lt p n)(hc:lt (gA p (n - 1)) (gA p n)=false) :
  ∃ p' m,iD lt (yc n nrem p)=(m,p')/\p'.Perm p/\p'.size=p.size/\n<=m/\m<=nrem/\Up lt p' m:=by
 obtain⟨p1,n1,q1,z,z2,z3,z4,z5,z6,z7⟩:=NP w (nrem - (n+1)) p (n+1) 0 (by lia) (h.one w h1 hc) ⟨by lia,fun k k1 k2=>by
  have:k=n:=by lia
  subst this; exact w.refl _⟩
 rw [yc,mB,z];show ∃ p' m,iD lt (if q1 > 0 then Nb n1 nrem (gS p1 (n1 - (q1+1)) n1) else Nb n1 nrem p1)=(m,p')/\_;by_cases hq:q1 > 0
 ·rw [if_pos hq];obtain⟨p',m,y1,y2,y3,y4,y5,y6⟩:=Ey (nrem:=nrem) w (p:=gS p1 (n1 - (q1+1)) n1) (by lia) (by lia) (by rw [mO]; lia) (z6.rev w (by lia) z7.2);exact⟨p',m,y1,(y2.trans (kh _ _ _)).trans z2,(y3.trans (mO _ _ _)).trans z3,by lia,y5,y6⟩
 ·rw [if_neg hq];obtain⟨p',m,y1,y2,y3,y4,y5,y6⟩:=Ey (nrem:=nrem) w (p:=p1) (by lia) (by lia) (by lia) z6;exact⟨p',m,y1,y2.trans z2,y3.trans z3,by lia,y5,y6⟩
theorem Lw(w:MD lt){p:Array Nat}{nrem:Nat}(h1:1<=nrem)(hs:nrem<=p.size):∃ p' m,iD lt (kas_count nrem p)=(m,p')/\p'.Perm p/\p'.size=p.size/\1<=m/\m<=nrem/\Up lt p' m:=by
 obtain⟨a1,a2,a3,a4⟩:=JW (lt:=lt) p (nrem - 1) 1;rw [kas_count,mB];generalize iD lt (ql p (nrem - 1) 1)=n at a1 a2 a3 a4;have u1:Up lt p 1:=fun i j BH hj=>by
  have:i=j:=by lia
  subst this; exact w.refl _
 have up:Up lt p n:=u1.more w (aC _) a3;by_cases e:n=nrem
 ·subst e;rw [if_pos (by simp)];exact⟨p,n,rfl,nj _,rfl,a1,aC _,up⟩
 ·rw [if_neg (by simpa using e)];have hb:=a4 (by lia);by_cases h2:n > 1
  ·rw [if_pos h2];show ∃ p' m,iD lt (if lt (gA p 0) (gA p (n - 1))=true then vw (n,p) else yc n nrem (gS p 0 n))=(m,p')/\_;by_cases c:lt (gA p 0) (gA p (n - 1))=true
   ·rw [if_pos c];exact⟨p,n,rfl,nj _,rfl,a1,by lia,up⟩
   ·rw [if_neg c];have c':lt (gA p 0) (gA p (n - 1))=false:=by simpa using c
    have all:∀ i j,i < n->j < n->lt (gA p i) (gA p j)=false:=fun i j hi hj =>
     w.trans _ _ _ (w.trans _ _ _ (up j (n - 1) (by lia) (by lia)) c') (up 0 i (by lia) hi)
    have d1:Dn lt (gS p 0 n) n:=fun i j BH hj=>by
     rw [iC (by lia),iC (by lia),if_pos ⟨by lia,by lia⟩,if_pos ⟨by lia,hj⟩];exact all _ _ (by lia) (by lia)
    have hl:lt (gA (gS p 0 n) (n - 1)) (gA (gS p 0 n) n)=false:=by
     rw [iC (by lia),iC (by lia),if_pos ⟨by lia,by lia⟩,if_neg (by lia)];exact w.trans _ _ _ (w.asymm _ _ hb) (all _ _ (by lia) (by lia))
    obtain⟨p',m,y1,y2,y3,y4,y5,y6⟩:=t9 (nrem:=nrem) w (p:=gS p 0 n) a1 (by lia) (by rw [mO]; lia) d1 hl;exact⟨p',m,y1,y2.trans (kh _ _ _),y3.trans (mO _ _ _),by lia,y5,y6⟩
  ·rw [if_neg h2];have e1:n=1:=by lia
   subst e1;have d1:Dn lt p 1:=fun i j BH hj=>by
    have:i=j:=by lia
    subst this; exact w.refl _
   obtain⟨p',m,y1,y2,y3,y4,y5,y6⟩:=t9 (nrem:=nrem) w (p:=p) (aC _) (by lia) hs d1 (w.asymm _ _ hb);exact⟨p',m,y1,y2,y3,by lia,y5,y6⟩
theorem Lv(w:MD lt){p:Array Nat}{k:Nat}:∀ (f l r:Nat),l<=r->r<=k->r - l<=f->Up lt p k->(∀ i,i < l->lt (gA p k) (gA p i)=false)->(∀ i,r<=i->i < k->lt (gA p k) (gA p i)=true) ->
  ∃ m,iD lt (ka p k f l r)=m/\m<=k/\(∀ i,i < m->lt (gA p k) (gA p i)=false)/\(∀ i,m<=i->i < k->lt (gA p k) (gA p i)=true):=by
 intro f;induction f with
 | zero =>
  intro l r hlr Yb hf up h1 h2;have:l=r:=by lia
  subst this;exact⟨l,rfl,Yb,h1,h2⟩
 | succ f ih =>
  intro l r hlr Yb hf up h1 h2;have e:iD lt (ka p k (f+1) l r)=if l>=r then l else if lt (gA p k) (gA p ((l+r) / 2))=true then iD lt (ka p k f l ((l+r) / 2)) else iD lt (ka p k f ((l+r) / 2+1) r):=by
   show iD lt (if l>=r then vw l else .ask (gA p k) (gA p ((l+r) / 2)) fun c=>if c=true then ka p k f l ((l+r) / 2) else ka p k f ((l+r) / 2+1) r)=_;split
   ·rfl
   ·show iD lt (if lt (gA p k) (gA p ((l+r) / 2))=true then ka p k f l ((l+r) / 2) else ka p k f ((l+r) / 2+1) r)=_;split <;> rfl
  rw [e];by_cases c:l>=r
  ·rw [if_pos c];have:l=r:=by lia
   subst this;exact⟨l,rfl,Yb,h1,h2⟩
  ·rw [if_neg c];by_cases d:lt (gA p k) (gA p ((l+r) / 2))=true
   ·rw [if_pos d];refine ih l ((l+r) / 2) (by lia) (by lia) (by lia) up h1 fun i i1 i2=>?_;cases q:lt (gA p k) (gA p i) with
    | true=>rfl
    | false=>rw [w.trans _ _ _ (up ((l+r) / 2) i i1 i2) q] at d; cases d
   ·rw [if_neg d];refine ih ((l+r) / 2+1) r (by lia) Yb (by lia) up (fun i hi=>?_) h2;exact w.trans _ _ _ (up i ((l+r) / 2) (by lia) (by lia)) (by simpa using d)
theorem BK{p:Array Nat}{src d:Nat}(hs:src < p.size)(hd:d<=src)(k:Nat):gA (bubble p src d) k=if k=src - d then gA p src else if src - d < k/\k<=src then gA p (k - 1) else gA p k:=by
 rw [BJ,getElem?_bubble hs d hd,BJ p src,BJ p (k - 1),BJ p k];by_cases h1:k=src - d
 ·rw [if_pos h1,if_pos h1]
 ·rw [if_neg h1,if_neg h1];by_cases h2:src - d < k/\k<=src
  ·rw [if_pos h2,if_pos h2]
  ·rw [if_neg h2,if_neg h2]
theorem Ra(w:MD lt):∀ (f:Nat) (p:Array Nat) (k:Nat),k+f<=p.size->Up lt p k->∃ p',iD lt (kas_bin f p k)=p'/\p'.Perm p/\p'.size=p.size/\Up lt p' (k+f):=by
 intro f;induction f with
 | zero=>intro p k _ up; exact⟨p,rfl,nj _,rfl,up⟩
 | succ f ih =>
  intro p k hs up;obtain⟨m,e,hm,h1,h2⟩:=Lv w k 0 k (cw _) (aC _) (aC _) up (fun i hi=>absurd hi (by lia)) (fun i i1 i2=>absurd i1 (by lia));have up':Up lt (bubble p k (k - m)) (k+1):=by
   intro i j BH hj;rw [BK (by lia) (by lia),BK (by lia) (by lia)];have ek:k - (k - m)=m:=by lia
   rw [ek];by_cases j1:j=m
   ·rw [if_pos j1];by_cases i1:i=m
    ·rw [if_pos i1]; exact w.refl _
    ·rw [if_neg i1,if_neg (by lia)]; exact h1 i (by lia)
   ·rw [if_neg j1];by_cases j2:m < j/\j<=k
    ·rw [if_pos j2];by_cases i1:i=m
     ·rw [if_pos i1]; exact w.asymm _ _ (h2 (j - 1) (by lia) (by lia))
     ·rw [if_neg i1];by_cases i2:m < i/\i<=k
      ·rw [if_pos i2]; exact up _ _ (by lia) (by lia)
      ·rw [if_neg i2]; exact up _ _ (by lia) (by lia)
    ·rw [if_neg j2,if_neg (by lia),if_neg (by lia)]; exact up _ _ BH (by lia)
  obtain⟨p',z,z1,z2,z3⟩:=ih (bubble p k (k - m)) (k+1) (by rw [bubble_size]; lia) up';refine⟨p',?_,z1.trans (bubble_perm _ _ _),z2.trans (bubble_size _ _ _),by rw [show k+(f+1)=k+1+f by lia]; exact z3⟩;rw [kas_bin,mB,e]; exact z
theorem NN(w:MD lt){n:Nat}(h1:1<=n):∃ p,iD lt (kas_sort n)=p/\p.toList.Perm (ez n)/\p.size=n/\Up lt p n:=by
 obtain⟨p,m,z,z1,z2,z3,z4,z5⟩:=Lw w (p:=(ez n).toArray) h1 (by simp);have zs:p.size=n:=by rw [z2]; simp
 have zp:p.toList.Perm (ez n):=by simpa using z1.toList
 rw [kas_sort,mB,z];show ∃ q,iD lt (if m < n then kas_bin (n - max m 1) p (max m 1) else .ret p)=q/\_;by_cases c:m < n
 ·rw [if_pos c];have em:max m 1=m:=by lia
  rw [em];obtain⟨p',y,y1,y2,y3⟩:=Ra w (n - m) p m (by lia) z5;exact⟨p',y,(by simpa using y1.toList:p'.toList.Perm p.toList).trans zp,y2.trans zs,by rw [show n=m+(n - m) by lia]; exact y3⟩
 ·rw [if_neg c];have:m=n:=by lia
  subst this;exact⟨p,rfl,zp,zs,z5⟩
end
end K2
end
section
namespace K2
open PySem PySem.Spec PyProof.Rows L2
open PySem.AutoSeq1 (wpAny_loadPart')
open PySem.MeetsSeq PySem.MeetsSeq2 PySem.MeetsSeq3 PySem.SeqAt
noncomputable def z9(A:dI)(s:az)(y x:Value)(b:Bool):Prop :=
 ∀ (prog:bI) (w:World) (E:Value->az->Prop) (Q:Value->az->Prop),Q (.bool b) s->wpAny (model prog w) A (qk .Lt y x) Q E s
noncomputable def sg(e l:Nat->Bool)(n m:Nat):Nat->Nat->Bool
 | 0,_=>decide (n < m)
 | f+1,i=>if e i=true then sg e l n m f (i+1) else l i
theorem RR(l b:Addr)(xs ys:Array Value)(n m:Nat)(dd de:Option Addr)(sl sm:Array (Option Value))(e lt:Nat->Bool)(k:Nat) :
  ∀ i:Nat,i<=min xs.size ys.size->min xs.size ys.size - i=k->Meets (Builtin.«list.__eq__.loop» ⟨[.ref l,.ref b,D9 i,D9 0],[]⟩)
   (fun A R s=>s.heap.get? l=some { cls:=.type "list",dict:=dd,data:=.seq xs n,slots:=sl }/\s.heap.get? b=some { cls:=.type "list",dict:=de,data:=.seq ys m,slots:=sm } /\
    (∀ j (h1:j < xs.size) (h2:j < ys.size),EqAt A.in1 s xs[j] ys[j] (e j)/\z9 A.in1 s xs[j] ys[j] (lt j)) /\
    R (.ok (.ret (.bool (sg e lt xs.size ys.size k i)))) s):=by
 induction k with
 | zero =>
  intro i hi hk prog w A R s h;obtain⟨hp,g,d,tk,os⟩:=s;obtain⟨hl,hb,he,h⟩:=h
  wp_walk using bZ hl,bZ hb
  by_cases c:xs.size<=ys.size
  ·have h1:xs[((i:Nat):Int).toNat]?=none:=by simp; lia
   rw [h1]
   wp_walk using bZ hl,bZ hb
   exact h
  ·have h2:ys[((i:Nat):Int).toNat]?=none:=by simp; lia
   rw [h2];cases q:xs[((i:Nat):Int).toNat]? with
   | none =>
    wp_walk using bZ hl,bZ hb
    exact h
   | some v =>
    wp_walk using bZ hl,bZ hb
    exact h
 | succ k ih =>
  intro i hi hk prog w A R s h;obtain⟨hp,g,d,tk,os⟩:=s;obtain⟨hl,hb,he,h⟩:=h
  wp_walk using bZ hl,bZ hb
  have l1:i < xs.size:=by lia
  have l2:i < ys.size:=by lia
  have h1:xs[((i:Nat):Int).toNat]?=some xs[i]:=by simp [l1]
  have h2:ys[((i:Nat):Int).toNat]?=some ys[i]:=by simp [l2]
  have hc:((i:Int)+1)=((i+1:Nat):Int):=by push_cast; rfl
  rw [h1,h2];refine ag ((he i l1 l2).1 prog w _ _ ?_);cases q:e i with
  | true =>
   rw [sg,q,if_pos rfl] at h
   wp_walk
   rw [hc];exact⟨pW plain_eq_loop _,qm entry_eq_loop (by
    rw [jW plain_eq_loop _];exact ih (i+1) (by lia) (by lia) prog w A R _ ⟨hl,hb,he,h⟩)⟩
  | false =>
   rw [sg,q,if_neg (by simp)] at h
   wp_walk using bZ hl,bZ hb
   rw [h1,h2];have WT:=(he i l1 l2).2 prog w
   wp_walk using WT
   exact h
theorem BB(l b:Addr)(xs ys:Array Value)(n m:Nat)(dd de:Option Addr)(sl sm:Array (Option Value))(e lt:Nat->Bool) :
  Meets (Builtin.«list.__lt__» ⟨[.ref l,.ref b],[]⟩)
   (fun A R s=>s.heap.get? l=some { cls:=.type "list",dict:=dd,data:=.seq xs n,slots:=sl }/\s.heap.get? b=some { cls:=.type "list",dict:=de,data:=.seq ys m,slots:=sm } /\
    (∀ j (h1:j < xs.size) (h2:j < ys.size),EqAt A.in1 s xs[j] ys[j] (e j)/\z9 A.in1 s xs[j] ys[j] (lt j)) /\
    R (.ok (.ret (.bool (sg e lt xs.size ys.size (min xs.size ys.size) 0)))) s):=by
 intro prog w A R s h;obtain⟨hp,g,d,tk,os⟩:=s;obtain⟨hl,hb,he,h⟩:=h;have f3:=Hw
 wp_walk using bZ hl,bZ hb
 exact⟨pW plain_eq_loop _,qm entry_eq_loop (by
  rw [jW plain_eq_loop _];exact RR l b xs ys n m dd de sl sm e lt _ 0 (cw _) rfl prog w A R _ ⟨hl,hb,he,h⟩)⟩
theorem yk(l b:Addr)(xs ys:Array Value)(n m:Nat)(dd de:Option Addr)(sl sm:Array (Option Value))(e lt:Nat->Bool) :
  Meets (Builtin.«tuple.__lt__» ⟨[.ref l,.ref b],[]⟩)
   (fun A R s=>s.heap.get? l=some { cls:=.type "tuple",dict:=dd,data:=.seq xs n,slots:=sl }/\s.heap.get? b=some { cls:=.type "tuple",dict:=de,data:=.seq ys m,slots:=sm } /\
    (∀ j (h1:j < xs.size) (h2:j < ys.size),EqAt A.in1 s xs[j] ys[j] (e j)/\z9 A.in1 s xs[j] ys[j] (lt j)) /\
    R (.ok (.ret (.bool (sg e lt xs.size ys.size (min xs.size ys.size) 0)))) s) :=
 .of_wp fun prog w A R s h=>by
  obtain⟨hp,g,d,tk,os⟩:=s;obtain⟨hl,hb,he,h⟩:=h;have f2:=pK;have zl:(xs.toList.zip ys.toList).length=min xs.size ys.size:=by simp
  wp_walk using bZ hl,bZ hb,lF _ (fun rest c s'=>c.1=none/\s'=⟨hp,g,d,tk,os⟩/\∃ i,i<=min xs.size ys.size/\rest=(xs.toList.zip ys.toList).drop i /\
   R (.ok (.ret (.bool (sg e lt xs.size ys.size (min xs.size ys.size - i) i)))) ⟨hp,g,d,tk,os⟩) _
  case turn =>
   rintro⟨y,x⟩ rest c s' ⟨hc,rfl,i,hi,hz,hR⟩;have il:i < min xs.size ys.size:=by
    have:=congrArg dO hz;rw [cq,zl,aj] at this;lia
   have l1:i < xs.size:=by lia
   have l2:i < ys.size:=by lia
   rw [ib (by rw [zl]; exact il)] at hz;injection hz with Zr Pe
   have ey:y=xs[i]/\x=ys[i]:=by simpa using Zr
   obtain⟨rfl,rfl⟩:=ey;obtain⟨k,ek⟩:∃ k,min xs.size ys.size - i=k+1:=⟨min xs.size ys.size - i - 1,by lia⟩;rw [ek,sg] at hR;refine ag ((he i l1 l2).1 prog w _ _ ?_);cases q:e i with
   | true =>
    rw [q,if_pos rfl] at hR
    wp_walk
    exact⟨rfl,rfl,i+1,by lia,Pe,by rw [show min xs.size ys.size - (i+1)=k by lia]; exact hR⟩
   | false =>
    rw [q,if_neg (by simp)] at hR;have WT:=(he i l1 l2).2 prog w
    wp_walk using WT
    exact⟨_,rfl,by simpa using hR⟩
  case fin =>
   rintro⟨c1,c2⟩ s' ⟨hc,rfl,i,hi,hz,hR⟩;simp only at hc;subst hc;have il:min xs.size ys.size - i=0:=by
    have:=congrArg dO hz;rw [cq,zl,ax] at this;lia
   rw [il,sg] at hR
   wp_walk
   exact⟨_,rfl,by simpa [tW] using hR⟩
  case h =>
   exact⟨rfl,rfl,0,cw _,rfl,by simpa using h⟩
theorem LQ{A:dI}{s:az}{l b:Addr}{xs ys:Array Value}{e lt:Nat->Bool}(hl:s.heap.IsList l xs)(hb:s.heap.IsList b ys)(hu:A.units < cLine)
  (he:∀ j (h1:j < xs.size) (h2:j < ys.size),EqAt A.in1 s xs[j] ys[j] (e j)/\z9 A.in1 s xs[j] ys[j] (lt j)):z9 A s (.ref l) (.ref b) (sg e lt xs.size ys.size (min xs.size ys.size) 0):=by
 intro prog w E Q hq;obtain⟨⟨cls,dd,data,sl⟩,ho,hc,n,hd⟩:=id hl;obtain⟨⟨PX,D3,data2,JV⟩,BF,C2,n2,hd2⟩:=id hb;simp only at hc hd C2 hd2;subst hc hd C2 hd2;exact xh (op:=.Lt) ⟨_,ho,rfl⟩ ⟨_,BF,rfl⟩ tT Lb (Jz _ _) (BB l b xs ys n n2 dd D3 sl JV e lt)
  ⟨ho,BF,he,(fun x=>nomatch x),hq⟩ hu
theorem Ij{A:dI}{s:az}{l b:Addr}{xs ys:Array Value}{e lt:Nat->Bool}(hl:s.heap.IsTuple l xs)(hb:s.heap.IsTuple b ys)(hu:A.units < cLine)
  (he:∀ j (h1:j < xs.size) (h2:j < ys.size),EqAt A.in1 s xs[j] ys[j] (e j)/\z9 A.in1 s xs[j] ys[j] (lt j)):z9 A s (.ref l) (.ref b) (sg e lt xs.size ys.size (min xs.size ys.size) 0):=by
 intro prog w E Q hq;obtain⟨⟨cls,dd,data,sl⟩,ho,hc,n,hd⟩:=id hl;obtain⟨⟨PX,D3,data2,JV⟩,BF,C2,n2,hd2⟩:=id hb;simp only at hc hd C2 hd2;subst hc hd C2 hd2;exact xh (op:=.Lt) ⟨_,ho,rfl⟩ ⟨_,BF,rfl⟩ md se (qt _ _) (yk l b xs ys n n2 dd D3 sl JV e lt)
  ⟨ho,BF,he,(fun x=>nomatch x),hq⟩ hu
theorem oN(xs ys:List D):∀ (k i:Nat),i<=min xs.length ys.length->min xs.length ys.length - i=k ->
  sg (fun j=>ij (xs.getD j .eQ) (ys.getD j .eQ)) (fun j=>oK (xs.getD j .eQ) (ys.getD j .eQ)) xs.length ys.length k i=ml (xs.drop i) (ys.drop i)
 | 0,i,hi,hk=>by
  rw [sg];by_cases c:xs.length<=ys.length
  ·have e1:xs.drop i=[]:=me (by lia);rw [e1];cases q:ys.drop i with
   | nil =>
    have:=congrArg dO q;rw [cq,ax] at this;exact decide_eq_false (by lia)
   | cons y r =>
    have:=congrArg dO q;rw [cq,aj] at this;exact decide_eq_true (by lia)
  ·have e1:ys.drop i=[]:=me (by lia);rw [e1];cases q:xs.drop i with
   | nil =>
    have:=congrArg dO q;rw [cq,ax] at this;exact decide_eq_false (by lia)
   | cons y r=>exact decide_eq_false (by lia)
 | k+1,i,hi,hk=>by
  have l1:i < xs.length:=by lia
  have l2:i < ys.length:=by lia
  rw [sg,ib l1,ib l2,mV,oN xs ys k (i+1) (by lia) (by lia)];have g1:xs.getD i .eQ=xs[i]:=by rw [d6,ai l1]; rfl
  have g2:ys.getD i .eQ=ys[i]:=by rw [d6,ai l2]; rfl
  rw [g1,g2]
theorem kj{h:Heap}:∀ {ds:List D} {vs:List Value} {as:List Addr},gY h vs (lY ds) as->∀ j (hj:j < vs.length),∃ bs,Reads h vs[j] (pd (ds.getD j .eQ)) bs
 | [],vs,as,r,j,hj=>by cases r; exact absurd hj (oV _)
 | d :: ds,_,_,.cons (v:=v) (vs:=vs) r1 r2,j,hj=>by
  cases j with
  | zero=>exact⟨_,r1⟩
  | succ j=>exact kj r2 j (by simpa using hj)
theorem readsAll_len{h:Heap}:∀ {ds:List D} {vs:List Value} {as:List Addr},gY h vs (lY ds) as->vs.length=ds.length
 | [],_,_,r=>by cases r; rfl
 | d :: ds,_,_,.cons r1 r2=>by rw [aj,aj,readsAll_len r2]
theorem o8:∀ {ds:List D},pN ds=true->∀ j,nr (ds.getD j .eQ)=true
 | [],_,j=>by rw [List.getD_nil]; rfl
 | d :: ds,h,0=>by
  have h:(nr d&&pN ds)=true:=h;rw [aJ] at h; simpa using h.1
 | d :: ds,h,j+1=>by
  have h:(nr d&&pN ds)=true:=h;rw [aJ] at h; simpa using o8 h.2 j
theorem lB:∀ (ds:List D) (j:Nat),(pd (ds.getD j .eQ)).depth<=b9 (lY ds)
 | [],j=>by rw [List.getD_nil]; exact aC _
 | d :: ds,0=>by
  show (pd d).depth<=b9 (pd d :: lY ds);simp only [b9]; lia
 | d :: ds,j+1=>by
  have:=lB ds j;show (pd (ds.getD j .eQ)).depth<=b9 (pd d :: lY ds);simp only [b9]; lia
theorem qM:∀ {l:List nA} {ds:List D},fC l ds=true->∀ j,j < ds.length->∃ s∈l,cH s (ds.getD j .eQ)=true/\l[j]?=some s
 | [],[],_,j,hj=>absurd hj (oV _)
 | [],_ :: _,h,_,_=>by cases h
 | _ :: _,[],h,_,_=>by cases h
 | s :: l,d :: ds,h,0,_=>by
  have h:(cH s d&&fC l ds)=true:=h;rw [aJ] at h;exact⟨s,by simp,by simpa using h.1,by simp⟩
 | s :: l,d :: ds,h,j+1,hj=>by
  have h:(cH s d&&fC l ds)=true:=h;rw [aJ] at h;obtain⟨s',h1,h2,h3⟩:=qM h.2 j (by simpa using hj);exact⟨s',aL _ h1,by simpa using h2,by simpa using h3⟩
theorem qN:∀ {s:nA} {ds:List D},gW s ds=true->∀ j,j < ds.length->cH s (ds.getD j .eQ)=true
 | s,[],_,j,hj=>absurd hj (oV _)
 | s,d :: ds,h,0,_=>by
  have h:(cH s d&&gW s ds)=true:=h;rw [aJ] at h; simpa using h.1
 | s,d :: ds,h,j+1,hj=>by
  have h:(cH s d&&gW s ds)=true:=h;rw [aJ] at h; simpa using qN h.2 j (by simpa using hj)
theorem Di{A:dI}{s:az}{xs ys:List D}{vs ws:Array Value}{as bs:List Addr}(r1:gY s.heap vs.toList (lY xs) as)(r2:gY s.heap ws.toList (lY ys) bs)(n1:pN xs=true)(n2:pN ys=true)
  (hu:A.units+b9 (lY xs) < cLine) (j:Nat) (h1:j < vs.size) (h2:j < ws.size):EqAt A s vs[j] ws[j] (ij (xs.getD j .eQ) (ys.getD j .eQ)):=by
 obtain⟨Xy,q1⟩:=kj r1 j (by simpa using h1);obtain⟨Xw,q2⟩:=kj r2 j (by simpa using h2);have m1:=o8 n1 j;have m2:=o8 n2 j;have dp:=lB xs j;have:=eqAt_reads (pd (xs.getD j .eQ)) (pd (ys.getD j .eQ)) A s _ _ _ _ q1 q2 (kq _ m1) (kq _ m2) (by lia);rw [tw _ _ m1 m2] at this;simpa using this
theorem sW:∀ (n:Nat) (sh:nA) (a b:D) (A:dI) (s:az) (u v:Value) (as bs:List Addr),(pd a).depth<=n->cH sh a=true->cH sh b=true->nr a=true->nr b=true->Reads s.heap u (pd a) as->Reads s.heap v (pd b) bs->A.units+n < cLine->z9 A s u v (oK a b):=by
 intro n;induction n using Nat.strongRecOn with
 | _ n ih =>
 intro sh a b A s u v as bs hn h1 h2 n1 n2 r1 r2 hu;cases sh with
 | int =>
  first | obtain⟨_,rfl⟩:=dH h1 | obtain⟨_,rfl⟩:=dF h1 | obtain⟨_,rfl⟩:=dG h1
  first | obtain⟨_,rfl⟩:=dH h2 | obtain⟨_,rfl⟩:=dF h2 | obtain⟨_,rfl⟩:=dG h2
  cases r1; cases r2;intro prog w E Q hq;exact HT.yF A s _ _ _ _ prog w E Q hq
 | tup l =>
  first | obtain⟨_,rfl⟩:=dH h1 | obtain⟨_,rfl⟩:=dF h1 | obtain⟨_,rfl⟩:=dG h1
  first | obtain⟨_,rfl⟩:=dH h2 | obtain⟨_,rfl⟩:=dF h2 | obtain⟨_,rfl⟩:=dG h2
  rename_i xs ys;have n1:pN xs=true:=n1;have n2:pN ys=true:=n2;cases r1 with
  | tuple k1 k2 k3 k4 =>
   cases r2 with
   | tuple m1 m2 m3 m4 =>
    rename_i p o vs c p' o' ws c';have hd:(pd (.tup xs)).depth=b9 (lY xs)+1:=rfl;obtain⟨n',rfl⟩:∃ n',n=n'+1:=⟨n - 1,by lia⟩;have z1:=readsAll_len k4;have z2:=readsAll_len m4;have e1:vs.size=xs.length:=by simpa using z1
    have e2:ws.size=ys.length:=by simpa using z2
    have base:=Ij (A:=A) (s:=s) (e:=fun j=>ij (xs.getD j .eQ) (ys.getD j .eQ)) (lt:=fun j=>oK (xs.getD j .eQ) (ys.getD j .eQ)) ⟨_,k1,k2,_,k3⟩ ⟨_,m1,m2,_,m3⟩ (by lia) (fun j j1 j2=>by
     refine⟨Di k4 m4 n1 n2 (by show A.units+1+_ < _; lia) j j1 j2,?_⟩;obtain⟨Xy,q1⟩:=kj k4 j (by simpa using j1);obtain⟨Xw,q2⟩:=kj m4 j (by simpa using j2);obtain⟨sj,hsj,g1,g2⟩:=qM (l:=l) (ds:=xs) h1 j (by lia);obtain⟨sj',ZH,g1',Xk⟩:=qM (l:=l) (ds:=ys) h2 j (by lia);rw [g2] at Xk; cases Xk;have dp:=lB xs j;have:=ih n' (by lia) sj (xs.getD j .eQ) (ys.getD j .eQ) A.in1 s _ _ _ _ (by lia) g1 g1' (o8 n1 j) (o8 n2 j) q1 q2 (by show A.units+1+n' < cLine; lia);simpa using this)
    have fin:=oN xs ys (min xs.length ys.length) 0 (cw _) rfl;rw [e1,e2,fin] at base;exact base
 | lst l =>
  first | obtain⟨_,rfl⟩:=dH h1 | obtain⟨_,rfl⟩:=dF h1 | obtain⟨_,rfl⟩:=dG h1
  first | obtain⟨_,rfl⟩:=dH h2 | obtain⟨_,rfl⟩:=dF h2 | obtain⟨_,rfl⟩:=dG h2
  rename_i xs ys;have n1:pN xs=true:=n1;have n2:pN ys=true:=n2;cases r1 with
  | list k1 k2 k3 k4 =>
   cases r2 with
   | list m1 m2 m3 m4 =>
    rename_i p o vs c p' Xy o' ws c' Xw;have hd:(pd (.cY xs)).depth=b9 (lY xs)+1:=rfl;obtain⟨n',rfl⟩:∃ n',n=n'+1:=⟨n - 1,by lia⟩;have z1:=readsAll_len k4;have z2:=readsAll_len m4;have e1:vs.size=xs.length:=by simpa using z1
    have e2:ws.size=ys.length:=by simpa using z2
    have base:=LQ (A:=A) (s:=s) (e:=fun j=>ij (xs.getD j .eQ) (ys.getD j .eQ)) (lt:=fun j=>oK (xs.getD j .eQ) (ys.getD j .eQ)) ⟨_,k1,k2,_,k3⟩ ⟨_,m1,m2,_,m3⟩ (by lia) (fun j j1 j2=>by
     refine⟨Di k4 m4 n1 n2 (by show A.units+1+_ < _; lia) j j1 j2,?_⟩;obtain⟨Xy,q1⟩:=kj k4 j (by simpa using j1);obtain⟨Xw,q2⟩:=kj m4 j (by simpa using j2);have dp:=lB xs j;have:=ih n' (by lia) l (xs.getD j .eQ) (ys.getD j .eQ) A.in1 s _ _ _ _ (by lia) (qN (s:=l) (ds:=xs) h1 j (by lia)) (qN (s:=l) (ds:=ys) h2 j (by lia)) (o8 n1 j) (o8 n2 j) q1 q2 (by show A.units+1+n' < cLine; lia);simpa using this)
    have fin:=oN xs ys (min xs.length ys.length) 0 (cw _) rfl;rw [e1,e2,fin] at base;exact base
end K2
end
section
namespace K2
open PySem PySem.Spec PyProof.Rows L2 PySem.W
section
variable {prog:bI} {w:World} {A:dI} {E:Value->az->Prop} {s:az}
theorem NJ {at':Addr} {bH:List Value} {n:Nat} {P:PySem.Fin->az->Prop} (tm:s.heap.get? at'=some (x6 "list" bH.toArray n)) (BN:bH.length < 2)
  (done:P (.done (.ret .none)) { s with heap:=sortedHeap s.heap at' bH bH.toArray }):wpAny (model prog w) A (Builtin.«list.sort» ⟨[.ref at'],[]⟩) P E s:=by
 rw [list_sort_plain];have lt':at' < s.heap.objs.size:=aS tm;refine ag (listItems_at tm rfl (ag (listUpdate_at tm rfl ?_)));obtain⟨c,hc⟩:∃ c,(s.heap.update at' (jd fun _=>#[])).get? at'=some (x6 "list" #[] c):=⟨_,get?_update_seq tm (fun _=>#[])⟩;refine ag (seqEpoch_at hc rfl (ag (wpAny_newTuple (ag (wpAny_newList (eu ?_))))));have h6:(((s.heap.update at' (jd fun _=>#[])).push (x6 "tuple" bH.toArray 0)).push (x6 "list" #[] 0)).get? at'=some (x6 "list" #[] c):=by
  rw [Heap.get?_push_ne _ _ _ (by rw [size_push',DY]; exact bB (Cg lt')),Heap.get?_push_ne _ _ _ (by rw [DY]; exact bB lt')];exact hc
 show wpAny (model prog w) A _ P E { s with heap:=((s.heap.update at' (jd fun _=>#[])).push (x6 "tuple" bH.toArray 0)).push (x6 "list" #[] 0) };dsimp only;have sz2:bH.toArray.size < 2:=by simpa using BN
 rw [if_pos sz2,if_pos sz2];refine ag (aA ?_);rw [StateT.run_pure];refine ag (aA ?_);dsimp only;have es:(bH.toArray.zip bH.toArray).map (·.2)=bH.toArray:=by
  apply Array.toList_inj.mp;simp [List.map_snd_zip]
 refine ag (seqEpoch_at h6 rfl (ag (listUpdate_at h6 rfl ?_ (hsz2:=by rw [show (arrOf (SortSt.mk' general' (bH.toArray.zip bH.toArray) #[] 7 none)).map (·.2)=bH.toArray from es,cF]; simp; lia))));simp only [bne_self_eq_false,ar,if_false];refine aA ?_;rw [show (arrOf (SortSt.mk' general' (bH.toArray.zip bH.toArray) #[] 7 none)).map (·.2)=bH.toArray from es];exact done
theorem HF{l:Addr}{bH:List Value}{Q:Value->az->Prop}(hl:s.heap.IsList l bH.toArray)(BN:bH.length < 2)
  (done:Q (.ref (s.heap.objs.size+1)) { s with heap:=sortedAll s.heap bH bH.toArray }):wpAny (model prog w) A (call (.builtin "sorted") [.ref l]) Q E s:=by
 refine Calls.call_function_entry kind_sorted plain_sorted entry_sorted (args_sorted1 _) ?_;unfold Builtin.«sorted»;refine ag (m:=checkCount "sorted" 1 1 _) (aA (ag (collect_list hl (ag (wpAny_newList ?_)))));have e1:((s.heap.push (x6 "list" #[] 0)).update s.heap.objs.size (jd (·++bH.toArray))).objs.size=s.heap.objs.size+1:=by rw [DY,size_push']
 have e2:(((s.heap.push (x6 "list" #[] 0)).update s.heap.objs.size (jd (·++bH.toArray))).push (x6 "list" bH.toArray 0)).get? (s.heap.objs.size+1)=some (x6 "list" bH.toArray 0):=by
  rw [<-e1]; exact bh _ rfl
 show wpAny _ _ _ _ _ { s with heap:=((s.heap.push (x6 "list" #[] 0)).update s.heap.objs.size (jd (·++bH.toArray))).push (x6 "list" bH.toArray 0) };rw [e1];refine ag (eu (cX slot_list_sort ⟨_,e2,rfl⟩ entry_list_sort (NJ e2 BN ⟨_,rfl,?_⟩) (args_list_sort _)));exact aA ⟨_,rfl,done⟩
end
section
open PySem.SeqAt
noncomputable def Qj(A:dI)(s:az)(y x:Value)(b:Bool):Prop :=
 ∀ (prog:bI) (w:World) (E:Value->az->Prop) (Q:Bool->az->Prop),Q b s->wpAny (model prog w) A (oneLt' true y x) Q E s
theorem HX{A:dI}{s:az}{l b:Addr}{xs ys:Array Value}{e lt:Nat->Bool}(hl:s.heap.IsList l xs)(hb:s.heap.IsList b ys)(hu:A.units < cLine)
  (he:∀ j (h1:j < xs.size) (h2:j < ys.size),EqAt A.in1 s xs[j] ys[j] (e j)/\z9 A.in1 s xs[j] ys[j] (lt j)):Qj A s (.ref l) (.ref b) (sg e lt xs.size ys.size (min xs.size ys.size) 0):=by
 intro prog w E Q hq;obtain⟨⟨cls,dd,data,sl⟩,ho,hc,n,hd⟩:=id hl;obtain⟨⟨PX,D3,data2,JV⟩,BF,C2,n2,hd2⟩:=id hb;simp only at hc hd C2 hd2;subst hc hd C2 hd2;rw [oneLt'_eq];simp only [if_true];refine ag (wpAny_cRoomFor hu (ag (Jt (T:="list") ⟨_,ho,rfl⟩ tT ?_)));exact Hj tT ⟨_,ho,rfl⟩ Lb (Jz _ _) (BB l b xs ys n n2 dd D3 sl JV e lt) ⟨ho,BF,he,nV hq⟩
theorem EZ{A:dI}{s:az}{l b:Addr}{xs ys:Array Value}{e lt:Nat->Bool}(hl:s.heap.IsTuple l xs)(hb:s.heap.IsTuple b ys)(hu:A.units < cLine)
  (he:∀ j (h1:j < xs.size) (h2:j < ys.size),EqAt A.in1 s xs[j] ys[j] (e j)/\z9 A.in1 s xs[j] ys[j] (lt j)):Qj A s (.ref l) (.ref b) (sg e lt xs.size ys.size (min xs.size ys.size) 0):=by
 intro prog w E Q hq;obtain⟨⟨cls,dd,data,sl⟩,ho,hc,n,hd⟩:=id hl;obtain⟨⟨PX,D3,data2,JV⟩,BF,C2,n2,hd2⟩:=id hb;simp only at hc hd C2 hd2;subst hc hd C2 hd2;rw [oneLt'_eq];simp only [if_true];refine ag (wpAny_cRoomFor hu (ag (Jt (T:="tuple") ⟨_,ho,rfl⟩ md ?_)));exact Hj md ⟨_,ho,rfl⟩ se (qt _ _) (yk l b xs ys n n2 dd D3 sl JV e lt) ⟨ho,BF,he,nV hq⟩
theorem Fx{n:Nat}{A:dI}{s:az}{xs ys:List D}{vs ws:Array Value}{as bs:List Addr}(r1:gY s.heap vs.toList (lY xs) as)(r2:gY s.heap ws.toList (lY ys) bs)(n1:pN xs=true)(n2:pN ys=true)(hd:b9 (lY xs)<=n)
  (hu:A.units+n < cLine) (hs:∀ j,j < xs.length->j < ys.length->∃ sh,cH sh (xs.getD j .eQ)=true/\cH sh (ys.getD j .eQ)=true) (j:Nat) (h1:j < vs.size) (h2:j < ws.size) :
  EqAt A s vs[j] ws[j] (ij (xs.getD j .eQ) (ys.getD j .eQ))/\z9 A s vs[j] ws[j] (oK (xs.getD j .eQ) (ys.getD j .eQ)):=by
 have z1:=readsAll_len r1;have z2:=readsAll_len r2;have e1:vs.size=xs.length:=by simpa using z1
 have e2:ws.size=ys.length:=by simpa using z2
 refine⟨Di r1 r2 n1 n2 (by lia) j h1 h2,?_⟩;obtain⟨Xy,q1⟩:=kj r1 j (by simpa using h1);obtain⟨Xw,q2⟩:=kj r2 j (by simpa using h2);obtain⟨sh,g1,g2⟩:=hs j (by lia) (by lia);have dp:=lB xs j;have:=sW n sh (xs.getD j .eQ) (ys.getD j .eQ) A s _ _ _ _ (by lia) g1 g2 (o8 n1 j) (o8 n2 j) q1 q2 hu;simpa using this
theorem wO{n:Nat}{sh:nA}{a b:D}{A:dI}{s:az}{u v:Value}{as bs:List Addr}(hn:(pd a).depth<=n)(h1:cH sh a=true)(h2:cH sh b=true)(n1:nr a=true)(n2:nr b=true)(r1:Reads s.heap u (pd a) as)(r2:Reads s.heap v (pd b) bs)
  (hu:A.units+n < cLine):Qj A s u v (oK a b):=by
 cases sh with
 | int =>
  first | obtain⟨_,rfl⟩:=dH h1 | obtain⟨_,rfl⟩:=dF h1 | obtain⟨_,rfl⟩:=dG h1
  first | obtain⟨_,rfl⟩:=dH h2 | obtain⟨_,rfl⟩:=dF h2 | obtain⟨_,rfl⟩:=dG h2
  cases r1; cases r2;intro prog w E Q hq;exact oneLt_int hq
 | tup l =>
  first | obtain⟨_,rfl⟩:=dH h1 | obtain⟨_,rfl⟩:=dF h1 | obtain⟨_,rfl⟩:=dG h1
  first | obtain⟨_,rfl⟩:=dH h2 | obtain⟨_,rfl⟩:=dF h2 | obtain⟨_,rfl⟩:=dG h2
  rename_i xs ys;have n1:pN xs=true:=n1;have n2:pN ys=true:=n2;cases r1 with
  | tuple k1 k2 k3 k4 =>
   cases r2 with
   | tuple m1 m2 m3 m4 =>
    rename_i p o vs c p' o' ws c';have hd:(pd (.tup xs)).depth=b9 (lY xs)+1:=rfl;obtain⟨n',rfl⟩:∃ n',n=n'+1:=⟨n - 1,by lia⟩;have z1:=readsAll_len k4;have z2:=readsAll_len m4;have e1:vs.size=xs.length:=by simpa using z1
    have e2:ws.size=ys.length:=by simpa using z2
    have base:=EZ (A:=A) (s:=s) ⟨_,k1,k2,_,k3⟩ ⟨_,m1,m2,_,m3⟩ (by lia) (Fx (A:=A.in1) (n:=n') k4 m4 n1 n2 (by lia) (by show A.units+1+n' < cLine; lia) fun j j1 j2=>by
     obtain⟨sj,hsj,g1,g2⟩:=qM (l:=l) (ds:=xs) h1 j j1;obtain⟨sj',ZH,g1',Xk⟩:=qM (l:=l) (ds:=ys) h2 j j2;rw [g2] at Xk; cases Xk;exact⟨sj,g1,g1'⟩)
    have fin:=oN xs ys (min xs.length ys.length) 0 (cw _) rfl;rw [e1,e2,fin] at base;exact base
 | lst l =>
  first | obtain⟨_,rfl⟩:=dH h1 | obtain⟨_,rfl⟩:=dF h1 | obtain⟨_,rfl⟩:=dG h1
  first | obtain⟨_,rfl⟩:=dH h2 | obtain⟨_,rfl⟩:=dF h2 | obtain⟨_,rfl⟩:=dG h2
  rename_i xs ys;have n1:pN xs=true:=n1;have n2:pN ys=true:=n2;cases r1 with
  | list k1 k2 k3 k4 =>
   cases r2 with
   | list m1 m2 m3 m4 =>
    rename_i p o vs c p' Xy o' ws c' Xw;have hd:(pd (.cY xs)).depth=b9 (lY xs)+1:=rfl;obtain⟨n',rfl⟩:∃ n',n=n'+1:=⟨n - 1,by lia⟩;have z1:=readsAll_len k4;have z2:=readsAll_len m4;have e1:vs.size=xs.length:=by simpa using z1
    have e2:ws.size=ys.length:=by simpa using z2
    have base:=HX (A:=A) (s:=s) ⟨_,k1,k2,_,k3⟩ ⟨_,m1,m2,_,m3⟩ (by lia) (Fx (A:=A.in1) (n:=n') k4 m4 n1 n2 (by lia) (by show A.units+1+n' < cLine; lia) fun j j1 j2=>⟨l,qN (s:=l) (ds:=xs) h1 j j1,qN (s:=l) (ds:=ys) h2 j j2⟩);have fin:=oN xs ys (min xs.length ys.length) 0 (cw _) rfl;rw [e1,e2,fin] at base;exact base
theorem CV{prog:bI}{w:World}{A:dI}{s:az}{b fin:Bool}{Q:Bool->az->Prop}{n:Nat}(hu:A.units+n < cLine):∀ (l:List nA) (xs ys:List D) (vs ws:List Value) (as bs:List Addr) (i:Nat),fC l xs=true->fC l ys=true->pN xs=true->pN ys=true ->
  gY s.heap vs (lY xs) as->gY s.heap ws (lY ys) bs->b9 (lY xs)<=n->fin=false->Q (ml xs ys) s->KatLex prog w A b fin Q (vs.zip ws) i s:=by
 intro l xs;induction xs generalizing l with
 | nil =>
  intro ys vs ws as bs i h1 h2 n1 n2 r1 r2 hd hf hq;cases r1;cases l with
  | nil =>
   cases ys with
   | nil=>cases r2; subst hf; exact hq
   | cons _ _=>cases h2
  | cons _ _=>cases h1
 | cons x xs ih =>
  intro ys vs ws as bs i h1 h2 n1 n2 r1 r2 hd hf hq;cases l with
  | nil=>cases h1
  | cons sh l =>
  cases ys with
  | nil=>cases h2
  | cons y ys =>
  cases r1 with
  | @cons v vs _ _ _ _ a1 a2 =>
  cases r2 with
  | @cons u ws _ _ _ _ b1 b2 =>
  have h1:(cH sh x&&fC l xs)=true:=h1;have h2:(cH sh y&&fC l ys)=true:=h2;have n1:(nr x&&pN xs)=true:=n1;have n2:(nr y&&pN ys)=true:=n2;rw [aJ] at h1 h2 n1 n2;have Xb:(pd x).depth<=n/\b9 (lY xs)<=n:=by
   have hd:b9 (pd x :: lY xs)<=n:=hd;simp only [b9] at hd;lia
  show KatLex prog w A b fin Q ((v,u) :: vs.zip ws) i s;have eq:=eqAt_reads (pd x) (pd y) A s _ _ _ _ a1 b1 (kq _ n1.1) (kq _ n2.1) (by lia);rw [tw _ _ n1.1 n2.1] at eq;refine kat_cons (eq prog w _ _ ?_);rw [mV] at hq;cases q:ij x y with
  | true =>
   rw [q,if_pos rfl] at hq;exact kat_yes (ih l ys vs ws _ _ (i+1) h1.2 h2.2 n1.2 n2.2 a2 b2 Xb.2 hf hq)
  | false =>
   rw [q,if_neg (by simp)] at hq;refine kat_no ?_;cases c:(b&&i == 0) with
   | true=>exact wO Xb.1 h1.1 h2.1 n1.1 n2.1 a1 b1 hu prog w _ Q hq
   | false=>exact kat_one v u (sW n sh x y A s _ _ _ _ Xb.1 h1.1 h2.1 n1.1 n2.1 a1 b1 hu prog w _ _ hq)
end
noncomputable def lD{α:Type}(n:Nat)(P:α->Prop):KasT α->Prop
 | .ret a=>P a
 | .ask i j k=>i < n/\j < n/\∀ b,lD n P (k b)
theorem lD.bind{α β:Type}{n:Nat}{P:α->Prop}{P':β->Prop}{f:α->KasT β}:∀ {t:KasT α},lD n P t->(∀ a,P a->lD n P' (f a))->lD n P' (t.bind f)
 | .ret a,q,h=>h a q
 | .ask i j k,⟨q1,q2,q3⟩,h=>⟨q1,q2,fun b=>lD.bind (q3 b) h⟩
theorem Fu{α:Type}{n:Nat}{lt:Nat->Nat->Bool}{cmp:Nat->Nat->(Bool->az->Prop)->az->Prop}{s:az}{Q:α->az->Prop}(hc:∀ i j,i < n->j < n->∀ C:Bool->az->Prop,C (lt i j) s->cmp i j C s) :
  ∀ (t:KasT α),lD n (fun _=>True) t->Q (iD lt t) s->t.kasWp cmp Q s
 | .ret a,_,q=>q
 | .ask i j k,⟨h1,h2,h3⟩,q=>hc i j h1 h2 _ (Fu hc (k (lt i j)) (h3 _) q)
noncomputable def Bd(n:Nat)(p:Array Nat):Prop:=0 < n/\∀ x∈p,x < n
theorem Bd.at{n:Nat}{p:Array Nat}(h:Bd n p)(k:Nat):p.getD k 0 < n:=by
 by_cases hk:k < p.size
 ·have:p.getD k 0=p[k]:=by simp [JJ,hk]
  rw [this]; exact h.2 _ (Array.getElem_mem hk)
 ·have:p.getD k 0=0:=by simp [JJ,hk]
  rw [this]; exact h.1
theorem Bd.perm{n:Nat}{p q:Array Nat}(h:Bd n p)(hp:q.Perm p):Bd n q:=⟨h.1,fun x hx=>h.2 x (hp.mem_iff.mp hx)⟩
theorem DF{n:Nat}{p:Array Nat}(h:Bd n p):∀ (f k:Nat),lD n (fun _=>True) (ql p f k)
 | 0,k=>trivial
 | f+1,k=>⟨h.at _,h.at _,fun b=>by
  show lD n _ (if b=true then vw k else ql p f (k+1));split
  ·trivial
  ·exact DF h f (k+1)⟩
theorem u7{n:Nat}:∀ (f:Nat) (p:Array Nat) (k q:Nat),Bd n p->lD n (fun r=>Bd n r.1) (lG f p k q)
 | 0,p,k,q,h=>h
 | f+1,p,k,q,h=>⟨h.at _,h.at _,fun b=>by
  show lD n _ (if b=true then (if q > 0 then lG f (gS p (k - (q+1)) k) (k+1) 0 else lG f p (k+1) 0) else .ask (p.getD (k - 1) 0) (p.getD k 0) fun d=>if d=true then .ret (p,k,q) else lG f p (k+1) (q+1));split
  ·split
   ·exact u7 f _ _ _ (h.perm (kh _ _ _))
   ·exact u7 f _ _ _ h
  ·refine⟨h.at _,h.at _,fun d=>?_⟩;show lD n _ (if d=true then vw (p,k,q) else lG f p (k+1) (q+1));split
   ·exact h
   ·exact u7 f _ _ _ h⟩
theorem Gw{n:Nat}{p:Array Nat}(h:Bd n p)(k m:Nat):lD n (fun r=>Bd n r.2) (Nb k m p) :=
 lD.bind (DF (h.perm (kh _ _ _)) _ _) fun _ _=>h.perm (kh _ _ _)
theorem u6{n:Nat}{p:Array Nat}(h:Bd n p)(k m:Nat):lD n (fun r=>Bd n r.2) (yc k m p) :=
 lD.bind (u7 _ _ _ _ h) fun r hr=>by
  split
  ·exact Gw (hr.perm (kh _ _ _)) _ _
  ·exact Gw hr _ _
theorem MA{n:Nat}{p:Array Nat}(h:Bd n p)(m:Nat):lD n (fun r=>Bd n r.2) (kas_count m p) :=
 lD.bind (DF h _ _) fun k _=>by
  split
  ·exact h
  ·split
   ·refine⟨h.at _,h.at _,fun b=>?_⟩;show lD n _ (if b=true then vw (k,p) else yc k m (gS p 0 k));split
    ·exact h
    ·exact u6 (h.perm (kh _ _ _)) _ _
   ·exact u6 h _ _
theorem we{n:Nat}{p:Array Nat}(h:Bd n p)(k:Nat):∀ (f l r:Nat),lD n (fun _=>True) (ka p k f l r)
 | 0,l,r=>trivial
 | f+1,l,r=>by
  show lD n _ (if l>=r then vw l else .ask (p.getD k 0) (p.getD ((l+r) / 2) 0) fun c=>if c=true then ka p k f l ((l+r) / 2) else ka p k f ((l+r) / 2+1) r);split
  ·trivial
  ·refine⟨h.at _,h.at _,fun b=>?_⟩;show lD n _ (if b=true then ka p k f l ((l+r) / 2) else ka p k f ((l+r) / 2+1) r);split
   ·exact we h k f _ _
   ·exact we h k f _ _
theorem K0{n:Nat}:∀ (f:Nat) (p:Array Nat) (k:Nat),Bd n p->lD n (fun _=>True) (kas_bin f p k)
 | 0,p,k,h=>trivial
 | f+1,p,k,h=>lD.bind (we h k _ _ _) fun l _=>K0 f _ _ (h.perm (bubble_perm _ _ _))
theorem Qh{n:Nat}(h:0 < n):lD n (fun _=>True) (kas_sort n) :=
 lD.bind (MA ⟨h,fun x hx=>by simpa using hx⟩ n) fun r hr=>by
  split
  ·exact K0 _ _ _ hr
  ·trivial
mutual
theorem wD{h h':Heap}(hk:∀ b o vs n,o.data=.seq vs n->h.get? b=some o->h'.get? b=some o):∀ (d:D) {v:Value} {as:List Addr},nr d=true->Reads h v (pd d) as->Reads h' v (pd d) as
 | .eQ,_,_,_,r=>by cases r; exact .none
 | .bl b,_,_,_,r=>by cases r; exact .bool b
 | .int i,_,_,_,r=>by cases r; exact .int i _
 | .str x,_,_,_,r=>by cases r; exact .str x _
 | .tup ds,_,_,n,r=>by
  cases r with
  | tuple h1 h2 h3 h4=>exact .tuple (hk _ _ _ _ h3 h1) h2 h3 (mP hk ds n h4)
 | .cY ds,_,_,n,r=>by
  cases r with
  | list h1 h2 h3 h4=>exact .list (hk _ _ _ _ h3 h1) h2 h3 (mP hk ds n h4)
 | .j8 _,_,_,n,_=>by cases n
 | .ref _,_,_,n,_=>by cases n
 | .exc _,_,_,n,_=>by cases n
theorem mP{h h':Heap}(hk:∀ b o vs n,o.data=.seq vs n->h.get? b=some o->h'.get? b=some o):∀ (ds:List D) {vs:List Value} {as:List Addr},pN ds=true->gY h vs (lY ds) as->gY h' vs (lY ds) as
 | [],_,_,_,r=>by cases r; exact .nil
 | d :: ds,_,_,n,r=>by
  have n:(nr d&&pN ds)=true:=n;rw [aJ] at n;cases r with
  | cons r1 r2=>exact .cons (wD hk d n.1 r1) (mP hk ds n.2 r2)
end
mutual
theorem HG(G:Gp):∀ (sh:nA) (d:D) (n:Nat),cH sh d=true->Tw sh<=n->Sn G n d d
 | .int,.int i,n,_,_=>.int i
 | .tup l,.tup ds,n,h,hn=>by
  have hn:PQ l+1<=n:=hn;obtain⟨m,rfl⟩:∃ m,n=m+1:=⟨n - 1,by lia⟩;exact JS G l ds m h (by lia)
 | .lst s,.cY ds,n,h,hn=>by
  have hn:Tw s+1<=n:=hn;obtain⟨m,rfl⟩:∃ m,n=m+1:=⟨n - 1,by lia⟩;exact JT G s ds m h (by lia)
theorem JS(G:Gp):∀ (l:List nA) (ds:List D) (m:Nat),fC l ds=true->PQ l<=m->Sn G (m+1) (.tup ds) (.tup ds)
 | [],[],m,_,_=>.HC
 | s :: l,d :: ds,m,h,hm=>by
  have h:(cH s d&&fC l ds)=true:=h;have hm:max (Tw s) (PQ l)<=m:=hm;rw [aJ] at h;exact .qy (HG G s d m h.1 (by lia)) (JS G l ds m h.2 (by lia))
theorem JT(G:Gp):∀ (s:nA) (ds:List D) (m:Nat),gW s ds=true->Tw s<=m->Sn G (m+1) (.cY ds) (.cY ds)
 | s,[],m,_,_=>.EA
 | s,d :: ds,m,h,hm=>by
  have h:(cH s d&&gW s ds)=true:=h;rw [aJ] at h;exact .yE (HG G s d m h.1 hm) (JT G s ds m h.2 hm)
end
theorem getD_at{α:Type}(xs:List α)(d:α){i:Nat}(h:i < xs.length):xs.getD i d=xs[i]:=by
 rw [d6,ai h]; rfl
theorem yY{α:Type}(xs:List α)(d:α):(ez xs.length).map (fun i=>xs.getD i d)=xs:=by
 refine List.ext_getElem (by simp) fun i h1 h2=>?_;rw [kF,lI];exact getD_at _ _ h2
theorem Em{h:Heap}{s1:nA}{l:List nA}:∀ (zs:List D) (vs:List Value),(∀ z∈zs,cH (.tup (s1 :: l)) z=true)->(∀ i,i < vs.length->∃ as,Reads h (vs.getD i .none) (pd (zs.getD i .eQ)) as)->vs.length=zs.length ->
  ∃ fs,KatTups h vs fs/\fs.length=vs.length/\∀ f∈fs,∃ d as,cH s1 d=true/\Reads h f (pd d) as:=by
 intro zs;induction zs with
 | nil =>
  intro vs _ _ h;have:vs=[]:=List.length_eq_zero_iff.mp h;subst this;exact⟨[],trivial,rfl,fun _ h=>by cases h⟩
 | cons z zs ih =>
 intro vs hs hr hl;cases vs with
 | nil=>cases hl
 | cons v vs =>
  obtain⟨fs,h1,h2,h3⟩:=ih vs (fun z hz=>hs z (aL _ hz)) (fun i hi=>by
   obtain⟨as,r⟩:=hr (i+1) (by simpa using hi);exact⟨as,by simpa using r⟩) (by simpa using hl)
  obtain⟨as,r⟩:=hr 0 (by simp);have hz:=hs z (by simp);simp only [List.getD_cons_zero] at r;cases z <;> first | (cases hz; done) | skip
  rename_i ds;cases ds with
  | nil=>cases hz
  | cons d ds =>
   have hz:(cH s1 d&&fC l ds)=true:=hz;rw [aJ] at hz;cases r with
   | tuple k1 k2 k3 k4 =>
    rename_i p o ws c;have k5:gY h ws.toList (pd d :: lY ds) as:=k4;cases q:ws.toList with
    | nil=>rw [q] at k5; cases k5
    | cons f rest =>
     rw [q] at k5;cases k5 with
     | cons r1 r2 =>
      have hf:ws[0]?=some f:=by
       have:ws.toList[0]?=some f:=by rw [q]; rfl
       simpa using this
      refine⟨f :: fs,.cons k1 k2 k3 hf h1,by simp [h2],fun g hg=>?_⟩;rcases List.mem_cons.mp hg with rfl | hg
      ·exact⟨d,_,hz.1,r1⟩
      ·exact h3 g hg
noncomputable def Nk:nA->Value
 | .int=>.type "int"
 | .tup _=>.type "tuple"
 | .lst _=>.type "list"
theorem Bx{M:Model}{h:Heap}{sh:nA}{d:D}{v:Value}{as:List Addr}(hs:cH sh d=true)(r:Reads h v (pd d) as):Looks M h (typeOf v) (Nk sh):=by
 cases sh with
 | int =>
  cases d <;> first | (cases hs; done) | skip
  cases r;exact .now
 | tup l =>
  cases d <;> first | (cases hs; done) | skip
  cases r with
  | tuple k1 k2 k3 k4 =>
   rename_i p o ws c;have:Looks M h (typeOf (.ref p)) o.cls:=(Looks.ld k1).andThen .now;rw [k2] at this; exact this
 | lst l =>
  cases d <;> first | (cases hs; done) | skip
  cases r with
  | list k1 k2 k3 k4 =>
   rename_i p o ws c as;have:Looks M h (typeOf (.ref p)) o.cls:=(Looks.ld k1).andThen .now;rw [k2] at this; exact this
theorem L3{prog:bI}{w:World}{A:dI}{s:az}{E:Value->az->Prop}{Q:Bool->az->Prop}{n:Nat}{b:Bool}{l:List nA}{a c:D}{u v:Value}{as bs:List Addr}(hn:(pd a).depth<=n+1)(h1:cH (.tup l) a=true)(h2:cH (.tup l) c=true)(n1:nr a=true)(n2:nr c=true)
  (r1:Reads s.heap u (pd a) as) (r2:Reads s.heap v (pd c) bs) (hu:A.units+n < cLine) (hq:Q (oK a c) s):wpAny (model prog w) A (keyLt' (tuples' b) u v) Q E s:=by
 first | obtain⟨_,rfl⟩:=dH h1 | obtain⟨_,rfl⟩:=dF h1 | obtain⟨_,rfl⟩:=dG h1
 first | obtain⟨_,rfl⟩:=dH h2 | obtain⟨_,rfl⟩:=dF h2 | obtain⟨_,rfl⟩:=dG h2
 rename_i xs ys;cases r1 with
 | tuple k1 k2 k3 k4 =>
  cases r2 with
  | tuple m1 m2 m3 m4 =>
   rename_i p o vs c p' o' ws c';have z1:=readsAll_len k4;have z2:=readsAll_len m4;have e1:vs.size=xs.length:=by simpa using z1
   have e2:ws.size=ys.length:=by simpa using z2
   have el:∀ (l:List nA) (xs ys:List D),fC l xs=true->fC l ys=true->xs.length=ys.length:=by
    intro l;induction l with
    | nil =>
     intro xs ys h1 h2;cases xs with
     | nil=>cases ys with
      | nil=>rfl
      | cons _ _=>cases h2
     | cons _ _=>cases h1
    | cons s l ih =>
     intro xs ys h1 h2;cases xs with
     | nil=>cases h1
     | cons x xs =>
      cases ys with
      | nil=>cases h2
      | cons y ys =>
       have h1:(cH s x&&fC l xs)=true:=h1;have h2:(cH s y&&fC l ys)=true:=h2;rw [aJ] at h1 h2;rw [aj,aj,ih xs ys h1.2 h2.2]
   have hd:(pd (.tup xs)).depth=b9 (lY xs)+1:=rfl;refine kat_lt k1 k3 m1 m3 (CV (n:=n) hu l xs ys _ _ _ _ 0 h1 h2 n1 n2 k4 m4 (by lia) (decide_eq_false (by rw [e1,e2,el l xs ys h1 h2]; lia)) hq)
section
variable {X:Cx}
theorem LR{x:D}{G:Gp}{zs:List D}(ty:Cq x G)(hi:itemsOf x G=some zs):qK x G=some zs:=by
 cases x <;> first | exact ty.elim | exact hi
theorem u4 (hc:X.calm=true) (hu:X.A.units+64 < cLine):rg X (.builtin "sorted") u5:=by
 intro pins s σ H G xs ds us Q I ab rx rd q;unfold u5 at q;split at q
 ·rename_i x;obtain⟨sh,zs,ty,hi,AN,cn,h64,q⟩:=q;obtain⟨w1,rfl,Ew⟩:=rd.one;obtain⟨u,rfl,ru⟩:=rx.one;obtain⟨l,vs,bH,rfl,rv,rs,hl,_⟩:=pG I ab ru Ew (LR ty hi);have Tp:=rv.length;have tj:=rs.length;have hsz:aZ=16777216:=cF;have hz:∀ z∈zs,cH sh z=true:=fun z h=>List.all_eq_true.mp AN z h;by_cases BN:bH.length < 2
  ·refine HF hl BN ?_;obtain⟨e,he⟩:=sortedAll_at s.heap bH bH.toArray;have hp:H (s.heap.objs.size+1)=none:=I.cn.fresh (Hq _);have es:qz zs=zs:=t6 sh hz (.refl _) (by
    match zs,tj,BN with
    | [],_,_=>exact .nil
    | [z],_,_=>exact List.pairwise_singleton _ _
    | _ :: _ :: _,h,f=>exact absurd f (by rw [<-Tp,h]; simp))
   rw [es] at q;refine⟨.ref (s.heap.objs.size+1),upd H (s.heap.objs.size+1) (.lst vs),.ref _,_,I.laid (t':=s.toks) (fun b o e=>sortedAll_old e) (Hq _) ?_,.Ia ab hp rs,rfl,.ref _,q _ (ab.free hp)⟩;exact⟨by lia,bH,e,rv,he⟩
  ·obtain⟨m,F0⟩:=I.fr;have nz:0 < zs.length:=by lia
   have nL:∀ b o vs n,o.data=.seq vs n->s.heap.get? b=some o->b≠X.env.locals:=fun b o vs n e1 e2 z=>by
    obtain⟨o',es,ep,D0,Av,_⟩:=F0.ns;rw [z,D0] at e2; cases e2; rw [Av] at e1; cases e1
   unfold UJ at cn;rw [aJ] at cn;have hdp:Tw sh<=7:=of_decide_eq_true cn.1;have sn:∀ z∈zs,Sn G 7 z z:=fun z h=>HG G sh z 7 (hz z h) hdp;refine kat_sorted F0 E9 hl (by lia) (by lia) fun Dd e1 h' F N xn=>?_;obtain⟨kk,ns⟩:=vV I F0 F fun p hp=>N p (aL _ hp);have CA:∀ i,i < bH.length->∃ as,Reads h' (bH.getD i .none) (pd (zs.getD i .eQ)) as:=fun i hi=>by
    have i1:i < zs.length:=by lia
    have i2:i < vs.length:=by lia
    have g1:zs.getD i .eQ=zs[i]:=getD_at _ _ i1;have g2:bH.getD i .none=bH[i]:=getD_at _ _ hi;obtain⟨v,hv,YJ⟩:=rs.get (ai i1);obtain⟨u,Kq,YF⟩:=rv.get hv;rw [ai hi] at Kq;cases Kq;obtain⟨as,r⟩:=(gU I ab (sn _ (cB i1))).1 v _ YJ YF;rw [g1,g2];exact⟨as,wD (fun b o vs n e1 e2=>kk b o (nL b o vs n e1 e2) e2) _ (sn _ (cB i1)).nr r⟩
   have AI:∀ i,i < zs.length->cH sh (zs.getD i .eQ)=true:=fun i hi=>by rw [getD_at _ _ hi]; exact hz _ (cB hi)
   have X4:∀ i,i < zs.length->nr (zs.getD i .eQ)=true:=fun i hi=>by rw [getD_at _ _ hi]; exact(sn _ (cB hi)).nr
   have dpz:∀ i,i < zs.length->(pd (zs.getD i .eQ)).depth<=7:=fun i hi=>by rw [getD_at _ _ hi]; exact zJ (sn _ (cB hi))
   let zz:Nat->D:=fun i=>if i < zs.length then zs.getD i .eQ else zs.getD 0 .eQ
   have VY:∀ i,cH sh (zz i)=true:=fun i=>by
    show cH sh (if i < zs.length then zs.getD i .eQ else zs.getD 0 .eQ)=true;split
    ·exact AI i (by assumption)
    ·exact AI 0 nz
   let lt:Nat->Nat->Bool:=fun i j=>oK (zz i) (zz j)
   have swo:MD lt:=⟨fun i j h=>Bw sh (VY i) (VY j) h,fun i j k h1 h2=>y8 sh (VY i) (VY j) (VY k) h1 h2⟩;have lte:∀ i j,i < zs.length->j < zs.length->lt i j=oK (zs.getD i .eQ) (zs.getD j .eQ):=fun i j hi hj=>by
    show oK (if i < zs.length then _ else _) (if j < zs.length then _ else _)=_;rw [if_pos hi,if_pos hj]
   obtain⟨p,ep,FG,psz,hup⟩:=NN swo (n:=bH.length) (by lia);have hA2:X.A.in1.in1.units=X.A.units+2:=rfl;have ask:∀ κ:SortKind,(∀ i j,i < bH.length->j < bH.length->∀ C:Bool->az->Prop,C (oK (zs.getD i .eQ) (zs.getD j .eQ)) { s with heap:=h' }->kas_ask X.prog X.w X.A.in1.in1 κ bH i j C { s with heap:=h' }) ->
     (kas_sort bH.length).kasWp (kas_ask X.prog X.w X.A.in1.in1 κ bH) (fun p Wd=>KasFin X.base X.env.locals m Dd e1 (p.toList.map fun i=>bH.getD i gn) (fun s3=>r8 X pins σ H G Q (.ref Dd) s3) Wd) { s with heap:=h' }:=by
    intro κ hk;refine Fu (lt:=lt) (n:=bH.length) (fun i j i1 i2 C hC=>hk i j i1 i2 C (by rw [<-lte i j (by lia) (by lia)]; exact hC)) _ (Qh (by lia)) ?_;rw [ep];refine KasFin.intro (g:=fun o=>(Dd,o) :: rY X.base s.heap X.env.locals) F N (.head (fun q hq z=>absurd (xn q hq) (by rw [z]; exact iQ _))) fun h2 c F2 N2=>?_;obtain⟨k2,ns2⟩:=vV I F0 F2 fun p hp=>N2 p (aL _ hp);have hD:s.heap.get? Dd=none:=by
     have nD:=N _ cp;cases qd:s.heap.get? Dd with
     | none=>rfl
     | some o=>exact absurd (xn _ (wR nD.2.1 nD.2.2 qd)) (iQ _)
    have hp:H Dd=none:=Ky I.cn hD;have rvp:Vals (p.toList.map fun i=>vs.getD i .eQ) (p.toList.map fun i=>bH.getD i gn):=by
     have:∀ (ps:List Nat),(∀ i∈ps,i < bH.length)->Vals (ps.map fun i=>vs.getD i .eQ) (ps.map fun i=>bH.getD i gn):=by
      intro ps;induction ps with
      | nil=>intro _; exact .nil
      | cons i ps ih =>
       intro hh;have hi:=hh i (by simp);refine .cons ?_ (ih fun j hj=>hh j (aL _ hj));have i2:i < vs.length:=by lia
       obtain⟨u,Kq,YF⟩:=rv.get (ai i2);rw [ai hi] at Kq;cases Kq;show RelV (vs.getD i .eQ) (bH.getD i .none);rw [getD_at _ _ i2,getD_at _ _ hi]; exact YF
     exact this _ fun i hi=>by simpa using FG.mem_iff.mp hi
    have rsp:bg X.K H (p.toList.map fun i=>vs.getD i .eQ) (p.toList.map fun i=>zs.getD i .eQ):=by
     have:∀ (ps:List Nat),(∀ i∈ps,i < bH.length)->bg X.K H (ps.map fun i=>vs.getD i .eQ) (ps.map fun i=>zs.getD i .eQ):=by
      intro ps;induction ps with
      | nil=>intro _; exact .nil
      | cons i ps ih =>
       intro hh;have hi:=hh i (by simp);refine .cons ?_ (ih fun j hj=>hh j (aL _ hj));have i2:i < vs.length:=by lia
       have i1:i < zs.length:=by lia
       obtain⟨v,hv,r⟩:=rs.get (ai i1);rw [ai i2] at hv;cases hv;show bX X.K H (vs.getD i .eQ) (zs.getD i .eQ);rw [getD_at _ _ i2,getD_at _ _ i1]; exact r
     exact this _ fun i hi=>by simpa using FG.mem_iff.mp hi
    have es:qz zs=p.toList.map fun i=>zs.getD i .eQ:=by
     refine t6 sh hz ?_ ?_
     ·have h1:(p.toList.map fun i=>zs.getD i .eQ).Perm ((ez zs.length).map fun i=>zs.getD i .eQ):=by
       have:bH.length=zs.length:=by lia
       rw [<-this];exact FG.map _
      rw [yY] at h1;exact h1
     ·rw [A9,List.pairwise_iff_getElem];intro i j hi hj BH;have g1:gA p i=p.toList[i]:=by
       have:i < p.size:=by simpa using hi
       simp [gA,JJ,this]
      have g2:gA p j=p.toList[j]:=by
       have:j < p.size:=by simpa using hj
       simp [gA,JJ,this]
      have bi:p.toList[i] < bH.length:=by simpa using FG.mem_iff.mp (cB hi)
      have bj:p.toList[j] < bH.length:=by simpa using FG.mem_iff.mp (cB hj)
      have:=hup i j (by lia) (by have:j < p.toList.length:=hj; rw [fA,psz] at this; exact this);rw [g1,g2,lte _ _ (by lia) (by lia)] at this;exact this
    rw [es] at q;have ln:(p.toList.map fun i=>vs.getD i .eQ).length<=aZ:=by rw [ak,fA,psz]; lia
    refine⟨.ref Dd,upd H Dd (.lst (p.toList.map fun i=>vs.getD i .eQ)),.ref _,_,Inv.S6 (t':=s.toks) I k2 ns2 hD ?_,.Ia ab hp rsp,rfl,.ref _,q _ (ab.free hp)⟩;exact⟨ln,_,c,rvp,(N2 _ cp).1⟩
   have gen:∀ i j,i < bH.length->j < bH.length->∀ C:Bool->az->Prop,C (oK (zs.getD i .eQ) (zs.getD j .eQ)) { s with heap:=h' }->wpAny (model X.prog X.w) X.A.in1.in1 (keyLt' oneType' (bH.getD i gn) (bH.getD j gn)) C (fun _ _=>False) { s with heap:=h' }:=by
    intro i j hi hj C hC;obtain⟨as,r1⟩:=CA i hi;obtain⟨bs,r2⟩:=CA j hj;rw [keyLt'_oneType];exact wO (s:={ s with heap:=h' }) (n:=7) (dpz i (by lia)) (AI i (by lia)) (AI j (by lia)) (X4 i (by lia)) (X4 j (by lia)) r1 r2 (by rw [hA2]; lia) X.prog X.w _ C hC
   have lk:∀ v∈bH,Looks (model X.prog X.w) h' (typeOf v) (Nk sh):=fun v hv=>by
    obtain⟨i,hi,rfl⟩:=eS hv;obtain⟨as,r⟩:=CA i hi;rw [getD_at _ _ hi] at r;exact Bx (AI i (by lia)) r
   cases sh with
   | int=>exact kas_kind (s:={ s with heap:=h' }) (T:=.type "int") (by lia) lk rfl rfl (ask oneType' gen)
   | lst ss=>exact kas_kind (s:={ s with heap:=h' }) (T:=.type "list") (by lia) lk rfl rfl (ask oneType' gen)
   | tup ss =>
    cases ss with
    | nil=>exact absurd cn.2 (by simp)
    | cons s1 ss =>
     obtain⟨fs,t1,t2,t3⟩:=Em (h:=h') zs bH hz CA (by lia);refine kat_kind (s:={ s with heap:=h' }) (T:=Nk s1) t1 (by lia) (fun f hf=>?_) (by cases s1 <;> rfl) (ask _ fun i j hi hj C hC=>?_)
     ·obtain⟨d,as,h1,h2⟩:=t3 f hf;exact Bx h1 h2
     ·obtain⟨as,r1⟩:=CA i hi;obtain⟨bs,r2⟩:=CA j hj;exact L3 (s:={ s with heap:=h' }) (n:=7) (by have:=dpz i (by lia); lia) (AI i (by lia)) (AI j (by lia)) (X4 i (by lia)) (X4 j (by lia)) r1 r2 (by rw [hA2]; lia) hC
 ·exact q.elim
end
end K2
end
section
namespace L2
open PySem PySem.Spec PyProof.Rows
section
variable {prog:bI} {w:World} {A:dI} {E:Value->az->Prop} {s:az}
theorem Io{d:Addr}{od:Obj}{es:Array fE}{c:Nat}{Q:Value->az->Prop}(ns:(d == da)=false)(DZ:s.heap.get? d=some od)(ex:od.ExactDict)(dd:od.data=.dict es c)
  (hQ:Q (.ref s.heap.objs.size) { s with heap:=s.heap.push { cls:=.type "dict_keyiterator",data:=.fields #[.ref d,.int 0 0,.int es.size 0,.int c 0] } }):wpAny (model prog w) A (Ea (.ref d)) Q E s:=by
 have ty:s.TypeIs (.ref d) "dict":=⟨od,DZ,ex.1⟩;refine nW ty F.slot_dict_iter (cX F.slot_dict_iter ty F.entry_dict_iter ?_ (F.args_dict_iter_1 _));unfold Builtin.«dict.__iter__» Builtin.Dict.dictSlotNone;refine ag (ag (xY ty (show wpAny _ _ (pure (fV d)) _ _ s from aA ?_)));show wpAny _ _ (kU d >>= _) _ _ s;unfold kU;rw [if_neg (fun z=>by rw [ns] at z; cases z)];refine ag (aA (ag (gN DZ dd (ag (mI DZ dd ?_)))));refine ag (cZ (aA ⟨_,rfl,"dict_keyiterator",_,⟨_,bh _ rfl,rfl⟩,F.slot_dict_keyiterator_next.lookup,?_⟩));simpa [D9] using hQ
theorem L1{it d:Addr}{od:Obj}{es:Array fE}{i c:Nat}{Q:Option Value->az->Prop}(ki:s.heap.IsKeyIter it d i es.size c)(DZ:s.heap.get? d=some od)(dd:od.data=.dict es c)(hi:i < es.size)
  (hQ:∀ h',h'.IsKeyIter it d (i+1) es.size c->fL it s.heap h'->Q (some es[i].key) { s with heap:=h' }):wpAny (model prog w) A (wy (.ref it)) Q E s:=by
 obtain⟨o,ho,hc,hf⟩:=id ki;unfold wy;refine ag (D8 (jg (name:=vr "__next__") ki.typeIs jG (cX jG ki.typeIs Hu ?_ (GN _))));refine ag (aA (ag (ag ?_)))
 first | refine ag (jw ki.typeIs (aA ?_)) | refine ag (lW ki.typeIs (aA ?_))
 refine ag (oz ho hf ?_);have UB:fy "dict_keyiterator" = false:=by decide
 rw [UB];show wpAny _ _ (if (fV d == gn)=true then _ else _) _ _ s;rw [if_neg (fun z=>by cases z)];refine ag (aA (ag (gN DZ dd ?_)));rw [if_neg (by simp)];refine ag (aA (ag (mI DZ dd ?_)));rw [if_neg (by simp)];refine aA ?_;dsimp only;rw [if_neg (show ¬ ((i:Int) < 0) from Int.not_lt.mpr (qg i)),cV,Hx hi];dsimp only;refine ag ?_
 first | refine ag (jw ki.typeIs (aA ?_)) | refine ag (lW ki.typeIs (aA ?_))
 refine ag (wpAny_isOneOf_keyiter ki.typeIs ?_);show wpAny _ _ (setField (.ref it) 1 (D9 ((i:Int)+1)) >>= _) _ _ s;refine ag (QM ho hf (by simp) ?_);have ki2:(s.heap.update it (Obj.mapFields (·.setIfInBounds 1 (D9 ((i:Int)+1))))).IsKeyIter it d (i+1) es.size c :=
  ⟨_,jE _ ho (Obj.isFreed_of_fields (Obj.data_mapFields hf _)),(Obj.cls_mapFields ..).trans hc,by rw [Obj.data_mapFields hf]; simp [D9]⟩
 refine ag (eu (ag (wpAny_isOneOf_keyiter (s:={ s with heap:=s.heap.update it (Obj.mapFields (·.setIfInBounds 1 (D9 ((i:Int)+1)))) }) ki2.typeIs ?_)));show wpAny _ _ (pure es[i].key) _ _ _;exact aA (aA ⟨_,rfl,aA (hQ _ ki2 (jF ..))⟩)
theorem OR{it d:Addr}{od:Obj}{es:Array fE}{i c:Nat}{Q:Option Value->az->Prop}(calm:A.handled=none)(ki:s.heap.IsKeyIter it d i es.size c)(DZ:s.heap.get? d=some od)(dd:od.data=.dict es c)(hi:es.size<=i)
  (hQ:∀ h',Heap.ExtBut it s.heap h'->Q none { s with heap:=h' }):wpAny (model prog w) A (wy (.ref it)) Q E s:=by
 obtain⟨o,ho,hc,hf⟩:=id ki;unfold wy;refine ag (D8 (jg (name:=vr "__next__") ki.typeIs jG (cX jG ki.typeIs Hu ?_ (GN _))));refine ag (aA (ag (ag ?_)))
 first | refine ag (jw ki.typeIs (aA ?_)) | refine ag (lW ki.typeIs (aA ?_))
 refine ag (oz ho hf ?_);have UB:fy "dict_keyiterator" = false:=by decide
 rw [UB];show wpAny _ _ (if (fV d == gn)=true then _ else _) _ _ s;rw [if_neg (fun z=>by cases z)];refine ag (aA (ag (gN DZ dd ?_)));rw [if_neg (by simp)];refine ag (aA (ag (mI DZ dd ?_)));rw [if_neg (by simp)];refine aA ?_;dsimp only;rw [if_neg (show ¬ ((i:Int) < 0) from Int.not_lt.mpr (qg i)),cV,MU hi];dsimp only;refine ag ?_
 first | refine ag (jw ki.typeIs (aA ?_)) | refine ag (lW ki.typeIs (aA ?_))
 show wpAny _ _ (setField (.ref it) 0 .none >>= _) _ _ s;refine ag (QM ho hf (by simp) ?_);show wpAny _ _ (newExc (.type "StopIteration") [] >>= _) _ _ _;refine ag ?_;simp only [newExc,newTuple];refine ag (cZ (ag (m:=A5 _ _) (wpAny_of_eq (a:=gn) (by first | rfl | (simp only [A5]; rfl)) (cZ ?_ (by size_fits)))) (by size_fits));simp only [raiseNew];refine ag (wpAny_handled ?_);rw [show A.in1.handled=none from calm];refine ag (aA (wpAny_throw ?_));refine ag (oT (T:="StopIteration") (b:=true) ⟨_,bh _ rfl,rfl⟩ isSubtype_stop (?_));exact aA (hQ _ (((jF ..).extBut.push _).push _))
end
noncomputable def Itk(a:Addr)(o:Obj)(es:Array fE)(ks:List V):It :=
 ⟨fun i H=>(∃ u,H a=some (.ja o u))/\i < es.size,fun i H v H'=>H'=H/\ks[i]?=some v,fun i H=>(∃ u,H a=some (.ja o u))/\es.size<=i⟩
theorem Li{P:bI}{w:World}{K:au}{tg:Expr}(a it:Addr)(o:Obj)(es:Array fE)(c:Nat)(ks:List V)(dd:o.data=.dict es c)(hk:∀ i (h:i < es.size),∃ v,ks[i]?=some v/\RelV v es[i].key) :
  Turn P w K tg (Itk a o es ks) [it] it (fun i h=>h.IsKeyIter it a i es.size c) where
 mem:=by simp
 obj:=fun i h st b hb=>by
  have e:b=it:=by simpa using hb
  subst e;obtain⟨o',q,_,d⟩:=st;exact⟨o',q,fun v z=>by rw [d] at z; cases z⟩
 keep:=(by rintro i h h' ⟨o',q,r⟩ k; exact⟨o',k it (by simp) o' q,r⟩)
 item:=by
  intro X hP hw hK hc i pins s σ H E I hf st hg;subst hP hw hK;obtain⟨⟨u,hu⟩,hi⟩:=hg;obtain⟨f0,f1,f2,f3,f4,f5⟩:=hf it (by simp);obtain⟨v,hv,rv⟩:=hk i hi;refine L1 st (I.cn a _ hu).1 dd hi fun h' AD sb=>?_;have I1:Inv X pins σ H { s with heap:=h' }:=I.turned (t':=s.toks) (fun b o hb e=>(sb.2 b hb).trans e) f0 f1 f3 f4 f5;obtain⟨o',e,cl,d'⟩:=id AD;exact⟨_,rfl,Ku (s:={ s with heap:=h' }) e cl d' (by decide) ⟨v,H,I1,rv,⟨rfl,hv⟩,AD,fun b hb=>(hf b hb).1⟩⟩
 done:=by
  intro X hP hw hK hc i pins s σ H E I hf st hg;subst hP hw hK;obtain⟨⟨u,hu⟩,hi⟩:=hg;obtain⟨f0,f1,f2,f3,f4,f5⟩:=hf it (by simp);exact OR (I.ok.hd hc) st (I.cn a _ hu).1 dd hi fun h' eb=>⟨rfl,I.turned (t':=s.toks) (fun b o hb e=>eb b o hb e) f0 f1 f3 f4 f5⟩
 self:=fun A i s Q E st h=>by
  refine nW st.typeIs JG (cX JG st.typeIs F.entry_dict_keyiterator_iter ?_ (F.args_dict_keyiterator_iter_1 _));show wpAny _ _ (ret (.ref it)) _ _ s;exact aA ⟨_,rfl,"dict_keyiterator",_,st.typeIs,F.slot_dict_keyiterator_next.lookup,h⟩
end L2
namespace K2
open PySem PySem.Spec PyProof.Rows L2
section
variable {X:Cx} {tg a:Expr} {ta:gJ} {pos p:Pos}
theorem vQ{α β:Type}{F:α->β->Prop}:∀ {l:List α} {m:List β},kH F l m->∀ i (h1:i < l.length) (h2:i < m.length),F l[i] m[i]:=by
 intro l m h;induction h with
 | nil=>intro i h1; exact absurd h1 (oV i)
 | cons h t ih =>
  intro i h1 h2;cases i with
  | zero=>exact h
  | succ i=>exact ih i (tU h1) (tU h2)
theorem OY{P:bI}{w:World}{k:Key}{u:Value}(h:(cC P w).is k u=true):RelV (kV k) u:=by
 rcases eX h with ⟨i,t,rfl,rfl⟩ | ⟨x,t,rfl,rfl⟩
 ·exact⟨t,rfl⟩
 ·exact⟨t,rfl⟩
theorem lN.keys{K:au}{H:Hp}:∀ {kv:List (Key×V)} {kvs:List (D×D)},lN K H kv kvs->kvs.map (·.1)=kv.map fun p=>eC p.1:=fun h =>
 lN.ind (motive:=fun kv kvs _=>kvs.map (·.1)=kv.map fun p=>eC p.1) rfl (fun _ _ ih=>congrArg (_ :: ·) ih) h
theorem my.keys{K:au}{H:Hp}:∀ {kv:List (List Key×V)} {kvs:List (D×D)},my K H kv kvs->kvs.map (·.1)=kv.map fun p=>D.tup (p.1.map eC):=fun h =>
 my.ind (motive:=fun kv kvs _=>kvs.map (·.1)=kv.map fun p=>D.tup (p.1.map eC)) rfl (fun _ _ ih=>congrArg (_ :: ·) ih) h
theorem EE{K:au}{H:Hp}(k:Key):bX K H (kV k) (eC k):=by
 cases k with
 | inl i=>exact .int i
 | inr x=>exact .str x
theorem vG{K:au}{H:Hp}:∀ (ks:List Key),bg K H (ks.map kV) (ks.map eC)
 | []=>.nil
 | k :: ks=>.cons (EE k) (vG ks)
theorem yM(ha:gu X a ta):MF X tg a (uO ta):=by
 intro E pins s σ H τ G R hE I h;refine j6 ha hE I h fun x H1 d G1 v s1 I1 m1 r1 jK q1=>?_;unfold CZ at q1;have go:∀ (l:Addr) (o:Obj) (u:HO) (kvs:List (D×D)) (es:Array fE) (c:Nat) (ks:List V),(l == da)=false->H1 l=some (.ja o u)->o.ExactDict->o.data=.dict es c->(∀ i (h:i < es.size),∃ v,ks[i]?=some v/\RelV v es[i].key)->ks.length=es.size ->
   bg X.K H1 ks (kvs.map (·.1))->R (kvs.map (·.1)) (fun _=>True) G1->wpAny (model X.prog X.w) X.A (Ea (.ref l)) (Ji X pins σ tg H G R) X.xe s1:=by
  intro l o u kvs es c ks ns hl ex dd hk hlen rs q;refine Io ns (I1.inv.cn l _ hl).1 ex dd ?_;refine⟨s1.heap.objs.size,[s1.heap.objs.size],_,_,H1,G1,kvs.map (·.1),_,rfl,I1.inv.kept (t':=s1.toks) fun b o e=>aH _ e,m1,Li l _ o es c ks dd hk,⟨_,bh _ rfl,rfl,rfl⟩,fun b hb=>?_,fun i H2 G2 k ab _=>?_,q⟩
  ·have e:b=s1.heap.objs.size:=by simpa using hb
   subst e;exact I1.inv.AO (aC _) (I1.inv.cn.fresh (aC _))
  ·have tj:=k.ja _ _ _ hl;have GQ:=rs.mono k;refine⟨fun d hd=>?_,fun hle=>⟨⟨u,tj⟩,by rw [<-hlen,rs.length]; exact hle⟩⟩;obtain⟨v,hv,r⟩:=GQ.get hd;have hi:i < es.size:=by rw [<-hlen]; exact(List.getElem?_eq_some_iff.mp hv).1
   refine⟨⟨⟨u,tj⟩,hi⟩,?_⟩;rintro x H3 ⟨e,y⟩;subst e;rw [hv] at y;cases y;exact⟨r,.refl ab⟩
 cases jK with
 | oj hq rs =>
  rename_i l o kv kvs;cases r1;obtain⟨z,ns,vs,rel,ob,es,ep,ho,ex,dd,hko,hp,nd⟩:=(I1.inv.cn l _ hq).2;have eo:ob=o:=by have:=(I1.inv.cn l _ hq).1; rw [ho] at this; exact a8 this
  subst eo;have l1:es.size=vs.length:=by simpa using hp.length
  have l2:kv.length=vs.length:=iI rel;refine go l ob _ kvs es ep (kv.map fun p=>kV p.1) ns hq ex dd (fun i hi=>?_) (by rw [ak]; lia) ?_ q1
  ·have i2:i < vs.length:=by lia
   have i3:i < kv.length:=by lia
   have g1:=(hp.get? (e:=es[i]) (k:=vs[i].1) (v:=vs[i].2) (by rw [ai (by simpa using hi)]; simp) (by rw [ai i2])).1;refine⟨kV kv[i].1,by simp [i3],?_⟩;have ek:kv[i].1=vs[i].1:=(vQ rel i i3 i2).1;rw [ek];exact OY g1
  ·rw [rs.keys];have:∀ (l:List (Key×V)),bg X.K H1 (l.map fun p=>kV p.1) (l.map fun p=>eC p.1):=by
    intro l;induction l with
    | nil=>exact .nil
    | cons p l ih=>exact .cons (EE p.1) ih
   exact this kv
 | oi hq rs =>
  rename_i l o kv kvs;cases r1;obtain⟨z,ns,xs,rel,ob,es,ep,ho,ex,dd,hl,nd⟩:=(I1.inv.cn l _ hq).2;have eo:ob=o:=by have:=(I1.inv.cn l _ hq).1; rw [ho] at this; exact a8 this
  subst eo;have l1:=congrArg dO hl;rw [ak,fA] at l1;refine go l ob _ kvs es ep (xs.map fun q=>V.ref q.2.1) ns hq ex dd (fun i hi=>?_) (by rw [ak]; lia) ?_ q1
  ·have i2:i < xs.length:=by lia
   refine⟨.ref xs[i].2.1,by simp [i2],?_⟩;have:es[i]=entryOfKey (iP (cC X.prog X.w)) xs[i]:=by
    have:=congrArg (fun l=>l[i]?) hl;simp only [bq,ai i2] at this;simpa [hi] using this
   rw [this];rfl
  ·rw [rs.keys];have:∀ (kv:List (List Key×V)) (xs:List (List Key×Addr×Value)),kH (fun (p:List Key×V) (q:List Key×Addr×Value)=>p.1=q.1/\H1 q.2.1=some (.tup (p.1.map kV))/\RelV p.2 q.2.2) kv xs->bg X.K H1 (xs.map fun q=>V.ref q.2.1) (kv.map fun p=>D.tup (p.1.map eC)):=by
    intro kv xs r;induction r with
    | nil=>exact .nil
    | cons h _ ih=>exact .cons (.tup h.2.1 (vG _)) ih
   exact this kv xs rel
 | _=>exact q1.elim
end
end K2
end
section
namespace L2
open PySem PySem.Spec PyProof.Rows
section
variable {X:Cx}
noncomputable def Qt(i j:Int):Prop:=i.natAbs < 2 ^ 4000/\j.natAbs < 2 ^ 4000
theorem Qt.ok{i j:Int}(h:Qt i j):IntMulOk i j:=by
 have h1:=intBits_le h.1;have h2:=intBits_le h.2;unfold IntMulOk;intro z;rw [aJ] at z;have z2:((Hv i+Hv j:Nat):Int) > (bitsLine:Int):=of_decide_eq_true z.2;have hb:8000<=bitsLine:=by decide
 lia
theorem RE:MH X (jh .Mult) (rI Qt fun i j=>.int (i * j)):=X0 fun _ _ _ _ _ _ _ hc q=>mul_int q hc.ok
end
end L2
namespace K2
open PySem PySem.Spec PyProof.Rows L2
section
variable {X:Cx}
theorem EY:pH X (jh .Mult) JZ:=by
 intro pins s σ H G x y dx dy v u Q I ab rx ry dX dY q;cases dX with
 | int i =>
  cases dY with
  | int j=>exact hU (RE pins s σ H _ _ v u (B9 X.K H G Q) I rx ry ⟨i,j,rfl,rfl,q.1,_,_,.refl ab,.int _,q.2⟩) fun _ _ z=>.of z
  | _=>exact bN q
 | _=>exact bN q
theorem v8{pins:List (Addr×Obj)}{σ:L2.St}{H:Hp}{s:az}{G:Gp}{x:V}{d:D}{kvs:List (D×D)}(I:Inv X pins σ H s)(ab:lE X.K H G)(rd:bX X.K H x d)(hd:uY d G=some kvs)(h1:uJ kvs=true) :
  ∃ a kv vs,x=.ref a/\lN X.K H kv kvs/\kv.length<=aZ/\(a == da)=false/\KV kv vs/\s.heap.DictOf (cC X.prog X.w) a vs:=by
 have empty:∀ (a:Addr) (kv:List (List Key×V)),fH X.prog X.w H s.heap a (.dT kv)->my X.K H kv kvs ->
   ∃ a' kv vs,V.ref a=.ref a'/\lN X.K H kv kvs/\kv.length<=aZ/\(a' == da)=false/\KV kv vs/\s.heap.DictOf (cC X.prog X.w) a' vs:=by
  intro a kv ok rs;cases rs with
  | nil =>
   obtain⟨z,hm,xs,rel,o,es,ep,ho,hx,Av,hl,nd⟩:=ok;have hv:xs=[]:=by cases rel; rfl
   subst hv;have he:es=#[]:=by simpa using hl
   subst he;exact⟨a,[],[],rfl,.nil,cw _,hm,.nil,o,#[],ep,ho,hx,Av,(fun _ h=>by simp at h),.nil,cf⟩
  | cons _ _=>simp [uJ,dE] at h1
 cases rd with
 | oj hq rs =>
  cases (show some _=some kvs from hd);obtain⟨z,hm,vs,rel,dd⟩:=sJ I.cn (.inr ⟨_,hq⟩);exact⟨_,_,vs,rfl,rs,z,hm,rel,dd⟩
 | oi hq rs =>
  cases (show some _=some kvs from hd);exact empty _ _ (I.cn _ _ hq).2 rs
 | ref a =>
  unfold uY at hd;dsimp only at hd;split at hd
  ·rename_i kv' hg;cases hd;rcases ab a _ hg with ⟨kv,hv,rs⟩ | ⟨kv,hv,rs⟩
   ·obtain⟨z,hm,vs,rel,dd⟩:=BW I.cn hv;exact⟨a,kv,vs,rfl,rs,z,hm,rel,dd⟩
   ·exact empty a _ (I.cn _ _ hv) rs
  ·cases hd
 | _=>cases hd
theorem Ja:rg X (.type "dict") KU:=by
 intro pins s σ H G xs ds us Q I ab rx rd q;unfold KU at q;split at q
 ·rename_i x;obtain⟨kvs,hd,h1,hl,q⟩:=q;obtain⟨v,rfl,r⟩:=rd.one;obtain⟨a,kv,vs,rfl,rs,z,hm,rel,dd⟩:=v8 I ab r hd h1;obtain⟨u,rfl,ru⟩:=rx.one;cases ru;refine kt_call_dict hm dd (by rw [<-rel.length]; exact z) fun h' BZ hs=>?_;have hp:H s.heap.objs.size=none:=I.cn.fresh (aC _);refine⟨.ref _,upd H s.heap.objs.size (.dK kv),.ref _,_,I.laid (a:=s.heap.objs.size) (o:=.dK kv) (t':=s.toks) (fun b q hq=>?_) (aC _) (Dl z (beq_eq_false_iff_ne.mpr (e7 (bB I.big))) rel BZ),.new ab hp (.dk bU (rs.mono (.new hp))),rfl,.ref _,q _ (ab.free hp)⟩;exact(hs.2 b (bB (aS hq))).trans (aH _ hq)
 ·exact q.elim
theorem Kf:Jo X "dict.get" LO:=by
 intro pins s σ H G x d xs ds v us Q I ab rx rd MY CA q;unfold LO at q;split at q
 ·rename_i k d';obtain⟨kvs,hd,h1,hk,q⟩:=q;obtain⟨w,w2,rfl,Ew,Q9⟩:=CA.two;obtain⟨u1,u2,rfl,Lx,NQ⟩:=vals2 MY;obtain⟨a,kv,vs,rfl,rs,z,hm,rel,dd⟩:=v8 I ab rd hd h1;cases rx;obtain⟨kk,rfl⟩:=uK hk;have ey:=uc Ew;subst ey;refine yf gO dd.typeIs Jy (Ho _ _ _) (meets_dict_get_default (cC X.prog X.w) a (zi Lx) hm u2) ⟨_,dd.mapOf,?_⟩;have ro:=(rel.val kk).getD NQ;rcases rs.look kk with ⟨v',d2,e1,e2,r⟩ | ⟨e1,e2⟩
  ·rw [e1] at ro;rw [e2] at q;exact⟨v',H,d2,G,I.tok _,.refl ab,ro,r,q⟩
  ·rw [e1] at ro;rw [e2] at q;exact⟨w2,H,d',G,I.tok _,.refl ab,ro,Q9,q⟩
 ·exact q.elim
end
end K2
end
section
namespace L2
open PySem PySem.Spec PyProof.Rows
noncomputable def Iti(a:Addr)(o:Obj)(kv:List (Key×V)):It :=
 ⟨fun i H=>(∃ u,H a=some (.ja o u))/\i < kv.length,fun i H v H'=>∃ T p,v=.ref T/\H T=none/\H'=upd H T (.tup [kV p.1,p.2])/\kv[i]?=some p,fun i H=>(∃ u,H a=some (.ja o u))/\kv.length<=i⟩
theorem yO{α β:Type}{F:α->β->Prop}:∀ {l:List α} {m:List β},kH F l m->∀ i (h1:i < l.length) (h2:i < m.length),F l[i] m[i]
 | _,_,.cons h _,0,_,_=>h
 | _,_,.cons _ t,i+1,h1,h2=>yO t i (by simpa using h1) (by simpa using h2)
theorem L6{P:bI}{w:World}{k:Key}{u:Value}(h:(cC P w).is k u=true):RelV (kV k) u:=by
 rcases eX h with ⟨i,t,rfl,rfl⟩ | ⟨x,t,rfl,rfl⟩
 ·exact⟨t,rfl⟩
 ·exact⟨t,rfl⟩
theorem lZ:entryFor table "dict_itemiterator.__iter__" = some Builtin.«dict_keyiterator.__iter__» :=
 entryFor_alias (id':="dict_keyiterator.__iter__") (by rw [fastTable_eq_tree]; kernel_rfl) (by decide +kernel) (by decide +kernel) (by rw [fastTable_eq_tree]; kernel_rfl)
theorem HB{P:bI}{w:World}{K:au}{elts:List Expr}{kk:Nat}{pos:Pos}(a it:Addr)(o:Obj)(kv:List (Key×V))(vs:List (Key×Value))(ep:Nat)(rel:KV kv vs)(hD:∀ h:Heap,h.get? a=some o->h.DictAt (cC P w) a vs ep) :
  Turn P w K (.Tuple elts kk pos) (Iti a o kv) [it] it (fun i h=>∃ ok ov,og h it a i vs.length ep ok ov) where
 mem:=by simp
 obj:=fun i h ⟨ok,ov,st⟩ b hb=>by
  have e:b=it:=by simpa using hb
  subst e;exact⟨_,st,fun v z=>by cases z⟩
 keep:=fun i h h' ⟨ok,ov,st⟩ k=>⟨ok,ov,k it (by simp) _ st⟩
 item:=by
  intro X hP hw hK hc i pins s σ H E I hf st hg;obtain⟨ok,ov,st⟩:=st;subst hP hw hK;obtain⟨⟨u,hu⟩,hi⟩:=hg;have hl:=rel.length;have D1:i < vs.length:=by lia
  have hx:vs[i]?=some (vs[i].1,vs[i].2):=ai D1;have rp:=yO rel i hi D1;have Vb:H s.heap.objs.size=none:=I.cn.fresh (aC _);have W6:it≠s.heap.objs.size:=bB (aS st);refine wpAny_pyNext_items_item st (hD _ (I.cn a _ hu).1) hx fun key h' hk ho hT hsz kk=>?_;refine⟨_,rfl,?_⟩;have rk:RelV (kV kv[i].1) key:=by rw [rp.1]; exact L6 hk
  have I1:Inv X pins σ (upd H s.heap.objs.size (.tup [kV kv[i].1,kv[i].2])) { s with heap:=h',toks:=s.toks } :=
   I.xC (fp:=[it]) hf (fun b o hb q=>kk b o (fun z=>hb (by simp [z])) q) (aC _)
    ⟨by show 2<=aZ; decide,[key,vs[i].2],.cons rk (.cons rp.2 .nil),⟨_,hT,rfl,_,rfl⟩⟩
  refine M8 (s:={ s with heap:=h' }) ho fun h2 U4 FF=>?_;have f1:∀ b∈[it],nC X pins (upd H s.heap.objs.size (.tup [kV kv[i].1,kv[i].2])) b:=fun b hb=>(hf b hb).upd (by rw [List.mem_singleton.mp hb]; exact W6);have I2:Inv X pins σ (upd H s.heap.objs.size (.tup [kV kv[i].1,kv[i].2])) { s with heap:=h2,toks:=s.toks } :=
   Inv.rh (s:={ s with heap:=h',toks:=s.toks }) (t':=s.toks) (fp:=[it]) I1 f1 fun b o hb q=>(FF.2 b (fun z=>hb (by simp [z]))).trans q
  exact⟨.ref s.heap.objs.size,_,I2,rfl,⟨_,kv[i],rfl,Vb,rfl,ai hi⟩,⟨_,_,U4⟩,fun b hb=>(f1 b hb).1⟩
 done:=by
  intro X hP hw hK hc i pins s σ H E I hf st hg;obtain⟨ok,ov,st⟩:=st;subst hP hw hK;obtain⟨⟨u,hu⟩,hi⟩:=hg;have hl:=rel.length;obtain⟨f0,f1,f2,f3,f4,f5⟩:=hf it (by simp);exact wpAny_pyNext_items_end (I.ok.hd hc) st (hD _ (I.cn a _ hu).1) (vh (by lia)) fun h' eb=>⟨rfl,I.turned (t':=s.toks) (fun b o hb e=>eb b o hb e) f0 f1 f3 f4 f5⟩
 self:=fun A i s Q E ⟨ok,ov,st⟩ h=>by
  have ty:s.TypeIs (.ref it) "dict_itemiterator":=⟨_,st,rfl⟩;refine nW ty jk (cX jk ty lZ ?_ (Ef _));show wpAny _ _ (ret (.ref it)) _ _ s;exact aA ⟨_,rfl,"dict_itemiterator",_,ty,F.slot_dict_itemiterator_next.lookup,h⟩
end L2
namespace K2
open PySem PySem.Spec PyProof.Rows L2
section
variable {X:Cx}
theorem Ul{pins:List (Addr×Obj)}{σ:L2.St}{H:Hp}{s:az}{x:V}{kvs:List (D×D)}(I:Inv X pins σ H s)(rd:bX X.K H x (.j8 kvs))(h1:uJ kvs=true) :
  ∃ a ob u kv vs ep,x=.ref a/\H a=some (.ja ob u)/\lN X.K H kv kvs/\(a == da)=false/\KV kv vs/\∀ h:Heap,h.get? a=some ob->h.DictAt (cC X.prog X.w) a vs ep:=by
 cases rd with
 | oj hq rs =>
  rename_i a o kv;obtain⟨z,hm,vs,rel,ob,es,ep,ho,r⟩:=(I.cn a _ hq).2;have eo:ob=o:=by have:=(I.cn a _ hq).1; rw [ho] at this; exact a8 this
  subst eo;exact⟨a,ob,_,kv,vs,ep,rfl,hq,rs,hm,rel,fun h e=>⟨ob,es,e,r⟩⟩
 | oi hq rs =>
  rename_i a o kv;cases rs with
  | nil =>
   obtain⟨z,hm,xs,rel,ob,es,ep,ho,hx,Av,hl,nd⟩:=(I.cn a _ hq).2;have eo:ob=o:=by have:=(I.cn a _ hq).1; rw [ho] at this; exact a8 this
   subst eo;have hv:xs=[]:=by cases rel; rfl
   subst hv;have he:es=#[]:=by simpa using hl
   subst he;exact⟨a,ob,_,[],[],ep,rfl,hq,.nil,hm,.nil,fun h e=>⟨ob,#[],e,hx,Av,(fun _ h=>by simp at h),.nil,cf⟩⟩
  | cons _ _=>simp [uJ,dE] at h1
theorem lN.item{K:au}{H:Hp}:∀ {kv:List (Key×V)} {kvs:List (D×D)} {i:Nat} {q:D×D},lN K H kv kvs->kvs[i]?=some q->∃ p,kv[i]?=some p/\q.1=eC p.1/\bX K H p.2 q.2
 | _,_,_,_,.nil,e=>by simp at e
 | _,_,0,_,.cons r _,e=>by simp at e; subst e; exact⟨_,rfl,rfl,r⟩
 | _,_,i+1,q,.cons _ t,e=>by
  obtain⟨p,h1,h2⟩:=lN.item (i:=i) (q:=q) t (by simpa using e);exact⟨p,by simpa using h1,h2⟩
variable {elts:List Expr} {kk:Nat} {AB apos pC:Pos} {o:Expr} {to:gJ}
theorem Lz{K:au}{H:Hp}(k:Key):bX K H (kV k) (eC k):=by
 cases k with
 | inl i=>exact .int i
 | inr x=>exact .str x
theorem oI (ho:gu X o to) (zq:autoParam (Eb o "items" X.env (eval o X.env)=eval o X.env) Ar._auto_1) (zo:autoParam ((apos.endLine == pC.line)=true) Ar._auto_1) :
  MF X (.Tuple elts kk AB) (.Call (.Attribute o "items" apos) [] [] pC) (lR to):=by
 intro E pins s σ H τ G R hE I h;refine vp zq zo (j6 ho hE I h fun x H1 d G1 v s1 I1 m1 r1 jK q1=>?_);cases d with
 | j8 kvs =>
  obtain⟨h1,q1⟩:=q1;obtain⟨t1,t2⟩:=oC pins s1 σ H1 G1 x _ v I1.inv I1.ab r1 jK trivial;obtain⟨a,ob,u,kv,vs,ep,rfl,hu,rs,hm,rel,hD⟩:=Ul I1.inv jK h1;cases r1;refine⟨"dict","dict.items",df,fW,qr,t1,t2,lX rfl (xi ?_)⟩;have dA:=hD _ (I1.inv.cn a _ hu).1;refine yf fW t1 pX (oU _) (meets_dict_items (cC X.prog X.w) a hm) ⟨⟨vs,dA.dictOf⟩,?_⟩;have I2:Inv X pins σ H1 { s1 with heap:=s1.heap.push { cls:=.type "dict_items",data:=.fields #[.ref a] } }:=I1.inv.kept (t':=s1.toks) fun b o e=>aH _ e;refine wpAny_pyIter_items (s:={ s1 with heap:=s1.heap.push { cls:=.type "dict_items",data:=.fields #[.ref a] } }) (kvs:=vs) (ep:=ep) ⟨_,bh _ rfl,rfl,rfl⟩ (dA.push _) ?_;refine⟨_,[_],_,_,H1,G1,kvs.map (fun p=>.tup [p.1,p.2]),_,rfl,I2.kept (t':=s1.toks) fun b o e=>aH _ e,m1,HB a _ ob kv vs ep rel hD,⟨.none,.none,bh _ rfl⟩,fun b hb=>?_,fun i H2 G2 k ab _=>?_,q1⟩
  ·have e:=List.mem_singleton.mp hb;subst e;exact I2.AO (aC _) (I2.cn.fresh (aC _))
  ·have tj:=k.ja _ _ _ hu;have GQ:=rs.mono k;have hlen:kv.length=kvs.length:=rs.length;refine⟨fun d hd=>?_,fun hle=>⟨⟨u,tj⟩,by rw [hlen]; simpa using hle⟩⟩;rw [bq] at hd;cases GW:kvs[i]? with
   | none=>rw [GW] at hd; cases hd
   | some q =>
    rw [GW] at hd;obtain⟨p,hp,ek,rp⟩:=GQ.item GW;have hi:i < kv.length:=(List.getElem?_eq_some_iff.mp hp).1;refine⟨⟨⟨u,tj⟩,hi⟩,fun x H3 ⟨T,p',ex,hT,e3,hy⟩=>?_⟩;subst ex e3;rw [hp] at hy;cases hy;have ed:D.tup [q.1,q.2]=d:=by simpa using hd
    subst ed;rw [ek];exact⟨.tup bU (.cons (Lz _) (.cons (rp.mono (.new hT)) .nil)),.Mf ab hT⟩
 | _=>exact q1.elim
end
end K2
end
section
namespace K2
open PySem PySem.Spec PyProof.Rows L2
section
variable {X:Cx}
theorem qR{K:au}{H:Hp}:∀ {kv:List (Key×V)} {l:List (Int×Int)},lN K H kv (bz l)->kv=l.map fun p=>((.inl p.1:Key),V.int p.2)
 | _,[],h=>by cases h; rfl
 | _,p :: l,h=>by
  have h:lN K H _ ((D.int p.1,D.int p.2) :: bz l):=h;generalize e:(D.int p.1,D.int p.2) :: bz l=t at h;cases h with
  | nil=>cases e
  | cons r rs =>
   rename_i k v d r' t';injection e with e1 e2
   injection e1 with e3 e4
   subst e2 e4;cases r;rw [qR rs];cases k with
   | inl i=>cases e3; rfl
   | inr x=>cases e3
theorem uI:∀ {l:List (Int×Int)} {vs:List (Key×Value)},KV (l.map fun p=>((.inl p.1:Key),V.int p.2)) vs->∃ ts:List Tok,ts.length=l.length/\vs=(l.zip ts).map fun q=>((.inl q.1.1:Key),fi q.1.2 q.2)
 | [],_,.nil=>⟨[],rfl,rfl⟩
 | p :: l,_,.cons h r=>by
  obtain⟨ts,h1,h2⟩:=uI r;rename_i q vs;obtain⟨k,v⟩:=q;obtain⟨e1,t,e2⟩:=h;cases e1;cases e2;exact⟨t :: ts,by simp [h1],by rw [h2]; rfl⟩
theorem Cn{l:List (Int×Int)}{ts:List Tok}(h:ts.length=l.length)(k:Int):(cz l k=none/\nY ((l.zip ts).map fun q=>((.inl q.1.1:Key),fi q.1.2 q.2)) (.inl k)=none)\/∃ v t,cz l k=some v/\nY ((l.zip ts).map fun q=>((.inl q.1.1:Key),fi q.1.2 q.2)) (.inl k)=some (.int v t):=by
 induction l generalizing ts with
 | nil=>exact .inl ⟨rfl,rfl⟩
 | cons p l ih =>
  cases ts with
  | nil=>cases h
  | cons t ts =>
   have ih:=ih (ts:=ts) (by simpa using h);by_cases e:p.1=k
   ·refine .inr ⟨p.2,t,?_,?_⟩
    ·unfold cz; simp [e]
    ·unfold nY; simp [e]
   ·have e':¬ ((.inl p.1:Key)=.inl k):=fun z=>e (by injection z);have a1:cz (p :: l) k=cz l k:=by unfold cz; simp [e]
    have a2:nY (((p :: l).zip (t :: ts)).map fun q=>((.inl q.1.1:Key),fi q.1.2 q.2)) (.inl k)=nY ((l.zip ts).map fun q=>((.inl q.1.1:Key),fi q.1.2 q.2)) (.inl k):=by
     unfold nY; simp [e']
    rw [a1,a2]; exact ih
theorem vZ{A:dI}{s:az}{m:List (Int×Int)}{us:List Tok}(hm:us.length=m.length):∀ {l:List (Int×Int)} {ts:List Tok},ts.length=l.length ->
  PySem.W.KeqHits A s ((m.zip us).map fun q=>((.inl q.1.1:Key),fi q.1.2 q.2)) ((l.zip ts).map fun q=>((.inl q.1.1:Key),fi q.1.2 q.2)) (l.all fun p=>cz m p.1 == some p.2)
 | [],_,_=>.nil
 | p :: l,[],h=>by cases h
 | p :: l,t :: ts,h=>by
  have ih:=vZ (A:=A) (s:=s) hm (l:=l) (ts:=ts) (by simpa using h);rcases Cn hm p.1 with ⟨e1,e2⟩ | ⟨v,t',e1,e2⟩
  ·have:((p :: l).all fun p=>cz m p.1 == some p.2)=false:=by simp [e1]
   rw [this];exact .miss e2
  ·have eq:SeqAt.EqAt A s (fi p.2 t) (fi v t') (decide (p.2=v)):=by
    have:=PySem.W.keq_flat (A:=A) (s:=s) (v:=fi p.2 t) (y:=fi v t') (d:=.int p.2) (e:=.int v) (.int _ _) (.int _ _);have e2:SeqAt.EqAt A s (fi p.2 t) (fi v t') (p.2 == v):=by simpa [qf] using this
    exact e2
   have:((p :: l).all fun p=>cz m p.1 == some p.2)=(decide (p.2=v)&&l.all fun p=>cz m p.1 == some p.2):=by
    rw [lK,e1];congr 1;by_cases z:p.2=v
    ·simp [z]
    ·have:¬ v=p.2:=fun y=>z y.symm;simp [z,this]
   rw [this];exact .hit e2 eq ih
theorem RK(hu:X.A.units+64 < cLine):pH X (fb .Eq) (Us false):=by
 intro pins s σ H G x y dx dy v u Q I ab rx ry dX dY q;obtain⟨l,m,e1,e2,q⟩:=q;obtain⟨a,kv,vs,rfl,rs,z,hm,rel,dd⟩:=v8 I ab dX e1 (kQ l);obtain⟨b,kw,ws,rfl,GQ,z2,U1,NW,D3⟩:=v8 I ab dY e2 (kQ m);cases rx;cases ry;rw [qR rs] at rel;rw [qR GQ] at NW;obtain⟨ts,t1,rfl⟩:=uI rel;obtain⟨us,t2,rfl⟩:=uI NW;refine PySem.W.keq_eq hm U1 dd D3 (by lia) (fun _=>vZ t2 t1) ?_;refine⟨.bl _,H,.bl _,G,I,.refl ab,rfl,.bl _,?_⟩;have:((((l.zip ts).map fun q=>((.inl q.1.1:Key),fi q.1.2 q.2)).length == ((m.zip us).map fun q=>((.inl q.1.1:Key),fi q.1.2 q.2)).length)&&l.all fun p=>cz m p.1 == some p.2)=v7 l m:=by
  unfold v7; simp [t1,t2]
 rw [this]; exact q
theorem RH(hu:X.A.units+64 < cLine):pH X (fb .NotEq) (Us true):=by
 intro pins s σ H G x y dx dy v u Q I ab rx ry dX dY q;obtain⟨l,m,e1,e2,q⟩:=q;obtain⟨a,kv,vs,rfl,rs,z,hm,rel,dd⟩:=v8 I ab dX e1 (kQ l);obtain⟨b,kw,ws,rfl,GQ,z2,U1,NW,D3⟩:=v8 I ab dY e2 (kQ m);cases rx;cases ry;rw [qR rs] at rel;rw [qR GQ] at NW;obtain⟨ts,t1,rfl⟩:=uI rel;obtain⟨us,t2,rfl⟩:=uI NW;refine PySem.W.keq_ne hm U1 dd D3 (by lia) (fun _=>vZ t2 t1) ?_;refine⟨.bl _,H,.bl _,G,I,.refl ab,rfl,.bl _,?_⟩;have:((((l.zip ts).map fun q=>((.inl q.1.1:Key),fi q.1.2 q.2)).length == ((m.zip us).map fun q=>((.inl q.1.1:Key),fi q.1.2 q.2)).length)&&l.all fun p=>cz m p.1 == some p.2)=v7 l m:=by
  unfold v7; simp [t1,t2]
 rw [this]; exact q
theorem CK(hu:X.A.units+64 < cLine):pH X (fb .Eq) (qH false):=by
 intro pins s σ H G x y dx dy v u Q I ab rx ry dX dY q;rcases q with q | q
 ·exact o7 hu pins s σ H G x y dx dy v u Q I ab rx ry dX dY q
 ·exact RK hu pins s σ H G x y dx dy v u Q I ab rx ry dX dY q
theorem nO(hu:X.A.units+64 < cLine):pH X (fb .NotEq) (qH true):=by
 intro pins s σ H G x y dx dy v u Q I ab rx ry dX dY q;rcases q with q | q
 ·exact vS hu pins s σ H G x y dx dy v u Q I ab rx ry dX dY q
 ·exact RH hu pins s σ H G x y dx dy v u Q I ab rx ry dX dY q
variable {k v:Expr} {tk tv:gJ} {pos:Pos}
theorem Oq(hk:gu X k tk)(hv:gu X v tv):gu X (.Dict [some k] [v] pos) (KP tk tv):=by
 intro E pins s σ H τ G Q hE I h;have hn:=I.inv.cn.fresh (aC s.heap.objs.size);have I1:=I.inv.laid (a:=s.heap.objs.size) (o:=.dK []) (h':=s.heap.push { cls:=.type "dict",data:=.dict #[] }) (t':=s.toks) (fun _ _ q=>aH _ q) (aC _) (Gd s.heap I.inv.big);have mh:Mv X.K H G (upd H s.heap.objs.size (.dK [])) G:=.Mf I.ab hn;have I2:I2 X pins σ (upd H s.heap.objs.size (.dK [])) τ G { s with heap:=s.heap.push { cls:=.type "dict",data:=.dict #[] },toks:=s.toks }:=⟨I1,I.st.mono (.new hn),mh.ab⟩;refine wpAny_Dict_walk (knd:=cC X.prog X.w) (by rfl) (by rfl) (by simp) (show 1<=15 by decide) ?_;refine pairTrees_cons_walk (j6 hk hE I2 h fun x H1 dx G1 u s1 I3 m1 r1 jK q1=>?_);refine j6 hv hE I3 q1 fun y H2 dy G2 w s2 I4 m2 r2 yD q2=>?_;obtain⟨hk1,q2⟩:=q2;refine pairTrees_nil_walk ?_;obtain⟨kk,rfl⟩:=uK hk1;have ex:=uc jK;subst ex;have g0:G s.heap.objs.size=none:=I.ab.free hn;obtain⟨p1,p2⟩:=m1.keep _ _ (bU (H:=H) (a:=s.heap.objs.size) (o:=.dK [])) g0;obtain⟨p3,p4⟩:=m2.keep _ _ p1 p2;obtain⟨rs,c,rk⟩:=zM (P:=X.prog) (w:=X.w) (kvs:=[(kk,y)]) (ws:=[(u,w)]) (.cons ⟨r1,r2⟩ .nil);obtain⟨z,hd,vs0,r0,dd⟩:=BW I4.inv.cn p3;cases r0;refine⟨rs,c,dd,fun h' BZ hs=>?_⟩;have he:∃ q,h'.get? s.heap.objs.size=some q:=let ⟨q,_,_,hq,_⟩:=BZ; ⟨q,hq⟩
 have em:Ig [] [(kk,y)]=[(kk,y)]:=rfl;have kp:Kp H2 (upd H2 s.heap.objs.size (.dK [(kk,y)])):=.putD p3 (.inl ⟨_,rfl⟩);have I5:=rS (t':=s2.toks+[(u,w)].length) I4.inv (by rw [p3]; exact gq) hs he (Dl (kvs:=Ig [] [(kk,y)]) (by rw [em]; exact(show 1<=aZ by decide)) hd (rk.merge .nil) BZ);rw [em] at I5;have GS:=(mh.trans m1).trans m2;refine⟨.ref s.heap.objs.size,_,.ref s.heap.objs.size,_,I5,?_,rfl,.ref _,q2 _ p4⟩;refine⟨fun a o e n=>?_,fun a n=>?_,fun a g e=>?_⟩
 ·have ha:a≠s.heap.objs.size:=fun z=>by rw [z,hn] at e; cases e
  obtain⟨k1,k2⟩:=GS.keep a o e n;exact⟨by rw [bO ha]; exact k1,by rw [cu ha]; exact k2⟩
 ·by_cases ha:a=s.heap.objs.size
  ·subst ha; rw [bU]; simp
  ·rw [bO ha]; exact GS.mi a n
 ·by_cases ha:a=s.heap.objs.size
  ·subst ha;rw [ay] at e;cases e;exact .dk bU (.cons ((yD.mono kp)) .nil)
  ·rw [cu ha] at e;exact(GS.ab a g e).mono kp (bO ha)
end
section
variable {X:Cx} {e:Expr} {t:D4} {pos p:Pos} {x:Str} {k:Nat} {f:Addr} {fd:gm} {ps:List Str} {sp:jU}
theorem lN.plain{K:au}{H H2:Hp}:∀ {kv:List (Key×V)} {kvs:List (D×D)},lN K H kv kvs->(kvs.all fun p=>dE p.1&&mS p.2)=true->lN K H2 kv kvs
 | _,_,.nil,_=>.nil
 | _,_,.cons (d:=d) r rs,h=>by
  rw [lK,aJ,aJ] at h;refine .cons ?_ (lN.plain rs h.2);have hp:=h.1.2;cases r with
  | eQ=>exact .eQ
  | bl b=>exact .bl _
  | int i=>exact .int _
  | _=>exact absurd hp (by simp [mS])
end
noncomputable def kp1:HO->Bool
 | .tup _=>true
 | .ja _ (.lst _)=>true
 | .ja _ (.dK _)=>true
 | .ja _ (.dT _)=>true
 | .ja _ (.ext _)=>true
 | .ja _ (.xd _)=>true
 | _=>false
noncomputable def hr(H:Hp):Hp:=fun b=>(H b).bind fun o=>if kp1 o=true then some o else none
noncomputable def subIn(K:au)(C:Addr)(v:Value):Bool:=match K.lookup C with
 | some ⟨_,_,.cls cd,_⟩=>cd.mro.contains v
 | _=>false
section
variable {X:Cx} {e:Expr} {te:gJ} {pos:Pos}
theorem kO{i:Nat}{x:Str}{pos':Pos}(hN:X.N.Nodup)(hi:X.N[i]?=some x)(he:gu X e te)(hx:autoParam (Loc X.env.scope x) Ao._auto_1)(hs:autoParam (Na e (some (.Name x pos')) pos.line X.env=pure false) Ar._auto_1)(hf:autoParam (X.fn x=true\/X.env.scope.names.lookup x=some .local) Ao._auto_1) :
  Jh X (.Assign [.Name x pos'] e pos) (bE te (aG i)):=Ro hN hi hx he hs hf
theorem je{i:Nat}{x:Str}(hN:X.N.Nodup)(hi:X.N[i]?=some x)(hx:autoParam (Loc X.env.scope x) Ao._auto_1)(hf:autoParam (X.fn x=true\/X.env.scope.names.lookup x=some .local) Ao._auto_1):MG X (.Name x pos) (aG i):=Ol hN hi hx hf
theorem fo2{P:bI}{w:World}{K:au}{mg:Str->Option Value}{base:Heap}{x qual:Str}{st:Stmt}{f:Addr}{fd:gm}{Nn ps:List Str}{k:Nat}{sp:jU}{rd:hV}(F:SE K x qual st f fd)(S:nT Nn ps (bV st))
  (hr:∀ ds G Q,sp ds G Q (fun _ _=>False)->rd (fun _ _=>False) (ends Q) (ba Nn.length ds) G)
  (hb:∀ (mE:Value) (A:dI) (outer:List Env) (s:az) (H:Hp) (E:XK),lV k (A.deeper (A6 qual (bV st) s.heap.objs.size f mE))->xr (Ds Js P w K mg base Nn qual (bV st) f mE A outer s H E).UK (iK st) rd)
  (len:autoParam (∀ ds G Q E,sp ds G Q E->ds.length=ps.length) Al._auto_1):wu P w K mg base Js (k+1) f fd ps (AF K sp):=Kx F S len hr hb
theorem scm{N ps:List Str}{sc:Scope}(h1:autoParam (sc.kind=.function) Ar._auto_1)(h2:autoParam (sc.isCoroutine=false) Ar._auto_1)(h3:autoParam (sc.isGenerator=false) Ar._auto_1)(h4:autoParam N.Nodup Ak._auto_1)(h5:autoParam (N.take ps.length=ps) Ar._auto_1)
  (h6:autoParam (∀ x∈ps,sc.names.lookup x=some .local\/sc.names.lookup x=some .cell) Ak._auto_1) (h7:autoParam (∀ y∈sc.names,y.2≠.free) Ak._auto_1):nT N ps sc:=⟨h1,h2,h3,h4,h5,h6,h7⟩
end
section
variable {X:Cx} {a b c:Expr} {ta tb tc:gJ} {pos:Pos}
theorem xG {x:Str} {i:Int} {t:Tok} {p:Pos} (hg:Gl X x) (hm:X.mg x=some (.int i t)) (hd:autoParam ((x == ("__debug__" : Str))=false) Ad._auto_1):gu X (.Name x p) (dC (.int i)):=vO (Rw (v:=.int i) hg hm ⟨t,rfl⟩ hd) fun _ _=>.int i
end
end K2
end
section
namespace L2
open PySem PySem.Spec PyProof.Rows
section
variable {prog:bI} {w:World} {A:dI} {E:Value->az->Prop} {s:az}
theorem Iq{it d:Addr}{od:Obj}{es:Array fE}{i ep:Nat}{ok ov:Value}{Q:Option Value->az->Prop}(hit:og s.heap it d i es.size ep ok ov)(DZ:s.heap.get? d=some od)(dd:od.data=.dict es ep)(hi:i < es.size)
  (hQ:∀ h',IsItemIterOut h' it d (i+1) es.size ep es[i].key es[i].val s.heap.objs.size->h'.get? s.heap.objs.size=some { cls:=.type "tuple",data:=.seq #[es[i].key,es[i].val] }->(∀ b o,b≠it->s.heap.get? b=some o->h'.get? b=some o)->Q (some (.ref s.heap.objs.size)) { s with heap:=h' }) :
  wpAny (model prog w) A (wy (.ref it)) Q E s:=by
 obtain⟨hp,g,dr,tk,os⟩:=s;have ty:Shared.TypeIs ⟨hp,g,dr,tk,os⟩ (.ref it) "dict_itemiterator":=⟨_,hit,rfl⟩;unfold wy;refine ag (D8 (jg (name:=vr "__next__") ty jj (cX jj ty GL ?_ (Ee _))));refine ag (aA (ag (ag ?_)))
 first | refine ag (jc ty (aA (ag (oz hit rfl ?_)))) | refine ag (lh ty (aA (ag (oz hit rfl ?_))))
 have Ov:fy "dict_itemiterator" = true:=by decide
 rw [Ov];show wpAny _ _ (if (fV d == gn)=true then _ else _) _ _ _;rw [if_neg (fun z=>by cases z)];refine ag (aA (ag (gN DZ dd ?_)));rw [if_neg (by simp)];refine ag (aA (ag (mI DZ dd ?_)));rw [if_neg (by simp)];refine aA ?_;dsimp only;rw [if_neg (show ¬ ((i:Int) < 0) from Int.not_lt.mpr (qg i)),cV,Hx hi];dsimp only;refine ag ?_
 first | refine ag (jc ty (aA (ag (nE ty ?_)))) | refine ag (lh ty (aA (ag (nE ty ?_))))
 show wpAny _ _ (setField (.ref it) 3 (D9 ((i:Int)+1)) >>= _) _ _ ⟨hp,g,dr,tk,os⟩;refine ag (mH hit (by simp) fun h1 e1 s1=>?_);have s1:fL it hp h1:=s1;have e1:og h1 it d (i+1) es.size ep ok ov:=by
  have e:((i+1:Nat):Int)=(i:Int)+1:=by lia
  unfold og; rw [e]; simpa [D9] using e1
 have ty1:Shared.TypeIs ⟨h1,g,dr,tk,os⟩ (.ref it) "dict_itemiterator":=⟨_,e1,rfl⟩;refine ag (eu (ag (nE ty1 (ag (nE ty1 ?_)))));show wpAny _ _ (qu (.ref it) 6 es[i].key es[i].val) _ _ ⟨h1,g,dr,tk,os⟩;unfold qu;refine ag (wpAny_newTuple ?_);have z1:h1.objs.size=hp.objs.size:=s1.1;have lt:it < hp.objs.size:=aS hit;have e2:og (h1.push { cls:=.type "tuple",data:=.seq #[es[i].key,es[i].val] }) it d (i+1) es.size ep ok ov:=aH _ e1;have t2:(h1.push { cls:=.type "tuple",data:=.seq #[es[i].key,es[i].val] }).get? hp.objs.size=some { cls:=.type "tuple",data:=.seq #[es[i].key,es[i].val] }:=by rw [<-z1]; exact bh _ rfl
 have k2:∀ b o,b≠it->hp.get? b=some o->(h1.push { cls:=.type "tuple",data:=.seq #[es[i].key,es[i].val] }).get? b=some o:=fun b o hb e=>aH _ (s1.extBut b o hb e);generalize h1.push { cls:=.type "tuple",data:=.seq #[es[i].key,es[i].val] } = h2 at e2 t2 k2;show wpAny _ _ (iZ (.ref it) >>= _) _ _ ⟨h2,g,dr,tk,os⟩;rw [z1];refine ag (show wpAny _ _ (iZ (.ref it)) _ _ _ from ?_);unfold iZ;refine ag (qi e2 rfl (x:=.none) rfl (aA ?_));rw [if_pos rfl];refine ag (qi e2 rfl (x:=ok) rfl (ag (qi e2 rfl (x:=ov) rfl (ag (mH e2 (by simp) fun h3 e3 s3=>?_)))));have s3:fL it h2 h3:=s3;have e3:og h3 it d (i+1) es.size ep es[i].key ov:=e3;refine ag (mH e3 (by simp) fun h4 e4 s4=>?_);have s4:fL it h3 h4:=s4;have e4:og h4 it d (i+1) es.size ep es[i].key es[i].val:=e4;refine ag (mH e4 (by simp) fun h5 e5 s5=>?_);have s5:fL it h4 h5:=s5;have e5:IsItemIterOut h5 it d (i+1) es.size ep es[i].key es[i].val hp.objs.size:=e5;refine ag (mH e5 (by simp) fun h6 e6 s6=>?_);have s6:fL it h5 h6:=s6;have all:∀ b o,b≠it->h2.get? b=some o->h6.get? b=some o:=fun b o hb e=>s6.extBut b o hb (s5.extBut b o hb (s4.extBut b o hb (s3.extBut b o hb e)));exact ag (vo (aA (aA ⟨_,rfl,aA (hQ h6 e6 (all _ _ (Nat.ne_of_gt lt) t2) fun b o hb e=>all b o hb (k2 b o hb e))⟩)))
end
end L2
namespace L2
open PySem PySem.Spec PyProof.Rows
section
variable {prog:bI} {w:World} {A:dI} {E:Value->az->Prop} {s:az}
theorem L7{it d:Addr}{od:Obj}{es:Array fE}{i ep:Nat}{ok ov:Value}{Q:Option Value->az->Prop}(calm:A.handled=none)(hit:og s.heap it d i es.size ep ok ov)(DZ:s.heap.get? d=some od)(dd:od.data=.dict es ep)(hi:es.size<=i)
  (hQ:∀ h',Heap.ExtBut it s.heap h'->Q none { s with heap:=h' }):wpAny (model prog w) A (wy (.ref it)) Q E s:=by
 have ty:s.TypeIs (.ref it) "dict_itemiterator":=⟨_,hit,rfl⟩;unfold wy;refine ag (D8 (jg (name:=vr "__next__") ty jj (cX jj ty GL ?_ (Ee _))));refine ag (aA (ag (ag ?_)))
 first | refine ag (jc ty (aA (ag (oz hit rfl ?_)))) | refine ag (lh ty (aA (ag (oz hit rfl ?_))))
 have Ov:fy "dict_itemiterator" = true:=by decide
 rw [Ov];show wpAny _ _ (if (fV d == gn)=true then _ else _) _ _ s;rw [if_neg (fun z=>by cases z)];refine ag (aA (ag (gN DZ dd ?_)));rw [if_neg (by simp)];refine ag (aA (ag (mI DZ dd ?_)));rw [if_neg (by simp)];refine aA ?_;dsimp only;rw [if_neg (show ¬ ((i:Int) < 0) from Int.not_lt.mpr (qg i)),cV,MU hi];dsimp only;refine ag ?_
 first | refine ag (jc ty (aA (?_))) | refine ag (lh ty (aA (?_)))
 show wpAny _ _ (setField (.ref it) 2 .none >>= _) _ _ s;refine ag (QM hit rfl (by simp) (show wpAny _ _ (newExc (.type "StopIteration") [] >>= _) _ _ _ from ag ?_));simp only [newExc,newTuple];refine ag (cZ (ag (m:=A5 _ _) (wpAny_of_eq (a:=gn) (by first | rfl | (simp only [A5]; rfl)) (cZ ?_ (by size_fits)))) (by size_fits));simp only [raiseNew];refine ag (wpAny_handled ?_);rw [show A.in1.handled=none from calm];refine ag (aA (wpAny_throw ?_));refine ag (oT (T:="StopIteration") (b:=true) ⟨_,bh _ rfl,rfl⟩ isSubtype_stop (?_));exact aA (hQ _ (((jF ..).extBut.push _).push _))
end
end L2
namespace L2
open PySem PySem.Spec PyProof.Rows
section
variable {prog:bI} {w:World} {A:dI} {E:Value->az->Prop} {s:az}
theorem uw (d:Addr) (ns:(d == da)=false):MeetsIn prog w (Builtin.«dict.items» ⟨[.ref d],[]⟩) (fun _ R s=>s.TypeIs (.ref d) "dict"/\R (.ok (.ret (.ref s.heap.objs.size))) { s with heap:=s.heap.push { cls:=.type "dict_items",data:=.fields #[.ref d] } }):=by
 refine .of_wp ?_;rintro A R s ⟨ty,h⟩;unfold Builtin.«dict.items» Builtin.Dict.noArgs;refine ag (ag (xY ty (show wpAny _ _ (pure d) _ _ s from aA ?_)));show wpAny _ _ (kU d >>= _) _ _ s;unfold kU;rw [if_neg (fun z=>by rw [ns] at z; cases z)];exact ag (aA (ag (cZ (aA ⟨_,rfl,h⟩))))
theorem wX{v d:Addr}{od:Obj}{es:Array fE}{ep:Nat}{Q:Value->az->Prop}(hv:s.heap.IsItemsView v d)(DZ:s.heap.get? d=some od)(dd:od.data=.dict es ep)
  (hQ:Q (.ref s.heap.objs.size) { s with heap:=s.heap.push { cls:=.type "dict_itemiterator",data:=.fields #[.none,.bool false,.ref d,.int 0 0,.int es.size 0,.int ep 0,.none,.none] } }) :
  wpAny (model prog w) A (Ea (.ref v)) Q E s:=by
 obtain⟨ov,hov,hcv,hdv⟩:=id hv;refine nW hv.typeIs F.slot_dict_items_iter (cX F.slot_dict_items_iter hv.typeIs F.entry_dict_items_iter ?_ (F.args_dict_items_iter_1 _));unfold Builtin.«dict_items.__iter__» Builtin.Dict_items.dictOf;refine ag (aA (ag (ag (qi hov hdv (x:=.ref d) rfl (aA (ag ?_))))));unfold Builtin.Dict_items.newIterator;refine ag (gN DZ dd (ag (mI DZ dd ?_)));have Ov:fy "dict_itemiterator" = true:=by decide
 rw [Ov];dsimp only;rw [if_pos (show true=true from rfl)];refine cZ (aA ⟨_,rfl,"dict_itemiterator",_,⟨_,bh _ rfl,rfl⟩,F.slot_dict_itemiterator_next.lookup,?_⟩) ?_
 ·simpa [D9,pJ] using hQ
 ·simp only [sizeOk,pJ,aX,aE,aj,ax,cF]; lia
end
noncomputable def aaP(a:Addr)(o:Obj)(es:Array fE)(ps:List (V×V)):It :=
 ⟨fun i H=>(∃ u,H a=some (.ja o u))/\i < es.size,fun i H v H'=>∃ T p,v=.ref T/\H T=none/\H'=upd H T (.tup [p.1,p.2])/\ps[i]?=some p,fun i H=>(∃ u,H a=some (.ja o u))/\es.size<=i⟩
theorem wB{P:bI}{w:World}{K:au}{elts:List Expr}{kk:Nat}{pos:Pos}(a it:Addr)(o:Obj)(es:Array fE)(ep:Nat)(ps:List (V×V))(dd:o.data=.dict es ep)(hk:∀ i (h:i < es.size),∃ p,ps[i]?=some p/\RelV p.1 es[i].key/\RelV p.2 es[i].val) :
  Turn P w K (.Tuple elts kk pos) (aaP a o es ps) [it] it (fun i h=>∃ ok ov,og h it a i es.size ep ok ov) where
 mem:=by simp
 obj:=by
  rintro i h ⟨ok,ov,st⟩ b hb;have e:b=it:=by simpa using hb
  subst e;exact⟨_,st,fun v z=>by cases z⟩
 keep:=by rintro i h h' ⟨ok,ov,st⟩ k; exact⟨ok,ov,k it (by simp) _ st⟩
 item:=by
  intro X hP hw hK hc i pins s σ H E I hf st hg;obtain⟨ok,ov,st⟩:=st;subst hP hw hK;obtain⟨⟨u,hu⟩,hi⟩:=hg;obtain⟨p,hp,r1,r2⟩:=hk i hi;have Vb:H s.heap.objs.size=none:=I.cn.fresh (aC _);have W6:it≠s.heap.objs.size:=bB (aS st);refine Iq st (I.cn a _ hu).1 dd hi fun h' ho hT kk=>?_;refine⟨_,rfl,?_⟩;have I1:Inv X pins σ (upd H s.heap.objs.size (.tup [p.1,p.2])) { s with heap:=h',toks:=s.toks } :=
   I.xC (fp:=[it]) hf (fun b o hb q=>kk b o (fun z=>hb (by simp [z])) q) (aC _)
    ⟨by show 2<=aZ; decide,[es[i].key,es[i].val],.cons r1 (.cons r2 .nil),⟨_,hT,rfl,_,rfl⟩⟩
  refine M8 (s:={ s with heap:=h' }) ho fun h2 U4 FF=>?_;have f1:∀ b∈[it],nC X pins (upd H s.heap.objs.size (.tup [p.1,p.2])) b:=fun b hb=>(hf b hb).upd (by rw [List.mem_singleton.mp hb]; exact W6);have I2:Inv X pins σ (upd H s.heap.objs.size (.tup [p.1,p.2])) { s with heap:=h2,toks:=s.toks } :=
   Inv.rh (s:={ s with heap:=h',toks:=s.toks }) (t':=s.toks) (fp:=[it]) I1 f1 fun b o hb q=>(FF.2 b (fun z=>hb (by simp [z]))).trans q
  exact⟨.ref s.heap.objs.size,_,I2,rfl,⟨_,p,rfl,Vb,rfl,hp⟩,⟨_,_,U4⟩,fun b hb=>(f1 b hb).1⟩
 done:=by
  intro X hP hw hK hc i pins s σ H E I hf st hg;obtain⟨ok,ov,st⟩:=st;subst hP hw hK;obtain⟨⟨u,hu⟩,hi⟩:=hg;obtain⟨f0,f1,f2,f3,f4,f5⟩:=hf it (by simp);exact L7 (I.ok.hd hc) st (I.cn a _ hu).1 dd hi fun h' eb=>⟨rfl,I.turned (t':=s.toks) (fun b o hb e=>eb b o hb e) f0 f1 f3 f4 f5⟩
 self:=by
  rintro A i s Q E ⟨ok,ov,st⟩ h;have ty:s.TypeIs (.ref it) "dict_itemiterator":=⟨_,st,rfl⟩;refine nW ty jk (cX jk ty lZ ?_ (Ef _));show wpAny _ _ (ret (.ref it)) _ _ s;exact aA ⟨_,rfl,"dict_itemiterator",_,ty,F.slot_dict_itemiterator_next.lookup,h⟩
end L2
end
section
namespace K2
open PySem PySem.Spec PyProof.Rows L2
section
variable {X:Cx} {elts:List Expr} {kk:Nat} {AB apos pC:Pos} {o:Expr} {to:gJ}
theorem my.item{K:au}{H:Hp}{kv:List (List Key×V)}{kvs:List (D×D)}(h:my K H kv kvs):∀ {i:Nat} {q:D×D},kvs[i]?=some q->∃ p,kv[i]?=some p/\q.1=.tup (p.1.map eC)/\bX K H p.2 q.2:=by
 induction h using my.ind with
 | nil=>intro i q e; simp at e
 | @cons k v d r t rd rs ih =>
  intro i q e;cases i with
  | zero=>simp at e; subst e; exact⟨_,rfl,rfl,rd⟩
  | succ i =>
   obtain⟨p,h1,h2⟩:=ih (i:=i) (q:=q) (by simpa using e);exact⟨p,by simpa using h1,h2⟩
theorem my.len{K:au}{H:Hp}{kv:List (List Key×V)}{kvs:List (D×D)}(h:my K H kv kvs):kv.length=kvs.length:=by
 have:=congrArg dO h.keys;simpa using this.symm
theorem HP (ho:gu X o to) (zq:autoParam (Eb o "items" X.env (eval o X.env)=eval o X.env) Ar._auto_1) (zo:autoParam ((apos.endLine == pC.line)=true) Ar._auto_1) :
  MF X (.Tuple elts kk AB) (.Call (.Attribute o "items" apos) [] [] pC) (CY to):=by
 intro E pins s σ H τ G R hE I h;refine vp zq zo (j6 ho hE I h fun x H1 d G1 v s1 I1 m1 r1 jK q1=>?_);cases d with
 | j8 kvs =>
  obtain⟨h1,q1⟩:=q1;obtain⟨t1,t2⟩:=oC pins s1 σ H1 G1 x _ v I1.inv I1.ab r1 jK trivial;have main:∃ (a:Addr) (ob:Obj) (u:HO) (es:Array fE) (ep:Nat) (ps:List (V×V)),x=.ref a/\(a == da)=false/\H1 a=some (.ja ob u)/\ob.data=.dict es ep/\(∀ i (h:i < es.size),∃ p,ps[i]?=some p/\RelV p.1 es[i].key/\RelV p.2 es[i].val)/\kvs.length=es.size /\
    (∀ (i:Nat) (q:D×D),kvs[i]?=some q->∃ p,ps[i]?=some p/\bX X.K H1 p.1 q.1/\bX X.K H1 p.2 q.2):=by
   cases jK with
   | oj hq rs =>
    rename_i a o kv;cases rs with
    | nil =>
     obtain⟨z,ns,vs,rel,ob,es,ep,ho,ex,dd,hko,hp,nd⟩:=(I1.inv.cn a _ hq).2;have eo:ob=o:=by have:=(I1.inv.cn a _ hq).1; rw [ho] at this; exact a8 this
     subst eo;have l1:es.size=vs.length:=by simpa using hp.length
     have l2:([]:List (Key×V)).length=vs.length:=iI rel;have l3:es.size=0:=by rw [l1,<-l2]; rfl
     exact⟨a,ob,_,es,ep,[],rfl,ns,hq,dd,fun i h=>by lia,by rw [l3]; rfl,fun i q e=>by simp at e⟩
    | @cons j _ _ _ _ _ _=>cases j <;> simp [eC,kR] at h1
   | oi hq rs =>
    rename_i a o kv;obtain⟨z,ns,xs,rel,ob,es,ep,ho,ex,dd,hl,nd⟩:=(I1.inv.cn a _ hq).2;have eo:ob=o:=by have:=(I1.inv.cn a _ hq).1; rw [ho] at this; exact a8 this
    subst eo;have l1:=congrArg dO hl;rw [ak,fA] at l1;have l2:kv.length=xs.length:=iI rel;have l3:=rs.len;refine⟨a,ob,_,es,ep,(kv.zip xs).map fun z=>(V.ref z.2.2.1,z.1.2),rfl,ns,hq,dd,fun i hi=>?_,by lia,fun i q e=>?_⟩
    ·have i2:i < xs.length:=by lia
     have i3:i < kv.length:=by lia
     have ee:es[i]=entryOfKey (iP (cC X.prog X.w)) xs[i]:=by
      have:=congrArg (fun l=>l[i]?) hl;simp only [bq,ai i2] at this;simpa [hi] using this
     refine⟨(V.ref xs[i].2.1,kv[i].2),by rw [bq,ai (by rw [lH]; lia),sP]; rfl,?_⟩;rw [ee];exact⟨rfl,(vQ rel i i3 i2).2.2⟩
    ·obtain⟨p,hp,ek,rp⟩:=rs.item e;have i3:i < kv.length:=(List.getElem?_eq_some_iff.mp hp).1;have i2:i < xs.length:=by lia
     have pr:=vQ rel i i3 i2;rw [ai i3] at hp;cases hp;refine⟨(V.ref xs[i].2.1,kv[i].2),by rw [bq,ai (by rw [lH]; lia),sP]; rfl,?_,rp⟩;rw [ek];exact .tup pr.2.1 (vG _)
  obtain⟨a,ob,u,es,ep,ps,rfl,hm,hu,dd,hk,hlen,Uq⟩:=main;cases r1;refine⟨"dict","dict.items",df,fW,qr,t1,t2,lX rfl (xi ?_)⟩;refine yf fW t1 pX (oU _) (uw a hm) ⟨t1,?_⟩;have I2:Inv X pins σ H1 { s1 with heap:=s1.heap.push { cls:=.type "dict_items",data:=.fields #[.ref a] } }:=I1.inv.kept (t':=s1.toks) fun b o e=>aH _ e;refine wX (s:={ s1 with heap:=s1.heap.push { cls:=.type "dict_items",data:=.fields #[.ref a] } }) ⟨_,bh _ rfl,rfl,rfl⟩ (aH _ (I1.inv.cn a _ hu).1) dd ?_;refine⟨_,[_],_,_,H1,G1,kvs.map (fun p=>.tup [p.1,p.2]),_,rfl,I2.kept (t':=s1.toks) fun b o e=>aH _ e,m1,wB a _ ob es ep ps dd hk,⟨.none,.none,bh _ rfl⟩,fun b hb=>?_,fun i H2 G2 k ab _=>?_,q1⟩
  ·have e:=List.mem_singleton.mp hb;subst e;exact I2.AO (aC _) (I2.cn.fresh (aC _))
  ·have tj:=k.ja _ _ _ hu;refine⟨fun d hd=>?_,fun hle=>⟨⟨u,tj⟩,by rw [<-hlen]; simpa using hle⟩⟩;rw [bq] at hd;cases GW:kvs[i]? with
   | none=>rw [GW] at hd; cases hd
   | some q =>
    rw [GW] at hd;obtain⟨p,hp,rk,rp⟩:=Uq i q GW;have hi:i < es.size:=by rw [<-hlen]; exact(List.getElem?_eq_some_iff.mp GW).1
    refine⟨⟨⟨u,tj⟩,hi⟩,?_⟩;rintro x H3 ⟨T,p',ex,hT,e3,hy⟩;subst ex e3;rw [hp] at hy;cases hy;have ed:D.tup [q.1,q.2]=d:=by simpa using hd
    subst ed;exact⟨.tup bU (.cons ((rk.mono k).mono (.new hT)) (.cons ((rp.mono k).mono (.new hT)) .nil)),.Mf ab hT⟩
 | _=>exact q1.elim
end
noncomputable def eOk(e:fE)(p:Int×Int):Bool:=e.hash == hashInt p.1&&sd p.1 e.key&&sd p.2 e.val
noncomputable def R5:List fE->List (Int×Int)->Bool
 | [],[]=>true
 | e :: es,p :: ps=>eOk e p&&R5 es ps
 | _,_=>false
noncomputable def BY(K:au)(a:Addr)(kv:List (Int×Int)):Bool:=match K.lookup a with
 | some o=>o.cls == .type "dict" && o.dict == none&&o.slots.toList == []&&(match o.data with | .dict es _=>R5 es.toList kv | _=>false)
 | none=>false
noncomputable def S8(kv:List (Int×Int)):List (Key×V):=kv.map fun p=>(.inl p.1,.int p.2)
theorem isInt_shape{i:Int}{v:Value}(h:sd i v=true):∃ t,v=.int i t:=by
 rcases eX (k:=.inl i) h with ⟨j,t,e,rfl⟩ | ⟨_,_,e,_⟩
 ·cases e; exact⟨t,rfl⟩
 ·cases e
section
variable {P:bI} {w:World}
theorem zE:∀ (es:List fE) (kv:List (Int×Int)),R5 es kv=true->∃ vs,KV (S8 kv) vs/\Pairs (cC P w) es vs/\vs.map (·.1)=kv.map (fun p=>(vq p.1:Key))/\∀ e∈es,∃ k,(cC P w).is k e.key=true/\e.hash=(cC P w).hash k
 | [],[],_=>⟨[],.nil,.nil,rfl,fun e h=>by cases h⟩
 | [],_ :: _,h=>bA (show false=true from h)
 | _ :: _,[],h=>bA (show false=true from h)
 | e :: es,p :: ps,h=>by
  have h:(eOk e p&&R5 es ps)=true:=h;rw [aJ] at h;obtain⟨vs,h1,h2,h3,h4⟩:=zE es ps h.2;have he:=h.1;unfold eOk at he;rw [aJ,aJ] at he;obtain⟨t,ev⟩:=isInt_shape he.2;refine⟨(.inl p.1,e.val) :: vs,.cons ⟨rfl,t,ev⟩ h1,.cons he.1.2 rfl h2,by rw [ao,ao,h3],fun x hx=>?_⟩;rcases List.mem_cons.mp hx with rfl | hx
  ·exact⟨.inl p.1,he.1.2,beq_iff_eq.mp he.1.1⟩
  ·exact h4 x hx
theorem Vi{K:au}{a:Addr}{kv:List (Int×Int)}{h:Heap}(Y:K.In h)(e:BY K a kv=true)(nd:(kv.map (·.1)).Nodup):∃ vs,KV (S8 kv) vs/\h.DictOf (cC P w) a vs:=by
 unfold BY at e;cases hl:K.lookup a with
 | none=>rw [hl] at e; exact bA (show false=true from e)
 | some o =>
  rw [hl] at e;dsimp only at e;rw [aJ,aJ,aJ] at e;obtain⟨⟨⟨e1,e2⟩,e3⟩,e4⟩:=e;obtain⟨c,dd,dt,⟨sl⟩⟩:=o;have f1:c=.type "dict":=beq_iff_eq.mp e1;have f2:dd=none:=beq_iff_eq.mp e2;have f3:sl=[]:=beq_iff_eq.mp e3;clear e1 e2 e3;subst f1;subst f2;subst f3;cases dt with
  | dict es ep =>
   obtain⟨vs,h1,h2,h3,h4⟩:=zE (P:=P) (w:=w) es.toList kv e4;refine⟨vs,h1,_,es,ep,Y _ _ hl,⟨rfl,rfl,rfl⟩,rfl,?_,h2,?_⟩
   ·intro e he;obtain⟨k,q1,q2⟩:=h4 e (Array.mem_toList_iff.mpr he);exact⟨k,q1,q2⟩
   ·rw [h3];have:kv.map (fun p=>(vq p.1:Key))=(kv.map (·.1)).map vq:=by rw [aM]; rfl
    rw [this,List.nodup_iff_pairwise_ne,A9];exact(List.nodup_iff_pairwise_ne.mp nd).imp fun oA e=>oA (Sum.inl.inj e)
  | _=>exact bA (show false=true from e4)
end
end K2
namespace K2
open PySem PySem.Spec PyProof.Rows L2
section
variable {X:Cx} {x:Str} {a:Addr} {kv:List (Int×Int)} {p px pos:Pos}
theorem Tx{K:au}{H:Hp}:∀ kv:List (Int×Int),lN K H (S8 kv) (bz kv)
 | []=>.nil
 | p :: kv=>.cons (k:=.inl p.1) (.int p.2) (Tx kv)
theorem Bn (hg:Gl X "dict") (hm:X.mg "dict" = none) (Z1:Gl X x) (U1:X.mg x=some (.ref a)) (ns:(a == da)=false) (hD:BY X.K a kv=true) (nd:(kv.map (·.1)).Nodup) (hz:kv.length<=1000) (Iz:autoParam ((x == ("__debug__" : Str))=false) Ad._auto_1)
  (hs:autoParam (bY [.Name x px] X.env=[(false,eval (.Name x px) X.env)]) Ar._auto_1):gu X (.Call (.Name "dict" p) [.Name x px] [] pos) (Gi kv):=by
 intro E pins s σ H τ G Q hE I h;refine jV (qL I.inv hg hm DE ?_);refine fU ?_ hs rfl;rw [hs];show wpAny _ _ (spliced ((false,eval (.Name x px) X.env) :: wz pos (bY [] X.env))) _ _ s;refine pI ?_;refine xK I.inv Z1 U1 ?_ Iz;refine Ay ?_;obtain⟨vs,rel,dd⟩:=Vi (P:=X.prog) (w:=X.w) I.inv.Ip hD nd;have hl:vs.length=kv.length:=by rw [<-rel.length]; unfold S8; rw [ak]
 have sz:aZ=16777216:=cF;refine kt_call_dict ns dd (by lia) fun h' BZ hs=>?_;have hp:H s.heap.objs.size=none:=I.inv.cn.fresh (aC _);have zz:(S8 kv).length<=aZ:=by unfold S8; rw [ak]; lia
 refine⟨.ref _,upd H s.heap.objs.size (.dK (S8 kv)),.ref _,_,I.inv.laid (a:=s.heap.objs.size) (o:=.dK (S8 kv)) (t':=s.toks) (fun b q hq=>?_) (aC _) (Dl zz (beq_eq_false_iff_ne.mpr (e7 (bB I.inv.big))) rel BZ),.new I.ab hp (.dk bU (Tx kv)),rfl,.ref _,h _ (I.ab.free hp)⟩;exact(hs.2 b (bB (aS hq))).trans (aH _ hq)
end
end K2
end
section
namespace K2
open PySem PySem.Spec PyProof.Rows L2
section
variable {X:Cx}
theorem Gq:rg X (.type "tuple") Sk:=by
 intro pins s σ H G xs ds us Q I ab rx rd q;unfold Sk at q;split at q
 ·rename_i x;obtain⟨v,rfl,r⟩:=rd.one;have VD:∀ (l:Addr) (ys:List V) (zs:List D),v=.ref l->oS X.K H l ys->bg X.K H ys zs->Q (.tup zs) G->wpAny (model X.prog X.w) X.A (call (.type "tuple") us) (r8 X pins σ H G Q) X.xe s:=fun l ys zs e h rs hq=>by
   subst e;exact hU (AW pins s σ H _ us (B9 X.K H G Q) I rx ⟨l,ys,rfl,.inl ⟨h,fun p hp=>⟨.tup zs,G,.Mf ab hp,.tup bU (rs.mono (.new hp)),hq⟩⟩⟩) fun _ _ z=>.of z
  cases r with
  | cY hq rs=>exact VD _ _ _ rfl hq.sq rs q
  | ref l =>
   unfold qK at q;dsimp only at q;cases hg:G l with
   | none=>rw [hg] at q; exact q.elim
   | some g =>
    rw [hg] at q;cases g with
    | lst ds =>
     obtain⟨vs,hv,rs⟩:=ab.lst hg;exact VD _ _ _ rfl (.of hv) rs q
    | ins _ _=>exact q.elim
    | qh _=>exact q.elim
    | gK kvs=>exact q.elim
  | _=>exact bN q
 ·exact q.elim
end
section
variable {X:Cx}
theorem RI(hu:X.A.units+64 < cLine):pH X (fb .Lt) Ur:=by
 intro pins s σ H G x y dx dy v u Q I ab rx ry dX dY q;obtain⟨sh,a,b,⟨sa,sb⟩,⟨h1,h2⟩,q⟩:=q;obtain⟨as,ra⟩:=(gU I ab sa).1 x v dX rx;obtain⟨bs,rb⟩:=(gU I ab sb).1 y u dY ry;have d1:=zJ sa;exact sW _ sh a b _ s _ _ as bs (aC _) h1 h2 sa.nr sb.nr ra rb (by unfold SN at d1; lia) _ _ _ _ ⟨.bl _,H,.bl _,G,I,.refl ab,rfl,.bl _,q⟩
end
section
variable {X:Cx} {pins:List (Addr×Obj)} {σ:L2.St} {H1 H':Hp} {s1 s':az}
noncomputable def QD(S:Addr->Bool)(H1 H':Hp):Hp:=fun a=>if S a=true then H1 a else H' a
theorem Nt{S:Addr->Bool}{a:Addr}(h:S a=true):QD S H1 H' a=H1 a:=by unfold QD; rw [if_pos h]
theorem gR{S:Addr->Bool}{a:Addr}(h:S a=false):QD S H1 H' a=H' a:=by unfold QD; rw [if_neg (by rw [h]; exact gZ)]
theorem Inv.V2{S : Addr -> Bool}(I1 : Inv X pins σ H1 s1)(I' : Inv X pins σ H' s')(hS : ∀ a, S a = true -> ∃ u0 ob, H1 a = some u0 ∧ Dv u0 = true ∧ H' a = some (.ja ob u0)) : Inv X pins σ (QD S H1 H') s' := by
  have cs : ∀ b, (S b = false ∨ ∃ u0 ob, S b = true ∧ H1 b = some u0 ∧ Dv u0 = true ∧ H' b = some (.ja ob u0)) := fun b => by
    cases c : S b with
    | false => exact .inl rfl
    | true => obtain⟨u0, ob, z⟩ := hS b c; exact .inr ⟨u0, ob, rfl, z⟩
  exact {
    ok := I'.ok
    os := I'.os
    bare := I'.bare
    base := { keep := I'.base.keep, slot := I'.base.slot, there := I'.base.there
              free := fun b o q n hx => by
                rcases cs b with hb | ⟨u0, ob, hb, e1, hu, e'⟩
                · rw [gR hb]; exact I'.base.free b o q n hx
                · have := I1.base.free b o q n hx; rw [e1] at this; cases this
              vC := fun b xs q => by
                rcases cs b with hb | ⟨u0, ob, hb, e1, hu, e'⟩
                · rw [gR hb]; exact I'.base.vC b xs q
                · have := I1.base.vC b xs q; rw [e1] at this; cases this; cases hu
              uS := fun b o u q => by
                rcases cs b with hb | ⟨u0, ob, hb, e1, hu, e'⟩
                · rw [gR hb]; exact I'.base.uS b o u q
                · have := I1.base.uS b o u q; rw [e1] at this; cases this; cases hu
              vD := fun b ps q => by
                rcases cs b with hb | ⟨u0, ob, hb, e1, hu, e'⟩
                · rw [gR hb]; exact I'.base.vD b ps q
                · have e := I1.base.vD b ps q; rw [e1] at e; cases e; cases hu
              vR := fun b x q => by
                rcases cs b with hb | ⟨u0, ob, hb, e1, hu, e'⟩
                · rw [gR hb]; exact I'.base.vR b x q
                · have e := I1.base.vR b x q; rw [e1] at e; cases e; cases hu }
    loc := I'.loc
    cell := I'.cell
    free := by
      rcases cs X.env.locals with hb | ⟨u0, ob, hb, e1, hu, e'⟩
      · rw [gR hb]; exact I'.free
      · have := I'.free; rw [e'] at this; cases this
    mZ := fun x c e => by
      rcases cs c with hb | ⟨u0, ob, hb, e1, hu, e'⟩
      · rw [gR hb]; exact I'.mZ x c e
      · have := I'.mZ x c e; rw [e'] at this; cases this
    pin := fun q hq => by
      obtain⟨h1, h2, h3⟩ := I'.pin q hq;rcases cs q.1 with hb | ⟨u0, ob, hb, e1, hu, e'⟩
      · exact⟨h1, by rw [gR hb]; exact h2, h3⟩
      · rw [e'] at h2; cases h2
    cn := fun a o q => by
      have st : ∀ u, fH X.prog X.w H' s'.heap a u -> fH X.prog X.w (QD S H1 H') s'.heap a u := fun u x =>
        x.mi (fun b v _ r => r) (fun b r => by
          rcases cs b with hb | ⟨u0, ob, hb, e1, hu, e'⟩
          · rw [gR hb]; exact r
          · rw [e'] at r; cases r) (fun b xs r => by
          rcases cs b with hb | ⟨u0, ob, hb, e1, hu, e'⟩
          · rw [gR hb]; exact r
          · rw [e'] at r; cases r)
      rcases cs a with hb | ⟨u0, ob, hb, e1, hu, e'⟩
      · rw [gR hb] at q
        exact st _ (I'.cn a _ q)
      · rw [Nt hb, e1] at q
        cases q;exact st _ (I'.cn a _ e').2
    len := I'.len }
end
section
variable {K:au} {H' H3:Hp}
theorem Ly{v:V}{d:D}(rd:bX K H' v d)(hp:mS d=true):bX K H3 v d:=by
 cases rd with
 | eQ=>exact .eQ
 | bl b=>exact .bl _
 | int i=>exact .int _
 | _=>exact absurd hp (by simp [mS])
theorem yt:∀ {ds:List D} {vs:List V},bg K H' vs ds->ds.all mS=true->bg K H3 vs ds
 | [],_,.nil,_=>.nil
 | _ :: _,_,.cons r rs,h=>by
  rw [lK,aJ] at h;exact .cons (Ly r h.1) (yt rs h.2)
structure Yr(H' H3:Hp):Prop where
 t:∀ a xs,H' a=some (.tup xs)->H3 a=some (.tup xs)
 k:∀ a o kv,H' a=some (.ja o (.dK kv))->H3 a=some (.ja o (.dK kv))
 d:∀ a o kv,H' a=some (.ja o (.dT kv))->H3 a=some (.ja o (.dT kv))
theorem EC(kt:Yr H' H3){v:V}{d:D}(rd:bX K H' v d)(hp:tupP d=true):bX K H3 v d:=by
 cases rd with
 | eQ=>exact .eQ
 | bl b=>exact .bl _
 | int i=>exact .int _
 | ref a=>exact .ref a
 | tup h r=>exact .tup (kt.t _ _ h) (yt r hp)
 | oj h r=>exact .oj (kt.k _ _ _ h) (r.plain hp)
 | oi h r =>
  cases r with
  | nil=>exact .oi (kt.d _ _ _ h) .nil
  | cons _ _=>exact absurd hp (by simp [tupP,dE])
 | _=>exact absurd hp (by simp [tupP,mS])
theorem Bh(kt:Yr H' H3):∀ {ds:List D} {vs:List V},bg K H' vs ds->ds.all tupP=true->bg K H3 vs ds
 | [],_,.nil,_=>.nil
 | _ :: _,_,.cons r rs,h=>by
  rw [lK,aJ] at h;exact .cons (EC kt r h.1) (Bh kt rs h.2)
theorem Vu(kt:Yr H' H3){a:Addr}{o:GO}(e:H3 a=H' a)(h:Ha K H' a o)(ok:ur o=true):Ha K H3 a o:=by
 cases o with
 | lst ds=>obtain⟨vs,q,r⟩:=h; exact⟨vs,e.trans q,Bh kt r ok⟩
 | gK kvs =>
  rcases h with ⟨kv,q,r⟩ | ⟨kv,q,r⟩
  ·exact .dk (e.trans q) (r.plain ok)
  ·cases r with
   | nil=>exact .dt (e.trans q) .nil
   | cons _ _=>exact absurd ok (by simp [ur,dE])
 | ins c fs=>exact absurd ok (by simp [ur])
 | qh kvs=>exact absurd ok (by simp [ur])
end
section
variable {X:Cx} {pins:List (Addr×Obj)} {σ:L2.St} {H:Hp} {s:az} {G:Gp}
theorem Kw(I:Inv X pins σ H s)(ab:lE X.K H G){R:Nat->Bool}:∀ {ds ts:List D} {vs:List V},Ab G R ds ts->bg X.K H vs ds->bg X.K (lT s.heap (ik R G) H) vs ts
 | [],_,_,.nil,.nil=>.nil
 | _ :: _,_,_,.cons f fs,.cons r rs=>.cons (IC I ab f r) (Kw I ab fs rs)
end
section
variable {X:Cx} {e:Expr} {es:List Expr} {t:D4} {pos p:Pos} {x:Str} {k:Nat} {f:Addr} {fd:gm} {ps:List Str} {sp:jU}
theorem i7(F:wu X.prog X.w X.K X.mg X.base Js k f fd ps (AF X.K sp))(hr:lV k X.A)(hg:Gl X x)(hm:X.mg x=some (.ref f))(hk:vd X.K (.ref f)=true)(hb:Binds X.K fd ps [])
  (ha:D5 X (e :: es) t) (Iz:autoParam ((x == ("__debug__" : Str))=false) Ad._auto_1) (he:autoParam (bY (e :: es) X.env=(false,eval e X.env) :: bY es X.env) Ar._auto_1) (GV:autoParam ((wz pos (bY es X.env)).any (·.1)=false) Ar._auto_1) :
  gu X (.Call (.Name x p) (e :: es) [] pos) (nc sp t):=by
 intro E pins s σ H τ G Q hE I h;refine jV (xK I.inv hg hm ?_ Iz);refine Qw (h₀:=X.base) I.inv.ok.mod.WJ hk (Cs ha pos hE I h fun vs H1 ds G1 us s1 I1 m1 r rd q=>⟨I1.inv.Ip,?_⟩) he GV;obtain⟨R,ts,hR,fz,q⟩:=q;have rep:=Kw I1.inv I1.ab fz rd;have I1':=Inv.freeze I1.inv (ik R G1);have Tr:∀ a,ik R G1 a=true->∃ u0 ob,H1 a=some u0/\Dv u0=true/\lT s1.heap (ik R G1) H1 a=some (.ja ob u0):=fun a h=>by
  have hRa:R a=true:=by unfold ik at h; rw [aJ] at h; exact h.1
  obtain⟨xs,hx⟩:=hR a hRa;obtain⟨vs',hv,rs⟩:=I1.ab a _ hx;obtain⟨ob,ho⟩:=K2.j4 (I1.inv.cn a _ hv);exact⟨_,ob,hv,rfl,ph h hv rfl ho⟩
 have U2:∀ a,ik R G1 a=true->∃ vs ob,lT s1.heap (ik R G1) H1 a=some (.ja ob (.lst vs)):=fun a h=>by
  have hRa:R a=true:=by unfold ik at h; rw [aJ] at h; exact h.1
  obtain⟨xs,hx⟩:=hR a hRa;obtain⟨vs',hv,rs⟩:=I1.ab a _ hx;obtain⟨ob,ho⟩:=K2.j4 (I1.inv.cn a _ hv);exact⟨_,ob,ph h hv rfl ho⟩
 have out:∀ a,ik R G1 a=false->lT s1.heap (ik R G1) H1 a=H1 a:=fun a h=>uT h;generalize lT s1.heap (ik R G1) H1=H2 at rep I1' Tr U2 out;generalize ik R G1=S at Tr U2 out;refine hU (NO F hr hb .nil S0 I1' r (Q:=fun v H'=>∃ d G',Mv X.K H2 (fun _=>none) H' G'/\bX X.K H' v d/\(tupP d=true/\∃ T:Nat->Bool,(∀ a o,T a=true->G' a=some o->ur o=true)/\((∀ a o,G' a=some o->G1 a=none)->Q d (JL (resT T G') G1)))) ?_) fun u s2 z=>?_
 ·rw [dq];exact⟨ts,fun _=>none,_,rep,(fun a g e=>by(cases e)),q,(fun d G' v H' q2 m rd=>⟨d,G',m,rd,q2⟩)⟩
 ·obtain⟨v,H',I',rv,d,G',m,rd,hp,T,Pg,q3⟩:=z;have WI:∀ a o,H2 a=some o->H' a=some o/\G' a=none:=fun a o e=>m.keep a o e rfl;have hS:∀ a,S a=true->∃ u0 ob,H1 a=some u0/\Dv u0=true/\H' a=some (.ja ob u0):=fun a h=>by
   obtain⟨u0,ob,h1,h2,h3⟩:=Tr a h;exact⟨u0,ob,h1,h2,(WI a _ h3).1⟩
  have hL:∀ a,S a=true->∃ vs ob,H' a=some (.ja ob (.lst vs)):=fun a h=>by
   obtain⟨vs,ob,h3⟩:=U2 a h;exact⟨vs,ob,(WI a _ h3).1⟩
  have I3:=Inv.V2 I1.inv I' hS;have same:∀ a o,H1 a=some o->QD S H1 H' a=some o:=fun a o e=>by
   cases c:S a with
   | true=>rw [Nt c]; exact e
   | false=>rw [gR c]; exact(WI a o (by rw [out a c]; exact e)).1
  have kp:Kp H1 (QD S H1 H'):=⟨fun a xs e=>same a _ e,fun a o u e=>same a _ e⟩;have Qi:lE X.K (QD S H1 H') G1:=fun a g eg=>by
   have ab1:=I1.ab a g eg;cases eh:H1 a with
   | none=>exact absurd eh ab1.tracked
   | some o=>exact ab1.mono kp (by rw [same a o eh,eh])
  have XW:∀ a o u,H' a=some (.ja o u)->(∀ vs,u≠.lst vs)->S a=false:=fun a o u e n=>by
   cases c:S a with
   | false=>rfl
   | true=>obtain⟨vs,ob,h3⟩:=hL a c; rw [h3] at e; cases e; exact absurd rfl (n vs)
  have kt:Yr H' (QD S H1 H'):=⟨fun a xs e=>by
   cases c:S a with
   | true=>obtain⟨u0,ob,_,_,h3⟩:=hS a c; rw [h3] at e; cases e
   | false=>rw [gR c]; exact e,fun a o kv e=>by rw [gR (XW a o _ e (fun _ z=>by cases z))]; exact e,fun a o kv e=>by rw [gR (XW a o _ e (fun _ z=>by cases z))]; exact e⟩
  have fresh:∀ a o,G' a=some o->H1 a=none:=fun a o e=>by
   cases eh:H1 a with
   | none=>rfl
   | some u =>
    exfalso;cases c:S a with
    | true =>
     obtain⟨u0,ob,_,_,h3⟩:=Tr a c;have:=(WI a _ h3).2;rw [e] at this; cases this
    | false =>
     have:=(WI a u (by rw [out a c]; exact eh)).2;rw [e] at this; cases this
  have fg:∀ a o,G' a=some o->G1 a=none:=fun a o e=>I1.ab.free (fresh a o e);have so:∀ a o,G' a=some o->S a=false:=fun a o e=>by
   cases c:S a with
   | false=>rfl
   | true=>obtain⟨u0,ob,h1,_⟩:=hS a c; rw [fresh a o e] at h1; cases h1
  refine r8.trans m1 ⟨v,_,d,JL (resT T G') G1,I3,?_,rv,EC kt rd hp,q3 fg⟩;have rs:∀ a g,resT T G' a=some g->T a=true/\G' a=some g:=fun a g e=>by
   unfold resT at e;split at e
   ·rename_i c; exact⟨c,e⟩
   ·cases e
  refine⟨fun a o e n=>⟨same a o e,?_⟩,fun a n=>?_,fun a g eg=>?_⟩
  ·unfold JL;cases eg:resT T G' a with
   | none=>exact n
   | some g=>have:=fresh a g (rs a g eg).2; rw [e] at this; cases this
  ·cases eg:G1 a with
   | none=>exact absurd eg n
   | some g=>exact(Qi a g eg).tracked
  ·unfold JL at eg;cases eg':resT T G' a with
   | none=>rw [eg'] at eg; exact Qi a g eg
   | some g' =>
    rw [eg'] at eg;cases eg;obtain⟨t1,t2⟩:=rs a _ eg';exact Vu kt (gR (so a _ t2)) (m.ab a _ t2) (Pg a _ t1 t2)
end
noncomputable abbrev L0(P:bI)(w:World):Ed P w PK:=Y5 (Hg P w)
section
variable {P:bI} {w:World} {K:au} {H:Hp} {h:Heap}
theorem items_int:∀ {t:List Int} {us:List Value},Vals (t.map V.int) us->ItemsAre (Hg P w) t us
 | [],_,r=>by rw [aT] at r; cases r; exact .nil
 | i :: t,_,r=>by
  rw [ao] at r;cases r with
  | cons h r =>
   obtain⟨q,rfl⟩:=h;exact .cons (by simp [Hg,sd]) (items_int r)
theorem Y4(ok:pV P w H h){v:V}{u:Value}{t:List Int}(r:bX K H v (.tup (t.map D.int)))(ru:RelV v u):∃ b,u=.ref b/\(iP (Hg P w)).is h t b:=by
 cases r with
 | tup e rs =>
  have z:=rs.ints;subst z;cases ru;obtain⟨_,bH,r,o,h1,h2,n,h3⟩:=(show fH P w H h _ (.tup (t.map V.int)) from ok _ _ e);exact⟨_,rfl,o,bH.toArray,n,h1,h2,h3,by simpa using items_int r⟩
theorem S2(ok:pV P w H h):∀ {r:List (List Int)} {vs:List V} {us:List Value},bg K H vs (r.map fun t=>.tup (t.map D.int))->Vals vs us->su (iP (Hg P w)) h r us
 | [],_,_,q,ru=>by have:=q.zero; subst this; cases ru; exact .nil
 | t :: r,_,_,q,ru=>by
  rw [ao] at q;cases q with
  | cons q1 q2 =>
   cases ru with
   | cons r1 r2 =>
    obtain⟨b,rfl,hb⟩:=Y4 ok q1 r1;exact .cons hb (S2 ok q2 r2)
theorem Y3(ok:pV P w H h){v:V}{u:Value}{r:List (List Int)}(q:bX K H v (.tup (r.map fun t=>.tup (t.map D.int))))(ru:RelV v u):∃ b,u=.ref b/\(VH (Hg P w)).is h r b:=by
 cases q with
 | tup e rs =>
  cases ru;obtain⟨_,bH,r',o,h1,h2,n,h3⟩:=(show fH P w H h _ (.tup _) from ok _ _ e);exact⟨_,rfl,o,bH.toArray,n,h1,h2,h3,by simpa using S2 ok rs r'⟩
theorem S1(ok:pV P w H h):∀ {k:PK} {vs:List V} {us:List Value},bg K H vs (k.map fun r=>.tup (r.map fun t=>.tup (t.map D.int)))->Vals vs us->su (VH (Hg P w)) h k us
 | [],_,_,q,ru=>by have:=q.zero; subst this; cases ru; exact .nil
 | t :: r,_,_,q,ru=>by
  rw [ao] at q;cases q with
  | cons q1 q2 =>
   cases ru with
   | cons r1 r2 =>
    obtain⟨b,rfl,hb⟩:=Y3 ok q1 r1;exact .cons hb (S1 ok q2 r2)
theorem RN(ok:pV P w H h){v:V}{u:Value}{k:PK}(q:bX K H v (pM k))(ru:RelV v u):∃ b,v=.ref b/\u=.ref b/\(L0 P w).is h k b:=by
 unfold pM at q;cases q with
 | tup e rs =>
  cases ru;obtain⟨_,bH,r',o,h1,h2,n,h3⟩:=(show fH P w H h _ (.tup _) from ok _ _ e);exact⟨_,rfl,rfl,o,bH.toArray,n,h1,h2,h3,by simpa using S1 ok rs r'⟩
noncomputable def P1(K:au)(H:Hp)(x:PK×Addr×Value)(p:PK×D):Prop:=x.1=p.1/\bX K H (.ref x.2.1) (pM p.1)/\∃ v,RelV v x.2.2/\bX K H v p.2
theorem CG:∀ {xs:List (PK×Addr×Value)} {ks vs:List V} {kvs:List (PK×D)},Sz kvs ks vs xs->bg K H ks (kvs.map fun p=>pM p.1)->bg K H vs (kvs.map fun p=>p.2)->kH (P1 K H) xs kvs
 | [],ks,vs,kvs,r,r1,r2=>by
  have:kvs=[]:=by simpa using r.1
  subst this; exact .nil
 | x :: xs,ks,vs,kvs,r,r1,r2=>by
  obtain⟨e1,e2,e3⟩:=r;cases kvs with
  | nil=>cases e1
  | cons p kvs =>
   rw [ao,ao] at e1;injection e1 with e4 e5
   subst e2;rw [ao] at r1;rw [ao] at r1 r2;rw [ao] at e3;cases r1 with
   | cons q1 q2 =>
    cases r2 with
    | cons q3 q4 =>
     cases e3 with
     | cons q5 q6=>exact .cons ⟨e4.symm,q1,_,q5,q3⟩ (CG ⟨e5,rfl,q6⟩ q2 q4)
theorem Uv{xs:List (PK×Addr×Value)}{kvs:List (PK×D)}(h:kH (P1 K H) xs kvs):∃ vs,Sz kvs (xs.map fun x=>.ref x.2.1) vs xs/\bg K H (xs.map fun x=>.ref x.2.1) (kvs.map fun p=>pM p.1)/\bg K H vs (kvs.map fun p=>p.2):=by
 induction h with
 | nil=>exact⟨[],⟨rfl,rfl,.nil⟩,.nil,.nil⟩
 | cons h1 _ ih =>
  obtain⟨vs,⟨a,b,c⟩,r1,r2⟩:=ih;obtain⟨e1,e2,v,e3,e4⟩:=h1;exact⟨v :: vs,⟨by rw [ao,ao,a,e1],rfl,.cons e3 c⟩,.cons e2 r1,.cons e4 r2⟩
theorem P1.mono{H':Hp}(k:Kp H H'){x:PK×Addr×Value}{p:PK×D}(h:P1 K H x p):P1 K H' x p:=let ⟨a,b,v,c,d⟩:=h; ⟨a,b.mono k,v,c,d.mono k⟩
theorem ER{H':Hp}(k:Kp H H'){xs:List (PK×Addr×Value)}{kvs:List (PK×D)}(h:kH (P1 K H) xs kvs):kH (P1 K H') xs kvs:=Paired.UN h fun _ _ z=>z.mono k
theorem Uw(ok:pV P w H h){xs:List (PK×Addr×Value)}{kvs:List (PK×D)}(r:kH (P1 K H) xs kvs):∀ x∈xs,(L0 P w).is h x.1 x.2.1:=by
 induction r with
 | nil=>intro x hx; cases hx
 | cons h1 _ ih =>
  intro x hx;rcases List.mem_cons.mp hx with rfl | hx
  ·obtain⟨e1,e2,_⟩:=h1;obtain⟨b,e3,e4,e5⟩:=RN ok e2 (rfl:RelV (.ref _) (.ref _));cases e4;rw [e1]; exact e5
  ·exact ih x hx
theorem yN(ok:pV P w H h){a:Addr}{xs:List (PK×Addr×Value)}{kvs:List (PK×D)}(p:Jj a xs h)(r:kH (P1 K H) xs kvs):h.DictOfH (L0 P w) a xs:=by
 obtain⟨z,y,o,es,ep,h1,h2,h3,h4,h5⟩:=p;exact⟨o,es,ep,h1,h2,h3,h4,Uw ok r,h5⟩
theorem CI{a:Addr}{xs:List (PK×Addr×Value)}(z:xs.length<=aZ)(y:(a == da)=false)(d:h.DictOfH (L0 P w) a xs):fH P w H h a (.ext (Jj a xs)):=by
 obtain⟨o,es,ep,h1,h2,h3,h4,_,h5⟩:=d;refine⟨⟨z,y,o,es,ep,h1,h2,h3,h4,h5⟩,⟨o,h1⟩,?_⟩;rintro g1 g2 ⟨z,y,o,es,ep,q1,q⟩ k;exact⟨z,y,o,es,ep,k _ q1,q⟩
theorem Oe{xs:List (PK×Addr×Value)}{kvs:List (PK×D)}(r:kH (P1 K H) xs kvs)(k:PK):(∃ q v d,atKey xs k=some q/\pO kvs k=some d/\RelV v q.2/\bX K H v d)\/(atKey xs k=none/\pO kvs k=none):=by
 induction r with
 | nil=>exact .inr ⟨rfl,rfl⟩
 | @cons x p xs kvs h1 _ ih =>
  obtain⟨e1,e2,v,e3,e4⟩:=h1;by_cases e:x.1=k
  ·left;refine⟨x.2,v,p.2,?_,?_,e3,e4⟩
   ·unfold atKey; rw [cg (by simpa using e)]; rfl
   ·unfold pO; rw [cg (by simpa using e1.symm.trans e)]; rfl
  ·have a1:atKey (x :: xs) k=atKey xs k:=by unfold atKey; rw [ck (by simpa using e)]
   have a2:pO (p :: kvs) k=pO kvs k:=by unfold pO; rw [ck (by simpa using fun z=>e (e1.trans z))]
   rw [a1,a2]; exact ih
theorem Rt{xs:List (PK×Addr×Value)}{kvs:List (PK×D)}(r:kH (P1 K H) xs kvs)(k:PK):(kvs.any fun p=>decide (p.1=k))=(atKey xs k).isSome:=by
 induction r with
 | nil=>rfl
 | @cons x p xs kvs h1 _ ih =>
  rw [lJ];by_cases e:x.1=k
  ·have a1:(atKey (x :: xs) k).isSome=true:=by unfold atKey; rw [cg (by simpa using e)]; rfl
   rw [a1]; simp [h1.1 ▸ e]
  ·have a1:atKey (x :: xs) k=atKey xs k:=by unfold atKey; rw [ck (by simpa using e)]
   have:¬ p.1=k:=fun z=>e (h1.1.trans z);rw [a1,<-ih]; simp [this]
theorem Rq{xs:List (PK×Addr×Value)}{kvs:List (PK×D)}(r:kH (P1 K H) xs kvs){k:PK}{b:Addr}{v:V}{u:Value}{d:D}(rk:bX K H (.ref b) (pM k))(ru:RelV v u)(rd:bX K H v d):kH (P1 K H) (He xs k b u) (LB kvs k d):=by
 unfold He LB;rw [Rt r k];split
 ·rename_i hs;clear rk hs;induction r with
  | nil=>exact .nil
  | @cons x p xs kvs h1 _ ih =>
   rw [ao,ao];refine .cons ?_ ih;unfold putAt;obtain⟨e1,e2,e3⟩:=h1;by_cases e:x.1=k
   ·rw [if_pos e,if_pos (e1.symm.trans e)];exact⟨e1,e2,v,ru,rd⟩
   ·rw [if_neg e,if_neg (fun z=>e (e1.trans z))];exact⟨e1,e2,e3⟩
 ·exact Qx r ⟨rfl,rk,v,ru,rd⟩
theorem J2{xs:List (PK×Addr×Value)}{kvs:List (PK×D)}(r:kH (P1 K H) xs kvs):xs.length=kvs.length:=iI r
theorem DL{a:Addr}{xs:List (PK×Addr×Value)}{kvs:List (PK×D)}(e:H a=some (.ext (Jj a xs)))(r:kH (P1 K H) xs kvs):Ha K H a (.qh kvs):=by
 obtain⟨vs,a1,a2,a3⟩:=Uv r;exact⟨xs,_,vs,e,a1,a2,a3⟩
theorem IW{G:Gp}{a:Addr}{kvs:List (PK×D)}(ab:lE K H G)(hg:G a=some (.qh kvs)):∃ xs,H a=some (.ext (Jj a xs))/\kH (P1 K H) xs kvs:=by
 obtain⟨xs,ks,vs,e,a1,a2,a3⟩:=ab a _ hg;exact⟨xs,e,CG a1 a2 a3⟩
theorem Kp.Wl{p:Addr}{o:HO}{φ:Heap->Prop}(hp:H p=some (.ext φ)):Kp H (upd H p o) :=
 ⟨fun a ys e=>by rw [bO (by rintro rfl; rw [hp] at e; cases e)]; exact e,fun a ob u e=>by rw [bO (by rintro rfl; rw [hp] at e; cases e)]; exact e⟩
theorem Dc{φ:Heap->Prop}{a:Addr}(ok:pV P w H h)(e:H a=some (.ext φ)):φ h:=(ok a _ e).1
end
section
variable {X:Cx} {elts:List Expr} {kk:Nat} {AB apos pC pos:Pos} {o i k v:Expr} {to ti tk tv:gJ}
theorem JM:Sv X "dict" tyP:=by
 intro pins s σ H G x d u I ab r rd h;cases rd with
 | ref l =>
  unfold tyP at h;dsimp only at h;split at h
  ·rename_i kvs hg;obtain⟨xs,e,_⟩:=IW ab hg;obtain⟨_,_,o,es,ep,h1,h2,_⟩:=Dc I.cn e;cases r;exact⟨⟨o,h1,h2.1⟩,fun a z=>by cases z; exact⟨o,h1,h2.2.1⟩⟩
  ·exact h.elim
 | oF hq _ _ _ =>
  obtain⟨_,_,o,es,ep,h1,h2,_⟩:=(I.cn _ _ hq).2.1;cases r;exact⟨⟨o,h1,h2.1⟩,fun a z=>by cases z; exact⟨o,h1,h2.2.1⟩⟩
 | _=>exact bN h
theorem Kv{pins:List (Addr×Obj)}{s:az}{σ:L2.St}{H:Hp}{G:Gp}{a:Addr}{kvs:List (PK×D)}{ys:List (PK×Addr×Value)}{pk:PK}{w w2:V}{u1 u2:Value}{d':D}{Q:DK}(hu:X.A.units+64 < cLine)(I:Inv X pins σ H s)(ab:lE X.K H G)(pd:Jj a ys s.heap)(r:kH (P1 X.K H) ys kvs)(Ew:bX X.K H w (pM pk))(Lx:RelV w u1)(Q9:bX X.K H w2 d')(NQ:RelV w2 u2)(q:Q ((pO kvs pk).getD d') G) :
  wpAny (model X.prog X.w) X.A (call (.builtin "dict.get") [.ref a,u1,u2]) (r8 X pins σ H G Q) X.xe s:=by
 have dd:=yN I.cn pd r;obtain⟨b,rfl,rfl,hb⟩:=RN I.cn Ew Lx;have hT:s.TypeIs (.ref a) "dict":=by obtain⟨o,es,ep,ho,hc,_⟩:=dd; exact⟨o,ho,hc.1⟩
 refine yf gO hT Jy (Ho _ _ _) (meetsH_dict_get_default (L0 X.prog X.w) a b pd.2.1 u2) ⟨E6 (by lia),pk,ys,hb,dd,?_⟩;rcases Oe r pk with ⟨q1,v1,d1,h1,h2,h3,h4⟩ | ⟨h1,h2⟩
 ·rw [h1];rw [h2] at q;exact⟨v1,H,d1,G,I.tok _,.refl ab,h3,h4,q⟩
 ·rw [h1];rw [h2] at q;exact⟨w2,H,d',G,I.tok _,.refl ab,NQ,Q9,q⟩
theorem Fc (hu:X.A.units+64 < cLine):Jo X "dict.get" Fj:=by
 intro pins s σ H G x d xs ds v us Q I ab rx rd MY CA q;unfold Fj at q;split at q
 ·rename_i a k d';obtain⟨kvs,pk,hg,rfl,q⟩:=q;cases rd;obtain⟨w,w2,rfl,Ew,Q9⟩:=CA.two;obtain⟨u1,u2,rfl,Lx,NQ⟩:=vals2 MY;cases rx;obtain⟨ys,e,r⟩:=IW ab hg;exact Kv hu I ab (Dc I.cn e) r Ew Lx Q9 NQ q
 ·rename_i kvs k d';obtain⟨pk,rfl,q⟩:=q;obtain⟨w,w2,rfl,Ew,Q9⟩:=CA.two;obtain⟨u1,u2,rfl,Lx,NQ⟩:=vals2 MY;cases rd with
  | oF hq rel rk rv =>
   cases rx;exact Kv hu I ab (I.cn _ _ hq).2.1 (CG rel rk rv) Ew Lx Q9 NQ q
 ·exact q.elim
theorem R9{pins:List (Addr×Obj)}{s:az}{σ:L2.St}{H:Hp}{G:Gp}{a:Addr}{kvs:List (PK×D)}{pk:PK}{y w:V}{u r:Value}{d:D}{Q:Unit->az->Prop}(hu:X.A.units+64 < cLine)(I:Inv X pins σ H s)(ab:lE X.K H G)(hg:G a=some (.qh kvs))(hz:kvs.length < SZ)(ry:RelV y u)(dy:bX X.K H y (pM pk))(rv:RelV w r)(dv:bX X.K H w d)
  (h:∀ H' s',Inv X pins σ H' s'->Mv X.K H G H' (eA G a (.qh (LB kvs pk d)))->Q () s'):wpAny (model X.prog X.w) X.A (setItem (.ref a) u r) Q X.xe s:=by
 obtain⟨xs,e,rr⟩:=IW ab hg;have pd:=Dc I.cn e;have dd:=yN I.cn pd rr;obtain⟨b,rfl,rfl,hb⟩:=RN I.cn dy ry;have sz:aZ=16777216:=cF;have hl:xs.length < aZ:=by rw [J2 rr,sz]; exact hz
 refine wpAny_setItem_heap (hsz:=by lia) (E6 (by lia)) hb dd fun h' BZ hs=>?_;have kp:Kp H (upd H a (.ext (Jj a (He xs pk b r)))):=.Wl e;have pr:=ER kp (Rq rr dy rv dv);have he:∃ q,h'.get? a=some q:=let ⟨q,_,_,hq,_⟩:=BZ; ⟨q,hq⟩
 have tj:(He xs pk b r).length<=aZ:=by
  unfold He;split
  ·rw [ak]; lia
  ·rw [aE]; show xs.length+1<=_; lia
 exact h _ _ (rS I (by rw [e]; exact gq) hs he (CI tj pd.2.1 BZ)) (.put ab hg kp (DL bU pr))
theorem EV(hu:X.A.units+64 < cLine)(ho:gu X o to)(hi:gu X i ti)
  (ha:autoParam (∀ v,Ju (.Subscript o i pos) X.env v=(do
   let ov ← Hh [v] (eval o X.env)
   let iv ← Hh [v,ov] (eval i X.env)
   standAt pos
   Hh [v,ov,iv] (setItem ov iv v)
   release [v,ov,iv] [])) Ai._auto_1):MG X (.Subscript o i pos) (FI to ti):=by
 intro E pins s σ H τ G w d u Q hE I r rd h;rw [ha];refine ag (eu (j6 ho hE I h fun x H1 dx G1 ov s1 I1 m1 r1 jK q1=>?_));refine ag (eu (j6 hi hE I1 q1 fun y H2 dy G2 iv s2 nB m2 r2 yD q2=>?_));refine ag (D7 (ag (eu ?_)));have GS:=m1.trans m2;have VF:=rd.mono (GS.kp I.ab);have AD:=I.st.mono (GS.kp I.ab);have YE:=jK.mono (m2.kp I1.ab);unfold HI at q2;split at q2
 ·rename_i l;cases YE;cases r1;obtain⟨kvs,pk,hg,rfl,hz,q⟩:=q2;exact R9 hu nB.inv nB.ab hg hz r2 yD r VF fun H4 s4 I4 m4=>wpAny_release ⟨σ,H4,τ,_,⟨I4,AD.mono (m4.kp nB.ab),m4.ab⟩,GS.trans m4,q⟩
 ·exact q2.elim
theorem BX {P:bI} {w:World} {H:Hp} (h:Heap) (hb:da < h.objs.size):fH P w H (h.push { cls:=.type "dict",data:=.dict #[] }) h.objs.size (.ext (Jj h.objs.size [])) :=
 CI (cw _) (beq_eq_false_iff_ne.mpr (e7 (bB hb))) ⟨_,#[],0,bh _ rfl,⟨rfl,rfl,rfl⟩,rfl,rfl,(fun x hx=>absurd hx (by simp)),cf⟩
theorem J9:gu X (.Dict [] [] pos) PV:=by
 intro E pins s σ H τ G Q hE I h;have hn:=I.inv.cn.fresh (aC s.heap.objs.size);have I1:=I.inv.laid (a:=s.heap.objs.size) (o:=.ext (Jj s.heap.objs.size [])) (h':=s.heap.push { cls:=.type "dict",data:=.dict #[] }) (t':=s.toks) (fun _ _ q=>aH _ q) (aC _) (BX s.heap I.inv.big);exact wpAny_Dict_empty ⟨.ref s.heap.objs.size,_,.ref _,_,I1,.new I.ab hn (DL bU .nil),rfl,.ref _,h _ (I.ab.free hn)⟩
theorem Oo(hu:X.A.units+64 < cLine)(hk:gu X k tk)(hv:gu X v tv):gu X (.Dict [some k] [v] pos) (PU tk tv):=by
 intro E pins s σ H τ G Q hE I h;have hn:=I.inv.cn.fresh (aC s.heap.objs.size);have I1:=I.inv.laid (a:=s.heap.objs.size) (o:=.ext (Jj s.heap.objs.size [])) (h':=s.heap.push { cls:=.type "dict",data:=.dict #[] }) (t':=s.toks) (fun _ _ q=>aH _ q) (aC _) (BX s.heap I.inv.big);have mh:Mv X.K H G (upd H s.heap.objs.size (.ext (Jj s.heap.objs.size []))) G:=.Mf I.ab hn;have I2:I2 X pins σ (upd H s.heap.objs.size (.ext (Jj s.heap.objs.size []))) τ G { s with heap:=s.heap.push { cls:=.type "dict",data:=.dict #[] },toks:=s.toks }:=⟨I1,I.st.mono (.new hn),mh.ab⟩;refine wpAny_Dict_any (by rfl) (by rfl) (by simp) (show 1<=15 by decide) ?_;refine pairTrees_cons_walk (j6 hk hE I2 h fun x H1 dx G1 u s1 I3 m1 r1 jK q1=>?_);refine j6 hv hE I3 q1 fun y H2 dy G2 w s2 I4 m2 r2 yD q2=>?_;obtain⟨pk,rfl,q2⟩:=q2;refine pairTrees_nil_walk ?_;have g0:G s.heap.objs.size=none:=I.ab.free hn;obtain⟨p1,p2⟩:=m1.keep _ _ (bU (H:=H) (a:=s.heap.objs.size) (o:=.ext (Jj s.heap.objs.size []))) g0;obtain⟨p3,p4⟩:=m2.keep _ _ p1 p2;have Wf:=jK.mono (m2.kp I3.ab);have pd:=Dc I4.inv.cn p3;have dd:=yN (K:=X.K) (kvs:=[]) I4.inv.cn pd .nil;obtain⟨b,rfl,rfl,hb⟩:=RN I4.inv.cn Wf r1;unfold storeAll;rw [List.forIn_cons];refine ag (ag (wpAny_dictSet_heap (hsz:=cw _) (LM (by lia)) hb dd fun h' BZ hs=>aA ?_));show wpAny _ _ (forIn [] PUnit.unit _) _ _ _;rw [List.forIn_nil];refine aA ?_;have he:∃ q,h'.get? s.heap.objs.size=some q:=let ⟨q,_,_,hq,_⟩:=BZ; ⟨q,hq⟩
 have es:He [] pk b w=[(pk,b,w)]:=rfl;rw [es] at BZ;have kp:Kp H2 (upd H2 s.heap.objs.size (.ext (Jj s.heap.objs.size [(pk,b,w)]))):=.Wl p3;have I5:=rS (t':=s2.toks+(L0 X.prog X.w).draws pk) I4.inv (by rw [p3]; exact gq) hs he (CI (by exact(show 1<=aZ by decide)) pd.2.1 BZ);have GS:=(mh.trans m1).trans m2;refine⟨.ref s.heap.objs.size,_,.ref s.heap.objs.size,_,I5,?_,rfl,.ref _,q2 _ p4⟩;refine⟨fun a o e n=>?_,fun a n=>?_,fun a g e=>?_⟩
 ·have ne:a≠s.heap.objs.size:=dQ e hn;obtain⟨k1,k2⟩:=GS.keep a o e n;exact⟨by rw [bO ne]; exact k1,by rw [cu ne]; exact k2⟩
 ·by_cases ha:a=s.heap.objs.size
  ·rw [ha,bU]; simp
  ·rw [bO ha]; exact GS.mi a n
 ·by_cases ha:a=s.heap.objs.size
  ·subst ha;rw [ay] at e; cases e;exact DL bU (ER kp (.cons ⟨rfl,Wf,y,r2,yD⟩ .nil))
  ·rw [cu ha] at e;exact(GS.ab a g e).mono kp (bO ha)
theorem yL (ho:gu X o to) (zq:autoParam (Eb o "items" X.env (eval o X.env)=eval o X.env) Ar._auto_1) (zo:autoParam ((apos.endLine == pC.line)=true) Ar._auto_1) :
  MF X (.Tuple elts kk AB) (.Call (.Attribute o "items" apos) [] [] pC) (uM to):=by
 intro E pins s σ H τ G R hE I h;refine vp zq zo (j6 ho hE I h fun x H1 d G1 v s1 I1 m1 r1 jK q1=>?_);cases d with
 | oF kvs =>
  have q1:R (kvs.map fun p=>.tup [pM p.1,p.2]) (fun _=>True) G1:=q1;cases jK with
  | oF hq rel rk rv =>
  rename_i a ob xs ks vs;have pr:=CG rel rk rv;obtain⟨z,ns,o',es,ep,D0,ex,dd,hl,nd⟩:=(I1.inv.cn a _ hq).2.1;have eo:o'=ob:=by have:=(I1.inv.cn a _ hq).1; rw [D0] at this; exact a8 this
  subst eo;have t1:s1.TypeIs (.ref a) "dict":=⟨_,D0,ex.1⟩;have t2:∀ b,fV a=.ref b->∃ ob,s1.heap.get? b=some ob/\ob.dict=none:=fun b z=>by cases z; exact⟨_,D0,ex.2.1⟩
  have l1:=congrArg dO hl;rw [ak,fA] at l1;have l2:=J2 pr;have l3:vs.length=xs.length:=by have:=rel.2.2.length; simpa using this
  have ps:∀ i (h:i < es.size),∃ p,((xs.zip vs).map fun z=>(V.ref z.1.2.1,z.2))[i]?=some p/\RelV p.1 es[i].key/\RelV p.2 es[i].val:=fun i hi=>by
   have i2:i < xs.length:=by lia
   have i3:i < vs.length:=by lia
   have ee:es[i]=⟨hP xs[i].1,.ref xs[i].2.1,xs[i].2.2⟩:=by
    have:=congrArg (fun l=>l[i]?) hl;simp only [bq,ai i2] at this;simpa [hi] using this
   refine⟨(V.ref xs[i].2.1,vs[i]),by rw [bq,ai (by rw [lH]; lia),sP]; rfl,?_⟩;rw [ee];refine⟨rfl,?_⟩;obtain⟨u,X9,ZD⟩:=rel.2.2.get (ai i3);rw [bq,ai i2] at X9;cases X9;exact ZD
  have Uq:∀ (i:Nat) (q:PK×D),kvs[i]?=some q->∃ p,((xs.zip vs).map fun z=>(V.ref z.1.2.1,z.2))[i]?=some p/\bX X.K H1 p.1 (pM q.1)/\bX X.K H1 p.2 q.2:=fun i q e=>by
   have i1:i < kvs.length:=(List.getElem?_eq_some_iff.mp e).1;have i2:i < xs.length:=by lia
   have i3:i < vs.length:=by lia
   refine⟨(V.ref xs[i].2.1,vs[i]),by rw [bq,ai (by rw [lH]; lia),sP]; rfl,?_,?_⟩
   ·obtain⟨w,hw,qb⟩:=rk.get (i:=i) (d:=pM q.1) (by rw [bq,e]; rfl);rw [rel.2.1,bq,ai i2] at hw;cases hw;exact qb
   ·obtain⟨w,hw,qb⟩:=rv.get (i:=i) (d:=q.2) (by rw [bq,e]; rfl);rw [ai i3] at hw;cases hw;exact qb
  have hlen:kvs.length=es.size:=by lia
  cases r1;refine⟨"dict","dict.items",df,fW,qr,t1,t2,lX rfl (xi ?_)⟩;refine yf fW t1 pX (oU _) (uw a ns) ⟨t1,?_⟩;have I2:Inv X pins σ H1 { s1 with heap:=s1.heap.push { cls:=.type "dict_items",data:=.fields #[.ref a] } }:=I1.inv.kept (t':=s1.toks) fun b o e=>aH _ e;refine wX (s:={ s1 with heap:=s1.heap.push { cls:=.type "dict_items",data:=.fields #[.ref a] } }) ⟨_,bh _ rfl,rfl,rfl⟩ (aH _ (I1.inv.cn a _ hq).1) dd ?_;refine⟨_,[_],_,_,H1,G1,kvs.map (fun p=>.tup [pM p.1,p.2]),_,rfl,I2.kept (t':=s1.toks) fun b o e=>aH _ e,m1,wB a _ _ es ep _ dd ps,⟨.none,.none,bh _ rfl⟩,fun b hb=>?_,fun i H2 G2 k ab _=>?_,q1⟩
  ·have e:=List.mem_singleton.mp hb;subst e;exact I2.AO (aC _) (I2.cn.fresh (aC _))
  ·have tj:=k.ja _ _ _ hq;refine⟨fun d hd=>?_,fun hle=>⟨⟨_,tj⟩,by rw [<-hlen]; simpa using hle⟩⟩;rw [bq] at hd;cases GW:kvs[i]? with
   | none=>rw [GW] at hd; cases hd
   | some q =>
    rw [GW] at hd;obtain⟨p,hp,rk,rp⟩:=Uq i q GW;have hi:i < es.size:=by rw [<-hlen]; exact(List.getElem?_eq_some_iff.mp GW).1
    refine⟨⟨⟨_,tj⟩,hi⟩,?_⟩;rintro x H3 ⟨T,p',ex,hT,e3,hy⟩;subst ex e3;rw [hp] at hy;cases hy;have ed:D.tup [pM q.1,q.2]=d:=by simpa using hd
    subst ed;exact⟨.tup bU (.cons ((rk.mono k).mono (.new hT)) (.cons ((rp.mono k).mono (.new hT)) .nil)),.Mf ab hT⟩
 | _=>exact q1.elim
theorem my.drop{K:au}{H:Hp}{kv:List (List Key×V)}{kvs:List (D×D)}(r:my K H kv kvs)(k:List Key):my K H (kv.filter fun p=>decide (p.1≠k)) (kvs.filter fun p=>!ij p.1 (.tup (k.map eC))):=by
 induction r using my.ind with
 | nil=>exact .nil
 | @cons j v d r t rd rs ih =>
  rw [bQ,bQ];simp only [qQ];by_cases e:j=k
  ·simp only [e,ne_eq,not_true_eq_false,decide_false,decide_true,bc,ar,if_false]; exact ih
  ·simp only [e,ne_eq,not_false_eq_true,decide_true,decide_false,eG,if_true]; exact .cons rd ih
theorem KT.drop{H:Hp}{kvs:List (List Key×V)}{xs:List (List Key×Addr×Value)}(r:KT H kvs xs)(k:List Key):KT H (kvs.filter fun p=>decide (p.1≠k)) (TR xs k):=by
 unfold TR;induction r with
 | nil=>exact .nil
 | @cons p q ps qs h1 _ ih =>
  rw [bQ,bQ];by_cases e:p.1=k
  ·have e2:q.1=k:=h1.1.symm.trans e;simp only [e,e2,ne_eq,not_true_eq_false,decide_false,ar,if_false]; exact ih
  ·have e2:¬ q.1=k:=fun z=>e (h1.1.trans z);simp only [e,e2,ne_eq,not_false_eq_true,decide_true,if_true]; exact .cons h1 ih
theorem Fb (hu:X.A.units+64 < cLine):Jo X "dict.pop" Fh:=by
 intro pins s σ H G x d xs ds v us Q I ab rx rd MY CA q;unfold Fh at q;split at q
 ·rename_i a k;obtain⟨kvs,d',hg,⟨hk,ha,hl⟩,q⟩:=q;cases rd;obtain⟨w,rfl,Ew⟩:=CA.one;obtain⟨u1,rfl,Lx⟩:=vals1 MY;cases rx;obtain⟨H',I',m,h⟩:=Dp I ab hg (by unfold ie; rw [iu]; right; rw [hk,ha]; rfl) Ew;rcases h with ⟨kv,kk,hv,rs,rfl,rfl⟩ | ⟨kv,kk,b,hv,rs,rfl,rfl,hb⟩
  ·cases kk <;> simp [eC,kR] at hk
  ·cases Lx;obtain⟨z,hd,ys,rel,dd⟩:=PO I'.cn hv;rcases rs.look kk with ⟨v',d2,e1,e2,rr⟩ | ⟨e1,e2⟩
   ·rw [e2] at hl;cases hl;obtain⟨w',hw,qb⟩:=wj.some_of (v:=v') (o:=(atKey ys kk).map (·.2)) (by rw [<-e1]; exact rel.val kk);obtain⟨p,hp,qe⟩:=Option.map_eq_some_iff.mp hw;refine Og (knd:=iP (cC X.prog X.w)) (mJ (by lia)) (vY I'.cn hb) dd hp (by rw [<-iI rel]; exact z) fun h' BZ hs=>?_;rw [qe];have kp:Kp H' (upd H' a (.dT (kv.filter fun p=>decide (p.1≠kk)))):=.putD hv (.inr ⟨_,rfl⟩);obtain⟨q',es,ep,hq,h2,h3,h4,_,h5⟩:=BZ;have I5:=rS (t':=s.toks+(iP (cC X.prog X.w)).draws kk) I' (by rw [hv]; exact gq) hs ⟨q',hq⟩ (ob:=.dT (kv.filter fun p=>decide (p.1≠kk))) ⟨bw (fJ _ _) z,hd,_,(KT.drop rel kk).keeps fun c ys ec=>by rw [bO (S4 ec hv (fun z=>nomatch z))]; exact ec,q',es,ep,hq,h2,h3,h4,h5⟩;exact⟨v',_,d',_,I5,m.trans (.put m.ab hg kp (.dt bU ((rs.drop kk).mono kp))),qb,rr.mono kp,q⟩
   ·rw [e2] at hl; cases hl
 ·exact q.elim
end
end K2
end
section
namespace K2
open PySem PySem.W PySem.Spec PyProof.Rows PySem.Calls
theorem LW{p q:bI}{loose:List Str}{Xt:az->Bool}{α:Type}{Yf:az->α}{Ya:World->α}{N:Nat}(e:opening p=plainProg p.main.scope.names)(hN:Nat.ble 600 N=true)(f:∀ s,fenceModules? p s=some s)
  (h:∀ (w:World) (os:OsState),(topFrom treeTable p w N ⟨Nf w.params,Le [],Hk,Nd,os⟩).map (fun s=>(openSeen q loose (ye p.main.body) Xt true s,Yf s))=some (openGood q loose,Ya w)):LeftO p q loose Xt Yf Ya N:=fun w=>by
 obtain⟨⟨h',gs,d,k,os⟩,e1,e2⟩:=Option.map_eq_some_iff.mp (boot_open e hN f w);obtain⟨rfl,rfl,rfl,rfl⟩:h'=Nf w.params/\gs=Le []/\d=Hk/\k=Nd:=by simpa using e2
 unfold openEnds;rw [e1];exact h w os
noncomputable abbrev JO(l:OpenLaw)(q:bI):Bool:=chainsOk q&&opensWell l.row.prog&&(frees l.row.toRowW&&l.row.within.isEmpty)
noncomputable abbrev TQ(l:OpenLaw)(q:bI)(s:az):Bool:=xlAt q [] s&&recOk l.row.records s
theorem Mg{l:OpenLaw}{q:bI}{loose:List Str}{K:Params->Frag}{as:List Addr}{d:DefRec}{N:Nat}(ok:l.wellSaid=true)(e:opening l.row.prog=plainProg l.row.prog.main.scope.names)(hN:Nat.ble 600 N=true)(f:∀ s,fenceModules? l.row.prog s=some s)(hK:∀ P,as=(K P).map (·.1))
  (h:∀ (w:World) (os:OsState),(topFrom treeTable l.row.prog w N ⟨Nf w.params,Le [],Hk,Nd,os⟩).map (fun s=>(openSeen q loose (ye l.row.prog.main.body) (TQ l q) true s,as.map s.heap.get?))=some (openGood q loose,(K w.params).map fun p=>some p.2))
  (hd:defOf q l.row.name=some (d,[])) (hp:l.row.prog.theDef l.row.name=some (d.params,d.body,d.scope)) (hk:kwWritten? d.params.kwonlyargs d.params.kw_defaults=some []) (hr:(!l.row.writes||l.row.records.isEmpty)=true) (ht:JO l q=true) (hb:l.row.prog.bare) (hw:l.row.toRowW.promised)
  (c:WalkO q loose (XL q []) (InK K) l.row.toRowW d [] fun f vs=>Jv f vs):l.Holds :=
 holds_law ok fun k1=>holds_open (LW (Yf:=Hook.obs (kHook K as hK)) (Ya:=Hook.val (kHook K as hK)) e hN f h) (Hook.of (kHook K as hK)) (Hook.keeps (kHook K as hK)) (fun s x=>xl_of s (Bool.and_eq_true_iff.mp x).1) XL.keeps hd hp hk (fun s x=>recFacts_of (Bool.and_eq_true_iff.mp x).2) hr k1 ht hb hw c
structure At(K:Frag)(x:Str)(st:Stmt)(f:Addr)(fd:gm):Prop where
 a:nsIn K bW x=some (some (.ref f))
 F:L2.SE K x x st f fd
theorem TF{K:Frag}{x:Str}{st:Stmt}{f:Addr}{oc:Value}{od an:Option Addr}{LJ:Array (Option Value)}{kV doc pm mE ct:Value}(a:autoParam (nsIn K bW x=some (some (.ref f))) Aq._auto_1)(l:autoParam (K.lookup f=some ⟨oc,od,.func (fnOf x x (L2.k7 st) (L2.iK st) (L2.bV st) .none kV doc pm an mE ct),LJ⟩) Aq._auto_1)
  (c:autoParam (codeIn K mE x=true) Aq._auto_1) (k:autoParam (keepIn K (.ref f)=true) Aq._auto_1):At K x st f (fnOf x x (L2.k7 st) (L2.iK st) (L2.bV st) .none kV doc pm an mE ct):=⟨a,L2.Vd l c k⟩
structure Cal(P:bI)(w:World)(K:Frag)(mg:Str->Option Value)(base:Heap)(CX:L2.K8)(k:Nat)(f:Addr)(fd:gm)(x:Str)(ps:List Str)(sp:L2.Sp):Prop where
 ok:L2.wu P w K mg base CX k f fd ps sp
 mg:mg x=some (.ref f)
 kp:keepIn K (.ref f)=true
 bi:L2.Binds K fd ps []
end K2
end
section
namespace K2
open PySem PySem.W PySem.Spec PyProof.Rows L2
structure TM where
 P:bI
 w:World
 K:Frag
 mg:Str->Option Value
 base:Heap
inductive TK (V:TM):Prop
 | mk {h:Heap}:V.K.In h->h.Ns bW V.mg->TK V
theorem TK.mg{V:TM}{x:Str}{v:Value}(Y:TK V)(a:nsIn V.K bW x=some (some v)):V.mg x=some v:=by obtain⟨X,G⟩:=Y; exact mg_of X G a
theorem TK.no{V:TM}{x:Str}(Y:TK V)(a:nsIn V.K bW x=some none):V.mg x=none:=by obtain⟨X,G⟩:=Y; exact mg_none_of X G a
inductive Yt (V:TM) (CX:K8) (k:Nat) (x:Str) (ps:List Str) (sp:Sp):Prop
 | mk {f:Addr} {fd:gm}:Cal V.P V.w V.K V.mg V.base CX k f fd x ps sp->Yt V CX k x ps sp
theorem Yt.el{V:TM}{CX:K8}{k:Nat}{x:Str}{ps:List Str}{sp:Sp}{p:Prop}(z:Yt V CX k x ps sp)(h:∀ f fd,Cal V.P V.w V.K V.mg V.base CX k f fd x ps sp->p):p:=by obtain⟨c⟩:=z; exact h _ _ c
noncomputable abbrev fO(V:TM)(k:Nat)(x:Str)(ps:List Str)(sp:jU):Prop:=Yt V Js k x ps (AF V.K sp)
inductive gQ (K:Frag) (x:Str) (st:Stmt):Prop
 | mk {f:Addr} {fd:gm}:At K x st f fd->gQ K x st
theorem eD{K:Frag}{x:Str}{st:Stmt}{f:Addr}{oc:Value}{od an:Option Addr}{LJ:Array (Option Value)}{kV doc pm mE ct:Value}(a:autoParam (nsIn K bW x=some (some (.ref f))) Aq._auto_1)(l:autoParam (K.lookup f=some ⟨oc,od,.func (fnOf x x (L2.k7 st) (L2.iK st) (L2.bV st) .none kV doc pm an mE ct),LJ⟩) Aq._auto_1)
  (c:autoParam (codeIn K mE x=true) Aq._auto_1) (k:autoParam (keepIn K (.ref f)=true) Aq._auto_1):gQ K x st:=⟨TF a l c k⟩
theorem oQ{V:TM}{x:Str}{st:Stmt}{ps:List Str}{k:Nat}{sp:jU}{rd:hV}(Nn:List Str)(Y:TK V)(F:gQ V.K x st)
  (hr:∀ ds G Q,sp ds G Q (fun _ _=>False)->rd (fun _ _=>False) (ends Q) (ba Nn.length ds) G)
  (hb:∀ {f:Addr} {mE:Value} {A:dI} {outer:List Env} {s:az} {H:Hp} {E:XK},lV k (A.deeper (A6 x (bV st) s.heap.objs.size f mE))->Nn.Nodup->xr (Ds Js V.P V.w V.K V.mg V.base Nn x (bV st) f mE A outer s H E).UK (iK st) rd)
  (S:autoParam (nT Nn ps (bV st)) Aua._auto_1)
  (bn:autoParam (∀ (kV doc pm:Value) (an:Option Addr) (mE ct:Value) (us:List Value),us.length=ps.length->bindArgs (fnOf x x (k7 st) (iK st) (bV st) .none kV doc pm an mE ct) ⟨us,[]⟩=pure (ps.zip us)) Aub._auto_1)
  (len:autoParam (∀ ds G Q E,sp ds G Q E->ds.length=ps.length) Al._auto_1):fO V (k+1) x ps sp:=by
 obtain⟨z⟩:=F;exact⟨⟨Kx z.F S len hr fun _ _ _ _ _ _ r=>hb r S.nd,Y.mg z.a,z.F.kp,z.F.binds bn⟩⟩
noncomputable abbrev oR(K:Frag)(x:Str):Prop:=nsIn K bW x=some none
section
variable {X:Cx} {a b c:Expr} {ta tb tc:gJ}
theorem iW(h:gu X a ta)(h1:autoParam (bY [a] X.env=(false,eval a X.env) :: bY [] X.env) Ar._auto_1):D5 X [a] (aw ta aQ):=dW h gE h1
theorem mT(h:gu X a ta)(k:gu X b tb)(h1:autoParam (bY [a,b] X.env=(false,eval a X.env) :: bY [b] X.env) Ar._auto_1)(k1:autoParam (bY [b] X.env=(false,eval b X.env) :: bY [] X.env) Ar._auto_1):D5 X [a,b] (aw ta (aw tb aQ)):=dW h (dW k gE k1) h1
theorem Bq(h:gu X a ta)(k:gu X b tb)(l:gu X c tc)(h1:autoParam (bY [a,b,c] X.env=(false,eval a X.env) :: bY [b,c] X.env) Ar._auto_1)(k1:autoParam (bY [b,c] X.env=(false,eval b X.env) :: bY [c] X.env) Ar._auto_1)(l1:autoParam (bY [c] X.env=(false,eval c X.env) :: bY [] X.env) Ar._auto_1):D5 X [a,b,c] (aw ta (aw tb (aw tc aQ))):=dW h (dW k (dW l gE l1) k1) h1
end
section
variable {X:Cx} {e:Expr} {es:List Expr} {t:D4} {pos p:Pos} {x:Str} {k n:Nat} {ps:List Str} {sp:jU} {b:Heap}
theorem jt (c:fO ⟨X.prog,X.w,X.K,X.mg,X.base⟩ k x ps sp) (hr:lV n X.A) (ha:D5 X (e :: es) t) (hk:autoParam (k<=n) Ad._auto_1) (hg:autoParam (Gl X x) Ar._auto_1) (Iz:autoParam ((x == ("__debug__" : Str))=false) Ad._auto_1) (he:autoParam (bY (e :: es) X.env=(false,eval e X.env) :: bY es X.env) Ar._auto_1) (GV:autoParam ((wz pos (bY es X.env)).any (·.1)=false) Ar._auto_1) :
  gu X (.Call (.Name x p) (e :: es) [] pos) (bu sp t):=by
 obtain⟨c⟩:=c;exact Ot c.ok (hr.mono hk) hg c.mg c.kp c.bi ha Iz he GV
end
end K2
end
section
set_option maxHeartbeats 1000000
namespace K2
namespace J
section
variable {α:Type} [DecidableEq α]
noncomputable def Iv(f:α->α):Prop:=∀ e,f (f e)=e
noncomputable def jn(f:α->α)(x y:α):α->α:=fun e=>if e=x\/e=y then e else if e=f x then f y else if e=f y then f x else f e
noncomputable def cl(f:α->α)(x y:α):Nat:=if f x=y then 1 else 0
theorem WL{f:α->α}(h:Iv f){x y:α}(hx:f x≠x)(hy:f y≠y)(VJ:x≠y):Iv (jn f x y):=by
 intro e;have h1:=h x;have h2:=h y;have h3:=h e;unfold jn
 grind (splits:=40)
theorem O2{f:α->α}(h:Iv f){x y e:α}(VJ:x≠y)(he:jn f x y e=e):e=x\/e=y\/f e=e:=by
 have h1:=h x;have h2:=h y;unfold jn at he
 grind (splits:=40)
theorem Zl{f:α->α}{x y:α}:jn f x y x=x:=by unfold jn; grind
theorem Zk{f:α->α}{x y:α}:jn f x y y=y:=by unfold jn; grind
theorem Kk{f:α->α}{x y:α}:jn f x y=jn f y x:=by funext e; unfold jn; grind
theorem Sg{f:α->α}(h:Iv f){x y:α}:cl f x y=cl f y x:=by
 have h1:=h x;have h2:=h y;unfold cl; grind
theorem RW{f:α->α}(h:Iv f){x y z w:α}(hx:f x≠x)(hy:f y≠y)(hz:f z≠z)(hw:f w≠w)(xy:x≠y)(xz:x≠z)(xw:x≠w)(yz:y≠z)(yw:y≠w)(zw:z≠w):jn (jn f x y) z w=jn (jn f z w) x y:=by
 funext e;have h1:=h x;have h2:=h y;have h3:=h z;have h4:=h w;have h5:=h e;unfold jn
 grind (splits:=40)
theorem Sh{f:α->α}(h:Iv f){x y z w:α}(hx:f x≠x)(hy:f y≠y)(hz:f z≠z)(hw:f w≠w)(xy:x≠y)(xz:x≠z)(xw:x≠w)(yz:y≠z)(yw:y≠w)(zw:z≠w):cl f x y+cl (jn f x y) z w=cl f z w+cl (jn f z w) x y:=by
 have h1:=h x;have h2:=h y;have h3:=h z;have h4:=h w;unfold cl jn
 grind (splits:=40)
end
end J
end K2
end
section
set_option maxHeartbeats 1000000
namespace K2
namespace J
section
variable {α:Type} [DecidableEq α]
noncomputable abbrev Pr(α:Type):=List (α×α)
noncomputable def i4(f:α->α):Pr α->α->α
 | []=>f
 | p :: ps=>i4 (jn f p.1 p.2) ps
noncomputable def cls(f:α->α):Pr α->Nat
 | []=>0
 | p :: ps=>cl f p.1 p.2+cls (jn f p.1 p.2) ps
noncomputable def es:Pr α->List α
 | []=>[]
 | p :: ps=>p.1 :: p.2 :: es ps
structure Ok(f:α->α)(ps:Pr α):Prop where
 iv:Iv f
 nd:(es ps).Nodup
 dm:∀ e∈es ps,f e≠e
theorem rO{ps qs:Pr α}(h:ps.Perm qs):(es ps).Perm (es qs):=by
 induction h with
 | nil=>exact .nil
 | cons x _ ih=>exact(ih.cons _).cons _
 | swap x y l =>
  show (y.1 :: y.2 :: x.1 :: x.2 :: es l).Perm (x.1 :: x.2 :: y.1 :: y.2 :: es l);have:∀ (a b c d:α) (l:List α),(a :: b :: c :: d :: l).Perm (c :: d :: a :: b :: l):=fun a b c d l=>by
   refine((lM c b _).cons a).trans ?_;refine(lM c a _).trans ?_;refine Ck c ?_;refine((lM d b _).cons a).trans ?_;exact lM d a _
  exact this _ _ _ _ _
 | trans _ _ a b=>exact a.trans b
theorem rP(ps qs:Pr α):es (ps++qs)=es ps++es qs:=by
 induction ps with
 | nil=>rfl
 | cons p ps ih=>rw [aB,es,es,ih]; rfl
theorem IS(ps:Pr α):(es ps).length=2 * ps.length:=by
 induction ps with
 | nil=>rfl
 | cons p ps ih=>rw [es,aj,aj,ih,aj]; lia
theorem pe{ps:Pr α}{e:α}:e∈es ps↔∃ p∈ps,e=p.1\/e=p.2:=by
 induction ps with
 | nil=>simp [es]
 | cons p ps ih =>
  rw [es,bD,bD,ih];constructor
  ·rintro(h | h | ⟨q,h,z⟩)
   ·exact⟨p,by simp,.inl h⟩
   ·exact⟨p,by simp,.inr h⟩
   ·exact⟨q,aL _ h,z⟩
  ·rintro⟨q,h,z⟩;rcases List.mem_cons.mp h with rfl | h
   ·rcases z with z | z
    ·exact .inl z
    ·exact .inr (.inl z)
   ·exact .inr (.inr ⟨q,h,z⟩)
theorem Ok.perm{f:α->α}{ps qs:Pr α}(h:ps.Perm qs)(o:Ok f ps):Ok f qs :=
 ⟨o.iv,(rO h).nodup_iff.mp o.nd,fun e he=>o.dm e ((rO h).mem_iff.mpr he)⟩
theorem Ok.hd{f:α->α}{p:α×α}{ps:Pr α}(o:Ok f (p :: ps)):p.1≠p.2/\f p.1≠p.1/\f p.2≠p.2:=by
 have n:=o.nd;rw [es,a9] at n;exact⟨fun z=>n.1 (by rw [z]; exact cp),o.dm _ (by simp [es]),o.dm _ (by simp [es])⟩
theorem Ok.tl{f:α->α}{p:α×α}{ps:Pr α}(o:Ok f (p :: ps)):Ok (jn f p.1 p.2) ps:=by
 obtain⟨h1,h2,h3⟩:=o.hd;have n:=o.nd;rw [es,a9,a9] at n;refine⟨WL o.iv h2 h3 h1,n.2.2,fun e he z=>?_⟩;rcases O2 o.iv h1 z with z | z | z
 ·exact n.1 (by rw [<-z]; exact aL _ he)
 ·exact n.2.1 (by rw [<-z]; exact he)
 ·exact o.dm e (by simp [es,he]) z
theorem Ok.left{f:α->α}{ps qs:Pr α}(o:Ok f (ps++qs)):Ok (i4 f ps) qs:=by
 induction ps generalizing f with
 | nil=>exact o
 | cons p ps ih=>exact ih o.tl
theorem Ok.pre{f:α->α}{ps qs:Pr α}(o:Ok f (ps++qs)):Ok f ps :=
 ⟨o.iv,by have:=o.nd; rw [rP] at this; exact(List.nodup_append.mp this).1,fun e he=>o.dm e (by rw [rP]; exact nZ _ he)⟩
theorem sY(f:α->α)(ps qs:Pr α):i4 f (ps++qs)=i4 (i4 f ps) qs:=by
 induction ps generalizing f with
 | nil=>rfl
 | cons p ps ih=>exact ih _
theorem tD(f:α->α)(ps qs:Pr α):cls f (ps++qs)=cls f ps+cls (i4 f ps) qs:=by
 induction ps generalizing f with
 | nil=>simp [cls,i4]
 | cons p ps ih=>rw [aB,cls,cls,ih,i4,oB]
theorem Fw{f:α->α}{ps qs:Pr α}(h:ps.Perm qs)(o:Ok f ps):i4 f ps=i4 f qs/\cls f ps=cls f qs:=by
 induction h generalizing f with
 | nil=>exact⟨rfl,rfl⟩
 | cons x _ ih =>
  obtain⟨a,b⟩:=ih o.tl;exact⟨a,by rw [cls,cls,b]⟩
 | swap x y l =>
  have n:=o.nd;simp only [es,a9,bD,not_or] at n;have d:∀ e,e=y.1\/e=y.2\/e=x.1\/e=x.2->f e≠e:=fun e he=>o.dm e (by
   simp only [es,bD];rcases he with h | h | h | h <;> simp [h])
  have a:=RW o.iv (d y.1 (by simp)) (d y.2 (by simp)) (d x.1 (by simp)) (d x.2 (by simp)) n.1.1 n.1.2.1 n.1.2.2.1 n.2.1.1 n.2.1.2.1 n.2.2.1.1;have b:=Sh o.iv (d y.1 (by simp)) (d y.2 (by simp)) (d x.1 (by simp)) (d x.2 (by simp)) n.1.1 n.1.2.1 n.1.2.2.1 n.2.1.1 n.2.1.2.1 n.2.2.1.1;refine⟨?_,?_⟩
  ·show i4 (jn (jn f y.1 y.2) x.1 x.2) l=i4 (jn (jn f x.1 x.2) y.1 y.2) l;rw [a]
  ·show cl f y.1 y.2+(cl (jn f y.1 y.2) x.1 x.2+cls (jn (jn f y.1 y.2) x.1 x.2) l)=cl f x.1 x.2+(cl (jn f x.1 x.2) y.1 y.2+cls (jn (jn f x.1 x.2) y.1 y.2) l);rw [a]; lia
 | trans h1 h2 i1 i2 =>
  obtain⟨a,b⟩:=i1 o;obtain⟨c,d⟩:=i2 (o.perm h1);exact⟨a.trans c,b.trans d⟩
theorem OZ{f:α->α}{x y:α}{ps:Pr α}(o:Iv f):i4 f ((x,y) :: ps)=i4 f ((y,x) :: ps)/\cls f ((x,y) :: ps)=cls f ((y,x) :: ps):=by
 refine⟨?_,?_⟩
 ·show i4 (jn f x y) ps=i4 (jn f y x) ps;rw [Kk]
 ·show cl f x y+cls (jn f x y) ps=cl f y x+cls (jn f y x) ps;rw [Kk,Sg o]
end
end J
end K2
end
section
set_option maxHeartbeats 1000000
namespace K2
namespace J
noncomputable abbrev Fn:=Int->Int
noncomputable def lp(g:Fn):Fn:=fun i=>-(g (i+2)) - g (i - 2)
noncomputable def sh(b:Int)(g:Fn):Fn:=fun i=>g (i+b)
noncomputable def jf:Nat->Fn->Fn
 | 0,g=>g
 | n+1,g=>lp (jf n g)
theorem RT(n m:Nat)(g:Fn):jf (n+m) g=jf n (jf m g):=by
 induction n with
 | zero=>rw [Nat.zero_add]; rfl
 | succ n ih=>rw [Nat.succ_add,jf,jf,ih]
theorem WD(b:Int)(g:Fn):lp (sh b g)=sh b (lp g):=by
 funext i;unfold lp sh;rw [show i+2+b=i+b+2 by lia,show i - 2+b=i+b - 2 by lia]
theorem y9(n:Nat)(b:Int)(g:Fn):jf n (sh b g)=sh b (jf n g):=by
 induction n with
 | zero=>rfl
 | succ n ih=>rw [jf,jf,ih,WD]
theorem SM(a b:Int)(g:Fn):sh a (sh b g)=sh (a+b) g:=by
 funext i;unfold sh;rw [Int.add_assoc]
theorem Q8(g:Fn):sh 0 g=g:=by
 funext i;unfold sh;rw [vA]
noncomputable def pl(g k:Fn):Fn:=fun i=>g i+k i
noncomputable def sc(c:Int)(g:Fn):Fn:=fun i=>c * g i
theorem WG(g k:Fn):lp (pl g k)=pl (lp g) (lp k):=by
 funext i;show -(g (i+2)+k (i+2)) - (g (i - 2)+k (i - 2))=(-(g (i+2)) - g (i - 2))+(-(k (i+2)) - k (i - 2));lia
theorem WE(c:Int)(g:Fn):lp (sc c g)=sc c (lp g):=by
 funext i;unfold lp sc;rw [Int.mul_sub,Int.mul_neg]
theorem OM(n:Nat)(g k:Fn):jf n (pl g k)=pl (jf n g) (jf n k):=by
 induction n with
 | zero=>rfl
 | succ n ih=>rw [jf,jf,jf,ih,WG]
theorem OL(n:Nat)(c:Int)(g:Fn):jf n (sc c g)=sc c (jf n g):=by
 induction n with
 | zero=>rfl
 | succ n ih=>rw [jf,jf,ih,WE]
theorem SQ(b:Int)(g k:Fn):sh b (pl g k)=pl (sh b g) (sh b k):=rfl
theorem SO(b c:Int)(g:Fn):sh b (sc c g)=sc c (sh b g):=rfl
noncomputable def js(n:Int)(w:Bool):Pr T3:=if w=false then [(⟨n,0,0⟩,⟨n,1,1⟩),(⟨n,1,0⟩,⟨n,0,1⟩)] else [(⟨n,0,0⟩,⟨n,1,0⟩),(⟨n,0,1⟩,⟨n,1,1⟩)]
noncomputable def Br:(T3->T3)->List (Int×Int)->Fn->Int
 | _,[],g=>g 0
 | f,p :: ps,g=>Br (i4 f (js p.1 false)) ps (jf (cls f (js p.1 false)) (sh p.2 g))+Br (i4 f (js p.1 true)) ps (jf (cls f (js p.1 true)) (sh (-p.2) g))
theorem Qv:∀ (ps:List (Int×Int)) (f:T3->T3) (g k:Fn),Br f ps (pl g k)=Br f ps g+Br f ps k
 | [],_,_,_=>rfl
 | p :: ps,f,g,k=>by
  rw [Br,Br,Br,SQ,SQ,OM,OM,Qv,Qv]; lia
theorem K9:∀ (ps:List (Int×Int)) (f:T3->T3) (c:Int) (g:Fn),Br f ps (sc c g)=c * Br f ps g
 | [],_,_,_=>rfl
 | p :: ps,f,c,g=>by
  rw [Br,Br,SO,SO,OL,OL,K9,K9,Hs]
noncomputable def ky(n:Int):List T3:=[⟨n,0,0⟩,⟨n,1,1⟩,⟨n,1,0⟩,⟨n,0,1⟩]
theorem kr(n:Int)(w:Bool):(es (js n w)).Perm (ky n):=by
 cases w with
 | false=>exact .refl _
 | true =>
  show [(⟨n,0,0⟩:T3),⟨n,1,0⟩,⟨n,0,1⟩,⟨n,1,1⟩].Perm _;refine Ck _ ?_;refine(vg (l₁:=[(⟨n,1,0⟩:T3),⟨n,0,1⟩]) (l₂:=[⟨n,1,1⟩]))
structure Dm(f:T3->T3)(ns:List Int):Prop where
 iv:Iv f
 nd:ns.Nodup
 dm:∀ n∈ns,∀ e∈ky n,f e≠e
theorem Dm.perm{f:T3->T3}{ns ms:List Int}(h:ns.Perm ms)(d:Dm f ns):Dm f ms:=⟨d.iv,h.nodup_iff.mp d.nd,fun n hn=>d.dm n (h.mem_iff.mpr hn)⟩
theorem zF(n:Int):(ky n).Nodup:=by
 unfold ky;simp
theorem rR{n:Int}{e:T3}(h:e∈ky n):e.a=n:=by
 unfold ky at h;simp only [bD,cP,or_false] at h;rcases h with rfl | rfl | rfl | rfl <;> rfl
theorem Dm.ok{f:T3->T3}{n:Int}{ns:List Int}(d:Dm f (n :: ns))(w:Bool):Ok f (js n w) :=
 ⟨d.iv,(kr n w).nodup_iff.mpr (zF n),fun e he=>d.dm n (by simp) e ((kr n w).mem_iff.mp he)⟩
theorem Dm.Wt{f:T3->T3}{n m:Int}{ns:List Int}(d:Dm f (n :: m :: ns))(w v:Bool):Ok f (js n w++js m v):=by
 have WZ:n≠m:=fun z=>(List.nodup_cons.mp d.nd).1 (by rw [z]; exact cp);refine⟨d.iv,?_,fun e he=>?_⟩
 ·rw [rP,cA];refine⟨(kr n w).nodup_iff.mpr (zF n),(kr m v).nodup_iff.mpr (zF m),fun a ha b hb z=>?_⟩;have h1:=rR ((kr n w).mem_iff.mp ha);have h2:=rR ((kr m v).mem_iff.mp hb);rw [z] at h1;exact WZ (h1.symm.trans h2)
 ·rw [rP,List.mem_append] at he;rcases he with he | he
  ·exact d.dm n (by simp) e ((kr n w).mem_iff.mp he)
  ·exact d.dm m (by simp) e ((kr m v).mem_iff.mp he)
theorem Kj{f:T3->T3}:∀ {ps:Pr T3},Ok f ps->∀ {e:T3},i4 f ps e=e->e∈es ps\/f e=e:=by
 intro ps;induction ps generalizing f with
 | nil=>intro o e h; exact .inr h
 | cons p ps ih =>
  intro o e h;rcases ih o.tl h with z | z
  ·exact .inl (by simp [es,z])
  ·rcases O2 o.iv o.hd.1 z with z | z | z
   ·exact .inl (by simp [es,z])
   ·exact .inl (by simp [es,z])
   ·exact .inr z
theorem O0{f:T3->T3}:∀ {ps:Pr T3},Ok f ps->Iv (i4 f ps):=by
 intro ps;induction ps generalizing f with
 | nil=>intro o; exact o.iv
 | cons p ps ih=>intro o; exact ih o.tl
theorem Dm.step{f:T3->T3}{n:Int}{ns:List Int}(d:Dm f (n :: ns))(w:Bool):Dm (i4 f (js n w)) ns:=by
 have nn:=List.nodup_cons.mp d.nd;refine⟨O0 (d.ok w),nn.2,fun m hm e he z=>?_⟩;rcases Kj (d.ok w) z with z | z
 ·have h1:=rR ((kr n w).mem_iff.mp z);have h2:=rR he;exact nn.1 (by rw [<-h1,h2]; exact hm)
 ·exact d.dm m (aL _ hm) e he z
theorem SG{f:T3->T3}{p q:Int×Int}{ps:List (Int×Int)}(d:Dm f (p.1 :: q.1 :: ps.map (·.1)))(g:Fn):Br f (p :: q :: ps) g=Br f (q :: p :: ps) g:=by
 have key:∀ (w v:Bool),i4 (i4 f (js p.1 w)) (js q.1 v)=i4 (i4 f (js q.1 v)) (js p.1 w)/\cls (i4 f (js p.1 w)) (js q.1 v)+cls f (js p.1 w)=cls (i4 f (js q.1 v)) (js p.1 w)+cls f (js q.1 v):=fun w v=>by
  obtain⟨a,b⟩:=Fw (vg) (d.Wt w v);rw [sY,sY] at a;rw [tD,tD] at b;exact⟨a,by lia⟩
 have kk:∀ (w v:Bool) (x y:Int),Br (i4 (i4 f (js p.1 w)) (js q.1 v)) ps (jf (cls (i4 f (js p.1 w)) (js q.1 v)) (sh x (jf (cls f (js p.1 w)) (sh y g))))=Br (i4 (i4 f (js q.1 v)) (js p.1 w)) ps (jf (cls (i4 f (js q.1 v)) (js p.1 w)) (sh y (jf (cls f (js q.1 v)) (sh x g)))):=fun w v x y=>by
  obtain⟨a,b⟩:=key w v;have z:∀ (m n:Nat) (x y:Int),jf m (sh x (jf n (sh y g)))=sh (x+y) (jf (m+n) g):=fun m n x y=>by rw [y9,y9,y9,SM,RT]
  rw [a,z,z,b,Int.add_comm x y]
 show (Br _ ps _+Br _ ps _)+(Br _ ps _+Br _ ps _)=(Br _ ps _+Br _ ps _)+(Br _ ps _+Br _ ps _);rw [kk,kk,kk,kk];lia
theorem DR{ps qs:List (Int×Int)}(h:ps.Perm qs):∀ {f:T3->T3},Dm f (ps.map (·.1))->∀ g,Br f ps g=Br f qs g:=by
 induction h with
 | nil=>intro f d g; rfl
 | cons x _ ih=>intro f d g; rw [Br,Br,ih (d.step false),ih (d.step true)]
 | swap x y l=>intro f d g; exact SG d g
 | trans h1 h2 i1 i2=>intro f d g; rw [i1 d,i2 (d.perm (h1.map _))]
end J
end K2
end
section
set_option maxHeartbeats 1000000
namespace K2
namespace J
section
variable {α:Type} [DecidableEq α]
theorem Ok.es{f:α->α}{ps qs:Pr α}(h:(es ps).Perm (es qs))(o:Ok f ps):Ok f qs:=⟨o.iv,h.nodup_iff.mp o.nd,fun e he=>o.dm e (h.mem_iff.mpr he)⟩
structure Sm(ps qs:Pr α):Prop where
 es:(es ps).Perm (es qs)
 eq:∀ f,Ok f ps->i4 f ps=i4 f qs/\cls f ps=cls f qs
theorem Sm.trans{ps qs rs:Pr α}(a:Sm ps qs)(b:Sm qs rs):Sm ps rs:=⟨a.es.trans b.es,fun f o=>by
 obtain⟨a1,a2⟩:=a.eq f o;obtain⟨b1,b2⟩:=b.eq f (o.es a.es);exact⟨a1.trans b1,a2.trans b2⟩⟩
theorem Sm.perm{ps qs:Pr α}(h:ps.Perm qs):Sm ps qs:=⟨rO h,fun f o=>Fw h o⟩
theorem Sm.turn(x y:α)(ps:Pr α):Sm ((x,y) :: ps) ((y,x) :: ps):=⟨lM _ _ _,fun f o=>OZ o.iv⟩
theorem Sm.cons(p:α×α){ps qs:Pr α}(h:Sm ps qs):Sm (p :: ps) (p :: qs):=⟨(h.es.cons _).cons _,fun f o=>by
 obtain⟨a1,a2⟩:=h.eq _ o.tl;exact⟨a1,by rw [cls,cls,a2]⟩⟩
end
noncomputable abbrev Pn:=List (Nat×Nat)
section
variable {α:Type} [DecidableEq α] (v:Nat->α)
noncomputable abbrev mp(ps:Pn):Pr α:=ps.map fun p=>(v p.1,v p.2)
variable {v}
end
end J
end K2
end
section
set_option maxHeartbeats 1000000
end
section
set_option maxHeartbeats 1000000
namespace K2
namespace J
noncomputable def vv(nm:Nat->Int)(i:Nat):T3:=⟨nm (i / 4),((i / 2 % 2:Nat):Int),((i % 2:Nat):Int)⟩
noncomputable def jN(i:Nat)(w:Bool):Pn:=if w=false then [(4 * i,4 * i+3),(4 * i+2,4 * i+1)] else [(4 * i,4 * i+2),(4 * i+1,4 * i+3)]
theorem mC{α β:Type}{v:α->β}:∀ {l:List α},l.Nodup->(∀ i∈l,∀ j∈l,v i=v j->i=j)->(l.map v).Nodup
 | [],_,_=>cf
 | a :: l,h,hi=>by
  rw [a9] at h;rw [ao,a9];refine⟨fun z=>?_,mC h.2 fun i Ts j hj=>hi i (aL _ Ts) j (aL _ hj)⟩;obtain⟨b,hb,e⟩:=List.mem_map.mp z;have:=hi a (by simp) b (aL _ hb) e.symm;exact h.1 (this ▸ hb)
end J
end K2
end
section
namespace K2
open PySem (Str)
open Enc (enc)
theorem ig{α:Type} [DecidableEq α] [Enc α]{G G1:Gp}{p:Nat}{xs:List α}{Q:DK}(l:ff G G1)(hp:G p=none)(h1:G1 p=some (.lst (xs.map enc)))(q:Q (enc xs) G):Jr G1 (.ref p) Q :=
 C3 l hp h1 (Ab.same _) q
theorem cW{α:Type}{f:α->D}{g:Aw}{body:hV}{ok:Gp->Prop}{xs:List α}{E:mG}{K:nU}{τ:iN}{G:Gp}(I:List α->iN->Gp->Prop)
  (h0:I [] τ G) (cn:∀ pre τ G,I pre τ G->ok G)
  (step:∀ (pre:List α) (x:α) (post:List α) τ G (N:iN->Gp->Prop),xs=pre++x :: post->I pre τ G->(∀ vB G2,I (pre++[x]) vB G2->N vB G2) ->
   g E (f x) τ G fun oX G1=>body E { K with nx:=N,ct:=N,bk:=K.nx } oX G1)
  (fin:∀ τ G,I xs τ G->K.nx τ G):pR g body ok (xs.map f) E K τ G:=by
 have main:∀ (post pre:List α) τ G,xs=pre++post->I pre τ G->pR g body ok (post.map f) E K τ G:=by
  intro post;induction post with
  | nil =>
   intro pre τ G e h;rw [dq] at e;subst e;exact⟨cn _ _ _ h,fin _ _ h⟩
  | cons d post ih =>
   intro pre τ G e h;refine⟨cn _ _ _ h,?_⟩;exact step pre d post τ G _ e h fun vB G2 h2=>ih (pre++[d]) vB G2 (by rw [e,cU]; rfl) h2
 exact main xs [] τ G rfl h0
theorem gH{α:Type}{f:α->D}{g:Aw}{c:Option xT}{e:gJ}{ok:Gp->Prop}{xs:List α}{E:mG}{τ:iN}{G:Gp}{Q:List D->Gp->Prop}(I:List α->List D->iN->Gp->Prop)
  (h0:I [] [] τ G) (cn:∀ pre acc τ G,I pre acc τ G->ok G)
  (step:∀ (pre:List α) (x:α) (post:List α) (acc:List D) τ G (N:iN->List D->Gp->Prop),xs=pre++x :: post->I pre acc τ G->(∀ vB wg G2,I (pre++[x]) wg vB G2->N vB wg G2) ->
   g E (f x) τ G fun oX G1=>match c with
    | none=>e E oX G1 fun x G2=>N oX (acc++[x]) G2
    | some c=>c E oX G1 fun k G2=>if k=true then e E oX G2 fun x G3=>N oX (acc++[x]) G3 else N oX acc G2)
  (fin:∀ acc τ G,I xs acc τ G->Q acc G):jv g c e ok (xs.map f) E τ G [] Q:=by
 have main:∀ (post pre:List α) (acc:List D) τ G,xs=pre++post->I pre acc τ G->jv g c e ok (post.map f) E τ G acc Q:=by
  intro post;induction post with
  | nil =>
   intro pre acc τ G e h;rw [dq] at e;subst e;exact⟨cn _ _ _ _ h,fin _ _ _ h⟩
  | cons d post ih =>
   intro pre acc τ G e' h;refine⟨cn _ _ _ _ h,?_⟩;have:=step pre d post acc τ G (fun vB wg G2=>jv g c e ok (post.map f) E vB G2 wg Q) e' h fun vB wg G2 h2=>ih (pre++[d]) wg vB G2 (by rw [e',cU]; rfl) h2;cases c with
   | none=>exact this
   | some c=>exact this
 exact main xs [] [] τ G rfl h0
theorem fh{α:Type} [DecidableEq α] [Enc α]{xs:List α}{G:Gp}{R:List D->(Gp->Prop)->Gp->Prop}(h:R (xs.map enc) (fun _=>True) G):QI (enc xs) G R:=h
theorem wZ{α:Type} [DecidableEq α] [Enc α]{xs:List α}{G:Gp}{R:List D->(Gp->Prop)->Gp->Prop}(h:R (kL 0 (xs.map enc)) (fun _=>True) G):uN (enc xs) G R:=h
theorem Au{n:Nat}(h:n<=1000):n<=SZ:=by unfold SZ; lia
theorem Eo{n:Nat}(h:n<=1000):n < SZ:=by unfold SZ; lia
noncomputable abbrev Rows:=List (List T3)
noncomputable def T3.s(p:T3):T2:=⟨p.a,p.b⟩
structure Dr(rows:Rows):Prop where
 nd:(rows.flatten.map T3.s).Nodup
 way:∀ p∈rows.flatten,p.b=0\/p.b=1
 hand:∀ p∈rows.flatten,p.c=1\/p.c=-1
 AK:∀ p∈rows.flatten,(⟨p.a,1 - p.b,p.c⟩:T3)∈rows.flatten
 BN:rows.flatten.length<=24
 str:rows.length<=3
namespace P
noncomputable def fY:jU:=V8 (fun rows:Rows=>rows.flatten.length<=1000) fun rows=>rows.flatten
noncomputable def qB:hV :=
 (b8 (bE (jb aQ) (aG 1))
 (b8 (dN (jS (av 0)) (aG 2) (kA (tS Cq xI (av 1) (aw (av 2) aQ))))
 (bR (cm (av 1)))))
theorem qX(ds:List D)(G:Gp)(Q:DK)(h:fY ds G Q fun _ _=>False):qB (fun _ _=>False) (ends Q) (ba 3 ds) G:=by
 obtain⟨rows,rfl,hl,q⟩:=h;unfold qB;simp only [ends,ba,ao,aT,aj,ax,aO,aB,aP,cJ,bE,jb,aQ,aG,aq,ah];refine⟨by decide,fun p hp=>?_⟩;refine cM (fun τ G'=>(∃ b,τ=[some (enc rows),some (.ref p),b])/\ff G G'/\G' p=some (.lst (rows.flatten.map enc))) ?_ ?_
 ·intro N hN;simp only [dN,dM,av,aa];refine fh ?_;refine cW (xs:=rows) (fun pre τ G'=>(∃ b,τ=[some (enc rows),some (.ref p),b])/\ff G G'/\G' p=some (.lst (pre.flatten.map enc))) ⟨⟨_,rfl⟩,.new hp,ay⟩ (fun _ _ _ _=>trivial) ?_ ?_
  ·rintro pre r post τ G' N2 e ⟨⟨b,rfl⟩,l,gp⟩ kG;have hlen:pre.flatten.length+r.length<=rows.flatten.length:=by
    rw [e]; simp only [kK,eW,aE]; lia
   simp only [aG,kA,tS,av,aq,ah,ae,aa,nF,gp,aw,aQ,wU,oM (IsL.enc r),true_and];refine⟨Au (by simp only [ak]; lia),?_⟩;refine kG _ _ ⟨⟨_,rfl⟩,l.put hp,?_⟩;rw [ay]; simp
  ·rintro τ G' ⟨⟨b,rfl⟩,l,gp⟩;exact hN _ _ ⟨⟨_,rfl⟩,l,gp⟩
 ·rintro _ G' ⟨⟨b,rfl⟩,l,gp⟩;simp only [bR,cm,av,ae,aa];exact ig l hp gp q
theorem lU(p:T3):(enc p:D)=.tup [.int p.a,.int p.b,.int p.c]:=rfl
theorem Vh(p:T2):(enc p:D)=.tup [.int p.a,.int p.b]:=rfl
theorem pA(i:Int):(enc i:D)=.int i:=rfl
theorem VT{a:D}{r:List D}:pU (a :: r) 0=some a:=by
 rw [nS _ (by lia) (by simp)]; rfl
theorem Ym{a b:D}{r:List D}:pU (a :: b :: r) 1=some b:=by
 rw [nS _ (by lia) (by simp; lia)]; rfl
theorem at2{a b c:D}{r:List D}:pU (a :: b :: c :: r) 2=some c:=by
 rw [nS _ (by lia) (by simp; lia)]; rfl
noncomputable def names(rows:Rows):List Int:=MX ((rows.flatten.filter fun p=>p.b == 0).map (·.a))
noncomputable def fN:jU:=V8 (fun rows:Rows=>rows.flatten.length < 64) names
noncomputable def wJ:hV :=
 (bR (cm (wa u5 (aw (fx 1 [] (jS (bu fY (aw (av 0) aQ))) (aG 0) (some (fT (br (GR false) (br kE (av 0) (dC (.int 1))) (dC (.int 0))))) (br kE (av 0) (dC (.int 0)))) aQ))))
theorem xf(ds:List D)(G:Gp)(Q:DK)(h:fN ds G Q fun _ _=>False):wJ (fun _ _=>False) (ends Q) (ba 1 ds) G:=by
 obtain⟨rows,rfl,hl,q⟩:=h;unfold wJ;simp only [bR,cm,wa,aw,fx,ba,ao,aT,aj,ax,aB,aP,aQ,ends,dM,bu,av,aa];refine⟨rows,rfl,(show rows.flatten.length<=1000 by lia),fh ⟨Au (by rw [ak]; show rows.flatten.length<=1000; lia),?_⟩⟩;refine gH (xs:=rows.flatten) (fun pre acc τ G'=>G=G'/\(∃ a,τ=[a])/\acc=((pre.filter fun p=>p.b == 0).map (·.a)).map enc) ⟨rfl,⟨_,rfl⟩,rfl⟩ (fun _ _ _ _ _=>trivial) ?_ ?_
 ·rintro pre x post acc τ G' N e ⟨rfl,⟨a,rfl⟩,rfl⟩ hN;simp only [aG,lU,ah,br,av,aa,dC,jB,VT,cD,Ym];refine⟨_,_,.int _,.int _,?_⟩;simp only [ar,kT,if_false,bF];split
  ·rename_i h;refine hN _ _ _ ⟨rfl,⟨_,rfl⟩,?_⟩;simp [fQ,bQ,h,pA]
  ·rename_i h;refine hN _ _ _ ⟨rfl,⟨_,rfl⟩,?_⟩;simp [fQ,bQ,h]
 ·rintro acc τ G' ⟨rfl,⟨a,rfl⟩,rfl⟩ p hp;refine zR (IsL.ref ay) (by rw [ak]; exact hW (fJ _ _) hl) fun p2 qe=>?_;exact ig ((ff.new hp).trans (.new qe)) ((ff.new hp).free qe) ay q
noncomputable def handOf(rows:Rows)(n:Int):Int:=((rows.flatten.find? fun p=>p.a == n).map (·.c)).getD 0
noncomputable def gL:jU:=V7 (fun (rows:Rows) (n:Int)=>rows.flatten.length<=1000/\∃ p∈rows.flatten,p.a=n) handOf
noncomputable def yB:hV :=
 (b8 (dN (jS (bu fY (aw (av 0) aQ))) (aG 2) (fc (fT (br (GR false) (br kE (av 2) (dC (.int 0))) (av 1))) (bR (cm (br kE (av 2) (dC (.int 2))))) cN))
 IZ)
theorem z8(ds:List D)(G:Gp)(Q:DK)(h:gL ds G Q fun _ _=>False):yB (fun _ _=>False) (ends Q) (ba 3 ds) G:=by
 obtain⟨rows,n,rfl,⟨hl,hn⟩,q⟩:=h;unfold yB;refine cM (fun τ G'=>False) ?_ (fun _ _ h=>h.elim);intro N hN;simp only [dN,ba,ao,aT,aj,ax,aO,aB,aP,ends,dM,bu,aw,av,aa,aQ];refine⟨rows,rfl,hl,fh ?_⟩;refine cW (xs:=rows.flatten) (fun pre τ G'=>G=G'/\(∃ a,τ=[some (enc rows),some (enc n),a])/\∀ p∈pre,p.a≠n) ⟨rfl,⟨_,rfl⟩,by simp⟩ (fun _ _ _ _=>trivial) ?_ ?_
 ·rintro pre x post τ G' N2 e ⟨rfl,⟨a,rfl⟩,hp⟩ kG;simp only [aG,fc,pA,lU,aq,ah,bR,cm,br,av,ae,aa,dC,jB,at2,cN,cD,VT];refine⟨_,_,.int _,.int _,?_⟩;simp only [ar,kT,if_false,bF];by_cases hx:x.a=n
  ·simp only [hx,beq_self_eq_true,if_true];refine cS ?_;have:handOf rows n=x.c:=by
    unfold handOf;have:rows.flatten.find? (fun p=>p.a == n)=some x:=by
     rw [e,Ba];have:pre.find? (fun p=>p.a == n)=none:=by
      rw [fP]; intro p xm; simpa using hp p xm
     rw [this];simp [hx]
    rw [this]; rfl
   rw [<-this]; exact q
  ·have:(x.a == n)=false:=by simpa using hx
   simp only [this,ar,if_false];refine kG _ _ ⟨rfl,⟨_,rfl⟩,fun p xm=>?_⟩;rcases List.mem_append.mp xm with h | h
   ·exact hp p h
   ·rw [List.mem_singleton.mp h]; exact hx
 ·rintro τ G' ⟨rfl,_,hp⟩;obtain⟨p,ZL,qe⟩:=hn;exact absurd qe (hp p ZL)
noncomputable def d8(row:List T3)(i:Int):List T2:=if row=[] then [⟨i,2⟩] else row.map T3.s
noncomputable def lj:jU:=V7 (fun (row:List T3) (_:Int)=>row.length<=1000) d8
noncomputable def wG:hV :=
 (b8 (fc (mw (fT (av 0))) (bR (cm (jb (aw (gi (aw (av 1) (aw (dC (.int 2)) aQ))) aQ)))) cN)
 (bR (cm (fx 1 [] (jS (av 0)) (aG 0) none (zK (av 0) fM (lC (dC (.int 2))))))))
theorem xc(ds:List D)(G:Gp)(Q:DK)(h:lj ds G Q fun _ _=>False):wG (fun _ _=>False) (ends Q) (ba 2 ds) G:=by
 obtain⟨row,i,rfl,hl,q⟩:=h;unfold wG;refine cM (fun τ G'=>G=G'/\τ=[some (enc row),some (enc i)]/\row≠[]) ?_ ?_
 ·intro N hN;simp only [fc,mw,ba,ao,aT,aj,ax,aB,aP,bR,cm,jb,aw,gi,av,ae,aa,dC,aQ,ends,cN,cD];refine Np (IsL.enc row) ?_;cases row with
  | nil =>
   simp only [aT,List.isEmpty_nil,bc,eG,if_true];refine⟨by decide,by decide,fun p hp=>ig (xs:=[(⟨i,2⟩:T2)]) (.new hp) hp ay ?_⟩;exact q
  | cons a r =>
   simp only [ao,List.isEmpty_cons,eG,bc,ar,if_false];exact hN _ _ ⟨rfl,rfl,by simp⟩
 rintro _ _ ⟨rfl,rfl,oA⟩;simp only [bR,cm,fx,ends,dM,av,aa];refine fh ⟨Au (by rw [ak]; exact hl),?_⟩;refine gH (xs:=row) (fun pre acc τ G'=>G=G'/\(∃ a,τ=[a])/\acc=(pre.map T3.s).map enc) ⟨rfl,⟨_,rfl⟩,rfl⟩ (fun _ _ _ _ _=>trivial) ?_ ?_
 ·rintro pre x post acc τ G' N e ⟨rfl,⟨a,rfl⟩,rfl⟩ hN;simp only [aG,zK,av,lU,ah,aa,fM,CB,aj,ax,kz,dC,iV];refine⟨by decide,hN _ _ _ ⟨rfl,⟨_,rfl⟩,?_⟩⟩;rw [aK,aK]; rfl
 ·rintro acc τ G' ⟨rfl,⟨a,rfl⟩,rfl⟩ p hp;refine ig (.new hp) hp ay ?_;have:d8 row i=row.map T3.s:=by unfold d8; rw [if_neg oA]
  rw [<-this]; exact q
noncomputable def NH:Rows->Nat->List T2
 | [],_=>[]
 | r :: rs,k=>d8 r (k:Int)++NH rs (k+1)
noncomputable def SK(rows:Rows):List T2:=MX (NH rows 0)
theorem PL(xs:List (List T3)):kL 0 (xs.map enc)=(xs.zipIdx 0).map fun p=>D.tup [.int (p.2:Int),enc p.1]:=by
 have:∀ (xs:List (List T3)) (k:Nat),kL k (xs.map enc)=(xs.zipIdx k).map fun p=>D.tup [.int (p.2:Int),enc p.1]:=by
  intro xs;induction xs with
  | nil=>intro k; rfl
  | cons x xs ih=>intro k; rw [ao,kL,ih,List.zipIdx_cons,ao]
 exact this xs 0
theorem tX{α:Type}{xs:List α}{pre post:List (α×Nat)}{x:α×Nat}(h:xs.zipIdx 0=pre++x :: post):∃ l r,xs=l++x.1 :: r/\x.2=l.length/\pre=l.zipIdx 0:=by
 have e1:xs=(pre.map (·.1))++x.1 :: post.map (·.1):=by
  have:=congrArg (List.map (·.1)) h;rw [List.zipIdx_map_fst] at this;rw [this]; simp
 have hl:pre.length < (xs.zipIdx 0).length:=by rw [h]; simp
 have hx:(xs.zipIdx 0)[pre.length]?=some x:=by rw [h]; simp
 refine⟨pre.map (·.1),post.map (·.1),e1,?_,?_⟩
 ·rw [List.getElem?_zipIdx] at hx;rw [ak];cases q:xs[pre.length]? with
  | none=>rw [q] at hx; cases hx
  | some y=>rw [q] at hx; simp at hx; rw [<-hx]
 ·have:(pre.map (·.1)).zipIdx 0=(xs.zipIdx 0).take pre.length:=by
   conv=>rhs; rw [e1,List.zipIdx_append]
   rw [DT (by simp)];rw [Ng (by simp)]
  rw [this,h]; simp
theorem aaC{a b c:D}:cut [a,b,c] none (some 2)=[a,b]:=rfl
theorem LU{α:Type} [DecidableEq α] [Enc α](xs:List α)(G:Gp):uA (enc xs) G=some (xs.map enc,fun _=>True):=rfl
theorem LS{a:Nat}{ds:List D}{G:Gp}(h:G a=some (.lst ds)):uA (.ref a) G=some (ds,fun G2=>G2 a=some (.lst ds)):=by unfold uA; simp only [h]
theorem yj{α β:Type} [DecidableEq α] [Enc α] [DecidableEq β] [Enc β]:∀ (xs:List α) (ys:List β),oY (xs.map enc) (ys.map enc)=(xs.zip ys).map fun p=>D.tup [enc p.1,enc p.2]
 | [],ys=>by simp [oY]
 | x :: xs,[]=>by simp [oY]
 | x :: xs,y :: ys=>by simp [oY,yj xs ys]
theorem gT{κ α:Type} [DecidableEq κ] [Enc κ] [wx κ] [DecidableEq α] [Enc α]{a:Nat}{l:List (κ×α)}{k:κ}{v:α}{G:Gp}{Q:Gp->Prop}(h:G a=some (.gK (bz l)))(hl:l.length<=1000)(q:Q (eA G a (.gK (bz (eU l k v))))):wC (.ref a) (enc k) (enc v) G Q:=by
 unfold wC;simp only [h];refine⟨mW l k,?_,by rw [J1]; exact q⟩;unfold bz; rw [ak]; exact Eo hl
noncomputable def i5(r:List T3):List T3:=r.drop 1++r.take 1
noncomputable def pairsOf(rows:Rows):List (T3×T3):=rows.flatMap fun r=>r.zip (i5 r)
noncomputable def mU(ps:List (T3×T3)):List (T2×T2):=ps.foldl (fun l p=>eU l p.1.s p.2.s) []
theorem Bt(ps:List (T3×T3)):(mU ps).length<=ps.length:=by
 have:∀ (ps:List (T3×T3)) (l:List (T2×T2)),(ps.foldl (fun l p=>eU l p.1.s p.2.s) l).length<=l.length+ps.length:=by
  intro ps;induction ps with
  | nil=>intro l; simp
  | cons p ps ih =>
   intro l;rw [cE,aj];have h1:=ih (eU l p.1.s p.2.s);have h2:=qU l p.1.s p.2.s;lia
 simpa [mU] using this ps []
theorem H0(ps:List (T3×T3))(p:T3×T3):mU (ps++[p])=eU (mU ps) p.1.s p.2.s:=by unfold mU; rw [iq]; rfl
noncomputable def mM:jU:=fun ds G Q _=>∃ rows:Rows,ds=[enc rows]/\rows.flatten.length<=500/\Q (.j8 (bz (mU (pairsOf rows)))) G
theorem pairs_len(rows:Rows):(pairsOf rows).length<=rows.flatten.length:=by
 unfold pairsOf;induction rows with
 | nil=>simp
 | cons r rs ih=>simp only [cT,eW,aE,lH]; lia
noncomputable def yx:hV :=
 (b8 (bE pB (aG 1))
 (b8 (dN (jS (av 0)) (aG 2) (dN (Pc (av 2) (br jP (zK (av 2) (lC (dC (.int 1))) fM) (zK (av 2) fM (lC (dC (.int 1)))))) (iH (cy (aG 3) (cy (aG 4) ip))) (bE (zK (av 4) fM (lC (dC (.int 2)))) (lS (av 1) (zK (av 3) fM (lC (dC (.int 2))))))))
 (bR (cm (av 1)))))
theorem zV(ds:List D)(G:Gp)(Q:DK)(h:mM ds G Q fun _ _=>False):yx (fun _ _=>False) (ends Q) (ba 5 ds) G:=by
 obtain⟨rows,rfl,hl,q⟩:=h;unfold yx;simp only [ends,ba,ao,aT,aj,ax,aO,aB,aP,cJ,bE,pB,gX,aG,aq,ah];intro d hd;refine cM (fun τ G'=>(∃ a b c,τ=[some (enc rows),some (.ref d),a,b,c])/\ff G G'/\G' d=some (.gK (bz (mU (pairsOf rows))))) ?_ ?_
 ·intro N hN;simp only [dN,dM,av,aa];refine fh ?_;refine cW (xs:=rows) (fun pre τ G'=>(∃ a b c,τ=[some (enc rows),some (.ref d),a,b,c])/\ff G G'/\G' d=some (.gK (bz (mU (pairsOf pre))))) ⟨⟨_,_,_,rfl⟩,.new hd,ay⟩ (fun _ _ _ _=>trivial) ?_ ?_
  ·rintro pre r post τ G' N2 e ⟨⟨a,b,c,rfl⟩,l,gd⟩ kG;have hr:pre.flatten.length+r.length<=rows.flatten.length:=by
    rw [e]; simp only [kK,eW,aE]; lia
   simp only [aG,dN,Pc,av,aq,ah,ae,aa,br,zK,fM,kz,dC,iV];refine vH (IsL.enc r) fun p1 h1=>?_;refine vH (IsL.enc r) fun p2 h2=>?_;have d1:d≠p1:=by rintro rfl; rw [gd] at h1; cases h1
   have l1:=l.trans (ff.new (o:=.lst (cut (r.map enc) (some 1) none)) h1);have d2:d≠p2:=by rintro rfl; rw [cu d1,gd] at h2; cases h2
   have h12:p1≠p2:=by rintro rfl; rw [ay] at h2; cases h2
   refine um (IsL.ref (by rw [cu h12,ay])) (IsL.ref ay) ?_ fun p3 h3=>?_
   ·rw [nP,nP,ak,ak];have e1:(cut r (some 1) none).length<=r.length:=by unfold cut; rw [eL,cq]; lia
    have e2:(cut r none (some 1)).length<=r.length:=by unfold cut; rw [eL,cq]; lia
    exact Au (by lia)
   have d3:d≠p3:=by rintro rfl; rw [cu d2,cu d1,gd] at h3; cases h3
   have et:cut (r.map enc) (some 1) none++cut (r.map enc) none (some 1)=(i5 r).map enc:=by
    rw [nP,nP,<-aK];congr 1;cases r with
    | nil=>rfl
    | cons x r=>rw [show (1:Int)=((1:Nat):Int) from rfl,u3 _ _ (by simp),Dt _ _ (by simp)]; rfl
   rw [et];generalize hG3:eA (eA (eA G' p1 (.lst (cut (r.map enc) (some 1) none))) p2 (.lst (cut (r.map enc) none (some 1)))) p3 (.lst ((i5 r).map enc))=G3;have g3:G3 p3=some (.lst ((i5 r).map enc)):=by rw [<-hG3,ay]
   have gd3:G3 d=some (.gK (bz (mU (pairsOf pre)))):=by rw [<-hG3,cu d3,cu d2,cu d1]; exact gd
   have l3:ff G G3:=by rw [<-hG3]; exact(l1.trans (.new h2)).trans (.new h3)
   unfold tf;rw [LU,LS g3];dsimp only;rw [yj];refine cW (xs:=r.zip (i5 r)) (fun pp τ G'=>(∃ a b c,τ=[some (enc rows),some (.ref d),a,b,c])/\ff G G'/\G' d=some (.gK (bz (mU (pairsOf pre++pp))))/\G' p3=some (.lst ((i5 r).map enc)))
    ⟨⟨_,_,_,rfl⟩,l3,by rw [dq]; exact gd3,g3⟩ (fun _ _ _ h=>⟨trivial,h.2.2.2⟩) ?_ ?_
   ·rintro pp x post τ G4 N3 e4 ⟨⟨a,b,c,rfl⟩,l4,gd4,gp4⟩ w4;have hz:(pairsOf pre++pp).length<=1000:=by
     have:=pairs_len pre;have h5:pp.length < (r.zip (i5 r)).length:=by rw [e4]; simp
     rw [lH] at h5;rw [aE]; lia
    simp only [iH,cy,aG,ip,bE,zK,av,lU,aq,ah,ae,aa,fM,lS,CB,aj,ax,kz,dC,iV,aaC];refine⟨by decide,by decide,?_⟩;refine gT (k:=x.1.s) (v:=x.2.s) gd4 (bw (Bt _) hz) ?_;refine w4 _ _ ⟨⟨_,_,_,rfl⟩,l4.put hd,?_,by rw [cu (e7 d3)]; exact gp4⟩;rw [ay,<-cU,H0]
   ·rintro τ G4 ⟨⟨a,b,c,rfl⟩,l4,gd4,gp4⟩;refine kG _ _ ⟨⟨_,_,_,rfl⟩,l4,?_⟩;have:pairsOf (pre++[r])=pairsOf pre++r.zip (i5 r):=by unfold pairsOf; simp
    rw [this]; exact gd4
  ·rintro τ G' ⟨⟨a,b,c,rfl⟩,l,gd⟩;exact hN _ _ ⟨⟨_,_,_,rfl⟩,l,gd⟩
 ·rintro _ G' ⟨⟨a,b,c,rfl⟩,l,gd⟩;simp only [bR,cm,av,ae,aa];exact ju l hd gd q
noncomputable def Zf(s:T2):T3:=⟨s.a,s.b,0⟩
noncomputable def YH(s:T2):T3:=⟨s.a,s.b,1⟩
noncomputable def Ui(ss:List T2):List T3:=ss.flatMap fun s=>[Zf s,YH s]
end P
end K2
end
section
set_option maxHeartbeats 1000000
namespace K2
namespace J
noncomputable def pt:Pr T3->T3->T3
 | [],e=>e
 | p :: r,e=>if e=p.1 then p.2 else if e=p.2 then p.1 else pt r e
theorem rz{P:Pr T3}{e:T3}(h:e∉es P):pt P e=e:=by
 induction P with
 | nil=>rfl
 | cons p r ih =>
  rw [es,bD,bD,not_or,not_or] at h;rw [pt,if_neg h.1,if_neg h.2.1,ih h.2.2]
theorem o6{P:Pr T3}(nd:(es P).Nodup){p:T3×T3}(h:p∈P):pt P p.1=p.2/\pt P p.2=p.1:=by
 induction P with
 | nil=>cases h
 | cons q r ih =>
  rw [es,a9,a9,bD,not_or] at nd;rcases List.mem_cons.mp h with rfl | h
  ·refine⟨by rw [pt,if_pos rfl],?_⟩;rw [pt,if_neg (fun z=>nd.1.1 z.symm),if_pos rfl]
  ·obtain⟨a,b⟩:=ih nd.2.2 h;have m1:p.1∈es r:=pe.mpr ⟨p,h,.inl rfl⟩;have m2:p.2∈es r:=pe.mpr ⟨p,h,.inr rfl⟩;have ne:∀ e∈es r,e≠q.1/\e≠q.2:=fun e he=>⟨fun z=>nd.1.2 (z ▸ he),fun z=>nd.2.1 (z ▸ he)⟩;exact⟨by rw [pt,if_neg (ne _ m1).1,if_neg (ne _ m1).2,a],by rw [pt,if_neg (ne _ m2).1,if_neg (ne _ m2).2,b]⟩
theorem SW{P:Pr T3}(nd:(es P).Nodup){f:T3->T3}(h1:∀ p∈P,f p.1=p.2/\f p.2=p.1)(h2:∀ e,e∉es P->f e=e):pt P=f:=by
 funext e;by_cases he:e∈es P
 ·obtain⟨p,hp,z⟩:=pe.mp he;rcases z with rfl | rfl
  ·rw [(o6 nd hp).1,(h1 p hp).1]
  ·rw [(o6 nd hp).2,(h1 p hp).2]
 ·rw [rz he,h2 e he]
theorem Rn{P P':Pr T3}(h:P.Perm P')(nd:(es P).Nodup):pt P=pt P':=by
 refine SW nd (fun p hp=>o6 ((rO h).nodup_iff.mp nd) (h.mem_iff.mp hp)) fun e he=>rz fun z=>he ((rO h).mem_iff.mpr z)
theorem Od{P:Pr T3}(nd:(es P).Nodup):Iv (pt P):=by
 intro e;by_cases he:e∈es P
 ·obtain⟨p,hp,z⟩:=pe.mp he;rcases z with rfl | rfl
  ·rw [(o6 nd hp).1,(o6 nd hp).2]
  ·rw [(o6 nd hp).2,(o6 nd hp).1]
 ·rw [rz he,rz he]
theorem SX{P:Pr T3}(nd:(es P).Nodup){p:T3×T3}(h:p∈P):p.1≠p.2:=by
 induction P with
 | nil=>cases h
 | cons q r ih =>
  rw [es,a9,a9,bD,not_or] at nd;rcases List.mem_cons.mp h with rfl | h
  ·exact nd.1.1
  ·exact ih nd.2.2 h
theorem vL{P:Pr T3}(nd:(es P).Nodup){e:T3}:pt P e≠e↔e∈es P:=by
 refine⟨fun h=>gP fun z=>h (rz z),fun he=>?_⟩;obtain⟨p,hp,z⟩:=pe.mp he;rcases z with rfl | rfl
 ·rw [(o6 nd hp).1]; exact(SX nd hp).symm
 ·rw [(o6 nd hp).2]; exact SX nd hp
theorem Ut{P:Pr T3}(nd:(es P).Nodup)(h:∀ e,pt P e=e):P=[]:=by
 cases P with
 | nil=>rfl
 | cons p r=>exact absurd (h p.1) (vL nd |>.mpr (by simp [es]))
structure K6(l:List (T3×T3))(f:T3->T3):Prop where
 nd:(l.map (·.1)).Nodup
 at':∀ e,cz l e=if f e=e then none else some (f e)
theorem qV{κ β:Type} [DecidableEq κ]{l:List (κ×β)}{k j:κ}:cz (l.filter fun p=>decide (p.1≠k)) j=if j=k then none else cz l j:=by
 induction l with
 | nil=>simp [cz]
 | cons p r ih =>
  unfold cz at *;rw [bQ];by_cases h:p.1=k
  ·rw [if_neg (by simp [h]),ih];by_cases hj:j=k
   ·rw [if_pos hj,if_pos hj]
   ·rw [if_neg hj,if_neg hj,ck (by simp [h]; exact fun z=>hj z.symm)]
  ·rw [if_pos (by simp [h])];by_cases WX:p.1=j
   ·rw [cg (by simp [WX]),cg (by simp [WX]),if_neg (fun z=>h (WX.trans z))]
   ·rw [ck (by simp [WX]),ck (by simp [WX]),ih]
noncomputable def Dk(l:List (T3×T3))(k:T3):List (T3×T3):=l.filter fun p=>decide (p.1≠k)
theorem pF{κ β:Type} [DecidableEq κ]{l:List (κ×β)}{k:κ}{v:β}(h:(l.map (·.1)).Nodup):((eU l k v).map (·.1)).Nodup:=by
 unfold eU;split
 ·rw [aM];have:(l.map ((fun x:κ×β=>x.1)∘fun p=>if p.1=k then (p.1,v) else p))=l.map (·.1):=by
   refine cL fun p _=>?_;show (if p.1=k then (p.1,v) else p).1=p.1;split <;> rfl
  rw [this]; exact h
 ·rename_i hk;rw [aK,cA];refine⟨h,by simp,fun a ha b hb z=>?_⟩;rw [List.map_singleton,bL] at hb;obtain⟨p,hp,e⟩:=List.mem_map.mp ha;exact hk (List.any_eq_true.mpr ⟨p,hp,by simp; rw [e,z,hb]⟩)
theorem K6.join{l:List (T3×T3)}{f:T3->T3}(h:K6 l f)(iv:Iv f){x y:T3}(xy:x≠y)(hx:f x≠x)(hy:f y≠y) :
  cz l x=some (f x)/\cz (Dk l x) y=some (f y)/\(f x=y->K6 (Dk (Dk l x) y) (jn f x y))/\(f x≠y->K6 (eU (eU (Dk (Dk l x) y) (f x) (f y)) (f y) (f x)) (jn f x y)):=by
 have a1:cz l x=some (f x):=by rw [h.at',if_neg hx]
 have a2:cz (Dk l x) y=some (f y):=by unfold Dk; rw [qV,if_neg (fun z=>xy z.symm),h.at',if_neg hy]
 have nd2:((Dk (Dk l x) y).map (·.1)).Nodup:=nq (lL _ (List.filter_sublist.trans iO)) h.nd;have d2:∀ e,cz (Dk (Dk l x) y) e=if e=x\/e=y then none else if f e=e then none else some (f e):=fun e=>by
  unfold Dk;rw [qV,qV,h.at']
  grind
 have ix:=iv x;have iy:=iv y;refine⟨a1,a2,fun e=>⟨nd2,fun z=>?_⟩,fun e=>⟨pF (pF nd2),fun z=>?_⟩⟩
 ·have iz:=iv z;rw [d2];unfold jn
  grind (splits:=30)
 ·have iz:=iv z;rw [rZ,rZ,d2];unfold jn
  grind (splits:=30)
end J
end K2
end
section
namespace K2
namespace Y
noncomputable abbrev Po:=List (Int×Int)
noncomputable def ND(l:Po):Prop:=(l.map (·.1)).Nodup
noncomputable def c0(l:Po)(k:Int):Int:=(cz l k).getD 0
noncomputable def gC(l:Po):Po:=l.filter fun p=>p.2 != 0
noncomputable def plus(a:Po)(p:Int×Int):Po:=eU a p.1 (c0 a p.1+p.2)
noncomputable def sI(l m:Po):Po:=m.foldl plus l
noncomputable def xj(l m:Po):Po:=gC (sI l m)
noncomputable def oH(m:Po)(a:Po)(p:Int×Int):Po:=m.foldl (fun a q=>plus a (p.1+q.1,p.2 * q.2)) a
noncomputable def nM(l m:Po):Po:=l.foldl (oH m) []
noncomputable def jr(l m:Po):Po:=gC (nM l m)
noncomputable def lQ(l:Po)(by_ f:Int):Po:=gC (l.map fun p=>(p.1+by_,p.2 * f))
noncomputable def jC(l:Po):Po:=l.map fun p=>(-p.1,p.2)
noncomputable def dP(l:Po):Nat->Po
 | 0=>[(0,1)]
 | n+1=>jr (dP l n) l
theorem kC{κ β:Type} [DecidableEq κ]{l:List (κ×β)}{k:κ}{v:β}(h:k∉l.map (·.1)):eU l k v=l++[(k,v)]:=by
 unfold eU;rw [if_neg];intro q;obtain⟨p,h1,h2⟩:=List.any_eq_true.mp q;exact h (List.mem_map.mpr ⟨p,h1,by simpa using h2⟩)
theorem zT{κ β:Type} [DecidableEq κ]{l:List (κ×β)}{k:κ}{v:β}(h:k∈l.map (·.1)):eU l k v=l.map (fun p=>if p.1=k then (p.1,v) else p):=by
 unfold eU;rw [if_pos];obtain⟨p,h1,h2⟩:=List.mem_map.mp h;exact List.any_eq_true.mpr ⟨p,h1,by simpa using h2⟩
theorem MB{κ β:Type} [DecidableEq κ](l:List (κ×β))(k:κ)(v:β):(eU l k v).map (·.1)=if k∈l.map (·.1) then l.map (·.1) else l.map (·.1)++[k]:=by
 split
 ·rename_i h;rw [zT h,aM];refine cL fun p _=>?_;show (if p.1=k then (p.1,v) else p).1=p.1;split <;> rfl
 ·rename_i h;rw [kC h,aK]; rfl
theorem ND.put{l:Po}(h:ND l)(k v:Int):ND (eU l k v):=by
 unfold ND;rw [MB];split
 ·exact h
 ·rename_i hk;rw [cA];exact⟨h,by simp,fun a ha b hb=>by rw [bL] at hb; subst hb; intro z; exact hk (z ▸ ha)⟩
theorem ND.nil:ND []:=cf
theorem ND.one(k v:Int):ND [(k,v)]:=by unfold ND; simp
theorem ND.tail{p:Int×Int}{l:Po}(h:ND (p :: l)):ND l:=by unfold ND at *; rw [ao,a9] at h; exact h.2
theorem ND.head{p:Int×Int}{l:Po}(h:ND (p :: l)):p.1∉l.map (·.1):=by unfold ND at *; rw [ao,a9] at h; exact h.1
theorem ND.gC{l:Po}(h:ND l):ND (gC l):=by
 unfold ND Y.gC at *;exact nq (lL _ iO) h
theorem rB{l:Po}(h:ND l)(p:Int×Int):ND (plus l p):=h.put _ _
theorem uU{α:Type}(f:Po->α->Po)(hf:∀ a x,ND a->ND (f a x)):∀ (xs:List α) (a:Po),ND a->ND (xs.foldl f a)
 | [],_,h=>h
 | x :: xs,a,h=>uU f hf xs _ (hf a x h)
theorem EX{l m:Po}(h:ND l):ND (sI l m):=uU _ (fun a x h=>rB h x) m l h
theorem CH{m a:Po}(h:ND a)(p:Int×Int):ND (oH m a p):=uU _ (fun a x h=>rB h _) m a h
theorem yK(l m:Po):ND (nM l m):=uU _ (fun a x h=>CH h x) l [] .nil
theorem RD{l m:Po}(h:ND l):ND (xj l m):=(EX h).gC
theorem vK(l m:Po):ND (jr l m):=(yK l m).gC
theorem Es{l:Po}(h:ND l)(b f:Int):ND (l.map fun p=>(p.1+b,p.2 * f)):=by
 unfold ND at *;rw [aM];have:(l.map ((fun x:Int×Int=>x.1)∘fun p=>(p.1+b,p.2 * f)))=(l.map (·.1)).map (· + b):=by rw [aM]; rfl
 rw [this];exact Hr _ (fun a c hac z=>hac (by lia)) h
theorem Q4{l:Po}(h:ND l):ND (jC l):=by
 unfold ND jC at *;rw [aM];have:(l.map ((fun x:Int×Int=>x.1)∘fun p=>(-p.1,p.2)))=(l.map (·.1)).map (- ·):=by rw [aM]; rfl
 rw [this];exact Hr _ (fun a c hac z=>hac (by lia)) h
theorem LC{l:Po}(h:ND l)(b f:Int):ND (lQ l b f):=(Es h b f).gC
theorem vN(l:Po):∀ n,ND (dP l n)
 | 0=>.one _ _
 | n+1=>vK _ _
theorem ET(l:Po)(p:Int×Int):(plus l p).length<=l.length+1:=by unfold plus eU; split <;> simp
theorem rN{α:Type}(f:Po->α->Po)(c:Nat)(hf:∀ a x,(f a x).length<=a.length+c):∀ (xs:List α) (a:Po),(xs.foldl f a).length<=a.length+xs.length * c
 | [],a=>by simp
 | x :: xs,a=>by
  have:=rN f c hf xs (f a x);have:=hf a x;rw [cE,aj,Nat.succ_mul]; lia
theorem Bp(l m:Po):(sI l m).length<=l.length+m.length:=by
 have:=rN plus 1 ET m l;unfold sI; lia
theorem ES(m a:Po)(p:Int×Int):(oH m a p).length<=a.length+m.length:=by
 have:=rN (fun a q=>plus a (p.1+q.1,p.2 * q.2)) 1 (fun a q=>ET a _) m a;unfold oH; lia
theorem qI(l m:Po):(nM l m).length<=l.length * m.length:=by
 have:=rN (oH m) m.length (fun a p=>ES m a p) l [];simpa [nM] using this
theorem vP(l:Po):(gC l).length<=l.length:=fJ _ _
theorem yJ(l m:Po):(jr l m).length<=l.length * m.length:=bw (vP _) (qI l m)
theorem sS(l:Po):∀ n,(dP l n).length<=l.length ^ n
 | 0=>by simp [dP]
 | n+1=>bw (yJ _ _) (by rw [QN]; exact kd _ (sS l n))
noncomputable def L(g:Int->Int):Po->Int
 | []=>0
 | p :: l=>p.2 * g p.1+L g l
theorem GI(g:Int->Int):∀ (l m:Po),L g (l++m)=L g l+L g m
 | [],m=>by simp [L]
 | p :: l,m=>by rw [aB,L,L,GI g l m]; lia
theorem B8{l:Po}{k:Int}(h:k∉l.map (·.1)):cz l k=none:=by
 unfold cz;have:l.find? (fun p=>decide (p.1=k))=none:=by
  rw [fP];intro p hp z;exact h (List.mem_map.mpr ⟨p,hp,by simpa using z⟩)
 rw [this]; rfl
theorem DC{p:Int×Int}{l:Po}{k:Int}:c0 (p :: l) k=if p.1=k then p.2 else c0 l k:=by
 unfold c0 cz;rw [dn];by_cases h:p.1=k <;> simp [h]
theorem Cc(g:Int->Int)(k v:Int):∀ (l:Po),ND l->k∈l.map (·.1)->L g (l.map fun p=>if p.1=k then (p.1,v) else p)=L g l+(v - c0 l k) * g k
 | [],_,h=>by cases h
 | p :: l,hn,h=>by
  rw [ao,DC];by_cases e:p.1=k
  ·rw [if_pos e,if_pos e,L,L];have:l.map (fun p=>if p.1=k then (p.1,v) else p)=l:=by
    conv=>rhs; rw [<-kJ l]
    refine cL fun q hq=>?_;rw [if_neg]; rfl;intro z; exact hn.head (by rw [e,<-z]; exact bP hq)
   rw [this];show v * g p.1+L g l=_;rw [e,Int.sub_mul]; lia
  ·rw [if_neg e,if_neg e,L,L,Cc g k v l hn.tail (by
    rw [ao,bD] at h;rcases h with h | h
    ·exact absurd h.symm e
    ·exact h)]
   lia
theorem XG(g:Int->Int){l:Po}(hn:ND l)(k v:Int):L g (eU l k v)=L g l+(v - c0 l k) * g k:=by
 by_cases h:k∈l.map (·.1)
 ·rw [zT h]; exact Cc g k v l hn h
 ·rw [kC h,GI];have:c0 l k=0:=by unfold c0; rw [B8 h]; rfl
  rw [this];simp [L]
theorem Qo(g:Int->Int){l:Po}(hn:ND l)(p:Int×Int):L g (plus l p)=L g l+p.2 * g p.1:=by
 unfold plus;rw [XG g hn];congr 1;rw [show c0 l p.1+p.2 - c0 l p.1=p.2 by lia]
theorem xV(g:Int->Int):∀ (l:Po),L g (gC l)=L g l
 | []=>rfl
 | p :: l=>by
  have ih:=xV g l;unfold gC at *;rw [bQ];by_cases h:p.2=0
  ·rw [if_neg (by simp [h]),ih,L,h]; simp
  ·rw [if_pos (by simp [h]),L,L,ih]
theorem Qp(g:Int->Int):∀ (m l:Po),ND l->L g (m.foldl plus l)=L g l+L g m
 | [],l,_=>by simp [L]
 | p :: m,l,h=>by
  rw [cE,Qp g m _ (rB h p),Qo g h,L]; lia
theorem Vz(g:Int->Int){l:Po}(h:ND l)(m:Po):L g (xj l m)=L g l+L g m:=by
 unfold xj sI; rw [xV,Qp g m l h]
theorem Qn(g:Int->Int)(p:Int×Int):∀ (m a:Po),ND a->L g (oH m a p)=L g a+p.2 * L (fun j=>g (p.1+j)) m
 | [],a,_=>by simp [oH,L]
 | q :: m,a,h=>by
  have ih:=Qn g p m (plus a (p.1+q.1,p.2 * q.2)) (rB h _);unfold oH at *;rw [cE,ih,Qo g h,L,Hs];show L g a+p.2 * q.2 * g (p.1+q.1)+_=_;rw [Int.mul_assoc]; lia
theorem GH(g:Int->Int)(l m:Po):L g (jr l m)=L (fun i=>L (fun j=>g (i+j)) m) l:=by
 unfold jr nM;rw [xV];have:∀ (l a:Po),ND a->L g (l.foldl (oH m) a)=L g a+L (fun i=>L (fun j=>g (i+j)) m) l:=by
  intro l;induction l with
  | nil=>intro a _; simp [L]
  | cons p l ih =>
   intro a h;rw [cE,ih _ (CH h p),Qn g p m a h,L]; lia
 rw [this l [] .nil]; simp [L]
theorem xg(g:Int->Int)(b f:Int):∀ (l:Po),L g (l.map fun p=>(p.1+b,p.2 * f))=f * L (fun i=>g (i+b)) l
 | []=>by simp [L]
 | p :: l=>by
  rw [ao,L,xg g b f l,L,Hs];congr 1;show p.2 * f * g (p.1+b)=f * (p.2 * g (p.1+b));rw [Int.mul_comm p.2 f,Int.mul_assoc]
theorem Qm(g:Int->Int)(b f:Int)(l:Po):L g (lQ l b f)=f * L (fun i=>g (i+b)) l:=by
 unfold lQ; rw [xV,xg]
theorem K4(g:Int->Int):∀ (l:Po),L g (jC l)=L (fun i=>g (-i)) l
 | []=>rfl
 | p :: l=>by
  have:=K4 g l;unfold jC at *;rw [ao,L,this,L]
theorem TH(g h:Int->Int):∀ (l:Po),L (fun i=>g i+h i) l=L g l+L h l
 | []=>rfl
 | p :: l=>by rw [L,L,L,TH g h l,Hs]; lia
theorem Qa{l:Po}{k:Int}(h:k∉l.map (·.1)):c0 l k=0:=by unfold c0; rw [B8 h]; rfl
theorem K5{l:Po}(hn:ND l)(k:Int):L (fun i=>if i=k then 1 else 0) l=c0 l k:=by
 induction l with
 | nil=>rfl
 | cons p l ih =>
  rw [L,ih hn.tail,DC];by_cases h:p.1=k
  ·have:c0 l k=0:=Qa (h ▸ hn.head);simp [h,this]
  ·simp [h]
noncomputable def NZ(l:Po):Prop:=∀ p∈l,p.2≠0
theorem EW(l:Po):NZ (gC l):=fun p h=>by
 have:=(List.mem_filter.mp h).2;simpa using this
theorem va{l:Po}(hn:ND l){p:Int×Int}(h:p∈l):cz l p.1=some p.2:=by
 induction l with
 | nil=>cases h
 | cons q l ih =>
  unfold cz;rw [dn];rcases List.mem_cons.mp h with rfl | h
  ·simp
  ·have:q.1≠p.1:=fun z=>hn.head (by rw [z]; exact bP h);simp only [this,decide_false];exact ih hn.tail h
theorem Qb{l:Po}(hn:ND l){p:Int×Int}(h:p∈l):c0 l p.1=p.2:=by unfold c0; rw [va hn h]; rfl
theorem OG{l:Po}{k:Int}(h:c0 l k≠0):(k,c0 l k)∈l:=by
 unfold c0 at *;unfold cz at *;cases q:l.find? (fun p=>decide (p.1=k)) with
 | none=>rw [q] at h; exact absurd rfl h
 | some p =>
  have h1:=vi q;have h2:=hZ q;simp at h1;simp only [tO,kb];rw [<-h1]; exact h2
theorem iB:∀ (xs ys:List Int),xs.Nodup->(∀ x∈xs,x∈ys)->xs.length<=ys.length
 | [],_,_,_=>cw _
 | x :: xs,ys,hn,h=>by
  rw [a9] at hn;have:=iB xs (ys.erase x) hn.2 fun y hy=>(QS (show y≠x from fun z=>hn.1 (by rw [<-z]; exact hy))).mpr (h y (aL _ hy));have hx:=h x (by simp);rw [Ld hx] at this;have:=Nh hx;rw [aj]; lia
theorem sub_len{l m:Po}(hl:ND l)(zl:NZ l)(h:∀ k,c0 l k=c0 m k):l.length<=m.length:=by
 have:=iB (l.map fun p:Int×Int=>p.1) (m.map fun p:Int×Int=>p.1) hl fun k hk=>by
  obtain⟨p,hp,rfl⟩:=List.mem_map.mp hk;have h1:c0 m p.1≠0:=by rw [<-h,Qb hl hp]; exact zl p hp
  exact bP (f:=(·.1)) (OG h1)
 simpa using this
theorem R6{l m:Po}(hl:ND l)(hm:ND m)(zl:NZ l)(zm:NZ m)(h:∀ k,c0 l k=c0 m k):v7 l m=true:=by
 unfold v7;rw [aJ];refine⟨?_,List.all_eq_true.mpr fun p hp=>?_⟩
 ·have h1:=sub_len hl zl h;have h2:=sub_len hm zm fun k=>(h k).symm;simpa using Nat.le_antisymm h1 h2
 ·have h1:c0 m p.1=p.2:=by rw [<-h,Qb hl hp]
  have h2:c0 m p.1≠0:=by rw [h1]; exact zl p hp
  have:=va hm (OG h2);rw [h1] at this;simp only at this;rw [this]; simp
theorem Dh{l m:Po}(hl:ND l)(hm:ND m)(zl:NZ l)(zm:NZ m)(h:∀ g,L g l=L g m):v7 l m=true :=
 R6 hl hm zl zm fun k=>by rw [<-K5 hl,<-K5 hm,h]
noncomputable def fG:Po->Nat
 | []=>0
 | p :: l=>p.2.natAbs+fG l
theorem yS:∀ (l m:Po),fG (l++m)=fG l+fG m
 | [],m=>by simp [fG]
 | p :: l,m=>by rw [aB,fG,fG,yS l m]; lia
theorem CL{l:Po}{p:Int×Int}(h:p∈l):p.2.natAbs<=fG l:=by
 induction l with
 | nil=>cases h
 | cons q l ih =>
  rw [fG];rcases List.mem_cons.mp h with rfl | h
  ·lia
  ·have:=ih h; lia
theorem wQ(k v:Int):∀ (l:Po),ND l->k∈l.map (·.1)->fG (l.map fun p=>if p.1=k then (p.1,v) else p)+(c0 l k).natAbs=fG l+v.natAbs
 | [],_,h=>by cases h
 | p :: l,hn,h=>by
  rw [ao,DC];by_cases e:p.1=k
  ·rw [if_pos e,if_pos e,fG,fG];have:l.map (fun p=>if p.1=k then (p.1,v) else p)=l:=by
    conv=>rhs; rw [<-kJ l]
    refine cL fun q hq=>?_;rw [if_neg]; rfl;intro z; exact hn.head (by rw [e,<-z]; exact bP hq)
   rw [this];show v.natAbs+fG l+_=_;lia
  ·have:=wQ k v l hn.tail (by
    rw [ao,bD] at h;rcases h with h | h
    ·exact absurd h.symm e
    ·exact h)
   rw [if_neg e,if_neg e,fG,fG];lia
theorem E2{l:Po}(hn:ND l)(p:Int×Int):fG (plus l p)<=fG l+p.2.natAbs:=by
 unfold plus;by_cases h:p.1∈l.map (·.1)
 ·rw [zT h];have:=wQ p.1 (c0 l p.1+p.2) l hn h;have:=Int.natAbs_add_le (c0 l p.1) p.2;lia
 ·rw [kC h,yS,Qa h];simp [fG]
theorem vT(l:Po):fG (gC l)<=fG l:=by
 induction l with
 | nil=>exact aC _
 | cons p l ih =>
  unfold gC at *;rw [bQ];split
  ·rw [fG,fG]; lia
  ·rw [fG]; lia
theorem E1(p:Int×Int):∀ (m a:Po),ND a->fG (oH m a p)<=fG a+p.2.natAbs * fG m
 | [],a,_=>by simp [oH,fG]
 | q :: m,a,h=>by
  have ih:=E1 p m (plus a (p.1+q.1,p.2 * q.2)) (rB h _);have:=E2 h (p.1+q.1,p.2 * q.2);unfold oH at *;rw [cE,fG,Nat.mul_add];have e:(p.2 * q.2).natAbs=p.2.natAbs * q.2.natAbs:=Int.natAbs_mul _ _;simp only at this;lia
theorem sV(l m:Po):fG (jr l m)<=fG l * fG m:=by
 refine bw (vT _) ?_;unfold nM;have:∀ (l a:Po),ND a->fG (l.foldl (oH m) a)<=fG a+fG l * fG m:=by
  intro l;induction l with
  | nil=>intro a _; simp [fG]
  | cons p l ih =>
   intro a h;rw [cE];have h1:=ih _ (CH (m:=m) h p);have h2:=E1 p m a h;rw [fG,Nat.add_mul]; lia
 have:=this l [] .nil;simpa [fG] using this
theorem o9(l:Po):∀ n,fG (dP l n)<=fG l ^ n
 | 0=>by simp [dP,fG]
 | n+1=>bw (sV _ _) (by rw [QN]; exact kd _ (o9 l n))
theorem E3:∀ (m l:Po),ND l->fG (m.foldl plus l)<=fG l+fG m
 | [],l,_=>by simp [fG]
 | p :: m,l,h=>by
  have h1:=E3 m _ (rB h p);have h2:=E2 h p;rw [cE,fG]; lia
theorem Ox{l:Po}(h:ND l)(m:Po):fG (xj l m)<=fG l+fG m:=bw (vT _) (E3 m l h)
theorem Q3{l:Po}(h:NZ l):NZ (jC l):=fun p hp=>by
 unfold jC at hp;obtain⟨q,hq,rfl⟩:=List.mem_map.mp hp;exact h q hq
theorem LF(l:Po):∀ n,NZ (dP l n)
 | 0=>fun p h=>by
  simp only [dP,bL] at h;subst h; decide
 | n+1=>EW _
end Y
end K2
end
section
namespace K2
open PySem (Str)
open Enc (enc)
theorem Ri{α:Type} [DecidableEq α] [Enc α]{neg:Bool}{x:α}{xs:List α}{G:Gp}{Q:DK}(hd:Enc.dep α<=7)(q:Q (.bl (if neg then !decide (x∈xs) else decide (x∈xs))) G):Oa neg (enc x) (enc xs) G Q:=by
 refine⟨enc x,xs.map enc,Enc.sn _ _ _ (by unfold SN; lia),sQ G 7 hd xs,?_⟩;rw [K1]; exact q
class DQ (α:Type) [DecidableEq α] [Enc α] [aU α] where
 mn:∀ {x:D} {G:Gp} {xs:List α} {Q:DK},itemsOf x G=some (xs.map enc)->xs≠[]->(∀ m∈xs,(∀ y∈xs,zg m y=true)->Q (enc m) G)->P6 [x] G Q
theorem jT{α:Type} [DecidableEq α] [Enc α] [aU α]:∀ (r:List α) (a:α),r.foldl (fun m x=>if aU.lt x m=true then x else m) a∈a :: r/\∀ y∈a :: r,zg (r.foldl (fun m x=>if aU.lt x m=true then x else m) a) y=true
 | [],a=>⟨by simp,fun y hy=>by rw [List.mem_singleton.mp hy]; unfold zg; rw [List.foldl_nil,aU.FA]; rfl⟩
 | b :: r,a=>by
  rw [cE];by_cases c:aU.lt b a=true
  ·rw [if_pos c];obtain⟨h1,h2⟩:=jT r b;refine⟨aL _ h1,fun y hy=>?_⟩;rcases List.mem_cons.mp hy with rfl | hy
   ·refine vX _ _ _ (h2 b (by simp)) ?_;unfold zg;cases q:aU.lt y b with
    | false=>rfl
    | true=>have:=aU.trans _ _ _ q c; rw [aU.FA] at this; cases this
   ·exact h2 y hy
  ·rw [if_neg c];obtain⟨h1,h2⟩:=jT r a;refine⟨?_,fun y hy=>?_⟩
   ·rcases List.mem_cons.mp h1 with h | h
    ·rw [h]; simp
    ·exact aL _ (aL _ h)
   ·rcases List.mem_cons.mp hy with rfl | hy
    ·exact h2 y (by simp)
    ·rcases List.mem_cons.mp hy with rfl | hy
     ·refine vX _ _ _ (h2 a (by simp)) ?_;unfold zg; simpa using c
     ·exact h2 y (aL _ hy)
noncomputable instance:DQ Int where
 mn:=by
  intro x G xs Q hi oA k;cases xs with
  | nil=>exact absurd rfl oA
  | cons a r =>
   obtain⟨h1,h2⟩:=jT r a;refine .inl ⟨a :: r,_,hi,rfl,?_⟩;have:(fun (m x:Int)=>if x < m then x else m)=fun m x=>if aU.lt x m=true then x else m:=by
    funext m x;show (if x < m then x else m)=if decide (x < m)=true then x else m
    simp
   show Q (enc (r.foldl (fun m x=>if x < m then x else m) a)) G;rw [this];exact k _ h1 h2
theorem sX:∀ (x y:List Int),qc (fun a b=>decide (a < b)) x y=lexLt x y
 | [],[]=>rfl
 | [],_ :: _=>rfl
 | _ :: _,[]=>rfl
 | a :: x,b :: y=>by simp only [vW,lexLt,sX x y]
noncomputable instance:DQ T3 where
 mn:=by
  intro x G xs Q hi oA k;cases xs with
  | nil=>exact absurd rfl oA
  | cons a r =>
   obtain⟨h1,h2⟩:=jT r a;have ei:itemsOf x G=some (((a :: r).map T3.l).map tI):=by rw [hi,aM]; rfl
   refine .inr ⟨(a :: r).map T3.l,_,ei,rfl,?_⟩;have:∀ (r:List T3) (a:T3),(r.map T3.l).foldl (fun m x=>if lexLt x m=true then x else m) a.l=(r.foldl (fun m x=>if aU.lt x m=true then x else m) a).l:=by
    intro r;induction r with
    | nil=>intro a; rfl
    | cons b r ih =>
     intro a;rw [ao,cE,cE];have e:(if lexLt b.l a.l=true then b.l else a.l)=(if aU.lt b a=true then b else a).l:=by
      have:aU.lt b a=lexLt b.l a.l:=sX _ _;rw [this];split <;> rfl
     rw [e]; exact ih _
   rw [this r a];exact k _ h1 h2
namespace P
theorem kC{κ β:Type} [DecidableEq κ]{l:List (κ×β)}{k:κ}{v:β}(h:k∉l.map (·.1)):eU l k v=l++[(k,v)]:=by
 unfold eU;rw [if_neg];intro q;obtain⟨p,h1,h2⟩:=List.any_eq_true.mp q;exact h (List.mem_map.mpr ⟨p,h1,by simpa using h2⟩)
theorem FJ{κ β γ:Type} [DecidableEq κ](kf:γ->κ)(vf:γ->β):∀ (ps:List γ) (l:List (κ×β)),(l.map (·.1)++ps.map kf).Nodup->ps.foldl (fun l p=>eU l (kf p) (vf p)) l=l++ps.map fun p=>(kf p,vf p)
 | [],l,_=>by simp
 | p :: ps,l,h=>by
  rw [cE,kC (fun z=>by
   rw [ao,cA] at h;exact h.2.2 _ z _ (by simp) rfl),FJ kf vf ps _ (by simpa using h)]
  simp
theorem wA(r:List T3):(i5 r).length=r.length:=by unfold i5; rw [aE,cq,eL]; lia
theorem Cr(r:List T3):(i5 r).Perm r:=by
 unfold i5;exact List.perm_append_comm.trans (by rw [fI])
theorem rD(rows:Rows):(pairsOf rows).map (·.1)=rows.flatten:=by
 unfold pairsOf;induction rows with
 | nil=>rfl
 | cons r rs ih =>
  rw [cT,aK,ih,eW];congr 1;rw [List.map_fst_zip]; rw [wA]; exact aC _
theorem rC(rows:Rows):((pairsOf rows).map (·.2)).Perm rows.flatten:=by
 unfold pairsOf;induction rows with
 | nil=>exact .refl _
 | cons r rs ih =>
  rw [cT,aK,eW];refine yh ?_ ih;rw [List.map_snd_zip]
  ·exact Cr r
  ·rw [wA]; exact aC _
variable {rows:Rows}
theorem Px(d:Dr rows):((pairsOf rows).map fun p=>p.1.s).Nodup:=by
 have:((pairsOf rows).map fun p=>p.1.s)=rows.flatten.map T3.s:=by rw [<-rD,aM]; rfl
 rw [this]; exact d.nd
theorem Ug(d:Dr rows):((pairsOf rows).map fun p=>p.2.s).Nodup:=by
 have:((pairsOf rows).map fun p=>p.2.s)=((pairsOf rows).map (·.2)).map T3.s:=by rw [aM]; rfl
 rw [this,((rC rows).map T3.s).nodup_iff]; exact d.nd
theorem OE(d:Dr rows):mU (pairsOf rows)=(pairsOf rows).map fun p=>(p.1.s,p.2.s):=by
 unfold mU;rw [FJ (fun p:T3×T3=>p.1.s) (fun p=>p.2.s) _ _ (by simpa using Px d)]; rfl
noncomputable def XZ(rows:Rows)(s:T2):T3:=(rows.flatten.find? fun p=>decide (p.s=s)).getD ⟨0,0,0⟩
noncomputable def nxt(rows:Rows)(s:T2):T2:=(cz ((pairsOf rows).map fun p=>(p.1.s,p.2.s)) s).getD s
noncomputable def cmg(rows:Rows)(s:T2):T2:=(cz ((pairsOf rows).map fun p=>(p.2.s,p.1.s)) s).getD s
noncomputable def mt(p:T3):T2:=⟨p.a,1 - p.b⟩
noncomputable def fst(p:T3):Bool:=decide (p.b=0) == decide (p.c=1)
theorem Ka(d:Dr rows){p:T3}(h:p∈rows.flatten):XZ rows p.s=p:=by
 unfold XZ;cases q:rows.flatten.find? (fun x=>decide (x.s=p.s)) with
 | none=>rw [fP] at q; exact absurd (by simp) (q p h)
 | some x =>
  have h1:=vi q;have h2:=hZ q;have h1:x.s=p.s:=by simpa using h1
  have:∀ (L:List T3),(L.map T3.s).Nodup->x∈L->p∈L->x=p:=by
   intro L;induction L with
   | nil=>intro _ h; cases h
   | cons y L ih =>
    intro hn hx hp;rw [ao,a9] at hn;rcases List.mem_cons.mp hx with e1 | hx2
    ·rcases List.mem_cons.mp hp with e2 | qe
     ·rw [e1,e2]
     ·exact absurd (by rw [<-e1,h1]; exact bP qe) hn.1
    ·rcases List.mem_cons.mp hp with e2 | qe
     ·exact absurd (by rw [<-e2,<-h1]; exact bP hx2) hn.1
     ·exact ih hn.2 hx2 qe
  exact this _ d.nd h2 h
theorem Pt{p:T3}(h:p∈rows.flatten):∃ q,(p,q)∈pairsOf rows/\q∈rows.flatten:=by
 rw [<-rD] at h;obtain⟨x,hx,rfl⟩:=List.mem_map.mp h;exact⟨x.2,hx,(rC rows).mem_iff.mp (bP hx)⟩
theorem Pq{q:T3}(h:q∈rows.flatten):∃ p,(p,q)∈pairsOf rows/\p∈rows.flatten:=by
 rw [<-(rC rows).mem_iff] at h;obtain⟨x,hx,rfl⟩:=List.mem_map.mp h;exact⟨x.1,hx,by rw [<-rD]; exact bP hx⟩
noncomputable def om(p:T3):T3:=⟨p.a,1 - p.b,p.c⟩
theorem Ws(d:Dr rows){p:T3}(h:p∈rows.flatten):om p∈rows.flatten:=d.AK p h
noncomputable def step(rows:Rows)(x:T3):T3 :=
 if x.b=2 then x else
 let al:=decide (x.c=0)
 let p:=if al=true then XZ rows (nxt rows x.s) else XZ rows x.s
 if (fst p == al)=true then Zf (mt p) else YH (cmg rows (mt p))
theorem j5{n:Int}:n∈names rows↔∃ p∈rows.flatten,p.b=0/\p.a=n:=by
 unfold names;rw [Q7,Qz];constructor
 ·rintro⟨p,h,rfl⟩;obtain⟨h1,h2⟩:=List.mem_filter.mp h;exact⟨p,h1,by simpa using h2,rfl⟩
 ·rintro⟨p,h1,h2,rfl⟩;exact⟨p,List.mem_filter.mpr ⟨h1,by simpa using h2⟩,rfl⟩
theorem xM(d:Dr rows){p:T3}(h:p∈rows.flatten):handOf rows p.a=p.c:=by
 unfold handOf;cases q:rows.flatten.find? (fun x=>x.a == p.a) with
 | none=>rw [fP] at q; exact absurd (by simp) (q p h)
 | some x =>
  have h1:x.a=p.a:=by simpa using vi q
  have h2:=hZ q;show x.c=p.c;have hw:=d.way p h;have X8:=d.way x h2;by_cases e:x.b=p.b
  ·have:x.s=p.s:=by unfold T3.s; rw [h1,e]
   have e1:=Ka d h2;rw [this,Ka d h] at e1;rw [e1]
  ·have:(om x).s=p.s:=by unfold T3.s om; rw [h1]; congr 1; dsimp only; lia
   have e1:=Ka d (Ws d h2);rw [this,Ka d h] at e1;rw [e1]; rfl
end P
end K2
end
section
set_option maxHeartbeats 1000000
namespace K2
open Enc (enc)
noncomputable instance {α β:Type} [DecidableEq α] [Enc α] [aU α] [DecidableEq β] [Enc β] [aU β]:aU (α×β) where
 lt:=fun x y=>if x.1=y.1 then aU.lt x.2 y.2 else aU.lt x.1 y.1
 AI:=.tup [aU.AI α,aU.AI β]
 zr:=fun x=>by
  show (cH _ (enc x.1)&&(cH _ (enc x.2)&&true))=true;rw [aU.zr,aU.zr]; rfl
 QG:=fun x y=>by
  show ml [enc x.1,enc x.2] [enc y.1,enc y.2]=_;rw [mV,mV,Enc.eqv,Enc.eqv,aU.QG,aU.QG,show ml [] []=false from rfl];by_cases h:x.1=y.1
  ·simp only [h,decide_true,if_true];by_cases h2:x.2=y.2
   ·simp only [h2,decide_true,if_true]; exact(aU.FA _).symm
   ·simp only [h2,decide_false,ar,if_false]
  ·simp only [h,decide_false,ar,if_false]
 FA:=fun x=>by simp only [if_true]; exact aU.FA _
 trans:=fun x y z h1 h2=>by
  by_cases e1:x.1=y.1
  ·rw [if_pos e1] at h1;by_cases e2:y.1=z.1
   ·rw [if_pos e2] at h2;rw [if_pos (e1.trans e2)];exact aU.trans _ _ _ h1 h2
   ·rw [if_neg e2] at h2;rw [if_neg (fun q=>e2 (e1.symm.trans q)),e1]; exact h2
  ·rw [if_neg e1] at h1;by_cases e2:y.1=z.1
   ·rw [if_neg (fun q=>e1 (q.trans e2.symm)),<-e2]; exact h1
   ·rw [if_neg e2] at h2;have h3:=aU.trans _ _ _ h1 h2;rw [if_neg (fun q=>by rw [q,aU.FA] at h3; cases h3)]; exact h3
 nv:=fun x y h1 h2=>by
  by_cases e1:x.1=y.1
  ·rw [if_pos e1] at h1;rw [if_pos e1.symm] at h2;exact Prod.ext e1 (aU.nv _ _ h1 h2)
  ·rw [if_neg e1] at h1;rw [if_neg (fun q=>e1 q.symm)] at h2;exact absurd (aU.nv _ _ h1 h2) e1
namespace J
noncomputable def LH(l:List (T3×T3)):Pr T3:=MX (l.filter fun p=>aU.lt p.1 p.2)
theorem yX{κ β:Type} [DecidableEq κ]:∀ {l:List (κ×β)},(l.map (·.1)).Nodup->∀ {p:κ×β},p∈l->cz l p.1=some p.2
 | [],_,_,h=>by cases h
 | q :: l,nd,p,h=>by
  rw [ao,a9] at nd;unfold cz;rcases List.mem_cons.mp h with rfl | h
  ·rw [cg (by simp)]; rfl
  ·have:¬ q.1=p.1:=fun z=>nd.1 (by rw [z]; exact bP h);rw [ck (by simpa using this)];exact yX nd.2 h
theorem DH{κ β:Type} [DecidableEq κ]{l:List (κ×β)}{k:κ}{v:β}(h:cz l k=some v):(k,v)∈l:=by
 unfold cz at h;obtain⟨p,h1,h2⟩:=Option.map_eq_some_iff.mp h;have h3:=vi h1;have h4:=hZ h1;simp at h3;rw [<-h3,<-h2]; exact h4
theorem K6.mem{l:List (T3×T3)}{f:T3->T3}(h:K6 l f){p:T3×T3}(hp:p∈l):f p.1=p.2/\f p.1≠p.1:=by
 have a:=yX h.nd hp;rw [h.at'] at a;split at a
 ·cases a
 ·rename_i z; exact⟨a8 a,z⟩
theorem RS{α:Type} [DecidableEq α] [Enc α] [aU α]{a b:α}(h1:aU.lt a b=true)(h2:aU.lt b a=true):False:=by
 have:=aU.trans _ _ _ h1 h2;rw [aU.FA] at this; cases this
theorem KD{f:T3->T3}(iv:Iv f):∀ {l:List (T3×T3)},(l.map (·.1)).Nodup->(∀ p∈l,f p.1=p.2)->(es (l.filter fun p=>aU.lt p.1 p.2)).Nodup
 | [],_,_=>cf
 | p :: l,nd,h=>by
  rw [ao,a9] at nd;have ih:=KD iv nd.2 fun q hq=>h q (aL _ hq);rw [bQ];split
  ·rename_i hl;have fp:=h p (by simp);rw [es,a9,a9,bD,not_or];have out:∀ q∈l.filter (fun p=>aU.lt p.1 p.2),p.1≠q.1/\p.1≠q.2/\p.2≠q.1/\p.2≠q.2:=fun q hq=>by
    have Th:=List.mem_filter.mp hq;have fq:=h q (aL _ Th.1);have n1:p.1≠q.1:=fun z=>nd.1 (by rw [z]; exact bP Th.1);have n2:p.1=q.2->p.2=q.1:=fun z=>by rw [<-fp,z,<-fq,iv]
    have n3:p.2=q.1->p.1=q.2:=fun z=>by rw [<-fq,<-z,<-fp,iv]
    have TB:¬ (p.1=q.2/\p.2=q.1):=fun ⟨a,b⟩=>RS hl (by rw [a,b]; exact Th.2);refine⟨n1,fun z=>TB ⟨z,n2 z⟩,fun z=>TB ⟨n3 z,z⟩,fun z=>n1 ?_⟩;have:=congrArg f z;rw [<-fp,<-fq,iv,iv] at this;exact this
   have ne:p.1≠p.2:=fun z=>by rw [z,aU.FA] at hl; cases hl
   refine⟨⟨ne,fun z=>?_⟩,fun z=>?_,ih⟩
   ·obtain⟨q,hq,e⟩:=pe.mp z;rcases e with e | e
    ·exact(out q hq).1 e
    ·exact(out q hq).2.1 e
   ·obtain⟨q,hq,e⟩:=pe.mp z;rcases e with e | e
    ·exact(out q hq).2.2.1 e
    ·exact(out q hq).2.2.2 e
  ·exact ih
theorem J4{l:List (T3×T3)}{f:T3->T3}(h:K6 l f)(iv:Iv f):(es (LH l)).Nodup/\pt (LH l)=f:=by
 have sp:=oD (l.filter fun p=>aU.lt p.1 p.2);have nd0:=KD iv h.nd fun p hp=>(h.mem hp).1;have nd:(es (LH l)).Nodup:=(rO sp).nodup_iff.mpr nd0;refine⟨nd,SW nd (fun p hp=>?_) fun e he=>?_⟩
 ·have xm:=(List.mem_filter.mp (sp.mem_iff.mp hp)).1;have:=(h.mem xm).1;exact⟨this,by rw [<-this,iv]⟩
 ·refine gP fun z=>he ?_;have a1:cz l e=some (f e):=by rw [h.at',if_neg z]
  have z2:f (f e)≠f e:=fun q=>z (by rw [iv] at q; exact q.symm);have a2:cz l (f e)=some e:=by rw [h.at',if_neg z2,iv]
  have m1:=DH a1;have m2:=DH a2;rw [pe];by_cases hl:aU.lt e (f e)=true
  ·exact⟨(e,f e),sp.mem_iff.mpr (List.mem_filter.mpr ⟨m1,hl⟩),.inl rfl⟩
  ·by_cases tj:aU.lt (f e) e=true
   ·exact⟨(f e,e),sp.mem_iff.mpr (List.mem_filter.mpr ⟨m2,tj⟩),.inr rfl⟩
   ·exact absurd (aU.nv _ _ (by simpa using tj) (by simpa using hl)) z
noncomputable def IM(P:Pr T3):List (T3×T3):=P.foldl (fun l p=>eU (eU l p.1 p.2) p.2 p.1) []
theorem KC:∀ {P:Pr T3},(es P).Nodup->K6 (IM P) (pt P):=by
 have main:∀ (P:Pr T3) (l:List (T3×T3)) (f:T3->T3),K6 l f->(es P).Nodup->(∀ e∈es P,f e=e)->K6 (P.foldl (fun l p=>eU (eU l p.1 p.2) p.2 p.1) l) (fun e=>if e∈es P then pt P e else f e):=by
  intro P;induction P with
  | nil =>
   intro l f h _ _;have:(fun e=>if e∈es ([]:Pr T3) then pt [] e else f e)=f:=by funext e; simp [es]
   rw [this]; exact h
  | cons p P ih =>
   intro l f h nd hf;rw [es,a9,a9,bD,not_or] at nd;have f1:f p.1=p.1:=hf _ (by simp [es]);have f2:f p.2=p.2:=hf _ (by simp [es]);have h2:K6 (eU (eU l p.1 p.2) p.2 p.1) (fun e=>if e=p.1 then p.2 else if e=p.2 then p.1 else f e):=by
    refine⟨pF (pF h.nd),fun e=>?_⟩;rw [rZ,rZ,h.at'];have:=nd.1.1
    grind
   have:=ih _ _ h2 nd.2.2 fun e he=>by
    have m1:e≠p.1:=fun z=>nd.1.2 (z ▸ he);have m2:e≠p.2:=fun z=>nd.2.1 (z ▸ he);simp only [if_neg m1,if_neg m2];exact hf e (by simp [es,he])
   rw [cE];have e2:(fun e=>if e∈es (p :: P) then pt (p :: P) e else f e)=fun e=>if e∈es P then pt P e else if e=p.1 then p.2 else if e=p.2 then p.1 else f e:=by
    funext e;rw [es,pt];by_cases he:e∈es P
    ·have m1:e≠p.1:=fun z=>nd.1.2 (z ▸ he);have m2:e≠p.2:=fun z=>nd.2.1 (z ▸ he);rw [if_pos (by simp [he]),if_neg m1,if_neg m2,if_pos he]
    ·rw [if_neg he];by_cases m1:e=p.1
     ·rw [if_pos (by simp [m1]),if_pos m1,if_pos m1]
     ·by_cases m2:e=p.2
      ·rw [if_pos (by simp [m2]),if_neg m1,if_pos m2,if_neg m1,if_pos m2]
      ·rw [if_neg (by simp [m1,m2,he]),if_neg m1,if_neg m2]
   rw [e2]; exact this
 intro P nd;have:=main P [] (fun e=>e) ⟨cf,fun e=>by simp [cz]⟩ nd (fun _ _=>rfl);have e2:(fun e=>if e∈es P then pt P e else e)=pt P:=by
  funext e;by_cases he:e∈es P
  ·rw [if_pos he]
  ·rw [if_neg he,rz he]
 rw [e2] at this; exact this
theorem KA(P:Pr T3):(IM P).length<=2 * P.length:=by
 have:∀ (P:Pr T3) (l:List (T3×T3)),(P.foldl (fun l p=>eU (eU l p.1 p.2) p.2 p.1) l).length<=l.length+2 * P.length:=by
  intro P;induction P with
  | nil=>intro l; simp
  | cons p P ih =>
   intro l;have h1:=ih (eU (eU l p.1 p.2) p.2 p.1);have h2:=qU (eU l p.1 p.2) p.2 p.1;have h3:=qU l p.1 p.2;rw [cE,aj]; lia
 have:=this P [];simpa [IM] using this
end J
end K2
end
section
set_option maxHeartbeats 1000000
namespace K2
open Enc (enc)
namespace J
open Y (Po L ND NZ fG xj jr lQ dP)
noncomputable def oh(P:Pr T3):PK:=P.map fun p=>[p.1.l,p.2.l]
noncomputable def aaz:List (List Int)->T3×T3
 | [[a,b,c],[x,y,z]]=>(⟨a,b,c⟩,⟨x,y,z⟩)
 | _=>(⟨0,0,0⟩,⟨0,0,0⟩)
noncomputable def dec(k:PK):Pr T3:=k.map aaz
theorem IX(P:Pr T3):dec (oh P)=P:=by
 unfold dec oh;rw [aM]
 conv=>rhs; rw [<-kJ P]
 rfl
theorem Oi(P:Pr T3):pM (oh P)=.tup (P.map enc):=by
 unfold pM oh;rw [aM];rfl
noncomputable abbrev Su:=List (PK×Po)
noncomputable def iM(S:Su):List (PK×D):=S.map fun p=>(p.1,D.j8 (bz p.2))
theorem BA(S:Su)(k:PK):pO (iM S) k=(cz S k).map fun l=>D.j8 (bz l):=by
 unfold pO cz iM;rw [List.find?_map,Option.map_map,Option.map_map];rfl
theorem Oc(S:Su)(k:PK)(l:Po):LB (iM S) k (.j8 (bz l))=iM (eU S k l):=by
 unfold LB eU iM;rw [List.any_map];split
 ·rename_i h;rw [if_pos (by simpa [QA] using h),aM,aM];refine cL fun p _=>?_;simp only [Function.comp];split <;> rfl
 ·rename_i h;rw [if_neg (by simpa [QA] using h),aK]; rfl
noncomputable def nv(ns:List (Int×Int))(g:Fn):Su->Int
 | []=>0
 | p :: S=>L (fun j=>Br (pt (dec p.1)) ns (sh j g)) p.2+nv ns g S
theorem JN(ns:List (Int×Int))(g:Fn)(S S':Su):nv ns g (S++S')=nv ns g S+nv ns g S':=by
 induction S with
 | nil=>simp [nv]
 | cons p S ih=>rw [aB,nv,nv,ih]; lia
theorem Q5(ns:List (Int×Int))(g:Fn)(k:PK)(l:Po):∀ {S:Su},(S.map (·.1)).Nodup->nv ns g (eU S k l)=nv ns g S+(L (fun j=>Br (pt (dec k)) ns (sh j g)) l - L (fun j=>Br (pt (dec k)) ns (sh j g)) ((cz S k).getD []))
 | S,nd=>by
  unfold eU;split
  ·rename_i h;have main:∀ {S:Su},(S.map (·.1)).Nodup->(S.any fun p=>decide (p.1=k))=true->nv ns g (S.map fun p=>if p.1=k then (p.1,l) else p)=nv ns g S+(L (fun j=>Br (pt (dec k)) ns (sh j g)) l - L (fun j=>Br (pt (dec k)) ns (sh j g)) ((cz S k).getD [])):=by
    intro S;induction S with
    | nil=>intro _ h; cases h
    | cons p S ih =>
     intro nd h;rw [ao,a9] at nd;rw [ao,nv,nv];by_cases e:p.1=k
     ·have e2:(S.map fun p=>if p.1=k then (p.1,l) else p)=S:=by
       conv=>rhs; rw [<-kJ S]
       refine cL fun q hq=>?_;rw [if_neg]; rfl;intro z; exact nd.1 (by rw [e,<-z]; exact bP hq)
      have e3:cz (p :: S) k=some p.2:=by unfold cz; rw [cg (by simpa using e)]; rfl
      rw [e2,e3,if_pos e,e];simp only [kb];lia
     ·have e3:cz (p :: S) k=cz S k:=by unfold cz; rw [ck (by simpa using e)]
      rw [e3,if_neg e,ih nd.2 (by simpa [e] using h)];lia
   exact main nd h
  ·rename_i h;rw [JN];have e3:cz S k=none:=by
    unfold cz;have:S.find? (fun p=>decide (p.1=k))=none:=by
     rw [fP];intro p hp z;exact h (List.any_eq_true.mpr ⟨p,hp,z⟩)
    rw [this]; rfl
   rw [e3];show nv ns g S+(L _ l+0)=_;simp only [A8,L];lia
noncomputable def LP:Po:=[(2,-1),(-2,-1)]
theorem aaL(g:Fn)(i:Int):L (fun j=>g (i+j)) LP=lp g i:=by
 show -1 * g (i+2)+(-1 * g (i+-2)+0)=-(g (i+2)) - g (i - 2);rw [show i+-2=i - 2 by lia]; lia
theorem OK(n:Nat)(g:Fn):jf n (lp g)=lp (jf n g):=by
 induction n with
 | zero=>rfl
 | succ n ih=>rw [jf,jf,ih]
theorem tN:∀ (n:Nat) (g:Fn),L g (dP LP n)=jf n g 0
 | 0,g=>by show 1 * g 0+0=g 0; lia
 | n+1,g=>by
  show L g (jr (dP LP n) LP)=_;rw [Y.GH];have:(fun i=>L (fun j=>g (i+j)) LP)=lp g:=by funext i; exact aaL g i
  rw [this,tN n,OK]; rfl
theorem Ik(f:T3->T3)(ns:List (Int×Int))(g:Fn):∀ (n:Nat) (b:Int),jf n (fun t=>Br f ns (sh (t+b) g))=fun t=>Br f ns (sh (t+b) (jf n g))
 | 0,b=>rfl
 | n+1,b=>by
  rw [jf,Ik f ns g n b];funext t;show -(Br f ns (sh (t+2+b) (jf n g))) - Br f ns (sh (t - 2+b) (jf n g))=Br f ns (sh (t+b) (lp (jf n g)));have e:sh (t+b) (lp (jf n g))=pl (sc (-1) (sh (t+2+b) (jf n g))) (sc (-1) (sh (t - 2+b) (jf n g))):=by
   funext i;show -(jf n g (i+(t+b)+2)) - jf n g (i+(t+b) - 2)=-1 * jf n g (i+(t+2+b))+-1 * jf n g (i+(t - 2+b));rw [show i+(t+b)+2=i+(t+2+b) by lia,show i+(t+b) - 2=i+(t - 2+b) by lia];lia
  rw [e,Qv,K9,K9]; lia
noncomputable def Rp(l:Po)(c:Nat)(b:Int):Po:=lQ (jr l (dP LP c)) b 1
theorem XH(f:T3->T3)(ns:List (Int×Int))(g:Fn)(l:Po)(c:Nat)(b:Int):L (fun j=>Br f ns (sh j g)) (Rp l c b)=L (fun j=>Br f ns (jf c (sh b (sh j g)))) l:=by
 unfold Rp;rw [Y.Qm,Y.GH,Int.one_mul];congr 1;funext i;rw [tN];have:(fun j=>Br f ns (sh (i+j+b) g))=fun t=>Br f ns (sh (t+(i+b)) g):=by
  funext t; rw [show i+t+b=t+(i+b) by lia]
 rw [this,Ik];show Br f ns (sh (0+(i+b)) (jf c g))=_;rw [DX,y9,y9,SM,Int.add_comm i b]
theorem RM(l:Po)(c:Nat)(b:Int):fG (Rp l c b)<=fG l * 2 ^ c:=by
 unfold Rp lQ;refine bw (Y.vT _) ?_;have e:∀ m:Po,fG (m.map fun p=>(p.1+b,p.2 * 1))=fG m:=by
  intro m;induction m with
  | nil=>rfl
  | cons p m ih=>rw [ao,fG,fG,ih]; simp
 rw [e];exact bw (Y.sV _ _) (Nat.mul_le_mul_left _ (Y.o9 LP c))
noncomputable def sC(A:Su)(k':PK)(l:Po)(c:Nat)(b:Int):Su:=eU A k' (xj ((cz A k').getD []) (Rp l c b))
noncomputable def ML(S:Su):Prop:=(S.map (·.1)).Nodup/\∀ p∈S,ND p.2/\NZ p.2
theorem ML.get{S:Su}(h:ML S)(k:PK):ND ((cz S k).getD [])/\NZ ((cz S k).getD []):=by
 cases e:cz S k with
 | none=>exact⟨Y.ND.nil,fun p hp=>by cases hp⟩
 | some l=>exact h.2 _ (DH e)
theorem ML.put{S:Su}(h:ML S){k:PK}{l:Po}(h1:ND l)(h2:NZ l):ML (eU S k l):=by
 refine⟨pF h.1,fun p hp=>?_⟩;unfold eU at hp;split at hp
 ·obtain⟨q,hq,rfl⟩:=List.mem_map.mp hp;split
  ·exact⟨h1,h2⟩
  ·exact h.2 q hq
 ·rcases List.mem_append.mp hp with hp | hp
  ·exact h.2 p hp
  ·rw [bL] at hp; subst hp; exact⟨h1,h2⟩
theorem NC{A:Su}(h:ML A)(k':PK)(l:Po)(c:Nat)(b:Int):ML (sC A k' l c b):=h.put (Y.RD (h.get k').1) (Y.EW _)
theorem NA{A:Su}(h:ML A)(ns:List (Int×Int))(g:Fn)(k':PK)(l:Po)(c:Nat)(b:Int):nv ns g (sC A k' l c b)=nv ns g A+L (fun j=>Br (pt (dec k')) ns (jf c (sh b (sh j g)))) l:=by
 unfold sC;rw [Q5 ns g k' _ h.1,Y.Vz _ (h.get k').1,XH];lia
noncomputable def hX:Su->Nat
 | []=>0
 | p :: S=>fG p.2+hX S
theorem yT(S S':Su):hX (S++S')=hX S+hX S':=by
 induction S with
 | nil=>simp [hX]
 | cons p S ih=>rw [aB,hX,hX,ih]; lia
theorem Oy(k:PK)(l:Po):∀ {S:Su},(S.map (·.1)).Nodup->hX (eU S k l)+fG ((cz S k).getD [])<=hX S+fG l
 | S,nd=>by
  unfold eU;split
  ·rename_i h;have main:∀ {S:Su},(S.map (·.1)).Nodup->(S.any fun p=>decide (p.1=k))=true->hX (S.map fun p=>if p.1=k then (p.1,l) else p)+fG ((cz S k).getD [])<=hX S+fG l:=by
    intro S;induction S with
    | nil=>intro _ h; cases h
    | cons p S ih =>
     intro nd h;rw [ao,a9] at nd;rw [ao,hX,hX];by_cases e:p.1=k
     ·have e2:(S.map fun p=>if p.1=k then (p.1,l) else p)=S:=by
       conv=>rhs; rw [<-kJ S]
       refine cL fun q hq=>?_;rw [if_neg]; rfl;intro z; exact nd.1 (by rw [e,<-z]; exact bP hq)
      have e3:cz (p :: S) k=some p.2:=by unfold cz; rw [cg (by simpa using e)]; rfl
      rw [e2,e3,if_pos e];simp only [kb];lia
     ·have e3:cz (p :: S) k=cz S k:=by unfold cz; rw [ck (by simpa using e)]
      have:=ih nd.2 (by simpa [e] using h);rw [e3,if_neg e];lia
   exact main nd h
  ·rename_i h;rw [yT];have e3:cz S k=none:=by
    unfold cz;have:S.find? (fun p=>decide (p.1=k))=none:=by
     rw [fP];intro p hp z;exact h (List.any_eq_true.mpr ⟨p,hp,z⟩)
    rw [this]; rfl
   rw [e3];show hX S+(fG l+0)+0<=_;lia
theorem NB{A:Su}(h:ML A)(k':PK)(l:Po){c:Nat}(hc:c<=2)(b:Int):hX (sC A k' l c b)<=hX A+4 * fG l:=by
 unfold sC;have h1:=Oy k' (xj ((cz A k').getD []) (Rp l c b)) h.1;have h2:=Y.Ox (h.get k').1 (Rp l c b);have h3:=RM l c b;have h4:fG l * 2 ^ c<=fG l * 4:=Nat.mul_le_mul_left _ (show 2 ^ c<=2 ^ 2 from kc (by decide) hc);lia
theorem Kc(S:Su)(k:PK):fG ((cz S k).getD [])<=hX S:=by
 induction S with
 | nil=>exact aC _
 | cons p S ih =>
  unfold cz at *;rw [hX];by_cases e:p.1=k
  ·rw [cg (by simpa using e)]; simp only [tO,kb]; lia
  ·rw [ck (by simpa using e)]; lia
theorem yR:∀ {l:Po},NZ l->l.length<=fG l
 | [],_=>aC _
 | p :: l,h=>by
  have h1:=h p (by simp);have h2:=yR (l:=l) fun q hq=>h q (aL _ hq);rw [aj,fG]; lia
noncomputable def jD(S:Su):Su:=S.filter fun p=>!p.2.isEmpty
theorem OU(ns:List (Int×Int))(g:Fn)(S:Su):nv ns g (jD S)=nv ns g S:=by
 unfold jD;induction S with
 | nil=>rfl
 | cons p S ih =>
  rw [bQ];split
  ·rw [nv,nv,ih]
  ·rename_i h;have:p.2=[]:=by simpa using h
   rw [ih,nv,this,L,DX]
theorem Ft{S:Su}(h:ML S):ML (jD S):=⟨nq (lL _ iO) h.1,fun p hp=>h.2 p (List.mem_filter.mp hp).1⟩
theorem OV(S:Su):hX (jD S)<=hX S:=by
 unfold jD;induction S with
 | nil=>exact aC _
 | cons p S ih =>
  rw [bQ];split
  ·rw [hX,hX]; lia
  ·rw [hX]; lia
theorem OX{S:Su}(h:ML S):(jD S).length<=hX S:=by
 have:∀ {S:Su},(∀ p∈S,NZ p.2)->(jD S).length<=hX S:=by
  intro S;unfold jD;induction S with
  | nil=>intro _; exact aC _
  | cons p S ih =>
   intro h;have ih:=ih fun q hq=>h q (aL _ hq);rw [bQ,hX];split
   ·rename_i z;have h1:=yR (h p (by simp));have h2:0 < p.2.length:=by
     cases q:p.2 with
     | nil=>rw [q] at z; cases z
     | cons _ _=>simp
    rw [aj]; lia
   ·lia
 exact this fun p hp=>(h.2 p hp).2
end J
end K2
end
section
namespace K2
open PySem (Str)
open Enc (enc)
namespace Y
structure Pl(G:Gp)(d:D)(l:Po):Prop where
 is:TL G d l
 nd:ND l
theorem rT{G G1:Gp}{p:Nat}{o:GO}{Q:DK}(l:ff G G1)(hp:G p=none)(h1:G1 p=some o)(q:gX G o Q):Jr G1 (.ref p) Q:=C4 l hp h1 (q p hp)
theorem rQ(i j:Int):ij (.int i) (.int j)=decide (i=j):=Enc.eqv i j
theorem uq(l m:Po):gC (l++m)=gC l++gC m:=fQ _ _
theorem HU{l:Po}{k:Int}(h:k∈(gC l).map (·.1)):k∈l.map (·.1):=(lL _ iO).subset h
theorem OF{l pre post:Po}{p:Int×Int}(h:ND l)(e:l=pre++p :: post):p.1∉pre.map (·.1):=by
 subst e;unfold ND at h;rw [aK,ao,cA] at h;intro z;exact h.2.2 _ z _ (by simp) rfl
theorem HQ{l pre post:Po}{p:Int×Int}(h:ND l)(e:l=pre++p :: post)(hz:p.2≠0):eU (gC pre) p.1 p.2=gC (pre++[p]):=by
 rw [kC fun z=>OF h e (HU z),uq];congr 1;simp [gC,hz]
theorem HS{pre:Po}{p:Int×Int}(hz:p.2=0):gC (pre++[p])=gC pre:=by
 rw [uq]; simp [gC,hz]
theorem uW(i:Int):(enc i:D)=.int i:=rfl
noncomputable def dD:jU:=fun ds G Q _=>∃ (d:D) (l:Po),ds=[d]/\Pl G d l/\l.length<=SZ/\gX G (.gK (bz (gC l))) Q
noncomputable def mQ:hV :=
 (b8 (bE pB (aG 1))
 (b8 (dN (lR (av 0)) (iH (cy (aG 2) (cy (aG 3) ip))) (fc (fT (br (GR true) (av 3) (dC (.int 0)))) (bE (av 3) (lS (av 1) (av 2))) cN))
 (bR (cm (av 1)))))
theorem tM(ds:List D)(G:Gp)(Q:DK)(h:dD ds G Q fun _ _=>False):mQ (fun _ _=>False) (ends Q) (ba 4 ds) G:=by
 obtain⟨d,l,rfl,hd,hl,q⟩:=h;unfold mQ;simp only [ends,ba,ao,aT,aj,ax,aO,aB,aP,cJ,bE,pB,aG,aq,ah];intro p hp;refine cM (fun τ G'=>(∃ a b,τ=[some d,some (.ref p),a,b])/\ff G G'/\G' p=some (.gK (bz (gC l)))) ?_ ?_
 ·intro N hN;simp only [dN,lR,av,aa];refine lz hd.is (.new hp) fun ok cn=>?_;refine cW (xs:=l) (fun pre τ G'=>(∃ a b,τ=[some d,some (.ref p),a,b])/\ff G G'/\G' p=some (.gK (bz (gC pre)))) ⟨⟨_,_,rfl⟩,.new hp,ay⟩ (fun pre τ G' h=>cn G' h.2.1) ?_ ?_
  ·rintro pre x post τ G' N2 e ⟨⟨a,b,rfl⟩,le,gp⟩ kG;have hlen:(gC pre).length < SZ:=by
    have:=vP pre;have:=congrArg dO e;rw [aE,aj] at this; lia
   simp only [iH,cy,aG,ip,aq,ah];refine⟨_,_,.int _,.int _,?_⟩;simp only [rQ,if_true,bE,av,ae,aa,lS,cN];by_cases hz:x.2=0
   ·simp only [hz,decide_true,bc];exact kG _ _ ⟨⟨_,_,rfl⟩,le,by rw [HS hz]; exact gp⟩
   ·simp only [hz,decide_false,eG];refine gT (α:=Int) gp hlen ?_;exact kG _ _ ⟨⟨_,_,rfl⟩,le.put hp,by rw [ay,<-HQ hd.nd e hz]⟩
  ·rintro τ G' ⟨⟨a,b,rfl⟩,le,gp⟩;exact hN _ _ ⟨⟨_,_,rfl⟩,le,gp⟩
 ·rintro _ G' ⟨⟨a,b,rfl⟩,le,gp⟩;simp only [bR,cm,av,ae,aa];exact rT le hp gp q
theorem S5{G:Gp}{d:D}{l:Po}{i:Int}{Q:DK}(h:wo G d l)(k:Q (.int (c0 l i)) G):LO d [.int i,.int 0] G Q:=RQ (α:=Int) (e:=0) h k
theorem gG{α:Type}{l pre post:List α}{x:α}(e:l=pre++x :: post):pre.length < l.length:=by
 have:=congrArg dO e;rw [aE,aj] at this; lia
noncomputable def lu:jU:=fun ds G Q _=>∃ (d e:D) (l m:Po),ds=[d,e]/\Pl G d l/\Pl G e m/\l.length+m.length<=SZ/\gX G (.gK (bz (xj l m))) Q
noncomputable def EH:hV :=
 (b8 (bE (wa KU (aw (av 0) aQ)) (aG 2))
 (b8 (dN (lR (av 1)) (iH (cy (aG 3) (cy (aG 4) ip))) (bE (br jP (tS Q0 LO (av 2) (aw (av 3) (aw (dC (.int 0)) aQ))) (av 4)) (lS (av 2) (av 3))))
 (bR (cm (bu dD (aw (cm (av 2)) aQ))))))
theorem Ql(ds:List D)(G:Gp)(Q:DK)(h:lu ds G Q fun _ _=>False):EH (fun _ _=>False) (ends Q) (ba 5 ds) G:=by
 obtain⟨d,e,l,m,rfl,hd,he,hl,q⟩:=h;unfold EH;simp only [ends,ba,ao,aT,aj,ax,aO,aB,aP,cJ,bE,wa,aw,av,aa,aQ,aG,aq,ah];refine P9 hd.is.p (by lia) fun p hp=>?_;refine cM (fun τ G'=>(∃ a b,τ=[some d,some e,some (.ref p),a,b])/\ff G G'/\G' p=some (.gK (bz (sI l m)))) ?_ ?_
 ·intro N hN;simp only [dN,lR,av,ae,aa];refine lz he.is (.new hp) fun ok cn=>?_;refine cW (xs:=m) (fun pre τ G'=>(∃ a b,τ=[some d,some e,some (.ref p),a,b])/\ff G G'/\G' p=some (.gK (bz (sI l pre)))) ⟨⟨_,_,rfl⟩,.new hp,ay⟩ (fun pre τ G' h=>cn G' h.2.1) ?_ ?_
  ·rintro pre x post τ G' N2 e2 ⟨⟨a,b,rfl⟩,le,gp⟩ kG;have hlen:(sI l pre).length < SZ:=by
    have:=Bp l pre;have:=gG e2; lia
   simp only [iH,cy,aG,ip,bE,br,tS,av,aq,ah,ae,aa,xB,aw,dC,aQ,lS];refine⟨Nl (wo.ref gp),S5 (wo.ref gp) ?_⟩;simp only [uW,fF];refine gT (α:=Int) gp hlen ?_;refine kG _ _ ⟨⟨_,_,rfl⟩,le.put hp,?_⟩;rw [ay];unfold sI plus;rw [iq]; rfl
  ·rintro τ G' ⟨⟨a,b,rfl⟩,le,gp⟩;exact hN _ _ ⟨⟨_,_,rfl⟩,le,gp⟩
 ·rintro _ G' ⟨⟨a,b,rfl⟩,le,gp⟩;simp only [bR,cm,bu,aw,av,ae,aa,aQ];refine ju le hp gp ?_;refine⟨_,sI l m,rfl,⟨rfl,EX hd.nd⟩,by have:=Bp l m; lia,fun p2 qe=>?_⟩;exact rT (.new qe) qe ay q
noncomputable def rj:jU:=fun ds G Q _=>∃ (d:D) (l:Po),ds=[d]/\Pl G d l/\l.length<=SZ/\gX G (.gK (bz (jC l))) Q
theorem Lg{l pre post:Po}{p:Int×Int}(h:ND l)(e:l=pre++p :: post):eU (jC pre) (-p.1) p.2=jC (pre++[p]):=by
 rw [kC,jC,jC,aK]; rfl;intro z;unfold jC at z;rw [aM] at z;obtain⟨r,hr,er⟩:=List.mem_map.mp z;have:r.1=p.1:=by have:-r.1=-p.1:=er; lia
 exact OF h e (this ▸ bP hr)
noncomputable def ic:jU:=fun ds G Q _=>∃ (d:D) (l:Po) (b f:Int),ds=[d,.int b,.int f]/\Pl G d l/\l.length<=SZ/\(fG l < sr/\f.natAbs < sr)/\gX G (.gK (bz (lQ l b f))) Q
noncomputable def yu:hV :=
 (b8 (bE pB (aG 3))
 (b8 (dN (lR (av 0)) (iH (cy (aG 4) (cy (aG 5) ip))) (bE (br JZ (av 5) (av 2)) (lS (av 3) (br jP (av 4) (av 1)))))
 (bR (cm (bu dD (aw (cm (av 3)) aQ))))))
noncomputable def NK(b f:Int)(l:Po):Po:=l.map fun p=>(p.1+b,p.2 * f)
theorem HH{l pre post:Po}{p:Int×Int}(b f:Int)(h:ND l)(e:l=pre++p :: post):eU (NK b f pre) (p.1+b) (p.2 * f)=NK b f (pre++[p]):=by
 rw [kC,NK,NK,aK]; rfl;intro z;unfold NK at z;rw [aM] at z;obtain⟨r,hr,er⟩:=List.mem_map.mp z;have:r.1=p.1:=by have:r.1+b=p.1+b:=er; lia
 exact OF h e (this ▸ bP hr)
theorem Jk(ds:List D)(G:Gp)(Q:DK)(h:ic ds G Q fun _ _=>False):yu (fun _ _=>False) (ends Q) (ba 6 ds) G:=by
 obtain⟨d,l,b,f,rfl,hd,hl,⟨hb,hf⟩,q⟩:=h;unfold yu;simp only [ends,ba,ao,aT,aj,ax,aO,aB,aP,cJ,bE,pB,aG,aq,ah];intro p hp;refine cM (fun τ G'=>(∃ u v,τ=[some d,some (.int b),some (.int f),some (.ref p),u,v])/\ff G G'/\G' p=some (.gK (bz (NK b f l)))) ?_ ?_
 ·intro N hN;simp only [dN,lR,av,aa];refine lz hd.is (.new hp) fun ok cn=>?_;refine cW (xs:=l) (fun pre τ G'=>(∃ u v,τ=[some d,some (.int b),some (.int f),some (.ref p),u,v])/\ff G G'/\G' p=some (.gK (bz (NK b f pre)))) ⟨⟨_,_,rfl⟩,.new hp,ay⟩ (fun pre τ G' h=>cn G' h.2.1) ?_ ?_
  ·rintro pre x post τ G' N2 e ⟨⟨u,v,rfl⟩,le,gp⟩ kG;have hlen:(NK b f pre).length < SZ:=by
    have:=gG e;unfold NK; rw [ak]; lia
   have hx:x.2.natAbs < sr:=hW (CL (by rw [e]; simp)) hb;simp only [iH,cy,aG,ip,bE,br,av,aq,ah,uW,ae,aa,lS,fF,vI];refine⟨⟨hx,hf⟩,?_⟩;refine gT (α:=Int) gp hlen ?_;exact kG _ _ ⟨⟨_,_,rfl⟩,le.put hp,by rw [ay,<-HH b f hd.nd e]⟩
  ·rintro τ G' ⟨⟨u,v,rfl⟩,le,gp⟩;exact hN _ _ ⟨⟨_,_,rfl⟩,le,gp⟩
 ·rintro _ G' ⟨⟨u,v,rfl⟩,le,gp⟩;simp only [bR,cm,bu,aw,av,ae,aa,aQ];refine ju le hp gp ?_;refine⟨_,NK b f l,rfl,⟨rfl,Es hd.nd b f⟩,by unfold NK; rw [ak]; exact hl,fun p2 qe=>?_⟩;exact rT (.new qe) qe ay q
noncomputable def jz:jU:=fun ds G Q _=>∃ (d e:D) (l m:Po),ds=[d,e]/\Pl G d l/\Pl G e m/\l.length * m.length<=SZ/\(fG l < sr/\fG m < sr)/\gX G (.gK (bz (jr l m))) Q
noncomputable def EF:hV :=
 (b8 (bE pB (aG 2))
 (b8 (dN (lR (av 0)) (iH (cy (aG 3) (cy (aG 4) ip))) (dN (lR (av 1)) (iH (cy (aG 5) (cy (aG 6) ip))) (b8 (bE (br jP (av 3) (av 5)) (aG 7))
 (bE (br jP (tS Q0 LO (av 2) (aw (av 7) (aw (dC (.int 0)) aQ))) (br JZ (av 4) (av 6))) (lS (av 2) (av 7))))))
 (bR (cm (bu dD (aw (cm (av 2)) aQ))))))
theorem RO{l pre post:Po}{x:Int×Int}{m mp mq:Po}{y:Int×Int}(e:l=pre++x :: post)(e2:m=mp++y :: mq)(a:Po)(ha:a.length<=pre.length * m.length):(oH mp a x).length < l.length * m.length:=by
 have h1:=ES mp a x;have h2:=gG e;have h3:=gG e2;have h4:(pre.length+1) * m.length<=l.length * m.length:=kd _ h2;rw [Nat.succ_mul] at h4;lia
theorem Mk(m:Po):∀ (l:Po),(l.foldl (oH m) []).length<=l.length * m.length:=fun l=>qI l m
theorem Qk(ds:List D)(G:Gp)(Q:DK)(h:jz ds G Q fun _ _=>False):EF (fun _ _=>False) (ends Q) (ba 8 ds) G:=by
 obtain⟨d,e,l,m,rfl,hd,he,hl,⟨hb,hf⟩,q⟩:=h;unfold EF;simp only [ends,ba,ao,aT,aj,ax,aO,aB,aP,cJ,bE,pB,aG,aq,ah];intro p hp;refine cM (fun τ G'=>(∃ a1 a2 a3 a4 a5,τ=[some d,some e,some (.ref p),a1,a2,a3,a4,a5])/\ff G G'/\G' p=some (.gK (bz (nM l m)))) ?_ ?_
 ·intro N hN;simp only [dN,lR,av,aa];refine lz hd.is (.new hp) fun ok cn=>?_;refine cW (xs:=l) (fun pre τ G'=>(∃ a1 a2 a3 a4 a5,τ=[some d,some e,some (.ref p),a1,a2,a3,a4,a5])/\ff G G'/\G' p=some (.gK (bz (pre.foldl (oH m) [])))) ⟨⟨_,_,_,_,_,rfl⟩,.new hp,ay⟩ (fun pre τ G' h=>cn G' h.2.1) ?_ ?_
  ·rintro pre x post τ G' N2 e1 ⟨⟨a1,a2,a3,a4,a5,rfl⟩,le,gp⟩ kG;have hx:x.2.natAbs < sr:=hW (CL (by rw [e1]; simp)) hb;simp only [iH,cy,aG,ip,dN,lR,av,aq,ah,uW,ae,aa];refine lz he.is le fun Wt ZM=>?_;refine cW (xs:=m) (fun mp τ G'=>(∃ a3 a4 a5,τ=[some d,some e,some (.ref p),some (.int x.1),some (.int x.2),a3,a4,a5])/\ff G G'/\G' p=some (.gK (bz (oH mp (pre.foldl (oH m) []) x)))) ⟨⟨_,_,_,rfl⟩,le,gp⟩ (fun pre τ G' h=>ZM G' h.2.1) ?_ ?_
   ·rintro mp y mq τ G2 N3 e2 ⟨⟨b3,b4,b5,rfl⟩,LY,M1⟩ w4;have hlen:=bM (RO e1 e2 (pre.foldl (oH m) []) (Mk m pre)) hl;have hy:y.2.natAbs < sr:=hW (CL (by rw [e2]; simp)) hf;simp only [iH,cy,aG,ip,aq,ah,uW,cJ,bE,br,av,ae,aa,tS,xB,aw,dC,aQ,lS,vI,fF];refine⟨Nl (wo.ref M1),S5 (wo.ref M1) ?_⟩;simp only [fF];refine⟨⟨hx,hy⟩,?_⟩;refine gT (α:=Int) M1 hlen ?_;refine w4 _ _ ⟨⟨_,_,_,rfl⟩,LY.put hp,?_⟩;rw [ay]
    conv=>rhs; rw [oH,iq]
    rfl
   ·rintro τ G2 ⟨⟨b3,b4,b5,rfl⟩,LY,M1⟩;refine kG _ _ ⟨⟨_,_,_,_,_,rfl⟩,LY,?_⟩;rw [M1,iq]; rfl
  ·rintro τ G' ⟨⟨a1,a2,a3,a4,a5,rfl⟩,le,gp⟩;exact hN _ _ ⟨⟨_,_,_,_,_,rfl⟩,le,gp⟩
 ·rintro _ G' ⟨⟨a1,a2,a3,a4,a5,rfl⟩,le,gp⟩;simp only [bR,cm,bu,aw,av,ae,aa,aQ];refine ju le hp gp ?_;refine⟨_,nM l m,rfl,⟨rfl,yK l m⟩,bw (qI l m) hl,fun p2 qe=>?_⟩;exact rT (.new qe) qe ay q
noncomputable def iw:jU:=fun ds G Q _=>∃ (d:D) (l:Po) (n:Nat),ds=[d,.int n]/\Pl G d l/\(n<=1000/\∀ k,k < n->l.length ^ k * l.length<=SZ/\fG l ^ k < sr)/\fG l < sr/\gX G (.gK (bz (dP l n))) Q
noncomputable def Bj:hV :=
 (b8 (bE (KP (dC (.int 0)) (dC (.int 1))) (aG 2))
 (b8 (dN (wY (av 1)) (aG 3) (bE (bu jz (aw (cm (av 2)) (aw (cm (av 0)) aQ))) (aG 2)))
 (bR (cm (av 2)))))
theorem MI(ds:List D)(G:Gp)(Q:DK)(h:iw ds G Q fun _ _=>False):Bj (fun _ _=>False) (ends Q) (ba 4 ds) G:=by
 obtain⟨d,l,n,rfl,hd,⟨hn,hk⟩,hb,q⟩:=h;unfold Bj;simp only [ends,ba,ao,aT,aj,ax,aO,aB,aP,cJ,bE,KP,dC,aG,aq,ah];refine⟨rfl,fun p0 QJ=>?_⟩;refine cM (fun τ G'=>(∃ a p,τ=[some d,some (.int n),some (.ref p),a]/\G p=none/\G' p=some (.gK (bz (dP l n))))/\ff G G') ?_ ?_
 ·intro N hN;simp only [dN,mX,av,ae,aa,kN];refine⟨by lia,by lia,?_⟩;rw [cV];refine Py (fun pre τ G'=>(∃ a p,τ=[some d,some (.int n),some (.ref p),a]/\G p=none/\G' p=some (.gK (bz (dP l pre.length))))/\ff G G') ⟨⟨_,p0,rfl,QJ,ay⟩,.new QJ⟩ (fun _ _ _ _=>trivial) ?_ ?_
  ·rintro pre x post τ G' N2 e1 ⟨⟨a,p,rfl,hp,gp⟩,le⟩ kG;obtain⟨rfl,xn⟩:=HJ e1;obtain⟨h1,h2⟩:=hk pre.length xn;simp only [aG,bE,bu,aw,cm,av,aq,ah,ae,aa,aQ];refine ju le hp gp (cS ?_);refine⟨_,d,dP l pre.length,l,rfl,⟨rfl,vN _ _⟩,hd,bw (kd _ (sS l _)) h1,⟨hW (o9 l _) h2,hb⟩,fun p2 qe=>?_⟩;refine kG _ _ ⟨⟨_,p2,rfl,qe,?_⟩,.new qe⟩;rw [ay,aE]; rfl
  ·rintro τ G' ⟨⟨a,p,rfl,hp,gp⟩,le⟩;rw [show (gM 0 n).length=n by simp [gM]] at gp;exact hN _ _ ⟨⟨_,p,rfl,hp,gp⟩,le⟩
 ·rintro _ G' ⟨⟨a,p,rfl,hp,gp⟩,le⟩;simp only [bR,cm,av,ae,aa];exact rT le hp gp q
end Y
namespace JB
open K2.P K2.J
noncomputable def Bl:hV :=
 (b8 (fc (fT (br (GR false) (av 1) (dC (.int 0)))) (bR (cm (jb (aw (gi (aw (gi (aw (av 0) (aw (dC (.int 0)) (aw (dC (.int 0)) aQ)))) (aw (gi (aw (av 0) (aw (dC (.int 1)) (aw (dC (.int 1)) aQ)))) aQ))) (aw (gi (aw (gi (aw (av 0) (aw (dC (.int 1)) (aw (dC (.int 0)) aQ)))) (aw (gi (aw (av 0) (aw (dC (.int 0)) (aw (dC (.int 1)) aQ)))) aQ))) aQ))))) cN)
 (bR (cm (jb (aw (gi (aw (gi (aw (av 0) (aw (dC (.int 0)) (aw (dC (.int 0)) aQ)))) (aw (gi (aw (av 0) (aw (dC (.int 1)) (aw (dC (.int 0)) aQ)))) aQ))) (aw (gi (aw (gi (aw (av 0) (aw (dC (.int 0)) (aw (dC (.int 1)) aQ)))) (aw (gi (aw (av 0) (aw (dC (.int 1)) (aw (dC (.int 1)) aQ)))) aQ))) aQ))))))
noncomputable def wI(w:Bool):Int:=if w=true then 1 else 0
noncomputable def rn:jU:=fun ds G Q _=>∃ (n:Int) (w:Bool),ds=[.int n,.int (wI w)]/\Q (enc (js n w)) G
theorem MK(ds:List D)(G:Gp)(Q:DK)(h:rn ds G Q fun _ _=>False):Bl (fun _ _=>False) (ends Q) (ba 2 ds) G:=by
 obtain⟨n,w,rfl,q⟩:=h;unfold Bl;simp only [b8,fc,ba,ao,aT,aj,ax,aB,aP,bR,cm,jb,aw,gi,av,aa,dC,aQ,ends,cN,cD,br,ae];refine⟨_,_,.int _,.int _,?_⟩;simp only [ar,kT,if_false,bF];cases w with
 | false =>
  simp only [wI,ar,if_false,beq_self_eq_true,if_true];refine⟨by decide,by decide,by decide,by decide,by decide,by decide,by decide,fun p hp=>?_⟩;exact ig (xs:=js n false) (.new hp) hp ay q
 | true =>
  simp only [wI,if_true,show ((1:Int) == 0)=false from rfl,ar,if_false];refine⟨by decide,by decide,by decide,by decide,by decide,by decide,by decide,fun p hp=>?_⟩;exact ig (xs:=js n true) (.new hp) hp ay q
noncomputable def wH:hV :=
 (bR (cm (dIf (fT (br (GR false) (av 1) (dC (.int 0)))) (av 0) (GX AJ (av 0)))))
noncomputable def pw(h:Int)(w:Bool):Int:=if w=true then -h else h
noncomputable def nH:jU:=fun ds G Q _=>∃ (h:Int) (w:Bool),ds=[.int h,.int (wI w)]/\Q (.int (pw h w)) G
theorem GA(ds:List D)(G:Gp)(Q:DK)(h:nH ds G Q fun _ _=>False):wH (fun _ _=>False) (ends Q) (ba 2 ds) G:=by
 obtain⟨n,w,rfl,q⟩:=h;unfold wH;simp only [bR,cm,dIf,ba,ao,aT,aj,ax,aB,aP,av,aa,ends,GX,lx,cD,br,ae,dC];refine⟨_,_,.int _,.int _,?_⟩;simp only [ar,kT,if_false,bF];cases w with
 | false =>
  simp only [wI,ar,if_false,beq_self_eq_true,if_true];exact cS q
 | true =>
  simp only [wI,if_true,show ((1:Int) == 0)=false from rfl,ar,if_false];exact cS q
theorem WH:∀ (x y:List Int),qc (fun a b=>decide (a < b)) x y=lexLt x y
 | [],[]=>rfl
 | [],_ :: _=>rfl
 | _ :: _,[]=>rfl
 | a :: x,b :: y=>by rw [vW,WH x y]; rfl
theorem lt3(p q:T3):lexLt p.l q.l=aU.lt p q:=(WH _ _).symm
noncomputable def yv:hV :=
 (bR (cm (wa Sk (aw (wa u5 (aw (fx 1 [0] (uO (av 0)) (aG 0) (some (fT (br Wh (av 0) (br kE (av 1) (av 0))))) (gi (aw (av 0) (aw (br kE (av 1) (av 0)) aQ)))) aQ)) aQ))))
noncomputable def kM:jU:=fun ds G Q _=>∃ (l:List (T3×T3)),ds=[.j8 (bz l)]/\((l.map (·.1)).Nodup/\l.length < 64)/\Q (pM (oh (LH l))) G
theorem Jl(ds:List D)(G:Gp)(Q:DK)(h:kM ds G Q fun _ _=>False):yv (fun _ _=>False) (ends Q) (ba 1 ds) G:=by
 obtain⟨l,rfl,⟨nd,hl⟩,q⟩:=h;unfold yv;simp only [bR,cm,wa,aw,fx,uO,av,ba,ao,aT,aj,ax,aB,aP,aa,aQ,ends];show _/\_;have ek:((bz l).map fun p=>p.1)=l.map fun p=>enc p.1:=by unfold bz; rw [aM]; rfl
 refine⟨Au (by unfold bz; rw [ak,ak]; lia),?_⟩;rw [ek];refine gH (xs:=l) (f:=fun p=>enc p.1) (fun pre acc τ G'=>G=G'/\(∃ a,τ=[a,some (.j8 (bz l))])/\acc=(pre.filter fun p=>aU.lt p.1 p.2).map enc) ⟨rfl,⟨_,rfl⟩,rfl⟩ (fun _ _ _ _ _=>trivial) ?_ ?_
 ·rintro pre x post acc τ G' N e ⟨rfl,⟨a,rfl⟩,rfl⟩ hN;have hx:cz l x.1=some x.2:=yX nd (by rw [e]; simp);simp only [aG,ah,gi,aw,av,aa,br,ae,aQ,aj,ax,xD,uC,hx,tO,cD];refine⟨mW _ _,?_⟩;show ∃ xs ys,_;refine⟨x.1.l,x.2.l,rfl,rfl,?_⟩;simp only [lt3,bF];split
  ·rename_i xn;refine⟨mW _ _,by decide,hN _ _ _ ⟨rfl,⟨_,rfl⟩,?_⟩⟩;simp only [fQ,bQ,xn,if_true,vj,aK]; rfl
  ·rename_i xn;refine hN _ _ _ ⟨rfl,⟨_,rfl⟩,?_⟩;simp only [fQ,bQ,xn,if_false,vj,dq,ar]
 ·rintro acc τ G' ⟨rfl,⟨a,rfl⟩,rfl⟩ p hp;refine zR (IsL.ref ay) (hW (fJ _ _) hl) fun p2 qe=>?_;unfold Sk;simp only [oM (IsL.ref ay)];rw [Oi] at q;exact xN ((ff.new hp).trans (.new qe)) q
theorem Mc{G G2:Gp}{d:D}{ds:List D}{R:List D->(Gp->Prop)->Gp->Prop}(h:itemsOf d G=some ds)(l:ff G G2)(k:∀ ok:Gp->Prop,(∀ G',ff G G'->ok G')->R ds ok G2):QI d G2 R:=by
 cases d with
 | tup xs=>cases h; exact k _ fun _ _=>trivial
 | cY xs=>cases h; exact k _ fun _ _=>trivial
 | ref a =>
  unfold itemsOf at h;dsimp only at h;split at h
  ·rename_i xs ha;cases h;rw [Ko (l _ _ ha)];exact k _ fun G' le=>le _ _ ha
  ·cases h
 | _=>cases h
noncomputable def wN:hV :=
 (b8 (bE pB (aG 1))
 (b8 (dN (jS (av 0)) (iH (cy (aG 2) (cy (aG 3) ip))) (b8 (bE (av 3) (lS (av 1) (av 2)))
 (bE (av 2) (lS (av 1) (av 3)))))
 (bR (cm (av 1)))))
noncomputable def j3:jU:=fun ds G Q _=>∃ (d:D) (P:Pr T3),ds=[d]/\itemsOf d G=some (P.map enc)/\P.length<=200/\gX G (.gK (bz (IM P))) Q
theorem PC(P:Pr T3)(p:T3×T3):IM (P++[p])=eU (eU (IM P) p.1 p.2) p.2 p.1:=by unfold IM; rw [iq]; rfl
theorem GG(ds:List D)(G:Gp)(Q:DK)(h:j3 ds G Q fun _ _=>False):wN (fun _ _=>False) (ends Q) (ba 4 ds) G:=by
 obtain⟨d,P,rfl,hi,hl,q⟩:=h;unfold wN;simp only [ends,ba,ao,aT,aj,ax,aO,aB,aP,cJ,bE,pB,gX,aG,aq,ah];intro p hp;refine cM (fun τ G'=>(∃ a b,τ=[some d,some (.ref p),a,b])/\ff G G'/\G' p=some (.gK (bz (IM P)))) ?_ ?_
 ·intro N hN;simp only [dN,dM,av,aa];refine Mc hi (.new hp) fun ok cn=>?_;refine cW (xs:=P) (fun pre τ G'=>(∃ a b,τ=[some d,some (.ref p),a,b])/\ff G G'/\G' p=some (.gK (bz (IM pre)))) ⟨⟨_,_,rfl⟩,.new hp,ay⟩ (fun pre τ G' h=>cn G' h.2.1) ?_ ?_
  ·rintro pre x post τ G' N2 e ⟨⟨a,b,rfl⟩,le,gp⟩ kG;have hlen:=KA pre;have tj:pre.length < P.length:=by rw [e]; simp
   have e0:(enc x:D)=.tup [enc x.1,enc x.2]:=rfl;simp only [iH,e0,cy,aG,ip,aq,ah,cJ,bE,av,ae,aa,lS];refine K2.P.gT (k:=x.1) (v:=x.2) gp (by lia) ?_;have abC:=qU (IM pre) x.1 x.2;refine K2.P.gT (k:=x.2) (v:=x.1) ay (by lia) ?_;refine kG _ _ ⟨⟨_,_,rfl⟩,(le.put hp).put hp,?_⟩;rw [ay,PC]
  ·rintro τ G' ⟨⟨a,b,rfl⟩,le,gp⟩;exact hN _ _ ⟨⟨_,_,rfl⟩,le,gp⟩
 ·rintro _ G' ⟨⟨a,b,rfl⟩,le,gp⟩;simp only [bR,cm,av,ae,aa];exact C4 le hp gp (q p hp)
noncomputable def QE(l:List (T2×T2)):Pr T3:=l.map fun p=>(⟨p.1.a,p.1.b,1⟩,⟨p.2.a,p.2.b,0⟩)
theorem Vf(P:Pr T3):((IM P).map (·.1)).Nodup:=by
 have:∀ (P:Pr T3) (l:List (T3×T3)),(l.map (·.1)).Nodup->((P.foldl (fun l p=>eU (eU l p.1 p.2) p.2 p.1) l).map (·.1)).Nodup:=by
  intro P;induction P with
  | nil=>intro l h; exact h
  | cons p P ih=>intro l h; exact ih _ (pF (pF h))
 exact this P [] cf
noncomputable def sD:hV :=
 (b8 (bE (fx 2 [] (CY (bu mM (aw (av 0) aQ))) (iH (cy (aG 0) (cy (aG 1) ip))) none (gi (aw (br jP (av 0) (gi (aw (dC (.int 1)) aQ))) (aw (br jP (av 1) (gi (aw (dC (.int 0)) aQ))) aQ)))) (aG 1))
 (bR (cm (bu kM (aw (cm (bu j3 (aw (av 1) aQ))) aQ)))))
noncomputable def kW:jU:=fun ds G Q _=>∃ rows:Rows,ds=[enc rows]/\rows.flatten.length<=24/\Q (pM (oh (LH (IM (QE (mU (pairsOf rows))))))) G
theorem A0(ds:List D)(G:Gp)(Q:DK)(h:kW ds G Q fun _ _=>False):sD (fun _ _=>False) (ends Q) (ba 2 ds) G:=by
 obtain⟨rows,rfl,hl,q⟩:=h;have l1:=Bt (pairsOf rows);have l2:=pairs_len rows;unfold sD;simp only [ends,ba,ao,aT,aj,ax,aO,aB,aP,cJ,bE,fx,CY,bu,aw,av,aa,aQ,aG,bR,cm,aq,ah,ae];refine⟨rows,rfl,by lia,?_⟩;generalize hn:mU (pairsOf rows)=l at q l1;have hk:(((bz l).all fun p=>kR p.1)=true):=by
  unfold bz; rw [fK,du]; intro p _; rfl
 refine⟨hk,?_⟩;have em:((bz l).map fun p=>D.tup [p.1,p.2])=l.map fun p=>D.tup [enc p.1,enc p.2]:=by unfold bz; rw [aM]; rfl
 rw [em];refine⟨Au (by rw [ak]; lia),?_⟩;refine gH (xs:=l) (f:=fun p=>D.tup [enc p.1,enc p.2]) (fun pre acc τ G'=>G=G'/\(∃ a b,τ=[a,b])/\acc=(QE pre).map enc) ⟨rfl,⟨_,_,rfl⟩,rfl⟩ (fun _ _ _ _ _=>trivial) ?_ ?_
 ·rintro pre x post acc τ G' N e ⟨rfl,⟨a,b,rfl⟩,rfl⟩ hN;simp only [iH,cy,aG,ip,gi,aw,br,av,Vh,ah,aq,aa,dC,aQ,aj,ax,ae,EN,aB,aP];refine⟨by decide,by simp,by decide,by decide,by simp,by decide,by decide,hN _ _ _ ⟨rfl,⟨_,_,rfl⟩,?_⟩⟩;unfold QE;rw [aK,aK]; rfl
 ·rintro acc τ G' ⟨rfl,⟨a,b,rfl⟩,rfl⟩ p hp;have lt:(QE l).length<=24:=by unfold QE; rw [ak]; lia
  refine⟨.ref p,QE l,rfl,sZ (IsL.ref ay),by lia,fun p2 qe=>?_⟩;refine ju ((ff.new hp).trans (.new qe)) ((ff.new hp).free qe) ay ?_;have lf:=KA (QE l);exact⟨IM (QE l),rfl,⟨Vf _,by lia⟩,cS q⟩
end JB
namespace JB
open K2.P K2.J
open K2.Y (Po L ND NZ fG xj jr lQ dP ic jz iw lu Pl)
theorem R8(l:List (T3×T3))(k:T3):((bz l).filter fun p=>!ij p.1 (enc k))=bz (Dk l k):=by
 unfold bz Dk;rw [vk];congr 1;refine List.filter_congr fun p _=>?_;show (!ij (enc p.1) (enc k))=_;rw [Enc.eqv]; simp
theorem J3{G:Gp}{a:Nat}{l:List (T3×T3)}{k v:T3}{Q:DK}(h:G a=some (.gK (bz l)))(e:cz l k=some v)(q:Q (enc v) (eA G a (.gK (bz (Dk l k))))):Fh (.ref a) [enc k] G Q:=by
 refine⟨bz l,enc v,h,⟨rfl,?_,by rw [uC,e]; rfl⟩,by rw [R8]; exact q⟩;unfold bz; rw [fK,du]; intro p _; rfl
theorem UT{α:Type} [DecidableEq α]{f:α->α}(h:Iv f){x y e:α}(he:f e=e):jn f x y e=e:=by
 have h1:=h x;have h2:=h y;unfold jn
 grind
theorem uL{f:T3->T3}:∀ {ps:Pr T3},Ok f ps->∀ {e:T3},f e=e->i4 f ps e=e:=by
 intro ps;induction ps generalizing f with
 | nil=>intro o e h; exact h
 | cons p ps ih=>intro o e h; exact ih o.tl (UT o.iv h)
theorem sub_len'{α:Type} [DecidableEq α]:∀ (xs ys:List α),xs.Nodup->(∀ x∈xs,x∈ys)->xs.length<=ys.length
 | [],_,_,_=>cw _
 | x :: xs,ys,hn,h=>by
  rw [a9] at hn;have:=sub_len' xs (ys.erase x) hn.2 fun y hy=>(QS (show y≠x from fun z=>hn.1 (by rw [<-z]; exact hy))).mpr (h y (aL _ hy));have hx:=h x (by simp);rw [Ld hx] at this;have:=Nh hx;rw [aj]; lia
theorem KG{l:List (T3×T3)}{f:T3->T3}(h:K6 l f){E:List T3}(hE:∀ e,f e≠e->e∈E):l.length<=E.length:=by
 have:=sub_len' (l.map fun p:T3×T3=>p.1) E h.nd fun e he=>by
  obtain⟨p,hp,rfl⟩:=List.mem_map.mp he;exact hE _ (h.mem hp).2
 simpa using this
theorem KL(l:List (T3×T3))(k:T3):(Dk l k).length<=l.length:=fJ _ _
theorem Gm(f:T3->T3)(ps:Pr T3)(x:T3×T3):cls f (ps++[x])=cls f ps+cl (i4 f ps) x.1 x.2:=by rw [tD]; rfl
theorem Fv(f:T3->T3)(ps:Pr T3)(x:T3×T3):i4 f (ps++[x])=jn (i4 f ps) x.1 x.2:=by rw [sY]; rfl
noncomputable def qF:hV :=
 (b8 (bE (bu j3 (aw (av 0) aQ)) (aG 2))
 (b8 (bE (dC (.int 0)) (aG 3))
 (b8 (dN (jS (av 1)) (iH (cy (aG 4) (cy (aG 5) ip))) (b8 (bE (tS Q0 Fh (av 2) (aw (av 4) aQ)) (aG 6))
 (b8 (bE (tS Q0 Fh (av 2) (aw (av 5) aQ)) (aG 7))
 (fc (fT (br (GR false) (av 6) (av 5))) (bE (br jP (av 3) (dC (.int 1))) (aG 3)) (b8 (bE (av 7) (lS (av 2) (av 6)))
 (bE (av 6) (lS (av 2) (av 7))))))))
 (bR (cm (gi (aw (bu kM (aw (cm (av 2)) aQ)) (aw (av 3) aQ))))))))
noncomputable def kg:jU:=fun ds G Q _=>∃ (P ps:Pr T3),ds=[pM (oh P),enc ps]/\((es P).Nodup/\P.length<=24/\Ok (pt P) ps)/\∀ P':Pr T3,(es P').Nodup->pt P'=i4 (pt P) ps->Q (.tup [pM (oh P'),.int (cls (pt P) ps)]) G
theorem zZ(ds:List D)(G:Gp)(Q:DK)(h:kg ds G Q fun _ _=>False):qF (fun _ _=>False) (ends Q) (ba 8 ds) G:=by
 obtain⟨P,ps,rfl,⟨nd,hl,ok⟩,q⟩:=h;unfold qF;simp only [↓cJ,bE,bu,aw,av,ba,↓ao,↓Oi,↓aT,↓aj,↓ax,aO,↓aB,↓aP,↓aa,aQ,aG,dC,ends,↓aq,↓ah];refine⟨.tup (P.map enc),P,rfl,rfl,by lia,fun p hp=>?_⟩;simp only [↓cm,↓ba,↓ends,↓cD,↓br,↓GX,↓av,↓wa,↓tS,↓aw,↓aQ,↓bR,↓Xq,↓kA,↓bE,↓aG,↓dC,↓cN,↓gi,↓jb,↓pB,↓xO,↓aaB,↓B0,↓mw,↓Gj,↓Sb,↓Gg,↓zK,↓kz,↓fM,↓dM,↓mX,↓bu,↓fx,↓fF,↓EN,↓uk,↓yH,↓qG,↓uj,↓kl,↓rq,↓lx,↓CC,↓Rf,↓Rj,↓Rk,↓jB,↓mR,↓CB,↓ui,↓JY,↓zS,↓P8,↓Mx,↓iX,↓wU,↓Fi,↓xk,↓nF,↓xB,↓QZ,↓QY,↓true_and,↓and_true,↓Kn,↓C0,↓iV,↓bF,↓kN,↓Fy,↓RX,↓O6,↓ao,↓aT,↓aB,↓aP,↓aa,↓ae,↓ah,↓aq,↓aj,↓ax,↓aO,↓if_true,↓if_false,↓bc,↓eG,↓ar,↓cJ,↓Et,↓lS,↓lR,↓uO,↓N7,↓vI,↓KP,↓iH,↓cy,↓ip];refine cM (fun τ G'=>∃ (l:List (T3×T3)) (a1 a2 a3 a4:Option D),τ=[some (.tup (P.map enc)),some (enc ps),some (.ref p),some (.int (cls (pt P) ps)),a1,a2,a3,a4]/\ff G G'/\G' p=some (.gK (bz l))/\K6 l (i4 (pt P) ps)) ?_ ?_
 ·intro N hN;simp only [dN,↓dM,av,↓ae,↓aa];refine fh ?_;refine cW (xs:=ps) (fun pre τ G'=>∃ (l:List (T3×T3)) (a1 a2 a3 a4:Option D),τ=[some (.tup (P.map enc)),some (enc ps),some (.ref p),some (.int (cls (pt P) pre)),a1,a2,a3,a4]/\ff G G'/\G' p=some (.gK (bz l))/\K6 l (i4 (pt P) pre)) ⟨IM P,_,_,_,_,rfl,.new hp,ay,KC nd⟩ (fun _ _ _ _=>trivial) ?_ ?_
  ·rintro pre x post τ G' N2 e ⟨l,a1,a2,a3,a4,rfl,le,gp,fa⟩ kG;have ok1:Ok (pt P) (pre++x :: post):=by rw [<-e]; exact ok
   have Wt:=ok1.left;obtain⟨n1,n2,n3⟩:=Wt.hd;obtain⟨f1,f2,f3,f4⟩:=fa.join Wt.iv n1 n2 n3;have ll:l.length<=(es P).length:=KG fa fun e he=>(vL nd).mp fun z=>he (uL ok1.pre z);rw [IS] at ll;have e0:(enc x:D)=.tup [enc x.1,enc x.2]:=rfl;rw [e0];simp only [iH,cy,ip,aG,ah,aq];simp only [↓cJ,bE,tS,av,↓ae,↓aa,↓xB,↓gp,aw,aQ,aG,↓aq,↓ah,↓true_and];refine J3 gp f1 ?_;simp only [↓ay,↓true_and];refine J3 ay f2 ?_;simp only [fc,↓cD,br,av,↓ae,↓aa,bE,dC,↓fF,aG,↓aq,↓ah,↓cJ,lS];refine⟨_,_,Enc.sn _ _ _ (by decide),Enc.sn _ _ _ (by decide),?_⟩;simp only [↓bF,↓ar,↓Enc.eqv,↓if_false];by_cases c:i4 (pt P) pre x.1=x.2
   ·simp only [↓c,↓decide_true,↓if_true];refine kG _ _ ?_;have ec:((cls (pt P) pre+1:Nat):Int)=(cls (pt P) pre:Int)+1:=Int.natCast_add _ _;rw [Gm,Fv,cl,if_pos c,ec];exact⟨_,_,_,_,_,rfl,(le.put hp).put hp,ay,f3 c⟩
   ·simp only [↓c,↓decide_false,↓ar,↓if_false];have d1:=KL l x.1;have d2:=KL (Dk l x.1) x.2;refine K2.P.gT (k:=i4 (pt P) pre x.1) (v:=i4 (pt P) pre x.2) ay (by lia) ?_;have d3:=qU (Dk (Dk l x.1) x.2) (i4 (pt P) pre x.1) (i4 (pt P) pre x.2);refine K2.P.gT (k:=i4 (pt P) pre x.2) (v:=i4 (pt P) pre x.1) ay (by lia) ?_;refine kG _ _ ?_;rw [Gm,Fv,cl,if_neg c,QP];exact⟨_,_,_,_,_,rfl,(((le.put hp).put hp).put hp).put hp,ay,f4 c⟩
  ·rintro τ G' ⟨l,a1,a2,a3,a4,rfl,le,gp,fa⟩;exact hN _ _ ⟨l,_,_,_,_,rfl,le,gp,fa⟩
 ·rintro _ G' ⟨l,a1,a2,a3,a4,rfl,le,gp,fa⟩;have iv:Iv (i4 (pt P) ps):=O0 ok;have ll:l.length<=(es P).length:=KG fa fun e he=>(vL nd).mp fun z=>he (uL ok z);rw [IS] at ll;obtain⟨h1,h2⟩:=J4 fa iv;simp only [bR,cm,gi,aw,bu,av,↓ae,↓aa,aQ,↓aj,↓ax];refine ju le hp gp ?_;refine⟨l,rfl,⟨fa.nd,by lia⟩,by decide,cS (q _ h1 h2)⟩
end JB
namespace JB
open K2.P K2.J
open K2.Y (Po L ND NZ fG xj jr lQ dP ic jz iw lu Pl)
noncomputable def XD(ns:List Int)(k:PK):Prop:=∃ P,k=oh P/\(es P).Nodup/\∀ e,pt P e≠e↔∃ n∈ns,e∈ky n
structure Sw(S:Su)(ns:List Int):Prop where
 MZ:ML S
 pl:∀ p∈S,XD ns p.1
noncomputable def DG(ns:List Int):List T3:=ns.flatMap ky
theorem Gy(ns:List Int):(DG ns).length=4 * ns.length:=by
 induction ns with
 | nil=>rfl
 | cons n ns ih=>unfold DG at *; rw [cT,aE,ih,aj]; show 4+_=_; lia
theorem Ux{ns:List Int}{P:Pr T3}(nd:(es P).Nodup)(h:∀ e,pt P e≠e↔∃ n∈ns,e∈ky n):P.length<=2 * ns.length:=by
 have:=sub_len' (es P) (DG ns) nd fun e he=>by
  obtain⟨n,h1,h2⟩:=(h e).mp ((vL nd).mpr he);exact List.mem_flatMap.mpr ⟨n,h1,h2⟩
 rw [IS,Gy] at this; lia
theorem Wn{ns:List Int}{P:Pr T3}(nd:(es P).Nodup)(hn:ns.Nodup)(h:∀ e,pt P e≠e↔∃ n∈ns,e∈ky n):Dm (pt P) ns:=⟨Od nd,hn,fun n VN e he=>(h e).mpr ⟨n,VN,he⟩⟩
theorem US{f:T3->T3}:∀ {ps:Pr T3},Ok f ps->∀ {e:T3},e∈es ps->i4 f ps e=e:=by
 intro ps;induction ps generalizing f with
 | nil=>intro o e h; cases h
 | cons p ps ih =>
  intro o e h;rw [es,bD,bD] at h;rcases h with rfl | rfl | h
  ·exact uL o.tl Zl
  ·exact uL o.tl Zk
  ·exact ih o.tl h
theorem Rv{n:Int}{ns:List Int}{f:T3->T3}(d:Dm f (n :: ns))(h:∀ e,f e≠e↔∃ m∈n :: ns,e∈ky m)(w:Bool):∀ e,i4 f (js n w) e≠e↔∃ m∈ns,e∈ky m:=by
 have ok:=d.ok w;have nn:=(List.nodup_cons.mp d.nd).1;intro e;constructor
 ·intro z;have h1:f e≠e:=fun y=>z (uL ok y);obtain⟨m,hm,he⟩:=(h e).mp h1;rcases List.mem_cons.mp hm with rfl | hm
  ·exact absurd (US ok ((kr m w).mem_iff.mpr he)) z
  ·exact⟨m,hm,he⟩
 ·rintro⟨m,hm,he⟩ z;rcases Kj ok z with z | z
  ·have h1:=rR ((kr n w).mem_iff.mp z);have h2:=rR he;exact nn (by rw [<-h1,h2]; exact hm)
  ·exact(h e).mpr ⟨m,aL _ hm,he⟩ z
theorem TC{α:Type} [DecidableEq α](f:α->α)(x y:α):cl f x y<=1:=by unfold cl; split <;> decide
theorem PW(f:T3->T3)(n:Int)(w:Bool):cls f (js n w)<=2:=by
 cases w <;> (show _+(_+0)<=2; have:=TC f; have a:=fun f x y=>TC (α:=T3) f x y; have h1:=a f; have h2:=a; grind)
theorem TJ:ND LP:=by unfold ND LP; decide
theorem Qq:fG LP=2:=rfl
theorem pE{n:Nat}(h:n<=2 ^ 30):n < sr:=hW h (by unfold sr; exact Nat.pow_lt_pow_right (by decide) (by decide))
theorem EI{c:Nat}(h:c<=3):c<=1000/\∀ k,k < c->LP.length ^ k * LP.length<=SZ/\fG LP ^ k < sr:=by
 refine⟨by lia,fun k hk=>?_⟩;have:k=0\/k=1\/k=2:=by lia
 rcases this with rfl | rfl | rfl
 ·exact⟨by decide,pE (by decide)⟩
 ·exact⟨by decide,pE (by decide)⟩
 ·exact⟨by decide,pE (by decide)⟩
theorem HM{c:Nat}(h:c<=3):fG (dP LP c)<=8:=bw (Y.o9 LP c) (show 2 ^ c<=2 ^ 3 from kc (by decide) h)
theorem Ru{c:Nat}(h:c<=2):(dP LP c).length<=4:=bw (Y.sS LP c) (show 2 ^ c<=2 ^ 2 from kc (by decide) h)
theorem Lm{l:Po}{G:Gp}{Q:Bool->Gp->Prop}(h:Q (!l.isEmpty) G):nG (.j8 (bz l)) G Q:=by
 unfold nG En;dsimp only;have k:((bz l).all fun p=>dE p.1)=true:=by unfold bz; rw [fK,du]; intro p _; rfl
 rw [if_pos k];have:(bz l).isEmpty=l.isEmpty:=by cases l <;> rfl
 rw [this]; exact h
theorem OH{G:Gp}{a:Nat}{A:Su}{k:PK}{Q:DK}(h:G a=some (.qh (iM A)))(q:Q (.j8 (bz ((cz A k).getD []))) G):Fj (.ref a) [pM k,.j8 []] G Q:=by
 refine⟨_,k,h,rfl,?_⟩;rw [BA];cases e:cz A k with
 | none=>rw [e] at q; exact q
 | some l=>rw [e] at q; exact q
theorem Bf{G:Gp}{a:Nat}{A:Su}{k:PK}{l:Po}{Q:Gp->Prop}(h:G a=some (.qh (iM A)))(hz:A.length < SZ)(q:Q (eA G a (.qh (iM (eU A k l))))):HI (.ref a) (pM k) (.j8 (bz l)) G Q:=by
 refine⟨_,k,h,rfl,by unfold iM; rw [ak]; exact hz,?_⟩;rw [Oc]; exact q
theorem IB{G G1:Gp}{p:Nat}{A:Su}{Q:DK}(l:ff G G1)(hp:G p=none)(h1:G1 p=some (.qh (iM A)))(q:Q (.oF (iM A)) G):Jr G1 (.ref p) Q :=
 ⟨fun a=>(G a).isNone,.oF (iM A),.qh h1 (by simp [hp]) (.same _) rfl,by rw [uZ l]; exact q⟩
noncomputable def term(h n:Int)(rest:List (Int×Int))(g:Fn)(f:T3->T3)(l:Po)(w:Bool):Int:=L (fun j=>Br (i4 f (js n w)) rest (jf (cls f (js n w)) (sh (pw h w) (sh j g)))) l
theorem Lo(h n:Int)(rest:List (Int×Int))(g:Fn)(f:T3->T3)(l:Po):term h n rest g f l false+term h n rest g f l true=L (fun j=>Br f ((n,h) :: rest) (sh j g)) l:=by
 unfold term;rw [<-Y.TH]; rfl
noncomputable def ym(h n:Int)(rest:List (Int×Int))(g:Fn)(f:T3->T3)(l:Po):List Bool->Int
 | []=>0
 | w :: ws=>term h n rest g f l w+ym h n rest g f l ws
theorem HD(h n:Int)(rest:List (Int×Int))(g:Fn)(f:T3->T3)(l:Po)(ws:List Bool)(w:Bool):ym h n rest g f l (ws++[w])=ym h n rest g f l ws+term h n rest g f l w:=by
 induction ws with
 | nil=>simp [ym]
 | cons v ws ih=>rw [aB,ym,ym,ih]; lia
structure M7(n h:Int)(rest:List (Int×Int))(pre:Su)(f:T3->T3)(l:Po)(ws:List Bool)(A:Su):Prop where
 ok:Sw A (rest.map (·.1))
 len:A.length<=2 * pre.length+ws.length
 fG:hX A<=8 * hX pre+ws.length * (4 * fG l)
 val:∀ g,nv rest g A=nv ((n,h) :: rest) g pre+ym h n rest g f l ws
theorem M7.step{n h:Int}{rest:List (Int×Int)}{pre:Su}{f:T3->T3}{l:Po}{ws:List Bool}{A:Su}(a:M7 n h rest pre f l ws A){P':Pr T3}{w:Bool}(nd:(es P').Nodup)(e:pt P'=i4 f (js n w))(hp:∀ e,i4 f (js n w) e≠e↔∃ m∈rest.map (·.1),e∈ky m) :
  M7 n h rest pre f l (ws++[w]) (sC A (oh P') l (cls f (js n w)) (pw h w)):=by
 refine⟨⟨NC a.ok.MZ _ _ _ _,fun p xm=>?_⟩,?_,?_,fun g=>?_⟩
 ·unfold sC eU at xm;have here:XD (rest.map (·.1)) (oh P'):=⟨P',rfl,nd,fun e'=>by rw [e]; exact hp e'⟩;split at xm
  ·obtain⟨q,hq,rfl⟩:=List.mem_map.mp xm;have:=a.ok.pl q hq;split <;> exact this
  ·rcases List.mem_append.mp xm with xm | xm
   ·exact a.ok.pl p xm
   ·rw [bL] at xm; subst xm; exact here
 ·have h1:=a.len;have h2:(sC A (oh P') l (cls f (js n w)) (pw h w)).length<=A.length+1:=by unfold sC eU; split <;> simp
  rw [aE,cb]; lia
 ·have h1:=a.fG;have h2:=NB a.ok.MZ (oh P') l (PW f n w) (pw h w);rw [aE,cb,Nat.add_mul,Nat.one_mul]; lia
 ·rw [NA a.ok.MZ,a.val,HD,IX,e];unfold term;lia
end JB
namespace JB
open K2.P K2.J
open K2.Y (Po L ND NZ fG xj jr lQ dP ic jz iw lu Pl)
theorem M7.zero{n h:Int}{rest:List (Int×Int)}{f:T3->T3}{l:Po}:M7 n h rest [] f l [] [] :=
 ⟨⟨⟨cf,fun p hp=>by cases hp⟩,fun p hp=>by cases hp⟩,aC _,cw _,fun g=>rfl⟩
theorem M7.next{n h:Int}{rest:List (Int×Int)}{pre:Su}{x:PK×Po}{l':Po}{f':T3->T3}{A:Su}(a:M7 n h rest pre (pt (dec x.1)) x.2 [false,true] A):M7 n h rest (pre++[x]) f' l' [] A:=by
 refine⟨a.ok,?_,?_,fun g=>?_⟩
 ·have:=a.len;rw [aE,cb]; simp at this ⊢; lia
 ·have:=a.fG;rw [yT];simp only [aj,ax,hX] at this ⊢; lia
 ·rw [a.val,JN];show _+(term h n rest g _ x.2 false+(term h n rest g _ x.2 true+0))=_+(L _ x.2+0)+0;have:=Lo h n rest g (pt (dec x.1)) x.2;lia
theorem Oz{S pre post:Su}{x:PK×Po}(e:S=pre++x :: post):hX pre+fG x.2<=hX S:=by
 rw [e,yT,hX]; lia
theorem BD(S:Su)(p:PK×Po):jD (S++[p])=if p.2.isEmpty=true then jD S else jD S++[p]:=by
 unfold jD;rw [fQ];by_cases h:p.2.isEmpty=true
 ·rw [if_pos h,MQ (by simp [h])]; simp
 ·rw [if_neg h,MP (by simp [h])]; simp
theorem OW{S pre post:Su}{x:PK×Po}(nd:(S.map (·.1)).Nodup)(e:S=pre++x :: post):x.1∉(jD pre).map (·.1):=by
 intro z;obtain⟨q,hq,e2⟩:=List.mem_map.mp z;have Th:=(List.mem_filter.mp hq).1;rw [e,aK,ao,cA] at nd;exact nd.2.2 _ (bP Th) _ cp e2
noncomputable def ug:hV :=
 (b8 (bE PV (aG 3))
 (b8 (Gh 3 (dN (uM (av 0)) (iH (cy (aG 4) (cy (aG 5) ip))) (dN (jS (gi (aw (dC (.int 0)) (aw (dC (.int 1)) aQ)))) (aG 6) (b8 (bE (bu kg (aw (av 4) (aw (bu rn (aw (av 1) (aw (av 6) aQ))) aQ))) (aG 7))
 (b8 (bE (bu ic (aw (cm (bu jz (aw (cm (av 5)) (aw (cm (bu iw (aw (cm (Gi [(2,-1),(-2,-1)])) (aw (cm (br kE (av 7) (dC (.int 1)))) aQ)))) aQ)))) (aw (cm (bu nH (aw (av 2) (aw (av 6) aQ)))) (aw (cm (dC (.int 1))) aQ)))) (aG 8))
 (bE (cm (bu lu (aw (cm (tS tyP Fj (av 3) (aw (cm (br kE (av 7) (dC (.int 0)))) (aw (cm pB) aQ)))) (aw (cm (av 8)) aQ)))) (FI (av 3) (br kE (av 7) (dC (.int 0))))))))))
 (b8 (bE PV (aG 9))
 (b8 (Gh 3 (dN (uM (av 3)) (iH (cy (aG 4) (cy (aG 5) ip))) (fc (fT (av 5)) (bE (cm (av 5)) (FI (av 9) (av 4))) cN)))
 (bR (cm (av 9)))))))
noncomputable def mj:jU:=fun ds G Q _=>∃ (S:Su) (n h:Int) (rest:List (Int×Int)),ds=[.oF (iM S),.int n,.int h]/\(Sw S (n :: rest.map (·.1))/\(n :: rest.map (·.1)).Nodup/\rest.length<=11/\S.length<=1048576/\hX S<=1048576) /\
 ∀ S':Su,Sw S' (rest.map (·.1))->S'.length<=hX S'->hX S'<=8 * hX S->(∀ g,nv rest g S'=nv ((n,h) :: rest) g S)->Q (.oF (iM S')) G
theorem DO(ds:List D)(G:Gp)(Q:DK)(h:mj ds G Q fun _ _=>False):ug (fun _ _=>False) (ends Q) (ba 10 ds) G:=by
 obtain⟨S,n,h,rest,rfl,⟨so,nn,hr,hSl,hSn⟩,q⟩:=h;unfold ug;simp only [↓cJ,bE,PV,gX,aG,ends,ba,↓ao,↓aT,↓aj,↓ax,aO,↓aB,↓aP,↓aq,↓ah];intro p hp;refine cM (fun τ G'=>∃ (A:Su) (a1 a2 a3 a4 a5 a6:Option D),G=G'/\τ=[some (.oF (iM S)),some (.int n),some (.int h),some (.oF (iM A)),a1,a2,a3,a4,a5,a6]/\M7 n h rest S (fun e=>e) [] [] A) ?_ ?_
 ·intro N hN;simp only [Gh];simp only [dN,uM,av,↓aa];show pR _ _ _ ((iM S).map _) _ _ _ _;have em:((iM S).map fun p=>D.tup [pM p.1,p.2])=S.map fun p=>D.tup [pM p.1,.j8 (bz p.2)]:=by unfold iM; rw [aM]; rfl
  rw [em];refine cW (xs:=S) (f:=fun p=>D.tup [pM p.1,.j8 (bz p.2)]) (fun pre τ G'=>∃ (A:Su) (a1 a2 a3 a4 a5 a6:Option D),ff G G'/\G' p=some (.qh (iM A))/\τ=[some (.oF (iM S)),some (.int n),some (.int h),some (.ref p),a1,a2,a3,a4,a5,a6]/\M7 n h rest pre (fun e=>e) [] [] A)
   ⟨[],_,_,_,_,_,_,.new hp,ay,rfl,.zero⟩ (fun _ _ _ _=>trivial) ?_ ?_
  ·rintro pre x post τ G' N2 e ⟨A,a1,a2,a3,a4,a5,a6,le,gp,rfl,af⟩ kG;obtain⟨P,ek,nd,pl⟩:=so.pl x (by rw [e]; simp);have dm:=Wn nd nn pl;have pll:=Ux nd pl;have hx:=so.MZ.2 x (by rw [e]; simp);have hnx:=Oz e;have hlx:=yR hx.2;have GV:pre.length < S.length:=by rw [e]; simp
   have ed:dec x.1=P:=by rw [ek,IX]
   simp only [iH,cy,ip,aG,ah,aq];simp only [dN,↓dM,gi,aw,dC,aQ,↓aj,↓ax,↓C0];refine⟨by decide,?_⟩;refine cW (xs:=[false,true]) (f:=fun w=>D.int (wI w)) (fun ws τ G'=>∃ (A:Su) (a3 a4 a5 a6:Option D),ff G G'/\G' p=some (.qh (iM A))/\τ=[some (.oF (iM S)),some (.int n),some (.int h),some (.ref p),some (pM x.1),some (.j8 (bz x.2)),a3,a4,a5,a6]/\M7 n h rest pre (pt P) x.2 ws A)
    ⟨A,_,_,_,_,le,gp,rfl,⟨af.ok,af.len,by have:=af.fG; simp only [ax,Nat.zero_mul] at this ⊢; exact this,af.val⟩⟩ (fun _ _ _ _=>trivial) ?_ ?_
   ·rintro ws w wt τ G2 N3 ew ⟨B,b3,b4,b5,b6,LY,M1,rfl,bf⟩ w4;have V0:ws.length<=1:=by
     have:=congrArg dO ew;simp at this; lia
    have hc:=PW (pt P) n w;have bl:=bf.len;have bn:=bf.fG;have bn2:hX B<=8388608:=by
     have:ws.length * (4 * fG x.2)<=1 * (4 * fG x.2):=kd _ V0;lia
    simp only [aG,↓cJ,bE,bu,aw,av,↓aq,ek,↓ah,↓ae,↓aa,aQ,cm,br,dC,tS,pB];refine⟨n,w,rfl,?_⟩;refine⟨P,js n w,rfl,⟨nd,by simp only [aj,ak] at pll; lia,dm.ok w⟩,fun P' nd' ep=>?_⟩;have p0:M7 n h rest pre (pt P) x.2 (ws++[w]) (sC B (oh P') x.2 (cls (pt P) (js n w)) (pw h w)):=bf.step nd' ep (Rv dm pl w);simp only [↓jB,Ym,VT];generalize ec:cls (pt P) (js n w)=c at hc p0;have hx1:=hx.1;have l1:(dP LP c).length<=4:=Ru hc;have l2:x.2.length * (dP LP c).length<=1048576 * 4:=Nat.mul_le_mul (by lia) l1;have l3:=Y.yJ x.2 (dP LP c);have l4:fG x.2 * fG (dP LP c)<=1048576 * 8:=Nat.mul_le_mul (by lia) (HM (by lia));have l5:=Y.sV x.2 (dP LP c);have l6:(Rp x.2 c (pw h w)).length<=(jr x.2 (dP LP c)).length:=bw (Y.vP _) (by rw [ak]; exact aC _);have l7:=yR (bf.ok.MZ.get (oh P')).2;have l8:=Kc B (oh P');refine cS ?_;unfold Gi;intro p5 f5;refine ju (.new f5) f5 ay (cS ?_);refine⟨_,LP,c,rfl,⟨rfl,TJ⟩,EI (by lia),by rw [Qq]; exact pE (by decide),fun p6 f6=>?_⟩;refine ju (.new f6) f6 ay ?_;refine⟨_,_,x.2,dP LP c,rfl,⟨rfl,hx1⟩,⟨rfl,Y.vN _ _⟩,bw l2 (by decide),⟨pE (by lia),pE (bw (HM (by lia)) (by decide))⟩,fun p7 f7=>?_⟩;refine ju (.new f7) f7 ay ?_;refine⟨h,w,rfl,cS (cS ?_)⟩;refine⟨_,jr x.2 (dP LP c),pw h w,1,rfl,⟨rfl,Y.vK _ _⟩,bw (bw l3 l2) (by decide),⟨pE (bw (bw l5 l4) (by decide)),pE (by decide)⟩,fun p8 f8=>?_⟩;have h8:p≠p8:=by rintro rfl; rw [M1] at f8; cases f8
    refine⟨by unfold tyP; simp only [cu h8,M1],cS ?_⟩;intro p9 f9;refine ju (.new f9) f9 ay ?_;refine OH (by rw [cu h8]; exact M1) (cS ?_);refine ju (.new f8) f8 ay ?_;refine⟨_,_,(cz B (oh P')).getD [],Rp x.2 c (pw h w),rfl,⟨rfl,(bf.ok.MZ.get _).1⟩,⟨rfl,Y.LC (Y.vK _ _) _ _⟩,?_,fun p10 f10=>?_⟩
    ·show _<=16777216;lia
    refine ju (.new f10) f10 ay ?_;unfold FI;simp only [av,↓ae,↓aa,br,dC,↓jB,VT];refine Bf M1 (show _ < 16777216 by lia) ?_;rw [<-ek];exact w4 _ _ ⟨_,_,_,_,_,LY.put hp,ay,rfl,p0⟩
   ·rintro τ G2 ⟨B,b3,b4,b5,b6,LY,M1,rfl,bf⟩;refine kG _ _ ⟨B,_,_,_,_,_,_,LY,M1,rfl,?_⟩;rw [<-ed] at bf;exact bf.next
  ·rintro τ G' ⟨A,a1,a2,a3,a4,a5,a6,le,gp,rfl,af⟩;simp only [↓ae,↓aa,↓aq,↓ah];refine IB le hp gp ?_;exact hN _ _ ⟨A,_,_,_,_,_,_,rfl,rfl,af⟩
 ·rintro _ G' ⟨A,a1,a2,a3,a4,a5,a6,rfl,rfl,af⟩;simp only [↓cJ,bE,PV,gX,aG,↓aq,↓ah];intro p2 qe;have al:=af.len;have an:=af.fG;simp only [ax,Nat.zero_mul,QP] at al an;refine cM (fun τ G'=>∃ (a1 a2 a3 a4 a5:Option D),τ=[some (.oF (iM S)),some (.int n),some (.int h),some (.oF (iM A)),a1,a2,a3,a4,a5,some (.ref p2)]/\ff G G'/\G' p2=some (.qh (iM (jD A)))) ?_ ?_
  ·intro N hN;simp only [Gh];simp only [dN,uM,av,↓ae,↓aa];show pR _ _ _ ((iM A).map _) _ _ _ _;have em:((iM A).map fun p=>D.tup [pM p.1,p.2])=A.map fun p=>D.tup [pM p.1,.j8 (bz p.2)]:=by unfold iM; rw [aM]; rfl
   rw [em];refine cW (xs:=A) (f:=fun p=>D.tup [pM p.1,.j8 (bz p.2)]) (fun pre τ G'=>∃ (a1 a2 a3 a4 a5:Option D),τ=[some (.oF (iM S)),some (.int n),some (.int h),some (.oF (iM A)),a1,a2,a3,a4,a5,some (.ref p2)]/\ff G G'/\G' p2=some (.qh (iM (jD pre))))
    ⟨_,_,_,_,_,rfl,.new qe,ay⟩ (fun _ _ _ _=>trivial) ?_ ?_
   ·rintro pre x post τ G' N2 e ⟨b1,b2,b3,b4,b5,rfl,le,gp⟩ kG;simp only [iH,cy,ip,aG,ah,aq];simp only [fc,↓cD,av,↓ae,↓aa,bE,cm,cN];refine Lm ?_;have GV:pre.length < A.length:=by rw [e]; simp
    have hkl:(jD pre).length<=pre.length:=fJ _ _;by_cases c:x.2.isEmpty=true
    ·simp only [c,bc,ar,if_false,cN];refine kG _ _ ⟨_,_,_,_,_,rfl,le,?_⟩;rw [BD,if_pos c]; exact gp
    ·have c':x.2.isEmpty=false:=by simpa using c
     simp only [c',eG,if_true];refine cS ?_;unfold FI;simp only [av,↓ae,↓aa];refine Bf gp (show _ < 16777216 by lia) ?_;refine kG _ _ ⟨_,_,_,_,_,rfl,le.put qe,?_⟩;rw [ay,BD,if_neg c,Y.kC (OW af.ok.MZ.1 e)]
   ·rintro τ G' ⟨b1,b2,b3,b4,b5,rfl,le,gp⟩;simp only [↓ae,↓aa,↓aq,↓ah];exact cS (hN _ _ ⟨_,_,_,_,_,rfl,le,gp⟩)
  ·rintro _ G' ⟨b1,b2,b3,b4,b5,rfl,le,gp⟩;simp only [bR,cm,av,↓ae,↓aa];refine IB le qe gp ?_;refine q (jD A) ⟨Ft af.ok.MZ,fun p xm=>af.ok.pl p (List.mem_filter.mp xm).1⟩ ?_ ?_ fun g=>?_
   ·have:jD (jD A)=jD A:=by unfold jD; rw [List.filter_filter]; simp
    have h2:=OX (Ft af.ok.MZ);rw [this] at h2; exact h2
   ·exact bw (OV A) an
   ·rw [OU,af.val];show _+0=_;lia
end JB
namespace JB
open K2.P K2.J
open K2.Y (Po L ND NZ fG xj jr lQ dP ic jz iw lu Pl)
variable {rows:Rows}
noncomputable def eO(s:T2):T3:=⟨s.a,s.b,1⟩
noncomputable def eI(s:T2):T3:=⟨s.a,s.b,0⟩
noncomputable def JQ(ps:List (T3×T3)):Pr T3:=ps.map fun p=>(eO p.1.s,eI p.2.s)
noncomputable def Nv(rows:Rows):Pr T3:=JQ (pairsOf rows)
noncomputable def fr(rows:Rows):T3->T3:=pt (Nv rows)
noncomputable def lo(rows:Rows):Nat:=(rows.filter fun r=>r.isEmpty).length
noncomputable def nh(rows:Rows):List (Int×Int):=(names rows).map fun n=>(n,handOf rows n)
theorem Ga:∀ (P:Pr T3),(es P).Perm (P.map (·.1)++P.map (·.2))
 | []=>.refl _
 | p :: P=>by
  rw [es,ao,ao,aB];refine Ck _ ?_;exact((Ga P).cons p.2).trans List.perm_middle.symm
theorem V3{ps:List (T3×T3)}(h1:(ps.map fun p=>p.1.s).Nodup)(h2:(ps.map fun p=>p.2.s).Nodup):(es (JQ ps)).Nodup:=by
 refine(Ga _).nodup_iff.mpr (List.nodup_append.mpr ⟨?_,?_,?_⟩)
 ·have:(JQ ps).map (·.1)=(ps.map fun p=>p.1.s).map eO:=by unfold JQ; rw [aM,aM]; rfl
  rw [this];refine mC h1 fun i _ j _ e=>?_;injection e with e1 e2
  cases i; cases j; simp only at e1 e2; rw [e1,e2]
 ·have:(JQ ps).map (·.2)=(ps.map fun p=>p.2.s).map eI:=by unfold JQ; rw [aM,aM]; rfl
  rw [this];refine mC h2 fun i _ j _ e=>?_;injection e with e1 e2
  cases i; cases j; simp only at e1 e2; rw [e1,e2]
 ·intro a ha b hb e;obtain⟨p,hp,rfl⟩:=List.mem_map.mp ha;obtain⟨q,hq,rfl⟩:=List.mem_map.mp hb;obtain⟨p',_,rfl⟩:=List.mem_map.mp hp;obtain⟨q',_,rfl⟩:=List.mem_map.mp hq;injection e with _ _ e3
  cases e3
theorem Ct(d:Dr rows):(es (Nv rows)).Nodup:=V3 (Px d) (Ug d)
theorem T4(d:Dr rows):QE (mU (pairsOf rows))=Nv rows:=by
 rw [OE d];unfold QE Nv JQ;rw [aM]; rfl
theorem T5(d:Dr rows)(e:T3):e∈es (Nv rows)↔∃ p∈rows.flatten,e=eO p.s\/e=eI p.s:=by
 rw [pe];constructor
 ·rintro⟨q,hq,z⟩;obtain⟨pq,hpq,rfl⟩:=List.mem_map.mp hq;have h1:pq.1∈rows.flatten:=by rw [<-rD rows]; exact bP hpq
  have h2:pq.2∈rows.flatten:=(rC rows).mem_iff.mp (bP hpq);rcases z with z | z
  ·exact⟨_,h1,.inl z⟩
  ·exact⟨_,h2,.inr z⟩
 ·rintro⟨p,hp,z | z⟩
  ·obtain⟨q,hq,_⟩:=Pt hp;exact⟨_,List.mem_map.mpr ⟨_,hq,rfl⟩,.inl z⟩
  ·obtain⟨q,hq,_⟩:=Pq hp;exact⟨_,List.mem_map.mpr ⟨_,hq,rfl⟩,.inr z⟩
theorem JP(d:Dr rows)(e:T3):e∈es (Nv rows)↔∃ n∈names rows,e∈ky n:=by
 rw [T5 d];constructor
 ·rintro⟨p,hp,z⟩;have hn:p.a∈names rows:=by
   rw [j5];rcases d.way p hp with w | w
   ·exact⟨p,hp,w,rfl⟩
   ·exact⟨_,d.AK p hp,by simp [w],rfl⟩
  refine⟨p.a,hn,?_⟩;rcases d.way p hp with w | w <;> rcases z with rfl | rfl <;> simp [ky,eO,eI,T3.s,w]
 ·rintro⟨n,hn,he⟩;obtain⟨p,hp,w,rfl⟩:=j5.mp hn;have hm:=d.AK p hp;unfold ky at he;simp only [bD,cP,or_false] at he;have e0:p.s=⟨p.a,0⟩:=by show (⟨p.a,p.b⟩:T2)=_; rw [w]
  have e1:T3.s ⟨p.a,1 - p.b,p.c⟩=⟨p.a,1⟩:=by show (⟨p.a,1 - p.b⟩:T2)=_; rw [w]; rfl
  rcases he with rfl | rfl | rfl | rfl
  ·exact⟨p,hp,.inr (by rw [e0]; rfl)⟩
  ·exact⟨_,hm,.inl (by rw [e1]; rfl)⟩
  ·exact⟨_,hm,.inr (by rw [e1]; rfl)⟩
  ·exact⟨p,hp,.inl (by rw [e0]; rfl)⟩
theorem yV(d:Dr rows):(names rows).Nodup:=by
 unfold names;refine Lq ?_;have h:=d.nd;have:∀ {L:List T3},(L.map T3.s).Nodup->((L.filter fun p=>p.b == 0).map (·.a)).Nodup:=by
  intro L;induction L with
  | nil=>intro _; exact cf
  | cons p L ih =>
   intro h;rw [ao,a9] at h;rw [bQ];split
   ·rename_i hp;rw [ao,a9];refine⟨fun z=>h.1 ?_,ih h.2⟩;obtain⟨q,hq,e⟩:=List.mem_map.mp z;have Th:=List.mem_filter.mp hq;refine List.mem_map.mpr ⟨q,Th.1,?_⟩;have b1:p.b=0:=by simpa using hp
    have b2:q.b=0:=by simpa using Th.2
    show (⟨q.a,q.b⟩:T2)=⟨p.a,p.b⟩;rw [e,b1,b2]
   ·exact ih h.2
 exact this h
theorem Kz(d:Dr rows):Dm (fr rows) (names rows) :=
 ⟨Od (Ct d),yV d,fun n hn e he=>(vL (Ct d)).mpr ((JP d e).mpr ⟨n,hn,he⟩)⟩
theorem Ib(d:Dr rows):2 * (names rows).length<=rows.flatten.length:=by
 have h:=sub_len' ((names rows).flatMap fun n=>[(⟨n,0⟩:T2),⟨n,1⟩]) (rows.flatten.map T3.s) ?_ ?_
 ·have:((names rows).flatMap fun n=>[(⟨n,0⟩:T2),⟨n,1⟩]).length=2 * (names rows).length:=by
   generalize names rows=l;induction l with
   | nil=>rfl
   | cons n l ih=>rw [cT,aE,ih]; simp only [aj,ax]; lia
  rw [this,ak] at h; exact h
 ·have:∀ {l:List Int},l.Nodup->(l.flatMap fun n=>[(⟨n,0⟩:T2),⟨n,1⟩]).Nodup:=by
   intro l;induction l with
   | nil=>intro _; exact cf
   | cons n l ih =>
    intro h;rw [a9] at h;rw [cT,cA];refine⟨by simp,ih h.2,fun a ha b hb e=>?_⟩;obtain⟨m,hm,hb⟩:=List.mem_flatMap.mp hb;have ea:a.a=n:=by simp only [bD,cP,or_false] at ha; rcases ha with rfl | rfl <;> rfl
    have eb:b.a=m:=by simp only [bD,cP,or_false] at hb; rcases hb with rfl | rfl <;> rfl
    rw [e,eb] at ea;exact h.1 (ea ▸ hm)
  exact this (yV d)
 ·intro s hs;obtain⟨n,hn,hs⟩:=List.mem_flatMap.mp hs;obtain⟨p,hp,w,rfl⟩:=j5.mp hn;simp only [bD,cP,or_false] at hs;rcases hs with rfl | rfl
  ·exact List.mem_map.mpr ⟨p,hp,by show (⟨p.a,p.b⟩:T2)=_; rw [w]⟩
  ·exact List.mem_map.mpr ⟨_,d.AK p hp,by show (⟨p.a,1 - p.b⟩:T2)=_; rw [w]; rfl⟩
theorem Xa(d:Dr rows){n:Int}(h:n∈names rows):∃ p∈rows.flatten,p.a=n:=by
 obtain⟨p,hp,_,e⟩:=j5.mp h;exact⟨p,hp,e⟩
theorem yr(d:Dr rows):∀ r∈rows,r.length<=24:=fun r hr=>by
 have h1:=d.BN;obtain⟨a,b,e⟩:=pZ hr;rw [e,kK,eW,aE,aE] at h1;lia
noncomputable def Bs(rows:Rows)(ns:List Int):List (Int×Int):=ns.map fun n=>(n,handOf rows n)
theorem Kd(rows:Rows)(ns:List Int):(Bs rows ns).map (·.1)=ns:=by
 unfold Bs;rw [aM];exact kJ ns
theorem zip_map(f:Int->Int):∀ l:List Int,l.zip (l.map f)=l.map fun n=>(n,f n)
 | []=>rfl
 | n :: l=>by rw [ao,pY,zip_map f l,ao]
theorem YU{k:Nat}(h:k<=5):8 * 8 ^ k<=1048576:=by
 have:8 ^ k<=8 ^ 5:=kc (by decide) h;lia
noncomputable def Bk:hV :=
 (b8 (bE (fx 1 [0] (jS (av 1)) (aG 0) none (bu gL (aw (av 1) (aw (av 0) aQ)))) (aG 2))
 (b8 (bE (wa tK (aw (fx 1 [] (jS (av 0)) (aG 0) (some (mw (fT (av 0)))) (av 0)) aQ)) (aG 3))
 (b8 (bE (cm (PU (bu kW (aw (av 0) aQ)) (cm (bu iw (aw (cm (Gi [(2,-1),(-2,-1)])) (aw (cm (av 3)) aQ)))))) (aG 4))
 (b8 (dN (Pc (av 1) (av 2)) (iH (cy (aG 5) (cy (aG 6) ip))) (bE (cm (bu mj (aw (av 4) (aw (av 5) (aw (av 6) aQ))))) (aG 4)))
 (bR (cm (av 4)))))))
noncomputable def rm:jU:=fun ds G Q _=>∃ (rows:Rows) (ns:List Int),ds=[enc rows,enc ns]/\(Dr rows/\ns.Perm (names rows)/\ns.length<=6) /\
 ∀ S':Su,Sw S' []->hX S'<=2097152->(∀ g,nv [] g S'=Br (fr rows) (Bs rows ns) (jf (lo rows) g))->Q (.oF (iM S')) G
theorem MJ(ds:List D)(G:Gp)(Q:DK)(h:rm ds G Q fun _ _=>False):Bk (fun _ _=>False) (ends Q) (ba 7 ds) G:=by
 obtain⟨rows,ns,rfl,⟨d,hp,hl⟩,q⟩:=h;have BN:=d.BN;have str:=d.str;have nn:ns.Nodup:=hp.nodup_iff.mpr (yV d);have lol:lo rows<=3:=bw (fJ _ _) str;unfold Bk;simp only [↓cJ,bE,fx,↓dM,av,ba,↓ao,↓aT,↓aj,↓ax,aO,↓aB,↓aP,↓ae,↓aa,aG,wa,aw,↓aq,↓ah,aQ,cm,ends];refine fh ⟨Au (by rw [ak]; lia),?_⟩;refine gH (xs:=ns) (fun pre acc τ G'=>G=G'/\(∃ a,τ=[a,some (enc rows)])/\acc=(pre.map (handOf rows)).map D.int) ⟨rfl,⟨_,rfl⟩,rfl⟩ (fun _ _ _ _ _=>trivial) ?_ ?_
 ·rintro pre n post acc τ G' N e ⟨rfl,⟨a,rfl⟩,rfl⟩ hN;have hn:n∈names rows:=hp.mem_iff.mp (by rw [e]; simp);simp only [aG,bu,aw,av,↓ah,pA,↓ae,↓aa,aQ];refine⟨rows,n,rfl,⟨by lia,Xa d hn⟩,?_⟩;refine hN _ _ _ ⟨rfl,⟨_,rfl⟩,?_⟩;rw [aK,aK]; rfl
 rintro acc τ G' ⟨rfl,⟨a,rfl⟩,rfl⟩ p1 f1;refine fh ⟨Au (by rw [ak]; lia),?_⟩;refine gH (xs:=rows) (fun pre acc τ G'=>eA G p1 (.lst ((ns.map (handOf rows)).map D.int))=G'/\(∃ a,τ=[a])/\acc=(pre.filter fun r=>r.isEmpty).map enc) ⟨rfl,⟨_,rfl⟩,rfl⟩ (fun _ _ _ _ _=>trivial) ?_ ?_
 ·rintro pre r post acc τ G' N e ⟨rfl,⟨a,rfl⟩,rfl⟩ hN;simp only [aG,mw,↓cD,av,↓ah,↓aa];show nG (.cY (r.map enc)) _ _;unfold nG En;simp only [];by_cases c:r.isEmpty=true
  ·have c2:(r.map (enc:T3->D)).isEmpty=true:=by cases r with
    | nil=>rfl
    | cons _ _=>cases c
   simp only [c2,bc,eG,if_true];refine hN _ _ _ ⟨rfl,⟨_,rfl⟩,?_⟩;simp only [fQ,bQ,c,if_true,vj,aK,ao,aT]
  ·have c2:(r.map (enc:T3->D)).isEmpty=false:=by cases r with
    | nil=>exact absurd rfl c
    | cons _ _=>rfl
   simp only [c2,bc,eG,if_false,ar];refine hN _ _ _ ⟨rfl,⟨_,rfl⟩,?_⟩;have c':r.isEmpty=false:=by simpa using c
   simp only [fQ,bQ,c',if_false,ar,vj,dq]
 rintro acc τ G' ⟨rfl,⟨a,rfl⟩,rfl⟩ p2 f2;have p12:p1≠p2:=by rintro rfl; rw [ay] at f2; cases f2
 simp only [Gu ay,ak];simp only [PU,bu,aw,av,↓aa,aQ,cm,↓ae];have elo:(rows.filter fun r=>r.isEmpty).length=lo rows:=rfl;rw [elo];refine⟨rows,rfl,by lia,?_⟩;rw [T4 d];have nd:=Ct d;obtain⟨n0,e0⟩:=J4 (KC nd) (Od nd);generalize hP0:LH (IM (Nv rows))=P0 at n0 e0;unfold Gi;intro p5 f5;refine ju (.new f5) f5 ay (cS ?_);refine⟨_,LP,lo rows,rfl,⟨rfl,TJ⟩,EI lol,by rw [Qq]; exact pE (by decide),fun p6 f6=>?_⟩;refine ju (.new f6) f6 ay ?_;refine⟨oh P0,rfl,fun p7 f7=>?_⟩;have g1:ff G (eA (eA G p1 (.lst ((ns.map (handOf rows)).map D.int))) p2 (.lst (((rows.filter fun r=>r.isEmpty)).map enc))):=(ff.new f1).trans (.new f2);refine IB (A:=[(oh P0,dP LP (lo rows))]) (.new f7) f7 ay ?_;generalize hG2:eA (eA G p1 (.lst ((ns.map (handOf rows)).map D.int))) p2 (.lst (((rows.filter fun r=>r.isEmpty)).map enc))=G2 at g1;have gh:G2 p1=some (.lst ((ns.map (handOf rows)).map D.int)):=by rw [<-hG2,cu p12,ay]
 refine cM (fun τ G'=>∃ (S:Su) (a b:Option D),G'=G2/\τ=[some (enc rows),some (enc ns),some (.ref p1),some (.int (lo rows)),some (.oF (iM S)),a,b]/\Sw S []/\hX S<=2097152/\∀ g,nv [] g S=Br (fr rows) (Bs rows ns) (jf (lo rows) g)) ?_ ?_
 ·intro N hN;simp only [dN,Pc,av,↓ae,↓aa];have hz:oY (ns.map enc) ((ns.map (handOf rows)).map D.int)=(Bs rows ns).map enc:=by
   have:oY (ns.map enc) ((ns.map (handOf rows)).map enc)=(ns.zip (ns.map (handOf rows))).map enc:=yj _ _;refine this.trans ?_;rw [zip_map]; rfl
  refine L9 (IsL.enc ns) (IsL.ref gh) fun ok cn=>?_;rw [hz];have hnl:(Bs rows ns).length=ns.length:=by unfold Bs; rw [ak]
  have start:∀ g,nv (Bs rows ns) g [(oh P0,dP LP (lo rows))]=Br (fr rows) (Bs rows ns) (jf (lo rows) g):=fun g=>by
   show L _ _+0=_;rw [tN,vA,IX,e0];have:=congrFun (Ik (fr rows) (Bs rows ns) g (lo rows) 0) 0;simp only [vA] at this;rw [Q8] at this;exact this
  have so0:Sw [(oh P0,dP LP (lo rows))] ((Bs rows ns).map (·.1)):=by
   refine⟨⟨by simp,fun p xm=>?_⟩,fun p xm=>?_⟩
   ·rw [bL] at xm; subst xm; exact⟨Y.vN _ _,Y.LF _ _⟩
   ·rw [bL] at xm; subst xm;refine⟨P0,rfl,n0,fun e=>?_⟩;rw [e0,vL nd,JP d,Kd];exact⟨fun ⟨n,h1,h2⟩=>⟨n,hp.mem_iff.mpr h1,h2⟩,fun ⟨n,h1,h2⟩=>⟨n,hp.mem_iff.mp h1,h2⟩⟩
  refine cW (xs:=Bs rows ns) (fun pre τ G'=>∃ (S:Su) (a b:Option D),G'=G2/\τ=[some (enc rows),some (enc ns),some (.ref p1),some (.int (lo rows)),some (.oF (iM S)),a,b]/\Sw S (((Bs rows ns).drop pre.length).map (·.1))/\(S.length<=8 * 8 ^ pre.length/\hX S<=8 * 8 ^ pre.length)/\∀ g,nv ((Bs rows ns).drop pre.length) g S=Br (fr rows) (Bs rows ns) (jf (lo rows) g))
   ⟨_,_,_,rfl,rfl,so0,⟨(by decide:1<=8 * 8 ^ 0),bw (Nat.le_of_eq (QP _)) (HM lol)⟩,start⟩ (fun pre τ G' h=>cn G' (by obtain⟨_,_,_,rfl,_⟩:=h; exact .refl _)) ?_ ?_
  ·rintro pre x post τ G' N2 e ⟨S,a,b,rfl,rfl,so,⟨sl,sn⟩,sv⟩ kG;have dr:(Bs rows ns).drop pre.length=x :: post:=by rw [e,JC]
   have dr2:(Bs rows ns).drop (pre++[x]).length=post:=by
    rw [e,show pre++x :: post=(pre++[x])++post by simp,JC]
   have GV:pre.length+1+post.length<=6:=by
    have:=congrArg dO e;rw [aE,aj,hnl] at this; lia
   have ZF:(x.1 :: post.map (·.1)).Nodup:=by
    have h1:=Kd rows ns;rw [e,aK,ao] at h1;have h2:=nn;rw [<-h1] at h2;exact(List.nodup_append.mp h2).2.1
   rw [dr] at so sv;have p8:=YU (k:=pre.length) (by lia);have e3:(enc x:D)=.tup [.int x.1,.int x.2]:=rfl;rw [e3];simp only [iH,cy,ip,aG,ah,aq];simp only [bE,cm,bu,aw,av,↓ae,↓aa,aQ,aG,↓aq,↓ah];refine⟨S,x.1,x.2,post,rfl,⟨so,ZF,by lia,by lia,by lia⟩,fun S' XW l1 l2 v=>?_⟩;refine cS (kG _ _ ?_);rw [dr2];have e8:8 * 8 ^ (pre++[x]).length=8 * (8 * 8 ^ pre.length):=by
    rw [aE,cb,QN]; lia
   rw [e8];exact⟨S',_,_,rfl,rfl,XW,⟨by lia,by lia⟩,fun g=>by rw [v]; exact sv g⟩
  ·rintro τ G' ⟨S,a,b,rfl,rfl,so,⟨sl,sn⟩,sv⟩;have dr:(Bs rows ns).drop (Bs rows ns).length=[]:=List.drop_length;rw [dr] at so sv;have:8 ^ (Bs rows ns).length<=8 ^ 6:=kc (by decide) (by lia);exact hN _ _ ⟨S,_,_,rfl,rfl,so,by lia,sv⟩
 ·rintro _ G' ⟨S,a,b,rfl,rfl,so,hn,hv⟩;simp only [bR,cm,av,↓ae,↓aa];exact xN g1 (q S so hn hv)
structure BP(T:Po)(f:Fn->Int):Prop where
 nd:ND T
 nz:NZ T
 fG:fG T<=2097152
 val:∀ g,L g T=f g
theorem BP.len{T:Po}{f:Fn->Int}(b:BP T f):T.length<=2097152:=bw (yR b.nz) b.fG
noncomputable def brk(rows:Rows)(g:Fn):Int:=Br (fr rows) (nh rows) (jf (lo rows) g)
theorem Ue{S:Su}(so:Sw S []):∀ p∈S,p.1=[]:=fun p hp=>by
 obtain⟨P,e,nd,h⟩:=so.pl p hp;have:P=[]:=Ut nd fun e=>gP fun z=>by
  obtain⟨n,hn,_⟩:=(h e).mp z;cases hn
 rw [e,this]; rfl
theorem Q6{S:Su}(so:Sw S [])(g:Fn):nv [] g S=L g ((cz S []).getD []):=by
 have h:=Ue so;have nd:=so.MZ.1;cases S with
 | nil=>rfl
 | cons p S =>
  have e1:=h p (by simp);have e2:S=[]:=by
   cases S with
   | nil=>rfl
   | cons q S =>
    have e3:=h q (by simp);rw [ao,ao,a9] at nd;exact absurd (by rw [e1,e3]; exact cp) nd.1
  subst e2;have e4:cz [p] ([]:PK)=some p.2:=by unfold cz; rw [cg (by simpa using e1)]; rfl
  rw [e4];show L _ p.2+0=L g p.2;rw [vA];congr 1;funext j;show sh j g 0=g j;unfold sh;rw [DX]
noncomputable def yC:hV :=
 (bR (cm (tS tyP Fj (bu rm (aw (av 0) (aw (bu fN (aw (av 0) aQ)) aQ))) (aw (cm (gi aQ)) (aw (cm pB) aQ)))))
noncomputable def iS:jU:=fun ds G Q _=>∃ rows:Rows,ds=[enc rows]/\(Dr rows/\rows.flatten.length<=12)/\∀ T:Po,BP T (brk rows)->Q (.j8 (bz T)) G
theorem Jn(ds:List D)(G:Gp)(Q:DK)(h:iS ds G Q fun _ _=>False):yC (fun _ _=>False) (ends Q) (ba 1 ds) G:=by
 obtain⟨rows,rfl,⟨d,hl⟩,q⟩:=h;have nl:=Ib d;unfold yC;simp only [bR,cm,tS,bu,aw,av,ba,↓ao,↓aT,↓aj,↓ax,↓aB,↓aP,↓aa,aQ,gi,pB,ends];refine⟨rows,rfl,(show rows.flatten.length < 64 by lia),?_⟩;refine⟨rows,names rows,rfl,⟨d,.refl _,by lia⟩,fun S so hn hv=>?_⟩;refine⟨trivial,by decide,cS ?_⟩;intro p hp;refine ju (.new hp) hp ay ?_;refine⟨[],rfl,?_⟩;have bp:BP ((cz S []).getD []) (brk rows):=⟨(so.MZ.get []).1,(so.MZ.get []).2,bw (Kc S []) hn,fun g=>by rw [<-Q6 so,hv]; rfl⟩;have e:(pO (iM S) []).getD (.j8 [])=.j8 (bz ((cz S []).getD [])):=by
  rw [BA];cases cz S [] <;> rfl
 rw [e];exact cS (q _ bp)
end JB
end K2
end
section
namespace K2
namespace JB
open K2.P K2.J
section
variable {α:Type}
noncomputable def AZ:List α->List (α×α)
 | a :: b :: l=>(a,b) :: AZ (b :: l)
 | _=>[]
noncomputable def VR:List α->List (α×α)
 | []=>[]
 | a :: l=>AZ (a :: l++[a])
theorem zU(a b:α)(l:List α):AZ (a :: b :: l)=(a,b) :: AZ (b :: l):=rfl
theorem DI:∀ (xs:List α) (m:α) (ys:List α),AZ (xs++m :: ys)=AZ (xs++[m])++AZ (m :: ys)
 | [],m,ys=>rfl
 | [a],m,ys=>rfl
 | a :: b :: xs,m,ys=>by
  rw [aB,aB,zU,aB,aB,zU,aB];congr 1;exact DI (b :: xs) m ys
theorem JK:∀ (l:List α) (c:α),l.zip (l.drop 1++[c])=AZ (l++[c])
 | [],_=>rfl
 | [a],c=>rfl
 | a :: b :: l,c=>by
  rw [aB,aB,zU];show (a,b) :: (b :: l).zip (l++[c])=_;congr 1;exact JK (b :: l) c
theorem Sd(A B:List α):(VR (A++B)).Perm (VR (B++A)):=by
 cases A with
 | nil=>rw [aP,dq]
 | cons a A =>
  cases B with
  | nil=>rw [aP,dq]
  | cons b B =>
   show (AZ (a :: A++b :: B++[a])).Perm (AZ (b :: B++a :: A++[b]));have e1:AZ (a :: A++b :: B++[a])=AZ (a :: A++[b])++AZ (b :: B++[a]):=by
    rw [cU]; exact DI (a :: A) b (B++[a])
   have e2:AZ (b :: B++a :: A++[b])=AZ (b :: B++[a])++AZ (a :: A++[b]):=by
    rw [cU]; exact DI (b :: B) a (A++[b])
   rw [e1,e2];exact vg
end
theorem QV(r:List T3):r.zip (i5 r)=VR r:=by
 cases r with
 | nil=>rfl
 | cons a l=>exact JK (a :: l) a
theorem oJ(rows:Rows):pairsOf rows=rows.flatMap VR:=by
 unfold pairsOf;congr 1;funext r;exact QV r
theorem qP{α β:Type}(f:α->List β):∀ {rows:List α} {i:Nat} {r r':α},rows[i]?=some r->((rows.set i r').flatMap f).Perm (f r'++(rows.eraseIdx i).flatMap f)
 | [],_,_,_,h=>by simp at h
 | a :: rows,0,r,r',h=>by rw [ah,cT,MR]
 | a :: rows,i+1,r,r',h=>by
  rw [aq,cT,MS,cT];refine((qP f (rows:=rows) (i:=i) (r:=r) (by simpa using h)).append_left _).trans ?_;rw [<-cU,<-cU];exact List.perm_append_comm.append_right _
theorem IL{α β:Type}(f:α->List β){rows:List α}{i:Nat}{r:α}(h:rows[i]?=some r):(rows.flatMap f).Perm (f r++(rows.eraseIdx i).flatMap f):=by
 have:=qP f (r':=r) h;have e:rows.set i r=rows:=by
  obtain⟨hi,e⟩:=List.getElem?_eq_some_iff.mp h;rw [<-e]; exact Qy hi
 rw [e] at this; exact this
theorem PB{rows:Rows}{i:Nat}{r r':List T3}(h:rows[i]?=some r):(rows.set i r').flatten.Perm (r'++(rows.eraseIdx i).flatten):=by
 have:=qP (fun r:List T3=>r) (r':=r') h;simpa [List.flatMap_id'] using this
theorem R4{rows:Rows}{i:Nat}{r:List T3}(h:rows[i]?=some r):rows.flatten.Perm (r++(rows.eraseIdx i).flatten):=by
 have:=IL (fun r:List T3=>r) h;simpa [List.flatMap_id'] using this
end JB
end K2
end
section
namespace K2
open PySem (Str)
open Enc (enc)
namespace T
noncomputable abbrev Tb:=List (List Int)
noncomputable def bump(t:Tb)(i j:Nat)(h:Int):Tb:=if i=j then t else t.modify i fun r=>r.modify j (· + h)
theorem Qc(t:Tb)(i j:Nat)(h:Int):(bump t i j h).length=t.length:=by unfold bump; split <;> simp
noncomputable def Sq(n:Nat)(t:Tb):Prop:=t.length=n/\∀ r∈t,r.length=n
theorem mx{n:Nat}{t:Tb}(hs:Sq n t)(i j:Nat)(h:Int):Sq n (bump t i j h):=by
 refine⟨by rw [Qc]; exact hs.1,?_⟩;unfold bump;split
 ·exact hs.2
 ·intro r hr;obtain⟨m,hm⟩:=fe hr;rw [oe] at hm;cases e:t[m]? with
  | none=>rw [e] at hm; simp at hm
  | some r0 =>
   rw [e] at hm;have hl:=hs.2 r0 (bx e);by_cases z:i=m
   ·simp [z] at hm; rw [<-hm]; simpa using hl
   ·simp [z] at hm; rw [<-hm]; exact hl
noncomputable def zeros(n:Nat):Tb:=aO n (aO n 0)
theorem jx(n:Nat):Sq n (zeros n):=⟨by simp [zeros],fun r hr=>by rw [zeros] at hr; rw [(List.mem_replicate.mp hr).2]; simp⟩
theorem yW{α:Type}(t:List α)(i:Nat)(f:α->α)(x:α)(h:t[i]?=some x):t.modify i f=t.set i (f x):=by
 refine List.ext_getElem? fun m=>?_;rw [oe];by_cases z:i=m
 ·subst z;rw [cO (List.getElem?_eq_some_iff.mp h).1,h]; simp
 ·rw [dw z]; simp [z]
theorem Sl{n:Nat}{t:Tb}(hs:Sq n t){i j:Nat}(hi:i < n)(hj:j < n)(h:Int)(BH:i≠j):∃ r x,t[i]?=some r/\r[j]?=some x/\bump t i j h=t.set i (r.set j (x+h)):=by
 obtain⟨r,hr⟩:∃ r,t[i]?=some r:=⟨t[i]'(by rw [hs.1]; exact hi),ai _⟩;have hl:=hs.2 r (bx hr);obtain⟨x,hx⟩:∃ x,r[j]?=some x:=⟨r[j]'(by rw [hl]; exact hj),ai _⟩;refine⟨r,x,hr,hx,?_⟩;unfold bump;rw [if_neg BH,yW t i _ r hr,yW r j _ x hx]
structure HL(G G':Gp)(p0:Nat)(as:List Nat)(rs:List (List D)):Prop where
 le:ff G G'
 fp:G p0=none
 gp:G' p0=some (.lst (as.map D.ref))
 np:p0∉as
 nd:as.Nodup
 fr:∀ a∈as,G a=none
 len:as.length=rs.length
 at':∀ (i a:Nat) (r:List D),as[i]?=some a->rs[i]?=some r->G' a=some (.lst r)
theorem HL.ext{G G' G'':Gp}{p0:Nat}{as:List Nat}{rs:List (List D)}(h:HL G G' p0 as rs)(l:ff G' G''):HL G G'' p0 as rs :=
 ⟨h.le.trans l,h.fp,l _ _ h.gp,h.np,h.nd,h.fr,h.len,fun i a r h1 h2=>l _ _ (h.at' i a r h1 h2)⟩
theorem HL.row{G G':Gp}{p0:Nat}{as:List Nat}{rs:List (List D)}(h:HL G G' p0 as rs){i:Nat}{r:List D}(hr:rs[i]?=some r):∃ a,as[i]?=some a/\G' a=some (.lst r)/\pU (as.map D.ref) (i:Int)=some (.ref a):=by
 have hi:i < as.length:=by rw [h.len]; exact(List.getElem?_eq_some_iff.mp hr).1
 refine⟨as[i],ai hi,h.at' i _ r (ai hi) hr,?_⟩;rw [nS _ (by lia) (by rw [ak]; lia)];simp
theorem E5{as:List Nat}(hn:as.Nodup){i j a:Nat}(h1:as[i]?=some a)(h2:as[j]?=some a):i=j:=by
 have g1:=List.getElem?_eq_some_iff.mp h1;have g2:=List.getElem?_eq_some_iff.mp h2;have pw:=List.pairwise_iff_getElem.mp hn;rcases Nat.lt_trichotomy i j with lt | eq | gt
 ·exact absurd (g1.2.trans g2.2.symm) (pw i j g1.1 g2.1 lt)
 ·exact eq
 ·exact absurd (g2.2.trans g1.2.symm) (pw j i g2.1 g1.1 gt)
theorem HL.put{G G':Gp}{p0:Nat}{as:List Nat}{rs:List (List D)}(h:HL G G' p0 as rs){j a:Nat}{r':List D}(ha:as[j]?=some a):HL G (eA G' a (.lst r')) p0 as (rs.set j r'):=by
 have hm:a∈as:=bx ha;have hj:j < as.length:=(List.getElem?_eq_some_iff.mp ha).1;refine⟨h.le.put (h.fr a hm),h.fp,?_,h.np,h.nd,h.fr,by rw [eE]; exact h.len,fun i b r hb hr=>?_⟩
 ·rw [cu (by rintro rfl; exact h.np hm)]; exact h.gp
 ·by_cases e:i=j
  ·subst e;rw [ha] at hb; cases hb;rw [cO (by have:=h.len; lia)] at hr;cases hr;exact ay
  ·have:b≠a:=by rintro rfl; exact e (E5 h.nd hb ha)
   rw [cu this];rw [dw (fun z=>e z.symm)] at hr;exact h.at' i b r hb hr
theorem OB{as:List Nat}(h:∀ i k a:Nat,i < k->as[i]?=some a->as[k]?=some a->False):as.Nodup:=by
 refine List.pairwise_iff_getElem.mpr fun i k hi hk hik z=>?_;exact h i k as[i] hik (ai hi) (by rw [ai hk,z])
theorem HL.NV{G G':Gp}{p0:Nat}{as:List Nat}{rs:List (List D)}(h:HL G G' p0 as rs){j a:Nat}{r':List D}(hj:j < as.length)(ga:G' a=some (.lst r'))(na:a∉as)(fa:G a=none)(np:a≠p0):HL G (eA G' p0 (.lst ((as.set j a).map D.ref))) p0 (as.set j a) (rs.set j r'):=by
 have Tr:∀ b,b∈as.set j a->b=a\/b∈as:=fun b hb=>by
  rcases JA hb with z | z
  ·exact .inr z
  ·exact .inl z
 refine⟨h.le.put h.fp,h.fp,ay,fun z=>?_,?_,fun b hb=>?_,by rw [eE,eE]; exact h.len,fun i b r hb hr=>?_⟩
 ·rcases Tr _ z with z | z
  ·exact np z.symm
  ·exact h.np z
 ·refine OB fun i k b hik h1 h2=>?_;by_cases e1:j=i
  ·subst e1;rw [cO hj] at h1;rw [dw (by lia)] at h2;cases h1;exact na (bx h2)
  ·rw [dw e1] at h1;by_cases e2:j=k
   ·subst e2;rw [cO hj] at h2;cases h2;exact na (bx h1)
   ·rw [dw e2] at h2;have:=E5 h.nd h1 h2;lia
 ·rcases Tr b hb with z | z
  ·rw [z]; exact fa
  ·exact h.fr b z
 ·have Z9:b≠p0:=by
   rintro rfl;rcases Tr b (bx hb) with z | z
   ·exact np z.symm
   ·exact h.np z
  rw [cu Z9];by_cases e:j=i
  ·subst e;rw [cO hj] at hb;rw [cO (by rw [<-h.len]; exact hj)] at hr;cases hb; cases hr;exact ga
  ·rw [dw e] at hb hr;exact h.at' i b r hb hr
theorem HL.fz{G G':Gp}{p0:Nat}{as:List Nat}{rs:List (List D)}(h:HL G G' p0 as rs){Q:DK}(q:Q (.cY (rs.map D.cY)) G):Jr G' (.ref p0) Q:=by
 refine C3 h.le h.fp h.gp (ss:=rs.map D.cY) ?_ q;have:∀ (as:List Nat) (rs:List (List D)),as.length=rs.length->(∀ a∈as,G a=none)->(∀ (i a:Nat) (r:List D),as[i]?=some a->rs[i]?=some r->G' a=some (.lst r))->Ab G' (fun a=>(G a).isNone) (as.map D.ref) (rs.map D.cY):=by
  intro as;induction as with
  | nil=>intro rs hl _ _; cases rs with
   | nil=>exact .nil
   | cons _ _=>cases hl
  | cons a as ih =>
   intro rs hl hf tm;cases rs with
   | nil=>cases hl
   | cons r rs =>
    refine .cons (.ref (tm 0 a r rfl rfl) (by simp [hf a (by simp)]) (Ab.same _)) ?_;exact ih rs (by simpa using hl) (fun b hb=>hf b (aL _ hb)) fun i b s h1 h2=>tm (i+1) b s h1 h2
 exact this as rs h.len h.fr h.at'
end T
namespace P
variable {rows:Rows}
noncomputable def Wc(rows:Rows):List T3:=Ui (SK rows)
end P
namespace P
variable {rows:Rows}
noncomputable def jo(rows:Rows)(s:T2):Nat:=(((rows.zipIdx 0).find? fun p=>decide (s∈d8 p.1 (p.2:Int))).map (·.2)).getD 0
noncomputable def gw:jU:=fun ds G Q _=>∃ (rows:Rows) (s:T2),ds=[enc rows,enc s]/\((∀ r∈rows,r.length<=1000)/\∃ p∈rows.zipIdx 0,s∈d8 p.1 (p.2:Int))/\Q (.int (jo rows s)) G
noncomputable def ue:hV :=
 (b8 (dN (FE (av 0)) (iH (cy (aG 2) (cy (aG 3) ip))) (fc (fT (br (Oa false) (av 1) (bu lj (aw (av 3) (aw (av 2) aQ))))) (bR (cm (av 2))) cN))
 IZ)
theorem vc(ds:List D)(G:Gp)(Q:DK)(h:gw ds G Q fun _ _=>False):ue (fun _ _=>False) (ends Q) (ba 4 ds) G:=by
 obtain⟨rows,s,rfl,⟨hr,hs⟩,q⟩:=h;unfold ue;refine cM (fun τ G'=>False) ?_ (fun _ _ h=>h.elim);intro N hN;simp only [dN,FE,av,ba,ao,aT,aj,ax,aO,aB,aP,aa,ends];refine wZ ?_;rw [PL];refine cW (xs:=rows.zipIdx 0) (fun pre τ G'=>G=G'/\(∃ a b,τ=[some (enc rows),some (enc s),a,b])/\∀ p∈pre,s∉d8 p.1 (p.2:Int)) ⟨rfl,⟨_,_,rfl⟩,fun _ h=>by cases h⟩ (fun _ _ _ _=>trivial) ?_ ?_
 ·rintro pre x post τ G' N2 e ⟨rfl,⟨a,b,rfl⟩,hp⟩ kG;obtain⟨lf,rt,e1,e2,e3⟩:=tX e;simp only [iH,cy,aG,ip,fc,aq,ah,bR,cm,av,ae,aa,cN,cD,br,bu,aw,aQ];refine⟨x.1,(x.2:Int),rfl,hr x.1 (by rw [e1]; simp),?_⟩;refine Ri (by decide) ?_;simp only [ar,if_false,bF];by_cases hx:s∈d8 x.1 (x.2:Int)
  ·simp only [hx,decide_true,ar,if_false,if_true];have:jo rows s=x.2:=by
    unfold jo;have:(rows.zipIdx 0).find? (fun p=>decide (s∈d8 p.1 (p.2:Int)))=some x:=by
     rw [e,Ba];have:pre.find? (fun p=>decide (s∈d8 p.1 (p.2:Int)))=none:=by
      rw [fP]; intro p h; simpa using hp p h
     rw [this];simp [hx]
    rw [this]; rfl
   rw [<-this];exact cS q
  ·simp only [hx,decide_false,ar,if_false];refine kG _ _ ⟨rfl,⟨_,_,rfl⟩,fun p h=>?_⟩;rcases List.mem_append.mp h with h | h
   ·exact hp p h
   ·rw [List.mem_singleton.mp h]; exact hx
 ·rintro τ G' ⟨rfl,_,hp⟩;obtain⟨p,h1,h2⟩:=hs;exact absurd h2 (hp p h1)
theorem HK(n:Nat):gM 0 n=((ez n).map fun (i:Nat)=>(i:Int)).map enc:=by
 unfold gM;rw [aM];refine cL fun i _=>?_;show D.int (0+(i:Int))=D.int (i:Int);rw [DX]
end P
namespace Y
noncomputable def qE:hV :=
 (b8 (fc (fT (br Wh (av 1) (wa tK (aw (av 0) aQ)))) (bR (cm (br kE (av 0) (av 1)))) cN)
 (bR (cm (dC (.int 0)))))
noncomputable def iY(ns:List Int)(k:Int):Int:=ns.getD k.toNat 0
noncomputable def b7:jU:=fun ds G Q _=>∃ (ns:List Int) (k:Int),ds=[.cY (ns.map D.int),.int k]/\0<=k/\Q (.int (iY ns k)) G
theorem zY(ds:List D)(G:Gp)(Q:DK)(h:b7 ds G Q fun _ _=>False):qE (fun _ _=>False) (ends Q) (ba 2 ds) G:=by
 obtain⟨ns,k,rfl,h0,q⟩:=h;unfold qE;simp only [b8,fc,ba,ao,aT,aj,ax,aB,aP,bR,cm,br,av,aa,ae,ends,mR,cN,dC,cD,wa,aw,aQ,zS,CC,bF];split
 ·rename_i h;have h1:k < (ns.map D.int).length:=by simpa using h
  rw [nS _ h0 h1];simp only [kF];rw [ak] at h1;have e:iY ns k=ns[k.toNat]:=by unfold iY; rw [d6,ai (by lia)]; rfl
  rw [<-e]; exact cS q
 ·rename_i h;have h1:¬ k < (ns.map D.int).length:=by simpa using h
  rw [ak] at h1;have e:iY ns k=0:=by unfold iY; rw [d6,vh (by lia)]; rfl
  rw [<-e]; exact cS q
noncomputable def uh:hV :=
 (bR (cm (KQ (Mr "int" (av 0)) (PT (Mr "bool" (av 0))))))
noncomputable def cI:jU:=fun ds G Q _=>∃ i:Int,ds=[.int i]/\Q (.bl true) G
theorem DP(ds:List D)(G:Gp)(Q:DK)(h:cI ds G Q fun _ _=>False):uh (fun _ _=>False) (ends Q) (ba 1 ds) G:=by
 obtain⟨i,rfl,q⟩:=h;unfold uh;simp only [bR,cm,ba,ao,aT,aj,ax,aB,aP,ends,Gj,Gg,xO,av,aa,Fy,bF];simpa using cS q
noncomputable def wM:hV :=
 (bR (cm (br sR (br sR (br LA (av 0) (dC (.int 48271))) (av 1)) (av 2))))
noncomputable def pick(c p m:Int):Int:=c * 48271 % p % m
noncomputable def eB:jU:=fun ds G Q _=>∃ c p m:Int,ds=[.int c,.int p,.int m]/\(0 < p/\0 < m)/\Q (.int (pick c p m)) G
theorem GD(ds:List D)(G:Gp)(Q:DK)(h:eB ds G Q fun _ _=>False):wM (fun _ _=>False) (ends Q) (ba 3 ds) G:=by
 obtain⟨c,p,m,rfl,⟨hp,hm⟩,q⟩:=h;unfold wM;simp only [bR,cm,br,av,ba,ao,aT,aj,ax,aB,aP,aa,dC,ae,ends,uj,kl];exact⟨.inr ⟨by decide,by decide⟩,hp,hm,cS q⟩
theorem kY(c p:Int){m:Int}(h:0 < m):0<=pick c p m:=oW _ (by lia)
theorem kZ(c p:Int){m:Int}(h:0 < m):pick c p m < m:=lO _ h
noncomputable def wL:hV :=
 (b8 (fc (mw (fT (Mr "dict" (av 0)))) (bR (cm (dC (.bl false)))) cN)
 (b8 (dN (uO (av 0)) (aG 1) (fc (B0 (mw (fT (bu cI (aw (av 1) aQ)))) (B0 (mw (fT (bu cI (aw (br kE (av 0) (av 1)) aQ)))) (fT (br (GR false) (br kE (av 0) (av 1)) (dC (.int 0)))))) (bR (cm (dC (.bl false)))) cN))
 (bR (cm (dC (.bl true))))))
noncomputable def j0:jU:=fun ds G Q _=>∃ (d:D) (l:Po),ds=[d]/\Pl G d l/\NZ l/\Q (.bl true) G
theorem GC(ds:List D)(G:Gp)(Q:DK)(h:j0 ds G Q fun _ _=>False):wL (fun _ _=>False) (ends Q) (ba 2 ds) G:=by
 obtain⟨d,l,rfl,hd,hz,q⟩:=h;unfold wL;refine cM (fun τ G'=>τ=[some d,none]/\G=G') ?_ ?_
 ·intro N hN;simp only [fc,mw,ba,ao,aT,aj,ax,aO,aB,aP,bR,cm,dC,ends,cN,cD,xO,av,aa];refine O8 (G:=G) hd.is.p ?_;simp only [beq_self_eq_true,bF,bc,ar,if_false];exact hN _ _ ⟨rfl,rfl⟩
 rintro _ _ ⟨rfl,rfl⟩;refine cM (fun τ G'=>(∃ a,τ=[some d,a])/\G=G') ?_ ?_
 ·intro N hN;simp only [dN,uO,av,aa,ends];refine zk hd.is (.refl _) fun ok cn=>?_;refine cW (xs:=l) (fun pre τ G'=>(∃ a,τ=[some d,a])/\G=G') ⟨⟨_,rfl⟩,rfl⟩ (fun pre τ G' h=>cn G' (by rw [<-h.2]; exact .refl _)) ?_ ?_
  ·rintro pre x post τ G' N2 e ⟨⟨a,rfl⟩,rfl⟩ kG;have hm:x∈l:=by rw [e]; simp
   have hx:=va hd.nd hm;simp only [aG,fc,B0,mw,aq,ah,bR,cm,dC,cN,if_true,cD,br,av,aa,ae,bu,aw,aQ];refine⟨_,rfl,?_⟩;simp only [bF,bc,ar,if_false];refine N9 hd.is.p hx ⟨x.2,rfl,?_⟩;simp only [bF,bc,ar,if_false];refine N9 hd.is.p hx ⟨_,_,.int _,.int _,?_⟩;simp only [ar,rQ,hz x hm,decide_false,eG,if_false,bF];exact kG _ _ ⟨⟨_,rfl⟩,rfl⟩
  ·rintro τ G' ⟨⟨a,rfl⟩,rfl⟩;exact hN _ _ ⟨⟨_,rfl⟩,rfl⟩
 ·rintro _ _ ⟨⟨a,rfl⟩,rfl⟩;simp only [bR,cm,dC,ends];exact cS q
end Y
namespace Aa
open K2.T
open K2.P (names handOf jo d8 fN gL gw)
open K2.Y (iY pick kY kZ b7 cI eB iB gG)
theorem rQ(i j:Int):ij (.int i) (.int j)=decide (i=j):=Enc.eqv i j
theorem fu{α:Type} [DecidableEq α] [Enc α](rs:List (List α)):(enc rs:D)=.cY ((rs.map fun r=>r.map enc).map D.cY):=by
 show D.cY _=_;rw [aM]; rfl
noncomputable def nJ:hV :=
 (bR (cm (fx 1 [] (jS (av 0)) (aG 0) none (wa w9 (aw (av 0) aQ)))))
noncomputable def dS:jU:=fun ds G Q _=>∃ rs:List (List D),ds=[.cY (rs.map D.cY)]/\rs.length<=1000/\∀ G' p0 as,HL G G' p0 as rs->Q (.ref p0) G'
theorem q0(ds:List D)(G:Gp)(Q:DK)(h:dS ds G Q fun _ _=>False):nJ (fun _ _=>False) (ends Q) (ba 1 ds) G:=by
 obtain⟨rs,rfl,hl,q⟩:=h;unfold nJ;simp only [bR,cm,fx,ba,ao,aT,aj,ax,aB,aP,ends,dM,av,aa,Kn];refine⟨Au (by rw [ak]; exact hl),?_⟩;refine gH (xs:=rs) (fun pre acc τ G'=>(∃ a,τ=[a])/\∃ as:List Nat,acc=as.map D.ref/\ff G G'/\as.Nodup/\(∀ a∈as,G a=none)/\as.length=pre.length/\(∀ (i a:Nat) (r:List D),as[i]?=some a->pre[i]?=some r->G' a=some (.lst r))) ?_ (fun _ _ _ _ _=>trivial) ?_ ?_
 ·exact⟨⟨_,rfl⟩,[],rfl,.refl G,cf,fun _ h=>by(cases h),rfl,fun i a r h=>by simp at h⟩
 ·rintro pre r post acc τ G' N e ⟨⟨a,rfl⟩,as,rfl,le,nd,fr,ln,tm⟩ hN;simp only [aG,wa,aw,av,ah,aa,aQ];refine P7 (IsL.cY) fun p hp=>?_;have ZT:p∉as:=fun z=>by
   obtain⟨i,hi⟩:=fe z;have h1:i < pre.length:=by rw [<-ln]; exact(List.getElem?_eq_some_iff.mp hi).1
   have:=tm i p pre[i] hi (ai h1);rw [hp] at this; cases this
  refine hN _ _ _ ⟨⟨_,rfl⟩,as++[p],by simp,le.trans (.new hp),?_,fun b hb=>?_,by rw [aE,aE,ln]; rfl,fun i b r2 h1 h2=>?_⟩
  ·rw [cA];exact⟨nd,by simp,fun x hx y hy=>by rw [bL] at hy; subst hy; intro z; exact ZT (z ▸ hx)⟩
  ·rcases List.mem_append.mp hb with z | z
   ·exact fr b z
   ·rw [bL] at z; rw [z]; exact le.free hp
  ·by_cases hi:i < as.length
   ·rw [bS hi] at h1;rw [bS (by rw [<-ln]; exact hi)] at h2;have:=tm i b r2 h1 h2;exact(ff.new hp) _ _ this
   ·rw [bG (by lia)] at h1;rw [bG (by lia)] at h2;have:i - as.length=0:=by
     have:=(List.getElem?_eq_some_iff.mp h1).1;simp at this; lia
    rw [this] at h1;rw [show i - pre.length=0 by lia] at h2;simp at h1 h2;subst h1 h2;exact ay
 ·rintro acc τ G' ⟨⟨a,rfl⟩,as,rfl,le,nd,fr,ln,tm⟩ p hp;have ZT:p∉as:=fun z=>by
   obtain⟨i,hi⟩:=fe z;have h1:i < rs.length:=by rw [<-ln]; exact(List.getElem?_eq_some_iff.mp hi).1
   have:=tm i p rs[i] hi (ai h1);rw [hp] at this; cases this
  refine cS (q _ p as ⟨le.trans (.new hp),le.free hp,ay,ZT,nd,fr,ln,fun i b r h1 h2=>?_⟩);exact(ff.new hp) _ _ (tm i b r h1 h2)
noncomputable def nI:hV :=
 (b8 (IY (fT (br (Oa false) (av 1) (av 0))) (bE (br jP (br sR (av 1) (dC (.int 999))) (dC (.int 1))) (aG 1)))
 (bR (cm (av 1))))
noncomputable def Yj(n:Int):Int:=n % 999+1
noncomputable def fit(n:Int):Nat->Int
 | 0=>n
 | k+1=>Yj (fit n k)
theorem zC{n:Int}(h1:1<=n)(h2:n<=999):∀ k:Nat,fit n k=(n - 1+k) % 999+1
 | 0=>by show n=_; lia
 | k+1=>by
  show Yj (fit n k)=_;rw [zC h1 h2 k];unfold Yj;lia
theorem PD{n:Int}{ns:List Int}(h1:1<=n)(h2:n<=999)(hl:ns.length<=500):∃ k,k<=ns.length/\fit n k∉ns:=by
 apply gP;intro U0;have AN:∀ k,k<=ns.length->fit n k∈ns:=fun k hk=>gP fun z=>U0 ⟨k,hk,z⟩;have nd:((ez (ns.length+1)).map fun k=>fit n k).Nodup:=by
  refine List.pairwise_iff_getElem.mpr fun i j hi hj BH=>?_;simp only [ak,mz] at hi hj;rw [kF,kF,lI,lI,zC h1 h2,zC h1 h2];lia
 have:=iB _ ns nd fun x hx=>by
  obtain⟨k,hk,rfl⟩:=List.mem_map.mp hx;exact AN k (by have:=List.mem_range.mp hk; lia)
 simp at this;lia
noncomputable def iR:jU:=fun ds G Q _=>∃ (d:D) (ns:List Int) (n:Int),ds=[d,.int n]/\IsL G d (ns.map D.int)/\(ns.length<=500/\1<=n/\n<=999)/\∀ m:Int,m∉ns->1<=m->m<=999->Q (.int m) G
theorem EK{G:Gp}{d:D}{ns:List Int}{i:Int}{Q:DK}(h:IsL G d (ns.map D.int))(k:Q (.bl (decide (i∈ns))) G):Oa false (.int i) d G Q:=by
 have e:(ns.map D.int).any (fun x=>ij x (.int i))=decide (i∈ns):=K1 ns i;rcases h with rfl | ⟨a,rfl,g⟩
 ·refine⟨.int i,ns.map D.int,.int _,Sn.rI ns,?_⟩;simp only [ar,if_false];rw [e]; exact k
 ·unfold Oa;simp only [g];refine⟨.int i,ns.map D.int,.int _,Sn.rI ns,?_⟩;simp only [ar,if_false];rw [e]; exact k
theorem qY(ds:List D)(G:Gp)(Q:DK)(h:iR ds G Q fun _ _=>False):nI (fun _ _=>False) (ends Q) (ba 2 ds) G:=by
 obtain⟨d,ns,n,rfl,hd,⟨hl,h1,h2⟩,q⟩:=h;unfold nI;refine cM (fun τ G'=>G=G'/\∃ m:Int,(m∉ns/\1<=m/\m<=999)/\τ=[some d,some (.int m)]) ?_ ?_
 ·intro N hN;obtain⟨k,hk,pP⟩:=PD h1 h2 hl;have main:∀ (j:Nat),j<=k->Ej (fT (br (Oa false) (av 1) (av 0))) (bE (br jP (br sR (av 1) (dC (.int 999))) (dC (.int 1))) (aG 1)) (j+1) (fun _ _=>False) { ends Q with nx:=N } [some d,some (.int (fit n (k - j)))] G:=by
   intro j;induction j with
   | zero =>
    intro _;show Ej _ _ (0+1) _ _ _ _;rw [Ej];simp only [bE,br,av,ae,aa,dC,aG,ends,aq,ah,kl,fF,cD];refine EK hd ?_;simp only [Nat.sub_zero,pP,decide_false,bF,ar,if_false];have:=zC h1 h2 k;exact hN _ _ ⟨rfl,_,⟨pP,by lia,by lia⟩,rfl⟩
   | succ j ih =>
    intro hj;rw [Ej];simp only [bE,br,av,ae,aa,dC,aG,ends,aq,ah,kl,fF,cD];refine EK hd ?_;have hb:=zC h1 h2 (k - (j+1));by_cases hm:fit n (k - (j+1))∈ns
    ·simp only [hm,decide_true,bF,if_true];refine⟨by decide,?_⟩;have e:fit n (k - (j+1)) % 999+1=fit n (k - j):=by
      rw [show k - j=(k - (j+1))+1 by lia]; rfl
     rw [e];exact ih (by lia)
    ·simp only [hm,decide_false,bF,ar,if_false];exact hN _ _ ⟨rfl,_,⟨hm,by lia,by lia⟩,rfl⟩
  have:=main k (aC _);rw [Nat.sub_self] at this;exact⟨k+1,this⟩
 ·rintro _ _ ⟨rfl,m,⟨m1,m2,m3⟩,rfl⟩;simp only [bR,cm,av,ae,aa,ends];exact cS (q m m1 m2 m3)
noncomputable abbrev dT(t:Tb):List (List D):=t.map fun r=>r.map D.int
theorem Vj(t:Tb)(i:Nat)(r:List Int):(dT t).set i (r.map D.int)=dT (t.set i r):=by unfold dT; rw [Cj]
theorem Xp{t:Tb}{i:Nat}{r:List Int}(h:t[i]?=some r):(dT t)[i]?=some (r.map D.int):=by unfold dT; rw [bq,h]; rfl
theorem Vs{xs:List Int}{j:Nat}{x:Int}(h:xs[j]?=some x):pU (xs.map D.int) (j:Int)=some (.int x):=by
 obtain⟨hj,e⟩:=List.getElem?_eq_some_iff.mp h;rw [nS _ (by lia) (by rw [ak]; lia)];simp [e]
theorem UW{n j:Nat}(h:j < n):GU n (j:Int)=some j:=by
 unfold GU;rw [if_pos (by lia),if_pos (by lia)]; simp
theorem Mz{G G':Gp}{p0:Nat}{as:List Nat}{n:Nat}{t:Tb}(h:HL G G' p0 as (dT t))(hs:Sq n t){i j:Nat}(hi:i < n)(hj:j < n)(BH:i≠j)(x:Int) :
  ∃ (a:Nat) (r:List Int) (y:Int),as[i]?=some a/\pU (as.map D.ref) (i:Int)=some (.ref a)/\G' a=some (.lst (r.map D.int))/\r.length=n/\pU (r.map D.int) (j:Int)=some (.int y)/\HL G (eA G' a (.lst ((r.map D.int).set j (.int (y+x))))) p0 as (dT (bump t i j x)):=by
 obtain⟨r,y,e1,e2,e3⟩:=Sl hs hi hj x BH;obtain⟨a,ea,ga,ia⟩:=h.row (Xp e1);refine⟨a,r,y,ea,ia,ga,hs.2 r (bx e1),Vs e2,?_⟩;have:=h.put (r':=(r.set j (y+x)).map D.int) ea;rw [Vj,<-e3] at this;rw [Cj] at this;exact this
theorem zG(t:Tb):(enc t:D)=.cY ((dT t).map D.cY):=fu t
noncomputable def zb(rows:Rows)(t:Tb)(n:Int):Tb:=bump t (jo rows ⟨n,0⟩) (jo rows ⟨n,1⟩) (handOf rows n)
noncomputable def wV(rows:Rows):Tb:=(names rows).foldl (zb rows) (zeros rows.length)
theorem pj{n:Nat}(rows:Rows):∀ (ns:List Int) (t:Tb),Sq n t->Sq n (ns.foldl (zb rows) t)
 | [],_,h=>h
 | m :: ns,t,h=>pj rows ns _ (mx h _ _ _)
structure Lk(rows:Rows):Prop where
 dr:Dr rows
 sp:∀ n∈names rows,∀ w:Int,w=0\/w=1->(∃ p∈rows.zipIdx 0,(⟨n,w⟩:T2)∈d8 p.1 (p.2:Int))/\jo rows ⟨n,w⟩ < rows.length
 hd:∀ n∈names rows,∃ p∈rows.flatten,p.a=n
noncomputable def yy:hV :=
 (b8 (bE (jb aQ) (aG 1))
 (b8 (dN (jS (av 0)) (aG 2) (kA (tS Cq k6 (av 1) (aw (fx 1 [] (jS (av 0)) (aG 0) none (dC (.int 0))) aQ))))
 (b8 (dN (jS (bu fN (aw (av 0) aQ))) (aG 3) (b8 (bE (bu gw (aw (av 0) (aw (gi (aw (av 3) (aw (dC (.int 0)) aQ))) aQ))) (aG 4))
 (b8 (bE (bu gw (aw (av 0) (aw (gi (aw (av 3) (aw (dC (.int 1)) aQ))) aQ))) (aG 5))
 (fc (fT (br (GR true) (av 4) (av 5))) (bE (br jP (br kE (br kE (av 1) (av 4)) (av 5)) (bu gL (aw (av 0) (aw (av 3) aQ)))) (lS (br kE (av 1) (av 4)) (av 5))) cN))))
 (bR (cm (av 1))))))
noncomputable def fD:jU:=fun ds G Q _=>∃ rows:Rows,ds=[enc rows]/\Lk rows/\∀ G' p0 as,HL G G' p0 as (dT (wV rows))->Q (.ref p0) G'
theorem JX{rows:Rows}(d:Dr rows):∀ r∈rows,r.length<=1000:=fun r hr=>by
 have:r.length<=rows.flatten.length:=by
  obtain⟨l,m,e⟩:=pZ hr;rw [e,kK,eW,aE,aE]; lia
 have:=d.BN; lia
theorem zW(ds:List D)(G:Gp)(Q:DK)(h:fD ds G Q fun _ _=>False):yy (fun _ _=>False) (ends Q) (ba 6 ds) G:=by
 obtain⟨rows,rfl,lk,q⟩:=h;have BN:=lk.dr.BN;have str:=lk.dr.str;unfold yy;simp only [ends,ba,ao,aT,aj,ax,aO,aB,aP,cJ,bE,jb,aQ,aG,aq,ah];refine⟨by decide,fun p0 f0=>?_⟩;refine cM (fun τ G'=>(∃ a b c d,τ=[some (enc rows),some (.ref p0),a,b,c,d])/\∃ as,HL G G' p0 as (dT (zeros rows.length))) ?_ ?_
 ·intro N hN;simp only [dN,dM,av,aa];refine fh ?_;refine cW (xs:=rows) (fun pre τ G'=>(∃ a b c d,τ=[some (enc rows),some (.ref p0),a,b,c,d])/\∃ as,HL G G' p0 as (dT (aO pre.length (aO rows.length 0)))) ?_ (fun _ _ _ _=>trivial) ?_ ?_
  ·exact⟨⟨_,_,_,_,rfl⟩,[],.new f0,f0,ay,by simp,cf,fun _ h=>by(cases h),rfl,fun i a r h=>by simp at h⟩
  ·rintro pre r post τ G' N2 e ⟨⟨a,b,c,d,rfl⟩,as,hh⟩ kG;have hlp:=gG e;simp only [aG,kA,tS,av,aq,ah,ae,aa,nF,hh.gp,aw,fx,aQ,iX,dM,true_and];refine fh ⟨Au (by rw [ak]; show rows.length<=1000; lia),?_⟩;refine gH (xs:=rows) (fun pre acc τ G2=>G'=G2/\(∃ a,τ=[a])/\acc=(aO pre.length (0:Int)).map D.int) ⟨rfl,⟨_,rfl⟩,rfl⟩ (fun _ _ _ _ _=>trivial) ?_ ?_
   ·rintro vM x Of acc τ G2 N3 e2 ⟨rfl,⟨a,rfl⟩,rfl⟩ w4;simp only [aG,dC,ah];refine w4 _ _ _ ⟨rfl,⟨_,rfl⟩,?_⟩;rw [aE,cb,QQ];simp
   ·rintro acc τ G2 ⟨rfl,⟨a,rfl⟩,rfl⟩ p1 f1;have Z0:=hh.ext (ff.new (o:=.lst ((aO rows.length (0:Int)).map D.int)) f1);simp only [Z0.gp];have hal:as.length<=1000:=by rw [hh.len]; unfold dT; rw [ak,eV]; lia
    refine⟨Eo (by rw [ak]; exact hal),?_⟩;have hn:∀ o,G' p1≠some o:=fun o z=>by rw [f1] at z; cases z
    have n1:p1∉as:=fun z=>by
     obtain⟨j,hj⟩:=fe z;have ZW:j < (dT (aO pre.length (aO rows.length (0:Int)))).length:=by rw [<-hh.len]; exact(List.getElem?_eq_some_iff.mp hj).1
     exact hn _ (hh.at' j p1 _ hj (ai ZW))
    have n0:p1≠p0:=fun z=>hn _ (by rw [z]; exact hh.gp);refine kG _ _ ⟨⟨_,_,_,_,rfl⟩,as++[p1],Z0.le.put hh.fp,hh.fp,?_,?_,?_,?_,?_,?_⟩
    ·rw [ay]; simp
    ·intro z;rcases List.mem_append.mp z with z | z
     ·exact hh.np z
     ·rw [bL] at z; exact n0 z.symm
    ·rw [cA];exact⟨hh.nd,by simp,fun x hx y hy=>by rw [bL] at hy; subst hy; intro z; exact n1 (z ▸ hx)⟩
    ·intro b hb;rcases List.mem_append.mp hb with z | z
     ·exact hh.fr b z
     ·rw [bL] at z; rw [z]; exact hh.le.free f1
    ·have:=hh.len;unfold dT at this ⊢;rw [aE,this]; simp
    ·intro i b r2 h1 h2;have hl:=hh.len;have Z9:b≠p0:=by
      rintro rfl;rcases List.mem_append.mp (bx h1) with z | z
      ·exact hh.np z
      ·rw [bL] at z; exact n0 z.symm
     rw [cu Z9];have hrr:r2=(aO rows.length (0:Int)).map D.int:=by
      unfold dT at h2;rw [bq] at h2;cases e3:(aO (pre++[r]).length (aO rows.length (0:Int)))[i]? with
      | none=>rw [e3] at h2; cases h2
      | some w =>
       rw [e3] at h2;have:=(List.mem_replicate.mp (bx e3)).2;subst this;cases h2; rfl
     by_cases hi:i < as.length
     ·rw [bS hi] at h1;have D1:i < (dT (aO pre.length (aO rows.length (0:Int)))).length:=by rw [<-hl]; exact hi
      have h3:=Z0.at' i b _ h1 (ai D1);rw [h3,hrr];congr 2;unfold dT;simp
     ·rw [bG (by lia)] at h1;have:i - as.length=0:=by
       have:=(List.getElem?_eq_some_iff.mp h1).1;simp at this; lia
      rw [this] at h1;simp at h1;subst h1;rw [hrr]; exact ay
  ·rintro τ G' ⟨⟨a,b,c,d,rfl⟩,as,hh⟩;exact hN _ _ ⟨⟨_,_,_,_,rfl⟩,as,hh⟩
 rintro _ G1 ⟨⟨a,b,c,d,rfl⟩,as,hh⟩;refine cM (fun τ G'=>(∃ a b c d,τ=[some (enc rows),some (.ref p0),a,b,c,d])/\HL G G' p0 as (dT (wV rows))) ?_ ?_
 ·intro N hN;simp only [dN,dM,bu,aw,av,aa,aQ];refine⟨rows,rfl,(show rows.flatten.length < 64 by lia),fh ?_⟩;refine cW (xs:=names rows) (fun pre τ G'=>(∃ a b c d,τ=[some (enc rows),some (.ref p0),a,b,c,d])/\HL G G' p0 as (dT (pre.foldl (zb rows) (zeros rows.length)))) ⟨⟨_,_,_,_,rfl⟩,hh⟩ (fun _ _ _ _=>trivial) ?_ ?_
  ·rintro pre n post τ G' N2 e ⟨⟨a,b,c,d,rfl⟩,h2⟩ kG;have hn:n∈names rows:=by rw [e]; simp
   obtain⟨s0,i0⟩:=lk.sp n hn 0 (.inl rfl);obtain⟨s1,i1⟩:=lk.sp n hn 1 (.inr rfl);have sq:=pj rows pre _ (jx rows.length);have eN:(pre++[n]).foldl (zb rows) (zeros rows.length)=bump (pre.foldl (zb rows) (zeros rows.length)) (jo rows ⟨n,0⟩) (jo rows ⟨n,1⟩) (handOf rows n):=by rw [iq]; rfl
   simp only [aG,P.pA,aq,ah,yq,bE,bu,aw,av,aa,gi,ae,dC,aQ,aj,ax,fc,br,lS,cN,cD];refine⟨by decide,rows,⟨n,0⟩,rfl,⟨JX lk.dr,s0⟩,?_⟩;refine⟨by decide,rows,⟨n,1⟩,rfl,⟨JX lk.dr,s1⟩,?_⟩;refine⟨_,_,.int _,.int _,?_⟩;simp only [rQ,if_true,bF];by_cases BH:jo rows ⟨n,0⟩=jo rows ⟨n,1⟩
   ·have e2:((jo rows ⟨n,0⟩:Int)=(jo rows ⟨n,1⟩:Int)):=by lia
    simp only [e2,decide_true,bc,ar,if_false];refine kG _ _ ⟨⟨_,_,_,_,rfl⟩,?_⟩;rw [eN];have:bump (pre.foldl (zb rows) (zeros rows.length)) (jo rows ⟨n,0⟩) (jo rows ⟨n,1⟩) (handOf rows n)=pre.foldl (zb rows) (zeros rows.length):=by unfold bump; rw [if_pos BH]
    rw [this]; exact h2
   ·have e2:¬ ((jo rows ⟨n,0⟩:Int)=(jo rows ⟨n,1⟩:Int)):=by lia
    simp only [e2,decide_false,eG,if_true];obtain⟨a1,r,y,ea,ia,ga,rl,jy,h3⟩:=Mz h2 sq i0 i1 BH (handOf rows n);refine vJ (IsL.ref h2.gp) ia (vJ (IsL.ref ga) jy ?_);refine⟨rows,n,rfl,⟨by lia,lk.hd n hn⟩,?_⟩;simp only [P.pA,fF];refine vJ (IsL.ref h2.gp) ia ?_;unfold wC;simp only [ga,ak,rl,UW i1];refine kG _ _ ⟨⟨_,_,_,_,rfl⟩,?_⟩;rw [eN]; exact h3
  ·rintro τ G' ⟨⟨a,b,c,d,rfl⟩,h2⟩;exact hN _ _ ⟨⟨_,_,_,_,rfl⟩,h2⟩
 rintro _ G2 ⟨⟨a,b,c,d,rfl⟩,h2⟩;simp only [bR,cm,av,ae,aa];exact cS (q _ p0 as h2)
end Aa
namespace Aa
open K2.T
open K2.P (names handOf jo d8 fN gL gw)
open K2.Y (iY pick kY kZ b7 cI eB iB gG)
structure AL(G G':Gp)(as:List Nat)(rs:List (List D)):Prop where
 le:ff G G'
 nd:as.Nodup
 fr:∀ a∈as,G a=none
 len:as.length=rs.length
 at':∀ (i a:Nat) (r:List D),as[i]?=some a->rs[i]?=some r->G' a=some (.lst r)
theorem AL.nil(G:Gp):AL G G [] []:=⟨.refl G,cf,fun _ h=>by(cases h),rfl,fun i a r h=>by simp at h⟩
theorem AL.new{G G':Gp}{as:List Nat}{rs:List (List D)}(h:AL G G' as rs){p:Nat}(hp:G' p=none):p∉as:=fun z=>by
 obtain⟨i,hi⟩:=fe z;have h1:i < rs.length:=by rw [<-h.len]; exact(List.getElem?_eq_some_iff.mp hi).1
 have:=h.at' i p rs[i] hi (ai h1);rw [hp] at this; cases this
theorem AL.push{G G':Gp}{as:List Nat}{rs:List (List D)}(h:AL G G' as rs){p:Nat}(hp:G' p=none)(r:List D):AL G (eA G' p (.lst r)) (as++[p]) (rs++[r]):=by
 refine⟨h.le.trans (.new hp),?_,fun b hb=>?_,by rw [aE,aE,h.len]; rfl,fun i b r2 h1 h2=>?_⟩
 ·rw [cA];exact⟨h.nd,by simp,fun x hx y hy=>by rw [bL] at hy; subst hy; intro z; exact h.new hp (z ▸ hx)⟩
 ·rcases List.mem_append.mp hb with z | z
  ·exact h.fr b z
  ·rw [bL] at z; rw [z]; exact h.le.free hp
 ·by_cases hi:i < as.length
  ·rw [bS hi] at h1;rw [bS (by rw [<-h.len]; exact hi)] at h2;exact(ff.new hp) _ _ (h.at' i b r2 h1 h2)
  ·have ln:=h.len;rw [bG (by lia)] at h1;rw [bG (by lia)] at h2;have:i - as.length=0:=by
    have:=(List.getElem?_eq_some_iff.mp h1).1;simp at this; lia
   rw [this] at h1;rw [show i - rs.length=0 by lia] at h2;simp at h1 h2;subst h1 h2;exact ay
theorem AL.top{G G':Gp}{as:List Nat}{rs:List (List D)}(h:AL G G' as rs){p:Nat}(hp:G' p=none):HL G (eA G' p (.lst (as.map D.ref))) p as rs :=
 ⟨h.le.trans (.new hp),h.le.free hp,ay,h.new hp,h.nd,h.fr,h.len,fun i b r h1 h2=>(ff.new hp) _ _ (h.at' i b r h1 h2)⟩
theorem k8{i:Nat}{t:hV}{E:mG}{K:nU}{τ:iN}{G:Gp}:Gh i t E K τ G=t E { K with nx:=fun oX G1=>match oX[i]? with
 | some (some d)=>Jr G1 d fun t G2=>K.nx (oX.set i (some t)) G2
 | _=>False } τ G:=rfl
end Aa
namespace VA
open K2.P
section
variable {α β:Type} [DecidableEq α] [DecidableEq β]
variable {V:List α} {R:α->α->Prop}
noncomputable def it(f:α->α):Nat->α->α
 | 0,a=>a
 | n+1,a=>f (it f n a)
variable {f:α->α}
noncomputable def gr(V:List α)(f:α->α):List (α×α):=V.map fun a=>(a,f a)
end
end VA
namespace VA
open K2.P
variable {rows:Rows}
noncomputable def flp(z:T3):T3:=⟨z.a,z.b,1 - z.c⟩
noncomputable def swp(off:List T2)(z:T3):T3:=if z.s∈off then flp z else z
noncomputable def phi(rows:Rows)(off:List T2)(a:T3):T3:=swp off (step rows a)
noncomputable def aaE(rows:Rows):List T2:=rows.flatten.map T3.s
noncomputable def aau(rows:Rows):List T2:=(SK rows).filter fun s=>decide (s.b=2)
noncomputable def pr(s:T2):T3×T3:=(Zf s,YH s)
noncomputable def base(rows:Rows):List (T3×T3):=gr (Wc rows) (phi rows (aaE rows))++(aau rows).map pr
end VA
namespace GZ
open K2.P
structure HR(G G':Gp)(p0:Nat)(as:List Nat)(rs:Rows):Prop where
 le:ff G G'
 fp:G p0=none
 gp:G' p0=some (.lst (as.map D.ref))
 np:p0∉as
 nd:as.Nodup
 fr:∀ a∈as,G a=none
 len:as.length=rs.length
 at':∀ (i a:Nat) (r:List T3),as[i]?=some a->rs[i]?=some r->G' a=some (.lst (r.map enc))
theorem HR.fz{G G':Gp}{p0:Nat}{as:List Nat}{rs:Rows}(h:HR G G' p0 as rs){Q:DK}(q:Q (enc rs) G):Jr G' (.ref p0) Q:=by
 refine C3 h.le h.fp h.gp (ss:=rs.map enc) ?_ q;have:∀ (as:List Nat) (rs:Rows),as.length=rs.length->(∀ a∈as,G a=none)->(∀ (i a:Nat) (r:List T3),as[i]?=some a->rs[i]?=some r->G' a=some (.lst (r.map enc)))->Ab G' (fun a=>(G a).isNone) (as.map D.ref) (rs.map enc):=by
  intro as;induction as with
  | nil=>intro rs hl _ _; cases rs with
   | nil=>exact .nil
   | cons _ _=>cases hl
  | cons a as ih =>
   intro rs hl hf tm;cases rs with
   | nil=>cases hl
   | cons r rs =>
    refine .cons (.ref (tm 0 a r rfl rfl) (by simp [hf a (by simp)]) (Ab.same _)) ?_;exact ih rs (by simpa using hl) (fun b hb=>hf b (aL _ hb)) fun i b s h1 h2=>tm (i+1) b s h1 h2
 exact this as rs h.len h.fr h.at'
end GZ
namespace K13
open K2.P K2.GZ
variable {rows:Rows}
end K13
namespace K13
open K2.P K2.GZ
variable {rows:Rows}
end K13
namespace VA
open K2.P
variable {rows:Rows}
end VA
namespace MM
open K2.P K2.VA
section
variable {α:Type} [DecidableEq α]
noncomputable def dd(l:List α):List α:=l.foldl (fun acc x=>if x∈acc then acc else acc++[x]) []
end
variable {rows:Rows}
end MM
noncomputable instance:DQ T2 where
 mn:=by
  intro x G xs Q hi oA k;cases xs with
  | nil=>exact absurd rfl oA
  | cons a r =>
   obtain⟨h1,h2⟩:=jT r a;have ei:itemsOf x G=some (((a :: r).map T2.l).map tI):=by rw [hi,aM]; rfl
   refine .inr ⟨(a :: r).map T2.l,_,ei,rfl,?_⟩;have:∀ (r:List T2) (a:T2),(r.map T2.l).foldl (fun m x=>if lexLt x m=true then x else m) a.l=(r.foldl (fun m x=>if aU.lt x m=true then x else m) a).l:=by
    intro r;induction r with
    | nil=>intro a; rfl
    | cons b r ih =>
     intro a;rw [ao,cE,cE];have e:(if lexLt b.l a.l=true then b.l else a.l)=(if aU.lt b a=true then b else a).l:=by
      have:aU.lt b a=lexLt b.l a.l:=sX _ _;rw [this];split <;> rfl
     rw [e]; exact ih _
   rw [this r a];exact k _ h1 h2
namespace MM
open K2.P K2.VA K2.T
open K2.Y (gG)
variable {rows:Rows}
end MM
namespace MM
open K2.P K2.T
open K2.Aa (AL dS Yj fu k8 rQ)
open K2.Y (iY pick kY kZ b7 cI eB iB gG)
theorem uP{G G2:Gp}{d:D}{ds:List D}{R:List D->(Gp->Prop)->Gp->Prop}(h:IsL G d ds)(l:ff G G2)(k:∀ ok:Gp->Prop,(∀ G',ff G G'->ok G')->R ds ok G2):QI d G2 R:=by
 rcases h with rfl | ⟨a,rfl,e⟩
 ·exact k _ fun _ _=>trivial
 ·rw [Ko (l _ _ e)];exact k _ fun G' le=>le _ _ e
end MM
namespace JB
open K2.T
open K2.P (names handOf fN gL j5 xM pairsOf)
open K2.Y (iY pick kY kZ b7 cI eB gG)
open K2.Aa (AL fu k8)
open K2.MM (uP)
noncomputable def dS:jU:=Aa.dS
noncomputable def nJ:hV :=
 (bR (cm (fx 1 [] (jS (av 0)) (aG 0) none (wa w9 (aw (av 0) aQ)))))
theorem q0(ds:List D)(G:Gp)(Q:DK)(h:dS ds G Q fun _ _=>False):nJ (fun _ _=>False) (ends Q) (ba 1 ds) G:=Aa.q0 ds G Q h
noncomputable def iR:jU:=Aa.iR
noncomputable def nI:hV :=
 (b8 (IY (fT (br (Oa false) (av 1) (av 0))) (bE (br jP (br sR (av 1) (dC (.int 999))) (dC (.int 1))) (aG 1)))
 (bR (cm (av 1))))
theorem qY(ds:List D)(G:Gp)(Q:DK)(h:iR ds G Q fun _ _=>False):nI (fun _ _=>False) (ends Q) (ba 2 ds) G:=Aa.qY ds G Q h
noncomputable def yA:hV :=
 (b8 (bE (bu dS (aw (av 0) aQ)) (aG 4))
 (b8 (bE (br sR (av 2) (br jP (wa tK (aw (br kE (av 4) (av 1)) aQ)) (dC (.int 1)))) (aG 2))
 (b8 (bE (br jP (br jP (zK (br kE (av 4) (av 1)) fM (lC (av 2))) (av 3)) (zK (br kE (av 4) (av 1)) (lC (av 2)) fM)) (lS (av 4) (av 1)))
 (bR (cm (av 4))))))
noncomputable def mN:jU:=fun ds G Q _=>∃ (rs:List (List D)) (i:Nat) (pl:Int) (more:List D),ds=[.cY (rs.map D.cY),.int i,.int pl,.cY more]/\(i < rs.length/\rs.length<=1000/\(∀ r∈rs,r.length<=500)/\more.length<=100)/\∀ (r:List D) (k:Nat),rs[i]?=some r->k<=r.length->(k:Int)=pl % ((r.length:Int)+1)->Q (.cY ((rs.set i (r.take k++more++r.drop k)).map D.cY)) G
theorem Jm(ds:List D)(G:Gp)(Q:DK)(h:mN ds G Q fun _ _=>False):yA (fun _ _=>False) (ends Q) (ba 5 ds) G:=by
 obtain⟨rs,i,pl,more,rfl,⟨hi,hl,hr,hm⟩,q⟩:=h;unfold yA;simp only [ends,ba,ao,aT,aj,ax,aO,aB,aP,cJ,bE,bu,aw,av,aa,aQ,aG,aq,ah,br,ae,wa,dC,zK,fM,lS,bR,cm,kz];refine⟨rs,rfl,hl,fun G1 p0 as h1=>?_⟩;obtain⟨r,er⟩:∃ r,rs[i]?=some r:=⟨rs[i],ai hi⟩;have hrl:=hr r (bx er);obtain⟨a,ea,ga,ia⟩:=h1.row (i:=i) (r:=r) er;refine vJ (IsL.ref h1.gp) ia (KS (IsL.ref ga) ?_);simp only [fF,kl,iV];refine⟨by lia,?_⟩;have c1:0<=pl % ((r.length:Int)+1):=oW _ (by lia);have c2:pl % ((r.length:Int)+1) < (r.length:Int)+1:=lO _ (by lia);generalize ec:pl % ((r.length:Int)+1)=c at c1 c2;obtain⟨k,rfl⟩:∃ k:Nat,c=(k:Int):=⟨c.toNat,by lia⟩;have hk:k<=r.length:=by lia
 refine vJ (IsL.ref h1.gp) ia (vH (IsL.ref ga) fun p1 f1=>?_);rw [Dt _ _ hk];have l1:=ff.new (o:=.lst (r.take k)) f1;refine um (IsL.ref ay) (IsL.cY) (by rw [eL]; exact Au (by lia)) fun p2 f2=>?_;have l2:=ff.new (o:=.lst (r.take k++more)) f2;have X6:=l1.trans l2;refine vJ (IsL.ref (X6 _ _ h1.gp)) ia (vH (IsL.ref (X6 _ _ ga)) fun p3 f3=>?_);rw [u3 _ _ hk];have l3:=ff.new (o:=.lst (r.drop k)) f3;refine um (IsL.ref (l3 _ _ ay)) (IsL.ref ay) (by simp only [aE,eL,cq]; exact Au (by lia)) fun p4 f4=>?_;have l4:=ff.new (o:=.lst (r.take k++more++r.drop k)) f4;have h4:=h1.ext ((X6.trans l3).trans l4);have hn:∀ o,G1 p4≠some o:=fun o z=>by
  have:=(X6.trans l3) _ _ z;rw [f4] at this; cases this
 have n4:p4∉as:=fun z=>by
  obtain⟨j,hj⟩:=fe z;have ZW:j < rs.length:=by rw [<-h1.len]; exact(List.getElem?_eq_some_iff.mp hj).1
  exact hn _ (h1.at' j p4 _ hj (ai ZW))
 have n0:p4≠p0:=fun z=>hn _ (by rw [z]; exact h1.gp);have hf4:G p4=none:=by
  cases e:G p4 with
  | none=>rfl
  | some o=>exact absurd (h1.le _ _ e) (hn o)
 have hj:i < as.length:=(List.getElem?_eq_some_iff.mp ea).1;have h5:=h4.NV (r':=r.take k++more++r.drop k) hj ay n4 hf4 n0;unfold wC;simp only [h4.gp];have ei:GU (as.map D.ref).length (i:Int)=some i:=by
  unfold GU;rw [if_pos (by lia),if_pos (by rw [ak]; lia)]; simp
 simp only [ei];have es:(as.map D.ref).set i (.ref p4)=(as.set i p4).map D.ref:=by rw [Cj]
 rw [es];refine h5.fz ?_;exact q r k er hk ec.symm
theorem Ob{α:Type} [DecidableEq α] [Enc α]{G:Gp}{Q:DK}{rows:List (List α)}{i:Nat}{pl:Int}{more:List α}(h:i < rows.length/\rows.length<=1000/\(∀ r∈rows,r.length<=500)/\more.length<=100)
  (q:∀ (r:List α) (k:Nat),rows[i]?=some r->k<=r.length->(k:Int)=pl % ((r.length:Int)+1)->Q (enc (rows.set i (r.take k++more++r.drop k))) G):mN [enc rows,.int i,.int pl,enc more] G Q fun _ _=>False:=by
 refine⟨rows.map fun r=>r.map enc,i,pl,more.map enc,by rw [fu]; rfl,⟨by rw [ak]; exact h.1,by rw [ak]; exact h.2.1,fun r hr=>?_,by rw [ak]; exact h.2.2.2⟩,fun r k hr hk e=>?_⟩
 ·obtain⟨r',Pf,rfl⟩:=List.mem_map.mp hr;rw [ak]; exact h.2.2.1 r' Pf
 ·rw [bq] at hr;obtain⟨r',Pf,rfl⟩:=Option.map_eq_some_iff.mp hr;rw [ak] at hk e;have:=q r' k Pf hk e;rw [fu,Cj,aK,aK,An,Ap] at this;exact this
theorem Dr.two{rows R:Rows}(d:Dr rows){m h:Int}(hm:∀ p∈rows.flatten,p.a≠m)(hh:h=1\/h=-1)(hp:R.flatten.Perm (⟨m,1,h⟩ :: ⟨m,0,h⟩ :: rows.flatten))(BN:rows.flatten.length<=22)(str:R.length<=3):Dr R:=by
 have mem:∀ p,p∈R.flatten↔p=⟨m,1,h⟩\/p=⟨m,0,h⟩\/p∈rows.flatten:=fun p=>by rw [hp.mem_iff,bD,bD]
 refine⟨?_,fun p h1=>?_,fun p h1=>?_,fun p h1=>?_,?_,str⟩
 ·refine(hp.map T3.s).nodup_iff.mpr ?_;rw [ao,ao,a9,a9];have out:∀ w:Int,(⟨m,w⟩:T2)∉rows.flatten.map T3.s:=fun w z=>by
   obtain⟨p,xm,e⟩:=List.mem_map.mp z;injection e with e1 _
   exact hm p xm e1
  refine⟨fun z=>?_,out 0,d.nd⟩;rcases List.mem_cons.mp z with z | z
  ·injection z with _ z2; cases z2
  ·exact out 1 z
 ·rcases (mem p).mp h1 with rfl | rfl | h1
  ·exact .inr rfl
  ·exact .inl rfl
  ·exact d.way p h1
 ·rcases (mem p).mp h1 with rfl | rfl | h1
  ·exact hh
  ·exact hh
  ·exact d.hand p h1
 ·rcases (mem p).mp h1 with rfl | rfl | h1
  ·exact(mem _).mpr (.inr (.inl rfl))
  ·exact(mem _).mpr (.inl rfl)
  ·exact(mem _).mpr (.inr (.inr (d.AK p h1)))
 ·rw [hp.length_eq,aj,aj]; lia
theorem Dr.nil{S:Nat}(h:S<=3):Dr (aO S []):=by
 have e:(aO S ([]:List T3)).flatten=[]:=by
  rw [List.flatten_eq_nil_iff]; intro l hl; exact(List.mem_replicate.mp hl).2
 refine⟨by rw [e]; exact cf,fun p hp=>?_,fun p hp=>?_,fun p hp=>?_,by rw [e]; simp,by simpa using h⟩ <;> rw [e] at hp <;> cases hp
theorem FC{rows:Rows}{i k:Nat}{r more:List T3}(hr:rows[i]?=some r):(rows.set i (r.take k++more++r.drop k)).flatten.Perm (more++rows.flatten):=by
 refine(PB hr).trans ?_;refine List.Perm.trans ?_ ((R4 hr).symm.append_left _);rw [<-cU];refine List.Perm.append_right _ ?_
 conv=>rhs; rw [<-fI k r]
 rw [<-cU];exact List.perm_append_comm.append_right _
noncomputable def aaK(rows:Rows)(ns:List Int):Prop:=∀ p∈rows.flatten,p.a∈ns
noncomputable def fk:jU:=fun ds G Q _=>∃ (d:D) (cells:List Int) (S:Nat) (sp:Int),ds=[d,.int S,.int sp]/\IsL G d (cells.map D.int)/\(cells.length<=12/\(1<=S/\S<=3)/\1<=sp/\sp<=999) /\
 ∀ rows:Rows,Dr rows->rows.length=S->rows.flatten.length=2 * cells.length->Q (enc rows) G
end JB
namespace K33
open K2.Y
noncomputable def sE:hV :=
 (b8 (bE pB (aG 1))
 (b8 (dN (uO (av 0)) (aG 2) (bE (br kE (av 0) (av 2)) (lS (av 1) (GX AJ (av 2)))))
 (bR (cm (av 1)))))
noncomputable def AE:jU:=rj
theorem A1(ds:List D)(G:Gp)(Q:DK)(h:AE ds G Q fun _ _=>False):sE (fun _ _=>False) (ends Q) (ba 3 ds) G:=by
 obtain⟨d,l,rfl,hd,hl,q⟩:=h;unfold sE;simp only [ends,ba,ao,aT,aj,ax,aO,aB,aP,cJ,bE,pB,aG,aq,ah];intro p hp;refine cM (fun τ G'=>(∃ a,τ=[some d,some (.ref p),a])/\ff G G'/\G' p=some (.gK (bz (jC l)))) ?_ ?_
 ·intro N hN;simp only [dN,uO,av,aa];refine zk hd.is (.new hp) fun ok cn=>?_;refine cW (xs:=l) (fun pre τ G'=>(∃ a,τ=[some d,some (.ref p),a])/\ff G G'/\G' p=some (.gK (bz (jC pre)))) ⟨⟨_,rfl⟩,.new hp,ay⟩ (fun pre τ G' h=>cn G' h.2.1) ?_ ?_
  ·rintro pre x post τ G' N2 e ⟨⟨a,rfl⟩,le,gp⟩ kG;have hlen:(jC pre).length < SZ:=by
    have:=gG e;unfold jC; rw [ak]; lia
   have hm:x∈l:=by rw [e]; simp
   simp only [aG,bE,br,av,aq,ah,aa,ae,lS,GX,lx];refine N9 hd.is.p (va hd.nd hm) ?_;refine gT (α:=Int) gp hlen ?_;exact kG _ _ ⟨⟨_,rfl⟩,le.put hp,by rw [ay,<-Lg hd.nd e]⟩
  ·rintro τ G' ⟨⟨a,rfl⟩,le,gp⟩;exact hN _ _ ⟨⟨_,rfl⟩,le,gp⟩
 ·rintro _ G' ⟨⟨a,rfl⟩,le,gp⟩;simp only [bR,cm,av,ae,aa];exact rT le hp gp q
end K33
namespace JB
open K2.P K2.J
open K2.Y (Po L ND NZ fG lQ ic j0 b7 eB iY pick kY kZ Pl Dh)
open K2.Aa (fu)
variable {rows:Rows}
noncomputable def wr(rows:Rows):Int:=((names rows).map (handOf rows)).sum
theorem BP.sz{T:Po}{f:Fn->Int}(b:BP T f):T.length<=SZ:=bw b.len (by decide)
noncomputable def hs(L:List T3):Int:=((L.filter fun p=>p.b == 0).map (·.c)).sum
noncomputable def E8(L:List T3):List (Int×Int):=(L.filter fun p=>p.b == 0).map fun p=>(p.a,p.c)
theorem rF(d:Dr rows):(nh rows).Perm (E8 rows.flatten):=by
 unfold nh names;refine((oD _).map _).trans ?_;rw [aM];unfold E8;have:((rows.flatten.filter fun p=>p.b == 0).map ((fun n=>(n,handOf rows n))∘fun p:T3=>p.a))=(rows.flatten.filter fun p=>p.b == 0).map fun p=>(p.a,p.c):=by
  refine cL fun p hp=>?_;show (p.a,handOf rows p.a)=_;rw [xM d (List.mem_filter.mp hp).1]
 rw [this]
theorem E7{a b:List T3}(h:a.Perm b):(E8 a).Perm (E8 b):=(h.filter _).map _
theorem CP(rows:Rows):(nh rows).map (·.1)=names rows:=by
 unfold nh;rw [aM];exact kJ _
end JB
end K2
end
section
set_option maxHeartbeats 1000000
namespace K2
namespace J
section
variable {α:Type} [DecidableEq α]
noncomputable def cj(r f:α->α):α->α:=fun e=>r (f (r e))
theorem WM{r f:α->α}(hr:Iv r)(x y:α):jn (cj r f) (r x) (r y)=cj r (jn f x y)/\cl (cj r f) (r x) (r y)=cl f x y:=by
 have inj:∀ {a b:α},r a=r b->a=b:=fun {a b} h=>by rw [<-hr a,h,hr]
 have sw:∀ {a b:α},a=r b↔r a=b:=fun {a b}=>⟨fun h=>by rw [h,hr],fun h=>by rw [<-h,hr]⟩;refine⟨?_,?_⟩
 ·funext e;show (if e=r x\/e=r y then e else if e=r (f (r (r x))) then r (f (r (r y))) else if e=r (f (r (r y))) then r (f (r (r x))) else r (f (r e)))=r (if r e=x\/r e=y then r e else if r e=f x then f y else if r e=f y then f x else f (r e));rw [hr,hr];by_cases c1:r e=x\/r e=y
  ·rw [if_pos (c1.imp sw.mpr sw.mpr),if_pos c1,hr]
  ·rw [if_neg (fun z=>c1 (z.imp sw.mp sw.mp)),if_neg c1];by_cases c2:r e=f x
   ·rw [if_pos (sw.mpr c2),if_pos c2]
   ·rw [if_neg (fun z=>c2 (sw.mp z)),if_neg c2];by_cases c3:r e=f y
    ·rw [if_pos (sw.mpr c3),if_pos c3]
    ·rw [if_neg (fun z=>c3 (sw.mp z)),if_neg c3]
 ·show (if r (f (r (r x)))=r y then 1 else 0)=if f x=y then 1 else 0
  rw [hr];by_cases c:f x=y
  ·rw [if_pos c,if_pos (by rw [c])]
  ·rw [if_neg c,if_neg (fun z=>c (inj z))]
theorem O1{r:α->α}(hr:Iv r):∀ (ps:Pr α) (f:α->α),i4 (cj r f) (ps.map fun p=>(r p.1,r p.2))=cj r (i4 f ps)/\cls (cj r f) (ps.map fun p=>(r p.1,r p.2))=cls f ps
 | [],f=>⟨rfl,rfl⟩
 | p :: ps,f=>by
  obtain⟨a,b⟩:=WM (f:=f) hr p.1 p.2;obtain⟨c,d⟩:=O1 hr ps (jn f p.1 p.2);rw [ao,i4,cls,i4,cls];show i4 (jn (cj r f) (r p.1) (r p.2)) _=_/\cl (cj r f) (r p.1) (r p.2)+cls (jn (cj r f) (r p.1) (r p.2)) _=_;rw [a,b,c,d];exact⟨rfl,rfl⟩
end
noncomputable def rho(i:Nat):Nat:=[4,5,8,9,0,1,10,11,2,3,6,7].getD i i
end J
end K2
end
section
namespace K2
open Enc (enc)
namespace JD
open K2.P K2.J K2.JB
noncomputable def rl(nm:Nat->Int)(e:T3):T3:=match (ez 12).find? fun i=>decide (vv nm i=e) with
 | some i=>vv nm (rho i)
 | none=>e
section
variable {nm:Nat->Int} (inj:∀ i j,i < 12->j < 12->vv nm i=vv nm j->i=j)
include inj
omit inj in
end
theorem CF{r:T3->T3}(hr:Iv r):∀ (P:Pr T3),pt (P.map fun p=>(r p.1,r p.2))=cj r (pt P)
 | []=>by
  funext e;show e=r (r e);rw [hr]
 | p :: P=>by
  funext e;have sw:∀ {a b:T3},a=r b↔r a=b:=fun {a b}=>⟨fun h=>by rw [h,hr],fun h=>by rw [<-h,hr]⟩;show (if e=r p.1 then r p.2 else if e=r p.2 then r p.1 else pt (P.map fun p=>(r p.1,r p.2)) e)=r (if r e=p.1 then p.2 else if r e=p.2 then p.1 else pt P (r e));rw [CF hr P];by_cases c1:r e=p.1
  ·rw [if_pos (sw.mpr c1),if_pos c1]
  ·rw [if_neg (fun z=>c1 (sw.mp z)),if_neg c1];by_cases c2:r e=p.2
   ·rw [if_pos (sw.mpr c2),if_pos c2]
   ·rw [if_neg (fun z=>c2 (sw.mp z)),if_neg c2]; rfl
theorem xS{α β:Type}(f:α->β):∀ l:List α,AZ (l.map f)=(AZ l).map fun p=>(f p.1,f p.2)
 | []=>rfl
 | [_]=>rfl
 | a :: b :: l=>by
  show (f a,f b) :: AZ ((b :: l).map f)=_;rw [xS f (b :: l)]; rfl
theorem Dq{α β:Type}(f:α->β)(l:List α):VR (l.map f)=(VR l).map fun p=>(f p.1,f p.2):=by
 cases l with
 | nil=>rfl
 | cons a l =>
  show AZ (f a :: l.map f++[f a])=(AZ (a :: l++[a])).map _;rw [<-xS f (a :: l++[a])];congr 1;simp
noncomputable def UC(o:Bool)(p q:T3):List T3:=if o then [p,q] else [q,p]
noncomputable def YS(a b c h0 h1 h2:Int)(o m u:Bool):List (List T3):=[UC o ⟨a,0,h0⟩ ⟨b,0,h1⟩,UC m ⟨a,1,h0⟩ ⟨c,0,h2⟩,UC u ⟨b,1,h1⟩ ⟨c,1,h2⟩]
end JD
namespace JE
open K2.P K2.J K2.JB
open K2.JD (xS Dq CF)
theorem Nw{A B:List (T3×T3)}(h:A.Perm B):(JQ A).Perm (JQ B):=h.map _
theorem Wm{A B:List (T3×T3)}(h:A.Perm B)(nd:(es (JQ A)).Nodup):pt (JQ A)=pt (JQ B):=Rn (Nw h) nd
noncomputable def ex(X:Int)(p:T3):T3:=if p.a=X then ⟨X,1 - p.b,-p.c⟩ else p
theorem Dr.perm{rows R:Rows}(d:Dr rows)(h:R.flatten.Perm rows.flatten)(str:R.length<=3):Dr R :=
 ⟨(h.map _).nodup_iff.mpr d.nd,fun p hp=>d.way p (h.mem_iff.mp hp),fun p hp=>d.hand p (h.mem_iff.mp hp),fun p hp=>h.mem_iff.mpr (d.AK p (h.mem_iff.mp hp)),by rw [h.length_eq]; exact d.BN,str⟩
end JE
namespace JF
open K2.P K2.J K2.JB
open K2.JD (xS Dq CF)
noncomputable def ng(g:Fn):Fn:=fun i=>g (-i)
theorem S3(b:Int)(g:Fn):sh b (ng g)=ng (sh (-b) g):=by
 funext i;show g (-(i+b))=g (-i+-b);congr 1; lia
theorem Wy(g:Fn):lp (ng g)=ng (lp g):=by
 funext i;show -(g (-(i+2))) - g (-(i - 2))=-(g (-i+2)) - g (-i - 2);rw [show -(i+2)=-i - 2 by lia,show -(i - 2)=-i+2 by lia];lia
theorem CQ(n:Nat)(g:Fn):jf n (ng g)=ng (jf n g):=by
 induction n with
 | zero=>rfl
 | succ n ih =>
  show lp (jf n (ng g))=ng (lp (jf n g));rw [ih,Wy]
theorem DS:∀ (ps:List (Int×Int)) (f:T3->T3) (g:Fn),Br f (ps.map fun p=>(p.1,-p.2)) g=Br f ps (ng g)
 | [],f,g=>rfl
 | p :: ps,f,g=>by
  show Br (i4 f (js p.1 false)) (ps.map fun p=>(p.1,-p.2)) (jf (cls f (js p.1 false)) (sh (-p.2) g))+Br (i4 f (js p.1 true)) (ps.map fun p=>(p.1,-p.2)) (jf (cls f (js p.1 true)) (sh (- -p.2) g))=Br (i4 f (js p.1 false)) ps (jf (cls f (js p.1 false)) (sh p.2 (ng g)))+Br (i4 f (js p.1 true)) ps (jf (cls f (js p.1 true)) (sh (-p.2) (ng g)));rw [DS ps,DS ps,S3,S3,CQ,CQ]
noncomputable def ra(e:T3):T3:=⟨e.a,1 - e.b,e.c⟩
theorem EJ:Iv ra:=fun e=>by
 show (⟨e.a,1 - (1 - e.b),e.c⟩:T3)=e;rw [show 1 - (1 - e.b)=e.b by lia]
theorem WK(n:Int)(w:Bool):Sm (js n w) ((js n w).map fun p=>(ra p.1,ra p.2)):=by
 cases w with
 | false=>exact Sm.perm (lM _ _ _)
 | true=>exact(Sm.turn _ _ _).trans (Sm.cons _ (Sm.turn _ _ _))
theorem R7{n:Int}{e:T3}(h:e∈ky n):ra e∈ky n:=by
 simp only [ky,bD,cP,or_false] at h ⊢;rcases h with rfl | rfl | rfl | rfl <;> simp [ra]
theorem XI{f:T3->T3}{ns:List Int}(d:Dm f ns):Dm (cj ra f) ns :=
 ⟨fun e=>by unfold cj; rw [EJ,d.iv,EJ],d.nd,fun n hn e he z=>d.dm n hn (ra e) (R7 he) (by unfold cj at z; have:=congrArg ra z; rwa [EJ] at this)⟩
theorem Qu:∀ (ps:List (Int×Int)) (f:T3->T3) (g:Fn),Dm f (ps.map (·.1))->Br (cj ra f) ps g=Br f ps g
 | [],f,g,_=>rfl
 | p :: ps,f,g,d=>by
  have st:∀ w,i4 (cj ra f) (js p.1 w)=cj ra (i4 f (js p.1 w))/\cls (cj ra f) (js p.1 w)=cls f (js p.1 w):=fun w=>by
   obtain⟨s1,s2⟩:=(WK p.1 w).2 _ ((XI d).ok w);obtain⟨t1,t2⟩:=O1 EJ (js p.1 w) f;exact⟨s1.trans t1,s2.trans t2⟩
  show Br (i4 (cj ra f) (js p.1 false)) ps (jf (cls (cj ra f) (js p.1 false)) (sh p.2 g))+Br (i4 (cj ra f) (js p.1 true)) ps (jf (cls (cj ra f) (js p.1 true)) (sh (-p.2) g))=Br (i4 f (js p.1 false)) ps (jf (cls f (js p.1 false)) (sh p.2 g))+Br (i4 f (js p.1 true)) ps (jf (cls f (js p.1 true)) (sh (-p.2) g));rw [(st false).1,(st false).2,(st true).1,(st true).2,Qu ps _ _ (d.step false),Qu ps _ _ (d.step true)]
theorem Qe{rows R:Rows}(d:Dr rows)(dR:Dr R)(pp:(pairsOf R).Perm (pairsOf rows))(pf:R.flatten.Perm rows.flatten)(l:lo R=lo rows)(g:Fn):brk R g=brk rows g:=by
 have pn:(nh R).Perm (nh rows):=(rF dR).trans ((E7 pf).trans (rF d).symm);have ef:fr R=fr rows:=JE.Wm pp (Ct dR);unfold brk;rw [DR pn (by rw [CP]; exact Kz dR),ef,l]
theorem NT{rows:Rows}{σ:List T3->List T3}(h:∀ r∈rows,∃ k,σ r=r.drop k++r.take k):(pairsOf (rows.map σ)).Perm (pairsOf rows)/\(rows.map σ).flatten.Perm rows.flatten/\lo (rows.map σ)=lo rows:=by
 induction rows with
 | nil=>exact⟨.refl _,.refl _,rfl⟩
 | cons r rows ih =>
  obtain⟨k,hk⟩:=h r (by simp);obtain⟨i1,i2,i3⟩:=ih fun r' hr=>h r' (by simp [hr]);have e:r.take k++r.drop k=r:=fI k r;refine⟨?_,?_,?_⟩
  ·rw [ao,oJ,oJ,cT,cT,<-oJ,<-oJ];refine yh ?_ i1;rw [hk];refine(Sd _ _).trans ?_;rw [e]
  ·rw [ao,eW,eW];refine yh ?_ i2;rw [hk];refine List.perm_append_comm.trans ?_;rw [e]
  ·rw [ao];have ee:(σ r).isEmpty=r.isEmpty:=by
    have hl:(σ r).length=r.length:=by rw [hk,aE,cq,eL]; lia
    cases h1:σ r with
    | nil=>rw [h1] at hl; cases r with
     | nil=>rfl
     | cons=>simp at hl
    | cons=>rw [h1] at hl; cases r with
     | nil=>simp at hl
     | cons=>rfl
   unfold lo at i3 ⊢;rw [bQ,bQ,ee];split
   ·rw [aj,aj,i3]
   ·exact i3
theorem Qf{rows:Rows}{σ:List T3->List T3}(d:Dr rows)(h:∀ r∈rows,∃ k,σ r=r.drop k++r.take k):Dr (rows.map σ)/\∀ g,brk (rows.map σ) g=brk rows g:=by
 obtain⟨a1,a2,a3⟩:=NT h;have dR:Dr (rows.map σ):=JE.Dr.perm d a2 (by rw [ak]; exact d.str);exact⟨dR,fun g=>Qe d dR a1 a2 a3 g⟩
noncomputable def rf(p:T3):T3:=⟨p.a,p.b,-p.c⟩
theorem Bo(f:T3->T3)(rows:Rows):pairsOf (rows.map fun r=>r.map f)=(pairsOf rows).map fun p=>(f p.1,f p.2):=by
 rw [oJ,oJ];induction rows with
 | nil=>rfl
 | cons r rows ih=>rw [ao,cT,ih,cT,aK,Dq]
theorem qO(f:T3->T3)(rows:Rows):(rows.map fun r=>r.map f).flatten=rows.flatten.map f:=by rw [List.map_flatten]
theorem ON(f:T3->T3)(rows:Rows):lo (rows.map fun r=>r.map f)=lo rows:=by
 unfold lo;rw [vk,ak];congr 2;funext r;cases r <;> rfl
theorem SU{rows:Rows}(d:Dr rows):Dr (rows.map fun r=>r.map rf):=by
 have fl:=qO rf rows;refine⟨?_,?_,?_,?_,by rw [fl,ak]; exact d.BN,by rw [ak]; exact d.str⟩
 ·rw [fl,aM]; exact d.nd
 ·rw [fl]; intro p hp;obtain⟨q,hq,rfl⟩:=List.mem_map.mp hp;exact d.way q hq
 ·rw [fl]; intro p hp;obtain⟨q,hq,rfl⟩:=List.mem_map.mp hp;have:=d.hand q hq;show -q.c=1\/-q.c=-1;lia
 ·rw [fl]; intro p hp;obtain⟨q,hq,rfl⟩:=List.mem_map.mp hp;exact List.mem_map.mpr ⟨_,d.AK q hq,rfl⟩
theorem OD(L:List T3):E8 (L.map rf)=(E8 L).map fun p=>(p.1,-p.2):=by
 unfold E8;rw [vk,aM,aM]; rfl
theorem Uo{rows:Rows}(d:Dr rows)(g:Fn):brk (rows.map fun r=>r.map rf) g=brk rows (ng g):=by
 have dR:=SU d;have ef:fr (rows.map fun r=>r.map rf)=fr rows:=by
  unfold fr Nv JQ;rw [Bo,aM]; rfl
 have pn:(nh (rows.map fun r=>r.map rf)).Perm ((nh rows).map fun p=>(p.1,-p.2)):=by
  refine(rF dR).trans ?_;rw [qO,OD];exact((rF d).symm.map _)
 unfold brk;rw [DR pn (by rw [CP]; exact Kz dR),ef,ON,DS,CQ]
noncomputable def sw(p:T3):T3:=⟨p.a,1 - p.b,-p.c⟩
theorem SJ{rows:Rows}(d:Dr rows):Dr (rows.map fun r=>r.map sw):=by
 have fl:=qO sw rows;refine⟨?_,?_,?_,?_,by rw [fl,ak]; exact d.BN,by rw [ak]; exact d.str⟩
 ·rw [fl,aM];have e:(T3.s∘sw)=(fun t:T2=>(⟨t.a,1 - t.b⟩:T2))∘T3.s:=rfl;rw [e,<-aM];refine mC d.nd fun x _ y _ z=>?_;obtain⟨xa,xb⟩:=x;obtain⟨ya,yb⟩:=y;injection z with z1 z2
  simp only at z1 z2;rw [z1,show xb=yb by lia]
 ·rw [fl]; intro p hp;obtain⟨q,hq,rfl⟩:=List.mem_map.mp hp;have:=d.way q hq;show 1 - q.b=0\/1 - q.b=1;lia
 ·rw [fl]; intro p hp;obtain⟨q,hq,rfl⟩:=List.mem_map.mp hp;have:=d.hand q hq;show -q.c=1\/-q.c=-1;lia
 ·rw [fl]; intro p hp;obtain⟨q,hq,rfl⟩:=List.mem_map.mp hp;exact List.mem_map.mpr ⟨_,d.AK q hq,rfl⟩
theorem OC{rows:Rows}(d:Dr rows):(E8 (rows.flatten.map sw)).Perm ((E8 rows.flatten).map fun p=>(p.1,-p.2)):=by
 have nd:∀ w:Int,(((rows.flatten.filter fun p=>p.b == w)).map fun p:T3=>(p.a,-p.c)).Nodup:=fun w=>by
  have h1:=(iO (l:=rows.flatten) (p:=fun p=>p.b == w)).map T3.s;have h2:=h1.nodup d.nd;have h3:((rows.flatten.filter fun p=>p.b == w).map fun p:T3=>p.a).Nodup:=by
   have e:((rows.flatten.filter fun p=>p.b == w).map fun p:T3=>p.a)=((rows.flatten.filter fun p=>p.b == w).map T3.s).map T2.a:=by rw [aM]; rfl
   rw [e];refine mC h2 fun x hx y hy z=>?_;obtain⟨p,hp,rfl⟩:=List.mem_map.mp hx;obtain⟨q,hq,rfl⟩:=List.mem_map.mp hy;have w1:p.b=w:=by simpa using (List.mem_filter.mp hp).2
   have w2:q.b=w:=by simpa using (List.mem_filter.mp hq).2
   show (⟨p.a,p.b⟩:T2)=⟨q.a,q.b⟩;rw [w1,w2,show p.a=q.a from z]
  have e:((rows.flatten.filter fun p=>p.b == w).map fun p:T3=>p.a)=((rows.flatten.filter fun p=>p.b == w).map fun p:T3=>(p.a,-p.c)).map (·.1):=by rw [aM]; rfl
  rw [e] at h3;exact DW _ (fun a b h e=>h (by rw [e])) h3
 have e1:E8 (rows.flatten.map sw)=(rows.flatten.filter fun p=>p.b == 1).map fun p:T3=>(p.a,-p.c):=by
  unfold E8;rw [vk,aM];have:((fun p:T3=>p.b == 0)∘sw)=fun p:T3=>p.b == 1:=by
   funext p;show (1 - p.b == 0)=(p.b == 1);by_cases c:p.b=1
   ·rw [c]; rfl
   ·have c2:1 - p.b≠0:=by lia
    rw [beq_eq_false_iff_ne.mpr c,beq_eq_false_iff_ne.mpr c2]
  rw [this]; rfl
 have e2:((E8 rows.flatten).map fun p=>(p.1,-p.2))=(rows.flatten.filter fun p=>p.b == 0).map fun p:T3=>(p.a,-p.c):=by
  unfold E8;rw [aM]; rfl
 rw [e1,e2];refine(List.perm_ext_iff_of_nodup (nd 1) (nd 0)).mpr fun x=>?_;have tr:∀ w:Int,(w=0\/w=1)->x∈((rows.flatten.filter fun p=>p.b == w).map fun p:T3=>(p.a,-p.c))->x∈((rows.flatten.filter fun p=>p.b == 1 - w).map fun p:T3=>(p.a,-p.c)):=fun w hw hx=>by
  obtain⟨p,hp,rfl⟩:=List.mem_map.mp hx;obtain⟨h1,h2⟩:=List.mem_filter.mp hp;have Mi:p.b=w:=by simpa using h2
  exact List.mem_map.mpr ⟨⟨p.a,1 - p.b,p.c⟩,List.mem_filter.mpr ⟨d.AK p h1,by simp [Mi]⟩,rfl⟩
 exact⟨tr 1 (.inr rfl),tr 0 (.inl rfl)⟩
theorem T8{rows:Rows}(d:Dr rows)(g:Fn):brk (rows.map fun r=>r.map sw) g=brk rows (ng g):=by
 have dR:=SJ d;have ef:fr (rows.map fun r=>r.map sw)=cj ra (fr rows):=by
  have:Nv (rows.map fun r=>r.map sw)=(Nv rows).map fun p=>(ra p.1,ra p.2):=by
   unfold Nv JQ;rw [Bo,aM,aM]; rfl
  unfold fr;rw [this];exact CF EJ _
 have pn:(nh (rows.map fun r=>r.map sw)).Perm ((nh rows).map fun p=>(p.1,-p.2)):=by
  refine(rF dR).trans ?_;rw [qO];exact(OC d).trans ((rF d).symm.map _)
 have dm:Dm (fr rows) (((nh rows).map fun p=>(p.1,-p.2)).map (·.1)):=by
  rw [aM];exact CP rows ▸ Kz d
 unfold brk;rw [DR pn (by rw [CP]; exact Kz dR),ef,ON,Qu _ _ _ dm,DS,CQ]
end JF
end K2
end
section
namespace K2
open PySem (Str)
open Enc (enc)
namespace JE
open K2.P K2.J K2.JB
open K2.Y (Po iY pick kY kZ b7 cI eB gG)
open K2.Aa (AL fu k8)
open K2.MM (uP)
noncomputable def Dg(f s:Int):Prop:=0<=f/\f < s
noncomputable def VB:List Int->List Int->Prop
 | [],[]=>True
 | f :: fs,s :: ss=>Dg f s/\VB fs ss
 | _,_=>False
noncomputable def prim:List Int:=[10007,10009,10037,10039,10061,10067,10069,10079,10091,10093]
noncomputable def sH:hV :=
 (b8 (bE (jb (aw (dC (.int 10007)) (aw (dC (.int 10009)) (aw (dC (.int 10037)) (aw (dC (.int 10039)) (aw (dC (.int 10061)) (aw (dC (.int 10067)) (aw (dC (.int 10069)) (aw (dC (.int 10079)) (aw (dC (.int 10091)) (aw (dC (.int 10093)) aQ))))))))))) (aG 2))
 (b8 (bE (br EL (av 0) (dC (.int 2))) (aG 3))
 (b8 (bE (jb aQ) (aG 4))
 (b8 (dN (FE (av 1)) (iH (cy (aG 5) (cy (aG 6) ip))) (fc (fT (br (GR false) (br sR (av 0) (dC (.int 2))) (dC (.int 0)))) (b8 (kA (tS Cq k6 (av 4) (aw (br sR (av 3) (av 6)) aQ)))
 (bE (br EL (av 3) (av 6)) (aG 3))) (kA (tS Cq k6 (av 4) (aw (bu eB (aw (av 0) (aw (br kE (av 2) (av 5)) (aw (av 6) aQ)))) aQ)))))
 (bR (cm (av 4)))))))
noncomputable def jA:jU:=fun ds G Q _=>∃ (cell:Int) (t7:List Int),ds=[.int cell,enc t7]/\(t7.length<=10/\∀ s∈t7,1<=s/\s<=10000)/\∀ fs:List Int,VB fs t7->Q (enc fs) G
theorem C9:∀ {fs ss:List Int} {f s:Int},VB fs ss->Dg f s->VB (fs++[f]) (ss++[s])
 | [],[],_,_,_,k=>⟨k,trivial⟩
 | _ :: _,[],_,_,h,_=>h.elim
 | [],_ :: _,_,_,h,_=>h.elim
 | _ :: _,_ :: _,_,_,h,k=>⟨h.1,C9 h.2 k⟩
theorem IP:∀ {fs ss:List Int},VB fs ss->fs.length=ss.length
 | [],[],_=>rfl
 | _ :: _,[],h=>h.elim
 | [],_ :: _,h=>h.elim
 | _ :: _,_ :: _,h=>by rw [aj,aj,IP h.2]
theorem PJ(xs:List Int):kL 0 (xs.map enc)=(xs.zipIdx 0).map fun p=>D.tup [.int (p.2:Int),.int p.1]:=by
 have:∀ (xs:List Int) (k:Nat),kL k (xs.map enc)=(xs.zipIdx k).map fun p=>D.tup [.int (p.2:Int),.int p.1]:=by
  intro xs;induction xs with
  | nil=>intro k; rfl
  | cons x xs ih =>
   intro k;show D.tup [.int (k:Int),.int x] :: kL (k+1) (xs.map enc)=_;rw [ih (k+1)]; rfl
 exact this xs 0
theorem sL(ds:List D)(G:Gp)(Q:DK)(h:jA ds G Q fun _ _=>False):sH (fun _ _=>False) (ends Q) (ba 7 ds) G:=by
 obtain⟨cell,t7,rfl,⟨hl,hs⟩,q⟩:=h;unfold sH;simp only [↓cJ,bE,jb,aw,dC,aQ,↓aj,↓ax,aG,br,av,ba,↓ao,↓aT,aO,↓aB,↓aP,↓aq,↓ah,↓aa,↓rq,ends];refine⟨by decide,fun p2 f2=>⟨by decide,by decide,by decide,fun p4 f4=>?_⟩⟩;have Y7:p2≠p4:=fun z=>by rw [<-z,ay] at f4; cases f4
 have f4':G p4=none:=(ff.new f2).free f4;refine cM (fun τ G'=>∃ fs:List Int,VB fs t7/\ff G G'/\G' p4=some (.lst (fs.map enc))/\∃ a3 a5 a6,τ=[some (.int cell),some (enc t7),some (.ref p2),a3,some (.ref p4),a5,a6]) ?_ ?_
 ·intro N hN;simp only [dN,FE,av,↓ae,↓aa];refine wZ ?_;rw [PJ];refine cW (xs:=t7.zipIdx 0) (fun pre τ G'=>∃ (fs:List Int) (left:Int) (a5 a6:Option D),VB fs (pre.map (·.1))/\ff G G'/\G' p2=some (.lst (prim.map D.int))/\G' p4=some (.lst (fs.map enc))/\τ=[some (.int cell),some (enc t7),some (.ref p2),some (.int left),some (.ref p4),a5,a6])
   ⟨[],_,_,_,trivial,(ff.new f2).trans (.new f4),by rw [cu Y7,ay]; rfl,ay,rfl⟩ (fun _ _ _ _=>trivial) ?_ ?_
  ·rintro pre x post τ G' N2 e ⟨fs,left,a5,a6,fa,le,g2,g4,rfl⟩ kG;obtain⟨lf,rt,e1,e2,e3⟩:=tX e;have hx:1<=x.1/\x.1<=10000:=hs x.1 (by rw [e1]; simp);have hlf:lf.length < 10:=by have:=congrArg dO e1; simp at this; lia
   simp only [iH,cy,aG,ip,fc,↓cD,br,av,↓aq,↓ah,↓aa,dC,↓kl,↓Et,kA,tS,↓ae,↓nF,aw,aQ,↓iX,bE,↓rq,bu];refine⟨by decide,_,_,.int _,.int _,?_⟩;simp only [↓bF,↓ar,kT,↓if_false];by_cases c:cell % 2=0
   ·have c':(cell % 2 == 0)=true:=by simpa using c
    simp only [c',g4,↓true_and,↓if_true];refine⟨by lia,by rw [ak]; exact Eo (by have:=IP fa; rw [this,e3,ak,List.length_zipIdx]; lia),by lia,by lia,?_⟩;refine kG _ _ ⟨fs++[left % x.1],_,_,_,by rw [aK]; exact C9 fa ⟨oW _ (by lia),lO _ (by lia)⟩,le.put f4',by rw [cu Y7]; exact g2,by rw [ay,aK]; rfl,rfl⟩
   ·have c':(cell % 2 == 0)=false:=by simpa using c
    simp only [c',↓ar,g4,↓true_and,↓if_false];rw [CD,g2];have ea:∃ pr:Int,pU (prim.map D.int) (x.2:Int)=some (.int pr)/\1<=pr/\pr<=10093:=by
     have hk:x.2 < prim.length:=by rw [e2]; exact hlf
     refine⟨prim[x.2],?_,?_⟩
     ·rw [nS _ (by lia) (by rw [ak]; lia)];simp only [cV,kF]
     ·have:∀ y∈prim,1<=y/\y<=10093:=by decide
      exact this _ (cB hk)
    obtain⟨pr,ea,YT,pr2⟩:=ea;simp only [ea];refine⟨_,_,_,rfl,⟨by lia,by lia⟩,?_⟩;simp only [g4];refine⟨by rw [ak]; exact Eo (by have:=IP fa; rw [this,e3,ak,List.length_zipIdx]; lia),?_⟩;refine kG _ _ ⟨fs++[pick cell pr x.1],_,_,_,by rw [aK]; exact C9 fa ⟨kY _ _ (by lia),kZ _ _ (by lia)⟩,le.put f4',by rw [cu Y7]; exact g2,by rw [ay,aK]; rfl,rfl⟩
  ·rintro τ G' ⟨fs,left,a5,a6,fa,le,g2,g4,rfl⟩;rw [List.zipIdx_map_fst] at fa;exact hN _ _ ⟨fs,fa,le,g4,_,_,_,rfl⟩
 ·rintro _ G' ⟨fs,fa,le,g4,a3,a5,a6,rfl⟩;simp only [bR,cm,av,↓ae,↓aa];exact ig le f4' g4 (q fs fa)
section
variable (a b c d e f:D)
theorem x0:pU [a,b,c,d,e,f] 0=some a:=rfl
theorem x1:pU [a,b,c,d,e,f] 1=some b:=rfl
theorem x2:pU [a,b,c,d,e,f] (2+2 * 0)=some c:=rfl
theorem x3:pU [a,b,c,d,e,f] (3+2 * 0)=some d:=rfl
theorem x4:pU [a,b,c,d,e,f] (2+2 * 1)=some e:=rfl
theorem x5:pU [a,b,c,d,e,f] (3+2 * 1)=some f:=rfl
end
noncomputable def qC:hV :=
 (b8 (Gh 3 (bE (fx 1 [] (wY (av 1)) (aG 0) none (jb aQ)) (aG 3)))
 (b8 (bE (jb aQ) (aG 4))
 (b8 (dN (jS (av 0)) (aG 5) (b8 (bE (bu jA (aw (cm (av 5)) (aw (cm (jb (aw (av 2) (aw (dC (.int 2)) (aw (av 1) (aw (dC (.int 10000)) (aw (av 1) (aw (dC (.int 10000)) aQ)))))))) aQ))) (aG 6))
 (b8 (bE (bu iR (aw (av 4) (aw (br jP (dC (.int 1)) (br kE (av 6) (dC (.int 0)))) aQ))) (aG 7))
 (b8 (kA (tS Cq k6 (av 4) (aw (av 7) aQ)))
 (dN (wY (dC (.int 2))) (aG 8) (bE (cm (bu mN (aw (cm (av 3)) (aw (cm (br kE (av 6) (br jP (dC (.int 2)) (br LA (dC (.int 2)) (av 8))))) (aw (cm (br kE (av 6) (br jP (dC (.int 3)) (br LA (dC (.int 2)) (av 8))))) (aw (cm (jb (aw (gi (aw (av 7) (aw (av 8) (aw (br N1 (dC (.int 1)) (br LA (dC (.int 2)) (br kE (av 6) (dC (.int 1))))) aQ)))) aQ))) aQ)))))) (aG 3)))))))
 (bR (cm (av 3))))))
noncomputable def fk:jU:=JB.fk
theorem qZ(ds:List D)(G:Gp)(Q:DK)(h:fk ds G Q fun _ _=>False):qC (fun _ _=>False) (ends Q) (ba 9 ds) G:=by
 obtain⟨d,cells,S,sp,rfl,hd,⟨Mh,⟨hS1,hS3⟩,sp1,sp2⟩,q⟩:=h;unfold qC;simp only [ends,ba,ao,aT,aj,ax,aO,aB,aP,yq,k8,bE,fx,aG,aq,ah,ae,aa,jb,aQ,mX,av,kN,cV];have WW:(-(2 ^ 62):Int)<=(S:Int)/\(S:Int) < 2 ^ 62:=by lia
 refine⟨WW.1,WW.2,Au (by simp [gM]; lia),?_⟩;refine Se (fun pre acc τ G'=>(∃ a,τ=[a])/\∃ as:List Nat,acc=as.map D.ref/\AL G G' as (aO pre.length [])) ⟨⟨_,rfl⟩,[],rfl,.nil G⟩ (fun _ _ _ _ _=>trivial) ?_ ?_
 ·rintro pre x post acc τ G' N e ⟨⟨a,rfl⟩,as,rfl,al⟩ hN;simp only [aG,jb,aQ,ax,ah];refine⟨by decide,fun p hp=>hN _ _ _ ⟨⟨_,rfl⟩,as++[p],by simp,?_⟩⟩;rw [aE,cb,QQ];exact al.push hp []
 rintro acc τ G' ⟨⟨a,rfl⟩,as,rfl,al⟩ p3 f3;refine(al.top f3).fz ?_;have e3:D.cY ((aO (gM 0 S).length ([]:List D)).map D.cY)=enc (aO S ([]:List T3)):=by
  rw [fu]; simp [gM]
 rw [e3];clear al f3 p3 as G' a e3;refine⟨by decide,fun p6 f6=>?_⟩;simp only [dN];simp only [dM,av,aa];refine uP hd (.new f6) fun ok cn=>?_;refine cW (xs:=cells) (f:=D.int) (fun pre τ G'=>ff G G'/\∃ (rows:Rows) (ns:List Int) (a1 a2 a3 a4:Option D),(Dr rows/\rows.length=S/\rows.flatten.length=2 * pre.length/\ns.length=pre.length/\aaK rows ns)/\G' p6=some (.lst (ns.map D.int)) /\
  τ=[some d,some (.int S),some (.int sp),some (enc rows),some (.ref p6),a1,a2,a3,a4]) ⟨.new f6,_,[],_,_,_,_,⟨Dr.nil hS3,by simp,by simp,rfl,fun p hp=>by simp at hp⟩,ay,rfl⟩ (fun _ _ _ h=>cn _ h.1) ?_ ?_
 ·rintro pre x post τ G' N2 e ⟨le,rows,ns,a1,a2,a3,a4,⟨dr,hlen,Z4,Xd,WZ⟩,g6',rfl⟩ kG;have hlp:=gG e;simp only [aG,aq,ah,yq,bE,bu,aw,cm,av,ae,aa,jb,dC,aQ,aj,ax,br,kA,tS,nF,iX];refine cS ⟨by decide,fun p7 f7=>?_⟩;refine ig (xs:=([sp,2,(S:Int),10000,(S:Int),10000]:List Int)) (.new f7) f7 ay ?_;refine⟨_,_,rfl,⟨by simp,fun s hs=>by simp only [bD,cP,or_false] at hs; lia⟩,fun fs fa=>?_⟩
  match fs,fa with
  | [d0,d1,d2,d3,d4,d5],⟨⟨a0,b0⟩,⟨a1',b1⟩,⟨a2',b2⟩,⟨a3',b3⟩,⟨a4',b4⟩,⟨a5',b5⟩,_⟩ =>
  have e6:(enc [d0,d1,d2,d3,d4,d5]:D)=.cY [.int d0,.int d1,.int d2,.int d3,.int d4,.int d5]:=rfl;rw [e6];simp only [mR,x0,fF];refine⟨.ref p6,ns,_,rfl,IsL.ref g6',⟨by lia,by lia,by lia⟩,fun m m1 m2 m3=>?_⟩;simp only [g6',true_and];refine⟨Eo (by rw [ak]; lia),?_⟩;have LY:ff G (eA G' p6 (.lst (ns.map D.int++[.int m]))):=le.put f6;have g62:(eA G' p6 (.lst (ns.map D.int++[.int m]))) p6=some (.lst (ns.map D.int++[.int m])):=ay;generalize eA G' p6 (.lst (ns.map D.int++[.int m]))=G2 at LY g62;have hh:(1 - 2 * d1)=1\/(1 - 2 * d1)=-1:=by lia
  simp only [dN];simp only [mX,dC,kN];refine⟨by decide,by decide,?_⟩;have er:gM 0 (Int.toNat 2)=([0,1]:List Int).map D.int:=rfl;rw [er];have rl:=yr dr;have fw:=dr.BN;obtain⟨i,rfl⟩:∃ i:Nat,d2=(i:Int):=⟨d2.toNat,by lia⟩;obtain⟨j,rfl⟩:∃ i:Nat,d4=(i:Int):=⟨d4.toNat,by lia⟩;have hmf:∀ p∈rows.flatten,p.a≠m:=fun p hp z=>m1 (z ▸ WZ p hp);refine cW (xs:=([0,1]:List Int)) (f:=D.int) (fun vM τ G3=>G2=G3/\∃ (R:Rows) (b1:Option D),((vM=[]/\R=rows)\/(∃ (i:Nat) (r:List T3) (k:Nat),vM=[0]/\i < S/\rows[i]?=some r/\R=rows.set i (r.take k++[⟨m,0,1 - 2 * d1⟩]++r.drop k))\/(vM=[0,1]/\Dr R/\R.length=S/\R.flatten.Perm (⟨m,1,1 - 2 * d1⟩ :: ⟨m,0,1 - 2 * d1⟩ :: rows.flatten))) /\
   τ=[some d,some (.int S),some (.int sp),some (enc R),some (.ref p6),some (.int x),some (.cY [.int d0,.int d1,.int i,.int d3,.int j,.int d5]),some (.int m),b1]) ⟨rfl,rows,_,.inl ⟨rfl,rfl⟩,rfl⟩ (fun _ _ _ _=>trivial) ?_ ?_
  ·rintro vM w Of τ G3 N3 e2 ⟨rfl,R,b1,J,rfl⟩ w4;have Vn:(vM=[]/\w=0)\/(vM=[0]/\w=1):=by
    cases vM with
    | nil=>cases e2; exact .inl ⟨rfl,rfl⟩
    | cons u vM =>
     cases vM with
     | nil=>cases e2; exact .inr ⟨rfl,rfl⟩
     | cons v vM =>
      have:=congrArg dO e2;simp at this
   rcases Vn with ⟨rfl,rfl⟩ | ⟨rfl,rfl⟩
   ·have eR:R=rows:=by
     rcases J with ⟨_,z⟩ | ⟨_,_,_,z,_⟩ | ⟨z,_⟩
     ·exact z
     ·cases z
     ·cases z
    subst eR;simp only [aG,bE,cm,bu,aw,av,aq,ah,ae,aa,br,dC,jb,gi,aQ,aj,ax,mR,x1,uj,qG,fF,x3,x2];refine cS ⟨.inl ⟨by decide,by decide⟩,cS ⟨.inl ⟨by decide,by decide⟩,cS ?_⟩⟩;refine⟨.inl ⟨by decide,by decide⟩,by decide,by decide,fun pa fa=>?_⟩;refine ig (xs:=[(⟨m,0,1 - 2 * d1⟩:T3)]) (.new fa) fa ay ?_;refine Ob (rows:=R) (more:=[(⟨m,0,1 - 2 * d1⟩:T3)]) ⟨by rw [hlen]; lia,by rw [hlen]; lia,fun r hr=>by have:=rl r hr; lia,by simp⟩ fun r k hr hk ek=>cS ?_;exact w4 _ _ ⟨rfl,_,_,.inr (.inl ⟨i,r,k,rfl,by lia,hr,rfl⟩),rfl⟩
   ·obtain⟨i',r,k,hi,hr,rfl⟩:∃ (i:Nat) (r:List T3) (k:Nat),i < S/\rows[i]?=some r/\R=rows.set i (r.take k++[⟨m,0,1 - 2 * d1⟩]++r.drop k):=by
     rcases J with ⟨z,_⟩ | ⟨i,r,k,_,z⟩ | ⟨z,_⟩
     ·cases z
     ·exact⟨i,r,k,z⟩
     ·cases z
    simp only [aG,bE,cm,bu,aw,av,aq,ah,ae,aa,br,dC,jb,gi,aQ,aj,ax,mR,x1,uj,qG,fF,x5,x4];refine cS ⟨.inl ⟨by decide,by decide⟩,cS ⟨.inl ⟨by decide,by decide⟩,cS ?_⟩⟩;refine⟨.inl ⟨by decide,by decide⟩,by decide,by decide,fun pa fa=>?_⟩;refine ig (xs:=[(⟨m,1,1 - 2 * d1⟩:T3)]) (.new fa) fa ay ?_;refine Ob (more:=[(⟨m,1,1 - 2 * d1⟩:T3)]) ⟨by rw [eE,hlen]; lia,by rw [eE,hlen]; lia,fun r2 M0=>?_,by simp⟩ fun r' k' Pf Ye ek'=>cS ?_
    ·rcases JA M0 with z | z
     ·have:=rl r2 z; lia
     ·have:=rl r (bx hr);rw [z,aE,aE,cb,eL,cq]; lia
    have pf:=(FC (k:=k') (more:=[⟨m,1,1 - 2 * d1⟩]) Pf).trans ((FC (k:=k) (more:=[⟨m,0,1 - 2 * d1⟩]) hr).append_left _);have dr2:=K2.JB.Dr.two dr hmf hh pf (by lia) (by rw [eE,eE]; lia);exact w4 _ _ ⟨rfl,_,_,.inr (.inr ⟨rfl,dr2,by rw [eE,eE]; exact hlen,pf⟩),rfl⟩
  ·rintro τ G3 ⟨rfl,R,b1,J,rfl⟩;obtain⟨drn,ln,pf⟩:Dr R/\R.length=S/\R.flatten.Perm (⟨m,1,1 - 2 * d1⟩ :: ⟨m,0,1 - 2 * d1⟩ :: rows.flatten):=by
    rcases J with ⟨z,_⟩ | ⟨_,_,_,z,_⟩ | ⟨_,z⟩
    ·cases z
    ·cases z
    ·exact z
   refine kG _ _ ⟨LY,R,ns++[m],_,_,_,_,⟨drn,ln,by rw [pf.length_eq,aj,aj,aE,cb]; lia,by rw [aE,aE,Xd]; rfl,fun p hp=>?_⟩,?_,rfl⟩
   ·rcases List.mem_cons.mp (pf.mem_iff.mp hp) with rfl | hp
    ·simp
    ·rcases List.mem_cons.mp hp with rfl | hp
     ·simp
     ·exact nZ _ (WZ p hp)
   ·rw [g62,aK]; rfl
 ·rintro τ G' ⟨le,rows,ns,a1,a2,a3,a4,⟨dr,hlen,Z4,Xd,WZ⟩,g6',rfl⟩;simp only [bR,cm,av,ae,aa];exact xN le (q rows dr hlen Z4)
end JE
namespace GZ
open K2.P
variable {rows:Rows}
end GZ
namespace GZ
open K2.P
variable {rows:Rows}
noncomputable def z3:T3:=⟨0,0,0⟩
noncomputable def prv(r:List T3)(k:Nat):T3:=if k=0 then r.getD (r.length - 1) z3 else r.getD (k - 1) z3
noncomputable def YT(r:List T3)(ks:List Nat):List (T3×T3):=ks.map fun k=>(prv r k,r.getD k z3)
noncomputable def YS(rows:Rows):List (T3×T3):=rows.flatMap fun r=>YT r (ez r.length)
end GZ
namespace MM
open K2.P K2.T
open K2.GZ (prv YT YS z3)
open K2.Aa (k8)
open K2.Y (gG)
variable {rows:Rows}
noncomputable def ks(rows:Rows):List T2:=(YS rows).map fun p=>p.2.s
end MM
namespace MM
open K2.P K2.T
open K2.Aa (k8 fu dS rQ)
open K2.Y (iY pick kY kZ b7 cI eB gG)
variable {rows:Rows}
end MM
namespace JE
open K2.P K2.J K2.JB
open K2.Y (Po iY pick kY kZ b7 cI eB gG)
open K2.Aa (AL fu k8)
open K2.MM (uP)
theorem Xn{α:Type} [DecidableEq α] [Enc α]{xs:List α}{i:Nat}{r:α}(h:xs[i]?=some r):pU (xs.map enc) (i:Int)=some (enc r):=by
 have hi:=(List.getElem?_eq_some_iff.mp h).1;rw [nS _ (by lia) (by rw [ak]; lia)];simp only [cV,kF];have:=(List.getElem?_eq_some_iff.mp h).2;rw [this]
theorem jq{α:Type} [DecidableEq α] [Enc α]{xs:List α}{i:Nat}{r:α}{G:Gp}{Q:DK}(h:xs[i]?=some r)(q:Q (enc r) G):kE (enc xs) (.int i) G Q:=by
 show kE (.cY (xs.map enc)) (.int i) G Q;rw [mR,Xn h];exact q
theorem xR{α:Type} [DecidableEq α] [Enc α]{r:List α}{G:Gp}{Q:DK}(q:Q (.int (r.length:Int)) G):tK [enc r] G Q:=by
 show tK [.cY (r.map enc)] G Q;rw [zS,ak]; exact q
theorem ub(n:Nat):gM 0 n=(ez n).map fun k:Nat=>D.int (k:Int):=by
 rw [HK,aM]; rfl
theorem ua{n:Nat}{pre post:List Nat}{x:Nat}(e:ez n=pre++x :: post):x=pre.length/\x < n:=by
 have h1:=congrArg (fun l=>l[pre.length]?) e;simp only [bG (aC _),Nat.sub_self,aa] at h1;have hl:pre.length < n:=by have:=congrArg dO e; simp at this; lia
 rw [ai (by rw [mz]; exact hl),lI] at h1;injection h1 with h1
 exact⟨h1.symm,by lia⟩
end JE
namespace JE
open K2.P K2.J K2.JB
open K2.Y (Po iY pick kY kZ b7 cI eB gG)
open K2.Aa (AL fu k8)
open K2.MM (uP)
theorem NM:∀ {L:List T3},(L.map T3.s).Nodup->∀ {p q:T3},p∈L->q∈L->p.s=q.s->p=q
 | x :: L,nd,p,q,hp,hq,e=>by
  rw [ao,a9] at nd;rcases List.mem_cons.mp hp with e1 | h1
  ·rcases List.mem_cons.mp hq with e2 | h2
   ·rw [e1,e2]
   ·exact absurd (List.mem_map.mpr ⟨q,h2,by rw [<-e,e1]⟩) nd.1
  ·rcases List.mem_cons.mp hq with e2 | h2
   ·exact absurd (List.mem_map.mpr ⟨p,h1,by rw [e,e2]⟩) nd.1
   ·exact NM nd.2 h1 h2 e
end JE
end K2
end
section
namespace K2
namespace Cd
noncomputable def ab(c:Int):Int:=if c < 0 then -c else c
variable {α:Type}
end Cd
end K2
end
section
namespace K2
open PySem (Str)
open Enc (enc)
namespace Cd
open K2.P
noncomputable def Ok(n:Int)(cs:List Int):Prop:=n<=3/\cs.length<=40/\∀ c∈cs,1<=ab c/\ab c < n
end Cd
namespace Cd
open K2.P
noncomputable def Good(n:Int)(cs:List Int):Prop:=(1<=n/\n<=3)/\cs.length<=12/\∀ c∈cs,1<=ab c/\ab c < n
noncomputable instance (n:Int) (cs:List Int):Decidable (Good n cs):=by unfold Good; exact inferInstance
end Cd
namespace Cd
open K2.P
noncomputable def iG:List T3->T3
 | []=>⟨0,0,0⟩
 | a :: r=>r.foldl (fun m x=>if aU.lt x m=true then x else m) a
theorem gV{r:List T3}(h:r≠[]):iG r∈r:=by
 cases r with
 | nil=>exact absurd rfl h
 | cons a r=>exact(jT r a).1
theorem kn{r:List T3}{y:T3}(hy:y∈r):zg (iG r) y=true:=by
 cases r with
 | nil=>cases hy
 | cons a r=>exact(jT r a).2 y hy
noncomputable def cQ(r:List T3):List T3:=r.drop (r.idxOf (iG r))++r.take (r.idxOf (iG r))
theorem Gs{x:D}{G:Gp}{r:List T3}{Q:DK}(hi:itemsOf x G=some (r.map enc))(oA:r≠[])(q:Q (enc (iG r)) G):P6 [x] G Q :=
 DQ.mn hi oA fun m hm hl=>by
  have:m=iG r:=zf _ _ (hl _ (gV oA)) (kn hm);rw [this]; exact q
theorem yZ{x:D}{G:Gp}{r:List T3}{Q:DK}(ht:Cq x G)(hi:itemsOf x G=some (r.map enc))(oA:r≠[])(q:Q (.int ((r.idxOf (iG r):Nat):Int)) G):CS x [enc (iG r)] G Q:=by
 refine⟨ht,r.map enc,enc (iG r),r.map enc,hi,Enc.sn G 8 _ (by decide),sQ G 7 (by decide) r,?_⟩;have e:(r.map enc).findIdx? (ij · (enc (iG r)))=some (r.idxOf (iG r)):=by
  have hf:(fun y:T3=>ij (enc y) (enc (iG r)))=fun y=>y == iG r:=by
   funext y;rw [Enc.eqv];by_cases h:y=iG r <;> simp [h]
  rw [List.findIdx?_map];show List.findIdx? (fun y=>ij (enc y) (enc (iG r))) r=_;rw [hf];have hm:=gV oA;rw [List.idxOf];rw [List.findIdx?_eq_some_iff_findIdx_eq];exact⟨List.findIdx_lt_length.mpr ⟨_,hm,by simp⟩,rfl⟩
 rw [e]; exact q
end Cd
namespace K3
open K2.P K2.GZ
inductive Rl (G:Gp):List D->Rows->Prop
 | nil:Rl G [] []
 | cons {x:D} {r:List T3} {xs:List D} {rs:Rows}:IsL G x (r.map enc)->Rl G xs rs->Rl G (x :: xs) (r :: rs)
theorem NU{G':Gp}:∀ (as:List Nat) (rs:Rows),as.length=rs.length->(∀ (i a:Nat) (r:List T3),as[i]?=some a->rs[i]?=some r->G' a=some (.lst (r.map enc)))->Rl G' (as.map D.ref) rs
 | [],[],_,_=>.nil
 | [],_ :: _,h,_=>by cases h
 | _ :: _,[],h,_=>by cases h
 | a :: as,r :: rs,h,tm=>.cons (IsL.ref (tm 0 a r rfl rfl)) (NU as rs (by simpa using h) fun i b s h1 h2=>tm (i+1) b s h1 h2)
end K3
namespace K3
open K2.P K2.GZ
noncomputable def ins(r:List T3)(k:Nat)(p:T3):List T3:=r.take k++p :: r.drop k
end K3
namespace M5
open K2.P
open K2.Cd (cQ iG)
noncomputable abbrev M:=List (Int×Int)
noncomputable def rn1(m:M)(t:T3):T3:=⟨(cz m t.a).getD 0,t.b,t.c⟩
noncomputable def ren(m:M)(r:List T3):List T3:=r.map (rn1 m)
noncomputable def Ez(r:List T3)(k:Nat):List T3:=r.drop k++r.take k
noncomputable def Zb(m:M)(n:Int):M:=if (cz m n).isSome=true then m else eU m n ((m.length:Int)+1)
noncomputable def met(L:List T3):M:=L.foldl (fun m t=>Zb m t.a) []
end M5
namespace M5
open K2.P
open K2.Cd (cQ iG gV kn)
theorem NR(r:List T3)(k:Nat):(Ez r k).Perm r:=by
 unfold Ez;exact List.perm_append_comm.trans (by rw [fI])
theorem t8{r a b:List T3}{x:T3}(hx:x=iG r)(e:r=a++x :: b)(hn:x∉a):cQ r=x :: b++a:=by
 have hi:r.idxOf (iG r)=a.length:=by
  rw [<-hx,e,List.idxOf_append,if_neg hn,List.idxOf_cons_self]; simp
 unfold cQ;rw [hi,e,JC,List.take_left]
theorem LV{r r':List T3}(p:r'.Perm r)(oA:r≠[]):iG r'=iG r:=by
 have ZS:r'≠[]:=fun z=>oA (by rw [z] at p; exact p.symm.eq_nil);exact zf _ _ (kn (p.mem_iff.mpr (gV oA))) (kn (p.mem_iff.mp (gV ZS)))
theorem Eu{r:List T3}(hn:(r.map T3.s).Nodup)(k:Nat):cQ (Ez r k)=cQ r:=by
 by_cases oA:r=[]
 ·subst oA; unfold Ez; simp
 have nd:r.Nodup:=by
  refine List.Pairwise.imp ?_ (List.pairwise_map.mp hn);intro a b h e;exact h (congrArg _ e)
 have hl:=LV (NR r k) oA;obtain⟨a,b,e⟩:=pZ (gV oA);generalize hx:iG r=x at e;rw [hx] at hl;have W0:(a++x :: b).Nodup:=by rw [<-e]; exact nd
 rw [cA] at W0;have ha:x∉a:=fun z=>W0.2.2 x z x cp rfl;have hb:x∉b:=(List.nodup_cons.mp W0.2.1).1;rw [t8 hx.symm e ha];by_cases hk:k<=a.length
 ·have e2:Ez r k=a.drop k++x :: (b++a.take k):=by
   unfold Ez;rw [e,List.drop_append_of_le_length hk,DT hk]; simp
  rw [t8 hl.symm e2 fun z=>ha (QR z)];simp only [aB,cU,fI]
 ·obtain⟨j,rfl⟩:∃ j,k=a.length+(j+1):=⟨k - a.length - 1,by lia⟩;have e2:Ez r (a.length+(j+1))=(b.drop j++a)++x :: b.take j:=by
   unfold Ez;rw [e,List.drop_length_add_append,List.take_length_add_append,List.drop_succ_cons,List.take_succ_cons]; simp
  rw [t8 hl.symm e2 fun z=>(List.mem_append.mp z).elim (fun z=>hb (QR z)) ha];simp only [aB,<-cU,fI]
noncomputable def sm(rows:Rows):Rows:=(rows.map (ren (met rows.flatten))).map cQ
end M5
namespace M5
open K2.P
open K2.Cd (cQ iG gV kn)
noncomputable def tp(c:Rows):D:=.tup [enc (sm c),.j8 (bz (met c.flatten))]
end M5
namespace M5
open K2.P
open K2.Cd (cQ iG gV kn)
open K2.GZ (z3 HR HR.fz)
theorem Rb{r:List T3}{k:Nat}{G:Gp}{Q:DK}{d:D}(hd:IsL G d (r.map enc))(hk:k<=r.length)(hl:r.length<=1000)(q:∀ p G1,ff G G1->G p=none->G1 p=some (.lst ((Ez r k).map enc))->Q (.ref p) G1) :
  N6 d (some (k:Int)) none G fun x G1=>N6 d none (some (k:Int)) G1 fun y G2=>jP x y G2 Q:=by
 refine vH hd ?_;rw [nP,u3 r k hk];intro p hp;refine vH (hd.mono (.new hp)) ?_;rw [nP,Dt r k hk];intro p2 qe;have ZR:p≠p2:=fun z=>by rw [<-z,ay] at qe; cases qe
 have g1:eA (eA G p (.lst ((r.drop k).map enc))) p2 (.lst ((r.take k).map enc)) p=some (.lst ((r.drop k).map enc)):=by rw [cu ZR,ay]
 have gl:ff G (eA (eA G p (.lst ((r.drop k).map enc))) p2 (.lst ((r.take k).map enc))):=(ff.new hp).trans (.new qe);show DJ _ _ _ _;unfold DJ;rw [oM (IsL.ref (ds:=(r.drop k).map enc) g1),oM (IsL.ref (ds:=(r.take k).map enc) ay)];refine⟨Au (by simp; lia),fun p3 Ti=>?_⟩;refine q _ _ (gl.trans (.new Ti)) (gl.free Ti) ?_;rw [ay];unfold Ez;rw [aK]
end M5
namespace M5
open K2.P
open K2.Cd (cQ iG gV kn)
variable {rows c:Rows}
end M5
namespace Jp
open K2.P
open K2.M5 (M met ren rn1 Ez sm)
open K2.Cd (cQ iG Gs yZ)
open K2.GZ (HR HR.fz)
open K2.K3 (Rl NU)
theorem ku{G G1 G2:Gp}{p:Nat}{as:List Nat}{rs:Rows}(h:HR G G1 p as rs)(l:ff G1 G2):HR G G2 p as rs :=
 ⟨h.le.trans l,h.fp,l _ _ h.gp,h.np,h.nd,h.fr,h.len,fun i a r h1 h2=>l _ _ (h.at' i a r h1 h2)⟩
theorem V9{G:Gp}:∀ {ds:List D} {rs:Rows},Rl G ds rs->Sn G 8 (.cY ds) (.cY (rs.map enc)):=by
 intro ds rs h;induction h with
 | nil=>exact .EA
 | cons hx _ ih =>
  refine .yE ?_ ih;rcases hx with rfl | ⟨a,rfl,e⟩
  ·exact sQ G 6 (by decide) _
  ·exact .ref e (sQ G 6 (by decide) _)
theorem Wa{G G1:Gp}{p:Nat}{as:List Nat}{rs:Rows}(h:HR G G1 p as rs):Sn G1 8 (.ref p) (enc rs):=.ref h.gp (V9 (NU as rs h.len h.at'))
noncomputable def Bi:hV :=
 (b8 (fc (mw (fT (av 0))) (bR (cm (jb aQ))) cN)
 (b8 (bE (tS Cq CS (av 0) (aw (wa P6 (aw (av 0) aQ)) aQ)) (aG 1))
 (bR (cm (br jP (zK (av 0) (lC (av 1)) fM) (zK (av 0) fM (lC (av 1))))))))
noncomputable def oE:jU:=fun ds G Q _=>∃ r:List T3,ds=[enc r]/\r.length<=1000/\∀ p,G p=none->Q (.ref p) (eA G p (.lst ((cQ r).map enc)))
theorem Ca(ds:List D)(G:Gp)(Q:DK)(h:oE ds G Q fun _ _=>False):Bi (fun _ _=>False) (ends Q) (ba 2 ds) G:=by
 obtain⟨r,rfl,hl,q⟩:=h;unfold Bi;refine cM (fun τ G'=>G=G'/\r≠[]/\τ=[some (enc r),none]) ?_ ?_
 ·intro N hN;simp only [fc,mw,ba,ao,aT,aj,ax,aO,aB,aP,bR,cm,jb,aQ,ends,cN,cD,av,aa];cases r with
  | nil=>exact⟨by decide,fun p hp=>C4 (.new hp) hp ay (q p hp)⟩
  | cons a t=>exact hN _ _ ⟨rfl,by simp,rfl⟩
 ·rintro _ _ ⟨rfl,oA,rfl⟩;simp only [ends,cJ,bE,tS,av,aa,aw,wa,aQ,aG,bR,cm,br,zK,aq,ah,fM,kz,ae];refine⟨trivial,Gs rfl oA (yZ trivial rfl oA ?_)⟩;have hkl:r.idxOf (iG r)<=r.length:=List.idxOf_le_length;refine M5.Rb (IsL.enc r) hkl hl fun p G1 l f g=>?_;exact C4 l f g (q p f)
noncomputable def qA:hV :=
 (bR (cm (fx 1 [] (jS (av 0)) (aG 0) none (bu oE (aw (av 0) aQ)))))
noncomputable def fj:jU:=fun ds G Q _=>∃ rows:Rows,ds=[enc rows]/\(rows.length<=1000/\∀ r∈rows,r.length<=1000)/\∀ p as G',HR G G' p as (rows.map cQ)->Q (.ref p) G'
theorem qW(ds:List D)(G:Gp)(Q:DK)(h:fj ds G Q fun _ _=>False):qA (fun _ _=>False) (ends Q) (ba 1 ds) G:=by
 obtain⟨rows,rfl,⟨hl,hr⟩,q⟩:=h;unfold qA;simp only [bR,cm,fx,ba,ao,aT,aj,ax,aB,aP,ends,dM,av,aa];refine fh ⟨Au (by rw [ak]; exact hl),?_⟩;refine gH (xs:=rows) (fun pre acc τ G'=>(∃ a,τ=[a])/\∃ bs:List Nat,acc=bs.map D.ref/\bs.length=pre.length/\bs.Nodup/\(∀ a∈bs,G a=none)/\ff G G'/\∀ (i a:Nat) (r:List T3),bs[i]?=some a->pre[i]?=some r->G' a=some (.lst ((cQ r).map enc))) ⟨⟨_,rfl⟩,[],rfl,rfl,cf,(fun a h=>by cases h),.refl _,fun i a r h=>by simp at h⟩ (fun _ _ _ _ _=>trivial) ?_ ?_
 ·rintro pre r post acc τ G' N e ⟨⟨a,rfl⟩,bs,rfl,hl,nd,fr,le,tm⟩ hN;simp only [aG,bu,aw,av,ah,aa,aQ];refine⟨r,rfl,hr r (by rw [e]; simp),fun p hp=>?_⟩;have hnb:p∉bs:=fun z=>by
   obtain⟨i,hi⟩:=fe z;have h1:i < pre.length:=by rw [<-hl]; exact(List.getElem?_eq_some_iff.mp hi).1
   rw [tm i p pre[i] hi (ai h1)] at hp; cases hp
  refine hN _ _ _ ⟨⟨_,rfl⟩,bs++[p],by simp,by simp [hl],?_,?_,le.trans (.new hp),?_⟩
  ·rw [cA];refine⟨nd,by simp,fun a h b hb e=>?_⟩;rw [bL] at hb;subst hb e;exact hnb h
  ·intro a h0;rcases List.mem_append.mp h0 with h | h
   ·exact fr a h
   ·rw [bL] at h; subst h; exact le.free hp
  ·intro i b s h1 h2;by_cases hi:i < bs.length
   ·rw [bS hi] at h1;rw [bS (by lia)] at h2;have:b≠p:=by rintro rfl; exact hnb (bx h1)
    rw [cu this];exact tm i b s h1 h2
   ·rw [bG (by lia)] at h1 h2;have i0:i - bs.length=0:=by have:=(List.getElem?_eq_some_iff.mp h1).1; simp at this; lia
    rw [i0] at h1;rw [<-hl,i0] at h2;simp at h1 h2;subst h1 h2;exact ay
 ·rintro acc τ G5 ⟨⟨a',rfl⟩,bs,rfl,hl,nd,fr,le,tm⟩ p3 Ti;refine cS (q p3 bs _ ⟨le.trans (.new Ti),le.free Ti,ay,fun z=>?_,nd,fr,by rw [ak]; exact hl,fun i b r h1 h2=>?_⟩)
  ·obtain⟨i,hi⟩:=fe z;have h1:i < rows.length:=by rw [<-hl]; exact(List.getElem?_eq_some_iff.mp hi).1
   rw [tm i p3 rows[i] hi (ai h1)] at Ti; cases Ti
  ·rw [bq] at h2;obtain⟨r',Pf,rfl⟩:=Option.map_eq_some_iff.mp h2;exact(ff.new Ti) _ _ (tm i b r' h1 Pf)
end Jp
namespace JF
open K2.P K2.J K2.JB
open K2.Cd (cQ iG gV kn)
open K2.JE (jq xR ub ua NM)
theorem Zd{p q:T3}(h:aU.lt p.s q.s=true):aU.lt p q=true:=by
 obtain⟨a,b,c⟩:=p;obtain⟨a',b',c'⟩:=q;have h':qc (fun a b=>decide (a < b)) [a,b] [a',b']=true:=h;show qc (fun a b=>decide (a < b)) [a,b,c] [a',b',c']=true;simp only [qc] at h' ⊢
 grind
theorem t8{r:List T3}{k:Nat}(nd:(r.map T3.s).Nodup)(hk:k < r.length)(h:∀ j (hj:j < r.length),aU.lt r[j].s r[k].s=false):k=r.idxOf (iG r):=by
 have oA:r≠[]:=by intro z; rw [z] at hk; cases hk
 have hm:=gV oA;obtain⟨j,hj,ej⟩:=eS hm;have le1:aU.lt r[k] (iG r)=false:=by
  have:=kn (cB hk);unfold zg at this;simpa using this
 have e:(iG r).s=r[k].s:=by
  refine aU.nv _ _ (by rw [<-ej]; exact h j hj) ?_;cases c:aU.lt r[k].s (iG r).s with
  | false=>rfl
  | true=>rw [Zd c] at le1; cases le1
 have e2:iG r=r[k]:=NM nd hm (cB hk) e;rw [e2];have nr:r.Nodup:=DW _ (fun a b h z=>h (by rw [z])) nd;have hi:=List.idxOf_lt_length_of_mem (cB hk);have e3:r[r.idxOf r[k]]=r[k]:=List.getElem_idxOf hi;have pw:=List.pairwise_iff_getElem.mp nr;rcases Nat.lt_trichotomy (r.idxOf r[k]) k with c | c | c
 ·exact absurd e3 (pw _ _ hi hk c)
 ·exact c.symm
 ·exact absurd e3.symm (pw _ _ hk hi c)
noncomputable def sF:hV :=
 (b8 (fc (fT (br (GR false) (av 0) (jb aQ))) (bR (cm (jb aQ))) cN)
 (b8 (bE (dC (.int 0)) (aG 1))
 (b8 (dN (wY (wa tK (aw (av 0) aQ))) (aG 2) (fc (fT (br Ur (gi (aw (br kE (br kE (av 0) (av 2)) (dC (.int 0))) (aw (br kE (br kE (av 0) (av 2)) (dC (.int 1))) aQ))) (gi (aw (br kE (br kE (av 0) (av 1)) (dC (.int 0))) (aw (br kE (br kE (av 0) (av 1)) (dC (.int 1))) aQ))))) (bE (av 2) (aG 1)) cN))
 (bR (cm (br jP (zK (av 0) (lC (av 1)) fM) (zK (av 0) fM (lC (av 1)))))))))
noncomputable def iA:jU:=fun ds G Q _=>∃ r:List T3,ds=[enc r]/\(r.length<=1000/\(r.map T3.s).Nodup)/\Q (enc (cQ r)) G
theorem A2(ds:List D)(G:Gp)(Q:DK)(h:iA ds G Q fun _ _=>False):sF (fun _ _=>False) (ends Q) (ba 3 ds) G:=by
 obtain⟨r,rfl,⟨hl,nd⟩,q⟩:=h;unfold sF;refine cM (fun τ G'=>ff G G'/\r≠[]/\τ=[some (enc r),none,none]) ?_ ?_
 ·intro N hN;simp only [fc,↓cD,br,av,ba,↓ao,↓aT,↓aj,↓ax,aO,↓aB,↓aP,↓aa,jb,aQ,bR,cm,ends,cN];refine⟨by decide,fun p f=>?_⟩;refine⟨.cY (r.map enc),.cY [],sQ _ 7 (by decide) r,.ref ay .EA,?_⟩;cases r with
  | nil =>
   have e:ij (.cY (([]:List T3).map enc)) (.cY [])=true:=rfl;simp only [↓bF,↓ar,↓aT,↓if_false];exact⟨by decide,fun p2 f2=>ig (xs:=([]:List T3)) ((ff.new f).trans (.new f2)) ((ff.new f).free f2) ay q⟩
  | cons a t =>
   have e:ij (.cY ((a :: t).map enc)) (.cY [])=false:=rfl;simp only [↓bF,↓ar,↓ao,↓if_false];exact hN _ _ ⟨.new f,by simp,rfl⟩
 ·rintro _ G' ⟨le,oA,rfl⟩;have R0:0 < r.length:=List.length_pos_iff.mpr oA;simp only [↓cJ,bE,dC,aG,ends,↓aq,↓ah];refine cM (fun τ G2=>G'=G2/\∃ (k:Nat) (hk:k < r.length) (a2:Option D),(∀ j (hj:j < r.length),aU.lt r[j].s r[k].s=false)/\τ=[some (enc r),some (.int k),a2]) ?_ ?_
  ·intro N hN;simp only [dN,↓mX,wa,aw,av,↓aa,aQ];refine xR ?_;simp only [↓kN];refine⟨by lia,by lia,?_⟩;rw [cV,ub];refine cW (xs:=ez r.length) (f:=fun k:Nat=>D.int (k:Int)) (fun pre τ G2=>G'=G2/\∃ (k:Nat) (hk:k < r.length) (a2:Option D),(∀ j (hj:j < r.length),j < pre.length->aU.lt r[j].s r[k].s=false)/\τ=[some (enc r),some (.int k),a2]) ⟨rfl,0,R0,_,(fun j hj z=>absurd z (oV _)),rfl⟩ (fun _ _ _ _=>trivial) ?_ ?_
   ·rintro pre x post τ _ N2 e ⟨rfl,k,hk,a2,Md,rfl⟩ kG;obtain⟨ex,hx⟩:=ua e;have gx:r[x]?=some r[x]:=ai hx;have gk:r[k]?=some r[k]:=ai hk;simp only [aG,fc,↓cD,br,gi,aw,av,↓aq,↓ah,↓aa,↓ae,dC,aQ,↓aj,↓ax,bE,cN];refine jq gx ?_;rw [lU,jB,VT];refine jq gx ?_;rw [lU,jB,Ym];refine⟨by decide,?_⟩;refine jq gk ?_;rw [lU,jB,VT];refine jq gk ?_;rw [lU,jB,Ym];refine⟨by decide,?_⟩;refine N8 (x:=r[x].s) (y:=r[k].s) (by decide) ?_;simp only [↓bF];cases c:aU.lt r[x].s r[k].s with
    | true =>
     simp only [↓if_true];refine kG _ _ ⟨rfl,x,hx,_,fun j hj z=>?_,rfl⟩;rw [aE,cb] at z;by_cases c2:j=x
     ·subst c2; exact aU.FA _
     ·have:=Md j hj (by lia);cases c3:aU.lt r[j].s r[x].s with
      | false=>rfl
      | true=>rw [aU.trans _ _ _ c3 c] at this; cases this
    | false =>
     simp only [↓ar,↓if_false];refine kG _ _ ⟨rfl,k,hk,_,fun j hj z=>?_,rfl⟩;rw [aE,cb] at z;by_cases c2:j=x
     ·subst c2; exact c
     ·exact Md j hj (by lia)
   ·rintro τ _ ⟨rfl,k,hk,a2,Md,rfl⟩;exact hN _ _ ⟨rfl,k,hk,a2,fun j hj=>Md j hj (by rw [mz]; exact hj),rfl⟩
  ·rintro _ _ ⟨rfl,k,hk,a2,Md,rfl⟩;have ek:=t8 nd hk Md;simp only [bR,cm,br,zK,av,↓aa,↓kz,↓ae,↓iV,fM];show N6 (.cY (r.map enc)) _ _ _ _;rw [ui,u3 _ _ (by rw [ak]; lia)];intro p5 f5;show N6 (.cY (r.map enc)) _ _ _ _;rw [ui,Dt _ _ (by rw [ak]; lia)];intro p6 f6;have n56:p5≠p6:=by rintro rfl; rw [ay] at f6; cases f6
   refine um (IsL.ref (by rw [cu n56,ay])) (IsL.ref ay) (by rw [cq,eL,ak]; exact Au (by lia)) fun p7 f7=>?_;have l6:=(le.trans (ff.new (o:=.lst ((r.map enc).drop k)) f5)).trans (ff.new (o:=.lst ((r.map enc).take k)) f6);refine ig (G:=G) (xs:=cQ r) (l6.trans (.new f7)) (l6.free f7) ?_ q;rw [ay];unfold cQ;rw [<-ek,aK,Ap,An]
end JF
namespace JF
open K2.P K2.J K2.JB
open K2.Cd (cQ iG gV kn)
open K2.Jp (fj)
open K2.GZ (HR HR.fz)
noncomputable def pL:hV :=
 (bR (cm (fx 3 [] (jS (av 0)) (iH (cy (aG 0) (cy (aG 1) (cy (aG 2) ip)))) none (gi (aw (av 0) (aw (br N1 (dC (.int 1)) (av 1)) (aw (GX AJ (av 2)) aQ)))))))
noncomputable def jI:jU:=fun ds G Q _=>∃ r:List T3,ds=[enc r]/\r.length<=1000/\Q (enc (r.map sw)) G
theorem xt(ds:List D)(G:Gp)(Q:DK)(h:jI ds G Q fun _ _=>False):pL (fun _ _=>False) (ends Q) (ba 1 ds) G:=by
 obtain⟨r,rfl,hl,q⟩:=h;unfold pL;simp only [bR,cm,fx,↓dM,av,ba,↓ao,↓aT,↓aj,↓ax,↓aB,↓aP,↓aa,ends];refine fh ⟨Au (by rw [ak]; exact hl),?_⟩;refine gH (xs:=r) (fun pr acc τ G2=>G=G2/\(∃ a b c,τ=[a,b,c])/\acc=(pr.map sw).map enc) ⟨rfl,⟨_,_,_,rfl⟩,rfl⟩ (fun _ _ _ _ _=>trivial) ?_ ?_
 ·rintro pr x po acc τ G2 N3 e2 ⟨rfl,⟨a,b,c,rfl⟩,rfl⟩ w4;rw [lU];simp only [iH,cy,aG,ip,gi,aw,av,↓ah,↓aq,↓aa,br,dC,↓ae,↓qG,GX,↓lx,aQ,↓aj,↓ax];refine⟨by decide,w4 _ _ _ ⟨rfl,⟨_,_,_,rfl⟩,?_⟩⟩;rw [aK,aK]; rfl
 ·rintro acc τ G2 ⟨rfl,_,rfl⟩ p f;exact ig (xs:=r.map sw) (.new f) f ay q
noncomputable def oG:hV :=
 (bR (cm (fx 3 [] (jS (av 0)) (iH (cy (aG 0) (cy (aG 1) (cy (aG 2) ip)))) none (gi (aw (av 0) (aw (av 1) (aw (GX AJ (av 2)) aQ)))))))
noncomputable def i6:jU:=fun ds G Q _=>∃ r:List T3,ds=[enc r]/\r.length<=1000/\Q (enc (r.map rf)) G
theorem wm(ds:List D)(G:Gp)(Q:DK)(h:i6 ds G Q fun _ _=>False):oG (fun _ _=>False) (ends Q) (ba 1 ds) G:=by
 obtain⟨r,rfl,hl,q⟩:=h;unfold oG;simp only [bR,cm,fx,↓dM,av,ba,↓ao,↓aT,↓aj,↓ax,↓aB,↓aP,↓aa,ends];refine fh ⟨Au (by rw [ak]; exact hl),?_⟩;refine gH (xs:=r) (fun pr acc τ G2=>G=G2/\(∃ a b c,τ=[a,b,c])/\acc=(pr.map rf).map enc) ⟨rfl,⟨_,_,_,rfl⟩,rfl⟩ (fun _ _ _ _ _=>trivial) ?_ ?_
 ·rintro pr x po acc τ G2 N3 e2 ⟨rfl,⟨a,b,c,rfl⟩,rfl⟩ w4;rw [lU];simp only [iH,cy,aG,ip,gi,aw,av,↓ah,↓aq,↓aa,↓ae,GX,↓lx,aQ,↓aj,↓ax];refine⟨by decide,w4 _ _ _ ⟨rfl,⟨_,_,_,rfl⟩,?_⟩⟩;rw [aK,aK]; rfl
 ·rintro acc τ G2 ⟨rfl,_,rfl⟩ p f;exact ig (xs:=r.map rf) (.new f) f ay q
noncomputable def wF:hV :=
 (bR (cm (bu fj (aw (cm (fx 1 [] (jS (av 0)) (aG 0) none (cm (bu jI (aw (av 0) aQ))))) aQ))))
noncomputable def jY:jU:=fun ds G Q _=>∃ rows:Rows,ds=[enc rows]/\(rows.length<=1000/\∀ r∈rows,r.length<=1000)/\∀ p as G',HR G G' p as ((rows.map fun r=>r.map sw).map cQ)->Q (.ref p) G'
theorem Gz(ds:List D)(G:Gp)(Q:DK)(h:jY ds G Q fun _ _=>False):wF (fun _ _=>False) (ends Q) (ba 1 ds) G:=by
 obtain⟨rows,rfl,⟨hl,hr⟩,q⟩:=h;unfold wF;simp only [bR,cm,bu,aw,fx,↓dM,av,ba,↓ao,↓aT,↓aj,↓ax,↓aB,↓aP,↓aa,aQ,ends];refine fh ⟨Au (by rw [ak]; exact hl),?_⟩;refine gH (xs:=rows) (fun pr acc τ G2=>G=G2/\(∃ a,τ=[a])/\acc=(pr.map fun r=>r.map sw).map enc) ⟨rfl,⟨_,rfl⟩,rfl⟩ (fun _ _ _ _ _=>trivial) ?_ ?_
 ·rintro pr x po acc τ G2 N3 e2 ⟨rfl,⟨a,rfl⟩,rfl⟩ w4;simp only [aG,cm,bu,aw,av,↓ah,↓aa,aQ];refine⟨x,rfl,hr x (by rw [e2]; simp),cS (w4 _ _ _ ⟨rfl,⟨_,rfl⟩,?_⟩)⟩;rw [aK,aK]; rfl
 ·rintro acc τ G2 ⟨rfl,_,rfl⟩ p f;refine ig (xs:=rows.map fun r=>r.map sw) (.new f) f ay ?_;exact⟨_,rfl,⟨by rw [ak]; exact hl,fun r Pf=>by obtain⟨x,hx,rfl⟩:=List.mem_map.mp Pf; rw [ak]; exact hr x hx⟩,fun p as G' h=>cS (q p as G' h)⟩
noncomputable def uf:hV :=
 (bR (cm (bu fj (aw (cm (fx 1 [] (jS (av 0)) (aG 0) none (cm (bu i6 (aw (av 0) aQ))))) aQ))))
noncomputable def gy:jU:=fun ds G Q _=>∃ rows:Rows,ds=[enc rows]/\(rows.length<=1000/\∀ r∈rows,r.length<=1000)/\∀ p as G',HR G G' p as ((rows.map fun r=>r.map rf).map cQ)->Q (.ref p) G'
theorem DN(ds:List D)(G:Gp)(Q:DK)(h:gy ds G Q fun _ _=>False):uf (fun _ _=>False) (ends Q) (ba 1 ds) G:=by
 obtain⟨rows,rfl,⟨hl,hr⟩,q⟩:=h;unfold uf;simp only [bR,cm,bu,aw,fx,↓dM,av,ba,↓ao,↓aT,↓aj,↓ax,↓aB,↓aP,↓aa,aQ,ends];refine fh ⟨Au (by rw [ak]; exact hl),?_⟩;refine gH (xs:=rows) (fun pr acc τ G2=>G=G2/\(∃ a,τ=[a])/\acc=(pr.map fun r=>r.map rf).map enc) ⟨rfl,⟨_,rfl⟩,rfl⟩ (fun _ _ _ _ _=>trivial) ?_ ?_
 ·rintro pr x po acc τ G2 N3 e2 ⟨rfl,⟨a,rfl⟩,rfl⟩ w4;simp only [aG,cm,bu,aw,av,↓ah,↓aa,aQ];refine⟨x,rfl,hr x (by rw [e2]; simp),cS (w4 _ _ _ ⟨rfl,⟨_,rfl⟩,?_⟩)⟩;rw [aK,aK]; rfl
 ·rintro acc τ G2 ⟨rfl,_,rfl⟩ p f;refine ig (xs:=rows.map fun r=>r.map rf) (.new f) f ay ?_;exact⟨_,rfl,⟨by rw [ak]; exact hl,fun r Pf=>by obtain⟨x,hx,rfl⟩:=List.mem_map.mp Pf; rw [ak]; exact hr x hx⟩,fun p as G' h=>cS (q p as G' h)⟩
end JF
namespace JF
open K2.P K2.J K2.JB
open K2.Cd (cQ iG gV kn)
noncomputable def chg(b:Bool)(p:T3):T3:=if b=true then sw p else rf p
theorem Vm{b:Bool}{r:List T3}(nd:(r.map T3.s).Nodup):((r.map (chg b)).map T3.s).Nodup:=by
 rw [aM];cases b with
 | false=>exact nd
 | true =>
  have e:(T3.s∘chg true)=(fun t:T2=>(⟨t.a,1 - t.b⟩:T2))∘T3.s:=rfl;rw [e,<-aM];refine mC nd fun x _ y _ z=>?_;obtain⟨xa,xb⟩:=x;obtain⟨ya,yb⟩:=y;injection z with z1 z2
  simp only at z1 z2;rw [z1,show xb=yb by lia]
noncomputable def ou(b:Bool)(rows:Rows):Rows:=rows.map fun r=>cQ (r.map (chg b))
noncomputable def qD:hV :=
 (b8 (bE (jb aQ) (aG 2))
 (b8 (dN (jS (av 0)) (aG 3) (b8 (bE (jb aQ) (aG 4))
 (b8 (dN (jS (av 3)) (iH (cy (aG 5) (cy (aG 6) (cy (aG 7) ip)))) (b8 (fc (fT (av 1)) (bE (br N1 (dC (.int 1)) (av 6)) (aG 6)) cN)
 (kA (tS Cq k6 (av 4) (aw (cm (gi (aw (av 5) (aw (av 6) (aw (GX AJ (av 7)) aQ))))) aQ)))))
 (kA (tS Cq k6 (av 2) (aw (cm (bu iA (aw (cm (av 4)) aQ))) aQ))))))
 (bR (cm (av 2)))))
noncomputable def fZ:jU:=fun ds G Q _=>∃ (rows:Rows) (b:Bool),ds=[enc rows,.bl b]/\(rows.length<=100/\∀ r∈rows,r.length<=500/\(r.map T3.s).Nodup)/\Q (enc (ou b rows)) G
theorem zX(ds:List D)(G:Gp)(Q:DK)(h:fZ ds G Q fun _ _=>False):qD (fun _ _=>False) (ends Q) (ba 8 ds) G:=by
 obtain⟨rows,bb,rfl,⟨hl,hr⟩,q⟩:=h;unfold qD;simp only [↓cJ,bE,jb,aQ,↓ax,aG,ends,ba,↓ao,↓aT,↓aj,aO,↓aB,↓aP,↓aq,↓ah];refine⟨by decide,fun p hp=>?_⟩;refine cM (fun τ G'=>(∃ a1 a2 a3 a4 a5,τ=[some (enc rows),some (.bl bb),some (.ref p),a1,a2,a3,a4,a5])/\ff G G'/\G' p=some (.lst ((ou bb rows).map enc))) ?_ ?_
 ·intro N hN;simp only [dN,↓dM,av,↓aa];refine fh ?_;refine cW (xs:=rows) (fun pre τ G'=>(∃ a1 a2 a3 a4 a5,τ=[some (enc rows),some (.bl bb),some (.ref p),a1,a2,a3,a4,a5])/\ff G G'/\G' p=some (.lst ((ou bb pre).map enc))) ⟨⟨_,_,_,_,_,rfl⟩,.new hp,ay⟩ (fun _ _ _ _=>trivial) ?_ ?_
  ·rintro pre r post τ G' N2 e ⟨⟨a1,a2,a3,a4,a5,rfl⟩,le,gp⟩ kG;obtain⟨hrl,W0⟩:=hr r (by rw [e]; simp);have GV:pre.length < rows.length:=by rw [e]; simp
   simp only [aG,↓cJ,bE,jb,aQ,↓ax,↓aq,↓ah];refine⟨by decide,fun p2 f2=>?_⟩;have hpp:p≠p2:=by rintro rfl; rw [gp] at f2; cases f2
   refine cM (fun τ G2=>∃ (b1 b2 b3:Option D),τ=[some (enc rows),some (.bl bb),some (.ref p),some (enc r),some (.ref p2),b1,b2,b3]/\ff G' G2/\G2 p2=some (.lst ((r.map (chg bb)).map enc))) ?_ ?_
   ·intro N3 w4;simp only [dN,↓dM,av,↓ae,↓aa];refine fh ?_;refine cW (xs:=r) (fun pr τ G2=>∃ (b1 b2 b3:Option D),τ=[some (enc rows),some (.bl bb),some (.ref p),some (enc r),some (.ref p2),b1,b2,b3]/\ff G' G2/\G2 p2=some (.lst ((pr.map (chg bb)).map enc))) ⟨_,_,_,rfl,.new f2,ay⟩ (fun _ _ _ _=>trivial) ?_ ?_
    ·rintro pr x po τ G2 N4 e2 ⟨b1,b2,b3,rfl,RV,g3⟩ hN4;have adA:pr.length < r.length:=by rw [e2]; simp
     rw [lU];simp only [iH,cy,aG,ip,↓aq,↓ah];refine cM (fun τ G3=>G2=G3/\τ=[some (enc rows),some (.bl bb),some (.ref p),some (enc r),some (.ref p2),some (.int x.a),some (.int (if bb=true then 1 - x.b else x.b)),some (.int x.c)]) ?_ ?_
     ·intro N5 hN5;simp only [fc,↓cD,av,↓ae,↓aa,↓bF,bE,br,dC,↓qG,aG,↓aq,↓ah,cN];cases bb with
      | true =>
       simp only [↓if_true];exact hN5 _ _ ⟨rfl,rfl⟩
      | false =>
       simp only [↓ar,↓if_false];exact hN5 _ _ ⟨rfl,rfl⟩
     ·rintro _ _ ⟨rfl,rfl⟩;simp only [kA,tS,av,↓ae,↓aa,↓nF,g3,aw,cm,gi,GX,↓lx,aQ,↓aj,↓ax,↓iX,↓true_and];refine⟨by decide,cS ?_⟩;simp only [g3];refine⟨Eo (by rw [ak,ak]; lia),?_⟩;refine hN4 _ _ ⟨_,_,_,rfl,RV.put f2,?_⟩;rw [ay,aK,aK];cases bb <;> rfl
    ·rintro τ G2 ⟨b1,b2,b3,rfl,RV,g3⟩;exact w4 _ _ ⟨_,_,_,rfl,RV,g3⟩
   rintro _ G2 ⟨b1,b2,b3,rfl,RV,g3⟩;simp only [kA,tS,av,↓ae,↓aa,↓nF,RV _ _ gp,aw,cm,bu,aQ,↓iX,↓true_and];refine ig (G:=G') (xs:=r.map (chg bb)) RV f2 g3 ?_;refine⟨_,rfl,⟨by rw [ak]; lia,Vm W0⟩,cS ?_⟩;simp only [gp];refine⟨Eo (by rw [ak]; unfold ou; rw [ak]; lia),?_⟩;refine kG _ _ ⟨⟨_,_,_,_,_,rfl⟩,le.put hp,?_⟩;rw [ay];unfold ou;rw [aK,aK]; rfl
  ·rintro τ G' ⟨⟨a1,a2,a3,a4,a5,rfl⟩,le,gp⟩;exact hN _ _ ⟨⟨_,_,_,_,_,rfl⟩,le,gp⟩
 ·rintro _ G' ⟨⟨a1,a2,a3,a4,a5,rfl⟩,le,gp⟩;simp only [bR,cm,av,↓ae,↓aa];exact ig le hp gp q
end JF
namespace JF
open K2.P K2.J K2.JB
open K2.Y (Po L ND NZ fG rj jC)
noncomputable def EG:hV :=
 (b8 (bE pB (aG 1))
 (b8 (dN (uO (av 0)) (aG 2) (bE (br kE (av 0) (av 2)) (lS (av 1) (GX AJ (av 2)))))
 (bR (cm (av 1)))))
noncomputable def lq:jU:=rj
theorem GF(ds:List D)(G:Gp)(Q:DK)(h:lq ds G Q fun _ _=>False):EG (fun _ _=>False) (ends Q) (ba 3 ds) G:=K33.A1 ds G Q h
end JF
end K2
end
section
namespace K2
open Enc (enc)
namespace JF
open K2.P K2.J K2.JB
open K2.Aa (wV zb pj)
open K2.T (Tb Sq bump mx zeros jx)
noncomputable def cell(t:Tb)(a b:Nat):Int:=((t[a]?).getD [])[b]?.getD 0
theorem rV{n:Nat}{t:Tb}(hs:Sq n t){i j a b:Nat}(hi:i < n)(hj:j < n)(ha:a < n)(hb:b < n)(h:Int):cell (bump t i j h) a b=cell t a b+if i≠j/\a=i/\b=j then h else 0:=by
 unfold bump;by_cases e:i=j
 ·rw [if_pos e,if_neg (fun z=>z.1 e),vA]
 ·rw [if_neg e];have la:a < t.length:=by rw [hs.1]; exact ha
  have lr:(t[a]).length=n:=hs.2 _ (cB la);unfold cell;rw [oe,ai la];by_cases c1:i=a
  ·subst c1;simp only [if_true,kb];show ((t[i].modify j fun x=>x+h)[b]?).getD 0=_;rw [oe,ai (by rw [lr]; exact hb)];by_cases c2:j=b
   ·subst c2;simp [e]
   ·have c2':¬ (b=j):=fun z=>c2 z.symm;simp [c2,c2']
  ·have c1':¬ (a=i):=fun z=>c1 z.symm;simp [c1,c1']
theorem BM{n:Nat}(F F':Int->Nat×Nat×Int):∀ (ns:List Int) (t t':Tb),Sq n t->Sq n t'->(∀ m∈ns,F' m=((F m).2.1,(F m).1,-(F m).2.2)/\(F m).1 < n/\(F m).2.1 < n)->(∀ a b,a < n->b < n->cell t' a b=-cell t b a) ->
  ∀ a b,a < n->b < n->cell (ns.foldl (fun t m=>bump t (F' m).1 (F' m).2.1 (F' m).2.2) t') a b=-cell (ns.foldl (fun t m=>bump t (F m).1 (F m).2.1 (F m).2.2) t) b a
 | [],t,t',_,_,_,h=>h
 | m :: ns,t,t',s,s',hF,h=>by
  obtain⟨e,l1,l2⟩:=hF m (by simp);refine BM F F' ns _ _ (mx s _ _ _) (mx s' _ _ _) (fun x hx=>hF x (by simp [hx])) fun a b ha hb=>?_;show cell (bump t' (F' m).1 (F' m).2.1 (F' m).2.2) a b=-cell (bump t (F m).1 (F m).2.1 (F m).2.2) b a;rw [e];rw [rV s' l2 l1 ha hb,rV s l1 l2 hb ha,h a b ha hb];by_cases c:(F m).1=(F m).2.1
  ·rw [if_neg (fun z=>z.1 c.symm),if_neg (fun z=>z.1 c)]; lia
  ·by_cases c2:a=(F m).2.1/\b=(F m).1
   ·rw [if_pos ⟨fun z=>c z.symm,c2.1,c2.2⟩,if_pos ⟨c,c2.2,c2.1⟩]; show _+-(F m).2.2=_; lia
   ·rw [if_neg (fun z=>c2 ⟨z.2.1,z.2.2⟩),if_neg (fun z=>c2 ⟨z.2.2,z.2.1⟩)]; lia
theorem FK{n:Nat}(F F':Int->Nat×Nat×Int):∀ (ns:List Int) (t t':Tb),Sq n t->Sq n t'->(∀ m∈ns,F' m=((F m).1,(F m).2.1,-(F m).2.2)/\(F m).1 < n/\(F m).2.1 < n)->(∀ a b,a < n->b < n->cell t' a b=-cell t a b) ->
  ∀ a b,a < n->b < n->cell (ns.foldl (fun t m=>bump t (F' m).1 (F' m).2.1 (F' m).2.2) t') a b=-cell (ns.foldl (fun t m=>bump t (F m).1 (F m).2.1 (F m).2.2) t) a b
 | [],t,t',_,_,_,h=>h
 | m :: ns,t,t',s,s',hF,h=>by
  obtain⟨e,l1,l2⟩:=hF m (by simp);refine FK F F' ns _ _ (mx s _ _ _) (mx s' _ _ _) (fun x hx=>hF x (by simp [hx])) fun a b ha hb=>?_;show cell (bump t' (F' m).1 (F' m).2.1 (F' m).2.2) a b=-cell (bump t (F m).1 (F m).2.1 (F m).2.2) a b;rw [e];rw [rV s' l1 l2 ha hb,rV s l1 l2 ha hb,h a b ha hb];split
  ·show _+-(F m).2.2=_; lia
  ·lia
theorem tF{n a b:Nat}(ha:a < n)(hb:b < n):cell (zeros n) a b=0:=by
 unfold cell zeros;rw [gj,if_pos ha];simp [gj,hb]
end JF
namespace JF
open K2.P K2.J K2.JB
open K2.Aa (wV zb pj)
open K2.T (Tb Sq bump mx zeros jx)
theorem Er{rows:Rows}{s:T2}(h:s∈rows.flatten.map T3.s):∃ p∈rows.zipIdx 0,s∈d8 p.1 (p.2:Int):=by
 obtain⟨q,hq,rfl⟩:=List.mem_map.mp h;obtain⟨r,hr,ZK⟩:=List.mem_flatten.mp hq;obtain⟨i,hi,e⟩:=eS hr;refine⟨(r,i),List.mem_zipIdx_iff_getElem?.mpr (by simp only; rw [ai hi,e]),?_⟩;unfold d8;rw [if_neg (by intro z; rw [show r=[] from z] at ZK; cases ZK)];exact List.mem_map.mpr ⟨q,ZK,rfl⟩
theorem T9{rows:Rows}{s:T2}(h:∃ p∈rows.zipIdx 0,s∈d8 p.1 (p.2:Int)):jo rows s < rows.length:=by
 unfold jo;cases c:(rows.zipIdx 0).find? fun p=>decide (s∈d8 p.1 (p.2:Int)) with
 | none =>
  obtain⟨p,hp,hs⟩:=h;have:=List.find?_eq_none.mp c p hp;simp [hs] at this
 | some p =>
  have hm:=hZ c;have:=List.mem_zipIdx_iff_getElem?.mp hm;exact(List.getElem?_eq_some_iff.mp this).1
theorem zD{α:Type}{f g:α->Bool}:∀ {l:List α},(∀ x∈l,f x=g x)->l.find? f=l.find? g
 | [],_=>rfl
 | x :: l,h=>by
  rw [dn,dn,h x (by simp),zD fun y hy=>h y (by simp [hy])]
theorem Nz{rows:Rows}{σ:List T3->List T3}{s s':T2}(h:∀ r∈rows,∀ i:Nat,s'∈d8 (σ r) (i:Int)↔s∈d8 r (i:Int)):jo (rows.map σ) s'=jo rows s:=by
 unfold jo;rw [List.zipIdx_map,List.find?_map];have:((rows.zipIdx 0).find? ((fun p:List T3×Nat=>decide (s'∈d8 p.1 (p.2:Int)))∘Prod.map σ id))=(rows.zipIdx 0).find? fun p=>decide (s∈d8 p.1 (p.2:Int)):=by
  refine zD fun p hp=>?_;have hm:p.1∈rows:=bx (List.mem_zipIdx_iff_getElem?.mp hp);show decide (s'∈d8 (σ p.1) (p.2:Int))=decide (s∈d8 p.1 (p.2:Int));exact decide_eq_decide.mpr (h p.1 hm p.2)
 rw [this];cases (rows.zipIdx 0).find? fun p=>decide (s∈d8 p.1 (p.2:Int)) <;> rfl
theorem OO{rows:Rows}(d:Dr rows):Aa.Lk rows:=by
 have on:∀ n∈names rows,∀ w:Int,w=0\/w=1->(⟨n,w⟩:T2)∈rows.flatten.map T3.s:=fun n hn w hw=>by
  obtain⟨p,hp,h0,rfl⟩:=j5.mp hn;rcases hw with rfl | rfl
  ·exact List.mem_map.mpr ⟨p,hp,by show (⟨p.a,p.b⟩:T2)=_; rw [h0]⟩
  ·exact List.mem_map.mpr ⟨_,d.AK p hp,by show (⟨p.a,1 - p.b⟩:T2)=_; rw [h0]; rfl⟩
 exact⟨d,fun n hn w hw=>⟨Er (on n hn w hw),T9 (Er (on n hn w hw))⟩,fun n hn=>by
  obtain⟨p,hp,_,e⟩:=j5.mp hn;exact⟨p,hp,e⟩⟩
end JF
namespace JF
open K2.P K2.J K2.JB
open K2.Aa (wV zb pj)
open K2.T (Tb Sq bump mx zeros jx)
open K2.Cd (cQ iG)
theorem Cw(r:List T3):∃ k,cQ r=r.drop k++r.take k:=⟨_,rfl⟩
theorem Bg(r:List T3):(cQ r).Perm r:=by
 unfold cQ;exact List.perm_append_comm.trans (by rw [fI])
theorem zH(b:Bool)(rows:Rows):ou b rows=(rows.map fun r=>r.map (chg b)).map cQ:=by unfold ou; rw [aM]; rfl
theorem PY{rows:Rows}(d:Dr rows)(b:Bool):Dr (rows.map fun r=>r.map (chg b)):=by
 cases b with
 | true=>exact SJ d
 | false=>exact SU d
theorem IV{rows:Rows}(d:Dr rows)(b:Bool):Dr (ou b rows):=by
 rw [zH];exact(Qf (PY d b) fun r _=>Cw r).1
theorem Dj{rows:Rows}(d:Dr rows)(b:Bool)(g:Fn):brk (ou b rows) g=brk rows (ng g):=by
 rw [zH,(Qf (PY d b) fun r _=>Cw r).2];cases b with
 | true=>exact T8 d g
 | false=>exact Uo d g
theorem uX{rows:Rows}(b:Bool):(ou b rows).flatten.Perm (rows.flatten.map (chg b)):=by
 rw [zH];refine(NT fun r _=>Cw r).2.1.trans ?_;rw [qO]
theorem BV{rows:Rows}(d:Dr rows)(b:Bool):names (ou b rows)=names rows:=by
 have h:((ou b rows).flatten.filter fun p=>p.b == 0).map (·.a) |>.Perm ((rows.flatten.filter fun p=>p.b == 0).map (·.a)):=by
  have p1:(E8 (ou b rows).flatten).Perm ((E8 rows.flatten).map fun p=>(p.1,-p.2)):=by
   refine(E7 (uX b)).trans ?_;cases b with
   | true=>exact OC d
   | false =>
    have:=OD rows.flatten;show (E8 (rows.flatten.map rf)).Perm _;rw [this]
  have p2:=p1.map (·.1);unfold E8 at p2;rw [aM,aM,aM] at p2;exact p2
 unfold names;exact Ub h
theorem PN{rows:Rows}(d:Dr rows)(b:Bool){n:Int}(hn:n∈names rows):handOf (ou b rows) n=-handOf rows n:=by
 obtain⟨p,hp,_,rfl⟩:=j5.mp hn;have h1:=xM d hp;have hm:chg b p∈(ou b rows).flatten:=(uX b).mem_iff.mpr (List.mem_map.mpr ⟨p,hp,rfl⟩);have h2:=xM (IV d b) hm;have ea:(chg b p).a=p.a:=by cases b <;> rfl
 have ec:(chg b p).c=-p.c:=by cases b <;> rfl
 rw [ea,ec] at h2;rw [h1,h2]
theorem KI{rows:Rows}(b:Bool){n w:Int}(hw:w=0\/w=1):jo (ou b rows) ⟨n,w⟩=jo rows ⟨n,if b=true then 1 - w else w⟩:=by
 unfold ou;refine Nz (σ:=fun r=>cQ (r.map (chg b))) fun r _ i=>?_;unfold d8;by_cases c:r=[]
 ·subst c;have e:cQ (([]:List T3).map (chg b))=[]:=rfl;rw [if_pos e,if_pos rfl];constructor
  ·intro z;rw [bL] at z;injection z with _ z
   lia
  ·intro z;rw [bL] at z;injection z with _ z
   split at z <;> lia
 ·have hl:(cQ (r.map (chg b))).length=r.length:=by rw [(Bg _).length_eq,ak]
  rw [if_neg (by intro z; rw [z] at hl; exact c (List.length_eq_zero_iff.mp hl.symm)),if_neg c,((Bg _).map T3.s).mem_iff,aM,Qz,Qz];constructor
  ·rintro⟨p,hp,e⟩;refine⟨p,hp,?_⟩;have e':(chg b p).s=⟨n,w⟩:=e;cases b with
   | true =>
    injection e' with e1 e2
    show (⟨p.a,p.b⟩:T2)=⟨n,1 - w⟩;have e1':p.a=n:=e1;have e2':1 - p.b=w:=e2;rw [e1',show p.b=1 - w by lia]
   | false=>exact e'
  ·rintro⟨p,hp,e⟩;refine⟨p,hp,?_⟩;show (chg b p).s=⟨n,w⟩;cases b with
   | true =>
    injection e with e1 e2
    show (⟨p.a,1 - p.b⟩:T2)=⟨n,w⟩;have e1':p.a=n:=e1;have e2':p.b=1 - w:=e2;rw [e1',show 1 - p.b=w by lia]
   | false=>exact e
theorem RU{rows:Rows}(d:Dr rows){a b:Nat}(ha:a < rows.length)(hb:b < rows.length):cell (wV (ou true rows)) a b=-cell (wV rows) b a/\cell (wV (ou false rows)) a b=-cell (wV rows) a b:=by
 have lk:=OO d;have ln:∀ c,(ou c rows).length=rows.length:=fun c=>by unfold ou; rw [ak]
 let F:Int->Nat×Nat×Int:=fun n=>(jo rows ⟨n,0⟩,jo rows ⟨n,1⟩,handOf rows n)
 have z0:∀ a b,a < rows.length->b < rows.length->cell (zeros rows.length) a b=-cell (zeros rows.length) b a:=fun a b ha hb=>by rw [tF ha hb,tF hb ha]; rfl
 have z1:∀ a b,a < rows.length->b < rows.length->cell (zeros rows.length) a b=-cell (zeros rows.length) a b:=fun a b ha hb=>by rw [tF ha hb]; rfl
 have lt:∀ m∈names rows,(F m).1 < rows.length/\(F m).2.1 < rows.length:=fun m hm=>⟨(lk.sp m hm 0 (.inl rfl)).2,(lk.sp m hm 1 (.inr rfl)).2⟩;have eF:∀ c m,m∈names rows->((jo (ou c rows) ⟨m,0⟩,jo (ou c rows) ⟨m,1⟩,handOf (ou c rows) m):Nat×Nat×Int)=if c=true then ((F m).2.1,(F m).1,-(F m).2.2) else ((F m).1,(F m).2.1,-(F m).2.2):=fun c m hm=>by
  rw [KI c (.inl rfl),KI c (.inr rfl),PN d c hm];cases c <;> rfl
 refine⟨?_,?_⟩
 ·unfold wV;rw [BV d,ln];exact BM F (fun m=>(jo (ou true rows) ⟨m,0⟩,jo (ou true rows) ⟨m,1⟩,handOf (ou true rows) m)) (names rows) _ _ (jx _) (jx _) (fun m hm=>⟨eF true m hm,lt m hm⟩) z0 a b ha hb
 ·unfold wV;rw [BV d,ln];exact FK F (fun m=>(jo (ou false rows) ⟨m,0⟩,jo (ou false rows) ⟨m,1⟩,handOf (ou false rows) m)) (names rows) _ _ (jx _) (jx _) (fun m hm=>⟨eF false m hm,lt m hm⟩) z1 a b ha hb
end JF
end K2
end
section
namespace K2
open PySem (Str)
open Enc (enc)
namespace JF
open K2.P K2.J K2.JB
open K2.Y (cI)
noncomputable def wK:hV :=
 (b8 (fc (B0 (mw (fT (Mr "list" (av 0)))) (fT (br (GR true) (av 0) (av 1)))) (bR (cm (dC (.bl false)))) cN)
 (b8 (dN (jS (av 0)) (aG 2) (dN (jS (av 2)) (aG 3) (dN (jS (av 3)) (aG 4) (fc (mw (fT (bu cI (aw (av 4) aQ)))) (bR (cm (dC (.bl false)))) cN))))
 (bR (cm (dC (.bl true))))))
noncomputable def jZ:jU:=fun ds G Q _=>∃ R:Rows,ds=[enc R,enc R]/\(R.length<=1000/\∀ r∈R,r.length<=1000)/\Q (.bl true) G
theorem GB(ds:List D)(G:Gp)(Q:DK)(h:jZ ds G Q fun _ _=>False):wK (fun _ _=>False) (ends Q) (ba 5 ds) G:=by
 obtain⟨R,rfl,⟨hl,hr⟩,q⟩:=h;unfold wK;refine cM (fun τ G'=>G=G'/\τ=[some (enc R),some (enc R),none,none,none]) ?_ ?_
 ·intro N hN;simp only [fc,B0,mw,↓cD,↓xO,av,ba,↓ao,↓aT,↓aj,↓ax,aO,↓aB,↓aP,↓aa,bR,cm,dC,ends,cN,↓if_true,br,↓ae];refine⟨_,_,Enc.sn G 8 R (by decide),Enc.sn G 8 R (by decide),?_⟩;have e:ij (enc R) (enc R)=true:=by rw [Enc.eqv]; simp
  simp only [↓bF,e,↓bc,↓if_true,↓ar,↓if_false];exact hN _ _ ⟨rfl,rfl⟩
 ·rintro _ _ ⟨rfl,rfl⟩;refine cM (fun τ G'=>G=G') ?_ ?_
  ·intro N hN;simp only [dN,↓dM,av,↓aa,ends];refine fh ?_;refine cW (xs:=R) (fun pre τ G'=>G=G'/\∃ a b c,τ=[some (enc R),some (enc R),a,b,c]) ⟨rfl,_,_,_,rfl⟩ (fun _ _ _ _=>trivial) ?_ ?_
   ·rintro pre r post τ _ N2 e ⟨rfl,a,b,c,rfl⟩ kG;simp only [aG,dN,↓dM,av,↓aq,↓ah,↓ae,↓aa];refine fh ?_;refine cW (xs:=r) (fun pre τ G'=>G=G'/\∃ b c,τ=[some (enc R),some (enc R),some (enc r),b,c]) ⟨rfl,_,_,rfl⟩ (fun _ _ _ _=>trivial) ?_ ?_
    ·rintro pr x po τ _ N3 e2 ⟨rfl,b,c,rfl⟩ w4;rw [lU];simp only [aG,dN,↓dM,av,↓aq,↓ah,↓ae,↓aa,↓C0];refine Py (fun pre τ G'=>G=G'/\∃ c,τ=[some (enc R),some (enc R),some (enc r),some (.tup [.int x.a,.int x.b,.int x.c]),c]) ⟨rfl,_,rfl⟩ (fun _ _ _ _=>trivial) ?_ ?_
     ·rintro vM d Of τ _ N4 e4 ⟨rfl,c,rfl⟩ hN4;have hd:∃ i:Int,d=.int i:=by
       have:d∈([.int x.a,.int x.b,.int x.c]:List D):=by rw [e4]; simp
       simp only [bD,cP,or_false] at this;rcases this with h | h | h <;> exact⟨_,h⟩
      obtain⟨i,rfl⟩:=hd;simp only [aG,fc,mw,↓cD,bu,aw,av,↓aq,↓ah,↓ae,↓aa,aQ,bR,cm,dC,cN];refine⟨i,rfl,?_⟩;simp only [↓bF,↓bc,↓ar,↓if_false];exact hN4 _ _ ⟨rfl,_,rfl⟩
     ·rintro τ _ ⟨rfl,c,rfl⟩;exact w4 _ _ ⟨rfl,_,_,rfl⟩
    ·rintro τ _ ⟨rfl,b,c,rfl⟩;exact kG _ _ ⟨rfl,_,_,_,rfl⟩
   ·rintro τ _ ⟨rfl,_⟩;exact hN _ _ rfl
  ·rintro τ _ rfl;simp only [bR,cm,dC,ends];exact cS q
end JF
namespace JF
open K2.P K2.J K2.JB
open K2.Aa (wV zb pj zG fD)
open K2.T (Tb Sq bump mx zeros jx)
open K2.JE (jq xR ub ua)
theorem CU(rows:Rows):Sq rows.length (wV rows):=pj rows _ _ (jx _)
theorem xQ{n:Nat}{t:Tb}(hs:Sq n t){a b:Nat}(ha:a < n)(hb:b < n):∃ r,t[a]?=some r/\r[b]?=some (cell t a b):=by
 have la:a < t.length:=by rw [hs.1]; exact ha
 have lb:b < (t[a]).length:=by rw [hs.2 _ (cB la)]; exact hb
 refine⟨t[a],ai la,?_⟩;unfold cell;rw [ai la,kb,ai lb]; rfl
noncomputable def sG:hV :=
 (b8 (bE (cm (bu fD (aw (av 1) aQ))) (aG 2))
 (b8 (bE (wa tK (aw (av 1) aQ)) (aG 3))
 (b8 (dN (wY (av 3)) (aG 4) (dN (wY (av 3)) (aG 5) (fc (B0 (fT (br (GR true) (br kE (br kE (br kE (av 0) (dC (.int 0))) (av 4)) (av 5)) (GX AJ (br kE (br kE (av 2) (av 5)) (av 4))))) (fT (br (GR true) (br kE (br kE (br kE (av 0) (dC (.int 1))) (av 4)) (av 5)) (GX AJ (br kE (br kE (av 2) (av 4)) (av 5)))))) (bR (cm (dC (.bl false)))) cN)))
 (bR (cm (dC (.bl true)))))))
noncomputable def kX:jU:=fun ds G Q _=>∃ (rows:Rows) (tA tB:Tb),ds=[enc [tA,tB],enc rows]/\(Dr rows/\Sq rows.length tA/\Sq rows.length tB/\∀ a b,a < rows.length->b < rows.length->cell tA a b=-cell (wV rows) b a/\cell tB a b=-cell (wV rows) a b)/\Q (.bl true) G
theorem A3(ds:List D)(G:Gp)(Q:DK)(h:kX ds G Q fun _ _=>False):sG (fun _ _=>False) (ends Q) (ba 6 ds) G:=by
 obtain⟨rows,tA,tB,rfl,⟨d,sA,sB,hc⟩,q⟩:=h;have str:=d.str;unfold sG;simp only [↓cJ,bE,cm,bu,aw,av,ba,↓ao,↓aT,↓aj,↓ax,aO,↓aB,↓aP,↓ae,↓aa,aQ,aG,wa,↓aq,↓ah,ends];refine⟨rows,rfl,OO d,fun G' p0 as hh=>hh.fz ?_⟩;rw [<-zG];refine xR ?_;refine cM (fun τ G'=>G=G') ?_ ?_
 ·intro N hN;simp only [dN,↓mX,av,↓ae,↓aa,↓kN];refine⟨by lia,by lia,?_⟩;rw [cV,ub];refine cW (xs:=ez rows.length) (f:=fun k:Nat=>D.int (k:Int)) (fun pre τ G'=>G=G'/\∃ a b,τ=[some (enc [tA,tB]),some (enc rows),some (enc (wV rows)),some (.int rows.length),a,b]) ⟨rfl,_,_,rfl⟩ (fun _ _ _ _=>trivial) ?_ ?_
  ·rintro pre i post τ _ N2 e ⟨rfl,a,b,rfl⟩ kG;obtain⟨_,hi⟩:=ua e;simp only [aG,dN,↓mX,av,↓aq,↓ah,↓ae,↓aa,↓kN];refine⟨by lia,by lia,?_⟩;rw [cV,ub];refine cW (xs:=ez rows.length) (f:=fun k:Nat=>D.int (k:Int)) (fun pre τ G'=>G=G'/\∃ b,τ=[some (enc [tA,tB]),some (enc rows),some (enc (wV rows)),some (.int rows.length),some (.int i),b]) ⟨rfl,_,rfl⟩ (fun _ _ _ _=>trivial) ?_ ?_
   ·rintro vM j Of τ _ N3 e2 ⟨rfl,b,rfl⟩ w4;obtain⟨_,hj⟩:=ua e2;obtain⟨c1,c2⟩:=hc i j hi hj;obtain⟨r1,g1,g2⟩:=xQ sA hi hj;obtain⟨r2,g3,g4⟩:=xQ sB hi hj;obtain⟨r3,g5,g6⟩:=xQ (CU rows) hj hi;obtain⟨r4,g7,g8⟩:=xQ (CU rows) hi hj;have z0:([tA,tB]:List Tb)[0]?=some tA:=rfl;have z1:([tA,tB]:List Tb)[1]?=some tB:=rfl;simp only [aG,fc,B0,↓cD,br,av,↓aq,↓ah,↓aa,dC,↓ae,GX,bR,cm,cN,↓if_true];refine jq (i:=0) z0 (jq g1 (jq g2 (jq g5 (jq g6 ?_))));simp only [pA,↓lx];refine⟨_,_,.int _,.int _,?_⟩;have e1:(cell tA i j == -cell (wV rows) j i)=true:=by rw [beq_iff_eq]; exact c1
    simp only [↓bF,kT,e1,↓bc,↓if_true,↓ar,↓if_false];refine jq (i:=1) z1 (jq g3 (jq g4 (jq g7 (jq g8 ?_))));simp only [pA,↓lx];refine⟨_,_,.int _,.int _,?_⟩;have e3:(cell tB i j == -cell (wV rows) i j)=true:=by rw [beq_iff_eq]; exact c2
    simp only [↓bF,kT,e3,↓bc,↓if_true,↓ar,↓if_false];exact w4 _ _ ⟨rfl,_,rfl⟩
   ·rintro τ _ ⟨rfl,b,rfl⟩;exact kG _ _ ⟨rfl,_,_,rfl⟩
  ·rintro τ _ ⟨rfl,_⟩;exact hN _ _ rfl
 ·rintro τ _ rfl;simp only [bR,cm,dC];exact cS q
end JF
namespace JF
open K2.P K2.J K2.JB
open K2.GZ (HR HR.fz)
noncomputable def Cb(sp:jU)(ds:List D)(G1:Gp)(Q:DK):Prop:=∃ (R:Nat->Bool) (ts:List D),(∀ a,R a=true->∃ xs,G1 a=some (.lst xs))/\Ab G1 R ds ts /\
 sp ts (fun _=>none) (fun x G2=>tupP x=true/\∃ T:Nat->Bool,(∀ a o,T a=true->G2 a=some o->ur o=true)/\((∀ a o,G2 a=some o->G1 a=none)->Q x (JL (resT T G2) G1))) fun _ _=>False
theorem qT{sp:jU}{t:D4}{E:mG}{τ:iN}{G:Gp}{Q:DK}:nc sp t E τ G Q=t E τ G fun ds G1=>Cb sp ds G1 Q:=rfl
theorem Pw{G1:Gp}{R:Nat->Bool}:∀ (as:List Nat) (rs:Rows),as.length=rs.length->(∀ (i a:Nat) (r:List T3),as[i]?=some a->rs[i]?=some r->G1 a=some (.lst (r.map enc))/\R a=true)->Ab G1 R (as.map D.ref) (rs.map enc)
 | [],[],_,_=>.nil
 | [],_ :: _,h,_=>by cases h
 | _ :: _,[],h,_=>by cases h
 | a :: as,r :: rs,h,k=>by
  obtain⟨k1,k2⟩:=k 0 a r rfl rfl;exact .cons (.ref k1 k2 (Ab.same _)) (Pw as rs (by simpa using h) fun i a' r' h1 h2=>k (i+1) a' r' (by simpa using h1) (by simpa using h2))
noncomputable def ko(p:Nat)(as:List Nat)(a:Nat):Bool:=a == p||as.contains a
theorem uQ{G G1:Gp}{p:Nat}{as:List Nat}{rs:Rows}(h:HR G G1 p as rs):(∀ a,ko p as a=true->∃ xs,G1 a=some (.lst xs))/\Fz G1 (ko p as) (.ref p) (enc rs):=by
 refine⟨fun a ha=>?_,?_⟩
 ·unfold ko at ha;rw [iu,beq_iff_eq,vm] at ha;rcases ha with rfl | ha
  ·exact⟨_,h.gp⟩
  ·obtain⟨i,hi,e⟩:=eS ha;have h1:as[i]?=some a:=by rw [ai hi,e]
   have D1:i < rs.length:=by rw [<-h.len]; exact hi
   exact⟨_,h.at' i a rs[i] h1 (ai D1)⟩
 ·refine .ref h.gp (by simp [ko]) (Pw as rs h.len fun i a r h1 h2=>⟨h.at' i a r h1 h2,?_⟩);unfold ko;rw [iu,vm];exact .inr (bx h1)
theorem El(T:Nat->Bool)(G:Gp):JL (resT T fun _=>none) G=G:=by
 funext a;unfold JL resT;rw [ite_self]
theorem By{G G1:Gp}{p:Nat}{as:List Nat}{rs:Rows}{Q:DK}(h:HR G G1 p as rs)(hz:rs.length<=1000/\∀ r∈rs,r.length<=1000)(q:Q (.bl true) G1) :
  Cb jZ [.ref p,enc rs] G1 Q:=by
 obtain⟨h1,h2⟩:=uQ h;refine⟨ko p as,[enc rs,enc rs],h1,.cons h2 (.cons (.same _) .nil),rs,rfl,hz,rfl,fun _=>false,(fun a o _ e=>nomatch e),fun _=>?_⟩;rw [El]; exact q
theorem uD{G G1:Gp}{p:Nat}{as:List Nat}{rs:Rows}{Q:DK}(h:HR G G1 p as rs)(d:Dr rs)(hz:rs.flatten.length<=12)(q:∀ T,BP T (brk rs)->Q (.j8 (bz T)) G1) :
  Cb iS [.ref p] G1 Q:=by
 obtain⟨h1,h2⟩:=uQ h;refine⟨ko p as,[enc rs],h1,.cons h2 .nil,rs,rfl,⟨d,hz⟩,fun T bT=>⟨Oh T,fun _=>false,(fun a o _ e=>nomatch e),fun _=>?_⟩⟩;rw [El]; exact q T bT
theorem rH{p:Nat}{as:List Nat}{a:Nat}:ko p as a=true↔a=p\/a∈as:=by
 unfold ko;rw [iu,beq_iff_eq,vm]
theorem Co{T:Nat->Bool}{G2 G1:Gp}{a:Nat}{o:GO}(h:T a=true)(e:G2 a=some o):JL (resT T G2) G1 a=some o:=by
 unfold JL resT;rw [if_pos h,e]
theorem UX{G1 G2:Gp}{p:Nat}{as:List Nat}{rs:Rows}(h:HR (fun _=>none) G2 p as rs)(dj:∀ a o,G2 a=some o->G1 a=none):HR G1 (JL (resT (ko p as) G2) G1) p as rs:=by
 have at2:∀ a∈as,∃ r,G2 a=some (.lst ((r:List T3).map enc)):=fun a ha=>by
  obtain⟨i,hi,e⟩:=eS ha;have h1:as[i]?=some a:=by rw [ai hi,e]
  have D1:i < rs.length:=by rw [<-h.len]; exact hi
  exact⟨_,h.at' i a rs[i] h1 (ai D1)⟩
 refine⟨fun a o e=>?_,dj _ _ h.gp,Co (rH.mpr (.inl rfl)) h.gp,h.np,h.nd,fun a ha=>?_,h.len,fun i a r h1 h2=>Co (rH.mpr (.inr (bx h1))) (h.at' i a r h1 h2)⟩
 ·unfold JL resT;split
  ·rename_i o' e';split at e'
   ·rw [dj a o' e'] at e; cases e
   ·cases e'
  ·exact e
 ·obtain⟨r,hr⟩:=at2 a ha;exact dj a _ hr
theorem WU{G2:Gp}{p:Nat}{as:List Nat}{rs:Rows}(h:HR (fun _=>none) G2 p as rs):∀ a o,ko p as a=true->G2 a=some o->ur o=true:=fun a o ha e=>by
 rcases rH.mp ha with rfl | ha
 ·rw [h.gp] at e;cases e;show (as.map D.ref).all tupP=true;rw [fK,du];intro x _; rfl
 ·obtain⟨i,hi,ei⟩:=eS ha;have h1:as[i]?=some a:=by rw [ai hi,ei]
  have D1:i < rs.length:=by rw [<-h.len]; exact hi
  rw [h.at' i a rs[i] h1 (ai D1)] at e;cases e;show (rs[i].map enc).all tupP=true;rw [fK,du];intro x _; rfl
theorem za{G G1:Gp}{p:Nat}{as:List Nat}{rs:Rows}{Q:DK}(h:HR G G1 p as rs)(hz:rs.length<=1000/\∀ r∈rs,r.length<=1000)(q:Q (enc ((rs.map fun r=>r.map rf).map Cd.cQ)) G1) :
  Cb gy [.ref p] G1 (fun x G=>Jr G x Q):=by
 obtain⟨h1,h2⟩:=uQ h;refine⟨ko p as,[enc rs],h1,.cons h2 .nil,rs,rfl,hz,fun p2 GY G2 M0=>⟨rfl,ko p2 GY,WU M0,fun dj=>?_⟩⟩;exact(UX M0 dj).fz q
end JF
namespace JF
open K2.P K2.J K2.JB
open K2.GZ (HR HR.fz)
open K2.T (HL)
open K2.Aa (fu wV zG fD dT)
theorem Pj{G1 G2:Gp}{p:Nat}{as:List Nat}{rs:List (List D)}(h:HL (fun _=>none) G2 p as rs)(dj:∀ a o,G2 a=some o->G1 a=none):HL G1 (JL (resT (ko p as) G2) G1) p as rs:=by
 have at2:∀ a∈as,∃ r,G2 a=some (.lst r):=fun a ha=>by
  obtain⟨i,hi,e⟩:=eS ha;have h1:as[i]?=some a:=by rw [ai hi,e]
  have D1:i < rs.length:=by rw [<-h.len]; exact hi
  exact⟨_,h.at' i a rs[i] h1 (ai D1)⟩
 refine⟨fun a o e=>?_,dj _ _ h.gp,Co (rH.mpr (.inl rfl)) h.gp,h.np,h.nd,fun a ha=>?_,h.len,fun i a r h1 h2=>Co (rH.mpr (.inr (bx h1))) (h.at' i a r h1 h2)⟩
 ·unfold JL resT;split
  ·rename_i o' e';split at e'
   ·rw [dj a o' e'] at e; cases e
   ·cases e'
  ·exact e
 ·obtain⟨r,hr⟩:=at2 a ha;exact dj a _ hr
theorem Tn{G2:Gp}{p:Nat}{as:List Nat}{rs:List (List D)}(h:HL (fun _=>none) G2 p as rs)(hp:∀ r∈rs,r.all tupP=true):∀ a o,ko p as a=true->G2 a=some o->ur o=true:=fun a o ha e=>by
 rcases rH.mp ha with rfl | ha
 ·rw [h.gp] at e;cases e;show (as.map D.ref).all tupP=true;rw [fK,du];intro x _; rfl
 ·obtain⟨i,hi,ei⟩:=eS ha;have h1:as[i]?=some a:=by rw [ai hi,ei]
  have D1:i < rs.length:=by rw [<-h.len]; exact hi
  rw [h.at' i a rs[i] h1 (ai D1)] at e;cases e;exact hp _ (cB D1)
theorem Bz{G G1:Gp}{p:Nat}{as:List Nat}{rs:Rows}{Q:DK}(h:HR G G1 p as rs)(hz:rs.length<=1000)(q:Q (enc rs) G1) :
  Cb dS [.ref p] G1 (fun x G=>Jr G x Q):=by
 obtain⟨h1,h2⟩:=uQ h;refine⟨ko p as,[enc rs],h1,.cons h2 .nil,rs.map fun r=>r.map enc,by rw [fu],by rw [ak]; exact hz,fun G3 p2 GY tj=>⟨rfl,ko p2 GY,Tn tj (fun r hr=>?_),fun dj=>?_⟩⟩
 ·obtain⟨x,_,rfl⟩:=List.mem_map.mp hr;rw [fK,du];intro y _; rfl
 ·refine(Pj tj dj).fz ?_;rw [<-fu]; exact q
theorem uB{G G1:Gp}{p:Nat}{as:List Nat}{rs:Rows}{Q:DK}(h:HR G G1 p as rs)(d:Dr rs)(q:∀ G' p2 GY,HL G1 G' p2 GY (dT (wV rs))->Q (.ref p2) G') :
  Cb fD [.ref p] G1 Q:=by
 obtain⟨h1,h2⟩:=uQ h;refine⟨ko p as,[enc rs],h1,.cons h2 .nil,rs,rfl,OO d,fun G3 p2 GY tj=>⟨rfl,ko p2 GY,Tn tj (fun r hr=>?_),fun dj=>q _ _ _ (Pj tj dj)⟩⟩;obtain⟨x,_,rfl⟩:=List.mem_map.mp hr;rw [fK,du];intro y _; rfl
end JF
namespace JF
open K2.P K2.J K2.JB
open K2.Y (Po L ND NZ fG jC rj j0 iY b7 Dh)
open K2.GZ (HR HR.fz)
open K2.Cd (cQ)
open K2.M5 (Ez Eu)
open K2.T (HL)
open K2.Aa (fu wV zG fD dT k8)
theorem NS(g:T3->T3)(r:List T3)(k:Nat):(Ez r k).map g=Ez (r.map g) k:=by
 unfold Ez; rw [aK,Ap,An]
theorem twice{c:T3->T3}(hc:∀ p,c (c p)=p){rows:Rows}(nd:∀ r∈rows,(r.map T3.s).Nodup):(((rows.map fun r=>r.map c).map cQ).map fun r=>r.map c).map cQ=rows.map cQ:=by
 rw [aM,aM,aM];refine cL fun r hr=>?_;show cQ ((cQ (r.map c)).map c)=cQ r;have e:(cQ (r.map c)).map c=Ez r ((r.map c).idxOf (Cd.iG (r.map c))):=by
  show ((Ez (r.map c) _).map c)=_;rw [NS,aM,show c∘c=id from funext hc,kJ]
 rw [e,Eu (nd r hr)]
theorem V5(p:T3):sw (sw p)=p:=by
 obtain⟨a,b,c⟩:=p;unfold sw;simp only [Int.neg_neg,T3.mk.injEq,true_and,and_true]; lia
theorem We(p:T3):rf (rf p)=p:=by
 obtain⟨a,b,c⟩:=p;unfold rf;simp only [Int.neg_neg]
theorem Uk{rows:Rows}(d:Dr rows):∀ r∈rows,(r.map T3.s).Nodup:=fun r hr=>by
 have:=d.nd;obtain⟨s,t,rfl⟩:=pZ hr;rw [kK,eW,aK,aK,cA,cA] at this;exact this.2.1.1
theorem PM(rows:Rows):(rows.map fun r=>r.map sw).map cQ=ou true rows:=by rw [zH]; rfl
theorem KJ(rows:Rows):(rows.map fun r=>r.map rf).map cQ=ou false rows:=by rw [zH]; rfl
theorem Df{neg:Bool}{G G1:Gp}{p:Nat}{as:List Nat}{xs ys:Rows}{Q:DK}(h:HR G G1 p as xs)(q:Q (.bl (if neg then !decide (xs=ys) else decide (xs=ys))) G1):qH neg (.ref p) (enc ys) G1 Q :=
 .inl ⟨_,_,Jp.Wa h,Enc.sn G1 8 ys (by decide),by rw [Enc.eqv]; exact q⟩
theorem PG{neg:Bool}{G:Gp}{xs ys:Rows}{Q:DK}(q:Q (.bl (if neg then !decide (xs=ys) else decide (xs=ys))) G):qH neg (enc xs) (enc ys) G Q :=
 .inl ⟨_,_,Enc.sn G 8 xs (by decide),Enc.sn G 8 ys (by decide),by rw [Enc.eqv]; exact q⟩
theorem Tv{G1:Gp}{R:Nat->Bool}:∀ (as:List Nat) (rs:List (List D)),as.length=rs.length->(∀ a∈as,R a=true)->(∀ (i a:Nat) (r:List D),as[i]?=some a->rs[i]?=some r->G1 a=some (.lst r))->Ab G1 R (as.map D.ref) (rs.map D.cY)
 | [],[],_,_,_=>.nil
 | [],_ :: _,h,_,_=>by cases h
 | _ :: _,[],h,_,_=>by cases h
 | a :: as,r :: rs,h,k,tm=>.cons (.ref (tm 0 a r rfl rfl) (k a (by simp)) (Ab.same _)) (Tv as rs (by simpa using h) (fun b hb=>k b (aL _ hb)) fun i b s h1 h2=>tm (i+1) b s h1 h2)
theorem To{G0 G G' G2:Gp}{p:Nat}{as:List Nat}{t:T.Tb}(h:HL G G' p as (dT t))(le:ff G0 G)(LY:ff G' G2):Fz G2 (fun a=>(G0 a).isNone) (.ref p) (enc t):=by
 rw [zG];have fr:∀ a,G a=none->(G0 a).isNone=true:=fun a ha=>by rw [le.free ha]; rfl
 exact .ref (LY _ _ h.gp) (fr _ h.fp) (Tv as _ h.len (fun a ha=>fr a (h.fr a ha)) fun i a r h1 h2=>LY _ _ (h.at' i a r h1 h2))
theorem Iy{G G1:Gp}{p:Nat}{as:List Nat}{rs:Rows}(h:HR G G1 p as rs){a:Nat}(ha:a∈as):∃ r∈rs,G1 a=some (.lst ((r:List T3).map enc)):=by
 obtain⟨i,hi,e⟩:=eS ha;have h1:as[i]?=some a:=by rw [ai hi,e]
 have D1:i < rs.length:=by rw [<-h.len]; exact hi
 exact⟨rs[i],cB D1,h.at' i a rs[i] h1 (ai D1)⟩
noncomputable abbrev Ud:jU:=Be
noncomputable def NX:hV :=
 (b8 (bE (br jP (dC (.int 1)) (br sR (bu b7 (aw (av 0) (aw (dC (.int 0)) aQ))) (dC (.int 3)))) (aG 1))
 (b8 (bE (dC (.int 12)) (aG 2))
 (b8 (fc (fT (br (qH false) (br sR (br EL (bu b7 (aw (av 0) (aw (dC (.int 0)) aQ))) (dC (.int 3))) (dC (.int 2))) (dC (.int 1)))) (bE (dC (.int 999)) (aG 2)) cN)
 (b8 (bE (br sR (bu b7 (aw (av 0) (aw (dC (.int 2)) aQ))) (dC (.int 13))) (aG 3))
 (b8 (fc (fT (br (qH false) (br sR (bu b7 (aw (av 0) (aw (dC (.int 1)) aQ))) (dC (.int 2))) (dC (.int 1)))) (bE (br sR (av 3) (dC (.int 6))) (aG 3)) cN)
 (b8 (bE (cm (bu fk (aw (zK (av 0) (lC (dC (.int 3))) (lC (br jP (dC (.int 3)) (av 3)))) (aw (av 1) (aw (av 2) aQ))))) (aG 4))
 (b8 (Gh 5 (bE (fx 1 [] (jS (av 4)) (aG 0) none (cm (bu iA (aw (av 0) aQ)))) (aG 5)))
 (b8 (bE (cm (bu dS (aw (av 4) aQ))) (aG 6))
 (b8 (bE (bu jY (aw (cm (av 6)) aQ)) (aG 7))
 (b8 (bE (bu gy (aw (cm (av 6)) aQ)) (aG 8))
 (b8 (fc (B0 (mw (fT (nc jZ (aw (av 7) (aw (bu fZ (aw (av 4) (aw (dC (.bl true)) aQ))) aQ))))) (mw (fT (nc jZ (aw (av 8) (aw (bu fZ (aw (av 4) (aw (dC (.bl false)) aQ))) aQ)))))) (bR (cm (dC (.bl false)))) cN)
 (b8 (fc (B0 (fT (br (qH true) (bu jY (aw (cm (nc dS (aw (av 7) aQ))) aQ)) (av 5))) (fT (br (qH true) (bu gy (aw (cm (nc dS (aw (av 8) aQ))) aQ)) (av 5)))) (bR (cm (dC (.bl false)))) cN)
 (b8 (fc (B0 (fT (br (qH true) (av 6) (av 4))) (mw (fT (bu kX (aw (cm (jb (aw (nc fD (aw (av 7) aQ)) (aw (nc fD (aw (av 8) aQ)) aQ)))) (aw (cm (av 6)) aQ)))))) (bR (cm (dC (.bl false)))) cN)
 (b8 (fc (fT (br Wh (wa tK (aw (zK (av 0) (lC (dC (.int 3))) (lC (br jP (dC (.int 3)) (av 3)))) aQ)) (dC (.int 6)))) (b8 (bE (bu iS (aw (cm (av 6)) aQ)) (aG 9))
 (b8 (fc (B0 (mw (fT (bu j0 (aw (av 9) aQ)))) (B0 (fT (br (qH true) (nc iS (aw (av 7) aQ)) (bu lq (aw (av 9) aQ)))) (fT (br (qH true) (nc iS (aw (av 8) aQ)) (bu lq (aw (av 9) aQ)))))) (bR (cm (dC (.bl false)))) cN)
 (fc (fT (br (qH true) (bu iS (aw (cm (nc gy (aw (av 7) aQ))) aQ)) (av 9))) (bR (cm (dC (.bl false)))) cN))) cN)
 (b8 (dN (jS (br jP (av 7) (av 8))) (aG 10) (kA (tS Cq k6 (av 10) (aw (gi (aw (dC (.int 1)) (aw (dC (.int 0)) (aw (dC (.int 1)) aQ)))) aQ))))
 (b8 (fc (B0 (fT (br (qH true) (av 6) (av 4))) (fT (br (qH true) (bu jY (aw (cm (av 6)) aQ)) (bu fZ (aw (av 4) (aw (dC (.bl true)) aQ)))))) (bR (cm (dC (.bl false)))) cN)
 (bR (cm (br (qH false) (bu gy (aw (cm (av 6)) aQ)) (bu fZ (aw (av 4) (aw (dC (.bl false)) aQ))))))))))))))))))))))
theorem Vy(ds:List D)(G:Gp)(Q:DK)(h:Ud ds G Q fun _ _=>False):NX (fun _ _=>False) (ends Q) (ba 11 ds) G:=by
 obtain⟨ns,rfl,hl,hG,q⟩:=h;unfold NX;simp only [↓cJ,bE,br,dC,bu,aw,av,ba,↓ao,↓aT,↓aj,↓ax,aO,↓aB,↓aP,↓aa,aQ,aG,ends,↓aq,↓ah];refine⟨ns,0,rfl,by decide,by decide,?_⟩;have s1:0<=iY ns 0 % 3:=oW _ (by decide);have s2:iY ns 0 % 3 < 3:=lO _ (by decide);generalize iY ns 0 % 3=s0 at s1 s2;obtain⟨S,hS⟩:∃ S:Nat,1+s0=(S:Int):=⟨(1+s0).toNat,by lia⟩;have hS1:1<=S:=by lia
 have hS3:S<=3:=by lia
 simp only [↓fF,hS];refine cM (fun τ G'=>G=G'/\∃ sp:Int,1<=sp/\sp<=999/\τ=[some (.cY (ns.map D.int)),some (.int S),some (.int sp),none,none,none,none,none,none,none,none]) ?_ ?_
 ·intro N hN;simp only [fc,↓cD,br,bu,aw,av,↓aa,dC,aQ,bE,aG,↓aq,↓ah,cN];refine⟨ns,0,rfl,by decide,?_⟩;simp only [↓rq,↓kl];refine⟨by decide,by decide,by decide,EM ?_⟩;by_cases c:iY ns 0 / 3 % 2=1
  ·simp only [↓bF,↓ar,c,decide_true,↓bc,↓if_false,↓if_true];exact hN _ _ ⟨rfl,999,by decide,by decide,rfl⟩
  ·simp only [↓bF,↓ar,c,decide_false,↓eG,↓if_false];exact hN _ _ ⟨rfl,12,by decide,by decide,rfl⟩
 rintro _ _ ⟨rfl,sp,sp1,sp2,rfl⟩;simp only [↓cJ,bE,br,bu,aw,av,↓aa,dC,aQ,aG,↓aq,↓ah];refine⟨ns,2,rfl,by decide,by decide,?_⟩;have m1:0<=iY ns 2 % 13:=oW _ (by decide);have m2:iY ns 2 % 13 < 13:=lO _ (by decide);generalize iY ns 2 % 13=m0 at m1 m2;refine cM (fun τ G'=>G=G'/\∃ m:Int,0<=m/\m<=12/\τ=[some (.cY (ns.map D.int)),some (.int S),some (.int sp),some (.int m),none,none,none,none,none,none,none]) ?_ ?_
 ·intro N hN;simp only [fc,↓cD,br,bu,aw,av,↓aa,dC,aQ,bE,↓ae,↓kl,aG,↓aq,↓ah,cN];refine⟨ns,1,rfl,by decide,?_⟩;simp only [↓kl];refine⟨by decide,EM ?_⟩;by_cases c:iY ns 1 % 2=1
  ·simp only [↓bF,↓ar,c,decide_true,↓bc,↓if_false,↓if_true];refine⟨by decide,hN _ _ ⟨rfl,m0 % 6,by lia,by lia,rfl⟩⟩
  ·simp only [↓bF,↓ar,c,decide_false,↓eG,↓if_false];exact hN _ _ ⟨rfl,m0,by lia,by lia,rfl⟩
 rintro _ _ ⟨rfl,m,ma,mb,rfl⟩;simp only [↓cJ,bE,cm,bu,aw,zK,av,↓aa,↓kz,dC,↓iV,br,↓ae,↓fF,↓ui,aQ,aG,↓aq,↓ah];rw [nP];intro pS fS;have Mh:(cut ns (some 3) (some (3+m))).length<=12:=by
  unfold cut jJ;simp only;rw [if_neg (by lia),if_neg (by lia)];simp only [eL,cq]; lia
 generalize U5:cut ns (some 3) (some (3+m))=cells at Mh;refine⟨.ref pS,cells,S,sp,rfl,IsL.ref ay,⟨by lia,⟨hS1,hS3⟩,sp1,sp2⟩,fun rows d hlen Z4=>xN (.new fS) ?_⟩;have XY:=Uk d;have YG:=yr d;have str:=d.str;have BN:=d.BN;refine cM (fun τ G'=>G=G'/\τ=[some (.cY (ns.map D.int)),some (.int S),some (.int sp),some (.int m),some (enc rows),some (enc (rows.map cQ)),none,none,none,none,none]) ?_ ?_
 ·intro N hN;simp only [k8,bE,fx,↓dM,av,↓ae,↓aa,aG,↓aq,↓ah];refine fh ⟨Au (by rw [ak]; lia),?_⟩;refine gH (xs:=rows) (fun pr acc τ G2=>G=G2/\(∃ a,τ=[a])/\acc=(pr.map cQ).map enc) ⟨rfl,⟨_,rfl⟩,rfl⟩ (fun _ _ _ _ _=>trivial) ?_ ?_
  ·rintro pr x po acc τ G2 N3 e2 ⟨rfl,⟨a,rfl⟩,rfl⟩ w4;simp only [aG,cm,bu,aw,av,↓ah,↓aa,aQ];have hx:x∈rows:=by rw [e2]; simp
   refine⟨x,rfl,⟨by have:=YG x hx; lia,XY x hx⟩,cS (w4 _ _ _ ⟨rfl,⟨_,rfl⟩,?_⟩)⟩;rw [aK,aK]; rfl
  ·rintro acc τ G2 ⟨rfl,⟨a,rfl⟩,rfl⟩ p f;exact ig (xs:=rows.map cQ) (.new f) f ay (hN _ _ ⟨rfl,rfl⟩)
 rintro _ _ ⟨rfl,rfl⟩;simp only [↓cJ,bE,cm,bu,aw,av,↓ae,↓aa,aQ,aG,↓aq,↓ah];refine⟨rows.map fun r=>r.map enc,by rw [fu],by rw [ak]; lia,fun G3 p2 GY h2=>h2.fz ?_⟩;rw [<-fu];have XR:rows.length<=1000/\∀ r∈rows,r.length<=1000:=⟨by lia,fun r hr=>by have:=YG r hr; lia⟩;have XQ:rows.length<=100/\∀ r∈rows,r.length<=500/\(r.map T3.s).Nodup:=⟨by lia,fun r hr=>⟨by have:=YG r hr; lia,XY r hr⟩⟩;refine cS ⟨rows,rfl,XR,fun p1 Vt G1 Yd=>?_⟩;rw [PM] at Yd;refine cS ⟨rows,rfl,XR,fun p2 GY G2 M0=>?_⟩;rw [KJ] at M0;have UY:=Jp.ku Yd M0.le;have dd:∀ b,Dr (ou b rows):=fun b=>IV d b;have T7:∀ b,(ou b rows).length<=1000/\∀ r∈ou b rows,r.length<=1000:=fun b=>⟨by have:=(dd b).str; lia,fun r hr=>by have:=yr (dd b) r hr; lia⟩;have fl:∀ b,(ou b rows).flatten.length=rows.flatten.length:=fun b=>by rw [(uX b).length_eq,ak]
 refine cM (fun τ G'=>G2=G'/\τ=[some (.cY (ns.map D.int)),some (.int S),some (.int sp),some (.int m),some (enc rows),some (enc (rows.map cQ)),some (enc rows),some (.ref p1),some (.ref p2),none,none]) ?_ ?_
 ·intro N hN;simp only [fc,B0,mw,↓cD,↓qT,aw,av,↓ae,↓aa,bu,dC,aQ,bR,cm,cN,↓if_true];refine⟨rows,true,rfl,XQ,?_⟩;refine By UY (T7 true) ?_;simp only [↓bF,↓bc,↓ar,↓if_false];refine⟨rows,false,rfl,XQ,?_⟩;refine By M0 (T7 false) ?_;simp only [↓bF,↓bc,↓ar,↓if_false];exact hN _ _ ⟨rfl,rfl⟩
 rintro _ _ ⟨rfl,rfl⟩;refine cM (fun τ G'=>ff G2 G'/\τ=[some (.cY (ns.map D.int)),some (.int S),some (.int sp),some (.int m),some (enc rows),some (enc (rows.map cQ)),some (enc rows),some (.ref p1),some (.ref p2),none,none]) ?_ ?_
 ·intro N hN;simp only [fc,B0,↓cD,br,bu,aw,cm,↓qT,av,↓ae,↓aa,aQ,bR,dC,cN,↓if_true];refine Bz UY (T7 true).1 ⟨_,rfl,T7 true,fun p3 as3 G3 Yc=>?_⟩;rw [<-PM,twice V5 XY] at Yc;refine Df Yc ?_;simp only [↓bF,decide_true,↓bc,↓if_true,↓ar,↓if_false];refine Bz (Jp.ku M0 Yc.le) (T7 false).1 ⟨_,rfl,T7 false,fun p4 as4 G4 ZJ=>?_⟩;rw [<-KJ,twice We XY] at ZJ;refine Df ZJ ?_;simp only [↓bF,decide_true,↓bc,↓if_true,↓ar,↓if_false];exact hN _ _ ⟨Yc.le.trans ZJ.le,rfl⟩
 rintro _ G3 ⟨RV,rfl⟩;have hA:=Jp.ku UY RV;have hB:=Jp.ku M0 RV;refine cM (fun τ G'=>G3=G'/\τ=[some (.cY (ns.map D.int)),some (.int S),some (.int sp),some (.int m),some (enc rows),some (enc (rows.map cQ)),some (enc rows),some (.ref p1),some (.ref p2),none,none]) ?_ ?_
 ·intro N hN;simp only [fc,B0,↓cD,br,av,↓ae,↓aa,bR,cm,dC,cN,↓if_true,mw,bu,aw,jb,↓qT,aQ,↓aj,↓ax];refine PG ?_;simp only [↓bF,decide_true,↓bc,↓if_true,↓ar,↓if_false];refine uB hA (dd true) fun G4 q1 bs1 Tp=>?_;refine uB (Jp.ku hB Tp.le) (dd false) fun G5 q2 bs2 tj=>?_;refine⟨by decide,fun q3 f3=>?_⟩;have l4:ff G3 (eA G5 q3 (.lst [.ref q1,.ref q2])):=Tp.le.trans (tj.le.trans (.new f3));refine C3 l4 ((Tp.le.trans tj.le).free f3) ay (ss:=[enc (wV (ou true rows)),enc (wV (ou false rows))]) (.cons (To Tp (.refl _) (tj.le.trans (.new f3))) (.cons (To tj Tp.le (.new f3)) .nil)) ?_;have ls:∀ b,(ou b rows).length=rows.length:=fun b=>by unfold ou; rw [ak]
  refine cS ⟨rows,wV (ou true rows),wV (ou false rows),rfl,⟨d,by rw [<-ls true]; exact CU _,by rw [<-ls false]; exact CU _,fun a b ha hb=>RU d ha hb⟩,?_⟩;simp only [↓bF,↓bc,↓ar,↓if_false];exact hN _ _ ⟨rfl,rfl⟩
 rintro _ _ ⟨rfl,rfl⟩;refine cM (fun τ G'=>ff G3 G'/\∃ x,τ=[some (.cY (ns.map D.int)),some (.int S),some (.int sp),some (.int m),some (enc rows),some (enc (rows.map cQ)),some (enc rows),some (.ref p1),some (.ref p2),x,none]) ?_ ?_
 ·intro N hN;simp only [fc,↓cD,br,wa,aw,zK,av,↓aa,↓kz,dC,↓iV,↓ae,↓fF,↓ui,aQ,↓cJ,bE,bu,cm,aG,↓aq,↓ah,cN];rw [nP,U5];intro p5 f5;refine KS (IsL.ref ay) ?_;simp only [↓CC,↓bF,ak];by_cases c6:(cells.length:Int) < 6
  ·simp only [c6,decide_true,↓if_true];have VS:rows.flatten.length<=12:=by lia
   refine cS ⟨rows,rfl,⟨d,VS⟩,fun T bT=>?_⟩;have trn:∀ (b:Bool) (T1:Po),BP T1 (brk (ou b rows))->v7 T1 (jC T)=true:=fun b T1 b1=>by
    refine Dh b1.nd (Y.Q4 bT.nd) b1.nz (Y.Q3 bT.nz) fun g=>?_;rw [b1.val,Y.K4,bT.val,Dj d]; rfl
   have gl:ff G3 (eA G3 p5 (.lst (cells.map D.int))):=.new f5;generalize eA G3 p5 (.lst (cells.map D.int))=G4 at gl;have hA4:=Jp.ku hA gl;have hB4:=Jp.ku hB gl;refine cM (fun τ G'=>ff G4 G'/\τ=[some (.cY (ns.map D.int)),some (.int S),some (.int sp),some (.int m),some (enc rows),some (enc (rows.map cQ)),some (enc rows),some (.ref p1),some (.ref p2),some (.j8 (bz T)),none]) ?_ ?_
   ·intro N2 kG;simp only [fc,B0,mw,↓cD,bu,aw,av,↓ae,↓aa,aQ,bR,cm,dC,cN,↓if_true,br,↓qT];refine⟨_,T,rfl,⟨rfl,bT.nd⟩,bT.nz,?_⟩;simp only [↓bF,↓bc,↓ar,↓if_false];refine uD hA4 (dd true) (by rw [fl]; exact VS) fun T1 b1=>?_;refine⟨_,T,rfl,⟨rfl,bT.nd⟩,bT.sz,fun p8 f8=>?_⟩;refine yG (l:=T1) (m:=jC T) wo.j8 (wo.ref ay) ?_;simp only [↓bF,trn true T1 b1,↓bc,↓if_true,↓ar,↓if_false];refine uD (Jp.ku hB4 (.new f8)) (dd false) (by rw [fl]; exact VS) fun T2 b2=>?_;refine⟨_,T,rfl,⟨rfl,bT.nd⟩,bT.sz,fun p9 f9=>?_⟩;refine yG (l:=T2) (m:=jC T) wo.j8 (wo.ref ay) ?_;simp only [↓bF,trn false T2 b2,↓bc,↓if_true,↓ar,↓if_false];exact kG _ _ ⟨ff.trans (.new f8) (.new f9),rfl⟩
   rintro _ G5 ⟨le5,rfl⟩;simp only [fc,↓cD,br,bu,aw,cm,↓qT,av,↓ae,↓aa,aQ,bR,dC,cN];refine za (Jp.ku hA4 le5) (T7 true) ?_;rw [KJ];refine⟨_,rfl,⟨IV (dd true) false,?_⟩,fun T3 b3=>?_⟩
   ·rw [(uX false).length_eq,ak,fl]; exact VS
   have ee:v7 T3 T=true:=Dh b3.nd bT.nd b3.nz bT.nz fun g=>by
    rw [b3.val,bT.val,Dj (dd true),Dj d];congr 1;funext i;unfold ng;rw [Int.neg_neg]
   refine yG (l:=T3) (m:=T) wo.j8 wo.j8 ?_;simp only [↓bF,ee,↓bc,↓if_true,↓ar,↓if_false];exact hN _ _ ⟨gl.trans le5,_,rfl⟩
  ·simp only [c6,decide_false,↓ar,↓if_false];exact hN _ _ ⟨.new f5,_,rfl⟩
 rintro _ G6 ⟨le6,x9,rfl⟩;have hA6:=Jp.ku hA le6;have hB6:=Jp.ku hB le6;have Y6:(Vt++GY).Nodup:=List.nodup_append.mpr ⟨Yd.nd,M0.nd,fun a ha b hb e=>by
  subst e;obtain⟨r,_,h⟩:=Iy Yd ha;rw [M0.fr a hb] at h; cases h⟩
 have Xx:∀ a∈Vt++GY,∃ r:List T3,r.length<=24/\G6 a=some (.lst (r.map enc)):=fun a ha=>by
  rcases List.mem_append.mp ha with ha | ha
  ·obtain⟨r,hr,e⟩:=Iy hA6 ha;exact⟨r,yr (dd true) r hr,e⟩
  ·obtain⟨r,hr,e⟩:=Iy hB6 ha;exact⟨r,yr (dd false) r hr,e⟩
 refine cM (fun τ G'=>∃ x,τ=[some (.cY (ns.map D.int)),some (.int S),some (.int sp),some (.int m),some (enc rows),some (enc (rows.map cQ)),some (enc rows),some (.ref p1),some (.ref p2),x9,x]) ?_ ?_
 ·intro N hN;simp only [dN,↓dM,br,av,↓ae,↓aa,↓uk];refine um (IsL.ref hA6.gp) (IsL.ref hB6.gp) (Au ?_) fun p7 f7=>?_
  ·rw [ak,ak,hA6.len,hB6.len];have:=(dd true).str;have:=(dd false).str;lia
  rw [<-aK];have n7:∀ a∈Vt++GY,a≠p7:=fun a ha e=>by
   obtain⟨r,_,h⟩:=Xx a ha;rw [e,f7] at h; cases h
  simp only [RY,ay];refine cW (xs:=Vt++GY) (f:=D.ref) (fun pre τ G'=>(∃ x,τ=[some (.cY (ns.map D.int)),some (.int S),some (.int sp),some (.int m),some (enc rows),some (enc (rows.map cQ)),some (enc rows),some (.ref p1),some (.ref p2),x9,x])/\G' p7=some (.lst ((Vt++GY).map D.ref))/\∀ (i a:Nat),pre.length<=i->(Vt++GY)[i]?=some a->∃ r:List T3,r.length<=24/\G' a=some (.lst (r.map enc))) ⟨⟨_,rfl⟩,ay,fun i a _ h=>by rw [cu (n7 a (bx h))]; exact Xx a (bx h)⟩ (fun _ _ _ h=>h.2.1) ?_ ?_
  ·rintro pre b post τ G' N2 e ⟨⟨x,rfl⟩,gp,tm⟩ kG;have hb:(Vt++GY)[pre.length]?=some b:=by rw [e]; simp
   obtain⟨r,rl,gb⟩:=tm pre.length b (aC _) hb;simp only [aG,kA,tS,av,↓aq,↓ah,↓ae,↓aa,↓nF,gb,aw,gi,dC,aQ,↓aj,↓ax,↓iX,↓true_and];refine⟨by decide,Eo (by rw [ak]; lia),kG _ _ ⟨⟨_,rfl⟩,?_,fun i a h0 h1=>?_⟩⟩
   ·rw [cu (e7 (n7 b (bx hb)))]; exact gp
   ·rw [aE,cb] at h0;have oA:a≠b:=by
     rintro rfl;have h3:=List.getElem?_eq_some_iff.mp h1;have h4:=List.getElem?_eq_some_iff.mp hb;have:=List.pairwise_iff_getElem.mp Y6 pre.length i h4.1 h3.1 (by lia);exact this (h4.2.trans h3.2.symm)
    rw [cu oA];exact tm i a (by lia) h1
  ·rintro τ G' ⟨⟨x,rfl⟩,_⟩;exact hN _ _ ⟨_,rfl⟩
 rintro _ G8 ⟨x,rfl⟩;refine cM (fun τ G'=>τ=[some (.cY (ns.map D.int)),some (.int S),some (.int sp),some (.int m),some (enc rows),some (enc (rows.map cQ)),some (enc rows),some (.ref p1),some (.ref p2),x9,x]) ?_ ?_
 ·intro N hN;simp only [fc,B0,↓cD,br,av,↓ae,↓aa,bR,cm,dC,cN,↓if_true,bu,aw,aQ];refine PG ?_;simp only [↓bF,decide_true,↓bc,↓if_true,↓ar,↓if_false];refine cS ⟨rows,rfl,XR,fun p9 as9 G9 WV=>?_⟩;rw [PM] at WV;refine⟨rows,true,rfl,XQ,Df WV ?_⟩;simp only [↓bF,decide_true,↓bc,↓if_true,↓ar,↓if_false];exact hN _ _ rfl
 rintro _ G9 rfl;simp only [bR,cm,br,bu,aw,av,↓ae,↓aa,aQ,dC];refine cS ⟨rows,rfl,XR,fun p9 as9 G9 WV=>?_⟩;rw [KJ] at WV;refine⟨rows,false,rfl,XQ,Df WV ?_⟩;simp only [↓ar,decide_true,↓bc,↓if_false];exact cS (q _)
end JF
end K2
end
namespace Fin
open PySem PySem.Spec PyProof.Rows L2 K2
open K2.JB hiding fk
open K2.JE (jA sL fk qZ)
open K2.JF
open K2.Aa (fD zW)
open K2.Jp (oE Ca fj qW)
open K2.P (fY qX fN xf gL z8 mM zV lj xc gw vc)
open K2.Y
noncomputable def top(i:Nat):Stmt:=PySem.Challenge.pw_knotwise_k61_whole_switched_reflected.main.body.getD i (.Pass ⟨0,0,0,0⟩)
theorem NL:nT ["_law_script","_law_strings","_law_spread","_law_many","_law_rows_here","_law_seated_rows","_law_handed","_law_one","_law_other","_law_due","_law_row"] ["_law_script"] (bV (top 54)):=scm
section
variable {V:TM} (Y:TK V)
include Y
theorem zA (F:gQ V.K "_law_cell_at" (top 40)) (iF:oR V.K "len"):fO V 1 "_law_cell_at" ["_law_script","_law_k"] b7 :=
 oQ ["_law_script","_law_k"] Y F zY fun hr nd=>have hu:=hr.units; have WQ:=hr.Hy; (aF (eY (dh (HW WQ) (bo 1) (i8 mF rfl (Y.no iF) wd (iW (bo 0))) (eZ _)) (aI (bC (aR (cG hu (bo 0) (bo 1) (fun _ _=>rfl))))) cR)
 (aI (bC (aR aN))))
theorem FU (F:gQ V.K "_law_pick" (top 42)):fO V 1 "_law_pick" ["_law_cell","_law_prime","_law_many"] eB :=
 oQ ["_law_cell","_law_prime","_law_many"] Y F GD fun hr nd=>(aI (bC (aR (cx km (cx km (cx xH (bo 0) aN) (bo 1)) (bo 2)))))
theorem AS (F:gQ V.K "_law_digits" (top 47)) (i9:oR V.K "enumerate") (Je:fO V 1 "_law_pick" ["_law_cell","_law_prime","_law_many"] eB):fO V 2 "_law_digits" ["_law_cell","_law_sizes"] jA :=
 oQ ["_law_cell","_law_sizes","_law_primes","_law_left","_law_found","_law_at","_law_size"] Y F sL fun hr nd=>have hu:=hr.units; (aF (kO (i:=2) nd rfl (gB (dW aN (dW aN (dW aN (dW aN (dW aN (dW aN (dW aN (Bq aN aN aN))))))))))
 (aF (kO (i:=3) nd rfl (cx yP (bo 0) aN))
 (aF (kO (i:=4) nd rfl (gB gE))
 (aF (cK aY rfl (EU rfl (Y.no i9) (bo 1)) (gz rfl (bJ (je (i:=5) nd rfl) (bJ (je (i:=6) nd rfl) fm)) (bK (bK ft))) (aI (eY (dh (o7 hu) (cx km (bo 0) aN) aN (eZ _)) (aF (ly (jQ dc eP eM ke jR (bo 4) (iW (cx km (bo 3) (bo 6)))))
 (aI (kO (i:=3) nd rfl (cx yP (bo 3) (bo 6))))) (aI (ly (jQ dc eP eM ke jR (bo 4) (iW (jt Je hr (Bq (bo 0) (cG hu (bo 2) (bo 5) (fun _ _=>rfl)) (bo 6))))))))))
 (aI (bC (aR (bo 4))))))))
theorem FV (F:gQ V.K "_law_free" (top 45)):fO V 1 "_law_free" ["_law_names","_law_name"] iR :=
 oQ ["_law_names","_law_name"] Y F qY fun hr nd=>have hu:=hr.units; (aF (LD aY (dh (Ow hu) (bo 1) (bo 0) (by with_unfolding_all rfl)) (aI (kO (i:=1) nd rfl (cx e9 (cx km (bo 1) aN) aN))))
 (aI (bC (aR (bo 1)))))
theorem FW (F:gQ V.K "_law_copy" (top 44)) (rE:oR V.K "list"):fO V 1 "_law_copy" ["_law_rows_here"] dS :=
 oQ ["_law_rows_here"] Y F q0 fun hr nd=>(aI (bC (aR (iU ["_law_row"] (sc:=bV (top 44)) (XN:=["_law_rows_here"]) (dJ (bo 0)) (fun _ _ _ _=>(je (i:=0) (show (["_law_row"]:List Str).Nodup by decide +kernel) rfl)) (fun _ _ _ _=>.none) (fun _ _ _ _=>(sU I0 rfl (Y.no rE) KW (iW (bo 0))))))))
theorem II (F:gQ V.K "_law_put" (top 46)) (iF:oR V.K "len") (ni:fO V 1 "_law_copy" ["_law_rows_here"] dS):fO V 2 "_law_put" ["_law_rows_here","_law_at","_law_place","_law_more"] mN :=
 oQ ["_law_rows_here","_law_at","_law_place","_law_more","_law_made"] Y F Jm fun hr nd=>have hu:=hr.units; (aF (kO (i:=4) nd rfl (jt ni hr (iW (bo 0))))
 (aF (kO (i:=2) nd rfl (cx km (bo 2) (cx e9 (i8 mF rfl (Y.no iF) wd (iW (cG hu (bo 4) (bo 1) (fun _ _=>rfl)))) aN)))
 (aF (iJ (cx e9 (cx e9 (fR (cG hu (bo 4) (bo 1) (fun _ _=>rfl)) iT (gc (bo 2))) (bo 3)) (fR (cG hu (bo 4) (bo 1) (fun _ _=>rfl)) (gc (bo 2)) iT)) (jM hu (bo 4) (bo 1)))
 (aI (bC (aR (bo 4)))))))
theorem zx (F:gQ V.K "_law_drawing" (top 48)) (gF:oR V.K "range") (DB:fO V 2 "_law_digits" ["_law_cell","_law_sizes"] jA) (Jf:fO V 1 "_law_free" ["_law_names","_law_name"] iR) (Mw:fO V 2 "_law_put" ["_law_rows_here","_law_at","_law_place","_law_more"] mN):fO V 3 "_law_drawing" ["_law_cells","_law_strings","_law_spread"] fk :=
 oQ ["_law_cells","_law_strings","_law_spread","_law_rows_here","_law_names","_law_cell","_law_part","_law_name","_law_way"] Y F qZ fun hr nd=>have hu:=hr.units; (aF (xE (uo ["_law_k"] (sc:=bV (top 48)) (XN:=["_law_cells","_law_strings","_law_spread","_law_rows_here","_law_names","_law_cell","_law_part","_law_name","_law_way"]) (i:=3) nd rfl rfl (kP rfl (Y.no gF) (bo 1)) (fun _ _ _ _=>(je (i:=0) (show (["_law_k"]:List Str).Nodup by decide +kernel) rfl)) (fun _ _ _ _=>.none) (fun _ _ _ _=>(gB gE))))
 (aF (kO (i:=4) nd rfl (gB gE))
 (aF (cK aY rfl (dJ (bo 0)) (je (i:=5) nd rfl) (aF (kO (i:=6) nd rfl (jt DB hr (mT (aR (bo 5)) (aR (gB (dW (bo 2) (dW aN (dW (bo 1) (Bq aN (bo 1) aN)))))))))
 (aF (kO (i:=7) nd rfl (jt Jf hr (mT (bo 4) (cx e9 aN (cG hu (bo 6) aN (fun _ _=>rfl))))))
 (aF (ly (jQ dc eP eM ke jR (bo 4) (iW (bo 7))))
 (aI (cK aY rfl (kP rfl (Y.no gF) aN) (je (i:=8) nd rfl) (aI (kO (i:=3) nd rfl (aR (jt Mw hr (dW (aR (bo 3)) (Bq (aR (cG hu (bo 6) (cx e9 aN (cx xH aN (bo 8))) (fun _ _=>rfl))) (aR (cG hu (bo 6) (cx e9 aN (cx xH aN (bo 8))) (fun _ _=>rfl))) (aR (gB (iW (di (Bq (bo 7) (bo 8) (cx CJ aN (cx xH aN (cG hu (bo 6) aN (fun _ _=>rfl)))))))))))))))))))))
 (aI (bC (aR (bo 3)))))))
theorem AQ (F:gQ V.K "_law_seated" (top 49)) (iF:oR V.K "len") (gF:oR V.K "range"):fO V 1 "_law_seated" ["_law_row"] iA :=
 oQ ["_law_row","_law_at","_law_k"] Y F A2 fun hr nd=>have hu:=hr.units; (aF (eY (dh (o7 hu) (bo 0) (gB gE) (eZ _)) (aI (bC (aR (gB gE)))) cR)
 (aF (kO (i:=1) nd rfl aN)
 (aF (cK aY rfl (kP rfl (Y.no gF) (i8 mF rfl (Y.no iF) wd (iW (bo 0)))) (je (i:=2) nd rfl) (aI (eY (dh (RI hu) (di (mT (cG hu (cG hu (bo 0) (bo 2) (fun _ _=>rfl)) aN (fun _ _=>rfl)) (cG hu (cG hu (bo 0) (bo 2) (fun _ _=>rfl)) aN (fun _ _=>rfl)))) (di (mT (cG hu (cG hu (bo 0) (bo 1) (fun _ _=>rfl)) aN (fun _ _=>rfl)) (cG hu (cG hu (bo 0) (bo 1) (fun _ _=>rfl)) aN (fun _ _=>rfl)))) (eZ _)) (aI (kO (i:=1) nd rfl (bo 2))) cR)))
 (aI (bC (aR (cx e9 (fR (bo 0) (gc (bo 1)) iT) (fR (bo 0) iT (gc (bo 1))))))))))
theorem Ml (F:gQ V.K "seated" (top 6)) (HY:oR V.K "min"):fO V 1 "seated" ["row"] oE :=
 oQ ["row","start"] Y F Ca fun hr nd=>have hu:=hr.units; (aF (eY (jL (fB (bo 0))) (aI (bC (aR (gB gE)))) cR)
 (aF (kO (i:=1) nd rfl (jQ dc Hm PySem.F.type_list_index ke (LN hu) (bo 0) (iW (i8 (Ms rfl hu) rfl (Y.no HY) Vq (iW (bo 0))))))
 (aI (bC (aR (cx e9 (fR (bo 0) (gc (bo 1)) iT) (fR (bo 0) iT (gc (bo 1)))))))))
theorem zu (F:gQ V.K "seated_rows" (top 7)) (P2:fO V 1 "seated" ["row"] oE):fO V 2 "seated_rows" ["rows"] fj :=
 oQ ["rows"] Y F qW fun hr nd=>(aI (bC (aR (iU ["row"] (sc:=bV (top 7)) (XN:=["rows"]) (dJ (bo 0)) (fun _ _ _ _=>(je (i:=0) (show (["row"]:List Str).Nodup by decide +kernel) rfl)) (fun _ _ _ _=>.none) (fun _ _ _ _=>(jt P2 hr (iW (bo 0))))))))
theorem xp (F:gQ V.K "switched_row" (top 14)):fO V 1 "switched_row" ["row"] jI :=
 oQ ["row"] Y F xt fun hr nd=>(aI (bC (aR (iU ["name","way","hand"] (sc:=bV (top 14)) (XN:=["row"]) (dJ (bo 0)) (fun _ _ _ _=>(gz rfl (bJ (je (i:=0) (show (["name","way","hand"]:List Str).Nodup by decide +kernel) rfl) (bJ (je (i:=1) (show (["name","way","hand"]:List Str).Nodup by decide +kernel) rfl) (bJ (je (i:=2) (show (["name","way","hand"]:List Str).Nodup by decide +kernel) rfl) fm))) (bK (bK (bK ft))))) (fun _ _ _ _=>.none) (fun _ _ _ _=>(di (Bq (bo 0) (cx CJ aN (bo 1)) (sT oZ (bo 2)))))))))
theorem FN (F:gQ V.K "switched" (top 15)) (ox:fO V 2 "seated_rows" ["rows"] fj) (zN:fO V 1 "switched_row" ["row"] jI):fO V 3 "switched" ["drawing"] jY :=
 oQ ["drawing"] Y F Gz fun hr nd=>(aI (bC (aR (jt ox hr (iW (aR (iU ["row"] (sc:=bV (top 15)) (XN:=["drawing"]) (dJ (bo 0)) (fun _ _ _ _=>(je (i:=0) (show (["row"]:List Str).Nodup by decide +kernel) rfl)) (fun _ _ _ _=>.none) (fun _ _ _ _=>(aR (jt zN hr (iW (bo 0))))))))))))
theorem v5 (F:gQ V.K "reflected_row" (top 16)):fO V 1 "reflected_row" ["row"] i6 :=
 oQ ["row"] Y F wm fun hr nd=>(aI (bC (aR (iU ["name","way","hand"] (sc:=bV (top 16)) (XN:=["row"]) (dJ (bo 0)) (fun _ _ _ _=>(gz rfl (bJ (je (i:=0) (show (["name","way","hand"]:List Str).Nodup by decide +kernel) rfl) (bJ (je (i:=1) (show (["name","way","hand"]:List Str).Nodup by decide +kernel) rfl) (bJ (je (i:=2) (show (["name","way","hand"]:List Str).Nodup by decide +kernel) rfl) fm))) (bK (bK (bK ft))))) (fun _ _ _ _=>.none) (fun _ _ _ _=>(di (Bq (bo 0) (bo 1) (sT oZ (bo 2)))))))))
theorem C6 (F:gQ V.K "reflected" (top 17)) (ox:fO V 2 "seated_rows" ["rows"] fj) (xq:fO V 1 "reflected_row" ["row"] i6):fO V 3 "reflected" ["drawing"] gy :=
 oQ ["drawing"] Y F DN fun hr nd=>(aI (bC (aR (jt ox hr (iW (aR (iU ["row"] (sc:=bV (top 17)) (XN:=["drawing"]) (dJ (bo 0)) (fun _ _ _ _=>(je (i:=0) (show (["row"]:List Str).Nodup by decide +kernel) rfl)) (fun _ _ _ _=>.none) (fun _ _ _ _=>(aR (jt xq hr (iW (bo 0))))))))))))
theorem C8 (F:gQ V.K "_law_whole" (top 41)) (CM:oR V.K "bool") (HZ:oR V.K "int") (eT:oR V.K "isinstance"):fO V 1 "_law_whole" ["_law_found"] cI :=
 oQ ["_law_found"] Y F DP fun hr nd=>(aI (bC (aR (RB (xF "int" (by decide) rfl (Y.no eT) rfl (Y.no HZ) Vr (bo 0)) (Ry (Rz (xF "bool" (by decide) rfl (Y.no eT) rfl (Y.no CM) So (bo 0))))))))
theorem FR (F:gQ V.K "_law_rows" (top 50)) (eT:oR V.K "isinstance") (rE:oR V.K "list") (nR:fO V 1 "_law_whole" ["_law_found"] cI):fO V 2 "_law_rows" ["_law_found","_law_due"] jZ :=
 oQ ["_law_found","_law_due","_law_row","_law_passing","_law_number"] Y F GB fun hr nd=>have hu:=hr.units; (aF (eY (ME.pt (oq (jL (fB (xF "list" (by decide) rfl (Y.no eT) rfl (Y.no rE) KW (bo 0)))) (nK (dh (vS hu) (bo 0) (bo 1) (eZ _))))) (aI (bC (aR iE))) cR)
 (aF (cK aY rfl (dJ (bo 0)) (je (i:=2) nd rfl) (aI (cK aY rfl (dJ (bo 2)) (je (i:=3) nd rfl) (aI (cK aY rfl (dJ (bo 3)) (je (i:=4) nd rfl) (aI (eY (jL (fB (jt nR hr (iW (bo 4))))) (aI (bC (aR iE))) cR)))))))
 (aI (bC (aR iE)))))
theorem zy (F:gQ V.K "_law_changed" (top 51)) (pD:fO V 1 "_law_seated" ["_law_row"] iA):fO V 2 "_law_changed" ["_law_rows_here","_law_ways"] fZ :=
 oQ ["_law_rows_here","_law_ways","_law_made","_law_row","_law_fresh","_law_name","_law_way","_law_hand"] Y F zX fun hr nd=>(aF (kO (i:=2) nd rfl (gB gE))
 (aF (cK aY rfl (dJ (bo 0)) (je (i:=3) nd rfl) (aF (kO (i:=4) nd rfl (gB gE))
 (aF (cK aY rfl (dJ (bo 3)) (gz rfl (bJ (je (i:=5) nd rfl) (bJ (je (i:=6) nd rfl) (bJ (je (i:=7) nd rfl) fm))) (bK (bK (bK ft)))) (aF (eY (fB (bo 1)) (aI (kO (i:=6) nd rfl (cx CJ aN (bo 6)))) cR)
 (aI (ly (jQ dc eP eM ke jR (bo 4) (iW (aR (di (Bq (bo 5) (bo 6) (sT oZ (bo 7)))))))))))
 (aI (ly (jQ dc eP eM ke jR (bo 2) (iW (aR (jt pD hr (iW (aR (bo 4))))))))))))
 (aI (bC (aR (bo 2))))))
theorem zv (F:gQ V.K "passings_of" (top 5)):fO V 1 "passings_of" ["rows"] fY :=
 oQ ["rows","passings","row"] Y F qX fun hr nd=>(aF (kO (i:=1) nd rfl (gB gE))
 (aF (cK aY rfl (dJ (bo 0)) (je (i:=2) nd rfl) (aI (ly (jQ dc PySem.F.slot_list_extend PySem.F.type_list_extend ke Ie (bo 1) (iW (bo 2))))))
 (aI (bC (aR (bo 1))))))
theorem FQ (F:gQ V.K "names_of" (top 8)) (mD:oR V.K "sorted") (oy:fO V 1 "passings_of" ["rows"] fY):fO V 2 "names_of" ["drawing"] fN :=
 oQ ["drawing"] Y F xf fun hr nd=>have hu:=hr.units; (aI (bC (aR (i8 (u4 rfl hu) rfl (Y.no mD) B3 (iW (iU ["passing"] (sc:=bV (top 8)) (XN:=["drawing"]) (dJ (jt oy hr (iW (bo 0)))) (fun _ _ _ _=>(je (i:=0) (show (["passing"]:List Str).Nodup by decide +kernel) rfl)) (fun _ _ _ _=>(.some (dh (o7 hu) (cG hu (bo 0) aN (fun _ _=>rfl)) aN (eZ _)))) (fun _ _ _ _=>(cG hu (bo 0) aN (fun _ _=>rfl)))))))))
theorem FO (F:gQ V.K "spots_on" (top 10)):fO V 1 "spots_on" ["row","string"] lj :=
 oQ ["row","string"] Y F xc fun hr nd=>(aF (eY (jL (fB (bo 0))) (aI (bC (aR (gB (iW (di (mT (bo 1) aN))))))) cR)
 (aI (bC (aR (iU ["passing"] (sc:=bV (top 10)) (XN:=["row","string"]) (dJ (bo 0)) (fun _ _ _ _=>(je (i:=0) (show (["passing"]:List Str).Nodup by decide +kernel) rfl)) (fun _ _ _ _=>.none) (fun _ _ _ _=>(fR (bo 0) iT (gc aN))))))))
theorem C5 (F:gQ V.K "string_of" (top 12)) (i9:oR V.K "enumerate") (Jb:fO V 1 "spots_on" ["row","string"] lj):fO V 2 "string_of" ["drawing","spot"] gw :=
 oQ ["drawing","spot","string","row"] Y F vc fun hr nd=>have hu:=hr.units; (aF (cK aY rfl (EU rfl (Y.no i9) (bo 0)) (gz rfl (bJ (je (i:=2) nd rfl) (bJ (je (i:=3) nd rfl) fm)) (bK (bK ft))) (aI (eY (dh (Ow hu) (bo 1) (jt Jb hr (mT (bo 3) (bo 2))) (by with_unfolding_all rfl)) (aI (bC (aR (bo 2)))) cR)))
 (aI Bm))
theorem IJ (F:gQ V.K "hand_of" (top 9)) (oy:fO V 1 "passings_of" ["rows"] fY):fO V 2 "hand_of" ["drawing","name"] gL :=
 oQ ["drawing","name","passing"] Y F z8 fun hr nd=>have hu:=hr.units; (aF (cK aY rfl (dJ (jt oy hr (iW (bo 0)))) (je (i:=2) nd rfl) (aI (eY (dh (o7 hu) (cG hu (bo 2) aN (fun _ _=>rfl)) (bo 1) (eZ _)) (aI (bC (aR (cG hu (bo 2) aN (fun _ _=>rfl))))) cR)))
 (aI Bm))
theorem IH (F:gQ V.K "linking" (top 38)) (tH:fO V 2 "names_of" ["drawing"] fN) (w8:fO V 2 "string_of" ["drawing","spot"] gw) (wc:fO V 2 "hand_of" ["drawing","name"] gL):fO V 3 "linking" ["drawing"] fD :=
 oQ ["drawing","sums","string","name","above","below"] Y F zW fun hr nd=>have hu:=hr.units; (aF (kO (i:=1) nd rfl (gB gE))
 (aF (cK aY rfl (dJ (bo 0)) (je (i:=2) nd rfl) (aI (ly (jQ dc eP eM ke jR (bo 1) (iW (iU ["other"] (sc:=bV (top 38)) (XN:=["drawing","sums","string","name","above","below"]) (dJ (bo 0)) (fun _ _ _ _=>(je (i:=0) (show (["other"]:List Str).Nodup by decide +kernel) rfl)) (fun _ _ _ _=>.none) (fun _ _ _ _=>aN)))))))
 (aF (cK aY rfl (dJ (jt tH hr (iW (bo 0)))) (je (i:=3) nd rfl) (aF (kO (i:=4) nd rfl (jt w8 hr (mT (bo 0) (di (mT (bo 3) aN)))))
 (aF (kO (i:=5) nd rfl (jt w8 hr (mT (bo 0) (di (mT (bo 3) aN)))))
 (aI (eY (dh (vS hu) (bo 4) (bo 5) (eZ _)) (aI (iJ (cx e9 (cG hu (cG hu (bo 1) (bo 4) (fun _ _=>rfl)) (bo 5) (fun _ _=>rfl)) (jt wc hr (mT (bo 0) (bo 3)))) (jM hu (cG hu (bo 1) (bo 4) (fun _ _=>rfl)) (bo 5)))) cR)))))
 (aI (bC (aR (bo 1)))))))
theorem AR (F:gQ V.K "_law_linked" (top 52)) (iF:oR V.K "len") (gF:oR V.K "range") (rW:fO V 3 "linking" ["drawing"] fD):fO V 4 "_law_linked" ["_law_found","_law_rows_here"] kX :=
 oQ ["_law_found","_law_rows_here","_law_table","_law_many","_law_one","_law_other"] Y F A3 fun hr nd=>have hu:=hr.units; (aF (kO (i:=2) nd rfl (aR (jt rW hr (iW (bo 1)))))
 (aF (kO (i:=3) nd rfl (i8 mF rfl (Y.no iF) wd (iW (bo 1))))
 (aF (cK aY rfl (kP rfl (Y.no gF) (bo 3)) (je (i:=4) nd rfl) (aI (cK aY rfl (kP rfl (Y.no gF) (bo 3)) (je (i:=5) nd rfl) (aI (eY (ME.pt (oq (dh (vS hu) (cG hu (cG hu (cG hu (bo 0) aN (fun _ _=>rfl)) (bo 4) (fun _ _=>rfl)) (bo 5) (fun _ _=>rfl)) (sT oZ (cG hu (cG hu (bo 2) (bo 5) (fun _ _=>rfl)) (bo 4) (fun _ _=>rfl))) (eZ _)) (nK (dh (vS hu) (cG hu (cG hu (cG hu (bo 0) aN (fun _ _=>rfl)) (bo 4) (fun _ _=>rfl)) (bo 5) (fun _ _=>rfl)) (sT oZ (cG hu (cG hu (bo 2) (bo 4) (fun _ _=>rfl)) (bo 5) (fun _ _=>rfl))) (eZ _))))) (aI (bC (aR iE))) cR)))))
 (aI (bC (aR iE))))))
theorem IG (F:gQ V.K "next_of" (top 11)) (vU:oR V.K "zip"):fO V 1 "next_of" ["drawing"] mM :=
 oQ ["drawing","behind","row","passing","follower"] Y F zV fun hr nd=>have hu:=hr.units; (aF (kO (i:=1) nd rfl nN)
 (aF (cK aY rfl (dJ (bo 0)) (je (i:=2) nd rfl) (aI (cK aY rfl (J8 rfl (Y.no vU) (bo 2) (cx e9 (fR (bo 2) (gc aN) iT) (fR (bo 2) iT (gc aN)))) (gz rfl (bJ (je (i:=3) nd rfl) (bJ (je (i:=4) nd rfl) fm)) (bK (bK ft))) (aI (iJ (fR (bo 4) iT (gc aN)) (jM hu (bo 1) (fR (bo 3) iT (gc aN))))))))
 (aI (bC (aR (bo 1))))))
theorem IF (F:gQ V.K "plan_of" (top 30)) (mD:oR V.K "sorted") (yU:oR V.K "tuple"):fO V 1 "plan_of" ["far"] kM :=
 oQ ["far"] Y F Jl fun hr nd=>have hu:=hr.units; have WQ:=hr.Hy; (aI (bC (aR (sU Gq rfl (Y.no yU) Qd (iW (i8 (u4 rfl hu) rfl (Y.no mD) B3 (iW (iU ["end","far"] (sc:=bV (top 30)) (XN:=["far"]) (yM (bo 0)) (fun _ _ _ _=>(je (i:=0) (show (["end","far"]:List Str).Nodup by decide +kernel) rfl)) (fun _ _ _ _=>(.some (dh (HW WQ) (bo 0) (cG hu (bo 1) (bo 0) (fun _ _=>rfl)) (eZ _)))) (fun _ _ _ _=>(di (mT (bo 0) (cG hu (bo 1) (bo 0) (fun _ _=>rfl)))))))))))))
theorem FY (F:gQ V.K "far_ends" (top 32)):fO V 1 "far_ends" ["threads"] j3 :=
 oQ ["threads","far","one","other"] Y F GG fun hr nd=>have hu:=hr.units; (aF (kO (i:=1) nd rfl nN)
 (aF (cK aY rfl (dJ (bo 0)) (gz rfl (bJ (je (i:=2) nd rfl) (bJ (je (i:=3) nd rfl) fm)) (bK (bK ft))) (aF (iJ (bo 3) (jM hu (bo 1) (bo 2)))
 (aI (iJ (bo 2) (jM hu (bo 1) (bo 3))))))
 (aI (bC (aR (bo 1))))))
theorem AP (F:gQ V.K "whole_plan" (top 31)) (Mu:fO V 1 "next_of" ["drawing"] mM) (wb:fO V 1 "plan_of" ["far"] kM) (tJ:fO V 1 "far_ends" ["threads"] j3):fO V 2 "whole_plan" ["drawing"] kW :=
 oQ ["drawing","threads"] Y F A0 fun hr nd=>(aF (uo ["spot","after"] (sc:=bV (top 31)) (XN:=["drawing","threads"]) (i:=1) nd rfl rfl (HP (jt Mu hr (iW (bo 0)))) (fun _ _ _ _=>(gz rfl (bJ (je (i:=0) (show (["spot","after"]:List Str).Nodup by decide +kernel) rfl) (bJ (je (i:=1) (show (["spot","after"]:List Str).Nodup by decide +kernel) rfl) fm)) (bK (bK ft)))) (fun _ _ _ _=>.none) (fun _ _ _ _=>(di (mT (cx e9 (bo 0) (di (iW aN))) (cx e9 (bo 1) (di (iW aN)))))))
 (aI (bC (aR (jt wb hr (iW (aR (jt tJ hr (iW (bo 1))))))))))
theorem tu (F:gQ V.K "without_noughts" (top 20)):fO V 1 "without_noughts" ["sums"] dD :=
 oQ ["sums","kept","power","number"] Y F tM fun hr nd=>have hu:=hr.units; (aF (kO (i:=1) nd rfl nN)
 (aF (cK aY rfl (oI (bo 0)) (gz rfl (bJ (je (i:=2) nd rfl) (bJ (je (i:=3) nd rfl) fm)) (bK (bK ft))) (aI (eY (dh (vS hu) (bo 3) aN (eZ _)) (aI (iJ (bo 3) (jM hu (bo 1) (bo 2)))) cR)))
 (aI (bC (aR (bo 1))))))
theorem Pz (F:gQ V.K "times" (top 22)) (gI:fO V 1 "without_noughts" ["sums"] dD):fO V 2 "times" ["one","other"] jz :=
 oQ ["one","other","sums","power","number","other_power","other_number","both"] Y F Qk fun hr nd=>have hu:=hr.units; (aF (kO (i:=2) nd rfl nN)
 (aF (cK aY rfl (oI (bo 0)) (gz rfl (bJ (je (i:=3) nd rfl) (bJ (je (i:=4) nd rfl) fm)) (bK (bK ft))) (aI (cK aY rfl (oI (bo 1)) (gz rfl (bJ (je (i:=5) nd rfl) (bJ (je (i:=6) nd rfl) fm)) (bK (bK ft))) (aF (kO (i:=7) nd rfl (cx e9 (bo 3) (bo 5)))
 (aI (iJ (cx e9 (jQ df gO l0 oC Kf (bo 2) (mT (bo 7) aN)) (cx EY (bo 4) (bo 6))) (jM hu (bo 2) (bo 7))))))))
 (aI (bC (aR (jt gI hr (iW (aR (bo 2)))))))))
theorem Mm (F:gQ V.K "raised" (top 24)) (gF:oR V.K "range") (Dy:fO V 2 "times" ["one","other"] jz):fO V 3 "raised" ["one","count"] iw :=
 oQ ["one","count","product","step"] Y F MI fun hr nd=>(aF (kO (i:=2) nd rfl (Oq aN aN))
 (aF (cK aY rfl (kP rfl (Y.no gF) (bo 1)) (je (i:=3) nd rfl) (aI (kO (i:=2) nd rfl (jt Dy hr (mT (aR (bo 2)) (aR (bo 0)))))))
 (aI (bC (aR (bo 2))))))
theorem zB (F:gQ V.K "joined_plan" (top 33)) (tJ:fO V 1 "far_ends" ["threads"] j3) (wb:fO V 1 "plan_of" ["far"] kM):fO V 2 "joined_plan" ["plan","pairs"] kg :=
 oQ ["plan","pairs","far","closed","one","other","before","after"] Y F zZ fun hr nd=>have hu:=hr.units; (aF (kO (i:=2) nd rfl (jt tJ hr (iW (bo 0))))
 (aF (kO (i:=3) nd rfl aN)
 (aF (cK aY rfl (dJ (bo 1)) (gz rfl (bJ (je (i:=4) nd rfl) (bJ (je (i:=5) nd rfl) fm)) (bK (bK ft))) (aF (kO (i:=6) nd rfl (jQ df sN La oC (Fb hu) (bo 2) (iW (bo 4))))
 (aF (kO (i:=7) nd rfl (jQ df sN La oC (Fb hu) (bo 2) (iW (bo 5))))
 (aI (eY (dh (o7 hu) (bo 6) (bo 5) (eZ _)) (aI (kO (i:=3) nd rfl (cx e9 (bo 3) aN))) (aF (iJ (bo 7) (jM hu (bo 2) (bo 6)))
 (aI (iJ (bo 6) (jM hu (bo 2) (bo 7))))))))))
 (aI (bC (aR (di (mT (jt wb hr (iW (aR (bo 2)))) (bo 3)))))))))
theorem Mo (F:gQ V.K "joints" (top 28)) {o4:Tok} (kB:gf V.K bW "ALONG" = some (some (.int 0 o4))):fO V 1 "joints" ["name","split"] rn :=
 oQ ["name","split"] Y F MK fun hr nd=>have hu:=hr.units; (aF (eY (dh (o7 hu) (bo 1) (xG rfl (Y.mg kB)) (eZ _)) (aI (bC (aR (gB (mT (di (mT (di (Bq (bo 0) aN aN)) (di (Bq (bo 0) aN aN)))) (di (mT (di (Bq (bo 0) aN aN)) (di (Bq (bo 0) aN aN))))))))) cR)
 (aI (bC (aR (gB (mT (di (mT (di (Bq (bo 0) aN aN)) (di (Bq (bo 0) aN aN)))) (di (mT (di (Bq (bo 0) aN aN)) (di (Bq (bo 0) aN aN))))))))))
theorem IE (F:gQ V.K "shifted" (top 23)) (gI:fO V 1 "without_noughts" ["sums"] dD):fO V 2 "shifted" ["one","by","factor"] ic :=
 oQ ["one","by","factor","sums","power","number"] Y F Jk fun hr nd=>have hu:=hr.units; (aF (kO (i:=3) nd rfl nN)
 (aF (cK aY rfl (oI (bo 0)) (gz rfl (bJ (je (i:=4) nd rfl) (bJ (je (i:=5) nd rfl) fm)) (bK (bK ft))) (aI (iJ (cx EY (bo 5) (bo 2)) (jM hu (bo 3) (cx e9 (bo 4) (bo 1))))))
 (aI (bC (aR (jt gI hr (iW (aR (bo 3)))))))))
theorem FP (F:gQ V.K "power_at" (top 29)) {o4:Tok} (kB:gf V.K bW "ALONG" = some (some (.int 0 o4))):fO V 1 "power_at" ["hand","split"] nH :=
 oQ ["hand","split"] Y F GA fun hr nd=>have hu:=hr.units; (aI (bC (aR (UA (dh (o7 hu) (bo 1) (xG rfl (Y.mg kB)) (eZ _)) (bo 0) (sT oZ (bo 0))))))
theorem PA (F:gQ V.K "added" (top 21)) (no_dict:oR V.K "dict") (gI:fO V 1 "without_noughts" ["sums"] dD):fO V 2 "added" ["one","other"] lu :=
 oQ ["one","other","sums","power","number"] Y F Ql fun hr nd=>have hu:=hr.units; (aF (kO (i:=2) nd rfl (sU Ja rfl (Y.no no_dict) DE (iW (bo 0))))
 (aF (cK aY rfl (oI (bo 1)) (gz rfl (bJ (je (i:=3) nd rfl) (bJ (je (i:=4) nd rfl) fm)) (bK (bK ft))) (aI (iJ (cx e9 (jQ df gO l0 oC Kf (bo 2) (mT (bo 3) aN)) (bo 4)) (jM hu (bo 2) (bo 3)))))
 (aI (bC (aR (jt gI hr (iW (aR (bo 2)))))))))
theorem C7 (F:gQ V.K "opened_at" (top 34)) (no_dict:oR V.K "dict") {vE:Tok} (tx:gf V.K bW "AGAINST" = some (some (.int 1 vE))) {o4:Tok} (kB:gf V.K bW "ALONG" = some (some (.int 0 o4))) {mY:Addr} (rK:gf V.K bW "LOOP" = some (some (.ref mY))) (rJ:(mY == da)=false) (rL:BY V.K mY [(2,-1),(-2,-1)]=true) (AY:fO V 2 "joined_plan" ["plan","pairs"] kg) (P5:fO V 1 "joints" ["name","split"] rn) (Mt:fO V 2 "shifted" ["one","by","factor"] ic) (Jc:fO V 1 "power_at" ["hand","split"] nH) (Dy:fO V 2 "times" ["one","other"] jz) (zO:fO V 3 "raised" ["one","count"] iw) (Sj:fO V 2 "added" ["one","other"] lu):fO V 4 "opened_at" ["sums","name","hand"] mj :=
 oQ ["sums","name","hand","after","plan","poly","split","made","part","kept"] Y F DO fun hr nd=>have hu:=hr.units; (aF (kO (i:=3) nd rfl J9)
 (aF (xE (cK aY rfl (yL (bo 0)) (gz rfl (bJ (je (i:=4) nd rfl) (bJ (je (i:=5) nd rfl) fm)) (bK (bK ft))) (aI (cK aY rfl (dJ (di (mT (xG rfl (Y.mg kB)) (xG rfl (Y.mg tx))))) (je (i:=6) nd rfl) (aF (kO (i:=7) nd rfl (jt AY hr (mT (bo 4) (jt P5 hr (mT (bo 1) (bo 6))))))
 (aF (kO (i:=8) nd rfl (jt Mt hr (Bq (aR (jt Dy hr (mT (aR (bo 5)) (aR (jt zO hr (mT (aR (Bn rfl (Y.no no_dict) rfl (Y.mg rK) rJ rL (by decide) (by decide))) (aR (cG hu (bo 7) aN (fun _ _=>rfl))))))))) (aR (jt Jc hr (mT (bo 2) (bo 6)))) (aR aN))))
 (aI (iJ (aR (jt Sj hr (mT (aR (jQ df gO l0 JM (Fc hu) (bo 3) (mT (aR (cG hu (bo 7) aN (fun _ _=>rfl))) (aR nN)))) (aR (bo 8))))) (EV hu (bo 3) (cG hu (bo 7) aN (fun _ _=>rfl)))))))))))
 (aF (kO (i:=9) nd rfl J9)
 (aF (xE (cK aY rfl (yL (bo 3)) (gz rfl (bJ (je (i:=4) nd rfl) (bJ (je (i:=5) nd rfl) fm)) (bK (bK ft))) (aI (eY (fB (bo 5)) (aI (iJ (aR (bo 5)) (EV hu (bo 9) (bo 4)))) cR))))
 (aI (bC (aR (bo 9))))))))
theorem Mn (F:gQ V.K "opened" (top 35)) (no_dict:oR V.K "dict") (iF:oR V.K "len") (vU:oR V.K "zip") {mY:Addr} (rK:gf V.K bW "LOOP" = some (some (.ref mY))) (rJ:(mY == da)=false) (rL:BY V.K mY [(2,-1),(-2,-1)]=true) (wc:fO V 2 "hand_of" ["drawing","name"] gL) (Dx:fO V 2 "whole_plan" ["drawing"] kW) (zO:fO V 3 "raised" ["one","count"] iw) (Gr:fO V 4 "opened_at" ["sums","name","hand"] mj):fO V 5 "opened" ["drawing","names"] rm :=
 oQ ["drawing","names","hands","loose","sums","name","hand"] Y F MJ fun hr nd=>have hu:=hr.units; (aF (uo ["name","drawing"] (sc:=bV (top 35)) (XN:=["drawing","names","hands","loose","sums","name","hand"]) (i:=2) nd rfl rfl (dJ (bo 1)) (fun _ _ _ _=>(je (i:=0) (show (["name","drawing"]:List Str).Nodup by decide +kernel) rfl)) (fun _ _ _ _=>.none) (fun _ _ _ _=>(jt wc hr (mT (bo 1) (bo 0)))))
 (aF (kO (i:=3) nd rfl (i8 mF rfl (Y.no iF) wd (iW (iU ["row"] (sc:=bV (top 35)) (XN:=["drawing","names","hands","loose","sums","name","hand"]) (dJ (bo 0)) (fun _ _ _ _=>(je (i:=0) (show (["row"]:List Str).Nodup by decide +kernel) rfl)) (fun _ _ _ _=>(.some (jL (fB (bo 0))))) (fun _ _ _ _=>(bo 0))))))
 (aF (kO (i:=4) nd rfl (aR (Oo hu (jt Dx hr (iW (bo 0))) (aR (jt zO hr (mT (aR (Bn rfl (Y.no no_dict) rfl (Y.mg rK) rJ rL (by decide) (by decide))) (aR (bo 3))))))))
 (aF (cK aY rfl (J8 rfl (Y.no vU) (bo 1) (bo 2)) (gz rfl (bJ (je (i:=5) nd rfl) (bJ (je (i:=6) nd rfl) fm)) (bK (bK ft))) (aI (kO (i:=4) nd rfl (aR (jt Gr hr (Bq (bo 4) (bo 5) (bo 6)))))))
 (aI (bC (aR (bo 4))))))))
theorem IK (F:gQ V.K "bracket" (top 36)) (P4:fO V 5 "opened" ["drawing","names"] rm) (tH:fO V 2 "names_of" ["drawing"] fN):fO V 6 "bracket" ["drawing"] iS :=
 oQ ["drawing"] Y F Jn fun hr nd=>have hu:=hr.units; (aI (bC (aR (jQ df gO l0 JM (Fc hu) (jt P4 hr (mT (bo 0) (jt tH hr (iW (bo 0))))) (mT (aR (di gE)) (aR nN))))))
theorem FT (F:gQ V.K "_law_poly" (top 43)) (no_dict:oR V.K "dict") (eT:oR V.K "isinstance") (nR:fO V 1 "_law_whole" ["_law_found"] cI):fO V 2 "_law_poly" ["_law_found"] j0 :=
 oQ ["_law_found","_law_at"] Y F GC fun hr nd=>have hu:=hr.units; (aF (eY (jL (fB (xF "dict" (by decide) rfl (Y.no eT) rfl (Y.no no_dict) DE (bo 0)))) (aI (bC (aR iE))) cR)
 (aF (cK aY rfl (yM (bo 0)) (je (i:=1) nd rfl) (aI (eY (ME.pt (oq (jL (fB (jt nR hr (iW (bo 1))))) (oq (jL (fB (jt nR hr (iW (cG hu (bo 0) (bo 1) (fun _ _=>rfl)))))) (nK (dh (o7 hu) (cG hu (bo 0) (bo 1) (fun _ _=>rfl)) aN (eZ _)))))) (aI (bC (aR iE))) cR)))
 (aI (bC (aR iE)))))
theorem FX (F:gQ V.K "_law_back" (top 53)):fO V 1 "_law_back" ["_law_one"] lq :=
 oQ ["_law_one","_law_made","_law_at"] Y F GF fun hr nd=>have hu:=hr.units; (aF (kO (i:=1) nd rfl nN)
 (aF (cK aY rfl (yM (bo 0)) (je (i:=2) nd rfl) (aI (iJ (cG hu (bo 0) (bo 2) (fun _ _=>rfl)) (jM hu (bo 1) (sT oZ (bo 2))))))
 (aI (bC (aR (bo 1))))))
theorem Ve {f:Addr} {fd:gm} (F:SE V.K "law" "law" (top 54) f fd) (iF:oR V.K "len") (lg:fO V 1 "_law_cell_at" ["_law_script","_law_k"] b7) (AX:fO V 3 "_law_drawing" ["_law_cells","_law_strings","_law_spread"] fk) (pD:fO V 1 "_law_seated" ["_law_row"] iA) (ni:fO V 1 "_law_copy" ["_law_rows_here"] dS) (tG:fO V 3 "switched" ["drawing"] jY) (nQ:fO V 3 "reflected" ["drawing"] gy) (zP:fO V 2 "_law_rows" ["_law_found","_law_due"] jZ) (k9:fO V 2 "_law_changed" ["_law_rows_here","_law_ways"] fZ) (DA:fO V 4 "_law_linked" ["_law_found","_law_rows_here"] kX) (rW:fO V 3 "linking" ["drawing"] fD) (rX:fO V 6 "bracket" ["drawing"] iS) (Jd:fO V 2 "_law_poly" ["_law_found"] j0) (zQ:fO V 1 "_law_back" ["_law_one"] lq):wu V.P V.w V.K V.mg V.base Js 7 f fd ["_law_script"] (AF V.K K2.Be) :=
 fo2 F NL Vy fun _ _ _ _ _ _ hr=>have nd:=NL.nd; have hu:=hr.units; have WQ:=hr.Hy; (aF (kO (i:=1) nd rfl (cx e9 aN (cx km (jt lg hr (mT (bo 0) aN)) aN)))
 (aF (kO (i:=2) nd rfl aN)
 (aF (eY (dh (CK hu) (cx km (cx yP (jt lg hr (mT (bo 0) aN)) aN) aN) aN (eZ _)) (aI (kO (i:=2) nd rfl aN)) cR)
 (aF (kO (i:=3) nd rfl (cx km (jt lg hr (mT (bo 0) aN)) aN))
 (aF (eY (dh (CK hu) (cx km (jt lg hr (mT (bo 0) aN)) aN) aN (eZ _)) (aI (kO (i:=3) nd rfl (cx km (bo 3) aN))) cR)
 (aF (kO (i:=4) nd rfl (aR (jt AX hr (Bq (fR (bo 0) (gc aN) (gc (cx e9 aN (bo 3)))) (bo 1) (bo 2)))))
 (aF (xE (uo ["_law_row"] (sc:=bV (top 54)) (XN:=["_law_script","_law_strings","_law_spread","_law_many","_law_rows_here","_law_seated_rows","_law_handed","_law_one","_law_other","_law_due","_law_row"]) (i:=5) nd rfl rfl (dJ (bo 4)) (fun _ _ _ _=>(je (i:=0) (show (["_law_row"]:List Str).Nodup by decide +kernel) rfl)) (fun _ _ _ _=>.none) (fun _ _ _ _=>(aR (jt pD hr (iW (bo 0)))))))
 (aF (kO (i:=6) nd rfl (aR (jt ni hr (iW (bo 4)))))
 (aF (kO (i:=7) nd rfl (jt tG hr (iW (aR (bo 6)))))
 (aF (kO (i:=8) nd rfl (jt nQ hr (iW (aR (bo 6)))))
 (aF (eY (ME.pt (oq (jL (fB (zP.el fun _ _ q=>i7 q.ok (hr.mono (by decide)) rfl q.mg q.kp q.bi (mT (bo 7) (jt k9 hr (mT (bo 4) iE)))))) (nK (jL (fB (zP.el fun _ _ q=>i7 q.ok (hr.mono (by decide)) rfl q.mg q.kp q.bi (mT (bo 8) (jt k9 hr (mT (bo 4) iE))))))))) (aI (bC (aR iE))) cR)
 (aF (eY (ME.pt (oq (dh (nO hu) (jt tG hr (iW (aR (ni.el fun _ _ q=>i7 q.ok (hr.mono (by decide)) rfl q.mg q.kp q.bi (iW (bo 7)))))) (bo 5) (eZ _)) (nK (dh (nO hu) (jt nQ hr (iW (aR (ni.el fun _ _ q=>i7 q.ok (hr.mono (by decide)) rfl q.mg q.kp q.bi (iW (bo 8)))))) (bo 5) (eZ _))))) (aI (bC (aR iE))) cR)
 (aF (eY (ME.pt (oq (dh (nO hu) (bo 6) (bo 4) (eZ _)) (nK (jL (fB (jt DA hr (mT (aR (gB (mT (rW.el fun _ _ q=>i7 q.ok (hr.mono (by decide)) rfl q.mg q.kp q.bi (iW (bo 7))) (rW.el fun _ _ q=>i7 q.ok (hr.mono (by decide)) rfl q.mg q.kp q.bi (iW (bo 8)))))) (aR (bo 6))))))))) (aI (bC (aR iE))) cR)
 (aF (eY (dh (HW WQ) (i8 mF rfl (Y.no iF) wd (iW (fR (bo 0) (gc aN) (gc (cx e9 aN (bo 3)))))) aN (eZ _)) (aF (kO (i:=9) nd rfl (jt rX hr (iW (aR (bo 6)))))
 (aF (eY (ME.pt (oq (jL (fB (jt Jd hr (iW (bo 9))))) (oq (dh (nO hu) (rX.el fun _ _ q=>i7 q.ok (hr.mono (by decide)) rfl q.mg q.kp q.bi (iW (bo 7))) (jt zQ hr (iW (bo 9))) (eZ _)) (nK (dh (nO hu) (rX.el fun _ _ q=>i7 q.ok (hr.mono (by decide)) rfl q.mg q.kp q.bi (iW (bo 8))) (jt zQ hr (iW (bo 9))) (eZ _)))))) (aI (bC (aR iE))) cR)
 (aI (eY (dh (nO hu) (jt rX hr (iW (aR (nQ.el fun _ _ q=>i7 q.ok (hr.mono (by decide)) rfl q.mg q.kp q.bi (iW (bo 7)))))) (bo 9) (eZ _)) (aI (bC (aR iE))) cR)))) cR)
 (aF (cK aY rfl (dJ (cx e9 (bo 7) (bo 8))) (je (i:=10) nd rfl) (aI (ly (jQ dc eP eM ke jR (bo 10) (iW (di (Bq aN aN aN)))))))
 (aF (eY (ME.pt (oq (dh (nO hu) (bo 6) (bo 4) (eZ _)) (nK (dh (nO hu) (jt tG hr (iW (aR (bo 6)))) (jt k9 hr (mT (bo 4) iE)) (eZ _))))) (aI (bC (aR iE))) cR)
 (aI (bC (aR (RA (CK hu) (jt nQ hr (iW (aR (bo 6)))) (jt k9 hr (mT (bo 4) iE)) (eZ _)))))))))))))))))))))
end
theorem all_mk {l:Cf} {w:World} {K:au} {h:Heap} {mg:Str->Option Value} {fa fl:Addr} {dl:gm} (X:K.In h) (G:h.Ns bW mg) (hfa:mg "law" = some (.ref fa)) (FL:At K "law" (top 54) fl dl) (F0:gQ K "_law_cell_at" (top 40)) (F1:gQ K "_law_pick" (top 42)) (F2:gQ K "_law_digits" (top 47)) (F3:gQ K "_law_free" (top 45)) (F4:gQ K "_law_copy" (top 44)) (F5:gQ K "_law_put" (top 46)) (F6:gQ K "_law_drawing" (top 48)) (F7:gQ K "_law_seated" (top 49)) (F8:gQ K "seated" (top 6)) (F9:gQ K "seated_rows" (top 7)) (F10:gQ K "switched_row" (top 14)) (F11:gQ K "switched" (top 15)) (F12:gQ K "reflected_row" (top 16)) (F13:gQ K "reflected" (top 17)) (F14:gQ K "_law_whole" (top 41)) (F15:gQ K "_law_rows" (top 50)) (F16:gQ K "_law_changed" (top 51)) (F17:gQ K "passings_of" (top 5)) (F18:gQ K "names_of" (top 8)) (F19:gQ K "spots_on" (top 10)) (F20:gQ K "string_of" (top 12)) (F21:gQ K "hand_of" (top 9)) (F22:gQ K "linking" (top 38)) (F23:gQ K "_law_linked" (top 52)) (F24:gQ K "next_of" (top 11)) (F25:gQ K "plan_of" (top 30)) (F26:gQ K "far_ends" (top 32)) (F27:gQ K "whole_plan" (top 31)) (F28:gQ K "without_noughts" (top 20)) (F29:gQ K "times" (top 22)) (F30:gQ K "raised" (top 24)) (F31:gQ K "joined_plan" (top 33)) (F32:gQ K "joints" (top 28)) (F33:gQ K "shifted" (top 23)) (F34:gQ K "power_at" (top 29)) (F35:gQ K "added" (top 21)) (F36:gQ K "opened_at" (top 34)) (F37:gQ K "opened" (top 35)) (F38:gQ K "bracket" (top 36)) (F39:gQ K "_law_poly" (top 43)) (F40:gQ K "_law_back" (top 53)) {o4:Tok} (kB:autoParam (gf K bW "ALONG" = some (some (.int 0 o4))) Aq._auto_1) {vE:Tok} (tx:autoParam (gf K bW "AGAINST" = some (some (.int 1 vE))) Aq._auto_1) {mY:Addr} (rK:autoParam (gf K bW "LOOP" = some (some (.ref mY))) Aq._auto_1) (rJ:autoParam ((mY == da)=false) Ae._auto_1) (rL:autoParam (BY K mY [(2,-1),(-2,-1)]=true) Af._auto_1) (iF:autoParam (oR K "len") M6._auto_1) (i9:autoParam (oR K "enumerate") M6._auto_1) (rE:autoParam (oR K "list") M6._auto_1) (gF:autoParam (oR K "range") M6._auto_1) (HY:autoParam (oR K "min") M6._auto_1) (CM:autoParam (oR K "bool") M6._auto_1) (HZ:autoParam (oR K "int") M6._auto_1) (eT:autoParam (oR K "isinstance") M6._auto_1) (mD:autoParam (oR K "sorted") M6._auto_1) (vU:autoParam (oR K "zip") M6._auto_1) (yU:autoParam (oR K "tuple") M6._auto_1) (no_dict:autoParam (oR K "dict") M6._auto_1) :
  ∃ fd:gm,(∀ (s:az) (v:Value),BindsTo s fd ⟨[v],[]⟩ [("_law_script",v)])/\∀ base:Heap,K.In base->base.Ns bW mg->wu l.prog w K mg base Js 7 fa fd ["_law_script"] (AF K K2.Be):=by
 have e:=hfa.symm.trans (PySem.W.mg_of X G FL.a);cases e;obtain⟨Fa,Fl⟩:=FL;obtain⟨oc,od,kV,doc,pm,an,mE,ct,LJ,rfl,lk,Ks⟩:=Fl.ex;refine⟨kD "law" "law" (k7 (top 54)) (iK (top 54)) (bV (top 54)) .none kV doc pm an mE ct,fun s v=>.of_eq rfl,fun base _ _=>?_⟩;have Y:TK ⟨l.prog,w,K,mg,base⟩:=⟨X,G⟩;have c0:=zA Y F0 iF;have c1:=FU Y F1;have c2:=AS Y F2 i9 c1;have c3:=FV Y F3;have c4:=FW Y F4 rE;have c5:=II Y F5 iF c4;have c6:=zx Y F6 gF c2 c3 c5;have c7:=AQ Y F7 iF gF;have c8:=Ml Y F8 HY;have c9:=zu Y F9 c8;have c10:=xp Y F10;have c11:=FN Y F11 c9 c10;have VS:=v5 Y F12;have c13:=C6 Y F13 c9 VS;have c14:=C8 Y F14 CM HZ eT;have c15:=FR Y F15 eT rE c14;have c16:=zy Y F16 c7;have c17:=zv Y F17;have c18:=FQ Y F18 mD c17;have c19:=FO Y F19;have c20:=C5 Y F20 i9 c19;have c21:=IJ Y F21 c17;have c22:=IH Y F22 c18 c20 c21;have c23:=AR Y F23 iF gF c22;have c24:=IG Y F24 vU;have c25:=IF Y F25 mD yU;have c26:=FY Y F26;have c27:=AP Y F27 c24 c25 c26;have c28:=tu Y F28;have c29:=Pz Y F29 c28;have c30:=Mm Y F30 gF c29;have c31:=zB Y F31 c26 c25;have c32:=Mo Y F32 kB;have c33:=IE Y F33 c28;have c34:=FP Y F34 kB;have c35:=PA Y F35 no_dict c28;have c36:=C7 Y F36 no_dict tx kB rK rJ rL c31 c32 c33 c34 c29 c30 c35;have c37:=Mn Y F37 no_dict iF vU rK rJ rL c21 c27 c30 c36;have c38:=IK Y F38 c37 c18;have c39:=FT Y F39 no_dict eT c14;have c40:=FX Y F40;exact Ve Y Fl iF c0 c6 c7 c4 c11 c13 c15 c16 c23 c22 c38 c39 c40
section
open PySem.W PySem.Calls
noncomputable def hC (n:Str) (t:Nat) (l:List Value):Obj:=⟨.type "code",none,.fields (.str n t :: .str n (t+1) :: .str "/claim/cut.py" (t+2) :: l).toArray,#[]⟩
noncomputable def hI(n:Int):Value:=.int n 0
noncomputable def hR(n:Nat):Value:=.ref n
noncomputable def hN:Value:=.none
noncomputable def hT:Value:=.bool true
noncomputable def hS (n:Nat):Value:=.str "/claim/cut.py" n
noncomputable def hD(n:Str)(t:Nat)(l a:Int)(r:Nat)(x y z:Value)(u:Nat):Obj:=hC n t [hI l,hI a,hI 0,hI 0,hI 3,hR r,hT,hI 181,hR (r+1),hN,x,y,z,hI (u - 1),hI l,hS u]
noncomputable abbrev hF (i:Nat) (n:Str) (m c:Value):Obj:=⟨.type "function",none,.func (kD n n (k7 (top i)) (iK (top i)) (bV (top i)) .none .none .none m none c .none),#[]⟩
noncomputable abbrev hE(P:Params)(s:Str)(t:Nat)(v:Value):fE:=⟨PyData.keyHash P s,.str s t,v⟩
noncomputable def hQ:bI:=PySem.W.view PySem.Challenge.pw_knotwise_k61_whole_switched_reflected [1,2,3,5,6,7,8,9,10,11,12,14,15,16,17,19,20,21,22,23,24,26,27,28,29,30,31,32,33,34,35,36,38,40,41,42,43,44,45,46,47,48,49,50,51,52,53,54]
noncomputable def hK (P:Params):au:=(nat_lit 3,⟨(.type "dict"),none,(.dict #[hE P "__name__" 165 (.str "law_knotwise_k61_whole_switched_reflected" 496),hE P "__doc__" 166 .none,hE P "__package__" 167 .none,hE P "__loader__" 168 (.builtin "__main__.__loader__#opaque"),hE P "__spec__" 169 .none,hE P "__annotations__" 170 (.ref 6),hE P "__builtins__" 171 (.ref 4),hE P "__file__" 173 (.str "/claim/cut.py" 172),hE P "__cached__" 174 .none,hE P "KnotError" 206 (.ref 24),hE P "NoName" 222 (.ref 37),hE P "NoSpot" 238 (.ref 49),hE P "passings_of" 249 (.ref 58),hE P "seated" 257 (.ref 65),hE P "seated_rows" 263 (.ref 70),hE P "names_of" 269 (.ref 75),hE P "hand_of" 278 (.ref 82),hE P "spots_on" 284 (.ref 87),hE P "next_of" 295 (.ref 94),hE P "string_of" 305 (.ref 101),hE P "switched_row" 313 (.ref 106),hE P "switched" 319 (.ref 111),hE P "reflected_row" 325 (.ref 116),hE P "reflected" 331 (.ref 121),hE P "LOOP" 343 (.ref 122),hE P "without_noughts" 353 (.ref 129),hE P "added" 364 (.ref 136),hE P "times" 378 (.ref 143),hE P "shifted" 390 (.ref 150),hE P "raised" 400 (.ref 157),hE P "ALONG" 404 (.int 0 403),hE P "AGAINST" 406 (.int 1 405),hE P "joints" 414 (.ref 164),hE P "power_at" 422 (.ref 171),hE P "plan_of" 428 (.ref 176),hE P "whole_plan" 434 (.ref 181),hE P "far_ends" 444 (.ref 188),hE P "joined_plan" 458 (.ref 195),hE P "opened_at" 474 (.ref 202),hE P "opened" 480 (.ref 207),hE P "bracket" 487 (.ref 214),hE P "linking" 495 (.ref 219),hE P "_law_cell_at" 505 (.ref 226),hE P "_law_whole" 512 (.ref 233),hE P "_law_pick" 521 (.ref 240),hE P "_law_poly" 529 (.ref 247),hE P "_law_copy" 535 (.ref 252),hE P "_law_free" 543 (.ref 259),hE P "_law_put" 554 (.ref 266),hE P "_law_digits" 567 (.ref 273),hE P "_law_drawing" 573 (.ref 278),hE P "_law_seated" 582 (.ref 285),hE P "_law_rows" 593 (.ref 292),hE P "_law_changed" 607 (.ref 299),hE P "_law_linked" 619 (.ref 306),hE P "_law_back" 628 (.ref 313),hE P "law" 634 (.ref 318)] 57),#[]⟩) ::
(nat_lit 57,hD "passings_of" 241 9 1 52 (hR 54) (hR 55) (hR 56) 248) ::
(nat_lit 58,hF 5 "passings_of" (.str "knotwise.drawings" 239) (.ref 57)) ::
(nat_lit 64,hD "seated" 250 14 1 59 (hR 61) (hR 62) (hR 63) 256) ::
(nat_lit 65,hF 6 "seated" (.str "knotwise.drawings" 239) (.ref 64)) ::
(nat_lit 69,hD "seated_rows" 258 19 1 66 hN hN (hR 68) 262) ::
(nat_lit 70,hF 7 "seated_rows" (.str "knotwise.drawings" 239) (.ref 69)) ::
(nat_lit 74,hD "names_of" 264 21 1 71 hN hN (hR 73) 268) ::
(nat_lit 75,hF 8 "names_of" (.str "knotwise.drawings" 239) (.ref 74)) ::
(nat_lit 81,hD "hand_of" 270 23 2 76 (hR 78) (hR 79) (hR 80) 277) ::
(nat_lit 82,hF 9 "hand_of" (.str "knotwise.drawings" 239) (.ref 81)) ::
(nat_lit 86,hD "spots_on" 279 28 2 83 hN hN (hR 85) 283) ::
(nat_lit 87,hF 10 "spots_on" (.str "knotwise.drawings" 239) (.ref 86)) ::
(nat_lit 93,hD "next_of" 285 32 1 88 (hR 90) (hR 91) (hR 92) 294) ::
(nat_lit 94,hF 11 "next_of" (.str "knotwise.drawings" 239) (.ref 93)) ::
(nat_lit 100,hD "string_of" 296 38 2 95 (hR 97) (hR 98) (hR 99) 304) ::
(nat_lit 101,hF 12 "string_of" (.str "knotwise.drawings" 239) (.ref 100)) ::
(nat_lit 105,hD "switched_row" 308 44 1 102 hN hN (hR 104) 312) ::
(nat_lit 106,hF 14 "switched_row" (.str "knotwise.makings" 306) (.ref 105)) ::
(nat_lit 110,hD "switched" 314 46 1 107 hN hN (hR 109) 318) ::
(nat_lit 111,hF 15 "switched" (.str "knotwise.makings" 306) (.ref 110)) ::
(nat_lit 115,hD "reflected_row" 320 48 1 112 hN hN (hR 114) 324) ::
(nat_lit 116,hF 16 "reflected_row" (.str "knotwise.makings" 306) (.ref 115)) ::
(nat_lit 120,hD "reflected" 326 50 1 117 hN hN (hR 119) 330) ::
(nat_lit 121,hF 17 "reflected" (.str "knotwise.makings" 306) (.ref 120)) ::
(nat_lit 122,⟨(.type "dict"),none,(.dict #[⟨2,(.int 2 334),(.int (-1) 336)⟩,⟨(-2),(.int (-2) 338),(.int (-1) 340)⟩] 2),#[]⟩) ::
(nat_lit 128,hD "without_noughts" 344 54 1 123 (hR 125) (hR 126) (hR 127) 352) ::
(nat_lit 129,hF 20 "without_noughts" (.str "knotwise.polys" 332) (.ref 128)) ::
(nat_lit 135,hD "added" 354 60 2 130 (hR 132) (hR 133) (hR 134) 363) ::
(nat_lit 136,hF 21 "added" (.str "knotwise.polys" 332) (.ref 135)) ::
(nat_lit 142,hD "times" 365 65 2 137 (hR 139) (hR 140) (hR 141) 377) ::
(nat_lit 143,hF 22 "times" (.str "knotwise.polys" 332) (.ref 142)) ::
(nat_lit 149,hD "shifted" 379 72 3 144 (hR 146) (hR 147) (hR 148) 389) ::
(nat_lit 150,hF 23 "shifted" (.str "knotwise.polys" 332) (.ref 149)) ::
(nat_lit 156,hD "raised" 391 77 2 151 (hR 153) (hR 154) (hR 155) 399) ::
(nat_lit 157,hF 24 "raised" (.str "knotwise.polys" 332) (.ref 156)) ::
(nat_lit 163,hD "joints" 407 85 2 158 (hR 160) (hR 161) (hR 162) 413) ::
(nat_lit 164,hF 28 "joints" (.str "knotwise.brackets" 401) (.ref 163)) ::
(nat_lit 170,hD "power_at" 415 89 2 165 (hR 167) (hR 168) (hR 169) 421) ::
(nat_lit 171,hF 29 "power_at" (.str "knotwise.brackets" 401) (.ref 170)) ::
(nat_lit 175,hD "plan_of" 423 91 1 172 hN hN (hR 174) 427) ::
(nat_lit 176,hF 30 "plan_of" (.str "knotwise.brackets" 401) (.ref 175)) ::
(nat_lit 180,hD "whole_plan" 429 93 1 177 hN hN (hR 179) 433) ::
(nat_lit 181,hF 31 "whole_plan" (.str "knotwise.brackets" 401) (.ref 180)) ::
(nat_lit 187,hD "far_ends" 435 96 1 182 (hR 184) (hR 185) (hR 186) 443) ::
(nat_lit 188,hF 32 "far_ends" (.str "knotwise.brackets" 401) (.ref 187)) ::
(nat_lit 194,hD "joined_plan" 445 102 2 189 (hR 191) (hR 192) (hR 193) 457) ::
(nat_lit 195,hF 33 "joined_plan" (.str "knotwise.brackets" 401) (.ref 194)) ::
(nat_lit 201,hD "opened_at" 459 114 3 196 (hR 198) (hR 199) (hR 200) 473) ::
(nat_lit 202,hF 34 "opened_at" (.str "knotwise.brackets" 401) (.ref 201)) ::
(nat_lit 206,hD "opened" 475 126 2 203 hN hN (hR 205) 479) ::
(nat_lit 207,hF 35 "opened" (.str "knotwise.brackets" 401) (.ref 206)) ::
(nat_lit 213,hD "bracket" 481 133 1 208 (hR 210) (hR 211) (hR 212) 486) ::
(nat_lit 214,hF 36 "bracket" (.str "knotwise.brackets" 401) (.ref 213)) ::
(nat_lit 218,hD "linking" 490 136 1 215 hN hN (hR 217) 494) ::
(nat_lit 219,hF 38 "linking" (.str "knotwise.marks" 488) (.ref 218)) ::
(nat_lit 225,hD "_law_cell_at" 498 147 2 220 (hR 222) (hR 223) (hR 224) 504) ::
(nat_lit 226,hF 40 "_law_cell_at" (.str "law_knotwise_k61_whole_switched_reflected" 496) (.ref 225)) ::
(nat_lit 232,hD "_law_whole" 506 151 1 227 (hR 229) (hR 230) (hR 231) 511) ::
(nat_lit 233,hF 41 "_law_whole" (.str "law_knotwise_k61_whole_switched_reflected" 496) (.ref 232)) ::
(nat_lit 239,hD "_law_pick" 513 153 3 234 (hR 236) (hR 237) (hR 238) 520) ::
(nat_lit 240,hF 42 "_law_pick" (.str "law_knotwise_k61_whole_switched_reflected" 496) (.ref 239)) ::
(nat_lit 246,hD "_law_poly" 522 155 1 241 (hR 243) (hR 244) (hR 245) 528) ::
(nat_lit 247,hF 43 "_law_poly" (.str "law_knotwise_k61_whole_switched_reflected" 496) (.ref 246)) ::
(nat_lit 251,hD "_law_copy" 530 162 1 248 hN hN (hR 250) 534) ::
(nat_lit 252,hF 44 "_law_copy" (.str "law_knotwise_k61_whole_switched_reflected" 496) (.ref 251)) ::
(nat_lit 258,hD "_law_free" 536 164 2 253 (hR 255) (hR 256) (hR 257) 542) ::
(nat_lit 259,hF 45 "_law_free" (.str "law_knotwise_k61_whole_switched_reflected" 496) (.ref 258)) ::
(nat_lit 265,hD "_law_put" 544 168 4 260 (hR 262) (hR 263) (hR 264) 553) ::
(nat_lit 266,hF 46 "_law_put" (.str "law_knotwise_k61_whole_switched_reflected" 496) (.ref 265)) ::
(nat_lit 272,hD "_law_digits" 555 173 2 267 (hR 269) (hR 270) (hR 271) 566) ::
(nat_lit 273,hF 47 "_law_digits" (.str "law_knotwise_k61_whole_switched_reflected" 496) (.ref 272)) ::
(nat_lit 277,hD "_law_drawing" 568 184 3 274 hN hN (hR 276) 572) ::
(nat_lit 278,hF 48 "_law_drawing" (.str "law_knotwise_k61_whole_switched_reflected" 496) (.ref 277)) ::
(nat_lit 284,hD "_law_seated" 574 194 1 279 (hR 281) (hR 282) (hR 283) 581) ::
(nat_lit 285,hF 49 "_law_seated" (.str "law_knotwise_k61_whole_switched_reflected" 496) (.ref 284)) ::
(nat_lit 291,hD "_law_rows" 583 202 2 286 (hR 288) (hR 289) (hR 290) 592) ::
(nat_lit 292,hF 50 "_law_rows" (.str "law_knotwise_k61_whole_switched_reflected" 496) (.ref 291)) ::
(nat_lit 298,hD "_law_changed" 594 211 2 293 (hR 295) (hR 296) (hR 297) 606) ::
(nat_lit 299,hF 51 "_law_changed" (.str "law_knotwise_k61_whole_switched_reflected" 496) (.ref 298)) ::
(nat_lit 305,hD "_law_linked" 608 221 2 300 (hR 302) (hR 303) (hR 304) 618) ::
(nat_lit 306,hF 52 "_law_linked" (.str "law_knotwise_k61_whole_switched_reflected" 496) (.ref 305)) ::
(nat_lit 312,hD "_law_back" 620 229 1 307 (hR 309) (hR 310) (hR 311) 627) ::
(nat_lit 313,hF 53 "_law_back" (.str "law_knotwise_k61_whole_switched_reflected" 496) (.ref 312)) ::
(nat_lit 317,hD "law" 629 234 1 314 hN hN (hR 316) 633) ::
(nat_lit 318,hF 54 "law" (.str "law_knotwise_k61_whole_switched_reflected" 496) (.ref 317)) :: []
noncomputable def hA:List Addr:=[3,57,58,64,65,69,70,74,75,81,82,86,87,93,94,100,101,105,106,110,111,115,116,120,121,122,128,129,135,136,142,143,149,150,156,157,163,164,170,171,175,176,180,181,187,188,194,195,201,202,206,207,213,214,218,219,225,226,232,233,239,240,246,247,251,252,258,259,265,266,272,273,277,278,284,285,291,292,298,299,305,306,312,313,317,318]
noncomputable def hL:List Str:=["LOOP"]
noncomputable abbrev Pu(w:World):Prop:=∀ os:OsState,(topFrom treeTable (aW).row.prog w 4146 ⟨Nf w.params,Le [],Hk,Nd,os⟩).map (fun s=>(openSeen hQ hL (ye (aW).row.prog.main.body) (TQ aW hQ) true s,hA.map s.heap.get?))=some (openGood hQ hL,(hK w.params).map fun p=>some p.2)
theorem h_f (w:World):Pu (w.withFollow "special-get-raises" false):=fun os=>by kernel_rfl
theorem h_t (w:World):Pu (w.withFollow "special-get-raises" true):=fun os=>by kernel_rfl
theorem Va (w:World) (os:OsState):(topFrom treeTable (aW).row.prog w 4146 ⟨Nf w.params,Le [],Hk,Nd,os⟩).map (fun s=>(openSeen hQ hL (ye (aW).row.prog.main.body) (TQ aW hQ) true s,hA.map s.heap.get?))=some (openGood hQ hL,(hK w.params).map fun p=>some p.2):=(byRow2 "special-get-raises" (P:=fun w=>Pu w) h_f h_t) w os
theorem U9:(aW).wellSaid=true:=by kernel_rfl
theorem U8:JO aW hQ=true:=by kernel_rfl
end
end Fin
end Internal
open Internal
open PySem PySem.W PyProof.Rows
set_option maxRecDepth 100000 in
set_option maxHeartbeats 0 in
theorem PySem.Challenge.cw_knotwise_k61_whole_switched_reflected_holds : PySem.Challenge.rw_knotwise_k61_whole_switched_reflected.Holds := by
 w_on
 refine K2.Mg (q:=Fin.hQ) (K:=Fin.hK) (as:=Fin.hA) (N:=4146) Fin.U9 (by kernel_rfl) (by kernel_rfl) (fun _=>by kernel_rfl) (fun _=>by kernel_rfl) Fin.Va (by rfl) (by rfl) (by rfl) (by rfl) Fin.U8 ⟨rfl,rfl,rfl,rfl,rfl,by decide +kernel⟩ ?hw ?hc
 (case hw=>w_witness2)
 k_fill
 refine K2.OP (l:=aW) (k:=7) (x:="_law_script") rfl rfl ⟨rfl,by decide,by decide⟩ (fun w h Y=>Y) ?F
 case F =>
  intro w mg fa h KX G W2;exact Fin.all_mk KX G W2 K2.TF K2.eD K2.eD K2.eD K2.eD K2.eD K2.eD K2.eD K2.eD K2.eD K2.eD K2.eD K2.eD K2.eD K2.eD K2.eD K2.eD K2.eD K2.eD K2.eD K2.eD K2.eD K2.eD K2.eD K2.eD K2.eD K2.eD K2.eD K2.eD K2.eD K2.eD K2.eD K2.eD K2.eD K2.eD K2.eD K2.eD K2.eD K2.eD K2.eD K2.eD K2.eD
