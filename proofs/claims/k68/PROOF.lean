import PyProof.Rows.All
import Wide.All
import OpenK.AllK
import Wide.FinOn
import Lean
import PyProof.EqAt
import PyProof.EqKinds
import PyProof.TupleCall
import PySem.Challenge.RW_knotwise_k68_whole_braids_by_pictures
open Array renaming length_toList -> eX, forIn_toList -> xQ, getElem?_eq_getElem -> Gs, getD -> IY, mk -> KW, getElem?_eq_none -> Mx
open Array.Perm renaming refl -> mE
open Bool renaming false_eq_true -> aF, and_eq_true -> aK, noConfusion -> bw, not_true -> cj, false_ne_true -> dF, not_false -> fK, and_eq_true_iff -> jD, or_eq_true -> oH, false_and -> qf, true_and -> zC, and_false -> IX, false_or -> Mw, beq_eq_decide_eq -> Qj
open Classical renaming byContradiction -> ji
open False renaming elim -> bD
open ForInStep renaming yield -> r8
open Function renaming comp -> FF, comp_def -> Qi
open Int renaming natCast_nonneg -> cf, toNat_natCast -> cF, add_comm -> eQ, le_refl -> lP, zero_add -> vF, one_mul -> xO, mul_add -> xP, mul_assoc -> zJ, add_zero -> DA, mul_comm -> QD
open List renaming getElem?_cons_zero -> aa, getElem?_cons_succ -> ae, length_cons -> ah, map_cons -> aj, set_cons_zero -> ak, set_cons_succ -> ao, getElem?_eq_getElem -> aq, mem_cons_of_mem -> au, length_append -> az, length_nil -> aA, length_map -> aE, cons_append -> aG, nil_append -> aL, nodup_cons -> aQ, size_toArray -> aR, mem_singleton -> aU, map_nil -> aW, getD_eq_getElem?_getD -> aZ, mem_cons -> a9, mem_append_right -> bg, replicate -> bo, map_append -> bq, getElem?_map -> br, mem_append_left -> bB, map_map -> bC, not_mem_nil -> bI, mem_map_of_mem -> bQ, length_singleton -> bR, filter_cons -> bV, foldl_cons -> bY, find?_cons_of_pos -> b9, find?_cons_of_neg -> cb, nodup_nil -> cA, length_drop -> cC, getElem_mem -> cD, mem_cons_self -> cG, append_nil -> cH, map_congr_left -> cQ, length -> cV, getElem_append_left -> dc, find?_cons -> dh, append_assoc -> dq, range -> dR, nodup_append -> dS, length_filter_le -> dU, flatten_cons -> dW, filter_append -> eC, mem_of_getElem? -> eD, all_eq_true -> eM, getElem?_append_right -> eS, flatMap_cons -> eY, drop_eq_getElem_cons -> fb, length_replicate -> fh, length_erase_of_mem -> ft, foldl_append -> fO, length_pos_of_mem -> fV, length_take -> gj, find?_eq_none -> gE, mem_of_find?_eq_some -> gJ, getElem?_append_left -> gK, map_id -> ib, filter_sublist -> ic, getElem?_set_self -> iS, length_zip -> jd, mem_erase_of_ne -> jB, getElem?_set_ne -> jC, getElem_append_right -> jW, zip_cons_cons -> kI, length_set -> kJ, getElem?_replicate -> kK, any_cons -> kL, drop_eq_nil_of_le -> k8, pairwise_map -> lz, take_append_drop -> mB, getElem?_eq_none -> mC, all_map -> mD, getElem_map -> mR, find?_some -> oF, filterMap_cons -> oG, length_range -> rq, take_nil -> sC, all_cons -> sD, getElem_zip -> sS, take_of_length_le -> tT, of_mem_zip -> vo, filter_nil -> vp, drop_left -> w7, pairwise_cons -> zA, drop_nil -> zB, set_nil -> BJ, mem_map -> BK, lookup_cons -> Dy, mem_or_eq_of_mem_set -> IU, pairwise_singleton -> Ms, filter_cons_of_pos -> Mt, filter_cons_of_neg -> Mu, getElem_singleton -> MV, singleton_append -> Qg, perm_append_comm -> Qh
open List.Perm renaming swap -> tU, cons -> BL
open List.Sublist renaming map -> i8, nodup -> mL
open Nat renaming le_refl -> aB, le_trans -> bc, ne_of_lt -> bh, lt_of_lt_of_le -> bK, zero_le -> bZ, pow_le_pow_right -> cU, lt_of_le_of_lt -> dI, zero_add -> dZ, mul_le_mul_right -> eK, lt_irrefl -> iq, add_assoc -> jA, le_add_right -> j3, pow_succ -> mK, lt_succ_of_lt -> rZ, add_sub_cancel_left -> sR, succ_le_succ -> tR, lt_succ_self -> tS, lt_of_succ_lt_succ -> tZ, le_of_succ_le_succ -> t4, not_lt_zero -> vD, min_eq_left -> Gj, le_succ -> Gk, succ_mul -> Qy, ne_of_gt -> Qz, le_of_lt -> QA, add_zero -> QB, add_comm -> QC
open Ne renaming symm -> da
open Option renaming getD_some -> fY, map_some -> tQ, isSome_map -> zy, getD_none -> Ay
open Option.some renaming inj -> aX, injEq -> KS
open PyProof.Rows renaming callWith_type1 -> dN, IntsAre -> lO, slot_tuple_getitem -> vn, callWith_builtin1 -> vC, seqObj -> xF, envOfC -> Av, AllBare -> BM
open PySem renaming wpAny_bind -> ag, Shared -> av, wpAny_pure -> aw, sizeLine -> aY, wpAny_loadPart' -> bx, Program -> bz, mainGlobals -> bL, starEach -> bS, wpAny_newObj_type -> cy, wpAny_call_entry -> cz, sizeLine_eq -> cI, Around -> cL, sysModules -> cO, wpAny_holding -> cS, compareOp -> dg, bootBuiltins -> du, wpAny_callSpecial?_slot -> eR, DictEntry -> fc, wpAny_dictEntries -> fX, ReadsAll -> gC, FuncData -> gG, mem_of_lookup -> hW, wpAny_truthy_bool -> ik, tupleKind -> ip, wpAny_typeNameOfWhole_itemiter -> iQ, wpAny_field -> iT, binaryOp -> iU, wpAny_typeNameOfWhole_keyiter -> i7, wpAny_Call_Name_kw -> jr, wpAny_passesOwn -> jF, Paired -> j0, wpAny_typeNameOf_itemiter -> kl, wpAny_seqItems -> km, wpAny_forIn_list -> kG, wpAny_typeNameOf_keyiter -> kU, wpAny_setField_rec -> lJ, wpAny_pyIter_tuple -> lK, wpAny_dictEpoch -> lL, tupleKind_room_in1 -> lM, codeAny_builtin -> lN, wpAny_isOneOf_itemiter -> mQ, wpAny_pyIter_slot -> ny, wpAny_pyIter_list -> nA, foldedSetIterable -> nB, valueAt -> nC, IsItemIter -> nE, wpAny_fieldsOf -> nR, firstArgMember -> nS, wpAny_isInstance -> oM, rawInt -> pG, plainId_quiet -> pT, sliceBounds -> qi, richCompare -> qj, argBest -> ql, backTo -> sx, NameKind -> sA, wpAny_setField -> sP, wpAny_pyIter_enum -> tW, wpAny_mono -> tX, wpAny_standAt -> vt, wpAny_letGo -> vw, wpAny_Call_method0_late -> vA, pyNext -> wo, richCompare_meets_room -> w5, evalArgs_none -> w6, wpAny_updateSeq -> xB, wpAny_specialOf -> xC, wpAny_notOrdered_dict -> xD, wpAny_execs_nil -> xE, letOwnedTupleGo -> xG, isSubtype_tuple_tuple -> xI, importedModules -> xJ, codeAny_mono -> xK, call_meetsIn -> xM, assignEach -> zx, wpAny_tryCatch -> As, pyIter -> Au, wpAny_of_eq -> BG, codeAny -> BH, wpAny_tupleItemsOf -> DF, wpAny_attempt -> DG, attributeBase -> DH, HeapKind -> DL, wpAny_truthy_dict -> FW, storedH -> FX, relabel -> FY, intKind -> FZ, holding -> Ga, callerA -> Gb, call_meets -> Gd, wpAny_callSpecialIfBound?_slot -> IK, assign -> IL, call -> IM, wpAny_letOwnedTupleGo_items -> MN, valueAt -> MO, swapsWith -> MP, seqItems? -> MQ, eqIsQuiet -> MS, wpAny_letOwnedTupleGo_enum -> Qe
open PySem.Around renaming under_plainId -> jt
open PySem.AutoSeq1 renaming sub_tuple_tuple -> pJ, sub_list_list -> Gr
open PySem.Builtin.Builtins renaming bindParams -> vq
open PySem.Builtin.Dict renaming showsAll -> ke, takeOut -> DO
open PySem.Builtin.Dict_items renaming ownsTuple -> eU, ownedTupleIsFree -> iH, ownedTupleFields -> pI, pairFromOwner -> qt
open PySem.Builtin.Int renaming intBits -> Gq
open PySem.Builtin.List renaming listTooLong -> jj
open PySem.Builtin.Slice renaming slicePlaces -> i0, sliceAdjust -> mM, sliceApplied -> xg
open PySem.Builtin.SmallTypes renaming nextOf -> ie
open PySem.Builtin.Tuple renaming tupleHashOf -> dn, tupleExact -> jf, tupleCompareSizes -> t6, tupleItemsOf -> xf
open PySem.Calls renaming callWith_builtin -> kW, spliced_cons -> pH, spliced_nil -> zK, Name_function_global -> FI
open PySem.Challenge renaming rw_knotwise_k68_whole_braids_by_pictures -> aP
open PySem.F renaming plainAttrs_dict -> cB, plainAttrs_list -> di, slot_dict_get -> e7, slot_dict_items -> fB, type_dict_get -> iW, slot_dict_itemiterator_next -> iX, slot_dict_itemiterator_iter -> iY, plain_min_loop -> iZ, slot_dict_keyiterator_next -> je, type_list_append -> jU, slot_list_append -> jV, slot_tuple_iterator_next -> jX, slot_tuple_lt -> k7, args_dict_items_1 -> oN, type_list_extend -> pU, slot_list_extend -> pV, entry_dict_items -> pW, type_dict_items -> qp, args_tuple_lt_2 -> qr, entry_tuple_lt -> rY, slot_dict_pop -> sQ, slot_list_lt -> tY, args_dict_itemiterator_next_1 -> DM, args_dict_itemiterator_iter_1 -> DN, args_tuple_add_2 -> FE, entry_dict_itemiterator_next -> FG, args_dict_keyiterator_next_1 -> FH, slot_list_index -> Gg, entry_tuple_add -> Gh, args_dict_get_3 -> Gi, entry_min_loop -> Gm, entry_dict_keyiterator_next -> Gn, slot_tuple_add -> IQ, entry_dict_get -> IS, args_list_lt_2 -> IT, slot_dict_keyiterator_iter -> IV, args_tuple_iterator_next_1 -> IW, type_dict_pop -> KQ, entry_list_lt -> KR, entry_tuple_iterator_next -> KU
open PySem.Heap renaming get?_push_of_some -> ay, lt_size -> aN, get?_push_size -> aO, get?_update_other -> cW, SameBut -> eN, get?_update_self -> gF, size_push -> gL, size_update -> DB, get?_none_of_le -> QE
open PySem.Heap.SameBut renaming update -> fw
open PySem.NameKind renaming free -> j4
open PySem.Obj renaming mapSeq -> iR, data_mapFields -> qe, isFreed_of_fields -> Qx
open PySem.Paired renaming length -> g8, snoc -> Qf
open PySem.PassesOwn renaming never -> bu
open PySem.PyData renaming depthAll -> bX, eqv -> qc
open PySem.SeqAt renaming items_eqAt -> mJ, any_by_data -> qm, readOf -> Ax
open PySem.Str renaming ofString -> mI
open PySem.Value renaming none -> dH, ref -> dO, int -> fA, isInt -> rX, type -> zI
open PySem.W renaming Frag -> ai, nsIn -> dD, kas_rev -> gi, kia_one -> iV, kas_place -> jG, fnOf -> jT, kas_desc -> kH, kas_asc -> qk, kas_descPart -> xH, methodObj -> xN, OpenLaw -> BI, keepIn -> DI, codeIn -> DJ, boot_drawn -> Ge, cellsFrom_some -> IP, kas_tail3 -> MR, boot_toks -> MT, boot_heap -> MU
open PySem.W.KasT renaming ret -> vE
open Sum renaming inl -> vB, inr -> Gf
open True renaming intro -> fN
set_option Elab.async false
set_option linter.all false
set_option maxRecDepth 100000
set_option maxHeartbeats 4000000
set_option genSizeOf false
set_option genInjectivity false
set_option compiler.extract_closed false
namespace Internal
theorem Ad(h:0=0:=by decide):0=0:=h
theorem Ae(h:0=0:=by first | rfl | decide):0=0:=h
theorem Af(h:0=0:=by first | k_is | rfl):0=0:=h
theorem Ai(h:0=0:=by intro _; rfl):0=0:=h
theorem Ak(h:0=0:=by decide +kernel):0=0:=h
theorem Al(h:0=0:=by intro _ _ _ _ h; repeat (first | (cases h.1; rfl) | (cases h <;> rename_i h))):0=0:=h
theorem Ao(h:0=0:=by first | exact .inl rfl | exact .inr rfl | exact .inr (.inl rfl) | exact .inr (.inr rfl) | assumption):0=0:=h
theorem Aq(h:0=0:=by k_is):0=0:=h
theorem Ar(h:0=0:=by rfl):0=0:=h
theorem Aua(h:0=0:=by exact scm):0=0:=h
theorem Aub(h:0=0:=by intro _ _ _ _ _ _ us hl; rcases us with _ | ⟨_,_ | ⟨_,_ | ⟨_,_ | ⟨_,_ | ⟨_,_⟩⟩⟩⟩⟩ <;> first | rfl | (simp at hl; done)):0=0:=h
theorem Mr(h:0=0:=by show _=_; k_is):0=0:=h
theorem Aw(h:0=0:=by with_unfolding_all rfl):0=0:=h
namespace L2
open PySem PySem.Spec PyProof.Rows
noncomputable abbrev Key:=Sum Int Str
noncomputable def A2:Key->Value->Bool
 | .inl k,v=>rX k v
 | .inr x,v=>Value.isStrOf x v
noncomputable def Zv(w:World):Key->Int
 | .inl k=>hashInt k
 | .inr x=>hashStr w x
theorem eh:∀ {k:Key} {v:Value},A2 k v=true->(∃ i t,k=vB i/\v=fA i t)\/(∃ x t,k=Gf x/\v=Value.str x t)
 | .inl i,v,h=>by
  obtain⟨t,e⟩:=Value.isInt_shape (k:=i) (v:=v) h;exact .inl ⟨i,t,rfl,e⟩
 | .inr x,v,h=>by
  obtain⟨t,e⟩:=Value.isStrOf_shape (x:=x) (v:=v) h;exact .inr ⟨x,t,rfl,e⟩
theorem LJ(i:Int)(t:Tok):A2 (.inl i) (.int i t)=true:=by simp [A2,rX]
theorem LI(x:Str)(t:Tok):A2 (.inr x) (.str x t)=true:=by simp [A2,Value.isStrOf]
theorem Oy(a b:Int):decide ((vB a:Key)=vB b)=(a == b):=by
 by_cases e:a=b
 ·subst e; simp
 ·have h:¬ (vB a:Key)=vB b:=fun q=>e (Sum.inl.inj q);rw [decide_eq_false h];exact(beq_eq_false_iff_ne.mpr e).symm
theorem Ox(a b:Str):decide ((Gf a:Key)=Gf b)=decide (a=b):=by
 by_cases e:a=b
 ·subst e; simp
 ·have h:¬ (Gf a:Key)=Gf b:=fun q=>e (Sum.inr.inj q);rw [decide_eq_false h,decide_eq_false e]
theorem UL(a:Int)(b:Str):decide ((vB a:Key)=Gf b)=false:=decide_eq_false (fun q=>nomatch q)
theorem UK(a:Str)(b:Int):decide ((Gf a:Key)=vB b)=false:=decide_eq_false (fun q=>nomatch q)
noncomputable def cE(prog:bz)(w:World):PySem.KeyKind prog w Key where
 is:=A2
 hash:=Zv w
 inj:=fun v a b ha hb=>by
  rcases eh ha with ⟨i,t,rfl,rfl⟩ | ⟨x,t,rfl,rfl⟩
  ·rcases eh hb with ⟨j,u,rfl,e⟩ | ⟨y,u,rfl,e⟩
   ·injection e with e1 _; rw [e1]
   ·exact nomatch e
  ·rcases eh hb with ⟨j,u,rfl,e⟩ | ⟨y,u,rfl,e⟩
   ·exact nomatch e
   ·injection e with e1 _; rw [e1]
 byValue:=fun k v h=>by
  rcases eh h with ⟨i,t,rfl,rfl⟩ | ⟨x,t,rfl,rfl⟩ <;> rfl
 pyHash:=fun hv h=>by
  rcases eh hv with ⟨i,t,rfl,rfl⟩ | ⟨x,t,rfl,rfl⟩
  ·exact wpAny_pyHash_int h
  ·exact wpAny_pyHash_str h
 eqBool:=fun hu hv h=>by
  rcases eh hu with ⟨i,t,rfl,rfl⟩ | ⟨x,t,rfl,rfl⟩
  ·rcases eh hv with ⟨j,u,rfl,rfl⟩ | ⟨y,u,rfl,rfl⟩
   ·rw [Oy] at h; exact wpAny_eqBool_int h
   ·rw [UL] at h; exact SeqAt.EqAt.int_str i t y u _ _ _ _ h
  ·rcases eh hv with ⟨j,u,rfl,rfl⟩ | ⟨y,u,rfl,rfl⟩
   ·rw [UK] at h; exact SeqAt.EqAt.str_int x t j u _ _ _ _ h
   ·rw [Ox] at h; exact wpAny_eqBool_str h
 «strs»:=fun k x t v h=>by
  rcases eh h with ⟨i,u,rfl,e⟩ | ⟨y,u,rfl,e⟩
  ·exact nomatch e
  ·injection e with e1 _
   subst e1;cases v <;> rfl
theorem Eo(prog:bz)(w:World)(i:Int)(t:Tok):(cE prog w).is (.inl i) (.int i t)=true:=LJ i t
theorem En(prog:bz)(w:World)(x:Str)(t:Tok):(cE prog w).is (.inr x) (.str x t)=true:=LI x t
inductive V where
 | eg | bl (b:Bool) | int (i:Int) | str (x:Str) | Vo (b:Array UInt8) | flt (b:UInt64) | ref (a:Addr) | ty (n:String)
noncomputable def RelV:V->Value->Prop
 | .eg,u=>u=dH
 | .bl b,u=>u=Value.bool b
 | .int i,u=>∃ t,u=fA i t
 | .str x,u=>∃ t,u=Value.str x t
 | .Vo b,u=>∃ t,u=Value.bytes b t
 | .flt b,u=>∃ t,u=Value.float b t
 | .ref a,u=>u=dO a
 | .ty n,u=>u=zI n
noncomputable abbrev Vals:List V->List Value->Prop:=j0 RelV
theorem Vals.length{xs:List V}{us:List Value}(r:Vals xs us):xs.length=us.length:=g8 r
theorem Vals.get:∀ {xs:List V} {us:List Value} {i:Nat} {x:V},Vals xs us->xs[i]?=some x->∃ u,us[i]?=some u/\RelV x u:=by
 intro xs us i x h;induction h generalizing i with
 | nil=>intro e; cases e
 | cons r t ih =>
  intro e;cases i with
  | zero=>cases e; exact⟨_,rfl,r⟩
  | succ i=>exact ih e
theorem Vals.set{x:V}{u:Value}(r:RelV x u):∀ {xs:List V} {us:List Value} (i:Nat),Vals xs us->Vals (xs.set i x) (us.set i u):=by
 intro xs us i h;induction h generalizing i with
 | nil=>rw [BJ,BJ]; exact .nil
 | cons q t ih =>
  cases i with
  | zero=>exact .cons r t
  | succ i=>exact .cons q (ih i)
theorem Vals.append:∀ {xs ys:List V} {us ws:List Value},Vals xs us->Vals ys ws->Vals (xs++ys) (us++ws):=by
 intro xs ys us ws h s;induction h with
 | nil=>exact s
 | cons r t ih=>exact .cons r ih
theorem Vals.take:∀ {xs:List V} {us:List Value} (n:Nat),Vals xs us->Vals (xs.take n) (us.take n):=by
 intro xs us n h;induction h generalizing n with
 | nil=>rw [sC,sC]; exact .nil
 | cons r t ih =>
  cases n with
  | zero=>exact .nil
  | succ n=>exact .cons r (ih n)
theorem Vals.drop:∀ {xs:List V} {us:List Value} (n:Nat),Vals xs us->Vals (xs.drop n) (us.drop n):=by
 intro xs us n h;induction h generalizing n with
 | nil=>rw [zB,zB]; exact .nil
 | cons r t ih =>
  cases n with
  | zero=>exact .cons r t
  | succ n=>exact ih n
noncomputable def wc:Option V->Option Value->Prop
 | some v,some u=>RelV v u
 | none,none=>True
 | _,_=>False
noncomputable def KV{κ:Type}:List (κ×V)->List (κ×Value)->Prop:=j0 fun (p:κ×V) (q:κ×Value)=>p.1=q.1/\RelV p.2 q.2
noncomputable def kV:Key->V
 | .inl i=>.int i
 | .inr x=>.str x
inductive HO where
 | lst (xs:List V)
 | tup (xs:List V)
 | dK (kvs:List (Key×V)) | dT (kvs:List (List Key×V))
 | set (S:Int->Bool) (n:Nat)
 | ins (C dx:Addr) (fs:List (Str×V))
 | own (x:Addr)
 | xd (fs:List (Str×V))
 | met (f x:Addr)
 | X4 (lo hi:Int)
 | jZ (o:Obj) (u:HO)
 | Si (q:Str)
 | ext (φ:Heap->Prop)
noncomputable abbrev Hp:=Addr->Option HO
noncomputable def upd(H:Hp)(a:Addr)(o:HO):Hp:=fun b=>if b=a then some o else H b
theorem bU{H:Hp}{a:Addr}{o:HO}:upd H a o a=some o:=by unfold upd; rw [if_pos rfl]
theorem bO{H:Hp}{a b:Addr}{o:HO}(h:b≠a):upd H a o b=H b:=by unfold upd; rw [if_neg h]
theorem SF{H:Hp}{a b:Addr}{o u:HO}(h:H a=some o)(h':H b=some u)(d:o≠u):a≠b:=by
 intro e; subst e; rw [h] at h'; exact d (aX h')
theorem dj{H:Hp}{a b:Addr}{o:HO}(h:H a=some o)(h':H b=none):a≠b:=by
 intro e; subst e; rw [h] at h'; cases h'
section
variable (P:bz) (w:World)
noncomputable def fG(H:Hp)(h:Heap)(a:Addr):HO->Prop
 | .lst xs=>xs.length<=aY/\∃ (bG:List Value) (n:Nat),Vals xs bG/\h.get? a=some { cls:=.type "list",data:=.seq bG.toArray n }
 | .tup xs=>xs.length<=aY/\∃ bG:List Value,Vals xs bG/\IsTup h a bG.toArray
 | .dK kvs=>kvs.length<=aY/\(a == cO)=false/\∃ vs,KV kvs vs/\h.DictOf (cE P w) a vs
 | .dT kvs=>kvs.length<=aY/\(a == cO)=false/\∃ xs:List (List Key×Addr×Value),
   j0 (fun (p:List Key×V) (q:List Key×Addr×Value)=>p.1=q.1/\H q.2.1=some (.tup (p.1.map kV))/\RelV p.2 q.2.2) kvs xs /\
   ∃ o es ep,h.get? a=some o/\o.ExactDict/\o.data=.dict es ep/\es.toList=xs.map (entryOfKey (ip (cE P w)))/\(xs.map (·.1)).Nodup
 | .set S n=>h.SetOf (FZ P w) a S n
 | .ins C dx fs=>H dx=some (.own a)/\fs.length<=1000/\dx≠a/\h.get? a=some (PySem.W.instObj C dx) /\
   ∃ mA,h.Ns1 dx mA/\(∀ f,wc (fs.lookup f) (mA f))/\PySem.Within mA (fs.map (·.1))
 | .own _=>∃ o,h.get? a=some o
 | .xd fs=>∃ mA,h.Ns1 a mA/\∀ f,wc (fs.lookup f) (mA f)
 | .X4 lo hi=>∃ t u v,h.get? a=some { cls:=.type "range",data:=.fields #[.int lo t,.int hi u,.int 1 v] }
 | .jZ o u=>h.get? a=some o/\fG H h a u
 | .Si q=>∃ ps,h.get? a=some { cls:=.none,data:=.fields ps }/\TriplesOk ps.toList/\∀ pos cv,codeAmong pos ps.toList=some cv->∃ c',cv=.ref c'/\H c'=some (.own a)/\h.CodeRec (.ref c') q
 | .met f x=>h.get? a=some (xN (.ref f) (.ref x))
 | .ext φ=>φ h/\(∃ o,h.get? a=some o)/\∀ h1 h2:Heap,φ h1->(∀ o,h1.get? a=some o->h2.get? a=some o)->φ h2
noncomputable def pS(H:Hp)(h:Heap):Prop:=∀ a o,H a=some o->fG P w H h a o
end
section
variable {P:bz} {w:World} {H H':Hp} {h h':Heap} {a:Addr} {o:HO}
theorem fG.lt(x:fG P w H h a o):a < h.objs.size:=by
 cases o with
 | lst xs=>obtain⟨_,_,_,_,e⟩:=x; exact aN e
 | tup xs=>obtain⟨_,_,_,p⟩:=x; exact p.lt
 | dK kvs=>obtain⟨_,_,_,_,o,_,_,e,_⟩:=x; exact aN e
 | dT kvs=>obtain⟨_,_,_,_,o,_,_,e,_⟩:=x; exact aN e
 | set S n=>obtain⟨o,_,_,_,e,_⟩:=x; exact aN e
 | ins C dx fs=>obtain⟨_,_,_,e,_⟩:=x; exact aN e
 | own y=>obtain⟨_,e⟩:=x; exact aN e
 | xd fs=>obtain⟨_,⟨_,_,_,e,_⟩,_⟩:=x; exact aN e
 | X4 lo hi=>obtain⟨_,_,_,e⟩:=x; exact aN e
 | jZ ob u=>obtain⟨e,_⟩:=x; exact aN e
 | Si q=>obtain⟨_,e,_⟩:=x; exact aN e
 | met f y=>exact aN (show h.get? a=some _ from x)
 | ext φ=>obtain⟨_,⟨_,e⟩,_⟩:=x; exact aN e
theorem Paired.UA{α β:Type}{F G:α->β->Prop}:∀ {l₁:List α} {l₂:List β},j0 F l₁ l₂->(∀ a b,F a b->G a b)->j0 G l₁ l₂:=by
 intro l₁ l₂ h f;induction h with
 | nil=>exact .nil
 | cons r t ih=>exact .cons (f _ _ r) ih
theorem fG.lU(x:fG P w H h a o)(k:∀ b u,(b=a\/H b=some (.own a))->h.get? b=some u->h'.get? b=some u)
  (ho:∀ b,H b=some (.own a)->H' b=some (.own a)) (ht:∀ b xs,H b=some (.tup xs)->H' b=some (.tup xs)):fG P w H' h' a o:=by
 induction o with
 | lst xs=>obtain⟨z,bG,n,r,e⟩:=x; exact⟨z,bG,n,r,k _ _ (.inl rfl) e⟩
 | tup xs=>obtain⟨z,bG,r,ob,e,c⟩:=x; exact⟨z,bG,r,ob,k _ _ (.inl rfl) e,c⟩
 | dK kvs=>obtain⟨z,y,vs,r,ob,es,ep,e,c⟩:=x; exact⟨z,y,vs,r,ob,es,ep,k _ _ (.inl rfl) e,c⟩
 | dT kvs =>
  obtain⟨z,y,xs,r,ob,es,ep,e,c⟩:=x;exact⟨z,y,xs,Paired.UA r fun p q z=>⟨z.1,ht _ _ z.2.1,z.2.2⟩,ob,es,ep,k _ _ (.inl rfl) e,c⟩
 | set S n=>obtain⟨ob,es,ep,t,e,c⟩:=x; exact⟨ob,es,ep,t,k _ _ (.inl rfl) e,c⟩
 | ins C dx fs =>
  obtain⟨d,z,ne,e,mA,⟨od,es,ep,e2,c⟩,r⟩:=x;exact⟨ho _ d,z,ne,k _ _ (.inl rfl) e,mA,⟨od,es,ep,k _ _ (.inr d) e2,c⟩,r⟩
 | own y=>obtain⟨ob,e⟩:=x; exact⟨ob,k _ _ (.inl rfl) e⟩
 | xd fs=>obtain⟨mA,⟨od,es,ep,e,c⟩,r⟩:=x; exact⟨mA,⟨od,es,ep,k _ _ (.inl rfl) e,c⟩,r⟩
 | X4 lo hi=>obtain⟨t,u,v,e⟩:=x; exact⟨t,u,v,k _ _ (.inl rfl) e⟩
 | jZ ob u ih=>obtain⟨e,q⟩:=x; exact⟨k _ _ (.inl rfl) e,ih q⟩
 | Si q =>
  obtain⟨ps,e,t,z⟩:=x;refine⟨ps,k _ _ (.inl rfl) e,t,fun pos cv y=>?_⟩;obtain⟨c',e1,e2,c2,oc,vs,tq,e3,e4,r⟩:=z pos cv y;cases e3;exact⟨c',e1,ho _ e2,c',oc,vs,tq,rfl,k _ _ (.inr e2) e4,r⟩
 | met f y =>
  have e:h.get? a=some (xN (.ref f) (.ref y)):=x;show h'.get? a=some (xN (.ref f) (.ref y));exact k a _ (.inl rfl) e
 | ext φ=>obtain⟨p,⟨o,e⟩,st⟩:=x; exact⟨st _ _ p fun o q=>k _ _ (.inl rfl) q,⟨o,k _ _ (.inl rfl) e⟩,st⟩
theorem pS.lt(x:pS P w H h)(e:H a=some o):a < h.objs.size:=(x a o e).lt
theorem pS.fresh(x:pS P w H h)(e:h.objs.size<=a):H a=none:=by
 cases q:H a with
 | none=>rfl
 | some u=>exact absurd (bK (x.lt q) e) (iq _)
theorem pS.kept(x:pS P w H h)(k:∀ b u,h.get? b=some u->h'.get? b=some u):pS P w H h':=fun a o e =>
 (x a o e).lU (fun b u _ q=>k b u q) (fun _ q=>q) fun _ _ q=>q
theorem pS.laid(x:pS P w H h)(k:∀ b u,h.get? b=some u->h'.get? b=some u)(hp:h.objs.size<=a)(new:fG P w (upd H a o) h' a o):pS P w (upd H a o) h':=fun b u e=>by
 have hn:=x.fresh hp;by_cases hb:b=a
 ·subst hb; rw [bU] at e; cases e; exact new
 ·rw [bO hb] at e;exact(x b u e).lU (fun c v _ q=>k c v q) (fun c q=>by rw [bO (dj q hn)]; exact q) fun c xs q=>by rw [bO (dj q hn)]; exact q
end
noncomputable def Rd(H:Hp)(a:Addr)(u:HO):Prop:=H a=some u\/∃ o,H a=some (.jZ o u)
theorem Rd.ok{P:bz}{w:World}{H:Hp}{h:Heap}{a:Addr}{u:HO}(r:Rd H a u)(x:pS P w H h):fG P w H h a u:=by
 rcases r with r | ⟨o,r⟩
 ·exact x a u r
 ·obtain⟨_,q⟩:=x a _ r;exact q
noncomputable def XS:Option HO->Prop
 | some (.lst _)=>True
 | some (.dK _)=>True
 | some (.dT _)=>True
 | some (.set _ _)=>True
 | some (.ins _ _ _)=>True
 | some (.ext _)=>True
 | _=>False
section
variable {P:bz} {w:World} {H:Hp} {h h':Heap} {x e:Addr} {o':HO}
theorem pS.write(ok:pS P w H h)(mu:XS (H x))(he:e=x\/H e=some (.own x))(k:∀ b u,b≠e->h.get? b=some u->h'.get? b=some u)(VP:∃ u,h'.get? e=some u)
  (new:fG P w (upd H x o') h' x o'):pS P w (upd H x o') h':=fun b u q=>by
 have Wy:∀ c y,H c=some (.own y)->c≠x:=fun c y r z=>by subst z; rw [r] at mu; exact mu
 have Zc:∀ c xs,H c=some (.tup xs)->c≠x:=fun c xs r z=>by subst z; rw [r] at mu; exact mu
 by_cases hb:b=x
 ·subst hb; rw [bU] at q; cases q; exact new
 ·rw [bO hb] at q;by_cases U0:b=e
  ·have q':H b=some (.own x):=by
    rcases he with z | z
    ·exact absurd (U0.trans z) hb
    ·rw [U0]; exact z
   rw [q] at q'; cases q';obtain⟨v,hv⟩:=VP;exact⟨v,by rw [U0]; exact hv⟩
  ·refine(ok b u q).lU (fun c v hc r=>k c v ?_ r) (fun c r=>by rw [bO (Wy c b r)]; exact r) fun c xs r=>by rw [bO (Zc c xs r)]; exact r
   rcases hc with rfl | hc
   ·exact U0
   ·rintro rfl;rcases he with z | z
    ·exact Wy c b hc z
    ·rw [hc] at z; cases z; exact hb rfl
end
structure Un(fs ex:List Addr)(H H':Hp)(h h':Heap):Prop where
 keep:∀ b o,h.get? b=some o->H b=none->b∉fs->b∉ex->h'.get? b=some o
 slot:∀ b o,h.get? b=some o->H b=none->b∈fs->b∉ex->∃ sl,h'.get? b=some { o with slots:=sl }
 free:∀ b o,h.get? b=some o->H b=none->b∉ex->H' b=none
 there:∀ b o,h.get? b=some o->b∉ex->∃ o',h'.get? b=some o'
 zM:∀ b xs,H b=some (.tup xs)->H' b=some (.tup xs)
 yP:∀ b o u,H b=some (.jZ o u)->H' b=some (.jZ o u)
 zP:∀ b q,H b=some (.Si q)->H' b=some (.Si q)
 zT:∀ b x,H b=some (.own x)->H' b=some (.own x)
section
variable {fs fs' ex ex':List Addr} {H H1 H2:Hp} {h h1 h2 h':Heap} {a x e:Addr} {o:HO}
theorem Un.any(u:Un fs ex H H1 h h1){b:Addr}{ob:Obj}(q:h.get? b=some ob)(n:H b=none)(hx:b∉ex):∃ sl,h1.get? b=some { ob with slots:=sl }:=by
 by_cases hb:b∈fs
 ·exact u.slot b ob q n hb hx
 ·exact⟨ob.slots,u.keep b ob q n hb hx⟩
theorem Un.kept(k:∀ b u,h.get? b=some u->h'.get? b=some u):Un fs ex H H h h' :=
 ⟨fun b ob q _ _ _=>k b ob q,fun b ob q _ _ _=>⟨ob.slots,k b ob q⟩,fun _ _ _ n _=>n,fun b ob q _=>⟨ob,k b ob q⟩,fun _ _ q=>q,fun _ _ _ q=>q,fun _ _ q=>q,fun _ _ q=>q⟩
theorem Un.refl:Un fs ex H H h h:=Un.kept fun _ _ q=>q
theorem Un.laid(k:∀ b u,h.get? b=some u->h'.get? b=some u)(hp:h.objs.size<=a)(hn:H a=none):Un fs ex H (upd H a o) h h' where
 keep:=fun b u q _ _ _=>k b u q
 slot:=fun b u q _ _ _=>⟨u.slots,k b u q⟩
 free:=fun b u q n _=>by rw [bO (bh (bK (aN q) hp))]; exact n
 there:=fun b u q _=>⟨u,k b u q⟩
 zM:=fun b xs q=>by rw [bO (dj q hn)]; exact q
 yP:=fun b u xs q=>by rw [bO (dj q hn)]; exact q
 zP:=fun b ps q=>by rw [bO (dj q hn)]; exact q
 zT:=fun b ps q=>by rw [bO (dj q hn)]; exact q
theorem Un.write(mu:XS (H x))(he:e=x\/H e=some (.own x))(k:∀ b u,b≠e->h.get? b=some u->h'.get? b=some u)(VP:∃ u,h'.get? e=some u):Un fs ex H (upd H x o) h h':=by
 have hx:∀ b,H b=none->b≠x:=fun b n z=>by subst z; rw [n] at mu; exact mu
 have hb:∀ b,H b=none->b≠e:=fun b n z=>by
  subst z;rcases he with r | r
  ·exact hx b n r
  ·rw [n] at r; cases r
 have hm:∀ b u,H b=some u->¬ XS (some u)->b≠x:=fun b u q nm z=>by subst z; rw [q] at mu; exact nm mu
 refine⟨fun b u q n _ _=>k b u (hb b n) q,fun b u q n _ _=>⟨u.slots,k b u (hb b n) q⟩,fun b u q n _=>by rw [bO (hx b n)]; exact n,fun b u q _=>?_,
  fun b xs q=>by rw [bO (hm b _ q fun z=>z)]; exact q,fun b u xs q=>by rw [bO (hm b _ q fun z=>z)]; exact q,fun b ps q=>by rw [bO (hm b _ q fun z=>z)]; exact q,fun b ps q=>by rw [bO (hm b _ q fun z=>z)]; exact q⟩
 by_cases U0:b=e
 ·subst U0; exact VP
 ·exact⟨u,k b u U0 q⟩
end
noncomputable def X0(h:Heap)(H:Hp):List Addr:=(dR h.objs.size).filter fun a=>(H a).isSome
noncomputable def CG(h:Heap)(H:Hp):Heap:=PySem.W.hideAll h (X0 h H)
theorem LU(h:Heap)(H:Hp):(CG h H).objs.size=h.objs.size:=PySem.W.hideAll_size _ _
theorem OW{h:Heap}{H:Hp}{b:Addr}{o:Obj}(e:h.get? b=some o)(n:H b=none):(CG h H).get? b=some o :=
 PySem.W.hideAll_get _ e fun hm=>by
  have q:(H b).isSome=true:=(List.mem_filter.mp hm).2;rw [n] at q; simp at q
theorem Rk{h:Heap}{H:Hp}{b:Addr}{o:Obj}(e:(CG h H).get? b=some o):h.get? b=some o/\H b=none:=by
 have e':h.get? b=some o:=PySem.W.of_hideAll (X0 h H) e;refine⟨e',?_⟩;cases q:H b with
 | none=>rfl
 | some x =>
  have hm:b∈X0 h H:=List.mem_filter.mpr ⟨List.mem_range.mpr (aN e'),by simp [q]⟩;have z:(CG h H).get? b=none:=PySem.W.hideAll_none (X0 h H) hm;rw [z] at e; cases e
noncomputable def rT(g h:Heap)(L:Addr):List (Addr×Obj):=(dR h.objs.size).filterMap fun a=>if a=L\/(g.get? a).isSome=true then none else (h.get? a).map fun o=>(a,o)
theorem wK{g h:Heap}{L a:Addr}{o:Obj}(h1:a≠L)(h2:g.get? a=none)(h3:h.get? a=some o):(a,o)∈rT g h L :=
 List.mem_filterMap.mpr ⟨a,List.mem_range.mpr (aN h3),by simp [h1,h2,h3]⟩
theorem yp{g h:Heap}{L:Addr}{p:Addr×Obj}(hp:p∈rT g h L):p.1≠L/\g.get? p.1=none/\h.get? p.1=some p.2:=by
 obtain⟨b,_,e⟩:=List.mem_filterMap.mp hp;split at e
 ·cases e
 ·rename_i hn;cases q:h.get? b with
  | none=>rw [q] at e; simp at e
  | some u =>
   rw [q] at e;simp only [tQ,KS] at e;subst e;refine⟨fun z=>hn (.inl z),?_,q⟩;show g.get? b=none;cases r:g.get? b with
   | none=>rfl
   | some v=>exact(hn (.inr (by simp [r]))).elim
noncomputable def rest(g h:Heap)(L d:Addr):List (Addr×Obj):=(rT g h L).filter fun p=>decide (p.1≠d)
theorem Ek{g h:Heap}{L:Addr}:News g L h (rT g h L):=fun p hp=>let ⟨a,b,c⟩:=yp hp; ⟨c,a,b⟩
structure Mod(K:ai)(mg:Str->Option Value)(base:Heap):Prop where
 Yd:K.In base
 glob:base.Ns bL mg
 blt:∃ mb,base.Ns builtinsNs mb/\∀ x:Str,x≠"__name__"->mb x=du x
 nolimit:base.NoLimit
structure Cx where
 prog:bz
 w:World
 K:ai
 mg:Str->Option Value
 base:Heap
 A:cL
 N:List Str
 mN:av
 Qa:Hp
 env:Env
 outer:List Env
 stack:List Env
 ex:List Addr
 fn:Str->Bool
 calm:Bool
 pn:List (Addr×Obj)
 xe:Value->av->Prop
noncomputable def MH(l:List Env):List Addr:=l.filterMap (·.frame)
noncomputable abbrev Cx.fs(X:Cx):List Addr:=MH X.outer
noncomputable def Yv(sc:Scope)(x:Str):Prop:=sc.names.lookup x=some .local\/sc.names.lookup x=some .cell\/sc.names.lookup x=some .free
noncomputable def Loc(sc:Scope)(x:Str):Prop:=sc.names.lookup x=some .local\/sc.names.lookup x=some .cell
noncomputable def Look(env:Env)(h:Heap)(m:Str->Option Value)(x:Str)(u:Value):Prop :=
 (env.kindOf x=some .local/\m x=some u)\/((env.kindOf x=some .cell\/env.kindOf x=some .free)/\∃ c,env.cells.lookup x=some c/\h.IsCell c (some u))
structure Cx.Ok(X:Cx):Prop where
 mod:Mod X.K X.mg X.base
 kind:X.env.scope.kind=.function
 glob:X.env.globals=bL
 blt:X.env.builtins=builtinsNs
 above:X.mN.heap.objs.size<=X.env.locals
 inj:∀ x y c,X.env.cells.lookup x=some c->X.env.cells.lookup y=some c->x=y
 has:∀ x,(X.env.kindOf x=some .cell\/X.env.kindOf x=some .free)->∃ c,X.env.cells.lookup x=some c
 XD:∀ x c,X.fn x=true->X.env.cells.lookup x=some c->X.mN.heap.objs.size<=c
 hd:X.calm=true->X.A.handled=none
 frames:X.A.frames=some X.stack
 X2:X.stack=X.outer\/(X.stack=X.env :: X.outer/\X.env.frame=some X.env.locals)
 Yr:∀ b∈X.ex,b≠X.env.locals/\∀ x c,X.env.cells.lookup x=some c->c≠b
 bs:∀ b o,X.base.get? b=some o->X.mN.heap.get? b=some o/\X.Qa b=none
 R1:X.base.objs.size<=X.mN.heap.objs.size
 Lu:∀ b o,X.base.get? b=some o->b∉X.ex
 Pd:∀ b∈X.ex,b∉X.fs
 yO:X.mN.heap.FunFrames X.base X.outer
 VR:∀ b∈X.fs,X.Qa b=none
structure Inv(X:Cx)(pins:List (Addr×Obj))(σ:List (Option V))(H:Hp)(s:av):Prop where
 ok:X.Ok
 os:s.os=X.mN.os
 bare:BM s.gens
 base:Un X.fs X.ex X.Qa H X.mN.heap s.heap
 loc:∃ m,s.heap.Ns X.env.locals m/\∀ (i:Nat) (x:Str) (v:V),X.N[i]?=some x->σ[i]?=some (some v)->Yv X.env.scope x->∃ u,RelV v u/\Look X.env s.heap m x u
 cell:∀ x c,X.env.cells.lookup x=some c->∃ v,s.heap.IsCell c v
 free:H X.env.locals=none
 pQ:∀ x c,X.env.cells.lookup x=some c->H c=none
 pin:∀ p∈X.pn++pins,s.heap.get? p.1=some p.2/\H p.1=none/\p.1≠X.env.locals/\p.1∉X.fs/\∀ v,p.2.data≠.cell v
 cp:pS X.prog X.w H s.heap
 len:σ.length=X.N.length
section
variable {X:Cx} {pins:List (Addr×Obj)} {σ:List (Option V)} {H H':Hp} {s:av} {h':Heap}
theorem Cx.Ok.Ze(ok:X.Ok){b:Addr}{o:Obj}(e:X.base.get? b=some o):b∉X.fs:=fun hb=>by
 have:=(ok.yO.mem hb).1;rw [e] at this; cases this
theorem Inv.bs(I:Inv X pins σ H s):∀ b o,X.base.get? b=some o->s.heap.get? b=some o/\H b=none:=fun b o e =>
 ⟨I.base.keep b o (I.ok.bs b o e).1 (I.ok.bs b o e).2 (I.ok.Ze e) (I.ok.Lu b o e),I.base.free b o (I.ok.bs b o e).1 (I.ok.bs b o e).2 (I.ok.Lu b o e)⟩
theorem Inv.bk(I:Inv X pins σ H s):∀ b o,X.base.get? b=some o->s.heap.get? b=some o:=fun b o e=>(I.bs b o e).1
theorem Inv.mod(I:Inv X pins σ H s):Mod X.K X.mg X.base:=I.ok.mod
theorem Inv.JW(I:Inv X pins σ H s):X.K.In s.heap:=I.ok.mod.Yd.keeps I.bk
theorem Inv.fr(I:Inv X pins σ H s):∃ m,Fr X.base X.env.locals s.heap m :=
 let ⟨m,hn,_⟩:=I.loc
 ⟨m,hn,I.bk,bc I.ok.R1 I.ok.above⟩
theorem Inv.lt(I:Inv X pins σ H s):X.env.locals < s.heap.objs.size:=let ⟨_,hn,_⟩:=I.loc; hn.lt
theorem Inv.sz(I:Inv X pins σ H s):X.mN.heap.objs.size<=s.heap.objs.size:=bc I.ok.above (QA I.lt)
theorem Inv.Zd(I:Inv X pins σ H s){a:Addr}(h:s.heap.objs.size<=a):a∉X.fs:=fun hb=>by
 obtain⟨_,o,ho,_⟩:=I.ok.yO.mem hb;exact absurd (bK (aN ho) (bc I.sz h)) (iq _)
theorem Inv.Vj(I:Inv X pins σ H s):∀ x c,X.env.cells.lookup x=some c->c≠X.env.locals:=fun x c e z=>by
 obtain⟨v,o,ho,hd⟩:=I.cell x c e;obtain⟨m,⟨o',es,ep,Ba,zF,_⟩,_⟩:=I.loc;rw [z,Ba] at ho; cases ho; rw [zF] at hd; cases hd
theorem Inv.yO(I:Inv X pins σ H s):s.heap.FunFrames X.base X.outer:=by
 have all:∀ (l:List Env),(∀ b∈MH l,b∈X.fs)->X.mN.heap.FunFrames X.base l->s.heap.FunFrames X.base l:=by
  intro l;induction l with
  | nil=>intro _ _; trivial
  | cons env r ih =>
   intro hs hl;obtain⟨hk,⟨L,o,hf,hn,ho,hd⟩,hr⟩:=hl;have hL:L∈X.fs:=hs L (by unfold MH; rw [oG,hf]; exact cG);obtain⟨sl,e⟩:=I.base.slot L o ho (I.ok.VR L hL) hL fun z=>I.ok.Pd L z hL;exact⟨hk,⟨L,_,hf,hn,e,hd⟩,ih (fun b hb=>hs b (by unfold MH; rw [oG,hf]; exact au _ hb)) hr⟩
 exact all X.outer (fun _ hb=>hb) I.ok.yO
theorem Inv.stack(I:Inv X pins σ H s):s.heap.FunFrames X.base X.stack:=by
 rcases I.ok.X2 with e | ⟨e,hf⟩
 ·rw [e]; exact I.yO
 ·rw [e];obtain⟨m,hn,_⟩:=I.loc;refine .cons (by rw [I.ok.kind]; decide) hf hn ?_ I.yO;exact QE (bc I.ok.R1 I.ok.above)
theorem Inv.GH(I:Inv X pins σ H s):∀ b∈MH X.stack,b∈X.env.locals :: X.fs:=fun b hb=>by
 rcases I.ok.X2 with e | ⟨e,hf⟩
 ·rw [e] at hb; exact au _ hb
 ·rw [e] at hb;unfold MH at hb;rw [oG,hf] at hb;exact hb
theorem Inv.Jh(I:Inv X pins σ H s):∀ b∈MH X.stack,H b=none:=fun b hb=>by
 rcases List.mem_cons.mp (I.GH b hb) with e | hb
 ·rw [e]; exact I.free
 ·obtain⟨_,o,ho,_⟩:=I.ok.yO.mem hb;exact I.base.free b o ho (I.ok.VR b hb) fun z=>I.ok.Pd b z hb
theorem Inv.step{g':Array GenState}{t':Nat}{d':Drawn}{ch:List Addr}(I:Inv X pins σ H s)
  (S5:∀ b∈ch,(b∈X.ex\/X.mN.heap.objs.size<=b)/\b≠X.env.locals/\(∀ x c,X.env.cells.lookup x=some c->c≠b)/\∀ p∈X.pn++pins,p.1≠b)
  (keep:∀ b o,b≠X.env.locals->b∉X.fs->b∉ch->s.heap.get? b=some o->H b=none->h'.get? b=some o)
  (slot:∀ b o,b≠X.env.locals->b∈X.fs->b∉ch->s.heap.get? b=some o->H b=none->∃ sl,h'.get? b=some { o with slots:=sl }) (free:∀ b o,b∉ch->s.heap.get? b=some o->H b=none->H' b=none)
  (there:∀ b o,b∉ch->s.heap.get? b=some o->∃ o',h'.get? b=some o')
  (zM:∀ b xs,H b=some (.tup xs)->H' b=some (.tup xs)) (yP:∀ b o u,H b=some (.jZ o u)->H' b=some (.jZ o u)) (zP:∀ b q,H b=some (.Si q)->H' b=some (.Si q)) (zT:∀ b x,H b=some (.own x)->H' b=some (.own x))
  (ns:∀ m,s.heap.Ns X.env.locals m->h'.Ns X.env.locals m) (cp:pS X.prog X.w H' h') (hg:BM g') :
  Inv X pins σ H' { s with heap:=h',gens:=g',drawn:=d',toks:=t' }:=by
 have neL:∀ b o,X.mN.heap.get? b=some o->b≠X.env.locals:=fun b o e=>bh (bK (aN e) I.ok.above);have Yc:∀ b o,X.mN.heap.get? b=some o->b∉X.ex->b∉ch:=fun b o e hx hb=>by
  rcases (S5 b hb).1 with z | z
  ·exact hx z
  ·exact absurd (bK (aN e) z) (iq _)
 have cellK:∀ x c,X.env.cells.lookup x=some c->∀ v,s.heap.IsCell c v->h'.IsCell c v:=fun x c e v ⟨o,ho,hd⟩=>by
  have WD:c∉ch:=fun z=>(S5 c z).2.2.1 x c e rfl;by_cases hc:c∈X.fs
  ·obtain⟨sl,q⟩:=slot c o (I.Vj x c e) hc WD ho (I.pQ x c e);exact⟨_,q,hd⟩
  ·exact⟨o,keep c o (I.Vj x c e) hc WD ho (I.pQ x c e),hd⟩
 refine⟨I.ok,I.os,hg,⟨fun b o e n hb hx=>?_,fun b o e n hb hx=>?_,fun b o e n hx=>?_,fun b o e hx=>?_,fun b xs e=>zM b xs (I.base.zM b xs e),fun b o xs e=>yP b o xs (I.base.yP b o xs e),fun b ps e=>?_,fun b x e=>zT b x (I.base.zT b x e)⟩,?_,fun x c e=>?_,?_,fun x c e=>?_,fun p hp=>?_,cp,I.len⟩
 ·exact keep b o (neL b o e) hb (Yc b o e hx) (I.base.keep b o e n hb hx) (I.base.free b o e n hx)
 ·obtain⟨sl,e1⟩:=I.base.slot b o e n hb hx;obtain⟨sl',e2⟩:=slot b _ (neL b o e) hb (Yc b o e hx) e1 (I.base.free b o e n hx);exact⟨sl',e2⟩
 ·obtain⟨o',e1⟩:=I.base.there b o e hx;exact free b o' (Yc b o e hx) e1 (I.base.free b o e n hx)
 ·obtain⟨o',e1⟩:=I.base.there b o e hx;exact there b o' (Yc b o e hx) e1
 ·exact zP b _ (I.base.zP b ps e)
 ·obtain⟨m,hn,hl⟩:=I.loc;refine⟨m,ns m hn,fun i x v e1 e2 e3=>?_⟩;obtain⟨u,r,l⟩:=hl i x v e1 e2 e3;refine⟨u,r,?_⟩;rcases l with l | ⟨k,c,e,z⟩
  ·exact .inl l
  ·exact .inr ⟨k,c,e,cellK x c e _ z⟩
 ·obtain⟨v,z⟩:=I.cell x c e;exact⟨v,cellK x c e v z⟩
 ·obtain⟨m,⟨o,_,_,ho,_⟩,_⟩:=I.loc;exact free _ o (fun z=>(S5 _ z).2.1 rfl) ho I.free
 ·obtain⟨v,o,ho,hd⟩:=I.cell x c e;exact free c o (fun z=>(S5 c z).2.2.1 x c e rfl) ho (I.pQ x c e)
 ·obtain⟨e,n,ne,nf,d⟩:=I.pin p hp;have WD:p.1∉ch:=fun z=>(S5 p.1 z).2.2.2 p hp rfl;exact⟨keep p.1 p.2 ne nf WD e n,free p.1 p.2 WD e n,ne,nf,d⟩
theorem Inv.un{t':Nat}(I:Inv X pins σ H s)(u:Un X.fs [] H H' s.heap h')(cp:pS X.prog X.w H' h'):Inv X pins σ H' { s with heap:=h',toks:=t' }:=by
 obtain⟨m,⟨o,es,ep,ho,r⟩,_⟩:=id I.loc;obtain⟨sl,hL⟩:=u.any ho I.free (by simp);exact I.step (g':=s.gens) (d':=s.drawn) (ch:=[]) (fun _ z=>nomatch z) (fun b o _ hb _ e n=>u.keep b o e n hb (by simp)) (fun b o _ hb _ e n=>u.slot b o e n hb (by simp)) (fun b o _ e n=>u.free b o e n (by simp)) (fun b o _ e=>u.there b o e (by simp)) u.zM u.yP u.zP u.zT (fun m' hm=>by
  obtain⟨o',es',ep',Ba,r'⟩:=hm;rw [ho] at Ba; cases Ba;exact⟨_,es',ep',hL,r'⟩) cp I.bare
theorem Inv.call{g':Array GenState}{t':Nat}{d':Drawn}{ch:List Addr}(I:Inv X pins σ H s)(u:Un (MH X.stack) ch H H' s.heap h')(cp:pS X.prog X.w H' h')(hg:BM g')
  (S5:∀ b∈ch,(b∈X.ex\/X.mN.heap.objs.size<=b)/\b≠X.env.locals/\(∀ x c,X.env.cells.lookup x=some c->c≠b)/\∀ p∈X.pn++pins,p.1≠b) :
  Inv X pins σ H' { s with heap:=h',gens:=g',drawn:=d',toks:=t' }:=by
 obtain⟨m,⟨o,es,ep,ho,r⟩,_⟩:=id I.loc;obtain⟨sl,hL⟩:=u.any ho I.free fun z=>(S5 _ z).2.1 rfl;exact I.step (ch:=ch) S5 (fun b o hL hb hc e n=>u.keep b o e n (fun z=>(List.mem_cons.mp (I.GH b z)).elim hL hb) hc) (fun b o _ _ hc e n=>u.any e n hc) (fun b o hc e n=>u.free b o e n hc) (fun b o hc e=>u.there b o e hc) u.zM u.yP u.zP u.zT (fun m' hm=>by
  obtain⟨o',es',ep',Ba,r'⟩:=hm;rw [ho] at Ba; cases Ba;exact⟨_,es',ep',hL,r'⟩) cp hg
theorem Inv.turned{t':Nat}{it:Addr}(I:Inv X pins σ H s)(k:∀ b o,b≠it->s.heap.get? b=some o->h'.get? b=some o)(hn:H it=none)(hL:it≠X.env.locals)
  (h1:it∈X.ex\/X.mN.heap.objs.size<=it) (h2:∀ x c,X.env.cells.lookup x=some c->c≠it) (h3:∀ p∈X.pn++pins,p.1≠it):Inv X pins σ H { s with heap:=h',toks:=t' }:=by
 have nit:∀ b u,H b=some u->b≠it:=fun b u e z=>by rw [z,hn] at e; cases e
 refine I.step (g':=s.gens) (d':=s.drawn) (ch:=[it]) (fun b hb=>?_) (fun b o _ _ hc e _=>k b o (fun z=>hc (by simp [z])) e) (fun b o _ _ hc e _=>⟨o.slots,k b o (fun z=>hc (by simp [z])) e⟩) (fun _ _ _ _ n=>n)
  (fun b o hc e=>⟨o,k b o (fun z=>hc (by simp [z])) e⟩) (fun _ _ e=>e) (fun _ _ _ e=>e) (fun _ _ e=>e) (fun _ _ e=>e) (fun m hm=>?_) (fun b u e=>?_) I.bare
 ·have e:b=it:=by simpa using hb
  subst e;exact⟨h1,hL,h2,h3⟩
 ·obtain⟨o,es,ep,ho,r⟩:=hm;exact⟨o,es,ep,k _ o (da hL) ho,r⟩
 ·refine(I.cp b u e).lU (fun c v hc q=>k c v ?_ q) (fun _ q=>q) fun _ _ q=>q;rcases hc with z | z
  ·rw [z]; exact nit b u e
  ·exact nit c _ z
theorem Inv.tok(I:Inv X pins σ H s)(t:Nat):Inv X pins σ H { s with toks:=t }:=I.un (h':=s.heap) (t':=t) Un.refl I.cp
theorem Inv.kept{t':Nat}(I:Inv X pins σ H s)(k:∀ b u,s.heap.get? b=some u->h'.get? b=some u):Inv X pins σ H { s with heap:=h',toks:=t' }:=I.un (Un.kept k) (I.cp.kept k)
theorem Inv.laid{a:Addr}{o:HO}{t':Nat}(I:Inv X pins σ H s)(k:∀ b u,s.heap.get? b=some u->h'.get? b=some u)(hp:s.heap.objs.size<=a)(new:fG X.prog X.w (upd H a o) h' a o) :
  Inv X pins σ (upd H a o) { s with heap:=h',toks:=t' }:=I.un (Un.laid k hp (I.cp.fresh hp)) (I.cp.laid k hp new)
theorem Inv.write{x e:Addr}{o:HO}{t':Nat}(I:Inv X pins σ H s)(mu:XS (H x))(he:e=x\/H e=some (.own x))(k:∀ b u,b≠e->s.heap.get? b=some u->h'.get? b=some u)(VP:∃ u,h'.get? e=some u)
  (new:fG X.prog X.w (upd H x o) h' x o):Inv X pins σ (upd H x o) { s with heap:=h',toks:=t' }:=I.un (Un.write mu he k VP) (I.cp.write mu he k VP new)
theorem Inv.Jy{SA:List (Addr×Obj)}(I:Inv X pins σ H s)(h:∀ p∈SA,s.heap.get? p.1=some p.2/\H p.1=none/\p.1≠X.env.locals/\p.1∉X.fs/\∀ v,p.2.data≠.cell v):Inv X SA σ H s :=
 ⟨I.ok,I.os,I.bare,I.base,I.loc,I.cell,I.free,I.pQ,fun p hp=>(List.mem_append.mp hp).elim (fun z=>I.pin p (bB _ z)) (h p),I.cp,I.len⟩
theorem Ei{N:List Str}(hN:N.Nodup){i j:Nat}{x:Str}(a:N[i]?=some x)(b:N[j]?=some x):i=j:=by
 obtain⟨h1,e1⟩:=List.getElem?_eq_some_iff.mp a;obtain⟨h2,e2⟩:=List.getElem?_eq_some_iff.mp b;exact(List.getElem_inj hN).mp (e1.trans e2.symm)
theorem AB{M:Model}{A:cL}{E:Value->av->Prop}{i:Nat}{x:Str}{v:V}{u:Value}{Q:Unit->av->Prop}(I:Inv X pins σ H s)(hN:X.N.Nodup)(hi:X.N[i]?=some x)(hx:Loc X.env.scope x)(r:RelV v u)
  (h:∀ s',Inv X pins (σ.set i (some v)) H s'->(∃ a,eN a s.heap s'.heap/\(a=X.env.locals\/X.env.cells.lookup x=some a))->Q () s') (hf:autoParam (X.fn x=true\/X.env.scope.names.lookup x=some .local) Ao._auto_1):wpAny M A (storeName X.env x u) Q E s:=by
 obtain⟨m,hn,hl⟩:=id I.loc;have aaf:(X.env.scope.kind == .class||(X.env.scope.kind == .module&&X.env.locals != X.env.globals))=false:=by rw [I.ok.kind]; rfl
 have W9:i < σ.length:=by rw [I.len]; exact(List.getElem?_eq_some_iff.mp hi).1
 have Vj:=I.Vj;have tracked:∀ {a:Addr} {h':Heap},(∃ o,s.heap.get? a=some o/\H a=none)->eN a s.heap h'->pS X.prog X.w H h':=fun {a h'} ha hs b ob e=>by
  obtain⟨_,_,uQ⟩:=ha;refine(I.cp b ob e).lU (fun c w' hc q=>(hs.2 c ?_).trans q) (fun _ q=>q) fun _ _ q=>q;rintro rfl;rcases hc with rfl | hc
  ·rw [uQ] at e; cases e
  ·rw [uQ] at hc; cases hc
 rcases hx with hk | hk
 ·refine wpAny_storeName_local hk hn (fun h' VN hs=>?_) aaf;obtain⟨oL,_,_,hoL,_⟩:=id hn;refine h _ ⟨I.ok,I.os,I.bare,⟨fun b o e n hb hx=>?_,fun b o e n hb hx=>?_,I.base.free,fun b o e hx=>?_,I.base.zM,I.base.yP,I.base.zP,I.base.zT⟩,⟨_,VN,fun j y v' e1 e2 e3=>?_⟩,fun y c e=>?_,I.free,I.pQ,fun p hp=>?_,tracked ⟨oL,hoL,I.free⟩ hs,by simpa using I.len⟩ ⟨_,hs,.inl rfl⟩
  ·exact(hs.2 b (bh (bK (aN e) I.ok.above))).trans (I.base.keep b o e n hb hx)
  ·obtain⟨sl,e1⟩:=I.base.slot b o e n hb hx;exact⟨sl,(hs.2 b (bh (bK (aN e) I.ok.above))).trans e1⟩
  ·obtain⟨o',e1⟩:=I.base.there b o e hx;exact⟨o',(hs.2 b (bh (bK (aN e) I.ok.above))).trans e1⟩
  ·by_cases hj:j=i
   ·subst hj;rw [hi] at e1; cases e1;rw [iS W9] at e2;cases e2;exact⟨u,r,.inl ⟨hk,by simp⟩⟩
   ·rw [jC (da hj)] at e2;obtain⟨u',r',q⟩:=hl j y v' e1 e2 e3;refine⟨u',r',?_⟩;rcases q with ⟨k,e⟩ | ⟨k,c,e,z⟩
    ·refine .inl ⟨k,?_⟩;have:y≠x:=fun e=>hj (Ei hN e1 (e ▸ hi));simp [this,e]
    ·exact .inr ⟨k,c,e,z.sameBut hs (Vj y c e)⟩
  ·obtain⟨w',z⟩:=I.cell y c e;exact⟨w',z.sameBut hs (Vj y c e)⟩
  ·obtain⟨e,n,ne,nf,d⟩:=I.pin p hp;exact⟨(hs.2 p.1 ne).trans e,n,ne,nf,d⟩
 ·have Z7:X.fn x=true:=by
   rcases hf with z | z
   ·exact z
   ·rw [z] at hk; cases hk
  obtain⟨c,hc⟩:=I.ok.has x (.inl hk);obtain⟨w',z⟩:=I.cell x c hc;refine wpAny_storeName_cell I.ok.kind hk hc z (fun h' S6 hs=>?_);obtain⟨oc,VM,ZS⟩:=id z;refine h { s with heap:=h' } ⟨I.ok,I.os,I.bare,⟨fun b o e n hb hx=>?_,fun b o e n hb hx=>?_,I.base.free,fun b o e hx=>?_,I.base.zM,I.base.yP,I.base.zP,I.base.zT⟩,⟨m,hn.sameBut hs (da (Vj x c hc)),fun j y v' e1 e2 e3=>?_⟩,fun y c' e=>?_,I.free,I.pQ,fun p hp=>?_,tracked ⟨oc,VM,I.pQ x c hc⟩ hs,by simpa using I.len⟩ ⟨c,hs,.inr hc⟩
  ·exact(hs.2 b (bh (bK (aN e) (I.ok.XD x c Z7 hc)))).trans (I.base.keep b o e n hb hx)
  ·obtain⟨sl,e1⟩:=I.base.slot b o e n hb hx;exact⟨sl,(hs.2 b (bh (bK (aN e) (I.ok.XD x c Z7 hc)))).trans e1⟩
  ·obtain⟨o',e1⟩:=I.base.there b o e hx;exact⟨o',(hs.2 b (bh (bK (aN e) (I.ok.XD x c Z7 hc)))).trans e1⟩
  ·by_cases hj:j=i
   ·subst hj;rw [hi] at e1; cases e1;rw [iS W9] at e2;cases e2;exact⟨u,r,.inr ⟨.inl hk,c,hc,S6⟩⟩
   ·rw [jC (da hj)] at e2;obtain⟨u',r',q⟩:=hl j y v' e1 e2 e3;refine⟨u',r',?_⟩;rcases q with q | ⟨k,c',e,z'⟩
    ·exact .inl q
    ·refine .inr ⟨k,c',e,z'.sameBut hs ?_⟩;rintro rfl;exact hj (Ei hN e1 (I.ok.inj _ _ _ e hc ▸ hi))
  ·by_cases Qs:c'=c
   ·subst Qs; exact⟨_,S6⟩
   ·obtain⟨w2,z2⟩:=I.cell y c' e;exact⟨w2,z2.sameBut hs Qs⟩
  ·obtain⟨e,n,ne,nf,d⟩:=I.pin p hp;refine⟨(hs.2 p.1 ?_).trans e,n,ne,nf,d⟩;intro q;rw [q,VM] at e;have q':oc=p.2:=aX e;exact d w' (by rw [<-q']; exact ZS)
theorem DV{M:Model}{A:cL}{E:Value->av->Prop}{i:Nat}{x:Str}{v:V}{u:Value}{Q:Unit->av->Prop}(I:Inv X pins σ H s)(hN:X.N.Nodup)(hi:X.N[i]?=some x)(hx:Loc X.env.scope x)(r:RelV v u)
  (h:∀ s',Inv X pins (σ.set i (some v)) H s'->Q () s') (hf:autoParam (X.fn x=true\/X.env.scope.names.lookup x=some .local) Ao._auto_1):wpAny M A (storeName X.env x u) Q E s :=
 AB I hN hi hx r (fun s' I' _=>h s' I') hf
end
noncomputable abbrev XK:=Value->Option Addr->Hp->Prop
noncomputable abbrev St:=List (Option V)
noncomputable abbrev VK:=V->Hp->Prop
noncomputable abbrev TE:=St->Hp->VK->Prop
noncomputable abbrev TT:=St->Hp->(Bool->Hp->Prop)->Prop
noncomputable abbrev TA:=St->Hp->(List V->Hp->Prop)->Prop
structure Ends where
 nx:St->Hp->Prop
 rt:VK
 bk:St->Hp->Prop:=fun _ _=>False
 ct:St->Hp->Prop:=fun _ _=>False
noncomputable abbrev TS:=Ends->St->Hp->Prop
noncomputable def EP(X:Cx)(pins:List (Addr×Obj))(σ:St)(Q:VK)(u:Value)(s':av):Prop:=∃ v H',Inv X pins σ H' s'/\RelV v u/\Q v H'
noncomputable def TP(X:Cx)(pins:List (Addr×Obj))(σ:St)(Q:Bool->Hp->Prop)(b:Bool)(s':av):Prop:=∃ H',Inv X pins σ H' s'/\Q b H'
noncomputable def SP(X:Cx)(pins:List (Addr×Obj))(D:Ends)(f:Flow)(s':av):Prop :=
 match f with
 | .next=>∃ ju H',Inv X pins ju H' s'/\D.nx ju H'
 | .brk=>∃ ju H',Inv X pins ju H' s'/\D.bk ju H'
 | .cont=>∃ ju H',Inv X pins ju H' s'/\D.ct ju H'
 | .ret u=>∃ v ju H',Inv X pins ju H' s'/\RelV v u/\D.rt v H'
noncomputable def PE(X:Cx)(e:Expr)(t:TE):Prop :=
 ∀ (pins:List (Addr×Obj)) (s:av) (σ:St) (H:Hp) (Q:VK),Inv X pins σ H s->t σ H Q->wpAny (model X.prog X.w) X.A (eval e X.env) (EP X pins σ Q) X.xe s
noncomputable def VY(X:Cx)(st:List Stmt)(t:TS):Prop :=
 ∀ (pins:List (Addr×Obj)) (s:av) (σ:St) (H:Hp) (D:Ends),Inv X pins σ H s->t D σ H->wpAny (model X.prog X.w) X.A (execs st X.env) (SP X pins D) X.xe s
theorem fZ{α:Type}{t:Sem α}{Q Q':α->av->Prop}{M:Model}{A:cL}{E:Value->av->Prop}{s:av}(h:wpAny M A t Q E s)(hQ:∀ a s,Q a s->Q' a s):wpAny M A t Q' E s:=tX h hQ fun _ _ x=>x
section
variable {X:Cx}
noncomputable def YJ(i:Nat):TE:=fun σ H Q=>∃ v,σ[i]?=some (some v)/\Q v H
noncomputable def tC(v:V):TE:=fun _ H Q=>Q v H
theorem Ug {i:Nat} {x:Str} {pos:Pos} (hN:X.N[i]?=some x) (hv:Yv X.env.scope x) (hd:autoParam ((x == ("__debug__" : Str))=false) Ad._auto_1) (Ka:autoParam ((x == ("__classdict__" : Str))=false) Ad._auto_1):PE X (.Name x pos) (YJ i):=by
 intro pins s σ H Q I h;obtain⟨v,e,h⟩:=h;obtain⟨m,hn,hl⟩:=I.loc;obtain⟨u,r,l⟩:=hl i x v hN e hv;have fin:EP X pins σ Q u s:=⟨v,H,I,r,h⟩;rcases l with ⟨hk,hm⟩ | ⟨hk,c,hc,pP⟩
 ·exact wpAny_Name (wpAny_loadName_local I.ok.kind hk hn hm fin) hd
 ·rcases hk with hk | hk
  ·exact wpAny_Name (wpAny_loadName_cell I.ok.kind hk hc pP fin) hd
  ·exact wpAny_Name (wpAny_loadName_free I.ok.kind hk hc pP fin Ka) hd
theorem Uh{i j pos}:PE X (.Constant (.int i) j pos) (tC (.int i)):=fun _ _ _ H _ I h=>wpAny_Constant_int ⟨.int i,H,I.tok _,⟨_,rfl⟩,h⟩
theorem Wo{b j pos}:PE X (.Constant (.bool b) j pos) (tC (.bl b)):=fun _ _ _ H _ I h=>Constant_bool ⟨.bl b,H,I,rfl,h⟩
noncomputable def Gl(X:Cx)(x:Str):Prop:=X.env.kindOf x=some .globalImplicit
theorem Cv{E:Value->av->Prop}{pins:List (Addr×Obj)}{s:av}{σ:St}{H:Hp}{x:Str}{u:Value}{pos:Pos}{Q:Value->av->Prop}(I:Inv X pins σ H s)(hg:Gl X x)(hm:X.mg x=some u)(h:Q u s)
  (hd:autoParam ((x == ("__debug__" : Str))=false) Ad._auto_1):wpAny (model X.prog X.w) X.A (eval (.Name x pos) X.env) Q E s :=
 FI I.ok.kind hg (Calls.loadGlobal_global (by rw [I.ok.glob]; exact I.mod.glob.keeps I.bk) hm h) hd
theorem nI{E:Value->av->Prop}{pins:List (Addr×Obj)}{s:av}{σ:St}{H:Hp}{x:Str}{u:Value}{pos:Pos}{Q:Value->av->Prop}(I:Inv X pins σ H s)(hg:Gl X x)(hm:X.mg x=none)(hv:du x=some u)(h:Q u s)
  (hn:autoParam (x≠"__name__") Ad._auto_1) (hd:autoParam ((x == ("__debug__" : Str))=false) Ad._auto_1):wpAny (model X.prog X.w) X.A (eval (.Name x pos) X.env) Q E s:=by
 obtain⟨mb,h1,h2⟩:=I.mod.blt;exact FI I.ok.kind hg (Calls.loadGlobal_builtin (by rw [I.ok.glob]; exact I.mod.glob.keeps I.bk) hm (by rw [I.ok.blt]; exact h1.keeps I.bk) ((h2 x hn).trans hv) h) hd
theorem Q6 {x:Str} {v:V} {u:Value} {pos:Pos} (hg:Gl X x) (hm:X.mg x=some u) (r:RelV v u) (hd:autoParam ((x == ("__debug__" : Str))=false) Ad._auto_1):PE X (.Name x pos) (tC v) :=
 fun _ _ _ H _ I h=>Cv I hg hm ⟨v,H,I,r,h⟩ hd
variable {a b:Expr} {ta tb:TE} {pos:Pos}
noncomputable def tB(t:TE):TT:=fun σ H Q=>t σ H fun x H1=>∃ c,x=.bl c/\Q c H1
variable {tA tB':TT} {rest:List Expr}
end
noncomputable def oK(K:ai)(H:Hp)(a:Addr)(xs:List V):Prop :=
 Rd H a (.lst xs) \/
  ∃ (o:Obj) (bG:Array Value) (n:Nat),K.lookup a=some o/\o.cls=.type "list"/\o.dict=none/\o.data=.seq bG n/\bG.size<=aY/\Vals xs bG.toList
noncomputable def vj(K:ai)(H:Hp)(a:Addr)(xs:List V):Prop :=
 Rd H a (.tup xs) \/
  ∃ (o:Obj) (bG:Array Value) (n:Nat),K.lookup a=some o/\o.cls=.type "tuple"/\o.data=.seq bG n/\bG.size<=aY/\Vals xs bG.toList
noncomputable def aaD:Value->Option V
 | .none=>some .eg
 | .bool b=>some (.bl b)
 | .int i _=>some (.int i)
 | .str x _=>some (.str x)
 | .bytes b _=>some (.Vo b)
 | .float b _=>some (.flt b)
 | .ref a=>some (.ref a)
 | .type n=>some (.ty n)
 | _=>none
theorem RelV.abs{x:V}{u:Value}(r:RelV x u):aaD u=some x:=by
 cases x with
 | eg=>cases r; rfl
 | bl _=>cases r; rfl
 | int _=>obtain⟨t,rfl⟩:=r; rfl
 | str _=>obtain⟨t,rfl⟩:=r; rfl
 | Vo _=>obtain⟨t,rfl⟩:=r; rfl
 | flt _=>obtain⟨t,rfl⟩:=r; rfl
 | ref _=>cases r; rfl
 | ty _=>cases r; rfl
theorem RelV.inj{x y:V}{u:Value}(r:RelV x u)(q:RelV y u):x=y:=aX (r.abs.symm.trans q.abs)
theorem Vals.inj:∀ {xs ys:List V} {us:List Value},Vals xs us->Vals ys us->xs=ys:=by
 intro xs ys us h;induction h generalizing ys with
 | nil=>intro k; cases k; rfl
 | cons r t ih =>
  intro k;cases k with
  | cons r' t'=>rw [r.inj r',ih t']
section
variable {X:Cx} {pins:List (Addr×Obj)} {σ:St} {H:Hp} {s:av} {a:Addr} {xs ys:List V}
theorem oK.of{K:ai}(h:H a=some (.lst xs)):oK K H a xs:=.inl (.inl h)
theorem vj.of{K:ai}(h:H a=some (.tup xs)):vj K H a xs:=.inl (.inl h)
theorem Inv.list(I:Inv X pins σ H s)(h:oK X.K H a xs):∃ bG:List Value,Vals xs bG/\PlainL s.heap a bG.toArray/\xs.length<=aY:=by
 rcases h with h | ⟨o,bG,n,hk,hc,hd,hs,hz,r⟩
 ·obtain⟨z,bG,n,r,e⟩:=h.ok I.cp;exact⟨bG,r,⟨_,n,e,rfl,rfl,rfl⟩,z⟩
 ·refine⟨bG.toList,r,⟨o,n,I.JW a o hk,hc,hd,by simpa using hs⟩,?_⟩;have e:=r.length;simp only [eX] at e;lia
theorem Inv.tuple(I:Inv X pins σ H s)(h:vj X.K H a xs):∃ bG:List Value,Vals xs bG/\IsTup s.heap a bG.toArray/\xs.length<=aY:=by
 rcases h with h | ⟨o,bG,n,hk,hc,hs,hz,r⟩
 ·obtain⟨z,bG,r,p⟩:=h.ok I.cp;exact⟨bG,r,p,z⟩
 ·refine⟨bG.toList,r,⟨o,I.JW a o hk,hc,n,by simpa using hs⟩,?_⟩;have e:=r.length;simp only [eX] at e;lia
theorem Inv.uH(I:Inv X pins σ H s)(h:oK X.K H a xs)(h':oK X.K H a ys):xs=ys:=by
 obtain⟨bG,r,⟨o,n,e,_,_,d⟩,_⟩:=I.list h;obtain⟨its',r',⟨o',n',e',_,_,d'⟩,_⟩:=I.list h';rw [e] at e'; cases e';rw [d] at d';injection d' with d1 _
 have:bG=its':=by simpa using congrArg Array.toList d1
 subst this;exact r.inj r'
theorem Inv.AA(I:Inv X pins σ H s)(h:vj X.K H a xs)(h':vj X.K H a ys):xs=ys:=by
 obtain⟨bG,r,⟨o,e,_,n,d⟩,_⟩:=I.tuple h;obtain⟨its',r',⟨o',e',_,n',d'⟩,_⟩:=I.tuple h';rw [e] at e'; cases e';rw [d] at d';injection d' with d1 _
 have:bG=its':=by simpa using congrArg Array.toList d1
 subst this;exact r.inj r'
end
noncomputable abbrev Cx.zL(X:Cx)(E:Value->av->Prop):Cx:={ X with xe:=E }
noncomputable abbrev Cx.Uu(X:Cx):Cx:=X.zL fun _ _=>False
theorem Cx.Ok.zL{X:Cx}(ok:X.Ok)(E:Value->av->Prop):(X.zL E).Ok :=
 ⟨ok.mod,ok.kind,ok.glob,ok.blt,ok.above,ok.inj,ok.has,ok.XD,ok.hd,ok.frames,ok.X2,ok.Yr,ok.bs,ok.R1,ok.Lu,ok.Pd,ok.yO,ok.VR⟩
theorem Cx.Ok.qw{X:Cx}{E:Value->av->Prop}(ok:(X.zL E).Ok):X.Ok :=
 ⟨ok.mod,ok.kind,ok.glob,ok.blt,ok.above,ok.inj,ok.has,ok.XD,ok.hd,ok.frames,ok.X2,ok.Yr,ok.bs,ok.R1,ok.Lu,ok.Pd,ok.yO,ok.VR⟩
section
variable {X:Cx} {pins:List (Addr×Obj)} {σ:St} {H:Hp} {s:av} {E:Value->av->Prop}
theorem Inv.zL(I:Inv X pins σ H s)(E:Value->av->Prop):Inv (X.zL E) pins σ H s:=⟨I.ok.zL E,I.os,I.bare,I.base,I.loc,I.cell,I.free,I.pQ,I.pin,I.cp,I.len⟩
theorem Inv.qw(I:Inv (X.zL E) pins σ H s):Inv X pins σ H s:=⟨I.ok.qw,I.os,I.bare,I.base,I.loc,I.cell,I.free,I.pQ,I.pin,I.cp,I.len⟩
theorem SP.qw{D:Ends}{f:Flow}{s':av}(h:SP (X.zL E) pins D f s'):SP X pins D f s':=by
 cases f with
 | next=>obtain⟨ju,H',I,q⟩:=h; exact⟨ju,H',I.qw,q⟩
 | brk=>obtain⟨ju,H',I,q⟩:=h; exact⟨ju,H',I.qw,q⟩
 | cont=>obtain⟨ju,H',I,q⟩:=h; exact⟨ju,H',I.qw,q⟩
 | ret u=>obtain⟨v,ju,H',I,r,q⟩:=h; exact⟨v,ju,H',I.qw,r,q⟩
theorem VY.Uu{st:List Stmt}{t:TS}(h:VY X.Uu st t):VY X st t:=fun pins s σ H D I hw =>
 tX (h pins s σ H D (I.zL _) hw) (fun _ _ q=>q.qw) fun _ _ z=>bD z
end
section
variable {X:Cx} {st:Stmt} {rest:List Stmt} {t u:TS} {e:Expr} {te:TE} {pos:Pos}
theorem Inv.quiet{pins:List (Addr×Obj)}{σ:St}{H:Hp}{s:av}(I:Inv X pins σ H s):interactive X.env=false:=by simp [interactive,I.ok.kind]
end
noncomputable abbrev aaF:=V->V->V->Hp->(Hp->Prop)->Prop
noncomputable def aaH(X:Cx)(t:aaF):Prop :=
 ∀ (pins:List (Addr×Obj)) (s:av) (σ:St) (H:Hp) (o i v:V) (ov iv u:Value) (Q:Hp->Prop),Inv X pins σ H s->RelV o ov->RelV i iv->RelV v u->t o i v H Q ->
  wpAny (model X.prog X.w) X.A (setItem ov iv u) (fun _ s'=>∃ H',Inv X pins σ H' s'/\Q H') X.xe s
structure It where
 go:Nat->Hp->Prop
 yld:Nat->Hp->V->Hp->Prop
 stop:Nat->Hp->Prop
noncomputable def mz(X:Cx)(pins:List (Addr×Obj))(H:Hp)(b:Addr):Prop :=
 H b=none/\b≠X.env.locals/\b∉X.fs/\(b∈X.ex\/X.mN.heap.objs.size<=b)/\(∀ x c,X.env.cells.lookup x=some c->c≠b)/\∀ p∈X.pn++pins,p.1≠b
theorem Inv.yR{X:Cx}{pins:List (Addr×Obj)}{σ:St}{H H':Hp}{s:av}{b:Addr}(I:Inv X pins σ H s)(hb:s.heap.objs.size<=b)(hn:H' b=none):mz X pins H' b:=by
 refine⟨hn,Qz (bK I.lt hb),I.Zd hb,.inr (bc I.sz hb),fun x c e z=>?_,fun p hp z=>?_⟩
 ·obtain⟨v,q⟩:=I.cell x c e;exact absurd (bK q.lt (by rw [z]; exact hb)) (iq _)
 ·exact absurd (bK (aN (I.pin p hp).1) (by rw [z]; exact hb)) (iq _)
structure Turn(P:bz)(w:World)(K:ai)(tg:Expr)(J:It)(fp:List Addr)(it:Addr)(tn:Nat->Heap->Prop):Prop where
 mem:it∈fp
 obj:∀ i h,tn i h->∀ b∈fp,∃ o,h.get? b=some o/\∀ v,o.data≠.cell v
 keep:∀ i h h',tn i h->(∀ b∈fp,∀ o,h.get? b=some o->h'.get? b=some o)->tn i h'
 item:∀ (X:Cx),X.prog=P->X.w=w->X.K=K->X.calm=true->∀ (i:Nat) (pins:List (Addr×Obj)) (s:av) (σ:St) (H:Hp) (E:Value->av->Prop),Inv X pins σ H s->(∀ b∈fp,mz X pins H b)->tn i s.heap->J.go i H ->
  wpAny (model P w) X.A (wo (.ref it)) (fun r s1=>∃ u,r=some u /\
   wpAny (model P w) X.A (xG tg (.ref it) u) (fun _ s2=>∃ x H',Inv X pins σ H' s2/\RelV x u/\J.yld i H x H'/\tn (i+1) s2.heap/\∀ b∈fp,H' b=none) E s1) E s
 done:∀ (X:Cx),X.prog=P->X.w=w->X.K=K->X.calm=true->∀ (i:Nat) (pins:List (Addr×Obj)) (s:av) (σ:St) (H:Hp) (E:Value->av->Prop),Inv X pins σ H s->(∀ b∈fp,mz X pins H b)->tn i s.heap->J.stop i H ->
  wpAny (model P w) X.A (wo (.ref it)) (fun r s1=>r=none/\Inv X pins σ H s1) E s
 self:∀ (A:cL) (i:Nat) (s:av) (Q:Value->av->Prop) (E:Value->av->Prop),tn i s.heap->Q (.ref it) s->wpAny (model P w) A (Au (.ref it)) Q E s
noncomputable abbrev TI:=St->Hp->(It->Hp->Prop)->Prop
noncomputable def PIE(X:Cx)(pins:List (Addr×Obj))(σ:St)(tg:Expr)(R:It->Hp->Prop)(SR:Value)(s2:av):Prop :=
 ∃ (it:Addr) (fp:List Addr) (tn:Nat->Heap->Prop) (J:It) (H':Hp),SR=.ref it/\Inv X pins σ H' s2/\Turn X.prog X.w X.K tg J fp it tn/\tn 0 s2.heap/\(∀ b∈fp,mz X pins H' b)/\R J H'
theorem Kd{M:Model}{A:cL}{E:Value->av->Prop}{s:av}{tg:Expr}{it:Addr}{u:Value}{o:Obj}{n:String}{vs:Array Value}{Q:Unit->av->Prop}(ho:s.heap.get? it=some o)(hc:o.cls=.type n)(hd:o.data=.fields vs)
    (hn:["enumerate","zip","dict_itemiterator","dict_reverseitemiterator","odict_iterator","itertools.zip_longest","itertools.pairwise"].contains n=false) (hQ:Q () s):wpAny M A (xG tg (.ref it) u) Q E s:=by
  unfold xG;cases tg <;> first
    | exact aw hQ
    | (cases u <;> first
        | exact aw hQ
        | (refine ag (wpAny_load ho ?_)
           rw [hc,hd];show wpAny M A (if (["enumerate","zip","dict_itemiterator","dict_reverseitemiterator","odict_iterator","itertools.zip_longest","itertools.pairwise"].contains n&&vs[0]? == some (pG _))=true then _ else _) Q E s;rw [if_neg (by intro h; rw [hn,qf] at h; cases h)];exact aw hQ))
noncomputable def Itl(K:ai)(a:Addr):It :=
 ⟨fun i H=>∃ xs x,oK K H a xs/\xs[i]?=some x,fun i H x H'=>H'=H/\∀ xs,oK K H a xs->xs[i]?=some x,fun i H=>∃ xs,oK K H a xs/\xs.length<=i⟩
noncomputable def Itt(K:ai)(a:Addr):It :=
 ⟨fun i H=>∃ xs x,vj K H a xs/\xs[i]?=some x,fun i H x H'=>H'=H/\∀ xs,vj K H a xs->xs[i]?=some x,fun i H=>∃ xs,vj K H a xs/\xs.length<=i⟩
noncomputable def Itr(lo:Int)(n:Nat):It:=⟨fun i _=>i < n,fun i H x H'=>H'=H/\x=.int (lo+i),fun i _=>n<=i⟩
theorem K0{P:bz}{w:World}{K:ai}{tg:Expr}(a it:Addr):Turn P w K tg (Itl K a) [it] it (fun i h=>h.IsListIter it a i) where
 mem:=by simp
 obj:=fun i h st b hb=>by
  have e:b=it:=by simpa using hb
  subst e;obtain⟨o,e,c,d⟩:=st;exact⟨o,e,fun v z=>by rw [d] at z; cases z⟩
 keep:=fun i h h' st k=>st.at fun o e=>k it (by simp) o e
 item:=by
  intro X hP hw hK hc i pins s σ H E I hf st hg;subst hP hw hK;obtain⟨xs,x,hq,hx⟩:=hg;obtain⟨bG,rv,p,hz⟩:=I.list hq;obtain⟨u,hu,ru⟩:=rv.get hx;obtain⟨f0,f1,f2,f3,f4,f5⟩:=hf it (by simp);refine wpAny_pyNext_list_item st p.isList (x:=u) (by simpa using hu) fun h' zQ sb=>?_;have I1:Inv X pins σ H { s with heap:=h' }:=I.turned (t':=s.toks) (fun b o hb e=>(sb.2 b hb).trans e) f0 f1 f3 f4 f5;obtain⟨o,e,c,d⟩:=id zQ;exact⟨u,rfl,Kd (s:={ s with heap:=h' }) e c d (by decide) ⟨x,H,I1,ru,⟨rfl,fun ys hy=>by rw [I.uH hy hq]; exact hx⟩,zQ,fun b hb=>(hf b hb).1⟩⟩
 done:=by
  intro X hP hw hK hc i pins s σ H E I hf st hg;subst hP hw hK;obtain⟨xs,hq,hx⟩:=hg;obtain⟨bG,rv,p,hz⟩:=I.list hq;obtain⟨f0,f1,f2,f3,f4,f5⟩:=hf it (by simp);have hl:=rv.length;exact wpAny_pyNext_list_end (I.ok.hd hc) st p.isList (by simp; lia) fun h' eb=>⟨rfl,I.turned (t':=s.toks) (fun b o hb e=>eb b o hb e) f0 f1 f3 f4 f5⟩
 self:=fun _ _ _ _ _ st h=>wpAny_pyIter_listiter st h
theorem Gw{P:bz}{w:World}{K:ai}{tg:Expr}(a it:Addr):Turn P w K tg (Itt K a) [it] it (fun i h=>h.IsTupleIter it a i) where
 mem:=by simp
 obj:=fun i h st b hb=>by
  have e:b=it:=by simpa using hb
  subst e;obtain⟨o,e,c,d⟩:=st;exact⟨o,e,fun v z=>by rw [d] at z; cases z⟩
 keep:=fun i h h' st k=>st.at fun o e=>k it (by simp) o e
 item:=by
  intro X hP hw hK hc i pins s σ H E I hf st hg;subst hP hw hK;obtain⟨xs,x,hq,hx⟩:=hg;obtain⟨bG,rv,p,hz⟩:=I.tuple hq;obtain⟨u,hu,ru⟩:=rv.get hx;obtain⟨f0,f1,f2,f3,f4,f5⟩:=hf it (by simp);refine wpAny_pyNext_tuple_item st (show s.heap.IsTuple a bG.toArray from p) (x:=u) (by simpa using hu) fun h' zQ sb=>?_;have I1:Inv X pins σ H { s with heap:=h' }:=I.turned (t':=s.toks) (fun b o hb e=>(sb.2 b hb).trans e) f0 f1 f3 f4 f5;obtain⟨o,e,c,d⟩:=id zQ;exact⟨u,rfl,Kd (s:={ s with heap:=h' }) e c d (by decide) ⟨x,H,I1,ru,⟨rfl,fun ys hy=>by rw [I.AA hy hq]; exact hx⟩,zQ,fun b hb=>(hf b hb).1⟩⟩
 done:=by
  intro X hP hw hK hc i pins s σ H E I hf st hg;subst hP hw hK;obtain⟨xs,hq,hx⟩:=hg;obtain⟨bG,rv,p,hz⟩:=I.tuple hq;obtain⟨f0,f1,f2,f3,f4,f5⟩:=hf it (by simp);have hl:=rv.length;exact wpAny_pyNext_tuple_end (I.ok.hd hc) st (show s.heap.IsTuple a bG.toArray from p) (by simp; lia) fun h' eb=>⟨rfl,I.turned (t':=s.toks) (fun b o hb e=>eb b o hb e) f0 f1 f3 f4 f5⟩
 self:=fun _ _ _ _ _ st h=>wpAny_pyIter_tupleiter st h
theorem Gx{P:bz}{w:World}{K:ai}{tg:Expr}(it:Addr)(lo:Int)(n:Nat):Turn P w K tg (Itr lo n) [it] it (fun i h=>IsRangeIter h it (lo+(i:Nat) * 1) ((n:Int) - (i:Nat)) 1) where
 mem:=by simp
 obj:=fun i h st b hb=>by
  have e:b=it:=by simpa using hb
  subst e;exact⟨_,st,fun v z=>by
   have z':Data.fields _=Data.cell v:=z;cases z'⟩
 keep:=fun i h h' st k=>k it (by simp) _ st
 item:=by
  intro X hP hw hK hc i pins s σ H E I hf st hg;subst hP hw hK;obtain⟨f0,f1,f2,f3,f4,f5⟩:=hf it (by simp);have W:=Walks.range (prog:=X.prog) (w:=X.w) (I.ok.hd hc) it lo 1 n;refine W.item i s _ _ hg st fun v h' tk hv zQ kk=>?_;obtain⟨t,rfl⟩:=hv;have I1:Inv X pins σ H { s with heap:=h',toks:=tk }:=I.turned (fun b o hb e=>kk b o (by simpa using hb) e) f0 f1 f3 f4 f5;refine⟨_,rfl,Kd (s:={ s with heap:=h',toks:=tk }) (n:="range_iterator") zQ rfl rfl (by decide) ⟨.int (lo+i),H,I1,⟨t,?_⟩,⟨rfl,rfl⟩,zQ,fun b hb=>(hf b hb).1⟩⟩;rw [Int.mul_one]
 done:=by
  intro X hP hw hK hc i pins s σ H E I hf st hg;subst hP hw hK;obtain⟨f0,f1,f2,f3,f4,f5⟩:=hf it (by simp);exact wpAny_pyNext_range_end (I.ok.hd hc) st (by have:n<=i:=hg; lia) fun h' eb=>⟨rfl,I.turned (t':=s.toks) (fun b o hb e=>eb b o hb e) f0 f1 f3 f4 f5⟩
 self:=fun _ _ _ _ _ st h=>wpAny_pyIter_rangeiter st h
section
variable {X:Cx} {tg:Expr}
theorem NA{pins:List (Addr×Obj)}{σ:St}{H:Hp}{s:av}{R:It->Hp->Prop}{E:Value->av->Prop}{lo hi:Int}{t u v:Tok}{tk:Nat}(I:Inv X pins σ H s)(h1:-(2 ^ 62)<=lo)(h2:lo < 2 ^ 62)(h3:-(2 ^ 62)<=hi)(h4:hi < 2 ^ 62)
  (q:R (Itr lo (hi - lo).toNat) H):wpAny (model X.prog X.w) X.A (Au (.ref s.heap.objs.size)) (PIE X pins σ tg R) E { s with heap:=s.heap.push { cls:=.type "range",data:=.fields #[.int lo t,.int hi u,.int 1 v] },toks:=tk }:=by
 refine wpAny_pyIter_range (IsRange.new ..) (small_one h1 h2 h3 h4) ?_;have I1:Inv X pins σ H { s with heap:=s.heap.push { cls:=.type "range",data:=.fields #[.int lo t,.int hi u,.int 1 v] },toks:=tk }:=I.kept fun b o e=>ay _ e
 refine⟨(s.heap.push { cls:=.type "range",data:=.fields #[.int lo t,.int hi u,.int 1 v] }).objs.size,[(s.heap.push { cls:=.type "range",data:=.fields #[.int lo t,.int hi u,.int 1 v] }).objs.size],_,_,H,rfl,
  I1.kept (t':=tk) fun b o e=>ay _ e,Gx _ lo (hi - lo).toNat,?_,fun b hb=>?_,q⟩
 ·have e1:lo+((0:Nat):Int) * 1=lo:=by simp
  have e2:(((hi - lo).toNat:Nat):Int) - ((0:Nat):Int)=Builtin.Range.rangeSize lo hi 1:=by rw [rangeSize_one]; split <;> lia
  show IsRangeIter _ _ (lo+((0:Nat):Int) * 1) ((((hi - lo).toNat:Nat):Int) - ((0:Nat):Int)) 1;rw [e1,e2];exact aO _ rfl
 ·have e:b=(s.heap.push { cls:=.type "range",data:=.fields #[.int lo t,.int hi u,.int 1 v] }).objs.size:=by simpa using hb
  subst e;exact I1.yR (aB _) (I1.cp.fresh (aB _))
noncomputable def qJ(fp:List Addr)(h:Heap):List (Addr×Obj):=fp.filterMap fun b=>(h.get? b).map fun o=>(b,o)
theorem o9{fp:List Addr}{h:Heap}{b:Addr}{o:Obj}(hb:b∈fp)(e:h.get? b=some o):(b,o)∈qJ fp h:=List.mem_filterMap.mpr ⟨b,hb,by rw [e]; rfl⟩
theorem Ls{fp:List Addr}{h:Heap}{p:Addr×Obj}(hp:p∈qJ fp h):p.1∈fp/\h.get? p.1=some p.2:=by
 obtain⟨b,hb,e⟩:=List.mem_filterMap.mp hp;cases q:h.get? b with
 | none=>rw [q] at e; cases e
 | some o =>
  rw [q] at e;have e':(b,o)=p:=aX e;subst e';exact⟨hb,q⟩
theorem Inv.pinned{pins:List (Addr×Obj)}{σ:St}{H:Hp}{s:av}{fp:List Addr}(I:Inv X pins σ H s)(hf:∀ b∈fp,mz X pins H b)(ho:∀ b∈fp,∃ o,s.heap.get? b=some o/\∀ v,o.data≠.cell v):Inv X (pins++qJ fp s.heap) σ H s :=
 I.Jy fun p hp=>(List.mem_append.mp hp).elim (fun z=>I.pin p (bg _ z)) fun z=>by
  obtain⟨hb,e⟩:=Ls z;obtain⟨f0,f1,f2,_⟩:=hf p.1 hb;obtain⟨o,e',d⟩:=ho p.1 hb;rw [e] at e'; cases e';exact⟨e,f0,f1,f2,d⟩
theorem Inv.t7{pins pl:List (Addr×Obj)}{σ:St}{H:Hp}{s:av}(I:Inv X (pins++pl) σ H s):Inv X pins σ H s:=I.Jy fun p hp=>I.pin p (bg _ (bB _ hp))
end
noncomputable abbrev R2:=V->V->Hp->VK->Prop
noncomputable def IF(X:Cx)(f:Value->Value->Sem Value)(r:R2):Prop :=
 ∀ (pins:List (Addr×Obj)) (s:av) (σ:St) (H:Hp) (x y:V) (v u:Value) (Q:VK),Inv X pins σ H s->RelV x v->RelV y u->r x y H Q ->
  wpAny (model X.prog X.w) X.A (f v u) (EP X pins σ Q) X.xe s
noncomputable def UnR(X:Cx)(f:Value->Sem Value)(r:V->Hp->VK->Prop):Prop :=
 ∀ (pins:List (Addr×Obj)) (s:av) (σ:St) (H:Hp) (x:V) (v:Value) (Q:VK),Inv X pins σ H s->RelV x v->r x H Q ->
  wpAny (model X.prog X.w) X.A (f v) (EP X pins σ Q) X.xe s
noncomputable def Qb(X:Cx)(f:Value)(r:List V->Hp->VK->Prop):Prop :=
 ∀ (pins:List (Addr×Obj)) (s:av) (σ:St) (H:Hp) (xs:List V) (us:List Value) (Q:VK),Inv X pins σ H s->Vals xs us->r xs H Q ->
  wpAny (model X.prog X.w) X.A (call f us) (EP X pins σ Q) X.xe s
noncomputable def aaE(X:Cx)(r:V->Hp->(Bool->Hp->Prop)->Prop):Prop :=
 ∀ (pins:List (Addr×Obj)) (s:av) (σ:St) (H:Hp) (x:V) (v:Value) (Q:Bool->Hp->Prop),Inv X pins σ H s->RelV x v->r x H Q ->
  wpAny (model X.prog X.w) X.A (truthy v) (TP X pins σ Q) X.xe s
noncomputable def rI(C:Int->Int->Prop)(g:Int->Int->V):R2:=fun x y H Q=>∃ i j,x=.int i/\y=.int j/\C i j/\Q (g i j) H
noncomputable def T6(g:Int->Int->V):R2:=fun x y H Q=>∃ i j,x=.int i/\y=.int j/\Q (g i j) H
noncomputable def rU(g:Int->V):V->Hp->VK->Prop:=fun x H Q=>∃ i,x=.int i/\Q (g i) H
section
variable {X:Cx} {a b c:Expr} {ta tb tc:TE} {pos:Pos}
theorem X6{f:Value->Value->Sem Value}{C:Int->Int->Prop}{g:Int->Int->Int}
  (rule:∀ (i j:Int) (t u:Tok) (s:av) (Q:Value->av->Prop) (E:Value->av->Prop),C i j->Q (.int (g i j) s.toks) { s with toks:=s.toks+1 }->wpAny (model X.prog X.w) X.A (f (.int i t) (.int j u)) Q E s) :
  IF X f (rI C fun i j=>.int (g i j)):=by
 intro pins s σ H x y v u Q I rx ry h;obtain⟨i,j,rfl,rfl,hc,q⟩:=h;obtain⟨t,rfl⟩:=rx;obtain⟨t',rfl⟩:=ry;exact rule i j t t' s _ _ hc ⟨.int (g i j),H,I.tok _,⟨_,rfl⟩,q⟩
theorem Wu{f:Value->Value->Sem Value}{g:Int->Int->Int}
  (rule:∀ (i j:Int) (t u:Tok) (s:av) (Q:Value->av->Prop) (E:Value->av->Prop),Q (.int (g i j) s.toks) { s with toks:=s.toks+1 }->wpAny (model X.prog X.w) X.A (f (.int i t) (.int j u)) Q E s) :
  IF X f (T6 fun i j=>.int (g i j)):=by
 intro pins s σ H x y v u Q I rx ry h;obtain⟨i,j,rfl,rfl,q⟩:=h;obtain⟨t,rfl⟩:=rx;obtain⟨t',rfl⟩:=ry;exact rule i j t t' s _ _ ⟨.int (g i j),H,I.tok _,⟨_,rfl⟩,q⟩
theorem Ur{f:Value->Value->Sem Value}{g:Int->Int->Bool}
  (rule:∀ (i j:Int) (t u:Tok) (s:av) (Q:Value->av->Prop) (E:Value->av->Prop),Q (.bool (g i j)) s->wpAny (model X.prog X.w) X.A (f (.int i t) (.int j u)) Q E s) :
  IF X f (T6 fun i j=>.bl (g i j)):=by
 intro pins s σ H x y v u Q I rx ry h;obtain⟨i,j,rfl,rfl,q⟩:=h;obtain⟨t,rfl⟩:=rx;obtain⟨t',rfl⟩:=ry;exact rule i j t t' s _ _ ⟨.bl (g i j),H,I,rfl,q⟩
noncomputable def aaQ(i j:Int):Prop:=0 < j/\j < 1073741824
noncomputable def VB(i j:Int):Prop:=(-(2 ^ 64) < i/\i < 2 ^ 64)\/(-(2 ^ 64) < j/\j < 2 ^ 64)
theorem VB.ok{i j:Int}(h:VB i j):IntMulOk i j:=by
 rcases h with ⟨h1,h2⟩ | ⟨h1,h2⟩
 ·exact .of_left (intBits_le_64 h1 h2)
 ·exact .of_right (intBits_le_64 h1 h2)
theorem Uq:IF X (iU .Add) (T6 fun i j=>.int (i+j)):=Wu fun _ _ _ _ _ _ _ q=>add_int q
theorem Uk:IF X (iU .Sub) (T6 fun i j=>.int (i - j)):=Wu fun _ _ _ _ _ _ _ q=>sub_int q
theorem Ul:IF X (iU .Mult) (rI VB fun i j=>.int (i * j)):=X6 fun _ _ _ _ _ _ _ hc q=>mul_int q hc.ok
theorem Rg:IF X (iU .FloorDiv) (rI aaQ fun i j=>.int (i / j)):=X6 fun i j _ _ _ _ _ hc q=>by
 have h1:(0:Int) < j:=hc.1;have h2:j < 1073741824:=hc.2;exact floordiv_int (by lia) (by rw [Int.fdiv_eq_ediv_of_nonneg i (by lia)]; exact q) (.inl (PyProof.noPylong_small (by lia)))
theorem Um:IF X (iU .Mod) (rI (fun _ j=>0 < j) fun i j=>.int (i % j)):=X6 fun i j _ _ _ _ _ hc q=>by
 have h1:(0:Int) < j:=hc;exact mod_int' (by lia) (by rw [Int.fmod_eq_emod_of_nonneg i (by lia)]; exact q)
theorem unI{f:Value->Sem Value}{g:Int->Int}
  (rule:∀ (i:Int) (t:Tok) (s:av) (Q:Value->av->Prop) (E:Value->av->Prop),Q (.int (g i) s.toks) { s with toks:=s.toks+1 }->wpAny (model X.prog X.w) X.A (f (.int i t)) Q E s) :
  UnR X f (rU fun i=>.int (g i)):=by
 intro pins s σ H x v Q I rx h;obtain⟨i,rfl,q⟩:=h;obtain⟨t,rfl⟩:=rx;exact rule i t s _ _ ⟨.int (g i),H,I.tok _,⟨_,rfl⟩,q⟩
theorem Tu:UnR X (unaryOp .USub) (rU fun i=>.int (-i)):=unI fun _ _ _ _ _ q=>neg_int q
end
section
variable {X:Cx} {a b c:Expr} {ta tb tc:TE} {pos:Pos}
theorem Wr:IF X (dg .Lt) (T6 fun i j=>.bl (decide (i < j))):=Ur fun _ _ _ _ _ _ _ q=>lt_int q
theorem Ws:IF X (dg .LtE) (T6 fun i j=>.bl (decide (i<=j))):=Ur fun _ _ _ _ _ _ _ q=>le_int q
theorem Wt:IF X (dg .Gt) (T6 fun i j=>.bl (decide (j < i))):=Ur fun _ _ _ _ _ _ _ q=>gt_int q
theorem gP(b:Expr){op:CmpOp}(h:autoParam (op≠.In) Ad._auto_1)(h2:autoParam (op≠.NotIn) Ad._auto_1):behindInMarks op b=false:=by
 have e1:(op == CmpOp.In)=false:=by cases op <;> first | rfl | exact absurd rfl h
 have e2:(op == CmpOp.NotIn)=false:=by cases op <;> first | rfl | exact absurd rfl h2
 cases b with
 | Set es k _ =>
  show (k == 0&&(op == .In||op == .NotIn)&&es.all (constantsAlone 8))=false;rw [e1,e2,Bool.or_false,IX,qf]
 | _=>rfl
noncomputable def Vw(K:ai)(x:V)(H:Hp)(k:Bool):Prop :=
 match x with
 | .eg=>k=false
 | .bl b=>k=b
 | .int i=>k=(i != 0)
 | .str y=>y.length<=aY/\k=((y.length:Int) != 0)
 | .Vo y=>y.size<=aY/\k=((y.size:Int) != 0)
 | .ref p=>(∃ xs,oK K H p xs/\k=!xs.isEmpty)\/(∃ xs,vj K H p xs/\k=!xs.isEmpty)\/∃ kvs,H p=some (.dK kvs)/\k=!kvs.isEmpty
 | _=>False
theorem Hz{κ:Type}{kvs:List (κ×V)}{vs:List (κ×Value)}(r:KV kvs vs):(!vs.isEmpty)=!kvs.isEmpty:=by
 cases r <;> rfl
theorem yI{xs:List V}{bG:List Value}(r:Vals xs bG):(!bG.toArray.isEmpty)=!xs.isEmpty:=by
 cases r <;> simp
theorem yD:(aY:Nat) < 2 ^ 63:=by rw [cI]; decide
theorem Tx:aaE X (fun x H Q=>∃ k,Vw X.K x H k/\Q k H):=by
 intro pins s σ H x v Q I rx h;obtain⟨k,e,q⟩:=h;have hl:=yD;have hs:aY=16777216:=cI;cases x with
 | eg =>
  cases rx;have e':k=false:=e;subst e';exact truthy_none ⟨H,I,q⟩
 | bl b =>
  cases rx;have e':k=b:=e;subst e';exact ik ⟨H,I,q⟩
 | int i =>
  obtain⟨t,rfl⟩:=rx;have e':k=(i != 0):=e;subst e';exact PySem.P.truthy_int ⟨H,I,q⟩
 | str y =>
  obtain⟨t,rfl⟩:=rx;obtain⟨hy,e'⟩:y.length<=aY/\k=((y.length:Int) != 0):=e;subst e';exact PySem.P.truthy_str (by lia) ⟨H,I.tok _,q⟩
 | Vo y =>
  obtain⟨t,rfl⟩:=rx;obtain⟨hy,e'⟩:y.size<=aY/\k=((y.size:Int) != 0):=e;subst e';exact PySem.W.truthy_bytes (by lia) ⟨H,I.tok _,q⟩
 | ref p =>
  cases rx;have e':(∃ xs,oK X.K H p xs/\k=!xs.isEmpty)\/(∃ xs,vj X.K H p xs/\k=!xs.isEmpty)\/∃ kvs,H p=some (.dK kvs)/\k=!kvs.isEmpty:=e;rcases e' with ⟨xs,hx,e'⟩ | ⟨xs,hx,e'⟩ | ⟨kvs,hx,e'⟩
  ·subst e';obtain⟨bG,r,pl,hz⟩:=I.list hx;have hlen:=r.length;exact wpAny_truthy_list pl.isList (by simp only [aR]; lia) ⟨H,I.tok _,by rw [yI r]; exact q⟩
  ·subst e';obtain⟨bG,r,pl,hz⟩:=I.tuple hx;have hlen:=r.length;exact truthy_tuple pl (by simp only [aR]; lia) ⟨H,I.tok _,by rw [yI r]; exact q⟩
  ·subst e';obtain⟨hz,hS,vs,r,m⟩:kvs.length<=aY/\(p == cO)=false/\∃ vs,KV kvs vs/\s.heap.DictOf (cE X.prog X.w) p vs:=I.cp p _ hx;have hlen:kvs.length=vs.length:=g8 r;exact FW hS m (by lia) ⟨H,I.tok _,by rw [Hz r]; exact q⟩
 | _=>exact(show False from e).elim
theorem Ha:IF X (iU .Add) (fun x y H Q=>∃ i j,x=.str i/\y=.str j/\i.length+j.length<=aY/\Q (.str (i++j)) H):=by
 intro pins s σ H x y v u Q I rx ry h;obtain⟨i,j,rfl,rfl,hz,q⟩:=h;obtain⟨t,rfl⟩:=rx;obtain⟨t',rfl⟩:=ry;exact add_str (fun t' tk=>⟨.str (i++j),H,I.tok _,⟨_,rfl⟩,q⟩) hz
theorem vals1{x:V}{us:List Value}(r:Vals [x] us):∃ u,us=[u]/\RelV x u:=by
 cases r with
 | cons r1 r2=>cases r2; exact⟨_,rfl,r1⟩
theorem vals2{x y:V}{us:List Value}(r:Vals [x,y] us):∃ u w',us=[u,w']/\RelV x u/\RelV y w':=by
 cases r with
 | cons r1 r2 =>
  cases r2 with
  | cons r3 r4=>cases r4; exact⟨_,_,rfl,r1,r3⟩
noncomputable def XT(K:ai)(x:V)(H:Hp)(n:Nat):Prop :=
 match x with
 | .str y=>y.length<=aY/\n=y.length
 | .Vo y=>y.size<=aY/\n=y.size
 | .ref p=>(∃ xs,oK K H p xs/\n=xs.length)\/∃ xs,vj K H p xs/\n=xs.length
 | _=>False
theorem PI:Qb X (.builtin "len") (fun xs H Q=>∃ x n,xs=[x]/\XT X.K x H n/\Q (.int n) H):=by
 intro pins s σ H xs us Q I r h;obtain⟨x,n,rfl,e,q⟩:=h;obtain⟨u,rfl,rx⟩:=vals1 r;have hl:=yD;have hs:aY=16777216:=cI;cases x with
 | str y =>
  obtain⟨t,rfl⟩:=rx;obtain⟨hy,e'⟩:y.length<=aY/\n=y.length:=e;subst e';exact len_str (by lia) ⟨.int _,H,I.tok _,⟨_,rfl⟩,q⟩
 | Vo y =>
  obtain⟨t,rfl⟩:=rx;obtain⟨hy,e'⟩:y.size<=aY/\n=y.size:=e;subst e';exact PySem.W.len_bytes (by lia) ⟨.int _,H,I.tok _,⟨_,rfl⟩,q⟩
 | ref p =>
  cases rx;have e':(∃ xs,oK X.K H p xs/\n=xs.length)\/∃ xs,vj X.K H p xs/\n=xs.length:=e;rcases e' with ⟨xs,hx,e'⟩ | ⟨xs,hx,e'⟩
  ·subst e';obtain⟨bG,r',pl,hz⟩:=I.list hx;have hlen:=r'.length;exact Calls.call_len_list pl.isList (by simp only [aR]; lia) ⟨.int xs.length,H,I.tok _,⟨_,by simp only [aR]; rw [hlen]⟩,q⟩
  ·subst e';obtain⟨bG,r',pl,hz⟩:=I.tuple hx;have hlen:=r'.length;exact len_tuple pl (by simp only [aR]; lia) ⟨.int xs.length,H,I.tok _,⟨_,by simp only [aR]; rw [hlen]⟩,q⟩
 | _=>exact(show False from e).elim
end
theorem wc.some_of{v:V}{o:Option Value}(r:wc (some v) o):∃ u,o=some u/\RelV v u:=by
 cases o with
 | none=>exact(show False from r).elim
 | some u=>exact⟨u,rfl,r⟩
structure lx(k:Nat)(A:cL):Prop where
 hd:A.handled=none
 dp:A.depth+3 * k+5 < recursionLimit
 un:A.units+16 * k+200 < cLine
theorem lx.mono{j k:Nat}{A:cL}(r:lx k A)(h:j<=k):lx j A:=⟨r.hd,by have:=r.dp; lia,by have:=r.un; lia⟩
theorem lx.deeper{k:Nat}{A:cL}(r:lx (k+1) A)(env:Env):lx k (A.deeper env) :=
 ⟨r.hd,by have:=r.dp; show A.depth+1+3 * k+5 < _; lia,by have:=r.un; show A.units+3+16 * k+200 < _; lia⟩
theorem lx.depth{k:Nat}{A:cL}(r:lx k A):A.depth < recursionLimit:=by have:=r.dp; lia
theorem lx.units{k:Nat}{A:cL}(r:lx k A):A.units+64 < cLine:=by have:=r.un; lia
theorem lx.BP{k:Nat}{A:cL}(r:lx k A):A.units < cLine:=by have:=r.un; lia
noncomputable abbrev Sp:=List V->Hp->VK->XK->Prop
noncomputable abbrev Mq:=List Env->Hp->av->XK->Value->av->Prop
structure Sd(P:bz)(w:World)(K:ai)(mg:Str->Option Value)(base:Heap)(A:cL)(outer:List Env)(s:av)(H:Hp):Prop where
 frames:A.frames=some outer
 mod:Mod K mg base
 bs:∀ b o,base.get? b=some o->s.heap.get? b=some o/\H b=none
 R1:base.objs.size<=s.heap.objs.size
 yO:s.heap.FunFrames base outer
 VR:∀ b∈MH outer,H b=none
 cp:pS P w H s.heap
 bare:BM s.gens
noncomputable def CE(outer:List Env)(P:bz)(w:World)(H:Hp)(s:av)(Q:VK)(u:Value)(s':av):Prop :=
 ∃ v H',s'.os=s.os/\BM s'.gens/\Un (MH outer) [] H H' s.heap s'.heap/\pS P w H' s'.heap/\RelV v u/\Q v H'
noncomputable def CR(CX:Mq)(outer:List Env)(P:bz)(w:World)(H:Hp)(s:av)(Q:VK)(E:XK)(r:Result)(s':av):Prop :=
 match r with
 | .ok (.ret u)=>CE outer P w H s Q u s'
 | .ok _=>False
 | .error e=>CX outer H s E e s'
structure xc(P:bz)(w:World)(K:ai)(mg:Str->Option Value)(base:Heap)(CX:Mq)(k:Nat)(f:Addr)(fd:gG)(ps:List Str)(sp:Sp):Prop where
 len:∀ vs H Q E,sp vs H Q E->vs.length=ps.length
 run:∀ (A:cL) (outer:List Env) (s:av) (H:Hp) (args:Args) (us:List Value) (vs:List V) (Q:VK) (E:XK),lx k A->Sd P w K mg base A outer s H->BindsTo s fd args (ps.zip us)->Vals vs us->sp vs H Q E ->
  BH (model P w) A (.call (.ref f) args) (CR CX outer P w H s Q E) s
section
variable {X:Cx} {pins:List (Addr×Obj)} {σ:St} {H:Hp} {s s':av}
theorem Inv.aau(I:Inv X pins σ H s):Sd X.prog X.w X.K X.mg X.base X.A X.stack s H :=
 ⟨I.ok.frames,I.ok.mod,I.bs,bc I.ok.R1 I.sz,I.stack,I.Jh,I.cp,I.bare⟩
theorem Inv.after{Q:VK}{u:Value}(I:Inv X pins σ H s)(h:CE X.stack X.prog X.w H s Q u s'):EP X pins σ Q u s':=by
 obtain⟨v,H',os,bare,un,cp,r,q⟩:=h;obtain⟨hh,g,d,t,os'⟩:=s';obtain rfl:os'=s.os:=os;exact⟨v,H',I.call (h':=hh) (g':=g) (d':=d) (t':=t) (ch:=[]) un cp bare (fun b z=>absurd z (by simp)),r,q⟩
end
noncomputable def Binds(K:ai)(fd:gG)(ps:List Str)(ds:List Value):Prop :=
 ∀ (s:av) (us:List Value),K.In s.heap->(us++ds).length=ps.length->BindsTo s fd ⟨us,[]⟩ (ps.zip (us++ds))
theorem Binds.all{K:ai}{fd:gG}{ps:List Str}(h:∀ us:List Value,us.length=ps.length->bindArgs fd ⟨us,[]⟩=pure (ps.zip us)):Binds K fd ps []:=fun s us _ hl=>by
 rw [cH] at hl ⊢;exact .of_eq (h us hl)
noncomputable def Passes(CX:Mq)(X:Cx)(E:XK):Prop:=∀ (pins:List (Addr×Obj)) (σ:St) (H:Hp) (s:av) (e:Value) (s':av),Inv X pins σ H s->CX X.stack H s E e s'->X.xe e s'
section
variable {X:Cx} {CX:Mq} {k:Nat} {f C:Addr} {fd:gG} {ps:List Str} {sp:Sp} {Ys:List V} {ds:List Value} {E:XK} {x m:Str} {p pos apos:Pos} {e o:Expr} {es:List Expr} {ta:TE} {t:TA}
theorem TV{pins:List (Addr×Obj)}{σ:St}{H:Hp}{s:av}{Q:VK}{us:List Value}{vs:List V}(F:xc X.prog X.w X.K X.mg X.base CX k f fd ps sp)(hr:lx k X.A)(hb:Binds X.K fd ps ds)(hd:Vals Ys ds)(hx:Passes CX X E)
  (I:Inv X pins σ H s) (r:Vals vs us) (h:sp (vs++Ys) H Q E):wpAny (model X.prog X.w) X.A (call (.ref f) us) (EP X pins σ Q) X.xe s:=by
 have r2:Vals (vs++Ys) (us++ds):=r.append hd;have hl:(us++ds).length=ps.length:=by rw [<-r2.length]; exact F.len _ _ _ _ h
 refine wpAny_call (xK (F.run X.A X.stack s H ⟨us,[]⟩ (us++ds) (vs++Ys) Q E hr I.aau (hb s us I.JW hl) r2 h) fun r s' hq=>?_);cases r with
 | error e=>exact hx pins σ H s e s' I hq
 | ok fl =>
  cases fl with
  | ret u=>exact I.after hq
  | next=>exact bD hq
  | brk=>exact bD hq
  | cont=>exact bD hq
end
structure nq(N P:List Str)(sc:Scope):Prop where
 kind:sc.kind=.function
 co:sc.isCoroutine=false
 gen:sc.isGenerator=false
 nd:N.Nodup
 pre:N.take P.length=P
 par:∀ x∈P,sc.names.lookup x=some .local\/sc.names.lookup x=some .cell
 Uv:∀ y∈sc.names,y.2≠.free
theorem Bv{kindOf:Str->Option sA}{x:Str}:∀ {binds:List (Str×Value)} {m:Str->Option Value},(∀ v,(x,v)∉binds)->bindL kindOf binds m x=m x
 | [],_,_=>rfl
 | (n,v) :: r,m,h=>by
  unfold bindL;rw [Bv fun w hw=>h w (au _ hw)];split
  ·have:x≠n:=by rintro rfl; exact h v cG
   simp [this]
  ·rfl
theorem Bx{kindOf:Str->Option sA}{x:Str}:∀ {binds:List (Str×Value)} {m:Str->Option Value},(∀ v,(x,v)∉binds)->bindC kindOf binds m x=m x
 | [],_,_=>rfl
 | (n,v) :: r,m,h=>by
  unfold bindC;rw [Bx fun w hw=>h w (au _ hw)];split
  ·rfl
  ·have:x≠n:=by rintro rfl; exact h v cG
   simp [this]
theorem Bw{kindOf:Str->Option sA}{x:Str}{v:Value}:∀ {P:List Str} {vs:List Value} {i:Nat} {m:Str->Option Value},P.Nodup->P[i]?=some x->vs[i]?=some v->kindOf x=some .local ->
  bindL kindOf (P.zip vs) m x=some v
 | [],_,_,_,_,h,_,_=>by simp at h
 | _ :: _,[],_,_,_,_,h,_=>by simp at h
 | p :: P,w :: vs,0,m,nd,h1,h2,hk=>by
  simp at h1 h2; subst h1; subst h2;show bindL kindOf ((p,w) :: P.zip vs) m p=_;unfold bindL;rw [Bv fun v hv=>(List.nodup_cons.mp nd).1 (vo hv).1,if_pos hk];simp
 | p :: P,w :: vs,i+1,m,nd,h1,h2,hk=>by
  show bindL kindOf ((p,w) :: P.zip vs) m x=_;unfold bindL;exact Bw (i:=i) (List.nodup_cons.mp nd).2 (by simpa using h1) (by simpa using h2) hk
theorem By{kindOf:Str->Option sA}{x:Str}{v:Value}:∀ {P:List Str} {vs:List Value} {i:Nat} {m:Str->Option Value},P.Nodup->P[i]?=some x->vs[i]?=some v->kindOf x≠some .local ->
  bindC kindOf (P.zip vs) m x=some v
 | [],_,_,_,_,h,_,_=>by simp at h
 | _ :: _,[],_,_,_,_,h,_=>by simp at h
 | p :: P,w :: vs,0,m,nd,h1,h2,hk=>by
  simp at h1 h2; subst h1; subst h2;show bindC kindOf ((p,w) :: P.zip vs) m p=_;unfold bindC;rw [Bx fun v hv=>(List.nodup_cons.mp nd).1 (vo hv).1,if_neg hk];simp
 | p :: P,w :: vs,i+1,m,nd,h1,h2,hk=>by
  show bindC kindOf ((p,w) :: P.zip vs) m x=_;unfold bindC;exact By (i:=i) (List.nodup_cons.mp nd).2 (by simpa using h1) (by simpa using h2) hk
noncomputable def start(N:List Str)(vs:List V):St:=vs.map some++bo (N.length - vs.length) none
noncomputable def C4(CX:Mq)(P:bz)(w:World)(K:ai)(mg:Str->Option Value)(base:Heap)(N:List Str)(qual:Str)(scope:Scope)(f:Addr)(cd:Value)(A:cL)(outer:List Env)(s:av)(H:Hp)(E:XK):Cx where
 prog:=P
 w:=w
 K:=K
 mg:=mg
 base:=base
 A:=A.deeper (Av qual scope s.heap.objs.size f cd)
 N:=N
 mN:=s
 Qa:=H
 env:=Av qual scope s.heap.objs.size f cd
 outer:=outer
 stack:=Av qual scope s.heap.objs.size f cd :: outer
 ex:=[]
 calm:=true
 fn:=fun _=>true
 pn:=[]
 xe:=fun e s'=>wpAny (model P w) (A.deeper (Av qual scope s.heap.objs.size f cd)) (leaving (Av qual scope s.heap.objs.size f cd) e) (fun _ Wc=>CX outer H s E e Wc) (fun e' Wc=>CX outer H s E e' Wc) s'
theorem Fe{sc:Scope}{n:Nat}{x:Str}(h:sc.names.lookup x=some .cell):∃ c,(cellsFrom n sc.names []).lookup x=some c:=by
 have q:=IP sc.names n [] (.inl h);exact Option.isSome_iff_exists.mp q
theorem LN{CX:Mq}{P:bz}{w:World}{K:ai}{mg:Str->Option Value}{base:Heap}{N ps:List Str}{qual:Str}{scope:Scope}{f:Addr}{cd:Value}{A:cL}{outer:List Env}{s s1:av}{H:Hp}{E:XK}{us:List Value}{vs:List V}
  (S:nq N ps scope) (hd:A.handled=none) (e0:Sd P w K mg base A outer s H) (hl:vs.length=ps.length) (r:Vals vs us)
  (x:InCallC s s.heap.objs.size (bindL (Av qual scope s.heap.objs.size f cd).kindOf (ps.zip us) fun _=>none) (cellsFrom (s.heap.objs.size+1) scope.names []) (bindC (Av qual scope s.heap.objs.size f cd).kindOf (ps.zip us) fun _=>none) s1) :
  Inv (C4 CX P w K mg base N qual scope f cd A outer s H E) [] (start N vs) H s1:=by
 have A8:ps.length<=N.length:=by have:=congrArg cV S.pre; rw [gj] at this; lia
 obtain⟨h1,tk,rfl,hk⟩:=x.done;have WB:∀ b:Addr,b∉(C4 CX P w K mg base N qual scope f cd A outer s H E).ex:=fun b z=>absurd (show b∈([]:List Addr) from z) (by simp);refine⟨⟨e0.mod,S.kind,rfl,rfl,aB _,fun y z c h1 h2=>?_,fun y hy=>?_,fun y c _ h=>?_,fun _=>hd,Around.frames_deeper e0.frames,.inr ⟨rfl,rfl⟩,fun b z=>absurd z (WB b),e0.bs,e0.R1,fun b _ _=>WB b,fun b z=>absurd z (WB b),e0.yO,e0.VR⟩,
  rfl,e0.bare,Un.kept hk,⟨_,x.toInCall.ns,fun i y v h1 h2 h3=>?_⟩,fun y c h=>⟨_,x.cell y c h⟩,e0.cp.fresh (aB _),fun y c h=>?_,fun p hp=>absurd (show p∈([]:List (Addr×Obj)) from hp) (by simp),e0.cp.kept hk,?_⟩
 ·exact name_of_addr x.apart (hW h1) (hW h2)
 ·have hy:scope.names.lookup y=some .cell\/scope.names.lookup y=some .free:=hy;rcases hy with hy | hy
  ·exact Fe hy
  ·exact absurd rfl (S.Uv _ (hW hy))
 ·exact QA (x.above y c (hW h))
 ·have hi:i < vs.length:=by
   unfold start at h2;by_cases hi:i < vs.length
   ·exact hi
   ·rw [eS (by simpa using hi)] at h2;rw [kK] at h2;split at h2 <;> cases h2
  have ha:vs[i]?=some v:=by
   unfold start at h2;rw [gK (by simpa using hi),br] at h2;cases e:vs[i]? with
   | none=>rw [e] at h2; cases h2
   | some a=>rw [e] at h2; cases h2; rfl
  obtain⟨u,hu,rv⟩:=r.get ha;have hp:ps[i]?=some y:=by
   rw [<-S.pre,List.getElem?_take_of_lt (by lia)]; exact h1
  have ndP:ps.Nodup:=by rw [<-S.pre]; exact S.nd.sublist (List.take_sublist _ _)
  refine⟨u,rv,?_⟩;rcases S.par y (eD hp) with k | k
  ·exact .inl ⟨k,Bw ndP hp hu k⟩
  ·obtain⟨c,e⟩:=Fe (n:=s.heap.objs.size+1) k;refine .inr ⟨.inl k,c,e,?_⟩;have q:=x.cell y c e;rw [By ndP hp hu (by show scope.names.lookup y≠_; rw [k]; decide)] at q;exact q
 ·exact e0.cp.fresh (QA (x.above y c (hW h)))
 ·unfold start;show _=N.length;rw [az,aE,fh];lia
theorem Xo{CX:Mq}{P:bz}{w:World}{K:ai}{mg:Str->Option Value}{base:Heap}{k:Nat}{f:Addr}{name qual:Str}{params:Arguments}{body:List Stmt}{scope:Scope}{dV kV doc pm lH ct oc:Value}{an od:Option Addr}
  {Lr:Array (Option Value)} {N ps:List Str} {sp:Sp} (lk:K.lookup f=some ⟨oc,od,.func (jT name qual params body scope dV kV doc pm an lH ct),Lr⟩) (Ka:DJ K lH qual=true) (S:nq N ps scope)
  (len:∀ vs H Q E,sp vs H Q E->vs.length=ps.length)
  (OZ:∀ (A:cL) (outer:List Env) (s:av) (H:Hp) (vs:List V) (Q:VK) (E:XK),lx k (A.deeper (Av qual scope s.heap.objs.size f lH))->sp vs H Q E ->
   ∃ t,VY (C4 CX P w K mg base N qual scope f lH A outer s H E) body t/\t { nx:=fun _ H'=>Q .eg H',rt:=Q } (start N vs) H) :
  xc P w K mg base CX (k+1) f (jT name qual params body scope dV kV doc pm an lH ct) ps sp:=by
 refine⟨len,fun A outer s H args us vs Q E hr e0 hb r SU=>?_⟩;have hl:=len _ _ _ _ SU;have KX:K.In s.heap:=e0.mod.Yd.keeps fun b o e=>(e0.bs b o e).1;have lim:s.heap.NoLimit:=e0.mod.nolimit.keeps fun b o e=>(e0.bs b o e).1;have Bc:∀ y∈ps.zip us,scope.names.lookup y.1=some .local\/(scope.names.lookup y.1=some .cell/\((cellsFrom (s.heap.objs.size+1) scope.names []).lookup y.1).isSome=true):=fun ⟨n,v⟩ hy=>by
  rcases S.par n (vo hy).1 with q | q
  ·exact .inl q
  ·exact .inr ⟨q,IP _ _ _ (.inl q)⟩
 refine codeAny_call_function hr.depth (KX _ _ lk) rfl S.co S.gen rfl (PySem.W.codeRec_of KX Ka) (hb _ _ _ _ ?_);refine wpAny_newFunctionEnv_cells S.kind Bc fun env he s1 x=>?_;subst he;refine⟨lim.keeps x.toInCall.keep,codeAny_func ?_⟩;obtain⟨t,ht,hq⟩:=OZ A outer s H vs Q E (hr.deeper _) SU;have I:Inv (C4 CX P w K mg base N qual scope f lH A outer s H E) [] (start N vs) H s1:=LN S hr.hd e0 hl r x;refine tX (ht [] s1 (start N vs) H _ I hq) (fun fl s' hs=>?_) fun e s' hs=>hs;have fin:∀ {ju:St} {H':Hp} {v:V} {u:Value},Inv (C4 CX P w K mg base N qual scope f lH A outer s H E) [] ju H' s'->RelV v u->Q v H'->CE outer P w H s Q u s' :=
  fun {ju H' v u} J rv q=>⟨v,H',J.os,J.bare,J.base,J.cp,rv,q⟩
 cases fl with
 | ret u =>
  obtain⟨v,ju,H',J,rv,q⟩:=hs;exact fin J rv q
 | next =>
  obtain⟨ju,H',J,q⟩:=hs;exact fin (v:=V.eg) (u:=dH) J rfl q
 | brk =>
  obtain⟨_,_,_,q⟩:=hs;exact bD q
 | cont =>
  obtain⟨_,_,_,q⟩:=hs;exact bD q
end L2
namespace HT
open PySem PyProof.Rows
noncomputable def lexLt:List Int->List Int->Bool
 | [],[]=>false
 | [],_ :: _=>true
 | _ :: _,[]=>false
 | x :: xs,y :: ys=>if x=y then lexLt xs ys else decide (x < y)
theorem Hv(x y:Int)(xs ys:List Int):lexLt (x :: xs) (y :: ys)=if x=y then lexLt xs ys else decide (x < y):=rfl
theorem zX:lexLt [] []=false:=rfl
theorem yE(y:Int)(ys:List Int):lexLt [] (y :: ys)=true:=rfl
theorem yF(x:Int)(xs:List Int):lexLt (x :: xs) []=false:=rfl
theorem Pf(A:cL)(s:av)(a:Int)(t:Tok)(c:Int)(u:Tok):∃ e,SeqAt.EqAt A s (.int a t) (.int c u) e/\(e=true↔a=c) :=
 ⟨(a == c),SeqAt.EqAt.int_int a t c u,by simp⟩
theorem yc(A:cL)(s:av)(a:Int)(t:Tok)(c:Int)(u:Tok)(prog:bz)(w:World)(E:Value->av->Prop)(Q:Value->av->Prop)(h:Q (.bool (decide (a < c))) s) :
  wpAny (model prog w) A (qj .Lt (.int a t) (.int c u)) Q E s :=
 (PyProof.Rows.lt_int h:wpAny (model prog w) A (dg .Lt (.int a t) (.int c u)) Q E s)
section
open PySem.SeqAt
open PySem.AutoSeq1 (wpAny_loadPart')
open PySem.MeetsSeq PySem.MeetsSeq2 PySem.MeetsSeq3
theorem zN(l b:Addr)(items nJ:Array Value)(n n2:Nat)(dd FR:Option Addr)(sl Jm:Array (Option Value))(ns ms:List Int)(hi:lO items.toList ns)(hj:lO nJ.toList ms) :
  Meets (Builtin.«tuple.__lt__» ⟨[.ref l,.ref b],[]⟩)
   (fun _ R s=>s.heap.get? l=some { cls:=.type "tuple",dict:=dd,data:=.seq items n,slots:=sl }/\s.heap.get? b=some { cls:=.type "tuple",dict:=FR,data:=.seq nJ n2,slots:=Jm } /\
    R (.ok (.ret (.bool (lexLt ns ms)))) s) :=
 .of_wp fun prog w A R s h=>by
  obtain⟨hp,g,d,tk,os⟩:=s; obtain⟨hl,hb,h⟩:=h;have f2:=pJ;have z1:items.size=ns.length:=by rw [<-hi.length]; simp
  have z2:nJ.size=ms.length:=by rw [<-hj.length]; simp
  wp_walk using bx hl,bx hb,kG _ (fun rest b s'=>b.1=none/\s'=⟨hp,g,d,tk,os⟩/\∃ (vs ws:List Value) (VF VH:List Int),rest=vs.zip ws /\
   lO vs VF/\lO ws VH/\VF.length+nJ.size=VH.length+items.size/\R (.ok (.ret (.bool (lexLt VF VH)))) ⟨hp,g,d,tk,os⟩) _
  case turn =>
   rintro⟨y,x⟩ rest b s' ⟨Bf,rfl,vs,ws,VF,VH,hz,ZL,Yg,hlen,hR⟩;cases ZL with
   | nil=>rw [List.zip_nil_left] at hz; cases hz
   | cons a t ZK =>
    cases Yg with
    | nil=>rw [List.zip_nil_right] at hz; cases hz
    | cons c u ZI =>
     rw [kI] at hz;injection hz with ZC OU
     injection ZC with hy hx
     subst hy hx;rw [Hv] at hR;simp only [ah] at hlen;obtain⟨e,he,Xa⟩:=Pf A.in1 ⟨hp,g,d,tk,os⟩ a t c u;refine ag (he prog w _ _ ?_);cases e with
     | true =>
      rw [if_pos (Xa.mp rfl)] at hR
      wp_walk
      exact⟨rfl,rfl,_,_,_,_,OU,ZK,ZI,by lia,hR⟩
     | false =>
      rw [if_neg (fun q=>absurd (Xa.mpr q) dF)] at hR;have WX:=yc A.in1 ⟨hp,g,d,tk,os⟩ a t c u prog w
      wp_walk using WX
      exact⟨_,rfl,by simpa using hR⟩
  case fin =>
   rintro⟨b1,b2⟩ s' ⟨Bf,rfl,vs,ws,VF,VH,hz,ZL,Yg,hlen,hR⟩;simp only at Bf;subst Bf;have hv:lexLt VF VH=decide (items.size < nJ.size):=by
    cases ZL with
    | nil =>
     cases Yg with
     | nil =>
      simp only [aA] at hlen;rw [zX];exact(decide_eq_false (by lia)).symm
     | cons c u hw =>
      simp only [aA,ah] at hlen;rw [yE];exact(decide_eq_true (by lia)).symm
    | cons a t hv =>
     cases Yg with
     | nil =>
      simp only [aA,ah] at hlen;rw [yF];exact(decide_eq_false (by lia)).symm
     | cons c u hw =>
      rw [kI] at hz;cases hz
   rw [hv] at hR
   wp_walk
   exact⟨_,rfl,by simpa [t6] using hR⟩
  case h =>
   exact⟨rfl,rfl,items.toList,nJ.toList,ns,ms,rfl,hi,hj,by lia,h⟩
end
section
variable {prog:bz} {w:World} {A:cL} {E:Value->av->Prop} {s:av}
theorem yx{l b:Addr}{items nJ:Array Value}{ns ms:List Int}{Q:Value->av->Prop}(hl:IsTup s.heap l items)(hb:IsTup s.heap b nJ)(hi:lO items.toList ns)(hj:lO nJ.toList ms)
  (hu:A.units < cLine) (h:Q (.bool (lexLt ns ms)) s):wpAny (model prog w) A (dg .Lt (.ref l) (.ref b)) Q E s:=by
 obtain⟨⟨cls,dd,data,sl⟩,ho,hc,n,hd⟩:=id hl;obtain⟨⟨PF,FR,data2,Jm⟩,A9,CH,n2,hd2⟩:=id hb;simp only at hc hd CH hd2;subst hc hd CH hd2;exact w5 (op:=.Lt) ⟨_,ho,rfl⟩ ⟨_,A9,rfl⟩ k7 rY (qr _ _) (zN l b items nJ n n2 dd FR sl Jm ns ms hi hj)
  ⟨ho,A9,show Value.bool (lexLt ns ms)≠Value.notImplemented/\Q (.bool (lexLt ns ms)) s from⟨(fun x=>nomatch x),h⟩⟩ hu
theorem RW{t b:Addr}{vs ws:List Value}{Q:Value->av->Prop}(ht:IsTup s.heap t vs.toArray)(hb:IsTup s.heap b ws.toArray)(hv:vs≠[])
  (h1:ws=[]->Q (.ref t) s) (h2:ws≠[]->Q (.ref s.heap.objs.size) { s with heap:=s.heap.push { cls:=.type "tuple",data:=.seq (vs++ws).toArray } })
  (hsz:vs.length+ws.length<=aY):wpAny (model prog w) A (iU .Add (.ref t) (.ref b)) Q E s:=by
 obtain⟨⟨cls,dd,data,sl⟩,ho,hc,n,hd⟩:=id ht;obtain⟨⟨PF,FR,data2,Jm⟩,A9,CH,n2,hd2⟩:=id hb;simp only at hc hd CH hd2;subst hc hd CH hd2;have e:vs.toArray++ws.toArray=(vs++ws).toArray:=by simp
 by_cases hw:ws=[]
 ·exact concat_meets ⟨_,ho,rfl⟩ ⟨_,A9,rfl⟩ noFill_tuple_add seq_tuple_add IQ Gh (FE _ _)
   (tuple_addW1 t b vs.toArray ws.toArray n n2 dd FR sl Jm (by simpa using hv) (by simp [hw])) ⟨ho,A9,h1 hw⟩
 ·refine concat_meets ⟨_,ho,rfl⟩ ⟨_,A9,rfl⟩ noFill_tuple_add seq_tuple_add IQ Gh (FE _ _)
   (tuple_addW2 t b vs.toArray ws.toArray n n2 dd FR sl Jm (by simpa using hv) (by simpa using hw) (by rw [aR,aR]; exact hsz)) ⟨ho,A9,?_⟩
  rw [e];exact h2 hw
noncomputable def jc(n d:Nat):Option Int->Nat
 | none=>d
 | some v=>if v < 0 then (v+(n:Int)).toNat else min v.toNat n
theorem TU(n d:Nat)(hd:d<=n)(o:Option Int):jc n d o<=n:=by
 cases o with
 | none=>exact hd
 | some v =>
  show (if v < 0 then (v+(n:Int)).toNat else min v.toNat n)<=n;by_cases hv:v < 0
  ·rw [if_pos hv]; lia
  ·rw [if_neg hv]; exact Nat.min_le_right _ _
theorem Ku(v:Int)(n d:Nat):(if v < 0 then max (v+(n:Int)) 0 else min v (n:Int))=((jc n d (some v):Nat):Int):=by
 show (if v < 0 then max (v+(n:Int)) 0 else min v (n:Int))=(((if v < 0 then (v+(n:Int)).toNat else min v.toNat n):Nat):Int);by_cases hv:v < 0
 ·simp only [if_pos hv]; lia
 ·simp only [if_neg hv]; lia
theorem IB(lo hi:Option Int)(n:Nat):mM lo hi 1 (n:Int)=(((jc n 0 lo:Nat):Int),((jc n n hi:Nat):Int)):=by
 have h1:¬ ((1:Int) < 0):=by lia
 unfold mM;simp only [h1,if_false];refine Prod.ext ?_ ?_
 ·cases lo with
  | none=>rfl
  | some v=>exact Ku v n 0
 ·cases hi with
  | none=>rfl
  | some v=>exact Ku v n n
theorem GV(i j:Nat):i0 (i:Int) (j:Int) 1=j - i:=by
 unfold i0;have h1:(1:Int) > 0:=by lia
 simp only [h1,if_true,Int.ediv_one];split <;> lia
theorem xZ{v:Value}{o:Option Int}{Q:Option Int->av->Prop}(p:IsPart v o)(h:Q o s):wpAny (model prog w) A (Builtin.Slice.slicePartIndex v) Q E s:=by
 cases p with
 | none=>exact slicePart_none h
 | int i t=>exact slicePart_int h
theorem vJ{sl:Addr}{vl vu:Value}{lo hi:Option Int}{n:Nat}{Q:Int×Int×Nat->av->Prop}(hs:s.heap.IsSliceOf sl vl vu .none)(pl:IsPart vl lo)(pu:IsPart vu hi)
  (h:Q (((jc n 0 lo:Nat):Int),1,jc n n hi - jc n 0 lo) s):wpAny (model prog w) A (xg (.ref sl) (pure (n:Int))) Q E s:=by
 obtain⟨os,W3,Ym,Yk⟩:=id hs;unfold xg Builtin.Slice.sliceFields;refine ag (ag (iT W3 Yk (x:=vl) rfl (ag (iT W3 Yk (x:=vu) rfl (ag (iT W3 Yk (x:=.none) rfl (aw ?_)))))));refine ag (slicePart_none ?_);show wpAny _ _ (if ((1:Int) == 0)=true then _ else _) _ _ s;rw [if_neg (by decide)];refine ag (xZ pl (ag (xZ pu (ag (aw ?_)))));show wpAny _ _ (match mM lo hi 1 (n:Int) with | (lo,hi)=>pure (lo,(1:Int),i0 lo hi 1)) _ _ s;rw [IB lo hi n];show wpAny _ _ (pure (((jc n 0 lo:Nat):Int),(1:Int),i0 ((jc n 0 lo:Nat):Int) ((jc n n hi:Nat):Int) 1)) _ _ s;rw [GV];exact aw h
theorem NQ(xs:Array Value)(i k:Nat):((dR k).filterMap fun (m:Nat)=>xs[((i:Int)+(m:Int) * 1).toNat]?).toArray=((xs.toList.drop i).take k).toArray:=by
 have e:(fun (m:Nat)=>xs[((i:Int)+(m:Int) * 1).toNat]?)=fun m=>xs[i+m]?:=by
  funext m;have:((i:Int)+(m:Int) * 1).toNat=i+m:=by lia
  rw [this]
 rw [e];have:=pick_run xs i k;rw [List.filterMap_map] at this;have e2:((fun x=>xs[x]?)∘fun x=>i+x)=fun m=>xs[i+m]?:=rfl;rw [e2] at this;rw [this]
theorem uR{t sl:Addr}{items:Array Value}{vl vu:Value}{lo hi:Option Int}{Q:Value->av->Prop}(ht:IsTup s.heap t items)(hs:s.heap.IsSliceOf sl vl vu .none)(pl:IsPart vl lo)(pu:IsPart vu hi)
  (hw:¬ (jc items.size 0 lo=0/\jc items.size items.size hi=items.size))
  (h:Q (.ref s.heap.objs.size) { s with heap:=s.heap.push { cls:=.type "tuple",data:=.seq ((items.toList.drop (jc items.size 0 lo)).take (jc items.size items.size hi - jc items.size 0 lo)).toArray } })
  (hsz:items.size<=aY):wpAny (model prog w) A (getItem (.ref t) (.ref sl)) Q E s:=by
 have J8:sizeOk (.seq ((items.toList.drop (jc items.size 0 lo)).take (jc items.size items.size hi - jc items.size 0 lo)).toArray):=by
  show ((items.toList.drop (jc items.size 0 lo)).take (jc items.size items.size hi - jc items.size 0 lo)).toArray.size<=aY;rw [aR];exact bc (bc (List.length_take_le' _ _) (by rw [cC,eX]; exact Nat.sub_le _ _)) hsz
 have hj:jc items.size items.size hi<=items.size:=TU _ _ (aB _) hi;obtain⟨os,W3,Ym,Yk⟩:=id hs;have hTs:s.TypeIs (.ref sl) "slice":=⟨os,W3,Ym⟩;unfold getItem
 try with_reducible refine cS ?_
 first | refine ag (aw ?_) | skip
 refine ag (wpAny_sequenceKey ht.typeIs (by decide) ?_);refine ag (eR (name:=mI "__getitem__") ht.typeIs vn
  (cz vn ht.typeIs entry_tuple_getitem ?_ (args_tuple_getitem _ _)))
 show wpAny _ _ (xf (.ref t) >>= _) _ _ s;refine ag (tupleItemsOf_ ht ?_);refine ag (wpAny_typeOf hTs ?_);rw [if_pos (by decide)];refine ag (vJ hs pl pu ?_);have W4:¬ ((((jc items.size 0 lo:Nat):Int) == 0&&(1:Int) == 1&&(jc items.size items.size hi - jc items.size 0 lo) == items.size)=true):=by
  intro q;rw [aK,aK] at q;have q1:((jc items.size 0 lo:Nat):Int)=0:=eq_of_beq q.1.1;have q2:jc items.size items.size hi - jc items.size 0 lo=items.size:=eq_of_beq q.2;exact hw ⟨by lia,by lia⟩
 show wpAny _ _ (if (((jc items.size 0 lo:Nat):Int) == 0&&(1:Int) == 1&&(jc items.size items.size hi - jc items.size 0 lo) == items.size)=true then _ else _) _ _ s;rw [if_neg W4,NQ]
 first
  | exact ag (m:=jf _) (cy (aw ⟨_,rfl,aw h⟩) J8)
  | exact ag (m:=jf _) (cy (ag (aw (aw ⟨_,rfl,aw h⟩))) J8)
  | exact ag (ag (m:=jf _) (cy (aw (aw ⟨_,rfl,aw h⟩)) J8))
  | exact ag (ag (m:=jf _) (cy (aw ⟨_,rfl,aw h⟩) J8))
end
end HT
namespace L2
open PySem PySem.Spec PyProof.Rows
noncomputable abbrev TO:=St->Hp->(Option Int->Hp->Prop)->Prop
theorem intsAre_of{ns:List Int}:∀ {us:List Value},Vals (ns.map V.int) us->lO us ns:=by
 induction ns with
 | nil=>intro us r; rw [aW] at r; cases r; exact .nil
 | cons n ns ih =>
  intro us r;rw [aj] at r;cases r with
  | cons r1 r2 =>
   obtain⟨t,e⟩:=r1;subst e;exact .cons n t (ih r2)
section
variable {X:Cx} {e:Expr} {te:TE} {lo hi:Option Expr} {tl th:TO} {pos p2:Pos}
noncomputable def SlR(X:Cx)(r:V->Option Int->Option Int->Hp->VK->Prop):Prop :=
 ∀ (pins:List (Addr×Obj)) (s:av) (σ:St) (H:Hp) (x:V) (v vl vu:Value) (lo hi:Option Int) (sl:Addr) (Q:VK),Inv X pins σ H s->RelV x v->s.heap.IsSliceOf sl vl vu .none->IsPart vl lo->IsPart vu hi->r x lo hi H Q ->
  ∃ T id,typeLookup (.type T) "__getitem__" = pure (some (.builtin id))/\s.TypeIs v T/\wpAny (model X.prog X.w) X.A (getItem v (.ref sl)) (EP X pins σ Q) X.xe s
noncomputable def Fc(xs:List V)(lo hi:Option Int):List V:=(xs.drop (HT.jc xs.length 0 lo)).take (HT.jc xs.length xs.length hi - HT.jc xs.length 0 lo)
theorem wR(xs:List V)(lo hi:Option Int):(Fc xs lo hi).length<=xs.length:=by
 unfold Fc;rw [gj,cC];lia
noncomputable def Y0(K:ai):V->Option Int->Option Int->Hp->VK->Prop:=fun x lo hi H Q=>∃ a xs,x=.ref a/\vj K H a xs /\
 ¬ (HT.jc xs.length 0 lo=0/\HT.jc xs.length xs.length hi=xs.length)/\∀ p,H p=none->Q (.ref p) (upd H p (.tup (Fc xs lo hi)))
theorem TQ:SlR X (Y0 X.K):=by
 intro pins s σ H x v vl vu lo hi sl Q I rx hs pl pu h;obtain⟨a,xs,rfl,hx,hw,q⟩:=h;cases rx;obtain⟨bG,r,ht,hz⟩:=I.tuple hx;have hlen:bG.toArray.size=xs.length:=by rw [aR]; exact r.length.symm
 refine⟨"tuple",_,PyProof.Rows.slot_tuple_getitem.lookup,ht.typeIs,?_⟩;refine HT.uR ht hs pl pu (by rw [hlen]; exact hw) ?_ (by rw [hlen]; exact hz);rw [hlen];refine⟨.ref s.heap.objs.size,_,I.laid (t':=s.toks) (o:=.tup (Fc xs lo hi)) (fun b ob q=>ay _ q) (aB _) ?_,rfl,q _ (I.cp.fresh (aB _))⟩;exact⟨bc (wR xs lo hi) hz,_,(r.drop (HT.jc xs.length 0 lo)).take (HT.jc xs.length xs.length hi - HT.jc xs.length 0 lo),IsTup.new _ _⟩
noncomputable def Y3(K:ai):R2:=fun x y H Q=>∃ a b ns ms,x=.ref a/\y=.ref b/\vj K H a (ns.map V.int)/\vj K H b (ms.map V.int)/\Q (.bl (HT.lexLt ns ms)) H
theorem Uo(hu:X.A.units < cLine):IF X (dg .Lt) (Y3 X.K):=by
 intro pins s σ H x y v u Q I rx ry h;obtain⟨a,b,ns,ms,rfl,rfl,ha,hb,q⟩:=h;cases rx;cases ry;obtain⟨bG,r1,p1,_⟩:=I.tuple ha;obtain⟨sf,r2,p2,_⟩:=I.tuple hb;have i1:lO bG.toArray.toList ns:=intsAre_of r1;have i2:lO sf.toArray.toList ms:=intsAre_of r2;exact HT.yx p1 p2 i1 i2 hu ⟨.bl (HT.lexLt ns ms),H,I,rfl,q⟩
noncomputable def Wi(K:ai):R2:=fun x y H Q=>∃ a b xs ys,x=.ref a/\y=.ref b/\vj K H a xs/\vj K H b ys/\xs≠[]/\xs.length+ys.length<=aY /\
 (ys=[]->Q (.ref a) H)/\(ys≠[]->∀ p,H p=none->Q (.ref p) (upd H p (.tup (xs++ys))))
theorem Vals.Co{xs:List V}{us:List Value}(r:Vals xs us):us=[]↔xs=[]:=by
 cases r with
 | nil=>simp
 | cons _ _=>simp
theorem Rh:IF X (iU .Add) (Wi X.K):=by
 intro pins s σ H x y v u Q I rx ry h;obtain⟨a,b,xs,ys,rfl,rfl,ha,hb,hx,hz,q1,q2⟩:=h;cases rx;cases ry;obtain⟨bG,r1,p1,_⟩:=I.tuple ha;obtain⟨sf,r2,p2,_⟩:=I.tuple hb;refine HT.RW p1 p2 (fun z=>hx (r1.Co.mp z)) (fun z=>⟨.ref a,H,I,rfl,q1 (r2.Co.mp z)⟩) (fun z=>?_) (by rw [<-r1.length,<-r2.length]; exact hz);refine⟨.ref s.heap.objs.size,_,I.laid (t':=s.toks) (o:=.tup (xs++ys)) (fun b ob q=>ay _ q) (aB _) ?_,rfl,q2 (fun w=>z (r2.Co.mpr w)) _ (I.cp.fresh (aB _))⟩;exact⟨by rw [az]; exact hz,_,r1.append r2,IsTup.new _ _⟩
end
noncomputable def J2(n:Nat)(i:Int):Option Nat:=if 0<=i then (if i < n then some i.toNat else none) else if -(n:Int)<=i then some (i+n).toNat else none
noncomputable def qY{α:Type}(xs:List α)(i:Int):Option α:=(J2 xs.length i).bind fun j=>xs[j]?
theorem J1{n:Nat}{i:Int}{j:Nat}(h:J2 n i=some j):seqIndex? i n=some j/\j < n/\-(n:Int)<=i/\i < n:=by
 unfold J2 at h;by_cases h0:0<=i
 ·rw [if_pos h0] at h;by_cases h1:i < n
  ·rw [if_pos h1] at h;have e:i.toNat=j:=aX h;exact⟨by rw [seqIndex_of h0 h1,e],by lia,by lia,h1⟩
  ·rw [if_neg h1] at h; cases h
 ·rw [if_neg h0] at h;by_cases h1:-(n:Int)<=i
  ·rw [if_pos h1] at h;have e:(i+n).toNat=j:=aX h;exact⟨by rw [seqIndex_neg (by lia) h1,e],by lia,h1,by lia⟩
  ·rw [if_neg h1] at h; cases h
theorem Kz{α:Type}{xs:List α}{i:Int}{v:α}(h:qY xs i=some v):∃ j,seqIndex? i xs.length=some j/\xs[j]?=some v/\j < xs.length/\-(xs.length:Int)<=i/\i < xs.length:=by
 unfold qY at h;cases e:J2 xs.length i with
 | none=>rw [e] at h; cases h
 | some j =>
  rw [e] at h;obtain⟨h1,h2,h3,h4⟩:=J1 e;exact⟨j,h1,h,h2,h3,h4⟩
noncomputable def R7(b:Expr):Prop:=∀ o i,subscripted b false o i=operate [o,i] (getItem o i)
noncomputable def IxR(X:Cx)(r:R2):Prop :=
 ∀ (value slice:Expr) (pins:List (Addr×Obj)) (s:av) (σ:St) (H:Hp) (x y:V) (v u:Value) (Q:VK),Inv X pins σ H s->RelV x v->RelV y u->r x y H Q ->
  subscripted slice false v u=operate [v,u] (getItem v u)->wpAny (model X.prog X.w) X.A (subscriptTail value slice v u) (EP X pins σ Q) X.xe s
noncomputable def MtR(X:Cx)(id:String)(r:V->List V->Hp->VK->Prop):Prop :=
 ∀ (pins:List (Addr×Obj)) (s:av) (σ:St) (H:Hp) (x:V) (xs:List V) (v:Value) (us:List Value) (Q:VK),Inv X pins σ H s->RelV x v->Vals xs us->r x xs H Q ->
  wpAny (model X.prog X.w) X.A (call (.builtin id) (v :: us)) (EP X pins σ Q) X.xe s
section
variable {X:Cx} {a b:Expr} {ta tb:TE} {pos:Pos}
noncomputable def Y5(K:ai):R2:=fun x y H Q=>∃ p xs i v,x=.ref p/\y=.int i/\oK K H p xs/\qY xs i=some v/\Q v H
noncomputable def Y4(K:ai):R2:=fun x y H Q=>∃ p xs i v,x=.ref p/\y=.int i/\vj K H p xs/\qY xs i=some v/\Q v H
theorem J0:IxR X (Y5 X.K):=by
 intro value slice pins s σ H x y v u Q I rx ry h hs;obtain⟨p,xs,i,z,rfl,rfl,hq,he,q⟩:=h;cases rx;obtain⟨t,rfl⟩:=ry;obtain⟨bG,r,pl,hz⟩:=I.list hq;obtain⟨j,h1,h2,h3,h4,h5⟩:=Kz he;obtain⟨w,ew,oI⟩:=r.get h2;have hl:=r.length;have hn:=yD;have fin:EP X pins σ Q w s:=⟨z,H,I,oI,q⟩;by_cases h0:0<=i
 ·have hj:i.toNat=j:=by
   rw [seqIndex_of h0 h5] at h1;exact aX h1
  exact item_listR pl.isList h0 (by lia) (by rw [hj]; simpa using ew) fin hs
 ·have hj:(i+(bG.toArray.size:Int)).toNat=j:=by
   rw [seqIndex_neg (by lia) h4] at h1;rw [aR,<-hl];exact aX h1
  exact subscriptTail_builtinR (x:=w) pl.isList.typeIs slot_list_getitem.lookup
   (wpAny_getItem_list_neg (Q:=fun r s'=>r=w/\EP X pins σ Q r s') pl.isList (by lia) (by rw [aR] <;> lia) (by lia) (by rw [hj]; simpa using ew) ⟨rfl,fin⟩) hs
theorem UQ:IxR X (Y4 X.K):=by
 intro value slice pins s σ H x y v u Q I rx ry h hs;obtain⟨p,xs,i,z,rfl,rfl,hq,he,q⟩:=h;cases rx;obtain⟨t,rfl⟩:=ry;obtain⟨bG,r,pl,hz⟩:=I.tuple hq;obtain⟨j,h1,h2,h3,h4,h5⟩:=Kz he;obtain⟨w,ew,oI⟩:=r.get h2;have hl:=r.length;have hn:=yD;have fin:EP X pins σ Q w s:=⟨z,H,I,oI,q⟩;exact subscriptTail_builtinR (x:=w) pl.typeIs slot_tuple_getitem.lookup
  (getItem_tuple (j:=j) (Q:=fun r s'=>r=w/\EP X pins σ Q r s') pl (by lia) (by lia) (by rw [aR,<-hl]; exact h1) (by simpa using ew) ⟨rfl,fin⟩) hs
theorem Hm (bG:List Value) (n j:Nat) (u:Value):iR (·.setIfInBounds j u) { cls:=.type "list",data:=.seq bG.toArray n } = { cls:=.type "list",data:=.seq (bG.set j u).toArray n }:=by
 simp [iR]
theorem Inv.lst{pins:List (Addr×Obj)}{σ:St}{H:Hp}{s:av}{p:Addr}{xs:List V}(I:Inv X pins σ H s)(h:H p=some (.lst xs)) :
  ∃ (bG:List Value) (n:Nat),Vals xs bG/\s.heap.get? p=some { cls:=.type "list",data:=.seq bG.toArray n }/\xs.length<=aY:=by
 obtain⟨z,bG,n,r,e⟩:=I.cp p _ h;exact⟨bG,n,r,e,z⟩
theorem Inv.UE{pins:List (Addr×Obj)}{σ:St}{H:Hp}{s:av}{p:Addr}{xs ys:List V}{bG its':List Value}{n n':Nat}{f:Obj->Obj}(I:Inv X pins σ H s)(h:H p=some (.lst xs))
  (ho:s.heap.get? p=some { cls:=.type "list",data:=.seq bG.toArray n }) (hf:f { cls:=.type "list",data:=.seq bG.toArray n } = { cls:=.type "list",data:=.seq its'.toArray n' }) (r:Vals ys its') (hz:ys.length<=aY) (t:Nat) :
  Inv X pins σ (upd H p (.lst ys)) { s with heap:=s.heap.update p f,toks:=t }:=by
 have e:(s.heap.update p f).get? p=some { cls:=.type "list",data:=.seq its'.toArray n' }:=by
  rw [gF f ho (by rw [hf] <;> rfl),hf]
 refine I.write (x:=p) (e:=p) (by rw [h]; trivial) (.inl rfl) (fun b u hb q=>(cW _ _ (da hb)).trans q) ⟨_,e⟩ ?_;exact⟨hz,its',n',r,e⟩
noncomputable def Wg:V->V->V->Hp->(Hp->Prop)->Prop:=fun o i v H Q=>∃ p xs k j,o=.ref p/\i=.int k/\H p=some (.lst xs)/\J2 xs.length k=some j/\Q (upd H p (.lst (xs.set j v)))
theorem set_list:aaH X Wg:=by
 intro pins s σ H o i v ov iv u Q I ro ri rv h;obtain⟨p,xs,k,j,rfl,rfl,hp,hj,q⟩:=h;cases ro;obtain⟨t,rfl⟩:=ri;obtain⟨bG,n,r,ho,hz⟩:=I.lst hp;obtain⟨h1,h2,h3,h4⟩:=J1 hj;have hl:=r.length;have hn:=yD;have I':Inv X pins σ (upd H p (.lst (xs.set j v))) { s with heap:=s.heap.update p (iR (·.setIfInBounds j u)) } :=
  I.UE hp ho (Hm bG n j u) (r.set rv j) (by rw [kJ]; exact hz) s.toks
 by_cases h0:0<=k
 ·have hk:k.toNat=j:=by
   rw [seqIndex_of h0 h4] at h1;exact aX h1
  exact PySem.W.ki_setAt ho h0 (by lia) (by rw [aR,<-hl]; exact h4) (by rw [hk]; exact⟨_,I',q⟩)
 ·have hk:(k+(bG.toArray.size:Int)).toNat=j:=by
   rw [seqIndex_neg (by lia) h3] at h1;rw [aR,<-hl];exact aX h1
  exact PySem.W.ki_setBack ho (by lia) (by rw [aR,<-hl]; exact h3) (by lia) (by rw [hk]; exact⟨_,I',q⟩)
theorem BY(lo hi:Option Int)(n:Nat):(qi lo hi none n).1=((HT.jc n 0 lo:Nat):Int)/\(qi lo hi none n).2.1=((HT.jc n n hi:Nat):Int)/\(qi lo hi none n).2.2=1:=by
 refine⟨?_,?_,rfl⟩
 ·cases lo with
  | none=>simp [qi,HT.jc]
  | some i =>
   simp only [qi,HT.jc,Ay,show (1:Int) > 0 by decide,if_true];by_cases h:i < 0
   ·simp only [h,if_true] <;> lia
   ·simp only [h,if_false] <;> lia
 ·cases hi with
  | none=>simp [qi,HT.jc]
  | some i =>
   simp only [qi,HT.jc,Ay,show (1:Int) > 0 by decide,if_true];by_cases h:i < 0
   ·simp only [h,if_true] <;> lia
   ·simp only [h,if_false] <;> lia
theorem zR(bG:List Value)(lo hi:Option Int):slicePick bG.toArray lo hi none=((bG.drop (HT.jc bG.length 0 lo)).take (HT.jc bG.length bG.length hi - HT.jc bG.length 0 lo)).toArray:=by
 obtain⟨h1,h2,h3⟩:=BY lo hi bG.toArray.size;unfold slicePick;rw [h1,h2,h3];simp only [sliceRange_one,pick_run,aR] <;> rfl
noncomputable def Y1(K:ai):V->Option Int->Option Int->Hp->VK->Prop:=fun x lo hi H Q=>∃ a xs,x=.ref a/\oK K H a xs/\∀ p,H p=none->Q (.ref p) (upd H p (.lst (Fc xs lo hi)))
theorem Jl:SlR X (Y1 X.K):=by
 intro pins s σ H x v vl vu lo hi sl Q I rx hs pl pu h;obtain⟨a,xs,rfl,hx,q⟩:=h;cases rx;obtain⟨bG,r,ht,hz⟩:=I.list hx;have hlen:=r.length;refine⟨"list",_,slot_list_getitem.lookup,ht.isList.typeIs,?_⟩;refine wpAny_getItem_list_slice ht.isList hs pl pu .none (by simp) ?_ (by rw [aR] <;> lia);rw [zR,<-hlen];refine⟨.ref s.heap.objs.size,_,I.laid (t':=s.toks) (o:=.lst (Fc xs lo hi)) (fun b ob q=>ay _ q) (aB _) ?_,rfl,q _ (I.cp.fresh (aB _))⟩;exact⟨bc (wR xs lo hi) hz,_,0,(r.drop (HT.jc xs.length 0 lo)).take (HT.jc xs.length xs.length hi - HT.jc xs.length 0 lo),aO _ rfl⟩
theorem C8:Qb X (.type "list") (fun xs H Q=>∃ p ys,xs=[.ref p]/\(oK X.K H p ys\/vj X.K H p ys)/\∀ l,H l=none->Q (.ref l) (upd H l (.lst ys))):=by
 intro pins s σ H xs us Q I r h;obtain⟨p,ys,rfl,hq,q⟩:=h;obtain⟨u,rfl,rx⟩:=vals1 r;cases rx;have fin:∀ (bG:List Value),Vals ys bG->ys.length<=aY->∀ (h':Heap) (c':Nat),(∀ b o',s.heap.get? b=some o'->h'.get? b=some o') ->
   h'.get? s.heap.objs.size=some { cls:=.type "list",dict:=none,data:=.seq bG.toArray c',slots:=#[] }->EP X pins σ Q (.ref s.heap.objs.size) { s with heap:=h' }:=fun bG r' hz h' c' kp e =>
  ⟨.ref s.heap.objs.size,_,I.laid (t':=s.toks) kp (aB _) (show fG X.prog X.w _ h' _ (.lst ys) from⟨hz,bG,c',r',e⟩),rfl,q _ (I.cp.fresh (aB _))⟩
 rcases hq with hq | hq
 ·obtain⟨bG,r',pl,hz⟩:=I.list hq;have hlen:=r'.length;obtain⟨o,ho,hc,n,hd⟩:=pl.isList;exact call_list_seq p (.inl rfl) ho hc hd (fun h' c' kp e=>fin bG r' hz h' c' kp e) (by simp only [aR] <;> lia)
 ·obtain⟨bG,r',pl,hz⟩:=I.tuple hq;have hlen:=r'.length;obtain⟨o,ho,hc,n,hd⟩:=pl;exact call_list_seq p (.inr rfl) ho hc hd (fun h' c' kp e=>fin bG r' hz h' c' kp e) (by simp only [aR] <;> lia)
theorem Ag:Qb X (.type "tuple") (fun xs H Q=>∃ p ys,xs=[.ref p]/\((oK X.K H p ys/\∀ l,H l=none->Q (.ref l) (upd H l (.tup ys)))\/(vj X.K H p ys/\Q (.ref p) H))):=by
 intro pins s σ H xs us Q I r h;obtain⟨p,ys,rfl,h⟩:=h;obtain⟨u,rfl,rx⟩:=vals1 r;cases rx;rcases h with ⟨hq,q⟩ | ⟨hq,q⟩
 ·obtain⟨bG,r',pl,hz⟩:=I.list hq;have hlen:=r'.length;refine call_tuple_list pl.isList (fun h' kp=>?_) (by simp only [aR] <;> lia);have I1:Inv X pins σ H { s with heap:=h' }:=I.kept (t':=s.toks) kp;have I2:Inv X pins σ (upd H h'.objs.size (.tup ys)) { s with heap:=h'.push { cls:=.type "tuple",data:=.seq bG.toArray } } :=
   I1.laid (t':=s.toks) (fun b o e=>ay _ e) (aB _) (show fG X.prog X.w _ _ _ (.tup ys) from⟨hz,bG,r',IsTup.new _ _⟩)
  exact⟨.ref h'.objs.size,_,I2,rfl,q _ (I1.cp.fresh (aB _))⟩
 ·obtain⟨bG,r',pl,hz⟩:=I.tuple hq;exact call_tuple_same pl ⟨.ref p,H,I,rfl,q⟩
noncomputable def tyV(K:ai)(T:String)(x:V)(H:Hp):Prop:=match x with
 | .str _=>T = "str"
 | .int _=>T = "int"
 | .ref p=>(T = "list"/\∃ xs,oK K H p xs)\/(T = "tuple"/\∃ o,K.lookup p=some o/\o.cls=.type "tuple"/\o.dict=none) \/
   (T = "dict"/\((∃ kvs,H p=some (.dK kvs))\/∃ kvs,H p=some (.dT kvs)))\/(T = "set"/\∃ S n,H p=some (.set S n))
 | _=>False
theorem BQ{pins:List (Addr×Obj)}{σ:St}{H:Hp}{s:av}{T:String}{x:V}{v:Value}(I:Inv X pins σ H s)(r:RelV x v)(ty:tyV X.K T x H) :
  s.TypeIs v T/\∀ a,v=.ref a->∃ ob,s.heap.get? a=some ob/\ob.dict=none:=by
 cases x with
 | str z =>
  obtain⟨t,rfl⟩:=r;cases (show T = "str" from ty);exact⟨typeIs_str s z t,fun _ e=>nomatch e⟩
 | int i =>
  obtain⟨t,rfl⟩:=r;cases (show T = "int" from ty);exact⟨typeIs_int s i t,fun _ e=>nomatch e⟩
 | ref p =>
  cases r;rcases ty with ⟨rfl,xs,hq⟩ | ⟨rfl,o,hk,hc,hd⟩ | ⟨rfl,hk⟩ | ⟨rfl,S,n,hk⟩
  ·obtain⟨bG,_,pl,_⟩:=I.list hq;refine⟨pl.isList.typeIs,fun a e=>?_⟩;cases e;obtain⟨o,n,e,c,hd,_⟩:=pl;exact⟨o,e,hd⟩
  ·refine⟨⟨o,I.JW p o hk,hc⟩,fun a e=>?_⟩;cases e;exact⟨o,I.JW _ o hk,hd⟩
  ·have z:∃ o,s.heap.get? p=some o/\o.ExactDict:=by
    rcases hk with ⟨kvs,hk⟩ | ⟨kvs,hk⟩
    ·obtain⟨_,_,_,_,o,_,_,e,ex,_⟩:=I.cp p _ hk;exact⟨o,e,ex⟩
    ·obtain⟨_,_,_,_,o,_,_,e,ex,_⟩:=I.cp p _ hk;exact⟨o,e,ex⟩
   obtain⟨o,e,ex⟩:=z;refine⟨⟨o,e,ex.1⟩,fun a e2=>?_⟩;cases e2;exact⟨o,e,ex.2.1⟩
  ·obtain⟨o,_,_,_,e,ex,_⟩:=I.cp p _ hk;refine⟨⟨o,e,ex.1⟩,fun a e2=>?_⟩;cases e2;exact⟨o,e,ex.2.1⟩
 | _=>exact bD ty
variable {o e:Expr} {es:List Expr} {to:TE} {t:TA} {name:Str} {apos pz:Pos} {T id:String} {r:V->List V->Hp->VK->Prop}
/- xs.append(e),list.index on a WE tuple .. are MtR facts of 06m -/
end
noncomputable def MtM(X:Cx)(id:String)(r:V->List V->Hp->VK->Prop):Prop :=
 ∀ (pins:List (Addr×Obj)) (s:av) (σ:St) (H:Hp) (x:V) (xs:List V) (v:Value) (us:List Value) (Q:VK),Inv X pins σ H s->RelV x v->Vals xs us->r x xs H Q ->
  wpAny (model X.prog X.w) X.A (call (.builtin id) (v :: us)) (EP X pins σ Q) X.xe s
theorem Vals.one:∀ {x:V} {us:List Value},Vals [x] us->∃ u,us=[u]/\RelV x u:=by
 intro x us h;cases h with
 | cons r t=>cases t; exact⟨_,rfl,r⟩
theorem Vals.two:∀ {x y:V} {us:List Value},Vals [x,y] us->∃ u v,us=[u,v]/\RelV x u/\RelV y v:=by
 intro x y us h;cases h with
 | cons r t =>
  obtain⟨v,rfl,q⟩:=Vals.one t;exact⟨_,_,rfl,r,q⟩
section
variable {X:Cx} {pins:List (Addr×Obj)} {σ:St} {H:Hp} {s:av} {l b:Addr} {xs ys zs:List V}
theorem Inv.WI{bG its':List Value}{n:Nat}{f:Array Value->Array Value}{t':Nat}(I:Inv X pins σ H s)(hH:H l=some (.lst xs))
  (e:s.heap.get? l=some { cls:=.type "list",data:=.seq bG.toArray n }) (hf:f bG.toArray=its'.toArray) (hv:Vals ys its') (hz:ys.length<=aY) :
  Inv X pins σ (upd H l (.lst ys)) { s with heap:=s.heap.update l (iR f),toks:=t' }:=by
 have q:=PySem.IsL.update e f;rw [hf] at q;refine I.write (x:=l) (e:=l) (by rw [hH]; exact trivial) (.inl rfl) (fun b' u hb hu=>(cW s.heap (iR f) (da hb)).trans hu) ⟨_,q⟩ ?_;exact⟨hz,its',_,hv,q⟩
theorem Inv.Zq{bG:List Value}{t':Nat}(I:Inv X pins σ H s)(hv:Vals ys bG)(hz:ys.length<=aY) :
  Inv X pins σ (upd H s.heap.objs.size (.lst ys)) { s with heap:=s.heap.push { cls:=.type "list",data:=.seq bG.toArray },toks:=t' } :=
 I.laid (fun _ _ q=>ay _ q) (aB _) ⟨hz,bG,0,hv,aO _ rfl⟩
theorem Inv.WH (I:Inv X pins σ H s) (hH:H l=some (.lst xs)):xs.length<=aY/\∃ (bG:List Value) (n:Nat),Vals xs bG/\xs.length=bG.length/\s.heap.get? l=some { cls:=.type "list",data:=.seq bG.toArray n }:=by
 obtain⟨z,bG,n,r,e⟩:=I.cp l _ hH;exact⟨z,bG,n,r,r.length,e⟩
theorem N7{n:Nat}(h:n<=aY):jj n=false:=by
 unfold jj;exact decide_eq_false (by lia)
end
section
variable {X:Cx}
noncomputable def QU:V->List V->Hp->VK->Prop:=fun x vs H Q=>∃ l xs y,x=.ref l/\vs=[y]/\H l=some (.lst xs)/\xs.length < aY/\Q .eg (upd H l (.lst (xs++[y])))
theorem AU:MtM X "list.append" QU:=by
 intro pins s σ H x vs v us Q I rx rv h;obtain⟨l,xs,y,rfl,rfl,hH,hz,q⟩:=h;cases rx;obtain⟨u,rfl,ru⟩:=rv.one;obtain⟨z,bG,n,r,hl,e⟩:=I.WH hH;refine Gd F.slot_list_append ⟨_,e,rfl⟩ F.entry_list_append (F.args_list_append_2 _ _) (PySem.list_append l bG.toArray n u (by rw [aR]; lia)) ⟨e,?_⟩;refine⟨.eg,_,I.WI (its':=bG++[u]) hH e (by simp) (r.append (.cons ru .nil)) ?_,rfl,q⟩;rw [az,bR];lia
end
section
variable {κ:Type} [DecidableEq κ]
noncomputable def k9(kvs:List (κ×V))(k:κ):Option V:=(kvs.find? fun kv=>decide (kv.1=k)).map (·.2)
noncomputable def putK(kvs:List (κ×V))(k:κ)(v:V):List (κ×V) :=
 if (kvs.any fun kv=>decide (kv.1=k))=true then kvs.map (fun kv=>if kv.1=k then (kv.1,v) else kv) else kvs++[(k,v)]
theorem qu{p:κ×V}{r:List (κ×V)}{k:κ}(e:p.1=k):k9 (p :: r) k=some p.2:=by simp [k9,dh,e]
theorem qv{p:κ×V}{r:List (κ×V)}{k:κ}(e:¬ p.1=k):k9 (p :: r) k=k9 r k:=by simp [k9,dh,e]
theorem DR(k:κ):∀ kvs:List (κ×V),(kvs.any fun kv=>decide (kv.1=k))=(k9 kvs k).isSome
 | []=>rfl
 | p :: r=>by
  rw [kL];by_cases e:p.1=k
  ·simp only [qu e,decide_eq_true e,Bool.true_or,Option.isSome_some]
  ·rw [qv e,decide_eq_false e,Mw]; exact DR k r
theorem wL(kvs:List (κ×V))(k:κ)(v:V):(putK kvs k v).length<=kvs.length+1:=by
 unfold putK;split
 ·rw [aE]; lia
 ·rw [az,ah,aA]; lia
theorem wc.ow{o:Option V}{u:Option Value}(r:wc o u):o.isSome=u.isSome:=by
 cases o with
 | none=>cases u with
  | none=>rfl
  | some _=>exact(show False from r).elim
 | some _=>cases u with
  | none=>exact(show False from r).elim
  | some _=>rfl
theorem wc.getD{o:Option V}{u:Option Value}{d:V}{d':Value}(r:wc o u)(rd:RelV d d'):RelV (o.getD d) (u.getD d'):=by
 cases o with
 | none=>cases u with
  | none=>exact rd
  | some _=>exact(show False from r).elim
 | some _=>cases u with
  | none=>exact(show False from r).elim
  | some _=>exact r
theorem KV.val{kvs:List (κ×V)}{vs:List (κ×Value)}(r:KV kvs vs)(k:κ):wc (k9 kvs k) (MO vs k):=by
 unfold KV at r;induction r with
 | nil=>exact fN
 | @cons p q ps qs h t ih =>
  obtain⟨h1,h2⟩:=h;by_cases e:p.1=k
  ·have e':q.1=k:=h1.symm.trans e;have b:MO (q :: qs) k=some q.2:=by simp [MO,dh,e']
   rw [qu e,b]; exact h2
  ·have e':¬ q.1=k:=fun z=>e (h1.trans z);have b:MO (q :: qs) k=MO qs k:=by simp [MO,dh,e']
   rw [qv e,b]; exact ih
theorem KV.any{kvs:List (κ×V)}{vs:List (κ×Value)}(r:KV kvs vs)(k:κ):(kvs.any fun kv=>decide (kv.1=k))=vs.any fun kv=>decide (kv.1=k):=by
 unfold KV at r;induction r with
 | nil=>rfl
 | cons h t ih=>rw [kL,kL,ih,h.1]
theorem KV.T1{kvs:List (κ×V)}{vs:List (κ×Value)}(r:KV kvs vs)(k:κ){y:V}{u:Value}(ry:RelV y u) :
  KV (kvs.map fun kv=>if kv.1=k then (kv.1,y) else kv) (vs.map fun kv=>if kv.1=k then (kv.1,u) else kv):=by
 unfold KV at r ⊢;induction r with
 | nil=>exact .nil
 | @cons p q ps qs h t ih =>
  rw [aj,aj];refine .cons ?_ ih;obtain⟨h1,h2⟩:=h;by_cases e:p.1=k
  ·rw [if_pos e,if_pos (h1.symm.trans e)]; exact⟨h1,ry⟩
  ·rw [if_neg e,if_neg (fun z=>e (h1.trans z))]; exact⟨h1,h2⟩
theorem KV.put{kvs:List (κ×V)}{vs:List (κ×Value)}(r:KV kvs vs)(k:κ){y:V}{u:Value}(ry:RelV y u):KV (putK kvs k y) (stored vs k u):=by
 unfold putK stored;rw [r.any k];by_cases e:(vs.any fun kv=>decide (kv.1=k))=true
 ·rw [if_pos e,if_pos e]; exact r.T1 k ry
 ·rw [if_neg e,if_neg e]; exact Qf r ⟨rfl,ry⟩
theorem KV.length{kvs:List (κ×V)}{vs:List (κ×Value)}(r:KV kvs vs):kvs.length=vs.length:=g8 r
end
theorem yH{P:bz}{w:World}{k:Key}{u:Value}(r:RelV (kV k) u):(cE P w).is k u=true:=by
 cases k with
 | inl i=>obtain⟨t,e⟩:=(show ∃ t,u=fA i t from r); subst e; exact Eo P w i t
 | inr x=>obtain⟨t,e⟩:=(show ∃ t,u=Value.str x t from r); subst e; exact En P w x t
theorem A4{P:bz}{w:World}:∀ {ks:List Key} {us:List Value},Vals (ks.map kV) us->ItemsAre (cE P w) ks us
 | [],_,r=>by rw [aW] at r; cases r; exact .nil
 | k :: ks,_,r=>by
  rw [aj] at r;cases r with
  | cons h t=>exact .cons (yH h) (A4 t)
noncomputable abbrev KT(H:Hp):List (List Key×V)->List (List Key×Addr×Value)->Prop:=j0 fun p q=>p.1=q.1/\H q.2.1=some (.tup (p.1.map kV))/\RelV p.2 q.2.2
theorem KT.val{H:Hp}{kvs:List (List Key×V)}{xs:List (List Key×Addr×Value)}(r:KT H kvs xs)(k:List Key):wc (k9 kvs k) ((atKey xs k).map (·.2)):=by
 induction r with
 | nil=>exact fN
 | @cons p q ps qs h t ih =>
  obtain⟨h1,_,h2⟩:=h;by_cases e:p.1=k
  ·have e':q.1=k:=h1.symm.trans e;have b:atKey (q :: qs) k=some q.2:=by simp [atKey,dh,e']
   rw [qu e,b]; exact h2
  ·have e':¬ q.1=k:=fun z=>e (h1.trans z);have b:atKey (q :: qs) k=atKey qs k:=by simp [atKey,dh,e']
   rw [qv e,b]; exact ih
theorem KT.T1{H:Hp}{kvs:List (List Key×V)}{xs:List (List Key×Addr×Value)}(r:KT H kvs xs)(k:List Key){y:V}{u:Value}(ry:RelV y u) :
  KT H (kvs.map fun kv=>if kv.1=k then (kv.1,y) else kv) (xs.map (putAt k u)):=by
 induction r with
 | nil=>exact .nil
 | @cons p q ps qs h t ih =>
  rw [aj,aj];refine .cons ?_ ih;obtain⟨h1,h2,h3⟩:=h;unfold putAt;by_cases e:p.1=k
  ·rw [if_pos e,if_pos (h1.symm.trans e)]; exact⟨h1,h2,ry⟩
  ·rw [if_neg e,if_neg (fun z=>e (h1.trans z))]; exact⟨h1,h2,h3⟩
theorem KT.put{H:Hp}{kvs:List (List Key×V)}{xs:List (List Key×Addr×Value)}(r:KT H kvs xs)(k:List Key){b:Addr}{y:V}{u:Value}(hb:H b=some (.tup (k.map kV)))(ry:RelV y u) :
  KT H (putK kvs k y) (FX xs k b u):=by
 have e:(kvs.any fun kv=>decide (kv.1=k))=(atKey xs k).isSome:=by
  rw [DR,(r.val k).ow,zy]
 unfold putK FX;rw [e];by_cases q:(atKey xs k).isSome=true
 ·rw [if_pos q,if_pos q]; exact r.T1 k ry
 ·rw [if_neg q,if_neg q]; exact Qf r ⟨rfl,hb,ry⟩
theorem KT.keeps{H H':Hp}{kvs:List (List Key×V)}{xs:List (List Key×Addr×Value)}(r:KT H kvs xs)(ht:∀ b ys,H b=some (.tup ys)->H' b=some (.tup ys)):KT H' kvs xs :=
 Paired.UA r fun _ _ z=>⟨z.1,ht _ _ z.2.1,z.2.2⟩
section
variable {P:bz} {w:World} {H:Hp} {h:Heap} {a:Addr}
theorem Sr{u:HO}(ok:pS P w H h)(e:Rd H a u):fG P w H h a u:=e.ok ok
theorem sL{kvs:List (Key×V)}(ok:pS P w H h)(e:Rd H a (.dK kvs)):kvs.length<=aY/\(a == cO)=false/\∃ vs,KV kvs vs/\h.DictOf (cE P w) a vs :=
 show fG P w H h a (.dK kvs) from Sr ok e
theorem Bn{kvs:List (Key×V)}(ok:pS P w H h)(e:H a=some (.dK kvs)):kvs.length<=aY/\(a == cO)=false/\∃ vs,KV kvs vs/\h.DictOf (cE P w) a vs:=sL ok (.inl e)
theorem vW{ks:List Key}(ok:pS P w H h)(e:H a=some (.tup (ks.map kV))):(ip (cE P w)).is h ks a:=by
 obtain⟨_,bG,r,o,h1,h2,n,h3⟩:=(show fG P w H h a (.tup (ks.map kV)) from ok a _ e);exact⟨o,bG.toArray,n,h1,h2,h3,by simpa using A4 r⟩
theorem yY{kvs:List (List Key×V)}(ok:pS P w H h)(e:Rd H a (.dT kvs)):kvs.length<=aY/\(a == cO)=false /\
  ∃ xs,KT H kvs xs/\h.DictOfH (ip (cE P w)) a xs:=by
 obtain⟨z,y,xs,r,o,es,ep,h1,h2,h3,h4,h5⟩:=(show fG P w H h a (.dT kvs) from Sr ok e);refine⟨z,y,xs,r,o,es,ep,h1,h2,h3,h4,fun x hx=>?_,h5⟩;have all:∀ {l:List (List Key×V)} {m:List (List Key×Addr×Value)},KT H l m->∀ x∈m,(ip (cE P w)).is h x.1 x.2.1:=by
  intro l m q;induction q with
  | nil=>intro x hx; exact nomatch hx
  | @cons p q ps qs hq t ih =>
   intro x hx;rcases List.mem_cons.mp hx with e | hx
   ·subst e;exact vW ok (by rw [<-hq.1]; exact hq.2.1)
   ·exact ih x hx
 exact all r x hx
theorem Pj{kvs:List (List Key×V)}(ok:pS P w H h)(e:H a=some (.dT kvs)):kvs.length<=aY/\(a == cO)=false /\
  ∃ xs,KT H kvs xs/\h.DictOfH (ip (cE P w)) a xs:=yY ok (.inl e)
end
noncomputable def zu(H:Hp)(a:Addr)(y:V)(r:Option V):Prop :=
 (∃ kvs k,Rd H a (.dK kvs)/\y=kV k/\r=k9 kvs k)\/∃ kvs k b,Rd H a (.dT kvs)/\y=.ref b/\H b=some (.tup (k.map kV))/\r=k9 kvs k
noncomputable def Mp(H:Hp)(a:Addr)(y v:V)(H':Hp):Prop :=
 (∃ kvs k,H a=some (.dK kvs)/\y=kV k/\kvs.length < aY/\H'=upd H a (.dK (putK kvs k v))) \/
 ∃ kvs k b,H a=some (.dT kvs)/\y=.ref b/\H b=some (.tup (k.map kV))/\kvs.length < aY/\H'=upd H a (.dT (putK kvs k v))
theorem zu.k{H:Hp}{a:Addr}{kvs:List (Key×V)}{k:Key}(e:H a=some (.dK kvs)):zu H a (kV k) (k9 kvs k):=.inl ⟨kvs,k,.inl e,rfl,rfl⟩
theorem zu.t{H:Hp}{a b:Addr}{kvs:List (List Key×V)}{k:List Key}(e:H a=some (.dT kvs))(eb:H b=some (.tup (k.map kV))):zu H a (.ref b) (k9 kvs k):=.inr ⟨kvs,k,b,.inl e,rfl,eb,rfl⟩
theorem Mp.k{H:Hp}{a:Addr}{kvs:List (Key×V)}{k:Key}{v:V}(e:H a=some (.dK kvs))(hl:kvs.length < aY):Mp H a (kV k) v (upd H a (.dK (putK kvs k v))):=.inl ⟨kvs,k,e,rfl,hl,rfl⟩
theorem Mp.t{H:Hp}{a b:Addr}{kvs:List (List Key×V)}{k:List Key}{v:V}(e:H a=some (.dT kvs))(eb:H b=some (.tup (k.map kV)))(hl:kvs.length < aY) :
  Mp H a (.ref b) v (upd H a (.dT (putK kvs k v))):=.inr ⟨kvs,k,b,e,rfl,eb,hl,rfl⟩
section
variable {X:Cx} {pins:List (Addr×Obj)} {σ:St} {H:Hp} {s:av} {a:Addr} {y v:V} {u r:Value} {o:Option V} {A:cL} {E:Value->av->Prop}
theorem Inv.big(I:Inv X pins σ H s):cO < s.heap.objs.size:=by
 have h:bL < s.heap.objs.size:=(I.mod.glob.keeps I.bk).lt;exact Nat.lt_trans (by decide) h
theorem vZ{Q:Value->av->Prop}(hu:A.units+1 < cLine)(I:Inv X pins σ H s)(g:zu H a y (some v))(ry:RelV y u)(h:∀ w' s',Inv X pins σ H s'->RelV v w'->Q w' s') :
  wpAny (model X.prog X.w) A (getItem (.ref a) u) Q E s:=by
 rcases g with ⟨kvs,k,e,ey,l⟩ | ⟨kvs,k,b,e,ey,eb,l⟩
 ·subst ey;obtain⟨z,hd,vs,rel,dd⟩:=sL I.cp e;obtain⟨w',hw,oI⟩:=wc.some_of (v:=v) (o:=MO vs k) (by rw [l]; exact rel.val k);exact wpAny_getItem_of (yH ry) dd.mapOf hw (h w' _ (I.tok _) oI)
 ·subst ey;cases (show u=dO b from ry);obtain⟨z,hd,xs,rel,dd⟩:=yY I.cp e;obtain⟨w',hw,oI⟩:=wc.some_of (v:=v) (o:=(atKey xs k).map (·.2)) (by rw [l]; exact rel.val k);obtain⟨p,hp,nK⟩:=Option.map_eq_some_iff.mp hw;refine wpAny_getItem_heap (lM hu) (vW I.cp eb) dd hp ?_;rw [nK];exact h w' _ (I.tok _) oI
theorem Xw{Q:Value->av->Prop}(hu:A.units+1 < cLine)(I:Inv X pins σ H s)(g:zu H a y o)(ry:RelV y u)(h:∀ s',Inv X pins σ H s'->Q (.bool o.isSome) s') :
  wpAny (model X.prog X.w) A (dg .In u (.ref a)) Q E s:=by
 rcases g with ⟨kvs,k,e,ey,l⟩ | ⟨kvs,k,b,e,ey,eb,l⟩
 ·subst ey;obtain⟨z,hd,vs,rel,dd⟩:=sL I.cp e;refine wpAny_in_of (yH ry) hd dd.mapOf ?_;rw [<-(rel.val k).ow,<-l];exact h _ (I.tok _)
 ·subst ey;cases (show u=dO b from ry);obtain⟨z,hd,xs,rel,dd⟩:=yY I.cp e;refine wpAny_in_heap (lM hu) (vW I.cp eb) hd dd ?_;have q:=(rel.val k).ow;rw [zy] at q;rw [<-q,<-l];exact h _ (I.tok _)
theorem Kq{Q:Value->av->Prop}(hu:A.units+1 < cLine)(I:Inv X pins σ H s)(g:zu H a y o)(ry:RelV y u)(h:∀ s',Inv X pins σ H s'->Q (.bool (!o.isSome)) s') :
  wpAny (model X.prog X.w) A (dg .NotIn u (.ref a)) Q E s:=by
 rcases g with ⟨kvs,k,e,ey,l⟩ | ⟨kvs,k,b,e,ey,eb,l⟩
 ·subst ey;obtain⟨z,hd,vs,rel,dd⟩:=sL I.cp e;refine wpAny_notIn_of (yH ry) hd dd.mapOf ?_;rw [<-(rel.val k).ow,<-l];exact h _ (I.tok _)
 ·subst ey;cases (show u=dO b from ry);obtain⟨z,hd,xs,rel,dd⟩:=yY I.cp e;refine wpAny_notIn_heap (lM hu) (vW I.cp eb) hd dd ?_;have q:=(rel.val k).ow;rw [zy] at q;rw [<-q,<-l];exact h _ (I.tok _)
theorem rR{h':Heap}{t':Nat}{ob:HO}(I:Inv X pins σ H s)(mu:XS (H a))(hs:eN a s.heap h')(he:∃ q,h'.get? a=some q)(new:fG X.prog X.w (upd H a ob) h' a ob) :
  Inv X pins σ (upd H a ob) { s with heap:=h',toks:=t' } :=
 I.write (x:=a) (e:=a) mu (.inl rfl) (fun b q hb z=>(hs.2 b hb).trans z) he new
theorem CZ{P:bz}{w:World}{H':Hp}{h':Heap}{kvs:List (Key×V)}{vs:List (Key×Value)}(z:kvs.length<=aY)(hd:(a == cO)=false)(rel:KV kvs vs)(dd:h'.DictOf (cE P w) a vs) :
  fG P w H' h' a (.dK kvs):=⟨z,hd,vs,rel,dd⟩
theorem Ma{H':Hp}{Q:Unit->av->Prop}(hu:A.units+1 < cLine)(I:Inv X pins σ H s)(g:Mp H a y v H')(ry:RelV y u)(rv:RelV v r)(h:∀ s',Inv X pins σ H' s'->Q () s') :
  wpAny (model X.prog X.w) A (setItem (.ref a) u r) Q E s:=by
 rcases g with ⟨kvs,k,e,ey,l,eH⟩ | ⟨kvs,k,b,e,ey,eb,l,eH⟩
 ·subst ey eH;obtain⟨z,hd,vs,rel,dd⟩:=Bn I.cp e;have hz:vs.length<=aY:=by rw [<-rel.length]; exact z
  have hl:(putK kvs k v).length<=aY:=by have:=wL kvs k v; lia
  refine wpAny_setItem_pairs (hsz:=hz) (yH ry) dd fun h' Bq hs=>h _ ?_;have he:∃ q,h'.get? a=some q:=let ⟨q,_,_,hq,_⟩:=Bq; ⟨q,hq⟩
  exact rR I (by rw [e]; exact fN) hs he (CZ hl hd (rel.put k rv) Bq)
 ·subst ey eH;cases (show u=dO b from ry);obtain⟨z,hd,xs,rel,dd⟩:=Pj I.cp e;have hz:xs.length<=aY:=by rw [<-g8 rel]; exact z
  have hl:(putK kvs k v).length<=aY:=by have:=wL kvs k v; lia
  refine wpAny_setItem_heap (hsz:=hz) (lM hu) (vW I.cp eb) dd fun h' Bq hs=>h _ ?_;obtain⟨q,es,ep,hq,h2,h3,h4,_,h5⟩:=Bq;refine rR I (by rw [e]; exact fN) hs ⟨q,hq⟩ ⟨hl,hd,_,(rel.put k eb rv).keeps fun c ys ec=>?_,q,es,ep,hq,h2,h3,h4,h5⟩;rw [bO (SF ec e (fun z=>nomatch z))];exact ec
end
section
variable {X:Cx} {pins:List (Addr×Obj)} {σ:St} {H:Hp} {s:av} {a:Addr} {kvs:List (Key×V)} {k:Key} {u:Value} {A:cL} {E:Value->av->Prop}
theorem S9 {Q:Value->av->Prop} (I:Inv X pins σ H s) (e:Rd H a (.dK kvs)) (h:∀ t s',Inv X pins σ H s'->Q (.int kvs.length t) s'):wpAny (model X.prog X.w) A (call (.builtin "len") [.ref a]) Q E s:=by
 obtain⟨z,hd,vs,rel,dd⟩:=sL I.cp e;refine call_len_dict hd dd (by rw [<-rel.length]; rw [cI] at z; lia) ?_;rw [<-rel.length];exact h _ _ (I.tok _)
theorem RS{Q:Bool->av->Prop}(I:Inv X pins σ H s)(e:Rd H a (.dK kvs))(h:∀ s',Inv X pins σ H s'->Q (!kvs.isEmpty) s'):wpAny (model X.prog X.w) A (truthy (.ref a)) Q E s:=by
 obtain⟨z,hd,vs,rel,dd⟩:=sL I.cp e;refine FW hd dd (by rw [<-rel.length]; rw [cI] at z; lia) ?_;have q:kvs.isEmpty=vs.isEmpty:=by cases rel <;> rfl
 rw [<-q];exact h _ (I.tok _)
end
theorem qU {X:Cx} {pins:List (Addr×Obj)} {σ:St} {H:Hp} {s:av} {a:Addr} {y:V} {o:Option V} (I:Inv X pins σ H s) (g:zu H a y o):s.TypeIs (.ref a) "dict":=by
 rcases g with ⟨kvs,k,e,_,_⟩ | ⟨kvs,k,b,e,_,_,_⟩
 ·obtain⟨_,_,vs,_,dd⟩:=sL I.cp e;exact dd.typeIs
 ·obtain⟨_,_,xs,_,dd⟩:=yY I.cp e;exact dd.typeIs
theorem E5 {P:bz} {w:World} {H:Hp} (h:Heap) (hb:cO < h.objs.size):fG P w H (h.push { cls:=.type "dict",data:=.dict #[] }) h.objs.size (.dK []) :=
 ⟨bZ _,beq_eq_false_iff_ne.mpr (da (bh hb)),[],.nil,Heap.DictOf.new h⟩
noncomputable def TH:TE:=fun _ H Q=>∀ p,H p=none->Q (.ref p) (upd H p (.dK []))
section
variable {X:Cx} {pos:Pos}
theorem NT:PE X (.Dict [] [] pos) TH:=fun pins s σ H Q I h =>
 wpAny_Dict_empty ⟨.ref s.heap.objs.size,_,I.laid (a:=s.heap.objs.size) (o:=.dK []) (t':=s.toks) (fun _ _ q=>ay _ q) (aB _) (E5 s.heap I.big),rfl,h _ (I.cp.fresh (aB _))⟩
end
noncomputable abbrev VV:List (V×V)->List (Value×Value)->Prop:=j0 fun p q=>RelV p.1 q.1/\RelV p.2 q.2
noncomputable def Hl(kvs more:List (Key×V)):List (Key×V):=more.foldl (fun acc kv=>putK acc kv.1 kv.2) kvs
theorem KV.merge:∀ {more:List (Key×V)} {rs:List (Key×Value)} {kvs:List (Key×V)} {vs:List (Key×Value)},KV more rs->KV kvs vs->KV (Hl kvs more) (merged vs rs):=by
 intro more rs kvs vs r;unfold KV at r;induction r generalizing kvs vs with
 | nil=>intro q; exact q
 | @cons p q ps qs h t ih =>
  intro r0;have e:KV (putK kvs p.1 p.2) (stored vs q.1 q.2):=by
   have:=r0.put p.1 h.2;rw [<-h.1]; exact this
  exact ih e
theorem za{P:bz}{w:World}:∀ {kvs:List (Key×V)} {ws:List (Value×Value)},VV (kvs.map fun kv=>(kV kv.1,kv.2)) ws->∃ rs,Carries (cE P w) ws rs/\KV kvs rs
 | [],_,r=>by rw [aW] at r; cases r; exact⟨[],fN,.nil⟩
 | p :: kvs,_,r=>by
  rw [aj] at r;cases r with
  | @cons a b as bs h t =>
   obtain⟨rs,c,q⟩:=za (P:=P) (w:=w) t;obtain⟨b1,b2⟩:=b;exact⟨(p.1,b2) :: rs,⟨yH h.1,rfl,c⟩,.cons ⟨rfl,h.2⟩ q⟩
noncomputable def IsD(H:Hp)(a:Addr):Prop:=(∃ kvs,Rd H a (.dK kvs))\/∃ kvs,Rd H a (.dT kvs)
theorem OL{X:Cx}{pins:List (Addr×Obj)}{σ:St}{H:Hp}{s:av}{a:Addr}(I:Inv X pins σ H s)(d:IsD H a) :
  s.TypeIs (.ref a) "dict"/\(∀ b,dO a=.ref b->∃ ob,s.heap.get? b=some ob/\ob.dict=none)/\(a == cO)=false:=by
 rcases d with ⟨kvs,e⟩ | ⟨kvs,e⟩
 ·obtain⟨_,hd,vs,_,dd⟩:=sL I.cp e;refine⟨dd.typeIs,fun b q=>?_,hd⟩;cases q;obtain⟨ob,_,_,h1,h2,_⟩:=dd;exact⟨ob,h1,h2.2.1⟩
 ·obtain⟨_,hd,xs,_,dd⟩:=yY I.cp e;refine⟨dd.typeIs,fun b q=>?_,hd⟩;cases q;obtain⟨ob,_,_,h1,h2,_⟩:=dd;exact⟨ob,h1,h2.2.1⟩
end L2
namespace Att
open PySem PySem.W PySem.Calls PyProof.Rows
theorem w8{P:Params}{h:Heap}:∀ (ns:List Int) (vs:List Value),WellAll P h vs (ns.map WData.int)->lO vs ns:=by
 intro ns;induction ns with
 | nil =>
  intro vs w;rw [aW] at w;cases w;exact .nil
 | cons n ns ih =>
  intro vs w;rw [aj] at w;cases w with
  | cons a b =>
   cases a;exact .cons _ _ (ih _ b)
theorem K8{l:OpenLaw}{n:Nat}(hn:l.most=some n){P:Params}{h:Heap}{args:List WData}{vals:List Value}
  (RF:l.row.toRowW.claim.pre args=true) (ZH:WellAll P h vals args) :
  ∃ a vs ns,vals=[dO a]/\args=[WData.list (ns.map WData.int)]/\h.get? a=some { cls:=.type "list",data:=.seq vs.toArray }/\lO vs ns/\ns.length<=n:=by
 have hsh:WShape.hasAll [] args [.list .int]=true:=(pre_splitW RF).1;have hc:l.pre.holds [] { args:=args } = true:=(pre_splitW RF).2;obtain⟨d,r,rfl,h1,h2⟩:=hasAllW_cons hsh;obtain rfl:=hasAllW_nil h2;obtain⟨xs,rfl,h3⟩:=hasW_list h1;obtain⟨ns,rfl⟩:=items_int h3;have hlen:ns.length<=n:=by
  unfold OpenLaw.pre at hc;have h4:(WTm.not (.lt (.lit (.int (n:Int))) (.len (.arg 0)))).holds [] { args:=[.list (ns.map .int)] } = true:=by
   have h4:=(holds_andW hc).1;rw [hn] at h4;exact h4
  have h5:=condW_of h4 (w_not (w_lt w_lit (w_len_list (w_arg rfl))));rw [aE] at h5;refine Nat.le_of_not_lt fun q=>?_;have q':(n:Int) < ((ns.length:Nat):Int):=by lia
  first
   | (rw [decide_eq_true q'] at h5; exact absurd h5 (by decide))
   | (simp at h5; lia)
 cases ZH with
 | cons w1 w2 =>
  cases w2;cases w1 with
  | list ho yN=>exact⟨_,_,ns,rfl,rfl,ho,w8 ns _ yN,hlen⟩
theorem Lm(l:OpenLaw)(args:List WData):l.row.toRowW.claim.post args (.bool true) args=true :=
 postW_of (r:=l.row.toRowW) (X:=(true == true))
  (show WShape.has [] (.bool true) .bool=true by first | rfl | decide | simp [WShape.has,WShape.arms,WShape.armsAll])
  (show (WTm.eq .res (.lit (.bool true))).value [] { args:=args,res:=some (.bool true),after:=args } = some (.bool (true == true)) from w_eq_bool (w_res rfl) w_lit) rfl
theorem Fm{l:OpenLaw}{n:Nat}{q:bz}{loose:List Str}{XP:(Str->Option Value)->Heap->Prop}{YP:World->Heap->Prop}{d:DefRec}
  (hn:l.most=some n) (Xe:d.params.defaults=[])
  (call:∀ (w:World) (mN eE:av) (mg mb:Str->Option Value) (fa:Addr) (o:Obj) (pm cd doc:Value) (a:Addr) (vs:List Value) (ns:List Int),
   Ground q loose [] XP w mN mg mb eE.heap->YP w eE.heap ->
   eE.heap.get? fa=some o->o.data=.func (docDef d.name d.params d.body d.scope pm cd doc)->eE.heap.CodeRec cd d.name->mg d.name=some (.ref fa) ->
   eE.heap.get? a=some { cls:=.type "list",data:=.seq vs.toArray }->lO vs ns->ns.length<=n->eE.gens=#[] ->
   BH (model l.prog w) Gb (.call (.ref fa) ⟨[.ref a],[]⟩) (fun r s'=>r=.ok (.ret (.bool true))/\OldK eE.heap s'.heap/\s'.os=eE.os/\BM s'.gens) eE) :
  WalkO q loose XP YP l.row.toRowW d [] (fun f vs=>IM f vs):=by
 intro w mN eE mg mb G Y fa o pm cd doc dV kV ho hd Ka hD W5 hg args vals as RF adH hrd ZH hlo;obtain rfl:dV=.none:=Dflts.none hD Xe;obtain rfl:kV=.none:=Dflts.noKw hD;obtain⟨a,vs,ns,rfl,rfl,UW,hints,hlen⟩:=K8 hn RF ZH;refine enter_call (xK (call w mN eE mg mb fa o pm cd doc a vs ns G Y ho (fd_plain hd) Ka W5 UW hints hlen hg) fun r s' hq=>?_);obtain⟨rfl,h2,h3,h4⟩:=hq;exact⟨.inl ⟨.bool true,.bool true,[],rfl,fun _=>rfl,.bool true,Lm l _,fun _=>⟨List.Pairwise.nil,fun _ hm=>(nomatch hm)⟩⟩,h2,h3,h4⟩
end Att
namespace L2
open PySem PySem.Spec PyProof.Rows
theorem Az:∀ {vs:List Value} {ns:List Int},lO vs ns->Vals (ns.map V.int) vs
 | _,_,.nil=>.nil
 | _,_,.cons n t h=>.cons ⟨t,rfl⟩ (Az h)
noncomputable def Sa(H:Hp):Prop:=∀ b,H b=none\/∃ o xs,H b=some (.jZ o (.lst xs))
theorem Ov{P:bz}{w:World}{K:ai}{mg mb:Str->Option Value}{CX:Mq}{k:Nat}{fa a:Addr}{fd:gG}{x:Str}{sp:Sp}{eE:av}{vs:List Value}{ns:List Int}
  (KX:K.In eE.heap) (Qr:eE.heap.Ns bL mg) (hb:eE.heap.Ns builtinsNs mb) (hbb:∀ x:Str,x≠"__name__"->mb x=du x) (ZY:eE.heap.NoLimit) (hg:eE.gens=#[])
  (ha:eE.heap.get? a=some { cls:=.type "list",data:=.seq vs.toArray }) (hi:lO vs ns) (hl:ns.length<=aY) (hr:lx k Gb)
  (F:∀ base:Heap,K.In base->base.Ns bL mg->xc P w K mg base CX k fa fd [x] sp) (Xh:∀ (s:av) (u:Value),BindsTo s fd ⟨[u],[]⟩ [(x,u)])
  (SU:∀ H:Hp,Sa H->oK K H a (ns.map V.int)->sp [.ref a] H (fun v _=>v=.bl true) fun _ _ _=>False)
  (hCX:∀ H e s',CX [] H eE (fun _ _ _=>False) e s'->False) :
  BH (model P w) Gb (.call (.ref fa) ⟨[.ref a],[]⟩) (fun r s'=>r=.ok (.ret (.bool true))/\OldK eE.heap s'.heap/\s'.os=eE.os/\BM s'.gens) eE:=by
 have rv:=Az hi;have Zs:=hi.length;have core:∀ H:Hp,Sa H->oK K H a (ns.map V.int)->pS P w H eE.heap->(∀ b,H b≠none->b=a)->(H a≠none->K.lookup a=none) ->
   BH (model P w) Gb (.call (.ref fa) ⟨[.ref a],[]⟩) (fun r s'=>r=.ok (.ret (.bool true))/\OldK eE.heap s'.heap/\s'.os=eE.os/\BM s'.gens) eE:=by
  intro H hO hS cp hA hK;have Kx:∀ {b:Addr} {o:Obj},eE.heap.get? b=some o->H b=none->(CG eE.heap H).get? b=some o:=fun e n=>OW e n;have WB:∀ {b:Addr} {o:Obj} {es:Array fc} {ep:Nat},eE.heap.get? b=some o->o.data=.dict es ep->H b=none:=fun {b o es ep} e d=>by
   cases q:H b with
   | none=>rfl
   | some u =>
    have e':b=a:=hA b (by rw [q]; simp);subst e';rw [ha] at e; cases e;have d':Data.seq vs.toArray _=Data.dict es ep:=d;cases d'
  have X9:∀ {b:Addr} {m:Str->Option Value},eE.heap.Ns b m->(CG eE.heap H).Ns b m:=fun {b m} ⟨o,es,ep,e,d,r⟩=>⟨o,es,ep,Kx e (WB e d),d,r⟩;have hKb:K.In (CG eE.heap H):=fun b o e=>Kx (KX b o e) (by
   cases q:H b with
   | none=>rfl
   | some u =>
    have e':b=a:=hA b (by rw [q]; simp);subst e';rw [hK (by rw [q]; simp)] at e; cases e)
  have hM:Mod K mg (CG eE.heap H):=⟨hKb,X9 Qr,⟨mb,X9 hb,hbb⟩,let ⟨mc,h1,h2⟩:=ZY; ⟨mc,X9 h1,h2⟩⟩;have e0:Sd P w K mg (CG eE.heap H) Gb [] eE H:=⟨rfl,hM,fun b o e=>Rk e,Nat.le_of_eq (LU _ _),trivial,fun b hb=>absurd (show b∈([]:List Addr) from hb) (by simp),cp,.of_eq hg⟩;refine xK ((F _ hKb (X9 Qr)).run Gb [] eE H ⟨[.ref a],[]⟩ [.ref a] [.ref a] _ _ hr e0 (Xh eE (.ref a)) (.cons rfl .nil) (SU H hO hS)) fun r s' h=>?_;cases r with
  | error e=>exact(hCX H e s' h).elim
  | ok fl =>
   cases fl with
   | next=>exact bD h
   | brk=>exact bD h
   | cont=>exact bD h
   | ret u =>
    obtain⟨v,H',os,bare,un,ZR,r',q⟩:=h;have q':v=.bl true:=q;subst q';obtain rfl:u=Value.bool true:=r';refine⟨rfl,OldK.of_keep fun b o e=>?_,os,bare⟩;cases q:H b with
    | none=>exact un.keep b o e q (by intro z; exact absurd (show b∈([]:List Addr) from z) (by simp)) (by simp)
    | some u =>
     rcases hO b with z | ⟨ob,xs,z⟩
     ·rw [q] at z; cases z
     ·have z2:=un.yP b ob _ z;obtain⟨e1,_⟩:=cp b _ z;obtain⟨e2,_⟩:=ZR b _ z2;rw [e] at e1; cases e1;exact e2
 cases hk:K.lookup a with
 | some o =>
  have e:=KX a o hk;rw [ha] at e;cases e;refine core (fun _=>none) (fun _=>.inl rfl) (.inr ⟨_,vs.toArray,_,hk,rfl,rfl,rfl,by rw [aR,Zs]; exact hl,by simpa using rv⟩) (fun b u z=>by have z':(none:Option HO)=some u:=z; cases z') (fun b z=>absurd rfl z) fun z=>absurd rfl z
 | none =>
  refine core (fun b=>if b=a then some (.jZ { cls:=.type "list",data:=.seq vs.toArray } (.lst (ns.map V.int))) else none) (fun b=>?_) (.inl (.inr ⟨{ cls:=.type "list",data:=.seq vs.toArray },if_pos rfl⟩)) (fun b u z=>?_) (fun b z=>?_) fun _=>hk
  ·by_cases hb:b=a
   ·exact .inr ⟨_,_,if_pos hb⟩
   ·exact .inl (if_neg hb)
  ·by_cases hb:b=a
   ·have z':=(if_pos hb).symm.trans z;cases z';subst hb;exact⟨ha,by rw [aE]; exact hl,vs,_,rv,ha⟩
   ·have z':=(if_neg hb).symm.trans z;cases z'
  ·by_cases hb:b=a
   ·exact hb
   ·exact absurd (if_neg hb) z
theorem QH{l:BI}{n k:Nat}{q:bz}{loose:List Str}{XP:(Str->Option Value)->Heap->Prop}{YP:World->Heap->Prop}{d:DefRec}{K:Params->ai}{CX:World->Mq}{sp:World->Sp}{x:Str}
  (hn:l.most=some n) (hn2:n<=aY) (Xe:d.params.defaults=[]) (hr:lx k Gb)
  (hY:∀ (w:World) (h:Heap),YP w h->(K w.params).In h)
  (F:∀ (w:World) (mg:Str->Option Value) (fa:Addr) (h:Heap),(K w.params).In h->h.Ns bL mg->mg d.name=some (.ref fa) ->
   ∃ fd:gG,(∀ (s:av) (u:Value),BindsTo s fd ⟨[u],[]⟩ [(x,u)]) /\
    ∀ base:Heap,(K w.params).In base->base.Ns bL mg->xc l.prog w (K w.params) mg base (CX w) k fa fd [x] (sp w))
  (SU:∀ (w:World) (H:Hp) (a:Addr) (ns:List Int),ns.length<=n->Sa H->oK (K w.params) H a (ns.map V.int)->sp w [.ref a] H (fun v _=>v=.bl true) fun _ _ _=>False)
  (hCX:∀ (w:World) (H:Hp) (s:av) (e:Value) (s':av),CX w [] H s (fun _ _ _=>False) e s'->False) :
  PySem.W.WalkO q loose XP YP l.row.toRowW d [] (fun f vs=>IM f vs):=by
 refine Att.Fm hn Xe fun w mN eE mg mb fa o pm cd doc a vs ns G Y ho hd Ka W5 UW hints hlen hg=>?_;have KX:=hY w _ Y;obtain⟨fd,hb,hF⟩:=F w mg fa _ KX G.T.g W5;exact Ov KX G.T.g G.T.b G.T.builtins G.T.nolimit hg UW hints (bc hlen hn2) hr hF hb (fun H hO hS=>SU w H a ns hlen hO hS) fun H e s'=>hCX w H eE e s'
end L2
/- THE ae6 Yw (shape; LID,My.* are aaR):
   My.Adr: a structure of YI addresses acw aco abm names (classes,VQ); My.Txt K t: a structure (Prop) of YI equations over K;
   My.YH:{K} {implicit addresses ..} (e1:nsIn K bL "law" = some (some (.ref f))) (e2:K.lookup f=some ⟨oc,od,.func (fnOf "law" "law" params body scope dV kV doc pm an lH ct),sl⟩) (e3:codeIn K lH "law" = true) ..:∃ t,My.Txt K t
(YI tactic k_is has no namespace: write k_is) -/
namespace L2
open PySem PySem.Spec PyProof.Rows
noncomputable def kj(s:Stmt):Arguments:=match s with
 | .FunctionDef _ a _ _ _ _ _ _ _ _=>a
 | _=>{ posonlyargs:=[],args:=[],vararg:=none,kwonlyargs:=[],kw_defaults:=[],kwarg:=none,defaults:=[] }
noncomputable def hV(s:Stmt):List Stmt:=match s with
 | .FunctionDef _ _ b _ _ _ _ _ _ _=>b
 | _=>[]
noncomputable def cu(s:Stmt):Scope:=match s with
 | .FunctionDef _ _ _ _ _ _ sc _ _ _=>sc
 | _=>{ kind:=.function,names:=[],isGenerator:=false,isCoroutine:=false }
noncomputable abbrev KN:Mq:=fun _ _ _ _ _ _=>False
noncomputable abbrev E0:XK:=fun _ _ _=>False
theorem Wq{X:Cx}:Passes KN X E0:=fun _ _ _ _ _ _ _ h=>h.elim
structure Sb(K:ai)(x qual:Str)(st:Stmt)(f:Addr)(fd:gG):Prop where
 ex:∃ (oc:Value) (od:Option Addr) (kV doc pm:Value) (an:Option Addr) (lH ct:Value) (Lr:Array (Option Value)),
  fd=jT x qual (kj st) (hV st) (cu st) .none kV doc pm an lH ct/\K.lookup f=some ⟨oc,od,.func fd,Lr⟩/\DJ K lH qual=true
 kp:DI K (.ref f)=true
section
variable {P:bz} {w:World} {K:ai} {mg:Str->Option Value} {base:Heap}
theorem Sb.ok{x qual:Str}{st:Stmt}{f:Addr}{fd:gG}{N ps:List Str}{k:Nat}{sp:Sp}(F:Sb K x qual st f fd)(S:nq N ps (cu st))(len:∀ vs H Q E,sp vs H Q E->vs.length=ps.length)
  (OZ:∀ (lH:Value) (A:cL) (outer:List Env) (s:av) (H:Hp) (vs:List V) (Q:VK) (E:XK),lx k (A.deeper (Av qual (cu st) s.heap.objs.size f lH))->sp vs H Q E ->
   ∃ t,VY (C4 KN P w K mg base N qual (cu st) f lH A outer s H E).Uu (hV st) t/\t { nx:=fun _ H'=>Q .eg H',rt:=Q } (start N vs) H):xc P w K mg base KN (k+1) f fd ps sp:=by
 obtain⟨oc,od,kV,doc,pm,an,lH,ct,Lr,rfl,lk,Ka⟩:=F.ex;refine Xo lk Ka S len fun A outer s H vs Q E hr SU=>?_;obtain⟨t,h,q⟩:=OZ lH A outer s H vs Q E hr SU;exact⟨t,h.Uu,q⟩
theorem Sb.binds{x qual:Str}{st:Stmt}{f:Addr}{fd:gG}{ps:List Str}(F:Sb K x qual st f fd)
  (h:∀ (kV doc pm:Value) (an:Option Addr) (lH ct:Value) (us:List Value),us.length=ps.length->bindArgs (jT x qual (kj st) (hV st) (cu st) .none kV doc pm an lH ct) ⟨us,[]⟩=pure (ps.zip us)):Binds K fd ps []:=by
 obtain⟨oc,od,kV,doc,pm,an,lH,ct,Lr,rfl,lk,Ka⟩:=F.ex;exact .all (h kV doc pm an lH ct)
theorem U7{x qual:Str}{st:Stmt}{f:Addr}{oc:Value}{od an:Option Addr}{Lr:Array (Option Value)}{kV doc pm lH ct:Value}(l:K.lookup f=some ⟨oc,od,.func (jT x qual (kj st) (hV st) (cu st) .none kV doc pm an lH ct),Lr⟩)
  (c:DJ K lH qual=true) (k:DI K (.ref f)=true):Sb K x qual st f (jT x qual (kj st) (hV st) (cu st) .none kV doc pm an lH ct):=⟨⟨oc,od,kV,doc,pm,an,lH,ct,Lr,rfl,l,c⟩,k⟩
end
end L2
set_option autoImplicit false
section
namespace K2
open PySem (Str)
noncomputable abbrev PK:=List (List (List Int))
inductive D where
 | eg | bl (b:Bool) | int (i:Int) | str (x:Str) | tup (ds:List D) | dJ (ds:List D) | gN (kvs:List (D×D)) | ref (a:Nat) | exc (c:Str) | E1 (c:Str) (ns:List Str) (ds:List D) | nY (kvs:List (PK×D))
 deriving Inhabited
inductive GO where
 | lst (ds:List D)
 | eV (kvs:List (D×D))
 | ins (c:Str) (fs:List (Str×D))
 | qT (kvs:List (PK×D))
noncomputable abbrev Gp:=Nat->Option GO
noncomputable def cT(G:Gp)(a:Nat)(o:GO):Gp:=fun b=>if b=a then some o else G b
theorem aC{G:Gp}{a:Nat}{o:GO}:cT G a o a=some o:=by unfold cT; rw [if_pos rfl]
theorem ck{G:Gp}{a b:Nat}{o:GO}(h:b≠a):cT G a o b=G b:=by unfold cT; rw [if_neg h]
noncomputable abbrev SZ:Nat:=16777216
structure Ex where
 cls:Str
 aeo:List (Str×D)
noncomputable abbrev lr:=Ex->Gp->Prop
noncomputable abbrev hZ:=List (Option D)
noncomputable abbrev DK:=D->Gp->Prop
noncomputable abbrev fx:=lr->hZ->Gp->DK->Prop
noncomputable abbrev xb:=lr->hZ->Gp->(Bool->Gp->Prop)->Prop
noncomputable abbrev KH:=lr->hZ->Gp->(List D->Gp->Prop)->Prop
structure nu where
 nx:hZ->Gp->Prop
 rt:DK
 bk:hZ->Gp->Prop
 ct:hZ->Gp->Prop
noncomputable abbrev iP:=lr->nu->hZ->Gp->Prop
noncomputable abbrev nj:=List D->Gp->DK->lr->Prop
noncomputable abbrev zg:=D->D->Gp->DK->Prop
noncomputable def J2(n:Nat)(i:Int):Option Nat:=if 0<=i then (if i < n then some i.toNat else none) else if -(n:Int)<=i then some (i+n).toNat else none
noncomputable def qY{α:Type}(xs:List α)(i:Int):Option α:=(J2 xs.length i).bind fun j=>xs[j]?
noncomputable def jc(n d:Nat):Option Int->Nat
 | none=>d
 | some v=>if v < 0 then (v+(n:Int)).toNat else min v.toNat n
noncomputable def cut{α:Type}(xs:List α)(lo hi:Option Int):List α:=(xs.drop (jc xs.length 0 lo)).take (jc xs.length xs.length hi - jc xs.length 0 lo)
mutual
noncomputable def ig:D->D->Bool
 | .eg,.eg=>true
 | .bl a,.bl b=>a == b
 | .bl a,.int b=>(if a then 1 else 0) == b
 | .int a,.bl b=>a == (if b then 1 else 0)
 | .int a,.int b=>a == b
 | .str a,.str b=>a == b
 | .tup a,.tup b=>kC a b
 | .dJ a,.dJ b=>kC a b
 | _,_=>false
noncomputable def kC:List D->List D->Bool
 | [],[]=>true
 | a :: r,b :: t=>ig a b&&kC r t
 | _,_=>false
end
mutual
noncomputable def nr:D->Bool
 | .ref _=>false
 | .exc _=>false
 | .E1 _ _ _=>false
 | .gN _=>false
 | .nY _=>false
 | .str x=>x.cps.all (· < 0x110000)
 | .tup ds=>pN ds
 | .dJ ds=>pN ds
 | _=>true
noncomputable def pN:List D->Bool
 | []=>true
 | d :: r=>nr d&&pN r
end
class inductive Sn (G:Gp):Nat->D->D->Prop
 | eg {n:Nat}:Sn G n .eg .eg
 | bl {n:Nat} (b:Bool):Sn G n (.bl b) (.bl b)
 | int {n:Nat} (i:Int):Sn G n (.int i) (.int i)
 | str {n:Nat} (x:Str) (h:x.cps.all (· < 0x110000)=true):Sn G n (.str x) (.str x)
 | GC {n:Nat}:Sn G (n+1) (.tup []) (.tup [])
 | qy {n:Nat} {d s:D} {ds ss:List D}:Sn G n d s->Sn G (n+1) (.tup ds) (.tup ss)->Sn G (n+1) (.tup (d :: ds)) (.tup (s :: ss))
 | Nw {n:Nat}:Sn G (n+1) (.dJ []) (.dJ [])
 | D4 {n:Nat} {d s:D} {ds ss:List D}:Sn G n d s->Sn G (n+1) (.dJ ds) (.dJ ss)->Sn G (n+1) (.dJ (d :: ds)) (.dJ (s :: ss))
 | ref {n:Nat} {a:Nat} {ds ss:List D}:G a=some (.lst ds)->Sn G n (.dJ ds) (.dJ ss)->Sn G n (.ref a) (.dJ ss)
noncomputable abbrev SN:Nat:=8
theorem Sn.nr{G:Gp}{n:Nat}{d t:D}(h:Sn G n d t):K2.nr t=true:=by
 induction h with
 | eg=>rfl
 | bl b=>rfl
 | int i=>rfl
 | str x h=>exact h
 | GC=>rfl
 | qy _ _ OP OO =>
  show (K2.nr _&&K2.pN _)=true;rw [OP];exact OO
 | Nw=>rfl
 | D4 _ _ OP OO =>
  show (K2.nr _&&K2.pN _)=true;rw [OP];exact OO
 | ref _ _ ih=>exact ih
noncomputable def pM(k:PK):D:=.tup (k.map fun r=>.tup (r.map fun t=>.tup (t.map D.int)))
noncomputable def dP:D->Bool
 | .int _=>true
 | .str _=>true
 | _=>false
noncomputable def FJ:D->Gp->Option Bool
 | .eg,_=>some false
 | .bl b,_=>some b
 | .int i,_=>some (i != 0)
 | .str x,_=>if x.length<=SZ then some ((x.length:Int) != 0) else none
 | .tup ds,_=>some (!ds.isEmpty)
 | .dJ ds,_=>some (!ds.isEmpty)
 | .exc _,_=>none
 | .E1 _ _ _,_=>none
 | .nY _,_=>none
 | .gN kvs,_=>if (kvs.all fun p=>dP p.1)=true then some (!kvs.isEmpty) else none
 | .ref a,G=>match G a with
  | some (.lst ds)=>some (!ds.isEmpty)
  | some (.eV kvs)=>if (kvs.all fun p=>dP p.1)=true then some (!kvs.isEmpty) else none
  | _=>none
noncomputable def ax(i:Nat):fx:=fun _ τ G Q=>match τ[i]? with
 | some (some d)=>Q d G
 | _=>False
noncomputable def dC(d:D):fx:=fun _ _ G Q=>Q d G
noncomputable def aT:KH:=fun _ _ G Q=>Q [] G
noncomputable def ar(a:fx)(r:KH):KH:=fun E τ G Q=>a E τ G fun x G1=>r E τ G1 fun xs G2=>Q (x :: xs) G2
noncomputable def eP(t:KH):fx:=fun E τ G Q=>t E τ G fun ds G1=>ds.length<=SZ/\Q (.tup ds) G1
noncomputable def mr(t:KH):fx:=fun E τ G Q=>t E τ G fun ds G1=>ds.length<=SZ/\∀ p,G1 p=none->Q (.ref p) (cT G1 p (.lst ds))
noncomputable def bH(r:zg)(a b:fx):fx:=fun E τ G Q=>a E τ G fun x G1=>b E τ G1 fun y G2=>r x y G2 Q
noncomputable def E8(r:D->Gp->DK->Prop)(a:fx):fx:=fun E τ G Q=>a E τ G fun x G1=>r x G1 Q
noncomputable def gI(G:Gp)(o:GO)(Q:DK):Prop:=∀ p,G p=none->Q (.ref p) (cT G p o)
noncomputable def MulOk(i j:Int):Prop:=(-(2 ^ 64) < i/\i < 2 ^ 64)\/(-(2 ^ 64) < j/\j < 2 ^ 64)
noncomputable def qM:D->Gp->Option (List D)
 | .dJ ds,_=>some ds
 | .ref a,G=>match G a with
  | some (.lst ds)=>some ds
  | _=>none
 | _,_=>none
noncomputable def Ds(x y:D)(G:Gp)(Q:DK):Prop:=match qM x G,qM y G with
 | some xs,some ys=>xs.length+ys.length<=SZ/\gI G (.lst (xs++ys)) Q
 | _,_=>False
noncomputable def ku:zg
 | .int i,.int j,G,Q=>Q (.int (i+j)) G
 | .str a,.str b,G,Q=>a.length+b.length<=SZ/\Q (.str (a++b)) G
 | .tup a,.tup b,G,Q=>a≠[]/\a.length+b.length<=SZ/\Q (.tup (a++b)) G
 | x,y,G,Q=>Ds x y G Q
noncomputable def D6:zg
 | .int i,.int j,G,Q=>Q (.int (i - j)) G
 | _,_,_,_=>False
noncomputable def Lf:zg
 | .int i,.int j,G,Q=>MulOk i j/\Q (.int (i * j)) G
 | _,_,_,_=>False
noncomputable def GQ:zg
 | .int i,.int j,G,Q=>0 < j/\Q (.int (i % j)) G
 | _,_,_,_=>False
noncomputable def Jr:zg
 | .int i,.int j,G,Q=>0 < j/\j < 2 ^ 30/\Q (.int (i / j)) G
 | _,_,_,_=>False
noncomputable def zS:D->Gp->DK->Prop
 | .int i,G,Q=>Q (.int (-i)) G
 | _,_,_=>False
noncomputable def GS(neg:Bool):zg:=fun x y G Q=>∃ a b,Sn G SN x a/\Sn G SN y b/\Q (.bl (if neg then !ig a b else ig a b)) G
noncomputable def lexLt:List Int->List Int->Bool
 | [],[]=>false
 | [],_ :: _=>true
 | _ :: _,[]=>false
 | x :: xs,y :: ys=>if x=y then lexLt xs ys else decide (x < y)
noncomputable def T5:zg
 | .int i,.int j,G,Q=>Q (.bl (decide (i < j))) G
 | .tup a,.tup b,G,Q=>∃ xs ys,a=xs.map D.int/\b=ys.map D.int/\Q (.bl (lexLt xs ys)) G
 | _,_,_,_=>False
noncomputable def Sv:zg
 | .int i,.int j,G,Q=>Q (.bl (decide (i<=j))) G
 | _,_,_,_=>False
noncomputable def T7:zg
 | .int i,.int j,G,Q=>Q (.bl (decide (i > j))) G
 | _,_,_,_=>False
noncomputable def rGe:zg
 | .int i,.int j,G,Q=>Q (.bl (decide (i>=j))) G
 | _,_,_,_=>False
noncomputable def itemsOf:D->Gp->Option (List D)
 | .tup ds,_=>some ds
 | .dJ ds,_=>some ds
 | .ref a,G=>match G a with
  | some (.lst ds)=>some ds
  | _=>none
 | _,_=>none
noncomputable def kc:D->Bool
 | .tup ds=>ds.all dP
 | _=>false
noncomputable def g7(kvs:List (D×D))(k:D):Bool:=(dP k&&kvs.all fun p=>dP p.1)||(kc k&&kvs.all fun p=>kc p.1)
noncomputable def look(kvs:List (D×D))(k:D):Option D:=(kvs.find? fun p=>ig p.1 k).map (·.2)
noncomputable def put(kvs:List (D×D))(k v:D):List (D×D) :=
 if (kvs.any fun p=>ig p.1 k)=true then kvs.map (fun p=>if ig p.1 k=true then (p.1,v) else p) else kvs++[(k,v)]
noncomputable def Lg(neg:Bool):zg:=fun x y G Q=>match y with
 | .ref a=>(match G a with
  | some (.eV kvs)=>g7 kvs x=true/\Q (.bl (if neg then !(look kvs x).isSome else (look kvs x).isSome)) G
  | some (.lst ds)=>∃ s ss,Sn G SN x s/\Sn G SN (.dJ ds) (.dJ ss)/\Q (.bl (if neg then !ss.any (ig · s) else ss.any (ig · s))) G
  | _=>False)
 | .gN kvs=>kvs≠[]/\g7 kvs x=true/\Q (.bl (if neg then !(look kvs x).isSome else (look kvs x).isSome)) G
 | .tup ds=>∃ s ss,Sn G SN x s/\Sn G SN (.dJ ds) (.dJ ss)/\Q (.bl (if neg then !ss.any (ig · s) else ss.any (ig · s))) G
 | .dJ ds=>∃ s ss,Sn G SN x s/\Sn G SN (.dJ ds) (.dJ ss)/\Q (.bl (if neg then !ss.any (ig · s) else ss.any (ig · s))) G
 | _=>False
noncomputable def nF:zg
 | .tup ds,.int i,G,Q=>(match qY ds i with
  | some d=>Q d G
  | none=>False)
 | .dJ ds,.int i,G,Q=>(match qY ds i with
  | some d=>Q d G
  | none=>False)
 | .gN kvs,k,G,Q=>g7 kvs k=true/\(match look kvs k with
  | some d=>Q d G
  | none=>False)
 | .ref a,k,G,Q=>(match G a with
  | some (.lst ds)=>(match k with
   | .int i=>(match qY ds i with
    | some d=>Q d G
    | none=>False)
   | _=>False)
  | some (.eV kvs)=>g7 kvs k=true/\(match look kvs k with
   | some d=>Q d G
   | none=>False)
  | _=>False)
 | _,_,_,_=>False
noncomputable abbrev XO:=lr->hZ->Gp->(Option Int->Gp->Prop)->Prop
noncomputable def iO:XO:=fun _ _ G Q=>Q none G
noncomputable def sM(t:fx):XO:=fun E τ G Q=>t E τ G fun x G1=>match x with
 | .int i=>Q (some i) G1
 | _=>False
noncomputable def T4:D->Option Int->Option Int->Gp->DK->Prop
 | .tup ds,lo,hi,G,Q=>¬ (jc ds.length 0 lo=0/\jc ds.length ds.length hi=ds.length)/\Q (.tup (cut ds lo hi)) G
 | .dJ ds,lo,hi,G,Q=>gI G (.lst (cut ds lo hi)) Q
 | .ref a,lo,hi,G,Q=>(match G a with
  | some (.lst ds)=>gI G (.lst (cut ds lo hi)) Q
  | _=>False)
 | _,_,_,_,_=>False
noncomputable def Ii(a:fx)(lo hi:XO):fx:=fun E τ G Q=>a E τ G fun x G1=>lo E τ G1 fun l G2=>hi E τ G2 fun h G3=>T4 x l h G3 Q
noncomputable def jo(a:fx):xb:=fun E τ G Q=>a E τ G fun x G1=>match FJ x G1 with
 | some b=>Q b G1
 | none=>False
noncomputable def Vh(a b:xb):xb:=fun E τ G Q=>a E τ G fun c G1=>if c=true then b E τ G1 Q else Q false G1
noncomputable def VT(a b:xb):xb:=fun E τ G Q=>a E τ G fun c G1=>if c=true then Q true G1 else b E τ G1 Q
noncomputable def qW(a:xb):xb:=fun E τ G Q=>a E τ G fun c G1=>Q (!c) G1
noncomputable def Kr(a b:fx):fx:=fun E τ G Q=>a E τ G fun x G1=>match FJ x G1 with
 | some true=>b E τ G1 Q
 | some false=>Q x G1
 | none=>False
noncomputable def Xx(a b:fx):fx:=fun E τ G Q=>a E τ G fun x G1=>match FJ x G1 with
 | some true=>Q x G1
 | some false=>b E τ G1 Q
 | none=>False
noncomputable def Pw(a:fx):fx:=fun E τ G Q=>a E τ G fun x G1=>match FJ x G1 with
 | some c=>Q (.bl (!c)) G1
 | none=>False
noncomputable def Ta(c:xb)(a b:fx):fx:=fun E τ G Q=>c E τ G fun k G1=>if k=true then a E τ G1 Q else b E τ G1 Q
noncomputable def bP(sp:nj)(t:KH):fx:=fun E τ G Q=>t E τ G fun ds G1=>sp ds G1 Q fun _ _=>False
noncomputable def u5(r:List D->Gp->DK->Prop)(t:KH):fx:=fun E τ G Q=>t E τ G fun ds G1=>r ds G1 Q
noncomputable def xT(x:D)(G:Gp):Prop:=match x with
 | .ref a=>(match G a with
  | some (.lst _)=>True
  | _=>False)
 | .dJ _=>True
 | _=>False
noncomputable def Ql(x:D)(G:Gp):Prop:=match x with
 | .gN _=>True
 | .ref a=>(match G a with
  | some (.eV _)=>True
  | _=>False)
 | _=>False
noncomputable def tyS(x:D)(_:Gp):Prop:=match x with
 | .str _=>True
 | _=>False
noncomputable def qh(ty:D->Gp->Prop)(r:D->List D->Gp->DK->Prop)(o:fx)(t:KH):fx:=fun E τ G Q=>o E τ G fun x G1=>ty x G1/\t E τ G1 fun ds G2=>r x ds G2 Q
noncomputable def lenOf:D->Gp->Option Nat
 | .tup ds,_=>some ds.length
 | .dJ ds,_=>some ds.length
 | .str x,_=>if x.length<=SZ then some x.length else none
 | .gN kvs,_=>if (kvs.all fun p=>dP p.1)=true then some kvs.length else none
 | .ref a,G=>match G a with
  | some (.lst ds)=>some ds.length
  | some (.eV kvs)=>if (kvs.all fun p=>dP p.1)=true then some kvs.length else none
  | _=>none
 | _,_=>none
noncomputable def Df(ds:List D)(G:Gp)(Q:DK):Prop:=match ds with
 | [x]=>(match lenOf x G with
  | some n=>Q (.int (n:Int)) G
  | none=>False)
 | _=>False
noncomputable def zd(ds:List D)(G:Gp)(Q:DK):Prop:=match ds with
 | [x]=>(match itemsOf x G with
  | some xs=>gI G (.lst xs) Q
  | none=>False)
 | _=>False
noncomputable def UR(C:String):D->Gp->Option Bool
 | .eg,_=>some false
 | .bl _,_=>some (C == "bool" || C == "int")
 | .int _,_=>some (C == "int")
 | .str _,_=>some (C == "str")
 | .tup _,_=>some (C == "tuple")
 | .dJ _,_=>some (C == "list")
 | .gN _,_=>some (C == "dict")
 | .exc _,_=>none
 | .E1 _ _ _,_=>none
 | .nY _,_=>none
 | .ref a,G=>match G a with
  | some (.lst _)=>some (C == "list")
  | some (.eV _)=>some (C == "dict")
  | _=>none
noncomputable def Px(C:String)(a:fx):fx:=fun E τ G Q=>a E τ G fun x G1=>match UR C x G1 with
 | some b=>Q (.bl b) G1
 | none=>False
noncomputable def kh(x:D)(ds:List D)(G:Gp)(Q:DK):Prop:=match x,ds with
 | .ref a,[d]=>(match G a with
  | some (.lst xs)=>xs.length < SZ/\Q .eg (cT G a (.lst (xs++[d])))
  | _=>False)
 | _,_=>False
noncomputable def mZ(x:D)(ds:List D)(G:Gp)(Q:DK):Prop:=match x,ds with
 | .ref a,[y]=>(match G a,qM y G with
  | some (.lst xs),some ys=>xs.length+ys.length<=SZ/\Q .eg (cT G a (.lst (xs++ys)))
  | _,_=>False)
 | _,_=>False
noncomputable def Rt(x:D)(ds:List D)(G:Gp)(Q:DK):Prop:=match x,ds with
 | .ref a,[.int i,d]=>(match G a with
  | some (.lst xs)=>0<=i/\i<=xs.length/\xs.length < SZ/\Q .eg (cT G a (.lst (xs.take i.toNat++d :: xs.drop i.toNat)))
  | _=>False)
 | _,_=>False
noncomputable def Cs(x:D)(ds:List D)(G:Gp)(Q:DK):Prop:=match ds with
 | [d]=>xT x G/\∃ xs s ss,itemsOf x G=some xs/\Sn G SN d s/\Sn G SN (.dJ xs) (.dJ ss)/\(match ss.findIdx? (ig · s) with
  | some k=>Q (.int (k:Int)) G
  | none=>False)
 | _=>False
noncomputable def Ew(x:D)(ds:List D)(G:Gp)(Q:DK):Prop:=match x,ds with
 | .ref a,[k,d]=>(match G a with
  | some (.eV kvs)=>g7 kvs k=true/\dP k=true/\(match look kvs k with
   | some v=>Q v G
   | none=>kvs.length < SZ/\Q d (cT G a (.eV (put kvs k d))))
  | _=>False)
 | _,_=>False
noncomputable def eA:iP:=fun _ K τ G=>K.nx τ G
noncomputable def b7(a b:iP):iP:=fun E K τ G=>a E { K with nx:=b E K } τ G
noncomputable def eT(a:fx):iP:=fun E K τ G=>a E τ G fun _ G1=>K.nx τ G1
noncomputable def cR(a:fx):iP:=fun E K τ G=>a E τ G K.rt
noncomputable def Pu:iP:=fun _ K _ G=>K.rt .eg G
noncomputable def gU(c:xb)(a b:iP):iP:=fun E K τ G=>c E τ G fun k G1=>if k=true then a E K τ G1 else b E K τ G1
noncomputable def y0:iP:=fun _ _ _ _=>False
noncomputable abbrev zG:=lr->D->hZ->Gp->(hZ->Gp->Prop)->Prop
noncomputable abbrev Du:=lr->List D->hZ->Gp->(hZ->Gp->Prop)->Prop
noncomputable def aI(i:Nat):zG:=fun _ d τ G Q=>Q (τ.set i (some d)) G
noncomputable def gf:Du:=fun _ ds τ G Q=>match ds with
 | []=>Q τ G
 | _=>False
noncomputable def cq(t:zG)(r:Du):Du:=fun E ds τ G Q=>match ds with
 | d :: ds=>t E d τ G fun qg G1=>r E ds qg G1 Q
 | _=>False
noncomputable def gz(t:Du):zG:=fun E d τ G Q=>match d with
 | .tup ds=>t E ds τ G Q
 | _=>False
noncomputable def AG(o k d:D)(G:Gp)(Q:Gp->Prop):Prop:=match o with
 | .ref a=>(match G a with
  | some (.lst xs)=>(match k with
   | .int i=>(match J2 xs.length i with
    | some j=>Q (cT G a (.lst (xs.set j d)))
    | none=>False)
   | _=>False)
  | some (.eV kvs)=>g7 kvs k=true/\kvs.length < SZ/\Q (cT G a (.eV (put kvs k d)))
  | _=>False)
 | _=>False
noncomputable def lj(o k:fx):zG:=fun E d τ G Q=>o E τ G fun x G1=>k E τ G1 fun y G2=>AG x y d G2 fun G3=>Q τ G3
noncomputable def bJ(a:fx)(g:zG):iP:=fun E K τ G=>a E τ G fun x G1=>g E x τ G1 K.nx
noncomputable abbrev IC:=lr->hZ->Gp->(List D->(Gp->Prop)->Gp->Prop)->Prop
noncomputable def si(a:fx):IC:=fun E τ G R=>a E τ G fun x G1=>match x with
 | .tup ds=>R ds (fun _=>True) G1
 | .dJ ds=>R ds (fun _=>True) G1
 | .ref p=>(match G1 p with
  | some (.lst ds)=>R ds (fun G2=>G2 p=some (.lst ds)) G1
  | _=>False)
 | _=>False
noncomputable def fL(lo:Int)(n:Nat):List D:=(dR n).map fun (i:Nat)=>D.int (lo+(i:Int))
noncomputable def A5(a:fx):IC:=fun E τ G R=>a E τ G fun x G1=>match x with
 | .int n=>-(2 ^ 62)<=n/\n < 2 ^ 62/\R (fL 0 n.toNat) (fun _=>True) G1
 | _=>False
noncomputable def J4(a b:fx):IC:=fun E τ G R=>a E τ G fun x G1=>b E τ G1 fun y G2=>match x,y with
 | .int i,.int j=>(-(2 ^ 62)<=i/\i < 2 ^ 62/\-(2 ^ 62)<=j/\j < 2 ^ 62)/\R (fL i (j - i).toNat) (fun _=>True) G2
 | _,_=>False
noncomputable def oz(g:zG)(body:iP)(ok:Gp->Prop):List D->iP
 | []=>fun _ K τ G=>ok G/\K.nx τ G
 | d :: r=>fun E K τ G=>ok G/\g E d τ G fun qg G1=>body E { K with nx:=oz g body ok r E K,ct:=oz g body ok r E K,bk:=K.nx } qg G1
noncomputable def eB(i:IC)(g:zG)(body:iP):iP:=fun E K τ G=>i E τ G fun ds ok G1=>oz g body ok ds E K τ G1
noncomputable def Gu(c:xb)(body:iP):Nat->iP
 | 0=>fun _ _ _ _=>False
 | n+1=>fun E K τ G=>c E τ G fun k G1=>if k=true then body E { K with nx:=Gu c body n E K,ct:=Gu c body n E K,bk:=K.nx } τ G1 else K.nx τ G1
noncomputable def Pt(c:xb)(body:iP):iP:=fun E K τ G=>∃ n,Gu c body n E K τ G
noncomputable def i5(g:zG)(c:Option xb)(e:fx)(ok:Gp->Prop):List D->lr->hZ->Gp->List D->(List D->Gp->Prop)->Prop
 | [],_,_,G,acc,Q=>ok G/\Q acc G
 | d :: r,E,τ,G,acc,Q=>ok G/\g E d τ G fun qg G1=>match c with
  | none=>e E qg G1 fun x G2=>i5 g c e ok r E qg G2 (acc++[x]) Q
  | some c=>c E qg G1 fun k G2=>if k=true then e E qg G2 fun x G3=>i5 g (some c) e ok r E qg G3 (acc++[x]) Q else i5 g (some c) e ok r E qg G2 acc Q
noncomputable def y7(m:Nat)(fr:List Nat)(τ:hZ):hZ:=bo m none++fr.map fun i=>(τ[i]?).getD none
noncomputable def jz(m:Nat)(fr:List Nat)(i:IC)(g:zG)(c:Option xb)(e:fx):fx:=fun E τ G Q =>
 i E τ G fun ds ok G1=>ds.length<=SZ/\i5 g c e ok ds (fun _ _=>False) (y7 m fr τ) G1 [] fun xs G2=>gI G2 (.lst xs) Q
noncomputable abbrev tI(ns:List Int):D:=.tup (ns.map D.int)
noncomputable def Zo:List Int->Option Int
 | []=>none
 | a :: r=>some (r.foldl (fun m x=>if x < m then x else m) a)
noncomputable def Zn:List (List Int)->Option (List Int)
 | []=>none
 | a :: r=>some (r.foldl (fun m x=>if lexLt x m=true then x else m) a)
noncomputable def PQ(ds:List D)(G:Gp)(Q:DK):Prop:=match ds with
 | [x]=>(∃ ns m,itemsOf x G=some (ns.map D.int)/\Zo ns=some m/\Q (.int m) G)\/∃ X8 m,itemsOf x G=some (X8.map tI)/\Zn X8=some m/\Q (tI m) G
 | _=>False
noncomputable def jq:fx:=fun _ _ G Q=>gI G (.eV []) Q
noncomputable def fJ(G G':Gp):Prop:=∀ a o,G a=some o->G' a=some o
theorem fJ.refl(G:Gp):fJ G G:=fun _ _ h=>h
theorem fJ.trans{G G1 G2:Gp}(a:fJ G G1)(b:fJ G1 G2):fJ G G2:=fun c o h=>b c o (a c o h)
theorem fJ.new{G:Gp}{p:Nat}{o:GO}(h:G p=none):fJ G (cT G p o):=fun a ob e=>by
 by_cases ha:a=p
 ·subst ha; rw [h] at e; cases e
 ·rw [ck ha]; exact e
theorem fJ.free{G G':Gp}{p:Nat}(l:fJ G G')(h:G' p=none):G p=none:=by
 cases q:G p with
 | none=>rfl
 | some o=>rw [l p o q] at h; cases h
theorem fJ.put{G G':Gp}{p:Nat}{o:GO}(l:fJ G G')(h:G p=none):fJ G (cT G' p o):=fun a ob e=>by
 by_cases ha:a=p
 ·subst ha; rw [h] at e; cases e
 ·rw [ck ha]; exact l a ob e
noncomputable def ends(Q:DK):nu:=⟨fun _ G=>Q .eg G,Q,fun _ _=>False,fun _ _=>False⟩
noncomputable def bA(n:Nat)(ds:List D):hZ:=ds.map some++bo (n - ds.length) none
noncomputable def Qq(x:D)(G1:Gp)(R:List D->(Gp->Prop)->Gp->Prop):Prop:=match x with
 | .tup ds=>R ds (fun _=>True) G1
 | .dJ ds=>R ds (fun _=>True) G1
 | .ref p=>(match G1 p with
  | some (.lst ds)=>R ds (fun G2=>G2 p=some (.lst ds)) G1
  | _=>False)
 | _=>False
noncomputable def GY(x:D)(G1:Gp)(Q:Option Int->Gp->Prop):Prop:=match x with
 | .int i=>Q (some i) G1
 | _=>False
noncomputable def qx(x:D)(G1:Gp)(Q:Bool->Gp->Prop):Prop:=match FJ x G1 with
 | some b=>Q b G1
 | none=>False
noncomputable def Sq(x:D)(G1:Gp)(R:List D->(Gp->Prop)->Gp->Prop):Prop:=match x with
 | .int n=>-(2 ^ 62)<=n/\n < 2 ^ 62/\R (fL 0 n.toNat) (fun _=>True) G1
 | _=>False
noncomputable def isAt(C:String)(x:D)(G1:Gp)(Q:DK):Prop:=match UR C x G1 with
 | some b=>Q (.bl b) G1
 | none=>False
theorem ff{i j:Int}{G:Gp}{Q:DK}:ku (.int i) (.int j) G Q=Q (.int (i+j)) G:=rfl
theorem uq{a b:List D}{G:Gp}{Q:DK}:ku (.tup a) (.tup b) G Q=(a≠[]/\a.length+b.length<=SZ/\Q (.tup (a++b)) G):=rfl
theorem nZ{i j:Int}{G:Gp}{Q:DK}:D6 (.int i) (.int j) G Q=Q (.int (i - j)) G:=rfl
theorem uo{i j:Int}{G:Gp}{Q:DK}:Lf (.int i) (.int j) G Q=(MulOk i j/\Q (.int (i * j)) G):=rfl
theorem qF{i j:Int}{G:Gp}{Q:DK}:GQ (.int i) (.int j) G Q=(0 < j/\Q (.int (i % j)) G):=rfl
theorem rE{i j:Int}{G:Gp}{Q:DK}:Jr (.int i) (.int j) G Q=(0 < j/\j < 2 ^ 30/\Q (.int (i / j)) G):=rfl
theorem kr{i:Int}{G:Gp}{Q:DK}:zS (.int i) G Q=Q (.int (-i)) G:=rfl
theorem rB{i j:Int}{G:Gp}{Q:DK}:T5 (.int i) (.int j) G Q=Q (.bl (decide (i < j))) G:=rfl
theorem rC{i j:Int}{G:Gp}{Q:DK}:Sv (.int i) (.int j) G Q=Q (.bl (decide (i<=j))) G:=rfl
theorem rD{i j:Int}{G:Gp}{Q:DK}:T7 (.int i) (.int j) G Q=Q (.bl (decide (i > j))) G:=rfl
theorem B5{i j:Int}{G:Gp}{Q:DK}:rGe (.int i) (.int j) G Q=Q (.bl (decide (i>=j))) G:=rfl
theorem Jp{ds:List D}{i:Int}{d:D}{G:Gp}{Q:DK}(h:qY ds i=some d):nF (.tup ds) (.int i) G Q=Q d G:=by unfold nF; simp only [h]
theorem B3{ds:List D}{i:Int}{d:D}{G:Gp}{Q:DK}(h:qY ds i=some d):nF (.dJ ds) (.int i) G Q=Q d G:=by unfold nF; simp only [h]
theorem QS{a:Nat}{ds:List D}{i:Int}{d:D}{G:Gp}{Q:DK}(h1:G a=some (.lst ds))(h:qY ds i=some d):nF (.ref a) (.int i) G Q=Q d G:=by unfold nF; simp only [h1,h]
theorem xi{ds:List D}{lo hi:Option Int}{G:Gp}{Q:DK}:T4 (.tup ds) lo hi G Q=(¬ (jc ds.length 0 lo=0/\jc ds.length ds.length hi=ds.length)/\Q (.tup (cut ds lo hi)) G):=rfl
theorem um{ds:List D}{lo hi:Option Int}{G:Gp}{Q:DK}:T4 (.dJ ds) lo hi G Q=gI G (.lst (cut ds lo hi)) Q:=rfl
theorem QQ{a:Nat}{ds:List D}{lo hi:Option Int}{G:Gp}{Q:DK}(h:G a=some (.lst ds)):T4 (.ref a) lo hi G Q=gI G (.lst (cut ds lo hi)) Q:=by unfold T4; simp only [h]
theorem qX{ds:List D}{G:Gp}{Q:DK}:Df [.dJ ds] G Q=Q (.int (ds.length:Int)) G:=rfl
theorem ze{ds:List D}{G:Gp}{Q:DK}:Df [.tup ds] G Q=Q (.int (ds.length:Int)) G:=rfl
theorem PS{a:Nat}{ds:List D}{G:Gp}{Q:DK}(h:G a=some (.lst ds)):Df [.ref a] G Q=Q (.int (ds.length:Int)) G:=by unfold Df lenOf; simp only [h]
theorem gR{a:fx}{E:lr}{τ:hZ}{G:Gp}{R:List D->(Gp->Prop)->Gp->Prop}:si a E τ G R=a E τ G fun x G1=>Qq x G1 R:=by
 unfold si Qq; rfl
theorem xp{ds:List D}{G:Gp}{R:List D->(Gp->Prop)->Gp->Prop}:Qq (.dJ ds) G R=R ds (fun _=>True) G:=rfl
theorem xn{ds:List D}{G:Gp}{R:List D->(Gp->Prop)->Gp->Prop}:Qq (.tup ds) G R=R ds (fun _=>True) G:=rfl
theorem xq{a:Nat}{ds:List D}{G:Gp}{R:List D->(Gp->Prop)->Gp->Prop}(h:G a=some (.lst ds)):Qq (.ref a) G R=R ds (fun G2=>G2 a=some (.lst ds)) G:=by unfold Qq; simp only [h]
theorem mj{t:fx}{E:lr}{τ:hZ}{G:Gp}{Q:Option Int->Gp->Prop}:sM t E τ G Q=t E τ G fun x G1=>GY x G1 Q:=rfl
theorem ka{i:Int}{G:Gp}{Q:Option Int->Gp->Prop}:GY (.int i) G Q=Q (some i) G:=rfl
theorem dE{a:fx}{E:lr}{τ:hZ}{G:Gp}{Q:Bool->Gp->Prop}:jo a E τ G Q=a E τ G fun x G1=>qx x G1 Q:=rfl
theorem cP{b:Bool}{G:Gp}{Q:Bool->Gp->Prop}:qx (.bl b) G Q=Q b G:=rfl
theorem mf{a:fx}{E:lr}{τ:hZ}{G:Gp}{R:List D->(Gp->Prop)->Gp->Prop}:A5 a E τ G R=a E τ G fun x G1=>Sq x G1 R:=rfl
theorem j8{n:Int}{G:Gp}{R:List D->(Gp->Prop)->Gp->Prop}:Sq (.int n) G R=(-(2 ^ 62)<=n/\n < 2 ^ 62/\R (fL 0 n.toNat) (fun _=>True) G):=rfl
theorem u0{C:String}{a:fx}{E:lr}{τ:hZ}{G:Gp}{Q:DK}:Px C a E τ G Q=a E τ G fun x G1=>isAt C x G1 Q:=rfl
theorem uO {C:String} {i:Int} {G:Gp} {Q:DK}:isAt C (.int i) G Q=Q (.bl (C == "int")) G:=rfl
theorem yJ {C:String} {ds:List D} {G:Gp} {Q:DK}:isAt C (.tup ds) G Q=Q (.bl (C == "tuple")) G:=rfl
theorem u6{a b:fx}{E:lr}{τ:hZ}{G:Gp}{Q:DK}:Kr a b E τ G Q=a E τ G fun x G1=>qx x G1 fun k G2=>if k=true then b E τ G2 Q else Q x G2:=by
 unfold Kr qx;refine congrArg (a E τ G) ?_;funext x G1;cases FJ x G1 with
 | none=>rfl
 | some k=>cases k <;> simp
theorem C3{a b:fx}{E:lr}{τ:hZ}{G:Gp}{Q:DK}:Xx a b E τ G Q=a E τ G fun x G1=>qx x G1 fun k G2=>if k=true then Q x G2 else b E τ G2 Q:=by
 unfold Xx qx;refine congrArg (a E τ G) ?_;funext x G1;cases FJ x G1 with
 | none=>rfl
 | some k=>cases k <;> simp
theorem uY{a:fx}{E:lr}{τ:hZ}{G:Gp}{Q:DK}:Pw a E τ G Q=a E τ G fun x G1=>qx x G1 fun k G2=>Q (.bl (!k)) G2:=rfl
theorem qH{a:Nat}{y:D}{G:Gp}{Q:DK}:ku (.ref a) y G Q=Ds (.ref a) y G Q:=by cases y <;> rfl
theorem qG{a:List D}{y:D}{G:Gp}{Q:DK}:ku (.dJ a) y G Q=Ds (.dJ a) y G Q:=by cases y <;> rfl
theorem xj{a:Nat}{lo hi:Option Int}{G:Gp}{Q:DK}:T4 (.ref a) lo hi G Q=(match G a with
  | some (.lst ds)=>gI G (.lst (cut ds lo hi)) Q
  | _=>False):=rfl
theorem QR{a:Nat}{k:D}{G:Gp}{Q:DK}:nF (.ref a) k G Q=(match G a with
  | some (.lst ds)=>(match k with
   | .int i=>(match qY ds i with
    | some d=>Q d G
    | none=>False)
   | _=>False)
  | some (.eV kvs)=>g7 kvs k=true/\(match look kvs k with
   | some d=>Q d G
   | none=>False)
  | _=>False):=by unfold nF; cases k <;> rfl
theorem jK{ds:List D}{i:Int}{G:Gp}{Q:DK}:nF (.tup ds) (.int i) G Q=(match qY ds i with
  | some d=>Q d G
  | none=>False):=rfl
theorem oe{ds:List D}{i:Int}{G:Gp}{Q:DK}:nF (.dJ ds) (.int i) G Q=(match qY ds i with
  | some d=>Q d G
  | none=>False):=rfl
theorem v9{a:Nat}{G:Gp}{Q:DK}:zd [.ref a] G Q=(match G a with
  | some (.lst ds)=>gI G (.lst ds) Q
  | _=>False):=by
 unfold zd itemsOf;cases h:G a with
 | none=>simp only [h]
 | some g=>cases g <;> simp only [h]
theorem iD{a:Nat}{d:D}{G:Gp}{Q:DK}:kh (.ref a) [d] G Q=(match G a with
  | some (.lst xs)=>xs.length < SZ/\Q .eg (cT G a (.lst (xs++[d])))
  | _=>False):=rfl
theorem jy{a:Nat}{y:D}{G:Gp}{Q:DK}:mZ (.ref a) [y] G Q=(match G a,qM y G with
  | some (.lst xs),some ys=>xs.length+ys.length<=SZ/\Q .eg (cT G a (.lst (xs++ys)))
  | _,_=>False):=rfl
theorem qL{a:Nat}{i:Int}{d:D}{G:Gp}{Q:DK}:Rt (.ref a) [.int i,d] G Q=(match G a with
  | some (.lst xs)=>0<=i/\i<=xs.length/\xs.length < SZ/\Q .eg (cT G a (.lst (xs.take i.toNat++d :: xs.drop i.toNat)))
  | _=>False):=rfl
theorem kQ{a:Nat}{k d:D}{G:Gp}{Q:DK}:Ew (.ref a) [k,d] G Q=(match G a with
  | some (.eV kvs)=>g7 kvs k=true/\dP k=true/\(match look kvs k with
   | some v=>Q v G
   | none=>kvs.length < SZ/\Q d (cT G a (.eV (put kvs k d))))
  | _=>False):=rfl
theorem CC {C:String} {b:Bool} {G:Gp} {Q:DK}:isAt C (.bl b) G Q=Q (.bl (C == "bool" || C == "int")) G:=rfl
theorem mT{a:Nat}{G:Gp}:xT (.ref a) G=(match G a with
  | some (.lst _)=>True
  | _=>False):=rfl
theorem oP{a:Nat}{G:Gp}:Ql (.ref a) G=(match G a with
  | some (.eV _)=>True
  | _=>False):=rfl
theorem BS{ds:List D}{G:Gp}:xT (.dJ ds) G=True:=rfl
theorem B4{kvs:List (D×D)}{k:D}{G:Gp}{Q:DK}:nF (.gN kvs) k G Q=(g7 kvs k=true/\(match look kvs k with
  | some d=>Q d G
  | none=>False)):=by unfold nF; cases k <;> rfl
theorem OM {C:String} {kvs:List (D×D)} {G:Gp} {Q:DK}:isAt C (.gN kvs) G Q=Q (.bl (C == "dict")) G:=rfl
theorem BR{x:Str}{G:Gp}:tyS (.str x) G=True:=rfl
noncomputable def Aa(R:Nat->Bool)(G:Gp):Gp:=fun a=>if R a=true then none else G a
mutual
inductive Fz (G:Gp) (R:Nat->Bool):D->D->Prop
 | same (d:D):Fz G R d d
 | tup {ds ss:List D}:FD G R ds ss->Fz G R (.tup ds) (.tup ss)
 | dJ {ds ss:List D}:FD G R ds ss->Fz G R (.dJ ds) (.dJ ss)
 | ref {a:Nat} {ds ss:List D}:G a=some (.lst ds)->R a=true->FD G R ds ss->Fz G R (.ref a) (.dJ ss)
 | eV {a:Nat} {kvs SO:List (D×D)}:G a=some (.eV kvs)->R a=true->wj G R kvs SO->Fz G R (.ref a) (.gN SO)
 | qT {a:Nat} {kvs SO:List (PK×D)}:G a=some (.qT kvs)->R a=true->FD G R (kvs.map fun p=>p.2) (SO.map fun p=>p.2)->kvs.map (fun p=>p.1)=SO.map (fun p=>p.1)->Fz G R (.ref a) (.nY SO)
inductive FD (G:Gp) (R:Nat->Bool):List D->List D->Prop
 | nil:FD G R [] []
 | cons {d s:D} {ds ss:List D}:Fz G R d s->FD G R ds ss->FD G R (d :: ds) (s :: ss)
inductive wj (G:Gp) (R:Nat->Bool):List (D×D)->List (D×D)->Prop
 | nil:wj G R [] []
 | cons {k d s:D} {ds ss:List (D×D)}:Fz G R d s->wj G R ds ss->wj G R ((k,d) :: ds) ((k,s) :: ss)
end
theorem wj.same{G:Gp}{R:Nat->Bool}:∀ (kvs:List (D×D)),wj G R kvs kvs
 | []=>.nil
 | (k,v) :: r=>.cons (.same v) (wj.same r)
noncomputable def FV(G:Gp)(x:D)(Q:DK):Prop:=∃ (R:Nat->Bool) (t:D),Fz G R x t/\Q t (Aa R G)
noncomputable def d4(e:fx):fx:=fun E τ G Q=>e E τ G fun x G1=>FV G1 x Q
noncomputable def Ij(i:Nat)(t:iP):iP:=fun E K τ G=>t E { K with nx:=fun qg G1=>match qg[i]? with
 | some (some d)=>FV G1 d fun t G2=>K.nx (qg.set i (some t)) G2
 | _=>False } τ G
theorem FD.same{G:Gp}{R:Nat->Bool}:∀ (ds:List D),FD G R ds ds
 | []=>.nil
 | d :: ds=>.cons (.same d) (FD.same ds)
theorem qV{G G1:Gp}(l:fJ G G1):Aa (fun a=>(G a).isNone) G1=G:=by
 funext a;unfold Aa;cases h:G a with
 | none=>simp [h]
 | some o=>simp [l a o h,h]
theorem L9{G G1:Gp}{p:Nat}{o:GO}(l:fJ G G1)(hp:G p=none)(h1:G1 p=some o):Aa (fun a=>(G a).isNone&&decide (a≠p)) G1=cT G p o:=by
 funext a;unfold Aa cT;by_cases ha:a=p
 ·subst ha; simp [h1]
 ·cases h:G a with
  | none=>simp [ha,h]
  | some o=>simp [l a o h,ha,h]
theorem gB{G:Gp}{d:D}{Q:DK}(q:Q d G):FV G d Q:=⟨fun _=>false,d,.same d,by
 have e:Aa (fun _=>false) G=G:=by funext a; simp [Aa]
 rw [e]; exact q⟩
theorem CK{G G1:Gp}{d:D}{Q:DK}(l:fJ G G1)(q:Q d G):FV G1 d Q:=⟨_,d,.same d,by rw [qV l]; exact q⟩
theorem HK{G G1:Gp}{p:Nat}{o:GO}{Q:DK}(l:fJ G G1)(hp:G p=none)(h1:G1 p=some o)(q:Q (.ref p) (cT G p o)):FV G1 (.ref p) Q :=
 ⟨_,.ref p,.same _,by rw [L9 l hp h1]; exact q⟩
theorem CJ{G G1:Gp}{p:Nat}{ds ss:List D}{Q:DK}(l:fJ G G1)(hp:G p=none)(h1:G1 p=some (.lst ds))(hs:FD G1 (fun a=>(G a).isNone) ds ss)(q:Q (.dJ ss) G):FV G1 (.ref p) Q :=
 ⟨_,.dJ ss,.ref h1 (by simp [hp]) hs,by rw [qV l]; exact q⟩
theorem gS{G G1:Gp}{p:Nat}{kvs:List (D×D)}{Q:DK}(l:fJ G G1)(hp:G p=none)(h1:G1 p=some (.eV kvs))(q:Q (.gN kvs) G):FV G1 (.ref p) Q :=
 ⟨fun a=>(G a).isNone,.gN kvs,.eV h1 (by simp [hp]) (.same _),by rw [qV l]; exact q⟩
theorem O7{G G1:Gp}{d t:D}{Q:DK}(l:fJ G G1)(hs:Fz G1 (fun a=>(G a).isNone) d t)(q:Q t G):FV G1 d Q :=
 ⟨_,t,hs,by rw [qV l]; exact q⟩
noncomputable def AD:nj:=fun ds G Q _=>∃ ns:List Int,ds=[.dJ (ns.map D.int)]/\ns.length<=63/\(∀ a,G a=none)/\∀ G',Q (.bl true) G'
theorem eF{a b:iP}{E:lr}{K:nu}{τ:hZ}{G:Gp}(P:hZ->Gp->Prop)(h1:∀ N,(∀ τ G,P τ G->N τ G)->a E { K with nx:=N } τ G)(h2:∀ τ G,P τ G->b E K τ G):b7 a b E K τ G:=h1 (b E K) h2
theorem Np{a b:iP}{E:lr}{K:nu}{τ:hZ}{G:Gp}:b7 a b E K τ G=a E { K with nx:=b E K } τ G:=rfl
theorem cg{a:fx}{g:zG}{b:iP}{E:lr}{K:nu}{τ:hZ}{G:Gp}:b7 (bJ a g) b E K τ G=bJ a g E { K with nx:=b E K } τ G:=rfl
theorem kq{a:fx}{b:iP}{E:lr}{K:nu}{τ:hZ}{G:Gp}:b7 (eT a) b E K τ G=eT a E { K with nx:=b E K } τ G:=rfl
theorem CL{g:zG}{body:iP}{ok:Gp->Prop}{ds:List D}{E:lr}{K:nu}{τ:hZ}{G:Gp}(I:List D->hZ->Gp->Prop)
  (h0:I [] τ G) (cp:∀ pre τ G,I pre τ G->ok G)
  (step:∀ (pre:List D) (d:D) (post:List D) τ G (N:hZ->Gp->Prop),ds=pre++d :: post->I pre τ G->(∀ vG G2,I (pre++[d]) vG G2->N vG G2) ->
   g E d τ G fun qg G1=>body E { K with nx:=N,ct:=N,bk:=K.nx } qg G1)
  (fin:∀ τ G,I ds τ G->K.nx τ G):oz g body ok ds E K τ G:=by
 have main:∀ (post pre:List D) τ G,ds=pre++post->I pre τ G->oz g body ok post E K τ G:=by
  intro post;induction post with
  | nil =>
   intro pre τ G e h;rw [cH] at e;subst e;exact⟨cp _ _ _ h,fin _ _ h⟩
  | cons d post ih =>
   intro pre τ G e h;refine⟨cp _ _ _ h,?_⟩;exact step pre d post τ G _ e h fun vG G2 h2=>ih (pre++[d]) vG G2 (by rw [e,dq]; rfl) h2
 exact main ds [] τ G rfl h0
theorem RT{g:zG}{c:Option xb}{e:fx}{ok:Gp->Prop}{ds:List D}{E:lr}{τ:hZ}{G:Gp}{Q:List D->Gp->Prop}(I:List D->List D->hZ->Gp->Prop)
  (h0:I [] [] τ G) (cp:∀ pre acc τ G,I pre acc τ G->ok G)
  (step:∀ (pre:List D) (d:D) (post acc:List D) τ G (N:hZ->List D->Gp->Prop),ds=pre++d :: post->I pre acc τ G->(∀ vG wb G2,I (pre++[d]) wb vG G2->N vG wb G2) ->
   g E d τ G fun qg G1=>match c with
    | none=>e E qg G1 fun x G2=>N qg (acc++[x]) G2
    | some c=>c E qg G1 fun k G2=>if k=true then e E qg G2 fun x G3=>N qg (acc++[x]) G3 else N qg acc G2)
  (fin:∀ acc τ G,I ds acc τ G->Q acc G):i5 g c e ok ds E τ G [] Q:=by
 have main:∀ (post pre acc:List D) τ G,ds=pre++post->I pre acc τ G->i5 g c e ok post E τ G acc Q:=by
  intro post;induction post with
  | nil =>
   intro pre acc τ G e h;rw [cH] at e;subst e;exact⟨cp _ _ _ _ h,fin _ _ _ h⟩
  | cons d post ih =>
   intro pre acc τ G e' h;refine⟨cp _ _ _ _ h,?_⟩;have:=step pre d post acc τ G (fun vG wb G2=>i5 g c e ok post E vG G2 wb Q) e' h fun vG wb G2 h2=>ih (pre++[d]) wb vG G2 (by rw [e',dq]; rfl) h2;cases c with
   | none=>exact this
   | some c=>exact this
 exact main ds [] [] τ G rfl h0
theorem pg(a b:D)(r t:List D):kC (a :: r) (b :: t)=(ig a b&&kC r t):=rfl
theorem nM(a b:Int):ig (.int a) (.int b)=(a == b):=rfl
theorem HZ(a b:List D):ig (.tup a) (.tup b)=kC a b:=rfl
theorem E7{α:Type} [DecidableEq α](a b:α)(as bs:List α):(decide (a=b)&&decide (as=bs))=decide (a :: as=b :: bs):=by
 by_cases h:a=b <;> by_cases h2:as=bs <;> simp [h,h2]
set_option genInjectivity true in structure T2 where
 a:Int
 b:Int
 deriving DecidableEq
set_option genInjectivity true in structure T3 where
 a:Int
 b:Int
 c:Int
 deriving DecidableEq
class Enc (α:Type) [DecidableEq α] where
 enc:α->D
 dep:Nat
 eqv:∀ a b,ig (enc a) (enc b)=decide (a=b)
 sn:∀ (G:Gp) (n:Nat) (a:α),dep<=n->Sn G n (enc a) (enc a)
open Enc (enc)
noncomputable instance:Enc Int where
 enc:=D.int
 dep:=0
 eqv:=fun a b=>rfl
 sn:=fun G n a _=>.int a
noncomputable instance:Enc Bool where
 enc:=D.bl
 dep:=0
 eqv:=fun a b=>Qj a b
 sn:=fun G n a _=>.bl a
noncomputable instance:Enc T2 where
 enc:=fun t=>.tup [.int t.a,.int t.b]
 dep:=1
 eqv:=fun x y=>by
  cases x; cases y;rw [HZ,pg,pg,nM,nM]; simp only [T2.mk.injEq]; rename_i a b c d; by_cases h:a=c <;> by_cases h2:b=d <;> simp [h,h2,show kC [] []=true from rfl]
 sn:=fun G n t h=>by
  obtain⟨m,rfl⟩:∃ m,n=m+1:=⟨n - 1,by lia⟩;exact .qy (.int _) (.qy (.int _) .GC)
noncomputable instance:Enc T3 where
 enc:=fun t=>.tup [.int t.a,.int t.b,.int t.c]
 dep:=1
 eqv:=fun x y=>by
  cases x; cases y;rw [HZ,pg,pg,pg,nM,nM,nM]; simp only [T3.mk.injEq]; rename_i a b e c d f; by_cases h:a=c <;> by_cases h2:b=d <;> by_cases h3:e=f <;> simp [h,h2,h3,show kC [] []=true from rfl]
 sn:=fun G n t h=>by
  obtain⟨m,rfl⟩:∃ m,n=m+1:=⟨n - 1,by lia⟩;exact .qy (.int _) (.qy (.int _) (.qy (.int _) .GC))
noncomputable instance {α β:Type} [DecidableEq α] [DecidableEq β] [Enc α] [Enc β]:Enc (α×β) where
 enc:=fun t=>.tup [enc t.1,enc t.2]
 dep:=max (Enc.dep α) (Enc.dep β)+1
 eqv:=fun x y=>by
  cases x; cases y;rw [HZ,pg,pg,Enc.eqv,Enc.eqv]; simp only [Prod.mk.injEq]; rename_i a b c d; by_cases h:a=c <;> by_cases h2:b=d <;> simp [h,h2,show kC [] []=true from rfl]
 sn:=fun G n t h=>by
  obtain⟨m,rfl⟩:∃ m,n=m+1:=⟨n - 1,by lia⟩;exact .qy (Enc.sn _ _ _ (by lia)) (.qy (Enc.sn _ _ _ (by lia)) .GC)
theorem E3{α:Type} [DecidableEq α] [Enc α]:∀ (a b:List α),kC (a.map enc) (b.map enc)=decide (a=b)
 | [],[]=>(decide_eq_true rfl).symm
 | [],b :: bs=>(decide_eq_false (fun z=>nomatch z)).symm
 | a :: as,[]=>(decide_eq_false (fun z=>nomatch z)).symm
 | a :: as,b :: bs=>by
  show (ig (enc a) (enc b)&&kC (as.map enc) (bs.map enc))=_;rw [Enc.eqv,E3 as bs,E7]
theorem xY{α:Type} [DecidableEq α] [Enc α](G:Gp)(n:Nat)(h:Enc.dep α<=n):∀ (xs:List α),Sn G (n+1) (.dJ (xs.map enc)) (.dJ (xs.map enc))
 | []=>.Nw
 | a :: as=>.D4 (Enc.sn _ _ _ h) (xY G n h as)
noncomputable instance {α:Type} [DecidableEq α] [Enc α]:Enc (List α) where
 enc:=fun xs=>.dJ (xs.map enc)
 dep:=Enc.dep α+1
 eqv:=fun a b=>by
  show kC _ _=_;exact E3 a b
 sn:=fun G n t h=>by
  obtain⟨m,rfl⟩:∃ m,n=m+1:=⟨n - 1,by lia⟩;exact xY G m (by lia) t
section
variable {α:Type} [DecidableEq α] [Enc α]
theorem KC(L:List α)(t:α):(L.map enc).any (ig · (enc t))=decide (t∈L):=by
 induction L with
 | nil=>simp
 | cons a r ih =>
  simp only [aj,kL,Enc.eqv,ih,a9];by_cases h:a=t
  ·simp [h]
  ·have h':¬ t=a:=fun z=>h z.symm;by_cases h2:t∈r <;> simp [h,h',h2]
end
section
variable {κ α:Type} [DecidableEq κ] [Enc κ] [DecidableEq α] [Enc α]
noncomputable def aS(l:List (κ×α)):List (D×D):=l.map fun p=>(enc p.1,enc p.2)
noncomputable def cw(l:List (κ×α))(k:κ):Option α:=(l.find? fun p=>p.1=k).map (·.2)
noncomputable def d6(l:List (κ×α))(k:κ)(v:α):List (κ×α):=if (l.any fun p=>p.1=k)=true then l.map (fun p=>if p.1=k then (p.1,v) else p) else l++[(k,v)]
theorem yC(l:List (κ×α))(k:κ):look (aS l) (enc k)=(cw l k).map enc:=by
 unfold look cw aS;induction l with
 | nil=>rfl
 | cons p r ih =>
  rw [aj,dh,dh];simp only [Enc.eqv];by_cases h:p.1=k
  ·simp [h]
  ·simp only [h,decide_false]; exact ih
theorem Jt(l:List (κ×α))(k:κ)(v:α):put (aS l) (enc k) (enc v)=aS (d6 l k v):=by
 unfold put d6;have e:((aS l).any fun p=>ig p.1 (enc k))=l.any fun p=>decide (p.1=k):=by
  unfold aS; rw [List.any_map]; congr 1; funext p; exact Enc.eqv _ _
 rw [e];split
 ·unfold aS; rw [bC,bC];refine cQ fun p _=>?_;simp only [FF,Enc.eqv,decide_eq_true_eq];split <;> rfl
 ·unfold aS; rw [bq]; rfl
theorem rV(l:List (κ×α))(k j:κ)(v:α):cw (d6 l k v) j=if k=j then some v else cw l j:=by
 unfold d6;split
 ·rename_i h;unfold cw;induction l with
  | nil=>simp at h
  | cons p r ih =>
   rw [aj,dh,dh];by_cases h1:p.1=k
   ·rw [if_pos h1];by_cases h2:k=j
    ·simp [h1,h2]
    ·have:¬ p.1=j:=fun z=>h2 (h1.symm.trans z);simp only [this,decide_false,h2,if_false];by_cases h3:(r.any fun p=>decide (p.1=k))=true
     ·have:=ih h3;rw [if_neg h2] at this;exact this
     ·congr 1;have:r.map (fun p=>if p.1=k then (p.1,v) else p)=r:=by
       conv=>rhs; rw [<-ib r]
       refine cQ fun q hq=>?_;rw [if_neg]; rfl;intro z; exact h3 (List.any_eq_true.mpr ⟨q,hq,by simpa using z⟩)
      rw [this]
   ·rw [if_neg h1];have h3:(r.any fun p=>decide (p.1=k))=true:=by simpa [h1] using h
    by_cases h2:p.1=j
    ·have:¬ k=j:=fun z=>h1 (h2.trans z.symm);simp [h2,this]
    ·simp only [h2,decide_false]; exact ih h3
 ·rename_i h;unfold cw;rw [List.find?_append];by_cases h2:k=j
  ·subst h2;have:l.find? (fun p=>decide (p.1=k))=none:=by
    rw [gE];intro p hp z;exact h (List.any_eq_true.mpr ⟨p,hp,z⟩)
   rw [this]; simp
  ·simp [h2]
theorem qZ(l:List (κ×α))(k:κ)(v:α):(d6 l k v).length<=l.length+1:=by
 unfold d6; split <;> simp
end
class wm (κ:Type) [DecidableEq κ] [Enc κ] where
 ok:(∀ k:κ,dP (enc k)=true)\/∀ k:κ,kc (enc k)=true
noncomputable instance:wm Int:=⟨.inl fun _=>rfl⟩
noncomputable instance:wm T2:=⟨.inr fun _=>rfl⟩
noncomputable instance:wm T3:=⟨.inr fun _=>rfl⟩
theorem pe{κ α:Type} [DecidableEq κ] [Enc κ] [wm κ] [DecidableEq α] [Enc α](l:List (κ×α))(k:κ):g7 (aS l) (enc k)=true:=by
 unfold g7 aS;rcases wm.ok (κ:=κ) with h | h
 ·rw [oH]; left;rw [h k,zC,mD,eM];intro p _; exact h p.1
 ·rw [oH]; right;rw [h k,zC,mD,eM];intro p _; exact h p.1
end K2
end
section
namespace K2
open PySem (Str)
open Enc (enc)
mutual
noncomputable def oJ:D->D->Bool
 | .int a,.int b=>decide (a < b)
 | .tup a,.tup b=>lh a b
 | .dJ a,.dJ b=>lh a b
 | _,_=>false
noncomputable def lh:List D->List D->Bool
 | [],[]=>false
 | [],_ :: _=>true
 | _ :: _,[]=>false
 | x :: xs,y :: ys=>if ig x y=true then lh xs ys else oJ x y
end
theorem me(x y:D)(xs ys:List D):lh (x :: xs) (y :: ys)=if ig x y=true then lh xs ys else oJ x y:=rfl
theorem Ol(a b:Int):oJ (.int a) (.int b)=decide (a < b):=rfl
inductive nk where
 | int | tup (l:List nk) | lst (s:nk)
mutual
noncomputable def cK:nk->D->Bool
 | .int,.int _=>true
 | .tup l,.tup ds=>eZ l ds
 | .lst s,.dJ ds=>gy s ds
 | _,_=>false
noncomputable def eZ:List nk->List D->Bool
 | [],[]=>true
 | s :: l,d :: ds=>cK s d&&eZ l ds
 | _,_=>false
noncomputable def gy:nk->List D->Bool
 | _,[]=>true
 | s,d :: ds=>cK s d&&gy s ds
end
theorem cZ{a:D}(h:cK .int a=true):∃ i,a=.int i:=by cases a <;> first | exact⟨_,rfl⟩ | exact bw (show false=true from h)
theorem cX{l:List nk}{a:D}(h:cK (.tup l) a=true):∃ x,a=.tup x:=by cases a <;> first | exact⟨_,rfl⟩ | exact bw (show false=true from h)
theorem cY{l:nk}{a:D}(h:cK (.lst l) a=true):∃ x,a=.dJ x:=by cases a <;> first | exact⟨_,rfl⟩ | exact bw (show false=true from h)
mutual
noncomputable def S7:nk->Nat
 | .int=>0
 | .tup l=>Pm l+1
 | .lst s=>S7 s+1
noncomputable def Pm:List nk->Nat
 | []=>0
 | s :: l=>max (S7 s) (Pm l)
end
noncomputable def Ut(sh:nk):Bool:=decide (S7 sh<=7)&&(match sh with
 | .tup []=>false
 | _=>true)
noncomputable def Qp(a b:D):Bool:=!oJ b a
noncomputable def qz(ds:List D):List D:=ds.mergeSort Qp
noncomputable def vc(ds:List D)(G:Gp)(Q:DK):Prop:=match ds with
 | [x]=>∃ (sh:nk) (xs:List D),xT x G/\itemsOf x G=some xs/\xs.all (cK sh)=true/\Ut sh=true/\xs.length < 64/\gI G (.lst (qz xs)) Q
 | _=>False
class bb (α:Type) [DecidableEq α] [Enc α] where
 lt:α->α->Bool
 AE:nk
 CI:∀ a:α,cK AE (enc a)=true
 Rv:∀ a b:α,oJ (enc a) (enc b)=lt a b
 HA:∀ a,lt a a=false
 trans:∀ a b c,lt a b=true->lt b c=true->lt a c=true
 mV:∀ a b,lt a b=false->lt b a=false->a=b
noncomputable instance:bb Int where
 lt:=fun a b=>decide (a < b)
 AE:=.int
 CI:=fun _=>rfl
 Rv:=fun a b=>rfl
 HA:=fun a=>by simp
 trans:=fun a b c h1 h2=>by simp at *; lia
 mV:=fun a b h1 h2=>by simp at *; lia
noncomputable def tw{α:Type} [DecidableEq α](lt:α->α->Bool):List α->List α->Bool
 | [],[]=>false
 | [],_ :: _=>true
 | _ :: _,[]=>false
 | x :: xs,y :: ys=>if x=y then tw lt xs ys else lt x y
theorem vV{α:Type} [DecidableEq α](lt:α->α->Bool)(x y:α)(xs ys:List α):tw lt (x :: xs) (y :: ys)=if x=y then tw lt xs ys else lt x y:=rfl
section
variable {α:Type} [DecidableEq α] {lt:α->α->Bool}
theorem uJ:∀ x:List α,tw lt x x=false
 | []=>rfl
 | a :: x=>by simp only [vV,if_true]; exact uJ x
theorem uI(t:∀ a b,lt a b=false->lt b a=false->a=b):∀ (x y:List α),tw lt x y=false->tw lt y x=false->x=y
 | [],[],_,_=>rfl
 | [],_ :: _,h,_=>by cases h
 | _ :: _,[],_,h=>by cases h
 | a :: x,b :: y,h1,h2=>by
  simp only [vV] at h1 h2;by_cases e:a=b
  ·subst e;simp only [if_true] at h1 h2;rw [uI t x y h1 h2]
  ·rw [if_neg e] at h1;rw [if_neg (da e)] at h2;exact absurd (t a b h1 h2) e
theorem pb(ir:∀ a,lt a a=false)(tr:∀ a b c,lt a b=true->lt b c=true->lt a c=true):∀ (x y z:List α),tw lt x y=true->tw lt y z=true->tw lt x z=true
 | [],[],_,h,_=>by cases h
 | [],_ :: _,[],_,h=>by cases h
 | [],_ :: _,_ :: _,_,_=>rfl
 | _ :: _,[],_,h,_=>by cases h
 | _ :: _,_ :: _,[],_,h=>by cases h
 | a :: x,b :: y,c :: z,h1,h2=>by
  simp only [vV] at h1 h2 ⊢;by_cases e1:a=b
  ·subst e1;simp only [if_true] at h1;by_cases e2:a=c
   ·subst e2;simp only [if_true] at h2 ⊢;exact pb ir tr x y z h1 h2
   ·rw [if_neg e2] at h2 ⊢; exact h2
  ·rw [if_neg e1] at h1;by_cases e2:b=c
   ·subst e2;rw [if_neg e1]; exact h1
   ·rw [if_neg e2] at h2;have h3:=tr _ _ _ h1 h2;rw [if_neg (by rintro rfl; rw [ir] at h3; cases h3)]; exact h3
end
theorem uD{α:Type} [DecidableEq α] [Enc α] [bb α]:∀ (x y:List α),lh (x.map enc) (y.map enc)=tw (bb.lt (α:=α)) x y
 | [],[]=>rfl
 | [],_ :: _=>rfl
 | _ :: _,[]=>rfl
 | a :: x,b :: y=>by simp only [aj,me,vV,Enc.eqv,uD x y,bb.Rv,decide_eq_true_eq]
theorem Bg{α:Type} [DecidableEq α] [Enc α] [bb α]:∀ (x:List α),gy (bb.AE α) (x.map enc)=true
 | []=>rfl
 | a :: x=>by simp only [aj,gy,bb.CI,Bg x,Bool.and_self]
noncomputable instance {α:Type} [DecidableEq α] [Enc α] [bb α]:bb (List α) where
 lt:=tw bb.lt
 AE:=.lst (bb.AE α)
 CI:=fun a=>Bg a
 Rv:=fun a b=>uD a b
 HA:=uJ
 trans:=pb bb.HA bb.trans
 mV:=uI bb.mV
noncomputable def T2.l(t:T2):List Int:=[t.a,t.b]
noncomputable def T3.l(t:T3):List Int:=[t.a,t.b,t.c]
noncomputable instance:bb T2 where
 lt:=fun x y=>tw (fun a b=>decide (a < b)) x.l y.l
 AE:=.tup [.int,.int]
 CI:=fun _=>rfl
 Rv:=fun a b=>uD a.l b.l
 HA:=fun a=>uJ _
 trans:=fun a b c=>pb (α:=Int) bb.HA bb.trans _ _ _
 mV:=fun ⟨a,b⟩ ⟨c,d⟩ h1 h2=>by
  have:=uI (α:=Int) bb.mV _ _ h1 h2;simpa [T2.l] using this
noncomputable instance:bb T3 where
 lt:=fun x y=>tw (fun a b=>decide (a < b)) x.l y.l
 AE:=.tup [.int,.int,.int]
 CI:=fun _=>rfl
 Rv:=fun a b=>uD a.l b.l
 HA:=fun a=>uJ _
 trans:=fun a b c=>pb (α:=Int) bb.HA bb.trans _ _ _
 mV:=fun ⟨a,b,e⟩ ⟨c,d,f⟩ h1 h2=>by
  have:=uI (α:=Int) bb.mV _ _ h1 h2;simpa [T3.l] using this
section
variable {α:Type} [DecidableEq α] [Enc α] [bb α]
noncomputable def FO(a b:α):Bool:=!bb.lt b a
noncomputable def QO(xs:List α):List α:=xs.mergeSort FO
theorem K7(xs:List α):qz (xs.map enc)=(QO xs).map enc:=by
 unfold qz QO;symm;exact List.map_mergeSort fun a _ b _=>by unfold FO Qp; rw [bb.Rv]
theorem A1(a b c:α)(h1:FO a b=true)(h2:FO b c=true):FO a c=true:=by
 unfold FO at *;simp only [Bool.not_eq_true'] at *;cases h:bb.lt c a with
 | false=>rfl
 | true =>
  by_cases e:a=b
  ·subst e; rw [h] at h2; cases h2
  ·have ER:bb.lt a b=true:=by
    cases q:bb.lt a b with
    | true=>rfl
    | false=>exact absurd (bb.mV _ _ q h1) e
   rw [bb.trans _ _ _ h ER] at h2; cases h2
theorem Oq(a b:α)(h1:FO a b=true)(h2:FO b a=true):a=b:=by
 unfold FO at *;exact bb.mV a b (by simpa using h2) (by simpa using h1)
theorem uc(xs:List α):(QO xs).Perm xs:=List.mergeSort_perm xs FO
theorem QN{xs:List α}{x:α}:x∈QO xs↔x∈xs:=(uc xs).mem_iff
theorem K6{xs:List α}(h:xs.Nodup):(QO xs).Nodup:=(uc xs).nodup_iff.mpr h
end
end K2
end
section
namespace K2
open PySem (Str)
mutual
theorem kd:∀ (sh:nk) (a:D),cK sh a=true->ig a a=true
 | .int,.int i,_=>by show (i == i)=true; exact beq_self_eq_true i
 | .tup l,.tup xs,h=>by show kC xs xs=true; exact wN l xs h
 | .lst l,.dJ xs,h=>by show kC xs xs=true; exact wO l xs h
theorem wN:∀ (l:List nk) (xs:List D),eZ l xs=true->kC xs xs=true
 | [],[],_=>rfl
 | s :: l,x :: xs,h=>by
  have h:(cK s x&&eZ l xs)=true:=h;rw [aK] at h;show (ig x x&&kC xs xs)=true;rw [kd s x h.1,wN l xs h.2]; rfl
theorem wO:∀ (s:nk) (xs:List D),gy s xs=true->kC xs xs=true
 | _,[],_=>rfl
 | s,x :: xs,h=>by
  have h:(cK s x&&gy s xs)=true:=h;rw [aK] at h;show (ig x x&&kC xs xs)=true;rw [kd s x h.1,wO s xs h.2]; rfl
end
theorem Vb(s:nk)(ih:∀ (a b:D),cK s a=true->cK s b=true->ig a b=true->a=b):∀ (xs ys:List D),gy s xs=true->gy s ys=true->kC xs ys=true->xs=ys:=by
 intro xs;induction xs with
 | nil=>intro ys _ _ h; cases ys with
  | nil=>rfl
  | cons _ _=>cases h
 | cons x xs WS =>
  intro ys h1 h2 h;cases ys with
  | nil=>cases h
  | cons y ys =>
   have h1:(cK s x&&gy s xs)=true:=h1;have h2:(cK s y&&gy s ys)=true:=h2;have h:(ig x y&&kC xs ys)=true:=h;rw [aK] at h1 h2 h;rw [ih x y h1.1 h2.1 h.1,WS ys h1.2 h2.2 h.2]
mutual
theorem pR:∀ (sh:nk) (a b:D),cK sh a=true->cK sh b=true->ig a b=true->a=b
 | .int,a,b,h1,h2,h=>by
  first | obtain⟨_,rfl⟩:=cZ h1 | obtain⟨_,rfl⟩:=cX h1 | obtain⟨_,rfl⟩:=cY h1
  first | obtain⟨_,rfl⟩:=cZ h2 | obtain⟨_,rfl⟩:=cX h2 | obtain⟨_,rfl⟩:=cY h2
  rw [nM] at h; rw [beq_iff_eq.mp h]
 | .tup l,a,b,h1,h2,h=>by
  first | obtain⟨_,rfl⟩:=cZ h1 | obtain⟨_,rfl⟩:=cX h1 | obtain⟨_,rfl⟩:=cY h1
  first | obtain⟨_,rfl⟩:=cZ h2 | obtain⟨_,rfl⟩:=cX h2 | obtain⟨_,rfl⟩:=cY h2
  rw [Pe l _ _ h1 h2 h]
 | .lst l,a,b,h1,h2,h=>by
  first | obtain⟨_,rfl⟩:=cZ h1 | obtain⟨_,rfl⟩:=cX h1 | obtain⟨_,rfl⟩:=cY h1
  first | obtain⟨_,rfl⟩:=cZ h2 | obtain⟨_,rfl⟩:=cX h2 | obtain⟨_,rfl⟩:=cY h2
  rw [Vb l (pR l) _ _ h1 h2 h]
theorem Pe:∀ (l:List nk) (xs ys:List D),eZ l xs=true->eZ l ys=true->kC xs ys=true->xs=ys
 | [],xs,ys,h1,h2,_=>by
  cases xs with
  | nil=>cases ys with
   | nil=>rfl
   | cons _ _=>cases h2
  | cons _ _=>cases h1
 | s :: l,xs,ys,h1,h2,h=>by
  cases xs with
  | nil=>cases h1
  | cons x xs =>
   cases ys with
   | nil=>cases h2
   | cons y ys =>
    have h1:(cK s x&&eZ l xs)=true:=h1;have h2:(cK s y&&eZ l ys)=true:=h2;have h:(ig x y&&kC xs ys)=true:=h;rw [aK] at h1 h2 h;rw [pR s x y h1.1 h2.1 h.1,Pe l xs ys h1.2 h2.2 h.2]
end
theorem Oj(s:nk)(ih:∀ (a b:D),cK s a=true->cK s b=true->oJ a b=false->oJ b a=false->a=b):∀ (xs ys:List D),gy s xs=true->gy s ys=true->lh xs ys=false->lh ys xs=false->xs=ys:=by
 intro xs;induction xs with
 | nil=>intro ys _ _ h _; cases ys with
  | nil=>rfl
  | cons _ _=>cases h
 | cons x xs WS =>
  intro ys h1 h2 h3 h4;cases ys with
  | nil=>cases h4
  | cons y ys =>
   have h1:(cK s x&&gy s xs)=true:=h1;have h2:(cK s y&&gy s ys)=true:=h2;rw [aK] at h1 h2;simp only [me] at h3 h4;by_cases e:ig x y=true
   ·have exy:=pR s x y h1.1 h2.1 e;subst exy;rw [if_pos e] at h3 h4;rw [WS ys h1.2 h2.2 h3 h4]
   ·rw [if_neg e] at h3;by_cases e2:ig y x=true
    ·have:=pR s y x h2.1 h1.1 e2;subst this; exact absurd e2 e
    ·rw [if_neg e2] at h4;have:=ih x y h1.1 h2.1 h3 h4;subst this;exact absurd (kd s x h1.1) e
mutual
theorem xm:∀ (sh:nk) (a b:D),cK sh a=true->cK sh b=true->oJ a b=false->oJ b a=false->a=b
 | .int,a,b,h1,h2,h3,h4=>by
  first | obtain⟨_,rfl⟩:=cZ h1 | obtain⟨_,rfl⟩:=cX h1 | obtain⟨_,rfl⟩:=cY h1
  first | obtain⟨_,rfl⟩:=cZ h2 | obtain⟨_,rfl⟩:=cX h2 | obtain⟨_,rfl⟩:=cY h2
  simp [Ol] at h3 h4; congr 1; lia
 | .tup l,a,b,h1,h2,h3,h4=>by
  first | obtain⟨_,rfl⟩:=cZ h1 | obtain⟨_,rfl⟩:=cX h1 | obtain⟨_,rfl⟩:=cY h1
  first | obtain⟨_,rfl⟩:=cZ h2 | obtain⟨_,rfl⟩:=cX h2 | obtain⟨_,rfl⟩:=cY h2
  rw [EC l _ _ h1 h2 h3 h4]
 | .lst l,a,b,h1,h2,h3,h4=>by
  first | obtain⟨_,rfl⟩:=cZ h1 | obtain⟨_,rfl⟩:=cX h1 | obtain⟨_,rfl⟩:=cY h1
  first | obtain⟨_,rfl⟩:=cZ h2 | obtain⟨_,rfl⟩:=cX h2 | obtain⟨_,rfl⟩:=cY h2
  rw [Oj l (xm l) _ _ h1 h2 h3 h4]
theorem EC:∀ (l:List nk) (xs ys:List D),eZ l xs=true->eZ l ys=true->lh xs ys=false->lh ys xs=false->xs=ys
 | [],xs,ys,h1,h2,_,_=>by
  cases xs with
  | nil=>cases ys with
   | nil=>rfl
   | cons _ _=>cases h2
  | cons _ _=>cases h1
 | s :: l,xs,ys,h1,h2,h3,h4=>by
  cases xs with
  | nil=>cases h1
  | cons x xs =>
   cases ys with
   | nil=>cases h2
   | cons y ys =>
    have h1:(cK s x&&eZ l xs)=true:=h1;have h2:(cK s y&&eZ l ys)=true:=h2;rw [aK] at h1 h2;simp only [me] at h3 h4;by_cases e:ig x y=true
    ·have exy:=pR s x y h1.1 h2.1 e;subst exy;rw [if_pos e] at h3 h4;rw [EC l xs ys h1.2 h2.2 h3 h4]
    ·rw [if_neg e] at h3;by_cases e2:ig y x=true
     ·have:=pR s y x h2.1 h1.1 e2;subst this; exact absurd e2 e
     ·rw [if_neg e2] at h4;have:=xm s x y h1.1 h2.1 h3 h4;subst this;exact absurd (kd s x h1.1) e
end
mutual
theorem Ct:∀ (sh:nk) (a:D),cK sh a=true->oJ a a=false
 | .int,.int i,_=>by rw [Ol]; exact decide_eq_false (Int.lt_irrefl _)
 | .tup l,.tup xs,h=>by show lh xs xs=false; exact ED l xs h
 | .lst l,.dJ xs,h=>by show lh xs xs=false; exact EE l xs h
theorem ED:∀ (l:List nk) (xs:List D),eZ l xs=true->lh xs xs=false
 | [],[],_=>rfl
 | s :: l,x :: xs,h=>by
  have h:(cK s x&&eZ l xs)=true:=h;rw [aK] at h;simp only [me,kd s x h.1,if_true]; exact ED l xs h.2
theorem EE:∀ (s:nk) (xs:List D),gy s xs=true->lh xs xs=false
 | _,[],_=>rfl
 | s,x :: xs,h=>by
  have h:(cK s x&&gy s xs)=true:=h;rw [aK] at h;simp only [me,kd s x h.1,if_true]; exact EE s xs h.2
end
theorem Hr(s:nk)(ih:∀ (a b c:D),cK s a=true->cK s b=true->cK s c=true->oJ a b=true->oJ b c=true->oJ a c=true):∀ (xs ys zs:List D),gy s xs=true->gy s ys=true->gy s zs=true->lh xs ys=true->lh ys zs=true->lh xs zs=true:=by
 intro xs;induction xs with
 | nil =>
  intro ys zs _ _ _ h4 h5;cases ys with
  | nil=>cases h4
  | cons _ _=>cases zs with
   | nil=>cases h5
   | cons _ _=>rfl
 | cons x xs WS =>
  intro ys zs h1 h2 h3 h4 h5;cases ys with
  | nil=>cases h4
  | cons y ys =>
   cases zs with
   | nil=>cases h5
   | cons z zs =>
    have h1:(cK s x&&gy s xs)=true:=h1;have h2:(cK s y&&gy s ys)=true:=h2;have h3:(cK s z&&gy s zs)=true:=h3;rw [aK] at h1 h2 h3;simp only [me] at h4 h5 ⊢;by_cases e1:ig x y=true
    ·have:=pR s x y h1.1 h2.1 e1;subst this;rw [if_pos e1] at h4;by_cases e2:ig x z=true
     ·rw [if_pos e2] at h5 ⊢;exact WS ys zs h1.2 h2.2 h3.2 h4 h5
     ·rw [if_neg e2] at h5 ⊢; exact h5
    ·rw [if_neg e1] at h4;by_cases e2:ig y z=true
     ·have:=pR s y z h2.1 h3.1 e2;subst this;rw [if_neg e1]; exact h4
     ·rw [if_neg e2] at h5;have h6:=ih x y z h1.1 h2.1 h3.1 h4 h5;rw [if_neg (fun e3=>by
       have:=pR s x z h1.1 h3.1 e3;subst this;rw [Ct s x h1.1] at h6; cases h6)]
      exact h6
mutual
theorem rK:∀ (sh:nk) (a b c:D),cK sh a=true->cK sh b=true->cK sh c=true->oJ a b=true->oJ b c=true->oJ a c=true
 | .int,a,b,c,h1,h2,h3,h4,h5=>by
  first | obtain⟨_,rfl⟩:=cZ h1 | obtain⟨_,rfl⟩:=cX h1 | obtain⟨_,rfl⟩:=cY h1
  first | obtain⟨_,rfl⟩:=cZ h2 | obtain⟨_,rfl⟩:=cX h2 | obtain⟨_,rfl⟩:=cY h2
  first | obtain⟨_,rfl⟩:=cZ h3 | obtain⟨_,rfl⟩:=cX h3 | obtain⟨_,rfl⟩:=cY h3
  simp [Ol] at *; lia
 | .tup l,a,b,c,h1,h2,h3,h4,h5=>by
  first | obtain⟨_,rfl⟩:=cZ h1 | obtain⟨_,rfl⟩:=cX h1 | obtain⟨_,rfl⟩:=cY h1
  first | obtain⟨_,rfl⟩:=cZ h2 | obtain⟨_,rfl⟩:=cX h2 | obtain⟨_,rfl⟩:=cY h2
  first | obtain⟨_,rfl⟩:=cZ h3 | obtain⟨_,rfl⟩:=cX h3 | obtain⟨_,rfl⟩:=cY h3
  exact yy l _ _ _ h1 h2 h3 h4 h5
 | .lst l,a,b,c,h1,h2,h3,h4,h5=>by
  first | obtain⟨_,rfl⟩:=cZ h1 | obtain⟨_,rfl⟩:=cX h1 | obtain⟨_,rfl⟩:=cY h1
  first | obtain⟨_,rfl⟩:=cZ h2 | obtain⟨_,rfl⟩:=cX h2 | obtain⟨_,rfl⟩:=cY h2
  first | obtain⟨_,rfl⟩:=cZ h3 | obtain⟨_,rfl⟩:=cX h3 | obtain⟨_,rfl⟩:=cY h3
  exact Hr l (rK l) _ _ _ h1 h2 h3 h4 h5
theorem yy:∀ (l:List nk) (xs ys zs:List D),eZ l xs=true->eZ l ys=true->eZ l zs=true->lh xs ys=true->lh ys zs=true->lh xs zs=true
 | [],xs,ys,zs,h1,h2,_,h,_=>by
  cases xs with
  | nil=>cases ys with
   | nil=>cases h
   | cons _ _=>cases h2
  | cons _ _=>cases h1
 | s :: l,xs,ys,zs,h1,h2,h3,h4,h5=>by
  cases xs with
  | nil=>cases h1
  | cons x xs =>
   cases ys with
   | nil=>cases h2
   | cons y ys =>
    cases zs with
    | nil=>cases h3
    | cons z zs =>
     have h1:(cK s x&&eZ l xs)=true:=h1;have h2:(cK s y&&eZ l ys)=true:=h2;have h3:(cK s z&&eZ l zs)=true:=h3;rw [aK] at h1 h2 h3;simp only [me] at h4 h5 ⊢;by_cases e1:ig x y=true
     ·have:=pR s x y h1.1 h2.1 e1;subst this;rw [if_pos e1] at h4;by_cases e2:ig x z=true
      ·rw [if_pos e2] at h5 ⊢;exact yy l xs ys zs h1.2 h2.2 h3.2 h4 h5
      ·rw [if_neg e2] at h5 ⊢; exact h5
     ·rw [if_neg e1] at h4;by_cases e2:ig y z=true
      ·have:=pR s y z h2.1 h3.1 e2;subst this;rw [if_neg e1]; exact h4
      ·rw [if_neg e2] at h5;have h6:=rK s x y z h1.1 h2.1 h3.1 h4 h5;rw [if_neg (fun e3=>by
        have:=pR s x z h1.1 h3.1 e3;subst this;rw [Ct s x h1.1] at h6; cases h6)]
       exact h6
end
theorem AX(sh:nk){a b:D}(h1:cK sh a=true)(h2:cK sh b=true)(h:oJ a b=true):oJ b a=false:=by
 cases q:oJ b a with
 | false=>rfl
 | true=>have:=rK sh a b a h1 h2 h1 h q; rw [Ct sh a h1] at this; cases this
theorem yA(sh:nk){a b c:D}(h1:cK sh a=true)(h2:cK sh b=true)(h3:cK sh c=true)(q1:oJ b a=false)(q2:oJ c b=false):oJ c a=false:=by
 cases h:oJ c a with
 | false=>rfl
 | true =>
  exfalso;cases q:oJ a b with
  | false =>
   have:=xm sh a b h1 h2 q q1;subst this; rw [h] at q2; cases q2
  | true=>rw [rK sh c a b h3 h1 h2 h q] at q2; cases q2
theorem ue(sh:nk){xs ys:List D}(hx:∀ x∈xs,cK sh x=true)(hp:ys.Perm xs)(hs:ys.Pairwise fun a b=>oJ b a=false):qz xs=ys:=by
 have hy:∀ y∈ys,cK sh y=true:=fun y h=>hx y (hp.mem_iff.mp h);have p1:(qz xs).Perm xs:=List.mergeSort_perm xs Qp;have hz:∀ z∈qz xs,cK sh z=true:=fun z h=>hx z (p1.mem_iff.mp h);have s1:(qz xs).Pairwise fun a b=>oJ b a=false:=by
  let MX:List { d:D // cK sh d=true }:=xs.attach.map fun x=>⟨x.1,hx x.1 x.2⟩
  have ex:xs=MX.map (·.1):=by
   simp only [MX,bC]
   conv=>lhs; rw [<-List.attach_map_subtype_val xs]
   rfl
  have e2:qz xs=(MX.mergeSort fun a b=>Qp a.1 b.1).map (·.1):=by
   unfold qz;rw [ex];exact(List.map_mergeSort (r:=fun (a b:{ d:D // cK sh d=true })=>Qp a.1 b.1) (s:=Qp) (f:=fun x=>x.1) (l:=MX) fun a _ b _=>rfl).symm
  rw [e2,lz]
  have:=List.pairwise_mergeSort (le:=fun (a b:{ d:D // cK sh d=true })=>Qp a.1 b.1) (fun a b c h1 h2=>by
   unfold Qp at *;simp only [Bool.not_eq_true'] at *;exact yA sh a.2 b.2 c.2 h1 h2) (fun a b=>by
   unfold Qp;cases q:oJ b.1 a.1 with
   | false=>rfl
   | true=>rw [AX sh b.2 a.2 q]; rfl) MX
  exact this.imp fun h=>by unfold Qp at h; simpa using h
 refine List.Perm.eq_of_pairwise (le:=fun a b=>oJ b a=false) (fun a b ha hb h h'=>?_) s1 hs (p1.trans hp.symm);exact xm sh a b (hz a ha) (hy b hb) h' h
end K2
end
section
namespace K2
open PySem (Str)
open Enc (enc)
noncomputable def j5(k:Nat):List D->List D
 | []=>[]
 | d :: r=>.tup [.int (k:Int),d] :: j5 (k+1) r
theorem rQ:∀ (ds:List D) (k i:Nat),(j5 k ds)[i]?=(ds[i]?).map fun d=>D.tup [.int ((k+i:Nat):Int),d]
 | [],k,i=>by simp [j5]
 | d :: r,k,0=>by simp [j5]
 | d :: r,k,i+1=>by
  rw [j5,ae,rQ r (k+1) i,ae];congr 1; funext x; congr 3; lia
theorem oB:∀ (ds:List D) (k:Nat),(j5 k ds).length=ds.length
 | [],_=>rfl
 | d :: r,k=>by rw [j5,ah,ah,oB r]
noncomputable def Wv(P:D->Gp->Prop):List D->Gp->Prop
 | [x],G=>P x G
 | _,_=>False
noncomputable def Y9(P:D->D->Gp->Prop):List D->Gp->Prop
 | [x,y],G=>P x y G
 | _,_=>False
noncomputable def oO:List D->List D->List D
 | x :: xs,y :: ys=>.tup [x,y] :: oO xs ys
 | _,_=>[]
theorem DQ:∀ (xs ys:List D) (i:Nat),(oO xs ys)[i]?=(xs[i]?).bind fun x=>(ys[i]?).map fun y=>D.tup [x,y]
 | [],ys,i=>by simp [oO]
 | x :: xs,[],i=>by cases h:(x :: xs)[i]? <;> simp [oO]
 | x :: xs,y :: ys,0=>by simp [oO]
 | x :: xs,y :: ys,i+1=>by rw [oO,ae,DQ xs ys i,ae,ae]
theorem DP:∀ (xs ys:List D),(oO xs ys).length=min xs.length ys.length
 | [],ys=>by simp [oO]
 | x :: xs,[]=>by simp [oO]
 | x :: xs,y :: ys=>by rw [oO,ah,DP xs ys,ah,ah]; lia
noncomputable def uE(x:D)(G:Gp):Option (List D×(Gp->Prop)):=match x with
 | .dJ ds=>some (ds,fun _=>True)
 | .ref p=>(match G p with
  | some (.lst ds)=>some (ds,fun G2=>G2 p=some (.lst ds))
  | _=>none)
 | _=>none
noncomputable def tE(x y:D)(G1:Gp)(R:List D->(Gp->Prop)->Gp->Prop):Prop:=match uE x G1,uE y G1 with
 | some (xs,k1),some (ys,k2)=>R (oO xs ys) (fun G2=>k1 G2/\k2 G2) G1
 | _,_=>False
noncomputable def OQ(a b:fx):IC:=fun E τ G R=>a E τ G fun x G1=>b E τ G1 fun y G2=>tE x y G2 R
noncomputable def J7(x:D)(G1:Gp)(R:List D->(Gp->Prop)->Gp->Prop):Prop:=match x with
 | .gN kvs=>R (kvs.map (·.1)) (fun _=>True) G1
 | _=>False
noncomputable def A6(a:fx):IC:=fun E τ G R=>a E τ G fun x G1=>J7 x G1 R
noncomputable def IsL(G:Gp)(d:D)(ds:List D):Prop:=d=.dJ ds\/∃ a,d=.ref a/\G a=some (.lst ds)
theorem IsL.enc{α:Type} [DecidableEq α] [Enc α]{G:Gp}(xs:List α):IsL G (enc xs) (xs.map enc):=.inl rfl
theorem IsL.ref{G:Gp}{a:Nat}{ds:List D}(h:G a=some (.lst ds)):IsL G (.ref a) ds:=.inr ⟨a,rfl,h⟩
theorem IsL.mono{G G':Gp}{d:D}{ds:List D}(h:IsL G d ds)(l:fJ G G'):IsL G' d ds:=by
 rcases h with h | ⟨a,h,e⟩
 ·exact .inl h
 ·exact .inr ⟨a,h,l a _ e⟩
theorem UT{G:Gp}{d:D}{ds:List D}{R:List D->(Gp->Prop)->Gp->Prop}(h:IsL G d ds)(k:∀ ok:Gp->Prop,(∀ G',fJ G G'->ok G')->R ds ok G):Qq d G R:=by
 rcases h with rfl | ⟨a,rfl,e⟩
 ·exact k _ fun _ _=>trivial
 ·rw [xq e]; exact k _ fun G' l=>l a _ e
theorem EG{G:Gp}{d:D}{ds:List D}(h:IsL G d ds):∃ ok:Gp->Prop,uE d G=some (ds,ok)/\∀ G',fJ G G'->ok G':=by
 rcases h with rfl | ⟨a,rfl,e⟩
 ·exact⟨_,rfl,fun _ _=>trivial⟩
 ·unfold uE; simp only [e]; exact⟨_,rfl,fun G' l=>l a _ e⟩
theorem LO{G:Gp}{d d':D}{ds ds':List D}{R:List D->(Gp->Prop)->Gp->Prop}(h:IsL G d ds)(h':IsL G d' ds')(k:∀ ok:Gp->Prop,(∀ G',fJ G G'->ok G')->R (oO ds ds') ok G):tE d d' G R:=by
 obtain⟨k1,e1,h1⟩:=EG h;obtain⟨k2,e2,h2⟩:=EG h';unfold tE; simp only [e1,e2];exact k _ fun G' l=>⟨h1 G' l,h2 G' l⟩
theorem tD{G:Gp}{d:D}{ds:List D}(h:IsL G d ds):itemsOf d G=some ds:=by
 rcases h with rfl | ⟨a,rfl,e⟩
 ·rfl
 ·unfold itemsOf; simp only [e]
theorem Tv{G:Gp}{d:D}{ds:List D}(h:IsL G d ds):xT d G:=by
 rcases h with rfl | ⟨a,rfl,e⟩
 ·trivial
 ·unfold xT; simp only [e]
theorem NB{G:Gp}{d:D}{ds:List D}{lo hi:Option Int}{Q:DK}(h:IsL G d ds)(k:gI G (.lst (cut ds lo hi)) Q):T4 d lo hi G Q:=by
 rcases h with rfl | ⟨a,rfl,e⟩
 ·exact k
 ·rw [QQ e]; exact k
theorem PR{G:Gp}{d:D}{ds:List D}{Q:DK}(h:IsL G d ds)(k:gI G (.lst ds) Q):zd [d] G Q:=by
 unfold zd; simp only [tD h]; exact k
theorem zc{α:Type} [DecidableEq α] [Enc α] [bb α]{G:Gp}{d:D}{xs:List α}{Q:DK}(h:IsL G d (xs.map enc))(hl:xs.length < 64)(k:gI G (.lst ((QO xs).map enc)) Q)(ok:autoParam (Ut (bb.AE α)=true) Ad._auto_1):vc [d] G Q :=
 ⟨bb.AE α,xs.map enc,Tv h,tD h,by rw [mD,eM]; intro x _; exact bb.CI x,ok,by rw [aE]; exact hl,by rw [K7]; exact k⟩
theorem GR{G:Gp}{d x:D}{ds:List D}{i:Int}{Q:DK}(h:IsL G d ds)(e:qY ds i=some x)(k:Q x G):nF d (.int i) G Q:=by
 rcases h with rfl | ⟨a,rfl,e2⟩
 ·rw [B3 e]; exact k
 ·rw [QS e2 e]; exact k
theorem kA{G:Gp}{d:D}{ds:List D}(h:IsL G d ds):qM d G=some ds:=by
 rcases h with rfl | ⟨a,rfl,e⟩
 ·rfl
 ·unfold qM; simp only [e]
theorem R4{G:Gp}{d e:D}{ds es:List D}{Q:DK}(h:IsL G d ds)(h':IsL G e es)(hz:ds.length+es.length<=SZ)(k:gI G (.lst (ds++es)) Q):Ds d e G Q:=by
 unfold Ds; simp only [kA h,kA h']; exact⟨hz,k⟩
theorem QV{G:Gp}{d e:D}{ds es:List D}{Q:DK}(h:IsL G d ds)(h':IsL G e es)(hz:ds.length+es.length<=SZ)(k:gI G (.lst (ds++es)) Q):ku d e G Q:=by
 have:=R4 h h' hz k;rcases h with rfl | ⟨a,rfl,_⟩
 ·rw [qG]; exact this
 ·rw [qH]; exact this
theorem Fb{α:Type}(xs:List α)(i:Nat)(h:i<=xs.length):cut xs (some (i:Int)) none=xs.drop i:=by
 unfold cut jc;simp only;rw [if_neg (by lia),cF,Gj h];exact tT (by rw [cC]; lia)
theorem PB{α:Type}(xs:List α)(i:Nat)(h:i<=xs.length):cut xs none (some (i:Int))=xs.take i:=by
 unfold cut jc;simp only;rw [if_neg (by lia),cF,Gj h];simp
theorem pj{α β:Type}(f:α->β)(xs:List α)(lo hi:Option Int):cut (xs.map f) lo hi=(cut xs lo hi).map f:=by
 unfold cut; rw [aE,List.map_take,List.map_drop]
theorem xA{α:Type}(xs:List α){k:Int}(h0:0<=k)(h1:k < xs.length):qY xs k=some (xs[k.toNat]'(by lia)):=by
 unfold qY J2;rw [if_pos h0,if_pos h1];show xs[k.toNat]?=_;exact aq (by lia)
theorem sU{n:Nat}{pre post:List D}{d:D}(h:fL 0 n=pre++d :: post):d=.int (pre.length:Int)/\pre.length < n:=by
 have hl:pre.length < n:=by
  have:=congrArg cV h;simp [fL] at this; lia
 have:=congrArg (fun l=>l[pre.length]?) h;simp only [fL,br,List.getElem?_range hl] at this;rw [eS (aB _)] at this;simp at this;exact⟨this.symm,hl⟩
noncomputable def V9{α β:Type} [DecidableEq α] [Enc α] [DecidableEq β] [Enc β](pre:α->Prop)(f:α->β):nj:=fun ds G Q _=>∃ a:α,ds=[enc a]/\pre a/\Q (enc (f a)) G
noncomputable def YR{α β γ:Type} [DecidableEq α] [Enc α] [DecidableEq β] [Enc β] [DecidableEq γ] [Enc γ](pre:α->β->Prop)(f:α->β->γ):nj:=fun ds G Q _=>∃ (a:α) (b:β),ds=[enc a,enc b]/\pre a b/\Q (enc (f a b)) G
noncomputable def Y2:zg
 | .int i,.int j,G,Q=>(0<=j/\j<=1000000/\i.natAbs < 2 ^ 64)/\Q (.int (i ^ j.toNat)) G
 | _,_,_,_=>False
noncomputable def mP:Nat:=2 ^ 4000
noncomputable def D7:zg
 | .int i,.int j,G,Q=>(i.natAbs < mP/\j.natAbs < mP)/\Q (.int (i * j)) G
 | _,_,_,_=>False
theorem yd{i j:Int}{G:Gp}{Q:DK}:Y2 (.int i) (.int j) G Q=((0<=j/\j<=1000000/\i.natAbs < 2 ^ 64)/\Q (.int (i ^ j.toNat)) G):=rfl
theorem lC{i j:Int}{G:Gp}{Q:DK}:D7 (.int i) (.int j) G Q=((i.natAbs < mP/\j.natAbs < mP)/\Q (.int (i * j)) G):=rfl
noncomputable def uX:D->Gp->Option (List (D×D))
 | .gN kvs,_=>some kvs
 | .ref a,G=>match G a with
  | some (.eV kvs)=>some kvs
  | _=>none
 | _,_=>none
noncomputable def uL(kvs:List (D×D)):Bool:=kvs.all fun p=>dP p.1
noncomputable def Kv(ds:List D)(G:Gp)(Q:DK):Prop:=match ds with
 | [x]=>∃ kvs,uX x G=some kvs/\uL kvs=true/\kvs.length<=SZ/\gI G (.eV kvs) Q
 | _=>False
noncomputable def Ho(x:D)(ds:List D)(G:Gp)(Q:DK):Prop:=match ds with
 | [k,d]=>∃ kvs,uX x G=some kvs/\uL kvs=true/\dP k=true/\Q ((look kvs k).getD d) G
 | _=>False
noncomputable def yK(x:D)(G1:Gp)(R:List D->(Gp->Prop)->Gp->Prop):Prop:=match x with
 | .gN kvs=>uL kvs=true/\R (kvs.map fun p=>.tup [p.1,p.2]) (fun _=>True) G1
 | _=>False
noncomputable def gx(a:fx):IC:=fun E τ G R=>a E τ G fun x G1=>yK x G1 R
noncomputable def wQ(k v:fx):fx:=fun E τ G Q=>k E τ G fun x G1=>v E τ G1 fun y G2=>dP x=true/\gI G2 (.eV [(x,y)]) Q
noncomputable def z9(l m:List (Int×Int)):Bool:=l.length == m.length&&l.all fun p=>cw m p.1 == some p.2
noncomputable def Wh(neg:Bool):zg:=fun x y G Q=>∃ l m:List (Int×Int),uX x G=some (aS l)/\uX y G=some (aS m)/\Q (.bl (if neg then !z9 l m else z9 l m)) G
noncomputable def T8(neg:Bool):zg:=fun x y G Q=>GS neg x y G Q\/Wh neg x y G Q
noncomputable def zt{κ α:Type} [DecidableEq κ] [Enc κ] [DecidableEq α] [Enc α](G:Gp)(d:D)(l:List (κ×α)):Prop:=uX d G=some (aS l)
section
variable {κ α:Type} [DecidableEq κ] [Enc κ] [DecidableEq α] [Enc α] {l:List (κ×α)} {G G':Gp} {d:D}
theorem zt.ref{a:Nat}(h:G a=some (.eV (aS l))):zt G (.ref a) l:=by unfold zt uX; simp only [h]
theorem zt.gN:zt G (.gN (aS l)) l:=rfl
theorem zt.inv(h:zt G d l):d=.gN (aS l)\/∃ a,d=.ref a/\G a=some (.eV (aS l)):=by
 unfold zt uX at h;split at h
 ·exact .inl (by rw [aX h])
 ·rename_i a;split at h
  ·rename_i kvs e;exact .inr ⟨a,rfl,by rw [e,aX h]⟩
  ·cases h
 ·cases h
noncomputable def VZ(_:Gp)(d:D)(l:List (κ×α)):Prop:=d=.gN (aS l)
theorem VZ.p(h:VZ G d l):zt G' d l:=by unfold VZ at h; rw [h]; exact .gN
theorem lG{β:Type} [DecidableEq β] [Enc β](l:List (Int×β)):uL (aS l)=true:=by
 unfold uL aS; rw [mD,eM]; intro p _; rfl
theorem Bm(l:List (κ×α)):(aS l).length=l.length:=by unfold aS; rw [aE]
theorem Gv(h:zt G d l):Ql d G:=by
 rcases h.inv with rfl | ⟨a,rfl,e⟩
 ·trivial
 ·unfold Ql; simp only [e]
end
section
variable {α:Type} [DecidableEq α] [Enc α] {l:List (Int×α)} {G:Gp} {d:D}
theorem PT{Q:DK}(h:zt G d l)(hs:l.length<=SZ)(k:gI G (.eV (aS l)) Q):Kv [d] G Q:=⟨_,h,lG l,by rw [Bm]; exact hs,k⟩
theorem Ru{Q:DK}{i:Int}{e:α}(h:zt G d l)(k:Q (enc ((cw l i).getD e)) G):Ho d [.int i,enc e] G Q:=by
 refine⟨_,h,lG l,rfl,?_⟩;have:(look (aS l) (.int i)).getD (enc e)=enc ((cw l i).getD e):=by
  rw [show (D.int i)=enc i from rfl,yC]; cases cw l i <;> rfl
 rw [this]; exact k
theorem kB{G0:Gp}{R:List D->(Gp->Prop)->Gp->Prop}(h:VZ G0 d l)(le0:fJ G0 G)(k:∀ ok:Gp->Prop,(∀ G',fJ G0 G'->ok G')->R (l.map fun p=>.tup [.int p.1,enc p.2]) ok G):yK d G R:=by
 unfold VZ at h;rw [h];refine⟨lG l,?_⟩;have:(aS l).map (fun p=>D.tup [p.1,p.2])=l.map fun p=>.tup [.int p.1,enc p.2]:=by unfold aS; rw [bC]; rfl
 rw [this];exact k _ fun G' le=>trivial
theorem fP{a:Nat}{i:Int}{v:α}{Q:Gp->Prop}(h:G a=some (.eV (aS l)))(hs:l.length < SZ)(k:Q (cT G a (.eV (aS (d6 l i v))))):AG (.ref a) (.int i) (enc v) G Q:=by
 unfold AG;simp only [h];refine⟨pe l i,by rw [Bm]; exact hs,?_⟩;rw [show (D.int i)=enc i from rfl,Jt]; exact k
end
theorem NG{neg:Bool}{G:Gp}{d e:D}{l m:List (Int×Int)}{Q:DK}(h1:zt G d l)(h2:zt G e m)(k:Q (.bl (if neg then !z9 l m else z9 l m)) G):T8 neg d e G Q:=.inr ⟨l,m,h1,h2,k⟩
noncomputable abbrev TF2:=lr->hZ->Gp->(List Str->Gp->Prop)->Prop
noncomputable def ph(r r':zg)(ta tb tc:fx):xb:=fun E τ G Q=>ta E τ G fun x G1=>tb E τ G1 fun y G2=>r x y G2 fun z G3=>∃ k,z=.bl k/\(if k=true then tc E τ G3 fun w G4=>r' y w G4 (fun z' G5=>∃ k',z'=.bl k'/\Q k' G5) else Q false G3)
noncomputable def cAbs(ds:List D)(G:Gp)(Q:DK):Prop:=match ds with
 | [.int i]=>Q (.int (if i < 0 then -i else i)) G
 | _=>False
noncomputable def qO(x:D)(n:Nat)(G1:Gp)(R:List D->(Gp->Prop)->Gp->Prop):Prop:=match x with
 | .dJ ds=>R (j5 n ds) (fun _=>True) G1
 | .ref p=>(match G1 p with
  | some (.lst ds)=>R (j5 n ds) (fun G2=>G2 p=some (.lst ds)) G1
  | _=>False)
 | _=>False
noncomputable def HE(a:fx)(n:Nat):IC:=fun E τ G R=>a E τ G fun x G1=>qO x n G1 R
end K2
end
section
namespace K2
open PySem (Str)
noncomputable def LQ(x:D)(G1:Gp)(R:List D->(Gp->Prop)->Gp->Prop):Prop:=match x with
 | .gN kvs=>(kvs.all fun p=>kc p.1)=true/\R (kvs.map fun p=>.tup [p.1,p.2]) (fun _=>True) G1
 | _=>False
noncomputable def CF(a:fx):IC:=fun E τ G R=>a E τ G fun x G1=>LQ x G1 R
noncomputable def E9(kv:List (Int×Int)):fx:=fun _ _ G Q=>gI G (.eV (aS kv)) Q
end K2
end
section
namespace K2
open PySem (Str)
open Enc (enc)
noncomputable def h2(t:T2):Int:=PySem.reduceHash (PySem.Builtin.Tuple.tupleHashOf [PySem.hashInt t.a,PySem.hashInt t.b])
end K2
end
section
namespace K2
open PySem (Str)
noncomputable def RY(ds:List D)(G:Gp)(Q:DK):Prop:=match ds with
 | [x]=>(match qM x G with
  | some xs=>Q (.tup xs) G
  | none=>False)
 | _=>False
noncomputable def only(a:Nat)(o:GO):Gp:=fun b=>if b=a then some o else none
noncomputable def pO(kvs:List (PK×D))(k:PK):Option D:=(kvs.find? fun p=>decide (p.1=k)).map (·.2)
noncomputable def Lh(kvs:List (PK×D))(k:PK)(v:D):List (PK×D) :=
 if (kvs.any fun p=>decide (p.1=k))=true then kvs.map (fun p=>if p.1=k then (p.1,v) else p) else kvs++[(k,v)]
noncomputable def tyP(x:D)(G:Gp):Prop:=match x with
 | .ref a=>(match G a with
  | some (.qT _)=>True
  | _=>False)
 | .nY _=>True
 | _=>False
noncomputable def Ez(x:D)(ds:List D)(G:Gp)(Q:DK):Prop:=match x,ds with
 | .ref a,[k,d]=>∃ kvs pk,G a=some (.qT kvs)/\k=pM pk/\Q ((pO kvs pk).getD d) G
 | .nY kvs,[k,d]=>∃ pk,k=pM pk/\Q ((pO kvs pk).getD d) G
 | _,_=>False
noncomputable def GL(o k d:D)(G:Gp)(Q:Gp->Prop):Prop:=match o with
 | .ref a=>∃ kvs pk,G a=some (.qT kvs)/\k=pM pk/\kvs.length < SZ/\Q (cT G a (.qT (Lh kvs pk d)))
 | _=>False
noncomputable def ES(o k:fx):zG:=fun E d τ G Q=>o E τ G fun x G1=>k E τ G1 fun y G2=>GL x y d G2 fun G3=>Q τ G3
noncomputable def Pz:fx:=fun _ _ G Q=>gI G (.qT []) Q
noncomputable def Py(k v:fx):fx:=fun E τ G Q=>k E τ G fun x G1=>v E τ G1 fun y G2=>∃ pk,x=pM pk/\gI G2 (.qT [(pk,y)]) Q
noncomputable def LR(x:D)(G1:Gp)(R:List D->(Gp->Prop)->Gp->Prop):Prop:=match x with
 | .nY kvs=>R (kvs.map fun p=>.tup [pM p.1,p.2]) (fun _=>True) G1
 | _=>False
noncomputable def uP(a:fx):IC:=fun E τ G R=>a E τ G fun x G1=>LR x G1 R
noncomputable def Ey(x:D)(ds:List D)(G:Gp)(Q:DK):Prop:=match x,ds with
 | .ref a,[k]=>∃ kvs d,G a=some (.eV kvs)/\(kc k=true/\(kvs.all fun p=>kc p.1)=true/\look kvs k=some d)/\Q d (cT G a (.eV (kvs.filter fun p=>!ig p.1 k)))
 | _,_=>False
end K2
end
section
namespace K2
noncomputable def HD(a:fx):IC:=fun E τ G R=>a E τ G fun x G1=>∃ ds,x=.tup ds/\R (j5 0 ds) (fun _=>True) G1
end K2
end
section
namespace K2
open PySem
section
variable {prog:bz} {w:World} {K:Type} [DecidableEq K] (knd:DL prog w K)
inductive sk (h:Heap):List K->List Value->Prop
 | nil:sk h [] []
 | cons {k:K} {b:Addr} {ks:List K} {vs:List Value}:knd.is h k b->sk h ks vs->sk h (k :: ks) (.ref b :: vs)
noncomputable def sr (h:Heap) (ks:List K) (a:Addr):Prop:=∃ o items n,h.get? a=some o/\o.cls=.type "tuple"/\o.data=.seq items n/\sk knd h ks items.toList
variable {knd}
theorem sk.inj{h:Heap}{x y:List K}{vs:List Value}(hx:sk knd h x vs)(hy:sk knd h y vs):x=y:=by
 induction hx generalizing y with
 | nil=>cases hy; rfl
 | cons h1 _ ih =>
  cases hy with
  | cons h2 t2=>rw [knd.inj h1 h2,ih t2]
theorem sk.keeps{h h':Heap}{ks:List K}{vs:List Value}{d:Addr}{o:Obj}{es ep}(x:sk knd h ks vs)(ho:h.get? d=some o)(hd:o.data=.dict es ep)(hs:eN d h h'):sk knd h' ks vs:=by
 induction x with
 | nil=>exact .nil
 | cons h1 _ ih=>exact .cons (knd.keeps h1 ho hd hs) ih
theorem sr.typeIs {s:av} {ks:List K} {a:Addr} (x:sr knd s.heap ks a):s.TypeIs (.ref a) "tuple":=let ⟨o,_,_,ho,hc,_⟩:=x; ⟨o,ho,hc⟩
theorem sr.inj{h:Heap}{a:Addr}{x y:List K}(hx:sr knd h x a)(hy:sr knd h y a):x=y:=by
 obtain⟨o,items,n,ho,_,hd,hi⟩:=hx;obtain⟨o',Zw,n',Ba,_,zF,HI⟩:=hy;obtain rfl:o=o':=aX (ho.symm.trans Ba);rw [hd] at zF;injection zF with h1 _
 subst h1;exact hi.inj HI
theorem sr.keeps{h h':Heap}{ks:List K}{a d:Addr}{o:Obj}{es ep}(x:sr knd h ks a)(ho:h.get? d=some o)(hd:o.data=.dict es ep)(hs:eN d h h'):sr knd h' ks a:=by
 obtain⟨o',items,n,Ba,hc,zF,hi⟩:=x;have qP:a≠d:=by
  rintro rfl;obtain rfl:o'=o:=aX (Ba.symm.trans ho);rw [hd] at zF; exact nomatch zF
 exact⟨o',items,n,(hs.2 a qP).trans Ba,hc,zF,hi.keeps ho hd hs⟩
noncomputable def Cm(knd:DL prog w K)(ks:List K):Int:=reduceHash (dn (ks.map knd.hash))
noncomputable def kg(knd:DL prog w K):List K->Nat
 | []=>0
 | k :: ks=>knd.draws k+kg knd ks
theorem uA(ks:List K)(k:K):kg knd (ks++[k])=kg knd ks+knd.draws k:=by
 induction ks with
 | nil=>simp [kg]
 | cons a r ih=>rw [aG,kg,kg,ih,jA]
variable {A:cL} {E:Value->av->Prop} {s:av}
theorem Kb{ks:List K}{a:Addr}{Q:Int->av->Prop}(hu:A.units < cLine/\knd.room A.in1)(hk:sr knd s.heap ks a)(h:Q (Cm knd ks) { s with toks:=s.toks+(kg knd ks+1) }) :
  wpAny (model prog w) A (pyHash (.ref a)) Q E s:=by
 have hT:=hk.typeIs;obtain⟨o,items,n,ho,_,hd,hi⟩:=hk;unfold pyHash
 first | unfold pyHashByItsType | skip
 first | refine ag (wpAny_cRoomFor_or (.inr hu.1) ?_) | skip
 refine ag (xC hT F.slot_tuple_hash.lookup ?_);show wpAny _ _ (if (some (Value.builtin "tuple.__hash__") == some dH)=true then _ else _) Q E s;rw [if_neg (by rw [beq_builtin_none]; exact dF)];refine ag (xC hT F.slot_tuple_hash.lookup ?_);show wpAny _ _ (callSpecialIfBoundUnlessNone? (.ref a) "__hash__" _ >>= _) Q E s;refine ag (wpAny_callSpecialIfBoundUnlessNone?_slot hT F.slot_tuple_hash (cz F.slot_tuple_hash hT F.entry_tuple_hash ?_ (F.args_tuple_hash_1 _)));show wpAny _ _ (xf (.ref a) >>= _) _ _ s;refine ag (DF ho hd ?_);refine ag ?_;rw [<-xQ];refine kG _
  (fun rest (b:Array Int) s'=>∃ done left,ks=done++left/\sk knd s.heap left rest/\b.toList=done.map knd.hash/\s'={ s with toks:=s.toks+kg knd done })
  _ ?_ ?_ _ _ ⟨[],ks,rfl,hi,rfl,rfl⟩
 ·rintro x rest b s' ⟨done,left,rfl,hl,hb,rfl⟩;cases hl with
  | @cons k _ ks' _ h1 VO =>
   refine ag (knd.pyHash hu.2 h1 ?_)
   first
    | exact aw ⟨done++[k],ks',by simp,VO,by simp [hb],by simp [uA,jA]⟩
    | exact ag (aw (aw ⟨done++[k],ks',by simp,VO,by simp [hb],by simp [uA,jA]⟩))
 ·rintro b s' ⟨done,left,rfl,hl,hb,rfl⟩;cases hl;rw [cH] at h;show wpAny _ _ (retInt (dn b.toList)) _ _ _;rw [hb];refine wpAny_ret_mkInt ?_;show wpAny _ _ (if (decide (-(2:Int) ^ 63<=dn (done.map knd.hash))&&decide (dn (done.map knd.hash) < 2 ^ 63))=true then _ else _) Q E _;unfold Cm reduceHash at h;by_cases hr:(decide (-(2:Int) ^ 63<=dn (done.map knd.hash))&&decide (dn (done.map knd.hash) < 2 ^ 63))=true
  ·rw [if_pos hr];rw [if_pos hr] at h;exact aw (by simpa [jA] using h)
  ·rw [if_neg hr];rw [if_neg hr] at h;exact ag (wpAny_rule (aw (by simpa [jA] using h)))
theorem HX{x y:List K}{a b:Addr}{P:Fin->av->Prop}(hu:knd.room A)(hx:sr knd s.heap x a)(hy:sr knd s.heap y b)(h:P (.done (.ret (.bool (decide (x=y))))) s) :
  wpAny (model prog w) A (Builtin.«tuple.__eq__» ⟨[.ref a,.ref b],[]⟩) P E s:=by
 have hTb:=hy.typeIs;obtain⟨oa,xs,na,hoa,_,hda,hia⟩:=hx;obtain⟨ob,ys,nb,hob,_,LW,hib⟩:=hy;show wpAny _ _ (isInstance (.ref b) (.type "tuple") >>= _) _ _ s;refine ag (oM hTb xI ?_);simp only [cj,aF,if_false];refine ag (DF hoa hda ?_);refine ag (DF hob LW ?_);refine ag ?_;refine kG _
  (fun rest r s'=>r.1=none/\s'=s/\∃ x' y' MX V1,rest=List.zip MX V1/\sk knd s.heap x' MX/\sk knd s.heap y' V1/\decide (x'=y')=decide (x=y)/\(MX.length == V1.length)=(xs.size == ys.size))
  _ ?_ ?_ _ _ ⟨rfl,rfl,x,y,xs.toList,ys.toList,rfl,hia,hib,rfl,by simp⟩
 ·rintro⟨u,v⟩ rest r s' ⟨hr,rfl,x',y',MX,V1,hz,VJ,SS,RJ,hlen⟩;cases VJ with
  | nil=>simp at hz
  | @cons k1 u' x'' YD h1 ZG =>
   cases SS with
   | nil=>simp at hz
   | @cons k2 v' y'' YC h2 ZE =>
    simp only [kI,List.cons.injEq,Prod.mk.injEq] at hz;obtain⟨⟨rfl,rfl⟩,rfl⟩:=hz;refine ag (knd.eqBool hu h1 h2 ?_);by_cases hk:k1=k2
    ·subst hk;rw [decide_eq_true rfl];simp only [cj,aF,if_false];refine aw ⟨rfl,rfl,x'',y'',YD,YC,rfl,ZG,ZE,?_,by simpa using hlen⟩;rw [<-RJ];by_cases VI:x''=y''
     ·simp [VI]
     ·simp [VI]
    ·rw [decide_eq_false hk];simp only [fK,if_true];have hf:decide (x=y)=false:=by rw [<-RJ]; simp [hk]
     rw [hf] at h;exact ag (aw (aw (aw h)))
 ·rintro⟨r1,r2⟩ s' ⟨hr,rfl,x',y',MX,V1,hz,VJ,SS,RJ,hlen⟩;simp only at hr;subst hr;refine aw ?_;have Z8:(xs.size == ys.size)=decide (x=y):=by
   rw [<-RJ,<-hlen];cases VJ with
   | nil =>
    cases SS with
    | nil=>simp
    | cons _ _=>simp
   | cons _ _ =>
    cases SS with
    | nil=>simp
    | cons _ _=>simp at hz
  show P (.done (.ret (.bool (xs.size == ys.size)))) s';rw [Z8]; exact h
theorem Bl{x y:List K}{a b:Addr}{Q:Bool->av->Prop}(hu:A.units < cLine/\knd.room A.in1)(hx:sr knd s.heap x a)(hy:sr knd s.heap y b)(h:Q (decide (x=y)) s) :
  wpAny (model prog w) A (eqBool (.ref a) (.ref b)) Q E s:=by
 unfold eqBool
 try with_reducible refine cS ?_
 show wpAny _ _ (if (dO a == dO b)=true then _ else _) Q E s;by_cases ER:(dO a == dO b)=true
 ·rw [if_pos ER];have e:a=b:=by have:=eq_of_beq ER; injection this
  subst e;obtain rfl:=hx.inj hy;exact ag (wpAny_rule (aw (by simpa using h)))
 ·rw [if_neg ER];exact ag (wpAny_richCompare_same_room (op:=.Eq) hx.typeIs hy.typeIs F.slot_tuple_eq
   (cz F.slot_tuple_eq hx.typeIs F.entry_tuple_eq (HX hu.2 hx hy ⟨_,rfl,(fun e=>nomatch e),ik h⟩) (F.args_tuple_eq_2 _ _)) hu.1)
theorem ye{ks:List K}{a:Addr}{Q:Bool->av->Prop}(n:Nat)(hq:∀ (k:K) (b:Addr) (Q:Bool->av->Prop),knd.is s.heap k b->Q true s->wpAny (model prog w) A (MS n (.ref b)) Q E s)(hk:sr knd s.heap ks a)(h:Q true s):wpAny (model prog w) A (MS (n+1) (.ref a)) Q E s:=by
 have hT:=hk.typeIs;obtain⟨o,items,n',ho,_,hd,hi⟩:=hk;unfold MS;refine ag (xC hT F.slot_tuple_eq.lookup ?_);show wpAny _ _ (isInstance (.ref a) (.type "tuple") >>= _) _ _ s;refine ag (oM hT xI ?_);simp only [cj,aF,if_false];refine ag (km ho hd ?_);refine ag ?_;show wpAny _ _ (forIn items _ _) _ _ s;rw [<-xQ];refine kG _ (fun rest r s'=>r.1=none/\s'=s/\∃ l,sk knd s.heap l rest) _ ?_ ?_ _ _ ⟨rfl,rfl,_,hi⟩
 ·rintro v rest r s' ⟨hr,rfl,l,yN⟩;cases yN with
  | cons h1 h2 =>
   refine ag (hq _ _ _ h1 ?_);simp only [cj,aF,if_false];exact aw ⟨rfl,rfl,_,h2⟩
 ·rintro⟨r1,r2⟩ s' ⟨hr,rfl,_⟩;simp only at hr;subst hr;exact aw h
end
theorem Js{prog:bz}{w:World}{K:Type} [DecidableEq K]{knd:KeyKind prog w K}{A:cL}{E:Value->av->Prop}{s:av}{ks:List K}{a:Addr}{Q:Bool->av->Prop}(n:Nat)(hk:IsTupleKey knd s.heap ks a)(h:Q true s):wpAny (model prog w) A (MS (n+1) (.ref a)) Q E s:=by
 have hT:=hk.typeIs;obtain⟨o,items,n',ho,_,hd,hi⟩:=hk;unfold MS;refine ag (xC hT F.slot_tuple_eq.lookup ?_);show wpAny _ _ (isInstance (.ref a) (.type "tuple") >>= _) _ _ s;refine ag (oM hT xI ?_);simp only [cj,aF,if_false];refine ag (km ho hd ?_);refine ag ?_;show wpAny _ _ (forIn items _ _) _ _ s;rw [<-xQ];refine kG _ (fun rest r s'=>r.1=none/\s'=s/\∀ v∈rest,carriedByValue v=true) _ ?_ ?_ _ _ ⟨rfl,rfl,hi.byValue⟩
 ·rintro v rest r s' ⟨hr,rfl,yN⟩;rw [eqIsQuiet_byValue _ (yN v cG)];refine ag (aw ?_);simp only [cj,aF,if_false];exact aw ⟨rfl,rfl,fun u A7=>yN u (au _ A7)⟩
 ·rintro⟨r1,r2⟩ s' ⟨hr,rfl,_⟩;simp only at hr;subst hr;exact aw h
section
variable {prog:bz} {w:World}
noncomputable def VG{K:Type} [DecidableEq K](knd:KeyKind prog w K):DL prog w (List (List K)) where
 is:=sr (ip knd)
 hash:=Cm (ip knd)
 draws:=fun ks=>kg (ip knd) ks+1
 room:=fun A=>A.units < cLine/\(ip knd).room A.in1
 inj:=fun hx hy=>hx.inj hy
 keeps:=fun x ho hd hs=>x.keeps ho hd hs
 pyHash:=fun hu hk h=>Kb hu hk h
 eqBool:=fun hu hx hy h=>Bl hu hx hy h
 quiet:=fun hk h=>ye 7 (fun _ _ _ h1 h2=>Js 6 h1 h2) hk h
noncomputable def Zh{K:Type} [DecidableEq K](knd:KeyKind prog w K):DL prog w (List (List (List K))) where
 is:=sr (VG knd)
 hash:=Cm (VG knd)
 draws:=fun ks=>kg (VG knd) ks+1
 room:=fun A=>A.units < cLine/\(VG knd).room A.in1
 inj:=fun hx hy=>hx.inj hy
 keeps:=fun x ho hd hs=>x.keeps ho hd hs
 pyHash:=fun hu hk h=>Kb hu hk h
 eqBool:=fun hu hx hy h=>Bl hu hx hy h
 quiet:=fun hk h=>ye 7 (fun _ _ _ h1 h2=>ye 6 (fun _ _ _ h3 h4=>Js 5 h3 h4) h1 h2) hk h
theorem Lv{K:Type} [DecidableEq K]{knd:KeyKind prog w K}{A:cL}(hu:A.units+8 < cLine):(Zh knd).room A:=by
 refine⟨?_,?_,?_⟩
 ·lia
 ·show A.units+1 < cLine; lia
 ·show A.units+1+1 < cLine; lia
theorem Ej{K:Type} [DecidableEq K]{knd:KeyKind prog w K}{A:cL}(hu:A.units+8 < cLine):(Zh knd).room A.in1:=by
 refine⟨?_,?_,?_⟩
 ·show A.units+1 < cLine; lia
 ·show A.units+1+1 < cLine; lia
 ·show A.units+1+1+1 < cLine; lia
end
section
variable {K:Type} [DecidableEq K]
noncomputable def Ts(xs:List (K×Addr×Value))(k:K):List (K×Addr×Value):=xs.filter fun x=>decide (x.1≠k)
theorem KZ{xs:List (K×Addr×Value)}(hn:(xs.map (·.1)).Nodup):∀ {j:Nat} {k:K} {p:Addr×Value},xs[j]?=some (k,p)->xs.eraseIdx j=Ts xs k:=by
 induction xs with
 | nil=>intro j k p h; simp at h
 | cons x r ih =>
  intro j k p h;rw [aj,aQ] at hn;cases j with
  | zero =>
   simp only [aa,KS] at h;subst h;unfold Ts;rw [List.eraseIdx_cons_zero,Mu (by simp)];symm;refine List.filter_eq_self.mpr fun y hy=>?_;have:y.1≠k:=fun z=>hn.1 (List.mem_map.mpr ⟨y,hy,z⟩);simpa using this
  | succ j =>
   simp only [ae] at h;have:x.1≠k:=fun z=>hn.1 (by rw [z]; exact List.mem_map.mpr ⟨_,eD h,rfl⟩);unfold Ts;rw [List.eraseIdx_cons_succ,Mt (by simpa using this),ih hn.2 h];rfl
theorem AV{α β:Type}(f:α->β):∀ (l:List α) (j:Nat),(l.eraseIdx j).map f=(l.map f).eraseIdx j
 | [],_=>rfl
 | _ :: _,0=>rfl
 | a :: l,j+1=>congrArg (f a :: ·) (AV f l j)
end
section
variable {prog:bz} {w:World} {K:Type} [DecidableEq K] {knd:DL prog w K} {A:cL} {E:Value->av->Prop} {s:av}
theorem BV{d a:Addr}{xs:List (K×Addr×Value)}{k:K}{p:Addr×Value}{Q:Option fc->av->Prop}(hu:knd.room A)(RH:knd.is s.heap k a)(hm:s.heap.DictOfH knd d xs)(hp:atKey xs k=some p)(hsz:xs.length<=aY)
  (hQ:∀ e:fc,e.val=p.2->∀ h',h'.DictOfH knd d (Ts xs k)->eN d s.heap h'->Q (some e) { s with heap:=h',toks:=s.toks+knd.draws k }) :
  wpAny (model prog w) A (DO d (.ref a)) Q E s:=by
 obtain⟨o,es,ep,ho,hc,hd,he,Z2,hn⟩:=hm;unfold DO
 try with_reducible refine cS ?_
 refine ag (knd.pyHash hu RH (ag (wpAny_dictFind_heap (s:={ s with toks:=s.toks+knd.draws k }) hu RH ho hd he Z2 hn ?_ ?_)))
 ·intro W4;rw [atKey_none_of_get W4] at hp; cases hp
 ·intro j q hj;rw [atKey_of_get hn hj] at hp;cases hp;refine ag (fX (s:={ s with toks:=s.toks+knd.draws k }) ho hd ?_);rw [entry_at he j,hj]
  refine ag (wpAny_updateDictKeys (hz:=by have e:=size_of_entries he; lia) (s:={ s with toks:=s.toks+knd.draws k }) ho hd (aw (hQ _ rfl _ ⟨_,_,ep+1,gF _ ho (Obj.isFreed_of_dict (Obj.data_mapDictKeys hd _)),
   hc.mapDictKeys _,Obj.data_mapDictKeys hd _,?_,?_,?_⟩ (fw ..))))
  ·rw [<-KZ hn hj,AV,<-he];obtain⟨l⟩:=es;simp
  ·intro x hx;exact knd.keeps (Z2 x (List.mem_filter.mp hx).1) ho hd (fw ..)
  ·exact mL (i8 _ ic) hn
theorem NO{d a:Addr}{xs:List (K×Addr×Value)}{k:K}{p:Addr×Value}{Q:Value->av->Prop}(hu:knd.room A.in1)(RH:knd.is s.heap k a)(hm:s.heap.DictOfH knd d xs)(hp:atKey xs k=some p)(hsz:xs.length<=aY)
  (hQ:∀ h',h'.DictOfH knd d (Ts xs k)->eN d s.heap h'->Q p.2 { s with heap:=h',toks:=s.toks+knd.draws k }) :
  wpAny (model prog w) A (call (.builtin "dict.pop") [.ref d,.ref a]) Q E s:=by
 have hT:s.TypeIs (.ref d) "dict":=by obtain⟨o,es,ep,ho,hc,_⟩:=hm; exact⟨o,ho,hc.1⟩
 refine cz sQ hT PySem.F.entry_dict_pop ?_ (PySem.F.args_dict_pop_2 _ _);unfold Builtin.«dict.pop»;refine ag ?_;unfold Builtin.Dict.keyAndDefault;refine ag (xD hT ?_);show wpAny _ _ (pure (d,dO a,none)) _ _ s;refine aw ?_;have ZX:=hm;obtain⟨o,es,ep,ho,hc,hd,he,Z2,hn⟩:=ZX;have qP:es.isEmpty=false:=by
  have:xs≠[]:=by rintro rfl; cases hp
  have h2:=size_of_entries he;have h3:0 < xs.length:=List.length_pos_iff.mpr this;rw [Array.isEmpty_eq_false_iff];rintro rfl;simp at h2; lia
 simp only [keyPart,Option.isSome_none,aF,if_false];refine ag (fX ho hd (ag (aw ?_)));rw [qP,if_neg dF];refine ag (BV hu RH hm hp hsz fun e hv h' ZX OS=>?_);simp only [Option.isNone_some,aF,if_false];exact ag (vw (aw ⟨e.val,rfl,by rw [hv]; exact hQ h' ZX OS⟩))
end
end K2
end
section
namespace K2
open PySem PySem.Spec PyProof.Rows L2
noncomputable def VW(K:ai)(H:Hp)(a:Addr)(xs:List V):Prop :=
 (∃ o,H a=some (.jZ o (.lst xs))) \/
  ∃ (o:Obj) (bG:Array Value) (n:Nat),K.lookup a=some o/\o.cls=.type "list"/\o.dict=none/\o.data=.seq bG n/\bG.size<=aY/\Vals xs bG.toList
theorem VW.sq{K:ai}{H:Hp}{a:Addr}{xs:List V}(h:VW K H a xs):oK K H a xs:=by
 rcases h with ⟨o,h⟩ | h
 ·exact .inl (.inr ⟨o,h⟩)
 ·exact .inr h
noncomputable def dM:Key->D
 | .inl i=>.int i
 | .inr x=>.str x
noncomputable def ExcAt(K:ai)(H:Hp)(a:Addr)(c:Str):Prop:=∃ (o:Obj) (C:Addr),H a=some (.jZ o (.ext fun h=>h.get? a=some o))/\o.cls=.ref C/\dD K bL c=some (some (.ref C))
noncomputable def KL(K:ai)(H:Hp)(a:Addr)(c:Str)(ns:List Str)(vs:List V):Prop:=∃ (o:Obj) (C dx:Addr) (od:Obj) (fs:List (Str×V)),H a=some (.jZ o (.ext fun h=>h.get? a=some o))/\o.cls=.ref C/\dD K bL c=some (some (.ref C))/\o.dict=some dx/\H dx=some (.jZ od (.xd fs))/\PySem.W.notCls o=true/\fs.map (·.1)=ns/\fs.map (·.2)=vs
noncomputable def ZP(hs:List Int):Int:=reduceHash (dn hs)
noncomputable def hP(k:PK):Int:=ZP (k.map fun r=>ZP (r.map fun t=>ZP (t.map hashInt)))
noncomputable def IE(a:Addr)(xs:List (PK×Addr×Value))(h:Heap):Prop:=xs.length<=aY/\(a == cO)=false/\∃ (o:Obj) (es:Array fc) (ep:Nat),h.get? a=some o/\o.ExactDict/\o.data=.dict es ep/\es.toList=xs.map (fun x=>⟨hP x.1,.ref x.2.1,x.2.2⟩)/\(xs.map (·.1)).Nodup
noncomputable def R8(kvs:List (PK×D))(ks vs:List V)(xs:List (PK×Addr×Value)):Prop:=kvs.map (fun p=>p.1)=xs.map (fun x=>x.1)/\ks=xs.map (fun x=>V.ref x.2.1)/\Vals vs (xs.map fun x=>x.2.2)
mutual
inductive bW (K:ai) (H:Hp):V->D->Prop
 | eg:bW K H .eg .eg
 | bl (b:Bool):bW K H (.bl b) (.bl b)
 | int (i:Int):bW K H (.int i) (.int i)
 | str (x:Str):bW K H (.str x) (.str x)
 | tup {a:Addr} {vs:List V} {ds:List D}:H a=some (.tup vs)->ba K H vs ds->bW K H (.ref a) (.tup ds)
 | dJ {a:Addr} {vs:List V} {ds:List D}:VW K H a vs->ba K H vs ds->bW K H (.ref a) (.dJ ds)
 | oW {a:Addr} {o:Obj} {kv:List (Key×V)} {kvs:List (D×D)}:H a=some (.jZ o (.dK kv))->lI K H kv kvs->bW K H (.ref a) (.gN kvs)
 | oV {a:Addr} {o:Obj} {kv:List (List Key×V)} {kvs:List (D×D)}:H a=some (.jZ o (.dT kv))->ly K H kv kvs->bW K H (.ref a) (.gN kvs)
 | ref (a:Addr):bW K H (.ref a) (.ref a)
 | exc {a:Addr} {c:Str}:ExcAt K H a c->bW K H (.ref a) (.exc c)
 | E1 {a:Addr} {c:Str} {ns:List Str} {vs:List V} {ds:List D}:KL K H a c ns vs->ba K H vs ds->bW K H (.ref a) (.E1 c ns ds)
 | nY {a:Addr} {o:Obj} {xs:List (PK×Addr×Value)} {ks vs:List V} {kvs:List (PK×D)}:H a=some (.jZ o (.ext (IE a xs)))->R8 kvs ks vs xs->ba K H ks (kvs.map fun p=>pM p.1)->ba K H vs (kvs.map fun p=>p.2)->bW K H (.ref a) (.nY kvs)
inductive ba (K:ai) (H:Hp):List V->List D->Prop
 | nil:ba K H [] []
 | cons {v:V} {d:D} {vs:List V} {ds:List D}:bW K H v d->ba K H vs ds->ba K H (v :: vs) (d :: ds)
inductive lI (K:ai) (H:Hp):List (Key×V)->List (D×D)->Prop
 | nil:lI K H [] []
 | cons {k:Key} {v:V} {d:D} {r:List (Key×V)} {t:List (D×D)}:bW K H v d->lI K H r t->lI K H ((k,v) :: r) ((dM k,d) :: t)
inductive ly (K:ai) (H:Hp):List (List Key×V)->List (D×D)->Prop
 | nil:ly K H [] []
 | cons {k:List Key} {v:V} {d:D} {r:List (List Key×V)} {t:List (D×D)}:bW K H v d->ly K H r t->ly K H ((k,v) :: r) ((.tup (k.map dM),d) :: t)
end
structure Kp(H H':Hp):Prop where
 tup:∀ a xs,H a=some (.tup xs)->H' a=some (.tup xs)
 jZ:∀ a o u,H a=some (.jZ o u)->H' a=some (.jZ o u)
theorem Kp.refl(H:Hp):Kp H H:=⟨fun _ _ h=>h,fun _ _ _ h=>h⟩
theorem Kp.trans{H H1 H2:Hp}(a:Kp H H1)(b:Kp H1 H2):Kp H H2:=⟨fun c xs h=>b.tup c xs (a.tup c xs h),fun c o u h=>b.jZ c o u (a.jZ c o u h)⟩
theorem Kp.sqT{K:ai}{H H':Hp}{a:Addr}{xs:List V}(k:Kp H H')(h:vj K H a xs):vj K H' a xs:=by
 rcases h with (h | ⟨o,h⟩) | h
 ·exact .inl (.inl (k.tup _ _ h))
 ·exact .inl (.inr ⟨o,k.jZ _ _ _ h⟩)
 ·exact .inr h
theorem Kp.TK{K:ai}{H H':Hp}{a:Addr}{xs:List V}(k:Kp H H')(h:VW K H a xs):VW K H' a xs:=by
 rcases h with ⟨o,h⟩ | h
 ·exact .inl ⟨o,k.jZ _ _ _ h⟩
 ·exact .inr h
theorem ExcAt.mono{K:ai}{H H':Hp}(k:Kp H H'){a:Addr}{c:Str}(h:ExcAt K H a c):ExcAt K H' a c :=
 let ⟨o,C,h1,h2,h3⟩:=h
 ⟨o,C,k.jZ _ _ _ h1,h2,h3⟩
theorem KL.mono{K:ai}{H H':Hp}(k:Kp H H'){a:Addr}{c:Str}{ns:List Str}{vs:List V}(h:KL K H a c ns vs):KL K H' a c ns vs :=
 let ⟨o,C,dx,od,fs,h1,h2,h3,h4,h5,h6⟩:=h
 ⟨o,C,dx,od,fs,k.jZ _ _ _ h1,h2,h3,h4,k.jZ _ _ _ h5,h6⟩
theorem ba.HC{K:ai}{H:Hp}{P:List V->List D->Prop}(h0:P [] [])(h1:∀ {v:V} {d:D} {vs:List V} {ds:List D},bW K H v d->ba K H vs ds->P vs ds->P (v :: vs) (d :: ds)){vs:List V}{ds:List D}(h:ba K H vs ds):P vs ds :=
 ba.rec (motive_1:=fun _ _ _=>True) (motive_2:=fun vs ds _=>P vs ds) (motive_3:=fun _ _ _=>True) (motive_4:=fun _ _ _=>True) trivial (fun _=>trivial) (fun _=>trivial) (fun _=>trivial) (fun _ _ _=>trivial) (fun _ _ _=>trivial) (fun _ _ _=>trivial) (fun _ _ _=>trivial) (fun _=>trivial) (fun _=>trivial) (fun _ _ _=>trivial) (fun _ _ _ _ _ _=>trivial) h0 (fun a b _ ih=>h1 a b ih) trivial (fun _ _ _ _=>trivial) trivial (fun _ _ _ _=>trivial) h
theorem bW.mono{K:ai}{H H':Hp}(k:Kp H H'):∀ {v:V} {d:D},bW K H v d->bW K H' v d:=fun h =>
 bW.rec (motive_1:=fun v d _=>bW K H' v d) (motive_2:=fun v d _=>ba K H' v d) (motive_3:=fun v d _=>lI K H' v d) (motive_4:=fun v d _=>ly K H' v d)
  .eg .bl .int .str (fun h _ r=>.tup (k.tup _ _ h) r) (fun h _ r=>.dJ (k.TK h) r) (fun h _ r=>.oW (k.jZ _ _ _ h) r) (fun h _ r=>.oV (k.jZ _ _ _ h) r) .ref (fun h=>.exc (h.mono k)) (fun h _ r=>.E1 (h.mono k) r) (fun h z _ _ r1 r2=>.nY (k.jZ _ _ _ h) z r1 r2) .nil (fun _ _ a b=>.cons a b) .nil (fun _ _ a b=>.cons a b) .nil (fun _ _ a b=>.cons a b) h
theorem ba.mono{K:ai}{H H':Hp}(k:Kp H H'){v:List V}{d:List D}(h:ba K H v d):ba K H' v d :=
 ba.HC (P:=fun v d=>ba K H' v d) .nil (fun r _ ih=>.cons (r.mono k) ih) h
theorem lI.mono{K:ai}{H H':Hp}(k:Kp H H'){v:List (Key×V)}{d:List (D×D)}(h:lI K H v d):lI K H' v d :=
 lI.rec (motive_1:=fun v d _=>bW K H' v d) (motive_2:=fun v d _=>ba K H' v d) (motive_3:=fun v d _=>lI K H' v d) (motive_4:=fun v d _=>ly K H' v d)
  .eg .bl .int .str (fun h _ r=>.tup (k.tup _ _ h) r) (fun h _ r=>.dJ (k.TK h) r) (fun h _ r=>.oW (k.jZ _ _ _ h) r) (fun h _ r=>.oV (k.jZ _ _ _ h) r) .ref (fun h=>.exc (h.mono k)) (fun h _ r=>.E1 (h.mono k) r) (fun h z _ _ r1 r2=>.nY (k.jZ _ _ _ h) z r1 r2) .nil (fun _ _ a b=>.cons a b) .nil (fun _ _ a b=>.cons a b) .nil (fun _ _ a b=>.cons a b) h
theorem ly.mono{K:ai}{H H':Hp}(k:Kp H H'){v:List (List Key×V)}{d:List (D×D)}(h:ly K H v d):ly K H' v d :=
 ly.rec (motive_1:=fun v d _=>bW K H' v d) (motive_2:=fun v d _=>ba K H' v d) (motive_3:=fun v d _=>lI K H' v d) (motive_4:=fun v d _=>ly K H' v d)
  .eg .bl .int .str (fun h _ r=>.tup (k.tup _ _ h) r) (fun h _ r=>.dJ (k.TK h) r) (fun h _ r=>.oW (k.jZ _ _ _ h) r) (fun h _ r=>.oV (k.jZ _ _ _ h) r) .ref (fun h=>.exc (h.mono k)) (fun h _ r=>.E1 (h.mono k) r) (fun h z _ _ r1 r2=>.nY (k.jZ _ _ _ h) z r1 r2) .nil (fun _ _ a b=>.cons a b) .nil (fun _ _ a b=>.cons a b) .nil (fun _ _ a b=>.cons a b) h
theorem ba.length{K:ai}{H:Hp}:∀ {vs:List V} {ds:List D},ba K H vs ds->vs.length=ds.length:=fun h =>
 ba.HC (P:=fun vs ds=>vs.length=ds.length) rfl (fun _ _ ih=>congrArg (· + 1) ih) h
theorem ba.get{K:ai}{H:Hp}:∀ {vs:List V} {ds:List D} {i:Nat} {d:D},ba K H vs ds->ds[i]?=some d->∃ v,vs[i]?=some v/\bW K H v d:=by
 intro vs ds i d h;refine ba.HC (P:=fun vs ds=>∀ (i:Nat) (d:D),ds[i]?=some d->∃ v,vs[i]?=some v/\bW K H v d) (fun i d e=>by cases e) (fun r _ ih i d e=>?_) h i d;cases i with
 | zero=>cases e; exact⟨_,rfl,r⟩
 | succ i=>exact ih i d e
theorem ba.append{K:ai}{H:Hp}:∀ {vs ws:List V} {ds es:List D},ba K H vs ds->ba K H ws es->ba K H (vs++ws) (ds++es):=fun {_ ws _ es} h s =>
 ba.HC (P:=fun vs ds=>ba K H (vs++ws) (ds++es)) s (fun r _ ih=>.cons r ih) h
theorem ba.take{K:ai}{H:Hp}:∀ {vs:List V} {ds:List D} (n:Nat),ba K H vs ds->ba K H (vs.take n) (ds.take n):=fun {_ _} n h =>
 ba.HC (P:=fun vs ds=>∀ n,ba K H (vs.take n) (ds.take n)) (fun n=>by rw [sC,sC]; exact .nil) (fun r _ ih n=>by
  cases n with
  | zero=>exact .nil
  | succ n=>exact .cons r (ih n)) h n
theorem ba.drop{K:ai}{H:Hp}:∀ {vs:List V} {ds:List D} (n:Nat),ba K H vs ds->ba K H (vs.drop n) (ds.drop n):=fun {_ _} n h =>
 ba.HC (P:=fun vs ds=>∀ n,ba K H (vs.drop n) (ds.drop n)) (fun n=>by rw [zB,zB]; exact .nil) (fun r t ih n=>by
  cases n with
  | zero=>exact .cons r t
  | succ n=>exact ih n) h n
theorem ba.set{K:ai}{H:Hp}{v:V}{d:D}(r:bW K H v d):∀ {vs:List V} {ds:List D} (i:Nat),ba K H vs ds->ba K H (vs.set i v) (ds.set i d):=fun {_ _} i h =>
 ba.HC (P:=fun vs ds=>∀ i,ba K H (vs.set i v) (ds.set i d)) (fun i=>by rw [BJ,BJ]; exact .nil) (fun q t ih i=>by
  cases i with
  | zero=>exact .cons r t
  | succ i=>exact .cons q (ih i)) h i
theorem ba.one{K:ai}{H:Hp}:∀ {vs:List V} {d:D},ba K H vs [d]->∃ v,vs=[v]/\bW K H v d:=by
 intro vs d h;cases h with
 | cons r t=>cases t; exact⟨_,rfl,r⟩
theorem ba.two{K:ai}{H:Hp}:∀ {vs:List V} {d e:D},ba K H vs [d,e]->∃ v u,vs=[v,u]/\bW K H v d/\bW K H u e:=by
 intro vs d e h;cases h with
 | cons r t =>
  obtain⟨u,rfl,q⟩:=ba.one t;exact⟨_,_,rfl,r,q⟩
theorem ba.zero{K:ai}{H:Hp}:∀ {vs:List V},ba K H vs []->vs=[]
 | _,.nil=>rfl
theorem ba.ints{K:ai}{H:Hp}:∀ {vs:List V} {ns:List Int},ba K H vs (ns.map D.int)->vs=ns.map V.int:=by
 intro vs ns;induction ns generalizing vs with
 | nil=>intro h; exact h.zero
 | cons n ns ih =>
  intro h;cases h with
  | cons r t =>
   cases r;rw [ih t]; rfl
theorem ba.JI{K:ai}{H:Hp}:∀ (ns:List Int),ba K H (ns.map V.int) (ns.map D.int)
 | []=>.nil
 | n :: ns=>.cons (.int n) (ba.JI ns)
theorem lI.ind{K:ai}{H:Hp}{motive:∀ (kv:List (Key×V)) (kvs:List (D×D)),lI K H kv kvs->Prop}(nil:motive [] [] .nil)
  (cons:∀ {k:Key} {v:V} {d:D} {r:List (Key×V)} {t:List (D×D)} (re:bW K H v d) (rs:lI K H r t),motive r t rs->motive ((k,v) :: r) ((dM k,d) :: t) (.cons re rs)):∀ {kv:List (Key×V)} {kvs:List (D×D)} (h:lI K H kv kvs),motive kv kvs h:=fun h =>
 lI.rec (motive_1:=fun _ _ _=>True) (motive_2:=fun _ _ _=>True) (motive_3:=motive) (motive_4:=fun _ _ _=>True) trivial (fun _=>trivial) (fun _=>trivial) (fun _=>trivial) (fun _ _ _=>trivial) (fun _ _ _=>trivial) (fun _ _ _=>trivial) (fun _ _ _=>trivial) (fun _=>trivial) (fun _=>trivial) (fun _ _ _=>trivial) (fun _ _ _ _ _ _=>trivial) trivial (fun _ _ _ _=>trivial) nil (fun a b _ ih=>cons a b ih) trivial (fun _ _ _ _=>trivial) h
theorem ly.ind{K:ai}{H:Hp}{motive:∀ (kv:List (List Key×V)) (kvs:List (D×D)),ly K H kv kvs->Prop}(nil:motive [] [] .nil)
  (cons:∀ {k:List Key} {v:V} {d:D} {r:List (List Key×V)} {t:List (D×D)} (re:bW K H v d) (rs:ly K H r t),motive r t rs->motive ((k,v) :: r) ((.tup (k.map dM),d) :: t) (.cons re rs)):∀ {kv:List (List Key×V)} {kvs:List (D×D)} (h:ly K H kv kvs),motive kv kvs h:=fun h =>
 ly.rec (motive_1:=fun _ _ _=>True) (motive_2:=fun _ _ _=>True) (motive_3:=fun _ _ _=>True) (motive_4:=motive) trivial (fun _=>trivial) (fun _=>trivial) (fun _=>trivial) (fun _ _ _=>trivial) (fun _ _ _=>trivial) (fun _ _ _=>trivial) (fun _ _ _=>trivial) (fun _=>trivial) (fun _=>trivial) (fun _ _ _=>trivial) (fun _ _ _ _ _ _=>trivial) trivial (fun _ _ _ _=>trivial) trivial (fun _ _ _ _=>trivial) nil (fun a b _ ih=>cons a b ih) h
theorem lI.length{K:ai}{H:Hp}:∀ {v:List (Key×V)} {d:List (D×D)},lI K H v d->v.length=d.length:=fun h =>
 lI.ind (motive:=fun v d _=>v.length=d.length) rfl (fun _ _ ih=>congrArg (· + 1) ih) h
theorem ly.length{K:ai}{H:Hp}:∀ {v:List (List Key×V)} {d:List (D×D)},ly K H v d->v.length=d.length:=fun h =>
 ly.ind (motive:=fun v d _=>v.length=d.length) rfl (fun _ _ ih=>congrArg (· + 1) ih) h
noncomputable def KP(K:ai)(H:Hp)(a:Addr):GO->Prop
 | .lst ds=>∃ vs,H a=some (.lst vs)/\ba K H vs ds
 | .eV kvs=>(∃ kv,H a=some (.dK kv)/\lI K H kv kvs)\/∃ kv,H a=some (.dT kv)/\ly K H kv kvs
 | .ins c fs=>∃ C dx fv,H a=some (.ins C dx fv)/\dD K bL c=some (some (.ref C))/\fv.map (·.1)=fs.map (·.1)/\ba K H (fv.map (·.2)) (fs.map (·.2))
 | .qT kvs=>∃ xs ks vs,H a=some (.ext (IE a xs))/\R8 kvs ks vs xs/\ba K H ks (kvs.map fun p=>pM p.1)/\ba K H vs (kvs.map fun p=>p.2)
noncomputable def kN(K:ai)(H:Hp)(G:Gp):Prop:=∀ a g,G a=some g->KP K H a g
theorem KP.dk{K:ai}{H:Hp}{a:Addr}{kv:List (Key×V)}{kvs:List (D×D)}(h:H a=some (.dK kv))(r:lI K H kv kvs):KP K H a (.eV kvs):=.inl ⟨kv,h,r⟩
theorem KP.dt{K:ai}{H:Hp}{a:Addr}{kv:List (List Key×V)}{kvs:List (D×D)}(h:H a=some (.dT kv))(r:ly K H kv kvs):KP K H a (.eV kvs):=.inr ⟨kv,h,r⟩
theorem KP.mono{K:ai}{H H':Hp}{a:Addr}{g:GO}(k:Kp H H')(e:H' a=H a)(h:KP K H a g):KP K H' a g:=by
 cases g with
 | lst ds=>obtain⟨vs,q,r⟩:=h; exact⟨vs,e.trans q,r.mono k⟩
 | ins c fs=>obtain⟨C,dx,fv,q,h1,h2,r⟩:=h; exact⟨C,dx,fv,e.trans q,h1,h2,r.mono k⟩
 | qT kvs=>obtain⟨xs,ks,vs,q,h1,r1,r2⟩:=h; exact⟨xs,ks,vs,e.trans q,h1,r1.mono k,r2.mono k⟩
 | eV kvs =>
  rcases h with ⟨kv,q,r⟩ | ⟨kv,q,r⟩
  ·exact .inl ⟨kv,e.trans q,r.mono k⟩
  ·exact .inr ⟨kv,e.trans q,r.mono k⟩
theorem KP.tracked{K:ai}{H:Hp}{a:Addr}{g:GO}(h:KP K H a g):H a≠none:=by
 cases g with
 | lst ds=>obtain⟨vs,q,r⟩:=h; rw [q]; simp
 | ins c fs=>obtain⟨C,dx,fv,q,_⟩:=h; rw [q]; simp
 | qT kvs=>obtain⟨xs,ks,vs,q,_⟩:=h; rw [q]; simp
 | eV kvs =>
  rcases h with ⟨kv,q,r⟩ | ⟨kv,q,r⟩
  ·rw [q]; simp
  ·rw [q]; simp
theorem kN.free{K:ai}{H:Hp}{G:Gp}{a:Addr}(h:kN K H G)(e:H a=none):G a=none:=by
 cases q:G a with
 | none=>rfl
 | some g=>exact absurd e (h a g q).tracked
theorem kN.Wz{K:ai}{H:Hp}{G:Gp}{a:Addr}{xs:List V}(h:kN K H G)(e:H a=some (.tup xs)):G a=none:=by
 cases q:G a with
 | none=>rfl
 | some g =>
  have z:=h a g q;cases g with
  | lst ds=>obtain⟨vs,q,r⟩:=z; rw [e] at q; cases q
  | ins c fs=>obtain⟨C,dx,fv,q,_⟩:=z; rw [e] at q; cases q
  | qT kvs=>obtain⟨xs,ks,vs,q,_⟩:=z; rw [e] at q; cases q
  | eV kvs =>
   rcases z with ⟨kv,q,r⟩ | ⟨kv,q,r⟩
   ·rw [e] at q; cases q
   ·rw [e] at q; cases q
theorem kN.WA{K:ai}{H:Hp}{G:Gp}{a:Addr}{o:Obj}{u:HO}(h:kN K H G)(e:H a=some (.jZ o u)):G a=none:=by
 cases q:G a with
 | none=>rfl
 | some g =>
  have z:=h a g q;cases g with
  | lst ds=>obtain⟨vs,q,r⟩:=z; rw [e] at q; cases q
  | ins c fs=>obtain⟨C,dx,fv,q,_⟩:=z; rw [e] at q; cases q
  | qT kvs=>obtain⟨xs,ks,vs,q,_⟩:=z; rw [e] at q; cases q
  | eV kvs =>
   rcases z with ⟨kv,q,r⟩ | ⟨kv,q,r⟩
   ·rw [e] at q; cases q
   ·rw [e] at q; cases q
structure Mv(K:ai)(H:Hp)(G:Gp)(H':Hp)(G':Gp):Prop where
 keep:∀ a o,H a=some o->G a=none->H' a=some o/\G' a=none
 lU:∀ a,G a≠none->H' a≠none
 ab:kN K H' G'
theorem Mv.refl{K:ai}{H:Hp}{G:Gp}(h:kN K H G):Mv K H G H G:=⟨fun _ _ e n=>⟨e,n⟩,fun a n=>by
 cases q:G a with
 | none=>exact absurd q n
 | some g=>exact(h a g q).tracked,h⟩
theorem Mv.trans{K:ai}{H H1 H2:Hp}{G G1 G2:Gp}(a:Mv K H G H1 G1)(b:Mv K H1 G1 H2 G2):Mv K H G H2 G2 :=
 ⟨fun c o e n=>let ⟨e1,n1⟩:=a.keep c o e n; b.keep c o e1 n1,fun c n=>by
  have h1:=a.lU c n;cases q:G1 c with
  | some g=>exact b.lU c (by rw [q]; simp)
  | none =>
   cases q1:H1 c with
   | none=>exact absurd q1 h1
   | some o=>rw [(b.keep c o q1 q).1]; simp,b.ab⟩
theorem Mv.kp{K:ai}{H H':Hp}{G G':Gp}(m:Mv K H G H' G')(h:kN K H G):Kp H H' :=
 ⟨fun a xs e=>(m.keep a _ e (h.Wz e)).1,fun a o u e=>(m.keep a _ e (h.WA e)).1⟩
theorem Kp.new{H:Hp}{p:Addr}{o:HO}(hp:H p=none):Kp H (upd H p o):=⟨fun a xs e=>by rw [bO (dj e hp)]; exact e,fun a ob u e=>by rw [bO (dj e hp)]; exact e⟩
theorem Kp.putL{H:Hp}{p:Addr}{xs:List V}{o:HO}(hp:H p=some (.lst xs)):Kp H (upd H p o) :=
 ⟨fun a ys e=>by rw [bO (by rintro rfl; rw [hp] at e; cases e)]; exact e,fun a ob u e=>by rw [bO (by rintro rfl; rw [hp] at e; cases e)]; exact e⟩
theorem Mv.new{K:ai}{H:Hp}{G:Gp}{p:Addr}{o:HO}{g:GO}(h:kN K H G)(hp:H p=none)(ho:KP K (upd H p o) p g):Mv K H G (upd H p o) (cT G p g) where
 keep:=fun a ob e n=>by
  have ne:=dj e hp;exact⟨by rw [bO ne]; exact e,by rw [ck ne]; exact n⟩
 lU:=fun a n=>by
  have ne:a≠p:=by rintro rfl; exact n (h.free hp)
  rw [bO ne];exact(Mv.refl h).lU a n
 ab:=fun a g' e=>by
  by_cases ha:a=p
  ·subst ha; rw [aC] at e; cases e; exact ho
  ·rw [ck ha] at e;exact(h a g' e).mono (.new hp) (bO ha)
theorem Mv.J9{K:ai}{H:Hp}{G:Gp}{p:Addr}{o:HO}(h:kN K H G)(hp:H p=none):Mv K H G (upd H p o) G where
 keep:=fun a ob e n=>⟨by rw [bO (dj e hp)]; exact e,n⟩
 lU:=fun a n=>by
  have ne:a≠p:=by rintro rfl; exact n (h.free hp)
  rw [bO ne];exact(Mv.refl h).lU a n
 ab:=fun a g' e=>by
  have ne:a≠p:=by rintro rfl; rw [h.free hp] at e; cases e
  exact(h a g' e).mono (.new hp) (bO ne)
theorem Mv.put{K:ai}{H:Hp}{G:Gp}{p:Addr}{o:HO}{g g0:GO}(h:kN K H G)(hg:G p=some g0)(k:Kp H (upd H p o))(ho:KP K (upd H p o) p g):Mv K H G (upd H p o) (cT G p g) where
 keep:=fun a ob e n=>by
  have ne:a≠p:=by rintro rfl; rw [hg] at n; cases n
  exact⟨by rw [bO ne]; exact e,by rw [ck ne]; exact n⟩
 lU:=fun a n=>by
  by_cases ha:a=p
  ·subst ha; rw [bU]; simp
  ·rw [bO ha]; exact(Mv.refl h).lU a n
 ab:=fun a g' e=>by
  by_cases ha:a=p
  ·subst ha; rw [aC] at e; cases e; exact ho
  ·rw [ck ha] at e;exact(h a g' e).mono k (bO ha)
theorem kN.lst{K:ai}{H:Hp}{G:Gp}{a:Addr}{ds:List D}(h:kN K H G)(e:G a=some (.lst ds)):∃ vs,H a=some (.lst vs)/\ba K H vs ds:=h a _ e
theorem Mv.Hi{K:ai}{H:Hp}{G:Gp}{p:Addr}{vs:List V}{ds:List D}(h:kN K H G)(hp:H p=none)(r:ba K H vs ds):Mv K H G (upd H p (.lst vs)) (cT G p (.lst ds)) :=
 .new h hp ⟨vs,bU,r.mono (.new hp)⟩
theorem Mv.putL{K:ai}{H:Hp}{G:Gp}{p:Addr}{vs0 vs:List V}{ds0 ds:List D}(h:kN K H G)(hg:G p=some (.lst ds0))(hp:H p=some (.lst vs0))(r:ba K H vs ds):Mv K H G (upd H p (.lst vs)) (cT G p (.lst ds)) :=
 .put h hg (.putL hp) ⟨vs,bU,r.mono (.putL hp)⟩
structure Qw(K:ai)(H:Hp)(σ:L2.St)(τ:hZ):Prop where
 len:σ.length=τ.length
 at':∀ (i:Nat) (d:D),τ[i]?=some (some d)->∃ v,σ[i]?=some (some v)/\bW K H v d
theorem Qw.mono{K:ai}{H H':Hp}{σ:L2.St}{τ:hZ}(k:Kp H H')(a:Qw K H σ τ):Qw K H' σ τ :=
 ⟨a.len,fun i d e=>let ⟨v,h1,h2⟩:=a.at' i d e; ⟨v,h1,h2.mono k⟩⟩
theorem Qw.set{K:ai}{H:Hp}{σ:L2.St}{τ:hZ}{v:V}{d:D}(a:Qw K H σ τ)(i:Nat)(r:bW K H v d):Qw K H (σ.set i (some v)) (τ.set i (some d)):=by
 refine⟨by rw [kJ,kJ]; exact a.len,fun j e h=>?_⟩;by_cases hj:i=j
 ·subst hj;by_cases hi:i < τ.length
  ·rw [iS hi] at h;cases h;exact⟨v,by rw [iS (by rw [a.len]; exact hi)],r⟩
  ·rw [List.set_eq_of_length_le (by lia)] at h;rw [mC (by lia)] at h;cases h
 ·rw [jC hj] at h;obtain⟨w,h1,h2⟩:=a.at' j e h;exact⟨w,by rw [jC hj]; exact h1,h2⟩
structure I2(X:Cx)(pins:List (Addr×Obj))(σ:L2.St)(H:Hp)(τ:hZ)(G:Gp)(s:av):Prop where
 inv:Inv X pins σ H s
 st:Qw X.K H σ τ
 ab:kN X.K H G
theorem I2.mv{X:Cx}{pins:List (Addr×Obj)}{σ:L2.St}{H H':Hp}{τ:hZ}{G G':Gp}{s s':av}(I:I2 X pins σ H τ G s)(I':Inv X pins σ H' s')(m:Mv X.K H G H' G'):I2 X pins σ H' τ G' s' :=
 ⟨I',I.st.mono (m.kp I.ab),m.ab⟩
noncomputable def CXe(P:bz)(w:World):Mq:=fun outer H s E e s'=>∃ (a C t:Addr) (B:Heap) (H':Hp),e=.ref a/\s'.os=s.os/\BM s'.gens/\Un (MH outer) [] H H' s.heap s'.heap/\pS P w H' s'.heap /\
 (∀ b o,s'.heap.get? b=some o->b∉MH outer->(s.heap.get? b≠none\/H' b≠none)->B.get? b=some o)/\PySem.Heap.FlyingW B outer a (.ref C) (.ref t) s'.heap/\H' a=none/\s.heap.get? a=none/\E (.ref C) none H'
noncomputable def exK(K:ai)(mg:Str->Option Value)(E:lr):XK:=fun cls _ H=>∃ (ex:Ex) (C:Addr) (G:Gp),cls=.ref C/\mg ex.cls=some (.ref C)/\kN K H G/\E ex G
structure Lk(X:Cx)(E:lr):Prop where
 made:∀ (pins:List (Addr×Obj)) (σ:L2.St) (H:Hp) (s:av) (h1:Heap) (a C:Addr) (args:List Value) (ex:Ex) (G:Gp),Inv X pins σ H s->kN X.K H G->PySem.Heap.MadeExcOf s.heap h1 a (.ref C) args->X.mg ex.cls=some (.ref C)->E ex G->X.xe (.ref a) { s with heap:=h1 }
 pass:∀ (pins:List (Addr×Obj)) (σ:L2.St) (H:Hp) (s s':av) (e:Value),Inv X pins σ H s->CXe X.prog X.w X.stack H s (exK X.K X.mg E) e s'->X.xe e s'
theorem Lk.none{X:Cx}{E:lr}(h:∀ ex G,¬ E ex G):Lk X E where
 made:=fun _ _ _ _ _ _ _ _ ex _ _ _ _ _ z=>absurd z (h ex _)
 pass:=fun _ _ _ _ _ _ _ hc=>by
  obtain⟨_,_,_,_,_,_,_,_,_,_,_,_,_,_,hz⟩:=hc;obtain⟨ex,_,_,_,_,_,z⟩:=hz;exact absurd z (h ex _)
inductive su (X:Cx) (pins:List (Addr×Obj)) (σ:L2.St) (H:Hp) (G:Gp) (Q:DK) (u:Value) (s':av):Prop
 | mk (v:V) (H':Hp) (d:D) (G':Gp) (i:Inv X pins σ H' s') (m:Mv X.K H G H' G') (r:RelV v u) (rd:bW X.K H' v d) (q:Q d G'):su X pins σ H G Q u s'
inductive VU (X:Cx) (pins:List (Addr×Obj)) (σ:L2.St) (H:Hp) (G:Gp) (Q:Bool->Gp->Prop) (b:Bool) (s':av):Prop
 | mk (H':Hp) (G':Gp) (i:Inv X pins σ H' s') (m:Mv X.K H G H' G') (q:Q b G'):VU X pins σ H G Q b s'
inductive AP2 (X:Cx) (pins:List (Addr×Obj)) (σ:L2.St) (H:Hp) (G:Gp) (Q:List D->Gp->Prop) (us:List Value) (s':av):Prop
 | mk (vs:List V) (H':Hp) (ds:List D) (G':Gp) (i:Inv X pins σ H' s') (m:Mv X.K H G H' G') (r:Vals vs us) (rd:ba X.K H' vs ds) (q:Q ds G'):AP2 X pins σ H G Q us s'
inductive Yx (X:Cx) (pins:List (Addr×Obj)) (H:Hp) (G:Gp) (P:hZ->Gp->Prop) (s':av):Prop
 | mk (ju:L2.St) (H':Hp) (pX:hZ) (G':Gp) (i:I2 X pins ju H' pX G' s') (m:Mv X.K H G H' G') (q:P pX G'):Yx X pins H G P s'
inductive SPr (X:Cx) (pins:List (Addr×Obj)) (H:Hp) (G:Gp) (P:D->Gp->Prop) (u:Value) (s':av):Prop
 | mk (v:V) (ju:L2.St) (H':Hp) (d:D) (G':Gp) (i:Inv X pins ju H' s') (m:Mv X.K H G H' G') (r:RelV v u) (rd:bW X.K H' v d) (q:P d G'):SPr X pins H G P u s'
noncomputable def Vx(X:Cx)(pins:List (Addr×Obj))(H:Hp)(G:Gp)(D:nu)(f:Flow)(s':av):Prop :=
 match f with
 | .next=>Yx X pins H G D.nx s'
 | .brk=>Yx X pins H G D.bk s'
 | .cont=>Yx X pins H G D.ct s'
 | .ret u=>SPr X pins H G D.rt u s'
noncomputable def fy(X:Cx)(e:Expr)(t:fx):Prop :=
 ∀ (E:lr) (pins:List (Addr×Obj)) (s:av) (σ:L2.St) (H:Hp) (τ:hZ) (G:Gp) (Q:DK),Lk X E->I2 X pins σ H τ G s->t E τ G Q->wpAny (model X.prog X.w) X.A (eval e X.env) (su X pins σ H G Q) X.xe s
noncomputable def Ml(X:Cx)(e:Expr)(t:xb):Prop :=
 ∀ (E:lr) (pins:List (Addr×Obj)) (s:av) (σ:L2.St) (H:Hp) (τ:hZ) (G:Gp) (Q:Bool->Gp->Prop),Lk X E->I2 X pins σ H τ G s->t E τ G Q->wpAny (model X.prog X.w) X.A (isTrue e X.env (eval e X.env)) (VU X pins σ H G Q) X.xe s
noncomputable def VX(X:Cx)(e:Expr)(t:xb):Prop :=
 ∀ (wh:Sem Value) (E:lr) (pins:List (Addr×Obj)) (s:av) (σ:L2.St) (H:Hp) (τ:hZ) (G:Gp) (Q:Bool->Gp->Prop),Lk X E->I2 X pins σ H τ G s->t E τ G Q->wpAny (model X.prog X.w) X.A (isTrue e X.env wh) (VU X pins σ H G Q) X.xe s
noncomputable def BA(X:Cx)(es:List Expr)(t:KH):Prop :=
 ∀ (pos:Pos) (E:lr) (pins:List (Addr×Obj)) (s:av) (σ:L2.St) (H:Hp) (τ:hZ) (G:Gp) (Q:List D->Gp->Prop),Lk X E->I2 X pins σ H τ G s->t E τ G Q->wpAny (model X.prog X.w) X.A (spliced (sx pos (bS es X.env))) (AP2 X pins σ H G Q) X.xe s
noncomputable def FU(X:Cx)(st:Stmt)(t:iP):Prop :=
 ∀ (E:lr) (pins:List (Addr×Obj)) (s:av) (σ:L2.St) (H:Hp) (τ:hZ) (G:Gp) (D:nu),Lk X E->I2 X pins σ H τ G s->t E D τ G->wpAny (model X.prog X.w) X.A (exec st X.env) (Vx X pins H G D) X.xe s
noncomputable def we(X:Cx)(st:List Stmt)(t:iP):Prop :=
 ∀ (E:lr) (pins:List (Addr×Obj)) (s:av) (σ:L2.St) (H:Hp) (τ:hZ) (G:Gp) (D:nu),Lk X E->I2 X pins σ H τ G s->t E D τ G->wpAny (model X.prog X.w) X.A (execs st X.env) (Vx X pins H G D) X.xe s
theorem Vx.trans{X:Cx}{pins:List (Addr×Obj)}{H H1:Hp}{G G1:Gp}{D:nu}{f:Flow}{s':av}(m:Mv X.K H G H1 G1)(h:Vx X pins H1 G1 D f s'):Vx X pins H G D f s':=by
 cases f with
 | next=>obtain⟨ju,H',pX,G',I,m',q⟩:=h; exact⟨ju,H',pX,G',I,m.trans m',q⟩
 | brk=>obtain⟨ju,H',pX,G',I,m',q⟩:=h; exact⟨ju,H',pX,G',I,m.trans m',q⟩
 | cont=>obtain⟨ju,H',pX,G',I,m',q⟩:=h; exact⟨ju,H',pX,G',I,m.trans m',q⟩
 | ret u=>obtain⟨v,ju,H',d,G',I,m',r,rd,q⟩:=h; exact⟨v,ju,H',d,G',I,m.trans m',r,rd,q⟩
section
variable {X:Cx} {a b c:Expr} {ta tb tc:fx} {pos:Pos}
theorem i4{pins:List (Addr×Obj)}{σ:L2.St}{H:Hp}{τ:hZ}{G:Gp}{s:av}{E:lr}{R:DK}{Q:Value->av->Prop}(ha:fy X a ta)(hE:Lk X E)(I:I2 X pins σ H τ G s)(h:ta E τ G R)
  (k:∀ v H1 d G1 u s1,I2 X pins σ H1 τ G1 s1->Mv X.K H G H1 G1->RelV v u->bW X.K H1 v d->R d G1->Q u s1):wpAny (model X.prog X.w) X.A (eval a X.env) Q X.xe s :=
 fZ (ha E pins s σ H τ G R hE I h) (by rintro u s1 ⟨v,H1,d,G1,I1,m,r,rd,q⟩; exact k v H1 d G1 u s1 (I.mv I1 m) m r rd q)
theorem su.trans{pins:List (Addr×Obj)}{σ:L2.St}{H H1:Hp}{G G1:Gp}{Q:DK}{u:Value}{s':av}(m:Mv X.K H G H1 G1)(h:su X pins σ H1 G1 Q u s'):su X pins σ H G Q u s':=by
 obtain⟨v,H',d,G',I,m',r,rd,q⟩:=h;exact⟨v,H',d,G',I,m.trans m',r,rd,q⟩
theorem VU.trans{pins:List (Addr×Obj)}{σ:L2.St}{H H1:Hp}{G G1:Gp}{Q:Bool->Gp->Prop}{u:Bool}{s':av}(m:Mv X.K H G H1 G1)(h:VU X pins σ H1 G1 Q u s'):VU X pins σ H G Q u s':=by
 obtain⟨H',G',I,m',r⟩:=h;exact⟨H',G',I,m.trans m',r⟩
theorem Q7 {i:Nat} {x:Str} (hN:X.N[i]?=some x) (hv:Yv X.env.scope x) (hd:autoParam ((x == ("__debug__" : Str))=false) Ad._auto_1) (Ka:autoParam ((x == ("__classdict__" : Str))=false) Ad._auto_1):fy X (.Name x pos) (ax i):=by
 intro E pins s σ H τ G Q hE I h;unfold ax at h;split at h
 ·rename_i d e;obtain⟨v,h1,h2⟩:=I.st.at' i d e;exact fZ (Ug hN hv hd Ka pins s σ H (fun v' H'=>v'=v/\H'=H) I.inv ⟨v,h1,rfl,rfl⟩) fun u s1 MD=>by
   obtain⟨v',H',I1,r,e1,e2⟩:=MD;subst e1; subst e2;exact⟨_,_,d,G,I1,.refl I.ab,r,h2,h⟩
 ·exact h.elim
theorem vO{e:Expr}{v:V}{d:D}(h:PE X e (tC v))(r:∀ K H,bW K H v d):fy X e (dC d):=by
 intro E pins s σ H τ G Q hE I hq;exact fZ (h pins s σ H (fun v' H'=>v'=v/\H'=H) I.inv ⟨rfl,rfl⟩) fun u s1 W2=>by
  obtain⟨v',H',I1,rr,e1,e2⟩:=W2;subst e1; subst e2;exact⟨_,_,d,G,I1,.refl I.ab,rr,r _ _,hq⟩
theorem aJ{i j}:fy X (.Constant (.int i) j pos) (dC (.int i)):=vO Uh fun _ _=>.int i
noncomputable def nP(X:Cx)(f:Value->Value->Sem Value)(r:zg):Prop :=
 ∀ (pins:List (Addr×Obj)) (s:av) (σ:L2.St) (H:Hp) (G:Gp) (x y:V) (dx dy:D) (v u:Value) (Q:DK),Inv X pins σ H s->kN X.K H G->RelV x v->RelV y u->bW X.K H x dx->bW X.K H y dy->r dx dy G Q ->
  wpAny (model X.prog X.w) X.A (f v u) (su X pins σ H G Q) X.xe s
noncomputable def XJ(X:Cx)(f:Value->Sem Value)(r:D->Gp->DK->Prop):Prop :=
 ∀ (pins:List (Addr×Obj)) (s:av) (σ:L2.St) (H:Hp) (G:Gp) (x:V) (dx:D) (v:Value) (Q:DK),Inv X pins σ H s->kN X.K H G->RelV x v->bW X.K H x dx->r dx G Q ->
  wpAny (model X.prog X.w) X.A (f v) (su X pins σ H G Q) X.xe s
noncomputable def pF(X:Cx)(f:Value)(r:List D->Gp->DK->Prop):Prop :=
 ∀ (pins:List (Addr×Obj)) (s:av) (σ:L2.St) (H:Hp) (G:Gp) (xs:List V) (ds:List D) (us:List Value) (Q:DK),Inv X pins σ H s->kN X.K H G->Vals xs us->ba X.K H xs ds->r ds G Q ->
  wpAny (model X.prog X.w) X.A (call f us) (su X pins σ H G Q) X.xe s
noncomputable abbrev zH(K:ai)(H:Hp)(G:Gp)(Q:DK):VK:=fun v H'=>∃ d G',Mv K H G H' G'/\bW K H' v d/\Q d G'
theorem su.of{pins:List (Addr×Obj)}{σ:L2.St}{H:Hp}{G:Gp}{Q:DK}{u:Value}{s':av}(h:EP X pins σ (zH X.K H G Q) u s'):su X pins σ H G Q u s':=by
 obtain⟨v,H',I,r,d,G',m,rd,q⟩:=h;exact⟨v,H',d,G',I,m,r,rd,q⟩
theorem PY(ha:fy X a ta)(hb:fy X b tb){E:lr}{pins:List (Addr×Obj)}{s:av}{σ:L2.St}{H:Hp}{τ:hZ}{G:Gp}{R:D->D->Gp->Prop}(hE:Lk X E)(I:I2 X pins σ H τ G s)
  (h:ta E τ G fun x G1=>tb E τ G1 fun y G2=>R x y G2) {Q:Value->av->Prop} {f:Value->Value->Sem Value}
  (hf:∀ v u s2 x y dx dy H2 G2,I2 X pins σ H2 τ G2 s2->Mv X.K H G H2 G2->RelV x v->RelV y u->bW X.K H2 x dx->bW X.K H2 y dy->R dx dy G2->wpAny (model X.prog X.w) X.A (f v u) Q X.xe s2) :
  wpAny (model X.prog X.w) X.A (eval a X.env) (fun v eE=>wpAny (model X.prog X.w) X.A (eval b X.env) (fun u jH=>wpAny (model X.prog X.w) X.A (f v u) Q X.xe jH) X.xe eE) X.xe s:=by
 refine i4 ha hE I h fun x H1 dx G1 v s1 I1 m1 r1 iI q1=>?_;refine i4 hb hE I1 q1 fun y H2 dy G2 u s2 k6 m2 r2 wG q2=>?_;exact hf v u s2 x y dx dy H2 G2 k6 (m1.trans m2) r1 r2 (iI.mono (m2.kp I1.ab)) wG q2
theorem dG{op:Operator}{r:zg}(ho:nP X (iU op) r)(ha:fy X a ta)(hb:fy X b tb):fy X (.BinOp a op b pos) (bH r ta tb):=by
 intro E pins s σ H τ G Q hE I h;exact wpAny_BinOp (PY ha hb hE I h fun v u s2 x y dx dy H2 G2 k6 m rx ry dX dY q=>fZ (ho pins s2 σ H2 G2 x y dx dy v u Q k6.inv k6.ab rx ry dX dY q) fun _ _ z=>z.trans m)
theorem qK{op:UnaryOp}{r:D->Gp->DK->Prop}(ho:XJ X (unaryOp op) r)(ha:fy X a ta):fy X (.UnaryOp op a pos) (E8 r ta):=by
 intro E pins s σ H τ G Q hE I h;exact UnaryOp_ (i4 ha hE I h fun x H1 dx G1 v s1 I1 m1 r1 iI q1=>fZ (ho pins s1 σ H1 G1 x dx v Q I1.inv I1.ab r1 iI q1) fun _ _ z=>z.trans m1)
theorem Cd{op:CmpOp}{r:zg}(ho:nP X (dg op) r)(ha:fy X a ta)(hb:fy X b tb)(hm:behindInMarks op b=false):fy X (.Compare a [op] [b] pos) (bH r ta tb):=by
 intro E pins s σ H τ G Q hE I h;exact wpAny_Compare1 (PY ha hb hE I h fun v u s2 x y dx dy H2 G2 k6 m rx ry dX dY q=>fZ (ho pins s2 σ H2 G2 x y dx dy v u Q k6.inv k6.ab rx ry dX dY q) fun _ _ z=>z.trans m) hm
end
theorem V2{K:ai}{H:Hp}{G:Gp}{x:V}{d:D}{k:Bool}(ab:kN K H G)(r:bW K H x d)(e:FJ d G=some k):(∃ p,x=.ref p/\Rd H p (.dT [])/\k=false)\/(∃ p kv,x=.ref p/\Rd H p (.dK kv)/\k=!kv.isEmpty)\/Vw K x H k:=by
 have Pp:∀ kvs:List (D×D),(if (kvs.all fun p=>dP p.1)=true then some (!kvs.isEmpty) else none)=some k->∀ p,((∃ kv,Rd H p (.dK kv)/\lI K H kv kvs)\/∃ kv,Rd H p (.dT kv)/\ly K H kv kvs) ->
   (∃ p',V.ref p=.ref p'/\Rd H p' (.dT [])/\k=false)\/(∃ p' kv,V.ref p=.ref p'/\Rd H p' (.dK kv)/\k=!kv.isEmpty)\/Vw K (.ref p) H k:=by
  intro kvs e p z;by_cases ha:(kvs.all fun p=>dP p.1)=true
  ·rw [if_pos ha] at e;cases e;rcases z with ⟨kv,hv,rs⟩ | ⟨kv,hv,rs⟩
   ·right; left;refine⟨p,kv,rfl,hv,?_⟩;cases rs <;> rfl
   ·left;cases rs with
    | nil=>exact⟨p,rfl,hv,rfl⟩
    | cons _ _=>simp [dP] at ha
  ·rw [if_neg ha] at e; cases e
 cases r with
 | eg=>right; right; cases e; rfl
 | bl b=>right; right; cases e; rfl
 | int i=>right; right; cases e; rfl
 | str y =>
  right; right;unfold FJ at e;dsimp only at e;by_cases h:y.length<=SZ
  ·rw [if_pos h] at e; cases e; exact⟨by rw [cI]; exact h,rfl⟩
  ·rw [if_neg h] at e; cases e
 | tup h rs =>
  right; right;cases e;refine .inr (.inl ⟨_,.of h,?_⟩);cases rs <;> rfl
 | dJ h rs =>
  right; right;cases e;refine .inl ⟨_,h.sq,?_⟩;cases rs <;> rfl
 | oW h rs=>exact Pp _ e _ (.inl ⟨_,.inr ⟨_,h⟩,rs⟩)
 | oV h rs=>exact Pp _ e _ (.inr ⟨_,.inr ⟨_,h⟩,rs⟩)
 | exc h=>simp [FJ] at e
 | E1 h _=>simp [FJ] at e
 | nY _ _ _ _=>simp [FJ] at e
 | ref a =>
  unfold FJ at e;dsimp only at e;cases q:G a with
  | none=>rw [q] at e; cases e
  | some g =>
   rw [q] at e;have z:=ab a g q;cases g with
   | lst ds =>
    right; right;obtain⟨vs,hv,rs⟩:=z;cases e;refine .inl ⟨vs,.of hv,?_⟩;cases rs <;> rfl
   | ins _ _=>cases e
   | qT _=>cases e
   | eV kvs =>
    refine Pp kvs e a ?_;rcases z with ⟨kv,hv,rs⟩ | ⟨kv,hv,rs⟩
    ·exact .inl ⟨kv,.inl hv,rs⟩
    ·exact .inr ⟨kv,.inl hv,rs⟩
section
variable {X:Cx} {a b c:Expr} {ta tb tc:fx} {pos:Pos}
noncomputable def XM(X:Cx):Prop:=∀ (pins:List (Addr×Obj)) (s:av) (σ:L2.St) (H:Hp) (G:Gp) (x:V) (d:D) (v:Value) (k:Bool) (Q:Bool->av->Prop),Inv X pins σ H s->kN X.K H G->RelV x v->bW X.K H x d->FJ d G=some k ->
  (∀ s',Inv X pins σ H s'->Q k s')->wpAny (model X.prog X.w) X.A (truthy v) Q X.xe s
theorem M3:XM X:=by
 intro pins s σ H G x d v k Q I ab rx rd e q;rcases V2 ab rd e with ⟨p,rfl,hv,hk⟩ | ⟨p,kv,rfl,hv,hk⟩ | h
 ·obtain⟨z,hS,xs,rel,o,es,ep,ho,hx,zF,hl,nd⟩:=hv.ok I.cp;have ZF:xs=[]:=by cases rel; rfl
  subst ZF;have he:es=#[]:=by simpa using hl
  subst he;cases rx;have dd:s.heap.DictOf (cE X.prog X.w) p []:=⟨o,#[],ep,ho,hx,zF,(fun _ h=>by simp at h),.nil,cA⟩;refine FW hS dd (by simp) ?_;subst hk;exact q _ (I.tok _)
 ·cases rx;subst hk;exact RS I hv q
 ·exact fZ (Tx pins s σ H x v (fun k' H'=>k'=k/\H'=H) I rx ⟨k,h,rfl,rfl⟩) fun k' s' MD=>by
   obtain⟨H',I',e1,e2⟩:=MD;subst e1; subst e2; exact q s' I'
theorem lD(ha:fy X a ta)(he:autoParam (∀ whole,isTrue a X.env whole=(do let v ← whole; standAt a.pos; Ga [v] (truthy v))) Ai._auto_1):Ml X a (jo ta):=by
 intro E pins s σ H τ G Q hE I h;refine isTrue_plain (i4 ha hE I h fun x H1 d G1 v s1 I1 m1 r1 iI q1=>?_) (he _)
 try dsimp only at q1
 split at q1
 ·rename_i k e;exact M3 pins s1 σ H1 G1 x d v k _ I1.inv I1.ab r1 iI e fun s' I'=>⟨H1,G1,I',m1,q1⟩
 ·exact q1.elim
theorem fj{op:CmpOp}{r:zg}(ho:nP X (dg op) r)(ha:fy X a ta)(hb:fy X b tb)(hm:behindInMarks op b=false):Ml X (.Compare a [op] [b] pos) (jo (bH r ta tb)):=by
 intro E pins s σ H τ G Q hE I h;refine wpAny_isTrue_Compare1 (i4 ha hE I h fun x H1 dx G1 v s1 I1 m1 r1 iI q1=>i4 hb hE I1 q1 fun y H2 dy G2 u s2 k6 m2 r2 wG q2 =>
  fZ (ho pins s2 σ H2 G2 x y dx dy v u _ k6.inv k6.ab r1 r2 (iI.mono (m2.kp I1.ab)) wG q2) ?_) hm
 rintro c s3 ⟨z,H3,dz,G3,I3,m3,r3,We,q3⟩
 try dsimp only at q3
 split at q3
 ·rename_i k e;exact M3 pins s3 σ H3 G3 z dz c k _ I3 m3.ab r3 We e fun s' I'=>⟨H3,G3,I',(m1.trans m2).trans m3,q3⟩
 ·exact q3.elim
variable {tA tB:xb} {rest:List Expr}
theorem VX.pt{e:Expr}{t:xb}(h:VX X e t):Ml X e t:=fun E pins s σ H τ G Q hE I q=>h _ E pins s σ H τ G Q hE I q
theorem M5{pins:List (Addr×Obj)}{σ:L2.St}{H:Hp}{τ:hZ}{G:Gp}{s:av}{E:lr}{R:Bool->Gp->Prop}{Q:Bool->av->Prop}(ha:Ml X a tA)(hE:Lk X E)(I:I2 X pins σ H τ G s)(h:tA E τ G R)
  (k:∀ c H1 G1 s1,I2 X pins σ H1 τ G1 s1->Mv X.K H G H1 G1->R c G1->Q c s1):wpAny (model X.prog X.w) X.A (isTrue a X.env (eval a X.env)) Q X.xe s :=
 fZ (ha E pins s σ H τ G R hE I h) (by rintro c s1 ⟨H1,G1,I1,m,q⟩; exact k c H1 G1 s1 (I.mv I1 m) m q)
theorem QW(ha:Ml X a tA):VX X (.BoolOp .Or [a] pos) tA:=by
 intro wh E pins s σ H τ G Q hE I h;refine isTrue_or (fZ (ha E pins s σ H τ G Q hE I h) fun c s1 e=>?_);cases c with
 | false=>exact isTrue_or_nil e
 | true=>exact e
theorem T9(ha:Ml X a tA)(hb:VX X (.BoolOp .Or (b :: rest) pos) tB):VX X (.BoolOp .Or (a :: b :: rest) pos) (VT tA tB):=by
 intro wh E pins s σ H τ G Q hE I h;refine isTrue_or (M5 ha hE I h fun c H1 G1 s1 I1 m1 q1=>?_);cases c with
 | false=>exact fZ (hb wh E pins s1 σ H1 τ G1 Q hE I1 (by simpa using q1)) fun _ _ z=>z.trans m1
 | true=>exact⟨H1,G1,I1.inv,m1,by simpa using q1⟩
theorem oY(ha:Ml X a tA):Ml X (.UnaryOp .Not a pos) (qW tA):=by
 intro E pins s σ H τ G Q hE I h;exact isTrue_not (fZ (ha E pins s σ H τ G (fun c H1=>Q (!c) H1) hE I h) (by rintro c s' ⟨H',G',i,m,q⟩; exact⟨H',G',i,m,q⟩))
theorem Q8{op}{t:fx}(h:fy X a t):fy X (.BoolOp op [a] pos) t:=fun E pins s σ H τ G Q hE I hw=>BoolOp_one (h E pins s σ H τ G Q hE I hw)
theorem Ra(ha:fy X a ta)(hb:fy X (.BoolOp .And (b :: rest) pos) tb):fy X (.BoolOp .And (a :: b :: rest) pos) (Kr ta tb):=by
 intro E pins s σ H τ G Q hE I h;refine BoolOp_and (i4 ha hE I h fun x H1 d G1 v s1 I1 m1 r1 iI q1=>?_)
 try dsimp only at q1
 split at q1
 ·rename_i e;exact M3 pins s1 σ H1 G1 x d v true _ I1.inv I1.ab r1 iI e fun s' I'=>fZ (hb E pins s' σ H1 τ G1 Q hE ⟨I',I1.st,I1.ab⟩ q1) fun _ _ z=>z.trans m1
 ·rename_i e;exact M3 pins s1 σ H1 G1 x d v false _ I1.inv I1.ab r1 iI e fun s' I'=>⟨x,H1,d,G1,I',m1,r1,iI,q1⟩
 ·exact q1.elim
theorem Q9(ha:fy X a ta):fy X (.UnaryOp .Not a pos) (Pw ta):=by
 intro E pins s σ H τ G Q hE I h;refine UnaryOp_ (i4 ha hE I h fun x H1 d G1 v s1 I1 m1 r1 iI q1=>?_)
 try dsimp only at q1
 split at q1
 ·rename_i k e;exact not_of (M3 pins s1 σ H1 G1 x d v k _ I1.inv I1.ab r1 iI e fun s' I'=>⟨.bl (!k),H1,.bl (!k),G1,I',m1,rfl,.bl _,q1⟩)
 ·exact q1.elim
theorem Cc(hc:Ml X c tA)(ha:fy X a ta)(hb:fy X b tb):fy X (.IfExp c a b pos) (Ta tA ta tb):=by
 intro E pins s σ H τ G Q hE I h;refine wpAny_IfExp (M5 hc hE I h fun d H1 G1 s1 I1 m1 q1=>?_);cases d with
 | true=>exact fZ (ha E pins s1 σ H1 τ G1 Q hE I1 (by simpa using q1)) fun _ _ z=>z.trans m1
 | false=>exact fZ (hb E pins s1 σ H1 τ G1 Q hE I1 (by simpa using q1)) fun _ _ z=>z.trans m1
variable {e:Expr} {es:List Expr} {te:fx} {t:KH}
theorem fT:BA X [] aT:=fun _ _ _ _ _ H _ G Q _ I h=>zK ⟨[],H,[],G,I.inv,.refl I.ab,.nil,.nil,h⟩
theorem cJ(ha:fy X e te)(hr:BA X es t)(hs:autoParam (bS (e :: es) X.env=(false,eval e X.env) :: bS es X.env) Ar._auto_1):BA X (e :: es) (ar te t):=by
 intro pos E pins s σ H τ G Q hE I h;rw [hs];show wpAny _ _ (spliced ((false,eval e X.env) :: sx pos (bS es X.env))) _ _ s;refine pH (i4 ha hE I h fun x H1 d G1 u s1 I1 m1 r1 iI q1=>?_);exact fZ (hr pos E pins s1 σ H1 τ G1 _ hE I1 q1) (by rintro us s2 ⟨xs,H2,ds,G2,k6,m2,r2,wG,q2⟩; exact⟨x :: xs,H2,d :: ds,G2,k6,m1.trans m2,.cons r1 r2,.cons (iI.mono (m2.kp I1.ab)) wG,q2⟩)
theorem zO{pins:List (Addr×Obj)}{σ:L2.St}{H:Hp}{τ:hZ}{G:Gp}{s:av}{E:lr}{R:List D->Gp->Prop}{Q:List Value->av->Prop}(ha:BA X es t)(pos:Pos)(hE:Lk X E)(I:I2 X pins σ H τ G s)(h:t E τ G R)
  (k:∀ vs H1 ds G1 us s1,I2 X pins σ H1 τ G1 s1->Mv X.K H G H1 G1->Vals vs us->ba X.K H1 vs ds->R ds G1->Q us s1):wpAny (model X.prog X.w) X.A (spliced (sx pos (bS es X.env))) Q X.xe s :=
 fZ (ha pos E pins s σ H τ G R hE I h) (by rintro us s1 ⟨vs,H1,ds,G1,I1,m,r,rd,q⟩; exact k vs H1 ds G1 us s1 (I.mv I1 m) m r rd q)
theorem cm{x1}(h:BA X es t):fy X (.Tuple es x1 pos) (eP t):=by
 intro E pins s σ H τ G Q hE I hq;refine wpAny_Tuple_spliced (zO h pos hE I hq ?_);rintro xs H1 ds G1 us s1 I1 m1 r rd ⟨z,q⟩;refine⟨by rw [<-r.length,rd.length,cI]; exact z,?_⟩;have hf:H1 s1.heap.objs.size=none:=I1.inv.cp.fresh (aB _);refine⟨.ref s1.heap.objs.size,upd H1 s1.heap.objs.size (.tup xs),.tup ds,G1,I1.inv.laid (t':=s1.toks) (fun b u e=>ay _ e) (aB _) ?_,m1.trans (.J9 I1.ab hf),rfl,?_,q⟩
 ·exact⟨by rw [rd.length,cI]; exact z,us,r,⟨_,aO _ rfl,rfl,_,rfl⟩⟩
 ·exact .tup bU (rd.mono (.new hf))
theorem jO(h:BA X es t):fy X (.List es pos) (mr t):=by
 intro E pins s σ H τ G Q hE I hq;refine wpAny_List_spliced (zO h pos hE I hq ?_);rintro xs H1 ds G1 us s1 I1 m1 r rd ⟨z,q⟩;refine⟨by rw [<-r.length,rd.length,cI]; exact z,?_⟩;have hf:H1 s1.heap.objs.size=none:=I1.inv.cp.fresh (aB _);refine⟨.ref s1.heap.objs.size,upd H1 s1.heap.objs.size (.lst xs),.ref _,cT G1 s1.heap.objs.size (.lst ds),I1.inv.laid (t':=s1.toks) (fun b u e=>ay _ e) (aB _) ?_,m1.trans (.Hi I1.ab hf rd),rfl,.ref _,q _ (I1.ab.free hf)⟩;exact⟨by rw [rd.length,cI]; exact z,us,0,r,aO _ rfl⟩
noncomputable def BX(K:ai)(sp:nj):Sp:=fun vs H Q _=>∃ ds G Q2,ba K H vs ds/\kN K H G/\sp ds G Q2 (fun _ _=>False)/\∀ d G' v H',Q2 d G'->Mv K H G H' G'->bW K H' v d->Q v H'
variable {k:Nat} {f:Addr} {fd:gG} {ps:List Str} {sp:nj} {x:Str} {p:Pos} {r:List D->Gp->DK->Prop} {id:String}
theorem NV(F:xc X.prog X.w X.K X.mg X.base KN k f fd ps (BX X.K sp))(hr:lx k X.A)(hg:Gl X x)(hm:X.mg x=some (.ref f))(hk:DI X.K (.ref f)=true)(hb:Binds X.K fd ps [])
  (ha:BA X (e :: es) t) (LW:autoParam ((x == ("__debug__" : Str))=false) Ad._auto_1) (he:autoParam (bS (e :: es) X.env=(false,eval e X.env) :: bS es X.env) Ar._auto_1) (A8:autoParam ((sx pos (bS es X.env)).any (·.1)=false) Ar._auto_1) :
  fy X (.Call (.Name x p) (e :: es) [] pos) (fun E τ G Q=>bP (fun ds G1 Q1 _=>sp ds G1 Q1 fun _ _=>False) t E τ G Q):=by
 intro E pins s σ H τ G Q hE I h;refine jr (Cv I.inv hg hm ?_ LW);refine PySem.W.callWith_K (h₀:=X.base) I.inv.ok.mod.Yd hk (zO ha pos hE I h fun vs H1 ds G1 us s1 I1 m1 r rd q=>⟨I1.inv.JW,?_⟩) he A8;refine fZ (TV F hr hb .nil Wq I1.inv r (Q:=zH X.K H1 G1 Q) ?_) fun _ _ z=>(su.of z).trans m1;rw [cH];exact⟨ds,G1,Q,rd,I1.ab,q,fun d G' v H' q' m' VE=>⟨d,G',m',VE,q'⟩⟩
theorem gW (hc:pF X (.builtin id) r) (hg:Gl X x) (hm:X.mg x=none) (hv:du x=some (.builtin id)) (ha:BA X (e :: es) t) (hn:autoParam (x≠"__name__") Ad._auto_1) (LW:autoParam ((x == ("__debug__" : Str))=false) Ad._auto_1)
  (he:autoParam (bS (e :: es) X.env=(false,eval e X.env) :: bS es X.env) Ar._auto_1) (A8:autoParam ((sx pos (bS es X.env)).any (·.1)=false) Ar._auto_1):fy X (.Call (.Name x p) (e :: es) [] pos) (u5 r t):=by
 intro E pins s σ H τ G Q hE I h;refine jr (nI I.inv hg hm hv ?_ hn LW);exact vC (zO ha pos hE I h fun vs H1 ds G1 us s1 I1 m1 r1 iI q1=>fZ (hc pins s1 σ H1 G1 vs ds us Q I1.inv I1.ab r1 iI q1) fun _ _ z=>z.trans m1) he A8
variable {st:Stmt} {sts:List Stmt} {u v:iP}
theorem fg:we X [] eA:=fun _ _ _ σ H τ G _ _ I h=>xE ⟨σ,H,τ,G,I,.refl I.ab,h⟩
theorem aH(h1:FU X st u)(h2:we X sts v):we X (st :: sts) (b7 u v):=by
 intro E pins s σ H τ G D hE I h;refine wpAny_execs_cons (fZ (h1 E pins s σ H τ G { D with nx:=v E D } hE I h) fun f s1 q=>?_);cases f with
 | next =>
  obtain⟨ju,H',pX,G',I',m,q⟩:=q;exact fZ (h2 E pins s1 ju H' pX G' D hE I' q) fun _ _ z=>z.trans m
 | ret v=>exact q
 | brk=>exact q
 | cont=>exact q
theorem aM(h1:FU X st u):we X [st] u:=by
 intro E pins s σ H τ G D hE I h;refine wpAny_execs_cons (fZ (h1 E pins s σ H τ G D hE I h) fun f s1 q=>?_);cases f with
 | next=>exact xE q
 | ret v=>exact q
 | brk=>exact q
 | cont=>exact q
theorem cx(he:fy X e te):FU X (.Return (some e) pos) (cR te):=by
 intro E pins s σ H τ G D hE I h;exact wpAny_Return_some (fZ (he E pins s σ H τ G _ hE I h) (by rintro v s1 ⟨x,H1,d,G1,I1,m,r1,rd,q1⟩; exact⟨x,σ,H1,d,G1,I1,m,r1,rd,q1⟩))
theorem g6{sa sb:List Stmt}(hc:Ml X c tA)(ha:we X sa u)(hb:we X sb v):FU X (.If c sa sb pos) (gU tA u v):=by
 intro E pins s σ H τ G D hE I h;refine wpAny_If (M5 hc hE I h fun d H1 G1 s1 I1 m1 q1=>?_);cases d with
 | true=>exact fZ (ha E pins s1 σ H1 τ G1 D hE I1 (by simpa using q1)) fun _ _ z=>z.trans m1
 | false=>exact fZ (hb E pins s1 σ H1 τ G1 D hE I1 (by simpa using q1)) fun _ _ z=>z.trans m1
noncomputable def Mm(X:Cx)(target:Expr)(t:zG):Prop :=
 ∀ (E:lr) (pins:List (Addr×Obj)) (s:av) (σ:L2.St) (H:Hp) (τ:hZ) (G:Gp) (w:V) (d:D) (u:Value) (Q:hZ->Gp->Prop),Lk X E->I2 X pins σ H τ G s->RelV w u->bW X.K H w d->t E d τ G Q ->
  wpAny (model X.prog X.w) X.A (IL target X.env u) (fun _ s'=>∃ ju H' pX G',I2 X pins ju H' pX G' s'/\Mv X.K H G H' G'/\Q pX G') X.xe s
noncomputable def R9(X:Cx)(ts:List Expr)(t:Du):Prop :=
 ∀ (E:lr) (pins:List (Addr×Obj)) (s:av) (σ:L2.St) (H:Hp) (τ:hZ) (G:Gp) (ws:List V) (ds:List D) (us:List Value) (Q:hZ->Gp->Prop),Lk X E->I2 X pins σ H τ G s->Vals ws us->ba X.K H ws ds->t E ds τ G Q ->
  wpAny (model X.prog X.w) X.A (assignInOrder ((zx ts X.env).map (·.2)) us) (fun _ s'=>∃ ju H' pX G',I2 X pins ju H' pX G' s'/\Mv X.K H G H' G'/\Q pX G') X.xe s
theorem NS{i:Nat}{x:Str}(hN:X.N.Nodup)(hi:X.N[i]?=some x)(hx:Loc X.env.scope x)(hf:autoParam (X.fn x=true\/X.env.scope.names.lookup x=some .local) Ao._auto_1):Mm X (.Name x pos) (aI i):=by
 intro E pins s σ H τ G w d u Q hE I r rd h;exact wpAny_assign_Name (DV I.inv hN hi hx r (fun s' I'=>⟨_,H,_,G,⟨I',I.st.set i rd,I.ab⟩,.refl I.ab,h⟩) hf)
theorem eu:R9 X [] gf:=by
 intro E pins s σ H τ G ws ds us Q hE I r rd h;unfold gf at h;split at h
 ·have e:=rd.zero;subst e;cases r;exact assignInOrder_nil ⟨σ,H,τ,G,I,.refl I.ab,h⟩
 ·exact h.elim
theorem bM{t:zG}{u:Du}(h1:Mm X e t)(h2:R9 X es u)
  (hs:autoParam ((zx (e :: es) X.env).map (·.2)=IL e X.env :: (zx es X.env).map (·.2)) Ar._auto_1):R9 X (e :: es) (cq t u):=by
 intro E pins s σ H τ G ws ds us Q hE I r rd h;unfold cq at h;split at h
 ·cases rd with
  | cons iI wG =>
   cases r with
   | cons r1 r2 =>
    rw [hs];refine assignInOrder_cons (fZ (h1 E pins s σ H τ G _ _ _ _ hE I r1 iI h) ?_);rintro _ s1 ⟨XY,H1,qg,G1,I1,m1,q1⟩;exact fZ (h2 E pins s1 XY H1 qg G1 _ _ _ Q hE I1 r2 (wG.mono (m1.kp I.ab)) q1) (by rintro _ _ ⟨YB,H2,vG,G2,k6,m2,q2⟩; exact⟨YB,H2,vG,G2,k6,m1.trans m2,q2⟩)
 ·exact h.elim
theorem fH{k:Nat}{t:Du}{n:Nat}(hc:X.calm=true)(h:R9 X es t)(hgl:∀ E ds τ G Q,t E ds τ G Q->ds.length=n)
  (hn:autoParam ((zx es X.env).length=n) Ar._auto_1) (ZN:autoParam ((zx es X.env).findIdx? (·.1)=none) Ar._auto_1):Mm X (.Tuple es k pos) (gz t):=by
 intro E pins s σ H τ G w d u Q hE I r rd hw;unfold gz at hw;split at hw
 ·cases rd with
  | tup hq rs =>
   cases r;obtain⟨bG,rv,ht,hz⟩:=I.inv.tuple (.of hq);refine assign_Tuple_tuple (I.inv.ok.hd hc) ht (by rw [hn,aR,<-rv.length,rs.length]; exact(hgl _ _ _ _ _ hw).symm) ZN fun h' hx=>?_;have I1:Inv X pins σ H { s with heap:=h' }:=I.inv.kept (t':=s.toks) fun b o e=>hx b o (bh (aN e)) e;exact h E pins _ σ H τ G _ _ _ Q hE ⟨I1,I.st,I.ab⟩ (by simpa using rv) rs hw
 ·exact hw.elim
theorem ez:∀ E ds τ G Q,gf E ds τ G Q->ds.length=0:=by
 intro E ds τ G Q h;cases ds with
 | nil=>rfl
 | cons _ _=>exact h.elim
theorem LY{t:zG}{u:Du}{n:Nat}(h:∀ E ds τ G Q,u E ds τ G Q->ds.length=n)(hm:∀ E d τ G (Q Q':hZ->Gp->Prop),t E d τ G Q->(∀ pX G',Q pX G'->Q' pX G')->t E d τ G Q')(hx:∀ E d τ G,¬ t E d τ G fun _ _=>False) :
  ∀ E ds τ G Q,cq t u E ds τ G Q->ds.length=n+1:=by
 intro E ds τ G Q q;cases ds with
 | nil=>exact q.elim
 | cons d ds =>
  by_cases hl:ds.length=n
  ·rw [ah,hl]
  ·exact absurd (hm E d τ G _ (fun _ _=>False) q fun pX G' z=>hl (h _ _ _ _ _ z)) (hx E d τ G)
theorem hU{tg:Expr}{g:zG}(he:fy X e te)(hg:Mm X tg g)(hs:autoParam (swapsWithSole [tg] e pos.line X.env=pure false) Ar._auto_1)(hw:autoParam (swappedStores [tg] e X.env=pure none) Ar._auto_1)
  (h1:autoParam ((zx [tg] X.env).map (·.2)=[IL tg X.env]) Ar._auto_1):FU X (.Assign [tg] e pos) (bJ te g):=by
 intro E pins s σ H τ G D hE I h;refine wpAny_Assign_stores (i4 he hE I h fun x H1 d G1 v s1 I1 m1 r1 iI q1=>?_) hs hw;rw [h1];exact fZ (hg E pins s1 σ H1 τ G1 x d v _ hE I1 r1 iI q1) (by rintro _ s2 ⟨YB,H2,vG,G2,k6,m2,q2⟩; exact⟨YB,H2,vG,G2,k6,m1.trans m2,q2⟩)
theorem QY{i:Nat}{x:Str}{pos':Pos}(hN:X.N.Nodup)(hi:X.N[i]?=some x)(hx:Loc X.env.scope x)(he:fy X e te)(hs:autoParam (MP e (some (.Name x pos')) pos.line X.env=pure false) Ar._auto_1)(hf:autoParam (X.fn x=true\/X.env.scope.names.lookup x=some .local) Ao._auto_1) :
  FU X (.Assign [.Name x pos'] e pos) (bJ te (aI i)):=by
 intro E pins s σ H τ G D hE I h;refine wpAny_Assign_Name (i4 he hE I h fun y H1 d G1 v s1 I1 m1 r1 iI q1=>?_) hs;exact DV I1.inv hN hi hx r1 (fun s2 k6=>⟨_,H1,_,G1,⟨k6,I1.st.set i iI,I1.ab⟩,m1,q1⟩) hf
theorem fS(he:fy X e te)(hs:autoParam (MP e none pos.line X.env=pure false) Ar._auto_1):FU X (.Expr e pos) (eT te):=by
 intro E pins s σ H τ G D hE I h;exact wpAny_Expr_any (i4 he hE I h fun y H1 d G1 v s1 I1 m1 r1 iI q1=>⟨σ,H1,τ,G1,I1,m1,q1⟩) I.inv.quiet hs
end
noncomputable def Ti(K:ai)(J:It)(H':Hp)(ds:List D)(ok:Gp->Prop):Prop :=
 ∀ i H1 G1,Kp H' H1->kN K H1 G1->ok G1->(∀ d,ds[i]?=some d->J.go i H1/\∀ x H2,J.yld i H1 x H2->bW K H2 x d/\Mv K H1 G1 H2 G1)/\(ds.length<=i->J.stop i H1)
inductive Fu (X:Cx) (pins:List (Addr×Obj)) (σ:L2.St) (tg:Expr) (H:Hp) (G:Gp) (R:List D->(Gp->Prop)->Gp->Prop) (SR:Value) (s2:av):Prop
 | mk (it:Addr) (fp:List Addr) (tn:Nat->Heap->Prop) (J:It) (H':Hp) (G':Gp) (ds:List D) (ok:Gp->Prop) (e:SR=.ref it) (i:Inv X pins σ H' s2) (m:Mv X.K H G H' G') (T:Turn X.prog X.w X.K tg J fp it tn) (t0:tn 0 s2.heap) (f:∀ b∈fp,mz X pins H' b)
  (wk:Ti X.K J H' ds ok) (q:R ds ok G'):Fu X pins σ tg H G R SR s2
noncomputable def ID(X:Cx)(tg iter:Expr)(wi:IC):Prop :=
 ∀ (E:lr) (pins:List (Addr×Obj)) (s:av) (σ:L2.St) (H:Hp) (τ:hZ) (G:Gp) (R:List D->(Gp->Prop)->Gp->Prop),Lk X E->I2 X pins σ H τ G s->wi E τ G R ->
  wpAny (model X.prog X.w) X.A (eval iter X.env) (fun v s1=>wpAny (model X.prog X.w) X.A (Au v) (Fu X pins σ tg H G R) X.xe s1) X.xe s
section
variable {X:Cx} {tg:Expr} {a b:Expr} {ta tb:fx} {pos p:Pos}
theorem JQ{pins:List (Addr×Obj)}{σ:L2.St}{H H1:Hp}{G G1:Gp}{s1:av}{l:Addr}{vs:List V}{ds:List D}{ok:Gp->Prop}{R:List D->(Gp->Prop)->Gp->Prop}(I1:Inv X pins σ H1 s1)(m:Mv X.K H G H1 G1)(hq:oK X.K H1 l vs)
  (hk:∀ H2 G2,Kp H1 H2->kN X.K H2 G2->ok G2->∃ ws,oK X.K H2 l ws/\ba X.K H2 ws ds) (q:R ds ok G1):wpAny (model X.prog X.w) X.A (Au (.ref l)) (Fu X pins σ tg H G R) X.xe s1:=by
 obtain⟨bG,rv,pl,hz⟩:=I1.list hq;refine nA pl.isList ?_;refine⟨s1.heap.objs.size,[s1.heap.objs.size],_,_,H1,G1,ds,ok,rfl,I1.kept (t':=s1.toks) fun b o e=>ay _ e,m,K0 l _,⟨_,aO _ rfl,rfl,rfl⟩,fun b hb=>?_,fun i H2 G2 k ab o=>?_,q⟩
 ·have e:b=s1.heap.objs.size:=by simpa using hb
  subst e;exact I1.yR (aB _) (I1.cp.fresh (aB _))
 ·obtain⟨ws,hw,rd⟩:=hk H2 G2 k ab o;refine⟨fun d hd=>?_,fun hl=>⟨ws,hw,by rw [rd.length]; exact hl⟩⟩;obtain⟨v,hv,r⟩:=rd.get hd;refine⟨⟨ws,v,hw,hv⟩,?_⟩;rintro x H3 ⟨e,y⟩;subst e;have:=y ws hw;rw [hv] at this;cases this;exact⟨r,.refl ab⟩
theorem Tw{pins:List (Addr×Obj)}{σ:L2.St}{H H1:Hp}{G G1:Gp}{s1:av}{l:Addr}{vs:List V}{ds:List D}{R:List D->(Gp->Prop)->Gp->Prop}(I1:Inv X pins σ H1 s1)(m:Mv X.K H G H1 G1)(hq:vj X.K H1 l vs)(rd:ba X.K H1 vs ds)
  (q:R ds (fun _=>True) G1):wpAny (model X.prog X.w) X.A (Au (.ref l)) (Fu X pins σ tg H G R) X.xe s1:=by
 obtain⟨bG,rv,pl,hz⟩:=I1.tuple hq;refine lK (show s1.heap.IsTuple l bG.toArray from pl) ?_;refine⟨s1.heap.objs.size,[s1.heap.objs.size],_,_,H1,G1,ds,_,rfl,I1.kept (t':=s1.toks) fun b o e=>ay _ e,m,Gw l _,⟨_,aO _ rfl,rfl,rfl⟩,fun b hb=>?_,fun i H2 G2 k ab _=>?_,q⟩
 ·have e:b=s1.heap.objs.size:=by simpa using hb
  subst e;exact I1.yR (aB _) (I1.cp.fresh (aB _))
 ·have hw:=k.sqT hq;have wG:=rd.mono k;refine⟨fun d hd=>?_,fun hl=>⟨vs,hw,by rw [rd.length]; exact hl⟩⟩;obtain⟨v,hv,r⟩:=wG.get hd;refine⟨⟨vs,v,hw,hv⟩,?_⟩;rintro x H3 ⟨e,y⟩;subst e;have:=y vs hw;rw [hv] at this;cases this;exact⟨r,.refl ab⟩
theorem iM(ha:fy X a ta):ID X tg a (si ta):=by
 intro E pins s σ H τ G R hE I h;refine i4 ha hE I h fun x H1 d G1 v s1 I1 m1 r1 iI q1=>?_;cases iI with
 | tup hq rs=>cases r1; exact Tw I1.inv m1 (.of hq) rs q1
 | dJ hq rs=>cases r1; exact JQ I1.inv m1 hq.sq (fun H2 G2 k ab _=>⟨_,(k.TK hq).sq,rs.mono k⟩) q1
 | ref p =>
  cases r1;dsimp only at q1;split at q1
  ·rename_i ds e;obtain⟨vs,hv,rs⟩:=I1.ab.lst e;refine JQ I1.inv m1 (.of hv) (fun H2 G2 k ab o=>?_) q1;obtain⟨ws,hw,oI⟩:=ab.lst o;exact⟨ws,.of hw,oI⟩
  ·exact q1.elim
 | oW _ _=>exact q1.elim
 | oV _ _=>exact q1.elim
 | eg=>exact q1.elim
 | bl _=>exact q1.elim
 | int _=>exact q1.elim
 | str _=>exact q1.elim
 | exc _=>exact q1.elim
 | E1 _ _=>exact q1.elim
 | nY _ _ _ _=>exact q1.elim
theorem Nx{pins:List (Addr×Obj)}{σ:L2.St}{H H1:Hp}{G G1:Gp}{s:av}{R:List D->(Gp->Prop)->Gp->Prop}{lo hi:Int}{t u v:Tok}{tk:Nat}(I:Inv X pins σ H1 s)(m:Mv X.K H G H1 G1)(h1:-(2 ^ 62)<=lo)(h2:lo < 2 ^ 62)(h3:-(2 ^ 62)<=hi)(h4:hi < 2 ^ 62)
  (q:R (fL lo (hi - lo).toNat) (fun _=>True) G1):wpAny (model X.prog X.w) X.A (Au (.ref s.heap.objs.size)) (Fu X pins σ tg H G R) X.xe { s with heap:=s.heap.push { cls:=.type "range",data:=.fields #[.int lo t,.int hi u,.int 1 v] },toks:=tk }:=by
 refine fZ (NA (tg:=tg) I h1 h2 h3 h4 (R:=fun J H'=>J=Itr lo (hi - lo).toNat/\H'=H1) ⟨rfl,rfl⟩) ?_;rintro SR s2 ⟨it,fp,tn,J,H',e,k6,T,st,fo,eJ,eH⟩;subst eJ; subst eH;refine⟨it,fp,tn,_,H',G1,_,_,e,k6,m,T,st,fo,fun i H2 G2 k ab _=>⟨fun d hd=>?_,fun hl=>?_⟩,q⟩
 ·unfold fL at hd;rw [br] at hd;cases HI:(dR (hi - lo).toNat)[i]? with
  | none=>rw [HI] at hd; cases hd
  | some j =>
   rw [HI] at hd;obtain⟨tG,ej⟩:=List.getElem?_eq_some_iff.mp HI;rw [rq] at tG;rw [List.getElem_range] at ej;subst ej;cases hd;refine⟨tG,?_⟩;rintro x H3 ⟨e1,e2⟩;subst e1; subst e2;exact⟨.int _,.refl ab⟩
 ·unfold fL at hl;rw [aE,rq] at hl;exact hl
theorem oZ (hg:Gl X "range") (hm:X.mg "range" = none) (ha:fy X a ta) (hs:autoParam (bS [a] X.env=[(false,eval a X.env)]) Ar._auto_1):ID X tg (.Call (.Name "range" p) [a] [] pos) (A5 ta):=by
 intro E pins s σ H τ G R hE I h;have hA:BA X [a] (ar ta aT):=cJ ha fT hs;refine Call_ (nI I.inv hg hm boot_range (dN (zO hA pos hE I (R:=fun ds G1=>match ds with | [.int n]=>-(2 ^ 62)<=n/\n < 2 ^ 62/\R (fL 0 n.toNat) (fun _=>True) G1 | _=>False) ?_ fun vs H1 ds G1 us s1 I1 m1 r1 iI q1=>?_) hs rfl))
 ·show ta E τ G _;have e:(fun (x:D) (G1:Gp)=>match [x] with | [.int n]=>-(2 ^ 62)<=n/\n < 2 ^ 62/\R (fL 0 n.toNat) (fun _=>True) G1 | _=>False)=fun x G1=>match x with | .int n=>-(2 ^ 62)<=n/\n < 2 ^ 62/\R (fL 0 n.toNat) (fun _=>True) G1 | _=>False:=by
   funext x G1; cases x <;> rfl
  exact e ▸ h
 ·split at q1
  ·rename_i n;obtain⟨w,rfl,x3⟩:=iI.one;cases x3;obtain⟨u,rfl,ru⟩:=r1.one;obtain⟨t,rfl⟩:=ru;obtain⟨q1,q2,q⟩:=q1;exact call_range_1 (Nx I1.inv m1 (by lia) (by lia) q1 q2 (by simpa using q))
  ·exact q1.elim
theorem df{iter:Expr}{body:List Stmt}{wi:IC}{g:zG}{t:iP}(hp:PassesOwn (model X.prog X.w) X.A X.env X.xe)(hc:X.calm=true)(hi:ID X tg iter wi)(hg:Mm X tg g)(hb:we X body t)
  (hs:autoParam (∀ x,nB iter X.env x=pure x) Ai._auto_1):FU X (.For tg iter body [] pos) (eB wi g t):=by
 intro E pins s σ H τ G D hE I h;refine wpAny_For (fZ (hi E pins s σ H τ G _ hE I h) fun v s1 h1=>fZ h1 fun SR s2 h2=>?_) hs;obtain⟨it,fp,tn,J,H2,G2,ds,ok,e,k6,m2,T,Qn,f2,wk,q⟩:=h2;subst e;have TJ:∀ {H':Hp},(∀ b∈fp,H' b=none)->∀ b∈fp,mz X pins H' b:=fun hn b hb=>⟨hn b hb,(f2 b hb).2⟩;refine codeAny_forLoop_any (fun n s'=>∃ i ju H' pX G',I2 X pins ju H' pX G' s'/\Mv X.K H G H' G'/\Kp H2 H'/\tn i s'.heap/\(∀ b∈fp,H' b=none)/\n=ds.length - i/\i<=ds.length/\oz g t ok (ds.drop i) E D pX G') ?_ ds.length
  ⟨0,σ,H2,τ,G2,I.mv k6 m2,m2,.refl _,Qn,fun b hb=>(f2 b hb).1,rfl,bZ _,q⟩
 rintro n s3 ⟨i,QF,H3,Tp,G3,I3,m3,k3,X3,fr3,rfl,hle,w3⟩;by_cases tG:i < ds.length
 ·rw [fb tG] at w3;obtain⟨Zb,w3⟩:=w3;obtain⟨go,yl⟩:=(wk i H3 G3 k3 I3.ab Zb).1 ds[i] (by simp [tG]);refine jF hp (fZ (T.item X rfl rfl rfl hc i pins s3 QF H3 X.xe I3.inv (TJ fr3) X3 go) ?_);rintro r s4 ⟨u,hr,h4⟩;subst hr;refine jF hp (fZ h4 ?_);rintro _ s5 ⟨x,H5,I5,r5,y5,YQ,fr5⟩;obtain⟨YZ,m5⟩:=yl x H5 y5;have I5':=I5.pinned (TJ fr5) (T.obj _ _ YQ);have J5:I2 X (pins++qJ fp s5.heap) QF H5 Tp G3 s5:=⟨I5',I3.st.mono (m5.kp I3.ab),m5.ab⟩;refine jF hp (fZ (hg E _ s5 QF H5 Tp G3 x ds[i] u _ hE J5 r5 YZ w3) ?_);rintro _ s6 ⟨σ6,H6,τ6,G6,I6,m6,q6⟩;refine jF hp (fZ (hb E _ s6 σ6 H6 τ6 G6 _ hE I6 q6) fun f s7 q7=>?_);have again:∀ {MA:L2.St} {H7:Hp} {Mz:hZ} {G7:Gp},I2 X (pins++qJ fp s5.heap) MA H7 Mz G7 s7->Mv X.K H6 G6 H7 G7->oz g t ok (ds.drop (i+1)) E D Mz G7 ->
    ∃ m,m < ds.length - i/\∃ i ju H' pX G',I2 X pins ju H' pX G' s7/\Mv X.K H G H' G'/\Kp H2 H'/\tn i s7.heap/\(∀ b∈fp,H' b=none)/\m=ds.length - i/\i<=ds.length/\oz g t ok (ds.drop i) E D pX G':=fun {MA H7 Mz G7} I7 m7 n7=>by
   have mm:=m5.trans (m6.trans m7);refine⟨ds.length - (i+1),by lia,i+1,MA,H7,Mz,G7,⟨I7.inv.t7,I7.st,I7.ab⟩,m3.trans mm,k3.trans (mm.kp I3.ab),T.keep _ _ _ YQ fun b hb o e=>(I7.inv.pin (b,o) (bg _ (bg _ (o9 hb e)))).1,fun b hb=>?_,rfl,tG,n7⟩;obtain⟨o,e,d⟩:=T.obj _ _ YQ b hb;exact(I7.inv.pin (b,o) (bg _ (bg _ (o9 hb e)))).2.1
  cases f with
  | next=>obtain⟨MA,H7,Mz,G7,I7,m7,n7⟩:=q7; exact again I7 m7 n7
  | cont=>obtain⟨MA,H7,Mz,G7,I7,m7,n7⟩:=q7; exact again I7 m7 n7
  | brk=>obtain⟨MA,H7,Mz,G7,I7,m7,q7⟩:=q7; exact⟨MA,H7,Mz,G7,⟨I7.inv.t7,I7.st,I7.ab⟩,m3.trans (m5.trans (m6.trans m7)),q7⟩
  | ret v=>obtain⟨x7,MA,H7,d7,G7,I7,m7,r7,rd7,q7⟩:=q7; exact⟨x7,MA,H7,d7,G7,I7.t7,m3.trans (m5.trans (m6.trans m7)),r7,rd7,q7⟩
 ·have hn:ds.length<=i:=by lia
  rw [k8 hn] at w3;obtain⟨Zb,qn⟩:=w3;have stop:=(wk i H3 G3 k3 I3.ab Zb).2 hn;refine jF hp (fZ (T.done X rfl rfl rfl hc i pins s3 QF H3 X.xe I3.inv (TJ fr3) X3 stop) ?_);rintro r s4 ⟨hr,I4⟩;subst hr;exact xE ⟨QF,H3,Tp,G3,⟨I4,I3.st,I3.ab⟩,m3,qn⟩
theorem Lj{c:Expr}{body:List Stmt}{tc:xb}{t:iP}(hp:PassesOwn (model X.prog X.w) X.A X.env X.xe)(hc:Ml X c tc)(hb:we X body t):FU X (.While c body [] pos) (Pt tc t):=by
 intro E pins s σ H τ G D hE I h;obtain⟨n0,w0⟩:=h;refine wpAny_While (codeAny_whileLoop (fun n s'=>∃ ju H' pX G',I2 X pins ju H' pX G' s'/\Mv X.K H G H' G'/\Gu tc t n E D pX G') ?_ n0 ⟨σ,H,τ,G,I,.refl I.ab,w0⟩);rintro n s1 ⟨XY,H1,qg,G1,I1,m1,w1⟩;cases n with
 | zero=>exact w1.elim
 | succ n =>
  refine jF hp (M5 hc hE I1 w1 fun b H2 G2 s2 k6 m2 q2=>?_);cases b with
  | true =>
   rw [if_pos rfl] at q2 ⊢;refine jF hp (fZ (hb E pins s2 XY H2 qg G2 _ hE k6 q2) fun f s3 q3=>?_);cases f with
   | next=>obtain⟨QF,H3,Tp,G3,I3,m3,n3⟩:=q3; exact⟨n,tS _,QF,H3,Tp,G3,I3,m1.trans (m2.trans m3),n3⟩
   | cont=>obtain⟨QF,H3,Tp,G3,I3,m3,n3⟩:=q3; exact⟨n,tS _,QF,H3,Tp,G3,I3,m1.trans (m2.trans m3),n3⟩
   | brk=>exact q3.trans (m1.trans m2)
   | ret v=>exact q3.trans (m1.trans m2)
  | false =>
   rw [if_neg dF] at q2 ⊢;exact xE ⟨XY,H2,qg,G2,k6,m1.trans m2,q2⟩
end
theorem BZ(n d:Nat)(o:Option Int):HT.jc n d o=jc n d o:=by cases o <;> rfl
theorem ba.cut{K:ai}{H:Hp}{vs:List V}{ds:List D}(r:ba K H vs ds)(lo hi:Option Int):ba K H (Fc vs lo hi) (K2.cut ds lo hi):=by
 unfold Fc K2.cut;rw [BZ,BZ,r.length];exact(r.drop _).take _
theorem ba.qY{K:ai}{H:Hp}{vs:List V}{ds:List D}{i:Int}{d:D}(r:ba K H vs ds)(h:K2.qY ds i=some d):∃ v,L2.qY vs i=some v/\bW K H v d:=by
 unfold K2.qY at h;cases e:K2.J2 ds.length i with
 | none=>rw [e] at h; cases h
 | some j =>
  rw [e] at h;obtain⟨v,h1,h2⟩:=r.get (show ds[j]?=some d from h);refine⟨v,?_,h2⟩;show (L2.J2 vs.length i).bind _=_;have e':L2.J2 vs.length i=some j:=by rw [r.length]; exact e
  rw [e'];exact h1
section
variable {X:Cx} {a b c e:Expr} {ta tb tc te:fx} {pos p2:Pos}
theorem pE{pins:List (Addr×Obj)}{s:av}{σ:L2.St}{H:Hp}{G:Gp}{x:V}{d:D}{v:Value}{zs:List D}(I:Inv X pins σ H s)(ab:kN X.K H G)(rx:RelV x v)(rd:bW X.K H x d)(hi:qM d G=some zs) :
  ∃ l vs bG,v=.ref l/\Vals vs bG/\ba X.K H vs zs/\s.heap.IsList l bG.toArray/\vs.length<=aY:=by
 cases rd with
 | dJ hq rs =>
  cases hi;cases rx;obtain⟨bG,rv,pl,hz⟩:=I.list hq.sq;exact⟨_,_,bG,rfl,rv,rs,pl.isList,hz⟩
 | ref l =>
  unfold qM at hi;dsimp only at hi;cases hg:G l with
  | none=>rw [hg] at hi; cases hi
  | some gg =>
   rw [hg] at hi;cases gg with
   | lst ds =>
    cases hi;cases rx;obtain⟨vs,hv,rs⟩:=ab.lst hg;obtain⟨bG,rv,pl,hz⟩:=I.list (.of hv);exact⟨_,_,bG,rfl,rv,rs,pl.isList,hz⟩
   | ins _ _=>cases hi
   | qT _=>cases hi
   | eV _=>cases hi
 | _=>cases hi
theorem vS{pins:List (Addr×Obj)}{s:av}{σ:L2.St}{H:Hp}(I:Inv X pins σ H s){m:Str->Option Value}(F0:Fr X.base X.env.locals s.heap m){h':Heap}(F:Fr X.base X.env.locals h' m)(N:News X.base X.env.locals h' (rT X.base s.heap X.env.locals)) :
  (∀ b o,b≠X.env.locals->s.heap.get? b=some o->h'.get? b=some o)/\∀ m',s.heap.Ns X.env.locals m'->h'.Ns X.env.locals m':=by
 refine⟨fun b o hb e=>?_,fun m' hm=>?_⟩
 ·cases q:X.base.get? b with
  | some u =>
   have:=I.bk b u q;rw [e] at this; cases this;exact F.keep b _ q
  | none=>exact(N (b,o) (wK hb q e)).1
 ·have e1:=hm.eq_nsMap;have e2:=F0.ns.eq_nsMap;rw [e1,<-e2]; exact F.ns
theorem lE{P:bz}{w:World}{H:Hp}{h:Heap}{a:Addr}:∀ {o:HO},fG P w H h a o->∃ ob,h.get? a=some ob:=by
 intro o x;cases o with
 | lst _=>obtain⟨_,_,_,_,e⟩:=x; exact⟨_,e⟩
 | tup _=>obtain⟨_,_,_,ob,e,_⟩:=x; exact⟨ob,e⟩
 | dK _=>obtain⟨_,_,_,_,ob,_,_,e,_⟩:=x; exact⟨ob,e⟩
 | dT _=>obtain⟨_,_,_,_,ob,_,_,e,_⟩:=x; exact⟨ob,e⟩
 | set _ _=>obtain⟨ob,_,_,_,e,_⟩:=x; exact⟨ob,e⟩
 | ins _ _ _=>obtain⟨_,_,_,e,_⟩:=x; exact⟨_,e⟩
 | own _=>exact x
 | xd _=>obtain⟨_,⟨ob,_,_,e,_⟩,_⟩:=x; exact⟨ob,e⟩
 | met _ _=>exact⟨_,x⟩
 | X4 _ _=>obtain⟨_,_,_,e⟩:=x; exact⟨_,e⟩
 | jZ _ _=>exact⟨_,x.1⟩
 | Si _=>obtain⟨_,e,_⟩:=x; exact⟨_,e⟩
 | ext _=>exact x.2.1
theorem Kg{P:bz}{w:World}{H:Hp}{h:Heap}{a:Addr}(ok:pS P w H h)(e:h.get? a=none):H a=none:=by
 cases q:H a with
 | none=>rfl
 | some o =>
  obtain⟨ob,z⟩:=lE (ok a o q);rw [e] at z; cases z
theorem Inv.SM{pins:List (Addr×Obj)}{s:av}{σ:L2.St}{H:Hp}(I:Inv X pins σ H s){h':Heap}{t':Nat}{a:Addr}{o:HO}(k:∀ b o,b≠X.env.locals->s.heap.get? b=some o->h'.get? b=some o)(ns:∀ m',s.heap.Ns X.env.locals m'->h'.Ns X.env.locals m')
  (hp:s.heap.get? a=none) (new:fG X.prog X.w (upd H a o) h' a o):Inv X pins σ (upd H a o) { s with heap:=h',toks:=t' }:=by
 have hn:H a=none:=Kg I.cp hp;have ne:∀ b u,H b=some u->b≠a:=fun b u e=>dj e hn;have nL:∀ b u,H b=some u->b≠X.env.locals:=fun b u e=>dj e I.free;have ht:∀ b u,s.heap.get? b=some u->b≠a:=fun b u e z=>by subst z; rw [hp] at e; cases e
 have thL:∃ o',h'.get? X.env.locals=some o':=by
  obtain⟨m,hm,_⟩:=I.loc;obtain⟨o',_,_,ho,_⟩:=ns m hm;exact⟨o',ho⟩
 refine I.step (g':=s.gens) (d':=s.drawn) (ch:=[]) (fun b hb=>absurd hb (by simp)) (fun b o hL _ _ e _=>k b o hL e) (fun b o hL _ _ e _=>⟨o.slots,k b o hL e⟩) (fun b o _ e n=>by rw [bO (ht b o e)]; exact n)
  (fun b o _ e=>?_) (fun b xs e=>by rw [bO (ne _ _ e)]; exact e) (fun b o u e=>by rw [bO (ne _ _ e)]; exact e) (fun b ps e=>by rw [bO (ne _ _ e)]; exact e) (fun b ps e=>by rw [bO (ne _ _ e)]; exact e) ns (fun b u e=>?_) I.bare
 ·by_cases hb:b=X.env.locals
  ·rw [hb]; exact thL
  ·exact⟨o,k b o hb e⟩
 ·by_cases hb:b=a
  ·subst hb; rw [bU] at e; cases e; exact new
  ·rw [bO hb] at e;refine(I.cp b u e).lU (fun c v hc r=>k c v ?_ r) (fun c z=>by rw [bO (ne _ _ z)]; exact z) (fun c xs z=>by rw [bO (ne _ _ z)]; exact z);rcases hc with rfl | hc
   ·exact nL _ _ e
   ·exact nL _ _ hc
theorem fI:nP X (iU .Add) ku:=by
 intro pins s σ H G x y dx dy v u Q I ab rx ry dX dY q;have lists:Ds dx dy G Q->wpAny (model X.prog X.w) X.A (iU .Add v u) (su X pins σ H G Q) X.xe s:=by
  intro q;unfold Ds at q;split at q
  ·rename_i xs ys e1 e2;obtain⟨hz,q⟩:=q;obtain⟨l,vs,bG,rfl,rv,rs,hl,_⟩:=pE I ab rx dX e1;obtain⟨b,ws,sf,rfl,K9,Jo,hb,_⟩:=pE I ab ry dY e2;obtain⟨m,F0⟩:=I.fr;have hsz:bG.length+sf.length<=aY:=by rw [<-rv.length,<-K9.length,rs.length,Jo.length,cI]; exact hz
   refine PyProof.Rows.add_lists F0 Ek hl hb (fun h' F N=>?_) hsz;obtain⟨kk,ns⟩:=vS I F0 F fun p hp=>N p (au _ hp);have hp:H s.heap.objs.size=none:=I.cp.fresh (aB _);refine⟨.ref s.heap.objs.size,upd H s.heap.objs.size (.lst (vs++ws)),.ref _,_,Inv.SM (t':=s.toks) I kk ns (QE (aB _)) ?_,.Hi ab hp (rs.append Jo),rfl,.ref _,q _ (ab.free hp)⟩;exact⟨by rw [az,rv.length,K9.length]; exact hsz,bG++sf,0,rv.append K9,(N _ cG).1⟩
  ·exact q.elim
 cases dX with
 | int i =>
  cases dY with
  | int j=>exact fZ (Uq pins s σ H _ _ v u (zH X.K H G Q) I rx ry ⟨i,j,rfl,rfl,_,_,.refl ab,.int _,q⟩) fun _ _ z=>.of z
  | _=>exact lists q
 | str i =>
  cases dY with
  | str j =>
   obtain⟨hz,q⟩:=q;exact fZ (Ha pins s σ H _ _ v u (zH X.K H G Q) I rx ry ⟨i,j,rfl,rfl,by rw [cI]; exact hz,_,_,.refl ab,.str _,q⟩) fun _ _ z=>.of z
  | _=>exact lists q
 | tup h1 r1 =>
  cases dY with
  | tup h2 r2 =>
   obtain⟨hn,hz,q⟩:=q;refine fZ (Rh pins s σ H _ _ v u (zH X.K H G Q) I rx ry ⟨_,_,_,_,rfl,rfl,.of h1,.of h2,?_,?_,fun e=>?_,fun e p hp=>?_⟩) fun _ _ z=>.of z
   ·rintro rfl; cases r1; exact hn rfl
   ·rw [r1.length,r2.length,cI]; exact hz
   ·subst e;cases r2;rw [cH] at q;exact⟨_,_,.refl ab,.tup h1 r1,q⟩
   ·exact⟨_,_,.J9 ab hp,.tup bU ((r1.append r2).mono (.new hp)),q⟩
  | _=>exact lists q
 | ref l=>exact lists (by rw [qH] at q; exact q)
 | dJ _ _=>exact lists (by rw [qG] at q; exact q)
 | _=>exact lists (by cases dY <;> exact q)
theorem xk:nP X (iU .Sub) D6:=by
 intro pins s σ H G x y dx dy v u Q I ab rx ry dX dY q;cases dX with
 | int i =>
  cases dY with
  | int j=>exact fZ (Uk pins s σ H _ _ v u (zH X.K H G Q) I rx ry ⟨i,j,rfl,rfl,_,_,.refl ab,.int _,q⟩) fun _ _ z=>.of z
  | _=>exact bD q
 | _=>exact bD q
theorem JG:nP X (iU .Mult) Lf:=by
 intro pins s σ H G x y dx dy v u Q I ab rx ry dX dY q;cases dX with
 | int i =>
  cases dY with
  | int j=>exact fZ (Ul pins s σ H _ _ v u (zH X.K H G Q) I rx ry ⟨i,j,rfl,rfl,q.1,_,_,.refl ab,.int _,q.2⟩) fun _ _ z=>.of z
  | _=>exact bD q
 | _=>exact bD q
theorem Cf:nP X (iU .Mod) GQ:=by
 intro pins s σ H G x y dx dy v u Q I ab rx ry dX dY q;cases dX with
 | int i =>
  cases dY with
  | int j=>exact fZ (Um pins s σ H _ _ v u (zH X.K H G Q) I rx ry ⟨i,j,rfl,rfl,q.1,_,_,.refl ab,.int _,q.2⟩) fun _ _ z=>.of z
  | _=>exact bD q
 | _=>exact bD q
theorem N0:nP X (iU .FloorDiv) Jr:=by
 intro pins s σ H G x y dx dy v u Q I ab rx ry dX dY q;cases dX with
 | int i =>
  cases dY with
  | int j=>exact fZ (Rg pins s σ H _ _ v u (zH X.K H G Q) I rx ry ⟨i,j,rfl,rfl,⟨q.1,q.2.1⟩,_,_,.refl ab,.int _,q.2.2⟩) fun _ _ z=>.of z
  | _=>exact bD q
 | _=>exact bD q
theorem Cg(hu:X.A.units < cLine):nP X (dg .Lt) T5:=by
 intro pins s σ H G x y dx dy v u Q I ab rx ry dX dY q;cases dX with
 | int i =>
  cases dY with
  | int j=>exact fZ (Wr pins s σ H _ _ v u (zH X.K H G Q) I rx ry ⟨i,j,rfl,rfl,_,_,.refl ab,.bl _,q⟩) fun _ _ z=>.of z
  | _=>exact bD q
 | tup h1 r1 =>
  cases dY with
  | tup h2 r2 =>
   obtain⟨xs,ys,e1,e2,q⟩:=q;subst e1 e2;have z1:=r1.ints;have z2:=r2.ints;subst z1 z2;have el:∀ xs ys:List Int,HT.lexLt xs ys=K2.lexLt xs ys:=by
    intro xs;induction xs with
    | nil=>intro ys; cases ys <;> rfl
    | cons x xs ih=>intro ys; cases ys with
     | nil=>rfl
     | cons y ys=>unfold HT.lexLt K2.lexLt; rw [ih]
   exact fZ (Uo hu pins s σ H _ _ v u (zH X.K H G Q) I rx ry ⟨_,_,xs,ys,rfl,rfl,.of h1,.of h2,_,_,.refl ab,.bl _,by rw [el]; exact q⟩) fun _ _ z=>.of z
  | _=>exact bD q
 | _=>exact bD q
theorem Hb:nP X (dg .LtE) Sv:=by
 intro pins s σ H G x y dx dy v u Q I ab rx ry dX dY q;cases dX with
 | int i =>
  cases dY with
  | int j=>exact fZ (Ws pins s σ H _ _ v u (zH X.K H G Q) I rx ry ⟨i,j,rfl,rfl,_,_,.refl ab,.bl _,q⟩) fun _ _ z=>.of z
  | _=>exact bD q
 | _=>exact bD q
theorem Ci:nP X (dg .Gt) T7:=by
 intro pins s σ H G x y dx dy v u Q I ab rx ry dX dY q;cases dX with
 | int i =>
  cases dY with
  | int j=>exact fZ (Wt pins s σ H _ _ v u (zH X.K H G Q) I rx ry ⟨i,j,rfl,rfl,_,_,.refl ab,.bl _,q⟩) fun _ _ z=>.of z
  | _=>exact bD q
 | _=>exact bD q
mutual
noncomputable def pd:D->PyData
 | .eg=>.none
 | .bl b=>.bool b
 | .int i=>.int i
 | .str x=>.str x
 | .tup ds=>.tuple (kZ ds)
 | .dJ ds=>.list (kZ ds)
 | .gN _=>.none
 | .exc _=>.none
 | .E1 _ _ _=>.none
 | .nY _=>.none
 | .ref _=>.none
noncomputable def kZ:List D->List PyData
 | []=>[]
 | d :: r=>pd d :: kZ r
end
mutual
theorem tL:∀ (s t:D),nr s=true->nr t=true->qc (pd s) (pd t)=ig s t
 | .eg,t,_,ht=>by cases t <;> first | rfl | (exact bw (show false=true from ht))
 | .bl a,t,_,ht=>by cases t <;> first | rfl | (exact bw (show false=true from ht))
 | .int a,t,_,ht=>by cases t <;> first | rfl | (exact bw (show false=true from ht))
 | .str a,t,_,ht=>by cases t <;> first | rfl | (exact bw (show false=true from ht))
 | .tup a,t,hs,ht=>by
  cases t with
  | tup b=>exact CS a b hs ht
  | ref _=>exact bw (show false=true from ht)
  | exc _=>exact bw (show false=true from ht)
  | E1 _ _ _=>exact bw (show false=true from ht)
  | nY _=>exact bw (show false=true from ht)
  | gN _=>exact bw (show false=true from ht)
  | _=>rfl
 | .dJ a,t,hs,ht=>by
  cases t with
  | dJ b=>exact CS a b hs ht
  | ref _=>exact bw (show false=true from ht)
  | exc _=>exact bw (show false=true from ht)
  | E1 _ _ _=>exact bw (show false=true from ht)
  | nY _=>exact bw (show false=true from ht)
  | gN _=>exact bw (show false=true from ht)
  | _=>rfl
 | .ref _,_,hs,_=>bw (show false=true from hs)
 | .exc _,_,hs,_=>bw (show false=true from hs)
 | .E1 _ _ _,_,hs,_=>bw (show false=true from hs)
 | .nY _,_,hs,_=>bw (show false=true from hs)
 | .gN _,_,hs,_=>bw (show false=true from hs)
theorem CS:∀ (s t:List D),pN s=true->pN t=true->PyData.eqvAll (kZ s) (kZ t)=kC s t
 | [],[],_,_=>rfl
 | [],_ :: _,_,_=>rfl
 | _ :: _,[],_,_=>rfl
 | a :: r,b :: t,hs,ht=>by
  have OS:nr a=true/\pN r=true:=(jD).mp hs;have VL:nr b=true/\pN t=true:=(jD).mp ht;show (qc (pd a) (pd b)&&PyData.eqvAll (kZ r) (kZ t))=(ig a b&&kC r t);rw [tL a b OS.1 VL.1,CS r t OS.2 VL.2]
end
mutual
theorem jQ:∀ (s:D),nr s=true->(pd s).canLay0=true
 | .eg,_=>rfl
 | .bl a,_=>rfl
 | .int a,_=>rfl
 | .str a,h=>h
 | .tup a,h=>uK a h
 | .dJ a,h=>uK a h
 | .exc _,_=>rfl
 | .E1 _ _ _,_=>rfl
 | .nY _,_=>rfl
 | .ref _,_=>rfl
 | .gN _,_=>rfl
theorem uK:∀ (s:List D),pN s=true->PyData.canLayAll0 (kZ s)=true
 | [],_=>rfl
 | a :: r,h=>by
  have h':nr a=true/\pN r=true:=(jD).mp h;show ((pd a).canLay0&&PyData.canLayAll0 (kZ r))=true;rw [jQ a h'.1,uK r h'.2]; rfl
end
theorem C2{G:Gp}{n:Nat}{d t:D}(h:Sn G n d t):(pd t).depth<=n:=by
 induction h with
 | eg=>exact bZ _
 | bl b=>exact bZ _
 | int i=>exact bZ _
 | str x h=>exact bZ _
 | GC=>exact tR (bZ _)
 | qy _ _ OP OO =>
  exact tR (Nat.max_le.mpr ⟨OP,t4 OO⟩)
 | Nw=>exact tR (bZ _)
 | D4 _ _ OP OO =>
  exact tR (Nat.max_le.mpr ⟨OP,t4 OO⟩)
 | ref _ _ ih=>exact ih
theorem iL{pins:List (Addr×Obj)}{σ:L2.St}{H:Hp}{s:av}{G:Gp}(I:Inv X pins σ H s)(ab:kN X.K H G){n:Nat}{d t:D}(h:Sn G n d t) :
  (∀ v u,bW X.K H v d->RelV v u->∃ as,Reads s.heap u (pd t) as) /\
  (∀ ds ss,(d=.dJ ds/\t=.dJ ss)\/(d=.tup ds/\t=.tup ss)->∀ vs us,ba X.K H vs ds->Vals vs us->∃ as,gC s.heap us (kZ ss) as):=by
 have Sh:∀ {ds ss:List D},(∀ vs us,ba X.K H vs ds->Vals vs us->∃ as,gC s.heap us (kZ ss) as)->∀ v u,bW X.K H v (.tup ds)->RelV v u->∃ as,Reads s.heap u (pd (.tup ss)) as:=by
  intro ds ss k v u r ru;cases r with
  | tup hq rs =>
   cases ru;obtain⟨bG,rv,⟨o,ho,hc,n,hd⟩,hz⟩:=I.tuple (.of hq);obtain⟨as,ra⟩:=k _ bG rs rv;exact⟨as,.tuple ho hc hd (by simpa using ra)⟩
 have So:∀ {ds ss:List D},(∀ vs us,ba X.K H vs ds->Vals vs us->∃ as,gC s.heap us (kZ ss) as)->∀ v u,bW X.K H v (.dJ ds)->RelV v u->∃ as,Reads s.heap u (pd (.dJ ss)) as:=by
  intro ds ss k v u r ru;cases r with
  | dJ hq rs =>
   cases ru;obtain⟨bG,rv,pl,hz⟩:=I.list hq.sq;obtain⟨o,ho,hc,n,hd⟩:=pl.isList;obtain⟨as,ra⟩:=k _ bG rs rv;exact⟨_,.list ho hc hd (by simpa using ra)⟩
 induction h with
 | eg=>exact⟨fun v u r ru=>by cases r; cases ru; exact⟨_,.none⟩,fun ds ss e=>by rcases e with ⟨e,_⟩ | ⟨e,_⟩ <;> cases e⟩
 | bl b=>exact⟨fun v u r ru=>by cases r; cases ru; exact⟨_,.bool b⟩,fun ds ss e=>by rcases e with ⟨e,_⟩ | ⟨e,_⟩ <;> cases e⟩
 | int i=>exact⟨fun v u r ru=>by cases r; obtain⟨t,rfl⟩:=ru; exact⟨_,.int i t⟩,fun ds ss e=>by rcases e with ⟨e,_⟩ | ⟨e,_⟩ <;> cases e⟩
 | str x hx=>exact⟨fun v u r ru=>by cases r; obtain⟨t,rfl⟩:=ru; exact⟨_,.str x t⟩,fun ds ss e=>by rcases e with ⟨e,_⟩ | ⟨e,_⟩ <;> cases e⟩
 | GC =>
  have k:∀ vs us,ba X.K H vs []->Vals vs us->∃ as,gC s.heap us (kZ []) as:=fun vs us r ru=>by
   have e:=r.zero;subst e;cases ru;exact⟨_,.nil⟩
  refine⟨Sh k,fun ds ss e=>?_⟩;rcases e with ⟨e,_⟩ | ⟨e,e2⟩
  ·cases e
  ·cases e; cases e2; exact k
 | qy h1 h2 OP OO =>
  have k2:=OO.2 _ _ (.inr ⟨rfl,rfl⟩);have k:∀ vs us,ba X.K H vs (_ :: _)->Vals vs us->∃ as,gC s.heap us (kZ (_ :: _)) as:=fun vs us r ru=>by
   cases r with
   | cons r1 r2 =>
    cases ru with
    | cons u1 u2 =>
     obtain⟨as,ra⟩:=OP.1 _ _ r1 u1;obtain⟨bs,rb⟩:=k2 _ _ r2 u2;exact⟨_,.cons ra rb⟩
  refine⟨Sh k,fun ds ss e=>?_⟩;rcases e with ⟨e,_⟩ | ⟨e,e2⟩
  ·cases e
  ·cases e; cases e2; exact k
 | Nw =>
  have k:∀ vs us,ba X.K H vs []->Vals vs us->∃ as,gC s.heap us (kZ []) as:=fun vs us r ru=>by
   have e:=r.zero;subst e;cases ru;exact⟨_,.nil⟩
  refine⟨So k,fun ds ss e=>?_⟩;rcases e with ⟨e,e2⟩ | ⟨e,_⟩
  ·cases e; cases e2; exact k
  ·cases e
 | D4 h1 h2 OP OO =>
  have k2:=OO.2 _ _ (.inl ⟨rfl,rfl⟩);have k:∀ vs us,ba X.K H vs (_ :: _)->Vals vs us->∃ as,gC s.heap us (kZ (_ :: _)) as:=fun vs us r ru=>by
   cases r with
   | cons r1 r2 =>
    cases ru with
    | cons u1 u2 =>
     obtain⟨as,ra⟩:=OP.1 _ _ r1 u1;obtain⟨bs,rb⟩:=k2 _ _ r2 u2;exact⟨_,.cons ra rb⟩
  refine⟨So k,fun ds ss e=>?_⟩;rcases e with ⟨e,e2⟩ | ⟨e,_⟩
  ·cases e; cases e2; exact k
  ·cases e
 | ref hg h1 ih =>
  refine⟨fun v u r ru=>?_,fun ds ss e=>by rcases e with ⟨e,_⟩ | ⟨e,_⟩ <;> cases e⟩;cases r;cases ru;obtain⟨vs,hv,rs⟩:=ab.lst hg;obtain⟨bG,rv,pl,hz⟩:=I.list (.of hv);obtain⟨o,ho,hc,n,hd⟩:=pl.isList;obtain⟨as,ra⟩:=ih.2 _ _ (.inl ⟨rfl,rfl⟩) vs bG rs rv;exact⟨_,.list ho hc hd (by simpa using ra)⟩
theorem nG(hu:X.A.units+64 < cLine):nP X (dg .Eq) (GS false):=by
 intro pins s σ H G x y dx dy v u Q I ab rx ry dX dY q;obtain⟨a,b,sa,sb,q⟩:=q;obtain⟨as,ra⟩:=(iL I ab sa).1 x v dX rx;obtain⟨bs,rb⟩:=(iL I ab sb).1 y u dY ry;have d1:=C2 sa;refine SeqAt.compareEq_reads ra rb (jQ _ sa.nr) (jQ _ sb.nr) (by unfold SN at d1; lia) ?_;rw [tL _ _ sa.nr sb.nr];exact⟨.bl _,H,.bl _,G,I,.refl ab,rfl,.bl _,q⟩
theorem NY(hu:X.A.units+64 < cLine):nP X (dg .NotEq) (GS true):=by
 intro pins s σ H G x y dx dy v u Q I ab rx ry dX dY q;obtain⟨a,b,sa,sb,q⟩:=q;obtain⟨as,ra⟩:=(iL I ab sa).1 x v dX rx;obtain⟨bs,rb⟩:=(iL I ab sb).1 y u dY ry;have d1:=C2 sa;refine SeqAt.compareNe_reads ra rb (jQ _ sa.nr) (jQ _ sb.nr) (by unfold SN at d1; lia) ?_;rw [tL _ _ sa.nr sb.nr];exact⟨.bl _,H,.bl _,G,I,.refl ab,rfl,.bl _,q⟩
end
theorem uV(j k:Key):ig (dM j) (dM k)=decide (j=k):=by
 cases j with
 | inl a=>cases k with
  | inl b=>rw [Oy]; rfl
  | inr b=>exact(decide_eq_false (fun z=>nomatch z)).symm
 | inr a=>cases k with
  | inl b=>exact(decide_eq_false (fun z=>nomatch z)).symm
  | inr b=>rw [Ox]; exact(Qj a b)
theorem Bk:∀ (js ks:List Key),kC (js.map dM) (ks.map dM)=decide (js=ks)
 | [],[]=>(decide_eq_true rfl).symm
 | [],_ :: _=>(decide_eq_false (fun z=>nomatch z)).symm
 | _ :: _,[]=>(decide_eq_false (fun z=>nomatch z)).symm
 | j :: js,k :: ks=>by
  show (ig (dM j) (dM k)&&kC (js.map dM) (ks.map dM))=_;rw [uV,Bk js ks,E7]
theorem qS(js ks:List Key):ig (.tup (js.map dM)) (.tup (ks.map dM))=decide (js=ks):=by
 exact Bk js ks
section
variable {K:ai} {H:Hp}
theorem uM{d:D}(h:dP d=true):∃ k:Key,d=dM k:=by
 cases d with
 | int i=>exact⟨.inl i,rfl⟩
 | str x=>exact⟨.inr x,rfl⟩
 | _=>exact absurd h (by simp [dP])
theorem JU:∀ {ds:List D},ds.all dP=true->∃ ks:List Key,ds=ks.map dM
 | [],_=>⟨[],rfl⟩
 | d :: r,h=>by
  rw [sD,aK] at h;obtain⟨k,rfl⟩:=uM h.1;obtain⟨ks,rfl⟩:=JU h.2;exact⟨k :: ks,rfl⟩
theorem JV{d:D}(h:kc d=true):∃ ks:List Key,d=.tup (ks.map dM):=by
 cases d with
 | tup ds=>obtain⟨ks,rfl⟩:=JU (ds:=ds) h; exact⟨ks,rfl⟩
 | _=>exact absurd h (by simp [kc])
theorem ug{v:V}{k:Key}(r:bW K H v (dM k)):v=kV k:=by
 cases k with
 | inl i=>cases r; rfl
 | inr x=>cases r; rfl
theorem DY:∀ {vs:List V} {ks:List Key},ba K H vs (ks.map dM)->vs=ks.map kV
 | _,[],r=>r.zero
 | _,k :: ks,r=>by
  rw [aj] at r;cases r with
  | cons r1 r2=>rw [ug r1,DY r2]; rfl
theorem DZ{v:V}{ks:List Key}(r:bW K H v (.tup (ks.map dM))):∃ b,v=.ref b/\H b=some (.tup (ks.map kV)):=by
 cases r with
 | tup h rs=>have e:=DY rs; subst e; exact⟨_,rfl,h⟩
theorem lI.look{kv:List (Key×V)}{kvs:List (D×D)}(r:lI K H kv kvs)(k:Key):(∃ v d,k9 kv k=some v/\K2.look kvs (dM k)=some d/\bW K H v d)\/(k9 kv k=none/\K2.look kvs (dM k)=none):=by
 induction r using lI.ind with
 | nil=>exact .inr ⟨rfl,rfl⟩
 | @cons j v d r t rd rs ih =>
  by_cases e:j=k
  ·left;refine⟨v,d,qu (p:=(j,v)) e,?_,rd⟩;unfold K2.look;rw [b9 (by show ig (dM j) (dM k)=true; rw [uV]; exact decide_eq_true e)]; rfl
  ·have e1:k9 ((j,v) :: r) k=k9 r k:=qv (p:=(j,v)) e;have e2:K2.look ((dM j,d) :: t) (dM k)=K2.look t (dM k):=by
    unfold K2.look;rw [cb (by show ¬ ig (dM j) (dM k)=true; rw [uV]; simpa using e)]
   rw [e1,e2];exact ih
theorem ly.look{kv:List (List Key×V)}{kvs:List (D×D)}(r:ly K H kv kvs)(k:List Key):(∃ v d,k9 kv k=some v/\K2.look kvs (.tup (k.map dM))=some d/\bW K H v d)\/(k9 kv k=none/\K2.look kvs (.tup (k.map dM))=none):=by
 induction r using ly.ind with
 | nil=>exact .inr ⟨rfl,rfl⟩
 | @cons j v d r t rd rs ih =>
  by_cases e:j=k
  ·left;refine⟨v,d,qu (p:=(j,v)) e,?_,rd⟩;unfold K2.look;rw [b9 (by show ig (.tup (j.map dM)) (.tup (k.map dM))=true; rw [qS]; exact decide_eq_true e)]; rfl
  ·have e1:k9 ((j,v) :: r) k=k9 r k:=qv (p:=(j,v)) e;have e2:K2.look ((.tup (j.map dM),d) :: t) (.tup (k.map dM))=K2.look t (.tup (k.map dM)):=by
    unfold K2.look;rw [cb (by show ¬ ig (.tup (j.map dM)) (.tup (k.map dM))=true; rw [qS]; simpa using e)]
   rw [e1,e2];exact ih
theorem lI.any{kv:List (Key×V)}{kvs:List (D×D)}(r:lI K H kv kvs)(k:Key):(kv.any fun p=>decide (p.1=k))=kvs.any fun p=>ig p.1 (dM k):=by
 induction r using lI.ind with
 | nil=>rfl
 | @cons j v d r t rd rs ih=>simp only [kL]; rw [ih,uV]
theorem ly.any{kv:List (List Key×V)}{kvs:List (D×D)}(r:ly K H kv kvs)(k:List Key):(kv.any fun p=>decide (p.1=k))=kvs.any fun p=>ig p.1 (.tup (k.map dM)):=by
 induction r using ly.ind with
 | nil=>rfl
 | @cons j v d r t rd rs ih=>simp only [kL]; rw [ih,qS]
theorem lI.put{kv:List (Key×V)}{kvs:List (D×D)}(r:lI K H kv kvs)(k:Key){v:V}{d:D}(rd:bW K H v d):lI K H (putK kv k v) (K2.put kvs (dM k) d):=by
 unfold putK K2.put;rw [r.any k];by_cases h:(kvs.any fun p=>ig p.1 (dM k))=true
 ·rw [if_pos h,if_pos h];clear h;induction r using lI.ind with
  | nil=>exact .nil
  | @cons j w e r t re rs ih =>
   simp only [aj];rw [uV];by_cases e:j=k
   ·simp only [e,if_true,decide_true]; exact .cons rd ih
   ·simp only [e,if_false,decide_false,aF]; exact .cons re ih
 ·rw [if_neg h,if_neg h];clear h;induction r using lI.ind with
  | nil=>exact .cons rd .nil
  | cons re rs ih=>exact .cons re ih
theorem ly.put{kv:List (List Key×V)}{kvs:List (D×D)}(r:ly K H kv kvs)(k:List Key){v:V}{d:D}(rd:bW K H v d):ly K H (putK kv k v) (K2.put kvs (.tup (k.map dM)) d):=by
 unfold putK K2.put;rw [r.any k];by_cases h:(kvs.any fun p=>ig p.1 (.tup (k.map dM)))=true
 ·rw [if_pos h,if_pos h];clear h;induction r using ly.ind with
  | nil=>exact .nil
  | @cons j w e r t re rs ih =>
   simp only [aj];rw [qS];by_cases e:j=k
   ·simp only [e,if_true,decide_true]; exact .cons rd ih
   ·simp only [e,if_false,decide_false,aF]; exact .cons re ih
 ·rw [if_neg h,if_neg h];clear h;induction r using ly.ind with
  | nil=>exact .cons rd .nil
  | cons re rs ih=>exact .cons re ih
end
theorem Kp.putD{H:Hp}{p:Addr}{o o':HO}(hp:H p=some o)(h:(∃ k,o=.dK k)\/∃ k,o=.dT k):Kp H (upd H p o') :=
 ⟨fun a ys e=>by rw [bO (by rintro rfl; rw [hp] at e; rcases h with ⟨_,rfl⟩ | ⟨_,rfl⟩ <;> cases e)]; exact e,fun a ob u e=>by rw [bO (by rintro rfl; rw [hp] at e; rcases h with ⟨_,rfl⟩ | ⟨_,rfl⟩ <;> cases e)]; exact e⟩
section
variable {X:Cx} {pins:List (Addr×Obj)} {σ:L2.St} {H:Hp} {s:av} {G:Gp} {a:Addr} {kvs:List (D×D)} {k:D} {y:V}
theorem toT(I:Inv X pins σ H s)(e:H a=some (.dK [])):Inv X pins σ (upd H a (.dT [])) s:=by
 obtain⟨z,hd,vs,rel,dd⟩:=Bn I.cp e;have hv:vs=[]:=by cases rel; rfl
 subst hv;obtain⟨o,es,ep,ho,hx,zF,hko,hl,nd⟩:=dd;have he:es=#[]:=by
  cases hq:es.toList with
  | nil=>simpa using hq
  | cons _ _=>rw [hq] at hl; cases hl
 subst he;exact I.write (h':=s.heap) (t':=s.toks) (x:=a) (e:=a) (by rw [e]; exact fN) (.inl rfl) (fun b u _ q=>q) ⟨o,ho⟩ ⟨bZ _,hd,[],.nil,o,#[],ep,ho,hx,zF,rfl,cA⟩
theorem toK(I:Inv X pins σ H s)(e:H a=some (.dT [])):Inv X pins σ (upd H a (.dK [])) s:=by
 obtain⟨z,hd,xs,rel,o,es,ep,ho,hx,zF,hl,nd⟩:=I.cp a _ e;have hv:xs=[]:=by cases rel; rfl
 subst hv;have he:es=#[]:=by simpa using hl
 subst he;exact I.write (h':=s.heap) (t':=s.toks) (x:=a) (e:=a) (by rw [e]; exact fN) (.inl rfl) (fun b u _ q=>q) ⟨o,ho⟩ ⟨bZ _,hd,[],.nil,o,#[],ep,ho,hx,zF,(fun _ h=>by simp at h),.nil,cA⟩
theorem JJ{o:HO}(ab:kN X.K H G)(hg:G a=some (.eV kvs))(k:Kp H (upd H a o))(ho:KP X.K (upd H a o) a (.eV kvs)):Mv X.K H G (upd H a o) G:=by
 have m:=Mv.put ab hg k ho;have e:cT G a (.eV kvs)=G:=by
  funext b; unfold cT; split
  ·rename_i z; rw [z,hg]
  ·rfl
 rw [e] at m;exact m
theorem C0(I:Inv X pins σ H s)(ab:kN X.K H G)(hg:G a=some (.eV kvs))(hk:g7 kvs k=true)(ry:bW X.K H y k) :
  ∃ H',Inv X pins σ H' s/\Mv X.K H G H' G/\((∃ (kv:List (Key×V)) (kk:Key),H' a=some (.dK kv)/\lI X.K H' kv kvs/\k=dM kk/\y=kV kk)\/∃ (kv:List (List Key×V)) (kk:List Key) (b:Addr),H' a=some (.dT kv)/\ly X.K H' kv kvs/\k=.tup (kk.map dM)/\y=.ref b/\H' b=some (.tup (kk.map kV))):=by
 unfold g7 at hk;rw [oH,aK,aK] at hk;rcases hk with ⟨h1,h2⟩ | ⟨h1,h2⟩
 ·obtain⟨kk,rfl⟩:=uM h1;have ey:=ug ry;subst ey;rcases ab a _ hg with ⟨kv,hv,rs⟩ | ⟨kv,hv,rs⟩
  ·exact⟨H,I,.refl ab,.inl ⟨kv,kk,hv,rs,rfl,rfl⟩⟩
  ·cases rs with
   | nil =>
    refine⟨_,toK I hv,JJ ab hg (.putD hv (.inr ⟨_,rfl⟩)) (.inl ⟨[],bU,.nil⟩),.inl ⟨[],kk,bU,.nil,rfl,rfl⟩⟩
   | cons _ _=>simp [dP] at h2
 ·obtain⟨kk,rfl⟩:=JV h1;obtain⟨b,rfl,hb⟩:=DZ ry;rcases ab a _ hg with ⟨kv,hv,rs⟩ | ⟨kv,hv,rs⟩
  ·cases rs with
   | nil =>
    have kp:Kp H (upd H a (.dT [])):=.putD hv (.inl ⟨_,rfl⟩);exact⟨_,toT I hv,JJ ab hg kp (.inr ⟨[],bU,.nil⟩),.inr ⟨[],kk,b,bU,.nil,rfl,rfl,kp.tup _ _ hb⟩⟩
   | @cons j _ _ _ _ _ _=>cases j <;> simp [dM,kc] at h2
  ·exact⟨H,I,.refl ab,.inr ⟨kv,kk,b,hv,rs,rfl,rfl,hb⟩⟩
theorem E6(I:Inv X pins σ H s)(ab:kN X.K H G)(hg:G a=some (.eV kvs))(hk:g7 kvs k=true)(ry:bW X.K H y k) :
  ∃ H' o,Inv X pins σ H' s/\Mv X.K H G H' G/\zu H' a y o/\o.isSome=(look kvs k).isSome/\∀ d,look kvs k=some d->∃ v,o=some v/\bW X.K H' v d:=by
 obtain⟨H',I',m,h⟩:=C0 I ab hg hk ry;rcases h with ⟨kv,kk,hv,rs,rfl,rfl⟩ | ⟨kv,kk,b,hv,rs,rfl,rfl,hb⟩
 ·refine⟨H',k9 kv kk,I',m,.k hv,?_,fun d hd=>?_⟩
  ·rcases rs.look kk with ⟨v,d,e1,e2,_⟩ | ⟨e1,e2⟩ <;> rw [e1,e2] <;> rfl
  ·rcases rs.look kk with ⟨v,d',e1,e2,r⟩ | ⟨e1,e2⟩
   ·rw [e2] at hd; cases hd; exact⟨v,e1,r⟩
   ·rw [e2] at hd; cases hd
 ·refine⟨H',k9 kv kk,I',m,.t hv hb,?_,fun d hd=>?_⟩
  ·rcases rs.look kk with ⟨v,d,e1,e2,_⟩ | ⟨e1,e2⟩ <;> rw [e1,e2] <;> rfl
  ·rcases rs.look kk with ⟨v,d',e1,e2,r⟩ | ⟨e1,e2⟩
   ·rw [e2] at hd; cases hd; exact⟨v,e1,r⟩
   ·rw [e2] at hd; cases hd
theorem B0{x:V}(I:Inv X pins σ H s)(rd:bW X.K H x (.gN kvs))(hk:g7 kvs k=true)(ry:bW X.K H y k) :
  ∃ a o,x=.ref a/\(kvs=[]\/zu H a y o)/\o.isSome=(look kvs k).isSome/\∀ d,look kvs k=some d->∃ v,o=some v/\bW X.K H v d:=by
 unfold g7 at hk;rw [oH,aK,aK] at hk;cases rd with
 | oW h rs =>
  rename_i a ob kv;rcases hk with ⟨h1,h2⟩ | ⟨h1,h2⟩
  ·obtain⟨kk,rfl⟩:=uM h1;have ey:=ug ry;subst ey;refine⟨a,k9 kv kk,rfl,.inr (.inl ⟨kv,kk,.inr ⟨_,h⟩,rfl,rfl⟩),?_,fun d hd=>?_⟩
   ·rcases rs.look kk with ⟨v,d,e1,e2,_⟩ | ⟨e1,e2⟩ <;> rw [e1,e2] <;> rfl
   ·rcases rs.look kk with ⟨v,d',e1,e2,r⟩ | ⟨e1,e2⟩
    ·rw [e2] at hd; cases hd; exact⟨v,e1,r⟩
    ·rw [e2] at hd; cases hd
  ·cases rs with
   | nil=>exact⟨a,none,rfl,.inl rfl,rfl,fun d hd=>by cases hd⟩
   | cons _ _ =>
    rename_i kx _ _ _ _ _ _;rw [sD,aK] at h2;cases kx <;> exact absurd h2.1 (by simp [dM,kc])
 | oV h rs =>
  rename_i a ob kv;rcases hk with ⟨h1,h2⟩ | ⟨h1,h2⟩
  ·cases rs with
   | nil=>exact⟨a,none,rfl,.inl rfl,rfl,fun d hd=>by cases hd⟩
   | cons _ _ =>
    rw [sD,aK] at h2;exact absurd h2.1 (by simp [dP])
  ·obtain⟨kk,rfl⟩:=JV h1;obtain⟨b,rfl,hb⟩:=DZ ry;refine⟨a,k9 kv kk,rfl,.inr (.inr ⟨kv,kk,b,.inr ⟨_,h⟩,rfl,hb,rfl⟩),?_,fun d hd=>?_⟩
   ·rcases rs.look kk with ⟨v,d,e1,e2,_⟩ | ⟨e1,e2⟩ <;> rw [e1,e2] <;> rfl
   ·rcases rs.look kk with ⟨v,d',e1,e2,r⟩ | ⟨e1,e2⟩
    ·rw [e2] at hd; cases hd; exact⟨v,e1,r⟩
    ·rw [e2] at hd; cases hd
theorem Pq{v:V}{d:D}(I:Inv X pins σ H s)(ab:kN X.K H G)(hg:G a=some (.eV kvs))(hk:g7 kvs k=true)(hz:kvs.length < SZ)(ry:bW X.K H y k)(rv:bW X.K H v d) :
  ∃ H' H'',Inv X pins σ H' s/\Mp H' a y v H''/\Mv X.K H G H'' (cT G a (.eV (put kvs k d))):=by
 obtain⟨H',I',m,h⟩:=C0 I ab hg hk ry;have rv':=rv.mono (m.kp ab);have sz:aY=16777216:=cI;rcases h with ⟨kv,kk,hv,rs,rfl,rfl⟩ | ⟨kv,kk,b,hv,rs,rfl,rfl,hb⟩
 ·have kp:Kp H' (upd H' a (.dK (putK kv kk v))):=.putD hv (.inl ⟨_,rfl⟩);exact⟨H',_,I',.k hv (by rw [rs.length,sz]; exact hz),m.trans (.put m.ab hg kp (.inl ⟨_,bU,(rs.put kk rv').mono kp⟩))⟩
 ·have kp:Kp H' (upd H' a (.dT (putK kv kk v))):=.putD hv (.inr ⟨_,rfl⟩);exact⟨H',_,I',.t hv hb (by rw [rs.length,sz]; exact hz),m.trans (.put m.ab hg kp (.inr ⟨_,bU,(rs.put kk rv').mono kp⟩))⟩
end
section
variable {X:Cx} {a b c e:Expr} {es:List Expr} {ta tb tc te:fx} {t:KH} {pos p p2 apos pz:Pos} {x:Str}
theorem NW{k:Bool}{j}:fy X (.Constant (.bool k) j pos) (dC (.bl k)):=vO Wo fun _ _=>.bl k
theorem rF{st:Stmt}:FU X st y0:=fun _ _ _ _ _ _ _ _ _ _ h=>h.elim
theorem mS:XJ X (unaryOp .USub) zS:=by
 intro pins s σ H G x dx v Q I ab rx dX q;cases dX with
 | int i=>exact fZ (Tu pins s σ H _ v (zH X.K H G Q) I rx ⟨i,rfl,_,_,.refl ab,.int _,q⟩) fun _ _ z=>.of z
 | _=>exact bD q
theorem fE(hu:X.A.units+64 < cLine)(ha:fy X a ta)(hb:fy X b tb)(hs:R7 b):fy X (.Subscript a b pos) (bH nF ta tb):=by
 intro E pins s σ H τ G Q hE I h;refine Subscript_ (PY ha hb hE I h fun v u s2 x y dx dy H2 G2 J m rx ry dX dY q=>?_);have fin:∀ {rb:R2},IxR X rb->rb x y H2 (zH X.K H2 G2 Q)->wpAny (model X.prog X.w) X.A (subscriptTail a b v u) (su X pins σ H G Q) X.xe s2:=fun hr hq =>
  fZ (hr a b pins s2 σ H2 x y v u _ J.inv rx ry hq (hs _ _)) fun _ _ z=>(su.of z).trans m
 cases dX with
 | tup hq rs =>
  cases dY with
  | int i =>
   rw [jK] at q;split at q
   ·rename_i d hd;obtain⟨w,hw,oI⟩:=rs.qY hd;exact fin UQ ⟨_,_,i,w,rfl,rfl,.of hq,hw,d,G2,.refl J.ab,oI,q⟩
   ·exact q.elim
  | _=>exact bD q
 | dJ hq rs =>
  cases dY with
  | int i =>
   rw [oe] at q;split at q
   ·rename_i d hd;obtain⟨w,hw,oI⟩:=rs.qY hd;exact fin J0 ⟨_,_,i,w,rfl,rfl,hq.sq,hw,d,G2,.refl J.ab,oI,q⟩
   ·exact q.elim
  | _=>exact bD q
 | oW h rs =>
  rw [B4] at q;obtain⟨hk,q⟩:=q;split at q
  ·rename_i d hd;obtain⟨a',o,ea,g,_,hv⟩:=B0 J.inv (.oW h rs) hk dY;obtain⟨w,rfl,oI⟩:=hv d hd;cases ea;rcases g with rfl | g
   ·cases hd
   ·cases rx;exact tail_any (qU J.inv g) PySem.F.slot_dict_getitem.lookup (vZ (by lia) J.inv g ry fun w' s3 I4 rv=>⟨w,H2,d,G2,I4,m,rv,oI,q⟩) (hs _ _)
  ·exact q.elim
 | oV h rs =>
  rw [B4] at q;obtain⟨hk,q⟩:=q;split at q
  ·rename_i d hd;obtain⟨a',o,ea,g,_,hv⟩:=B0 J.inv (.oV h rs) hk dY;obtain⟨w,rfl,oI⟩:=hv d hd;cases ea;rcases g with rfl | g
   ·cases hd
   ·cases rx;exact tail_any (qU J.inv g) PySem.F.slot_dict_getitem.lookup (vZ (by lia) J.inv g ry fun w' s3 I4 rv=>⟨w,H2,d,G2,I4,m,rv,oI,q⟩) (hs _ _)
  ·exact q.elim
 | ref l =>
  rw [QR] at q;split at q
  ·rename_i ds hl;obtain⟨vs,hv,rs⟩:=J.ab.lst hl;cases dY with
   | int i =>
    dsimp only at q;split at q
    ·rename_i d hd;obtain⟨w,hw,oI⟩:=rs.qY hd;exact fin J0 ⟨_,_,i,w,rfl,rfl,.of hv,hw,d,G2,.refl J.ab,oI,q⟩
    ·exact q.elim
   | _=>exact bD q
  ·rename_i kvs hl;obtain⟨hk,q⟩:=q;split at q
   ·rename_i d hd;obtain⟨H3,o,I3,m3,g,_,hv⟩:=E6 J.inv J.ab hl hk dY;obtain⟨w,rfl,oI⟩:=hv d hd;cases rx;exact tail_any (qU I3 g) PySem.F.slot_dict_getitem.lookup (vZ (by lia) I3 g ry fun w' s3 I4 rv=>⟨w,H3,d,G2,I4,m.trans m3,rv,oI,q⟩) (hs _ _)
   ·exact q.elim
  ·exact q.elim
 | _=>exact bD q
noncomputable def Yy(X:Cx)(e:Option Expr)(t:XO):Prop :=
 ∀ (E:lr) (pins:List (Addr×Obj)) (s:av) (σ:L2.St) (H:Hp) (τ:hZ) (G:Gp) (Q:Option Int->Gp->Prop),Lk X E->I2 X pins σ H τ G s->t E τ G Q ->
  wpAny (model X.prog X.w) X.A (evalPart e X.env) (fun u s'=>∃ o H' G',Inv X pins σ H' s'/\Mv X.K H G H' G'/\IsPart u o/\Q o G') X.xe s
theorem og:Yy X none iO:=by
 intro E pins s σ H τ G Q hE I h;rw [evalPart_none];exact aw ⟨none,H,G,I.inv,.refl I.ab,.none,h⟩
theorem ky(h:fy X e te):Yy X (some e) (sM te):=by
 intro E pins s σ H τ G Q hE I hw;rw [evalPart_some];refine i4 h hE I hw fun x H1 d G1 u s1 I1 m1 r1 iI q1=>?_;cases iI with
 | int i =>
  obtain⟨t,rfl⟩:=r1;exact⟨some i,H1,G1,I1.inv,m1,.int i t,q1⟩
 | _=>exact bD q1
theorem j9{lo hi:Option Expr}{tl th:XO}(he:fy X a ta)(hl:Yy X lo tl)(hu:Yy X hi th):fy X (.Subscript a (.Slice lo hi none p2) pos) (Ii ta tl th):=by
 intro E pins s σ H τ G Q hE I h;refine Subscript_ (i4 he hE I h fun x H1 d G1 v s1 I1 m1 r1 iI q1=>?_);refine wpAny_Slice (fZ (hl E pins s1 σ H1 τ G1 _ hE I1 q1) ?_);rintro vl s2 ⟨l,H2,G2,k6,m2,pl,q2⟩;refine fZ (hu E pins s2 σ H2 τ G2 _ hE (I1.mv k6 m2) q2) ?_;rintro vu s3 ⟨r,H3,G3,I3,m3,pu,q3⟩;rw [evalPart_none];refine aw ?_;have WG:=m2.trans m3;have mm:=m1.trans WG;have I4:Inv X pins σ H3 { s3 with heap:=s3.heap.push { cls:=.type "slice",data:=.fields #[vl,vu,.none] } }:=I3.kept (t':=s3.toks) fun b ob q=>ay _ q;have We:=iI.mono (WG.kp I1.ab);have Th:=m3.ab;have key:∀ {rb:V->Option Int->Option Int->Hp->VK->Prop},SlR X rb->rb x l r H3 (zH X.K H3 G3 Q)->wpAny (model X.prog X.w) X.A (subscriptTail a (.Slice lo hi none p2) v (.ref s3.heap.objs.size)) (su X pins σ H G Q) X.xe { s3 with heap:=s3.heap.push { cls:=.type "slice",data:=.fields #[vl,vu,.none] } }:=fun hr hq=>by
  obtain⟨T,id,hT,ht,hg⟩:=hr pins { s3 with heap:=s3.heap.push { cls:=.type "slice",data:=.fields #[vl,vu,.none] } } σ H3 x v vl vu l r s3.heap.objs.size _ I4 r1 (Heap.IsSliceOf.new ..) pl pu hq;exact fZ (tail_any (ops:=[.ref s3.heap.objs.size,v]) ht hT hg (by with_unfolding_all rfl)) fun _ _ z=>(su.of z).trans mm
 cases We with
 | tup hq rs =>
  obtain⟨hw,q⟩:=q3;refine key TQ ⟨_,_,rfl,.of hq,?_,fun p hp=>⟨_,G3,.J9 Th hp,.tup bU ((rs.cut l r).mono (.new hp)),q⟩⟩;rw [BZ,BZ,rs.length];exact hw
 | dJ hq rs=>exact key Jl ⟨_,_,rfl,hq.sq,fun p hp=>⟨_,_,.Hi Th hp (rs.cut l r),.ref _,q3 p (Th.free hp)⟩⟩
 | ref g =>
  rw [xj] at q3;split at q3
  ·rename_i ds hg;obtain⟨vs,hv,rs⟩:=Th.lst hg;exact key Jl ⟨_,_,rfl,.of hv,fun p hp=>⟨_,_,.Hi Th hp (rs.cut l r),.ref _,q3 p (Th.free hp)⟩⟩
  ·exact q3.elim
 | _=>exact bD q3
theorem Rb(ss:List D)(s:D)(h1:pN ss=true)(h2:nr s=true):((kZ ss).any fun y=>qc y (pd s))=ss.any (ig · s):=by
 induction ss with
 | nil=>rfl
 | cons d r ih =>
  have h':nr d=true/\pN r=true:=(jD).mp h1;show (qc (pd d) (pd s)||(kZ r).any _)=_;rw [ih h'.2,tL d s h'.1 h2]; rfl
theorem Ko{G:Gp}{n:Nat}{ds ss:List D}(h:Sn G (n+1) (.dJ ds) (.dJ ss)):bX (kZ ss)<=n:=by
 exact t4 (C2 h)
theorem CD(hu:X.A.units+64 < cLine)(neg:Bool){pins:List (Addr×Obj)}{s:av}{σ:L2.St}{H:Hp}{G:Gp}{x y:V}{dx t:D}{ds ss:List D}{v u:Value}{Q:DK}(I:Inv X pins σ H s)(ab:kN X.K H G)(rx:RelV x v)(dX:bW X.K H x dx)
  (hy:(∃ l vs bG,u=.ref l/\Vals vs bG/\ba X.K H vs ds/\(s.heap.IsList l bG.toArray\/s.heap.IsTuple l bG.toArray))) (s1:Sn G SN dx t) (s2:Sn G SN (.dJ ds) (.dJ ss))
  (q:Q (.bl (if neg then !ss.any (ig · t) else ss.any (ig · t))) G):wpAny (model X.prog X.w) X.A (dg (if neg then .NotIn else .In) v u) (su X pins σ H G Q) X.xe s:=by
 obtain⟨l,vs,bG,rfl,rv,rs,hl⟩:=hy;obtain⟨as,ra⟩:=(iL I ab s1).1 x v dX rx;obtain⟨bs,rb⟩:=(iL I ab s2).2 ds ss (.inl ⟨rfl,rfl⟩) vs bG rs rv;have d2:=Ko (n:=7) s2;have n2:pN ss=true:=s2.nr;have yG:=uK _ n2;have e:=Rb ss t n2 s1.nr;have A7:X.A.units+1+min (bX (kZ ss)) (pd t).depth < cLine:=by lia
 have Nz:gC s.heap bG.toArray.toList (kZ ss) bs:=by simpa using rb
 have fin:∀ k:Bool,k=(if neg then !ss.any (ig · t) else ss.any (ig · t))->su X pins σ H G Q (.bool k) s:=fun k hk=>by subst hk; exact⟨.bl _,H,.bl _,G,I,.refl ab,rfl,.bl _,q⟩
 cases neg with
 | false =>
  rcases hl with hl | hl
  ·exact SeqAt.in_listAt _ hl (mJ Nz ra yG (jQ _ s1.nr) A7) (by rw [qm Nz yG,e]; exact fin _ rfl)
  ·exact SeqAt.in_tupleAt _ hl (mJ Nz ra yG (jQ _ s1.nr) A7) (by rw [qm Nz yG,e]; exact fin _ rfl)
 | true =>
  rcases hl with hl | hl
  ·exact SeqAt.notIn_listAt _ hl (mJ Nz ra yG (jQ _ s1.nr) A7) (by rw [qm Nz yG,e]; exact fin _ rfl)
  ·exact SeqAt.notIn_tupleAt _ hl (mJ Nz ra yG (jQ _ s1.nr) A7) (by rw [qm Nz yG,e]; exact fin _ rfl)
theorem ON(hu:X.A.units+64 < cLine)(neg:Bool){pins:List (Addr×Obj)}{s:av}{σ:L2.St}{H:Hp}{G:Gp}{x y:V}{dx:D}{kvs:List (D×D)}{v u:Value}{Q:DK}(I:Inv X pins σ H s)(ab:kN X.K H G)(rx:RelV x v)(ry:RelV y u)(dY:bW X.K H y (.gN kvs))(dX:bW X.K H x dx)
  (q:Lg neg dx (.gN kvs) G Q):wpAny (model X.prog X.w) X.A (dg (if neg then .NotIn else .In) v u) (su X pins σ H G Q) X.xe s:=by
 obtain⟨qP,hk,q⟩:=q;have go:∀ (a:Addr) (o:Option V),y=.ref a->zu H a x o->o.isSome=(look kvs dx).isSome->wpAny (model X.prog X.w) X.A (dg (if neg then .NotIn else .In) v u) (su X pins σ H G Q) X.xe s:=by
  intro a o ea g ho;subst ea;cases ry;cases neg with
  | false=>exact Xw (by lia) I g rx fun s3 I4=>⟨.bl _,H,.bl _,G,I4,.refl ab,rfl,.bl _,by rw [ho]; exact q⟩
  | true=>exact Kq (by lia) I g rx fun s3 I4=>⟨.bl _,H,.bl _,G,I4,.refl ab,rfl,.bl _,by rw [ho]; exact q⟩
 obtain⟨a,o,ea,g,ho,_⟩:=B0 I dY hk dX;rcases g with rfl | g
 ·exact absurd rfl qP
 ·exact go a o ea g ho
theorem JH(hu:X.A.units+64 < cLine)(neg:Bool):nP X (dg (if neg then .NotIn else .In)) (Lg neg):=by
 intro pins s σ H G x y dx dy v u Q I ab rx ry dX dY q;cases dY with
 | tup hq rs =>
  obtain⟨t,ss,s1,s2,q⟩:=q;cases ry;obtain⟨bG,rv,pl,hz⟩:=I.tuple (.of hq);exact CD hu neg (y:=x) I ab rx dX ⟨_,_,bG,rfl,rv,rs,.inr pl⟩ s1 s2 q
 | dJ hq rs =>
  obtain⟨t,ss,s1,s2,q⟩:=q;cases ry;obtain⟨bG,rv,pl,hz⟩:=I.list hq.sq;exact CD hu neg (y:=x) I ab rx dX ⟨_,_,bG,rfl,rv,rs,.inl pl.isList⟩ s1 s2 q
 | oW h rs=>exact ON hu neg I ab rx ry (.oW h rs) dX q
 | oV h rs=>exact ON hu neg I ab rx ry (.oV h rs) dX q
 | ref l =>
  unfold Lg at q;dsimp only at q;split at q
  ·rename_i kvs hl;obtain⟨hk,q⟩:=q;obtain⟨H3,o,I3,m3,g,ho,_⟩:=E6 I ab hl hk dX;cases ry;cases neg with
   | false=>exact Xw (by lia) I3 g rx fun s3 I4=>⟨.bl _,H3,.bl _,G,I4,m3,rfl,.bl _,by rw [ho]; exact q⟩
   | true=>exact Kq (by lia) I3 g rx fun s3 I4=>⟨.bl _,H3,.bl _,G,I4,m3,rfl,.bl _,by rw [ho]; exact q⟩
  ·rename_i ds hl;obtain⟨t,ss,s1,s2,q⟩:=q;cases ry;obtain⟨vs,hv,rs⟩:=ab.lst hl;obtain⟨bG,rv,pl,hz⟩:=I.list (.of hv);exact CD hu neg (y:=x) I ab rx dX ⟨_,_,bG,rfl,rv,rs,.inl pl.isList⟩ s1 s2 q
  ·exact q.elim
 | _=>exact bD q
theorem Us(hu:X.A.units+64 < cLine):nP X (dg .In) (Lg false):=JH hu false
theorem AQ(hu:X.A.units+64 < cLine):nP X (dg .NotIn) (Lg true):=JH hu true
end
section
variable {X:Cx} {a b c e o:Expr} {es:List Expr} {ta tb tc te to:fx} {t:KH} {pos p p2 apos pz:Pos} {x name:Str} {id T:String}
theorem v7:pF X (.builtin "len") Df:=by
 intro pins s σ H G xs ds us Q I ab rx rd q;unfold Df at q;split at q
 ·rename_i x;obtain⟨v,rfl,r⟩:=rd.one;have QI:∀ (n:Nat),XT X.K v H n->Q (.int (n:Int)) G->wpAny (model X.prog X.w) X.A (call (.builtin "len") us) (su X pins σ H G Q) X.xe s:=fun n hn hq =>
   fZ (PI pins s σ H [v] us (zH X.K H G Q) I rx ⟨v,n,rfl,hn,_,_,.refl ab,.int _,hq⟩) fun _ _ z=>.of z
  have sz:aY=16777216:=cI;cases r with
  | tup hq rs=>exact QI _ (.inr ⟨_,.of hq,by rw [rs.length]⟩) q
  | dJ hq rs=>exact QI _ (.inl ⟨_,hq.sq,by rw [rs.length]⟩) q
  | str y =>
   unfold lenOf at q;dsimp only at q;by_cases hz:y.length<=SZ
   ·rw [if_pos hz] at q; exact QI _ ⟨by rw [sz]; exact hz,rfl⟩ q
   ·rw [if_neg hz] at q; exact q.elim
  | oW h rs =>
   rename_i l o kv kvs;obtain⟨u,rfl,ru⟩:=rx.one;cases ru;unfold lenOf at q;dsimp only at q;by_cases ha:(kvs.all fun p=>dP p.1)=true
   ·rw [if_pos ha] at q;exact S9 I (.inr ⟨_,h⟩) fun t s' I'=>⟨.int kv.length,H,_,G,I',.refl ab,⟨t,rfl⟩,.int _,by rw [rs.length]; exact q⟩
   ·rw [if_neg ha] at q; exact q.elim
  | oV h rs =>
   rename_i l o kv kvs;obtain⟨u,rfl,ru⟩:=rx.one;cases ru;unfold lenOf at q;dsimp only at q;by_cases ha:(kvs.all fun p=>dP p.1)=true
   ·rw [if_pos ha] at q;cases rs with
    | nil =>
     obtain⟨z,hS,xs,rel,ob,es,ep,ho,hx,zF,hl,nd⟩:=(I.cp l _ h).2;have ZF:xs=[]:=by cases rel; rfl
     subst ZF;have he:es=#[]:=by simpa using hl
     subst he;have dd:s.heap.DictOf (cE X.prog X.w) l []:=⟨ob,#[],ep,ho,hx,zF,(fun _ h=>by simp at h),.nil,cA⟩;refine call_len_dict hS dd (by simp) ?_;exact⟨.int 0,H,_,G,I.tok _,.refl ab,⟨_,rfl⟩,.int _,q⟩
    | cons _ _=>simp [dP] at ha
   ·rw [if_neg ha] at q; exact q.elim
  | ref l =>
   unfold lenOf at q;dsimp only at q;cases hg:G l with
   | none=>rw [hg] at q; exact q.elim
   | some g =>
    rw [hg] at q;cases g with
    | lst ds =>
     obtain⟨vs,hv,rs⟩:=ab.lst hg;exact QI _ (.inl ⟨_,.of hv,by rw [rs.length]⟩) q
    | ins _ _=>exact q.elim
    | qT _=>exact q.elim
    | eV kvs =>
     obtain⟨u,rfl,ru⟩:=rx.one;cases ru;dsimp only at q;by_cases ha:(kvs.all fun p=>dP p.1)=true
     ·rw [if_pos ha] at q;rcases ab l _ hg with ⟨kv,hv,rs⟩ | ⟨kv,hv,rs⟩
      ·exact S9 I (.inl hv) fun t s' I'=>⟨.int kv.length,H,_,G,I',.refl ab,⟨t,rfl⟩,.int _,by rw [rs.length]; exact q⟩
      ·cases rs with
       | nil =>
        obtain⟨z,hd,vs,rel,dd⟩:=Bn (toK I hv).cp bU;have hvs:vs=[]:=by cases rel; rfl
        subst hvs;refine call_len_dict hd dd (by simp) ?_;exact⟨.int 0,H,_,G,I.tok _,.refl ab,⟨_,rfl⟩,.int _,q⟩
       | cons _ _=>simp [dP] at ha
     ·rw [if_neg ha] at q; exact q.elim
  | _=>exact bD q
 ·exact q.elim
theorem Ip:pF X (.type "list") zd:=by
 intro pins s σ H G xs ds us Q I ab rx rd q;unfold zd at q;split at q
 ·rename_i x;obtain⟨v,rfl,r⟩:=rd.one;have VC:∀ (l:Addr) (ys:List V) (zs:List D),v=.ref l->(oK X.K H l ys\/vj X.K H l ys)->ba X.K H ys zs->gI G (.lst zs) Q->wpAny (model X.prog X.w) X.A (call (.type "list") us) (su X pins σ H G Q) X.xe s:=fun l ys zs e h rs hq=>by
   subst e;exact fZ (C8 pins s σ H _ us (zH X.K H G Q) I rx ⟨l,ys,rfl,h,fun p hp=>⟨_,_,.Hi ab hp rs,.ref _,hq p (ab.free hp)⟩⟩) fun _ _ z=>.of z
  cases r with
  | tup hq rs=>exact VC _ _ _ rfl (.inr (.of hq)) rs q
  | dJ hq rs=>exact VC _ _ _ rfl (.inl hq.sq) rs q
  | ref l =>
   unfold itemsOf at q;dsimp only at q;cases hg:G l with
   | none=>rw [hg] at q; exact q.elim
   | some g =>
    rw [hg] at q;cases g with
    | lst ds =>
     obtain⟨vs,hv,rs⟩:=ab.lst hg;exact VC _ _ _ rfl (.inl (.of hv)) rs q
    | ins _ _=>exact q.elim
    | qT _=>exact q.elim
    | eV kvs=>exact q.elim
  | _=>exact bD q
 ·exact q.elim
theorem sX {r:List D->Gp->DK->Prop} (hc:pF X (.type T) r) (hg:Gl X x) (hm:X.mg x=none) (hv:du x=some (.type T)) (ha:BA X (e :: es) t) (hn:autoParam (x≠"__name__") Ad._auto_1) (LW:autoParam ((x == ("__debug__" : Str))=false) Ad._auto_1)
  (he:autoParam (bS (e :: es) X.env=(false,eval e X.env) :: bS es X.env) Ar._auto_1) (A8:autoParam ((sx pos (bS es X.env)).any (·.1)=false) Ar._auto_1):fy X (.Call (.Name x p) (e :: es) [] pos) (u5 r t):=by
 intro E pins s σ H τ G Q hE I h;refine jr (nI I.inv hg hm hv ?_ hn LW);exact dN (zO ha pos hE I h fun vs H1 ds G1 us s1 I1 m1 r1 iI q1=>fZ (hc pins s1 σ H1 G1 vs ds us Q I1.inv I1.ab r1 iI q1) fun _ _ z=>z.trans m1) he A8
theorem UJ (K:ai):∀ C∈["int","bool","list","tuple","dict","str"],∀ T∈["NoneType","bool","int","str","tuple","list","dict"],PySem.W.kitOne K (.type T) (.type C)=some (T == C||(T == "bool" && C == "int")):=by
 intro C hC T hT;simp only [a9,bI,or_false] at hC hT;rcases hC with rfl | rfl | rfl | rfl | rfl | rfl <;> rcases hT with rfl | rfl | rfl | rfl | rfl | rfl | rfl <;> kernel_rfl
theorem OK (C:String) (hC:C∈["int","bool","list","tuple","dict","str"]) {pins:List (Addr×Obj)} {s:av} {σ:L2.St} {H:Hp} {G:Gp} {v:V} {d:D} {u:Value} {k:Bool} {Q:DK} (I:Inv X pins σ H s) (ab:kN X.K H G) (ru:RelV v u) (r:bW X.K H v d)
  (hk:UR C d G=some k) (q:Q (.bl k) G):wpAny (model X.prog X.w) X.A (call (.builtin "isinstance") [u,.type C]) (su X pins σ H G Q) X.xe s:=by
 have fin:∀ tk,su X pins σ H G Q (.bool k) { s with toks:=tk }:=fun tk=>⟨.bl k,H,.bl k,G,I.tok _,.refl ab,rfl,.bl k,q⟩;have hl:∀ T∈["NoneType","bool","int","str","tuple","list","dict"],k=(T == C||(T == "bool" && C == "int"))->PySem.W.kitOne X.K (.type T) (.type C)=some k:=fun T hT e=>by rw [UJ X.K C hC T hT,e]
 have tl:∀ {l:Addr} {o:Obj},s.heap.get? l=some o->o.cls=.type "list"->k=("list" == C||("list" == "bool" && C == "int"))->v=.ref l->wpAny (model X.prog X.w) X.A (call (.builtin "isinstance") [u,.type C]) (su X pins σ H G Q) X.xe s:=fun ho hc e ev=>by
  subst ev;cases ru;exact iV PySem.W.kitx_list I.JW ⟨_,ho,hc⟩ (hl "list" (by decide) e) (fun z=>nomatch z) fin
 have td:∀ {l:Addr} {o:Obj},s.heap.get? l=some o->o.cls=.type "dict"->k=("dict" == C||("dict" == "bool" && C == "int"))->v=.ref l->wpAny (model X.prog X.w) X.A (call (.builtin "isinstance") [u,.type C]) (su X pins σ H G Q) X.xe s:=fun ho hc e ev=>by
  subst ev;cases ru;exact iV PySem.W.kitx_dict I.JW ⟨_,ho,hc⟩ (hl "dict" (by decide) e) (fun z=>nomatch z) fin
 have nN:∀ P:String->Prop,(∀ C'∈["int","bool","list","tuple","dict","str"],P C')->P C:=fun P h=>h C hC;cases r with
 | eg =>
  cases ru;have e:k=("NoneType" == C||("NoneType" == "bool" && C == "int")):=by
   have:k=false:=(aX hk).symm;rw [this];exact nN (fun C=>false=("NoneType" == C||("NoneType" == "bool" && C == "int"))) (by decide)
  exact iV PySem.W.kitx_none I.JW fN (hl _ (by decide) e) (fun z=>nomatch z) fin
 | bl y =>
  cases ru;have e:k=("bool" == C||("bool" == "bool" && C == "int")):=by
   have:k=(C == "bool" || C == "int"):=(aX hk).symm;rw [this];exact nN (fun C=>(C == "bool" || C == "int")=("bool" == C||("bool" == "bool" && C == "int"))) (by decide)
  exact iV PySem.W.kitx_bool I.JW fN (hl _ (by decide) e) (fun z=>nomatch z) fin
 | int y =>
  obtain⟨t,rfl⟩:=ru;have e:k=("int" == C||("int" == "bool" && C == "int")):=by
   have:k=(C == "int"):=(aX hk).symm;rw [this];exact nN (fun C=>(C == "int")=("int" == C||("int" == "bool" && C == "int"))) (by decide)
  exact iV PySem.W.kitx_int I.JW fN (hl _ (by decide) e) (fun z=>nomatch z) fin
 | str y =>
  obtain⟨t,rfl⟩:=ru;have e:k=("str" == C||("str" == "bool" && C == "int")):=by
   have:k=(C == "str"):=(aX hk).symm;rw [this];exact nN (fun C=>(C == "str")=("str" == C||("str" == "bool" && C == "int"))) (by decide)
  exact iV PySem.W.kitx_str I.JW fN (hl _ (by decide) e) (fun z=>nomatch z) fin
 | tup hq rs =>
  cases ru;have e:k=("tuple" == C||("tuple" == "bool" && C == "int")):=by
   have:k=(C == "tuple"):=(aX hk).symm;rw [this];exact nN (fun C=>(C == "tuple")=("tuple" == C||("tuple" == "bool" && C == "int"))) (by decide)
  obtain⟨bG,rv,⟨o,h1,h2,_⟩,hz⟩:=I.tuple (.of hq);exact iV PySem.W.kitx_tuple I.JW ⟨o,h1,h2⟩ (hl _ (by decide) e) (fun z=>nomatch z) fin
 | dJ hq rs =>
  obtain⟨bG,rv,pl,hz⟩:=I.list hq.sq;obtain⟨o,h1,h2,_⟩:=pl.isList;refine tl h1 h2 ?_ rfl;have:k=(C == "list"):=(aX hk).symm;rw [this];exact nN (fun C=>(C == "list")=("list" == C||("list" == "bool" && C == "int"))) (by decide)
 | oW h rs =>
  have e:k=("dict" == C||("dict" == "bool" && C == "int")):=by
   have:k=(C == "dict"):=(aX hk).symm;rw [this];exact nN (fun C=>(C == "dict")=("dict" == C||("dict" == "bool" && C == "int"))) (by decide)
  obtain⟨_,_,vs,_,ob,_,_,h1,h2,_⟩:=sL I.cp (.inr ⟨_,h⟩);exact td h1 h2.1 e rfl
 | oV h rs =>
  have e:k=("dict" == C||("dict" == "bool" && C == "int")):=by
   have:k=(C == "dict"):=(aX hk).symm;rw [this];exact nN (fun C=>(C == "dict")=("dict" == C||("dict" == "bool" && C == "int"))) (by decide)
  obtain⟨_,_,ys,_,ob,_,_,h1,h2,_⟩:=yY I.cp (.inr ⟨_,h⟩);exact td h1 h2.1 e rfl
 | exc h=>simp [UR] at hk
 | E1 h _=>simp [UR] at hk
 | nY _ _ _ _=>simp [UR] at hk
 | ref l =>
  unfold UR at hk;dsimp only at hk;cases hg:G l with
  | none=>rw [hg] at hk; cases hk
  | some g =>
   rw [hg] at hk;cases g with
   | lst ds =>
    obtain⟨vs,hv,rs⟩:=ab.lst hg;obtain⟨bG,rv,pl,hz⟩:=I.list (.of hv);obtain⟨o,h1,h2,_⟩:=pl.isList;refine tl h1 h2 ?_ rfl;have:k=(C == "list"):=(aX hk).symm;rw [this];exact nN (fun C=>(C == "list")=("list" == C||("list" == "bool" && C == "int"))) (by decide)
   | ins _ _=>cases hk
   | qT _=>cases hk
   | eV kvs =>
    have e:k=("dict" == C||("dict" == "bool" && C == "int")):=by
     have:k=(C == "dict"):=(aX hk).symm;rw [this];exact nN (fun C=>(C == "dict")=("dict" == C||("dict" == "bool" && C == "int"))) (by decide)
    rcases ab l _ hg with ⟨kv,hv,rs⟩ | ⟨kv,hv,rs⟩
    ·obtain⟨_,_,vs,_,ob,_,_,h1,h2,_⟩:=Bn I.cp hv;exact td h1 h2.1 e rfl
    ·obtain⟨_,_,ys,_,ob,_,_,h1,h2,_⟩:=Pj I.cp hv;exact td h1 h2.1 e rfl
theorem Cb (C:String) (hC:C∈["int","bool","list","tuple","dict","str"]) {y:Str} {py:Pos} (hg:Gl X "isinstance") (hm:X.mg "isinstance" = none) (hgC:Gl X y) (hmC:X.mg y=none) (hvC:du y=some (.type C)) (ha:fy X a ta) (hn:autoParam (y≠"__name__") Ad._auto_1) (LW:autoParam ((y == ("__debug__" : Str))=false) Ad._auto_1)
  (he:autoParam (bS [a,.Name y py] X.env=(false,eval a X.env) :: bS [.Name y py] X.env) Ar._auto_1) (A8:autoParam ((sx pos (bS [Expr.Name y py] X.env)).any (·.1)=false) Ar._auto_1) (RI:autoParam (bS [.Name y py] X.env=[(false,eval (.Name y py) X.env)]) Ar._auto_1) :
  fy X (.Call (.Name "isinstance" p) [a,.Name y py] [] pos) (Px C ta):=by
 intro E pins s σ H τ G Q hE I h;refine jr (nI I.inv hg hm PyProof.Rows.boot_isinstance ?_);refine vC ?_ he A8;rw [he];show wpAny _ _ (spliced ((false,eval a X.env) :: sx pos (bS [.Name y py] X.env))) _ _ s;refine pH (i4 ha hE I h fun v H1 d G1 u s1 I1 m1 r1 iI q1=>?_);rw [RI];show wpAny _ _ (spliced [(false,eval (.Name y py) X.env)]) _ _ s1;refine pH (nI I1.inv hgC hmC hvC (zK ?_) hn LW)
 try dsimp only at q1
 split at q1
 ·rename_i k hk;exact fZ (OK C hC I1.inv I1.ab r1 iI hk q1) fun _ _ z=>z.trans m1
 ·exact q1.elim
end
section
variable {X:Cx} {a b c e o:Expr} {es:List Expr} {ta tb tc te to:fx} {t:KH} {pos p p2 apos pz:Pos} {x name:Str} {id T:String}
noncomputable def IJ(X:Cx)(id:String)(r:D->List D->Gp->DK->Prop):Prop :=
 ∀ (pins:List (Addr×Obj)) (s:av) (σ:L2.St) (H:Hp) (G:Gp) (x:V) (d:D) (xs:List V) (ds:List D) (v:Value) (us:List Value) (Q:DK),Inv X pins σ H s->kN X.K H G->RelV x v->bW X.K H x d->Vals xs us->ba X.K H xs ds->r d ds G Q ->
  wpAny (model X.prog X.w) X.A (call (.builtin id) (v :: us)) (su X pins σ H G Q) X.xe s
noncomputable def R5(X:Cx)(T:String)(ty:D->Gp->Prop):Prop:=∀ (pins:List (Addr×Obj)) (s:av) (σ:L2.St) (H:Hp) (G:Gp) (x:V) (d:D) (v:Value),Inv X pins σ H s->kN X.K H G->RelV x v->bW X.K H x d->ty d G ->
  s.TypeIs v T/\∀ a,v=.ref a->∃ ob,s.heap.get? a=some ob/\ob.dict=none
theorem kn:R5 X "list" xT:=by
 intro pins s σ H G x d v I ab r rd h;cases rd with
 | dJ hq rs=>exact BQ I r (.inl ⟨rfl,_,hq.sq⟩)
 | ref l =>
  unfold xT at h;dsimp only at h;split at h
  ·rename_i ds hg;obtain⟨vs,hv,rs⟩:=ab.lst hg;exact BQ I r (.inl ⟨rfl,vs,.of hv⟩)
  ·exact h.elim
 | _=>exact bD h
theorem lQ:R5 X "dict" Ql:=by
 intro pins s σ H G x d v I ab r rd h;cases rd with
 | oW q rs =>
  cases r;obtain⟨t1,t2,_⟩:=OL I (.inl ⟨_,.inr ⟨_,q⟩⟩);exact⟨t1,t2⟩
 | oV q rs =>
  cases r;obtain⟨t1,t2,_⟩:=OL I (.inr ⟨_,.inr ⟨_,q⟩⟩);exact⟨t1,t2⟩
 | ref l =>
  unfold Ql at h;dsimp only at h;split at h
  ·rename_i kvs hg;rcases ab l _ hg with ⟨kv,hv,rs⟩ | ⟨kv,hv,rs⟩
   ·exact BQ I r (.inr (.inr (.inl ⟨rfl,.inl ⟨kv,hv⟩⟩)))
   ·exact BQ I r (.inr (.inr (.inl ⟨rfl,.inr ⟨kv,hv⟩⟩)))
  ·exact h.elim
 | _=>exact bD h
theorem jl {ty:D->Gp->Prop} {r:D->List D->Gp->DK->Prop} (pa:PlainAttrs T) (slot:Slot T name id) (hty:typeOf (.builtin id)=pure (.type "method_descriptor")) (ht:R5 X T ty) (hm:IJ X id r) (ho:fy X o to) (ha:BA X (e :: es) t)
  (yM:autoParam (DH o name X.env (eval o X.env)=eval o X.env) Ar._auto_1)
  (Z9:autoParam (((sx pz (bS (e :: es) X.env)).all (fun x=>!x.1)&&(backToKw pz (keywordEach [] X.env)).all (fun x=>x.1.isSome)
   && decide ((e :: es).length+([]:List Keyword).length+(if ([]:List Keyword).isEmpty then 0 else 1) < 30))=true) Ar._auto_1)
  (yL:autoParam ((apos.endLine == pz.line)=true) Ar._auto_1) (hs:autoParam (bS (e :: es) X.env=(false,eval e X.env) :: bS es X.env) Ar._auto_1) (HG:autoParam ((sx pz (bS es X.env)).any (·.1)=false) Ar._auto_1) :
  fy X (.Call (.Attribute o name apos) (e :: es) [] pz) (qh ty r to t):=by
 intro E pins s σ H τ G Q hE I h;refine wpAny_Call_method_late yM Z9 yL rfl (i4 ho hE I h ?_);rintro x H1 d G1 v s1 I1 m1 r1 iI ⟨hy,q1⟩;obtain⟨h1,h2⟩:=ht pins s1 σ H1 G1 x d v I1.inv I1.ab r1 iI hy;refine⟨T,id,pa,slot,hty,h1,h2,?_⟩;have hA:=ha pz E pins s1 σ H1 τ G1 _ hE I1 q1;rw [hs] at hA ⊢;refine kW (by show (false||(sx pz (bS es X.env)).any (·.1))=false; rw [HG] <;> rfl) (Calls.evalArgs_plain ?_);exact fZ hA (by rintro us s2 ⟨vs,H2,ds,G2,k6,m2,r2,wG,q2⟩; exact fZ (hm pins s2 σ H2 G2 x d vs ds v us Q k6 m2.ab r1 (iI.mono (m2.kp I1.ab)) r2 wG q2) fun _ _ z=>z.trans (m1.trans m2))
theorem o8:IJ X "list.append" kh:=by
 intro pins s σ H G x d xs ds v us Q I ab rx rd MB B2 q;unfold kh at q;split at q
 ·rename_i l d';cases rd;obtain⟨w,rfl,oI⟩:=B2.one;split at q
  ·rename_i zs hg;obtain⟨hz,q⟩:=q;obtain⟨vs,hv,rs⟩:=ab.lst hg;exact fZ (AU pins s σ H _ _ v us (zH X.K H G Q) I rx MB ⟨l,vs,w,rfl,rfl,hv,by rw [rs.length,cI]; exact hz,_,_,.putL ab hg hv (rs.append (.cons oI .nil)),.eg,q⟩) fun _ _ z=>.of z
  ·exact q.elim
 ·exact q.elim
theorem HV(l:Addr)(xs:Array Value)(n:Nat)(b:Addr)(ys:Array Value)(n2:Nat)(dd:Option Addr)(sl:Array (Option Value))(S0:¬(!xs.isEmpty&&jj (xs.size+ys.size))=true)(hx:xs.size<=aY)(VI:xs.size+ys.size<=aY+1) :
  Meets (Builtin.«list.extend» ⟨[.ref l,.ref b],[]⟩) (fun _ R s=>s.heap.get? l=some { cls:=.type "list",dict:=none,data:=.seq xs n,slots:=#[] }/\s.heap.get? b=some { cls:=.type "list",dict:=dd,data:=.seq ys n2,slots:=sl }/\R (.ok (.ret dH)) { s with heap:=s.heap.update l (iR fun x=>x++ys),toks:=s.toks }) :=
 .of_wp fun prog w A R s h=>by
  obtain⟨hp,g,d,tk,os⟩:=s;obtain⟨h1,h2,h3⟩:=h;have e1:=AutoSeq1.idx_int;have e2:=pJ;have e3:=Gr;have e4:=AutoSeq1.sub_tuple_list;have e5:=AutoSeq1.sub_list_tuple;have hz':(xs++ys).size<=aY+1:=by rw [Array.size_append]; exact VI
  wp_walk using (xB h1 rfl (hz:=hx) (_hz':=hz')),bx h1,bx h2
  exact⟨_,rfl,h3⟩
theorem tj:IJ X "list.extend" mZ:=by
 intro pins s σ H G x d xs ds v us Q I ab rx rd MB B2 q;unfold mZ at q;split at q
 ·rename_i l y;cases rd;obtain⟨w,rfl,oI⟩:=B2.one;obtain⟨u,rfl,ru⟩:=MB.one;split at q
  ·rename_i zs ys hg Z5;obtain⟨hz,q⟩:=q;obtain⟨vs,hv,rs⟩:=ab.lst hg;obtain⟨b,ws,sf,rfl,K9,Jo,hb,_⟩:=pE I ab ru oI Z5;cases rx;obtain⟨z,bG,n,r,hl,e⟩:=I.WH hv;obtain⟨⟨cl,dd,dt,sl⟩,ho,FQ,n2,hdt⟩:=hb;simp only at FQ hdt;subst FQ hdt;have h1:=K9.length;have h2:=Jo.length;have h3:=rs.length;have h4:=r.length;have h5:aY=16777216:=cI;have h6:SZ=16777216:=rfl;have hsz:bG.toArray.size+sf.toArray.size<=aY:=by rw [aR,aR]; lia
   have S0:¬ (!bG.toArray.isEmpty&&jj (bG.toArray.size+sf.toArray.size))=true:=by
    rw [N7 hsz,IX];exact dF
   refine Gd F.slot_list_extend ⟨_,e,rfl⟩ F.entry_list_extend (F.args_list_extend_2 _ _) (HV l bG.toArray n b sf.toArray n2 dd sl S0 (by rw [aR]; lia) (by lia)) ⟨e,ho,?_⟩;refine⟨.eg,_,.eg,_,I.WI (its':=bG++sf) hv e (by simp) (r.append K9) ?_,.putL ab hg hv (rs.append Jo),rfl,.eg,q⟩;rw [az];lia
  ·exact q.elim
 ·exact q.elim
theorem Lx (hu : X.A.units + 64 < cLine) : IJ X "list.index" Cs := by
  intro pins s σ H G x d xs ds v us Q I ab rx rd MB B2 q;unfold Cs at q;split at q
  · rename_i d'
    obtain⟨hy, zs, sn, ss, hi, s1, s2, q⟩ := q;obtain⟨w, rfl, oI⟩ := B2.one;obtain⟨u, rfl, ru⟩ := MB.one;have lists : ∃ l vs bG, v = .ref l ∧ Vals vs bG ∧ ba X.K H vs zs ∧ s.heap.IsList l bG.toArray ∧ vs.length ≤ aY := by
      cases rd with
      | dJ hq rs =>
        cases hi;cases rx;obtain⟨bG, rv, pl, hz⟩ := I.list hq.sq;exact⟨_, _, bG, rfl, rv, rs, pl.isList, hz⟩
      | ref l =>
        unfold itemsOf at hi;dsimp only at hi;cases hg : G l with
        | none => rw [hg] at hi; cases hi
        | some g =>
          rw [hg] at hi;cases g with
          | lst ds =>
            cases hi;cases rx;obtain⟨vs, hv, rs⟩ := ab.lst hg;obtain⟨bG, rv, pl, hz⟩ := I.list (.of hv);exact⟨_, _, bG, rfl, rv, rs, pl.isList, hz⟩
          | ins _ _ => cases hi
          | qT _ => cases hi
          | eV _ => cases hi
      | _ => exact bD hy
    obtain⟨l, vs, bG, rfl, rv, rs, hl, hz⟩ := lists;obtain⟨as, ra⟩ := (iL I ab s1).1 w u oI ru;obtain⟨bs, rb⟩ := (iL I ab s2).2 zs ss (.inl ⟨rfl, rfl⟩) vs bG rs rv;have d2 := Ko (n := 7) s2;have n2 : pN ss = true := s2.nr;have yG := uK _ n2;have A7 : X.A.units + 1 + min (bX (kZ ss)) (pd sn).depth < cLine := by lia
    have Nz : gC s.heap bG.toArray.toList (kZ ss) bs := by simpa using rb
    have mp := SeqAt.readsAll_map _ _ _ yG Nz;split at q
    · rename_i k hk
      obtain⟨tG, Z4, W4⟩ := List.findIdx?_eq_some_iff_getElem.mp hk;have pdl : ∀ (zz : List D), (kZ zz).length = zz.length := by
        intro zz;induction zz with
        | nil => rfl
        | cons a r ih => exact congrArg Nat.succ ih
      have hlen : bG.length = ss.length := by
        have := congrArg cV mp;rw [aE, pdl] at this;simpa using this
      have at_ : ∀ (m : Nat) (h1 : m < bG.toArray.size) (h2 : m < ss.length), qc (Ax s.heap bG.toArray[m]) (pd sn) = ig ss[m] sn := by
        intro m h1 h2;have e1 : (bG.toArray.toList.map (Ax s.heap))[m]? = (kZ ss)[m]? := by rw [mp]
        have pdg : ∀ (zz : List D) (m : Nat) (h : m < zz.length), (kZ zz)[m]? = some (pd zz[m]) := by
          intro zz;induction zz with
          | nil => intro m h; simp at h
          | cons a r ih => intro m h; cases m with
            | zero => rfl
            | succ m => exact ih m (tZ h)
        rw [pdg ss m h2] at e1;have h1' : m < bG.length := by simpa using h1
        have e2 : Ax s.heap bG.toArray[m] = pd ss[m] := by
          simpa [h1'] using e1
        rw [e2];have d0 : nr ss[m] = true := by
          have : ∀ (zz : List D) (m : Nat) (h : m < zz.length), pN zz = true -> nr zz[m] = true := by
            intro zz;induction zz with
            | nil => intro m h; simp at h
            | cons a r ih => intro m h hn; have VN : nr a = true ∧ pN r = true := (jD).mp hn
                             cases m with
                             | zero => exact VN.1
                             | succ m => exact ih m (by simpa using h) VN.2
          exact this ss m h2 n2
        exact tL _ _ d0 s1.nr
      have sz : aY = 16777216 := cI;have hvl : vs.length = bG.length := rv.length;obtain⟨⟨cls, dd, data, sl⟩, ho, hc, n, hd⟩ := id hl;simp only at hc hd;subst hc hd;have FP : k < bG.toArray.size := by rw [aR]; lia
      refine Gd Gg ⟨_, ho, rfl⟩ PySem.F.entry_list_index (PySem.F.args_list_index_2 _ _)
        (SeqAt.list_indexAt l bG.toArray n dd sl u (fun y => qc (Ax s.heap y) (pd sn)) k FP (by lia) ?_ ?_) ⟨ho, mJ Nz ra yG (jQ _ s1.nr) A7, ?_⟩
      · rw [at_ k FP tG]; exact Z4
      · intro m hm hmk
        have W6 : m < ss.length := by lia
        rw [at_ m hm W6];simpa using W4 m hmk
      · exact⟨.int k, H, .int k, G, I.tok _, .refl ab, ⟨_, rfl⟩, .int _, q⟩
    · exact q.elim
  · exact q.elim
theorem gO:fy X (.Dict [] [] pos) jq:=by
 intro E pins s σ H τ G Q hE I h;exact fZ (NT pins s σ H (zH X.K H G Q) I.inv fun p hp=>⟨_,_,.new I.ab hp (.dk bU .nil),.ref _,h p (I.ab.free hp)⟩) fun _ _ z=>.of z
end
noncomputable def fR(env:Env):List (Str×sA)->List (Str×Addr)->List (Str×Addr)
 | [],acc=>acc
 | (n,k) :: r,acc=>if k=.free then fR env r ((n,(env.cells.lookup n).getD 0) :: acc) else fR env r acc
theorem tN(env:Env)(f:Str×sA->List (Str×Addr)->Sem (ForInStep (List (Str×Addr))))(hf:∀ n k c,f (n,k) c=if (k == j4)=true then (cellOf env n >>= fun a=>pure (r8 ((n,a) :: c))) else pure (r8 c)) :
  ∀ (ns:List (Str×sA)) (acc:List (Str×Addr)),(∀ x∈ns,x.2=.free->∃ c,env.cells.lookup x.1=some c)->forIn ns acc f=(pure (fR env ns acc):Sem (List (Str×Addr)))
 | [],acc,_=>rfl
 | (n,k) :: r,acc,h=>by
  rw [List.forIn_cons,hf];have hr:∀ x∈r,x.2=.free->∃ c,env.cells.lookup x.1=some c:=fun x hx=>h x (au _ hx);by_cases hk:k=.free
  ·subst hk;obtain⟨c,hc⟩:=h (n,.free) cG rfl;have ec:cellOf env n=pure c:=by unfold cellOf; rw [hc]
   rw [if_pos (by decide),ec,pure_bind,pure_bind];show forIn r ((n,c) :: acc) f=_;rw [tN env f hf r _ hr];show _=(pure (fR env ((n,.free) :: r) acc):Sem (List (Str×Addr)));rw [fR,if_pos rfl,hc]; rfl
  ·rw [if_neg (by simpa using hk),pure_bind];show forIn r acc f=_;rw [tN env f hf r _ hr];show _=(pure (fR env ((n,k) :: r) acc):Sem (List (Str×Addr)));rw [fR,if_neg hk]
theorem Ab{env:Env}{scope:Scope}(h:∀ x∈scope.names,x.2=.free->∃ c,env.cells.lookup x.1=some c):closureFor scope env=pure (fR env scope.names []):=by
 unfold closureFor;dsimp only;rw [tN env _ (fun n k c=>?_) scope.names [] h]
 ·rfl
 ·by_cases hk:(k == j4)=true
  ·simp only [hk,if_true]
  ·simp only [hk,if_false,aF]
theorem ua{env:Env}{x:Str}{c:Addr}:∀ {ns:List (Str×sA)} {acc:List (Str×Addr)},(∀ y∈ns,y.2=.free->∃ c,env.cells.lookup y.1=some c)->(∀ y c,acc.lookup y=some c->env.cells.lookup y=some c)->(fR env ns acc).lookup x=some c->env.cells.lookup x=some c
 | [],_,_,ha,e=>ha _ _ e
 | (n,k) :: r,acc,h,ha,e=>by
  have hr:∀ y∈r,y.2=.free->∃ c,env.cells.lookup y.1=some c:=fun y hy=>h y (au _ hy);unfold fR at e;by_cases hk:k=.free
  ·rw [if_pos hk] at e;refine ua hr (fun y c' q=>?_) e;rw [Dy] at q;by_cases hy:(y == n)=true
   ·rw [hy] at q;have e1:y=n:=eq_of_beq hy;subst e1;obtain⟨c0,hc0⟩:=h (y,k) cG hk;rw [hc0] at q ⊢;exact q
   ·have SS:(y == n)=false:=by simpa using hy
    rw [SS] at q;exact ha y c' q
  ·rw [if_neg hk] at e;exact ua hr ha e
theorem oR{env:Env}{x:Str}:∀ {ns:List (Str×sA)} {acc:List (Str×Addr)},((x,j4)∈ns\/∃ c,acc.lookup x=some c)->∃ c,(fR env ns acc).lookup x=some c
 | [],_,h=>by rcases h with h | h; exact absurd h (by simp); exact h
 | (n,k) :: r,acc,h=>by
  unfold fR;have grow:∀ a,(∃ c,acc.lookup x=some c)->∃ c,((n,a) :: acc).lookup x=some c:=fun a MD=>by
   obtain⟨c,hc⟩:=MD;rw [Dy];by_cases hy:(x == n)=true
   ·rw [hy]; exact⟨_,rfl⟩
   ·have SS:(x == n)=false:=by simpa using hy
    rw [SS]; exact⟨c,hc⟩
  by_cases hk:k=.free
  ·rw [if_pos hk];refine oR ?_;rcases h with h | h
   ·rcases List.mem_cons.mp h with e | h
    ·injection e with e1 e2
     subst e1;exact .inr ⟨(env.cells.lookup x).getD 0,by rw [Dy]; simp⟩
    ·exact .inl h
   ·exact .inr (grow _ h)
  ·rw [if_neg hk];refine oR ?_;rcases h with h | h
   ·rcases List.mem_cons.mp h with e | h
    ·injection e with e1 e2
     exact absurd e2.symm hk
    ·exact .inl h
   ·exact .inr h
noncomputable abbrev dB(X:Cx)(N:List Str)(scope:Scope)(C:Addr)(s:av)(H:Hp)(fp:List Addr):Cx :=
 { X with env:=compEnvC scope (fR X.env scope.names []) C X.env,N:=N,mN:=s,Qa:=H,outer:=X.stack,stack:=X.stack,ex:=fp,fn:=fun _=>false,pn:=[],xe:=fun _ _=>False }
theorem uh{scope:Scope}{env:Env}{x:Str}(h:(FY scope env).names.lookup x=some .cell\/(FY scope env).names.lookup x=some .free)(pP:∀ y∈scope.names,y.2≠.cell):(x,j4)∈scope.names:=by
 have go:∀ k,(FY scope env).names.lookup x=some k->k=.cell\/k=.free->(x,j4)∈scope.names:=by
  intro k hk hkk;have hm:=hW hk;unfold FY at hm;dsimp only at hm;obtain⟨⟨n,j⟩,hj,e⟩:=List.mem_map.mp hm;dsimp only at e;by_cases hc:(j == j4&&env.scope.kind == .function&&env.kindOf n == some .cell)=true
  ·rw [if_pos hc] at e;rw [aK,aK] at hc;injection e with e1 e2
   have ej:j=.free:=eq_of_beq hc.1.1;rw [ej,e1] at hj;exact hj
  ·rw [if_neg hc] at e;injection e with e1 e2
   subst e1;rcases hkk with r | r
   ·exact absurd (e2.trans r) (pP _ hj)
   ·rw [e2.trans r] at hj; exact hj
 rcases h with h | h
 ·exact go _ h (.inl rfl)
 ·exact go _ h (.inr rfl)
section
variable {X:Cx} {N:List Str} {scope:Scope} {fp:List Addr} {pins:List (Addr×Obj)} {σ:L2.St} {H:Hp} {s:av} {C:Addr}
theorem Vi(I:Inv X pins σ H s)(pP:∀ y∈scope.names,y.2≠.cell)(Bc:scope.kind=.function)(uQ:∀ y∈scope.names,y.2=.free->X.env.kindOf y.1=some .cell)(hC:s.heap.objs.size<=C)(Xd:∀ b∈fp,mz X pins H b/\b < s.heap.objs.size):(dB X N scope C s H fp).Ok:=by
 have FQ:∀ y∈scope.names,y.2=.free->∃ c,X.env.cells.lookup y.1=some c:=fun y hy hf=>I.ok.has _ (.inl (uQ y hy hf));have Tz:∀ x c,(fR X.env scope.names []).lookup x=some c->X.env.cells.lookup x=some c:=fun x c e=>ua FQ (fun y c q=>by simp at q) e;refine⟨I.ok.mod,Bc,I.ok.glob,I.ok.blt,hC,fun x y c h1 h2=>I.ok.inj x y c (Tz x c h1) (Tz y c h2),fun x hx=>?_,fun x c h=>absurd h (by simp),I.ok.hd,I.ok.frames,.inl rfl,fun b hb=>?_,I.bs,bc I.ok.R1 I.sz,fun b o e hb=>?_,fun b hb=>?_,I.stack,I.Jh⟩
 ·exact oR (.inl (uh hx pP))
 ·obtain⟨⟨f0,f1,f2,f3,f4,f5⟩,tG⟩:=Xd b hb;exact⟨bh (bK tG hC),fun x c e=>f4 x c (Tz x c e)⟩
 ·obtain⟨⟨f0,f1,f2,f3,f4,f5⟩,tG⟩:=Xd b hb;rcases f3 with f3 | f3
  ·exact I.ok.Lu b o e f3
  ·exact absurd (bK (aN e) (bc I.ok.R1 f3)) (iq _)
 ·obtain⟨⟨f0,f1,f2,f3,f4,f5⟩,tG⟩:=Xd b hb;intro z;rcases List.mem_cons.mp (I.GH b z) with e | e
  ·exact f1 e
  ·exact f2 e
theorem RU{pZ:Heap}{m:Nat}{fr:List Nat}{tk:Nat}(I:Inv X pins σ H s)(ok:(dB X N scope s.heap.objs.size s H fp).Ok)(UZ:∀ y∈scope.names,y.2≠.cell)(uQ:∀ y∈scope.names,y.2=.free->X.env.kindOf y.1=some .cell)(hN:N.length=m+fr.length)
  (Z6:∀ j i x,fr[j]?=some i->N[m+j]?=some x->X.N[i]?=some x/\X.env.scope.names.lookup x=some .cell/\(FY scope X.env).names.lookup x=some .cell) (Qr:∃ mm,pZ.Ns s.heap.objs.size mm) (hk:∀ b o,s.heap.get? b=some o->pZ.get? b=some o) :
  Inv (dB X N scope s.heap.objs.size s H fp) [] (bo m none++fr.map fun i=>(σ[i]?).getD none) H { s with heap:=pZ,toks:=tk }:=by
 have FQ:∀ y∈scope.names,y.2=.free->∃ c,X.env.cells.lookup y.1=some c:=fun y hy hf=>I.ok.has _ (.inl (uQ y hy hf));have Tz:∀ x c,(fR X.env scope.names []).lookup x=some c->X.env.cells.lookup x=some c:=fun x c e=>ua FQ (fun y c q=>by simp at q) e;obtain⟨mm,Qr⟩:=Qr;refine⟨ok,rfl,I.bare,Un.kept hk,⟨mm,Qr,fun i x v h1 h2 h3=>?_⟩,fun x c e=>?_,I.cp.fresh (aB _),fun x c e=>?_,fun p hp=>absurd hp (by simp),I.cp.kept hk,?_⟩
 ·by_cases hi:i < m
  ·rw [gK (by simpa using hi),kK] at h2;split at h2 <;> cases h2
  ·obtain⟨j,rfl⟩:∃ j,i=m+j:=⟨i - m,by lia⟩;rw [eS (by simp),fh,sR,br] at h2;cases hj:fr[j]? with
   | none=>rw [hj] at h2; cases h2
   | some k =>
    rw [hj] at h2;have LX:(σ[k]?).getD none=some v:=by simpa using h2
    have Z0:σ[k]?=some (some v):=by
     cases q:σ[k]? with
     | none=>rw [q] at LX; cases LX
     | some o=>rw [q] at LX; simp at LX; rw [LX]
    obtain⟨e1,e2,e3⟩:=Z6 j k x hj h1;obtain⟨m0,hn0,hl0⟩:=I.loc;obtain⟨u,r,l⟩:=hl0 k x v e1 Z0 (.inr (.inl e2));refine⟨u,r,.inr ⟨.inl e3,?_⟩⟩;rcases l with ⟨l1,_⟩ | ⟨_,c,hc,pP⟩
    ·have:X.env.scope.names.lookup x=some .local:=l1;rw [e2] at this; cases this
    ·have hx:(x,j4)∈scope.names:=uh (.inl e3) UZ;obtain⟨c',S6⟩:=oR (env:=X.env) (x:=x) (ns:=scope.names) (acc:=[]) (.inl hx);have:=Tz x c' S6;rw [hc] at this;have ec:c=c':=aX this;subst ec;obtain⟨oc,VM,hd⟩:=pP;exact⟨c,S6,oc,hk _ _ VM,hd⟩
 ·obtain⟨v,oc,VM,hd⟩:=I.cell x c (Tz x c e);exact⟨v,oc,hk _ _ VM,hd⟩
 ·exact I.pQ x c (Tz x c e)
 ·rw [az,fh,aE];exact hN.symm
theorem C5{prog:bz}{w:World}{A:cL}{R:Result->av->Prop}{s:av}{elt target iter:Expr}{ifs:List Expr}{sc:Scope}{pos:Pos}{it acc:Value}{env:Env}(J:Nat->av->Prop)
  (turn:∀ n s,J n s->wpAny (model prog w) A (wo it) (fun r eE=>match r with
   | none=>R (.ok .next) eE
   | some v=>wpAny (model prog w) A (xG target it v) (fun _ V6=>wpAny (model prog w) A (IL target env v) (fun _ jH =>
     wpAny (model prog w) A (forIn ifs true fun c r=>if r=true then do let ok ← isTrue c env (eval c env); pure (r8 ok) else pure (r8 r)) (fun k M7 =>
      if k=true then wpAny (model prog w) A (eval elt env) (fun x K5=>wpAny (model prog w) A (call (.builtin "list.append") [acc,x]) (fun _ M6=>∃ m,m < n/\J m M6) (fun _ _=>False) K5) (fun _ _=>False) M7
      else ∃ m,m < n/\J m M7) (fun _ _=>False) jH) (fun _ _=>False) V6) (fun _ _=>False) eE) (fun _ _=>False) s) (n:Nat) (h:J n s) :
  BH (model prog w) A (.compLoop (.ListComp elt [⟨target,iter,ifs,0⟩] sc pos) 0 it acc env) R s:=by
 have no:∀ {α:Type} {t:Sem α} {Q:α->av->Prop} {E:Value->av->Prop} {s:av},wpAny (model prog w) A t Q (fun _ _=>False) s->wpAny (model prog w) A t Q E s:=fun h=>tX h (fun _ _ q=>q) fun _ _ z=>z.elim;refine codeAny_loop rfl J (fun n s hJ=>?_) n h;show wpAny _ A ((compTurn (.ListComp elt [⟨target,iter,ifs,0⟩] sc pos) 0 it acc env).onRaise (fun x=>do noteFrame x env; theTreesLotGoes x)) _ _ s;refine wpAny_noted ?_;rw [compTurn_list];refine ag (vt (ag (fZ (no (turn n s hJ)) fun r eE pZ=>?_)));cases r with
 | none=>exact aw pZ
 | some v =>
  refine ag (fZ (no pZ) fun _ jH HF=>ag (fZ (no HF) fun _ M7 Zz=>ag (fZ (no Zz) fun k K5 WT=>?_)));cases k with
  | false=>exact aw ⟨rfl,WT⟩
  | true=>exact ag (ag (fZ (no WT) fun x M6 Zy=>ag (fZ (no Zy) fun _ acy Zx=>aw (aw ⟨rfl,Zx⟩))))
noncomputable def CompEnd(X:Cx)(pins:List (Addr×Obj))(σ:L2.St)(H:Hp)(G:Gp)(Q:DK)(C Dd:Addr)(s':av):Prop :=
 ∃ m H' G',Inv X pins σ H' s'/\s'.heap.Ns C m/\mz X pins H' C/\Mv X.K H G H' G'/\Q (.ref Dd) G'
inductive Vy (Xc:Cx):List Expr->Option xb->Prop
 | none:Vy Xc [] none
 | some {c:Expr} {t:xb}:Ml Xc c t->Vy Xc [c] (some t)
theorem Bs{τ:hZ}{G G2:Gp}{H2:Hp}{s2:av}{tg elt iter:Expr}{ifs:List Expr}{pos:Pos}{m:Nat}{fr:List Nat}{E:lr}{g:zG}{c:Option xb}{te:fx}{J:It}{tn:Nat->Heap->Prop}{it:Addr}{ds:List D}{ok:Gp->Prop}{Q:DK}{Rr:Value->Addr->Result->av->Prop}{E0:Value->av->Prop}
  (hc:X.calm=true) (pP:∀ y∈scope.names,y.2≠.cell) (Bc:scope.kind=.function) (uQ:∀ y∈scope.names,y.2=.free->X.env.kindOf y.1=some .cell) (hN:N.length=m+fr.length)
  (Z6:∀ j i x,fr[j]?=some i->N[m+j]?=some x->X.N[i]?=some x/\X.env.scope.names.lookup x=some .cell/\(FY scope X.env).names.lookup x=some .cell)
  (hg:∀ C s H fp,Mm (dB X N scope C s H fp) tg g) (hi:∀ C s H fp,Vy (dB X N scope C s H fp) ifs c) (he:∀ C s H fp,fy (dB X N scope C s H fp) elt te)
  (I:I2 X pins σ H2 τ G2 s2) (m2:Mv X.K H G H2 G2) (T:Turn X.prog X.w X.K tg J fp it tn) (Qn:tn 0 s2.heap) (f2:∀ b∈fp,mz X pins H2 b) (wk:Ti X.K J H2 ds ok) (hz:ds.length<=SZ)
  (hE0:∀ ex G,¬ E ex G) (q:i5 g c te ok ds E (y7 m fr τ) G2 [] fun xs G3=>gI G3 (.lst xs) Q)
  (fin:∀ C s',CompEnd X pins σ H G Q C s2.heap.objs.size s'->Rr (.ref s2.heap.objs.size) C (.ok .next) s') :
  wpAny (model X.prog X.w) X.A (newList []) (fun acc M7=>wpAny (model X.prog X.w) X.A (newFunctionEnv scope X.env.globals (fR X.env scope.names []) [] X.env.qual none .none (some X.env)) (fun XC K5 =>
   BH (model X.prog X.w) X.A (.compStart (.ListComp elt [⟨tg,iter,ifs,0⟩] scope pos) 0 (.ref it) acc { XC with scope:=FY scope X.env }) (Rr acc XC.locals) K5) E0 M7) E0 s2:=by
 have sz:aY=16777216:=cI;have vY:H2 s2.heap.objs.size=none:=I.inv.cp.fresh (aB _);have U6:G2 s2.heap.objs.size=none:=I.ab.free vY;refine cy (wpAny_newFunctionEnv pP (by intro y hy; simp at hy) (fun pZ OV OR=>?_) Bc);dsimp only at OV OR ⊢;have I3:Inv X pins σ (upd H2 s2.heap.objs.size (.lst [])) { s2 with heap:=s2.heap.push { cls:=.type "list",data:=.seq ([]:List Value).toArray },toks:=s2.toks }:=I.inv.Zq (ys:=[]) .nil (bZ _);generalize hs3:({ s2 with heap:=s2.heap.push { cls:=.type "list",data:=.seq ([]:List Value).toArray },toks:=s2.toks }:av)=s3 at I3;generalize Xj:upd H2 s2.heap.objs.size (.lst [])=H3 at I3;have eH3:∀ b,b≠s2.heap.objs.size->H3 b=H2 b:=fun b hb=>by rw [<-Xj,bO hb]
 have EO:s3.heap=s2.heap.push { cls:=.type "list",data:=.seq ([]:List Value).toArray }:=by rw [<-hs3]
 have Wa:s3.heap.objs.size=s2.heap.objs.size+1:=by rw [EO,gL]
 have OX:∀ b∈fp,b < s2.heap.objs.size:=fun b hb=>by
  obtain⟨o,e,_⟩:=T.obj _ _ Qn b hb;exact aN e
 have Xb:∀ b∈fp,mz X pins H3 b/\b < s3.heap.objs.size:=fun b hb=>by
  have hb2:=OX b hb;obtain⟨f0,f1⟩:=f2 b hb;exact⟨⟨by rw [eH3 b (bh hb2)]; exact f0,f1⟩,bK hb2 (by rw [Wa]; exact Gk _)⟩
 have X7:(dB X N scope s3.heap.objs.size s3 H3 fp).Ok:=Vi I3 pP Bc uQ (aB _) Xb;have S3:∀ b o,s3.heap.get? b=some o->pZ.get? b=some o:=fun b o e=>by
  have hb:b < s3.heap.objs.size:=aN e;refine OR.extBut b o ?_ (ay _ ?_)
  ·rw [<-EO]; exact bh hb
  ·rw [<-EO]; exact e
 have ZT:∃ mm,pZ.Ns s3.heap.objs.size mm:=⟨_,by rw [EO]; exact OV⟩;have I4:=RU (tk:=s3.toks+([]:List (Str×Value)).length) I3 X7 pP uQ hN Z6 ZT S3;have Zu:Kp H2 H3:=by rw [<-Xj]; exact .new vY
 have Th:kN X.K H3 G2:=by rw [<-Xj]; exact(Mv.J9 I.ab vY).ab
 have mv3:Mv X.K H2 G2 H3 G2:=by rw [<-Xj]; exact .J9 I.ab vY
 have X3:Qw X.K H3 (bo m none++fr.map fun i=>(σ[i]?).getD none) (y7 m fr τ):=by
  refine⟨by unfold y7; rw [az,az,aE,aE,fh,fh],fun i d h2=>?_⟩;unfold y7 at h2;by_cases hi:i < m
  ·rw [gK (by simpa using hi),kK] at h2;split at h2 <;> cases h2
  ·obtain⟨j,rfl⟩:∃ j,i=m+j:=⟨i - m,by lia⟩;rw [eS (by simp),fh,sR,br] at h2;rw [eS (by simp),fh,sR,br];cases hj:fr[j]? with
   | none=>rw [hj] at h2; cases h2
   | some k =>
    rw [hj] at h2;have LX:(τ[k]?).getD none=some d:=by simpa using h2
    have Z0:τ[k]?=some (some d):=by
     cases qq:τ[k]? with
     | none=>rw [qq] at LX; cases LX
     | some o=>rw [qq] at LX; simp at LX; rw [LX]
    obtain⟨v,e1,e2⟩:=I.st.at' k d Z0;exact⟨v,by simp [e1],e2.mono Zu⟩
 have hD3:H3 s2.heap.objs.size=some (.lst []):=by rw [<-Xj,bU]
 have V8:tn 0 pZ:=T.keep _ _ _ Qn fun b hb o e=>S3 b o (by rw [EO]; exact ay _ e);have Nf:∀ {Hc:Hp},(∀ b∈fp,Hc b=none)->∀ b∈fp,mz (dB X N scope s3.heap.objs.size s3 H3 fp) [] Hc b:=fun hn b hb =>
  ⟨hn b hb,(X7.Yr b hb).1,X7.Pd b hb,.inl hb,fun x c e=>(X7.Yr b hb).2 x c e,fun p hp=>absurd hp (by simp)⟩
 have neD:∀ b∈fp,b≠s2.heap.objs.size:=fun b hb=>bh (OX b hb);have loop:BH (model X.prog X.w) X.A (.compLoop (.ListComp elt [⟨tg,iter,ifs,0⟩] scope pos) 0 (.ref it) (.ref s2.heap.objs.size) (dB X N scope s3.heap.objs.size s3 H3 fp).env) (Rr (.ref s2.heap.objs.size) s3.heap.objs.size)
   { s3 with heap:=pZ,toks:=s3.toks+([]:List (Str×Value)).length }:=by
  refine C5 (fun n s'=>∃ i Qk Hc MW Gc tP vi,I2 (dB X N scope s3.heap.objs.size s3 H3 fp) [] Qk Hc MW Gc s'/\Gc s2.heap.objs.size=none/\Hc s2.heap.objs.size=some (.lst tP)/\ba X.K Hc tP vi/\vi.length<=i/\Mv X.K H2 G2 Hc Gc/\tn i s'.heap/\(∀ b∈fp,Hc b=none) /\
   n=ds.length - i/\i<=ds.length/\i5 g c te ok (ds.drop i) E MW Gc vi fun xs G3=>gI G3 (.lst xs) Q) ?_ ds.length
   ⟨0,_,H3,_,G2,[],[],⟨I4,X3,Th⟩,U6,hD3,.nil,aB _,mv3,V8,fun b hb=>by rw [eH3 b (neD b hb)]; exact(f2 b hb).1,rfl,bZ _,q⟩
  rintro n s4 ⟨i,Qk,Hc,MW,Gc,tP,vi,Ic,gD,hD,rA,hA,mc,stc,DE,rfl,hle,wq⟩;have kpc:Kp H2 Hc:=mc.kp I.ab;by_cases tG:i < ds.length
  ·rw [fb tG] at wq;obtain⟨Za,wq⟩:=wq;obtain⟨go,yl⟩:=(wk i Hc Gc kpc Ic.ab Za).1 ds[i] (by simp [tG]);refine fZ (T.item (dB X N scope s3.heap.objs.size s3 H3 fp) rfl rfl rfl hc i [] s4 Qk Hc (fun _ _=>False) Ic.inv (Nf DE) stc go) ?_;rintro r s5 ⟨u,hr,h5⟩;subst hr;refine fZ h5 ?_;rintro _ s6 ⟨x,H6,I6,r6,y6,YO,fr6⟩;obtain⟨rd6,m6⟩:=yl x H6 y6;have I6':=I6.pinned (Nf fr6) (T.obj _ _ YO);have J6:I2 (dB X N scope s3.heap.objs.size s3 H3 fp) ([]++qJ fp s6.heap) Qk H6 MW Gc s6:=⟨I6',Ic.st.mono (m6.kp Ic.ab),m6.ab⟩;have back:∀ {YA:L2.St} {H9:Hp} {XX:hZ} {G9:Gp} {s9:av} {aV:List V} {aD:List D},I2 (dB X N scope s3.heap.objs.size s3 H3 fp) ([]++qJ fp s6.heap) YA H9 XX G9 s9->Mv X.K H2 G2 H9 G9->G9 s2.heap.objs.size=none->H9 s2.heap.objs.size=some (.lst aV)->ba X.K H9 aV aD->aD.length<=i+1 ->
     (i5 g c te ok (ds.drop (i+1)) E XX G9 aD fun xs G3=>gI G3 (.lst xs) Q)->∃ mm,mm < ds.length - i/\∃ i Qk Hc MW Gc tP vi,I2 (dB X N scope s3.heap.objs.size s3 H3 fp) [] Qk Hc MW Gc s9/\Gc s2.heap.objs.size=none/\Hc s2.heap.objs.size=some (.lst tP)/\ba X.K Hc tP vi/\vi.length<=i /\
      Mv X.K H2 G2 Hc Gc/\tn i s9.heap/\(∀ b∈fp,Hc b=none)/\mm=ds.length - i/\i<=ds.length/\i5 g c te ok (ds.drop i) E MW Gc vi fun xs G3=>gI G3 (.lst xs) Q:=fun {YA H9 XX G9 s9 aV aD} I9 m9 g9 h9 r9 l9 n9=>by
    refine⟨ds.length - (i+1),by lia,i+1,YA,H9,XX,G9,aV,aD,⟨I9.inv.t7,I9.st,I9.ab⟩,g9,h9,r9,l9,m9,T.keep _ _ _ YO fun b hb o e=>(I9.inv.pin (b,o) (bg _ (bg _ (o9 hb e)))).1,fun b hb=>?_,rfl,tG,n9⟩;obtain⟨o,e,d⟩:=T.obj _ _ YO b hb;exact(I9.inv.pin (b,o) (bg _ (bg _ (o9 hb e)))).2.1
   have mc6:=mc.trans m6;have hD6:=m6.keep _ _ hD gD;refine fZ (hg _ _ _ _ E _ s6 Qk H6 MW Gc x ds[i] u _ (Lk.none hE0) J6 r6 rd6 wq) ?_;rintro _ s7 ⟨MA,H7,Mz,G7,I7,m7,q7⟩;have Yp:=m7.keep _ _ hD6.1 gD;have mc7:=mc6.trans m7;have rA7:=rA.mono ((m6.trans m7).kp Ic.ab);have Xs:∀ (H8:Hp) (G8:Gp) (s8:av),I2 (dB X N scope s3.heap.objs.size s3 H3 fp) ([]++qJ fp s6.heap) MA H8 Mz G8 s8->Mv X.K H7 G7 H8 G8->(te E Mz G8 fun y G9=>i5 g c te ok (ds.drop (i+1)) E Mz G9 (vi++[y]) fun xs G3=>gI G3 (.lst xs) Q) ->
     wpAny (model X.prog X.w) X.A (eval elt (dB X N scope s3.heap.objs.size s3 H3 fp).env) (fun y K5=>wpAny (model X.prog X.w) X.A (call (.builtin "list.append") [.ref s2.heap.objs.size,y]) (fun _ M6=>∃ mm,mm < ds.length - i/\∃ i Qk Hc MW Gc tP vi,I2 (dB X N scope s3.heap.objs.size s3 H3 fp) [] Qk Hc MW Gc M6/\Gc s2.heap.objs.size=none/\Hc s2.heap.objs.size=some (.lst tP)/\ba X.K Hc tP vi/\vi.length<=i /\
      Mv X.K H2 G2 Hc Gc/\tn i M6.heap/\(∀ b∈fp,Hc b=none)/\mm=ds.length - i/\i<=ds.length/\i5 g c te ok (ds.drop i) E MW Gc vi fun xs G3=>gI G3 (.lst xs) Q) (fun _ _=>False) K5) (fun _ _=>False) s8:=fun H8 G8 s8 I8 m8 q8=>by
    refine i4 (he _ _ _ _) (Lk.none hE0) I8 q8 fun v H9 d9 G9 u9 s9 I9 m9 r9 rd9 q9=>?_;have Zp:=m8.trans m9;have Yo:=Zp.keep _ _ Yp.1 Yp.2;have rA9:=rA7.mono (Zp.kp I7.ab);have mc9:=mc7.trans Zp;refine fZ (AU (X:=dB X N scope s3.heap.objs.size s3 H3 fp) _ s9 MA H9 (.ref s2.heap.objs.size) [v] _ [u9] (fun _ H'=>H'=upd H9 s2.heap.objs.size (.lst (tP++[v]))) I9.inv rfl (.cons r9 .nil)
     ⟨_,tP,v,rfl,rfl,Yo.1,by rw [rA.length,sz]; have:SZ=16777216:=rfl; lia,rfl⟩) ?_
    rintro _ s10 ⟨v10,H10,I10,_,e10⟩;subst e10;have Zt:Kp H9 (upd H9 s2.heap.objs.size (.lst (tP++[v]))):=.putL Yo.1;have abA:kN X.K (upd H9 s2.heap.objs.size (.lst (tP++[v]))) G9:=fun a g' e=>by
     have ne:a≠s2.heap.objs.size:=by rintro rfl; rw [Yo.2] at e; cases e
     exact(I9.ab a g' e).mono Zt (bO ne)
    have mA:Mv X.K H2 G2 (upd H9 s2.heap.objs.size (.lst (tP++[v]))) G9:=⟨fun a o e n=>by
      have ne:a≠s2.heap.objs.size:=dj e vY;obtain⟨e1,e2⟩:=mc9.keep a o e n;exact⟨by rw [bO ne]; exact e1,e2⟩,fun a n=>by
      by_cases ha:a=s2.heap.objs.size
      ·rw [ha,bU]; simp
      ·rw [bO ha]; exact mc9.lU a n,abA⟩
    exact back ⟨I10,I9.st.mono Zt,abA⟩ mA Yo.2 bU ((rA9.append (.cons rd9 .nil)).mono Zt) (by rw [az,bR]; lia) q9
   cases hi s3.heap.objs.size s3 H3 fp with
   | none =>
    refine wpAny_tests_nil ?_;rw [if_pos rfl];exact Xs H7 G7 s7 I7 (.refl I7.ab) q7
   | some Xg =>
    refine wpAny_tests_one (M5 Xg (Lk.none hE0) I7 q7 fun k H8 G8 s8 I8 m8 q8=>?_);cases k with
    | true =>
     rw [if_pos rfl] at q8 ⊢;exact Xs H8 G8 s8 I8 m8 q8
    | false =>
     rw [if_neg dF] at q8 ⊢;have hD8:=m8.keep _ _ Yp.1 Yp.2;exact back I8 (mc7.trans m8) hD8.2 hD8.1 (rA7.mono (m8.kp I7.ab)) (by lia) q8
  ·have hn:ds.length<=i:=by lia
   rw [k8 hn] at wq;obtain⟨Za,qn⟩:=wq;have stop:=(wk i Hc Gc kpc Ic.ab Za).2 hn;refine fZ (T.done (dB X N scope s3.heap.objs.size s3 H3 fp) rfl rfl rfl hc i [] s4 Qk Hc (fun _ _=>False) Ic.inv (Nf DE) stc stop) ?_;rintro r s5 ⟨hr,I5⟩;subst hr;refine fin s3.heap.objs.size s5 ?_;obtain⟨mm,ZU,_⟩:=I5.loc;have hC5:Hc s3.heap.objs.size=none:=I5.free;have I6:Inv X pins σ Hc s5:=by
    obtain⟨h5,g5,d5,t5,o5⟩:=s5;have eo:o5=s3.os:=I5.os;subst eo;exact I3.call (h':=h5) (g':=g5) (d':=d5) (t':=t5) (ch:=fp) I5.base I5.cp I5.bare fun b hb=>by
     obtain⟨⟨f0,f1,f2',f3,f4,f5⟩,hl⟩:=Xb b hb;exact⟨f3,f1,f4,f5⟩
   have mvF:Mv X.K H2 G2 Hc (cT Gc s2.heap.objs.size (.lst vi)):=⟨fun a o e n=>by
     have ne:a≠s2.heap.objs.size:=dj e vY;obtain⟨e1,e2⟩:=mc.keep a o e n;exact⟨e1,by rw [ck ne]; exact e2⟩,mc.lU,fun a g' e=>by
     by_cases ha:a=s2.heap.objs.size
     ·subst ha;rw [aC] at e;cases e;exact⟨tP,hD,rA⟩
     ·rw [ck ha] at e;exact Ic.ab a g' e⟩
   exact⟨mm,Hc,_,I6,ZU,I3.yR (aB _) hC5,m2.trans mvF,qn _ gD⟩
 have all:BH (model X.prog X.w) X.A (.compStart (.ListComp elt [⟨tg,iter,ifs,0⟩] scope pos) 0 (.ref it) (.ref s2.heap.objs.size) (dB X N scope s3.heap.objs.size s3 H3 fp).env) (Rr (.ref s2.heap.objs.size) s3.heap.objs.size)
   { s3 with heap:=pZ,toks:=s3.toks+([]:List (Str×Value)).length }:=codeAny_compStart_list loop (T.self _ 0 _ _ _ V8 loop)
 subst hs3;exact all
end
section
variable {X:Cx} {N:List Str} {scope:Scope} {tg elt iter:Expr} {ifs:List Expr} {pos:Pos} {m:Nat} {fr:List Nat} {wi:IC} {g:zG} {c:Option xb} {te:fx}
structure zv(X:Cx)(N:List Str)(scope:Scope)(m:Nat)(fr:List Nat):Prop where
 cell:∀ y∈scope.names,y.2≠.cell
 kind:scope.kind=.function
 names:∀ y∈scope.names,y.2=.local->scope.names.lookup y.1=some .local
 free:∀ y∈scope.names,y.2=.free->X.env.kindOf y.1=some .cell
 len:N.length=m+fr.length
 at':∀ j i x,fr[j]?=some i->N[m+j]?=some x->X.N[i]?=some x/\X.env.scope.names.lookup x=some .cell/\(FY scope X.env).names.lookup x=some .cell
theorem zv.closed{X:Cx}{N:List Str}{scope:Scope}{m:Nat}{fr:List Nat}(k:zv X N scope m fr){pins:List (Addr×Obj)}{σ:L2.St}{H:Hp}{s:av}(I:Inv X pins σ H s):closureFor scope X.env=pure (fR X.env scope.names []) :=
 Ab fun y hy hf=>I.ok.has _ (.inl (k.free y hy hf))
theorem Lq(hc:X.calm=true)(k:zv X N scope m fr)(hi:ID X tg iter wi)(hg:∀ C s H fp,Mm (dB X N scope C s H fp) tg g)(UX:∀ C s H fp,Vy (dB X N scope C s H fp) ifs c)(he:∀ C s H fp,fy (dB X N scope C s H fp) elt te)
  (hs:autoParam (∀ x,nB iter X.env x=pure x) Ai._auto_1):fy X (.ListComp elt [⟨tg,iter,ifs,0⟩] scope pos) (jz m fr wi g c te):=by
 intro E pins s σ H τ G Q hE I h;rw [eval_ListComp];refine wpAny_comprehension_free (use:=none) rfl hs (k.closed I.inv) k.kind k.names (fZ (hi E pins s σ H τ G _ hE I h) fun xv eE pZ=>fZ pZ fun SR jH HF=>?_);obtain⟨it,fp,tn,J,H2,G2,ds,ok,e,k6,m2,T,Qn,f2,wk,hz,q⟩:=HF;subst e;refine Bs (Rr:=fun acc C=>compPost (model X.prog X.w) X.A X.xe none (su X pins σ H G Q) acc C) hc k.cell k.kind k.free k.len k.at' hg UX he (I.mv k6 m2) m2 T Qn f2 wk hz (fun _ _ z=>z) q ?_;rintro C s' ⟨mm,H',G',I',Qr,fpC,mv,q'⟩;refine⟨mm,Qr,fun h' OS=>?_⟩;obtain⟨f0,f1,_,f3,f4,f5⟩:=fpC;exact⟨.ref _,H',.ref _,G',I'.turned (t':=s'.toks) (fun b o hb e=>OS.extBut b o hb e) f0 f1 f3 f4 f5,mv,rfl,.ref _,q'⟩
theorem D8{i:Nat}{y:Str}{py Nk:Pos}(hN:X.N.Nodup)(ZD:X.N[i]?=some y)(hy:X.env.scope.names.lookup y=some .local)(hc:X.calm=true)(k:zv X N scope m fr)(hi:ID X tg iter wi)(hg:∀ C s H fp,Mm (dB X N scope C s H fp) tg g)
  (UX:∀ C s H fp,Vy (dB X N scope C s H fp) ifs c) (he:∀ C s H fp,fy (dB X N scope C s H fp) elt te) (ZM:autoParam (MP (.ListComp elt [⟨tg,iter,ifs,0⟩] scope pos) (some (.Name y py)) Nk.line X.env=pure true) Ar._auto_1)
  (hs:autoParam (∀ x,nB iter X.env x=pure x) Ai._auto_1):FU X (.Assign [.Name y py] (.ListComp elt [⟨tg,iter,ifs,0⟩] scope pos) Nk) (bJ (jz m fr wi g c te) (aI i)):=by
 intro E pins s σ H τ G D hE I h;rw [exec_Assign_Name_used _ _ _ _ ZM];refine ag (vt (ag ?_));show wpAny _ X.A (do let _ ← comprehension (.ListComp elt [⟨tg,iter,ifs,0⟩] scope pos) scope X.env _ (newList []) false (eval iter X.env) (some (IL (.Name y py) X.env))) _ _ s;refine ag (fZ (wpAny_comprehension_free (use:=some (IL (.Name y py) X.env)) (Q:=fun _ s'=>Vx X pins H G D .next s') rfl hs (k.closed I.inv) k.kind k.names (fZ (hi E pins s σ H τ G _ hE I h) fun xv eE pZ=>fZ pZ fun SR jH HF=>?_)) fun _ s' hq=>aw (aw hq));obtain⟨it,fp,tn,J,H2,G2,ds,ok,e,k6,m2,T,Qn,f2,wk,hz,q⟩:=HF;subst e;refine Bs (Rr:=fun acc C=>compPost (model X.prog X.w) X.A X.xe (some (IL (.Name y py) X.env)) (fun _ s'=>Vx X pins H G D .next s') acc C) hc k.cell k.kind k.free k.len k.at' hg UX he (I.mv k6 m2) m2 T Qn f2 wk hz (fun _ _ z=>z) q ?_;rintro C s' ⟨mm,H',G',I',Qr,fpC,mv,q'⟩;show wpAny (model X.prog X.w) X.A (IL (.Name y py) X.env (.ref jH.heap.objs.size)) _ X.xe s';obtain⟨f0,f1,_,f3,f4,f5⟩:=fpC;refine wpAny_assign_Name (AB (v:=.ref jH.heap.objs.size) I' hN ZD (.inl hy) rfl (?_) (.inr hy));rintro s3 I3 ⟨a,hsb,ha⟩;have hCa:C≠a:=by
  rcases ha with rfl | ha
  ·exact f1
  ·exact fun e=>f4 y a ha e.symm
 refine⟨mm,Qr.sameBut hsb hCa,fun h' OS=>?_⟩;exact⟨_,H',_,G',⟨I3.turned (t':=s3.toks) (fun b o hb e=>OS.extBut b o hb e) f0 f1 f3 f4 f5,(I.st.mono (mv.kp I.ab)).set i (.ref _),mv.ab⟩,mv,q'⟩
theorem bN{i:Nat}{u:Du}{n:Nat}(h:∀ E ds τ G Q,u E ds τ G Q->ds.length=n):∀ E ds τ G Q,cq (aI i) u E ds τ G Q->ds.length=n+1 :=
 LY h (fun _ _ _ _ _ _ q k=>k _ _ q) fun _ _ _ _ q=>q
theorem bF (i:Nat) {x:Str} {pos:Pos} (hN:autoParam (X.N[i]?=some x) Ar._auto_1) (hv:autoParam (Yv X.env.scope x) Ao._auto_1) (hd:autoParam ((x == ("__debug__" : Str))=false) Ad._auto_1)
  (Ka:autoParam ((x == ("__classdict__" : Str))=false) Ad._auto_1):fy X (.Name x pos) (ax i):=Q7 hN hv hd Ka
theorem Hu{pins:List (Addr×Obj)}{s:av}{σ:L2.St}{H:Hp}{G:Gp}{x:V}{d:D}{v:Value}{zs:List D}(I:Inv X pins σ H s)(ab:kN X.K H G)(rx:RelV x v)(rd:bW X.K H x d)(hi:itemsOf d G=some zs) :
  ∃ l vs bG,v=.ref l/\Vals vs bG/\ba X.K H vs zs/\(s.heap.IsList l bG.toArray\/s.heap.IsTuple l bG.toArray)/\vs.length<=aY:=by
 cases rd with
 | dJ hq rs =>
  cases hi;cases rx;obtain⟨bG,rv,pl,hz⟩:=I.list hq.sq;exact⟨_,_,bG,rfl,rv,rs,.inl pl.isList,hz⟩
 | tup hq rs =>
  cases hi;cases rx;obtain⟨bG,rv,pl,hz⟩:=I.tuple (.of hq);exact⟨_,_,bG,rfl,rv,rs,.inr pl,hz⟩
 | ref l =>
  unfold itemsOf at hi;dsimp only at hi;cases hg:G l with
  | none=>rw [hg] at hi; cases hi
  | some gg =>
   rw [hg] at hi;cases gg with
   | lst ds =>
    cases hi;cases rx;obtain⟨vs,hv,rs⟩:=ab.lst hg;obtain⟨bG,rv,pl,hz⟩:=I.list (.of hv);exact⟨_,_,bG,rfl,rv,rs,.inl pl.isList,hz⟩
   | ins _ _=>cases hi
   | qT _=>cases hi
   | eV _=>cases hi
 | _=>cases hi
theorem Ub{body:List Stmt}{t2:iP}(h:we X body t2){E:lr}(hE:Lk X E):VY X body (fun D σ H=>∃ (τ:hZ) (G:Gp) (D2:nu),Qw X.K H σ τ/\kN X.K H G/\t2 E D2 τ G /\
  (∀ ju H' pX G',Mv X.K H G H' G'->D2.nx pX G'->D.nx ju H')/\(∀ v H' d G',Mv X.K H G H' G'->bW X.K H' v d->D2.rt d G'->D.rt v H')/\(∀ τ G,¬ D2.bk τ G)/\(∀ τ G,¬ D2.ct τ G)):=by
 rintro pins s σ H D I ⟨τ,G,D2,st,ab,q,k1,k2,k3,k4⟩;refine fZ (h E pins s σ H τ G D2 hE ⟨I,st,ab⟩ q) fun f s1 z=>?_;cases f with
 | next=>obtain⟨ju,H',pX,G',J,mv,z⟩:=z; exact⟨ju,H',J.inv,k1 ju H' pX G' mv z⟩
 | brk=>obtain⟨ju,H',pX,G',J,mv,z⟩:=z; exact(k3 _ _ z).elim
 | cont=>obtain⟨ju,H',pX,G',J,mv,z⟩:=z; exact(k4 _ _ z).elim
 | ret u=>obtain⟨v,ju,H',d,G',J,mv,r,rd,z⟩:=z; exact⟨v,ju,H',J,r,k2 v H' d G' mv rd z⟩
theorem Ng{K:ai}{H:Hp}{Nn:List Str}{vs:List V}{ds:List D}(r:ba K H vs ds):Qw K H (L2.start Nn vs) (bA Nn.length ds):=by
 unfold L2.start bA;refine⟨by simp [r.length],fun i d h=>?_⟩;by_cases hi:i < ds.length
 ·rw [gK (by simpa using hi),br] at h;cases hd:ds[i]? with
  | none=>rw [hd] at h; cases h
  | some d' =>
   rw [hd] at h;have e:d'=d:=by simpa using h
   subst e;obtain⟨v,h1,h2⟩:=r.get hd;refine⟨v,?_,h2⟩;rw [gK (by simpa [r.length] using hi),br,h1]; rfl
 ·rw [eS (by simpa using hi),kK] at h;split at h <;> cases h
theorem Kf{P:bz}{w:World}{K:ai}{mg:Str->Option Value}{base:Heap}{x qual:Str}{st:Stmt}{f:Addr}{fd:gG}{Nn ps:List Str}{k:Nat}{sp:nj}{rd:iP}(F:Sb K x qual st f fd)(S:nq Nn ps (cu st))(len:∀ ds G Q E,sp ds G Q E->ds.length=ps.length)
  (hr:∀ ds G Q,sp ds G Q (fun _ _=>False)->rd (fun _ _=>False) (ends Q) (bA Nn.length ds) G)
  (hb:∀ (lH:Value) (A:cL) (outer:List Env) (s:av) (H:Hp) (E:XK),lx k (A.deeper (Av qual (cu st) s.heap.objs.size f lH))->we (C4 KN P w K mg base Nn qual (cu st) f lH A outer s H E).Uu (hV st) rd):xc P w K mg base KN (k+1) f fd ps (BX K sp):=by
 refine F.ok S ((by rintro vs H Q E ⟨ds,G,Q2,r,ab,q,_⟩; exact by rw [r.length]; exact len _ _ _ _ q)) ?_;rintro lH A outer s H vs Q E WW ⟨ds,G,Q2,r,ab,q,kk⟩;refine⟨_,Ub (hb lH A outer s H E WW) (E:=fun _ _=>False) (Lk.none fun _ _ z=>z),?_⟩;exact⟨bA Nn.length ds,G,ends Q2,Ng r,ab,hr ds G Q2 q,fun ju H' pX G' mv z=>kk _ _ _ _ z mv .eg,fun v H' d G' mv YY z=>kk _ _ _ _ z mv YY,fun _ _ z=>z,fun _ _ z=>z⟩
section
variable {prog:bz} {w:World} {A:cL} {R:Result->av->Prop} {Yz:Addr} {fq wr:List Addr} {n:Nat} {P:Nat->Value->Prop} {Sx:Nat->Heap->Prop}
theorem Uz(W:Walks prog w A.in1 Yz fq wr n P Sx)(bt:Nat->Nat->Bool)(T:Heap->Prop)(B:Addr)(hB:B∉fq)(hT:∀ h h',T h->(∀ b o,b∉wr->b≠B->h.get? b=some o->h'.get? b=some o)->T h')
  (cmp:∀ i j x y s (Q:Value->av->Prop) (E:Value->av->Prop),T s.heap->P i x->P j y->Q (.bool (bt i j)) s->wpAny (model prog w) A.in1 (qj .Lt x y) Q E s) :
  ∀ (k j:Nat) (s:av) (best:Value) (cc:Nat),n - (j+1)=k->j+1<=n->Sx (j+1) s.heap->T s.heap->P (ql bt j) best ->
  s.heap.get? B=some { cls:=.type "list",dict:=none,data:=.seq #[best,best] cc,slots:=#[] } ->
  (∀ v h' tk,P (ql bt (n - 1)) v->(∀ b o,b∉wr->b≠B->s.heap.get? b=some o->h'.get? b=some o)->R (.ok (.ret v)) { s with heap:=h',toks:=tk }) ->
  BH (model prog w) A (.builtin "min.loop" ⟨[.ref Yz,.none,.ref B],[]⟩) R s:=by
 have hBw:B∉wr:=fun z=>hB (W.sub _ z);have nm:(toString "min"++toString ".loop" : String) = "min.loop":=by decide
 intro k;induction k with
 | zero =>
  intro j s best cc hk hj hs ht hp hb hR;have ej:j+1=n:=by lia
  refine lN Gm ?_; rw [jt iZ _];show wpAny _ A.in1 (MQ (.ref B) >>= _) _ _ s; refine ag (km hb rfl ?_);show wpAny _ A.in1 (tryCatch (wo (.ref Yz)) _ >>= _) _ _ s; refine ag (As (W.done s _ _ (ej ▸ hs) fun h' tk kept=>?_));have Bf:=kept B _ hBw hb;show wpAny _ A.in1 (updateSeq B (fun _=>#[]) >>= _) _ _ _; refine ag ?_;refine xB Bf rfl (ag (vw (aw ?_)));exact hR best _ tk (by rw [<-ej]; exact hp) fun b o z1 z2 e=>(cW _ _ (da z2)).trans (kept b o z1 e)
 | succ k ih =>
  intro j s best cc hk hj hs ht hp hb hR;have lt:j+1 < n:=by lia
  refine lN Gm ?_; rw [jt iZ _];show wpAny _ A.in1 (MQ (.ref B) >>= _) _ _ s; refine ag (km hb rfl ?_);show wpAny _ A.in1 (tryCatch (wo (.ref Yz)) _ >>= _) _ _ s; refine ag (As (W.item (j+1) s _ _ lt hs fun v h' tk pv zQ kept=>?_));have Bf:=kept B _ hBw hb;have VL:T h':=hT _ _ ht fun b o z1 _ e=>kept b o z1 e;show wpAny _ A.in1 (tryCatch (Ga [v,v] (qj .Lt v best >>= _)) _ >>= _) _ _ _;refine ag (As (cS (ag (cmp (j+1) (ql bt j) v best _ _ _ VL pv hp ?_)))); refine ag (cS (ik ?_)); refine ag (vw (aw ?_));cases hbt:bt (j+1) (ql bt j) with
  | true =>
   simp only [if_true]; refine ag ?_;refine xB Bf rfl (ag (vw ?_)); rw [nm];refine aw ⟨pT iZ _,ih (j+1) _ v _ (by lia) lt (W.frame _ _ _ zQ fun b z o e=>?_) (hT _ _ VL fun b o _ z2 e=>?_) (by simp only [ql,hbt,if_true]; exact pv) (gF _ Bf rfl) fun v' Xk M4 Wj kk=>?_⟩
   ·exact(cW _ _ (fun z':B=b=>hB (by rw [z']; exact z))).trans e
   ·exact(cW _ _ (da z2)).trans e
   ·exact hR v' Xk M4 Wj fun b o z1 z2 e=>kk b o z1 z2 ((cW _ _ (da z2)).trans (kept b o z1 e))
  | false =>
   simp only [aF,if_false]; refine ag (vw ?_); rw [nm];refine aw ⟨pT iZ _,ih (j+1) _ best cc (by lia) lt zQ VL (by simp only [ql,hbt,aF,if_false]; exact hp) Bf fun v' Xk M4 Wj kk=>?_⟩;exact hR v' Xk M4 Wj fun b o z1 z2 e=>kk b o z1 z2 (kept b o z1 e)
end
theorem Ep{prog:bz}{w:World}{A:cL}{E:Value->av->Prop}{s:av}{x:Value}{Q:Value->av->Prop}
  (h:wpAny (model prog w) A.in1 (Au x) (fun it jH=>∃ (I:Addr) (fq wr:List Addr) (n:Nat) (P:Nat->Value->Prop) (Sx:Nat->Heap->Prop) (bt:Nat->Nat->Bool) (T:Heap->Prop),it=.ref I/\Walks prog w A.in1 I fq wr n P Sx/\Sx 0 jH.heap/\(∀ b∈fq,b < jH.heap.objs.size)/\0 < n/\T jH.heap/\(∀ (h h':Heap) (B:Addr),jH.heap.objs.size<=B->T h->(∀ b o,b∉wr->b≠B->h.get? b=some o->h'.get? b=some o)->T h') /\
   (∀ i j x y s (Q:Value->av->Prop) (E:Value->av->Prop),T s.heap->P i x->P j y->Q (.bool (bt i j)) s->wpAny (model prog w) A.in1 (qj .Lt x y) Q E s) /\
   ∀ v h' tk,P (ql bt (n - 1)) v->(∀ b o,b∉wr->jH.heap.get? b=some o->h'.get? b=some o)->Q v { jH with heap:=h',toks:=tk }) E s) :
  wpAny (model prog w) A (call (.builtin "min") [x]) Q E s:=by
 have nm:(toString "min"++toString ".loop" : String) = "min.loop":=by decide
 refine call_function_tree F.kind_min F.plain_min F.entry_min (F.args_min1 _) ?_;show wpAny _ A.in1 (vq "min" ["key","default"] 0 ⟨[],[]⟩ >>= _) _ _ s; refine ag (BG (show vq "min" ["key","default"] 0 ⟨[],[]⟩=pure [none,none] from rfl) ?_);refine ag (aw ?_); refine ag (tX h (fun it jH HF=>?_) fun _ _ e=>e);obtain⟨I,fq,wr,n,P,Sx,bt,T,rfl,W,ZN,Xd,hn,ht,hT,cmp,hQ⟩:=HF;refine ag (cy ?_);have hSf:jH.heap.objs.size∉fq:=fun z=>iq _ (Xd _ z);have hSw:jH.heap.objs.size∉wr:=fun z=>hSf (W.sub _ z);rw [nm];generalize hh:jH.heap.push { cls:=.type "list",data:=.seq ([]:List Value).toArray } = hp;have hb:hp.get? jH.heap.objs.size=some { cls:=.type "list",dict:=none,data:=.seq #[] 0,slots:=#[] }:=by rw [<-hh]; exact aO _ rfl
 have old:∀ b o,jH.heap.get? b=some o->hp.get? b=some o:=fun b o e=>by rw [<-hh]; exact ay _ e
 have st0:Sx 0 hp:=W.frame _ _ _ ZN fun b _ o e=>old b o e;have ht0:T hp:=hT _ _ _ (aB _) ht fun b o _ _ e=>old b o e;refine aw ⟨pT iZ _,?_⟩;refine lN Gm ?_; rw [jt iZ _];show wpAny _ A.in1 (MQ (.ref jH.heap.objs.size) >>= _) _ _ _; refine ag (km hb rfl ?_);show wpAny _ A.in1 (tryCatch (wo (.ref I)) _ >>= _) _ _ _; refine ag (As (W.item 0 _ _ _ hn st0 fun v h' tk pv zQ kept=>?_));have Bf:=kept _ _ hSw hb;show wpAny _ A.in1 (updateSeq jH.heap.objs.size (fun _=>#[v,v]) >>= _) _ _ _; refine ag ?_;refine xB Bf rfl ?_; rw [nm];refine aw ⟨pT iZ _,Uz W bt T _ hSf (fun h h'=>hT h h' _ (aB _)) cmp _ 0 _ v _ rfl hn (W.frame _ _ _ zQ fun b z o e=>?_) (hT _ _ _ (aB _) (hT _ _ _ (aB _) ht0 fun b o z1 _ e=>kept b o z1 e) fun b o _ z2 e=>?_) pv (gF _ Bf rfl) fun v' Xk M4 Wj kk=>?_⟩
 ·exact(cW _ _ (fun z':jH.heap.objs.size=b=>hSf (by rw [z']; exact z))).trans e
 ·exact(cW _ _ (da z2)).trans e
 ·refine hQ v' Xk M4 Wj fun b o z1 e=>?_;have nb:b≠jH.heap.objs.size:=bh (aN e);exact kk b o z1 nb ((cW _ _ (da nb)).trans (kept b o z1 (old b o e)))
theorem Fp{α:Type}(lt:α->α->Bool)(l:List α)(a:α)(f:Nat->α)(hf:∀ i,i < l.length+1->f i=(a :: l).getD i a) :
  f (ql (fun i j=>lt (f i) (f j)) l.length)=l.foldl (fun m x=>if lt x m=true then x else m) a:=by
 have key:∀ k,k<=l.length->f (ql (fun i j=>lt (f i) (f j)) k)=(l.take k).foldl (fun m x=>if lt x m=true then x else m) a:=by
  intro k;induction k with
  | zero=>intro _; rw [ql,hf 0 (by lia)]; rfl
  | succ k ih =>
   intro hk;have Ye:=ih (by lia);rw [List.take_succ_eq_append_getElem (by lia),fO,<-Ye];have e:f (k+1)=l[k]:=by
    rw [hf (k+1) (by lia),aZ];simp [show k < l.length by lia]
   show f (if lt (f (k+1)) (f (ql _ k))=true then k+1 else ql _ k)=(if lt l[k] _=true then l[k] else _);rw [<-e];split <;> rfl
 rw [key l.length (aB _),List.take_length]
theorem Mc (hc : X.calm = true) (hu : X.A.units + 64 < cLine) : pF X (.builtin "min") PQ := by
  intro pins s σ H G xs ds us Q I ab rx rd q;unfold PQ at q;split at q
  · rename_i x
    obtain⟨v, rfl, r⟩ := rd.one;obtain⟨u, rfl, ru⟩ := rx.one;have main : ∀ {α : Type} (zs : List α) (a : α) (enc : α -> D) (lt : α -> α -> Bool) (T : Heap -> Prop), itemsOf x G = some ((a :: zs).map enc) -> T s.heap -> (∀ (h h' : Heap) (B : Addr), s.heap.objs.size ≤ B -> T h -> (∀ b o, b < s.heap.objs.size -> b ≠ B -> h.get? b = some o -> h'.get? b = some o) -> T h') ->
        (∀ y z vy vz uy uz (s' : av) (Q' : Value -> av -> Prop) (E' : Value -> av -> Prop), T s'.heap -> bW X.K H vy (enc y) -> RelV vy uy -> bW X.K H vz (enc z) -> RelV vz uz -> Q' (.bool (lt y z)) s' -> wpAny (model X.prog X.w) X.A.in1 (qj .Lt uy uz) Q' E' s') ->
        Q (enc (zs.foldl (fun m x => if lt x m = true then x else m) a)) G -> wpAny (model X.prog X.w) X.A (call (.builtin "min") [u]) (su X pins σ H G Q) X.xe s := by
      intro α zs a enc lt T hi ht hT cmp hq;obtain⟨l, vs, bG, rfl, rv, rs, hl, hz⟩ := Hu I ab ru r hi;have hlen : bG.length = zs.length + 1 := by rw [<-rv.length, rs.length, aE, ah]
      have qP : ∀ {o : Obj}, s.heap.get? l = some o -> l ≠ s.heap.objs.size := fun e => bh (aN e);have at_ : ∀ i uu, bG.toArray[i]? = some uu -> ∃ vv, RelV vv uu ∧ bW X.K H vv (enc ((a :: zs).getD i a)) := fun i uu e => by
        have e' : bG[i]? = some uu := by simpa using e
        have HI : i < bG.length := (List.getElem?_eq_some_iff.mp e').1;have hd : ((a :: zs).map enc)[i]? = some (enc ((a :: zs).getD i a)) := by
          rw [br, aZ];cases h9 : (a :: zs)[i]? with
          | none => rw [List.getElem?_eq_none_iff] at h9; simp at h9; lia
          | some z => rfl
        obtain⟨vv, h1, h2⟩ := rs.get hd;obtain⟨uu', h3, h4⟩ := rv.get h1;rw [e'] at h3;cases h3;exact⟨vv, h4, h2⟩
      have Xz : ∀ i j p9 q9 s' (Q' : Value -> av -> Prop) (E' : Value -> av -> Prop), T s'.heap -> bG.toArray[i]? = some p9 -> bG.toArray[j]? = some q9 -> Q' (.bool (lt ((a :: zs).getD i a) ((a :: zs).getD j a))) s' -> wpAny (model X.prog X.w) X.A.in1 (qj .Lt p9 q9) Q' E' s' := fun i j p9 q9 s' Q' E' t' h1 h2 h3 => by
        obtain⟨v1, r1, d1⟩ := at_ i p9 h1;obtain⟨v2, r2, d2⟩ := at_ j q9 h2;exact cmp _ _ v1 v2 p9 q9 s' Q' E' t' d1 r1 d2 r2 h3
      have fin : ∀ vv h' tk, bG.toArray[ql (fun i j => lt ((a :: zs).getD i a) ((a :: zs).getD j a)) (bG.toArray.size - 1)]? = some vv -> (∀ b o, b ∉ [s.heap.objs.size] -> s.heap.get? b = some o -> h'.get? b = some o) -> su X pins σ H G Q vv { s with heap := h', toks := tk } := fun vv h' tk e hk => by
        obtain⟨v1, r1, d1⟩ := at_ _ vv e;have es : bG.toArray.size - 1 = zs.length := by rw [aR]; lia
        rw [es, Fp lt zs a (fun i => (a :: zs).getD i a) (fun i _ => rfl)] at d1;exact⟨v1, H, _, G, I.kept fun b o e => hk b o (by simpa using bh (aN e)) e, .refl ab, r1, d1, hq⟩
      have WY : 0 < bG.toArray.size := by rw [aR]; lia
      have hTp : ∀ (oo : Obj), T (s.heap.push oo) := fun oo => hT _ _ (s.heap.objs.size + 1) (Gk _) ht fun b o hb _ e => ay _ e;have hT2 : ∀ (oo : Obj) (h h' : Heap) (B : Addr), (s.heap.push oo).objs.size ≤ B -> T h -> (∀ b o, b ∉ [s.heap.objs.size] -> b ≠ B -> h.get? b = some o -> h'.get? b = some o) -> T h' := fun oo h h' B hB t kk => hT h h' B (by rw [gL] at hB; exact Nat.le_of_succ_le hB) t fun b o hb hn e => kk b o (by simpa using bh hb) hn e;rcases hl with hl | hl
      · refine Ep (nA hl ?_)
        obtain⟨o, ho, FQ, n, hd⟩ := id hl;exact⟨s.heap.objs.size, _, _, _, _, _, _, T, rfl, Walks.list (A := X.A.in1) (show X.A.in1.handled = none from I.ok.hd hc) _ l (qP ho) bG.toArray, ⟨⟨_, aO _ rfl, rfl, rfl⟩, ⟨o, ay _ ho, FQ, n, hd⟩⟩,
          fun b hb => by rcases (by simpa using hb : b = s.heap.objs.size ∨ b = l) with rfl | rfl
                         · rw [gL]; exact tS _
                         · rw [gL]; exact rZ (aN ho), WY, hTp _, hT2 _, Xz, fun vv h' tk e hk => fin vv h' tk e fun b o hb e => hk b o hb (ay _ e)⟩
      · refine Ep (lK hl ?_)
        obtain⟨o, ho, FQ, n, hd⟩ := id hl;exact⟨s.heap.objs.size, _, _, _, _, _, _, T, rfl, Walks.tuple (A := X.A.in1) (show X.A.in1.handled = none from I.ok.hd hc) _ l (qP ho) bG.toArray, ⟨⟨_, aO _ rfl, rfl, rfl⟩, ⟨o, ay _ ho, FQ, n, hd⟩⟩,
          fun b hb => by rcases (by simpa using hb : b = s.heap.objs.size ∨ b = l) with rfl | rfl
                         · rw [gL]; exact tS _
                         · rw [gL]; exact rZ (aN ho), WY, hTp _, hT2 _, Xz, fun vv h' tk e hk => fin vv h' tk e fun b o hb e => hk b o hb (ay _ e)⟩
    rcases q with ⟨ns, mm, hi, hm, q⟩ | ⟨X8, mm, hi, hm, q⟩
    · cases ns with
      | nil => cases hm
      | cons a zs =>
        cases hm;have e : (fun m x : Int => if x < m then x else m) = fun m x => if decide (x < m) = true then x else m := by funext m x; simp
        rw [e] at q;refine main zs a D.int (fun x y => decide (x < y)) (fun _ => True) hi trivial (fun _ _ _ _ _ _ => trivial) (fun y z vy vz uy uz s' Q' E' _ d1 r1 d2 r2 hq => ?_) q;cases d1;cases d2;obtain⟨t1, rfl⟩ := r1;obtain⟨t2, rfl⟩ := r2;exact HT.yc X.A.in1 s' y t1 z t2 X.prog X.w E' Q' hq
    · cases X8 with
      | nil => cases hm
      | cons a zs =>
        cases hm;have el : ∀ xs ys : List Int, HT.lexLt xs ys = K2.lexLt xs ys := by
          intro xs;induction xs with
          | nil => intro ys; cases ys <;> rfl
          | cons x xs ih => intro ys; cases ys with
            | nil => rfl
            | cons y ys => unfold HT.lexLt K2.lexLt; rw [ih]
        refine main zs a tI K2.lexLt (fun h => ∀ b o, b < s.heap.objs.size -> s.heap.get? b = some o -> h.get? b = some o) hi (fun b o _ e => e) (fun h h' B hB t kk b o hb e => kk b o hb (bh (bK hb hB)) (t b o hb e)) (fun y z vy vz uy uz s' Q' E' t' d1 r1 d2 r2 hq => ?_) q;cases d1 with
        | tup h1 rs1 =>
          cases d2 with
          | tup h2 Jo =>
            cases r1;cases r2;have z1 := rs1.ints;have z2 := Jo.ints;subst z1 z2;obtain⟨OJ, VD, ⟨o1, ho1, hc1, n1, MF⟩, _⟩ := I.tuple (.of h1);obtain⟨sf, K9, ⟨o2, A9, CH, n2, hd2⟩, _⟩ := I.tuple (.of h2);have p1 : IsTup s'.heap _ OJ.toArray := ⟨o1, t' _ _ (aN ho1) ho1, hc1, n1, MF⟩;have p2 : IsTup s'.heap _ sf.toArray := ⟨o2, t' _ _ (aN A9) A9, CH, n2, hd2⟩;rw [<-el] at hq;have i1 : lO OJ.toArray.toList y := intsAre_of VD;have i2 : lO sf.toArray.toList z := intsAre_of K9;exact(HT.yx p1 p2 i1 i2 (show X.A.units + 1 < cLine by lia) hq : wpAny (model X.prog X.w) X.A.in1 (dg .Lt _ _) Q' E' s')
  · exact q.elim
noncomputable def YX(scope sc:Scope):List (Str×sA):=scope.names.map fun (n,k)=>if (k == .free&&sc.kind == .function&&sc.names.lookup n == some .cell) then (n,.cell) else (n,k)
noncomputable def xt(N:List Str)(scope:Scope)(m:Nat)(fr:List Nat)(sc:Scope)(XN:List Str):Bool :=
 scope.names.all (fun y=>decide (y.2≠.cell))&&decide (scope.kind=.function)&&scope.names.all (fun y=>!decide (y.2=.local)||decide (scope.names.lookup y.1=some .local)) &&
 scope.names.all (fun y=>!decide (y.2=.free)||decide (sc.names.lookup y.1=some .cell))&&decide (N.length=m+fr.length) &&
 (dR fr.length).all (fun j=>match fr[j]?,N[m+j]? with
  | some i,some x=>decide (XN[i]?=some x)&&decide (sc.names.lookup x=some .cell)&&decide ((YX scope sc).lookup x=some .cell)
  | _,_=>false)
theorem Bt{sc:Scope}{XN:List Str}(WV:X.env.scope=sc)(Xi:X.N=XN)(hb:xt N scope m fr sc XN=true):zv X N scope m fr:=by
 subst WV Xi;unfold xt at hb;simp only [aK] at hb;obtain⟨⟨⟨⟨⟨h1,h2⟩,h3⟩,h4⟩,h5⟩,h6⟩:=hb;refine⟨fun y hy=>of_decide_eq_true (List.all_eq_true.mp h1 y hy),of_decide_eq_true h2,fun y hy hl=>?_,fun y hy hl=>?_,of_decide_eq_true h5,fun j i x e1 e2=>?_⟩
 ·have:=List.all_eq_true.mp h3 y hy;simp only [hl,decide_true,cj,Mw] at this;exact of_decide_eq_true this
 ·have:=List.all_eq_true.mp h4 y hy;simp only [hl,decide_true,cj,Mw] at this;exact of_decide_eq_true this
 ·have hj:j < fr.length:=(List.getElem?_eq_some_iff.mp e1).1;have:=List.all_eq_true.mp h6 j (List.mem_range.mpr hj);rw [e1,e2] at this;simp only [aK] at this;exact⟨of_decide_eq_true this.1.1,of_decide_eq_true this.1.2,of_decide_eq_true this.2⟩
theorem uv(N:List Str){sc:Scope}{XN:List Str}(hi:ID X tg iter wi)(hg:∀ C s H fp,Mm (dB X N scope C s H fp) tg g)(UX:∀ C s H fp,Vy (dB X N scope C s H fp) ifs c)(he:∀ C s H fp,fy (dB X N scope C s H fp) elt te)
  (WV:autoParam (X.env.scope=sc) Ar._auto_1) (Xi:autoParam (X.N=XN) Ar._auto_1) (hb:autoParam (xt N scope m fr sc XN=true) Ak._auto_1) (hc:autoParam (X.calm=true) Ar._auto_1) (hs:autoParam (∀ x,nB iter X.env x=pure x) Ai._auto_1):fy X (.ListComp elt [⟨tg,iter,ifs,0⟩] scope pos) (jz m fr wi g c te) :=
 Lq hc (Bt WV Xi hb) hi hg UX he hs
theorem yi(N:List Str){sc:Scope}{XN:List Str}{i:Nat}{y:Str}{py Nk:Pos}(hN:X.N.Nodup)(ZD:X.N[i]?=some y)(hy:X.env.scope.names.lookup y=some .local)(hi:ID X tg iter wi)(hg:∀ C s H fp,Mm (dB X N scope C s H fp) tg g)
  (UX:∀ C s H fp,Vy (dB X N scope C s H fp) ifs c) (he:∀ C s H fp,fy (dB X N scope C s H fp) elt te) (WV:autoParam (X.env.scope=sc) Ar._auto_1) (Xi:autoParam (X.N=XN) Ar._auto_1) (hb:autoParam (xt N scope m fr sc XN=true) Ak._auto_1) (hc:autoParam (X.calm=true) Ar._auto_1)
  (ZM:autoParam (MP (.ListComp elt [⟨tg,iter,ifs,0⟩] scope pos) (some (.Name y py)) Nk.line X.env=pure true) Ar._auto_1) (hs:autoParam (∀ x,nB iter X.env x=pure x) Ai._auto_1) :
  FU X (.Assign [.Name y py] (.ListComp elt [⟨tg,iter,ifs,0⟩] scope pos) Nk) (bJ (jz m fr wi g c te) (aI i)) :=
 D8 hN ZD hy hc (Bt WV Xi hb) hi hg UX he ZM hs
theorem LD{K:ai}{H:Hp}{a:Addr}{ns:List Int}(hO:Sa H)(hS:oK K H a (ns.map V.int))(hl:ns.length<=63):BX K AD [.ref a] H (fun v _=>v=.bl true) fun _ _ _=>False:=by
 have hF:VW K H a (ns.map V.int):=by
  rcases hS with (h | ⟨o,h⟩) | h
  ·rcases hO a with z | ⟨o,xs,z⟩
   ·rw [z] at h; cases h
   ·rw [z] at h; cases h
  ·exact .inl ⟨o,h⟩
  ·exact .inr h
 refine⟨[.dJ (ns.map D.int)],fun _=>none,fun d _=>d=.bl true,.cons (.dJ hF (ba.JI ns)) .nil,fun a g e=>(by cases e),⟨ns,rfl,hl,fun _=>rfl,fun _=>rfl⟩,fun d G' v H' e mv r=>?_⟩;subst e;cases r;rfl
theorem Ou{l:BI}{q:bz}{loose:List Str}{XP:(Str->Option Value)->Heap->Prop}{YP:World->Heap->Prop}{d:DefRec}{K:Params->ai}{k:Nat}{x:Str}(hn:l.most=some 63)(Xe:d.params.defaults=[])(hr:lx k Gb)
  (hY:∀ (w:World) (h:Heap),YP w h->(K w.params).In h)
  (F:∀ (w:World) (mg:Str->Option Value) (fa:Addr) (h:Heap),(K w.params).In h->h.Ns bL mg->mg d.name=some (.ref fa) ->
   ∃ fd:gG,(∀ (s:av) (u:Value),BindsTo s fd ⟨[u],[]⟩ [(x,u)])/\∀ base:Heap,(K w.params).In base->base.Ns bL mg->xc l.prog w (K w.params) mg base KN k fa fd [x] (BX (K w.params) AD)) :
  PySem.W.WalkO q loose XP YP l.row.toRowW d [] (fun f vs=>IM f vs) :=
 L2.QH (n:=63) (k:=k) (x:=x) (CX:=fun _=>KN) (sp:=fun w=>BX (K w.params) AD) hn (by decide) Xe hr hY F (fun _ _ _ _ hl hO hS=>LD hO hS hl) fun _ _ _ _ _ z=>z
end
noncomputable def PH:HO->Bool
 | .lst _=>true
 | .dK _=>true
 | .dT _=>true
 | .ext _=>true
 | _=>false
noncomputable def oy(h:Heap)(S:Addr->Bool)(H:Hp):Hp:=fun a=>match H a with
 | some u=>if (PH u&&S a)=true then (match h.get? a with
  | some o=>some (.jZ o u)
  | none=>some u) else some u
 | none=>none
section
variable {h:Heap} {S:Addr->Bool} {H:Hp} {a:Addr}
theorem HL(n:∀ u,H a=some u->PH u=false):oy h S H a=H a:=by
 unfold oy;cases e:H a with
 | none=>rfl
 | some u=>simp only [n u e,qf,aF,if_false]
theorem yQ(hs:S a=false):oy h S H a=H a:=by
 unfold oy;cases e:H a with
 | none=>rfl
 | some u=>simp only [hs,IX,aF,if_false]
theorem uS{u:HO}{o:Obj}(hs:S a=true)(e:H a=some u)(hu:PH u=true)(ho:h.get? a=some o):oy h S H a=some (.jZ o u):=by
 unfold oy;simp only [e,hs,hu,Bool.and_self,if_true,ho]
theorem ox(e:H a=none):oy h S H a=none:=by unfold oy; rw [e]
theorem lq{u:HO}(e:H a=some u)(hu:PH u=false):oy h S H a=some u:=by rw [HL (fun v z=>by rw [e] at z; cases z; exact hu)]; exact e
theorem rO:Kp H (oy h S H):=⟨fun a xs e=>lq e rfl,fun a o u e=>lq e rfl⟩
end
section
variable {X:Cx} {pins:List (Addr×Obj)} {σ:L2.St} {H:Hp} {s:av} {G:Gp}
theorem Inv.freeze(I : Inv X pins σ H s)(S : Addr -> Bool) : Inv X pins σ (oy s.heap S H) s where
  ok := I.ok
  os := I.os
  bare := I.bare
  base := { keep := I.base.keep, slot := I.base.slot, there := I.base.there
            free := fun b o q n hx => ox (I.base.free b o q n hx)
            zM := fun b xs q => lq (I.base.zM b xs q) rfl
            yP := fun b o u q => lq (I.base.yP b o u q) rfl
            zP := fun b ps q => lq (I.base.zP b ps q) rfl
            zT := fun b x q => lq (I.base.zT b x q) rfl }
  loc := I.loc
  cell := I.cell
  free := ox I.free
  pQ := fun x c e => ox (I.pQ x c e)
  pin := fun p hp => let ⟨h1, h2, h3⟩ := I.pin p hp; ⟨h1, ox h2, h3⟩
  cp := fun a o q => by
    have st : ∀ u, H a = some u -> fG X.prog X.w (oy s.heap S H) s.heap a u := fun u e =>
      (I.cp a u e).lU (fun b v _ r => r) (fun b r => lq r rfl) (fun b xs r => lq r rfl)
    cases e : H a with
    | none => rw [ox e] at q; cases q
    | some u =>
      by_cases hc : PH u = true
      · by_cases hs : S a = true
        · obtain⟨ob, ho⟩ := lE (I.cp a _ e)
          rw [uS hs e hc ho] at q;cases q;exact⟨ho, st _ e⟩
        · rw [yQ (by simpa using hs), e] at q
          cases q;exact st _ e
      · rw [lq e (by simpa using hc)] at q
        cases q;exact st _ e
  len := I.len
noncomputable def nX(R:Nat->Bool)(G:Gp):Addr->Bool:=fun a=>R a&&(G a).isSome
theorem Bj(I:Inv X pins σ H s)(ab:kN X.K H G)(R:Nat->Bool):Mv X.K H G (oy s.heap (nX R G) H) (Aa R G) where
 keep:=fun a o e n=>by
  refine⟨by rw [yQ (by simp [nX,n])]; exact e,?_⟩;unfold Aa; split
  ·rfl
  ·exact n
 lU:=fun a n=>by
  cases q:G a with
  | none=>exact absurd q n
  | some g =>
   have t:=(ab a g q).tracked;cases e:H a with
   | none=>exact absurd e t
   | some u =>
    unfold oy;rw [e];dsimp only;split
    ·split <;> simp
    ·simp
 ab:=fun a g e=>by
  unfold Aa at e;split at e
  ·cases e
  ·rename_i hr;exact(ab a g e).mono rO (yQ (by simp [nX,hr]))
theorem O6(I:Inv X pins σ H s)(ab:kN X.K H G){R:Nat->Bool}:∀ {d t:D} {v:V},Fz G R d t->bW X.K H v d->bW X.K (oy s.heap (nX R G) H) v t:=by
 intro d t v h;revert v;refine Fz.rec (motive_1:=fun d t _=>∀ {v:V},bW X.K H v d->bW X.K (oy s.heap (nX R G) H) v t)
  (motive_2:=fun ds ts _=>∀ {vs:List V},ba X.K H vs ds->ba X.K (oy s.heap (nX R G) H) vs ts)
  (motive_3:=fun ds ts _=>(∀ {vs:List (Key×V)},lI X.K H vs ds->lI X.K (oy s.heap (nX R G) H) vs ts)/\∀ {vs:List (List Key×V)},ly X.K H vs ds->ly X.K (oy s.heap (nX R G) H) vs ts)
  ?_ ?_ ?_ ?_ ?_ ?_ ?_ ?_ ?_ ?_ h
 ·intro d v r; exact r.mono rO
 ·intro ds ss _ ih v r;cases r with
  | tup h rs=>exact .tup (rO.tup _ _ h) (ih rs)
 ·intro ds ss _ ih v r;cases r with
  | dJ h rs=>exact .dJ (rO.TK h) (ih rs)
 ·intro a ds ss g hr _ ih v r;cases r;obtain⟨vs,hv,rs⟩:=ab a _ g;obtain⟨ob,ho⟩:=lE (I.cp a _ hv);exact .dJ (.inl ⟨_,uS (by simp [nX,hr,g]) hv rfl ho⟩) (ih rs)
 ·intro a ds ss g hr _ ih v r;cases r;rcases ab a _ g with ⟨kv,hv,rs⟩ | ⟨kv,hv,rs⟩
  ·obtain⟨ob,ho⟩:=lE (I.cp a _ hv);exact .oW (uS (by simp [nX,hr,g]) hv rfl ho) (ih.1 rs)
  ·obtain⟨ob,ho⟩:=lE (I.cp a _ hv);exact .oV (uS (by simp [nX,hr,g]) hv rfl ho) (ih.2 rs)
 ·intro a kvs SO g hr _ ek ih v r;cases r;obtain⟨xs,ks,vs,hv,rel,r1,r2⟩:=ab a _ g;obtain⟨ob,ho⟩:=lE (I.cp a _ hv);have e2:(SO.map fun p=>pM p.1)=kvs.map fun p=>pM p.1:=by
   have:=congrArg (List.map pM) ek;rw [bC,bC] at this;exact this.symm
  exact .nY (uS (by simp [nX,hr,g]) hv rfl ho) ⟨ek.symm.trans rel.1,rel.2⟩ (by rw [e2]; exact r1.mono rO) (ih r2)
 ·intro vs r; cases r; exact .nil
 ·intro d s ds ss _ _ i1 i2 vs r;cases r with
  | cons r rs=>exact .cons (i1 r) (i2 rs)
 ·exact⟨fun r=>by cases r; exact .nil,fun r=>by cases r; exact .nil⟩
 ·intro k d s ds ss _ _ i1 i2;exact⟨fun r=>by cases r with | cons r rs=>exact .cons (i1 r) (i2.1 rs),fun r=>by cases r with | cons r rs=>exact .cons (i1 r) (i2.2 rs)⟩
variable {e:Expr} {te:fx} {st:Stmt} {t:iP}
theorem bE(he:fy X e te):fy X e (d4 te):=by
 intro E pins s σ H τ G Q hE I h;refine fZ (he E pins s σ H τ G _ hE I h) ?_;rintro u s1 ⟨v,H1,d,G1,I1,m,r,rd,R,t,hf,q⟩;exact⟨v,_,t,_,Inv.freeze I1 _,m.trans (Bj I1 m.ab R),r,O6 I1 m.ab hf rd,q⟩
theorem B9{i:Nat}(h1:FU X st t):FU X st (Ij i t):=by
 intro E pins s σ H τ G D hE I h;refine fZ (h1 E pins s σ H τ G _ hE I h) fun f s1 z=>?_;cases f with
 | next =>
  obtain⟨ju,H',pX,G',I',m,q⟩:=z;simp only at q;split at q
  ·rename_i d hd;obtain⟨R,t,hf,q⟩:=q;obtain⟨v,hv,rv⟩:=I'.st.at' i d hd;have a1:=(I'.st.mono (H':=oy s1.heap (nX R G') H') rO).set i (O6 I'.inv I'.ab hf rv);have es:ju.set i (some v)=ju:=by
    have hi:i < ju.length:=(List.getElem?_eq_some_iff.mp hv).1;have e2:=(List.getElem?_eq_some_iff.mp hv).2;rw [<-e2]; exact List.set_getElem_self hi
   rw [es] at a1;have m2:=Bj I'.inv I'.ab R;exact⟨ju,_,_,_,⟨Inv.freeze I'.inv _,a1,m2.ab⟩,m.trans m2,q⟩
  ·exact q.elim
 | ret v=>exact z
 | brk=>exact z
 | cont=>exact z
end
theorem Iz:du "len" = some (.builtin "len"):=by decide +kernel
theorem Vq:du "min" = some (.builtin "min"):=by decide +kernel
theorem Bu:du "sorted" = some (.builtin "sorted"):=by decide +kernel
theorem RZ:du "list" = some (.type "list"):=by decide +kernel
theorem PW:du "tuple" = some (.type "tuple"):=by decide +kernel
theorem Di:du "dict" = some (.type "dict"):=by decide +kernel
theorem Vr:du "int" = some (.type "int"):=by decide +kernel
theorem R0:du "bool" = some (.type "bool"):=by decide +kernel
end K2
end
section
namespace L2
open PySem PySem.Spec PyProof.Rows
section
variable {X:Cx} {pins:List (Addr×Obj)} {σ:St} {H:Hp} {s:av} {h':Heap}
theorem Inv.mU{t':Nat}{fp:List Addr}(I:Inv X pins σ H s)(hf:∀ b∈fp,mz X pins H b)(k:∀ b o,b∉fp->s.heap.get? b=some o->h'.get? b=some o):Inv X pins σ H { s with heap:=h',toks:=t' }:=by
 have nt:∀ b u,H b=some u->b∉fp:=fun b u e z=>by rw [(hf b z).1] at e; cases e
 refine I.step (g':=s.gens) (d':=s.drawn) (ch:=fp) (fun b hb=>?_) (fun b o _ _ hc e _=>k b o hc e) (fun b o _ _ hc e _=>⟨o.slots,k b o hc e⟩) (fun _ _ _ _ n=>n)
  (fun b o hc e=>⟨o,k b o hc e⟩) (fun _ _ e=>e) (fun _ _ _ e=>e) (fun _ _ e=>e) (fun _ _ e=>e) (fun m hm=>?_) (fun b u e=>?_) I.bare
 ·obtain⟨f0,f1,f2,f3,f4,f5⟩:=hf b hb;exact⟨f3,f1,f4,f5⟩
 ·obtain⟨o,es,ep,ho,r⟩:=hm;exact⟨o,es,ep,k _ _ (fun z=>(hf _ z).2.1 rfl) ho,r⟩
 ·refine(I.cp b u e).lU (fun c v hc r=>k c v ?_ r) (fun _ z=>z) (fun _ _ z=>z);rcases hc with rfl | hc
  ·exact nt _ _ e
  ·exact nt _ _ hc
theorem Inv.t8{t':Nat}{fp:List Addr}{T:Addr}{vs:List V}(I:Inv X pins σ H s)(hf:∀ b∈fp,mz X pins H b)(k:∀ b o,b∉fp->s.heap.get? b=some o->h'.get? b=some o)(hT:s.heap.objs.size<=T)
  (new:fG X.prog X.w (upd H T (.tup vs)) h' T (.tup vs)):Inv X pins σ (upd H T (.tup vs)) { s with heap:=h',toks:=t' }:=by
 have hn:H T=none:=I.cp.fresh hT;have ht:∀ b o,s.heap.get? b=some o->b≠T:=fun b o e z=>by subst z; exact absurd (aN e) (Nat.not_lt.mpr hT)
 have nt:∀ b u,H b=some u->b∉fp:=fun b u e z=>by rw [(hf b z).1] at e; cases e
 have ne:∀ b u,H b=some u->b≠T:=fun b u e=>dj e hn;refine I.step (g':=s.gens) (d':=s.drawn) (ch:=fp) (fun b hb=>?_) (fun b o _ _ hc e _=>k b o hc e) (fun b o _ _ hc e _=>⟨o.slots,k b o hc e⟩) (fun b o _ e n=>by rw [bO (ht b o e)]; exact n)
  (fun b o hc e=>⟨o,k b o hc e⟩) (fun b xs e=>by rw [bO (ne _ _ e)]; exact e) (fun b o u e=>by rw [bO (ne _ _ e)]; exact e) (fun b ps e=>by rw [bO (ne _ _ e)]; exact e) (fun b ps e=>by rw [bO (ne _ _ e)]; exact e) (fun m hm=>?_) (fun b u e=>?_) I.bare
 ·obtain⟨f0,f1,f2,f3,f4,f5⟩:=hf b hb;exact⟨f3,f1,f4,f5⟩
 ·obtain⟨o,es,ep,ho,r⟩:=hm;exact⟨o,es,ep,k _ _ (fun z=>(hf _ z).2.1 rfl) ho,r⟩
 ·by_cases hb:b=T
  ·subst hb; rw [bU] at e; cases e; exact new
  ·rw [bO hb] at e;refine(I.cp b u e).lU (fun c v hc r=>k c v ?_ r) (fun c z=>by rw [bO (ne _ _ z)]; exact z) (fun c xs z=>by rw [bO (ne _ _ z)]; exact z);rcases hc with rfl | hc
   ·exact nt _ _ e
   ·exact nt _ _ hc
theorem mz.upd{b T:Addr}{o:HO}(h:mz X pins H b)(hb:b≠T):mz X pins (L2.upd H T o) b:=by
 obtain⟨f0,r⟩:=h;exact⟨by rw [bO hb]; exact f0,r⟩
end
end L2
namespace K2
open PySem PySem.Spec PyProof.Rows L2
section
variable {X:Cx} {elts:List Expr} {kk:Nat} {t9:Pos} {a b:Expr} {ta tb:fx} {pos p:Pos}
theorem ve:du "enumerate" = some (.type "enumerate"):=by decide +kernel
theorem Vp:du "zip" = some (.type "zip"):=by decide +kernel
end
end K2
end
section
namespace K2
open PySem PySem.Spec PyProof.Rows L2
section
variable {X:Cx} {o i a b:Expr} {to ti ta tb:fx} {pos p:Pos}
theorem jM(hu:X.A.units+64 < cLine)(ho:fy X o to)(hi:fy X i ti)
  (ha:autoParam (∀ v,IL (.Subscript o i pos) X.env v=(do
   let ov ← Ga [v] (eval o X.env)
   let iv ← Ga [v,ov] (eval i X.env)
   standAt pos
   Ga [v,ov,iv] (setItem ov iv v)
   release [v,ov,iv] [])) Ai._auto_1):Mm X (.Subscript o i pos) (lj to ti):=by
 intro E pins s σ H τ G w d u Q hE I r rd h;rw [ha];refine ag (cS (i4 ho hE I h fun x H1 dx G1 ov s1 I1 m1 r1 iI q1=>?_));refine ag (cS (i4 hi hE I1 q1 fun y H2 dy G2 iv s2 k6 m2 r2 wG q2=>?_));refine ag (vt (ag (cS ?_)));have FN:=m1.trans m2;have VE:=rd.mono (FN.kp I.ab);have zQ:=I.st.mono (FN.kp I.ab);have YU:=iI.mono (m2.kp I1.ab);unfold AG at q2;split at q2
 ·rename_i l;cases YU;cases r1;split at q2
  ·rename_i xs hg;obtain⟨vs,hv,rs⟩:=k6.ab.lst hg;split at q2
   ·rename_i k;cases wG;split at q2
    ·rename_i j hj;have m3:Mv X.K H2 G2 (upd H2 l (.lst (vs.set j w))) (cT G2 l (.lst (xs.set j d))):=.putL k6.ab hg hv (rs.set VE j);refine fZ (set_list pins s2 σ H2 (.ref l) (.int k) w _ _ _ (fun H3=>H3=upd H2 l (.lst (vs.set j w))) k6.inv rfl r2 r ⟨l,vs,k,j,rfl,rfl,hv,?_,rfl⟩) ?_
     ·rw [rs.length]; exact hj
     ·rintro _ s3 ⟨H3,I3,e3⟩;subst e3;exact wpAny_release ⟨σ,_,τ,_,⟨I3,zQ.mono (m3.kp k6.ab),m3.ab⟩,FN.trans m3,q2⟩
    ·exact q2.elim
   ·exact q2.elim
  ·rename_i kvs hg;obtain⟨hk,hz,q⟩:=q2;obtain⟨H3,H4,I3,dp,m3⟩:=Pq k6.inv k6.ab hg hk hz wG VE;exact Ma (by lia) I3 dp r2 r fun s4 I4=>wpAny_release ⟨σ,H4,τ,_,⟨I4,zQ.mono (m3.kp k6.ab),m3.ab⟩,FN.trans m3,q⟩
  ·exact q2.elim
 ·exact q2.elim
end
end K2
end
section
namespace L2
open PySem PySem.Spec PyProof.Rows
theorem ud{X:Cx}{pins:List (Addr×Obj)}{σ:St}{H:Hp}{s:av}{l b:Addr}{xs:List V}(I:Inv X pins σ H s)(hq:oK X.K H l xs)(hf:mz X pins H b):l≠b:=by
 rintro rfl;obtain⟨f0,f1,f2,f3,f4,f5⟩:=hf;rcases hq with (h | ⟨o,h⟩) | ⟨o,bG,n,h,_⟩
 ·rw [f0] at h; cases h
 ·rw [f0] at h; cases h
 ·have hb:=I.ok.mod.Yd _ _ h;rcases f3 with f3 | f3
  ·exact I.ok.Lu _ _ hb f3
  ·exact absurd (aN (I.ok.bs _ _ hb).1) (Nat.not_lt.mpr f3)
noncomputable def Itz(K:ai)(a b:Addr):It :=
  ⟨fun i H=>∃ xs x ys y,oK K H a xs/\xs[i]?=some x/\oK K H b ys/\ys[i]?=some y,
   fun i H v H'=>∃ T x y,v=.ref T/\H T=none/\H'=upd H T (.tup [x,y])/\(∀ xs,oK K H a xs->xs[i]?=some x)/\∀ ys,oK K H b ys->ys[i]?=some y,
   fun i H=>∃ xs ys,oK K H a xs/\oK K H b ys/\(xs.length<=i\/ys.length<=i)⟩
structure XI(z TI TO i1 i2 a b:Addr)(i:Nat)(h:Heap):Prop where
 hz:IsZip h z TI TO .none
 hI:IsPair h TI (.ref i1) (.ref i2)
 hO:∃ x y,IsPair h TO x y
 h1:h.IsListIter i1 a i
 h2:h.IsListIter i2 b i
theorem M1{P:bz}{w:World}{K:ai}{elts:List Expr}{kk:Nat}{pos:Pos}(a b z TI TO i1 i2:Addr)(nd:[z,TI,TO,i1,i2].Nodup) :
  Turn P w K (.Tuple elts kk pos) (Itz K a b) [z,TI,TO,i1,i2] z (XI z TI TO i1 i2 a b) where
 mem:=by simp
 obj:=fun i h st c hc=>by
  simp only [a9,bI,or_false] at hc;rcases hc with rfl | rfl | rfl | rfl | rfl
  ·exact⟨_,st.hz,fun v q=>by cases q⟩
  ·exact⟨_,st.hI,fun v q=>by cases q⟩
  ·obtain⟨x,y,h⟩:=st.hO; exact⟨_,h,fun v q=>by cases q⟩
  ·obtain⟨o,e,_,d⟩:=st.h1; exact⟨o,e,fun v q=>by rw [d] at q; cases q⟩
  ·obtain⟨o,e,_,d⟩:=st.h2; exact⟨o,e,fun v q=>by rw [d] at q; cases q⟩
 keep:=fun i h h' st k=>⟨k _ (by simp) _ st.hz,k _ (by simp) _ st.hI,let ⟨x,y,q⟩:=st.hO; ⟨x,y,k _ (by simp) _ q⟩,st.h1.at fun o q=>k _ (by simp) o q,st.h2.at fun o q=>k _ (by simp) o q⟩
 item:=by
  intro X hP hw hK hc i pins s σ H E I hf st hg;subst hP hw hK;obtain⟨xs,x,ys,y,SW,hx,SV,hy⟩:=hg;obtain⟨OJ,VD,p1,hz1⟩:=I.list SW;obtain⟨sf,K9,p2,ZA⟩:=I.list SV;obtain⟨u1,Yi,GP⟩:=VD.get hx;obtain⟨u2,WU,GN⟩:=K9.get hy;obtain⟨xo,yo,hO⟩:=st.hO;have ap:∀ c∈[z,TI,TO,i1,i2],a≠c/\b≠c:=fun c hc=>⟨ud I SW (hf c hc),ud I SV (hf c hc)⟩;simp only [aQ,a9,bI,or_false,not_or] at nd;obtain⟨⟨n1,n2,n3,n4⟩,⟨n5,n6,n7⟩,⟨n8,n9⟩,Zm,_⟩:=nd;have Dz:ZipApart z TI TO i1 i2 a b:=⟨da n1,da n2,da n3,da n4,n5,n6,n7,n8,n9,Zm,(ap z (by simp)).1,(ap TO (by simp)).1,(ap i1 (by simp)).1,(ap i2 (by simp)).1,(ap z (by simp)).2,(ap TO (by simp)).2,(ap i1 (by simp)).2,(ap i2 (by simp)).2⟩;have RL:H s.heap.objs.size=none:=I.cp.fresh (aB _);have inH:∀ c∈[z,TI,TO,i1,i2],c≠s.heap.objs.size:=fun c hc=>by
   simp only [a9,bI,or_false] at hc;rcases hc with rfl | rfl | rfl | rfl | rfl
   ·exact bh (aN st.hz)
   ·exact bh (aN st.hI)
   ·exact bh (aN hO)
   ·obtain⟨o,e,_⟩:=st.h1; exact bh (aN e)
   ·obtain⟨o,e,_⟩:=st.h2; exact bh (aN e)
  refine wpAny_pyNext_zip_item Dz st.hz st.hI hO st.h1 st.h2 p1.isList p2.isList (x:=u1) (y:=u2) (by simpa using Yi) (by simpa using WU) fun h' a1 a2 a3 a4 a5 a6 a7=>?_;refine⟨_,rfl,?_⟩;have k1:∀ c o,c∉[z,TI,TO,i1,i2]->s.heap.get? c=some o->h'.get? c=some o:=fun c o hc q =>
   a7 c o (fun e=>hc (by simp [e])) (fun e=>hc (by simp [e])) (fun e=>hc (by simp [e])) (fun e=>hc (by simp [e])) q
  have I1:Inv X pins σ (upd H s.heap.objs.size (.tup [x,y])) { s with heap:=h' } :=
   I.t8 (t':=s.toks) (fp:=[z,TI,TO,i1,i2]) hf k1 (aB _) ⟨by show 2<=aY; decide,[u1,u2],.cons GP (.cons GN .nil),⟨_,a5,rfl,_,rfl⟩⟩
  refine wpAny_letOwnedTupleGo_zip (s:={ s with heap:=h' }) a1 fun h2 ZA zE=>?_;have f1:∀ c∈[z,TI,TO,i1,i2],mz X pins (upd H s.heap.objs.size (.tup [x,y])) c:=fun c hc=>(hf c hc).upd (inH c hc);have I2:Inv X pins σ (upd H s.heap.objs.size (.tup [x,y])) { s with heap:=h2 } :=
   Inv.mU (s:={ s with heap:=h' }) (t':=s.toks) (fp:=[z,TI,TO,i1,i2]) I1 f1 fun c o hc q=>(zE.2 c (fun e=>hc (by simp [e]))).trans q
  have hI':IsPair h' TI (.ref i1) (.ref i2):=a7 TI _ (da n1) n5 n6 n7 st.hI;refine⟨.ref s.heap.objs.size,_,I2,rfl,⟨_,x,y,rfl,RL,rfl,fun zs hs=>by rw [I.uH hs SW]; exact hx,fun zs hs=>by rw [I.uH hs SV]; exact hy⟩,⟨ZA,?_,⟨u1,u2,?_⟩,?_,?_⟩,fun c hc=>(f1 c hc).1⟩
  ·exact(zE.2 TI (da n1)).trans hI'
  ·exact(zE.2 TO (da n2)).trans a2
  ·exact a3.at fun o q=>(zE.2 i1 (da n3)).trans q
  ·exact a4.at fun o q=>(zE.2 i2 (da n4)).trans q
 done:=by
  intro X hP hw hK hc i pins s σ H E I hf st hg;subst hP hw hK;obtain⟨xs,ys,SW,SV,hx⟩:=hg;obtain⟨OJ,VD,p1,hz1⟩:=I.list SW;obtain⟨sf,K9,p2,ZA⟩:=I.list SV;have hl1:=VD.length;have Bb:=K9.length;obtain⟨xo,yo,hO⟩:=st.hO;have ap:∀ c∈[z,TI,TO,i1,i2],a≠c/\b≠c:=fun c hc=>⟨ud I SW (hf c hc),ud I SV (hf c hc)⟩;simp only [aQ,a9,bI,or_false,not_or] at nd;obtain⟨⟨n1,n2,n3,n4⟩,⟨n5,n6,n7⟩,⟨n8,n9⟩,Zm,_⟩:=nd;have Dz:ZipApart z TI TO i1 i2 a b:=⟨da n1,da n2,da n3,da n4,n5,n6,n7,n8,n9,Zm,(ap z (by simp)).1,(ap TO (by simp)).1,(ap i1 (by simp)).1,(ap i2 (by simp)).1,(ap z (by simp)).2,(ap TO (by simp)).2,(ap i1 (by simp)).2,(ap i2 (by simp)).2⟩;refine wpAny_pyNext_zip_end (I.ok.hd hc) Dz st.hz st.hI hO st.h1 st.h2 p1.isList p2.isList (by
   rcases hx with hx | hx
   ·left; simp; lia
   ·right; simp; lia) fun h' k1=>⟨rfl,?_⟩
  exact I.mU (t':=s.toks) (fp:=[z,TI,TO,i1,i2]) hf fun c o hc q=>k1 c o (fun e=>hc (by simp [e])) (fun e=>hc (by simp [e])) (fun e=>hc (by simp [e])) (fun e=>hc (by simp [e])) q
 self:=fun A i s Q E st h=>wpAny_pyIter_zip st.hz h
end L2
namespace K2
open PySem PySem.Spec PyProof.Rows L2
section
variable {X:Cx} {elts:List Expr} {kk:Nat} {t9:Pos} {a b:Expr} {ta tb:fx} {pos p:Pos}
theorem EF{pins:List (Addr×Obj)}{s:av}{σ:L2.St}{H:Hp}{G:Gp}{x:V}{d:D}{v:Value}{ds:List D}{ok:Gp->Prop}(I:Inv X pins σ H s)(ab:kN X.K H G)(rx:RelV x v)(rd:bW X.K H x d)(hi:uE d G=some (ds,ok)) :
  ∃ l vs,v=.ref l/\oK X.K H l vs/\ba X.K H vs ds/\∀ H2 G2,Kp H H2->kN X.K H2 G2->ok G2->∃ ws,oK X.K H2 l ws/\ba X.K H2 ws ds:=by
 cases rd with
 | dJ hq rs=>cases hi; cases rx; exact⟨_,_,rfl,hq.sq,rs,fun H2 G2 k ab _=>⟨_,(k.TK hq).sq,rs.mono k⟩⟩
 | ref l =>
  unfold uE at hi;dsimp only at hi;cases hg:G l with
  | none=>rw [hg] at hi; cases hi
  | some gg =>
   rw [hg] at hi;cases gg with
   | lst zs =>
    cases hi;cases rx;obtain⟨vs,hv,rs⟩:=ab.lst hg;refine⟨_,_,rfl,.of hv,rs,fun H2 G2 k ab o=>?_⟩;obtain⟨ws,hw,oI⟩:=ab.lst o;exact⟨ws,.of hw,oI⟩
   | ins _ _=>cases hi
   | qT _=>cases hi
   | eV _=>cases hi
 | _=>cases hi
theorem Jz (hg:Gl X "zip") (hm:X.mg "zip" = none) (ha:fy X a ta) (hb:fy X b tb) (hs:autoParam (bS [a,b] X.env=[(false,eval a X.env),(false,eval b X.env)]) Ar._auto_1) (zE:autoParam (bS [b] X.env=[(false,eval b X.env)]) Ar._auto_1) :
  ID X (.Tuple elts kk t9) (.Call (.Name "zip" p) [a,b] [] pos) (OQ ta tb):=by
 intro E pins s σ H τ G R hE I h;have hA:BA X [a,b] (ar ta (ar tb aT)):=cJ ha (cJ hb fT zE) (by rw [hs,zE]);refine Call_ (nI I.inv hg hm Vp (dN (zO hA pos hE I (R:=Y9 fun x y G1=>tE x y G1 R) h fun vs H1 ds G1 us s1 I1 m1 r1 iI q1=>?_) (by rw [hs,zE]) (by rw [zE]; rfl)))
 match ds,q1 with
 | [x,y],q1 =>
  change tE x y G1 R at q1;obtain⟨w1,w2,rfl,x3,Nr⟩:=iI.two;obtain⟨u1,u2,rfl,GP,GN⟩:=vals2 r1;unfold tE at q1;split at q1
  ·rename_i xs k1 ys k2 e1 e2;obtain⟨l1,v1,rfl,SW,rs1,st1⟩:=EF I1.inv I1.ab GP x3 e1;obtain⟨l2,v2,rfl,SV,Jo,Qn⟩:=EF I1.inv I1.ab GN Nr e2;obtain⟨OJ,VD,pl1,_⟩:=I1.inv.list SW;obtain⟨sf,K9,pl2,_⟩:=I1.inv.list SV;refine call_zip_2 pl1.isList pl2.isList fun h' z1 z2 z3 z4 z5 z6 z7=>?_;refine wpAny_pyIter_zip z1 ?_;refine⟨_,[s1.heap.objs.size+4,s1.heap.objs.size+2,s1.heap.objs.size+3,s1.heap.objs.size,s1.heap.objs.size+1],_,_,H1,G1,oO xs ys,_,rfl,I1.inv.kept (t':=s1.toks) z7,m1,
    M1 l1 l2 _ _ _ _ _ (by simp),⟨z1,z2,⟨_,_,z3⟩,z4,z5⟩,fun c hc=>?_,fun i H2 G2 k ab o=>?_,q1⟩
   ·have S6:s1.heap.objs.size<=c:=by
     simp only [a9,bI,or_false] at hc;rcases hc with rfl | rfl | rfl | rfl | rfl
     ·exact j3 _ _
     ·exact j3 _ _
     ·exact j3 _ _
     ·exact aB _
     ·exact j3 _ _
    exact I1.inv.yR S6 (I1.inv.cp.fresh S6)
   ·obtain⟨XZ,ZJ,iI⟩:=st1 H2 G2 k ab o.1;obtain⟨YE,Yh,wG⟩:=Qn H2 G2 k ab o.2;refine⟨fun d hd=>?_,fun hl=>⟨XZ,YE,ZJ,Yh,?_⟩⟩
    ·rw [DQ] at hd;cases hx:xs[i]? with
     | none=>rw [hx] at hd; cases hd
     | some x' =>
      cases hy:ys[i]? with
      | none=>rw [hx,hy] at hd; cases hd
      | some y' =>
       rw [hx,hy] at hd;have ed:D.tup [x',y']=d:=by simpa using hd
       subst ed;obtain⟨vx,hvx,rx⟩:=iI.get hx;obtain⟨vy,hvy,ry⟩:=wG.get hy;refine⟨⟨XZ,vx,YE,vy,ZJ,hvx,Yh,hvy⟩,?_⟩;rintro v H3 ⟨T,px,py,ex,hT,e3,hx3,hy3⟩;subst ex e3;have q1:=hx3 XZ ZJ;have q2:=hy3 YE Yh;rw [hvx] at q1;rw [hvy] at q2;cases q1; cases q2;exact⟨.tup bU (.cons (rx.mono (.new hT)) (.cons (ry.mono (.new hT)) .nil)),.J9 ab hT⟩
    ·rw [DP] at hl;rw [iI.length,wG.length];lia
  ·exact q1.elim
 | [],q1=>exact q1.elim
 | [_],q1=>exact q1.elim
 | _ :: _ :: _ :: _,q1=>exact q1.elim
end
end K2
end
section
namespace K2
open PySem PySem.W PyProof.Rows
noncomputable def gZ{α:Type}(lt:Nat->Nat->Bool):KasT α->α
 | .ret a=>a
 | .ask i j k=>gZ lt (k (lt i j))
theorem lB{α β:Type}(lt:Nat->Nat->Bool)(f:α->KasT β):∀ t:KasT α,gZ lt (t.bind f)=gZ lt (f (gZ lt t))
 | .ret _=>rfl
 | .ask i j k=>lB lt f (k (lt i j))
noncomputable abbrev gA(p:Array Nat)(k:Nat):Nat:=p.getD k 0
theorem Bh(p:Array Nat)(k:Nat):gA p k=(p[k]?).getD 0:=by
 unfold gA; rw [Array.getD_eq_getD_getElem?]
structure Mk(lt:Nat->Nat->Bool):Prop where
 asymm:∀ i j,lt i j=true->lt j i=false
 trans:∀ i j k,lt j i=false->lt k j=false->lt k i=false
theorem Mk.refl{lt:Nat->Nat->Bool}(w:Mk lt)(i:Nat):lt i i=false:=by
 cases h:lt i i with
 | false=>rfl
 | true=>rw [w.asymm _ _ h] at h; cases h
noncomputable def Up(lt:Nat->Nat->Bool)(p:Array Nat)(m:Nat):Prop:=∀ i j,i<=j->j < m->lt (gA p j) (gA p i)=false
noncomputable def Dn(lt:Nat->Nat->Bool)(p:Array Nat)(m:Nat):Prop:=∀ i j,i<=j->j < m->lt (gA p i) (gA p j)=false
section
variable {lt:Nat->Nat->Bool}
theorem Up.more(w:Mk lt){p:Array Nat}{n m:Nat}(h1:1<=n)(h:Up lt p n)(hs:∀ k,n<=k->k < m->lt (gA p k) (gA p (k - 1))=false):Up lt p m:=by
 intro i j ME hjm;induction j with
 | zero =>
  have:i=0:=by lia
  subst this; exact w.refl _
 | succ j ih =>
  by_cases hj:j+1 < n
  ·exact h i (j+1) ME hj
  ·by_cases e:i=j+1
   ·subst e; exact w.refl _
   ·have h1:=ih (by lia) (by lia);have h2:=hs (j+1) (by lia) hjm;exact w.trans _ _ _ h1 h2
theorem Jn(p:Array Nat):∀ (f n:Nat),n<=gZ lt (qk p f n)/\gZ lt (qk p f n)<=n+f/\(∀ k,n<=k->k < gZ lt (qk p f n)->lt (gA p k) (gA p (k - 1))=false) /\
  (gZ lt (qk p f n) < n+f->lt (gA p (gZ lt (qk p f n))) (gA p (gZ lt (qk p f n) - 1))=true):=by
 intro f;induction f with
 | zero=>intro n; exact⟨aB _,aB _,fun k h1 h2=>absurd (show k < n from h2) (by lia),fun h=>absurd (show n < n+0 from h) (by lia)⟩
 | succ f ih =>
  intro n;have e:gZ lt (qk p (f+1) n)=if lt (gA p n) (gA p (n - 1))=true then n else gZ lt (qk p f (n+1)):=by
   show gZ lt (if lt (gA p n) (gA p (n - 1))=true then vE n else qk p f (n+1))=_;split <;> rfl
  rw [e];by_cases c:lt (gA p n) (gA p (n - 1))=true
  ·rw [if_pos c];exact⟨aB _,by lia,fun k h1 h2=>absurd h2 (by lia),fun _=>c⟩
  ·rw [if_neg c];obtain⟨h1,h2,h3,h4⟩:=ih (n+1);refine⟨by lia,by lia,fun k k1 k2=>?_,fun h=>h4 (by lia)⟩;by_cases e:k=n
   ·subst e; simpa using c
   ·exact h3 k (by lia) k2
theorem gX{p:Array Nat}{i j:Nat}(hj:j<=p.size)(k:Nat):gA (gi p i j) k=if i<=k/\k < j then gA p (i+j - 1 - k) else gA p k:=by
 rw [Bh,gi,getElem?_mirror_all hj];split <;> rw [Bh]
theorem lW(p:Array Nat)(i j:Nat):(gi p i j).size=p.size:=mirror_size _ _ _ _
theorem jI(p:Array Nat)(i j:Nat):(gi p i j).Perm p:=mirror_perm _ _ _ _
theorem Dn.rev{p:Array Nat}{a n:Nat}(w:Mk lt)(hn:n<=p.size)(h:Dn lt p n)(he:∀ k,a<=k->k < n->lt (gA p (n - 1)) (gA p k)=false):Dn lt (gi p a n) n:=by
 intro i j ME W8;rw [gX hn,gX hn];by_cases hi:a<=i
 ·rw [if_pos ⟨hi,by lia⟩,if_pos ⟨by lia,W8⟩];exact w.trans _ _ _ (he (a+n - 1 - j) (by lia) (by lia)) (h (a+n - 1 - i) (n - 1) (by lia) (by lia))
 ·rw [if_neg (by lia)];by_cases hj:a<=j
  ·rw [if_pos ⟨hj,W8⟩];exact h i (a+n - 1 - j) (by lia) (by lia)
  ·rw [if_neg (by lia)];exact h i j ME W8
noncomputable def Eqs(lt:Nat->Nat->Bool)(p:Array Nat)(n q:Nat):Prop:=q+1<=n/\∀ k,n - (q+1)<=k->k < n->lt (gA p (n - 1)) (gA p k)=false
theorem Dn.one(w:Mk lt){p:Array Nat}{n:Nat}(h1:1<=n)(h:Dn lt p n)(hc:lt (gA p (n - 1)) (gA p n)=false):Dn lt p (n+1):=by
 intro i j ME hj;by_cases e:j=n
 ·subst e;by_cases e2:i=j
  ·subst e2; exact w.refl _
  ·exact w.trans _ _ _ hc (h i (j - 1) (by lia) (by lia))
 ·exact h i j ME (by lia)
theorem Nu(w:Mk lt):∀ (f:Nat) (p:Array Nat) (n q:Nat),n+f<=p.size->Dn lt p n->Eqs lt p n q->∃ p' n' q',gZ lt (kH f p n q)=(p',n',q')/\p'.Perm p/\p'.size=p.size/\n<=n'/\n'<=n+f/\Dn lt p' n'/\Eqs lt p' n' q':=by
 intro f;induction f with
 | zero=>intro p n q _ hd he; exact⟨p,n,q,rfl,mE _,rfl,aB _,aB _,hd,he⟩
 | succ f ih =>
  intro p n q hs hd he;have h1:1<=n:=by have:=he.1; lia
  have e:gZ lt (kH (f+1) p n q)=if lt (gA p n) (gA p (n - 1))=true then (if q > 0 then gZ lt (kH f (gi p (n - (q+1)) n) (n+1) 0) else gZ lt (kH f p (n+1) 0))
    else if lt (gA p (n - 1)) (gA p n)=true then (p,n,q) else gZ lt (kH f p (n+1) (q+1)):=by
   show gZ lt (if lt (gA p n) (gA p (n - 1))=true then (if q > 0 then kH f (gi p (n - (q+1)) n) (n+1) 0 else kH f p (n+1) 0) else .ask (gA p (n - 1)) (gA p n) fun d=>if d=true then .ret (p,n,q) else kH f p (n+1) (q+1))=_;split
   ·split <;> rfl
   ·show gZ lt (if lt (gA p (n - 1)) (gA p n)=true then vE (p,n,q) else kH f p (n+1) (q+1))=_;split <;> rfl
  rw [e];by_cases c:lt (gA p n) (gA p (n - 1))=true
  ·rw [if_pos c];have ca:=w.asymm _ _ c;by_cases hq:q > 0
   ·rw [if_pos hq];have d1:Dn lt (gi p (n - (q+1)) n) n:=hd.rev w (by lia) he.2;have en:gA (gi p (n - (q+1)) n) n=gA p n:=by rw [gX (by lia),if_neg (by lia)]
    have ca':lt (gA (gi p (n - (q+1)) n) (n - 1)) (gA (gi p (n - (q+1)) n) n)=false:=by
     rw [en,gX (by lia)];split
     ·-- an item of YI X1 is above p n
      exact w.trans _ _ _ ca (hd _ (n - 1) (by lia) (by lia))
     ·exact ca
    obtain⟨p',n',q',z,h2,h3,h4,h5,h6,h7⟩:=ih (gi p (n - (q+1)) n) (n+1) 0 (by rw [lW]; lia) (d1.one w h1 ca') ⟨by lia,fun k k1 k2=>by
     have:k=n:=by lia
     subst this; exact w.refl _⟩
    exact⟨p',n',q',z,h2.trans (jI _ _ _),h3.trans (lW _ _ _),by lia,by lia,h6,h7⟩
   ·rw [if_neg hq];obtain⟨p',n',q',z,h2,h3,h4,h5,h6,h7⟩:=ih p (n+1) 0 (by lia) (hd.one w h1 ca) ⟨by lia,fun k k1 k2=>by
     have:k=n:=by lia
     subst this; exact w.refl _⟩
    exact⟨p',n',q',z,h2,h3,by lia,by lia,h6,h7⟩
  ·rw [if_neg c];have c':lt (gA p n) (gA p (n - 1))=false:=by simpa using c
   by_cases d:lt (gA p (n - 1)) (gA p n)=true
   ·rw [if_pos d];exact⟨p,n,q,rfl,mE _,rfl,aB _,by lia,hd,he⟩
   ·rw [if_neg d];have d':lt (gA p (n - 1)) (gA p n)=false:=by simpa using d
    obtain⟨p',n',q',z,h2,h3,h4,h5,h6,h7⟩:=ih p (n+1) (q+1) (by lia) (hd.one w h1 d') ⟨by have:=he.1; lia,fun k k1 k2=>by
     rw [Nat.add_sub_cancel];by_cases e:k=n
     ·subst e; exact w.refl _
     ·exact w.trans _ _ _ (he.2 k (by lia) (by lia)) c'⟩
    exact⟨p',n',q',z,h2,h3,by lia,by lia,h6,h7⟩
theorem Dn.up{p:Array Nat}{n:Nat}(hn:n<=p.size)(h:Dn lt p n):Up lt (gi p 0 n) n:=by
 intro i j ME W8;rw [gX hn,gX hn,if_pos ⟨by lia,W8⟩,if_pos ⟨by lia,by lia⟩];exact h _ _ (by lia) (by lia)
theorem DX(w:Mk lt){p:Array Nat}{n nrem:Nat}(h1:1<=n)(hn:n<=nrem)(hs:nrem<=p.size)(h:Dn lt p n):∃ p' m,gZ lt (MR n nrem p)=(m,p')/\p'.Perm p/\p'.size=p.size/\n<=m/\m<=nrem/\Up lt p' m:=by
 obtain⟨a1,a2,a3,_⟩:=Jn (lt:=lt) (gi p 0 n) (nrem - n) n;refine⟨gi p 0 n,gZ lt (qk (gi p 0 n) (nrem - n) n),by rw [MR,lB]; rfl,jI _ _ _,lW _ _ _,a1,by lia,?_⟩;exact(h.up (by lia)).more w h1 a3
theorem uf(w:Mk lt){p:Array Nat}{n nrem:Nat}(h1:1<=n)(hn:n < nrem)(hs:nrem<=p.size)(h:Dn lt p n)(hc:lt (gA p (n - 1)) (gA p n)=false) :
  ∃ p' m,gZ lt (xH n nrem p)=(m,p')/\p'.Perm p/\p'.size=p.size/\n<=m/\m<=nrem/\Up lt p' m:=by
 obtain⟨p1,n1,q1,z,z2,z3,z4,z5,z6,z7⟩:=Nu w (nrem - (n+1)) p (n+1) 0 (by lia) (h.one w h1 hc) ⟨by lia,fun k k1 k2=>by
  have:k=n:=by lia
  subst this; exact w.refl _⟩
 rw [xH,lB,z];show ∃ p' m,gZ lt (if q1 > 0 then MR n1 nrem (gi p1 (n1 - (q1+1)) n1) else MR n1 nrem p1)=(m,p')/\_;by_cases hq:q1 > 0
 ·rw [if_pos hq];obtain⟨p',m,y1,y2,y3,y4,y5,y6⟩:=DX (nrem:=nrem) w (p:=gi p1 (n1 - (q1+1)) n1) (by lia) (by lia) (by rw [lW]; lia) (z6.rev w (by lia) z7.2);exact⟨p',m,y1,(y2.trans (jI _ _ _)).trans z2,(y3.trans (lW _ _ _)).trans z3,by lia,y5,y6⟩
 ·rw [if_neg hq];obtain⟨p',m,y1,y2,y3,y4,y5,y6⟩:=DX (nrem:=nrem) w (p:=p1) (by lia) (by lia) (by lia) z6;exact⟨p',m,y1,y2.trans z2,y3.trans z3,by lia,y5,y6⟩
theorem Ld(w:Mk lt){p:Array Nat}{nrem:Nat}(h1:1<=nrem)(hs:nrem<=p.size):∃ p' m,gZ lt (kas_count nrem p)=(m,p')/\p'.Perm p/\p'.size=p.size/\1<=m/\m<=nrem/\Up lt p' m:=by
 obtain⟨a1,a2,a3,a4⟩:=Jn (lt:=lt) p (nrem - 1) 1;rw [kas_count,lB];generalize gZ lt (qk p (nrem - 1) 1)=n at a1 a2 a3 a4;have u1:Up lt p 1:=fun i j ME hj=>by
  have:i=j:=by lia
  subst this; exact w.refl _
 have up:Up lt p n:=u1.more w (aB _) a3;by_cases e:n=nrem
 ·subst e;rw [if_pos (by simp)];exact⟨p,n,rfl,mE _,rfl,a1,aB _,up⟩
 ·rw [if_neg (by simpa using e)];have hb:=a4 (by lia);by_cases h2:n > 1
  ·rw [if_pos h2];show ∃ p' m,gZ lt (if lt (gA p 0) (gA p (n - 1))=true then vE (n,p) else xH n nrem (gi p 0 n))=(m,p')/\_;by_cases c:lt (gA p 0) (gA p (n - 1))=true
   ·rw [if_pos c];exact⟨p,n,rfl,mE _,rfl,a1,by lia,up⟩
   ·rw [if_neg c];have c':lt (gA p 0) (gA p (n - 1))=false:=by simpa using c
    have all:∀ i j,i < n->j < n->lt (gA p i) (gA p j)=false:=fun i j hi hj =>
     w.trans _ _ _ (w.trans _ _ _ (up j (n - 1) (by lia) (by lia)) c') (up 0 i (by lia) hi)
    have d1:Dn lt (gi p 0 n) n:=fun i j ME hj=>by
     rw [gX (by lia),gX (by lia),if_pos ⟨by lia,by lia⟩,if_pos ⟨by lia,hj⟩];exact all _ _ (by lia) (by lia)
    have hl:lt (gA (gi p 0 n) (n - 1)) (gA (gi p 0 n) n)=false:=by
     rw [gX (by lia),gX (by lia),if_pos ⟨by lia,by lia⟩,if_neg (by lia)];exact w.trans _ _ _ (w.asymm _ _ hb) (all _ _ (by lia) (by lia))
    obtain⟨p',m,y1,y2,y3,y4,y5,y6⟩:=uf (nrem:=nrem) w (p:=gi p 0 n) a1 (by lia) (by rw [lW]; lia) d1 hl;exact⟨p',m,y1,y2.trans (jI _ _ _),y3.trans (lW _ _ _),by lia,y5,y6⟩
  ·rw [if_neg h2];have e1:n=1:=by lia
   subst e1;have d1:Dn lt p 1:=fun i j ME hj=>by
    have:i=j:=by lia
    subst this; exact w.refl _
   obtain⟨p',m,y1,y2,y3,y4,y5,y6⟩:=uf (nrem:=nrem) w (p:=p) (aB _) (by lia) hs d1 (w.asymm _ _ hb);exact⟨p',m,y1,y2,y3,by lia,y5,y6⟩
theorem La(w:Mk lt){p:Array Nat}{k:Nat}:∀ (f l r:Nat),l<=r->r<=k->r - l<=f->Up lt p k->(∀ i,i < l->lt (gA p k) (gA p i)=false)->(∀ i,r<=i->i < k->lt (gA p k) (gA p i)=true) ->
  ∃ m,gZ lt (jG p k f l r)=m/\m<=k/\(∀ i,i < m->lt (gA p k) (gA p i)=false)/\(∀ i,m<=i->i < k->lt (gA p k) (gA p i)=true):=by
 intro f;induction f with
 | zero =>
  intro l r hlr Yj hf up h1 h2;have:l=r:=by lia
  subst this;exact⟨l,rfl,Yj,h1,h2⟩
 | succ f ih =>
  intro l r hlr Yj hf up h1 h2;have e:gZ lt (jG p k (f+1) l r)=if l>=r then l else if lt (gA p k) (gA p ((l+r) / 2))=true then gZ lt (jG p k f l ((l+r) / 2)) else gZ lt (jG p k f ((l+r) / 2+1) r):=by
   show gZ lt (if l>=r then vE l else .ask (gA p k) (gA p ((l+r) / 2)) fun c=>if c=true then jG p k f l ((l+r) / 2) else jG p k f ((l+r) / 2+1) r)=_;split
   ·rfl
   ·show gZ lt (if lt (gA p k) (gA p ((l+r) / 2))=true then jG p k f l ((l+r) / 2) else jG p k f ((l+r) / 2+1) r)=_;split <;> rfl
  rw [e];by_cases c:l>=r
  ·rw [if_pos c];have:l=r:=by lia
   subst this;exact⟨l,rfl,Yj,h1,h2⟩
  ·rw [if_neg c];by_cases d:lt (gA p k) (gA p ((l+r) / 2))=true
   ·rw [if_pos d];refine ih l ((l+r) / 2) (by lia) (by lia) (by lia) up h1 fun i i1 i2=>?_;cases q:lt (gA p k) (gA p i) with
    | true=>rfl
    | false=>rw [w.trans _ _ _ (up ((l+r) / 2) i i1 i2) q] at d; cases d
   ·rw [if_neg d];refine ih ((l+r) / 2+1) r (by lia) Yj (by lia) up (fun i hi=>?_) h2;exact w.trans _ _ _ (up i ((l+r) / 2) (by lia) (by lia)) (by simpa using d)
theorem Bi{p:Array Nat}{src d:Nat}(hs:src < p.size)(hd:d<=src)(k:Nat):gA (bubble p src d) k=if k=src - d then gA p src else if src - d < k/\k<=src then gA p (k - 1) else gA p k:=by
 rw [Bh,getElem?_bubble hs d hd,Bh p src,Bh p (k - 1),Bh p k];by_cases h1:k=src - d
 ·rw [if_pos h1,if_pos h1]
 ·rw [if_neg h1,if_neg h1];by_cases h2:src - d < k/\k<=src
  ·rw [if_pos h2,if_pos h2]
  ·rw [if_neg h2,if_neg h2]
theorem QP(w:Mk lt):∀ (f:Nat) (p:Array Nat) (k:Nat),k+f<=p.size->Up lt p k->∃ p',gZ lt (kas_bin f p k)=p'/\p'.Perm p/\p'.size=p.size/\Up lt p' (k+f):=by
 intro f;induction f with
 | zero=>intro p k _ up; exact⟨p,rfl,mE _,rfl,up⟩
 | succ f ih =>
  intro p k hs up;obtain⟨m,e,hm,h1,h2⟩:=La w k 0 k (bZ _) (aB _) (aB _) up (fun i hi=>absurd hi (by lia)) (fun i i1 i2=>absurd i1 (by lia));have up':Up lt (bubble p k (k - m)) (k+1):=by
   intro i j ME hj;rw [Bi (by lia) (by lia),Bi (by lia) (by lia)];have ek:k - (k - m)=m:=by lia
   rw [ek];by_cases j1:j=m
   ·rw [if_pos j1];by_cases i1:i=m
    ·rw [if_pos i1]; exact w.refl _
    ·rw [if_neg i1,if_neg (by lia)]; exact h1 i (by lia)
   ·rw [if_neg j1];by_cases j2:m < j/\j<=k
    ·rw [if_pos j2];by_cases i1:i=m
     ·rw [if_pos i1]; exact w.asymm _ _ (h2 (j - 1) (by lia) (by lia))
     ·rw [if_neg i1];by_cases i2:m < i/\i<=k
      ·rw [if_pos i2]; exact up _ _ (by lia) (by lia)
      ·rw [if_neg i2]; exact up _ _ (by lia) (by lia)
    ·rw [if_neg j2,if_neg (by lia),if_neg (by lia)]; exact up _ _ ME (by lia)
  obtain⟨p',z,z1,z2,z3⟩:=ih (bubble p k (k - m)) (k+1) (by rw [bubble_size]; lia) up';refine⟨p',?_,z1.trans (bubble_perm _ _ _),z2.trans (bubble_size _ _ _),by rw [show k+(f+1)=k+1+f by lia]; exact z3⟩;rw [kas_bin,lB,e]; exact z
theorem Nt(w:Mk lt){n:Nat}(h1:1<=n):∃ p,gZ lt (kas_sort n)=p/\p.toList.Perm (dR n)/\p.size=n/\Up lt p n:=by
 obtain⟨p,m,z,z1,z2,z3,z4,z5⟩:=Ld w (p:=(dR n).toArray) h1 (by simp);have zs:p.size=n:=by rw [z2]; simp
 have zp:p.toList.Perm (dR n):=by simpa using z1.toList
 rw [kas_sort,lB,z];show ∃ q,gZ lt (if m < n then kas_bin (n - max m 1) p (max m 1) else .ret p)=q/\_;by_cases c:m < n
 ·rw [if_pos c];have em:max m 1=m:=by lia
  rw [em];obtain⟨p',y,y1,y2,y3⟩:=QP w (n - m) p m (by lia) z5;exact⟨p',y,(by simpa using y1.toList:p'.toList.Perm p.toList).trans zp,y2.trans zs,by rw [show n=m+(n - m) by lia]; exact y3⟩
 ·rw [if_neg c];have:m=n:=by lia
  subst this;exact⟨p,rfl,zp,zs,z5⟩
end
end K2
end
section
namespace K2
open PySem PySem.Spec PyProof.Rows L2
open PySem.AutoSeq1 (wpAny_loadPart')
open PySem.MeetsSeq PySem.MeetsSeq2 PySem.MeetsSeq3 PySem.SeqAt
noncomputable def zo(A:cL)(s:av)(y x:Value)(b:Bool):Prop :=
 ∀ (prog:bz) (w:World) (E:Value->av->Prop) (Q:Value->av->Prop),Q (.bool b) s->wpAny (model prog w) A (qj .Lt y x) Q E s
noncomputable def se(e l:Nat->Bool)(n m:Nat):Nat->Nat->Bool
 | 0,_=>decide (n < m)
 | f+1,i=>if e i=true then se e l n m f (i+1) else l i
theorem Rw(l b:Addr)(xs ys:Array Value)(n m:Nat)(dd de:Option Addr)(sl sm:Array (Option Value))(e lt:Nat->Bool)(k:Nat) :
  ∀ i:Nat,i<=min xs.size ys.size->min xs.size ys.size - i=k->Meets (Builtin.«list.__eq__.loop» ⟨[.ref l,.ref b,pG i,pG 0],[]⟩)
   (fun A R s=>s.heap.get? l=some { cls:=.type "list",dict:=dd,data:=.seq xs n,slots:=sl }/\s.heap.get? b=some { cls:=.type "list",dict:=de,data:=.seq ys m,slots:=sm } /\
    (∀ j (h1:j < xs.size) (h2:j < ys.size),EqAt A.in1 s xs[j] ys[j] (e j)/\zo A.in1 s xs[j] ys[j] (lt j)) /\
    R (.ok (.ret (.bool (se e lt xs.size ys.size k i)))) s):=by
 induction k with
 | zero =>
  intro i hi hk prog w A R s h;obtain⟨hp,g,d,tk,os⟩:=s;obtain⟨hl,hb,he,h⟩:=h
  wp_walk using bx hl,bx hb
  by_cases c:xs.size<=ys.size
  ·have h1:xs[((i:Nat):Int).toNat]?=none:=by simp; lia
   rw [h1]
   wp_walk using bx hl,bx hb
   exact h
  ·have h2:ys[((i:Nat):Int).toNat]?=none:=by simp; lia
   rw [h2];cases q:xs[((i:Nat):Int).toNat]? with
   | none =>
    wp_walk using bx hl,bx hb
    exact h
   | some v =>
    wp_walk using bx hl,bx hb
    exact h
 | succ k ih =>
  intro i hi hk prog w A R s h;obtain⟨hp,g,d,tk,os⟩:=s;obtain⟨hl,hb,he,h⟩:=h
  wp_walk using bx hl,bx hb
  have l1:i < xs.size:=by lia
  have l2:i < ys.size:=by lia
  have h1:xs[((i:Nat):Int).toNat]?=some xs[i]:=by simp [l1]
  have h2:ys[((i:Nat):Int).toNat]?=some ys[i]:=by simp [l2]
  have hc:((i:Int)+1)=((i+1:Nat):Int):=by push_cast; rfl
  rw [h1,h2];refine ag ((he i l1 l2).1 prog w _ _ ?_);cases q:e i with
  | true =>
   rw [se,q,if_pos rfl] at h
   wp_walk
   rw [hc];exact⟨pT plain_eq_loop _,lN entry_eq_loop (by
    rw [jt plain_eq_loop _];exact ih (i+1) (by lia) (by lia) prog w A R _ ⟨hl,hb,he,h⟩)⟩
  | false =>
   rw [se,q,if_neg (by simp)] at h
   wp_walk using bx hl,bx hb
   rw [h1,h2];have WX:=(he i l1 l2).2 prog w
   wp_walk using WX
   exact h
theorem A0(l b:Addr)(xs ys:Array Value)(n m:Nat)(dd de:Option Addr)(sl sm:Array (Option Value))(e lt:Nat->Bool) :
  Meets (Builtin.«list.__lt__» ⟨[.ref l,.ref b],[]⟩)
   (fun A R s=>s.heap.get? l=some { cls:=.type "list",dict:=dd,data:=.seq xs n,slots:=sl }/\s.heap.get? b=some { cls:=.type "list",dict:=de,data:=.seq ys m,slots:=sm } /\
    (∀ j (h1:j < xs.size) (h2:j < ys.size),EqAt A.in1 s xs[j] ys[j] (e j)/\zo A.in1 s xs[j] ys[j] (lt j)) /\
    R (.ok (.ret (.bool (se e lt xs.size ys.size (min xs.size ys.size) 0)))) s):=by
 intro prog w A R s h;obtain⟨hp,g,d,tk,os⟩:=s;obtain⟨hl,hb,he,h⟩:=h;have f3:=Gr
 wp_walk using bx hl,bx hb
 exact⟨pT plain_eq_loop _,lN entry_eq_loop (by
  rw [jt plain_eq_loop _];exact Rw l b xs ys n m dd de sl sm e lt _ 0 (bZ _) rfl prog w A R _ ⟨hl,hb,he,h⟩)⟩
theorem xU(l b:Addr)(xs ys:Array Value)(n m:Nat)(dd de:Option Addr)(sl sm:Array (Option Value))(e lt:Nat->Bool) :
  Meets (Builtin.«tuple.__lt__» ⟨[.ref l,.ref b],[]⟩)
   (fun A R s=>s.heap.get? l=some { cls:=.type "tuple",dict:=dd,data:=.seq xs n,slots:=sl }/\s.heap.get? b=some { cls:=.type "tuple",dict:=de,data:=.seq ys m,slots:=sm } /\
    (∀ j (h1:j < xs.size) (h2:j < ys.size),EqAt A.in1 s xs[j] ys[j] (e j)/\zo A.in1 s xs[j] ys[j] (lt j)) /\
    R (.ok (.ret (.bool (se e lt xs.size ys.size (min xs.size ys.size) 0)))) s) :=
 .of_wp fun prog w A R s h=>by
  obtain⟨hp,g,d,tk,os⟩:=s;obtain⟨hl,hb,he,h⟩:=h;have f2:=pJ;have zl:(xs.toList.zip ys.toList).length=min xs.size ys.size:=by simp
  wp_walk using bx hl,bx hb,kG _ (fun rest c s'=>c.1=none/\s'=⟨hp,g,d,tk,os⟩/\∃ i,i<=min xs.size ys.size/\rest=(xs.toList.zip ys.toList).drop i /\
   R (.ok (.ret (.bool (se e lt xs.size ys.size (min xs.size ys.size - i) i)))) ⟨hp,g,d,tk,os⟩) _
  case turn =>
   rintro⟨y,x⟩ rest c s' ⟨hc,rfl,i,hi,hz,hR⟩;have il:i < min xs.size ys.size:=by
    have:=congrArg cV hz;rw [cC,zl,ah] at this;lia
   have l1:i < xs.size:=by lia
   have l2:i < ys.size:=by lia
   rw [fb (by rw [zl]; exact il)] at hz;injection hz with ZC OU
   have ey:y=xs[i]/\x=ys[i]:=by simpa using ZC
   obtain⟨rfl,rfl⟩:=ey;obtain⟨k,ek⟩:∃ k,min xs.size ys.size - i=k+1:=⟨min xs.size ys.size - i - 1,by lia⟩;rw [ek,se] at hR;refine ag ((he i l1 l2).1 prog w _ _ ?_);cases q:e i with
   | true =>
    rw [q,if_pos rfl] at hR
    wp_walk
    exact⟨rfl,rfl,i+1,by lia,OU,by rw [show min xs.size ys.size - (i+1)=k by lia]; exact hR⟩
   | false =>
    rw [q,if_neg (by simp)] at hR;have WX:=(he i l1 l2).2 prog w
    wp_walk using WX
    exact⟨_,rfl,by simpa using hR⟩
  case fin =>
   rintro⟨c1,c2⟩ s' ⟨hc,rfl,i,hi,hz,hR⟩;simp only at hc;subst hc;have il:min xs.size ys.size - i=0:=by
    have:=congrArg cV hz;rw [cC,zl,aA] at this;lia
   rw [il,se] at hR
   wp_walk
   exact⟨_,rfl,by simpa [t6] using hR⟩
  case h =>
   exact⟨rfl,rfl,0,bZ _,rfl,by simpa using h⟩
theorem Ly{A:cL}{s:av}{l b:Addr}{xs ys:Array Value}{e lt:Nat->Bool}(hl:s.heap.IsList l xs)(hb:s.heap.IsList b ys)(hu:A.units < cLine)
  (he:∀ j (h1:j < xs.size) (h2:j < ys.size),EqAt A.in1 s xs[j] ys[j] (e j)/\zo A.in1 s xs[j] ys[j] (lt j)):zo A s (.ref l) (.ref b) (se e lt xs.size ys.size (min xs.size ys.size) 0):=by
 intro prog w E Q hq;obtain⟨⟨cls,dd,data,sl⟩,ho,hc,n,hd⟩:=id hl;obtain⟨⟨PF,FR,data2,Jm⟩,A9,CH,n2,hd2⟩:=id hb;simp only at hc hd CH hd2;subst hc hd CH hd2;exact w5 (op:=.Lt) ⟨_,ho,rfl⟩ ⟨_,A9,rfl⟩ tY KR (IT _ _) (A0 l b xs ys n n2 dd FR sl Jm e lt)
  ⟨ho,A9,he,(fun x=>nomatch x),hq⟩ hu
theorem Hs{A:cL}{s:av}{l b:Addr}{xs ys:Array Value}{e lt:Nat->Bool}(hl:s.heap.IsTuple l xs)(hb:s.heap.IsTuple b ys)(hu:A.units < cLine)
  (he:∀ j (h1:j < xs.size) (h2:j < ys.size),EqAt A.in1 s xs[j] ys[j] (e j)/\zo A.in1 s xs[j] ys[j] (lt j)):zo A s (.ref l) (.ref b) (se e lt xs.size ys.size (min xs.size ys.size) 0):=by
 intro prog w E Q hq;obtain⟨⟨cls,dd,data,sl⟩,ho,hc,n,hd⟩:=id hl;obtain⟨⟨PF,FR,data2,Jm⟩,A9,CH,n2,hd2⟩:=id hb;simp only at hc hd CH hd2;subst hc hd CH hd2;exact w5 (op:=.Lt) ⟨_,ho,rfl⟩ ⟨_,A9,rfl⟩ k7 rY (qr _ _) (xU l b xs ys n n2 dd FR sl Jm e lt)
  ⟨ho,A9,he,(fun x=>nomatch x),hq⟩ hu
theorem ou(xs ys:List D):∀ (k i:Nat),i<=min xs.length ys.length->min xs.length ys.length - i=k ->
  se (fun j=>ig (xs.getD j .eg) (ys.getD j .eg)) (fun j=>oJ (xs.getD j .eg) (ys.getD j .eg)) xs.length ys.length k i=lh (xs.drop i) (ys.drop i)
 | 0,i,hi,hk=>by
  rw [se];by_cases c:xs.length<=ys.length
  ·have e1:xs.drop i=[]:=k8 (by lia);rw [e1];cases q:ys.drop i with
   | nil =>
    have:=congrArg cV q;rw [cC,aA] at this;exact decide_eq_false (by lia)
   | cons y r =>
    have:=congrArg cV q;rw [cC,ah] at this;exact decide_eq_true (by lia)
  ·have e1:ys.drop i=[]:=k8 (by lia);rw [e1];cases q:xs.drop i with
   | nil =>
    have:=congrArg cV q;rw [cC,aA] at this;exact decide_eq_false (by lia)
   | cons y r=>exact decide_eq_false (by lia)
 | k+1,i,hi,hk=>by
  have l1:i < xs.length:=by lia
  have l2:i < ys.length:=by lia
  rw [se,fb l1,fb l2,me,ou xs ys k (i+1) (by lia) (by lia)];have g1:xs.getD i .eg=xs[i]:=by rw [aZ,aq l1]; rfl
  have g2:ys.getD i .eg=ys[i]:=by rw [aZ,aq l2]; rfl
  rw [g1,g2]
theorem jJ{h:Heap}:∀ {ds:List D} {vs:List Value} {as:List Addr},gC h vs (kZ ds) as->∀ j (hj:j < vs.length),∃ bs,Reads h vs[j] (pd (ds.getD j .eg)) bs
 | [],vs,as,r,j,hj=>by cases r; exact absurd hj (vD _)
 | d :: ds,_,_,.cons (v:=v) (vs:=vs) r1 r2,j,hj=>by
  cases j with
  | zero=>exact⟨_,r1⟩
  | succ j=>exact jJ r2 j (by simpa using hj)
theorem readsAll_len{h:Heap}:∀ {ds:List D} {vs:List Value} {as:List Addr},gC h vs (kZ ds) as->vs.length=ds.length
 | [],_,_,r=>by cases r; rfl
 | d :: ds,_,_,.cons r1 r2=>by rw [ah,ah,readsAll_len r2]
theorem o3:∀ {ds:List D},pN ds=true->∀ j,nr (ds.getD j .eg)=true
 | [],_,j=>by rw [List.getD_nil]; rfl
 | d :: ds,h,0=>by
  have h:(nr d&&pN ds)=true:=h;rw [aK] at h; simpa using h.1
 | d :: ds,h,j+1=>by
  have h:(nr d&&pN ds)=true:=h;rw [aK] at h; simpa using o3 h.2 j
theorem kD:∀ (ds:List D) (j:Nat),(pd (ds.getD j .eg)).depth<=bX (kZ ds)
 | [],j=>by rw [List.getD_nil]; exact aB _
 | d :: ds,0=>by
  show (pd d).depth<=bX (pd d :: kZ ds);simp only [bX]; lia
 | d :: ds,j+1=>by
  have:=kD ds j;show (pd (ds.getD j .eg)).depth<=bX (pd d :: kZ ds);simp only [bX]; lia
theorem qQ:∀ {l:List nk} {ds:List D},eZ l ds=true->∀ j,j < ds.length->∃ s∈l,cK s (ds.getD j .eg)=true/\l[j]?=some s
 | [],[],_,j,hj=>absurd hj (vD _)
 | [],_ :: _,h,_,_=>by cases h
 | _ :: _,[],h,_,_=>by cases h
 | s :: l,d :: ds,h,0,_=>by
  have h:(cK s d&&eZ l ds)=true:=h;rw [aK] at h;exact⟨s,by simp,by simpa using h.1,by simp⟩
 | s :: l,d :: ds,h,j+1,hj=>by
  have h:(cK s d&&eZ l ds)=true:=h;rw [aK] at h;obtain⟨s',h1,h2,h3⟩:=qQ h.2 j (by simpa using hj);exact⟨s',au _ h1,by simpa using h2,by simpa using h3⟩
theorem qR:∀ {s:nk} {ds:List D},gy s ds=true->∀ j,j < ds.length->cK s (ds.getD j .eg)=true
 | s,[],_,j,hj=>absurd hj (vD _)
 | s,d :: ds,h,0,_=>by
  have h:(cK s d&&gy s ds)=true:=h;rw [aK] at h; simpa using h.1
 | s,d :: ds,h,j+1,hj=>by
  have h:(cK s d&&gy s ds)=true:=h;rw [aK] at h; simpa using qR h.2 j (by simpa using hj)
theorem CU{A:cL}{s:av}{xs ys:List D}{vs ws:Array Value}{as bs:List Addr}(r1:gC s.heap vs.toList (kZ xs) as)(r2:gC s.heap ws.toList (kZ ys) bs)(n1:pN xs=true)(n2:pN ys=true)
  (hu:A.units+bX (kZ xs) < cLine) (j:Nat) (h1:j < vs.size) (h2:j < ws.size):EqAt A s vs[j] ws[j] (ig (xs.getD j .eg) (ys.getD j .eg)):=by
 obtain⟨XG,q1⟩:=jJ r1 j (by simpa using h1);obtain⟨XE,q2⟩:=jJ r2 j (by simpa using h2);have m1:=o3 n1 j;have m2:=o3 n2 j;have dp:=kD xs j;have:=eqAt_reads (pd (xs.getD j .eg)) (pd (ys.getD j .eg)) A s _ _ _ _ q1 q2 (jQ _ m1) (jQ _ m2) (by lia);rw [tL _ _ m1 m2] at this;simpa using this
theorem yB:∀ (n:Nat) (sh:nk) (a b:D) (A:cL) (s:av) (u v:Value) (as bs:List Addr),(pd a).depth<=n->cK sh a=true->cK sh b=true->nr a=true->nr b=true->Reads s.heap u (pd a) as->Reads s.heap v (pd b) bs->A.units+n < cLine->zo A s u v (oJ a b):=by
 intro n;induction n using Nat.strongRecOn with
 | _ n ih =>
 intro sh a b A s u v as bs hn h1 h2 n1 n2 r1 r2 hu;cases sh with
 | int =>
  first | obtain⟨_,rfl⟩:=cZ h1 | obtain⟨_,rfl⟩:=cX h1 | obtain⟨_,rfl⟩:=cY h1
  first | obtain⟨_,rfl⟩:=cZ h2 | obtain⟨_,rfl⟩:=cX h2 | obtain⟨_,rfl⟩:=cY h2
  cases r1; cases r2;intro prog w E Q hq;exact HT.yc A s _ _ _ _ prog w E Q hq
 | tup l =>
  first | obtain⟨_,rfl⟩:=cZ h1 | obtain⟨_,rfl⟩:=cX h1 | obtain⟨_,rfl⟩:=cY h1
  first | obtain⟨_,rfl⟩:=cZ h2 | obtain⟨_,rfl⟩:=cX h2 | obtain⟨_,rfl⟩:=cY h2
  rename_i xs ys;have n1:pN xs=true:=n1;have n2:pN ys=true:=n2;cases r1 with
  | tuple k1 k2 k3 k4 =>
   cases r2 with
   | tuple m1 m2 m3 m4 =>
    rename_i p o vs c p' o' ws c';have hd:(pd (.tup xs)).depth=bX (kZ xs)+1:=rfl;obtain⟨n',rfl⟩:∃ n',n=n'+1:=⟨n - 1,by lia⟩;have z1:=readsAll_len k4;have z2:=readsAll_len m4;have e1:vs.size=xs.length:=by simpa using z1
    have e2:ws.size=ys.length:=by simpa using z2
    have base:=Hs (A:=A) (s:=s) (e:=fun j=>ig (xs.getD j .eg) (ys.getD j .eg)) (lt:=fun j=>oJ (xs.getD j .eg) (ys.getD j .eg)) ⟨_,k1,k2,_,k3⟩ ⟨_,m1,m2,_,m3⟩ (by lia) (fun j j1 j2=>by
     refine⟨CU k4 m4 n1 n2 (by show A.units+1+_ < _; lia) j j1 j2,?_⟩;obtain⟨XG,q1⟩:=jJ k4 j (by simpa using j1);obtain⟨XE,q2⟩:=jJ m4 j (by simpa using j2);obtain⟨sj,hsj,g1,g2⟩:=qQ (l:=l) (ds:=xs) h1 j (by lia);obtain⟨sj',ZO,g1',Xm⟩:=qQ (l:=l) (ds:=ys) h2 j (by lia);rw [g2] at Xm; cases Xm;have dp:=kD xs j;have:=ih n' (by lia) sj (xs.getD j .eg) (ys.getD j .eg) A.in1 s _ _ _ _ (by lia) g1 g1' (o3 n1 j) (o3 n2 j) q1 q2 (by show A.units+1+n' < cLine; lia);simpa using this)
    have fin:=ou xs ys (min xs.length ys.length) 0 (bZ _) rfl;rw [e1,e2,fin] at base;exact base
 | lst l =>
  first | obtain⟨_,rfl⟩:=cZ h1 | obtain⟨_,rfl⟩:=cX h1 | obtain⟨_,rfl⟩:=cY h1
  first | obtain⟨_,rfl⟩:=cZ h2 | obtain⟨_,rfl⟩:=cX h2 | obtain⟨_,rfl⟩:=cY h2
  rename_i xs ys;have n1:pN xs=true:=n1;have n2:pN ys=true:=n2;cases r1 with
  | list k1 k2 k3 k4 =>
   cases r2 with
   | list m1 m2 m3 m4 =>
    rename_i p o vs c p' XG o' ws c' XE;have hd:(pd (.dJ xs)).depth=bX (kZ xs)+1:=rfl;obtain⟨n',rfl⟩:∃ n',n=n'+1:=⟨n - 1,by lia⟩;have z1:=readsAll_len k4;have z2:=readsAll_len m4;have e1:vs.size=xs.length:=by simpa using z1
    have e2:ws.size=ys.length:=by simpa using z2
    have base:=Ly (A:=A) (s:=s) (e:=fun j=>ig (xs.getD j .eg) (ys.getD j .eg)) (lt:=fun j=>oJ (xs.getD j .eg) (ys.getD j .eg)) ⟨_,k1,k2,_,k3⟩ ⟨_,m1,m2,_,m3⟩ (by lia) (fun j j1 j2=>by
     refine⟨CU k4 m4 n1 n2 (by show A.units+1+_ < _; lia) j j1 j2,?_⟩;obtain⟨XG,q1⟩:=jJ k4 j (by simpa using j1);obtain⟨XE,q2⟩:=jJ m4 j (by simpa using j2);have dp:=kD xs j;have:=ih n' (by lia) l (xs.getD j .eg) (ys.getD j .eg) A.in1 s _ _ _ _ (by lia) (qR (s:=l) (ds:=xs) h1 j (by lia)) (qR (s:=l) (ds:=ys) h2 j (by lia)) (o3 n1 j) (o3 n2 j) q1 q2 (by show A.units+1+n' < cLine; lia);simpa using this)
    have fin:=ou xs ys (min xs.length ys.length) 0 (bZ _) rfl;rw [e1,e2,fin] at base;exact base
end K2
end
section
namespace K2
open PySem PySem.Spec PyProof.Rows L2 PySem.W
section
variable {prog:bz} {w:World} {A:cL} {E:Value->av->Prop} {s:av}
theorem Nl {at':Addr} {bG:List Value} {n:Nat} {P:PySem.Fin->av->Prop} (O0:s.heap.get? at'=some (xF "list" bG.toArray n)) (MI:bG.length < 2)
  (done:P (.done (.ret .none)) { s with heap:=sortedHeap s.heap at' bG bG.toArray }):wpAny (model prog w) A (Builtin.«list.sort» ⟨[.ref at'],[]⟩) P E s:=by
 rw [list_sort_plain];have lt':at' < s.heap.objs.size:=aN O0;refine ag (listItems_at O0 rfl (ag (listUpdate_at O0 rfl ?_)));obtain⟨c,hc⟩:∃ c,(s.heap.update at' (iR fun _=>#[])).get? at'=some (xF "list" #[] c):=⟨_,get?_update_seq O0 (fun _=>#[])⟩;refine ag (seqEpoch_at hc rfl (ag (wpAny_newTuple (ag (wpAny_newList (cS ?_))))));have h6:(((s.heap.update at' (iR fun _=>#[])).push (xF "tuple" bG.toArray 0)).push (xF "list" #[] 0)).get? at'=some (xF "list" #[] c):=by
  rw [Heap.get?_push_ne _ _ _ (by rw [size_push',DB]; exact bh (rZ lt')),Heap.get?_push_ne _ _ _ (by rw [DB]; exact bh lt')];exact hc
 show wpAny (model prog w) A _ P E { s with heap:=((s.heap.update at' (iR fun _=>#[])).push (xF "tuple" bG.toArray 0)).push (xF "list" #[] 0) };dsimp only;have sz2:bG.toArray.size < 2:=by simpa using MI
 rw [if_pos sz2,if_pos sz2];refine ag (aw ?_);rw [StateT.run_pure];refine ag (aw ?_);dsimp only;have es:(bG.toArray.zip bG.toArray).map (·.2)=bG.toArray:=by
  apply Array.toList_inj.mp;simp [List.map_snd_zip]
 refine ag (seqEpoch_at h6 rfl (ag (listUpdate_at h6 rfl ?_ (hsz2:=by rw [show (arrOf (SortSt.mk' general' (bG.toArray.zip bG.toArray) #[] 7 none)).map (·.2)=bG.toArray from es,cI]; simp; lia))));simp only [bne_self_eq_false,aF,if_false];refine aw ?_;rw [show (arrOf (SortSt.mk' general' (bG.toArray.zip bG.toArray) #[] 7 none)).map (·.2)=bG.toArray from es];exact done
theorem GI{l:Addr}{bG:List Value}{Q:Value->av->Prop}(hl:s.heap.IsList l bG.toArray)(MI:bG.length < 2)
  (done:Q (.ref (s.heap.objs.size+1)) { s with heap:=sortedAll s.heap bG bG.toArray }):wpAny (model prog w) A (call (.builtin "sorted") [.ref l]) Q E s:=by
 refine Calls.call_function_entry kind_sorted plain_sorted entry_sorted (args_sorted1 _) ?_;unfold Builtin.«sorted»;refine ag (m:=checkCount "sorted" 1 1 _) (aw (ag (collect_list hl (ag (wpAny_newList ?_)))));have e1:((s.heap.push (xF "list" #[] 0)).update s.heap.objs.size (iR (·++bG.toArray))).objs.size=s.heap.objs.size+1:=by rw [DB,size_push']
 have e2:(((s.heap.push (xF "list" #[] 0)).update s.heap.objs.size (iR (·++bG.toArray))).push (xF "list" bG.toArray 0)).get? (s.heap.objs.size+1)=some (xF "list" bG.toArray 0):=by
  rw [<-e1]; exact aO _ rfl
 show wpAny _ _ _ _ _ { s with heap:=((s.heap.push (xF "list" #[] 0)).update s.heap.objs.size (iR (·++bG.toArray))).push (xF "list" bG.toArray 0) };rw [e1];refine ag (cS (cz slot_list_sort ⟨_,e2,rfl⟩ entry_list_sort (Nl e2 MI ⟨_,rfl,?_⟩) (args_list_sort _)));exact aw ⟨_,rfl,done⟩
end
section
open PySem.SeqAt
noncomputable def P4(A:cL)(s:av)(y x:Value)(b:Bool):Prop :=
 ∀ (prog:bz) (w:World) (E:Value->av->Prop) (Q:Bool->av->Prop),Q b s->wpAny (model prog w) A (oneLt' true y x) Q E s
theorem He{A:cL}{s:av}{l b:Addr}{xs ys:Array Value}{e lt:Nat->Bool}(hl:s.heap.IsList l xs)(hb:s.heap.IsList b ys)(hu:A.units < cLine)
  (he:∀ j (h1:j < xs.size) (h2:j < ys.size),EqAt A.in1 s xs[j] ys[j] (e j)/\zo A.in1 s xs[j] ys[j] (lt j)):P4 A s (.ref l) (.ref b) (se e lt xs.size ys.size (min xs.size ys.size) 0):=by
 intro prog w E Q hq;obtain⟨⟨cls,dd,data,sl⟩,ho,hc,n,hd⟩:=id hl;obtain⟨⟨PF,FR,data2,Jm⟩,A9,CH,n2,hd2⟩:=id hb;simp only at hc hd CH hd2;subst hc hd CH hd2;rw [oneLt'_eq];simp only [if_true];refine ag (wpAny_cRoomFor hu (ag (IK (T:="list") ⟨_,ho,rfl⟩ tY ?_)));exact Gd tY ⟨_,ho,rfl⟩ KR (IT _ _) (A0 l b xs ys n n2 dd FR sl Jm e lt) ⟨ho,A9,he,ik hq⟩
theorem Ef{A:cL}{s:av}{l b:Addr}{xs ys:Array Value}{e lt:Nat->Bool}(hl:s.heap.IsTuple l xs)(hb:s.heap.IsTuple b ys)(hu:A.units < cLine)
  (he:∀ j (h1:j < xs.size) (h2:j < ys.size),EqAt A.in1 s xs[j] ys[j] (e j)/\zo A.in1 s xs[j] ys[j] (lt j)):P4 A s (.ref l) (.ref b) (se e lt xs.size ys.size (min xs.size ys.size) 0):=by
 intro prog w E Q hq;obtain⟨⟨cls,dd,data,sl⟩,ho,hc,n,hd⟩:=id hl;obtain⟨⟨PF,FR,data2,Jm⟩,A9,CH,n2,hd2⟩:=id hb;simp only at hc hd CH hd2;subst hc hd CH hd2;rw [oneLt'_eq];simp only [if_true];refine ag (wpAny_cRoomFor hu (ag (IK (T:="tuple") ⟨_,ho,rfl⟩ k7 ?_)));exact Gd k7 ⟨_,ho,rfl⟩ rY (qr _ _) (xU l b xs ys n n2 dd FR sl Jm e lt) ⟨ho,A9,he,ik hq⟩
theorem EL{n:Nat}{A:cL}{s:av}{xs ys:List D}{vs ws:Array Value}{as bs:List Addr}(r1:gC s.heap vs.toList (kZ xs) as)(r2:gC s.heap ws.toList (kZ ys) bs)(n1:pN xs=true)(n2:pN ys=true)(hd:bX (kZ xs)<=n)
  (hu:A.units+n < cLine) (hs:∀ j,j < xs.length->j < ys.length->∃ sh,cK sh (xs.getD j .eg)=true/\cK sh (ys.getD j .eg)=true) (j:Nat) (h1:j < vs.size) (h2:j < ws.size) :
  EqAt A s vs[j] ws[j] (ig (xs.getD j .eg) (ys.getD j .eg))/\zo A s vs[j] ws[j] (oJ (xs.getD j .eg) (ys.getD j .eg)):=by
 have z1:=readsAll_len r1;have z2:=readsAll_len r2;have e1:vs.size=xs.length:=by simpa using z1
 have e2:ws.size=ys.length:=by simpa using z2
 refine⟨CU r1 r2 n1 n2 (by lia) j h1 h2,?_⟩;obtain⟨XG,q1⟩:=jJ r1 j (by simpa using h1);obtain⟨XE,q2⟩:=jJ r2 j (by simpa using h2);obtain⟨sh,g1,g2⟩:=hs j (by lia) (by lia);have dp:=kD xs j;have:=yB n sh (xs.getD j .eg) (ys.getD j .eg) A s _ _ _ _ (by lia) g1 g2 (o3 n1 j) (o3 n2 j) q1 q2 hu;simpa using this
theorem wH{n:Nat}{sh:nk}{a b:D}{A:cL}{s:av}{u v:Value}{as bs:List Addr}(hn:(pd a).depth<=n)(h1:cK sh a=true)(h2:cK sh b=true)(n1:nr a=true)(n2:nr b=true)(r1:Reads s.heap u (pd a) as)(r2:Reads s.heap v (pd b) bs)
  (hu:A.units+n < cLine):P4 A s u v (oJ a b):=by
 cases sh with
 | int =>
  first | obtain⟨_,rfl⟩:=cZ h1 | obtain⟨_,rfl⟩:=cX h1 | obtain⟨_,rfl⟩:=cY h1
  first | obtain⟨_,rfl⟩:=cZ h2 | obtain⟨_,rfl⟩:=cX h2 | obtain⟨_,rfl⟩:=cY h2
  cases r1; cases r2;intro prog w E Q hq;exact oneLt_int hq
 | tup l =>
  first | obtain⟨_,rfl⟩:=cZ h1 | obtain⟨_,rfl⟩:=cX h1 | obtain⟨_,rfl⟩:=cY h1
  first | obtain⟨_,rfl⟩:=cZ h2 | obtain⟨_,rfl⟩:=cX h2 | obtain⟨_,rfl⟩:=cY h2
  rename_i xs ys;have n1:pN xs=true:=n1;have n2:pN ys=true:=n2;cases r1 with
  | tuple k1 k2 k3 k4 =>
   cases r2 with
   | tuple m1 m2 m3 m4 =>
    rename_i p o vs c p' o' ws c';have hd:(pd (.tup xs)).depth=bX (kZ xs)+1:=rfl;obtain⟨n',rfl⟩:∃ n',n=n'+1:=⟨n - 1,by lia⟩;have z1:=readsAll_len k4;have z2:=readsAll_len m4;have e1:vs.size=xs.length:=by simpa using z1
    have e2:ws.size=ys.length:=by simpa using z2
    have base:=Ef (A:=A) (s:=s) ⟨_,k1,k2,_,k3⟩ ⟨_,m1,m2,_,m3⟩ (by lia) (EL (A:=A.in1) (n:=n') k4 m4 n1 n2 (by lia) (by show A.units+1+n' < cLine; lia) fun j j1 j2=>by
     obtain⟨sj,hsj,g1,g2⟩:=qQ (l:=l) (ds:=xs) h1 j j1;obtain⟨sj',ZO,g1',Xm⟩:=qQ (l:=l) (ds:=ys) h2 j j2;rw [g2] at Xm; cases Xm;exact⟨sj,g1,g1'⟩)
    have fin:=ou xs ys (min xs.length ys.length) 0 (bZ _) rfl;rw [e1,e2,fin] at base;exact base
 | lst l =>
  first | obtain⟨_,rfl⟩:=cZ h1 | obtain⟨_,rfl⟩:=cX h1 | obtain⟨_,rfl⟩:=cY h1
  first | obtain⟨_,rfl⟩:=cZ h2 | obtain⟨_,rfl⟩:=cX h2 | obtain⟨_,rfl⟩:=cY h2
  rename_i xs ys;have n1:pN xs=true:=n1;have n2:pN ys=true:=n2;cases r1 with
  | list k1 k2 k3 k4 =>
   cases r2 with
   | list m1 m2 m3 m4 =>
    rename_i p o vs c p' XG o' ws c' XE;have hd:(pd (.dJ xs)).depth=bX (kZ xs)+1:=rfl;obtain⟨n',rfl⟩:∃ n',n=n'+1:=⟨n - 1,by lia⟩;have z1:=readsAll_len k4;have z2:=readsAll_len m4;have e1:vs.size=xs.length:=by simpa using z1
    have e2:ws.size=ys.length:=by simpa using z2
    have base:=He (A:=A) (s:=s) ⟨_,k1,k2,_,k3⟩ ⟨_,m1,m2,_,m3⟩ (by lia) (EL (A:=A.in1) (n:=n') k4 m4 n1 n2 (by lia) (by show A.units+1+n' < cLine; lia) fun j j1 j2=>⟨l,qR (s:=l) (ds:=xs) h1 j j1,qR (s:=l) (ds:=ys) h2 j j2⟩);have fin:=ou xs ys (min xs.length ys.length) 0 (bZ _) rfl;rw [e1,e2,fin] at base;exact base
theorem CA{prog:bz}{w:World}{A:cL}{s:av}{b fin:Bool}{Q:Bool->av->Prop}{n:Nat}(hu:A.units+n < cLine):∀ (l:List nk) (xs ys:List D) (vs ws:List Value) (as bs:List Addr) (i:Nat),eZ l xs=true->eZ l ys=true->pN xs=true->pN ys=true ->
  gC s.heap vs (kZ xs) as->gC s.heap ws (kZ ys) bs->bX (kZ xs)<=n->fin=false->Q (lh xs ys) s->KatLex prog w A b fin Q (vs.zip ws) i s:=by
 intro l xs;induction xs generalizing l with
 | nil =>
  intro ys vs ws as bs i h1 h2 n1 n2 r1 r2 hd hf hq;cases r1;cases l with
  | nil =>
   cases ys with
   | nil=>cases r2; subst hf; exact hq
   | cons _ _=>cases h2
  | cons _ _=>cases h1
 | cons x xs ih =>
  intro ys vs ws as bs i h1 h2 n1 n2 r1 r2 hd hf hq;cases l with
  | nil=>cases h1
  | cons sh l =>
  cases ys with
  | nil=>cases h2
  | cons y ys =>
  cases r1 with
  | @cons v vs _ _ _ _ a1 a2 =>
  cases r2 with
  | @cons u ws _ _ _ _ b1 b2 =>
  have h1:(cK sh x&&eZ l xs)=true:=h1;have h2:(cK sh y&&eZ l ys)=true:=h2;have n1:(nr x&&pN xs)=true:=n1;have n2:(nr y&&pN ys)=true:=n2;rw [aK] at h1 h2 n1 n2;have MF:(pd x).depth<=n/\bX (kZ xs)<=n:=by
   have hd:bX (pd x :: kZ xs)<=n:=hd;simp only [bX] at hd;lia
  show KatLex prog w A b fin Q ((v,u) :: vs.zip ws) i s;have eq:=eqAt_reads (pd x) (pd y) A s _ _ _ _ a1 b1 (jQ _ n1.1) (jQ _ n2.1) (by lia);rw [tL _ _ n1.1 n2.1] at eq;refine kat_cons (eq prog w _ _ ?_);rw [me] at hq;cases q:ig x y with
  | true =>
   rw [q,if_pos rfl] at hq;exact kat_yes (ih l ys vs ws _ _ (i+1) h1.2 h2.2 n1.2 n2.2 a2 b2 MF.2 hf hq)
  | false =>
   rw [q,if_neg (by simp)] at hq;refine kat_no ?_;cases c:(b&&i == 0) with
   | true=>exact wH MF.1 h1.1 h2.1 n1.1 n2.1 a1 b1 hu prog w _ Q hq
   | false=>exact kat_one v u (yB n sh x y A s _ _ _ _ MF.1 h1.1 h2.1 n1.1 n2.1 a1 b1 hu prog w _ _ hq)
end
noncomputable def kF{α:Type}(n:Nat)(P:α->Prop):KasT α->Prop
 | .ret a=>P a
 | .ask i j k=>i < n/\j < n/\∀ b,kF n P (k b)
theorem kF.bind{α β:Type}{n:Nat}{P:α->Prop}{P':β->Prop}{f:α->KasT β}:∀ {t:KasT α},kF n P t->(∀ a,P a->kF n P' (f a))->kF n P' (t.bind f)
 | .ret a,q,h=>h a q
 | .ask i j k,⟨q1,q2,q3⟩,h=>⟨q1,q2,fun b=>kF.bind (q3 b) h⟩
theorem EJ{α:Type}{n:Nat}{lt:Nat->Nat->Bool}{cmp:Nat->Nat->(Bool->av->Prop)->av->Prop}{s:av}{Q:α->av->Prop}(hc:∀ i j,i < n->j < n->∀ C:Bool->av->Prop,C (lt i j) s->cmp i j C s) :
  ∀ (t:KasT α),kF n (fun _=>True) t->Q (gZ lt t) s->t.kasWp cmp Q s
 | .ret a,_,q=>q
 | .ask i j k,⟨h1,h2,h3⟩,q=>hc i j h1 h2 _ (EJ hc (k (lt i j)) (h3 _) q)
noncomputable def Bd(n:Nat)(p:Array Nat):Prop:=0 < n/\∀ x∈p,x < n
theorem Bd.at{n:Nat}{p:Array Nat}(h:Bd n p)(k:Nat):p.getD k 0 < n:=by
 by_cases hk:k < p.size
 ·have:p.getD k 0=p[k]:=by simp [IY,hk]
  rw [this]; exact h.2 _ (Array.getElem_mem hk)
 ·have:p.getD k 0=0:=by simp [IY,hk]
  rw [this]; exact h.1
theorem Bd.perm{n:Nat}{p q:Array Nat}(h:Bd n p)(hp:q.Perm p):Bd n q:=⟨h.1,fun x hx=>h.2 x (hp.mem_iff.mp hx)⟩
theorem Dl{n:Nat}{p:Array Nat}(h:Bd n p):∀ (f k:Nat),kF n (fun _=>True) (qk p f k)
 | 0,k=>trivial
 | f+1,k=>⟨h.at _,h.at _,fun b=>by
  show kF n _ (if b=true then vE k else qk p f (k+1));split
  ·trivial
  ·exact Dl h f (k+1)⟩
theorem vh{n:Nat}:∀ (f:Nat) (p:Array Nat) (k q:Nat),Bd n p->kF n (fun r=>Bd n r.1) (kH f p k q)
 | 0,p,k,q,h=>h
 | f+1,p,k,q,h=>⟨h.at _,h.at _,fun b=>by
  show kF n _ (if b=true then (if q > 0 then kH f (gi p (k - (q+1)) k) (k+1) 0 else kH f p (k+1) 0) else .ask (p.getD (k - 1) 0) (p.getD k 0) fun d=>if d=true then .ret (p,k,q) else kH f p (k+1) (q+1));split
  ·split
   ·exact vh f _ _ _ (h.perm (jI _ _ _))
   ·exact vh f _ _ _ h
  ·refine⟨h.at _,h.at _,fun d=>?_⟩;show kF n _ (if d=true then vE (p,k,q) else kH f p (k+1) (q+1));split
   ·exact h
   ·exact vh f _ _ _ h⟩
theorem Fo{n:Nat}{p:Array Nat}(h:Bd n p)(k m:Nat):kF n (fun r=>Bd n r.2) (MR k m p) :=
 kF.bind (Dl (h.perm (jI _ _ _)) _ _) fun _ _=>h.perm (jI _ _ _)
theorem vg{n:Nat}{p:Array Nat}(h:Bd n p)(k m:Nat):kF n (fun r=>Bd n r.2) (xH k m p) :=
 kF.bind (vh _ _ _ _ h) fun r hr=>by
  split
  ·exact Fo (hr.perm (jI _ _ _)) _ _
  ·exact Fo hr _ _
theorem Mi{n:Nat}{p:Array Nat}(h:Bd n p)(m:Nat):kF n (fun r=>Bd n r.2) (kas_count m p) :=
 kF.bind (Dl h _ _) fun k _=>by
  split
  ·exact h
  ·split
   ·refine⟨h.at _,h.at _,fun b=>?_⟩;show kF n _ (if b=true then vE (k,p) else xH k m (gi p 0 k));split
    ·exact h
    ·exact vg (h.perm (jI _ _ _)) _ _
   ·exact vg h _ _
theorem wa{n:Nat}{p:Array Nat}(h:Bd n p)(k:Nat):∀ (f l r:Nat),kF n (fun _=>True) (jG p k f l r)
 | 0,l,r=>trivial
 | f+1,l,r=>by
  show kF n _ (if l>=r then vE l else .ask (p.getD k 0) (p.getD ((l+r) / 2) 0) fun c=>if c=true then jG p k f l ((l+r) / 2) else jG p k f ((l+r) / 2+1) r);split
  ·trivial
  ·refine⟨h.at _,h.at _,fun b=>?_⟩;show kF n _ (if b=true then jG p k f l ((l+r) / 2) else jG p k f ((l+r) / 2+1) r);split
   ·exact wa h k f _ _
   ·exact wa h k f _ _
theorem KA{n:Nat}:∀ (f:Nat) (p:Array Nat) (k:Nat),Bd n p->kF n (fun _=>True) (kas_bin f p k)
 | 0,p,k,h=>trivial
 | f+1,p,k,h=>kF.bind (wa h k _ _ _) fun l _=>KA f _ _ (h.perm (bubble_perm _ _ _))
theorem PZ{n:Nat}(h:0 < n):kF n (fun _=>True) (kas_sort n) :=
 kF.bind (Mi ⟨h,fun x hx=>by simpa using hx⟩ n) fun r hr=>by
  split
  ·exact KA _ _ _ hr
  ·trivial
mutual
theorem wy{h h':Heap}(hk:∀ b o vs n,o.data=.seq vs n->h.get? b=some o->h'.get? b=some o):∀ (d:D) {v:Value} {as:List Addr},nr d=true->Reads h v (pd d) as->Reads h' v (pd d) as
 | .eg,_,_,_,r=>by cases r; exact .none
 | .bl b,_,_,_,r=>by cases r; exact .bool b
 | .int i,_,_,_,r=>by cases r; exact .int i _
 | .str x,_,_,_,r=>by cases r; exact .str x _
 | .tup ds,_,_,n,r=>by
  cases r with
  | tuple h1 h2 h3 h4=>exact .tuple (hk _ _ _ _ h3 h1) h2 h3 (lX hk ds n h4)
 | .dJ ds,_,_,n,r=>by
  cases r with
  | list h1 h2 h3 h4=>exact .list (hk _ _ _ _ h3 h1) h2 h3 (lX hk ds n h4)
 | .gN _,_,_,n,_=>by cases n
 | .ref _,_,_,n,_=>by cases n
 | .exc _,_,_,n,_=>by cases n
theorem lX{h h':Heap}(hk:∀ b o vs n,o.data=.seq vs n->h.get? b=some o->h'.get? b=some o):∀ (ds:List D) {vs:List Value} {as:List Addr},pN ds=true->gC h vs (kZ ds) as->gC h' vs (kZ ds) as
 | [],_,_,_,r=>by cases r; exact .nil
 | d :: ds,_,_,n,r=>by
  have n:(nr d&&pN ds)=true:=n;rw [aK] at n;cases r with
  | cons r1 r2=>exact .cons (wy hk d n.1 r1) (lX hk ds n.2 r2)
end
mutual
theorem GJ(G:Gp):∀ (sh:nk) (d:D) (n:Nat),cK sh d=true->S7 sh<=n->Sn G n d d
 | .int,.int i,n,_,_=>.int i
 | .tup l,.tup ds,n,h,hn=>by
  have hn:Pm l+1<=n:=hn;obtain⟨m,rfl⟩:∃ m,n=m+1:=⟨n - 1,by lia⟩;exact Jj G l ds m h (by lia)
 | .lst s,.dJ ds,n,h,hn=>by
  have hn:S7 s+1<=n:=hn;obtain⟨m,rfl⟩:∃ m,n=m+1:=⟨n - 1,by lia⟩;exact Jk G s ds m h (by lia)
theorem Jj(G:Gp):∀ (l:List nk) (ds:List D) (m:Nat),eZ l ds=true->Pm l<=m->Sn G (m+1) (.tup ds) (.tup ds)
 | [],[],m,_,_=>.GC
 | s :: l,d :: ds,m,h,hm=>by
  have h:(cK s d&&eZ l ds)=true:=h;have hm:max (S7 s) (Pm l)<=m:=hm;rw [aK] at h;exact .qy (GJ G s d m h.1 (by lia)) (Jj G l ds m h.2 (by lia))
theorem Jk(G:Gp):∀ (s:nk) (ds:List D) (m:Nat),gy s ds=true->S7 s<=m->Sn G (m+1) (.dJ ds) (.dJ ds)
 | s,[],m,_,_=>.Nw
 | s,d :: ds,m,h,hm=>by
  have h:(cK s d&&gy s ds)=true:=h;rw [aK] at h;exact .D4 (GJ G s d m h.1 hm) (Jk G s ds m h.2 hm)
end
theorem getD_at{α:Type}(xs:List α)(d:α){i:Nat}(h:i < xs.length):xs.getD i d=xs[i]:=by
 rw [aZ,aq h]; rfl
theorem yv{α:Type}(xs:List α)(d:α):(dR xs.length).map (fun i=>xs.getD i d)=xs:=by
 refine List.ext_getElem (by simp) fun i h1 h2=>?_;rw [mR,List.getElem_range];exact getD_at _ _ h2
theorem DS{h:Heap}{s1:nk}{l:List nk}:∀ (zs:List D) (vs:List Value),(∀ z∈zs,cK (.tup (s1 :: l)) z=true)->(∀ i,i < vs.length->∃ as,Reads h (vs.getD i .none) (pd (zs.getD i .eg)) as)->vs.length=zs.length ->
  ∃ fs,KatTups h vs fs/\fs.length=vs.length/\∀ f∈fs,∃ d as,cK s1 d=true/\Reads h f (pd d) as:=by
 intro zs;induction zs with
 | nil =>
  intro vs _ _ h;have:vs=[]:=List.length_eq_zero_iff.mp h;subst this;exact⟨[],trivial,rfl,fun _ h=>by cases h⟩
 | cons z zs ih =>
 intro vs hs hr hl;cases vs with
 | nil=>cases hl
 | cons v vs =>
  obtain⟨fs,h1,h2,h3⟩:=ih vs (fun z hz=>hs z (au _ hz)) (fun i hi=>by
   obtain⟨as,r⟩:=hr (i+1) (by simpa using hi);exact⟨as,by simpa using r⟩) (by simpa using hl)
  obtain⟨as,r⟩:=hr 0 (by simp);have hz:=hs z (by simp);simp only [List.getD_cons_zero] at r;cases z <;> first | (cases hz; done) | skip
  rename_i ds;cases ds with
  | nil=>cases hz
  | cons d ds =>
   have hz:(cK s1 d&&eZ l ds)=true:=hz;rw [aK] at hz;cases r with
   | tuple k1 k2 k3 k4 =>
    rename_i p o ws c;have k5:gC h ws.toList (pd d :: kZ ds) as:=k4;cases q:ws.toList with
    | nil=>rw [q] at k5; cases k5
    | cons f rest =>
     rw [q] at k5;cases k5 with
     | cons r1 r2 =>
      have hf:ws[0]?=some f:=by
       have:ws.toList[0]?=some f:=by rw [q]; rfl
       simpa using this
      refine⟨f :: fs,.cons k1 k2 k3 hf h1,by simp [h2],fun g hg=>?_⟩;rcases List.mem_cons.mp hg with rfl | hg
      ·exact⟨d,_,hz.1,r1⟩
      ·exact h3 g hg
noncomputable def M0:nk->Value
 | .int=>.type "int"
 | .tup _=>.type "tuple"
 | .lst _=>.type "list"
theorem AY{M:Model}{h:Heap}{sh:nk}{d:D}{v:Value}{as:List Addr}(hs:cK sh d=true)(r:Reads h v (pd d) as):Looks M h (typeOf v) (M0 sh):=by
 cases sh with
 | int =>
  cases d <;> first | (cases hs; done) | skip
  cases r;exact .now
 | tup l =>
  cases d <;> first | (cases hs; done) | skip
  cases r with
  | tuple k1 k2 k3 k4 =>
   rename_i p o ws c;have:Looks M h (typeOf (.ref p)) o.cls:=(Looks.ld k1).andThen .now;rw [k2] at this; exact this
 | lst l =>
  cases d <;> first | (cases hs; done) | skip
  cases r with
  | list k1 k2 k3 k4 =>
   rename_i p o ws c as;have:Looks M h (typeOf (.ref p)) o.cls:=(Looks.ld k1).andThen .now;rw [k2] at this; exact this
theorem LH{prog:bz}{w:World}{A:cL}{s:av}{E:Value->av->Prop}{Q:Bool->av->Prop}{n:Nat}{b:Bool}{l:List nk}{a c:D}{u v:Value}{as bs:List Addr}(hn:(pd a).depth<=n+1)(h1:cK (.tup l) a=true)(h2:cK (.tup l) c=true)(n1:nr a=true)(n2:nr c=true)
  (r1:Reads s.heap u (pd a) as) (r2:Reads s.heap v (pd c) bs) (hu:A.units+n < cLine) (hq:Q (oJ a c) s):wpAny (model prog w) A (keyLt' (tuples' b) u v) Q E s:=by
 first | obtain⟨_,rfl⟩:=cZ h1 | obtain⟨_,rfl⟩:=cX h1 | obtain⟨_,rfl⟩:=cY h1
 first | obtain⟨_,rfl⟩:=cZ h2 | obtain⟨_,rfl⟩:=cX h2 | obtain⟨_,rfl⟩:=cY h2
 rename_i xs ys;cases r1 with
 | tuple k1 k2 k3 k4 =>
  cases r2 with
  | tuple m1 m2 m3 m4 =>
   rename_i p o vs c p' o' ws c';have z1:=readsAll_len k4;have z2:=readsAll_len m4;have e1:vs.size=xs.length:=by simpa using z1
   have e2:ws.size=ys.length:=by simpa using z2
   have el:∀ (l:List nk) (xs ys:List D),eZ l xs=true->eZ l ys=true->xs.length=ys.length:=by
    intro l;induction l with
    | nil =>
     intro xs ys h1 h2;cases xs with
     | nil=>cases ys with
      | nil=>rfl
      | cons _ _=>cases h2
     | cons _ _=>cases h1
    | cons s l ih =>
     intro xs ys h1 h2;cases xs with
     | nil=>cases h1
     | cons x xs =>
      cases ys with
      | nil=>cases h2
      | cons y ys =>
       have h1:(cK s x&&eZ l xs)=true:=h1;have h2:(cK s y&&eZ l ys)=true:=h2;rw [aK] at h1 h2;rw [ah,ah,ih xs ys h1.2 h2.2]
   have hd:(pd (.tup xs)).depth=bX (kZ xs)+1:=rfl;refine kat_lt k1 k3 m1 m3 (CA (n:=n) hu l xs ys _ _ _ _ 0 h1 h2 n1 n2 k4 m4 (by lia) (decide_eq_false (by rw [e1,e2,el l xs ys h1 h2]; lia)) hq)
section
variable {X:Cx}
theorem Lz{x:D}{G:Gp}{zs:List D}(ty:xT x G)(hi:itemsOf x G=some zs):qM x G=some zs:=by
 cases x <;> first | exact ty.elim | exact hi
theorem va (hc:X.calm=true) (hu:X.A.units+64 < cLine):pF X (.builtin "sorted") vc:=by
 intro pins s σ H G xs ds us Q I ab rx rd q;unfold vc at q;split at q
 ·rename_i x;obtain⟨sh,zs,ty,hi,yN,cp,h64,q⟩:=q;obtain⟨w1,rfl,x3⟩:=rd.one;obtain⟨u,rfl,ru⟩:=rx.one;obtain⟨l,vs,bG,rfl,rv,rs,hl,_⟩:=pE I ab ru x3 (Lz ty hi);have hl1:=rv.length;have Bb:=rs.length;have hsz:aY=16777216:=cI;have hz:∀ z∈zs,cK sh z=true:=fun z h=>List.all_eq_true.mp yN z h;by_cases MI:bG.length < 2
  ·refine GI hl MI ?_;obtain⟨e,he⟩:=sortedAll_at s.heap bG bG.toArray;have hp:H (s.heap.objs.size+1)=none:=I.cp.fresh (Gk _);have es:qz zs=zs:=ue sh hz (.refl _) (by
    match zs,Bb,MI with
    | [],_,_=>exact .nil
    | [z],_,_=>exact Ms _ _
    | _ :: _ :: _,h,f=>exact absurd f (by rw [<-hl1,h]; simp))
   rw [es] at q;refine⟨.ref (s.heap.objs.size+1),upd H (s.heap.objs.size+1) (.lst vs),.ref _,_,I.laid (t':=s.toks) (fun b o e=>sortedAll_old e) (Gk _) ?_,.Hi ab hp rs,rfl,.ref _,q _ (ab.free hp)⟩;exact⟨by lia,bG,e,rv,he⟩
  ·obtain⟨m,F0⟩:=I.fr;have nz:0 < zs.length:=by lia
   have nL:∀ b o vs n,o.data=.seq vs n->s.heap.get? b=some o->b≠X.env.locals:=fun b o vs n e1 e2 z=>by
    obtain⟨o',es,ep,Ba,zF,_⟩:=F0.ns;rw [z,Ba] at e2; cases e2; rw [zF] at e1; cases e1
   unfold Ut at cp;rw [aK] at cp;have hdp:S7 sh<=7:=of_decide_eq_true cp.1;have sn:∀ z∈zs,Sn G 7 z z:=fun z h=>GJ G sh z 7 (hz z h) hdp;refine kat_sorted F0 Ek hl (by lia) (by lia) fun Dd e1 h' F N tG=>?_;obtain⟨kk,ns⟩:=vS I F0 F fun p hp=>N p (au _ hp);have B2:∀ i,i < bG.length->∃ as,Reads h' (bG.getD i .none) (pd (zs.getD i .eg)) as:=fun i hi=>by
    have i1:i < zs.length:=by lia
    have i2:i < vs.length:=by lia
    have g1:zs.getD i .eg=zs[i]:=getD_at _ _ i1;have g2:bG.getD i .none=bG[i]:=getD_at _ _ hi;obtain⟨v,hv,YY⟩:=rs.get (aq i1);obtain⟨u,A7,YV⟩:=rv.get hv;rw [aq hi] at A7;cases A7;obtain⟨as,r⟩:=(iL I ab (sn _ (cD i1))).1 v _ YY YV;rw [g1,g2];exact⟨as,wy (fun b o vs n e1 e2=>kk b o (nL b o vs n e1 e2) e2) _ (sn _ (cD i1)).nr r⟩
   have AE:∀ i,i < zs.length->cK sh (zs.getD i .eg)=true:=fun i hi=>by rw [getD_at _ _ hi]; exact hz _ (cD hi)
   have Yb:∀ i,i < zs.length->nr (zs.getD i .eg)=true:=fun i hi=>by rw [getD_at _ _ hi]; exact(sn _ (cD hi)).nr
   have dpz:∀ i,i < zs.length->(pd (zs.getD i .eg)).depth<=7:=fun i hi=>by rw [getD_at _ _ hi]; exact C2 (sn _ (cD hi))
   let zz:Nat->D:=fun i=>if i < zs.length then zs.getD i .eg else zs.getD 0 .eg
   have V0:∀ i,cK sh (zz i)=true:=fun i=>by
    show cK sh (if i < zs.length then zs.getD i .eg else zs.getD 0 .eg)=true;split
    ·exact AE i (by assumption)
    ·exact AE 0 nz
   let lt:Nat->Nat->Bool:=fun i j=>oJ (zz i) (zz j)
   have swo:Mk lt:=⟨fun i j h=>AX sh (V0 i) (V0 j) h,fun i j k h1 h2=>yA sh (V0 i) (V0 j) (V0 k) h1 h2⟩;have lte:∀ i j,i < zs.length->j < zs.length->lt i j=oJ (zs.getD i .eg) (zs.getD j .eg):=fun i j hi hj=>by
    show oJ (if i < zs.length then _ else _) (if j < zs.length then _ else _)=_;rw [if_pos hi,if_pos hj]
   obtain⟨p,ep,EN,psz,hup⟩:=Nt swo (n:=bG.length) (by lia);have hA2:X.A.in1.in1.units=X.A.units+2:=rfl;have ask:∀ κ:SortKind,(∀ i j,i < bG.length->j < bG.length->∀ C:Bool->av->Prop,C (oJ (zs.getD i .eg) (zs.getD j .eg)) { s with heap:=h' }->kas_ask X.prog X.w X.A.in1.in1 κ bG i j C { s with heap:=h' }) ->
     (kas_sort bG.length).kasWp (kas_ask X.prog X.w X.A.in1.in1 κ bG) (fun p Wc=>KasFin X.base X.env.locals m Dd e1 (p.toList.map fun i=>bG.getD i dH) (fun s3=>su X pins σ H G Q (.ref Dd) s3) Wc) { s with heap:=h' }:=by
    intro κ hk;refine EJ (lt:=lt) (n:=bG.length) (fun i j i1 i2 C hC=>hk i j i1 i2 C (by rw [<-lte i j (by lia) (by lia)]; exact hC)) _ (PZ (by lia)) ?_;rw [ep];refine KasFin.intro (g:=fun o=>(Dd,o) :: rT X.base s.heap X.env.locals) F N (.head (fun q hq z=>absurd (tG q hq) (by rw [z]; exact iq _))) fun h2 c F2 N2=>?_;obtain⟨k2,ns2⟩:=vS I F0 F2 fun p hp=>N2 p (au _ hp);have hD:s.heap.get? Dd=none:=by
     have nD:=N _ cG;cases qd:s.heap.get? Dd with
     | none=>rfl
     | some o=>exact absurd (tG _ (wK nD.2.1 nD.2.2 qd)) (iq _)
    have hp:H Dd=none:=Kg I.cp hD;have rvp:Vals (p.toList.map fun i=>vs.getD i .eg) (p.toList.map fun i=>bG.getD i dH):=by
     have:∀ (ps:List Nat),(∀ i∈ps,i < bG.length)->Vals (ps.map fun i=>vs.getD i .eg) (ps.map fun i=>bG.getD i dH):=by
      intro ps;induction ps with
      | nil=>intro _; exact .nil
      | cons i ps ih =>
       intro hh;have hi:=hh i (by simp);refine .cons ?_ (ih fun j hj=>hh j (au _ hj));have i2:i < vs.length:=by lia
       obtain⟨u,A7,YV⟩:=rv.get (aq i2);rw [aq hi] at A7;cases A7;show RelV (vs.getD i .eg) (bG.getD i .none);rw [getD_at _ _ i2,getD_at _ _ hi]; exact YV
     exact this _ fun i hi=>by simpa using EN.mem_iff.mp hi
    have rsp:ba X.K H (p.toList.map fun i=>vs.getD i .eg) (p.toList.map fun i=>zs.getD i .eg):=by
     have:∀ (ps:List Nat),(∀ i∈ps,i < bG.length)->ba X.K H (ps.map fun i=>vs.getD i .eg) (ps.map fun i=>zs.getD i .eg):=by
      intro ps;induction ps with
      | nil=>intro _; exact .nil
      | cons i ps ih =>
       intro hh;have hi:=hh i (by simp);refine .cons ?_ (ih fun j hj=>hh j (au _ hj));have i2:i < vs.length:=by lia
       have i1:i < zs.length:=by lia
       obtain⟨v,hv,r⟩:=rs.get (aq i1);rw [aq i2] at hv;cases hv;show bW X.K H (vs.getD i .eg) (zs.getD i .eg);rw [getD_at _ _ i2,getD_at _ _ i1]; exact r
     exact this _ fun i hi=>by simpa using EN.mem_iff.mp hi
    have es:qz zs=p.toList.map fun i=>zs.getD i .eg:=by
     refine ue sh hz ?_ ?_
     ·have h1:(p.toList.map fun i=>zs.getD i .eg).Perm ((dR zs.length).map fun i=>zs.getD i .eg):=by
       have:bG.length=zs.length:=by lia
       rw [<-this];exact EN.map _
      rw [yv] at h1;exact h1
     ·rw [lz,List.pairwise_iff_getElem];intro i j hi hj ME;have g1:gA p i=p.toList[i]:=by
       have:i < p.size:=by simpa using hi
       simp [gA,IY,this]
      have g2:gA p j=p.toList[j]:=by
       have:j < p.size:=by simpa using hj
       simp [gA,IY,this]
      have bi:p.toList[i] < bG.length:=by simpa using EN.mem_iff.mp (cD hi)
      have bj:p.toList[j] < bG.length:=by simpa using EN.mem_iff.mp (cD hj)
      have:=hup i j (by lia) (by have:j < p.toList.length:=hj; rw [eX,psz] at this; exact this);rw [g1,g2,lte _ _ (by lia) (by lia)] at this;exact this
    rw [es] at q;have ln:(p.toList.map fun i=>vs.getD i .eg).length<=aY:=by rw [aE,eX,psz]; lia
    refine⟨.ref Dd,upd H Dd (.lst (p.toList.map fun i=>vs.getD i .eg)),.ref _,_,Inv.SM (t':=s.toks) I k2 ns2 hD ?_,.Hi ab hp rsp,rfl,.ref _,q _ (ab.free hp)⟩;exact⟨ln,_,c,rvp,(N2 _ cG).1⟩
   have gen:∀ i j,i < bG.length->j < bG.length->∀ C:Bool->av->Prop,C (oJ (zs.getD i .eg) (zs.getD j .eg)) { s with heap:=h' }->wpAny (model X.prog X.w) X.A.in1.in1 (keyLt' oneType' (bG.getD i dH) (bG.getD j dH)) C (fun _ _=>False) { s with heap:=h' }:=by
    intro i j hi hj C hC;obtain⟨as,r1⟩:=B2 i hi;obtain⟨bs,r2⟩:=B2 j hj;rw [keyLt'_oneType];exact wH (s:={ s with heap:=h' }) (n:=7) (dpz i (by lia)) (AE i (by lia)) (AE j (by lia)) (Yb i (by lia)) (Yb j (by lia)) r1 r2 (by rw [hA2]; lia) X.prog X.w _ C hC
   have lk:∀ v∈bG,Looks (model X.prog X.w) h' (typeOf v) (M0 sh):=fun v hv=>by
    obtain⟨i,hi,rfl⟩:=List.getElem_of_mem hv;obtain⟨as,r⟩:=B2 i hi;rw [getD_at _ _ hi] at r;exact AY (AE i (by lia)) r
   cases sh with
   | int=>exact kas_kind (s:={ s with heap:=h' }) (T:=.type "int") (by lia) lk rfl rfl (ask oneType' gen)
   | lst ss=>exact kas_kind (s:={ s with heap:=h' }) (T:=.type "list") (by lia) lk rfl rfl (ask oneType' gen)
   | tup ss =>
    cases ss with
    | nil=>exact absurd cp.2 (by simp)
    | cons s1 ss =>
     obtain⟨fs,t1,t2,t3⟩:=DS (h:=h') zs bG hz B2 (by lia);refine kat_kind (s:={ s with heap:=h' }) (T:=M0 s1) t1 (by lia) (fun f hf=>?_) (by cases s1 <;> rfl) (ask _ fun i j hi hj C hC=>?_)
     ·obtain⟨d,as,h1,h2⟩:=t3 f hf;exact AY h1 h2
     ·obtain⟨as,r1⟩:=B2 i hi;obtain⟨bs,r2⟩:=B2 j hj;exact LH (s:={ s with heap:=h' }) (n:=7) (by have:=dpz i (by lia); lia) (AE i (by lia)) (AE j (by lia)) (Yb i (by lia)) (Yb j (by lia)) r1 r2 (by rw [hA2]; lia) hC
 ·exact q.elim
end
end K2
end
section
namespace L2
open PySem PySem.Spec PyProof.Rows
section
variable {prog:bz} {w:World} {A:cL} {E:Value->av->Prop} {s:av}
theorem Hw{d:Addr}{od:Obj}{es:Array fc}{c:Nat}{Q:Value->av->Prop}(ns:(d == cO)=false)(DD:s.heap.get? d=some od)(ex:od.ExactDict)(dd:od.data=.dict es c)
  (hQ:Q (.ref s.heap.objs.size) { s with heap:=s.heap.push { cls:=.type "dict_keyiterator",data:=.fields #[.ref d,.int 0 0,.int es.size 0,.int c 0] } }):wpAny (model prog w) A (Au (.ref d)) Q E s:=by
 have ty:s.TypeIs (.ref d) "dict":=⟨od,DD,ex.1⟩;refine ny ty F.slot_dict_iter (cz F.slot_dict_iter ty F.entry_dict_iter ?_ (F.args_dict_iter_1 _));unfold Builtin.«dict.__iter__» Builtin.Dict.dictSlotNone;refine ag (ag (xD ty (show wpAny _ _ (pure (dO d)) _ _ s from aw ?_)));show wpAny _ _ (ke d >>= _) _ _ s;unfold ke;rw [if_neg (fun z=>by rw [ns] at z; cases z)];refine ag (aw (ag (fX DD dd (ag (lL DD dd ?_)))));refine ag (cy (aw ⟨_,rfl,"dict_keyiterator",_,⟨_,aO _ rfl,rfl⟩,F.slot_dict_keyiterator_next.lookup,?_⟩));simpa [pG] using hQ
theorem LG{it d:Addr}{od:Obj}{es:Array fc}{i c:Nat}{Q:Option Value->av->Prop}(ki:s.heap.IsKeyIter it d i es.size c)(DD:s.heap.get? d=some od)(dd:od.data=.dict es c)(hi:i < es.size)
  (hQ:∀ h',h'.IsKeyIter it d (i+1) es.size c->eN it s.heap h'->Q (some es[i].key) { s with heap:=h' }):wpAny (model prog w) A (wo (.ref it)) Q E s:=by
 obtain⟨o,ho,hc,hf⟩:=id ki;unfold wo;refine ag (DG (eR (name:=mI "__next__") ki.typeIs je (cz je ki.typeIs Gn ?_ (FH _))));refine ag (aw (ag (ag ?_)))
 first | refine ag (i7 ki.typeIs (aw ?_)) | refine ag (kU ki.typeIs (aw ?_))
 refine ag (nR ho hf ?_);have Ui:eU "dict_keyiterator" = false:=by decide
 rw [Ui];show wpAny _ _ (if (dO d == dH)=true then _ else _) _ _ s;rw [if_neg (fun z=>by cases z)];refine ag (aw (ag (fX DD dd ?_)));rw [if_neg (by simp)];refine ag (aw (ag (lL DD dd ?_)));rw [if_neg (by simp)];refine aw ?_;dsimp only;rw [if_neg (show ¬ ((i:Int) < 0) from Int.not_lt.mpr (cf i)),cF,Gs hi];dsimp only;refine ag ?_
 first | refine ag (i7 ki.typeIs (aw ?_)) | refine ag (kU ki.typeIs (aw ?_))
 refine ag (wpAny_isOneOf_keyiter ki.typeIs ?_);show wpAny _ _ (setField (.ref it) 1 (pG ((i:Int)+1)) >>= _) _ _ s;refine ag (sP ho hf (by simp) ?_);have ki2:(s.heap.update it (Obj.mapFields (·.setIfInBounds 1 (pG ((i:Int)+1))))).IsKeyIter it d (i+1) es.size c :=
  ⟨_,gF _ ho (Qx (qe hf _)),(Obj.cls_mapFields ..).trans hc,by rw [qe hf]; simp [pG]⟩
 refine ag (cS (ag (wpAny_isOneOf_keyiter (s:={ s with heap:=s.heap.update it (Obj.mapFields (·.setIfInBounds 1 (pG ((i:Int)+1)))) }) ki2.typeIs ?_)));show wpAny _ _ (pure es[i].key) _ _ _;exact aw (aw ⟨_,rfl,aw (hQ _ ki2 (fw ..))⟩)
theorem Ow{it d:Addr}{od:Obj}{es:Array fc}{i c:Nat}{Q:Option Value->av->Prop}(calm:A.handled=none)(ki:s.heap.IsKeyIter it d i es.size c)(DD:s.heap.get? d=some od)(dd:od.data=.dict es c)(hi:es.size<=i)
  (hQ:∀ h',Heap.ExtBut it s.heap h'->Q none { s with heap:=h' }):wpAny (model prog w) A (wo (.ref it)) Q E s:=by
 obtain⟨o,ho,hc,hf⟩:=id ki;unfold wo;refine ag (DG (eR (name:=mI "__next__") ki.typeIs je (cz je ki.typeIs Gn ?_ (FH _))));refine ag (aw (ag (ag ?_)))
 first | refine ag (i7 ki.typeIs (aw ?_)) | refine ag (kU ki.typeIs (aw ?_))
 refine ag (nR ho hf ?_);have Ui:eU "dict_keyiterator" = false:=by decide
 rw [Ui];show wpAny _ _ (if (dO d == dH)=true then _ else _) _ _ s;rw [if_neg (fun z=>by cases z)];refine ag (aw (ag (fX DD dd ?_)));rw [if_neg (by simp)];refine ag (aw (ag (lL DD dd ?_)));rw [if_neg (by simp)];refine aw ?_;dsimp only;rw [if_neg (show ¬ ((i:Int) < 0) from Int.not_lt.mpr (cf i)),cF,Mx hi];dsimp only;refine ag ?_
 first | refine ag (i7 ki.typeIs (aw ?_)) | refine ag (kU ki.typeIs (aw ?_))
 show wpAny _ _ (setField (.ref it) 0 .none >>= _) _ _ s;refine ag (sP ho hf (by simp) ?_);show wpAny _ _ (newExc (.type "StopIteration") [] >>= _) _ _ _;refine ag ?_;simp only [newExc,newTuple];refine ag (cy (ag (m:=nS _ _) (BG (a:=dH) (by first | rfl | (simp only [nS]; rfl)) (cy ?_ (by size_fits)))) (by size_fits));simp only [raiseNew];refine ag (wpAny_handled ?_);rw [show A.in1.handled=none from calm];refine ag (aw (wpAny_throw ?_));refine ag (oM (T:="StopIteration") (b:=true) ⟨_,aO _ rfl,rfl⟩ isSubtype_stop (?_));exact aw (hQ _ (((fw ..).extBut.push _).push _))
end
noncomputable def Itk(a:Addr)(o:Obj)(es:Array fc)(ks:List V):It :=
 ⟨fun i H=>(∃ u,H a=some (.jZ o u))/\i < es.size,fun i H v H'=>H'=H/\ks[i]?=some v,fun i H=>(∃ u,H a=some (.jZ o u))/\es.size<=i⟩
theorem K1{P:bz}{w:World}{K:ai}{tg:Expr}(a it:Addr)(o:Obj)(es:Array fc)(c:Nat)(ks:List V)(dd:o.data=.dict es c)(hk:∀ i (h:i < es.size),∃ v,ks[i]?=some v/\RelV v es[i].key) :
  Turn P w K tg (Itk a o es ks) [it] it (fun i h=>h.IsKeyIter it a i es.size c) where
 mem:=by simp
 obj:=fun i h st b hb=>by
  have e:b=it:=by simpa using hb
  subst e;obtain⟨o',q,_,d⟩:=st;exact⟨o',q,fun v z=>by rw [d] at z; cases z⟩
 keep:=(by rintro i h h' ⟨o',q,r⟩ k; exact⟨o',k it (by simp) o' q,r⟩)
 item:=by
  intro X hP hw hK hc i pins s σ H E I hf st hg;subst hP hw hK;obtain⟨⟨u,hu⟩,hi⟩:=hg;obtain⟨f0,f1,f2,f3,f4,f5⟩:=hf it (by simp);obtain⟨v,hv,rv⟩:=hk i hi;refine LG st (I.cp a _ hu).1 dd hi fun h' zQ sb=>?_;have I1:Inv X pins σ H { s with heap:=h' }:=I.turned (t':=s.toks) (fun b o hb e=>(sb.2 b hb).trans e) f0 f1 f3 f4 f5;obtain⟨o',e,cl,d'⟩:=id zQ;exact⟨_,rfl,Kd (s:={ s with heap:=h' }) e cl d' (by decide) ⟨v,H,I1,rv,⟨rfl,hv⟩,zQ,fun b hb=>(hf b hb).1⟩⟩
 done:=by
  intro X hP hw hK hc i pins s σ H E I hf st hg;subst hP hw hK;obtain⟨⟨u,hu⟩,hi⟩:=hg;obtain⟨f0,f1,f2,f3,f4,f5⟩:=hf it (by simp);exact Ow (I.ok.hd hc) st (I.cp a _ hu).1 dd hi fun h' eb=>⟨rfl,I.turned (t':=s.toks) (fun b o hb e=>eb b o hb e) f0 f1 f3 f4 f5⟩
 self:=fun A i s Q E st h=>by
  refine ny st.typeIs IV (cz IV st.typeIs F.entry_dict_keyiterator_iter ?_ (F.args_dict_keyiterator_iter_1 _));show wpAny _ _ (ret (.ref it)) _ _ s;exact aw ⟨_,rfl,"dict_keyiterator",_,st.typeIs,F.slot_dict_keyiterator_next.lookup,h⟩
end L2
namespace K2
open PySem PySem.Spec PyProof.Rows L2
section
variable {X:Cx} {tg a:Expr} {ta:fx} {pos p:Pos}
theorem vP{α β:Type}{F:α->β->Prop}:∀ {l:List α} {m:List β},j0 F l m->∀ i (h1:i < l.length) (h2:i < m.length),F l[i] m[i]:=by
 intro l m h;induction h with
 | nil=>intro i h1; exact absurd h1 (vD i)
 | cons h t ih =>
  intro i h1 h2;cases i with
  | zero=>exact h
  | succ i=>exact ih i (tZ h1) (tZ h2)
theorem OE{P:bz}{w:World}{k:Key}{u:Value}(h:(cE P w).is k u=true):RelV (kV k) u:=by
 rcases eh h with ⟨i,t,rfl,rfl⟩ | ⟨x,t,rfl,rfl⟩
 ·exact⟨t,rfl⟩
 ·exact⟨t,rfl⟩
theorem lI.keys{K:ai}{H:Hp}:∀ {kv:List (Key×V)} {kvs:List (D×D)},lI K H kv kvs->kvs.map (·.1)=kv.map fun p=>dM p.1:=fun h =>
 lI.ind (motive:=fun kv kvs _=>kvs.map (·.1)=kv.map fun p=>dM p.1) rfl (fun _ _ ih=>congrArg (_ :: ·) ih) h
theorem ly.keys{K:ai}{H:Hp}:∀ {kv:List (List Key×V)} {kvs:List (D×D)},ly K H kv kvs->kvs.map (·.1)=kv.map fun p=>D.tup (p.1.map dM):=fun h =>
 ly.ind (motive:=fun kv kvs _=>kvs.map (·.1)=kv.map fun p=>D.tup (p.1.map dM)) rfl (fun _ _ ih=>congrArg (_ :: ·) ih) h
theorem D0{K:ai}{H:Hp}(k:Key):bW K H (kV k) (dM k):=by
 cases k with
 | inl i=>exact .int i
 | inr x=>exact .str x
theorem vK{K:ai}{H:Hp}:∀ (ks:List Key),ba K H (ks.map kV) (ks.map dM)
 | []=>.nil
 | k :: ks=>.cons (D0 k) (vK ks)
theorem NR(ha:fy X a ta):ID X tg a (A6 ta):=by
 intro E pins s σ H τ G R hE I h;refine i4 ha hE I h fun x H1 d G1 v s1 I1 m1 r1 iI q1=>?_;unfold J7 at q1;have go:∀ (l:Addr) (o:Obj) (u:HO) (kvs:List (D×D)) (es:Array fc) (c:Nat) (ks:List V),(l == cO)=false->H1 l=some (.jZ o u)->o.ExactDict->o.data=.dict es c->(∀ i (h:i < es.size),∃ v,ks[i]?=some v/\RelV v es[i].key)->ks.length=es.size ->
   ba X.K H1 ks (kvs.map (·.1))->R (kvs.map (·.1)) (fun _=>True) G1->wpAny (model X.prog X.w) X.A (Au (.ref l)) (Fu X pins σ tg H G R) X.xe s1:=by
  intro l o u kvs es c ks ns hl ex dd hk hlen rs q;refine Hw ns (I1.inv.cp l _ hl).1 ex dd ?_;refine⟨s1.heap.objs.size,[s1.heap.objs.size],_,_,H1,G1,kvs.map (·.1),_,rfl,I1.inv.kept (t':=s1.toks) fun b o e=>ay _ e,m1,K1 l _ o es c ks dd hk,⟨_,aO _ rfl,rfl,rfl⟩,fun b hb=>?_,fun i H2 G2 k ab _=>?_,q⟩
  ·have e:b=s1.heap.objs.size:=by simpa using hb
   subst e;exact I1.inv.yR (aB _) (I1.inv.cp.fresh (aB _))
  ·have Bb:=k.jZ _ _ _ hl;have Jo:=rs.mono k;refine⟨fun d hd=>?_,fun hle=>⟨⟨u,Bb⟩,by rw [<-hlen,rs.length]; exact hle⟩⟩;obtain⟨v,hv,r⟩:=Jo.get hd;have hi:i < es.size:=by rw [<-hlen]; exact(List.getElem?_eq_some_iff.mp hv).1
   refine⟨⟨⟨u,Bb⟩,hi⟩,?_⟩;rintro x H3 ⟨e,y⟩;subst e;rw [hv] at y;cases y;exact⟨r,.refl ab⟩
 cases iI with
 | oW hq rs =>
  rename_i l o kv kvs;cases r1;obtain⟨z,ns,vs,rel,ob,es,ep,ho,ex,dd,hko,hp,nd⟩:=(I1.inv.cp l _ hq).2;have eo:ob=o:=by have:=(I1.inv.cp l _ hq).1; rw [ho] at this; exact aX this
  subst eo;have l1:es.size=vs.length:=by simpa using hp.length
  have l2:kv.length=vs.length:=g8 rel;refine go l ob _ kvs es ep (kv.map fun p=>kV p.1) ns hq ex dd (fun i hi=>?_) (by rw [aE]; lia) ?_ q1
  ·have i2:i < vs.length:=by lia
   have i3:i < kv.length:=by lia
   have g1:=(hp.get? (e:=es[i]) (k:=vs[i].1) (v:=vs[i].2) (by rw [aq (by simpa using hi)]; simp) (by rw [aq i2])).1;refine⟨kV kv[i].1,by simp [i3],?_⟩;have ek:kv[i].1=vs[i].1:=(vP rel i i3 i2).1;rw [ek];exact OE g1
  ·rw [rs.keys];have:∀ (l:List (Key×V)),ba X.K H1 (l.map fun p=>kV p.1) (l.map fun p=>dM p.1):=by
    intro l;induction l with
    | nil=>exact .nil
    | cons p l ih=>exact .cons (D0 p.1) ih
   exact this kv
 | oV hq rs =>
  rename_i l o kv kvs;cases r1;obtain⟨z,ns,xs,rel,ob,es,ep,ho,ex,dd,hl,nd⟩:=(I1.inv.cp l _ hq).2;have eo:ob=o:=by have:=(I1.inv.cp l _ hq).1; rw [ho] at this; exact aX this
  subst eo;have l1:=congrArg cV hl;rw [aE,eX] at l1;refine go l ob _ kvs es ep (xs.map fun q=>V.ref q.2.1) ns hq ex dd (fun i hi=>?_) (by rw [aE]; lia) ?_ q1
  ·have i2:i < xs.length:=by lia
   refine⟨.ref xs[i].2.1,by simp [i2],?_⟩;have:es[i]=entryOfKey (ip (cE X.prog X.w)) xs[i]:=by
    have:=congrArg (fun l=>l[i]?) hl;simp only [br,aq i2] at this;simpa [hi] using this
   rw [this];rfl
  ·rw [rs.keys];have:∀ (kv:List (List Key×V)) (xs:List (List Key×Addr×Value)),j0 (fun (p:List Key×V) (q:List Key×Addr×Value)=>p.1=q.1/\H1 q.2.1=some (.tup (p.1.map kV))/\RelV p.2 q.2.2) kv xs->ba X.K H1 (xs.map fun q=>V.ref q.2.1) (kv.map fun p=>D.tup (p.1.map dM)):=by
    intro kv xs r;induction r with
    | nil=>exact .nil
    | cons h _ ih=>exact .cons (.tup h.2.1 (vK _)) ih
   exact this kv xs rel
 | _=>exact q1.elim
end
end K2
end
section
namespace L2
open PySem PySem.Spec PyProof.Rows
section
variable {X:Cx}
noncomputable def Qc(i j:Int):Prop:=i.natAbs < 2 ^ 4000/\j.natAbs < 2 ^ 4000
theorem Qc.ok{i j:Int}(h:Qc i j):IntMulOk i j:=by
 have h1:=intBits_le h.1;have h2:=intBits_le h.2;unfold IntMulOk;intro z;rw [aK] at z;have z2:((Gq i+Gq j:Nat):Int) > (bitsLine:Int):=of_decide_eq_true z.2;have hb:8000<=bitsLine:=by decide
 lia
theorem Rf:IF X (iU .Mult) (rI Qc fun i j=>.int (i * j)):=X6 fun _ _ _ _ _ _ _ hc q=>mul_int q hc.ok
end
end L2
namespace K2
open PySem PySem.Spec PyProof.Rows L2
section
variable {X:Cx}
theorem yn:nP X (iU .Mult) D7:=by
 intro pins s σ H G x y dx dy v u Q I ab rx ry dX dY q;cases dX with
 | int i =>
  cases dY with
  | int j=>exact fZ (Rf pins s σ H _ _ v u (zH X.K H G Q) I rx ry ⟨i,j,rfl,rfl,q.1,_,_,.refl ab,.int _,q.2⟩) fun _ _ z=>.of z
  | _=>exact bD q
 | _=>exact bD q
theorem C1{pins:List (Addr×Obj)}{σ:L2.St}{H:Hp}{s:av}{G:Gp}{x:V}{d:D}{kvs:List (D×D)}(I:Inv X pins σ H s)(ab:kN X.K H G)(rd:bW X.K H x d)(hd:uX d G=some kvs)(h1:uL kvs=true) :
  ∃ a kv vs,x=.ref a/\lI X.K H kv kvs/\kv.length<=aY/\(a == cO)=false/\KV kv vs/\s.heap.DictOf (cE X.prog X.w) a vs:=by
 have empty:∀ (a:Addr) (kv:List (List Key×V)),fG X.prog X.w H s.heap a (.dT kv)->ly X.K H kv kvs ->
   ∃ a' kv vs,V.ref a=.ref a'/\lI X.K H kv kvs/\kv.length<=aY/\(a' == cO)=false/\KV kv vs/\s.heap.DictOf (cE X.prog X.w) a' vs:=by
  intro a kv ok rs;cases rs with
  | nil =>
   obtain⟨z,hm,xs,rel,o,es,ep,ho,hx,zF,hl,nd⟩:=ok;have hv:xs=[]:=by cases rel; rfl
   subst hv;have he:es=#[]:=by simpa using hl
   subst he;exact⟨a,[],[],rfl,.nil,bZ _,hm,.nil,o,#[],ep,ho,hx,zF,(fun _ h=>by simp at h),.nil,cA⟩
  | cons _ _=>simp [uL,dP] at h1
 cases rd with
 | oW hq rs =>
  cases (show some _=some kvs from hd);obtain⟨z,hm,vs,rel,dd⟩:=sL I.cp (.inr ⟨_,hq⟩);exact⟨_,_,vs,rfl,rs,z,hm,rel,dd⟩
 | oV hq rs =>
  cases (show some _=some kvs from hd);exact empty _ _ (I.cp _ _ hq).2 rs
 | ref a =>
  unfold uX at hd;dsimp only at hd;split at hd
  ·rename_i kv' hg;cases hd;rcases ab a _ hg with ⟨kv,hv,rs⟩ | ⟨kv,hv,rs⟩
   ·obtain⟨z,hm,vs,rel,dd⟩:=Bn I.cp hv;exact⟨a,kv,vs,rfl,rs,z,hm,rel,dd⟩
   ·exact empty a _ (I.cp _ _ hv) rs
  ·cases hd
 | _=>cases hd
theorem Iq:pF X (.type "dict") Kv:=by
 intro pins s σ H G xs ds us Q I ab rx rd q;unfold Kv at q;split at q
 ·rename_i x;obtain⟨kvs,hd,h1,hl,q⟩:=q;obtain⟨v,rfl,r⟩:=rd.one;obtain⟨a,kv,vs,rfl,rs,z,hm,rel,dd⟩:=C1 I ab r hd h1;obtain⟨u,rfl,ru⟩:=rx.one;cases ru;refine kt_call_dict hm dd (by rw [<-rel.length]; exact z) fun h' Bq hs=>?_;have hp:H s.heap.objs.size=none:=I.cp.fresh (aB _);refine⟨.ref _,upd H s.heap.objs.size (.dK kv),.ref _,_,I.laid (a:=s.heap.objs.size) (o:=.dK kv) (t':=s.toks) (fun b q hq=>?_) (aB _) (CZ z (beq_eq_false_iff_ne.mpr (da (bh I.big))) rel Bq),.new ab hp (.dk bU (rs.mono (.new hp))),rfl,.ref _,q _ (ab.free hp)⟩;exact(hs.2 b (bh (aN hq))).trans (ay _ hq)
 ·exact q.elim
theorem Cr:IJ X "dict.get" Ho:=by
 intro pins s σ H G x d xs ds v us Q I ab rx rd MB B2 q;unfold Ho at q;split at q
 ·rename_i k d';obtain⟨kvs,hd,h1,hk,q⟩:=q;obtain⟨w,w2,rfl,x3,Nr⟩:=B2.two;obtain⟨u1,u2,rfl,GP,GN⟩:=vals2 MB;obtain⟨a,kv,vs,rfl,rs,z,hm,rel,dd⟩:=C1 I ab rd hd h1;cases rx;obtain⟨kk,rfl⟩:=uM hk;have ey:=ug x3;subst ey;refine xM e7 dd.typeIs IS (Gi _ _ _) (meets_dict_get_default (cE X.prog X.w) a (yH GP) hm u2) ⟨_,dd.mapOf,?_⟩;have ro:=(rel.val kk).getD GN;rcases rs.look kk with ⟨v',d2,e1,e2,r⟩ | ⟨e1,e2⟩
  ·rw [e1] at ro;rw [e2] at q;exact⟨v',H,d2,G,I.tok _,.refl ab,ro,r,q⟩
  ·rw [e1] at ro;rw [e2] at q;exact⟨w2,H,d',G,I.tok _,.refl ab,ro,Nr,q⟩
 ·exact q.elim
end
end K2
end
section
namespace L2
open PySem PySem.Spec PyProof.Rows
noncomputable def Iti(a:Addr)(o:Obj)(kv:List (Key×V)):It :=
 ⟨fun i H=>(∃ u,H a=some (.jZ o u))/\i < kv.length,fun i H v H'=>∃ T p,v=.ref T/\H T=none/\H'=upd H T (.tup [kV p.1,p.2])/\kv[i]?=some p,fun i H=>(∃ u,H a=some (.jZ o u))/\kv.length<=i⟩
theorem ym{α β:Type}{F:α->β->Prop}:∀ {l:List α} {m:List β},j0 F l m->∀ i (h1:i < l.length) (h2:i < m.length),F l[i] m[i]
 | _,_,.cons h _,0,_,_=>h
 | _,_,.cons _ t,i+1,h1,h2=>ym t i (by simpa using h1) (by simpa using h2)
theorem LK{P:bz}{w:World}{k:Key}{u:Value}(h:(cE P w).is k u=true):RelV (kV k) u:=by
 rcases eh h with ⟨i,t,rfl,rfl⟩ | ⟨x,t,rfl,rfl⟩
 ·exact⟨t,rfl⟩
 ·exact⟨t,rfl⟩
theorem k0:entryFor table "dict_itemiterator.__iter__" = some Builtin.«dict_keyiterator.__iter__» :=
 entryFor_alias (id':="dict_keyiterator.__iter__") (by rw [fastTable_eq_tree]; kernel_rfl) (by decide +kernel) (by decide +kernel) (by rw [fastTable_eq_tree]; kernel_rfl)
theorem Gy{P:bz}{w:World}{K:ai}{elts:List Expr}{kk:Nat}{pos:Pos}(a it:Addr)(o:Obj)(kv:List (Key×V))(vs:List (Key×Value))(ep:Nat)(rel:KV kv vs)(hD:∀ h:Heap,h.get? a=some o->h.DictAt (cE P w) a vs ep) :
  Turn P w K (.Tuple elts kk pos) (Iti a o kv) [it] it (fun i h=>∃ ok ov,nE h it a i vs.length ep ok ov) where
 mem:=by simp
 obj:=fun i h ⟨ok,ov,st⟩ b hb=>by
  have e:b=it:=by simpa using hb
  subst e;exact⟨_,st,fun v z=>by cases z⟩
 keep:=fun i h h' ⟨ok,ov,st⟩ k=>⟨ok,ov,k it (by simp) _ st⟩
 item:=by
  intro X hP hw hK hc i pins s σ H E I hf st hg;obtain⟨ok,ov,st⟩:=st;subst hP hw hK;obtain⟨⟨u,hu⟩,hi⟩:=hg;have hl:=rel.length;have hi2:i < vs.length:=by lia
  have hx:vs[i]?=some (vs[i].1,vs[i].2):=aq hi2;have rp:=ym rel i hi hi2;have RL:H s.heap.objs.size=none:=I.cp.fresh (aB _);have UY:it≠s.heap.objs.size:=bh (aN st);refine wpAny_pyNext_items_item st (hD _ (I.cp a _ hu).1) hx fun key h' hk ho hT hsz kk=>?_;refine⟨_,rfl,?_⟩;have rk:RelV (kV kv[i].1) key:=by rw [rp.1]; exact LK hk
  have I1:Inv X pins σ (upd H s.heap.objs.size (.tup [kV kv[i].1,kv[i].2])) { s with heap:=h',toks:=s.toks } :=
   I.t8 (fp:=[it]) hf (fun b o hb q=>kk b o (fun z=>hb (by simp [z])) q) (aB _)
    ⟨by show 2<=aY; decide,[key,vs[i].2],.cons rk (.cons rp.2 .nil),⟨_,hT,rfl,_,rfl⟩⟩
  refine MN (s:={ s with heap:=h' }) ho fun h2 RI zE=>?_;have f1:∀ b∈[it],mz X pins (upd H s.heap.objs.size (.tup [kV kv[i].1,kv[i].2])) b:=fun b hb=>(hf b hb).upd (by rw [List.mem_singleton.mp hb]; exact UY);have I2:Inv X pins σ (upd H s.heap.objs.size (.tup [kV kv[i].1,kv[i].2])) { s with heap:=h2,toks:=s.toks } :=
   Inv.mU (s:={ s with heap:=h',toks:=s.toks }) (t':=s.toks) (fp:=[it]) I1 f1 fun b o hb q=>(zE.2 b (fun z=>hb (by simp [z]))).trans q
  exact⟨.ref s.heap.objs.size,_,I2,rfl,⟨_,kv[i],rfl,RL,rfl,aq hi⟩,⟨_,_,RI⟩,fun b hb=>(f1 b hb).1⟩
 done:=by
  intro X hP hw hK hc i pins s σ H E I hf st hg;obtain⟨ok,ov,st⟩:=st;subst hP hw hK;obtain⟨⟨u,hu⟩,hi⟩:=hg;have hl:=rel.length;obtain⟨f0,f1,f2,f3,f4,f5⟩:=hf it (by simp);exact wpAny_pyNext_items_end (I.ok.hd hc) st (hD _ (I.cp a _ hu).1) (mC (by lia)) fun h' eb=>⟨rfl,I.turned (t':=s.toks) (fun b o hb e=>eb b o hb e) f0 f1 f3 f4 f5⟩
 self:=fun A i s Q E ⟨ok,ov,st⟩ h=>by
  have ty:s.TypeIs (.ref it) "dict_itemiterator":=⟨_,st,rfl⟩;refine ny ty iY (cz iY ty k0 ?_ (DN _));show wpAny _ _ (ret (.ref it)) _ _ s;exact aw ⟨_,rfl,"dict_itemiterator",_,ty,F.slot_dict_itemiterator_next.lookup,h⟩
end L2
namespace K2
open PySem PySem.Spec PyProof.Rows L2
section
variable {X:Cx}
theorem TY{pins:List (Addr×Obj)}{σ:L2.St}{H:Hp}{s:av}{x:V}{kvs:List (D×D)}(I:Inv X pins σ H s)(rd:bW X.K H x (.gN kvs))(h1:uL kvs=true) :
  ∃ a ob u kv vs ep,x=.ref a/\H a=some (.jZ ob u)/\lI X.K H kv kvs/\(a == cO)=false/\KV kv vs/\∀ h:Heap,h.get? a=some ob->h.DictAt (cE X.prog X.w) a vs ep:=by
 cases rd with
 | oW hq rs =>
  rename_i a o kv;obtain⟨z,hm,vs,rel,ob,es,ep,ho,r⟩:=(I.cp a _ hq).2;have eo:ob=o:=by have:=(I.cp a _ hq).1; rw [ho] at this; exact aX this
  subst eo;exact⟨a,ob,_,kv,vs,ep,rfl,hq,rs,hm,rel,fun h e=>⟨ob,es,e,r⟩⟩
 | oV hq rs =>
  rename_i a o kv;cases rs with
  | nil =>
   obtain⟨z,hm,xs,rel,ob,es,ep,ho,hx,zF,hl,nd⟩:=(I.cp a _ hq).2;have eo:ob=o:=by have:=(I.cp a _ hq).1; rw [ho] at this; exact aX this
   subst eo;have hv:xs=[]:=by cases rel; rfl
   subst hv;have he:es=#[]:=by simpa using hl
   subst he;exact⟨a,ob,_,[],[],ep,rfl,hq,.nil,hm,.nil,fun h e=>⟨ob,#[],e,hx,zF,(fun _ h=>by simp at h),.nil,cA⟩⟩
  | cons _ _=>simp [uL,dP] at h1
theorem lI.item{K:ai}{H:Hp}:∀ {kv:List (Key×V)} {kvs:List (D×D)} {i:Nat} {q:D×D},lI K H kv kvs->kvs[i]?=some q->∃ p,kv[i]?=some p/\q.1=dM p.1/\bW K H p.2 q.2
 | _,_,_,_,.nil,e=>by simp at e
 | _,_,0,_,.cons r _,e=>by simp at e; subst e; exact⟨_,rfl,rfl,r⟩
 | _,_,i+1,q,.cons _ t,e=>by
  obtain⟨p,h1,h2⟩:=lI.item (i:=i) (q:=q) t (by simpa using e);exact⟨p,by simpa using h1,h2⟩
variable {elts:List Expr} {kk:Nat} {t9 apos pz:Pos} {o:Expr} {to:fx}
theorem Le{K:ai}{H:Hp}(k:Key):bW K H (kV k) (dM k):=by
 cases k with
 | inl i=>exact .int i
 | inr x=>exact .str x
theorem jx (ho:fy X o to) (yM:autoParam (DH o "items" X.env (eval o X.env)=eval o X.env) Ar._auto_1) (yL:autoParam ((apos.endLine == pz.line)=true) Ar._auto_1) :
  ID X (.Tuple elts kk t9) (.Call (.Attribute o "items" apos) [] [] pz) (gx to):=by
 intro E pins s σ H τ G R hE I h;refine vA yM yL (i4 ho hE I h fun x H1 d G1 v s1 I1 m1 r1 iI q1=>?_);cases d with
 | gN kvs =>
  obtain⟨h1,q1⟩:=q1;obtain⟨t1,t2⟩:=lQ pins s1 σ H1 G1 x _ v I1.inv I1.ab r1 iI trivial;obtain⟨a,ob,u,kv,vs,ep,rfl,hu,rs,hm,rel,hD⟩:=TY I1.inv iI h1;cases r1;refine⟨"dict","dict.items",cB,fB,qp,t1,t2,kW rfl (w6 ?_)⟩;have dA:=hD _ (I1.inv.cp a _ hu).1;refine xM fB t1 pW (oN _) (meets_dict_items (cE X.prog X.w) a hm) ⟨⟨vs,dA.dictOf⟩,?_⟩;have I2:Inv X pins σ H1 { s1 with heap:=s1.heap.push { cls:=.type "dict_items",data:=.fields #[.ref a] } }:=I1.inv.kept (t':=s1.toks) fun b o e=>ay _ e;refine wpAny_pyIter_items (s:={ s1 with heap:=s1.heap.push { cls:=.type "dict_items",data:=.fields #[.ref a] } }) (kvs:=vs) (ep:=ep) ⟨_,aO _ rfl,rfl,rfl⟩ (dA.push _) ?_;refine⟨_,[_],_,_,H1,G1,kvs.map (fun p=>.tup [p.1,p.2]),_,rfl,I2.kept (t':=s1.toks) fun b o e=>ay _ e,m1,Gy a _ ob kv vs ep rel hD,⟨.none,.none,aO _ rfl⟩,fun b hb=>?_,fun i H2 G2 k ab _=>?_,q1⟩
  ·have e:=List.mem_singleton.mp hb;subst e;exact I2.yR (aB _) (I2.cp.fresh (aB _))
  ·have Bb:=k.jZ _ _ _ hu;have Jo:=rs.mono k;have hlen:kv.length=kvs.length:=rs.length;refine⟨fun d hd=>?_,fun hle=>⟨⟨u,Bb⟩,by rw [hlen]; simpa using hle⟩⟩;rw [br] at hd;cases FP:kvs[i]? with
   | none=>rw [FP] at hd; cases hd
   | some q =>
    rw [FP] at hd;obtain⟨p,hp,ek,rp⟩:=Jo.item FP;have hi:i < kv.length:=(List.getElem?_eq_some_iff.mp hp).1;refine⟨⟨⟨u,Bb⟩,hi⟩,fun x H3 ⟨T,p',ex,hT,e3,hy⟩=>?_⟩;subst ex e3;rw [hp] at hy;cases hy;have ed:D.tup [q.1,q.2]=d:=by simpa using hd
    subst ed;rw [ek];exact⟨.tup bU (.cons (Le _) (.cons (rp.mono (.new hT)) .nil)),.J9 ab hT⟩
 | _=>exact q1.elim
end
end K2
end
section
namespace K2
open PySem PySem.Spec PyProof.Rows L2
section
variable {X:Cx}
theorem yZ{K:ai}{H:Hp}:∀ {kv:List (Key×V)} {l:List (Int×Int)},lI K H kv (aS l)->kv=l.map fun p=>((.inl p.1:Key),V.int p.2)
 | _,[],h=>by cases h; rfl
 | _,p :: l,h=>by
  have h:lI K H _ ((D.int p.1,D.int p.2) :: aS l):=h;generalize e:(D.int p.1,D.int p.2) :: aS l=t at h;cases h with
  | nil=>cases e
  | cons r rs =>
   rename_i k v d r' t';injection e with e1 e2
   injection e1 with e3 e4
   subst e2 e4;cases r;rw [yZ rs];cases k with
   | inl i=>cases e3; rfl
   | inr x=>cases e3
theorem Cz:∀ {l:List (Int×Int)} {vs:List (Key×Value)},KV (l.map fun p=>((.inl p.1:Key),V.int p.2)) vs->∃ ts:List Tok,ts.length=l.length/\vs=(l.zip ts).map fun q=>((.inl q.1.1:Key),fA q.1.2 q.2)
 | [],_,.nil=>⟨[],rfl,rfl⟩
 | p :: l,_,.cons h r=>by
  obtain⟨ts,h1,h2⟩:=Cz r;rename_i q vs;obtain⟨k,v⟩:=q;obtain⟨e1,t,e2⟩:=h;cases e1;cases e2;exact⟨t :: ts,by simp [h1],by rw [h2]; rfl⟩
theorem BO{l:List (Int×Int)}{ts:List Tok}(h:ts.length=l.length)(k:Int):(cw l k=none/\nC ((l.zip ts).map fun q=>((.inl q.1.1:Key),fA q.1.2 q.2)) (.inl k)=none)\/∃ v t,cw l k=some v/\nC ((l.zip ts).map fun q=>((.inl q.1.1:Key),fA q.1.2 q.2)) (.inl k)=some (.int v t):=by
 induction l generalizing ts with
 | nil=>exact .inl ⟨rfl,rfl⟩
 | cons p l ih =>
  cases ts with
  | nil=>cases h
  | cons t ts =>
   have ih:=ih (ts:=ts) (by simpa using h);by_cases e:p.1=k
   ·refine .inr ⟨p.2,t,?_,?_⟩
    ·unfold cw; simp [e]
    ·unfold nC; simp [e]
   ·have e':¬ ((.inl p.1:Key)=.inl k):=fun z=>e (by injection z);have a1:cw (p :: l) k=cw l k:=by unfold cw; simp [e]
    have a2:nC (((p :: l).zip (t :: ts)).map fun q=>((.inl q.1.1:Key),fA q.1.2 q.2)) (.inl k)=nC ((l.zip ts).map fun q=>((.inl q.1.1:Key),fA q.1.2 q.2)) (.inl k):=by
     unfold nC; simp [e']
    rw [a1,a2]; exact ih
theorem Be{A:cL}{s:av}{m:List (Int×Int)}{us:List Tok}(hm:us.length=m.length):∀ {l:List (Int×Int)} {ts:List Tok},ts.length=l.length ->
  PySem.W.KeqHits A s ((m.zip us).map fun q=>((.inl q.1.1:Key),fA q.1.2 q.2)) ((l.zip ts).map fun q=>((.inl q.1.1:Key),fA q.1.2 q.2)) (l.all fun p=>cw m p.1 == some p.2)
 | [],_,_=>.nil
 | p :: l,[],h=>by cases h
 | p :: l,t :: ts,h=>by
  have ih:=Be (A:=A) (s:=s) hm (l:=l) (ts:=ts) (by simpa using h);rcases BO hm p.1 with ⟨e1,e2⟩ | ⟨v,t',e1,e2⟩
  ·have:((p :: l).all fun p=>cw m p.1 == some p.2)=false:=by simp [e1]
   rw [this];exact .miss e2
  ·have eq:SeqAt.EqAt A s (fA p.2 t) (fA v t') (decide (p.2=v)):=by
    have:=PySem.W.keq_flat (A:=A) (s:=s) (v:=fA p.2 t) (y:=fA v t') (d:=.int p.2) (e:=.int v) (.int _ _) (.int _ _);have e2:SeqAt.EqAt A s (fA p.2 t) (fA v t') (p.2 == v):=by simpa [qc] using this
    exact e2
   have:((p :: l).all fun p=>cw m p.1 == some p.2)=(decide (p.2=v)&&l.all fun p=>cw m p.1 == some p.2):=by
    rw [sD,e1];congr 1;by_cases z:p.2=v
    ·simp [z]
    ·have:¬ v=p.2:=fun y=>z y.symm;simp [z,this]
   rw [this];exact .hit e2 eq ih
theorem Rj(hu:X.A.units+64 < cLine):nP X (dg .Eq) (Wh false):=by
 intro pins s σ H G x y dx dy v u Q I ab rx ry dX dY q;obtain⟨l,m,e1,e2,q⟩:=q;obtain⟨a,kv,vs,rfl,rs,z,hm,rel,dd⟩:=C1 I ab dX e1 (lG l);obtain⟨b,kw,ws,rfl,Jo,z2,W6,Wd,FR⟩:=C1 I ab dY e2 (lG m);cases rx;cases ry;rw [yZ rs] at rel;rw [yZ Jo] at Wd;obtain⟨ts,t1,rfl⟩:=Cz rel;obtain⟨us,t2,rfl⟩:=Cz Wd;refine PySem.W.keq_eq hm W6 dd FR (by lia) (fun _=>Be t2 t1) ?_;refine⟨.bl _,H,.bl _,G,I,.refl ab,rfl,.bl _,?_⟩;have:((((l.zip ts).map fun q=>((.inl q.1.1:Key),fA q.1.2 q.2)).length == ((m.zip us).map fun q=>((.inl q.1.1:Key),fA q.1.2 q.2)).length)&&l.all fun p=>cw m p.1 == some p.2)=z9 l m:=by
  unfold z9; simp [t1,t2]
 rw [this]; exact q
theorem Ri(hu:X.A.units+64 < cLine):nP X (dg .Eq) (T8 false):=by
 intro pins s σ H G x y dx dy v u Q I ab rx ry dX dY q;rcases q with q | q
 ·exact nG hu pins s σ H G x y dx dy v u Q I ab rx ry dX dY q
 ·exact Rj hu pins s σ H G x y dx dy v u Q I ab rx ry dX dY q
variable {k v:Expr} {tk tv:fx} {pos:Pos}
theorem Ed(hk:fy X k tk)(hv:fy X v tv):fy X (.Dict [some k] [v] pos) (wQ tk tv):=by
 intro E pins s σ H τ G Q hE I h;have hn:=I.inv.cp.fresh (aB s.heap.objs.size);have I1:=I.inv.laid (a:=s.heap.objs.size) (o:=.dK []) (h':=s.heap.push { cls:=.type "dict",data:=.dict #[] }) (t':=s.toks) (fun _ _ q=>ay _ q) (aB _) (E5 s.heap I.inv.big);have mh:Mv X.K H G (upd H s.heap.objs.size (.dK [])) G:=.J9 I.ab hn;have I2:I2 X pins σ (upd H s.heap.objs.size (.dK [])) τ G { s with heap:=s.heap.push { cls:=.type "dict",data:=.dict #[] },toks:=s.toks }:=⟨I1,I.st.mono (.new hn),mh.ab⟩;refine wpAny_Dict_walk (knd:=cE X.prog X.w) (by rfl) (by rfl) (by simp) (show 1<=15 by decide) ?_;refine pairTrees_cons_walk (i4 hk hE I2 h fun x H1 dx G1 u s1 I3 m1 r1 iI q1=>?_);refine i4 hv hE I3 q1 fun y H2 dy G2 w s2 I4 m2 r2 wG q2=>?_;obtain⟨hk1,q2⟩:=q2;refine pairTrees_nil_walk ?_;obtain⟨kk,rfl⟩:=uM hk1;have ex:=ug iI;subst ex;have g0:G s.heap.objs.size=none:=I.ab.free hn;obtain⟨p1,p2⟩:=m1.keep _ _ (bU (H:=H) (a:=s.heap.objs.size) (o:=.dK [])) g0;obtain⟨p3,p4⟩:=m2.keep _ _ p1 p2;obtain⟨rs,c,rk⟩:=za (P:=X.prog) (w:=X.w) (kvs:=[(kk,y)]) (ws:=[(u,w)]) (.cons ⟨r1,r2⟩ .nil);obtain⟨z,hd,vs0,r0,dd⟩:=Bn I4.inv.cp p3;cases r0;refine⟨rs,c,dd,fun h' Bq hs=>?_⟩;have he:∃ q,h'.get? s.heap.objs.size=some q:=let ⟨q,_,_,hq,_⟩:=Bq; ⟨q,hq⟩
 have em:Hl [] [(kk,y)]=[(kk,y)]:=rfl;have kp:Kp H2 (upd H2 s.heap.objs.size (.dK [(kk,y)])):=.putD p3 (.inl ⟨_,rfl⟩);have I5:=rR (t':=s2.toks+[(u,w)].length) I4.inv (by rw [p3]; exact fN) hs he (CZ (kvs:=Hl [] [(kk,y)]) (by rw [em]; exact(show 1<=aY by decide)) hd (rk.merge .nil) Bq);rw [em] at I5;have FN:=(mh.trans m1).trans m2;refine⟨.ref s.heap.objs.size,_,.ref s.heap.objs.size,_,I5,?_,rfl,.ref _,q2 _ p4⟩;refine⟨fun a o e n=>?_,fun a n=>?_,fun a g e=>?_⟩
 ·have ha:a≠s.heap.objs.size:=fun z=>by rw [z,hn] at e; cases e
  obtain⟨k1,k2⟩:=FN.keep a o e n;exact⟨by rw [bO ha]; exact k1,by rw [ck ha]; exact k2⟩
 ·by_cases ha:a=s.heap.objs.size
  ·subst ha; rw [bU]; simp
  ·rw [bO ha]; exact FN.lU a n
 ·by_cases ha:a=s.heap.objs.size
  ·subst ha;rw [aC] at e;cases e;exact .dk bU (.cons ((wG.mono kp)) .nil)
  ·rw [ck ha] at e;exact(FN.ab a g e).mono kp (bO ha)
end
noncomputable def kp1:HO->Bool
 | .tup _=>true
 | .jZ _ (.lst _)=>true
 | .jZ _ (.dK _)=>true
 | .jZ _ (.dT _)=>true
 | .jZ _ (.ext _)=>true
 | .jZ _ (.xd _)=>true
 | _=>false
noncomputable def hr(H:Hp):Hp:=fun b=>(H b).bind fun o=>if kp1 o=true then some o else none
noncomputable def hj(H1 H':Hp):Hp:=fun b=>match H1 b with
 | some o=>some o
 | none=>H' b
noncomputable def subIn(K:ai)(C:Addr)(v:Value):Bool:=match K.lookup C with
 | some ⟨_,_,.cls cd,_⟩=>cd.mro.contains v
 | _=>false
section
variable {X:Cx} {e:Expr} {te:fx} {pos:Pos}
theorem kM{i:Nat}{x:Str}{pos':Pos}(hN:X.N.Nodup)(hi:X.N[i]?=some x)(he:fy X e te)(hx:autoParam (Loc X.env.scope x) Ao._auto_1)(hs:autoParam (MP e (some (.Name x pos')) pos.line X.env=pure false) Ar._auto_1)(hf:autoParam (X.fn x=true\/X.env.scope.names.lookup x=some .local) Ao._auto_1) :
  FU X (.Assign [.Name x pos'] e pos) (bJ te (aI i)):=QY hN hi hx he hs hf
theorem kz{i:Nat}{x:Str}(hN:X.N.Nodup)(hi:X.N[i]?=some x)(hx:autoParam (Loc X.env.scope x) Ao._auto_1)(hf:autoParam (X.fn x=true\/X.env.scope.names.lookup x=some .local) Ao._auto_1):Mm X (.Name x pos) (aI i):=NS hN hi hx hf
theorem fo2{P:bz}{w:World}{K:ai}{mg:Str->Option Value}{base:Heap}{x qual:Str}{st:Stmt}{f:Addr}{fd:gG}{Nn ps:List Str}{k:Nat}{sp:nj}{rd:iP}(F:Sb K x qual st f fd)(S:nq Nn ps (cu st))
  (hr:∀ ds G Q,sp ds G Q (fun _ _=>False)->rd (fun _ _=>False) (ends Q) (bA Nn.length ds) G)
  (hb:∀ (lH:Value) (A:cL) (outer:List Env) (s:av) (H:Hp) (E:XK),lx k (A.deeper (Av qual (cu st) s.heap.objs.size f lH))->we (C4 KN P w K mg base Nn qual (cu st) f lH A outer s H E).Uu (hV st) rd)
  (len:autoParam (∀ ds G Q E,sp ds G Q E->ds.length=ps.length) Al._auto_1):xc P w K mg base KN (k+1) f fd ps (BX K sp):=Kf F S len hr hb
theorem scm{N ps:List Str}{sc:Scope}(h1:autoParam (sc.kind=.function) Ar._auto_1)(h2:autoParam (sc.isCoroutine=false) Ar._auto_1)(h3:autoParam (sc.isGenerator=false) Ar._auto_1)(h4:autoParam N.Nodup Ak._auto_1)(h5:autoParam (N.take ps.length=ps) Ar._auto_1)
  (h6:autoParam (∀ x∈ps,sc.names.lookup x=some .local\/sc.names.lookup x=some .cell) Ak._auto_1) (h7:autoParam (∀ y∈sc.names,y.2≠.free) Ak._auto_1):nq N ps sc:=⟨h1,h2,h3,h4,h5,h6,h7⟩
end
section
variable {X:Cx} {a b c:Expr} {ta tb tc:fx} {pos:Pos}
theorem rH {x:Str} {i:Int} {t:Tok} {p:Pos} (hg:Gl X x) (hm:X.mg x=some (.int i t)) (hd:autoParam ((x == ("__debug__" : Str))=false) Ad._auto_1):fy X (.Name x p) (dC (.int i)):=vO (Q6 (v:=.int i) hg hm ⟨t,rfl⟩ hd) fun _ _=>.int i
theorem rS:pF X (.builtin "abs") cAbs:=by
 intro pins s σ H G xs ds us Q I ab rx rd q;unfold cAbs at q;split at q
 ·rename_i i;obtain⟨w1,rfl,x3⟩:=rd.one;obtain⟨u,rfl,ru⟩:=rx.one;cases x3;obtain⟨t,rfl⟩:=ru;exact call_abs_int fun u tk=>⟨.int _,H,.int _,G,I.tok _,.refl ab,⟨_,rfl⟩,.int _,q⟩
 ·exact q.elim
theorem AN{op Y8:CmpOp}{r r':zg}(ho:nP X (dg op) r)(Ba:nP X (dg Y8) r')(ha:fy X a ta)(hb:fy X b tb)(hc:fy X c tc)
  (hm:autoParam (lastMarks [op,Y8] [b,c]=false) Aw._auto_1):Ml X (.Compare a [op,Y8] [b,c] pos) (ph r r' ta tb tc):=by
 intro E pins s σ H τ G Q hE I h;refine isTrue_chain (i4 ha hE I h fun x H1 dx G1 v s1 I1 m1 r1 iI q1=>test_link (i4 hb hE I1 q1 fun y H2 dy G2 u s2 k6 m2 r2 wG q2=>?_)) hm;refine fZ (ho pins s2 σ H2 G2 x y dx dy v u _ k6.inv k6.ab r1 r2 (iI.mono (m2.kp I1.ab)) wG q2) fun d s3 z=>?_;obtain⟨z,H3,dz,G3,I3,m3,r3,We,k,e,q3⟩:=z;subst e;cases We;cases r3;have WG:=(m1.trans m2).trans m3;refine ik ?_;cases k with
 | false=>exact ite_ff ⟨H3,G3,I3,WG,q3⟩
 | true =>
  have J3:I2 X pins σ H3 τ G3 s3:=k6.mv I3 m3;refine ite_tt (test_last (i4 hc hE J3 q3 fun w' H4 dw G4 u4 s4 I4 m4 r4 rd4 q4=>?_));refine fZ (Ba pins s4 σ H4 G4 y w' dy dw u u4 _ I4.inv I4.ab r2 r4 ((wG.mono (m3.kp k6.ab)).mono (m4.kp J3.ab)) rd4 q4) fun d' s5 z=>?_;obtain⟨z2,H5,dz2,G5,I5,m5,r5,YZ,k2,e2,q5⟩:=z;subst e2;cases YZ;cases r5;exact ik ⟨H5,G5,I5,(WG.trans m4).trans m5,q5⟩
end
end K2
end
section
namespace L2
open PySem PySem.Spec PyProof.Rows
noncomputable def aaO(K:ai)(a:Addr)(n:Nat):It :=
  ⟨fun i H=>∃ xs x,oK K H a xs/\xs[i]?=some x,
   fun i H v H'=>∃ T y,v=.ref T/\H T=none/\H'=upd H T (.tup [.int ((n+i:Nat):Int),y])/\∀ xs,oK K H a xs->xs[i]?=some y,
   fun i H=>∃ xs,oK K H a xs/\xs.length<=i⟩
theorem Pk{prog:bz}{w:World}{A:cL}{it l:Addr}{items:Array Value}(n:Nat)(hh:A.handled=none)(Z3:l≠it) :
  Draws prog w A it [it,l] (n+items.size) (fun j x=>∃ i,j=n+i/\items[i]?=some x) (fun j h=>∃ i,j=n+i/\h.IsListIter it l i/\h.IsList l items) where
 live:=(by rintro j h ⟨i,_,⟨o,ho,_⟩,_⟩; exact⟨o,ho⟩)
 frame:=(by rintro j h h' ⟨i,e,hit,hl⟩ k; exact⟨i,e,hit.at fun o q=>k it (by simp) o q,let ⟨o,ho,r⟩:=hl; ⟨o,k l (by simp) o ho,r⟩⟩)
 item:=fun j s Q E hj MD hQ=>by
  obtain⟨i,e,hit,hl⟩:=MD;have hi:i < items.size:=by lia
  refine wpAny_nextOf_list_item hit hl (x:=items[i]) (by simp [hi]) fun h' HH hs=>hQ _ h' s.toks ⟨i,e,by simp [hi]⟩ ⟨i+1,by lia,HH,?_⟩ hs;obtain⟨o,ho,r⟩:=hl;exact⟨o,(hs.2 l Z3).trans ho,r⟩
 done:=fun s Q E W2 hE=>by
  obtain⟨i,e,hit,hl⟩:=W2;have hi:i=items.size:=by lia
  exact wpAny_nextOf_list_end hh hit hl (by simp [hi]) hE
theorem L8{prog:bz}{w:World}{A:cL}{it l:Addr}{items:Array Value}{n:Nat}(hh:A.handled=none)(hx:items[n]?=none) :
  Draws prog w A it [it,l] n (fun _ _=>True) (fun j h=>j=n/\h.IsListIter it l n/\h.IsList l items) where
 live:=(by rintro j h ⟨_,⟨o,ho,_⟩,_⟩; exact⟨o,ho⟩)
 frame:=(by rintro j h h' ⟨e,hit,hl⟩ k; exact⟨e,hit.at fun o q=>k it (by simp) o q,let ⟨o,ho,r⟩:=hl; ⟨o,k l (by simp) o ho,r⟩⟩)
 item:=(by rintro j s Q E hj ⟨e,_,_⟩ hQ; exact absurd hj (by lia))
 done:=(by rintro s Q E ⟨_,hit,hl⟩ hE; exact wpAny_nextOf_list_end hh hit hl hx hE)
theorem GA{P:bz}{w:World}{K:ai}{elts:List Expr}{kk:Nat}{pos:Pos}(n:Nat)(a e it:Addr)(qP:e≠it) :
  Turn P w K (.Tuple elts kk pos) (aaO K a n) [e,it] e (fun i h=>(∃ old,IsEnum h e it ((n+i:Nat):Int) old)/\h.IsListIter it a i) where
 mem:=by simp
 obj:=fun i h nK b hb=>by
  obtain⟨⟨old,he⟩,hit⟩:=nK;rcases List.mem_cons.mp hb with rfl | hb
  ·exact⟨_,he,fun v z=>by cases z⟩
  ·have e:b=it:=by simpa using hb
   subst e;obtain⟨o,e,c,d⟩:=hit;exact⟨o,e,fun v z=>by rw [d] at z; cases z⟩
 keep:=(by rintro i h h' ⟨⟨old,he⟩,hit⟩ k; exact⟨⟨old,k e (by simp) _ he⟩,hit.at fun o q=>k it (by simp) o q⟩)
 item:=by
  intro X hP hw hK hc i pins s σ H E I hf st hg;obtain⟨⟨old,he⟩,hit⟩:=st;subst hP hw hK;obtain⟨xs,x,hq,hx⟩:=hg;obtain⟨bG,rv,p,hz⟩:=I.list hq;obtain⟨u,hu,ru⟩:=rv.get hx;have RL:H s.heap.objs.size=none:=I.cp.fresh (aB _);have heT:e≠s.heap.objs.size:=bh (aN he);have UY:it≠s.heap.objs.size:=by obtain⟨o,q,_⟩:=hit; exact bh (aN q)
  obtain⟨ol,SY,FQ,Yl⟩:=p.isList;have Z1:=hit;obtain⟨oi,hoi,hci,S4⟩:=Z1;have Z3:a≠it:=fun z=>by
   rw [z,hoi] at SY; cases SY; rw [hci] at FQ; exact absurd FQ (by decide)
  have hea:e∉[it,a]:=fun z=>by
   rcases List.mem_cons.mp z with z | z
   ·exact qP z
   ·have z:=List.mem_singleton.mp z;rw [<-z,he] at SY; cases SY; exact absurd (show zI "enumerate" = zI "list" from FQ) (by decide)
  have tG:n+i < n+bG.toArray.size:=by
   have:=(List.getElem?_eq_some_iff.mp hu).1;simpa using this
  refine wpAny_pyNext_enum_itemD (Pk (items:=bG.toArray) n (show X.A.in1.handled=none from I.ok.hd hc) Z3) he ⟨i,rfl,hit,p.isList⟩ tG qP hea fun u' h' tk ⟨i',ei,A7⟩ ho ⟨i2,e2,HH,_⟩ hT hsz kk=>?_;have ei':i'=i:=by lia
  have ei2:i2=i+1:=by lia
  subst ei' ei2;have:u'=u:=by
   rw [List.getElem?_toArray,hu] at A7;exact(aX A7).symm
  subst this;refine⟨_,rfl,?_⟩;have I1:Inv X pins σ (upd H s.heap.objs.size (.tup [.int ((n+i':Nat):Int),x])) { s with heap:=h',toks:=tk+1 } :=
   I.t8 (fp:=[e,it]) hf (fun b o hb q=>kk b o (fun z=>hb (by simp [z])) (fun z=>hb (by simp [z])) q) (aB _)
    ⟨by show 2<=aY; decide,[.int ((n+i':Nat):Int) tk,u'],.cons ⟨_,rfl⟩ (.cons ru .nil),⟨_,hT,rfl,_,rfl⟩⟩
  refine Qe (s:={ s with heap:=h',toks:=tk+1 }) ho fun h2 RI zE=>?_;have f1:∀ b∈[e,it],mz X pins (upd H s.heap.objs.size (.tup [.int ((n+i':Nat):Int),x])) b:=fun b hb=>(hf b hb).upd (by
   rcases List.mem_cons.mp hb with rfl | hb
   ·exact heT
   ·rw [List.mem_singleton.mp hb]; exact UY)
  have I2:Inv X pins σ (upd H s.heap.objs.size (.tup [.int ((n+i':Nat):Int),x])) { s with heap:=h2,toks:=tk+1 } :=
   Inv.mU (s:={ s with heap:=h',toks:=tk+1 }) (t':=tk+1) (fp:=[e,it]) I1 f1 fun b o hb q=>(zE.2 b (fun z=>hb (by simp [z]))).trans q
  refine⟨.ref s.heap.objs.size,_,I2,rfl,⟨_,x,rfl,RL,rfl,fun ys hy=>by rw [I.uH hy hq]; exact hx⟩,⟨⟨u',?_⟩,?_⟩,fun b hb=>(f1 b hb).1⟩
  ·have:((n+(i'+1):Nat):Int)=((n+i':Nat):Int)+1:=by lia
   rw [this]; exact RI
  ·exact HH.at fun o q=>(zE.2 it (da qP)).trans q
 done:=by
  intro X hP hw hK hc i pins s σ H E I hf st hg;obtain⟨⟨old,he⟩,hit⟩:=st;subst hP hw hK;obtain⟨xs,hq,hx⟩:=hg;obtain⟨bG,rv,p,hz⟩:=I.list hq;have hl:=rv.length;refine wpAny_pyNext_enum_endD (L8 (items:=bG.toArray) (n:=i) (show X.A.in1.handled=none from I.ok.hd hc) (by simp; lia)) he ⟨rfl,hit,p.isList⟩ fun h' eb=>⟨rfl,?_⟩;exact I.mU (t':=s.toks) (fp:=[e,it]) hf fun b o hb q=>eb b o (fun z=>hb (by simp [z])) q
 self:=(by rintro A i s Q E ⟨⟨old,he⟩,_⟩ h; exact tW he h)
end L2
end
section
namespace L2
open PySem PySem.Spec PyProof.Rows
open AutoSeq1 (wpAny_loadPart')
theorem Eu(l:Addr)(items:Array Value)(n:Nat)(Vg:Option Addr)(sl:Array (Option Value))(t:Tok) :
  Meets (Builtin.«enumerate.__new__» ⟨[.type "enumerate",.ref l],[("start",.int 1 t)]⟩) (fun _ R s=>s.heap.get? l=some { cls:=.type "list",dict:=Vg,data:=.seq items n,slots:=sl } /\
   R (.ok (.ret (.ref (s.heap.push { cls:=.type "list_iterator",data:=.fields #[.ref l,.int 0 0] }).objs.size)))
    { s with heap:=(s.heap.push { cls:=.type "list_iterator",data:=.fields #[.ref l,.int 0 0] }).push { cls:=.type "enumerate",data:=.fields #[.none,.bool false,.ref s.heap.objs.size,pG 1,.none,.none] } }) :=
 .of_wp fun prog w A R s h=>by
  obtain⟨hp,g,d,tk,os⟩:=s; obtain⟨hl,h⟩:=h;have RE:=sub_enumerate;have hL:Heap.IsList (Shared.heap ⟨hp,g,d,tk,os⟩) l items:=⟨_,hl,rfl,n,rfl⟩
  wp_walk using bx hl
  refine wpAny_stack_any fun st=>aw ?_;split
  ·rename_i c _ _ _ _ _;cases (c == zI "enumerate")
   ·wp_walk using bx hl,nA hL
    exact⟨_,rfl,h⟩
   ·wp_walk using bx hl,nA hL
    exact⟨_,rfl,h⟩
  ·wp_walk using bx hl,nA hL
   exact⟨_,rfl,h⟩
theorem xS (a:Value) (k:Int) (t:Tok):checkTypeCall "enumerate" ⟨[a],[("start",.int k t)]⟩=pure ():=by kernel_rfl
theorem zW (a:Value) (k:Int) (t:Tok):checkBuiltinCall "enumerate.__new__" ⟨[.type "enumerate",a],[("start",.int k t)]⟩=pure ():=by kernel_rfl
theorem HB (o a:Value) (k:Int) (t:Tok):argsOk "object.__init__" ⟨[o,a],[("start",.int k t)]⟩:=by unfold argsOk; rw [signature?_of (id:="object.__init__") (n:=['_','_','t','i','n','i','_','_']) (o:=['t','c','e','j','b','o']) (by kernel_rfl) F.owner_object]; kernel_rfl
theorem EM (self a:Value) (k:Int) (t:Tok):Meets (Builtin.«object.__init__» ⟨[self,a],[("start",.int k t)]⟩) (fun _ R s=>s.TypeIs self "enumerate"/\R (.ok (.ret .none)) s):=by
 refine Meets.of_wp fun prog w A R s hs=>?_;obtain⟨hT,hq⟩:=hs;have hl:=F.called_enumerate.init.lookup;have hm:=F.called_enumerate.made;have qP:(some "enumerate.__new__" != some "object.__new__")=true:=by decide
 repeat (any_goals (first | assumption | wp_step))
 exact⟨_,rfl,hq⟩
section
variable {prog:bz} {w:World} {A:cL} {E:Value->av->Prop} {s:av}
set_option maxRecDepth 100000 in
theorem Io{l:Addr}{items:Array Value}{t:Tok}{Q:Value->av->Prop}(hL:s.heap.IsList l items)
  (h:∀ h',IsEnum h' (s.heap.objs.size+1) s.heap.objs.size 1 .none->h'.IsListIter s.heap.objs.size l 0 ->
   (∀ b o,s.heap.get? b=some o->h'.get? b=some o)->Q (.ref (s.heap.objs.size+1)) { s with heap:=h' }) :
  wpAny (model prog w) A (call (.type "enumerate") [.ref l] [("start",.int 1 t)]) Q E s:=by
 obtain⟨⟨c,Vg,dt,sl⟩,hl,hc,n,hd⟩:=hL;replace hc:c=.type "list":=hc;replace hd:dt=.seq items n:=hd;subst hc hd;obtain⟨c,tl,adD⟩:=F.called_enumerate.mro;have abz:=F.called_enumerate.made;have RE:=F.called_enumerate.sub;refine wpAny_call (codeAny_of_tree (show wpAny _ _ (callAny (.type "enumerate") _) _ _ _ from ?_));refine aw ⟨Code.quiet_builtin _ (by decide +kernel),lN F.entry_type_call ?_⟩;rw [Around.under_plain (weight_type_call_type "enumerate" [.ref l] [("start",.int 1 t)]) (units_type_call_type "enumerate" [.ref l] [("start",.int 1 t)])];have h1:=F.called_enumerate.notType;have h2:=F.called_enumerate.canCreate;have hct:=xS (.ref l) 1 t;have hcn:=zW (.ref l) 1 t
 repeat (any_goals (first | assumption | wp_step))
 have hz:(s.heap.push { cls:=.type "list_iterator",data:=.fields #[.ref l,.int 0 0] }).objs.size=s.heap.objs.size+1:=gL ..;refine xK (codeAny_call_builtin F.called_enumerate.plain F.entry_enumerate_new (BG hcn (Eu l items n Vg sl t prog w A.in1 (wants (fun obj eE=>eE.TypeIs obj "enumerate"/\Q obj eE) E) s ⟨hl,?_⟩))) fun r eE hr=>?_
 ·show _/\_;rw [hz]
  have he:IsEnum ((s.heap.push { cls:=.type "list_iterator",data:=.fields #[.ref l,.int 0 0] }).push
    { cls:=.type "enumerate",data:=.fields #[.none,.bool false,.ref s.heap.objs.size,pG 1,.none,.none] }) (s.heap.objs.size+1) s.heap.objs.size 1 .none:=by
   have:=aO (s.heap.push { cls:=.type "list_iterator",data:=.fields #[.ref l,.int 0 0] })
    (o:={ cls:=.type "enumerate",data:=.fields #[.none,.bool false,.ref s.heap.objs.size,pG 1,.none,.none] }) rfl
   rw [hz] at this; exact this
  exact⟨⟨_,he,rfl⟩,h _ he ⟨_,ay _ (aO _ rfl),rfl,rfl⟩ fun b o x=>ay _ (ay _ x)⟩
 ·cases r with
  | error e=>exact hr
  | ok fl =>
   cases fl with
   | ret obj =>
    obtain⟨hT,hq⟩:=hr;have hli:=F.called_enumerate.init.lookup;have hbi:=F.called_enumerate.init.bind obj
    repeat (any_goals (first | assumption | wp_step))
    refine xK (codeAny_call_builtin F.called_enumerate.init.plain F.entry_object_init (F.called_enumerate.init.check _ _ _ _ _ _ _ _ hT (HB obj (.ref l) 1 t) (EM obj (.ref l) 1 t prog w A.in1 (wants (fun r jH=>r=.none/\Q obj jH) E) eE ⟨hT,rfl,hq⟩))) fun YT jH OT=>?_;cases YT with
    | error e=>exact OT
    | ok Xq =>
     cases Xq with
     | ret r =>
      obtain⟨rfl,hq⟩:=OT
      repeat (any_goals (first | assumption | wp_step))
     | _=>exact OT.elim
   | _=>exact hr.elim
end
end L2
end
section
namespace K2
open PySem PySem.Spec PyProof.Rows L2
section
theorem v5{M:Model}{A:cL}{E:Value->av->Prop}{s:av}{pos:Pos}{T:String}{args:List (Bool×Sem Value)}{keywords:List (Option Str×Sem Value)}{Q:Value->av->Prop}
  (HG:args.any (·.1)=false) (hkw:keywords.any (·.1.isNone)=false)
  (h:wpAny M A (evalArgs (.type T) true args keywords) (fun a eE=>wpAny M A (call (.type T) a.pos a.kw) Q E eE) E s) :
  wpAny M A (callWith pos (.type T) [] args keywords) Q E s:=by
 unfold callWith;refine ag (cS (tX h (fun a eE pZ=>ag (vt ?_)) fun _ _ x=>x));rw [HG,hkw];refine ag (aw ?_);exact ag (tX pZ (fun r jH hr=>ag (cS (wpAny_point (aw hr)))) fun _ _ x=>x)
variable {X:Cx} {elts:List Expr} {kk:Nat} {t9:Pos} {a:Expr} {ta:fx} {pos p kp p1:Pos} {c1:Nat}
theorem E4{pins:List (Addr×Obj)}{σ:L2.St}{H H1:Hp}{G G1:Gp}{s1:av}{l:Addr}{vs:List V}{ds:List D}{ok:Gp->Prop}{R:List D->(Gp->Prop)->Gp->Prop}{t:Tok}(I1:Inv X pins σ H1 s1)(m:Mv X.K H G H1 G1)(hq:oK X.K H1 l vs)
  (hk:∀ H2 G2,Kp H1 H2->kN X.K H2 G2->ok G2->∃ ws,oK X.K H2 l ws/\ba X.K H2 ws ds) (q:R (j5 1 ds) ok G1) :
  wpAny (model X.prog X.w) X.A (call (.type "enumerate") [.ref l] [("start",.int 1 t)]) (fun v s2=>wpAny (model X.prog X.w) X.A (Au v) (Fu X pins σ (.Tuple elts kk t9) H G R) X.xe s2) X.xe s1:=by
 obtain⟨bG,rv,pl,hz⟩:=I1.list hq;refine Io pl.isList fun h' he hit kp=>?_;refine tW he ?_;refine⟨_,[s1.heap.objs.size+1,s1.heap.objs.size],_,_,H1,G1,j5 1 ds,ok,rfl,I1.kept (t':=s1.toks) kp,m,GA 1 l _ _ (Nat.succ_ne_self _),⟨⟨_,he⟩,hit⟩,fun b hb=>?_,fun i H2 G2 k ab o=>?_,q⟩
 ·have Bf:s1.heap.objs.size<=b:=by
   rcases List.mem_cons.mp hb with rfl | hb
   ·lia
   ·rw [List.mem_singleton.mp hb]; exact aB _
  exact I1.yR Bf (I1.cp.fresh Bf)
 ·obtain⟨ws,hw,rd⟩:=hk H2 G2 k ab o;refine⟨fun d hd=>?_,fun hl=>⟨ws,hw,by rw [rd.length,<-oB ds 1]; exact hl⟩⟩;rw [rQ] at hd;cases S4:ds[i]? with
  | none=>rw [S4] at hd; cases hd
  | some d' =>
   rw [S4] at hd;obtain⟨v,hv,r⟩:=rd.get S4;refine⟨⟨ws,v,hw,hv⟩,?_⟩;rintro x H3 ⟨T,y,ex,hT,e3,hy⟩;subst ex e3;have:=hy ws hw;rw [hv] at this;cases this;have ed:D.tup [.int ((1+i:Nat):Int),d']=d:=by simpa using hd
   subst ed;exact⟨.tup bU (.cons (.int _) (.cons (r.mono (.new hT)) .nil)),.J9 ab hT⟩
theorem Lp (hg:Gl X "enumerate") (hm:X.mg "enumerate" = none) (ha:fy X a ta) (hs:autoParam (bS [a] X.env=[(false,eval a X.env)]) Ar._auto_1) :
  ID X (.Tuple elts kk t9) (.Call (.Name "enumerate" p) [a] [⟨some "start",.Constant (.int 1) c1 p1,kp⟩] pos) (HE ta 1):=by
 intro E pins s σ H τ G R hE I h;have hA:BA X [a] (ar ta aT):=cJ ha fT hs;refine jr (nI I.inv hg hm ve (v5 ?_ rfl ?_))
 ·rw [hs]; rfl
 rw [show sx pos (bS [a] X.env)=(false,eval a X.env) :: [] from by rw [hs]; rfl];refine evalArgs_kwB rfl ?_;rw [show ((false,eval a X.env) :: []:List (Bool×Sem Value))=sx pos (bS [a] X.env) from by rw [hs]; rfl];refine zO hA pos hE I (R:=Wv fun x G1=>qO x 1 G1 R) h fun vs H1 ds G1 us s1 I1 m1 r1 iI q1=>?_;refine kws_cons (wpAny_Constant_int (kws_nil ?_));have I1':I2 X pins σ H1 τ G1 { s1 with toks:=s1.toks+1 }:=I1.mv (I1.inv.tok _) (.refl I1.ab)
 match ds,q1 with
 | [x],q1 =>
  change qO x 1 G1 R at q1;obtain⟨w,rfl,x3⟩:=iI.one;obtain⟨u,rfl,ru⟩:=r1.one;show wpAny (model X.prog X.w) X.A (call (.type "enumerate") [u] [("start",.int 1 s1.toks)]) _ _ _;cases x3 with
  | dJ hq rs=>cases ru; exact E4 I1'.inv m1 hq.sq (fun H2 G2 k ab _=>⟨_,(k.TK hq).sq,rs.mono k⟩) q1
  | ref p =>
   cases ru;unfold qO at q1;dsimp only at q1;split at q1
   ·rename_i ds e;obtain⟨vs,hv,rs⟩:=I1.ab.lst e;refine E4 I1'.inv m1 (.of hv) (fun H2 G2 k ab o=>?_) q1;obtain⟨ws,hw,oI⟩:=ab.lst o;exact⟨ws,.of hw,oI⟩
   ·exact q1.elim
  | tup _ _=>exact q1.elim
  | oW _ _=>exact q1.elim
  | oV _ _=>exact q1.elim
  | eg=>exact q1.elim
  | bl _=>exact q1.elim
  | int _=>exact q1.elim
  | str _=>exact q1.elim
  | exc _=>exact q1.elim
  | E1 _ _=>exact q1.elim
  | nY _ _ _ _=>exact q1.elim
 | [],q1=>exact q1.elim
 | _ :: _ :: _,q1=>exact q1.elim
end
theorem Dj:du "abs" = some (.builtin "abs"):=by decide +kernel
section
variable {X:Cx} {a b tg:Expr} {ta tb:fx} {p pos:Pos}
theorem GW (hg:Gl X "range") (hm:X.mg "range" = none) (ha:fy X a ta) (hb:fy X b tb) (hs:autoParam (bS [a,b] X.env=(false,eval a X.env) :: bS [b] X.env) Ar._auto_1) (zE:autoParam (bS [b] X.env=[(false,eval b X.env)]) Ar._auto_1) (A8:autoParam ((sx pos (bS [b] X.env)).any (·.1)=false) Ar._auto_1):ID X tg (.Call (.Name "range" p) [a,b] [] pos) (J4 ta tb):=by
 intro E pins s σ H τ G R hE I h;have hA:BA X [a,b] (ar ta (ar tb aT)):=cJ ha (cJ hb fT zE) hs;refine Call_ (nI I.inv hg hm boot_range (dN (zO hA pos hE I (R:=fun ds G1=>match ds with | [.int i,.int j]=>(-(2 ^ 62)<=i/\i < 2 ^ 62/\-(2 ^ 62)<=j/\j < 2 ^ 62)/\R (fL i (j - i).toNat) (fun _=>True) G1 | _=>False) ?_ fun vs H1 ds G1 us s1 I1 m1 r1 iI q1=>?_) hs A8))
 ·show ta E τ G fun x G1=>tb E τ G1 fun y G2=>_;have e:(fun (x:D) (G1:Gp)=>tb E τ G1 fun y G2=>match [x,y] with | [.int i,.int j]=>(-(2 ^ 62)<=i/\i < 2 ^ 62/\-(2 ^ 62)<=j/\j < 2 ^ 62)/\R (fL i (j - i).toNat) (fun _=>True) G2 | _=>False)=fun x G1=>tb E τ G1 fun y G2=>match x,y with | .int i,.int j=>(-(2 ^ 62)<=i/\i < 2 ^ 62/\-(2 ^ 62)<=j/\j < 2 ^ 62)/\R (fL i (j - i).toNat) (fun _=>True) G2 | _,_=>False:=by
   funext x G1;congr 1;funext y G2;cases x <;> cases y <;> rfl
  exact e ▸ h
 ·split at q1
  ·rename_i i j;obtain⟨w1,w2,rfl,x3,Nr⟩:=iI.two;cases x3; cases Nr;obtain⟨u1,u2,rfl,GP,GN⟩:=r1.two;obtain⟨t1,rfl⟩:=GP;obtain⟨t2,rfl⟩:=GN;obtain⟨⟨q1,q2,q3,q4⟩,q⟩:=q1;exact call_range_2 (Nx I1.inv m1 q1 q2 q3 q4 q)
  ·exact q1.elim
end
end K2
end
section
namespace L2
open PySem PySem.Spec PyProof.Rows
section
variable {prog:bz} {w:World} {A:cL} {E:Value->av->Prop} {s:av}
theorem Hy{it d:Addr}{od:Obj}{es:Array fc}{i ep:Nat}{ok ov:Value}{Q:Option Value->av->Prop}(hit:nE s.heap it d i es.size ep ok ov)(DD:s.heap.get? d=some od)(dd:od.data=.dict es ep)(hi:i < es.size)
  (hQ:∀ h',IsItemIterOut h' it d (i+1) es.size ep es[i].key es[i].val s.heap.objs.size->h'.get? s.heap.objs.size=some { cls:=.type "tuple",data:=.seq #[es[i].key,es[i].val] }->(∀ b o,b≠it->s.heap.get? b=some o->h'.get? b=some o)->Q (some (.ref s.heap.objs.size)) { s with heap:=h' }) :
  wpAny (model prog w) A (wo (.ref it)) Q E s:=by
 obtain⟨hp,g,dr,tk,os⟩:=s;have ty:Shared.TypeIs ⟨hp,g,dr,tk,os⟩ (.ref it) "dict_itemiterator":=⟨_,hit,rfl⟩;unfold wo;refine ag (DG (eR (name:=mI "__next__") ty iX (cz iX ty FG ?_ (DM _))));refine ag (aw (ag (ag ?_)))
 first | refine ag (iQ ty (aw (ag (nR hit rfl ?_)))) | refine ag (kl ty (aw (ag (nR hit rfl ?_))))
 have NX:eU "dict_itemiterator" = true:=by decide
 rw [NX];show wpAny _ _ (if (dO d == dH)=true then _ else _) _ _ _;rw [if_neg (fun z=>by cases z)];refine ag (aw (ag (fX DD dd ?_)));rw [if_neg (by simp)];refine ag (aw (ag (lL DD dd ?_)));rw [if_neg (by simp)];refine aw ?_;dsimp only;rw [if_neg (show ¬ ((i:Int) < 0) from Int.not_lt.mpr (cf i)),cF,Gs hi];dsimp only;refine ag ?_
 first | refine ag (iQ ty (aw (ag (mQ ty ?_)))) | refine ag (kl ty (aw (ag (mQ ty ?_))))
 show wpAny _ _ (setField (.ref it) 3 (pG ((i:Int)+1)) >>= _) _ _ ⟨hp,g,dr,tk,os⟩;refine ag (lJ hit (by simp) fun h1 e1 s1=>?_);have s1:eN it hp h1:=s1;have e1:nE h1 it d (i+1) es.size ep ok ov:=by
  have e:((i+1:Nat):Int)=(i:Int)+1:=by lia
  unfold nE; rw [e]; simpa [pG] using e1
 have ty1:Shared.TypeIs ⟨h1,g,dr,tk,os⟩ (.ref it) "dict_itemiterator":=⟨_,e1,rfl⟩;refine ag (cS (ag (mQ ty1 (ag (mQ ty1 ?_)))));show wpAny _ _ (qt (.ref it) 6 es[i].key es[i].val) _ _ ⟨h1,g,dr,tk,os⟩;unfold qt;refine ag (wpAny_newTuple ?_);have z1:h1.objs.size=hp.objs.size:=s1.1;have lt:it < hp.objs.size:=aN hit;have e2:nE (h1.push { cls:=.type "tuple",data:=.seq #[es[i].key,es[i].val] }) it d (i+1) es.size ep ok ov:=ay _ e1;have t2:(h1.push { cls:=.type "tuple",data:=.seq #[es[i].key,es[i].val] }).get? hp.objs.size=some { cls:=.type "tuple",data:=.seq #[es[i].key,es[i].val] }:=by rw [<-z1]; exact aO _ rfl
 have k2:∀ b o,b≠it->hp.get? b=some o->(h1.push { cls:=.type "tuple",data:=.seq #[es[i].key,es[i].val] }).get? b=some o:=fun b o hb e=>ay _ (s1.extBut b o hb e);generalize h1.push { cls:=.type "tuple",data:=.seq #[es[i].key,es[i].val] } = h2 at e2 t2 k2;show wpAny _ _ (iH (.ref it) >>= _) _ _ ⟨h2,g,dr,tk,os⟩;rw [z1];refine ag (show wpAny _ _ (iH (.ref it)) _ _ _ from ?_);unfold iH;refine ag (iT e2 rfl (x:=.none) rfl (aw ?_));rw [if_pos rfl];refine ag (iT e2 rfl (x:=ok) rfl (ag (iT e2 rfl (x:=ov) rfl (ag (lJ e2 (by simp) fun h3 e3 s3=>?_)))));have s3:eN it h2 h3:=s3;have e3:nE h3 it d (i+1) es.size ep es[i].key ov:=e3;refine ag (lJ e3 (by simp) fun h4 e4 s4=>?_);have s4:eN it h3 h4:=s4;have e4:nE h4 it d (i+1) es.size ep es[i].key es[i].val:=e4;refine ag (lJ e4 (by simp) fun h5 e5 s5=>?_);have s5:eN it h4 h5:=s5;have e5:IsItemIterOut h5 it d (i+1) es.size ep es[i].key es[i].val hp.objs.size:=e5;refine ag (lJ e5 (by simp) fun h6 e6 s6=>?_);have s6:eN it h5 h6:=s6;have all:∀ b o,b≠it->h2.get? b=some o->h6.get? b=some o:=fun b o hb e=>s6.extBut b o hb (s5.extBut b o hb (s4.extBut b o hb (s3.extBut b o hb e)));exact ag (vw (aw (aw ⟨_,rfl,aw (hQ h6 e6 (all _ _ (Qz lt) t2) fun b o hb e=>all b o hb (k2 b o hb e))⟩)))
end
end L2
namespace L2
open PySem PySem.Spec PyProof.Rows
section
variable {prog:bz} {w:World} {A:cL} {E:Value->av->Prop} {s:av}
theorem LL{it d:Addr}{od:Obj}{es:Array fc}{i ep:Nat}{ok ov:Value}{Q:Option Value->av->Prop}(calm:A.handled=none)(hit:nE s.heap it d i es.size ep ok ov)(DD:s.heap.get? d=some od)(dd:od.data=.dict es ep)(hi:es.size<=i)
  (hQ:∀ h',Heap.ExtBut it s.heap h'->Q none { s with heap:=h' }):wpAny (model prog w) A (wo (.ref it)) Q E s:=by
 have ty:s.TypeIs (.ref it) "dict_itemiterator":=⟨_,hit,rfl⟩;unfold wo;refine ag (DG (eR (name:=mI "__next__") ty iX (cz iX ty FG ?_ (DM _))));refine ag (aw (ag (ag ?_)))
 first | refine ag (iQ ty (aw (ag (nR hit rfl ?_)))) | refine ag (kl ty (aw (ag (nR hit rfl ?_))))
 have NX:eU "dict_itemiterator" = true:=by decide
 rw [NX];show wpAny _ _ (if (dO d == dH)=true then _ else _) _ _ s;rw [if_neg (fun z=>by cases z)];refine ag (aw (ag (fX DD dd ?_)));rw [if_neg (by simp)];refine ag (aw (ag (lL DD dd ?_)));rw [if_neg (by simp)];refine aw ?_;dsimp only;rw [if_neg (show ¬ ((i:Int) < 0) from Int.not_lt.mpr (cf i)),cF,Mx hi];dsimp only;refine ag ?_
 first | refine ag (iQ ty (aw (?_))) | refine ag (kl ty (aw (?_)))
 show wpAny _ _ (setField (.ref it) 2 .none >>= _) _ _ s;refine ag (sP hit rfl (by simp) (show wpAny _ _ (newExc (.type "StopIteration") [] >>= _) _ _ _ from ag ?_));simp only [newExc,newTuple];refine ag (cy (ag (m:=nS _ _) (BG (a:=dH) (by first | rfl | (simp only [nS]; rfl)) (cy ?_ (by size_fits)))) (by size_fits));simp only [raiseNew];refine ag (wpAny_handled ?_);rw [show A.in1.handled=none from calm];refine ag (aw (wpAny_throw ?_));refine ag (oM (T:="StopIteration") (b:=true) ⟨_,aO _ rfl,rfl⟩ isSubtype_stop (?_));exact aw (hQ _ (((fw ..).extBut.push _).push _))
end
end L2
namespace L2
open PySem PySem.Spec PyProof.Rows
section
variable {prog:bz} {w:World} {A:cL} {E:Value->av->Prop} {s:av}
theorem uC (d:Addr) (ns:(d == cO)=false):MeetsIn prog w (Builtin.«dict.items» ⟨[.ref d],[]⟩) (fun _ R s=>s.TypeIs (.ref d) "dict"/\R (.ok (.ret (.ref s.heap.objs.size))) { s with heap:=s.heap.push { cls:=.type "dict_items",data:=.fields #[.ref d] } }):=by
 refine .of_wp ?_;rintro A R s ⟨ty,h⟩;unfold Builtin.«dict.items» Builtin.Dict.noArgs;refine ag (ag (xD ty (show wpAny _ _ (pure d) _ _ s from aw ?_)));show wpAny _ _ (ke d >>= _) _ _ s;unfold ke;rw [if_neg (fun z=>by rw [ns] at z; cases z)];exact ag (aw (ag (cy (aw ⟨_,rfl,h⟩))))
theorem wM{v d:Addr}{od:Obj}{es:Array fc}{ep:Nat}{Q:Value->av->Prop}(hv:s.heap.IsItemsView v d)(DD:s.heap.get? d=some od)(dd:od.data=.dict es ep)
  (hQ:Q (.ref s.heap.objs.size) { s with heap:=s.heap.push { cls:=.type "dict_itemiterator",data:=.fields #[.none,.bool false,.ref d,.int 0 0,.int es.size 0,.int ep 0,.none,.none] } }) :
  wpAny (model prog w) A (Au (.ref v)) Q E s:=by
 obtain⟨ov,hov,hcv,hdv⟩:=id hv;refine ny hv.typeIs F.slot_dict_items_iter (cz F.slot_dict_items_iter hv.typeIs F.entry_dict_items_iter ?_ (F.args_dict_items_iter_1 _));unfold Builtin.«dict_items.__iter__» Builtin.Dict_items.dictOf;refine ag (aw (ag (ag (iT hov hdv (x:=.ref d) rfl (aw (ag ?_))))));unfold Builtin.Dict_items.newIterator;refine ag (fX DD dd (ag (lL DD dd ?_)));have NX:eU "dict_itemiterator" = true:=by decide
 rw [NX];dsimp only;rw [if_pos (show true=true from rfl)];refine cy (aw ⟨_,rfl,"dict_itemiterator",_,⟨_,aO _ rfl,rfl⟩,F.slot_dict_itemiterator_next.lookup,?_⟩) ?_
 ·simpa [pG,pI] using hQ
 ·simp only [sizeOk,pI,aR,az,ah,aA,cI]; lia
end
noncomputable def aaM(a:Addr)(o:Obj)(es:Array fc)(ps:List (V×V)):It :=
 ⟨fun i H=>(∃ u,H a=some (.jZ o u))/\i < es.size,fun i H v H'=>∃ T p,v=.ref T/\H T=none/\H'=upd H T (.tup [p.1,p.2])/\ps[i]?=some p,fun i H=>(∃ u,H a=some (.jZ o u))/\es.size<=i⟩
theorem wx{P:bz}{w:World}{K:ai}{elts:List Expr}{kk:Nat}{pos:Pos}(a it:Addr)(o:Obj)(es:Array fc)(ep:Nat)(ps:List (V×V))(dd:o.data=.dict es ep)(hk:∀ i (h:i < es.size),∃ p,ps[i]?=some p/\RelV p.1 es[i].key/\RelV p.2 es[i].val) :
  Turn P w K (.Tuple elts kk pos) (aaM a o es ps) [it] it (fun i h=>∃ ok ov,nE h it a i es.size ep ok ov) where
 mem:=by simp
 obj:=by
  rintro i h ⟨ok,ov,st⟩ b hb;have e:b=it:=by simpa using hb
  subst e;exact⟨_,st,fun v z=>by cases z⟩
 keep:=by rintro i h h' ⟨ok,ov,st⟩ k; exact⟨ok,ov,k it (by simp) _ st⟩
 item:=by
  intro X hP hw hK hc i pins s σ H E I hf st hg;obtain⟨ok,ov,st⟩:=st;subst hP hw hK;obtain⟨⟨u,hu⟩,hi⟩:=hg;obtain⟨p,hp,r1,r2⟩:=hk i hi;have RL:H s.heap.objs.size=none:=I.cp.fresh (aB _);have UY:it≠s.heap.objs.size:=bh (aN st);refine Hy st (I.cp a _ hu).1 dd hi fun h' ho hT kk=>?_;refine⟨_,rfl,?_⟩;have I1:Inv X pins σ (upd H s.heap.objs.size (.tup [p.1,p.2])) { s with heap:=h',toks:=s.toks } :=
   I.t8 (fp:=[it]) hf (fun b o hb q=>kk b o (fun z=>hb (by simp [z])) q) (aB _)
    ⟨by show 2<=aY; decide,[es[i].key,es[i].val],.cons r1 (.cons r2 .nil),⟨_,hT,rfl,_,rfl⟩⟩
  refine MN (s:={ s with heap:=h' }) ho fun h2 RI zE=>?_;have f1:∀ b∈[it],mz X pins (upd H s.heap.objs.size (.tup [p.1,p.2])) b:=fun b hb=>(hf b hb).upd (by rw [List.mem_singleton.mp hb]; exact UY);have I2:Inv X pins σ (upd H s.heap.objs.size (.tup [p.1,p.2])) { s with heap:=h2,toks:=s.toks } :=
   Inv.mU (s:={ s with heap:=h',toks:=s.toks }) (t':=s.toks) (fp:=[it]) I1 f1 fun b o hb q=>(zE.2 b (fun z=>hb (by simp [z]))).trans q
  exact⟨.ref s.heap.objs.size,_,I2,rfl,⟨_,p,rfl,RL,rfl,hp⟩,⟨_,_,RI⟩,fun b hb=>(f1 b hb).1⟩
 done:=by
  intro X hP hw hK hc i pins s σ H E I hf st hg;obtain⟨ok,ov,st⟩:=st;subst hP hw hK;obtain⟨⟨u,hu⟩,hi⟩:=hg;obtain⟨f0,f1,f2,f3,f4,f5⟩:=hf it (by simp);exact LL (I.ok.hd hc) st (I.cp a _ hu).1 dd hi fun h' eb=>⟨rfl,I.turned (t':=s.toks) (fun b o hb e=>eb b o hb e) f0 f1 f3 f4 f5⟩
 self:=by
  rintro A i s Q E ⟨ok,ov,st⟩ h;have ty:s.TypeIs (.ref it) "dict_itemiterator":=⟨_,st,rfl⟩;refine ny ty iY (cz iY ty k0 ?_ (DN _));show wpAny _ _ (ret (.ref it)) _ _ s;exact aw ⟨_,rfl,"dict_itemiterator",_,ty,F.slot_dict_itemiterator_next.lookup,h⟩
end L2
end
section
namespace K2
open PySem PySem.Spec PyProof.Rows L2
section
variable {X:Cx} {elts:List Expr} {kk:Nat} {t9 apos pz:Pos} {o:Expr} {to:fx}
theorem ly.item{K:ai}{H:Hp}{kv:List (List Key×V)}{kvs:List (D×D)}(h:ly K H kv kvs):∀ {i:Nat} {q:D×D},kvs[i]?=some q->∃ p,kv[i]?=some p/\q.1=.tup (p.1.map dM)/\bW K H p.2 q.2:=by
 induction h using ly.ind with
 | nil=>intro i q e; simp at e
 | @cons k v d r t rd rs ih =>
  intro i q e;cases i with
  | zero=>simp at e; subst e; exact⟨_,rfl,rfl,rd⟩
  | succ i =>
   obtain⟨p,h1,h2⟩:=ih (i:=i) (q:=q) (by simpa using e);exact⟨p,by simpa using h1,h2⟩
theorem ly.len{K:ai}{H:Hp}{kv:List (List Key×V)}{kvs:List (D×D)}(h:ly K H kv kvs):kv.length=kvs.length:=by
 have:=congrArg cV h.keys;simpa using this.symm
theorem GX (ho:fy X o to) (yM:autoParam (DH o "items" X.env (eval o X.env)=eval o X.env) Ar._auto_1) (yL:autoParam ((apos.endLine == pz.line)=true) Ar._auto_1) :
  ID X (.Tuple elts kk t9) (.Call (.Attribute o "items" apos) [] [] pz) (CF to):=by
 intro E pins s σ H τ G R hE I h;refine vA yM yL (i4 ho hE I h fun x H1 d G1 v s1 I1 m1 r1 iI q1=>?_);cases d with
 | gN kvs =>
  obtain⟨h1,q1⟩:=q1;obtain⟨t1,t2⟩:=lQ pins s1 σ H1 G1 x _ v I1.inv I1.ab r1 iI trivial;have main:∃ (a:Addr) (ob:Obj) (u:HO) (es:Array fc) (ep:Nat) (ps:List (V×V)),x=.ref a/\(a == cO)=false/\H1 a=some (.jZ ob u)/\ob.data=.dict es ep/\(∀ i (h:i < es.size),∃ p,ps[i]?=some p/\RelV p.1 es[i].key/\RelV p.2 es[i].val)/\kvs.length=es.size /\
    (∀ (i:Nat) (q:D×D),kvs[i]?=some q->∃ p,ps[i]?=some p/\bW X.K H1 p.1 q.1/\bW X.K H1 p.2 q.2):=by
   cases iI with
   | oW hq rs =>
    rename_i a o kv;cases rs with
    | nil =>
     obtain⟨z,ns,vs,rel,ob,es,ep,ho,ex,dd,hko,hp,nd⟩:=(I1.inv.cp a _ hq).2;have eo:ob=o:=by have:=(I1.inv.cp a _ hq).1; rw [ho] at this; exact aX this
     subst eo;have l1:es.size=vs.length:=by simpa using hp.length
     have l2:([]:List (Key×V)).length=vs.length:=g8 rel;have l3:es.size=0:=by rw [l1,<-l2]; rfl
     exact⟨a,ob,_,es,ep,[],rfl,ns,hq,dd,fun i h=>by lia,by rw [l3]; rfl,fun i q e=>by simp at e⟩
    | @cons j _ _ _ _ _ _=>cases j <;> simp [dM,kc] at h1
   | oV hq rs =>
    rename_i a o kv;obtain⟨z,ns,xs,rel,ob,es,ep,ho,ex,dd,hl,nd⟩:=(I1.inv.cp a _ hq).2;have eo:ob=o:=by have:=(I1.inv.cp a _ hq).1; rw [ho] at this; exact aX this
    subst eo;have l1:=congrArg cV hl;rw [aE,eX] at l1;have l2:kv.length=xs.length:=g8 rel;have l3:=rs.len;refine⟨a,ob,_,es,ep,(kv.zip xs).map fun z=>(V.ref z.2.2.1,z.1.2),rfl,ns,hq,dd,fun i hi=>?_,by lia,fun i q e=>?_⟩
    ·have i2:i < xs.length:=by lia
     have i3:i < kv.length:=by lia
     have ee:es[i]=entryOfKey (ip (cE X.prog X.w)) xs[i]:=by
      have:=congrArg (fun l=>l[i]?) hl;simp only [br,aq i2] at this;simpa [hi] using this
     refine⟨(V.ref xs[i].2.1,kv[i].2),by rw [br,aq (by rw [jd]; lia),sS]; rfl,?_⟩;rw [ee];exact⟨rfl,(vP rel i i3 i2).2.2⟩
    ·obtain⟨p,hp,ek,rp⟩:=rs.item e;have i3:i < kv.length:=(List.getElem?_eq_some_iff.mp hp).1;have i2:i < xs.length:=by lia
     have pr:=vP rel i i3 i2;rw [aq i3] at hp;cases hp;refine⟨(V.ref xs[i].2.1,kv[i].2),by rw [br,aq (by rw [jd]; lia),sS]; rfl,?_,rp⟩;rw [ek];exact .tup pr.2.1 (vK _)
  obtain⟨a,ob,u,es,ep,ps,rfl,hm,hu,dd,hk,hlen,TZ⟩:=main;cases r1;refine⟨"dict","dict.items",cB,fB,qp,t1,t2,kW rfl (w6 ?_)⟩;refine xM fB t1 pW (oN _) (uC a hm) ⟨t1,?_⟩;have I2:Inv X pins σ H1 { s1 with heap:=s1.heap.push { cls:=.type "dict_items",data:=.fields #[.ref a] } }:=I1.inv.kept (t':=s1.toks) fun b o e=>ay _ e;refine wM (s:={ s1 with heap:=s1.heap.push { cls:=.type "dict_items",data:=.fields #[.ref a] } }) ⟨_,aO _ rfl,rfl,rfl⟩ (ay _ (I1.inv.cp a _ hu).1) dd ?_;refine⟨_,[_],_,_,H1,G1,kvs.map (fun p=>.tup [p.1,p.2]),_,rfl,I2.kept (t':=s1.toks) fun b o e=>ay _ e,m1,wx a _ ob es ep ps dd hk,⟨.none,.none,aO _ rfl⟩,fun b hb=>?_,fun i H2 G2 k ab _=>?_,q1⟩
  ·have e:=List.mem_singleton.mp hb;subst e;exact I2.yR (aB _) (I2.cp.fresh (aB _))
  ·have Bb:=k.jZ _ _ _ hu;refine⟨fun d hd=>?_,fun hle=>⟨⟨u,Bb⟩,by rw [<-hlen]; simpa using hle⟩⟩;rw [br] at hd;cases FP:kvs[i]? with
   | none=>rw [FP] at hd; cases hd
   | some q =>
    rw [FP] at hd;obtain⟨p,hp,rk,rp⟩:=TZ i q FP;have hi:i < es.size:=by rw [<-hlen]; exact(List.getElem?_eq_some_iff.mp FP).1
    refine⟨⟨⟨u,Bb⟩,hi⟩,?_⟩;rintro x H3 ⟨T,p',ex,hT,e3,hy⟩;subst ex e3;rw [hp] at hy;cases hy;have ed:D.tup [q.1,q.2]=d:=by simpa using hd
    subst ed;exact⟨.tup bU (.cons ((rk.mono k).mono (.new hT)) (.cons ((rp.mono k).mono (.new hT)) .nil)),.J9 ab hT⟩
 | _=>exact q1.elim
end
noncomputable def eOk(e:fc)(p:Int×Int):Bool:=e.hash == hashInt p.1&&rX p.1 e.key&&rX p.2 e.val
noncomputable def RM:List fc->List (Int×Int)->Bool
 | [],[]=>true
 | e :: es,p :: ps=>eOk e p&&RM es ps
 | _,_=>false
noncomputable def Bp(K:ai)(a:Addr)(kv:List (Int×Int)):Bool:=match K.lookup a with
 | some o=>o.cls == .type "dict" && o.dict == none&&o.slots.toList == []&&(match o.data with | .dict es _=>RM es.toList kv | _=>false)
 | none=>false
noncomputable def SQ(kv:List (Int×Int)):List (Key×V):=kv.map fun p=>(.inl p.1,.int p.2)
theorem isInt_shape{i:Int}{v:Value}(h:rX i v=true):∃ t,v=.int i t:=by
 rcases eh (k:=.inl i) h with ⟨j,t,e,rfl⟩ | ⟨_,_,e,_⟩
 ·cases e; exact⟨t,rfl⟩
 ·cases e
section
variable {P:bz} {w:World}
theorem yX:∀ (es:List fc) (kv:List (Int×Int)),RM es kv=true->∃ vs,KV (SQ kv) vs/\Pairs (cE P w) es vs/\vs.map (·.1)=kv.map (fun p=>(vB p.1:Key))/\∀ e∈es,∃ k,(cE P w).is k e.key=true/\e.hash=(cE P w).hash k
 | [],[],_=>⟨[],.nil,.nil,rfl,fun e h=>by cases h⟩
 | [],_ :: _,h=>bw (show false=true from h)
 | _ :: _,[],h=>bw (show false=true from h)
 | e :: es,p :: ps,h=>by
  have h:(eOk e p&&RM es ps)=true:=h;rw [aK] at h;obtain⟨vs,h1,h2,h3,h4⟩:=yX es ps h.2;have he:=h.1;unfold eOk at he;rw [aK,aK] at he;obtain⟨t,ev⟩:=isInt_shape he.2;refine⟨(.inl p.1,e.val) :: vs,.cons ⟨rfl,t,ev⟩ h1,.cons he.1.2 rfl h2,by rw [aj,aj,h3],fun x hx=>?_⟩;rcases List.mem_cons.mp hx with rfl | hx
  ·exact⟨.inl p.1,he.1.2,beq_iff_eq.mp he.1.1⟩
  ·exact h4 x hx
theorem Vd{K:ai}{a:Addr}{kv:List (Int×Int)}{h:Heap}(Y:K.In h)(e:Bp K a kv=true)(nd:(kv.map (·.1)).Nodup):∃ vs,KV (SQ kv) vs/\h.DictOf (cE P w) a vs:=by
 unfold Bp at e;cases hl:K.lookup a with
 | none=>rw [hl] at e; exact bw (show false=true from e)
 | some o =>
  rw [hl] at e;dsimp only at e;rw [aK,aK,aK] at e;obtain⟨⟨⟨e1,e2⟩,e3⟩,e4⟩:=e;obtain⟨c,dd,dt,⟨sl⟩⟩:=o;have f1:c=.type "dict":=beq_iff_eq.mp e1;have f2:dd=none:=beq_iff_eq.mp e2;have f3:sl=[]:=beq_iff_eq.mp e3;clear e1 e2 e3;subst f1;subst f2;subst f3;cases dt with
  | dict es ep =>
   obtain⟨vs,h1,h2,h3,h4⟩:=yX (P:=P) (w:=w) es.toList kv e4;refine⟨vs,h1,_,es,ep,Y _ _ hl,⟨rfl,rfl,rfl⟩,rfl,?_,h2,?_⟩
   ·intro e he;obtain⟨k,q1,q2⟩:=h4 e (Array.mem_toList_iff.mpr he);exact⟨k,q1,q2⟩
   ·rw [h3];have:kv.map (fun p=>(vB p.1:Key))=(kv.map (·.1)).map vB:=by rw [bC]; rfl
    rw [this,List.nodup_iff_pairwise_ne,lz];exact(List.nodup_iff_pairwise_ne.mp nd).imp fun qP e=>qP (Sum.inl.inj e)
  | _=>exact bw (show false=true from e4)
end
end K2
namespace K2
open PySem PySem.Spec PyProof.Rows L2
section
variable {X:Cx} {x:Str} {a:Addr} {kv:List (Int×Int)} {p px pos:Pos}
theorem S8{K:ai}{H:Hp}:∀ kv:List (Int×Int),lI K H (SQ kv) (aS kv)
 | []=>.nil
 | p :: kv=>.cons (k:=.inl p.1) (.int p.2) (S8 kv)
theorem AO (hg:Gl X "dict") (hm:X.mg "dict" = none) (Z5:Gl X x) (W6:X.mg x=some (.ref a)) (ns:(a == cO)=false) (hD:Bp X.K a kv=true) (nd:(kv.map (·.1)).Nodup) (hz:kv.length<=1000) (LW:autoParam ((x == ("__debug__" : Str))=false) Ad._auto_1)
  (hs:autoParam (bS [.Name x px] X.env=[(false,eval (.Name x px) X.env)]) Ar._auto_1):fy X (.Call (.Name "dict" p) [.Name x px] [] pos) (E9 kv):=by
 intro E pins s σ H τ G Q hE I h;refine jr (nI I.inv hg hm Di ?_);refine dN ?_ hs rfl;rw [hs];show wpAny _ _ (spliced ((false,eval (.Name x px) X.env) :: sx pos (bS [] X.env))) _ _ s;refine pH ?_;refine Cv I.inv Z5 W6 ?_ LW;refine zK ?_;obtain⟨vs,rel,dd⟩:=Vd (P:=X.prog) (w:=X.w) I.inv.JW hD nd;have hl:vs.length=kv.length:=by rw [<-rel.length]; unfold SQ; rw [aE]
 have sz:aY=16777216:=cI;refine kt_call_dict ns dd (by lia) fun h' Bq hs=>?_;have hp:H s.heap.objs.size=none:=I.inv.cp.fresh (aB _);have zz:(SQ kv).length<=aY:=by unfold SQ; rw [aE]; lia
 refine⟨.ref _,upd H s.heap.objs.size (.dK (SQ kv)),.ref _,_,I.inv.laid (a:=s.heap.objs.size) (o:=.dK (SQ kv)) (t':=s.toks) (fun b q hq=>?_) (aB _) (CZ zz (beq_eq_false_iff_ne.mpr (da (bh I.inv.big))) rel Bq),.new I.ab hp (.dk bU (S8 kv)),rfl,.ref _,h _ (I.ab.free hp)⟩;exact(hs.2 b (bh (aN hq))).trans (ay _ hq)
end
end K2
end
section
namespace K2
open PySem PySem.Spec PyProof.Rows L2
section
variable {X:Cx}
theorem Ff:pF X (.type "tuple") RY:=by
 intro pins s σ H G xs ds us Q I ab rx rd q;unfold RY at q;split at q
 ·rename_i x;obtain⟨v,rfl,r⟩:=rd.one;have VC:∀ (l:Addr) (ys:List V) (zs:List D),v=.ref l->oK X.K H l ys->ba X.K H ys zs->Q (.tup zs) G->wpAny (model X.prog X.w) X.A (call (.type "tuple") us) (su X pins σ H G Q) X.xe s:=fun l ys zs e h rs hq=>by
   subst e;exact fZ (Ag pins s σ H _ us (zH X.K H G Q) I rx ⟨l,ys,rfl,.inl ⟨h,fun p hp=>⟨.tup zs,G,.J9 ab hp,.tup bU (rs.mono (.new hp)),hq⟩⟩⟩) fun _ _ z=>.of z
  cases r with
  | dJ hq rs=>exact VC _ _ _ rfl hq.sq rs q
  | ref l =>
   unfold qM at q;dsimp only at q;cases hg:G l with
   | none=>rw [hg] at q; exact q.elim
   | some g =>
    rw [hg] at q;cases g with
    | lst ds =>
     obtain⟨vs,hv,rs⟩:=ab.lst hg;exact VC _ _ _ rfl (.of hv) rs q
    | ins _ _=>exact q.elim
    | qT _=>exact q.elim
    | eV kvs=>exact q.elim
  | _=>exact bD q
 ·exact q.elim
end
end K2
end
section
namespace L2
open PySem PySem.Spec PyProof.Rows
open AutoSeq1 (wpAny_loadPart')
section
variable {prog:bz} {w:World} {A:cL} {E:Value->av->Prop} {s:av}
theorem Oa{it t:Addr}{i:Nat}{items:Array Value}{x:Value}{Q:Value->av->Prop}(hit:s.heap.IsTupleIter it t i)(ht:s.heap.IsTuple t items)(hx:items[i]?=some x)
  (hQ:∀ h',h'.IsTupleIter it t (i+1)->eN it s.heap h'->Q x { s with heap:=h' }):wpAny (model prog w) A (ie (.ref it)) Q E s:=by
 obtain⟨o,ho,hc,hd⟩:=id hit;obtain⟨ol,SY,_,nl,Yl⟩:=ht;unfold ie;refine ag (eR (name:=mI "__next__") hit.typeIs jX (cz jX hit.typeIs KU ?_ (IW _)));show wpAny _ _ (field (.ref it) 0 >>= _) _ _ s;refine ag (iT ho hd (x:=.ref t) rfl ?_);show wpAny _ _ (if (dO t == dH)=true then _ else _) _ _ s;rw [if_neg (show ¬ ((dO t == dH)=true) from dF)];show wpAny _ _ (field (.ref it) 1 >>= _) _ _ s;refine ag (iT ho hd (x:=.int i 0) rfl ?_);show wpAny _ _ (MQ (.ref t) >>= _) _ _ s;refine ag (km SY Yl ?_);simp only [cF,hx];refine ag (sP ho hd (by simp) (aw ⟨x,rfl,aw (hQ _ ?_ (fw ..))⟩));exact⟨_,gF _ ho (Qx (qe hd _)),(Obj.cls_mapFields ..).trans hc,by rw [qe hd]; simp [pG]⟩
theorem AR{it t:Addr}{i:Nat}{items:Array Value}{Q:Value->av->Prop}(hh:A.handled=none)(hit:s.heap.IsTupleIter it t i)(ht:s.heap.IsTuple t items)(hx:items[i]?=none)
  (hE:∀ h' e,Heap.ExtBut it s.heap h'->(∃ o,h'.get? e=some o/\o.cls=.type "StopIteration")->E (.ref e) { s with heap:=h' }):wpAny (model prog w) A (ie (.ref it)) Q E s:=by
 obtain⟨o,ho,hc,hd⟩:=id hit;obtain⟨ol,SY,_,nl,Yl⟩:=ht;unfold ie;refine ag (eR (name:=mI "__next__") hit.typeIs jX (cz jX hit.typeIs KU ?_ (IW _)));show wpAny _ _ (field (.ref it) 0 >>= _) _ _ s;refine ag (iT ho hd (x:=.ref t) rfl ?_);show wpAny _ _ (if (dO t == dH)=true then _ else _) _ _ s;rw [if_neg (show ¬ ((dO t == dH)=true) from dF)];show wpAny _ _ (field (.ref it) 1 >>= _) _ _ s;refine ag (iT ho hd (x:=.int i 0) rfl ?_);show wpAny _ _ (MQ (.ref t) >>= _) _ _ s;refine ag (km SY Yl ?_);simp only [cF,hx];refine ag (wpAny_rule (ag (sP ho hd (by simp) ?_)));show wpAny _ _ (newExc (.type "StopIteration") [] >>= _) _ _ _;refine ag ?_;simp only [newExc,newTuple];refine ag (cy ?_ (by size_fits));refine ag (m:=nS _ _) (BG (a:=dH) (by first | rfl | (simp only [nS]; rfl)) ?_);refine cy ?_ (by size_fits);simp only [raiseNew];refine ag (wpAny_handled ?_)
 first | rw [show A.in1.handled=none from hh] | rw [hh]
 refine ag (aw (wpAny_throw ?_));exact hE _ _ (((fw ..).extBut.push _).push _) ⟨_,aO _ rfl,rfl⟩
end
theorem L7{prog:bz}{w:World}{A:cL}(hh:A.handled=none)(it l:Addr)(qP:l≠it)(items:Array Value) :
  Draws prog w A it [it,l] items.size (fun i v=>items[i]?=some v) (fun i h=>h.IsTupleIter it l i/\h.IsTuple l items) where
 live:=fun _ _ st=>let ⟨o,ho,_⟩:=st.1; ⟨o,ho⟩
 frame:=fun _ _ _ st hk=>⟨st.1.at fun o e=>hk it (by simp) o e,by obtain⟨o,ho,r⟩:=st.2; exact⟨o,hk l (by simp) o ho,r⟩⟩
 item:=fun i s Q E hi st hQ=>by
  refine Oa st.1 st.2 (x:=items[i]) (by simp [hi]) fun h' HH OS=>?_;exact hQ _ h' s.toks (by simp [hi]) ⟨HH,st.2.extBut OS.extBut qP⟩ OS
 done:=fun s Q E st hE=>AR hh st.1 st.2 (by simp) hE
theorem Ia{prog:bz}{w:World}{A:cL}(hh:A.handled=none)(it l:Addr)(i:Nat)(items:Array Value)(hx:items[i]?=none) :
  Draws prog w A it [it,l] i (fun _ _=>True) (fun j h=>j=i/\h.IsTupleIter it l i/\h.IsTuple l items) where
 live:=fun _ _ st=>let ⟨o,ho,_⟩:=st.2.1; ⟨o,ho⟩
 frame:=fun _ _ _ st hk=>⟨st.1,st.2.1.at fun o e=>hk it (by simp) o e,by obtain⟨o,ho,r⟩:=st.2.2; exact⟨o,hk l (by simp) o ho,r⟩⟩
 item:=fun j s Q E hi st hQ=>absurd st.1 (bh hi)
 done:=fun s Q E st hE=>AR hh st.2.1 st.2.2 hx hE
theorem Et(l:Addr)(items:Array Value)(n:Nat)(Vg:Option Addr)(sl:Array (Option Value)) :
  Meets (Builtin.«enumerate.__new__» ⟨[.type "enumerate",.ref l],[]⟩) (fun _ R s=>s.heap.get? l=some { cls:=.type "tuple",dict:=Vg,data:=.seq items n,slots:=sl } /\
   R (.ok (.ret (.ref (s.heap.push { cls:=.type "tuple_iterator",data:=.fields #[.ref l,.int 0 0] }).objs.size)))
    { s with heap:=(s.heap.push { cls:=.type "tuple_iterator",data:=.fields #[.ref l,.int 0 0] }).push { cls:=.type "enumerate",data:=.fields #[.none,.bool false,.ref s.heap.objs.size,pG 0,.none,.none] } }) :=
 .of_wp fun prog w A R s h=>by
  obtain⟨hp,g,d,tk,os⟩:=s; obtain⟨hl,h⟩:=h;have RE:=sub_enumerate;have hL:Heap.IsTuple (Shared.heap ⟨hp,g,d,tk,os⟩) l items:=⟨_,hl,rfl,n,rfl⟩
  wp_walk using bx hl
  refine wpAny_stack_any fun st=>aw ?_;split
  ·rename_i c _ _ _ _ _;cases (c == zI "enumerate")
   ·wp_walk using bx hl,lK hL
    exact⟨_,rfl,h⟩
   ·wp_walk using bx hl,lK hL
    exact⟨_,rfl,h⟩
  ·wp_walk using bx hl,lK hL
   exact⟨_,rfl,h⟩
section
variable {prog:bz} {w:World} {A:cL} {E:Value->av->Prop} {s:av}
theorem Im{l:Addr}{items:Array Value}{Q:Value->av->Prop}(hL:s.heap.IsTuple l items)
  (h:∀ h',IsEnum h' (s.heap.objs.size+1) s.heap.objs.size 0 .none->h'.IsTupleIter s.heap.objs.size l 0->h'.objs.size=s.heap.objs.size+2 ->
   (∀ b o,s.heap.get? b=some o->h'.get? b=some o)->Q (.ref (s.heap.objs.size+1)) { s with heap:=h' }) :
  wpAny (model prog w) A (call (.type "enumerate") [.ref l]) Q E s:=by
 obtain⟨⟨c,Vg,dt,sl⟩,hl,hc,n,hd⟩:=hL;replace hc:c=.type "tuple":=hc;replace hd:dt=.seq items n:=hd;subst hc hd;refine callType_new F.called_enumerate (by decide) (F.typeCall_enumerate_1 _) (F.newCall_enumerate_1 _) (fun obj=>F.args_object_init_2 obj _) F.entry_enumerate_new (Et l items n Vg sl) ⟨hl,?_⟩;have hz:(s.heap.push { cls:=.type "tuple_iterator",data:=.fields #[.ref l,.int 0 0] }).objs.size=s.heap.objs.size+1:=gL ..;show _/\_;rw [hz];have he:IsEnum ((s.heap.push { cls:=.type "tuple_iterator",data:=.fields #[.ref l,.int 0 0] }).push { cls:=.type "enumerate",data:=.fields #[.none,.bool false,.ref s.heap.objs.size,pG 0,.none,.none] }) (s.heap.objs.size+1) s.heap.objs.size 0 .none:=by
  have:=aO (s.heap.push { cls:=.type "tuple_iterator",data:=.fields #[.ref l,.int 0 0] }) (o:={ cls:=.type "enumerate",data:=.fields #[.none,.bool false,.ref s.heap.objs.size,pG 0,.none,.none] }) rfl;rw [hz] at this; exact this
 refine⟨⟨_,he,rfl⟩,h _ he ⟨_,ay _ (aO _ rfl),rfl,rfl⟩ (by rw [gL,hz]) fun b o x=>ay _ (ay _ x)⟩
end
noncomputable def aaN(K:ai)(a:Addr):It :=
  ⟨fun i H=>∃ xs x,vj K H a xs/\xs[i]?=some x,
   fun i H v H'=>∃ T y,v=.ref T/\H T=none/\H'=upd H T (.tup [.int i,y])/\∀ xs,vj K H a xs->xs[i]?=some y,
   fun i H=>∃ xs,vj K H a xs/\xs.length<=i⟩
theorem Gz{P:bz}{w:World}{K:ai}{elts:List Expr}{kk:Nat}{pos:Pos}(a e it:Addr)(qP:e≠it)(hai:a≠it)(hea:e≠a) :
  Turn P w K (.Tuple elts kk pos) (aaN K a) [e,it] e (fun i h=>(∃ old,IsEnum h e it i old)/\h.IsTupleIter it a i) where
 mem:=by simp
 obj:=fun i h MD b hb=>by
  obtain⟨⟨old,he⟩,hit⟩:=MD;rcases List.mem_cons.mp hb with rfl | hb
  ·exact⟨_,he,fun v z=>by cases z⟩
  ·have e:b=it:=by simpa using hb
   subst e;obtain⟨o,e,c,d⟩:=hit;exact⟨o,e,fun v z=>by rw [d] at z; cases z⟩
 keep:=(by rintro i h h' ⟨⟨old,he⟩,hit⟩ k; exact⟨⟨old,k e (by simp) _ he⟩,hit.at fun o q=>k it (by simp) o q⟩)
 item:=by
  intro X hP hw hK hc i pins s σ H E I hf st hg;obtain⟨⟨old,he⟩,hit⟩:=st;subst hP hw hK;obtain⟨xs,x,hq,hx⟩:=hg;obtain⟨bG,rv,p,hz⟩:=I.tuple hq;have RL:H s.heap.objs.size=none:=I.cp.fresh (aB _);have heT:e≠s.heap.objs.size:=bh (aN he);have UY:it≠s.heap.objs.size:=by obtain⟨o,q,_⟩:=hit; exact bh (aN q)
  have hl:=rv.length;have tG:i < xs.length:=(List.getElem?_eq_some_iff.mp hx).1;refine wpAny_pyNext_enum_itemD (L7 (show X.A.in1.handled=none from I.ok.hd hc) it a hai bG.toArray) he ⟨hit,p⟩ (by simp; lia) qP (by simp [qP,hea]) fun u h' tk hu ho HH hT hsz kk=>?_;have ru:RelV x u:=by
   obtain⟨u2,WU,GN⟩:=rv.get hx;have:u2=u:=by
    have h3:bG[i]?=some u:=by simpa using hu
    rw [WU] at h3; injection h3
   rw [<-this]; exact GN
  refine⟨_,rfl,?_⟩;have I1:Inv X pins σ (upd H s.heap.objs.size (.tup [.int i,x])) { s with heap:=h',toks:=tk+1 } :=
   I.t8 (fp:=[e,it]) hf (fun b o hb q=>kk b o (fun z=>hb (by simp [z])) (fun z=>hb (by simp [z])) q) (aB _)
    ⟨by show 2<=aY; decide,[.int i tk,u],.cons ⟨_,rfl⟩ (.cons ru .nil),⟨_,hT,rfl,_,rfl⟩⟩
  refine Qe (s:={ s with heap:=h',toks:=tk+1 }) ho fun h2 RI zE=>?_;have f1:∀ b∈[e,it],mz X pins (upd H s.heap.objs.size (.tup [.int i,x])) b:=fun b hb=>(hf b hb).upd (by
   rcases List.mem_cons.mp hb with rfl | hb
   ·exact heT
   ·rw [List.mem_singleton.mp hb]; exact UY)
  have I2:Inv X pins σ (upd H s.heap.objs.size (.tup [.int i,x])) { s with heap:=h2,toks:=tk+1 } :=
   Inv.mU (s:={ s with heap:=h',toks:=tk+1 }) (t':=tk+1) (fp:=[e,it]) I1 f1 fun b o hb q=>(zE.2 b (fun z=>hb (by simp [z]))).trans q
  refine⟨.ref s.heap.objs.size,_,I2,rfl,⟨_,x,rfl,RL,rfl,fun ys hy=>by rw [I.AA hy hq]; exact hx⟩,⟨⟨u,?_⟩,?_⟩,fun b hb=>(f1 b hb).1⟩
  ·simpa using RI
  ·exact HH.1.at fun o q=>(zE.2 it (da qP)).trans q
 done:=by
  intro X hP hw hK hc i pins s σ H E I hf st hg;obtain⟨⟨old,he⟩,hit⟩:=st;subst hP hw hK;obtain⟨xs,hq,hx⟩:=hg;obtain⟨bG,rv,p,hz⟩:=I.tuple hq;have hl:=rv.length;refine wpAny_pyNext_enum_endD (Ia (show X.A.in1.handled=none from I.ok.hd hc) it a i bG.toArray (by simp; lia)) he ⟨rfl,hit,p⟩ fun h' eb=>⟨rfl,?_⟩;exact I.mU (t':=s.toks) (fp:=[e,it]) hf fun b o hb q=>eb b o (fun z=>hb (by simp [z])) q
 self:=(by rintro A i s Q E ⟨⟨old,he⟩,_⟩ h; exact tW he h)
end L2
namespace K2
open PySem PySem.Spec PyProof.Rows L2
section
variable {X:Cx} {elts:List Expr} {kk:Nat} {t9:Pos} {a b:Expr} {ta tb:fx} {pos p:Pos}
theorem Pg{pins:List (Addr×Obj)}{σ:L2.St}{H H1:Hp}{G G1:Gp}{s1:av}{l:Addr}{vs:List V}{ds:List D}{R:List D->(Gp->Prop)->Gp->Prop}(I1:Inv X pins σ H1 s1)(m:Mv X.K H G H1 G1)(hq:vj X.K H1 l vs)
  (hk:∀ H2 G2,Kp H1 H2->kN X.K H2 G2->∃ ws,vj X.K H2 l ws/\ba X.K H2 ws ds) (q:R (j5 0 ds) (fun _=>True) G1) :
  wpAny (model X.prog X.w) X.A (call (.type "enumerate") [.ref l]) (fun v s2=>wpAny (model X.prog X.w) X.A (Au v) (Fu X pins σ (.Tuple elts kk t9) H G R) X.xe s2) X.xe s1:=by
 obtain⟨bG,rv,pl,hz⟩:=I1.tuple hq;have hls:l < s1.heap.objs.size:=by obtain⟨o,q,_⟩:=pl; exact aN q
 refine Im pl fun h' he hit hsz kp=>?_;refine tW he ?_;refine⟨_,[s1.heap.objs.size+1,s1.heap.objs.size],_,_,H1,G1,j5 0 ds,_,rfl,I1.kept (t':=s1.toks) kp,m,Gz l _ _ (Nat.succ_ne_self _) (bh hls) (Qz (rZ hls)),⟨⟨_,he⟩,hit⟩,fun b hb=>?_,fun i H2 G2 k ab o=>?_,q⟩
 ·have Bf:s1.heap.objs.size<=b:=by
   rcases List.mem_cons.mp hb with rfl | hb
   ·lia
   ·rw [List.mem_singleton.mp hb]; exact aB _
  exact I1.yR Bf (I1.cp.fresh Bf)
 ·obtain⟨ws,hw,rd⟩:=hk H2 G2 k ab;refine⟨fun d hd=>?_,fun hl=>⟨ws,hw,by rw [rd.length,<-oB ds 0]; exact hl⟩⟩;rw [rQ] at hd;cases S4:ds[i]? with
  | none=>rw [S4] at hd; cases hd
  | some d' =>
   rw [S4] at hd;obtain⟨v,hv,r⟩:=rd.get S4;refine⟨⟨ws,v,hw,hv⟩,?_⟩;rintro x H3 ⟨T,y,ex,hT,e3,hy⟩;subst ex e3;have:=hy ws hw;rw [hv] at this;cases this;have ed:D.tup [.int ((0+i:Nat):Int),d']=d:=by simpa using hd
   subst ed;refine⟨.tup bU (.cons (by rw [dZ]; exact .int _) (.cons (r.mono (.new hT)) .nil)),.J9 ab hT⟩
theorem Lo (hg:Gl X "enumerate") (hm:X.mg "enumerate" = none) (ha:fy X a ta) (hs:autoParam (bS [a] X.env=[(false,eval a X.env)]) Ar._auto_1):ID X (.Tuple elts kk t9) (.Call (.Name "enumerate" p) [a] [] pos) (HD ta):=by
 intro E pins s σ H τ G R hE I h;have hA:BA X [a] (ar ta aT):=cJ ha fT hs;refine Call_ (nI I.inv hg hm ve (dN (zO hA pos hE I (R:=Wv fun x G1=>∃ ds,x=.tup ds/\R (j5 0 ds) (fun _=>True) G1) h fun vs H1 ds G1 us s1 I1 m1 r1 iI q1=>?_) hs rfl))
 match ds,q1 with
 | [x],q1 =>
  obtain⟨ds,rfl,q1⟩:=q1;obtain⟨w,rfl,x3⟩:=iI.one;obtain⟨u,rfl,ru⟩:=r1.one;cases x3 with
  | tup hq rs=>cases ru; exact Pg I1.inv m1 (.of hq) (fun H2 G2 k ab=>⟨_,k.sqT (.of hq),rs.mono k⟩) q1
end
end K2
end
section
namespace K2
open PySem PySem.Spec PyProof.Rows L2
noncomputable abbrev LF(P:bz)(w:World):DL P w PK:=Zh (FZ P w)
section
variable {P:bz} {w:World} {K:ai} {H:Hp} {h:Heap}
theorem items_int:∀ {t:List Int} {us:List Value},Vals (t.map V.int) us->ItemsAre (FZ P w) t us
 | [],_,r=>by rw [aW] at r; cases r; exact .nil
 | i :: t,_,r=>by
  rw [aj] at r;cases r with
  | cons h r =>
   obtain⟨q,rfl⟩:=h;exact .cons (by simp [FZ,rX]) (items_int r)
theorem Zg(ok:pS P w H h){v:V}{u:Value}{t:List Int}(r:bW K H v (.tup (t.map D.int)))(ru:RelV v u):∃ b,u=.ref b/\(ip (FZ P w)).is h t b:=by
 cases r with
 | tup e rs =>
  have z:=rs.ints;subst z;cases ru;obtain⟨_,bG,r,o,h1,h2,n,h3⟩:=(show fG P w H h _ (.tup (t.map V.int)) from ok _ _ e);exact⟨_,rfl,o,bG.toArray,n,h1,h2,h3,by simpa using items_int r⟩
theorem SE(ok:pS P w H h):∀ {r:List (List Int)} {vs:List V} {us:List Value},ba K H vs (r.map fun t=>.tup (t.map D.int))->Vals vs us->sk (ip (FZ P w)) h r us
 | [],_,_,q,ru=>by have:=q.zero; subst this; cases ru; exact .nil
 | t :: r,_,_,q,ru=>by
  rw [aj] at q;cases q with
  | cons q1 q2 =>
   cases ru with
   | cons r1 r2 =>
    obtain⟨b,rfl,hb⟩:=Zg ok q1 r1;exact .cons hb (SE ok q2 r2)
theorem Zf(ok:pS P w H h){v:V}{u:Value}{r:List (List Int)}(q:bW K H v (.tup (r.map fun t=>.tup (t.map D.int))))(ru:RelV v u):∃ b,u=.ref b/\(VG (FZ P w)).is h r b:=by
 cases q with
 | tup e rs =>
  cases ru;obtain⟨_,bG,r',o,h1,h2,n,h3⟩:=(show fG P w H h _ (.tup _) from ok _ _ e);exact⟨_,rfl,o,bG.toArray,n,h1,h2,h3,by simpa using SE ok rs r'⟩
theorem SD(ok:pS P w H h):∀ {k:PK} {vs:List V} {us:List Value},ba K H vs (k.map fun r=>.tup (r.map fun t=>.tup (t.map D.int)))->Vals vs us->sk (VG (FZ P w)) h k us
 | [],_,_,q,ru=>by have:=q.zero; subst this; cases ru; exact .nil
 | t :: r,_,_,q,ru=>by
  rw [aj] at q;cases q with
  | cons q1 q2 =>
   cases ru with
   | cons r1 r2 =>
    obtain⟨b,rfl,hb⟩:=Zf ok q1 r1;exact .cons hb (SD ok q2 r2)
theorem Rn(ok:pS P w H h){v:V}{u:Value}{k:PK}(q:bW K H v (pM k))(ru:RelV v u):∃ b,v=.ref b/\u=.ref b/\(LF P w).is h k b:=by
 unfold pM at q;cases q with
 | tup e rs =>
  cases ru;obtain⟨_,bG,r',o,h1,h2,n,h3⟩:=(show fG P w H h _ (.tup _) from ok _ _ e);exact⟨_,rfl,rfl,o,bG.toArray,n,h1,h2,h3,by simpa using SD ok rs r'⟩
noncomputable def P1(K:ai)(H:Hp)(x:PK×Addr×Value)(p:PK×D):Prop:=x.1=p.1/\bW K H (.ref x.2.1) (pM p.1)/\∃ v,RelV v x.2.2/\bW K H v p.2
theorem Ca:∀ {xs:List (PK×Addr×Value)} {ks vs:List V} {kvs:List (PK×D)},R8 kvs ks vs xs->ba K H ks (kvs.map fun p=>pM p.1)->ba K H vs (kvs.map fun p=>p.2)->j0 (P1 K H) xs kvs
 | [],ks,vs,kvs,r,r1,r2=>by
  have:kvs=[]:=by simpa using r.1
  subst this; exact .nil
 | x :: xs,ks,vs,kvs,r,r1,r2=>by
  obtain⟨e1,e2,e3⟩:=r;cases kvs with
  | nil=>cases e1
  | cons p kvs =>
   rw [aj,aj] at e1;injection e1 with e4 e5
   subst e2;rw [aj] at r1;rw [aj] at r1 r2;rw [aj] at e3;cases r1 with
   | cons q1 q2 =>
    cases r2 with
    | cons q3 q4 =>
     cases e3 with
     | cons q5 q6=>exact .cons ⟨e4.symm,q1,_,q5,q3⟩ (Ca ⟨e5,rfl,q6⟩ q2 q4)
theorem Uc{xs:List (PK×Addr×Value)}{kvs:List (PK×D)}(h:j0 (P1 K H) xs kvs):∃ vs,R8 kvs (xs.map fun x=>.ref x.2.1) vs xs/\ba K H (xs.map fun x=>.ref x.2.1) (kvs.map fun p=>pM p.1)/\ba K H vs (kvs.map fun p=>p.2):=by
 induction h with
 | nil=>exact⟨[],⟨rfl,rfl,.nil⟩,.nil,.nil⟩
 | cons h1 _ ih =>
  obtain⟨vs,⟨a,b,c⟩,r1,r2⟩:=ih;obtain⟨e1,e2,v,e3,e4⟩:=h1;exact⟨v :: vs,⟨by rw [aj,aj,a,e1],rfl,.cons e3 c⟩,.cons e2 r1,.cons e4 r2⟩
theorem P1.mono{H':Hp}(k:Kp H H'){x:PK×Addr×Value}{p:PK×D}(h:P1 K H x p):P1 K H' x p:=let ⟨a,b,v,c,d⟩:=h; ⟨a,b.mono k,v,c,d.mono k⟩
theorem D9{H':Hp}(k:Kp H H'){xs:List (PK×Addr×Value)}{kvs:List (PK×D)}(h:j0 (P1 K H) xs kvs):j0 (P1 K H') xs kvs:=Paired.UA h fun _ _ z=>z.mono k
theorem Ud(ok:pS P w H h){xs:List (PK×Addr×Value)}{kvs:List (PK×D)}(r:j0 (P1 K H) xs kvs):∀ x∈xs,(LF P w).is h x.1 x.2.1:=by
 induction r with
 | nil=>intro x hx; cases hx
 | cons h1 _ ih =>
  intro x hx;rcases List.mem_cons.mp hx with rfl | hx
  ·obtain⟨e1,e2,_⟩:=h1;obtain⟨b,e3,e4,e5⟩:=Rn ok e2 (rfl:RelV (.ref _) (.ref _));cases e4;rw [e1]; exact e5
  ·exact ih x hx
theorem yk(ok:pS P w H h){a:Addr}{xs:List (PK×Addr×Value)}{kvs:List (PK×D)}(p:IE a xs h)(r:j0 (P1 K H) xs kvs):h.DictOfH (LF P w) a xs:=by
 obtain⟨z,y,o,es,ep,h1,h2,h3,h4,h5⟩:=p;exact⟨o,es,ep,h1,h2,h3,h4,Ud ok r,h5⟩
theorem Ce{a:Addr}{xs:List (PK×Addr×Value)}(z:xs.length<=aY)(y:(a == cO)=false)(d:h.DictOfH (LF P w) a xs):fG P w H h a (.ext (IE a xs)):=by
 obtain⟨o,es,ep,h1,h2,h3,h4,_,h5⟩:=d;refine⟨⟨z,y,o,es,ep,h1,h2,h3,h4,h5⟩,⟨o,h1⟩,?_⟩;rintro g1 g2 ⟨z,y,o,es,ep,q1,q⟩ k;exact⟨z,y,o,es,ep,k _ q1,q⟩
theorem NL{xs:List (PK×Addr×Value)}{kvs:List (PK×D)}(r:j0 (P1 K H) xs kvs)(k:PK):(∃ q v d,atKey xs k=some q/\pO kvs k=some d/\RelV v q.2/\bW K H v d)\/(atKey xs k=none/\pO kvs k=none):=by
 induction r with
 | nil=>exact .inr ⟨rfl,rfl⟩
 | @cons x p xs kvs h1 _ ih =>
  obtain⟨e1,e2,v,e3,e4⟩:=h1;by_cases e:x.1=k
  ·left;refine⟨x.2,v,p.2,?_,?_,e3,e4⟩
   ·unfold atKey; rw [b9 (by simpa using e)]; rfl
   ·unfold pO; rw [b9 (by simpa using e1.symm.trans e)]; rfl
  ·have a1:atKey (x :: xs) k=atKey xs k:=by unfold atKey; rw [cb (by simpa using e)]
   have a2:pO (p :: kvs) k=pO kvs k:=by unfold pO; rw [cb (by simpa using fun z=>e (e1.trans z))]
   rw [a1,a2]; exact ih
theorem Q0{xs:List (PK×Addr×Value)}{kvs:List (PK×D)}(r:j0 (P1 K H) xs kvs)(k:PK):(kvs.any fun p=>decide (p.1=k))=(atKey xs k).isSome:=by
 induction r with
 | nil=>rfl
 | @cons x p xs kvs h1 _ ih =>
  rw [kL];by_cases e:x.1=k
  ·have a1:(atKey (x :: xs) k).isSome=true:=by unfold atKey; rw [b9 (by simpa using e)]; rfl
   rw [a1]; simp [h1.1 ▸ e]
  ·have a1:atKey (x :: xs) k=atKey xs k:=by unfold atKey; rw [cb (by simpa using e)]
   have:¬ p.1=k:=fun z=>e (h1.1.trans z);rw [a1,<-ih]; simp [this]
theorem QZ{xs:List (PK×Addr×Value)}{kvs:List (PK×D)}(r:j0 (P1 K H) xs kvs){k:PK}{b:Addr}{v:V}{u:Value}{d:D}(rk:bW K H (.ref b) (pM k))(ru:RelV v u)(rd:bW K H v d):j0 (P1 K H) (FX xs k b u) (Lh kvs k d):=by
 unfold FX Lh;rw [Q0 r k];split
 ·rename_i hs;clear rk hs;induction r with
  | nil=>exact .nil
  | @cons x p xs kvs h1 _ ih =>
   rw [aj,aj];refine .cons ?_ ih;unfold putAt;obtain⟨e1,e2,e3⟩:=h1;by_cases e:x.1=k
   ·rw [if_pos e,if_pos (e1.symm.trans e)];exact⟨e1,e2,v,ru,rd⟩
   ·rw [if_neg e,if_neg (fun z=>e (e1.trans z))];exact⟨e1,e2,e3⟩
 ·exact Qf r ⟨rfl,rk,v,ru,rd⟩
theorem Jv{xs:List (PK×Addr×Value)}{kvs:List (PK×D)}(r:j0 (P1 K H) xs kvs):xs.length=kvs.length:=g8 r
theorem Dt{a:Addr}{xs:List (PK×Addr×Value)}{kvs:List (PK×D)}(e:H a=some (.ext (IE a xs)))(r:j0 (P1 K H) xs kvs):KP K H a (.qT kvs):=by
 obtain⟨vs,a1,a2,a3⟩:=Uc r;exact⟨xs,_,vs,e,a1,a2,a3⟩
theorem Ib{G:Gp}{a:Addr}{kvs:List (PK×D)}(ab:kN K H G)(hg:G a=some (.qT kvs)):∃ xs,H a=some (.ext (IE a xs))/\j0 (P1 K H) xs kvs:=by
 obtain⟨xs,ks,vs,e,a1,a2,a3⟩:=ab a _ hg;exact⟨xs,e,Ca a1 a2 a3⟩
theorem Kp.Wl{p:Addr}{o:HO}{φ:Heap->Prop}(hp:H p=some (.ext φ)):Kp H (upd H p o) :=
 ⟨fun a ys e=>by rw [bO (by rintro rfl; rw [hp] at e; cases e)]; exact e,fun a ob u e=>by rw [bO (by rintro rfl; rw [hp] at e; cases e)]; exact e⟩
theorem CP{φ:Heap->Prop}{a:Addr}(ok:pS P w H h)(e:H a=some (.ext φ)):φ h:=(ok a _ e).1
end
section
variable {X:Cx} {elts:List Expr} {kk:Nat} {t9 apos pz pos:Pos} {o i k v:Expr} {to ti tk tv:fx}
theorem IZ:R5 X "dict" tyP:=by
 intro pins s σ H G x d u I ab r rd h;cases rd with
 | ref l =>
  unfold tyP at h;dsimp only at h;split at h
  ·rename_i kvs hg;obtain⟨xs,e,_⟩:=Ib ab hg;obtain⟨_,_,o,es,ep,h1,h2,_⟩:=CP I.cp e;cases r;exact⟨⟨o,h1,h2.1⟩,fun a z=>by cases z; exact⟨o,h1,h2.2.1⟩⟩
  ·exact h.elim
 | nY hq _ _ _ =>
  obtain⟨_,_,o,es,ep,h1,h2,_⟩:=(I.cp _ _ hq).2.1;cases r;exact⟨⟨o,h1,h2.1⟩,fun a z=>by cases z; exact⟨o,h1,h2.2.1⟩⟩
 | _=>exact bD h
theorem Ke{pins:List (Addr×Obj)}{s:av}{σ:L2.St}{H:Hp}{G:Gp}{a:Addr}{kvs:List (PK×D)}{ys:List (PK×Addr×Value)}{pk:PK}{w w2:V}{u1 u2:Value}{d':D}{Q:DK}(hu:X.A.units+64 < cLine)(I:Inv X pins σ H s)(ab:kN X.K H G)(pd:IE a ys s.heap)(r:j0 (P1 X.K H) ys kvs)(x3:bW X.K H w (pM pk))(GP:RelV w u1)(Nr:bW X.K H w2 d')(GN:RelV w2 u2)(q:Q ((pO kvs pk).getD d') G) :
  wpAny (model X.prog X.w) X.A (call (.builtin "dict.get") [.ref a,u1,u2]) (su X pins σ H G Q) X.xe s:=by
 have dd:=yk I.cp pd r;obtain⟨b,rfl,rfl,hb⟩:=Rn I.cp x3 GP;have hT:s.TypeIs (.ref a) "dict":=by obtain⟨o,es,ep,ho,hc,_⟩:=dd; exact⟨o,ho,hc.1⟩
 refine xM e7 hT IS (Gi _ _ _) (meetsH_dict_get_default (LF X.prog X.w) a b pd.2.1 u2) ⟨Ej (by lia),pk,ys,hb,dd,?_⟩;rcases NL r pk with ⟨q1,v1,d1,h1,h2,h3,h4⟩ | ⟨h1,h2⟩
 ·rw [h1];rw [h2] at q;exact⟨v1,H,d1,G,I.tok _,.refl ab,h3,h4,q⟩
 ·rw [h1];rw [h2] at q;exact⟨w2,H,d',G,I.tok _,.refl ab,GN,Nr,q⟩
theorem Em (hu:X.A.units+64 < cLine):IJ X "dict.get" Ez:=by
 intro pins s σ H G x d xs ds v us Q I ab rx rd MB B2 q;unfold Ez at q;split at q
 ·rename_i a k d';obtain⟨kvs,pk,hg,rfl,q⟩:=q;cases rd;obtain⟨w,w2,rfl,x3,Nr⟩:=B2.two;obtain⟨u1,u2,rfl,GP,GN⟩:=vals2 MB;cases rx;obtain⟨ys,e,r⟩:=Ib ab hg;exact Ke hu I ab (CP I.cp e) r x3 GP Nr GN q
 ·rename_i kvs k d';obtain⟨pk,rfl,q⟩:=q;obtain⟨w,w2,rfl,x3,Nr⟩:=B2.two;obtain⟨u1,u2,rfl,GP,GN⟩:=vals2 MB;cases rd with
  | nY hq rel rk rv =>
   cases rx;exact Ke hu I ab (I.cp _ _ hq).2.1 (Ca rel rk rv) x3 GP Nr GN q
 ·exact q.elim
theorem RP{pins:List (Addr×Obj)}{s:av}{σ:L2.St}{H:Hp}{G:Gp}{a:Addr}{kvs:List (PK×D)}{pk:PK}{y w:V}{u r:Value}{d:D}{Q:Unit->av->Prop}(hu:X.A.units+64 < cLine)(I:Inv X pins σ H s)(ab:kN X.K H G)(hg:G a=some (.qT kvs))(hz:kvs.length < SZ)(ry:RelV y u)(dy:bW X.K H y (pM pk))(rv:RelV w r)(dv:bW X.K H w d)
  (h:∀ H' s',Inv X pins σ H' s'->Mv X.K H G H' (cT G a (.qT (Lh kvs pk d)))->Q () s'):wpAny (model X.prog X.w) X.A (setItem (.ref a) u r) Q X.xe s:=by
 obtain⟨xs,e,rr⟩:=Ib ab hg;have pd:=CP I.cp e;have dd:=yk I.cp pd rr;obtain⟨b,rfl,rfl,hb⟩:=Rn I.cp dy ry;have sz:aY=16777216:=cI;have hl:xs.length < aY:=by rw [Jv rr,sz]; exact hz
 refine wpAny_setItem_heap (hsz:=by lia) (Ej (by lia)) hb dd fun h' Bq hs=>?_;have kp:Kp H (upd H a (.ext (IE a (FX xs pk b r)))):=.Wl e;have pr:=D9 kp (QZ rr dy rv dv);have he:∃ q,h'.get? a=some q:=let ⟨q,_,_,hq,_⟩:=Bq; ⟨q,hq⟩
 have Bb:(FX xs pk b r).length<=aY:=by
  unfold FX;split
  ·rw [aE]; lia
  ·rw [az]; show xs.length+1<=_; lia
 exact h _ _ (rR I (by rw [e]; exact fN) hs he (Ce Bb pd.2.1 Bq)) (.put ab hg kp (Dt bU pr))
theorem Ec(hu:X.A.units+64 < cLine)(ho:fy X o to)(hi:fy X i ti)
  (ha:autoParam (∀ v,IL (.Subscript o i pos) X.env v=(do
   let ov ← Ga [v] (eval o X.env)
   let iv ← Ga [v,ov] (eval i X.env)
   standAt pos
   Ga [v,ov,iv] (setItem ov iv v)
   release [v,ov,iv] [])) Ai._auto_1):Mm X (.Subscript o i pos) (ES to ti):=by
 intro E pins s σ H τ G w d u Q hE I r rd h;rw [ha];refine ag (cS (i4 ho hE I h fun x H1 dx G1 ov s1 I1 m1 r1 iI q1=>?_));refine ag (cS (i4 hi hE I1 q1 fun y H2 dy G2 iv s2 k6 m2 r2 wG q2=>?_));refine ag (vt (ag (cS ?_)));have FN:=m1.trans m2;have VE:=rd.mono (FN.kp I.ab);have zQ:=I.st.mono (FN.kp I.ab);have YU:=iI.mono (m2.kp I1.ab);unfold GL at q2;split at q2
 ·rename_i l;cases YU;cases r1;obtain⟨kvs,pk,hg,rfl,hz,q⟩:=q2;exact RP hu k6.inv k6.ab hg hz r2 wG r VE fun H4 s4 I4 m4=>wpAny_release ⟨σ,H4,τ,_,⟨I4,zQ.mono (m4.kp k6.ab),m4.ab⟩,FN.trans m4,q⟩
 ·exact q2.elim
theorem Bo {P:bz} {w:World} {H:Hp} (h:Heap) (hb:cO < h.objs.size):fG P w H (h.push { cls:=.type "dict",data:=.dict #[] }) h.objs.size (.ext (IE h.objs.size [])) :=
 Ce (bZ _) (beq_eq_false_iff_ne.mpr (da (bh hb))) ⟨_,#[],0,aO _ rfl,⟨rfl,rfl,rfl⟩,rfl,rfl,(fun x hx=>absurd hx (by simp)),cA⟩
theorem JA:fy X (.Dict [] [] pos) Pz:=by
 intro E pins s σ H τ G Q hE I h;have hn:=I.inv.cp.fresh (aB s.heap.objs.size);have I1:=I.inv.laid (a:=s.heap.objs.size) (o:=.ext (IE s.heap.objs.size [])) (h':=s.heap.push { cls:=.type "dict",data:=.dict #[] }) (t':=s.toks) (fun _ _ q=>ay _ q) (aB _) (Bo s.heap I.inv.big);exact wpAny_Dict_empty ⟨.ref s.heap.objs.size,_,.ref _,_,I1,.new I.ab hn (Dt bU .nil),rfl,.ref _,h _ (I.ab.free hn)⟩
theorem NU(hu:X.A.units+64 < cLine)(hk:fy X k tk)(hv:fy X v tv):fy X (.Dict [some k] [v] pos) (Py tk tv):=by
 intro E pins s σ H τ G Q hE I h;have hn:=I.inv.cp.fresh (aB s.heap.objs.size);have I1:=I.inv.laid (a:=s.heap.objs.size) (o:=.ext (IE s.heap.objs.size [])) (h':=s.heap.push { cls:=.type "dict",data:=.dict #[] }) (t':=s.toks) (fun _ _ q=>ay _ q) (aB _) (Bo s.heap I.inv.big);have mh:Mv X.K H G (upd H s.heap.objs.size (.ext (IE s.heap.objs.size []))) G:=.J9 I.ab hn;have I2:I2 X pins σ (upd H s.heap.objs.size (.ext (IE s.heap.objs.size []))) τ G { s with heap:=s.heap.push { cls:=.type "dict",data:=.dict #[] },toks:=s.toks }:=⟨I1,I.st.mono (.new hn),mh.ab⟩;refine wpAny_Dict_any (by rfl) (by rfl) (by simp) (show 1<=15 by decide) ?_;refine pairTrees_cons_walk (i4 hk hE I2 h fun x H1 dx G1 u s1 I3 m1 r1 iI q1=>?_);refine i4 hv hE I3 q1 fun y H2 dy G2 w s2 I4 m2 r2 wG q2=>?_;obtain⟨pk,rfl,q2⟩:=q2;refine pairTrees_nil_walk ?_;have g0:G s.heap.objs.size=none:=I.ab.free hn;obtain⟨p1,p2⟩:=m1.keep _ _ (bU (H:=H) (a:=s.heap.objs.size) (o:=.ext (IE s.heap.objs.size []))) g0;obtain⟨p3,p4⟩:=m2.keep _ _ p1 p2;have Wf:=iI.mono (m2.kp I3.ab);have pd:=CP I4.inv.cp p3;have dd:=yk (K:=X.K) (kvs:=[]) I4.inv.cp pd .nil;obtain⟨b,rfl,rfl,hb⟩:=Rn I4.inv.cp Wf r1;unfold storeAll;rw [List.forIn_cons];refine ag (ag (wpAny_dictSet_heap (hsz:=bZ _) (Lv (by lia)) hb dd fun h' Bq hs=>aw ?_));show wpAny _ _ (forIn [] PUnit.unit _) _ _ _;rw [List.forIn_nil];refine aw ?_;have he:∃ q,h'.get? s.heap.objs.size=some q:=let ⟨q,_,_,hq,_⟩:=Bq; ⟨q,hq⟩
 have es:FX [] pk b w=[(pk,b,w)]:=rfl;rw [es] at Bq;have kp:Kp H2 (upd H2 s.heap.objs.size (.ext (IE s.heap.objs.size [(pk,b,w)]))):=.Wl p3;have I5:=rR (t':=s2.toks+(LF X.prog X.w).draws pk) I4.inv (by rw [p3]; exact fN) hs he (Ce (by exact(show 1<=aY by decide)) pd.2.1 Bq);have FN:=(mh.trans m1).trans m2;refine⟨.ref s.heap.objs.size,_,.ref s.heap.objs.size,_,I5,?_,rfl,.ref _,q2 _ p4⟩;refine⟨fun a o e n=>?_,fun a n=>?_,fun a g e=>?_⟩
 ·have ne:a≠s.heap.objs.size:=dj e hn;obtain⟨k1,k2⟩:=FN.keep a o e n;exact⟨by rw [bO ne]; exact k1,by rw [ck ne]; exact k2⟩
 ·by_cases ha:a=s.heap.objs.size
  ·rw [ha,bU]; simp
  ·rw [bO ha]; exact FN.lU a n
 ·by_cases ha:a=s.heap.objs.size
  ·subst ha;rw [aC] at e; cases e;exact Dt bU (D9 kp (.cons ⟨rfl,Wf,y,r2,wG⟩ .nil))
  ·rw [ck ha] at e;exact(FN.ab a g e).mono kp (bO ha)
theorem yj (ho:fy X o to) (yM:autoParam (DH o "items" X.env (eval o X.env)=eval o X.env) Ar._auto_1) (yL:autoParam ((apos.endLine == pz.line)=true) Ar._auto_1) :
  ID X (.Tuple elts kk t9) (.Call (.Attribute o "items" apos) [] [] pz) (uP to):=by
 intro E pins s σ H τ G R hE I h;refine vA yM yL (i4 ho hE I h fun x H1 d G1 v s1 I1 m1 r1 iI q1=>?_);cases d with
 | nY kvs =>
  have q1:R (kvs.map fun p=>.tup [pM p.1,p.2]) (fun _=>True) G1:=q1;cases iI with
  | nY hq rel rk rv =>
  rename_i a ob xs ks vs;have pr:=Ca rel rk rv;obtain⟨z,ns,o',es,ep,Ba,ex,dd,hl,nd⟩:=(I1.inv.cp a _ hq).2.1;have eo:o'=ob:=by have:=(I1.inv.cp a _ hq).1; rw [Ba] at this; exact aX this
  subst eo;have t1:s1.TypeIs (.ref a) "dict":=⟨_,Ba,ex.1⟩;have t2:∀ b,dO a=.ref b->∃ ob,s1.heap.get? b=some ob/\ob.dict=none:=fun b z=>by cases z; exact⟨_,Ba,ex.2.1⟩
  have l1:=congrArg cV hl;rw [aE,eX] at l1;have l2:=Jv pr;have l3:vs.length=xs.length:=by have:=rel.2.2.length; simpa using this
  have ps:∀ i (h:i < es.size),∃ p,((xs.zip vs).map fun z=>(V.ref z.1.2.1,z.2))[i]?=some p/\RelV p.1 es[i].key/\RelV p.2 es[i].val:=fun i hi=>by
   have i2:i < xs.length:=by lia
   have i3:i < vs.length:=by lia
   have ee:es[i]=⟨hP xs[i].1,.ref xs[i].2.1,xs[i].2.2⟩:=by
    have:=congrArg (fun l=>l[i]?) hl;simp only [br,aq i2] at this;simpa [hi] using this
   refine⟨(V.ref xs[i].2.1,vs[i]),by rw [br,aq (by rw [jd]; lia),sS]; rfl,?_⟩;rw [ee];refine⟨rfl,?_⟩;obtain⟨u,Yi,WU⟩:=rel.2.2.get (aq i3);rw [br,aq i2] at Yi;cases Yi;exact WU
  have TZ:∀ (i:Nat) (q:PK×D),kvs[i]?=some q->∃ p,((xs.zip vs).map fun z=>(V.ref z.1.2.1,z.2))[i]?=some p/\bW X.K H1 p.1 (pM q.1)/\bW X.K H1 p.2 q.2:=fun i q e=>by
   have i1:i < kvs.length:=(List.getElem?_eq_some_iff.mp e).1;have i2:i < xs.length:=by lia
   have i3:i < vs.length:=by lia
   refine⟨(V.ref xs[i].2.1,vs[i]),by rw [br,aq (by rw [jd]; lia),sS]; rfl,?_,?_⟩
   ·obtain⟨w,hw,oI⟩:=rk.get (i:=i) (d:=pM q.1) (by rw [br,e]; rfl);rw [rel.2.1,br,aq i2] at hw;cases hw;exact oI
   ·obtain⟨w,hw,oI⟩:=rv.get (i:=i) (d:=q.2) (by rw [br,e]; rfl);rw [aq i3] at hw;cases hw;exact oI
  have hlen:kvs.length=es.size:=by lia
  cases r1;refine⟨"dict","dict.items",cB,fB,qp,t1,t2,kW rfl (w6 ?_)⟩;refine xM fB t1 pW (oN _) (uC a ns) ⟨t1,?_⟩;have I2:Inv X pins σ H1 { s1 with heap:=s1.heap.push { cls:=.type "dict_items",data:=.fields #[.ref a] } }:=I1.inv.kept (t':=s1.toks) fun b o e=>ay _ e;refine wM (s:={ s1 with heap:=s1.heap.push { cls:=.type "dict_items",data:=.fields #[.ref a] } }) ⟨_,aO _ rfl,rfl,rfl⟩ (ay _ (I1.inv.cp a _ hq).1) dd ?_;refine⟨_,[_],_,_,H1,G1,kvs.map (fun p=>.tup [pM p.1,p.2]),_,rfl,I2.kept (t':=s1.toks) fun b o e=>ay _ e,m1,wx a _ _ es ep _ dd ps,⟨.none,.none,aO _ rfl⟩,fun b hb=>?_,fun i H2 G2 k ab _=>?_,q1⟩
  ·have e:=List.mem_singleton.mp hb;subst e;exact I2.yR (aB _) (I2.cp.fresh (aB _))
  ·have Bb:=k.jZ _ _ _ hq;refine⟨fun d hd=>?_,fun hle=>⟨⟨_,Bb⟩,by rw [<-hlen]; simpa using hle⟩⟩;rw [br] at hd;cases FP:kvs[i]? with
   | none=>rw [FP] at hd; cases hd
   | some q =>
    rw [FP] at hd;obtain⟨p,hp,rk,rp⟩:=TZ i q FP;have hi:i < es.size:=by rw [<-hlen]; exact(List.getElem?_eq_some_iff.mp FP).1
    refine⟨⟨⟨_,Bb⟩,hi⟩,?_⟩;rintro x H3 ⟨T,p',ex,hT,e3,hy⟩;subst ex e3;rw [hp] at hy;cases hy;have ed:D.tup [pM q.1,q.2]=d:=by simpa using hd
    subst ed;exact⟨.tup bU (.cons ((rk.mono k).mono (.new hT)) (.cons ((rp.mono k).mono (.new hT)) .nil)),.J9 ab hT⟩
 | _=>exact q1.elim
theorem ly.drop{K:ai}{H:Hp}{kv:List (List Key×V)}{kvs:List (D×D)}(r:ly K H kv kvs)(k:List Key):ly K H (kv.filter fun p=>decide (p.1≠k)) (kvs.filter fun p=>!ig p.1 (.tup (k.map dM))):=by
 induction r using ly.ind with
 | nil=>exact .nil
 | @cons j v d r t rd rs ih =>
  rw [bV,bV];simp only [qS];by_cases e:j=k
  ·simp only [e,ne_eq,not_true_eq_false,decide_false,decide_true,cj,aF,if_false]; exact ih
  ·simp only [e,ne_eq,not_false_eq_true,decide_true,decide_false,fK,if_true]; exact .cons rd ih
theorem KT.drop{H:Hp}{kvs:List (List Key×V)}{xs:List (List Key×Addr×Value)}(r:KT H kvs xs)(k:List Key):KT H (kvs.filter fun p=>decide (p.1≠k)) (Ts xs k):=by
 unfold Ts;induction r with
 | nil=>exact .nil
 | @cons p q ps qs h1 _ ih =>
  rw [bV,bV];by_cases e:p.1=k
  ·have e2:q.1=k:=h1.1.symm.trans e;simp only [e,e2,ne_eq,not_true_eq_false,decide_false,aF,if_false]; exact ih
  ·have e2:¬ q.1=k:=fun z=>e (h1.1.trans z);simp only [e,e2,ne_eq,not_false_eq_true,decide_true,if_true]; exact .cons h1 ih
theorem El (hu:X.A.units+64 < cLine):IJ X "dict.pop" Ey:=by
 intro pins s σ H G x d xs ds v us Q I ab rx rd MB B2 q;unfold Ey at q;split at q
 ·rename_i a k;obtain⟨kvs,d',hg,⟨hk,ha,hl⟩,q⟩:=q;cases rd;obtain⟨w,rfl,x3⟩:=B2.one;obtain⟨u1,rfl,GP⟩:=vals1 MB;cases rx;obtain⟨H',I',m,h⟩:=C0 I ab hg (by unfold g7; rw [oH]; right; rw [hk,ha]; rfl) x3;rcases h with ⟨kv,kk,hv,rs,rfl,rfl⟩ | ⟨kv,kk,b,hv,rs,rfl,rfl,hb⟩
  ·cases kk <;> simp [dM,kc] at hk
  ·cases GP;obtain⟨z,hd,ys,rel,dd⟩:=Pj I'.cp hv;rcases rs.look kk with ⟨v',d2,e1,e2,rr⟩ | ⟨e1,e2⟩
   ·rw [e2] at hl;cases hl;obtain⟨w',hw,oI⟩:=wc.some_of (v:=v') (o:=(atKey ys kk).map (·.2)) (by rw [<-e1]; exact rel.val kk);obtain⟨p,hp,nK⟩:=Option.map_eq_some_iff.mp hw;refine NO (knd:=ip (cE X.prog X.w)) (lM (by lia)) (vW I'.cp hb) dd hp (by rw [<-g8 rel]; exact z) fun h' Bq hs=>?_;rw [nK];have kp:Kp H' (upd H' a (.dT (kv.filter fun p=>decide (p.1≠kk)))):=.putD hv (.inr ⟨_,rfl⟩);obtain⟨q',es,ep,hq,h2,h3,h4,_,h5⟩:=Bq;have I5:=rR (t':=s.toks+(ip (cE X.prog X.w)).draws kk) I' (by rw [hv]; exact fN) hs ⟨q',hq⟩ (ob:=.dT (kv.filter fun p=>decide (p.1≠kk))) ⟨bc (dU _ _) z,hd,_,(KT.drop rel kk).keeps fun c ys ec=>by rw [bO (SF ec hv (fun z=>nomatch z))]; exact ec,q',es,ep,hq,h2,h3,h4,h5⟩;exact⟨v',_,d',_,I5,m.trans (.put m.ab hg kp (.dt bU ((rs.drop kk).mono kp))),oI,rr.mono kp,q⟩
   ·rw [e2] at hl; cases hl
 ·exact q.elim
end
end K2
end
section
namespace K2
open PySem PySem.W PySem.Spec PyProof.Rows PySem.Calls
theorem LC{p q:bz}{loose:List Str}{Xt:av->Bool}{α:Type}{Yf:av->α}{Ya:World->α}{N:Nat}(e:opening p=plainProg p.main.scope.names)(hN:Nat.ble 600 N=true)(f:∀ s,fenceModules? p s=some s)
  (h:∀ (w:World) (os:OsState),(topFrom treeTable p w N ⟨MU w.params,KW [],Ge,MT,os⟩).map (fun s=>(openSeen q loose (xJ p.main.body) Xt true s,Yf s))=some (openGood q loose,Ya w)):LeftO p q loose Xt Yf Ya N:=fun w=>by
 obtain⟨⟨h',gs,d,k,os⟩,e1,e2⟩:=Option.map_eq_some_iff.mp (boot_open e hN f w);obtain⟨rfl,rfl,rfl,rfl⟩:h'=MU w.params/\gs=KW []/\d=Ge/\k=MT:=by simpa using e2
 unfold openEnds;rw [e1];exact h w os
noncomputable abbrev Jb(l:OpenLaw)(q:bz):Bool:=chainsOk q&&opensWell l.row.prog&&(frees l.row.toRowW&&l.row.within.isEmpty)
noncomputable abbrev Tq(l:OpenLaw)(q:bz)(s:av):Bool:=xlAt q [] s&&recOk l.row.records s
theorem LV{l:OpenLaw}{q:bz}{loose:List Str}{K:Params->Frag}{as:List Addr}{d:DefRec}{N:Nat}(ok:l.wellSaid=true)(e:opening l.row.prog=plainProg l.row.prog.main.scope.names)(hN:Nat.ble 600 N=true)(f:∀ s,fenceModules? l.row.prog s=some s)(hK:∀ P,as=(K P).map (·.1))
  (h:∀ (w:World) (os:OsState),(topFrom treeTable l.row.prog w N ⟨MU w.params,KW [],Ge,MT,os⟩).map (fun s=>(openSeen q loose (xJ l.row.prog.main.body) (Tq l q) true s,as.map s.heap.get?))=some (openGood q loose,(K w.params).map fun p=>some p.2))
  (hd:defOf q l.row.name=some (d,[])) (hp:l.row.prog.theDef l.row.name=some (d.params,d.body,d.scope)) (hk:kwWritten? d.params.kwonlyargs d.params.kw_defaults=some []) (hr:(!l.row.writes||l.row.records.isEmpty)=true) (ht:Jb l q=true) (hb:l.row.prog.bare) (hw:l.row.toRowW.promised)
  (c:WalkO q loose (XL q []) (InK K) l.row.toRowW d [] fun f vs=>IM f vs):l.Holds :=
 holds_law ok fun k1=>holds_open (LC (Yf:=Hook.obs (kHook K as hK)) (Ya:=Hook.val (kHook K as hK)) e hN f h) (Hook.of (kHook K as hK)) (Hook.keeps (kHook K as hK)) (fun s x=>xl_of s (Bool.and_eq_true_iff.mp x).1) XL.keeps hd hp hk (fun s x=>recFacts_of (Bool.and_eq_true_iff.mp x).2) hr k1 ht hb hw c
structure At(K:Frag)(x:Str)(st:Stmt)(f:Addr)(fd:gG):Prop where
 a:nsIn K bL x=some (some (.ref f))
 F:L2.Sb K x x st f fd
theorem Tg{K:Frag}{x:Str}{st:Stmt}{f:Addr}{oc:Value}{od an:Option Addr}{Lr:Array (Option Value)}{kV doc pm lH ct:Value}(a:autoParam (nsIn K bL x=some (some (.ref f))) Aq._auto_1)(l:autoParam (K.lookup f=some ⟨oc,od,.func (fnOf x x (L2.kj st) (L2.hV st) (L2.cu st) .none kV doc pm an lH ct),Lr⟩) Aq._auto_1)
  (c:autoParam (codeIn K lH x=true) Aq._auto_1) (k:autoParam (keepIn K (.ref f)=true) Aq._auto_1):At K x st f (fnOf x x (L2.kj st) (L2.hV st) (L2.cu st) .none kV doc pm an lH ct):=⟨a,L2.U7 l c k⟩
structure Cal(P:bz)(w:World)(K:Frag)(mg:Str->Option Value)(base:Heap)(CX:L2.Mq)(k:Nat)(f:Addr)(fd:gG)(x:Str)(ps:List Str)(sp:L2.Sp):Prop where
 ok:L2.xc P w K mg base CX k f fd ps sp
 mg:mg x=some (.ref f)
 kp:keepIn K (.ref f)=true
 bi:L2.Binds K fd ps []
end K2
end
section
namespace K2
open PySem PySem.W PySem.Spec PyProof.Rows L2
structure VA where
 P:bz
 w:World
 K:Frag
 mg:Str->Option Value
 base:Heap
inductive Tn (V:VA):Prop
 | mk {h:Heap}:V.K.In h->h.Ns bL V.mg->Tn V
theorem Tn.mg{V:VA}{x:Str}{v:Value}(Y:Tn V)(a:nsIn V.K bL x=some (some v)):V.mg x=some v:=by obtain⟨X,G⟩:=Y; exact mg_of X G a
theorem Tn.no{V:VA}{x:Str}(Y:Tn V)(a:nsIn V.K bL x=some none):V.mg x=none:=by obtain⟨X,G⟩:=Y; exact mg_none_of X G a
inductive ClZ (V:VA) (CX:Mq) (k:Nat) (x:Str) (ps:List Str) (sp:Sp):Prop
 | mk {f:Addr} {fd:gG}:Cal V.P V.w V.K V.mg V.base CX k f fd x ps sp->ClZ V CX k x ps sp
noncomputable abbrev gY(V:VA)(k:Nat)(x:Str)(ps:List Str)(sp:nj):Prop:=ClZ V KN k x ps (BX V.K sp)
inductive i6 (K:Frag) (x:Str) (st:Stmt):Prop
 | mk {f:Addr} {fd:gG}:At K x st f fd->i6 K x st
theorem fm{K:Frag}{x:Str}{st:Stmt}{f:Addr}{oc:Value}{od an:Option Addr}{Lr:Array (Option Value)}{kV doc pm lH ct:Value}(a:autoParam (nsIn K bL x=some (some (.ref f))) Aq._auto_1)(l:autoParam (K.lookup f=some ⟨oc,od,.func (fnOf x x (L2.kj st) (L2.hV st) (L2.cu st) .none kV doc pm an lH ct),Lr⟩) Aq._auto_1)
  (c:autoParam (codeIn K lH x=true) Aq._auto_1) (k:autoParam (keepIn K (.ref f)=true) Aq._auto_1):i6 K x st:=⟨Tg a l c k⟩
theorem sJ{V:VA}{x:Str}{st:Stmt}{ps:List Str}{k:Nat}{sp:nj}{rd:iP}(Nn:List Str)(Y:Tn V)(F:i6 V.K x st)
  (hr:∀ ds G Q,sp ds G Q (fun _ _=>False)->rd (fun _ _=>False) (ends Q) (bA Nn.length ds) G)
  (hb:∀ {f:Addr} {lH:Value} {A:cL} {outer:List Env} {s:av} {H:Hp} {E:XK},lx k (A.deeper (Av x (cu st) s.heap.objs.size f lH))->Nn.Nodup->we (C4 KN V.P V.w V.K V.mg V.base Nn x (cu st) f lH A outer s H E).Uu (hV st) rd)
  (S:autoParam (nq Nn ps (cu st)) Aua._auto_1)
  (bn:autoParam (∀ (kV doc pm:Value) (an:Option Addr) (lH ct:Value) (us:List Value),us.length=ps.length->bindArgs (fnOf x x (kj st) (hV st) (cu st) .none kV doc pm an lH ct) ⟨us,[]⟩=pure (ps.zip us)) Aub._auto_1)
  (len:autoParam (∀ ds G Q E,sp ds G Q E->ds.length=ps.length) Al._auto_1):gY V (k+1) x ps sp:=by
 obtain⟨z⟩:=F;exact⟨⟨Kf z.F S len hr fun _ _ _ _ _ _ r=>hb r S.nd,Y.mg z.a,z.F.kp,z.F.binds bn⟩⟩
noncomputable abbrev oE(K:Frag)(x:Str):Prop:=nsIn K bL x=some none
section
variable {X:Cx} {a b c:Expr} {ta tb tc:fx}
theorem mY(h:fy X a ta)(h1:autoParam (bS [a] X.env=(false,eval a X.env) :: bS [] X.env) Ar._auto_1):BA X [a] (ar ta aT):=cJ h fT h1
theorem l8(h:fy X a ta)(k:fy X b tb)(h1:autoParam (bS [a,b] X.env=(false,eval a X.env) :: bS [b] X.env) Ar._auto_1)(k1:autoParam (bS [b] X.env=(false,eval b X.env) :: bS [] X.env) Ar._auto_1):BA X [a,b] (ar ta (ar tb aT)):=cJ h (cJ k fT k1) h1
theorem zD(h:fy X a ta)(k:fy X b tb)(l:fy X c tc)(h1:autoParam (bS [a,b,c] X.env=(false,eval a X.env) :: bS [b,c] X.env) Ar._auto_1)(k1:autoParam (bS [b,c] X.env=(false,eval b X.env) :: bS [c] X.env) Ar._auto_1)(l1:autoParam (bS [c] X.env=(false,eval c X.env) :: bS [] X.env) Ar._auto_1):BA X [a,b,c] (ar ta (ar tb (ar tc aT))):=cJ h (cJ k (cJ l fT l1) k1) h1
end
section
variable {X:Cx} {e:Expr} {es:List Expr} {t:KH} {pos p:Pos} {x:Str} {k n:Nat} {ps:List Str} {sp:nj} {b:Heap}
theorem mG (c:gY ⟨X.prog,X.w,X.K,X.mg,X.base⟩ k x ps sp) (hr:lx n X.A) (ha:BA X (e :: es) t) (hk:autoParam (k<=n) Ad._auto_1) (hg:autoParam (Gl X x) Ar._auto_1) (LW:autoParam ((x == ("__debug__" : Str))=false) Ad._auto_1) (he:autoParam (bS (e :: es) X.env=(false,eval e X.env) :: bS es X.env) Ar._auto_1) (A8:autoParam ((sx pos (bS es X.env)).any (·.1)=false) Ar._auto_1) :
  fy X (.Call (.Name x p) (e :: es) [] pos) (bP sp t):=by
 obtain⟨c⟩:=c;exact NV c.ok (hr.mono hk) hg c.mg c.kp c.bi ha LW he A8
end
end K2
end
section
set_option maxHeartbeats 1000000
namespace K2
namespace J
section
variable {α:Type} [DecidableEq α]
noncomputable def Iv(f:α->α):Prop:=∀ e,f (f e)=e
noncomputable def jn(f:α->α)(x y:α):α->α:=fun e=>if e=x\/e=y then e else if e=f x then f y else if e=f y then f x else f e
noncomputable def cl(f:α->α)(x y:α):Nat:=if f x=y then 1 else 0
theorem WO{f:α->α}(h:Iv f){x y:α}(hx:f x≠x)(hy:f y≠y)(VI:x≠y):Iv (jn f x y):=by
 intro e;have h1:=h x;have h2:=h y;have h3:=h e;unfold jn
 grind (splits:=40)
theorem OH{f:α->α}(h:Iv f){x y e:α}(VI:x≠y)(he:jn f x y e=e):e=x\/e=y\/f e=e:=by
 have h1:=h x;have h2:=h y;unfold jn at he
 grind (splits:=40)
theorem WN{f:α->α}{x y:α}:jn f x y x=x:=by unfold jn; grind
theorem WM{f:α->α}{x y:α}:jn f x y y=y:=by unfold jn; grind
theorem RB{f:α->α}(h:Iv f){x y z w:α}(hx:f x≠x)(hy:f y≠y)(hz:f z≠z)(hw:f w≠w)(xy:x≠y)(xz:x≠z)(xw:x≠w)(yz:y≠z)(yw:y≠w)(zw:z≠w):jn (jn f x y) z w=jn (jn f z w) x y:=by
 funext e;have h1:=h x;have h2:=h y;have h3:=h z;have h4:=h w;have h5:=h e;unfold jn
 grind (splits:=40)
theorem RV{f:α->α}(h:Iv f){x y z w:α}(hx:f x≠x)(hy:f y≠y)(hz:f z≠z)(hw:f w≠w)(xy:x≠y)(xz:x≠z)(xw:x≠w)(yz:y≠z)(yw:y≠w)(zw:z≠w):cl f x y+cl (jn f x y) z w=cl f z w+cl (jn f z w) x y:=by
 have h1:=h x;have h2:=h y;have h3:=h z;have h4:=h w;unfold cl jn
 grind (splits:=40)
end
end J
end K2
end
section
set_option maxHeartbeats 1000000
namespace K2
namespace J
section
variable {α:Type} [DecidableEq α]
noncomputable abbrev Pr(α:Type):=List (α×α)
noncomputable def kR(f:α->α):Pr α->α->α
 | []=>f
 | p :: ps=>kR (jn f p.1 p.2) ps
noncomputable def cls(f:α->α):Pr α->Nat
 | []=>0
 | p :: ps=>cl f p.1 p.2+cls (jn f p.1 p.2) ps
noncomputable def es:Pr α->List α
 | []=>[]
 | p :: ps=>p.1 :: p.2 :: es ps
structure Ok(f:α->α)(ps:Pr α):Prop where
 iv:Iv f
 nd:(es ps).Nodup
 dm:∀ e∈es ps,f e≠e
theorem CQ{ps qs:Pr α}(h:ps.Perm qs):(es ps).Perm (es qs):=by
 induction h with
 | nil=>exact .nil
 | cons x _ ih=>exact(ih.cons _).cons _
 | swap x y l =>
  show (y.1 :: y.2 :: x.1 :: x.2 :: es l).Perm (x.1 :: x.2 :: y.1 :: y.2 :: es l);have:∀ (a b c d:α) (l:List α),(a :: b :: c :: d :: l).Perm (c :: d :: a :: b :: l):=fun a b c d l=>by
   refine((tU c b _).cons a).trans ?_;refine(tU c a _).trans ?_;refine BL c ?_;refine((tU d b _).cons a).trans ?_;exact tU d a _
  exact this _ _ _ _ _
 | trans _ _ a b=>exact a.trans b
theorem oA(ps qs:Pr α):es (ps++qs)=es ps++es qs:=by
 induction ps with
 | nil=>rfl
 | cons p ps ih=>rw [aG,es,es,ih]; rfl
theorem HW(ps:Pr α):(es ps).length=2 * ps.length:=by
 induction ps with
 | nil=>rfl
 | cons p ps ih=>rw [es,ah,ah,ih,ah]; lia
theorem nH{ps:Pr α}{e:α}:e∈es ps↔∃ p∈ps,e=p.1\/e=p.2:=by
 induction ps with
 | nil=>simp [es]
 | cons p ps ih =>
  rw [es,a9,a9,ih];constructor
  ·rintro(h | h | ⟨q,h,z⟩)
   ·exact⟨p,by simp,.inl h⟩
   ·exact⟨p,by simp,.inr h⟩
   ·exact⟨q,au _ h,z⟩
  ·rintro⟨q,h,z⟩;rcases List.mem_cons.mp h with rfl | h
   ·rcases z with z | z
    ·exact .inl z
    ·exact .inr (.inl z)
   ·exact .inr (.inr ⟨q,h,z⟩)
theorem Ok.perm{f:α->α}{ps qs:Pr α}(h:ps.Perm qs)(o:Ok f ps):Ok f qs :=
 ⟨o.iv,(CQ h).nodup_iff.mp o.nd,fun e he=>o.dm e ((CQ h).mem_iff.mpr he)⟩
theorem Ok.hd{f:α->α}{p:α×α}{ps:Pr α}(o:Ok f (p :: ps)):p.1≠p.2/\f p.1≠p.1/\f p.2≠p.2:=by
 have n:=o.nd;rw [es,aQ] at n;exact⟨fun z=>n.1 (by rw [z]; exact cG),o.dm _ (by simp [es]),o.dm _ (by simp [es])⟩
theorem Ok.tl{f:α->α}{p:α×α}{ps:Pr α}(o:Ok f (p :: ps)):Ok (jn f p.1 p.2) ps:=by
 obtain⟨h1,h2,h3⟩:=o.hd;have n:=o.nd;rw [es,aQ,aQ] at n;refine⟨WO o.iv h2 h3 h1,n.2.2,fun e he z=>?_⟩;rcases OH o.iv h1 z with z | z | z
 ·exact n.1 (by rw [<-z]; exact au _ he)
 ·exact n.2.1 (by rw [<-z]; exact he)
 ·exact o.dm e (by simp [es,he]) z
theorem Ok.left{f:α->α}{ps qs:Pr α}(o:Ok f (ps++qs)):Ok (kR f ps) qs:=by
 induction ps generalizing f with
 | nil=>exact o
 | cons p ps ih=>exact ih o.tl
theorem Ok.pre{f:α->α}{ps qs:Pr α}(o:Ok f (ps++qs)):Ok f ps :=
 ⟨o.iv,by have:=o.nd; rw [oA] at this; exact(List.nodup_append.mp this).1,fun e he=>o.dm e (by rw [oA]; exact bB _ he)⟩
theorem tx(f:α->α)(ps qs:Pr α):kR f (ps++qs)=kR (kR f ps) qs:=by
 induction ps generalizing f with
 | nil=>rfl
 | cons p ps ih=>exact ih _
theorem pA(f:α->α)(ps qs:Pr α):cls f (ps++qs)=cls f ps+cls (kR f ps) qs:=by
 induction ps generalizing f with
 | nil=>simp [cls,kR]
 | cons p ps ih=>rw [aG,cls,cls,ih,kR,jA]
theorem OF{f:α->α}{ps qs:Pr α}(h:ps.Perm qs)(o:Ok f ps):kR f ps=kR f qs/\cls f ps=cls f qs:=by
 induction h generalizing f with
 | nil=>exact⟨rfl,rfl⟩
 | cons x _ ih =>
  obtain⟨a,b⟩:=ih o.tl;exact⟨a,by rw [cls,cls,b]⟩
 | swap x y l =>
  have n:=o.nd;simp only [es,aQ,a9,not_or] at n;have d:∀ e,e=y.1\/e=y.2\/e=x.1\/e=x.2->f e≠e:=fun e he=>o.dm e (by
   simp only [es,a9];rcases he with h | h | h | h <;> simp [h])
  have a:=RB o.iv (d y.1 (by simp)) (d y.2 (by simp)) (d x.1 (by simp)) (d x.2 (by simp)) n.1.1 n.1.2.1 n.1.2.2.1 n.2.1.1 n.2.1.2.1 n.2.2.1.1;have b:=RV o.iv (d y.1 (by simp)) (d y.2 (by simp)) (d x.1 (by simp)) (d x.2 (by simp)) n.1.1 n.1.2.1 n.1.2.2.1 n.2.1.1 n.2.1.2.1 n.2.2.1.1;refine⟨?_,?_⟩
  ·show kR (jn (jn f y.1 y.2) x.1 x.2) l=kR (jn (jn f x.1 x.2) y.1 y.2) l;rw [a]
  ·show cl f y.1 y.2+(cl (jn f y.1 y.2) x.1 x.2+cls (jn (jn f y.1 y.2) x.1 x.2) l)=cl f x.1 x.2+(cl (jn f x.1 x.2) y.1 y.2+cls (jn (jn f x.1 x.2) y.1 y.2) l);rw [a]; lia
 | trans h1 h2 i1 i2 =>
  obtain⟨a,b⟩:=i1 o;obtain⟨c,d⟩:=i2 (o.perm h1);exact⟨a.trans c,b.trans d⟩
end
end J
end K2
end
section
set_option maxHeartbeats 1000000
namespace K2
namespace J
noncomputable abbrev Fn:=Int->Int
noncomputable def lp(g:Fn):Fn:=fun i=>-(g (i+2)) - g (i - 2)
noncomputable def sh(b:Int)(g:Fn):Fn:=fun i=>g (i+b)
noncomputable def gH:Nat->Fn->Fn
 | 0,g=>g
 | n+1,g=>lp (gH n g)
theorem uG(n m:Nat)(g:Fn):gH (n+m) g=gH n (gH m g):=by
 induction n with
 | zero=>rw [dZ]; rfl
 | succ n ih=>rw [Nat.succ_add,gH,gH,ih]
theorem SI(b:Int)(g:Fn):lp (sh b g)=sh b (lp g):=by
 funext i;unfold lp sh;rw [show i+2+b=i+b+2 by lia,show i - 2+b=i+b - 2 by lia]
theorem kb(n:Nat)(b:Int)(g:Fn):gH n (sh b g)=sh b (gH n g):=by
 induction n with
 | zero=>rfl
 | succ n ih=>rw [gH,gH,ih,SI]
theorem pL(a b:Int)(g:Fn):sh a (sh b g)=sh (a+b) g:=by
 funext i;unfold sh;rw [Int.add_assoc]
theorem xh(g:Fn):sh 0 g=g:=by
 funext i;unfold sh;rw [DA]
noncomputable def pl(g k:Fn):Fn:=fun i=>g i+k i
noncomputable def sc(c:Int)(g:Fn):Fn:=fun i=>c * g i
theorem WK(g k:Fn):lp (pl g k)=pl (lp g) (lp k):=by
 funext i;show -(g (i+2)+k (i+2)) - (g (i - 2)+k (i - 2))=(-(g (i+2)) - g (i - 2))+(-(k (i+2)) - k (i - 2));lia
theorem WJ(c:Int)(g:Fn):lp (sc c g)=sc c (lp g):=by
 funext i;unfold lp sc;rw [Int.mul_sub,Int.mul_neg]
theorem Oo(n:Nat)(g k:Fn):gH n (pl g k)=pl (gH n g) (gH n k):=by
 induction n with
 | zero=>rfl
 | succ n ih=>rw [gH,gH,gH,ih,WK]
theorem Om(n:Nat)(c:Int)(g:Fn):gH n (sc c g)=sc c (gH n g):=by
 induction n with
 | zero=>rfl
 | succ n ih=>rw [gH,gH,ih,WJ]
theorem Sm(b:Int)(g k:Fn):sh b (pl g k)=pl (sh b g) (sh b k):=rfl
theorem Sl(b c:Int)(g:Fn):sh b (sc c g)=sc c (sh b g):=rfl
noncomputable def js(n:Int)(w:Bool):Pr T3:=if w=false then [(⟨n,0,0⟩,⟨n,1,1⟩),(⟨n,1,0⟩,⟨n,0,1⟩)] else [(⟨n,0,0⟩,⟨n,1,0⟩),(⟨n,0,1⟩,⟨n,1,1⟩)]
noncomputable def Br:(T3->T3)->List (Int×Int)->Fn->Int
 | _,[],g=>g 0
 | f,p :: ps,g=>Br (kR f (js p.1 false)) ps (gH (cls f (js p.1 false)) (sh p.2 g))+Br (kR f (js p.1 true)) ps (gH (cls f (js p.1 true)) (sh (-p.2) g))
theorem Qd:∀ (ps:List (Int×Int)) (f:T3->T3) (g k:Fn),Br f ps (pl g k)=Br f ps g+Br f ps k
 | [],_,_,_=>rfl
 | p :: ps,f,g,k=>by
  rw [Br,Br,Br,Sm,Sm,Oo,Oo,Qd,Qd]; lia
theorem KO:∀ (ps:List (Int×Int)) (f:T3->T3) (c:Int) (g:Fn),Br f ps (sc c g)=c * Br f ps g
 | [],_,_,_=>rfl
 | p :: ps,f,c,g=>by
  rw [Br,Br,Sl,Sl,Om,Om,KO,KO,xP]
noncomputable def j6(n:Int):List T3:=[⟨n,0,0⟩,⟨n,1,1⟩,⟨n,1,0⟩,⟨n,0,1⟩]
theorem jg(n:Int)(w:Bool):(es (js n w)).Perm (j6 n):=by
 cases w with
 | false=>exact .refl _
 | true =>
  show [(⟨n,0,0⟩:T3),⟨n,1,0⟩,⟨n,0,1⟩,⟨n,1,1⟩].Perm _;refine BL _ ?_;refine(Qh (l₁:=[(⟨n,1,0⟩:T3),⟨n,0,1⟩]) (l₂:=[⟨n,1,1⟩]))
structure Dm(f:T3->T3)(ns:List Int):Prop where
 iv:Iv f
 nd:ns.Nodup
 dm:∀ n∈ns,∀ e∈j6 n,f e≠e
theorem Dm.perm{f:T3->T3}{ns ms:List Int}(h:ns.Perm ms)(d:Dm f ns):Dm f ms:=⟨d.iv,h.nodup_iff.mp d.nd,fun n hn=>d.dm n (h.mem_iff.mpr hn)⟩
theorem uW(n:Int):(j6 n).Nodup:=by
 unfold j6;simp
theorem ni{n:Int}{e:T3}(h:e∈j6 n):e.a=n:=by
 unfold j6 at h;simp only [a9,bI,or_false] at h;rcases h with rfl | rfl | rfl | rfl <;> rfl
theorem Dm.ok{f:T3->T3}{n:Int}{ns:List Int}(d:Dm f (n :: ns))(w:Bool):Ok f (js n w) :=
 ⟨d.iv,(jg n w).nodup_iff.mpr (uW n),fun e he=>d.dm n (by simp) e ((jg n w).mem_iff.mp he)⟩
theorem Dm.Wx{f:T3->T3}{n m:Int}{ns:List Int}(d:Dm f (n :: m :: ns))(w v:Bool):Ok f (js n w++js m v):=by
 have hnm:n≠m:=fun z=>(List.nodup_cons.mp d.nd).1 (by rw [z]; exact cG);refine⟨d.iv,?_,fun e he=>?_⟩
 ·rw [oA,dS];refine⟨(jg n w).nodup_iff.mpr (uW n),(jg m v).nodup_iff.mpr (uW m),fun a ha b hb z=>?_⟩;have h1:=ni ((jg n w).mem_iff.mp ha);have h2:=ni ((jg m v).mem_iff.mp hb);rw [z] at h1;exact hnm (h1.symm.trans h2)
 ·rw [oA,List.mem_append] at he;rcases he with he | he
  ·exact d.dm n (by simp) e ((jg n w).mem_iff.mp he)
  ·exact d.dm m (by simp) e ((jg m v).mem_iff.mp he)
theorem JX{f:T3->T3}:∀ {ps:Pr T3},Ok f ps->∀ {e:T3},kR f ps e=e->e∈es ps\/f e=e:=by
 intro ps;induction ps generalizing f with
 | nil=>intro o e h; exact .inr h
 | cons p ps ih =>
  intro o e h;rcases ih o.tl h with z | z
  ·exact .inl (by simp [es,z])
  ·rcases OH o.iv o.hd.1 z with z | z | z
   ·exact .inl (by simp [es,z])
   ·exact .inl (by simp [es,z])
   ·exact .inr z
theorem OG{f:T3->T3}:∀ {ps:Pr T3},Ok f ps->Iv (kR f ps):=by
 intro ps;induction ps generalizing f with
 | nil=>intro o; exact o.iv
 | cons p ps ih=>intro o; exact ih o.tl
theorem Dm.step{f:T3->T3}{n:Int}{ns:List Int}(d:Dm f (n :: ns))(w:Bool):Dm (kR f (js n w)) ns:=by
 have nn:=List.nodup_cons.mp d.nd;refine⟨OG (d.ok w),nn.2,fun m hm e he z=>?_⟩;rcases JX (d.ok w) z with z | z
 ·have h1:=ni ((jg n w).mem_iff.mp z);have h2:=ni he;exact nn.1 (by rw [<-h1,h2]; exact hm)
 ·exact d.dm m (au _ hm) e he z
theorem Se{f:T3->T3}{p q:Int×Int}{ps:List (Int×Int)}(d:Dm f (p.1 :: q.1 :: ps.map (·.1)))(g:Fn):Br f (p :: q :: ps) g=Br f (q :: p :: ps) g:=by
 have key:∀ (w v:Bool),kR (kR f (js p.1 w)) (js q.1 v)=kR (kR f (js q.1 v)) (js p.1 w)/\cls (kR f (js p.1 w)) (js q.1 v)+cls f (js p.1 w)=cls (kR f (js q.1 v)) (js p.1 w)+cls f (js q.1 v):=fun w v=>by
  obtain⟨a,b⟩:=OF (Qh) (d.Wx w v);rw [tx,tx] at a;rw [pA,pA] at b;exact⟨a,by lia⟩
 have kk:∀ (w v:Bool) (x y:Int),Br (kR (kR f (js p.1 w)) (js q.1 v)) ps (gH (cls (kR f (js p.1 w)) (js q.1 v)) (sh x (gH (cls f (js p.1 w)) (sh y g))))=Br (kR (kR f (js q.1 v)) (js p.1 w)) ps (gH (cls (kR f (js q.1 v)) (js p.1 w)) (sh y (gH (cls f (js q.1 v)) (sh x g)))):=fun w v x y=>by
  obtain⟨a,b⟩:=key w v;have z:∀ (m n:Nat) (x y:Int),gH m (sh x (gH n (sh y g)))=sh (x+y) (gH (m+n) g):=fun m n x y=>by rw [kb,kb,kb,pL,uG]
  rw [a,z,z,b,eQ x y]
 show (Br _ ps _+Br _ ps _)+(Br _ ps _+Br _ ps _)=(Br _ ps _+Br _ ps _)+(Br _ ps _+Br _ ps _);rw [kk,kk,kk,kk];lia
theorem Sf{ps qs:List (Int×Int)}(h:ps.Perm qs):∀ {f:T3->T3},Dm f (ps.map (·.1))->∀ g,Br f ps g=Br f qs g:=by
 induction h with
 | nil=>intro f d g; rfl
 | cons x _ ih=>intro f d g; rw [Br,Br,ih (d.step false),ih (d.step true)]
 | swap x y l=>intro f d g; exact Se d g
 | trans h1 h2 i1 i2=>intro f d g; rw [i1 d,i2 (d.perm (h1.map _))]
end J
end K2
end
section
set_option maxHeartbeats 1000000
namespace K2
namespace J
noncomputable abbrev Pn:=List (Nat×Nat)
section
variable {α:Type} [DecidableEq α] (v:Nat->α)
noncomputable abbrev mp(ps:Pn):Pr α:=ps.map fun p=>(v p.1,v p.2)
variable {v}
end
end J
end K2
end
section
set_option maxHeartbeats 1000000
namespace K2
namespace J
noncomputable abbrev Ky:=Pn×Int
section
variable (v:Nat->T3) (F:T3->T3) (ns:List (Int×Int)) (g:Fn)
noncomputable def Wk(k:Ky):Int:=Br (kR F (mp v k.1)) ns (gH (cls F (mp v k.1)) (sh k.2 g))
end
end J
end K2
end
section
set_option maxHeartbeats 1000000
namespace K2
namespace J
noncomputable def vv(nm:Nat->Int)(i:Nat):T3:=⟨nm (i / 4),((i / 2 % 2:Nat):Int),((i % 2:Nat):Int)⟩
noncomputable def jN(i:Nat)(w:Bool):Pn:=if w=false then [(4 * i,4 * i+3),(4 * i+2,4 * i+1)] else [(4 * i,4 * i+2),(4 * i+1,4 * i+3)]
theorem rJ{α β:Type}{v:α->β}:∀ {l:List α},l.Nodup->(∀ i∈l,∀ j∈l,v i=v j->i=j)->(l.map v).Nodup
 | [],_,_=>cA
 | a :: l,h,hi=>by
  rw [aQ] at h;rw [aj,aQ];refine⟨fun z=>?_,rJ h.2 fun i HI j hj=>hi i (au _ HI) j (au _ hj)⟩;obtain⟨b,hb,e⟩:=List.mem_map.mp z;have:=hi a (by simp) b (au _ hb) e.symm;exact h.1 (this ▸ hb)
end J
end K2
end
section
namespace K2
open PySem (Str)
open Enc (enc)
theorem tH{α:Type} [DecidableEq α] [Enc α]{G G1:Gp}{p:Nat}{xs:List α}{Q:DK}(l:fJ G G1)(hp:G p=none)(h1:G1 p=some (.lst (xs.map enc)))(q:Q (enc xs) G):FV G1 (.ref p) Q :=
 CJ l hp h1 (FD.same _) q
theorem dQ{α:Type}{f:α->D}{g:zG}{body:iP}{ok:Gp->Prop}{xs:List α}{E:lr}{K:nu}{τ:hZ}{G:Gp}(I:List α->hZ->Gp->Prop)
  (h0:I [] τ G) (cp:∀ pre τ G,I pre τ G->ok G)
  (step:∀ (pre:List α) (x:α) (post:List α) τ G (N:hZ->Gp->Prop),xs=pre++x :: post->I pre τ G->(∀ vG G2,I (pre++[x]) vG G2->N vG G2) ->
   g E (f x) τ G fun qg G1=>body E { K with nx:=N,ct:=N,bk:=K.nx } qg G1)
  (fin:∀ τ G,I xs τ G->K.nx τ G):oz g body ok (xs.map f) E K τ G:=by
 have main:∀ (post pre:List α) τ G,xs=pre++post->I pre τ G->oz g body ok (post.map f) E K τ G:=by
  intro post;induction post with
  | nil =>
   intro pre τ G e h;rw [cH] at e;subst e;exact⟨cp _ _ _ h,fin _ _ h⟩
  | cons d post ih =>
   intro pre τ G e h;refine⟨cp _ _ _ h,?_⟩;exact step pre d post τ G _ e h fun vG G2 h2=>ih (pre++[d]) vG G2 (by rw [e,dq]; rfl) h2
 exact main xs [] τ G rfl h0
theorem oC{α:Type}{f:α->D}{g:zG}{c:Option xb}{e:fx}{ok:Gp->Prop}{xs:List α}{E:lr}{τ:hZ}{G:Gp}{Q:List D->Gp->Prop}(I:List α->List D->hZ->Gp->Prop)
  (h0:I [] [] τ G) (cp:∀ pre acc τ G,I pre acc τ G->ok G)
  (step:∀ (pre:List α) (x:α) (post:List α) (acc:List D) τ G (N:hZ->List D->Gp->Prop),xs=pre++x :: post->I pre acc τ G->(∀ vG wb G2,I (pre++[x]) wb vG G2->N vG wb G2) ->
   g E (f x) τ G fun qg G1=>match c with
    | none=>e E qg G1 fun x G2=>N qg (acc++[x]) G2
    | some c=>c E qg G1 fun k G2=>if k=true then e E qg G2 fun x G3=>N qg (acc++[x]) G3 else N qg acc G2)
  (fin:∀ acc τ G,I xs acc τ G->Q acc G):i5 g c e ok (xs.map f) E τ G [] Q:=by
 have main:∀ (post pre:List α) (acc:List D) τ G,xs=pre++post->I pre acc τ G->i5 g c e ok (post.map f) E τ G acc Q:=by
  intro post;induction post with
  | nil =>
   intro pre acc τ G e h;rw [cH] at e;subst e;exact⟨cp _ _ _ _ h,fin _ _ _ h⟩
  | cons d post ih =>
   intro pre acc τ G e' h;refine⟨cp _ _ _ _ h,?_⟩;have:=step pre d post acc τ G (fun vG wb G2=>i5 g c e ok (post.map f) E vG G2 wb Q) e' h fun vG wb G2 h2=>ih (pre++[d]) wb vG G2 (by rw [e',dq]; rfl) h2;cases c with
   | none=>exact this
   | some c=>exact this
 exact main xs [] [] τ G rfl h0
theorem pf{α:Type} [DecidableEq α] [Enc α]{xs:List α}{G:Gp}{R:List D->(Gp->Prop)->Gp->Prop}(h:R (xs.map enc) (fun _=>True) G):Qq (enc xs) G R:=h
theorem M8{n:Nat}(h:n<=1000):n<=SZ:=by unfold SZ; lia
theorem QL{n:Nat}(h:n<=1000):n < SZ:=by unfold SZ; lia
noncomputable abbrev Rows:=List (List T3)
noncomputable def T3.s(p:T3):T2:=⟨p.a,p.b⟩
structure Dr(rows:Rows):Prop where
 nd:(rows.flatten.map T3.s).Nodup
 way:∀ p∈rows.flatten,p.b=0\/p.b=1
 hand:∀ p∈rows.flatten,p.c=1\/p.c=-1
 Oe:∀ p∈rows.flatten,(⟨p.a,1 - p.b,p.c⟩:T3)∈rows.flatten
 MI:rows.flatten.length<=24
 str:rows.length<=3
namespace P
noncomputable def fD:nj:=V9 (fun rows:Rows=>rows.flatten.length<=1000) fun rows=>rows.flatten
noncomputable def qC:iP :=
 (b7 (bJ (mr aT) (aI 1))
 (b7 (eB (si (ax 0)) (aI 2) (eT (qh xT mZ (ax 1) (ar (ax 2) aT))))
 (cR (d4 (ax 1)))))
theorem rl(ds:List D)(G:Gp)(Q:DK)(h:fD ds G Q fun _ _=>False):qC (fun _ _=>False) (ends Q) (bA 3 ds) G:=by
 obtain⟨rows,rfl,hl,q⟩:=h;unfold qC;simp only [ends,bA,aj,aW,ah,aA,bo,aG,aL,cg,bJ,mr,aT,aI,ao,ak];refine⟨by decide,fun p hp=>?_⟩;refine eF (fun τ G'=>(∃ b,τ=[some (enc rows),some (.ref p),b])/\fJ G G'/\G' p=some (.lst (rows.flatten.map enc))) ?_ ?_
 ·intro N hN;simp only [eB,gR,ax,aa];refine pf ?_;refine dQ (xs:=rows) (fun pre τ G'=>(∃ b,τ=[some (enc rows),some (.ref p),b])/\fJ G G'/\G' p=some (.lst (pre.flatten.map enc))) ⟨⟨_,rfl⟩,.new hp,aC⟩ (fun _ _ _ _=>trivial) ?_ ?_
  ·rintro pre r post τ G' N2 e ⟨⟨b,rfl⟩,l,gp⟩ jh;have hlen:pre.flatten.length+r.length<=rows.flatten.length:=by
    rw [e]; simp only [List.flatten_append,dW,az]; lia
   simp only [aI,eT,qh,ax,ao,ak,ae,aa,mT,gp,ar,aT,jy,kA (IsL.enc r),true_and];refine⟨M8 (by simp only [aE]; lia),?_⟩;refine jh _ _ ⟨⟨_,rfl⟩,l.put hp,?_⟩;rw [aC]; simp
  ·rintro τ G' ⟨⟨b,rfl⟩,l,gp⟩;exact hN _ _ ⟨⟨_,rfl⟩,l,gp⟩
 ·rintro _ G' ⟨⟨b,rfl⟩,l,gp⟩;simp only [cR,d4,ax,ae,aa];exact tH l hp gp q
theorem H0(p:T3):(enc p:D)=.tup [.int p.a,.int p.b,.int p.c]:=rfl
theorem Vc(p:T2):(enc p:D)=.tup [.int p.a,.int p.b]:=rfl
theorem CV(i:Int):(enc i:D)=.int i:=rfl
theorem Yu{a:D}{r:List D}:qY (a :: r) 0=some a:=by
 rw [xA _ (by lia) (by simp)]; rfl
theorem at1{a b:D}{r:List D}:qY (a :: b :: r) 1=some b:=by
 rw [xA _ (by lia) (by simp; lia)]; rfl
theorem at2{a b c:D}{r:List D}:qY (a :: b :: c :: r) 2=some c:=by
 rw [xA _ (by lia) (by simp; lia)]; rfl
noncomputable def names(rows:Rows):List Int:=QO ((rows.flatten.filter fun p=>p.b == 0).map (·.a))
noncomputable def jv:nj:=V9 (fun rows:Rows=>rows.flatten.length < 64) names
noncomputable def wA:iP :=
 (cR (d4 (u5 vc (ar (jz 1 [] (si (bP fD (ar (ax 0) aT))) (aI 0) (some (jo (bH (GS false) (bH nF (ax 0) (dC (.int 1))) (dC (.int 0))))) (bH nF (ax 0) (dC (.int 0)))) aT))))
theorem wX(ds:List D)(G:Gp)(Q:DK)(h:jv ds G Q fun _ _=>False):wA (fun _ _=>False) (ends Q) (bA 1 ds) G:=by
 obtain⟨rows,rfl,hl,q⟩:=h;unfold wA;simp only [cR,d4,u5,ar,jz,bA,aj,aW,ah,aA,aG,aL,aT,ends,gR,bP,ax,aa];refine⟨rows,rfl,(show rows.flatten.length<=1000 by lia),pf ⟨M8 (by rw [aE]; show rows.flatten.length<=1000; lia),?_⟩⟩;refine oC (xs:=rows.flatten) (fun pre acc τ G'=>G=G'/\(∃ a,τ=[a])/\acc=((pre.filter fun p=>p.b == 0).map (·.a)).map enc) ⟨rfl,⟨_,rfl⟩,rfl⟩ (fun _ _ _ _ _=>trivial) ?_ ?_
 ·rintro pre x post acc τ G' N e ⟨rfl,⟨a,rfl⟩,rfl⟩ hN;simp only [aI,H0,ak,bH,ax,aa,dC,jK,Yu,dE,at1];refine⟨_,_,.int _,.int _,?_⟩;simp only [aF,nM,if_false,cP];split
  ·rename_i h;refine hN _ _ _ ⟨rfl,⟨_,rfl⟩,?_⟩;simp [eC,bV,h,CV]
  ·rename_i h;refine hN _ _ _ ⟨rfl,⟨_,rfl⟩,?_⟩;simp [eC,bV,h]
 ·rintro acc τ G' ⟨rfl,⟨a,rfl⟩,rfl⟩ p hp;refine zc (IsL.ref aC) (by rw [aE]; exact dI (dU _ _) hl) fun p2 nK=>?_;exact tH ((fJ.new hp).trans (.new nK)) ((fJ.new hp).free nK) aC q
noncomputable def handOf(rows:Rows)(n:Int):Int:=((rows.flatten.find? fun p=>p.a == n).map (·.c)).getD 0
noncomputable def j7:nj:=YR (fun (rows:Rows) (n:Int)=>rows.flatten.length<=1000/\∃ p∈rows.flatten,p.a=n) handOf
noncomputable def ya:iP :=
 (b7 (eB (si (bP fD (ar (ax 0) aT))) (aI 2) (gU (jo (bH (GS false) (bH nF (ax 2) (dC (.int 0))) (ax 1))) (cR (d4 (bH nF (ax 2) (dC (.int 2))))) eA))
 y0)
theorem zk(ds:List D)(G:Gp)(Q:DK)(h:j7 ds G Q fun _ _=>False):ya (fun _ _=>False) (ends Q) (bA 3 ds) G:=by
 obtain⟨rows,n,rfl,⟨hl,hn⟩,q⟩:=h;unfold ya;refine eF (fun τ G'=>False) ?_ (fun _ _ h=>h.elim);intro N hN;simp only [eB,bA,aj,aW,ah,aA,bo,aG,aL,ends,gR,bP,ar,ax,aa,aT];refine⟨rows,rfl,hl,pf ?_⟩;refine dQ (xs:=rows.flatten) (fun pre τ G'=>G=G'/\(∃ a,τ=[some (enc rows),some (enc n),a])/\∀ p∈pre,p.a≠n) ⟨rfl,⟨_,rfl⟩,by simp⟩ (fun _ _ _ _=>trivial) ?_ ?_
 ·rintro pre x post τ G' N2 e ⟨rfl,⟨a,rfl⟩,hp⟩ jh;simp only [aI,gU,CV,H0,ao,ak,cR,d4,bH,ax,ae,aa,dC,jK,at2,eA,dE,Yu];refine⟨_,_,.int _,.int _,?_⟩;simp only [aF,nM,if_false,cP];by_cases hx:x.a=n
  ·simp only [hx,beq_self_eq_true,if_true];refine gB ?_;have:handOf rows n=x.c:=by
    unfold handOf;have:rows.flatten.find? (fun p=>p.a == n)=some x:=by
     rw [e,List.find?_append];have:pre.find? (fun p=>p.a == n)=none:=by
      rw [gE]; intro p vr; simpa using hp p vr
     rw [this];simp [hx]
    rw [this]; rfl
   rw [<-this]; exact q
  ·have:(x.a == n)=false:=by simpa using hx
   simp only [this,aF,if_false];refine jh _ _ ⟨rfl,⟨_,rfl⟩,fun p vr=>?_⟩;rcases List.mem_append.mp vr with h | h
   ·exact hp p h
   ·rw [List.mem_singleton.mp h]; exact hx
 ·rintro τ G' ⟨rfl,_,hp⟩;obtain⟨p,W2,nK⟩:=hn;exact absurd nK (hp p W2)
noncomputable def BW(row:List T3)(i:Int):List T2:=if row=[] then [⟨i,2⟩] else row.map T3.s
noncomputable def Nh:Rows->Nat->List T2
 | [],_=>[]
 | r :: rs,k=>BW r (k:Int)++Nh rs (k+1)
noncomputable def Ni(rows:Rows):List T2:=QO (Nh rows 0)
theorem aaA{a b c:D}:cut [a,b,c] none (some 2)=[a,b]:=rfl
theorem LB{α:Type} [DecidableEq α] [Enc α](xs:List α)(G:Gp):uE (enc xs) G=some (xs.map enc,fun _=>True):=rfl
theorem LA{a:Nat}{ds:List D}{G:Gp}(h:G a=some (.lst ds)):uE (.ref a) G=some (ds,fun G2=>G2 a=some (.lst ds)):=by unfold uE; simp only [h]
theorem xR{α β:Type} [DecidableEq α] [Enc α] [DecidableEq β] [Enc β]:∀ (xs:List α) (ys:List β),oO (xs.map enc) (ys.map enc)=(xs.zip ys).map fun p=>D.tup [enc p.1,enc p.2]
 | [],ys=>by simp [oO]
 | x :: xs,[]=>by simp [oO]
 | x :: xs,y :: ys=>by simp [oO,xR xs ys]
theorem fP{κ α:Type} [DecidableEq κ] [Enc κ] [wm κ] [DecidableEq α] [Enc α]{a:Nat}{l:List (κ×α)}{k:κ}{v:α}{G:Gp}{Q:Gp->Prop}(h:G a=some (.eV (aS l)))(hl:l.length<=1000)(q:Q (cT G a (.eV (aS (d6 l k v))))):AG (.ref a) (enc k) (enc v) G Q:=by
 unfold AG;simp only [h];refine⟨pe l k,?_,by rw [Jt]; exact q⟩;unfold aS; rw [aE]; exact QL hl
noncomputable def iJ(r:List T3):List T3:=r.drop 1++r.take 1
noncomputable def pairsOf(rows:Rows):List (T3×T3):=rows.flatMap fun r=>r.zip (iJ r)
noncomputable def md(ps:List (T3×T3)):List (T2×T2):=ps.foldl (fun l p=>d6 l p.1.s p.2.s) []
theorem AS(ps:List (T3×T3)):(md ps).length<=ps.length:=by
 have:∀ (ps:List (T3×T3)) (l:List (T2×T2)),(ps.foldl (fun l p=>d6 l p.1.s p.2.s) l).length<=l.length+ps.length:=by
  intro ps;induction ps with
  | nil=>intro l; simp
  | cons p ps ih =>
   intro l;rw [bY,ah];have h1:=ih (d6 l p.1.s p.2.s);have h2:=qZ l p.1.s p.2.s;lia
 simpa [md] using this ps []
theorem Hh(ps:List (T3×T3))(p:T3×T3):md (ps++[p])=d6 (md ps) p.1.s p.2.s:=by unfold md; rw [fO]; rfl
noncomputable def lV:nj:=fun ds G Q _=>∃ rows:Rows,ds=[enc rows]/\rows.flatten.length<=500/\Q (.gN (aS (md (pairsOf rows)))) G
theorem pairs_len(rows:Rows):(pairsOf rows).length<=rows.flatten.length:=by
 unfold pairsOf;induction rows with
 | nil=>simp
 | cons r rs ih=>simp only [eY,dW,az,jd]; lia
noncomputable def x8:iP :=
 (b7 (bJ jq (aI 1))
 (b7 (eB (si (ax 0)) (aI 2) (eB (OQ (ax 2) (bH ku (Ii (ax 2) (sM (dC (.int 1))) iO) (Ii (ax 2) iO (sM (dC (.int 1)))))) (gz (cq (aI 3) (cq (aI 4) gf))) (bJ (Ii (ax 4) iO (sM (dC (.int 2)))) (lj (ax 1) (Ii (ax 3) iO (sM (dC (.int 2))))))))
 (cR (d4 (ax 1)))))
theorem zj(ds:List D)(G:Gp)(Q:DK)(h:lV ds G Q fun _ _=>False):x8 (fun _ _=>False) (ends Q) (bA 5 ds) G:=by
 obtain⟨rows,rfl,hl,q⟩:=h;unfold x8;simp only [ends,bA,aj,aW,ah,aA,bo,aG,aL,cg,bJ,jq,gI,aI,ao,ak];intro d hd;refine eF (fun τ G'=>(∃ a b c,τ=[some (enc rows),some (.ref d),a,b,c])/\fJ G G'/\G' d=some (.eV (aS (md (pairsOf rows))))) ?_ ?_
 ·intro N hN;simp only [eB,gR,ax,aa];refine pf ?_;refine dQ (xs:=rows) (fun pre τ G'=>(∃ a b c,τ=[some (enc rows),some (.ref d),a,b,c])/\fJ G G'/\G' d=some (.eV (aS (md (pairsOf pre))))) ⟨⟨_,_,_,rfl⟩,.new hd,aC⟩ (fun _ _ _ _=>trivial) ?_ ?_
  ·rintro pre r post τ G' N2 e ⟨⟨a,b,c,rfl⟩,l,gd⟩ jh;have hr:pre.flatten.length+r.length<=rows.flatten.length:=by
    rw [e]; simp only [List.flatten_append,dW,az]; lia
   simp only [aI,eB,OQ,ax,ao,ak,ae,aa,bH,Ii,iO,mj,dC,ka];refine NB (IsL.enc r) fun p1 h1=>?_;refine NB (IsL.enc r) fun p2 h2=>?_;have d1:d≠p1:=by rintro rfl; rw [gd] at h1; cases h1
   have l1:=l.trans (fJ.new (o:=.lst (cut (r.map enc) (some 1) none)) h1);have d2:d≠p2:=by rintro rfl; rw [ck d1,gd] at h2; cases h2
   have h12:p1≠p2:=by rintro rfl; rw [aC] at h2; cases h2
   refine QV (IsL.ref (by rw [ck h12,aC])) (IsL.ref aC) ?_ fun p3 h3=>?_
   ·rw [pj,pj,aE,aE];have e1:(cut r (some 1) none).length<=r.length:=by unfold cut; rw [gj,cC]; lia
    have e2:(cut r none (some 1)).length<=r.length:=by unfold cut; rw [gj,cC]; lia
    exact M8 (by lia)
   have d3:d≠p3:=by rintro rfl; rw [ck d2,ck d1,gd] at h3; cases h3
   have et:cut (r.map enc) (some 1) none++cut (r.map enc) none (some 1)=(iJ r).map enc:=by
    rw [pj,pj,<-bq];congr 1;cases r with
    | nil=>rfl
    | cons x r=>rw [show (1:Int)=((1:Nat):Int) from rfl,Fb _ _ (by simp),PB _ _ (by simp)]; rfl
   rw [et];generalize hG3:cT (cT (cT G' p1 (.lst (cut (r.map enc) (some 1) none))) p2 (.lst (cut (r.map enc) none (some 1)))) p3 (.lst ((iJ r).map enc))=G3;have g3:G3 p3=some (.lst ((iJ r).map enc)):=by rw [<-hG3,aC]
   have gd3:G3 d=some (.eV (aS (md (pairsOf pre)))):=by rw [<-hG3,ck d3,ck d2,ck d1]; exact gd
   have l3:fJ G G3:=by rw [<-hG3]; exact(l1.trans (.new h2)).trans (.new h3)
   unfold tE;rw [LB,LA g3];dsimp only;rw [xR];refine dQ (xs:=r.zip (iJ r)) (fun pp τ G'=>(∃ a b c,τ=[some (enc rows),some (.ref d),a,b,c])/\fJ G G'/\G' d=some (.eV (aS (md (pairsOf pre++pp))))/\G' p3=some (.lst ((iJ r).map enc)))
    ⟨⟨_,_,_,rfl⟩,l3,by rw [cH]; exact gd3,g3⟩ (fun _ _ _ h=>⟨trivial,h.2.2.2⟩) ?_ ?_
   ·rintro pp x post τ G4 N3 e4 ⟨⟨a,b,c,rfl⟩,l4,gd4,gp4⟩ U4;have hz:(pairsOf pre++pp).length<=1000:=by
     have:=pairs_len pre;have h5:pp.length < (r.zip (iJ r)).length:=by rw [e4]; simp
     rw [jd] at h5;rw [az]; lia
    simp only [gz,cq,aI,gf,bJ,Ii,ax,H0,ao,ak,ae,aa,iO,lj,xi,ah,aA,mj,dC,ka,aaA];refine⟨by decide,by decide,?_⟩;refine fP (k:=x.1.s) (v:=x.2.s) gd4 (bc (AS _) hz) ?_;refine U4 _ _ ⟨⟨_,_,_,rfl⟩,l4.put hd,?_,by rw [ck (da d3)]; exact gp4⟩;rw [aC,<-dq,Hh]
   ·rintro τ G4 ⟨⟨a,b,c,rfl⟩,l4,gd4,gp4⟩;refine jh _ _ ⟨⟨_,_,_,rfl⟩,l4,?_⟩;have:pairsOf (pre++[r])=pairsOf pre++r.zip (iJ r):=by unfold pairsOf; simp
    rw [this]; exact gd4
  ·rintro τ G' ⟨⟨a,b,c,rfl⟩,l,gd⟩;exact hN _ _ ⟨⟨_,_,_,rfl⟩,l,gd⟩
 ·rintro _ G' ⟨⟨a,b,c,rfl⟩,l,gd⟩;simp only [cR,d4,ax,ae,aa];exact gS l hd gd q
noncomputable def Zr(s:T2):T3:=⟨s.a,s.b,0⟩
noncomputable def YW(s:T2):T3:=⟨s.a,s.b,1⟩
noncomputable def TR(ss:List T2):List T3:=ss.flatMap fun s=>[Zr s,YW s]
end P
end K2
end
section
set_option maxHeartbeats 1000000
namespace K2
namespace J
noncomputable def pt:Pr T3->T3->T3
 | [],e=>e
 | p :: r,e=>if e=p.1 then p.2 else if e=p.2 then p.1 else pt r e
theorem ur{P:Pr T3}{e:T3}(h:e∉es P):pt P e=e:=by
 induction P with
 | nil=>rfl
 | cons p r ih =>
  rw [es,a9,a9,not_or,not_or] at h;rw [pt,if_neg h.1,if_neg h.2.1,ih h.2.2]
theorem oX{P:Pr T3}(nd:(es P).Nodup){p:T3×T3}(h:p∈P):pt P p.1=p.2/\pt P p.2=p.1:=by
 induction P with
 | nil=>cases h
 | cons q r ih =>
  rw [es,aQ,aQ,a9,not_or] at nd;rcases List.mem_cons.mp h with rfl | h
  ·refine⟨by rw [pt,if_pos rfl],?_⟩;rw [pt,if_neg (fun z=>nd.1.1 z.symm),if_pos rfl]
  ·obtain⟨a,b⟩:=ih nd.2.2 h;have m1:p.1∈es r:=nH.mpr ⟨p,h,.inl rfl⟩;have m2:p.2∈es r:=nH.mpr ⟨p,h,.inr rfl⟩;have ne:∀ e∈es r,e≠q.1/\e≠q.2:=fun e he=>⟨fun z=>nd.1.2 (z ▸ he),fun z=>nd.2.1 (z ▸ he)⟩;exact⟨by rw [pt,if_neg (ne _ m1).1,if_neg (ne _ m1).2,a],by rw [pt,if_neg (ne _ m2).1,if_neg (ne _ m2).2,b]⟩
theorem Wm{P:Pr T3}(nd:(es P).Nodup){f:T3->T3}(h1:∀ p∈P,f p.1=p.2/\f p.2=p.1)(h2:∀ e,e∉es P->f e=e):pt P=f:=by
 funext e;by_cases he:e∈es P
 ·obtain⟨p,hp,z⟩:=nH.mp he;rcases z with rfl | rfl
  ·rw [(oX nd hp).1,(h1 p hp).1]
  ·rw [(oX nd hp).2,(h1 p hp).2]
 ·rw [ur he,h2 e he]
theorem NJ{P:Pr T3}(nd:(es P).Nodup):Iv (pt P):=by
 intro e;by_cases he:e∈es P
 ·obtain⟨p,hp,z⟩:=nH.mp he;rcases z with rfl | rfl
  ·rw [(oX nd hp).1,(oX nd hp).2]
  ·rw [(oX nd hp).2,(oX nd hp).1]
 ·rw [ur he,ur he]
theorem Sz{P:Pr T3}(nd:(es P).Nodup){p:T3×T3}(h:p∈P):p.1≠p.2:=by
 induction P with
 | nil=>cases h
 | cons q r ih =>
  rw [es,aQ,aQ,a9,not_or] at nd;rcases List.mem_cons.mp h with rfl | h
  ·exact nd.1.1
  ·exact ih nd.2.2 h
theorem sV{P:Pr T3}(nd:(es P).Nodup){e:T3}:pt P e≠e↔e∈es P:=by
 refine⟨fun h=>ji fun z=>h (ur z),fun he=>?_⟩;obtain⟨p,hp,z⟩:=nH.mp he;rcases z with rfl | rfl
 ·rw [(oX nd hp).1]; exact(Sz nd hp).symm
 ·rw [(oX nd hp).2]; exact Sz nd hp
theorem Ua{P:Pr T3}(nd:(es P).Nodup)(h:∀ e,pt P e=e):P=[]:=by
 cases P with
 | nil=>rfl
 | cons p r=>exact absurd (h p.1) (sV nd |>.mpr (by simp [es]))
structure KJ(l:List (T3×T3))(f:T3->T3):Prop where
 nd:(l.map (·.1)).Nodup
 at':∀ e,cw l e=if f e=e then none else some (f e)
theorem q0{κ β:Type} [DecidableEq κ]{l:List (κ×β)}{k j:κ}:cw (l.filter fun p=>decide (p.1≠k)) j=if j=k then none else cw l j:=by
 induction l with
 | nil=>simp [cw]
 | cons p r ih =>
  unfold cw at *;rw [bV];by_cases h:p.1=k
  ·rw [if_neg (by simp [h]),ih];by_cases hj:j=k
   ·rw [if_pos hj,if_pos hj]
   ·rw [if_neg hj,if_neg hj,cb (by simp [h]; exact fun z=>hj z.symm)]
  ·rw [if_pos (by simp [h])];by_cases WZ:p.1=j
   ·rw [b9 (by simp [WZ]),b9 (by simp [WZ]),if_neg (fun z=>h (WZ.trans z))]
   ·rw [cb (by simp [WZ]),cb (by simp [WZ]),ih]
noncomputable def CY(l:List (T3×T3))(k:T3):List (T3×T3):=l.filter fun p=>decide (p.1≠k)
theorem pD{κ β:Type} [DecidableEq κ]{l:List (κ×β)}{k:κ}{v:β}(h:(l.map (·.1)).Nodup):((d6 l k v).map (·.1)).Nodup:=by
 unfold d6;split
 ·rw [bC];have:(l.map ((fun x:κ×β=>x.1)∘fun p=>if p.1=k then (p.1,v) else p))=l.map (·.1):=by
   refine cQ fun p _=>?_;show (if p.1=k then (p.1,v) else p).1=p.1;split <;> rfl
  rw [this]; exact h
 ·rename_i hk;rw [bq,dS];refine⟨h,by simp,fun a ha b hb z=>?_⟩;rw [List.map_singleton,aU] at hb;obtain⟨p,hp,e⟩:=List.mem_map.mp ha;exact hk (List.any_eq_true.mpr ⟨p,hp,by simp; rw [e,z,hb]⟩)
theorem KJ.join{l:List (T3×T3)}{f:T3->T3}(h:KJ l f)(iv:Iv f){x y:T3}(xy:x≠y)(hx:f x≠x)(hy:f y≠y) :
  cw l x=some (f x)/\cw (CY l x) y=some (f y)/\(f x=y->KJ (CY (CY l x) y) (jn f x y))/\(f x≠y->KJ (d6 (d6 (CY (CY l x) y) (f x) (f y)) (f y) (f x)) (jn f x y)):=by
 have a1:cw l x=some (f x):=by rw [h.at',if_neg hx]
 have a2:cw (CY l x) y=some (f y):=by unfold CY; rw [q0,if_neg (fun z=>xy z.symm),h.at',if_neg hy]
 have nd2:((CY (CY l x) y).map (·.1)).Nodup:=mL (i8 _ (List.filter_sublist.trans ic)) h.nd;have d2:∀ e,cw (CY (CY l x) y) e=if e=x\/e=y then none else if f e=e then none else some (f e):=fun e=>by
  unfold CY;rw [q0,q0,h.at']
  grind
 have ix:=iv x;have iy:=iv y;refine⟨a1,a2,fun e=>⟨nd2,fun z=>?_⟩,fun e=>⟨pD (pD nd2),fun z=>?_⟩⟩
 ·have iz:=iv z;rw [d2];unfold jn
  grind (splits:=30)
 ·have iz:=iv z;rw [rV,rV,d2];unfold jn
  grind (splits:=30)
end J
end K2
end
section
namespace K2
namespace Y
noncomputable abbrev Po:=List (Int×Int)
noncomputable def ND(l:Po):Prop:=(l.map (·.1)).Nodup
noncomputable def c0(l:Po)(k:Int):Int:=(cw l k).getD 0
noncomputable def eL(l:Po):Po:=l.filter fun p=>p.2 != 0
noncomputable def plus(a:Po)(p:Int×Int):Po:=d6 a p.1 (c0 a p.1+p.2)
noncomputable def sI(l m:Po):Po:=m.foldl plus l
noncomputable def pY(l m:Po):Po:=eL (sI l m)
noncomputable def fM(m:Po)(a:Po)(p:Int×Int):Po:=m.foldl (fun a q=>plus a (p.1+q.1,p.2 * q.2)) a
noncomputable def mX(l m:Po):Po:=l.foldl (fM m) []
noncomputable def g4(l m:Po):Po:=eL (mX l m)
noncomputable def iB(l:Po)(by_ f:Int):Po:=eL (l.map fun p=>(p.1+by_,p.2 * f))
noncomputable def cN(l:Po):Nat->Po
 | 0=>[(0,1)]
 | n+1=>g4 (cN l n) l
theorem kE{κ β:Type} [DecidableEq κ]{l:List (κ×β)}{k:κ}{v:β}(h:k∉l.map (·.1)):d6 l k v=l++[(k,v)]:=by
 unfold d6;rw [if_neg];intro q;obtain⟨p,h1,h2⟩:=List.any_eq_true.mp q;exact h (List.mem_map.mpr ⟨p,h1,by simpa using h2⟩)
theorem zf{κ β:Type} [DecidableEq κ]{l:List (κ×β)}{k:κ}{v:β}(h:k∈l.map (·.1)):d6 l k v=l.map (fun p=>if p.1=k then (p.1,v) else p):=by
 unfold d6;rw [if_pos];obtain⟨p,h1,h2⟩:=List.mem_map.mp h;exact List.any_eq_true.mpr ⟨p,h1,by simpa using h2⟩
theorem Mj{κ β:Type} [DecidableEq κ](l:List (κ×β))(k:κ)(v:β):(d6 l k v).map (·.1)=if k∈l.map (·.1) then l.map (·.1) else l.map (·.1)++[k]:=by
 split
 ·rename_i h;rw [zf h,bC];refine cQ fun p _=>?_;show (if p.1=k then (p.1,v) else p).1=p.1;split <;> rfl
 ·rename_i h;rw [kE h,bq]; rfl
theorem ND.put{l:Po}(h:ND l)(k v:Int):ND (d6 l k v):=by
 unfold ND;rw [Mj];split
 ·exact h
 ·rename_i hk;rw [dS];exact⟨h,by simp,fun a ha b hb=>by rw [aU] at hb; subst hb; intro z; exact hk (z ▸ ha)⟩
theorem ND.nil:ND []:=cA
theorem ND.one(k v:Int):ND [(k,v)]:=by unfold ND; simp
theorem ND.tail{p:Int×Int}{l:Po}(h:ND (p :: l)):ND l:=by unfold ND at *; rw [aj,aQ] at h; exact h.2
theorem ND.head{p:Int×Int}{l:Po}(h:ND (p :: l)):p.1∉l.map (·.1):=by unfold ND at *; rw [aj,aQ] at h; exact h.1
theorem ND.eL{l:Po}(h:ND l):ND (eL l):=by
 unfold ND Y.eL at *;exact mL (i8 _ ic) h
theorem rG{l:Po}(h:ND l)(p:Int×Int):ND (plus l p):=h.put _ _
theorem uU{α:Type}(f:Po->α->Po)(hf:∀ a x,ND a->ND (f a x)):∀ (xs:List α) (a:Po),ND a->ND (xs.foldl f a)
 | [],_,h=>h
 | x :: xs,a,h=>uU f hf xs _ (hf a x h)
theorem Ee{l m:Po}(h:ND l):ND (sI l m):=uU _ (fun a x h=>rG h x) m l h
theorem jL{m a:Po}(h:ND a)(p:Int×Int):ND (fM m a p):=uU _ (fun a x h=>rG h _) m a h
theorem yg(l m:Po):ND (mX l m):=uU _ (fun a x h=>jL h x) l [] .nil
theorem Rc{l m:Po}(h:ND l):ND (pY l m):=(Ee h).eL
theorem vL(l m:Po):ND (g4 l m):=(yg l m).eL
theorem DW{l:Po}(h:ND l)(b f:Int):ND (l.map fun p=>(p.1+b,p.2 * f)):=by
 unfold ND at *;rw [bC];have:(l.map ((fun x:Int×Int=>x.1)∘fun p=>(p.1+b,p.2 * f)))=(l.map (·.1)).map (· + b):=by rw [bC]; rfl
 rw [this];exact List.Pairwise.map _ (fun a c hac z=>hac (by lia)) h
theorem Li{l:Po}(h:ND l)(b f:Int):ND (iB l b f):=(DW h b f).eL
theorem vN(l:Po):∀ n,ND (cN l n)
 | 0=>.one _ _
 | n+1=>vL _ _
theorem Eb(l:Po)(p:Int×Int):(plus l p).length<=l.length+1:=by unfold plus d6; split <;> simp
theorem rP{α:Type}(f:Po->α->Po)(c:Nat)(hf:∀ a x,(f a x).length<=a.length+c):∀ (xs:List α) (a:Po),(xs.foldl f a).length<=a.length+xs.length * c
 | [],a=>by simp
 | x :: xs,a=>by
  have:=rP f c hf xs (f a x);have:=hf a x;rw [bY,ah,Qy]; lia
theorem AP(l m:Po):(sI l m).length<=l.length+m.length:=by
 have:=rP plus 1 Eb m l;unfold sI; lia
theorem gT(m a:Po)(p:Int×Int):(fM m a p).length<=a.length+m.length:=by
 have:=rP (fun a q=>plus a (p.1+q.1,p.2 * q.2)) 1 (fun a q=>Eb a _) m a;unfold fM; lia
theorem qI(l m:Po):(mX l m).length<=l.length * m.length:=by
 have:=rP (fM m) m.length (fun a p=>gT m a p) l [];simpa [mX] using this
theorem oh(l:Po):(eL l).length<=l.length:=dU _ _
theorem yf(l m:Po):(g4 l m).length<=l.length * m.length:=bc (oh _) (qI l m)
theorem sW(l:Po):∀ n,(cN l n).length<=l.length ^ n
 | 0=>by simp [cN]
 | n+1=>bc (yf _ _) (by rw [mK]; exact eK _ (sW l n))
noncomputable def L(g:Int->Int):Po->Int
 | []=>0
 | p :: l=>p.2 * g p.1+L g l
theorem FC(g:Int->Int):∀ (l m:Po),L g (l++m)=L g l+L g m
 | [],m=>by simp [L]
 | p :: l,m=>by rw [aG,L,L,FC g l m]; lia
theorem Bz{l:Po}{k:Int}(h:k∉l.map (·.1)):cw l k=none:=by
 unfold cw;have:l.find? (fun p=>decide (p.1=k))=none:=by
  rw [gE];intro p hp z;exact h (List.mem_map.mpr ⟨p,hp,by simpa using z⟩)
 rw [this]; rfl
theorem Dh{p:Int×Int}{l:Po}{k:Int}:c0 (p :: l) k=if p.1=k then p.2 else c0 l k:=by
 unfold c0 cw;rw [dh];by_cases h:p.1=k <;> simp [h]
theorem BF(g:Int->Int)(k v:Int):∀ (l:Po),ND l->k∈l.map (·.1)->L g (l.map fun p=>if p.1=k then (p.1,v) else p)=L g l+(v - c0 l k) * g k
 | [],_,h=>by cases h
 | p :: l,hn,h=>by
  rw [aj,Dh];by_cases e:p.1=k
  ·rw [if_pos e,if_pos e,L,L];have:l.map (fun p=>if p.1=k then (p.1,v) else p)=l:=by
    conv=>rhs; rw [<-ib l]
    refine cQ fun q hq=>?_;rw [if_neg]; rfl;intro z; exact hn.head (by rw [e,<-z]; exact bQ hq)
   rw [this];show v * g p.1+L g l=_;rw [e,Int.sub_mul]; lia
  ·rw [if_neg e,if_neg e,L,L,BF g k v l hn.tail (by
    rw [aj,a9] at h;rcases h with h | h
    ·exact absurd h.symm e
    ·exact h)]
   lia
theorem XU(g:Int->Int){l:Po}(hn:ND l)(k v:Int):L g (d6 l k v)=L g l+(v - c0 l k) * g k:=by
 by_cases h:k∈l.map (·.1)
 ·rw [zf h]; exact BF g k v l hn h
 ·rw [kE h,FC];have:c0 l k=0:=by unfold c0; rw [Bz h]; rfl
  rw [this];simp [L]
theorem P5(g:Int->Int){l:Po}(hn:ND l)(p:Int×Int):L g (plus l p)=L g l+p.2 * g p.1:=by
 unfold plus;rw [XU g hn];congr 1;rw [show c0 l p.1+p.2 - c0 l p.1=p.2 by lia]
theorem rW(g:Int->Int):∀ (l:Po),L g (eL l)=L g l
 | []=>rfl
 | p :: l=>by
  have ih:=rW g l;unfold eL at *;rw [bV];by_cases h:p.2=0
  ·rw [if_neg (by simp [h]),ih,L,h]; simp
  ·rw [if_pos (by simp [h]),L,L,ih]
theorem P8(g:Int->Int):∀ (m l:Po),ND l->L g (m.foldl plus l)=L g l+L g m
 | [],l,_=>by simp [L]
 | p :: m,l,h=>by
  rw [bY,P8 g m _ (rG h p),P5 g h,L]; lia
theorem P6(g:Int->Int){l:Po}(h:ND l)(m:Po):L g (pY l m)=L g l+L g m:=by
 unfold pY sI; rw [rW,P8 g m l h]
theorem nQ(g:Int->Int)(p:Int×Int):∀ (m a:Po),ND a->L g (fM m a p)=L g a+p.2 * L (fun j=>g (p.1+j)) m
 | [],a,_=>by simp [fM,L]
 | q :: m,a,h=>by
  have ih:=nQ g p m (plus a (p.1+q.1,p.2 * q.2)) (rG h _);unfold fM at *;rw [bY,ih,P5 g h,L,xP];show L g a+p.2 * q.2 * g (p.1+q.1)+_=_;rw [zJ]; lia
theorem zq(g:Int->Int)(l m:Po):L g (g4 l m)=L (fun i=>L (fun j=>g (i+j)) m) l:=by
 unfold g4 mX;rw [rW];have:∀ (l a:Po),ND a->L g (l.foldl (fM m) a)=L g a+L (fun i=>L (fun j=>g (i+j)) m) l:=by
  intro l;induction l with
  | nil=>intro a _; simp [L]
  | cons p l ih =>
   intro a h;rw [bY,ih _ (jL h p),nQ g p m a h,L]; lia
 rw [this l [] .nil]; simp [L]
theorem w4(g:Int->Int)(b f:Int):∀ (l:Po),L g (l.map fun p=>(p.1+b,p.2 * f))=f * L (fun i=>g (i+b)) l
 | []=>by simp [L]
 | p :: l=>by
  rw [aj,L,w4 g b f l,L,xP];congr 1;show p.2 * f * g (p.1+b)=f * (p.2 * g (p.1+b));rw [QD p.2 f,zJ]
theorem FA(g:Int->Int)(b f:Int)(l:Po):L g (iB l b f)=f * L (fun i=>g (i+b)) l:=by
 unfold iB; rw [rW,w4]
theorem KI(g h:Int->Int):∀ (l:Po),L (fun i=>g i+h i) l=L g l+L h l
 | []=>rfl
 | p :: l=>by rw [L,L,L,KI g h l,xP]; lia
theorem P7(c:Int)(g:Int->Int):∀ (l:Po),L (fun i=>c * g i) l=c * L g l
 | []=>by simp [L]
 | p :: l=>by
  rw [L,L,P7 c g l,xP];congr 1;rw [<-zJ,QD p.2 c,zJ]
theorem PU{l:Po}{k:Int}(h:k∉l.map (·.1)):c0 l k=0:=by unfold c0; rw [Bz h]; rfl
theorem Dw{l:Po}(hn:ND l)(k:Int):L (fun i=>if i=k then 1 else 0) l=c0 l k:=by
 induction l with
 | nil=>rfl
 | cons p l ih =>
  rw [L,ih hn.tail,Dh];by_cases h:p.1=k
  ·have:c0 l k=0:=PU (h ▸ hn.head);simp [h,this]
  ·simp [h]
noncomputable def NZ(l:Po):Prop:=∀ p∈l,p.2≠0
theorem uw(l:Po):NZ (eL l):=fun p h=>by
 have:=(List.mem_filter.mp h).2;simpa using this
theorem Ft{l:Po}(hn:ND l){p:Int×Int}(h:p∈l):cw l p.1=some p.2:=by
 induction l with
 | nil=>cases h
 | cons q l ih =>
  unfold cw;rw [dh];rcases List.mem_cons.mp h with rfl | h
  ·simp
  ·have:q.1≠p.1:=fun z=>hn.head (by rw [z]; exact bQ h);simp only [this,decide_false];exact ih hn.tail h
theorem PV{l:Po}(hn:ND l){p:Int×Int}(h:p∈l):c0 l p.1=p.2:=by unfold c0; rw [Ft hn h]; rfl
theorem Od{l:Po}{k:Int}(h:c0 l k≠0):(k,c0 l k)∈l:=by
 unfold c0 at *;unfold cw at *;cases q:l.find? (fun p=>decide (p.1=k)) with
 | none=>rw [q] at h; exact absurd rfl h
 | some p =>
  have h1:=oF q;have h2:=gJ q;simp at h1;simp only [tQ,fY];rw [<-h1]; exact h2
theorem fk:∀ (xs ys:List Int),xs.Nodup->(∀ x∈xs,x∈ys)->xs.length<=ys.length
 | [],_,_,_=>bZ _
 | x :: xs,ys,hn,h=>by
  rw [aQ] at hn;have:=fk xs (ys.erase x) hn.2 fun y hy=>(jB (show y≠x from fun z=>hn.1 (by rw [<-z]; exact hy))).mpr (h y (au _ hy));have hx:=h x (by simp);rw [ft hx] at this;have:=fV hx;rw [ah]; lia
theorem sub_len{l m:Po}(hl:ND l)(zl:NZ l)(h:∀ k,c0 l k=c0 m k):l.length<=m.length:=by
 have:=fk (l.map fun p:Int×Int=>p.1) (m.map fun p:Int×Int=>p.1) hl fun k hk=>by
  obtain⟨p,hp,rfl⟩:=List.mem_map.mp hk;have h1:c0 m p.1≠0:=by rw [<-h,PV hl hp]; exact zl p hp
  exact bQ (f:=(·.1)) (Od h1)
 simpa using this
theorem RN{l m:Po}(hl:ND l)(hm:ND m)(zl:NZ l)(zm:NZ m)(h:∀ k,c0 l k=c0 m k):z9 l m=true:=by
 unfold z9;rw [aK];refine⟨?_,List.all_eq_true.mpr fun p hp=>?_⟩
 ·have h1:=sub_len hl zl h;have h2:=sub_len hm zm fun k=>(h k).symm;simpa using Nat.le_antisymm h1 h2
 ·have h1:c0 m p.1=p.2:=by rw [<-h,PV hl hp]
  have h2:c0 m p.1≠0:=by rw [h1]; exact zl p hp
  have:=Ft hm (Od h2);rw [h1] at this;simp only at this;rw [this]; simp
theorem HY{l m:Po}(hl:ND l)(hm:ND m)(zl:NZ l)(zm:NZ m)(h:∀ g,L g l=L g m):z9 l m=true :=
 RN hl hm zl zm fun k=>by rw [<-Dw hl,<-Dw hm,h]
noncomputable def d0:Po->Nat
 | []=>0
 | p :: l=>p.2.natAbs+d0 l
theorem yq:∀ (l m:Po),d0 (l++m)=d0 l+d0 m
 | [],m=>by simp [d0]
 | p :: l,m=>by rw [aG,d0,d0,yq l m]; lia
theorem o6{l:Po}{p:Int×Int}(h:p∈l):p.2.natAbs<=d0 l:=by
 induction l with
 | nil=>cases h
 | cons q l ih =>
  rw [d0];rcases List.mem_cons.mp h with rfl | h
  ·lia
  ·have:=ih h; lia
theorem wJ(k v:Int):∀ (l:Po),ND l->k∈l.map (·.1)->d0 (l.map fun p=>if p.1=k then (p.1,v) else p)+(c0 l k).natAbs=d0 l+v.natAbs
 | [],_,h=>by cases h
 | p :: l,hn,h=>by
  rw [aj,Dh];by_cases e:p.1=k
  ·rw [if_pos e,if_pos e,d0,d0];have:l.map (fun p=>if p.1=k then (p.1,v) else p)=l:=by
    conv=>rhs; rw [<-ib l]
    refine cQ fun q hq=>?_;rw [if_neg]; rfl;intro z; exact hn.head (by rw [e,<-z]; exact bQ hq)
   rw [this];show v.natAbs+d0 l+_=_;lia
  ·have:=wJ k v l hn.tail (by
    rw [aj,a9] at h;rcases h with h | h
    ·exact absurd h.symm e
    ·exact h)
   rw [if_neg e,if_neg e,d0,d0];lia
theorem Eg{l:Po}(hn:ND l)(p:Int×Int):d0 (plus l p)<=d0 l+p.2.natAbs:=by
 unfold plus;by_cases h:p.1∈l.map (·.1)
 ·rw [zf h];have:=wJ p.1 (c0 l p.1+p.2) l hn h;have:=Int.natAbs_add_le (c0 l p.1) p.2;lia
 ·rw [kE h,yq,PU h];simp [d0]
theorem vQ(l:Po):d0 (eL l)<=d0 l:=by
 induction l with
 | nil=>exact aB _
 | cons p l ih =>
  unfold eL at *;rw [bV];split
  ·rw [d0,d0]; lia
  ·rw [d0]; lia
theorem jP(p:Int×Int):∀ (m a:Po),ND a->d0 (fM m a p)<=d0 a+p.2.natAbs * d0 m
 | [],a,_=>by simp [fM,d0]
 | q :: m,a,h=>by
  have ih:=jP p m (plus a (p.1+q.1,p.2 * q.2)) (rG h _);have:=Eg h (p.1+q.1,p.2 * q.2);unfold fM at *;rw [bY,d0,Nat.mul_add];have e:(p.2 * q.2).natAbs=p.2.natAbs * q.2.natAbs:=Int.natAbs_mul _ _;simp only at this;lia
theorem tf(l m:Po):d0 (g4 l m)<=d0 l * d0 m:=by
 refine bc (vQ _) ?_;unfold mX;have:∀ (l a:Po),ND a->d0 (l.foldl (fM m) a)<=d0 a+d0 l * d0 m:=by
  intro l;induction l with
  | nil=>intro a _; simp [d0]
  | cons p l ih =>
   intro a h;rw [bY];have h1:=ih _ (jL (m:=m) h p);have h2:=jP p m a h;rw [d0,Nat.add_mul]; lia
 have:=this l [] .nil;simpa [d0] using this
theorem o4(l:Po):∀ n,d0 (cN l n)<=d0 l ^ n
 | 0=>by simp [cN,d0]
 | n+1=>bc (tf _ _) (by rw [mK]; exact eK _ (o4 l n))
theorem Eh:∀ (m l:Po),ND l->d0 (m.foldl plus l)<=d0 l+d0 m
 | [],l,_=>by simp [d0]
 | p :: m,l,h=>by
  have h1:=Eh m _ (rG h p);have h2:=Eg h p;rw [bY,d0]; lia
theorem N1{l:Po}(h:ND l)(m:Po):d0 (pY l m)<=d0 l+d0 m:=bc (vQ _) (Eh m l h)
theorem Ll(l:Po):∀ n,NZ (cN l n)
 | 0=>fun p h=>by
  simp only [cN,aU] at h;subst h; decide
 | n+1=>uw _
end Y
end K2
end
section
namespace K2
open PySem (Str)
open Enc (enc)
class inductive Cn {α:Type} (ps:List (α×α)):α->α->Prop
 | refl (x:α):Cn ps x x
 | pair {x y:α}:(x,y)∈ps->Cn ps x y
 | symm {x y:α}:Cn ps x y->Cn ps y x
 | trans {x y z:α}:Cn ps x y->Cn ps y z->Cn ps x z
section
variable {α:Type} {ps:List (α×α)}
theorem Cn.mono{qs:List (α×α)}(h:∀ p∈ps,p∈qs){x y:α}(c:Cn ps x y):Cn qs x y:=by
 induction c with
 | refl x=>exact .refl x
 | pair q=>exact .pair (h _ q)
 | symm _ ih=>exact .symm ih
 | trans _ _ i1 i2=>exact .trans i1 i2
theorem Cn.more{a b x y:α}:Cn (ps++[(a,b)]) x y↔Cn ps x y\/(Cn ps x a/\Cn ps b y)\/(Cn ps x b/\Cn ps a y):=by
 constructor
 ·intro c;induction c with
  | refl x=>exact .inl (.refl x)
  | pair q =>
   rcases List.mem_append.mp q with q | q
   ·exact .inl (.pair q)
   ·have:=List.mem_singleton.mp q;injection this with e1 e2
    subst e1 e2;exact .inr (.inl ⟨.refl _,.refl _⟩)
  | symm _ ih =>
   rcases ih with h | ⟨h1,h2⟩ | ⟨h1,h2⟩
   ·exact .inl h.symm
   ·exact .inr (.inr ⟨h2.symm,h1.symm⟩)
   ·exact .inr (.inl ⟨h2.symm,h1.symm⟩)
  | trans _ _ i1 i2 =>
   rcases i1 with h | ⟨h1,h2⟩ | ⟨h1,h2⟩
   ·rcases i2 with k | ⟨k1,k2⟩ | ⟨k1,k2⟩
    ·exact .inl (h.trans k)
    ·exact .inr (.inl ⟨h.trans k1,k2⟩)
    ·exact .inr (.inr ⟨h.trans k1,k2⟩)
   ·rcases i2 with k | ⟨k1,k2⟩ | ⟨k1,k2⟩
    ·exact .inr (.inl ⟨h1,h2.trans k⟩)
    ·exact .inr (.inl ⟨h1,k2⟩)
    ·exact .inl (h1.trans k2)
   ·rcases i2 with k | ⟨k1,k2⟩ | ⟨k1,k2⟩
    ·exact .inr (.inr ⟨h1,h2.trans k⟩)
    ·exact .inl (h1.trans k2)
    ·exact .inr (.inr ⟨h1,k2⟩)
 ·have up:∀ {u v:α},Cn ps u v->Cn (ps++[(a,b)]) u v:=fun c=>c.mono fun p hp=>bB _ hp;have ab:Cn (ps++[(a,b)]) a b:=.pair (by simp);rintro(h | ⟨h1,h2⟩ | ⟨h1,h2⟩)
  ·exact up h
  ·exact((up h1).trans ab).trans (up h2)
  ·exact((up h1).trans ab.symm).trans (up h2)
end
theorem B6{α:Type} [DecidableEq α] [Enc α]{neg:Bool}{x y:α}{G:Gp}{Q:DK}(hd:Enc.dep α<=8)(q:Q (.bl (if neg then !decide (x=y) else decide (x=y))) G):GS neg (enc x) (enc y) G Q:=by
 refine⟨enc x,enc y,Enc.sn _ _ _ hd,Enc.sn _ _ _ hd,?_⟩;rw [Enc.eqv]; exact q
class Dx (α:Type) [DecidableEq α] [Enc α] [bb α] where
 mn:∀ {x:D} {G:Gp} {xs:List α} {Q:DK},itemsOf x G=some (xs.map enc)->xs≠[]->(∀ m∈xs,(∀ y∈xs,FO m y=true)->Q (enc m) G)->PQ [x] G Q
theorem jm{α:Type} [DecidableEq α] [Enc α] [bb α]:∀ (r:List α) (a:α),r.foldl (fun m x=>if bb.lt x m=true then x else m) a∈a :: r/\∀ y∈a :: r,FO (r.foldl (fun m x=>if bb.lt x m=true then x else m) a) y=true
 | [],a=>⟨by simp,fun y hy=>by rw [List.mem_singleton.mp hy]; unfold FO; rw [List.foldl_nil,bb.HA]; rfl⟩
 | b :: r,a=>by
  rw [bY];by_cases c:bb.lt b a=true
  ·rw [if_pos c];obtain⟨h1,h2⟩:=jm r b;refine⟨au _ h1,fun y hy=>?_⟩;rcases List.mem_cons.mp hy with rfl | hy
   ·refine A1 _ _ _ (h2 b (by simp)) ?_;unfold FO;cases q:bb.lt y b with
    | false=>rfl
    | true=>have:=bb.trans _ _ _ q c; rw [bb.HA] at this; cases this
   ·exact h2 y hy
  ·rw [if_neg c];obtain⟨h1,h2⟩:=jm r a;refine⟨?_,fun y hy=>?_⟩
   ·rcases List.mem_cons.mp h1 with h | h
    ·rw [h]; simp
    ·exact au _ (au _ h)
   ·rcases List.mem_cons.mp hy with rfl | hy
    ·exact h2 y (by simp)
    ·rcases List.mem_cons.mp hy with rfl | hy
     ·refine A1 _ _ _ (h2 a (by simp)) ?_;unfold FO; simpa using c
     ·exact h2 y (au _ hy)
noncomputable instance:Dx Int where
 mn:=by
  intro x G xs Q hi qP k;cases xs with
  | nil=>exact absurd rfl qP
  | cons a r =>
   obtain⟨h1,h2⟩:=jm r a;refine .inl ⟨a :: r,_,hi,rfl,?_⟩;have:(fun (m x:Int)=>if x < m then x else m)=fun m x=>if bb.lt x m=true then x else m:=by
    funext m x;show (if x < m then x else m)=if decide (x < m)=true then x else m
    simp
   show Q (enc (r.foldl (fun m x=>if x < m then x else m) a)) G;rw [this];exact k _ h1 h2
theorem tm:∀ (x y:List Int),tw (fun a b=>decide (a < b)) x y=lexLt x y
 | [],[]=>rfl
 | [],_ :: _=>rfl
 | _ :: _,[]=>rfl
 | a :: x,b :: y=>by simp only [vV,lexLt,tm x y]
noncomputable instance:Dx T3 where
 mn:=by
  intro x G xs Q hi qP k;cases xs with
  | nil=>exact absurd rfl qP
  | cons a r =>
   obtain⟨h1,h2⟩:=jm r a;have ei:itemsOf x G=some (((a :: r).map T3.l).map tI):=by rw [hi,bC]; rfl
   refine .inr ⟨(a :: r).map T3.l,_,ei,rfl,?_⟩;have:∀ (r:List T3) (a:T3),(r.map T3.l).foldl (fun m x=>if lexLt x m=true then x else m) a.l=(r.foldl (fun m x=>if bb.lt x m=true then x else m) a).l:=by
    intro r;induction r with
    | nil=>intro a; rfl
    | cons b r ih =>
     intro a;rw [aj,bY,bY];have e:(if lexLt b.l a.l=true then b.l else a.l)=(if bb.lt b a=true then b else a).l:=by
      have:bb.lt b a=lexLt b.l a.l:=tm _ _;rw [this];split <;> rfl
     rw [e]; exact ih _
   rw [this r a];exact k _ h1 h2
namespace P
theorem kE{κ β:Type} [DecidableEq κ]{l:List (κ×β)}{k:κ}{v:β}(h:k∉l.map (·.1)):d6 l k v=l++[(k,v)]:=by
 unfold d6;rw [if_neg];intro q;obtain⟨p,h1,h2⟩:=List.any_eq_true.mp q;exact h (List.mem_map.mpr ⟨p,h1,by simpa using h2⟩)
theorem ET{κ β γ:Type} [DecidableEq κ](kf:γ->κ)(vf:γ->β):∀ (ps:List γ) (l:List (κ×β)),(l.map (·.1)++ps.map kf).Nodup->ps.foldl (fun l p=>d6 l (kf p) (vf p)) l=l++ps.map fun p=>(kf p,vf p)
 | [],l,_=>by simp
 | p :: ps,l,h=>by
  rw [bY,kE (fun z=>by
   rw [aj,dS] at h;exact h.2.2 _ z _ (by simp) rfl),ET kf vf ps _ (by simpa using h)]
  simp
theorem wV{κ β:Type} [DecidableEq κ]:∀ {l:List (κ×β)} {p:κ×β},(l.map (·.1)).Nodup->p∈l->cw l p.1=some p.2
 | q :: l,p,hn,h=>by
  unfold cw;rw [dh];rcases List.mem_cons.mp h with rfl | h
  ·simp
  ·rw [aj,aQ] at hn;have:q.1≠p.1:=fun z=>hn.1 (by rw [z]; exact bQ h);simp only [this,decide_false];exact wV hn.2 h
theorem Er{κ β:Type} [DecidableEq κ]{l:List (κ×β)}{k:κ}{v:β}(h:cw l k=some v):(k,v)∈l:=by
 unfold cw at h;cases q:l.find? (fun p=>decide (p.1=k)) with
 | none=>rw [q] at h; cases h
 | some p =>
  rw [q] at h;have h1:=oF q;have h2:=gJ q;simp at h h1;rw [<-h,<-h1]; exact h2
theorem wu(r:List T3):(iJ r).length=r.length:=by unfold iJ; rw [az,cC,gj]; lia
theorem BU(r:List T3):(iJ r).Perm r:=by
 unfold iJ;exact List.perm_append_comm.trans (by rw [mB])
theorem oq(rows:Rows):(pairsOf rows).map (·.1)=rows.flatten:=by
 unfold pairsOf;induction rows with
 | nil=>rfl
 | cons r rs ih =>
  rw [eY,bq,ih,dW];congr 1;rw [List.map_fst_zip]; rw [wu]; exact aB _
theorem oj(rows:Rows):((pairsOf rows).map (·.2)).Perm rows.flatten:=by
 unfold pairsOf;induction rows with
 | nil=>exact .refl _
 | cons r rs ih =>
  rw [eY,bq,dW];refine List.Perm.append ?_ ih;rw [List.map_snd_zip]
  ·exact BU r
  ·rw [wu]; exact aB _
variable {rows:Rows}
theorem O8(d:Dr rows):((pairsOf rows).map fun p=>p.1.s).Nodup:=by
 have:((pairsOf rows).map fun p=>p.1.s)=rows.flatten.map T3.s:=by rw [<-oq,bC]; rfl
 rw [this]; exact d.nd
theorem TN(d:Dr rows):((pairsOf rows).map fun p=>p.2.s).Nodup:=by
 have:((pairsOf rows).map fun p=>p.2.s)=((pairsOf rows).map (·.2)).map T3.s:=by rw [bC]; rfl
 rw [this,((oj rows).map T3.s).nodup_iff]; exact d.nd
theorem Ob(d:Dr rows):md (pairsOf rows)=(pairsOf rows).map fun p=>(p.1.s,p.2.s):=by
 unfold md;rw [ET (fun p:T3×T3=>p.1.s) (fun p=>p.2.s) _ _ (by simpa using O8 d)]; rfl
noncomputable def X5(rows:Rows)(s:T2):T3:=(rows.flatten.find? fun p=>decide (p.s=s)).getD ⟨0,0,0⟩
noncomputable def nxt(rows:Rows)(s:T2):T2:=(cw ((pairsOf rows).map fun p=>(p.1.s,p.2.s)) s).getD s
noncomputable def XA(rows:Rows)(s:T2):T2:=(cw ((pairsOf rows).map fun p=>(p.2.s,p.1.s)) s).getD s
noncomputable def mt(p:T3):T2:=⟨p.a,1 - p.b⟩
noncomputable def fst(p:T3):Bool:=decide (p.b=0) == decide (p.c=1)
theorem JC(d:Dr rows){p:T3}(h:p∈rows.flatten):X5 rows p.s=p:=by
 unfold X5;cases q:rows.flatten.find? (fun x=>decide (x.s=p.s)) with
 | none=>rw [gE] at q; exact absurd (by simp) (q p h)
 | some x =>
  have h1:=oF q;have h2:=gJ q;have h1:x.s=p.s:=by simpa using h1
  have:∀ (L:List T3),(L.map T3.s).Nodup->x∈L->p∈L->x=p:=by
   intro L;induction L with
   | nil=>intro _ h; cases h
   | cons y L ih =>
    intro hn hx hp;rw [aj,aQ] at hn;rcases List.mem_cons.mp hx with e1 | hx2
    ·rcases List.mem_cons.mp hp with e2 | nK
     ·rw [e1,e2]
     ·exact absurd (by rw [<-e1,h1]; exact bQ nK) hn.1
    ·rcases List.mem_cons.mp hp with e2 | nK
     ·exact absurd (by rw [<-e2,<-h1]; exact bQ hx2) hn.1
     ·exact ih hn.2 hx2 nK
  exact this _ d.nd h2 h
theorem O2{p:T3}(h:p∈rows.flatten):∃ q,(p,q)∈pairsOf rows/\q∈rows.flatten:=by
 rw [<-oq] at h;obtain⟨x,hx,rfl⟩:=List.mem_map.mp h;exact⟨x.2,hx,(oj rows).mem_iff.mp (bQ hx)⟩
theorem O1{q:T3}(h:q∈rows.flatten):∃ p,(p,q)∈pairsOf rows/\p∈rows.flatten:=by
 rw [<-(oj rows).mem_iff] at h;obtain⟨x,hx,rfl⟩:=List.mem_map.mp h;exact⟨x.1,hx,by rw [<-oq]; exact bQ hx⟩
noncomputable def om(p:T3):T3:=⟨p.a,1 - p.b,p.c⟩
theorem Ww(d:Dr rows){p:T3}(h:p∈rows.flatten):om p∈rows.flatten:=d.Oe p h
noncomputable def step(rows:Rows)(x:T3):T3 :=
 if x.b=2 then x else
 let al:=decide (x.c=0)
 let p:=if al=true then X5 rows (nxt rows x.s) else X5 rows x.s
 if (fst p == al)=true then Zr (mt p) else YW (XA rows (mt p))
theorem ot{n:Int}:n∈names rows↔∃ p∈rows.flatten,p.b=0/\p.a=n:=by
 unfold names;rw [QN,BK];constructor
 ·rintro⟨p,h,rfl⟩;obtain⟨h1,h2⟩:=List.mem_filter.mp h;exact⟨p,h1,by simpa using h2,rfl⟩
 ·rintro⟨p,h1,h2,rfl⟩;exact⟨p,List.mem_filter.mpr ⟨h1,by simpa using h2⟩,rfl⟩
theorem Kc(d:Dr rows){p:T3}(h:p∈rows.flatten):handOf rows p.a=p.c:=by
 unfold handOf;cases q:rows.flatten.find? (fun x=>x.a == p.a) with
 | none=>rw [gE] at q; exact absurd (by simp) (q p h)
 | some x =>
  have h1:x.a=p.a:=by simpa using oF q
  have h2:=gJ q;show x.c=p.c;have hw:=d.way p h;have Yh:=d.way x h2;by_cases e:x.b=p.b
  ·have:x.s=p.s:=by unfold T3.s; rw [h1,e]
   have e1:=JC d h2;rw [this,JC d h] at e1;rw [e1]
  ·have:(om x).s=p.s:=by unfold T3.s om; rw [h1]; congr 1; dsimp only; lia
   have e1:=JC d (Ww d h2);rw [this,JC d h] at e1;rw [e1]; rfl
end P
end K2
end
section
set_option maxHeartbeats 1000000
namespace K2
open Enc (enc)
noncomputable instance {α β:Type} [DecidableEq α] [Enc α] [bb α] [DecidableEq β] [Enc β] [bb β]:bb (α×β) where
 lt:=fun x y=>if x.1=y.1 then bb.lt x.2 y.2 else bb.lt x.1 y.1
 AE:=.tup [bb.AE α,bb.AE β]
 CI:=fun x=>by
  show (cK _ (enc x.1)&&(cK _ (enc x.2)&&true))=true;rw [bb.CI,bb.CI]; rfl
 Rv:=fun x y=>by
  show lh [enc x.1,enc x.2] [enc y.1,enc y.2]=_;rw [me,me,Enc.eqv,Enc.eqv,bb.Rv,bb.Rv,show lh [] []=false from rfl];by_cases h:x.1=y.1
  ·simp only [h,decide_true,if_true];by_cases h2:x.2=y.2
   ·simp only [h2,decide_true,if_true]; exact(bb.HA _).symm
   ·simp only [h2,decide_false,aF,if_false]
  ·simp only [h,decide_false,aF,if_false]
 HA:=fun x=>by simp only [if_true]; exact bb.HA _
 trans:=fun x y z h1 h2=>by
  by_cases e1:x.1=y.1
  ·rw [if_pos e1] at h1;by_cases e2:y.1=z.1
   ·rw [if_pos e2] at h2;rw [if_pos (e1.trans e2)];exact bb.trans _ _ _ h1 h2
   ·rw [if_neg e2] at h2;rw [if_neg (fun q=>e2 (e1.symm.trans q)),e1]; exact h2
  ·rw [if_neg e1] at h1;by_cases e2:y.1=z.1
   ·rw [if_neg (fun q=>e1 (q.trans e2.symm)),<-e2]; exact h1
   ·rw [if_neg e2] at h2;have h3:=bb.trans _ _ _ h1 h2;rw [if_neg (fun q=>by rw [q,bb.HA] at h3; cases h3)]; exact h3
 mV:=fun x y h1 h2=>by
  by_cases e1:x.1=y.1
  ·rw [if_pos e1] at h1;rw [if_pos e1.symm] at h2;exact Prod.ext e1 (bb.mV _ _ h1 h2)
  ·rw [if_neg e1] at h1;rw [if_neg (fun q=>e1 q.symm)] at h2;exact absurd (bb.mV _ _ h1 h2) e1
namespace J
noncomputable def Ln(l:List (T3×T3)):Pr T3:=QO (l.filter fun p=>bb.lt p.1 p.2)
theorem yu{κ β:Type} [DecidableEq κ]:∀ {l:List (κ×β)},(l.map (·.1)).Nodup->∀ {p:κ×β},p∈l->cw l p.1=some p.2
 | [],_,_,h=>by cases h
 | q :: l,nd,p,h=>by
  rw [aj,aQ] at nd;unfold cw;rcases List.mem_cons.mp h with rfl | h
  ·rw [b9 (by simp)]; rfl
  ·have:¬ q.1=p.1:=fun z=>nd.1 (by rw [z]; exact bQ h);rw [cb (by simpa using this)];exact yu nd.2 h
theorem Dq{κ β:Type} [DecidableEq κ]{l:List (κ×β)}{k:κ}{v:β}(h:cw l k=some v):(k,v)∈l:=by
 unfold cw at h;obtain⟨p,h1,h2⟩:=Option.map_eq_some_iff.mp h;have h3:=oF h1;have h4:=gJ h1;simp at h3;rw [<-h3,<-h2]; exact h4
theorem KJ.mem{l:List (T3×T3)}{f:T3->T3}(h:KJ l f){p:T3×T3}(hp:p∈l):f p.1=p.2/\f p.1≠p.1:=by
 have a:=yu h.nd hp;rw [h.at'] at a;split at a
 ·cases a
 ·rename_i z; exact⟨aX a,z⟩
theorem Rx{α:Type} [DecidableEq α] [Enc α] [bb α]{a b:α}(h1:bb.lt a b=true)(h2:bb.lt b a=true):False:=by
 have:=bb.trans _ _ _ h1 h2;rw [bb.HA] at this; cases this
theorem Kk{f:T3->T3}(iv:Iv f):∀ {l:List (T3×T3)},(l.map (·.1)).Nodup->(∀ p∈l,f p.1=p.2)->(es (l.filter fun p=>bb.lt p.1 p.2)).Nodup
 | [],_,_=>cA
 | p :: l,nd,h=>by
  rw [aj,aQ] at nd;have ih:=Kk iv nd.2 fun q hq=>h q (au _ hq);rw [bV];split
  ·rename_i hl;have fp:=h p (by simp);rw [es,aQ,aQ,a9,not_or];have out:∀ q∈l.filter (fun p=>bb.lt p.1 p.2),p.1≠q.1/\p.1≠q.2/\p.2≠q.1/\p.2≠q.2:=fun q hq=>by
    have SX:=List.mem_filter.mp hq;have fq:=h q (au _ SX.1);have n1:p.1≠q.1:=fun z=>nd.1 (by rw [z]; exact bQ SX.1);have n2:p.1=q.2->p.2=q.1:=fun z=>by rw [<-fp,z,<-fq,iv]
    have n3:p.2=q.1->p.1=q.2:=fun z=>by rw [<-fq,<-z,<-fp,iv]
    have Tc:¬ (p.1=q.2/\p.2=q.1):=fun ⟨a,b⟩=>Rx hl (by rw [a,b]; exact SX.2);refine⟨n1,fun z=>Tc ⟨z,n2 z⟩,fun z=>Tc ⟨n3 z,z⟩,fun z=>n1 ?_⟩;have:=congrArg f z;rw [<-fp,<-fq,iv,iv] at this;exact this
   have ne:p.1≠p.2:=fun z=>by rw [z,bb.HA] at hl; cases hl
   refine⟨⟨ne,fun z=>?_⟩,fun z=>?_,ih⟩
   ·obtain⟨q,hq,e⟩:=nH.mp z;rcases e with e | e
    ·exact(out q hq).1 e
    ·exact(out q hq).2.1 e
   ·obtain⟨q,hq,e⟩:=nH.mp z;rcases e with e | e
    ·exact(out q hq).2.2.1 e
    ·exact(out q hq).2.2.2 e
  ·exact ih
theorem Jx{l:List (T3×T3)}{f:T3->T3}(h:KJ l f)(iv:Iv f):(es (Ln l)).Nodup/\pt (Ln l)=f:=by
 have sp:=uc (l.filter fun p=>bb.lt p.1 p.2);have nd0:=Kk iv h.nd fun p hp=>(h.mem hp).1;have nd:(es (Ln l)).Nodup:=(CQ sp).nodup_iff.mpr nd0;refine⟨nd,Wm nd (fun p hp=>?_) fun e he=>?_⟩
 ·have vr:=(List.mem_filter.mp (sp.mem_iff.mp hp)).1;have:=(h.mem vr).1;exact⟨this,by rw [<-this,iv]⟩
 ·refine ji fun z=>he ?_;have a1:cw l e=some (f e):=by rw [h.at',if_neg z]
  have z2:f (f e)≠f e:=fun q=>z (by rw [iv] at q; exact q.symm);have a2:cw l (f e)=some e:=by rw [h.at',if_neg z2,iv]
  have m1:=Dq a1;have m2:=Dq a2;rw [nH];by_cases hl:bb.lt e (f e)=true
  ·exact⟨(e,f e),sp.mem_iff.mpr (List.mem_filter.mpr ⟨m1,hl⟩),.inl rfl⟩
  ·by_cases Bb:bb.lt (f e) e=true
   ·exact⟨(f e,e),sp.mem_iff.mpr (List.mem_filter.mpr ⟨m2,Bb⟩),.inr rfl⟩
   ·exact absurd (bb.mV _ _ (by simpa using Bb) (by simpa using hl)) z
noncomputable def HU(P:Pr T3):List (T3×T3):=P.foldl (fun l p=>d6 (d6 l p.1 p.2) p.2 p.1) []
theorem Kj:∀ {P:Pr T3},(es P).Nodup->KJ (HU P) (pt P):=by
 have main:∀ (P:Pr T3) (l:List (T3×T3)) (f:T3->T3),KJ l f->(es P).Nodup->(∀ e∈es P,f e=e)->KJ (P.foldl (fun l p=>d6 (d6 l p.1 p.2) p.2 p.1) l) (fun e=>if e∈es P then pt P e else f e):=by
  intro P;induction P with
  | nil =>
   intro l f h _ _;have:(fun e=>if e∈es ([]:Pr T3) then pt [] e else f e)=f:=by funext e; simp [es]
   rw [this]; exact h
  | cons p P ih =>
   intro l f h nd hf;rw [es,aQ,aQ,a9,not_or] at nd;have f1:f p.1=p.1:=hf _ (by simp [es]);have f2:f p.2=p.2:=hf _ (by simp [es]);have h2:KJ (d6 (d6 l p.1 p.2) p.2 p.1) (fun e=>if e=p.1 then p.2 else if e=p.2 then p.1 else f e):=by
    refine⟨pD (pD h.nd),fun e=>?_⟩;rw [rV,rV,h.at'];have:=nd.1.1
    grind
   have:=ih _ _ h2 nd.2.2 fun e he=>by
    have m1:e≠p.1:=fun z=>nd.1.2 (z ▸ he);have m2:e≠p.2:=fun z=>nd.2.1 (z ▸ he);simp only [if_neg m1,if_neg m2];exact hf e (by simp [es,he])
   rw [bY];have e2:(fun e=>if e∈es (p :: P) then pt (p :: P) e else f e)=fun e=>if e∈es P then pt P e else if e=p.1 then p.2 else if e=p.2 then p.1 else f e:=by
    funext e;rw [es,pt];by_cases he:e∈es P
    ·have m1:e≠p.1:=fun z=>nd.1.2 (z ▸ he);have m2:e≠p.2:=fun z=>nd.2.1 (z ▸ he);rw [if_pos (by simp [he]),if_neg m1,if_neg m2,if_pos he]
    ·rw [if_neg he];by_cases m1:e=p.1
     ·rw [if_pos (by simp [m1]),if_pos m1,if_pos m1]
     ·by_cases m2:e=p.2
      ·rw [if_pos (by simp [m2]),if_neg m1,if_pos m2,if_neg m1,if_pos m2]
      ·rw [if_neg (by simp [m1,m2,he]),if_neg m1,if_neg m2]
   rw [e2]; exact this
 intro P nd;have:=main P [] (fun e=>e) ⟨cA,fun e=>by simp [cw]⟩ nd (fun _ _=>rfl);have e2:(fun e=>if e∈es P then pt P e else e)=pt P:=by
  funext e;by_cases he:e∈es P
  ·rw [if_pos he]
  ·rw [if_neg he,ur he]
 rw [e2] at this; exact this
theorem Ki(P:Pr T3):(HU P).length<=2 * P.length:=by
 have:∀ (P:Pr T3) (l:List (T3×T3)),(P.foldl (fun l p=>d6 (d6 l p.1 p.2) p.2 p.1) l).length<=l.length+2 * P.length:=by
  intro P;induction P with
  | nil=>intro l; simp
  | cons p P ih =>
   intro l;have h1:=ih (d6 (d6 l p.1 p.2) p.2 p.1);have h2:=qZ (d6 l p.1 p.2) p.2 p.1;have h3:=qZ l p.1 p.2;rw [bY,ah]; lia
 have:=this P [];simpa [HU] using this
end J
end K2
end
section
set_option maxHeartbeats 1000000
namespace K2
open Enc (enc)
namespace J
open Y (Po L ND NZ d0 pY g4 iB cN)
noncomputable def la(P:Pr T3):PK:=P.map fun p=>[p.1.l,p.2.l]
noncomputable def aaz:List (List Int)->T3×T3
 | [[a,b,c],[x,y,z]]=>(⟨a,b,c⟩,⟨x,y,z⟩)
 | _=>(⟨0,0,0⟩,⟨0,0,0⟩)
noncomputable def dec(k:PK):Pr T3:=k.map aaz
theorem Ih(P:Pr T3):dec (la P)=P:=by
 unfold dec la;rw [bC]
 conv=>rhs; rw [<-ib P]
 rfl
theorem NP(P:Pr T3):pM (la P)=.tup (P.map enc):=by
 unfold pM la;rw [bC];rfl
noncomputable abbrev Su:=List (PK×Po)
noncomputable def hX(S:Su):List (PK×D):=S.map fun p=>(p.1,D.gN (aS p.2))
theorem AZ(S:Su)(k:PK):pO (hX S) k=(cw S k).map fun l=>D.gN (aS l):=by
 unfold pO cw hX;rw [List.find?_map,Option.map_map,Option.map_map];rfl
theorem NI(S:Su)(k:PK)(l:Po):Lh (hX S) k (.gN (aS l))=hX (d6 S k l):=by
 unfold Lh d6 hX;rw [List.any_map];split
 ·rename_i h;rw [if_pos (by simpa [Qi] using h),bC,bC];refine cQ fun p _=>?_;simp only [FF];split <;> rfl
 ·rename_i h;rw [if_neg (by simpa [Qi] using h),bq]; rfl
noncomputable def mV(ns:List (Int×Int))(g:Fn):Su->Int
 | []=>0
 | p :: S=>L (fun j=>Br (pt (dec p.1)) ns (sh j g)) p.2+mV ns g S
theorem I0(ns:List (Int×Int))(g:Fn)(S S':Su):mV ns g (S++S')=mV ns g S+mV ns g S':=by
 induction S with
 | nil=>simp [mV]
 | cons p S ih=>rw [aG,mV,mV,ih]; lia
theorem QJ(ns:List (Int×Int))(g:Fn)(k:PK)(l:Po):∀ {S:Su},(S.map (·.1)).Nodup->mV ns g (d6 S k l)=mV ns g S+(L (fun j=>Br (pt (dec k)) ns (sh j g)) l - L (fun j=>Br (pt (dec k)) ns (sh j g)) ((cw S k).getD []))
 | S,nd=>by
  unfold d6;split
  ·rename_i h;have main:∀ {S:Su},(S.map (·.1)).Nodup->(S.any fun p=>decide (p.1=k))=true->mV ns g (S.map fun p=>if p.1=k then (p.1,l) else p)=mV ns g S+(L (fun j=>Br (pt (dec k)) ns (sh j g)) l - L (fun j=>Br (pt (dec k)) ns (sh j g)) ((cw S k).getD [])):=by
    intro S;induction S with
    | nil=>intro _ h; cases h
    | cons p S ih =>
     intro nd h;rw [aj,aQ] at nd;rw [aj,mV,mV];by_cases e:p.1=k
     ·have e2:(S.map fun p=>if p.1=k then (p.1,l) else p)=S:=by
       conv=>rhs; rw [<-ib S]
       refine cQ fun q hq=>?_;rw [if_neg]; rfl;intro z; exact nd.1 (by rw [e,<-z]; exact bQ hq)
      have e3:cw (p :: S) k=some p.2:=by unfold cw; rw [b9 (by simpa using e)]; rfl
      rw [e2,e3,if_pos e,e];simp only [fY];lia
     ·have e3:cw (p :: S) k=cw S k:=by unfold cw; rw [cb (by simpa using e)]
      rw [e3,if_neg e,ih nd.2 (by simpa [e] using h)];lia
   exact main nd h
  ·rename_i h;rw [I0];have e3:cw S k=none:=by
    unfold cw;have:S.find? (fun p=>decide (p.1=k))=none:=by
     rw [gE];intro p hp z;exact h (List.any_eq_true.mpr ⟨p,hp,z⟩)
    rw [this]; rfl
   rw [e3];show mV ns g S+(L _ l+0)=_;simp only [Ay,L];lia
noncomputable def LP:Po:=[(2,-1),(-2,-1)]
theorem aaI(g:Fn)(i:Int):L (fun j=>g (i+j)) LP=lp g i:=by
 show -1 * g (i+2)+(-1 * g (i+-2)+0)=-(g (i+2)) - g (i - 2);rw [show i+-2=i - 2 by lia]; lia
theorem uF(n:Nat)(g:Fn):gH n (lp g)=lp (gH n g):=by
 induction n with
 | zero=>rfl
 | succ n ih=>rw [gH,gH,ih]
theorem my:∀ (n:Nat) (g:Fn),L g (cN LP n)=gH n g 0
 | 0,g=>by show 1 * g 0+0=g 0; lia
 | n+1,g=>by
  show L g (g4 (cN LP n) LP)=_;rw [Y.zq];have:(fun i=>L (fun j=>g (i+j)) LP)=lp g:=by funext i; exact aaI g i
  rw [this,my n,uF]; rfl
theorem Ht(f:T3->T3)(ns:List (Int×Int))(g:Fn):∀ (n:Nat) (b:Int),gH n (fun t=>Br f ns (sh (t+b) g))=fun t=>Br f ns (sh (t+b) (gH n g))
 | 0,b=>rfl
 | n+1,b=>by
  rw [gH,Ht f ns g n b];funext t;show -(Br f ns (sh (t+2+b) (gH n g))) - Br f ns (sh (t - 2+b) (gH n g))=Br f ns (sh (t+b) (lp (gH n g)));have e:sh (t+b) (lp (gH n g))=pl (sc (-1) (sh (t+2+b) (gH n g))) (sc (-1) (sh (t - 2+b) (gH n g))):=by
   funext i;show -(gH n g (i+(t+b)+2)) - gH n g (i+(t+b) - 2)=-1 * gH n g (i+(t+2+b))+-1 * gH n g (i+(t - 2+b));rw [show i+(t+b)+2=i+(t+2+b) by lia,show i+(t+b) - 2=i+(t - 2+b) by lia];lia
  rw [e,Qd,KO,KO]; lia
noncomputable def MC(l:Po)(c:Nat)(b:Int):Po:=iB (g4 l (cN LP c)) b 1
theorem XW(f:T3->T3)(ns:List (Int×Int))(g:Fn)(l:Po)(c:Nat)(b:Int):L (fun j=>Br f ns (sh j g)) (MC l c b)=L (fun j=>Br f ns (gH c (sh b (sh j g)))) l:=by
 unfold MC;rw [Y.FA,Y.zq,xO];congr 1;funext i;rw [my];have:(fun j=>Br f ns (sh (i+j+b) g))=fun t=>Br f ns (sh (t+(i+b)) g):=by
  funext t; rw [show i+t+b=t+(i+b) by lia]
 rw [this,Ht];show Br f ns (sh (0+(i+b)) (gH c g))=_;rw [vF,kb,kb,pL,eQ i b]
theorem Rl(l:Po)(c:Nat)(b:Int):d0 (MC l c b)<=d0 l * 2 ^ c:=by
 unfold MC iB;refine bc (Y.vQ _) ?_;have e:∀ m:Po,d0 (m.map fun p=>(p.1+b,p.2 * 1))=d0 m:=by
  intro m;induction m with
  | nil=>rfl
  | cons p m ih=>rw [aj,d0,d0,ih]; simp
 rw [e];exact bc (Y.tf _ _) (Nat.mul_le_mul_left _ (Y.o4 LP c))
noncomputable def pK(A:Su)(k':PK)(l:Po)(c:Nat)(b:Int):Su:=d6 A k' (pY ((cw A k').getD []) (MC l c b))
noncomputable def Mo(S:Su):Prop:=(S.map (·.1)).Nodup/\∀ p∈S,ND p.2/\NZ p.2
theorem Mo.get{S:Su}(h:Mo S)(k:PK):ND ((cw S k).getD [])/\NZ ((cw S k).getD []):=by
 cases e:cw S k with
 | none=>exact⟨Y.ND.nil,fun p hp=>by cases hp⟩
 | some l=>exact h.2 _ (Dq e)
theorem Mo.put{S:Su}(h:Mo S){k:PK}{l:Po}(h1:ND l)(h2:NZ l):Mo (d6 S k l):=by
 refine⟨pD h.1,fun p hp=>?_⟩;unfold d6 at hp;split at hp
 ·obtain⟨q,hq,rfl⟩:=List.mem_map.mp hp;split
  ·exact⟨h1,h2⟩
  ·exact h.2 q hq
 ·rcases List.mem_append.mp hp with hp | hp
  ·exact h.2 p hp
  ·rw [aU] at hp; subst hp; exact⟨h1,h2⟩
theorem Nd{A:Su}(h:Mo A)(k':PK)(l:Po)(c:Nat)(b:Int):Mo (pK A k' l c b):=h.put (Y.Rc (h.get k').1) (Y.uw _)
theorem Na{A:Su}(h:Mo A)(ns:List (Int×Int))(g:Fn)(k':PK)(l:Po)(c:Nat)(b:Int):mV ns g (pK A k' l c b)=mV ns g A+L (fun j=>Br (pt (dec k')) ns (gH c (sh b (sh j g)))) l:=by
 unfold pK;rw [QJ ns g k' _ h.1,Y.P6 _ (h.get k').1,XW];lia
noncomputable def iC:Su->Nat
 | []=>0
 | p :: S=>d0 p.2+iC S
theorem yr(S S':Su):iC (S++S')=iC S+iC S':=by
 induction S with
 | nil=>simp [iC]
 | cons p S ih=>rw [aG,iC,iC,ih]; lia
theorem N5(k:PK)(l:Po):∀ {S:Su},(S.map (·.1)).Nodup->iC (d6 S k l)+d0 ((cw S k).getD [])<=iC S+d0 l
 | S,nd=>by
  unfold d6;split
  ·rename_i h;have main:∀ {S:Su},(S.map (·.1)).Nodup->(S.any fun p=>decide (p.1=k))=true->iC (S.map fun p=>if p.1=k then (p.1,l) else p)+d0 ((cw S k).getD [])<=iC S+d0 l:=by
    intro S;induction S with
    | nil=>intro _ h; cases h
    | cons p S ih =>
     intro nd h;rw [aj,aQ] at nd;rw [aj,iC,iC];by_cases e:p.1=k
     ·have e2:(S.map fun p=>if p.1=k then (p.1,l) else p)=S:=by
       conv=>rhs; rw [<-ib S]
       refine cQ fun q hq=>?_;rw [if_neg]; rfl;intro z; exact nd.1 (by rw [e,<-z]; exact bQ hq)
      have e3:cw (p :: S) k=some p.2:=by unfold cw; rw [b9 (by simpa using e)]; rfl
      rw [e2,e3,if_pos e];simp only [fY];lia
     ·have e3:cw (p :: S) k=cw S k:=by unfold cw; rw [cb (by simpa using e)]
      have:=ih nd.2 (by simpa [e] using h);rw [e3,if_neg e];lia
   exact main nd h
  ·rename_i h;rw [yr];have e3:cw S k=none:=by
    unfold cw;have:S.find? (fun p=>decide (p.1=k))=none:=by
     rw [gE];intro p hp z;exact h (List.any_eq_true.mpr ⟨p,hp,z⟩)
    rw [this]; rfl
   rw [e3];show iC S+(d0 l+0)+0<=_;lia
theorem Nb{A:Su}(h:Mo A)(k':PK)(l:Po){c:Nat}(hc:c<=2)(b:Int):iC (pK A k' l c b)<=iC A+4 * d0 l:=by
 unfold pK;have h1:=N5 k' (pY ((cw A k').getD []) (MC l c b)) h.1;have h2:=Y.N1 (h.get k').1 (MC l c b);have h3:=Rl l c b;have h4:d0 l * 2 ^ c<=d0 l * 4:=Nat.mul_le_mul_left _ (show 2 ^ c<=2 ^ 2 from cU (by decide) hc);lia
theorem Rm(S:Su)(k:PK):d0 ((cw S k).getD [])<=iC S:=by
 induction S with
 | nil=>exact aB _
 | cons p S ih =>
  unfold cw at *;rw [iC];by_cases e:p.1=k
  ·rw [b9 (by simpa using e)]; simp only [tQ,fY]; lia
  ·rw [cb (by simpa using e)]; lia
noncomputable def ng(S:Su):Su:=S.filter fun p=>!p.2.isEmpty
theorem Oz(ns:List (Int×Int))(g:Fn)(S:Su):mV ns g (ng S)=mV ns g S:=by
 unfold ng;induction S with
 | nil=>rfl
 | cons p S ih =>
  rw [bV];split
  ·rw [mV,mV,ih]
  ·rename_i h;have:p.2=[]:=by simpa using h
   rw [ih,mV,this,L,vF]
theorem OC{S:Su}(h:Mo S):Mo (ng S):=⟨mL (i8 _ ic) h.1,fun p hp=>h.2 p (List.mem_filter.mp hp).1⟩
theorem OA(S:Su):iC (ng S)<=iC S:=by
 unfold ng;induction S with
 | nil=>exact aB _
 | cons p S ih =>
  rw [bV];split
  ·rw [iC,iC]; lia
  ·rw [iC]; lia
end J
end K2
end
section
namespace K2
open PySem (Str)
open Enc (enc)
namespace Y
structure Pl(G:Gp)(d:D)(l:Po):Prop where
 is:VZ G d l
 nd:ND l
theorem uZ{G G1:Gp}{p:Nat}{o:GO}{Q:DK}(l:fJ G G1)(hp:G p=none)(h1:G1 p=some o)(q:gI G o Q):FV G1 (.ref p) Q:=HK l hp h1 (q p hp)
theorem CT(i j:Int):ig (.int i) (.int j)=decide (i=j):=Enc.eqv i j
theorem ux(l m:Po):eL (l++m)=eL l++eL m:=eC _ _
theorem GZ{l:Po}{k:Int}(h:k∈(eL l).map (·.1)):k∈l.map (·.1):=(i8 _ ic).subset h
theorem SH{l pre post:Po}{p:Int×Int}(h:ND l)(e:l=pre++p :: post):p.1∉pre.map (·.1):=by
 subst e;unfold ND at h;rw [bq,aj,dS] at h;intro z;exact h.2.2 _ z _ (by simp) rfl
theorem sY{l pre post:Po}{p:Int×Int}(h:ND l)(e:l=pre++p :: post)(hz:p.2≠0):d6 (eL pre) p.1 p.2=eL (pre++[p]):=by
 rw [kE fun z=>SH h e (GZ z),ux];congr 1;simp [eL,hz]
theorem sZ{pre:Po}{p:Int×Int}(hz:p.2=0):eL (pre++[p])=eL pre:=by
 rw [ux]; simp [eL,hz]
theorem iE(i:Int):(enc i:D)=.int i:=rfl
noncomputable def cM:nj:=fun ds G Q _=>∃ (d:D) (l:Po),ds=[d]/\Pl G d l/\l.length<=SZ/\gI G (.eV (aS (eL l))) Q
noncomputable def lY:iP :=
 (b7 (bJ jq (aI 1))
 (b7 (eB (gx (ax 0)) (gz (cq (aI 2) (cq (aI 3) gf))) (gU (jo (bH (GS true) (ax 3) (dC (.int 0)))) (bJ (ax 3) (lj (ax 1) (ax 2))) eA))
 (cR (d4 (ax 1)))))
theorem mw(ds:List D)(G:Gp)(Q:DK)(h:cM ds G Q fun _ _=>False):lY (fun _ _=>False) (ends Q) (bA 4 ds) G:=by
 obtain⟨d,l,rfl,hd,hl,q⟩:=h;unfold lY;simp only [ends,bA,aj,aW,ah,aA,bo,aG,aL,cg,bJ,jq,aI,ao,ak];intro p hp;refine eF (fun τ G'=>(∃ a b,τ=[some d,some (.ref p),a,b])/\fJ G G'/\G' p=some (.eV (aS (eL l)))) ?_ ?_
 ·intro N hN;simp only [eB,gx,ax,aa];refine kB hd.is (.new hp) fun ok cp=>?_;refine dQ (xs:=l) (fun pre τ G'=>(∃ a b,τ=[some d,some (.ref p),a,b])/\fJ G G'/\G' p=some (.eV (aS (eL pre)))) ⟨⟨_,_,rfl⟩,.new hp,aC⟩ (fun pre τ G' h=>cp G' h.2.1) ?_ ?_
  ·rintro pre x post τ G' N2 e ⟨⟨a,b,rfl⟩,le,gp⟩ jh;have hlen:(eL pre).length < SZ:=by
    have:=oh pre;have:=congrArg cV e;rw [az,ah] at this; lia
   simp only [gz,cq,aI,gf,ao,ak];refine⟨_,_,.int _,.int _,?_⟩;simp only [CT,if_true,bJ,ax,ae,aa,lj,eA];by_cases hz:x.2=0
   ·simp only [hz,decide_true,cj];exact jh _ _ ⟨⟨_,_,rfl⟩,le,by rw [sZ hz]; exact gp⟩
   ·simp only [hz,decide_false,fK];refine fP (α:=Int) gp hlen ?_;exact jh _ _ ⟨⟨_,_,rfl⟩,le.put hp,by rw [aC,<-sY hd.nd e hz]⟩
  ·rintro τ G' ⟨⟨a,b,rfl⟩,le,gp⟩;exact hN _ _ ⟨⟨_,_,rfl⟩,le,gp⟩
 ·rintro _ G' ⟨⟨a,b,rfl⟩,le,gp⟩;simp only [cR,d4,ax,ae,aa];exact uZ le hp gp q
theorem AW{G:Gp}{d:D}{l:Po}{i:Int}{Q:DK}(h:zt G d l)(k:Q (.int (c0 l i)) G):Ho d [.int i,.int 0] G Q:=Ru (α:=Int) (e:=0) h k
theorem gQ{α:Type}{l pre post:List α}{x:α}(e:l=pre++x :: post):pre.length < l.length:=by
 have:=congrArg cV e;rw [az,ah] at this; lia
noncomputable def iA:nj:=fun ds G Q _=>∃ (d e:D) (l m:Po),ds=[d,e]/\Pl G d l/\Pl G e m/\l.length+m.length<=SZ/\gI G (.eV (aS (pY l m))) Q
noncomputable def D3:iP :=
 (b7 (bJ (u5 Kv (ar (ax 0) aT)) (aI 2))
 (b7 (eB (gx (ax 1)) (gz (cq (aI 3) (cq (aI 4) gf))) (bJ (bH ku (qh Ql Ho (ax 2) (ar (ax 3) (ar (dC (.int 0)) aT))) (ax 4)) (lj (ax 2) (ax 3))))
 (cR (d4 (bP cM (ar (d4 (ax 2)) aT))))))
theorem Fy(ds:List D)(G:Gp)(Q:DK)(h:iA ds G Q fun _ _=>False):D3 (fun _ _=>False) (ends Q) (bA 5 ds) G:=by
 obtain⟨d,e,l,m,rfl,hd,he,hl,q⟩:=h;unfold D3;simp only [ends,bA,aj,aW,ah,aA,bo,aG,aL,cg,bJ,u5,ar,ax,aa,aT,aI,ao,ak];refine PT hd.is.p (by lia) fun p hp=>?_;refine eF (fun τ G'=>(∃ a b,τ=[some d,some e,some (.ref p),a,b])/\fJ G G'/\G' p=some (.eV (aS (sI l m)))) ?_ ?_
 ·intro N hN;simp only [eB,gx,ax,ae,aa];refine kB he.is (.new hp) fun ok cp=>?_;refine dQ (xs:=m) (fun pre τ G'=>(∃ a b,τ=[some d,some e,some (.ref p),a,b])/\fJ G G'/\G' p=some (.eV (aS (sI l pre)))) ⟨⟨_,_,rfl⟩,.new hp,aC⟩ (fun pre τ G' h=>cp G' h.2.1) ?_ ?_
  ·rintro pre x post τ G' N2 e2 ⟨⟨a,b,rfl⟩,le,gp⟩ jh;have hlen:(sI l pre).length < SZ:=by
    have:=AP l pre;have:=gQ e2; lia
   simp only [gz,cq,aI,gf,bJ,bH,qh,ax,ao,ak,ae,aa,oP,ar,dC,aT,lj];refine⟨Gv (zt.ref gp),AW (zt.ref gp) ?_⟩;simp only [iE,ff];refine fP (α:=Int) gp hlen ?_;refine jh _ _ ⟨⟨_,_,rfl⟩,le.put hp,?_⟩;rw [aC];unfold sI plus;rw [fO]; rfl
  ·rintro τ G' ⟨⟨a,b,rfl⟩,le,gp⟩;exact hN _ _ ⟨⟨_,_,rfl⟩,le,gp⟩
 ·rintro _ G' ⟨⟨a,b,rfl⟩,le,gp⟩;simp only [cR,d4,bP,ar,ax,ae,aa,aT];refine gS le hp gp ?_;refine⟨_,sI l m,rfl,⟨rfl,Ee hd.nd⟩,by have:=AP l m; lia,fun p2 nK=>?_⟩;exact uZ (.new nK) nK aC q
noncomputable def e9:nj:=fun ds G Q _=>∃ (d:D) (l:Po) (b f:Int),ds=[d,.int b,.int f]/\Pl G d l/\l.length<=SZ/\(d0 l < mP/\f.natAbs < mP)/\gI G (.eV (aS (iB l b f))) Q
noncomputable def x5:iP :=
 (b7 (bJ jq (aI 3))
 (b7 (eB (gx (ax 0)) (gz (cq (aI 4) (cq (aI 5) gf))) (bJ (bH D7 (ax 5) (ax 2)) (lj (ax 3) (bH ku (ax 4) (ax 1)))))
 (cR (d4 (bP cM (ar (d4 (ax 3)) aT))))))
noncomputable def Nm(b f:Int)(l:Po):Po:=l.map fun p=>(p.1+b,p.2 * f)
theorem GK{l pre post:Po}{p:Int×Int}(b f:Int)(h:ND l)(e:l=pre++p :: post):d6 (Nm b f pre) (p.1+b) (p.2 * f)=Nm b f (pre++[p]):=by
 rw [kE,Nm,Nm,bq]; rfl;intro z;unfold Nm at z;rw [bC] at z;obtain⟨r,hr,er⟩:=List.mem_map.mp z;have:r.1=p.1:=by have:r.1+b=p.1+b:=er; lia
 exact SH h e (this ▸ bQ hr)
theorem zh(ds:List D)(G:Gp)(Q:DK)(h:e9 ds G Q fun _ _=>False):x5 (fun _ _=>False) (ends Q) (bA 6 ds) G:=by
 obtain⟨d,l,b,f,rfl,hd,hl,⟨hb,hf⟩,q⟩:=h;unfold x5;simp only [ends,bA,aj,aW,ah,aA,bo,aG,aL,cg,bJ,jq,aI,ao,ak];intro p hp;refine eF (fun τ G'=>(∃ u v,τ=[some d,some (.int b),some (.int f),some (.ref p),u,v])/\fJ G G'/\G' p=some (.eV (aS (Nm b f l)))) ?_ ?_
 ·intro N hN;simp only [eB,gx,ax,aa];refine kB hd.is (.new hp) fun ok cp=>?_;refine dQ (xs:=l) (fun pre τ G'=>(∃ u v,τ=[some d,some (.int b),some (.int f),some (.ref p),u,v])/\fJ G G'/\G' p=some (.eV (aS (Nm b f pre)))) ⟨⟨_,_,rfl⟩,.new hp,aC⟩ (fun pre τ G' h=>cp G' h.2.1) ?_ ?_
  ·rintro pre x post τ G' N2 e ⟨⟨u,v,rfl⟩,le,gp⟩ jh;have hlen:(Nm b f pre).length < SZ:=by
    have:=gQ e;unfold Nm; rw [aE]; lia
   have hx:x.2.natAbs < mP:=dI (o6 (by rw [e]; simp)) hb;simp only [gz,cq,aI,gf,bJ,bH,ax,ao,ak,iE,ae,aa,lj,ff,lC];refine⟨⟨hx,hf⟩,?_⟩;refine fP (α:=Int) gp hlen ?_;exact jh _ _ ⟨⟨_,_,rfl⟩,le.put hp,by rw [aC,<-GK b f hd.nd e]⟩
  ·rintro τ G' ⟨⟨u,v,rfl⟩,le,gp⟩;exact hN _ _ ⟨⟨_,_,rfl⟩,le,gp⟩
 ·rintro _ G' ⟨⟨u,v,rfl⟩,le,gp⟩;simp only [cR,d4,bP,ar,ax,ae,aa,aT];refine gS le hp gp ?_;refine⟨_,Nm b f l,rfl,⟨rfl,DW hd.nd b f⟩,by unfold Nm; rw [aE]; exact hl,fun p2 nK=>?_⟩;exact uZ (.new nK) nK aC q
noncomputable def gk:nj:=fun ds G Q _=>∃ (d e:D) (l m:Po),ds=[d,e]/\Pl G d l/\Pl G e m/\l.length * m.length<=SZ/\(d0 l < mP/\d0 m < mP)/\gI G (.eV (aS (g4 l m))) Q
noncomputable def D1:iP :=
 (b7 (bJ jq (aI 2))
 (b7 (eB (gx (ax 0)) (gz (cq (aI 3) (cq (aI 4) gf))) (eB (gx (ax 1)) (gz (cq (aI 5) (cq (aI 6) gf))) (b7 (bJ (bH ku (ax 3) (ax 5)) (aI 7))
 (bJ (bH ku (qh Ql Ho (ax 2) (ar (ax 7) (ar (dC (.int 0)) aT))) (bH D7 (ax 4) (ax 6))) (lj (ax 2) (ax 7))))))
 (cR (d4 (bP cM (ar (d4 (ax 2)) aT))))))
theorem Rq{l pre post:Po}{x:Int×Int}{m mp mq:Po}{y:Int×Int}(e:l=pre++x :: post)(e2:m=mp++y :: mq)(a:Po)(ha:a.length<=pre.length * m.length):(fM mp a x).length < l.length * m.length:=by
 have h1:=gT mp a x;have h2:=gQ e;have h3:=gQ e2;have h4:(pre.length+1) * m.length<=l.length * m.length:=eK _ h2;rw [Qy] at h4;lia
theorem LZ(m:Po):∀ (l:Po),(l.foldl (fM m) []).length<=l.length * m.length:=fun l=>qI l m
theorem Fv(ds:List D)(G:Gp)(Q:DK)(h:gk ds G Q fun _ _=>False):D1 (fun _ _=>False) (ends Q) (bA 8 ds) G:=by
 obtain⟨d,e,l,m,rfl,hd,he,hl,⟨hb,hf⟩,q⟩:=h;unfold D1;simp only [ends,bA,aj,aW,ah,aA,bo,aG,aL,cg,bJ,jq,aI,ao,ak];intro p hp;refine eF (fun τ G'=>(∃ a1 a2 a3 a4 a5,τ=[some d,some e,some (.ref p),a1,a2,a3,a4,a5])/\fJ G G'/\G' p=some (.eV (aS (mX l m)))) ?_ ?_
 ·intro N hN;simp only [eB,gx,ax,aa];refine kB hd.is (.new hp) fun ok cp=>?_;refine dQ (xs:=l) (fun pre τ G'=>(∃ a1 a2 a3 a4 a5,τ=[some d,some e,some (.ref p),a1,a2,a3,a4,a5])/\fJ G G'/\G' p=some (.eV (aS (pre.foldl (fM m) [])))) ⟨⟨_,_,_,_,_,rfl⟩,.new hp,aC⟩ (fun pre τ G' h=>cp G' h.2.1) ?_ ?_
  ·rintro pre x post τ G' N2 e1 ⟨⟨a1,a2,a3,a4,a5,rfl⟩,le,gp⟩ jh;have hx:x.2.natAbs < mP:=dI (o6 (by rw [e1]; simp)) hb;simp only [gz,cq,aI,gf,eB,gx,ax,ao,ak,iE,ae,aa];refine kB he.is le fun Wx ZQ=>?_;refine dQ (xs:=m) (fun mp τ G'=>(∃ a3 a4 a5,τ=[some d,some e,some (.ref p),some (.int x.1),some (.int x.2),a3,a4,a5])/\fJ G G'/\G' p=some (.eV (aS (fM mp (pre.foldl (fM m) []) x)))) ⟨⟨_,_,_,rfl⟩,le,gp⟩ (fun pre τ G' h=>ZQ G' h.2.1) ?_ ?_
   ·rintro mp y mq τ G2 N3 e2 ⟨⟨b3,b4,b5,rfl⟩,UH,MG⟩ U4;have hlen:=bK (Rq e1 e2 (pre.foldl (fM m) []) (LZ m pre)) hl;have hy:y.2.natAbs < mP:=dI (o6 (by rw [e2]; simp)) hf;simp only [gz,cq,aI,gf,ao,ak,iE,cg,bJ,bH,ax,ae,aa,qh,oP,ar,dC,aT,lj,lC,ff];refine⟨Gv (zt.ref MG),AW (zt.ref MG) ?_⟩;simp only [ff];refine⟨⟨hx,hy⟩,?_⟩;refine fP (α:=Int) MG hlen ?_;refine U4 _ _ ⟨⟨_,_,_,rfl⟩,UH.put hp,?_⟩;rw [aC]
    conv=>rhs; rw [fM,fO]
    rfl
   ·rintro τ G2 ⟨⟨b3,b4,b5,rfl⟩,UH,MG⟩;refine jh _ _ ⟨⟨_,_,_,_,_,rfl⟩,UH,?_⟩;rw [MG,fO]; rfl
  ·rintro τ G' ⟨⟨a1,a2,a3,a4,a5,rfl⟩,le,gp⟩;exact hN _ _ ⟨⟨_,_,_,_,_,rfl⟩,le,gp⟩
 ·rintro _ G' ⟨⟨a1,a2,a3,a4,a5,rfl⟩,le,gp⟩;simp only [cR,d4,bP,ar,ax,ae,aa,aT];refine gS le hp gp ?_;refine⟨_,mX l m,rfl,⟨rfl,yg l m⟩,bc (qI l m) hl,fun p2 nK=>?_⟩;exact uZ (.new nK) nK aC q
noncomputable def fu:nj:=fun ds G Q _=>∃ (d:D) (l:Po) (n:Nat),ds=[d,.int n]/\Pl G d l/\(n<=1000/\∀ k,k < n->l.length ^ k * l.length<=SZ/\d0 l ^ k < mP)/\d0 l < mP/\gI G (.eV (aS (cN l n))) Q
noncomputable def AJ:iP :=
 (b7 (bJ (wQ (dC (.int 0)) (dC (.int 1))) (aI 2))
 (b7 (eB (A5 (ax 1)) (aI 3) (bJ (bP gk (ar (d4 (ax 2)) (ar (d4 (ax 0)) aT))) (aI 2)))
 (cR (d4 (ax 2)))))
theorem BC(ds:List D)(G:Gp)(Q:DK)(h:fu ds G Q fun _ _=>False):AJ (fun _ _=>False) (ends Q) (bA 4 ds) G:=by
 obtain⟨d,l,n,rfl,hd,⟨hn,hk⟩,hb,q⟩:=h;unfold AJ;simp only [ends,bA,aj,aW,ah,aA,bo,aG,aL,cg,bJ,wQ,dC,aI,ao,ak];refine⟨rfl,fun p0 MD=>?_⟩;refine eF (fun τ G'=>(∃ a p,τ=[some d,some (.int n),some (.ref p),a]/\G p=none/\G' p=some (.eV (aS (cN l n))))/\fJ G G') ?_ ?_
 ·intro N hN;simp only [eB,mf,ax,ae,aa,j8];refine⟨by lia,by lia,?_⟩;rw [cF];refine CL (fun pre τ G'=>(∃ a p,τ=[some d,some (.int n),some (.ref p),a]/\G p=none/\G' p=some (.eV (aS (cN l pre.length))))/\fJ G G') ⟨⟨_,p0,rfl,MD,aC⟩,.new MD⟩ (fun _ _ _ _=>trivial) ?_ ?_
  ·rintro pre x post τ G' N2 e1 ⟨⟨a,p,rfl,hp,gp⟩,le⟩ jh;obtain⟨rfl,tG⟩:=sU e1;obtain⟨h1,h2⟩:=hk pre.length tG;simp only [aI,bJ,bP,ar,d4,ax,ao,ak,ae,aa,aT];refine gS le hp gp (gB ?_);refine⟨_,d,cN l pre.length,l,rfl,⟨rfl,vN _ _⟩,hd,bc (eK _ (sW l _)) h1,⟨dI (o4 l _) h2,hb⟩,fun p2 nK=>?_⟩;refine jh _ _ ⟨⟨_,p2,rfl,nK,?_⟩,.new nK⟩;rw [aC,az]; rfl
  ·rintro τ G' ⟨⟨a,p,rfl,hp,gp⟩,le⟩;rw [show (fL 0 n).length=n by simp [fL]] at gp;exact hN _ _ ⟨⟨_,p,rfl,hp,gp⟩,le⟩
 ·rintro _ G' ⟨⟨a,p,rfl,hp,gp⟩,le⟩;simp only [cR,d4,ax,ae,aa];exact uZ le hp gp q
end Y
namespace JB
open K2.P K2.J
noncomputable def AL:iP :=
 (b7 (gU (jo (bH (GS false) (ax 1) (dC (.int 0)))) (cR (d4 (mr (ar (eP (ar (eP (ar (ax 0) (ar (dC (.int 0)) (ar (dC (.int 0)) aT)))) (ar (eP (ar (ax 0) (ar (dC (.int 1)) (ar (dC (.int 1)) aT)))) aT))) (ar (eP (ar (eP (ar (ax 0) (ar (dC (.int 1)) (ar (dC (.int 0)) aT)))) (ar (eP (ar (ax 0) (ar (dC (.int 0)) (ar (dC (.int 1)) aT)))) aT))) aT))))) eA)
 (cR (d4 (mr (ar (eP (ar (eP (ar (ax 0) (ar (dC (.int 0)) (ar (dC (.int 0)) aT)))) (ar (eP (ar (ax 0) (ar (dC (.int 1)) (ar (dC (.int 0)) aT)))) aT))) (ar (eP (ar (eP (ar (ax 0) (ar (dC (.int 0)) (ar (dC (.int 1)) aT)))) (ar (eP (ar (ax 0) (ar (dC (.int 1)) (ar (dC (.int 1)) aT)))) aT))) aT))))))
noncomputable def wI(w:Bool):Int:=if w=true then 1 else 0
noncomputable def nW:nj:=fun ds G Q _=>∃ (n:Int) (w:Bool),ds=[.int n,.int (wI w)]/\Q (enc (js n w)) G
theorem BD(ds:List D)(G:Gp)(Q:DK)(h:nW ds G Q fun _ _=>False):AL (fun _ _=>False) (ends Q) (bA 2 ds) G:=by
 obtain⟨n,w,rfl,q⟩:=h;unfold AL;simp only [b7,gU,bA,aj,aW,ah,aA,aG,aL,cR,d4,mr,ar,eP,ax,aa,dC,aT,ends,eA,dE,bH,ae];refine⟨_,_,.int _,.int _,?_⟩;simp only [aF,nM,if_false,cP];cases w with
 | false =>
  simp only [wI,aF,if_false,beq_self_eq_true,if_true];refine⟨by decide,by decide,by decide,by decide,by decide,by decide,by decide,fun p hp=>?_⟩;exact tH (xs:=js n false) (.new hp) hp aC q
 | true =>
  simp only [wI,if_true,show ((1:Int) == 0)=false from rfl,aF,if_false];refine⟨by decide,by decide,by decide,by decide,by decide,by decide,by decide,fun p hp=>?_⟩;exact tH (xs:=js n true) (.new hp) hp aC q
noncomputable def wz:iP :=
 (cR (d4 (Ta (jo (bH (GS false) (ax 1) (dC (.int 0)))) (ax 0) (E8 zS (ax 0)))))
noncomputable def pw(h:Int)(w:Bool):Int:=if w=true then -h else h
noncomputable def ko:nj:=fun ds G Q _=>∃ (h:Int) (w:Bool),ds=[.int h,.int (wI w)]/\Q (.int (pw h w)) G
theorem wW(ds:List D)(G:Gp)(Q:DK)(h:ko ds G Q fun _ _=>False):wz (fun _ _=>False) (ends Q) (bA 2 ds) G:=by
 obtain⟨n,w,rfl,q⟩:=h;unfold wz;simp only [cR,d4,Ta,bA,aj,aW,ah,aA,aG,aL,ax,aa,ends,E8,kr,dE,bH,ae,dC];refine⟨_,_,.int _,.int _,?_⟩;simp only [aF,nM,if_false,cP];cases w with
 | false =>
  simp only [wI,aF,if_false,beq_self_eq_true,if_true];exact gB q
 | true =>
  simp only [wI,if_true,show ((1:Int) == 0)=false from rfl,aF,if_false];exact gB q
theorem WL:∀ (x y:List Int),tw (fun a b=>decide (a < b)) x y=lexLt x y
 | [],[]=>rfl
 | [],_ :: _=>rfl
 | _ :: _,[]=>rfl
 | a :: x,b :: y=>by rw [vV,WL x y]; rfl
theorem lt3(p q:T3):lexLt p.l q.l=bb.lt p q:=(WL _ _).symm
noncomputable def x6:iP :=
 (cR (d4 (u5 RY (ar (u5 vc (ar (jz 1 [0] (A6 (ax 0)) (aI 0) (some (jo (bH T5 (ax 0) (bH nF (ax 1) (ax 0))))) (eP (ar (ax 0) (ar (bH nF (ax 1) (ax 0)) aT)))) aT)) aT))))
noncomputable def jk:nj:=fun ds G Q _=>∃ (l:List (T3×T3)),ds=[.gN (aS l)]/\((l.map (·.1)).Nodup/\l.length < 64)/\Q (pM (la (Ln l))) G
theorem zi(ds:List D)(G:Gp)(Q:DK)(h:jk ds G Q fun _ _=>False):x6 (fun _ _=>False) (ends Q) (bA 1 ds) G:=by
 obtain⟨l,rfl,⟨nd,hl⟩,q⟩:=h;unfold x6;simp only [cR,d4,u5,ar,jz,A6,ax,bA,aj,aW,ah,aA,aG,aL,aa,aT,ends];show _/\_;have ek:((aS l).map fun p=>p.1)=l.map fun p=>enc p.1:=by unfold aS; rw [bC]; rfl
 refine⟨M8 (by unfold aS; rw [aE,aE]; lia),?_⟩;rw [ek];refine oC (xs:=l) (f:=fun p=>enc p.1) (fun pre acc τ G'=>G=G'/\(∃ a,τ=[a,some (.gN (aS l))])/\acc=(pre.filter fun p=>bb.lt p.1 p.2).map enc) ⟨rfl,⟨_,rfl⟩,rfl⟩ (fun _ _ _ _ _=>trivial) ?_ ?_
 ·rintro pre x post acc τ G' N e ⟨rfl,⟨a,rfl⟩,rfl⟩ hN;have hx:cw l x.1=some x.2:=yu nd (by rw [e]; simp);simp only [aI,ak,eP,ar,ax,aa,bH,ae,aT,ah,aA,B4,yC,hx,tQ,dE];refine⟨pe _ _,?_⟩;show ∃ xs ys,_;refine⟨x.1.l,x.2.l,rfl,rfl,?_⟩;simp only [lt3,cP];split
  ·rename_i tG;refine⟨pe _ _,by decide,hN _ _ _ ⟨rfl,⟨_,rfl⟩,?_⟩⟩;simp only [eC,bV,tG,if_true,vp,bq]; rfl
  ·rename_i tG;refine hN _ _ _ ⟨rfl,⟨_,rfl⟩,?_⟩;simp only [eC,bV,tG,if_false,vp,cH,aF]
 ·rintro acc τ G' ⟨rfl,⟨a,rfl⟩,rfl⟩ p hp;refine zc (IsL.ref aC) (dI (dU _ _) hl) fun p2 nK=>?_;unfold RY;simp only [kA (IsL.ref aC)];rw [NP] at q;exact CK ((fJ.new hp).trans (.new nK)) q
theorem LS{G G2:Gp}{d:D}{ds:List D}{R:List D->(Gp->Prop)->Gp->Prop}(h:itemsOf d G=some ds)(l:fJ G G2)(k:∀ ok:Gp->Prop,(∀ G',fJ G G'->ok G')->R ds ok G2):Qq d G2 R:=by
 cases d with
 | tup xs=>cases h; exact k _ fun _ _=>trivial
 | dJ xs=>cases h; exact k _ fun _ _=>trivial
 | ref a =>
  unfold itemsOf at h;dsimp only at h;split at h
  ·rename_i xs ha;cases h;rw [xq (l _ _ ha)];exact k _ fun G' le=>le _ _ ha
  ·cases h
 | _=>cases h
noncomputable def wF:iP :=
 (b7 (bJ jq (aI 1))
 (b7 (eB (si (ax 0)) (gz (cq (aI 2) (cq (aI 3) gf))) (b7 (bJ (ax 3) (lj (ax 1) (ax 2)))
 (bJ (ax 2) (lj (ax 1) (ax 3)))))
 (cR (d4 (ax 1)))))
noncomputable def iw:nj:=fun ds G Q _=>∃ (d:D) (P:Pr T3),ds=[d]/\itemsOf d G=some (P.map enc)/\P.length<=200/\gI G (.eV (aS (HU P))) Q
theorem Pc(P:Pr T3)(p:T3×T3):HU (P++[p])=d6 (d6 (HU P) p.1 p.2) p.2 p.1:=by unfold HU; rw [fO]; rfl
theorem wZ(ds:List D)(G:Gp)(Q:DK)(h:iw ds G Q fun _ _=>False):wF (fun _ _=>False) (ends Q) (bA 4 ds) G:=by
 obtain⟨d,P,rfl,hi,hl,q⟩:=h;unfold wF;simp only [ends,bA,aj,aW,ah,aA,bo,aG,aL,cg,bJ,jq,gI,aI,ao,ak];intro p hp;refine eF (fun τ G'=>(∃ a b,τ=[some d,some (.ref p),a,b])/\fJ G G'/\G' p=some (.eV (aS (HU P)))) ?_ ?_
 ·intro N hN;simp only [eB,gR,ax,aa];refine LS hi (.new hp) fun ok cp=>?_;refine dQ (xs:=P) (fun pre τ G'=>(∃ a b,τ=[some d,some (.ref p),a,b])/\fJ G G'/\G' p=some (.eV (aS (HU pre)))) ⟨⟨_,_,rfl⟩,.new hp,aC⟩ (fun pre τ G' h=>cp G' h.2.1) ?_ ?_
  ·rintro pre x post τ G' N2 e ⟨⟨a,b,rfl⟩,le,gp⟩ jh;have hlen:=Ki pre;have Bb:pre.length < P.length:=by rw [e]; simp
   have e0:(enc x:D)=.tup [enc x.1,enc x.2]:=rfl;simp only [gz,e0,cq,aI,gf,ao,ak,cg,bJ,ax,ae,aa,lj];refine K2.P.fP (k:=x.1) (v:=x.2) gp (by lia) ?_;have abC:=qZ (HU pre) x.1 x.2;refine K2.P.fP (k:=x.2) (v:=x.1) aC (by lia) ?_;refine jh _ _ ⟨⟨_,_,rfl⟩,(le.put hp).put hp,?_⟩;rw [aC,Pc]
  ·rintro τ G' ⟨⟨a,b,rfl⟩,le,gp⟩;exact hN _ _ ⟨⟨_,_,rfl⟩,le,gp⟩
 ·rintro _ G' ⟨⟨a,b,rfl⟩,le,gp⟩;simp only [cR,d4,ax,ae,aa];exact HK le hp gp (q p hp)
noncomputable def Qm(l:List (T2×T2)):Pr T3:=l.map fun p=>(⟨p.1.a,p.1.b,1⟩,⟨p.2.a,p.2.b,0⟩)
theorem Va(P:Pr T3):((HU P).map (·.1)).Nodup:=by
 have:∀ (P:Pr T3) (l:List (T3×T3)),(l.map (·.1)).Nodup->((P.foldl (fun l p=>d6 (d6 l p.1 p.2) p.2 p.1) l).map (·.1)).Nodup:=by
  intro P;induction P with
  | nil=>intro l h; exact h
  | cons p P ih=>intro l h; exact ih _ (pD (pD h))
 exact this P [] cA
noncomputable def sE:iP :=
 (b7 (bJ (jz 2 [] (CF (bP lV (ar (ax 0) aT))) (gz (cq (aI 0) (cq (aI 1) gf))) none (eP (ar (bH ku (ax 0) (eP (ar (dC (.int 1)) aT))) (ar (bH ku (ax 1) (eP (ar (dC (.int 0)) aT))) aT)))) (aI 1))
 (cR (d4 (bP jk (ar (d4 (bP iw (ar (ax 1) aT))) aT)))))
noncomputable def i9:nj:=fun ds G Q _=>∃ rows:Rows,ds=[enc rows]/\rows.flatten.length<=24/\Q (pM (la (Ln (HU (Qm (md (pairsOf rows))))))) G
theorem sN(ds:List D)(G:Gp)(Q:DK)(h:i9 ds G Q fun _ _=>False):sE (fun _ _=>False) (ends Q) (bA 2 ds) G:=by
 obtain⟨rows,rfl,hl,q⟩:=h;have l1:=AS (pairsOf rows);have l2:=pairs_len rows;unfold sE;simp only [ends,bA,aj,aW,ah,aA,bo,aG,aL,cg,bJ,jz,CF,bP,ar,ax,aa,aT,aI,cR,d4,ao,ak,ae];refine⟨rows,rfl,by lia,?_⟩;generalize hn:md (pairsOf rows)=l at q l1;have hk:(((aS l).all fun p=>kc p.1)=true):=by
  unfold aS; rw [mD,eM]; intro p _; rfl
 refine⟨hk,?_⟩;have em:((aS l).map fun p=>D.tup [p.1,p.2])=l.map fun p=>D.tup [enc p.1,enc p.2]:=by unfold aS; rw [bC]; rfl
 rw [em];refine⟨M8 (by rw [aE]; lia),?_⟩;refine oC (xs:=l) (f:=fun p=>D.tup [enc p.1,enc p.2]) (fun pre acc τ G'=>G=G'/\(∃ a b,τ=[a,b])/\acc=(Qm pre).map enc) ⟨rfl,⟨_,_,rfl⟩,rfl⟩ (fun _ _ _ _ _=>trivial) ?_ ?_
 ·rintro pre x post acc τ G' N e ⟨rfl,⟨a,b,rfl⟩,rfl⟩ hN;simp only [gz,cq,aI,gf,eP,ar,bH,ax,Vc,ak,ao,aa,dC,aT,ah,aA,ae,uq,aG,aL];refine⟨by decide,by simp,by decide,by decide,by simp,by decide,by decide,hN _ _ _ ⟨rfl,⟨_,_,rfl⟩,?_⟩⟩;unfold Qm;rw [bq,bq]; rfl
 ·rintro acc τ G' ⟨rfl,⟨a,b,rfl⟩,rfl⟩ p hp;have lt:(Qm l).length<=24:=by unfold Qm; rw [aE]; lia
  refine⟨.ref p,Qm l,rfl,tD (IsL.ref aC),by lia,fun p2 nK=>?_⟩;refine gS ((fJ.new hp).trans (.new nK)) ((fJ.new hp).free nK) aC ?_;have lf:=Ki (Qm l);exact⟨HU (Qm l),rfl,⟨Va _,by lia⟩,gB q⟩
end JB
namespace JB
open K2.P K2.J
open K2.Y (Po L ND NZ d0 pY g4 iB cN e9 gk fu iA Pl)
theorem RO(l:List (T3×T3))(k:T3):((aS l).filter fun p=>!ig p.1 (enc k))=aS (CY l k):=by
 unfold aS CY;rw [List.filter_map];congr 1;refine List.filter_congr fun p _=>?_;show (!ig (enc p.1) (enc k))=_;rw [Enc.eqv]; simp
theorem Jw{G:Gp}{a:Nat}{l:List (T3×T3)}{k v:T3}{Q:DK}(h:G a=some (.eV (aS l)))(e:cw l k=some v)(q:Q (enc v) (cT G a (.eV (aS (CY l k))))):Ey (.ref a) [enc k] G Q:=by
 refine⟨aS l,enc v,h,⟨rfl,?_,by rw [yC,e]; rfl⟩,by rw [RO]; exact q⟩;unfold aS; rw [mD,eM]; intro p _; rfl
theorem UP{α:Type} [DecidableEq α]{f:α->α}(h:Iv f){x y e:α}(he:f e=e):jn f x y e=e:=by
 have h1:=h x;have h2:=h y;unfold jn
 grind
theorem uN{f:T3->T3}:∀ {ps:Pr T3},Ok f ps->∀ {e:T3},f e=e->kR f ps e=e:=by
 intro ps;induction ps generalizing f with
 | nil=>intro o e h; exact h
 | cons p ps ih=>intro o e h; exact ih o.tl (UP o.iv h)
theorem sub_len'{α:Type} [DecidableEq α]:∀ (xs ys:List α),xs.Nodup->(∀ x∈xs,x∈ys)->xs.length<=ys.length
 | [],_,_,_=>bZ _
 | x :: xs,ys,hn,h=>by
  rw [aQ] at hn;have:=sub_len' xs (ys.erase x) hn.2 fun y hy=>(jB (show y≠x from fun z=>hn.1 (by rw [<-z]; exact hy))).mpr (h y (au _ hy));have hx:=h x (by simp);rw [ft hx] at this;have:=fV hx;rw [ah]; lia
theorem Kl{l:List (T3×T3)}{f:T3->T3}(h:KJ l f){E:List T3}(hE:∀ e,f e≠e->e∈E):l.length<=E.length:=by
 have:=sub_len' (l.map fun p:T3×T3=>p.1) E h.nd fun e he=>by
  obtain⟨p,hp,rfl⟩:=List.mem_map.mp he;exact hE _ (h.mem hp).2
 simpa using this
theorem Kn(l:List (T3×T3))(k:T3):(CY l k).length<=l.length:=dU _ _
theorem Fd(f:T3->T3)(ps:Pr T3)(x:T3×T3):cls f (ps++[x])=cls f ps+cl (kR f ps) x.1 x.2:=by rw [pA]; rfl
theorem EK(f:T3->T3)(ps:Pr T3)(x:T3×T3):kR f (ps++[x])=jn (kR f ps) x.1 x.2:=by rw [tx]; rfl
noncomputable def qE:iP :=
 (b7 (bJ (bP iw (ar (ax 0) aT)) (aI 2))
 (b7 (bJ (dC (.int 0)) (aI 3))
 (b7 (eB (si (ax 1)) (gz (cq (aI 4) (cq (aI 5) gf))) (b7 (bJ (qh Ql Ey (ax 2) (ar (ax 4) aT)) (aI 6))
 (b7 (bJ (qh Ql Ey (ax 2) (ar (ax 5) aT)) (aI 7))
 (gU (jo (bH (GS false) (ax 6) (ax 5))) (bJ (bH ku (ax 3) (dC (.int 1))) (aI 3)) (b7 (bJ (ax 7) (lj (ax 2) (ax 6)))
 (bJ (ax 6) (lj (ax 2) (ax 7))))))))
 (cR (d4 (eP (ar (bP jk (ar (d4 (ax 2)) aT)) (ar (ax 3) aT))))))))
noncomputable def iu:nj:=fun ds G Q _=>∃ (P ps:Pr T3),ds=[pM (la P),enc ps]/\((es P).Nodup/\P.length<=24/\Ok (pt P) ps)/\∀ P':Pr T3,(es P').Nodup->pt P'=kR (pt P) ps->Q (.tup [pM (la P'),.int (cls (pt P) ps)]) G
theorem rn(ds:List D)(G:Gp)(Q:DK)(h:iu ds G Q fun _ _=>False):qE (fun _ _=>False) (ends Q) (bA 8 ds) G:=by
 obtain⟨P,ps,rfl,⟨nd,hl,ok⟩,q⟩:=h;unfold qE;simp only [↓cg,bJ,bP,ar,ax,bA,↓aj,↓NP,↓aW,↓ah,↓aA,bo,↓aG,↓aL,↓aa,aT,aI,dC,ends,↓ao,↓ak];refine⟨.tup (P.map enc),P,rfl,rfl,by lia,fun p hp=>?_⟩;simp only [↓d4,↓bA,↓ends,↓dE,↓bH,↓E8,↓ax,↓u5,↓qh,↓ar,↓aT,↓cR,↓Pu,↓eT,↓bJ,↓aI,↓dC,↓eA,↓eP,↓mr,↓jq,↓u0,↓Vh,↓VT,↓qW,↓u6,↓C3,↓uY,↓Ii,↓mj,↓iO,↓gR,↓mf,↓bP,↓jz,↓ff,↓uq,↓qH,↓qG,↓nZ,↓uo,↓qF,↓rE,↓kr,↓rB,↓rC,↓rD,↓B5,↓jK,↓oe,↓xi,↓um,↓xj,↓qX,↓ze,↓v9,↓iD,↓jy,↓qL,↓kQ,↓mT,↓oP,↓BS,↓BR,↓true_and,↓and_true,↓xp,↓xn,↓ka,↓cP,↓j8,↓uO,↓CC,↓yJ,↓aj,↓aW,↓aG,↓aL,↓aa,↓ae,↓ak,↓ao,↓ah,↓aA,↓bo,↓if_true,↓if_false,↓cj,↓fK,↓aF,↓cg,↓kq,↓lj,↓gx,↓A6,↓yd,↓lC,↓wQ,↓gz,↓cq,↓gf];refine eF (fun τ G'=>∃ (l:List (T3×T3)) (a1 a2 a3 a4:Option D),τ=[some (.tup (P.map enc)),some (enc ps),some (.ref p),some (.int (cls (pt P) ps)),a1,a2,a3,a4]/\fJ G G'/\G' p=some (.eV (aS l))/\KJ l (kR (pt P) ps)) ?_ ?_
 ·intro N hN;simp only [eB,↓gR,ax,↓ae,↓aa];refine pf ?_;refine dQ (xs:=ps) (fun pre τ G'=>∃ (l:List (T3×T3)) (a1 a2 a3 a4:Option D),τ=[some (.tup (P.map enc)),some (enc ps),some (.ref p),some (.int (cls (pt P) pre)),a1,a2,a3,a4]/\fJ G G'/\G' p=some (.eV (aS l))/\KJ l (kR (pt P) pre)) ⟨HU P,_,_,_,_,rfl,.new hp,aC,Kj nd⟩ (fun _ _ _ _=>trivial) ?_ ?_
  ·rintro pre x post τ G' N2 e ⟨l,a1,a2,a3,a4,rfl,le,gp,fa⟩ jh;have ok1:Ok (pt P) (pre++x :: post):=by rw [<-e]; exact ok
   have Wx:=ok1.left;obtain⟨n1,n2,n3⟩:=Wx.hd;obtain⟨f1,f2,f3,f4⟩:=fa.join Wx.iv n1 n2 n3;have ll:l.length<=(es P).length:=Kl fa fun e he=>(sV nd).mp fun z=>he (uN ok1.pre z);rw [HW] at ll;have e0:(enc x:D)=.tup [enc x.1,enc x.2]:=rfl;rw [e0];simp only [gz,cq,gf,aI,ak,ao];simp only [↓cg,bJ,qh,ax,↓ae,↓aa,↓oP,↓gp,ar,aT,aI,↓ao,↓ak,↓true_and];refine Jw gp f1 ?_;simp only [↓aC,↓true_and];refine Jw aC f2 ?_;simp only [gU,↓dE,bH,ax,↓ae,↓aa,bJ,dC,↓ff,aI,↓ao,↓ak,↓cg,lj];refine⟨_,_,Enc.sn _ _ _ (by decide),Enc.sn _ _ _ (by decide),?_⟩;simp only [↓cP,↓aF,↓Enc.eqv,↓if_false];by_cases c:kR (pt P) pre x.1=x.2
   ·simp only [↓c,↓decide_true,↓if_true];refine jh _ _ ?_;have ec:((cls (pt P) pre+1:Nat):Int)=(cls (pt P) pre:Int)+1:=Int.natCast_add _ _;rw [Fd,EK,cl,if_pos c,ec];exact⟨_,_,_,_,_,rfl,(le.put hp).put hp,aC,f3 c⟩
   ·simp only [↓c,↓decide_false,↓aF,↓if_false];have d1:=Kn l x.1;have d2:=Kn (CY l x.1) x.2;refine K2.P.fP (k:=kR (pt P) pre x.1) (v:=kR (pt P) pre x.2) aC (by lia) ?_;have d3:=qZ (CY (CY l x.1) x.2) (kR (pt P) pre x.1) (kR (pt P) pre x.2);refine K2.P.fP (k:=kR (pt P) pre x.2) (v:=kR (pt P) pre x.1) aC (by lia) ?_;refine jh _ _ ?_;rw [Fd,EK,cl,if_neg c,QB];exact⟨_,_,_,_,_,rfl,(((le.put hp).put hp).put hp).put hp,aC,f4 c⟩
  ·rintro τ G' ⟨l,a1,a2,a3,a4,rfl,le,gp,fa⟩;exact hN _ _ ⟨l,_,_,_,_,rfl,le,gp,fa⟩
 ·rintro _ G' ⟨l,a1,a2,a3,a4,rfl,le,gp,fa⟩;have iv:Iv (kR (pt P) ps):=OG ok;have ll:l.length<=(es P).length:=Kl fa fun e he=>(sV nd).mp fun z=>he (uN ok z);rw [HW] at ll;obtain⟨h1,h2⟩:=Jx fa iv;simp only [cR,d4,eP,ar,bP,ax,↓ae,↓aa,aT,↓ah,↓aA];refine gS le hp gp ?_;refine⟨l,rfl,⟨fa.nd,by lia⟩,by decide,gB (q _ h1 h2)⟩
end JB
namespace JB
open K2.P K2.J
open K2.Y (Po L ND NZ d0 pY g4 iB cN e9 gk fu iA Pl)
noncomputable def XQ(ns:List Int)(k:PK):Prop:=∃ P,k=la P/\(es P).Nodup/\∀ e,pt P e≠e↔∃ n∈ns,e∈j6 n
structure R6(S:Su)(ns:List Int):Prop where
 Hj:Mo S
 pl:∀ p∈S,XQ ns p.1
noncomputable def Dp(ns:List Int):List T3:=ns.flatMap j6
theorem Fq(ns:List Int):(Dp ns).length=4 * ns.length:=by
 induction ns with
 | nil=>rfl
 | cons n ns ih=>unfold Dp at *; rw [eY,az,ih,ah]; show 4+_=_; lia
theorem Ue{ns:List Int}{P:Pr T3}(nd:(es P).Nodup)(h:∀ e,pt P e≠e↔∃ n∈ns,e∈j6 n):P.length<=2 * ns.length:=by
 have:=sub_len' (es P) (Dp ns) nd fun e he=>by
  obtain⟨n,h1,h2⟩:=(h e).mp ((sV nd).mpr he);exact List.mem_flatMap.mpr ⟨n,h1,h2⟩
 rw [HW,Fq] at this; lia
theorem Wn{ns:List Int}{P:Pr T3}(nd:(es P).Nodup)(hn:ns.Nodup)(h:∀ e,pt P e≠e↔∃ n∈ns,e∈j6 n):Dm (pt P) ns:=⟨NJ nd,hn,fun n VN e he=>(h e).mpr ⟨n,VN,he⟩⟩
theorem UO{f:T3->T3}:∀ {ps:Pr T3},Ok f ps->∀ {e:T3},e∈es ps->kR f ps e=e:=by
 intro ps;induction ps generalizing f with
 | nil=>intro o e h; cases h
 | cons p ps ih =>
  intro o e h;rw [es,a9,a9] at h;rcases h with rfl | rfl | h
  ·exact uN o.tl WN
  ·exact uN o.tl WM
  ·exact ih o.tl h
theorem Q5{n:Int}{ns:List Int}{f:T3->T3}(d:Dm f (n :: ns))(h:∀ e,f e≠e↔∃ m∈n :: ns,e∈j6 m)(w:Bool):∀ e,kR f (js n w) e≠e↔∃ m∈ns,e∈j6 m:=by
 have ok:=d.ok w;have nn:=(List.nodup_cons.mp d.nd).1;intro e;constructor
 ·intro z;have h1:f e≠e:=fun y=>z (uN ok y);obtain⟨m,hm,he⟩:=(h e).mp h1;rcases List.mem_cons.mp hm with rfl | hm
  ·exact absurd (UO ok ((jg m w).mem_iff.mpr he)) z
  ·exact⟨m,hm,he⟩
 ·rintro⟨m,hm,he⟩ z;rcases JX ok z with z | z
  ·have h1:=ni ((jg n w).mem_iff.mp z);have h2:=ni he;exact nn (by rw [<-h1,h2]; exact hm)
  ·exact(h e).mpr ⟨m,au _ hm,he⟩ z
theorem Te{α:Type} [DecidableEq α](f:α->α)(x y:α):cl f x y<=1:=by unfold cl; split <;> decide
theorem PD(f:T3->T3)(n:Int)(w:Bool):cls f (js n w)<=2:=by
 cases w <;> (show _+(_+0)<=2; have:=Te f; have a:=fun f x y=>Te (α:=T3) f x y; have h1:=a f; have h2:=a; grind)
theorem Tj:ND LP:=by unfold ND LP; decide
theorem P9:d0 LP=2:=rfl
theorem iG{n:Nat}(h:n<=2 ^ 30):n < mP:=dI h (by unfold mP; exact Nat.pow_lt_pow_right (by decide) (by decide))
theorem D5{c:Nat}(h:c<=3):c<=1000/\∀ k,k < c->LP.length ^ k * LP.length<=SZ/\d0 LP ^ k < mP:=by
 refine⟨by lia,fun k hk=>?_⟩;have:k=0\/k=1\/k=2:=by lia
 rcases this with rfl | rfl | rfl
 ·exact⟨by decide,iG (by decide)⟩
 ·exact⟨by decide,iG (by decide)⟩
 ·exact⟨by decide,iG (by decide)⟩
theorem GU{c:Nat}(h:c<=3):d0 (cN LP c)<=8:=bc (Y.o4 LP c) (show 2 ^ c<=2 ^ 3 from cU (by decide) h)
theorem Q3{c:Nat}(h:c<=2):(cN LP c).length<=4:=bc (Y.sW LP c) (show 2 ^ c<=2 ^ 2 from cU (by decide) h)
theorem K3{l:Po}{G:Gp}{Q:Bool->Gp->Prop}(h:Q (!l.isEmpty) G):qx (.gN (aS l)) G Q:=by
 unfold qx FJ;dsimp only;have k:((aS l).all fun p=>dP p.1)=true:=by unfold aS; rw [mD,eM]; intro p _; rfl
 rw [if_pos k];have:(aS l).isEmpty=l.isEmpty:=by cases l <;> rfl
 rw [this]; exact h
theorem Of{G:Gp}{a:Nat}{A:Su}{k:PK}{Q:DK}(h:G a=some (.qT (hX A)))(q:Q (.gN (aS ((cw A k).getD []))) G):Ez (.ref a) [pM k,.gN []] G Q:=by
 refine⟨_,k,h,rfl,?_⟩;rw [AZ];cases e:cw A k with
 | none=>rw [e] at q; exact q
 | some l=>rw [e] at q; exact q
theorem AF{G:Gp}{a:Nat}{A:Su}{k:PK}{l:Po}{Q:Gp->Prop}(h:G a=some (.qT (hX A)))(hz:A.length < SZ)(q:Q (cT G a (.qT (hX (d6 A k l))))):GL (.ref a) (pM k) (.gN (aS l)) G Q:=by
 refine⟨_,k,h,rfl,by unfold hX; rw [aE]; exact hz,?_⟩;rw [NI]; exact q
theorem HJ{G G1:Gp}{p:Nat}{A:Su}{Q:DK}(l:fJ G G1)(hp:G p=none)(h1:G1 p=some (.qT (hX A)))(q:Q (.nY (hX A)) G):FV G1 (.ref p) Q :=
 ⟨fun a=>(G a).isNone,.nY (hX A),.qT h1 (by simp [hp]) (.same _) rfl,by rw [qV l]; exact q⟩
noncomputable def term(h n:Int)(rest:List (Int×Int))(g:Fn)(f:T3->T3)(l:Po)(w:Bool):Int:=L (fun j=>Br (kR f (js n w)) rest (gH (cls f (js n w)) (sh (pw h w) (sh j g)))) l
theorem K4(h n:Int)(rest:List (Int×Int))(g:Fn)(f:T3->T3)(l:Po):term h n rest g f l false+term h n rest g f l true=L (fun j=>Br f ((n,h) :: rest) (sh j g)) l:=by
 unfold term;rw [<-Y.KI]; rfl
noncomputable def xX(h n:Int)(rest:List (Int×Int))(g:Fn)(f:T3->T3)(l:Po):List Bool->Int
 | []=>0
 | w :: ws=>term h n rest g f l w+xX h n rest g f l ws
theorem GD(h n:Int)(rest:List (Int×Int))(g:Fn)(f:T3->T3)(l:Po)(ws:List Bool)(w:Bool):xX h n rest g f l (ws++[w])=xX h n rest g f l ws+term h n rest g f l w:=by
 induction ws with
 | nil=>simp [xX]
 | cons v ws ih=>rw [aG,xX,xX,ih]; lia
structure MM(n h:Int)(rest:List (Int×Int))(pre:Su)(f:T3->T3)(l:Po)(ws:List Bool)(A:Su):Prop where
 ok:R6 A (rest.map (·.1))
 len:A.length<=2 * pre.length+ws.length
 d0:iC A<=8 * iC pre+ws.length * (4 * d0 l)
 val:∀ g,mV rest g A=mV ((n,h) :: rest) g pre+xX h n rest g f l ws
theorem MM.step{n h:Int}{rest:List (Int×Int)}{pre:Su}{f:T3->T3}{l:Po}{ws:List Bool}{A:Su}(a:MM n h rest pre f l ws A){P':Pr T3}{w:Bool}(nd:(es P').Nodup)(e:pt P'=kR f (js n w))(hp:∀ e,kR f (js n w) e≠e↔∃ m∈rest.map (·.1),e∈j6 m) :
  MM n h rest pre f l (ws++[w]) (pK A (la P') l (cls f (js n w)) (pw h w)):=by
 refine⟨⟨Nd a.ok.Hj _ _ _ _,fun p vr=>?_⟩,?_,?_,fun g=>?_⟩
 ·unfold pK d6 at vr;have here:XQ (rest.map (·.1)) (la P'):=⟨P',rfl,nd,fun e'=>by rw [e]; exact hp e'⟩;split at vr
  ·obtain⟨q,hq,rfl⟩:=List.mem_map.mp vr;have:=a.ok.pl q hq;split <;> exact this
  ·rcases List.mem_append.mp vr with vr | vr
   ·exact a.ok.pl p vr
   ·rw [aU] at vr; subst vr; exact here
 ·have h1:=a.len;have h2:(pK A (la P') l (cls f (js n w)) (pw h w)).length<=A.length+1:=by unfold pK d6; split <;> simp
  rw [az,bR]; lia
 ·have h1:=a.d0;have h2:=Nb a.ok.Hj (la P') l (PD f n w) (pw h w);rw [az,bR,Nat.add_mul,Nat.one_mul]; lia
 ·rw [Na a.ok.Hj,a.val,GD,Ih,e];unfold term;lia
end JB
namespace JB
open K2.P K2.J
open K2.Y (Po L ND NZ d0 pY g4 iB cN e9 gk fu iA Pl)
theorem MM.zero{n h:Int}{rest:List (Int×Int)}{f:T3->T3}{l:Po}:MM n h rest [] f l [] [] :=
 ⟨⟨⟨cA,fun p hp=>by cases hp⟩,fun p hp=>by cases hp⟩,aB _,bZ _,fun g=>rfl⟩
theorem MM.next{n h:Int}{rest:List (Int×Int)}{pre:Su}{x:PK×Po}{l':Po}{f':T3->T3}{A:Su}(a:MM n h rest pre (pt (dec x.1)) x.2 [false,true] A):MM n h rest (pre++[x]) f' l' [] A:=by
 refine⟨a.ok,?_,?_,fun g=>?_⟩
 ·have:=a.len;rw [az,bR]; simp at this ⊢; lia
 ·have:=a.d0;rw [yr];simp only [ah,aA,iC] at this ⊢; lia
 ·rw [a.val,I0];show _+(term h n rest g _ x.2 false+(term h n rest g _ x.2 true+0))=_+(L _ x.2+0)+0;have:=K4 h n rest g (pt (dec x.1)) x.2;lia
theorem N6{S pre post:Su}{x:PK×Po}(e:S=pre++x :: post):iC pre+d0 x.2<=iC S:=by
 rw [e,yr,iC]; lia
theorem A3(S:Su)(p:PK×Po):ng (S++[p])=if p.2.isEmpty=true then ng S else ng S++[p]:=by
 unfold ng;rw [eC];by_cases h:p.2.isEmpty=true
 ·rw [if_pos h,Mu (by simp [h])]; simp
 ·rw [if_neg h,Mt (by simp [h])]; simp
theorem OB{S pre post:Su}{x:PK×Po}(nd:(S.map (·.1)).Nodup)(e:S=pre++x :: post):x.1∉(ng pre).map (·.1):=by
 intro z;obtain⟨q,hq,e2⟩:=List.mem_map.mp z;have SX:=(List.mem_filter.mp hq).1;rw [e,bq,aj,dS] at nd;exact nd.2.2 _ (bQ SX) _ cG e2
end JB
namespace JM
open K2.P K2.J K2.JB
open K2.Y (Po L ND NZ d0 pY g4 iB cN e9 gk fu iA Pl)
noncomputable def Dg(d:Nat)(T:Po):Prop:=∀ g:Fn,(∀ i:Int,i.natAbs<=d->g i=0)->L g T=0
theorem Ve(d:Nat):Dg d []:=fun _ _=>rfl
theorem RR{d e:Nat}{T:Po}(h:Dg d T)(l:d<=e):Dg e T:=fun g hg=>h g fun i hi=>hg i (by lia)
theorem Vf{d:Nat}{T:Po}(nd:ND T)(nz:NZ T)(h:Dg d T):∀ p∈T,p.1.natAbs<=d:=fun p hp=>by
 refine ji fun z=>?_;have:=h (fun i=>if i=p.1 then 1 else 0) fun i hi=>if_neg (fun e=>z (by rw [<-e]; exact hi));rw [Y.Dw nd] at this;unfold Y.c0 at this;rw [wV nd hp] at this;exact nz p hp this
theorem Ie{d:Nat}{T:Po}(nd:ND T)(nz:NZ T)(h:Dg d T):T.length<=2 * d+1:=by
 have m:=Vf nd nz h;have:=Y.fk (T.map (·.1)) ((dR (2 * d+1)).map fun (i:Nat)=>(i:Int) - d) nd fun x hx=>by
  obtain⟨p,hp,rfl⟩:=List.mem_map.mp hx;have:=m p hp;refine List.mem_map.mpr ⟨(p.1+d).toNat,List.mem_range.mpr (by lia),by lia⟩
 rw [aE,aE,rq] at this;exact this
theorem Rz{d:Nat}{g:Fn}(h:∀ i:Int,i.natAbs<=d+2->g i=0):∀ i:Int,i.natAbs<=d->lp g i=0:=fun i hi=>by
 unfold lp;rw [h (i+2) (by lia),h (i - 2) (by lia)]; rfl
theorem Xu{d c:Nat}{l:Po}{b:Int}(h:Dg d l)(hc:c<=2)(hb:b=1\/b=-1):Dg (d+5) (MC l c b):=fun g hg=>by
 unfold MC;rw [Y.FA,Y.zq,xO];refine h _ fun i hi=>?_;rw [my];have h0:∀ j:Int,j.natAbs<=4->(fun j=>g (i+j+b)) j=0:=fun j hj=>hg _ (by lia);obtain rfl | rfl | rfl:c=0\/c=1\/c=2:=by lia
 ·exact h0 0 (by decide)
 ·exact Rz (d:=2) (fun j hj=>h0 j (by lia)) 0 (by decide)
 ·have h1:=Rz (d:=2) h0;exact Rz (d:=0) h1 0 (by decide)
noncomputable def ML(d:Nat)(S:Su):Prop:=∀ p∈S,Dg d p.2
theorem Ig{d:Nat}{S:Su}(h:ML d S)(k:PK):Dg d ((cw S k).getD []):=by
 cases e:cw S k with
 | none=>exact Ve d
 | some l=>exact h (k,l) (Er e)
theorem RQ{d c:Nat}{A:Su}{l:Po}{b:Int}(h:ML (d+5) A)(k:PK)(nd:Mo A)(hl:Dg d l)(hc:c<=2)(hb:b=1\/b=-1):ML (d+5) (pK A k l c b):=by
 have new:Dg (d+5) (pY ((cw A k).getD []) (MC l c b)):=fun g hg=>by
  rw [Y.P6 _ (nd.get k).1,Ig h k g hg,Xu hl hc hb g hg]; rfl
 intro p hp;unfold pK d6 at hp;split at hp
 ·obtain⟨q,hq,rfl⟩:=List.mem_map.mp hp;split
  ·exact new
  ·exact h q hq
 ·rcases List.mem_append.mp hp with hp | hp
  ·exact h p hp
  ·rw [aU] at hp; subst hp; exact new
theorem Kw{n:Nat}(h:n<=2 ^ 70):n < mP:=dI h (by unfold mP; exact Nat.pow_lt_pow_right (by decide) (by decide))
noncomputable def ui:iP :=
 (b7 (bJ Pz (aI 3))
 (b7 (Ij 3 (eB (uP (ax 0)) (gz (cq (aI 4) (cq (aI 5) gf))) (eB (si (eP (ar (dC (.int 0)) (ar (dC (.int 1)) aT)))) (aI 6) (b7 (bJ (bP iu (ar (ax 4) (ar (bP nW (ar (ax 1) (ar (ax 6) aT))) aT))) (aI 7))
 (b7 (bJ (bP e9 (ar (d4 (bP gk (ar (d4 (ax 5)) (ar (d4 (bP fu (ar (d4 (E9 [(2,-1),(-2,-1)])) (ar (d4 (bH nF (ax 7) (dC (.int 1)))) aT)))) aT)))) (ar (d4 (bP ko (ar (ax 2) (ar (ax 6) aT)))) (ar (d4 (dC (.int 1))) aT)))) (aI 8))
 (bJ (d4 (bP iA (ar (d4 (qh tyP Ez (ax 3) (ar (d4 (bH nF (ax 7) (dC (.int 0)))) (ar (d4 jq) aT)))) (ar (d4 (ax 8)) aT)))) (ES (ax 3) (bH nF (ax 7) (dC (.int 0))))))))))
 (b7 (bJ Pz (aI 9))
 (b7 (Ij 3 (eB (uP (ax 3)) (gz (cq (aI 4) (cq (aI 5) gf))) (gU (jo (ax 5)) (bJ (d4 (ax 5)) (ES (ax 9) (ax 4))) eA)))
 (cR (d4 (ax 9)))))))
noncomputable def lg:nj:=fun ds G Q _=>∃ (S:Su) (n h:Int) (rest:List (Int×Int)) (d:Nat),ds=[.nY (hX S),.int n,.int h]/\(R6 S (n :: rest.map (·.1))/\(n :: rest.map (·.1)).Nodup/\rest.length<=11/\S.length<=4096/\iC S<=2 ^ 60/\ML d S/\d<=100/\(h=1\/h=-1)) /\
 ∀ S':Su,R6 S' (rest.map (·.1))->S'.length<=2 * S.length->iC S'<=8 * iC S->ML (d+5) S'->(∀ g,mV rest g S'=mV ((n,h) :: rest) g S)->Q (.nY (hX S')) G
theorem Dv(ds:List D)(G:Gp)(Q:DK)(h:lg ds G Q fun _ _=>False):ui (fun _ _=>False) (ends Q) (bA 10 ds) G:=by
 obtain⟨S,n,h,rest,d,rfl,⟨so,nn,hr,hSl,hSn,dgS,hd,hh⟩,q⟩:=h;unfold ui;simp only [↓cg,bJ,Pz,gI,aI,ends,bA,↓aj,↓aW,↓ah,↓aA,bo,↓aG,↓aL,↓ao,↓ak];intro p hp;refine eF (fun τ G'=>∃ (A:Su) (a1 a2 a3 a4 a5 a6:Option D),G=G'/\τ=[some (.nY (hX S)),some (.int n),some (.int h),some (.nY (hX A)),a1,a2,a3,a4,a5,a6]/\MM n h rest S (fun e=>e) [] [] A/\ML (d+5) A) ?_ ?_
 ·intro N hN;simp only [Ij];simp only [eB,uP,ax,↓aa];show oz _ _ _ ((hX S).map _) _ _ _ _;have em:((hX S).map fun p=>D.tup [pM p.1,p.2])=S.map fun p=>D.tup [pM p.1,.gN (aS p.2)]:=by unfold hX; rw [bC]; rfl
  rw [em];refine dQ (xs:=S) (f:=fun p=>D.tup [pM p.1,.gN (aS p.2)]) (fun pre τ G'=>∃ (A:Su) (a1 a2 a3 a4 a5 a6:Option D),fJ G G'/\G' p=some (.qT (hX A))/\τ=[some (.nY (hX S)),some (.int n),some (.int h),some (.ref p),a1,a2,a3,a4,a5,a6]/\MM n h rest pre (fun e=>e) [] [] A/\ML (d+5) A)
   ⟨[],_,_,_,_,_,_,.new hp,aC,rfl,.zero,(fun p hp=>nomatch hp)⟩ (fun _ _ _ _=>trivial) ?_ ?_
  ·rintro pre x post τ G' N2 e ⟨A,a1,a2,a3,a4,a5,a6,le,gp,rfl,af,Xv⟩ jh;obtain⟨P,ek,nd,pl⟩:=so.pl x (by rw [e]; simp);have dm:=Wn nd nn pl;have pll:=Ue nd pl;have hx:=so.Hj.2 x (by rw [e]; simp);have hnx:=N6 e;have dgx:=dgS x (by rw [e]; simp);have hlx:=Ie hx.1 hx.2 dgx;have A8:pre.length < S.length:=by rw [e]; simp
   have ed:dec x.1=P:=by rw [ek,Ih]
   simp only [gz,cq,gf,aI,ak,ao];simp only [eB,↓gR,eP,ar,dC,aT,↓ah,↓aA,↓xn];refine⟨by decide,?_⟩;refine dQ (xs:=[false,true]) (f:=fun w=>D.int (wI w)) (fun ws τ G'=>∃ (A:Su) (a3 a4 a5 a6:Option D),fJ G G'/\G' p=some (.qT (hX A))/\τ=[some (.nY (hX S)),some (.int n),some (.int h),some (.ref p),some (pM x.1),some (.gN (aS x.2)),a3,a4,a5,a6]/\MM n h rest pre (pt P) x.2 ws A/\ML (d+5) A)
    ⟨A,_,_,_,_,le,gp,rfl,⟨af.ok,af.len,by have:=af.d0; simp only [aA,Nat.zero_mul] at this ⊢; exact this,af.val⟩,Xv⟩ (fun _ _ _ _=>trivial) ?_ ?_
   ·rintro ws w wt τ G2 N3 ew ⟨B,b3,b4,b5,b6,UH,MG,rfl,bf,Yt⟩ U4;have XZ:ws.length<=1:=by
     have:=congrArg cV ew;simp at this; lia
    have hc:=PD (pt P) n w;have bl:=bf.len;have bn:=bf.d0;simp only [aI,↓cg,bJ,bP,ar,ax,↓ao,ek,↓ak,↓ae,↓aa,aT,d4,bH,dC,qh,jq];refine⟨n,w,rfl,?_⟩;refine⟨P,js n w,rfl,⟨nd,by simp only [ah,aE] at pll; lia,dm.ok w⟩,fun P' nd' ep=>?_⟩;have p0:MM n h rest pre (pt P) x.2 (ws++[w]) (pK B (la P') x.2 (cls (pt P) (js n w)) (pw h w)):=bf.step nd' ep (Q5 dm pl w);simp only [↓jK,at1,Yu];generalize ec:cls (pt P) (js n w)=c at hc p0;have hx1:=hx.1;have l1:(cN LP c).length<=4:=Q3 hc;have l2:x.2.length * (cN LP c).length<=201 * 4:=Nat.mul_le_mul (by lia) l1;have l3:=Y.yf x.2 (cN LP c);have l4:d0 x.2 * d0 (cN LP c)<=2 ^ 60 * 8:=Nat.mul_le_mul (by lia) (GU (by lia));have l5:=Y.tf x.2 (cN LP c);have l6:(MC x.2 c (pw h w)).length<=(g4 x.2 (cN LP c)).length:=bc (Y.oh _) (by rw [aE]; exact aB _);have dgG:=Ig Yt (la P');have l7:=Ie (bf.ok.Hj.get (la P')).1 (bf.ok.Hj.get (la P')).2 dgG;have dgN:=RQ (b:=pw h w) Yt (la P') bf.ok.Hj dgx hc (by unfold pw; cases w <;> simp <;> lia);refine gB ?_;unfold E9;intro p5 f5;refine gS (.new f5) f5 aC (gB ?_);refine⟨_,LP,c,rfl,⟨rfl,Tj⟩,D5 (by lia),by rw [P9]; exact iG (by decide),fun p6 f6=>?_⟩;refine gS (.new f6) f6 aC ?_;refine⟨_,_,x.2,cN LP c,rfl,⟨rfl,hx1⟩,⟨rfl,Y.vN _ _⟩,bc l2 (by decide),⟨Kw (by lia),iG (bc (GU (by lia)) (by decide))⟩,fun p7 f7=>?_⟩;refine gS (.new f7) f7 aC ?_;refine⟨h,w,rfl,gB (gB ?_)⟩;refine⟨_,g4 x.2 (cN LP c),pw h w,1,rfl,⟨rfl,Y.vL _ _⟩,bc (bc l3 l2) (by decide),⟨Kw (bc (bc l5 l4) (by decide)),iG (by decide)⟩,fun p8 f8=>?_⟩;have h8:p≠p8:=by rintro rfl; rw [MG] at f8; cases f8
    refine⟨by unfold tyP; simp only [ck h8,MG],gB ?_⟩;intro p9 f9;refine gS (.new f9) f9 aC ?_;refine Of (by rw [ck h8]; exact MG) (gB ?_);refine gS (.new f8) f8 aC ?_;refine⟨_,_,(cw B (la P')).getD [],MC x.2 c (pw h w),rfl,⟨rfl,(bf.ok.Hj.get _).1⟩,⟨rfl,Y.Li (Y.vL _ _) _ _⟩,?_,fun p10 f10=>?_⟩
    ·show _<=16777216;lia
    refine gS (.new f10) f10 aC ?_;unfold ES;simp only [ax,↓ae,↓aa,bH,dC,↓jK,Yu];refine AF MG (show _ < 16777216 by lia) ?_;rw [<-ek];exact U4 _ _ ⟨_,_,_,_,_,UH.put hp,aC,rfl,p0,by rw [ec] at *; exact dgN⟩
   ·rintro τ G2 ⟨B,b3,b4,b5,b6,UH,MG,rfl,bf,Yt⟩;refine jh _ _ ⟨B,_,_,_,_,_,_,UH,MG,rfl,?_,Yt⟩;rw [<-ed] at bf;exact bf.next
  ·rintro τ G' ⟨A,a1,a2,a3,a4,a5,a6,le,gp,rfl,af,Xv⟩;simp only [↓ae,↓aa,↓ao,↓ak];refine HJ le hp gp ?_;exact hN _ _ ⟨A,_,_,_,_,_,_,rfl,rfl,af,Xv⟩
 ·rintro _ G' ⟨A,a1,a2,a3,a4,a5,a6,rfl,rfl,af,Xv⟩;simp only [↓cg,bJ,Pz,gI,aI,↓ao,↓ak];intro p2 nK;have al:=af.len;have an:=af.d0;simp only [aA,Nat.zero_mul,QB] at al an;refine eF (fun τ G'=>∃ (a1 a2 a3 a4 a5:Option D),τ=[some (.nY (hX S)),some (.int n),some (.int h),some (.nY (hX A)),a1,a2,a3,a4,a5,some (.ref p2)]/\fJ G G'/\G' p2=some (.qT (hX (ng A)))) ?_ ?_
  ·intro N hN;simp only [Ij];simp only [eB,uP,ax,↓ae,↓aa];show oz _ _ _ ((hX A).map _) _ _ _ _;have em:((hX A).map fun p=>D.tup [pM p.1,p.2])=A.map fun p=>D.tup [pM p.1,.gN (aS p.2)]:=by unfold hX; rw [bC]; rfl
   rw [em];refine dQ (xs:=A) (f:=fun p=>D.tup [pM p.1,.gN (aS p.2)]) (fun pre τ G'=>∃ (a1 a2 a3 a4 a5:Option D),τ=[some (.nY (hX S)),some (.int n),some (.int h),some (.nY (hX A)),a1,a2,a3,a4,a5,some (.ref p2)]/\fJ G G'/\G' p2=some (.qT (hX (ng pre))))
    ⟨_,_,_,_,_,rfl,.new nK,aC⟩ (fun _ _ _ _=>trivial) ?_ ?_
   ·rintro pre x post τ G' N2 e ⟨b1,b2,b3,b4,b5,rfl,le,gp⟩ jh;simp only [gz,cq,gf,aI,ak,ao];simp only [gU,↓dE,ax,↓ae,↓aa,bJ,d4,eA];refine K3 ?_;have A8:pre.length < A.length:=by rw [e]; simp
    have ZZ:(ng pre).length<=pre.length:=dU _ _;by_cases c:x.2.isEmpty=true
    ·simp only [c,cj,aF,if_false,eA];refine jh _ _ ⟨_,_,_,_,_,rfl,le,?_⟩;rw [A3,if_pos c]; exact gp
    ·have c':x.2.isEmpty=false:=by simpa using c
     simp only [c',fK,if_true];refine gB ?_;unfold ES;simp only [ax,↓ae,↓aa];refine AF gp (show _ < 16777216 by lia) ?_;refine jh _ _ ⟨_,_,_,_,_,rfl,le.put nK,?_⟩;rw [aC,A3,if_neg c,Y.kE (OB af.ok.Hj.1 e)]
   ·rintro τ G' ⟨b1,b2,b3,b4,b5,rfl,le,gp⟩;simp only [↓ae,↓aa,↓ao,↓ak];exact gB (hN _ _ ⟨_,_,_,_,_,rfl,le,gp⟩)
  ·rintro _ G' ⟨b1,b2,b3,b4,b5,rfl,le,gp⟩;simp only [cR,d4,ax,↓ae,↓aa];refine HJ le nK gp ?_;refine q (ng A) ⟨OC af.ok.Hj,fun p vr=>af.ok.pl p (List.mem_filter.mp vr).1⟩ ?_ ?_ (fun p vr=>Xv p (List.mem_filter.mp vr).1) fun g=>?_
   ·exact bc (dU _ _) (by lia)
   ·exact bc (OA A) an
   ·rw [Oz,af.val];show _+0=_;lia
end JM
namespace JB
open K2.P K2.J
open K2.Y (Po L ND NZ d0 pY g4 iB cN e9 gk fu iA Pl)
variable {rows:Rows}
noncomputable def eO(s:T2):T3:=⟨s.a,s.b,1⟩
noncomputable def eI(s:T2):T3:=⟨s.a,s.b,0⟩
noncomputable def TG(ps:List (T3×T3)):Pr T3:=ps.map fun p=>(eO p.1.s,eI p.2.s)
noncomputable def TF(rows:Rows):Pr T3:=TG (pairsOf rows)
noncomputable def fr(rows:Rows):T3->T3:=pt (TF rows)
noncomputable def lo(rows:Rows):Nat:=(rows.filter fun r=>r.isEmpty).length
noncomputable def nh(rows:Rows):List (Int×Int):=(names rows).map fun n=>(n,handOf rows n)
theorem E2:∀ (P:Pr T3),(es P).Perm (P.map (·.1)++P.map (·.2))
 | []=>.refl _
 | p :: P=>by
  rw [es,aj,aj,aG];refine BL _ ?_;exact((E2 P).cons p.2).trans List.perm_middle.symm
theorem V3{ps:List (T3×T3)}(h1:(ps.map fun p=>p.1.s).Nodup)(h2:(ps.map fun p=>p.2.s).Nodup):(es (TG ps)).Nodup:=by
 refine(E2 _).nodup_iff.mpr (List.nodup_append.mpr ⟨?_,?_,?_⟩)
 ·have:(TG ps).map (·.1)=(ps.map fun p=>p.1.s).map eO:=by unfold TG; rw [bC,bC]; rfl
  rw [this];refine rJ h1 fun i _ j _ e=>?_;injection e with e1 e2
  cases i; cases j; simp only at e1 e2; rw [e1,e2]
 ·have:(TG ps).map (·.2)=(ps.map fun p=>p.2.s).map eI:=by unfold TG; rw [bC,bC]; rfl
  rw [this];refine rJ h2 fun i _ j _ e=>?_;injection e with e1 e2
  cases i; cases j; simp only at e1 e2; rw [e1,e2]
 ·intro a ha b hb e;obtain⟨p,hp,rfl⟩:=List.mem_map.mp ha;obtain⟨q,hq,rfl⟩:=List.mem_map.mp hb;obtain⟨p',_,rfl⟩:=List.mem_map.mp hp;obtain⟨q',_,rfl⟩:=List.mem_map.mp hq;injection e with _ _ e3
  cases e3
theorem xW(d:Dr rows):(es (TF rows)).Nodup:=V3 (O8 d) (TN d)
theorem TB(d:Dr rows):Qm (md (pairsOf rows))=TF rows:=by
 rw [Ob d];unfold Qm TF TG;rw [bC]; rfl
theorem TC(d:Dr rows)(e:T3):e∈es (TF rows)↔∃ p∈rows.flatten,e=eO p.s\/e=eI p.s:=by
 rw [nH];constructor
 ·rintro⟨q,hq,z⟩;obtain⟨pq,RG,rfl⟩:=List.mem_map.mp hq;have h1:pq.1∈rows.flatten:=by rw [<-oq rows]; exact bQ RG
  have h2:pq.2∈rows.flatten:=(oj rows).mem_iff.mp (bQ RG);rcases z with z | z
  ·exact⟨_,h1,.inl z⟩
  ·exact⟨_,h2,.inr z⟩
 ·rintro⟨p,hp,z | z⟩
  ·obtain⟨q,hq,_⟩:=O2 hp;exact⟨_,List.mem_map.mpr ⟨_,hq,rfl⟩,.inl z⟩
  ·obtain⟨q,hq,_⟩:=O1 hp;exact⟨_,List.mem_map.mpr ⟨_,hq,rfl⟩,.inr z⟩
theorem Jc(d:Dr rows)(e:T3):e∈es (TF rows)↔∃ n∈names rows,e∈j6 n:=by
 rw [TC d];constructor
 ·rintro⟨p,hp,z⟩;have hn:p.a∈names rows:=by
   rw [ot];rcases d.way p hp with w | w
   ·exact⟨p,hp,w,rfl⟩
   ·exact⟨_,d.Oe p hp,by simp [w],rfl⟩
  refine⟨p.a,hn,?_⟩;rcases d.way p hp with w | w <;> rcases z with rfl | rfl <;> simp [j6,eO,eI,T3.s,w]
 ·rintro⟨n,hn,he⟩;obtain⟨p,hp,w,rfl⟩:=ot.mp hn;have hm:=d.Oe p hp;unfold j6 at he;simp only [a9,bI,or_false] at he;have e0:p.s=⟨p.a,0⟩:=by show (⟨p.a,p.b⟩:T2)=_; rw [w]
  have e1:T3.s ⟨p.a,1 - p.b,p.c⟩=⟨p.a,1⟩:=by show (⟨p.a,1 - p.b⟩:T2)=_; rw [w]; rfl
  rcases he with rfl | rfl | rfl | rfl
  ·exact⟨p,hp,.inr (by rw [e0]; rfl)⟩
  ·exact⟨_,hm,.inl (by rw [e1]; rfl)⟩
  ·exact⟨_,hm,.inr (by rw [e1]; rfl)⟩
  ·exact⟨p,hp,.inl (by rw [e0]; rfl)⟩
theorem uB(d:Dr rows):(names rows).Nodup:=by
 unfold names;refine K6 ?_;have h:=d.nd;have:∀ {L:List T3},(L.map T3.s).Nodup->((L.filter fun p=>p.b == 0).map (·.a)).Nodup:=by
  intro L;induction L with
  | nil=>intro _; exact cA
  | cons p L ih =>
   intro h;rw [aj,aQ] at h;rw [bV];split
   ·rename_i hp;rw [aj,aQ];refine⟨fun z=>h.1 ?_,ih h.2⟩;obtain⟨q,hq,e⟩:=List.mem_map.mp z;have SX:=List.mem_filter.mp hq;refine List.mem_map.mpr ⟨q,SX.1,?_⟩;have b1:p.b=0:=by simpa using hp
    have b2:q.b=0:=by simpa using SX.2
    show (⟨q.a,q.b⟩:T2)=⟨p.a,p.b⟩;rw [e,b1,b2]
   ·exact ih h.2
 exact this h
theorem Xn(d:Dr rows):Dm (fr rows) (names rows) :=
 ⟨NJ (xW d),uB d,fun n hn e he=>(sV (xW d)).mpr ((Jc d e).mpr ⟨n,hn,he⟩)⟩
theorem Hk(d:Dr rows):2 * (names rows).length<=rows.flatten.length:=by
 have h:=sub_len' ((names rows).flatMap fun n=>[(⟨n,0⟩:T2),⟨n,1⟩]) (rows.flatten.map T3.s) ?_ ?_
 ·have:((names rows).flatMap fun n=>[(⟨n,0⟩:T2),⟨n,1⟩]).length=2 * (names rows).length:=by
   generalize names rows=l;induction l with
   | nil=>rfl
   | cons n l ih=>rw [eY,az,ih]; simp only [ah,aA]; lia
  rw [this,aE] at h; exact h
 ·have:∀ {l:List Int},l.Nodup->(l.flatMap fun n=>[(⟨n,0⟩:T2),⟨n,1⟩]).Nodup:=by
   intro l;induction l with
   | nil=>intro _; exact cA
   | cons n l ih =>
    intro h;rw [aQ] at h;rw [eY,dS];refine⟨by simp,ih h.2,fun a ha b hb e=>?_⟩;obtain⟨m,hm,hb⟩:=List.mem_flatMap.mp hb;have ea:a.a=n:=by simp only [a9,bI,or_false] at ha; rcases ha with rfl | rfl <;> rfl
    have eb:b.a=m:=by simp only [a9,bI,or_false] at hb; rcases hb with rfl | rfl <;> rfl
    rw [e,eb] at ea;exact h.1 (ea ▸ hm)
  exact this (uB d)
 ·intro s hs;obtain⟨n,hn,hs⟩:=List.mem_flatMap.mp hs;obtain⟨p,hp,w,rfl⟩:=ot.mp hn;simp only [a9,bI,or_false] at hs;rcases hs with rfl | rfl
  ·exact List.mem_map.mpr ⟨p,hp,by show (⟨p.a,p.b⟩:T2)=_; rw [w]⟩
  ·exact List.mem_map.mpr ⟨_,d.Oe p hp,by show (⟨p.a,1 - p.b⟩:T2)=_; rw [w]; rfl⟩
theorem Xf(d:Dr rows){n:Int}(h:n∈names rows):∃ p∈rows.flatten,p.a=n:=by
 obtain⟨p,hp,_,e⟩:=ot.mp h;exact⟨p,hp,e⟩
noncomputable def zV(rows:Rows)(ns:List Int):List (Int×Int):=ns.map fun n=>(n,handOf rows n)
theorem Cp(rows:Rows)(ns:List Int):(zV rows ns).map (·.1)=ns:=by
 unfold zV;rw [bC];exact ib ns
theorem zip_map(f:Int->Int):∀ l:List Int,l.zip (l.map f)=l.map fun n=>(n,f n)
 | []=>rfl
 | n :: l=>by rw [aj,kI,zip_map f l,aj]
noncomputable def brk(rows:Rows)(g:Fn):Int:=Br (fr rows) (nh rows) (gH (lo rows) g)
theorem TM{S:Su}(so:R6 S []):∀ p∈S,p.1=[]:=fun p hp=>by
 obtain⟨P,e,nd,h⟩:=so.pl p hp;have:P=[]:=Ua nd fun e=>ji fun z=>by
  obtain⟨n,hn,_⟩:=(h e).mp z;cases hn
 rw [e,this]; rfl
theorem QK{S:Su}(so:R6 S [])(g:Fn):mV [] g S=L g ((cw S []).getD []):=by
 have h:=TM so;have nd:=so.Hj.1;cases S with
 | nil=>rfl
 | cons p S =>
  have e1:=h p (by simp);have e2:S=[]:=by
   cases S with
   | nil=>rfl
   | cons q S =>
    have e3:=h q (by simp);rw [aj,aj,aQ] at nd;exact absurd (by rw [e1,e3]; exact cG) nd.1
  subst e2;have e4:cw [p] ([]:PK)=some p.2:=by unfold cw; rw [b9 (by simpa using e1)]; rfl
  rw [e4];show L _ p.2+0=L g p.2;rw [DA];congr 1;funext j;show sh j g 0=g j;unfold sh;rw [vF]
end JB
namespace JM
open K2.P K2.J
open K2.JB
open K2.Y (Po L ND NZ d0 pY g4 iB cN e9 gk fu iA Pl)
theorem RK{rows:Rows}(d:Dr rows){n:Int}(h:n∈names rows):handOf rows n=1\/handOf rows n=-1:=by
 obtain⟨p,hp,_,e⟩:=ot.mp h;subst e;rw [Kc d hp];exact d.hand p hp
noncomputable def AK:iP :=
 (b7 (bJ (jz 1 [0] (si (ax 1)) (aI 0) none (bP j7 (ar (ax 1) (ar (ax 0) aT)))) (aI 2))
 (b7 (bJ (u5 Df (ar (jz 1 [] (si (ax 0)) (aI 0) (some (qW (jo (ax 0)))) (ax 0)) aT)) (aI 3))
 (b7 (bJ (d4 (Py (bP i9 (ar (ax 0) aT)) (d4 (bP fu (ar (d4 (E9 [(2,-1),(-2,-1)])) (ar (d4 (ax 3)) aT)))))) (aI 4))
 (b7 (eB (OQ (ax 1) (ax 2)) (gz (cq (aI 5) (cq (aI 6) gf))) (bJ (d4 (bP lg (ar (ax 4) (ar (ax 5) (ar (ax 6) aT))))) (aI 4)))
 (cR (d4 (ax 4)))))))
noncomputable def rz:nj:=fun ds G Q _=>∃ (rows:Rows) (ns:List Int),ds=[enc rows,enc ns]/\(Dr rows/\ns.Perm (names rows)/\ns.length<=12) /\
 ∀ S':Su,R6 S' []->iC S'<=2 ^ 60->ML 66 S'->(∀ g,mV [] g S'=Br (fr rows) (zV rows ns) (gH (lo rows) g))->Q (.nY (hX S')) G
theorem Mn(ds:List D)(G:Gp)(Q:DK)(h:rz ds G Q fun _ _=>False):AK (fun _ _=>False) (ends Q) (bA 7 ds) G:=by
 obtain⟨rows,ns,rfl,⟨d,hp,hl⟩,q⟩:=h;have MI:=d.MI;have str:=d.str;have nn:ns.Nodup:=hp.nodup_iff.mpr (uB d);have lol:lo rows<=3:=bc (dU _ _) str;unfold AK;simp only [↓cg,bJ,jz,↓gR,ax,bA,↓aj,↓aW,↓ah,↓aA,bo,↓aG,↓aL,↓ae,↓aa,aI,u5,ar,↓ao,↓ak,aT,d4,ends];refine pf ⟨M8 (by rw [aE]; lia),?_⟩;refine oC (xs:=ns) (fun pre acc τ G'=>G=G'/\(∃ a,τ=[a,some (enc rows)])/\acc=(pre.map (handOf rows)).map D.int) ⟨rfl,⟨_,rfl⟩,rfl⟩ (fun _ _ _ _ _=>trivial) ?_ ?_
 ·rintro pre n post acc τ G' N e ⟨rfl,⟨a,rfl⟩,rfl⟩ hN;have hn:n∈names rows:=hp.mem_iff.mp (by rw [e]; simp);simp only [aI,bP,ar,ax,↓ak,CV,↓ae,↓aa,aT];refine⟨rows,n,rfl,⟨by lia,Xf d hn⟩,?_⟩;refine hN _ _ _ ⟨rfl,⟨_,rfl⟩,?_⟩;rw [bq,bq]; rfl
 rintro acc τ G' ⟨rfl,⟨a,rfl⟩,rfl⟩ p1 f1;refine pf ⟨M8 (by rw [aE]; lia),?_⟩;refine oC (xs:=rows) (fun pre acc τ G'=>cT G p1 (.lst ((ns.map (handOf rows)).map D.int))=G'/\(∃ a,τ=[a])/\acc=(pre.filter fun r=>r.isEmpty).map enc) ⟨rfl,⟨_,rfl⟩,rfl⟩ (fun _ _ _ _ _=>trivial) ?_ ?_
 ·rintro pre r post acc τ G' N e ⟨rfl,⟨a,rfl⟩,rfl⟩ hN;simp only [aI,qW,↓dE,ax,↓ak,↓aa];show qx (.dJ (r.map enc)) _ _;unfold qx FJ;simp only [];by_cases c:r.isEmpty=true
  ·have c2:(r.map (enc:T3->D)).isEmpty=true:=by cases r with
    | nil=>rfl
    | cons _ _=>cases c
   simp only [c2,cj,fK,if_true];refine hN _ _ _ ⟨rfl,⟨_,rfl⟩,?_⟩;simp only [eC,bV,c,if_true,vp,bq,aj,aW]
  ·have c2:(r.map (enc:T3->D)).isEmpty=false:=by cases r with
    | nil=>exact absurd rfl c
    | cons _ _=>rfl
   simp only [c2,cj,fK,if_false,aF];refine hN _ _ _ ⟨rfl,⟨_,rfl⟩,?_⟩;have c':r.isEmpty=false:=by simpa using c
   simp only [eC,bV,c',if_false,aF,vp,cH]
 rintro acc τ G' ⟨rfl,⟨a,rfl⟩,rfl⟩ p2 f2;have p12:p1≠p2:=by rintro rfl; rw [aC] at f2; cases f2
 simp only [PS aC,aE];simp only [Py,bP,ar,ax,↓aa,aT,d4,↓ae];have elo:(rows.filter fun r=>r.isEmpty).length=lo rows:=rfl;rw [elo];refine⟨rows,rfl,by lia,?_⟩;rw [TB d];have nd:=xW d;obtain⟨n0,e0⟩:=Jx (Kj nd) (NJ nd);generalize hP0:Ln (HU (TF rows))=P0 at n0 e0;unfold E9;intro p5 f5;refine gS (.new f5) f5 aC (gB ?_);refine⟨_,LP,lo rows,rfl,⟨rfl,Tj⟩,D5 lol,by rw [P9]; exact iG (by decide),fun p6 f6=>?_⟩;refine gS (.new f6) f6 aC ?_;refine⟨la P0,rfl,fun p7 f7=>?_⟩;have g1:fJ G (cT (cT G p1 (.lst ((ns.map (handOf rows)).map D.int))) p2 (.lst (((rows.filter fun r=>r.isEmpty)).map enc))):=(fJ.new f1).trans (.new f2);refine HJ (A:=[(la P0,cN LP (lo rows))]) (.new f7) f7 aC ?_;generalize hG2:cT (cT G p1 (.lst ((ns.map (handOf rows)).map D.int))) p2 (.lst (((rows.filter fun r=>r.isEmpty)).map enc))=G2 at g1;have gh:G2 p1=some (.lst ((ns.map (handOf rows)).map D.int)):=by rw [<-hG2,ck p12,aC]
 refine eF (fun τ G'=>∃ (S:Su) (a b:Option D),G'=G2/\τ=[some (enc rows),some (enc ns),some (.ref p1),some (.int (lo rows)),some (.nY (hX S)),a,b]/\R6 S []/\iC S<=2 ^ 60/\ML 66 S/\∀ g,mV [] g S=Br (fr rows) (zV rows ns) (gH (lo rows) g)) ?_ ?_
 ·intro N hN;simp only [eB,OQ,ax,↓ae,↓aa];have hz:oO (ns.map enc) ((ns.map (handOf rows)).map D.int)=(zV rows ns).map enc:=by
   have:oO (ns.map enc) ((ns.map (handOf rows)).map enc)=(ns.zip (ns.map (handOf rows))).map enc:=xR _ _;refine this.trans ?_;rw [zip_map]; rfl
  refine LO (IsL.enc ns) (IsL.ref gh) fun ok cp=>?_;rw [hz];have hnl:(zV rows ns).length=ns.length:=by unfold zV; rw [aE]
  have start:∀ g,mV (zV rows ns) g [(la P0,cN LP (lo rows))]=Br (fr rows) (zV rows ns) (gH (lo rows) g):=fun g=>by
   show L _ _+0=_;rw [my,DA,Ih,e0];have:=congrFun (Ht (fr rows) (zV rows ns) g (lo rows) 0) 0;simp only [DA] at this;rw [xh] at this;exact this
  have so0:R6 [(la P0,cN LP (lo rows))] ((zV rows ns).map (·.1)):=by
   refine⟨⟨by simp,fun p vr=>?_⟩,fun p vr=>?_⟩
   ·rw [aU] at vr; subst vr; exact⟨Y.vN _ _,Y.Ll _ _⟩
   ·rw [aU] at vr; subst vr;refine⟨P0,rfl,n0,fun e=>?_⟩;rw [e0,sV nd,Jc d,Cp];exact⟨fun ⟨n,h1,h2⟩=>⟨n,hp.mem_iff.mpr h1,h2⟩,fun ⟨n,h1,h2⟩=>⟨n,hp.mem_iff.mp h1,h2⟩⟩
  have dg0:ML (6+5 * 0) [(la P0,cN LP (lo rows))]:=fun p vr=>by
   rw [aU] at vr; subst vr;intro g hg;rw [my];have:∀ (c:Nat) (g:Fn),(∀ i:Int,i.natAbs<=2 * c->g i=0)->gH c g 0=0:=by
    intro c;induction c with
    | zero=>intro g h; exact h 0 (by decide)
    | succ c ih =>
     intro g h;rw [show gH (c+1) g=gH c (lp g) from(uF c g).symm ▸ rfl];exact ih _ (Rz (d:=2 * c) fun i hi=>h i (by lia))
   exact this _ _ fun i hi=>hg i (by lia)
  refine dQ (xs:=zV rows ns) (fun pre τ G'=>∃ (S:Su) (a b:Option D),G'=G2/\τ=[some (enc rows),some (enc ns),some (.ref p1),some (.int (lo rows)),some (.nY (hX S)),a,b]/\R6 S (((zV rows ns).drop pre.length).map (·.1))/\(S.length<=2 ^ pre.length/\iC S<=8 * 8 ^ pre.length/\ML (6+5 * pre.length) S)/\∀ g,mV ((zV rows ns).drop pre.length) g S=Br (fr rows) (zV rows ns) (gH (lo rows) g))
   ⟨_,_,_,rfl,rfl,so0,⟨(by decide:1<=2 ^ 0),bc (Nat.le_of_eq (QB _)) (GU lol),dg0⟩,start⟩ (fun pre τ G' h=>cp G' (by obtain⟨_,_,_,rfl,_⟩:=h; exact .refl _)) ?_ ?_
  ·rintro pre x post τ G' N2 e ⟨S,a,b,rfl,rfl,so,⟨sl,sn,sd⟩,sv⟩ jh;have dr:(zV rows ns).drop pre.length=x :: post:=by rw [e,w7]
   have dr2:(zV rows ns).drop (pre++[x]).length=post:=by
    rw [e,show pre++x :: post=(pre++[x])++post by simp,w7]
   have A8:pre.length+1+post.length<=12:=by
    have:=congrArg cV e;rw [az,ah,hnl] at this; lia
   have RE:(x.1 :: post.map (·.1)).Nodup:=by
    have h1:=Cp rows ns;rw [e,bq,aj] at h1;have h2:=nn;rw [<-h1] at h2;exact(List.nodup_append.mp h2).2.1
   rw [dr] at so sv;have p8:8 ^ pre.length<=8 ^ 11:=cU (by decide) (by lia);have p2:2 ^ pre.length<=2 ^ 11:=cU (by decide) (by lia);have hx:x.2=1\/x.2=-1:=by
    obtain⟨m,hm,ex⟩:=List.mem_map.mp (show x∈zV rows ns by rw [e]; simp);rw [<-ex];exact RK d (hp.mem_iff.mp hm)
   have e3:(enc x:D)=.tup [.int x.1,.int x.2]:=rfl;rw [e3];simp only [gz,cq,gf,aI,ak,ao];simp only [bJ,d4,bP,ar,ax,↓ae,↓aa,aT,aI,↓ao,↓ak];refine⟨S,x.1,x.2,post,6+5 * pre.length,rfl,⟨so,RE,by lia,by lia,by lia,sd,by lia,hx⟩,fun S' so' l1 l2 l3 v=>?_⟩;refine gB (jh _ _ ?_);rw [dr2];have e8:8 * 8 ^ (pre++[x]).length=8 * (8 * 8 ^ pre.length):=by
    rw [az,bR,mK]; lia
   rw [e8];have e2:2 ^ (pre++[x]).length=2 * 2 ^ pre.length:=by rw [az,bR,mK]; lia
   rw [e2,show 6+5 * (pre++[x]).length=6+5 * pre.length+5 by rw [az,bR]; lia];exact⟨S',_,_,rfl,rfl,so',⟨by lia,by lia,l3⟩,fun g=>by rw [v]; exact sv g⟩
  ·rintro τ G' ⟨S,a,b,rfl,rfl,so,⟨sl,sn,sd⟩,sv⟩;have dr:(zV rows ns).drop (zV rows ns).length=[]:=List.drop_length;rw [dr] at so sv;have:8 ^ (zV rows ns).length<=8 ^ 12:=cU (by decide) (by lia);exact hN _ _ ⟨S,_,_,rfl,rfl,so,by lia,fun p hp=>RR (sd p hp) (by lia),sv⟩
 ·rintro _ G' ⟨S,a,b,rfl,rfl,so,hn,hdg,hv⟩;simp only [cR,d4,ax,↓ae,↓aa];exact CK g1 (q S so hn hdg hv)
structure BPb(T:Po)(f:Fn->Int):Prop where
 nd:ND T
 nz:NZ T
 len:T.length<=200
 d0:d0 T<=2 ^ 60
 val:∀ g,L g T=f g
noncomputable def yb:iP :=
 (cR (d4 (qh tyP Ez (bP rz (ar (ax 0) (ar (bP jv (ar (ax 0) aT)) aT))) (ar (d4 (eP aT)) (ar (d4 jq) aT)))))
noncomputable def oU:nj:=fun ds G Q _=>∃ rows:Rows,ds=[enc rows]/\Dr rows/\∀ T:Po,BPb T (brk rows)->Q (.gN (aS T)) G
theorem II(ds:List D)(G:Gp)(Q:DK)(h:oU ds G Q fun _ _=>False):yb (fun _ _=>False) (ends Q) (bA 1 ds) G:=by
 obtain⟨rows,rfl,d,q⟩:=h;have MI:=d.MI;have nl:=Hk d;unfold yb;simp only [cR,d4,qh,bP,ar,ax,bA,↓aj,↓aW,↓ah,↓aA,↓aG,↓aL,↓aa,aT,eP,jq,ends];refine⟨rows,rfl,(show rows.flatten.length < 64 by lia),?_⟩;refine⟨rows,names rows,rfl,⟨d,.refl _,by lia⟩,fun S so hn hdg hv=>?_⟩;refine⟨trivial,by decide,gB ?_⟩;intro p hp;refine gS (.new hp) hp aC ?_;refine⟨[],rfl,?_⟩;have bp:BPb ((cw S []).getD []) (brk rows):=⟨(so.Hj.get []).1,(so.Hj.get []).2,bc (Ie (so.Hj.get []).1 (so.Hj.get []).2 (Ig hdg [])) (by decide),bc (Rm S []) hn,fun g=>by rw [<-QK so,hv]; rfl⟩;have e:(pO (hX S) []).getD (.gN [])=.gN (aS ((cw S []).getD [])):=by
  rw [AZ];cases cw S [] <;> rfl
 rw [e];exact gB (q _ bp)
end JM
namespace T
noncomputable abbrev Tb:=List (List Int)
end T
namespace P
variable {rows:Rows}
noncomputable def Wb(rows:Rows):List T3:=TR (Ni rows)
end P
namespace P
variable {rows:Rows}
noncomputable def YN(rows:Rows)(s:T2):Nat:=(((rows.zipIdx 0).find? fun p=>decide (s∈BW p.1 (p.2:Int))).map (·.2)).getD 0
end P
namespace K40
open K2.T
open K2.P (names handOf YN BW jv j7)
open K2.Y (fk gQ)
noncomputable abbrev dT(t:Tb):List (List D):=t.map fun r=>r.map D.int
end K40
namespace zr
open K2.P
section
variable {α β:Type} [DecidableEq α] [DecidableEq β]
theorem PC{ps qs:List (α×α)}(h:∀ p∈ps,Cn qs p.1 p.2){x y:α}(c:Cn ps x y):Cn qs x y:=by
 induction c with
 | refl x=>exact .refl x
 | pair q=>exact h _ q
 | symm _ ih=>exact .symm ih
 | trans _ _ i1 i2=>exact .trans i1 i2
structure Tr(V:List α)(R:α->α->Prop)(A:List α):Prop where
 pw:A.Pairwise fun a b=>¬ R a b
 Td:∀ v∈V,∃ a∈A,R v a
 US:∀ a∈A,a∈V
noncomputable def Nc(V:List α)(R:α->α->Prop)(k:Nat):Prop:=∃ A,Tr V R A/\A.length=k
structure Eqv(R:α->α->Prop):Prop where
 rf:∀ x,R x x
 sy:∀ {x y},R x y->R y x
 tr:∀ {x y z},R x y->R y z->R x z
theorem Qt(ps:List (α×α)):Eqv (Cn ps):=⟨fun x=>.refl x,fun h=>h.symm,fun h k=>h.trans k⟩
variable {V:List α} {R:α->α->Prop}
theorem Sy{A:List α}(e:Eqv R)(h:A.Pairwise fun a b=>¬ R a b){a b:α}(ha:a∈A)(hb:b∈A)(r:R a b):a=b:=by
 induction A with
 | nil=>cases ha
 | cons x A ih =>
  rw [zA] at h;rcases List.mem_cons.mp ha with rfl | ha2
  ·rcases List.mem_cons.mp hb with rfl | hb
   ·rfl
   ·exact absurd r (h.1 b hb)
  ·rcases List.mem_cons.mp hb with rfl | hb
   ·exact absurd (e.sy r) (h.1 a ha2)
   ·exact ih h.2 ha2 hb
theorem NH(e:Eqv R):∀ (A B:List α),A.Pairwise (fun a b=>¬ R a b)->(∀ a∈A,∃ b∈B,R a b)->A.length<=B.length
 | [],_,_,_=>bZ _
 | a :: A,B,h,hb=>by
  rw [zA] at h;obtain⟨b,hbm,ER⟩:=hb a (by simp);have:=NH e A (B.erase b) h.2 fun a' ha'=>by
   obtain⟨b',Bf,r⟩:=hb a' (au _ ha');refine⟨b',(jB fun z=>?_).mpr Bf,r⟩;subst z;exact h.1 a' ha' (e.tr ER (e.sy r))
  rw [ft hbm] at this;have:=fV hbm;rw [ah]; lia
theorem Nc.uniq(e:Eqv R){k l:Nat}(h1:Nc V R k)(h2:Nc V R l):k=l:=by
 obtain⟨A,a,rfl⟩:=h1;obtain⟨B,b,rfl⟩:=h2;exact Nat.le_antisymm (NH e A B a.pw fun x hx=>b.Td x (a.US x hx)) (NH e B A b.pw fun x hx=>a.Td x (b.US x hx))
open Classical in
theorem Nc.ex(e:Eqv R):∀ V:List α,∃ k,Nc V R k
 | []=>⟨0,[],⟨.nil,by simp,by simp⟩,rfl⟩
 | v :: V=>by
  obtain⟨k,A,a,ea⟩:=Nc.ex e V;by_cases h:∃ b∈A,R v b
  ·refine⟨k,A,⟨a.pw,fun x hx=>?_,fun x hx=>au _ (a.US x hx)⟩,ea⟩;rcases List.mem_cons.mp hx with rfl | hx
   ·exact h
   ·exact a.Td x hx
  ·refine⟨k+1,v :: A,⟨List.pairwise_cons.mpr ⟨fun b hb r=>h ⟨b,hb,r⟩,a.pw⟩,fun x hx=>?_,fun x hx=>?_⟩,by rw [ah,ea]⟩
   ·rcases List.mem_cons.mp hx with rfl | hx
    ·exact⟨_,by simp,e.rf _⟩
    ·obtain⟨b,hb,r⟩:=a.Td x hx;exact⟨b,au _ hb,r⟩
   ·rcases List.mem_cons.mp hx with rfl | hx
    ·simp
    ·exact au _ (a.US x hx)
theorem Nc.congr{R':α->α->Prop}(h:∀ x y,R x y↔R' x y){k:Nat}(n:Nc V R k):Nc V R' k:=by
 have:R=R':=by funext x y; exact propext (h x y)
 rw [<-this]; exact n
theorem Nc.join{ps:List (α×α)}{x y:α}(hx:x∈V)(hy:y∈V){k l:Nat}(h1:Nc V (Cn ps) k)(h2:Nc V (Cn (ps++[(x,y)])) l):(Cn ps x y->l=k)/\(¬ Cn ps x y->k=l+1):=by
 constructor
 ·intro c;refine Nc.uniq (Qt (ps++[(x,y)])) h2 (h1.congr fun a b=>⟨fun q=>q.mono fun p hp=>bB _ hp,fun q=>?_⟩);rcases Cn.more.mp q with q | ⟨q1,q2⟩ | ⟨q1,q2⟩
  ·exact q
  ·exact(q1.trans c).trans q2
  ·exact(q1.trans c.symm).trans q2
 ·intro nc;obtain⟨A,a,rfl⟩:=h1;obtain⟨b,hb,rb⟩:=a.Td y hy;have e:=Qt ps;have nd:A.Nodup:=a.pw.imp fun {u v} q (z:u=v)=>q (z ▸ Cn.refl _);have:Nc V (Cn (ps++[(x,y)])) (A.erase b).length:=by
   refine⟨A.erase b,⟨?_,fun v hv=>?_,fun w hw=>a.US w (List.mem_of_mem_erase hw)⟩,rfl⟩
   ·refine(a.pw.sublist List.erase_sublist).imp_of_mem fun {u v} hu hv q r=>?_;have A7:=(nd.mem_erase_iff.mp hu);have hv':=(nd.mem_erase_iff.mp hv);rcases Cn.more.mp r with r | ⟨r1,r2⟩ | ⟨r1,r2⟩
    ·exact q r
    ·exact hv'.1 (Sy e a.pw hv'.2 hb (r2.symm.trans rb))
    ·exact A7.1 (Sy e a.pw A7.2 hb (r1.trans rb))
   ·obtain⟨u,hu,ru⟩:=a.Td v hv;by_cases z:u=b
    ·subst z;obtain⟨w,hw,oI⟩:=a.Td x hx;refine⟨w,nd.mem_erase_iff.mpr ⟨fun z=>?_,hw⟩,Cn.more.mpr (.inr (.inr ⟨ru.trans rb.symm,oI⟩))⟩;subst z;exact nc (oI.trans rb.symm)
    ·exact⟨u,nd.mem_erase_iff.mpr ⟨z,hu⟩,Cn.more.mpr (.inl ru)⟩
  have:=Nc.uniq (Qt _) h2 this;rw [ft hb] at this;have:=fV hb;lia
noncomputable def it(f:α->α):Nat->α->α
 | 0,a=>a
 | n+1,a=>f (it f n a)
variable {f:α->α}
theorem SG:∀ (xs ys:List α),xs.Nodup->(∀ x∈xs,x∈ys)->xs.length<=ys.length
 | [],_,_,_=>bZ _
 | x :: xs,ys,hn,h=>by
  rw [aQ] at hn;have:=SG xs (ys.erase x) hn.2 fun y hy=>(jB (show y≠x from fun z=>hn.1 (by rw [<-z]; exact hy))).mpr (h y (au _ hy));have hx:=h x (by simp);rw [ft hx] at this;have:=fV hx;rw [ah]; lia
noncomputable def gr(V:List α)(f:α->α):List (α×α):=V.map fun a=>(a,f a)
end
end zr
namespace zr
open K2.P
variable {rows:Rows}
noncomputable def flp(z:T3):T3:=⟨z.a,z.b,1 - z.c⟩
noncomputable def swp(off:List T2)(z:T3):T3:=if z.s∈off then flp z else z
noncomputable def phi(rows:Rows)(off:List T2)(a:T3):T3:=swp off (step rows a)
noncomputable def aaC(rows:Rows):List T2:=rows.flatten.map T3.s
noncomputable def aav(rows:Rows):List T2:=(Ni rows).filter fun s=>decide (s.b=2)
noncomputable def pr(s:T2):T3×T3:=(Zr s,YW s)
noncomputable def base(rows:Rows):List (T3×T3):=gr (Wb rows) (phi rows (aaC rows))++(aav rows).map pr
end zr
namespace Qv
open K2.P
noncomputable def wD:iP :=
 (b7 (gU (jo (bH T5 (ax 1) (u5 Df (ar (ax 0) aT)))) (cR (d4 (bH nF (ax 0) (ax 1)))) eA)
 (cR (d4 (dC (.int 0)))))
noncomputable def y9(ns:List Int)(k:Int):Int:=ns.getD k.toNat 0
noncomputable def jw:nj:=fun ds G Q _=>∃ (ns:List Int) (k:Int),ds=[.dJ (ns.map D.int),.int k]/\0<=k/\Q (.int (y9 ns k)) G
theorem wY(ds:List D)(G:Gp)(Q:DK)(h:jw ds G Q fun _ _=>False):wD (fun _ _=>False) (ends Q) (bA 2 ds) G:=by
 obtain⟨ns,k,rfl,h0,q⟩:=h;unfold wD;simp only [b7,gU,bA,aj,aW,ah,aA,aG,aL,cR,d4,bH,ax,aa,ae,ends,oe,eA,dC,dE,u5,ar,aT,qX,rB,cP];split
 ·rename_i h;have h1:k < (ns.map D.int).length:=by simpa using h
  rw [xA _ h0 h1];simp only [mR];rw [aE] at h1;have e:y9 ns k=ns[k.toNat]:=by unfold y9; rw [aZ,aq (by lia)]; rfl
  rw [<-e]; exact gB q
 ·rename_i h;have h1:¬ k < (ns.map D.int).length:=by simpa using h
  rw [aE] at h1;have e:y9 ns k=0:=by unfold y9; rw [aZ,mC (by lia)]; rfl
  rw [<-e]; exact gB q
noncomputable def uj:iP :=
 (cR (d4 (Kr (Px "int" (ax 0)) (Pw (Px "bool" (ax 0))))))
noncomputable def gM:nj:=fun ds G Q _=>∃ i:Int,ds=[.int i]/\Q (.bl true) G
theorem vk(ds:List D)(G:Gp)(Q:DK)(h:gM ds G Q fun _ _=>False):uj (fun _ _=>False) (ends Q) (bA 1 ds) G:=by
 obtain⟨i,rfl,q⟩:=h;unfold uj;simp only [cR,d4,bA,aj,aW,ah,aA,aG,aL,ends,u6,uY,u0,ax,aa,uO,cP];simpa using gB q
end Qv
namespace K13
open K2.P K2.Qv
variable {rows:Rows}
end K13
namespace K13
open K2.P K2.Qv
variable {rows:Rows}
end K13
namespace zr
open K2.P
variable {rows:Rows}
end zr
namespace MJ
open K2.P K2.zr
section
variable {α:Type} [DecidableEq α]
noncomputable def dd(l:List α):List α:=l.foldl (fun acc x=>if x∈acc then acc else acc++[x]) []
end
variable {rows:Rows}
end MJ
noncomputable instance:Dx T2 where
 mn:=by
  intro x G xs Q hi qP k;cases xs with
  | nil=>exact absurd rfl qP
  | cons a r =>
   obtain⟨h1,h2⟩:=jm r a;have ei:itemsOf x G=some (((a :: r).map T2.l).map tI):=by rw [hi,bC]; rfl
   refine .inr ⟨(a :: r).map T2.l,_,ei,rfl,?_⟩;have:∀ (r:List T2) (a:T2),(r.map T2.l).foldl (fun m x=>if lexLt x m=true then x else m) a.l=(r.foldl (fun m x=>if bb.lt x m=true then x else m) a).l:=by
    intro r;induction r with
    | nil=>intro a; rfl
    | cons b r ih =>
     intro a;rw [aj,bY,bY];have e:(if lexLt b.l a.l=true then b.l else a.l)=(if bb.lt b a=true then b else a).l:=by
      have:bb.lt b a=lexLt b.l a.l:=tm _ _;rw [this];split <;> rfl
     rw [e]; exact ih _
   rw [this r a];exact k _ h1 h2
namespace MJ
open K2.P K2.zr K2.T
open K2.Y (gQ)
variable {rows:Rows}
noncomputable def jps(rows:Rows)(n w:Int):List (T2×T2):=if w=0 then [(XA rows ⟨n,0⟩,⟨n,1⟩),(XA rows ⟨n,1⟩,⟨n,0⟩)] else [(XA rows ⟨n,0⟩,XA rows ⟨n,1⟩),(⟨n,0⟩,⟨n,1⟩)]
noncomputable def Y6(rows:Rows)(ch:List (Int×Int)):List (T2×T2):=ch.flatMap fun p=>jps rows p.1 p.2
end MJ
namespace MJ
open K2.P K2.T
open K2.Y (fk gQ)
theorem RD{G G2:Gp}{d:D}{ds:List D}{R:List D->(Gp->Prop)->Gp->Prop}(h:IsL G d ds)(l:fJ G G2)(k:∀ ok:Gp->Prop,(∀ G',fJ G G'->ok G')->R ds ok G2):Qq d G2 R:=by
 rcases h with rfl | ⟨a,rfl,e⟩
 ·exact k _ fun _ _=>trivial
 ·rw [xq (l _ _ e)];exact k _ fun G' le=>le _ _ e
end MJ
namespace Qv
open K2.P
variable {rows:Rows}
end Qv
namespace Qv
open K2.P
variable {rows:Rows}
noncomputable def z3:T3:=⟨0,0,0⟩
noncomputable def prv(r:List T3)(k:Nat):T3:=if k=0 then r.getD (r.length - 1) z3 else r.getD (k - 1) z3
noncomputable def pr1(r:List T3)(ks:List Nat):List (T3×T3):=ks.map fun k=>(prv r k,r.getD k z3)
noncomputable def Y7(rows:Rows):List (T3×T3):=rows.flatMap fun r=>pr1 r (dR r.length)
end Qv
namespace MJ
open K2.P K2.T
open K2.zr (Nc)
open K2.Qv (prv pr1 Y7 z3)
open K2.Y (gQ)
variable {rows:Rows}
noncomputable def ks(rows:Rows):List T2:=(Y7 rows).map fun p=>p.2.s
end MJ
namespace MJ
open K2.P K2.T
open K2.zr (Nc Qt)
open K2.Y (gQ)
variable {rows:Rows}
end MJ
namespace K42
open K2.P K2.T
open K2.zr (Nc Qt)
open K2.Y
open K2.MJ (Y6 jps)
variable {rows:Rows}
noncomputable abbrev Ch:=List (Int×Int)
open Classical in
noncomputable def R(rows:Rows)(c:Ch):Nat:=if h:∃ k,Nc (Ni rows) (Cn (Y6 rows c)) k then Classical.choose h else 0
noncomputable def cn(h:T2->Int)(l:List (T2×Int)):Int:=(l.map fun p=>p.2 * h p.1).sum
end K42
namespace JK
open K2.P K2.J K2.JB
open K2.zr (Nc Tr Qt)
open K2.MJ (Y6 jps)
variable {rows:Rows}
noncomputable abbrev Ch:=List (Int×Int)
theorem C6{α:Type}{ps:List (α×α)}{a b u v:α}(h:Cn (ps++[(a,b)]) u v):Cn ps u v\/(Cn ps u a/\Cn ps b v)\/(Cn ps u b/\Cn ps a v):=by
 induction h with
 | refl x=>exact .inl (.refl x)
 | pair q =>
  rcases List.mem_append.mp q with q | q
  ·exact .inl (.pair q)
  ·rw [aU] at q;cases q;exact .inr (.inl ⟨.refl _,.refl _⟩)
 | symm _ ih =>
  rcases ih with h | ⟨h1,h2⟩ | ⟨h1,h2⟩
  ·exact .inl h.symm
  ·exact .inr (.inr ⟨h2.symm,h1.symm⟩)
  ·exact .inr (.inl ⟨h2.symm,h1.symm⟩)
 | trans _ _ i1 i2 =>
  rcases i1 with h | ⟨h1,h2⟩ | ⟨h1,h2⟩ <;> rcases i2 with k | ⟨k1,k2⟩ | ⟨k1,k2⟩
  ·exact .inl (h.trans k)
  ·exact .inr (.inl ⟨h.trans k1,k2⟩)
  ·exact .inr (.inr ⟨h.trans k1,k2⟩)
  ·exact .inr (.inl ⟨h1,h2.trans k⟩)
  ·exact .inr (.inl ⟨h1,k2⟩)
  ·exact .inl (h1.trans k2)
  ·exact .inr (.inr ⟨h1,h2.trans k⟩)
  ·exact .inl (h1.trans k2)
  ·exact .inr (.inr ⟨h1,k2⟩)
theorem jS{α:Type}{ps qs:List (α×α)}{u v:α}(h:Cn ps u v):Cn (ps++qs) u v:=by
 induction h with
 | refl x=>exact .refl x
 | pair q=>exact .pair (bB _ q)
 | symm _ ih=>exact ih.symm
 | trans _ _ a b=>exact a.trans b
noncomputable def Sep(cv:T3->T2)(f:T3->T3)(ps:List (T2×T2)):Prop:=∀ e e',f e≠e->f e'≠e'->(Cn ps (cv e) (cv e')↔e'=e\/e'=f e)
theorem Sep.step{cv:T3->T2}{f:T3->T3}{ps:List (T2×T2)}(iv:Iv f)(s:Sep cv f ps){x y:T3}(xy:x≠y)(hx:f x≠x)(hy:f y≠y):Sep cv (jn f x y) (ps++[(cv x,cv y)]):=by
 have op:∀ e,jn f x y e≠e->e≠x/\e≠y/\f e≠e:=fun e h=>by
  refine⟨fun z=>h (by rw [z]; exact WN),fun z=>h (by rw [z]; exact WM),fun z=>h ?_⟩;have i1:e=f x->e=x:=fun w=>by rw [<-z,w,iv]
  have i2:e=f y->e=y:=fun w=>by rw [<-z,w,iv]
  unfold jn
  grind
 intro e e' he he';obtain⟨ex,ey,fe⟩:=op e he;obtain⟨ex',ey',fe'⟩:=op e' he';have i:∀ u v:T3,f u=v↔u=f v:=fun u v=>⟨fun h=>by rw [<-h,iv],fun h=>by rw [h,iv]⟩;have a1:=s e e' fe fe';have a2:=s e x fe hx;have a3:=s e y fe hy;have a4:=s y e' hy fe';have a5:=s x e' hx fe';constructor
 ·intro h;have i1:=i e x;have i2:=i e y;unfold jn;rcases C6 h with h | ⟨h1,h2⟩ | ⟨h1,h2⟩
  ·have:=a1.mp h; grind
  ·have:=a2.mp h1; have:=a4.mp h2; grind
  ·have:=a3.mp h1; have:=a5.mp h2; grind
 ·intro h;rcases h with h | h
  ·rw [h]; exact .refl _
  ·have last:Cn (ps++[(cv x,cv y)]) (cv x) (cv y):=.pair (by simp);by_cases c1:e=f x
   ·have e2:e'=f y:=by rw [h]; unfold jn; grind
    exact(jS (a2.mpr (.inr (by rw [c1,iv])))).trans (last.trans (jS (a4.mpr (.inr e2))))
   ·by_cases c2:e=f y
    ·have e2:e'=f x:=by rw [h]; unfold jn; grind
     exact(jS (a3.mpr (.inr (by rw [c2,iv])))).trans (last.symm.trans (jS (a5.mpr (.inr e2))))
    ·have e2:e'=f e:=by rw [h]; unfold jn; grind
     exact jS (a1.mpr (.inr e2))
theorem go{cv:T3->T2}{V:List T2}:∀ (qs:Pr T3) (f:T3->T3) (ps:List (T2×T2)) (k m:Nat),Ok f qs->Sep cv f ps->(∀ p∈qs,cv p.1∈V/\cv p.2∈V)->Nc V (Cn ps) k->Nc V (Cn (ps++qs.map fun p=>(cv p.1,cv p.2))) m->k+cls f qs=m+qs.length
 | [],f,ps,k,m,_,_,_,h1,h2=>by
  rw [aW,cH] at h2;rw [Nc.uniq (Qt ps) h1 h2]; rfl
 | p :: qs,f,ps,k,m,o,s,hv,h1,h2=>by
  obtain⟨xy,hx,hy⟩:=o.hd;obtain⟨v1,v2⟩:=hv p (by simp);rw [aj,List.append_cons] at h2;obtain⟨l,hl⟩:=Nc.ex (Qt (ps++[(cv p.1,cv p.2)])) V;have ih:=go qs (jn f p.1 p.2) (ps++[(cv p.1,cv p.2)]) l m o.tl (s.step o.iv xy hx hy) (fun q hq=>hv q (au _ hq)) hl h2;obtain⟨j1,j2⟩:=Nc.join v1 v2 h1 hl;have sp:=s p.1 p.2 hx hy;rw [cls,ah];unfold cl;by_cases c:f p.1=p.2
  ·rw [if_pos c];have:=j1 (sp.mpr (.inr c.symm));lia
  ·rw [if_neg c];have:=j2 (fun z=>by rcases sp.mp z with z | z; exact xy z.symm; exact c z.symm);lia
theorem Il{α:Type}{u v:α}(h:Cn ([]:List (α×α)) u v):u=v:=by
 induction h with
 | refl x=>rfl
 | pair q=>cases q
 | symm _ ih=>exact ih.symm
 | trans _ _ a b=>exact a.trans b
theorem Ux{V:List T2}(nd:V.Nodup):Nc V (Cn []) V.length:=⟨V,⟨nd.imp fun h z=>h (Il z),fun x hx=>⟨x,hx,.refl _⟩,fun x h=>h⟩,rfl⟩
theorem Xp:∀ {l:List Int},l.Nodup->(l.flatMap j6).Nodup:=by
 intro l;induction l with
 | nil=>intro _; exact cA
 | cons n l ih =>
  intro h;rw [aQ] at h;rw [eY,dS];refine⟨uW n,ih h.2,fun a ha b hb e=>?_⟩;obtain⟨m,hm,hb⟩:=List.mem_flatMap.mp hb;have e1:=ni ha;have e2:=ni hb;rw [<-e,e1] at e2;exact h.1 (e2 ▸ hm)
end JK
end K2
end
section
namespace K2
namespace JL
open K2.zr (Nc Tr Qt)
open K2.JK (C6 jS Il)
noncomputable abbrev Es:=List (T2×T2)
structure Lb(ps:Es)(N:List T2)(l:List Nat):Prop where
 len:N.length=l.length
 at':∀ (i j:Nat) (hi:i < N.length) (hj:j < N.length),Cn ps N[i] N[j]↔l[i]'(by rw [<-len]; exact hi)=l[j]'(by rw [<-len]; exact hj)
noncomputable def mg(l:List Nat)(a b:Nat):List Nat:=l.map fun x=>if x=a then b else x
theorem Vk{ps:Es}{a b u v:T2}:Cn (ps++[(a,b)]) u v↔Cn ps u v\/(Cn ps u a/\Cn ps b v)\/(Cn ps u b/\Cn ps a v):=by
 refine⟨C6,fun h=>?_⟩;have e:Cn (ps++[(a,b)]) a b:=.pair (by simp);rcases h with h | ⟨h1,h2⟩ | ⟨h1,h2⟩
 ·exact jS h
 ·exact(jS h1).trans (e.trans (jS h2))
 ·exact(jS h1).trans (e.symm.trans (jS h2))
theorem Lb.mO{ps:Es}{N:List T2}{l:List Nat}(h:Lb ps N l){i j:Nat}(hi:i < N.length)(hj:j < N.length):Lb (ps++[(N[i],N[j])]) N (mg l (l[i]'(by rw [<-h.len]; exact hi)) (l[j]'(by rw [<-h.len]; exact hj))):=by
 refine⟨by unfold mg; rw [aE]; exact h.len,fun s t hs ht=>?_⟩;rw [Vk,h.at' s t hs ht,h.at' s i hs hi,h.at' j t hj ht,h.at' s j hs hj,h.at' i t hi ht];unfold mg;rw [mR,mR];generalize l[s]'(by rw [<-h.len]; exact hs)=a;generalize l[t]'(by rw [<-h.len]; exact ht)=b;generalize l[i]'(by rw [<-h.len]; exact hi)=c;generalize l[j]'(by rw [<-h.len]; exact hj)=d
 grind
noncomputable def Fr(ps:Es)(v:T2):Prop:=∀ p∈ps,p.1≠v/\p.2≠v
theorem O9{ps:Es}{x v:T2}(f:Fr ps v)(h:Cn ps x v):x=v:=by
 have:∀ {a b:T2},Cn ps a b->(a=v↔b=v):=fun h=>by
  induction h with
  | refl x=>exact Iff.rfl
  | pair q=>exact⟨fun z=>absurd z (f _ q).1,fun z=>absurd z (f _ q).2⟩
  | symm _ ih=>exact ih.symm
  | trans _ _ a b=>exact a.trans b
 exact(this h).mpr rfl
theorem Lb.fresh{ps:Es}{N:List T2}{l:List Nat}(h:Lb ps N l){v:T2}{c:Nat}(f:Fr ps v)(hv:v∉N)(hc:c∉l):Lb ps (N++[v]) (l++[c]):=by
 refine⟨by rw [az,az,h.len]; rfl,fun s t hs ht=>?_⟩;rw [az,bR] at hs ht;have hl:=h.len;by_cases s1:s < N.length
 ·by_cases t1:t < N.length
  ·rw [dc s1,dc t1,dc (by lia),dc (by lia)];exact h.at' s t s1 t1
  ·have:t=N.length:=by lia
   subst this;rw [dc s1,jW (aB _),dc (by lia),jW (by lia)];simp only [MV];exact⟨fun z=>absurd (by rw [<-O9 f z]; exact cD s1) hv,fun z=>absurd (by rw [<-z]; exact cD _) hc⟩
 ·have:s=N.length:=by lia
  subst this;by_cases t1:t < N.length
  ·rw [dc t1,jW (aB _),dc (as:=l) (i:=t) (by lia),jW (as:=l) (i:=N.length) (by lia)];simp only [MV];exact⟨fun z=>absurd (by rw [<-O9 f z.symm]; exact cD t1) hv,fun z=>absurd (by rw [z]; exact cD _) hc⟩
  ·have:t=N.length:=by lia
   subst this;exact⟨fun _=>rfl,fun _=>.refl _⟩
theorem Lb.sel{ps:Es}{N N':List T2}{l l':List Nat}(h:Lb ps N l)(ix:List Nat)(hn:N'=ix.filterMap fun i=>N[i]?)(hx:ix.all fun i=>decide (i < N.length))(hl:l'.length=ix.length)
  (hk:∀ i,i < ix.length->∀ j,j < ix.length->(l.getD (ix.getD i 0) 0=l.getD (ix.getD j 0) 0↔l'.getD i 0=l'.getD j 0)):Lb ps N' l':=by
 have e:N'=ix.map fun i=>N.getD i ⟨0,0⟩:=by
  rw [hn];rw [eM] at hx;clear hl hk hn;induction ix with
  | nil=>rfl
  | cons i ix ih =>
   have hi:i < N.length:=by simpa using hx i (by simp)
   rw [oG,aq hi,aj,ih fun j hj=>hx j (au _ hj),aZ,aq hi]; rfl
 have ln:N'.length=ix.length:=by rw [e,aE]
 refine⟨by rw [ln,hl],fun s t hs ht=>?_⟩;rw [ln] at hs ht;rw [eM] at hx;have is:ix[s] < N.length:=by simpa using hx _ (cD hs)
 have it:ix[t] < N.length:=by simpa using hx _ (cD ht)
 have gs:∀ (k:Nat) (hk:k < ix.length) (hN:ix[k] < N.length),N'[k]'(by rw [ln]; exact hk)=N[ix[k]]:=fun k hk hN=>by
  simp only [e,mR,aZ,aq hN,fY]
 rw [gs s hs is,gs t ht it,h.at' _ _ is it];have:=hk s hs t ht;have hle:=h.len;rw [aZ (l:=ix),aZ (l:=ix),aq hs,aq ht,fY,fY] at this;rw [aZ,aZ,aZ,aZ,aq (by lia),aq (by lia),aq (by lia),aq (by lia)] at this;simpa only [fY] using this
theorem Oc{ps:Es}{V:List T2}{k:Nat}(n:Nc V (Cn ps) k){v:T2}(f:Fr ps v)(hv:v∉V):Nc (V++[v]) (Cn ps) (k+1):=by
 obtain⟨A,t,rfl⟩:=n;refine⟨A++[v],⟨?_,fun x hx=>?_,fun x hx=>?_⟩,by rw [az]; rfl⟩
 ·rw [List.pairwise_append];refine⟨t.pw,Ms _ _,fun a ha b hb z=>?_⟩;rw [aU] at hb;subst hb;exact hv (by rw [<-O9 f z]; exact t.US a ha)
 ·rcases List.mem_append.mp hx with hx | hx
  ·obtain⟨a,ha,r⟩:=t.Td x hx;exact⟨a,bB _ ha,r⟩
  ·exact⟨x,bg _ hx,.refl _⟩
 ·rcases List.mem_append.mp hx with hx | hx
  ·exact bB _ (t.US x hx)
  ·exact bg _ hx
theorem Rp{ps:Es}{V:List T2}{k:Nat}(n:Nc V (Cn ps) k){x y:T2}(hx:x∈V)(hy:y∈V):(Cn ps x y->Nc V (Cn (ps++[(x,y)])) k)/\(¬ Cn ps x y->∃ l,k=l+1/\Nc V (Cn (ps++[(x,y)])) l):=by
 obtain⟨l,hl⟩:=Nc.ex (Qt (ps++[(x,y)])) V;obtain⟨j1,j2⟩:=Nc.join hx hy n hl;exact⟨fun c=>j1 c ▸ hl,fun c=>⟨l,j2 c,hl⟩⟩
noncomputable def Q4:Nat->List Nat
 | 0=>[1,2,3,1,2,3]
 | 1=>[1,1,2,3,3,2]
 | 2=>[1,2,2,1,3,3]
 | 3=>[1,1,2,2,3,3]
 | _=>[1,2,2,3,3,1]
noncomputable def tb:Bool->List (Nat×Nat)
 | false=>[(1,0),(1,1),(4,0),(1,0),(4,1)]
 | true=>[(2,0),(3,0),(2,1),(3,1),(2,0)]
noncomputable def IA(k:Int):List T2:=[⟨0,1⟩,⟨0,2⟩,⟨0,3⟩,⟨k,1⟩,⟨k,2⟩,⟨k,3⟩]
noncomputable def kO(k:Int):List T2:=[⟨k,1⟩,⟨k,2⟩,⟨k,3⟩]
noncomputable def Sk(k:Int):Bool->Bool->Es
 | false,false=>[(⟨k,3⟩,⟨k+1,3⟩),(⟨k,1⟩,⟨k+1,1⟩),(⟨k,2⟩,⟨k+1,2⟩)]
 | false,true=>[(⟨k,3⟩,⟨k+1,3⟩),(⟨k,1⟩,⟨k,2⟩),(⟨k+1,1⟩,⟨k+1,2⟩)]
 | true,false=>[(⟨k,1⟩,⟨k+1,1⟩),(⟨k,2⟩,⟨k+1,2⟩),(⟨k,3⟩,⟨k+1,3⟩)]
 | true,true=>[(⟨k,1⟩,⟨k+1,1⟩),(⟨k,2⟩,⟨k,3⟩),(⟨k+1,2⟩,⟨k+1,3⟩)]
structure Wk(ps:Es)(V N:List T2)(l:List Nat)(c:Nat):Prop where
 lb:Lb ps N l
 nc:Nc V (Cn ps) c
 nv:∀ v∈N,v∈V
theorem Wk.mO{ps:Es}{V N:List T2}{l:List Nat}{c:Nat}(h:Wk ps V N l c)(i j:Nat)(x y:T2)(a b:Nat)(hx:N[i]?=some x)(hy:N[j]?=some y)(ha:l[i]?=some a)(hb:l[j]?=some b):Wk (ps++[(x,y)]) V N (mg l a b) (if a=b then c else c - 1):=by
 obtain⟨hi,rfl⟩:=List.getElem?_eq_some_iff.mp hx;obtain⟨hj,rfl⟩:=List.getElem?_eq_some_iff.mp hy;obtain⟨_,rfl⟩:=List.getElem?_eq_some_iff.mp ha;obtain⟨_,rfl⟩:=List.getElem?_eq_some_iff.mp hb;have at':=h.lb.at' i j hi hj;obtain⟨n1,n2⟩:=Rp h.nc (h.nv _ (cD hi)) (h.nv _ (cD hj));refine⟨h.lb.mO hi hj,?_,h.nv⟩;split
 ·rename_i e; exact n1 (at'.mpr e)
 ·rename_i e;obtain⟨l2,e2,n3⟩:=n2 (fun z=>e (at'.mp z));rw [e2,Nat.add_sub_cancel]; exact n3
theorem Wk.fresh{ps:Es}{V N:List T2}{l:List Nat}{c:Nat}(h:Wk ps V N l c){v:T2}{d:Nat}(f:Fr ps v)(hv:v∉V)(hd:d∉l):Wk ps (V++[v]) (N++[v]) (l++[d]) (c+1):=by
 refine⟨h.lb.fresh f (fun z=>hv (h.nv v z)) hd,Oc h.nc f hv,fun x hx=>?_⟩;rcases List.mem_append.mp hx with hx | hx
 ·exact bB _ (h.nv x hx)
 ·exact bg _ hx
theorem Wk.sel{ps:Es}{V N N':List T2}{l l':List Nat}{c c':Nat}(h:Wk ps V N l c)(ix:List Nat)(hn:N'=ix.filterMap fun i=>N[i]?)(hx:ix.all fun i=>decide (i < N.length))(hl:l'.length=ix.length)
  (hk:∀ i,i < ix.length->∀ j,j < ix.length->(l.getD (ix.getD i 0) 0=l.getD (ix.getD j 0) 0↔l'.getD i 0=l'.getD j 0)) (hc:c'=c):Wk ps V N' l' c':=by
 refine⟨h.lb.sel ix hn hx hl hk,hc ▸ h.nc,fun v hv=>?_⟩;rw [hn] at hv;obtain⟨i,_,e⟩:=List.mem_filterMap.mp hv;exact h.nv v (eD e)
structure Sw(k:Nat)(ps:Es)(V:List T2)(π c:Nat):Prop where
 wk:Wk ps V (IA k) (Q4 π) c
 lv:∀ p∈ps,p.1.a<=k/\p.2.a<=k
 vv:∀ v∈V,v.a<=k
 hp:π<=4
theorem Sw.nine{k:Nat}{ps:Es}{V:List T2}{π c:Nat}(s:Sw k ps V π c):Wk ps (V++kO (k+1)) (IA k++kO (k+1)) (Q4 π++[10,11,12]) (c+3):=by
 have fr:∀ j:Int,Fr ps ⟨k+1,j⟩:=fun j p hp=>by
  have:=s.lv p hp;exact⟨fun z=>by rw [z] at this; simp only at this; lia,fun z=>by rw [z] at this; simp only at this; lia⟩
 have nv:∀ j:Int,(⟨k+1,j⟩:T2)∉V:=fun j z=>by have:=s.vv _ z; simp only at this; lia
 have ld:∀ d∈Q4 π,d<=3:=by
  have hp:=s.hp;obtain rfl | rfl | rfl | rfl | rfl:π=0\/π=1\/π=2\/π=3\/π=4:=by lia
  all_goals decide
 have h1:=s.wk.fresh (d:=10) (fr 1) (nv 1) (fun z=>by have:=ld _ z; lia);have h2:=h1.fresh (v:=⟨k+1,2⟩) (d:=11) (fr 2) (fun z=>by rcases List.mem_append.mp z with z | z; exact nv 2 z; rw [aU] at z; cases z) (fun z=>by rcases List.mem_append.mp z with z | z; have:=ld _ z; lia; rw [aU] at z; cases z);have h3:=h2.fresh (v:=⟨k+1,3⟩) (d:=12) (fr 3) (fun z=>by
  rcases List.mem_append.mp z with z | z
  ·rcases List.mem_append.mp z with z | z
   ·exact nv 3 z
   ·rw [aU] at z; cases z
  ·rw [aU] at z; cases z) (fun z=>by
  rcases List.mem_append.mp z with z | z
  ·rcases List.mem_append.mp z with z | z
   ·have:=ld _ z; lia
   ·rw [aU] at z; cases z
  ·rw [aU] at z; cases z)
 simp only [dq,aG,aL] at h3;exact h3
theorem Sw.step{k:Nat}{ps:Es}{V:List T2}{π c:Nat}(s:Sw k ps V π c)(b w:Bool):Sw (k+1) (ps++Sk k b w) (V++kO (k+1)) (if w=true then ((tb b).getD π (0,0)).1 else π) (if w=true then c+((tb b).getD π (0,0)).2 else c):=by
 have h9:=s.nine;have hp:=s.hp;have lv:=s.lv;have vv:=s.vv;have UB:∀ p∈ps++Sk k b w,p.1.a<=((k+1:Nat):Int)/\p.2.a<=((k+1:Nat):Int):=fun p hp=>by
  rcases List.mem_append.mp hp with hp | hp
  ·have:=lv p hp; lia
  ·cases b <;> cases w <;> simp only [Sk,a9,bI,or_false] at hp <;> rcases hp with rfl | rfl | rfl <;> simp only <;> lia
 have Tt:∀ v∈V++kO (k+1),v.a<=((k+1:Nat):Int):=fun v hv=>by
  rcases List.mem_append.mp hv with hv | hv
  ·have:=vv v hv; lia
  ·simp only [kO,a9,bI,or_false] at hv;rcases hv with rfl | rfl | rfl <;> simp only <;> lia
 have e:IA ((k+1:Nat):Int)=[0,1,2,6,7,8].filterMap fun i=>(IA k++kO (k+1))[i]?:=rfl;have a3:∀ x y z:T2×T2,ps++[x,y,z]=((ps++[x])++[y])++[z]:=fun x y z=>by simp
 obtain rfl | rfl | rfl | rfl | rfl:π=0\/π=1\/π=2\/π=3\/π=4:=by lia
 all_goals
  cases b with
  | false =>
   cases w with
   | false =>
    refine⟨?_,UB,Tt,by decide⟩;have h:=((h9.mO 5 8 _ _ _ _ rfl rfl rfl rfl).mO 3 6 _ _ _ _ rfl rfl rfl rfl).mO 4 7 _ _ _ _ rfl rfl rfl rfl;rw [<-a3] at h;exact h.sel [0,1,2,6,7,8] e rfl rfl (by decide) rfl
   | true =>
    refine⟨?_,UB,Tt,by decide⟩;have h:=((h9.mO 5 8 _ _ _ _ rfl rfl rfl rfl).mO 3 4 _ _ _ _ rfl rfl rfl rfl).mO 6 7 _ _ _ _ rfl rfl rfl rfl;rw [<-a3] at h;exact h.sel [0,1,2,6,7,8] e rfl rfl (by decide) rfl
  | true =>
   cases w with
   | false =>
    refine⟨?_,UB,Tt,by decide⟩;have h:=((h9.mO 3 6 _ _ _ _ rfl rfl rfl rfl).mO 4 7 _ _ _ _ rfl rfl rfl rfl).mO 5 8 _ _ _ _ rfl rfl rfl rfl;rw [<-a3] at h;exact h.sel [0,1,2,6,7,8] e rfl rfl (by decide) rfl
   | true =>
    refine⟨?_,UB,Tt,by decide⟩;have h:=((h9.mO 3 6 _ _ _ _ rfl rfl rfl rfl).mO 4 5 _ _ _ _ rfl rfl rfl rfl).mO 7 8 _ _ _ _ rfl rfl rfl rfl;rw [<-a3] at h;exact h.sel [0,1,2,6,7,8] e rfl rfl (by decide) rfl
end JL
namespace wg
noncomputable def ab(c:Int):Int:=if c < 0 then -c else c
noncomputable def kX(p c:Int):Int:=if p=ab c then ab c+1 else if p=ab c+1 then ab c else p
noncomputable def l0(n c p:Int):T3:=⟨n,if decide (p=ab c+1)=decide (c > 0) then 0 else 1,if c > 0 then 1 else -1⟩
noncomputable def ij(n:Int):List Int->Int->List T3
 | [],_=>[]
 | c :: cs,p=>(if p=ab c\/p=ab c+1 then [l0 n c p] else [])++ij (n+1) cs (kX p c)
noncomputable def jY:List Int->Int->Int
 | [],p=>p
 | c :: cs,p=>jY cs (kX p c)
theorem Jg(c:Int){p q:Int}(h:kX p c=kX q c):p=q:=by
 unfold kX at h;split at h <;> split at h <;> (try split at h) <;> lia
theorem Cw:∀ (cs:List Int) {p q:Int},jY cs p=jY cs q->p=q
 | [],_,_,h=>h
 | c :: cs,_,_,h=>Jg c (Cw cs h)
theorem GG{n c p:Int}(h1:1<=ab c)(h2:ab c < n)(hp:1<=p/\p<=n):1<=kX p c/\kX p c<=n:=by
 unfold kX;split
 ·lia
 ·split <;> lia
theorem Cy{n:Int}:∀ (cs:List Int) {p:Int},(∀ c∈cs,1<=ab c/\ab c < n)->1<=p/\p<=n->1<=jY cs p/\jY cs p<=n
 | [],_,_,hp=>hp
 | c :: cs,p,h,hp=>Cy cs (fun x hx=>h x (au _ hx)) (GG (h c (by simp)).1 (h c (by simp)).2 hp)
theorem xr:∀ (cs:List Int) (n p:Int),(ij n cs p).length<=cs.length
 | [],_,_=>aB _
 | c :: cs,n,p=>by
  unfold ij;rw [az,ah];have:=xr cs (n+1) (kX p c);split <;> simp <;> lia
variable {α:Type}
noncomputable def x4(f:Int->Int)(r:Int->List α):Nat->Int->List Int->List α->List α×List Int
 | 0,_,fQ,ps=>(ps,fQ)
 | k+1,p,fQ,ps=>if p∈fQ then (ps,fQ) else x4 f r k (f p) (fQ++[p]) (ps++r p)
noncomputable def cls(f:Int->Int)(r:Int->List α):List Int->List (List α)->List Int->List (List α)
 | [],rows,_=>rows
 | t :: ts,rows,met=>if t∈met then cls f r ts rows met else
  let s:=x4 f r 4 t [] []
  cls f r ts (rows++[s.1]) (met++s.2)
theorem fk:∀ (xs ys:List Int),xs.Nodup->(∀ x∈xs,x∈ys)->xs.length<=ys.length
 | [],_,_,_=>bZ _
 | x :: xs,ys,hn,h=>by
  rw [aQ] at hn;have:=fk xs (ys.erase x) hn.2 fun y hy=>(jB (show y≠x from fun z=>hn.1 (by rw [<-z]; exact hy))).mpr (h y (au _ hy));have hx:=h x (by simp);rw [ft hx] at this;have:=fV hx;rw [ah]; lia
theorem N8{xs:List Int}(h:xs.Nodup)(hx:∀ x∈xs,1<=x/\x<=3):xs.length<=3 :=
 fk xs [1,2,3] h fun x m=>by
  have:=hx x m;have:x=1\/x=2\/x=3:=by lia
  simpa using this
end wg
end K2
end
section
namespace K2
open PySem (Str)
open Enc (enc)
namespace wg
open K2.P
theorem vd{i:Int}{G:Gp}{Q:DK}:cAbs [.int i] G Q=Q (.int (ab i)) G:=rfl
theorem QT{α:Type} [DecidableEq α] [Enc α]{neg:Bool}{x:α}{xs:List α}{G:Gp}{Q:DK}(hd:Enc.dep α<=7)(q:Q (.bl (if neg then !decide (x∈xs) else decide (x∈xs))) G):Lg neg (enc x) (.tup (xs.map enc)) G Q:=by
 refine⟨enc x,xs.map enc,Enc.sn _ _ _ (by unfold SN; lia),xY G 7 hd xs,?_⟩;rw [KC]; exact q
noncomputable def jb:nj:=fun ds G Q _=>∃ n c p:Int,ds=[.int n,.int c,.int p]/\Q (enc (l0 n c p)) G
noncomputable def sG:iP :=
 (b7 (bJ (bH (GS false) (ax 2) (bH ku (u5 cAbs (ar (ax 1) aT)) (dC (.int 1)))) (aI 3))
 (b7 (bJ (Ta (jo (bH (GS false) (ax 3) (bH T7 (ax 1) (dC (.int 0))))) (dC (.int 0)) (dC (.int 1))) (aI 4))
 (cR (d4 (eP (ar (ax 0) (ar (ax 4) (ar (Ta (jo (bH T7 (ax 1) (dC (.int 0)))) (dC (.int 1)) (E8 zS (dC (.int 1)))) aT))))))))
theorem sO(ds:List D)(G:Gp)(Q:DK)(h:jb ds G Q fun _ _=>False):sG (fun _ _=>False) (ends Q) (bA 5 ds) G:=by
 obtain⟨n,c,p,rfl,q⟩:=h;unfold sG;simp only [ends,bA,aj,aW,ah,aA,bo,aG,aL,cg,bJ,bH,ax,ae,aa,u5,ar,aT,dC,aI,ao,ak,cR,d4,eP];rw [vd,ff];refine B6 (α:=Int) (by decide) ?_;simp only [Ta,dE,bH,ax,dC,rD,cP,ae,aa,aF,if_false];refine B6 (α:=Bool) (by decide) ?_;simp only [cP,E8,kr,dC,aF,if_false];unfold l0 at q;have k:∀ (P1 P2:Bool),(if P1=P2 then (if P2=true then Q (.tup [.int n,.int 0,.int 1]) G else Q (.tup [.int n,.int 0,.int (-1)]) G) else (if P2=true then Q (.tup [.int n,.int 1,.int 1]) G else Q (.tup [.int n,.int 1,.int (-1)]) G)) ->
   (if decide (P1=P2)=true then (if P2=true then 0+1+1+1<=SZ/\FV G (.tup [.int n,.int 0,.int 1]) Q else 0+1+1+1<=SZ/\FV G (.tup [.int n,.int 0,.int (-1)]) Q) else (if P2=true then 0+1+1+1<=SZ/\FV G (.tup [.int n,.int 1,.int 1]) Q else 0+1+1+1<=SZ/\FV G (.tup [.int n,.int 1,.int (-1)]) Q)):=by
  intro P1 P2 h;cases P1 <;> cases P2 <;> exact⟨by decide,gB h⟩
 refine k _ _ ?_;by_cases h1:decide (p=ab c+1)=decide (c > 0) <;> by_cases h2:c > 0
 ·rw [if_pos h1,if_pos (decide_eq_true h2)]; rw [if_pos h1,if_pos h2] at q; exact q
 ·rw [if_pos h1,if_neg (by simp [h2])]; rw [if_pos h1,if_neg h2] at q; exact q
 ·rw [if_neg h1,if_pos (decide_eq_true h2)]; rw [if_neg h1,if_pos h2] at q; exact q
 ·rw [if_neg h1,if_neg (by simp [h2])]; rw [if_neg h1,if_neg h2] at q; exact q
noncomputable def iK:nj:=fun ds G Q _=>∃ (cs:List Int) (p:Int),ds=[.dJ (cs.map D.int),.int p]/\cs.length<=1000/\Q (.tup [enc (ij 1 cs p),.int (jY cs p)]) G
theorem Km:∀ (xs ys:List Int) (n p:Int),ij n (xs++ys) p=ij n xs p++ij (n+xs.length) ys (jY xs p)
 | [],ys,n,p=>by simp [ij,jY]
 | c :: xs,ys,n,p=>by
  show _++ij (n+1) (xs++ys) (kX p c)=_;rw [Km xs ys];show _=(_++ij (n+1) xs (kX p c))++_;rw [dq];have:n+1+(xs.length:Int)=n+((c :: xs).length:Int):=by rw [ah]; lia
  rw [this]; rfl
theorem JT:∀ (xs ys:List Int) (p:Int),jY (xs++ys) p=jY ys (jY xs p)
 | [],_,_=>rfl
 | c :: xs,ys,p=>JT xs ys (kX p c)
theorem L6(xs:List Int):j5 1 (xs.map D.int)=(xs.zipIdx 1).map fun p=>D.tup [.int (p.2:Int),.int p.1]:=by
 have:∀ (xs:List Int) (k:Nat),j5 k (xs.map D.int)=(xs.zipIdx k).map fun p=>D.tup [.int (p.2:Int),.int p.1]:=by
  intro xs;induction xs with
  | nil=>intro k; rfl
  | cons x xs ih=>intro k; rw [aj,List.zipIdx_cons,aj,<-ih]; rfl
 exact this xs 1
theorem QG{xs:List Int}{pre post:List (Int×Nat)}{x:Int×Nat}(h:xs.zipIdx 1=pre++x :: post):x.2=1+pre.length:=by
 have hx:(xs.zipIdx 1)[pre.length]?=some x:=by rw [h]; simp
 rw [List.getElem?_zipIdx] at hx;cases q:xs[pre.length]? with
 | none=>rw [q] at hx; cases hx
 | some y=>rw [q] at hx; simp at hx; rw [<-hx]
noncomputable def uk:iP :=
 (b7 (bJ (mr aT) (aI 2))
 (b7 (bJ (ax 1) (aI 3))
 (b7 (eB (HE (ax 0) 1) (gz (cq (aI 4) (cq (aI 5) gf))) (b7 (bJ (u5 cAbs (ar (ax 5) aT)) (aI 6))
 (gU (jo (bH (Lg false) (ax 3) (eP (ar (ax 6) (ar (bH ku (ax 6) (dC (.int 1))) aT))))) (b7 (eT (qh xT kh (ax 2) (ar (bP jb (ar (ax 4) (ar (ax 5) (ar (ax 3) aT)))) aT)))
 (bJ (Ta (jo (bH (GS false) (ax 3) (ax 6))) (bH ku (ax 6) (dC (.int 1))) (ax 6)) (aI 3))) eA)))
 (cR (d4 (eP (ar (ax 2) (ar (ax 3) aT))))))))
theorem vm(ds:List D)(G:Gp)(Q:DK)(h:iK ds G Q fun _ _=>False):uk (fun _ _=>False) (ends Q) (bA 7 ds) G:=by
 obtain⟨cs,p0,rfl,hl,q⟩:=h;unfold uk;simp only [ends,bA,aj,aW,ah,aA,bo,aG,aL,cg,bJ,mr,aT,aI,ao,ak,ax,ae,aa];refine⟨by decide,fun a ha=>?_⟩;refine eF (fun τ G'=>(∃ x y z,τ=[some (.dJ (cs.map D.int)),some (.int p0),some (.ref a),some (.int (jY cs p0)),x,y,z])/\fJ G G'/\G' a=some (.lst ((ij 1 cs p0).map enc))) ?_ ?_
 ·intro N hN;simp only [eB,HE,ax,aa,qO];rw [L6];refine dQ (xs:=cs.zipIdx 1) (fun pre τ G'=>(∃ x y z,τ=[some (.dJ (cs.map D.int)),some (.int p0),some (.ref a),some (.int (jY (pre.map (·.1)) p0)),x,y,z])/\fJ G G'/\G' a=some (.lst ((ij 1 (pre.map (·.1)) p0).map enc))) ⟨⟨_,_,_,rfl⟩,.new ha,aC⟩ (fun _ _ _ _=>trivial) ?_ ?_
  ·rintro pre ⟨c,i⟩ post τ G' N2 e ⟨⟨x,y,z,rfl⟩,l,ga⟩ jh;have ei:=QG e;simp only [gz,cq,aI,gf,ao,ak,cg,bJ,u5,ar,ax,ae,aa,aT];have ei:i=1+pre.length:=ei;have e0:(pre++[(c,i)]).map (·.1)=pre.map (·.1)++[c]:=by simp
   rw [e0] at jh;have e1:jY (pre.map (·.1)++[c]) p0=kX (jY (pre.map (·.1)) p0) c:=by rw [JT]; rfl
   have e2:ij 1 (pre.map (·.1)++[c]) p0=ij 1 (pre.map (·.1)) p0++(if jY (pre.map (·.1)) p0=ab c\/jY (pre.map (·.1)) p0=ab c+1 then [l0 (i:Int) c (jY (pre.map (·.1)) p0)] else []):=by
    rw [Km,aE,ei];simp [ij]
   rw [e1,e2] at jh;have hlen:(ij 1 (pre.map (·.1)) p0).length<=1000:=by
    have h1:=xr (pre.map (·.1)) 1 p0;have h2:=congrArg cV e;simp at h1 h2;lia
   generalize jY (pre.map (·.1)) p0=u at *;generalize ij 1 (pre.map (·.1)) p0=ps at *;rw [vd];simp only [gU,kq,eT,qh,ax,ae,aa,mT,ar,bP,aT,bJ,aI,ao,ak,iD,eA,dE,bH,eP,dC,ah,aA,ff];refine⟨by decide,QT (α:=Int) (xs:=[ab c,ab c+1]) (by decide) ?_⟩;rw [cP,if_neg dF];by_cases hm:u=ab c\/u=ab c+1
   ·rw [if_pos (decide_eq_true (by simpa using hm))];simp only [ga];refine⟨trivial,i,c,u,rfl,?_⟩;simp only [ga];refine⟨by rw [aE]; exact dI hlen (by decide),?_⟩;simp only [Ta,dE,bH,ax,dC,ae,aa];refine B6 (α:=Int) (by decide) ?_;rw [cP,if_neg dF];have gq:cT G' a (.lst (ps.map enc++[enc (l0 (i:Int) c u)])) a=some (.lst ((ps++if u=ab c\/u=ab c+1 then [l0 (i:Int) c u] else []).map enc)):=by
     rw [aC,if_pos hm,bq]; rfl
    by_cases h1:u=ab c
    ·rw [if_pos (decide_eq_true h1),ff];exact jh _ _ ⟨⟨_,_,_,by unfold kX; rw [if_pos h1]⟩,l.put ha,gq⟩
    ·rw [if_neg (by simp [h1])];exact jh _ _ ⟨⟨_,_,_,by unfold kX; rw [if_neg h1,if_pos (hm.resolve_left h1)]⟩,l.put ha,gq⟩
   ·rw [if_neg (by simpa using hm)];have es:kX u c=u:=by unfold kX; rw [if_neg (fun z=>hm (.inl z)),if_neg (fun z=>hm (.inr z))]
    rw [es] at jh;exact jh _ _ ⟨⟨_,_,_,rfl⟩,l,by rw [if_neg hm,cH]; exact ga⟩
  ·rintro τ G' ⟨⟨x,y,z,rfl⟩,l,ga⟩;rw [List.zipIdx_map_fst] at ga;exact hN _ _ ⟨⟨_,_,_,by rw [List.zipIdx_map_fst]⟩,l,ga⟩
 ·rintro _ G' ⟨⟨x,y,z,rfl⟩,l,ga⟩;simp only [cR,d4,eP,ar,ax,ae,aa,aT,ah,aA];refine⟨by decide,?_⟩;refine O7 (t:=.tup [enc (ij 1 cs p0),.int (jY cs p0)]) l ?_ q;exact .tup (.cons (.ref ga (by rw [ha]; rfl) (FD.same _)) (.cons (.same _) .nil))
end wg
namespace wg
open K2.P
theorem Jq{α:Type} [DecidableEq α] [Enc α]{neg:Bool}{x:α}{xs:List α}{a:Nat}{G:Gp}{Q:DK}(hd:Enc.dep α<=7)(h:G a=some (.lst (xs.map enc)))(q:Q (.bl (if neg then !decide (x∈xs) else decide (x∈xs))) G):Lg neg (enc x) (.ref a) G Q:=by
 unfold Lg;simp only [h];refine⟨_,_,Enc.sn G 8 x (by lia),xY G 7 hd xs,?_⟩;rw [KC]; exact q
noncomputable def Ok(n:Int)(cs:List Int):Prop:=n<=3/\cs.length<=40/\∀ c∈cs,1<=ab c/\ab c < n
noncomputable def gm:nj:=fun ds G Q _=>∃ (n:Int) (cs:List Int) (t:Int),ds=[.dJ (cs.map D.int),.int t]/\(Ok n cs/\1<=t/\t<=n)/\Q (.tup [enc (x4 (jY cs) (ij 1 cs) 4 t [] []).1,enc (x4 (jY cs) (ij 1 cs) 4 t [] []).2]) G
noncomputable def qA:iP :=
 (b7 (bJ (mr aT) (aI 2))
 (b7 (bJ (mr aT) (aI 3))
 (b7 (bJ (ax 1) (aI 4))
 (b7 (Pt (jo (bH (Lg true) (ax 4) (ax 3))) (b7 (eT (qh xT kh (ax 3) (ar (ax 4) aT)))
 (b7 (bJ (bP iK (ar (ax 0) (ar (ax 4) aT))) (aI 5))
 (b7 (eT (qh xT mZ (ax 2) (ar (bH nF (ax 5) (dC (.int 0))) aT)))
 (bJ (bH nF (ax 5) (dC (.int 1))) (aI 4))))))
 (cR (d4 (eP (ar (ax 2) (ar (ax 3) aT)))))))))
theorem rh(ds:List D)(G:Gp)(Q:DK)(h:gm ds G Q fun _ _=>False):qA (fun _ _=>False) (ends Q) (bA 6 ds) G:=by
 obtain⟨n,cs,t,rfl,⟨⟨hn,hl,hc⟩,t1,t2⟩,q⟩:=h;unfold qA;simp only [ends,bA,aj,aW,ah,aA,bo,aG,aL,cg,bJ,mr,aT,aI,ao,ak,ax,ae,aa];refine⟨by decide,fun a ha=>⟨by decide,fun b hb=>?_⟩⟩;have ER:a≠b:=fun z=>by rw [<-z,aC] at hb; cases hb
 have Yn:G b=none:=by rw [ck (da ER)] at hb; exact hb
 generalize hR:x4 (jY cs) (ij 1 cs) 4 t [] []=R at q;refine eF (fun τ G'=>(∃ u x,τ=[some (.dJ (cs.map D.int)),some (.int t),some (.ref a),some (.ref b),u,x])/\fJ G G'/\G' a=some (.lst (R.1.map enc))/\G' b=some (.lst (R.2.map enc))) ?_ ?_
 ·intro N hN;have main:∀ (k:Nat) (u:Int) (fQ:List Int) (ps:List T3) (G':Gp) (x:Option D),4<=fQ.length+k->fQ.Nodup->(∀ y∈fQ,1<=y/\y<=n)->1<=u/\u<=n->ps.length<=fQ.length * 40->x4 (jY cs) (ij 1 cs) k u fQ ps=R ->
    fJ G G'->G' a=some (.lst (ps.map enc))->G' b=some (.lst (fQ.map enc)) ->
    Gu (jo (bH (Lg true) (ax 4) (ax 3))) (b7 (eT (qh xT kh (ax 3) (ar (ax 4) aT)))
     (b7 (bJ (bP iK (ar (ax 0) (ar (ax 4) aT))) (aI 5))
     (b7 (eT (qh xT mZ (ax 2) (ar (bH nF (ax 5) (dC (.int 0))) aT)))
     (bJ (bH nF (ax 5) (dC (.int 1))) (aI 4))))) k (fun _ _=>False) { ends Q with nx:=N } [some (.dJ (cs.map D.int)),some (.int t),some (.ref a),some (.ref b),some (.int u),x] G':=by
   intro k;induction k with
   | zero =>
    intro u fQ ps G' x h1 h2 h3;have:=N8 h2 fun y hy=>⟨(h3 y hy).1,by have:=(h3 y hy).2; lia⟩;lia
   | succ k ih =>
    intro u fQ ps G' x h1 h2 h3 h4 h5 h6 l ga gb;have hl3:=N8 h2 fun y hy=>⟨(h3 y hy).1,by have:=(h3 y hy).2; lia⟩;rw [Gu];simp only [dE,bH,ax,ae,aa];refine Jq (x:=u) (xs:=fQ) (by decide) gb ?_;rw [cP,if_pos rfl];rw [x4] at h6;by_cases hm:u∈fQ
    ·rw [if_pos hm] at h6;subst h6;rw [if_neg (by simp [hm])];exact hN _ _ ⟨⟨_,_,rfl⟩,l,ga,gb⟩
    ·rw [if_neg hm] at h6;rw [if_pos (by simp [hm])];have hlen:=xr cs 1 u;have Ye:=ih (jY cs u) (fQ++[u]) (ps++ij 1 cs u) (cT (cT G' b (.lst (fQ.map enc++[.int u]))) a (.lst (ps.map enc++(ij 1 cs u).map enc))) (some (.tup [enc (ij 1 cs u),.int (jY cs u)]))
      (by rw [az]; simp; lia) (List.nodup_append.mpr ⟨h2,by simp,fun y hy z hz=>by rw [List.mem_singleton.mp hz]; exact fun e=>hm (e ▸ hy)⟩)
      (fun y hy=>(List.mem_append.mp hy).elim (h3 y) fun hy=>by rw [List.mem_singleton.mp hy]; exact h4) (Cy cs hc h4)
      (by rw [az,az]; simp; lia) h6 ((l.put Yn).put ha)
      (by rw [aC,bq]) (by rw [ck (da ER),aC,bq]; rfl)
     generalize Gu _ _ k=W at Ye ⊢;have ga2:cT G' b (.lst (fQ.map enc++[.int u])) a=some (.lst (ps.map enc)):=by rw [ck ER]; exact ga
     simp only [b7,eT,qh,ax,ae,aa,mT,gb,ar,aT,bJ,bP,aI,ao,ak,bH,dC,ends,jy,iD,true_and];refine⟨QL (by simp only [aE]; lia),cs,u,rfl,by lia,?_⟩;simp only [ga2,jK,true_and];rw [show qY [enc (ij 1 cs u),D.int (jY cs u)] 0=some (enc (ij 1 cs u)) from rfl,show qY [enc (ij 1 cs u),D.int (jY cs u)] 1=some (D.int (jY cs u)) from rfl];simp only [kA (IsL.enc _)];exact⟨M8 (by simp only [aE]; lia),Ye⟩
  have:=main 4 t [] [] (cT (cT G a (.lst [])) b (.lst [])) none (by simp) (by simp) (by simp) ⟨t1,t2⟩ (by simp) hR ((fJ.new ha).trans (.new hb)) (by rw [ck ER,aC]; rfl) (by rw [aC]; rfl);exact⟨4,this⟩
 ·rintro _ G' ⟨⟨u,x,rfl⟩,l,ga,gb⟩;simp only [cR,d4,eP,ar,ax,ae,aa,aT,ah,aA];refine⟨by decide,?_⟩;refine O7 (t:=.tup [enc R.1,enc R.2]) l ?_ q;exact .tup (.cons (.ref ga (by rw [ha]; rfl) (FD.same _)) (.cons (.ref gb (by rw [Yn]; rfl) (FD.same _)) .nil))
end wg
namespace wg
open K2.P
noncomputable def Good(n:Int)(cs:List Int):Prop:=(1<=n/\n<=3)/\cs.length<=12/\∀ c∈cs,1<=ab c/\ab c < n
noncomputable instance (n:Int) (cs:List Int):Decidable (Good n cs):=by unfold Good; exact inferInstance
noncomputable def fC:nj:=fun ds G Q _=>∃ (cs:List Int) (n:Int),ds=[.dJ (cs.map D.int),.int n]/\Good n cs/\Q .eg G
theorem Vn{ta tb tc:fx}{E:lr}{τ:hZ}{G:Gp}{x y z:Int}{Q:Bool->Gp->Prop}(ha:∀ Q,ta E τ G Q=Q (.int x) G)(hb:∀ Q,tb E τ G Q=Q (.int y) G)(hc:∀ Q,tc E τ G Q=Q (.int z) G)(q:Q (decide (x<=y)&&decide (y<=z)) G):ph Sv Sv ta tb tc E τ G Q:=by
 unfold ph;rw [ha,hb,rC];refine⟨_,rfl,?_⟩;by_cases h:x<=y
 ·rw [if_pos (decide_eq_true h),hc,rC];rw [decide_eq_true h,zC] at q;exact⟨_,rfl,q⟩
 ·rw [if_neg (by simp [h])];rw [decide_eq_false h,qf] at q;exact q
theorem Vm{ta tb tc:fx}{E:lr}{τ:hZ}{G:Gp}{x y z:Int}{Q:Bool->Gp->Prop}(ha:∀ Q,ta E τ G Q=Q (.int x) G)(hb:∀ Q,tb E τ G Q=Q (.int y) G)(hc:∀ Q,tc E τ G Q=Q (.int z) G)(q:Q (decide (x<=y)&&decide (y < z)) G):ph Sv T5 ta tb tc E τ G Q:=by
 unfold ph;rw [ha,hb,rC];refine⟨_,rfl,?_⟩;by_cases h:x<=y
 ·rw [if_pos (decide_eq_true h),hc,rB];rw [decide_eq_true h,zC] at q;exact⟨_,rfl,q⟩
 ·rw [if_neg (by simp [h])];rw [decide_eq_false h,qf] at q;exact q
noncomputable def lZ:iP :=
 (b7 (gU (qW (ph Sv Sv (dC (.int 1)) (ax 1) (dC (.int 3)))) y0 eA)
 (b7 (gU (jo (bH T7 (u5 Df (ar (ax 0) aT)) (dC (.int 12)))) y0 eA)
 (eB (si (ax 0)) (aI 2) (gU (qW (ph Sv T5 (dC (.int 1)) (u5 cAbs (ar (ax 2) aT)) (ax 1))) y0 eA))))
theorem mx(ds:List D)(G:Gp)(Q:DK)(h:fC ds G Q fun _ _=>False):lZ (fun _ _=>False) (ends Q) (bA 3 ds) G:=by
 obtain⟨cs,n,rfl,⟨hn,hk,hc⟩,q⟩:=h;unfold lZ;refine eF (fun τ G'=>G=G'/\τ=[some (.dJ (cs.map D.int)),some (.int n),none]) ?_ ?_
 ·intro N hN;unfold gU qW;refine Vn (fun _=>rfl) (fun _=>rfl) (fun _=>rfl) ?_;have e:(!(decide (1<=n)&&decide (n<=3)))=false:=by simp [hn.1,hn.2]
  rw [e];exact hN _ _ ⟨rfl,rfl⟩
 ·rintro _ _ ⟨rfl,rfl⟩;refine eF (fun τ G'=>G=G'/\τ=[some (.dJ (cs.map D.int)),some (.int n),none]) ?_ ?_
  ·intro N hN;simp only [gU,ends,eA,dE,bH,u5,ar,ax,aa,aT,dC,qX,rD,cP];rw [if_neg (by simp; lia)];exact hN _ _ ⟨rfl,rfl⟩
  ·rintro _ _ ⟨rfl,rfl⟩;simp only [eB,ends,gR,ax,aa,xp];refine dQ (xs:=cs) (fun pre τ G'=>G=G'/\∃ x,τ=[some (.dJ (cs.map D.int)),some (.int n),x]) ⟨rfl,_,rfl⟩ (fun _ _ _ _=>trivial) ?_ ?_
   ·rintro pre c post τ G' N2 e ⟨rfl,x,rfl⟩ jh;simp only [aI,ao,ak];unfold gU qW;refine Vm (x:=1) (y:=ab c) (z:=n) (fun _=>rfl) (fun _=>rfl) (fun _=>rfl) ?_;have h:=hc c (by rw [e]; simp);have e:(!(decide (1<=ab c)&&decide (ab c < n)))=false:=by simp [h.1,h.2]
    rw [e];exact jh _ _ ⟨rfl,_,rfl⟩
   ·rintro τ G' ⟨rfl,x,rfl⟩;exact q
end wg
namespace wg
open K2.P
noncomputable def qN:List T3->T3
 | []=>⟨0,0,0⟩
 | a :: r=>r.foldl (fun m x=>if bb.lt x m=true then x else m) a
theorem EH{r:List T3}(h:r≠[]):qN r∈r:=by
 cases r with
 | nil=>exact absurd rfl h
 | cons a r=>exact(jm r a).1
theorem Ry{r:List T3}{y:T3}(hy:y∈r):FO (qN r) y=true:=by
 cases r with
 | nil=>cases hy
 | cons a r=>exact(jm r a).2 y hy
noncomputable def kY(r:List T3):List T3:=r.drop (r.idxOf (qN r))++r.take (r.idxOf (qN r))
theorem PO{x:D}{G:Gp}{r:List T3}{Q:DK}(hi:itemsOf x G=some (r.map enc))(qP:r≠[])(q:Q (enc (qN r)) G):PQ [x] G Q :=
 Dx.mn hi qP fun m hm hl=>by
  have:m=qN r:=Oq _ _ (hl _ (EH qP)) (Ry hm);rw [this]; exact q
theorem Hn{x:D}{G:Gp}{r:List T3}{Q:DK}(ht:xT x G)(hi:itemsOf x G=some (r.map enc))(qP:r≠[])(q:Q (.int ((r.idxOf (qN r):Nat):Int)) G):Cs x [enc (qN r)] G Q:=by
 refine⟨ht,r.map enc,enc (qN r),r.map enc,hi,Enc.sn G 8 _ (by decide),xY G 7 (by decide) r,?_⟩;have e:(r.map enc).findIdx? (ig · (enc (qN r)))=some (r.idxOf (qN r)):=by
  have hf:(fun y:T3=>ig (enc y) (enc (qN r)))=fun y=>y == qN r:=by
   funext y;rw [Enc.eqv];by_cases h:y=qN r <;> simp [h]
  rw [List.findIdx?_map];show List.findIdx? (fun y=>ig (enc y) (enc (qN r))) r=_;rw [hf];have hm:=EH qP;rw [List.idxOf];rw [List.findIdx?_eq_some_iff_findIdx_eq];exact⟨List.findIdx_lt_length.mpr ⟨_,hm,by simp⟩,rfl⟩
 rw [e]; exact q
noncomputable def nV:nj:=fun ds G Q _=>∃ r:List T3,ds=[enc r]/\r.length<=1000/\Q (enc (kY r)) G
noncomputable def AI:iP :=
 (b7 (gU (qW (jo (ax 0))) (cR (d4 (mr aT))) eA)
 (b7 (bJ (qh xT Cs (ax 0) (ar (u5 PQ (ar (ax 0) aT)) aT)) (aI 1))
 (cR (d4 (bH ku (Ii (ax 0) (sM (ax 1)) iO) (Ii (ax 0) iO (sM (ax 1))))))))
theorem BB(ds:List D)(G:Gp)(Q:DK)(h:nV ds G Q fun _ _=>False):AI (fun _ _=>False) (ends Q) (bA 2 ds) G:=by
 obtain⟨r,rfl,hl,q⟩:=h;unfold AI;refine eF (fun τ G'=>G=G'/\r≠[]/\τ=[some (enc r),none]) ?_ ?_
 ·intro N hN;simp only [gU,qW,bA,aj,aW,ah,aA,bo,aG,aL,cR,d4,mr,aT,ends,eA,dE,ax,aa];cases r with
  | nil=>exact⟨by decide,fun p hp=>tH (xs:=([]:List T3)) (.new hp) hp aC q⟩
  | cons a t=>exact hN _ _ ⟨rfl,by simp,rfl⟩
 ·rintro _ _ ⟨rfl,qP,rfl⟩;simp only [ends,cg,bJ,qh,ax,aa,ar,u5,aT,aI,cR,d4,bH,Ii,ao,ak,iO,mj,ae];refine⟨trivial,PO rfl qP (Hn trivial rfl qP ?_)⟩;generalize hk:r.idxOf (qN r)=k;have ZZ:k<=r.length:=by rw [<-hk]; exact List.idxOf_le_length
  rw [show (enc r:D)=.dJ (r.map enc) from rfl];simp only [GY,um];rw [pj,Fb r k ZZ];intro p hp;rw [pj,PB r k ZZ];intro p2 nK;have ZV:p≠p2:=fun z=>by rw [<-z,aC] at nK; cases nK
  have g1:cT (cT G p (.lst ((r.drop k).map enc))) p2 (.lst ((r.take k).map enc)) p=some (.lst ((r.drop k).map enc)):=by rw [ck ZV,aC]
  have gl:fJ G (cT (cT G p (.lst ((r.drop k).map enc))) p2 (.lst ((r.take k).map enc))):=(fJ.new hp).trans (.new nK);show Ds _ _ _ _;unfold Ds;rw [kA (IsL.ref (ds:=(r.drop k).map enc) g1),kA (IsL.ref (ds:=(r.take k).map enc) aC)];refine⟨M8 (by simp; lia),fun p3 hp3=>?_⟩;refine tH (xs:=kY r) (gl.trans (.new hp3)) (gl.free hp3) ?_ q;rw [aC];unfold kY;rw [hk,bq]
noncomputable def gu:nj:=fun ds G Q _=>∃ (d:D) (rows:List (List T3)),ds=[d]/\IsL G d (rows.map enc)/\(rows.length<=1000/\∀ r∈rows,r.length<=1000)/\Q (enc (rows.map kY)) G
noncomputable def qB:iP :=
 (cR (d4 (jz 1 [] (si (ax 0)) (aI 0) none (bP nV (ar (ax 0) aT)))))
theorem rj(ds:List D)(G:Gp)(Q:DK)(h:gu ds G Q fun _ _=>False):qB (fun _ _=>False) (ends Q) (bA 1 ds) G:=by
 obtain⟨d,rows,rfl,hd,⟨hl,hr⟩,q⟩:=h;unfold qB;simp only [cR,d4,jz,bA,aj,aW,ah,aA,aG,aL,ends,gR,ax,aa];refine UT hd fun ok cp=>⟨M8 (by rw [aE]; exact hl),?_⟩;refine oC (xs:=rows) (fun pre acc τ G'=>G=G'/\acc=(pre.map kY).map enc/\∃ x,τ=[x]) ⟨rfl,rfl,_,rfl⟩ (fun _ _ _ _ h=>by rw [<-h.1]; exact cp _ (.refl _)) ?_ ?_
 ·rintro pre r post acc τ G' N e ⟨rfl,rfl,x,rfl⟩ hN;simp only [aI,bP,ar,ax,ak,aa,aT];refine⟨r,rfl,hr r (by rw [e]; simp),hN _ _ _ ⟨rfl,by simp,_,rfl⟩⟩
 ·rintro acc τ G' ⟨rfl,rfl,x,rfl⟩ p hp;exact tH (xs:=rows.map kY) (.new hp) hp aC q
end wg
namespace wg
open K2.P
section
variable {α:Type} {f:Int->Int} {r:Int->List α}
noncomputable def cst(f:Int->Int)(r:Int->List α)(s:List (List α)×List Int)(t:Int):List (List α)×List Int :=
 if t∈s.2 then s else (s.1++[(x4 f r 4 t [] []).1],s.2++(x4 f r 4 t [] []).2)
theorem y8:∀ (ts:List Int) (rows:List (List α)) (met:List Int),cls f r ts rows met=(ts.foldl (cst f r) (rows,met)).1
 | [],_,_=>rfl
 | t :: ts,rows,met=>by
  rw [cls,bY];unfold cst;by_cases h:t∈met
  ·rw [if_pos h,if_pos h]; exact y8 ts rows met
  ·rw [if_neg h,if_neg h]; exact y8 ts _ _
theorem B1{b:Nat}(hr:∀ p,(r p).length<=b):∀ (k:Nat) (p:Int) (fQ:List Int) (ps:List α),(x4 f r k p fQ ps).1.length<=ps.length+k * b/\(x4 f r k p fQ ps).2.length<=fQ.length+k
 | 0,_,_,_=>by simp [x4]
 | k+1,p,fQ,ps=>by
  rw [x4];split
  ·exact⟨j3 _ _,j3 _ _⟩
  ·obtain⟨h1,h2⟩:=B1 hr k (f p) (fQ++[p]) (ps++r p);have:=hr p;rw [az] at h1 h2;rw [Qy];simp at h2;lia
theorem Kt{b:Nat}(hr:∀ p,(r p).length<=b):∀ (ts:List Int),(ts.foldl (cst f r) ([],[])).1.length<=ts.length/\(ts.foldl (cst f r) ([],[])).2.length<=ts.length * 4/\∀ row∈(ts.foldl (cst f r) ([],[])).1,row.length<=4 * b:=by
 intro ts;have main:∀ (ts:List Int) (s:List (List α)×List Int),(∀ row∈s.1,row.length<=4 * b)->(ts.foldl (cst f r) s).1.length<=s.1.length+ts.length/\(ts.foldl (cst f r) s).2.length<=s.2.length+ts.length * 4/\∀ row∈(ts.foldl (cst f r) s).1,row.length<=4 * b:=by
  intro ts;induction ts with
  | nil=>intro s h; simpa using h
  | cons t ts ih =>
   intro s h;rw [bY];obtain⟨l1,l2⟩:=B1 (f:=f) hr 4 t [] [];have hs:∀ row∈(cst f r s t).1,row.length<=4 * b:=by
    unfold cst;split
    ·exact h
    ·intro row hm;rcases List.mem_append.mp hm with hm | hm
     ·exact h row hm
     ·rw [List.mem_singleton.mp hm]; simpa using l1
   obtain⟨h1,h2,h3⟩:=ih (cst f r s t) hs;have a1:(cst f r s t).1.length<=s.1.length+1/\(cst f r s t).2.length<=s.2.length+4:=by
    unfold cst;split
    ·lia
    ·simp; simpa using l2
   refine⟨?_,?_,h3⟩ <;> simp only [ah] <;> lia
 simpa using main ts ([],[]) (by simp)
end
noncomputable def fQ(n:Int):List Int:=(dR n.toNat).map fun (i:Nat)=>1+(i:Int)
noncomputable def mH(n:Int)(cs:List Int):List (List T3):=(cls (jY cs) (ij 1 cs) (fQ n) [] []).map kY
noncomputable def lA:nj:=fun ds G Q _=>∃ (cs:List Int) (n:Int),ds=[.dJ (cs.map D.int),.int n]/\Good n cs/\Q (enc (mH n cs)) G
theorem NF{x y:D}{G:Gp}{Q:DK}:nF (.tup [x,y]) (.int 0) G Q=Q x G:=rfl
theorem NC{x y:D}{G:Gp}{Q:DK}:nF (.tup [x,y]) (.int 1) G Q=Q y G:=rfl
theorem PG{E:lr}{K:nu}{cs:List Int}{n:Int}{a b:Nat}{G:Gp}(g:Good n cs)(ha:G a=none)(hb:cT G a (GO.lst []) b=none)(q:K.rt (enc (mH n cs)) G) :
  b7
  (eB (J4 (dC (D.int 1)) (bH ku (ax 1) (dC (D.int 1)))) (aI 4)
   (gU (jo (bH (Lg true) (ax 4) (ax 3)))
    (b7 (bJ (bP gm (ar (ax 0) (ar (ax 4) aT))) (aI 5))
     (b7 (eT (qh xT kh (ax 2) (ar (bH nF (ax 5) (dC (D.int 0))) aT)))
      (eT (qh xT mZ (ax 3) (ar (bH nF (ax 5) (dC (D.int 1))) aT)))))
    eA))
  (cR (d4 (bP gu (ar (ax 2) aT)))) E K
  [some (D.dJ (List.map D.int cs)),some (D.int n),some (D.ref a),some (D.ref b),none,none]
  (cT (cT G a (GO.lst [])) b (GO.lst [])):=by
 obtain⟨⟨n1,n2⟩,hl,hc⟩:=id g;have ER:a≠b:=fun z=>by rw [<-z,aC] at hb; cases hb
 have Yn:G b=none:=by rw [ck (da ER)] at hb; exact hb
 have hdw:∀ p,(ij 1 cs p).length<=12:=fun p=>bc (xr cs 1 p) hl;refine eF (fun τ G'=>(∃ x y,τ=[some (D.dJ (List.map D.int cs)),some (D.int n),some (D.ref a),some (D.ref b),x,y])/\fJ G G'/\G' a=some (.lst (((fQ n).foldl (cst (jY cs) (ij 1 cs)) ([],[])).1.map enc))) ?_ ?_
 ·intro N hN;simp only [eB,J4,dC,bH,ax,ae,aa,ff];refine⟨by lia,?_⟩;unfold fL;rw [show (n+1 - 1).toNat=n.toNat by congr 1; lia];refine dQ (xs:=dR n.toNat) (fun pre τ G'=>(∃ x y,τ=[some (D.dJ (List.map D.int cs)),some (D.int n),some (D.ref a),some (D.ref b),x,y])/\fJ G G'/\G' a=some (.lst (((pre.map fun (i:Nat)=>1+(i:Int)).foldl (cst (jY cs) (ij 1 cs)) ([],[])).1.map enc))/\G' b=some (.lst (((pre.map fun (i:Nat)=>1+(i:Int)).foldl (cst (jY cs) (ij 1 cs)) ([],[])).2.map enc)))
   ⟨⟨_,_,rfl⟩,(fJ.new ha).trans (.new hb),by rw [ck ER,aC]; rfl,by rw [aC]; rfl⟩ (fun _ _ _ _=>trivial) ?_ ?_
  ·rintro pre i post τ G' N2 e ⟨⟨x,y,rfl⟩,l,ga,gb⟩ jh;have hi:(i:Int) < n:=by
    have:i∈dR n.toNat:=by rw [e]; simp
    have:=List.mem_range.mp this;lia
   have A8:pre.length<=3:=by
    have:=congrArg cV e;simp at this;lia
   rw [bq,fO] at jh;obtain⟨c1,c2,_⟩:=Kt (f:=jY cs) hdw (pre.map fun (i:Nat)=>1+(i:Int));rw [aE] at c1 c2;generalize (pre.map fun (i:Nat)=>1+(i:Int)).foldl (cst (jY cs) (ij 1 cs)) ([],[])=st at *;obtain⟨rs,mt⟩:=st;dsimp only at ga gb c1 c2;simp only [aI,gU,ao,ak,cg,bJ,bP,ar,ax,aa,ae,aT,kq,eT,qh,mT,bH,dC,jy,iD,eA,dE];refine Jq (x:=(1+(i:Int))) (xs:=mt) (by decide) gb ?_;rw [cP,if_pos rfl];simp only [aj,aW,bY,List.foldl_nil] at jh;unfold cst at jh;by_cases hm:(1+(i:Int))∈mt
   ·rw [if_neg (by simp [hm])];rw [if_pos hm] at jh;exact jh _ _ ⟨⟨_,_,rfl⟩,l,ga,gb⟩
   ·rw [if_pos (by simp [hm])];rw [if_neg hm] at jh;obtain⟨l1,l2⟩:=B1 (f:=jY cs) hdw 4 (1+(i:Int)) [] [];refine⟨n,cs,1+(i:Int),rfl,⟨⟨n2,by lia,hc⟩,by lia,by lia⟩,?_⟩;generalize x4 (jY cs) (ij 1 cs) 4 (1+(i:Int)) [] []=R at *;have gb2:cT G' a (.lst (rs.map enc++[enc R.1])) b=some (.lst (mt.map enc)):=by rw [ck (da ER)]; exact gb
    simp only [ga];refine⟨trivial,?_⟩;rw [NF];simp only [ga,gb2];refine⟨QL (by rw [aE]; lia),trivial,?_⟩;rw [NC];simp only [gb2,kA (IsL.enc _)];simp only [aA] at l2;refine⟨M8 (by simp only [aE]; lia),jh _ _ ⟨⟨_,_,rfl⟩,(l.put ha).put Yn,?_,?_⟩⟩
    ·rw [ck ER,aC,bq]; rfl
    ·rw [aC,bq]
  ·rintro τ G' ⟨⟨x,y,rfl⟩,l,ga,gb⟩;exact hN _ _ ⟨⟨_,_,rfl⟩,l,ga⟩
 ·rintro _ G' ⟨⟨x,y,rfl⟩,l,ga⟩;simp only [cR,d4,bP,ar,ax,ae,aa,aT];obtain⟨c1,c2,c3⟩:=Kt (f:=jY cs) hdw (fQ n);have ht:(fQ n).length<=3:=by unfold fQ; simp; lia
  refine⟨.ref a,_,rfl,IsL.ref ga,⟨by lia,fun r hr=>by have:=c3 r hr; lia⟩,?_⟩;refine CK l ?_;unfold mH at q;rw [y8] at q;exact q
noncomputable def AM:iP :=
 (b7 (eT (bP fC (ar (ax 0) (ar (ax 1) aT))))
 (b7 (bJ (mr aT) (aI 2))
 (b7 (bJ (mr aT) (aI 3))
 (b7 (eB (J4 (dC (.int 1)) (bH ku (ax 1) (dC (.int 1)))) (aI 4) (gU (jo (bH (Lg true) (ax 4) (ax 3))) (b7 (bJ (bP gm (ar (ax 0) (ar (ax 4) aT))) (aI 5))
 (b7 (eT (qh xT kh (ax 2) (ar (bH nF (ax 5) (dC (.int 0))) aT)))
 (eT (qh xT mZ (ax 3) (ar (bH nF (ax 5) (dC (.int 1))) aT))))) eA))
 (cR (d4 (bP gu (ar (ax 2) aT))))))))
theorem BE(ds:List D)(G:Gp)(Q:DK)(h:lA ds G Q fun _ _=>False):AM (fun _ _=>False) (ends Q) (bA 6 ds) G:=by
 obtain⟨cs,n,rfl,g,q⟩:=h;obtain⟨⟨n1,n2⟩,hl,hc⟩:=id g;unfold AM;simp only [ends,bA,aj,aW,ah,aA,bo,aG,aL,kq,eT,bP,ar,ax,aa,ae,aT,cg,bJ,mr,aI,ao,ak];refine⟨cs,n,rfl,g,⟨by decide,fun a ha=>⟨by decide,fun b hb=>?_⟩⟩⟩;exact PG g ha hb q
end wg
namespace zr
open K2.P
variable {rows:Rows}
noncomputable def tp(p:T3):T3:=⟨p.a,p.b,-p.c⟩
end zr
namespace MK
open K2.P K2.wg K2.zr
noncomputable def EB(cs:List Int)(k:Int):Int:=cs.getD (k.toNat - 1) 0
noncomputable def FT(cs:List Int)(q:T3):Int:=if fst q=true then ab (EB cs q.a)+1 else ab (EB cs q.a)
noncomputable def xa(cs:List Int)(q:T3):Int:=if fst q=true then ab (EB cs q.a) else ab (EB cs q.a)+1
theorem Hq{cs pre post:List Int}{c:Int}(h:cs=pre++c :: post):EB cs (pre.length+1)=c:=by
 unfold EB;rw [show ((pre.length:Int)+1).toNat - 1=pre.length by lia,h];simp
noncomputable def tV(W:Int->Bool)(q:T3):T3:=if W q.a=true then ⟨q.a,1 - q.b,-q.c⟩ else q
theorem Je(W:Int->Bool)(q:T3):(tV W q).a=q.a:=by unfold tV; split <;> rfl
noncomputable def XR(q:T3):Prop:=(q.b=0\/q.b=1)/\(q.c=1\/q.c=-1)
theorem Jd(W:Int->Bool){q:T3}(h:XR q):fst (tV W q)=fst q:=by
 obtain⟨h1,h2⟩:=h;unfold tV;split
 ·unfold fst;rcases h1 with e | e <;> rcases h2 with f | f <;> simp [e,f]
 ·rfl
theorem GF(W:Int->Bool){q:T3}(h:XR q):XR (tV W q):=by
 obtain⟨h1,h2⟩:=h;unfold tV;split
 ·exact⟨by dsimp only; lia,by dsimp only; lia⟩
 ·exact⟨h1,h2⟩
theorem yh(n c p:Int):XR (l0 n c p):=by
 unfold XR l0;dsimp only;constructor
 ·split <;> simp
 ·split <;> simp
theorem B7{n c p:Int}(hp:p=ab c\/p=ab c+1):fst (l0 n c p)=decide (p=ab c+1):=by
 unfold fst l0;dsimp only;by_cases h:p=ab c+1
 ·by_cases g:c > 0
  ·simp [h,g]
  ·simp [h,g]
 ·by_cases g:c > 0
  ·simp [h,g]
  ·simp [h,g]
noncomputable def Mb(f:Int->Int)(t:Int):Int->List Int->Prop
 | x,[]=>f x=t
 | x,y :: g=>f x=y/\Mb f t y g
noncomputable def u7(f:Int->Int):List Int->Prop
 | []=>False
 | t :: g=>Mb f t t g
theorem XB{f:Int->Int}(r:Int->List T3){n:Int}(hn:1<=n/\n<=3)(hf:∀ p,1<=p/\p<=n->1<=f p/\f p<=n)(inj:∀ p q,f p=f q->p=q) :
  ∃ gs:List (List Int),cls f r (fQ n) [] []=gs.map (fun g=>g.flatMap r)/\(∀ g∈gs,u7 f g)/\gs.flatten.Perm (fQ n):=by
 have ne:∀ p q,p≠q->f p≠f q:=fun p q h e=>h (inj p q e);have O4:n=1\/n=2\/n=3:=by lia
 rcases O4 with rfl | rfl | rfl
 ·have a1:f 1=1:=by have:=hf 1 (by lia); lia
  refine⟨[[1]],?_,?_,.refl _⟩
  ·show cls f r [1] [] []=_;simp [cls,x4,a1]
  ·simp [u7,Mb,a1]
 ·have i1:=hf 1 (by lia);have i2:=hf 2 (by lia);have Uy:=ne 1 2 (by lia);have a1:f 1=1\/f 1=2:=by lia
  rcases a1 with a1 | a1
  ·have a2:f 2=2:=by lia
   refine⟨[[1],[2]],?_,?_,.refl _⟩
   ·show cls f r [1,2] [] []=_;simp [cls,x4,a1,a2]
   ·simp [u7,Mb,a1,a2]
  ·have a2:f 2=1:=by lia
   refine⟨[[1,2]],?_,?_,.refl _⟩
   ·show cls f r [1,2] [] []=_;simp [cls,x4,a1,a2]
   ·simp [u7,Mb,a1,a2]
 ·have i1:=hf 1 (by lia);have i2:=hf 2 (by lia);have i3:=hf 3 (by lia);have Uy:=ne 1 2 (by lia);have Zl:=ne 1 3 (by lia);have Zk:=ne 2 3 (by lia);have go:∀ gs:List (List Int),cls f r [1,2,3] [] []=gs.map (fun g=>g.flatMap r)->(∀ g∈gs,u7 f g)->gs.flatten.Perm [1,2,3]->∃ gs:List (List Int),cls f r (fQ 3) [] []=gs.map (fun g=>g.flatMap r)/\(∀ g∈gs,u7 f g)/\gs.flatten.Perm (fQ 3):=fun gs h1 h2 h3=>⟨gs,h1,h2,h3⟩;have ex:∀ x y z w:Int,(x=y\/x=z\/x=w)->x≠w->x=y\/x=z:=fun x y z w h n=>h.elim .inl fun h=>h.elim .inr fun h=>absurd h n;have a1:f 1=1\/f 1=2\/f 1=3:=by lia
  have a2:f 2=1\/f 2=2\/f 2=3:=by lia
  have a3:f 3=1\/f 3=2\/f 3=3:=by lia
  rcases a1 with a1 | a1 | a1
  ·rw [a1] at Uy Zl;rcases ex _ 3 2 1 (a2.elim (fun h=>.inr (.inr h)) fun h=>h.elim (fun h=>.inr (.inl h)) .inl) (da Uy) with a2 | a2 <;> rw [a2] at Zk
   ·have a3:f 3=2:=by clear hn hf i1 i2 i3; lia
    refine go [[1],[2,3]] ?_ ?_ (by decide) <;> simp [cls,x4,u7,Mb,a1,a2,a3]
   ·have a3:f 3=3:=by clear hn hf i1 i2 i3; lia
    refine go [[1],[2],[3]] ?_ ?_ (by decide) <;> simp [cls,x4,u7,Mb,a1,a2,a3]
  ·rw [a1] at Uy Zl;rcases ex _ 1 3 2 (a2.elim .inl fun h=>h.elim (fun h=>.inr (.inr h)) fun h=>.inr (.inl h)) (da Uy) with a2 | a2 <;> rw [a2] at Zk
   ·have a3:f 3=3:=by clear hn hf i1 i2 i3; lia
    refine go [[1,2],[3]] ?_ ?_ (by decide) <;> simp [cls,x4,u7,Mb,a1,a2,a3]
   ·have a3:f 3=1:=by clear hn hf i1 i2 i3; lia
    refine go [[1,2,3]] ?_ ?_ (by decide) <;> simp [cls,x4,u7,Mb,a1,a2,a3]
  ·rw [a1] at Uy Zl;rcases ex _ 1 2 3 a2 (da Uy) with a2 | a2 <;> rw [a2] at Zk
   ·have a3:f 3=2:=by clear hn hf i1 i2 i3; lia
    refine go [[1,3,2]] ?_ ?_ (by decide) <;> simp [cls,x4,u7,Mb,a1,a2,a3]
   ·have a3:f 3=1:=by clear hn hf i1 i2 i3; lia
    refine go [[1,3],[2]] ?_ ?_ (by decide) <;> simp [cls,x4,u7,Mb,a1,a2,a3]
end MK
namespace MK
open K2.P K2.wg K2.zr
variable {cs:List Int} {n:Int} {W:Int->Bool}
noncomputable def Qu(W:Int->Bool)(n:Int)(cs:List Int):Rows:=(mH n cs).map fun r=>r.map (tV W)
noncomputable def LM(p c:Int):Prop:=p=ab c\/p=ab c+1
theorem xl{x:T3}:∀ (cs:List Int) (k t:Int),x∈ij k cs t↔∃ pre c post,cs=pre++c :: post/\LM (jY pre t) c/\x=l0 (k+pre.length) c (jY pre t):=by
 intro cs;induction cs with
 | nil =>
  intro k t;constructor
  ·intro h; cases h
  ·rintro⟨pre,c,post,e,_⟩; cases pre <;> cases e
 | cons c cs ih =>
  intro k t;rw [ij,List.mem_append,ih];constructor
  ·rintro(h | ⟨pre,d,post,e,hi,rfl⟩)
   ·split at h
    ·rename_i hi;rw [List.mem_singleton.mp h];exact⟨[],c,cs,rfl,hi,by simp [jY]⟩
    ·cases h
   ·refine⟨c :: pre,d,post,by rw [e]; rfl,hi,?_⟩;show l0 _ _ (jY pre (kX t c))=l0 _ _ (jY pre (kX t c));rw [ah];congr 1;lia
  ·rintro⟨pre,d,post,e,hi,rfl⟩;cases pre with
   | nil =>
    injection e with e1 e2
    subst e1 e2;left;rw [if_pos (show t=ab c\/t=ab c+1 from hi)];simp [jY]
   | cons y pre =>
    injection e with e1 e2
    subst e1 e2;right;refine⟨pre,d,post,rfl,hi,?_⟩;show l0 _ _ (jY pre (kX t c))=l0 _ _ (jY pre (kX t c));rw [ah];congr 1;lia
theorem Ph:∀ (cs:List Int) (k t:Int),(ij k cs t).Pairwise (fun x y=>x.a < y.a)/\∀ x∈ij k cs t,k<=x.a
 | [],_,_=>⟨.nil,by simp [ij]⟩
 | c :: cs,k,t=>by
  obtain⟨h1,h2⟩:=Ph cs (k+1) (kX t c);rw [ij];split
  ·refine⟨?_,fun x hx=>?_⟩
   ·rw [Qg,zA];exact⟨fun y hy=>by have:=h2 y hy; show k < y.a; lia,h1⟩
   ·rw [Qg] at hx;rcases List.mem_cons.mp hx with rfl | hx
    ·exact lP _
    ·have:=h2 x hx; lia
  ·rw [aL];exact⟨h1,fun x hx=>by have:=h2 x hx; lia⟩
theorem QM(c p:Int):kX (kX p c) c=p:=by
 unfold kX;by_cases h1:p=ab c
 ·rw [if_pos h1,if_neg (by lia),if_pos rfl]; exact h1.symm
 ·by_cases h2:p=ab c+1
  ·rw [if_neg h1,if_pos h2,if_pos rfl]; exact h2.symm
  ·rw [if_neg h1,if_neg h2,if_neg h1,if_neg h2]
theorem EI(hc:∀ c∈cs,1<=ab c/\ab c < n):∀ (pre:List Int),(∀ c∈pre,c∈cs)->∀ y,1<=y/\y<=n->∃ t,(1<=t/\t<=n)/\jY pre t=y
 | [],_,y,hy=>⟨y,hy,rfl⟩
 | c :: pre,h,y,hy=>by
  obtain⟨t,ht,e⟩:=EI hc pre (fun x hx=>h x (au _ hx)) y hy;have:=hc c (h c (by simp));refine⟨kX t c,GG this.1 this.2 ht,?_⟩;show jY pre (kX (kX t c) c)=y;rw [QM]; exact e
theorem DT{t:Int}:t∈fQ n↔1<=t/\t<=n:=by
 unfold fQ;rw [BK];constructor
 ·rintro⟨i,hi,rfl⟩;have:=List.mem_range.mp hi;lia
 ·intro h;exact⟨(t - 1).toNat,List.mem_range.mpr (by lia),by lia⟩
theorem Ja(n:Int):(fQ n).Nodup:=by
 unfold fQ List.Nodup;rw [lz];exact List.nodup_range.imp fun {a b} h z=>h (by lia)
theorem Dk(W:Int->Bool)(g:Good n cs):∃ gs:List (List Int),Qu W n cs=gs.map (fun g=>(kY (g.flatMap (ij 1 cs))).map (tV W))/\(∀ g∈gs,u7 (jY cs) g)/\gs.flatten.Perm (fQ n):=by
 obtain⟨h1,hl,hc⟩:=g;obtain⟨gs,e,h2,h3⟩:=XB (f:=jY cs) (ij 1 cs) h1 (fun p hp=>Cy cs hc hp) (fun p q h=>Cw cs h);refine⟨gs,?_,h2,h3⟩;unfold Qu mH;rw [e,bC,bC]; rfl
theorem AH(r:List T3):(kY r).Perm r:=by
 unfold kY;exact List.perm_append_comm.trans (by rw [mB])
theorem Fi(W:Int->Bool)(g:Good n cs):(Qu W n cs).flatten.Perm (((fQ n).flatMap (ij 1 cs)).map (tV W)):=by
 obtain⟨gs,e,_,h3⟩:=Dk W g;rw [e];have:∀ gs:List (List Int),(gs.map (fun g=>(kY (g.flatMap (ij 1 cs))).map (tV W))).flatten.Perm ((gs.flatten.flatMap (ij 1 cs)).map (tV W)):=by
  intro gs;induction gs with
  | nil=>exact .refl _
  | cons a gs ih =>
   rw [aj,dW,dW,List.flatMap_append,bq];exact((AH _).map _).append ih
 exact(this gs).trans ((h3.flatMap_right _).map _)
theorem pC(W:Int->Bool)(g:Good n cs){q:T3}:q∈(Qu W n cs).flatten↔∃ pre c post p,cs=pre++c :: post/\(1<=p/\p<=n)/\LM p c/\q=tV W (l0 (1+pre.length) c p):=by
 obtain⟨h1,hl,hc⟩:=id g;rw [(Fi W g).mem_iff,BK];constructor
 ·rintro⟨x,hx,rfl⟩;obtain⟨t,ht,hx⟩:=List.mem_flatMap.mp hx;obtain⟨pre,c,post,e,hi,rfl⟩:=(xl cs 1 t).mp hx;exact⟨pre,c,post,_,e,Cy pre (fun c h=>hc c (by rw [e]; exact bB _ h)) (DT.mp ht),hi,rfl⟩
 ·rintro⟨pre,c,post,p,e,hp,hi,rfl⟩;obtain⟨t,ht,et⟩:=EI hc pre (fun c h=>by rw [e]; exact bB _ h) p hp;exact⟨_,List.mem_flatMap.mpr ⟨t,DT.mpr ht,(xl cs 1 t).mpr ⟨pre,c,post,e,by rw [et]; exact hi,by rw [et]⟩⟩,rfl⟩
theorem NM{pre vM post Ea:List Int}{c c':Int}(e:cs=pre++c :: post)(e':cs=vM++c' :: Ea)(h:pre.length=vM.length):pre=vM/\c=c':=by
 rw [e] at e';obtain⟨h1,h2⟩:=List.append_inj e' h;injection h2 with h3 _
 exact⟨h1,h3⟩
theorem V7(W:Int->Bool){x y:T3}(ha:x.a=y.a)(hc:x.c=y.c):(tV W x).c=(tV W y).c:=by
 unfold tV;rw [ha];split
 ·show -x.c=-y.c; rw [hc]
 ·exact hc
theorem Nj{pre vM post Ea:List Int}{c c' p p':Int}(e:cs=pre++c :: post)(e':cs=vM++c' :: Ea)(hi:LM p c)(HI:LM p' c')(h:(tV W (l0 (1+pre.length) c p)).s=(tV W (l0 (1+vM.length) c' p')).s):pre=vM/\c=c'/\p=p':=by
 have ha:=congrArg T2.a h;have hb:=congrArg T2.b h;simp only [T3.s] at ha hb;have hl:pre.length=vM.length:=by
  rw [Je,Je] at ha;have:(1:Int)+pre.length=1+vM.length:=ha;lia
 obtain⟨e1,e2⟩:=NM e e' hl;subst e1 e2;refine⟨rfl,rfl,?_⟩;have Qs:(tV W (l0 (1+pre.length) c p)).c=(tV W (l0 (1+pre.length) c p')).c:=V7 W rfl rfl;have hf:fst (l0 (1+pre.length) c p)=fst (l0 (1+pre.length) c p'):=by
  rw [<-Jd W (yh ..),<-Jd W (yh ..)];unfold fst;rw [hb,Qs]
 rw [B7 hi,B7 HI] at hf;rcases hi with h1 | h1 <;> rcases HI with h2 | h2
 ·rw [h1,h2]
 ·rw [h1,h2] at hf; simp at hf; lia
 ·rw [h1,h2] at hf; simp at hf; lia
 ·rw [h1,h2]
theorem NK{k c p:Int}(hi:LM p c)(W:Int->Bool):tV W (l0 k c (kX p c))=⟨(tV W (l0 k c p)).a,1 - (tV W (l0 k c p)).b,(tV W (l0 k c p)).c⟩:=by
 have hb:(l0 k c (kX p c)).b=1 - (l0 k c p).b:=by
  have n1:¬ (ab c=ab c+1):=by lia
  rcases hi with h1 | h1
  ·have es:kX p c=ab c+1:=by unfold kX; rw [if_pos h1]
   rw [es,h1];unfold l0;dsimp only;by_cases g:c > 0
   ·simp [g,n1]
   ·simp [g,n1]
  ·have es:kX p c=ab c:=by unfold kX; rw [if_neg (by lia),if_pos h1]
   rw [es,h1];unfold l0;dsimp only;by_cases g:c > 0
   ·simp [g,n1]
   ·simp [g,n1]
 have e:l0 k c (kX p c)=⟨k,1 - (l0 k c p).b,(l0 k c p).c⟩:=by
  rw [<-hb]; rfl
 rw [e];unfold tV;by_cases w:W k=true
 ·rw [if_pos (show W (T3.mk k (1 - (l0 k c p).b) (l0 k c p).c).a=true from w),if_pos (show W (l0 k c p).a=true from w)];rfl
 ·rw [if_neg (show ¬ W (T3.mk k (1 - (l0 k c p).b) (l0 k c p).c).a=true from w),if_neg (show ¬ W (l0 k c p).a=true from w)];rfl
theorem U5{gs:List (List Int)}(h:∀ g∈gs,g≠[]):gs.length<=gs.flatten.length:=by
 induction gs with
 | nil=>simp
 | cons a gs ih =>
  have:=ih fun g hg=>h g (au _ hg);have ha:=List.length_pos_iff.mpr (h a (by simp));rw [dW,az,ah];lia
theorem PX(W:Int->Bool)(g:Good n cs):((Qu W n cs).flatten.map T3.s).Nodup:=by
 rw [((Fi W g).map T3.s).nodup_iff,bC];unfold List.Nodup;rw [lz,List.pairwise_flatMap];refine⟨fun t ht=>?_,?_⟩
 ·refine(Ph cs 1 t).1.imp fun {x y} h z=>?_;have:=congrArg T2.a z;simp only [FF,T3.s,Je] at this;lia
 ·refine(Ja n).imp fun {t t'} h x hx y hy z=>h ?_;obtain⟨pre,c,post,e,hi,rfl⟩:=(xl cs 1 t).mp hx;obtain⟨vM,c',Ea,e',HI,rfl⟩:=(xl cs 1 t').mp hy;obtain⟨rfl,rfl,e3⟩:=Nj (W:=W) e e' hi HI z;exact Cw _ e3
theorem R3(W:Int->Bool)(g:Good n cs):(Qu W n cs).flatten.length<=2 * cs.length:=by
 have h:=SG ((Qu W n cs).flatten.map T3.s) ((dR cs.length).flatMap fun (k:Nat)=>[(⟨(k:Int)+1,0⟩:T2),⟨(k:Int)+1,1⟩]) (PX W g) fun s hs=>by
  obtain⟨q,hq,rfl⟩:=List.mem_map.mp hs;obtain⟨pre,c,post,p,e,hp,hi,rfl⟩:=(pC W g).mp hq;refine List.mem_flatMap.mpr ⟨pre.length,List.mem_range.mpr (by rw [e]; simp),?_⟩;have ok:=(GF W (yh (1+pre.length) c p)).1;have ea:(tV W (l0 (1+pre.length) c p)).a=(pre.length:Int)+1:=by rw [Je,eQ]; rfl
  unfold T3.s;rw [ea];rcases ok with o | o <;> rw [o] <;> simp
 rw [aE] at h;have:((dR cs.length).flatMap fun (k:Nat)=>[(⟨(k:Int)+1,0⟩:T2),⟨(k:Int)+1,1⟩]).length=2 * cs.length:=by
  rw [List.length_flatMap];have:∀ m:Nat,((dR m).map fun (a:Nat)=>[(⟨(a:Int)+1,0⟩:T2),⟨(a:Int)+1,1⟩].length).sum=2 * m:=by
   intro m;induction m with
   | zero=>rfl
   | succ m ih=>rw [List.range_succ,bq,List.sum_append,ih]; simp; lia
  exact this _
 lia
theorem Vs(W:Int->Bool)(g:Good n cs):Dr (Qu W n cs) where
 nd:=PX W g
 way:=fun q hq=>by
  obtain⟨pre,c,post,p,e,hp,hi,rfl⟩:=(pC W g).mp hq;exact(GF W (yh ..)).1
 hand:=fun q hq=>by
  obtain⟨pre,c,post,p,e,hp,hi,rfl⟩:=(pC W g).mp hq;exact(GF W (yh ..)).2
 Oe:=fun q hq=>by
  obtain⟨pre,c,post,p,e,hp,hi,rfl⟩:=(pC W g).mp hq;rw [<-NK hi W];have hc:=g.2.2;have hcm:c∈cs:=by rw [e]; simp
  refine(pC W g).mpr ⟨pre,c,post,kX p c,e,GG (hc c hcm).1 (hc c hcm).2 hp,?_,rfl⟩;unfold LM kX;rcases hi with h1 | h1
  ·rw [if_pos h1]; exact .inr rfl
  ·rw [if_neg (by lia),if_pos h1]; exact .inl rfl
 MI:=by have:=R3 W g; have:=g.2.1; lia
 str:=by
  obtain⟨gs,e,h2,h3⟩:=Dk W g;rw [e,aE];have h4:=U5 (gs:=gs) fun x hx z=>by have:=h2 x hx; rw [z] at this; exact this
  rw [h3.length_eq] at h4;have h5:(fQ n).length=n.toNat:=by unfold fQ; rw [aE,rq]
  have:=g.1;lia
end MK
end K2
end
section
namespace K2
namespace JL
open K2.P K2.wg K2.zr K2.MK
section
variable {β:Type} {κ:Int->Int->β} {cs:List Int}
noncomputable def Lc(κ:Int->Int->β)(cs:List Int):β->List T3->β->Prop
 | S,[],S'=>S=S'
 | S,q :: L,S'=>S=κ (q.a - 1) (FT cs q)/\Lc κ cs (κ q.a (xa cs q)) L S'
theorem Lc.app:∀ {A B:List T3} {S S1 S2:β},Lc κ cs S A S1->Lc κ cs S1 B S2->Lc κ cs S (A++B) S2
 | [],_,_,_,_,h,k=>by rw [show _=_ from h]; exact k
 | _ :: _,_,_,_,_,h,k=>⟨h.1,Lc.app h.2 k⟩
theorem Lc.split:∀ {A B:List T3} {S S2:β},Lc κ cs S (A++B) S2->∃ S1,Lc κ cs S A S1/\Lc κ cs S1 B S2
 | [],_,S,_,h=>⟨S,rfl,h⟩
 | _ :: _,_,_,_,h=>by
  obtain⟨S1,h1,h2⟩:=Lc.split h.2;exact⟨S1,⟨h.1,h1⟩,h2⟩
structure Al(κ:Int->Int->β)(cs:List Int):Prop where
 go:∀ (pre post:List Int) (c t:Int),cs=pre++c :: post->¬ (t=ab c\/t=ab c+1)->κ pre.length t=κ (pre.length+1) t
 rd:∀ x,κ cs.length x=κ 0 x
theorem B8{pre post:List Int}{c t:Int}(h:cs=pre++c :: post)(hi:t=ab c\/t=ab c+1):FT cs (l0 (pre.length+1) c t)=t/\xa cs (l0 (pre.length+1) c t)=kX t c:=by
 unfold FT xa;rw [B7 hi,show (l0 (↑pre.length+1) c t).a=(pre.length:Int)+1 from rfl,Hq h];unfold kX;by_cases e:t=ab c+1
 ·rw [if_pos (decide_eq_true e),if_pos (decide_eq_true e),if_neg (by lia),if_pos e]; exact⟨e.symm,rfl⟩
 ·rw [if_neg (by simp [e]),if_neg (by simp [e]),if_pos (hi.resolve_right e)]; exact⟨(hi.resolve_right e).symm,rfl⟩
theorem UI(al:Al κ cs):∀ (rest pre:List Int),cs=pre++rest->∀ t:Int,Lc κ cs (κ pre.length t) (ij (pre.length+1) rest t) (κ cs.length (jY rest t)):=by
 intro rest;induction rest with
 | nil =>
  intro pre h t;show κ pre.length t=κ cs.length t;rw [h,cH]
 | cons c rest IH =>
  intro pre h t;have ih:=IH (pre++[c]) (by rw [h]; simp) (kX t c);have el:((pre++[c]).length:Int)=(pre.length:Int)+1:=by simp
  rw [el] at ih;rw [ij,jY];by_cases hi:t=ab c\/t=ab c+1
  ·rw [if_pos hi];obtain⟨e1,e2⟩:=B8 h hi;refine Lc.app (S1:=κ (pre.length+1) (kX t c)) ⟨?_,?_⟩ ih
   ·rw [e1];show _=κ ((pre.length:Int)+1 - 1) t;rw [show (pre.length:Int)+1 - 1=pre.length by lia]
   ·show κ _ (xa cs _)=_;rw [e2]; rfl
  ·rw [if_neg hi,aL];have es:kX t c=t:=by unfold kX; rw [if_neg (fun z=>hi (.inl z)),if_neg (fun z=>hi (.inr z))]
   rw [es] at ih;rw [es,al.go pre rest c t h hi];exact ih
theorem Ot(al:Al κ cs)(t:Int):Lc κ cs (κ 0 t) (ij 1 cs t) (κ 0 (jY cs t)):=by
 have:=UI al cs [] rfl t;rw [al.rd] at this;exact this
theorem JR:∀ (L:List T3) (a b:T3) (S:β),Lc κ cs (κ a.a (xa cs a)) L S->S=κ (b.a - 1) (FT cs b)->∀ z∈(a :: L).zip (L++[b]),κ z.1.a (xa cs z.1)=κ (z.2.a - 1) (FT cs z.2)
 | [],a,b,S,h,e,z,hz=>by
  have:z=(a,b):=by simpa using hz
  rw [this];exact(show κ a.a (xa cs a)=S from h).trans e
 | c :: L,a,b,S,h,e,z,hz=>by
  rw [aG,kI] at hz;rcases List.mem_cons.mp hz with rfl | hz
  ·exact h.1
  ·exact JR L c b S h.2 e z hz
theorem RA{L:List T3}{S:β}(h:Lc κ cs S L S):∀ z∈L.zip (iJ L),κ z.1.a (xa cs z.1)=κ (z.2.a - 1) (FT cs z.2):=by
 cases L with
 | nil=>intro z hz; simp at hz
 | cons a L =>
  intro z hz;exact JR L a a S h.2 h.1 z hz
theorem Tf(al:Al κ cs)(t:Int):∀ (g:List Int) (x:Int),Mb (jY cs) t x g->Lc κ cs (κ 0 x) ((x :: g).flatMap (ij 1 cs)) (κ 0 t)
 | [],x,h=>by
  have:=Ot al x;rw [show jY cs x=t from h] at this;simpa using this
 | y :: g,x,h=>by
  rw [eY];have h1:=Ot al x;rw [h.1] at h1;exact h1.app (Tf al t g y h.2)
end
noncomputable abbrev W0:Int->Bool:=fun _=>false
theorem Fj(n:Int)(cs:List Int):Qu W0 n cs=mH n cs:=by
 unfold Qu;have:(fun r:List T3=>r.map (tV W0))=id:=by
  funext r;have:tV W0=id:=by funext q; rfl
  rw [this,ib]; rfl
 rw [this,ib]
variable {n:Int} {cs:List Int}
theorem Vl{β:Type}{κ:Int->Int->β}(g:Good n cs)(al:Al κ cs){p q:T3}(h:(p,q)∈pairsOf (mH n cs)):κ p.a (xa cs p)=κ (q.a - 1) (FT cs q):=by
 obtain⟨gs,e,h2,_⟩:=Dk W0 g;rw [Fj] at e;obtain⟨r,hr,h⟩:=List.mem_flatMap.mp h;rw [e] at hr;obtain⟨gp,hg,rfl⟩:=List.mem_map.mp hr;have hc:=h2 gp hg;have hr:∃ S,Lc κ cs S (gp.flatMap (ij 1 cs)) S:=by
  cases gp with
  | nil=>exact hc.elim
  | cons t gp=>exact⟨_,Tf al t gp t hc⟩
 obtain⟨S,hS⟩:=hr;rw [<-mB ((gp.flatMap (ij 1 cs)).idxOf (qN (gp.flatMap (ij 1 cs)))) (gp.flatMap (ij 1 cs))] at hS;obtain⟨S1,h1,LX⟩:=Lc.split hS;have es:(kY (gp.flatMap (ij 1 cs))).map (tV W0)=kY (gp.flatMap (ij 1 cs)):=by
  rw [show tV W0=id from by funext q; rfl,ib]
 rw [es] at h;exact RA (LX.app h1) (p,q) h
noncomputable def Qo(cs:List Int)(s:T2):T3:=⟨s.a,s.b,if EB cs s.a > 0 then 1 else -1⟩
noncomputable def v3(cs:List Int)(e:T3):T2:=if e.c=0 then ⟨e.a - 1,FT cs (Qo cs e.s)⟩ else ⟨e.a,xa cs (Qo cs e.s)⟩
noncomputable def DC(c:Int):Int:=if ab c=1 then 3 else 1
noncomputable def ub:Nat->List Int->Es
 | _,[]=>[]
 | k,c :: cs=>(⟨k,DC c⟩,⟨k+1,DC c⟩) :: ub (k+1) cs
noncomputable def Ac(m:Nat):Es:=[(⟨m,1⟩,⟨0,1⟩),(⟨m,2⟩,⟨0,2⟩),(⟨m,3⟩,⟨0,3⟩)]
noncomputable def Ju(cs:List Int):Es:=ub 0 cs++Ac cs.length
theorem DU:∀ (pre:List Int) (k:Nat) (c:Int) (post:List Int),((⟨(k+pre.length:Nat),DC c⟩,⟨((k+pre.length:Nat):Int)+1,DC c⟩):T2×T2)∈ub k (pre++c :: post)
 | [],k,c,post=>by simp [ub]
 | x :: pre,k,c,post=>by
  rw [aG,ub];refine au _ ?_;have:=DU pre (k+1) c post;rw [show k+1+pre.length=k+(x :: pre).length by simp; lia] at this;exact this
open Classical in
noncomputable def UN(cs:List Int)(k x:Int):T2->Prop:=if 1<=x/\x<=3 then fun y=>Cn (Ju cs) ⟨k,x⟩ y else fun _=>False
theorem OD{k x k' x':Int}(h:Cn (Ju cs) ⟨k,x⟩ ⟨k',x'⟩)(hx:1<=x/\x<=3)(VJ:1<=x'/\x'<=3):UN cs k x=UN cs k' x':=by
 unfold UN;rw [if_pos hx,if_pos VJ];funext y;exact propext ⟨fun z=>h.symm.trans z,fun z=>h.trans z⟩
theorem UM(g:Good n cs):Al (UN cs) cs:=by
 obtain⟨h1,hl,hc⟩:=g;refine⟨fun pre post c t e ht=>?_,fun x=>?_⟩
 ·by_cases hx:1<=t/\t<=3
  ·have:=hc c (by rw [e]; simp);have et:t=DC c:=by unfold DC; split <;> lia
   refine OD (.pair ?_) hx hx;rw [et];have m:=DU pre 0 c post;rw [dZ] at m;unfold Ju;rw [<-e] at m;exact bB _ m
  ·unfold UN; rw [if_neg hx,if_neg hx]
 ·by_cases hx:1<=x/\x<=3
  ·refine OD (.pair ?_) hx hx;unfold Ju Ac;refine bg _ ?_;obtain rfl | rfl | rfl:x=1\/x=2\/x=3:=by lia
   all_goals simp
  ·unfold UN; rw [if_neg hx,if_neg hx]
noncomputable def lu(x:Int):Int->List Int->Int->Int
 | _,[],acc=>acc
 | i,c :: cs,acc=>lu x (i+1) cs (if x=ab c\/x=ab c+1 then i else acc)
theorem Oh(j:Int):∀ (xs ys:List Int) (n acc:Int),lu j n (xs++ys) acc=lu j (n+xs.length) ys (lu j n xs acc)
 | [],ys,n,acc=>by simp [lu]
 | x :: xs,ys,n,acc=>by
  rw [aG,lu,Oh j xs ys,lu];congr 1;rw [ah]; lia
theorem UD(x:Int):∀ (xs:List Int) (n:Int) (a:Int),lu x n xs (lu x n xs a)=lu x n xs a:=by
 have none:∀ (xs:List Int) (n acc:Int),(∀ c∈xs,¬ (x=ab c\/x=ab c+1))->lu x n xs acc=acc:=by
  intro xs;induction xs with
  | nil=>intro _ _ _; rfl
  | cons c xs ih=>intro n acc h; rw [lu,if_neg (h c (by simp))]; exact ih _ _ fun d hd=>h d (au _ hd)
 have same:∀ (xs:List Int) (n acc XH:Int),(∃ c∈xs,x=ab c\/x=ab c+1)->lu x n xs acc=lu x n xs XH:=by
  intro xs;induction xs with
  | nil=>intro _ _ _ h; obtain⟨c,hc,_⟩:=h; cases hc
  | cons c xs ih =>
   intro n acc XH h;rw [lu,lu];by_cases e:x=ab c\/x=ab c+1
   ·rw [if_pos e,if_pos e]
   ·rw [if_neg e,if_neg e];refine ih _ _ _ ?_;obtain⟨d,hd,q⟩:=h;rcases List.mem_cons.mp hd with rfl | hd
    ·exact absurd q e
    ·exact⟨d,hd,q⟩
 intro xs n a;by_cases h:∃ c∈xs,x=ab c\/x=ab c+1
 ·exact same xs n _ _ h
 ·rw [none xs n _ fun c hc e=>h ⟨c,hc,e⟩]
noncomputable def lub(cs:List Int)(k x:Int):Int×Int:=(x,lu x 1 (cs.take k.toNat) (lu x 1 cs 0))
theorem EA{pre post:List Int}{c:Int}(h:cs=pre++c :: post)(x:Int):lub cs (pre.length+1) x=if x=ab c\/x=ab c+1 then (x,(pre.length:Int)+1) else lub cs pre.length x:=by
 have e1:cs.take ((pre.length:Int)+1).toNat=pre++[c]:=by
  rw [show ((pre.length:Int)+1).toNat=pre.length+1 by lia,h,List.take_length_add_append];rfl
 have e2:cs.take (pre.length:Int).toNat=pre:=by rw [cF,h]; simp
 unfold lub;rw [e1,e2,Oh];simp only [lu];split
 ·rw [eQ 1]
 ·rfl
theorem UC(cs:List Int):Al (lub cs) cs:=by
 refine⟨fun pre post c t e ht=>?_,fun x=>?_⟩
 ·rw [EA e,if_neg ht]
 ·unfold lub;rw [cF,List.take_length];show (x,_)=(x,lu x 1 (cs.take 0) _);rw [List.take_zero,UD]; rfl
theorem xu(g:Good n cs){q:T3}(h:q∈(mH n cs).flatten):∃ pre c post x,cs=pre++c :: post/\(1<=x/\x<=n)/\(x=ab c\/x=ab c+1)/\q=l0 (pre.length+1) c x:=by
 rw [<-Fj] at h;obtain⟨pre,c,post,x,e,hx,hi,rfl⟩:=(pC W0 g).mp h;exact⟨pre,c,post,x,e,hx,hi,by rw [show (1:Int)+pre.length=pre.length+1 by lia]; rfl⟩
structure Psd(cs:List Int)(q:T3):Prop where
 qo:Qo cs q.s=q
 lb:lub cs q.a (xa cs q)=(xa cs q,q.a)
 rg:1<=xa cs q/\xa cs q<=3
 rb:1<=FT cs q/\FT cs q<=3
theorem psd(g:Good n cs){q:T3}(h:q∈(mH n cs).flatten):Psd cs q:=by
 obtain⟨pre,c,post,x,e,hx,hi,rfl⟩:=xu g h;obtain⟨h1,hl,hc⟩:=g;have Qs:=hc c (by rw [e]; simp);obtain⟨e1,e2⟩:=B8 e hi;have hs:kX x c=ab c\/kX x c=ab c+1:=by unfold kX; split; exact .inr rfl; split; exact .inl rfl; lia
 refine⟨?_,?_,by rw [e2]; lia,by rw [e1]; lia⟩
 ·unfold Qo;show (⟨(pre.length:Int)+1,_,if EB cs ((pre.length:Int)+1) > 0 then 1 else -1⟩:T3)=_;rw [Hq e]; rfl
 ·rw [e2];show lub cs ((pre.length:Int)+1) _=_;rw [EA e,if_pos hs]; rfl
theorem QX(g:Good n cs){p q:T3}(hp:p∈(mH n cs).flatten)(hq:q∈(mH n cs).flatten)(ha:p.a=q.a)(hf:xa cs p=xa cs q):p=q:=by
 obtain⟨pre,c,post,x,e,hx,hi,rfl⟩:=xu g hp;obtain⟨vM,c',Ea,x',e',VJ,HI,rfl⟩:=xu g hq;have hl:pre.length=vM.length:=by
  have:(pre.length:Int)+1=vM.length+1:=ha;lia
 obtain⟨rfl,rfl⟩:=NM e e' hl;rw [(B8 e hi).2,(B8 e' HI).2] at hf;rw [Jg c hf]
theorem Og(g:Good n cs){u v:T2}(h:Cn (Ju cs) u v):lub cs u.a u.b=lub cs v.a v.b:=by
 obtain⟨h1,hl,hc⟩:=g;have al:=UC cs;have st:∀ (rest pre:List Int),cs=pre++rest->∀ p∈ub pre.length rest,lub cs p.1.a p.1.b=lub cs p.2.a p.2.b:=by
  intro rest;induction rest with
  | nil=>intro _ _ p hp; cases hp
  | cons c rest ih =>
   intro pre e p hp;rw [ub] at hp;rcases List.mem_cons.mp hp with rfl | hp
   ·have Qs:=hc c (by rw [e]; simp);exact al.go pre rest c (DC c) e (by unfold DC; split <;> lia)
   ·have:=ih (pre++[c]) (by rw [e]; simp) p;rw [az,bR] at this;exact this hp
 induction h with
 | refl x=>rfl
 | pair q =>
  unfold Ju at q;rcases List.mem_append.mp q with q | q
  ·exact st cs [] rfl _ q
  ·simp only [Ac,a9,bI,or_false] at q;rcases q with q | q | q <;> cases q <;> exact al.rd _
 | symm _ ih=>exact ih.symm
 | trans _ _ a b=>exact a.trans b
open K2.J K2.JB in
theorem C7(g:Good n cs):Dr (mH n cs):=by rw [<-Fj]; exact Vs W0 g
open K2.J K2.JB K2.JK in
theorem YS(g:Good n cs):Sep (v3 cs) (fr (mH n cs)) (Ju cs):=by
 have d:=C7 g;have op:∀ e,fr (mH n cs) e≠e->∃ p q,(p,q)∈pairsOf (mH n cs)/\(e=eO p.s\/e=eI q.s)/\Cn (Ju cs) (v3 cs e) ⟨p.a,xa cs p⟩/\lub cs (v3 cs e).a (v3 cs e).b=(xa cs p,p.a)/\fr (mH n cs) (eO p.s)=eI q.s/\fr (mH n cs) (eI q.s)=eO p.s/\p∈(mH n cs).flatten/\Cn (Ju cs) (v3 cs e) (v3 cs (fr (mH n cs) e)):=fun e he=>by
  obtain⟨z,hz,w⟩:=nH.mp ((sV (xW d)).mp he);obtain⟨⟨p,q⟩,RG,rfl⟩:=List.mem_map.mp hz;have hp:p∈(mH n cs).flatten:=by rw [<-oq (mH n cs)]; exact List.mem_map.mpr ⟨_,RG,rfl⟩
  have hq:q∈(mH n cs).flatten:=(oj (mH n cs)).mem_iff.mp (List.mem_map.mpr ⟨_,RG,rfl⟩);have sp:=psd g hp;have sq:=psd g hq;have eo:v3 cs (eO p.s)=⟨p.a,xa cs p⟩:=by
   unfold v3 eO;rw [if_neg (show ¬ (1:Int)=0 by decide)];show (⟨p.a,xa cs (Qo cs p.s)⟩:T2)=_;rw [sp.qo]
  have ei:v3 cs (eI q.s)=⟨q.a - 1,FT cs q⟩:=by
   unfold v3 eI;rw [if_pos rfl];show (⟨q.a - 1,FT cs (Qo cs q.s)⟩:T2)=_;rw [sq.qo]
  have kk:=Vl g (UM g) RG;unfold UN at kk;rw [if_pos sp.rg,if_pos sq.rb] at kk;have cc:Cn (Ju cs) ⟨q.a - 1,FT cs q⟩ ⟨p.a,xa cs p⟩:=by
   have:=congrFun kk ⟨p.a,xa cs p⟩;rw [<-this]; exact .refl _
  have fe:=oX (xW d) (List.mem_map.mpr ⟨(p,q),RG,rfl⟩);have fe1:fr (mH n cs) (eO p.s)=eI q.s:=fe.1;have fe2:fr (mH n cs) (eI q.s)=eO p.s:=fe.2;refine⟨p,q,RG,w,?_,?_,fe1,fe2,hp,?_⟩
  ·rcases w with rfl | rfl
   ·rw [eo]; exact .refl _
   ·rw [ei]; exact cc
  ·rcases w with rfl | rfl
   ·rw [eo]; exact sp.lb
   ·rw [ei,Og g cc]; exact sp.lb
  ·rcases w with rfl | rfl
   ·rw [fe1,eo,ei]; exact cc.symm
   ·rw [fe2,eo,ei]; exact cc
 intro e e' he he';obtain⟨p,q,RG,w,c1,l1,f1,f2,m1,cc⟩:=op e he;obtain⟨p',q',adu,w',c1',l1',f1',f2',m1',_⟩:=op e' he';constructor
 ·intro h;have hl:=Og g h;rw [l1,l1'] at hl;injection hl with a1 a2
  have ep:=QX g m1 m1' a2 a1;subst ep;have nx:eI q.s=eI q'.s:=by rw [<-f1,<-f1']
  rcases w with rfl | rfl <;> rcases w' with rfl | rfl
  ·exact .inl rfl
  ·exact .inr (by rw [f1,nx])
  ·exact .inr (by rw [f2])
  ·exact .inl nx.symm
 ·rintro(rfl | rfl)
  ·exact .refl _
  ·exact cc
end JL
namespace JL
open K2.P K2.wg K2.zr K2.MK
noncomputable def bl(c:Int):Bool:=decide (ab c=2)
noncomputable def M9:Nat->List (Bool×Bool)->Es
 | _,[]=>[]
 | k,x :: l=>Sk k x.1 x.2++M9 (k+1) l
noncomputable def Jf:Nat->Nat->List T2
 | _,0=>[]
 | k,m+1=>kO ((k:Int)+1)++Jf (k+1) m
noncomputable def run:Nat->List (Bool×Bool)->Nat×Nat
 | π,[]=>(π,0)
 | π,(_,false) :: l=>run π l
 | π,(b,true) :: l=>((run ((tb b).getD π (0,0)).1 l).1,((tb b).getD π (0,0)).2+(run ((tb b).getD π (0,0)).1 l).2)
theorem Sj:∀ (l:List (Bool×Bool)) {k:Nat} {ps:Es} {V:List T2} {π c:Nat},Sw k ps V π c->Sw (k+l.length) (ps++M9 k l) (V++Jf k l.length) (run π l).1 (c+(run π l).2)
 | [],k,ps,V,π,c,s=>by
  simp only [M9,Jf,cH,aA,run];exact s
 | (b,w) :: l,k,ps,V,π,c,s=>by
  have h:=Sj l (s.step b w);rw [show k+((b,w) :: l).length=k+1+l.length by simp; lia];rw [M9,ah,Jf,<-dq,<-dq];cases w with
  | false =>
   simp only [aF,if_false] at h;exact h
  | true =>
   simp only [if_true] at h;rw [run];show Sw _ _ _ _ (c+(((tb b).getD π (0,0)).2+_));rw [<-jA];exact h
theorem YK:Sw 0 [] (kO 0) 0 3:=by
 refine⟨⟨⟨rfl,?_⟩,?_,?_⟩,(fun p hp=>nomatch hp),fun v hv=>?_,by decide⟩
 ·intro i j hi hj;have hi:i < 6:=hi;have hj:j < 6:=hj;have e:∀ x y:T2,Cn ([]:Es) x y↔x=y:=fun x y=>⟨JK.Il,fun h=>h ▸ .refl _⟩;rw [e];have:∀ i,i < 6->∀ j,j < 6->((IA 0).getD i ⟨9,9⟩=(IA 0).getD j ⟨9,9⟩↔(Q4 0).getD i 9=(Q4 0).getD j 9):=by decide
  have:=this i hi j hj;have g1:∀ k (hk:k < (IA 0).length),(IA 0).getD k ⟨9,9⟩=(IA 0)[k]:=fun k hk=>by rw [aZ,aq hk]; rfl
  have g2:∀ k (hk:k < (Q4 0).length),(Q4 0).getD k 9=(Q4 0)[k]:=fun k hk=>by rw [aZ,aq hk]; rfl
  rw [g1 i hi,g1 j hj,g2 i hi,g2 j hj] at this;exact this
 ·exact JK.Ux (V:=kO 0) (by decide)
 ·intro v hv;simp only [IA,a9,bI,or_false] at hv;simp only [kO,a9,bI,or_false];rcases hv with h | h | h | h | h | h <;> simp [h]
 ·simp only [kO,a9,bI,or_false] at hv;rcases hv with rfl | rfl | rfl <;> exact lP _
noncomputable def fin:Nat->Nat
 | 0=>3
 | 1=>2
 | 2=>2
 | _=>1
theorem closed{m:Nat}{ps:Es}{V:List T2}{π r:Nat}(s:Sw m ps V π (3+r)):Nc V (Cn (ps++Ac m)) (r+fin π):=by
 have h:=s.wk;have hp:=s.hp;have a3:∀ x y z:T2×T2,ps++[x,y,z]=((ps++[x])++[y])++[z]:=fun x y z=>by simp
 unfold Ac;rw [a3];obtain rfl | rfl | rfl | rfl | rfl:π=0\/π=1\/π=2\/π=3\/π=4:=by lia
 all_goals
  have k:=(((h.mO 3 0 _ _ _ _ rfl rfl rfl rfl).mO 4 1 _ _ _ _ rfl rfl rfl rfl).mO 5 2 _ _ _ _ rfl rfl rfl rfl).nc;simp only [Q4,mg,aj,aW,fin] at k ⊢
 ·rw [QC r 3]; exact k
 ·rw [show r+2=3+r - 1 by lia]; exact k
 ·rw [show r+2=3+r - 1 by lia]; exact k
 ·rw [show r+1=3+r - 1 - 1 by lia]; exact k
 ·rw [show r+1=3+r - 1 - 1 by lia]; exact k
noncomputable def lbl(u:Bool×Bool×Bool):List Nat:=[1,2,3,if u.1 then 4 else 1,if u.2.1 then 5 else 2,if u.2.2 then 6 else 3]
noncomputable def YG(u:Bool×Bool×Bool):Bool->Bool×Bool×Bool
 | false=>(true,true,u.2.2)
 | true=>(u.1,true,true)
structure Cu(k:Nat)(ps:Es)(V:List T2)(u:Bool×Bool×Bool)(c:Nat):Prop where
 wk:Wk ps V (IA k) (lbl u) c
 lv:∀ p∈ps,p.1.a<=k/\p.2.a<=k
 vv:∀ v∈V,v.a<=k
theorem WC{k:Nat}{ps:Es}{V:List T2}{l:List Nat}{c:Nat}(wk:Wk ps V (IA k) l c)(lv:∀ p∈ps,p.1.a<=k/\p.2.a<=k)(vv:∀ v∈V,v.a<=k)(ld:∀ d∈l,d<=6):Wk ps (V++kO (k+1)) (IA k++kO (k+1)) (l++[10,11,12]) (c+3):=by
 have fr:∀ j:Int,Fr ps ⟨k+1,j⟩:=fun j p hp=>by
  have:=lv p hp;exact⟨fun z=>by rw [z] at this; simp only at this; lia,fun z=>by rw [z] at this; simp only at this; lia⟩
 have nv:∀ j:Int,(⟨k+1,j⟩:T2)∉V:=fun j z=>by have:=vv _ z; simp only at this; lia
 have h1:=wk.fresh (d:=10) (fr 1) (nv 1) (fun z=>by have:=ld _ z; lia);have h2:=h1.fresh (v:=⟨k+1,2⟩) (d:=11) (fr 2) (fun z=>by rcases List.mem_append.mp z with z | z; exact nv 2 z; rw [aU] at z; cases z) (fun z=>by rcases List.mem_append.mp z with z | z; have:=ld _ z; lia; rw [aU] at z; cases z);have h3:=h2.fresh (v:=⟨k+1,3⟩) (d:=12) (fr 3) (fun z=>by
  rcases List.mem_append.mp z with z | z
  ·rcases List.mem_append.mp z with z | z
   ·exact nv 3 z
   ·rw [aU] at z; cases z
  ·rw [aU] at z; cases z) (fun z=>by
  rcases List.mem_append.mp z with z | z
  ·rcases List.mem_append.mp z with z | z
   ·have:=ld _ z; lia
   ·rw [aU] at z; cases z
  ·rw [aU] at z; cases z)
 simp only [dq,aG,aL] at h3;exact h3
theorem Cu.step{k:Nat}{ps:Es}{V:List T2}{u:Bool×Bool×Bool}{c:Nat}(s:Cu k ps V u c)(b:Bool):Cu (k+1) (ps++[(⟨k,if b then 1 else 3⟩,⟨k+1,if b then 1 else 3⟩)]) (V++kO (k+1)) (YG u b) (c+2):=by
 have h9:=WC s.wk s.lv s.vv (by obtain⟨u1,u2,u3⟩:=u; cases u1 <;> cases u2 <;> cases u3 <;> decide);have lv:=s.lv;have vv:=s.vv;have UB:∀ p∈ps++[((⟨k,if b then 1 else 3⟩,⟨k+1,if b then 1 else 3⟩):T2×T2)],p.1.a<=((k+1:Nat):Int)/\p.2.a<=((k+1:Nat):Int):=fun p hp=>by
  rcases List.mem_append.mp hp with hp | hp
  ·have:=lv p hp; lia
  ·rw [aU] at hp; subst hp; simp only; lia
 have Tt:∀ v∈V++kO (k+1),v.a<=((k+1:Nat):Int):=fun v hv=>by
  rcases List.mem_append.mp hv with hv | hv
  ·have:=vv v hv; lia
  ·simp only [kO,a9,bI,or_false] at hv;rcases hv with rfl | rfl | rfl <;> simp only <;> lia
 have e:IA ((k+1:Nat):Int)=[0,1,2,6,7,8].filterMap fun i=>(IA k++kO (k+1))[i]?:=rfl;obtain⟨u1,u2,u3⟩:=u;cases b with
 | false =>
  refine⟨?_,UB,Tt⟩;cases u1 <;> cases u2 <;> cases u3
  all_goals
   have h:=h9.mO 5 8 _ _ _ _ rfl rfl rfl rfl;exact h.sel [0,1,2,6,7,8] e rfl rfl (by decide) rfl
 | true =>
  refine⟨?_,UB,Tt⟩;cases u1 <;> cases u2 <;> cases u3
  all_goals
   have h:=h9.mO 3 6 _ _ _ _ rfl rfl rfl rfl;exact h.sel [0,1,2,6,7,8] e rfl rfl (by decide) rfl
noncomputable def Sg:Bool×Bool×Bool->List Int->Bool×Bool×Bool
 | u,[]=>u
 | u,c :: cs=>Sg (YG u (bl c)) cs
theorem Xy(hc:∀ c:Int,ab c=1\/ab c=2->(if bl c=true then (1:Int) else 3)=DC c):∀ (cs:List Int) {k:Nat} {ps:Es} {V:List T2} {u:Bool×Bool×Bool} {c:Nat},(∀ c∈cs,ab c=1\/ab c=2)->Cu k ps V u c->Cu (k+cs.length) (ps++ub k cs) (V++Jf k cs.length) (Sg u cs) (c+2 * cs.length)
 | [],k,ps,V,u,c,_,s=>by
  simp only [ub,Jf,cH,aA,Sg];exact s
 | x :: cs,k,ps,V,u,c,h,s=>by
  have h2:=Xy hc cs (fun y hy=>h y (au _ hy)) (s.step (bl x));rw [hc x (h x (by simp))] at h2;rw [show k+(x :: cs).length=k+1+cs.length by simp; lia,show c+2 * (x :: cs).length=c+2+2 * cs.length by simp; lia];rw [ub,ah,Jf,<-dq,List.append_cons];exact h2
theorem cu0:Cu 0 [] (kO 0) (false,false,false) 3:=⟨YK.wk,(fun p hp=>nomatch hp),YK.vv⟩
noncomputable def DE(u:Bool×Bool×Bool):Nat:=(if u.1 then 0 else 1)+(if u.2.1 then 0 else 1)+(if u.2.2 then 0 else 1)
theorem Ik{m r:Nat}{ps:Es}{V:List T2}{u:Bool×Bool×Bool}(s:Cu m ps V u (3+r)):Nc V (Cn (ps++Ac m)) (r+DE u):=by
 have h:=s.wk;have a3:∀ x y z:T2×T2,ps++[x,y,z]=((ps++[x])++[y])++[z]:=fun x y z=>by simp
 unfold Ac;rw [a3];obtain⟨u1,u2,u3⟩:=u;cases u1 <;> cases u2 <;> cases u3
 all_goals
  have k:=(((h.mO 3 0 _ _ _ _ rfl rfl rfl rfl).mO 4 1 _ _ _ _ rfl rfl rfl rfl).mO 5 2 _ _ _ _ rfl rfl rfl rfl).nc
 ·rw [show r+DE (false,false,false)=3+r by show r+3=3+r; lia]; exact k
 ·rw [show r+DE (false,false,true)=3+r - 1 by show r+2=3+r - 1; lia]; exact k
 ·rw [show r+DE (false,true,false)=3+r - 1 by show r+2=3+r - 1; lia]; exact k
 ·rw [show r+DE (false,true,true)=3+r - 1 - 1 by show r+1=3+r - 1 - 1; lia]; exact k
 ·rw [show r+DE (true,false,false)=3+r - 1 by show r+2=3+r - 1; lia]; exact k
 ·rw [show r+DE (true,false,true)=3+r - 1 - 1 by show r+1=3+r - 1 - 1; lia]; exact k
 ·rw [show r+DE (true,true,false)=3+r - 1 - 1 by show r+1=3+r - 1 - 1; lia]; exact k
 ·rw [show r+DE (true,true,true)=3+r - 1 - 1 - 1 by show r+0=3+r - 1 - 1 - 1; lia]; exact k
end JL
namespace JL
open K2.P K2.wg K2.zr K2.MK K2.J
variable {n:Int} {cs:List Int}
theorem PA{pre post:List Int}{c:Int}(e:cs=pre++c :: post):v3 cs ⟨pre.length+1,0,0⟩=⟨pre.length,if c > 0 then ab c+1 else ab c⟩/\v3 cs ⟨pre.length+1,1,0⟩=⟨pre.length,if c > 0 then ab c else ab c+1⟩/\v3 cs ⟨pre.length+1,0,1⟩=⟨(pre.length:Int)+1,if c > 0 then ab c else ab c+1⟩/\v3 cs ⟨pre.length+1,1,1⟩=⟨(pre.length:Int)+1,if c > 0 then ab c+1 else ab c⟩:=by
 have l:=Hq e;have q:∀ b:Int,Qo cs ⟨(pre.length:Int)+1,b⟩=⟨(pre.length:Int)+1,b,if c > 0 then 1 else -1⟩:=fun b=>by
  unfold Qo;show (⟨(pre.length:Int)+1,b,if EB cs ((pre.length:Int)+1) > 0 then 1 else -1⟩:T3)=_;rw [l]
 have hm:(pre.length:Int)+1 - 1=pre.length:=by lia
 have b0:∀ b:Int,FT cs ⟨(pre.length:Int)+1,b,if c > 0 then 1 else -1⟩=if fst ⟨(pre.length:Int)+1,b,if c > 0 then 1 else -1⟩=true then ab c+1 else ab c:=fun b=>by
  unfold FT;show (if _ then ab (EB cs ((pre.length:Int)+1))+1 else ab (EB cs ((pre.length:Int)+1)))=_;rw [l]
 have a0:∀ b:Int,xa cs ⟨(pre.length:Int)+1,b,if c > 0 then 1 else -1⟩=if fst ⟨(pre.length:Int)+1,b,if c > 0 then 1 else -1⟩=true then ab c else ab c+1:=fun b=>by
  unfold xa;show (if _ then ab (EB cs ((pre.length:Int)+1)) else ab (EB cs ((pre.length:Int)+1))+1)=_;rw [l]
 have f0:∀ b:Int,fst ⟨(pre.length:Int)+1,b,if c > 0 then 1 else -1⟩=(decide (b=0) == decide (c > 0)):=fun b=>by
  unfold fst;simp only;by_cases h:c > 0
  ·rw [if_pos h,decide_eq_true h]; rfl
  ·rw [if_neg h,decide_eq_false h]; rfl
 have z0:∀ b:Int,v3 cs ⟨(pre.length:Int)+1,b,0⟩=⟨pre.length,FT cs (Qo cs ⟨(pre.length:Int)+1,b⟩)⟩:=fun b=>by
  unfold v3;rw [if_pos rfl];show (⟨(pre.length:Int)+1 - 1,_⟩:T2)=_;rw [hm]; rfl
 have z1:∀ b:Int,v3 cs ⟨(pre.length:Int)+1,b,1⟩=⟨(pre.length:Int)+1,xa cs (Qo cs ⟨(pre.length:Int)+1,b⟩)⟩:=fun b=>by
  unfold v3;rw [if_neg (show ¬ (1:Int)=0 by decide)]; rfl
 rw [z0,z0,z1,z1,q,q,b0,b0,a0,a0,f0,f0];by_cases h:c > 0
 ·rw [decide_eq_true h,if_pos h,if_pos h]; exact⟨rfl,rfl,rfl,rfl⟩
 ·rw [decide_eq_false h,if_neg h,if_neg h]; exact⟨rfl,rfl,rfl,rfl⟩
noncomputable def jE(cs:List Int)(i:Int)(w:Bool):Es:=(js i w).map fun p=>(v3 cs p.1,v3 cs p.2)
theorem Vt{c:Int}(h:ab c=1\/ab c=2):(ab c=1/\bl c=false/\DC c=3)\/(ab c=2/\bl c=true/\DC c=1):=by
 unfold bl DC;rcases h with h | h
 ·left; rw [h]; decide
 ·right; rw [h]; decide
theorem WQ{pre post:List Int}{c:Int}(e:cs=pre++c :: post)(h:ab c=1\/ab c=2)(w:Bool){X:Es}(hS:((⟨pre.length,DC c⟩,⟨(pre.length:Int)+1,DC c⟩):T2×T2)∈X)(hJ:∀ p∈jE cs (pre.length+1) w,p∈X):∀ p∈Sk pre.length (bl c) w,Cn X p.1 p.2:=by
 obtain⟨e1,e2,e3,e4⟩:=PA e;have s:Cn X ⟨pre.length,DC c⟩ ⟨(pre.length:Int)+1,DC c⟩:=.pair hS;unfold jE js at hJ;intro p hp;rcases Vt h with ⟨a1,a2,a3⟩ | ⟨a1,a2,a3⟩ <;> rw [a2] at hp <;> rw [a3] at s <;> cases w <;> by_cases hc:c > 0 <;>
  simp only [Sk,if_true,Bool.true_eq_false,reduceCtorEq,if_false,aj,aW,e1,e2,e3,e4,hc,a1,a9,bI,or_false] at hp hJ <;>
  rcases hp with rfl | rfl | rfl <;> first | exact s | exact .pair (hJ _ (.inl rfl)) | exact .pair (hJ _ (.inr rfl)) | exact .symm (.pair (hJ _ (.inl rfl))) | exact .symm (.pair (hJ _ (.inr rfl)))
theorem WR{pre post:List Int}{c:Int}(e:cs=pre++c :: post)(h:ab c=1\/ab c=2)(w:Bool){X:Es}(hS:∀ p∈Sk pre.length (bl c) w,p∈X):Cn X ⟨pre.length,DC c⟩ ⟨(pre.length:Int)+1,DC c⟩/\∀ p∈jE cs (pre.length+1) w,Cn X p.1 p.2:=by
 obtain⟨e1,e2,e3,e4⟩:=PA e;unfold jE js;rcases Vt h with ⟨a1,a2,a3⟩ | ⟨a1,a2,a3⟩ <;> rw [a2] at hS <;> rw [a3] <;> cases w <;> by_cases hc:c > 0 <;>
  simp only [Sk,if_true,Bool.true_eq_false,reduceCtorEq,if_false,aj,aW,e1,e2,e3,e4,hc,a1,a9,bI,or_false] at hS ⊢ <;>
  refine⟨.pair (hS _ (by first | exact .inl rfl | exact .inr (.inl rfl) | exact .inr (.inr rfl))),fun p hp=>?_⟩ <;> rcases hp with rfl | rfl <;>
  first | exact .pair (hS _ (.inl rfl)) | exact .pair (hS _ (.inr (.inl rfl))) | exact .pair (hS _ (.inr (.inr rfl))) | exact .symm (.pair (hS _ (.inl rfl))) | exact .symm (.pair (hS _ (.inr (.inl rfl)))) | exact .symm (.pair (hS _ (.inr (.inr rfl))))
end JL
end K2
end
section
namespace K2
open PySem (Str)
open Enc (enc)
namespace MK
open K2.P K2.wg K2.zr
variable {cs:List Int} {n:Int} {W:Int->Bool}
noncomputable def has(cs:List Int)(j:Int):Prop:=∃ c∈cs,ab c=j
theorem Ks{f:Int->Int}{g:List Int}{y:Int}(h:u7 f g)(hn:g.Nodup)(hy:y∈g)(e:f y=y):g=[y]:=by
 have main:∀ (g:List Int) (t x:Int),Mb f t x g->(x :: g).Nodup->y∈x :: g->y=t:=by
  intro g;induction g with
  | nil =>
   intro t x h _ hy;rw [<-show f x=t from h];rw [List.mem_singleton.mp hy] at e ⊢;exact e.symm
  | cons z g ih =>
   intro t x h hn hy;rw [aQ] at hn;rcases List.mem_cons.mp hy with rfl | hy
   ·exact absurd (by rw [<-e,h.1]; simp) hn.1
   ·exact ih t z h.2 hn.2 hy
 cases g with
 | nil=>exact h.elim
 | cons t g =>
  have:=main g t t h hn hy;subst this;cases g with
  | nil=>rfl
  | cons z g =>
   rw [aQ] at hn;exact absurd (by rw [<-e,h.1]; simp) hn.1
theorem JS:∀ (cs:List Int) {t:Int},¬ has cs t->¬ has cs (t - 1)->jY cs t=t/\∀ k,ij k cs t=[]
 | [],_,_,_=>⟨rfl,fun _=>rfl⟩
 | c :: cs,t,h1,h2=>by
  have n1:t≠ab c:=fun z=>h1 ⟨c,by simp,z.symm⟩;have n2:t≠ab c+1:=fun z=>h2 ⟨c,by simp,by lia⟩;have es:kX t c=t:=by unfold kX; rw [if_neg n1,if_neg n2]
  obtain⟨a1,a2⟩:=JS cs (t:=t) (fun ⟨x,hx,e⟩=>h1 ⟨x,au _ hx,e⟩) (fun ⟨x,hx,e⟩=>h2 ⟨x,au _ hx,e⟩);refine⟨by rw [jY,es]; exact a1,fun k=>?_⟩;rw [ij,if_neg (by rintro(z | z); exact n1 z; exact n2 z),es,a2];rfl
end MK
end K2
end
section
namespace K2
namespace JL
open K2.P K2.wg K2.zr K2.MK K2.J K2.JB K2.JK
variable {n:Int} {cs:List Int}
noncomputable def wd(rest:List Int)(ws:List Bool):List (Bool×Bool):=(rest.zip ws).map fun p=>(bl p.1,p.2)
noncomputable def RC(cs:List Int):Nat->List Bool->Es
 | _,[]=>[]
 | k,w :: ws=>jE cs ((k:Int)+1) w++RC cs (k+1) ws
theorem KD:∀ (rest pre:List Int) (ws:List Bool) {X:Es},cs=pre++rest->ws.length=rest.length->(∀ c∈rest,ab c=1\/ab c=2)->(∀ p∈ub pre.length rest,p∈X)->(∀ p∈RC cs pre.length ws,p∈X)->∀ p∈M9 pre.length (wd rest ws),Cn X p.1 p.2
 | [],pre,ws,X,_,_,_,_,_,p,hp=>by
  have:wd [] ws=[]:=by unfold wd; simp
  rw [this] at hp; cases hp
 | c :: rest,pre,[],X,_,hl,_,_,_,p,hp=>by cases hl
 | c :: rest,pre,w :: ws,X,e,hl,hc,hS,hJ,p,hp=>by
  have ew:wd (c :: rest) (w :: ws)=(bl c,w) :: wd rest ws:=rfl;rw [ew,M9] at hp;rw [ub] at hS;rw [RC] at hJ;rcases List.mem_append.mp hp with hp | hp
  ·exact WQ e (hc c (by simp)) w (hS _ (by simp)) (fun q hq=>hJ q (bB _ hq)) p hp
  ·have VO:ws.length=rest.length:=by simpa using hl
   have:=KD rest (pre++[c]) ws (X:=X) (by rw [e]; simp) VO (fun d hd=>hc d (au _ hd));rw [az,bR] at this;exact this (fun q hq=>hS q (au _ hq)) (fun q hq=>hJ q (bg _ hq)) p hp
theorem KG:∀ (rest pre:List Int) (ws:List Bool) {X:Es},cs=pre++rest->ws.length=rest.length->(∀ c∈rest,ab c=1\/ab c=2)->(∀ p∈M9 pre.length (wd rest ws),p∈X)->(∀ p∈ub pre.length rest,Cn X p.1 p.2)/\∀ p∈RC cs pre.length ws,Cn X p.1 p.2
 | [],pre,[],X,_,_,_,_=>⟨fun p hp=>(nomatch hp),fun p hp=>(nomatch hp)⟩
 | [],pre,_ :: _,X,_,hl,_,_=>by cases hl
 | c :: rest,pre,[],X,_,hl,_,_=>by cases hl
 | c :: rest,pre,w :: ws,X,e,hl,hc,hS=>by
  have ew:wd (c :: rest) (w :: ws)=(bl c,w) :: wd rest ws:=rfl;rw [ew,M9] at hS;have VO:ws.length=rest.length:=by simpa using hl
  obtain⟨b1,b2⟩:=WR e (hc c (by simp)) w (fun q hq=>hS q (bB _ hq));have:=KG rest (pre++[c]) ws (X:=X) (by rw [e]; simp) VO (fun d hd=>hc d (au _ hd));rw [az,bR] at this;obtain⟨h1,h2⟩:=this (fun q hq=>hS q (bg _ hq));rw [ub,RC];refine⟨fun p hp=>?_,fun p hp=>?_⟩
  ·rcases List.mem_cons.mp hp with rfl | hp
   ·exact b1
   ·exact h1 p hp
  ·rcases List.mem_append.mp hp with hp | hp
   ·exact b2 p hp
   ·exact h2 p hp
noncomputable def CB:Nat->List Bool->Pr T3
 | _,[]=>[]
 | k,w :: ws=>js ((k:Int)+1) w++CB (k+1) ws
theorem OI(cs:List Int):∀ (ws:List Bool) (k:Nat),(CB k ws).map (fun p=>(v3 cs p.1,v3 cs p.2))=RC cs k ws
 | [],_=>rfl
 | w :: ws,k=>by rw [CB,bq,OI cs ws,RC]; rfl
theorem JZ:∀ (ws:List Bool) (k:Nat),(CB k ws).length=2 * ws.length
 | [],_=>rfl
 | w :: ws,k=>by
  have:(js ((k:Int)+1) w).length=2:=by cases w <;> rfl
  rw [CB,az,this,JZ ws,ah]; lia
theorem O5(g:Good n cs):∀ c∈cs,ab c=1\/ab c=2:=fun c hc=>by
 obtain⟨h1,_,h⟩:=g;have:=h c hc;lia
noncomputable def us(cs:List Int):Bool×Bool×Bool:=Sg (false,false,false) cs
theorem JY(cs:List Int):∀ (ws:List Bool) (k:Nat) (pre:List Int),pre.length=k->ws.length=(cs.drop k).length->∀ p∈CB k ws,∃ (pre:List Int) (c:Int) (post:List Int) (w:Bool),cs=pre++c :: post/\pre.length < cs.length/\p∈js ((pre.length:Int)+1) w
 | [],k,pre,_,_,p,hp=>(nomatch hp)
 | w :: ws,k,pre,hk,hl,p,hp=>by
  have hd:k < cs.length:=by rw [cC,ah] at hl; lia
  rw [CB] at hp;rcases List.mem_append.mp hp with hp | hp
  ·refine⟨cs.take k,cs[k],cs.drop (k+1),w,?_,?_,?_⟩
   ·rw [<-fb hd,mB]
   ·rw [gj]; lia
   ·rw [gj,Gj (by lia)]; exact hp
  ·exact JY cs ws (k+1) (pre++[0]) (by rw [az,hk]; rfl) (by rw [cC,ah] at hl; rw [cC]; lia) p hp
theorem YF:∀ (m k i:Nat),i<=m->∀ j:Int,(1<=j/\j<=3)->(⟨((k+i:Nat):Int),j⟩:T2)∈kO k++Jf k m
 | m,k,0,_,j,hj=>by
  refine bB _ ?_;obtain rfl | rfl | rfl:j=1\/j=2\/j=3:=by lia
  all_goals simp [kO]
 | 0,k,i+1,h,j,hj=>by lia
 | m+1,k,i+1,h,j,hj=>by
  have:=YF m (k+1) i (by lia) j hj;rw [show k+1+i=k+(i+1) by lia] at this;refine bg _ ?_;rw [Jf];exact this
theorem rings(g:Good n cs){ws:List Bool}(hl:ws.length=cs.length)(ok:Ok (fr (mH n cs)) (CB 0 ws)):DE (us cs)+cls (fr (mH n cs)) (CB 0 ws)=(run 0 (wd cs ws)).2+JL.fin (run 0 (wd cs ws)).1:=by
 have hc:=O5 g;have wl:(wd cs ws).length=cs.length:=by unfold wd; rw [aE,jd,hl]; lia
 have s:=Sj (wd cs ws) YK;rw [wl,aL,dZ] at s;have n1:=closed s;have t:=Xy (fun c h=>by rcases Vt h with ⟨_,a2,a3⟩ | ⟨_,a2,a3⟩ <;> rw [a2,a3] <;> rfl) cs hc cu0;rw [aL,dZ] at t;have n0:=Ik t;have YM:∀ p∈M9 0 (wd cs ws)++Ac cs.length,Cn (Ju cs++RC cs 0 ws) p.1 p.2:=fun p hp=>by
  rcases List.mem_append.mp hp with hp | hp
  ·exact KD cs [] ws rfl hl hc (fun q hq=>bB _ (bB _ hq)) (fun q hq=>bg _ hq) p hp
  ·exact .pair (bB _ (bg _ hp))
 have YL:∀ p∈Ju cs++RC cs 0 ws,Cn (M9 0 (wd cs ws)++Ac cs.length) p.1 p.2:=fun p hp=>by
  obtain⟨b1,b2⟩:=KG (cs:=cs) cs [] ws (X:=M9 0 (wd cs ws)++Ac cs.length) rfl hl hc (fun q hq=>bB _ hq);rcases List.mem_append.mp hp with hp | hp
  ·rcases List.mem_append.mp hp with hp | hp
   ·exact b1 p hp
   ·exact .pair (bg _ hp)
  ·exact b2 p hp
 have n2:Nc (kO 0++Jf 0 cs.length) (Cn (Ju cs++(CB 0 ws).map fun p=>(v3 cs p.1,v3 cs p.2))) ((run 0 (wd cs ws)).2+JL.fin (run 0 (wd cs ws)).1):=by
  rw [OI];exact n1.congr fun x y=>⟨PC YM,PC YL⟩
 have inV:∀ p∈CB 0 ws,v3 cs p.1∈kO 0++Jf 0 cs.length/\v3 cs p.2∈kO 0++Jf 0 cs.length:=fun p hp=>by
  obtain⟨pre,c,post,w,e,hw,hm⟩:=JY cs ws 0 [] rfl hl p hp;obtain⟨e1,e2,e3,e4⟩:=PA e;have Qs:=hc c (by rw [e]; simp);have lv:pre.length < cs.length:=by rw [e]; simp
  have a1:∀ j:Int,(1<=j/\j<=3)->(⟨pre.length,j⟩:T2)∈kO 0++Jf 0 cs.length:=fun j hj=>by have:=YF cs.length 0 pre.length (by lia) j hj; rw [dZ] at this; exact this
  have a2:∀ j:Int,(1<=j/\j<=3)->(⟨(pre.length:Int)+1,j⟩:T2)∈kO 0++Jf 0 cs.length:=fun j hj=>by
   have:=YF cs.length 0 (pre.length+1) (by lia) j hj;rw [show ((0+(pre.length+1):Nat):Int)=(pre.length:Int)+1 by lia] at this;exact this
  unfold js at hm;split at hm <;> simp only [a9,bI,or_false] at hm <;> rcases hm with rfl | rfl <;> simp only [e1,e2,e3,e4] <;> refine⟨?_,?_⟩ <;> first | exact a1 _ (by split <;> lia) | exact a2 _ (by split <;> lia)
 have:=go (cv:=v3 cs) (CB 0 ws) (fr (mH n cs)) (Ju cs) _ _ ok (YS g) inV n0 n2;rw [JZ,hl] at this;show DE (Sg (false,false,false) cs)+_=_;lia
end JL
namespace JL
open K2.P K2.wg K2.zr K2.MK K2.J K2.JB K2.JK
variable {n:Int} {cs:List Int}
noncomputable def w9(cs:List Int)(t:Int):Bool:=cs.all fun c=>!(decide (t=ab c)||decide (t=ab c+1))
theorem uT{t:Int}:w9 cs t=true↔∀ c∈cs,¬ (t=ab c\/t=ab c+1):=by
 unfold w9;rw [eM];constructor
 ·intro h c hc z;have:=h c hc;simp at this;lia
 ·intro h c hc;have:=h c hc;simp;lia
theorem CW:∀ (cs:List Int) (k t:Int),ij k cs t=[]↔w9 cs t=true
 | [],k,t=>⟨fun _=>rfl,fun _=>rfl⟩
 | c :: cs,k,t=>by
  rw [ij];by_cases h:t=ab c\/t=ab c+1
  ·rw [if_pos h];refine⟨fun z=>by simp at z,fun z=>absurd h (uT.mp z c (by simp))⟩
  ·have es:kX t c=t:=by unfold kX; rw [if_neg (fun z=>h (.inl z)),if_neg (fun z=>h (.inr z))]
   rw [if_neg h,aL,es,CW cs,uT,uT];refine⟨fun z d hd=>?_,fun z d hd=>z d (au _ hd)⟩;rcases List.mem_cons.mp hd with rfl | hd
   ·exact h
   ·exact z d hd
theorem Kh{t:Int}(h:w9 cs t=true):jY cs t=t:=by
 have h:=uT.mp h;exact(JS cs (fun ⟨c,hc,e⟩=>h c hc (.inl e.symm)) (fun ⟨c,hc,e⟩=>h c hc (.inr (by lia)))).1
theorem UG(g:Good n cs):lo (mH n cs)=((fQ n).filter (w9 cs)).length:=by
 obtain⟨gs,e,h2,hp⟩:=Dk W0 g;rw [Fj] at e;have gnd:gs.flatten.Nodup:=hp.nodup_iff.mpr (Ja n);rw [<-(hp.filter (w9 cs)).length_eq];have e':mH n cs=gs.map fun g=>kY (g.flatMap (ij 1 cs)):=by
  rw [e];refine cQ fun g _=>?_;rw [show tV W0=id from by funext q; rfl,ib]
 unfold lo;rw [e'];clear e e' hp;induction gs with
 | nil=>rfl
 | cons g gs ih =>
  have nd:=gnd;rw [dW,dS] at nd;have ih:=ih (fun g hg=>h2 g (au _ hg)) nd.2.1;have hc:=h2 g (by simp);rw [aj,bV,dW,eC,az,<-ih];have sl:(kY (g.flatMap (ij 1 cs))).isEmpty=(g.flatMap (ij 1 cs)).isEmpty:=by
   have:=(MK.AH (g.flatMap (ij 1 cs))).length_eq;cases ha:kY (g.flatMap (ij 1 cs)) with
   | nil =>
    cases hb:g.flatMap (ij 1 cs) with
    | nil=>rfl
    | cons _ _=>rw [ha,hb] at this; cases this
   | cons _ _ =>
    cases hb:g.flatMap (ij 1 cs) with
    | nil=>rw [ha,hb] at this; cases this
    | cons _ _=>rfl
  rw [sl];by_cases c:(g.flatMap (ij 1 cs))=[]
  ·have yN:∀ t∈g,w9 cs t=true:=fun t ht=>(CW cs 1 t).mp (by
    cases hd:ij 1 cs t with
    | nil=>rfl
    | cons x l =>
     have:x∈g.flatMap (ij 1 cs):=List.mem_flatMap.mpr ⟨t,ht,by rw [hd]; simp⟩;rw [c] at this; cases this)
   rw [c];cases g with
   | nil=>exact hc.elim
   | cons t g =>
    have one:=Ks hc nd.1 (show t∈t :: g by simp) (Kh (yN t (by simp)));rw [one];have:=yN t (by simp);simp [this];lia
  ·have none:g.filter (w9 cs)=[]:=by
    rw [List.filter_eq_nil_iff];intro t ht z;have one:=Ks hc nd.1 ht (Kh z);rw [one] at c;exact c (by simp [(CW cs 1 t).mpr z])
   rw [none];have:(g.flatMap (ij 1 cs)).isEmpty=false:=by
    cases hq:g.flatMap (ij 1 cs) with
    | nil=>exact absurd hq c
    | cons _ _=>rfl
   rw [this];simp
theorem MY:∀ (cs:List Int) (u:Bool×Bool×Bool),(∀ c∈cs,ab c=1\/ab c=2)->Sg u cs=(u.1||!w9 cs 1,u.2.1||!w9 cs 2,u.2.2||!w9 cs 3)
 | [],u,_=>by simp [Sg,w9]
 | c :: cs,u,h=>by
  rw [Sg,MY cs _ fun d hd=>h d (au _ hd)];have f:∀ t,w9 (c :: cs) t=(!(decide (t=ab c)||decide (t=ab c+1))&&w9 cs t):=fun t=>by unfold w9; rw [sD]
  rw [f,f,f];rcases h c (by simp) with a | a <;> have b:bl c=decide (ab c=2):=rfl <;> rw [a] at b ⊢ <;> rw [show bl c=_ from b] <;> obtain⟨u1,u2,u3⟩:=u <;> cases u1 <;> cases u2 <;> cases u3 <;> simp [YG]
theorem U8(g:Good n cs):(DE (us cs):Int)=lo (mH n cs)+(3 - n):=by
 have hc:=O5 g;rw [UG g];obtain⟨h1,hl,h⟩:=g;unfold us;rw [MY cs _ hc];have up:∀ t:Int,n < t->w9 cs t=true:=fun t ht=>uT.mpr fun c Qs z=>by have:=h c Qs; lia
 have O4:n=1\/n=2\/n=3:=by lia
 rcases O4 with rfl | rfl | rfl
 ·have a:=up 2 (by decide);have b:=up 3 (by decide);show _=((([1]:List Int).filter (w9 cs)).length:Int)+_;unfold DE;rw [a,b];cases hf:w9 cs 1 <;> simp [hf]
 ·have b:=up 3 (by decide);show _=((([1,2]:List Int).filter (w9 cs)).length:Int)+_;unfold DE;rw [b];cases h1:w9 cs 1 <;> cases h2:w9 cs 2 <;> simp [h1,h2]
 ·show _=((([1,2,3]:List Int).filter (w9 cs)).length:Int)+_;unfold DE;cases h1:w9 cs 1 <;> cases h2:w9 cs 2 <;> cases h3:w9 cs 3 <;> simp [h1,h2,h3]
end JL
end K2
end
section
namespace K2
open PySem (Str)
open Enc (enc)
namespace JB
open K2.P K2.J
open K2.Y (Po L ND NZ d0 iB e9 Pl HY)
variable {rows:Rows}
noncomputable def wr(rows:Rows):Int:=((names rows).map (handOf rows)).sum
noncomputable def hs(L:List T3):Int:=((L.filter fun p=>p.b == 0).map (·.c)).sum
noncomputable def Zi(L:List T3):List (Int×Int):=(L.filter fun p=>p.b == 0).map fun p=>(p.a,p.c)
theorem Ro(d:Dr rows):(nh rows).Perm (Zi rows.flatten):=by
 unfold nh names;refine((uc _).map _).trans ?_;rw [bC];unfold Zi;have:((rows.flatten.filter fun p=>p.b == 0).map ((fun n=>(n,handOf rows n))∘fun p:T3=>p.a))=(rows.flatten.filter fun p=>p.b == 0).map fun p=>(p.a,p.c):=by
  refine cQ fun p hp=>?_;show (p.a,handOf rows p.a)=_;rw [Kc d (List.mem_filter.mp hp).1]
 rw [this]
end JB
end K2
end
section
set_option maxHeartbeats 1000000
end
section
namespace K2
open Enc (enc)
namespace JD
open K2.P K2.J K2.JB
section
variable {nm:Nat->Int} (inj:∀ i j,i < 12->j < 12->vv nm i=vv nm j->i=j)
include inj
omit inj in
end
noncomputable def Uj(o:Bool)(p q:T3):List T3:=if o then [p,q] else [q,p]
noncomputable def Y7(a b c h0 h1 h2:Int)(o m u:Bool):List (List T3):=[Uj o ⟨a,0,h0⟩ ⟨b,0,h1⟩,Uj m ⟨a,1,h0⟩ ⟨c,0,h2⟩,Uj u ⟨b,1,h1⟩ ⟨c,1,h2⟩]
end JD
namespace JE
open K2.P K2.J K2.JB
noncomputable def ex(X:Int)(p:T3):T3:=if p.a=X then ⟨X,1 - p.b,-p.c⟩ else p
end JE
namespace JF
open K2.P K2.J K2.JB
noncomputable def rf(p:T3):T3:=⟨p.a,p.b,-p.c⟩
end JF
end K2
end
section
namespace K2
namespace JL
open K2.P K2.wg K2.zr K2.MK K2.J K2.JB K2.JK
variable {n:Int} {cs:List Int}
noncomputable def sg(c:Int):Int:=if c > 0 then 1 else -1
noncomputable def Lw:Nat->List Int->List (Int×Int)
 | _,[]=>[]
 | k,c :: cs=>((k:Int)+1,sg c) :: Lw (k+1) cs
noncomputable def SB:Nat->(List Bool->Int)->Int
 | 0,F=>F []
 | m+1,F=>SB m (fun ws=>F (false :: ws))+SB m fun ws=>F (true :: ws)
theorem oD:∀ (m:Nat) {F F':List Bool->Int},(∀ ws,ws.length=m->F ws=F' ws)->SB m F=SB m F'
 | 0,F,F',h=>h [] rfl
 | m+1,F,F',h=>by
  show SB m _+SB m _=SB m _+SB m _;rw [oD m fun ws hw=>h (false :: ws) (by rw [ah,hw]),oD m fun ws hw=>h (true :: ws) (by rw [ah,hw])]
noncomputable def pw:List Int->List Bool->Int
 | c :: cs,w :: ws=>(if w=true then -sg c else sg c)+pw cs ws
 | _,_=>0
theorem To:∀ (rest:List Int) (k:Nat) (f:T3->T3) (g:Fn),Br f (Lw k rest) g=SB rest.length fun ws=>gH (cls f (CB k ws)) (sh (pw rest ws) g) 0
 | [],k,f,g=>by
  show g 0=sh 0 g 0;rw [xh]
 | c :: rest,k,f,g=>by
  have st:∀ (w:Bool) (h:Int),(if w=true then -sg c else sg c)=h->Br (kR f (js ((k:Int)+1) w)) (Lw (k+1) rest) (gH (cls f (js ((k:Int)+1) w)) (sh h g))=SB rest.length fun ws=>gH (cls f (CB k (w :: ws))) (sh (pw (c :: rest) (w :: ws)) g) 0:=fun w h e=>by
   rw [To rest (k+1)];refine oD _ fun ws _=>?_;rw [CB,pA,pw,e,<-kb,pL,<-uG,QC,eQ h]
  show Br _ (Lw (k+1) rest) _+Br _ (Lw (k+1) rest) _=SB rest.length _+SB rest.length _;rw [st false (sg c) rfl,st true (-sg c) rfl]
noncomputable def qb(n:Nat):Nat->Nat
 | 0=>n
 | 1=>n - 1
 | 2=>2
 | _=>1
noncomputable def W(n:Nat):List Int->Nat->Fn->Int
 | [],π,g=>gH (qb n π) g 0
 | c :: cs,π,g=>W n cs π (sh (sg c) g)+W n cs ((tb (bl c)).getD π (0,0)).1 (gH ((tb (bl c)).getD π (0,0)).2 (sh (-sg c) g))
theorem Vv(n:Nat):∀ (rest:List Int) (π:Nat) (g:Fn),W n rest π g=SB rest.length fun ws=>gH ((run π (wd rest ws)).2+qb n (run π (wd rest ws)).1) (sh (pw rest ws) g) 0
 | [],π,g=>by
  show gH (qb n π) g 0=gH (0+qb n π) (sh 0 g) 0;rw [xh,dZ]
 | c :: rest,π,g=>by
  rw [W,Vv n rest,Vv n rest];show _=SB rest.length _+SB rest.length _;congr 1
  ·refine oD _ fun ws _=>?_;show _=gH ((run π ((bl c,false) :: wd rest ws)).2+qb n (run π ((bl c,false) :: wd rest ws)).1) (sh (sg c+pw rest ws) g) 0;rw [run,pL,eQ (sg c)]
  ·refine oD _ fun ws _=>?_;show _=gH ((run π ((bl c,true) :: wd rest ws)).2+qb n (run π ((bl c,true) :: wd rest ws)).1) (sh (-sg c+pw rest ws) g) 0;rw [run,<-kb,pL,<-uG,eQ (-sg c)];congr 1;generalize (run ((tb (bl c)).getD π (0,0)).1 (wd rest ws))=r;rw [QC,<-jA]
theorem Nv:∀ (l:List (Bool×Bool)) (π:Nat),(∀ x∈l,x.1=false)->π<=1->(run π l).1<=1
 | [],π,_,h=>h
 | (b,false) :: l,π,hb,h=>by rw [run]; exact Nv l π (fun x hx=>hb x (au _ hx)) h
 | (b,true) :: l,π,hb,h=>by
  have:b=false:=hb (b,true) (by simp);subst this;rw [run];refine Nv l _ (fun x hx=>hb x (au _ hx)) ?_;obtain rfl | rfl:π=0\/π=1:=by lia
  all_goals decide
theorem TX:∀ (l:List (Bool×Bool)) (π:Nat),π<=4->(run π l).1<=4
 | [],π,h=>h
 | (b,false) :: l,π,h=>by rw [run]; exact TX l π h
 | (b,true) :: l,π,h=>by
  rw [run];refine TX l _ ?_;obtain rfl | rfl | rfl | rfl | rfl:π=0\/π=1\/π=2\/π=3\/π=4:=by lia
  all_goals cases b <;> decide
theorem Xr(g:Good n cs){ws:List Bool}(hl:ws.length=cs.length):(JL.fin (run 0 (wd cs ws)).1:Int)=qb n.toNat (run 0 (wd cs ws)).1+(3 - n):=by
 have h4:=TX (wd cs ws) 0 (by decide);obtain⟨h1,_,h⟩:=id g;have O4:n=1\/n=2\/n=3:=by lia
 rcases O4 with rfl | rfl | rfl
 ·have:cs=[]:=by
   cases cs with
   | nil=>rfl
   | cons c cs=>have:=h c (by simp); lia
  subst this;have:wd [] ws=[]:=by unfold wd; simp
  rw [this]; rfl
 ·have h01:=Nv (wd cs ws) 0 (fun x hx=>by
   obtain⟨p,hp,rfl⟩:=List.mem_map.mp hx;have:=h p.1 (vo hp).1;show bl p.1=false;unfold bl;exact decide_eq_false (by lia)) (by decide)
  generalize (run 0 (wd cs ws)).1=π at h01;obtain rfl | rfl:π=0\/π=1:=by lia
  all_goals rfl
 ·generalize (run 0 (wd cs ws)).1=π at h4;obtain rfl | rfl | rfl | rfl | rfl:π=0\/π=1\/π=2\/π=3\/π=4:=by lia
  all_goals rfl
theorem Cq:∀ (rest:List Int) (k:Nat) (x:Int×Int),x∈Lw k rest↔∃ pre c post,rest=pre++c :: post/\x=(((k+pre.length:Nat):Int)+1,sg c)
 | [],k,x=>⟨fun h=>(nomatch h),fun ⟨pre,c,post,e,_⟩=>by simp at e⟩
 | c :: rest,k,x=>by
  rw [Lw,a9,Cq rest (k+1)];constructor
  ·rintro(rfl | ⟨pre,d,post,rfl,rfl⟩)
   ·exact⟨[],c,rest,rfl,rfl⟩
   ·refine⟨c :: pre,d,post,rfl,?_⟩;rw [ah,show k+1+pre.length=k+(pre.length+1) by lia]
  ·rintro⟨pre,d,post,e,rfl⟩;cases pre with
   | nil =>
    injection e with e1 e2
    subst e1;exact .inl rfl
   | cons y pre =>
    rw [aG] at e;injection e with e1 e2
    refine .inr ⟨pre,d,post,e2,?_⟩;rw [ah,show k+1+pre.length=k+(pre.length+1) by lia]
theorem N9:∀ (rest:List Int) (k:Nat),(Lw k rest).Nodup
 | [],_=>cA
 | c :: rest,k=>by
  rw [Lw,aQ];refine⟨fun z=>?_,N9 rest (k+1)⟩;obtain⟨pre,d,post,_,e⟩:=(Cq rest (k+1) _).mp z;have:=congrArg Prod.fst e;simp only at this;lia
theorem Uw(g:Good n cs):(nh (mH n cs)).Perm (Lw 0 cs):=by
 have d:=C7 g;have nd:(nh (mH n cs)).Nodup:=by
  have:=JB.uB d;unfold nh;refine rJ this fun x _ y _ e=>?_;exact congrArg Prod.fst e
 rw [List.perm_ext_iff_of_nodup nd (N9 cs 0)];intro x;rw [(Ro d).mem_iff,Cq];unfold Zi;rw [BK];constructor
 ·rintro⟨p,hp,rfl⟩;obtain⟨pre,c,post,x,e,hx,hi,rfl⟩:=xu g (List.mem_filter.mp hp).1;exact⟨pre,c,post,e,by rw [dZ]; rfl⟩
 ·rintro⟨pre,c,post,e,rfl⟩;obtain⟨_,_,hc⟩:=id g;have Qs:=hc c (by rw [e]; simp);have one:∀ x,(x=ab c\/x=ab c+1)->l0 ((pre.length:Int)+1) c x∈(mH n cs).flatten:=fun x hi=>by
   rw [<-Fj];refine(pC W0 g).mpr ⟨pre,c,post,x,e,by lia,hi,?_⟩;rw [show (1:Int)+pre.length=pre.length+1 by lia]; rfl
  by_cases h:c > 0
  ·refine⟨_,List.mem_filter.mpr ⟨one (ab c+1) (.inr rfl),?_⟩,?_⟩
   ·unfold l0; simp [h]
   ·rw [dZ]; rfl
  ·refine⟨_,List.mem_filter.mpr ⟨one (ab c) (.inl rfl),?_⟩,?_⟩
   ·unfold l0; simp [h]; lia
   ·rw [dZ]; rfl
theorem Hx:∀ (ws:List Bool) (k:Nat) (rest:List Int),ws.length=rest.length->(es (CB k ws)).Perm (((Lw k rest).map (·.1)).flatMap j6)
 | [],k,[],_=>.refl _
 | [],k,_ :: _,h=>by cases h
 | _ :: _,k,[],h=>by cases h
 | w :: ws,k,c :: rest,h=>by
  rw [CB,oA,Lw,aj,eY];exact(jg _ _).append (Hx ws (k+1) rest (by simpa using h))
theorem XF(g:Good n cs)(γ:Fn):brk (mH n cs) γ=W n.toNat cs 0 γ:=by
 have d:=C7 g;have dm:=Xn d;have pm:=Uw g;have dm1:Dm (fr (mH n cs)) ((nh (mH n cs)).map (·.1)):=by
  rw [show (nh (mH n cs)).map (·.1)=names (mH n cs) from Cp _ _]; exact dm
 have dm2:Dm (fr (mH n cs)) ((Lw 0 cs).map (·.1)):=dm1.perm (pm.map _);unfold brk;rw [Sf pm dm1,To,Vv];refine oD _ fun ws hw=>?_;have ok:Ok (fr (mH n cs)) (CB 0 ws):=⟨dm2.iv,(Hx ws 0 cs hw).nodup_iff.mpr (Xp dm2.nd),fun e he=>by
  obtain⟨i,hi,h⟩:=List.mem_flatMap.mp ((Hx ws 0 cs hw).mem_iff.mp he);exact dm2.dm i hi e h⟩
 have r:=rings g hw ok;have f1:=U8 g;have f2:=Xr g hw;obtain⟨h1,_⟩:=g;rw [<-kb,<-uG,show J.cls (fr (mH n cs)) (CB 0 ws)+lo (mH n cs)=(run 0 (wd cs ws)).2+qb n.toNat (run 0 (wd cs ws)).1 by lia]
end JL
end K2
end
section
namespace K2
open PySem (Str)
open Enc (enc)
namespace wg
open K2.P
noncomputable def EB(n c:Int):Int:=(1+c / 2 % (n - 1)) * (1 - 2 * (c % 2))
noncomputable def JN(n:Int)(ns:List Int):List Int:=if n > 1 then ns.map (EB n) else []
noncomputable def gv:nj:=fun ds G Q _=>∃ (d:D) (ns:List Int) (n:Int),ds=[d,.int n]/\IsL G d (ns.map D.int)/\(ns.length<=1000/\n<=1000)/\∀ p,G p=none->Q (.ref p) (cT G p (.lst ((JN n ns).map D.int)))
noncomputable def qD:iP :=
 (b7 (bJ (mr aT) (aI 2))
 (b7 (eB (si (ax 0)) (aI 3) (gU (jo (bH T7 (ax 1) (dC (.int 1)))) (eT (qh xT kh (ax 2) (ar (bH Lf (bH ku (dC (.int 1)) (bH GQ (bH Jr (ax 3) (dC (.int 2))) (bH D6 (ax 1) (dC (.int 1))))) (bH D6 (dC (.int 1)) (bH Lf (dC (.int 2)) (bH GQ (ax 3) (dC (.int 2)))))) aT))) eA))
 (cR (d4 (ax 2)))))
theorem rm(ds:List D)(G:Gp)(Q:DK)(h:gv ds G Q fun _ _=>False):qD (fun _ _=>False) (ends Q) (bA 4 ds) G:=by
 obtain⟨d,ns,n,rfl,hd,⟨hl,hn⟩,q⟩:=h;unfold qD;simp only [ends,bA,aj,aW,ah,aA,bo,aG,aL,cg,bJ,mr,aT,aI,ao,ak];refine⟨by decide,fun a ha=>?_⟩;have hd2:IsL (cT G a (.lst [])) d (ns.map D.int):=hd.mono (.new ha);refine eF (fun τ G'=>(∃ x,τ=[some d,some (.int n),some (.ref a),x])/\fJ G G'/\G' a=some (.lst ((JN n ns).map D.int))) ?_ ?_
 ·intro N hN;simp only [eB,gR,ax,aa];have key:∀ ok:Gp->Prop,(∀ G',fJ G G'->ok G')->oz (aI 3) (gU (jo (bH T7 (ax 1) (dC (.int 1)))) (eT (qh xT kh (ax 2) (ar (bH Lf (bH ku (dC (.int 1)) (bH GQ (bH Jr (ax 3) (dC (.int 2))) (bH D6 (ax 1) (dC (.int 1))))) (bH D6 (dC (.int 1)) (bH Lf (dC (.int 2)) (bH GQ (ax 3) (dC (.int 2)))))) aT))) eA) ok (ns.map D.int) (fun _ _=>False) { ends Q with nx:=N } [some d,some (.int n),some (.ref a),none] (cT G a (.lst [])):=by
   intro ok cp;refine dQ (xs:=ns) (fun pre τ G'=>(∃ x,τ=[some d,some (.int n),some (.ref a),x])/\fJ G G'/\G' a=some (.lst ((JN n pre).map D.int))) ⟨⟨_,rfl⟩,.new ha,by rw [aC]; unfold JN; split <;> rfl⟩ (fun _ _ _ h=>cp _ h.2.1) ?_ ?_
   ·rintro pre c post τ G' N2 e ⟨⟨x,rfl⟩,l,ga⟩ jh;have A8:pre.length<=1000:=by
     have:=congrArg cV e;simp at this;lia
    simp only [aI,gU,ao,ak,eT,qh,ax,ae,aa,mT,ar,bH,dC,aT,iD,qF,uo,nZ,rE,ff,eA,dE,rD,cP];by_cases h:n > 1
    ·rw [if_pos (decide_eq_true h)];have el:JN n (pre++[c])=JN n pre++[EB n c]:=by unfold JN; rw [if_pos h,if_pos h,bq]; rfl
     rw [el] at jh;simp only [ga];refine⟨trivial,by decide,by decide,by lia,by decide,.inl (by decide),.inr ?_,?_⟩
     ·lia
     ·refine⟨QL ?_,jh _ _ ⟨⟨_,rfl⟩,l.put ha,?_⟩⟩
      ·unfold JN; rw [if_pos h]; simp; exact A8
      ·rw [aC,bq]; rfl
    ·rw [if_neg (by simp; lia)];refine jh _ _ ⟨⟨_,rfl⟩,l,?_⟩;rw [ga]; unfold JN; rw [if_neg h,if_neg h]
   ·rintro τ G' ⟨⟨x,rfl⟩,l,ga⟩;exact hN _ _ ⟨⟨_,rfl⟩,l,ga⟩
  rcases hd with rfl | ⟨b,rfl,e⟩
  ·exact key _ fun _ _=>trivial
  ·have hba:b≠a:=fun z=>by rw [z,ha] at e; cases e
   rw [xq (show cT G a (.lst []) b=some (.lst (ns.map D.int)) by rw [ck hba]; exact e)];exact key _ fun G' l=>l b _ e
 ·rintro _ G' ⟨⟨x,rfl⟩,l,ga⟩;simp only [cR,d4,ax,ae,aa];exact HK l ha ga (q a ha)
end wg
namespace JM
open K2.J
open K2.Y (Po L ND NZ d0 pY eL fM plus iB cN Pl AW gQ iE gT jL jP nQ o6)
noncomputable def wC:iP :=
 (eB (gx (ax 1)) (gz (cq (aI 4) (cq (aI 5) gf))) (bJ (bH ku (qh Ql Ho (ax 0) (ar (bH ku (ax 4) (ax 2)) (ar (dC (.int 0)) aT))) (bH D7 (ax 5) (ax 3))) (lj (ax 0) (bH ku (ax 4) (ax 2)))))
noncomputable def d8:nj:=fun ds G Q _=>∃ (p:Nat) (a m:Po) (b f:Int),ds=[.ref p,.gN (aS m),.int b,.int f]/\(G p=some (.eV (aS a))/\a.length+m.length<=SZ/\d0 m < mP/\f.natAbs < mP)/\Q .eg (cT G p (.eV (aS (fM m a (b,f)))))
theorem MZ{G G':Gp}{p:Nat}{o:GO}(h:G' p=some o)(k:∀ q,q≠p->G' q=G q):G'=cT G p o:=by
 funext q;by_cases e:q=p
 ·rw [e,aC,h]
 ·rw [ck e,k q e]
theorem vX{m:Po}{G:Gp}{R:List D->(Gp->Prop)->Gp->Prop}(k:R (m.map fun p=>.tup [.int p.1,enc p.2]) (fun _=>True) G):yK (.gN (aS m)) G R:=by
 refine⟨lG m,?_⟩;have:(aS m).map (fun p=>D.tup [p.1,p.2])=m.map fun p=>.tup [.int p.1,enc p.2]:=by unfold aS; rw [bC]; rfl
 rw [this]; exact k
theorem Fx(ds:List D)(G:Gp)(Q:DK)(h:d8 ds G Q fun _ _=>False):wC (fun _ _=>False) (ends Q) (bA 6 ds) G:=by
 obtain⟨p,a,m,b,f,rfl,⟨gp,hl,hb,hf⟩,q⟩:=h;unfold wC;simp only [eB,gx,ax,bA,aj,aW,ah,aA,bo,aG,aL,ae,aa,ends];refine vX ?_;refine dQ (xs:=m) (fun pre τ G'=>(∃ u v,τ=[some (.ref p),some (.gN (aS m)),some (.int b),some (.int f),u,v])/\G' p=some (.eV (aS (fM pre a (b,f))))/\∀ q,q≠p->G' q=G q) ⟨⟨_,_,rfl⟩,gp,fun _ _=>rfl⟩ (fun _ _ _ _=>trivial) ?_ ?_
 ·rintro pre x post τ G' N2 e ⟨⟨u,v,rfl⟩,Xl,k⟩ jh;have hlen:(fM pre a (b,f)).length < SZ:=by
   have:=gT pre a (b,f);have:=gQ e; lia
  have hx:x.2.natAbs < mP:=dI (o6 (by rw [e]; simp)) hb;simp only [gz,cq,aI,gf,bJ,bH,qh,ax,ao,ak,iE,aa,oP,ar,ae,dC,aT,lj,ff,lC];refine⟨Gv (zt.ref Xl),AW (zt.ref Xl) ?_⟩;simp only [ff];refine⟨⟨hx,hf⟩,?_⟩;refine fP (α:=Int) Xl hlen ?_;refine jh _ _ ⟨⟨_,_,rfl⟩,?_,fun q hq=>by rw [ck hq]; exact k q hq⟩;rw [aC]
  conv=>rhs; rw [fM,fO]
  show _=some (GO.eV (aS (plus (fM pre a (b,f)) (b+x.1,f * x.2))));rw [eQ b,QD f]; rfl
 ·rintro τ G' ⟨_,Xl,k⟩;rw [MZ Xl k]; exact q
noncomputable def SK(m:Po):Po:=fM m (fM m [] (2,-1)) (-2,-1)
theorem JP(m:Po):(SK m).length<=2 * m.length:=by
 have h1:=gT m (fM m [] (2,-1)) (-2,-1);have h2:=gT m [] (2,-1);rw [aA] at h2;unfold SK; lia
theorem JO(m:Po):d0 (SK m)<=2 * d0 m:=by
 have h1:=jP (-2,-1) m (fM m [] (2,-1)) (jL (by unfold ND; simp) _);have h2:=jP (2,-1) m [] (by unfold ND; simp);have h3:d0 []=0:=rfl;rw [h3] at h2;simp only [show ((-1:Int)).natAbs=1 by decide] at h1 h2;unfold SK; lia
theorem SJ(g:Fn)(m:Po):L g (SK m)=L (lp g) m:=by
 unfold SK;rw [nQ _ _ _ _ (jL (by unfold ND; simp) _),nQ _ _ _ _ (by unfold ND; simp)];have e:lp g=fun i=>(-1) * g (2+i)+(-1) * g (-2+i):=by
  funext i; unfold lp;rw [eQ i 2,show i - 2=-2+i by lia]; lia
 rw [e,Y.KI,Y.P7,Y.P7];show 0+(-1) * L (fun j=>g (2+j)) m+(-1) * L (fun j=>g (-2+j)) m=_;lia
noncomputable def sH:iP :=
 (b7 (bJ jq (aI 1))
 (b7 (eT (bP d8 (ar (ax 1) (ar (ax 0) (ar (dC (.int 2)) (ar (E8 zS (dC (.int 1))) aT))))))
 (b7 (eT (bP d8 (ar (ax 1) (ar (ax 0) (ar (E8 zS (dC (.int 2))) (ar (E8 zS (dC (.int 1))) aT))))))
 (cR (d4 (ax 1))))))
noncomputable def gV:nj:=fun ds G Q _=>∃ m:Po,ds=[.gN (aS m)]/\(2 * m.length<=SZ/\d0 m < mP)/\Q (.gN (aS (SK m))) G
theorem Ap(ds:List D)(G:Gp)(Q:DK)(h:gV ds G Q fun _ _=>False):sH (fun _ _=>False) (ends Q) (bA 2 ds) G:=by
 obtain⟨m,rfl,⟨hl,hb⟩,q⟩:=h;unfold sH;simp only [ends,bA,aj,aW,ah,aA,bo,aG,aL,cg,bJ,jq,aI,ao,ak,kq,eT,bP,ar,ax,ae,aa,dC,E8,aT,cR,d4,kr];intro p hp;have h2:=gT m [] (2,-1);rw [aA] at h2;refine⟨p,[],m,2,-1,rfl,⟨aC,by rw [aA]; lia,hb,JB.iG (by decide)⟩,?_⟩;simp only [d4,bA,ends,dE,bH,E8,ax,u5,qh,ar,aT,cR,Pu,eT,bJ,aI,dC,eA,eP,mr,jq,u0,Vh,VT,qW,u6,C3,uY,Ii,mj,iO,gR,mf,bP,jz,ff,uq,qH,qG,nZ,uo,qF,rE,kr,rB,rC,rD,B5,jK,oe,xi,um,xj,qX,ze,v9,iD,jy,qL,kQ,mT,oP,BS,BR,true_and,and_true,xp,xn,ka,cP,j8,uO,CC,yJ,aj,aW,aG,aL,aa,ae,ak,ao,ah,aA,bo,if_true,if_false,cj,fK,aF,cg,kq,lj,gx,A6,yd,lC,wQ,gz,cq,gf];refine⟨p,fM m [] (2,-1),m,-2,-1,rfl,⟨aC,by lia,hb,JB.iG (by decide)⟩,?_⟩;simp only [d4,bA,ends,dE,bH,E8,ax,u5,qh,ar,aT,cR,Pu,eT,bJ,aI,dC,eA,eP,mr,jq,u0,Vh,VT,qW,u6,C3,uY,Ii,mj,iO,gR,mf,bP,jz,ff,uq,qH,qG,nZ,uo,qF,rE,kr,rB,rC,rD,B5,jK,oe,xi,um,xj,qX,ze,v9,iD,jy,qL,kQ,mT,oP,BS,BR,true_and,and_true,xp,xn,ka,cP,j8,uO,CC,yJ,aj,aW,aG,aL,aa,ae,ak,ao,ah,aA,bo,if_true,if_false,cj,fK,aF,cg,kq,lj,gx,A6,yd,lC,wQ,gz,cq,gf];exact gS (((fJ.new hp).put hp).put hp) hp aC q
end JM
namespace JM
open K2.J
open K2.Y (Po L ND NZ d0 pY eL fM plus iB cN Pl AW gQ iE gT jL jP nQ o6)
open K2.JL (tb bl sg W)
open K2.wg (ab Good vd)
noncomputable def tu(φ:Nat->Po->Int):Nat->List Po->Int
 | _,[]=>0
 | k,l :: s=>φ k l+tu φ (k+1) s
theorem sT(φ:Nat->Po->Int):∀ (fs:List Po) (k j:Nat) {x y:Po},fs[j]?=some y->tu φ k (fs.set j x)+φ (k+j) y=tu φ k fs+φ (k+j) x
 | [],k,j,x,y,h=>by simp at h
 | l :: s,k,0,x,y,h=>by
  simp at h; subst h;show φ k x+tu φ (k+1) s+φ k l=φ k l+tu φ (k+1) s+φ k x;lia
 | l :: s,k,j+1,x,y,h=>by
  have:=sT φ s (k+1) j (x:=x) (y:=y) (by simpa using h);rw [show k+(j+1)=k+1+j by lia];show φ k l+tu φ (k+1) (s.set j x)+_=φ k l+tu φ (k+1) s+_;lia
theorem oQ(φ:Nat->Po->Int):∀ (s:List Po) (k j:Nat) {y:Po},s[j]?=some y->tu φ k (s.take (j+1))=tu φ k (s.take j)+φ (k+j) y
 | [],k,j,y,h=>by simp at h
 | l :: s,k,0,y,h=>by
  simp at h; subst h;show φ k l+0=0+φ k l;lia
 | l :: s,k,j+1,y,h=>by
  have:=oQ φ s (k+1) j (y:=y) (by simpa using h);rw [show k+(j+1)=k+1+j by lia];show φ k l+tu φ (k+1) (s.take (j+1))=φ k l+tu φ (k+1) (s.take j)+_;lia
theorem vH{φ:Nat->Po->Int}(h:∀ k l,0<=φ k l):∀ (s:List Po) (k:Nat),0<=tu φ k s
 | [],_=>lP _
 | l :: s,k=>Int.add_nonneg (h k l) (vH h s (k+1))
theorem xV{φ:Nat->Po->Int}(h:∀ k l,0<=φ k l):∀ (s:List Po) (k j:Nat),tu φ k (s.take j)<=tu φ k s
 | [],k,j=>by rw [sC]; exact lP _
 | l :: s,k,0=>vH h (l :: s) k
 | l :: s,k,j+1=>Int.add_le_add_left (xV h s (k+1) j) _
noncomputable def BN:Nat->Po->Int:=fun _ l=>(l.length:Int)
noncomputable def KY:Nat->Po->Int:=fun _ l=>(d0 l:Int)
noncomputable def tt(F:Nat->Fn)(s:List Po):Int:=tu (fun π l=>L (F π) l) 0 s
noncomputable def FK(s:List Po):D:=.dJ (s.map fun l=>.gN (aS l))
structure Hd(G G':Gp)(q:Nat)(as:List Nat)(fs:List Po):Prop where
 le:fJ G G'
 fq:G q=none
 gq:G' q=some (.lst (as.map D.ref))
 nd:as.Nodup
 qa:q∉as
 fr:∀ a∈as,G a=none
 len:as.length=fs.length
 at':∀ (i a:Nat) (f:Po),as[i]?=some a->fs[i]?=some f->G' a=some (.eV (aS f))
theorem Hd.put{G G':Gp}{q:Nat}{as:List Nat}{fs:List Po}(h:Hd G G' q as fs){j a:Nat}(ja:as[j]?=some a)(x:Po):Hd G (cT G' a (.eV (aS x))) q as (fs.set j x):=by
 have ma:=eD ja;refine⟨h.le.put (h.fr a ma),h.fq,?_,h.nd,h.qa,h.fr,by rw [kJ]; exact h.len,fun i b f hi hf=>?_⟩
 ·rw [ck (show q≠a from fun z=>h.qa (by rw [z]; exact ma))]; exact h.gq
 ·by_cases e:i=j
  ·subst e;rw [ja] at hi;injection hi with hi
   subst hi;have:i < fs.length:=by rw [<-h.len]; exact(List.getElem?_eq_some_iff.mp ja).1
   rw [iS this] at hf;injection hf with hf
   rw [aC,hf]
  ·rw [jC (fun z=>e z.symm)] at hf;have:b≠a:=fun z=>by
    subst z;obtain⟨h1,h2⟩:=List.getElem?_eq_some_iff.mp hi;obtain⟨h3,h4⟩:=List.getElem?_eq_some_iff.mp ja;rcases Nat.lt_or_gt_of_ne e with lt | lt
    ·exact List.pairwise_iff_getElem.mp h.nd i j h1 h3 lt (h2.trans h4.symm)
    ·exact List.pairwise_iff_getElem.mp h.nd j i h3 h1 lt (h4.trans h2.symm)
   rw [ck this];exact h.at' i b f hi hf
theorem OY{G':Gp}{R:Nat->Bool}:∀ (as:List Nat) (fs:List Po),as.length=fs.length->(∀ a∈as,R a=true)->(∀ (i a:Nat) (f:Po),as[i]?=some a->fs[i]?=some f->G' a=some (.eV (aS f)))->FD G' R (as.map D.ref) (fs.map fun l=>.gN (aS l))
 | [],[],_,_,_=>.nil
 | [],_ :: _,h,_,_=>by cases h
 | _ :: _,[],h,_,_=>by cases h
 | a :: as,f :: fs,h,r,k=>.cons (.eV (k 0 a f rfl rfl) (r a (by simp)) (wj.same _)) (OY as fs (by simpa using h) (fun b hb=>r b (by simp [hb])) fun i b g h1 h2=>k (i+1) b g (by simpa using h1) (by simpa using h2))
theorem Hd.fz{G G':Gp}{q:Nat}{as:List Nat}{fs:List Po}(h:Hd G G' q as fs){Q:DK}(k:Q (FK fs) G):FV G' (.ref q) Q :=
 CJ h.le h.fq h.gq (OY as fs h.len (fun a ha=>by rw [h.fr a ha]; rfl) h.at') k
theorem Hd.row{G G':Gp}{q:Nat}{as:List Nat}{fs:List Po}(h:Hd G G' q as fs){j:Nat}{f:Po}(e:fs[j]?=some f):∃ a,as[j]?=some a/\G' a=some (.eV (aS f))/\qY (as.map D.ref) (j:Int)=some (.ref a):=by
 have hj:j < as.length:=by rw [h.len]; exact(List.getElem?_eq_some_iff.mp e).1
 refine⟨as[j],aq hj,h.at' j _ f (aq hj) e,?_⟩;unfold qY J2;rw [if_pos (by lia),if_pos (by rw [aE]; lia)];show (as.map D.ref)[((j:Int)).toNat]?=_;rw [cF,br,aq hj]; rfl
noncomputable def wB:iP :=
 (b7 (bJ (dC (.int 1)) (aI 2))
 (b7 (gU (jo (bH T5 (ax 1) (dC (.int 0)))) (bJ (E8 zS (dC (.int 1))) (aI 2)) eA)
 (b7 (bJ (eP (ar (eP (ar (dC (.int 1)) (ar (dC (.int 0)) aT))) (ar (eP (ar (dC (.int 1)) (ar (dC (.int 1)) aT))) (ar (eP (ar (dC (.int 4)) (ar (dC (.int 0)) aT))) (ar (eP (ar (dC (.int 1)) (ar (dC (.int 0)) aT))) (ar (eP (ar (dC (.int 4)) (ar (dC (.int 1)) aT))) aT)))))) (aI 3))
 (b7 (bJ (eP (ar (eP (ar (dC (.int 2)) (ar (dC (.int 0)) aT))) (ar (eP (ar (dC (.int 3)) (ar (dC (.int 0)) aT))) (ar (eP (ar (dC (.int 2)) (ar (dC (.int 1)) aT))) (ar (eP (ar (dC (.int 3)) (ar (dC (.int 1)) aT))) (ar (eP (ar (dC (.int 2)) (ar (dC (.int 0)) aT))) aT)))))) (aI 4))
 (b7 (bJ (jz 1 [] (A5 (dC (.int 5))) (aI 0) none jq) (aI 5))
 (b7 (eB (A5 (dC (.int 5))) (aI 6) (b7 (bJ (bH nF (bH nF (eP (ar (ax 3) (ar (ax 4) aT))) (bH D6 (u5 cAbs (ar (ax 1) aT)) (dC (.int 1)))) (ax 6)) (gz (cq (aI 7) (cq (aI 8) gf))))
 (b7 (eT (bP d8 (ar (bH nF (ax 5) (ax 6)) (ar (bH nF (ax 0) (ax 6)) (ar (ax 2) (ar (dC (.int 1)) aT))))))
 (gU (jo (bH (GS false) (ax 8) (dC (.int 1)))) (eT (bP d8 (ar (bH nF (ax 5) (ax 7)) (ar (bP gV (ar (bH nF (ax 0) (ax 6)) aT)) (ar (E8 zS (ax 2)) (ar (dC (.int 1)) aT)))))) (eT (bP d8 (ar (bH nF (ax 5) (ax 7)) (ar (bH nF (ax 0) (ax 6)) (ar (E8 zS (ax 2)) (ar (dC (.int 1)) aT))))))))))
 (cR (d4 (ax 5)))))))))
noncomputable def Fs(c:Int)(F:Nat->Fn):Nat->Fn:=fun π i=>F π (i+sg c)+gH ((tb (bl c)).getD π (0,0)).2 (sh (-sg c) (F ((tb (bl c)).getD π (0,0)).1)) i
structure Ss(s:List Po)(k:Nat):Prop where
 len:s.length=5
 nd:∀ l∈s,ND l
 sz:tu BN 0 s<=((3 ^ k:Nat):Int)
 nr:tu KY 0 s<=((3 ^ k:Nat):Int)
theorem V4(b:Bool){π:Nat}(h:π < 5):qY ((tb b).map fun x=>D.tup [.int x.1,.int x.2]) (π:Int)=some (.tup [.int ((tb b).getD π (0,0)).1,.int ((tb b).getD π (0,0)).2]):=by
 match π,h with
 | 0,_=>cases b <;> rfl
 | 1,_=>cases b <;> rfl
 | 2,_=>cases b <;> rfl
 | 3,_=>cases b <;> rfl
 | 4,_=>cases b <;> rfl
theorem tb_lt(b:Bool){π:Nat}(h:π < 5):((tb b).getD π (0,0)).1 < 5/\(((tb b).getD π (0,0)).2=0\/((tb b).getD π (0,0)).2=1):=by
 match π,h with
 | 0,_=>cases b <;> decide
 | 1,_=>cases b <;> decide
 | 2,_=>cases b <;> decide
 | 3,_=>cases b <;> decide
 | 4,_=>cases b <;> decide
theorem Ji{s:List Po}{j:Nat}{y:Po}(h:s[j]?=some y):qY (s.map fun l=>D.gN (aS l)) (j:Int)=some (.gN (aS y)):=by
 have hj:=(List.getElem?_eq_some_iff.mp h).1;unfold qY J2;rw [if_pos (by lia),if_pos (by rw [aE]; lia)];show (s.map _)[((j:Int)).toNat]?=_;rw [cF,br,h]; rfl
theorem GB{φ:Nat->Po->Int}(h:∀ k l,0<=φ k l){s:List Po}{j:Nat}{y:Po}(e:s[j]?=some y):φ j y<=tu φ 0 s:=by
 have h1:=oQ φ s 0 j e;have h2:=xV h s 0 (j+1);have h3:=vH h (s.take j) 0;rw [dZ] at h1;lia
noncomputable def mW:nj:=fun ds G Q _=>∃ (s:List Po) (c:Int) (k:Nat),ds=[FK s,.int c]/\((ab c=1\/ab c=2)/\Ss s k/\k < 12)/\∀ s',Ss s' (k+1)->(∀ F,tt F s'=tt (Fs c F) s)->Q (FK s') G
theorem Fw(ds:List D)(G:Gp)(Q:DK)(h:mW ds G Q fun _ _=>False):wB (fun _ _=>False) (ends Q) (bA 9 ds) G:=by
 obtain⟨s,c,k,rfl,⟨hc,ss,hk⟩,q⟩:=h;have Ym:c > 0\/c < 0:=by unfold ab at hc; split at hc <;> lia
 unfold wB;simp only [↓cg,bJ,dC,aI,ends,bA,↓aj,↓aW,↓ah,↓aA,bo,↓aG,↓aL,↓ao,↓ak];refine eF (fun τ G'=>τ=[some (FK s),some (.int c),some (.int (sg c)),none,none,none,none,none,none]/\G'=G) ?_ ?_
 ·intro N hN;simp only [gU,↓dE,bH,ax,↓ae,↓aa,dC,↓rB,↓cP,bJ,E8,↓kr,aI,↓ao,↓ak,eA];rcases Ym with z | z
  ·rw [if_neg (by simp; lia)];exact hN _ _ ⟨by unfold sg; rw [if_pos z],rfl⟩
  ·rw [if_pos (decide_eq_true z)];exact hN _ _ ⟨by unfold sg; rw [if_neg (by lia)],rfl⟩
 rintro _ G0 ⟨rfl,eG⟩;rw [eG];clear eG;have hsg:sg c=1\/sg c=-1:=by unfold sg; split <;> lia
 simp only [↓cg,bJ,eP,ar,dC,aT,↓ah,↓aA,aI,jz,↓mf,↓j8,↓ao,↓ak];refine⟨by decide,by decide,by decide,by decide,by decide,by decide,by decide,by decide,by decide,by decide,by decide,by decide,by decide,by decide,by decide,?_⟩;refine RT (fun pre acc τ G'=>(∃ a,τ=[a])/\∃ as:List Nat,acc=as.map D.ref/\fJ G G'/\as.Nodup/\as.length=pre.length/\(∀ a∈as,G a=none)/\∀ a∈as,G' a=some (.eV (aS ([]:Po)))) ?_ (fun _ _ _ _ _=>trivial) ?_ ?_
 ·exact⟨⟨_,rfl⟩,[],rfl,.refl G,cA,rfl,fun _ h=>by(cases h),fun _ h=>by(cases h)⟩
 ·rintro pre x post acc τ G' N e ⟨⟨a,rfl⟩,as,rfl,le,nd,ln,fr,O0⟩ hN;simp only [aI,jq,↓ak];intro p hp;have ZW:p∉as:=fun z=>by rw [O0 p z] at hp; cases hp
  refine hN _ _ _ ⟨⟨_,rfl⟩,as++[p],by simp,le.trans (.new hp),?_,by rw [az,az,ln]; rfl,fun b hb=>?_,fun b hb=>?_⟩
  ·rw [dS];exact⟨nd,by simp,fun x hx y hy=>by rw [aU] at hy; subst hy; intro z; exact ZW (z ▸ hx)⟩
  ·rcases List.mem_append.mp hb with z | z
   ·exact fr b z
   ·rw [aU] at z; rw [z]; exact le.free hp
  ·rcases List.mem_append.mp hb with z | z
   ·exact(fJ.new hp) _ _ (O0 b z)
   ·rw [aU] at z; rw [z,aC]; rfl
 rintro acc τ G1 ⟨_,as,rfl,le,nd,ln,fr,O0⟩ p hp;have hd0:Hd G (cT G1 p (.lst (as.map D.ref))) p as [[],[],[],[],[]]:=by
  have ZW:p∉as:=fun z=>by
   rw [O0 p z] at hp;cases hp
  refine⟨le.trans (.new hp),le.free hp,aC,nd,ZW,fr,by rw [ln]; rfl,fun i a f h1 h2=>?_⟩;have ha:=O0 a (eD h1);have hf:f=[]:=by
   have:=eD h2;simpa using this
  rw [hf];exact(fJ.new hp) _ _ ha
 generalize cT G1 p (.lst (as.map D.ref))=G2 at hd0;clear O0 le hp ln nd fr;have s5:=ss.len;have pl:=fun (k:Nat) (l:Po)=>cf l.length;have pn:=fun (k:Nat) (l:Po)=>cf (d0 l);have p3:3 ^ k<=3 ^ 11:=cU (by decide) (by lia);have e3:3 ^ (k+1)=3 * 3 ^ k:=by rw [mK]; lia
 refine eF (fun τ G'=>∃ (fs:List Po) (a b d:Option D) (s1 s2:Option D),τ=[some (FK s),some (.int c),some (.int (sg c)),s1,s2,some (.ref p),a,b,d]/\Hd G G' p as fs/\Ss fs (k+1)/\∀ F,tt F fs=tt (Fs c F) s) ?_ ?_
 ·intro N hN;simp only [eB,↓mf,dC,↓j8];refine⟨by decide,by decide,?_⟩;refine CL (fun pre τ G'=>∃ (fs:List Po) (a b d:Option D),τ=[some (FK s),some (.int c),some (.int (sg c)),some (.tup ((tb false).map fun x=>.tup [.int x.1,.int x.2])),some (.tup ((tb true).map fun x=>.tup [.int x.1,.int x.2])),some (.ref p),a,b,d]/\Hd G G' p as fs/\(fs.length=5/\(∀ l∈fs,ND l)/\tu BN 0 fs<=3 * tu BN 0 (s.take pre.length)/\tu KY 0 fs<=3 * tu KY 0 (s.take pre.length))/\∀ F,tt F fs=tt (Fs c F) (s.take pre.length)) ?_ (fun _ _ _ _=>trivial) ?_ ?_
  ·refine⟨_,_,_,_,rfl,hd0,⟨rfl,fun l hl=>?_,lP 0,lP 0⟩,fun F=>by rfl⟩;have:l=[]:=by simpa using hl
   rw [this]; unfold ND; simp
  ·rintro pre x post τ G' N2 e ⟨fs,a,b,d,rfl,hd,⟨f5,Yq,fl,fn⟩,fF⟩ jh;obtain⟨rfl,tG⟩:=sU e;have W7:pre.length < 5:=tG;obtain⟨y,ey⟩:∃ y,s[pre.length]?=some y:=⟨_,aq (by lia)⟩;obtain⟨f,ef⟩:∃ f,fs[pre.length]?=some f:=⟨_,aq (by lia)⟩;have nf:=Yq f (eD ef);obtain⟨a1,ja,ga,ia⟩:=hd.row ef;rw [show (pre++[D.int (pre.length:Int)]).length=pre.length+1 by simp] at jh;have tl:=oQ BN s 0 _ ey;have tn:=oQ KY s 0 _ ey;have tF:=fun F=>oQ (fun π l=>L (Fs c F π) l) s 0 _ ey;have bl1:=xV (φ:=BN) (fun _ _=>cf _) s 0 (pre.length+1);have bn1:=xV (φ:=KY) (fun _ _=>cf _) s 0 (pre.length+1);have bl2:=GB (φ:=BN) (fun _ _=>cf _) ef;have bl0:=vH (φ:=BN) (fun _ _=>cf _) (s.take pre.length) 0;have bn0:=vH (φ:=KY) (fun _ _=>cf _) (s.take pre.length) 0;have sz:=ss.sz;have nr:=ss.nr;simp only [dZ,BN,KY] at tl tn tF bl2;generalize hπ:pre.length=π at *;have tabs:qY [D.tup ((tb false).map fun x=>.tup [.int x.1,.int x.2]),D.tup ((tb true).map fun x=>.tup [.int x.1,.int x.2])] (ab c - 1)=some (D.tup ((tb (bl c)).map fun x=>.tup [.int x.1,.int x.2])):=by
    unfold bl;rcases hc with z | z <;> rw [z] <;> rfl
   obtain⟨x1,x2⟩:=tb_lt (bl c) W7;have tat:=V4 (bl c) W7;have eFs:∀ F i,Fs c F π i=F π (i+sg c)+gH ((tb (bl c)).getD π (0,0)).2 (sh (-sg c) (F ((tb (bl c)).getD π (0,0)).1)) i:=fun _ _=>rfl;generalize (tb (bl c)).getD π (0,0)=xx at x1 x2 tat eFs;simp only [aI,↓cg,bJ,bH,eP,ar,ax,↓ao,↓ak,↓ae,↓aa,aT,↓ah,↓aA,u5,↓vd,dC,↓nZ,↓Jp tabs,↓Jp tat,gz,cq,gf,↓kq,eT,bP];refine⟨by decide,?_⟩;refine GR (IsL.ref hd.gq) ia ?_;unfold FK;rw [B3 (Ji ey)];have e11:3 ^ 11=177147:=by decide
   refine⟨a1,f,y,sg c,1,rfl,⟨ga,by unfold SZ; lia,JB.iG (by lia),JB.iG (by decide)⟩,?_⟩;have MF:=hd.put ja (fM y f (sg c,1));generalize cT G' a1 (.eV (aS (fM y f (sg c,1))))=G3 at MF;have sl:=sT BN fs 0 π (x:=fM y f (sg c,1)) ef;have sn:=sT KY fs 0 π (x:=fM y f (sg c,1)) ef;have sF:=fun F:Nat->Fn=>sT (fun π l=>L (F π) l) fs 0 π (x:=fM y f (sg c,1)) ef;have l1:=gT y f (sg c,1);have l2:=jP (sg c,1) y f nf;have l3:=fun F:Fn=>nQ F (sg c,1) y f nf;simp only [dZ,BN,KY,show ((1:Int)).natAbs=1 by decide,Nat.one_mul,xO] at sl sn sF l2 l3;have n1:∀ l∈fs.set π (fM y f (sg c,1)),ND l:=fun l hl=>by
    rcases IU hl with z | z
    ·exact Yq l z
    ·rw [z]; exact jL nf _
   have g5:(fs.set π (fM y f (sg c,1))).length=5:=by rw [kJ]; exact f5
   generalize fs.set π (fM y f (sg c,1))=gs at MF sl sn sF n1 g5;obtain⟨f2,VS⟩:∃ f2,gs[xx.1]?=some f2:=⟨_,aq (by lia)⟩;have Zj:=n1 f2 (eD VS);obtain⟨a2,ja2,ga2,ia2⟩:=MF.row VS;have b2:=GB (φ:=BN) (fun _ _=>cf _) VS;simp only [BN] at b2;have fin:∀ (m:Po),m.length<=2 * y.length->d0 m<=2 * d0 y->(∀ F:Fn,L F m=L (gH xx.2 F) y)->d8 [.ref a2,.gN (aS m),.int (-sg c),.int 1] G3 (fun _ G1=>N2 [some (.dJ (s.map fun l=>.gN (aS l))),some (.int c),some (.int (sg c)),some (.tup ((tb false).map fun x=>.tup [.int x.1,.int x.2])),some (.tup ((tb true).map fun x=>.tup [.int x.1,.int x.2])),some (.ref p),some (.int π),some (.int xx.1),some (.int xx.2)] G1) fun _ _=>False:=fun m ml mn mF=>by
    have e11:3 ^ 11=177147:=by decide
    refine⟨a2,f2,m,-sg c,1,rfl,⟨ga2,by unfold SZ; lia,JB.iG (by lia),JB.iG (by decide)⟩,?_⟩;have tl2:=sT BN gs 0 xx.1 (x:=fM m f2 (-sg c,1)) VS;have tn2:=sT KY gs 0 xx.1 (x:=fM m f2 (-sg c,1)) VS;have tF2:=fun F:Nat->Fn=>sT (fun π l=>L (F π) l) gs 0 xx.1 (x:=fM m f2 (-sg c,1)) VS;have m1:=gT m f2 (-sg c,1);have m2:=jP (-sg c,1) m f2 Zj;have m3:=fun F:Fn=>nQ F (-sg c,1) m f2 Zj;simp only [dZ,BN,KY,show ((1:Int)).natAbs=1 by decide,Nat.one_mul,xO] at tl2 tn2 tF2 m2 m3;refine jh _ _ ⟨_,_,_,_,rfl,MF.put ja2 _,⟨by rw [kJ]; exact g5,fun l hl=>?_,by lia,by lia⟩,fun F=>?_⟩
    ·rcases IU hl with z | z
     ·exact n1 l z
     ·rw [z]; exact jL Zj _
    ·have h1:=tF2 F;have h2:=sF F;have h3:=fF F;have h4:=tF F;have h5:=m3 (F xx.1);have h6:=l3 (F π);unfold tt at h3 ⊢;have h7:L (Fs c F π) y=L (fun j=>F π (sg c+j)) y+L (fun j=>F xx.1 (-sg c+j)) m:=by
      rw [mF,<-Y.KI];congr 1;funext i;rw [eFs,eQ i];congr 2;funext j;show F xx.1 (j+-sg c)=_;rw [eQ]
     lia
   simp only [gU,↓dE,bH,ax,↓ae,↓aa,dC,eT,bP,ar,↓oe,aT,E8,↓kr];refine⟨_,_,.int _,.int _,?_⟩;simp only [↓cP,↓aF,↓Y.CT,↓if_false];rcases x2 with z | z
   ·rw [if_neg (by rw [z]; decide)];refine GR (IsL.ref MF.gq) ia2 ?_;rw [Ji ey];exact fin y (by lia) (by lia) fun F=>by rw [z]; rfl
   ·rw [if_pos (by rw [z]; decide)];refine GR (IsL.ref MF.gq) ia2 ?_;rw [Ji ey];refine⟨y,rfl,⟨by unfold SZ; lia,JB.iG (by lia)⟩,?_⟩;exact fin _ (JP y) (JO y) fun F=>by rw [z,SJ]; rfl
  ·rintro τ G' ⟨fs,a,b,d,rfl,hd,⟨f5,Yq,fl,fn⟩,fF⟩;have et:s.take (fL 0 (Int.toNat 5)).length=s:=tT (by rw [s5]; decide);rw [et] at fl fn fF;have h1:=ss.sz;have h2:=ss.nr;refine hN _ _ ⟨fs,_,_,_,_,_,rfl,hd,⟨f5,Yq,?_,?_⟩,fF⟩
   ·rw [e3]; lia
   ·rw [e3]; lia
 ·rintro _ G' ⟨fs,a,b,d,s1,s2,rfl,hd,hs,hF⟩;simp only [cR,d4,ax,↓ae,↓aa];exact hd.fz (q fs hs hF)
end JM
namespace JM
open K2.J
open K2.Y (Po L ND NZ d0 pY eL fM plus iB cN Pl AW gQ iE gT jL jP nQ o6 sY sZ uw rW oh)
open K2.JL (tb bl sg W qb)
open K2.wg (ab Good)
theorem Vu(n:Nat):∀ (cs:List Int) (π:Nat) (g:Fn),W n cs π (lp g)=-(W n cs π (sh 2 g)) - W n cs π (sh (-2) g)
 | [],π,g=>by
  show gH _ (lp g) 0=-(gH _ (sh 2 g) 0) - gH _ (sh (-2) g) 0;rw [uF,kb,kb]; rfl
 | c :: cs,π,g=>by
  have e2:∀ b:Int,sh b (lp g)=lp (sh b g):=fun b=>(SI b g).symm;have e3:∀ a b:Int,sh a (sh b g)=sh b (sh a g):=fun a b=>by rw [pL,pL,eQ]
  rw [W,e2,Vu n cs,e2,uF,Vu n cs,W,W,e3 2 (sg c),e3 (-2) (sg c),<-e3 2 (-sg c),<-e3 (-2) (-sg c),kb _ 2,kb _ (-2)];lia
theorem V5(b:Bool)(π:Nat):((tb b).getD π (0,0)).2=0\/((tb b).getD π (0,0)).2=1:=by
 by_cases h:π < 5
 ·exact(tb_lt b h).2
 ·left;have:(tb b).length=5:=by cases b <;> rfl
  rw [aZ,mC (by lia)]; rfl
theorem aaP(n:Nat)(c:Int)(cs:List Int)(g:Fn):Fs c (fun π i=>W n cs π (sh i g))=fun π i=>W n (c :: cs) π (sh i g):=by
 funext π i;show W n cs π (sh (i+sg c) g)+gH _ (sh (-sg c) fun i=>W n cs _ (sh i g)) i=W n cs π (sh (sg c) (sh i g))+W n cs _ (gH _ (sh (-sg c) (sh i g)));rw [pL,eQ i];congr 1;rcases V5 (bl c) π with z | z
 ·rw [z];show W n cs _ (sh (i+-sg c) g)=W n cs _ (sh (-sg c) (sh i g));rw [pL,eQ i]
 ·rw [z];show -(W n cs _ (sh (i+2+-sg c) g)) - W n cs _ (sh (i - 2+-sg c) g)=W n cs _ (lp (sh (-sg c) (sh i g)));rw [Vu,pL (-sg c),pL 2,pL (-2),show i+2+-sg c=2+(-sg c+i) by lia,show i - 2+-sg c=-2+(-sg c+i) by lia]
noncomputable def x9:iP :=
 (b7 (bJ (d4 (mr (ar (wQ (dC (.int 0)) (dC (.int 1))) (ar jq (ar jq (ar jq (ar jq aT))))))) (aI 2))
 (b7 (eB (si (ax 0)) (aI 3) (bJ (d4 (bP mW (ar (ax 2) (ar (ax 3) aT)))) (aI 2)))
 (b7 (bJ jq (aI 4))
 (b7 (Ij 4 (eB (HD (eP (ar (ax 1) (ar (bH D6 (ax 1) (dC (.int 1))) (ar (dC (.int 2)) (ar (dC (.int 1)) (ar (dC (.int 1)) aT))))))) (gz (cq (aI 5) (cq (aI 6) gf))) (b7 (bJ (bH nF (ax 2) (ax 5)) (aI 7))
 (b7 (eB (A5 (ax 6)) (aI 8) (bJ (bP gV (ar (ax 7) aT)) (aI 7)))
 (eT (bP d8 (ar (ax 4) (ar (ax 7) (ar (dC (.int 0)) (ar (dC (.int 1)) aT))))))))))
 (b7 (bJ jq (aI 9))
 (b7 (eB (gx (ax 4)) (gz (cq (aI 10) (cq (aI 11) gf))) (gU (jo (bH (GS true) (ax 11) (dC (.int 0)))) (bJ (ax 11) (lj (ax 9) (ax 10))) eA))
 (cR (d4 (ax 9)))))))))
noncomputable def oT:nj:=fun ds G Q _=>∃ (d:D) (cs:List Int) (n:Int),ds=[d,.int n]/\(IsL G d (cs.map D.int)/\Good n cs)/\∀ T:Po,ND T->NZ T->(∀ g,L g T=W n.toNat cs 0 g)->Q (.gN (aS T)) G
theorem IG(ds:List D)(G:Gp)(Q:DK)(h:oT ds G Q fun _ _=>False):x9 (fun _ _=>False) (ends Q) (bA 12 ds) G:=by
 obtain⟨d,cs,n,rfl,⟨hd,good⟩,q⟩:=h;unfold x9;simp only [↓cg,bJ,d4,mr,ar,wQ,dC,jq,aT,↓ah,↓aA,aI,ends,bA,↓aj,↓aW,bo,↓aG,↓aL,↓ao,↓ak];refine⟨rfl,fun p1 h1 p2 h2 p3 h3 p4 h4 p5 h5=>⟨by decide,fun p6 h6=>?_⟩⟩;obtain⟨gn,gl,gc⟩:=good;have l1:=fJ.new (o:=.eV [(D.int 0,D.int 1)]) h1;have l2:=fJ.new (o:=.eV []) h2;have l3:=fJ.new (o:=.eV []) h3;have l4:=fJ.new (o:=.eV []) h4;have l5:=fJ.new (o:=.eV []) h5;have l6:=fJ.new (o:=.lst [.ref p1,.ref p2,.ref p3,.ref p4,.ref p5]) h6;have nn:∀ {a:Nat},G a=none->(fun a=>(G a).isNone) a=true:=fun h=>by simp only [h]; rfl
 refine CJ (ss:=[.gN (aS [((0:Int),(1:Int))]),.gN (aS ([]:Po)),.gN (aS ([]:Po)),.gN (aS ([]:Po)),.gN (aS ([]:Po))]) (((((l1.trans l2).trans l3).trans l4).trans l5).trans l6) (((((l1.trans l2).trans l3).trans l4).trans l5).free h6) aC ?_ ?_
 ·refine .cons (.eV ((((l2.trans l3).trans l4).trans (l5.trans l6)) _ _ aC) (nn h1) (wj.same _)) ?_;refine .cons (.eV (((l3.trans l4).trans (l5.trans l6)) _ _ aC) (nn (l1.free h2)) (wj.same _)) ?_;refine .cons (.eV ((l4.trans (l5.trans l6)) _ _ aC) (nn ((l1.trans l2).free h3)) (wj.same _)) ?_;refine .cons (.eV ((l5.trans l6) _ _ aC) (nn (((l1.trans l2).trans l3).free h4)) (wj.same _)) ?_;exact .cons (.eV (l6 _ _ aC) (nn ((((l1.trans l2).trans l3).trans l4).free h5)) (wj.same _)) .nil
 clear l1 l2 l3 l4 l5 l6 h1 h2 h3 h4 h5 h6 nn;have s0:Ss [[((0:Int),(1:Int))],[],[],[],[]] 0:=⟨rfl,fun l hl=>by
  simp only [a9,aU,bI,or_false] at hl;unfold ND;rcases hl with rfl | rfl | rfl | rfl | rfl <;> simp,by decide,by decide⟩
 refine eF (fun τ G'=>∃ (s:List Po) (x:Option D),τ=[some d,some (.int n),some (FK s),x,none,none,none,none,none,none,none,none]/\G'=G/\Ss s cs.length/\∀ g,tt (fun π i=>W n.toNat [] π (sh i g)) s=W n.toNat cs 0 g) ?_ ?_
 ·intro N hN;simp only [eB,↓gR,ax,↓aa];refine MJ.RD hd (.refl G) fun ok cp=>?_;refine dQ (xs:=cs) (fun pre τ G'=>∃ (s:List Po) (x:Option D),τ=[some d,some (.int n),some (FK s),x,none,none,none,none,none,none,none,none]/\G'=G/\Ss s pre.length/\∀ g,tt (fun π i=>W n.toNat (cs.drop pre.length) π (sh i g)) s=W n.toNat cs 0 g) ⟨_,_,rfl,rfl,s0,fun g=>?_⟩ (fun pre τ G' h=>cp G' (by obtain⟨_,_,_,rfl,_⟩:=h; exact .refl _)) ?_ ?_
  ·show 1 * W n.toNat cs 0 (sh 0 g)+0+(0+(0+(0+(0+0))))=_;rw [xh]; lia
  ·rintro pre c post τ G' N2 e ⟨s,x,rfl,rfl,ss,sv⟩ jh;have hc:=gc c (by rw [e]; simp);have A8:pre.length < 12:=by
    have:=gQ e; lia
   have dr:cs.drop pre.length=c :: post:=by rw [e,w7]
   have dr2:cs.drop (pre++[c]).length=post:=by
    rw [e,show pre++c :: post=(pre++[c])++post by simp,w7]
   rw [dr] at sv;simp only [aI,bJ,d4,bP,ar,ax,↓ao,↓ak,↓ae,↓aa,aT];refine⟨s,c,pre.length,rfl,⟨by lia,ss,A8⟩,fun s' ss' v=>gB (jh _ _ ⟨s',_,rfl,rfl,by rw [az]; exact ss',fun g=>?_⟩)⟩;rw [dr2,v,aaP]; exact sv g
  ·rintro τ G' ⟨s,x,rfl,rfl,ss,sv⟩;refine hN _ _ ⟨s,_,rfl,rfl,ss,fun g=>?_⟩;rw [List.drop_length] at sv;exact sv g
 rintro _ G' ⟨s,x,rfl,eG,ss,sv⟩;rw [eG];clear eG;simp only [↓cg,bJ,jq,aI,↓ao,↓ak];intro p hp;have aap:∀ π,qb n.toNat π<=3:=fun π=>by
  unfold qb;split <;> lia
 have mn:∀ {j:Nat},j < 5->[D.int n,.int (n - 1),.int 2,.int 1,.int 1][j]?=some (.int (qb n.toNat j:Int)):=fun {j} hj=>by
  match j,hj with
  | 0,_=>simp [qb]; lia
  | 1,_=>simp [qb]; lia
  | 2,_=>rfl
  | 3,_=>rfl
  | 4,_=>rfl
 have s5:=ss.len;have sz:=ss.sz;have nr:=ss.nr;have p12:3 ^ cs.length<=3 ^ 12:=cU (by decide) gl;have e12:3 ^ 12=531441:=by decide
 refine eF (fun τ G'=>∃ (T:Po) (a5 a6 a7 a8:Option D),τ=[some d,some (.int n),some (FK s),x,some (.gN (aS T)),a5,a6,a7,a8,none,none,none]/\G'=G/\(ND T/\T.length<=8 * 531441)/\∀ g,L g T=W n.toNat cs 0 g) ?_ ?_
 ·intro N hN;unfold Ij;simp only [eB,HD,eP,ar,ax,↓ae,↓aa,bH,dC,↓nZ,aT,↓ah,↓aA];refine⟨by decide,_,rfl,?_⟩;refine CL (fun pre τ G'=>∃ (T:Po) (a5 a6 a7 a8:Option D),τ=[some d,some (.int n),some (FK s),x,some (.ref p),a5,a6,a7,a8,none,none,none]/\(fJ G G'/\G' p=some (.eV (aS T)))/\(ND T/\(T.length:Int)<=8 * tu BN 0 (s.take pre.length))/\∀ g,L g T=tt (fun π i=>W n.toNat [] π (sh i g)) (s.take pre.length)) ⟨[],_,_,_,_,rfl,⟨.new hp,aC⟩,⟨by unfold ND; simp,lP 0⟩,fun g=>rfl⟩ (fun _ _ _ _=>trivial) ?_ ?_
  ·rintro pre y post τ G' N2 e ⟨T,a5,a6,a7,a8,rfl,⟨le,gp⟩,⟨nT,lT⟩,vT⟩ jh;have hj:pre.length < 5:=by
    have:=congrArg cV e;rw [oB,az,ah] at this;simp at this; lia
   have hy:y=.tup [.int (pre.length:Int),.int (qb n.toNat pre.length:Int)]:=by
    have:=rQ [D.int n,.int (n - 1),.int 2,.int 1,.int 1] 0 pre.length;rw [e,mn hj] at this;simpa using this
   subst hy;obtain⟨l,el⟩:∃ l,s[pre.length]?=some l:=⟨_,aq (by lia)⟩;rw [show (pre++[D.tup [.int (pre.length:Int),.int (qb n.toNat pre.length:Int)]]).length=pre.length+1 by simp] at jh;have tl:=oQ BN s 0 _ el;have tF:=fun g=>oQ (fun π l=>L (fun i=>W n.toNat [] π (sh i g)) l) s 0 _ el;have bl1:=xV (φ:=BN) (fun _ _=>cf _) s 0 (pre.length+1);have bl0:=vH (φ:=BN) (fun _ _=>cf _) (s.take pre.length) 0;have bn:=GB (φ:=KY) (fun _ _=>cf _) el;have m3:=aap pre.length;have eW:∀ g i,W n.toNat [] pre.length (sh i g)=gH (qb n.toNat pre.length) (sh i g) 0:=fun _ _=>rfl;simp only [dZ,BN,KY] at tl tF bn;generalize qb n.toNat pre.length=m at *;generalize pre.length=π at *;simp only [gz,cq,aI,gf,↓cg,bJ,bH,ax,↓ao,↓ak,↓ae,↓aa];unfold FK;rw [B3 (Ji el)];refine eF (fun τ G2=>∃ (o:Po) (a8:Option D),τ=[some d,some (.int n),some (FK s),x,some (.ref p),some (.int π),some (.int m),some (.gN (aS o)),a8,none,none,none]/\G2=G'/\(o.length<=8 * l.length/\d0 o<=8 * d0 l)/\∀ g,L g o=L (gH m g) l) ?_ ?_
   ·intro N3 U4;simp only [eB,↓mf,ax,↓ae,↓aa,↓j8];refine⟨by lia,by lia,?_⟩;rw [cF];refine CL (fun pre τ G2=>∃ (o:Po) (a8:Option D),τ=[some d,some (.int n),some (FK s),x,some (.ref p),some (.int π),some (.int m),some (.gN (aS o)),a8,none,none,none]/\G2=G'/\(o.length<=2 ^ pre.length * l.length/\d0 o<=2 ^ pre.length * d0 l)/\∀ g,L g o=L (gH pre.length g) l) ⟨l,_,rfl,rfl,⟨by simp,by simp⟩,fun g=>rfl⟩ (fun _ _ _ _=>trivial) ?_ ?_
    ·rintro NN y abb τ G2 N4 e2 ⟨o,b8,rfl,rfl,⟨ol,on⟩,ov⟩ hN4;obtain⟨rfl,tG⟩:=sU e2;have q8:2 ^ NN.length<=2 ^ 2:=cU (by decide) (by lia);have o1:2 ^ NN.length * l.length<=4 * l.length:=eK _ q8;have o2:2 ^ NN.length * d0 l<=4 * d0 l:=eK _ q8;simp only [aI,bJ,bP,ar,ax,↓ao,↓ak,↓ae,↓aa,aT];refine⟨o,rfl,⟨by unfold SZ; lia,JB.iG (by lia)⟩,hN4 _ _ ⟨SK o,_,rfl,rfl,⟨?_,?_⟩,fun g=>?_⟩⟩
     ·have:=JP o;rw [az,bR,mK,Nat.mul_comm (2 ^ NN.length) 2,Nat.mul_assoc]; lia
     ·have:=JO o;rw [az,bR,mK,Nat.mul_comm (2 ^ NN.length) 2,Nat.mul_assoc]; lia
     ·rw [SJ,ov,az,bR,uG]; rfl
    ·rintro τ G2 ⟨o,b8,rfl,rfl,⟨ol,on⟩,ov⟩;have hr:(fL 0 m).length=m:=by simp [fL]
     rw [hr] at ol on ov;have q8:2 ^ m<=2 ^ 3:=cU (by decide) m3;have o1:2 ^ m * l.length<=8 * l.length:=eK _ q8;have o2:2 ^ m * d0 l<=8 * d0 l:=eK _ q8;exact U4 _ _ ⟨o,_,rfl,rfl,⟨by lia,by lia⟩,ov⟩
   ·rintro _ G2 ⟨o,b8,rfl,rfl,⟨ol,on⟩,ov⟩;simp only [eT,bP,ar,ax,↓ae,↓aa,dC,aT];refine⟨p,T,o,0,1,rfl,⟨gp,by unfold SZ; lia,JB.iG (by lia),JB.iG (by decide)⟩,?_⟩;have h1:=gT o T (0,1);refine jh _ _ ⟨fM o T (0,1),_,_,_,_,rfl,⟨le.put hp,aC⟩,⟨jL nT _,by lia⟩,fun g=>?_⟩;have h2:=tF g;have h3:=vT g;unfold tt at h3 ⊢;rw [nQ _ _ _ _ nT,h2,h3];show _+1 * L (fun j=>g (0+j)) o=_;rw [xO,show (fun j=>g (0+j))=g by funext j; rw [vF],ov];congr 2;funext i;rw [eW,kb];show _=gH m g (0+i);rw [vF]
  ·rintro τ G' ⟨T,a5,a6,a7,a8,rfl,⟨le,gp⟩,⟨nT,lT⟩,vT⟩;have et:s.take (j5 0 [D.int n,.int (n - 1),.int 2,.int 1,.int 1]).length=s:=tT (by rw [s5,oB]; exact aB 5);rw [et] at lT vT;refine gS le hp gp (hN _ _ ⟨T,_,_,_,_,rfl,rfl,⟨nT,by lia⟩,fun g=>by rw [vT]; exact sv g⟩)
 rintro _ G' ⟨T,a5,a6,a7,a8,rfl,eG,⟨nT,lT⟩,vT⟩;rw [eG];clear eG;simp only [↓cg,bJ,jq,aI,↓ao,↓ak];intro p2 nK;refine eF (fun τ G'=>(∃ a b,τ=[some d,some (.int n),some (FK s),x,some (.gN (aS T)),a5,a6,a7,a8,some (.ref p2),a,b])/\fJ G G'/\G' p2=some (.eV (aS (eL T)))) ?_ ?_
 ·intro N hN;simp only [eB,gx,ax,↓ae,↓aa];refine vX ?_;refine dQ (xs:=T) (fun pre τ G'=>(∃ a b,τ=[some d,some (.int n),some (FK s),x,some (.gN (aS T)),a5,a6,a7,a8,some (.ref p2),a,b])/\fJ G G'/\G' p2=some (.eV (aS (eL pre)))) ⟨⟨_,_,rfl⟩,.new nK,aC⟩ (fun _ _ _ _=>trivial) ?_ ?_
  ·rintro pre x post τ G' N2 e ⟨⟨a,b,rfl⟩,le,gp⟩ jh;have hlen:(eL pre).length < SZ:=by
    have:=oh pre;have:=gQ e;unfold SZ; lia
   simp only [gz,cq,aI,gf,gU,↓dE,bH,ax,↓ao,↓ak,↓iE,↓ae,↓aa,dC,bJ,lj,eA];refine⟨_,_,.int _,.int _,?_⟩;simp only [↓cP,↓Y.CT,↓if_true];by_cases hz:x.2=0
   ·simp only [hz,decide_true,↓cj,↓aF,↓if_false];exact jh _ _ ⟨⟨_,_,rfl⟩,le,by rw [sZ hz]; exact gp⟩
   ·simp only [hz,decide_false,↓fK,↓if_true];refine fP (α:=Int) gp hlen ?_;exact jh _ _ ⟨⟨_,_,rfl⟩,le.put nK,by rw [aC,<-sY nT e hz]⟩
  ·rintro τ G' ⟨⟨a,b,rfl⟩,le,gp⟩;exact hN _ _ ⟨⟨a,b,rfl⟩,le,gp⟩
 ·rintro _ G' ⟨⟨a,b,rfl⟩,le,gp⟩;simp only [cR,d4,ax,↓ae,↓aa];refine gS le nK gp (q (eL T) ?_ (uw T) fun g=>by rw [rW]; exact vT g);exact(i8 _ ic).nodup nT
end JM
namespace JM
open K2.J
open K2.P
open K2.Y (Po L ND NZ d0 iE HY)
open K2.JL (W)
open K2.wg (ab Good mH lA gv JN)
open K2.Qv (jw y9 gM)
theorem Oi{n:Int}{ns:List Int}(hn:1<=n/\n<=3)(hl:ns.length<=12):Good n (JN n ns):=by
 refine⟨hn,?_,fun c hc=>?_⟩
 ·unfold JN; split <;> simp <;> lia
 ·unfold JN at hc;split at hc
  ·rename_i h;obtain⟨x,hx,rfl⟩:=List.mem_map.mp hc;unfold wg.EB;have m1:0<=x / 2 % (n - 1):=Int.emod_nonneg _ (by lia);have m2:x / 2 % (n - 1) < n - 1:=Int.emod_lt_of_pos _ (by lia);generalize x / 2 % (n - 1)=y at *;have m3:x % 2=0\/x % 2=1:=by lia
   unfold ab;rcases m3 with e | e <;> rw [e] <;> split <;> lia
  ·cases hc
noncomputable def TL:nj:=AD
noncomputable def Ny:iP :=
 (b7 (bJ (bH ku (dC (.int 1)) (bH GQ (bP jw (ar (ax 0) (ar (dC (.int 0)) aT))) (dC (.int 3)))) (aI 1))
 (b7 (bJ (bP gv (ar (Ii (ax 0) (sM (dC (.int 1))) (sM (dC (.int 13)))) (ar (ax 1) aT))) (aI 2))
 (b7 (bJ (d4 (bP oU (ar (d4 (bP lA (ar (d4 (u5 zd (ar (ax 2) aT))) (ar (d4 (ax 1)) aT)))) aT))) (aI 3))
 (b7 (gU (qW (jo (Px "dict" (ax 3)))) (cR (d4 (dC (.bl false)))) eA)
 (b7 (eB (gx (ax 3)) (gz (cq (aI 4) (cq (aI 5) gf))) (gU (VT (qW (jo (bP gM (ar (ax 4) aT)))) (qW (jo (bP gM (ar (ax 5) aT))))) (cR (d4 (dC (.bl false)))) eA))
 (cR (d4 (bH (T8 false) (ax 3) (bP oT (ar (ax 2) (ar (ax 1) aT)))))))))))
theorem Vz(ds:List D)(G:Gp)(Q:DK)(h:TL ds G Q fun _ _=>False):Ny (fun _ _=>False) (ends Q) (bA 6 ds) G:=by
 obtain⟨ns,rfl,hl,hG,q⟩:=h;unfold Ny;simp only [↓cg,bJ,bH,dC,bP,ar,ax,bA,↓aj,↓aW,↓ah,↓aA,bo,↓aG,↓aL,↓aa,aT,aI,Ii,↓ao,↓ak,↓mj,↓ka,↓um,↓ae,d4,u5,ends];refine⟨ns,0,rfl,lP _,?_⟩;generalize y9 ns 0=fi;have n01:1<=1+fi % 3/\1+fi % 3<=3:=by
  have:=Int.emod_nonneg fi (b:=3) (by decide);have:=Int.emod_lt_of_pos fi (b:=3) (by decide);lia
 simp only [↓qF,↓ff];generalize 1+fi % 3=n at *;have FQ:(cut ns (some 1) (some 13)).length<=12:=by
  unfold cut;rw [show jc ns.length 0 (some 1)=min 1 ns.length from rfl,show jc ns.length ns.length (some 13)=min 13 ns.length from rfl];simp only [gj,cC]; lia
 refine⟨by decide,?_⟩;rw [pj];intro p1 h1;generalize cut ns (some 1) (some 13)=xs at *;refine⟨.ref p1,xs,n,rfl,IsL.ref aC,⟨by lia,by lia⟩,fun p2 h2=>?_⟩;have g:=Oi n01 FQ;generalize JN n xs=cs at *;generalize cT G p1 (.lst (xs.map D.int))=G1 at h2;refine PR (IsL.ref aC) fun p3 h3=>?_;have l3:IsL (cT G1 p2 (.lst (cs.map D.int))) (.ref p2) (cs.map D.int):=IsL.ref aC;generalize cT G1 p2 (.lst (cs.map D.int))=G2 at h3 l3;refine CJ (.new h3) h3 aC (FD.same _) (gB ?_);refine⟨cs,n,rfl,g,gB ?_⟩;have d:Dr (mH n cs):=JL.C7 g;refine⟨mH n cs,rfl,d,fun T bT=>gB ?_⟩;rw [Np];simp only [gU,qW,↓dE,↓u0,ax,↓ae,↓aa,↓OM,↓cP,↓beq_self_eq_true,↓cj,↓aF,cR,d4,dC,eA,↓if_false];refine eF (fun τ G'=>(∃ a b,τ=[some (.dJ (ns.map D.int)),some (.int n),some (.ref p2),some (.gN (aS T)),a,b])/\G'=G2) ?_ ?_
 ·intro N hN;simp only [eB,gx,ax,↓ae,↓aa];refine vX ?_;refine dQ (xs:=T) (fun pre τ G'=>(∃ a b,τ=[some (.dJ (ns.map D.int)),some (.int n),some (.ref p2),some (.gN (aS T)),a,b])/\G'=G2) ⟨⟨_,_,rfl⟩,rfl⟩ (fun _ _ _ _=>trivial) ?_ ?_
  ·rintro pre x post τ G' N2 e ⟨⟨a,b,rfl⟩,rfl⟩ jh;simp only [gz,cq,aI,gf,gU,VT,qW,↓dE,bP,ar,ax,↓ao,↓ak,↓iE,↓ae,↓aa,aT,cR,d4,dC,eA,↓if_true];refine⟨_,rfl,?_⟩;simp only [↓cP,↓cj,↓aF,↓if_false];refine⟨_,rfl,?_⟩;simp only [↓cP,↓cj,↓aF,↓if_false];exact jh _ _ ⟨⟨_,_,rfl⟩,rfl⟩
  ·rintro τ G' ⟨⟨a,b,rfl⟩,rfl⟩;exact hN _ _ ⟨⟨_,_,rfl⟩,rfl⟩
 ·rintro _ G' ⟨⟨a,b,rfl⟩,eG⟩;rw [eG];simp only [cR,d4,bH,ax,↓ae,↓aa,bP,ar,aT];refine⟨.ref p2,cs,n,rfl,⟨l3,g⟩,fun U nU zU vU=>?_⟩;refine NG zt.gN zt.gN ?_;have e1:z9 T U=true:=HY bT.nd nU bT.nz zU fun γ=>by rw [bT.val,vU]; exact JL.XF g γ
  simp only [↓aF,e1,↓cj,↓if_false];exact gB (q _)
end JM
end K2
end
namespace Fin
open PySem PySem.Spec PyProof.Rows L2 K2
open K2.JB (nW BD ko wW jk zi i9 sN iw wZ iu rn)
open K2.JM
open K2.Qv (jw wY gM vk)
open K2.wg (nV BB gu rj fC mx jb sO iK vm gm rh lA BE gv rm)
open K2.P (fD rl jv wX j7 zk lV zj)
open K2.Y (cM mw iA Fy gk Fv e9 zh fu BC)
noncomputable def top(i:Nat):Stmt:=PySem.Challenge.pw_knotwise_k68_whole_braids_by_pictures.main.body.getD i (.Pass ⟨0,0,0,0⟩)
theorem Nq:nq ["_law_script","_law_strands","_law_letters_here","_law_found","_law_high","_law_number"] ["_law_script"] (cu (top 46)):=scm
section
variable {V:VA} (Y:Tn V)
include Y
seal we FU fy BA
theorem EY (F:i6 V.K "_law_cell" (top 39)) (o7:oE V.K "len"):gY V 1 "_law_cell" ["_law_script","_law_k"] jw :=
 sJ ["_law_script","_law_k"] Y F wY fun hr nd=>have hu:=hr.units; have UU:=hr.BP; (aH (g6 (fj (Cg UU) (bF 1) (gW v7 rfl (Y.no o7) Iz (mY (bF 0))) (gP _)) (aM (cx (bE (fE hu (bF 0) (bF 1) (fun _ _=>rfl))))) fg)
 (aM (cx (bE aJ))))
theorem yV (F:i6 V.K "_law_letters" (top 41)):gY V 1 "_law_letters" ["_law_cells","_law_strands"] gv :=
 sJ ["_law_cells","_law_strands","_law_found","_law_cell_here"] Y F rm fun hr nd=>(aH (kM (i:=2) nd rfl (jO fT))
 (aH (df bu rfl (iM (bF 0)) (kz (i:=3) nd rfl) (aM (g6 (fj Ci (bF 1) aJ (gP _)) (aM (fS (jl di jV jU kn o8 (bF 2) (mY (dG JG (dG fI aJ (dG Cf (dG N0 (bF 3) aJ) (dG xk (bF 1) aJ))) (dG xk aJ (dG JG aJ (dG Cf (bF 3) aJ)))))))) fg)))
 (aM (cx (bE (bF 2))))))
theorem yU (F:i6 V.K "passings_of" (top 5)):gY V 1 "passings_of" ["rows"] fD :=
 sJ ["rows","passings","row"] Y F rl fun hr nd=>(aH (kM (i:=1) nd rfl (jO fT))
 (aH (df bu rfl (iM (bF 0)) (kz (i:=2) nd rfl) (aM (fS (jl di pV pU kn tj (bF 1) (mY (bF 2))))))
 (aM (cx (bE (bF 1))))))
theorem HR (F:i6 V.K "hand_of" (top 9)) (nO:gY V 1 "passings_of" ["rows"] fD):gY V 2 "hand_of" ["drawing","name"] j7 :=
 sJ ["drawing","name","passing"] Y F zk fun hr nd=>have hu:=hr.units; (aH (df bu rfl (iM (mG nO hr (mY (bF 0)))) (kz (i:=2) nd rfl) (aM (g6 (fj (nG hu) (fE hu (bF 2) aJ (fun _ _=>rfl)) (bF 1) (gP _)) (aM (cx (bE (fE hu (bF 2) aJ (fun _ _=>rfl))))) fg)))
 (aM rF))
theorem HP (F:i6 V.K "next_of" (top 10)) (vR:oE V.K "zip"):gY V 1 "next_of" ["drawing"] lV :=
 sJ ["drawing","behind","row","passing","follower"] Y F zj fun hr nd=>have hu:=hr.units; (aH (kM (i:=1) nd rfl gO)
 (aH (df bu rfl (iM (bF 0)) (kz (i:=2) nd rfl) (aM (df bu rfl (Jz rfl (Y.no vR) (bF 2) (dG fI (j9 (bF 2) (ky aJ) og) (j9 (bF 2) og (ky aJ)))) (fH rfl (bM (kz (i:=3) nd rfl) (bM (kz (i:=4) nd rfl) eu)) (bN (bN ez))) (aM (hU (j9 (bF 4) og (ky aJ)) (jM hu (bF 1) (j9 (bF 3) og (ky aJ))))))))
 (aM (cx (bE (bF 1))))))
theorem HN (F:i6 V.K "plan_of" (top 23)) (lF:oE V.K "sorted") (yt:oE V.K "tuple"):gY V 1 "plan_of" ["far"] jk :=
 sJ ["far"] Y F zi fun hr nd=>have hu:=hr.units; have UU:=hr.BP; (aM (cx (bE (sX Ff rfl (Y.no yt) PW (mY (gW (va rfl hu) rfl (Y.no lF) Bu (mY (uv ["end","far"] (sc:=cu (top 23)) (XN:=["far"]) (NR (bF 0)) (fun _ _ _ _=>(kz (i:=0) (show (["end","far"]:List Str).Nodup by decide +kernel) rfl)) (fun _ _ _ _=>(.some (fj (Cg UU) (bF 0) (fE hu (bF 1) (bF 0) (fun _ _=>rfl)) (gP _)))) (fun _ _ _ _=>(cm (l8 (bF 0) (fE hu (bF 1) (bF 0) (fun _ _=>rfl)))))))))))))
theorem EZ (F:i6 V.K "far_ends" (top 25)):gY V 1 "far_ends" ["threads"] iw :=
 sJ ["threads","far","one","other"] Y F wZ fun hr nd=>have hu:=hr.units; (aH (kM (i:=1) nd rfl gO)
 (aH (df bu rfl (iM (bF 0)) (fH rfl (bM (kz (i:=2) nd rfl) (bM (kz (i:=3) nd rfl) eu)) (bN (bN ez))) (aH (hU (bF 3) (jM hu (bF 1) (bF 2)))
 (aM (hU (bF 2) (jM hu (bF 1) (bF 3))))))
 (aM (cx (bE (bF 1))))))
theorem zY (F:i6 V.K "whole_plan" (top 24)) (Me:gY V 1 "next_of" ["drawing"] lV) (v8:gY V 1 "plan_of" ["far"] jk) (tO:gY V 1 "far_ends" ["threads"] iw):gY V 2 "whole_plan" ["drawing"] i9 :=
 sJ ["drawing","threads"] Y F sN fun hr nd=>(aH (yi ["spot","after"] (sc:=cu (top 24)) (XN:=["drawing","threads"]) (i:=1) nd rfl rfl (GX (mG Me hr (mY (bF 0)))) (fun _ _ _ _=>(fH rfl (bM (kz (i:=0) (show (["spot","after"]:List Str).Nodup by decide +kernel) rfl) (bM (kz (i:=1) (show (["spot","after"]:List Str).Nodup by decide +kernel) rfl) eu)) (bN (bN ez)))) (fun _ _ _ _=>.none) (fun _ _ _ _=>(cm (l8 (dG fI (bF 0) (cm (mY aJ))) (dG fI (bF 1) (cm (mY aJ)))))))
 (aM (cx (bE (mG v8 hr (mY (bE (mG tO hr (mY (bF 1))))))))))
theorem tJ (F:i6 V.K "without_noughts" (top 13)):gY V 1 "without_noughts" ["sums"] cM :=
 sJ ["sums","kept","power","number"] Y F mw fun hr nd=>have hu:=hr.units; (aH (kM (i:=1) nd rfl gO)
 (aH (df bu rfl (jx (bF 0)) (fH rfl (bM (kz (i:=2) nd rfl) (bM (kz (i:=3) nd rfl) eu)) (bN (bN ez))) (aM (g6 (fj (NY hu) (bF 3) aJ (gP _)) (aM (hU (bF 3) (jM hu (bF 1) (bF 2)))) fg)))
 (aM (cx (bE (bF 1))))))
theorem Pa (F:i6 V.K "times" (top 15)) (fU:gY V 1 "without_noughts" ["sums"] cM):gY V 2 "times" ["one","other"] gk :=
 sJ ["one","other","sums","power","number","other_power","other_number","both"] Y F Fv fun hr nd=>have hu:=hr.units; (aH (kM (i:=2) nd rfl gO)
 (aH (df bu rfl (jx (bF 0)) (fH rfl (bM (kz (i:=3) nd rfl) (bM (kz (i:=4) nd rfl) eu)) (bN (bN ez))) (aM (df bu rfl (jx (bF 1)) (fH rfl (bM (kz (i:=5) nd rfl) (bM (kz (i:=6) nd rfl) eu)) (bN (bN ez))) (aH (kM (i:=7) nd rfl (dG fI (bF 3) (bF 5)))
 (aM (hU (dG fI (jl cB e7 iW lQ Cr (bF 2) (l8 (bF 7) aJ)) (dG yn (bF 4) (bF 6))) (jM hu (bF 2) (bF 7))))))))
 (aM (cx (bE (mG fU hr (mY (bE (bF 2)))))))))
theorem L1 (F:i6 V.K "raised" (top 17)) (gw:oE V.K "range") (Dc:gY V 2 "times" ["one","other"] gk):gY V 3 "raised" ["one","count"] fu :=
 sJ ["one","count","product","step"] Y F BC fun hr nd=>(aH (kM (i:=2) nd rfl (Ed aJ aJ))
 (aH (df bu rfl (oZ rfl (Y.no gw) (bF 1)) (kz (i:=3) nd rfl) (aM (kM (i:=2) nd rfl (mG Dc hr (l8 (bE (bF 2)) (bE (bF 0)))))))
 (aM (cx (bE (bF 2))))))
theorem yW (F:i6 V.K "joined_plan" (top 26)) (tO:gY V 1 "far_ends" ["threads"] iw) (v8:gY V 1 "plan_of" ["far"] jk):gY V 2 "joined_plan" ["plan","pairs"] iu :=
 sJ ["plan","pairs","far","closed","one","other","before","after"] Y F rn fun hr nd=>have hu:=hr.units; (aH (kM (i:=2) nd rfl (mG tO hr (mY (bF 0))))
 (aH (kM (i:=3) nd rfl aJ)
 (aH (df bu rfl (iM (bF 1)) (fH rfl (bM (kz (i:=4) nd rfl) (bM (kz (i:=5) nd rfl) eu)) (bN (bN ez))) (aH (kM (i:=6) nd rfl (jl cB sQ KQ lQ (El hu) (bF 2) (mY (bF 4))))
 (aH (kM (i:=7) nd rfl (jl cB sQ KQ lQ (El hu) (bF 2) (mY (bF 5))))
 (aM (g6 (fj (nG hu) (bF 6) (bF 5) (gP _)) (aM (kM (i:=3) nd rfl (dG fI (bF 3) aJ))) (aH (hU (bF 7) (jM hu (bF 2) (bF 6)))
 (aM (hU (bF 6) (jM hu (bF 2) (bF 7))))))))))
 (aM (cx (bE (cm (l8 (mG v8 hr (mY (bE (bF 2)))) (bF 3)))))))))
theorem L4 (F:i6 V.K "joints" (top 21)) {oS:Tok} (jR:dD V.K bL "ALONG" = some (some (.int 0 oS))):gY V 1 "joints" ["name","split"] nW :=
 sJ ["name","split"] Y F BD fun hr nd=>have hu:=hr.units; (aH (g6 (fj (nG hu) (bF 1) (rH rfl (Y.mg jR)) (gP _)) (aM (cx (bE (jO (l8 (cm (l8 (cm (zD (bF 0) aJ aJ)) (cm (zD (bF 0) aJ aJ)))) (cm (l8 (cm (zD (bF 0) aJ aJ)) (cm (zD (bF 0) aJ aJ))))))))) fg)
 (aM (cx (bE (jO (l8 (cm (l8 (cm (zD (bF 0) aJ aJ)) (cm (zD (bF 0) aJ aJ)))) (cm (l8 (cm (zD (bF 0) aJ aJ)) (cm (zD (bF 0) aJ aJ))))))))))
theorem HM (F:i6 V.K "shifted" (top 16)) (fU:gY V 1 "without_noughts" ["sums"] cM):gY V 2 "shifted" ["one","by","factor"] e9 :=
 sJ ["one","by","factor","sums","power","number"] Y F zh fun hr nd=>have hu:=hr.units; (aH (kM (i:=3) nd rfl gO)
 (aH (df bu rfl (jx (bF 0)) (fH rfl (bM (kz (i:=4) nd rfl) (bM (kz (i:=5) nd rfl) eu)) (bN (bN ez))) (aM (hU (dG yn (bF 5) (bF 2)) (jM hu (bF 3) (dG fI (bF 4) (bF 1))))))
 (aM (cx (bE (mG fU hr (mY (bE (bF 3)))))))))
theorem EU (F:i6 V.K "power_at" (top 22)) {oS:Tok} (jR:dD V.K bL "ALONG" = some (some (.int 0 oS))):gY V 1 "power_at" ["hand","split"] ko :=
 sJ ["hand","split"] Y F wW fun hr nd=>have hu:=hr.units; (aM (cx (bE (Cc (fj (nG hu) (bF 1) (rH rfl (Y.mg jR)) (gP _)) (bF 0) (qK mS (bF 0))))))
theorem Pb (F:i6 V.K "added" (top 14)) (no_dict:oE V.K "dict") (fU:gY V 1 "without_noughts" ["sums"] cM):gY V 2 "added" ["one","other"] iA :=
 sJ ["one","other","sums","power","number"] Y F Fy fun hr nd=>have hu:=hr.units; (aH (kM (i:=2) nd rfl (sX Iq rfl (Y.no no_dict) Di (mY (bF 0))))
 (aH (df bu rfl (jx (bF 1)) (fH rfl (bM (kz (i:=3) nd rfl) (bM (kz (i:=4) nd rfl) eu)) (bN (bN ez))) (aM (hU (dG fI (jl cB e7 iW lQ Cr (bF 2) (l8 (bF 3) aJ)) (bF 4)) (jM hu (bF 2) (bF 3)))))
 (aM (cx (bE (mG fU hr (mY (bE (bF 2)))))))))
theorem CM (F:i6 V.K "opened_at" (top 27)) (no_dict:oE V.K "dict") {vI:Tok} (tM:dD V.K bL "AGAINST" = some (some (.int 1 vI))) {oS:Tok} (jR:dD V.K bL "ALONG" = some (some (.int 0 oS))) {mi:Addr} (rM:dD V.K bL "LOOP" = some (some (.ref mi))) (rL:(mi == cO)=false) (rN:Bp V.K mi [(2,-1),(-2,-1)]=true) (An:gY V 2 "joined_plan" ["plan","pairs"] iu) (PM:gY V 1 "joints" ["name","split"] nW) (Md:gY V 2 "shifted" ["one","by","factor"] e9) (Ir:gY V 1 "power_at" ["hand","split"] ko) (Dc:gY V 2 "times" ["one","other"] gk) (zb:gY V 3 "raised" ["one","count"] fu) (RX:gY V 2 "added" ["one","other"] iA):gY V 4 "opened_at" ["sums","name","hand"] lg :=
 sJ ["sums","name","hand","after","plan","poly","split","made","part","kept"] Y F Dv fun hr nd=>have hu:=hr.units; (aH (kM (i:=3) nd rfl JA)
 (aH (B9 (df bu rfl (yj (bF 0)) (fH rfl (bM (kz (i:=4) nd rfl) (bM (kz (i:=5) nd rfl) eu)) (bN (bN ez))) (aM (df bu rfl (iM (cm (l8 (rH rfl (Y.mg jR)) (rH rfl (Y.mg tM))))) (kz (i:=6) nd rfl) (aH (kM (i:=7) nd rfl (mG An hr (l8 (bF 4) (mG PM hr (l8 (bF 1) (bF 6))))))
 (aH (kM (i:=8) nd rfl (mG Md hr (zD (bE (mG Dc hr (l8 (bE (bF 5)) (bE (mG zb hr (l8 (bE (AO rfl (Y.no no_dict) rfl (Y.mg rM) rL rN (by decide) (by decide))) (bE (fE hu (bF 7) aJ (fun _ _=>rfl))))))))) (bE (mG Ir hr (l8 (bF 2) (bF 6)))) (bE aJ))))
 (aM (hU (bE (mG RX hr (l8 (bE (jl cB e7 iW IZ (Em hu) (bF 3) (l8 (bE (fE hu (bF 7) aJ (fun _ _=>rfl))) (bE gO)))) (bE (bF 8))))) (Ec hu (bF 3) (fE hu (bF 7) aJ (fun _ _=>rfl)))))))))))
 (aH (kM (i:=9) nd rfl JA)
 (aH (B9 (df bu rfl (yj (bF 3)) (fH rfl (bM (kz (i:=4) nd rfl) (bM (kz (i:=5) nd rfl) eu)) (bN (bN ez))) (aM (g6 (lD (bF 5)) (aM (hU (bE (bF 5)) (Ec hu (bF 9) (bF 4)))) fg))))
 (aM (cx (bE (bF 9))))))))
theorem L3 (F:i6 V.K "opened" (top 28)) (no_dict:oE V.K "dict") (o7:oE V.K "len") (vR:oE V.K "zip") {mi:Addr} (rM:dD V.K bL "LOOP" = some (some (.ref mi))) (rL:(mi == cO)=false) (rN:Bp V.K mi [(2,-1),(-2,-1)]=true) (Mg:gY V 2 "hand_of" ["drawing","name"] j7) (C9:gY V 2 "whole_plan" ["drawing"] i9) (zb:gY V 3 "raised" ["one","count"] fu) (Fg:gY V 4 "opened_at" ["sums","name","hand"] lg):gY V 5 "opened" ["drawing","names"] rz :=
 sJ ["drawing","names","hands","loose","sums","name","hand"] Y F Mn fun hr nd=>have hu:=hr.units; (aH (yi ["name","drawing"] (sc:=cu (top 28)) (XN:=["drawing","names","hands","loose","sums","name","hand"]) (i:=2) nd rfl rfl (iM (bF 1)) (fun _ _ _ _=>(kz (i:=0) (show (["name","drawing"]:List Str).Nodup by decide +kernel) rfl)) (fun _ _ _ _=>.none) (fun _ _ _ _=>(mG Mg hr (l8 (bF 1) (bF 0)))))
 (aH (kM (i:=3) nd rfl (gW v7 rfl (Y.no o7) Iz (mY (uv ["row"] (sc:=cu (top 28)) (XN:=["drawing","names","hands","loose","sums","name","hand"]) (iM (bF 0)) (fun _ _ _ _=>(kz (i:=0) (show (["row"]:List Str).Nodup by decide +kernel) rfl)) (fun _ _ _ _=>(.some (oY (lD (bF 0))))) (fun _ _ _ _=>(bF 0))))))
 (aH (kM (i:=4) nd rfl (bE (NU hu (mG C9 hr (mY (bF 0))) (bE (mG zb hr (l8 (bE (AO rfl (Y.no no_dict) rfl (Y.mg rM) rL rN (by decide) (by decide))) (bE (bF 3))))))))
 (aH (df bu rfl (Jz rfl (Y.no vR) (bF 1) (bF 2)) (fH rfl (bM (kz (i:=5) nd rfl) (bM (kz (i:=6) nd rfl) eu)) (bN (bN ez))) (aM (kM (i:=4) nd rfl (bE (mG Fg hr (zD (bF 4) (bF 5) (bF 6)))))))
 (aM (cx (bE (bF 4))))))))
theorem EV (F:i6 V.K "names_of" (top 8)) (lF:oE V.K "sorted") (nO:gY V 1 "passings_of" ["rows"] fD):gY V 2 "names_of" ["drawing"] jv :=
 sJ ["drawing"] Y F wX fun hr nd=>have hu:=hr.units; (aM (cx (bE (gW (va rfl hu) rfl (Y.no lF) Bu (mY (uv ["passing"] (sc:=cu (top 8)) (XN:=["drawing"]) (iM (mG nO hr (mY (bF 0)))) (fun _ _ _ _=>(kz (i:=0) (show (["passing"]:List Str).Nodup by decide +kernel) rfl)) (fun _ _ _ _=>(.some (fj (nG hu) (fE hu (bF 0) aJ (fun _ _=>rfl)) aJ (gP _)))) (fun _ _ _ _=>(fE hu (bF 0) aJ (fun _ _=>rfl)))))))))
theorem HS (F:i6 V.K "bracket" (top 29)) (PL:gY V 5 "opened" ["drawing","names"] rz) (Iu:gY V 2 "names_of" ["drawing"] jv):gY V 6 "bracket" ["drawing"] oU :=
 sJ ["drawing"] Y F II fun hr nd=>have hu:=hr.units; (aM (cx (bE (jl cB e7 iW IZ (Em hu) (mG PL hr (l8 (bF 0) (mG Iu hr (mY (bF 0))))) (l8 (bE (cm fT)) (bE gO))))))
theorem tK (F:i6 V.K "refuse_no_braid" (top 33)) (kP:oE V.K "abs") (o7:oE V.K "len") {lR:Tok} (kS:dD V.K bL "MOST_STRANDS" = some (some (.int 3 lR))) {lS:Tok} (kT:dD V.K bL "MOST_LETTERS" = some (some (.int 12 lS))):gY V 1 "refuse_no_braid" ["letters","strands"] fC :=
 sJ ["letters","strands","letter"] Y F mx fun hr nd=>have UU:=hr.BP; (aH (g6 (oY (AN Hb Hb aJ (bF 1) (rH rfl (Y.mg kS)))) (aM rF) fg)
 (aH (g6 (fj Ci (gW v7 rfl (Y.no o7) Iz (mY (bF 0))) (rH rfl (Y.mg kT)) (gP _)) (aM rF) fg)
 (aM (df bu rfl (iM (bF 0)) (kz (i:=2) nd rfl) (aM (g6 (oY (AN Hb (Cg UU) aJ (gW rS rfl (Y.no kP) Dj (mY (bF 2))) (bF 1))) (aM rF) fg))))))
theorem zZ (F:i6 V.K "passing_at" (top 34)) (kP:oE V.K "abs"):gY V 1 "passing_at" ["name","letter","place"] jb :=
 sJ ["name","letter","place","from_right","way"] Y F sO fun hr nd=>have hu:=hr.units; (aH (kM (i:=3) nd rfl (Cd (nG hu) (bF 2) (dG fI (gW rS rfl (Y.no kP) Dj (mY (bF 1))) aJ) (gP _)))
 (aH (kM (i:=4) nd rfl (Cc (fj (nG hu) (bF 3) (Cd Ci (bF 1) aJ (gP _)) (gP _)) aJ aJ))
 (aM (cx (bE (cm (zD (bF 0) (bF 4) (Cc (fj Ci (bF 1) aJ (gP _)) aJ (qK mS aJ)))))))))
theorem CO (F:i6 V.K "gone_down" (top 35)) (kP:oE V.K "abs") (iN:oE V.K "enumerate") (De:gY V 1 "passing_at" ["name","letter","place"] jb):gY V 2 "gone_down" ["letters","top"] iK :=
 sJ ["letters","top","passings","place","name","letter","left"] Y F vm fun hr nd=>have hu:=hr.units; (aH (kM (i:=2) nd rfl (jO fT))
 (aH (kM (i:=3) nd rfl (bF 1))
 (aH (df bu rfl (Lp rfl (Y.no iN) (bF 0)) (fH rfl (bM (kz (i:=4) nd rfl) (bM (kz (i:=5) nd rfl) eu)) (bN (bN ez))) (aH (kM (i:=6) nd rfl (gW rS rfl (Y.no kP) Dj (mY (bF 5))))
 (aM (g6 (fj (Us hu) (bF 3) (cm (l8 (bF 6) (dG fI (bF 6) aJ))) (by with_unfolding_all rfl)) (aH (fS (jl di jV jU kn o8 (bF 2) (mY (mG De hr (zD (bF 4) (bF 5) (bF 3))))))
 (aM (kM (i:=3) nd rfl (Cc (fj (nG hu) (bF 3) (bF 6) (gP _)) (dG fI (bF 6) aJ) (bF 6))))) fg))))
 (aM (cx (bE (cm (l8 (bF 2) (bF 3)))))))))
theorem yS (F:i6 V.K "string_from" (top 36)) (Fh:gY V 2 "gone_down" ["letters","top"] iK):gY V 3 "string_from" ["letters","top"] gm :=
 sJ ["letters","top","passings","tops","place","down"] Y F rh fun hr nd=>have hu:=hr.units; (aH (kM (i:=2) nd rfl (jO fT))
 (aH (kM (i:=3) nd rfl (jO fT))
 (aH (kM (i:=4) nd rfl (bF 1))
 (aH (Lj bu (fj (AQ hu) (bF 4) (bF 3) (by with_unfolding_all rfl)) (aH (fS (jl di jV jU kn o8 (bF 3) (mY (bF 4))))
 (aH (kM (i:=5) nd rfl (mG Fh hr (l8 (bF 0) (bF 4))))
 (aH (fS (jl di pV pU kn tj (bF 2) (mY (fE hu (bF 5) aJ (fun _ _=>rfl)))))
 (aM (kM (i:=4) nd rfl (fE hu (bF 5) aJ (fun _ _=>rfl))))))))
 (aM (cx (bE (cm (l8 (bF 2) (bF 3))))))))))
theorem L0 (F:i6 V.K "seated" (top 6)) (Hf:oE V.K "min"):gY V 1 "seated" ["row"] nV :=
 sJ ["row","start"] Y F BB fun hr nd=>have hu:=hr.units; (aH (g6 (oY (lD (bF 0))) (aM (cx (bE (jO fT)))) fg)
 (aH (kM (i:=1) nd rfl (jl di Gg PySem.F.type_list_index kn (Lx hu) (bF 0) (mY (gW (Mc rfl hu) rfl (Y.no Hf) Vq (mY (bF 0))))))
 (aM (cx (bE (dG fI (j9 (bF 0) (ky (bF 1)) og) (j9 (bF 0) og (ky (bF 1)))))))))
theorem yT (F:i6 V.K "seated_rows" (top 7)) (PJ:gY V 1 "seated" ["row"] nV):gY V 2 "seated_rows" ["rows"] gu :=
 sJ ["rows"] Y F rj fun hr nd=>(aM (cx (bE (uv ["row"] (sc:=cu (top 7)) (XN:=["rows"]) (iM (bF 0)) (fun _ _ _ _=>(kz (i:=0) (show (["row"]:List Str).Nodup by decide +kernel) rfl)) (fun _ _ _ _=>.none) (fun _ _ _ _=>(mG PJ hr (mY (bF 0))))))))
theorem L5 (F:i6 V.K "closed" (top 37)) (gw:oE V.K "range") (vb:gY V 1 "refuse_no_braid" ["letters","strands"] fC) (Ah:gY V 3 "string_from" ["letters","top"] gm) (Aj:gY V 2 "seated_rows" ["rows"] gu):gY V 4 "closed" ["letters","strands"] lA :=
 sJ ["letters","strands","rows","met","top","string"] Y F BE fun hr nd=>have hu:=hr.units; (aH (fS (mG vb hr (l8 (bF 0) (bF 1))))
 (aH (kM (i:=2) nd rfl (jO fT))
 (aH (kM (i:=3) nd rfl (jO fT))
 (aH (df bu rfl (GW rfl (Y.no gw) aJ (dG fI (bF 1) aJ)) (kz (i:=4) nd rfl) (aM (g6 (fj (AQ hu) (bF 4) (bF 3) (by with_unfolding_all rfl)) (aH (kM (i:=5) nd rfl (mG Ah hr (l8 (bF 0) (bF 4))))
 (aH (fS (jl di jV jU kn o8 (bF 2) (mY (fE hu (bF 5) aJ (fun _ _=>rfl)))))
 (aM (fS (jl di pV pU kn tj (bF 3) (mY (fE hu (bF 5) aJ (fun _ _=>rfl)))))))) fg)))
 (aM (cx (bE (mG Aj hr (mY (bF 2))))))))))
theorem CN (F:i6 V.K "_law_whole" (top 40)) (Ck:oE V.K "bool") (Hg:oE V.K "int") (fW:oE V.K "isinstance"):gY V 1 "_law_whole" ["_law_found"] gM :=
 sJ ["_law_found"] Y F vk fun hr nd=>(aM (cx (bE (Ra (Cb "int" (by decide) rfl (Y.no fW) rfl (Y.no Hg) Vr (bF 0)) (Q8 (Q9 (Cb "bool" (by decide) rfl (Y.no fW) rfl (Y.no Ck) R0 (bF 0))))))))
theorem EX (F:i6 V.K "_law_more" (top 42)):gY V 1 "_law_more" ["_law_into","_law_one","_law_by","_law_factor"] d8 :=
 sJ ["_law_into","_law_one","_law_by","_law_factor","_law_high","_law_number"] Y F Fx fun hr nd=>have hu:=hr.units; (aM (df bu rfl (jx (bF 1)) (fH rfl (bM (kz (i:=4) nd rfl) (bM (kz (i:=5) nd rfl) eu)) (bN (bN ez))) (aM (hU (dG fI (jl cB e7 iW lQ Cr (bF 0) (l8 (dG fI (bF 4) (bF 2)) aJ)) (dG yn (bF 5) (bF 3))) (jM hu (bF 0) (dG fI (bF 4) (bF 2)))))))
theorem z8 (F:i6 V.K "_law_looped" (top 43)) (iF:gY V 1 "_law_more" ["_law_into","_law_one","_law_by","_law_factor"] d8):gY V 2 "_law_looped" ["_law_one"] gV :=
 sJ ["_law_one","_law_found"] Y F Ap fun hr nd=>(aH (kM (i:=1) nd rfl gO)
 (aH (fS (mG iF hr (cJ (bF 1) (zD (bF 0) aJ (qK mS aJ)))))
 (aH (fS (mG iF hr (cJ (bF 1) (zD (bF 0) (qK mS aJ) (qK mS aJ)))))
 (aM (cx (bE (bF 1)))))))
theorem EW (F:i6 V.K "_law_step" (top 44)) (kP:oE V.K "abs") (gw:oE V.K "range") (iF:gY V 1 "_law_more" ["_law_into","_law_one","_law_by","_law_factor"] d8) (pB:gY V 2 "_law_looped" ["_law_one"] gV):gY V 3 "_law_step" ["_law_states","_law_letter"] mW :=
 sJ ["_law_states","_law_letter","_law_hand","_law_first","_law_second","_law_found","_law_at","_law_to","_law_loop"] Y F Fw fun hr nd=>have hu:=hr.units; have UU:=hr.BP; (aH (kM (i:=2) nd rfl aJ)
 (aH (g6 (fj (Cg UU) (bF 1) aJ (gP _)) (aM (kM (i:=2) nd rfl (qK mS aJ))) fg)
 (aH (kM (i:=3) nd rfl (cm (cJ (cm (l8 aJ aJ)) (cJ (cm (l8 aJ aJ)) (zD (cm (l8 aJ aJ)) (cm (l8 aJ aJ)) (cm (l8 aJ aJ)))))))
 (aH (kM (i:=4) nd rfl (cm (cJ (cm (l8 aJ aJ)) (cJ (cm (l8 aJ aJ)) (zD (cm (l8 aJ aJ)) (cm (l8 aJ aJ)) (cm (l8 aJ aJ)))))))
 (aH (yi ["_law_k"] (sc:=cu (top 44)) (XN:=["_law_states","_law_letter","_law_hand","_law_first","_law_second","_law_found","_law_at","_law_to","_law_loop"]) (i:=5) nd rfl rfl (oZ rfl (Y.no gw) aJ) (fun _ _ _ _=>(kz (i:=0) (show (["_law_k"]:List Str).Nodup by decide +kernel) rfl)) (fun _ _ _ _=>.none) (fun _ _ _ _=>gO))
 (aH (df bu rfl (oZ rfl (Y.no gw) aJ) (kz (i:=6) nd rfl) (aH (hU (fE hu (fE hu (cm (l8 (bF 3) (bF 4))) (dG xk (gW rS rfl (Y.no kP) Dj (mY (bF 1))) aJ) (fun _ _=>rfl)) (bF 6) (fun _ _=>rfl)) (fH rfl (bM (kz (i:=7) nd rfl) (bM (kz (i:=8) nd rfl) eu)) (bN (bN ez))))
 (aH (fS (mG iF hr (cJ (fE hu (bF 5) (bF 6) (fun _ _=>rfl)) (zD (fE hu (bF 0) (bF 6) (fun _ _=>rfl)) (bF 2) aJ))))
 (aM (g6 (fj (nG hu) (bF 8) aJ (gP _)) (aM (fS (mG iF hr (cJ (fE hu (bF 5) (bF 7) (fun _ _=>rfl)) (zD (mG pB hr (mY (fE hu (bF 0) (bF 6) (fun _ _=>rfl)))) (qK mS (bF 2)) aJ))))) (aM (fS (mG iF hr (cJ (fE hu (bF 5) (bF 7) (fun _ _=>rfl)) (zD (fE hu (bF 0) (bF 6) (fun _ _=>rfl)) (qK mS (bF 2)) aJ))))))))))
 (aM (cx (bE (bF 5))))))))))
theorem HQ (F:i6 V.K "_law_due" (top 45)) (iN:oE V.K "enumerate") (gw:oE V.K "range") (Iw:gY V 3 "_law_step" ["_law_states","_law_letter"] mW) (pB:gY V 2 "_law_looped" ["_law_one"] gV) (iF:gY V 1 "_law_more" ["_law_into","_law_one","_law_by","_law_factor"] d8):gY V 4 "_law_due" ["_law_letters_here","_law_strands"] oT :=
 sJ ["_law_letters_here","_law_strands","_law_states","_law_letter","_law_found","_law_at","_law_many","_law_one","_law_k","_law_due_here","_law_high","_law_number"] Y F IG fun hr nd=>have hu:=hr.units; (aH (kM (i:=2) nd rfl (bE (jO (cJ (Ed aJ aJ) (cJ gO (zD gO gO gO))))))
 (aH (df bu rfl (iM (bF 0)) (kz (i:=3) nd rfl) (aM (kM (i:=2) nd rfl (bE (mG Iw hr (l8 (bF 2) (bF 3)))))))
 (aH (kM (i:=4) nd rfl gO)
 (aH (B9 (df bu rfl (Lo rfl (Y.no iN) (cm (cJ (bF 1) (cJ (dG xk (bF 1) aJ) (zD aJ aJ aJ))))) (fH rfl (bM (kz (i:=5) nd rfl) (bM (kz (i:=6) nd rfl) eu)) (bN (bN ez))) (aH (kM (i:=7) nd rfl (fE hu (bF 2) (bF 5) (fun _ _=>rfl)))
 (aH (df bu rfl (oZ rfl (Y.no gw) (bF 6)) (kz (i:=8) nd rfl) (aM (kM (i:=7) nd rfl (mG pB hr (mY (bF 7))))))
 (aM (fS (mG iF hr (cJ (bF 4) (zD (bF 7) aJ aJ)))))))))
 (aH (kM (i:=9) nd rfl gO)
 (aH (df bu rfl (jx (bF 4)) (fH rfl (bM (kz (i:=10) nd rfl) (bM (kz (i:=11) nd rfl) eu)) (bN (bN ez))) (aM (g6 (fj (NY hu) (bF 11) aJ (gP _)) (aM (hU (bF 11) (jM hu (bF 9) (bF 10)))) fg)))
 (aM (cx (bE (bF 9))))))))))
theorem U9 {f:Addr} {fd:gG} (F:Sb V.K "law" "law" (top 46) f fd) (no_dict:oE V.K "dict") (fW:oE V.K "isinstance") (Cj:oE V.K "list") (Iy:gY V 1 "_law_cell" ["_law_script","_law_k"] jw) (Am:gY V 1 "_law_letters" ["_law_cells","_law_strands"] gv) (Mh:gY V 6 "bracket" ["drawing"] oU) (PN:gY V 4 "closed" ["letters","strands"] lA) (wU:gY V 1 "_law_whole" ["_law_found"] gM) (Mf:gY V 4 "_law_due" ["_law_letters_here","_law_strands"] oT):xc V.P V.w V.K V.mg V.base KN 7 f fd ["_law_script"] (BX V.K K2.AD) :=
 fo2 F Nq Vz fun _ _ _ _ _ _ hr=>have nd:=Nq.nd; have hu:=hr.units; (aH (kM (i:=1) nd rfl (dG fI aJ (dG Cf (mG Iy hr (l8 (bF 0) aJ)) aJ)))
 (aH (kM (i:=2) nd rfl (mG Am hr (l8 (j9 (bF 0) (ky aJ) (ky aJ)) (bF 1))))
 (aH (kM (i:=3) nd rfl (bE (mG Mh hr (mY (bE (mG PN hr (l8 (bE (sX Ip rfl (Y.no Cj) RZ (mY (bF 2)))) (bE (bF 1)))))))))
 (aH (g6 (oY (lD (Cb "dict" (by decide) rfl (Y.no fW) rfl (Y.no no_dict) Di (bF 3)))) (aM (cx (bE NW))) fg)
 (aH (df bu rfl (jx (bF 3)) (fH rfl (bM (kz (i:=4) nd rfl) (bM (kz (i:=5) nd rfl) eu)) (bN (bN ez))) (aM (g6 (VX.pt (T9 (oY (lD (mG wU hr (mY (bF 4))))) (QW (oY (lD (mG wU hr (mY (bF 5)))))))) (aM (cx (bE NW))) fg)))
 (aM (cx (bE (Cd (Ri hu) (bF 3) (mG Mf hr (l8 (bF 2) (bF 1))) (gP _))))))))))
end
theorem all_mk {l:BI} {w:World} {K:ai} {h:Heap} {mg:Str->Option Value} {fa fl:Addr} {dl:gG} (X:K.In h) (G:h.Ns bL mg) (hfa:mg "law" = some (.ref fa)) (FL:At K "law" (top 46) fl dl) (F0:i6 K "_law_cell" (top 39)) (F1:i6 K "_law_letters" (top 41)) (F2:i6 K "passings_of" (top 5)) (F3:i6 K "hand_of" (top 9)) (F4:i6 K "next_of" (top 10)) (F5:i6 K "plan_of" (top 23)) (F6:i6 K "far_ends" (top 25)) (F7:i6 K "whole_plan" (top 24)) (F8:i6 K "without_noughts" (top 13)) (F9:i6 K "times" (top 15)) (F10:i6 K "raised" (top 17)) (F11:i6 K "joined_plan" (top 26)) (F12:i6 K "joints" (top 21)) (F13:i6 K "shifted" (top 16)) (F14:i6 K "power_at" (top 22)) (F15:i6 K "added" (top 14)) (F16:i6 K "opened_at" (top 27)) (F17:i6 K "opened" (top 28)) (F18:i6 K "names_of" (top 8)) (F19:i6 K "bracket" (top 29)) (F20:i6 K "refuse_no_braid" (top 33)) (F21:i6 K "passing_at" (top 34)) (F22:i6 K "gone_down" (top 35)) (F23:i6 K "string_from" (top 36)) (F24:i6 K "seated" (top 6)) (F25:i6 K "seated_rows" (top 7)) (F26:i6 K "closed" (top 37)) (F27:i6 K "_law_whole" (top 40)) (F28:i6 K "_law_more" (top 42)) (F29:i6 K "_law_looped" (top 43)) (F30:i6 K "_law_step" (top 44)) (F31:i6 K "_law_due" (top 45)) {oS:Tok} (jR:autoParam (dD K bL "ALONG" = some (some (.int 0 oS))) Aq._auto_1) {vI:Tok} (tM:autoParam (dD K bL "AGAINST" = some (some (.int 1 vI))) Aq._auto_1) {lR:Tok} (kS:autoParam (dD K bL "MOST_STRANDS" = some (some (.int 3 lR))) Aq._auto_1) {lS:Tok} (kT:autoParam (dD K bL "MOST_LETTERS" = some (some (.int 12 lS))) Aq._auto_1) {mi:Addr} (rM:autoParam (dD K bL "LOOP" = some (some (.ref mi))) Aq._auto_1) (rL:autoParam ((mi == cO)=false) Ae._auto_1) (rN:autoParam (Bp K mi [(2,-1),(-2,-1)]=true) Af._auto_1) (o7:autoParam (oE K "len") Mr._auto_1) (vR:autoParam (oE K "zip") Mr._auto_1) (lF:autoParam (oE K "sorted") Mr._auto_1) (yt:autoParam (oE K "tuple") Mr._auto_1) (gw:autoParam (oE K "range") Mr._auto_1) (no_dict:autoParam (oE K "dict") Mr._auto_1) (kP:autoParam (oE K "abs") Mr._auto_1) (iN:autoParam (oE K "enumerate") Mr._auto_1) (Hf:autoParam (oE K "min") Mr._auto_1) (Ck:autoParam (oE K "bool") Mr._auto_1) (Hg:autoParam (oE K "int") Mr._auto_1) (fW:autoParam (oE K "isinstance") Mr._auto_1) (Cj:autoParam (oE K "list") Mr._auto_1) :
  ∃ fd:gG,(∀ (s:av) (v:Value),BindsTo s fd ⟨[v],[]⟩ [("_law_script",v)])/\∀ base:Heap,K.In base->base.Ns bL mg->xc l.prog w K mg base KN 7 fa fd ["_law_script"] (BX K K2.AD):=by
 have e:=hfa.symm.trans (PySem.W.mg_of X G FL.a);cases e;obtain⟨Fa,Fl⟩:=FL;obtain⟨oc,od,kV,doc,pm,an,lH,ct,Lr,rfl,lk,Ka⟩:=Fl.ex;refine⟨jT "law" "law" (kj (top 46)) (hV (top 46)) (cu (top 46)) .none kV doc pm an lH ct,fun s v=>.of_eq rfl,fun base _ _=>?_⟩;have Y:Tn ⟨l.prog,w,K,mg,base⟩:=⟨X,G⟩;have c0:=EY Y F0 o7;have c1:=yV Y F1;have c2:=yU Y F2;have c3:=HR Y F3 c2;have c4:=HP Y F4 vR;have c5:=HN Y F5 lF yt;have c6:=EZ Y F6;have c7:=zY Y F7 c4 c5 c6;have c8:=tJ Y F8;have c9:=Pa Y F9 c8;have c10:=L1 Y F10 gw c9;have c11:=yW Y F11 c6 c5;have c12:=L4 Y F12 jR;have c13:=HM Y F13 c8;have c14:=EU Y F14 jR;have c15:=Pb Y F15 no_dict c8;have c16:=CM Y F16 no_dict tM jR rM rL rN c11 c12 c13 c14 c9 c10 c15;have c17:=L3 Y F17 no_dict o7 vR rM rL rN c3 c7 c10 c16;have c18:=EV Y F18 lF c2;have c19:=HS Y F19 c17 c18;have c20:=tK Y F20 kP o7 kS kT;have c21:=zZ Y F21 kP;have c22:=CO Y F22 kP iN c21;have c23:=yS Y F23 c22;have c24:=L0 Y F24 Hf;have c25:=yT Y F25 c24;have c26:=L5 Y F26 gw c20 c23 c25;have c27:=CN Y F27 Ck Hg fW;have c28:=EX Y F28;have c29:=z8 Y F29 c28;have c30:=EW Y F30 kP gw c28 c29;have c31:=HQ Y F31 iN gw c30 c29 c28;exact U9 Y Fl no_dict fW Cj c0 c1 c19 c26 c27 c31
section
open PySem.W PySem.Calls
noncomputable def hC (n:Str) (t:Nat) (l:List Value):Obj:=⟨.type "code",none,.fields (.str n t :: .str n (t+1) :: .str "/claim/cut.py" (t+2) :: l).toArray,#[]⟩
noncomputable def hI(n:Int):Value:=.int n 0
noncomputable def hR(n:Nat):Value:=.ref n
noncomputable def hN:Value:=.none
noncomputable def hT:Value:=.bool true
noncomputable def hS (n:Nat):Value:=.str "/claim/cut.py" n
noncomputable def hD(n:Str)(t:Nat)(l a:Int)(r:Nat)(x y z:Value)(u:Nat):Obj:=hC n t [hI l,hI a,hI 0,hI 0,hI 3,hR r,hT,hI 181,hR (r+1),hN,x,y,z,hI (u - 1),hI l,hS u]
noncomputable abbrev hF (i:Nat) (n:Str) (m c:Value):Obj:=⟨.type "function",none,.func (jT n n (kj (top i)) (hV (top i)) (cu (top i)) .none .none .none m none c .none),#[]⟩
noncomputable abbrev hE(P:Params)(s:Str)(t:Nat)(v:Value):fc:=⟨PyData.keyHash P s,.str s t,v⟩
noncomputable def hQ:bz:=PySem.W.view PySem.Challenge.pw_knotwise_k68_whole_braids_by_pictures [1,2,3,5,6,7,8,9,10,12,13,14,15,16,17,19,20,21,22,23,24,25,26,27,28,29,31,32,33,34,35,36,37,39,40,41,42,43,44,45,46]
noncomputable def hK (P:Params):ai:=(nat_lit 3,⟨(.type "dict"),none,(.dict #[hE P "__name__" 165 (.str "law_knotwise_k68_whole_braids_by_pictures" 509),hE P "__doc__" 166 .none,hE P "__package__" 167 .none,hE P "__loader__" 168 (.builtin "__main__.__loader__#opaque"),hE P "__spec__" 169 .none,hE P "__annotations__" 170 (.ref 6),hE P "__builtins__" 171 (.ref 4),hE P "__file__" 173 (.str "/claim/cut.py" 172),hE P "__cached__" 174 .none,hE P "KnotError" 206 (.ref 24),hE P "NoName" 222 (.ref 37),hE P "NoBraid" 238 (.ref 49),hE P "passings_of" 249 (.ref 58),hE P "seated" 257 (.ref 65),hE P "seated_rows" 263 (.ref 70),hE P "names_of" 269 (.ref 75),hE P "hand_of" 278 (.ref 82),hE P "next_of" 289 (.ref 89),hE P "LOOP" 301 (.ref 90),hE P "without_noughts" 311 (.ref 97),hE P "added" 322 (.ref 104),hE P "times" 336 (.ref 111),hE P "shifted" 348 (.ref 118),hE P "raised" 358 (.ref 125),hE P "ALONG" 362 (.int 0 361),hE P "AGAINST" 364 (.int 1 363),hE P "joints" 372 (.ref 132),hE P "power_at" 380 (.ref 139),hE P "plan_of" 386 (.ref 144),hE P "whole_plan" 392 (.ref 149),hE P "far_ends" 402 (.ref 156),hE P "joined_plan" 416 (.ref 163),hE P "opened_at" 432 (.ref 170),hE P "opened" 438 (.ref 175),hE P "bracket" 445 (.ref 182),hE P "MOST_LETTERS" 449 (.int 12 448),hE P "MOST_STRANDS" 451 (.int 3 450),hE P "refuse_no_braid" 460 (.ref 189),hE P "passing_at" 471 (.ref 196),hE P "gone_down" 484 (.ref 203),hE P "string_from" 496 (.ref 210),hE P "closed" 508 (.ref 217),hE P "_law_cell" 518 (.ref 224),hE P "_law_whole" 525 (.ref 231),hE P "_law_letters" 535 (.ref 238),hE P "_law_more" 547 (.ref 245),hE P "_law_looped" 555 (.ref 252),hE P "_law_step" 561 (.ref 257),hE P "_law_due" 579 (.ref 264),hE P "law" 591 (.ref 271)] 50),#[]⟩) ::
(nat_lit 57,hD "passings_of" 241 9 1 52 (hR 54) (hR 55) (hR 56) 248) ::
(nat_lit 58,hF 5 "passings_of" (.str "knotwise.drawings" 239) (.ref 57)) ::
(nat_lit 64,hD "seated" 250 14 1 59 (hR 61) (hR 62) (hR 63) 256) ::
(nat_lit 65,hF 6 "seated" (.str "knotwise.drawings" 239) (.ref 64)) ::
(nat_lit 69,hD "seated_rows" 258 19 1 66 hN hN (hR 68) 262) ::
(nat_lit 70,hF 7 "seated_rows" (.str "knotwise.drawings" 239) (.ref 69)) ::
(nat_lit 74,hD "names_of" 264 21 1 71 hN hN (hR 73) 268) ::
(nat_lit 75,hF 8 "names_of" (.str "knotwise.drawings" 239) (.ref 74)) ::
(nat_lit 81,hD "hand_of" 270 23 2 76 (hR 78) (hR 79) (hR 80) 277) ::
(nat_lit 82,hF 9 "hand_of" (.str "knotwise.drawings" 239) (.ref 81)) ::
(nat_lit 88,hD "next_of" 279 28 1 83 (hR 85) (hR 86) (hR 87) 288) ::
(nat_lit 89,hF 10 "next_of" (.str "knotwise.drawings" 239) (.ref 88)) ::
(nat_lit 90,⟨(.type "dict"),none,(.dict #[⟨2,(.int 2 292),(.int (-1) 294)⟩,⟨(-2),(.int (-2) 296),(.int (-1) 298)⟩] 2),#[]⟩) ::
(nat_lit 96,hD "without_noughts" 302 36 1 91 (hR 93) (hR 94) (hR 95) 310) ::
(nat_lit 97,hF 13 "without_noughts" (.str "knotwise.polys" 290) (.ref 96)) ::
(nat_lit 103,hD "added" 312 42 2 98 (hR 100) (hR 101) (hR 102) 321) ::
(nat_lit 104,hF 14 "added" (.str "knotwise.polys" 290) (.ref 103)) ::
(nat_lit 110,hD "times" 323 47 2 105 (hR 107) (hR 108) (hR 109) 335) ::
(nat_lit 111,hF 15 "times" (.str "knotwise.polys" 290) (.ref 110)) ::
(nat_lit 117,hD "shifted" 337 54 3 112 (hR 114) (hR 115) (hR 116) 347) ::
(nat_lit 118,hF 16 "shifted" (.str "knotwise.polys" 290) (.ref 117)) ::
(nat_lit 124,hD "raised" 349 59 2 119 (hR 121) (hR 122) (hR 123) 357) ::
(nat_lit 125,hF 17 "raised" (.str "knotwise.polys" 290) (.ref 124)) ::
(nat_lit 131,hD "joints" 365 67 2 126 (hR 128) (hR 129) (hR 130) 371) ::
(nat_lit 132,hF 21 "joints" (.str "knotwise.brackets" 359) (.ref 131)) ::
(nat_lit 138,hD "power_at" 373 71 2 133 (hR 135) (hR 136) (hR 137) 379) ::
(nat_lit 139,hF 22 "power_at" (.str "knotwise.brackets" 359) (.ref 138)) ::
(nat_lit 143,hD "plan_of" 381 73 1 140 hN hN (hR 142) 385) ::
(nat_lit 144,hF 23 "plan_of" (.str "knotwise.brackets" 359) (.ref 143)) ::
(nat_lit 148,hD "whole_plan" 387 75 1 145 hN hN (hR 147) 391) ::
(nat_lit 149,hF 24 "whole_plan" (.str "knotwise.brackets" 359) (.ref 148)) ::
(nat_lit 155,hD "far_ends" 393 78 1 150 (hR 152) (hR 153) (hR 154) 401) ::
(nat_lit 156,hF 25 "far_ends" (.str "knotwise.brackets" 359) (.ref 155)) ::
(nat_lit 162,hD "joined_plan" 403 84 2 157 (hR 159) (hR 160) (hR 161) 415) ::
(nat_lit 163,hF 26 "joined_plan" (.str "knotwise.brackets" 359) (.ref 162)) ::
(nat_lit 169,hD "opened_at" 417 96 3 164 (hR 166) (hR 167) (hR 168) 431) ::
(nat_lit 170,hF 27 "opened_at" (.str "knotwise.brackets" 359) (.ref 169)) ::
(nat_lit 174,hD "opened" 433 108 2 171 hN hN (hR 173) 437) ::
(nat_lit 175,hF 28 "opened" (.str "knotwise.brackets" 359) (.ref 174)) ::
(nat_lit 181,hD "bracket" 439 115 1 176 (hR 178) (hR 179) (hR 180) 444) ::
(nat_lit 182,hF 29 "bracket" (.str "knotwise.brackets" 359) (.ref 181)) ::
(nat_lit 188,hD "refuse_no_braid" 452 120 2 183 (hR 185) (hR 186) (hR 187) 459) ::
(nat_lit 189,hF 33 "refuse_no_braid" (.str "knotwise.braids" 446) (.ref 188)) ::
(nat_lit 195,hD "passing_at" 461 128 3 190 (hR 192) (hR 193) (hR 194) 470) ::
(nat_lit 196,hF 34 "passing_at" (.str "knotwise.braids" 446) (.ref 195)) ::
(nat_lit 202,hD "gone_down" 472 132 2 197 (hR 199) (hR 200) (hR 201) 483) ::
(nat_lit 203,hF 35 "gone_down" (.str "knotwise.braids" 446) (.ref 202)) ::
(nat_lit 209,hD "string_from" 485 141 2 204 (hR 206) (hR 207) (hR 208) 495) ::
(nat_lit 210,hF 36 "string_from" (.str "knotwise.braids" 446) (.ref 209)) ::
(nat_lit 216,hD "closed" 497 151 2 211 (hR 213) (hR 214) (hR 215) 507) ::
(nat_lit 217,hF 37 "closed" (.str "knotwise.braids" 446) (.ref 216)) ::
(nat_lit 223,hD "_law_cell" 511 162 2 218 (hR 220) (hR 221) (hR 222) 517) ::
(nat_lit 224,hF 39 "_law_cell" (.str "law_knotwise_k68_whole_braids_by_pictures" 509) (.ref 223)) ::
(nat_lit 230,hD "_law_whole" 519 166 1 225 (hR 227) (hR 228) (hR 229) 524) ::
(nat_lit 231,hF 40 "_law_whole" (.str "law_knotwise_k68_whole_braids_by_pictures" 509) (.ref 230)) ::
(nat_lit 237,hD "_law_letters" 526 168 2 232 (hR 234) (hR 235) (hR 236) 534) ::
(nat_lit 238,hF 41 "_law_letters" (.str "law_knotwise_k68_whole_braids_by_pictures" 509) (.ref 237)) ::
(nat_lit 244,hD "_law_more" 536 174 4 239 (hR 241) (hR 242) (hR 243) 546) ::
(nat_lit 245,hF 42 "_law_more" (.str "law_knotwise_k68_whole_braids_by_pictures" 509) (.ref 244)) ::
(nat_lit 251,hD "_law_looped" 548 177 1 246 (hR 248) (hR 249) (hR 250) 554) ::
(nat_lit 252,hF 43 "_law_looped" (.str "law_knotwise_k68_whole_braids_by_pictures" 509) (.ref 251)) ::
(nat_lit 256,hD "_law_step" 556 182 2 253 hN hN (hR 255) 560) ::
(nat_lit 257,hF 44 "_law_step" (.str "law_knotwise_k68_whole_braids_by_pictures" 509) (.ref 256)) ::
(nat_lit 263,hD "_law_due" 562 197 2 258 (hR 260) (hR 261) (hR 262) 578) ::
(nat_lit 264,hF 45 "_law_due" (.str "law_knotwise_k68_whole_braids_by_pictures" 509) (.ref 263)) ::
(nat_lit 270,hD "law" 580 212 1 265 (hR 267) (hR 268) (hR 269) 590) ::
(nat_lit 271,hF 46 "law" (.str "law_knotwise_k68_whole_braids_by_pictures" 509) (.ref 270)) :: []
noncomputable def hA:List Addr:=[3,57,58,64,65,69,70,74,75,81,82,88,89,90,96,97,103,104,110,111,117,118,124,125,131,132,138,139,143,144,148,149,155,156,162,163,169,170,174,175,181,182,188,189,195,196,202,203,209,210,216,217,223,224,230,231,237,238,244,245,251,252,256,257,263,264,270,271]
noncomputable def hL:List Str:=["LOOP"]
noncomputable abbrev O3(w:World):Prop:=∀ os:OsState,(topFrom treeTable (aP).row.prog w 3710 ⟨MU w.params,KW [],Ge,MT,os⟩).map (fun s=>(openSeen hQ hL (xJ (aP).row.prog.main.body) (Tq aP hQ) true s,hA.map s.heap.get?))=some (openGood hQ hL,(hK w.params).map fun p=>some p.2)
theorem h_f (w:World):O3 (w.withFollow "special-get-raises" false):=fun os=>by kernel_rfl
theorem h_t (w:World):O3 (w.withFollow "special-get-raises" true):=fun os=>by kernel_rfl
theorem U3 (w:World) (os:OsState):(topFrom treeTable (aP).row.prog w 3710 ⟨MU w.params,KW [],Ge,MT,os⟩).map (fun s=>(openSeen hQ hL (xJ (aP).row.prog.main.body) (Tq aP hQ) true s,hA.map s.heap.get?))=some (openGood hQ hL,(hK w.params).map fun p=>some p.2):=(byRow2 "special-get-raises" (P:=fun w=>O3 w) h_f h_t) w os
theorem U2:(aP).wellSaid=true:=by kernel_rfl
theorem U1:Jb aP hQ=true:=by kernel_rfl
end
end Fin
end Internal
open Internal
open PySem PySem.W PyProof.Rows
set_option maxRecDepth 100000 in
set_option maxHeartbeats 0 in
theorem PySem.Challenge.cw_knotwise_k68_whole_braids_by_pictures_holds : PySem.Challenge.rw_knotwise_k68_whole_braids_by_pictures.Holds := by
 w_on
 refine K2.LV (q:=Fin.hQ) (K:=Fin.hK) (as:=Fin.hA) (N:=3710) Fin.U2 (by kernel_rfl) (by kernel_rfl) (fun _=>by kernel_rfl) (fun _=>by kernel_rfl) Fin.U3 (by rfl) (by rfl) (by rfl) (by rfl) Fin.U1 ⟨rfl,rfl,rfl,rfl,rfl,by decide +kernel⟩ ?hw ?hc
 (case hw=>w_witness2)
 k_fill
 refine K2.Ou (l:=aP) (k:=7) (x:="_law_script") rfl rfl ⟨rfl,by decide,by decide⟩ (fun w h Y=>Y) ?F
 case F =>
  intro w mg fa h KX G W5;exact Fin.all_mk KX G W5 K2.Tg K2.fm K2.fm K2.fm K2.fm K2.fm K2.fm K2.fm K2.fm K2.fm K2.fm K2.fm K2.fm K2.fm K2.fm K2.fm K2.fm K2.fm K2.fm K2.fm K2.fm K2.fm K2.fm K2.fm K2.fm K2.fm K2.fm K2.fm K2.fm K2.fm K2.fm K2.fm K2.fm
