import PyProof.Rows.All
import Wide.All
import OpenK.AllK
import Wide.FinOn
import Lean
import PyProof.EqAt
import PyProof.EqKinds
import PyProof.TupleCall
import PySem.Challenge.RW_knotwise_k05_texts_refused
open Array renaming getD_eq_getD_getElem? -> bb, length_toList -> bS, getElem?_eq_getElem -> bU, getElem?_toList -> cz, getElem?_eq_none -> ic, getD -> sY, mem_of_getElem? -> wa, all_toList -> EK, mk -> Oq, toList_filterMap -> P4
open Array.Perm renaming refl -> oS
open Bool renaming false_eq_true -> aw, and_eq_true -> aI, noConfusion -> a6, not_true -> bM, not_false -> bN, false_ne_true -> fL, not_eq_true' -> g6, or_eq_true -> j5, and_eq_true_iff -> kF, and_false -> sO, false_and -> zZ, false_or -> CL, beq_eq_decide_eq -> TG
open Classical renaming byContradiction -> dS
open False renaming elim -> bO
open ForInStep renaming yield -> uK
open Int renaming toNat_natCast -> eF, emod_lt_of_pos -> gP, emod_nonneg -> iX, natCast_nonneg -> sN, toNat -> CP
open List renaming getElem?_cons_zero -> aa, getElem?_cons_succ -> af, length_cons -> ah, length_map -> ai, getElem?_eq_getElem -> aj, length_nil -> aq, set_cons_zero -> ar, set_cons_succ -> ax, map_cons -> aB, length_append -> aE, mem_cons_of_mem -> aM, getD_eq_getElem?_getD -> aO, size_toArray -> aS, nil_append -> aY, cons_append -> aZ, map_nil -> a7, length_singleton -> bf, getElem?_append_right -> bA, replicate -> bE, mem_cons_self -> bH, getElem?_map -> bP, append_nil -> bV, getElem_mem -> cb, getElem?_append_left -> cm, drop_eq_getElem_cons -> cq, range -> cA, mem_of_getElem? -> cH, append_assoc -> cW, map_append -> c6, length_take -> dH, length_set -> dJ, mem_append_right -> dP, length_drop -> ez, flatten_cons -> eB, map_map -> eD, getElem?_set_ne -> eE, getElem?_set_self -> eG, getElem_of_mem -> fu, length_range -> fA, lookup_cons -> fR, all_eq_true -> fS, lookup -> gk, length_replicate -> gE, not_mem_nil -> gN, length -> gO, nodup_nil -> gZ, getElem_map -> iu, mem_singleton -> iB, getElem?_eq_none -> iC, foldl_cons -> iP, find?_cons -> iQ, flatten_append -> jh, singleton_append -> jZ, pairwise_map -> kn, nodup_append -> ko, getElem?_of_mem -> kE, filterMap_cons -> lF, filterMap_cons_some -> lJ, getElem_range -> mK, getElem?_replicate -> mL, append_cancel_left -> mM, drop_eq_nil_of_le -> nj, take_length -> o9, drop_length -> pb, mem_append_left -> pU, any_cons -> p8, nodup_iff_pairwise_ne -> sd, getElem?_take_of_lt -> uh, sum_cons -> u3, mem_cons -> u5, take_of_length_le -> vO, find?_cons_of_pos -> vP, find?_cons_of_neg -> vQ, take_append_drop -> x9, take_succ -> zX, foldl_nil -> zY, zip_cons_cons -> CD, take_nil -> CF, map_singleton -> CG, drop_nil -> CH, contains_cons -> CI, foldl_append -> Dy, set_nil -> EI, all_map -> EJ, of_mem_zip -> JV, perm_ext_iff_of_nodup -> Kv, pairwise_iff_getElem -> MG, length_filterMap_le -> Oo, pairwise_singleton -> P0, pairwise_mergeSort -> P1, all_cons -> P2, flatten_singleton -> Qv, getElem?_toArray -> Tz, filterMap_append -> TB, reverse_reverse -> Uj
open List.Pairwise renaming imp_of_mem -> CJ
open List.Perm renaming eq_of_pairwise -> GZ
open Nat renaming le_refl -> aK, ne_of_lt -> bI, lt_of_lt_of_le -> bJ, zero_le -> cu, le_trans -> cE, not_lt_zero -> dh, lt_irrefl -> eQ, lt_of_le_of_lt -> iD, le_succ -> lI, succ_pos -> lY, lt_succ_of_lt -> n6, sub_self -> oW, lt_succ_self -> pT, mod_lt -> qQ, add_sub_cancel_left -> vj, zero_lt_succ -> vM, succ_le_succ -> vN, lt_of_succ_lt_succ -> v5, le_of_succ_le_succ -> v7, zero_add -> yj, le_of_lt -> GY, succ_add -> Ug, lt_trans -> Uh, le_of_ble_eq_true -> Ui
open Ne renaming symm -> jz
open Option renaming isSome_map -> mY, bind_some -> oR, map_some -> GX, map_eq_none_iff -> Om
open Option.some renaming inj -> bC
open PyProof.Rows renaming callWith_builtin1 -> eX, callWith_type1 -> jg, IntsAre -> mR, boot_isinstance -> mX, toString_length_le -> x6, slot_tuple_getitem -> x8, tail_any -> yh, seqObj -> zd, envOfC -> ze, ofString_length -> zV, AllBare -> Bb, Subscript_ -> CC, oneType' -> PY
open PyProof.Rows.F renaming plain_set_update_loop -> v8, entry_set_update_loop -> Ul
open PySem renaming wpAny_bind -> ae, Shared -> ao, wpAny_pure -> au, FuncData -> aH, mainGlobals -> aP, sizeLine -> bg, Program -> bx, starEach -> bB, sizeLine_eq -> bK, wpAny_loadPart' -> cF, Around -> cX, wpAny_holding -> du, compareOp -> dU, bootBuiltins -> dW, wpAny_newObj_type -> eP, wpAny_Call_Name_kw -> eW, wpAny_mono -> eY, wpAny_call_entry -> fD, sysModules -> gF, codeAny_builtin -> gR, wpAny_callSpecial?_slot -> ig, ReadsAll -> iA, SetTable -> iL, backTo -> i6, mem_of_lookup -> jb, codeAny_call_builtin -> jf, wpAny_truthy_bool -> jj, wpAny_loadPart_at -> jl, foldedSetIterable -> jm, excClassObj -> jK, wpAny_typeNameOfWhole_keyiter -> jR, wpAny_execs_cons -> jS, binaryOp -> km, wpAny_passesOwn -> kH, wpAny_execs_nil -> kI, codeAny_mono -> kK, DictEntry -> kL, plainId_quiet -> lz, wpAny_setField -> mq, wpAny_typeNameOf_keyiter -> mW, wpAny_getItem_str_slice -> nZ, wpAny_attempt -> n4, wpAny_setState_of -> pO, wpAny_field -> pP, wpAny_call -> pQ, spliced -> pR, codeAny -> pS, swapsWith -> qe, valueAt -> qS, rawInt -> r8, wpAny_isSubtype_exc -> sQ, sliceBounds -> sR, richCompare -> sS, noteFrame -> sT, argBest -> sV, tupleKind_room_in1 -> uX, pyNext -> uY, NameKind -> uZ, wpAny_pyIter_slot -> vU, wpAny_pyIter_list -> vV, wpAny_dictEntries -> vW, seqIndex? -> vX, wpAny_standAt -> yg, ExcAttrBase -> ym, richCompare_meets_room -> zR, wpAny_updateSeq -> A3, post_val_or_str -> A4, letOwnedTupleGo -> A5, importedModules -> A7, ExcBaseFacts -> Ba, call_meets -> CA, assignEach -> CB, GenState -> CK, wpAny_tryCatch -> Ds, wpAny_fieldsOf -> Dt, pyIter -> Du, firstArgMember -> Dv, wpAny_setEntries_of -> EC, wpAny_letGo -> ED, wpAny_pyIter_tuple -> Hf, tupleKind -> Hg, setFlight -> Hh, setField -> Hi, behindInMarks -> Hk, wpAny_truthy_dict -> Kf, wpAny_Assign_Name -> Kg, typeIs_str -> Kh, relabel -> Ki, plainObj_wpAny_Assign_Attribute -> Kj, isInstance -> Kk, intKind_is -> Kl, holding -> Km, callerA -> Kn, wpAny_callSpecialIfBound?_slot -> MB, call -> MC, wpAny_isInstance -> Oe, wpAny_askSetting -> Of, checkBuiltinCall -> Og, handleBy -> PZ, wpAny_of_eq -> Ql, wpAny_dictEpoch -> Qm, getItem -> Qo, codeAny_of_tree -> Qp, assign -> Qs, Within -> Qt, wpAny_seqItems -> Ua, wpAny_loadPart -> Ub, isSubtype_type -> Uc
open PySem.Around renaming under_plainId -> fG, under -> P5
open PySem.AutoSeq1 renaming sub_tuple_tuple -> se, sub_list_list -> KA
open PySem.Builtin.Builtins renaming bindParams -> ya
open PySem.Builtin.Dict renaming showsAll -> Ha
open PySem.Builtin.Dict_items renaming ownsTuple -> vm
open PySem.Builtin.List renaming listTooLong -> kf, listLengthHint -> AF
open PySem.Builtin.Slice renaming slicePlaces -> jN, sliceAdjust -> oX, sliceApplied -> AE
open PySem.Builtin.Str renaming strSliceIndices -> jT, tooLong -> Kz
open PySem.Builtin.Tuple renaming tupleExact -> j4, tupleCompareSizes -> v9
open PySem.Calls renaming spliced_cons -> dg, spliced_nil -> kc, Name_function_global -> JX, call_function_entry -> Ky
open PySem.Challenge renaming rw_knotwise_k05_texts_refused -> bq
open PySem.Code renaming quiet_builtin -> sA, isFrame -> TF
open PySem.EntryCells renaming newEntry -> MI
open PySem.F renaming attrBase_ValueError -> bG, plainAttrs_list -> dO, plainAttrs_str -> eA, type_list_append -> iE, slot_list_append -> iF, plain_min_loop -> jM, slot_dict_keyiterator_next -> j3, type_str_split -> mI, slot_str_split -> mJ, slot_tuple_lt -> ni, excBase_ValueError -> qf, args_tuple_lt_2 -> sX, type_str_index -> uH, slot_str_index -> uI, entry_tuple_lt -> uJ, slot_list_lt -> vZ, type_list_insert -> JS, slot_list_insert -> JT, args_tuple_add_2 -> JU, args_dict_keyiterator_next_1 -> JW, slot_list_index -> Kt, entry_tuple_add -> Ku, entry_min_loop -> Kw, entry_dict_keyiterator_next -> Kx, slot_tuple_add -> ME, args_list_lt_2 -> MF, slot_dict_keyiterator_iter -> MH, type_str_join -> Oh, slot_str_join -> Oi, slot_set_iter -> Oj, entry_list_lt -> Ol
open PySem.Heap renaming get?_push_of_some -> aA, lt_size -> aN, get?_push_size -> a5, get?_update_other -> cN, get?_update_self -> dQ, size_push -> jB, SameBut -> lK, size_update -> vk, FlyingW -> x5, HeldW -> AD, get?_push_ne -> Dz, get?_none_of_le -> Uk
open PySem.Heap.SameBut renaming update -> gQ
open PySem.NameKind renaming free -> lE
open PySem.Obj renaming data_mapFields -> fh, mapSeq -> jJ, mapFields -> mQ, isFreed_of_fields -> oV, cls_mapFields -> EH
open PySem.Paired renaming length -> lX
open PySem.PassesOwn renaming never -> df, leaving -> zW
open PySem.PyData renaming depthAll -> cI, eqv -> v3
open PySem.SeqAt renaming items_eqAt -> oU, any_by_data -> sW, readOf -> Dx
open PySem.SetTable renaming below -> GW, fill -> JQ
open PySem.Str renaming ofString -> a8, join -> gB, length -> uG, length -> A9, empty -> Kr
open PySem.StrLaws renaming sliceText -> dG
open PySem.Txt renaming split -> ck, contains -> cD, slice -> cV, item -> eR, find -> fV, charAt -> sM, slice_le -> GV
open PySem.Value renaming none -> c8, ref -> dF, str -> gz, int -> n5, builtin -> uF, bool -> xY, type -> CM, isInt -> Hl
open PySem.W renaming Frag -> ag, nsIn -> bh, kitOne -> bp, findIn -> cj, mg_none_of -> cJ, mg_of -> dB, hideAll_get -> dN, kia_one -> e8, hideAll -> e9, kas_rev -> iq, mroIn -> iW, fnOf -> jL, keepIn -> kD, kas_place -> kJ, excIn -> lH, kas_desc -> mH, hasDictIn -> mP, hideAll_none -> oQ, of_hideAll -> qO, callWith_K -> qP, specialIn -> sy, kas_asc -> sU, looks_findIn -> vY, InstAt -> xZ, looks_clsIn -> yi, tail_of_in -> zS, isNs_of_in -> zT, clsIn -> zU, kas_descPart -> A6, methodObj -> A8, handedIn -> CN, any_some -> CO, findIn -> Dw, takesIn -> EF, OpenLaw -> EG, tailIn -> Hm, notCls -> Hn, codeIn -> Ho, boot_drawn -> Ko, Looks -> Ks, cellsFrom_some -> MD, kas_tail3 -> Qn, boot_toks -> Qq, boot_heap -> Qr, looks_mroIn -> Qu, set_plain -> Ud, kitx_none -> Ue
open PySem.W.KasT renaming ret -> yk
open PySem.W.Looks renaming here -> JR
open Sum renaming inr -> EE, inl -> Kq
open True renaming intro -> bu
set_option Elab.async false
set_option linter.all false
set_option maxRecDepth 100000
set_option maxHeartbeats 4000000
set_option genSizeOf false
set_option genInjectivity false
set_option compiler.extract_closed false
namespace Internal
theorem Ab(h:0=0:=by exact K2.YM):0=0:=h
theorem Ac(h:0=0:=by kernel_rfl):0=0:=h
theorem Ad(h:0=0:=by decide):0=0:=h
theorem Ae(h:0=0:=by first | rfl | decide):0=0:=h
theorem Af(h:0=0:=by first | k_is | rfl):0=0:=h
theorem Ai(h:0=0:=by intro _; rfl):0=0:=h
theorem Ak(h:0=0:=by decide +kernel):0=0:=h
theorem Al(h:0=0:=by intro _ _ _ _ h; repeat (first | (cases h.1; rfl) | (cases h <;> rename_i h))):0=0:=h
theorem Ao(h:0=0:=by first | exact .inl rfl | exact .inr rfl | exact .inr (.inl rfl) | exact .inr (.inr rfl) | assumption):0=0:=h
theorem Aq(h:0=0:=by k_is):0=0:=h
theorem Ar(h:0=0:=by rfl):0=0:=h
theorem As(h:0=0:=by exact K2.UL):0=0:=h
theorem Aua(h:0=0:=by intro _ _ _ _; with_unfolding_all rfl):0=0:=h
theorem Aub(h:0=0:=by intro _ _ _; with_unfolding_all rfl):0=0:=h
theorem Aw(h:0=0:=by with_unfolding_all rfl):0=0:=h
theorem Az(h:0=0:=by first | k_is | kit_is):0=0:=h
namespace L2
open PySem PySem.Spec PyProof.Rows
abbrev Key:=Sum Int Str
def DZ:Key->Value->Bool
 | .inl k,v=>Hl k v
 | .inr x,v=>Value.isStrOf x v
def adO(w:World):Key->Int
 | .inl k=>hashInt k
 | .inr x=>hashStr w x
theorem gf:∀ {k:Key} {v:Value},DZ k v=true->(∃ i t,k=Kq i/\v=n5 i t)\/(∃ x t,k=EE x/\v=gz x t)
 | .inl i,v,h=>by
  obtain⟨t,e⟩:=Value.isInt_shape (k:=i) (v:=v) h;exact .inl ⟨i,t,rfl,e⟩
 | .inr x,v,h=>by
  obtain⟨t,e⟩:=Value.isStrOf_shape (x:=x) (v:=v) h;exact .inr ⟨x,t,rfl,e⟩
theorem Pc(i:Int)(t:Tok):DZ (.inl i) (.int i t)=true:=by simp [DZ,Hl]
theorem Pa(x:Str)(t:Tok):DZ (.inr x) (.str x t)=true:=by simp [DZ,Value.isStrOf]
theorem RO(a b:Int):decide ((Kq a:Key)=Kq b)=(a == b):=by
 by_cases e:a=b
 ·subst e; simp
 ·have h:¬ (Kq a:Key)=Kq b:=fun q=>e (Sum.inl.inj q);rw [decide_eq_false h];exact(beq_eq_false_iff_ne.mpr e).symm
theorem RN(a b:Str):decide ((EE a:Key)=EE b)=decide (a=b):=by
 by_cases e:a=b
 ·subst e; simp
 ·have h:¬ (EE a:Key)=EE b:=fun q=>e (Sum.inr.inj q);rw [decide_eq_false h,decide_eq_false e]
theorem X3(a:Int)(b:Str):decide ((Kq a:Key)=EE b)=false:=decide_eq_false (fun q=>nomatch q)
theorem X2(a:Str)(b:Int):decide ((EE a:Key)=Kq b)=false:=decide_eq_false (fun q=>nomatch q)
def gm(prog:bx)(w:World):PySem.KeyKind prog w Key where
 is:=DZ
 hash:=adO w
 inj:=fun v a b ha hb=>by
  rcases gf ha with ⟨i,t,rfl,rfl⟩ | ⟨x,t,rfl,rfl⟩
  ·rcases gf hb with ⟨j,u,rfl,e⟩ | ⟨y,u,rfl,e⟩
   ·injection e with e1 _; rw [e1]
   ·exact nomatch e
  ·rcases gf hb with ⟨j,u,rfl,e⟩ | ⟨y,u,rfl,e⟩
   ·exact nomatch e
   ·injection e with e1 _; rw [e1]
 byValue:=fun k v h=>by
  rcases gf h with ⟨i,t,rfl,rfl⟩ | ⟨x,t,rfl,rfl⟩ <;> rfl
 pyHash:=fun hv h=>by
  rcases gf hv with ⟨i,t,rfl,rfl⟩ | ⟨x,t,rfl,rfl⟩
  ·exact wpAny_pyHash_int h
  ·exact wpAny_pyHash_str h
 eqBool:=fun hu hv h=>by
  rcases gf hu with ⟨i,t,rfl,rfl⟩ | ⟨x,t,rfl,rfl⟩
  ·rcases gf hv with ⟨j,u,rfl,rfl⟩ | ⟨y,u,rfl,rfl⟩
   ·rw [RO] at h; exact wpAny_eqBool_int h
   ·rw [X3] at h; exact SeqAt.EqAt.int_str i t y u _ _ _ _ h
  ·rcases gf hv with ⟨j,u,rfl,rfl⟩ | ⟨y,u,rfl,rfl⟩
   ·rw [X2] at h; exact SeqAt.EqAt.str_int x t j u _ _ _ _ h
   ·rw [RN] at h; exact wpAny_eqBool_str h
 «strs»:=fun k x t v h=>by
  rcases gf h with ⟨i,u,rfl,e⟩ | ⟨y,u,rfl,e⟩
  ·exact nomatch e
  ·injection e with e1 _
   subst e1;cases v <;> rfl
theorem H0(prog:bx)(w:World)(i:Int)(t:Tok):(gm prog w).is (.inl i) (.int i t)=true:=Pc i t
theorem HZ(prog:bx)(w:World)(x:Str)(t:Tok):(gm prog w).is (.inr x) (.str x t)=true:=Pa x t
inductive V where
 | cR | bl (b:Bool) | int (i:Int) | str (x:Str) | WQ (b:Array UInt8) | Ja (b:UInt64) | ref (a:Addr) | ty (n:String)
def RelV:V->Value->Prop
 | .cR,u=>u=c8
 | .bl b,u=>u=xY b
 | .int i,u=>∃ t,u=n5 i t
 | .str x,u=>∃ t,u=gz x t
 | .WQ b,u=>∃ t,u=Value.bytes b t
 | .Ja b,u=>∃ t,u=Value.float b t
 | .ref a,u=>u=dF a
 | .ty n,u=>u=CM n
abbrev Vals:List V->List Value->Prop:=Paired RelV
theorem Vals.length{xs:List V}{us:List Value}(r:Vals xs us):xs.length=us.length:=lX r
theorem Vals.get:∀ {xs:List V} {us:List Value} {i:Nat} {x:V},Vals xs us->xs[i]?=some x->∃ u,us[i]?=some u/\RelV x u:=by
 intro xs us i x h;induction h generalizing i with
 | nil=>intro e; cases e
 | cons r t ih =>
  intro e;cases i with
  | zero=>cases e; exact⟨_,rfl,r⟩
  | succ i=>exact ih e
theorem Vals.set{x:V}{u:Value}(r:RelV x u):∀ {xs:List V} {us:List Value} (i:Nat),Vals xs us->Vals (xs.set i x) (us.set i u):=by
 intro xs us i h;induction h generalizing i with
 | nil=>rw [EI,EI]; exact .nil
 | cons q t ih =>
  cases i with
  | zero=>exact .cons r t
  | succ i=>exact .cons q (ih i)
theorem Vals.append:∀ {xs ys:List V} {us ws:List Value},Vals xs us->Vals ys ws->Vals (xs++ys) (us++ws):=by
 intro xs ys us ws h s;induction h with
 | nil=>exact s
 | cons r t ih=>exact .cons r ih
theorem Vals.take:∀ {xs:List V} {us:List Value} (n:Nat),Vals xs us->Vals (xs.take n) (us.take n):=by
 intro xs us n h;induction h generalizing n with
 | nil=>rw [CF,CF]; exact .nil
 | cons r t ih =>
  cases n with
  | zero=>exact .nil
  | succ n=>exact .cons r (ih n)
theorem Vals.drop:∀ {xs:List V} {us:List Value} (n:Nat),Vals xs us->Vals (xs.drop n) (us.drop n):=by
 intro xs us n h;induction h generalizing n with
 | nil=>rw [CH,CH]; exact .nil
 | cons r t ih =>
  cases n with
  | zero=>exact .cons r t
  | succ n=>exact ih n
def xR:Option V->Option Value->Prop
 | some v,some u=>RelV v u
 | none,none=>True
 | _,_=>False
def KV{κ:Type}:List (κ×V)->List (κ×Value)->Prop:=Paired fun (p:κ×V) (q:κ×Value)=>p.1=q.1/\RelV p.2 q.2
def kV:Key->V
 | .inl i=>.int i
 | .inr x=>.str x
inductive HO where
 | lst (xs:List V)
 | tup (xs:List V)
 | dK (bo:List (Key×V)) | dT (bo:List (List Key×V))
 | set (S:Int->Bool) (n:Nat)
 | ins (C dx:Addr) (fs:List (Str×V))
 | own (x:Addr)
 | xd (fs:List (Str×V))
 | met (f x:Addr)
 | ZT (lo hi:Int)
 | jw (o:Obj) (u:HO)
 | Uz (q:Str)
 | ext (φ:Heap->Prop)
abbrev Hp:=Addr->Option HO
def upd(H:Hp)(a:Addr)(o:HO):Hp:=fun b=>if b=a then some o else H b
theorem cP{H:Hp}{a:Addr}{o:HO}:upd H a o a=some o:=by unfold upd; rw [if_pos rfl]
theorem br{H:Hp}{a b:Addr}{o:HO}(h:b≠a):upd H a o b=H b:=by unfold upd; rw [if_neg h]
theorem aam{H:Hp}{a b:Addr}{o u:HO}(h:H a=some o)(h':H b=some u)(d:o≠u):a≠b:=by
 intro e; subst e; rw [h] at h'; exact d (bC h')
theorem ff{H:Hp}{a b:Addr}{o:HO}(h:H a=some o)(h':H b=none):a≠b:=by
 intro e; subst e; rw [h] at h'; cases h'
section
variable (P:bx) (w:World)
def gu(H:Hp)(h:Heap)(a:Addr):HO->Prop
 | .lst xs=>xs.length<=bg/\∃ (bw:List Value) (n:Nat),Vals xs bw/\h.get? a=some { cls:=.type "list",data:=.seq bw.toArray n }
 | .tup xs=>xs.length<=bg/\∃ bw:List Value,Vals xs bw/\IsTup h a bw.toArray
 | .dK bo=>bo.length<=bg/\(a == gF)=false/\∃ vs,KV bo vs/\h.DictOf (gm P w) a vs
 | .dT bo=>bo.length<=bg/\(a == gF)=false/\∃ xs:List (List Key×Addr×Value),
   Paired (fun (p:List Key×V) (q:List Key×Addr×Value)=>p.1=q.1/\H q.2.1=some (.tup (p.1.map kV))/\RelV p.2 q.2.2) bo xs /\
   ∃ o es ep,h.get? a=some o/\o.ExactDict/\o.data=.dict es ep/\es.toList=xs.map (entryOfKey (Hg (gm P w)))/\(xs.map (·.1)).Nodup
 | .set S n=>h.SetOf (intKind P w) a S n
 | .ins C dx fs=>H dx=some (.own a)/\fs.length<=1000/\dx≠a/\h.get? a=some (PySem.W.instObj C dx) /\
   ∃ mA,h.Ns1 dx mA/\(∀ f,xR (fs.lookup f) (mA f))/\Qt mA (fs.map (·.1))
 | .own _=>∃ o,h.get? a=some o
 | .xd fs=>∃ mA,h.Ns1 a mA/\∀ f,xR (fs.lookup f) (mA f)
 | .ZT lo hi=>∃ t u v,h.get? a=some { cls:=.type "range",data:=.fields #[.int lo t,.int hi u,.int 1 v] }
 | .jw o u=>h.get? a=some o/\gu H h a u
 | .Uz q=>∃ ps,h.get? a=some { cls:=.none,data:=.fields ps }/\TriplesOk ps.toList/\∀ pos cv,codeAmong pos ps.toList=some cv->∃ c',cv=.ref c'/\H c'=some (.own a)/\h.CodeRec (.ref c') q
 | .met f x=>h.get? a=some (A8 (.ref f) (.ref x))
 | .ext φ=>φ h/\(∃ o,h.get? a=some o)/\∀ h1 h2:Heap,φ h1->(∀ o,h1.get? a=some o->h2.get? a=some o)->φ h2
def sL(H:Hp)(h:Heap):Prop:=∀ a o,H a=some o->gu P w H h a o
end
section
variable {P:bx} {w:World} {H H':Hp} {h h':Heap} {a:Addr} {o:HO}
theorem gu.lt(x:gu P w H h a o):a < h.objs.size:=by
 cases o with
 | lst xs=>obtain⟨_,_,_,_,e⟩:=x; exact aN e
 | tup xs=>obtain⟨_,_,_,p⟩:=x; exact p.lt
 | dK bo=>obtain⟨_,_,_,_,o,_,_,e,_⟩:=x; exact aN e
 | dT bo=>obtain⟨_,_,_,_,o,_,_,e,_⟩:=x; exact aN e
 | set S n=>obtain⟨o,_,_,_,e,_⟩:=x; exact aN e
 | ins C dx fs=>obtain⟨_,_,_,e,_⟩:=x; exact aN e
 | own y=>obtain⟨_,e⟩:=x; exact aN e
 | xd fs=>obtain⟨_,⟨_,_,_,e,_⟩,_⟩:=x; exact aN e
 | ZT lo hi=>obtain⟨_,_,_,e⟩:=x; exact aN e
 | jw ob u=>obtain⟨e,_⟩:=x; exact aN e
 | Uz q=>obtain⟨_,e,_⟩:=x; exact aN e
 | met f y=>exact aN (show h.get? a=some _ from x)
 | ext φ=>obtain⟨_,⟨_,e⟩,_⟩:=x; exact aN e
theorem Paired.XT{α β:Type}{F G:α->β->Prop}:∀ {XW:List α} {XU:List β},Paired F XW XU->(∀ a b,F a b->G a b)->Paired G XW XU:=by
 intro XW XU h f;induction h with
 | nil=>exact .nil
 | cons r t ih=>exact .cons (f _ _ r) ih
theorem gu.jo(x:gu P w H h a o)(k:∀ b u,(b=a\/H b=some (.own a))->h.get? b=some u->h'.get? b=some u)
  (ho:∀ b,H b=some (.own a)->H' b=some (.own a)) (ht:∀ b xs,H b=some (.tup xs)->H' b=some (.tup xs)):gu P w H' h' a o:=by
 induction o with
 | lst xs=>obtain⟨z,bw,n,r,e⟩:=x; exact⟨z,bw,n,r,k _ _ (.inl rfl) e⟩
 | tup xs=>obtain⟨z,bw,r,ob,e,c⟩:=x; exact⟨z,bw,r,ob,k _ _ (.inl rfl) e,c⟩
 | dK bo=>obtain⟨z,y,vs,r,ob,es,ep,e,c⟩:=x; exact⟨z,y,vs,r,ob,es,ep,k _ _ (.inl rfl) e,c⟩
 | dT bo =>
  obtain⟨z,y,xs,r,ob,es,ep,e,c⟩:=x;exact⟨z,y,xs,Paired.XT r fun p q z=>⟨z.1,ht _ _ z.2.1,z.2.2⟩,ob,es,ep,k _ _ (.inl rfl) e,c⟩
 | set S n=>obtain⟨ob,es,ep,t,e,c⟩:=x; exact⟨ob,es,ep,t,k _ _ (.inl rfl) e,c⟩
 | ins C dx fs =>
  obtain⟨d,z,ne,e,mA,⟨od,es,ep,e2,c⟩,r⟩:=x;exact⟨ho _ d,z,ne,k _ _ (.inl rfl) e,mA,⟨od,es,ep,k _ _ (.inr d) e2,c⟩,r⟩
 | own y=>obtain⟨ob,e⟩:=x; exact⟨ob,k _ _ (.inl rfl) e⟩
 | xd fs=>obtain⟨mA,⟨od,es,ep,e,c⟩,r⟩:=x; exact⟨mA,⟨od,es,ep,k _ _ (.inl rfl) e,c⟩,r⟩
 | ZT lo hi=>obtain⟨t,u,v,e⟩:=x; exact⟨t,u,v,k _ _ (.inl rfl) e⟩
 | jw ob u ih=>obtain⟨e,q⟩:=x; exact⟨k _ _ (.inl rfl) e,ih q⟩
 | Uz q =>
  obtain⟨ps,e,t,z⟩:=x;refine⟨ps,k _ _ (.inl rfl) e,t,fun pos cv y=>?_⟩;obtain⟨c',e1,e2,c2,oc,vs,tq,e3,e4,r⟩:=z pos cv y;cases e3;exact⟨c',e1,ho _ e2,c',oc,vs,tq,rfl,k _ _ (.inr e2) e4,r⟩
 | met f y =>
  have e:h.get? a=some (A8 (.ref f) (.ref y)):=x;show h'.get? a=some (A8 (.ref f) (.ref y));exact k a _ (.inl rfl) e
 | ext φ=>obtain⟨p,⟨o,e⟩,st⟩:=x; exact⟨st _ _ p fun o q=>k _ _ (.inl rfl) q,⟨o,k _ _ (.inl rfl) e⟩,st⟩
theorem sL.lt(x:sL P w H h)(e:H a=some o):a < h.objs.size:=(x a o e).lt
theorem sL.fresh(x:sL P w H h)(e:h.objs.size<=a):H a=none:=by
 cases q:H a with
 | none=>rfl
 | some u=>exact absurd (bJ (x.lt q) e) (eQ _)
theorem sL.kept(x:sL P w H h)(k:∀ b u,h.get? b=some u->h'.get? b=some u):sL P w H h':=fun a o e =>
 (x a o e).jo (fun b u _ q=>k b u q) (fun _ q=>q) fun _ _ q=>q
theorem sL.laid(x:sL P w H h)(k:∀ b u,h.get? b=some u->h'.get? b=some u)(hp:h.objs.size<=a)(new:gu P w (upd H a o) h' a o):sL P w (upd H a o) h':=fun b u e=>by
 have hn:=x.fresh hp;by_cases hb:b=a
 ·subst hb; rw [cP] at e; cases e; exact new
 ·rw [br hb] at e;exact(x b u e).jo (fun c v _ q=>k c v q) (fun c q=>by rw [br (ff q hn)]; exact q) fun c xs q=>by rw [br (ff q hn)]; exact q
end
def Rd(H:Hp)(a:Addr)(u:HO):Prop:=H a=some u\/∃ o,H a=some (.jw o u)
theorem Rd.ok{P:bx}{w:World}{H:Hp}{h:Heap}{a:Addr}{u:HO}(r:Rd H a u)(x:sL P w H h):gu P w H h a u:=by
 rcases r with r | ⟨o,r⟩
 ·exact x a u r
 ·obtain⟨_,q⟩:=x a _ r;exact q
def Mut:Option HO->Prop
 | some (.lst _)=>True
 | some (.dK _)=>True
 | some (.dT _)=>True
 | some (.set _ _)=>True
 | some (.ins _ _ _)=>True
 | some (.ext _)=>True
 | _=>False
section
variable {P:bx} {w:World} {H:Hp} {h h':Heap} {x e:Addr} {o':HO}
theorem sL.write(ok:sL P w H h)(mu:Mut (H x))(he:e=x\/H e=some (.own x))(k:∀ b u,b≠e->h.get? b=some u->h'.get? b=some u)(TY:∃ u,h'.get? e=some u)
  (new:gu P w (upd H x o') h' x o'):sL P w (upd H x o') h':=fun b u q=>by
 have aah:∀ c y,H c=some (.own y)->c≠x:=fun c y r z=>by subst z; rw [r] at mu; exact mu
 have adz:∀ c xs,H c=some (.tup xs)->c≠x:=fun c xs r z=>by subst z; rw [r] at mu; exact mu
 by_cases hb:b=x
 ·subst hb; rw [cP] at q; cases q; exact new
 ·rw [br hb] at q;by_cases Ys:b=e
  ·have q':H b=some (.own x):=by
    rcases he with z | z
    ·exact absurd (Ys.trans z) hb
    ·rw [Ys]; exact z
   rw [q] at q'; cases q';obtain⟨v,hv⟩:=TY;exact⟨v,by rw [Ys]; exact hv⟩
  ·refine(ok b u q).jo (fun c v hc r=>k c v ?_ r) (fun c r=>by rw [br (aah c b r)]; exact r) fun c xs r=>by rw [br (adz c xs r)]; exact r
   rcases hc with rfl | hc
   ·exact Ys
   ·rintro rfl;rcases he with z | z
    ·exact aah c b hc z
    ·rw [hc] at z; cases z; exact hb rfl
end
structure Un(fs ex:List Addr)(H H':Hp)(h h':Heap):Prop where
 keep:∀ b o,h.get? b=some o->H b=none->b∉fs->b∉ex->h'.get? b=some o
 slot:∀ b o,h.get? b=some o->H b=none->b∈fs->b∉ex->∃ sl,h'.get? b=some { o with slots:=sl }
 free:∀ b o,h.get? b=some o->H b=none->b∉ex->H' b=none
 there:∀ b o,h.get? b=some o->b∉ex->∃ o',h'.get? b=some o'
 pW:∀ b xs,H b=some (.tup xs)->H' b=some (.tup xs)
 o3:∀ b o u,H b=some (.jw o u)->H' b=some (.jw o u)
 sC:∀ b q,H b=some (.Uz q)->H' b=some (.Uz q)
 sG:∀ b x,H b=some (.own x)->H' b=some (.own x)
section
variable {fs fs' ex ex':List Addr} {H H1 H2:Hp} {h h1 h2 h':Heap} {a x e:Addr} {o:HO}
theorem Un.any(u:Un fs ex H H1 h h1){b:Addr}{ob:Obj}(q:h.get? b=some ob)(n:H b=none)(hx:b∉ex):∃ sl,h1.get? b=some { ob with slots:=sl }:=by
 by_cases hb:b∈fs
 ·exact u.slot b ob q n hb hx
 ·exact⟨ob.slots,u.keep b ob q n hb hx⟩
theorem Un.kept(k:∀ b u,h.get? b=some u->h'.get? b=some u):Un fs ex H H h h' :=
 ⟨fun b ob q _ _ _=>k b ob q,fun b ob q _ _ _=>⟨ob.slots,k b ob q⟩,fun _ _ _ n _=>n,fun b ob q _=>⟨ob,k b ob q⟩,fun _ _ q=>q,fun _ _ _ q=>q,fun _ _ q=>q,fun _ _ q=>q⟩
theorem Un.refl:Un fs ex H H h h:=Un.kept fun _ _ q=>q
theorem Un.laid(k:∀ b u,h.get? b=some u->h'.get? b=some u)(hp:h.objs.size<=a)(hn:H a=none):Un fs ex H (upd H a o) h h' where
 keep:=fun b u q _ _ _=>k b u q
 slot:=fun b u q _ _ _=>⟨u.slots,k b u q⟩
 free:=fun b u q n _=>by rw [br (bI (bJ (aN q) hp))]; exact n
 there:=fun b u q _=>⟨u,k b u q⟩
 pW:=fun b xs q=>by rw [br (ff q hn)]; exact q
 o3:=fun b u xs q=>by rw [br (ff q hn)]; exact q
 sC:=fun b ps q=>by rw [br (ff q hn)]; exact q
 sG:=fun b ps q=>by rw [br (ff q hn)]; exact q
theorem Un.write(mu:Mut (H x))(he:e=x\/H e=some (.own x))(k:∀ b u,b≠e->h.get? b=some u->h'.get? b=some u)(TY:∃ u,h'.get? e=some u):Un fs ex H (upd H x o) h h':=by
 have hx:∀ b,H b=none->b≠x:=fun b n z=>by subst z; rw [n] at mu; exact mu
 have hb:∀ b,H b=none->b≠e:=fun b n z=>by
  subst z;rcases he with r | r
  ·exact hx b n r
  ·rw [n] at r; cases r
 have hm:∀ b u,H b=some u->¬ Mut (some u)->b≠x:=fun b u q nm z=>by subst z; rw [q] at mu; exact nm mu
 refine⟨fun b u q n _ _=>k b u (hb b n) q,fun b u q n _ _=>⟨u.slots,k b u (hb b n) q⟩,fun b u q n _=>by rw [br (hx b n)]; exact n,fun b u q _=>?_,
  fun b xs q=>by rw [br (hm b _ q fun z=>z)]; exact q,fun b u xs q=>by rw [br (hm b _ q fun z=>z)]; exact q,fun b ps q=>by rw [br (hm b _ q fun z=>z)]; exact q,fun b ps q=>by rw [br (hm b _ q fun z=>z)]; exact q⟩
 by_cases Ys:b=e
 ·subst Ys; exact TY
 ·exact⟨u,k b u Ys q⟩
end
def trk(h:Heap)(H:Hp):List Addr:=(cA h.objs.size).filter fun a=>(H a).isSome
def FW(h:Heap)(H:Hp):Heap:=e9 h (trk h H)
theorem Ph(h:Heap)(H:Hp):(FW h H).objs.size=h.objs.size:=PySem.W.hideAll_size _ _
theorem Si{h:Heap}{H:Hp}{b:Addr}{o:Obj}(e:h.get? b=some o)(n:H b=none):(FW h H).get? b=some o :=
 dN _ e fun hm=>by
  have q:(H b).isSome=true:=(List.mem_filter.mp hm).2;rw [n] at q; simp at q
theorem Vi{h:Heap}{H:Hp}{b:Addr}{o:Obj}(e:(FW h H).get? b=some o):h.get? b=some o/\H b=none:=by
 have e':h.get? b=some o:=qO (trk h H) e;refine⟨e',?_⟩;cases q:H b with
 | none=>rfl
 | some x =>
  have hm:b∈trk h H:=List.mem_filter.mpr ⟨List.mem_range.mpr (aN e'),by simp [q]⟩;have z:(FW h H).get? b=none:=oQ (trk h H) hm;rw [z] at e; cases e
def rZ(g h:Heap)(L:Addr):List (Addr×Obj):=(cA h.objs.size).filterMap fun a=>if a=L\/(g.get? a).isSome=true then none else (h.get? a).map fun o=>(a,o)
theorem mz{g h:Heap}{L a:Addr}{o:Obj}(h1:a≠L)(h2:g.get? a=none)(h3:h.get? a=some o):(a,o)∈rZ g h L :=
 List.mem_filterMap.mpr ⟨a,List.mem_range.mpr (aN h3),by simp [h1,h2,h3]⟩
theorem BD{g h:Heap}{L:Addr}{p:Addr×Obj}(hp:p∈rZ g h L):p.1≠L/\g.get? p.1=none/\h.get? p.1=some p.2:=by
 obtain⟨b,_,e⟩:=List.mem_filterMap.mp hp;split at e
 ·cases e
 ·rename_i hn;cases q:h.get? b with
  | none=>rw [q] at e; simp at e
  | some u =>
   rw [q] at e;simp only [GX,Option.some.injEq] at e;subst e;refine⟨fun z=>hn (.inl z),?_,q⟩;show g.get? b=none;cases r:g.get? b with
   | none=>rfl
   | some v=>exact(hn (.inr (by simp [r]))).elim
def rest(g h:Heap)(L d:Addr):List (Addr×Obj):=(rZ g h L).filter fun p=>decide (p.1≠d)
theorem wZ{g h:Heap}{L:Addr}:News g L h (rZ g h L):=fun p hp=>let ⟨a,b,c⟩:=BD hp; ⟨c,a,b⟩
structure Mod(K:ag)(mg:Str->Option Value)(base:Heap):Prop where
 Np:K.In base
 glob:base.Ns aP mg
 blt:∃ mb,base.Ns builtinsNs mb/\∀ x:Str,x≠"__name__"->mb x=dW x
 nolimit:base.NoLimit
structure Cx where
 prog:bx
 w:World
 K:ag
 mg:Str->Option Value
 base:Heap
 A:cX
 N:List Str
 jc:ao
 PR:Hp
 env:Env
 outer:List Env
 stack:List Env
 ex:List Addr
 fn:Str->Bool
 calm:Bool
 pn:List (Addr×Obj)
 xe:Value->ao->Prop
def o4(l:List Env):List Addr:=l.filterMap (·.frame)
abbrev Cx.fs(X:Cx):List Addr:=o4 X.outer
def YX(sc:Scope)(x:Str):Prop:=sc.names.lookup x=some .local\/sc.names.lookup x=some .cell\/sc.names.lookup x=some .free
def Loc(sc:Scope)(x:Str):Prop:=sc.names.lookup x=some .local\/sc.names.lookup x=some .cell
def Look(env:Env)(h:Heap)(m:Str->Option Value)(x:Str)(u:Value):Prop :=
 (env.kindOf x=some .local/\m x=some u)\/((env.kindOf x=some .cell\/env.kindOf x=some .free)/\∃ c,env.cells.lookup x=some c/\h.IsCell c (some u))
structure Cx.Ok(X:Cx):Prop where
 mod:Mod X.K X.mg X.base
 kind:X.env.scope.kind=.function
 glob:X.env.globals=aP
 blt:X.env.builtins=builtinsNs
 above:X.jc.heap.objs.size<=X.env.locals
 inj:∀ x y c,X.env.cells.lookup x=some c->X.env.cells.lookup y=some c->x=y
 has:∀ x,(X.env.kindOf x=some .cell\/X.env.kindOf x=some .free)->∃ c,X.env.cells.lookup x=some c
 Zi:∀ x c,X.fn x=true->X.env.cells.lookup x=some c->X.jc.heap.objs.size<=c
 hd:X.calm=true->X.A.handled=none
 frames:X.A.frames=some X.stack
 ZM:X.stack=X.outer\/(X.stack=X.env :: X.outer/\X.env.frame=some X.env.locals)
 exf:∀ b∈X.ex,b≠X.env.locals/\∀ x c,X.env.cells.lookup x=some c->c≠b
 bs:∀ b o,X.base.get? b=some o->X.jc.heap.get? b=some o/\X.PR b=none
 Qf:X.base.objs.size<=X.jc.heap.objs.size
 O1:∀ b o,X.base.get? b=some o->b∉X.ex
 Pu:∀ b∈X.ex,b∉X.fs
 xr:X.jc.heap.FunFrames X.base X.outer
 SH:∀ b∈X.fs,X.PR b=none
structure Inv(X:Cx)(pins:List (Addr×Obj))(σ:List (Option V))(H:Hp)(s:ao):Prop where
 ok:X.Ok
 os:s.os=X.jc.os
 bare:Bb s.gens
 base:Un X.fs X.ex X.PR H X.jc.heap s.heap
 loc:∃ m,s.heap.Ns X.env.locals m/\∀ (i:Nat) (x:Str) (v:V),X.N[i]?=some x->σ[i]?=some (some v)->YX X.env.scope x->∃ u,RelV v u/\Look X.env s.heap m x u
 cell:∀ x c,X.env.cells.lookup x=some c->∃ v,s.heap.IsCell c v
 free:H X.env.locals=none
 i8:∀ x c,X.env.cells.lookup x=some c->H c=none
 pin:∀ p∈X.pn++pins,s.heap.get? p.1=some p.2/\H p.1=none/\p.1≠X.env.locals/\p.1∉X.fs/\∀ v,p.2.data≠.cell v
 cO:sL X.prog X.w H s.heap
 len:σ.length=X.N.length
section
variable {X:Cx} {pins:List (Addr×Obj)} {σ:List (Option V)} {H H':Hp} {s:ao} {h':Heap}
theorem Cx.Ok.adB(ok:X.Ok){b:Addr}{o:Obj}(e:X.base.get? b=some o):b∉X.fs:=fun hb=>by
 have:=(ok.xr.mem hb).1;rw [e] at this; cases this
theorem Inv.bs(I:Inv X pins σ H s):∀ b o,X.base.get? b=some o->s.heap.get? b=some o/\H b=none:=fun b o e =>
 ⟨I.base.keep b o (I.ok.bs b o e).1 (I.ok.bs b o e).2 (I.ok.adB e) (I.ok.O1 b o e),I.base.free b o (I.ok.bs b o e).1 (I.ok.bs b o e).2 (I.ok.O1 b o e)⟩
theorem Inv.bk(I:Inv X pins σ H s):∀ b o,X.base.get? b=some o->s.heap.get? b=some o:=fun b o e=>(I.bs b o e).1
theorem Inv.mod(I:Inv X pins σ H s):Mod X.K X.mg X.base:=I.ok.mod
theorem Inv.qu(I:Inv X pins σ H s):X.K.In s.heap:=I.ok.mod.Np.keeps I.bk
theorem Inv.fr(I:Inv X pins σ H s):∃ m,Fr X.base X.env.locals s.heap m :=
 let ⟨m,hn,_⟩:=I.loc
 ⟨m,hn,I.bk,cE I.ok.Qf I.ok.above⟩
theorem Inv.lt(I:Inv X pins σ H s):X.env.locals < s.heap.objs.size:=let ⟨_,hn,_⟩:=I.loc; hn.lt
theorem Inv.sz(I:Inv X pins σ H s):X.jc.heap.objs.size<=s.heap.objs.size:=cE I.ok.above (GY I.lt)
theorem Inv.adA(I:Inv X pins σ H s){a:Addr}(h:s.heap.objs.size<=a):a∉X.fs:=fun hb=>by
 obtain⟨_,o,ho,_⟩:=I.ok.xr.mem hb;exact absurd (bJ (aN ho) (cE I.sz h)) (eQ _)
theorem Inv.VW(I:Inv X pins σ H s):∀ x c,X.env.cells.lookup x=some c->c≠X.env.locals:=fun x c e z=>by
 obtain⟨v,o,ho,hd⟩:=I.cell x c e;obtain⟨m,⟨o',es,ep,Pf,FX,_⟩,_⟩:=I.loc;rw [z,Pf] at ho; cases ho; rw [FX] at hd; cases hd
theorem Inv.xr(I:Inv X pins σ H s):s.heap.FunFrames X.base X.outer:=by
 have all:∀ (l:List Env),(∀ b∈o4 l,b∈X.fs)->X.jc.heap.FunFrames X.base l->s.heap.FunFrames X.base l:=by
  intro l;induction l with
  | nil=>intro _ _; trivial
  | cons env r ih =>
   intro hs hl;obtain⟨hk,⟨L,o,hf,hn,ho,hd⟩,hr⟩:=hl;have hL:L∈X.fs:=hs L (by unfold o4; rw [lF,hf]; exact bH);obtain⟨sl,e⟩:=I.base.slot L o ho (I.ok.SH L hL) hL fun z=>I.ok.Pu L z hL;exact⟨hk,⟨L,_,hf,hn,e,hd⟩,ih (fun b hb=>hs b (by unfold o4; rw [lF,hf]; exact aM _ hb)) hr⟩
 exact all X.outer (fun _ hb=>hb) I.ok.xr
theorem Inv.stack(I:Inv X pins σ H s):s.heap.FunFrames X.base X.stack:=by
 rcases I.ok.ZM with e | ⟨e,hf⟩
 ·rw [e]; exact I.xr
 ·rw [e];obtain⟨m,hn,_⟩:=I.loc;refine .cons (by rw [I.ok.kind]; decide) hf hn ?_ I.xr;exact Uk (cE I.ok.Qf I.ok.above)
theorem Inv.KP(I:Inv X pins σ H s):∀ b∈o4 X.stack,b∈X.env.locals :: X.fs:=fun b hb=>by
 rcases I.ok.ZM with e | ⟨e,hf⟩
 ·rw [e] at hb; exact aM _ hb
 ·rw [e] at hb;unfold o4 at hb;rw [lF,hf] at hb;exact hb
theorem Inv.AG(I:Inv X pins σ H s):∀ b∈o4 X.stack,H b=none:=fun b hb=>by
 rcases List.mem_cons.mp (I.KP b hb) with e | hb
 ·rw [e]; exact I.free
 ·obtain⟨_,o,ho,_⟩:=I.ok.xr.mem hb;exact I.base.free b o ho (I.ok.SH b hb) fun z=>I.ok.Pu b z hb
theorem Inv.step{g':Array CK}{t':Nat}{d':Drawn}{ch:List Addr}(I:Inv X pins σ H s)
  (T4:∀ b∈ch,(b∈X.ex\/X.jc.heap.objs.size<=b)/\b≠X.env.locals/\(∀ x c,X.env.cells.lookup x=some c->c≠b)/\∀ p∈X.pn++pins,p.1≠b)
  (keep:∀ b o,b≠X.env.locals->b∉X.fs->b∉ch->s.heap.get? b=some o->H b=none->h'.get? b=some o)
  (slot:∀ b o,b≠X.env.locals->b∈X.fs->b∉ch->s.heap.get? b=some o->H b=none->∃ sl,h'.get? b=some { o with slots:=sl }) (free:∀ b o,b∉ch->s.heap.get? b=some o->H b=none->H' b=none)
  (there:∀ b o,b∉ch->s.heap.get? b=some o->∃ o',h'.get? b=some o')
  (pW:∀ b xs,H b=some (.tup xs)->H' b=some (.tup xs)) (o3:∀ b o u,H b=some (.jw o u)->H' b=some (.jw o u)) (sC:∀ b q,H b=some (.Uz q)->H' b=some (.Uz q)) (sG:∀ b x,H b=some (.own x)->H' b=some (.own x))
  (ns:∀ m,s.heap.Ns X.env.locals m->h'.Ns X.env.locals m) (cO:sL X.prog X.w H' h') (hg:Bb g') :
  Inv X pins σ H' { s with heap:=h',gens:=g',drawn:=d',toks:=t' }:=by
 have neL:∀ b o,X.jc.heap.get? b=some o->b≠X.env.locals:=fun b o e=>bI (bJ (aN e) I.ok.above);have neC:∀ b o,X.jc.heap.get? b=some o->b∉X.ex->b∉ch:=fun b o e hx hb=>by
  rcases (T4 b hb).1 with z | z
  ·exact hx z
  ·exact absurd (bJ (aN e) z) (eQ _)
 have cellK:∀ x c,X.env.cells.lookup x=some c->∀ v,s.heap.IsCell c v->h'.IsCell c v:=fun x c e v ⟨o,ho,hd⟩=>by
  have nch:c∉ch:=fun z=>(T4 c z).2.2.1 x c e rfl;by_cases hc:c∈X.fs
  ·obtain⟨sl,q⟩:=slot c o (I.VW x c e) hc nch ho (I.i8 x c e);exact⟨_,q,hd⟩
  ·exact⟨o,keep c o (I.VW x c e) hc nch ho (I.i8 x c e),hd⟩
 refine⟨I.ok,I.os,hg,⟨fun b o e n hb hx=>?_,fun b o e n hb hx=>?_,fun b o e n hx=>?_,fun b o e hx=>?_,fun b xs e=>pW b xs (I.base.pW b xs e),fun b o xs e=>o3 b o xs (I.base.o3 b o xs e),fun b ps e=>?_,fun b x e=>sG b x (I.base.sG b x e)⟩,?_,fun x c e=>?_,?_,fun x c e=>?_,fun p hp=>?_,cO,I.len⟩
 ·exact keep b o (neL b o e) hb (neC b o e hx) (I.base.keep b o e n hb hx) (I.base.free b o e n hx)
 ·obtain⟨sl,e1⟩:=I.base.slot b o e n hb hx;obtain⟨sl',e2⟩:=slot b _ (neL b o e) hb (neC b o e hx) e1 (I.base.free b o e n hx);exact⟨sl',e2⟩
 ·obtain⟨o',e1⟩:=I.base.there b o e hx;exact free b o' (neC b o e hx) e1 (I.base.free b o e n hx)
 ·obtain⟨o',e1⟩:=I.base.there b o e hx;exact there b o' (neC b o e hx) e1
 ·exact sC b _ (I.base.sC b ps e)
 ·obtain⟨m,hn,hl⟩:=I.loc;refine⟨m,ns m hn,fun i x v e1 e2 e3=>?_⟩;obtain⟨u,r,l⟩:=hl i x v e1 e2 e3;refine⟨u,r,?_⟩;rcases l with l | ⟨k,c,e,z⟩
  ·exact .inl l
  ·exact .inr ⟨k,c,e,cellK x c e _ z⟩
 ·obtain⟨v,z⟩:=I.cell x c e;exact⟨v,cellK x c e v z⟩
 ·obtain⟨m,⟨o,_,_,ho,_⟩,_⟩:=I.loc;exact free _ o (fun z=>(T4 _ z).2.1 rfl) ho I.free
 ·obtain⟨v,o,ho,hd⟩:=I.cell x c e;exact free c o (fun z=>(T4 c z).2.2.1 x c e rfl) ho (I.i8 x c e)
 ·obtain⟨e,n,ne,nf,d⟩:=I.pin p hp;have nch:p.1∉ch:=fun z=>(T4 p.1 z).2.2.2 p hp rfl;exact⟨keep p.1 p.2 ne nf nch e n,free p.1 p.2 nch e n,ne,nf,d⟩
theorem Inv.un{t':Nat}(I:Inv X pins σ H s)(u:Un X.fs [] H H' s.heap h')(cO:sL X.prog X.w H' h'):Inv X pins σ H' { s with heap:=h',toks:=t' }:=by
 obtain⟨m,⟨o,es,ep,ho,r⟩,_⟩:=id I.loc;obtain⟨sl,hL⟩:=u.any ho I.free (by simp);exact I.step (g':=s.gens) (d':=s.drawn) (ch:=[]) (fun _ z=>nomatch z) (fun b o _ hb _ e n=>u.keep b o e n hb (by simp)) (fun b o _ hb _ e n=>u.slot b o e n hb (by simp)) (fun b o _ e n=>u.free b o e n (by simp)) (fun b o _ e=>u.there b o e (by simp)) u.pW u.o3 u.sC u.sG (fun m' hm=>by
  obtain⟨o',es',ep',Pf,r'⟩:=hm;rw [ho] at Pf; cases Pf;exact⟨_,es',ep',hL,r'⟩) cO I.bare
theorem Inv.call{g':Array CK}{t':Nat}{d':Drawn}{ch:List Addr}(I:Inv X pins σ H s)(u:Un (o4 X.stack) ch H H' s.heap h')(cO:sL X.prog X.w H' h')(hg:Bb g')
  (T4:∀ b∈ch,(b∈X.ex\/X.jc.heap.objs.size<=b)/\b≠X.env.locals/\(∀ x c,X.env.cells.lookup x=some c->c≠b)/\∀ p∈X.pn++pins,p.1≠b) :
  Inv X pins σ H' { s with heap:=h',gens:=g',drawn:=d',toks:=t' }:=by
 obtain⟨m,⟨o,es,ep,ho,r⟩,_⟩:=id I.loc;obtain⟨sl,hL⟩:=u.any ho I.free fun z=>(T4 _ z).2.1 rfl;exact I.step (ch:=ch) T4 (fun b o hL hb hc e n=>u.keep b o e n (fun z=>(List.mem_cons.mp (I.KP b z)).elim hL hb) hc) (fun b o _ _ hc e n=>u.any e n hc) (fun b o hc e n=>u.free b o e n hc) (fun b o hc e=>u.there b o e hc) u.pW u.o3 u.sC u.sG (fun m' hm=>by
  obtain⟨o',es',ep',Pf,r'⟩:=hm;rw [ho] at Pf; cases Pf;exact⟨_,es',ep',hL,r'⟩) cO hg
theorem Inv.turned{t':Nat}{it:Addr}(I:Inv X pins σ H s)(k:∀ b o,b≠it->s.heap.get? b=some o->h'.get? b=some o)(hn:H it=none)(hL:it≠X.env.locals)
  (h1:it∈X.ex\/X.jc.heap.objs.size<=it) (h2:∀ x c,X.env.cells.lookup x=some c->c≠it) (h3:∀ p∈X.pn++pins,p.1≠it):Inv X pins σ H { s with heap:=h',toks:=t' }:=by
 have nit:∀ b u,H b=some u->b≠it:=fun b u e z=>by rw [z,hn] at e; cases e
 refine I.step (g':=s.gens) (d':=s.drawn) (ch:=[it]) (fun b hb=>?_) (fun b o _ _ hc e _=>k b o (fun z=>hc (by simp [z])) e) (fun b o _ _ hc e _=>⟨o.slots,k b o (fun z=>hc (by simp [z])) e⟩) (fun _ _ _ _ n=>n)
  (fun b o hc e=>⟨o,k b o (fun z=>hc (by simp [z])) e⟩) (fun _ _ e=>e) (fun _ _ _ e=>e) (fun _ _ e=>e) (fun _ _ e=>e) (fun m hm=>?_) (fun b u e=>?_) I.bare
 ·have e:b=it:=by simpa using hb
  subst e;exact⟨h1,hL,h2,h3⟩
 ·obtain⟨o,es,ep,ho,r⟩:=hm;exact⟨o,es,ep,k _ o (jz hL) ho,r⟩
 ·refine(I.cO b u e).jo (fun c v hc q=>k c v ?_ q) (fun _ q=>q) fun _ _ q=>q;rcases hc with z | z
  ·rw [z]; exact nit b u e
  ·exact nit c _ z
theorem Inv.tok(I:Inv X pins σ H s)(t:Nat):Inv X pins σ H { s with toks:=t }:=I.un (h':=s.heap) (t':=t) Un.refl I.cO
theorem Inv.kept{t':Nat}(I:Inv X pins σ H s)(k:∀ b u,s.heap.get? b=some u->h'.get? b=some u):Inv X pins σ H { s with heap:=h',toks:=t' }:=I.un (Un.kept k) (I.cO.kept k)
theorem Inv.laid{a:Addr}{o:HO}{t':Nat}(I:Inv X pins σ H s)(k:∀ b u,s.heap.get? b=some u->h'.get? b=some u)(hp:s.heap.objs.size<=a)(new:gu X.prog X.w (upd H a o) h' a o) :
  Inv X pins σ (upd H a o) { s with heap:=h',toks:=t' }:=I.un (Un.laid k hp (I.cO.fresh hp)) (I.cO.laid k hp new)
theorem Inv.write{x e:Addr}{o:HO}{t':Nat}(I:Inv X pins σ H s)(mu:Mut (H x))(he:e=x\/H e=some (.own x))(k:∀ b u,b≠e->s.heap.get? b=some u->h'.get? b=some u)(TY:∃ u,h'.get? e=some u)
  (new:gu X.prog X.w (upd H x o) h' x o):Inv X pins σ (upd H x o) { s with heap:=h',toks:=t' }:=I.un (Un.write mu he k TY) (I.cO.write mu he k TY new)
theorem Inv.M7{Wo:List (Addr×Obj)}(I:Inv X pins σ H s)(h:∀ p∈Wo,s.heap.get? p.1=some p.2/\H p.1=none/\p.1≠X.env.locals/\p.1∉X.fs/\∀ v,p.2.data≠.cell v):Inv X Wo σ H s :=
 ⟨I.ok,I.os,I.bare,I.base,I.loc,I.cell,I.free,I.i8,fun p hp=>(List.mem_append.mp hp).elim (fun z=>I.pin p (pU _ z)) (h p),I.cO,I.len⟩
theorem BF{N:List Str}(hN:N.Nodup){i j:Nat}{x:Str}(a:N[i]?=some x)(b:N[j]?=some x):i=j:=by
 obtain⟨h1,e1⟩:=List.getElem?_eq_some_iff.mp a;obtain⟨h2,e2⟩:=List.getElem?_eq_some_iff.mp b;exact(List.getElem_inj hN).mp (e1.trans e2.symm)
theorem yp{M:Model}{A:cX}{E:Value->ao->Prop}{i:Nat}{x:Str}{v:V}{u:Value}{Q:Unit->ao->Prop}(I:Inv X pins σ H s)(hN:X.N.Nodup)(hi:X.N[i]?=some x)(hx:Loc X.env.scope x)(r:RelV v u)
  (h:∀ s',Inv X pins (σ.set i (some v)) H s'->(∃ a,lK a s.heap s'.heap/\(a=X.env.locals\/X.env.cells.lookup x=some a))->Q () s') (hf:autoParam (X.fn x=true\/X.env.scope.names.lookup x=some .local) Ao._auto_1):wpAny M A (storeName X.env x u) Q E s:=by
 obtain⟨m,hn,hl⟩:=id I.loc;have C1:(X.env.scope.kind == .class||(X.env.scope.kind == .module&&X.env.locals != X.env.globals))=false:=by rw [I.ok.kind]; rfl
 have aaO:i < σ.length:=by rw [I.len]; exact(List.getElem?_eq_some_iff.mp hi).1
 have VW:=I.VW;have tracked:∀ {a:Addr} {h':Heap},(∃ o,s.heap.get? a=some o/\H a=none)->lK a s.heap h'->sL X.prog X.w H h':=fun {a h'} ha hs b ob e=>by
  obtain⟨_,_,si⟩:=ha;refine(I.cO b ob e).jo (fun c w' hc q=>(hs.2 c ?_).trans q) (fun _ q=>q) fun _ _ q=>q;rintro rfl;rcases hc with rfl | hc
  ·rw [si] at e; cases e
  ·rw [si] at hc; cases hc
 rcases hx with hk | hk
 ·refine wpAny_storeName_local hk hn (fun h' J9 hs=>?_) C1;obtain⟨oL,_,_,hoL,_⟩:=id hn;refine h _ ⟨I.ok,I.os,I.bare,⟨fun b o e n hb hx=>?_,fun b o e n hb hx=>?_,I.base.free,fun b o e hx=>?_,I.base.pW,I.base.o3,I.base.sC,I.base.sG⟩,⟨_,J9,fun j y v' e1 e2 e3=>?_⟩,fun y c e=>?_,I.free,I.i8,fun p hp=>?_,tracked ⟨oL,hoL,I.free⟩ hs,by simpa using I.len⟩ ⟨_,hs,.inl rfl⟩
  ·exact(hs.2 b (bI (bJ (aN e) I.ok.above))).trans (I.base.keep b o e n hb hx)
  ·obtain⟨sl,e1⟩:=I.base.slot b o e n hb hx;exact⟨sl,(hs.2 b (bI (bJ (aN e) I.ok.above))).trans e1⟩
  ·obtain⟨o',e1⟩:=I.base.there b o e hx;exact⟨o',(hs.2 b (bI (bJ (aN e) I.ok.above))).trans e1⟩
  ·by_cases hj:j=i
   ·subst hj;rw [hi] at e1; cases e1;rw [eG aaO] at e2;cases e2;exact⟨u,r,.inl ⟨hk,by simp⟩⟩
   ·rw [eE (jz hj)] at e2;obtain⟨u',r',q⟩:=hl j y v' e1 e2 e3;refine⟨u',r',?_⟩;rcases q with ⟨k,e⟩ | ⟨k,c,e,z⟩
    ·refine .inl ⟨k,?_⟩;have:y≠x:=fun e=>hj (BF hN e1 (e ▸ hi));simp [this,e]
    ·exact .inr ⟨k,c,e,z.sameBut hs (VW y c e)⟩
  ·obtain⟨w',z⟩:=I.cell y c e;exact⟨w',z.sameBut hs (VW y c e)⟩
  ·obtain⟨e,n,ne,nf,d⟩:=I.pin p hp;exact⟨(hs.2 p.1 ne).trans e,n,ne,nf,d⟩
 ·have hfn:X.fn x=true:=by
   rcases hf with z | z
   ·exact z
   ·rw [z] at hk; cases hk
  obtain⟨c,hc⟩:=I.ok.has x (.inl hk);obtain⟨w',z⟩:=I.cell x c hc;refine wpAny_storeName_cell I.ok.kind hk hc z (fun h' IG hs=>?_);obtain⟨oc,TV,aee⟩:=id z;refine h { s with heap:=h' } ⟨I.ok,I.os,I.bare,⟨fun b o e n hb hx=>?_,fun b o e n hb hx=>?_,I.base.free,fun b o e hx=>?_,I.base.pW,I.base.o3,I.base.sC,I.base.sG⟩,⟨m,hn.sameBut hs (jz (VW x c hc)),fun j y v' e1 e2 e3=>?_⟩,fun y c' e=>?_,I.free,I.i8,fun p hp=>?_,tracked ⟨oc,TV,I.i8 x c hc⟩ hs,by simpa using I.len⟩ ⟨c,hs,.inr hc⟩
  ·exact(hs.2 b (bI (bJ (aN e) (I.ok.Zi x c hfn hc)))).trans (I.base.keep b o e n hb hx)
  ·obtain⟨sl,e1⟩:=I.base.slot b o e n hb hx;exact⟨sl,(hs.2 b (bI (bJ (aN e) (I.ok.Zi x c hfn hc)))).trans e1⟩
  ·obtain⟨o',e1⟩:=I.base.there b o e hx;exact⟨o',(hs.2 b (bI (bJ (aN e) (I.ok.Zi x c hfn hc)))).trans e1⟩
  ·by_cases hj:j=i
   ·subst hj;rw [hi] at e1; cases e1;rw [eG aaO] at e2;cases e2;exact⟨u,r,.inr ⟨.inl hk,c,hc,IG⟩⟩
   ·rw [eE (jz hj)] at e2;obtain⟨u',r',q⟩:=hl j y v' e1 e2 e3;refine⟨u',r',?_⟩;rcases q with q | ⟨k,c',e,z'⟩
    ·exact .inl q
    ·refine .inr ⟨k,c',e,z'.sameBut hs ?_⟩;rintro rfl;exact hj (BF hN e1 (I.ok.inj _ _ _ e hc ▸ hi))
  ·by_cases hcc:c'=c
   ·subst hcc; exact⟨_,IG⟩
   ·obtain⟨w2,z2⟩:=I.cell y c' e;exact⟨w2,z2.sameBut hs hcc⟩
  ·obtain⟨e,n,ne,nf,d⟩:=I.pin p hp;refine⟨(hs.2 p.1 ?_).trans e,n,ne,nf,d⟩;intro q;rw [q,TV] at e;have q':oc=p.2:=bC e;exact d w' (by rw [<-q']; exact aee)
theorem wm{M:Model}{A:cX}{E:Value->ao->Prop}{i:Nat}{x:Str}{v:V}{u:Value}{Q:Unit->ao->Prop}(I:Inv X pins σ H s)(hN:X.N.Nodup)(hi:X.N[i]?=some x)(hx:Loc X.env.scope x)(r:RelV v u)
  (h:∀ s',Inv X pins (σ.set i (some v)) H s'->Q () s') (hf:autoParam (X.fn x=true\/X.env.scope.names.lookup x=some .local) Ao._auto_1):wpAny M A (storeName X.env x u) Q E s :=
 yp I hN hi hx r (fun s' I' _=>h s' I') hf
theorem Inv.NY{s':ao}{ch:List Addr}(I:Inv X pins σ H s)(ho:s'.os=s.os)(u:Un (o4 X.stack) ch H H' s.heap s'.heap)(cO:sL X.prog X.w H' s'.heap)(hg:Bb s'.gens)
  (T4:∀ b∈ch,(b∈X.ex\/X.jc.heap.objs.size<=b)/\b≠X.env.locals/\(∀ x c,X.env.cells.lookup x=some c->c≠b)/\∀ p∈X.pn++pins,p.1≠b):Inv X pins σ H' s':=by
 obtain⟨h',g',d',t',o'⟩:=s';have e:o'=s.os:=ho;subst e;exact I.call (g':=g') (t':=t') (d':=d') u cO hg T4
end
abbrev XK:=Value->Option Addr->Hp->Prop
abbrev St:=List (Option V)
abbrev VK:=V->Hp->Prop
abbrev TE:=St->Hp->VK->Prop
abbrev TT:=St->Hp->(Bool->Hp->Prop)->Prop
abbrev TA:=St->Hp->(List V->Hp->Prop)->Prop
structure Ends where
 nx:St->Hp->Prop
 rt:VK
 bk:St->Hp->Prop:=fun _ _=>False
 ct:St->Hp->Prop:=fun _ _=>False
abbrev TS:=Ends->St->Hp->Prop
def EP(X:Cx)(pins:List (Addr×Obj))(σ:St)(Q:VK)(u:Value)(s':ao):Prop:=∃ v H',Inv X pins σ H' s'/\RelV v u/\Q v H'
def TP(X:Cx)(pins:List (Addr×Obj))(σ:St)(Q:Bool->Hp->Prop)(b:Bool)(s':ao):Prop:=∃ H',Inv X pins σ H' s'/\Q b H'
def SP(X:Cx)(pins:List (Addr×Obj))(D:Ends)(f:Flow)(s':ao):Prop :=
 match f with
 | .next=>∃ kG H',Inv X pins kG H' s'/\D.nx kG H'
 | .brk=>∃ kG H',Inv X pins kG H' s'/\D.bk kG H'
 | .cont=>∃ kG H',Inv X pins kG H' s'/\D.ct kG H'
 | .ret u=>∃ v kG H',Inv X pins kG H' s'/\RelV v u/\D.rt v H'
def PE(X:Cx)(e:Expr)(t:TE):Prop :=
 ∀ (pins:List (Addr×Obj)) (s:ao) (σ:St) (H:Hp) (Q:VK),Inv X pins σ H s->t σ H Q->wpAny (model X.prog X.w) X.A (eval e X.env) (EP X pins σ Q) X.xe s
def PS(X:Cx)(st:Stmt)(t:TS):Prop :=
 ∀ (pins:List (Addr×Obj)) (s:ao) (σ:St) (H:Hp) (D:Ends),Inv X pins σ H s->t D σ H->wpAny (model X.prog X.w) X.A (exec st X.env) (SP X pins D) X.xe s
def T8(X:Cx)(st:List Stmt)(t:TS):Prop :=
 ∀ (pins:List (Addr×Obj)) (s:ao) (σ:St) (H:Hp) (D:Ends),Inv X pins σ H s->t D σ H->wpAny (model X.prog X.w) X.A (execs st X.env) (SP X pins D) X.xe s
theorem gK{α:Type}{t:Sem α}{Q Q':α->ao->Prop}{M:Model}{A:cX}{E:Value->ao->Prop}{s:ao}(h:wpAny M A t Q E s)(hQ:∀ a s,Q a s->Q' a s):wpAny M A t Q' E s:=eY h hQ fun _ _ x=>x
section
variable {X:Cx}
def KL(i:Nat):TE:=fun σ H Q=>∃ v,σ[i]?=some (some v)/\Q v H
def tC(v:V):TE:=fun _ H Q=>Q v H
theorem K7 {i:Nat} {x:Str} {pos:Pos} (hN:X.N[i]?=some x) (hv:YX X.env.scope x) (hd:autoParam ((x == ("__debug__" : Str))=false) Ad._auto_1) (vT:autoParam ((x == ("__classdict__" : Str))=false) Ad._auto_1):PE X (.Name x pos) (KL i):=by
 intro pins s σ H Q I h;obtain⟨v,e,h⟩:=h;obtain⟨m,hn,hl⟩:=I.loc;obtain⟨u,r,l⟩:=hl i x v hN e hv;have fin:EP X pins σ Q u s:=⟨v,H,I,r,h⟩;rcases l with ⟨hk,hm⟩ | ⟨hk,c,hc,sk⟩
 ·exact wpAny_Name (wpAny_loadName_local I.ok.kind hk hn hm fin) hd
 ·rcases hk with hk | hk
  ·exact wpAny_Name (wpAny_loadName_cell I.ok.kind hk hc sk fin) hd
  ·exact wpAny_Name (wpAny_loadName_free I.ok.kind hk hc sk fin vT) hd
theorem Xy{i j pos}:PE X (.Constant (.int i) j pos) (tC (.int i)):=fun _ _ _ H _ I h=>wpAny_Constant_int ⟨.int i,H,I.tok _,⟨_,rfl⟩,h⟩
theorem Z4{b j pos}:PE X (.Constant (.bool b) j pos) (tC (.bl b)):=fun _ _ _ H _ I h=>Constant_bool ⟨.bl b,H,I,rfl,h⟩
theorem Xx{j pos}:PE X (.Constant .none j pos) (tC .cR):=fun _ _ _ H _ I h=>Constant_none ⟨.cR,H,I,rfl,h⟩
theorem Xw{x j pos}:PE X (.Constant (.str x) j pos) (tC (.str x)):=fun _ _ _ H _ I h=>Calls.Constant_str ⟨.str x,H,I.tok _,⟨_,rfl⟩,h⟩
def Gl(X:Cx)(x:Str):Prop:=X.env.kindOf x=some .globalImplicit
theorem kX{E:Value->ao->Prop}{pins:List (Addr×Obj)}{s:ao}{σ:St}{H:Hp}{x:Str}{u:Value}{pos:Pos}{Q:Value->ao->Prop}(I:Inv X pins σ H s)(hg:Gl X x)(hm:X.mg x=some u)(h:Q u s)
  (hd:autoParam ((x == ("__debug__" : Str))=false) Ad._auto_1):wpAny (model X.prog X.w) X.A (eval (.Name x pos) X.env) Q E s :=
 JX I.ok.kind hg (Calls.loadGlobal_global (by rw [I.ok.glob]; exact I.mod.glob.keeps I.bk) hm h) hd
theorem oC{E:Value->ao->Prop}{pins:List (Addr×Obj)}{s:ao}{σ:St}{H:Hp}{x:Str}{u:Value}{pos:Pos}{Q:Value->ao->Prop}(I:Inv X pins σ H s)(hg:Gl X x)(hm:X.mg x=none)(hv:dW x=some u)(h:Q u s)
  (hn:autoParam (x≠"__name__") Ad._auto_1) (hd:autoParam ((x == ("__debug__" : Str))=false) Ad._auto_1):wpAny (model X.prog X.w) X.A (eval (.Name x pos) X.env) Q E s:=by
 obtain⟨mb,h1,h2⟩:=I.mod.blt;exact JX I.ok.kind hg (Calls.loadGlobal_builtin (by rw [I.ok.glob]; exact I.mod.glob.keeps I.bk) hm (by rw [I.ok.blt]; exact h1.keeps I.bk) ((h2 x hn).trans hv) h) hd
theorem Na {x:Str} {v:V} {u:Value} {pos:Pos} (hg:Gl X x) (hm:X.mg x=some u) (r:RelV v u) (hd:autoParam ((x == ("__debug__" : Str))=false) Ad._auto_1):PE X (.Name x pos) (tC v) :=
 fun _ _ _ H _ I h=>kX I hg hm ⟨v,H,I,r,h⟩ hd
variable {a b:Expr} {ta tb:TE} {pos:Pos}
def tB(t:TE):TT:=fun σ H Q=>t σ H fun x H1=>∃ c,x=.bl c/\Q c H1
variable {tA tB':TT} {rest:List Expr}
end
def y9(K:ag)(H:Hp)(a:Addr)(xs:List V):Prop :=
 Rd H a (.lst xs) \/
  ∃ (o:Obj) (bw:Array Value) (n:Nat),K.lookup a=some o/\o.cls=.type "list"/\o.dict=none/\o.data=.seq bw n/\bw.size<=bg/\Vals xs bw.toList
def Cq(K:ag)(H:Hp)(a:Addr)(xs:List V):Prop :=
 Rd H a (.tup xs) \/
  ∃ (o:Obj) (bw:Array Value) (n:Nat),K.lookup a=some o/\o.cls=.type "tuple"/\o.data=.seq bw n/\bw.size<=bg/\Vals xs bw.toList
def aeV:Value->Option V
 | .none=>some .cR
 | .bool b=>some (.bl b)
 | .int i _=>some (.int i)
 | .str x _=>some (.str x)
 | .bytes b _=>some (.WQ b)
 | .float b _=>some (.Ja b)
 | .ref a=>some (.ref a)
 | .type n=>some (.ty n)
 | _=>none
theorem RelV.abs{x:V}{u:Value}(r:RelV x u):aeV u=some x:=by
 cases x with
 | cR=>cases r; rfl
 | bl _=>cases r; rfl
 | int _=>obtain⟨t,rfl⟩:=r; rfl
 | str _=>obtain⟨t,rfl⟩:=r; rfl
 | WQ _=>obtain⟨t,rfl⟩:=r; rfl
 | Ja _=>obtain⟨t,rfl⟩:=r; rfl
 | ref _=>cases r; rfl
 | ty _=>cases r; rfl
theorem RelV.inj{x y:V}{u:Value}(r:RelV x u)(q:RelV y u):x=y:=bC (r.abs.symm.trans q.abs)
theorem Vals.inj:∀ {xs ys:List V} {us:List Value},Vals xs us->Vals ys us->xs=ys:=by
 intro xs ys us h;induction h generalizing ys with
 | nil=>intro k; cases k; rfl
 | cons r t ih =>
  intro k;cases k with
  | cons r' t'=>rw [r.inj r',ih t']
section
variable {X:Cx} {pins:List (Addr×Obj)} {σ:St} {H:Hp} {s:ao} {a:Addr} {xs ys:List V}
theorem y9.of{K:ag}(h:H a=some (.lst xs)):y9 K H a xs:=.inl (.inl h)
theorem Cq.of{K:ag}(h:H a=some (.tup xs)):Cq K H a xs:=.inl (.inl h)
theorem Inv.list(I:Inv X pins σ H s)(h:y9 X.K H a xs):∃ bw:List Value,Vals xs bw/\PlainL s.heap a bw.toArray/\xs.length<=bg:=by
 rcases h with h | ⟨o,bw,n,hk,hc,hd,hs,hz,r⟩
 ·obtain⟨z,bw,n,r,e⟩:=h.ok I.cO;exact⟨bw,r,⟨_,n,e,rfl,rfl,rfl⟩,z⟩
 ·refine⟨bw.toList,r,⟨o,n,I.qu a o hk,hc,hd,by simpa using hs⟩,?_⟩;have e:=r.length;simp only [bS] at e;lia
theorem Inv.tuple(I:Inv X pins σ H s)(h:Cq X.K H a xs):∃ bw:List Value,Vals xs bw/\IsTup s.heap a bw.toArray/\xs.length<=bg:=by
 rcases h with h | ⟨o,bw,n,hk,hc,hs,hz,r⟩
 ·obtain⟨z,bw,r,p⟩:=h.ok I.cO;exact⟨bw,r,p,z⟩
 ·refine⟨bw.toList,r,⟨o,I.qu a o hk,hc,n,by simpa using hs⟩,?_⟩;have e:=r.length;simp only [bS] at e;lia
theorem Inv.Im(I:Inv X pins σ H s)(h:y9 X.K H a xs)(h':y9 X.K H a ys):xs=ys:=by
 obtain⟨bw,r,⟨o,n,e,_,_,d⟩,_⟩:=I.list h;obtain⟨its',r',⟨o',n',e',_,_,d'⟩,_⟩:=I.list h';rw [e] at e'; cases e';rw [d] at d';injection d' with d1 _
 have:bw=its':=by simpa using congrArg Array.toList d1
 subst this;exact r.inj r'
theorem Inv.OE(I:Inv X pins σ H s)(h:Cq X.K H a xs)(h':Cq X.K H a ys):xs=ys:=by
 obtain⟨bw,r,⟨o,e,_,n,d⟩,_⟩:=I.tuple h;obtain⟨its',r',⟨o',e',_,n',d'⟩,_⟩:=I.tuple h';rw [e] at e'; cases e';rw [d] at d';injection d' with d1 _
 have:bw=its':=by simpa using congrArg Array.toList d1
 subst this;exact r.inj r'
end
abbrev Cx.wc(X:Cx)(E:Value->ao->Prop):Cx:={ X with xe:=E }
abbrev Cx.XJ(X:Cx):Cx:=X.wc fun _ _=>False
theorem Cx.Ok.wc{X:Cx}(ok:X.Ok)(E:Value->ao->Prop):(X.wc E).Ok :=
 ⟨ok.mod,ok.kind,ok.glob,ok.blt,ok.above,ok.inj,ok.has,ok.Zi,ok.hd,ok.frames,ok.ZM,ok.exf,ok.bs,ok.Qf,ok.O1,ok.Pu,ok.xr,ok.SH⟩
theorem Cx.Ok.qT{X:Cx}{E:Value->ao->Prop}(ok:(X.wc E).Ok):X.Ok :=
 ⟨ok.mod,ok.kind,ok.glob,ok.blt,ok.above,ok.inj,ok.has,ok.Zi,ok.hd,ok.frames,ok.ZM,ok.exf,ok.bs,ok.Qf,ok.O1,ok.Pu,ok.xr,ok.SH⟩
section
variable {X:Cx} {pins:List (Addr×Obj)} {σ:St} {H:Hp} {s:ao} {E:Value->ao->Prop}
theorem Inv.wc(I:Inv X pins σ H s)(E:Value->ao->Prop):Inv (X.wc E) pins σ H s:=⟨I.ok.wc E,I.os,I.bare,I.base,I.loc,I.cell,I.free,I.i8,I.pin,I.cO,I.len⟩
theorem Inv.qT(I:Inv (X.wc E) pins σ H s):Inv X pins σ H s:=⟨I.ok.qT,I.os,I.bare,I.base,I.loc,I.cell,I.free,I.i8,I.pin,I.cO,I.len⟩
theorem SP.qT{D:Ends}{f:Flow}{s':ao}(h:SP (X.wc E) pins D f s'):SP X pins D f s':=by
 cases f with
 | next=>obtain⟨kG,H',I,q⟩:=h; exact⟨kG,H',I.qT,q⟩
 | brk=>obtain⟨kG,H',I,q⟩:=h; exact⟨kG,H',I.qT,q⟩
 | cont=>obtain⟨kG,H',I,q⟩:=h; exact⟨kG,H',I.qT,q⟩
 | ret u=>obtain⟨v,kG,H',I,r,q⟩:=h; exact⟨v,kG,H',I.qT,r,q⟩
theorem T8.XJ{st:List Stmt}{t:TS}(h:T8 X.XJ st t):T8 X st t:=fun pins s σ H D I hw =>
 eY (h pins s σ H D (I.wc _) hw) (fun _ _ q=>q.qT) fun _ _ z=>bO z
end
section
variable {X:Cx} {st:Stmt} {rest:List Stmt} {t u:TS} {e:Expr} {te:TE} {pos:Pos}
def Xb(t u:TS):TS:=fun D σ H=>t { D with nx:=u D } σ H
theorem wU(h1:PS X st t)(h2:T8 X rest u):T8 X (st :: rest) (Xb t u):=by
 intro pins s σ H D I h;refine jS (gK (h1 pins s σ H { D with nx:=u D } I h) fun f s1 q=>?_);cases f with
 | next =>
  obtain⟨kG,H',I',q⟩:=q;exact h2 pins s1 kG H' D I' q
 | ret v=>exact q
 | brk=>exact q
 | cont=>exact q
theorem M4(h1:PS X st t):T8 X [st] t:=by
 intro pins s σ H D I h;refine jS (gK (h1 pins s σ H D I h) fun f s1 q=>?_);cases f with
 | next=>exact kI q
 | ret v=>exact q
 | brk=>exact q
 | cont=>exact q
theorem Inv.quiet{pins:List (Addr×Obj)}{σ:St}{H:Hp}{s:ao}(I:Inv X pins σ H s):interactive X.env=false:=by simp [interactive,I.ok.kind]
end
abbrev aeZ:=V->V->V->Hp->(Hp->Prop)->Prop
def ae1(X:Cx)(t:aeZ):Prop :=
 ∀ (pins:List (Addr×Obj)) (s:ao) (σ:St) (H:Hp) (o i v:V) (ov iv u:Value) (Q:Hp->Prop),Inv X pins σ H s->RelV o ov->RelV i iv->RelV v u->t o i v H Q ->
  wpAny (model X.prog X.w) X.A (setItem ov iv u) (fun _ s'=>∃ H',Inv X pins σ H' s'/\Q H') X.xe s
structure It where
 go:Nat->Hp->Prop
 yld:Nat->Hp->V->Hp->Prop
 stop:Nat->Hp->Prop
def o8(X:Cx)(pins:List (Addr×Obj))(H:Hp)(b:Addr):Prop :=
 H b=none/\b≠X.env.locals/\b∉X.fs/\(b∈X.ex\/X.jc.heap.objs.size<=b)/\(∀ x c,X.env.cells.lookup x=some c->c≠b)/\∀ p∈X.pn++pins,p.1≠b
theorem Inv.LH{X:Cx}{pins:List (Addr×Obj)}{σ:St}{H H':Hp}{s:ao}{b:Addr}(I:Inv X pins σ H s)(hb:s.heap.objs.size<=b)(hn:H' b=none):o8 X pins H' b:=by
 refine⟨hn,Nat.ne_of_gt (bJ I.lt hb),I.adA hb,.inr (cE I.sz hb),fun x c e z=>?_,fun p hp z=>?_⟩
 ·obtain⟨v,q⟩:=I.cell x c e;exact absurd (bJ q.lt (by rw [z]; exact hb)) (eQ _)
 ·exact absurd (bJ (aN (I.pin p hp).1) (by rw [z]; exact hb)) (eQ _)
structure Turn(P:bx)(w:World)(K:ag)(tg:Expr)(J:It)(fp:List Addr)(it:Addr)(tn:Nat->Heap->Prop):Prop where
 mem:it∈fp
 obj:∀ i h,tn i h->∀ b∈fp,∃ o,h.get? b=some o/\∀ v,o.data≠.cell v
 keep:∀ i h h',tn i h->(∀ b∈fp,∀ o,h.get? b=some o->h'.get? b=some o)->tn i h'
 item:∀ (X:Cx),X.prog=P->X.w=w->X.K=K->X.calm=true->∀ (i:Nat) (pins:List (Addr×Obj)) (s:ao) (σ:St) (H:Hp) (E:Value->ao->Prop),Inv X pins σ H s->(∀ b∈fp,o8 X pins H b)->tn i s.heap->J.go i H ->
  wpAny (model P w) X.A (uY (.ref it)) (fun r s1=>∃ u,r=some u /\
   wpAny (model P w) X.A (A5 tg (.ref it) u) (fun _ s2=>∃ x H',Inv X pins σ H' s2/\RelV x u/\J.yld i H x H'/\tn (i+1) s2.heap/\∀ b∈fp,H' b=none) E s1) E s
 done:∀ (X:Cx),X.prog=P->X.w=w->X.K=K->X.calm=true->∀ (i:Nat) (pins:List (Addr×Obj)) (s:ao) (σ:St) (H:Hp) (E:Value->ao->Prop),Inv X pins σ H s->(∀ b∈fp,o8 X pins H b)->tn i s.heap->J.stop i H ->
  wpAny (model P w) X.A (uY (.ref it)) (fun r s1=>r=none/\Inv X pins σ H s1) E s
 self:∀ (A:cX) (i:Nat) (s:ao) (Q:Value->ao->Prop) (E:Value->ao->Prop),tn i s.heap->Q (.ref it) s->wpAny (model P w) A (Du (.ref it)) Q E s
abbrev TI:=St->Hp->(It->Hp->Prop)->Prop
def PIE(X:Cx)(pins:List (Addr×Obj))(σ:St)(tg:Expr)(R:It->Hp->Prop)(Wy:Value)(s2:ao):Prop :=
 ∃ (it:Addr) (fp:List Addr) (tn:Nat->Heap->Prop) (J:It) (H':Hp),Wy=.ref it/\Inv X pins σ H' s2/\Turn X.prog X.w X.K tg J fp it tn/\tn 0 s2.heap/\(∀ b∈fp,o8 X pins H' b)/\R J H'
theorem II{M:Model}{A:cX}{E:Value->ao->Prop}{s:ao}{tg:Expr}{it:Addr}{u:Value}{o:Obj}{n:String}{vs:Array Value}{Q:Unit->ao->Prop}(ho:s.heap.get? it=some o)(hc:o.cls=.type n)(hd:o.data=.fields vs)
    (hn:["enumerate","zip","dict_itemiterator","dict_reverseitemiterator","odict_iterator","itertools.zip_longest","itertools.pairwise"].contains n=false) (hQ:Q () s):wpAny M A (A5 tg (.ref it) u) Q E s:=by
  unfold A5;cases tg <;> first
    | exact au hQ
    | (cases u <;> first
        | exact au hQ
        | (refine ae (wpAny_load ho ?_)
           rw [hc,hd];show wpAny M A (if (["enumerate","zip","dict_itemiterator","dict_reverseitemiterator","odict_iterator","itertools.zip_longest","itertools.pairwise"].contains n&&vs[0]? == some (r8 _))=true then _ else _) Q E s;rw [if_neg (by intro h; rw [hn,zZ] at h; cases h)];exact au hQ))
def Itl(K:ag)(a:Addr):It :=
 ⟨fun i H=>∃ xs x,y9 K H a xs/\xs[i]?=some x,fun i H x H'=>H'=H/\∀ xs,y9 K H a xs->xs[i]?=some x,fun i H=>∃ xs,y9 K H a xs/\xs.length<=i⟩
def Itt(K:ag)(a:Addr):It :=
 ⟨fun i H=>∃ xs x,Cq K H a xs/\xs[i]?=some x,fun i H x H'=>H'=H/\∀ xs,Cq K H a xs->xs[i]?=some x,fun i H=>∃ xs,Cq K H a xs/\xs.length<=i⟩
def Itr(lo:Int)(n:Nat):It:=⟨fun i _=>i < n,fun i H x H'=>H'=H/\x=.int (lo+i),fun i _=>n<=i⟩
theorem OB{P:bx}{w:World}{K:ag}{tg:Expr}(a it:Addr):Turn P w K tg (Itl K a) [it] it (fun i h=>h.IsListIter it a i) where
 mem:=by simp
 obj:=fun i h st b hb=>by
  have e:b=it:=by simpa using hb
  subst e;obtain⟨o,e,c,d⟩:=st;exact⟨o,e,fun v z=>by rw [d] at z; cases z⟩
 keep:=fun i h h' st k=>st.at fun o e=>k it (by simp) o e
 item:=by
  intro X hP hw hK hc i pins s σ H E I hf st hg;subst hP hw hK;obtain⟨xs,x,hq,hx⟩:=hg;obtain⟨bw,rv,p,hz⟩:=I.list hq;obtain⟨u,hu,ru⟩:=rv.get hx;obtain⟨f0,f1,f2,f3,f4,f5⟩:=hf it (by simp);refine wpAny_pyNext_list_item st p.isList (x:=u) (by simpa using hu) fun h' AH sb=>?_;have I1:Inv X pins σ H { s with heap:=h' }:=I.turned (t':=s.toks) (fun b o hb e=>(sb.2 b hb).trans e) f0 f1 f3 f4 f5;obtain⟨o,e,c,d⟩:=id AH;exact⟨u,rfl,II (s:={ s with heap:=h' }) e c d (by decide) ⟨x,H,I1,ru,⟨rfl,fun ys hy=>by rw [I.Im hy hq]; exact hx⟩,AH,fun b hb=>(hf b hb).1⟩⟩
 done:=by
  intro X hP hw hK hc i pins s σ H E I hf st hg;subst hP hw hK;obtain⟨xs,hq,hx⟩:=hg;obtain⟨bw,rv,p,hz⟩:=I.list hq;obtain⟨f0,f1,f2,f3,f4,f5⟩:=hf it (by simp);have hl:=rv.length;exact wpAny_pyNext_list_end (I.ok.hd hc) st p.isList (by simp; lia) fun h' eb=>⟨rfl,I.turned (t':=s.toks) (fun b o hb e=>eb b o hb e) f0 f1 f3 f4 f5⟩
 self:=fun _ _ _ _ _ st h=>wpAny_pyIter_listiter st h
theorem KH{P:bx}{w:World}{K:ag}{tg:Expr}(a it:Addr):Turn P w K tg (Itt K a) [it] it (fun i h=>h.IsTupleIter it a i) where
 mem:=by simp
 obj:=fun i h st b hb=>by
  have e:b=it:=by simpa using hb
  subst e;obtain⟨o,e,c,d⟩:=st;exact⟨o,e,fun v z=>by rw [d] at z; cases z⟩
 keep:=fun i h h' st k=>st.at fun o e=>k it (by simp) o e
 item:=by
  intro X hP hw hK hc i pins s σ H E I hf st hg;subst hP hw hK;obtain⟨xs,x,hq,hx⟩:=hg;obtain⟨bw,rv,p,hz⟩:=I.tuple hq;obtain⟨u,hu,ru⟩:=rv.get hx;obtain⟨f0,f1,f2,f3,f4,f5⟩:=hf it (by simp);refine wpAny_pyNext_tuple_item st (show s.heap.IsTuple a bw.toArray from p) (x:=u) (by simpa using hu) fun h' AH sb=>?_;have I1:Inv X pins σ H { s with heap:=h' }:=I.turned (t':=s.toks) (fun b o hb e=>(sb.2 b hb).trans e) f0 f1 f3 f4 f5;obtain⟨o,e,c,d⟩:=id AH;exact⟨u,rfl,II (s:={ s with heap:=h' }) e c d (by decide) ⟨x,H,I1,ru,⟨rfl,fun ys hy=>by rw [I.OE hy hq]; exact hx⟩,AH,fun b hb=>(hf b hb).1⟩⟩
 done:=by
  intro X hP hw hK hc i pins s σ H E I hf st hg;subst hP hw hK;obtain⟨xs,hq,hx⟩:=hg;obtain⟨bw,rv,p,hz⟩:=I.tuple hq;obtain⟨f0,f1,f2,f3,f4,f5⟩:=hf it (by simp);have hl:=rv.length;exact wpAny_pyNext_tuple_end (I.ok.hd hc) st (show s.heap.IsTuple a bw.toArray from p) (by simp; lia) fun h' eb=>⟨rfl,I.turned (t':=s.toks) (fun b o hb e=>eb b o hb e) f0 f1 f3 f4 f5⟩
 self:=fun _ _ _ _ _ st h=>wpAny_pyIter_tupleiter st h
theorem KI{P:bx}{w:World}{K:ag}{tg:Expr}(it:Addr)(lo:Int)(n:Nat):Turn P w K tg (Itr lo n) [it] it (fun i h=>IsRangeIter h it (lo+(i:Nat) * 1) ((n:Int) - (i:Nat)) 1) where
 mem:=by simp
 obj:=fun i h st b hb=>by
  have e:b=it:=by simpa using hb
  subst e;exact⟨_,st,fun v z=>by
   have z':Data.fields _=Data.cell v:=z;cases z'⟩
 keep:=fun i h h' st k=>k it (by simp) _ st
 item:=by
  intro X hP hw hK hc i pins s σ H E I hf st hg;subst hP hw hK;obtain⟨f0,f1,f2,f3,f4,f5⟩:=hf it (by simp);have W:=Walks.range (prog:=X.prog) (w:=X.w) (I.ok.hd hc) it lo 1 n;refine W.item i s _ _ hg st fun v h' tk hv AH kk=>?_;obtain⟨t,rfl⟩:=hv;have I1:Inv X pins σ H { s with heap:=h',toks:=tk }:=I.turned (fun b o hb e=>kk b o (by simpa using hb) e) f0 f1 f3 f4 f5;refine⟨_,rfl,II (s:={ s with heap:=h',toks:=tk }) (n:="range_iterator") AH rfl rfl (by decide) ⟨.int (lo+i),H,I1,⟨t,?_⟩,⟨rfl,rfl⟩,AH,fun b hb=>(hf b hb).1⟩⟩;rw [Int.mul_one]
 done:=by
  intro X hP hw hK hc i pins s σ H E I hf st hg;subst hP hw hK;obtain⟨f0,f1,f2,f3,f4,f5⟩:=hf it (by simp);exact wpAny_pyNext_range_end (I.ok.hd hc) st (by have:n<=i:=hg; lia) fun h' eb=>⟨rfl,I.turned (t':=s.toks) (fun b o hb e=>eb b o hb e) f0 f1 f3 f4 f5⟩
 self:=fun _ _ _ _ _ st h=>wpAny_pyIter_rangeiter st h
section
variable {X:Cx} {tg:Expr}
theorem Q9{pins:List (Addr×Obj)}{σ:St}{H:Hp}{s:ao}{R:It->Hp->Prop}{E:Value->ao->Prop}{lo hi:Int}{t u v:Tok}{tk:Nat}(I:Inv X pins σ H s)(h1:-(2 ^ 62)<=lo)(h2:lo < 2 ^ 62)(h3:-(2 ^ 62)<=hi)(h4:hi < 2 ^ 62)
  (q:R (Itr lo (hi - lo).toNat) H):wpAny (model X.prog X.w) X.A (Du (.ref s.heap.objs.size)) (PIE X pins σ tg R) E { s with heap:=s.heap.push { cls:=.type "range",data:=.fields #[.int lo t,.int hi u,.int 1 v] },toks:=tk }:=by
 refine wpAny_pyIter_range (IsRange.new ..) (small_one h1 h2 h3 h4) ?_;have I1:Inv X pins σ H { s with heap:=s.heap.push { cls:=.type "range",data:=.fields #[.int lo t,.int hi u,.int 1 v] },toks:=tk }:=I.kept fun b o e=>aA _ e
 refine⟨(s.heap.push { cls:=.type "range",data:=.fields #[.int lo t,.int hi u,.int 1 v] }).objs.size,[(s.heap.push { cls:=.type "range",data:=.fields #[.int lo t,.int hi u,.int 1 v] }).objs.size],_,_,H,rfl,
  I1.kept (t':=tk) fun b o e=>aA _ e,KI _ lo (hi - lo).toNat,?_,fun b hb=>?_,q⟩
 ·have e1:lo+((0:Nat):Int) * 1=lo:=by simp
  have e2:(((hi - lo).toNat:Nat):Int) - ((0:Nat):Int)=Builtin.Range.rangeSize lo hi 1:=by rw [rangeSize_one]; split <;> lia
  show IsRangeIter _ _ (lo+((0:Nat):Int) * 1) ((((hi - lo).toNat:Nat):Int) - ((0:Nat):Int)) 1;rw [e1,e2];exact a5 _ rfl
 ·have e:b=(s.heap.push { cls:=.type "range",data:=.fields #[.int lo t,.int hi u,.int 1 v] }).objs.size:=by simpa using hb
  subst e;exact I1.LH (aK _) (I1.cO.fresh (aK _))
def tO(fp:List Addr)(h:Heap):List (Addr×Obj):=fp.filterMap fun b=>(h.get? b).map fun o=>(b,o)
theorem rB{fp:List Addr}{h:Heap}{b:Addr}{o:Obj}(hb:b∈fp)(e:h.get? b=some o):(b,o)∈tO fp h:=List.mem_filterMap.mpr ⟨b,hb,by rw [e]; rfl⟩
theorem O0{fp:List Addr}{h:Heap}{p:Addr×Obj}(hp:p∈tO fp h):p.1∈fp/\h.get? p.1=some p.2:=by
 obtain⟨b,hb,e⟩:=List.mem_filterMap.mp hp;cases q:h.get? b with
 | none=>rw [q] at e; cases e
 | some o =>
  rw [q] at e;have e':(b,o)=p:=bC e;subst e';exact⟨hb,q⟩
theorem Inv.pinned{pins:List (Addr×Obj)}{σ:St}{H:Hp}{s:ao}{fp:List Addr}(I:Inv X pins σ H s)(hf:∀ b∈fp,o8 X pins H b)(ho:∀ b∈fp,∃ o,s.heap.get? b=some o/\∀ v,o.data≠.cell v):Inv X (pins++tO fp s.heap) σ H s :=
 I.M7 fun p hp=>(List.mem_append.mp hp).elim (fun z=>I.pin p (dP _ z)) fun z=>by
  obtain⟨hb,e⟩:=O0 z;obtain⟨f0,f1,f2,_⟩:=hf p.1 hb;obtain⟨o,e',d⟩:=ho p.1 hb;rw [e] at e'; cases e';exact⟨e,f0,f1,f2,d⟩
theorem Inv.we{pins pl:List (Addr×Obj)}{σ:St}{H:Hp}{s:ao}(I:Inv X (pins++pl) σ H s):Inv X pins σ H s:=I.M7 fun p hp=>I.pin p (dP _ (pU _ hp))
end
abbrev R2:=V->V->Hp->VK->Prop
def Ob(X:Cx)(f:Value->Value->Sem Value)(r:R2):Prop :=
 ∀ (pins:List (Addr×Obj)) (s:ao) (σ:St) (H:Hp) (x y:V) (v u:Value) (Q:VK),Inv X pins σ H s->RelV x v->RelV y u->r x y H Q ->
  wpAny (model X.prog X.w) X.A (f v u) (EP X pins σ Q) X.xe s
def UnR(X:Cx)(f:Value->Sem Value)(r:V->Hp->VK->Prop):Prop :=
 ∀ (pins:List (Addr×Obj)) (s:ao) (σ:St) (H:Hp) (x:V) (v:Value) (Q:VK),Inv X pins σ H s->RelV x v->r x H Q ->
  wpAny (model X.prog X.w) X.A (f v) (EP X pins σ Q) X.xe s
def WX(X:Cx)(f:Value)(r:List V->Hp->VK->Prop):Prop :=
 ∀ (pins:List (Addr×Obj)) (s:ao) (σ:St) (H:Hp) (xs:List V) (us:List Value) (Q:VK),Inv X pins σ H s->Vals xs us->r xs H Q ->
  wpAny (model X.prog X.w) X.A (call f us) (EP X pins σ Q) X.xe s
def aeY(X:Cx)(r:V->Hp->(Bool->Hp->Prop)->Prop):Prop :=
 ∀ (pins:List (Addr×Obj)) (s:ao) (σ:St) (H:Hp) (x:V) (v:Value) (Q:Bool->Hp->Prop),Inv X pins σ H s->RelV x v->r x H Q ->
  wpAny (model X.prog X.w) X.A (truthy v) (TP X pins σ Q) X.xe s
def rI(C:Int->Int->Prop)(g:Int->Int->V):R2:=fun x y H Q=>∃ i j,x=.int i/\y=.int j/\C i j/\Q (g i j) H
def Xv(g:Int->Int->V):R2:=fun x y H Q=>∃ i j,x=.int i/\y=.int j/\Q (g i j) H
def rU(g:Int->V):V->Hp->VK->Prop:=fun x H Q=>∃ i,x=.int i/\Q (g i) H
section
variable {X:Cx} {a b c:Expr} {ta tb tc:TE} {pos:Pos}
theorem opI{f:Value->Value->Sem Value}{C:Int->Int->Prop}{g:Int->Int->Int}
  (rule:∀ (i j:Int) (t u:Tok) (s:ao) (Q:Value->ao->Prop) (E:Value->ao->Prop),C i j->Q (.int (g i j) s.toks) { s with toks:=s.toks+1 }->wpAny (model X.prog X.w) X.A (f (.int i t) (.int j u)) Q E s) :
  Ob X f (rI C fun i j=>.int (g i j)):=by
 intro pins s σ H x y v u Q I rx ry h;obtain⟨i,j,rfl,rfl,hc,q⟩:=h;obtain⟨t,rfl⟩:=rx;obtain⟨t',rfl⟩:=ry;exact rule i j t t' s _ _ hc ⟨.int (g i j),H,I.tok _,⟨_,rfl⟩,q⟩
theorem aab{f:Value->Value->Sem Value}{g:Int->Int->Int}
  (rule:∀ (i j:Int) (t u:Tok) (s:ao) (Q:Value->ao->Prop) (E:Value->ao->Prop),Q (.int (g i j) s.toks) { s with toks:=s.toks+1 }->wpAny (model X.prog X.w) X.A (f (.int i t) (.int j u)) Q E s) :
  Ob X f (Xv fun i j=>.int (g i j)):=by
 intro pins s σ H x y v u Q I rx ry h;obtain⟨i,j,rfl,rfl,q⟩:=h;obtain⟨t,rfl⟩:=rx;obtain⟨t',rfl⟩:=ry;exact rule i j t t' s _ _ ⟨.int (g i j),H,I.tok _,⟨_,rfl⟩,q⟩
theorem XH{f:Value->Value->Sem Value}{g:Int->Int->Bool}
  (rule:∀ (i j:Int) (t u:Tok) (s:ao) (Q:Value->ao->Prop) (E:Value->ao->Prop),Q (.bool (g i j)) s->wpAny (model X.prog X.w) X.A (f (.int i t) (.int j u)) Q E s) :
  Ob X f (Xv fun i j=>.bl (g i j)):=by
 intro pins s σ H x y v u Q I rx ry h;obtain⟨i,j,rfl,rfl,q⟩:=h;obtain⟨t,rfl⟩:=rx;obtain⟨t',rfl⟩:=ry;exact rule i j t t' s _ _ ⟨.bl (g i j),H,I,rfl,q⟩
def ae7(i j:Int):Prop:=0 < j/\j < 1073741824
def Y3(i j:Int):Prop:=(-(2 ^ 64) < i/\i < 2 ^ 64)\/(-(2 ^ 64) < j/\j < 2 ^ 64)
theorem Y3.ok{i j:Int}(h:Y3 i j):IntMulOk i j:=by
 rcases h with ⟨h1,h2⟩ | ⟨h1,h2⟩
 ·exact .of_left (intBits_le_64 h1 h2)
 ·exact .of_right (intBits_le_64 h1 h2)
theorem XG:Ob X (km .Add) (Xv fun i j=>.int (i+j)):=aab fun _ _ _ _ _ _ _ q=>add_int q
theorem XB:Ob X (km .Sub) (Xv fun i j=>.int (i - j)):=aab fun _ _ _ _ _ _ _ q=>sub_int q
theorem XC:Ob X (km .Mult) (rI Y3 fun i j=>.int (i * j)):=opI fun _ _ _ _ _ _ _ hc q=>mul_int q hc.ok
theorem Vf:Ob X (km .FloorDiv) (rI ae7 fun i j=>.int (i / j)):=opI fun i j _ _ _ _ _ hc q=>by
 have h1:(0:Int) < j:=hc.1;have h2:j < 1073741824:=hc.2;exact floordiv_int (by lia) (by rw [Int.fdiv_eq_ediv_of_nonneg i (by lia)]; exact q) (.inl (PyProof.noPylong_small (by lia)))
theorem XE:Ob X (km .Mod) (rI (fun _ j=>0 < j) fun i j=>.int (i % j)):=opI fun i j _ _ _ _ _ hc q=>by
 have h1:(0:Int) < j:=hc;exact mod_int' (by lia) (by rw [Int.fmod_eq_emod_of_nonneg i (by lia)]; exact q)
theorem unI{f:Value->Sem Value}{g:Int->Int}
  (rule:∀ (i:Int) (t:Tok) (s:ao) (Q:Value->ao->Prop) (E:Value->ao->Prop),Q (.int (g i) s.toks) { s with toks:=s.toks+1 }->wpAny (model X.prog X.w) X.A (f (.int i t)) Q E s) :
  UnR X f (rU fun i=>.int (g i)):=by
 intro pins s σ H x v Q I rx h;obtain⟨i,rfl,q⟩:=h;obtain⟨t,rfl⟩:=rx;exact rule i t s _ _ ⟨.int (g i),H,I.tok _,⟨_,rfl⟩,q⟩
theorem W4:UnR X (unaryOp .USub) (rU fun i=>.int (-i)):=unI fun _ _ _ _ _ q=>neg_int q
end
section
variable {X:Cx} {a b c:Expr} {ta tb tc:TE} {pos:Pos}
theorem Z8:Ob X (dU .Lt) (Xv fun i j=>.bl (decide (i < j))):=XH fun _ _ _ _ _ _ _ q=>lt_int q
theorem Z9:Ob X (dU .LtE) (Xv fun i j=>.bl (decide (i<=j))):=XH fun _ _ _ _ _ _ _ q=>le_int q
theorem aaa:Ob X (dU .Gt) (Xv fun i j=>.bl (decide (j < i))):=XH fun _ _ _ _ _ _ _ q=>gt_int q
theorem gc(b:Expr){op:CmpOp}(h:autoParam (op≠.In) Ad._auto_1)(h2:autoParam (op≠.NotIn) Ad._auto_1):Hk op b=false:=by
 have e1:(op == CmpOp.In)=false:=by cases op <;> first | rfl | exact absurd rfl h
 have e2:(op == CmpOp.NotIn)=false:=by cases op <;> first | rfl | exact absurd rfl h2
 cases b with
 | Set es k _ =>
  show (k == 0&&(op == .In||op == .NotIn)&&es.all (constantsAlone 8))=false;rw [e1,e2,Bool.or_false,sO,zZ]
 | _=>rfl
def YZ(K:ag)(x:V)(H:Hp)(k:Bool):Prop :=
 match x with
 | .cR=>k=false
 | .bl b=>k=b
 | .int i=>k=(i != 0)
 | .str y=>y.length<=bg/\k=((y.length:Int) != 0)
 | .WQ y=>y.size<=bg/\k=((y.size:Int) != 0)
 | .ref p=>(∃ xs,y9 K H p xs/\k=!xs.isEmpty)\/(∃ xs,Cq K H p xs/\k=!xs.isEmpty)\/∃ bo,H p=some (.dK bo)/\k=!bo.isEmpty
 | _=>False
theorem Lz{κ:Type}{bo:List (κ×V)}{vs:List (κ×Value)}(r:KV bo vs):(!vs.isEmpty)=!bo.isEmpty:=by
 cases r <;> rfl
theorem B1{xs:List V}{bw:List Value}(r:Vals xs bw):(!bw.toArray.isEmpty)=!xs.isEmpty:=by
 cases r <;> simp
theorem BO:(bg:Nat) < 2 ^ 63:=by rw [bK]; decide
theorem W7:aeY X (fun x H Q=>∃ k,YZ X.K x H k/\Q k H):=by
 intro pins s σ H x v Q I rx h;obtain⟨k,e,q⟩:=h;have hl:=BO;have hs:bg=16777216:=bK;cases x with
 | cR =>
  cases rx;have e':k=false:=e;subst e';exact truthy_none ⟨H,I,q⟩
 | bl b =>
  cases rx;have e':k=b:=e;subst e';exact jj ⟨H,I,q⟩
 | int i =>
  obtain⟨t,rfl⟩:=rx;have e':k=(i != 0):=e;subst e';exact PySem.P.truthy_int ⟨H,I,q⟩
 | str y =>
  obtain⟨t,rfl⟩:=rx;obtain⟨hy,e'⟩:y.length<=bg/\k=((y.length:Int) != 0):=e;subst e';exact PySem.P.truthy_str (by lia) ⟨H,I.tok _,q⟩
 | WQ y =>
  obtain⟨t,rfl⟩:=rx;obtain⟨hy,e'⟩:y.size<=bg/\k=((y.size:Int) != 0):=e;subst e';exact PySem.W.truthy_bytes (by lia) ⟨H,I.tok _,q⟩
 | ref p =>
  cases rx;have e':(∃ xs,y9 X.K H p xs/\k=!xs.isEmpty)\/(∃ xs,Cq X.K H p xs/\k=!xs.isEmpty)\/∃ bo,H p=some (.dK bo)/\k=!bo.isEmpty:=e;rcases e' with ⟨xs,hx,e'⟩ | ⟨xs,hx,e'⟩ | ⟨bo,hx,e'⟩
  ·subst e';obtain⟨bw,r,pl,hz⟩:=I.list hx;have hlen:=r.length;exact wpAny_truthy_list pl.isList (by simp only [aS]; lia) ⟨H,I.tok _,by rw [B1 r]; exact q⟩
  ·subst e';obtain⟨bw,r,pl,hz⟩:=I.tuple hx;have hlen:=r.length;exact truthy_tuple pl (by simp only [aS]; lia) ⟨H,I.tok _,by rw [B1 r]; exact q⟩
  ·subst e';obtain⟨hz,hS,vs,r,m⟩:bo.length<=bg/\(p == gF)=false/\∃ vs,KV bo vs/\s.heap.DictOf (gm X.prog X.w) p vs:=I.cO p _ hx;have hlen:bo.length=vs.length:=lX r;exact Kf hS m (by lia) ⟨H,I.tok _,by rw [Lz r]; exact q⟩
 | _=>exact(show False from e).elim
theorem K9:Ob X (km .Add) (fun x y H Q=>∃ i j,x=.str i/\y=.str j/\i.length+j.length<=bg/\Q (.str (i++j)) H):=by
 intro pins s σ H x y v u Q I rx ry h;obtain⟨i,j,rfl,rfl,hz,q⟩:=h;obtain⟨t,rfl⟩:=rx;obtain⟨t',rfl⟩:=ry;exact add_str (fun t' tk=>⟨.str (i++j),H,I.tok _,⟨_,rfl⟩,q⟩) hz
theorem vals1{x:V}{us:List Value}(r:Vals [x] us):∃ u,us=[u]/\RelV x u:=by
 cases r with
 | cons r1 r2=>cases r2; exact⟨_,rfl,r1⟩
theorem vals2{x y:V}{us:List Value}(r:Vals [x,y] us):∃ u w',us=[u,w']/\RelV x u/\RelV y w':=by
 cases r with
 | cons r1 r2 =>
  cases r2 with
  | cons r3 r4=>cases r4; exact⟨_,_,rfl,r1,r3⟩
theorem GD:WX X (.type "str") (fun xs H Q=>∃ i,xs=[.int i]/\i.natAbs.log2 < 1920/\Q (.str (toString i)) H):=by
 intro pins s σ H xs us Q I r h;obtain⟨i,rfl,hz,q⟩:=h;obtain⟨u,rfl,t,rfl⟩:=vals1 r;exact PySem.P.str_of_int hz ⟨.str _,H,I.tok _,⟨_,rfl⟩,q⟩
def abx(K:ag)(x:V)(H:Hp)(n:Nat):Prop :=
 match x with
 | .str y=>y.length<=bg/\n=y.length
 | .WQ y=>y.size<=bg/\n=y.size
 | .ref p=>(∃ xs,y9 K H p xs/\n=xs.length)\/∃ xs,Cq K H p xs/\n=xs.length
 | _=>False
theorem Te:WX X (.builtin "len") (fun xs H Q=>∃ x n,xs=[x]/\abx X.K x H n/\Q (.int n) H):=by
 intro pins s σ H xs us Q I r h;obtain⟨x,n,rfl,e,q⟩:=h;obtain⟨u,rfl,rx⟩:=vals1 r;have hl:=BO;have hs:bg=16777216:=bK;cases x with
 | str y =>
  obtain⟨t,rfl⟩:=rx;obtain⟨hy,e'⟩:y.length<=bg/\n=y.length:=e;subst e';exact len_str (by lia) ⟨.int _,H,I.tok _,⟨_,rfl⟩,q⟩
 | WQ y =>
  obtain⟨t,rfl⟩:=rx;obtain⟨hy,e'⟩:y.size<=bg/\n=y.size:=e;subst e';exact PySem.W.len_bytes (by lia) ⟨.int _,H,I.tok _,⟨_,rfl⟩,q⟩
 | ref p =>
  cases rx;have e':(∃ xs,y9 X.K H p xs/\n=xs.length)\/∃ xs,Cq X.K H p xs/\n=xs.length:=e;rcases e' with ⟨xs,hx,e'⟩ | ⟨xs,hx,e'⟩
  ·subst e';obtain⟨bw,r',pl,hz⟩:=I.list hx;have hlen:=r'.length;exact Calls.call_len_list pl.isList (by simp only [aS]; lia) ⟨.int xs.length,H,I.tok _,⟨_,by simp only [aS]; rw [hlen]⟩,q⟩
  ·subst e';obtain⟨bw,r',pl,hz⟩:=I.tuple hx;have hlen:=r'.length;exact len_tuple pl (by simp only [aS]; lia) ⟨.int xs.length,H,I.tok _,⟨_,by simp only [aS]; rw [hlen]⟩,q⟩
 | _=>exact(show False from e).elim
end
theorem O5{h:Heap}{dx:Addr}{mA:Str->Option Value}(n:h.Ns1 dx mA):∃ od,h.get? dx=some od/\∀ name,PySem.W.lookIn name od=some (mA name):=by
 obtain⟨o,es,ep,ho,hd,hk,_,hm⟩:=n;refine⟨o,ho,fun name=>?_⟩;have e:=hm name;unfold nsFind findBy at e;rw [<-Array.find?_toList] at e;unfold PySem.W.lookIn;rw [hd];dsimp only;split
 ·rename_i y q;rw [q] at e;exact congrArg some e
 ·rename_i q;rw [q] at e;have a:es.toList.any (·.refKey)=false:=by
   rw [List.any_eq_false];intro y hy;obtain⟨z,t,Yk⟩:=hk y (Array.mem_toList_iff.mp hy);simp [DictEntry.refKey,Yk]
  have a':¬ es.toList.any (·.refKey)=true:=by rw [a]; exact fL
  rw [if_neg a'];exact congrArg some e
def HP(f:Str)(v:V):List (Str×V)->List (Str×V)
 | []=>[(f,v)]
 | (g,x) :: r=>if g=f then (g,v) :: r else (g,x) :: HP f v r
theorem zD(f g:Str)(v:V):∀ fs:List (Str×V),(HP f v fs).lookup g=if g=f then some v else fs.lookup g
 | []=>by
  show gk g [(f,v)]=_;by_cases h:g=f
  ·have hb:(g == f)=true:=beq_iff_eq.mpr h;simp only [gk,hb,if_pos h]
  ·have hb:(g == f)=false:=beq_eq_false_iff_ne.mpr h;simp only [gk,hb,if_neg h]
 | (k,x) :: r=>by
  have ih:=zD f g v r;rw [show HP f v ((k,x) :: r)=(if k=f then (k,v) :: r else (k,x) :: HP f v r) from rfl];by_cases hk:k=f
  ·rw [if_pos hk];by_cases h:g=k
   ·have hb:(g == k)=true:=beq_iff_eq.mpr h;simp only [gk,hb,if_pos (h.trans hk)]
   ·have hb:(g == k)=false:=beq_eq_false_iff_ne.mpr h;simp only [gk,hb,if_neg (fun e:g=f=>h (e.trans hk.symm))]
  ·rw [if_neg hk];by_cases h:g=k
   ·have hb:(g == k)=true:=beq_iff_eq.mpr h;simp only [gk,hb,if_neg (fun e:g=f=>hk (h.symm.trans e))]
   ·have hb:(g == k)=false:=beq_eq_false_iff_ne.mpr h;simp only [gk,hb];exact ih
theorem xR.some_of{v:V}{o:Option Value}(r:xR (some v) o):∃ u,o=some u/\RelV v u:=by
 cases o with
 | none=>exact(show False from r).elim
 | some u=>exact⟨u,rfl,r⟩
theorem Pm{v:V}{u:Value}(r:RelV v u):CN u=true:=by
 cases v with
 | cR=>cases (show u=c8 from r); rfl
 | bl b=>cases (show u=xY b from r); rfl
 | int i=>obtain⟨t,e⟩:=(show ∃ t,u=n5 i t from r); cases e; rfl
 | str x=>obtain⟨t,e⟩:=(show ∃ t,u=gz x t from r); cases e; rfl
 | WQ b=>obtain⟨t,e⟩:=(show ∃ t,u=Value.bytes b t from r); cases e; rfl
 | Ja b=>obtain⟨t,e⟩:=(show ∃ t,u=Value.float b t from r); cases e; rfl
 | ref a=>cases (show u=dF a from r); rfl
 | ty n=>cases (show u=CM n from r); rfl
section
variable {X:Cx} {pins:List (Addr×Obj)} {σ:St} {H:Hp} {s:ao} {a C dx:Addr} {fs:List (Str×V)} {f:Str} {v:V} {A:cX} {E:Value->ao->Prop}
theorem V3{prog:bx}{w:World}{env:Env}{e:Expr}{f:Str}{pos:Pos}{s:ao}{Q:Value->ao->Prop}(hb:attributeBase e f env (eval e env)=eval e env)
  (h:wpAny (model prog w) A (eval e env) (fun o fW=>wpAny (model prog w) A (getAttr o f true) Q E fW) E s):wpAny (model prog w) A (eval (.Attribute e f pos) env) Q E s :=
 Attribute_any_ h (by rw [arm_eval_Attribute,hb])
end
structure jI(k:Nat)(A:cX):Prop where
 hd:A.handled=none
 dp:A.depth+3 * k+5 < recursionLimit
 un:A.units+16 * k+200 < cLine
theorem jI.mono{j k:Nat}{A:cX}(r:jI k A)(h:j<=k):jI j A:=⟨r.hd,by have:=r.dp; lia,by have:=r.un; lia⟩
theorem jI.deeper{k:Nat}{A:cX}(r:jI (k+1) A)(env:Env):jI k (A.deeper env) :=
 ⟨r.hd,by have:=r.dp; show A.depth+1+3 * k+5 < _; lia,by have:=r.un; show A.units+3+16 * k+200 < _; lia⟩
theorem Lm {A:cX} {C:Addr} {us:List Value} {kw:List (Str×Value)}:(A.under (.builtin "type.__call__" ⟨.ref C :: us,kw⟩)).depth=A.depth+1:=by
 first | rfl | simp [P5,Code.weight,Code.isCreation,Code.isGuard,Code.isCaller,Code.frames,TF,guardIds]
theorem Ll {A:cX} {C:Addr} {us:List Value} {kw:List (Str×Value)}:(A.under (.builtin "type.__call__" ⟨.ref C :: us,kw⟩)).units=A.units+1:=by
 first | rfl | simp [P5,Code.cUnits,Code.frames,TF]
theorem jI.make {k:Nat} {A:cX} (r:jI (k+1) A) (C:Addr) (us:List Value) (kw:List (Str×Value)):jI k (A.under (.builtin "type.__call__" ⟨.ref C :: us,kw⟩)) :=
 ⟨r.hd,by have:=r.dp; rw [Lm]; lia,by have:=r.un; rw [Ll]; lia⟩
theorem jI.depth{k:Nat}{A:cX}(r:jI k A):A.depth < recursionLimit:=by have:=r.dp; lia
theorem jI.units{k:Nat}{A:cX}(r:jI k A):A.units+64 < cLine:=by have:=r.un; lia
theorem jI.KC{k:Nat}{A:cX}(r:jI k A):A.units < cLine:=by have:=r.un; lia
abbrev Sp:=List V->Hp->VK->XK->Prop
abbrev Qk:=List Env->Hp->ao->XK->Value->ao->Prop
structure JP(P:bx)(w:World)(K:ag)(mg:Str->Option Value)(base:Heap)(A:cX)(outer:List Env)(s:ao)(H:Hp):Prop where
 frames:A.frames=some outer
 mod:Mod K mg base
 bs:∀ b o,base.get? b=some o->s.heap.get? b=some o/\H b=none
 Qf:base.objs.size<=s.heap.objs.size
 xr:s.heap.FunFrames base outer
 SH:∀ b∈o4 outer,H b=none
 cO:sL P w H s.heap
 bare:Bb s.gens
def CE(outer:List Env)(P:bx)(w:World)(H:Hp)(s:ao)(Q:VK)(u:Value)(s':ao):Prop :=
 ∃ v H',s'.os=s.os/\Bb s'.gens/\Un (o4 outer) [] H H' s.heap s'.heap/\sL P w H' s'.heap/\RelV v u/\Q v H'
def CR(CX:Qk)(outer:List Env)(P:bx)(w:World)(H:Hp)(s:ao)(Q:VK)(E:XK)(r:Result)(s':ao):Prop :=
 match r with
 | .ok (.ret u)=>CE outer P w H s Q u s'
 | .ok _=>False
 | .error e=>CX outer H s E e s'
structure fU(P:bx)(w:World)(K:ag)(mg:Str->Option Value)(base:Heap)(CX:Qk)(k:Nat)(f:Addr)(fd:aH)(ps:List Str)(sp:Sp):Prop where
 len:∀ vs H Q E,sp vs H Q E->vs.length=ps.length
 run:∀ (A:cX) (outer:List Env) (s:ao) (H:Hp) (args:Args) (us:List Value) (vs:List V) (Q:VK) (E:XK),jI k A->JP P w K mg base A outer s H->BindsTo s fd args (ps.zip us)->Vals vs us->sp vs H Q E ->
  pS (model P w) A (.call (.ref f) args) (CR CX outer P w H s Q E) s
theorem JP.make{P:bx}{w:World}{K:ag}{mg:Str->Option Value}{base:Heap}{A:cX}{outer:List Env}{s:ao}{H:Hp}(e:JP P w K mg base A outer s H)(C:Addr)(us:List Value)(kw:List (Str×Value)) :
  JP P w K mg base (A.under (.builtin "type.__call__" ⟨.ref C :: us,kw⟩)) outer s H:=⟨by first | exact e.frames | (simpa [P5,Code.envs,TF,pushEnvs] using e.frames),e.mod,e.bs,e.Qf,e.xr,e.SH,e.cO,e.bare⟩
section
variable {X:Cx} {pins:List (Addr×Obj)} {σ:St} {H:Hp} {s s':ao}
theorem Inv.YL(I:Inv X pins σ H s):JP X.prog X.w X.K X.mg X.base X.A X.stack s H :=
 ⟨I.ok.frames,I.ok.mod,I.bs,cE I.ok.Qf I.sz,I.stack,I.AG,I.cO,I.bare⟩
theorem Inv.after{Q:VK}{u:Value}(I:Inv X pins σ H s)(h:CE X.stack X.prog X.w H s Q u s'):EP X pins σ Q u s':=by
 obtain⟨v,H',os,bare,un,cO,r,q⟩:=h;obtain⟨hh,g,d,t,Z6⟩:=s';obtain rfl:Z6=s.os:=os;exact⟨v,H',I.call (h':=hh) (g':=g) (d':=d) (t':=t) (ch:=[]) un cO bare (fun b z=>absurd z (by simp)),r,q⟩
end
def Binds(K:ag)(fd:aH)(ps:List Str)(ds:List Value):Prop :=
 ∀ (s:ao) (us:List Value),K.In s.heap->(us++ds).length=ps.length->BindsTo s fd ⟨us,[]⟩ (ps.zip (us++ds))
theorem Binds.all{K:ag}{fd:aH}{ps:List Str}(h:∀ us:List Value,us.length=ps.length->bindArgs fd ⟨us,[]⟩=pure (ps.zip us)):Binds K fd ps []:=fun s us _ hl=>by
 rw [bV] at hl ⊢;exact .of_eq (h us hl)
def Passes(CX:Qk)(X:Cx)(E:XK):Prop:=∀ (pins:List (Addr×Obj)) (σ:St) (H:Hp) (s:ao) (e:Value) (s':ao),Inv X pins σ H s->CX X.stack H s E e s'->X.xe e s'
section
variable {X:Cx} {CX:Qk} {k:Nat} {f C:Addr} {fd:aH} {ps:List Str} {sp:Sp} {dvs:List V} {ds:List Value} {E:XK} {x m:Str} {p pos apos:Pos} {e o:Expr} {es:List Expr} {ta:TE} {t:TA}
theorem Q4{pins:List (Addr×Obj)}{σ:St}{H:Hp}{s:ao}{Q:VK}{us:List Value}{vs:List V}(F:fU X.prog X.w X.K X.mg X.base CX k f fd ps sp)(hr:jI k X.A)(hb:Binds X.K fd ps ds)(hd:Vals dvs ds)(hx:Passes CX X E)
  (I:Inv X pins σ H s) (r:Vals vs us) (h:sp (vs++dvs) H Q E):wpAny (model X.prog X.w) X.A (call (.ref f) us) (EP X pins σ Q) X.xe s:=by
 have r2:Vals (vs++dvs) (us++ds):=r.append hd;have hl:(us++ds).length=ps.length:=by rw [<-r2.length]; exact F.len _ _ _ _ h
 refine pQ (kK (F.run X.A X.stack s H ⟨us,[]⟩ (us++ds) (vs++dvs) Q E hr I.YL (hb s us I.qu hl) r2 h) fun r s' hq=>?_);cases r with
 | error e=>exact hx pins σ H s e s' I hq
 | ok fl =>
  cases fl with
  | ret u=>exact I.after hq
  | next=>exact bO hq
  | brk=>exact bO hq
  | cont=>exact bO hq
end
structure cG(N P:List Str)(sc:Scope):Prop where
 kind:sc.kind=.function
 co:sc.isCoroutine=false
 gen:sc.isGenerator=false
 nd:N.Nodup
 pre:N.take P.length=P
 par:∀ x∈P,sc.names.lookup x=some .local\/sc.names.lookup x=some .cell
 XM:∀ y∈sc.names,y.2≠.free
theorem Eo{kindOf:Str->Option uZ}{x:Str}:∀ {binds:List (Str×Value)} {m:Str->Option Value},(∀ v,(x,v)∉binds)->bindL kindOf binds m x=m x
 | [],_,_=>rfl
 | (n,v) :: r,m,h=>by
  unfold bindL;rw [Eo fun w hw=>h w (aM _ hw)];split
  ·have:x≠n:=by rintro rfl; exact h v bH
   simp [this]
  ·rfl
theorem Es{kindOf:Str->Option uZ}{x:Str}:∀ {binds:List (Str×Value)} {m:Str->Option Value},(∀ v,(x,v)∉binds)->bindC kindOf binds m x=m x
 | [],_,_=>rfl
 | (n,v) :: r,m,h=>by
  unfold bindC;rw [Es fun w hw=>h w (aM _ hw)];split
  ·rfl
  ·have:x≠n:=by rintro rfl; exact h v bH
   simp [this]
theorem Ep{kindOf:Str->Option uZ}{x:Str}{v:Value}:∀ {P:List Str} {vs:List Value} {i:Nat} {m:Str->Option Value},P.Nodup->P[i]?=some x->vs[i]?=some v->kindOf x=some .local ->
  bindL kindOf (P.zip vs) m x=some v
 | [],_,_,_,_,h,_,_=>by simp at h
 | _ :: _,[],_,_,_,_,h,_=>by simp at h
 | p :: P,w :: vs,0,m,nd,h1,h2,hk=>by
  simp at h1 h2; subst h1; subst h2;show bindL kindOf ((p,w) :: P.zip vs) m p=_;unfold bindL;rw [Eo fun v hv=>(List.nodup_cons.mp nd).1 (JV hv).1,if_pos hk];simp
 | p :: P,w :: vs,i+1,m,nd,h1,h2,hk=>by
  show bindL kindOf ((p,w) :: P.zip vs) m x=_;unfold bindL;exact Ep (i:=i) (List.nodup_cons.mp nd).2 (by simpa using h1) (by simpa using h2) hk
theorem Eu{kindOf:Str->Option uZ}{x:Str}{v:Value}:∀ {P:List Str} {vs:List Value} {i:Nat} {m:Str->Option Value},P.Nodup->P[i]?=some x->vs[i]?=some v->kindOf x≠some .local ->
  bindC kindOf (P.zip vs) m x=some v
 | [],_,_,_,_,h,_,_=>by simp at h
 | _ :: _,[],_,_,_,_,h,_=>by simp at h
 | p :: P,w :: vs,0,m,nd,h1,h2,hk=>by
  simp at h1 h2; subst h1; subst h2;show bindC kindOf ((p,w) :: P.zip vs) m p=_;unfold bindC;rw [Es fun v hv=>(List.nodup_cons.mp nd).1 (JV hv).1,if_neg hk];simp
 | p :: P,w :: vs,i+1,m,nd,h1,h2,hk=>by
  show bindC kindOf ((p,w) :: P.zip vs) m x=_;unfold bindC;exact Eu (i:=i) (List.nodup_cons.mp nd).2 (by simpa using h1) (by simpa using h2) hk
def start(N:List Str)(vs:List V):St:=vs.map some++bE (N.length - vs.length) none
def yU(CX:Qk)(P:bx)(w:World)(K:ag)(mg:Str->Option Value)(base:Heap)(N:List Str)(qual:Str)(scope:Scope)(f:Addr)(cd:Value)(A:cX)(outer:List Env)(s:ao)(H:Hp)(E:XK):Cx where
 prog:=P
 w:=w
 K:=K
 mg:=mg
 base:=base
 A:=A.deeper (ze qual scope s.heap.objs.size f cd)
 N:=N
 jc:=s
 PR:=H
 env:=ze qual scope s.heap.objs.size f cd
 outer:=outer
 stack:=ze qual scope s.heap.objs.size f cd :: outer
 ex:=[]
 calm:=true
 fn:=fun _=>true
 pn:=[]
 xe:=fun e s'=>wpAny (model P w) (A.deeper (ze qual scope s.heap.objs.size f cd)) (leaving (ze qual scope s.heap.objs.size f cd) e) (fun _ UO=>CX outer H s E e UO) (fun e' UO=>CX outer H s E e' UO) s'
theorem Jw{sc:Scope}{n:Nat}{x:Str}(h:sc.names.lookup x=some .cell):∃ c,(cellsFrom n sc.names []).lookup x=some c:=by
 have q:=MD sc.names n [] (.inl h);exact Option.isSome_iff_exists.mp q
theorem Pd{CX:Qk}{P:bx}{w:World}{K:ag}{mg:Str->Option Value}{base:Heap}{N ps:List Str}{qual:Str}{scope:Scope}{f:Addr}{cd:Value}{A:cX}{outer:List Env}{s s1:ao}{H:Hp}{E:XK}{us:List Value}{vs:List V}
  (S:cG N ps scope) (hd:A.handled=none) (e0:JP P w K mg base A outer s H) (hl:vs.length=ps.length) (r:Vals vs us)
  (x:InCallC s s.heap.objs.size (bindL (ze qual scope s.heap.objs.size f cd).kindOf (ps.zip us) fun _=>none) (cellsFrom (s.heap.objs.size+1) scope.names []) (bindC (ze qual scope s.heap.objs.size f cd).kindOf (ps.zip us) fun _=>none) s1) :
  Inv (yU CX P w K mg base N qual scope f cd A outer s H E) [] (start N vs) H s1:=by
 have yc:ps.length<=N.length:=by have:=congrArg gO S.pre; rw [dH] at this; lia
 obtain⟨h1,tk,rfl,hk⟩:=x.done;have noA:∀ b:Addr,b∉(yU CX P w K mg base N qual scope f cd A outer s H E).ex:=fun b z=>absurd (show b∈([]:List Addr) from z) (by simp);refine⟨⟨e0.mod,S.kind,rfl,rfl,aK _,fun y z c h1 h2=>?_,fun y hy=>?_,fun y c _ h=>?_,fun _=>hd,Around.frames_deeper e0.frames,.inr ⟨rfl,rfl⟩,fun b z=>absurd z (noA b),e0.bs,e0.Qf,fun b _ _=>noA b,fun b z=>absurd z (noA b),e0.xr,e0.SH⟩,
  rfl,e0.bare,Un.kept hk,⟨_,x.toInCall.ns,fun i y v h1 h2 h3=>?_⟩,fun y c h=>⟨_,x.cell y c h⟩,e0.cO.fresh (aK _),fun y c h=>?_,fun p hp=>absurd (show p∈([]:List (Addr×Obj)) from hp) (by simp),e0.cO.kept hk,?_⟩
 ·exact name_of_addr x.apart (jb h1) (jb h2)
 ·have hy:scope.names.lookup y=some .cell\/scope.names.lookup y=some .free:=hy;rcases hy with hy | hy
  ·exact Jw hy
  ·exact absurd rfl (S.XM _ (jb hy))
 ·exact GY (x.above y c (jb h))
 ·have hi:i < vs.length:=by
   unfold start at h2;by_cases hi:i < vs.length
   ·exact hi
   ·rw [bA (by simpa using hi)] at h2;rw [mL] at h2;split at h2 <;> cases h2
  have ha:vs[i]?=some v:=by
   unfold start at h2;rw [cm (by simpa using hi),bP] at h2;cases e:vs[i]? with
   | none=>rw [e] at h2; cases h2
   | some a=>rw [e] at h2; cases h2; rfl
  obtain⟨u,hu,rv⟩:=r.get ha;have hp:ps[i]?=some y:=by
   rw [<-S.pre,uh (by lia)]; exact h1
  have ndP:ps.Nodup:=by rw [<-S.pre]; exact S.nd.sublist (List.take_sublist _ _)
  refine⟨u,rv,?_⟩;rcases S.par y (cH hp) with k | k
  ·exact .inl ⟨k,Ep ndP hp hu k⟩
  ·obtain⟨c,e⟩:=Jw (n:=s.heap.objs.size+1) k;refine .inr ⟨.inl k,c,e,?_⟩;have q:=x.cell y c e;rw [Eu ndP hp hu (by show scope.names.lookup y≠_; rw [k]; decide)] at q;exact q
 ·exact e0.cO.fresh (GY (x.above y c (jb h)))
 ·unfold start;show _=N.length;rw [aE,ai,gE];lia
theorem WK{CX:Qk}{P:bx}{w:World}{K:ag}{mg:Str->Option Value}{base:Heap}{k:Nat}{f:Addr}{name qual:Str}{params:Arguments}{body:List Stmt}{scope:Scope}{dV kV doc pm lD ct oc:Value}{an od:Option Addr}
  {Nd:Array (Option Value)} {N ps:List Str} {sp:Sp} (lk:K.lookup f=some ⟨oc,od,.func (jL name qual params body scope dV kV doc pm an lD ct),Nd⟩) (vT:Ho K lD qual=true) (S:cG N ps scope)
  (len:∀ vs H Q E,sp vs H Q E->vs.length=ps.length)
  (IH:∀ (A:cX) (outer:List Env) (s:ao) (H:Hp) (vs:List V) (Q:VK) (E:XK),jI k (A.deeper (ze qual scope s.heap.objs.size f lD))->sp vs H Q E ->
   ∃ t,T8 (yU CX P w K mg base N qual scope f lD A outer s H E) body t/\t { nx:=fun _ H'=>Q .cR H',rt:=Q } (start N vs) H) :
  fU P w K mg base CX (k+1) f (jL name qual params body scope dV kV doc pm an lD ct) ps sp:=by
 refine⟨len,fun A outer s H args us vs Q E hr e0 hb r J0=>?_⟩;have hl:=len _ _ _ _ J0;have KX:K.In s.heap:=e0.mod.Np.keeps fun b o e=>(e0.bs b o e).1;have lim:s.heap.NoLimit:=e0.mod.nolimit.keeps fun b o e=>(e0.bs b o e).1;have D7:∀ y∈ps.zip us,scope.names.lookup y.1=some .local\/(scope.names.lookup y.1=some .cell/\((cellsFrom (s.heap.objs.size+1) scope.names []).lookup y.1).isSome=true):=fun ⟨n,v⟩ hy=>by
  rcases S.par n (JV hy).1 with q | q
  ·exact .inl q
  ·exact .inr ⟨q,MD _ _ _ (.inl q)⟩
 refine codeAny_call_function hr.depth (KX _ _ lk) rfl S.co S.gen rfl (PySem.W.codeRec_of KX vT) (hb _ _ _ _ ?_);refine wpAny_newFunctionEnv_cells S.kind D7 fun env he s1 x=>?_;subst he;refine⟨lim.keeps x.toInCall.keep,codeAny_func ?_⟩;obtain⟨t,ht,hq⟩:=IH A outer s H vs Q E (hr.deeper _) J0;have I:Inv (yU CX P w K mg base N qual scope f lD A outer s H E) [] (start N vs) H s1:=Pd S hr.hd e0 hl r x;refine eY (ht [] s1 (start N vs) H _ I hq) (fun fl s' hs=>?_) fun e s' hs=>hs;have fin:∀ {kG:St} {H':Hp} {v:V} {u:Value},Inv (yU CX P w K mg base N qual scope f lD A outer s H E) [] kG H' s'->RelV v u->Q v H'->CE outer P w H s Q u s' :=
  fun {kG H' v u} J rv q=>⟨v,H',J.os,J.bare,J.base,J.cO,rv,q⟩
 cases fl with
 | ret u =>
  obtain⟨v,kG,H',J,rv,q⟩:=hs;exact fin J rv q
 | next =>
  obtain⟨kG,H',J,q⟩:=hs;exact fin (v:=V.cR) (u:=c8) J rfl q
 | brk =>
  obtain⟨_,_,_,q⟩:=hs;exact bO q
 | cont =>
  obtain⟨_,_,_,q⟩:=hs;exact bO q
end L2
namespace HT
open PySem PyProof.Rows
def lexLt:List Int->List Int->Bool
 | [],[]=>false
 | [],_ :: _=>true
 | _ :: _,[]=>false
 | x :: xs,y :: ys=>if x=y then lexLt xs ys else decide (x < y)
theorem Ls(x y:Int)(xs ys:List Int):lexLt (x :: xs) (y :: ys)=if x=y then lexLt xs ys else decide (x < y):=rfl
theorem CY:lexLt [] []=false:=rfl
theorem BR(y:Int)(ys:List Int):lexLt [] (y :: ys)=true:=rfl
theorem BS(x:Int)(xs:List Int):lexLt (x :: xs) []=false:=rfl
theorem SX(A:cX)(s:ao)(a:Int)(t:Tok)(c:Int)(u:Tok):∃ e,SeqAt.EqAt A s (.int a t) (.int c u) e/\(e=true↔a=c) :=
 ⟨(a == c),SeqAt.EqAt.int_int a t c u,by simp⟩
theorem Bt(A:cX)(s:ao)(a:Int)(t:Tok)(c:Int)(u:Tok)(prog:bx)(w:World)(E:Value->ao->Prop)(Q:Value->ao->Prop)(h:Q (.bool (decide (a < c))) s) :
  wpAny (model prog w) A (sS .Lt (.int a t) (.int c u)) Q E s :=
 (PyProof.Rows.lt_int h:wpAny (model prog w) A (dU .Lt (.int a t) (.int c u)) Q E s)
section
open PySem.SeqAt
open PySem.AutoSeq1 (wpAny_loadPart')
open PySem.MeetsSeq PySem.MeetsSeq2 PySem.MeetsSeq3
theorem CS(l b:Addr)(items pY:Array Value)(n n2:Nat)(dd NQ:Option Addr)(sl DH:Array (Option Value))(ns ms:List Int)(hi:mR items.toList ns)(hj:mR pY.toList ms) :
  Meets (Builtin.«tuple.__lt__» ⟨[.ref l,.ref b],[]⟩)
   (fun _ R s=>s.heap.get? l=some { cls:=.type "tuple",dict:=dd,data:=.seq items n,slots:=sl }/\s.heap.get? b=some { cls:=.type "tuple",dict:=NQ,data:=.seq pY n2,slots:=DH } /\
    R (.ok (.ret (.bool (lexLt ns ms)))) s) :=
 .of_wp fun prog w A R s h=>by
  obtain⟨hp,g,d,tk,os⟩:=s; obtain⟨hl,hb,h⟩:=h;have f2:=se;have z1:items.size=ns.length:=by rw [<-hi.length]; simp
  have z2:pY.size=ms.length:=by rw [<-hj.length]; simp
  wp_walk using cF hl,cF hb,wpAny_forIn_list _ (fun rest b s'=>b.1=none/\s'=⟨hp,g,d,tk,os⟩/\∃ (vs ws:List Value) (Y9 Za:List Int),rest=vs.zip ws /\
   mR vs Y9/\mR ws Za/\Y9.length+pY.size=Za.length+items.size/\R (.ok (.ret (.bool (lexLt Y9 Za)))) ⟨hp,g,d,tk,os⟩) _
  case turn =>
   rintro⟨y,x⟩ rest b s' ⟨B5,rfl,vs,ws,Y9,Za,hz,hvi,hwi,hlen,hR⟩;cases hvi with
   | nil=>rw [List.zip_nil_left] at hz; cases hz
   | cons a t ad2 =>
    cases hwi with
    | nil=>rw [List.zip_nil_right] at hz; cases hz
    | cons c u ad1 =>
     rw [CD] at hz;injection hz with hyx hrest
     injection hyx with hy hx
     subst hy hx;rw [Ls] at hR;simp only [ah] at hlen;obtain⟨e,he,aaQ⟩:=SX A.in1 ⟨hp,g,d,tk,os⟩ a t c u;refine ae (he prog w _ _ ?_);cases e with
     | true =>
      rw [if_pos (aaQ.mp rfl)] at hR
      wp_walk
      exact⟨rfl,rfl,_,_,_,_,hrest,ad2,ad1,by lia,hR⟩
     | false =>
      rw [if_neg (fun q=>absurd (aaQ.mpr q) fL)] at hR;have hri:=Bt A.in1 ⟨hp,g,d,tk,os⟩ a t c u prog w
      wp_walk using hri
      exact⟨_,rfl,by simpa using hR⟩
  case fin =>
   rintro⟨b1,b2⟩ s' ⟨B5,rfl,vs,ws,Y9,Za,hz,hvi,hwi,hlen,hR⟩;simp only at B5;subst B5;have hv:lexLt Y9 Za=decide (items.size < pY.size):=by
    cases hvi with
    | nil =>
     cases hwi with
     | nil =>
      simp only [aq] at hlen;rw [CY];exact(decide_eq_false (by lia)).symm
     | cons c u hw =>
      simp only [aq,ah] at hlen;rw [BR];exact(decide_eq_true (by lia)).symm
    | cons a t hv =>
     cases hwi with
     | nil =>
      simp only [aq,ah] at hlen;rw [BS];exact(decide_eq_false (by lia)).symm
     | cons c u hw =>
      rw [CD] at hz;cases hz
   rw [hv] at hR
   wp_walk
   exact⟨_,rfl,by simpa [v9] using hR⟩
  case h =>
   exact⟨rfl,rfl,items.toList,pY.toList,ns,ms,rfl,hi,hj,by lia,h⟩
end
section
variable {prog:bx} {w:World} {A:cX} {E:Value->ao->Prop} {s:ao}
theorem BK{l b:Addr}{items pY:Array Value}{ns ms:List Int}{Q:Value->ao->Prop}(hl:IsTup s.heap l items)(hb:IsTup s.heap b pY)(hi:mR items.toList ns)(hj:mR pY.toList ms)
  (hu:A.units < cLine) (h:Q (.bool (lexLt ns ms)) s):wpAny (model prog w) A (dU .Lt (.ref l) (.ref b)) Q E s:=by
 obtain⟨⟨cls,dd,data,sl⟩,ho,hc,n,hd⟩:=id hl;obtain⟨⟨Tb,NQ,data2,DH⟩,D6,FY,n2,hd2⟩:=id hb;simp only at hc hd FY hd2;subst hc hd FY hd2;exact zR (op:=.Lt) ⟨_,ho,rfl⟩ ⟨_,D6,rfl⟩ ni uJ (sX _ _) (CS l b items pY n n2 dd NQ sl DH ns ms hi hj)
  ⟨ho,D6,show xY (lexLt ns ms)≠Value.notImplemented/\Q (.bool (lexLt ns ms)) s from⟨(fun x=>nomatch x),h⟩⟩ hu
theorem VX{t b:Addr}{vs ws:List Value}{Q:Value->ao->Prop}(ht:IsTup s.heap t vs.toArray)(hb:IsTup s.heap b ws.toArray)(hv:vs≠[])
  (h1:ws=[]->Q (.ref t) s) (h2:ws≠[]->Q (.ref s.heap.objs.size) { s with heap:=s.heap.push { cls:=.type "tuple",data:=.seq (vs++ws).toArray } })
  (hsz:vs.length+ws.length<=bg):wpAny (model prog w) A (km .Add (.ref t) (.ref b)) Q E s:=by
 obtain⟨⟨cls,dd,data,sl⟩,ho,hc,n,hd⟩:=id ht;obtain⟨⟨Tb,NQ,data2,DH⟩,D6,FY,n2,hd2⟩:=id hb;simp only at hc hd FY hd2;subst hc hd FY hd2;have e:vs.toArray++ws.toArray=(vs++ws).toArray:=by simp
 by_cases hw:ws=[]
 ·exact concat_meets ⟨_,ho,rfl⟩ ⟨_,D6,rfl⟩ noFill_tuple_add seq_tuple_add ME Ku (JU _ _)
   (tuple_addW1 t b vs.toArray ws.toArray n n2 dd NQ sl DH (by simpa using hv) (by simp [hw])) ⟨ho,D6,h1 hw⟩
 ·refine concat_meets ⟨_,ho,rfl⟩ ⟨_,D6,rfl⟩ noFill_tuple_add seq_tuple_add ME Ku (JU _ _)
   (tuple_addW2 t b vs.toArray ws.toArray n n2 dd NQ sl DH (by simpa using hv) (by simpa using hw) (by rw [aS,aS]; exact hsz)) ⟨ho,D6,?_⟩
  rw [e];exact h2 hw
def jW(n d:Nat):Option Int->Nat
 | none=>d
 | some v=>if v < 0 then (v+(n:Int)).toNat else min v.toNat n
theorem Xn(n d:Nat)(hd:d<=n)(o:Option Int):jW n d o<=n:=by
 cases o with
 | none=>exact hd
 | some v =>
  show (if v < 0 then (v+(n:Int)).toNat else min v.toNat n)<=n;by_cases hv:v < 0
  ·rw [if_pos hv]; lia
  ·rw [if_neg hv]; exact Nat.min_le_right _ _
theorem NW(v:Int)(n d:Nat):(if v < 0 then max (v+(n:Int)) 0 else min v (n:Int))=((jW n d (some v):Nat):Int):=by
 show (if v < 0 then max (v+(n:Int)) 0 else min v (n:Int))=(((if v < 0 then (v+(n:Int)).toNat else min v.toNat n):Nat):Int);by_cases hv:v < 0
 ·simp only [if_pos hv]; lia
 ·simp only [if_neg hv]; lia
theorem Ms(lo hi:Option Int)(n:Nat):oX lo hi 1 (n:Int)=(((jW n 0 lo:Nat):Int),((jW n n hi:Nat):Int)):=by
 have h1:¬ ((1:Int) < 0):=by lia
 unfold oX;simp only [h1,if_false];refine Prod.ext ?_ ?_
 ·cases lo with
  | none=>rfl
  | some v=>exact NW v n 0
 ·cases hi with
  | none=>rfl
  | some v=>exact NW v n n
theorem K6(i j:Nat):jN (i:Int) (j:Int) 1=j - i:=by
 unfold jN;have h1:(1:Int) > 0:=by lia
 simp only [h1,if_true,Int.ediv_one];split <;> lia
theorem Bj{v:Value}{o:Option Int}{Q:Option Int->ao->Prop}(p:IsPart v o)(h:Q o s):wpAny (model prog w) A (Builtin.Slice.slicePartIndex v) Q E s:=by
 cases p with
 | none=>exact slicePart_none h
 | int i t=>exact slicePart_int h
theorem yq{sl:Addr}{vl vu:Value}{lo hi:Option Int}{n:Nat}{Q:Int×Int×Nat->ao->Prop}(hs:s.heap.IsSliceOf sl vl vu .none)(pl:IsPart vl lo)(pu:IsPart vu hi)
  (h:Q (((jW n 0 lo:Nat):Int),1,jW n n hi - jW n 0 lo) s):wpAny (model prog w) A (AE (.ref sl) (pure (n:Int))) Q E s:=by
 obtain⟨os,hos,hcs,hds⟩:=id hs;unfold AE Builtin.Slice.sliceFields;refine ae (ae (pP hos hds (x:=vl) rfl (ae (pP hos hds (x:=vu) rfl (ae (pP hos hds (x:=.none) rfl (au ?_)))))));refine ae (slicePart_none ?_);show wpAny _ _ (if ((1:Int) == 0)=true then _ else _) _ _ s;rw [if_neg (by decide)];refine ae (Bj pl (ae (Bj pu (ae (au ?_)))));show wpAny _ _ (match oX lo hi 1 (n:Int) with | (lo,hi)=>pure (lo,(1:Int),jN lo hi 1)) _ _ s;rw [Ms lo hi n];show wpAny _ _ (pure (((jW n 0 lo:Nat):Int),(1:Int),jN ((jW n 0 lo:Nat):Int) ((jW n n hi:Nat):Int) 1)) _ _ s;rw [K6];exact au h
theorem Rn(xs:Array Value)(i k:Nat):((cA k).filterMap fun (m:Nat)=>xs[((i:Int)+(m:Int) * 1).toNat]?).toArray=((xs.toList.drop i).take k).toArray:=by
 have e:(fun (m:Nat)=>xs[((i:Int)+(m:Int) * 1).toNat]?)=fun m=>xs[i+m]?:=by
  funext m;have:((i:Int)+(m:Int) * 1).toNat=i+m:=by lia
  rw [this]
 rw [e];have:=pick_run xs i k;rw [List.filterMap_map] at this;have e2:((fun x=>xs[x]?)∘fun x=>i+x)=fun m=>xs[i+m]?:=rfl;rw [e2] at this;rw [this]
theorem xp{t sl:Addr}{items:Array Value}{vl vu:Value}{lo hi:Option Int}{Q:Value->ao->Prop}(ht:IsTup s.heap t items)(hs:s.heap.IsSliceOf sl vl vu .none)(pl:IsPart vl lo)(pu:IsPart vu hi)
  (hw:¬ (jW items.size 0 lo=0/\jW items.size items.size hi=items.size))
  (h:Q (.ref s.heap.objs.size) { s with heap:=s.heap.push { cls:=.type "tuple",data:=.seq ((items.toList.drop (jW items.size 0 lo)).take (jW items.size items.size hi - jW items.size 0 lo)).toArray } })
  (hsz:items.size<=bg):wpAny (model prog w) A (Qo (.ref t) (.ref sl)) Q E s:=by
 have Nz:sizeOk (.seq ((items.toList.drop (jW items.size 0 lo)).take (jW items.size items.size hi - jW items.size 0 lo)).toArray):=by
  show ((items.toList.drop (jW items.size 0 lo)).take (jW items.size items.size hi - jW items.size 0 lo)).toArray.size<=bg;rw [aS];exact cE (cE (List.length_take_le' _ _) (by rw [ez,bS]; exact Nat.sub_le _ _)) hsz
 have hj:jW items.size items.size hi<=items.size:=Xn _ _ (aK _) hi;obtain⟨os,hos,hcs,hds⟩:=id hs;have hTs:s.TypeIs (.ref sl) "slice":=⟨os,hos,hcs⟩;unfold Qo
 try with_reducible refine du ?_
 first | refine ae (au ?_) | skip
 refine ae (wpAny_sequenceKey ht.typeIs (by decide) ?_);refine ae (ig (name:=a8 "__getitem__") ht.typeIs x8
  (fD x8 ht.typeIs entry_tuple_getitem ?_ (args_tuple_getitem _ _)))
 show wpAny _ _ (Builtin.Tuple.tupleItemsOf (.ref t) >>= _) _ _ s;refine ae (tupleItemsOf_ ht ?_);refine ae (wpAny_typeOf hTs ?_);rw [if_pos (by decide)];refine ae (yq hs pl pu ?_);have Sf:¬ ((((jW items.size 0 lo:Nat):Int) == 0&&(1:Int) == 1&&(jW items.size items.size hi - jW items.size 0 lo) == items.size)=true):=by
  intro q;rw [aI,aI] at q;have q1:((jW items.size 0 lo:Nat):Int)=0:=eq_of_beq q.1.1;have q2:jW items.size items.size hi - jW items.size 0 lo=items.size:=eq_of_beq q.2;exact hw ⟨by lia,by lia⟩
 show wpAny _ _ (if (((jW items.size 0 lo:Nat):Int) == 0&&(1:Int) == 1&&(jW items.size items.size hi - jW items.size 0 lo) == items.size)=true then _ else _) _ _ s;rw [if_neg Sf,Rn]
 first
  | exact ae (m:=j4 _) (eP (au ⟨_,rfl,au h⟩) Nz)
  | exact ae (m:=j4 _) (eP (ae (au (au ⟨_,rfl,au h⟩))) Nz)
  | exact ae (ae (m:=j4 _) (eP (au (au ⟨_,rfl,au h⟩)) Nz))
  | exact ae (ae (m:=j4 _) (eP (au ⟨_,rfl,au h⟩) Nz))
end
end HT
namespace L2
open PySem PySem.Spec PyProof.Rows
abbrev TO:=St->Hp->(Option Int->Hp->Prop)->Prop
theorem intsAre_of{ns:List Int}:∀ {us:List Value},Vals (ns.map V.int) us->mR us ns:=by
 induction ns with
 | nil=>intro us r; rw [a7] at r; cases r; exact .nil
 | cons n ns ih =>
  intro us r;rw [aB] at r;cases r with
  | cons r1 r2 =>
   obtain⟨t,e⟩:=r1;subst e;exact .cons n t (ih r2)
section
variable {X:Cx} {e:Expr} {te:TE} {lo hi:Option Expr} {tl th:TO} {pos p2:Pos}
def SlR(X:Cx)(r:V->Option Int->Option Int->Hp->VK->Prop):Prop :=
 ∀ (pins:List (Addr×Obj)) (s:ao) (σ:St) (H:Hp) (x:V) (v vl vu:Value) (lo hi:Option Int) (sl:Addr) (Q:VK),Inv X pins σ H s->RelV x v->s.heap.IsSliceOf sl vl vu .none->IsPart vl lo->IsPart vu hi->r x lo hi H Q ->
  ∃ T id,typeLookup (.type T) "__getitem__" = pure (some (.builtin id))/\s.TypeIs v T/\wpAny (model X.prog X.w) X.A (Qo v (.ref sl)) (EP X pins σ Q) X.xe s
def Ju(xs:List V)(lo hi:Option Int):List V:=(xs.drop (HT.jW xs.length 0 lo)).take (HT.jW xs.length xs.length hi - HT.jW xs.length 0 lo)
theorem zL(xs:List V)(lo hi:Option Int):(Ju xs lo hi).length<=xs.length:=by
 unfold Ju;rw [dH,ez];lia
def ac1(K:ag):V->Option Int->Option Int->Hp->VK->Prop:=fun x lo hi H Q=>∃ a xs,x=.ref a/\Cq K H a xs /\
 ¬ (HT.jW xs.length 0 lo=0/\HT.jW xs.length xs.length hi=xs.length)/\∀ p,H p=none->Q (.ref p) (upd H p (.tup (Ju xs lo hi)))
theorem Xm:SlR X (ac1 X.K):=by
 intro pins s σ H x v vl vu lo hi sl Q I rx hs pl pu h;obtain⟨a,xs,rfl,hx,hw,q⟩:=h;cases rx;obtain⟨bw,r,ht,hz⟩:=I.tuple hx;have hlen:bw.toArray.size=xs.length:=by rw [aS]; exact r.length.symm
 refine⟨"tuple",_,PyProof.Rows.slot_tuple_getitem.lookup,ht.typeIs,?_⟩;refine HT.xp ht hs pl pu (by rw [hlen]; exact hw) ?_ (by rw [hlen]; exact hz);rw [hlen];refine⟨.ref s.heap.objs.size,_,I.laid (t':=s.toks) (o:=.tup (Ju xs lo hi)) (fun b ob q=>aA _ q) (aK _) ?_,rfl,q _ (I.cO.fresh (aK _))⟩;exact⟨cE (zL xs lo hi) hz,_,(r.drop (HT.jW xs.length 0 lo)).take (HT.jW xs.length xs.length hi - HT.jW xs.length 0 lo),IsTup.new _ _⟩
def ac3(K:ag):R2:=fun x y H Q=>∃ a b ns ms,x=.ref a/\y=.ref b/\Cq K H a (ns.map V.int)/\Cq K H b (ms.map V.int)/\Q (.bl (HT.lexLt ns ms)) H
theorem XF(hu:X.A.units < cLine):Ob X (dU .Lt) (ac3 X.K):=by
 intro pins s σ H x y v u Q I rx ry h;obtain⟨a,b,ns,ms,rfl,rfl,ha,hb,q⟩:=h;cases rx;cases ry;obtain⟨bw,r1,p1,_⟩:=I.tuple ha;obtain⟨yJ,r2,p2,_⟩:=I.tuple hb;have i1:mR bw.toArray.toList ns:=intsAre_of r1;have i2:mR yJ.toArray.toList ms:=intsAre_of r2;exact HT.BK p1 p2 i1 i2 hu ⟨.bl (HT.lexLt ns ms),H,I,rfl,q⟩
def ZX(K:ag):R2:=fun x y H Q=>∃ a b xs ys,x=.ref a/\y=.ref b/\Cq K H a xs/\Cq K H b ys/\xs≠[]/\xs.length+ys.length<=bg /\
 (ys=[]->Q (.ref a) H)/\(ys≠[]->∀ p,H p=none->Q (.ref p) (upd H p (.tup (xs++ys))))
theorem Vals.FE{xs:List V}{us:List Value}(r:Vals xs us):us=[]↔xs=[]:=by
 cases r with
 | nil=>simp
 | cons _ _=>simp
theorem Vg:Ob X (km .Add) (ZX X.K):=by
 intro pins s σ H x y v u Q I rx ry h;obtain⟨a,b,xs,ys,rfl,rfl,ha,hb,hx,hz,q1,q2⟩:=h;cases rx;cases ry;obtain⟨bw,r1,p1,_⟩:=I.tuple ha;obtain⟨yJ,r2,p2,_⟩:=I.tuple hb;refine HT.VX p1 p2 (fun z=>hx (r1.FE.mp z)) (fun z=>⟨.ref a,H,I,rfl,q1 (r2.FE.mp z)⟩) (fun z=>?_) (by rw [<-r1.length,<-r2.length]; exact hz);refine⟨.ref s.heap.objs.size,_,I.laid (t':=s.toks) (o:=.tup (xs++ys)) (fun b ob q=>aA _ q) (aK _) ?_,rfl,q2 (fun w=>z (r2.FE.mpr w)) _ (I.cO.fresh (aK _))⟩;exact⟨by rw [aE]; exact hz,_,r1.append r2,IsTup.new _ _⟩
end
def Nv(n:Nat)(i:Int):Option Nat:=if 0<=i then (if i < n then some i.toNat else none) else if -(n:Int)<=i then some (i+n).toNat else none
def sI{α:Type}(xs:List α)(i:Int):Option α:=(Nv xs.length i).bind fun j=>xs[j]?
theorem Nu{n:Nat}{i:Int}{j:Nat}(h:Nv n i=some j):seqIndex? i n=some j/\j < n/\-(n:Int)<=i/\i < n:=by
 unfold Nv at h;by_cases h0:0<=i
 ·rw [if_pos h0] at h;by_cases h1:i < n
  ·rw [if_pos h1] at h;have e:i.toNat=j:=bC h;exact⟨by rw [seqIndex_of h0 h1,e],by lia,by lia,h1⟩
  ·rw [if_neg h1] at h; cases h
 ·rw [if_neg h0] at h;by_cases h1:-(n:Int)<=i
  ·rw [if_pos h1] at h;have e:(i+n).toNat=j:=bC h;exact⟨by rw [seqIndex_neg (by lia) h1,e],by lia,h1,by lia⟩
  ·rw [if_neg h1] at h; cases h
theorem N6{α:Type}{xs:List α}{i:Int}{v:α}(h:sI xs i=some v):∃ j,seqIndex? i xs.length=some j/\xs[j]?=some v/\j < xs.length/\-(xs.length:Int)<=i/\i < xs.length:=by
 unfold sI at h;cases e:Nv xs.length i with
 | none=>rw [e] at h; cases h
 | some j =>
  rw [e] at h;obtain⟨h1,h2,h3,h4⟩:=Nu e;exact⟨j,h1,h,h2,h3,h4⟩
def N9(b:Expr):Prop:=∀ o i,subscripted b false o i=operate [o,i] (Qo o i)
def IxR(X:Cx)(r:R2):Prop :=
 ∀ (value slice:Expr) (pins:List (Addr×Obj)) (s:ao) (σ:St) (H:Hp) (x y:V) (v u:Value) (Q:VK),Inv X pins σ H s->RelV x v->RelV y u->r x y H Q ->
  subscripted slice false v u=operate [v,u] (Qo v u)->wpAny (model X.prog X.w) X.A (subscriptTail value slice v u) (EP X pins σ Q) X.xe s
def MtR(X:Cx)(id:String)(r:V->List V->Hp->VK->Prop):Prop :=
 ∀ (pins:List (Addr×Obj)) (s:ao) (σ:St) (H:Hp) (x:V) (xs:List V) (v:Value) (us:List Value) (Q:VK),Inv X pins σ H s->RelV x v->Vals xs us->r x xs H Q ->
  wpAny (model X.prog X.w) X.A (call (.builtin id) (v :: us)) (EP X pins σ Q) X.xe s
section
variable {X:Cx} {a b:Expr} {ta tb:TE} {pos:Pos}
def ac5(K:ag):R2:=fun x y H Q=>∃ p xs i v,x=.ref p/\y=.int i/\y9 K H p xs/\sI xs i=some v/\Q v H
def ac4(K:ag):R2:=fun x y H Q=>∃ p xs i v,x=.ref p/\y=.int i/\Cq K H p xs/\sI xs i=some v/\Q v H
theorem Nt:IxR X (ac5 X.K):=by
 intro value slice pins s σ H x y v u Q I rx ry h hs;obtain⟨p,xs,i,z,rfl,rfl,hq,he,q⟩:=h;cases rx;obtain⟨t,rfl⟩:=ry;obtain⟨bw,r,pl,hz⟩:=I.list hq;obtain⟨j,h1,h2,h3,h4,h5⟩:=N6 he;obtain⟨w,ew,wF⟩:=r.get h2;have hl:=r.length;have hn:=BO;have fin:EP X pins σ Q w s:=⟨z,H,I,wF,q⟩;by_cases h0:0<=i
 ·have hj:i.toNat=j:=by
   rw [seqIndex_of h0 h5] at h1;exact bC h1
  exact item_listR pl.isList h0 (by lia) (by rw [hj]; simpa using ew) fin hs
 ·have hj:(i+(bw.toArray.size:Int)).toNat=j:=by
   rw [seqIndex_neg (by lia) h4] at h1;rw [aS,<-hl];exact bC h1
  exact subscriptTail_builtinR (x:=w) pl.isList.typeIs slot_list_getitem.lookup
   (wpAny_getItem_list_neg (Q:=fun r s'=>r=w/\EP X pins σ Q r s') pl.isList (by lia) (by rw [aS] <;> lia) (by lia) (by rw [hj]; simpa using ew) ⟨rfl,fin⟩) hs
theorem RU:IxR X (ac4 X.K):=by
 intro value slice pins s σ H x y v u Q I rx ry h hs;obtain⟨p,xs,i,z,rfl,rfl,hq,he,q⟩:=h;cases rx;obtain⟨t,rfl⟩:=ry;obtain⟨bw,r,pl,hz⟩:=I.tuple hq;obtain⟨j,h1,h2,h3,h4,h5⟩:=N6 he;obtain⟨w,ew,wF⟩:=r.get h2;have hl:=r.length;have hn:=BO;have fin:EP X pins σ Q w s:=⟨z,H,I,wF,q⟩;exact subscriptTail_builtinR (x:=w) pl.typeIs slot_tuple_getitem.lookup
  (getItem_tuple (j:=j) (Q:=fun r s'=>r=w/\EP X pins σ Q r s') pl (by lia) (by lia) (by rw [aS,<-hl]; exact h1) (by simpa using ew) ⟨rfl,fin⟩) hs
theorem Lj (bw:List Value) (n j:Nat) (u:Value):jJ (·.setIfInBounds j u) { cls:=.type "list",data:=.seq bw.toArray n } = { cls:=.type "list",data:=.seq (bw.set j u).toArray n }:=by
 simp [jJ]
theorem Inv.lst{pins:List (Addr×Obj)}{σ:St}{H:Hp}{s:ao}{p:Addr}{xs:List V}(I:Inv X pins σ H s)(h:H p=some (.lst xs)) :
  ∃ (bw:List Value) (n:Nat),Vals xs bw/\s.heap.get? p=some { cls:=.type "list",data:=.seq bw.toArray n }/\xs.length<=bg:=by
 obtain⟨z,bw,n,r,e⟩:=I.cO p _ h;exact⟨bw,n,r,e,z⟩
theorem Inv.XX{pins:List (Addr×Obj)}{σ:St}{H:Hp}{s:ao}{p:Addr}{xs ys:List V}{bw its':List Value}{n n':Nat}{f:Obj->Obj}(I:Inv X pins σ H s)(h:H p=some (.lst xs))
  (ho:s.heap.get? p=some { cls:=.type "list",data:=.seq bw.toArray n }) (hf:f { cls:=.type "list",data:=.seq bw.toArray n } = { cls:=.type "list",data:=.seq its'.toArray n' }) (r:Vals ys its') (hz:ys.length<=bg) (t:Nat) :
  Inv X pins σ (upd H p (.lst ys)) { s with heap:=s.heap.update p f,toks:=t }:=by
 have e:(s.heap.update p f).get? p=some { cls:=.type "list",data:=.seq its'.toArray n' }:=by
  rw [dQ f ho (by rw [hf] <;> rfl),hf]
 refine I.write (x:=p) (e:=p) (by rw [h]; trivial) (.inl rfl) (fun b u hb q=>(cN _ _ (jz hb)).trans q) ⟨_,e⟩ ?_;exact⟨hz,its',n',r,e⟩
def ZU:V->V->V->Hp->(Hp->Prop)->Prop:=fun o i v H Q=>∃ p xs k j,o=.ref p/\i=.int k/\H p=some (.lst xs)/\Nv xs.length k=some j/\Q (upd H p (.lst (xs.set j v)))
theorem set_list:ae1 X ZU:=by
 intro pins s σ H o i v ov iv u Q I ro ri rv h;obtain⟨p,xs,k,j,rfl,rfl,hp,hj,q⟩:=h;cases ro;obtain⟨t,rfl⟩:=ri;obtain⟨bw,n,r,ho,hz⟩:=I.lst hp;obtain⟨h1,h2,h3,h4⟩:=Nu hj;have hl:=r.length;have hn:=BO;have I':Inv X pins σ (upd H p (.lst (xs.set j v))) { s with heap:=s.heap.update p (jJ (·.setIfInBounds j u)) } :=
  I.XX hp ho (Lj bw n j u) (r.set rv j) (by rw [dJ]; exact hz) s.toks
 by_cases h0:0<=k
 ·have hk:k.toNat=j:=by
   rw [seqIndex_of h0 h4] at h1;exact bC h1
  exact PySem.W.ki_setAt ho h0 (by lia) (by rw [aS,<-hl]; exact h4) (by rw [hk]; exact⟨_,I',q⟩)
 ·have hk:(k+(bw.toArray.size:Int)).toNat=j:=by
   rw [seqIndex_neg (by lia) h3] at h1;rw [aS,<-hl];exact bC h1
  exact PySem.W.ki_setBack ho (by lia) (by rw [aS,<-hl]; exact h3) (by lia) (by rw [hk]; exact⟨_,I',q⟩)
theorem Fd(lo hi:Option Int)(n:Nat):(sR lo hi none n).1=((HT.jW n 0 lo:Nat):Int)/\(sR lo hi none n).2.1=((HT.jW n n hi:Nat):Int)/\(sR lo hi none n).2.2=1:=by
 refine⟨?_,?_,rfl⟩
 ·cases lo with
  | none=>simp [sR,HT.jW]
  | some i =>
   simp only [sR,HT.jW,Option.getD_none,show (1:Int) > 0 by decide,if_true];by_cases h:i < 0
   ·simp only [h,if_true] <;> lia
   ·simp only [h,if_false] <;> lia
 ·cases hi with
  | none=>simp [sR,HT.jW]
  | some i =>
   simp only [sR,HT.jW,Option.getD_none,show (1:Int) > 0 by decide,if_true];by_cases h:i < 0
   ·simp only [h,if_true] <;> lia
   ·simp only [h,if_false] <;> lia
theorem CU(bw:List Value)(lo hi:Option Int):slicePick bw.toArray lo hi none=((bw.drop (HT.jW bw.length 0 lo)).take (HT.jW bw.length bw.length hi - HT.jW bw.length 0 lo)).toArray:=by
 obtain⟨h1,h2,h3⟩:=Fd lo hi bw.toArray.size;unfold slicePick;rw [h1,h2,h3];simp only [sliceRange_one,pick_run,aS] <;> rfl
def ac2(K:ag):V->Option Int->Option Int->Hp->VK->Prop:=fun x lo hi H Q=>∃ a xs,x=.ref a/\y9 K H a xs/\∀ p,H p=none->Q (.ref p) (upd H p (.lst (Ju xs lo hi)))
theorem MT:SlR X (ac2 X.K):=by
 intro pins s σ H x v vl vu lo hi sl Q I rx hs pl pu h;obtain⟨a,xs,rfl,hx,q⟩:=h;cases rx;obtain⟨bw,r,ht,hz⟩:=I.list hx;have hlen:=r.length;refine⟨"list",_,slot_list_getitem.lookup,ht.isList.typeIs,?_⟩;refine wpAny_getItem_list_slice ht.isList hs pl pu .none (by simp) ?_ (by rw [aS] <;> lia);rw [CU,<-hlen];refine⟨.ref s.heap.objs.size,_,I.laid (t':=s.toks) (o:=.lst (Ju xs lo hi)) (fun b ob q=>aA _ q) (aK _) ?_,rfl,q _ (I.cO.fresh (aK _))⟩;exact⟨cE (zL xs lo hi) hz,_,0,(r.drop (HT.jW xs.length 0 lo)).take (HT.jW xs.length xs.length hi - HT.jW xs.length 0 lo),a5 _ rfl⟩
def tyV(K:ag)(T:String)(x:V)(H:Hp):Prop:=match x with
 | .str _=>T = "str"
 | .int _=>T = "int"
 | .ref p=>(T = "list"/\∃ xs,y9 K H p xs)\/(T = "tuple"/\∃ o,K.lookup p=some o/\o.cls=.type "tuple"/\o.dict=none) \/
   (T = "dict"/\((∃ bo,H p=some (.dK bo))\/∃ bo,H p=some (.dT bo)))\/(T = "set"/\∃ S n,H p=some (.set S n))
 | _=>False
theorem KD{pins:List (Addr×Obj)}{σ:St}{H:Hp}{s:ao}{T:String}{x:V}{v:Value}(I:Inv X pins σ H s)(r:RelV x v)(ty:tyV X.K T x H) :
  s.TypeIs v T/\∀ a,v=.ref a->∃ ob,s.heap.get? a=some ob/\ob.dict=none:=by
 cases x with
 | str z =>
  obtain⟨t,rfl⟩:=r;cases (show T = "str" from ty);exact⟨Kh s z t,fun _ e=>nomatch e⟩
 | int i =>
  obtain⟨t,rfl⟩:=r;cases (show T = "int" from ty);exact⟨typeIs_int s i t,fun _ e=>nomatch e⟩
 | ref p =>
  cases r;rcases ty with ⟨rfl,xs,hq⟩ | ⟨rfl,o,hk,hc,hd⟩ | ⟨rfl,hk⟩ | ⟨rfl,S,n,hk⟩
  ·obtain⟨bw,_,pl,_⟩:=I.list hq;refine⟨pl.isList.typeIs,fun a e=>?_⟩;cases e;obtain⟨o,n,e,c,hd,_⟩:=pl;exact⟨o,e,hd⟩
  ·refine⟨⟨o,I.qu p o hk,hc⟩,fun a e=>?_⟩;cases e;exact⟨o,I.qu _ o hk,hd⟩
  ·have z:∃ o,s.heap.get? p=some o/\o.ExactDict:=by
    rcases hk with ⟨bo,hk⟩ | ⟨bo,hk⟩
    ·obtain⟨_,_,_,_,o,_,_,e,ex,_⟩:=I.cO p _ hk;exact⟨o,e,ex⟩
    ·obtain⟨_,_,_,_,o,_,_,e,ex,_⟩:=I.cO p _ hk;exact⟨o,e,ex⟩
   obtain⟨o,e,ex⟩:=z;refine⟨⟨o,e,ex.1⟩,fun a e2=>?_⟩;cases e2;exact⟨o,e,ex.2.1⟩
  ·obtain⟨o,_,_,_,e,ex,_⟩:=I.cO p _ hk;refine⟨⟨o,e,ex.1⟩,fun a e2=>?_⟩;cases e2;exact⟨o,e,ex.2.1⟩
 | _=>exact bO ty
variable {o e:Expr} {es:List Expr} {to:TE} {t:TA} {name:Str} {apos Cn:Pos} {T id:String} {r:V->List V->Hp->VK->Prop}
/- xs.append(e),list.index on a aao tuple .. are MtR facts of 06m -/
end
def MtM(X:Cx)(id:String)(r:V->List V->Hp->VK->Prop):Prop :=
 ∀ (pins:List (Addr×Obj)) (s:ao) (σ:St) (H:Hp) (x:V) (xs:List V) (v:Value) (us:List Value) (Q:VK),Inv X pins σ H s->RelV x v->Vals xs us->r x xs H Q ->
  wpAny (model X.prog X.w) X.A (call (.builtin id) (v :: us)) (EP X pins σ Q) X.xe s
theorem Vals.one:∀ {x:V} {us:List Value},Vals [x] us->∃ u,us=[u]/\RelV x u:=by
 intro x us h;cases h with
 | cons r t=>cases t; exact⟨_,rfl,r⟩
section
variable {X:Cx} {pins:List (Addr×Obj)} {σ:St} {H:Hp} {s:ao} {l b:Addr} {xs ys zs:List V}
theorem Inv.XZ{bw its':List Value}{n:Nat}{f:Array Value->Array Value}{t':Nat}(I:Inv X pins σ H s)(hH:H l=some (.lst xs))
  (e:s.heap.get? l=some { cls:=.type "list",data:=.seq bw.toArray n }) (hf:f bw.toArray=its'.toArray) (hv:Vals ys its') (hz:ys.length<=bg) :
  Inv X pins σ (upd H l (.lst ys)) { s with heap:=s.heap.update l (jJ f),toks:=t' }:=by
 have q:=PySem.IsL.update e f;rw [hf] at q;refine I.write (x:=l) (e:=l) (by rw [hH]; exact trivial) (.inl rfl) (fun b' u hb hu=>(cN s.heap (jJ f) (jz hb)).trans hu) ⟨_,q⟩ ?_;exact⟨hz,its',_,hv,q⟩
theorem Inv.adI{bw:List Value}{t':Nat}(I:Inv X pins σ H s)(hv:Vals ys bw)(hz:ys.length<=bg) :
  Inv X pins σ (upd H s.heap.objs.size (.lst ys)) { s with heap:=s.heap.push { cls:=.type "list",data:=.seq bw.toArray },toks:=t' } :=
 I.laid (fun _ _ q=>aA _ q) (aK _) ⟨hz,bw,0,hv,a5 _ rfl⟩
theorem Inv.XY (I:Inv X pins σ H s) (hH:H l=some (.lst xs)):xs.length<=bg/\∃ (bw:List Value) (n:Nat),Vals xs bw/\xs.length=bw.length/\s.heap.get? l=some { cls:=.type "list",data:=.seq bw.toArray n }:=by
 obtain⟨z,bw,n,r,e⟩:=I.cO l _ hH;exact⟨z,bw,n,r,r.length,e⟩
theorem RC{n:Nat}(h:n<=bg):kf n=false:=by
 unfold kf;exact decide_eq_false (by lia)
end
section
variable {X:Cx}
def U3:V->List V->Hp->VK->Prop:=fun x vs H Q=>∃ l xs y,x=.ref l/\vs=[y]/\H l=some (.lst xs)/\xs.length < bg/\Q .cR (upd H l (.lst (xs++[y])))
theorem DU:MtM X "list.append" U3:=by
 intro pins s σ H x vs v us Q I rx rv h;obtain⟨l,xs,y,rfl,rfl,hH,hz,q⟩:=h;cases rx;obtain⟨u,rfl,ru⟩:=rv.one;obtain⟨z,bw,n,r,hl,e⟩:=I.XY hH;refine CA F.slot_list_append ⟨_,e,rfl⟩ F.entry_list_append (F.args_list_append_2 _ _) (PySem.list_append l bw.toArray n u (by rw [aS]; lia)) ⟨e,?_⟩;refine⟨.cR,_,I.XZ (its':=bw++[u]) hH e (by simp) (r.append (.cons ru .nil)) ?_,rfl,q⟩;rw [aE,bf];lia
end
section
variable {κ:Type} [DecidableEq κ]
def nk(bo:List (κ×V))(k:κ):Option V:=(bo.find? fun kv=>decide (kv.1=k)).map (·.2)
def putK(bo:List (κ×V))(k:κ)(v:V):List (κ×V) :=
 if (bo.any fun kv=>decide (kv.1=k))=true then bo.map (fun kv=>if kv.1=k then (kv.1,v) else kv) else bo++[(k,v)]
theorem tm{p:κ×V}{r:List (κ×V)}{k:κ}(e:p.1=k):nk (p :: r) k=some p.2:=by simp [nk,iQ,e]
theorem tu{p:κ×V}{r:List (κ×V)}{k:κ}(e:¬ p.1=k):nk (p :: r) k=nk r k:=by simp [nk,iQ,e]
theorem Ht(k:κ):∀ bo:List (κ×V),(bo.any fun kv=>decide (kv.1=k))=(nk bo k).isSome
 | []=>rfl
 | p :: r=>by
  rw [p8];by_cases e:p.1=k
  ·simp only [tm e,decide_eq_true e,Bool.true_or,Option.isSome_some]
  ·rw [tu e,decide_eq_false e,CL]; exact Ht k r
theorem zE(bo:List (κ×V))(k:κ)(v:V):(putK bo k v).length<=bo.length+1:=by
 unfold putK;split
 ·rw [ai]; lia
 ·rw [aE,ah,aq]; lia
theorem xR.qw{o:Option V}{u:Option Value}(r:xR o u):o.isSome=u.isSome:=by
 cases o with
 | none=>cases u with
  | none=>rfl
  | some _=>exact(show False from r).elim
 | some _=>cases u with
  | none=>exact(show False from r).elim
  | some _=>rfl
theorem KV.val{bo:List (κ×V)}{vs:List (κ×Value)}(r:KV bo vs)(k:κ):xR (nk bo k) (qS vs k):=by
 unfold KV at r;induction r with
 | nil=>exact bu
 | @cons p q ps qs h t ih =>
  obtain⟨h1,h2⟩:=h;by_cases e:p.1=k
  ·have e':q.1=k:=h1.symm.trans e;have b:qS (q :: qs) k=some q.2:=by simp [qS,iQ,e']
   rw [tm e,b]; exact h2
  ·have e':¬ q.1=k:=fun z=>e (h1.trans z);have b:qS (q :: qs) k=qS qs k:=by simp [qS,iQ,e']
   rw [tu e,b]; exact ih
theorem KV.any{bo:List (κ×V)}{vs:List (κ×Value)}(r:KV bo vs)(k:κ):(bo.any fun kv=>decide (kv.1=k))=vs.any fun kv=>decide (kv.1=k):=by
 unfold KV at r;induction r with
 | nil=>rfl
 | cons h t ih=>rw [p8,p8,ih,h.1]
theorem KV.Xs{bo:List (κ×V)}{vs:List (κ×Value)}(r:KV bo vs)(k:κ){y:V}{u:Value}(ry:RelV y u) :
  KV (bo.map fun kv=>if kv.1=k then (kv.1,y) else kv) (vs.map fun kv=>if kv.1=k then (kv.1,u) else kv):=by
 unfold KV at r ⊢;induction r with
 | nil=>exact .nil
 | @cons p q ps qs h t ih =>
  rw [aB,aB];refine .cons ?_ ih;obtain⟨h1,h2⟩:=h;by_cases e:p.1=k
  ·rw [if_pos e,if_pos (h1.symm.trans e)]; exact⟨h1,ry⟩
  ·rw [if_neg e,if_neg (fun z=>e (h1.trans z))]; exact⟨h1,h2⟩
theorem KV.put{bo:List (κ×V)}{vs:List (κ×Value)}(r:KV bo vs)(k:κ){y:V}{u:Value}(ry:RelV y u):KV (putK bo k y) (stored vs k u):=by
 unfold putK stored;rw [r.any k];by_cases e:(vs.any fun kv=>decide (kv.1=k))=true
 ·rw [if_pos e,if_pos e]; exact r.Xs k ry
 ·rw [if_neg e,if_neg e]; exact Paired.snoc r ⟨rfl,ry⟩
theorem KV.length{bo:List (κ×V)}{vs:List (κ×Value)}(r:KV bo vs):bo.length=vs.length:=lX r
end
theorem xi{P:bx}{w:World}{k:Key}{u:Value}(r:RelV (kV k) u):(gm P w).is k u=true:=by
 cases k with
 | inl i=>obtain⟨t,e⟩:=(show ∃ t,u=n5 i t from r); subst e; exact H0 P w i t
 | inr x=>obtain⟨t,e⟩:=(show ∃ t,u=gz x t from r); subst e; exact HZ P w x t
theorem D1{P:bx}{w:World}:∀ {ks:List Key} {us:List Value},Vals (ks.map kV) us->ItemsAre (gm P w) ks us
 | [],_,r=>by rw [a7] at r; cases r; exact .nil
 | k :: ks,_,r=>by
  rw [aB] at r;cases r with
  | cons h t=>exact .cons (xi h) (D1 t)
abbrev KT(H:Hp):List (List Key×V)->List (List Key×Addr×Value)->Prop:=Paired fun p q=>p.1=q.1/\H q.2.1=some (.tup (p.1.map kV))/\RelV p.2 q.2.2
theorem KT.val{H:Hp}{bo:List (List Key×V)}{xs:List (List Key×Addr×Value)}(r:KT H bo xs)(k:List Key):xR (nk bo k) ((atKey xs k).map (·.2)):=by
 induction r with
 | nil=>exact bu
 | @cons p q ps qs h t ih =>
  obtain⟨h1,_,h2⟩:=h;by_cases e:p.1=k
  ·have e':q.1=k:=h1.symm.trans e;have b:atKey (q :: qs) k=some q.2:=by simp [atKey,iQ,e']
   rw [tm e,b]; exact h2
  ·have e':¬ q.1=k:=fun z=>e (h1.trans z);have b:atKey (q :: qs) k=atKey qs k:=by simp [atKey,iQ,e']
   rw [tu e,b]; exact ih
theorem KT.Xs{H:Hp}{bo:List (List Key×V)}{xs:List (List Key×Addr×Value)}(r:KT H bo xs)(k:List Key){y:V}{u:Value}(ry:RelV y u) :
  KT H (bo.map fun kv=>if kv.1=k then (kv.1,y) else kv) (xs.map (putAt k u)):=by
 induction r with
 | nil=>exact .nil
 | @cons p q ps qs h t ih =>
  rw [aB,aB];refine .cons ?_ ih;obtain⟨h1,h2,h3⟩:=h;unfold putAt;by_cases e:p.1=k
  ·rw [if_pos e,if_pos (h1.symm.trans e)]; exact⟨h1,h2,ry⟩
  ·rw [if_neg e,if_neg (fun z=>e (h1.trans z))]; exact⟨h1,h2,h3⟩
theorem KT.put{H:Hp}{bo:List (List Key×V)}{xs:List (List Key×Addr×Value)}(r:KT H bo xs)(k:List Key){b:Addr}{y:V}{u:Value}(hb:H b=some (.tup (k.map kV)))(ry:RelV y u) :
  KT H (putK bo k y) (storedH xs k b u):=by
 have e:(bo.any fun kv=>decide (kv.1=k))=(atKey xs k).isSome:=by
  rw [Ht,(r.val k).qw,mY]
 unfold putK storedH;rw [e];by_cases q:(atKey xs k).isSome=true
 ·rw [if_pos q,if_pos q]; exact r.Xs k ry
 ·rw [if_neg q,if_neg q]; exact Paired.snoc r ⟨rfl,hb,ry⟩
theorem KT.keeps{H H':Hp}{bo:List (List Key×V)}{xs:List (List Key×Addr×Value)}(r:KT H bo xs)(ht:∀ b ys,H b=some (.tup ys)->H' b=some (.tup ys)):KT H' bo xs :=
 Paired.XT r fun _ _ z=>⟨z.1,ht _ _ z.2.1,z.2.2⟩
section
variable {P:bx} {w:World} {H:Hp} {h:Heap} {a:Addr}
theorem Wm{u:HO}(ok:sL P w H h)(e:Rd H a u):gu P w H h a u:=e.ok ok
theorem zI{bo:List (Key×V)}(ok:sL P w H h)(e:Rd H a (.dK bo)):bo.length<=bg/\(a == gF)=false/\∃ vs,KV bo vs/\h.DictOf (gm P w) a vs :=
 show gu P w H h a (.dK bo) from Wm ok e
theorem NL{bo:List (Key×V)}(ok:sL P w H h)(e:H a=some (.dK bo)):bo.length<=bg/\(a == gF)=false/\∃ vs,KV bo vs/\h.DictOf (gm P w) a vs:=zI ok (.inl e)
theorem BX{ks:List Key}(ok:sL P w H h)(e:H a=some (.tup (ks.map kV))):(Hg (gm P w)).is h ks a:=by
 obtain⟨_,bw,r,o,h1,h2,n,h3⟩:=(show gu P w H h a (.tup (ks.map kV)) from ok a _ e);exact⟨o,bw.toArray,n,h1,h2,h3,by simpa using D1 r⟩
theorem Eg{bo:List (List Key×V)}(ok:sL P w H h)(e:Rd H a (.dT bo)):bo.length<=bg/\(a == gF)=false /\
  ∃ xs,KT H bo xs/\h.DictOfH (Hg (gm P w)) a xs:=by
 obtain⟨z,y,xs,r,o,es,ep,h1,h2,h3,h4,h5⟩:=(show gu P w H h a (.dT bo) from Wm ok e);refine⟨z,y,xs,r,o,es,ep,h1,h2,h3,h4,fun x hx=>?_,h5⟩;have all:∀ {l:List (List Key×V)} {m:List (List Key×Addr×Value)},KT H l m->∀ x∈m,(Hg (gm P w)).is h x.1 x.2.1:=by
  intro l m q;induction q with
  | nil=>intro x hx; exact nomatch hx
  | @cons p q ps qs hq t ih =>
   intro x hx;rcases List.mem_cons.mp hx with e | hx
   ·subst e;exact BX ok (by rw [<-hq.1]; exact hq.2.1)
   ·exact ih x hx
 exact all r x hx
theorem WL{bo:List (List Key×V)}(ok:sL P w H h)(e:H a=some (.dT bo)):bo.length<=bg/\(a == gF)=false /\
  ∃ xs,KT H bo xs/\h.DictOfH (Hg (gm P w)) a xs:=Eg ok (.inl e)
end
def Cz(H:Hp)(a:Addr)(y:V)(r:Option V):Prop :=
 (∃ bo k,Rd H a (.dK bo)/\y=kV k/\r=nk bo k)\/∃ bo k b,Rd H a (.dT bo)/\y=.ref b/\H b=some (.tup (k.map kV))/\r=nk bo k
def PT(H:Hp)(a:Addr)(y v:V)(H':Hp):Prop :=
 (∃ bo k,H a=some (.dK bo)/\y=kV k/\bo.length < bg/\H'=upd H a (.dK (putK bo k v))) \/
 ∃ bo k b,H a=some (.dT bo)/\y=.ref b/\H b=some (.tup (k.map kV))/\bo.length < bg/\H'=upd H a (.dT (putK bo k v))
theorem Cz.k{H:Hp}{a:Addr}{bo:List (Key×V)}{k:Key}(e:H a=some (.dK bo)):Cz H a (kV k) (nk bo k):=.inl ⟨bo,k,.inl e,rfl,rfl⟩
theorem Cz.t{H:Hp}{a b:Addr}{bo:List (List Key×V)}{k:List Key}(e:H a=some (.dT bo))(eb:H b=some (.tup (k.map kV))):Cz H a (.ref b) (nk bo k):=.inr ⟨bo,k,b,.inl e,rfl,eb,rfl⟩
theorem PT.k{H:Hp}{a:Addr}{bo:List (Key×V)}{k:Key}{v:V}(e:H a=some (.dK bo))(hl:bo.length < bg):PT H a (kV k) v (upd H a (.dK (putK bo k v))):=.inl ⟨bo,k,e,rfl,hl,rfl⟩
theorem PT.t{H:Hp}{a b:Addr}{bo:List (List Key×V)}{k:List Key}{v:V}(e:H a=some (.dT bo))(eb:H b=some (.tup (k.map kV)))(hl:bo.length < bg) :
  PT H a (.ref b) v (upd H a (.dT (putK bo k v))):=.inr ⟨bo,k,b,e,rfl,eb,hl,rfl⟩
section
variable {X:Cx} {pins:List (Addr×Obj)} {σ:St} {H:Hp} {s:ao} {a:Addr} {y v:V} {u r:Value} {o:Option V} {A:cX} {E:Value->ao->Prop}
theorem Inv.big(I:Inv X pins σ H s):gF < s.heap.objs.size:=by
 have h:aP < s.heap.objs.size:=(I.mod.glob.keeps I.bk).lt;exact Uh (by decide) h
theorem yS{Q:Value->ao->Prop}(hu:A.units+1 < cLine)(I:Inv X pins σ H s)(g:Cz H a y (some v))(ry:RelV y u)(h:∀ w' s',Inv X pins σ H s'->RelV v w'->Q w' s') :
  wpAny (model X.prog X.w) A (Qo (.ref a) u) Q E s:=by
 rcases g with ⟨bo,k,e,ey,l⟩ | ⟨bo,k,b,e,ey,eb,l⟩
 ·subst ey;obtain⟨z,hd,vs,rel,dd⟩:=zI I.cO e;obtain⟨w',hw,wF⟩:=xR.some_of (v:=v) (o:=qS vs k) (by rw [l]; exact rel.val k);exact wpAny_getItem_of (xi ry) dd.mapOf hw (h w' _ (I.tok _) wF)
 ·subst ey;cases (show u=dF b from ry);obtain⟨z,hd,xs,rel,dd⟩:=Eg I.cO e;obtain⟨w',hw,wF⟩:=xR.some_of (v:=v) (o:=(atKey xs k).map (·.2)) (by rw [l]; exact rel.val k);obtain⟨p,hp,Qc⟩:=Option.map_eq_some_iff.mp hw;refine wpAny_getItem_heap (uX hu) (BX I.cO eb) dd hp ?_;rw [Qc];exact h w' _ (I.tok _) wF
theorem abg{Q:Value->ao->Prop}(hu:A.units+1 < cLine)(I:Inv X pins σ H s)(g:Cz H a y o)(ry:RelV y u)(h:∀ s',Inv X pins σ H s'->Q (.bool o.isSome) s') :
  wpAny (model X.prog X.w) A (dU .In u (.ref a)) Q E s:=by
 rcases g with ⟨bo,k,e,ey,l⟩ | ⟨bo,k,b,e,ey,eb,l⟩
 ·subst ey;obtain⟨z,hd,vs,rel,dd⟩:=zI I.cO e;refine wpAny_in_of (xi ry) hd dd.mapOf ?_;rw [<-(rel.val k).qw,<-l];exact h _ (I.tok _)
 ·subst ey;cases (show u=dF b from ry);obtain⟨z,hd,xs,rel,dd⟩:=Eg I.cO e;refine wpAny_in_heap (uX hu) (BX I.cO eb) hd dd ?_;have q:=(rel.val k).qw;rw [mY] at q;rw [<-q,<-l];exact h _ (I.tok _)
theorem NS{Q:Value->ao->Prop}(hu:A.units+1 < cLine)(I:Inv X pins σ H s)(g:Cz H a y o)(ry:RelV y u)(h:∀ s',Inv X pins σ H s'->Q (.bool (!o.isSome)) s') :
  wpAny (model X.prog X.w) A (dU .NotIn u (.ref a)) Q E s:=by
 rcases g with ⟨bo,k,e,ey,l⟩ | ⟨bo,k,b,e,ey,eb,l⟩
 ·subst ey;obtain⟨z,hd,vs,rel,dd⟩:=zI I.cO e;refine wpAny_notIn_of (xi ry) hd dd.mapOf ?_;rw [<-(rel.val k).qw,<-l];exact h _ (I.tok _)
 ·subst ey;cases (show u=dF b from ry);obtain⟨z,hd,xs,rel,dd⟩:=Eg I.cO e;refine wpAny_notIn_heap (uX hu) (BX I.cO eb) hd dd ?_;have q:=(rel.val k).qw;rw [mY] at q;rw [<-q,<-l];exact h _ (I.tok _)
theorem NR{h':Heap}{t':Nat}{ob:HO}(I:Inv X pins σ H s)(mu:Mut (H a))(hs:lK a s.heap h')(he:∃ q,h'.get? a=some q)(new:gu X.prog X.w (upd H a ob) h' a ob) :
  Inv X pins σ (upd H a ob) { s with heap:=h',toks:=t' } :=
 I.write (x:=a) (e:=a) mu (.inl rfl) (fun b q hb z=>(hs.2 b hb).trans z) he new
theorem YN{P:bx}{w:World}{H':Hp}{h':Heap}{bo:List (Key×V)}{vs:List (Key×Value)}(z:bo.length<=bg)(hd:(a == gF)=false)(rel:KV bo vs)(dd:h'.DictOf (gm P w) a vs) :
  gu P w H' h' a (.dK bo):=⟨z,hd,vs,rel,dd⟩
theorem Px{H':Hp}{Q:Unit->ao->Prop}(hu:A.units+1 < cLine)(I:Inv X pins σ H s)(g:PT H a y v H')(ry:RelV y u)(rv:RelV v r)(h:∀ s',Inv X pins σ H' s'->Q () s') :
  wpAny (model X.prog X.w) A (setItem (.ref a) u r) Q E s:=by
 rcases g with ⟨bo,k,e,ey,l,eH⟩ | ⟨bo,k,b,e,ey,eb,l,eH⟩
 ·subst ey eH;obtain⟨z,hd,vs,rel,dd⟩:=NL I.cO e;have hz:vs.length<=bg:=by rw [<-rel.length]; exact z
  have hl:(putK bo k v).length<=bg:=by have:=zE bo k v; lia
  refine wpAny_setItem_pairs (hsz:=hz) (xi ry) dd fun h' WM hs=>h _ ?_;have he:∃ q,h'.get? a=some q:=let ⟨q,_,_,hq,_⟩:=WM; ⟨q,hq⟩
  exact NR I (by rw [e]; exact bu) hs he (YN hl hd (rel.put k rv) WM)
 ·subst ey eH;cases (show u=dF b from ry);obtain⟨z,hd,xs,rel,dd⟩:=WL I.cO e;have hz:xs.length<=bg:=by rw [<-lX rel]; exact z
  have hl:(putK bo k v).length<=bg:=by have:=zE bo k v; lia
  refine wpAny_setItem_heap (hsz:=hz) (uX hu) (BX I.cO eb) dd fun h' WM hs=>h _ ?_;obtain⟨q,es,ep,hq,h2,h3,h4,_,h5⟩:=WM;refine NR I (by rw [e]; exact bu) hs ⟨q,hq⟩ ⟨hl,hd,_,(rel.put k eb rv).keeps fun c ys ec=>?_,q,es,ep,hq,h2,h3,h4,h5⟩;rw [br (aam ec e (fun z=>nomatch z))];exact ec
end
section
variable {X:Cx} {pins:List (Addr×Obj)} {σ:St} {H:Hp} {s:ao} {a:Addr} {bo:List (Key×V)} {k:Key} {u:Value} {A:cX} {E:Value->ao->Prop}
theorem WN {Q:Value->ao->Prop} (I:Inv X pins σ H s) (e:Rd H a (.dK bo)) (h:∀ t s',Inv X pins σ H s'->Q (.int bo.length t) s'):wpAny (model X.prog X.w) A (call (.builtin "len") [.ref a]) Q E s:=by
 obtain⟨z,hd,vs,rel,dd⟩:=zI I.cO e;refine call_len_dict hd dd (by rw [<-rel.length]; rw [bK] at z; lia) ?_;rw [<-rel.length];exact h _ _ (I.tok _)
theorem VS{Q:Bool->ao->Prop}(I:Inv X pins σ H s)(e:Rd H a (.dK bo))(h:∀ s',Inv X pins σ H s'->Q (!bo.isEmpty) s'):wpAny (model X.prog X.w) A (truthy (.ref a)) Q E s:=by
 obtain⟨z,hd,vs,rel,dd⟩:=zI I.cO e;refine Kf hd dd (by rw [<-rel.length]; rw [bK] at z; lia) ?_;have q:bo.isEmpty=vs.isEmpty:=by cases rel <;> rfl
 rw [<-q];exact h _ (I.tok _)
end
theorem ub {X:Cx} {pins:List (Addr×Obj)} {σ:St} {H:Hp} {s:ao} {a:Addr} {y:V} {o:Option V} (I:Inv X pins σ H s) (g:Cz H a y o):s.TypeIs (.ref a) "dict":=by
 rcases g with ⟨bo,k,e,_,_⟩ | ⟨bo,k,b,e,_,_,_⟩
 ·obtain⟨_,_,vs,_,dd⟩:=zI I.cO e;exact dd.typeIs
 ·obtain⟨_,_,xs,_,dd⟩:=Eg I.cO e;exact dd.typeIs
theorem S1 {P:bx} {w:World} {H:Hp} (h:Heap) (hb:gF < h.objs.size):gu P w H (h.push { cls:=.type "dict",data:=.dict #[] }) h.objs.size (.dK []) :=
 ⟨cu _,beq_eq_false_iff_ne.mpr (jz (bI hb)),[],.nil,Heap.DictOf.new h⟩
def Xd:TE:=fun _ H Q=>∀ p,H p=none->Q (.ref p) (upd H p (.dK []))
section
variable {X:Cx} {pos:Pos}
theorem Rq:PE X (.Dict [] [] pos) Xd:=fun pins s σ H Q I h =>
 wpAny_Dict_empty ⟨.ref s.heap.objs.size,_,I.laid (a:=s.heap.objs.size) (o:=.dK []) (t':=s.toks) (fun _ _ q=>aA _ q) (aK _) (S1 s.heap I.big),rfl,h _ (I.cO.fresh (aK _))⟩
end
end L2
namespace Att
open PySem PySem.W PySem.Calls PyProof.Rows
theorem Aa{P:Params}{h:Heap}:∀ (ns:List Int) (vs:List Value),WellAll P h vs (ns.map WData.int)->mR vs ns:=by
 intro ns;induction ns with
 | nil =>
  intro vs w;rw [a7] at w;cases w;exact .nil
 | cons n ns ih =>
  intro vs w;rw [aB] at w;cases w with
  | cons a b =>
   cases a;exact .cons _ _ (ih _ b)
theorem ON{l:OpenLaw}{n:Nat}(hn:l.most=some n){P:Params}{h:Heap}{args:List WData}{vals:List Value}
  (Pe:l.row.toRowW.claim.pre args=true) (hwl:WellAll P h vals args) :
  ∃ a vs ns,vals=[dF a]/\args=[WData.list (ns.map WData.int)]/\h.get? a=some { cls:=.type "list",data:=.seq vs.toArray }/\mR vs ns/\ns.length<=n:=by
 have hsh:WShape.hasAll [] args [.list .int]=true:=(pre_splitW Pe).1;have hc:l.pre.holds [] { args:=args } = true:=(pre_splitW Pe).2;obtain⟨d,r,rfl,h1,h2⟩:=hasAllW_cons hsh;obtain rfl:=hasAllW_nil h2;obtain⟨xs,rfl,h3⟩:=hasW_list h1;obtain⟨ns,rfl⟩:=items_int h3;have hlen:ns.length<=n:=by
  unfold OpenLaw.pre at hc;have h4:(WTm.not (.lt (.lit (.int (n:Int))) (.len (.arg 0)))).holds [] { args:=[.list (ns.map .int)] } = true:=by
   have h4:=(holds_andW hc).1;rw [hn] at h4;exact h4
  have h5:=condW_of h4 (w_not (w_lt w_lit (w_len_list (w_arg rfl))));rw [ai] at h5;refine Nat.le_of_not_lt fun q=>?_;have q':(n:Int) < ((ns.length:Nat):Int):=by lia
  first
   | (rw [decide_eq_true q'] at h5; exact absurd h5 (by decide))
   | (simp at h5; lia)
 cases hwl with
 | cons w1 w2 =>
  cases w2;cases w1 with
  | list ho yL=>exact⟨_,_,ns,rfl,rfl,ho,Aa ns _ yL,hlen⟩
theorem OV(l:OpenLaw)(args:List WData):l.row.toRowW.claim.post args (.bool true) args=true :=
 postW_of (r:=l.row.toRowW) (X:=(true == true))
  (show WShape.has [] (.bool true) .bool=true by first | rfl | decide | simp [WShape.has,WShape.arms,WShape.armsAll])
  (show (WTm.eq .res (.lit (.bool true))).value [] { args:=args,res:=some (.bool true),after:=args } = some (.bool (true == true)) from w_eq_bool (w_res rfl) w_lit) rfl
theorem JD{l:OpenLaw}{n:Nat}{q:bx}{loose:List Str}{XP:(Str->Option Value)->Heap->Prop}{YP:World->Heap->Prop}{d:DefRec}
  (hn:l.most=some n) (hdf:d.params.defaults=[])
  (call:∀ (w:World) (jc fW:ao) (mg mb:Str->Option Value) (fa:Addr) (o:Obj) (pm cd doc:Value) (a:Addr) (vs:List Value) (ns:List Int),
   Ground q loose [] XP w jc mg mb fW.heap->YP w fW.heap ->
   fW.heap.get? fa=some o->o.data=.func (docDef d.name d.params d.body d.scope pm cd doc)->fW.heap.CodeRec cd d.name->mg d.name=some (.ref fa) ->
   fW.heap.get? a=some { cls:=.type "list",data:=.seq vs.toArray }->mR vs ns->ns.length<=n->fW.gens=#[] ->
   pS (model l.prog w) Kn (.call (.ref fa) ⟨[.ref a],[]⟩) (fun r s'=>r=.ok (.ret (.bool true))/\OldK fW.heap s'.heap/\s'.os=fW.os/\Bb s'.gens) fW) :
  WalkO q loose XP YP l.row.toRowW d [] (fun f vs=>MC f vs):=by
 intro w jc fW mg mb G Y fa o pm cd doc dV kV ho hd vT hD hmg hg args vals as Pe ahR hrd hwl hlo;obtain rfl:dV=.none:=Dflts.none hD hdf;obtain rfl:kV=.none:=Dflts.noKw hD;obtain⟨a,vs,ns,rfl,rfl,Yg,hints,hlen⟩:=ON hn Pe hwl;refine enter_call (kK (call w jc fW mg mb fa o pm cd doc a vs ns G Y ho (fd_plain hd) vT hmg Yg hints hlen hg) fun r s' hq=>?_);obtain⟨rfl,h2,h3,h4⟩:=hq;exact⟨.inl ⟨.bool true,.bool true,[],rfl,fun _=>rfl,.bool true,OV l _,fun _=>⟨List.Pairwise.nil,fun _ hm=>(nomatch hm)⟩⟩,h2,h3,h4⟩
end Att
namespace L2
open PySem PySem.Spec PyProof.Rows
theorem DB:∀ {vs:List Value} {ns:List Int},mR vs ns->Vals (ns.map V.int) vs
 | _,_,.nil=>.nil
 | _,_,.cons n t h=>.cons ⟨t,rfl⟩ (DB h)
def V8(H:Hp):Prop:=∀ b,H b=none\/∃ o xs,H b=some (.jw o (.lst xs))
theorem RJ{P:bx}{w:World}{K:ag}{mg mb:Str->Option Value}{CX:Qk}{k:Nat}{fa a:Addr}{fd:aH}{x:Str}{sp:Sp}{fW:ao}{vs:List Value}{ns:List Int}
  (KX:K.In fW.heap) (CZ:fW.heap.Ns aP mg) (hb:fW.heap.Ns builtinsNs mb) (hbb:∀ x:Str,x≠"__name__"->mb x=dW x) (aeo:fW.heap.NoLimit) (hg:fW.gens=#[])
  (ha:fW.heap.get? a=some { cls:=.type "list",data:=.seq vs.toArray }) (hi:mR vs ns) (hl:ns.length<=bg) (hr:jI k Kn)
  (F:∀ base:Heap,K.In base->base.Ns aP mg->fU P w K mg base CX k fa fd [x] sp) (aa0:∀ (s:ao) (u:Value),BindsTo s fd ⟨[u],[]⟩ [(x,u)])
  (J0:∀ H:Hp,V8 H->y9 K H a (ns.map V.int)->sp [.ref a] H (fun v _=>v=.bl true) fun _ _ _=>False)
  (hCX:∀ H e s',CX [] H fW (fun _ _ _=>False) e s'->False) :
  pS (model P w) Kn (.call (.ref fa) ⟨[.ref a],[]⟩) (fun r s'=>r=.ok (.ret (.bool true))/\OldK fW.heap s'.heap/\s'.os=fW.os/\Bb s'.gens) fW:=by
 have rv:=DB hi;have adJ:=hi.length;have core:∀ H:Hp,V8 H->y9 K H a (ns.map V.int)->sL P w H fW.heap->(∀ b,H b≠none->b=a)->(H a≠none->K.lookup a=none) ->
   pS (model P w) Kn (.call (.ref fa) ⟨[.ref a],[]⟩) (fun r s'=>r=.ok (.ret (.bool true))/\OldK fW.heap s'.heap/\s'.os=fW.os/\Bb s'.gens) fW:=by
  intro H hO hS cO hA hK;have N5:∀ {b:Addr} {o:Obj},fW.heap.get? b=some o->H b=none->(FW fW.heap H).get? b=some o:=fun e n=>Si e n;have noA:∀ {b:Addr} {o:Obj} {es:Array kL} {ep:Nat},fW.heap.get? b=some o->o.data=.dict es ep->H b=none:=fun {b o es ep} e d=>by
   cases q:H b with
   | none=>rfl
   | some u =>
    have e':b=a:=hA b (by rw [q]; simp);subst e';rw [ha] at e; cases e;have d':Data.seq vs.toArray _=Data.dict es ep:=d;cases d'
  have nsK:∀ {b:Addr} {m:Str->Option Value},fW.heap.Ns b m->(FW fW.heap H).Ns b m:=fun {b m} ⟨o,es,ep,e,d,r⟩=>⟨o,es,ep,N5 e (noA e d),d,r⟩;have hKb:K.In (FW fW.heap H):=fun b o e=>N5 (KX b o e) (by
   cases q:H b with
   | none=>rfl
   | some u =>
    have e':b=a:=hA b (by rw [q]; simp);subst e';rw [hK (by rw [q]; simp)] at e; cases e)
  have hM:Mod K mg (FW fW.heap H):=⟨hKb,nsK CZ,⟨mb,nsK hb,hbb⟩,let ⟨mc,h1,h2⟩:=aeo; ⟨mc,nsK h1,h2⟩⟩;have e0:JP P w K mg (FW fW.heap H) Kn [] fW H:=⟨rfl,hM,fun b o e=>Vi e,Nat.le_of_eq (Ph _ _),trivial,fun b hb=>absurd (show b∈([]:List Addr) from hb) (by simp),cO,.of_eq hg⟩;refine kK ((F _ hKb (nsK CZ)).run Kn [] fW H ⟨[.ref a],[]⟩ [.ref a] [.ref a] _ _ hr e0 (aa0 fW (.ref a)) (.cons rfl .nil) (J0 H hO hS)) fun r s' h=>?_;cases r with
  | error e=>exact(hCX H e s' h).elim
  | ok fl =>
   cases fl with
   | next=>exact bO h
   | brk=>exact bO h
   | cont=>exact bO h
   | ret u =>
    obtain⟨v,H',os,bare,un,LD,r',q⟩:=h;have q':v=.bl true:=q;subst q';obtain rfl:u=xY true:=r';refine⟨rfl,OldK.of_keep fun b o e=>?_,os,bare⟩;cases q:H b with
    | none=>exact un.keep b o e q (by intro z; exact absurd (show b∈([]:List Addr) from z) (by simp)) (by simp)
    | some u =>
     rcases hO b with z | ⟨ob,xs,z⟩
     ·rw [q] at z; cases z
     ·have z2:=un.o3 b ob _ z;obtain⟨e1,_⟩:=cO b _ z;obtain⟨e2,_⟩:=LD b _ z2;rw [e] at e1; cases e1;exact e2
 cases hk:K.lookup a with
 | some o =>
  have e:=KX a o hk;rw [ha] at e;cases e;refine core (fun _=>none) (fun _=>.inl rfl) (.inr ⟨_,vs.toArray,_,hk,rfl,rfl,rfl,by rw [aS,adJ]; exact hl,by simpa using rv⟩) (fun b u z=>by have z':(none:Option HO)=some u:=z; cases z') (fun b z=>absurd rfl z) fun z=>absurd rfl z
 | none =>
  refine core (fun b=>if b=a then some (.jw { cls:=.type "list",data:=.seq vs.toArray } (.lst (ns.map V.int))) else none) (fun b=>?_) (.inl (.inr ⟨{ cls:=.type "list",data:=.seq vs.toArray },if_pos rfl⟩)) (fun b u z=>?_) (fun b z=>?_) fun _=>hk
  ·by_cases hb:b=a
   ·exact .inr ⟨_,_,if_pos hb⟩
   ·exact .inl (if_neg hb)
  ·by_cases hb:b=a
   ·have z':=(if_pos hb).symm.trans z;cases z';subst hb;exact⟨ha,by rw [ai]; exact hl,vs,_,rv,ha⟩
   ·have z':=(if_neg hb).symm.trans z;cases z'
  ·by_cases hb:b=a
   ·exact hb
   ·exact absurd (if_neg hb) z
theorem Ut{l:EG}{n k:Nat}{q:bx}{loose:List Str}{XP:(Str->Option Value)->Heap->Prop}{YP:World->Heap->Prop}{d:DefRec}{K:Params->ag}{CX:World->Qk}{sp:World->Sp}{x:Str}
  (hn:l.most=some n) (hn2:n<=bg) (hdf:d.params.defaults=[]) (hr:jI k Kn)
  (hY:∀ (w:World) (h:Heap),YP w h->(K w.params).In h)
  (F:∀ (w:World) (mg:Str->Option Value) (fa:Addr) (h:Heap),(K w.params).In h->h.Ns aP mg->mg d.name=some (.ref fa) ->
   ∃ fd:aH,(∀ (s:ao) (u:Value),BindsTo s fd ⟨[u],[]⟩ [(x,u)]) /\
    ∀ base:Heap,(K w.params).In base->base.Ns aP mg->fU l.prog w (K w.params) mg base (CX w) k fa fd [x] (sp w))
  (J0:∀ (w:World) (H:Hp) (a:Addr) (ns:List Int),ns.length<=n->V8 H->y9 (K w.params) H a (ns.map V.int)->sp w [.ref a] H (fun v _=>v=.bl true) fun _ _ _=>False)
  (hCX:∀ (w:World) (H:Hp) (s:ao) (e:Value) (s':ao),CX w [] H s (fun _ _ _=>False) e s'->False) :
  PySem.W.WalkO q loose XP YP l.row.toRowW d [] (fun f vs=>MC f vs):=by
 refine Att.JD hn hdf fun w jc fW mg mb fa o pm cd doc a vs ns G Y ho hd vT hmg Yg hints hlen hg=>?_;have KX:=hY w _ Y;obtain⟨fd,hb,hF⟩:=F w mg fa _ KX G.T.g hmg;exact RJ KX G.T.g G.T.b G.T.builtins G.T.nolimit hg Yg hints (cE hlen hn2) hr hF hb (fun H hO hS=>J0 w H a ns hlen hO hS) fun H e s'=>hCX w H fW e s'
end L2
/- THE aj0 ach (shape; LID,My.* are ae8):
   My.Adr: a structure of the addresses agH agA afB names (classes,Zh); My.Txt K t: a structure (Prop) of the equations over K;
   My.acK:{K} {implicit addresses ..} (e1:nsIn K aP "law" = some (some (.ref f))) (e2:K.lookup f=some ⟨oc,od,.func (fnOf "law" "law" params body scope dV kV doc pm an lD ct),sl⟩) (e3:codeIn K lD "law" = true) ..:∃ t,My.Txt K t
(the tactic k_is has no namespace: write k_is) -/
namespace L2
open PySem PySem.Spec PyProof.Rows
def lb(s:Stmt):Arguments:=match s with
 | .FunctionDef _ a _ _ _ _ _ _ _ _=>a
 | _=>{ posonlyargs:=[],args:=[],vararg:=none,kwonlyargs:=[],kw_defaults:=[],kwarg:=none,defaults:=[] }
def hX(s:Stmt):List Stmt:=match s with
 | .FunctionDef _ _ b _ _ _ _ _ _ _=>b
 | _=>[]
def aX(s:Stmt):Scope:=match s with
 | .FunctionDef _ _ _ _ _ _ sc _ _ _=>sc
 | _=>{ kind:=.function,names:=[],isGenerator:=false,isCoroutine:=false }
abbrev ji:Qk:=fun _ _ _ _ _ _=>False
abbrev E0:XK:=fun _ _ _=>False
theorem Z5{X:Cx}:Passes ji X E0:=fun _ _ _ _ _ _ _ h=>h.elim
structure p7(K:ag)(x qual:Str)(st:Stmt)(f:Addr)(fd:aH):Prop where
 ex:∃ (oc:Value) (od:Option Addr) (kV doc pm:Value) (an:Option Addr) (lD ct:Value) (Nd:Array (Option Value)),
  fd=jL x qual (lb st) (hX st) (aX st) .none kV doc pm an lD ct/\K.lookup f=some ⟨oc,od,.func fd,Nd⟩/\Ho K lD qual=true
 kp:kD K (.ref f)=true
section
variable {P:bx} {w:World} {K:ag} {mg:Str->Option Value} {base:Heap}
theorem p7.ok{x qual:Str}{st:Stmt}{f:Addr}{fd:aH}{N ps:List Str}{k:Nat}{sp:Sp}(F:p7 K x qual st f fd)(S:cG N ps (aX st))(len:∀ vs H Q E,sp vs H Q E->vs.length=ps.length)
  (IH:∀ (lD:Value) (A:cX) (outer:List Env) (s:ao) (H:Hp) (vs:List V) (Q:VK) (E:XK),jI k (A.deeper (ze qual (aX st) s.heap.objs.size f lD))->sp vs H Q E ->
   ∃ t,T8 (yU ji P w K mg base N qual (aX st) f lD A outer s H E).XJ (hX st) t/\t { nx:=fun _ H'=>Q .cR H',rt:=Q } (start N vs) H):fU P w K mg base ji (k+1) f fd ps sp:=by
 obtain⟨oc,od,kV,doc,pm,an,lD,ct,Nd,rfl,lk,vT⟩:=F.ex;refine WK lk vT S len fun A outer s H vs Q E hr J0=>?_;obtain⟨t,h,q⟩:=IH lD A outer s H vs Q E hr J0;exact⟨t,h.XJ,q⟩
theorem p7.binds{x qual:Str}{st:Stmt}{f:Addr}{fd:aH}{ps:List Str}(F:p7 K x qual st f fd)
  (h:∀ (kV doc pm:Value) (an:Option Addr) (lD ct:Value) (us:List Value),us.length=ps.length->bindArgs (jL x qual (lb st) (hX st) (aX st) .none kV doc pm an lD ct) ⟨us,[]⟩=pure (ps.zip us)):Binds K fd ps []:=by
 obtain⟨oc,od,kV,doc,pm,an,lD,ct,Nd,rfl,lk,vT⟩:=F.ex;exact .all (h kV doc pm an lD ct)
theorem SG{x qual:Str}{st:Stmt}{f:Addr}{oc:Value}{od an:Option Addr}{Nd:Array (Option Value)}{kV doc pm lD ct:Value}(l:K.lookup f=some ⟨oc,od,.func (jL x qual (lb st) (hX st) (aX st) .none kV doc pm an lD ct),Nd⟩)
  (c:Ho K lD qual=true) (k:kD K (.ref f)=true):p7 K x qual st f (jL x qual (lb st) (hX st) (aX st) .none kV doc pm an lD ct):=⟨⟨oc,od,kV,doc,pm,an,lD,ct,Nd,rfl,l,c⟩,k⟩
end
section
variable {X:Cx}
theorem pv (i:Nat) {x:Str} {pos:Pos} (hN:autoParam (X.N[i]?=some x) Ar._auto_1) (hv:autoParam (YX X.env.scope x) Ao._auto_1) (hd:autoParam ((x == ("__debug__" : Str))=false) Ad._auto_1)
  (vT:autoParam ((x == ("__classdict__" : Str))=false) Ad._auto_1):PE X (.Name x pos) (KL i):=K7 hN hv hd vT
end
end L2
set_option autoImplicit false
section
namespace K2
open PySem (Str)
abbrev PK:=List (List (List Int))
inductive D where
 | cR | bl (b:Bool) | int (i:Int) | str (x:Str) | tup (ds:List D) | fH (ds:List D) | vR (bo:List (D×D)) | ref (a:Nat) | exc (c:Str) | ye (c:Str) (ns:List Str) (ds:List D) | DM (bo:List (PK×D))
 deriving Inhabited
inductive GO where
 | lst (ds:List D)
 | mO (bo:List (D×D))
 | ins (c:Str) (fs:List (Str×D))
 | NM (bo:List (PK×D))
abbrev Gp:=Nat->Option GO
def dE(G:Gp)(a:Nat)(o:GO):Gp:=fun b=>if b=a then some o else G b
theorem aW{G:Gp}{a:Nat}{o:GO}:dE G a o a=some o:=by unfold dE; rw [if_pos rfl]
theorem dR{G:Gp}{a b:Nat}{o:GO}(h:b≠a):dE G a o b=G b:=by unfold dE; rw [if_neg h]
abbrev SZ:Nat:=16777216
structure Ex where
 cls:Str
 xA:List (Str×D)
abbrev lu:=Ex->Gp->Prop
abbrev iK:=List (Option D)
abbrev DK:=D->Gp->Prop
abbrev fM:=lu->iK->Gp->DK->Prop
abbrev y8:=lu->iK->Gp->(Bool->Gp->Prop)->Prop
abbrev AA:=lu->iK->Gp->(List D->Gp->Prop)->Prop
structure oO where
 nx:iK->Gp->Prop
 rt:DK
 bk:iK->Gp->Prop
 ct:iK->Gp->Prop
abbrev i5:=lu->oO->iK->Gp->Prop
abbrev nR:=List D->Gp->DK->lu->Prop
abbrev Ey:=D->D->Gp->DK->Prop
def Nv(n:Nat)(i:Int):Option Nat:=if 0<=i then (if i < n then some i.toNat else none) else if -(n:Int)<=i then some (i+n).toNat else none
def sI{α:Type}(xs:List α)(i:Int):Option α:=(Nv xs.length i).bind fun j=>xs[j]?
def jW(n d:Nat):Option Int->Nat
 | none=>d
 | some v=>if v < 0 then (v+(n:Int)).toNat else min v.toNat n
def cut{α:Type}(xs:List α)(lo hi:Option Int):List α:=(xs.drop (jW xs.length 0 lo)).take (jW xs.length xs.length hi - jW xs.length 0 lo)
mutual
def ik:D->D->Bool
 | .cR,.cR=>true
 | .bl a,.bl b=>a == b
 | .bl a,.int b=>(if a then 1 else 0) == b
 | .int a,.bl b=>a == (if b then 1 else 0)
 | .int a,.int b=>a == b
 | .str a,.str b=>a == b
 | .tup a,.tup b=>lA a b
 | .fH a,.fH b=>lA a b
 | _,_=>false
def lA:List D->List D->Bool
 | [],[]=>true
 | a :: r,b :: t=>ik a b&&lA r t
 | _,_=>false
end
mutual
def nr:D->Bool
 | .ref _=>false
 | .exc _=>false
 | .ye _ _ _=>false
 | .vR _=>false
 | .DM _=>false
 | .str x=>x.cps.all (· < 0x110000)
 | .tup ds=>sg ds
 | .fH ds=>sg ds
 | _=>true
def sg:List D->Bool
 | []=>true
 | d :: r=>nr d&&sg r
end
class inductive Sn (G:Gp):Nat->D->D->Prop
 | cR {n:Nat}:Sn G n .cR .cR
 | bl {n:Nat} (b:Bool):Sn G n (.bl b) (.bl b)
 | int {n:Nat} (i:Int):Sn G n (.int i) (.int i)
 | str {n:Nat} (x:Str) (h:x.cps.all (· < 0x110000)=true):Sn G n (.str x) (.str x)
 | E8 {n:Nat}:Sn G (n+1) (.tup []) (.tup [])
 | n8 {n:Nat} {d s:D} {ds ss:List D}:Sn G n d s->Sn G (n+1) (.tup ds) (.tup ss)->Sn G (n+1) (.tup (d :: ds)) (.tup (s :: ss))
 | HG {n:Nat}:Sn G (n+1) (.fH []) (.fH [])
 | zB {n:Nat} {d s:D} {ds ss:List D}:Sn G n d s->Sn G (n+1) (.fH ds) (.fH ss)->Sn G (n+1) (.fH (d :: ds)) (.fH (s :: ss))
 | ref {n:Nat} {a:Nat} {ds ss:List D}:G a=some (.lst ds)->Sn G n (.fH ds) (.fH ss)->Sn G n (.ref a) (.fH ss)
abbrev SN:Nat:=8
theorem Sn.nr{G:Gp}{n:Nat}{d t:D}(h:Sn G n d t):K2.nr t=true:=by
 induction h with
 | cR=>rfl
 | bl b=>rfl
 | int i=>rfl
 | str x h=>exact h
 | E8=>rfl
 | n8 _ _ R3 R1 =>
  show (K2.nr _&&K2.sg _)=true;rw [R3];exact R1
 | HG=>rfl
 | zB _ _ R3 R1 =>
  show (K2.nr _&&K2.sg _)=true;rw [R3];exact R1
 | ref _ _ ih=>exact ih
def Z2(k:PK):D:=.tup (k.map fun r=>.tup (r.map fun t=>.tup (t.map D.int)))
def gx:D->Bool
 | .int _=>true
 | .str _=>true
 | _=>false
def KJ:D->Gp->Option Bool
 | .cR,_=>some false
 | .bl b,_=>some b
 | .int i,_=>some (i != 0)
 | .str x,_=>if x.length<=SZ then some ((x.length:Int) != 0) else none
 | .tup ds,_=>some (!ds.isEmpty)
 | .fH ds,_=>some (!ds.isEmpty)
 | .exc _,_=>none
 | .ye _ _ _,_=>none
 | .DM _,_=>none
 | .vR bo,_=>if (bo.all fun p=>gx p.1)=true then some (!bo.isEmpty) else none
 | .ref a,G=>match G a with
  | some (.lst ds)=>some (!ds.isEmpty)
  | some (.mO bo)=>if (bo.all fun p=>gx p.1)=true then some (!bo.isEmpty) else none
  | _=>none
def ay(i:Nat):fM:=fun _ τ G Q=>match τ[i]? with
 | some (some d)=>Q d G
 | _=>False
def dC(d:D):fM:=fun _ _ G Q=>Q d G
def aU:AA:=fun _ _ G Q=>Q [] G
def az(a:fM)(r:AA):AA:=fun E τ G Q=>a E τ G fun x G1=>r E τ G1 fun xs G2=>Q (x :: xs) G2
def gU(t:AA):fM:=fun E τ G Q=>t E τ G fun ds G1=>ds.length<=SZ/\Q (.tup ds) G1
def o6(t:AA):fM:=fun E τ G Q=>t E τ G fun ds G1=>ds.length<=SZ/\∀ p,G1 p=none->Q (.ref p) (dE G1 p (.lst ds))
def a9(r:Ey)(a b:fM):fM:=fun E τ G Q=>a E τ G fun x G1=>b E τ G1 fun y G2=>r x y G2 Q
def sP(r:D->Gp->DK->Prop)(a:fM):fM:=fun E τ G Q=>a E τ G fun x G1=>r x G1 Q
def mF(G:Gp)(o:GO)(Q:DK):Prop:=∀ p,G p=none->Q (.ref p) (dE G p o)
def MulOk(i j:Int):Prop:=(-(2 ^ 64) < i/\i < 2 ^ 64)\/(-(2 ^ 64) < j/\j < 2 ^ 64)
def tW:D->Gp->Option (List D)
 | .fH ds,_=>some ds
 | .ref a,G=>match G a with
  | some (.lst ds)=>some ds
  | _=>none
 | _,_=>none
def GK(x y:D)(G:Gp)(Q:DK):Prop:=match tW x G,tW y G with
 | some xs,some ys=>xs.length+ys.length<=SZ/\mF G (.lst (xs++ys)) Q
 | _,_=>False
def qm:Ey
 | .int i,.int j,G,Q=>Q (.int (i+j)) G
 | .str a,.str b,G,Q=>a.length+b.length<=SZ/\Q (.str (a++b)) G
 | .tup a,.tup b,G,Q=>a≠[]/\a.length+b.length<=SZ/\Q (.tup (a++b)) G
 | x,y,G,Q=>GK x y G Q
def KZ:Ey
 | .int i,.int j,G,Q=>Q (.int (i - j)) G
 | _,_,_,_=>False
def Fq:Ey
 | .int i,.int j,G,Q=>MulOk i j/\Q (.int (i * j)) G
 | _,_,_,_=>False
def nB:Ey
 | .int i,.int j,G,Q=>0 < j/\Q (.int (i % j)) G
 | _,_,_,_=>False
def wR:Ey
 | .int i,.int j,G,Q=>0 < j/\j < 2 ^ 30/\Q (.int (i / j)) G
 | _,_,_,_=>False
def tL:D->Gp->DK->Prop
 | .int i,G,Q=>Q (.int (-i)) G
 | _,_,_=>False
def Fv(neg:Bool):Ey:=fun x y G Q=>∃ a b,Sn G SN x a/\Sn G SN y b/\Q (.bl (if neg then !ik a b else ik a b)) G
def lexLt:List Int->List Int->Bool
 | [],[]=>false
 | [],_ :: _=>true
 | _ :: _,[]=>false
 | x :: xs,y :: ys=>if x=y then lexLt xs ys else decide (x < y)
def ZV:Ey
 | .int i,.int j,G,Q=>Q (.bl (decide (i < j))) G
 | .tup a,.tup b,G,Q=>∃ xs ys,a=xs.map D.int/\b=ys.map D.int/\Q (.bl (lexLt xs ys)) G
 | _,_,_,_=>False
def Qb:Ey
 | .int i,.int j,G,Q=>Q (.bl (decide (i<=j))) G
 | _,_,_,_=>False
def ZW:Ey
 | .int i,.int j,G,Q=>Q (.bl (decide (i > j))) G
 | _,_,_,_=>False
def rGe:Ey
 | .int i,.int j,G,Q=>Q (.bl (decide (i>=j))) G
 | _,_,_,_=>False
def sE(neg:Bool):D->Gp->DK->Prop:=fun x G Q=>match x with
 | .cR=>Q (.bl (!neg)) G
 | _=>Q (.bl neg) G
def itemsOf:D->Gp->Option (List D)
 | .tup ds,_=>some ds
 | .fH ds,_=>some ds
 | .ref a,G=>match G a with
  | some (.lst ds)=>some ds
  | _=>none
 | _,_=>none
def vx:D->Bool
 | .tup ds=>ds.all gx
 | _=>false
def jv(bo:List (D×D))(k:D):Bool:=(gx k&&bo.all fun p=>gx p.1)||(vx k&&bo.all fun p=>vx p.1)
def look(bo:List (D×D))(k:D):Option D:=(bo.find? fun p=>ik p.1 k).map (·.2)
def put(bo:List (D×D))(k v:D):List (D×D) :=
 if (bo.any fun p=>ik p.1 k)=true then bo.map (fun p=>if ik p.1 k=true then (p.1,v) else p) else bo++[(k,v)]
def wQ(neg:Bool):Ey:=fun x y G Q=>match y with
 | .ref a=>(match G a with
  | some (.mO bo)=>jv bo x=true/\Q (.bl (if neg then !(look bo x).isSome else (look bo x).isSome)) G
  | some (.lst ds)=>∃ s ss,Sn G SN x s/\Sn G SN (.fH ds) (.fH ss)/\Q (.bl (if neg then !ss.any (ik · s) else ss.any (ik · s))) G
  | _=>False)
 | .vR bo=>bo≠[]/\jv bo x=true/\Q (.bl (if neg then !(look bo x).isSome else (look bo x).isSome)) G
 | .tup ds=>∃ s ss,Sn G SN x s/\Sn G SN (.fH ds) (.fH ss)/\Q (.bl (if neg then !ss.any (ik · s) else ss.any (ik · s))) G
 | .fH ds=>∃ s ss,Sn G SN x s/\Sn G SN (.fH ds) (.fH ss)/\Q (.bl (if neg then !ss.any (ik · s) else ss.any (ik · s))) G
 | _=>False
def qY:Ey
 | .tup ds,.int i,G,Q=>(match sI ds i with
  | some d=>Q d G
  | none=>False)
 | .fH ds,.int i,G,Q=>(match sI ds i with
  | some d=>Q d G
  | none=>False)
 | .vR bo,k,G,Q=>jv bo k=true/\(match look bo k with
  | some d=>Q d G
  | none=>False)
 | .ref a,k,G,Q=>(match G a with
  | some (.lst ds)=>(match k with
   | .int i=>(match sI ds i with
    | some d=>Q d G
    | none=>False)
   | _=>False)
  | some (.mO bo)=>jv bo k=true/\(match look bo k with
   | some d=>Q d G
   | none=>False)
  | _=>False)
 | _,_,_,_=>False
abbrev Y0:=lu->iK->Gp->(Option Int->Gp->Prop)->Prop
def cL:Y0:=fun _ _ G Q=>Q none G
def gL(t:fM):Y0:=fun E τ G Q=>t E τ G fun x G1=>match x with
 | .int i=>Q (some i) G1
 | _=>False
def Ra:D->Option Int->Option Int->Gp->DK->Prop
 | .tup ds,lo,hi,G,Q=>¬ (jW ds.length 0 lo=0/\jW ds.length ds.length hi=ds.length)/\Q (.tup (cut ds lo hi)) G
 | .fH ds,lo,hi,G,Q=>mF G (.lst (cut ds lo hi)) Q
 | .ref a,lo,hi,G,Q=>(match G a with
  | some (.lst ds)=>mF G (.lst (cut ds lo hi)) Q
  | _=>False)
 | _,_,_,_,_=>False
def Cm(a:fM)(lo hi:Y0):fM:=fun E τ G Q=>a E τ G fun x G1=>lo E τ G1 fun l G2=>hi E τ G2 fun h G3=>Ra x l h G3 Q
def fk(a:fM):y8:=fun E τ G Q=>a E τ G fun x G1=>match KJ x G1 with
 | some b=>Q b G1
 | none=>False
def PB(a b:y8):y8:=fun E τ G Q=>a E τ G fun c G1=>if c=true then b E τ G1 Q else Q false G1
def GB(a b:y8):y8:=fun E τ G Q=>a E τ G fun c G1=>if c=true then Q true G1 else b E τ G1 Q
def lC(a:y8):y8:=fun E τ G Q=>a E τ G fun c G1=>Q (!c) G1
def qH(a b:fM):fM:=fun E τ G Q=>a E τ G fun x G1=>match KJ x G1 with
 | some true=>b E τ G1 Q
 | some false=>Q x G1
 | none=>False
def abi(a b:fM):fM:=fun E τ G Q=>a E τ G fun x G1=>match KJ x G1 with
 | some true=>Q x G1
 | some false=>b E τ G1 Q
 | none=>False
def S8(a:fM):fM:=fun E τ G Q=>a E τ G fun x G1=>match KJ x G1 with
 | some c=>Q (.bl (!c)) G1
 | none=>False
def cZ(sp:nR)(t:AA):fM:=fun E τ G Q=>t E τ G fun ds G1=>sp ds G1 Q fun _ _=>False
def kj(r:List D->Gp->DK->Prop)(t:AA):fM:=fun E τ G Q=>t E τ G fun ds G1=>r ds G1 Q
def CQ(x:D)(G:Gp):Prop:=match x with
 | .ref a=>(match G a with
  | some (.lst _)=>True
  | _=>False)
 | .fH _=>True
 | _=>False
def tyC(x:D)(G:Gp):Prop:=match x with
 | .vR _=>True
 | .ref a=>(match G a with
  | some (.mO _)=>True
  | _=>False)
 | _=>False
def QE(x:D)(_:Gp):Prop:=match x with
 | .str _=>True
 | _=>False
def uB(ty:D->Gp->Prop)(r:D->List D->Gp->DK->Prop)(o:fM)(t:AA):fM:=fun E τ G Q=>o E τ G fun x G1=>ty x G1/\t E τ G1 fun ds G2=>r x ds G2 Q
def lenOf:D->Gp->Option Nat
 | .tup ds,_=>some ds.length
 | .fH ds,_=>some ds.length
 | .str x,_=>if x.length<=SZ then some x.length else none
 | .vR bo,_=>if (bo.all fun p=>gx p.1)=true then some bo.length else none
 | .ref a,G=>match G a with
  | some (.lst ds)=>some ds.length
  | some (.mO bo)=>if (bo.all fun p=>gx p.1)=true then some bo.length else none
  | _=>none
 | _,_=>none
def mV(ds:List D)(G:Gp)(Q:DK):Prop:=match ds with
 | [x]=>(match lenOf x G with
  | some n=>Q (.int (n:Int)) G
  | none=>False)
 | _=>False
def WO(ds:List D)(G:Gp)(Q:DK):Prop:=match ds with
 | [x]=>(match itemsOf x G with
  | some xs=>mF G (.lst xs) Q
  | none=>False)
 | _=>False
def Vw(C:String):D->Gp->Option Bool
 | .cR,_=>some false
 | .bl _,_=>some (C == "bool" || C == "int")
 | .int _,_=>some (C == "int")
 | .str _,_=>some (C == "str")
 | .tup _,_=>some (C == "tuple")
 | .fH _,_=>some (C == "list")
 | .vR _,_=>some (C == "dict")
 | .exc _,_=>none
 | .ye _ _ _,_=>none
 | .DM _,_=>none
 | .ref a,G=>match G a with
  | some (.lst _)=>some (C == "list")
  | some (.mO _)=>some (C == "dict")
  | _=>none
def Jr(C:String)(a:fM):fM:=fun E τ G Q=>a E τ G fun x G1=>match Vw C x G1 with
 | some b=>Q (.bl b) G1
 | none=>False
def VZ(ds:List D)(G:Gp)(Q:DK):Prop:=match ds with
 | [x]=>∃ bs:List Bool,itemsOf x G=some (bs.map D.bl)/\Q (.bl (bs.all id)) G
 | _=>False
def me(x:D)(ds:List D)(G:Gp)(Q:DK):Prop:=match x,ds with
 | .ref a,[d]=>(match G a with
  | some (.lst xs)=>xs.length < SZ/\Q .cR (dE G a (.lst (xs++[d])))
  | _=>False)
 | _,_=>False
def AP(x:D)(ds:List D)(G:Gp)(Q:DK):Prop:=match x,ds with
 | .ref a,[y]=>(match G a,tW y G with
  | some (.lst xs),some ys=>xs.length+ys.length<=SZ/\Q .cR (dE G a (.lst (xs++ys)))
  | _,_=>False)
 | _,_=>False
def w5(x:D)(ds:List D)(G:Gp)(Q:DK):Prop:=match x,ds with
 | .ref a,[.int i,d]=>(match G a with
  | some (.lst xs)=>0<=i/\i<=xs.length/\xs.length < SZ/\Q .cR (dE G a (.lst (xs.take i.toNat++d :: xs.drop i.toNat)))
  | _=>False)
 | _,_=>False
def FJ(x:D)(ds:List D)(G:Gp)(Q:DK):Prop:=match ds with
 | [d]=>CQ x G/\∃ xs s ss,itemsOf x G=some xs/\Sn G SN d s/\Sn G SN (.fH xs) (.fH ss)/\(match ss.findIdx? (ik · s) with
  | some k=>Q (.int (k:Int)) G
  | none=>False)
 | _=>False
def Ie(x:D)(ds:List D)(G:Gp)(Q:DK):Prop:=match x,ds with
 | .ref a,[k,d]=>(match G a with
  | some (.mO bo)=>jv bo k=true/\gx k=true/\(match look bo k with
   | some v=>Q v G
   | none=>bo.length < SZ/\Q d (dE G a (.mO (put bo k d))))
  | _=>False)
 | _,_=>False
def bZ:i5:=fun _ K τ G=>K.nx τ G
def bY(a b:i5):i5:=fun E K τ G=>a E { K with nx:=b E K } τ G
def jx(a:fM):i5:=fun E K τ G=>a E τ G fun _ G1=>K.nx τ G1
def cC(a:fM):i5:=fun E K τ G=>a E τ G K.rt
def abh:i5:=fun _ K _ G=>K.rt .cR G
def dM(c:y8)(a b:i5):i5:=fun E K τ G=>c E τ G fun k G1=>if k=true then a E K τ G1 else b E K τ G1
abbrev A2:=lu->D->iK->Gp->(iK->Gp->Prop)->Prop
abbrev GL:=lu->List D->iK->Gp->(iK->Gp->Prop)->Prop
def aT(i:Nat):A2:=fun _ d τ G Q=>Q (τ.set i (some d)) G
def vC:GL:=fun _ ds τ G Q=>match ds with
 | []=>Q τ G
 | _=>False
def iO(t:A2)(r:GL):GL:=fun E ds τ G Q=>match ds with
 | d :: ds=>t E d τ G fun sZ G1=>r E ds sZ G1 Q
 | _=>False
def xq(t:GL):A2:=fun E d τ G Q=>match d with
 | .tup ds=>t E ds τ G Q
 | _=>False
def MU(o k d:D)(G:Gp)(Q:Gp->Prop):Prop:=match o with
 | .ref a=>(match G a with
  | some (.lst xs)=>(match k with
   | .int i=>(match Nv xs.length i with
    | some j=>Q (dE G a (.lst (xs.set j d)))
    | none=>False)
   | _=>False)
  | some (.mO bo)=>jv bo k=true/\bo.length < SZ/\Q (dE G a (.mO (put bo k d)))
  | _=>False)
 | _=>False
def SA(o k:fM):A2:=fun E d τ G Q=>o E τ G fun x G1=>k E τ G1 fun y G2=>MU x y d G2 fun G3=>Q τ G3
def cT(a:fM)(g:A2):i5:=fun E K τ G=>a E τ G fun x G1=>g E x τ G1 K.nx
abbrev Qg:=lu->iK->Gp->(List D->(Gp->Prop)->Gp->Prop)->Prop
def qx(a:fM):Qg:=fun E τ G R=>a E τ G fun x G1=>match x with
 | .tup ds=>R ds (fun _=>True) G1
 | .fH ds=>R ds (fun _=>True) G1
 | .ref p=>(match G1 p with
  | some (.lst ds)=>R ds (fun G2=>G2 p=some (.lst ds)) G1
  | _=>False)
 | _=>False
def kR(lo:Int)(n:Nat):List D:=(cA n).map fun (i:Nat)=>D.int (lo+(i:Int))
def Iz(a:fM):Qg:=fun E τ G R=>a E τ G fun x G1=>match x with
 | .int n=>-(2 ^ 62)<=n/\n < 2 ^ 62/\R (kR 0 n.toNat) (fun _=>True) G1
 | _=>False
def so(g:A2)(body:i5)(ok:Gp->Prop):List D->i5
 | []=>fun _ K τ G=>ok G/\K.nx τ G
 | d :: r=>fun E K τ G=>ok G/\g E d τ G fun sZ G1=>body E { K with nx:=so g body ok r E K,ct:=so g body ok r E K,bk:=K.nx } sZ G1
def je(i:Qg)(g:A2)(body:i5):i5:=fun E K τ G=>i E τ G fun ds ok G1=>so g body ok ds E K τ G1
def Hr(c:y8)(body:i5):Nat->i5
 | 0=>fun _ _ _ _=>False
 | n+1=>fun E K τ G=>c E τ G fun k G1=>if k=true then body E { K with nx:=Hr c body n E K,ct:=Hr c body n E K,bk:=K.nx } τ G1 else K.nx τ G1
def S7(c:y8)(body:i5):i5:=fun E K τ G=>∃ n,Hr c body n E K τ G
def i4(g:A2)(c:Option y8)(e:fM)(ok:Gp->Prop):List D->lu->iK->Gp->List D->(List D->Gp->Prop)->Prop
 | [],_,_,G,acc,Q=>ok G/\Q acc G
 | d :: r,E,τ,G,acc,Q=>ok G/\g E d τ G fun sZ G1=>match c with
  | none=>e E sZ G1 fun x G2=>i4 g c e ok r E sZ G2 (acc++[x]) Q
  | some c=>c E sZ G1 fun k G2=>if k=true then e E sZ G2 fun x G3=>i4 g (some c) e ok r E sZ G3 (acc++[x]) Q else i4 g (some c) e ok r E sZ G2 acc Q
def vI(m:Nat)(fr:List Nat)(τ:iK):iK:=bE m none++fr.map fun i=>(τ[i]?).getD none
def lg(m:Nat)(fr:List Nat)(i:Qg)(g:A2)(c:Option y8)(e:fM):fM:=fun E τ G Q =>
 i E τ G fun ds ok G1=>ds.length<=SZ/\i4 g c e ok ds (fun _ _=>False) (vI m fr τ) G1 [] fun xs G2=>mF G2 (.lst xs) Q
abbrev tI(ns:List Int):D:=.tup (ns.map D.int)
def adF:List Int->Option Int
 | []=>none
 | a :: r=>some (r.foldl (fun m x=>if x < m then x else m) a)
def adE:List (List Int)->Option (List Int)
 | []=>none
 | a :: r=>some (r.foldl (fun m x=>if lexLt x m=true then x else m) a)
def Tf(ds:List D)(G:Gp)(Q:DK):Prop:=match ds with
 | [x]=>(∃ ns m,itemsOf x G=some (ns.map D.int)/\adF ns=some m/\Q (.int m) G)\/∃ nss m,itemsOf x G=some (nss.map tI)/\adE nss=some m/\Q (tI m) G
 | _=>False
def PA:fM:=fun _ _ G Q=>mF G (.mO []) Q
def kl(G G':Gp):Prop:=∀ a o,G a=some o->G' a=some o
theorem kl.refl(G:Gp):kl G G:=fun _ _ h=>h
theorem kl.trans{G G1 G2:Gp}(a:kl G G1)(b:kl G1 G2):kl G G2:=fun c o h=>b c o (a c o h)
theorem kl.new{G:Gp}{p:Nat}{o:GO}(h:G p=none):kl G (dE G p o):=fun a ob e=>by
 by_cases ha:a=p
 ·subst ha; rw [h] at e; cases e
 ·rw [dR ha]; exact e
theorem kl.free{G G':Gp}{p:Nat}(l:kl G G')(h:G' p=none):G p=none:=by
 cases q:G p with
 | none=>rfl
 | some o=>rw [l p o q] at h; cases h
theorem kl.put{G G':Gp}{p:Nat}{o:GO}(l:kl G G')(h:G p=none):kl G (dE G' p o):=fun a ob e=>by
 by_cases ha:a=p
 ·subst ha; rw [h] at e; cases e
 ·rw [dR ha]; exact l a ob e
def ends(Q:DK):oO:=⟨fun _ G=>Q .cR G,Q,fun _ _=>False,fun _ _=>False⟩
def bL(n:Nat)(ds:List D):iK:=ds.map some++bE (n - ds.length) none
def Vz(x:D)(G1:Gp)(R:List D->(Gp->Prop)->Gp->Prop):Prop:=match x with
 | .tup ds=>R ds (fun _=>True) G1
 | .fH ds=>R ds (fun _=>True) G1
 | .ref p=>(match G1 p with
  | some (.lst ds)=>R ds (fun G2=>G2 p=some (.lst ds)) G1
  | _=>False)
 | _=>False
def Rw(x:D)(G1:Gp)(Q:Option Int->Gp->Prop):Prop:=match x with
 | .int i=>Q (some i) G1
 | _=>False
def wg(x:D)(G1:Gp)(Q:Bool->Gp->Prop):Prop:=match KJ x G1 with
 | some b=>Q b G1
 | none=>False
def Wl(x:D)(G1:Gp)(R:List D->(Gp->Prop)->Gp->Prop):Prop:=match x with
 | .int n=>-(2 ^ 62)<=n/\n < 2 ^ 62/\R (kR 0 n.toNat) (fun _=>True) G1
 | _=>False
def isAt(C:String)(x:D)(G1:Gp)(Q:DK):Prop:=match Vw C x G1 with
 | some b=>Q (.bl b) G1
 | none=>False
theorem ju{i j:Int}{G:Gp}{Q:DK}:qm (.int i) (.int j) G Q=Q (.int (i+j)) G:=rfl
theorem Rb{a b:List D}{G:Gp}{Q:DK}:qm (.tup a) (.tup b) G Q=(a≠[]/\a.length+b.length<=SZ/\Q (.tup (a++b)) G):=rfl
theorem om{i j:Int}{G:Gp}{Q:DK}:KZ (.int i) (.int j) G Q=Q (.int (i - j)) G:=rfl
theorem tM{i j:Int}{G:Gp}{Q:DK}:Fq (.int i) (.int j) G Q=(MulOk i j/\Q (.int (i * j)) G):=rfl
theorem fJ{i j:Int}{G:Gp}{Q:DK}:nB (.int i) (.int j) G Q=(0 < j/\Q (.int (i % j)) G):=rfl
theorem jD{i j:Int}{G:Gp}{Q:DK}:wR (.int i) (.int j) G Q=(0 < j/\j < 2 ^ 30/\Q (.int (i / j)) G):=rfl
theorem oq{i:Int}{G:Gp}{Q:DK}:tL (.int i) G Q=Q (.int (-i)) G:=rfl
theorem Fs{i j:Int}{G:Gp}{Q:DK}:ZV (.int i) (.int j) G Q=Q (.bl (decide (i < j))) G:=rfl
theorem MY{i j:Int}{G:Gp}{Q:DK}:Qb (.int i) (.int j) G Q=Q (.bl (decide (i<=j))) G:=rfl
theorem AJ{i j:Int}{G:Gp}{Q:DK}:ZW (.int i) (.int j) G Q=Q (.bl (decide (i > j))) G:=rfl
theorem U2{i j:Int}{G:Gp}{Q:DK}:rGe (.int i) (.int j) G Q=Q (.bl (decide (i>=j))) G:=rfl
theorem UY{ds:List D}{i:Int}{d:D}{G:Gp}{Q:DK}(h:sI ds i=some d):qY (.fH ds) (.int i) G Q=Q d G:=by unfold qY; simp only [h]
theorem U0{a:Nat}{ds:List D}{i:Int}{d:D}{G:Gp}{Q:DK}(h1:G a=some (.lst ds))(h:sI ds i=some d):qY (.ref a) (.int i) G Q=Q d G:=by unfold qY; simp only [h1,h]
theorem ui{ds:List D}{lo hi:Option Int}{G:Gp}{Q:DK}:Ra (.tup ds) lo hi G Q=(¬ (jW ds.length 0 lo=0/\jW ds.length ds.length hi=ds.length)/\Q (.tup (cut ds lo hi)) G):=rfl
theorem Fo{ds:List D}{lo hi:Option Int}{G:Gp}{Q:DK}:Ra (.fH ds) lo hi G Q=mF G (.lst (cut ds lo hi)) Q:=rfl
theorem UX{a:Nat}{ds:List D}{lo hi:Option Int}{G:Gp}{Q:DK}(h:G a=some (.lst ds)):Ra (.ref a) lo hi G Q=mF G (.lst (cut ds lo hi)) Q:=by unfold Ra; simp only [h]
theorem JB{ds:List D}{G:Gp}{Q:DK}:mV [.fH ds] G Q=Q (.int (ds.length:Int)) G:=rfl
theorem JA{ds:List D}{G:Gp}{Q:DK}:mV [.tup ds] G Q=Q (.int (ds.length:Int)) G:=rfl
theorem Tg{a:Nat}{ds:List D}{G:Gp}{Q:DK}(h:G a=some (.lst ds)):mV [.ref a] G Q=Q (.int (ds.length:Int)) G:=by unfold mV lenOf; simp only [h]
theorem Ih{a:Nat}{ds:List D}{d:D}{G:Gp}{Q:DK}(h:G a=some (.lst ds)):me (.ref a) [d] G Q=(ds.length < SZ/\Q .cR (dE G a (.lst (ds++[d])))):=by unfold me; simp only [h]
theorem hW{a:fM}{E:lu}{τ:iK}{G:Gp}{R:List D->(Gp->Prop)->Gp->Prop}:qx a E τ G R=a E τ G fun x G1=>Vz x G1 R:=by
 unfold qx Vz; rfl
theorem Vy{ds:List D}{G:Gp}{R:List D->(Gp->Prop)->Gp->Prop}:Vz (.fH ds) G R=R ds (fun _=>True) G:=rfl
theorem Ny{ds:List D}{G:Gp}{R:List D->(Gp->Prop)->Gp->Prop}:Vz (.tup ds) G R=R ds (fun _=>True) G:=rfl
theorem AV{a:Nat}{ds:List D}{G:Gp}{R:List D->(Gp->Prop)->Gp->Prop}(h:G a=some (.lst ds)):Vz (.ref a) G R=R ds (fun G2=>G2 a=some (.lst ds)) G:=by unfold Vz; simp only [h]
theorem gV{t:fM}{E:lu}{τ:iK}{G:Gp}{Q:Option Int->Gp->Prop}:gL t E τ G Q=t E τ G fun x G1=>Rw x G1 Q:=rfl
theorem fx{i:Int}{G:Gp}{Q:Option Int->Gp->Prop}:Rw (.int i) G Q=Q (some i) G:=rfl
theorem dD{a:fM}{E:lu}{τ:iK}{G:Gp}{Q:Bool->Gp->Prop}:fk a E τ G Q=a E τ G fun x G1=>wg x G1 Q:=rfl
theorem aR{b:Bool}{G:Gp}{Q:Bool->Gp->Prop}:wg (.bl b) G Q=Q b G:=rfl
theorem xk{a:fM}{E:lu}{τ:iK}{G:Gp}{R:List D->(Gp->Prop)->Gp->Prop}:Iz a E τ G R=a E τ G fun x G1=>Wl x G1 R:=rfl
theorem yt{n:Int}{G:Gp}{R:List D->(Gp->Prop)->Gp->Prop}:Wl (.int n) G R=(-(2 ^ 62)<=n/\n < 2 ^ 62/\R (kR 0 n.toNat) (fun _=>True) G):=rfl
theorem pJ{C:String}{a:fM}{E:lu}{τ:iK}{G:Gp}{Q:DK}:Jr C a E τ G Q=a E τ G fun x G1=>isAt C x G1 Q:=rfl
theorem Iw {C:String} {i:Int} {G:Gp} {Q:DK}:isAt C (.int i) G Q=Q (.bl (C == "int")) G:=rfl
theorem Iv {C:String} {ds:List D} {G:Gp} {Q:DK}:isAt C (.tup ds) G Q=Q (.bl (C == "tuple")) G:=rfl
theorem RX {C:String} {a:Nat} {ds:List D} {G:Gp} {Q:DK} (h:G a=some (.lst ds)):isAt C (.ref a) G Q=Q (.bl (C == "list")) G:=by unfold isAt Vw; simp only [h]
theorem qG{a b:fM}{E:lu}{τ:iK}{G:Gp}{Q:DK}:qH a b E τ G Q=a E τ G fun x G1=>wg x G1 fun k G2=>if k=true then b E τ G2 Q else Q x G2:=by
 unfold qH wg;refine congrArg (a E τ G) ?_;funext x G1;cases KJ x G1 with
 | none=>rfl
 | some k=>cases k <;> simp
theorem VT{a b:fM}{E:lu}{τ:iK}{G:Gp}{Q:DK}:abi a b E τ G Q=a E τ G fun x G1=>wg x G1 fun k G2=>if k=true then Q x G2 else b E τ G2 Q:=by
 unfold abi wg;refine congrArg (a E τ G) ?_;funext x G1;cases KJ x G1 with
 | none=>rfl
 | some k=>cases k <;> simp
theorem Jq{a:fM}{E:lu}{τ:iK}{G:Gp}{Q:DK}:S8 a E τ G Q=a E τ G fun x G1=>wg x G1 fun k G2=>Q (.bl (!k)) G2:=rfl
theorem HN{a:Nat}{y:D}{G:Gp}{Q:DK}:qm (.ref a) y G Q=GK (.ref a) y G Q:=by cases y <;> rfl
theorem HL{a:List D}{y:D}{G:Gp}{Q:DK}:qm (.fH a) y G Q=GK (.fH a) y G Q:=by cases y <;> rfl
theorem MX{a:Nat}{lo hi:Option Int}{G:Gp}{Q:DK}:Ra (.ref a) lo hi G Q=(match G a with
  | some (.lst ds)=>mF G (.lst (cut ds lo hi)) Q
  | _=>False):=rfl
theorem UZ{a:Nat}{k:D}{G:Gp}{Q:DK}:qY (.ref a) k G Q=(match G a with
  | some (.lst ds)=>(match k with
   | .int i=>(match sI ds i with
    | some d=>Q d G
    | none=>False)
   | _=>False)
  | some (.mO bo)=>jv bo k=true/\(match look bo k with
   | some d=>Q d G
   | none=>False)
  | _=>False):=by unfold qY; cases k <;> rfl
theorem ot{ds:List D}{i:Int}{G:Gp}{Q:DK}:qY (.tup ds) (.int i) G Q=(match sI ds i with
  | some d=>Q d G
  | none=>False):=rfl
theorem Bu{ds:List D}{i:Int}{G:Gp}{Q:DK}:qY (.fH ds) (.int i) G Q=(match sI ds i with
  | some d=>Q d G
  | none=>False):=rfl
theorem PG{a:Nat}{G:Gp}{Q:DK}:WO [.ref a] G Q=(match G a with
  | some (.lst ds)=>mF G (.lst ds) Q
  | _=>False):=by
 unfold WO itemsOf;cases h:G a with
 | none=>simp only [h]
 | some g=>cases g <;> simp only [h]
theorem mB{a:Nat}{d:D}{G:Gp}{Q:DK}:me (.ref a) [d] G Q=(match G a with
  | some (.lst xs)=>xs.length < SZ/\Q .cR (dE G a (.lst (xs++[d])))
  | _=>False):=rfl
theorem zC{a:Nat}{y:D}{G:Gp}{Q:DK}:AP (.ref a) [y] G Q=(match G a,tW y G with
  | some (.lst xs),some ys=>xs.length+ys.length<=SZ/\Q .cR (dE G a (.lst (xs++ys)))
  | _,_=>False):=rfl
theorem tU{a:Nat}{i:Int}{d:D}{G:Gp}{Q:DK}:w5 (.ref a) [.int i,d] G Q=(match G a with
  | some (.lst xs)=>0<=i/\i<=xs.length/\xs.length < SZ/\Q .cR (dE G a (.lst (xs.take i.toNat++d :: xs.drop i.toNat)))
  | _=>False):=rfl
theorem z9{a:Nat}{k d:D}{G:Gp}{Q:DK}:Ie (.ref a) [k,d] G Q=(match G a with
  | some (.mO bo)=>jv bo k=true/\gx k=true/\(match look bo k with
   | some v=>Q v G
   | none=>bo.length < SZ/\Q d (dE G a (.mO (put bo k d))))
  | _=>False):=rfl
theorem OF{p:Nat}{G:Gp}{Q:Bool->Gp->Prop}:wg (.ref p) G Q=(match G p with
  | some (.lst ds)=>Q (!ds.isEmpty) G
  | some (.mO ds)=>(ds.all fun p=>gx p.1)=true/\Q (!ds.isEmpty) G
  | _=>False):=by
 unfold wg KJ;cases h:G p with
 | none=>simp only [h]
 | some g =>
  cases g with
  | lst ds=>simp only [h]
  | ins _ _=>simp only [h]
  | NM _=>simp only [h]
  | mO ds =>
   simp only [h];by_cases z:(ds.all fun p=>gx p.1)=true
   ·simp only [z,if_true,true_and]
   ·simp only [z,if_false,false_and,aw]
theorem Vx {C:String} {b:Bool} {G:Gp} {Q:DK}:isAt C (.bl b) G Q=Q (.bl (C == "bool" || C == "int")) G:=rfl
theorem ph{a:Nat}{G:Gp}:CQ (.ref a) G=(match G a with
  | some (.lst _)=>True
  | _=>False):=rfl
theorem Uw{a:Nat}{G:Gp}:tyC (.ref a) G=(match G a with
  | some (.mO _)=>True
  | _=>False):=rfl
theorem Uv{ds:List D}{G:Gp}:CQ (.fH ds) G=True:=rfl
theorem Ft{bo:List (D×D)}{k:D}{G:Gp}{Q:DK}:qY (.vR bo) k G Q=(jv bo k=true/\(match look bo k with
  | some d=>Q d G
  | none=>False)):=by unfold qY; cases k <;> rfl
theorem pf{x:Str}{G:Gp}:QE (.str x) G=True:=rfl
def Df(R:Nat->Bool)(G:Gp):Gp:=fun a=>if R a=true then none else G a
mutual
inductive Fz (G:Gp) (R:Nat->Bool):D->D->Prop
 | same (d:D):Fz G R d d
 | tup {ds ss:List D}:Kc G R ds ss->Fz G R (.tup ds) (.tup ss)
 | fH {ds ss:List D}:Kc G R ds ss->Fz G R (.fH ds) (.fH ss)
 | ref {a:Nat} {ds ss:List D}:G a=some (.lst ds)->R a=true->Kc G R ds ss->Fz G R (.ref a) (.fH ss)
 | mO {a:Nat} {bo Wx:List (D×D)}:G a=some (.mO bo)->R a=true->Mz G R bo Wx->Fz G R (.ref a) (.vR Wx)
 | NM {a:Nat} {bo Wx:List (PK×D)}:G a=some (.NM bo)->R a=true->Kc G R (bo.map fun p=>p.2) (Wx.map fun p=>p.2)->bo.map (fun p=>p.1)=Wx.map (fun p=>p.1)->Fz G R (.ref a) (.DM Wx)
inductive Kc (G:Gp) (R:Nat->Bool):List D->List D->Prop
 | nil:Kc G R [] []
 | cons {d s:D} {ds ss:List D}:Fz G R d s->Kc G R ds ss->Kc G R (d :: ds) (s :: ss)
inductive Mz (G:Gp) (R:Nat->Bool):List (D×D)->List (D×D)->Prop
 | nil:Mz G R [] []
 | cons {k d s:D} {ds ss:List (D×D)}:Fz G R d s->Mz G R ds ss->Mz G R ((k,d) :: ds) ((k,s) :: ss)
end
theorem Mz.same{G:Gp}{R:Nat->Bool}:∀ (bo:List (D×D)),Mz G R bo bo
 | []=>.nil
 | (k,v) :: r=>.cons (.same v) (Mz.same r)
def Qj(G:Gp)(x:D)(Q:DK):Prop:=∃ (R:Nat->Bool) (t:D),Fz G R x t/\Q t (Df R G)
def fF(e:fM):fM:=fun E τ G Q=>e E τ G fun x G1=>Qj G1 x Q
theorem Kc.same{G:Gp}{R:Nat->Bool}:∀ (ds:List D),Kc G R ds ds
 | []=>.nil
 | d :: ds=>.cons (.same d) (Kc.same ds)
theorem xG{G G1:Gp}(l:kl G G1):Df (fun a=>(G a).isNone) G1=G:=by
 funext a;unfold Df;cases h:G a with
 | none=>simp [h]
 | some o=>simp [l a o h,h]
theorem Pw{G G1:Gp}{p:Nat}{o:GO}(l:kl G G1)(hp:G p=none)(h1:G1 p=some o):Df (fun a=>(G a).isNone&&decide (a≠p)) G1=dE G p o:=by
 funext a;unfold Df dE;by_cases ha:a=p
 ·subst ha; simp [h1]
 ·cases h:G a with
  | none=>simp [ha,h]
  | some o=>simp [l a o h,ha,h]
theorem fy{G:Gp}{d:D}{Q:DK}(q:Q d G):Qj G d Q:=⟨fun _=>false,d,.same d,by
 have e:Df (fun _=>false) G=G:=by funext a; simp [Df]
 rw [e]; exact q⟩
theorem jG{G G1:Gp}{d:D}{Q:DK}(l:kl G G1)(q:Q d G):Qj G1 d Q:=⟨_,d,.same d,by rw [xG l]; exact q⟩
theorem SE{G G1:Gp}{p:Nat}{o:GO}{Q:DK}(l:kl G G1)(hp:G p=none)(h1:G1 p=some o)(q:Q (.ref p) (dE G p o)):Qj G1 (.ref p) Q :=
 ⟨_,.ref p,.same _,by rw [Pw l hp h1]; exact q⟩
theorem SD{G G1:Gp}{p:Nat}{ds ss:List D}{Q:DK}(l:kl G G1)(hp:G p=none)(h1:G1 p=some (.lst ds))(hs:Kc G1 (fun a=>(G a).isNone) ds ss)(q:Q (.fH ss) G):Qj G1 (.ref p) Q :=
 ⟨_,.fH ss,.ref h1 (by simp [hp]) hs,by rw [xG l]; exact q⟩
theorem Yz{G G1:Gp}{p:Nat}{bo:List (D×D)}{Q:DK}(l:kl G G1)(hp:G p=none)(h1:G1 p=some (.mO bo))(q:Q (.vR bo) G):Qj G1 (.ref p) Q :=
 ⟨fun a=>(G a).isNone,.vR bo,.mO h1 (by simp [hp]) (.same _),by rw [xG l]; exact q⟩
theorem YB{G G1:Gp}{d t:D}{Q:DK}(l:kl G G1)(hs:Fz G1 (fun a=>(G a).isNone) d t)(q:Q t G):Qj G1 d Q :=
 ⟨_,t,hs,by rw [xG l]; exact q⟩
def DD:nR:=fun ds G Q _=>∃ ns:List Int,ds=[.fH (ns.map D.int)]/\ns.length<=63/\(∀ a,G a=none)/\∀ G',Q (.bl true) G'
theorem fY{a b:i5}{E:lu}{K:oO}{τ:iK}{G:Gp}(P:iK->Gp->Prop)(h1:∀ N,(∀ τ G,P τ G->N τ G)->a E { K with nx:=N } τ G)(h2:∀ τ G,P τ G->b E K τ G):bY a b E K τ G:=h1 (b E K) h2
theorem dZ{a:fM}{g:A2}{b:i5}{E:lu}{K:oO}{τ:iK}{G:Gp}:bY (cT a g) b E K τ G=cT a g E { K with nx:=b E K } τ G:=rfl
theorem wt{a:fM}{b:i5}{E:lu}{K:oO}{τ:iK}{G:Gp}:bY (jx a) b E K τ G=jx a E { K with nx:=b E K } τ G:=rfl
theorem LJ{g:A2}{body:i5}{ok:Gp->Prop}{ds:List D}{E:lu}{K:oO}{τ:iK}{G:Gp}(I:List D->iK->Gp->Prop)
  (h0:I [] τ G) (cO:∀ pre τ G,I pre τ G->ok G)
  (step:∀ (pre:List D) (d:D) (post:List D) τ G (N:iK->Gp->Prop),ds=pre++d :: post->I pre τ G->(∀ u6 G2,I (pre++[d]) u6 G2->N u6 G2) ->
   g E d τ G fun sZ G1=>body E { K with nx:=N,ct:=N,bk:=K.nx } sZ G1)
  (fin:∀ τ G,I ds τ G->K.nx τ G):so g body ok ds E K τ G:=by
 have main:∀ (post pre:List D) τ G,ds=pre++post->I pre τ G->so g body ok post E K τ G:=by
  intro post;induction post with
  | nil =>
   intro pre τ G e h;rw [bV] at e;subst e;exact⟨cO _ _ _ h,fin _ _ h⟩
  | cons d post ih =>
   intro pre τ G e h;refine⟨cO _ _ _ h,?_⟩;exact step pre d post τ G _ e h fun u6 G2 h2=>ih (pre++[d]) u6 G2 (by rw [e,cW]; rfl) h2
 exact main ds [] τ G rfl h0
theorem NV{g:A2}{c:Option y8}{e:fM}{ok:Gp->Prop}{ds:List D}{E:lu}{τ:iK}{G:Gp}{Q:List D->Gp->Prop}(I:List D->List D->iK->Gp->Prop)
  (h0:I [] [] τ G) (cO:∀ pre acc τ G,I pre acc τ G->ok G)
  (step:∀ (pre:List D) (d:D) (post acc:List D) τ G (N:iK->List D->Gp->Prop),ds=pre++d :: post->I pre acc τ G->(∀ u6 y7 G2,I (pre++[d]) y7 u6 G2->N u6 y7 G2) ->
   g E d τ G fun sZ G1=>match c with
    | none=>e E sZ G1 fun x G2=>N sZ (acc++[x]) G2
    | some c=>c E sZ G1 fun k G2=>if k=true then e E sZ G2 fun x G3=>N sZ (acc++[x]) G3 else N sZ acc G2)
  (fin:∀ acc τ G,I ds acc τ G->Q acc G):i4 g c e ok ds E τ G [] Q:=by
 have main:∀ (post pre acc:List D) τ G,ds=pre++post->I pre acc τ G->i4 g c e ok post E τ G acc Q:=by
  intro post;induction post with
  | nil =>
   intro pre acc τ G e h;rw [bV] at e;subst e;exact⟨cO _ _ _ _ h,fin _ _ _ h⟩
  | cons d post ih =>
   intro pre acc τ G e' h;refine⟨cO _ _ _ _ h,?_⟩;have:=step pre d post acc τ G (fun u6 y7 G2=>i4 g c e ok post E u6 G2 y7 Q) e' h fun u6 y7 G2 h2=>ih (pre++[d]) y7 u6 G2 (by rw [e',cW]; rfl) h2;cases c with
   | none=>exact this
   | some c=>exact this
 exact main ds [] [] τ G rfl h0
theorem rN(a b:D)(r t:List D):lA (a :: r) (b :: t)=(ik a b&&lA r t):=rfl
theorem vH(a b:Int):ik (.int a) (.int b)=(a == b):=rfl
theorem L7(a b:List D):ik (.tup a) (.tup b)=lA a b:=rfl
theorem Jj{α:Type} [DecidableEq α](a b:α)(as bs:List α):(decide (a=b)&&decide (as=bs))=decide (a :: as=b :: bs):=by
 by_cases h:a=b <;> by_cases h2:as=bs <;> simp [h,h2]
set_option genInjectivity true in structure T2 where
 a:Int
 b:Int
 deriving DecidableEq
set_option genInjectivity true in structure T3 where
 a:Int
 b:Int
 c:Int
 deriving DecidableEq
class Enc (α:Type) [DecidableEq α] where
 enc:α->D
 dep:Nat
 eqv:∀ a b,ik (enc a) (enc b)=decide (a=b)
 sn:∀ (G:Gp) (n:Nat) (a:α),dep<=n->Sn G n (enc a) (enc a)
open Enc (enc)
instance:Enc Int where
 enc:=D.int
 dep:=0
 eqv:=fun a b=>rfl
 sn:=fun G n a _=>.int a
instance:Enc Bool where
 enc:=D.bl
 dep:=0
 eqv:=fun a b=>TG a b
 sn:=fun G n a _=>.bl a
instance:Enc T2 where
 enc:=fun t=>.tup [.int t.a,.int t.b]
 dep:=1
 eqv:=fun x y=>by
  cases x; cases y;rw [L7,rN,rN,vH,vH]; simp only [T2.mk.injEq]; rename_i a b c d; by_cases h:a=c <;> by_cases h2:b=d <;> simp [h,h2,show lA [] []=true from rfl]
 sn:=fun G n t h=>by
  obtain⟨m,rfl⟩:∃ m,n=m+1:=⟨n - 1,by lia⟩;exact .n8 (.int _) (.n8 (.int _) .E8)
instance:Enc T3 where
 enc:=fun t=>.tup [.int t.a,.int t.b,.int t.c]
 dep:=1
 eqv:=fun x y=>by
  cases x; cases y;rw [L7,rN,rN,rN,vH,vH,vH]; simp only [T3.mk.injEq]; rename_i a b e c d f; by_cases h:a=c <;> by_cases h2:b=d <;> by_cases h3:e=f <;> simp [h,h2,h3,show lA [] []=true from rfl]
 sn:=fun G n t h=>by
  obtain⟨m,rfl⟩:∃ m,n=m+1:=⟨n - 1,by lia⟩;exact .n8 (.int _) (.n8 (.int _) (.n8 (.int _) .E8))
instance {α β:Type} [DecidableEq α] [DecidableEq β] [Enc α] [Enc β]:Enc (α×β) where
 enc:=fun t=>.tup [enc t.1,enc t.2]
 dep:=max (Enc.dep α) (Enc.dep β)+1
 eqv:=fun x y=>by
  cases x; cases y;rw [L7,rN,rN,Enc.eqv,Enc.eqv]; simp only [Prod.mk.injEq]; rename_i a b c d; by_cases h:a=c <;> by_cases h2:b=d <;> simp [h,h2,show lA [] []=true from rfl]
 sn:=fun G n t h=>by
  obtain⟨m,rfl⟩:∃ m,n=m+1:=⟨n - 1,by lia⟩;exact .n8 (Enc.sn _ _ _ (by lia)) (.n8 (Enc.sn _ _ _ (by lia)) .E8)
theorem Jg{α:Type} [DecidableEq α] [Enc α]:∀ (a b:List α),lA (a.map enc) (b.map enc)=decide (a=b)
 | [],[]=>(decide_eq_true rfl).symm
 | [],b :: bs=>(decide_eq_false (fun z=>nomatch z)).symm
 | a :: as,[]=>(decide_eq_false (fun z=>nomatch z)).symm
 | a :: as,b :: bs=>by
  show (ik (enc a) (enc b)&&lA (as.map enc) (bs.map enc))=_;rw [Enc.eqv,Jg as bs,Jj]
theorem tw{α:Type} [DecidableEq α] [Enc α](G:Gp)(n:Nat)(h:Enc.dep α<=n):∀ (xs:List α),Sn G (n+1) (.fH (xs.map enc)) (.fH (xs.map enc))
 | []=>.HG
 | a :: as=>.zB (Enc.sn _ _ _ h) (tw G n h as)
instance {α:Type} [DecidableEq α] [Enc α]:Enc (List α) where
 enc:=fun xs=>.fH (xs.map enc)
 dep:=Enc.dep α+1
 eqv:=fun a b=>by
  show lA _ _=_;exact Jg a b
 sn:=fun G n t h=>by
  obtain⟨m,rfl⟩:∃ m,n=m+1:=⟨n - 1,by lia⟩;exact tw G m (by lia) t
section
variable {α:Type} [DecidableEq α] [Enc α]
theorem GJ(L:List α)(t:α):(L.map enc).any (ik · (enc t))=decide (t∈L):=by
 induction L with
 | nil=>simp
 | cons a r ih =>
  simp only [aB,p8,Enc.eqv,ih,u5];by_cases h:a=t
  ·simp [h]
  ·have h':¬ t=a:=fun z=>h z.symm;by_cases h2:t∈r <;> simp [h,h',h2]
end
section
variable {κ α:Type} [DecidableEq κ] [Enc κ] [DecidableEq α] [Enc α]
def fK(l:List (κ×α)):List (D×D):=l.map fun p=>(enc p.1,enc p.2)
def oM(l:List (κ×α))(k:κ):Option α:=(l.find? fun p=>p.1=k).map (·.2)
def Mr(l:List (κ×α))(k:κ)(v:α):List (κ×α):=if (l.any fun p=>p.1=k)=true then l.map (fun p=>if p.1=k then (p.1,v) else p) else l++[(k,v)]
theorem tX(l:List (κ×α))(k:κ):look (fK l) (enc k)=(oM l k).map enc:=by
 unfold look oM fK;induction l with
 | nil=>rfl
 | cons p r ih =>
  rw [aB,iQ,iQ];simp only [Enc.eqv];by_cases h:p.1=k
  ·simp [h]
  ·simp only [h,decide_false]; exact ih
theorem U6(l:List (κ×α))(k:κ)(v:α):put (fK l) (enc k) (enc v)=fK (Mr l k v):=by
 unfold put Mr;have e:((fK l).any fun p=>ik p.1 (enc k))=l.any fun p=>decide (p.1=k):=by
  unfold fK; rw [List.any_map]; congr 1; funext p; exact Enc.eqv _ _
 rw [e];split
 ·unfold fK; rw [eD,eD];refine List.map_congr_left fun p _=>?_;simp only [Function.comp,Enc.eqv,decide_eq_true_eq];split <;> rfl
 ·unfold fK; rw [c6]; rfl
end
class vL (κ:Type) [DecidableEq κ] [Enc κ] where
 ok:(∀ k:κ,gx (enc k)=true)\/∀ k:κ,vx (enc k)=true
instance:vL Int:=⟨.inl fun _=>rfl⟩
instance:vL T2:=⟨.inr fun _=>rfl⟩
instance:vL T3:=⟨.inr fun _=>rfl⟩
theorem lP{κ α:Type} [DecidableEq κ] [Enc κ] [vL κ] [DecidableEq α] [Enc α](l:List (κ×α))(k:κ):jv (fK l) (enc k)=true:=by
 unfold jv fK;rcases vL.ok (κ:=κ) with h | h
 ·rw [j5]; left;rw [h k,Bool.true_and,EJ,fS];intro p _; exact h p.1
 ·rw [j5]; right;rw [h k,Bool.true_and,EJ,fS];intro p _; exact h p.1
end K2
end
section
namespace K2
open PySem (Str)
open Enc (enc)
mutual
def oZ:D->D->Bool
 | .int a,.int b=>decide (a < b)
 | .tup a,.tup b=>oY a b
 | .fH a,.fH b=>oY a b
 | _,_=>false
def oY:List D->List D->Bool
 | [],[]=>false
 | [],_ :: _=>true
 | _ :: _,[]=>false
 | x :: xs,y :: ys=>if ik x y=true then oY xs ys else oZ x y
end
theorem rC(x y:D)(xs ys:List D):oY (x :: xs) (y :: ys)=if ik x y=true then oY xs ys else oZ x y:=rfl
theorem RE(a b:Int):oZ (.int a) (.int b)=decide (a < b):=rfl
inductive o7 where
 | int | tup (l:List o7) | lst (s:o7)
mutual
def dj:o7->D->Bool
 | .int,.int _=>true
 | .tup l,.tup ds=>gq l ds
 | .lst s,.fH ds=>iz s ds
 | _,_=>false
def gq:List o7->List D->Bool
 | [],[]=>true
 | s :: l,d :: ds=>dj s d&&gq l ds
 | _,_=>false
def iz:o7->List D->Bool
 | _,[]=>true
 | s,d :: ds=>dj s d&&iz s ds
end
theorem eM{a:D}(h:dj .int a=true):∃ i,a=.int i:=by cases a <;> first | exact⟨_,rfl⟩ | exact a6 (show false=true from h)
theorem eK{l:List o7}{a:D}(h:dj (.tup l) a=true):∃ x,a=.tup x:=by cases a <;> first | exact⟨_,rfl⟩ | exact a6 (show false=true from h)
theorem eL{l:o7}{a:D}(h:dj (.lst l) a=true):∃ x,a=.fH x:=by cases a <;> first | exact⟨_,rfl⟩ | exact a6 (show false=true from h)
mutual
def VP:o7->Nat
 | .int=>0
 | .tup l=>S0 l+1
 | .lst s=>VP s+1
def S0:List o7->Nat
 | []=>0
 | s :: l=>max (VP s) (S0 l)
end
def Rz(sh:o7):Bool:=decide (VP sh<=7)&&(match sh with
 | .tup []=>false
 | _=>true)
def TM(a b:D):Bool:=!oZ b a
def pC(ds:List D):List D:=ds.mergeSort TM
def AZ(ds:List D)(G:Gp)(Q:DK):Prop:=match ds with
 | [x]=>∃ (sh:o7) (xs:List D),CQ x G/\itemsOf x G=some xs/\xs.all (dj sh)=true/\Rz sh=true/\xs.length < 64/\mF G (.lst (pC xs)) Q
 | _=>False
class cg (α:Type) [DecidableEq α] [Enc α] where
 lt:α->α->Bool
 zi:o7
 LF:∀ a:α,dj zi (enc a)=true
 Zb:∀ a b:α,oZ (enc a) (enc b)=lt a b
 RY:∀ a,lt a a=false
 trans:∀ a b c,lt a b=true->lt b c=true->lt a c=true
 Uy:∀ a b,lt a b=false->lt b a=false->a=b
instance:cg Int where
 lt:=fun a b=>decide (a < b)
 zi:=.int
 LF:=fun _=>rfl
 Zb:=fun a b=>rfl
 RY:=fun a=>by simp
 trans:=fun a b c h1 h2=>by simp at *; lia
 Uy:=fun a b h1 h2=>by simp at *; lia
def uT{α:Type} [DecidableEq α](lt:α->α->Bool):List α->List α->Bool
 | [],[]=>false
 | [],_ :: _=>true
 | _ :: _,[]=>false
 | x :: xs,y :: ys=>if x=y then uT lt xs ys else lt x y
theorem BQ{α:Type} [DecidableEq α](lt:α->α->Bool)(x y:α)(xs ys:List α):uT lt (x :: xs) (y :: ys)=if x=y then uT lt xs ys else lt x y:=rfl
section
variable {α:Type} [DecidableEq α] {lt:α->α->Bool}
theorem xc:∀ x:List α,uT lt x x=false
 | []=>rfl
 | a :: x=>by simp only [BQ,if_true]; exact xc x
theorem w9(t:∀ a b,lt a b=false->lt b a=false->a=b):∀ (x y:List α),uT lt x y=false->uT lt y x=false->x=y
 | [],[],_,_=>rfl
 | [],_ :: _,h,_=>by cases h
 | _ :: _,[],_,h=>by cases h
 | a :: x,b :: y,h1,h2=>by
  simp only [BQ] at h1 h2;by_cases e:a=b
  ·subst e;simp only [if_true] at h1 h2;rw [w9 t x y h1 h2]
  ·rw [if_neg e] at h1;rw [if_neg (jz e)] at h2;exact absurd (t a b h1 h2) e
theorem rE(ir:∀ a,lt a a=false)(tr:∀ a b c,lt a b=true->lt b c=true->lt a c=true):∀ (x y z:List α),uT lt x y=true->uT lt y z=true->uT lt x z=true
 | [],[],_,h,_=>by cases h
 | [],_ :: _,[],_,h=>by cases h
 | [],_ :: _,_ :: _,_,_=>rfl
 | _ :: _,[],_,h,_=>by cases h
 | _ :: _,_ :: _,[],_,h=>by cases h
 | a :: x,b :: y,c :: z,h1,h2=>by
  simp only [BQ] at h1 h2 ⊢;by_cases e1:a=b
  ·subst e1;simp only [if_true] at h1;by_cases e2:a=c
   ·subst e2;simp only [if_true] at h2 ⊢;exact rE ir tr x y z h1 h2
   ·rw [if_neg e2] at h2 ⊢; exact h2
  ·rw [if_neg e1] at h1;by_cases e2:b=c
   ·subst e2;rw [if_neg e1]; exact h1
   ·rw [if_neg e2] at h2;have h3:=tr _ _ _ h1 h2;rw [if_neg (by rintro rfl; rw [ir] at h3; cases h3)]; exact h3
end
theorem w7{α:Type} [DecidableEq α] [Enc α] [cg α]:∀ (x y:List α),oY (x.map enc) (y.map enc)=uT (cg.lt (α:=α)) x y
 | [],[]=>rfl
 | [],_ :: _=>rfl
 | _ :: _,[]=>rfl
 | a :: x,b :: y=>by simp only [aB,rC,BQ,Enc.eqv,w7 x y,cg.Zb,decide_eq_true_eq]
theorem D9{α:Type} [DecidableEq α] [Enc α] [cg α]:∀ (x:List α),iz (cg.zi α) (x.map enc)=true
 | []=>rfl
 | a :: x=>by simp only [aB,iz,cg.LF,D9 x,Bool.and_self]
instance {α:Type} [DecidableEq α] [Enc α] [cg α]:cg (List α) where
 lt:=uT cg.lt
 zi:=.lst (cg.zi α)
 LF:=fun a=>D9 a
 Zb:=fun a b=>w7 a b
 RY:=xc
 trans:=rE cg.RY cg.trans
 Uy:=w9 cg.Uy
def T2.l(t:T2):List Int:=[t.a,t.b]
def T3.l(t:T3):List Int:=[t.a,t.b,t.c]
instance:cg T2 where
 lt:=fun x y=>uT (fun a b=>decide (a < b)) x.l y.l
 zi:=.tup [.int,.int]
 LF:=fun _=>rfl
 Zb:=fun a b=>w7 a.l b.l
 RY:=fun a=>xc _
 trans:=fun a b c=>rE (α:=Int) cg.RY cg.trans _ _ _
 Uy:=fun ⟨a,b⟩ ⟨c,d⟩ h1 h2=>by
  have:=w9 (α:=Int) cg.Uy _ _ h1 h2;simpa [T2.l] using this
instance:cg T3 where
 lt:=fun x y=>uT (fun a b=>decide (a < b)) x.l y.l
 zi:=.tup [.int,.int,.int]
 LF:=fun _=>rfl
 Zb:=fun a b=>w7 a.l b.l
 RY:=fun a=>xc _
 trans:=fun a b c=>rE (α:=Int) cg.RY cg.trans _ _ _
 Uy:=fun ⟨a,b,e⟩ ⟨c,d,f⟩ h1 h2=>by
  have:=w9 (α:=Int) cg.Uy _ _ h1 h2;simpa [T3.l] using this
section
variable {α:Type} [DecidableEq α] [Enc α] [cg α]
def BV(a b:α):Bool:=!cg.lt b a
def MP(xs:List α):List α:=xs.mergeSort BV
theorem DE(xs:List α):pC (xs.map enc)=(MP xs).map enc:=by
 unfold pC MP;symm;exact List.map_mergeSort fun a _ b _=>by unfold BV TM; rw [cg.Zb]
theorem yH(a b c:α)(h1:BV a b=true)(h2:BV b c=true):BV a c=true:=by
 unfold BV at *;simp only [g6] at *;cases h:cg.lt c a with
 | false=>rfl
 | true =>
  by_cases e:a=b
  ·subst e; rw [h] at h2; cases h2
  ·have VD:cg.lt a b=true:=by
    cases q:cg.lt a b with
    | true=>rfl
    | false=>exact absurd (cg.Uy _ _ q h1) e
   rw [cg.trans _ _ _ h VD] at h2; cases h2
theorem O7(a b:α):(BV a b||BV b a)=true:=by
 unfold BV;cases h:cg.lt b a with
 | false=>rfl
 | true =>
  cases h2:cg.lt a b with
  | false=>rfl
  | true=>have:=cg.trans _ _ _ h h2; rw [cg.RY] at this; cases this
theorem BU(a b:α)(h1:BV a b=true)(h2:BV b a=true):a=b:=by
 unfold BV at *;exact cg.Uy a b (by simpa using h2) (by simpa using h1)
theorem tv(xs:List α):(MP xs).Perm xs:=List.mergeSort_perm xs BV
theorem Bh(xs:List α):(MP xs).Pairwise fun a b=>BV a b=true:=P1 yH O7 xs
theorem CT:∀ {xs ys:List α},xs.Perm ys->xs.Pairwise (fun a b=>BV a b=true)->ys.Pairwise (fun a b=>BV a b=true)->xs=ys:=by
 intro xs ys hp h1 h2;exact GZ (fun a b _ _ h h'=>BU a b h h') h1 h2 hp
theorem Xk{xs ys:List α}(h:xs.Perm ys):MP xs=MP ys:=CT (((tv xs).trans h).trans (tv ys).symm) (Bh xs) (Bh ys)
theorem UJ{xs:List α}{x:α}:x∈MP xs↔x∈xs:=(tv xs).mem_iff
theorem MO(xs:List α):(MP xs).length=xs.length:=(tv xs).length_eq
end
end K2
end
section
namespace K2
open PySem (Str)
mutual
theorem lS:∀ (sh:o7) (a:D),dj sh a=true->ik a a=true
 | .int,.int i,_=>by show (i == i)=true; exact beq_self_eq_true i
 | .tup l,.tup xs,h=>by show lA xs xs=true; exact zG l xs h
 | .lst l,.fH xs,h=>by show lA xs xs=true; exact zH l xs h
theorem zG:∀ (l:List o7) (xs:List D),gq l xs=true->lA xs xs=true
 | [],[],_=>rfl
 | s :: l,x :: xs,h=>by
  have h:(dj s x&&gq l xs)=true:=h;rw [aI] at h;show (ik x x&&lA xs xs)=true;rw [lS s x h.1,zG l xs h.2]; rfl
theorem zH:∀ (s:o7) (xs:List D),iz s xs=true->lA xs xs=true
 | _,[],_=>rfl
 | s,x :: xs,h=>by
  have h:(dj s x&&iz s xs)=true:=h;rw [aI] at h;show (ik x x&&lA xs xs)=true;rw [lS s x h.1,zH s xs h.2]; rfl
end
theorem YK(s:o7)(ih:∀ (a b:D),dj s a=true->dj s b=true->ik a b=true->a=b):∀ (xs ys:List D),iz s xs=true->iz s ys=true->lA xs ys=true->xs=ys:=by
 intro xs;induction xs with
 | nil=>intro ys _ _ h; cases ys with
  | nil=>rfl
  | cons _ _=>cases h
 | cons x xs ihx =>
  intro ys h1 h2 h;cases ys with
  | nil=>cases h
  | cons y ys =>
   have h1:(dj s x&&iz s xs)=true:=h1;have h2:(dj s y&&iz s ys)=true:=h2;have h:(ik x y&&lA xs ys)=true:=h;rw [aI] at h1 h2 h;rw [ih x y h1.1 h2.1 h.1,ihx ys h1.2 h2.2 h.2]
mutual
theorem su:∀ (sh:o7) (a b:D),dj sh a=true->dj sh b=true->ik a b=true->a=b
 | .int,a,b,h1,h2,h=>by
  first | obtain⟨_,rfl⟩:=eM h1 | obtain⟨_,rfl⟩:=eK h1 | obtain⟨_,rfl⟩:=eL h1
  first | obtain⟨_,rfl⟩:=eM h2 | obtain⟨_,rfl⟩:=eK h2 | obtain⟨_,rfl⟩:=eL h2
  rw [vH] at h; rw [beq_iff_eq.mp h]
 | .tup l,a,b,h1,h2,h=>by
  first | obtain⟨_,rfl⟩:=eM h1 | obtain⟨_,rfl⟩:=eK h1 | obtain⟨_,rfl⟩:=eL h1
  first | obtain⟨_,rfl⟩:=eM h2 | obtain⟨_,rfl⟩:=eK h2 | obtain⟨_,rfl⟩:=eL h2
  rw [SW l _ _ h1 h2 h]
 | .lst l,a,b,h1,h2,h=>by
  first | obtain⟨_,rfl⟩:=eM h1 | obtain⟨_,rfl⟩:=eK h1 | obtain⟨_,rfl⟩:=eL h1
  first | obtain⟨_,rfl⟩:=eM h2 | obtain⟨_,rfl⟩:=eK h2 | obtain⟨_,rfl⟩:=eL h2
  rw [YK l (su l) _ _ h1 h2 h]
theorem SW:∀ (l:List o7) (xs ys:List D),gq l xs=true->gq l ys=true->lA xs ys=true->xs=ys
 | [],xs,ys,h1,h2,_=>by
  cases xs with
  | nil=>cases ys with
   | nil=>rfl
   | cons _ _=>cases h2
  | cons _ _=>cases h1
 | s :: l,xs,ys,h1,h2,h=>by
  cases xs with
  | nil=>cases h1
  | cons x xs =>
   cases ys with
   | nil=>cases h2
   | cons y ys =>
    have h1:(dj s x&&gq l xs)=true:=h1;have h2:(dj s y&&gq l ys)=true:=h2;have h:(ik x y&&lA xs ys)=true:=h;rw [aI] at h1 h2 h;rw [su s x y h1.1 h2.1 h.1,SW l xs ys h1.2 h2.2 h.2]
end
theorem RD(s:o7)(ih:∀ (a b:D),dj s a=true->dj s b=true->oZ a b=false->oZ b a=false->a=b):∀ (xs ys:List D),iz s xs=true->iz s ys=true->oY xs ys=false->oY ys xs=false->xs=ys:=by
 intro xs;induction xs with
 | nil=>intro ys _ _ h _; cases ys with
  | nil=>rfl
  | cons _ _=>cases h
 | cons x xs ihx =>
  intro ys h1 h2 h3 h4;cases ys with
  | nil=>cases h4
  | cons y ys =>
   have h1:(dj s x&&iz s xs)=true:=h1;have h2:(dj s y&&iz s ys)=true:=h2;rw [aI] at h1 h2;simp only [rC] at h3 h4;by_cases e:ik x y=true
   ·have exy:=su s x y h1.1 h2.1 e;subst exy;rw [if_pos e] at h3 h4;rw [ihx ys h1.2 h2.2 h3 h4]
   ·rw [if_neg e] at h3;by_cases e2:ik y x=true
    ·have:=su s y x h2.1 h1.1 e2;subst this; exact absurd e2 e
    ·rw [if_neg e2] at h4;have:=ih x y h1.1 h2.1 h3 h4;subst this;exact absurd (lS s x h1.1) e
mutual
theorem AQ:∀ (sh:o7) (a b:D),dj sh a=true->dj sh b=true->oZ a b=false->oZ b a=false->a=b
 | .int,a,b,h1,h2,h3,h4=>by
  first | obtain⟨_,rfl⟩:=eM h1 | obtain⟨_,rfl⟩:=eK h1 | obtain⟨_,rfl⟩:=eL h1
  first | obtain⟨_,rfl⟩:=eM h2 | obtain⟨_,rfl⟩:=eK h2 | obtain⟨_,rfl⟩:=eL h2
  simp [RE] at h3 h4; congr 1; lia
 | .tup l,a,b,h1,h2,h3,h4=>by
  first | obtain⟨_,rfl⟩:=eM h1 | obtain⟨_,rfl⟩:=eK h1 | obtain⟨_,rfl⟩:=eL h1
  first | obtain⟨_,rfl⟩:=eM h2 | obtain⟨_,rfl⟩:=eK h2 | obtain⟨_,rfl⟩:=eL h2
  rw [Ii l _ _ h1 h2 h3 h4]
 | .lst l,a,b,h1,h2,h3,h4=>by
  first | obtain⟨_,rfl⟩:=eM h1 | obtain⟨_,rfl⟩:=eK h1 | obtain⟨_,rfl⟩:=eL h1
  first | obtain⟨_,rfl⟩:=eM h2 | obtain⟨_,rfl⟩:=eK h2 | obtain⟨_,rfl⟩:=eL h2
  rw [RD l (AQ l) _ _ h1 h2 h3 h4]
theorem Ii:∀ (l:List o7) (xs ys:List D),gq l xs=true->gq l ys=true->oY xs ys=false->oY ys xs=false->xs=ys
 | [],xs,ys,h1,h2,_,_=>by
  cases xs with
  | nil=>cases ys with
   | nil=>rfl
   | cons _ _=>cases h2
  | cons _ _=>cases h1
 | s :: l,xs,ys,h1,h2,h3,h4=>by
  cases xs with
  | nil=>cases h1
  | cons x xs =>
   cases ys with
   | nil=>cases h2
   | cons y ys =>
    have h1:(dj s x&&gq l xs)=true:=h1;have h2:(dj s y&&gq l ys)=true:=h2;rw [aI] at h1 h2;simp only [rC] at h3 h4;by_cases e:ik x y=true
    ·have exy:=su s x y h1.1 h2.1 e;subst exy;rw [if_pos e] at h3 h4;rw [Ii l xs ys h1.2 h2.2 h3 h4]
    ·rw [if_neg e] at h3;by_cases e2:ik y x=true
     ·have:=su s y x h2.1 h1.1 e2;subst this; exact absurd e2 e
     ·rw [if_neg e2] at h4;have:=AQ s x y h1.1 h2.1 h3 h4;subst this;exact absurd (lS s x h1.1) e
end
mutual
theorem FK:∀ (sh:o7) (a:D),dj sh a=true->oZ a a=false
 | .int,.int i,_=>by rw [RE]; exact decide_eq_false (Int.lt_irrefl _)
 | .tup l,.tup xs,h=>by show oY xs xs=false; exact Ij l xs h
 | .lst l,.fH xs,h=>by show oY xs xs=false; exact Ik l xs h
theorem Ij:∀ (l:List o7) (xs:List D),gq l xs=true->oY xs xs=false
 | [],[],_=>rfl
 | s :: l,x :: xs,h=>by
  have h:(dj s x&&gq l xs)=true:=h;rw [aI] at h;simp only [rC,lS s x h.1,if_true]; exact Ij l xs h.2
theorem Ik:∀ (s:o7) (xs:List D),iz s xs=true->oY xs xs=false
 | _,[],_=>rfl
 | s,x :: xs,h=>by
  have h:(dj s x&&iz s xs)=true:=h;rw [aI] at h;simp only [rC,lS s x h.1,if_true]; exact Ik s xs h.2
end
theorem Lo(s:o7)(ih:∀ (a b c:D),dj s a=true->dj s b=true->dj s c=true->oZ a b=true->oZ b c=true->oZ a c=true):∀ (xs ys zs:List D),iz s xs=true->iz s ys=true->iz s zs=true->oY xs ys=true->oY ys zs=true->oY xs zs=true:=by
 intro xs;induction xs with
 | nil =>
  intro ys zs _ _ _ h4 h5;cases ys with
  | nil=>cases h4
  | cons _ _=>cases zs with
   | nil=>cases h5
   | cons _ _=>rfl
 | cons x xs ihx =>
  intro ys zs h1 h2 h3 h4 h5;cases ys with
  | nil=>cases h4
  | cons y ys =>
   cases zs with
   | nil=>cases h5
   | cons z zs =>
    have h1:(dj s x&&iz s xs)=true:=h1;have h2:(dj s y&&iz s ys)=true:=h2;have h3:(dj s z&&iz s zs)=true:=h3;rw [aI] at h1 h2 h3;simp only [rC] at h4 h5 ⊢;by_cases e1:ik x y=true
    ·have:=su s x y h1.1 h2.1 e1;subst this;rw [if_pos e1] at h4;by_cases e2:ik x z=true
     ·rw [if_pos e2] at h5 ⊢;exact ihx ys zs h1.2 h2.2 h3.2 h4 h5
     ·rw [if_neg e2] at h5 ⊢; exact h5
    ·rw [if_neg e1] at h4;by_cases e2:ik y z=true
     ·have:=su s y z h2.1 h3.1 e2;subst this;rw [if_neg e1]; exact h4
     ·rw [if_neg e2] at h5;have h6:=ih x y z h1.1 h2.1 h3.1 h4 h5;rw [if_neg (fun e3=>by
       have:=su s x z h1.1 h3.1 e3;subst this;rw [FK s x h1.1] at h6; cases h6)]
      exact h6
mutual
theorem uw:∀ (sh:o7) (a b c:D),dj sh a=true->dj sh b=true->dj sh c=true->oZ a b=true->oZ b c=true->oZ a c=true
 | .int,a,b,c,h1,h2,h3,h4,h5=>by
  first | obtain⟨_,rfl⟩:=eM h1 | obtain⟨_,rfl⟩:=eK h1 | obtain⟨_,rfl⟩:=eL h1
  first | obtain⟨_,rfl⟩:=eM h2 | obtain⟨_,rfl⟩:=eK h2 | obtain⟨_,rfl⟩:=eL h2
  first | obtain⟨_,rfl⟩:=eM h3 | obtain⟨_,rfl⟩:=eK h3 | obtain⟨_,rfl⟩:=eL h3
  simp [RE] at *; lia
 | .tup l,a,b,c,h1,h2,h3,h4,h5=>by
  first | obtain⟨_,rfl⟩:=eM h1 | obtain⟨_,rfl⟩:=eK h1 | obtain⟨_,rfl⟩:=eL h1
  first | obtain⟨_,rfl⟩:=eM h2 | obtain⟨_,rfl⟩:=eK h2 | obtain⟨_,rfl⟩:=eL h2
  first | obtain⟨_,rfl⟩:=eM h3 | obtain⟨_,rfl⟩:=eK h3 | obtain⟨_,rfl⟩:=eL h3
  exact BL l _ _ _ h1 h2 h3 h4 h5
 | .lst l,a,b,c,h1,h2,h3,h4,h5=>by
  first | obtain⟨_,rfl⟩:=eM h1 | obtain⟨_,rfl⟩:=eK h1 | obtain⟨_,rfl⟩:=eL h1
  first | obtain⟨_,rfl⟩:=eM h2 | obtain⟨_,rfl⟩:=eK h2 | obtain⟨_,rfl⟩:=eL h2
  first | obtain⟨_,rfl⟩:=eM h3 | obtain⟨_,rfl⟩:=eK h3 | obtain⟨_,rfl⟩:=eL h3
  exact Lo l (uw l) _ _ _ h1 h2 h3 h4 h5
theorem BL:∀ (l:List o7) (xs ys zs:List D),gq l xs=true->gq l ys=true->gq l zs=true->oY xs ys=true->oY ys zs=true->oY xs zs=true
 | [],xs,ys,zs,h1,h2,_,h,_=>by
  cases xs with
  | nil=>cases ys with
   | nil=>cases h
   | cons _ _=>cases h2
  | cons _ _=>cases h1
 | s :: l,xs,ys,zs,h1,h2,h3,h4,h5=>by
  cases xs with
  | nil=>cases h1
  | cons x xs =>
   cases ys with
   | nil=>cases h2
   | cons y ys =>
    cases zs with
    | nil=>cases h3
    | cons z zs =>
     have h1:(dj s x&&gq l xs)=true:=h1;have h2:(dj s y&&gq l ys)=true:=h2;have h3:(dj s z&&gq l zs)=true:=h3;rw [aI] at h1 h2 h3;simp only [rC] at h4 h5 ⊢;by_cases e1:ik x y=true
     ·have:=su s x y h1.1 h2.1 e1;subst this;rw [if_pos e1] at h4;by_cases e2:ik x z=true
      ·rw [if_pos e2] at h5 ⊢;exact BL l xs ys zs h1.2 h2.2 h3.2 h4 h5
      ·rw [if_neg e2] at h5 ⊢; exact h5
     ·rw [if_neg e1] at h4;by_cases e2:ik y z=true
      ·have:=su s y z h2.1 h3.1 e2;subst this;rw [if_neg e1]; exact h4
      ·rw [if_neg e2] at h5;have h6:=uw s x y z h1.1 h2.1 h3.1 h4 h5;rw [if_neg (fun e3=>by
        have:=su s x z h1.1 h3.1 e3;subst this;rw [FK s x h1.1] at h6; cases h6)]
       exact h6
end
theorem yF(sh:o7){a b:D}(h1:dj sh a=true)(h2:dj sh b=true)(h:oZ a b=true):oZ b a=false:=by
 cases q:oZ b a with
 | false=>rfl
 | true=>have:=uw sh a b a h1 h2 h1 h q; rw [FK sh a h1] at this; cases this
theorem vw(sh:o7){a b c:D}(h1:dj sh a=true)(h2:dj sh b=true)(h3:dj sh c=true)(q1:oZ b a=false)(q2:oZ c b=false):oZ c a=false:=by
 cases h:oZ c a with
 | false=>rfl
 | true =>
  exfalso;cases q:oZ a b with
  | false =>
   have:=AQ sh a b h1 h2 q q1;subst this; rw [h] at q2; cases q2
  | true=>rw [uw sh c a b h3 h1 h2 h q] at q2; cases q2
theorem nA(sh:o7){xs ys:List D}(hx:∀ x∈xs,dj sh x=true)(hp:ys.Perm xs)(hs:ys.Pairwise fun a b=>oZ b a=false):pC xs=ys:=by
 have hy:∀ y∈ys,dj sh y=true:=fun y h=>hx y (hp.mem_iff.mp h);have p1:(pC xs).Perm xs:=List.mergeSort_perm xs TM;have hz:∀ z∈pC xs,dj sh z=true:=fun z h=>hx z (p1.mem_iff.mp h);have s1:(pC xs).Pairwise fun a b=>oZ b a=false:=by
  let Zz:List { d:D // dj sh d=true }:=xs.attach.map fun x=>⟨x.1,hx x.1 x.2⟩
  have ex:xs=Zz.map (·.1):=by
   simp only [Zz,eD]
   conv=>lhs; rw [<-List.attach_map_subtype_val xs]
   rfl
  have e2:pC xs=(Zz.mergeSort fun a b=>TM a.1 b.1).map (·.1):=by
   unfold pC;rw [ex];exact(List.map_mergeSort (r:=fun (a b:{ d:D // dj sh d=true })=>TM a.1 b.1) (s:=TM) (f:=fun x=>x.1) (l:=Zz) fun a _ b _=>rfl).symm
  rw [e2,kn]
  have:=P1 (le:=fun (a b:{ d:D // dj sh d=true })=>TM a.1 b.1) (fun a b c h1 h2=>by
   unfold TM at *;simp only [g6] at *;exact vw sh a.2 b.2 c.2 h1 h2) (fun a b=>by
   unfold TM;cases q:oZ b.1 a.1 with
   | false=>rfl
   | true=>rw [yF sh b.2 a.2 q]; rfl) Zz
  exact this.imp fun h=>by unfold TM at h; simpa using h
 refine GZ (le:=fun a b=>oZ b a=false) (fun a b ha hb h h'=>?_) s1 hs (p1.trans hp.symm);exact AQ sh a b (hz a ha) (hy b hb) h' h
end K2
end
section
namespace K2
open PySem (Str)
open Enc (enc)
def oG(k:Nat):List D->List D
 | []=>[]
 | d :: r=>.tup [.int (k:Int),d] :: oG (k+1) r
theorem yP:∀ (ds:List D) (k i:Nat),(oG k ds)[i]?=(ds[i]?).map fun d=>D.tup [.int ((k+i:Nat):Int),d]
 | [],k,i=>by simp [oG]
 | d :: r,k,0=>by simp [oG]
 | d :: r,k,i+1=>by
  rw [oG,af,yP r (k+1) i,af];congr 1; funext x; congr 3; lia
theorem nY:∀ (ds:List D) (k:Nat),(oG k ds).length=ds.length
 | [],_=>rfl
 | d :: r,k=>by rw [oG,ah,ah,nY r]
def rH(x:D)(G1:Gp)(R:List D->(Gp->Prop)->Gp->Prop):Prop:=match x with
 | .fH ds=>R (oG 0 ds) (fun _=>True) G1
 | .ref p=>(match G1 p with
  | some (.lst ds)=>R (oG 0 ds) (fun G2=>G2 p=some (.lst ds)) G1
  | _=>False)
 | _=>False
def D4(a:fM):Qg:=fun E τ G R=>a E τ G fun x G1=>rH x G1 R
def ac9(P:D->Gp->Prop):List D->Gp->Prop
 | [x],G=>P x G
 | _,_=>False
def FU(x:D)(G1:Gp)(R:List D->(Gp->Prop)->Gp->Prop):Prop:=match x with
 | .vR bo=>R (bo.map (·.1)) (fun _=>True) G1
 | _=>False
def R5(a:fM):Qg:=fun E τ G R=>a E τ G fun x G1=>FU x G1 R
def IsL(G:Gp)(d:D)(ds:List D):Prop:=d=.fH ds\/∃ a,d=.ref a/\G a=some (.lst ds)
theorem IsL.enc{α:Type} [DecidableEq α] [Enc α]{G:Gp}(xs:List α):IsL G (enc xs) (xs.map enc):=.inl rfl
theorem IsL.ref{G:Gp}{a:Nat}{ds:List D}(h:G a=some (.lst ds)):IsL G (.ref a) ds:=.inr ⟨a,rfl,h⟩
theorem IsL.mono{G G':Gp}{d:D}{ds:List D}(h:IsL G d ds)(l:kl G G'):IsL G' d ds:=by
 rcases h with h | ⟨a,h,e⟩
 ·exact .inl h
 ·exact .inr ⟨a,h,l a _ e⟩
theorem LA{G:Gp}{d:D}{ds:List D}{R:List D->(Gp->Prop)->Gp->Prop}(h:IsL G d ds)(k:∀ ok:Gp->Prop,(∀ G',kl G G'->ok G')->R ds ok G):Vz d G R:=by
 rcases h with rfl | ⟨a,rfl,e⟩
 ·exact k _ fun _ _=>trivial
 ·rw [AV e]; exact k _ fun G' l=>l a _ e
theorem Nw {G:Gp} {d:D} {ds:List D} {C:String} {Q:DK} (h:IsL G d ds) (k:Q (.bl (C == "list")) G):isAt C d G Q:=by
 rcases h with rfl | ⟨a,rfl,e⟩
 ·exact k
 ·rw [RX e]; exact k
theorem vA{G:Gp}{d:D}{ds:List D}(h:IsL G d ds):itemsOf d G=some ds:=by
 rcases h with rfl | ⟨a,rfl,e⟩
 ·rfl
 ·unfold itemsOf; simp only [e]
theorem QF{G:Gp}{d:D}{ds:List D}(h:IsL G d ds):CQ d G:=by
 rcases h with rfl | ⟨a,rfl,e⟩
 ·trivial
 ·unfold CQ; simp only [e]
theorem Fp{G:Gp}{d:D}{ds:List D}{lo hi:Option Int}{Q:DK}(h:IsL G d ds)(k:mF G (.lst (cut ds lo hi)) Q):Ra d lo hi G Q:=by
 rcases h with rfl | ⟨a,rfl,e⟩
 ·exact k
 ·rw [UX e]; exact k
theorem iJ{G:Gp}{d:D}{ds:List D}{Q:DK}(h:IsL G d ds)(k:Q (.int (ds.length:Int)) G):mV [d] G Q:=by
 rcases h with rfl | ⟨a,rfl,e⟩
 ·exact k
 ·rw [Tg e]; exact k
theorem Mp{α:Type} [DecidableEq α] [Enc α] [cg α]{G:Gp}{d:D}{xs:List α}{Q:DK}(h:IsL G d (xs.map enc))(hl:xs.length < 64)(k:mF G (.lst ((MP xs).map enc)) Q)(ok:autoParam (Rz (cg.zi α)=true) Ad._auto_1):AZ [d] G Q :=
 ⟨cg.zi α,xs.map enc,QF h,vA h,by rw [EJ,fS]; intro x _; exact cg.LF x,ok,by rw [ai]; exact hl,by rw [DE]; exact k⟩
theorem yv{G:Gp}{d x:D}{ds:List D}{i:Int}{Q:DK}(h:IsL G d ds)(e:sI ds i=some x)(k:Q x G):qY d (.int i) G Q:=by
 rcases h with rfl | ⟨a,rfl,e2⟩
 ·rw [UY e]; exact k
 ·rw [U0 e2 e]; exact k
theorem tV{G:Gp}{d:D}{ds:List D}(h:IsL G d ds):tW d G=some ds:=by
 rcases h with rfl | ⟨a,rfl,e⟩
 ·rfl
 ·unfold tW; simp only [e]
theorem Jt{α:Type}(xs:List α)(i:Nat)(h:i<=xs.length):cut xs (some (i:Int)) none=xs.drop i:=by
 unfold cut jW;simp only;rw [if_neg (by lia),eF,Nat.min_eq_left h];exact vO (by rw [ez]; lia)
theorem Ta{α:Type}(xs:List α)(i:Nat)(h:i<=xs.length):cut xs none (some (i:Int))=xs.take i:=by
 unfold cut jW;simp only;rw [if_neg (by lia),eF,Nat.min_eq_left h];simp
theorem uC{α β:Type}(f:α->β)(xs:List α)(lo hi:Option Int):cut (xs.map f) lo hi=(cut xs lo hi).map f:=by
 unfold cut; rw [ai,List.map_take,List.map_drop]
theorem uE{α:Type}(xs:List α){k:Int}(h0:0<=k)(h1:k < xs.length):sI xs k=some (xs[k.toNat]'(by lia)):=by
 unfold sI Nv;rw [if_pos h0,if_pos h1];show xs[k.toNat]?=_;exact aj (by lia)
def acP{α β:Type} [DecidableEq α] [Enc α] [DecidableEq β] [Enc β](pre:α->Prop)(f:α->β):nR:=fun ds G Q _=>∃ a:α,ds=[enc a]/\pre a/\Q (enc (f a)) G
def vS(i:Int):Str:=a8 (toString i)
def okS(x:Str):Prop:=x.cps.all (· < 0x110000)=true
theorem eU(s:String):okS (a8 s):=by
 unfold okS;rw [PySem.Str.ofString_eq_toList];simp only [List.all_toArray,EJ,fS];intro c _;have:=c.valid;simp only [Function.comp,decide_eq_true_eq];have h2:c.toNat=c.val.toNat:=rfl;rcases this with h | h
 ·have:c.val.toNat < 55296:=h;lia
 ·have:c.val.toNat < 1114112:=h.2;lia
theorem NU(x y:Str):(x++y).cps=x.cps++y.cps:=rfl
theorem fj(x y:Str):(x++y).length=x.length+y.length:=by
 unfold A9;rw [NU,Array.size_append]
theorem Vt{i:Int}(h:i.natAbs < 10 ^ 100):(vS i).length<=101:=by
 unfold vS;cases i with
 | ofNat m =>
  have hm:m < 10 ^ 100:=by simpa using h
  have h1:((m:Int)) < (10:Int) ^ 100:=by exact_mod_cast hm
  exact cE (x6 (v:=Int.ofNat m) (sN m) (k:=100) (by decide) h1) (by decide)
 | negSucc m =>
  have hm:m+1 < 10 ^ 100:=by simpa using h
  have h1:(((m+1:Nat):Int)) < (10:Int) ^ 100:=by exact_mod_cast hm
  have h2:=x6 (v:=((m+1:Nat):Int)) (sN _) (k:=100) (by decide) h1;have e:toString (Int.negSucc m) = "-"++toString (((m+1:Nat):Int)):=rfl;rw [e,zV,String.toList_append,aE];rw [zV] at h2;have h3 : "-".toList.length=1:=by decide
  lia
def SJ:D->Option Str
 | .int i=>if i.natAbs < 10 ^ 100 then some (vS i) else none
 | .str x=>if x.length<=1000 then some x else none
 | _=>none
abbrev WV:=lu->iK->Gp->(List Str->Gp->Prop)->Prop
def SQ:WV:=fun _ _ G Q=>Q [] G
def vF(c:Str)(r:WV):WV:=fun E τ G Q=>c.length<=1000/\r E τ G fun ys G1=>Q (c :: ys) G1
def LY(a:fM)(r:WV):WV:=fun E τ G Q=>a E τ G fun x G1=>∃ y,SJ x=some y/\r E τ G1 fun ys G2=>Q (y :: ys) G2
def Js(t:WV):fM:=fun E τ G Q=>t E τ G fun ys G1=>Q (.str (ys.foldl (·++·) Kr)) G1
theorem SI{d:D}{y:Str}(h:SJ d=some y):y.length<=1000:=by
 unfold SJ at h;split at h
 ·rename_i i;split at h
  ·rename_i hb;cases h;exact cE (Vt hb) (by decide)
  ·cases h
 ·split at h
  ·rename_i hb; cases h; exact hb
  ·cases h
 ·cases h
def cStr(ds:List D)(G:Gp)(Q:DK):Prop:=match ds with
 | [.int i]=>i.natAbs < 10 ^ 100/\Q (.str (vS i)) G
 | _=>False
def Ig(x:D)(ds:List D)(G:Gp)(Q:DK):Prop:=match x,ds with
 | .str sep,[y]=>∃ xs:List Str,CQ y G/\itemsOf y G=some (xs.map D.str)/\(sep.length<=1000/\(∀ x∈xs,x.length<=1000)/\xs.length<=1000)/\Q (.str (gB sep xs)) G
 | _,_=>False
end K2
end
section
namespace K2
open PySem (Str)
def zK(all sub:List Str)(a:fM):fM:=fun E τ G Q=>a E τ G fun x G1=>match x with
 | .cR=>Q (.bl false) G1
 | .exc c=>all.contains c=true/\Q (.bl (sub.contains c)) G1
 | .ye c _ _=>all.contains c=true/\Q (.bl (sub.contains c)) G1
 | _=>False
end K2
namespace K2
open PySem (Str)
def yT(sp:nR)(t:AA):fM:=fun E τ G Q=>t E τ G fun ds G1=>sp ds G1 Q E
end K2
end
section
namespace K2
open PySem (Str)
open Enc (enc)
def JC(ds:List D)(G:Gp)(Q:DK):Prop:=match ds with
 | [.ref a]=>(match G a with
  | some (.mO bo)=>bo.length<=1000/\Q (.int (bo.length:Int)) G
  | _=>False)
 | _=>False
def NT(all:List Str)(a:fM):fM:=fun E τ G Q=>a E τ G fun x G1=>match x with
 | .exc c=>all.contains c=true/\Q (.bl true) G1
 | .ye c _ _=>all.contains c=true/\Q (.bl true) G1
 | _=>False
def nM(r r':Ey)(ta tb tc:fM):y8:=fun E τ G Q=>ta E τ G fun x G1=>tb E τ G1 fun y G2=>r x y G2 fun z G3=>∃ k,z=.bl k/\(if k=true then tc E τ G3 fun w G4=>r' y w G4 (fun z' G5=>∃ k',z'=.bl k'/\Q k' G5) else Q false G3)
def h2(t:T2):Int:=PySem.reduceHash (PySem.Builtin.Tuple.tupleHashOf [PySem.hashInt t.a,PySem.hashInt t.b])
def VY(ds:List D)(G:Gp)(Q:DK):Prop:=match ds with
 | [.int a,.int b]=>Q (.int (if a < b then b else a)) G
 | _=>False
end K2
end
section
namespace K2
open Enc (enc)
def bst(lt:Nat->Nat->Bool):Nat->Nat
 | 0=>0
 | j+1=>if lt (j+1) (bst lt j)=true then j+1 else bst lt j
end K2
end
section
namespace K2
open PySem (Str)
def only(a:Nat)(o:GO):Gp:=fun b=>if b=a then some o else none
end K2
end
section
namespace K2
open PySem (Str Txt.slice Txt.item Txt.split Txt.contains)
def tN(a b:D)(G:Gp)(Q:DK):Prop:=match a,b with
 | .str x,.str y=>x.length+y.length<=100000/\Q (.str (x++y)) G
 | _,_=>False
def CW(neg:Bool)(a b:D)(G:Gp)(Q:DK):Prop:=match a,b with
 | .str y,.str x=>Q (.bl (if neg then !(Txt.contains x y) else Txt.contains x y)) G
 | _,_=>False
def Co(ds:List D)(G:Gp)(Q:DK):Prop:=match ds with
 | [.str x]=>x.length<=100000/\Q (.int x.length) G
 | _=>False
def Bv(a b:D)(G:Gp)(Q:DK):Prop:=match a,b with
 | .str x,.int i=>(-(x.length:Int)<=i/\i < x.length/\x.length<=100000)/\Q (.str (Txt.item x i)) G
 | _,_=>False
def oH(a:fM)(lo hi:Y0):fM:=fun E τ G Q=>a E τ G fun x G1=>lo E τ G1 fun l G2=>hi E τ G2 fun h G3=>match x with
 | .str y=>y.length<=100000/\Q (.str (Txt.slice y l h)) G3
 | _=>False
def NZ(ds:List D)(G:Gp)(Q:DK):Prop:=match ds with
 | [.str x]=>∃ n,PySem.intText? x=some n/\x.length<=640/\Q (.int n) G
 | _=>False
def yE(x:D)(ds:List D)(G:Gp)(Q:DK):Prop:=match x,ds with
 | .str y,[.str z]=>(z.length == 0)=false/\y.length<=100000/\mF G (.lst ((Txt.split y z).map D.str)) Q
 | _,_=>False
end K2
namespace K2
open PySem (Str)
def X7(a:fM):Qg:=fun E τ G R=>a E τ G fun x G1=>match x with
 | .str y=>(y.cps.all (· < 128))=true/\R (y.cps.toList.map fun c=>D.str ⟨#[c]⟩) (fun _=>True) G1
 | _=>False
end K2
end
section
namespace K2
open PySem (Str)
def YO(kv:List (Str×Int×Int))(ta:fM):fM:=fun E τ G Q=>ta E τ G fun x G1=>match x with
 | .str y=>Q (.bl (kv.lookup y).isSome) G1
 | _=>False
def Jp(kv:List (Str×Int×Int))(i:Nat)(tk te:fM):i5:=fun E K τ G=>tk E τ G fun x G1=>match x with
 | .str z=>(match kv.lookup z with
  | some p=>te E (τ.set i none) G1 fun d G2=>K.rt (.tup [d,.int p.1,.int p.2]) G2
  | none=>False)
 | _=>False
def YI(all:List Str)(f:Str)(x:D)(G:Gp)(Q:DK):Prop:=match x with
 | .ye c ns ds=>all.contains c=true/\∃ d,(ns.zip ds).lookup f=some d/\Q d G
 | _=>False
def oJ(all:List Str)(f:Str)(te:fM):fM:=fun E τ G Q=>te E τ G fun x G1=>YI all f x G1 Q
end K2
end
section
namespace K2
open Enc (enc)
def yY(ds:List D)(G:Gp)(Q:DK):Prop:=match ds with
 | [x]=>∃ l:List Int,tW x G=some (l.map enc)/\l.length < 64/\∀ m:List Int,m.Nodup->(∀ y,y∈m↔y∈l)->mF G (.lst ((MP m).map enc)) Q
 | _=>False
end K2
end
section
namespace K2
def P8(G2 G1:Gp):Gp:=fun a=>match G2 a with
 | some o=>some o
 | none=>G1 a
end K2
end
section
namespace K2
open PySem (Str)
def Qe(ex:Ex):D:=match ex.xA with
 | []=>.exc ex.cls
 | _ :: _=>.ye ex.cls (ex.xA.map (·.1)) (ex.xA.map (·.2))
def ip(c:Str)(ns:List Str)(te:fM)(t:AA):i5:=fun E _ τ G=>t E τ G fun ds _=>ds.length=ns.length/\(∀ a,te (fun _ _=>False) (some (.ref a) :: ds.map some) (fun _=>none) fun _ _=>True)/\E ⟨c,ns.zip ds⟩ (fun _=>none)
end K2
namespace K2
open PySem (Str)
def Jo(sp:nR)(t:AA)(j i:Nat)(cat Tc:List Str)(th th':i5):i5:=fun _ K τ G =>
 t (fun _ _=>False) τ G fun ds G1=>sp ds (fun _=>none) (fun d G2=>(∀ a o,G2 a=some o->G1 a=none)->K.nx (τ.set j (some d)) (P8 G2 G1)) fun ex _ =>
  (cat.contains ex.cls=true/\th (fun _ _=>False) ⟨fun pV G'=>K.nx (pV.set i none) G',fun _ _=>False,fun _ _=>False,fun _ _=>False⟩ (τ.set i (some (Qe ex))) G1) \/
  (Tc.contains ex.cls=true/\th' (fun _ _=>False) ⟨fun pV G'=>K.nx (pV.set i none) G',fun _ _=>False,fun _ _=>False,fun _ _=>False⟩ (τ.set i (some (Qe ex))) G1)
def S9(m:Nat)(fr:List Nat)(i:Qg)(g:A2)(c:Option y8)(e:fM):fM:=fun E τ G Q =>
 i E τ G fun ds ok G1=>ds.length<=SZ/\i4 g c e ok ds E (vI m fr τ) G1 [] fun xs G2=>mF G2 (.lst xs) Q
def w6(x:D)(ds:List D)(G:Gp)(Q:DK):Prop:=match x,ds with
 | .str y,[.str z]=>0<=fV y z/\Q (.int (fV y z)) G
 | _,_=>False
end K2
end
section
namespace K2.S
open PySem PySem.SetTable
def f5(m i:Nat):Nat:=(i * 5+1) % (m+1)
def TQ(m:Nat):Nat->Nat->Nat
 | 0,i=>i
 | k+1,i=>TQ m k (f5 m i)
theorem AS(m:Nat):∀ (a b i:Nat),TQ m (a+b) i=TQ m b (TQ m a i)
 | 0,b,i=>by rw [yj]; rfl
 | a+1,b,i=>by rw [Ug]; exact AS m a b (f5 m i)
def Mk(m:Nat):Prop:=m=7\/m=31\/m=127
def Z7(m:Nat):Nat->Nat->List Nat
 | 0,_=>[]
 | k+1,i=>i :: Z7 m k (f5 m i)
theorem FA(m:Nat):∀ (n i e:Nat),e∈Z7 m n i->∃ k,k < n/\TQ m k i=e
 | 0,_,_,h=>by cases h
 | n+1,i,e,h=>by
  rcases List.mem_cons.mp h with rfl | h
  ·exact⟨0,lY _,rfl⟩
  ·obtain⟨k,hk,q⟩:=FA m n (f5 m i) e h;exact⟨k+1,Nat.succ_lt_succ hk,q⟩
theorem Ve{m:Nat}(h:Mk m):(∀ e,e < m+1->e∈Z7 m (m+1) 0)/\TQ m (m+1) 0=0:=by
 have key:∀ m,((cA (m+1)).all fun e=>(Z7 m (m+1) 0).contains e)=true->TQ m (m+1) 0=0->(∀ e,e < m+1->e∈Z7 m (m+1) 0)/\TQ m (m+1) 0=0:=fun m h1 h2 =>
  ⟨fun e he=>by simpa using (List.all_eq_true.mp h1) e (List.mem_range.mpr he),h2⟩
 rcases h with rfl | rfl | rfl
 ·exact key _ (by decide +kernel) (by decide +kernel)
 ·exact key _ (by decide +kernel) (by decide +kernel)
 ·exact key _ (by decide +kernel) (by decide +kernel)
theorem cover{m:Nat}(h:Mk m){i e:Nat}(hi:i < m+1)(he:e < m+1):∃ k,k < m+1/\TQ m k i=e:=by
 obtain⟨all,back⟩:=Ve h;obtain⟨a,ha,qa⟩:=FA m _ _ _ (all i hi);obtain⟨b,hb,qb⟩:=FA m _ _ _ (all e he);by_cases c:a<=b
 ·refine⟨b - a,by lia,?_⟩;rw [<-qa,<-AS,show a+(b - a)=b by lia,qb]
 ·refine⟨m+1 - a+b,by lia,?_⟩;rw [<-qa,<-AS,show a+(m+1 - a+b)=(m+1)+b by lia,AS,back,qb]
def lp(m:Nat):Nat->Nat×Nat->Nat×Nat
 | 0,x=>x
 | k+1,x=>lp m k (leap m x.1 x.2)
theorem RF(m:Nat):∀ (a b:Nat) (x:Nat×Nat),lp m (a+b) x=lp m b (lp m a x)
 | 0,b,i=>by rw [yj]; rfl
 | a+1,b,i=>by rw [Ug]; exact RF m a b _
theorem Nj(m:Nat):∀ (k:Nat) (x:Nat×Nat),(lp m k x).2=x.2 / 32 ^ k
 | 0,x=>by rw [Nat.pow_zero,Nat.div_one]; rfl
 | k+1,x=>by
  show (lp m k _).2=_;rw [Nj m k];show x.2 / 32 / 32 ^ k=_;rw [Nat.div_div_eq_div_mul,Nat.pow_succ,Nat.mul_comm]
theorem Ni(m:Nat):∀ (k i:Nat),lp m k (i,0)=(TQ m k i,0)
 | 0,_=>rfl
 | k+1,i=>by
  show lp m k ((i * 5+1+0 / 32) % (m+1),0 / 32)=_;rw [Nat.zero_div,Nat.add_zero];exact Ni m k _
theorem Wv(m:Nat):∀ (k:Nat) (x:Nat×Nat),x.1 < m+1->(lp m k x).1 < m+1
 | 0,_,h=>h
 | k+1,x,_=>Wv m k _ (qQ _ (lY m))
theorem Il{m:Nat}(h:Mk m){x:Nat×Nat}(h1:x.1 < m+1)(h2:x.2 < 2 ^ 64){e:Nat}(he:e < m+1):∃ k,k < m+14/\(lp m k x).1=e:=by
 have z:(lp m 13 x).2=0:=by
  rw [Nj]; exact Nat.div_eq_of_lt (bJ h2 (by decide))
 obtain⟨k,hk,q⟩:=cover h (Wv m 13 x h1) he;refine⟨13+k,by lia,?_⟩;rw [RF,show lp m 13 x=((lp m 13 x).1,0) from by rw [<-z],Ni];exact q
def JY(m:Nat)(p:Probe):Probe :=
 if p.more > 0 then { p with j:=p.j+1,more:=p.more - 1 } else
 { p with j:=(leap m p.i p.perturb).1,more:=runEnd m (leap m p.i p.perturb).1 - (leap m p.i p.perturb).1,i:=(leap m p.i p.perturb).1,perturb:=(leap m p.i p.perturb).2 }
def gS(m:Nat):Nat->Probe->Probe
 | 0,p=>p
 | k+1,p=>gS m k (JY m p)
theorem qg(m:Nat):∀ (a b:Nat) (p:Probe),gS m (a+b) p=gS m b (gS m a p)
 | 0,b,p=>by rw [yj]; rfl
 | a+1,b,p=>by rw [Ug]; exact qg m a b _
theorem OH(m k:Nat)(p:Probe):gS m (k+1) p=JY m (gS m k p):=qg m k 1 p
def PH(m:Nat)(x:Nat×Nat):Probe:={ j:=x.1,more:=runEnd m x.1 - x.1,i:=x.1,perturb:=x.2,dummy:=none }
theorem more_le(m i:Nat):runEnd m i - i<=9:=by unfold runEnd; split <;> lia
theorem wG(m:Nat):∀ (n:Nat) (p:Probe),p.more=n->p.dummy=none->gS m (n+1) p=PH m (leap m p.i p.perturb)
 | 0,p,h,hd=>by
  show JY m p=_;unfold JY;rw [if_neg (by lia)];obtain⟨j,mo,i,pe,d⟩:=p;cases hd; rfl
 | n+1,p,h,hd=>by
  show gS m (n+1) (JY m p)=_;have e:JY m p={ p with j:=p.j+1,more:=p.more - 1 }:=by unfold JY; rw [if_pos (by lia)]
  rw [e];exact wG m n _ (by show p.more - 1=n; lia) hd
theorem abm(m:Nat):∀ (k:Nat) (x:Nat×Nat),∃ n,n<=10 * k/\gS m n (PH m x)=PH m (lp m k x)
 | 0,x=>⟨0,aK _,rfl⟩
 | k+1,x=>by
  obtain⟨n,hn,q⟩:=abm m k (leap m x.1 x.2);refine⟨(runEnd m x.1 - x.1+1)+n,?_,?_⟩
  ·have:=more_le m x.1; lia
  ·rw [qg,wG m (runEnd m x.1 - x.1) (PH m x) rfl rfl]; exact q
structure Pb(m:Nat)(p:Probe):Prop where
 hi:p.i < m+1
 hp:p.perturb < 2 ^ 64
 hm:p.more<=9
 hd:p.dummy=none
theorem Pb.leap{m:Nat}{p:Probe}(h:Pb m p):(leap m p.i p.perturb).1 < m+1/\(leap m p.i p.perturb).2 < 2 ^ 64 :=
 ⟨qQ _ (lY m),iD (Nat.div_le_self _ _) h.hp⟩
theorem Pb.JY{m:Nat}{p:Probe}(h:Pb m p):Pb m (JY m p):=by
 unfold S.JY;split
 ·exact⟨h.hi,h.hp,cE (Nat.sub_le _ _) h.hm,h.hd⟩
 ·exact⟨h.leap.1,h.leap.2,more_le _ _,h.hd⟩
theorem Pb.cover{m:Nat}(hm:Mk m){p:Probe}(h:Pb m p){e:Nat}(he:e < m+1):∃ n,n < 10 * turns m/\(S.gS m n p).j=e:=by
 obtain⟨k,hk,q⟩:=Il hm h.leap.1 h.leap.2 he;obtain⟨n,hn,q2⟩:=abm m k (SetTable.leap m p.i p.perturb);refine⟨p.more+1+n,?_,?_⟩
 ·have:=h.hm; unfold turns; lia
 ·rw [qg,wG m p.more p rfl h.hd,q2]; exact q
theorem Pb.start(t:iL)(h:Int):Pb t.mask (t.probeStart h):=by
 refine⟨qQ _ (lY _),?_,more_le _ _,rfl⟩;show bits h < 2 ^ 64;unfold bits;have h1:0<=h % (2 ^ 64:Int):=iX _ (by decide);have h2:h % (2 ^ 64:Int) < 2 ^ 64:=gP _ (by decide);lia
end K2.S
end
section
namespace K2.S
open PySem PySem.SetTable
def Up(xs:Array Nat):Prop:=∀ a b,a < b->b < xs.size->xs.getD a 0 < xs.getD b 0
theorem Sz(xs:Array Nat){k:Nat}(h:k < xs.size)(a b:Nat):xs.getD k a=xs.getD k b:=by
 rw [bb,bb,bU h]; rfl
theorem Ga{xs:Array Nat}(up:Up xs)(j:Nat):∀ (fuel lo hi:Nat),hi - lo<=fuel->lo<=hi->hi<=xs.size->(∀ k,k < lo->xs.getD k 0 < j)->(∀ k,hi<=k->k < xs.size->j<=xs.getD k 0) ->
  below.go xs j fuel lo hi<=xs.size/\(∀ k,k < below.go xs j fuel lo hi->xs.getD k 0 < j)/\(∀ k,below.go xs j fuel lo hi<=k->k < xs.size->j<=xs.getD k 0)
 | 0,lo,hi,h1,h2,h3,h4,h5=>by
  have e:lo=hi:=by lia
  subst e;exact⟨h3,h4,h5⟩
 | fuel+1,lo,hi,h1,h2,h3,h4,h5=>by
  show (below.go xs j (fuel+1) lo hi)<=_/\_;unfold below.go;by_cases c:lo < hi
  ·rw [if_pos c];have hm:(lo+hi) / 2 < xs.size:=by lia
   dsimp only;rw [Sz xs hm j 0];by_cases q:xs.getD ((lo+hi) / 2) 0 < j
   ·rw [if_pos q];refine Ga up j fuel _ _ (by lia) (by lia) h3 (fun k hk=>?_) h5;by_cases e:k=(lo+hi) / 2
    ·rw [e]; exact q
    ·exact Uh (up _ _ (by lia) hm) q
   ·rw [if_neg q];refine Ga up j fuel _ _ (by lia) (by lia) (by lia) h4 fun k hk hs=>?_;by_cases e:k=(lo+hi) / 2
    ·rw [e]; lia
    ·have:=up ((lo+hi) / 2) k (by lia) hs; lia
  ·rw [if_neg c];exact⟨by lia,h4,fun k hk hs=>h5 k (by lia) hs⟩
theorem rY{xs:Array Nat}(up:Up xs)(j:Nat):below xs j<=xs.size/\(∀ k,k < below xs j->xs.getD k 0 < j)/\(∀ k,below xs j<=k->k < xs.size->j<=xs.getD k 0) :=
 Ga up j _ _ _ (by lia) (by lia) (by lia) (fun k h=>by lia) (fun k h1 h2=>by lia)
theorem below_at{xs:Array Nat}(up:Up xs){k:Nat}(hk:k < xs.size):below xs (xs.getD k 0)=k:=by
 obtain⟨h1,h2,h3⟩:=rY up (xs.getD k 0);by_cases a:below xs (xs.getD k 0) < k
 ·have:=h3 _ (aK _) (by lia);have:=up _ _ a hk;lia
 ·by_cases b:k < below xs (xs.getD k 0)
  ·have:=h2 _ b; lia
  ·lia
def Full(xs:Array Nat)(j:Nat):Prop:=∃ k,k < xs.size/\xs.getD k 0=j
theorem Sw(xs:Array Nat){k:Nat}(h:k < xs.size):xs[k]?=some (xs.getD k 0):=by
 rw [bb,bU h]; rfl
theorem OJ{t:iL}(up:Up t.place){k:Nat}(hk:k < t.place.size):t.slot (t.place.getD k 0)=.live k:=by
 unfold slot;dsimp only;rw [below_at up hk,Sw _ hk];rw [if_pos (by simp)]
theorem KW{t:iL}(up:Up t.place)(dm:t.dummies=#[]){j:Nat}(h:¬ Full t.place j):t.slot j=.empty:=by
 unfold slot;dsimp only;have n1:(t.place[below t.place j]? == some j)=false:=by
  rw [Bool.eq_false_iff];intro q;have q:=beq_iff_eq.mp q;obtain⟨lt,e⟩:=Array.getElem?_eq_some_iff.mp q;exact h ⟨_,lt,by rw [bb,q]; rfl⟩
 rw [n1,dm];rfl
theorem KY{t:iL}(up:Up t.place)(dm:t.dummies=#[])(j:Nat):(¬ Full t.place j/\t.slot j=.empty)\/(∃ k,k < t.place.size/\t.place.getD k 0=j/\t.slot j=.live k):=by
 by_cases h:Full t.place j
 ·obtain⟨k,hk,e⟩:=h;exact .inr ⟨k,hk,e,e ▸ OJ up hk⟩
 ·exact .inl ⟨h,KW up dm h⟩
theorem HS{t:iL}(up:Up t.place)(dm:t.dummies=#[])(hashAt:Nat->Int)(h:Int):∀ (fuel:Nat) (p:Probe),Pb t.mask p->(∃ n,n < fuel/\¬ Full t.place (gS t.mask n p).j) ->
    ∃ n met,probe.go t hashAt h fuel p=some met/\(∀ n',n' < n->∃ k,k < t.place.size/\t.place.getD k 0=(gS t.mask n' p).j/\hashAt k≠h) /\
      ((¬ Full t.place (gS t.mask n p).j/\met=.empty (gS t.mask n p).j none) \/
       (∃ k,k < t.place.size/\t.place.getD k 0=(gS t.mask n p).j/\hashAt k=h/\met=.candidate (gS t.mask n p).j k (gS t.mask (n+1) p)))
  | 0,_,_,⟨n,hn,_⟩=>absurd hn (dh _)
  | fuel+1,p,hp,⟨n,hn,hf⟩=>by
    rcases KY up dm p.j with ⟨nf,e⟩ | ⟨k,hk,ek,e⟩
    · refine⟨0,.empty p.j p.dummy,?_,fun n' z=>absurd z (dh _),.inl ⟨nf,by rw [hp.hd]; rfl⟩⟩
      unfold probe.go;rw [e]
    · by_cases q:hashAt k=h
      · refine⟨0,.candidate p.j k (t.advance p),?_,fun n' z=>absurd z (dh _),.inr ⟨k,hk,ek,q,rfl⟩⟩
        unfold probe.go;rw [e];dsimp only;rw [if_pos (beq_iff_eq.mpr q)]
      · have hn0:∃ m,n=m+1:=by
          cases n with
          | zero=>exact absurd ⟨k,hk,ek⟩ hf
          | succ m=>exact⟨m,rfl⟩
        obtain⟨m,rfl⟩:=hn0;obtain⟨n',met,g,all,fin⟩:=HS up dm hashAt h fuel (JY t.mask p) hp.JY ⟨m,by lia,hf⟩;refine⟨n'+1,met,?_,fun n'' z=>?_,fin⟩
        · unfold probe.go
          rw [e];dsimp only;rw [if_neg (fun z=>q (beq_iff_eq.mp z))];exact g
        · cases n'' with
          | zero=>exact⟨k,hk,ek,q⟩
          | succ n''=>exact all n'' (by lia)
end K2.S
end
section
namespace K2.S
open PySem PySem.SetTable
abbrev En:=Array (Int×Value)
def hk(es:En)(k:Nat):Int:=(es[k]?.map (·.1)).getD 0
structure T9(t:iL)(es:En):Prop where
 ms:Mk t.mask
 dm:t.dummies=#[]
 sz:t.place.size=es.size
 up:Up t.place
 le:∀ k,k < t.place.size->t.place.getD k 0<=t.mask
 yd:t.place.size<=t.mask
 way:∀ k,k < t.place.size->∃ n,(gS t.mask n (probeStart t (hk es k))).j=t.place.getD k 0/\∀ n',n' < n->Full t.place (gS t.mask n' (probeStart t (hk es k))).j
theorem R4{xs:Array Nat}(up:Up xs){m:Nat}(all:∀ e,e<=m->Full xs e):∀ e,e<=m->∀ k,k < xs.size->xs.getD k 0=e->e<=k
 | 0,_,_,_,_=>cu _
 | e+1,he,k,hk,q=>by
  obtain⟨k',TX,q'⟩:=all e (by lia);have ih:=R4 up all e (by lia) k' TX q';have:k' < k:=by
   by_cases c:k' < k
   ·exact c
   ·by_cases d:k=k'
    ·subst d; lia
    ·have:=up k k' (by lia) TX; lia
  lia
theorem OI{xs:Array Nat}(up:Up xs){m:Nat}(yd:xs.size<=m):∃ e,e<=m/\¬ Full xs e:=by
 apply dS;intro no;have all:∀ e,e<=m->Full xs e:=fun e he=>dS fun z=>no ⟨e,he,z⟩;obtain⟨k,hk,q⟩:=all m (aK _);have:=R4 up all m (aK _) k hk q;lia
theorem LN{t:iL}{es:En}(O:T9 t es)(p:Probe)(hp:Pb t.mask p):∃ N,N < 10 * turns t.mask/\¬ Full t.place (gS t.mask N p).j/\∀ n,n < N->Full t.place (gS t.mask n p).j:=by
 obtain⟨e,he,hf⟩:=OI O.up O.yd;obtain⟨n0,hn,q⟩:=hp.cover O.ms (show e < t.mask+1 by lia);have:∀ n,n<=n0->(∃ N,N < 10 * turns t.mask/\¬ Full t.place (gS t.mask N p).j/\∀ n,n < N->Full t.place (gS t.mask n p).j)\/(∀ n',n' < n->Full t.place (gS t.mask n' p).j):=by
  intro n;induction n with
  | zero=>intro _; exact .inr fun n' z=>absurd z (dh _)
  | succ n ih =>
   intro J9;rcases ih (by lia) with a | a
   ·exact .inl a
   ·by_cases c:Full t.place (gS t.mask n p).j
    ·refine .inr fun n' z=>?_;by_cases d:n'=n
     ·rw [d]; exact c
     ·exact a n' (by lia)
    ·exact .inl ⟨n,by lia,c,a⟩
 rcases this n0 (aK _) with a | a
 ·exact a
 ·exact⟨n0,hn,by rw [q]; exact hf,a⟩
theorem mC{α:Type}(xs:Array α)(p:Nat)(x:α)(hp:p<=xs.size):(insertAt xs p x).size=xs.size+1:=by
 rw [<-bS,toList_insertAt,aE,ah,dH,ez,bS]; lia
theorem xj{α:Type}(xs:Array α)(p:Nat)(x:α)(hp:p<=xs.size)(k:Nat):(insertAt xs p x)[k]?=if k < p then xs[k]? else if k=p then some x else xs[k - 1]?:=by
 rw [<-cz,toList_insertAt];have hl:(xs.toList.take p).length=p:=by rw [dH,bS]; lia
 by_cases c:k < p
 ·rw [if_pos c,cm (by lia),uh c,cz]
 ·rw [if_neg c,bA (by lia),hl];by_cases d:k=p
  ·subst d; rw [if_pos rfl,oW]; rfl
  ·rw [if_neg d,show k - p=(k - p - 1)+1 by lia,af,List.getElem?_drop,show p+(k - p - 1)=k - 1 by lia,cz]
theorem jY(xs:Array Nat)(p x:Nat)(hp:p<=xs.size)(k:Nat):(insertAt xs p x).getD k 0=if k < p then xs.getD k 0 else if k=p then x else xs.getD (k - 1) 0:=by
 rw [bb,xj xs p x hp];split
 ·rw [bb]
 ·split
  ·rfl
  ·rw [bb]
theorem OS(t:iL)(dm:t.dummies=#[])(j:Nat):t.put j=({ t with place:=insertAt t.place (below t.place j) j },below t.place j):=by
 unfold SetTable.put;dsimp only;rw [dm];have:has #[] j=false:=rfl;rw [this];cases t;cases dm;rfl
theorem IJ{xs:Array Nat}{p j:Nat}(hp:p<=xs.size){e:Nat}:Full (insertAt xs p j) e↔Full xs e\/e=j:=by
 constructor
 ·rintro⟨k,hk,q⟩;rw [mC xs p j hp] at hk;rw [jY xs p j hp] at q;by_cases c:k < p
  ·rw [if_pos c] at q; exact .inl ⟨k,by lia,q⟩
  ·rw [if_neg c] at q;by_cases d:k=p
   ·rw [if_pos d] at q; exact .inr q.symm
   ·rw [if_neg d] at q; exact .inl ⟨k - 1,by lia,q⟩
 ·rintro(⟨k,hk,q⟩ | q)
  ·by_cases c:k < p
   ·exact⟨k,by rw [mC xs p j hp]; lia,by rw [jY xs p j hp,if_pos c]; exact q⟩
   ·exact⟨k+1,by rw [mC xs p j hp]; lia,by rw [jY xs p j hp,if_neg (by lia),if_neg (by lia)]; exact q⟩
  ·exact⟨p,by rw [mC xs p j hp]; lia,by rw [jY xs p j hp,if_neg (by lia),if_pos rfl]; exact q.symm⟩
theorem T9.add{t:iL}{es:En}(O:T9 t es){h:Int}{x:Value}{N:Nat}(h1:¬ Full t.place (gS t.mask N (probeStart t h)).j)(h2:∀ n,n < N->Full t.place (gS t.mask n (probeStart t h)).j)
  (hj:(gS t.mask N (probeStart t h)).j<=t.mask) (room:t.place.size+1<=t.mask) {t':iL} (e1:t'.mask=t.mask) (e2:t'.dummies=t.dummies)
  (e3:t'.place=insertAt t.place (below t.place (gS t.mask N (probeStart t h)).j) (gS t.mask N (probeStart t h)).j) :
  T9 t' (insertAt es (below t.place (gS t.mask N (probeStart t h)).j) (h,x)):=by
 generalize ej:(gS t.mask N (probeStart t h)).j=j at *;obtain⟨b1,b2,b3⟩:=rY O.up j;generalize below t.place j=p at *;have YU:p<=es.size:=by rw [<-O.sz]; exact b1
 have ZJ:t'.place.size=t.place.size+1:=by rw [e3,mC _ _ _ b1]
 have uW:∀ h,probeStart t' h=probeStart t h:=fun h=>by unfold probeStart; rw [e1]
 have fl:∀ e,Full t.place e->Full t'.place e:=fun e z=>by rw [e3]; exact(IJ b1).mpr (.inl z)
 refine⟨by rw [e1]; exact O.ms,e2.trans O.dm,by rw [ZJ,mC _ _ _ YU,O.sz],?_,?_,by rw [ZJ,e1]; exact room,?_⟩
 ·intro a b ab hb;rw [ZJ] at hb;rw [e3,jY _ _ _ b1,jY _ _ _ b1];by_cases c1:a < p
  ·rw [if_pos c1];by_cases c2:b < p
   ·rw [if_pos c2]; exact O.up a b ab (by lia)
   ·rw [if_neg c2];by_cases c3:b=p
    ·rw [if_pos c3]; exact b2 a c1
    ·rw [if_neg c3];by_cases c4:a=b - 1
     ·lia
     ·exact O.up a (b - 1) (by lia) (by lia)
  ·rw [if_neg c1,if_neg (by lia:¬ b < p),if_neg (by lia:¬ b=p)];by_cases c3:a=p
   ·rw [if_pos c3];have:=b3 (b - 1) (by lia) (by lia);by_cases c5:t.place.getD (b - 1) 0=j
    ·exact absurd ⟨b - 1,by lia,c5⟩ h1
    ·lia
   ·rw [if_neg c3]; exact O.up (a - 1) (b - 1) (by lia) (by lia)
 ·intro k hk;rw [ZJ] at hk;rw [e3,jY _ _ _ b1,e1];by_cases c1:k < p
  ·rw [if_pos c1]; exact O.le k (by lia)
  ·rw [if_neg c1];by_cases c2:k=p
   ·rw [if_pos c2]; exact hj
   ·rw [if_neg c2]; exact O.le (k - 1) (by lia)
 ·intro k hk;rw [ZJ] at hk;have key:∀ k',k' < t.place.size->hk=hk->(insertAt es p (h,x))[k]?=es[k']?->t'.place.getD k 0=t.place.getD k' 0 ->
    ∃ n,(gS t'.mask n (probeStart t' (S.hk (insertAt es p (h,x)) k))).j=t'.place.getD k 0/\∀ n',n' < n->Full t'.place (gS t'.mask n' (probeStart t' (S.hk (insertAt es p (h,x)) k))).j:=by
   intro k' TX _ ee ep;obtain⟨n,q1,q2⟩:=O.way k' TX;have eh:S.hk (insertAt es p (h,x)) k=S.hk es k':=by unfold S.hk; rw [ee]
   rw [eh,uW,e1,ep];exact⟨n,q1,fun n' z=>fl _ (q2 n' z)⟩
  by_cases c1:k < p
  ·refine key k (by lia) rfl ?_ ?_
   ·rw [xj _ _ _ YU,if_pos c1]
   ·rw [e3,jY _ _ _ b1,if_pos c1]
  ·by_cases c2:k=p
   ·have eh:S.hk (insertAt es p (h,x)) k=h:=by unfold S.hk; rw [xj _ _ _ YU,if_neg c1,if_pos c2]; rfl
    rw [eh,uW,e1,e3,jY _ _ _ b1,if_neg c1,if_pos c2];refine⟨N,ej,fun n' z=>?_⟩;exact(IJ b1).mpr (.inl (h2 n' z))
   ·refine key (k - 1) (by lia) rfl ?_ ?_
    ·rw [xj _ _ _ YU,if_neg c1,if_neg c2]
    ·rw [e3,jY _ _ _ b1,if_neg c1,if_neg c2]
end K2.S
end
section
namespace K2.S
open PySem PySem.SetTable
theorem Wi(m:Nat)(x:Nat×Nat):∀ n,n<=runEnd m x.1 - x.1->gS m n (PH m x)={ PH m x with j:=x.1+n,more:=runEnd m x.1 - x.1 - n }
 | 0,_=>rfl
 | n+1,h=>by
  rw [OH,Wi m x n (by lia)];unfold JY;dsimp only;rw [if_pos (by lia)];rfl
theorem Fi{m i:Nat}(h:i < m+1){n:Nat}(hn:n<=runEnd m i - i):i+n < m+1:=by
 unfold runEnd at hn;split at hn <;> lia
def ow(o:Array (Option Nat))(j:Nat):Option Nat:=o.getD j none
theorem Vd{o:Array (Option Nat)}{j:Nat}(h:j < o.size):o.getD j (some 0)=ow o j:=by
 unfold ow; rw [bb,bb,bU h]; rfl
theorem Wq{o:Array (Option Nat)}{j k:Nat}(h:ow o j=some k):j < o.size:=by
 apply dS;intro z;unfold ow at h;rw [bb,ic (by lia)] at h;cases h
theorem Ec{m:Nat}{o:Array (Option Nat)}(sz:o.size=m+1):∀ (fuel:Nat) (x:Nat×Nat),x.1 < m+1->(∃ k,k < fuel/\ow o (lp m k x).1=none) ->
  ∃ n j,layClean.free m o fuel x.1 x.2=some j/\(gS m n (PH m x)).j=j/\j < m+1/\ow o j=none/\∀ n',n' < n->(gS m n' (PH m x)).j < m+1/\ow o (gS m n' (PH m x)).j≠none
 | 0,_,_,⟨_,h,_⟩=>absurd h (dh _)
 | fuel+1,x,hx,⟨k,hk,q⟩=>by
  have pe:∀ n,n<=runEnd m x.1 - x.1->(o.getD (x.1+n) (some 0))=ow o (x.1+n):=fun n hn=>Vd (by rw [sz]; exact Fi hx hn);have pj:∀ n,n<=runEnd m x.1 - x.1->(gS m n (PH m x)).j=x.1+n:=fun n hn=>by rw [Wi m x n hn]
  have hre:x.1<=runEnd m x.1:=by unfold runEnd; split <;> lia
  cases hf:(cA (runEnd m x.1+1 - x.1)).find? fun k=>(o.getD (x.1+k) (some 0)).isNone with
  | some n =>
   obtain⟨h1,h2,h3⟩:=List.find?_range_eq_some.mp hf;have hn:n<=runEnd m x.1 - x.1:=by have:=List.mem_range.mp h2; lia
   rw [pe n hn] at h1;refine⟨n,x.1+n,?_,pj n hn,Fi hx hn,Option.isNone_iff_eq_none.mp h1,fun n' z=>?_⟩
   ·unfold layClean.free; rw [hf]
   ·have J9:n'<=runEnd m x.1 - x.1:=by lia
    have:=h3 n' z;rw [pe n' J9] at this;rw [pj n' J9];refine⟨Fi hx J9,fun e=>?_⟩;rw [e] at this; cases this
  | none =>
   have h3:=List.find?_range_eq_none.mp hf;have all:∀ n',n'<=runEnd m x.1 - x.1->ow o (x.1+n')≠none:=fun n' J9 e=>by
    have:=h3 n' (by lia);rw [pe n' J9,e] at this; cases this
   obtain⟨k,rfl⟩:∃ k',k=k'+1:=by
    cases k with
    | zero=>exact absurd q (all 0 (cu _))
    | succ k=>exact⟨k,rfl⟩
   obtain⟨n,j,g,gj,hj,gn,ga⟩:=Ec sz fuel (leap m x.1 x.2) (qQ _ (lY m)) ⟨k,by lia,q⟩;refine⟨(runEnd m x.1 - x.1+1)+n,j,?_,?_,hj,gn,fun n' z=>?_⟩
   ·unfold layClean.free; rw [hf]; exact g
   ·rw [qg,wG m (runEnd m x.1 - x.1) (PH m x) rfl rfl]; exact gj
   ·by_cases c:n'<=runEnd m x.1 - x.1
    ·rw [pj n' c]; exact⟨Fi hx c,all n' c⟩
    ·have e:n'=(runEnd m x.1 - x.1+1)+(n' - (runEnd m x.1 - x.1+1)):=by lia
     rw [e,qg,wG m (runEnd m x.1 - x.1) (PH m x) rfl rfl];exact ga _ (by lia)
theorem pig:∀ (L:Nat) (l:List Nat),l.Nodup->(∀ x∈l,x < L)->l.length<=L
 | 0,l,_,h=>by
  cases l with
  | nil=>exact aK _
  | cons a r=>exact absurd (h a bH) (dh _)
 | L+1,l,hn,h=>by
  have:=pig L (l.erase L) (hn.erase L) fun x hx=>by
   have:=(hn.mem_erase_iff).mp hx;have:=h x this.2;lia
  rw [List.length_erase] at this;split at this <;> lia
def uW(m:Nat)(h:Int):Probe:=PH m (bits h % (m+1),bits h)
structure Lay(m:Nat)(hs:List Int)(o:Array (Option Nat)):Prop where
 sz:o.size=m+1
 lt:∀ j k,ow o j=some k->k < hs.length
 one:∀ k,k < hs.length->∃ j,ow o j=some k
 P8:∀ j j' k,ow o j=some k->ow o j'=some k->j=j'
 way:∀ j k,ow o j=some k->∃ n,(gS m n (uW m (hs.getD k 0))).j=j/\∀ n',n' < n->ow o (gS m n' (uW m (hs.getD k 0))).j≠none
theorem Lay.nil(m:Nat):Lay m [] (Array.replicate (m+1) none):=by
 have no:∀ j,ow (Array.replicate (m+1) none) j=none:=fun j=>by
  unfold ow;rw [bb,Array.getElem?_replicate];split <;> rfl
 refine⟨Array.size_replicate,fun j k h=>?_,fun k h=>absurd h (dh _),fun j j' k h=>?_,fun j k h=>?_⟩ <;> (rw [no] at h; cases h)
theorem Lay.free{m:Nat}{hs:List Int}{o:Array (Option Nat)}(L:Lay m hs o)(yd:hs.length<=m):∃ j,j < m+1/\ow o j=none:=by
 apply dS;intro no;have all:∀ j,j < m+1->ow o j≠none:=fun j hj e=>no ⟨j,hj,e⟩;have nd:((cA (m+1)).map fun j=>(ow o j).getD 0).Nodup:=by
  rw [sd,kn];refine CJ (fun {a b} ha hb lr e=>?_) (List.nodup_iff_pairwise_ne.mp (List.nodup_range (n:=m+1)));obtain⟨x,hx⟩:=Option.ne_none_iff_exists'.mp (all a (List.mem_range.mp ha));obtain⟨y,hy⟩:=Option.ne_none_iff_exists'.mp (all b (List.mem_range.mp hb));rw [hx,hy] at e;have e:x=y:=e;subst e;exact lr (L.P8 a b x hx hy)
 have:=pig hs.length _ nd fun x hx=>by
  obtain⟨j,hj,rfl⟩:=List.mem_map.mp hx;obtain⟨k,e⟩:=Option.ne_none_iff_exists'.mp (all j (List.mem_range.mp hj));rw [e]; exact L.lt j k e
 rw [ai,fA] at this;lia
theorem K8{o:Array (Option Nat)}{j k:Nat}(hj:j < o.size)(i:Nat):ow (o.setIfInBounds j (some k)) i=if j=i then some k else ow o i:=by
 unfold ow;rw [bb,Array.getElem?_setIfInBounds];by_cases c:j=i
 ·rw [if_pos c,if_pos c,if_pos hj]; rfl
 ·rw [if_neg c,if_neg c,bb]
theorem Lay.step{m:Nat}(hm:Mk m){hs:List Int}{o:Array (Option Nat)}(L:Lay m hs o)(yd:hs.length<=m)(h:Int) :
  ∃ j,layClean.free m o (turns m) (bits h % (m+1)) (bits h)=some j/\Lay m (hs++[h]) (o.setIfInBounds j (some hs.length)):=by
 obtain⟨e,he,hf⟩:=L.free yd;have hb:bits h < 2 ^ 64:=by
  unfold bits;have h1:0<=h % (2 ^ 64:Int):=iX _ (by decide);have h2:h % (2 ^ 64:Int) < 2 ^ 64:=gP _ (by decide);lia
 have hx:bits h % (m+1) < m+1:=qQ _ (lY m);obtain⟨k,hk,q⟩:=Il hm (x:=(bits h % (m+1),bits h)) hx hb he;obtain⟨n,j,g,gj,hj,gn,ga⟩:=Ec L.sz (turns m) (bits h % (m+1),bits h) hx ⟨k,by unfold turns; lia,by rw [q]; exact hf⟩;have hjs:j < o.size:=by rw [L.sz]; exact hj
 have old:∀ i k,ow o i=some k->ow (o.setIfInBounds j (some hs.length)) i=some k:=fun i k z=>by
  rw [K8 hjs,if_neg (fun z2:j=i=>by rw [<-z2,gn] at z; cases z)]; exact z
 have inv:∀ i k,ow (o.setIfInBounds j (some hs.length)) i=some k->(i=j/\k=hs.length)\/(i≠j/\ow o i=some k/\k < hs.length):=fun i k z=>by
  rw [K8 hjs] at z;by_cases c:j=i
  ·rw [if_pos c] at z; cases z; exact .inl ⟨c.symm,rfl⟩
  ·rw [if_neg c] at z; exact .inr ⟨fun z2=>c z2.symm,z,L.lt _ _ z⟩
 have nn:∀ i,ow o i≠none->ow (o.setIfInBounds j (some hs.length)) i≠none:=fun i z=>by
  obtain⟨k,e⟩:=Option.ne_none_iff_exists'.mp z;rw [old i k e]; exact fun z=>by cases z
 refine⟨j,g,⟨by rw [Array.size_setIfInBounds]; exact L.sz,fun i k z=>?_,fun k hk=>?_,fun i i' k z z'=>?_,fun i k z=>?_⟩⟩
 ·rw [aE,bf];rcases inv i k z with ⟨_,rfl⟩ | ⟨_,_,hk⟩ <;> lia
 ·rw [aE,bf] at hk;by_cases c:k=hs.length
  ·exact⟨j,by rw [K8 hjs,if_pos rfl,c]⟩
  ·obtain⟨i,z⟩:=L.one k (by lia);exact⟨i,old i k z⟩
 ·rcases inv i k z with ⟨a,b⟩ | ⟨a,b,c⟩ <;> rcases inv i' k z' with ⟨a',b'⟩ | ⟨a',b',c'⟩
  ·rw [a,a']
  ·lia
  ·lia
  ·exact L.P8 i i' k b b'
 ·rcases inv i k z with ⟨a,b⟩ | ⟨a,b,c⟩
  ·have e:(hs++[h]).getD k 0=h:=by rw [b,aO,bA (aK _),oW]; rfl
   rw [e,a];exact⟨n,gj,fun n' z=>nn _ (ga n' z).2⟩
  ·have e:(hs++[h]).getD k 0=hs.getD k 0:=by rw [aO,cm c,<-aO]
   rw [e];obtain⟨n,q1,q2⟩:=L.way i k b;exact⟨n,q1,fun n' z=>nn _ (q2 n' z)⟩
theorem Nm{m:Nat}(hm:Mk m):∀ (hs:List Int) (TU:List Int) (o:Array (Option Nat)),Lay m TU o->TU.length+hs.length<=m+1 ->
  ∃ o',hs.foldl (fun acc h=>do
   let (owner,k) ← acc
   let j ← layClean.free m owner (turns m) (bits h % (m+1)) (bits h)
   pure (owner.setIfInBounds j (some k),k+1)) (some (o,TU.length))=some (o',(TU++hs).length)/\Lay m (TU++hs) o'
 | [],TU,o,L,_=>⟨o,by rw [bV]; rfl,by rw [bV]; exact L⟩
 | h :: hs,TU,o,L,yd=>by
  obtain⟨j,g,L'⟩:=L.step hm (by rw [ah] at yd; lia) h;obtain⟨o',e,L''⟩:=Nm hm hs (TU++[h]) _ L' (by rw [aE,bf]; rw [ah] at yd; lia);rw [cW,jZ] at e L'';refine⟨o',?_,L''⟩;rw [iP];rw [aE,bf] at e;rw [<-e];congr 1;show (do let j ← layClean.free m o (turns m) (bits h % (m+1)) (bits h); pure (o.setIfInBounds j (some TU.length),TU.length+1))=_;rw [g]; rfl
theorem Ip{m:Nat}(hm:Mk m)(hs:Array Int)(yd:hs.size<=m+1):∃ o,layClean m hs=some o/\Lay m hs.toList o:=by
 obtain⟨o,e,L⟩:=Nm hm hs.toList [] _ (Lay.nil m) (by rw [aq,bS]; lia);refine⟨o,?_,L⟩;unfold layClean;rw [<-Array.foldl_toList];rw [aq] at e;rw [e];rfl
end K2.S
end
section
namespace K2.S
open PySem PySem.SetTable
theorem SK(es:En):∀ (l:List Nat),(∀ k∈l,k < es.size)->l.filterMap (es[·]?)=l.map fun k=>es.getD k (0,.none)
 | [],_=>rfl
 | k :: l,h=>by
  have hk:k < es.size:=h k bH;have e:es[k]?=some (es.getD k (0,.none)):=by rw [bb,bU hk]; rfl
  rw [lJ e,aB,SK es l fun x hx=>h x (aM _ hx)]
theorem RK{m:Nat}(hm:Mk m)(es:En)(yd:es.size<=m)(finger moves:Nat)(led plain:Bool) :
  ∃ t' order,laid m finger moves led plain (es.map (·.1))=some (t',order)/\t'.mask=m/\t'.led=led/\t'.plain=plain/\(order.filterMap (es[·]?)).size=es.size /\
   List.Perm (order.filterMap (es[·]?)).toList es.toList/\T9 t' (order.filterMap (es[·]?))/\order.toList.Perm (cA es.size):=by
 obtain⟨o,e,L⟩:=Ip hm (es.map (·.1)) (by rw [Array.size_map]; lia);have hl:(es.map (·.1)).toList.length=es.size:=by rw [bS,Array.size_map]
 generalize hlv:((cA (m+1)).filterMap fun j=>(o.getD j none).map (j,·))=lv;have mem:∀ p:Nat×Nat,p∈lv↔ow o p.1=some p.2:=by
  rintro⟨j,k⟩;rw [<-hlv,List.mem_filterMap];constructor
  ·rintro⟨a,_,q⟩;obtain⟨b,hb,q⟩:=Option.map_eq_some_iff.mp q;cases q; exact hb
  ·intro q;exact⟨j,List.mem_range.mpr (by have:=Wq q; rw [L.sz] at this; exact this),Option.map_eq_some_iff.mpr ⟨k,q,rfl⟩⟩
 have asc:lv.Pairwise fun a b=>a.1 < b.1:=by
  rw [<-hlv];refine List.Pairwise.filterMap _ (fun a a' r b hb b' B5=>?_) (List.pairwise_lt_range (n:=m+1));obtain⟨_,_,rfl⟩:=Option.map_eq_some_iff.mp hb;obtain⟨_,_,rfl⟩:=Option.map_eq_some_iff.mp B5;exact r
 have nd:(lv.map (·.2)).Nodup:=by
  rw [sd,kn];refine CJ (fun {a b} ha hb r e=>?_) asc;have h1:=(mem a).mp ha;have h2:=(mem b).mp hb;rw [e] at h1;have:=L.P8 _ _ _ h1 h2;lia
 have pm:(lv.map (·.2)).Perm (cA es.size):=by
  refine(Kv nd List.nodup_range).mpr fun k=>?_;rw [List.mem_range,List.mem_map];constructor
  ·rintro⟨p,hp,rfl⟩;have:=L.lt _ _ ((mem p).mp hp);rw [hl] at this; exact this
  ·intro hk;obtain⟨j,q⟩:=L.one k (by rw [hl]; exact hk);exact⟨(j,k),(mem _).mpr q,rfl⟩
 have ll:lv.length=es.size:=by have:=pm.length_eq; rw [ai,fA] at this; exact this
 have inb:∀ k∈lv.map (·.2),k < es.size:=fun k hk=>List.mem_range.mp (pm.mem_iff.mp hk);have es':((lv.map (·.2)).toArray.filterMap (es[·]?)).toList=lv.map fun p=>es.getD p.2 (0,.none):=by
  rw [P4,SK es _ inb,eD]; rfl
 have pes:List.Perm ((lv.map (·.2)).toArray.filterMap (es[·]?)).toList es.toList:=by
  rw [P4];refine(pm.filterMap _).trans ?_;rw [filterMap_getElem?_range]
 have ges:∀ i,((lv.map (·.2)).toArray.filterMap (es[·]?))[i]?=lv[i]?.map fun p:Nat×Nat=>es.getD p.2 (0,.none):=fun i=>by
  rw [<-cz,es',bP]
 have szs:((lv.map (·.2)).toArray.filterMap (es[·]?)).size=es.size:=by
  rw [<-bS,pes.length_eq,bS]
 have gpl:∀ i (hi:i < lv.length),(lv.map (·.1)).toArray.getD i 0=lv[i].1:=fun i hi=>by
  rw [bb,Tz,bP,aj hi]; rfl
 have Y8:(lv.map (·.1)).toArray.size=es.size:=by rw [aS,ai,ll]
 have ful:∀ j,ow o j≠none->Full (lv.map (·.1)).toArray j:=fun j z=>by
  obtain⟨k,q⟩:=Option.ne_none_iff_exists'.mp z;obtain⟨i,hi,ei⟩:=fu ((mem (j,k)).mpr q);exact⟨i,by rw [Y8,<-ll]; exact hi,by rw [gpl i hi,ei]⟩
 refine⟨{ mask:=m,place:=(lv.map (·.1)).toArray,dummies:=#[],finger,led,moves,plain },(lv.map (·.2)).toArray,?_,rfl,rfl,rfl,szs,pes,?_,pm⟩
 ·unfold laid;rw [e];show some _=some _;rw [hlv]
 ·refine⟨hm,rfl,by show (lv.map (·.1)).toArray.size=_; rw [Y8,szs],?_,?_,by show (lv.map (·.1)).toArray.size<=m; rw [Y8]; exact yd,?_⟩
  ·intro a b ab hb;have hb:b < lv.length:=by rw [ll,<-Y8]; exact hb
   show (lv.map (·.1)).toArray.getD a 0 < (lv.map (·.1)).toArray.getD b 0;rw [gpl a (by lia),gpl b hb];exact List.pairwise_iff_getElem.mp asc a b (by lia) hb ab
  ·intro k hk;have hk:k < lv.length:=by rw [ll,<-Y8]; exact hk
   show (lv.map (·.1)).toArray.getD k 0<=m;rw [gpl k hk];have:=Wq ((mem _).mp (cb hk));rw [L.sz] at this; lia
  ·intro k hk;have hk:k < lv.length:=by rw [ll,<-Y8]; exact hk
   have hi:=(mem _).mp (cb hk);have pH:=inb lv[k].2 (List.mem_map_of_mem (cb hk));have eh:S.hk ((lv.map (·.2)).toArray.filterMap (es[·]?)) k=(es.map (·.1)).toList.getD lv[k].2 0:=by
    unfold S.hk;rw [ges,aj hk,aO,cz,Array.getElem?_map,bU pH];show (es.getD lv[k].2 (0,.none)).1=(es[lv[k].2]).1;rw [bb,bU pH]; rfl
   rw [eh];obtain⟨n,q1,q2⟩:=L.way _ _ hi;refine⟨n,?_,fun n' z=>ful _ (q2 n' z)⟩;show _=(lv.map (·.1)).toArray.getD k 0;rw [gpl k hk]; exact q1
end K2.S
end
section
namespace K2
open PySem PySem.Spec PyProof.Rows L2
def Zm(K:ag)(H:Hp)(a:Addr)(xs:List V):Prop :=
 (∃ o,H a=some (.jw o (.lst xs))) \/
  ∃ (o:Obj) (bw:Array Value) (n:Nat),K.lookup a=some o/\o.cls=.type "list"/\o.dict=none/\o.data=.seq bw n/\bw.size<=bg/\Vals xs bw.toList
theorem Zm.sq{K:ag}{H:Hp}{a:Addr}{xs:List V}(h:Zm K H a xs):y9 K H a xs:=by
 rcases h with ⟨o,h⟩ | h
 ·exact .inl (.inr ⟨o,h⟩)
 ·exact .inr h
def fE:Key->D
 | .inl i=>.int i
 | .inr x=>.str x
def ExcAt(K:ag)(H:Hp)(a:Addr)(c:Str):Prop:=∃ (o:Obj) (C:Addr),H a=some (.jw o (.ext fun h=>h.get? a=some o))/\o.cls=.ref C/\bh K aP c=some (some (.ref C))
def Oc(K:ag)(H:Hp)(a:Addr)(c:Str)(ns:List Str)(vs:List V):Prop:=∃ (o:Obj) (C dx:Addr) (od:Obj) (fs:List (Str×V)),H a=some (.jw o (.ext fun h=>h.get? a=some o))/\o.cls=.ref C/\bh K aP c=some (some (.ref C))/\o.dict=some dx/\H dx=some (.jw od (.xd fs))/\Hn o=true/\fs.map (·.1)=ns/\fs.map (·.2)=vs
def hsT(hs:List Int):Int:=reduceHash (Builtin.Tuple.tupleHashOf hs)
def hP(k:PK):Int:=hsT (k.map fun r=>hsT (r.map fun t=>hsT (t.map hashInt)))
def PDo(a:Addr)(xs:List (PK×Addr×Value))(h:Heap):Prop:=xs.length<=bg/\(a == gF)=false/\∃ (o:Obj) (es:Array kL) (ep:Nat),h.get? a=some o/\o.ExactDict/\o.data=.dict es ep/\es.toList=xs.map (fun x=>⟨hP x.1,.ref x.2.1,x.2.2⟩)/\(xs.map (·.1)).Nodup
def abv(bo:List (PK×D))(ks vs:List V)(xs:List (PK×Addr×Value)):Prop:=bo.map (fun p=>p.1)=xs.map (fun x=>x.1)/\ks=xs.map (fun x=>V.ref x.2.1)/\Vals vs (xs.map fun x=>x.2.2)
mutual
inductive cQ (K:ag) (H:Hp):V->D->Prop
 | cR:cQ K H .cR .cR
 | bl (b:Bool):cQ K H (.bl b) (.bl b)
 | int (i:Int):cQ K H (.int i) (.int i)
 | str (x:Str):cQ K H (.str x) (.str x)
 | tup {a:Addr} {vs:List V} {ds:List D}:H a=some (.tup vs)->bc K H vs ds->cQ K H (.ref a) (.tup ds)
 | fH {a:Addr} {vs:List V} {ds:List D}:Zm K H a vs->bc K H vs ds->cQ K H (.ref a) (.fH ds)
 | uO {a:Addr} {o:Obj} {kv:List (Key×V)} {bo:List (D×D)}:H a=some (.jw o (.dK kv))->qR K H kv bo->cQ K H (.ref a) (.vR bo)
 | uN {a:Addr} {o:Obj} {kv:List (List Key×V)} {bo:List (D×D)}:H a=some (.jw o (.dT kv))->r0 K H kv bo->cQ K H (.ref a) (.vR bo)
 | ref (a:Addr):cQ K H (.ref a) (.ref a)
 | exc {a:Addr} {c:Str}:ExcAt K H a c->cQ K H (.ref a) (.exc c)
 | ye {a:Addr} {c:Str} {ns:List Str} {vs:List V} {ds:List D}:Oc K H a c ns vs->bc K H vs ds->cQ K H (.ref a) (.ye c ns ds)
 | DM {a:Addr} {o:Obj} {xs:List (PK×Addr×Value)} {ks vs:List V} {bo:List (PK×D)}:H a=some (.jw o (.ext (PDo a xs)))->abv bo ks vs xs->bc K H ks (bo.map fun p=>Z2 p.1)->bc K H vs (bo.map fun p=>p.2)->cQ K H (.ref a) (.DM bo)
inductive bc (K:ag) (H:Hp):List V->List D->Prop
 | nil:bc K H [] []
 | cons {v:V} {d:D} {vs:List V} {ds:List D}:cQ K H v d->bc K H vs ds->bc K H (v :: vs) (d :: ds)
inductive qR (K:ag) (H:Hp):List (Key×V)->List (D×D)->Prop
 | nil:qR K H [] []
 | cons {k:Key} {v:V} {d:D} {r:List (Key×V)} {t:List (D×D)}:cQ K H v d->qR K H r t->qR K H ((k,v) :: r) ((fE k,d) :: t)
inductive r0 (K:ag) (H:Hp):List (List Key×V)->List (D×D)->Prop
 | nil:r0 K H [] []
 | cons {k:List Key} {v:V} {d:D} {r:List (List Key×V)} {t:List (D×D)}:cQ K H v d->r0 K H r t->r0 K H ((k,v) :: r) ((.tup (k.map fE),d) :: t)
end
structure Kp(H H':Hp):Prop where
 tup:∀ a xs,H a=some (.tup xs)->H' a=some (.tup xs)
 jw:∀ a o u,H a=some (.jw o u)->H' a=some (.jw o u)
theorem Kp.refl(H:Hp):Kp H H:=⟨fun _ _ h=>h,fun _ _ _ h=>h⟩
theorem Kp.trans{H H1 H2:Hp}(a:Kp H H1)(b:Kp H1 H2):Kp H H2:=⟨fun c xs h=>b.tup c xs (a.tup c xs h),fun c o u h=>b.jw c o u (a.jw c o u h)⟩
theorem Kp.sqT{K:ag}{H H':Hp}{a:Addr}{xs:List V}(k:Kp H H')(h:Cq K H a xs):Cq K H' a xs:=by
 rcases h with (h | ⟨o,h⟩) | h
 ·exact .inl (.inl (k.tup _ _ h))
 ·exact .inl (.inr ⟨o,k.jw _ _ _ h⟩)
 ·exact .inr h
theorem Kp.Y7{K:ag}{H H':Hp}{a:Addr}{xs:List V}(k:Kp H H')(h:Zm K H a xs):Zm K H' a xs:=by
 rcases h with ⟨o,h⟩ | h
 ·exact .inl ⟨o,k.jw _ _ _ h⟩
 ·exact .inr h
theorem ExcAt.mono{K:ag}{H H':Hp}(k:Kp H H'){a:Addr}{c:Str}(h:ExcAt K H a c):ExcAt K H' a c :=
 let ⟨o,C,h1,h2,h3⟩:=h
 ⟨o,C,k.jw _ _ _ h1,h2,h3⟩
theorem Oc.mono{K:ag}{H H':Hp}(k:Kp H H'){a:Addr}{c:Str}{ns:List Str}{vs:List V}(h:Oc K H a c ns vs):Oc K H' a c ns vs :=
 let ⟨o,C,dx,od,fs,h1,h2,h3,h4,h5,h6⟩:=h
 ⟨o,C,dx,od,fs,k.jw _ _ _ h1,h2,h3,h4,k.jw _ _ _ h5,h6⟩
theorem bc.Iy{K:ag}{H:Hp}{P:List V->List D->Prop}(h0:P [] [])(h1:∀ {v:V} {d:D} {vs:List V} {ds:List D},cQ K H v d->bc K H vs ds->P vs ds->P (v :: vs) (d :: ds)){vs:List V}{ds:List D}(h:bc K H vs ds):P vs ds :=
 bc.rec (motive_1:=fun _ _ _=>True) (motive_2:=fun vs ds _=>P vs ds) (motive_3:=fun _ _ _=>True) (motive_4:=fun _ _ _=>True) trivial (fun _=>trivial) (fun _=>trivial) (fun _=>trivial) (fun _ _ _=>trivial) (fun _ _ _=>trivial) (fun _ _ _=>trivial) (fun _ _ _=>trivial) (fun _=>trivial) (fun _=>trivial) (fun _ _ _=>trivial) (fun _ _ _ _ _ _=>trivial) h0 (fun a b _ ih=>h1 a b ih) trivial (fun _ _ _ _=>trivial) trivial (fun _ _ _ _=>trivial) h
theorem cQ.mono{K:ag}{H H':Hp}(k:Kp H H'):∀ {v:V} {d:D},cQ K H v d->cQ K H' v d:=fun h =>
 cQ.rec (motive_1:=fun v d _=>cQ K H' v d) (motive_2:=fun v d _=>bc K H' v d) (motive_3:=fun v d _=>qR K H' v d) (motive_4:=fun v d _=>r0 K H' v d)
  .cR .bl .int .str (fun h _ r=>.tup (k.tup _ _ h) r) (fun h _ r=>.fH (k.Y7 h) r) (fun h _ r=>.uO (k.jw _ _ _ h) r) (fun h _ r=>.uN (k.jw _ _ _ h) r) .ref (fun h=>.exc (h.mono k)) (fun h _ r=>.ye (h.mono k) r) (fun h z _ _ r1 r2=>.DM (k.jw _ _ _ h) z r1 r2) .nil (fun _ _ a b=>.cons a b) .nil (fun _ _ a b=>.cons a b) .nil (fun _ _ a b=>.cons a b) h
theorem bc.mono{K:ag}{H H':Hp}(k:Kp H H'){v:List V}{d:List D}(h:bc K H v d):bc K H' v d :=
 bc.Iy (P:=fun v d=>bc K H' v d) .nil (fun r _ ih=>.cons (r.mono k) ih) h
theorem qR.mono{K:ag}{H H':Hp}(k:Kp H H'){v:List (Key×V)}{d:List (D×D)}(h:qR K H v d):qR K H' v d :=
 qR.rec (motive_1:=fun v d _=>cQ K H' v d) (motive_2:=fun v d _=>bc K H' v d) (motive_3:=fun v d _=>qR K H' v d) (motive_4:=fun v d _=>r0 K H' v d)
  .cR .bl .int .str (fun h _ r=>.tup (k.tup _ _ h) r) (fun h _ r=>.fH (k.Y7 h) r) (fun h _ r=>.uO (k.jw _ _ _ h) r) (fun h _ r=>.uN (k.jw _ _ _ h) r) .ref (fun h=>.exc (h.mono k)) (fun h _ r=>.ye (h.mono k) r) (fun h z _ _ r1 r2=>.DM (k.jw _ _ _ h) z r1 r2) .nil (fun _ _ a b=>.cons a b) .nil (fun _ _ a b=>.cons a b) .nil (fun _ _ a b=>.cons a b) h
theorem r0.mono{K:ag}{H H':Hp}(k:Kp H H'){v:List (List Key×V)}{d:List (D×D)}(h:r0 K H v d):r0 K H' v d :=
 r0.rec (motive_1:=fun v d _=>cQ K H' v d) (motive_2:=fun v d _=>bc K H' v d) (motive_3:=fun v d _=>qR K H' v d) (motive_4:=fun v d _=>r0 K H' v d)
  .cR .bl .int .str (fun h _ r=>.tup (k.tup _ _ h) r) (fun h _ r=>.fH (k.Y7 h) r) (fun h _ r=>.uO (k.jw _ _ _ h) r) (fun h _ r=>.uN (k.jw _ _ _ h) r) .ref (fun h=>.exc (h.mono k)) (fun h _ r=>.ye (h.mono k) r) (fun h z _ _ r1 r2=>.DM (k.jw _ _ _ h) z r1 r2) .nil (fun _ _ a b=>.cons a b) .nil (fun _ _ a b=>.cons a b) .nil (fun _ _ a b=>.cons a b) h
theorem bc.length{K:ag}{H:Hp}:∀ {vs:List V} {ds:List D},bc K H vs ds->vs.length=ds.length:=fun h =>
 bc.Iy (P:=fun vs ds=>vs.length=ds.length) rfl (fun _ _ ih=>congrArg (· + 1) ih) h
theorem bc.get{K:ag}{H:Hp}:∀ {vs:List V} {ds:List D} {i:Nat} {d:D},bc K H vs ds->ds[i]?=some d->∃ v,vs[i]?=some v/\cQ K H v d:=by
 intro vs ds i d h;refine bc.Iy (P:=fun vs ds=>∀ (i:Nat) (d:D),ds[i]?=some d->∃ v,vs[i]?=some v/\cQ K H v d) (fun i d e=>by cases e) (fun r _ ih i d e=>?_) h i d;cases i with
 | zero=>cases e; exact⟨_,rfl,r⟩
 | succ i=>exact ih i d e
theorem bc.append{K:ag}{H:Hp}:∀ {vs ws:List V} {ds es:List D},bc K H vs ds->bc K H ws es->bc K H (vs++ws) (ds++es):=fun {_ ws _ es} h s =>
 bc.Iy (P:=fun vs ds=>bc K H (vs++ws) (ds++es)) s (fun r _ ih=>.cons r ih) h
theorem bc.take{K:ag}{H:Hp}:∀ {vs:List V} {ds:List D} (n:Nat),bc K H vs ds->bc K H (vs.take n) (ds.take n):=fun {_ _} n h =>
 bc.Iy (P:=fun vs ds=>∀ n,bc K H (vs.take n) (ds.take n)) (fun n=>by rw [CF,CF]; exact .nil) (fun r _ ih n=>by
  cases n with
  | zero=>exact .nil
  | succ n=>exact .cons r (ih n)) h n
theorem bc.drop{K:ag}{H:Hp}:∀ {vs:List V} {ds:List D} (n:Nat),bc K H vs ds->bc K H (vs.drop n) (ds.drop n):=fun {_ _} n h =>
 bc.Iy (P:=fun vs ds=>∀ n,bc K H (vs.drop n) (ds.drop n)) (fun n=>by rw [CH,CH]; exact .nil) (fun r t ih n=>by
  cases n with
  | zero=>exact .cons r t
  | succ n=>exact ih n) h n
theorem bc.set{K:ag}{H:Hp}{v:V}{d:D}(r:cQ K H v d):∀ {vs:List V} {ds:List D} (i:Nat),bc K H vs ds->bc K H (vs.set i v) (ds.set i d):=fun {_ _} i h =>
 bc.Iy (P:=fun vs ds=>∀ i,bc K H (vs.set i v) (ds.set i d)) (fun i=>by rw [EI,EI]; exact .nil) (fun q t ih i=>by
  cases i with
  | zero=>exact .cons r t
  | succ i=>exact .cons q (ih i)) h i
theorem bc.one{K:ag}{H:Hp}:∀ {vs:List V} {d:D},bc K H vs [d]->∃ v,vs=[v]/\cQ K H v d:=by
 intro vs d h;cases h with
 | cons r t=>cases t; exact⟨_,rfl,r⟩
theorem bc.two{K:ag}{H:Hp}:∀ {vs:List V} {d e:D},bc K H vs [d,e]->∃ v u,vs=[v,u]/\cQ K H v d/\cQ K H u e:=by
 intro vs d e h;cases h with
 | cons r t =>
  obtain⟨u,rfl,q⟩:=bc.one t;exact⟨_,_,rfl,r,q⟩
theorem bc.zero{K:ag}{H:Hp}:∀ {vs:List V},bc K H vs []->vs=[]
 | _,.nil=>rfl
theorem bc.ints{K:ag}{H:Hp}:∀ {vs:List V} {ns:List Int},bc K H vs (ns.map D.int)->vs=ns.map V.int:=by
 intro vs ns;induction ns generalizing vs with
 | nil=>intro h; exact h.zero
 | cons n ns ih =>
  intro h;cases h with
  | cons r t =>
   cases r;rw [ih t]; rfl
theorem bc.FC{K:ag}{H:Hp}:∀ (ns:List Int),bc K H (ns.map V.int) (ns.map D.int)
 | []=>.nil
 | n :: ns=>.cons (.int n) (bc.FC ns)
theorem qR.ind{K:ag}{H:Hp}{motive:∀ (kv:List (Key×V)) (bo:List (D×D)),qR K H kv bo->Prop}(nil:motive [] [] .nil)
  (cons:∀ {k:Key} {v:V} {d:D} {r:List (Key×V)} {t:List (D×D)} (re:cQ K H v d) (rs:qR K H r t),motive r t rs->motive ((k,v) :: r) ((fE k,d) :: t) (.cons re rs)):∀ {kv:List (Key×V)} {bo:List (D×D)} (h:qR K H kv bo),motive kv bo h:=fun h =>
 qR.rec (motive_1:=fun _ _ _=>True) (motive_2:=fun _ _ _=>True) (motive_3:=motive) (motive_4:=fun _ _ _=>True) trivial (fun _=>trivial) (fun _=>trivial) (fun _=>trivial) (fun _ _ _=>trivial) (fun _ _ _=>trivial) (fun _ _ _=>trivial) (fun _ _ _=>trivial) (fun _=>trivial) (fun _=>trivial) (fun _ _ _=>trivial) (fun _ _ _ _ _ _=>trivial) trivial (fun _ _ _ _=>trivial) nil (fun a b _ ih=>cons a b ih) trivial (fun _ _ _ _=>trivial) h
theorem r0.ind{K:ag}{H:Hp}{motive:∀ (kv:List (List Key×V)) (bo:List (D×D)),r0 K H kv bo->Prop}(nil:motive [] [] .nil)
  (cons:∀ {k:List Key} {v:V} {d:D} {r:List (List Key×V)} {t:List (D×D)} (re:cQ K H v d) (rs:r0 K H r t),motive r t rs->motive ((k,v) :: r) ((.tup (k.map fE),d) :: t) (.cons re rs)):∀ {kv:List (List Key×V)} {bo:List (D×D)} (h:r0 K H kv bo),motive kv bo h:=fun h =>
 r0.rec (motive_1:=fun _ _ _=>True) (motive_2:=fun _ _ _=>True) (motive_3:=fun _ _ _=>True) (motive_4:=motive) trivial (fun _=>trivial) (fun _=>trivial) (fun _=>trivial) (fun _ _ _=>trivial) (fun _ _ _=>trivial) (fun _ _ _=>trivial) (fun _ _ _=>trivial) (fun _=>trivial) (fun _=>trivial) (fun _ _ _=>trivial) (fun _ _ _ _ _ _=>trivial) trivial (fun _ _ _ _=>trivial) trivial (fun _ _ _ _=>trivial) nil (fun a b _ ih=>cons a b ih) h
theorem qR.length{K:ag}{H:Hp}:∀ {v:List (Key×V)} {d:List (D×D)},qR K H v d->v.length=d.length:=fun h =>
 qR.ind (motive:=fun v d _=>v.length=d.length) rfl (fun _ _ ih=>congrArg (· + 1) ih) h
theorem r0.length{K:ag}{H:Hp}:∀ {v:List (List Key×V)} {d:List (D×D)},r0 K H v d->v.length=d.length:=fun h =>
 r0.ind (motive:=fun v d _=>v.length=d.length) rfl (fun _ _ ih=>congrArg (· + 1) ih) h
def PX(K:ag)(H:Hp)(a:Addr):GO->Prop
 | .lst ds=>∃ vs,H a=some (.lst vs)/\bc K H vs ds
 | .mO bo=>(∃ kv,H a=some (.dK kv)/\qR K H kv bo)\/∃ kv,H a=some (.dT kv)/\r0 K H kv bo
 | .ins c fs=>∃ C dx fv,H a=some (.ins C dx fv)/\bh K aP c=some (some (.ref C))/\fv.map (·.1)=fs.map (·.1)/\bc K H (fv.map (·.2)) (fs.map (·.2))
 | .NM bo=>∃ xs ks vs,H a=some (.ext (PDo a xs))/\abv bo ks vs xs/\bc K H ks (bo.map fun p=>Z2 p.1)/\bc K H vs (bo.map fun p=>p.2)
def lW(K:ag)(H:Hp)(G:Gp):Prop:=∀ a g,G a=some g->PX K H a g
theorem PX.dk{K:ag}{H:Hp}{a:Addr}{kv:List (Key×V)}{bo:List (D×D)}(h:H a=some (.dK kv))(r:qR K H kv bo):PX K H a (.mO bo):=.inl ⟨kv,h,r⟩
theorem PX.mono{K:ag}{H H':Hp}{a:Addr}{g:GO}(k:Kp H H')(e:H' a=H a)(h:PX K H a g):PX K H' a g:=by
 cases g with
 | lst ds=>obtain⟨vs,q,r⟩:=h; exact⟨vs,e.trans q,r.mono k⟩
 | ins c fs=>obtain⟨C,dx,fv,q,h1,h2,r⟩:=h; exact⟨C,dx,fv,e.trans q,h1,h2,r.mono k⟩
 | NM bo=>obtain⟨xs,ks,vs,q,h1,r1,r2⟩:=h; exact⟨xs,ks,vs,e.trans q,h1,r1.mono k,r2.mono k⟩
 | mO bo =>
  rcases h with ⟨kv,q,r⟩ | ⟨kv,q,r⟩
  ·exact .inl ⟨kv,e.trans q,r.mono k⟩
  ·exact .inr ⟨kv,e.trans q,r.mono k⟩
theorem PX.tracked{K:ag}{H:Hp}{a:Addr}{g:GO}(h:PX K H a g):H a≠none:=by
 cases g with
 | lst ds=>obtain⟨vs,q,r⟩:=h; rw [q]; simp
 | ins c fs=>obtain⟨C,dx,fv,q,_⟩:=h; rw [q]; simp
 | NM bo=>obtain⟨xs,ks,vs,q,_⟩:=h; rw [q]; simp
 | mO bo =>
  rcases h with ⟨kv,q,r⟩ | ⟨kv,q,r⟩
  ·rw [q]; simp
  ·rw [q]; simp
theorem lW.free{K:ag}{H:Hp}{G:Gp}{a:Addr}(h:lW K H G)(e:H a=none):G a=none:=by
 cases q:G a with
 | none=>rfl
 | some g=>exact absurd e (h a g q).tracked
theorem lW.Wr{K:ag}{H:Hp}{G:Gp}{a:Addr}{xs:List V}(h:lW K H G)(e:H a=some (.tup xs)):G a=none:=by
 cases q:G a with
 | none=>rfl
 | some g =>
  have z:=h a g q;cases g with
  | lst ds=>obtain⟨vs,q,r⟩:=z; rw [e] at q; cases q
  | ins c fs=>obtain⟨C,dx,fv,q,_⟩:=z; rw [e] at q; cases q
  | NM bo=>obtain⟨xs,ks,vs,q,_⟩:=z; rw [e] at q; cases q
  | mO bo =>
   rcases z with ⟨kv,q,r⟩ | ⟨kv,q,r⟩
   ·rw [e] at q; cases q
   ·rw [e] at q; cases q
theorem lW.Ws{K:ag}{H:Hp}{G:Gp}{a:Addr}{o:Obj}{u:HO}(h:lW K H G)(e:H a=some (.jw o u)):G a=none:=by
 cases q:G a with
 | none=>rfl
 | some g =>
  have z:=h a g q;cases g with
  | lst ds=>obtain⟨vs,q,r⟩:=z; rw [e] at q; cases q
  | ins c fs=>obtain⟨C,dx,fv,q,_⟩:=z; rw [e] at q; cases q
  | NM bo=>obtain⟨xs,ks,vs,q,_⟩:=z; rw [e] at q; cases q
  | mO bo =>
   rcases z with ⟨kv,q,r⟩ | ⟨kv,q,r⟩
   ·rw [e] at q; cases q
   ·rw [e] at q; cases q
structure Mv(K:ag)(H:Hp)(G:Gp)(H':Hp)(G':Gp):Prop where
 keep:∀ a o,H a=some o->G a=none->H' a=some o/\G' a=none
 jo:∀ a,G a≠none->H' a≠none
 ab:lW K H' G'
theorem Mv.refl{K:ag}{H:Hp}{G:Gp}(h:lW K H G):Mv K H G H G:=⟨fun _ _ e n=>⟨e,n⟩,fun a n=>by
 cases q:G a with
 | none=>exact absurd q n
 | some g=>exact(h a g q).tracked,h⟩
theorem Mv.trans{K:ag}{H H1 H2:Hp}{G G1 G2:Gp}(a:Mv K H G H1 G1)(b:Mv K H1 G1 H2 G2):Mv K H G H2 G2 :=
 ⟨fun c o e n=>let ⟨e1,n1⟩:=a.keep c o e n; b.keep c o e1 n1,fun c n=>by
  have h1:=a.jo c n;cases q:G1 c with
  | some g=>exact b.jo c (by rw [q]; simp)
  | none =>
   cases q1:H1 c with
   | none=>exact absurd q1 h1
   | some o=>rw [(b.keep c o q1 q).1]; simp,b.ab⟩
theorem Mv.kp{K:ag}{H H':Hp}{G G':Gp}(m:Mv K H G H' G')(h:lW K H G):Kp H H' :=
 ⟨fun a xs e=>(m.keep a _ e (h.Wr e)).1,fun a o u e=>(m.keep a _ e (h.Ws e)).1⟩
theorem Kp.new{H:Hp}{p:Addr}{o:HO}(hp:H p=none):Kp H (upd H p o):=⟨fun a xs e=>by rw [br (ff e hp)]; exact e,fun a ob u e=>by rw [br (ff e hp)]; exact e⟩
theorem Kp.putL{H:Hp}{p:Addr}{xs:List V}{o:HO}(hp:H p=some (.lst xs)):Kp H (upd H p o) :=
 ⟨fun a ys e=>by rw [br (by rintro rfl; rw [hp] at e; cases e)]; exact e,fun a ob u e=>by rw [br (by rintro rfl; rw [hp] at e; cases e)]; exact e⟩
theorem Mv.new{K:ag}{H:Hp}{G:Gp}{p:Addr}{o:HO}{g:GO}(h:lW K H G)(hp:H p=none)(ho:PX K (upd H p o) p g):Mv K H G (upd H p o) (dE G p g) where
 keep:=fun a ob e n=>by
  have ne:=ff e hp;exact⟨by rw [br ne]; exact e,by rw [dR ne]; exact n⟩
 jo:=fun a n=>by
  have ne:a≠p:=by rintro rfl; exact n (h.free hp)
  rw [br ne];exact(Mv.refl h).jo a n
 ab:=fun a g' e=>by
  by_cases ha:a=p
  ·subst ha; rw [aW] at e; cases e; exact ho
  ·rw [dR ha] at e;exact(h a g' e).mono (.new hp) (br ha)
theorem Mv.Sj{K:ag}{H:Hp}{G:Gp}{p:Addr}{o:HO}(h:lW K H G)(hp:H p=none):Mv K H G (upd H p o) G where
 keep:=fun a ob e n=>⟨by rw [br (ff e hp)]; exact e,n⟩
 jo:=fun a n=>by
  have ne:a≠p:=by rintro rfl; exact n (h.free hp)
  rw [br ne];exact(Mv.refl h).jo a n
 ab:=fun a g' e=>by
  have ne:a≠p:=by rintro rfl; rw [h.free hp] at e; cases e
  exact(h a g' e).mono (.new hp) (br ne)
theorem Mv.put{K:ag}{H:Hp}{G:Gp}{p:Addr}{o:HO}{g g0:GO}(h:lW K H G)(hg:G p=some g0)(k:Kp H (upd H p o))(ho:PX K (upd H p o) p g):Mv K H G (upd H p o) (dE G p g) where
 keep:=fun a ob e n=>by
  have ne:a≠p:=by rintro rfl; rw [hg] at n; cases n
  exact⟨by rw [br ne]; exact e,by rw [dR ne]; exact n⟩
 jo:=fun a n=>by
  by_cases ha:a=p
  ·subst ha; rw [cP]; simp
  ·rw [br ha]; exact(Mv.refl h).jo a n
 ab:=fun a g' e=>by
  by_cases ha:a=p
  ·subst ha; rw [aW] at e; cases e; exact ho
  ·rw [dR ha] at e;exact(h a g' e).mono k (br ha)
theorem lW.lst{K:ag}{H:Hp}{G:Gp}{a:Addr}{ds:List D}(h:lW K H G)(e:G a=some (.lst ds)):∃ vs,H a=some (.lst vs)/\bc K H vs ds:=h a _ e
theorem Mv.FH{K:ag}{H:Hp}{G:Gp}{p:Addr}{vs:List V}{ds:List D}(h:lW K H G)(hp:H p=none)(r:bc K H vs ds):Mv K H G (upd H p (.lst vs)) (dE G p (.lst ds)) :=
 .new h hp ⟨vs,cP,r.mono (.new hp)⟩
theorem Mv.putL{K:ag}{H:Hp}{G:Gp}{p:Addr}{vs0 vs:List V}{ds0 ds:List D}(h:lW K H G)(hg:G p=some (.lst ds0))(hp:H p=some (.lst vs0))(r:bc K H vs ds):Mv K H G (upd H p (.lst vs)) (dE G p (.lst ds)) :=
 .put h hg (.putL hp) ⟨vs,cP,r.mono (.putL hp)⟩
structure Ke(K:ag)(H:Hp)(σ:L2.St)(τ:iK):Prop where
 len:σ.length=τ.length
 at':∀ (i:Nat) (d:D),τ[i]?=some (some d)->∃ v,σ[i]?=some (some v)/\cQ K H v d
theorem Ke.mono{K:ag}{H H':Hp}{σ:L2.St}{τ:iK}(k:Kp H H')(a:Ke K H σ τ):Ke K H' σ τ :=
 ⟨a.len,fun i d e=>let ⟨v,h1,h2⟩:=a.at' i d e; ⟨v,h1,h2.mono k⟩⟩
theorem Ke.set{K:ag}{H:Hp}{σ:L2.St}{τ:iK}{v:V}{d:D}(a:Ke K H σ τ)(i:Nat)(r:cQ K H v d):Ke K H (σ.set i (some v)) (τ.set i (some d)):=by
 refine⟨by rw [dJ,dJ]; exact a.len,fun j e h=>?_⟩;by_cases hj:i=j
 ·subst hj;by_cases hi:i < τ.length
  ·rw [eG hi] at h;cases h;exact⟨v,by rw [eG (by rw [a.len]; exact hi)],r⟩
  ·rw [List.set_eq_of_length_le (by lia)] at h;rw [iC (by lia)] at h;cases h
 ·rw [eE hj] at h;obtain⟨w,h1,h2⟩:=a.at' j e h;exact⟨w,by rw [eE hj]; exact h1,h2⟩
structure I2(X:Cx)(pins:List (Addr×Obj))(σ:L2.St)(H:Hp)(τ:iK)(G:Gp)(s:ao):Prop where
 inv:Inv X pins σ H s
 st:Ke X.K H σ τ
 ab:lW X.K H G
theorem I2.mv{X:Cx}{pins:List (Addr×Obj)}{σ:L2.St}{H H':Hp}{τ:iK}{G G':Gp}{s s':ao}(I:I2 X pins σ H τ G s)(I':Inv X pins σ H' s')(m:Mv X.K H G H' G'):I2 X pins σ H' τ G' s' :=
 ⟨I',I.st.mono (m.kp I.ab),m.ab⟩
def Dr(B:Heap)(l:List Env)(e:Addr)(cls a0:Value)(h:Heap):Prop :=
 B.StaysIn h/\B.get? e=none/\h.FunFrames B l/\((∃ fl,h.TracedAtW B e cls a0 fl)\/∃ oe vs,h.get? e=some oe/\oe.cls=cls/\oe.data=.fields vs/\vs[0]?=some a0/\vs[1]?=some .none)
def EB(P:bx)(w:World):Qk:=fun outer H s E e s'=>∃ (a C t:Addr) (B:Heap) (H':Hp),e=.ref a/\s'.os=s.os/\Bb s'.gens/\Un (o4 outer) [] H H' s.heap s'.heap/\sL P w H' s'.heap /\
 (∀ b o,s'.heap.get? b=some o->b∉o4 outer->(s.heap.get? b≠none\/H' b≠none)->B.get? b=some o)/\Dr B outer a (.ref C) (.ref t) s'.heap/\H' a=none/\s.heap.get? a=none/\∃ oe,s'.heap.get? a=some oe/\E (.ref C) oe.dict H'
def WW(K:ag)(H:Hp)(l:List (Str×D))(o:Option Addr):Prop:=l=[]\/∃ (dx:Addr) (od:Obj) (fs:List (Str×V)),o=some dx/\H dx=some (.jw od (.xd fs))/\fs.map (·.1)=l.map (·.1)/\bc K H (fs.map (·.2)) (l.map (·.2))
theorem WW.mono{K:ag}{H H':Hp}{l:List (Str×D)}{o:Option Addr}(k:Kp H H')(h:WW K H l o):WW K H' l o :=
 h.imp id fun ⟨dx,od,fs,e,e1,e2,r⟩=>⟨dx,od,fs,e,k.2 _ _ _ e1,e2,r.mono k⟩
def exK(K:ag)(mg:Str->Option Value)(E:lu):XK:=fun cls o H=>∃ (ex:Ex) (C:Addr) (G:Gp),cls=.ref C/\mg ex.cls=some (.ref C)/\lW K H G/\E ex G/\WW K H ex.xA o
structure Lk(X:Cx)(E:lu):Prop where
 pass:∀ (pins:List (Addr×Obj)) (σ:L2.St) (H:Hp) (s s':ao) (e:Value),Inv X pins σ H s->EB X.prog X.w X.stack H s (exK X.K X.mg E) e s'->X.xe e s'
theorem Lk.none{X:Cx}{E:lu}(h:∀ ex G,¬ E ex G):Lk X E where
 pass:=fun _ _ _ _ _ _ _ hc=>by
  obtain⟨_,_,_,_,_,_,_,_,_,_,_,_,_,_,_,_,hz⟩:=hc;obtain⟨ex,_,_,_,_,_,z,_⟩:=hz;exact absurd z (h ex _)
inductive qN (X:Cx) (pins:List (Addr×Obj)) (σ:L2.St) (H:Hp) (G:Gp) (Q:DK) (u:Value) (s':ao):Prop
 | mk (v:V) (H':Hp) (d:D) (G':Gp) (i:Inv X pins σ H' s') (m:Mv X.K H G H' G') (r:RelV v u) (rd:cQ X.K H' v d) (q:Q d G'):qN X pins σ H G Q u s'
inductive Zk (X:Cx) (pins:List (Addr×Obj)) (σ:L2.St) (H:Hp) (G:Gp) (Q:Bool->Gp->Prop) (b:Bool) (s':ao):Prop
 | mk (H':Hp) (G':Gp) (i:Inv X pins σ H' s') (m:Mv X.K H G H' G') (q:Q b G'):Zk X pins σ H G Q b s'
inductive AP2 (X:Cx) (pins:List (Addr×Obj)) (σ:L2.St) (H:Hp) (G:Gp) (Q:List D->Gp->Prop) (us:List Value) (s':ao):Prop
 | mk (vs:List V) (H':Hp) (ds:List D) (G':Gp) (i:Inv X pins σ H' s') (m:Mv X.K H G H' G') (r:Vals vs us) (rd:bc X.K H' vs ds) (q:Q ds G'):AP2 X pins σ H G Q us s'
inductive SPn (X:Cx) (pins:List (Addr×Obj)) (H:Hp) (G:Gp) (P:iK->Gp->Prop) (s':ao):Prop
 | mk (kG:L2.St) (H':Hp) (pV:iK) (G':Gp) (i:I2 X pins kG H' pV G' s') (m:Mv X.K H G H' G') (q:P pV G'):SPn X pins H G P s'
inductive SPr (X:Cx) (pins:List (Addr×Obj)) (H:Hp) (G:Gp) (P:D->Gp->Prop) (u:Value) (s':ao):Prop
 | mk (v:V) (kG:L2.St) (H':Hp) (d:D) (G':Gp) (i:Inv X pins kG H' s') (m:Mv X.K H G H' G') (r:RelV v u) (rd:cQ X.K H' v d) (q:P d G'):SPr X pins H G P u s'
def V5(X:Cx)(pins:List (Addr×Obj))(H:Hp)(G:Gp)(D:oO)(f:Flow)(s':ao):Prop :=
 match f with
 | .next=>SPn X pins H G D.nx s'
 | .brk=>SPn X pins H G D.bk s'
 | .cont=>SPn X pins H G D.ct s'
 | .ret u=>SPr X pins H G D.rt u s'
def gy(X:Cx)(e:Expr)(t:fM):Prop :=
 ∀ (E:lu) (pins:List (Addr×Obj)) (s:ao) (σ:L2.St) (H:Hp) (τ:iK) (G:Gp) (Q:DK),Lk X E->I2 X pins σ H τ G s->t E τ G Q->wpAny (model X.prog X.w) X.A (eval e X.env) (qN X pins σ H G Q) X.xe s
def He(X:Cx)(e:Expr)(t:y8):Prop :=
 ∀ (E:lu) (pins:List (Addr×Obj)) (s:ao) (σ:L2.St) (H:Hp) (τ:iK) (G:Gp) (Q:Bool->Gp->Prop),Lk X E->I2 X pins σ H τ G s->t E τ G Q->wpAny (model X.prog X.w) X.A (isTrue e X.env (eval e X.env)) (Zk X pins σ H G Q) X.xe s
def Ka(X:Cx)(e:Expr)(t:y8):Prop :=
 ∀ (wh:Sem Value) (E:lu) (pins:List (Addr×Obj)) (s:ao) (σ:L2.St) (H:Hp) (τ:iK) (G:Gp) (Q:Bool->Gp->Prop),Lk X E->I2 X pins σ H τ G s->t E τ G Q->wpAny (model X.prog X.w) X.A (isTrue e X.env wh) (Zk X pins σ H G Q) X.xe s
def GN(X:Cx)(es:List Expr)(t:AA):Prop :=
 ∀ (pos:Pos) (E:lu) (pins:List (Addr×Obj)) (s:ao) (σ:L2.St) (H:Hp) (τ:iK) (G:Gp) (Q:List D->Gp->Prop),Lk X E->I2 X pins σ H τ G s->t E τ G Q->wpAny (model X.prog X.w) X.A (pR (i6 pos (bB es X.env))) (AP2 X pins σ H G Q) X.xe s
def Kb(X:Cx)(st:Stmt)(t:i5):Prop :=
 ∀ (E:lu) (pins:List (Addr×Obj)) (s:ao) (σ:L2.St) (H:Hp) (τ:iK) (G:Gp) (D:oO),Lk X E->I2 X pins σ H τ G s->t E D τ G->wpAny (model X.prog X.w) X.A (exec st X.env) (V5 X pins H G D) X.xe s
def sJ(X:Cx)(st:List Stmt)(t:i5):Prop :=
 ∀ (E:lu) (pins:List (Addr×Obj)) (s:ao) (σ:L2.St) (H:Hp) (τ:iK) (G:Gp) (D:oO),Lk X E->I2 X pins σ H τ G s->t E D τ G->wpAny (model X.prog X.w) X.A (execs st X.env) (V5 X pins H G D) X.xe s
theorem V5.trans{X:Cx}{pins:List (Addr×Obj)}{H H1:Hp}{G G1:Gp}{D:oO}{f:Flow}{s':ao}(m:Mv X.K H G H1 G1)(h:V5 X pins H1 G1 D f s'):V5 X pins H G D f s':=by
 cases f with
 | next=>obtain⟨kG,H',pV,G',I,m',q⟩:=h; exact⟨kG,H',pV,G',I,m.trans m',q⟩
 | brk=>obtain⟨kG,H',pV,G',I,m',q⟩:=h; exact⟨kG,H',pV,G',I,m.trans m',q⟩
 | cont=>obtain⟨kG,H',pV,G',I,m',q⟩:=h; exact⟨kG,H',pV,G',I,m.trans m',q⟩
 | ret u=>obtain⟨v,kG,H',d,G',I,m',r,rd,q⟩:=h; exact⟨v,kG,H',d,G',I,m.trans m',r,rd,q⟩
section
variable {X:Cx} {a b c:Expr} {ta tb tc:fM} {pos:Pos}
theorem jC{pins:List (Addr×Obj)}{σ:L2.St}{H:Hp}{τ:iK}{G:Gp}{s:ao}{E:lu}{R:DK}{Q:Value->ao->Prop}(ha:gy X a ta)(hE:Lk X E)(I:I2 X pins σ H τ G s)(h:ta E τ G R)
  (k:∀ v H1 d G1 u s1,I2 X pins σ H1 τ G1 s1->Mv X.K H G H1 G1->RelV v u->cQ X.K H1 v d->R d G1->Q u s1):wpAny (model X.prog X.w) X.A (eval a X.env) Q X.xe s :=
 gK (ha E pins s σ H τ G R hE I h) (by rintro u s1 ⟨v,H1,d,G1,I1,m,r,rd,q⟩; exact k v H1 d G1 u s1 (I.mv I1 m) m r rd q)
theorem qN.trans{pins:List (Addr×Obj)}{σ:L2.St}{H H1:Hp}{G G1:Gp}{Q:DK}{u:Value}{s':ao}(m:Mv X.K H G H1 G1)(h:qN X pins σ H1 G1 Q u s'):qN X pins σ H G Q u s':=by
 obtain⟨v,H',d,G',I,m',r,rd,q⟩:=h;exact⟨v,H',d,G',I,m.trans m',r,rd,q⟩
theorem Zk.trans{pins:List (Addr×Obj)}{σ:L2.St}{H H1:Hp}{G G1:Gp}{Q:Bool->Gp->Prop}{u:Bool}{s':ao}(m:Mv X.K H G H1 G1)(h:Zk X pins σ H1 G1 Q u s'):Zk X pins σ H G Q u s':=by
 obtain⟨H',G',I,m',r⟩:=h;exact⟨H',G',I,m.trans m',r⟩
theorem U8 {i:Nat} {x:Str} (hN:X.N[i]?=some x) (hv:YX X.env.scope x) (hd:autoParam ((x == ("__debug__" : Str))=false) Ad._auto_1) (vT:autoParam ((x == ("__classdict__" : Str))=false) Ad._auto_1):gy X (.Name x pos) (ay i):=by
 intro E pins s σ H τ G Q hE I h;unfold ay at h;split at h
 ·rename_i d e;obtain⟨v,h1,h2⟩:=I.st.at' i d e;exact gK (K7 hN hv hd vT pins s σ H (fun v' H'=>v'=v/\H'=H) I.inv ⟨v,h1,rfl,rfl⟩) fun u s1 D5=>by
   obtain⟨v',H',I1,r,e1,e2⟩:=D5;subst e1; subst e2;exact⟨_,_,d,G,I1,.refl I.ab,r,h2,h⟩
 ·exact h.elim
theorem nU{e:Expr}{v:V}{d:D}(h:PE X e (tC v))(r:∀ K H,cQ K H v d):gy X e (dC d):=by
 intro E pins s σ H τ G Q hE I hq;exact gK (h pins s σ H (fun v' H'=>v'=v/\H'=H) I.inv ⟨rfl,rfl⟩) fun u s1 hp1=>by
  obtain⟨v',H',I1,rr,e1,e2⟩:=hp1;subst e1; subst e2;exact⟨_,_,d,G,I1,.refl I.ab,rr,r _ _,hq⟩
theorem aJ{i j}:gy X (.Constant (.int i) j pos) (dC (.int i)):=nU Xy fun _ _=>.int i
def oN(X:Cx)(f:Value->Value->Sem Value)(r:Ey):Prop :=
 ∀ (pins:List (Addr×Obj)) (s:ao) (σ:L2.St) (H:Hp) (G:Gp) (x y:V) (dx dy:D) (v u:Value) (Q:DK),Inv X pins σ H s->lW X.K H G->RelV x v->RelV y u->cQ X.K H x dx->cQ X.K H y dy->r dx dy G Q ->
  wpAny (model X.prog X.w) X.A (f v u) (qN X pins σ H G Q) X.xe s
def abr(X:Cx)(f:Value->Sem Value)(r:D->Gp->DK->Prop):Prop :=
 ∀ (pins:List (Addr×Obj)) (s:ao) (σ:L2.St) (H:Hp) (G:Gp) (x:V) (dx:D) (v:Value) (Q:DK),Inv X pins σ H s->lW X.K H G->RelV x v->cQ X.K H x dx->r dx G Q ->
  wpAny (model X.prog X.w) X.A (f v) (qN X pins σ H G Q) X.xe s
def oP(X:Cx)(f:Value)(r:List D->Gp->DK->Prop):Prop :=
 ∀ (pins:List (Addr×Obj)) (s:ao) (σ:L2.St) (H:Hp) (G:Gp) (xs:List V) (ds:List D) (us:List Value) (Q:DK),Inv X pins σ H s->lW X.K H G->Vals xs us->bc X.K H xs ds->r ds G Q ->
  wpAny (model X.prog X.w) X.A (call f us) (qN X pins σ H G Q) X.xe s
abbrev Dl(K:ag)(H:Hp)(G:Gp)(Q:DK):VK:=fun v H'=>∃ d G',Mv K H G H' G'/\cQ K H' v d/\Q d G'
theorem qN.of{pins:List (Addr×Obj)}{σ:L2.St}{H:Hp}{G:Gp}{Q:DK}{u:Value}{s':ao}(h:EP X pins σ (Dl X.K H G Q) u s'):qN X pins σ H G Q u s':=by
 obtain⟨v,H',I,r,d,G',m,rd,q⟩:=h;exact⟨v,H',d,G',I,m,r,rd,q⟩
theorem N4(ha:gy X a ta)(hb:gy X b tb){E:lu}{pins:List (Addr×Obj)}{s:ao}{σ:L2.St}{H:Hp}{τ:iK}{G:Gp}{R:D->D->Gp->Prop}(hE:Lk X E)(I:I2 X pins σ H τ G s)
  (h:ta E τ G fun x G1=>tb E τ G1 fun y G2=>R x y G2) {Q:Value->ao->Prop} {f:Value->Value->Sem Value}
  (hf:∀ v u s2 x y dx dy H2 G2,I2 X pins σ H2 τ G2 s2->Mv X.K H G H2 G2->RelV x v->RelV y u->cQ X.K H2 x dx->cQ X.K H2 y dy->R dx dy G2->wpAny (model X.prog X.w) X.A (f v u) Q X.xe s2) :
  wpAny (model X.prog X.w) X.A (eval a X.env) (fun v fW=>wpAny (model X.prog X.w) X.A (eval b X.env) (fun u jU=>wpAny (model X.prog X.w) X.A (f v u) Q X.xe jU) X.xe fW) X.xe s:=by
 refine jC ha hE I h fun x H1 dx G1 v s1 I1 m1 r1 kg q1=>?_;refine jC hb hE I1 q1 fun y H2 dy G2 u s2 jA m2 r2 Fn q2=>?_;exact hf v u s2 x y dx dy H2 G2 jA (m1.trans m2) r1 r2 (kg.mono (m2.kp I1.ab)) Fn q2
theorem bX{op:Operator}{r:Ey}(ho:oN X (km op) r)(ha:gy X a ta)(hb:gy X b tb):gy X (.BinOp a op b pos) (a9 r ta tb):=by
 intro E pins s σ H τ G Q hE I h;exact wpAny_BinOp (N4 ha hb hE I h fun v u s2 x y dx dy H2 G2 jA m rx ry dX dY q=>gK (ho pins s2 σ H2 G2 x y dx dy v u Q jA.inv jA.ab rx ry dX dY q) fun _ _ z=>z.trans m)
theorem mT{op:UnaryOp}{r:D->Gp->DK->Prop}(ho:abr X (unaryOp op) r)(ha:gy X a ta):gy X (.UnaryOp op a pos) (sP r ta):=by
 intro E pins s σ H τ G Q hE I h;exact UnaryOp_ (jC ha hE I h fun x H1 dx G1 v s1 I1 m1 r1 kg q1=>gK (ho pins s1 σ H1 G1 x dx v Q I1.inv I1.ab r1 kg q1) fun _ _ z=>z.trans m1)
theorem wV{op:CmpOp}{r:Ey}(ho:oN X (dU op) r)(ha:gy X a ta)(hb:gy X b tb)(hm:Hk op b=false):gy X (.Compare a [op] [b] pos) (a9 r ta tb):=by
 intro E pins s σ H τ G Q hE I h;exact wpAny_Compare1 (N4 ha hb hE I h fun v u s2 x y dx dy H2 G2 jA m rx ry dX dY q=>gK (ho pins s2 σ H2 G2 x y dx dy v u Q jA.inv jA.ab rx ry dX dY q) fun _ _ z=>z.trans m) hm
end
theorem ZG{K:ag}{H:Hp}{G:Gp}{x:V}{d:D}{k:Bool}(ab:lW K H G)(r:cQ K H x d)(e:KJ d G=some k):(∃ p,x=.ref p/\Rd H p (.dT [])/\k=false)\/(∃ p kv,x=.ref p/\Rd H p (.dK kv)/\k=!kv.isEmpty)\/YZ K x H k:=by
 have S2:∀ bo:List (D×D),(if (bo.all fun p=>gx p.1)=true then some (!bo.isEmpty) else none)=some k->∀ p,((∃ kv,Rd H p (.dK kv)/\qR K H kv bo)\/∃ kv,Rd H p (.dT kv)/\r0 K H kv bo) ->
   (∃ p',V.ref p=.ref p'/\Rd H p' (.dT [])/\k=false)\/(∃ p' kv,V.ref p=.ref p'/\Rd H p' (.dK kv)/\k=!kv.isEmpty)\/YZ K (.ref p) H k:=by
  intro bo e p z;by_cases ha:(bo.all fun p=>gx p.1)=true
  ·rw [if_pos ha] at e;cases e;rcases z with ⟨kv,hv,rs⟩ | ⟨kv,hv,rs⟩
   ·right; left;refine⟨p,kv,rfl,hv,?_⟩;cases rs <;> rfl
   ·left;cases rs with
    | nil=>exact⟨p,rfl,hv,rfl⟩
    | cons _ _=>simp [gx] at ha
  ·rw [if_neg ha] at e; cases e
 cases r with
 | cR=>right; right; cases e; rfl
 | bl b=>right; right; cases e; rfl
 | int i=>right; right; cases e; rfl
 | str y =>
  right; right;unfold KJ at e;dsimp only at e;by_cases h:y.length<=SZ
  ·rw [if_pos h] at e; cases e; exact⟨by rw [bK]; exact h,rfl⟩
  ·rw [if_neg h] at e; cases e
 | tup h rs =>
  right; right;cases e;refine .inr (.inl ⟨_,.of h,?_⟩);cases rs <;> rfl
 | fH h rs =>
  right; right;cases e;refine .inl ⟨_,h.sq,?_⟩;cases rs <;> rfl
 | uO h rs=>exact S2 _ e _ (.inl ⟨_,.inr ⟨_,h⟩,rs⟩)
 | uN h rs=>exact S2 _ e _ (.inr ⟨_,.inr ⟨_,h⟩,rs⟩)
 | exc h=>simp [KJ] at e
 | ye h _=>simp [KJ] at e
 | DM _ _ _ _=>simp [KJ] at e
 | ref a =>
  unfold KJ at e;dsimp only at e;cases q:G a with
  | none=>rw [q] at e; cases e
  | some g =>
   rw [q] at e;have z:=ab a g q;cases g with
   | lst ds =>
    right; right;obtain⟨vs,hv,rs⟩:=z;cases e;refine .inl ⟨vs,.of hv,?_⟩;cases rs <;> rfl
   | ins _ _=>cases e
   | NM _=>cases e
   | mO bo =>
    refine S2 bo e a ?_;rcases z with ⟨kv,hv,rs⟩ | ⟨kv,hv,rs⟩
    ·exact .inl ⟨kv,.inl hv,rs⟩
    ·exact .inr ⟨kv,.inl hv,rs⟩
section
variable {X:Cx} {a b c:Expr} {ta tb tc:fM} {pos:Pos}
def abt(X:Cx):Prop:=∀ (pins:List (Addr×Obj)) (s:ao) (σ:L2.St) (H:Hp) (G:Gp) (x:V) (d:D) (v:Value) (k:Bool) (Q:Bool->ao->Prop),Inv X pins σ H s->lW X.K H G->RelV x v->cQ X.K H x d->KJ d G=some k ->
  (∀ s',Inv X pins σ H s'->Q k s')->wpAny (model X.prog X.w) X.A (truthy v) Q X.xe s
theorem QI:abt X:=by
 intro pins s σ H G x d v k Q I ab rx rd e q;rcases ZG ab rd e with ⟨p,rfl,hv,hk⟩ | ⟨p,kv,rfl,hv,hk⟩ | h
 ·obtain⟨z,hS,xs,rel,o,es,ep,ho,hx,FX,hl,nd⟩:=hv.ok I.cO;have Zc:xs=[]:=by cases rel; rfl
  subst Zc;have he:es=#[]:=by simpa using hl
  subst he;cases rx;have dd:s.heap.DictOf (gm X.prog X.w) p []:=⟨o,#[],ep,ho,hx,FX,(fun _ h=>by simp at h),.nil,gZ⟩;refine Kf hS dd (by simp) ?_;subst hk;exact q _ (I.tok _)
 ·cases rx;subst hk;exact VS I hv q
 ·exact gK (W7 pins s σ H x v (fun k' H'=>k'=k/\H'=H) I rx ⟨k,h,rfl,rfl⟩) fun k' s' D5=>by
   obtain⟨H',I',e1,e2⟩:=D5;subst e1; subst e2; exact q s' I'
theorem iT(ha:gy X a ta)(he:autoParam (∀ whole,isTrue a X.env whole=(do let v ← whole; standAt a.pos; Km [v] (truthy v))) Ai._auto_1):He X a (fk ta):=by
 intro E pins s σ H τ G Q hE I h;refine isTrue_plain (jC ha hE I h fun x H1 d G1 v s1 I1 m1 r1 kg q1=>?_) (he _)
 try dsimp only at q1
 split at q1
 ·rename_i k e;exact QI pins s1 σ H1 G1 x d v k _ I1.inv I1.ab r1 kg e fun s' I'=>⟨H1,G1,I',m1,q1⟩
 ·exact q1.elim
theorem cS{op:CmpOp}{r:Ey}(ho:oN X (dU op) r)(ha:gy X a ta)(hb:gy X b tb)(hm:Hk op b=false):He X (.Compare a [op] [b] pos) (fk (a9 r ta tb)):=by
 intro E pins s σ H τ G Q hE I h;refine wpAny_isTrue_Compare1 (jC ha hE I h fun x H1 dx G1 v s1 I1 m1 r1 kg q1=>jC hb hE I1 q1 fun y H2 dy G2 u s2 jA m2 r2 Fn q2 =>
  gK (ho pins s2 σ H2 G2 x y dx dy v u _ jA.inv jA.ab r1 r2 (kg.mono (m2.kp I1.ab)) Fn q2) ?_) hm
 rintro c s3 ⟨z,H3,dz,G3,I3,m3,r3,Xu,q3⟩
 try dsimp only at q3
 split at q3
 ·rename_i k e;exact QI pins s3 σ H3 G3 z dz c k _ I3 m3.ab r3 Xu e fun s' I'=>⟨H3,G3,I',(m1.trans m2).trans m3,q3⟩
 ·exact q3.elim
variable {tA tB:y8} {rest:List Expr}
theorem Ka.pt{e:Expr}{t:y8}(h:Ka X e t):He X e t:=fun E pins s σ H τ G Q hE I q=>h _ E pins s σ H τ G Q hE I q
theorem QL{pins:List (Addr×Obj)}{σ:L2.St}{H:Hp}{τ:iK}{G:Gp}{s:ao}{E:lu}{R:Bool->Gp->Prop}{Q:Bool->ao->Prop}(ha:He X a tA)(hE:Lk X E)(I:I2 X pins σ H τ G s)(h:tA E τ G R)
  (k:∀ c H1 G1 s1,I2 X pins σ H1 τ G1 s1->Mv X.K H G H1 G1->R c G1->Q c s1):wpAny (model X.prog X.w) X.A (isTrue a X.env (eval a X.env)) Q X.xe s :=
 gK (ha E pins s σ H τ G R hE I h) (by rintro c s1 ⟨H1,G1,I1,m,q⟩; exact k c H1 G1 s1 (I.mv I1 m) m q)
theorem Rc(ha:He X a tA):Ka X (.BoolOp .And [a] pos) tA:=by
 intro wh E pins s σ H τ G Q hE I h;refine isTrue_and (gK (ha E pins s σ H τ G Q hE I h) fun c s1 e=>?_);cases c with
 | true=>exact isTrue_and_nil e
 | false=>exact e
theorem qZ(ha:He X a tA):Ka X (.BoolOp .Or [a] pos) tA:=by
 intro wh E pins s σ H τ G Q hE I h;refine isTrue_or (gK (ha E pins s σ H τ G Q hE I h) fun c s1 e=>?_);cases c with
 | false=>exact isTrue_or_nil e
 | true=>exact e
theorem U5(ha:He X a tA)(hb:Ka X (.BoolOp .And (b :: rest) pos) tB):Ka X (.BoolOp .And (a :: b :: rest) pos) (PB tA tB):=by
 intro wh E pins s σ H τ G Q hE I h;refine isTrue_and (QL ha hE I h fun c H1 G1 s1 I1 m1 q1=>?_);cases c with
 | true=>exact gK (hb wh E pins s1 σ H1 τ G1 Q hE I1 (by simpa using q1)) fun _ _ z=>z.trans m1
 | false=>exact⟨H1,G1,I1.inv,m1,by simpa using q1⟩
theorem rf(ha:He X a tA)(hb:Ka X (.BoolOp .Or (b :: rest) pos) tB):Ka X (.BoolOp .Or (a :: b :: rest) pos) (GB tA tB):=by
 intro wh E pins s σ H τ G Q hE I h;refine isTrue_or (QL ha hE I h fun c H1 G1 s1 I1 m1 q1=>?_);cases c with
 | false=>exact gK (hb wh E pins s1 σ H1 τ G1 Q hE I1 (by simpa using q1)) fun _ _ z=>z.trans m1
 | true=>exact⟨H1,G1,I1.inv,m1,by simpa using q1⟩
theorem jE(ha:He X a tA):He X (.UnaryOp .Not a pos) (lC tA):=by
 intro E pins s σ H τ G Q hE I h;exact isTrue_not (gK (ha E pins s σ H τ G (fun c H1=>Q (!c) H1) hE I h) (by rintro c s' ⟨H',G',i,m,q⟩; exact⟨H',G',i,m,q⟩))
theorem rh{op}{t:fM}(h:gy X a t):gy X (.BoolOp op [a] pos) t:=fun E pins s σ H τ G Q hE I hw=>BoolOp_one (h E pins s σ H τ G Q hE I hw)
theorem md(ha:gy X a ta)(hb:gy X (.BoolOp .And (b :: rest) pos) tb):gy X (.BoolOp .And (a :: b :: rest) pos) (qH ta tb):=by
 intro E pins s σ H τ G Q hE I h;refine BoolOp_and (jC ha hE I h fun x H1 d G1 v s1 I1 m1 r1 kg q1=>?_)
 try dsimp only at q1
 split at q1
 ·rename_i e;exact QI pins s1 σ H1 G1 x d v true _ I1.inv I1.ab r1 kg e fun s' I'=>gK (hb E pins s' σ H1 τ G1 Q hE ⟨I',I1.st,I1.ab⟩ q1) fun _ _ z=>z.trans m1
 ·rename_i e;exact QI pins s1 σ H1 G1 x d v false _ I1.inv I1.ab r1 kg e fun s' I'=>⟨x,H1,d,G1,I',m1,r1,kg,q1⟩
 ·exact q1.elim
theorem U9(ha:gy X a ta):gy X (.UnaryOp .Not a pos) (S8 ta):=by
 intro E pins s σ H τ G Q hE I h;refine UnaryOp_ (jC ha hE I h fun x H1 d G1 v s1 I1 m1 r1 kg q1=>?_)
 try dsimp only at q1
 split at q1
 ·rename_i k e;exact not_of (QI pins s1 σ H1 G1 x d v k _ I1.inv I1.ab r1 kg e fun s' I'=>⟨.bl (!k),H1,.bl (!k),G1,I',m1,rfl,.bl _,q1⟩)
 ·exact q1.elim
variable {e:Expr} {es:List Expr} {te:fM} {t:AA}
theorem aG:GN X [] aU:=fun _ _ _ _ _ H _ G Q _ I h=>kc ⟨[],H,[],G,I.inv,.refl I.ab,.nil,.nil,h⟩
theorem ak(ha:gy X e te)(hr:GN X es t)(hs:autoParam (bB (e :: es) X.env=(false,eval e X.env) :: bB es X.env) Ar._auto_1):GN X (e :: es) (az te t):=by
 intro pos E pins s σ H τ G Q hE I h;rw [hs];show wpAny _ _ (pR ((false,eval e X.env) :: i6 pos (bB es X.env))) _ _ s;refine dg (jC ha hE I h fun x H1 d G1 u s1 I1 m1 r1 kg q1=>?_);exact gK (hr pos E pins s1 σ H1 τ G1 _ hE I1 q1) (by rintro us s2 ⟨xs,H2,ds,G2,jA,m2,r2,Fn,q2⟩; exact⟨x :: xs,H2,d :: ds,G2,jA,m1.trans m2,.cons r1 r2,.cons (kg.mono (m2.kp I1.ab)) Fn,q2⟩)
theorem Bf{pins:List (Addr×Obj)}{σ:L2.St}{H:Hp}{τ:iK}{G:Gp}{s:ao}{E:lu}{R:List D->Gp->Prop}{Q:List Value->ao->Prop}(ha:GN X es t)(pos:Pos)(hE:Lk X E)(I:I2 X pins σ H τ G s)(h:t E τ G R)
  (k:∀ vs H1 ds G1 us s1,I2 X pins σ H1 τ G1 s1->Mv X.K H G H1 G1->Vals vs us->bc X.K H1 vs ds->R ds G1->Q us s1):wpAny (model X.prog X.w) X.A (pR (i6 pos (bB es X.env))) Q X.xe s :=
 gK (ha pos E pins s σ H τ G R hE I h) (by rintro us s1 ⟨vs,H1,ds,G1,I1,m,r,rd,q⟩; exact k vs H1 ds G1 us s1 (I.mv I1 m) m r rd q)
theorem eT{x1}(h:GN X es t):gy X (.Tuple es x1 pos) (gU t):=by
 intro E pins s σ H τ G Q hE I hq;refine wpAny_Tuple_spliced (Bf h pos hE I hq ?_);rintro xs H1 ds G1 us s1 I1 m1 r rd ⟨z,q⟩;refine⟨by rw [<-r.length,rd.length,bK]; exact z,?_⟩;have hf:H1 s1.heap.objs.size=none:=I1.inv.cO.fresh (aK _);refine⟨.ref s1.heap.objs.size,upd H1 s1.heap.objs.size (.tup xs),.tup ds,G1,I1.inv.laid (t':=s1.toks) (fun b u e=>aA _ e) (aK _) ?_,m1.trans (.Sj I1.ab hf),rfl,?_,q⟩
 ·exact⟨by rw [rd.length,bK]; exact z,us,r,⟨_,a5 _ rfl,rfl,_,rfl⟩⟩
 ·exact .tup cP (rd.mono (.new hf))
theorem ma(h:GN X es t):gy X (.List es pos) (o6 t):=by
 intro E pins s σ H τ G Q hE I hq;refine wpAny_List_spliced (Bf h pos hE I hq ?_);rintro xs H1 ds G1 us s1 I1 m1 r rd ⟨z,q⟩;refine⟨by rw [<-r.length,rd.length,bK]; exact z,?_⟩;have hf:H1 s1.heap.objs.size=none:=I1.inv.cO.fresh (aK _);refine⟨.ref s1.heap.objs.size,upd H1 s1.heap.objs.size (.lst xs),.ref _,dE G1 s1.heap.objs.size (.lst ds),I1.inv.laid (t':=s1.toks) (fun b u e=>aA _ e) (aK _) ?_,m1.trans (.FH I1.ab hf rd),rfl,.ref _,q _ (I1.ab.free hf)⟩;exact⟨by rw [rd.length,bK]; exact z,us,0,r,a5 _ rfl⟩
def ft(K:ag)(sp:nR):Sp:=fun vs H Q _=>∃ ds G Q2,bc K H vs ds/\lW K H G/\sp ds G Q2 (fun _ _=>False)/\∀ d G' v H',Q2 d G'->Mv K H G H' G'->cQ K H' v d->Q v H'
variable {k:Nat} {f:Addr} {fd:aH} {ps:List Str} {sp:nR} {x:Str} {p:Pos} {r:List D->Gp->DK->Prop} {id:String}
theorem Ru(F:fU X.prog X.w X.K X.mg X.base ji k f fd ps (ft X.K sp))(hr:jI k X.A)(hg:Gl X x)(hm:X.mg x=some (.ref f))(hk:kD X.K (.ref f)=true)(hb:Binds X.K fd ps [])
  (ha:GN X (e :: es) t) (Ag:autoParam ((x == ("__debug__" : Str))=false) Ad._auto_1) (he:autoParam (bB (e :: es) X.env=(false,eval e X.env) :: bB es X.env) Ar._auto_1) (yc:autoParam ((i6 pos (bB es X.env)).any (·.1)=false) Ar._auto_1) :
  gy X (.Call (.Name x p) (e :: es) [] pos) (fun E τ G Q=>cZ (fun ds G1 Q1 _=>sp ds G1 Q1 fun _ _=>False) t E τ G Q):=by
 intro E pins s σ H τ G Q hE I h;refine eW (kX I.inv hg hm ?_ Ag);refine qP (h₀:=X.base) I.inv.ok.mod.Np hk (Bf ha pos hE I h fun vs H1 ds G1 us s1 I1 m1 r rd q=>⟨I1.inv.qu,?_⟩) he yc;refine gK (Q4 F hr hb .nil Z5 I1.inv r (Q:=Dl X.K H1 G1 Q) ?_) fun _ _ z=>(qN.of z).trans m1;rw [bV];exact⟨ds,G1,Q,rd,I1.ab,q,fun d G' v H' q' m' Qa=>⟨d,G',m',Qa,q'⟩⟩
theorem cM (hc:oP X (.builtin id) r) (hg:Gl X x) (hm:X.mg x=none) (hv:dW x=some (.builtin id)) (ha:GN X (e :: es) t) (hn:autoParam (x≠"__name__") Ad._auto_1) (Ag:autoParam ((x == ("__debug__" : Str))=false) Ad._auto_1)
  (he:autoParam (bB (e :: es) X.env=(false,eval e X.env) :: bB es X.env) Ar._auto_1) (yc:autoParam ((i6 pos (bB es X.env)).any (·.1)=false) Ar._auto_1):gy X (.Call (.Name x p) (e :: es) [] pos) (kj r t):=by
 intro E pins s σ H τ G Q hE I h;refine eW (oC I.inv hg hm hv ?_ hn Ag);exact eX (Bf ha pos hE I h fun vs H1 ds G1 us s1 I1 m1 r1 kg q1=>gK (hc pins s1 σ H1 G1 vs ds us Q I1.inv I1.ab r1 kg q1) fun _ _ z=>z.trans m1) he yc
variable {st:Stmt} {sts:List Stmt} {u v:i5}
theorem bR:sJ X [] bZ:=fun _ _ _ σ H τ G _ _ I h=>kI ⟨σ,H,τ,G,I,.refl I.ab,h⟩
theorem aF(h1:Kb X st u)(h2:sJ X sts v):sJ X (st :: sts) (bY u v):=by
 intro E pins s σ H τ G D hE I h;refine jS (gK (h1 E pins s σ H τ G { D with nx:=v E D } hE I h) fun f s1 q=>?_);cases f with
 | next =>
  obtain⟨kG,H',pV,G',I',m,q⟩:=q;exact gK (h2 E pins s1 kG H' pV G' D hE I' q) fun _ _ z=>z.trans m
 | ret v=>exact q
 | brk=>exact q
 | cont=>exact q
theorem aL(h1:Kb X st u):sJ X [st] u:=by
 intro E pins s σ H τ G D hE I h;refine jS (gK (h1 E pins s σ H τ G D hE I h) fun f s1 q=>?_);cases f with
 | next=>exact kI q
 | ret v=>exact q
 | brk=>exact q
 | cont=>exact q
theorem bF(he:gy X e te):Kb X (.Return (some e) pos) (cC te):=by
 intro E pins s σ H τ G D hE I h;exact wpAny_Return_some (gK (he E pins s σ H τ G _ hE I h) (by rintro v s1 ⟨x,H1,d,G1,I1,m,r1,rd,q1⟩; exact⟨x,σ,H1,d,G1,I1,m,r1,rd,q1⟩))
theorem da{sa sb:List Stmt}(hc:He X c tA)(ha:sJ X sa u)(hb:sJ X sb v):Kb X (.If c sa sb pos) (dM tA u v):=by
 intro E pins s σ H τ G D hE I h;refine wpAny_If (QL hc hE I h fun d H1 G1 s1 I1 m1 q1=>?_);cases d with
 | true=>exact gK (ha E pins s1 σ H1 τ G1 D hE I1 (by simpa using q1)) fun _ _ z=>z.trans m1
 | false=>exact gK (hb E pins s1 σ H1 τ G1 D hE I1 (by simpa using q1)) fun _ _ z=>z.trans m1
def Oa(X:Cx)(target:Expr)(t:A2):Prop :=
 ∀ (E:lu) (pins:List (Addr×Obj)) (s:ao) (σ:L2.St) (H:Hp) (τ:iK) (G:Gp) (w:V) (d:D) (u:Value) (Q:iK->Gp->Prop),Lk X E->I2 X pins σ H τ G s->RelV w u->cQ X.K H w d->t E d τ G Q ->
  wpAny (model X.prog X.w) X.A (Qs target X.env u) (fun _ s'=>∃ kG H' pV G',I2 X pins kG H' pV G' s'/\Mv X.K H G H' G'/\Q pV G') X.xe s
def V7(X:Cx)(ts:List Expr)(t:GL):Prop :=
 ∀ (E:lu) (pins:List (Addr×Obj)) (s:ao) (σ:L2.St) (H:Hp) (τ:iK) (G:Gp) (ws:List V) (ds:List D) (us:List Value) (Q:iK->Gp->Prop),Lk X E->I2 X pins σ H τ G s->Vals ws us->bc X.K H ws ds->t E ds τ G Q ->
  wpAny (model X.prog X.w) X.A (assignInOrder ((CB ts X.env).map (·.2)) us) (fun _ s'=>∃ kG H' pV G',I2 X pins kG H' pV G' s'/\Mv X.K H G H' G'/\Q pV G') X.xe s
theorem Rp{i:Nat}{x:Str}(hN:X.N.Nodup)(hi:X.N[i]?=some x)(hx:Loc X.env.scope x)(hf:autoParam (X.fn x=true\/X.env.scope.names.lookup x=some .local) Ao._auto_1):Oa X (.Name x pos) (aT i):=by
 intro E pins s σ H τ G w d u Q hE I r rd h;exact wpAny_assign_Name (wm I.inv hN hi hx r (fun s' I'=>⟨_,H,_,G,⟨I',I.st.set i rd,I.ab⟩,.refl I.ab,h⟩) hf)
theorem qo:V7 X [] vC:=by
 intro E pins s σ H τ G ws ds us Q hE I r rd h;unfold vC at h;split at h
 ·have e:=rd.zero;subst e;cases r;exact assignInOrder_nil ⟨σ,H,τ,G,I,.refl I.ab,h⟩
 ·exact h.elim
theorem fN{t:A2}{u:GL}(h1:Oa X e t)(h2:V7 X es u)
  (hs:autoParam ((CB (e :: es) X.env).map (·.2)=Qs e X.env :: (CB es X.env).map (·.2)) Ar._auto_1):V7 X (e :: es) (iO t u):=by
 intro E pins s σ H τ G ws ds us Q hE I r rd h;unfold iO at h;split at h
 ·cases rd with
  | cons kg Fn =>
   cases r with
   | cons r1 r2 =>
    rw [hs];refine assignInOrder_cons (gK (h1 E pins s σ H τ G _ _ _ _ hE I r1 kg h) ?_);rintro _ s1 ⟨Y5,H1,sZ,G1,I1,m1,q1⟩;exact gK (h2 E pins s1 Y5 H1 sZ G1 _ _ _ Q hE I1 r2 (Fn.mono (m1.kp I.ab)) q1) (by rintro _ _ ⟨σ2,H2,u6,G2,jA,m2,q2⟩; exact⟨σ2,H2,u6,G2,jA,m1.trans m2,q2⟩)
 ·exact h.elim
theorem uo{k:Nat}{t:GL}{n:Nat}(hc:X.calm=true)(h:V7 X es t)(hgl:∀ E ds τ G Q,t E ds τ G Q->ds.length=n)
  (hn:autoParam ((CB es X.env).length=n) Ar._auto_1) (uW:autoParam ((CB es X.env).findIdx? (·.1)=none) Ar._auto_1):Oa X (.Tuple es k pos) (xq t):=by
 intro E pins s σ H τ G w d u Q hE I r rd hw;unfold xq at hw;split at hw
 ·cases rd with
  | tup hq rs =>
   cases r;obtain⟨bw,rv,ht,hz⟩:=I.inv.tuple (.of hq);refine assign_Tuple_tuple (I.inv.ok.hd hc) ht (by rw [hn,aS,<-rv.length,rs.length]; exact(hgl _ _ _ _ _ hw).symm) uW fun h' hx=>?_;have I1:Inv X pins σ H { s with heap:=h' }:=I.inv.kept (t':=s.toks) fun b o e=>hx b o (bI (aN e)) e;exact h E pins _ σ H τ G _ _ _ Q hE ⟨I1,I.st,I.ab⟩ (by simpa using rv) rs hw
 ·exact hw.elim
theorem qA:∀ E ds τ G Q,vC E ds τ G Q->ds.length=0:=by
 intro E ds τ G Q h;cases ds with
 | nil=>rfl
 | cons _ _=>exact h.elim
theorem Pn{t:A2}{u:GL}{n:Nat}(h:∀ E ds τ G Q,u E ds τ G Q->ds.length=n)(hm:∀ E d τ G (Q Q':iK->Gp->Prop),t E d τ G Q->(∀ pV G',Q pV G'->Q' pV G')->t E d τ G Q')(hx:∀ E d τ G,¬ t E d τ G fun _ _=>False) :
  ∀ E ds τ G Q,iO t u E ds τ G Q->ds.length=n+1:=by
 intro E ds τ G Q q;cases ds with
 | nil=>exact q.elim
 | cons d ds =>
  by_cases hl:ds.length=n
  ·rw [ah,hl]
  ·exact absurd (hm E d τ G _ (fun _ _=>False) q fun pV G' z=>hl (h _ _ _ _ _ z)) (hx E d τ G)
theorem AK{tg:Expr}{g:A2}(he:gy X e te)(hg:Oa X tg g)(hs:autoParam (swapsWithSole [tg] e pos.line X.env=pure false) Ar._auto_1)(hw:autoParam (swappedStores [tg] e X.env=pure none) Ar._auto_1)
  (h1:autoParam ((CB [tg] X.env).map (·.2)=[Qs tg X.env]) Ar._auto_1):Kb X (.Assign [tg] e pos) (cT te g):=by
 intro E pins s σ H τ G D hE I h;refine wpAny_Assign_stores (jC he hE I h fun x H1 d G1 v s1 I1 m1 r1 kg q1=>?_) hs hw;rw [h1];exact gK (hg E pins s1 σ H1 τ G1 x d v _ hE I1 r1 kg q1) (by rintro _ s2 ⟨σ2,H2,u6,G2,jA,m2,q2⟩; exact⟨σ2,H2,u6,G2,jA,m1.trans m2,q2⟩)
theorem U7{i:Nat}{x:Str}{pos':Pos}(hN:X.N.Nodup)(hi:X.N[i]?=some x)(hx:Loc X.env.scope x)(he:gy X e te)(hs:autoParam (qe e (some (.Name x pos')) pos.line X.env=pure false) Ar._auto_1)(hf:autoParam (X.fn x=true\/X.env.scope.names.lookup x=some .local) Ao._auto_1) :
  Kb X (.Assign [.Name x pos'] e pos) (cT te (aT i)):=by
 intro E pins s σ H τ G D hE I h;refine Kg (jC he hE I h fun y H1 d G1 v s1 I1 m1 r1 kg q1=>?_) hs;exact wm I1.inv hN hi hx r1 (fun s2 jA=>⟨_,H1,_,G1,⟨jA,I1.st.set i kg,I1.ab⟩,m1,q1⟩) hf
theorem jX(he:gy X e te)(hs:autoParam (qe e none pos.line X.env=pure false) Ar._auto_1):Kb X (.Expr e pos) (jx te):=by
 intro E pins s σ H τ G D hE I h;exact wpAny_Expr_any (jC he hE I h fun y H1 d G1 v s1 I1 m1 r1 kg q1=>⟨σ,H1,τ,G1,I1,m1,q1⟩) I.inv.quiet hs
end
def WU(K:ag)(J:It)(H':Hp)(ds:List D)(ok:Gp->Prop):Prop :=
 ∀ i H1 G1,Kp H' H1->lW K H1 G1->ok G1->(∀ d,ds[i]?=some d->J.go i H1/\∀ x H2,J.yld i H1 x H2->cQ K H2 x d/\Mv K H1 G1 H2 G1)/\(ds.length<=i->J.stop i H1)
inductive Mu (X:Cx) (pins:List (Addr×Obj)) (σ:L2.St) (tg:Expr) (H:Hp) (G:Gp) (R:List D->(Gp->Prop)->Gp->Prop) (Wy:Value) (s2:ao):Prop
 | mk (it:Addr) (fp:List Addr) (tn:Nat->Heap->Prop) (J:It) (H':Hp) (G':Gp) (ds:List D) (ok:Gp->Prop) (e:Wy=.ref it) (i:Inv X pins σ H' s2) (m:Mv X.K H G H' G') (T:Turn X.prog X.w X.K tg J fp it tn) (t0:tn 0 s2.heap) (f:∀ b∈fp,o8 X pins H' b)
  (wk:WU X.K J H' ds ok) (q:R ds ok G'):Mu X pins σ tg H G R Wy s2
def Qh(X:Cx)(tg iter:Expr)(wi:Qg):Prop :=
 ∀ (E:lu) (pins:List (Addr×Obj)) (s:ao) (σ:L2.St) (H:Hp) (τ:iK) (G:Gp) (R:List D->(Gp->Prop)->Gp->Prop),Lk X E->I2 X pins σ H τ G s->wi E τ G R ->
  wpAny (model X.prog X.w) X.A (eval iter X.env) (fun v s1=>wpAny (model X.prog X.w) X.A (Du v) (Mu X pins σ tg H G R) X.xe s1) X.xe s
section
variable {X:Cx} {tg:Expr} {a b:Expr} {ta tb:fM} {pos p:Pos}
theorem Nl{pins:List (Addr×Obj)}{σ:L2.St}{H H1:Hp}{G G1:Gp}{s1:ao}{l:Addr}{vs:List V}{ds:List D}{ok:Gp->Prop}{R:List D->(Gp->Prop)->Gp->Prop}(I1:Inv X pins σ H1 s1)(m:Mv X.K H G H1 G1)(hq:y9 X.K H1 l vs)
  (hk:∀ H2 G2,Kp H1 H2->lW X.K H2 G2->ok G2->∃ ws,y9 X.K H2 l ws/\bc X.K H2 ws ds) (q:R ds ok G1):wpAny (model X.prog X.w) X.A (Du (.ref l)) (Mu X pins σ tg H G R) X.xe s1:=by
 obtain⟨bw,rv,pl,hz⟩:=I1.list hq;refine vV pl.isList ?_;refine⟨s1.heap.objs.size,[s1.heap.objs.size],_,_,H1,G1,ds,ok,rfl,I1.kept (t':=s1.toks) fun b o e=>aA _ e,m,OB l _,⟨_,a5 _ rfl,rfl,rfl⟩,fun b hb=>?_,fun i H2 G2 k ab o=>?_,q⟩
 ·have e:b=s1.heap.objs.size:=by simpa using hb
  subst e;exact I1.LH (aK _) (I1.cO.fresh (aK _))
 ·obtain⟨ws,hw,rd⟩:=hk H2 G2 k ab o;refine⟨fun d hd=>?_,fun hl=>⟨ws,hw,by rw [rd.length]; exact hl⟩⟩;obtain⟨v,hv,r⟩:=rd.get hd;refine⟨⟨ws,v,hw,hv⟩,?_⟩;rintro x H3 ⟨e,y⟩;subst e;have:=y ws hw;rw [hv] at this;cases this;exact⟨r,.refl ab⟩
theorem W6{pins:List (Addr×Obj)}{σ:L2.St}{H H1:Hp}{G G1:Gp}{s1:ao}{l:Addr}{vs:List V}{ds:List D}{R:List D->(Gp->Prop)->Gp->Prop}(I1:Inv X pins σ H1 s1)(m:Mv X.K H G H1 G1)(hq:Cq X.K H1 l vs)(rd:bc X.K H1 vs ds)
  (q:R ds (fun _=>True) G1):wpAny (model X.prog X.w) X.A (Du (.ref l)) (Mu X pins σ tg H G R) X.xe s1:=by
 obtain⟨bw,rv,pl,hz⟩:=I1.tuple hq;refine Hf (show s1.heap.IsTuple l bw.toArray from pl) ?_;refine⟨s1.heap.objs.size,[s1.heap.objs.size],_,_,H1,G1,ds,_,rfl,I1.kept (t':=s1.toks) fun b o e=>aA _ e,m,KH l _,⟨_,a5 _ rfl,rfl,rfl⟩,fun b hb=>?_,fun i H2 G2 k ab _=>?_,q⟩
 ·have e:b=s1.heap.objs.size:=by simpa using hb
  subst e;exact I1.LH (aK _) (I1.cO.fresh (aK _))
 ·have hw:=k.sqT hq;have Fn:=rd.mono k;refine⟨fun d hd=>?_,fun hl=>⟨vs,hw,by rw [rd.length]; exact hl⟩⟩;obtain⟨v,hv,r⟩:=Fn.get hd;refine⟨⟨vs,v,hw,hv⟩,?_⟩;rintro x H3 ⟨e,y⟩;subst e;have:=y vs hw;rw [hv] at this;cases this;exact⟨r,.refl ab⟩
theorem hV(ha:gy X a ta):Qh X tg a (qx ta):=by
 intro E pins s σ H τ G R hE I h;refine jC ha hE I h fun x H1 d G1 v s1 I1 m1 r1 kg q1=>?_;cases kg with
 | tup hq rs=>cases r1; exact W6 I1.inv m1 (.of hq) rs q1
 | fH hq rs=>cases r1; exact Nl I1.inv m1 hq.sq (fun H2 G2 k ab _=>⟨_,(k.Y7 hq).sq,rs.mono k⟩) q1
 | ref p =>
  cases r1;dsimp only at q1;split at q1
  ·rename_i ds e;obtain⟨vs,hv,rs⟩:=I1.ab.lst e;refine Nl I1.inv m1 (.of hv) (fun H2 G2 k ab o=>?_) q1;obtain⟨ws,hw,wF⟩:=ab.lst o;exact⟨ws,.of hw,wF⟩
  ·exact q1.elim
 | uO _ _=>exact q1.elim
 | uN _ _=>exact q1.elim
 | cR=>exact q1.elim
 | bl _=>exact q1.elim
 | int _=>exact q1.elim
 | str _=>exact q1.elim
 | exc _=>exact q1.elim
 | ye _ _=>exact q1.elim
 | DM _ _ _ _=>exact q1.elim
theorem Xr{pins:List (Addr×Obj)}{σ:L2.St}{H H1:Hp}{G G1:Gp}{s:ao}{R:List D->(Gp->Prop)->Gp->Prop}{lo hi:Int}{t u v:Tok}{tk:Nat}(I:Inv X pins σ H1 s)(m:Mv X.K H G H1 G1)(h1:-(2 ^ 62)<=lo)(h2:lo < 2 ^ 62)(h3:-(2 ^ 62)<=hi)(h4:hi < 2 ^ 62)
  (q:R (kR lo (hi - lo).toNat) (fun _=>True) G1):wpAny (model X.prog X.w) X.A (Du (.ref s.heap.objs.size)) (Mu X pins σ tg H G R) X.xe { s with heap:=s.heap.push { cls:=.type "range",data:=.fields #[.int lo t,.int hi u,.int 1 v] },toks:=tk }:=by
 refine gK (Q9 (tg:=tg) I h1 h2 h3 h4 (R:=fun J H'=>J=Itr lo (hi - lo).toNat/\H'=H1) ⟨rfl,rfl⟩) ?_;rintro Wy s2 ⟨it,fp,tn,J,H',e,jA,T,st,fo,eJ,eH⟩;subst eJ; subst eH;refine⟨it,fp,tn,_,H',G1,_,_,e,jA,m,T,st,fo,fun i H2 G2 k ab _=>⟨fun d hd=>?_,fun hl=>?_⟩,q⟩
 ·unfold kR at hd;rw [bP] at hd;cases Qd:(cA (hi - lo).toNat)[i]? with
  | none=>rw [Qd] at hd; cases hd
  | some j =>
   rw [Qd] at hd;obtain⟨pH,ej⟩:=List.getElem?_eq_some_iff.mp Qd;rw [fA] at pH;rw [mK] at ej;subst ej;cases hd;refine⟨pH,?_⟩;rintro x H3 ⟨e1,e2⟩;subst e1; subst e2;exact⟨.int _,.refl ab⟩
 ·unfold kR at hl;rw [ai,fA] at hl;exact hl
theorem vo (hg:Gl X "range") (hm:X.mg "range" = none) (ha:gy X a ta) (hs:autoParam (bB [a] X.env=[(false,eval a X.env)]) Ar._auto_1):Qh X tg (.Call (.Name "range" p) [a] [] pos) (Iz ta):=by
 intro E pins s σ H τ G R hE I h;have hA:GN X [a] (az ta aU):=ak ha aG hs;refine Call_ (oC I.inv hg hm boot_range (jg (Bf hA pos hE I (R:=fun ds G1=>match ds with | [.int n]=>-(2 ^ 62)<=n/\n < 2 ^ 62/\R (kR 0 n.toNat) (fun _=>True) G1 | _=>False) ?_ fun vs H1 ds G1 us s1 I1 m1 r1 kg q1=>?_) hs rfl))
 ·show ta E τ G _;have e:(fun (x:D) (G1:Gp)=>match [x] with | [.int n]=>-(2 ^ 62)<=n/\n < 2 ^ 62/\R (kR 0 n.toNat) (fun _=>True) G1 | _=>False)=fun x G1=>match x with | .int n=>-(2 ^ 62)<=n/\n < 2 ^ 62/\R (kR 0 n.toNat) (fun _=>True) G1 | _=>False:=by
   funext x G1; cases x <;> rfl
  exact e ▸ h
 ·split at q1
  ·rename_i n;obtain⟨w,rfl,Bp⟩:=kg.one;cases Bp;obtain⟨u,rfl,ru⟩:=r1.one;obtain⟨t,rfl⟩:=ru;obtain⟨q1,q2,q⟩:=q1;exact call_range_1 (Xr I1.inv m1 (by lia) (by lia) q1 q2 (by simpa using q))
  ·exact q1.elim
theorem gY{iter:Expr}{body:List Stmt}{wi:Qg}{g:A2}{t:i5}(hp:PassesOwn (model X.prog X.w) X.A X.env X.xe)(hc:X.calm=true)(hi:Qh X tg iter wi)(hg:Oa X tg g)(hb:sJ X body t)
  (hs:autoParam (∀ x,jm iter X.env x=pure x) Ai._auto_1):Kb X (.For tg iter body [] pos) (je wi g t):=by
 intro E pins s σ H τ G D hE I h;refine wpAny_For (gK (hi E pins s σ H τ G _ hE I h) fun v s1 h1=>gK h1 fun Wy s2 h2=>?_) hs;obtain⟨it,fp,tn,J,H2,G2,ds,ok,e,jA,m2,T,Wf,f2,wk,q⟩:=h2;subst e;have Xg:∀ {H':Hp},(∀ b∈fp,H' b=none)->∀ b∈fp,o8 X pins H' b:=fun hn b hb=>⟨hn b hb,(f2 b hb).2⟩;refine codeAny_forLoop_any (fun n s'=>∃ i kG H' pV G',I2 X pins kG H' pV G' s'/\Mv X.K H G H' G'/\Kp H2 H'/\tn i s'.heap/\(∀ b∈fp,H' b=none)/\n=ds.length - i/\i<=ds.length/\so g t ok (ds.drop i) E D pV G') ?_ ds.length
  ⟨0,σ,H2,τ,G2,I.mv jA m2,m2,.refl _,Wf,fun b hb=>(f2 b hb).1,rfl,cu _,q⟩
 rintro n s3 ⟨i,Um,H3,WY,G3,I3,m3,k3,st3,fr3,rfl,hle,w3⟩;by_cases pH:i < ds.length
 ·rw [cq pH] at w3;obtain⟨ok3,w3⟩:=w3;obtain⟨go,yl⟩:=(wk i H3 G3 k3 I3.ab ok3).1 ds[i] (by simp [pH]);refine kH hp (gK (T.item X rfl rfl rfl hc i pins s3 Um H3 X.xe I3.inv (Xg fr3) st3 go) ?_);rintro r s4 ⟨u,hr,h4⟩;subst hr;refine kH hp (gK h4 ?_);rintro _ s5 ⟨x,H5,I5,r5,y5,st5,fr5⟩;obtain⟨rd5,m5⟩:=yl x H5 y5;have I5':=I5.pinned (Xg fr5) (T.obj _ _ st5);have J5:I2 X (pins++tO fp s5.heap) Um H5 WY G3 s5:=⟨I5',I3.st.mono (m5.kp I3.ab),m5.ab⟩;refine kH hp (gK (hg E _ s5 Um H5 WY G3 x ds[i] u _ hE J5 r5 rd5 w3) ?_);rintro _ s6 ⟨σ6,H6,τ6,G6,I6,m6,q6⟩;refine kH hp (gK (hb E _ s6 σ6 H6 τ6 G6 _ hE I6 q6) fun f s7 q7=>?_);have again:∀ {P7:L2.St} {H7:Hp} {P6:iK} {G7:Gp},I2 X (pins++tO fp s5.heap) P7 H7 P6 G7 s7->Mv X.K H6 G6 H7 G7->so g t ok (ds.drop (i+1)) E D P6 G7 ->
    ∃ m,m < ds.length - i/\∃ i kG H' pV G',I2 X pins kG H' pV G' s7/\Mv X.K H G H' G'/\Kp H2 H'/\tn i s7.heap/\(∀ b∈fp,H' b=none)/\m=ds.length - i/\i<=ds.length/\so g t ok (ds.drop i) E D pV G':=fun {P7 H7 P6 G7} I7 m7 n7=>by
   have mm:=m5.trans (m6.trans m7);refine⟨ds.length - (i+1),by lia,i+1,P7,H7,P6,G7,⟨I7.inv.we,I7.st,I7.ab⟩,m3.trans mm,k3.trans (mm.kp I3.ab),T.keep _ _ _ st5 fun b hb o e=>(I7.inv.pin (b,o) (dP _ (dP _ (rB hb e)))).1,fun b hb=>?_,rfl,pH,n7⟩;obtain⟨o,e,d⟩:=T.obj _ _ st5 b hb;exact(I7.inv.pin (b,o) (dP _ (dP _ (rB hb e)))).2.1
  cases f with
  | next=>obtain⟨P7,H7,P6,G7,I7,m7,n7⟩:=q7; exact again I7 m7 n7
  | cont=>obtain⟨P7,H7,P6,G7,I7,m7,n7⟩:=q7; exact again I7 m7 n7
  | brk=>obtain⟨P7,H7,P6,G7,I7,m7,q7⟩:=q7; exact⟨P7,H7,P6,G7,⟨I7.inv.we,I7.st,I7.ab⟩,m3.trans (m5.trans (m6.trans m7)),q7⟩
  | ret v=>obtain⟨x7,P7,H7,d7,G7,I7,m7,r7,rd7,q7⟩:=q7; exact⟨x7,P7,H7,d7,G7,I7.we,m3.trans (m5.trans (m6.trans m7)),r7,rd7,q7⟩
 ·have hn:ds.length<=i:=by lia
  rw [nj hn] at w3;obtain⟨ok3,qn⟩:=w3;have stop:=(wk i H3 G3 k3 I3.ab ok3).2 hn;refine kH hp (gK (T.done X rfl rfl rfl hc i pins s3 Um H3 X.xe I3.inv (Xg fr3) st3 stop) ?_);rintro r s4 ⟨hr,I4⟩;subst hr;exact kI ⟨Um,H3,WY,G3,⟨I4,I3.st,I3.ab⟩,m3,qn⟩
theorem OU{c:Expr}{body:List Stmt}{tc:y8}{t:i5}(hp:PassesOwn (model X.prog X.w) X.A X.env X.xe)(hc:He X c tc)(hb:sJ X body t):Kb X (.While c body [] pos) (S7 tc t):=by
 intro E pins s σ H τ G D hE I h;obtain⟨n0,w0⟩:=h;refine wpAny_While (codeAny_whileLoop (fun n s'=>∃ kG H' pV G',I2 X pins kG H' pV G' s'/\Mv X.K H G H' G'/\Hr tc t n E D pV G') ?_ n0 ⟨σ,H,τ,G,I,.refl I.ab,w0⟩);rintro n s1 ⟨Y5,H1,sZ,G1,I1,m1,w1⟩;cases n with
 | zero=>exact w1.elim
 | succ n =>
  refine kH hp (QL hc hE I1 w1 fun b H2 G2 s2 jA m2 q2=>?_);cases b with
  | true =>
   rw [if_pos rfl] at q2 ⊢;refine kH hp (gK (hb E pins s2 Y5 H2 sZ G2 _ hE jA q2) fun f s3 q3=>?_);cases f with
   | next=>obtain⟨Um,H3,WY,G3,I3,m3,n3⟩:=q3; exact⟨n,pT _,Um,H3,WY,G3,I3,m1.trans (m2.trans m3),n3⟩
   | cont=>obtain⟨Um,H3,WY,G3,I3,m3,n3⟩:=q3; exact⟨n,pT _,Um,H3,WY,G3,I3,m1.trans (m2.trans m3),n3⟩
   | brk=>exact q3.trans (m1.trans m2)
   | ret v=>exact q3.trans (m1.trans m2)
  | false =>
   rw [if_neg fL] at q2 ⊢;exact kI ⟨Y5,H2,sZ,G2,jA,m1.trans m2,q2⟩
end
theorem Fh(n d:Nat)(o:Option Int):HT.jW n d o=jW n d o:=by cases o <;> rfl
theorem bc.cut{K:ag}{H:Hp}{vs:List V}{ds:List D}(r:bc K H vs ds)(lo hi:Option Int):bc K H (Ju vs lo hi) (K2.cut ds lo hi):=by
 unfold Ju K2.cut;rw [Fh,Fh,r.length];exact(r.drop _).take _
theorem bc.sI{K:ag}{H:Hp}{vs:List V}{ds:List D}{i:Int}{d:D}(r:bc K H vs ds)(h:K2.sI ds i=some d):∃ v,L2.sI vs i=some v/\cQ K H v d:=by
 unfold K2.sI at h;cases e:K2.Nv ds.length i with
 | none=>rw [e] at h; cases h
 | some j =>
  rw [e] at h;obtain⟨v,h1,h2⟩:=r.get (show ds[j]?=some d from h);refine⟨v,?_,h2⟩;show (L2.Nv vs.length i).bind _=_;have e':L2.Nv vs.length i=some j:=by rw [r.length]; exact e
  rw [e'];exact h1
section
variable {X:Cx} {a b c e:Expr} {ta tb tc te:fM} {pos p2:Pos}
theorem lV{pins:List (Addr×Obj)}{s:ao}{σ:L2.St}{H:Hp}{G:Gp}{x:V}{d:D}{v:Value}{zs:List D}(I:Inv X pins σ H s)(ab:lW X.K H G)(rx:RelV x v)(rd:cQ X.K H x d)(hi:tW d G=some zs) :
  ∃ l vs bw,v=.ref l/\Vals vs bw/\bc X.K H vs zs/\s.heap.IsList l bw.toArray/\vs.length<=bg:=by
 cases rd with
 | fH hq rs =>
  cases hi;cases rx;obtain⟨bw,rv,pl,hz⟩:=I.list hq.sq;exact⟨_,_,bw,rfl,rv,rs,pl.isList,hz⟩
 | ref l =>
  unfold tW at hi;dsimp only at hi;cases hg:G l with
  | none=>rw [hg] at hi; cases hi
  | some gg =>
   rw [hg] at hi;cases gg with
   | lst ds =>
    cases hi;cases rx;obtain⟨vs,hv,rs⟩:=ab.lst hg;obtain⟨bw,rv,pl,hz⟩:=I.list (.of hv);exact⟨_,_,bw,rfl,rv,rs,pl.isList,hz⟩
   | ins _ _=>cases hi
   | NM _=>cases hi
   | mO _=>cases hi
 | _=>cases hi
theorem lO{pins:List (Addr×Obj)}{s:ao}{σ:L2.St}{H:Hp}(I:Inv X pins σ H s){m:Str->Option Value}(F0:Fr X.base X.env.locals s.heap m){h':Heap}(F:Fr X.base X.env.locals h' m)(N:News X.base X.env.locals h' (rZ X.base s.heap X.env.locals)) :
  (∀ b o,b≠X.env.locals->s.heap.get? b=some o->h'.get? b=some o)/\∀ m',s.heap.Ns X.env.locals m'->h'.Ns X.env.locals m':=by
 refine⟨fun b o hb e=>?_,fun m' hm=>?_⟩
 ·cases q:X.base.get? b with
  | some u =>
   have:=I.bk b u q;rw [e] at this; cases this;exact F.keep b _ q
  | none=>exact(N (b,o) (mz hb q e)).1
 ·have e1:=hm.eq_nsMap;have e2:=F0.ns.eq_nsMap;rw [e1,<-e2]; exact F.ns
theorem nV{P:bx}{w:World}{H:Hp}{h:Heap}{a:Addr}:∀ {o:HO},gu P w H h a o->∃ ob,h.get? a=some ob:=by
 intro o x;cases o with
 | lst _=>obtain⟨_,_,_,_,e⟩:=x; exact⟨_,e⟩
 | tup _=>obtain⟨_,_,_,ob,e,_⟩:=x; exact⟨ob,e⟩
 | dK _=>obtain⟨_,_,_,_,ob,_,_,e,_⟩:=x; exact⟨ob,e⟩
 | dT _=>obtain⟨_,_,_,_,ob,_,_,e,_⟩:=x; exact⟨ob,e⟩
 | set _ _=>obtain⟨ob,_,_,_,e,_⟩:=x; exact⟨ob,e⟩
 | ins _ _ _=>obtain⟨_,_,_,e,_⟩:=x; exact⟨_,e⟩
 | own _=>exact x
 | xd _=>obtain⟨_,⟨ob,_,_,e,_⟩,_⟩:=x; exact⟨ob,e⟩
 | met _ _=>exact⟨_,x⟩
 | ZT _ _=>obtain⟨_,_,_,e⟩:=x; exact⟨_,e⟩
 | jw _ _=>exact⟨_,x.1⟩
 | Uz _=>obtain⟨_,e,_⟩:=x; exact⟨_,e⟩
 | ext _=>exact x.2.1
theorem xx{P:bx}{w:World}{H:Hp}{h:Heap}{a:Addr}(ok:sL P w H h)(e:h.get? a=none):H a=none:=by
 cases q:H a with
 | none=>rfl
 | some o =>
  obtain⟨ob,z⟩:=nV (ok a o q);rw [e] at z; cases z
theorem Inv.Iq{pins:List (Addr×Obj)}{s:ao}{σ:L2.St}{H:Hp}(I:Inv X pins σ H s){h':Heap}{t':Nat}{a:Addr}{o:HO}(k:∀ b o,b≠X.env.locals->s.heap.get? b=some o->h'.get? b=some o)(ns:∀ m',s.heap.Ns X.env.locals m'->h'.Ns X.env.locals m')
  (hp:s.heap.get? a=none) (new:gu X.prog X.w (upd H a o) h' a o):Inv X pins σ (upd H a o) { s with heap:=h',toks:=t' }:=by
 have hn:H a=none:=xx I.cO hp;have ne:∀ b u,H b=some u->b≠a:=fun b u e=>ff e hn;have nL:∀ b u,H b=some u->b≠X.env.locals:=fun b u e=>ff e I.free;have ht:∀ b u,s.heap.get? b=some u->b≠a:=fun b u e z=>by subst z; rw [hp] at e; cases e
 have thL:∃ o',h'.get? X.env.locals=some o':=by
  obtain⟨m,hm,_⟩:=I.loc;obtain⟨o',_,_,ho,_⟩:=ns m hm;exact⟨o',ho⟩
 refine I.step (g':=s.gens) (d':=s.drawn) (ch:=[]) (fun b hb=>absurd hb (by simp)) (fun b o hL _ _ e _=>k b o hL e) (fun b o hL _ _ e _=>⟨o.slots,k b o hL e⟩) (fun b o _ e n=>by rw [br (ht b o e)]; exact n)
  (fun b o _ e=>?_) (fun b xs e=>by rw [br (ne _ _ e)]; exact e) (fun b o u e=>by rw [br (ne _ _ e)]; exact e) (fun b ps e=>by rw [br (ne _ _ e)]; exact e) (fun b ps e=>by rw [br (ne _ _ e)]; exact e) ns (fun b u e=>?_) I.bare
 ·by_cases hb:b=X.env.locals
  ·rw [hb]; exact thL
  ·exact⟨o,k b o hb e⟩
 ·by_cases hb:b=a
  ·subst hb; rw [cP] at e; cases e; exact new
  ·rw [br hb] at e;refine(I.cO b u e).jo (fun c v hc r=>k c v ?_ r) (fun c z=>by rw [br (ne _ _ z)]; exact z) (fun c xs z=>by rw [br (ne _ _ z)]; exact z);rcases hc with rfl | hc
   ·exact nL _ _ e
   ·exact nL _ _ hc
theorem j9:oN X (km .Add) qm:=by
 intro pins s σ H G x y dx dy v u Q I ab rx ry dX dY q;have lists:GK dx dy G Q->wpAny (model X.prog X.w) X.A (km .Add v u) (qN X pins σ H G Q) X.xe s:=by
  intro q;unfold GK at q;split at q
  ·rename_i xs ys e1 e2;obtain⟨hz,q⟩:=q;obtain⟨l,vs,bw,rfl,rv,rs,hl,_⟩:=lV I ab rx dX e1;obtain⟨b,ws,yJ,rfl,Wh,UR,hb,_⟩:=lV I ab ry dY e2;obtain⟨m,F0⟩:=I.fr;have hsz:bw.length+yJ.length<=bg:=by rw [<-rv.length,<-Wh.length,rs.length,UR.length,bK]; exact hz
   refine PyProof.Rows.add_lists F0 wZ hl hb (fun h' F N=>?_) hsz;obtain⟨kk,ns⟩:=lO I F0 F fun p hp=>N p (aM _ hp);have hp:H s.heap.objs.size=none:=I.cO.fresh (aK _);refine⟨.ref s.heap.objs.size,upd H s.heap.objs.size (.lst (vs++ws)),.ref _,_,Inv.Iq (t':=s.toks) I kk ns (Uk (aK _)) ?_,.FH ab hp (rs.append UR),rfl,.ref _,q _ (ab.free hp)⟩;exact⟨by rw [aE,rv.length,Wh.length]; exact hsz,bw++yJ,0,rv.append Wh,(N _ bH).1⟩
  ·exact q.elim
 cases dX with
 | int i =>
  cases dY with
  | int j=>exact gK (XG pins s σ H _ _ v u (Dl X.K H G Q) I rx ry ⟨i,j,rfl,rfl,_,_,.refl ab,.int _,q⟩) fun _ _ z=>.of z
  | _=>exact lists q
 | str i =>
  cases dY with
  | str j =>
   obtain⟨hz,q⟩:=q;exact gK (K9 pins s σ H _ _ v u (Dl X.K H G Q) I rx ry ⟨i,j,rfl,rfl,by rw [bK]; exact hz,_,_,.refl ab,.str _,q⟩) fun _ _ z=>.of z
  | _=>exact lists q
 | tup h1 r1 =>
  cases dY with
  | tup h2 r2 =>
   obtain⟨hn,hz,q⟩:=q;refine gK (Vg pins s σ H _ _ v u (Dl X.K H G Q) I rx ry ⟨_,_,_,_,rfl,rfl,.of h1,.of h2,?_,?_,fun e=>?_,fun e p hp=>?_⟩) fun _ _ z=>.of z
   ·rintro rfl; cases r1; exact hn rfl
   ·rw [r1.length,r2.length,bK]; exact hz
   ·subst e;cases r2;rw [bV] at q;exact⟨_,_,.refl ab,.tup h1 r1,q⟩
   ·exact⟨_,_,.Sj ab hp,.tup cP ((r1.append r2).mono (.new hp)),q⟩
  | _=>exact lists q
 | ref l=>exact lists (by rw [HN] at q; exact q)
 | fH _ _=>exact lists (by rw [HL] at q; exact q)
 | _=>exact lists (by cases dY <;> exact q)
theorem wW:oN X (km .Sub) KZ:=by
 intro pins s σ H G x y dx dy v u Q I ab rx ry dX dY q;cases dX with
 | int i =>
  cases dY with
  | int j=>exact gK (XB pins s σ H _ _ v u (Dl X.K H G Q) I rx ry ⟨i,j,rfl,rfl,_,_,.refl ab,.int _,q⟩) fun _ _ z=>.of z
  | _=>exact bO q
 | _=>exact bO q
theorem rj:oN X (km .Mult) Fq:=by
 intro pins s σ H G x y dx dy v u Q I ab rx ry dX dY q;cases dX with
 | int i =>
  cases dY with
  | int j=>exact gK (XC pins s σ H _ _ v u (Dl X.K H G Q) I rx ry ⟨i,j,rfl,rfl,q.1,_,_,.refl ab,.int _,q.2⟩) fun _ _ z=>.of z
  | _=>exact bO q
 | _=>exact bO q
theorem fT:oN X (km .Mod) nB:=by
 intro pins s σ H G x y dx dy v u Q I ab rx ry dX dY q;cases dX with
 | int i =>
  cases dY with
  | int j=>exact gK (XE pins s σ H _ _ v u (Dl X.K H G Q) I rx ry ⟨i,j,rfl,rfl,q.1,_,_,.refl ab,.int _,q.2⟩) fun _ _ z=>.of z
  | _=>exact bO q
 | _=>exact bO q
theorem oz:oN X (km .FloorDiv) wR:=by
 intro pins s σ H G x y dx dy v u Q I ab rx ry dX dY q;cases dX with
 | int i =>
  cases dY with
  | int j=>exact gK (Vf pins s σ H _ _ v u (Dl X.K H G Q) I rx ry ⟨i,j,rfl,rfl,⟨q.1,q.2.1⟩,_,_,.refl ab,.int _,q.2.2⟩) fun _ _ z=>.of z
  | _=>exact bO q
 | _=>exact bO q
theorem La(hu:X.A.units < cLine):oN X (dU .Lt) ZV:=by
 intro pins s σ H G x y dx dy v u Q I ab rx ry dX dY q;cases dX with
 | int i =>
  cases dY with
  | int j=>exact gK (Z8 pins s σ H _ _ v u (Dl X.K H G Q) I rx ry ⟨i,j,rfl,rfl,_,_,.refl ab,.bl _,q⟩) fun _ _ z=>.of z
  | _=>exact bO q
 | tup h1 r1 =>
  cases dY with
  | tup h2 r2 =>
   obtain⟨xs,ys,e1,e2,q⟩:=q;subst e1 e2;have z1:=r1.ints;have z2:=r2.ints;subst z1 z2;have el:∀ xs ys:List Int,HT.lexLt xs ys=K2.lexLt xs ys:=by
    intro xs;induction xs with
    | nil=>intro ys; cases ys <;> rfl
    | cons x xs ih=>intro ys; cases ys with
     | nil=>rfl
     | cons y ys=>unfold HT.lexLt K2.lexLt; rw [ih]
   exact gK (XF hu pins s σ H _ _ v u (Dl X.K H G Q) I rx ry ⟨_,_,xs,ys,rfl,rfl,.of h1,.of h2,_,_,.refl ab,.bl _,by rw [el]; exact q⟩) fun _ _ z=>.of z
  | _=>exact bO q
 | _=>exact bO q
theorem tQ:oN X (dU .LtE) Qb:=by
 intro pins s σ H G x y dx dy v u Q I ab rx ry dX dY q;cases dX with
 | int i =>
  cases dY with
  | int j=>exact gK (Z9 pins s σ H _ _ v u (Dl X.K H G Q) I rx ry ⟨i,j,rfl,rfl,_,_,.refl ab,.bl _,q⟩) fun _ _ z=>.of z
  | _=>exact bO q
 | _=>exact bO q
theorem Lc:oN X (dU .Gt) ZW:=by
 intro pins s σ H G x y dx dy v u Q I ab rx ry dX dY q;cases dX with
 | int i =>
  cases dY with
  | int j=>exact gK (aaa pins s σ H _ _ v u (Dl X.K H G Q) I rx ry ⟨i,j,rfl,rfl,_,_,.refl ab,.bl _,q⟩) fun _ _ z=>.of z
  | _=>exact bO q
 | _=>exact bO q
mutual
def pd:D->PyData
 | .cR=>.none
 | .bl b=>.bool b
 | .int i=>.int i
 | .str x=>.str x
 | .tup ds=>.tuple (ng ds)
 | .fH ds=>.list (ng ds)
 | .vR _=>.none
 | .exc _=>.none
 | .ye _ _ _=>.none
 | .DM _=>.none
 | .ref _=>.none
def ng:List D->List PyData
 | []=>[]
 | d :: r=>pd d :: ng r
end
mutual
theorem vG:∀ (s t:D),nr s=true->nr t=true->v3 (pd s) (pd t)=ik s t
 | .cR,t,_,ht=>by cases t <;> first | rfl | (exact a6 (show false=true from ht))
 | .bl a,t,_,ht=>by cases t <;> first | rfl | (exact a6 (show false=true from ht))
 | .int a,t,_,ht=>by cases t <;> first | rfl | (exact a6 (show false=true from ht))
 | .str a,t,_,ht=>by cases t <;> first | rfl | (exact a6 (show false=true from ht))
 | .tup a,t,hs,ht=>by
  cases t with
  | tup b=>exact Gv a b hs ht
  | ref _=>exact a6 (show false=true from ht)
  | exc _=>exact a6 (show false=true from ht)
  | ye _ _ _=>exact a6 (show false=true from ht)
  | DM _=>exact a6 (show false=true from ht)
  | vR _=>exact a6 (show false=true from ht)
  | _=>rfl
 | .fH a,t,hs,ht=>by
  cases t with
  | fH b=>exact Gv a b hs ht
  | ref _=>exact a6 (show false=true from ht)
  | exc _=>exact a6 (show false=true from ht)
  | ye _ _ _=>exact a6 (show false=true from ht)
  | DM _=>exact a6 (show false=true from ht)
  | vR _=>exact a6 (show false=true from ht)
  | _=>rfl
 | .ref _,_,hs,_=>a6 (show false=true from hs)
 | .exc _,_,hs,_=>a6 (show false=true from hs)
 | .ye _ _ _,_,hs,_=>a6 (show false=true from hs)
 | .DM _,_,hs,_=>a6 (show false=true from hs)
 | .vR _,_,hs,_=>a6 (show false=true from hs)
theorem Gv:∀ (s t:List D),sg s=true->sg t=true->PyData.eqvAll (ng s) (ng t)=lA s t
 | [],[],_,_=>rfl
 | [],_ :: _,_,_=>rfl
 | _ :: _,[],_,_=>rfl
 | a :: r,b :: t,hs,ht=>by
  have J7:nr a=true/\sg r=true:=(kF).mp hs;have Ze:nr b=true/\sg t=true:=(kF).mp ht;show (v3 (pd a) (pd b)&&PyData.eqvAll (ng r) (ng t))=(ik a b&&lA r t);rw [vG a b J7.1 Ze.1,Gv r t J7.2 Ze.2]
end
mutual
theorem kY:∀ (s:D),nr s=true->(pd s).canLay0=true
 | .cR,_=>rfl
 | .bl a,_=>rfl
 | .int a,_=>rfl
 | .str a,h=>h
 | .tup a,h=>xf a h
 | .fH a,h=>xf a h
 | .exc _,_=>rfl
 | .ye _ _ _,_=>rfl
 | .DM _,_=>rfl
 | .ref _,_=>rfl
 | .vR _,_=>rfl
theorem xf:∀ (s:List D),sg s=true->PyData.canLayAll0 (ng s)=true
 | [],_=>rfl
 | a :: r,h=>by
  have h':nr a=true/\sg r=true:=(kF).mp h;show ((pd a).canLay0&&PyData.canLayAll0 (ng r))=true;rw [kY a h'.1,xf r h'.2]; rfl
end
theorem Cj{G:Gp}{n:Nat}{d t:D}(h:Sn G n d t):(pd t).depth<=n:=by
 induction h with
 | cR=>exact cu _
 | bl b=>exact cu _
 | int i=>exact cu _
 | str x h=>exact cu _
 | E8=>exact vN (cu _)
 | n8 _ _ R3 R1 =>
  exact vN (Nat.max_le.mpr ⟨R3,v7 R1⟩)
 | HG=>exact vN (cu _)
 | zB _ _ R3 R1 =>
  exact vN (Nat.max_le.mpr ⟨R3,v7 R1⟩)
 | ref _ _ ih=>exact ih
theorem iS{pins:List (Addr×Obj)}{σ:L2.St}{H:Hp}{s:ao}{G:Gp}(I:Inv X pins σ H s)(ab:lW X.K H G){n:Nat}{d t:D}(h:Sn G n d t) :
  (∀ v u,cQ X.K H v d->RelV v u->∃ as,Reads s.heap u (pd t) as) /\
  (∀ ds ss,(d=.fH ds/\t=.fH ss)\/(d=.tup ds/\t=.tup ss)->∀ vs us,bc X.K H vs ds->Vals vs us->∃ as,iA s.heap us (ng ss) as):=by
 have Wd:∀ {ds ss:List D},(∀ vs us,bc X.K H vs ds->Vals vs us->∃ as,iA s.heap us (ng ss) as)->∀ v u,cQ X.K H v (.tup ds)->RelV v u->∃ as,Reads s.heap u (pd (.tup ss)) as:=by
  intro ds ss k v u r ru;cases r with
  | tup hq rs =>
   cases ru;obtain⟨bw,rv,⟨o,ho,hc,n,hd⟩,hz⟩:=I.tuple (.of hq);obtain⟨as,ra⟩:=k _ bw rs rv;exact⟨as,.tuple ho hc hd (by simpa using ra)⟩
 have Wj:∀ {ds ss:List D},(∀ vs us,bc X.K H vs ds->Vals vs us->∃ as,iA s.heap us (ng ss) as)->∀ v u,cQ X.K H v (.fH ds)->RelV v u->∃ as,Reads s.heap u (pd (.fH ss)) as:=by
  intro ds ss k v u r ru;cases r with
  | fH hq rs =>
   cases ru;obtain⟨bw,rv,pl,hz⟩:=I.list hq.sq;obtain⟨o,ho,hc,n,hd⟩:=pl.isList;obtain⟨as,ra⟩:=k _ bw rs rv;exact⟨_,.list ho hc hd (by simpa using ra)⟩
 induction h with
 | cR=>exact⟨fun v u r ru=>by cases r; cases ru; exact⟨_,.none⟩,fun ds ss e=>by rcases e with ⟨e,_⟩ | ⟨e,_⟩ <;> cases e⟩
 | bl b=>exact⟨fun v u r ru=>by cases r; cases ru; exact⟨_,.bool b⟩,fun ds ss e=>by rcases e with ⟨e,_⟩ | ⟨e,_⟩ <;> cases e⟩
 | int i=>exact⟨fun v u r ru=>by cases r; obtain⟨t,rfl⟩:=ru; exact⟨_,.int i t⟩,fun ds ss e=>by rcases e with ⟨e,_⟩ | ⟨e,_⟩ <;> cases e⟩
 | str x hx=>exact⟨fun v u r ru=>by cases r; obtain⟨t,rfl⟩:=ru; exact⟨_,.str x t⟩,fun ds ss e=>by rcases e with ⟨e,_⟩ | ⟨e,_⟩ <;> cases e⟩
 | E8 =>
  have k:∀ vs us,bc X.K H vs []->Vals vs us->∃ as,iA s.heap us (ng []) as:=fun vs us r ru=>by
   have e:=r.zero;subst e;cases ru;exact⟨_,.nil⟩
  refine⟨Wd k,fun ds ss e=>?_⟩;rcases e with ⟨e,_⟩ | ⟨e,e2⟩
  ·cases e
  ·cases e; cases e2; exact k
 | n8 h1 h2 R3 R1 =>
  have k2:=R1.2 _ _ (.inr ⟨rfl,rfl⟩);have k:∀ vs us,bc X.K H vs (_ :: _)->Vals vs us->∃ as,iA s.heap us (ng (_ :: _)) as:=fun vs us r ru=>by
   cases r with
   | cons r1 r2 =>
    cases ru with
    | cons u1 u2 =>
     obtain⟨as,ra⟩:=R3.1 _ _ r1 u1;obtain⟨bs,rb⟩:=k2 _ _ r2 u2;exact⟨_,.cons ra rb⟩
  refine⟨Wd k,fun ds ss e=>?_⟩;rcases e with ⟨e,_⟩ | ⟨e,e2⟩
  ·cases e
  ·cases e; cases e2; exact k
 | HG =>
  have k:∀ vs us,bc X.K H vs []->Vals vs us->∃ as,iA s.heap us (ng []) as:=fun vs us r ru=>by
   have e:=r.zero;subst e;cases ru;exact⟨_,.nil⟩
  refine⟨Wj k,fun ds ss e=>?_⟩;rcases e with ⟨e,e2⟩ | ⟨e,_⟩
  ·cases e; cases e2; exact k
  ·cases e
 | zB h1 h2 R3 R1 =>
  have k2:=R1.2 _ _ (.inl ⟨rfl,rfl⟩);have k:∀ vs us,bc X.K H vs (_ :: _)->Vals vs us->∃ as,iA s.heap us (ng (_ :: _)) as:=fun vs us r ru=>by
   cases r with
   | cons r1 r2 =>
    cases ru with
    | cons u1 u2 =>
     obtain⟨as,ra⟩:=R3.1 _ _ r1 u1;obtain⟨bs,rb⟩:=k2 _ _ r2 u2;exact⟨_,.cons ra rb⟩
  refine⟨Wj k,fun ds ss e=>?_⟩;rcases e with ⟨e,e2⟩ | ⟨e,_⟩
  ·cases e; cases e2; exact k
  ·cases e
 | ref hg h1 ih =>
  refine⟨fun v u r ru=>?_,fun ds ss e=>by rcases e with ⟨e,_⟩ | ⟨e,_⟩ <;> cases e⟩;cases r;cases ru;obtain⟨vs,hv,rs⟩:=ab.lst hg;obtain⟨bw,rv,pl,hz⟩:=I.list (.of hv);obtain⟨o,ho,hc,n,hd⟩:=pl.isList;obtain⟨as,ra⟩:=ih.2 _ _ (.inl ⟨rfl,rfl⟩) vs bw rs rv;exact⟨_,.list ho hc hd (by simpa using ra)⟩
theorem oA(hu:X.A.units+64 < cLine):oN X (dU .Eq) (Fv false):=by
 intro pins s σ H G x y dx dy v u Q I ab rx ry dX dY q;obtain⟨a,b,sa,sb,q⟩:=q;obtain⟨as,ra⟩:=(iS I ab sa).1 x v dX rx;obtain⟨bs,rb⟩:=(iS I ab sb).1 y u dY ry;have d1:=Cj sa;refine SeqAt.compareEq_reads ra rb (kY _ sa.nr) (kY _ sb.nr) (by unfold SN at d1; lia) ?_;rw [vG _ _ sa.nr sb.nr];exact⟨.bl _,H,.bl _,G,I,.refl ab,rfl,.bl _,q⟩
theorem yw(hu:X.A.units+64 < cLine):oN X (dU .NotEq) (Fv true):=by
 intro pins s σ H G x y dx dy v u Q I ab rx ry dX dY q;obtain⟨a,b,sa,sb,q⟩:=q;obtain⟨as,ra⟩:=(iS I ab sa).1 x v dX rx;obtain⟨bs,rb⟩:=(iS I ab sb).1 y u dY ry;have d1:=Cj sa;refine SeqAt.compareNe_reads ra rb (kY _ sa.nr) (kY _ sb.nr) (by unfold SN at d1; lia) ?_;rw [vG _ _ sa.nr sb.nr];exact⟨.bl _,H,.bl _,G,I,.refl ab,rfl,.bl _,q⟩
end
theorem xD(j k:Key):ik (fE j) (fE k)=decide (j=k):=by
 cases j with
 | inl a=>cases k with
  | inl b=>rw [RO]; rfl
  | inr b=>exact(decide_eq_false (fun z=>nomatch z)).symm
 | inr a=>cases k with
  | inl b=>exact(decide_eq_false (fun z=>nomatch z)).symm
  | inr b=>rw [RN]; exact(TG a b)
theorem Ef:∀ (js ks:List Key),lA (js.map fE) (ks.map fE)=decide (js=ks)
 | [],[]=>(decide_eq_true rfl).symm
 | [],_ :: _=>(decide_eq_false (fun z=>nomatch z)).symm
 | _ :: _,[]=>(decide_eq_false (fun z=>nomatch z)).symm
 | j :: js,k :: ks=>by
  show (ik (fE j) (fE k)&&lA (js.map fE) (ks.map fE))=_;rw [xD,Ef js ks,Jj]
theorem xC(js ks:List Key):ik (.tup (js.map fE)) (.tup (ks.map fE))=decide (js=ks):=by
 exact Ef js ks
section
variable {K:ag} {H:Hp}
theorem FN{d:D}(h:gx d=true):∃ k:Key,d=fE k:=by
 cases d with
 | int i=>exact⟨.inl i,rfl⟩
 | str x=>exact⟨.inr x,rfl⟩
 | _=>exact absurd h (by simp [gx])
theorem Nq:∀ {ds:List D},ds.all gx=true->∃ ks:List Key,ds=ks.map fE
 | [],_=>⟨[],rfl⟩
 | d :: r,h=>by
  rw [P2,aI] at h;obtain⟨k,rfl⟩:=FN h.1;obtain⟨ks,rfl⟩:=Nq h.2;exact⟨k :: ks,rfl⟩
theorem Nr{d:D}(h:vx d=true):∃ ks:List Key,d=.tup (ks.map fE):=by
 cases d with
 | tup ds=>obtain⟨ks,rfl⟩:=Nq (ds:=ds) h; exact⟨ks,rfl⟩
 | _=>exact absurd h (by simp [vx])
theorem Fm{v:V}{k:Key}(r:cQ K H v (fE k)):v=kV k:=by
 cases k with
 | inl i=>cases r; rfl
 | inr x=>cases r; rfl
theorem HH:∀ {vs:List V} {ks:List Key},bc K H vs (ks.map fE)->vs=ks.map kV
 | _,[],r=>r.zero
 | _,k :: ks,r=>by
  rw [aB] at r;cases r with
  | cons r1 r2=>rw [Fm r1,HH r2]; rfl
theorem HI{v:V}{ks:List Key}(r:cQ K H v (.tup (ks.map fE))):∃ b,v=.ref b/\H b=some (.tup (ks.map kV)):=by
 cases r with
 | tup h rs=>have e:=HH rs; subst e; exact⟨_,rfl,h⟩
theorem qR.look{kv:List (Key×V)}{bo:List (D×D)}(r:qR K H kv bo)(k:Key):(∃ v d,nk kv k=some v/\K2.look bo (fE k)=some d/\cQ K H v d)\/(nk kv k=none/\K2.look bo (fE k)=none):=by
 induction r using qR.ind with
 | nil=>exact .inr ⟨rfl,rfl⟩
 | @cons j v d r t rd rs ih =>
  by_cases e:j=k
  ·left;refine⟨v,d,tm (p:=(j,v)) e,?_,rd⟩;unfold K2.look;rw [vP (by show ik (fE j) (fE k)=true; rw [xD]; exact decide_eq_true e)]; rfl
  ·have e1:nk ((j,v) :: r) k=nk r k:=tu (p:=(j,v)) e;have e2:K2.look ((fE j,d) :: t) (fE k)=K2.look t (fE k):=by
    unfold K2.look;rw [vQ (by show ¬ ik (fE j) (fE k)=true; rw [xD]; simpa using e)]
   rw [e1,e2];exact ih
theorem r0.look{kv:List (List Key×V)}{bo:List (D×D)}(r:r0 K H kv bo)(k:List Key):(∃ v d,nk kv k=some v/\K2.look bo (.tup (k.map fE))=some d/\cQ K H v d)\/(nk kv k=none/\K2.look bo (.tup (k.map fE))=none):=by
 induction r using r0.ind with
 | nil=>exact .inr ⟨rfl,rfl⟩
 | @cons j v d r t rd rs ih =>
  by_cases e:j=k
  ·left;refine⟨v,d,tm (p:=(j,v)) e,?_,rd⟩;unfold K2.look;rw [vP (by show ik (.tup (j.map fE)) (.tup (k.map fE))=true; rw [xC]; exact decide_eq_true e)]; rfl
  ·have e1:nk ((j,v) :: r) k=nk r k:=tu (p:=(j,v)) e;have e2:K2.look ((.tup (j.map fE),d) :: t) (.tup (k.map fE))=K2.look t (.tup (k.map fE)):=by
    unfold K2.look;rw [vQ (by show ¬ ik (.tup (j.map fE)) (.tup (k.map fE))=true; rw [xC]; simpa using e)]
   rw [e1,e2];exact ih
theorem qR.any{kv:List (Key×V)}{bo:List (D×D)}(r:qR K H kv bo)(k:Key):(kv.any fun p=>decide (p.1=k))=bo.any fun p=>ik p.1 (fE k):=by
 induction r using qR.ind with
 | nil=>rfl
 | @cons j v d r t rd rs ih=>simp only [p8]; rw [ih,xD]
theorem r0.any{kv:List (List Key×V)}{bo:List (D×D)}(r:r0 K H kv bo)(k:List Key):(kv.any fun p=>decide (p.1=k))=bo.any fun p=>ik p.1 (.tup (k.map fE)):=by
 induction r using r0.ind with
 | nil=>rfl
 | @cons j v d r t rd rs ih=>simp only [p8]; rw [ih,xC]
theorem qR.put{kv:List (Key×V)}{bo:List (D×D)}(r:qR K H kv bo)(k:Key){v:V}{d:D}(rd:cQ K H v d):qR K H (putK kv k v) (K2.put bo (fE k) d):=by
 unfold putK K2.put;rw [r.any k];by_cases h:(bo.any fun p=>ik p.1 (fE k))=true
 ·rw [if_pos h,if_pos h];clear h;induction r using qR.ind with
  | nil=>exact .nil
  | @cons j w e r t re rs ih =>
   simp only [aB];rw [xD];by_cases e:j=k
   ·simp only [e,if_true,decide_true]; exact .cons rd ih
   ·simp only [e,if_false,decide_false,aw]; exact .cons re ih
 ·rw [if_neg h,if_neg h];clear h;induction r using qR.ind with
  | nil=>exact .cons rd .nil
  | cons re rs ih=>exact .cons re ih
theorem r0.put{kv:List (List Key×V)}{bo:List (D×D)}(r:r0 K H kv bo)(k:List Key){v:V}{d:D}(rd:cQ K H v d):r0 K H (putK kv k v) (K2.put bo (.tup (k.map fE)) d):=by
 unfold putK K2.put;rw [r.any k];by_cases h:(bo.any fun p=>ik p.1 (.tup (k.map fE)))=true
 ·rw [if_pos h,if_pos h];clear h;induction r using r0.ind with
  | nil=>exact .nil
  | @cons j w e r t re rs ih =>
   simp only [aB];rw [xC];by_cases e:j=k
   ·simp only [e,if_true,decide_true]; exact .cons rd ih
   ·simp only [e,if_false,decide_false,aw]; exact .cons re ih
 ·rw [if_neg h,if_neg h];clear h;induction r using r0.ind with
  | nil=>exact .cons rd .nil
  | cons re rs ih=>exact .cons re ih
end
theorem Kp.putD{H:Hp}{p:Addr}{o o':HO}(hp:H p=some o)(h:(∃ k,o=.dK k)\/∃ k,o=.dT k):Kp H (upd H p o') :=
 ⟨fun a ys e=>by rw [br (by rintro rfl; rw [hp] at e; rcases h with ⟨_,rfl⟩ | ⟨_,rfl⟩ <;> cases e)]; exact e,fun a ob u e=>by rw [br (by rintro rfl; rw [hp] at e; rcases h with ⟨_,rfl⟩ | ⟨_,rfl⟩ <;> cases e)]; exact e⟩
section
variable {X:Cx} {pins:List (Addr×Obj)} {σ:L2.St} {H:Hp} {s:ao} {G:Gp} {a:Addr} {bo:List (D×D)} {k:D} {y:V}
theorem toT(I:Inv X pins σ H s)(e:H a=some (.dK [])):Inv X pins σ (upd H a (.dT [])) s:=by
 obtain⟨z,hd,vs,rel,dd⟩:=NL I.cO e;have hv:vs=[]:=by cases rel; rfl
 subst hv;obtain⟨o,es,ep,ho,hx,FX,hko,hl,nd⟩:=dd;have he:es=#[]:=by
  cases hq:es.toList with
  | nil=>simpa using hq
  | cons _ _=>rw [hq] at hl; cases hl
 subst he;exact I.write (h':=s.heap) (t':=s.toks) (x:=a) (e:=a) (by rw [e]; exact bu) (.inl rfl) (fun b u _ q=>q) ⟨o,ho⟩ ⟨cu _,hd,[],.nil,o,#[],ep,ho,hx,FX,rfl,gZ⟩
theorem toK(I:Inv X pins σ H s)(e:H a=some (.dT [])):Inv X pins σ (upd H a (.dK [])) s:=by
 obtain⟨z,hd,xs,rel,o,es,ep,ho,hx,FX,hl,nd⟩:=I.cO a _ e;have hv:xs=[]:=by cases rel; rfl
 subst hv;have he:es=#[]:=by simpa using hl
 subst he;exact I.write (h':=s.heap) (t':=s.toks) (x:=a) (e:=a) (by rw [e]; exact bu) (.inl rfl) (fun b u _ q=>q) ⟨o,ho⟩ ⟨cu _,hd,[],.nil,o,#[],ep,ho,hx,FX,(fun _ h=>by simp at h),.nil,gZ⟩
theorem Nh{o:HO}(ab:lW X.K H G)(hg:G a=some (.mO bo))(k:Kp H (upd H a o))(ho:PX X.K (upd H a o) a (.mO bo)):Mv X.K H G (upd H a o) G:=by
 have m:=Mv.put ab hg k ho;have e:dE G a (.mO bo)=G:=by
  funext b; unfold dE; split
  ·rename_i z; rw [z,hg]
  ·rfl
 rw [e] at m;exact m
theorem NN(I:Inv X pins σ H s)(ab:lW X.K H G)(hg:G a=some (.mO bo))(hk:jv bo k=true)(ry:cQ X.K H y k) :
  ∃ H',Inv X pins σ H' s/\Mv X.K H G H' G/\((∃ (kv:List (Key×V)) (kk:Key),H' a=some (.dK kv)/\qR X.K H' kv bo/\k=fE kk/\y=kV kk)\/∃ (kv:List (List Key×V)) (kk:List Key) (b:Addr),H' a=some (.dT kv)/\r0 X.K H' kv bo/\k=.tup (kk.map fE)/\y=.ref b/\H' b=some (.tup (kk.map kV))):=by
 unfold jv at hk;rw [j5,aI,aI] at hk;rcases hk with ⟨h1,h2⟩ | ⟨h1,h2⟩
 ·obtain⟨kk,rfl⟩:=FN h1;have ey:=Fm ry;subst ey;rcases ab a _ hg with ⟨kv,hv,rs⟩ | ⟨kv,hv,rs⟩
  ·exact⟨H,I,.refl ab,.inl ⟨kv,kk,hv,rs,rfl,rfl⟩⟩
  ·cases rs with
   | nil =>
    refine⟨_,toK I hv,Nh ab hg (.putD hv (.inr ⟨_,rfl⟩)) (.inl ⟨[],cP,.nil⟩),.inl ⟨[],kk,cP,.nil,rfl,rfl⟩⟩
   | cons _ _=>simp [gx] at h2
 ·obtain⟨kk,rfl⟩:=Nr h1;obtain⟨b,rfl,hb⟩:=HI ry;rcases ab a _ hg with ⟨kv,hv,rs⟩ | ⟨kv,hv,rs⟩
  ·cases rs with
   | nil =>
    have kp:Kp H (upd H a (.dT [])):=.putD hv (.inl ⟨_,rfl⟩);exact⟨_,toT I hv,Nh ab hg kp (.inr ⟨[],cP,.nil⟩),.inr ⟨[],kk,b,cP,.nil,rfl,rfl,kp.tup _ _ hb⟩⟩
   | @cons j _ _ _ _ _ _=>cases j <;> simp [fE,vx] at h2
  ·exact⟨H,I,.refl ab,.inr ⟨kv,kk,b,hv,rs,rfl,rfl,hb⟩⟩
theorem Ji(I:Inv X pins σ H s)(ab:lW X.K H G)(hg:G a=some (.mO bo))(hk:jv bo k=true)(ry:cQ X.K H y k) :
  ∃ H' o,Inv X pins σ H' s/\Mv X.K H G H' G/\Cz H' a y o/\o.isSome=(look bo k).isSome/\∀ d,look bo k=some d->∃ v,o=some v/\cQ X.K H' v d:=by
 obtain⟨H',I',m,h⟩:=NN I ab hg hk ry;rcases h with ⟨kv,kk,hv,rs,rfl,rfl⟩ | ⟨kv,kk,b,hv,rs,rfl,rfl,hb⟩
 ·refine⟨H',nk kv kk,I',m,.k hv,?_,fun d hd=>?_⟩
  ·rcases rs.look kk with ⟨v,d,e1,e2,_⟩ | ⟨e1,e2⟩ <;> rw [e1,e2] <;> rfl
  ·rcases rs.look kk with ⟨v,d',e1,e2,r⟩ | ⟨e1,e2⟩
   ·rw [e2] at hd; cases hd; exact⟨v,e1,r⟩
   ·rw [e2] at hd; cases hd
 ·refine⟨H',nk kv kk,I',m,.t hv hb,?_,fun d hd=>?_⟩
  ·rcases rs.look kk with ⟨v,d,e1,e2,_⟩ | ⟨e1,e2⟩ <;> rw [e1,e2] <;> rfl
  ·rcases rs.look kk with ⟨v,d',e1,e2,r⟩ | ⟨e1,e2⟩
   ·rw [e2] at hd; cases hd; exact⟨v,e1,r⟩
   ·rw [e2] at hd; cases hd
theorem Fj{x:V}(I:Inv X pins σ H s)(rd:cQ X.K H x (.vR bo))(hk:jv bo k=true)(ry:cQ X.K H y k) :
  ∃ a o,x=.ref a/\(bo=[]\/Cz H a y o)/\o.isSome=(look bo k).isSome/\∀ d,look bo k=some d->∃ v,o=some v/\cQ X.K H v d:=by
 unfold jv at hk;rw [j5,aI,aI] at hk;cases rd with
 | uO h rs =>
  rename_i a ob kv;rcases hk with ⟨h1,h2⟩ | ⟨h1,h2⟩
  ·obtain⟨kk,rfl⟩:=FN h1;have ey:=Fm ry;subst ey;refine⟨a,nk kv kk,rfl,.inr (.inl ⟨kv,kk,.inr ⟨_,h⟩,rfl,rfl⟩),?_,fun d hd=>?_⟩
   ·rcases rs.look kk with ⟨v,d,e1,e2,_⟩ | ⟨e1,e2⟩ <;> rw [e1,e2] <;> rfl
   ·rcases rs.look kk with ⟨v,d',e1,e2,r⟩ | ⟨e1,e2⟩
    ·rw [e2] at hd; cases hd; exact⟨v,e1,r⟩
    ·rw [e2] at hd; cases hd
  ·cases rs with
   | nil=>exact⟨a,none,rfl,.inl rfl,rfl,fun d hd=>by cases hd⟩
   | cons _ _ =>
    rename_i kx _ _ _ _ _ _;rw [P2,aI] at h2;cases kx <;> exact absurd h2.1 (by simp [fE,vx])
 | uN h rs =>
  rename_i a ob kv;rcases hk with ⟨h1,h2⟩ | ⟨h1,h2⟩
  ·cases rs with
   | nil=>exact⟨a,none,rfl,.inl rfl,rfl,fun d hd=>by cases hd⟩
   | cons _ _ =>
    rw [P2,aI] at h2;exact absurd h2.1 (by simp [gx])
  ·obtain⟨kk,rfl⟩:=Nr h1;obtain⟨b,rfl,hb⟩:=HI ry;refine⟨a,nk kv kk,rfl,.inr (.inr ⟨kv,kk,b,.inr ⟨_,h⟩,rfl,hb,rfl⟩),?_,fun d hd=>?_⟩
   ·rcases rs.look kk with ⟨v,d,e1,e2,_⟩ | ⟨e1,e2⟩ <;> rw [e1,e2] <;> rfl
   ·rcases rs.look kk with ⟨v,d',e1,e2,r⟩ | ⟨e1,e2⟩
    ·rw [e2] at hd; cases hd; exact⟨v,e1,r⟩
    ·rw [e2] at hd; cases hd
theorem S3{v:V}{d:D}(I:Inv X pins σ H s)(ab:lW X.K H G)(hg:G a=some (.mO bo))(hk:jv bo k=true)(hz:bo.length < SZ)(ry:cQ X.K H y k)(rv:cQ X.K H v d) :
  ∃ H' H'',Inv X pins σ H' s/\PT H' a y v H''/\Mv X.K H G H'' (dE G a (.mO (put bo k d))):=by
 obtain⟨H',I',m,h⟩:=NN I ab hg hk ry;have rv':=rv.mono (m.kp ab);have sz:bg=16777216:=bK;rcases h with ⟨kv,kk,hv,rs,rfl,rfl⟩ | ⟨kv,kk,b,hv,rs,rfl,rfl,hb⟩
 ·have kp:Kp H' (upd H' a (.dK (putK kv kk v))):=.putD hv (.inl ⟨_,rfl⟩);exact⟨H',_,I',.k hv (by rw [rs.length,sz]; exact hz),m.trans (.put m.ab hg kp (.inl ⟨_,cP,(rs.put kk rv').mono kp⟩))⟩
 ·have kp:Kp H' (upd H' a (.dT (putK kv kk v))):=.putD hv (.inr ⟨_,rfl⟩);exact⟨H',_,I',.t hv hb (by rw [rs.length,sz]; exact hz),m.trans (.put m.ab hg kp (.inr ⟨_,cP,(rs.put kk rv').mono kp⟩))⟩
end
section
variable {X:Cx} {a b c e:Expr} {es:List Expr} {ta tb tc te:fM} {t:AA} {pos p p2 apos Cn:Pos} {x:Str}
theorem vq{k:Bool}{j}:gy X (.Constant (.bool k) j pos) (dC (.bl k)):=nU Z4 fun _ _=>.bl k
theorem j8{j}:gy X (.Constant .none j pos) (dC .cR):=nU Xx fun _ _=>.cR
theorem cK{y:Str}{j}:gy X (.Constant (.str y) j pos) (dC (.str y)):=nU Xw fun _ _=>.str y
theorem j6:abr X (unaryOp .USub) tL:=by
 intro pins s σ H G x dx v Q I ab rx dX q;cases dX with
 | int i=>exact gK (W4 pins s σ H _ v (Dl X.K H G Q) I rx ⟨i,rfl,_,_,.refl ab,.int _,q⟩) fun _ _ z=>.of z
 | _=>exact bO q
theorem g4(hu:X.A.units+64 < cLine)(ha:gy X a ta)(hb:gy X b tb)(hs:N9 b):gy X (.Subscript a b pos) (a9 qY ta tb):=by
 intro E pins s σ H τ G Q hE I h;refine CC (N4 ha hb hE I h fun v u s2 x y dx dy H2 G2 J m rx ry dX dY q=>?_);have fin:∀ {rb:R2},IxR X rb->rb x y H2 (Dl X.K H2 G2 Q)->wpAny (model X.prog X.w) X.A (subscriptTail a b v u) (qN X pins σ H G Q) X.xe s2:=fun hr hq =>
  gK (hr a b pins s2 σ H2 x y v u _ J.inv rx ry hq (hs _ _)) fun _ _ z=>(qN.of z).trans m
 cases dX with
 | tup hq rs =>
  cases dY with
  | int i =>
   rw [ot] at q;split at q
   ·rename_i d hd;obtain⟨w,hw,wF⟩:=rs.sI hd;exact fin RU ⟨_,_,i,w,rfl,rfl,.of hq,hw,d,G2,.refl J.ab,wF,q⟩
   ·exact q.elim
  | _=>exact bO q
 | fH hq rs =>
  cases dY with
  | int i =>
   rw [Bu] at q;split at q
   ·rename_i d hd;obtain⟨w,hw,wF⟩:=rs.sI hd;exact fin Nt ⟨_,_,i,w,rfl,rfl,hq.sq,hw,d,G2,.refl J.ab,wF,q⟩
   ·exact q.elim
  | _=>exact bO q
 | uO h rs =>
  rw [Ft] at q;obtain⟨hk,q⟩:=q;split at q
  ·rename_i d hd;obtain⟨a',o,ea,g,_,hv⟩:=Fj J.inv (.uO h rs) hk dY;obtain⟨w,rfl,wF⟩:=hv d hd;cases ea;rcases g with rfl | g
   ·cases hd
   ·cases rx;exact yh (ub J.inv g) PySem.F.slot_dict_getitem.lookup (yS (by lia) J.inv g ry fun w' s3 I4 rv=>⟨w,H2,d,G2,I4,m,rv,wF,q⟩) (hs _ _)
  ·exact q.elim
 | uN h rs =>
  rw [Ft] at q;obtain⟨hk,q⟩:=q;split at q
  ·rename_i d hd;obtain⟨a',o,ea,g,_,hv⟩:=Fj J.inv (.uN h rs) hk dY;obtain⟨w,rfl,wF⟩:=hv d hd;cases ea;rcases g with rfl | g
   ·cases hd
   ·cases rx;exact yh (ub J.inv g) PySem.F.slot_dict_getitem.lookup (yS (by lia) J.inv g ry fun w' s3 I4 rv=>⟨w,H2,d,G2,I4,m,rv,wF,q⟩) (hs _ _)
  ·exact q.elim
 | ref l =>
  rw [UZ] at q;split at q
  ·rename_i ds hl;obtain⟨vs,hv,rs⟩:=J.ab.lst hl;cases dY with
   | int i =>
    dsimp only at q;split at q
    ·rename_i d hd;obtain⟨w,hw,wF⟩:=rs.sI hd;exact fin Nt ⟨_,_,i,w,rfl,rfl,.of hv,hw,d,G2,.refl J.ab,wF,q⟩
    ·exact q.elim
   | _=>exact bO q
  ·rename_i bo hl;obtain⟨hk,q⟩:=q;split at q
   ·rename_i d hd;obtain⟨H3,o,I3,m3,g,_,hv⟩:=Ji J.inv J.ab hl hk dY;obtain⟨w,rfl,wF⟩:=hv d hd;cases rx;exact yh (ub I3 g) PySem.F.slot_dict_getitem.lookup (yS (by lia) I3 g ry fun w' s3 I4 rv=>⟨w,H3,d,G2,I4,m.trans m3,rv,wF,q⟩) (hs _ _)
   ·exact q.elim
  ·exact q.elim
 | _=>exact bO q
def Zn(X:Cx)(e:Option Expr)(t:Y0):Prop :=
 ∀ (E:lu) (pins:List (Addr×Obj)) (s:ao) (σ:L2.St) (H:Hp) (τ:iK) (G:Gp) (Q:Option Int->Gp->Prop),Lk X E->I2 X pins σ H τ G s->t E τ G Q ->
  wpAny (model X.prog X.w) X.A (evalPart e X.env) (fun u s'=>∃ o H' G',Inv X pins σ H' s'/\Mv X.K H G H' G'/\IsPart u o/\Q o G') X.xe s
theorem eI:Zn X none cL:=by
 intro E pins s σ H τ G Q hE I h;rw [evalPart_none];exact au ⟨none,H,G,I.inv,.refl I.ab,.none,h⟩
theorem dA(h:gy X e te):Zn X (some e) (gL te):=by
 intro E pins s σ H τ G Q hE I hw;rw [evalPart_some];refine jC h hE I hw fun x H1 d G1 u s1 I1 m1 r1 kg q1=>?_;cases kg with
 | int i =>
  obtain⟨t,rfl⟩:=r1;exact⟨some i,H1,G1,I1.inv,m1,.int i t,q1⟩
 | _=>exact bO q1
theorem g8{lo hi:Option Expr}{tl th:Y0}(he:gy X a ta)(hl:Zn X lo tl)(hu:Zn X hi th):gy X (.Subscript a (.Slice lo hi none p2) pos) (Cm ta tl th):=by
 intro E pins s σ H τ G Q hE I h;refine CC (jC he hE I h fun x H1 d G1 v s1 I1 m1 r1 kg q1=>?_);refine wpAny_Slice (gK (hl E pins s1 σ H1 τ G1 _ hE I1 q1) ?_);rintro vl s2 ⟨l,H2,G2,jA,m2,pl,q2⟩;refine gK (hu E pins s2 σ H2 τ G2 _ hE (I1.mv jA m2) q2) ?_;rintro vu s3 ⟨r,H3,G3,I3,m3,pu,q3⟩;rw [evalPart_none];refine au ?_;have m13:=m2.trans m3;have mm:=m1.trans m13;have I4:Inv X pins σ H3 { s3 with heap:=s3.heap.push { cls:=.type "slice",data:=.fields #[vl,vu,.none] } }:=I3.kept (t':=s3.toks) fun b ob q=>aA _ q;have Xu:=kg.mono (m13.kp I1.ab);have WT:=m3.ab;have key:∀ {rb:V->Option Int->Option Int->Hp->VK->Prop},SlR X rb->rb x l r H3 (Dl X.K H3 G3 Q)->wpAny (model X.prog X.w) X.A (subscriptTail a (.Slice lo hi none p2) v (.ref s3.heap.objs.size)) (qN X pins σ H G Q) X.xe { s3 with heap:=s3.heap.push { cls:=.type "slice",data:=.fields #[vl,vu,.none] } }:=fun hr hq=>by
  obtain⟨T,id,hT,ht,hg⟩:=hr pins { s3 with heap:=s3.heap.push { cls:=.type "slice",data:=.fields #[vl,vu,.none] } } σ H3 x v vl vu l r s3.heap.objs.size _ I4 r1 (Heap.IsSliceOf.new ..) pl pu hq;exact gK (yh (ops:=[.ref s3.heap.objs.size,v]) ht hT hg (by with_unfolding_all rfl)) fun _ _ z=>(qN.of z).trans mm
 cases Xu with
 | tup hq rs =>
  obtain⟨hw,q⟩:=q3;refine key Xm ⟨_,_,rfl,.of hq,?_,fun p hp=>⟨_,G3,.Sj WT hp,.tup cP ((rs.cut l r).mono (.new hp)),q⟩⟩;rw [Fh,Fh,rs.length];exact hw
 | fH hq rs=>exact key MT ⟨_,_,rfl,hq.sq,fun p hp=>⟨_,_,.FH WT hp (rs.cut l r),.ref _,q3 p (WT.free hp)⟩⟩
 | ref g =>
  rw [MX] at q3;split at q3
  ·rename_i ds hg;obtain⟨vs,hv,rs⟩:=WT.lst hg;exact key MT ⟨_,_,rfl,.of hv,fun p hp=>⟨_,_,.FH WT hp (rs.cut l r),.ref _,q3 p (WT.free hp)⟩⟩
  ·exact q3.elim
 | _=>exact bO q3
theorem Vc(ss:List D)(s:D)(h1:sg ss=true)(h2:nr s=true):((ng ss).any fun y=>v3 y (pd s))=ss.any (ik · s):=by
 induction ss with
 | nil=>rfl
 | cons d r ih =>
  have h':nr d=true/\sg r=true:=(kF).mp h1;show (v3 (pd d) (pd s)||(ng r).any _)=_;rw [ih h'.2,vG d s h'.1 h2]; rfl
theorem NO{G:Gp}{n:Nat}{ds ss:List D}(h:Sn G (n+1) (.fH ds) (.fH ss)):cI (ng ss)<=n:=by
 exact v7 (Cj h)
theorem FT(hu:X.A.units+64 < cLine)(neg:Bool){pins:List (Addr×Obj)}{s:ao}{σ:L2.St}{H:Hp}{G:Gp}{x y:V}{dx t:D}{ds ss:List D}{v u:Value}{Q:DK}(I:Inv X pins σ H s)(ab:lW X.K H G)(rx:RelV x v)(dX:cQ X.K H x dx)
  (hy:(∃ l vs bw,u=.ref l/\Vals vs bw/\bc X.K H vs ds/\(s.heap.IsList l bw.toArray\/s.heap.IsTuple l bw.toArray))) (s1:Sn G SN dx t) (s2:Sn G SN (.fH ds) (.fH ss))
  (q:Q (.bl (if neg then !ss.any (ik · t) else ss.any (ik · t))) G):wpAny (model X.prog X.w) X.A (dU (if neg then .NotIn else .In) v u) (qN X pins σ H G Q) X.xe s:=by
 obtain⟨l,vs,bw,rfl,rv,rs,hl⟩:=hy;obtain⟨as,ra⟩:=(iS I ab s1).1 x v dX rx;obtain⟨bs,rb⟩:=(iS I ab s2).2 ds ss (.inl ⟨rfl,rfl⟩) vs bw rs rv;have d2:=NO (n:=7) s2;have n2:sg ss=true:=s2.nr;have BW:=xf _ n2;have e:=Vc ss t n2 s1.nr;have Hb:X.A.units+1+min (cI (ng ss)) (pd t).depth < cLine:=by lia
 have Q8:iA s.heap bw.toArray.toList (ng ss) bs:=by simpa using rb
 have fin:∀ k:Bool,k=(if neg then !ss.any (ik · t) else ss.any (ik · t))->qN X pins σ H G Q (.bool k) s:=fun k hk=>by subst hk; exact⟨.bl _,H,.bl _,G,I,.refl ab,rfl,.bl _,q⟩
 cases neg with
 | false =>
  rcases hl with hl | hl
  ·exact SeqAt.in_listAt _ hl (oU Q8 ra BW (kY _ s1.nr) Hb) (by rw [sW Q8 BW,e]; exact fin _ rfl)
  ·exact SeqAt.in_tupleAt _ hl (oU Q8 ra BW (kY _ s1.nr) Hb) (by rw [sW Q8 BW,e]; exact fin _ rfl)
 | true =>
  rcases hl with hl | hl
  ·exact SeqAt.notIn_listAt _ hl (oU Q8 ra BW (kY _ s1.nr) Hb) (by rw [sW Q8 BW,e]; exact fin _ rfl)
  ·exact SeqAt.notIn_tupleAt _ hl (oU Q8 ra BW (kY _ s1.nr) Hb) (by rw [sW Q8 BW,e]; exact fin _ rfl)
theorem R0(hu:X.A.units+64 < cLine)(neg:Bool){pins:List (Addr×Obj)}{s:ao}{σ:L2.St}{H:Hp}{G:Gp}{x y:V}{dx:D}{bo:List (D×D)}{v u:Value}{Q:DK}(I:Inv X pins σ H s)(ab:lW X.K H G)(rx:RelV x v)(ry:RelV y u)(dY:cQ X.K H y (.vR bo))(dX:cQ X.K H x dx)
  (q:wQ neg dx (.vR bo) G Q):wpAny (model X.prog X.w) X.A (dU (if neg then .NotIn else .In) v u) (qN X pins σ H G Q) X.xe s:=by
 obtain⟨lr,hk,q⟩:=q;have go:∀ (a:Addr) (o:Option V),y=.ref a->Cz H a x o->o.isSome=(look bo dx).isSome->wpAny (model X.prog X.w) X.A (dU (if neg then .NotIn else .In) v u) (qN X pins σ H G Q) X.xe s:=by
  intro a o ea g ho;subst ea;cases ry;cases neg with
  | false=>exact abg (by lia) I g rx fun s3 I4=>⟨.bl _,H,.bl _,G,I4,.refl ab,rfl,.bl _,by rw [ho]; exact q⟩
  | true=>exact NS (by lia) I g rx fun s3 I4=>⟨.bl _,H,.bl _,G,I4,.refl ab,rfl,.bl _,by rw [ho]; exact q⟩
 obtain⟨a,o,ea,g,ho,_⟩:=Fj I dY hk dX;rcases g with rfl | g
 ·exact absurd rfl lr
 ·exact go a o ea g ho
theorem Ng(hu:X.A.units+64 < cLine)(neg:Bool):oN X (dU (if neg then .NotIn else .In)) (wQ neg):=by
 intro pins s σ H G x y dx dy v u Q I ab rx ry dX dY q;cases dY with
 | tup hq rs =>
  obtain⟨t,ss,s1,s2,q⟩:=q;cases ry;obtain⟨bw,rv,pl,hz⟩:=I.tuple (.of hq);exact FT hu neg (y:=x) I ab rx dX ⟨_,_,bw,rfl,rv,rs,.inr pl⟩ s1 s2 q
 | fH hq rs =>
  obtain⟨t,ss,s1,s2,q⟩:=q;cases ry;obtain⟨bw,rv,pl,hz⟩:=I.list hq.sq;exact FT hu neg (y:=x) I ab rx dX ⟨_,_,bw,rfl,rv,rs,.inl pl.isList⟩ s1 s2 q
 | uO h rs=>exact R0 hu neg I ab rx ry (.uO h rs) dX q
 | uN h rs=>exact R0 hu neg I ab rx ry (.uN h rs) dX q
 | ref l =>
  unfold wQ at q;dsimp only at q;split at q
  ·rename_i bo hl;obtain⟨hk,q⟩:=q;obtain⟨H3,o,I3,m3,g,ho,_⟩:=Ji I ab hl hk dX;cases ry;cases neg with
   | false=>exact abg (by lia) I3 g rx fun s3 I4=>⟨.bl _,H3,.bl _,G,I4,m3,rfl,.bl _,by rw [ho]; exact q⟩
   | true=>exact NS (by lia) I3 g rx fun s3 I4=>⟨.bl _,H3,.bl _,G,I4,m3,rfl,.bl _,by rw [ho]; exact q⟩
  ·rename_i ds hl;obtain⟨t,ss,s1,s2,q⟩:=q;cases ry;obtain⟨vs,hv,rs⟩:=ab.lst hl;obtain⟨bw,rv,pl,hz⟩:=I.list (.of hv);exact FT hu neg (y:=x) I ab rx dX ⟨_,_,bw,rfl,rv,rs,.inl pl.isList⟩ s1 s2 q
  ·exact q.elim
 | _=>exact bO q
theorem Lb(hu:X.A.units+64 < cLine):oN X (dU .In) (wQ false):=Ng hu false
theorem iU(hu:X.A.units+64 < cLine):oN X (dU .NotIn) (wQ true):=Ng hu true
end
section
variable {X:Cx} {a b c e o:Expr} {es:List Expr} {ta tb tc te to:fM} {t:AA} {pos p p2 apos Cn:Pos} {x name:Str} {id T:String}
theorem fm:oP X (.builtin "len") mV:=by
 intro pins s σ H G xs ds us Q I ab rx rd q;unfold mV at q;split at q
 ·rename_i x;obtain⟨v,rfl,r⟩:=rd.one;have Uu:∀ (n:Nat),abx X.K v H n->Q (.int (n:Int)) G->wpAny (model X.prog X.w) X.A (call (.builtin "len") us) (qN X pins σ H G Q) X.xe s:=fun n hn hq =>
   gK (Te pins s σ H [v] us (Dl X.K H G Q) I rx ⟨v,n,rfl,hn,_,_,.refl ab,.int _,hq⟩) fun _ _ z=>.of z
  have sz:bg=16777216:=bK;cases r with
  | tup hq rs=>exact Uu _ (.inr ⟨_,.of hq,by rw [rs.length]⟩) q
  | fH hq rs=>exact Uu _ (.inl ⟨_,hq.sq,by rw [rs.length]⟩) q
  | str y =>
   unfold lenOf at q;dsimp only at q;by_cases hz:y.length<=SZ
   ·rw [if_pos hz] at q; exact Uu _ ⟨by rw [sz]; exact hz,rfl⟩ q
   ·rw [if_neg hz] at q; exact q.elim
  | uO h rs =>
   rename_i l o kv bo;obtain⟨u,rfl,ru⟩:=rx.one;cases ru;unfold lenOf at q;dsimp only at q;by_cases ha:(bo.all fun p=>gx p.1)=true
   ·rw [if_pos ha] at q;exact WN I (.inr ⟨_,h⟩) fun t s' I'=>⟨.int kv.length,H,_,G,I',.refl ab,⟨t,rfl⟩,.int _,by rw [rs.length]; exact q⟩
   ·rw [if_neg ha] at q; exact q.elim
  | uN h rs =>
   rename_i l o kv bo;obtain⟨u,rfl,ru⟩:=rx.one;cases ru;unfold lenOf at q;dsimp only at q;by_cases ha:(bo.all fun p=>gx p.1)=true
   ·rw [if_pos ha] at q;cases rs with
    | nil =>
     obtain⟨z,hS,xs,rel,ob,es,ep,ho,hx,FX,hl,nd⟩:=(I.cO l _ h).2;have Zc:xs=[]:=by cases rel; rfl
     subst Zc;have he:es=#[]:=by simpa using hl
     subst he;have dd:s.heap.DictOf (gm X.prog X.w) l []:=⟨ob,#[],ep,ho,hx,FX,(fun _ h=>by simp at h),.nil,gZ⟩;refine call_len_dict hS dd (by simp) ?_;exact⟨.int 0,H,_,G,I.tok _,.refl ab,⟨_,rfl⟩,.int _,q⟩
    | cons _ _=>simp [gx] at ha
   ·rw [if_neg ha] at q; exact q.elim
  | ref l =>
   unfold lenOf at q;dsimp only at q;cases hg:G l with
   | none=>rw [hg] at q; exact q.elim
   | some g =>
    rw [hg] at q;cases g with
    | lst ds =>
     obtain⟨vs,hv,rs⟩:=ab.lst hg;exact Uu _ (.inl ⟨_,.of hv,by rw [rs.length]⟩) q
    | ins _ _=>exact q.elim
    | NM _=>exact q.elim
    | mO bo =>
     obtain⟨u,rfl,ru⟩:=rx.one;cases ru;dsimp only at q;by_cases ha:(bo.all fun p=>gx p.1)=true
     ·rw [if_pos ha] at q;rcases ab l _ hg with ⟨kv,hv,rs⟩ | ⟨kv,hv,rs⟩
      ·exact WN I (.inl hv) fun t s' I'=>⟨.int kv.length,H,_,G,I',.refl ab,⟨t,rfl⟩,.int _,by rw [rs.length]; exact q⟩
      ·cases rs with
       | nil =>
        obtain⟨z,hd,vs,rel,dd⟩:=NL (toK I hv).cO cP;have hvs:vs=[]:=by cases rel; rfl
        subst hvs;refine call_len_dict hd dd (by simp) ?_;exact⟨.int 0,H,_,G,I.tok _,.refl ab,⟨_,rfl⟩,.int _,q⟩
       | cons _ _=>simp [gx] at ha
     ·rw [if_neg ha] at q; exact q.elim
  | _=>exact bO q
 ·exact q.elim
theorem By {r:List D->Gp->DK->Prop} (hc:oP X (.type T) r) (hg:Gl X x) (hm:X.mg x=none) (hv:dW x=some (.type T)) (ha:GN X (e :: es) t) (hn:autoParam (x≠"__name__") Ad._auto_1) (Ag:autoParam ((x == ("__debug__" : Str))=false) Ad._auto_1)
  (he:autoParam (bB (e :: es) X.env=(false,eval e X.env) :: bB es X.env) Ar._auto_1) (yc:autoParam ((i6 pos (bB es X.env)).any (·.1)=false) Ar._auto_1):gy X (.Call (.Name x p) (e :: es) [] pos) (kj r t):=by
 intro E pins s σ H τ G Q hE I h;refine eW (oC I.inv hg hm hv ?_ hn Ag);exact jg (Bf ha pos hE I h fun vs H1 ds G1 us s1 I1 m1 r1 kg q1=>gK (hc pins s1 σ H1 G1 vs ds us Q I1.inv I1.ab r1 kg q1) fun _ _ z=>z.trans m1) he yc
theorem X1 (K:ag):∀ C∈["int","bool","list","tuple","dict","str"],∀ T∈["NoneType","bool","int","str","tuple","list","dict"],bp K (.type T) (.type C)=some (T == C||(T == "bool" && C == "int")):=by
 intro C hC T hT;simp only [u5,gN,or_false] at hC hT;rcases hC with rfl | rfl | rfl | rfl | rfl | rfl <;> rcases hT with rfl | rfl | rfl | rfl | rfl | rfl | rfl <;> kernel_rfl
theorem RW (C:String) (hC:C∈["int","bool","list","tuple","dict","str"]) {pins:List (Addr×Obj)} {s:ao} {σ:L2.St} {H:Hp} {G:Gp} {v:V} {d:D} {u:Value} {k:Bool} {Q:DK} (I:Inv X pins σ H s) (ab:lW X.K H G) (ru:RelV v u) (r:cQ X.K H v d)
  (hk:Vw C d G=some k) (q:Q (.bl k) G):wpAny (model X.prog X.w) X.A (call (.builtin "isinstance") [u,.type C]) (qN X pins σ H G Q) X.xe s:=by
 have fin:∀ tk,qN X pins σ H G Q (.bool k) { s with toks:=tk }:=fun tk=>⟨.bl k,H,.bl k,G,I.tok _,.refl ab,rfl,.bl k,q⟩;have hl:∀ T∈["NoneType","bool","int","str","tuple","list","dict"],k=(T == C||(T == "bool" && C == "int"))->bp X.K (.type T) (.type C)=some k:=fun T hT e=>by rw [X1 X.K C hC T hT,e]
 have tl:∀ {l:Addr} {o:Obj},s.heap.get? l=some o->o.cls=.type "list"->k=("list" == C||("list" == "bool" && C == "int"))->v=.ref l->wpAny (model X.prog X.w) X.A (call (.builtin "isinstance") [u,.type C]) (qN X pins σ H G Q) X.xe s:=fun ho hc e ev=>by
  subst ev;cases ru;exact e8 PySem.W.kitx_list I.qu ⟨_,ho,hc⟩ (hl "list" (by decide) e) (fun z=>nomatch z) fin
 have td:∀ {l:Addr} {o:Obj},s.heap.get? l=some o->o.cls=.type "dict"->k=("dict" == C||("dict" == "bool" && C == "int"))->v=.ref l->wpAny (model X.prog X.w) X.A (call (.builtin "isinstance") [u,.type C]) (qN X pins σ H G Q) X.xe s:=fun ho hc e ev=>by
  subst ev;cases ru;exact e8 PySem.W.kitx_dict I.qu ⟨_,ho,hc⟩ (hl "dict" (by decide) e) (fun z=>nomatch z) fin
 have pZ:∀ P:String->Prop,(∀ C'∈["int","bool","list","tuple","dict","str"],P C')->P C:=fun P h=>h C hC;cases r with
 | cR =>
  cases ru;have e:k=("NoneType" == C||("NoneType" == "bool" && C == "int")):=by
   have:k=false:=(bC hk).symm;rw [this];exact pZ (fun C=>false=("NoneType" == C||("NoneType" == "bool" && C == "int"))) (by decide)
  exact e8 Ue I.qu bu (hl _ (by decide) e) (fun z=>nomatch z) fin
 | bl y =>
  cases ru;have e:k=("bool" == C||("bool" == "bool" && C == "int")):=by
   have:k=(C == "bool" || C == "int"):=(bC hk).symm;rw [this];exact pZ (fun C=>(C == "bool" || C == "int")=("bool" == C||("bool" == "bool" && C == "int"))) (by decide)
  exact e8 PySem.W.kitx_bool I.qu bu (hl _ (by decide) e) (fun z=>nomatch z) fin
 | int y =>
  obtain⟨t,rfl⟩:=ru;have e:k=("int" == C||("int" == "bool" && C == "int")):=by
   have:k=(C == "int"):=(bC hk).symm;rw [this];exact pZ (fun C=>(C == "int")=("int" == C||("int" == "bool" && C == "int"))) (by decide)
  exact e8 PySem.W.kitx_int I.qu bu (hl _ (by decide) e) (fun z=>nomatch z) fin
 | str y =>
  obtain⟨t,rfl⟩:=ru;have e:k=("str" == C||("str" == "bool" && C == "int")):=by
   have:k=(C == "str"):=(bC hk).symm;rw [this];exact pZ (fun C=>(C == "str")=("str" == C||("str" == "bool" && C == "int"))) (by decide)
  exact e8 PySem.W.kitx_str I.qu bu (hl _ (by decide) e) (fun z=>nomatch z) fin
 | tup hq rs =>
  cases ru;have e:k=("tuple" == C||("tuple" == "bool" && C == "int")):=by
   have:k=(C == "tuple"):=(bC hk).symm;rw [this];exact pZ (fun C=>(C == "tuple")=("tuple" == C||("tuple" == "bool" && C == "int"))) (by decide)
  obtain⟨bw,rv,⟨o,h1,h2,_⟩,hz⟩:=I.tuple (.of hq);exact e8 PySem.W.kitx_tuple I.qu ⟨o,h1,h2⟩ (hl _ (by decide) e) (fun z=>nomatch z) fin
 | fH hq rs =>
  obtain⟨bw,rv,pl,hz⟩:=I.list hq.sq;obtain⟨o,h1,h2,_⟩:=pl.isList;refine tl h1 h2 ?_ rfl;have:k=(C == "list"):=(bC hk).symm;rw [this];exact pZ (fun C=>(C == "list")=("list" == C||("list" == "bool" && C == "int"))) (by decide)
 | uO h rs =>
  have e:k=("dict" == C||("dict" == "bool" && C == "int")):=by
   have:k=(C == "dict"):=(bC hk).symm;rw [this];exact pZ (fun C=>(C == "dict")=("dict" == C||("dict" == "bool" && C == "int"))) (by decide)
  obtain⟨_,_,vs,_,ob,_,_,h1,h2,_⟩:=zI I.cO (.inr ⟨_,h⟩);exact td h1 h2.1 e rfl
 | uN h rs =>
  have e:k=("dict" == C||("dict" == "bool" && C == "int")):=by
   have:k=(C == "dict"):=(bC hk).symm;rw [this];exact pZ (fun C=>(C == "dict")=("dict" == C||("dict" == "bool" && C == "int"))) (by decide)
  obtain⟨_,_,ys,_,ob,_,_,h1,h2,_⟩:=Eg I.cO (.inr ⟨_,h⟩);exact td h1 h2.1 e rfl
 | exc h=>simp [Vw] at hk
 | ye h _=>simp [Vw] at hk
 | DM _ _ _ _=>simp [Vw] at hk
 | ref l =>
  unfold Vw at hk;dsimp only at hk;cases hg:G l with
  | none=>rw [hg] at hk; cases hk
  | some g =>
   rw [hg] at hk;cases g with
   | lst ds =>
    obtain⟨vs,hv,rs⟩:=ab.lst hg;obtain⟨bw,rv,pl,hz⟩:=I.list (.of hv);obtain⟨o,h1,h2,_⟩:=pl.isList;refine tl h1 h2 ?_ rfl;have:k=(C == "list"):=(bC hk).symm;rw [this];exact pZ (fun C=>(C == "list")=("list" == C||("list" == "bool" && C == "int"))) (by decide)
   | ins _ _=>cases hk
   | NM _=>cases hk
   | mO bo =>
    have e:k=("dict" == C||("dict" == "bool" && C == "int")):=by
     have:k=(C == "dict"):=(bC hk).symm;rw [this];exact pZ (fun C=>(C == "dict")=("dict" == C||("dict" == "bool" && C == "int"))) (by decide)
    rcases ab l _ hg with ⟨kv,hv,rs⟩ | ⟨kv,hv,rs⟩
    ·obtain⟨_,_,vs,_,ob,_,_,h1,h2,_⟩:=NL I.cO hv;exact td h1 h2.1 e rfl
    ·obtain⟨_,_,ys,_,ob,_,_,h1,h2,_⟩:=WL I.cO hv;exact td h1 h2.1 e rfl
theorem uq (C:String) (hC:C∈["int","bool","list","tuple","dict","str"]) {y:Str} {py:Pos} (hg:Gl X "isinstance") (hm:X.mg "isinstance" = none) (hgC:Gl X y) (hmC:X.mg y=none) (hvC:dW y=some (.type C)) (ha:gy X a ta) (hn:autoParam (y≠"__name__") Ad._auto_1) (Ag:autoParam ((y == ("__debug__" : Str))=false) Ad._auto_1)
  (he:autoParam (bB [a,.Name y py] X.env=(false,eval a X.env) :: bB [.Name y py] X.env) Ar._auto_1) (yc:autoParam ((i6 pos (bB [Expr.Name y py] X.env)).any (·.1)=false) Ar._auto_1) (Yn:autoParam (bB [.Name y py] X.env=[(false,eval (.Name y py) X.env)]) Ar._auto_1) :
  gy X (.Call (.Name "isinstance" p) [a,.Name y py] [] pos) (Jr C ta):=by
 intro E pins s σ H τ G Q hE I h;refine eW (oC I.inv hg hm mX ?_);refine eX ?_ he yc;rw [he];show wpAny _ _ (pR ((false,eval a X.env) :: i6 pos (bB [.Name y py] X.env))) _ _ s;refine dg (jC ha hE I h fun v H1 d G1 u s1 I1 m1 r1 kg q1=>?_);rw [Yn];show wpAny _ _ (pR [(false,eval (.Name y py) X.env)]) _ _ s1;refine dg (oC I1.inv hgC hmC hvC (kc ?_) hn Ag)
 try dsimp only at q1
 split at q1
 ·rename_i k hk;exact gK (RW C hC I1.inv I1.ab r1 kg hk q1) fun _ _ z=>z.trans m1
 ·exact q1.elim
end
section
variable {X:Cx} {a b c e o:Expr} {es:List Expr} {ta tb tc te to:fM} {t:AA} {pos p p2 apos Cn:Pos} {x name:Str} {id T:String}
def JN(X:Cx)(id:String)(r:D->List D->Gp->DK->Prop):Prop :=
 ∀ (pins:List (Addr×Obj)) (s:ao) (σ:L2.St) (H:Hp) (G:Gp) (x:V) (d:D) (xs:List V) (ds:List D) (v:Value) (us:List Value) (Q:DK),Inv X pins σ H s->lW X.K H G->RelV x v->cQ X.K H x d->Vals xs us->bc X.K H xs ds->r d ds G Q ->
  wpAny (model X.prog X.w) X.A (call (.builtin id) (v :: us)) (qN X pins σ H G Q) X.xe s
def YY(X:Cx)(T:String)(ty:D->Gp->Prop):Prop:=∀ (pins:List (Addr×Obj)) (s:ao) (σ:L2.St) (H:Hp) (G:Gp) (x:V) (d:D) (v:Value),Inv X pins σ H s->lW X.K H G->RelV x v->cQ X.K H x d->ty d G ->
  s.TypeIs v T/\∀ a,v=.ref a->∃ ob,s.heap.get? a=some ob/\ob.dict=none
theorem kM:YY X "list" CQ:=by
 intro pins s σ H G x d v I ab r rd h;cases rd with
 | fH hq rs=>exact KD I r (.inl ⟨rfl,_,hq.sq⟩)
 | ref l =>
  unfold CQ at h;dsimp only at h;split at h
  ·rename_i ds hg;obtain⟨vs,hv,rs⟩:=ab.lst hg;exact KD I r (.inl ⟨rfl,vs,.of hv⟩)
  ·exact h.elim
 | _=>exact bO h
theorem nq:YY X "str" QE:=by
 intro pins s σ H G x d v I ab r rd h;cases rd with
 | str y=>exact KD (T:="str") I r rfl
 | _=>exact bO h
theorem iZ {ty:D->Gp->Prop} {r:D->List D->Gp->DK->Prop} (pa:PlainAttrs T) (slot:Slot T name id) (hty:typeOf (.builtin id)=pure (.type "method_descriptor")) (ht:YY X T ty) (hm:JN X id r) (ho:gy X o to) (ha:GN X (e :: es) t)
  (Sr:autoParam (attributeBase o name X.env (eval o X.env)=eval o X.env) Ar._auto_1)
  (aey:autoParam (((i6 Cn (bB (e :: es) X.env)).all (fun x=>!x.1)&&(backToKw Cn (keywordEach [] X.env)).all (fun x=>x.1.isSome)
   && decide ((e :: es).length+([]:List Keyword).length+(if ([]:List Keyword).isEmpty then 0 else 1) < 30))=true) Ar._auto_1)
  (aaM:autoParam ((apos.endLine == Cn.line)=true) Ar._auto_1) (hs:autoParam (bB (e :: es) X.env=(false,eval e X.env) :: bB es X.env) Ar._auto_1) (Yc:autoParam ((i6 Cn (bB es X.env)).any (·.1)=false) Ar._auto_1) :
  gy X (.Call (.Attribute o name apos) (e :: es) [] Cn) (uB ty r to t):=by
 intro E pins s σ H τ G Q hE I h;refine wpAny_Call_method_late Sr aey aaM rfl (jC ho hE I h ?_);rintro x H1 d G1 v s1 I1 m1 r1 kg ⟨hy,q1⟩;obtain⟨h1,h2⟩:=ht pins s1 σ H1 G1 x d v I1.inv I1.ab r1 kg hy;refine⟨T,id,pa,slot,hty,h1,h2,?_⟩;have hA:=ha Cn E pins s1 σ H1 τ G1 _ hE I1 q1;rw [hs] at hA ⊢;refine Calls.callWith_builtin (by show (false||(i6 Cn (bB es X.env)).any (·.1))=false; rw [Yc] <;> rfl) (Calls.evalArgs_plain ?_);exact gK hA (by rintro us s2 ⟨vs,H2,ds,G2,jA,m2,r2,Fn,q2⟩; exact gK (hm pins s2 σ H2 G2 x d vs ds v us Q jA m2.ab r1 (kg.mono (m2.kp I1.ab)) r2 Fn q2) fun _ _ z=>z.trans (m1.trans m2))
theorem oB:JN X "list.append" me:=by
 intro pins s σ H G x d xs ds v us Q I ab rx rd UP yu q;unfold me at q;split at q
 ·rename_i l d';cases rd;obtain⟨w,rfl,wF⟩:=yu.one;split at q
  ·rename_i zs hg;obtain⟨hz,q⟩:=q;obtain⟨vs,hv,rs⟩:=ab.lst hg;exact gK (DU pins s σ H _ _ v us (Dl X.K H G Q) I rx UP ⟨l,vs,w,rfl,rfl,hv,by rw [rs.length,bK]; exact hz,_,_,.putL ab hg hv (rs.append (.cons wF .nil)),.cR,q⟩) fun _ _ z=>.of z
  ·exact q.elim
 ·exact q.elim
theorem LZ(l:Addr)(xs:Array Value)(n:Nat)(b:Addr)(ys:Array Value)(n2:Nat)(dd:Option Addr)(sl:Array (Option Value))(WD:¬(!xs.isEmpty&&kf (xs.size+ys.size))=true)(hx:xs.size<=bg)(hxy:xs.size+ys.size<=bg+1) :
  Meets (Builtin.«list.extend» ⟨[.ref l,.ref b],[]⟩) (fun _ R s=>s.heap.get? l=some { cls:=.type "list",dict:=none,data:=.seq xs n,slots:=#[] }/\s.heap.get? b=some { cls:=.type "list",dict:=dd,data:=.seq ys n2,slots:=sl }/\R (.ok (.ret c8)) { s with heap:=s.heap.update l (jJ fun x=>x++ys),toks:=s.toks }) :=
 .of_wp fun prog w A R s h=>by
  obtain⟨hp,g,d,tk,os⟩:=s;obtain⟨h1,h2,h3⟩:=h;have e1:=AutoSeq1.idx_int;have e2:=se;have e3:=KA;have e4:=AutoSeq1.sub_tuple_list;have e5:=AutoSeq1.sub_list_tuple;have hz':(xs++ys).size<=bg+1:=by rw [Array.size_append]; exact hxy
  wp_walk using (A3 h1 rfl (hz:=hx) (_hz':=hz')),cF h1,cF h2
  exact⟨_,rfl,h3⟩
theorem Lh:JN X "list.extend" AP:=by
 intro pins s σ H G x d xs ds v us Q I ab rx rd UP yu q;unfold AP at q;split at q
 ·rename_i l y;cases rd;obtain⟨w,rfl,wF⟩:=yu.one;obtain⟨u,rfl,ru⟩:=UP.one;split at q
  ·rename_i zs ys hg hg2;obtain⟨hz,q⟩:=q;obtain⟨vs,hv,rs⟩:=ab.lst hg;obtain⟨b,ws,yJ,rfl,Wh,UR,hb,_⟩:=lV I ab ru wF hg2;cases rx;obtain⟨z,bw,n,r,hl,e⟩:=I.XY hv;obtain⟨⟨cl,dd,dt,sl⟩,ho,C3,n2,hdt⟩:=hb;simp only at C3 hdt;subst C3 hdt;have h1:=Wh.length;have h2:=UR.length;have h3:=rs.length;have h4:=r.length;have h5:bg=16777216:=bK;have h6:SZ=16777216:=rfl;have hsz:bw.toArray.size+yJ.toArray.size<=bg:=by rw [aS,aS]; lia
   have WD:¬ (!bw.toArray.isEmpty&&kf (bw.toArray.size+yJ.toArray.size))=true:=by
    rw [RC hsz,sO];exact fL
   refine CA F.slot_list_extend ⟨_,e,rfl⟩ F.entry_list_extend (F.args_list_extend_2 _ _) (LZ l bw.toArray n b yJ.toArray n2 dd sl WD (by rw [aS]; lia) (by lia)) ⟨e,ho,?_⟩;refine⟨.cR,_,.cR,_,I.XZ (its':=bw++yJ) hv e (by simp) (r.append Wh) ?_,.putL ab hg hv (rs.append UR),rfl,.cR,q⟩;rw [aE];lia
  ·exact q.elim
 ·exact q.elim
theorem X4{bw:List Value}{u:Value}{k:Nat}(hk:k<=bw.length):(bw.toArray.extract 0 k).push u++bw.toArray.extract k=(bw.take k++u :: bw.drop k).toArray:=by
 simp [List.extract_eq_take_drop];rw [vO (by rw [ez]; lia)]
theorem BI:JN X "list.insert" w5:=by
 intro pins s σ H G x d xs ds v us Q I ab rx rd UP yu q;unfold w5 at q;split at q
 ·rename_i l i d';cases rd;obtain⟨w,w2,rfl,Bp,rw2⟩:=yu.two;cases Bp;split at q
  ·rename_i zs hg;obtain⟨h0,h1,hz,q⟩:=q;obtain⟨vs,hv,rs⟩:=ab.lst hg;obtain⟨u1,u2,rfl,⟨t,rfl⟩,ru2⟩:=vals2 UP;cases rx;obtain⟨z,bw,n,r,hl,e⟩:=I.XY hv;have sz:bg=16777216:=bK;have hlen:bw.length=zs.length:=by rw [<-hl,rs.length]
   have hs:SZ=16777216:=rfl;have aex:¬ (!Builtin.List.listFitsIndex i)=true:=by
    rw [fitsIndex_both (by lia) (by lia)];exact fL
   refine CA F.slot_list_insert ⟨_,e,rfl⟩ F.entry_list_insert (F.args_list_insert_3 _ _ _)
    (AutoSeq1.list_insert_list_int_val_1 l bw.toArray n i t u2 aex (by rw [aS]; lia)) ⟨e,?_⟩
   have hi:i.toNat<=bw.length:=by lia
   refine⟨.cR,_,.cR,_,I.XZ (its':=bw.take i.toNat++u2 :: bw.drop i.toNat) (ys:=vs.take i.toNat++w2 :: vs.drop i.toNat) hv e ?_ ((r.take _).append (.cons ru2 (r.drop _))) ?_,.putL ab hg hv ((rs.take _).append (.cons rw2 (rs.drop _))),rfl,.cR,q⟩
   ·dsimp only;have e1:(if i < 0 then (i+(bw.toArray.size:Int)).toNat else min i.toNat bw.toArray.size)=i.toNat:=by
     rw [if_neg (by lia),aS]; lia
    rw [e1];exact X4 hi
   ·rw [aE,ah,dH,ez];lia
  ·exact q.elim
 ·exact q.elim
theorem O3 (hu : X.A.units + 64 < cLine) : JN X "list.index" FJ := by
  intro pins s σ H G x d xs ds v us Q I ab rx rd UP yu q;unfold FJ at q;split at q
  · rename_i d'
    obtain⟨hy, zs, sn, ss, hi, s1, s2, q⟩ := q;obtain⟨w, rfl, wF⟩ := yu.one;obtain⟨u, rfl, ru⟩ := UP.one;have lists : ∃ l vs bw, v = .ref l ∧ Vals vs bw ∧ bc X.K H vs zs ∧ s.heap.IsList l bw.toArray ∧ vs.length ≤ bg := by
      cases rd with
      | fH hq rs =>
        cases hi;cases rx;obtain⟨bw, rv, pl, hz⟩ := I.list hq.sq;exact⟨_, _, bw, rfl, rv, rs, pl.isList, hz⟩
      | ref l =>
        unfold itemsOf at hi;dsimp only at hi;cases hg : G l with
        | none => rw [hg] at hi; cases hi
        | some g =>
          rw [hg] at hi;cases g with
          | lst ds =>
            cases hi;cases rx;obtain⟨vs, hv, rs⟩ := ab.lst hg;obtain⟨bw, rv, pl, hz⟩ := I.list (.of hv);exact⟨_, _, bw, rfl, rv, rs, pl.isList, hz⟩
          | ins _ _ => cases hi
          | NM _ => cases hi
          | mO _ => cases hi
      | _ => exact bO hy
    obtain⟨l, vs, bw, rfl, rv, rs, hl, hz⟩ := lists;obtain⟨as, ra⟩ := (iS I ab s1).1 w u wF ru;obtain⟨bs, rb⟩ := (iS I ab s2).2 zs ss (.inl ⟨rfl, rfl⟩) vs bw rs rv;have d2 := NO (n := 7) s2;have n2 : sg ss = true := s2.nr;have BW := xf _ n2;have Hb : X.A.units + 1 + min (cI (ng ss)) (pd sn).depth < cLine := by lia
    have Q8 : iA s.heap bw.toArray.toList (ng ss) bs := by simpa using rb
    have mp := SeqAt.readsAll_map _ _ _ BW Q8;split at q
    · rename_i k hk
      obtain⟨pH, aes, Sf⟩ := List.findIdx?_eq_some_iff_getElem.mp hk;have pdl : ∀ (zz : List D), (ng zz).length = zz.length := by
        intro zz;induction zz with
        | nil => rfl
        | cons a r ih => exact congrArg Nat.succ ih
      have hlen : bw.length = ss.length := by
        have := congrArg gO mp;rw [ai, pdl] at this;simpa using this
      have at_ : ∀ (m : Nat) (h1 : m < bw.toArray.size) (h2 : m < ss.length), v3 (Dx s.heap bw.toArray[m]) (pd sn) = ik ss[m] sn := by
        intro m h1 h2;have e1 : (bw.toArray.toList.map (Dx s.heap))[m]? = (ng ss)[m]? := by rw [mp]
        have pdg : ∀ (zz : List D) (m : Nat) (h : m < zz.length), (ng zz)[m]? = some (pd zz[m]) := by
          intro zz;induction zz with
          | nil => intro m h; simp at h
          | cons a r ih => intro m h; cases m with
            | zero => rfl
            | succ m => exact ih m (v5 h)
        rw [pdg ss m h2] at e1;have h1' : m < bw.length := by simpa using h1
        have e2 : Dx s.heap bw.toArray[m] = pd ss[m] := by
          simpa [h1'] using e1
        rw [e2];have nrm : nr ss[m] = true := by
          have : ∀ (zz : List D) (m : Nat) (h : m < zz.length), sg zz = true -> nr zz[m] = true := by
            intro zz;induction zz with
            | nil => intro m h; simp at h
            | cons a r ih => intro m h hn; have J9 : nr a = true ∧ sg r = true := (kF).mp hn
                             cases m with
                             | zero => exact J9.1
                             | succ m => exact ih m (by simpa using h) J9.2
          exact this ss m h2 n2
        exact vG _ _ nrm s1.nr
      have sz : bg = 16777216 := bK;have hvl : vs.length = bw.length := rv.length;obtain⟨⟨cls, dd, data, sl⟩, ho, hc, n, hd⟩ := id hl;simp only at hc hd;subst hc hd;have hki : k < bw.toArray.size := by rw [aS]; lia
      refine CA Kt ⟨_, ho, rfl⟩ PySem.F.entry_list_index (PySem.F.args_list_index_2 _ _)
        (SeqAt.list_indexAt l bw.toArray n dd sl u (fun y => v3 (Dx s.heap y) (pd sn)) k hki (by lia) ?_ ?_) ⟨ho, oU Q8 ra BW (kY _ s1.nr) Hb, ?_⟩
      · rw [at_ k hki pH]; exact aes
      · intro m hm hmk
        have hm2 : m < ss.length := by lia
        rw [at_ m hm hm2];simpa using Sf m hmk
      · exact⟨.int k, H, .int k, G, I.tok _, .refl ab, ⟨_, rfl⟩, .int _, q⟩
    · exact q.elim
  · exact q.elim
theorem Nb:gy X (.Dict [] [] pos) PA:=by
 intro E pins s σ H τ G Q hE I h;exact gK (Rq pins s σ H (Dl X.K H G Q) I.inv fun p hp=>⟨_,_,.new I.ab hp (.dk cP .nil),.ref _,h p (I.ab.free hp)⟩) fun _ _ z=>.of z
end
def hU(env:Env):List (Str×uZ)->List (Str×Addr)->List (Str×Addr)
 | [],acc=>acc
 | (n,k) :: r,acc=>if k=.free then hU env r ((n,(env.cells.lookup n).getD 0) :: acc) else hU env r acc
theorem vJ(env:Env)(f:Str×uZ->List (Str×Addr)->Sem (ForInStep (List (Str×Addr))))(hf:∀ n k c,f (n,k) c=if (k == lE)=true then (cellOf env n >>= fun a=>pure (uK ((n,a) :: c))) else pure (uK c)) :
  ∀ (ns:List (Str×uZ)) (acc:List (Str×Addr)),(∀ x∈ns,x.2=.free->∃ c,env.cells.lookup x.1=some c)->forIn ns acc f=(pure (hU env ns acc):Sem (List (Str×Addr)))
 | [],acc,_=>rfl
 | (n,k) :: r,acc,h=>by
  rw [List.forIn_cons,hf];have hr:∀ x∈r,x.2=.free->∃ c,env.cells.lookup x.1=some c:=fun x hx=>h x (aM _ hx);by_cases hk:k=.free
  ·subst hk;obtain⟨c,hc⟩:=h (n,.free) bH rfl;have ec:cellOf env n=pure c:=by unfold cellOf; rw [hc]
   rw [if_pos (by decide),ec,pure_bind,pure_bind];show forIn r ((n,c) :: acc) f=_;rw [vJ env f hf r _ hr];show _=(pure (hU env ((n,.free) :: r) acc):Sem (List (Str×Addr)));rw [hU,if_pos rfl,hc]; rfl
  ·rw [if_neg (by simpa using hk),pure_bind];show forIn r acc f=_;rw [vJ env f hf r _ hr];show _=(pure (hU env ((n,k) :: r) acc):Sem (List (Str×Addr)));rw [hU,if_neg hk]
theorem Dk{env:Env}{scope:Scope}(h:∀ x∈scope.names,x.2=.free->∃ c,env.cells.lookup x.1=some c):closureFor scope env=pure (hU env scope.names []):=by
 unfold closureFor;dsimp only;rw [vJ env _ (fun n k c=>?_) scope.names [] h]
 ·rfl
 ·by_cases hk:(k == lE)=true
  ·simp only [hk,if_true]
  ·simp only [hk,if_false,aw]
theorem wj{env:Env}{x:Str}{c:Addr}:∀ {ns:List (Str×uZ)} {acc:List (Str×Addr)},(∀ y∈ns,y.2=.free->∃ c,env.cells.lookup y.1=some c)->(∀ y c,acc.lookup y=some c->env.cells.lookup y=some c)->(hU env ns acc).lookup x=some c->env.cells.lookup x=some c
 | [],_,_,ha,e=>ha _ _ e
 | (n,k) :: r,acc,h,ha,e=>by
  have hr:∀ y∈r,y.2=.free->∃ c,env.cells.lookup y.1=some c:=fun y hy=>h y (aM _ hy);unfold hU at e;by_cases hk:k=.free
  ·rw [if_pos hk] at e;refine wj hr (fun y c' q=>?_) e;rw [fR] at q;by_cases hy:(y == n)=true
   ·rw [hy] at q;have e1:y=n:=eq_of_beq hy;subst e1;obtain⟨c0,hc0⟩:=h (y,k) bH hk;rw [hc0] at q ⊢;exact q
   ·have hy':(y == n)=false:=by simpa using hy
    rw [hy'] at q;exact ha y c' q
  ·rw [if_neg hk] at e;exact wj hr ha e
theorem qU{env:Env}{x:Str}:∀ {ns:List (Str×uZ)} {acc:List (Str×Addr)},((x,lE)∈ns\/∃ c,acc.lookup x=some c)->∃ c,(hU env ns acc).lookup x=some c
 | [],_,h=>by rcases h with h | h; exact absurd h (by simp); exact h
 | (n,k) :: r,acc,h=>by
  unfold hU;have grow:∀ a,(∃ c,acc.lookup x=some c)->∃ c,((n,a) :: acc).lookup x=some c:=fun a D5=>by
   obtain⟨c,hc⟩:=D5;rw [fR];by_cases hy:(x == n)=true
   ·rw [hy]; exact⟨_,rfl⟩
   ·have hy':(x == n)=false:=by simpa using hy
    rw [hy']; exact⟨c,hc⟩
  by_cases hk:k=.free
  ·rw [if_pos hk];refine qU ?_;rcases h with h | h
   ·rcases List.mem_cons.mp h with e | h
    ·injection e with e1 e2
     subst e1;exact .inr ⟨(env.cells.lookup x).getD 0,by rw [fR]; simp⟩
    ·exact .inl h
   ·exact .inr (grow _ h)
  ·rw [if_neg hk];refine qU ?_;rcases h with h | h
   ·rcases List.mem_cons.mp h with e | h
    ·injection e with e1 e2
     exact absurd e2.symm hk
    ·exact .inl h
   ·exact .inr h
def AY(X:Cx)(C:Addr)(x:Value)(s':ao):Prop :=
 ∃ m,s'.heap.Ns C m/\∀ h',lK C s'.heap h'->∀ Jv:Env,Jv.locals=C->wpAny (model X.prog X.w) X.A (passOn "comprehension.variables-let-go" x Jv:Sem Value) (fun _ _=>False) X.xe { s' with heap:=h' }
abbrev c7(X:Cx)(N:List Str)(scope:Scope)(C:Addr)(s:ao)(H:Hp)(fp:List Addr):Cx :=
 { X with env:=compEnvC scope (hU X.env scope.names []) C X.env,N:=N,jc:=s,PR:=H,outer:=X.stack,stack:=X.stack,ex:=fp,fn:=fun _=>false,pn:=[],xe:=notedBy (model X.prog X.w) X.A X.env (AY X C) }
theorem wI{scope:Scope}{env:Env}{x:Str}(h:(Ki scope env).names.lookup x=some .cell\/(Ki scope env).names.lookup x=some .free)(sk:∀ y∈scope.names,y.2≠.cell):(x,lE)∈scope.names:=by
 have go:∀ k,(Ki scope env).names.lookup x=some k->k=.cell\/k=.free->(x,lE)∈scope.names:=by
  intro k hk hkk;have hm:=jb hk;unfold Ki at hm;dsimp only at hm;obtain⟨⟨n,j⟩,hj,e⟩:=List.mem_map.mp hm;dsimp only at e;by_cases hc:(j == lE&&env.scope.kind == .function&&env.kindOf n == some .cell)=true
  ·rw [if_pos hc] at e;rw [aI,aI] at hc;injection e with e1 e2
   have ej:j=.free:=eq_of_beq hc.1.1;rw [ej,e1] at hj;exact hj
  ·rw [if_neg hc] at e;injection e with e1 e2
   subst e1;rcases hkk with r | r
   ·exact absurd (e2.trans r) (sk _ hj)
   ·rw [e2.trans r] at hj; exact hj
 rcases h with h | h
 ·exact go _ h (.inl rfl)
 ·exact go _ h (.inr rfl)
section
variable {X:Cx} {N:List Str} {scope:Scope} {fp:List Addr} {pins:List (Addr×Obj)} {σ:L2.St} {H:Hp} {s:ao} {C:Addr}
theorem YQ(I:Inv X pins σ H s)(sk:∀ y∈scope.names,y.2≠.cell)(D7:scope.kind=.function)(si:∀ y∈scope.names,y.2=.free->X.env.kindOf y.1=some .cell)(hC:s.heap.objs.size<=C)(IE:∀ b∈fp,o8 X pins H b/\b < s.heap.objs.size):(c7 X N scope C s H fp).Ok:=by
 have C3:∀ y∈scope.names,y.2=.free->∃ c,X.env.cells.lookup y.1=some c:=fun y hy hf=>I.ok.has _ (.inl (si y hy hf));have Xa:∀ x c,(hU X.env scope.names []).lookup x=some c->X.env.cells.lookup x=some c:=fun x c e=>wj C3 (fun y c q=>by simp at q) e;refine⟨I.ok.mod,D7,I.ok.glob,I.ok.blt,hC,fun x y c h1 h2=>I.ok.inj x y c (Xa x c h1) (Xa y c h2),fun x hx=>?_,fun x c h=>absurd h (by simp),I.ok.hd,I.ok.frames,.inl rfl,fun b hb=>?_,I.bs,cE I.ok.Qf I.sz,fun b o e hb=>?_,fun b hb=>?_,I.stack,I.AG⟩
 ·exact qU (.inl (wI hx sk))
 ·obtain⟨⟨f0,f1,f2,f3,f4,f5⟩,pH⟩:=IE b hb;exact⟨bI (bJ pH hC),fun x c e=>f4 x c (Xa x c e)⟩
 ·obtain⟨⟨f0,f1,f2,f3,f4,f5⟩,pH⟩:=IE b hb;rcases f3 with f3 | f3
  ·exact I.ok.O1 b o e f3
  ·exact absurd (bJ (aN e) (cE I.ok.Qf f3)) (eQ _)
 ·obtain⟨⟨f0,f1,f2,f3,f4,f5⟩,pH⟩:=IE b hb;intro z;rcases List.mem_cons.mp (I.KP b z) with e | e
  ·exact f1 e
  ·exact f2 e
theorem VV{uV:Heap}{m:Nat}{fr:List Nat}{tk:Nat}(I:Inv X pins σ H s)(ok:(c7 X N scope s.heap.objs.size s H fp).Ok)(Yo:∀ y∈scope.names,y.2≠.cell)(si:∀ y∈scope.names,y.2=.free->X.env.kindOf y.1=some .cell)(hN:N.length=m+fr.length)
  (Sk:∀ j i x,fr[j]?=some i->N[m+j]?=some x->X.N[i]?=some x/\X.env.scope.names.lookup x=some .cell/\(Ki scope X.env).names.lookup x=some .cell) (CZ:∃ mm,uV.Ns s.heap.objs.size mm) (hk:∀ b o,s.heap.get? b=some o->uV.get? b=some o) :
  Inv (c7 X N scope s.heap.objs.size s H fp) [] (bE m none++fr.map fun i=>(σ[i]?).getD none) H { s with heap:=uV,toks:=tk }:=by
 have C3:∀ y∈scope.names,y.2=.free->∃ c,X.env.cells.lookup y.1=some c:=fun y hy hf=>I.ok.has _ (.inl (si y hy hf));have Xa:∀ x c,(hU X.env scope.names []).lookup x=some c->X.env.cells.lookup x=some c:=fun x c e=>wj C3 (fun y c q=>by simp at q) e;obtain⟨mm,CZ⟩:=CZ;refine⟨ok,rfl,I.bare,Un.kept hk,⟨mm,CZ,fun i x v h1 h2 h3=>?_⟩,fun x c e=>?_,I.cO.fresh (aK _),fun x c e=>?_,fun p hp=>absurd hp (by simp),I.cO.kept hk,?_⟩
 ·by_cases hi:i < m
  ·rw [cm (by simpa using hi),mL] at h2;split at h2 <;> cases h2
  ·obtain⟨j,rfl⟩:∃ j,i=m+j:=⟨i - m,by lia⟩;rw [bA (by simp),gE,vj,bP] at h2;cases hj:fr[j]? with
   | none=>rw [hj] at h2; cases h2
   | some k =>
    rw [hj] at h2;have Su:(σ[k]?).getD none=some v:=by simpa using h2
    have TX:σ[k]?=some (some v):=by
     cases q:σ[k]? with
     | none=>rw [q] at Su; cases Su
     | some o=>rw [q] at Su; simp at Su; rw [Su]
    obtain⟨e1,e2,e3⟩:=Sk j k x hj h1;obtain⟨m0,hn0,hl0⟩:=I.loc;obtain⟨u,r,l⟩:=hl0 k x v e1 TX (.inr (.inl e2));refine⟨u,r,.inr ⟨.inl e3,?_⟩⟩;rcases l with ⟨l1,_⟩ | ⟨_,c,hc,sk⟩
    ·have:X.env.scope.names.lookup x=some .local:=l1;rw [e2] at this; cases this
    ·have hx:(x,lE)∈scope.names:=wI (.inl e3) Yo;obtain⟨c',IG⟩:=qU (env:=X.env) (x:=x) (ns:=scope.names) (acc:=[]) (.inl hx);have:=Xa x c' IG;rw [hc] at this;have ec:c=c':=bC this;subst ec;obtain⟨oc,TV,hd⟩:=sk;exact⟨c,IG,oc,hk _ _ TV,hd⟩
 ·obtain⟨v,oc,TV,hd⟩:=I.cell x c (Xa x c e);exact⟨v,oc,hk _ _ TV,hd⟩
 ·exact I.i8 x c (Xa x c e)
 ·rw [aE,gE,ai];exact hN.symm
theorem GC{prog:bx}{w:World}{A:cX}{R:Result->ao->Prop}{s:ao}{elt target iter:Expr}{ifs:List Expr}{sc:Scope}{pos:Pos}{it acc:Value}{env:Env}{Ee:Value->ao->Prop}(hEe:∀ e s,Ee e s->notedBy (model prog w) A env (fun e s'=>R (.error e) s') e s)(J:Nat->ao->Prop)
  (turn:∀ n s,J n s->wpAny (model prog w) A (uY it) (fun r fW=>match r with
   | none=>R (.ok .next) fW
   | some v=>wpAny (model prog w) A (A5 target it v) (fun _ ZI=>wpAny (model prog w) A (Qs target env v) (fun _ jU =>
     wpAny (model prog w) A (forIn ifs true fun c r=>if r=true then do let ok ← isTrue c env (eval c env); pure (uK ok) else pure (uK r)) (fun k Fb =>
      if k=true then wpAny (model prog w) A (eval elt env) (fun x OG=>wpAny (model prog w) A (call (.builtin "list.append") [acc,x]) (fun _ QN=>∃ m,m < n/\J m QN) Ee OG) Ee Fb
      else ∃ m,m < n/\J m Fb) Ee jU) Ee ZI) Ee fW) Ee s) (n:Nat) (h:J n s) :
  pS (model prog w) A (.compLoop (.ListComp elt [⟨target,iter,ifs,0⟩] sc pos) 0 it acc env) R s:=by
 have no:∀ {α:Type} {t:Sem α} {Q:α->ao->Prop} {s:ao},wpAny (model prog w) A t Q Ee s->wpAny (model prog w) A t Q (notedBy (model prog w) A env fun e s'=>R (.error e) s') s:=fun h=>eY h (fun _ _ q=>q) hEe;refine codeAny_loop rfl J (fun n s hJ=>?_) n h;show wpAny _ A ((compTurn (.ListComp elt [⟨target,iter,ifs,0⟩] sc pos) 0 it acc env).onRaise (fun x=>do sT x env; theTreesLotGoes x)) _ _ s;refine wpAny_noted ?_;rw [compTurn_list];refine ae (yg (ae (gK (no (turn n s hJ)) fun r fW uV=>?_)));cases r with
 | none=>exact au uV
 | some v =>
  refine ae (gK (no uV) fun _ jU LB=>ae (gK (no LB) fun _ Fb adU=>ae (gK (no adU) fun k OG aay=>?_)));cases k with
  | false=>exact au ⟨rfl,aay⟩
  | true=>exact ae (ae (gK (no aay) fun x QN adT=>ae (gK (no adT) fun _ agJ adS=>au (au ⟨rfl,adS⟩))))
def CompEnd(X:Cx)(pins:List (Addr×Obj))(σ:L2.St)(H:Hp)(G:Gp)(Q:DK)(C Dd:Addr)(s':ao):Prop :=
 ∃ m H' G',Inv X pins σ H' s'/\s'.heap.Ns C m/\o8 X pins H' C/\Mv X.K H G H' G'/\Q (.ref Dd) G'
inductive V6 (Xc:Cx):List Expr->Option y8->Prop
 | none:V6 Xc [] none
 | some {c:Expr} {t:y8}:He Xc c t->V6 Xc [c] (some t)
theorem Eh{τ:iK}{G G2:Gp}{H2:Hp}{s2:ao}{tg elt iter:Expr}{ifs:List Expr}{pos:Pos}{m:Nat}{fr:List Nat}{E:lu}{g:A2}{c:Option y8}{te:fM}{J:It}{tn:Nat->Heap->Prop}{it:Addr}{ds:List D}{ok:Gp->Prop}{Q:DK}{Rr:Value->Addr->Result->ao->Prop}{E0:Value->ao->Prop}
  (hc:X.calm=true) (sk:∀ y∈scope.names,y.2≠.cell) (D7:scope.kind=.function) (si:∀ y∈scope.names,y.2=.free->X.env.kindOf y.1=some .cell) (hN:N.length=m+fr.length)
  (Sk:∀ j i x,fr[j]?=some i->N[m+j]?=some x->X.N[i]?=some x/\X.env.scope.names.lookup x=some .cell/\(Ki scope X.env).names.lookup x=some .cell)
  (hg:∀ C s H fp,Oa (c7 X N scope C s H fp) tg g) (hi:∀ C s H fp,V6 (c7 X N scope C s H fp) ifs c) (he:∀ C s H fp,gy (c7 X N scope C s H fp) elt te)
  (I:I2 X pins σ H2 τ G2 s2) (m2:Mv X.K H G H2 G2) (T:Turn X.prog X.w X.K tg J fp it tn) (Wf:tn 0 s2.heap) (f2:∀ b∈fp,o8 X pins H2 b) (wk:WU X.K J H2 ds ok) (hz:ds.length<=SZ)
  (hL:∀ s H,Inv X pins σ H s->(∀ b∈fp,o8 X pins H b/\b < s.heap.objs.size)->Lk (c7 X N scope s.heap.objs.size s H fp) E) (q:i4 g c te ok ds E (vI m fr τ) G2 [] fun xs G3=>mF G3 (.lst xs) Q)
  (fin:∀ C s',CompEnd X pins σ H G Q C s2.heap.objs.size s'->Rr (.ref s2.heap.objs.size) C (.ok .next) s') (abb:∀ C e s',AY X C e s'->Rr (.ref s2.heap.objs.size) C (.error e) s') :
  wpAny (model X.prog X.w) X.A (newList []) (fun acc Fb=>wpAny (model X.prog X.w) X.A (newFunctionEnv scope X.env.globals (hU X.env scope.names []) [] X.env.qual none .none (some X.env)) (fun Jv OG =>
   pS (model X.prog X.w) X.A (.compStart (.ListComp elt [⟨tg,iter,ifs,0⟩] scope pos) 0 (.ref it) acc { Jv with scope:=Ki scope X.env }) (Rr acc Jv.locals) OG) E0 Fb) E0 s2:=by
 have sz:bg=16777216:=bK;have yM:H2 s2.heap.objs.size=none:=I.inv.cO.fresh (aK _);have Yy:G2 s2.heap.objs.size=none:=I.ab.free yM;refine eP (wpAny_newFunctionEnv sk (by intro y hy; simp at hy) (fun uV Se R6=>?_) D7);dsimp only at Se R6 ⊢;have I3:Inv X pins σ (upd H2 s2.heap.objs.size (.lst [])) { s2 with heap:=s2.heap.push { cls:=.type "list",data:=.seq ([]:List Value).toArray },toks:=s2.toks }:=I.inv.adI (ys:=[]) .nil (cu _);generalize hs3:({ s2 with heap:=s2.heap.push { cls:=.type "list",data:=.seq ([]:List Value).toArray },toks:=s2.toks }:ao)=s3 at I3;generalize hH3:upd H2 s2.heap.objs.size (.lst [])=H3 at I3;have eH3:∀ b,b≠s2.heap.objs.size->H3 b=H2 b:=fun b hb=>by rw [<-hH3,br hb]
 have IF:s3.heap=s2.heap.push { cls:=.type "list",data:=.seq ([]:List Value).toArray }:=by rw [<-hs3]
 have ZP:s3.heap.objs.size=s2.heap.objs.size+1:=by rw [IF,jB]
 have Sl:∀ b∈fp,b < s2.heap.objs.size:=fun b hb=>by
  obtain⟨o,e,_⟩:=T.obj _ _ Wf b hb;exact aN e
 have Yl:∀ b∈fp,o8 X pins H3 b/\b < s3.heap.objs.size:=fun b hb=>by
  have Pk:=Sl b hb;obtain⟨f0,f1⟩:=f2 b hb;exact⟨⟨by rw [eH3 b (bI Pk)]; exact f0,f1⟩,bJ Pk (by rw [ZP]; exact lI _)⟩
 have okc:(c7 X N scope s3.heap.objs.size s3 H3 fp).Ok:=YQ I3 sk D7 si (aK _) Yl;have hLc:=hL s3 H3 I3 Yl;have WE:∀ b o,s3.heap.get? b=some o->uV.get? b=some o:=fun b o e=>by
  have hb:b < s3.heap.objs.size:=aN e;refine R6.extBut b o ?_ (aA _ ?_)
  ·rw [<-IF]; exact bI hb
  ·rw [<-IF]; exact e
 have aeg:∃ mm,uV.Ns s3.heap.objs.size mm:=⟨_,by rw [IF]; exact Se⟩;have I4:=VV (tk:=s3.toks+([]:List (Str×Value)).length) I3 okc sk si hN Sk aeg WE;have adM:Kp H2 H3:=by rw [<-hH3]; exact .new yM
 have WT:lW X.K H3 G2:=by rw [<-hH3]; exact(Mv.Sj I.ab yM).ab
 have mv3:Mv X.K H2 G2 H3 G2:=by rw [<-hH3]; exact .Sj I.ab yM
 have st3:Ke X.K H3 (bE m none++fr.map fun i=>(σ[i]?).getD none) (vI m fr τ):=by
  refine⟨by unfold vI; rw [aE,aE,ai,ai,gE,gE],fun i d h2=>?_⟩;unfold vI at h2;by_cases hi:i < m
  ·rw [cm (by simpa using hi),mL] at h2;split at h2 <;> cases h2
  ·obtain⟨j,rfl⟩:∃ j,i=m+j:=⟨i - m,by lia⟩;rw [bA (by simp),gE,vj,bP] at h2;rw [bA (by simp),gE,vj,bP];cases hj:fr[j]? with
   | none=>rw [hj] at h2; cases h2
   | some k =>
    rw [hj] at h2;have Su:(τ[k]?).getD none=some d:=by simpa using h2
    have TX:τ[k]?=some (some d):=by
     cases qq:τ[k]? with
     | none=>rw [qq] at Su; cases Su
     | some o=>rw [qq] at Su; simp at Su; rw [Su]
    obtain⟨v,e1,e2⟩:=I.st.at' k d TX;exact⟨v,by simp [e1],e2.mono adM⟩
 have hD3:H3 s2.heap.objs.size=some (.lst []):=by rw [<-hH3,cP]
 have ZN:tn 0 uV:=T.keep _ _ _ Wf fun b hb o e=>WE b o (by rw [IF]; exact aA _ e);have QR:∀ {Hc:Hp},(∀ b∈fp,Hc b=none)->∀ b∈fp,o8 (c7 X N scope s3.heap.objs.size s3 H3 fp) [] Hc b:=fun hn b hb =>
  ⟨hn b hb,(okc.exf b hb).1,okc.Pu b hb,.inl hb,fun x c e=>(okc.exf b hb).2 x c e,fun p hp=>absurd hp (by simp)⟩
 have neD:∀ b∈fp,b≠s2.heap.objs.size:=fun b hb=>bI (Sl b hb);have loop:pS (model X.prog X.w) X.A (.compLoop (.ListComp elt [⟨tg,iter,ifs,0⟩] scope pos) 0 (.ref it) (.ref s2.heap.objs.size) (c7 X N scope s3.heap.objs.size s3 H3 fp).env) (Rr (.ref s2.heap.objs.size) s3.heap.objs.size)
   { s3 with heap:=uV,toks:=s3.toks+([]:List (Str×Value)).length }:=by
  refine GC (Ee:=(c7 X N scope s3.heap.objs.size s3 H3 fp).xe) (fun e s h=>eY h (fun _ _ q=>abb _ _ _ q) fun _ _ q=>abb _ _ _ q) (fun n s'=>∃ i TH Hc Qw Gc vK xQ,I2 (c7 X N scope s3.heap.objs.size s3 H3 fp) [] TH Hc Qw Gc s'/\Gc s2.heap.objs.size=none/\Hc s2.heap.objs.size=some (.lst vK)/\bc X.K Hc vK xQ/\xQ.length<=i/\Mv X.K H2 G2 Hc Gc/\tn i s'.heap/\(∀ b∈fp,Hc b=none) /\
   n=ds.length - i/\i<=ds.length/\i4 g c te ok (ds.drop i) E Qw Gc xQ fun xs G3=>mF G3 (.lst xs) Q) ?_ ds.length
   ⟨0,_,H3,_,G2,[],[],⟨I4,st3,WT⟩,Yy,hD3,.nil,aK _,mv3,ZN,fun b hb=>by rw [eH3 b (neD b hb)]; exact(f2 b hb).1,rfl,cu _,q⟩
  rintro n s4 ⟨i,TH,Hc,Qw,Gc,vK,xQ,Ic,gD,hD,rA,hA,mc,stc,frc,rfl,hle,wq⟩;have kpc:Kp H2 Hc:=mc.kp I.ab;by_cases pH:i < ds.length
  ·rw [cq pH] at wq;obtain⟨okG,wq⟩:=wq;obtain⟨go,yl⟩:=(wk i Hc Gc kpc Ic.ab okG).1 ds[i] (by simp [pH]);refine gK (T.item (c7 X N scope s3.heap.objs.size s3 H3 fp) rfl rfl rfl hc i [] s4 TH Hc _ Ic.inv (QR frc) stc go) ?_;rintro r s5 ⟨u,hr,h5⟩;subst hr;refine gK h5 ?_;rintro _ s6 ⟨x,H6,I6,r6,y6,st6,fr6⟩;obtain⟨rd6,m6⟩:=yl x H6 y6;have I6':=I6.pinned (QR fr6) (T.obj _ _ st6);have J6:I2 (c7 X N scope s3.heap.objs.size s3 H3 fp) ([]++tO fp s6.heap) TH H6 Qw Gc s6:=⟨I6',Ic.st.mono (m6.kp Ic.ab),m6.ab⟩;have back:∀ {Zr:L2.St} {H9:Hp} {Y4:iK} {G9:Gp} {s9:ao} {aV:List V} {aD:List D},I2 (c7 X N scope s3.heap.objs.size s3 H3 fp) ([]++tO fp s6.heap) Zr H9 Y4 G9 s9->Mv X.K H2 G2 H9 G9->G9 s2.heap.objs.size=none->H9 s2.heap.objs.size=some (.lst aV)->bc X.K H9 aV aD->aD.length<=i+1 ->
     (i4 g c te ok (ds.drop (i+1)) E Y4 G9 aD fun xs G3=>mF G3 (.lst xs) Q)->∃ mm,mm < ds.length - i/\∃ i TH Hc Qw Gc vK xQ,I2 (c7 X N scope s3.heap.objs.size s3 H3 fp) [] TH Hc Qw Gc s9/\Gc s2.heap.objs.size=none/\Hc s2.heap.objs.size=some (.lst vK)/\bc X.K Hc vK xQ/\xQ.length<=i /\
      Mv X.K H2 G2 Hc Gc/\tn i s9.heap/\(∀ b∈fp,Hc b=none)/\mm=ds.length - i/\i<=ds.length/\i4 g c te ok (ds.drop i) E Qw Gc xQ fun xs G3=>mF G3 (.lst xs) Q:=fun {Zr H9 Y4 G9 s9 aV aD} I9 m9 g9 h9 r9 l9 n9=>by
    refine⟨ds.length - (i+1),by lia,i+1,Zr,H9,Y4,G9,aV,aD,⟨I9.inv.we,I9.st,I9.ab⟩,g9,h9,r9,l9,m9,T.keep _ _ _ st6 fun b hb o e=>(I9.inv.pin (b,o) (dP _ (dP _ (rB hb e)))).1,fun b hb=>?_,rfl,pH,n9⟩;obtain⟨o,e,d⟩:=T.obj _ _ st6 b hb;exact(I9.inv.pin (b,o) (dP _ (dP _ (rB hb e)))).2.1
   have mc6:=mc.trans m6;have hD6:=m6.keep _ _ hD gD;refine gK (hg _ _ _ _ E _ s6 TH H6 Qw Gc x ds[i] u _ hLc J6 r6 rd6 wq) ?_;rintro _ s7 ⟨P7,H7,P6,G7,I7,m7,q7⟩;have hD7:=m7.keep _ _ hD6.1 gD;have mc7:=mc6.trans m7;have rA7:=rA.mono ((m6.trans m7).kp Ic.ab);have abe:∀ (H8:Hp) (G8:Gp) (s8:ao),I2 (c7 X N scope s3.heap.objs.size s3 H3 fp) ([]++tO fp s6.heap) P7 H8 P6 G8 s8->Mv X.K H7 G7 H8 G8->(te E P6 G8 fun y G9=>i4 g c te ok (ds.drop (i+1)) E P6 G9 (xQ++[y]) fun xs G3=>mF G3 (.lst xs) Q) ->
     wpAny (model X.prog X.w) X.A (eval elt (c7 X N scope s3.heap.objs.size s3 H3 fp).env) (fun y OG=>wpAny (model X.prog X.w) X.A (call (.builtin "list.append") [.ref s2.heap.objs.size,y]) (fun _ QN=>∃ mm,mm < ds.length - i/\∃ i TH Hc Qw Gc vK xQ,I2 (c7 X N scope s3.heap.objs.size s3 H3 fp) [] TH Hc Qw Gc QN/\Gc s2.heap.objs.size=none/\Hc s2.heap.objs.size=some (.lst vK)/\bc X.K Hc vK xQ/\xQ.length<=i /\
      Mv X.K H2 G2 Hc Gc/\tn i QN.heap/\(∀ b∈fp,Hc b=none)/\mm=ds.length - i/\i<=ds.length/\i4 g c te ok (ds.drop i) E Qw Gc xQ fun xs G3=>mF G3 (.lst xs) Q) (c7 X N scope s3.heap.objs.size s3 H3 fp).xe OG) (c7 X N scope s3.heap.objs.size s3 H3 fp).xe s8:=fun H8 G8 s8 I8 m8 q8=>by
    refine jC (he _ _ _ _) hLc I8 q8 fun v H9 d9 G9 u9 s9 I9 m9 r9 rd9 q9=>?_;have m79:=m8.trans m9;have hD9:=m79.keep _ _ hD7.1 hD7.2;have rA9:=rA7.mono (m79.kp I7.ab);have mc9:=mc7.trans m79;refine gK (DU (X:=c7 X N scope s3.heap.objs.size s3 H3 fp) _ s9 P7 H9 (.ref s2.heap.objs.size) [v] _ [u9] (fun _ H'=>H'=upd H9 s2.heap.objs.size (.lst (vK++[v]))) I9.inv rfl (.cons r9 .nil)
     ⟨_,vK,v,rfl,rfl,hD9.1,by rw [rA.length,sz]; have:SZ=16777216:=rfl; lia,rfl⟩) ?_
    rintro _ s10 ⟨v10,H10,I10,_,e10⟩;subst e10;have kpA:Kp H9 (upd H9 s2.heap.objs.size (.lst (vK++[v]))):=.putL hD9.1;have abA:lW X.K (upd H9 s2.heap.objs.size (.lst (vK++[v]))) G9:=fun a g' e=>by
     have ne:a≠s2.heap.objs.size:=by rintro rfl; rw [hD9.2] at e; cases e
     exact(I9.ab a g' e).mono kpA (br ne)
    have mA:Mv X.K H2 G2 (upd H9 s2.heap.objs.size (.lst (vK++[v]))) G9:=⟨fun a o e n=>by
      have ne:a≠s2.heap.objs.size:=ff e yM;obtain⟨e1,e2⟩:=mc9.keep a o e n;exact⟨by rw [br ne]; exact e1,e2⟩,fun a n=>by
      by_cases ha:a=s2.heap.objs.size
      ·rw [ha,cP]; simp
      ·rw [br ha]; exact mc9.jo a n,abA⟩
    exact back ⟨I10,I9.st.mono kpA,abA⟩ mA hD9.2 cP ((rA9.append (.cons rd9 .nil)).mono kpA) (by rw [aE,bf]; lia) q9
   cases hi s3.heap.objs.size s3 H3 fp with
   | none =>
    refine wpAny_tests_nil ?_;rw [if_pos rfl];exact abe H7 G7 s7 I7 (.refl I7.ab) q7
   | some aaZ =>
    refine wpAny_tests_one (QL aaZ hLc I7 q7 fun k H8 G8 s8 I8 m8 q8=>?_);cases k with
    | true =>
     rw [if_pos rfl] at q8 ⊢;exact abe H8 G8 s8 I8 m8 q8
    | false =>
     rw [if_neg fL] at q8 ⊢;have hD8:=m8.keep _ _ hD7.1 hD7.2;exact back I8 (mc7.trans m8) hD8.2 hD8.1 (rA7.mono (m8.kp I7.ab)) (by lia) q8
  ·have hn:ds.length<=i:=by lia
   rw [nj hn] at wq;obtain⟨okG,qn⟩:=wq;have stop:=(wk i Hc Gc kpc Ic.ab okG).2 hn;refine gK (T.done (c7 X N scope s3.heap.objs.size s3 H3 fp) rfl rfl rfl hc i [] s4 TH Hc _ Ic.inv (QR frc) stc stop) ?_;rintro r s5 ⟨hr,I5⟩;subst hr;refine fin s3.heap.objs.size s5 ?_;obtain⟨mm,aeh,_⟩:=I5.loc;have hC5:Hc s3.heap.objs.size=none:=I5.free;have I6:Inv X pins σ Hc s5:=by
    obtain⟨h5,g5,d5,t5,o5⟩:=s5;have eo:o5=s3.os:=I5.os;subst eo;exact I3.call (h':=h5) (g':=g5) (d':=d5) (t':=t5) (ch:=fp) I5.base I5.cO I5.bare fun b hb=>by
     obtain⟨⟨f0,f1,f2',f3,f4,f5⟩,hl⟩:=Yl b hb;exact⟨f3,f1,f4,f5⟩
   have mvF:Mv X.K H2 G2 Hc (dE Gc s2.heap.objs.size (.lst xQ)):=⟨fun a o e n=>by
     have ne:a≠s2.heap.objs.size:=ff e yM;obtain⟨e1,e2⟩:=mc.keep a o e n;exact⟨e1,by rw [dR ne]; exact e2⟩,mc.jo,fun a g' e=>by
     by_cases ha:a=s2.heap.objs.size
     ·subst ha;rw [aW] at e;cases e;exact⟨vK,hD,rA⟩
     ·rw [dR ha] at e;exact Ic.ab a g' e⟩
   exact⟨mm,Hc,_,I6,aeh,I3.LH (aK _) hC5,m2.trans mvF,qn _ gD⟩
 have all:pS (model X.prog X.w) X.A (.compStart (.ListComp elt [⟨tg,iter,ifs,0⟩] scope pos) 0 (.ref it) (.ref s2.heap.objs.size) (c7 X N scope s3.heap.objs.size s3 H3 fp).env) (Rr (.ref s2.heap.objs.size) s3.heap.objs.size)
   { s3 with heap:=uV,toks:=s3.toks+([]:List (Str×Value)).length }:=codeAny_compStart_list loop (T.self _ 0 _ _ _ ZN loop)
 subst hs3;exact all
end
section
variable {X:Cx} {N:List Str} {scope:Scope} {tg elt iter:Expr} {ifs:List Expr} {pos:Pos} {m:Nat} {fr:List Nat} {wi:Qg} {g:A2} {c:Option y8} {te:fM}
structure zc(X:Cx)(N:List Str)(scope:Scope)(m:Nat)(fr:List Nat):Prop where
 cell:∀ y∈scope.names,y.2≠.cell
 kind:scope.kind=.function
 names:∀ y∈scope.names,y.2=.local->scope.names.lookup y.1=some .local
 free:∀ y∈scope.names,y.2=.free->X.env.kindOf y.1=some .cell
 len:N.length=m+fr.length
 at':∀ j i x,fr[j]?=some i->N[m+j]?=some x->X.N[i]?=some x/\X.env.scope.names.lookup x=some .cell/\(Ki scope X.env).names.lookup x=some .cell
theorem zc.closed{X:Cx}{N:List Str}{scope:Scope}{m:Nat}{fr:List Nat}(k:zc X N scope m fr){pins:List (Addr×Obj)}{σ:L2.St}{H:Hp}{s:ao}(I:Inv X pins σ H s):closureFor scope X.env=pure (hU X.env scope.names []) :=
 Dk fun y hy hf=>I.ok.has _ (.inl (k.free y hy hf))
theorem DT(ε:lu->lu)(hL:∀ E pins σ s H fp,Lk X E->Inv X pins σ H s->(∀ b∈fp,o8 X pins H b/\b < s.heap.objs.size)->Lk (c7 X N scope s.heap.objs.size s H fp) (ε E))(hc:X.calm=true)(k:zc X N scope m fr)(hi:Qh X tg iter wi)(hg:∀ C s H fp,Oa (c7 X N scope C s H fp) tg g)(Sh:∀ C s H fp,V6 (c7 X N scope C s H fp) ifs c)(he:∀ C s H fp,gy (c7 X N scope C s H fp) elt te)
  (hs:autoParam (∀ x,jm iter X.env x=pure x) Ai._auto_1):gy X (.ListComp elt [⟨tg,iter,ifs,0⟩] scope pos) (fun E τ G Q=>wi E τ G fun ds ok G1=>ds.length<=SZ/\i4 g c te ok ds (ε E) (vI m fr τ) G1 [] fun xs G2=>mF G2 (.lst xs) Q):=by
 intro E pins s σ H τ G Q hE I h;rw [eval_ListComp];refine wpAny_comprehension_free (use:=none) rfl hs (k.closed I.inv) k.kind k.names (gK (hi E pins s σ H τ G _ hE I h) fun xv fW uV=>gK uV fun Wy jU LB=>?_);obtain⟨it,fp,tn,J,H2,G2,ds,ok,e,jA,m2,T,Wf,f2,wk,hz,q⟩:=LB;subst e;refine Eh (Rr:=fun acc C=>compPost (model X.prog X.w) X.A X.xe none (qN X pins σ H G Q) acc C) hc k.cell k.kind k.free k.len k.at' hg Sh he (I.mv jA m2) m2 T Wf f2 wk hz (fun s H=>hL E pins σ s H fp hE) q ?_ (fun _ _ _ z=>z);rintro C s' ⟨mm,H',G',I',CZ,fpC,mv,q'⟩;refine⟨mm,CZ,fun h' J7=>?_⟩;obtain⟨f0,f1,_,f3,f4,f5⟩:=fpC;exact⟨.ref _,H',.ref _,G',I'.turned (t':=s'.toks) (fun b o hb e=>J7.extBut b o hb e) f0 f1 f3 f4 f5,mv,rfl,.ref _,q'⟩
theorem OX(hc:X.calm=true)(k:zc X N scope m fr)(hi:Qh X tg iter wi)(hg:∀ C s H fp,Oa (c7 X N scope C s H fp) tg g)(Sh:∀ C s H fp,V6 (c7 X N scope C s H fp) ifs c)(he:∀ C s H fp,gy (c7 X N scope C s H fp) elt te)
  (hs:autoParam (∀ x,jm iter X.env x=pure x) Ai._auto_1):gy X (.ListComp elt [⟨tg,iter,ifs,0⟩] scope pos) (lg m fr wi g c te) :=
 DT (fun _ _ _=>False) (fun _ _ _ _ _ _ _ _ _=>Lk.none fun _ _ z=>z) hc k hi hg Sh he hs
theorem HQ{i:Nat}{y:Str}{py QV:Pos}(hN:X.N.Nodup)(hyi:X.N[i]?=some y)(hy:X.env.scope.names.lookup y=some .local)(hc:X.calm=true)(k:zc X N scope m fr)(hi:Qh X tg iter wi)(hg:∀ C s H fp,Oa (c7 X N scope C s H fp) tg g)
  (Sh:∀ C s H fp,V6 (c7 X N scope C s H fp) ifs c) (he:∀ C s H fp,gy (c7 X N scope C s H fp) elt te) (hsw:autoParam (qe (.ListComp elt [⟨tg,iter,ifs,0⟩] scope pos) (some (.Name y py)) QV.line X.env=pure true) Ar._auto_1)
  (hs:autoParam (∀ x,jm iter X.env x=pure x) Ai._auto_1):Kb X (.Assign [.Name y py] (.ListComp elt [⟨tg,iter,ifs,0⟩] scope pos) QV) (cT (lg m fr wi g c te) (aT i)):=by
 intro E pins s σ H τ G D hE I h;rw [exec_Assign_Name_used _ _ _ _ hsw];refine ae (yg (ae ?_));show wpAny _ X.A (do let _ ← comprehension (.ListComp elt [⟨tg,iter,ifs,0⟩] scope pos) scope X.env _ (newList []) false (eval iter X.env) (some (Qs (.Name y py) X.env))) _ _ s;refine ae (gK (wpAny_comprehension_free (use:=some (Qs (.Name y py) X.env)) (Q:=fun _ s'=>V5 X pins H G D .next s') rfl hs (k.closed I.inv) k.kind k.names (gK (hi E pins s σ H τ G _ hE I h) fun xv fW uV=>gK uV fun Wy jU LB=>?_)) fun _ s' hq=>au (au hq));obtain⟨it,fp,tn,J,H2,G2,ds,ok,e,jA,m2,T,Wf,f2,wk,hz,q⟩:=LB;subst e;refine Eh (Rr:=fun acc C=>compPost (model X.prog X.w) X.A X.xe (some (Qs (.Name y py) X.env)) (fun _ s'=>V5 X pins H G D .next s') acc C) hc k.cell k.kind k.free k.len k.at' hg Sh he (I.mv jA m2) m2 T Wf f2 wk hz (fun _ _ _ _=>Lk.none fun _ _ z=>z) q ?_ (fun _ _ _ z=>z);rintro C s' ⟨mm,H',G',I',CZ,fpC,mv,q'⟩;show wpAny (model X.prog X.w) X.A (Qs (.Name y py) X.env (.ref jU.heap.objs.size)) _ X.xe s';obtain⟨f0,f1,_,f3,f4,f5⟩:=fpC;refine wpAny_assign_Name (yp (v:=.ref jU.heap.objs.size) I' hN hyi (.inl hy) rfl (?_) (.inr hy));rintro s3 I3 ⟨a,hsb,ha⟩;have hCa:C≠a:=by
  rcases ha with rfl | ha
  ·exact f1
  ·exact fun e=>f4 y a ha e.symm
 refine⟨mm,CZ.sameBut hsb hCa,fun h' J7=>?_⟩;exact⟨_,H',_,G',⟨I3.turned (t':=s3.toks) (fun b o hb e=>J7.extBut b o hb e) f0 f1 f3 f4 f5,(I.st.mono (mv.kp I.ab)).set i (.ref _),mv.ab⟩,mv,q'⟩
theorem fQ{i:Nat}{u:GL}{n:Nat}(h:∀ E ds τ G Q,u E ds τ G Q->ds.length=n):∀ E ds τ G Q,iO (aT i) u E ds τ G Q->ds.length=n+1 :=
 Pn h (fun _ _ _ _ _ _ q k=>k _ _ q) fun _ _ _ _ q=>q
theorem bQ (i:Nat) {x:Str} {pos:Pos} (hN:autoParam (X.N[i]?=some x) Ar._auto_1) (hv:autoParam (YX X.env.scope x) Ao._auto_1) (hd:autoParam ((x == ("__debug__" : Str))=false) Ad._auto_1)
  (vT:autoParam ((x == ("__classdict__" : Str))=false) Ad._auto_1):gy X (.Name x pos) (ay i):=U8 hN hv hd vT
theorem range_all(bs:List Bool):(cA bs.length).all (fun i=>bs.getD i true)=bs.all id:=by
 rw [Bool.eq_iff_iff,fS,fS];constructor
 ·intro h b hb;obtain⟨i,hi,e⟩:=fu hb;have:=h i (List.mem_range.mpr hi);rw [aO,aj hi,e] at this;exact this
 ·intro h i hi;have Qd:=List.mem_range.mp hi;rw [aO,aj Qd];exact h _ (cb Qd)
theorem Bq{K:ag}{H:Hp}:∀ {vs:List V} {bs:List Bool} {bw:List Value},bc K H vs (bs.map D.bl)->Vals vs bw->bw=bs.map xY
 | _,[],_,r,h=>by rw [a7] at r; rw [r.zero] at h; cases h; rfl
 | _,b :: bs,_,r,h=>by
  rw [aB] at r;cases r with
  | cons r1 r2 =>
   cases r1;cases h with
   | cons h1 h2 =>
    cases h1;rw [Bq r2 h2]; rfl
theorem BN{pins:List (Addr×Obj)}{s:ao}{σ:L2.St}{H:Hp}{G:Gp}{x:V}{d:D}{v:Value}{zs:List D}(I:Inv X pins σ H s)(ab:lW X.K H G)(rx:RelV x v)(rd:cQ X.K H x d)(hi:itemsOf d G=some zs) :
  ∃ l vs bw,v=.ref l/\Vals vs bw/\bc X.K H vs zs/\(s.heap.IsList l bw.toArray\/s.heap.IsTuple l bw.toArray)/\vs.length<=bg:=by
 cases rd with
 | fH hq rs =>
  cases hi;cases rx;obtain⟨bw,rv,pl,hz⟩:=I.list hq.sq;exact⟨_,_,bw,rfl,rv,rs,.inl pl.isList,hz⟩
 | tup hq rs =>
  cases hi;cases rx;obtain⟨bw,rv,pl,hz⟩:=I.tuple (.of hq);exact⟨_,_,bw,rfl,rv,rs,.inr pl,hz⟩
 | ref l =>
  unfold itemsOf at hi;dsimp only at hi;cases hg:G l with
  | none=>rw [hg] at hi; cases hi
  | some gg =>
   rw [hg] at hi;cases gg with
   | lst ds =>
    cases hi;cases rx;obtain⟨vs,hv,rs⟩:=ab.lst hg;obtain⟨bw,rv,pl,hz⟩:=I.list (.of hv);exact⟨_,_,bw,rfl,rv,rs,.inl pl.isList,hz⟩
   | ins _ _=>cases hi
   | NM _=>cases hi
   | mO _=>cases hi
 | _=>cases hi
theorem El (hc:X.calm=true):oP X (.builtin "all") VZ:=by
 intro pins s σ H G xs ds us Q I ab rx rd q;unfold VZ at q;split at q
 ·rename_i x;obtain⟨bs,hb,q⟩:=q;obtain⟨v,rfl,r⟩:=rd.one;obtain⟨u,rfl,ru⟩:=rx.one;obtain⟨l,vs,bw,rfl,rv,rs,hl,hz⟩:=BN I ab ru r hb;have ei:=Bq rs rv;have hlen:bw.length=bs.length:=by rw [ei,ai]
  have lr:∀ {o:Obj},s.heap.get? l=some o->l≠s.heap.objs.size:=fun e=>bI (aN e);have tr:TruthOf X.prog X.w X.A.in1 (fun i v=>bw.toArray[i]?=some v) (fun i=>bs.getD i true):=fun i v s' Q' E' hv hq=>by
   subst ei;have X9:(bs.map xY)[i]?=some v:=by simpa using hv
   rw [bP] at X9;cases hbi:bs[i]? with
   | none=>rw [hbi] at X9; cases X9
   | some b =>
    rw [hbi] at X9;cases X9;dsimp only at hq;rw [aO,hbi] at hq;exact jj hq
  have fin:∀ h' tk,(∀ b o,b∉[s.heap.objs.size]->s.heap.get? b=some o->h'.get? b=some o)->qN X pins σ H G Q (.bool ((cA bw.toArray.size).all fun i=>bs.getD i true)) { s with heap:=h',toks:=tk }:=fun h' tk hk=>by
   rw [aS,hlen,range_all];exact⟨.bl _,H,.bl _,G,I.kept fun b o e=>hk b o (by simpa using bI (aN e)) e,.refl ab,rfl,.bl _,q⟩
  rcases hl with hl | hl
  ·refine call_all_walk (vV hl ?_);obtain⟨o,ho,C3,n,hd⟩:=id hl;exact⟨s.heap.objs.size,_,_,_,_,_,_,rfl,Walks.list (A:=X.A.in1) (show X.A.in1.handled=none from I.ok.hd hc) _ l (lr ho) bw.toArray,⟨⟨_,a5 _ rfl,rfl,rfl⟩,⟨o,aA _ ho,C3,n,hd⟩⟩,tr,fun h' tk hk=>fin h' tk fun b o hb e=>hk b o hb (aA _ e)⟩
  ·refine call_all_walk (Hf hl ?_);obtain⟨o,ho,C3,n,hd⟩:=id hl;exact⟨s.heap.objs.size,_,_,_,_,_,_,rfl,Walks.tuple (A:=X.A.in1) (show X.A.in1.handled=none from I.ok.hd hc) _ l (lr ho) bw.toArray,⟨⟨_,a5 _ rfl,rfl,rfl⟩,⟨o,aA _ ho,C3,n,hd⟩⟩,tr,fun h' tk hk=>fin h' tk fun b o hb e=>hk b o hb (aA _ e)⟩
 ·exact q.elim
theorem Rf{body:List Stmt}{t2:i5}(h:sJ X body t2){E:lu}(hE:Lk X E):T8 X body (fun D σ H=>∃ (τ:iK) (G:Gp) (D2:oO),Ke X.K H σ τ/\lW X.K H G/\t2 E D2 τ G /\
  (∀ kG H' pV G',Mv X.K H G H' G'->D2.nx pV G'->D.nx kG H')/\(∀ v H' d G',Mv X.K H G H' G'->cQ X.K H' v d->D2.rt d G'->D.rt v H')/\(∀ τ G,¬ D2.bk τ G)/\(∀ τ G,¬ D2.ct τ G)):=by
 rintro pins s σ H D I ⟨τ,G,D2,st,ab,q,k1,k2,k3,k4⟩;refine gK (h E pins s σ H τ G D2 hE ⟨I,st,ab⟩ q) fun f s1 z=>?_;cases f with
 | next=>obtain⟨kG,H',pV,G',J,mv,z⟩:=z; exact⟨kG,H',J.inv,k1 kG H' pV G' mv z⟩
 | brk=>obtain⟨kG,H',pV,G',J,mv,z⟩:=z; exact(k3 _ _ z).elim
 | cont=>obtain⟨kG,H',pV,G',J,mv,z⟩:=z; exact(k4 _ _ z).elim
 | ret u=>obtain⟨v,kG,H',d,G',J,mv,r,rd,z⟩:=z; exact⟨v,kG,H',J,r,k2 v H' d G' mv rd z⟩
theorem Bg{K:ag}{H:Hp}{Nn:List Str}{vs:List V}{ds:List D}(r:bc K H vs ds):Ke K H (L2.start Nn vs) (bL Nn.length ds):=by
 unfold L2.start bL;refine⟨by simp [r.length],fun i d h=>?_⟩;by_cases hi:i < ds.length
 ·rw [cm (by simpa using hi),bP] at h;cases hd:ds[i]? with
  | none=>rw [hd] at h; cases h
  | some d' =>
   rw [hd] at h;have e:d'=d:=by simpa using h
   subst e;obtain⟨v,h1,h2⟩:=r.get hd;refine⟨v,?_,h2⟩;rw [cm (by simpa [r.length] using hi),bP,h1]; rfl
 ·rw [bA (by simpa using hi),mL] at h;split at h <;> cases h
theorem VF{P:bx}{w:World}{K:ag}{mg:Str->Option Value}{base:Heap}{x qual:Str}{st:Stmt}{f:Addr}{fd:aH}{Nn ps:List Str}{k:Nat}{sp:nR}{rd:i5}(F:p7 K x qual st f fd)(S:cG Nn ps (aX st))(len:∀ ds G Q E,sp ds G Q E->ds.length=ps.length)
  (hr:∀ ds G Q,sp ds G Q (fun _ _=>False)->rd (fun _ _=>False) (ends Q) (bL Nn.length ds) G)
  (hb:∀ (lD:Value) (A:cX) (outer:List Env) (s:ao) (H:Hp) (E:XK),jI k (A.deeper (ze qual (aX st) s.heap.objs.size f lD))->sJ (yU ji P w K mg base Nn qual (aX st) f lD A outer s H E).XJ (hX st) rd):fU P w K mg base ji (k+1) f fd ps (ft K sp):=by
 refine F.ok S ((by rintro vs H Q E ⟨ds,G,Q2,r,ab,q,_⟩; exact by rw [r.length]; exact len _ _ _ _ q)) ?_;rintro lD A outer s H vs Q E IC ⟨ds,G,Q2,r,ab,q,kk⟩;refine⟨_,Rf (hb lD A outer s H E IC) (E:=fun _ _=>False) (Lk.none fun _ _ z=>z),?_⟩;exact⟨bL Nn.length ds,G,ends Q2,Bg r,ab,hr ds G Q2 q,fun kG H' pV G' mv z=>kk _ _ _ _ z mv .cR,fun v H' d G' mv UW z=>kk _ _ _ _ z mv UW,fun _ _ z=>z,fun _ _ z=>z⟩
section
variable {prog:bx} {w:World} {A:cX} {R:Result->ao->Prop} {It0:Addr} {fq wr:List Addr} {n:Nat} {P:Nat->Value->Prop} {Sx:Nat->Heap->Prop}
theorem XS(W:Walks prog w A.in1 It0 fq wr n P Sx)(bt:Nat->Nat->Bool)(T:Heap->Prop)(B:Addr)(hB:B∉fq)(hT:∀ h h',T h->(∀ b o,b∉wr->b≠B->h.get? b=some o->h'.get? b=some o)->T h')
  (cmp:∀ i j x y s (Q:Value->ao->Prop) (E:Value->ao->Prop),T s.heap->P i x->P j y->Q (.bool (bt i j)) s->wpAny (model prog w) A.in1 (sS .Lt x y) Q E s) :
  ∀ (k j:Nat) (s:ao) (best:Value) (cc:Nat),n - (j+1)=k->j+1<=n->Sx (j+1) s.heap->T s.heap->P (sV bt j) best ->
  s.heap.get? B=some { cls:=.type "list",dict:=none,data:=.seq #[best,best] cc,slots:=#[] } ->
  (∀ v h' tk,P (sV bt (n - 1)) v->(∀ b o,b∉wr->b≠B->s.heap.get? b=some o->h'.get? b=some o)->R (.ok (.ret v)) { s with heap:=h',toks:=tk }) ->
  pS (model prog w) A (.builtin "min.loop" ⟨[.ref It0,.none,.ref B],[]⟩) R s:=by
 have hBw:B∉wr:=fun z=>hB (W.sub _ z);have nm:(toString "min"++toString ".loop" : String) = "min.loop":=by decide
 intro k;induction k with
 | zero =>
  intro j s best cc hk hj hs ht hp hb hR;have ej:j+1=n:=by lia
  refine gR Kw ?_; rw [fG jM _];show wpAny _ A.in1 (seqItems? (.ref B) >>= _) _ _ s; refine ae (Ua hb rfl ?_);show wpAny _ A.in1 (tryCatch (uY (.ref It0)) _ >>= _) _ _ s; refine ae (Ds (W.done s _ _ (ej ▸ hs) fun h' tk kept=>?_));have B5:=kept B _ hBw hb;show wpAny _ A.in1 (updateSeq B (fun _=>#[]) >>= _) _ _ _; refine ae ?_;refine A3 B5 rfl (ae (ED (au ?_)));exact hR best _ tk (by rw [<-ej]; exact hp) fun b o z1 z2 e=>(cN _ _ (jz z2)).trans (kept b o z1 e)
 | succ k ih =>
  intro j s best cc hk hj hs ht hp hb hR;have lt:j+1 < n:=by lia
  refine gR Kw ?_; rw [fG jM _];show wpAny _ A.in1 (seqItems? (.ref B) >>= _) _ _ s; refine ae (Ua hb rfl ?_);show wpAny _ A.in1 (tryCatch (uY (.ref It0)) _ >>= _) _ _ s; refine ae (Ds (W.item (j+1) s _ _ lt hs fun v h' tk pv AH kept=>?_));have B5:=kept B _ hBw hb;have Ze:T h':=hT _ _ ht fun b o z1 _ e=>kept b o z1 e;show wpAny _ A.in1 (tryCatch (Km [v,v] (sS .Lt v best >>= _)) _ >>= _) _ _ _;refine ae (Ds (du (ae (cmp (j+1) (sV bt j) v best _ _ _ Ze pv hp ?_)))); refine ae (du (jj ?_)); refine ae (ED (au ?_));cases hbt:bt (j+1) (sV bt j) with
  | true =>
   simp only [if_true]; refine ae ?_;refine A3 B5 rfl (ae (ED ?_)); rw [nm];refine au ⟨lz jM _,ih (j+1) _ v _ (by lia) lt (W.frame _ _ _ AH fun b z o e=>?_) (hT _ _ Ze fun b o _ z2 e=>?_) (by simp only [sV,hbt,if_true]; exact pv) (dQ _ B5 rfl) fun v' h'' QK ZY kk=>?_⟩
   ·exact(cN _ _ (fun z':B=b=>hB (by rw [z']; exact z))).trans e
   ·exact(cN _ _ (jz z2)).trans e
   ·exact hR v' h'' QK ZY fun b o z1 z2 e=>kk b o z1 z2 ((cN _ _ (jz z2)).trans (kept b o z1 e))
  | false =>
   simp only [aw,if_false]; refine ae (ED ?_); rw [nm];refine au ⟨lz jM _,ih (j+1) _ best cc (by lia) lt AH Ze (by simp only [sV,hbt,aw,if_false]; exact hp) B5 fun v' h'' QK ZY kk=>?_⟩;exact hR v' h'' QK ZY fun b o z1 z2 e=>kk b o z1 z2 (kept b o z1 e)
end
theorem Ia{prog:bx}{w:World}{A:cX}{E:Value->ao->Prop}{s:ao}{x:Value}{Q:Value->ao->Prop}
  (h:wpAny (model prog w) A.in1 (Du x) (fun it jU=>∃ (I:Addr) (fq wr:List Addr) (n:Nat) (P:Nat->Value->Prop) (Sx:Nat->Heap->Prop) (bt:Nat->Nat->Bool) (T:Heap->Prop),it=.ref I/\Walks prog w A.in1 I fq wr n P Sx/\Sx 0 jU.heap/\(∀ b∈fq,b < jU.heap.objs.size)/\0 < n/\T jU.heap/\(∀ (h h':Heap) (B:Addr),jU.heap.objs.size<=B->T h->(∀ b o,b∉wr->b≠B->h.get? b=some o->h'.get? b=some o)->T h') /\
   (∀ i j x y s (Q:Value->ao->Prop) (E:Value->ao->Prop),T s.heap->P i x->P j y->Q (.bool (bt i j)) s->wpAny (model prog w) A.in1 (sS .Lt x y) Q E s) /\
   ∀ v h' tk,P (sV bt (n - 1)) v->(∀ b o,b∉wr->jU.heap.get? b=some o->h'.get? b=some o)->Q v { jU with heap:=h',toks:=tk }) E s) :
  wpAny (model prog w) A (call (.builtin "min") [x]) Q E s:=by
 have nm:(toString "min"++toString ".loop" : String) = "min.loop":=by decide
 refine call_function_tree F.kind_min F.plain_min F.entry_min (F.args_min1 _) ?_;show wpAny _ A.in1 (ya "min" ["key","default"] 0 ⟨[],[]⟩ >>= _) _ _ s; refine ae (Ql (show ya "min" ["key","default"] 0 ⟨[],[]⟩=pure [none,none] from rfl) ?_);refine ae (au ?_); refine ae (eY h (fun it jU LB=>?_) fun _ _ e=>e);obtain⟨I,fq,wr,n,P,Sx,bt,T,rfl,W,uW,IE,hn,ht,hT,cmp,hQ⟩:=LB;refine ae (eP ?_);have Zg:jU.heap.objs.size∉fq:=fun z=>eQ _ (IE _ z);have hSw:jU.heap.objs.size∉wr:=fun z=>Zg (W.sub _ z);rw [nm];generalize hh:jU.heap.push { cls:=.type "list",data:=.seq ([]:List Value).toArray } = hp;have hb:hp.get? jU.heap.objs.size=some { cls:=.type "list",dict:=none,data:=.seq #[] 0,slots:=#[] }:=by rw [<-hh]; exact a5 _ rfl
 have old:∀ b o,jU.heap.get? b=some o->hp.get? b=some o:=fun b o e=>by rw [<-hh]; exact aA _ e
 have TK:Sx 0 hp:=W.frame _ _ _ uW fun b _ o e=>old b o e;have ht0:T hp:=hT _ _ _ (aK _) ht fun b o _ _ e=>old b o e;refine au ⟨lz jM _,?_⟩;refine gR Kw ?_; rw [fG jM _];show wpAny _ A.in1 (seqItems? (.ref jU.heap.objs.size) >>= _) _ _ _; refine ae (Ua hb rfl ?_);show wpAny _ A.in1 (tryCatch (uY (.ref I)) _ >>= _) _ _ _; refine ae (Ds (W.item 0 _ _ _ hn TK fun v h' tk pv AH kept=>?_));have B5:=kept _ _ hSw hb;show wpAny _ A.in1 (updateSeq jU.heap.objs.size (fun _=>#[v,v]) >>= _) _ _ _; refine ae ?_;refine A3 B5 rfl ?_; rw [nm];refine au ⟨lz jM _,XS W bt T _ Zg (fun h h'=>hT h h' _ (aK _)) cmp _ 0 _ v _ rfl hn (W.frame _ _ _ AH fun b z o e=>?_) (hT _ _ _ (aK _) (hT _ _ _ (aK _) ht0 fun b o z1 _ e=>kept b o z1 e) fun b o _ z2 e=>?_) pv (dQ _ B5 rfl) fun v' h'' QK ZY kk=>?_⟩
 ·exact(cN _ _ (fun z':jU.heap.objs.size=b=>Zg (by rw [z']; exact z))).trans e
 ·exact(cN _ _ (jz z2)).trans e
 ·refine hQ v' h'' QK ZY fun b o z1 e=>?_;have nb:b≠jU.heap.objs.size:=bI (aN e);exact kk b o z1 nb ((cN _ _ (jz nb)).trans (kept b o z1 (old b o e)))
theorem JG{α:Type}(lt:α->α->Bool)(l:List α)(a:α)(f:Nat->α)(hf:∀ i,i < l.length+1->f i=(a :: l).getD i a) :
  f (sV (fun i j=>lt (f i) (f j)) l.length)=l.foldl (fun m x=>if lt x m=true then x else m) a:=by
 have key:∀ k,k<=l.length->f (sV (fun i j=>lt (f i) (f j)) k)=(l.take k).foldl (fun m x=>if lt x m=true then x else m) a:=by
  intro k;induction k with
  | zero=>intro _; rw [sV,hf 0 (by lia)]; rfl
  | succ k ih =>
   intro hk;have ih':=ih (by lia);rw [List.take_succ_eq_append_getElem (by lia),Dy,<-ih'];have e:f (k+1)=l[k]:=by
    rw [hf (k+1) (by lia),aO];simp [show k < l.length by lia]
   show f (if lt (f (k+1)) (f (sV _ k))=true then k+1 else sV _ k)=(if lt l[k] _=true then l[k] else _);rw [<-e];split <;> rfl
 rw [key l.length (aK _),o9]
theorem PD (hc : X.calm = true) (hu : X.A.units + 64 < cLine) : oP X (.builtin "min") Tf := by
  intro pins s σ H G xs ds us Q I ab rx rd q;unfold Tf at q;split at q
  · rename_i x
    obtain⟨v, rfl, r⟩ := rd.one;obtain⟨u, rfl, ru⟩ := rx.one;have main : ∀ {α : Type} (zs : List α) (a : α) (enc : α -> D) (lt : α -> α -> Bool) (T : Heap -> Prop), itemsOf x G = some ((a :: zs).map enc) -> T s.heap -> (∀ (h h' : Heap) (B : Addr), s.heap.objs.size ≤ B -> T h -> (∀ b o, b < s.heap.objs.size -> b ≠ B -> h.get? b = some o -> h'.get? b = some o) -> T h') ->
        (∀ y z vy vz uy uz (s' : ao) (Q' : Value -> ao -> Prop) (E' : Value -> ao -> Prop), T s'.heap -> cQ X.K H vy (enc y) -> RelV vy uy -> cQ X.K H vz (enc z) -> RelV vz uz -> Q' (.bool (lt y z)) s' -> wpAny (model X.prog X.w) X.A.in1 (sS .Lt uy uz) Q' E' s') ->
        Q (enc (zs.foldl (fun m x => if lt x m = true then x else m) a)) G -> wpAny (model X.prog X.w) X.A (call (.builtin "min") [u]) (qN X pins σ H G Q) X.xe s := by
      intro α zs a enc lt T hi ht hT cmp hq;obtain⟨l, vs, bw, rfl, rv, rs, hl, hz⟩ := BN I ab ru r hi;have hlen : bw.length = zs.length + 1 := by rw [<-rv.length, rs.length, ai, ah]
      have lr : ∀ {o : Obj}, s.heap.get? l = some o -> l ≠ s.heap.objs.size := fun e => bI (aN e);have at_ : ∀ i uu, bw.toArray[i]? = some uu -> ∃ vv, RelV vv uu ∧ cQ X.K H vv (enc ((a :: zs).getD i a)) := fun i uu e => by
        have e' : bw[i]? = some uu := by simpa using e
        have Qd : i < bw.length := (List.getElem?_eq_some_iff.mp e').1;have hd : ((a :: zs).map enc)[i]? = some (enc ((a :: zs).getD i a)) := by
          rw [bP, aO];cases h9 : (a :: zs)[i]? with
          | none => rw [List.getElem?_eq_none_iff] at h9; simp at h9; lia
          | some z => rfl
        obtain⟨vv, h1, h2⟩ := rs.get hd;obtain⟨uu', h3, h4⟩ := rv.get h1;rw [e'] at h3;cases h3;exact⟨vv, h4, h2⟩
      have abk : ∀ i j p9 q9 s' (Q' : Value -> ao -> Prop) (E' : Value -> ao -> Prop), T s'.heap -> bw.toArray[i]? = some p9 -> bw.toArray[j]? = some q9 -> Q' (.bool (lt ((a :: zs).getD i a) ((a :: zs).getD j a))) s' -> wpAny (model X.prog X.w) X.A.in1 (sS .Lt p9 q9) Q' E' s' := fun i j p9 q9 s' Q' E' t' h1 h2 h3 => by
        obtain⟨v1, r1, d1⟩ := at_ i p9 h1;obtain⟨v2, r2, d2⟩ := at_ j q9 h2;exact cmp _ _ v1 v2 p9 q9 s' Q' E' t' d1 r1 d2 r2 h3
      have fin : ∀ vv h' tk, bw.toArray[sV (fun i j => lt ((a :: zs).getD i a) ((a :: zs).getD j a)) (bw.toArray.size - 1)]? = some vv -> (∀ b o, b ∉ [s.heap.objs.size] -> s.heap.get? b = some o -> h'.get? b = some o) -> qN X pins σ H G Q vv { s with heap := h', toks := tk } := fun vv h' tk e hk => by
        obtain⟨v1, r1, d1⟩ := at_ _ vv e;have es : bw.toArray.size - 1 = zs.length := by rw [aS]; lia
        rw [es, JG lt zs a (fun i => (a :: zs).getD i a) (fun i _ => rfl)] at d1;exact⟨v1, H, _, G, I.kept fun b o e => hk b o (by simpa using bI (aN e)) e, .refl ab, r1, d1, hq⟩
      have FV : 0 < bw.toArray.size := by rw [aS]; lia
      have hTp : ∀ (oo : Obj), T (s.heap.push oo) := fun oo => hT _ _ (s.heap.objs.size + 1) (lI _) ht fun b o hb _ e => aA _ e;have hT2 : ∀ (oo : Obj) (h h' : Heap) (B : Addr), (s.heap.push oo).objs.size ≤ B -> T h -> (∀ b o, b ∉ [s.heap.objs.size] -> b ≠ B -> h.get? b = some o -> h'.get? b = some o) -> T h' := fun oo h h' B hB t kk => hT h h' B (by rw [jB] at hB; exact Nat.le_of_succ_le hB) t fun b o hb hn e => kk b o (by simpa using bI hb) hn e;rcases hl with hl | hl
      · refine Ia (vV hl ?_)
        obtain⟨o, ho, C3, n, hd⟩ := id hl;exact⟨s.heap.objs.size, _, _, _, _, _, _, T, rfl, Walks.list (A := X.A.in1) (show X.A.in1.handled = none from I.ok.hd hc) _ l (lr ho) bw.toArray, ⟨⟨_, a5 _ rfl, rfl, rfl⟩, ⟨o, aA _ ho, C3, n, hd⟩⟩,
          fun b hb => by rcases (by simpa using hb : b = s.heap.objs.size ∨ b = l) with rfl | rfl
                         · rw [jB]; exact pT _
                         · rw [jB]; exact n6 (aN ho), FV, hTp _, hT2 _, abk, fun vv h' tk e hk => fin vv h' tk e fun b o hb e => hk b o hb (aA _ e)⟩
      · refine Ia (Hf hl ?_)
        obtain⟨o, ho, C3, n, hd⟩ := id hl;exact⟨s.heap.objs.size, _, _, _, _, _, _, T, rfl, Walks.tuple (A := X.A.in1) (show X.A.in1.handled = none from I.ok.hd hc) _ l (lr ho) bw.toArray, ⟨⟨_, a5 _ rfl, rfl, rfl⟩, ⟨o, aA _ ho, C3, n, hd⟩⟩,
          fun b hb => by rcases (by simpa using hb : b = s.heap.objs.size ∨ b = l) with rfl | rfl
                         · rw [jB]; exact pT _
                         · rw [jB]; exact n6 (aN ho), FV, hTp _, hT2 _, abk, fun vv h' tk e hk => fin vv h' tk e fun b o hb e => hk b o hb (aA _ e)⟩
    rcases q with ⟨ns, mm, hi, hm, q⟩ | ⟨nss, mm, hi, hm, q⟩
    · cases ns with
      | nil => cases hm
      | cons a zs =>
        cases hm;have e : (fun m x : Int => if x < m then x else m) = fun m x => if decide (x < m) = true then x else m := by funext m x; simp
        rw [e] at q;refine main zs a D.int (fun x y => decide (x < y)) (fun _ => True) hi trivial (fun _ _ _ _ _ _ => trivial) (fun y z vy vz uy uz s' Q' E' _ d1 r1 d2 r2 hq => ?_) q;cases d1;cases d2;obtain⟨t1, rfl⟩ := r1;obtain⟨t2, rfl⟩ := r2;exact HT.Bt X.A.in1 s' y t1 z t2 X.prog X.w E' Q' hq
    · cases nss with
      | nil => cases hm
      | cons a zs =>
        cases hm;have el : ∀ xs ys : List Int, HT.lexLt xs ys = K2.lexLt xs ys := by
          intro xs;induction xs with
          | nil => intro ys; cases ys <;> rfl
          | cons x xs ih => intro ys; cases ys with
            | nil => rfl
            | cons y ys => unfold HT.lexLt K2.lexLt; rw [ih]
        refine main zs a tI K2.lexLt (fun h => ∀ b o, b < s.heap.objs.size -> s.heap.get? b = some o -> h.get? b = some o) hi (fun b o _ e => e) (fun h h' B hB t kk b o hb e => kk b o hb (bI (bJ hb hB)) (t b o hb e)) (fun y z vy vz uy uz s' Q' E' t' d1 r1 d2 r2 hq => ?_) q;cases d1 with
        | tup h1 rs1 =>
          cases d2 with
          | tup h2 UR =>
            cases r1;cases r2;have z1 := rs1.ints;have z2 := UR.ints;subst z1 z2;obtain⟨aaw, rv1, ⟨o1, ho1, hc1, n1, hd1⟩, _⟩ := I.tuple (.of h1);obtain⟨yJ, Wh, ⟨o2, D6, FY, n2, hd2⟩, _⟩ := I.tuple (.of h2);have p1 : IsTup s'.heap _ aaw.toArray := ⟨o1, t' _ _ (aN ho1) ho1, hc1, n1, hd1⟩;have p2 : IsTup s'.heap _ yJ.toArray := ⟨o2, t' _ _ (aN D6) D6, FY, n2, hd2⟩;rw [<-el] at hq;have i1 : mR aaw.toArray.toList y := intsAre_of rv1;have i2 : mR yJ.toArray.toList z := intsAre_of Wh;exact(HT.BK p1 p2 i1 i2 (show X.A.units + 1 < cLine by lia) hq : wpAny (model X.prog X.w) X.A.in1 (dU .Lt _ _) Q' E' s')
  · exact q.elim
def acZ(scope sc:Scope):List (Str×uZ):=scope.names.map fun (n,k)=>if (k == .free&&sc.kind == .function&&sc.names.lookup n == some .cell) then (n,.cell) else (n,k)
def xK(N:List Str)(scope:Scope)(m:Nat)(fr:List Nat)(sc:Scope)(XN:List Str):Bool :=
 scope.names.all (fun y=>decide (y.2≠.cell))&&decide (scope.kind=.function)&&scope.names.all (fun y=>!decide (y.2=.local)||decide (scope.names.lookup y.1=some .local)) &&
 scope.names.all (fun y=>!decide (y.2=.free)||decide (sc.names.lookup y.1=some .cell))&&decide (N.length=m+fr.length) &&
 (cA fr.length).all (fun j=>match fr[j]?,N[m+j]? with
  | some i,some x=>decide (XN[i]?=some x)&&decide (sc.names.lookup x=some .cell)&&decide ((acZ scope sc).lookup x=some .cell)
  | _,_=>false)
theorem yX{sc:Scope}{XN:List Str}(Yb:X.env.scope=sc)(Yw:X.N=XN)(hb:xK N scope m fr sc XN=true):zc X N scope m fr:=by
 subst Yb Yw;unfold xK at hb;simp only [aI] at hb;obtain⟨⟨⟨⟨⟨h1,h2⟩,h3⟩,h4⟩,h5⟩,h6⟩:=hb;refine⟨fun y hy=>of_decide_eq_true (List.all_eq_true.mp h1 y hy),of_decide_eq_true h2,fun y hy hl=>?_,fun y hy hl=>?_,of_decide_eq_true h5,fun j i x e1 e2=>?_⟩
 ·have:=List.all_eq_true.mp h3 y hy;simp only [hl,decide_true,bM,CL] at this;exact of_decide_eq_true this
 ·have:=List.all_eq_true.mp h4 y hy;simp only [hl,decide_true,bM,CL] at this;exact of_decide_eq_true this
 ·have hj:j < fr.length:=(List.getElem?_eq_some_iff.mp e1).1;have:=List.all_eq_true.mp h6 j (List.mem_range.mpr hj);rw [e1,e2] at this;simp only [aI] at this;exact⟨of_decide_eq_true this.1.1,of_decide_eq_true this.1.2,of_decide_eq_true this.2⟩
theorem qp(N:List Str){sc:Scope}{XN:List Str}(hi:Qh X tg iter wi)(hg:∀ C s H fp,Oa (c7 X N scope C s H fp) tg g)(Sh:∀ C s H fp,V6 (c7 X N scope C s H fp) ifs c)(he:∀ C s H fp,gy (c7 X N scope C s H fp) elt te)
  (Yb:autoParam (X.env.scope=sc) Ar._auto_1) (Yw:autoParam (X.N=XN) Ar._auto_1) (hb:autoParam (xK N scope m fr sc XN=true) Ak._auto_1) (hc:autoParam (X.calm=true) Ar._auto_1) (hs:autoParam (∀ x,jm iter X.env x=pure x) Ai._auto_1):gy X (.ListComp elt [⟨tg,iter,ifs,0⟩] scope pos) (lg m fr wi g c te) :=
 OX hc (yX Yb Yw hb) hi hg Sh he hs
theorem Rj(N:List Str){sc:Scope}{XN:List Str}{i:Nat}{y:Str}{py QV:Pos}(hN:X.N.Nodup)(hyi:X.N[i]?=some y)(hy:X.env.scope.names.lookup y=some .local)(hi:Qh X tg iter wi)(hg:∀ C s H fp,Oa (c7 X N scope C s H fp) tg g)
  (Sh:∀ C s H fp,V6 (c7 X N scope C s H fp) ifs c) (he:∀ C s H fp,gy (c7 X N scope C s H fp) elt te) (Yb:autoParam (X.env.scope=sc) Ar._auto_1) (Yw:autoParam (X.N=XN) Ar._auto_1) (hb:autoParam (xK N scope m fr sc XN=true) Ak._auto_1) (hc:autoParam (X.calm=true) Ar._auto_1)
  (hsw:autoParam (qe (.ListComp elt [⟨tg,iter,ifs,0⟩] scope pos) (some (.Name y py)) QV.line X.env=pure true) Ar._auto_1) (hs:autoParam (∀ x,jm iter X.env x=pure x) Ai._auto_1) :
  Kb X (.Assign [.Name y py] (.ListComp elt [⟨tg,iter,ifs,0⟩] scope pos) QV) (cT (lg m fr wi g c te) (aT i)) :=
 HQ hN hyi hy hc (yX Yb Yw hb) hi hg Sh he hsw hs
theorem O8{K:ag}{H:Hp}{a:Addr}{ns:List Int}(hO:V8 H)(hS:y9 K H a (ns.map V.int))(hl:ns.length<=63):ft K DD [.ref a] H (fun v _=>v=.bl true) fun _ _ _=>False:=by
 have hF:Zm K H a (ns.map V.int):=by
  rcases hS with (h | ⟨o,h⟩) | h
  ·rcases hO a with z | ⟨o,xs,z⟩
   ·rw [z] at h; cases h
   ·rw [z] at h; cases h
  ·exact .inl ⟨o,h⟩
  ·exact .inr h
 refine⟨[.fH (ns.map D.int)],fun _=>none,fun d _=>d=.bl true,.cons (.fH hF (bc.FC ns)) .nil,fun a g e=>(by cases e),⟨ns,rfl,hl,fun _=>rfl,fun _=>rfl⟩,fun d G' v H' e mv r=>?_⟩;subst e;cases r;rfl
theorem RI{l:EG}{q:bx}{loose:List Str}{XP:(Str->Option Value)->Heap->Prop}{YP:World->Heap->Prop}{d:DefRec}{K:Params->ag}{k:Nat}{x:Str}(hn:l.most=some 63)(hdf:d.params.defaults=[])(hr:jI k Kn)
  (hY:∀ (w:World) (h:Heap),YP w h->(K w.params).In h)
  (F:∀ (w:World) (mg:Str->Option Value) (fa:Addr) (h:Heap),(K w.params).In h->h.Ns aP mg->mg d.name=some (.ref fa) ->
   ∃ fd:aH,(∀ (s:ao) (u:Value),BindsTo s fd ⟨[u],[]⟩ [(x,u)])/\∀ base:Heap,(K w.params).In base->base.Ns aP mg->fU l.prog w (K w.params) mg base ji k fa fd [x] (ft (K w.params) DD)) :
  PySem.W.WalkO q loose XP YP l.row.toRowW d [] (fun f vs=>MC f vs) :=
 L2.Ut (n:=63) (k:=k) (x:=x) (CX:=fun _=>ji) (sp:=fun w=>ft (K w.params) DD) hn (by decide) hdf hr hY F (fun _ _ _ _ hl hO hS=>O8 hO hS hl) fun _ _ _ _ _ z=>z
end
def Td:HO->Bool
 | .lst _=>true
 | .dK _=>true
 | .dT _=>true
 | .ext _=>true
 | _=>false
def rL(h:Heap)(S:Addr->Bool)(H:Hp):Hp:=fun a=>match H a with
 | some u=>if (Td u&&S a)=true then (match h.get? a with
  | some o=>some (.jw o u)
  | none=>some u) else some u
 | none=>none
section
variable {h:Heap} {S:Addr->Bool} {H:Hp} {a:Addr}
theorem LG(n:∀ u,H a=some u->Td u=false):rL h S H a=H a:=by
 unfold rL;cases e:H a with
 | none=>rfl
 | some u=>simp only [n u e,zZ,aw,if_false]
theorem B6(hs:S a=false):rL h S H a=H a:=by
 unfold rL;cases e:H a with
 | none=>rfl
 | some u=>simp only [hs,sO,aw,if_false]
theorem xu{u:HO}{o:Obj}(hs:S a=true)(e:H a=some u)(hu:Td u=true)(ho:h.get? a=some o):rL h S H a=some (.jw o u):=by
 unfold rL;simp only [e,hs,hu,Bool.and_self,if_true,ho]
theorem qB(e:H a=none):rL h S H a=none:=by unfold rL; rw [e]
theorem nI{u:HO}(e:H a=some u)(hu:Td u=false):rL h S H a=some u:=by rw [LG (fun v z=>by rw [e] at z; cases z; exact hu)]; exact e
theorem xt:Kp H (rL h S H):=⟨fun a xs e=>nI e rfl,fun a o u e=>nI e rfl⟩
end
section
variable {X:Cx} {pins:List (Addr×Obj)} {σ:L2.St} {H:Hp} {s:ao} {G:Gp}
theorem Inv.freeze(I : Inv X pins σ H s)(S : Addr -> Bool) : Inv X pins σ (rL s.heap S H) s where
  ok := I.ok
  os := I.os
  bare := I.bare
  base := { keep := I.base.keep, slot := I.base.slot, there := I.base.there
            free := fun b o q n hx => qB (I.base.free b o q n hx)
            pW := fun b xs q => nI (I.base.pW b xs q) rfl
            o3 := fun b o u q => nI (I.base.o3 b o u q) rfl
            sC := fun b ps q => nI (I.base.sC b ps q) rfl
            sG := fun b x q => nI (I.base.sG b x q) rfl }
  loc := I.loc
  cell := I.cell
  free := qB I.free
  i8 := fun x c e => qB (I.i8 x c e)
  pin := fun p hp => let ⟨h1, h2, h3⟩ := I.pin p hp; ⟨h1, qB h2, h3⟩
  cO := fun a o q => by
    have st : ∀ u, H a = some u -> gu X.prog X.w (rL s.heap S H) s.heap a u := fun u e =>
      (I.cO a u e).jo (fun b v _ r => r) (fun b r => nI r rfl) (fun b xs r => nI r rfl)
    cases e : H a with
    | none => rw [qB e] at q; cases q
    | some u =>
      by_cases hc : Td u = true
      · by_cases hs : S a = true
        · obtain⟨ob, ho⟩ := nV (I.cO a _ e)
          rw [xu hs e hc ho] at q;cases q;exact⟨ho, st _ e⟩
        · rw [B6 (by simpa using hs), e] at q
          cases q;exact st _ e
      · rw [nI e (by simpa using hc)] at q
        cases q;exact st _ e
  len := I.len
def sf(R:Nat->Bool)(G:Gp):Addr->Bool:=fun a=>R a&&(G a).isSome
theorem Po(I:Inv X pins σ H s)(ab:lW X.K H G)(R:Nat->Bool):Mv X.K H G (rL s.heap (sf R G) H) (Df R G) where
 keep:=fun a o e n=>by
  refine⟨by rw [B6 (by simp [sf,n])]; exact e,?_⟩;unfold Df; split
  ·rfl
  ·exact n
 jo:=fun a n=>by
  cases q:G a with
  | none=>exact absurd q n
  | some g =>
   have t:=(ab a g q).tracked;cases e:H a with
   | none=>exact absurd e t
   | some u =>
    unfold rL;rw [e];dsimp only;split
    ·split <;> simp
    ·simp
 ab:=fun a g e=>by
  unfold Df at e;split at e
  ·cases e
  ·rename_i hr;exact(ab a g e).mono xt (B6 (by simp [sf,hr]))
theorem YA(I:Inv X pins σ H s)(ab:lW X.K H G){R:Nat->Bool}:∀ {d t:D} {v:V},Fz G R d t->cQ X.K H v d->cQ X.K (rL s.heap (sf R G) H) v t:=by
 intro d t v h;revert v;refine Fz.rec (motive_1:=fun d t _=>∀ {v:V},cQ X.K H v d->cQ X.K (rL s.heap (sf R G) H) v t)
  (motive_2:=fun ds ts _=>∀ {vs:List V},bc X.K H vs ds->bc X.K (rL s.heap (sf R G) H) vs ts)
  (motive_3:=fun ds ts _=>(∀ {vs:List (Key×V)},qR X.K H vs ds->qR X.K (rL s.heap (sf R G) H) vs ts)/\∀ {vs:List (List Key×V)},r0 X.K H vs ds->r0 X.K (rL s.heap (sf R G) H) vs ts)
  ?_ ?_ ?_ ?_ ?_ ?_ ?_ ?_ ?_ ?_ h
 ·intro d v r; exact r.mono xt
 ·intro ds ss _ ih v r;cases r with
  | tup h rs=>exact .tup (xt.tup _ _ h) (ih rs)
 ·intro ds ss _ ih v r;cases r with
  | fH h rs=>exact .fH (xt.Y7 h) (ih rs)
 ·intro a ds ss g hr _ ih v r;cases r;obtain⟨vs,hv,rs⟩:=ab a _ g;obtain⟨ob,ho⟩:=nV (I.cO a _ hv);exact .fH (.inl ⟨_,xu (by simp [sf,hr,g]) hv rfl ho⟩) (ih rs)
 ·intro a ds ss g hr _ ih v r;cases r;rcases ab a _ g with ⟨kv,hv,rs⟩ | ⟨kv,hv,rs⟩
  ·obtain⟨ob,ho⟩:=nV (I.cO a _ hv);exact .uO (xu (by simp [sf,hr,g]) hv rfl ho) (ih.1 rs)
  ·obtain⟨ob,ho⟩:=nV (I.cO a _ hv);exact .uN (xu (by simp [sf,hr,g]) hv rfl ho) (ih.2 rs)
 ·intro a bo Wx g hr _ ek ih v r;cases r;obtain⟨xs,ks,vs,hv,rel,r1,r2⟩:=ab a _ g;obtain⟨ob,ho⟩:=nV (I.cO a _ hv);have e2:(Wx.map fun p=>Z2 p.1)=bo.map fun p=>Z2 p.1:=by
   have:=congrArg (List.map Z2) ek;rw [eD,eD] at this;exact this.symm
  exact .DM (xu (by simp [sf,hr,g]) hv rfl ho) ⟨ek.symm.trans rel.1,rel.2⟩ (by rw [e2]; exact r1.mono xt) (ih r2)
 ·intro vs r; cases r; exact .nil
 ·intro d s ds ss _ _ i1 i2 vs r;cases r with
  | cons r rs=>exact .cons (i1 r) (i2 rs)
 ·exact⟨fun r=>by cases r; exact .nil,fun r=>by cases r; exact .nil⟩
 ·intro k d s ds ss _ _ i1 i2;exact⟨fun r=>by cases r with | cons r rs=>exact .cons (i1 r) (i2.1 rs),fun r=>by cases r with | cons r rs=>exact .cons (i1 r) (i2.2 rs)⟩
variable {e:Expr} {te:fM} {st:Stmt} {t:i5}
theorem bW(he:gy X e te):gy X e (fF te):=by
 intro E pins s σ H τ G Q hE I h;refine gK (he E pins s σ H τ G _ hE I h) ?_;rintro u s1 ⟨v,H1,d,G1,I1,m,r,rd,R,t,hf,q⟩;exact⟨v,_,t,_,Inv.freeze I1 _,m.trans (Po I1 m.ab R),r,YA I1 m.ab hf rd,q⟩
end
theorem gW:dW "len" = some (.builtin "len"):=by decide +kernel
theorem YS:dW "min" = some (.builtin "min"):=by decide +kernel
theorem YT:dW "max" = some (.builtin "max"):=by decide +kernel
theorem Tn:dW "all" = some (.builtin "all"):=by decide +kernel
theorem Em:dW "sorted" = some (.builtin "sorted"):=by decide +kernel
theorem N0:dW "list" = some (.type "list"):=by decide +kernel
theorem Th:dW "tuple" = some (.type "tuple"):=by decide +kernel
theorem Tj:dW "int" = some (.type "int"):=by decide +kernel
theorem V1:dW "bool" = some (.type "bool"):=by decide +kernel
theorem Ti:dW "str" = some (.type "str"):=by decide +kernel
section
variable {X:Cx} {a b c e o:Expr} {es:List Expr} {ta tb tc te to:fM} {t:AA} {pos p p2 apos Cn:Pos} {x name:Str} {id T:String} {k:Nat} {f:Addr} {fd:aH} {ps:List Str} {sp:nR}
theorem cB(F:fU X.prog X.w X.K X.mg X.base ji k f fd ps (ft X.K sp))(hr:jI k X.A)(hg:Gl X x)(hm:X.mg x=some (.ref f))(hk:kD X.K (.ref f)=true)(hb:Binds X.K fd ps [])
  (ha:GN X (e :: es) t) (Ag:autoParam ((x == ("__debug__" : Str))=false) Ad._auto_1) (he:autoParam (bB (e :: es) X.env=(false,eval e X.env) :: bB es X.env) Ar._auto_1) (yc:autoParam ((i6 pos (bB es X.env)).any (·.1)=false) Ar._auto_1) :
  gy X (.Call (.Name x p) (e :: es) [] pos) (cZ sp t):=Ru F hr hg hm hk hb ha Ag he yc
end
end K2
end
section
namespace L2
open PySem PySem.Spec PyProof.Rows
section
variable {X:Cx} {pins:List (Addr×Obj)} {σ:St} {H:Hp} {s:ao} {h':Heap}
theorem Inv.MK{t':Nat}{fp:List Addr}(I:Inv X pins σ H s)(hf:∀ b∈fp,o8 X pins H b)(k:∀ b o,b∉fp->s.heap.get? b=some o->h'.get? b=some o):Inv X pins σ H { s with heap:=h',toks:=t' }:=by
 have nt:∀ b u,H b=some u->b∉fp:=fun b u e z=>by rw [(hf b z).1] at e; cases e
 refine I.step (g':=s.gens) (d':=s.drawn) (ch:=fp) (fun b hb=>?_) (fun b o _ _ hc e _=>k b o hc e) (fun b o _ _ hc e _=>⟨o.slots,k b o hc e⟩) (fun _ _ _ _ n=>n)
  (fun b o hc e=>⟨o,k b o hc e⟩) (fun _ _ e=>e) (fun _ _ _ e=>e) (fun _ _ e=>e) (fun _ _ e=>e) (fun m hm=>?_) (fun b u e=>?_) I.bare
 ·obtain⟨f0,f1,f2,f3,f4,f5⟩:=hf b hb;exact⟨f3,f1,f4,f5⟩
 ·obtain⟨o,es,ep,ho,r⟩:=hm;exact⟨o,es,ep,k _ _ (fun z=>(hf _ z).2.1 rfl) ho,r⟩
 ·refine(I.cO b u e).jo (fun c v hc r=>k c v ?_ r) (fun _ z=>z) (fun _ _ z=>z);rcases hc with rfl | hc
  ·exact nt _ _ e
  ·exact nt _ _ hc
theorem Inv.Ux{t':Nat}{fp:List Addr}{T:Addr}{vs:List V}(I:Inv X pins σ H s)(hf:∀ b∈fp,o8 X pins H b)(k:∀ b o,b∉fp->s.heap.get? b=some o->h'.get? b=some o)(hT:s.heap.objs.size<=T)
  (new:gu X.prog X.w (upd H T (.tup vs)) h' T (.tup vs)):Inv X pins σ (upd H T (.tup vs)) { s with heap:=h',toks:=t' }:=by
 have hn:H T=none:=I.cO.fresh hT;have ht:∀ b o,s.heap.get? b=some o->b≠T:=fun b o e z=>by subst z; exact absurd (aN e) (Nat.not_lt.mpr hT)
 have nt:∀ b u,H b=some u->b∉fp:=fun b u e z=>by rw [(hf b z).1] at e; cases e
 have ne:∀ b u,H b=some u->b≠T:=fun b u e=>ff e hn;refine I.step (g':=s.gens) (d':=s.drawn) (ch:=fp) (fun b hb=>?_) (fun b o _ _ hc e _=>k b o hc e) (fun b o _ _ hc e _=>⟨o.slots,k b o hc e⟩) (fun b o _ e n=>by rw [br (ht b o e)]; exact n)
  (fun b o hc e=>⟨o,k b o hc e⟩) (fun b xs e=>by rw [br (ne _ _ e)]; exact e) (fun b o u e=>by rw [br (ne _ _ e)]; exact e) (fun b ps e=>by rw [br (ne _ _ e)]; exact e) (fun b ps e=>by rw [br (ne _ _ e)]; exact e) (fun m hm=>?_) (fun b u e=>?_) I.bare
 ·obtain⟨f0,f1,f2,f3,f4,f5⟩:=hf b hb;exact⟨f3,f1,f4,f5⟩
 ·obtain⟨o,es,ep,ho,r⟩:=hm;exact⟨o,es,ep,k _ _ (fun z=>(hf _ z).2.1 rfl) ho,r⟩
 ·by_cases hb:b=T
  ·subst hb; rw [cP] at e; cases e; exact new
  ·rw [br hb] at e;refine(I.cO b u e).jo (fun c v hc r=>k c v ?_ r) (fun c z=>by rw [br (ne _ _ z)]; exact z) (fun c xs z=>by rw [br (ne _ _ z)]; exact z);rcases hc with rfl | hc
   ·exact nt _ _ e
   ·exact nt _ _ hc
theorem o8.upd{b T:Addr}{o:HO}(h:o8 X pins H b)(hb:b≠T):o8 X pins (L2.upd H T o) b:=by
 obtain⟨f0,r⟩:=h;exact⟨by rw [br hb]; exact f0,r⟩
end
def Ite(K:ag)(a:Addr):It :=
  ⟨fun i H=>∃ xs x,y9 K H a xs/\xs[i]?=some x,
   fun i H v H'=>∃ T y,v=.ref T/\H T=none/\H'=upd H T (.tup [.int i,y])/\∀ xs,y9 K H a xs->xs[i]?=some y,
   fun i H=>∃ xs,y9 K H a xs/\xs.length<=i⟩
theorem OD{P:bx}{w:World}{K:ag}{elts:List Expr}{kk:Nat}{pos:Pos}(a e it:Addr)(lr:e≠it) :
  Turn P w K (.Tuple elts kk pos) (Ite K a) [e,it] e (fun i h=>(∃ old,IsEnum h e it i old)/\h.IsListIter it a i) where
 mem:=by simp
 obj:=fun i h D5 b hb=>by
  obtain⟨⟨old,he⟩,hit⟩:=D5;rcases List.mem_cons.mp hb with rfl | hb
  ·exact⟨_,he,fun v z=>by cases z⟩
  ·have e:b=it:=by simpa using hb
   subst e;obtain⟨o,e,c,d⟩:=hit;exact⟨o,e,fun v z=>by rw [d] at z; cases z⟩
 keep:=(by rintro i h h' ⟨⟨old,he⟩,hit⟩ k; exact⟨⟨old,k e (by simp) _ he⟩,hit.at fun o q=>k it (by simp) o q⟩)
 item:=by
  intro X hP hw hK hc i pins s σ H E I hf st hg;obtain⟨⟨old,he⟩,hit⟩:=st;subst hP hw hK;obtain⟨xs,x,hq,hx⟩:=hg;obtain⟨bw,rv,p,hz⟩:=I.list hq;obtain⟨u,hu,ru⟩:=rv.get hx;have hTn:H s.heap.objs.size=none:=I.cO.fresh (aK _);have heT:e≠s.heap.objs.size:=bI (aN he);have hiT:it≠s.heap.objs.size:=by obtain⟨o,q,_⟩:=hit; exact bI (aN q)
  refine wpAny_pyNext_enum_item he hit p.isList (x:=u) (by simpa using hu) lr fun h' ho aer hT hsz kk=>?_;refine⟨_,rfl,?_⟩;have I1:Inv X pins σ (upd H s.heap.objs.size (.tup [.int i,x])) { s with heap:=h',toks:=s.toks+1 } :=
   I.Ux (fp:=[e,it]) hf (fun b o hb q=>kk b o (fun z=>hb (by simp [z])) (fun z=>hb (by simp [z])) q) (aK _)
    ⟨by show 2<=bg; decide,[.int i s.toks,u],.cons ⟨_,rfl⟩ (.cons ru .nil),⟨_,hT,rfl,_,rfl⟩⟩
  refine wpAny_letOwnedTupleGo_enum (s:={ s with heap:=h',toks:=s.toks+1 }) ho fun h2 Yn VA=>?_;have f1:∀ b∈[e,it],o8 X pins (upd H s.heap.objs.size (.tup [.int i,x])) b:=fun b hb=>(hf b hb).upd (by
   rcases List.mem_cons.mp hb with rfl | hb
   ·exact heT
   ·rw [List.mem_singleton.mp hb]; exact hiT)
  have I2:Inv X pins σ (upd H s.heap.objs.size (.tup [.int i,x])) { s with heap:=h2,toks:=s.toks+1 } :=
   Inv.MK (s:={ s with heap:=h',toks:=s.toks+1 }) (t':=s.toks+1) (fp:=[e,it]) I1 f1 fun b o hb q=>(VA.2 b (fun z=>hb (by simp [z]))).trans q
  refine⟨.ref s.heap.objs.size,_,I2,rfl,⟨_,x,rfl,hTn,rfl,fun ys hy=>by rw [I.Im hy hq]; exact hx⟩,⟨⟨u,?_⟩,?_⟩,fun b hb=>(f1 b hb).1⟩
  ·simpa using Yn
  ·exact aer.at fun o q=>(VA.2 it (jz lr)).trans q
 done:=by
  intro X hP hw hK hc i pins s σ H E I hf st hg;obtain⟨⟨old,he⟩,hit⟩:=st;subst hP hw hK;obtain⟨xs,hq,hx⟩:=hg;obtain⟨bw,rv,p,hz⟩:=I.list hq;have hl:=rv.length;refine wpAny_pyNext_enum_end (I.ok.hd hc) he hit p.isList (by simp; lia) fun h' eb=>⟨rfl,?_⟩;exact I.MK (t':=s.toks) (fp:=[e,it]) hf fun b o hb q=>eb b o (fun z=>hb (by simp [z])) q
 self:=(by rintro A i s Q E ⟨⟨old,he⟩,_⟩ h; exact wpAny_pyIter_enum he h)
end L2
namespace K2
open PySem PySem.Spec PyProof.Rows L2
section
variable {X:Cx} {elts:List Expr} {kk:Nat} {ZH:Pos} {a b:Expr} {ta tb:fM} {pos p:Pos}
theorem NJ{pins:List (Addr×Obj)}{σ:L2.St}{H H1:Hp}{G G1:Gp}{s1:ao}{l:Addr}{vs:List V}{ds:List D}{ok:Gp->Prop}{R:List D->(Gp->Prop)->Gp->Prop}(I1:Inv X pins σ H1 s1)(m:Mv X.K H G H1 G1)(hq:y9 X.K H1 l vs)
  (hk:∀ H2 G2,Kp H1 H2->lW X.K H2 G2->ok G2->∃ ws,y9 X.K H2 l ws/\bc X.K H2 ws ds) (q:R (oG 0 ds) ok G1) :
  wpAny (model X.prog X.w) X.A (call (.type "enumerate") [.ref l]) (fun v s2=>wpAny (model X.prog X.w) X.A (Du v) (Mu X pins σ (.Tuple elts kk ZH) H G R) X.xe s2) X.xe s1:=by
 obtain⟨bw,rv,pl,hz⟩:=I1.list hq;refine call_enumerate_list pl.isList fun h' he hit hsz kp=>?_;refine wpAny_pyIter_enum he ?_;refine⟨_,[s1.heap.objs.size+1,s1.heap.objs.size],_,_,H1,G1,oG 0 ds,ok,rfl,I1.kept (t':=s1.toks) kp,m,OD l _ _ (Nat.succ_ne_self _),⟨⟨_,he⟩,hit⟩,fun b hb=>?_,fun i H2 G2 k ab o=>?_,q⟩
 ·have B5:s1.heap.objs.size<=b:=by
   rcases List.mem_cons.mp hb with rfl | hb
   ·lia
   ·rw [List.mem_singleton.mp hb]; exact aK _
  exact I1.LH B5 (I1.cO.fresh B5)
 ·obtain⟨ws,hw,rd⟩:=hk H2 G2 k ab o;refine⟨fun d hd=>?_,fun hl=>⟨ws,hw,by rw [rd.length,<-nY ds 0]; exact hl⟩⟩;rw [yP] at hd;cases hdi:ds[i]? with
  | none=>rw [hdi] at hd; cases hd
  | some d' =>
   rw [hdi] at hd;obtain⟨v,hv,r⟩:=rd.get hdi;refine⟨⟨ws,v,hw,hv⟩,?_⟩;rintro x H3 ⟨T,y,ex,hT,e3,hy⟩;subst ex e3;have:=hy ws hw;rw [hv] at this;cases this;have ed:D.tup [.int ((0+i:Nat):Int),d']=d:=by simpa using hd
   subst ed;refine⟨.tup cP (.cons (by rw [yj]; exact .int _) (.cons (r.mono (.new hT)) .nil)),.Sj ab hT⟩
theorem GH:dW "enumerate" = some (.type "enumerate"):=by decide +kernel
theorem Bw (hg:Gl X "enumerate") (hm:X.mg "enumerate" = none) (ha:gy X a ta) (hs:autoParam (bB [a] X.env=[(false,eval a X.env)]) Ar._auto_1):Qh X (.Tuple elts kk ZH) (.Call (.Name "enumerate" p) [a] [] pos) (D4 ta):=by
 intro E pins s σ H τ G R hE I h;have hA:GN X [a] (az ta aU):=ak ha aG hs;refine Call_ (oC I.inv hg hm GH (jg (Bf hA pos hE I (R:=ac9 fun x G1=>rH x G1 R) h fun vs H1 ds G1 us s1 I1 m1 r1 kg q1=>?_) hs rfl))
 match ds,q1 with
 | [x],q1 =>
  change rH x G1 R at q1;obtain⟨w,rfl,Bp⟩:=kg.one;obtain⟨u,rfl,ru⟩:=r1.one;cases Bp with
  | fH hq rs=>cases ru; exact NJ I1.inv m1 hq.sq (fun H2 G2 k ab _=>⟨_,(k.Y7 hq).sq,rs.mono k⟩) q1
  | ref p =>
   cases ru;unfold rH at q1;dsimp only at q1;split at q1
   ·rename_i ds e;obtain⟨vs,hv,rs⟩:=I1.ab.lst e;refine NJ I1.inv m1 (.of hv) (fun H2 G2 k ab o=>?_) q1;obtain⟨ws,hw,wF⟩:=ab.lst o;exact⟨ws,.of hw,wF⟩
   ·exact q1.elim
  | tup _ _=>exact q1.elim
  | uO _ _=>exact q1.elim
  | uN _ _=>exact q1.elim
  | cR=>exact q1.elim
  | bl _=>exact q1.elim
  | int _=>exact q1.elim
  | str _=>exact q1.elim
  | exc _=>exact q1.elim
  | ye _ _=>exact q1.elim
  | DM _ _ _ _=>exact q1.elim
 | [],q1=>exact q1.elim
 | _ :: _ :: _,q1=>exact q1.elim
end
end K2
end
section
namespace K2
open PySem PySem.Spec PyProof.Rows L2
section
variable {X:Cx} {o i a b:Expr} {to ti ta tb:fM} {pos p:Pos}
theorem M9(hu:X.A.units+64 < cLine)(ho:gy X o to)(hi:gy X i ti)
  (ha:autoParam (∀ v,Qs (.Subscript o i pos) X.env v=(do
   let ov ← Km [v] (eval o X.env)
   let iv ← Km [v,ov] (eval i X.env)
   standAt pos
   Km [v,ov,iv] (setItem ov iv v)
   release [v,ov,iv] [])) Ai._auto_1):Oa X (.Subscript o i pos) (SA to ti):=by
 intro E pins s σ H τ G w d u Q hE I r rd h;rw [ha];refine ae (du (jC ho hE I h fun x H1 dx G1 ov s1 I1 m1 r1 kg q1=>?_));refine ae (du (jC hi hE I1 q1 fun y H2 dy G2 iv s2 jA m2 r2 Fn q2=>?_));refine ae (yg (ae (du ?_)));have m12:=m1.trans m2;have Qa:=rd.mono (m12.kp I.ab);have AH:=I.st.mono (m12.kp I.ab);have rx':=kg.mono (m2.kp I1.ab);unfold MU at q2;split at q2
 ·rename_i l;cases rx';cases r1;split at q2
  ·rename_i xs hg;obtain⟨vs,hv,rs⟩:=jA.ab.lst hg;split at q2
   ·rename_i k;cases Fn;split at q2
    ·rename_i j hj;have m3:Mv X.K H2 G2 (upd H2 l (.lst (vs.set j w))) (dE G2 l (.lst (xs.set j d))):=.putL jA.ab hg hv (rs.set Qa j);refine gK (set_list pins s2 σ H2 (.ref l) (.int k) w _ _ _ (fun H3=>H3=upd H2 l (.lst (vs.set j w))) jA.inv rfl r2 r ⟨l,vs,k,j,rfl,rfl,hv,?_,rfl⟩) ?_
     ·rw [rs.length]; exact hj
     ·rintro _ s3 ⟨H3,I3,e3⟩;subst e3;exact wpAny_release ⟨σ,_,τ,_,⟨I3,AH.mono (m3.kp jA.ab),m3.ab⟩,m12.trans m3,q2⟩
    ·exact q2.elim
   ·exact q2.elim
  ·rename_i bo hg;obtain⟨hk,hz,q⟩:=q2;obtain⟨H3,H4,I3,dp,m3⟩:=S3 jA.inv jA.ab hg hk hz Fn Qa;exact Px (by lia) I3 dp r2 r fun s4 I4=>wpAny_release ⟨σ,H4,τ,_,⟨I4,AH.mono (m3.kp jA.ab),m3.ab⟩,m12.trans m3,q⟩
  ·exact q2.elim
 ·exact q2.elim
end
end K2
end
section
namespace K2
open PySem PySem.W PyProof.Rows
def iY{α:Type}(lt:Nat->Nat->Bool):KasT α->α
 | .ret a=>a
 | .ask i j k=>iY lt (k (lt i j))
theorem nT{α β:Type}(lt:Nat->Nat->Bool)(f:α->KasT β):∀ t:KasT α,iY lt (t.bind f)=iY lt (f (iY lt t))
 | .ret _=>rfl
 | .ask i j k=>nT lt f (k (lt i j))
abbrev gA(p:Array Nat)(k:Nat):Nat:=p.getD k 0
theorem Ea(p:Array Nat)(k:Nat):gA p k=(p[k]?).getD 0:=by
 unfold gA; rw [bb]
structure N8(lt:Nat->Nat->Bool):Prop where
 asymm:∀ i j,lt i j=true->lt j i=false
 trans:∀ i j k,lt j i=false->lt k j=false->lt k i=false
theorem N8.refl{lt:Nat->Nat->Bool}(w:N8 lt)(i:Nat):lt i i=false:=by
 cases h:lt i i with
 | false=>rfl
 | true=>rw [w.asymm _ _ h] at h; cases h
def Up(lt:Nat->Nat->Bool)(p:Array Nat)(m:Nat):Prop:=∀ i j,i<=j->j < m->lt (gA p j) (gA p i)=false
def Dn(lt:Nat->Nat->Bool)(p:Array Nat)(m:Nat):Prop:=∀ i j,i<=j->j < m->lt (gA p i) (gA p j)=false
section
variable {lt:Nat->Nat->Bool}
theorem Up.more(w:N8 lt){p:Array Nat}{n m:Nat}(h1:1<=n)(h:Up lt p n)(hs:∀ k,n<=k->k < m->lt (gA p k) (gA p (k - 1))=false):Up lt p m:=by
 intro i j ND hjm;induction j with
 | zero =>
  have:i=0:=by lia
  subst this; exact w.refl _
 | succ j ih =>
  by_cases hj:j+1 < n
  ·exact h i (j+1) ND hj
  ·by_cases e:i=j+1
   ·subst e; exact w.refl _
   ·have h1:=ih (by lia) (by lia);have h2:=hs (j+1) (by lia) hjm;exact w.trans _ _ _ h1 h2
theorem MV(p:Array Nat):∀ (f n:Nat),n<=iY lt (sU p f n)/\iY lt (sU p f n)<=n+f/\(∀ k,n<=k->k < iY lt (sU p f n)->lt (gA p k) (gA p (k - 1))=false) /\
  (iY lt (sU p f n) < n+f->lt (gA p (iY lt (sU p f n))) (gA p (iY lt (sU p f n) - 1))=true):=by
 intro f;induction f with
 | zero=>intro n; exact⟨aK _,aK _,fun k h1 h2=>absurd (show k < n from h2) (by lia),fun h=>absurd (show n < n+0 from h) (by lia)⟩
 | succ f ih =>
  intro n;have e:iY lt (sU p (f+1) n)=if lt (gA p n) (gA p (n - 1))=true then n else iY lt (sU p f (n+1)):=by
   show iY lt (if lt (gA p n) (gA p (n - 1))=true then yk n else sU p f (n+1))=_;split <;> rfl
  rw [e];by_cases c:lt (gA p n) (gA p (n - 1))=true
  ·rw [if_pos c];exact⟨aK _,by lia,fun k h1 h2=>absurd h2 (by lia),fun _=>c⟩
  ·rw [if_neg c];obtain⟨h1,h2,h3,h4⟩:=ih (n+1);refine⟨by lia,by lia,fun k k1 k2=>?_,fun h=>h4 (by lia)⟩;by_cases e:k=n
   ·subst e; simpa using c
   ·exact h3 k (by lia) k2
theorem iV{p:Array Nat}{i j:Nat}(hj:j<=p.size)(k:Nat):gA (iq p i j) k=if i<=k/\k < j then gA p (i+j - 1 - k) else gA p k:=by
 rw [Ea,iq,getElem?_mirror_all hj];split <;> rw [Ea]
theorem oh(p:Array Nat)(i j:Nat):(iq p i j).size=p.size:=mirror_size _ _ _ _
theorem kP(p:Array Nat)(i j:Nat):(iq p i j).Perm p:=mirror_perm _ _ _ _
theorem Dn.rev{p:Array Nat}{a n:Nat}(w:N8 lt)(hn:n<=p.size)(h:Dn lt p n)(he:∀ k,a<=k->k < n->lt (gA p (n - 1)) (gA p k)=false):Dn lt (iq p a n) n:=by
 intro i j ND hjn;rw [iV hn,iV hn];by_cases hi:a<=i
 ·rw [if_pos ⟨hi,by lia⟩,if_pos ⟨by lia,hjn⟩];exact w.trans _ _ _ (he (a+n - 1 - j) (by lia) (by lia)) (h (a+n - 1 - i) (n - 1) (by lia) (by lia))
 ·rw [if_neg (by lia)];by_cases hj:a<=j
  ·rw [if_pos ⟨hj,hjn⟩];exact h i (a+n - 1 - j) (by lia) (by lia)
  ·rw [if_neg (by lia)];exact h i j ND hjn
def Eqs(lt:Nat->Nat->Bool)(p:Array Nat)(n q:Nat):Prop:=q+1<=n/\∀ k,n - (q+1)<=k->k < n->lt (gA p (n - 1)) (gA p k)=false
theorem Dn.one(w:N8 lt){p:Array Nat}{n:Nat}(h1:1<=n)(h:Dn lt p n)(hc:lt (gA p (n - 1)) (gA p n)=false):Dn lt p (n+1):=by
 intro i j ND hj;by_cases e:j=n
 ·subst e;by_cases e2:i=j
  ·subst e2; exact w.refl _
  ·exact w.trans _ _ _ hc (h i (j - 1) (by lia) (by lia))
 ·exact h i j ND (by lia)
theorem Q5(w:N8 lt):∀ (f:Nat) (p:Array Nat) (n q:Nat),n+f<=p.size->Dn lt p n->Eqs lt p n q->∃ p' n' q',iY lt (mH f p n q)=(p',n',q')/\p'.Perm p/\p'.size=p.size/\n<=n'/\n'<=n+f/\Dn lt p' n'/\Eqs lt p' n' q':=by
 intro f;induction f with
 | zero=>intro p n q _ hd he; exact⟨p,n,q,rfl,oS _,rfl,aK _,aK _,hd,he⟩
 | succ f ih =>
  intro p n q hs hd he;have h1:1<=n:=by have:=he.1; lia
  have e:iY lt (mH (f+1) p n q)=if lt (gA p n) (gA p (n - 1))=true then (if q > 0 then iY lt (mH f (iq p (n - (q+1)) n) (n+1) 0) else iY lt (mH f p (n+1) 0))
    else if lt (gA p (n - 1)) (gA p n)=true then (p,n,q) else iY lt (mH f p (n+1) (q+1)):=by
   show iY lt (if lt (gA p n) (gA p (n - 1))=true then (if q > 0 then mH f (iq p (n - (q+1)) n) (n+1) 0 else mH f p (n+1) 0) else .ask (gA p (n - 1)) (gA p n) fun d=>if d=true then .ret (p,n,q) else mH f p (n+1) (q+1))=_;split
   ·split <;> rfl
   ·show iY lt (if lt (gA p (n - 1)) (gA p n)=true then yk (p,n,q) else mH f p (n+1) (q+1))=_;split <;> rfl
  rw [e];by_cases c:lt (gA p n) (gA p (n - 1))=true
  ·rw [if_pos c];have ca:=w.asymm _ _ c;by_cases hq:q > 0
   ·rw [if_pos hq];have d1:Dn lt (iq p (n - (q+1)) n) n:=hd.rev w (by lia) he.2;have en:gA (iq p (n - (q+1)) n) n=gA p n:=by rw [iV (by lia),if_neg (by lia)]
    have ca':lt (gA (iq p (n - (q+1)) n) (n - 1)) (gA (iq p (n - (q+1)) n) n)=false:=by
     rw [en,iV (by lia)];split
     ·-- an item of the abC is above p n
      exact w.trans _ _ _ ca (hd _ (n - 1) (by lia) (by lia))
     ·exact ca
    obtain⟨p',n',q',z,h2,h3,h4,h5,h6,h7⟩:=ih (iq p (n - (q+1)) n) (n+1) 0 (by rw [oh]; lia) (d1.one w h1 ca') ⟨by lia,fun k k1 k2=>by
     have:k=n:=by lia
     subst this; exact w.refl _⟩
    exact⟨p',n',q',z,h2.trans (kP _ _ _),h3.trans (oh _ _ _),by lia,by lia,h6,h7⟩
   ·rw [if_neg hq];obtain⟨p',n',q',z,h2,h3,h4,h5,h6,h7⟩:=ih p (n+1) 0 (by lia) (hd.one w h1 ca) ⟨by lia,fun k k1 k2=>by
     have:k=n:=by lia
     subst this; exact w.refl _⟩
    exact⟨p',n',q',z,h2,h3,by lia,by lia,h6,h7⟩
  ·rw [if_neg c];have c':lt (gA p n) (gA p (n - 1))=false:=by simpa using c
   by_cases d:lt (gA p (n - 1)) (gA p n)=true
   ·rw [if_pos d];exact⟨p,n,q,rfl,oS _,rfl,aK _,by lia,hd,he⟩
   ·rw [if_neg d];have d':lt (gA p (n - 1)) (gA p n)=false:=by simpa using d
    obtain⟨p',n',q',z,h2,h3,h4,h5,h6,h7⟩:=ih p (n+1) (q+1) (by lia) (hd.one w h1 d') ⟨by have:=he.1; lia,fun k k1 k2=>by
     rw [Nat.add_sub_cancel];by_cases e:k=n
     ·subst e; exact w.refl _
     ·exact w.trans _ _ _ (he.2 k (by lia) (by lia)) c'⟩
    exact⟨p',n',q',z,h2,h3,by lia,by lia,h6,h7⟩
theorem Dn.up{p:Array Nat}{n:Nat}(hn:n<=p.size)(h:Dn lt p n):Up lt (iq p 0 n) n:=by
 intro i j ND hjn;rw [iV hn,iV hn,if_pos ⟨by lia,hjn⟩,if_pos ⟨by lia,by lia⟩];exact h _ _ (by lia) (by lia)
theorem HC(w:N8 lt){p:Array Nat}{n nrem:Nat}(h1:1<=n)(hn:n<=nrem)(hs:nrem<=p.size)(h:Dn lt p n):∃ p' m,iY lt (Qn n nrem p)=(m,p')/\p'.Perm p/\p'.size=p.size/\n<=m/\m<=nrem/\Up lt p' m:=by
 obtain⟨a1,a2,a3,_⟩:=MV (lt:=lt) (iq p 0 n) (nrem - n) n;refine⟨iq p 0 n,iY lt (sU (iq p 0 n) (nrem - n) n),by rw [Qn,nT]; rfl,kP _ _ _,oh _ _ _,a1,by lia,?_⟩;exact(h.up (by lia)).more w h1 a3
theorem wH(w:N8 lt){p:Array Nat}{n nrem:Nat}(h1:1<=n)(hn:n < nrem)(hs:nrem<=p.size)(h:Dn lt p n)(hc:lt (gA p (n - 1)) (gA p n)=false) :
  ∃ p' m,iY lt (A6 n nrem p)=(m,p')/\p'.Perm p/\p'.size=p.size/\n<=m/\m<=nrem/\Up lt p' m:=by
 obtain⟨p1,n1,q1,z,z2,z3,z4,z5,z6,z7⟩:=Q5 w (nrem - (n+1)) p (n+1) 0 (by lia) (h.one w h1 hc) ⟨by lia,fun k k1 k2=>by
  have:k=n:=by lia
  subst this; exact w.refl _⟩
 rw [A6,nT,z];show ∃ p' m,iY lt (if q1 > 0 then Qn n1 nrem (iq p1 (n1 - (q1+1)) n1) else Qn n1 nrem p1)=(m,p')/\_;by_cases hq:q1 > 0
 ·rw [if_pos hq];obtain⟨p',m,y1,y2,y3,y4,y5,y6⟩:=HC (nrem:=nrem) w (p:=iq p1 (n1 - (q1+1)) n1) (by lia) (by lia) (by rw [oh]; lia) (z6.rev w (by lia) z7.2);exact⟨p',m,y1,(y2.trans (kP _ _ _)).trans z2,(y3.trans (oh _ _ _)).trans z3,by lia,y5,y6⟩
 ·rw [if_neg hq];obtain⟨p',m,y1,y2,y3,y4,y5,y6⟩:=HC (nrem:=nrem) w (p:=p1) (by lia) (by lia) (by lia) z6;exact⟨p',m,y1,y2.trans z2,y3.trans z3,by lia,y5,y6⟩
theorem OP(w:N8 lt){p:Array Nat}{nrem:Nat}(h1:1<=nrem)(hs:nrem<=p.size):∃ p' m,iY lt (kas_count nrem p)=(m,p')/\p'.Perm p/\p'.size=p.size/\1<=m/\m<=nrem/\Up lt p' m:=by
 obtain⟨a1,a2,a3,a4⟩:=MV (lt:=lt) p (nrem - 1) 1;rw [kas_count,nT];generalize iY lt (sU p (nrem - 1) 1)=n at a1 a2 a3 a4;have u1:Up lt p 1:=fun i j ND hj=>by
  have:i=j:=by lia
  subst this; exact w.refl _
 have up:Up lt p n:=u1.more w (aK _) a3;by_cases e:n=nrem
 ·subst e;rw [if_pos (by simp)];exact⟨p,n,rfl,oS _,rfl,a1,aK _,up⟩
 ·rw [if_neg (by simpa using e)];have hb:=a4 (by lia);by_cases h2:n > 1
  ·rw [if_pos h2];show ∃ p' m,iY lt (if lt (gA p 0) (gA p (n - 1))=true then yk (n,p) else A6 n nrem (iq p 0 n))=(m,p')/\_;by_cases c:lt (gA p 0) (gA p (n - 1))=true
   ·rw [if_pos c];exact⟨p,n,rfl,oS _,rfl,a1,by lia,up⟩
   ·rw [if_neg c];have c':lt (gA p 0) (gA p (n - 1))=false:=by simpa using c
    have all:∀ i j,i < n->j < n->lt (gA p i) (gA p j)=false:=fun i j hi hj =>
     w.trans _ _ _ (w.trans _ _ _ (up j (n - 1) (by lia) (by lia)) c') (up 0 i (by lia) hi)
    have d1:Dn lt (iq p 0 n) n:=fun i j ND hj=>by
     rw [iV (by lia),iV (by lia),if_pos ⟨by lia,by lia⟩,if_pos ⟨by lia,hj⟩];exact all _ _ (by lia) (by lia)
    have hl:lt (gA (iq p 0 n) (n - 1)) (gA (iq p 0 n) n)=false:=by
     rw [iV (by lia),iV (by lia),if_pos ⟨by lia,by lia⟩,if_neg (by lia)];exact w.trans _ _ _ (w.asymm _ _ hb) (all _ _ (by lia) (by lia))
    obtain⟨p',m,y1,y2,y3,y4,y5,y6⟩:=wH (nrem:=nrem) w (p:=iq p 0 n) a1 (by lia) (by rw [oh]; lia) d1 hl;exact⟨p',m,y1,y2.trans (kP _ _ _),y3.trans (oh _ _ _),by lia,y5,y6⟩
  ·rw [if_neg h2];have e1:n=1:=by lia
   subst e1;have d1:Dn lt p 1:=fun i j ND hj=>by
    have:i=j:=by lia
    subst this; exact w.refl _
   obtain⟨p',m,y1,y2,y3,y4,y5,y6⟩:=wH (nrem:=nrem) w (p:=p) (aK _) (by lia) hs d1 (w.asymm _ _ hb);exact⟨p',m,y1,y2,y3,by lia,y5,y6⟩
theorem OO(w:N8 lt){p:Array Nat}{k:Nat}:∀ (f l r:Nat),l<=r->r<=k->r - l<=f->Up lt p k->(∀ i,i < l->lt (gA p k) (gA p i)=false)->(∀ i,r<=i->i < k->lt (gA p k) (gA p i)=true) ->
  ∃ m,iY lt (kJ p k f l r)=m/\m<=k/\(∀ i,i < m->lt (gA p k) (gA p i)=false)/\(∀ i,m<=i->i < k->lt (gA p k) (gA p i)=true):=by
 intro f;induction f with
 | zero =>
  intro l r hlr hrk hf up h1 h2;have:l=r:=by lia
  subst this;exact⟨l,rfl,hrk,h1,h2⟩
 | succ f ih =>
  intro l r hlr hrk hf up h1 h2;have e:iY lt (kJ p k (f+1) l r)=if l>=r then l else if lt (gA p k) (gA p ((l+r) / 2))=true then iY lt (kJ p k f l ((l+r) / 2)) else iY lt (kJ p k f ((l+r) / 2+1) r):=by
   show iY lt (if l>=r then yk l else .ask (gA p k) (gA p ((l+r) / 2)) fun c=>if c=true then kJ p k f l ((l+r) / 2) else kJ p k f ((l+r) / 2+1) r)=_;split
   ·rfl
   ·show iY lt (if lt (gA p k) (gA p ((l+r) / 2))=true then kJ p k f l ((l+r) / 2) else kJ p k f ((l+r) / 2+1) r)=_;split <;> rfl
  rw [e];by_cases c:l>=r
  ·rw [if_pos c];have:l=r:=by lia
   subst this;exact⟨l,rfl,hrk,h1,h2⟩
  ·rw [if_neg c];by_cases d:lt (gA p k) (gA p ((l+r) / 2))=true
   ·rw [if_pos d];refine ih l ((l+r) / 2) (by lia) (by lia) (by lia) up h1 fun i i1 i2=>?_;cases q:lt (gA p k) (gA p i) with
    | true=>rfl
    | false=>rw [w.trans _ _ _ (up ((l+r) / 2) i i1 i2) q] at d; cases d
   ·rw [if_neg d];refine ih ((l+r) / 2+1) r (by lia) hrk (by lia) up (fun i hi=>?_) h2;exact w.trans _ _ _ (up i ((l+r) / 2) (by lia) (by lia)) (by simpa using d)
theorem Eb{p:Array Nat}{src d:Nat}(hs:src < p.size)(hd:d<=src)(k:Nat):gA (bubble p src d) k=if k=src - d then gA p src else if src - d < k/\k<=src then gA p (k - 1) else gA p k:=by
 rw [Ea,getElem?_bubble hs d hd,Ea p src,Ea p (k - 1),Ea p k];by_cases h1:k=src - d
 ·rw [if_pos h1,if_pos h1]
 ·rw [if_neg h1,if_neg h1];by_cases h2:src - d < k/\k<=src
  ·rw [if_pos h2,if_pos h2]
  ·rw [if_neg h2,if_neg h2]
theorem UQ(w:N8 lt):∀ (f:Nat) (p:Array Nat) (k:Nat),k+f<=p.size->Up lt p k->∃ p',iY lt (kas_bin f p k)=p'/\p'.Perm p/\p'.size=p.size/\Up lt p' (k+f):=by
 intro f;induction f with
 | zero=>intro p k _ up; exact⟨p,rfl,oS _,rfl,up⟩
 | succ f ih =>
  intro p k hs up;obtain⟨m,e,hm,h1,h2⟩:=OO w k 0 k (cu _) (aK _) (aK _) up (fun i hi=>absurd hi (by lia)) (fun i i1 i2=>absurd i1 (by lia));have up':Up lt (bubble p k (k - m)) (k+1):=by
   intro i j ND hj;rw [Eb (by lia) (by lia),Eb (by lia) (by lia)];have ek:k - (k - m)=m:=by lia
   rw [ek];by_cases j1:j=m
   ·rw [if_pos j1];by_cases i1:i=m
    ·rw [if_pos i1]; exact w.refl _
    ·rw [if_neg i1,if_neg (by lia)]; exact h1 i (by lia)
   ·rw [if_neg j1];by_cases j2:m < j/\j<=k
    ·rw [if_pos j2];by_cases i1:i=m
     ·rw [if_pos i1]; exact w.asymm _ _ (h2 (j - 1) (by lia) (by lia))
     ·rw [if_neg i1];by_cases i2:m < i/\i<=k
      ·rw [if_pos i2]; exact up _ _ (by lia) (by lia)
      ·rw [if_neg i2]; exact up _ _ (by lia) (by lia)
    ·rw [if_neg j2,if_neg (by lia),if_neg (by lia)]; exact up _ _ ND (by lia)
  obtain⟨p',z,z1,z2,z3⟩:=ih (bubble p k (k - m)) (k+1) (by rw [bubble_size]; lia) up';refine⟨p',?_,z1.trans (bubble_perm _ _ _),z2.trans (bubble_size _ _ _),by rw [show k+(f+1)=k+1+f by lia]; exact z3⟩;rw [kas_bin,nT,e]; exact z
theorem HD(w:N8 lt){n:Nat}(h1:1<=n):∃ p,iY lt (kas_sort n)=p/\p.toList.Perm (cA n)/\p.size=n/\Up lt p n:=by
 obtain⟨p,m,z,z1,z2,z3,z4,z5⟩:=OP w (p:=(cA n).toArray) h1 (by simp);have zs:p.size=n:=by rw [z2]; simp
 have zp:p.toList.Perm (cA n):=by simpa using z1.toList
 rw [kas_sort,nT,z];show ∃ q,iY lt (if m < n then kas_bin (n - max m 1) p (max m 1) else .ret p)=q/\_;by_cases c:m < n
 ·rw [if_pos c];have em:max m 1=m:=by lia
  rw [em];obtain⟨p',y,y1,y2,y3⟩:=UQ w (n - m) p m (by lia) z5;exact⟨p',y,(by simpa using y1.toList:p'.toList.Perm p.toList).trans zp,y2.trans zs,by rw [show n=m+(n - m) by lia]; exact y3⟩
 ·rw [if_neg c];have:m=n:=by lia
  subst this;exact⟨p,rfl,zp,zs,z5⟩
end
end K2
end
section
namespace K2
open PySem PySem.Spec PyProof.Rows L2
open PySem.AutoSeq1 (wpAny_loadPart')
open PySem.MeetsSeq PySem.MeetsSeq2 PySem.MeetsSeq3 PySem.SeqAt
def Cv(A:cX)(s:ao)(y x:Value)(b:Bool):Prop :=
 ∀ (prog:bx) (w:World) (E:Value->ao->Prop) (Q:Value->ao->Prop),Q (.bool b) s->wpAny (model prog w) A (sS .Lt y x) Q E s
def uU(e l:Nat->Bool)(n m:Nat):Nat->Nat->Bool
 | 0,_=>decide (n < m)
 | f+1,i=>if e i=true then uU e l n m f (i+1) else l i
theorem Vn(l b:Addr)(xs ys:Array Value)(n m:Nat)(dd de:Option Addr)(sl sm:Array (Option Value))(e lt:Nat->Bool)(k:Nat) :
  ∀ i:Nat,i<=min xs.size ys.size->min xs.size ys.size - i=k->Meets (Builtin.«list.__eq__.loop» ⟨[.ref l,.ref b,r8 i,r8 0],[]⟩)
   (fun A R s=>s.heap.get? l=some { cls:=.type "list",dict:=dd,data:=.seq xs n,slots:=sl }/\s.heap.get? b=some { cls:=.type "list",dict:=de,data:=.seq ys m,slots:=sm } /\
    (∀ j (h1:j < xs.size) (h2:j < ys.size),EqAt A.in1 s xs[j] ys[j] (e j)/\Cv A.in1 s xs[j] ys[j] (lt j)) /\
    R (.ok (.ret (.bool (uU e lt xs.size ys.size k i)))) s):=by
 induction k with
 | zero =>
  intro i hi hk prog w A R s h;obtain⟨hp,g,d,tk,os⟩:=s;obtain⟨hl,hb,he,h⟩:=h
  wp_walk using cF hl,cF hb
  by_cases c:xs.size<=ys.size
  ·have h1:xs[((i:Nat):Int).toNat]?=none:=by simp; lia
   rw [h1]
   wp_walk using cF hl,cF hb
   exact h
  ·have h2:ys[((i:Nat):Int).toNat]?=none:=by simp; lia
   rw [h2];cases q:xs[((i:Nat):Int).toNat]? with
   | none =>
    wp_walk using cF hl,cF hb
    exact h
   | some v =>
    wp_walk using cF hl,cF hb
    exact h
 | succ k ih =>
  intro i hi hk prog w A R s h;obtain⟨hp,g,d,tk,os⟩:=s;obtain⟨hl,hb,he,h⟩:=h
  wp_walk using cF hl,cF hb
  have l1:i < xs.size:=by lia
  have l2:i < ys.size:=by lia
  have h1:xs[((i:Nat):Int).toNat]?=some xs[i]:=by simp [l1]
  have h2:ys[((i:Nat):Int).toNat]?=some ys[i]:=by simp [l2]
  have hc:((i:Int)+1)=((i+1:Nat):Int):=by push_cast; rfl
  rw [h1,h2];refine ae ((he i l1 l2).1 prog w _ _ ?_);cases q:e i with
  | true =>
   rw [uU,q,if_pos rfl] at h
   wp_walk
   rw [hc];exact⟨lz plain_eq_loop _,gR entry_eq_loop (by
    rw [fG plain_eq_loop _];exact ih (i+1) (by lia) (by lia) prog w A R _ ⟨hl,hb,he,h⟩)⟩
  | false =>
   rw [uU,q,if_neg (by simp)] at h
   wp_walk using cF hl,cF hb
   rw [h1,h2];have hri:=(he i l1 l2).2 prog w
   wp_walk using hri
   exact h
theorem DX(l b:Addr)(xs ys:Array Value)(n m:Nat)(dd de:Option Addr)(sl sm:Array (Option Value))(e lt:Nat->Bool) :
  Meets (Builtin.«list.__lt__» ⟨[.ref l,.ref b],[]⟩)
   (fun A R s=>s.heap.get? l=some { cls:=.type "list",dict:=dd,data:=.seq xs n,slots:=sl }/\s.heap.get? b=some { cls:=.type "list",dict:=de,data:=.seq ys m,slots:=sm } /\
    (∀ j (h1:j < xs.size) (h2:j < ys.size),EqAt A.in1 s xs[j] ys[j] (e j)/\Cv A.in1 s xs[j] ys[j] (lt j)) /\
    R (.ok (.ret (.bool (uU e lt xs.size ys.size (min xs.size ys.size) 0)))) s):=by
 intro prog w A R s h;obtain⟨hp,g,d,tk,os⟩:=s;obtain⟨hl,hb,he,h⟩:=h;have f3:=KA
 wp_walk using cF hl,cF hb
 exact⟨lz plain_eq_loop _,gR entry_eq_loop (by
  rw [fG plain_eq_loop _];exact Vn l b xs ys n m dd de sl sm e lt _ 0 (cu _) rfl prog w A R _ ⟨hl,hb,he,h⟩)⟩
theorem Be(l b:Addr)(xs ys:Array Value)(n m:Nat)(dd de:Option Addr)(sl sm:Array (Option Value))(e lt:Nat->Bool) :
  Meets (Builtin.«tuple.__lt__» ⟨[.ref l,.ref b],[]⟩)
   (fun A R s=>s.heap.get? l=some { cls:=.type "tuple",dict:=dd,data:=.seq xs n,slots:=sl }/\s.heap.get? b=some { cls:=.type "tuple",dict:=de,data:=.seq ys m,slots:=sm } /\
    (∀ j (h1:j < xs.size) (h2:j < ys.size),EqAt A.in1 s xs[j] ys[j] (e j)/\Cv A.in1 s xs[j] ys[j] (lt j)) /\
    R (.ok (.ret (.bool (uU e lt xs.size ys.size (min xs.size ys.size) 0)))) s) :=
 .of_wp fun prog w A R s h=>by
  obtain⟨hp,g,d,tk,os⟩:=s;obtain⟨hl,hb,he,h⟩:=h;have f2:=se;have zl:(xs.toList.zip ys.toList).length=min xs.size ys.size:=by simp
  wp_walk using cF hl,cF hb,wpAny_forIn_list _ (fun rest c s'=>c.1=none/\s'=⟨hp,g,d,tk,os⟩/\∃ i,i<=min xs.size ys.size/\rest=(xs.toList.zip ys.toList).drop i /\
   R (.ok (.ret (.bool (uU e lt xs.size ys.size (min xs.size ys.size - i) i)))) ⟨hp,g,d,tk,os⟩) _
  case turn =>
   rintro⟨y,x⟩ rest c s' ⟨hc,rfl,i,hi,hz,hR⟩;have il:i < min xs.size ys.size:=by
    have:=congrArg gO hz;rw [ez,zl,ah] at this;lia
   have l1:i < xs.size:=by lia
   have l2:i < ys.size:=by lia
   rw [cq (by rw [zl]; exact il)] at hz;injection hz with hyx hrest
   have ey:y=xs[i]/\x=ys[i]:=by simpa using hyx
   obtain⟨rfl,rfl⟩:=ey;obtain⟨k,ek⟩:∃ k,min xs.size ys.size - i=k+1:=⟨min xs.size ys.size - i - 1,by lia⟩;rw [ek,uU] at hR;refine ae ((he i l1 l2).1 prog w _ _ ?_);cases q:e i with
   | true =>
    rw [q,if_pos rfl] at hR
    wp_walk
    exact⟨rfl,rfl,i+1,by lia,hrest,by rw [show min xs.size ys.size - (i+1)=k by lia]; exact hR⟩
   | false =>
    rw [q,if_neg (by simp)] at hR;have hri:=(he i l1 l2).2 prog w
    wp_walk using hri
    exact⟨_,rfl,by simpa using hR⟩
  case fin =>
   rintro⟨c1,c2⟩ s' ⟨hc,rfl,i,hi,hz,hR⟩;simp only at hc;subst hc;have il:min xs.size ys.size - i=0:=by
    have:=congrArg gO hz;rw [ez,zl,aq] at this;lia
   rw [il,uU] at hR
   wp_walk
   exact⟨_,rfl,by simpa [v9] using hR⟩
  case h =>
   exact⟨rfl,rfl,0,cu _,rfl,by simpa using h⟩
theorem O4{A:cX}{s:ao}{l b:Addr}{xs ys:Array Value}{e lt:Nat->Bool}(hl:s.heap.IsList l xs)(hb:s.heap.IsList b ys)(hu:A.units < cLine)
  (he:∀ j (h1:j < xs.size) (h2:j < ys.size),EqAt A.in1 s xs[j] ys[j] (e j)/\Cv A.in1 s xs[j] ys[j] (lt j)):Cv A s (.ref l) (.ref b) (uU e lt xs.size ys.size (min xs.size ys.size) 0):=by
 intro prog w E Q hq;obtain⟨⟨cls,dd,data,sl⟩,ho,hc,n,hd⟩:=id hl;obtain⟨⟨Tb,NQ,data2,DH⟩,D6,FY,n2,hd2⟩:=id hb;simp only at hc hd FY hd2;subst hc hd FY hd2;exact zR (op:=.Lt) ⟨_,ho,rfl⟩ ⟨_,D6,rfl⟩ vZ Ol (MF _ _) (DX l b xs ys n n2 dd NQ sl DH e lt)
  ⟨ho,D6,he,(fun x=>nomatch x),hq⟩ hu
theorem Lp{A:cX}{s:ao}{l b:Addr}{xs ys:Array Value}{e lt:Nat->Bool}(hl:s.heap.IsTuple l xs)(hb:s.heap.IsTuple b ys)(hu:A.units < cLine)
  (he:∀ j (h1:j < xs.size) (h2:j < ys.size),EqAt A.in1 s xs[j] ys[j] (e j)/\Cv A.in1 s xs[j] ys[j] (lt j)):Cv A s (.ref l) (.ref b) (uU e lt xs.size ys.size (min xs.size ys.size) 0):=by
 intro prog w E Q hq;obtain⟨⟨cls,dd,data,sl⟩,ho,hc,n,hd⟩:=id hl;obtain⟨⟨Tb,NQ,data2,DH⟩,D6,FY,n2,hd2⟩:=id hb;simp only at hc hd FY hd2;subst hc hd FY hd2;exact zR (op:=.Lt) ⟨_,ho,rfl⟩ ⟨_,D6,rfl⟩ ni uJ (sX _ _) (Be l b xs ys n n2 dd NQ sl DH e lt)
  ⟨ho,D6,he,(fun x=>nomatch x),hq⟩ hu
theorem qt(xs ys:List D):∀ (k i:Nat),i<=min xs.length ys.length->min xs.length ys.length - i=k ->
  uU (fun j=>ik (xs.getD j .cR) (ys.getD j .cR)) (fun j=>oZ (xs.getD j .cR) (ys.getD j .cR)) xs.length ys.length k i=oY (xs.drop i) (ys.drop i)
 | 0,i,hi,hk=>by
  rw [uU];by_cases c:xs.length<=ys.length
  ·have e1:xs.drop i=[]:=nj (by lia);rw [e1];cases q:ys.drop i with
   | nil =>
    have:=congrArg gO q;rw [ez,aq] at this;exact decide_eq_false (by lia)
   | cons y r =>
    have:=congrArg gO q;rw [ez,ah] at this;exact decide_eq_true (by lia)
  ·have e1:ys.drop i=[]:=nj (by lia);rw [e1];cases q:xs.drop i with
   | nil =>
    have:=congrArg gO q;rw [ez,aq] at this;exact decide_eq_false (by lia)
   | cons y r=>exact decide_eq_false (by lia)
 | k+1,i,hi,hk=>by
  have l1:i < xs.length:=by lia
  have l2:i < ys.length:=by lia
  rw [uU,cq l1,cq l2,rC,qt xs ys k (i+1) (by lia) (by lia)];have g1:xs.getD i .cR=xs[i]:=by rw [aO,aj l1]; rfl
  have g2:ys.getD i .cR=ys[i]:=by rw [aO,aj l2]; rfl
  rw [g1,g2]
theorem kQ{h:Heap}:∀ {ds:List D} {vs:List Value} {as:List Addr},iA h vs (ng ds) as->∀ j (hj:j < vs.length),∃ bs,Reads h vs[j] (pd (ds.getD j .cR)) bs
 | [],vs,as,r,j,hj=>by cases r; exact absurd hj (dh _)
 | d :: ds,_,_,.cons (v:=v) (vs:=vs) r1 r2,j,hj=>by
  cases j with
  | zero=>exact⟨_,r1⟩
  | succ j=>exact kQ r2 j (by simpa using hj)
theorem readsAll_len{h:Heap}:∀ {ds:List D} {vs:List Value} {as:List Addr},iA h vs (ng ds) as->vs.length=ds.length
 | [],_,_,r=>by cases r; rfl
 | d :: ds,_,_,.cons r1 r2=>by rw [ah,ah,readsAll_len r2]
theorem rq:∀ {ds:List D},sg ds=true->∀ j,nr (ds.getD j .cR)=true
 | [],_,j=>by rw [List.getD_nil]; rfl
 | d :: ds,h,0=>by
  have h:(nr d&&sg ds)=true:=h;rw [aI] at h; simpa using h.1
 | d :: ds,h,j+1=>by
  have h:(nr d&&sg ds)=true:=h;rw [aI] at h; simpa using rq h.2 j
theorem mE:∀ (ds:List D) (j:Nat),(pd (ds.getD j .cR)).depth<=cI (ng ds)
 | [],j=>by rw [List.getD_nil]; exact aK _
 | d :: ds,0=>by
  show (pd d).depth<=cI (pd d :: ng ds);simp only [cI]; lia
 | d :: ds,j+1=>by
  have:=mE ds j;show (pd (ds.getD j .cR)).depth<=cI (pd d :: ng ds);simp only [cI]; lia
theorem t6:∀ {l:List o7} {ds:List D},gq l ds=true->∀ j,j < ds.length->∃ s∈l,dj s (ds.getD j .cR)=true/\l[j]?=some s
 | [],[],_,j,hj=>absurd hj (dh _)
 | [],_ :: _,h,_,_=>by cases h
 | _ :: _,[],h,_,_=>by cases h
 | s :: l,d :: ds,h,0,_=>by
  have h:(dj s d&&gq l ds)=true:=h;rw [aI] at h;exact⟨s,by simp,by simpa using h.1,by simp⟩
 | s :: l,d :: ds,h,j+1,hj=>by
  have h:(dj s d&&gq l ds)=true:=h;rw [aI] at h;obtain⟨s',h1,h2,h3⟩:=t6 h.2 j (by simpa using hj);exact⟨s',aM _ h1,by simpa using h2,by simpa using h3⟩
theorem t7:∀ {s:o7} {ds:List D},iz s ds=true->∀ j,j < ds.length->dj s (ds.getD j .cR)=true
 | s,[],_,j,hj=>absurd hj (dh _)
 | s,d :: ds,h,0,_=>by
  have h:(dj s d&&iz s ds)=true:=h;rw [aI] at h; simpa using h.1
 | s,d :: ds,h,j+1,hj=>by
  have h:(dj s d&&iz s ds)=true:=h;rw [aI] at h; simpa using t7 h.2 j (by simpa using hj)
theorem Gw{A:cX}{s:ao}{xs ys:List D}{vs ws:Array Value}{as bs:List Addr}(r1:iA s.heap vs.toList (ng xs) as)(r2:iA s.heap ws.toList (ng ys) bs)(n1:sg xs=true)(n2:sg ys=true)
  (hu:A.units+cI (ng xs) < cLine) (j:Nat) (h1:j < vs.size) (h2:j < ws.size):EqAt A s vs[j] ws[j] (ik (xs.getD j .cR) (ys.getD j .cR)):=by
 obtain⟨as',q1⟩:=kQ r1 j (by simpa using h1);obtain⟨V2,q2⟩:=kQ r2 j (by simpa using h2);have m1:=rq n1 j;have m2:=rq n2 j;have dp:=mE xs j;have:=eqAt_reads (pd (xs.getD j .cR)) (pd (ys.getD j .cR)) A s _ _ _ _ q1 q2 (kY _ m1) (kY _ m2) (by lia);rw [vG _ _ m1 m2] at this;simpa using this
theorem BM:∀ (n:Nat) (sh:o7) (a b:D) (A:cX) (s:ao) (u v:Value) (as bs:List Addr),(pd a).depth<=n->dj sh a=true->dj sh b=true->nr a=true->nr b=true->Reads s.heap u (pd a) as->Reads s.heap v (pd b) bs->A.units+n < cLine->Cv A s u v (oZ a b):=by
 intro n;induction n using Nat.strongRecOn with
 | _ n ih =>
 intro sh a b A s u v as bs hn h1 h2 n1 n2 r1 r2 hu;cases sh with
 | int =>
  first | obtain⟨_,rfl⟩:=eM h1 | obtain⟨_,rfl⟩:=eK h1 | obtain⟨_,rfl⟩:=eL h1
  first | obtain⟨_,rfl⟩:=eM h2 | obtain⟨_,rfl⟩:=eK h2 | obtain⟨_,rfl⟩:=eL h2
  cases r1; cases r2;intro prog w E Q hq;exact HT.Bt A s _ _ _ _ prog w E Q hq
 | tup l =>
  first | obtain⟨_,rfl⟩:=eM h1 | obtain⟨_,rfl⟩:=eK h1 | obtain⟨_,rfl⟩:=eL h1
  first | obtain⟨_,rfl⟩:=eM h2 | obtain⟨_,rfl⟩:=eK h2 | obtain⟨_,rfl⟩:=eL h2
  rename_i xs ys;have n1:sg xs=true:=n1;have n2:sg ys=true:=n2;cases r1 with
  | tuple k1 k2 k3 k4 =>
   cases r2 with
   | tuple m1 m2 m3 m4 =>
    rename_i p o vs c p' o' ws c';have hd:(pd (.tup xs)).depth=cI (ng xs)+1:=rfl;obtain⟨n',rfl⟩:∃ n',n=n'+1:=⟨n - 1,by lia⟩;have z1:=readsAll_len k4;have z2:=readsAll_len m4;have e1:vs.size=xs.length:=by simpa using z1
    have e2:ws.size=ys.length:=by simpa using z2
    have base:=Lp (A:=A) (s:=s) (e:=fun j=>ik (xs.getD j .cR) (ys.getD j .cR)) (lt:=fun j=>oZ (xs.getD j .cR) (ys.getD j .cR)) ⟨_,k1,k2,_,k3⟩ ⟨_,m1,m2,_,m3⟩ (by lia) (fun j j1 j2=>by
     refine⟨Gw k4 m4 n1 n2 (by show A.units+1+_ < _; lia) j j1 j2,?_⟩;obtain⟨as',q1⟩:=kQ k4 j (by simpa using j1);obtain⟨V2,q2⟩:=kQ m4 j (by simpa using j2);obtain⟨sj,hsj,g1,g2⟩:=t6 (l:=l) (ds:=xs) h1 j (by lia);obtain⟨sj',ad8,g1',g2'⟩:=t6 (l:=l) (ds:=ys) h2 j (by lia);rw [g2] at g2'; cases g2';have dp:=mE xs j;have:=ih n' (by lia) sj (xs.getD j .cR) (ys.getD j .cR) A.in1 s _ _ _ _ (by lia) g1 g1' (rq n1 j) (rq n2 j) q1 q2 (by show A.units+1+n' < cLine; lia);simpa using this)
    have fin:=qt xs ys (min xs.length ys.length) 0 (cu _) rfl;rw [e1,e2,fin] at base;exact base
 | lst l =>
  first | obtain⟨_,rfl⟩:=eM h1 | obtain⟨_,rfl⟩:=eK h1 | obtain⟨_,rfl⟩:=eL h1
  first | obtain⟨_,rfl⟩:=eM h2 | obtain⟨_,rfl⟩:=eK h2 | obtain⟨_,rfl⟩:=eL h2
  rename_i xs ys;have n1:sg xs=true:=n1;have n2:sg ys=true:=n2;cases r1 with
  | list k1 k2 k3 k4 =>
   cases r2 with
   | list m1 m2 m3 m4 =>
    rename_i p o vs c p' as' o' ws c' V2;have hd:(pd (.fH xs)).depth=cI (ng xs)+1:=rfl;obtain⟨n',rfl⟩:∃ n',n=n'+1:=⟨n - 1,by lia⟩;have z1:=readsAll_len k4;have z2:=readsAll_len m4;have e1:vs.size=xs.length:=by simpa using z1
    have e2:ws.size=ys.length:=by simpa using z2
    have base:=O4 (A:=A) (s:=s) (e:=fun j=>ik (xs.getD j .cR) (ys.getD j .cR)) (lt:=fun j=>oZ (xs.getD j .cR) (ys.getD j .cR)) ⟨_,k1,k2,_,k3⟩ ⟨_,m1,m2,_,m3⟩ (by lia) (fun j j1 j2=>by
     refine⟨Gw k4 m4 n1 n2 (by show A.units+1+_ < _; lia) j j1 j2,?_⟩;obtain⟨as',q1⟩:=kQ k4 j (by simpa using j1);obtain⟨V2,q2⟩:=kQ m4 j (by simpa using j2);have dp:=mE xs j;have:=ih n' (by lia) l (xs.getD j .cR) (ys.getD j .cR) A.in1 s _ _ _ _ (by lia) (t7 (s:=l) (ds:=xs) h1 j (by lia)) (t7 (s:=l) (ds:=ys) h2 j (by lia)) (rq n1 j) (rq n2 j) q1 q2 (by show A.units+1+n' < cLine; lia);simpa using this)
    have fin:=qt xs ys (min xs.length ys.length) 0 (cu _) rfl;rw [e1,e2,fin] at base;exact base
end K2
end
section
namespace K2
open PySem PySem.Spec PyProof.Rows L2 PySem.W
section
variable {prog:bx} {w:World} {A:cX} {E:Value->ao->Prop} {s:ao}
theorem Hx {at':Addr} {bw:List Value} {n:Nat} {P:PySem.Fin->ao->Prop} (FZ:s.heap.get? at'=some (zd "list" bw.toArray n)) (yd:bw.length < 2)
  (done:P (.done (.ret .none)) { s with heap:=sortedHeap s.heap at' bw bw.toArray }):wpAny (model prog w) A (Builtin.«list.sort» ⟨[.ref at'],[]⟩) P E s:=by
 rw [list_sort_plain];have lt':at' < s.heap.objs.size:=aN FZ;refine ae (listItems_at FZ rfl (ae (listUpdate_at FZ rfl ?_)));obtain⟨c,hc⟩:∃ c,(s.heap.update at' (jJ fun _=>#[])).get? at'=some (zd "list" #[] c):=⟨_,get?_update_seq FZ (fun _=>#[])⟩;refine ae (seqEpoch_at hc rfl (ae (wpAny_newTuple (ae (wpAny_newList (du ?_))))));have h6:(((s.heap.update at' (jJ fun _=>#[])).push (zd "tuple" bw.toArray 0)).push (zd "list" #[] 0)).get? at'=some (zd "list" #[] c):=by
  rw [Dz _ _ _ (by rw [size_push',vk]; exact bI (n6 lt')),Dz _ _ _ (by rw [vk]; exact bI lt')];exact hc
 show wpAny (model prog w) A _ P E { s with heap:=((s.heap.update at' (jJ fun _=>#[])).push (zd "tuple" bw.toArray 0)).push (zd "list" #[] 0) };dsimp only;have sz2:bw.toArray.size < 2:=by simpa using yd
 rw [if_pos sz2,if_pos sz2];refine ae (au ?_);rw [StateT.run_pure];refine ae (au ?_);dsimp only;have es:(bw.toArray.zip bw.toArray).map (·.2)=bw.toArray:=by
  apply Array.toList_inj.mp;simp [List.map_snd_zip]
 refine ae (seqEpoch_at h6 rfl (ae (listUpdate_at h6 rfl ?_ (hsz2:=by rw [show (arrOf (SortSt.mk' general' (bw.toArray.zip bw.toArray) #[] 7 none)).map (·.2)=bw.toArray from es,bK]; simp; lia))));simp only [bne_self_eq_false,aw,if_false];refine au ?_;rw [show (arrOf (SortSt.mk' general' (bw.toArray.zip bw.toArray) #[] 7 none)).map (·.2)=bw.toArray from es];exact done
theorem KU{l:Addr}{bw:List Value}{Q:Value->ao->Prop}(hl:s.heap.IsList l bw.toArray)(yd:bw.length < 2)
  (done:Q (.ref (s.heap.objs.size+1)) { s with heap:=sortedAll s.heap bw bw.toArray }):wpAny (model prog w) A (call (.builtin "sorted") [.ref l]) Q E s:=by
 refine Ky kind_sorted plain_sorted entry_sorted (args_sorted1 _) ?_;unfold Builtin.«sorted»;refine ae (m:=checkCount "sorted" 1 1 _) (au (ae (collect_list hl (ae (wpAny_newList ?_)))));have e1:((s.heap.push (zd "list" #[] 0)).update s.heap.objs.size (jJ (·++bw.toArray))).objs.size=s.heap.objs.size+1:=by rw [vk,size_push']
 have e2:(((s.heap.push (zd "list" #[] 0)).update s.heap.objs.size (jJ (·++bw.toArray))).push (zd "list" bw.toArray 0)).get? (s.heap.objs.size+1)=some (zd "list" bw.toArray 0):=by
  rw [<-e1]; exact a5 _ rfl
 show wpAny _ _ _ _ _ { s with heap:=((s.heap.push (zd "list" #[] 0)).update s.heap.objs.size (jJ (·++bw.toArray))).push (zd "list" bw.toArray 0) };rw [e1];refine ae (du (fD slot_list_sort ⟨_,e2,rfl⟩ entry_list_sort (Hx e2 yd ⟨_,rfl,?_⟩) (args_list_sort _)));exact au ⟨_,rfl,done⟩
end
section
open PySem.SeqAt
def Tq(A:cX)(s:ao)(y x:Value)(b:Bool):Prop :=
 ∀ (prog:bx) (w:World) (E:Value->ao->Prop) (Q:Bool->ao->Prop),Q b s->wpAny (model prog w) A (oneLt' true y x) Q E s
theorem Ld{A:cX}{s:ao}{l b:Addr}{xs ys:Array Value}{e lt:Nat->Bool}(hl:s.heap.IsList l xs)(hb:s.heap.IsList b ys)(hu:A.units < cLine)
  (he:∀ j (h1:j < xs.size) (h2:j < ys.size),EqAt A.in1 s xs[j] ys[j] (e j)/\Cv A.in1 s xs[j] ys[j] (lt j)):Tq A s (.ref l) (.ref b) (uU e lt xs.size ys.size (min xs.size ys.size) 0):=by
 intro prog w E Q hq;obtain⟨⟨cls,dd,data,sl⟩,ho,hc,n,hd⟩:=id hl;obtain⟨⟨Tb,NQ,data2,DH⟩,D6,FY,n2,hd2⟩:=id hb;simp only at hc hd FY hd2;subst hc hd FY hd2;rw [oneLt'_eq];simp only [if_true];refine ae (wpAny_cRoomFor hu (ae (MB (T:="list") ⟨_,ho,rfl⟩ vZ ?_)));exact CA vZ ⟨_,ho,rfl⟩ Ol (MF _ _) (DX l b xs ys n n2 dd NQ sl DH e lt) ⟨ho,D6,he,jj hq⟩
theorem HX{A:cX}{s:ao}{l b:Addr}{xs ys:Array Value}{e lt:Nat->Bool}(hl:s.heap.IsTuple l xs)(hb:s.heap.IsTuple b ys)(hu:A.units < cLine)
  (he:∀ j (h1:j < xs.size) (h2:j < ys.size),EqAt A.in1 s xs[j] ys[j] (e j)/\Cv A.in1 s xs[j] ys[j] (lt j)):Tq A s (.ref l) (.ref b) (uU e lt xs.size ys.size (min xs.size ys.size) 0):=by
 intro prog w E Q hq;obtain⟨⟨cls,dd,data,sl⟩,ho,hc,n,hd⟩:=id hl;obtain⟨⟨Tb,NQ,data2,DH⟩,D6,FY,n2,hd2⟩:=id hb;simp only at hc hd FY hd2;subst hc hd FY hd2;rw [oneLt'_eq];simp only [if_true];refine ae (wpAny_cRoomFor hu (ae (MB (T:="tuple") ⟨_,ho,rfl⟩ ni ?_)));exact CA ni ⟨_,ho,rfl⟩ uJ (sX _ _) (Be l b xs ys n n2 dd NQ sl DH e lt) ⟨ho,D6,he,jj hq⟩
theorem Iu{n:Nat}{A:cX}{s:ao}{xs ys:List D}{vs ws:Array Value}{as bs:List Addr}(r1:iA s.heap vs.toList (ng xs) as)(r2:iA s.heap ws.toList (ng ys) bs)(n1:sg xs=true)(n2:sg ys=true)(hd:cI (ng xs)<=n)
  (hu:A.units+n < cLine) (hs:∀ j,j < xs.length->j < ys.length->∃ sh,dj sh (xs.getD j .cR)=true/\dj sh (ys.getD j .cR)=true) (j:Nat) (h1:j < vs.size) (h2:j < ws.size) :
  EqAt A s vs[j] ws[j] (ik (xs.getD j .cR) (ys.getD j .cR))/\Cv A s vs[j] ws[j] (oZ (xs.getD j .cR) (ys.getD j .cR)):=by
 have z1:=readsAll_len r1;have z2:=readsAll_len r2;have e1:vs.size=xs.length:=by simpa using z1
 have e2:ws.size=ys.length:=by simpa using z2
 refine⟨Gw r1 r2 n1 n2 (by lia) j h1 h2,?_⟩;obtain⟨as',q1⟩:=kQ r1 j (by simpa using h1);obtain⟨V2,q2⟩:=kQ r2 j (by simpa using h2);obtain⟨sh,g1,g2⟩:=hs j (by lia) (by lia);have dp:=mE xs j;have:=BM n sh (xs.getD j .cR) (ys.getD j .cR) A s _ _ _ _ (by lia) g1 g2 (rq n1 j) (rq n2 j) q1 q2 hu;simpa using this
theorem tR{n:Nat}{sh:o7}{a b:D}{A:cX}{s:ao}{u v:Value}{as bs:List Addr}(hn:(pd a).depth<=n)(h1:dj sh a=true)(h2:dj sh b=true)(n1:nr a=true)(n2:nr b=true)(r1:Reads s.heap u (pd a) as)(r2:Reads s.heap v (pd b) bs)
  (hu:A.units+n < cLine):Tq A s u v (oZ a b):=by
 cases sh with
 | int =>
  first | obtain⟨_,rfl⟩:=eM h1 | obtain⟨_,rfl⟩:=eK h1 | obtain⟨_,rfl⟩:=eL h1
  first | obtain⟨_,rfl⟩:=eM h2 | obtain⟨_,rfl⟩:=eK h2 | obtain⟨_,rfl⟩:=eL h2
  cases r1; cases r2;intro prog w E Q hq;exact oneLt_int hq
 | tup l =>
  first | obtain⟨_,rfl⟩:=eM h1 | obtain⟨_,rfl⟩:=eK h1 | obtain⟨_,rfl⟩:=eL h1
  first | obtain⟨_,rfl⟩:=eM h2 | obtain⟨_,rfl⟩:=eK h2 | obtain⟨_,rfl⟩:=eL h2
  rename_i xs ys;have n1:sg xs=true:=n1;have n2:sg ys=true:=n2;cases r1 with
  | tuple k1 k2 k3 k4 =>
   cases r2 with
   | tuple m1 m2 m3 m4 =>
    rename_i p o vs c p' o' ws c';have hd:(pd (.tup xs)).depth=cI (ng xs)+1:=rfl;obtain⟨n',rfl⟩:∃ n',n=n'+1:=⟨n - 1,by lia⟩;have z1:=readsAll_len k4;have z2:=readsAll_len m4;have e1:vs.size=xs.length:=by simpa using z1
    have e2:ws.size=ys.length:=by simpa using z2
    have base:=HX (A:=A) (s:=s) ⟨_,k1,k2,_,k3⟩ ⟨_,m1,m2,_,m3⟩ (by lia) (Iu (A:=A.in1) (n:=n') k4 m4 n1 n2 (by lia) (by show A.units+1+n' < cLine; lia) fun j j1 j2=>by
     obtain⟨sj,hsj,g1,g2⟩:=t6 (l:=l) (ds:=xs) h1 j j1;obtain⟨sj',ad8,g1',g2'⟩:=t6 (l:=l) (ds:=ys) h2 j j2;rw [g2] at g2'; cases g2';exact⟨sj,g1,g1'⟩)
    have fin:=qt xs ys (min xs.length ys.length) 0 (cu _) rfl;rw [e1,e2,fin] at base;exact base
 | lst l =>
  first | obtain⟨_,rfl⟩:=eM h1 | obtain⟨_,rfl⟩:=eK h1 | obtain⟨_,rfl⟩:=eL h1
  first | obtain⟨_,rfl⟩:=eM h2 | obtain⟨_,rfl⟩:=eK h2 | obtain⟨_,rfl⟩:=eL h2
  rename_i xs ys;have n1:sg xs=true:=n1;have n2:sg ys=true:=n2;cases r1 with
  | list k1 k2 k3 k4 =>
   cases r2 with
   | list m1 m2 m3 m4 =>
    rename_i p o vs c p' as' o' ws c' V2;have hd:(pd (.fH xs)).depth=cI (ng xs)+1:=rfl;obtain⟨n',rfl⟩:∃ n',n=n'+1:=⟨n - 1,by lia⟩;have z1:=readsAll_len k4;have z2:=readsAll_len m4;have e1:vs.size=xs.length:=by simpa using z1
    have e2:ws.size=ys.length:=by simpa using z2
    have base:=Ld (A:=A) (s:=s) ⟨_,k1,k2,_,k3⟩ ⟨_,m1,m2,_,m3⟩ (by lia) (Iu (A:=A.in1) (n:=n') k4 m4 n1 n2 (by lia) (by show A.units+1+n' < cLine; lia) fun j j1 j2=>⟨l,t7 (s:=l) (ds:=xs) h1 j j1,t7 (s:=l) (ds:=ys) h2 j j2⟩);have fin:=qt xs ys (min xs.length ys.length) 0 (cu _) rfl;rw [e1,e2,fin] at base;exact base
theorem FP{prog:bx}{w:World}{A:cX}{s:ao}{b fin:Bool}{Q:Bool->ao->Prop}{n:Nat}(hu:A.units+n < cLine):∀ (l:List o7) (xs ys:List D) (vs ws:List Value) (as bs:List Addr) (i:Nat),gq l xs=true->gq l ys=true->sg xs=true->sg ys=true ->
  iA s.heap vs (ng xs) as->iA s.heap ws (ng ys) bs->cI (ng xs)<=n->fin=false->Q (oY xs ys) s->KatLex prog w A b fin Q (vs.zip ws) i s:=by
 intro l xs;induction xs generalizing l with
 | nil =>
  intro ys vs ws as bs i h1 h2 n1 n2 r1 r2 hd hf hq;cases r1;cases l with
  | nil =>
   cases ys with
   | nil=>cases r2; subst hf; exact hq
   | cons _ _=>cases h2
  | cons _ _=>cases h1
 | cons x xs ih =>
  intro ys vs ws as bs i h1 h2 n1 n2 r1 r2 hd hf hq;cases l with
  | nil=>cases h1
  | cons sh l =>
  cases ys with
  | nil=>cases h2
  | cons y ys =>
  cases r1 with
  | @cons v vs _ _ _ _ a1 a2 =>
  cases r2 with
  | @cons u ws _ _ _ _ b1 b2 =>
  have h1:(dj sh x&&gq l xs)=true:=h1;have h2:(dj sh y&&gq l ys)=true:=h2;have n1:(nr x&&sg xs)=true:=n1;have n2:(nr y&&sg ys)=true:=n2;rw [aI] at h1 h2 n1 n2;have hd1:(pd x).depth<=n/\cI (ng xs)<=n:=by
   have hd:cI (pd x :: ng xs)<=n:=hd;simp only [cI] at hd;lia
  show KatLex prog w A b fin Q ((v,u) :: vs.zip ws) i s;have eq:=eqAt_reads (pd x) (pd y) A s _ _ _ _ a1 b1 (kY _ n1.1) (kY _ n2.1) (by lia);rw [vG _ _ n1.1 n2.1] at eq;refine kat_cons (eq prog w _ _ ?_);rw [rC] at hq;cases q:ik x y with
  | true =>
   rw [q,if_pos rfl] at hq;exact kat_yes (ih l ys vs ws _ _ (i+1) h1.2 h2.2 n1.2 n2.2 a2 b2 hd1.2 hf hq)
  | false =>
   rw [q,if_neg (by simp)] at hq;refine kat_no ?_;cases c:(b&&i == 0) with
   | true=>exact tR hd1.1 h1.1 h2.1 n1.1 n2.1 a1 b1 hu prog w _ Q hq
   | false=>exact kat_one v u (BM n sh x y A s _ _ _ _ hd1.1 h1.1 h2.1 n1.1 n2.1 a1 b1 hu prog w _ _ hq)
end
def mG{α:Type}(n:Nat)(P:α->Prop):KasT α->Prop
 | .ret a=>P a
 | .ask i j k=>i < n/\j < n/\∀ b,mG n P (k b)
theorem mG.bind{α β:Type}{n:Nat}{P:α->Prop}{P':β->Prop}{f:α->KasT β}:∀ {t:KasT α},mG n P t->(∀ a,P a->mG n P' (f a))->mG n P' (t.bind f)
 | .ret a,q,h=>h a q
 | .ask i j k,⟨q1,q2,q3⟩,h=>⟨q1,q2,fun b=>mG.bind (q3 b) h⟩
theorem BY{α:Type}{n:Nat}{lt:Nat->Nat->Bool}{cmp:Nat->Nat->(Bool->ao->Prop)->ao->Prop}{s:ao}{Q:α->ao->Prop}(hc:∀ i j,i < n->j < n->∀ C:Bool->ao->Prop,C (lt i j) s->cmp i j C s) :
  ∀ (t:KasT α),mG n (fun _=>True) t->Q (iY lt t) s->t.kasWp cmp Q s
 | .ret a,_,q=>q
 | .ask i j k,⟨h1,h2,h3⟩,q=>hc i j h1 h2 _ (BY hc (k (lt i j)) (h3 _) q)
def Bd(n:Nat)(p:Array Nat):Prop:=0 < n/\∀ x∈p,x < n
theorem Bd.at{n:Nat}{p:Array Nat}(h:Bd n p)(k:Nat):p.getD k 0 < n:=by
 by_cases hk:k < p.size
 ·have:p.getD k 0=p[k]:=by simp [sY,hk]
  rw [this]; exact h.2 _ (Array.getElem_mem hk)
 ·have:p.getD k 0=0:=by simp [sY,hk]
  rw [this]; exact h.1
theorem Bd.perm{n:Nat}{p q:Array Nat}(h:Bd n p)(hp:q.Perm p):Bd n q:=⟨h.1,fun x hx=>h.2 x (hp.mem_iff.mp hx)⟩
theorem GI{n:Nat}{p:Array Nat}(h:Bd n p):∀ (f k:Nat),mG n (fun _=>True) (sU p f k)
 | 0,k=>trivial
 | f+1,k=>⟨h.at _,h.at _,fun b=>by
  show mG n _ (if b=true then yk k else sU p f (k+1));split
  ·trivial
  ·exact GI h f (k+1)⟩
theorem xP{n:Nat}:∀ (f:Nat) (p:Array Nat) (k q:Nat),Bd n p->mG n (fun r=>Bd n r.1) (mH f p k q)
 | 0,p,k,q,h=>h
 | f+1,p,k,q,h=>⟨h.at _,h.at _,fun b=>by
  show mG n _ (if b=true then (if q > 0 then mH f (iq p (k - (q+1)) k) (k+1) 0 else mH f p (k+1) 0) else .ask (p.getD (k - 1) 0) (p.getD k 0) fun d=>if d=true then .ret (p,k,q) else mH f p (k+1) (q+1));split
  ·split
   ·exact xP f _ _ _ (h.perm (kP _ _ _))
   ·exact xP f _ _ _ h
  ·refine⟨h.at _,h.at _,fun d=>?_⟩;show mG n _ (if d=true then yk (p,k,q) else mH f p (k+1) (q+1));split
   ·exact h
   ·exact xP f _ _ _ h⟩
theorem JE{n:Nat}{p:Array Nat}(h:Bd n p)(k m:Nat):mG n (fun r=>Bd n r.2) (Qn k m p) :=
 mG.bind (GI (h.perm (kP _ _ _)) _ _) fun _ _=>h.perm (kP _ _ _)
theorem xO{n:Nat}{p:Array Nat}(h:Bd n p)(k m:Nat):mG n (fun r=>Bd n r.2) (A6 k m p) :=
 mG.bind (xP _ _ _ _ h) fun r hr=>by
  split
  ·exact JE (hr.perm (kP _ _ _)) _ _
  ·exact JE hr _ _
theorem PL{n:Nat}{p:Array Nat}(h:Bd n p)(m:Nat):mG n (fun r=>Bd n r.2) (kas_count m p) :=
 mG.bind (GI h _ _) fun k _=>by
  split
  ·exact h
  ·split
   ·refine⟨h.at _,h.at _,fun b=>?_⟩;show mG n _ (if b=true then yk (k,p) else A6 k m (iq p 0 k));split
    ·exact h
    ·exact xO (h.perm (kP _ _ _)) _ _
   ·exact xO h _ _
theorem yZ{n:Nat}{p:Array Nat}(h:Bd n p)(k:Nat):∀ (f l r:Nat),mG n (fun _=>True) (kJ p k f l r)
 | 0,l,r=>trivial
 | f+1,l,r=>by
  show mG n _ (if l>=r then yk l else .ask (p.getD k 0) (p.getD ((l+r) / 2) 0) fun c=>if c=true then kJ p k f l ((l+r) / 2) else kJ p k f ((l+r) / 2+1) r);split
  ·trivial
  ·refine⟨h.at _,h.at _,fun b=>?_⟩;show mG n _ (if b=true then kJ p k f l ((l+r) / 2) else kJ p k f ((l+r) / 2+1) r);split
   ·exact yZ h k f _ _
   ·exact yZ h k f _ _
theorem N7{n:Nat}:∀ (f:Nat) (p:Array Nat) (k:Nat),Bd n p->mG n (fun _=>True) (kas_bin f p k)
 | 0,p,k,h=>trivial
 | f+1,p,k,h=>mG.bind (yZ h k _ _ _) fun l _=>N7 f _ _ (h.perm (bubble_perm _ _ _))
theorem JF{n:Nat}(h:0 < n):mG n (fun _=>True) (kas_sort n) :=
 mG.bind (PL ⟨h,fun x hx=>by simpa using hx⟩ n) fun r hr=>by
  split
  ·exact N7 _ _ _ hr
  ·trivial
mutual
theorem tF{h h':Heap}(hk:∀ b o vs n,o.data=.seq vs n->h.get? b=some o->h'.get? b=some o):∀ (d:D) {v:Value} {as:List Addr},nr d=true->Reads h v (pd d) as->Reads h' v (pd d) as
 | .cR,_,_,_,r=>by cases r; exact .none
 | .bl b,_,_,_,r=>by cases r; exact .bool b
 | .int i,_,_,_,r=>by cases r; exact .int i _
 | .str x,_,_,_,r=>by cases r; exact .str x _
 | .tup ds,_,_,n,r=>by
  cases r with
  | tuple h1 h2 h3 h4=>exact .tuple (hk _ _ _ _ h3 h1) h2 h3 (oj hk ds n h4)
 | .fH ds,_,_,n,r=>by
  cases r with
  | list h1 h2 h3 h4=>exact .list (hk _ _ _ _ h3 h1) h2 h3 (oj hk ds n h4)
 | .vR _,_,_,n,_=>by cases n
 | .ref _,_,_,n,_=>by cases n
 | .exc _,_,_,n,_=>by cases n
theorem oj{h h':Heap}(hk:∀ b o vs n,o.data=.seq vs n->h.get? b=some o->h'.get? b=some o):∀ (ds:List D) {vs:List Value} {as:List Addr},sg ds=true->iA h vs (ng ds) as->iA h' vs (ng ds) as
 | [],_,_,_,r=>by cases r; exact .nil
 | d :: ds,_,_,n,r=>by
  have n:(nr d&&sg ds)=true:=n;rw [aI] at n;cases r with
  | cons r1 r2=>exact .cons (tF hk d n.1 r1) (oj hk ds n.2 r2)
end
mutual
theorem Fc(G:Gp):∀ (sh:o7) (d:D) (n:Nat),dj sh d=true->VP sh<=n->Sn G n d d
 | .int,.int i,n,_,_=>.int i
 | .tup l,.tup ds,n,h,hn=>by
  have hn:S0 l+1<=n:=hn;obtain⟨m,rfl⟩:∃ m,n=m+1:=⟨n - 1,by lia⟩;exact MR G l ds m h (by lia)
 | .lst s,.fH ds,n,h,hn=>by
  have hn:VP s+1<=n:=hn;obtain⟨m,rfl⟩:∃ m,n=m+1:=⟨n - 1,by lia⟩;exact MS G s ds m h (by lia)
theorem MR(G:Gp):∀ (l:List o7) (ds:List D) (m:Nat),gq l ds=true->S0 l<=m->Sn G (m+1) (.tup ds) (.tup ds)
 | [],[],m,_,_=>.E8
 | s :: l,d :: ds,m,h,hm=>by
  have h:(dj s d&&gq l ds)=true:=h;have hm:max (VP s) (S0 l)<=m:=hm;rw [aI] at h;exact .n8 (Fc G s d m h.1 (by lia)) (MR G l ds m h.2 (by lia))
theorem MS(G:Gp):∀ (s:o7) (ds:List D) (m:Nat),iz s ds=true->VP s<=m->Sn G (m+1) (.fH ds) (.fH ds)
 | s,[],m,_,_=>.HG
 | s,d :: ds,m,h,hm=>by
  have h:(dj s d&&iz s ds)=true:=h;rw [aI] at h;exact .zB (Fc G s d m h.1 hm) (MS G s ds m h.2 hm)
end
theorem getD_at{α:Type}(xs:List α)(d:α){i:Nat}(h:i < xs.length):xs.getD i d=xs[i]:=by
 rw [aO,aj h]; rfl
theorem tT{α:Type}(xs:List α)(d:α):(cA xs.length).map (fun i=>xs.getD i d)=xs:=by
 refine List.ext_getElem (by simp) fun i h1 h2=>?_;rw [iu,mK];exact getD_at _ _ h2
theorem zf{h:Heap}{s1:o7}{l:List o7}:∀ (zs:List D) (vs:List Value),(∀ z∈zs,dj (.tup (s1 :: l)) z=true)->(∀ i,i < vs.length->∃ as,Reads h (vs.getD i .none) (pd (zs.getD i .cR)) as)->vs.length=zs.length ->
  ∃ fs,KatTups h vs fs/\fs.length=vs.length/\∀ f∈fs,∃ d as,dj s1 d=true/\Reads h f (pd d) as:=by
 intro zs;induction zs with
 | nil =>
  intro vs _ _ h;have:vs=[]:=List.length_eq_zero_iff.mp h;subst this;exact⟨[],trivial,rfl,fun _ h=>by cases h⟩
 | cons z zs ih =>
 intro vs hs hr hl;cases vs with
 | nil=>cases hl
 | cons v vs =>
  obtain⟨fs,h1,h2,h3⟩:=ih vs (fun z hz=>hs z (aM _ hz)) (fun i hi=>by
   obtain⟨as,r⟩:=hr (i+1) (by simpa using hi);exact⟨as,by simpa using r⟩) (by simpa using hl)
  obtain⟨as,r⟩:=hr 0 (by simp);have hz:=hs z (by simp);simp only [List.getD_cons_zero] at r;cases z <;> first | (cases hz; done) | skip
  rename_i ds;cases ds with
  | nil=>cases hz
  | cons d ds =>
   have hz:(dj s1 d&&gq l ds)=true:=hz;rw [aI] at hz;cases r with
   | tuple k1 k2 k3 k4 =>
    rename_i p o ws c;have k5:iA h ws.toList (pd d :: ng ds) as:=k4;cases q:ws.toList with
    | nil=>rw [q] at k5; cases k5
    | cons f rest =>
     rw [q] at k5;cases k5 with
     | cons r1 r2 =>
      have hf:ws[0]?=some f:=by
       have:ws.toList[0]?=some f:=by rw [q]; rfl
       simpa using this
      refine⟨f :: fs,.cons k1 k2 k3 hf h1,by simp [h2],fun g hg=>?_⟩;rcases List.mem_cons.mp hg with rfl | hg
      ·exact⟨d,_,hz.1,r1⟩
      ·exact h3 g hg
def Hu:o7->Value
 | .int=>.type "int"
 | .tup _=>.type "tuple"
 | .lst _=>.type "list"
theorem ux{M:Model}{h:Heap}{sh:o7}{d:D}{v:Value}{as:List Addr}(hs:dj sh d=true)(r:Reads h v (pd d) as):Looks M h (typeOf v) (Hu sh):=by
 cases sh with
 | int =>
  cases d <;> first | (cases hs; done) | skip
  cases r;exact .now
 | tup l =>
  cases d <;> first | (cases hs; done) | skip
  cases r with
  | tuple k1 k2 k3 k4 =>
   rename_i p o ws c;have:Looks M h (typeOf (.ref p)) o.cls:=(Looks.ld k1).andThen .now;rw [k2] at this; exact this
 | lst l =>
  cases d <;> first | (cases hs; done) | skip
  cases r with
  | list k1 k2 k3 k4 =>
   rename_i p o ws c as;have:Looks M h (typeOf (.ref p)) o.cls:=(Looks.ld k1).andThen .now;rw [k2] at this; exact this
theorem DY{prog:bx}{w:World}{A:cX}{s:ao}{E:Value->ao->Prop}{Q:Bool->ao->Prop}{n:Nat}{b:Bool}{l:List o7}{a c:D}{u v:Value}{as bs:List Addr}(hn:(pd a).depth<=n+1)(h1:dj (.tup l) a=true)(h2:dj (.tup l) c=true)(n1:nr a=true)(n2:nr c=true)
  (r1:Reads s.heap u (pd a) as) (r2:Reads s.heap v (pd c) bs) (hu:A.units+n < cLine) (hq:Q (oZ a c) s):wpAny (model prog w) A (keyLt' (tuples' b) u v) Q E s:=by
 first | obtain⟨_,rfl⟩:=eM h1 | obtain⟨_,rfl⟩:=eK h1 | obtain⟨_,rfl⟩:=eL h1
 first | obtain⟨_,rfl⟩:=eM h2 | obtain⟨_,rfl⟩:=eK h2 | obtain⟨_,rfl⟩:=eL h2
 rename_i xs ys;cases r1 with
 | tuple k1 k2 k3 k4 =>
  cases r2 with
  | tuple m1 m2 m3 m4 =>
   rename_i p o vs c p' o' ws c';have z1:=readsAll_len k4;have z2:=readsAll_len m4;have e1:vs.size=xs.length:=by simpa using z1
   have e2:ws.size=ys.length:=by simpa using z2
   have el:∀ (l:List o7) (xs ys:List D),gq l xs=true->gq l ys=true->xs.length=ys.length:=by
    intro l;induction l with
    | nil =>
     intro xs ys h1 h2;cases xs with
     | nil=>cases ys with
      | nil=>rfl
      | cons _ _=>cases h2
     | cons _ _=>cases h1
    | cons s l ih =>
     intro xs ys h1 h2;cases xs with
     | nil=>cases h1
     | cons x xs =>
      cases ys with
      | nil=>cases h2
      | cons y ys =>
       have h1:(dj s x&&gq l xs)=true:=h1;have h2:(dj s y&&gq l ys)=true:=h2;rw [aI] at h1 h2;rw [ah,ah,ih xs ys h1.2 h2.2]
   have hd:(pd (.tup xs)).depth=cI (ng xs)+1:=rfl;refine kat_lt k1 k3 m1 m3 (FP (n:=n) hu l xs ys _ _ _ _ 0 h1 h2 n1 n2 k4 m4 (by lia) (decide_eq_false (by rw [e1,e2,el l xs ys h1 h2]; lia)) hq)
section
variable {X:Cx}
theorem DW{x:D}{G:Gp}{zs:List D}(ty:CQ x G)(hi:itemsOf x G=some zs):tW x G=some zs:=by
 cases x <;> first | exact ty.elim | exact hi
theorem GF (hc:X.calm=true) (hu:X.A.units+64 < cLine):oP X (.builtin "sorted") AZ:=by
 intro pins s σ H G xs ds us Q I ab rx rd q;unfold AZ at q;split at q
 ·rename_i x;obtain⟨sh,zs,ty,hi,yL,cO,h64,q⟩:=q;obtain⟨w1,rfl,Bp⟩:=rd.one;obtain⟨u,rfl,ru⟩:=rx.one;obtain⟨l,vs,bw,rfl,rv,rs,hl,_⟩:=lV I ab ru Bp (DW ty hi);have Yj:=rv.length;have Yi:=rs.length;have hsz:bg=16777216:=bK;have hz:∀ z∈zs,dj sh z=true:=fun z h=>List.all_eq_true.mp yL z h;by_cases yd:bw.length < 2
  ·refine KU hl yd ?_;obtain⟨e,he⟩:=sortedAll_at s.heap bw bw.toArray;have hp:H (s.heap.objs.size+1)=none:=I.cO.fresh (lI _);have es:pC zs=zs:=nA sh hz (.refl _) (by
    match zs,Yi,yd with
    | [],_,_=>exact .nil
    | [z],_,_=>exact P0 _ _
    | _ :: _ :: _,h,f=>exact absurd f (by rw [<-Yj,h]; simp))
   rw [es] at q;refine⟨.ref (s.heap.objs.size+1),upd H (s.heap.objs.size+1) (.lst vs),.ref _,_,I.laid (t':=s.toks) (fun b o e=>sortedAll_old e) (lI _) ?_,.FH ab hp rs,rfl,.ref _,q _ (ab.free hp)⟩;exact⟨by lia,bw,e,rv,he⟩
  ·obtain⟨m,F0⟩:=I.fr;have nz:0 < zs.length:=by lia
   have nL:∀ b o vs n,o.data=.seq vs n->s.heap.get? b=some o->b≠X.env.locals:=fun b o vs n e1 e2 z=>by
    obtain⟨o',es,ep,Pf,FX,_⟩:=F0.ns;rw [z,Pf] at e2; cases e2; rw [FX] at e1; cases e1
   unfold Rz at cO;rw [aI] at cO;have hdp:VP sh<=7:=of_decide_eq_true cO.1;have sn:∀ z∈zs,Sn G 7 z z:=fun z h=>Fc G sh z 7 (hz z h) hdp;refine kat_sorted F0 wZ hl (by lia) (by lia) fun Dd e1 h' F N pH=>?_;obtain⟨kk,ns⟩:=lO I F0 F fun p hp=>N p (aM _ hp);have yu:∀ i,i < bw.length->∃ as,Reads h' (bw.getD i .none) (pd (zs.getD i .cR)) as:=fun i hi=>by
    have i1:i < zs.length:=by lia
    have i2:i < vs.length:=by lia
    have g1:zs.getD i .cR=zs[i]:=getD_at _ _ i1;have g2:bw.getD i .none=bw[i]:=getD_at _ _ hi;obtain⟨v,hv,UW⟩:=rs.get (aj i1);obtain⟨u,Hb,Xo⟩:=rv.get hv;rw [aj hi] at Hb;cases Hb;obtain⟨as,r⟩:=(iS I ab (sn _ (cb i1))).1 v _ UW Xo;rw [g1,g2];exact⟨as,tF (fun b o vs n e1 e2=>kk b o (nL b o vs n e1 e2) e2) _ (sn _ (cb i1)).nr r⟩
   have zi:∀ i,i < zs.length->dj sh (zs.getD i .cR)=true:=fun i hi=>by rw [getD_at _ _ hi]; exact hz _ (cb hi)
   have Vj:∀ i,i < zs.length->nr (zs.getD i .cR)=true:=fun i hi=>by rw [getD_at _ _ hi]; exact(sn _ (cb hi)).nr
   have dpz:∀ i,i < zs.length->(pd (zs.getD i .cR)).depth<=7:=fun i hi=>by rw [getD_at _ _ hi]; exact Cj (sn _ (cb hi))
   let zz:Nat->D:=fun i=>if i < zs.length then zs.getD i .cR else zs.getD 0 .cR
   have Qx:∀ i,dj sh (zz i)=true:=fun i=>by
    show dj sh (if i < zs.length then zs.getD i .cR else zs.getD 0 .cR)=true;split
    ·exact zi i (by assumption)
    ·exact zi 0 nz
   let lt:Nat->Nat->Bool:=fun i j=>oZ (zz i) (zz j)
   have swo:N8 lt:=⟨fun i j h=>yF sh (Qx i) (Qx j) h,fun i j k h1 h2=>vw sh (Qx i) (Qx j) (Qx k) h1 h2⟩;have lte:∀ i j,i < zs.length->j < zs.length->lt i j=oZ (zs.getD i .cR) (zs.getD j .cR):=fun i j hi hj=>by
    show oZ (if i < zs.length then _ else _) (if j < zs.length then _ else _)=_;rw [if_pos hi,if_pos hj]
   obtain⟨p,ep,tZ,ZZ,hup⟩:=HD swo (n:=bw.length) (by lia);have hA2:X.A.in1.in1.units=X.A.units+2:=rfl;have ask:∀ κ:SortKind,(∀ i j,i < bw.length->j < bw.length->∀ C:Bool->ao->Prop,C (oZ (zs.getD i .cR) (zs.getD j .cR)) { s with heap:=h' }->kas_ask X.prog X.w X.A.in1.in1 κ bw i j C { s with heap:=h' }) ->
     (kas_sort bw.length).kasWp (kas_ask X.prog X.w X.A.in1.in1 κ bw) (fun p UO=>KasFin X.base X.env.locals m Dd e1 (p.toList.map fun i=>bw.getD i c8) (fun s3=>qN X pins σ H G Q (.ref Dd) s3) UO) { s with heap:=h' }:=by
    intro κ hk;refine BY (lt:=lt) (n:=bw.length) (fun i j i1 i2 C hC=>hk i j i1 i2 C (by rw [<-lte i j (by lia) (by lia)]; exact hC)) _ (JF (by lia)) ?_;rw [ep];refine KasFin.intro (g:=fun o=>(Dd,o) :: rZ X.base s.heap X.env.locals) F N (.head (fun q hq z=>absurd (pH q hq) (by rw [z]; exact eQ _))) fun h2 c F2 N2=>?_;obtain⟨k2,ns2⟩:=lO I F0 F2 fun p hp=>N2 p (aM _ hp);have hD:s.heap.get? Dd=none:=by
     have nD:=N _ bH;cases qd:s.heap.get? Dd with
     | none=>rfl
     | some o=>exact absurd (pH _ (mz nD.2.1 nD.2.2 qd)) (eQ _)
    have hp:H Dd=none:=xx I.cO hD;have rvp:Vals (p.toList.map fun i=>vs.getD i .cR) (p.toList.map fun i=>bw.getD i c8):=by
     have:∀ (ps:List Nat),(∀ i∈ps,i < bw.length)->Vals (ps.map fun i=>vs.getD i .cR) (ps.map fun i=>bw.getD i c8):=by
      intro ps;induction ps with
      | nil=>intro _; exact .nil
      | cons i ps ih =>
       intro hh;have hi:=hh i (by simp);refine .cons ?_ (ih fun j hj=>hh j (aM _ hj));have i2:i < vs.length:=by lia
       obtain⟨u,Hb,Xo⟩:=rv.get (aj i2);rw [aj hi] at Hb;cases Hb;show RelV (vs.getD i .cR) (bw.getD i .none);rw [getD_at _ _ i2,getD_at _ _ hi]; exact Xo
     exact this _ fun i hi=>by simpa using tZ.mem_iff.mp hi
    have rsp:bc X.K H (p.toList.map fun i=>vs.getD i .cR) (p.toList.map fun i=>zs.getD i .cR):=by
     have:∀ (ps:List Nat),(∀ i∈ps,i < bw.length)->bc X.K H (ps.map fun i=>vs.getD i .cR) (ps.map fun i=>zs.getD i .cR):=by
      intro ps;induction ps with
      | nil=>intro _; exact .nil
      | cons i ps ih =>
       intro hh;have hi:=hh i (by simp);refine .cons ?_ (ih fun j hj=>hh j (aM _ hj));have i2:i < vs.length:=by lia
       have i1:i < zs.length:=by lia
       obtain⟨v,hv,r⟩:=rs.get (aj i1);rw [aj i2] at hv;cases hv;show cQ X.K H (vs.getD i .cR) (zs.getD i .cR);rw [getD_at _ _ i2,getD_at _ _ i1]; exact r
     exact this _ fun i hi=>by simpa using tZ.mem_iff.mp hi
    have es:pC zs=p.toList.map fun i=>zs.getD i .cR:=by
     refine nA sh hz ?_ ?_
     ·have h1:(p.toList.map fun i=>zs.getD i .cR).Perm ((cA zs.length).map fun i=>zs.getD i .cR):=by
       have:bw.length=zs.length:=by lia
       rw [<-this];exact tZ.map _
      rw [tT] at h1;exact h1
     ·rw [kn,MG];intro i j hi hj ND;have g1:gA p i=p.toList[i]:=by
       have:i < p.size:=by simpa using hi
       simp [gA,sY,this]
      have g2:gA p j=p.toList[j]:=by
       have:j < p.size:=by simpa using hj
       simp [gA,sY,this]
      have bi:p.toList[i] < bw.length:=by simpa using tZ.mem_iff.mp (cb hi)
      have bj:p.toList[j] < bw.length:=by simpa using tZ.mem_iff.mp (cb hj)
      have:=hup i j (by lia) (by have:j < p.toList.length:=hj; rw [bS,ZZ] at this; exact this);rw [g1,g2,lte _ _ (by lia) (by lia)] at this;exact this
    rw [es] at q;have ln:(p.toList.map fun i=>vs.getD i .cR).length<=bg:=by rw [ai,bS,ZZ]; lia
    refine⟨.ref Dd,upd H Dd (.lst (p.toList.map fun i=>vs.getD i .cR)),.ref _,_,Inv.Iq (t':=s.toks) I k2 ns2 hD ?_,.FH ab hp rsp,rfl,.ref _,q _ (ab.free hp)⟩;exact⟨ln,_,c,rvp,(N2 _ bH).1⟩
   have gen:∀ i j,i < bw.length->j < bw.length->∀ C:Bool->ao->Prop,C (oZ (zs.getD i .cR) (zs.getD j .cR)) { s with heap:=h' }->wpAny (model X.prog X.w) X.A.in1.in1 (keyLt' PY (bw.getD i c8) (bw.getD j c8)) C (fun _ _=>False) { s with heap:=h' }:=by
    intro i j hi hj C hC;obtain⟨as,r1⟩:=yu i hi;obtain⟨bs,r2⟩:=yu j hj;rw [keyLt'_oneType];exact tR (s:={ s with heap:=h' }) (n:=7) (dpz i (by lia)) (zi i (by lia)) (zi j (by lia)) (Vj i (by lia)) (Vj j (by lia)) r1 r2 (by rw [hA2]; lia) X.prog X.w _ C hC
   have lk:∀ v∈bw,Looks (model X.prog X.w) h' (typeOf v) (Hu sh):=fun v hv=>by
    obtain⟨i,hi,rfl⟩:=fu hv;obtain⟨as,r⟩:=yu i hi;rw [getD_at _ _ hi] at r;exact ux (zi i (by lia)) r
   cases sh with
   | int=>exact kas_kind (s:={ s with heap:=h' }) (T:=.type "int") (by lia) lk rfl rfl (ask PY gen)
   | lst ss=>exact kas_kind (s:={ s with heap:=h' }) (T:=.type "list") (by lia) lk rfl rfl (ask PY gen)
   | tup ss =>
    cases ss with
    | nil=>exact absurd cO.2 (by simp)
    | cons s1 ss =>
     obtain⟨fs,t1,t2,t3⟩:=zf (h:=h') zs bw hz yu (by lia);refine kat_kind (s:={ s with heap:=h' }) (T:=Hu s1) t1 (by lia) (fun f hf=>?_) (by cases s1 <;> rfl) (ask _ fun i j hi hj C hC=>?_)
     ·obtain⟨d,as,h1,h2⟩:=t3 f hf;exact ux h1 h2
     ·obtain⟨as,r1⟩:=yu i hi;obtain⟨bs,r2⟩:=yu j hj;exact DY (s:={ s with heap:=h' }) (n:=7) (by have:=dpz i (by lia); lia) (zi i (by lia)) (zi j (by lia)) (Vj i (by lia)) (Vj j (by lia)) r1 r2 (by rw [hA2]; lia) hC
 ·exact q.elim
end
end K2
end
section
namespace L2
open PySem PySem.Spec PyProof.Rows
section
variable {prog:bx} {w:World} {A:cX} {E:Value->ao->Prop} {s:ao}
theorem Lw{d:Addr}{od:Obj}{es:Array kL}{c:Nat}{Q:Value->ao->Prop}(ns:(d == gF)=false)(Sd:s.heap.get? d=some od)(ex:od.ExactDict)(dd:od.data=.dict es c)
  (hQ:Q (.ref s.heap.objs.size) { s with heap:=s.heap.push { cls:=.type "dict_keyiterator",data:=.fields #[.ref d,.int 0 0,.int es.size 0,.int c 0] } }):wpAny (model prog w) A (Du (.ref d)) Q E s:=by
 have ty:s.TypeIs (.ref d) "dict":=⟨od,Sd,ex.1⟩;refine vU ty F.slot_dict_iter (fD F.slot_dict_iter ty F.entry_dict_iter ?_ (F.args_dict_iter_1 _));unfold Builtin.«dict.__iter__» Builtin.Dict.dictSlotNone;refine ae (ae (wpAny_notOrdered_dict ty (show wpAny _ _ (pure (dF d)) _ _ s from au ?_)));show wpAny _ _ (Ha d >>= _) _ _ s;unfold Ha;rw [if_neg (fun z=>by rw [ns] at z; cases z)];refine ae (au (ae (vW Sd dd (ae (Qm Sd dd ?_)))));refine ae (eP (au ⟨_,rfl,"dict_keyiterator",_,⟨_,a5 _ rfl,rfl⟩,F.slot_dict_keyiterator_next.lookup,?_⟩));simpa [r8] using hQ
theorem O9{it d:Addr}{od:Obj}{es:Array kL}{i c:Nat}{Q:Option Value->ao->Prop}(ki:s.heap.IsKeyIter it d i es.size c)(Sd:s.heap.get? d=some od)(dd:od.data=.dict es c)(hi:i < es.size)
  (hQ:∀ h',h'.IsKeyIter it d (i+1) es.size c->lK it s.heap h'->Q (some es[i].key) { s with heap:=h' }):wpAny (model prog w) A (uY (.ref it)) Q E s:=by
 obtain⟨o,ho,hc,hf⟩:=id ki;unfold uY;refine ae (n4 (ig (name:=a8 "__next__") ki.typeIs j3 (fD j3 ki.typeIs Kx ?_ (JW _))));refine ae (au (ae (ae ?_)))
 first | refine ae (jR ki.typeIs (au ?_)) | refine ae (mW ki.typeIs (au ?_))
 refine ae (Dt ho hf ?_);have Xz:vm "dict_keyiterator" = false:=by decide
 rw [Xz];show wpAny _ _ (if (dF d == c8)=true then _ else _) _ _ s;rw [if_neg (fun z=>by cases z)];refine ae (au (ae (vW Sd dd ?_)));rw [if_neg (by simp)];refine ae (au (ae (Qm Sd dd ?_)));rw [if_neg (by simp)];refine au ?_;dsimp only;rw [if_neg (show ¬ ((i:Int) < 0) from Int.not_lt.mpr (sN i)),eF,bU hi];dsimp only;refine ae ?_
 first | refine ae (jR ki.typeIs (au ?_)) | refine ae (mW ki.typeIs (au ?_))
 refine ae (wpAny_isOneOf_keyiter ki.typeIs ?_);show wpAny _ _ (Hi (.ref it) 1 (r8 ((i:Int)+1)) >>= _) _ _ s;refine ae (mq ho hf (by simp) ?_);have ki2:(s.heap.update it (mQ (·.setIfInBounds 1 (r8 ((i:Int)+1))))).IsKeyIter it d (i+1) es.size c :=
  ⟨_,dQ _ ho (oV (fh hf _)),(EH ..).trans hc,by rw [fh hf]; simp [r8]⟩
 refine ae (du (ae (wpAny_isOneOf_keyiter (s:={ s with heap:=s.heap.update it (mQ (·.setIfInBounds 1 (r8 ((i:Int)+1)))) }) ki2.typeIs ?_)));show wpAny _ _ (pure es[i].key) _ _ _;exact au (au ⟨_,rfl,au (hQ _ ki2 (gQ ..))⟩)
theorem RM{it d:Addr}{od:Obj}{es:Array kL}{i c:Nat}{Q:Option Value->ao->Prop}(calm:A.handled=none)(ki:s.heap.IsKeyIter it d i es.size c)(Sd:s.heap.get? d=some od)(dd:od.data=.dict es c)(hi:es.size<=i)
  (hQ:∀ h',Heap.ExtBut it s.heap h'->Q none { s with heap:=h' }):wpAny (model prog w) A (uY (.ref it)) Q E s:=by
 obtain⟨o,ho,hc,hf⟩:=id ki;unfold uY;refine ae (n4 (ig (name:=a8 "__next__") ki.typeIs j3 (fD j3 ki.typeIs Kx ?_ (JW _))));refine ae (au (ae (ae ?_)))
 first | refine ae (jR ki.typeIs (au ?_)) | refine ae (mW ki.typeIs (au ?_))
 refine ae (Dt ho hf ?_);have Xz:vm "dict_keyiterator" = false:=by decide
 rw [Xz];show wpAny _ _ (if (dF d == c8)=true then _ else _) _ _ s;rw [if_neg (fun z=>by cases z)];refine ae (au (ae (vW Sd dd ?_)));rw [if_neg (by simp)];refine ae (au (ae (Qm Sd dd ?_)));rw [if_neg (by simp)];refine au ?_;dsimp only;rw [if_neg (show ¬ ((i:Int) < 0) from Int.not_lt.mpr (sN i)),eF,ic hi];dsimp only;refine ae ?_
 first | refine ae (jR ki.typeIs (au ?_)) | refine ae (mW ki.typeIs (au ?_))
 show wpAny _ _ (Hi (.ref it) 0 .none >>= _) _ _ s;refine ae (mq ho hf (by simp) ?_);show wpAny _ _ (newExc (.type "StopIteration") [] >>= _) _ _ _;refine ae ?_;simp only [newExc,newTuple];refine ae (eP (ae (m:=Dv _ _) (Ql (a:=c8) (by first | rfl | (simp only [Dv]; rfl)) (eP ?_ (by size_fits)))) (by size_fits));simp only [raiseNew];refine ae (wpAny_handled ?_);rw [show A.in1.handled=none from calm];refine ae (au (wpAny_throw ?_));refine ae (Oe (T:="StopIteration") (b:=true) ⟨_,a5 _ rfl,rfl⟩ isSubtype_stop (?_));exact au (hQ _ (((gQ ..).extBut.push _).push _))
end
def Itk(a:Addr)(o:Obj)(es:Array kL)(ks:List V):It :=
 ⟨fun i H=>(∃ u,H a=some (.jw o u))/\i < es.size,fun i H v H'=>H'=H/\ks[i]?=some v,fun i H=>(∃ u,H a=some (.jw o u))/\es.size<=i⟩
theorem OC{P:bx}{w:World}{K:ag}{tg:Expr}(a it:Addr)(o:Obj)(es:Array kL)(c:Nat)(ks:List V)(dd:o.data=.dict es c)(hk:∀ i (h:i < es.size),∃ v,ks[i]?=some v/\RelV v es[i].key) :
  Turn P w K tg (Itk a o es ks) [it] it (fun i h=>h.IsKeyIter it a i es.size c) where
 mem:=by simp
 obj:=fun i h st b hb=>by
  have e:b=it:=by simpa using hb
  subst e;obtain⟨o',q,_,d⟩:=st;exact⟨o',q,fun v z=>by rw [d] at z; cases z⟩
 keep:=(by rintro i h h' ⟨o',q,r⟩ k; exact⟨o',k it (by simp) o' q,r⟩)
 item:=by
  intro X hP hw hK hc i pins s σ H E I hf st hg;subst hP hw hK;obtain⟨⟨u,hu⟩,hi⟩:=hg;obtain⟨f0,f1,f2,f3,f4,f5⟩:=hf it (by simp);obtain⟨v,hv,rv⟩:=hk i hi;refine O9 st (I.cO a _ hu).1 dd hi fun h' AH sb=>?_;have I1:Inv X pins σ H { s with heap:=h' }:=I.turned (t':=s.toks) (fun b o hb e=>(sb.2 b hb).trans e) f0 f1 f3 f4 f5;obtain⟨o',e,cl,d'⟩:=id AH;exact⟨_,rfl,II (s:={ s with heap:=h' }) e cl d' (by decide) ⟨v,H,I1,rv,⟨rfl,hv⟩,AH,fun b hb=>(hf b hb).1⟩⟩
 done:=by
  intro X hP hw hK hc i pins s σ H E I hf st hg;subst hP hw hK;obtain⟨⟨u,hu⟩,hi⟩:=hg;obtain⟨f0,f1,f2,f3,f4,f5⟩:=hf it (by simp);exact RM (I.ok.hd hc) st (I.cO a _ hu).1 dd hi fun h' eb=>⟨rfl,I.turned (t':=s.toks) (fun b o hb e=>eb b o hb e) f0 f1 f3 f4 f5⟩
 self:=fun A i s Q E st h=>by
  refine vU st.typeIs MH (fD MH st.typeIs F.entry_dict_keyiterator_iter ?_ (F.args_dict_keyiterator_iter_1 _));show wpAny _ _ (ret (.ref it)) _ _ s;exact au ⟨_,rfl,"dict_keyiterator",_,st.typeIs,F.slot_dict_keyiterator_next.lookup,h⟩
end L2
namespace K2
open PySem PySem.Spec PyProof.Rows L2
section
variable {X:Cx} {tg a:Expr} {ta:fM} {pos p:Pos}
theorem OY{α β:Type}{F:α->β->Prop}:∀ {l:List α} {m:List β},Paired F l m->∀ i (h1:i < l.length) (h2:i < m.length),F l[i] m[i]:=by
 intro l m h;induction h with
 | nil=>intro i h1; exact absurd h1 (dh i)
 | cons h t ih =>
  intro i h1 h2;cases i with
  | zero=>exact h
  | succ i=>exact ih i (v5 h1) (v5 h2)
theorem RR{P:bx}{w:World}{k:Key}{u:Value}(h:(gm P w).is k u=true):RelV (kV k) u:=by
 rcases gf h with ⟨i,t,rfl,rfl⟩ | ⟨x,t,rfl,rfl⟩
 ·exact⟨t,rfl⟩
 ·exact⟨t,rfl⟩
theorem qR.keys{K:ag}{H:Hp}:∀ {kv:List (Key×V)} {bo:List (D×D)},qR K H kv bo->bo.map (·.1)=kv.map fun p=>fE p.1:=fun h =>
 qR.ind (motive:=fun kv bo _=>bo.map (·.1)=kv.map fun p=>fE p.1) rfl (fun _ _ ih=>congrArg (_ :: ·) ih) h
theorem r0.keys{K:ag}{H:Hp}:∀ {kv:List (List Key×V)} {bo:List (D×D)},r0 K H kv bo->bo.map (·.1)=kv.map fun p=>D.tup (p.1.map fE):=fun h =>
 r0.ind (motive:=fun kv bo _=>bo.map (·.1)=kv.map fun p=>D.tup (p.1.map fE)) rfl (fun _ _ ih=>congrArg (_ :: ·) ih) h
theorem HJ{K:ag}{H:Hp}(k:Key):cQ K H (kV k) (fE k):=by
 cases k with
 | inl i=>exact .int i
 | inr x=>exact .str x
theorem DO{K:ag}{H:Hp}:∀ (ks:List Key),bc K H (ks.map kV) (ks.map fE)
 | []=>.nil
 | k :: ks=>.cons (HJ k) (DO ks)
theorem Ro(ha:gy X a ta):Qh X tg a (R5 ta):=by
 intro E pins s σ H τ G R hE I h;refine jC ha hE I h fun x H1 d G1 v s1 I1 m1 r1 kg q1=>?_;unfold FU at q1;have go:∀ (l:Addr) (o:Obj) (u:HO) (bo:List (D×D)) (es:Array kL) (c:Nat) (ks:List V),(l == gF)=false->H1 l=some (.jw o u)->o.ExactDict->o.data=.dict es c->(∀ i (h:i < es.size),∃ v,ks[i]?=some v/\RelV v es[i].key)->ks.length=es.size ->
   bc X.K H1 ks (bo.map (·.1))->R (bo.map (·.1)) (fun _=>True) G1->wpAny (model X.prog X.w) X.A (Du (.ref l)) (Mu X pins σ tg H G R) X.xe s1:=by
  intro l o u bo es c ks ns hl ex dd hk hlen rs q;refine Lw ns (I1.inv.cO l _ hl).1 ex dd ?_;refine⟨s1.heap.objs.size,[s1.heap.objs.size],_,_,H1,G1,bo.map (·.1),_,rfl,I1.inv.kept (t':=s1.toks) fun b o e=>aA _ e,m1,OC l _ o es c ks dd hk,⟨_,a5 _ rfl,rfl,rfl⟩,fun b hb=>?_,fun i H2 G2 k ab _=>?_,q⟩
  ·have e:b=s1.heap.objs.size:=by simpa using hb
   subst e;exact I1.inv.LH (aK _) (I1.inv.cO.fresh (aK _))
  ·have Yi:=k.jw _ _ _ hl;have UR:=rs.mono k;refine⟨fun d hd=>?_,fun hle=>⟨⟨u,Yi⟩,by rw [<-hlen,rs.length]; exact hle⟩⟩;obtain⟨v,hv,r⟩:=UR.get hd;have hi:i < es.size:=by rw [<-hlen]; exact(List.getElem?_eq_some_iff.mp hv).1
   refine⟨⟨⟨u,Yi⟩,hi⟩,?_⟩;rintro x H3 ⟨e,y⟩;subst e;rw [hv] at y;cases y;exact⟨r,.refl ab⟩
 cases kg with
 | uO hq rs =>
  rename_i l o kv bo;cases r1;obtain⟨z,ns,vs,rel,ob,es,ep,ho,ex,dd,hko,hp,nd⟩:=(I1.inv.cO l _ hq).2;have eo:ob=o:=by have:=(I1.inv.cO l _ hq).1; rw [ho] at this; exact bC this
  subst eo;have l1:es.size=vs.length:=by simpa using hp.length
  have l2:kv.length=vs.length:=lX rel;refine go l ob _ bo es ep (kv.map fun p=>kV p.1) ns hq ex dd (fun i hi=>?_) (by rw [ai]; lia) ?_ q1
  ·have i2:i < vs.length:=by lia
   have i3:i < kv.length:=by lia
   have g1:=(hp.get? (e:=es[i]) (k:=vs[i].1) (v:=vs[i].2) (by rw [aj (by simpa using hi)]; simp) (by rw [aj i2])).1;refine⟨kV kv[i].1,by simp [i3],?_⟩;have ek:kv[i].1=vs[i].1:=(OY rel i i3 i2).1;rw [ek];exact RR g1
  ·rw [rs.keys];have:∀ (l:List (Key×V)),bc X.K H1 (l.map fun p=>kV p.1) (l.map fun p=>fE p.1):=by
    intro l;induction l with
    | nil=>exact .nil
    | cons p l ih=>exact .cons (HJ p.1) ih
   exact this kv
 | uN hq rs =>
  rename_i l o kv bo;cases r1;obtain⟨z,ns,xs,rel,ob,es,ep,ho,ex,dd,hl,nd⟩:=(I1.inv.cO l _ hq).2;have eo:ob=o:=by have:=(I1.inv.cO l _ hq).1; rw [ho] at this; exact bC this
  subst eo;have l1:=congrArg gO hl;rw [ai,bS] at l1;refine go l ob _ bo es ep (xs.map fun q=>V.ref q.2.1) ns hq ex dd (fun i hi=>?_) (by rw [ai]; lia) ?_ q1
  ·have i2:i < xs.length:=by lia
   refine⟨.ref xs[i].2.1,by simp [i2],?_⟩;have:es[i]=entryOfKey (Hg (gm X.prog X.w)) xs[i]:=by
    have:=congrArg (fun l=>l[i]?) hl;simp only [bP,aj i2] at this;simpa [hi] using this
   rw [this];rfl
  ·rw [rs.keys];have:∀ (kv:List (List Key×V)) (xs:List (List Key×Addr×Value)),Paired (fun (p:List Key×V) (q:List Key×Addr×Value)=>p.1=q.1/\H1 q.2.1=some (.tup (p.1.map kV))/\RelV p.2 q.2.2) kv xs->bc X.K H1 (xs.map fun q=>V.ref q.2.1) (kv.map fun p=>D.tup (p.1.map fE)):=by
    intro kv xs r;induction r with
    | nil=>exact .nil
    | cons h _ ih=>exact .cons (.tup h.2.1 (DO _)) ih
   exact this kv xs rel
 | _=>exact q1.elim
end
end K2
end
section
namespace K2
open PySem PySem.Spec PyProof.Rows L2 PySem.W
section
variable {X:Cx}
theorem MJ:∀ (ks:List V) (us:List Value),ks.length=us.length->(∀ i (h1:i < ks.length) (h2:i < us.length),RelV ks[i] us[i])->Vals ks us
 | [],[],_,_=>.nil
 | [],_ :: _,h,_=>by cases h
 | _ :: _,[],h,_=>by cases h
 | k :: ks,u :: us,h,hr=>.cons (hr 0 (by simp) (by simp)) (MJ ks us (by simpa using h) fun i h1 h2=>hr (i+1) (by simpa using h1) (by simpa using h2))
end
section
variable {X:Cx}
theorem DF{i:Int}(h:i.natAbs < 10 ^ 100):i.natAbs.log2 < 1920:=by
 by_cases z:i.natAbs=0
 ·rw [z]; decide
 ·rw [Nat.log2_lt z];exact bJ h (by decide)
theorem PC:oP X (.type "str") cStr:=by
 intro pins s σ H G xs ds us Q I ab rx rd q;unfold cStr at q;split at q
 ·rename_i i;obtain⟨v,rfl,r⟩:=rd.one;cases r;exact gK (GD pins s σ H _ us (Dl X.K H G Q) I rx ⟨i,rfl,DF q.1,_,_,.refl ab,.str _,q.2⟩) fun _ _ z=>.of z
 ·exact q.elim
theorem DN{K:ag}{H:Hp}:∀ {vs:List V} {xs:List Str},bc K H vs (xs.map D.str)->vs=xs.map V.str
 | _,[],h=>by rw [a7] at h; rw [h.zero]; rfl
 | _,x :: xs,h=>by
  rw [aB] at h;cases h with
  | cons r t =>
   cases r;rw [DN t]; rfl
theorem DA:∀ {xs:List Str} {us:List Value},Vals (xs.map V.str) us->∃ l:List (Str×Tok),strValues l=us/\l.map (·.1)=xs
 | [],_,.nil=>⟨[],rfl,rfl⟩
 | x :: xs,_,.cons h r=>by
  obtain⟨t,rfl⟩:=h;obtain⟨l,h1,h2⟩:=DA r;exact⟨(x,t) :: l,by rw [<-h1]; rfl,by rw [<-h2]; rfl⟩
theorem IP(k:Nat):∀ (xs:List Str) (a:Nat),(∀ x∈xs,x.length<=1000)->k<=1000->xs.foldl (· + ·.length+k) a<=a+xs.length * 2000
 | [],a,_,_=>by simp
 | x :: xs,a,h,hk=>by
  have h1:=h x (by simp);have:=IP k xs (a+x.length+k) (fun y hy=>h y (aM _ hy)) hk;rw [iP,ah]; lia
theorem join_eq(sep:Str)(xs:List Str):Txt.join sep xs=gB sep xs:=by
 exact PySem.StrLaws.glued_eq_join sep xs
theorem HY:JN X "str.join" Ig:=by
 intro pins s σ H G x d xs ds v us Q I ab rx rd UP yu q;unfold Ig at q;split at q
 ·rename_i sep y;obtain⟨ts,ty,hi,⟨h1,h2,h3⟩,q⟩:=q;obtain⟨w,rfl,Bp⟩:=yu.one;obtain⟨u,rfl,ru⟩:=UP.one;cases rd;obtain⟨t,rfl⟩:=rx;obtain⟨l,vs,bw,rfl,rv,rs,hl,_⟩:=lV I ab ru Bp (DW ty hi);have e:=DN rs;subst e;obtain⟨ll,e1,e2⟩:=DA rv;subst e1;refine PySem.SC.join hl e2 ?_ fun t' k=>⟨.str _,H,.str _,G,I.tok _,.refl ab,⟨_,rfl⟩,.str _,?_⟩
  ·unfold JoinOk;have hf:=IP sep.length ts 0 h2 h1;have hz:bg=16777216:=bK;have:Kz (ts.toArray.foldl (· + ·.length+sep.length) 0)=false:=by
    rw [List.foldl_toArray];unfold Kz;simp only [decide_eq_false_iff_not];lia
   rw [this]; rfl
  ·rw [join_eq]; exact q
 ·exact q.elim
def Zo(X:Cx)(es:List Expr)(t:WV):Prop :=
 ∀ (E:lu) (pins:List (Addr×Obj)) (s:ao) (σ:L2.St) (H:Hp) (τ:iK) (G:Gp) (Q:DK) (acc:Str),Lk X E->I2 X pins σ H τ G s->acc.length+1000 * es.length<=100000->t E τ G (fun ys G1=>Q (.str (ys.foldl (·++·) acc)) G1) ->
  wpAny (model X.prog X.w) X.A (joinParts acc (evalEach es X.env)) (qN X pins σ H G Q) X.xe s
theorem M6:Zo X [] SQ:=by
 intro E pins s σ H τ G Q acc hE I hz h;have sz:bg=16777216:=bK;exact wpAny_mkStr ⟨.str _,H,.str _,G,I.inv.tok _,.refl I.ab,⟨_,rfl⟩,.str _,h⟩ (by simp only [aq] at hz; lia)
variable {es:List Expr} {t:WV} {e v1 v2:Expr} {te:fM} {pos:Pos} {c:Str} {k:Nat}
theorem MM{x:Str}{acc:Str}{n:Nat}(hz:acc.length+1000 * (n+1)<=100000)(hx:x.length<=1000):(acc++x).length<=bg/\(acc++x).length+1000 * n<=100000:=by
 have sz:bg=16777216:=bK;rw [fj]; lia
theorem um(C3:c.length<=1000)(hr:Zo X es t):Zo X (.Constant (.str c) k pos :: es) (vF c t):=by
 intro E pins s σ H τ G Q acc hE I hz h;rw [ah] at hz;obtain⟨_,h⟩:=h;obtain⟨z1,z2⟩:=MM hz C3;refine joinParts_cons (jC (R:=fun x G1=>x=.str c/\t E τ G1 fun ys G1=>Q (.str ((c :: ys).foldl (·++·) acc)) G1) (cK (y:=c) (j:=k) (pos:=pos)) hE I ⟨rfl,h⟩ fun v H1 d G1 u s1 I1 m r rd q=>?_);obtain⟨rfl,q⟩:=q;cases rd;obtain⟨t',rfl⟩:=r;exact⟨z1,gK (hr E pins s1 σ H1 τ G1 Q (acc++c) hE I1 z2 q) fun _ _ z=>qN.trans m z⟩
theorem AL(he:gy X e te)(hr:Zo X es t):Zo X (.FormattedValue e (-1) none pos :: es) (LY te t):=by
 intro E pins s σ H τ G Q acc hE I hz h;rw [ah] at hz;refine joinParts_cons (FormattedValue_plain (jC he hE I h fun v H1 d G1 u s1 I1 m r rd q=>?_));obtain⟨y,hy,q⟩:=q;obtain⟨z1,z2⟩:=MM hz (SI hy);cases rd with
 | int i =>
  unfold SJ at hy;dsimp only at hy;split at hy
  ·rename_i hb;cases hy;obtain⟨t',rfl⟩:=r;refine wpAny_formatField_int (DF hb) ?_;have jA:I2 X pins σ H1 τ G1 { s1 with toks:=s1.toks+1+1 }:=⟨I1.inv.tok _,I1.st,I1.ab⟩;exact⟨z1,gK (hr E pins _ σ H1 τ G1 Q (acc++vS i) hE jA z2 q) fun _ _ z=>qN.trans m z⟩
  ·cases hy
 | str x =>
  unfold SJ at hy;dsimp only at hy;split at hy
  ·rename_i hb;cases hy;obtain⟨t',rfl⟩:=r;have sz:bg=16777216:=bK;refine formatField_str (fun t2 tk=>?_) (by lia);have jA:I2 X pins σ H1 τ G1 { s1 with toks:=tk }:=⟨I1.inv.tok _,I1.st,I1.ab⟩;exact⟨z1,gK (hr E pins _ σ H1 τ G1 Q (acc++_) hE jA z2 q) fun _ _ z=>qN.trans m z⟩
  ·cases hy
 | _=>cases hy
theorem HU(h:Zo X (v1 :: v2 :: es) t)(hn:autoParam (1000 * (v1 :: v2 :: es).length<=100000) Ad._auto_1):gy X (.JoinedStr (v1 :: v2 :: es) pos) (Js t):=by
 intro E pins s σ H τ G Q hE I q;refine JoinedStr_many ?_;exact h E pins s σ H τ G Q Kr hE I (by show (Kr).length+_<=_; have:(Kr).length=0:=rfl; lia) q
variable {a:Expr} {ta:fM} {p p2 Fy:Pos}
theorem KS{pins:List (Addr×Obj)}{σ:L2.St}{H:Hp}{G:Gp}{s:ao}{Q:DK}{T:String}{r d:Addr}{n:Nat}{P:Nat->Value->Prop}{OK:Heap->Prop}(hc:X.calm=true)(hu:X.A.units+64 < cLine)(I:Inv X pins σ H s)(ab:lW X.K H G)
  (K:PySem.W.KdlSrc X.prog X.w T r d n P OK) (aed:OK s.heap) {vs:List V} {zs:List D} (hlen:vs.length=n) (hP:∀ i u (h:i < vs.length),P i u->RelV vs[i] u) (rs:bc X.K H vs zs) (sh:o7) (hz:∀ z∈zs,dj sh z=true) (cO:Rz sh=true) (h64:zs.length < 64)
  (q:mF G (.lst (pC zs)) Q):wpAny (model X.prog X.w) X.A (call (.builtin "sorted") [.ref r]) (qN X pins σ H G Q) X.xe s:=by
 have Yi:=rs.length;have hsz:bg=16777216:=bK;obtain⟨m,F0⟩:=I.fr;have nL:∀ b o vs n,o.data=.seq vs n->s.heap.get? b=some o->b≠X.env.locals:=fun b o vs n e1 e2 z=>by
  obtain⟨o',es,ep,Pf,FX,_⟩:=F0.ns;rw [z,Pf] at e2; cases e2; rw [FX] at e1; cases e1
 unfold Rz at cO;rw [aI] at cO;have hdp:VP sh<=7:=of_decide_eq_true cO.1;have sn:∀ z∈zs,Sn G 7 z z:=fun z h=>Fc G sh z 7 (hz z h) hdp;refine kdu_sorted K (I.ok.hd hc) F0 wZ aed (by lia) fun Dd h0 tk bw F1 N1 pH hl0 hP'=>?_;have Yj:vs.length=bw.length:=by lia
 have rv:Vals vs bw:=MJ vs bw Yj fun i h1 h2=>hP i bw[i] h1 (hP' i bw[i] (aj h2));by_cases yd:bw.length < 2
 ·have e2:h0.get? Dd=some (zd "list" bw.toArray 0):=(N1 _ bH).1;refine fD slot_list_sort ⟨_,e2,rfl⟩ entry_list_sort (Hx (s:={ s with heap:=h0,toks:=tk }) e2 yd ⟨_,rfl,?_⟩) (args_list_sort _);obtain⟨kk,ns⟩:=lO I F0 F1 fun p hp=>N1 p (aM _ hp);have hD:s.heap.get? Dd=none:=by
   have nD:=N1 _ bH;cases qd:s.heap.get? Dd with
   | none=>rfl
   | some o=>exact absurd (pH _ (mz nD.2.1 nD.2.2 qd)) (eQ _)
  have hp:H Dd=none:=xx I.cO hD;have hDL:Dd≠X.env.locals:=(N1 _ bH).2.1;obtain⟨e3,h3⟩:=sortedHeap_at (out:=bw.toArray) e2;have es:pC zs=zs:=nA sh hz (.refl _) (by
   match zs,Yi,yd with
   | [],_,_=>exact .nil
   | [z],_,_=>exact P0 _ _
   | _ :: _ :: _,h,f=>exact absurd f (by rw [<-Yj,h]; simp))
  rw [es] at q;refine⟨.ref Dd,upd H Dd (.lst vs),.ref _,_,Inv.Iq (t':=tk) I (fun b o hb e=>?_) (fun m' hm=>?_) hD ⟨by lia,bw,e3,rv,h3⟩,.FH ab hp rs,rfl,.ref _,q _ (ab.free hp)⟩
  ·have Pk:b≠Dd:=fun z=>by rw [z,hD] at e; cases e
   have e4:=kk b o hb e;rw [sortedHeap_old Pk (aN e4)]; exact e4
  ·obtain⟨o,es,ep,ho,r⟩:=ns m' hm;exact⟨o,es,ep,by rw [sortedHeap_old (jz hDL) (aN ho)]; exact ho,r⟩
 have nz:0 < zs.length:=by lia
 refine kat_lsort (vs:=bw) F1 N1 (.head fun q hq z=>absurd (pH q hq) (by rw [z]; exact eQ _)) (by simp) (by lia) (by lia) fun e1 h' F N=>?_;obtain⟨kk,ns⟩:=lO I F0 F fun p hp=>N p (aM _ hp);have yu:∀ i,i < bw.length->∃ as,Reads h' (bw.getD i .none) (pd (zs.getD i .cR)) as:=fun i hi=>by
  have i1:i < zs.length:=by lia
  have i2:i < vs.length:=by lia
  have g1:zs.getD i .cR=zs[i]:=getD_at _ _ i1;have g2:bw.getD i .none=bw[i]:=getD_at _ _ hi;obtain⟨v,hv,UW⟩:=rs.get (aj i1);obtain⟨u,Hb,Xo⟩:=rv.get hv;rw [aj hi] at Hb;cases Hb;obtain⟨as,r⟩:=(iS I ab (sn _ (cb i1))).1 v _ UW Xo;rw [g1,g2];exact⟨as,tF (fun b o vs n e1 e2=>kk b o (nL b o vs n e1 e2) e2) _ (sn _ (cb i1)).nr r⟩
 have zi:∀ i,i < zs.length->dj sh (zs.getD i .cR)=true:=fun i hi=>by rw [getD_at _ _ hi]; exact hz _ (cb hi)
 have Vj:∀ i,i < zs.length->nr (zs.getD i .cR)=true:=fun i hi=>by rw [getD_at _ _ hi]; exact(sn _ (cb hi)).nr
 have dpz:∀ i,i < zs.length->(pd (zs.getD i .cR)).depth<=7:=fun i hi=>by rw [getD_at _ _ hi]; exact Cj (sn _ (cb hi))
 let zz:Nat->D:=fun i=>if i < zs.length then zs.getD i .cR else zs.getD 0 .cR
 have Qx:∀ i,dj sh (zz i)=true:=fun i=>by
  show dj sh (if i < zs.length then zs.getD i .cR else zs.getD 0 .cR)=true;split
  ·exact zi i (by assumption)
  ·exact zi 0 nz
 let lt:Nat->Nat->Bool:=fun i j=>oZ (zz i) (zz j)
 have swo:N8 lt:=⟨fun i j h=>yF sh (Qx i) (Qx j) h,fun i j k h1 h2=>vw sh (Qx i) (Qx j) (Qx k) h1 h2⟩;have lte:∀ i j,i < zs.length->j < zs.length->lt i j=oZ (zs.getD i .cR) (zs.getD j .cR):=fun i j hi hj=>by
  show oZ (if i < zs.length then _ else _) (if j < zs.length then _ else _)=_;rw [if_pos hi,if_pos hj]
 obtain⟨p,ep,tZ,ZZ,hup⟩:=HD swo (n:=bw.length) (by lia);have hA2:X.A.in1.in1.units=X.A.units+2:=rfl;have ask:∀ κ:SortKind,(∀ i j,i < bw.length->j < bw.length->∀ C:Bool->ao->Prop,C (oZ (zs.getD i .cR) (zs.getD j .cR)) { s with heap:=h',toks:=tk }->kas_ask X.prog X.w X.A.in1.in1 κ bw i j C { s with heap:=h',toks:=tk }) ->
   (kas_sort bw.length).kasWp (kas_ask X.prog X.w X.A.in1.in1 κ bw) (fun p UO=>KasFin X.base X.env.locals m Dd e1 (p.toList.map fun i=>bw.getD i c8) (fun s3=>qN X pins σ H G Q (.ref Dd) s3) UO) { s with heap:=h',toks:=tk }:=by
  intro κ hk;refine BY (lt:=lt) (n:=bw.length) (fun i j i1 i2 C hC=>hk i j i1 i2 C (by rw [<-lte i j (by lia) (by lia)]; exact hC)) _ (JF (by lia)) ?_;rw [ep];refine KasFin.intro (g:=fun o=>(Dd,o) :: rZ X.base s.heap X.env.locals) F N (.head (fun q hq z=>absurd (pH q hq) (by rw [z]; exact eQ _))) fun h2 c F2 N2=>?_;obtain⟨k2,ns2⟩:=lO I F0 F2 fun p hp=>N2 p (aM _ hp);have hD:s.heap.get? Dd=none:=by
   have nD:=N _ bH;cases qd:s.heap.get? Dd with
   | none=>rfl
   | some o=>exact absurd (pH _ (mz nD.2.1 nD.2.2 qd)) (eQ _)
  have hp:H Dd=none:=xx I.cO hD;have rvp:Vals (p.toList.map fun i=>vs.getD i .cR) (p.toList.map fun i=>bw.getD i c8):=by
   have:∀ (ps:List Nat),(∀ i∈ps,i < bw.length)->Vals (ps.map fun i=>vs.getD i .cR) (ps.map fun i=>bw.getD i c8):=by
    intro ps;induction ps with
    | nil=>intro _; exact .nil
    | cons i ps ih =>
     intro hh;have hi:=hh i (by simp);refine .cons ?_ (ih fun j hj=>hh j (aM _ hj));have i2:i < vs.length:=by lia
     obtain⟨u,Hb,Xo⟩:=rv.get (aj i2);rw [aj hi] at Hb;cases Hb;show RelV (vs.getD i .cR) (bw.getD i .none);rw [getD_at _ _ i2,getD_at _ _ hi]; exact Xo
   exact this _ fun i hi=>by simpa using tZ.mem_iff.mp hi
  have rsp:bc X.K H (p.toList.map fun i=>vs.getD i .cR) (p.toList.map fun i=>zs.getD i .cR):=by
   have:∀ (ps:List Nat),(∀ i∈ps,i < bw.length)->bc X.K H (ps.map fun i=>vs.getD i .cR) (ps.map fun i=>zs.getD i .cR):=by
    intro ps;induction ps with
    | nil=>intro _; exact .nil
    | cons i ps ih =>
     intro hh;have hi:=hh i (by simp);refine .cons ?_ (ih fun j hj=>hh j (aM _ hj));have i2:i < vs.length:=by lia
     have i1:i < zs.length:=by lia
     obtain⟨v,hv,r⟩:=rs.get (aj i1);rw [aj i2] at hv;cases hv;show cQ X.K H (vs.getD i .cR) (zs.getD i .cR);rw [getD_at _ _ i2,getD_at _ _ i1]; exact r
   exact this _ fun i hi=>by simpa using tZ.mem_iff.mp hi
  have es:pC zs=p.toList.map fun i=>zs.getD i .cR:=by
   refine nA sh hz ?_ ?_
   ·have h1:(p.toList.map fun i=>zs.getD i .cR).Perm ((cA zs.length).map fun i=>zs.getD i .cR):=by
     have:bw.length=zs.length:=by lia
     rw [<-this];exact tZ.map _
    rw [tT] at h1;exact h1
   ·rw [kn,MG];intro i j hi hj ND;have g1:gA p i=p.toList[i]:=by
     have:i < p.size:=by simpa using hi
     simp [gA,sY,this]
    have g2:gA p j=p.toList[j]:=by
     have:j < p.size:=by simpa using hj
     simp [gA,sY,this]
    have bi:p.toList[i] < bw.length:=by simpa using tZ.mem_iff.mp (cb hi)
    have bj:p.toList[j] < bw.length:=by simpa using tZ.mem_iff.mp (cb hj)
    have:=hup i j (by lia) (by have:j < p.toList.length:=hj; rw [bS,ZZ] at this; exact this);rw [g1,g2,lte _ _ (by lia) (by lia)] at this;exact this
  rw [es] at q;have ln:(p.toList.map fun i=>vs.getD i .cR).length<=bg:=by rw [ai,bS,ZZ]; lia
  refine⟨.ref Dd,upd H Dd (.lst (p.toList.map fun i=>vs.getD i .cR)),.ref _,_,Inv.Iq (t':=tk) I k2 ns2 hD ?_,.FH ab hp rsp,rfl,.ref _,q _ (ab.free hp)⟩;exact⟨ln,_,c,rvp,(N2 _ bH).1⟩
 have gen:∀ i j,i < bw.length->j < bw.length->∀ C:Bool->ao->Prop,C (oZ (zs.getD i .cR) (zs.getD j .cR)) { s with heap:=h',toks:=tk }->wpAny (model X.prog X.w) X.A.in1.in1 (keyLt' PY (bw.getD i c8) (bw.getD j c8)) C (fun _ _=>False) { s with heap:=h',toks:=tk }:=by
  intro i j hi hj C hC;obtain⟨as,r1⟩:=yu i hi;obtain⟨bs,r2⟩:=yu j hj;rw [keyLt'_oneType];exact tR (s:={ s with heap:=h',toks:=tk }) (n:=7) (dpz i (by lia)) (zi i (by lia)) (zi j (by lia)) (Vj i (by lia)) (Vj j (by lia)) r1 r2 (by rw [hA2]; lia) X.prog X.w _ C hC
 have lk:∀ v∈bw,Looks (model X.prog X.w) h' (typeOf v) (Hu sh):=fun v hv=>by
  obtain⟨i,hi,rfl⟩:=fu hv;obtain⟨as,r⟩:=yu i hi;rw [getD_at _ _ hi] at r;exact ux (zi i (by lia)) r
 cases sh with
 | int=>exact kas_kind (s:={ s with heap:=h',toks:=tk }) (T:=.type "int") (by lia) lk rfl rfl (ask PY gen)
 | lst ss=>exact kas_kind (s:={ s with heap:=h',toks:=tk }) (T:=.type "list") (by lia) lk rfl rfl (ask PY gen)
 | tup ss =>
  cases ss with
  | nil=>exact absurd cO.2 (by simp)
  | cons s1 ss =>
   obtain⟨fs,t1,t2,t3⟩:=zf (h:=h') zs bw hz yu (by lia);refine kat_kind (s:={ s with heap:=h',toks:=tk }) (T:=Hu s1) t1 (by lia) (fun f hf=>?_) (by cases s1 <;> rfl) (ask _ fun i j hi hj C hC=>?_)
   ·obtain⟨d,as,h1,h2⟩:=t3 f hf;exact ux h1 h2
   ·obtain⟨as,r1⟩:=yu i hi;obtain⟨bs,r2⟩:=yu j hj;exact DY (s:={ s with heap:=h',toks:=tk }) (n:=7) (by have:=dpz i (by lia); lia) (zi i (by lia)) (zi j (by lia)) (Vj i (by lia)) (Vj j (by lia)) r1 r2 (by rw [hA2]; lia) hC
end
end K2
end
section
namespace L2
open PySem PySem.Spec PyProof.Rows PySem.W
section
variable {prog:bx} {w:World} {A:cX} {E:Value->ao->Prop} {s:ao}
theorem Li(d:Addr)(hd:(d == gF)=false):MeetsIn prog w (Builtin.«dict.__len__» ⟨[.ref d],[]⟩) (fun _ R s=>∃ o es ep,(s.heap.get? d=some o/\o.data=.dict es ep)/\R (.ok (.ret (.int es.size s.toks))) { s with toks:=s.toks+1 }) :=
 .of_wp fun A R s D5=>by
  obtain⟨o,es,ep,⟨ho,dd⟩,h⟩:=D5;show wpAny _ _ (dictSize d >>= _) _ _ s;unfold dictSize;refine ae (ae (vW ho dd (au (show wpAny _ _ (Builtin.Dict.pendingCount d >>= _) _ _ s from ?_))));refine ae (wpAny_pendingCount_other hd (wpAny_ret_mkInt ?_));rw [Nat.add_zero]; exact h
theorem Ej{d:Addr}{o:Obj}{es:Array kL}{ep:Nat}{Q:Value->ao->Prop}(hd:(d == gF)=false)(ho:s.heap.get? d=some o)(ex:o.ExactDict)(dd:o.data=.dict es ep)(hz:es.size<=1000)
  (h:∀ t tk,Q (.int es.size t) { s with toks:=tk }):wpAny (model prog w) A (call (.builtin "len") [.ref d]) Q E s:=by
 have ty:s.TypeIs (.ref d) "dict":=⟨o,ho,ex.1⟩;refine Ky kind_len plain_len entry_len (args_len1 _) ?_;unfold Builtin.«len»;refine ae (m:=oneArg "len" _) (au (ae (m:=callSpecial? (.ref d) (a8 "__len__")) ?_));refine ig (name:=a8 "__len__") ty F.slot_dict_len (call_meetsIn F.slot_dict_len ty F.entry_dict_len (F.args_dict_len_1 _) (Li d hd) ⟨o,es,ep,⟨ho,dd⟩,?_⟩);show wpAny _ _ _ _ _ { s with toks:=s.toks+1 };refine ae (du (au (ae (ED ?_))));have n1:¬ ((es.size:Nat):Int) < 0:=by lia
 have n2:¬ ((es.size:Nat):Int)>=2 ^ 63:=by lia
 show wpAny _ _ (if ((es.size:Nat):Int) < 0 then _ else _) _ _ _;rw [if_neg n1];show wpAny _ _ (if ((es.size:Nat):Int)>=2 ^ 63 then _ else _) _ _ _;rw [if_neg n2];exact ae (wpAny_mkInt (au ⟨_,rfl,h _ _⟩))
end
end L2
namespace K2
open PySem PySem.Spec PyProof.Rows L2 PySem.W
section
variable {X:Cx}
theorem Mn:oP X (.builtin "len") JC:=by
 intro pins s σ H G xs ds us Q I ab rx rd q;unfold JC at q;split at q
 ·rename_i a;split at q
  ·rename_i bo hg;obtain⟨hz,q⟩:=q;obtain⟨w1,rfl,Bp⟩:=rd.one;obtain⟨u,rfl,ru⟩:=rx.one;cases Bp;cases ru;rcases ab a _ hg with ⟨kv,hq,rs⟩ | ⟨kv,hq,rs⟩
   ·obtain⟨z,hm,vs,rel,ob,es,ep,ho,ex,dd,hko,hp,nd⟩:=I.cO a _ hq;have l1:es.size=vs.length:=by simpa using hp.length
    have l2:kv.length=vs.length:=lX rel;have l3:=rs.length;have e:es.size=bo.length:=by lia
    refine Ej hm ho ex dd (by lia) fun t tk=>?_;rw [e];exact⟨.int _,H,.int _,G,I.tok _,.refl ab,⟨_,rfl⟩,.int _,q⟩
   ·obtain⟨z,hm,ys,rel,ob,es,ep,ho,ex,dd,hl,nd⟩:=I.cO a _ hq;have l1:=congrArg gO hl;rw [ai,bS] at l1;have l2:=lX rel;have l3:=rs.length;have e:es.size=bo.length:=by lia
    refine Ej hm ho ex dd (by lia) fun t tk=>?_;rw [e];exact⟨.int _,H,.int _,G,I.tok _,.refl ab,⟨_,rfl⟩,.int _,q⟩
  ·exact q.elim
 ·exact q.elim
variable {a:Expr} {ta:fM} {pos p Fy p2:Pos}
end
end K2
end
section
namespace K2
open PySem PySem.Spec PyProof.Rows L2
section
variable {X:Cx}
def K0(neg:Bool):Ey:=fun x y G Q=>match y with
 | .cR=>sE neg x G Q
 | _=>False
theorem Wt{H:Hp}{x:V}{dx:D}{v:Value}(r:RelV x v)(rd:cQ X.K H x dx)(h:dx≠.cR):v≠.none:=by
 intro z;subst z;cases rd with
 | cR=>exact h rfl
 | bl b=>cases r
 | int i=>obtain⟨t,e⟩:=r; cases e
 | str x=>obtain⟨t,e⟩:=r; cases e
 | _=>cases r
theorem M0{neg:Bool}{x:D}{G:Gp}{Q:DK}(h:x≠.cR)(q:sE neg x G Q):Q (.bl neg) G:=by
 cases x with
 | cR=>exact absurd rfl h
 | _=>exact q
theorem Nf:oN X (dU .Is) (K0 false):=by
 intro pins s σ H G x y dx dy v u Q I ab rx ry dX dY q;unfold K0 at q;split at q
 ·cases dY;cases ry;by_cases h:dx=.cR
  ·subst h;cases dX;cases rx;exact is_none_none ⟨.bl true,H,.bl true,G,I,.refl ab,rfl,.bl _,q⟩
  ·exact is_none_ne (Wt rx dX h) ⟨.bl false,H,.bl false,G,I,.refl ab,rfl,.bl _,M0 h q⟩
 ·exact q.elim
theorem OZ:oN X (dU .IsNot) (K0 true):=by
 intro pins s σ H G x y dx dy v u Q I ab rx ry dX dY q;unfold K0 at q;split at q
 ·cases dY;cases ry;by_cases h:dx=.cR
  ·subst h;cases dX;cases rx;exact isnot_none_none ⟨.bl false,H,.bl false,G,I,.refl ab,rfl,.bl _,q⟩
  ·exact isnot_none_ne (Wt rx dX h) ⟨.bl true,H,.bl true,G,I,.refl ab,rfl,.bl _,M0 h q⟩
 ·exact q.elim
variable {a:Expr} {ta:fM} {pos p:Pos}
theorem Va{j}(ha:gy X a ta):gy X (.Compare a [.Is] [.Constant .none j p] pos) (sP (sE false) ta) :=
 show gy X _ (a9 (K0 false) ta (dC .cR)) from wV Nf ha j8 (gc _)
end
section
variable {K:ag} {h:Heap} {C:Addr} {lU:List Value} {newId:String}
theorem YH{P:Prop}{m:List Value}{sl:List (Option Value)}{f:Addr->List Value->Option Value->Option Value->Option Value->Option Value->String->Option Value->Bool}
  (q:PySem.W.excIn.match_1 (fun _ _=>Bool) m sl f (fun _ _=>false)=true)
  (k:∀ C' bm k0 k1 k2 k3 n k5,m=.ref C' :: bm->sl=[k0,k1,k2,k3,some (.builtin n),k5]->f C' bm k0 k1 k2 k3 n k5=true->P):P:=by
 have no:false=true->P:=fun z=>a6 z;cases m with
 | nil=>exact no q
 | cons v bm =>
  cases v with
  | ref C' =>
   obtain _ | ⟨k0,_ | ⟨k1,_ | ⟨k2,_ | ⟨k3,_ | ⟨_ | w,sl⟩⟩⟩⟩⟩:=sl
   iterate 6 exact no q
   cases w with
   | builtin n =>
    obtain _ | ⟨k5,_ | _⟩:=sl
    ·exact no q
    ·exact k C' bm k0 k1 k2 k3 n k5 rfl rfl q
    ·exact no q
   | _=>exact no q
  | _=>exact no q
inductive Tv (h:Heap) (C:Addr) (lU:List Value) (newId:String):Prop
 | mk (bm N nm qn bs mU sn sub ab col dd k0 k1 k2 k3 k5 mN) (o:h.get? C=some (jK nm qn C N bs bm mU sn sub ab col dd k0 k1 k2 k3 k5 newId)) (n:h.Ns N mN) (i:mN "__init__" = none) (t:OwnTail h lU bm):Tv h C lU newId
theorem VM(Y:K.In h)(q:lH K C lU newId=true):Tv h C lU newId:=by
 unfold lH at q;split at q
 rotate_left
 ·cases q
 rename_i dd cd sl ho;refine YH q fun C' bm k0 k1 k2 k3 n k5 hm hs q=>?_;obtain⟨nm,bs,mro,ns,qn,hd,sn,sub,ab,col,del⟩:=cd;obtain⟨sl⟩:=sl;subst hm hs;have q:(C' == C&&n == newId&&!del&&Hm K lU bm&&PySem.W.nsOkIn K ns&&bh K ns "__init__" == some none)=true:=q;simp only [aI,beq_iff_eq,g6] at q;obtain⟨⟨⟨⟨⟨e1,e2⟩,e3⟩,e4⟩,e5⟩,e6⟩:=q;subst e1 e2 e3;exact⟨bm,_,_,_,_,_,_,_,_,_,dd,k0,k1,k2,k3,k5,_,Y _ _ ho,.of_isNs (zT Y e5),PySem.W.nsMap_none_of_in Y e5 e6,zS Y e4⟩
def vg(K:ag)(C:Addr)(lU:List Value)(newId:String):Bool:=match K.lookup C with
 | some ⟨.type "type",_,.cls cd,sl⟩=>(match cd.mro,sl.toList with
  | .ref C' :: bm,[_,_,_,_,some (.builtin n),_]=>C' == C&&n == newId&&!cd.hasDel&&Hm K lU bm
  | _,_=>false)
 | _=>false
inductive Tt (h:Heap) (C:Addr) (lU:List Value) (newId:String):Prop
 | mk (bm N nm qn bs mU sn sub ab col dd k0 k1 k2 k3 k5) (o:h.get? C=some (jK nm qn C N bs bm mU sn sub ab col dd k0 k1 k2 k3 k5 newId)) (t:OwnTail h lU bm):Tt h C lU newId
theorem AW(Y:K.In h)(q:lH K C lU newId=true\/vg K C lU newId=true):Tt h C lU newId:=by
 rcases q with q | q
 ·obtain⟨_,_,_,_,_,_,_,_,_,_,_,_,_,_,_,_,_,o,_,_,t⟩:=VM Y q;exact⟨_,_,_,_,_,_,_,_,_,_,_,_,_,_,_,_,o,t⟩
 unfold vg at q;split at q
 rotate_left
 ·cases q
 rename_i dd cd sl ho;split at q
 rotate_left
 ·cases q
 rename_i C' bm k0 k1 k2 k3 n k5 hm hs;obtain⟨nm,bs,mro,ns,qn,hd,sn,sub,ab,col,del⟩:=cd;obtain⟨sl⟩:=sl;have hm:mro=_:=hm;have hs:sl=_:=hs;subst hm hs;simp only [aI,beq_iff_eq,g6] at q;obtain⟨⟨⟨e1,e2⟩,e3⟩,e4⟩:=q;subst e1 e2;have e3:del=false:=e3;subst e3;exact⟨bm,_,_,_,_,_,_,_,_,_,dd,k0,k1,k2,k3,k5,Y _ _ ho,zS Y e4⟩
end
theorem _root_.Internal.L2.gu.there{P:bx}{w:World}{H:Hp}{h:Heap}{a:Addr}{o:HO}(x:gu P w H h a o):∃ ob,h.get? a=some ob:=by
 cases o with
 | lst xs=>obtain⟨_,_,_,_,e⟩:=x; exact⟨_,e⟩
 | tup xs=>obtain⟨_,_,_,ob,e,_⟩:=x; exact⟨_,e⟩
 | dK bo=>obtain⟨_,_,_,_,o,_,_,e,_⟩:=x; exact⟨_,e⟩
 | dT bo=>obtain⟨_,_,_,_,o,_,_,e,_⟩:=x; exact⟨_,e⟩
 | set S n=>obtain⟨o,_,_,_,e,_⟩:=x; exact⟨_,e⟩
 | ins C dx fs=>obtain⟨_,_,_,e,_⟩:=x; exact⟨_,e⟩
 | own y=>exact x
 | xd fs=>obtain⟨_,⟨_,_,_,e,_⟩,_⟩:=x; exact⟨_,e⟩
 | ZT lo hi=>obtain⟨_,_,_,e⟩:=x; exact⟨_,e⟩
 | jw ob u=>obtain⟨e,_⟩:=x; exact⟨_,e⟩
 | Uz ps=>obtain⟨_,e,_⟩:=x; exact⟨_,e⟩
 | met f y=>exact⟨_,x⟩
 | ext φ=>obtain⟨_,e,_⟩:=x; exact e
section
variable {M:Model} {A:cX} {E:Value->ao->Prop} {s:ao} {B:Heap} {env:Env} {outer l:List Env} {L e:Addr} {cls a0:Value}
theorem Dr.there{h:Heap}(x:Dr B l e cls a0 h):∃ ob,h.get? e=some ob/\ob.cls=cls:=by
 obtain⟨_,_,_,⟨_,y⟩ | ⟨oe,_,he,hc,_⟩⟩:=x
 ·exact y.there
 ·exact⟨oe,he,hc⟩
theorem BE{Q:Unit->ao->Prop}(Sk:A.frames=some (env :: outer))(hf:env.frame=some L)(NF:Dr B (env :: outer) e cls a0 s.heap)
  (hQ:∀ h',AD B (env :: outer) e cls a0 L h'->s.heap.UpToSlots h'->Q () { s with heap:=h' }):wpAny M A (sT (.ref e) env) Q E s:=by
 obtain⟨f1,f2,f3,⟨fl,ht⟩ | ⟨oe,vs,he,hc,hd,h0,h1⟩⟩:=NF
 ·by_cases q:fl=r8 L
  ·subst q;exact wpAny_noteFrame_againW hf ht (hQ _ ⟨f1,f2,f3,ht⟩ fun b o e _=>⟨o.slots,e⟩)
  ·obtain⟨oe,vs,T,oT,ts,he,⟨C1,h0⟩,hd,h1,hnT,hTe,hT,WI,h3⟩:=ht;subst C1;unfold sT;simp only [hf];refine ae (pP he hd h1 ?_);rw [if_pos (show (dF T != c8)=true from by simp)];refine ae (pP hT WI h3 ?_);rw [if_neg (show ¬ ((fl == r8 L)=true) from fun z=>q (eq_of_beq z))];refine ae (mq hT WI (Array.getElem?_eq_some_iff.mp h3).1 ?_);have other:∀ b,b≠T->(s.heap.update T (mQ (·.setIfInBounds 3 c8))).get? b=s.heap.get? b:=fun b hb=>cN _ _ (jz hb);have tS:∀ b o,s.heap.get? b=some o->(∀ vs,o.data≠.fields vs)->b≠T:=fun b o hb J8 q=>by
    rw [q,hT] at hb; injection hb with hb; subst hb; exact J8 ts WI
   exact wpAny_entryW Sk (f3.of_keeps fun b o hb J8=>⟨o,(other b (tS b o hb J8)).trans hb,rfl⟩) hf ((other e (jz hTe)).trans he)
    (fun b o Yr=>(other b fun q=>by rw [q,hnT] at Yr; cases Yr).trans (f1 b o Yr)) f2 hd (Array.getElem?_eq_some_iff.mp h1).1 h0
    fun h' ⟨x1,x2,x3,x4⟩=>hQ h' ⟨x1,f2,x2,x3⟩ fun b o hb J8=>x4 b o ((other b (tS b o hb J8)).trans hb) J8
 ·subst hc;unfold sT;simp only [hf];refine ae (pP he hd h1 ?_);rw [if_neg (by decide)];exact wpAny_entryW Sk f3 hf he f1 f2 hd (Array.getElem?_eq_some_iff.mp h1).1 h0 fun h' ⟨x1,x2,x3,x4⟩=>hQ h' ⟨x1,f2,x2,x3⟩ x4
theorem Lu{Q:Unit->ao->Prop}(Sk:A.frames=some (env :: outer))(hf:env.frame=some L)(NF:Dr B (env :: outer) e cls a0 s.heap)
  (hQ:∀ h',Dr B outer e cls a0 h'->s.heap.UpToSlots h'->Q () { s with heap:=h' }):wpAny M A (leaving env (.ref e)) Q E s:=by
 unfold leaving;refine ae (BE Sk hf NF fun h4 held QD=>wpAny_landsW held fun h' fl up=>?_);obtain⟨k1,k2,⟨_,_,k3⟩,k4⟩:=fl;exact hQ h' ⟨k1,k2,k3,.inl ⟨_,k4⟩⟩ (QD.trans up)
end
def Kd{α:Type}:Sem α->Prop
 | .pure _=>True
 | .raise _=>True
 | .unsupported _=>True
 | .finish _=>True
 | .rule _ k=>Kd (k ())
 | .at _ k=>Kd (k ())
 | .load _ _ k=>∀ o,Kd (k o)
 | .update _ _ f k=>(∀ o,(f o).dict=o.dict)/\Kd (k ())
 | .alloc _ k=>∀ a,Kd (k a)
 | .stack k=>∀ l,Kd (k l)
 | _=>False
def Zq(h h':Heap):Prop:=∀ (b:Nat) (d:Option Addr),(h.objs[b]?).map Obj.dict=some d->(h'.objs[b]?).map Obj.dict=some d
section
variable {α β:Type} {M:Model} {Γ:PySem.Ctx} {p:Pos} {s:ao}
theorem ZD{Q:α->Pos->ao->Prop}{E:Value->Pos->ao->Prop}(h0:Heap):∀ (t:Sem α) (p:Pos) (s:ao),Zq h0 s.heap->Kd t->Sem.wp M Γ t Q E p s->Sem.wp M Γ t (fun a p' s'=>Q a p' s'/\Zq h0 s'.heap) E p s:=by
 intro t;induction t with
 | pure a=>intro p s k _ h; exact⟨h,k⟩
 | raise e=>intro p s k _ h; exact h
 | unsupported e=>intro p s k _ h; exact h
 | finish e=>intro p s k _ h; exact h
 | rule _ k ih=>intro p s d q h; exact ih _ _ _ d q h
 | «at» _ k ih=>intro p s d q h; exact ih _ _ _ d q h
 | load a _ k ih=>intro p s d q h; obtain⟨o,e,h⟩:=h; exact⟨o,e,ih _ _ _ d (q o) h⟩
 | update a _ f k ih =>
  intro p s d q h;refine⟨h.1,ih _ _ _ (fun b x e=>?_) q.2 h.2⟩;have e1:=d b x e;show ((s.heap.objs.modify a f)[b]?).map Obj.dict=some x;rw [Array.getElem?_modify];by_cases z:a=b
  ·rw [if_pos z];cases w:s.heap.objs[b]? with
   | none=>rw [w] at e1; exact e1
   | some o=>rw [w] at e1; exact(congrArg some (q.1 o)).trans e1
  ·rw [if_neg z]; exact e1
 | alloc o k ih =>
  intro p s d q h;refine ih _ _ _ (fun b x e=>?_) (q _) h;have e1:=d b x e;show ((s.heap.objs.push o)[b]?).map Obj.dict=some x;rw [Array.getElem?_push];by_cases z:b=s.heap.objs.size
  ·rw [z,ic (aK _)] at e1; cases e1
  ·rw [if_neg z]; exact e1
 | stack k ih=>intro p s d q h; exact ih _ _ _ d (q _) h
 | _=>intro p s _ q _; exact q.elim
theorem gI{m:Sem α}{f:α->Sem β}(h:Kd m)(k:∀ a,Kd (f a)):Kd (m >>= f):=by
 show Kd (Sem.bind m f);induction m with
 | pure a=>exact k a
 | raise e=>exact bu
 | unsupported w=>exact bu
 | finish e=>exact bu
 | rule _ g ih=>exact ih _ h
 | «at» _ g ih=>exact ih _ h
 | load a _ g ih=>exact fun o=>ih _ (h o)
 | update a _ f g ih=>exact⟨h.1,ih _ h.2⟩
 | alloc o g ih=>exact fun o=>ih _ (h o)
 | stack g ih=>exact fun o=>ih _ (h o)
 | _=>exact h.elim
theorem y0{A:cX}{t:Sem α}{Q:α->ao->Prop}{E:Value->ao->Prop}(h:wpAny M A t Q E s)(k:Kd t):wpAny M A t (fun a s'=>Q a s'/\Zq s.heap s'.heap) E s :=
 fun Γ p hΓ=>ZD s.heap t p s (fun _ _ e=>e) k (h Γ p hΓ)
theorem Zq.at{h h':Heap}{a:Addr}{o o':Obj}(d:Zq h h')(e:h.get? a=some o)(e':h'.get? a=some o'):o'.dict=o.dict:=by
 have raw:∀ {h:Heap} {o:Obj},h.get? a=some o->h.objs[a]?=some o:=fun {h o} e=>by
  unfold Heap.get? at e;split at e
  ·cases e
  ·exact e
 have:=d a o.dict (by rw [raw e]; rfl);rw [raw e'] at this;exact bC this
theorem Vm(f:Array Value->Array Value)(o:Obj):(o.mapFields f).dict=o.dict:=by
 unfold mQ; split <;> rfl
theorem xh(v:Value)(i:Nat):Kd (field v i):=by
 unfold field fieldsOf;refine gI ?_ fun a=>?_
 ·cases v with
  | ref a =>
   refine gI (fun o=>bu) fun o=>?_;split <;> exact bu
  | _=>exact bu
 ·split <;> exact bu
theorem tY(v:Value)(i:Nat)(x:Value):Kd (Hi v i x):=by
 unfold Hi updateField;cases v with
 | ref a =>
  refine gI (fun o=>bu) fun o=>?_;split
  ·split
   ·exact⟨Vm _,bu⟩
   ·exact bu
  ·exact bu
 | _=>exact bu
theorem nH(e:Value)(f:Option Addr):Kd (Hh e f):=by
 unfold Hh;refine gI (xh _ _) fun tb=>?_;split
 ·exact tY _ _ _
 ·exact bu
theorem RP{f:List (Code×Pos)->Sem α}(k:∀ l,Kd (f l)):Kd (stack >>= f):=fun l=>k l
theorem RQ:∀ l:List Env,Kd (readyFrames l):=by
 intro l;induction l with
 | nil=>exact bu
 | cons env outer ih =>
  unfold readyFrames;split
  rotate_left
  ·exact bu
  refine gI (fun o=>bu) fun o=>?_;split
  ·exact bu
  refine gI ?_ fun im=>gI ?_ fun bk=>⟨fun o=>rfl,ih⟩
  ·unfold behindIsImport;split
   ·exact bu
   show Kd (if _ then _ else _);split
   ·exact bu
   exact gI (xh _ _) fun _=>bu
  ·unfold keptBack;split
   ·split
    ·exact bu
    ·unfold underTheClaimsCaller;exact gI (fun l=>bu) fun _=>bu
   ·exact bu
theorem FO(e:Value)(env:Env):Kd (sT e env):=by
 unfold sT;split
 rotate_left
 ·exact bu
 have go:∀ (head:Value) (f:Addr),Kd (do Hi e 1 (← MI head (← PySem.frameOf env) .none (r8 f) .none (← entryPlaceOf f (head != .none)))):=fun head f=>by
  refine gI ?_ fun fr=>gI ?_ fun pl=>gI ?_ fun b=>tY _ _ _
  ·unfold PySem.frameOf frameEnvs;refine gI (fun l=>bu) fun l=>gI ?_ fun r=>?_
   ·cases hl:List.dropWhile (fun x=>x.frame != env.frame) l with
    | nil=>exact bu
    | cons env outer=>exact gI (RQ _) fun _=>bu
   ·split <;> exact bu
  ·unfold entryPlaceOf;refine RP fun l=>?_;split <;> exact bu
  ·unfold MI newFields newObj;generalize ([head,fr,c8,r8 f,c8]++_:List Value).toArray=xs;dsimp only;split
   ·exact bu
   ·exact fun a=>bu
 refine gI (xh _ _) fun head=>?_;split
 ·refine gI (xh _ _) fun x=>?_;split
  ·exact bu
  ·exact gI (tY _ _ _) fun _=>go _ _
 ·exact go _ _
theorem Lx(env:Env)(e:Value):Kd (leaving env e):=gI (FO _ _) fun _=>nH _ _
end
theorem Rx{X:Cx}{pins:List (Addr×Obj)}{σ:L2.St}{H1:Hp}{s1:ao}{h1 h' B:Heap}(I:Inv X pins σ H1 s1)(uW:X.stack=X.env :: X.outer)(Pg:X.env.frame=some X.env.locals)(hex:X.ex=[])
  (aau:∀ b o,s1.heap.get? b=some o->h1.get? b=some o) (hB:∀ b o,s1.heap.get? b=some o->b∉o4 X.stack->(X.jc.heap.get? b≠none\/H1 b≠none)->B.get? b=some o) (jo:B.StaysIn h') (up:h1.UpToSlots h') :
  Un (o4 X.outer) [] X.PR H1 X.jc.heap h'/\sL X.prog X.w H1 h'/\∀ b o,h'.get? b=some o->b∉o4 X.outer->(X.jc.heap.get? b≠none\/H1 b≠none)->B.get? b=some o:=by
 have efr:o4 X.stack=X.env.locals :: o4 X.outer:=by rw [uW]; unfold o4; rw [lJ Pg]
 have RB:∀ b,b∉o4 X.outer->b≠X.env.locals->b∉o4 X.stack:=fun b h1 h2 h3=>by
  rw [efr] at h3;rcases List.mem_cons.mp h3 with e | e
  ·exact h2 e
  ·exact h1 e
 have old:∀ b o,X.jc.heap.get? b=some o->b≠X.env.locals:=fun b o q=>bI (bJ (aN q) I.ok.above);have tr:∀ b u,H1 b=some u->b∉o4 X.stack:=fun b u q hb=>by rw [I.AG b hb] at q; cases q
 have nx:∀ b:Addr,b∉X.ex:=fun b=>by rw [hex]; exact gN
 have frame:∀ b o,b∈o4 X.outer->s1.heap.get? b=some o->∃ sl,h'.get? b=some { o with slots:=sl }:=fun b o hb e=>by
  obtain⟨_,o2,e2,nf⟩:=I.stack.mem (show b∈o4 X.stack by rw [efr]; exact .tail _ hb);rw [e] at e2; cases e2;exact up b o (aau b o e) nf
 have go:∀ b o,s1.heap.get? b=some o->b∉o4 X.stack->(X.jc.heap.get? b≠none\/H1 b≠none)->h'.get? b=some o:=fun b o e n c=>jo b o (hB b o e n c);refine⟨⟨fun b o q n hb _=>?_,fun b o q n hb _=>?_,fun b o q n _=>I.base.free b o q n (nx b),fun b o q _=>?_,I.base.pW,I.base.o3,I.base.sC,I.base.sG⟩,fun a o q=>?_,fun b o e hb hc=>?_⟩
 ·exact go b o (I.base.keep b o q n hb (nx b)) (RB b hb (old b o q)) (.inl (by rw [q]; simp))
 ·obtain⟨sl,e⟩:=I.base.slot b o q n hb (nx b);obtain⟨DH,e2⟩:=frame b _ hb e;exact⟨DH,e2⟩
 ·obtain⟨o',e⟩:=I.base.there b o q (nx b);by_cases hb:b∈o4 X.outer
  ·obtain⟨DH,e2⟩:=frame b _ hb e; exact⟨_,e2⟩
  ·exact⟨o',go b o' e (RB b hb (old b o q)) (.inl (by rw [q]; simp))⟩
 ·refine(I.cO a o q).jo (fun b u hb e=>?_) (fun b r=>r) (fun b xs r=>r);rcases hb with rfl | hb
  ·exact go b u e (tr b _ q) (.inr (by rw [q]; simp))
  ·exact go b u e (tr b _ hb) (.inr (by rw [hb]; simp))
 ·have n:b∉o4 X.stack:=by
   rcases hc with hc | hc
   ·cases q:X.jc.heap.get? b with
    | none=>exact absurd q hc
    | some o0=>exact RB b hb (old b o0 q)
   ·cases q:H1 b with
    | none=>exact absurd q hc
    | some u=>exact tr b u q
  have:∃ o1,s1.heap.get? b=some o1:=by
   rcases hc with hc | hc
   ·cases q:X.jc.heap.get? b with
    | none=>exact absurd q hc
    | some o0=>exact I.base.there b o0 q (nx b)
   ·cases q:H1 b with
    | none=>exact absurd q hc
    | some u=>exact(I.cO b u q).there
  obtain⟨o1,e1⟩:=this;have e2:=go b o1 e1 n hc;rw [e] at e2; cases e2;exact hB b o e1 n hc
section
variable {P:bx} {w:World} {K:ag} {mg:Str->Option Value} {base:Heap} {N:List Str} {qual:Str} {scope:Scope} {f:Addr} {cd:Value} {A:cX} {outer:List Env} {s:ao} {H:Hp} {Ek:XK} {E2:lu}
theorem aar(ke:∀ ex C H' G' o,E2 ex G'->lW K H' G'->mg ex.cls=some (.ref C)->WW K H' ex.xA o->Ek (.ref C) o H'):Lk (yU (EB P w) P w K mg base N qual scope f cd A outer s H Ek) E2 where
 pass:=fun pins σ H1 s1 s' e I D5=>by
  obtain⟨a,C,t,B,H',e1,os,bare,un,cO,hB,fl,ha,hs,oe,he,ex,C',G2,e2,hm,VD,hE,hf⟩:=D5;subst e1; cases e2;show wpAny (model P w) _ (leaving _ (.ref a)) _ _ _;have I':Inv (yU (EB P w) P w K mg base N qual scope f cd A outer s H Ek) pins σ H' s':=by
   obtain⟨hh,g,d,t,Z6⟩:=s';obtain rfl:Z6=s1.os:=os;exact I.call (h':=hh) (g':=g) (d':=d) (t':=t) (ch:=[]) un cO bare (fun b z=>absurd z (by simp))
  refine eY (y0 (Lu (Q:=fun _ s2=>∃ h',Dr B outer a (.ref C) (.ref t) h'/\s'.heap.UpToSlots h'/\s2={ s' with heap:=h' }) I.ok.frames rfl fl fun h' YE up=>⟨h',YE,up,rfl⟩) (Lx _ _)) ?_ (fun _ _ z=>z);rintro _ s2 ⟨⟨h',YE,up,rfl⟩,dk⟩;obtain⟨oe',he',_⟩:=YE.there;have dk:=dk.at he he';obtain⟨ZE,LD,hB'⟩:=Rx I' rfl rfl rfl (fun _ _ e=>e) (fun b o e n c=>hB b o e n (c.imp (fun z=>by
   cases q:s.heap.get? b with
   | none=>exact absurd q z
   | some o0=>obtain⟨o1,e1⟩:=I.base.there b o0 q gN; rw [e1]; simp) id)) YE.1 up
  refine⟨a,C,t,B,H',rfl,I'.os,I'.bare,ZE,LD,hB',YE,ha,?_,oe',he',ke ex C H' G2 _ hE VD hm (by rw [dk]; exact hf)⟩;cases q:s.heap.get? a with
  | none=>rfl
  | some o=>obtain⟨o1,e1⟩:=I.base.there a o q gN; rw [e1] at hs; cases hs
end
def mZ(K:ag)(mg:Str->Option Value)(sp:nR):Sp:=fun vs H Q E=>∃ ds G Q2 E2,bc K H vs ds/\lW K H G/\sp ds G Q2 E2/\(∀ d G' v H',Q2 d G'->Mv K H G H' G'->cQ K H' v d->Q v H') /\
 ∀ (ex:Ex) (C:Addr) (H':Hp) (G':Gp) (o:Option Addr),E2 ex G'->lW K H' G'->mg ex.cls=some (.ref C)->WW K H' ex.xA o->E (.ref C) o H'
theorem VE{P:bx}{w:World}{K:ag}{mg:Str->Option Value}{base:Heap}{x qual:Str}{st:Stmt}{f:Addr}{fd:aH}{Nn ps:List Str}{k:Nat}{sp:nR}{rd:i5}(F:p7 K x qual st f fd)(S:cG Nn ps (aX st))(len:∀ ds G Q E,sp ds G Q E->ds.length=ps.length)
  (hr:∀ ds G Q E,sp ds G Q E->rd E (ends Q) (bL Nn.length ds) G)
  (hb:∀ (lD:Value) (A:cX) (outer:List Env) (s:ao) (H:Hp) (E:XK),jI k (A.deeper (ze qual (aX st) s.heap.objs.size f lD))->sJ (yU (EB P w) P w K mg base Nn qual (aX st) f lD A outer s H E) (hX st) rd):fU P w K mg base (EB P w) (k+1) f fd ps (mZ K mg sp):=by
 obtain⟨oc,od,kV,doc,pm,an,lD,ct,Nd,rfl,lk,vT⟩:=F.ex;refine WK lk vT S ((by rintro vs H Q E ⟨ds,G,Q2,E2,r,ab,q,_⟩; exact by rw [r.length]; exact len _ _ _ _ q)) ?_;rintro A outer s H vs Q E IC ⟨ds,G,Q2,E2,r,ab,q,kk,ke⟩;refine⟨_,Rf (hb lD A outer s H E IC) (aar ke),?_⟩;exact⟨bL Nn.length ds,G,ends Q2,Bg r,ab,hr ds G Q2 E2 q,fun kG H' pV G' mv z=>kk _ _ _ _ z mv .cR,fun v H' d G' mv UW z=>kk _ _ _ _ z mv UW,fun _ _ z=>z,fun _ _ z=>z⟩
def RL:HO->Bool
 | .tup _=>true
 | .jw _ (.lst _)=>true
 | .jw _ (.dK _)=>true
 | .jw _ (.dT _)=>true
 | .jw _ (.ext _)=>true
 | .jw _ (.xd _)=>true
 | _=>false
def hr(H:Hp):Hp:=fun b=>(H b).bind fun o=>if RL o=true then some o else none
def hj(H1 H':Hp):Hp:=fun b=>match H1 b with
 | some o=>some o
 | none=>H' b
section
variable {P:bx} {w:World} {K:ag} {H H1 H':Hp} {h h':Heap} {b:Addr} {o:HO} {fs:List Addr}
theorem VB(q:hr H b=some o):H b=some o/\RL o=true:=by
 unfold hr at q;cases e:H b with
 | none=>rw [e] at q; cases q
 | some u =>
  rw [e] at q;simp only [oR] at q;by_cases k:RL u=true
  ·rw [if_pos k] at q; cases q; exact⟨rfl,k⟩
  ·rw [if_neg k] at q; cases q
theorem qy(q:H b=some o)(k:RL o=true):hr H b=some o:=by unfold hr; rw [q,oR,if_pos k]
theorem xn(q:H b=none):hr H b=none:=by unfold hr; rw [q]; rfl
theorem R9(q:H b=some o)(k:RL o=false):hr H b=none:=by unfold hr; rw [q,oR,if_neg (by rw [k]; exact fL)]
theorem Yd(x:sL P w H h):sL P w (hr H) h:=fun a o q=>by
 obtain⟨e,k⟩:=VB q;have y:=x a o e;cases o with
 | tup xs=>exact y
 | jw ob u =>
  cases u with
  | lst _=>exact y
  | dK _=>exact y
  | ext _=>exact y
  | xd _=>exact y
  | dT bo =>
   obtain⟨e1,z,n,xs,r,rest⟩:=y;exact⟨e1,z,n,xs,L2.Paired.XT r (fun p q z=>⟨z.1,qy z.2.1 rfl,z.2.2⟩),rest⟩
  | _=>exact a6 (show false=true from k)
 | _=>exact a6 (show false=true from k)
theorem pI(q:H1 b=some o):hj H1 H' b=some o:=by unfold hj; rw [q]
theorem rK(q:H1 b=none):hj H1 H' b=H' b:=by unfold hj; rw [q]
theorem join(un:Un fs [] (hr H1) H' h h')(k1:sL P w H1 h)(k2:sL P w H' h')(fr:∀ b∈fs,H1 b=none) :
  Un fs [] H1 (hj H1 H') h h'/\sL P w (hj H1 H') h'/\Kp H' (hj H1 H')/\∀ b u,(∀ o,H1 b=some o->RL o=false\/∃ ob v,o=.jw ob v)->H1 b≠none->h.get? b=some u->h'.get? b=some u:=by
 have nx:∀ c:Addr,c∉([]:List Addr):=fun c=>gN;have aai:∀ c u,H1 c=some u->c∉fs:=fun c u q z=>by rw [fr c z] at q; cases q
 have WS:∀ c u v,H1 c=some u->H' c=some v->u=v/\RL u=true:=fun c u v q q'=>by
  cases k:RL u with
  | false =>
   obtain⟨ob,e⟩:=(k1 c u q).there;have:=un.free c ob e (R9 q k) (nx c);rw [this] at q'; cases q'
  | true =>
   have r:=qy q k;cases u with
   | tup xs=>have:=un.pW c xs r; rw [q'] at this; cases this; exact⟨rfl,rfl⟩
   | jw ob x=>have:=un.o3 c ob x r; rw [q'] at this; cases this; exact⟨rfl,rfl⟩
   | _=>exact a6 (show false=true from k)
 have same:∀ b u,(∀ o,H1 b=some o->RL o=false\/∃ ob v,o=.jw ob v)->H1 b≠none->h.get? b=some u->h'.get? b=some u:=fun b u hh hn e=>by
  cases q:H1 b with
  | none=>exact absurd q hn
  | some o =>
   cases k:RL o with
   | false=>exact un.keep b u e (R9 q k) (aai b o q) (nx b)
   | true =>
    rcases hh o q with z | ⟨ob,v,rfl⟩
    ·rw [z] at k; cases k
    ·have h1:=(k2 b _ (un.o3 b ob v (qy q k))).1;have h2:=(k1 b _ q).1;rw [h2] at e; cases e;exact h1
 refine⟨⟨fun c u e n hc hx=>un.keep c u e (xn n) hc hx,fun c u e n hc hx=>un.slot c u e (xn n) hc hx,fun c u e n hx=>?_,fun c u e hx=>un.there c u e hx,fun c xs q=>pI q,fun c ob u q=>pI q,fun c ps q=>pI q,fun c x q=>pI q⟩,fun c o q=>?_,⟨fun c xs q=>?_,fun c ob u q=>?_⟩,same⟩
 ·rw [rK n]; exact un.free c u e (xn n) hx
 ·cases q1:H1 c with
  | some o1 =>
   rw [pI q1] at q; cases q;by_cases ht:∃ xs,o=.tup xs
   ·obtain⟨xs,rfl⟩:=ht;exact k2 c _ (un.pW c xs (qy q1 rfl))
   ·refine(k1 c o q1).jo (fun d u hd e=>?_) (fun d r=>pI r) (fun d xs r=>pI r);rcases hd with rfl | hd
    ·refine same d u (fun o' e'=>?_) (by rw [q1]; simp) e;rw [q1] at e'; cases e';cases o with
     | tup xs=>exact absurd ⟨xs,rfl⟩ ht
     | jw ob v=>exact .inr ⟨ob,v,rfl⟩
     | _=>exact .inl rfl
    ·refine same d u (fun o' e'=>?_) (by rw [hd]; simp) e;rw [hd] at e'; cases e';exact .inl rfl
  | none =>
   rw [rK q1] at q;refine(k2 c o q).jo (fun d u _ e=>e) (fun d r=>?_) (fun d xs r=>?_)
   ·cases q2:H1 d with
    | none=>rw [rK q2]; exact r
    | some u=>obtain⟨rfl,k⟩:=WS d u _ q2 r; exact a6 (show false=true from k)
   ·cases q2:H1 d with
    | none=>rw [rK q2]; exact r
    | some u=>obtain⟨rfl,k⟩:=WS d u _ q2 r; exact pI q2
 ·cases q2:H1 c with
  | none=>rw [rK q2]; exact q
  | some u=>obtain⟨rfl,k⟩:=WS c u _ q2 q; exact pI q2
 ·cases q2:H1 c with
  | none=>rw [rK q2]; exact q
  | some v=>obtain⟨rfl,k⟩:=WS c v _ q2 q; exact pI q2
end
theorem cQ.hr{K:ag}{H:Hp}{v:V}{d:D}(h:cQ K H v d):cQ K (K2.hr H) v d :=
 cQ.rec (motive_1:=fun v d _=>cQ K (K2.hr H) v d) (motive_2:=fun v d _=>bc K (K2.hr H) v d) (motive_3:=fun v d _=>qR K (K2.hr H) v d) (motive_4:=fun v d _=>r0 K (K2.hr H) v d)
  .cR .bl .int .str (fun h _ r=>.tup (qy h rfl) r) (fun h _ r=>.fH (h.imp (fun q=>q.elim fun o q=>⟨o,qy q rfl⟩) id) r) (fun h _ r=>.uO (qy h rfl) r) (fun h _ r=>.uN (qy h rfl) r) .ref (fun h=>.exc (by obtain⟨o,C,h1,h2,h3⟩:=h; exact⟨o,C,qy h1 rfl,h2,h3⟩)) (fun h _ r=>.ye (by obtain⟨o,C,dx,od,fs,h1,h2,h3,h4,h5,h6⟩:=h; exact⟨o,C,dx,od,fs,qy h1 rfl,h2,h3,h4,qy h5 rfl,h6⟩) r) (fun h z _ _ r1 r2=>.DM (qy h rfl) z r1 r2) .nil (fun _ _ a b=>.cons a b) .nil (fun _ _ a b=>.cons a b) .nil (fun _ _ a b=>.cons a b) h
theorem bc.hr{K:ag}{H:Hp}{v:List V}{d:List D}(h:bc K H v d):bc K (K2.hr H) v d :=
 bc.Iy (P:=fun v d=>bc K (K2.hr H) v d) .nil (fun r _ ih=>.cons r.hr ih) h
section
variable {M:Model} {A:cX} {E:Value->ao->Prop}
variable {nm q nm' q':Str} {C N D N':Addr} {bs bm V2 bm':List Value} {mU So:Bool} {sn sn':List Str} {sub Xf:List Value} {ab PN:Bool} {col YR:Option Bool} {dd WM:Option Addr} {k0 k1 k2 k3 k5 k0' k1' k2' k3' k5':Option Value} {newId XQ:String}
theorem DV{h:Heap}{g:Array CK}{d:Drawn}{t:Nat}{os:OsState}{e:Addr}{oe:Obj}{Q:Bool->ao->Prop}
  (hC:h.get? C=some (jK nm q C N bs bm mU sn sub ab col dd k0 k1 k2 k3 k5 newId)) (hD:h.get? D=some (jK nm' q' D N' V2 bm' So sn' Xf PN YR WM k0' k1' k2' k3' k5' XQ))
  (he:h.get? e=some oe) (C1:oe.cls=.ref C) (Sr:bm'.contains (.type "BaseException")=true)
  (hq:Q ((dF C :: bm).contains (.ref D)) ⟨h,g,d,t,os⟩):wpAny M A (excMatches (.ref e) (.ref D)) Q E ⟨h,g,d,t,os⟩:=by
 have hcB:(dF D :: bm').contains (.type "BaseException")=true:=by rw [CI,Sr,Bool.or_true]
 have f:=tc_notTuple;generalize hb:(dF C :: bm).contains (.ref D)=r at hq;unfold excMatches
 repeat (first | (with_reducible refine jl he ?_; rw [C1]) | with_reducible refine jl hD ?_ | (with_reducible refine sQ hD ?_; rw [hcB]) | (with_reducible refine sQ hC ?_; rw [hb]) | wp_step)
 cases r
 ·wp_walk; exact hq
 ·wp_walk; exact hq
end
section
variable {X:Cx} {pins:List (Addr×Obj)} {σ:L2.St} {H1:Hp} {G1:Gp} {s1:ao} {k:Nat} {f:Addr} {fd:aH} {ps:List Str} {sp:nR}
theorem Wu{H':Hp}(ab:lW X.K H1 G1):Mv X.K H1 G1 (hj H1 H') G1:=by
 have kp:Kp H1 (hj H1 H'):=⟨fun a xs e=>pI e,fun a o u e=>pI e⟩;have PN:lW X.K (hj H1 H') G1:=fun a g e=>(ab a g e).mono kp (by
  cases q:H1 a with
  | none=>exact absurd q (ab a g e).tracked
  | some o=>exact pI q)
 exact⟨fun a o e n=>⟨pI e,n⟩,fun a n=>by
  cases q:G1 a with
  | none=>exact absurd q n
  | some g=>exact(PN a g q).tracked,PN⟩
theorem Q0{us:List Value}{vs:List V}{ds:List D}{Q2:DK}{E2:lu}(F:fU X.prog X.w X.K X.mg X.base (EB X.prog X.w) k f fd ps (mZ X.K X.mg sp))(hr:jI k X.A)(hb:Binds X.K fd ps [])(I:Inv X pins σ H1 s1)(ab:lW X.K H1 G1)(r:Vals vs us)(rd:bc X.K H1 vs ds)
  (h:sp ds (fun _=>none) Q2 E2):wpAny (model X.prog X.w) X.A (call (.ref f) us)
   (fun u s'=>∃ v d G' Hj,Inv X pins σ Hj s'/\Mv X.K H1 G1 Hj G1/\RelV v u/\cQ X.K Hj v d/\Q2 d G'/\(∀ b g,G' b=some g->H1 b=none/\PX X.K Hj b g))
   (fun e s'=>∃ (a C t:Addr) (B:Heap) (ex:Ex) (Hj:Hp),e=.ref a/\Inv X pins σ Hj s'/\Mv X.K H1 G1 Hj G1/\Dr B X.stack a (.ref C) (.ref t) s'.heap /\
    (∀ b o,s'.heap.get? b=some o->b∉o4 X.stack->(s1.heap.get? b≠none\/Hj b≠none)->B.get? b=some o)/\Hj a=none/\s1.heap.get? a=none/\(∃ oe,s'.heap.get? a=some oe/\WW X.K Hj ex.xA oe.dict)/\X.mg ex.cls=some (.ref C)/\∃ G',E2 ex G') s1:=by
 have J0:mZ X.K X.mg sp vs (K2.hr H1) (fun v H'=>∃ d G',cQ X.K H' v d/\Q2 d G'/\lW X.K H' G') (exK X.K X.mg E2) :=
  ⟨ds,fun _=>none,Q2,E2,rd.hr,(fun _ _ z=>by cases z),h,fun d G' v H' q m Qa=>⟨d,G',Qa,q,m.ab⟩,fun ex C H' G' o q PN hm hf=>⟨ex,C,G',rfl,hm,PN,q,hf⟩⟩
 have hl:us.length=ps.length:=by rw [<-r.length]; exact F.len _ _ _ _ J0
 have e0:=I.YL;have e1:JP X.prog X.w X.K X.mg X.base X.A X.stack s1 (K2.hr H1):=⟨e0.frames,e0.mod,fun b o q=>⟨(e0.bs b o q).1,xn (e0.bs b o q).2⟩,e0.Qf,e0.xr,fun b z=>xn (e0.SH b z),Yd e0.cO,e0.bare⟩;have hbu:=hb s1 us I.qu (by rw [bV]; exact hl);rw [bV] at hbu;refine pQ (kK (F.run X.A X.stack s1 (K2.hr H1) ⟨us,[]⟩ us vs _ _ hr e1 hbu r J0) fun res s' hq=>?_);cases res with
 | error e =>
  obtain⟨a,C,t,B,H',rfl,os,bare,un,cO,hB,fl,ha,hs,oe,he,ex,C',G2,ec,hm,_,hE,hf⟩:=hq;cases ec;obtain⟨ZE,LD,kp',_⟩:=join un I.cO cO e0.SH;have h1a:H1 a=none:=by
   cases q:H1 a with
   | none=>rfl
   | some u=>obtain⟨o,e⟩:=(I.cO a u q).there; rw [e] at hs; cases hs
  refine⟨a,C,t,B,ex,hj H1 H',rfl,I.NY (ch:=[]) os ZE LD bare (fun b z=>absurd z (by simp)),Wu ab,fl,fun b o e n c=>hB b o e n ?_,by rw [rK h1a]; exact ha,hs,⟨oe,he,hf.mono kp'⟩,hm,G2,hE⟩;rcases c with c | c
  ·exact .inl c
  ·cases q:H1 b with
   | none=>rw [rK q] at c; exact .inr c
   | some u=>obtain⟨o1,e1⟩:=(I.cO b u q).there; exact .inl (by rw [e1]; simp)
 | ok fl =>
  cases fl with
  | ret u =>
   obtain⟨v,H',os,bare,un,cO,rv,d,G',Qa,q,abn⟩:=hq;obtain⟨ZE,LD,kp,_⟩:=join un I.cO cO e0.SH;refine⟨v,d,G',hj H1 H',I.NY (ch:=[]) os ZE LD bare (fun b z=>absurd z (by simp)),Wu ab,rv,Qa.mono kp,q,fun b g e=>?_⟩;have h1:H1 b=none:=by
    cases q1:H1 b with
    | none=>rfl
    | some u =>
     exfalso;have t:=(abn b g e).tracked;cases k:RL u with
     | false =>
      obtain⟨ob,eo⟩:=(I.cO b u q1).there;exact t (un.free b ob eo (R9 q1 k) gN)
     | true =>
      have r:=qy q1 k;cases u with
      | tup xs=>have:=abn.Wr (un.pW b xs r); rw [e] at this; cases this
      | jw ob x=>have:=abn.Ws (un.o3 b ob x r); rw [e] at this; cases this
      | _=>exact a6 (show false=true from k)
   exact⟨h1,(abn b g e).mono kp (rK h1)⟩
  | next=>exact bO hq
  | brk=>exact bO hq
  | cont=>exact bO hq
end
section
variable {X:Cx} {pins:List (Addr×Obj)} {σ:L2.St} {H H1:Hp} {s s1:ao} {h6 B:Heap} {a:Addr} {o:Obj} {u:HO}
theorem NX{h h':Heap}{c:Addr}{v:Option Value}(up:h.UpToSlots h')(z:h.IsCell c v):h'.IsCell c v:=by
 obtain⟨o,ho,hd⟩:=z;obtain⟨sl,e⟩:=up c o ho (fun vs q=>by rw [hd] at q; cases q);exact⟨_,e,hd⟩
theorem Rm(I:Inv X pins σ H s)(uW:X.stack=X.env :: X.outer)(Pg:X.env.frame=some X.env.locals){p:Addr×Obj}(hp:p∈X.pn++pins):p.1∉o4 X.stack:=fun z=>by
 obtain⟨_,_,h3,h4,_⟩:=I.pin p hp;rw [uW] at z; unfold o4 at z; rw [lJ Pg] at z;rcases List.mem_cons.mp z with e | e
 ·exact h3 e
 ·exact h4 e
theorem zb(I : Inv X pins σ H s)(I1 : Inv X pins σ H1 s1)(uW : X.stack = X.env :: X.outer)(Pg : X.env.frame = some X.env.locals)(hex : X.ex = [])
    (hB : ∀ b o, s.heap.get? b = some o -> b ∉ o4 X.stack -> (s1.heap.get? b ≠ none ∨ H b ≠ none) -> B.get? b = some o) (jo : B.StaysIn h6) (up : s.heap.UpToSlots h6) (tk : Nat) : Inv X pins σ H { s with heap := h6, toks := tk } := by
  have z := Rx I uW Pg hex (fun _ _ e => e) (fun b o e n c => hB b o e n (c.imp (fun c => by
    cases q : X.jc.heap.get? b with
    | none => exact absurd q c
    | some o0 => obtain⟨o1, e1⟩ := I1.base.there b o0 q (by rw [hex]; exact gN); rw [e1]; simp) id)) jo up
  exact { ok := I.ok, os := I.os, bare := I.bare
          base := by rw [hex]; exact z.1
          loc := by
            obtain⟨m, hn, hl⟩ := I.loc;exact⟨m, up.ns hn, fun i x v e1 e2 e3 => let ⟨u, r, q⟩ := hl i x v e1 e2 e3; ⟨u, r, q.imp id fun ⟨k, c, e, y⟩ => ⟨k, c, e, NX up y⟩⟩⟩
          cell := fun x c e => let ⟨v, y⟩ := I.cell x c e; ⟨v, NX up y⟩
          free := I.free, i8 := I.i8
          pin := fun p hp => by
            obtain⟨h1, h2⟩ := I.pin p hp;exact⟨jo _ _ (hB p.1 p.2 h1 (Rm I uW Pg hp) (.inl (by rw [(I1.pin p hp).1]; simp))), h2⟩
          cO := z.2.1
          len := I.len }
theorem PQ(I : Inv X pins σ H s)(ha : H a = none)(hn : X.jc.heap.get? a = none)(nl : a ≠ X.env.locals)(nc : ∀ x c, X.env.cells.lookup x = some c -> c ≠ a)(np : ∀ p ∈ X.pn ++ pins, p.1 ≠ a)(new : gu X.prog X.w (upd H a u) s.heap a u) :
    Inv X pins σ (upd H a u) s := by
  have ne : ∀ b v, H b = some v -> b ≠ a := fun b v q e => by rw [e, ha] at q; cases q
  exact { ok := I.ok, os := I.os, bare := I.bare
          base := ⟨I.base.keep, I.base.slot, fun b o q n hx => by
            have : b ≠ a := fun e => by rw [e, hn] at q; cases q
            rw [br this]; exact I.base.free b o q n hx, I.base.there, fun b xs q => by have r := I.base.pW b xs q; rw [br (ne _ _ r)]; exact r, fun b o v q => by have r := I.base.o3 b o v q; rw [br (ne _ _ r)]; exact r,
            fun b ps q => by have r := I.base.sC b ps q; rw [br (ne _ _ r)]; exact r,
            fun b x q => by have r := I.base.sG b x q; rw [br (ne _ _ r)]; exact r⟩
          loc := I.loc, cell := I.cell
          free := by rw [br (jz nl)]; exact I.free
          i8 := fun x c e => by rw [br (nc x c e)]; exact I.i8 x c e
          pin := fun p hp => by obtain⟨h1, h2, h3⟩ := I.pin p hp; exact⟨h1, by rw [br (np p hp)]; exact h2, h3⟩
          cO := fun b v q => by
            by_cases e : b = a
            · subst e; rw [cP] at q; cases q; exact new
            · rw [br e] at q
              exact(I.cO b v q).jo (fun _ _ _ y => y) (fun c r => by rw [br (ne _ _ r)]; exact r) (fun c xs r => by rw [br (ne _ _ r)]; exact r)
          len := I.len }
abbrev marked(X:Cx)(v:Value):Cx:={ X with A:=X.A.mark (some v),calm:=false,xe:=fun _ _=>False }
theorem V9{v:Value}(ok:X.Ok):(marked X v).Ok :=
 ⟨ok.mod,ok.kind,ok.glob,ok.blt,ok.above,ok.inj,ok.has,ok.Zi,fun z=>(by cases z),ok.frames,ok.ZM,ok.exf,ok.bs,ok.Qf,ok.O1,ok.Pu,ok.xr,ok.SH⟩
theorem Cw{v:Value}(I:Inv X pins σ H s):Inv (marked X v) pins σ H s:=⟨V9 I.ok,I.os,I.bare,I.base,I.loc,I.cell,I.free,I.i8,I.pin,I.cO,I.len⟩
theorem Mx{v:Value}(ok:X.Ok)(I:Inv (marked X v) pins σ H s):Inv X pins σ H s:=⟨ok,I.os,I.bare,I.base,I.loc,I.cell,I.free,I.i8,I.pin,I.cO,I.len⟩
theorem W3{M : Model}{A : cX}{E : Value -> ao -> Prop}{i : Nat}{n : Str}{pos : Pos}{Q : Unit -> ao -> Prop}(I : Inv X pins σ H s)(hN : X.N.Nodup)(hi : X.N[i]? = some n)(hk : X.env.scope.names.lookup n = some .local)
    (h : ∀ s', Inv X pins (σ.set i none) H s' -> Q () s') : wpAny M A (do bindName X.env n .none; unbindBehindTheSuite X.env n pos) Q E s := by
  obtain⟨m, hn, hl⟩ := id I.loc;have C1 : (X.env.scope.kind == .class || (X.env.scope.kind == .module && X.env.locals != X.env.globals)) = false := by rw [I.ok.kind]; rfl
  obtain⟨oL, _, _, hoL, _⟩ := id hn;refine wpAny_nameGoes_keeps hk hn C1 fun h' v J9 hs => h _ ?_;have low : ∀ b o, X.jc.heap.get? b = some o -> b ≠ X.env.locals := fun b o e => bI (bJ (aN e) I.ok.above)
  exact { ok := I.ok, os := I.os, bare := I.bare
          base := ⟨fun b o e n hb hx => (hs.2 b (low b o e)).trans (I.base.keep b o e n hb hx), fun b o e n hb hx => by
              obtain⟨sl, e1⟩ := I.base.slot b o e n hb hx;exact⟨sl, (hs.2 b (low b o e)).trans e1⟩, I.base.free, fun b o e hx => by
              obtain⟨o', e1⟩ := I.base.there b o e hx;exact⟨o', (hs.2 b (low b o e)).trans e1⟩, I.base.pW, I.base.o3, I.base.sC, I.base.sG⟩
          loc := ⟨_, J9, fun j y v' e1 e2 e3 => by
            by_cases hj : j = i
            · subst hj
              by_cases pH : j < σ.length
              · rw [eG pH] at e2; cases e2
              · rw [iC (by rw [dJ]; lia)] at e2; cases e2
            · rw [eE (jz hj)] at e2
              obtain⟨u', r', q⟩ := hl j y v' e1 e2 e3;refine⟨u', r', ?_⟩;rcases q with ⟨k, e⟩ | ⟨k, c, e, z⟩
              · refine .inl ⟨k, ?_⟩
                have : y ≠ n := fun e => hj (BF hN e1 (e ▸ hi));simp [this, e]
              · exact .inr ⟨k, c, e, z.sameBut hs (I.VW y c e)⟩⟩
          cell := fun y c e => by
            obtain⟨w', z⟩ := I.cell y c e;exact⟨w', z.sameBut hs (I.VW y c e)⟩
          free := I.free, i8 := I.i8
          pin := fun p hp => by
            obtain⟨h1, h2, h3, h4⟩ := I.pin p hp;exact⟨(hs.2 p.1 h3).trans h1, h2, h3, h4⟩
          cO := fun b ob e => by
            refine(I.cO b ob e).jo (fun c w' hc q => (hs.2 c ?_).trans q) (fun _ q => q) fun _ _ q => q;rintro rfl;rcases hc with rfl | hc
            · rw [I.free] at e; cases e
            · rw [I.free] at hc; cases hc
          len := by rw [dJ]; exact I.len }
end
theorem PW{K:ag}{H:Hp}{σ:L2.St}{τ:iK}(a:Ke K H σ τ)(i:Nat):Ke K H (σ.set i none) (τ.set i none):=by
 refine⟨by rw [dJ,dJ]; exact a.len,fun j e h=>?_⟩;by_cases hj:i=j
 ·subst hj;by_cases hi:i < τ.length
  ·rw [eG hi] at h; cases h
  ·rw [iC (by rw [dJ]; lia)] at h; cases h
 ·rw [eE hj] at h;obtain⟨w,h1,h2⟩:=a.at' j e h;exact⟨w,by rw [eE hj]; exact h1,h2⟩
def subIn(K:ag)(C:Addr)(v:Value):Bool:=match K.lookup C with
 | some ⟨_,_,.cls cd,_⟩=>cd.mro.contains v
 | _=>false
theorem UC{K:ag}{h:Heap}{C N:Addr}{nm q:Str}{bs bm:List Value}{mU:Bool}{sn:List Str}{sub:List Value}{ab:Bool}{col:Option Bool}{dd:Option Addr}{k0 k1 k2 k3 k5:Option Value}{newId:String}{v:Value}
  (Y:K.In h) (hC:h.get? C=some (jK nm q C N bs bm mU sn sub ab col dd k0 k1 k2 k3 k5 newId)) (e:subIn K C v=true):(dF C :: bm).contains v=true:=by
 unfold subIn at e;split at e
 ·rename_i ho;have:=Y _ _ ho;rw [hC] at this;cases this;exact e
 ·cases e
section
variable {X:Cx} {x cn n:Str} {D f:Addr} {fd:aH} {ps:List Str} {k i:Nat} {sp:nR} {T6:List Value} {newD:String} {cat:List Str} {e:Expr} {es:List Expr} {p np pos ep FV tp:Pos} {TK:Stmt} {zg:List Stmt} {t:AA} {th:i5}
structure xX(X:Cx):Prop where
 st:X.stack=X.env :: X.outer
 fr:X.env.frame=some X.env.locals
 ex:X.ex=[]
structure Clause(X:Cx)(i:Nat)(n cn:Str)(D:Addr)(cat:List Str):Prop where
 nd:X.N.Nodup
 WS:X.N[i]?=some n
 loc:X.env.scope.names.lookup n=some .local
 gl:Gl X cn
 mg:X.mg cn=some (.ref D)
 cls:∃ T6 newD,(lH X.K D T6 newD=true\/vg X.K D T6 newD=true)/\T6.contains (.type "BaseException")=true
 cat:∀ c,cat.contains c=true->∃ C lU newId,bh X.K aP c=some (some (.ref C))/\(lH X.K C lU newId=true\/vg X.K C lU newId=true)/\subIn X.K C (.ref D)=true
structure Lnd(X:Cx)(B:Heap)(a C t0:Addr)(h0 h5:Heap)(o0:Option Addr):Prop where
 fl:x5 B (X.env :: X.outer) a (.ref C) (.ref t0) h5
 up:h0.UpToSlots h5
 dk:∀ o5,h5.get? a=some o5->o5.dict=o0
theorem Jy{s':ao}{a C t0:Addr}{B:Heap}{o0:Obj}{hs:List ExceptHandler}{Q:Flow->ao->Prop}(A0:xX X)(Sk:X.A.frames=some X.stack)(fl:Dr B X.stack a (.ref C) (.ref t0) s'.heap)(TY:s'.heap.get? a=some o0)
  (k:∀ h5,Lnd X B a C t0 s'.heap h5 o0.dict->wpAny (model X.prog X.w) X.A (PZ (.ref a) X.env hs) Q X.xe { s' with heap:=h5 }) :
  wpAny (model X.prog X.w) X.A (sT (.ref a) X.env) (fun _ jU=>wpAny (model X.prog X.w) X.A (Hh (.ref a) none) (fun _ Fb=>wpAny (model X.prog X.w) X.A (PZ (.ref a) X.env hs) Q X.xe Fb) X.xe jU) X.xe s':=by
 obtain⟨uW,Pg,hex⟩:=A0;rw [uW] at fl Sk;refine eY (y0 (BE (Q:=fun _ s2=>∃ h4,AD B (X.env :: X.outer) a (.ref C) (.ref t0) X.env.locals h4/\s'.heap.UpToSlots h4/\s2={ s' with heap:=h4 }) (L:=X.env.locals) Sk Pg fl fun h4 held QD=>⟨h4,held,QD,rfl⟩) (FO _ _)) ?_ (fun _ _ z=>z);rintro _ s2 ⟨⟨h4,held,QD,rfl⟩,dk4⟩;refine eY (y0 (wpAny_landsW (Q:=fun _ s2=>∃ h5,x5 B (X.env :: X.outer) a (.ref C) (.ref t0) h5/\h4.UpToSlots h5/\s2={ s' with heap:=h5 }) held fun h5 T5 Wc=>⟨h5,T5,Wc,rfl⟩) (nH _ _)) ?_ (fun _ _ z=>z);rintro _ s2 ⟨⟨h5,T5,Wc,rfl⟩,dk5⟩;obtain⟨oe4,he4,_⟩:=held.there;exact k h5 ⟨T5,QD.trans Wc,fun o5 e5=>(dk5.at he4 e5).trans (dk4.at TY he4)⟩
theorem Ei{pins:List (Addr×Obj)}{σ:L2.St}{H H1 Hj:Hp}{τ:iK}{G G1:Gp}{s1 s':ao}{Dn:oO}{a C t0:Addr}{B h5:Heap}{ex:Ex}{o0:Option Addr}{rest:List ExceptHandler}(A0:xX X)(L:Clause X i n cn D cat)(hth:∀ v,sJ (marked X v) (TK :: zg) th)(J1:Inv X pins σ H1 s1)(st1:Ke X.K H1 σ τ)(ab1:lW X.K H1 G1)(m1:Mv X.K H G H1 G1)
  (I':Inv X pins σ Hj s') (mv:Mv X.K H1 G1 Hj G1) (hB:∀ b o,s'.heap.get? b=some o->b∉o4 X.stack->(s1.heap.get? b≠none\/Hj b≠none)->B.get? b=some o)
  (ha':Hj a=none) (J7:s1.heap.get? a=none) (hfo:WW X.K Hj ex.xA o0) (Sg:X.mg ex.cls=some (.ref C)) (IG:cat.contains ex.cls=true) {dv:K2.D} (hdv:dv=.exc ex.cls\/ex.xA≠[]/\dv=.ye ex.cls (ex.xA.map (·.1)) (ex.xA.map (·.2)))
  (q':th (fun _ _=>False) ⟨fun pV G'=>Dn.nx (pV.set i none) G',fun _ _=>False,fun _ _=>False,fun _ _=>False⟩ (τ.set i (some dv)) G1) (T1:(cn == ("__debug__" : Str))=false) (ld:Lnd X B a C t0 s'.heap h5 o0) :
  wpAny (model X.prog X.w) X.A (PZ (.ref a) X.env (.ExceptHandler (some (.Name cn np)) (some n) (TK :: zg) FV :: rest)) (V5 X pins H G Dn) X.xe { s' with heap:=h5 }:=by
 obtain⟨uW,Pg,hex⟩:=A0;obtain⟨hN,hi,hl,hgD,hmD,⟨T6,newD,qD,bD⟩,Yp⟩:=L;obtain⟨C',lU,newId,CZ,qC,IB⟩:=Yp ex.cls IG;have eC:C'=C:=by
  have:=dB J1.ok.mod.Np J1.ok.mod.glob CZ;rw [Sg] at this; cases this; rfl
 subst eC;obtain⟨T5,Wc,dk5⟩:=ld;have I5:Inv X pins σ Hj { s' with heap:=h5 }:=zb I' J1 uW Pg hex hB T5.1 Wc _;refine wpAny_handleBy_cons (codeAny_handlers_test ?_) (by intro z; cases z);refine kX (X:=marked X (.ref a)) (Cw I5) hgD hmD ?_ T1;obtain⟨bm,N,nm,qn,bs,mU,sn,sub,ab,col,dd,k0,k1,k2,k3,k5,hC,T⟩:=AW I5.qu qC;obtain⟨bm',N',nm',qn',V2,So,sn',Xf,PN,YR,WM,k0',k1',k2',k3',k5',hD,T'⟩:=AW I5.qu qD;obtain⟨oe,he5,hce⟩:=T5.there;refine DV hC hD he5 hce (T'.hasType bD) ?_;rw [UC I5.qu hC IB];refine codeAny_handlers_suite_as ?_;refine eY (y0 (lands_againW (Q:=fun _ s2=>∃ h6,x5 B (X.env :: X.outer) a (.ref C') (.ref t0) h6/\h5.UpToSlots h6/\s2={ s' with heap:=h6 }) T5 fun h6 fl6 up6=>⟨h6,fl6,up6,rfl⟩) (nH _ _)) ?_ (fun _ _ z=>z);rintro _ s2 ⟨⟨h6,fl6,up6,rfl⟩,dk6⟩;have I6:Inv X pins σ Hj { s' with heap:=h6 }:=zb I' J1 uW Pg hex hB fl6.1 (Wc.trans up6) _;obtain⟨RA,vs6,he6,hc6,hd6,_⟩:=fl6.first
 have aaW:RA.dict=o0:=(dk6.at he5 he6).trans (dk5 _ he5);have nl:a≠X.env.locals:=fun z=>by
  obtain⟨m,⟨oL,_,_,hoL,_⟩,_⟩:=J1.loc;rw [z,hoL] at J7; cases J7
 have nc:∀ y c,X.env.cells.lookup y=some c->c≠a:=fun y c ec z=>by
  obtain⟨v,o,ho,_⟩:=J1.cell y c ec;rw [z,J7] at ho; cases ho
 have npn:∀ q∈X.pn++pins,q.1≠a:=fun q hq z=>by
  have:=(J1.pin q hq).1;rw [z,J7] at this; cases this
 have hn:X.jc.heap.get? a=none:=by
  cases q0:X.jc.heap.get? a with
  | none=>rfl
  | some o=>obtain⟨o1,e1⟩:=J1.base.there a o q0 (by rw [hex]; exact gN); rw [e1] at J7; cases J7
 have I7:=PQ (u:=.jw RA (.ext fun h=>h.get? a=some RA)) I6 ha' hn nl nc npn ⟨he6,he6,⟨_,he6⟩,fun h1 h2 q k=>k _ q⟩;have mvT:Mv X.K Hj G1 (upd Hj a (.jw RA (.ext fun h=>h.get? a=some RA))) G1:=.Sj mv.ab ha';have kp7:Kp H1 (upd Hj a (.jw RA (.ext fun h=>h.get? a=some RA))):=(mv.trans mvT).kp ab1;have UW:cQ X.K (upd Hj a (.jw RA (.ext fun h=>h.get? a=some RA))) (.ref a) dv:=by
  rcases hdv with rfl | ⟨lr,rfl⟩
  ·exact .exc ⟨RA,C',cP,hc6,CZ⟩
  ·rcases hfo with z | ⟨dx,od,fs,e1,e2,e3,e4⟩
   ·exact absurd z lr
   ·have kT:=mvT.kp mv.ab;exact .ye ⟨RA,C',dx,od,fs,cP,hc6,CZ,aaW.trans e1,kT.jw _ _ _ e2,by unfold Hn; rw [hd6],e3,rfl⟩ (e4.mono kT)
 refine yp (v:=.ref a) I7 hN hi (.inl hl) rfl (fun s8 I8 _=>?_) (.inr hl);refine eY (hth (.ref a) (fun _ _=>False) pins s8 _ _ (τ.set i (some dv)) G1 _ (Lk.none fun _ _ z=>z)
  ⟨Cw I8,(st1.mono kp7).set i UW,mvT.ab⟩ q') (fun fw s9 q9=>?_) (fun _ _ z=>z.elim)
 cases fw with
 | next =>
  obtain⟨Zr,H9,Y4,G9,I9,m9,q9⟩:=q9;exact W3 (Mx J1.ok I9.inv) hN hi hl fun s10 I10=>⟨Zr.set i none,H9,Y4.set i none,G9,⟨I10,PW I9.st i,I9.ab⟩,m1.trans (mv.trans (mvT.trans m9)),q9⟩
 | brk=>obtain⟨_,_,_,_,_,_,z⟩:=q9; exact z.elim
 | cont=>obtain⟨_,_,_,_,_,_,z⟩:=q9; exact z.elim
 | ret u=>obtain⟨_,_,_,_,_,_,_,_,_,z⟩:=q9; exact z.elim
theorem ur(F:fU X.prog X.w X.K X.mg X.base (EB X.prog X.w) k f fd ps (mZ X.K X.mg sp))(hr:jI k X.A)(hg:Gl X x)(hm:X.mg x=some (.ref f))(hk:kD X.K (.ref f)=true)(hb:Binds X.K fd ps [])
  (ha:GN X (e :: es) t) (Ag:autoParam ((x == ("__debug__" : Str))=false) Ad._auto_1) (he:autoParam (bB (e :: es) X.env=(false,eval e X.env) :: bB es X.env) Ar._auto_1) (yc:autoParam ((i6 pos (bB es X.env)).any (·.1)=false) Ar._auto_1) :
  gy X (.Call (.Name x p) (e :: es) [] pos) (yT sp t):=by
 intro E pins s σ H τ G Q hE I h;refine eW (kX I.inv hg hm ?_ Ag);refine qP (h₀:=X.base) I.inv.ok.mod.Np hk (Bf ha pos hE I h fun vs H1 ds G1 us s1 I1 m1 r rd q=>⟨I1.inv.qu,?_⟩) he yc;refine gK (Q4 (E:=exK X.K X.mg E) F hr hb .nil (fun pins σ H s e s' I hq=>hE.pass pins σ H s s' e I hq) I1.inv r (Q:=Dl X.K H1 G1 Q) ?_) fun _ _ z=>(qN.of z).trans m1;rw [bV];exact⟨ds,G1,Q,E,rd,I1.ab,q,fun d G' v H' q' m' Qa=>⟨d,G',m',Qa,q'⟩,fun ex C H' G' o q' PN Sg hf=>⟨ex,C,G',rfl,Sg,PN,q',hf⟩⟩
end
end K2
end
section
namespace K2
open PySem PySem.Spec PyProof.Rows L2 PySem.W PySem.Calls PySem.Builtin PySem.Builtin.Getset_descriptor
section
variable {prog:bx} {w:World} {A:cX} {E:Value->ao->Prop} {s:ao} {K:ag} {a C:Addr} {ox:Obj}
theorem VN {Q:Option Value->ao->Prop} {B:String} {lU:List Value} (FB:ym B lU) (X:K.In s.heap) (hx:s.heap.get? a=some ox) (hc:ox.cls=.ref C) (WG:Dw K (.ref C) "__getattribute__" = some (some (.builtin "BaseException.__getattribute__"))) (hgn:Dw K (.ref C) "__getattr__" = some none)
  (hA:Dw K (.ref C) "__class__" = some (some (.builtin "object.__class__"))) (hG:specialIn K (.builtin "object.__class__") "__get__" = some (some (.builtin "getset_descriptor.__get__"))) (hT:takesIn K (.builtin "object.__class__")=some true) (hm:mroIn K C (.type "object")=some true) (hmB:mroIn K C (.type "BaseException")=some true)
  (h:Q (some (.ref C)) { s with toks:=s.toks+1 }):wpAny (model prog w) A (getAttr? (.ref a) "__class__") Q E s:=by
 obtain⟨hh,g,d,t,os⟩:=s;have L0:Looks (model prog w) hh (typeOf (.ref a)) (.ref C):=hc ▸ (Looks.ld hx).andThen .now;have L1:=looks_findIn (M:=model prog w) X WG;have L2:=looks_findIn (M:=model prog w) X hgn;have L5:=looks_mroIn (M:=model prog w) X hm;have L3:Looks (model prog w) hh (Builtin.ObjectAttr.find (.ref a) (.ref C) "__class__") (.bind (.builtin "getset_descriptor.__get__") (.builtin "object.__class__")):=by
  refine(looks_findIn X hA).andThen ((looks_specialIn X hG:Looks (model prog w) hh (Builtin.ObjectAttr.getOf (some (.builtin "object.__class__"))) _).andThen ?_);refine((looks_takesIn X hT).andThen .now:Looks (model prog w) hh (Builtin.ObjectAttr.dataDescriptor? (some (.builtin "object.__class__")) (some (.builtin "getset_descriptor.__get__"))) (some (.builtin "getset_descriptor.__get__",.builtin "object.__class__"))).andThen ?_;exact Looks.tag .now
 have L4:=looks_mroIn (M:=model prog w) X hmB;have hx2:(uF "BaseException.__getattribute__" == uF "object.__getattribute__")=false:=by decide +kernel
 unfold getAttr? getAttrBy? getAttrBy;refine ae (wpAny_mkText (ae (n4 (du (ae (L0.at (ae (L1.at ?_))))))));dsimp only;rw [if_neg (by rw [hx2]; simp)];unfold getAttrByItsOwn hookBefore callGetattribute;have f3:=FB.ga.bind (.ref a);have fin:pS (model prog w) A (.call (.builtin "BaseException.__getattribute__") ⟨[.ref a,.str "__class__" t],[]⟩) (fun r s'=>r=.ok (.ret (.ref C))/\s'=⟨hh,g,d,t+1,os⟩) ⟨hh,g,d,t+1,os⟩:=by
  refine jf FB.ga.plain F.entry_bexc_ga ?_;have hk:builtinKind "BaseException.__getattribute__" = some .slot:=by decide +kernel
  have LC:splitId "BaseException.__getattribute__" = some ("BaseException","__getattribute__"):=by decide +kernel
  have ha:=F.args_bexc_ga (.ref a) (.str "__class__" t);have LI:Looks (model prog w) hh (Kk (.ref a) (.type "BaseException")) true:=L0.andThen L4;simp only [Og,hk,LC];refine ae (LI.at ?_);simp only [bM,aw,if_false];have body:wpAny (model prog w) A.in1 (Builtin.«object.__getattribute__» ⟨[.ref a,.str "__class__" t],[]⟩)
    (fun fin s'=>fin=.done (.ret (.ref C))/\s'=⟨hh,g,d,t+1,os⟩) (fun _ _=>False) ⟨hh,g,d,t+1,os⟩:=by
   unfold Builtin.«object.__getattribute__»;refine ae (au ?_);refine ae (au ?_);refine ae (L0.at (ae (L3.at ?_)));show wpAny _ _ (Builtin.ObjectAttr.bindTo (.builtin "getset_descriptor.__get__") (.builtin "object.__class__") (.ref a) (.ref C)) _ _ _;show wpAny _ _ (do let v ← Km [.builtin "object.__class__"] (call (.builtin "getset_descriptor.__get__") [.builtin "object.__class__",.ref a,.ref C]); ret v) _ _ _;refine ae (du (pQ ?_));refine jf KF.slot_gs.plain KF.entry_gs (KF.slot_gs.check _ _ _ _ _ _ _ _ KF.type_class (KF.args_gs _ _ _) ?_);unfold Builtin.«getset_descriptor.__get__» descrGet;rw [dga_obj];refine ae (au ?_);unfold descrGetter descrCheckInstance descrNameAndClass Kk;simp only [KF.owner_class]
   repeat lk
   refine⟨sA _ (by decide +kernel),gR KF.entry_class ?_⟩;unfold Builtin.«object.__class__» shownTypeOf
   repeat lk
   exact⟨rfl,rfl⟩
  have go:∀ z:Sem Unit,z=pure ()->∀ (P:Unit->ao->Prop) (E':Value->ao->Prop) s',P () s'->wpAny (model prog w) A.in1 z P E' s':=fun z e P E' s' hp=>by rw [e]; exact au hp
  refine go _ ha _ _ _ (eY body ?_ (fun _ _ z=>z.elim));rintro fin s' ⟨e1,e2⟩;subst e1; exact⟨rfl,e2⟩
 refine ae (L2.at (ae (n4 (du ?_))));simp only [zZ,aw,if_false];unfold boundAndCalled;rw [f3];refine ae (au (pQ (kK fin ?_)));rintro r s' ⟨e1,e2⟩;subst e1; subst e2;exact au (au h)
structure sx(K:ag)(C:Addr):Prop where
 ga:Dw K (.ref C) "__getattribute__" = some (some (.builtin "BaseException.__getattribute__"))
 gn:Dw K (.ref C) "__getattr__" = some none
 WS:Dw K (.ref C) "__class__" = some (some (.builtin "object.__class__"))
 sp:specialIn K (.builtin "object.__class__") "__get__" = some (some (.builtin "getset_descriptor.__get__"))
 tk:takesIn K (.builtin "object.__class__")=some true
 mo:mroIn K C (.type "object")=some true
 mb:mroIn K C (.type "BaseException")=some true
 is:(clsIn K C).isSome=true
theorem xg{B:String}{lU:List Value}(FB:ym B lU)(Z:sx K C):KitX K (.ref a) (.ref C) (fun h=>∃ o,h.get? a=some o/\o.cls=.ref C) where
 ty:=by rintro M h _ ⟨o,hx,hc⟩; exact hc ▸ (Looks.ld hx).andThen .now
 it:=fun M h X _=>by
  have Sq:=Z.is;unfold clsIn at Sq;split at Sq
  ·rename_i ho;intro A' Q' E' s' k q;unfold isType loadHead;exact ae (Ub (k _ _ (X _ _ ho)) (au q))
  ·cases Sq
 ne:=fun h tp dd bw n sl X htp=>by
  have Sq:=Z.is;refine Bool.eq_false_iff.mpr fun q=>?_;have e:C=tp:=Value.ref.inj (beq_iff_eq.mp q);subst e;unfold clsIn at Sq;split at Sq
  ·rename_i ho;have z:=(X _ _ ho).symm.trans htp;cases z
  ·cases Sq
 ca:=fun X ⟨o,hx,hc⟩ k=>VN FB X hx hc Z.ga Z.gn Z.WS Z.sp Z.tk Z.mo Z.mb k
end
end K2
end
section
namespace K2
open PySem PySem.Spec PyProof.Rows L2
theorem hZ{P:Str->Prop}:∀ c,([]:List Str).contains c=true->P c:=fun c h=>by simp at h
theorem eN{l:List Str}{P:Str->Prop}{x:Str}(h:P x)(t:∀ c,l.contains c=true->P c):∀ c,(x :: l).contains c=true->P c:=fun c hc=>by
 rw [CI,j5] at hc;rcases hc with hc | hc
 ·rw [beq_iff_eq.mp hc]; exact h
 ·exact t c hc
section
variable {X:Cx} {a:Expr} {ta:fM} {p pos:Pos} {B:String} {lU:List Value} {all sub:List Str}
theorem tP {y:Str} {py:Pos} {C:Addr} (FB:ym B lU) (hg:Gl X "isinstance") (hm:X.mg "isinstance" = none) (hgC:Gl X y) (hmC:X.mg y=some (.ref C)) (aei:bp X.K (.type "NoneType") (.ref C)=some false)
  (Sm:∀ c,all.contains c=true->∃ C',bh X.K aP c=some (some (.ref C'))/\bp X.K (.ref C') (.ref C)=some (sub.contains c)/\sx X.K C') (ha:gy X a ta) (Ag:autoParam ((y == ("__debug__" : Str))=false) Ad._auto_1)
  (he:autoParam (bB [a,.Name y py] X.env=(false,eval a X.env) :: bB [.Name y py] X.env) Ar._auto_1) (yc:autoParam ((i6 pos (bB [Expr.Name y py] X.env)).any (·.1)=false) Ar._auto_1) (Yn:autoParam (bB [.Name y py] X.env=[(false,eval (.Name y py) X.env)]) Ar._auto_1) :
  gy X (.Call (.Name "isinstance" p) [a,.Name y py] [] pos) (zK all sub ta):=by
 intro E pins s σ H τ G Q hE I h;refine eW (oC I.inv hg hm mX ?_);refine eX ?_ he yc;rw [he];show wpAny _ _ (pR ((false,eval a X.env) :: i6 pos (bB [.Name y py] X.env))) _ _ s;refine dg (jC ha hE I h fun v H1 d G1 u s1 I1 m1 r1 kg q1=>?_);rw [Yn];show wpAny _ _ (pR [(false,eval (.Name y py) X.env)]) _ _ s1;refine dg (kX I1.inv hgC hmC (kc ?_) Ag);have fin:∀ b tk,Q (.bl b) G1->qN X pins σ H G Q (.bool b) { s1 with toks:=tk }:=fun b tk q =>
  ⟨.bl b,H1,.bl b,G1,I1.inv.tok _,m1,rfl,.bl b,q⟩
 cases kg with
 | cR =>
  cases r1;exact e8 Ue I1.inv.qu bu aei (fun z=>nomatch z) fun tk=>fin false tk q1
 | exc h0 =>
  cases r1;obtain⟨o,C',e1,e2,e3⟩:=h0;obtain⟨yL,q2⟩:=q1;obtain⟨C2,e4,k1,k2⟩:=Sm _ yL;rw [e3] at e4;cases e4;exact e8 (xg FB k2) I1.inv.qu ⟨o,(I1.inv.cO _ _ e1).1,e2⟩ k1 (fun z=>nomatch z) fun tk=>fin _ tk q2
 | ye h0 _ =>
  cases r1;obtain⟨o,C',_,_,_,e1,e2,e3,_⟩:=h0;obtain⟨yL,q2⟩:=q1;obtain⟨C2,e4,k1,k2⟩:=Sm _ yL;rw [e3] at e4;cases e4;exact e8 (xg FB k2) I1.inv.qu ⟨o,(I1.inv.cO _ _ e1).1,e2⟩ k1 (fun z=>nomatch z) fun tk=>fin _ tk q2
 | _=>exact q1.elim
end
section
variable {X:Cx} {a:Expr} {ta:fM} {p pos:Pos} {B:String} {lU:List Value} {all:List Str}
theorem Ay:dW "ValueError" = some (.type "ValueError"):=by first | rfl | decide +kernel
theorem Rt {py:Pos} (FB:ym B lU) (hg:Gl X "isinstance") (hm:X.mg "isinstance" = none) (hgC:Gl X "ValueError") (hmC:X.mg "ValueError" = none)
  (Sm:∀ c,all.contains c=true->∃ C',bh X.K aP c=some (some (.ref C'))/\bp X.K (.ref C') (.type "ValueError")=some true/\sx X.K C') (ha:gy X a ta)
  (he:autoParam (bB [a,.Name "ValueError" py] X.env=(false,eval a X.env) :: bB [.Name "ValueError" py] X.env) Ar._auto_1) (yc:autoParam ((i6 pos (bB [Expr.Name "ValueError" py] X.env)).any (·.1)=false) Ar._auto_1) (Yn:autoParam (bB [.Name "ValueError" py] X.env=[(false,eval (.Name "ValueError" py) X.env)]) Ar._auto_1) :
  gy X (.Call (.Name "isinstance" p) [a,.Name "ValueError" py] [] pos) (NT all ta):=by
 intro E pins s σ H τ G Q hE I h;refine eW (oC I.inv hg hm mX (eX ?_ he yc));rw [he];show wpAny _ _ (pR ((false,eval a X.env) :: i6 pos (bB [.Name "ValueError" py] X.env))) _ _ s;refine dg (jC ha hE I h fun v H1 d G1 u s1 I1 m1 r1 kg q1=>?_);rw [Yn];show wpAny _ _ (pR [(false,eval (.Name "ValueError" py) X.env)]) _ _ s1;refine dg (oC I1.inv hgC hmC Ay (kc ?_));have fin:∀ b tk,Q (.bl b) G1->qN X pins σ H G Q (.bool b) { s1 with toks:=tk }:=fun b tk q =>
  ⟨.bl b,H1,.bl b,G1,I1.inv.tok _,m1,rfl,.bl b,q⟩
 cases kg with
 | exc h0 =>
  cases r1;obtain⟨o,C',e1,e2,e3⟩:=h0;obtain⟨yL,q2⟩:=q1;obtain⟨C2,e4,k1,k2⟩:=Sm _ yL;rw [e3] at e4;cases e4;exact e8 (xg FB k2) I1.inv.qu ⟨o,(I1.inv.cO _ _ e1).1,e2⟩ k1 (fun z=>nomatch z) fun tk=>fin _ tk q2
 | ye h0 _ =>
  cases r1;obtain⟨o,C',_,_,_,e1,e2,e3,_⟩:=h0;obtain⟨yL,q2⟩:=q1;obtain⟨C2,e4,k1,k2⟩:=Sm _ yL;rw [e3] at e4;cases e4;exact e8 (xg FB k2) I1.inv.qu ⟨o,(I1.inv.cO _ _ e1).1,e2⟩ k1 (fun z=>nomatch z) fun tk=>fin _ tk q2
 | _=>exact q1.elim
end
section
variable {X:Cx} {e:Expr} {te:fM} {pos:Pos}
theorem qc{i:Nat}{x:Str}{pos':Pos}(hN:X.N.Nodup)(hi:X.N[i]?=some x)(he:gy X e te)(hx:autoParam (Loc X.env.scope x) Ao._auto_1)(hs:autoParam (qe e (some (.Name x pos')) pos.line X.env=pure false) Ar._auto_1)(hf:autoParam (X.fn x=true\/X.env.scope.names.lookup x=some .local) Ao._auto_1) :
  Kb X (.Assign [.Name x pos'] e pos) (cT te (aT i)):=U7 hN hi hx he hs hf
theorem sF{i:Nat}{x:Str}(hN:X.N.Nodup)(hi:X.N[i]?=some x)(hx:autoParam (Loc X.env.scope x) Ao._auto_1)(hf:autoParam (X.fn x=true\/X.env.scope.names.lookup x=some .local) Ao._auto_1):Oa X (.Name x pos) (aT i):=Rp hN hi hx hf
theorem zF{P:bx}{w:World}{K:ag}{mg:Str->Option Value}{base:Heap}{x qual:Str}{st:Stmt}{f:Addr}{fd:aH}{Nn ps:List Str}{k:Nat}{sp:nR}{rd:i5}(F:p7 K x qual st f fd)(S:cG Nn ps (aX st))
  (hr:∀ ds G Q,sp ds G Q (fun _ _=>False)->rd (fun _ _=>False) (ends Q) (bL Nn.length ds) G)
  (hb:∀ (lD:Value) (A:cX) (outer:List Env) (s:ao) (H:Hp) (E:XK),jI k (A.deeper (ze qual (aX st) s.heap.objs.size f lD))->sJ (yU ji P w K mg base Nn qual (aX st) f lD A outer s H E).XJ (hX st) rd)
  (len:autoParam (∀ ds G Q E,sp ds G Q E->ds.length=ps.length) Al._auto_1):fU P w K mg base ji (k+1) f fd ps (ft K sp):=VF F S len hr hb
theorem foX{P:bx}{w:World}{K:ag}{mg:Str->Option Value}{base:Heap}{x qual:Str}{st:Stmt}{f:Addr}{fd:aH}{Nn ps:List Str}{k:Nat}{sp:nR}{rd:i5}(F:p7 K x qual st f fd)(S:cG Nn ps (aX st))
  (hr:∀ ds G Q E,sp ds G Q E->rd E (ends Q) (bL Nn.length ds) G)
  (hb:∀ (lD:Value) (A:cX) (outer:List Env) (s:ao) (H:Hp) (E:XK),jI k (A.deeper (ze qual (aX st) s.heap.objs.size f lD))->sJ (yU (EB P w) P w K mg base Nn qual (aX st) f lD A outer s H E) (hX st) rd)
  (len:autoParam (∀ ds G Q E,sp ds G Q E->ds.length=ps.length) Al._auto_1):fU P w K mg base (EB P w) (k+1) f fd ps (mZ K mg sp):=VE F S len hr hb
theorem uM{N ps:List Str}{sc:Scope}(h1:autoParam (sc.kind=.function) Ar._auto_1)(h2:autoParam (sc.isCoroutine=false) Ar._auto_1)(h3:autoParam (sc.isGenerator=false) Ar._auto_1)(h4:autoParam N.Nodup Ak._auto_1)(h5:autoParam (N.take ps.length=ps) Ar._auto_1)
  (h6:autoParam (∀ x∈ps,sc.names.lookup x=some .local\/sc.names.lookup x=some .cell) Ak._auto_1) (h7:autoParam (∀ y∈sc.names,y.2≠.free) Ak._auto_1):cG N ps sc:=⟨h1,h2,h3,h4,h5,h6,h7⟩
end
section
variable {X:Cx} {a b c:Expr} {ta tb tc:fM} {pos:Pos}
theorem AM {x:Str} {i:Int} {t:Tok} {p:Pos} (hg:Gl X x) (hm:X.mg x=some (.int i t)) (hd:autoParam ((x == ("__debug__" : Str))=false) Ad._auto_1):gy X (.Name x p) (dC (.int i)):=nU (Na (v:=.int i) hg hm ⟨t,rfl⟩ hd) fun _ _=>.int i
theorem HV {x y:Str} {t:Tok} {p:Pos} (hg:Gl X x) (hm:X.mg x=some (.str y t)) (hd:autoParam ((x == ("__debug__" : Str))=false) Ad._auto_1):gy X (.Name x p) (dC (.str y)):=nU (Na (v:=.str y) hg hm ⟨t,rfl⟩ hd) fun _ _=>.str y
theorem uk{op op':CmpOp}{r r':Ey}(ho:oN X (dU op) r)(Pf:oN X (dU op') r')(ha:gy X a ta)(hb:gy X b tb)(hc:gy X c tc)
  (hm:autoParam (lastMarks [op,op'] [b,c]=false) Aw._auto_1):He X (.Compare a [op,op'] [b,c] pos) (nM r r' ta tb tc):=by
 intro E pins s σ H τ G Q hE I h;refine isTrue_chain (jC ha hE I h fun x H1 dx G1 v s1 I1 m1 r1 kg q1=>test_link (jC hb hE I1 q1 fun y H2 dy G2 u s2 jA m2 r2 Fn q2=>?_)) hm;refine gK (ho pins s2 σ H2 G2 x y dx dy v u _ jA.inv jA.ab r1 r2 (kg.mono (m2.kp I1.ab)) Fn q2) fun d s3 z=>?_;obtain⟨z,H3,dz,G3,I3,m3,r3,Xu,k,e,q3⟩:=z;subst e;cases Xu;cases r3;have m13:=(m1.trans m2).trans m3;refine jj ?_;cases k with
 | false=>exact ite_ff ⟨H3,G3,I3,m13,q3⟩
 | true =>
  have J3:I2 X pins σ H3 τ G3 s3:=jA.mv I3 m3;refine ite_tt (test_last (jC hc hE J3 q3 fun w' H4 dw G4 u4 s4 I4 m4 r4 rd4 q4=>?_));refine gK (Pf pins s4 σ H4 G4 y w' dy dw u u4 _ I4.inv I4.ab r2 r4 ((Fn.mono (m3.kp jA.ab)).mono (m4.kp J3.ab)) rd4 q4) fun d' s5 z=>?_;obtain⟨z2,H5,dz2,G5,I5,m5,r5,rd5,k2,e2,q5⟩:=z;subst e2;cases rd5;cases r5;exact jj ⟨H5,G5,I5,(m13.trans m4).trans m5,q5⟩
end
theorem nG{α:Type}{us:List α}(h:us.length=1):∃ a,us=[a]:=List.length_eq_one_iff.mp h
theorem aas{α:Type}{us:List α}{n:Nat}(h:us.length=n+1):∃ a t,us=a :: t/\t.length=n:=by
 cases us with
 | nil=>cases h
 | cons a t=>exact⟨a,t,rfl,Nat.succ.inj h⟩
theorem Io{α:Type}{us:List α}(h:us.length=2):∃ a b,us=[a,b]:=by
 obtain⟨a,t,rfl,h2⟩:=aas h; obtain⟨b,rfl⟩:=nG h2; exact⟨a,b,rfl⟩
theorem aat{α:Type}{us:List α}(h:us.length=3):∃ a b c,us=[a,b,c]:=by
 obtain⟨a,t,rfl,h2⟩:=aas h; obtain⟨b,c,rfl⟩:=Io h2; exact⟨a,b,c,rfl⟩
end K2
end
section
namespace K2.S
open PySem PySem.Spec PyProof.Rows L2 PySem.SetTable
section
variable {prog:bx} {w:World} {A:cX} {E:Value->ao->Prop} {s:ao}
theorem QA{a:Addr}{o:Obj}{es:En}{ep:Nat}{t:iL}{Q:(En×Nat×iL)->ao->Prop}(ho:s.heap.get? a=some o)(hd:o.data=.set es ep t)(O:T9 t es)(h:Q (es,ep,t) s) :
  wpAny (model prog w) A (setState a) Q E s :=
 pO ho hd (by unfold SetTable.fits JQ; rw [O.sz,O.dm]; have:=O.yd; have:=O.sz; simp; lia) h
end
end K2.S
end
section
namespace K2.S
open PySem PySem.Spec PyProof.Rows L2 PySem.SetTable
section
variable {B:Addr->Prop} {prog:bx} {w:World} {A:cX} {E:Value->ao->Prop} {s:ao}
theorem QO{m n:Nat}(hm:Mk m)(h1:¬ n * 5>=m * 3)(h2:(n+1) * 5>=m * 3)(h3:n < 76):Mk (sizeAbove (grown (n+1)) - 1)/\n+1<=sizeAbove (grown (n+1)) - 1/\¬ (n+1) * 5>=(sizeAbove (grown (n+1)) - 1) * 3/\sizeAbove (grown (n+1))<=128:=by
 rcases hm with rfl | rfl | rfl
 ·have:n=4:=by lia
  subst this;exact⟨.inr (.inl (by decide)),by decide,by decide,by decide⟩
 ·have:n=18:=by lia
  subst this;exact⟨.inr (.inr (by decide)),by decide,by decide,by decide⟩
 ·lia
end
end K2.S
end
section
namespace K2.S
open PySem PySem.Spec PyProof.Rows L2 PySem.SetTable
section
variable {B:Addr->Prop} {prog:bx} {w:World} {A:cX} {E:Value->ao->Prop} {s:ao}
theorem Q3{m i:Nat}(h:i < m+1):i+(runEnd m i - i)<=m:=by
 unfold runEnd; split <;> lia
theorem ZK{m:Nat}{p:Probe}(h:p.j+p.more<=m):(JY m p).j+(JY m p).more<=m:=by
 unfold JY;by_cases c:p.more > 0
 ·rw [if_pos c]; dsimp only; lia
 ·rw [if_neg c]; exact Q3 (qQ _ (lY m))
theorem QQ{m:Nat}:∀ (n:Nat) {p:Probe},p.j+p.more<=m->(gS m n p).j+(gS m n p).more<=m
 | 0,_,h=>h
 | n+1,_,h=>QQ n (ZK h)
theorem M3{h:Heap}{a:Addr}{o:Obj}{es:En}{ep:Nat}{t:iL}(ho:h.get? a=some o)(hd:o.data=.set es ep t)(es':En)(t':iL) :
  (h.update a (Obj.putSet es' t')).get? a=some { o with data:=.set es' (ep+1) t' }:=by
 have:=dQ (Obj.putSet es' t') ho (by rw [putSet_of es' t' hd]; rfl);rw [putSet_of es' t' hd] at this; exact this
theorem Gb(t:iL)(dm:t.dummies=#[]):t.tooFull=decide (t.place.size * 5>=t.mask * 3):=by
 unfold SetTable.tooFull JQ; rw [dm]; rfl
end
end K2.S
end
section
namespace K2.S
open PySem PySem.Spec PyProof.Rows L2 PySem.SetTable
section
variable {B:Addr->Prop} {prog:bx} {w:World} {A:cX} {E:Value->ao->Prop} {s:ao}
def Mq (w:World):Bool:=w.params.followText "set-order"
def Bk (w:World):Obj:={ cls:=.type "set",dict:=none,data:=.set #[] 0 (.fresh 0 0 (!Mq w)) }
theorem ZL (x:Value) {Q:Value->ao->Prop} (h:Q (.ref s.heap.objs.size) { s with heap:=s.heap.push (Bk w) }):pS (model prog w) A (.call (.builtin "set.__new__") ⟨[.type "set",x],[]⟩) (wants Q E) s:=by
 refine Qp (show wpAny _ A.in1 (do Og "set.__new__" ⟨[.type "set",x],[]⟩; again (.builtin "set.__new__" ⟨[.type "set",x],[]⟩)) _ _ s from ?_);refine ae (Ql (F.newCall_set_1 x) (au ⟨lz F.plain_set_new _,gR F.entry_set_new ?_⟩));rw [fG F.plain_set_new _];unfold Builtin.«set.__new__» Builtin.Frozenset.newClass;have IB:=sub_set_self;obtain⟨hp,g,d,tk,os⟩:=s;dsimp only at h ⊢
 wp_walk
 refine Of (au ?_);dsimp only;simp only [newObj];refine ae (wpAny_alloc (au (au h)))
variable {R:Result->ao->Prop} {I:Addr} {fp wr:List Addr} {G:Array CK->Array CK->Prop} {n:Nat} {P:Nat->Value->Prop} {St:Nat->ao->Prop}
end
end K2.S
end
section
namespace K2.S
open PySem PySem.Spec PyProof.Rows L2 PySem.SetTable
section
variable {prog:bx} {w:World} {A:cX} {E:Value->ao->Prop} {s:ao}
abbrev IK(prog:bx)(w:World):=intKind prog w
def Tw(prog:bx)(w:World)(es:En)(ks:List Int):Prop :=
 ks.length=es.size/\∀ (i:Nat) (e:Int×Value),es[i]?=some e->∃ (k:Int) (t:Tok),ks[i]?=some k/\e.2=.int k t/\e.1=(IK prog w).hash k
theorem Tw.elems{es:En}{ks:List Int}(M:Tw prog w es ks):ElemsOf (IK prog w) es.toList:=fun e he=>by
 obtain⟨i,hi,ei⟩:=fu he;obtain⟨k,t,_,q2,q3⟩:=M.2 i e (by rw [<-cz,aj hi,ei]);exact⟨⟨k,by rw [q2]; exact Kl _ _ _ _,q3⟩,by rw [q2]; rfl⟩
theorem Tw.ins{es:En}{ks:List Int}(M:Tw prog w es ks){k:Int}{t:Tok}{p:Nat}(hp:p<=es.size) :
  Tw prog w (insertAt es p ((IK prog w).hash k,.int k t)) (ks.take p++k :: ks.drop p):=by
 have lk:(ks.take p).length=p:=by rw [dH,M.1]; lia
 refine⟨by rw [aE,ah,lk,ez,mC _ _ _ hp,M.1]; lia,fun i e he=>?_⟩;rw [xj _ _ _ hp] at he;by_cases c:i < p
 ·rw [if_pos c] at he;obtain⟨k',b',q⟩:=M.2 i e he;exact⟨k',b',by rw [cm (by lia),uh c]; exact q.1,q.2⟩
 ·rw [if_neg c] at he;by_cases d:i=p
  ·rw [if_pos d] at he;cases he;exact⟨k,t,by rw [bA (by lia),lk,d,oW]; rfl,rfl,rfl⟩
  ·rw [if_neg d] at he;obtain⟨k',b',q⟩:=M.2 (i - 1) e he;exact⟨k',b',by rw [bA (by lia),lk,show i - p=(i - p - 1)+1 by lia,af,List.getElem?_drop,show p+(i - p - 1)=i - 1 by lia]; exact q.1,q.2⟩
def intOf:Value->Int
 | .int k _=>k
 | _=>0
theorem Tw.eq{es:En}{ks:List Int}(M:Tw prog w es ks):ks=es.toList.map fun e=>intOf e.2:=by
 refine List.ext_getElem? fun i=>?_;rw [bP];by_cases hi:i < es.size
 ·obtain⟨k,b,q1,q2,q3⟩:=M.2 i _ (bU hi);rw [q1,cz,bU hi,GX,q2]; rfl
 ·rw [iC (by rw [M.1]; lia),cz,ic (by lia)]; rfl
theorem Tw.perm{es es':En}{ks:List Int}(M:Tw prog w es ks)(p:List.Perm es'.toList es.toList):∃ Lv,Tw prog w es' Lv/\Lv.Perm ks:=by
 refine⟨es'.toList.map fun e=>intOf e.2,⟨by rw [ai,bS],fun i e he=>?_⟩,by rw [M.eq]; exact p.map _⟩;have hm:e∈es'.toList:=cH (by rw [cz]; exact he);obtain⟨j,hj,ej⟩:=fu (p.mem_iff.mp hm);obtain⟨k,t,_,q2,q3⟩:=M.2 j e (by rw [<-cz,aj hj,ej]);exact⟨k,t,by rw [bP,cz,he,GX,q2]; rfl,q2,q3⟩
def T7(prog:bx)(w:World)(h:Heap)(a:Addr)(led:Bool)(ks:List Int):Prop :=
 ∃ o es ep t,h.get? a=some o/\o.ExactSet/\o.data=.set es ep t/\T9 t es/\t.tooFull=false/\t.led=led/\t.plain=true/\Tw prog w es ks
theorem T7.keeps{h h':Heap}{a:Addr}{led:Bool}{ks:List Int}(x:T7 prog w h a led ks)(k:∀ o,h.get? a=some o->h'.get? a=some o):T7 prog w h' a led ks :=
 let ⟨o,es,ep,t,e,r⟩:=x; ⟨o,es,ep,t,k o e,r⟩
theorem AN{t:iL}{es:En}(O:T9 t es):t.fits es.size=true:=by
 unfold SetTable.fits JQ; rw [O.sz,O.dm]; have:=O.yd; have:=O.sz; simp; lia
theorem Pp{t:iL}{es:En}(O:T9 t es)(h:Int){N:Nat}(hN:N < 10 * turns t.mask)(h1:¬ Full t.place (gS t.mask N (probeStart t h)).j)(h2:∀ n,n < N->Full t.place (gS t.mask n (probeStart t h)).j) :
  t.freeSlot h=some ((gS t.mask N (probeStart t h)).j,false):=by
 obtain⟨n,met,g,ba,fin⟩:=HS O.up O.dm (fun _=>h+1) h (10 * turns t.mask) _ (Pb.start t h) ⟨N,hN,h1⟩;rcases fin with ⟨nf,rfl⟩ | ⟨k,_,_,e,_⟩
 ·have:n=N:=by
   rcases Nat.lt_trichotomy n N with c | c | c
   ·exact absurd (h2 n c) nf
   ·exact c
   ·obtain⟨k,hk,e,_⟩:=ba N c;exact absurd ⟨k,hk,e⟩ h1
  subst this;unfold SetTable.freeSlot SetTable.probe;rw [g]; rfl
 ·lia
theorem Ur{a:Addr}{led:Bool}{ks:List Int}{k:Int}{tk:Tok}(hS:T7 prog w s.heap a led ks)(yd:ks.length < 76){Q:Bool->ao->Prop}
  (h:∀ h' Lv r,(k∈ks->Lv=ks)->(k∉ks->Lv.Perm (k :: ks))->lK a s.heap h'->T7 prog w h' a led Lv->Q r { s with heap:=h' }) :
  wpAny (model prog w) A (setAddHashed a (.int k tk) ((IK prog w).hash k)) Q E s:=by
 obtain⟨o,es,ep,t,ho,hex,hd,O,nf,hl,hpn,M⟩:=hS;have hsz:es.size < 76:=by rw [<-M.1]; exact yd
 have hel:=M.elems;have hb:es.size < scanBound:=by unfold scanBound; lia
 have Yk:(IK prog w).is k (.int k tk)=true:=Kl _ _ _ _;obtain⟨N,hN,h1,h2⟩:=LN O _ (Pb.start t ((IK prog w).hash k));unfold setAddHashed setAddHashedIn;refine du (ae (QA ho hd O ?_));dsimp only;rw [byScan_of (x:=.int k tk) rfl hb hel,if_pos rfl];unfold setAddByScan;refine ae (ae (wpAny_rule (ae (wpAny_setScan_of Yk ho hd (AN O) hel ?_))));cases hr:List.findIdx? (fun e=>(IK prog w).is k e.2) es.toList with
 | some j =>
  obtain⟨hj,hpj,_⟩:=List.findIdx?_eq_some_iff_getElem.mp hr;obtain⟨k',t',q1,q2,_⟩:=M.2 j _ (by rw [<-cz,aj hj]);rw [q2] at hpj;have ek:k'=k:=(IK prog w).inj _ _ _ (Kl _ _ _ _) hpj;subst ek;refine au (au ?_);have e:s={ s with heap:=s.heap }:=by cases s; rfl
  rw [e];exact h s.heap ks _ (fun _=>rfl) (fun z=>absurd (cH q1) z) (Heap.SameBut.refl a s.heap) ⟨o,es,ep,t,ho,hex,hd,O,nf,hl,hpn,M⟩
 | none =>
  have hk:k∉ks:=fun hk=>by
   obtain⟨i,hi,ei⟩:=fu hk;have Qd:i < es.size:=by rw [<-M.1]; exact hi
   obtain⟨k',t',q1,q2,_⟩:=M.2 i _ (bU Qd);rw [aj hi,ei] at q1;cases q1;have:=List.findIdx?_eq_none_iff.mp hr _ (Array.getElem_mem_toList Qd);rw [q2,Kl] at this; cases this
  dsimp only;obtain⟨j,ej⟩:∃ j,(gS t.mask N (probeStart t ((IK prog w).hash k))).j=j:=⟨_,rfl⟩;have hj:j<=t.mask:=by
   rw [<-ej];exact cE (Nat.le_add_right _ _) (QQ N (Q3 (qQ _ (lY t.mask))))
  have nf':¬ t.place.size * 5>=t.mask * 3:=by rw [Gb t O.dm] at nf; exact of_decide_eq_false nf
  have room:t.place.size+1<=t.mask:=by rcases O.ms with e | e | e <;> lia
  have YU:below t.place j<=es.size:=by rw [<-O.sz]; exact(rY O.up j).1
  have O':T9 { t with place:=insertAt t.place (below t.place j) j } (insertAt es (below t.place j) ((IK prog w).hash k,.int k tk)):=by
   have:=O.add (x:=.int k tk) (t':={ t with place:=insertAt t.place (below t.place j) j }) h1 h2 (by rw [ej]; exact hj) room rfl rfl (by rw [ej]);rw [ej] at this; exact this
  have ln:layNew t es ((IK prog w).hash k) (.int k tk)=(insertAt es (below t.place j) ((IK prog w).hash k,.int k tk),{ t with place:=insertAt t.place (below t.place j) j },false,false):=by
   unfold layNew;rw [Pp O _ hN h1 h2,ej];dsimp only;rw [OS t O.dm];dsimp only;have:=AN O';unfold SetTable.orStandIn;rw [this,if_pos rfl]; rfl
  rw [ln];dsimp only;refine ae (au ?_);rw [if_pos hpn];refine ae ?_;rw [hashByValue_scannable 8 (x:=.int k tk) rfl];refine au ?_;rw [show plainKind (.int k tk)=true from rfl,if_pos rfl];obtain⟨t',et⟩:∃ t':iL,{ t with place:=insertAt t.place (below t.place j) j } = t':=⟨_,rfl⟩;have e1:t'.mask=t.mask:=by rw [<-et]
  have e4:t'.led=led:=by rw [<-et]; exact hl
  have e5:t'.plain=true:=by rw [<-et]; exact hpn
  rw [et] at O' ⊢;have M':=M.ins (k:=k) (t:=tk) YU;have zs:(insertAt es (below t.place j) ((IK prog w).hash k,n5 k tk)).size=es.size+1:=mC _ _ _ YU;generalize insertAt es (below t.place j) ((IK prog w).hash k,n5 k tk)=es' at O' M' zs ⊢;have pk:(ks.take (below t.place j)++k :: ks.drop (below t.place j)).Perm (k :: ks):=by
   refine List.perm_middle.trans ?_;rw [x9]
  have g1:=M3 ho hd es' t';have sb1:=gQ s.heap a (Obj.putSet es' t');refine ae (wpAny_storeSet_of ho hd ?_ (by rw [zs,bK]; lia));cases tf:t'.tooFull with
  | false =>
   rw [if_neg (by intro z; cases z)];exact au (au (h _ _ true (fun z=>absurd z hk) (fun _=>pk) sb1 ⟨_,_,_,_,g1,hex,rfl,O',tf,e4,e5,M'⟩))
  | true =>
   rw [if_pos (show (!false&&true)=true from rfl)];rw [Gb t' O'.dm,O'.sz,zs,e1] at tf;obtain⟨m1,m2,m3,m4⟩:=QO O.ms (n:=es.size) (by rw [<-O.sz]; exact nf') (of_decide_eq_true tf) hsz;obtain⟨t2,order,el,l1,l2,l3,l4,l5,O2,l6⟩:=RK m1 es' (by rw [zs]; exact m2) t'.finger (t'.movedTo (sizeAbove (grown (es.size+1)) - 1)) t'.led t'.plain;have er:t'.relaid (es'.map (·.1)) (grown es'.size)=some (t2,order):=by rw [zs]; exact el
   have ra:relayAll t' es' (grown es'.size)=(order.filterMap (es'[·]?),t2,false):=by
    unfold relayAll;rw [er];dsimp only;have c:coversAll order es'.size=true:=by unfold coversAll; exact List.isPerm_iff.mpr l6
    rw [c,AN O2,if_pos (show (true&&true)=true from rfl)]
   rw [ra];dsimp only;refine ae (au ?_);obtain⟨ks2,M2,pm⟩:=M'.perm l5;refine ae (wpAny_storeSet_of g1 rfl ?_ (by rw [l4,zs,bK]; lia));have g2:=M3 g1 rfl (order.filterMap (es'[·]?)) t2;refine au (au (h _ ks2 true (fun z=>absurd z hk) (fun _=>pm.trans pk) (sb1.trans (gQ _ a _)) ⟨_,_,_,_,g2,hex,rfl,O2,?_,by rw [l2]; exact e4,by rw [l3]; exact e5,M2⟩));rw [Gb t2 O2.dm,O2.sz,l4,zs,l1];exact decide_eq_false m3
end
end K2.S
end
section
namespace K2.S
open PySem PySem.Spec PyProof.Rows L2 PySem.SetTable
section
variable {prog:bx} {w:World} {A:cX} {E:Value->ao->Prop} {s:ao}
theorem QW{h:Heap}{a:Addr}(e:h.get? a=some (Bk w)):T7 prog w h a (!Mq w) []:=by
 refine⟨_,#[],0,.fresh 0 0 (!Mq w),e,⟨rfl,rfl,rfl⟩,rfl,⟨.inl rfl,rfl,rfl,fun a b _ z=>absurd z (dh _),fun k z=>absurd z (dh _),cu _,fun k z=>absurd z (dh _)⟩,rfl,rfl,rfl,rfl,fun i e he=>?_⟩;cases he
variable {R:Result->ao->Prop} {I:Addr} {fp wr:List Addr} {G:Array CK->Array CK->Prop} {n:Nat} {P:Nat->Value->Prop} {St:Nat->ao->Prop}
theorem UD{b:Bool}(W:WalksS prog w A.in1 I fp wr G n P St)(S:Addr)(Zg:S∉fp)(val:Nat->Int)(yd:n<=76)(X8:∀ i v,P i v->∃ t,v=.int (val i) t) :
  ∀ (k i:Nat) (s:ao) (ks:List Int),n - i=k->i<=n->ks.length<=i->ks.Nodup->St i s->T7 prog w s.heap S b ks ->
   (∀ s' Lv,Moved (S :: wr) G s s'->Lv.Nodup->(∀ x,x∈Lv↔x∈ks\/∃ m,i<=m/\m < n/\val m=x)->T7 prog w s'.heap S b Lv->R (.ok (.ret .none)) s') ->
   pS (model prog w) A (.builtin "set.update.loop" ⟨[.ref S,.ref I],[]⟩) R s:=by
 have hSw:S∉wr:=fun h=>Zg (W.sub _ h);have IB:∀ c∈wr,c∈S :: wr:=fun c hc=>aM _ hc;intro k;induction k with
 | zero =>
  intro i s ks hk hi hl nd uW hS hR;have hin:i=n:=by lia
  subst hin;refine gR Ul ?_;rw [fG v8 _];show wpAny _ A.in1 (uY (.ref I) >>= _) _ _ s;refine ae (W.done s _ _ uW fun s' hm=>(show wpAny _ A.in1 (ret c8) _ _ s' from au (hR s' ks (hm.mono IB) nd (fun j=>?_) (hS.keeps fun o e=>hm.heap S o hSw e))));exact⟨.inl,fun h=>h.elim id fun ⟨m,h1,h2,_⟩=>absurd h1 (by lia)⟩
 | succ k ih =>
  intro i s ks hk hi hl nd uW hS hR;have pH:i < n:=by lia
  refine gR Ul ?_;rw [fG v8 _];show wpAny _ A.in1 (uY (.ref I) >>= _) _ _ s;refine ae (W.item i s _ _ pH uW fun v s' hP ad7 hm=>?_);obtain⟨t,rfl⟩:=X8 i v hP;show wpAny _ A.in1 (Km [n5 (val i) t] (setAdd S (.int (val i) t)) >>= _) _ _ s';refine ae (du ?_);unfold setAdd;refine du (ae ((intKind prog w).pyHash (k:=val i) (Kl _ _ _ _) ?_));refine Ur (s:={ s' with toks:=s'.toks+1 }) (hS.keeps fun o e=>hm.heap S o hSw e) (by lia) fun h' Lv r hin Sf hsb hS2=>?_;have q1:Lv.Nodup/\Lv.length<=ks.length+1/\∀ x,x∈Lv↔x∈ks\/x=val i:=by
   by_cases c:val i∈ks
   ·rw [hin c]; exact⟨nd,lI _,fun x=>⟨.inl,fun z=>z.elim id fun e=>e ▸ c⟩⟩
   ·have p:=Sf c;exact⟨p.nodup_iff.mpr (List.nodup_cons.mpr ⟨c,nd⟩),Nat.le_of_eq p.length_eq,fun x=>by rw [p.mem_iff,u5]; exact Or.comm⟩
  refine au ⟨lz v8 _,ih (i+1) _ Lv (by lia) pH (by lia) q1.1 (W.frame _ s' _ _ ad7 (lI _) fun c hc o e=>?_) hS2 fun s2 ks2 hm2 nd2 hq2 hS3=>?_⟩
  ·rw [hsb.2 c (fun z:c=S=>Zg (by rw [<-z]; exact hc))]; exact e
  ·refine hR s2 ks2 (Moved.trans W.gtrans ((hm.mono IB).then_heap (lI _) fun c o hc e=>?_) hm2) nd2 (fun x=>?_) hS3
   ·rw [hsb.2 c (fun z:c=S=>hc (by rw [z]; exact bH))]; exact e
   ·rw [hq2 x,q1.2.2 x];constructor
    ·rintro((z | z) | ⟨m,a,b,c⟩)
     ·exact .inl z
     ·exact .inr ⟨i,aK _,pH,z.symm⟩
     ·exact .inr ⟨m,by lia,b,c⟩
    ·rintro(z | ⟨m,a,b,c⟩)
     ·exact .inl (.inl z)
     ·by_cases e:m=i
      ·subst e; exact .inl (.inr c.symm)
      ·exact .inr ⟨m,by lia,b,c⟩
set_option maxRecDepth 100000 in
theorem UE{l:Addr}{items:Array Value}{Q:Value->ao->Prop}(hh:A.handled=none)(hu:A.units+64 < cLine)(hl:s.heap.IsList l items)(val:Nat->Int)(yd:items.size<=76)(X8:∀ (i:Nat) (v:Value),items[i]?=some v->∃ t,v=.int (val i) t)
  (h:∀ (h':Heap) (tk:Nat) (ks:List Int),T7 prog w h' s.heap.objs.size (!Mq w) ks->ks.Nodup->(∀ x,x∈ks↔∃ m,m < items.size/\val m=x)->(∀ c o,c < s.heap.objs.size->s.heap.get? c=some o->h'.get? c=some o)->Q (.ref s.heap.objs.size) { s with heap:=h',toks:=tk }) :
  wpAny (model prog w) A (call (.type "set") [.ref l]) Q E s:=by
 obtain⟨c,tl,ahO⟩:=F.called_set.mro;have afP:=F.called_set.made;have IB:=F.called_set.sub;refine pQ (Qp (show wpAny _ _ (callAny (.type "set") _) _ _ _ from ?_));refine au ⟨sA _ (by decide +kernel),gR F.entry_type_call ?_⟩;rw [Around.under_plain (weight_type_call_type "set" [.ref l] []) rfl];have h1:=F.called_set.notType;have h2:=F.called_set.canCreate;have hct:=F.typeCall_set_1 (.ref l)
 repeat (any_goals (first | assumption | wp_step))
 refine kK (ZL (.ref l) (E:=E) (Q:=fun obj fW=>obj=.ref s.heap.objs.size/\fW={ s with heap:=s.heap.push (Bk w) }) ⟨rfl,rfl⟩) fun r s1 hr=>?_;cases r with
 | error e=>exact hr
 | ok fl =>
  cases fl with
  | ret obj =>
   obtain⟨rfl,rfl⟩:=hr;have hS:(s.heap.push (Bk w)).get? s.heap.objs.size=some (Bk w):=a5 _ rfl;have hT:Shared.TypeIs { s with heap:=s.heap.push (Bk w) } (.ref s.heap.objs.size) "set":=⟨_,hS,rfl⟩;have hli:=F.called_set.init.lookup;have hbi:=F.called_set.init.bind (.ref s.heap.objs.size)
   repeat (any_goals (first | assumption | wp_step))
   refine kK (jf (R:=wants (fun r jU=>r=.none/\∃ h' tk ks,jU={ s with heap:=h',toks:=tk }/\T7 prog w h' s.heap.objs.size (!Mq w) ks/\ks.Nodup/\(∀ x,x∈ks↔∃ m,m < items.size/\val m=x) /\
     (∀ c o,c < s.heap.objs.size->s.heap.get? c=some o->h'.get? c=some o)) E) F.called_set.init.plain F.entry_set_init (check_set_init_1 hT ?_)) fun acT jU R7=>?_
   ·obtain⟨⟨ahh,aae,afu,XA⟩,hol,C3,nl,hdl⟩:=hl;simp only at C3 hdl;subst C3 hdl;have aeb:(s.heap.push (Bk w)).get? l=some { cls:=.type "list",dict:=aae,data:=.seq items nl,slots:=XA }:=aA _ hol;have ahF:=F.sub_list_set;have ahG:=F.sub_list_frozenset;have lr:(CM "list" == CM "dict")=false:=by decide
    have Yj:(s.heap.push (Bk w)).IsList l items:=⟨_,aeb,rfl,nl,rfl⟩;unfold Bk at *;unfold Builtin.«set.__init__» noKeywords Builtin.Frozenset.updateFrom;generalize hPI:Du=PI
    wp_walk
    subst hPI;refine vV Yj (ae (wpAny_runValue ?_));have hlS:l < s.heap.objs.size:=aN hol;have hh3:A.in1.in1.in1.handled=none:=by simp [hh]
    have hsz:(s.heap.push (Bk w)).objs.size=s.heap.objs.size+1:=jB _ _;unfold Bk at hsz;refine UD (b:=!Mq w) ((Walks.list hh3 _ l (by rw [hsz]; exact bI (n6 hlS)) items).toS) s.heap.objs.size (by rw [hsz]; simp only [u5,gN,or_false,not_or]; exact⟨bI (pT _),Nat.ne_of_gt hlS⟩)
     val yd (fun i v hP=>X8 i v hP) (items.size - 0) 0 _ [] (by lia) (cu _) (aK _) gZ ⟨⟨_,a5 _ rfl,rfl,rfl⟩,Yj.push _⟩
     ?hS0 ?hR
    case hS0=>exact QW (aA _ hS)
    case hR =>
     intro s' ks hm nd hq hS';obtain⟨h',g',d',P9,Z6⟩:=s';cases (show g'=s.gens from hm.gens);cases (show d'=s.drawn from hm.drawn);cases (show Z6=s.os from hm.os);refine au (show wpAny _ _ (ret c8) _ _ _ from au ⟨rfl,h',P9,ks,rfl,hS',nd,fun x=>(hq x).trans ⟨fun z=>z.elim (fun q=>by cases q) fun ⟨m,_,b,c⟩=>⟨m,b,c⟩,fun ⟨m,b,c⟩=>.inr ⟨m,cu _,b,c⟩⟩,fun c o hc e=>hm.heap c o (fun z=>?_) (aA _ (aA _ e))⟩);rcases List.mem_cons.mp z with z | z
     ·exact absurd z (bI hc)
     ·rw [hsz] at z; exact absurd (List.mem_singleton.mp z) (bI (n6 hc))
   ·cases acT with
    | error e=>exact R7
    | ok aba =>
     cases aba with
     | ret r =>
      obtain⟨rfl,h',tk,ks,rfl,hS',nd,hq,TX⟩:=R7
      repeat (any_goals (first | assumption | wp_step))
      exact h _ _ ks hS' nd hq TX
     | _=>exact R7.elim
  | _=>exact hr.elim
end
end K2.S
end
section
namespace K2
open PySem PySem.Spec PyProof.Rows L2 PySem.W
section
variable {X:Cx} {a:Expr} {ta:AA} {pos p Fy p2:Pos}
theorem V0:dW "set" = some (.type "set"):=by first | rfl | decide +kernel
def tk(k:List Key):D:=.tup (k.map fE)
end
end K2
end
section
namespace K2.S
open PySem PySem.Spec PyProof.Rows L2 PySem.SetTable
namespace F5
theorem slot_next:Slot "set_iterator" "__next__" "set_iterator.__next__" :=
 .of (owner:="set_iterator") (n:="__next__") (by rw [typeLookup_type,builtinLookup_eq_fast]; kernel_rfl) (by decide +kernel) (by decide +kernel) (by decide +kernel) (by first | exact .inl (by decide +kernel) | exact .inr (by decide +kernel)) (by rw [Uc]; kernel_rfl)
theorem entry_next:entryFor table "set_iterator.__next__" = some Builtin.«set_iterator.__next__»:=entryFor_of_tree (by kernel_rfl)
theorem DG:Slot "set_iterator" "__iter__" "set_iterator.__iter__" :=
 .of (owner:="set_iterator") (n:="__iter__") (by rw [typeLookup_type,builtinLookup_eq_fast]; kernel_rfl) (by decide +kernel) (by decide +kernel) (by decide +kernel) (by first | exact .inl (by decide +kernel) | exact .inr (by decide +kernel)) (by rw [Uc]; kernel_rfl)
theorem L8:entryFor table "set_iterator.__iter__" = some Builtin.«dict_keyiterator.__iter__»:=entryFor_alias (id':="dict_keyiterator.__iter__") (by kernel_rfl) rfl (by decide +kernel) (by kernel_rfl)
theorem Jh:entryFor table "set.__iter__" = some Builtin.«frozenset.__iter__»:=entryFor_alias (id':="frozenset.__iter__") (by kernel_rfl) rfl (by decide +kernel) (by kernel_rfl)
theorem own:Manifest.owners.lookup (String.ofList ['r','o','t','a','r','e','t','i','_','t','e','s'].reverse)=some Manifest.sig_set_iterator:=by kernel_rfl
theorem args_next (a:Value):argsOk "set_iterator.__next__" ⟨[a],[]⟩:=by
 unfold argsOk; rw [signature?_of (id:="set_iterator.__next__") (n:=['_','_','t','x','e','n','_','_']) (o:=['r','o','t','a','r','e','t','i','_','t','e','s']) (by kernel_rfl) own]; kernel_rfl
theorem PM (a:Value):argsOk "set_iterator.__iter__" ⟨[a],[]⟩:=by
 unfold argsOk; rw [signature?_of (id:="set_iterator.__iter__") (n:=['_','_','r','e','t','i','_','_']) (o:=['r','o','t','a','r','e','t','i','_','t','e','s']) (by kernel_rfl) own]; kernel_rfl
end F5
def KQ(pl:Array Nat)(i:Nat):Nat:=if i=0 then 0 else pl.getD (i - 1) 0+1
theorem To{xs:Array Nat}(up:Up xs){i:Nat}(h:i<=xs.size):below xs (KQ xs i)=i:=by
 obtain⟨h1,h2,h3⟩:=rY up (KQ xs i);unfold KQ at h1 h2 h3 ⊢;by_cases c:i=0
 ·rw [if_pos c] at h1 h2 h3 ⊢;apply dS;intro z;have:=h2 0 (by lia);lia
 ·rw [if_neg c] at h1 h2 h3 ⊢;apply dS;intro z;by_cases q:below xs (xs.getD (i - 1) 0+1) < i
  ·have:=h3 (i - 1) (by lia) (by lia); lia
  ·have a1:=h2 i (by lia);have a2:=up (i - 1) i (by lia) (by lia);lia
section
variable {prog:bx} {w:World} {A:cX} {E:Value->ao->Prop} {s:ao}
abbrev tb(w:World)(mk:Nat)(pl dm:Array Nat)(fg mv:Nat):iL:={ mask:=mk,place:=pl,dummies:=dm,finger:=fg,led:=!Mq w,moves:=mv,plain:=true }
structure Wk(w:World)(o:Obj)(es:En)(ep:Nat)(mk:Nat)(pl dm:Array Nat)(fg mv:Nat):Prop where
 ex:o.ExactSet
 dd:o.data=.set es ep (tb w mk pl dm fg mv)
 fit:(tb w mk pl dm fg mv).fits es.size=true
 sz:pl.size=es.size
 up:Up pl
def ord(w:World)(a:Addr)(ep:Nat)(es:En):En:=if Mq w=true then pickOrder (w.params.setOrder a ep) es else es
def slt(w:World)(pl:Array Nat)(i:Nat):Nat:=if Mq w=true then 0 else KQ pl i
abbrev acS (a:Addr) (sl i n ep:Nat):Obj:={ cls:=.type "set_iterator",data:=.fields #[.int sl 0,.int i 0,.ref a,.int n 0,.int ep 0] }
def Zl (h:Heap) (it a:Addr) (sl i n ep:Nat):Prop:=∃ o,h.get? it=some o/\o.cls=.type "set_iterator"/\o.data=.fields #[.int sl 0,.int i 0,.ref a,.int n 0,.int ep 0]
theorem Zl.ty {it a:Addr} {sl i n ep:Nat} (x:Zl s.heap it a sl i n ep):s.TypeIs (.ref it) "set_iterator":=by
 obtain⟨o,h,c,_⟩:=x;exact⟨o,h,c⟩
theorem GG{Q:Bool->ao->Prop}(h:Q (Mq w) s):wpAny (model prog w) A setsByText Q E s:=by
 unfold setsByText;exact ae (Of (au h))
variable {es:En} {mk fg mv:Nat} {pl dm:Array Nat} {a it:Addr} {o:Obj} {ep:Nat}
theorem QT{Q:Value->ao->Prop}(ho:s.heap.get? a=some o)(W:Wk w o es ep mk pl dm fg mv)
  (hQ:Q (.ref s.heap.objs.size) { s with heap:=s.heap.push (acS a 0 0 es.size ep) }):wpAny (model prog w) A (Du (.ref a)) Q E s:=by
 have ty:s.TypeIs (.ref a) "set":=⟨o,ho,W.ex.1⟩;refine vU ty Oj (fD Oj ty F5.Jh ?_ (PySem.F.args_set_iter_1 _));unfold Builtin.«frozenset.__iter__» Builtin.Frozenset.slot0 slotArgs;simp only [List.isEmpty_nil,bM,aw,↓reduceIte,bind_assoc,aq,bne_self_eq_false];unfold Builtin.Frozenset.addrOf Builtin.Frozenset.sizeOf;refine ae (au ?_)
 try dsimp only
 refine ae (au (ae (ae (EC ho W.dd W.fit (au ?_)))));refine ae ?_;unfold setDrawn;refine ae (pO ho W.dd W.fit ?_);dsimp only;refine ae (GG (au ?_));split
 ·rename_i z;exact absurd z (by cases Mq w <;> exact fL)
 ·refine ae (au ?_);unfold setEpoch;refine ae (ae (pO ho W.dd W.fit (au ?_)));unfold newFields;refine ae (eP (au ⟨_,rfl,"set_iterator",_,⟨_,a5 _ rfl,rfl⟩,F5.slot_next.lookup,?_⟩) (by size_fits));exact hQ
theorem UG(hb:Mq w=true)(ho:s.heap.get? a=some o)(W:Wk w o es ep mk pl dm fg mv):wpAny (model prog w) A (setWalk a) (fun r s'=>r=pickOrder (w.params.setOrder a ep) es/\s'=s) (fun _ _=>False) s:=by
 unfold setWalk;refine ae (pO ho W.dd W.fit ?_);dsimp only;refine ae (GG ?_);rw [hb,if_pos rfl];exact ae (Of (au ⟨rfl,rfl⟩))
theorem MN{i:Nat}(hi:i<=es.size)(ho:s.heap.get? a=some o)(W:Wk w o es ep mk pl dm fg mv):wpAny (model prog w) A (setNext a (slt w pl i) i ep) (fun r s'=>r=((ord w a ep es)[i]?).map (fun e=>(e.2,slt w pl (i+1)))/\s'=s) (fun _ _=>False) s:=by
 unfold setNext;refine ae (pO ho W.dd W.fit ?_);dsimp only;refine ae (GG ?_);cases hb:Mq w with
 | true =>
  rw [if_pos rfl,if_neg (by simp)];refine ae (eY (UG hb ho W) (fun r s' z=>?_) fun _ _ z=>z);obtain⟨rfl,rfl⟩:=z;refine au ⟨?_,rfl⟩;unfold ord slt;rw [hb]; rfl
 | false =>
  rw [if_neg (by simp)];have sl:slt w pl i=KQ pl i:=by unfold slt; rw [hb]; rfl
  have sl1:slt w pl (i+1)=pl.getD i 0+1:=by unfold slt; rw [hb]; rfl
  have bl:GW pl (KQ pl i)=i:=To W.up (by rw [W.sz]; exact hi);split
  ·rename_i z;exact absurd z fL
  ·refine ae (show wpAny (model prog w) A (if (!(!Mq w)&&!es.isEmpty)=true then unsupported "set:maker-not-led" else pure ()) _ _ s from ?_);rw [if_neg (by rw [hb]; simp)];refine au (au ⟨?_,rfl⟩);show (match es[GW pl (slt w pl i)]?,pl[GW pl (slt w pl i)]? with
    | some (_,x),some j=>some (x,j+1)
    | _,_=>none)=_
   rw [sl,bl,sl1];unfold ord;rw [hb,if_neg (by simp)];by_cases c:i < es.size
   ·have hp:i < pl.size:=by rw [W.sz]; exact c
    rw [bU c,bU hp];simp [sY,hp]
   ·rw [ic (by lia)]; rfl
theorem UH{i:Nat}{Q:Option Value->ao->Prop}(ki:Zl s.heap it a (slt w pl i) i es.size ep)(ho:s.heap.get? a=some o)(W:Wk w o es ep mk pl dm fg mv)(hi:i<=es.size){e:Int×Value}(he:(ord w a ep es)[i]?=some e)
  (hQ:∀ h',Zl h' it a (slt w pl (i+1)) (i+1) es.size ep->lK it s.heap h'->Q (some e.2) { s with heap:=h' }):wpAny (model prog w) A (uY (.ref it)) Q E s:=by
 obtain⟨oi,Zf,hci,VC⟩:=id ki;unfold uY;refine ae (n4 (ig (name:=a8 "__next__") ki.ty F5.slot_next (fD F5.slot_next ki.ty F5.entry_next ?_ (F5.args_next _))));unfold Builtin.«set_iterator.__next__» slotArgs;refine ae (au ?_);refine ae (Dt Zf VC ?_);show wpAny _ _ (setEntries a >>= _) _ _ s;refine ae (EC ho W.dd W.fit ?_);rw [if_neg (by simp)];show wpAny _ _ (setNext a (CP (slt w pl i:Int)) (CP (i:Int)) (CP (ep:Int)) >>= _) _ _ s;rw [eF,eF,eF];refine ae (eY (MN hi ho W) (fun r s' z=>?_) fun _ _ z=>z.elim);obtain⟨rfl,rfl⟩:=z;rw [he];show wpAny _ _ (Hi (.ref it) 0 (r8 (slt w pl (i+1):Int)) >>= _) _ _ _;refine ae (mq Zf VC (by simp) ?_);have g1:=dQ (mQ (·.setIfInBounds 0 (r8 (slt w pl (i+1):Int)))) Zf (oV (fh VC _));refine ae (mq g1 (fh VC _) (by simp) ?_);have g2:=dQ (mQ (·.setIfInBounds 1 (r8 ((i:Int)+1)))) g1 (oV (fh (fh VC _) _));refine au ⟨_,rfl,au (hQ _ ⟨_,g2,?_,?_⟩ ((gQ ..).trans (gQ ..)))⟩
 ·rw [EH,EH]; exact hci
 ·rw [fh (fh VC _)]; simp [r8]
theorem Xi{Q:Option Value->ao->Prop}(calm:A.handled=none)(ki:Zl s.heap it a (slt w pl es.size) es.size es.size ep)(ho:s.heap.get? a=some o)(W:Wk w o es ep mk pl dm fg mv)(hl:(ord w a ep es).size=es.size)
  (hQ:∀ h',Heap.ExtBut it s.heap h'->Q none { s with heap:=h' }):wpAny (model prog w) A (uY (.ref it)) Q E s:=by
 obtain⟨oi,Zf,hci,VC⟩:=id ki;unfold uY;refine ae (n4 (ig (name:=a8 "__next__") ki.ty F5.slot_next (fD F5.slot_next ki.ty F5.entry_next ?_ (F5.args_next _))));unfold Builtin.«set_iterator.__next__» slotArgs;refine ae (au (ae (Dt Zf VC ?_)));show wpAny _ _ (setEntries a >>= _) _ _ s;refine ae (EC ho W.dd W.fit ?_);rw [if_neg (by simp)];show wpAny _ _ (setNext a (CP (slt w pl es.size:Int)) (CP (es.size:Int)) (CP (ep:Int)) >>= _) _ _ s;rw [eF,eF,eF];refine ae (eY (MN (aK _) ho W) (fun r s' z=>?_) fun _ _ z=>z.elim);obtain⟨rfl,rfl⟩:=z;rw [ic (by lia)];show wpAny _ _ (Hi (.ref it) 2 .none >>= _) _ _ _;refine ae (mq Zf VC (by simp) ?_);show wpAny _ _ (newExc (.type "StopIteration") [] >>= _) _ _ _;refine ae ?_;simp only [newExc,newTuple];refine ae (eP (ae (m:=Dv _ _) (Ql (a:=c8) (by first | rfl | (simp only [Dv]; rfl)) (eP ?_ (by size_fits)))) (by size_fits));unfold raiseNew;refine ae (wpAny_handled ?_);rw [show A.in1.handled=none from calm];refine ae (au (wpAny_throw ?_));refine ae (Oe (T:="StopIteration") (b:=true) ⟨_,a5 _ rfl,rfl⟩ isSubtype_stop (?_));exact au (hQ _ (((gQ ..).extBut.push _).push _))
theorem Sy{α:Type}:∀ (l:List α) (i:Nat) (h:i < l.length),(l[i] :: l.eraseIdx i).Perm l
 | x :: r,0,_=>.refl _
 | x :: r,i+1,h=>by
  rw [List.getElem_cons_succ,List.eraseIdx_cons_succ];exact(List.Perm.swap _ _ _).trans (.cons _ (Sy r i (by simpa using h)))
theorem DS{α:Type}(next:Nat->Nat):∀ (f k:Nat) (l:List α) (out:Array α),l.length<=f->(pickOrder.go next f k l out).toList.Perm (out.toList++l)
 | 0,k,l,out,h=>by
  have:l=[]:=List.length_eq_zero_iff.mp (by lia);subst this;rw [bV]; exact .refl _
 | f+1,k,l,out,h=>by
  unfold pickOrder.go;cases l with
  | nil=>simp
  | cons x r =>
   have hi:next k % (x :: r).length < (x :: r).length:=qQ _ (by simp);rw [aj hi];dsimp only;refine(DS next f (k+1) _ _ (by rw [List.length_eraseIdx_of_lt hi]; simp at h ⊢; lia)).trans ?_;rw [Array.toList_push,cW];exact .append_left _ (Sy _ _ hi)
theorem HW(w:World)(a:Addr)(ep:Nat)(es:En):(ord w a ep es).toList.Perm es.toList:=by
 unfold ord;split
 ·unfold pickOrder;have:=DS (w.params.setOrder a ep) es.size 0 es.toList #[] (by simp);simpa using this
 ·exact .refl _
theorem Bz(w:World)(a:Addr)(ep:Nat)(es:En):(ord w a ep es).size=es.size:=by have:=(HW w a ep es).length_eq; simpa using this
theorem QS(hh:A.handled=none)(lr:a≠it)(W:Wk w o es ep mk pl dm fg mv) :
  PySem.Walks prog w A it [it,a] [it] es.size (fun i v=>∃ e,(ord w a ep es)[i]?=some e/\v=e.2) (fun i h=>Zl h it a (slt w pl i) i es.size ep/\h.get? a=some o) where
 sub:=fun c hc=>by simp at hc; simp [hc]
 frame:=fun i h h' st hk=>⟨let ⟨o,e,r⟩:=st.1; ⟨o,hk it (by simp) o e,r⟩,hk a (by simp) o st.2⟩
 item:=fun i s Q E hi st hQ=>by
  have Qd:i < (ord w a ep es).size:=by rw [Bz]; exact hi
  have he:(ord w a ep es)[i]?=some (ord w a ep es)[i]:=bU Qd;exact UH st.1 st.2 W (GY hi) he fun h' AH sb=>hQ _ h' s.toks ⟨_,he,rfl⟩ ⟨AH,(sb.2 a lr).trans st.2⟩ fun c o hc e=>(sb.2 c (by simpa using hc)).trans e
 done:=fun s Q E st hQ=>Xi hh st.1 st.2 W (Bz ..) fun h' eb=>hQ h' s.toks fun c o hc e=>eb c o (by simpa using hc) e
 self:=fun i s Q E st hQ=>by
  refine vU st.1.ty F5.DG (fD F5.DG st.1.ty F5.L8 ?_ (F5.PM _));show wpAny _ _ (ret (.ref it)) _ _ s;exact au ⟨_,rfl,"set_iterator",_,st.1.ty,F5.slot_next.lookup,hQ⟩
theorem UI {r:Addr} {Q:Bool->ao->Prop} (hT:s.TypeIs (.ref r) "set") (h:Q false s):wpAny (model prog w) A (AF (.ref r)) Q E s:=by
 unfold AF;refine ae (wpAny_specialOf hT PySem.F.slot_set_len.lookup ?_);generalize Sj:("set.__len__" : String)=id0
 wp_delta
 rw [show splitId id0=some ("set","__len__") from by subst Sj; decide +kernel];subst Sj;refine ae (Oe (T:="set") (b:=true) hT (by rw [Uc]; kernel_rfl) (wpAny_ite_split (fun VD=>absurd VD (by decide)) fun _=>?_));exact wpAny_ite_split (fun _=>ae (wpAny_typeOf hT (au h))) fun VD=>absurd (by decide +kernel) VD
theorem Xh(W:Wk w o es ep mk pl dm fg mv) :
  PySem.W.KdlSrc prog w "set" a a es.size (fun i v=>∃ e,(ord w a ep es)[i]?=some e/\v=e.2) (fun h=>h.get? a=some o) where
 type:=fun s cO=>⟨o,cO,W.ex.1⟩
 there:=fun h cO=>⟨aN cO,aN cO⟩
 keep:=fun h h' cO hk=>hk a (.inl rfl) o cO
 notList:=by decide
 notTuple:=by decide
 hint:=fun A E s Q cO hq=>UI ⟨o,cO,W.ex.1⟩ hq
 iter:=fun A s hh cO=>⟨_,_,(fun E Q hq=>QT cO W hq),QS hh (bI (aN cO)) W,⟨⟨_,a5 _ rfl,rfl,by unfold slt KQ; simp⟩,aA _ cO⟩⟩
end
end K2.S
end
section
namespace K2
open PySem PySem.Spec PyProof.Rows L2 PySem.W
section
variable {X:Cx}
theorem PF (hc:X.calm=true) (hu:X.A.units+64 < cLine):oP X (.builtin "max") VY:=by
 intro pins s σ H G xs ds us Q I ab rx rd q;unfold VY at q;split at q
 ·rename_i a b;obtain⟨w1,w2,rfl,Bp,rw2⟩:=rd.two;obtain⟨u1,u2,rfl,ru1,ru2⟩:=vals2 rx;cases Bp;cases rw2;obtain⟨t,rfl⟩:=ru1;obtain⟨t2,rfl⟩:=ru2;refine max_two_ints (I.ok.hd hc) fun h' tk k=>?_;have I2:=I.kept (t':=tk) k;by_cases c:a < b
  ·rw [if_pos c] at q;rw [if_pos (show b > a from c)];exact⟨.int b,H,.int b,G,I2,.refl ab,⟨_,rfl⟩,.int _,q⟩
  ·rw [if_neg c] at q;rw [if_neg (show ¬ b > a from c)];exact⟨.int a,H,.int a,G,I2,.refl ab,⟨_,rfl⟩,.int _,q⟩
 ·exact q.elim
end
end K2
end
section
namespace K2
open PySem PySem.Spec PyProof.Rows L2
def Vv:List Value->List Int->Bool
 | [],[]=>true
 | v :: vs,n :: ns=>Hl n v&&Vv vs ns
 | _,_=>false
def Hv(K:ag)(a:Addr)(ns:List Int):Bool:=match K.lookup a with
 | some o=>o.cls == .type "tuple" && (match o.data with | .seq bw _=>Vv bw.toList ns | _=>false)
 | none=>false
theorem D3:∀ (vs:List Value) (ns:List Int),Vv vs ns=true->Vals (ns.map V.int) vs
 | [],[],_=>.nil
 | [],_ :: _,h=>a6 (show false=true from h)
 | _ :: _,[],h=>a6 (show false=true from h)
 | v :: vs,n :: ns,h=>by
  have h:(Hl n v&&Vv vs ns)=true:=h;rw [aI] at h;rcases gf (k:=.inl n) h.1 with ⟨j,t,e,rfl⟩ | ⟨_,_,e,_⟩
  ·cases e;exact .cons ⟨t,rfl⟩ (D3 vs ns h.2)
  ·cases e
section
variable {X:Cx}
theorem Fx{a:Expr}{ta:fM}{p pos:Pos}{j}(ha:gy X a ta):He X (.Compare a [.Is] [.Constant .none j p] pos) (fk (sP (sE false) ta)) :=
 show He X _ (fk (a9 (K0 false) ta (dC .cR))) from cS Nf ha j8 (gc _)
theorem DQ{a:Expr}{ta:fM}{p pos:Pos}{j}(ha:gy X a ta):He X (.Compare a [.IsNot] [.Constant .none j p] pos) (fk (sP (sE true) ta)) :=
 show He X _ (fk (a9 (K0 true) ta (dC .cR))) from cS OZ ha j8 (gc _)
end
end K2
end
section
namespace K2
open PySem PySem.Spec PyProof.Rows L2 PySem.W
open Enc (enc)
section
variable {X:Cx}
theorem RZ{K:ag}{H:Hp}:∀ {ns:List Int} {vs:List V} {bw:List Value},bc K H vs (ns.map enc)->Vals vs bw->mR bw ns:=by
 intro ns;induction ns with
 | nil=>intro vs bw r v; cases r; cases v; exact .nil
 | cons n ns ih =>
  intro vs bw r v;cases r with
  | cons r1 r2 =>
   cases r1;cases v with
   | cons v1 v2=>obtain⟨t,rfl⟩:=(show ∃ t,_=n5 n t from v1); exact .cons _ _ (ih r2 v2)
end
end K2
end
section
namespace K2
open PySem PySem.Spec PyProof.Rows L2 PySem.W
section
variable {X:Cx} {a b:Expr} {ta tb:fM} {pos p2:Pos}
theorem kS:oN X (km .Add) tN:=by
 intro pins s σ H G x y dx dy v u Q I ab rx ry dX dY q;unfold tN at q;split at q
 ·rename_i z w;cases dX; cases dY;obtain⟨t,rfl⟩:=(show ∃ t,v=gz z t from rx);obtain⟨t',rfl⟩:=(show ∃ t,u=gz w t from ry);exact SB.add (fun t' k=>⟨.str _,H,.str _,G,I.tok _,.refl ab,⟨_,rfl⟩,.str _,q.2⟩) (by rw [bK]; lia)
 ·exact q.elim
theorem Vh:oN X (dU .In) (CW false):=by
 intro pins s σ H G x y dx dy v u Q I ab rx ry dX dY q;unfold CW at q;split at q
 ·rename_i z w;cases dX; cases dY;obtain⟨t,rfl⟩:=(show ∃ t,v=gz z t from rx);obtain⟨t',rfl⟩:=(show ∃ t,u=gz w t from ry);exact SB.contains ⟨.bl _,H,.bl _,G,I.tok s.toks,.refl ab,rfl,.bl _,q⟩
 ·exact q.elim
theorem oK:oP X (.builtin "len") Co:=by
 intro pins s σ H G xs ds us Q I ab rx rd q;unfold Co at q;split at q
 ·rename_i x;obtain⟨w1,rfl,Bp⟩:=rd.one;obtain⟨u,rfl,ru⟩:=rx.one;cases Bp;obtain⟨t,rfl⟩:=(show ∃ t,u=gz x t from ru);refine P.len_str (by lia) ⟨.int _,H,.int _,G,I.tok _,.refl ab,⟨_,rfl⟩,.int _,q.2⟩
 ·exact q.elim
theorem Mo:oP X (.type "int") NZ:=by
 intro pins s σ H G xs ds us Q I ab rx rd q;unfold NZ at q;split at q
 ·rename_i x;obtain⟨w1,rfl,Bp⟩:=rd.one;obtain⟨u,rfl,ru⟩:=rx.one;cases Bp;obtain⟨t,rfl⟩:=(show ∃ t,u=gz x t from ru);obtain⟨n,hn,hl,q⟩:=q;exact KIN.call_text hn hl ⟨.int _,H,.int _,G,I.tok _,.refl ab,⟨_,rfl⟩,.int _,q⟩
 ·exact q.elim
theorem nE(ha:gy X a ta)(hb:gy X b tb)(hs:autoParam (∀ (x:Str) (t:Tok) (i:Int) (u:Tok),subscripted b false (.str x t) (.int i u)=operate [.str x t,.int i u] (Qo (.str x t) (.int i u))) Aua._auto_1)
  (ht:autoParam (∀ (x:Str) (t:Tok) (r:Value),letTemporaryGo a (.str x t) r=pure ()) Aub._auto_1):gy X (.Subscript a b pos) (a9 Bv ta tb):=by
 intro E pins s σ H τ G Q hE I h;refine CC (N4 ha hb hE I h fun v u s2 x y dx dy H2 G2 J m rx ry dX dY q=>?_);unfold Bv at q;split at q
 ·rename_i z i;cases dX; cases dY;obtain⟨t,rfl⟩:=(show ∃ t,v=gz z t from rx);obtain⟨t',rfl⟩:=(show ∃ t,u=n5 i t from ry);exact KXi.item rfl q.1.1 q.1.2.1 (by lia) (fun _=>⟨.str _,H2,.str _,G2,J.inv.tok _,m,⟨_,rfl⟩,.str _,q.2⟩) (hs _ _ _ _) (fun r=>ht _ _ r)
 ·exact q.elim
theorem fO{lo hi:Option Expr}{tl th:Y0}(he:gy X a ta)(hl:Zn X lo tl)(hu:Zn X hi th):gy X (.Subscript a (.Slice lo hi none p2) pos) (oH ta tl th):=by
 intro E pins s σ H τ G Q hE I h;refine CC (jC he hE I h fun x H1 d G1 v s1 I1 m1 r1 kg q1=>?_);refine wpAny_Slice (gK (hl E pins s1 σ H1 τ G1 _ hE I1 q1) ?_);rintro vl s2 ⟨l,H2,G2,jA,m2,pl,q2⟩;refine gK (hu E pins s2 σ H2 τ G2 _ hE (I1.mv jA m2) q2) ?_;rintro vu s3 ⟨r,H3,G3,I3,m3,pu,q3⟩;rw [evalPart_none];refine au ?_;have mm:=m1.trans (m2.trans m3);have I4:Inv X pins σ H3 { s3 with heap:=s3.heap.push { cls:=.type "slice",data:=.fields #[vl,vu,.none] } }:=I3.kept (t':=s3.toks) fun b ob q=>aA _ q;split at q3
 ·rename_i y;cases kg;obtain⟨t,rfl⟩:=(show ∃ t,v=gz y t from r1);have hz:y.length<=bg:=by rw [bK]; lia
  have fin:∀ t' k,qN X pins σ H G Q (.str (Txt.slice y l r) t') { s3 with heap:=s3.heap.push { cls:=.type "slice",data:=.fields #[vl,vu,.none] },toks:=k }:=fun t' k=>⟨.str _,H3,.str _,G3,I4.tok k,mm,⟨_,rfl⟩,.str _,q3.2⟩;cases pl with
  | none =>
   cases pu with
   | none=>exact yh (ops:=[.ref s3.heap.objs.size,.str y t]) (Kh _ _ _) F.slot_str_getitem.lookup (nZ (l:=none) (u:=none) (st:=none) ⟨_,a5 _ rfl,rfl,rfl⟩ rfl (A4 ⟨cE (GV y _ _) hz,fin⟩)) (by with_unfolding_all rfl)
   | int j tj=>exact yh (ops:=[.ref s3.heap.objs.size,.str y t]) (Kh _ _ _) F.slot_str_getitem.lookup (nZ (l:=none) (u:=some (j,tj)) (st:=none) ⟨_,a5 _ rfl,rfl,rfl⟩ rfl (A4 ⟨cE (GV y _ _) hz,fin⟩)) (by with_unfolding_all rfl)
  | int i ti =>
   cases pu with
   | none=>exact yh (ops:=[.ref s3.heap.objs.size,.str y t]) (Kh _ _ _) F.slot_str_getitem.lookup (nZ (l:=some (i,ti)) (u:=none) (st:=none) ⟨_,a5 _ rfl,rfl,rfl⟩ rfl (A4 ⟨cE (GV y _ _) hz,fin⟩)) (by with_unfolding_all rfl)
   | int j tj=>exact yh (ops:=[.ref s3.heap.objs.size,.str y t]) (Kh _ _ _) F.slot_str_getitem.lookup (nZ (l:=some (i,ti)) (u:=some (j,tj)) (st:=none) ⟨_,a5 _ rfl,rfl,rfl⟩ rfl (A4 ⟨cE (GV y _ _) hz,fin⟩)) (by with_unfolding_all rfl)
 ·exact q3.elim
theorem uv:JN X "str.split" yE:=by
 intro pins s σ H G x d xs ds v us Q I ab rv rd rx yu q;unfold yE at q;split at q
 ·rename_i y z;cases rd;obtain⟨w1,rfl,Bp⟩:=yu.one;obtain⟨u,rfl,ru⟩:=rx.one;cases Bp;obtain⟨t,rfl⟩:=(show ∃ t,v=gz y t from rv);obtain⟨t',rfl⟩:=(show ∃ t,u=gz z t from ru);obtain⟨hz,hy,q⟩:=q;obtain⟨m,F0⟩:=I.fr;refine KSpl.split1 F0 wZ hz (fun Dd l h' k e sa F N pH=>?_) (by rw [bK]; lia);obtain⟨k2,ns2⟩:=lO I F0 F fun p hp=>N p (aM _ hp);have hD:s.heap.get? Dd=none:=by
   have nD:=N _ bH;cases qd:s.heap.get? Dd with
   | none=>rfl
   | some o=>exact absurd (pH _ (mz nD.2.1 nD.2.2 qd)) (eQ _)
  have hp:H Dd=none:=xx I.cO hD;rw [<-e] at q;have rs:∀ l:List (Str×Tok),Vals ((l.map (·.1)).map V.str) (strValues l)/\bc X.K H ((l.map (·.1)).map V.str) ((l.map (·.1)).map D.str):=by
   intro l;induction l with
   | nil=>exact⟨.nil,.nil⟩
   | cons p l ih=>exact⟨.cons ⟨_,rfl⟩ ih.1,.cons (.str _) ih.2⟩
  have hln:(l.map (·.1)).length<=y.length+2:=by rw [e]; exact split_le y z
  refine⟨.ref Dd,upd H Dd (.lst ((l.map (·.1)).map V.str)),.ref _,_,Inv.Iq (t':=k) I k2 ns2 hD ?_,.FH ab hp (rs l).2,rfl,.ref _,q _ (ab.free hp)⟩;exact⟨by rw [ai,bK]; lia,_,0,(rs l).1,(N _ bH).1⟩
 ·exact q.elim
end
end K2
end
section
namespace K2
open PySem PySem.Spec PyProof.Rows L2
def Its(x:Str):It:=⟨fun i _=>i < x.cps.size,fun i H v H'=>H'=H/\∃ c,x.cps[i]?=some c/\v=.str ⟨#[c]⟩,fun i _=>x.cps.size<=i⟩
theorem QH {P:bx} {w:World} {K:ag} {tg:Expr} (x:Str) (t:Tok) (it:Addr):Turn P w K tg (Its x) [it] it (fun i h=>h.IsStrIter it "str_ascii_iterator" x t i) where
 mem:=by simp
 obj:=fun i h st b hb=>by
  have e:b=it:=by simpa using hb
  subst e;obtain⟨o,e,c,d⟩:=st;exact⟨o,e,fun v z=>by rw [d] at z; cases z⟩
 keep:=fun i h h' st k=>by
  obtain⟨o,e,r⟩:=st;exact⟨o,k it (by simp) o e,r⟩
 item:=by
  intro X hP hw hK hc i pins s σ H E I hf st hg;subst hP hw hK;have hg:i < x.cps.size:=hg;obtain⟨f0,f1,f2,f3,f4,f5⟩:=hf it (by simp);have hx:x.cps[i]?=some x.cps[i]:=by simp [hg]
  refine wpAny_pyNext_ascii_item st hx fun h' AH sb=>?_;have I1:Inv X pins σ H { s with heap:=h',toks:=s.toks+1 }:=I.turned (t':=s.toks+1) (fun b o hb e=>(sb.2 b hb).trans e) f0 f1 f3 f4 f5;obtain⟨o,e,c,d⟩:=id AH;exact⟨_,rfl,II (s:={ s with heap:=h',toks:=s.toks+1 }) e c d (by decide) ⟨.str ⟨#[x.cps[i]]⟩,H,I1,⟨_,rfl⟩,⟨rfl,_,hx,rfl⟩,AH,fun b hb=>(hf b hb).1⟩⟩
 done:=by
  intro X hP hw hK hc i pins s σ H E I hf st hg;subst hP hw hK;have hg:x.cps.size<=i:=hg;obtain⟨f0,f1,f2,f3,f4,f5⟩:=hf it (by simp);exact wpAny_pyNext_ascii_end (I.ok.hd hc) st (by simp; lia) fun h' eb=>⟨rfl,I.turned (t':=s.toks) (fun b o hb e=>eb b o hb e) f0 f1 f3 f4 f5⟩
 self:=fun _ _ _ _ _ st h=>wpAny_pyIter_striter_ascii st h
section
variable {X:Cx} {tg:Expr} {a:Expr} {ta:fM}
theorem M8(ha:gy X a ta):Qh X tg a (X7 ta):=by
 intro E pins s σ H τ G R hE I h;refine jC ha hE I h fun x H1 d G1 v s1 I1 m1 r1 kg q1=>?_;split at q1
 ·rename_i y;cases kg;obtain⟨t,rfl⟩:=(show ∃ t,v=gz y t from r1);refine wpAny_pyIter_ascii q1.1 ?_;refine⟨s1.heap.objs.size,[s1.heap.objs.size],_,_,H1,G1,_,_,rfl,I1.inv.kept (t':=s1.toks) fun b o e=>aA _ e,m1,QH y t _,⟨_,a5 _ rfl,rfl,rfl⟩,fun b hb=>?_,fun i H2 G2 k ab _=>?_,q1.2⟩
  ·have e:b=s1.heap.objs.size:=by simpa using hb
   subst e;exact I1.inv.LH (aK _) (I1.inv.cO.fresh (aK _))
  ·refine⟨fun d hd=>?_,fun hl=>show y.cps.size<=i by simpa using hl⟩;rw [bP] at hd;obtain⟨c,hc,rfl⟩:=Option.map_eq_some_iff.mp hd;have hi:i < y.cps.size:=by
    have:=(List.getElem?_eq_some_iff.mp hc).1;simpa using this
   refine⟨hi,?_⟩;rintro x H3 ⟨e,c',IG,rfl⟩;subst e;have:c'=c:=by
    rw [cz] at hc;rw [hc] at IG; cases IG; rfl
   subst this;exact⟨.str _,.refl ab⟩
 ·exact q1.elim
end
def VO(w:World)(p:Str×Tok×Addr):kL:=⟨hashStr w p.1,.str p.1 p.2.1,.ref p.2.2⟩
def SOk(K:ag):List (Str×Tok×Addr)->List (Str×Int×Int)->Prop
 | [],[]=>True
 | e :: es,p :: ps=>(e.1=p.1/\Hv K e.2.2 [p.2.1,p.2.2]=true)/\SOk K es ps
 | _,_=>False
structure Mt(w:World)(K:ag)(g:Addr)(es:List (Str×Tok×Addr))(kv:List (Str×Int×Int)):Prop where
 at_:∃ n,K.lookup g=some { cls:=.type "dict",dict:=none,data:=.dict (es.map (VO w)).toArray n,slots:=#[] }
 ns:(g == gF)=false
 nd:(es.map (·.1)).Nodup
 vals:SOk K es kv
section
variable {P:bx} {w:World} {K:ag} {g:Addr} {es:List (Str×Tok×Addr)} {kv:List (Str×Int×Int)}
def TN(es:List (Str×Tok×Addr)):List (Key×Value):=es.map fun p=>(.inr p.1,.ref p.2.2)
theorem Nc:∀ es:List (Str×Tok×Addr),Pairs (gm P w) (es.map (VO w)) (TN es)
 | []=>.nil
 | e :: es=>.cons (xi (k:=.inr e.1) ⟨_,rfl⟩) rfl (Nc es)
theorem Mt.of(S:Mt w K g es kv){h:Heap}(Y:K.In h):h.DictOf (gm P w) g (TN es):=by
 obtain⟨n,hl⟩:=S.at_;refine⟨_,_,n,Y _ _ hl,⟨rfl,rfl,rfl⟩,rfl,?_,?_,?_⟩
 ·intro e he;have:e∈es.map (VO w):=by simpa using he
  obtain⟨p,_,rfl⟩:=List.mem_map.mp this;exact⟨.inr p.1,xi (k:=.inr p.1) ⟨_,rfl⟩,rfl⟩
 ·simpa using Nc (P:=P) (w:=w) es
 ·unfold TN;rw [eD];have:(es.map ((fun x:Key×Value=>x.1)∘fun p=>((.inr p.1:Key),dF p.2.2)))=(es.map (·.1)).map EE:=by rw [eD]; rfl
  rw [this,sd,kn];exact(List.nodup_iff_pairwise_ne.mp S.nd).imp fun lr e=>lr (Sum.inr.inj e)
theorem YW(y:Str):∀ {es:List (Str×Tok×Addr)} {kv:List (Str×Int×Int)},SOk K es kv->(∃ b p,qS (TN es) (.inr y)=some (.ref b)/\kv.lookup y=some p/\Hv K b [p.1,p.2]=true)\/(qS (TN es) (.inr y)=none/\kv.lookup y=none)
 | [],[],_=>.inr ⟨rfl,rfl⟩
 | [],_ :: _,h=>h.elim
 | _ :: _,[],h=>h.elim
 | e :: es,p :: ps,h=>by
  obtain⟨⟨h1,h2⟩,h3⟩:=h;obtain⟨k,p1,p2⟩:=p;have h1:e.1=k:=h1;subst h1;by_cases z:y=e.1
  ·subst z;left;refine⟨e.2.2,(p1,p2),?_,by rw [fR]; simp,h2⟩;unfold qS TN;rw [aB,vP (by simp)]; rfl
  ·have e1:qS (TN (e :: es)) (.inr y)=qS (TN es) (.inr y):=by
    unfold qS TN;rw [aB,vQ (by simpa using fun q=>z q.symm)]
   have e2:((e.1,p1,p2) :: ps).lookup y=ps.lookup y:=by
    rw [fR];have:(y == e.1)=false:=by simpa using z
    rw [this]
   rw [e1,e2];exact YW y h3
end
section
variable {X:Cx} {x y:Str} {g:Addr} {es:List (Str×Tok×Addr)} {kv:List (Str×Int×Int)} {a k e1:Expr} {ta tk te:fM} {px pos py pg ps ap p2 p3 p4 p5 tp rp q0 q1:Pos} {i:Nat}
theorem Vb (S:Mt X.w X.K g es kv) (hg:Gl X x) (hm:X.mg x=some (.ref g)) (ha:gy X a ta) (hmk:autoParam (Hk .In (.Name x px)=false) Aw._auto_1) (Ag:autoParam ((x == ("__debug__" : Str))=false) Ad._auto_1) :
  gy X (.Compare a [.In] [.Name x px] pos) (YO kv ta):=by
 intro E pins s σ H τ G Q hE I h;refine wpAny_Compare1 (jC ha hE I h fun v H1 d G1 u s1 I1 m1 r1 kg q1=>kX I1.inv hg hm ?_ Ag) hmk;split at q1
 ·rename_i z;cases kg;refine wpAny_in_of (xi (k:=.inr z) r1) S.ns (S.of I1.inv.qu).mapOf ?_;have e:(qS (TN es) (.inr z)).isSome=(kv.lookup z).isSome:=by
   rcases YW z S.vals with ⟨b,p,q1,q2,_⟩ | ⟨q1,q2⟩ <;> rw [q1,q2] <;> rfl
  rw [e];exact⟨.bl _,H1,.bl _,G1,I1.inv.tok _,m1,rfl,.bl _,q1⟩
 ·exact q1.elim
theorem Tx{K:ag}{H:Hp}{σ:L2.St}{τ:iK}(a:Ke K H σ τ)(i:Nat)(v:V):Ke K H (σ.set i (some v)) (τ.set i none):=by
 refine⟨by rw [dJ,dJ]; exact a.len,fun j e h=>?_⟩;by_cases hj:i=j
 ·subst hj;by_cases hi:i < τ.length
  ·rw [eG hi] at h; cases h
  ·rw [iC (by rw [dJ]; lia)] at h; cases h
 ·rw [eE hj] at h;obtain⟨w,h1,h2⟩:=a.at' j e h;exact⟨w,by rw [eE hj]; exact h1,h2⟩
theorem JI{K:ag}{H:Hp}{b:Addr}{ns:List Int}(e:Hv K b ns=true)(hz:ns.length<=1000):Cq K H b (ns.map V.int):=by
 unfold Hv at e;cases hl:K.lookup b with
 | none=>rw [hl] at e; exact a6 (show false=true from e)
 | some o =>
  rw [hl] at e;dsimp only at e;rw [aI] at e;obtain⟨e1,e2⟩:=e;obtain⟨c,dd,dt,sl⟩:=o;have f1:c=.type "tuple":=beq_iff_eq.mp e1;subst f1;cases dt with
  | seq bw m =>
   have v:=D3 _ _ e2;exact .inr ⟨_,bw,m,hl,rfl,rfl,by have:=v.length; rw [bK,<-bS,<-this,ai]; lia,v⟩
  | _=>exact a6 (show false=true from e2)
theorem RV{pins:List (Addr×Obj)}{s:ao}{σ:L2.St}{H:Hp}{b:Addr}{ns:List Int}{n j:Int}{jk:Nat}{E:Value->ao->Prop}{Q:Value->ao->Prop}(I:Inv X pins σ H s)(hi:X.N[i]?=some y)(hv:YX X.env.scope y)(TR:σ[i]?=some (some (.ref b)))(hT:Cq X.K H b (ns.map V.int))(hn:L2.sI (ns.map V.int) j=some (.int n))
  (k:∀ t s',Inv X pins σ H s'->Q (.int n t) s') (hxe:X.xe=E) (hd:autoParam ((y == ("__debug__" : Str))=false) Ad._auto_1) (vT:autoParam ((y == ("__classdict__" : Str))=false) Ad._auto_1) :
  wpAny (model X.prog X.w) X.A (eval (.Subscript (.Name y p2) (.Constant (.int j) jk q0) p3) X.env) Q E s:=by
 subst hxe;refine CC (gK (K7 hi hv hd vT pins s σ H (fun v H'=>v=.ref b/\H'=H) I ⟨.ref b,TR,rfl,rfl⟩) ?_);rintro u s1 ⟨v,H1,I1,r1,e1,e2⟩;subst e1 e2;cases r1;refine wpAny_Constant_int ?_;refine gK (RU (.Name y p2) (.Constant (.int j) jk q0) pins _ σ _ (.ref b) (.int j) (.ref b) (.int j _) (fun v H'=>v=.int n/\H'=_) (I1.tok _) rfl ⟨_,rfl⟩ ⟨b,_,j,.int n,rfl,rfl,hT,hn,rfl,rfl⟩ rfl) ?_;rintro u s2 ⟨v,H2,I2,r2,e1,e2⟩;subst e1 e2;obtain⟨t,rfl⟩:=(show ∃ t,u=n5 n t from r2);exact k t s2 I2
theorem OT{j0 j1:Nat}{cx}(S:Mt X.w X.K g es kv)(hN:X.N.Nodup)(hi:X.N[i]?=some y)(pH:i < X.N.length)(hy:Loc X.env.scope y)(hv:YX X.env.scope y)(hg:Gl X x)(hm:X.mg x=some (.ref g))(hk:gy X k tk)(he:gy X e1 te)(hpi:N9 k)
  (hs:autoParam (qe (.Subscript (.Name x pg) k ps) (some (.Name y py)) ap.line X.env=pure false) Ar._auto_1) (hf:autoParam (X.fn y=true\/X.env.scope.names.lookup y=some .local) Ao._auto_1)
  (hd:autoParam ((y == ("__debug__" : Str))=false) Ad._auto_1) (vT:autoParam ((y == ("__classdict__" : Str))=false) Ad._auto_1) (Ag:autoParam ((x == ("__debug__" : Str))=false) Ad._auto_1)
  (uW:autoParam (bB [e1,.Subscript (.Name y p2) (.Constant (.int 0) j0 q0) p3,.Subscript (.Name y p4) (.Constant (.int 1) j1 q1) p5] X.env=[(false,eval e1 X.env),(false,eval (.Subscript (.Name y p2) (.Constant (.int 0) j0 q0) p3) X.env),(false,eval (.Subscript (.Name y p4) (.Constant (.int 1) j1 q1) p5) X.env)]) Ar._auto_1) :
  sJ X [.Assign [.Name y py] (.Subscript (.Name x pg) k ps) ap,.Return (some (.Tuple [e1,.Subscript (.Name y p2) (.Constant (.int 0) j0 q0) p3,.Subscript (.Name y p4) (.Constant (.int 1) j1 q1) p5] cx tp)) rp] (Jp kv i tk te):=by
 intro E pins s σ H τ G Dn hE I h;refine jS (Kg ?_ hs);refine CC (kX I.inv hg hm (jC hk hE I h fun v H1 d G1 u s1 I1 m1 r1 kg qq=>?_) Ag);split at qq
 ·rename_i z;cases kg;rcases YW z S.vals with ⟨b,p,v1,v2,hT⟩ | ⟨v1,v2⟩
  ·rw [v2] at qq;obtain⟨n,hl⟩:=S.at_;have hdt:s1.TypeIs (.ref g) "dict":=⟨_,I1.inv.qu _ _ hl,rfl⟩;refine yh (ops:=[.ref g,u]) hdt PySem.F.slot_dict_getitem.lookup (wpAny_getItem_of (xi (k:=.inr z) r1) (S.of I1.inv.qu).mapOf v1 ?_) (hpi _ _);refine wm (I1.inv.tok _) hN hi hy (v:=.ref b) rfl (fun s2 J2=>?_) hf;have jA:I2 X pins (σ.set i (some (.ref b))) H1 (τ.set i none) G1 s2:=⟨J2,Tx I1.st i _,I1.ab⟩;have TR:(σ.set i (some (V.ref b)))[i]?=some (some (.ref b)):=eG (by have:=J2.len; rw [dJ] at this; lia);refine jS (wpAny_Return_some (wpAny_Tuple_spliced ?_));rw [uW];show wpAny _ _ (pR ((false,eval e1 X.env) :: i6 tp [(false,eval (.Subscript (.Name y p2) (.Constant (.int 0) j0 q0) p3) X.env),(false,eval (.Subscript (.Name y p4) (.Constant (.int 1) j1 q1) p5) X.env)])) _ _ s2;refine dg (jC he hE jA qq fun v' H2 d2 G2 u2 s3 I3 m3 r3 Xu q3=>?_);show wpAny _ _ (pR ((false,eval (.Subscript (.Name y p2) (.Constant (.int 0) j0 q0) p3) X.env) :: i6 tp [(false,eval (.Subscript (.Name y p4) (.Constant (.int 1) j1 q1) p5) X.env)])) _ _ s3;refine dg (RV (ns:=[p.1,p.2]) I3.inv hi hv TR (JI hT (by simp)) rfl (fun t4 s4 J4=>?_) rfl hd vT);show wpAny _ _ (pR ((false,eval (.Subscript (.Name y p4) (.Constant (.int 1) j1 q1) p5) X.env) :: i6 tp [])) _ _ s4;refine dg (RV (ns:=[p.1,p.2]) J4 hi hv TR (JI hT (by simp)) rfl (fun t5 s5 J5=>kc ?_) rfl hd vT);have hf:H2 s5.heap.objs.size=none:=J5.cO.fresh (aK _);refine⟨by rw [bK]; simp,?_⟩;refine⟨.ref s5.heap.objs.size,_,upd H2 s5.heap.objs.size (.tup [v',.int p.1,.int p.2]),.tup [d2,.int p.1,.int p.2],G2,J5.laid (t':=s5.toks) (fun b u e=>aA _ e) (aK _) ?_,(m1.trans m3).trans (.Sj I3.ab hf),rfl,?_,q3⟩
   ·exact⟨by rw [bK]; simp,_,.cons r3 (.cons ⟨_,rfl⟩ (.cons ⟨_,rfl⟩ .nil)),⟨_,a5 _ rfl,rfl,_,rfl⟩⟩
   ·exact .tup cP (.cons (Xu.mono (.new hf)) (.cons (.int _) (.cons (.int _) .nil)))
  ·rw [v2] at qq; exact qq.elim
 ·exact qq.elim
end
end K2
end
section
namespace K2
open PySem PySem.Spec PyProof.Rows L2 PySem.W
open Enc (enc)
section
variable {X:Cx} {a:Expr} {ta:AA} {pos p Fy p2:Pos}
theorem Bx (hc:X.calm=true) (hu:X.A.units+64 < cLine) (hg:Gl X "sorted") (hm:X.mg "sorted" = none) (hg2:Gl X "set") (hm2:X.mg "set" = none) (ha:GN X [a] ta) (hs:autoParam (bB [a] X.env=(false,eval a X.env) :: bB [] X.env) Ar._auto_1)
  (VA:autoParam (bB [.Call (.Name "set" p2) [a] [] Fy] X.env=(false,eval (.Call (.Name "set" p2) [a] [] Fy) X.env) :: bB [] X.env) Ar._auto_1) (yc:autoParam ((i6 pos (bB [] X.env)).any (·.1)=false) Ar._auto_1) (aea:autoParam ((i6 Fy (bB [] X.env)).any (·.1)=false) Ar._auto_1) :
  gy X (.Call (.Name "sorted" p) [.Call (.Name "set" p2) [a] [] Fy] [] pos) (kj yY ta):=by
 intro E pins s σ H τ G Q hE I h;refine eW (oC I.inv hg hm Em (eX ?_ VA yc));rw [VA];show wpAny _ _ (pR ((false,eval (.Call (.Name "set" p2) [a] [] Fy) X.env) :: i6 pos (bB [] X.env))) _ _ s;refine dg (eW (oC I.inv hg2 hm2 V0 (jg (Bf ha Fy hE I h fun vs H1 ds G1 us s1 I1 m1 r1 kg q1=>?_) hs aea)));unfold yY at q1;split at q1
 ·rename_i x;obtain⟨nl,hlo,hlen,q⟩:=q1;obtain⟨w1,rfl,Bp⟩:=kg.one;obtain⟨u,rfl,ru⟩:=r1.one;obtain⟨l,vs,bw,rfl,rv,rs,hL,hz⟩:=lV I1.inv I1.ab ru Bp hlo;have ia:=RZ rs rv;have li:bw.length=nl.length:=by rw [<-rv.length,rs.length,ai]
  have at_:∀ (i:Nat) (v:Value),bw.toArray[i]?=some v->∃ t,v=.int (nl.getD i 0) t:=fun i v hv=>by
   have hv:bw[i]?=some v:=by rw [Tz] at hv; exact hv
   have hi:i < nl.length:=by have:=(List.getElem?_eq_some_iff.mp hv).1; lia
   have hd:(nl.map (enc:Int->D))[i]?=some (.int (nl.getD i 0)):=by rw [bP,aO,aj hi]; rfl
   obtain⟨vv,h1,h2⟩:=rs.get hd;obtain⟨uu,h3,h4⟩:=rv.get h1;rw [hv] at h3;cases h3;cases h2;exact h4
  refine S.UE (I1.inv.ok.hd hc) hu hL (fun i=>nl.getD i 0) (by rw [aS,li]; lia) at_ fun h' P9 ks S' nd hq kp=>?_;rw [(show i6 pos (bB [] X.env)=[] from rfl)];refine au ?_;obtain⟨o,es,ep,t,ho,hex,hd,O,tf,hld,hpn,M⟩:=S';have aaS:=S.AN O;obtain⟨mk,pl,dmm,fg,ld,mv,pln⟩:=t;have e1:ld=!S.Mq X.w:=hld;have e2:pln=true:=hpn;subst e1 e2;have W:S.Wk X.w o es ep mk pl dmm fg mv:=⟨hex,hd,aaS,O.sz,O.up⟩;obtain⟨m,M2,pk2⟩:=M.perm (es':=S.ord X.w s1.heap.objs.size ep es) (S.HW ..);have ndm:m.Nodup:=pk2.nodup_iff.mpr nd;have mm:∀ y,y∈m↔y∈nl:=fun y=>by
   rw [pk2.mem_iff,hq y];constructor
   ·rintro⟨i,hi,e⟩;rw [aS,li] at hi;have e:nl.getD i 0=y:=e;rw [aO,aj hi] at e;exact e ▸ cb hi
   ·intro hy;obtain⟨i,hi,e⟩:=fu hy;refine⟨i,by rw [aS,li]; exact hi,?_⟩;show nl.getD i 0=y;rw [aO,aj hi]; exact e
  have kp':∀ b u,s1.heap.get? b=some u->h'.get? b=some u:=fun b u e=>kp b u (aN e) e;have I3:=I1.inv.kept (t':=P9) kp';have I4:=I1.mv I3 (.refl I1.ab);have ml:m.length=es.size:=by have:=M2.1; rw [S.Bz] at this; exact this
  refine eY (KS hc hu I4.inv I4.ab (S.Xh W) ho (vs:=m.map V.int) (zs:=m.map enc) (by rw [ai]; exact ml) (fun i u hi hP=>?_) (bc.FC m) (cg.zi Int) (fun z hz'=>?_) (by decide) ?_ ?_) (fun r s' ⟨v,H2,d,G2,I2,m2,r2,Fn,q2⟩=>⟨v,H2,d,G2,I2,m1.trans m2,r2,Fn,q2⟩) fun _ _ z=>z
  ·obtain⟨e,he,rfl⟩:=hP;obtain⟨k,t,q1,q2,_⟩:=M2.2 i e he;rw [iu,q2];rw [ai] at hi;rw [aj hi] at q1;cases q1;exact⟨t,rfl⟩
  ·obtain⟨y,_,rfl⟩:=List.mem_map.mp hz';exact cg.LF y
  ·rw [ai];exact iD (List.Nodup.length_le_of_subset ndm fun y hy=>(mm y).mp hy) hlen
  ·rw [DE];exact q m ndm mm
 ·exact q1.elim
end
end K2
end
section
namespace K2
open PySem PySem.W PySem.Spec PyProof.Rows L2
def unS(e:kL):Str×Tok×Addr:=match e.key,e.val with
 | .str x t,.ref a=>(x,t,a)
 | _,_=>(Kr,0,0)
def UM(K:Frag):List (Str×Tok×Addr)->List (Str×Int×Int)->Bool
 | [],[]=>true
 | e :: es,p :: ps=>e.1 == p.1&&Hv K e.2.2 [p.2.1,p.2.2]&&UM K es ps
 | _,_=>false
theorem QY{K:Frag}:∀ {es:List (Str×Tok×Addr)} {kv:List (Str×Int×Int)},UM K es kv=true->SOk K es kv/\es.map (·.1)=kv.map (·.1)
 | [],[],_=>⟨trivial,rfl⟩
 | [],_ :: _,h=>nomatch h
 | _ :: _,[],h=>nomatch h
 | e :: es,p :: ps,h=>by
  unfold UM at h;rw [aI,aI,beq_iff_eq] at h;obtain⟨i1,i2⟩:=QY h.2;exact⟨⟨h.1,i1⟩,by rw [aB,aB,h.1.1,i2]⟩
structure abu(w:World)(K:Frag)(cn:Str)(g:Addr)(es:List (Str×Tok×Addr))(kv:List (Str×Int×Int)):Prop where
 ns:nsIn K aP cn=some (some (.ref g))
 di:Mt w K g es kv
theorem UL {w:World} {K:Frag} {cn:Str} {g:Addr} {kv:List (Str×Int×Int)} {es:Array kL} {n:Nat} (a:autoParam (nsIn K aP cn=some (some (.ref g))) Aq._auto_1) (l:autoParam (K.lookup g=some ⟨.type "dict",none,.dict es n,#[]⟩) Aq._auto_1) (r:autoParam (es=((es.toList.map unS).map (VO w)).toArray) Ac._auto_1)
  (s:autoParam ((g == gF)=false) Ae._auto_1) (o:autoParam (UM K (es.toList.map unS) kv=true) Ac._auto_1) (nd:autoParam ((kv.map (·.1)).Nodup) Ak._auto_1):abu w K cn g (es.toList.map unS) kv:=by
 obtain⟨o1,o2⟩:=QY o;exact⟨a,⟨n,by rw [l]; exact congrArg (fun z=>some (⟨.type "dict",none,.dict z n,#[]⟩:Obj)) r⟩,s,by rw [o2]; exact nd,o1⟩
end K2
end
section
namespace K2
open PySem PySem.Spec PyProof.Rows L2 PySem.W
theorem vt {X:Cx}:JN X "str.index" w6:=by
 intro pins s σ H G x d xs ds v us Q I ab rv rd rx yu q;unfold w6 at q;split at q
 ·rename_i y z;cases rd;obtain⟨w1,rfl,Bp⟩:=yu.one;obtain⟨u,rfl,ru⟩:=rx.one;cases Bp;obtain⟨t,rfl⟩:=(show ∃ t,v=gz y t from rv);obtain⟨t',rfl⟩:=(show ∃ t,u=gz z t from ru);obtain⟨hz,q⟩:=q;cases ho:PySem.Builtin.Str.occurrences y z 0 y.length 1 with
  | nil =>
   have e:Txt.find y z=-1:=by simp [Txt.find,ho]
   rw [e] at hz; exact absurd hz (by decide)
  | cons i rest =>
   have e:Txt.find y z=(i:Int):=by simp [Txt.find,ho]
   rw [e] at q;exact SC.index ho ⟨.int _,H,.int _,G,I.tok _,.refl ab,⟨_,rfl⟩,.int _,q⟩
 ·exact q.elim
theorem BA{X:Cx}:oN X (dU .NotIn) (CW true):=by
 intro pins s σ H G x y dx dy v u Q I ab rx ry dX dY q;unfold CW at q;split at q
 ·rename_i z w;cases dX; cases dY;obtain⟨t,rfl⟩:=(show ∃ t,v=gz z t from rx);obtain⟨t',rfl⟩:=(show ∃ t,u=gz w t from ry);exact P.notIn_str ⟨.bl _,H,.bl _,G,I.tok s.toks,.refl ab,rfl,.bl _,q⟩
 ·exact q.elim
end K2
end
section
namespace K2
open PySem PySem.Spec PyProof.Rows L2 PySem.Builtin PySem.Builtin.ObjectAttr PySem.Calls
abbrev sr(C t:Addr):Obj:={ cls:=.ref C,data:=.fields #[.ref t,.none,.none,.none,.bool false,.none] }
section
variable {prog:bx} {w:World} {A:cX} {E:Value->ao->Prop} {h:Heap} {g:Array CK} {d:Drawn} {t:Nat} {os:OsState}
variable {nm q:Str} {C N:Addr} {bs bm lU:List Value} {mU:Bool} {sn:List Str} {sub:List Value} {ab:Bool} {col:Option Bool} {dd:Option Addr} {k0 k1 k2 k3 k5:Option Value} {B newId oE:String}
theorem Hw(F:Ba B newId oE lU)(T:OwnTail h lU bm){mN:Str->Option Value}{rest:List Value}{fI:Addr}{oI:Obj}{Q:Fin->ao->Prop}
  (hC:h.get? C=some (jK nm q C N bs bm mU sn sub ab col dd k0 k1 k2 k3 k5 newId)) (hn:h.Ns N mN) (hi:mN "__init__" = some (.ref fI))
  (hfI:h.get? fI=some oI) (hfc:oI.cls=.type "function")
  (hq:∀ h' e t0,(∀ b o,h.get? b=some o->h'.get? b=some o)->h.objs.size<=e->h'.get? e=some (sr C t0) ->
   wpAny (model prog w) A (call (.ref fI) (.ref e :: rest)) (fun r s'=>r=.none/\Q (.done (.ret (.ref e))) s') E ⟨h',g,d,t,os⟩) (hrest:rest.length<=bg) :
  wpAny (model prog w) A (Builtin.«type.__call__» ⟨.ref C :: rest,[]⟩) Q E ⟨h,g,d,t,os⟩:=by
 repeat (first | with_reducible refine jl hC ?_ | with_reducible refine wpAny_madeBy_exc hC ?_ | wp_step)
 refine codeAny_call_builtin_code (sA _ F.quiet) (wpAny_check_new_subT F T hC ?_);refine codeAny_exc_new_subT F T hC ?_ hrest;show wpAny _ _ _ _ _ _;have kp:∀ b o,h.get? b=some o->((h.push { cls:=.type "tuple",data:=.seq rest.toArray }).push { cls:=.ref C,data:=.fields #[.ref h.objs.size,.none,.none,.none,.bool false,.none] }).get? b=some o :=
  fun b o e=>aA _ (aA _ e)
 have WJ:=kp _ _ hC;have Ym:=kp _ _ hfI;have aaH:=hn.keeps kp;have aeX:=T.keeps kp
 have C0:((h.push { cls:=.type "tuple",data:=.seq rest.toArray }).push
   { cls:=.ref C,data:=.fields #[.ref h.objs.size,.none,.none,.none,.bool false,.none] }).get? (h.objs.size+1)=some
   { cls:=.ref C,data:=.fields #[.ref h.objs.size,.none,.none,.none,.bool false,.none] }:=by heap_get
 have hcC:(dF C :: bm).contains (.ref C)=true:=by simp
 unfold Kk
 repeat (first | with_reducible refine jl C0 ?_ | (with_reducible refine sQ WJ ?_; rw [hcC]) | wp_step)
 show wpAny _ _ (typeLookup (.ref C) _) _ _ _;refine wpAny_typeLookup_tail WJ aaH aeX F.mroIs F.init.lookup ?_;rw [hi];refine du (ae ?_);unfold bindSpecial;refine ae (wpAny_typeOf (T:="function") ⟨_,Ym,hfc⟩ ?_);rw [if_pos (by decide)];refine au (ae (eY (hq _ (h.objs.size+1) _ kp (lI _) C0) (fun r s' hr=>?_) fun _ _ x=>x));obtain⟨rfl,hQ⟩:=hr
 wp_walk
 exact hQ
theorem Mm(F:Ba B newId oE lU)(T:OwnTail h lU bm){mN:Str->Option Value}{rest:List Value}{fI:Addr}{oI:Obj}{Q:Value->ao->Prop}
  (hC:h.get? C=some (jK nm q C N bs bm mU sn sub ab col dd k0 k1 k2 k3 k5 newId)) (hn:h.Ns N mN) (hi:mN "__init__" = some (.ref fI))
  (hfI:h.get? fI=some oI) (hfc:oI.cls=.type "function")
  (hq:∀ h' e t0,(∀ b o,h.get? b=some o->h'.get? b=some o)->h.objs.size<=e->h'.get? e=some (sr C t0) ->
   wpAny (model prog w) (A.under (.builtin "type.__call__" ⟨.ref C :: rest,[]⟩)) (call (.ref fI) (.ref e :: rest)) (fun r s'=>r=.none/\Q (.ref e) s') E ⟨h',g,d,t,os⟩) (hrest:rest.length<=bg) :
  wpAny (model prog w) A (call (.ref C) rest) Q E ⟨h,g,d,t,os⟩:=by
 have f1:=tc_lookup;have f2:=tc_bind (.ref C);have hT:(⟨h,g,d,t,os⟩:ao).TypeIs (.ref C) "type":=⟨_,hC,rfl⟩;refine pQ (Qp ?_);show wpAny _ _ (callAny (.ref C) _) _ _ _
 repeat (any_goals (first | assumption | with_reducible refine jl hC ?_ | wp_step))
 refine⟨rfl,?_⟩;refine codeAny_call_builtin_at (sA _ (by decide +kernel)) entry_typeCall (wpAny_check_type_call_sub hC (Hw (hrest:=hrest) F T hC hn hi hfI hfc fun h' e t0 k1 k2 k3=>?_));exact hq h' e t0 k1 k2 k3
theorem PJ(F:Ba B newId oE lU)(T:OwnTail h lU bm){e t0:Addr}{rest:List Value}{Q:Value->ao->Prop}
  (hC:h.get? C=some (jK nm q C N bs bm mU sn sub ab col dd k0 k1 k2 k3 k5 newId)) (he:h.get? e=some (sr C t0)) (hrest:rest.length<=bg)
  (hq:∀ h' t1,h'.get? e=some (sr C t1)->(∀ b o,b≠e->h.get? b=some o->h'.get? b=some o)->h.objs.size<=h'.objs.size->Q .none ⟨h',g,d,t,os⟩) :
  wpAny (model prog w) A (call (.builtin oE) (.ref e :: rest)) Q E ⟨h,g,d,t,os⟩:=by
 refine pQ (jf F.init.plain F.initEntry (wpAny_check_init_subT F T hC he rfl ?_));have he1:(h.push { cls:=.type "tuple",data:=.seq rest.toArray }).get? e=some (sr C t0):=aA _ he
 wp_walk
 refine hq _ h.objs.size (dQ _ he1 rfl) (fun b o hb e=>?_) ?_
 ·rw [cN _ _ hb.symm]; exact aA _ e
 ·rw [vk,jB]; exact lI _
end
section
variable {prog:bx} {w:World} {A:cX} {E:Value->ao->Prop} {s:ao} {K:ag} {x C:Addr} {ox:Obj} {v:Value} {name:Str} {R:Result->ao->Prop}
def W9:List Value->List Value
 | .ref _ :: l=>W9 l
 | l=>l
theorem OQ(self:Value)(Us:Str):∀ l,refuseLoop self Us l=refuseLoop self Us (W9 l):=by
 intro l;induction l with
 | nil=>rfl
 | cons a l ih =>
  cases a with
  | ref C=>rw [refuseLoop_ref,ih]; rfl
  | _=>rfl
def L6 (K:ag) (C:Addr):Bool:=(zU K C).any fun cd=>W9 cd.mro == [.type "ValueError",.type "Exception",.type "BaseException",.type "object"]
theorem NI {od:Option Obj} {tk:Tok} (X:K.In s.heap) (I:xZ s.heap x ox C od) (hp:L6 K C=true) (hm:iW K C (.type "object")=some true) (ht:cj K (.ref C) name=some none)
  (h:∀ b,wpAny (model prog w) A.in1 (storeInOwnDict (.ref x) (.ref C) (.str name tk) name v b)
   (fun fin s'=>match fin with | .done f=>R (.ok f) s' | .again c'=>c'.quiet=true/\pS (model prog w) A c' R s') (fun e s'=>R (.error e) s') s) :
  pS (model prog w) A (.call (.builtin "object.__setattr__") ⟨[.ref x,.str name tk,v],[]⟩) R s:=by
 have SF:=PySem.F.store_object;obtain⟨cd,hc,ho⟩:=CO hp;have sub:Ks (model prog w) s.heap (Kk (.ref x) (.type "object")) true:=I.type.andThen (Qu X hm);refine jf SF.slot.plain SF.entry (@PySem.W.check_slot (model prog w) _ _ s "object.__setattr__" "object" "__setattr__" (.ref x) [.str name tk,v] [] _ SF.kind SF.split sub (SF.args (.ref x) (.str name tk) v) ?_);have Sg:Ks (model prog w) s.heap (mroOf (.ref C)) cd.mro:=(yi X hc).andThen .now;rw [PySem.W.osa_eq,refuse_eq];refine ae (ae (I.type.here (ae (Sg.here ?_))));rw [OQ,beq_iff_eq.mp ho,PySem.F.store_ValueError.passes];refine au (ae (I.type.here (ae ((vY X ht).here (ae (au ?_))))));exact h _
abbrev k6(C t dx:Addr):Obj:={ cls:=.ref C,dict:=some dx,data:=.fields #[.ref t,.none,.none,.none,.bool false,.none] }
structure JO(K:ag)(C:Addr):Prop where
 ov:L6 K C=true
 mo:iW K C (.type "object")=some true
 sa:cj K (.ref C) "__setattr__" = some (some (.builtin "object.__setattr__"))
 hd:mP K C=true
theorem SS{t0 : Addr}{Q : Unit -> ao -> Prop}(X : K.In s.heap)(hx : s.heap.get? x = some (sr C t0))(Z : JO K C)(ht : cj K (.ref C) name = some none)
    (h : ∀ h' P9, h'.get? x = some (k6 C t0 s.heap.objs.size) -> h'.Ns1 s.heap.objs.size (fun y => if y = name then some v else none) -> (∀ b o, b ≠ x -> s.heap.get? b = some o -> h'.get? b = some o) -> Q () { s with heap := h', toks := P9 }) :
    wpAny (model prog w) A (setAttr (.ref x) name v) Q E s := by
  have J : xZ s.heap x (sr C t0) C none := ⟨hx, rfl, rfl, trivial⟩;refine Ud X J Z.sa (NI (s := { s with toks := s.toks + 1 }) X J Z.ov Z.mo ht fun b => ?_);obtain⟨cd, hc, FX⟩ := CO Z.hd;refine ae (au (ae (ae (Ub (s := { s with toks := s.toks + 1 }) hx ?_))));refine ae (JR (s := { s with toks := s.toks + 1 }) (yi X hc) ?_);rw [FX];obtain⟨h0, g, d, t, os⟩ := s;have Wz : (h0.push { cls := .type "dict", data := .dict #[] }).get? x = some (sr C t0) := aA _ hx;have Zc : x ≠ h0.objs.size := bI (aN hx);show wpAny _ _ (do
                let d ← alloc { cls := CM "dict", data := Data.dict #[] }
                update x fun o => { cls := o.cls, dict := some d, data := o.data, slots := o.slots }
                dictMade (dF C) x d) _ _ _
  refine ae (wpAny_alloc' (ae (wpAny_update' Wz (au ?_))));have hgd : ((h0.push { cls := .type "dict", data := .dict #[] }).update x fun o => { cls := o.cls, dict := some h0.objs.size, data := o.data, slots := o.slots }).get? h0.objs.size
      = some { cls := .type "dict", data := .dict #[] } :=
    (Heap.get?_update_ne _ _ _ _ Zc.symm).trans (Heap.get?_push_at rfl rfl)
  have hnd : ((h0.push { cls := .type "dict", data := .dict #[] }).update x fun o => { cls := o.cls, dict := some h0.objs.size, data := o.data, slots := o.slots }).Ns h0.objs.size (fun _ => none) :=
    ⟨_, #[], _, hgd, rfl, fun e he => absurd he (by simp), fun _ => rfl⟩
  show wpAny _ _ (storeInDict h0.objs.size _ name v) _ _ _;unfold storeInDict newKeyGuard;refine ae (au (ae (wpAny_nsSet1 (Heap.Ns1.of_empty hnd) fun h' J9 hs => ?_)));obtain⟨oD, esD, epD, hoD, T1, Sq⟩ := J9.count (Within.cons name v Within.nil);refine ae (wpAny_lookBehind hoD (by rw [T1]; exact pastItsLine_dict (cE Sq (by rw [ah, aq, bK]; lia))) (au ?_));exact h h' _ ((hs.2 x Zc).trans (dQ _ Wz rfl)) J9 fun b ob hbx hb =>
    (hs.2 b (bI (aN hb))).trans ((Heap.get?_update_ne _ _ _ _ hbx).trans (aA _ hb))
theorem SR{t0 dx:Addr}{mA:Str->Option Value}{ns:List Str}{Q:Unit->ao->Prop}(X:K.In s.heap)(hx:s.heap.get? x=some (k6 C t0 dx))(lr:dx≠x)(hA:s.heap.Ns1 dx mA)(hw:Within mA ns)(hsz:ns.length<=1000)(Z:JO K C)(ht:cj K (.ref C) name=some none)
  (h:∀ h' P9,h'.Ns1 dx (fun y=>if y=name then some v else mA y)->lK dx s.heap h'->Q () { s with heap:=h',toks:=P9 }) :
  wpAny (model prog w) A (setAttr (.ref x) name v) Q E s:=by
 obtain⟨od,es,ep,Sd,hh1⟩:=id hA;have J:xZ s.heap x (k6 C t0 dx) C (some od):=⟨hx,rfl,rfl,Sd⟩;refine Ud X J Z.sa (NI (s:={ s with toks:=s.toks+1 }) X J Z.ov Z.mo ht fun b=>?_);obtain⟨cd,hc,FX⟩:=CO Z.hd;refine ae (au (ae (ae (Ub (s:={ s with toks:=s.toks+1 }) hx ?_))));refine ae (JR (s:={ s with toks:=s.toks+1 }) (yi X hc) ?_);rw [FX];refine au (a:=some dx) (ae (au (ae ?_)));refine wpAny_nsSet1 (s:={ s with toks:=s.toks+1 }) hA fun h' hn2 VA=>?_;obtain⟨oD,esD,epD,hoD,T1,Sq⟩:=hn2.count (PySem.Within.cons name v hw);refine ae (wpAny_lookBehind hoD (by rw [T1]; exact pastItsLine_dict (cE Sq (by rw [ah,bK]; lia))) ?_);exact au (h _ _ hn2 VA)
theorem SU{B:String}{lU:List Value}{dx:Addr}{mA:Str->Option Value}{expr:Bool}{Q:Value->ao->Prop}(FB:ym B lU)(X:K.In s.heap)(hx:s.heap.get? x=some ox)(C3:ox.cls=.ref C)(hnc:Hn ox=true)(TZ:ox.dict=some dx)(hA:s.heap.Ns1 dx mA)
  (WG:cj K (.ref C) "__getattribute__" = some (some (.builtin "BaseException.__getattribute__"))) (hgn:cj K (.ref C) "__getattr__" = some none) (hmB:iW K C (.type "BaseException")=some true) (hh:mP K C=true)
  (ha:cj K (.ref C) name=some none) (hv:mA name=some v) (X9:CN v=true) (h:Q v { s with toks:=s.toks+1 }):wpAny (model prog w) A (getAttr (.ref x) name expr) Q E s:=by
 obtain⟨od,ho,hl⟩:=O5 hA;have J:xZ s.heap x ox C (some od):=⟨hx,C3,hnc,by rw [TZ]; exact ho⟩;have hf:=PySem.W.findObj_own hh ha rfl (by rw [hl,hv]);obtain⟨h0,g,d,t,os⟩:=s;have L0:=J.type (M:=model prog w);have L1:=vY (M:=model prog w) X WG;have L2:=vY (M:=model prog w) X hgn;have L3:=PySem.W.looks_find (M:=model prog w) X J hf;have L4:=Qu (M:=model prog w) X hmB;have hx2:(uF "BaseException.__getattribute__" == uF "object.__getattribute__")=false:=by decide +kernel
 unfold getAttr getAttrBy;refine ae (wpAny_mkText (du (ae (L0.at (ae (L1.at ?_))))));dsimp only;rw [if_neg (by rw [hx2]; simp)];unfold getAttrByItsOwn hookBefore callGetattribute;have f3:=FB.ga.bind (.ref x);have fin:pS (model prog w) A (.call (.builtin "BaseException.__getattribute__") ⟨[.ref x,.str name t],[]⟩) (fun r s'=>r=.ok (.ret v)/\s'=⟨h0,g,d,t+1,os⟩) ⟨h0,g,d,t+1,os⟩:=by
  refine jf FB.ga.plain F.entry_bexc_ga ?_;have hk:builtinKind "BaseException.__getattribute__" = some .slot:=by decide +kernel
  have LC:splitId "BaseException.__getattribute__" = some ("BaseException","__getattribute__"):=by decide +kernel
  have ha:=F.args_bexc_ga (.ref x) (.str name t);have LI:Ks (model prog w) h0 (Kk (.ref x) (.type "BaseException")) true:=L0.andThen L4;simp only [Og,hk,LC];refine ae (LI.at ?_);simp only [bM,aw,if_false];have body:wpAny (model prog w) A.in1 (Builtin.«object.__getattribute__» ⟨[.ref x,.str name t],[]⟩)
    (fun fin s'=>fin=.done (.ret v)/\s'=⟨h0,g,d,t+1,os⟩) (fun _ _=>False) ⟨h0,g,d,t+1,os⟩:=by
   unfold Builtin.«object.__getattribute__»;refine ae (au ?_);refine ae (au ?_);refine ae (L0.at (ae (L3.at ?_)));exact au ⟨rfl,rfl⟩
  have go:∀ z:Sem Unit,z=pure ()->∀ (P:Unit->ao->Prop) (E':Value->ao->Prop) s',P () s'->wpAny (model prog w) A.in1 z P E' s':=fun z e P E' s' hp=>by rw [e]; exact au hp
  refine go _ ha _ _ _ (eY body ?_ (fun _ _ z=>z.elim));rintro fin s' ⟨e1,e2⟩;subst e1; exact⟨rfl,e2⟩
 refine ae (L2.at (ae (n4 (du ?_))));rw [show (expr&&onTheHeap (uF "BaseException.__getattribute__"))=false from sO _,if_neg (by decide)];unfold boundAndCalled;rw [f3];refine ae (au (pQ (kK fin ?_)));rintro r s' ⟨e1,e2⟩;subst e1; subst e2;show wpAny _ _ (handedOut v) _ _ _;rw [PySem.W.handedOut_of X9];exact au h
end
def Cg(K:ag)(C f:Addr)(lU:List Value)(newId:String):Bool:=match K.lookup C with
 | some ⟨.type "type",_,.cls cd,sl⟩=>(match cd.mro,sl.toList with
  | .ref C' :: bm,[_,_,_,_,some (.builtin n),_]=>C' == C&&n == newId&&!cd.hasDel&&Hm K lU bm&&PySem.W.nsOkIn K cd.ns&&bh K cd.ns "__init__" == some (some (.ref f))
  | _,_=>false)
 | _=>false
inductive Tu (h:Heap) (C f:Addr) (lU:List Value) (newId:String):Prop
 | mk (bm N nm qn bs mU sn sub ab col dd k0 k1 k2 k3 k5 mN) (o:h.get? C=some (jK nm qn C N bs bm mU sn sub ab col dd k0 k1 k2 k3 k5 newId)) (n:h.Ns N mN) (i:mN "__init__" = some (.ref f)) (t:OwnTail h lU bm):Tu h C f lU newId
section
variable {K:ag} {h:Heap} {C f:Addr} {lU:List Value} {newId:String}
theorem aaf{N:Addr}{mg:Str->Option Value}{n:Str}{v:Value}(X:K.In h)(G:h.Ns N mg)(e:bh K N n=some (some v)):mg n=some v:=by
 obtain⟨o,es,ep,ho,hd,_,hf⟩:=G;unfold bh at e;split at e
 ·rename_i c d es' n' sl q;have:=X _ _ q;rw [ho] at this;cases this;cases hd;split at e
  ·rename_i en he;cases e;rw [<-hf];unfold nsFind findBy;rw [<-Array.find?_toList,he];rfl
  ·split at e <;> cases e
 ·cases e
theorem Gu(Y:K.In h)(q:Cg K C f lU newId=true):Tu h C f lU newId:=by
 unfold Cg at q;split at q
 rotate_left
 ·cases q
 rename_i dd cd sl ho;split at q
 rotate_left
 ·cases q
 rename_i C' bm k0 k1 k2 k3 n k5 hm hs;obtain⟨nm,bs,mro,ns,qn,hd,sn,sub,ab,col,del⟩:=cd;obtain⟨sl⟩:=sl;have hm:mro=_:=hm;have hs:sl=_:=hs;subst hm hs;simp only [aI,beq_iff_eq,g6] at q;obtain⟨⟨⟨⟨⟨e1,e2⟩,e3⟩,e4⟩,e5⟩,e6⟩:=q;subst e1 e2;have e3:del=false:=e3;subst e3;exact⟨bm,_,_,_,_,_,_,_,_,_,dd,k0,k1,k2,k3,k5,_,Y _ _ ho,.of_isNs (zT Y e5),aaf Y (.of_isNs (zT Y e5)) e6,zS Y e4⟩
end
def XO(C t a:Addr):HO:=.ext fun h=>h.get? a=some (sr C t)
def XD(C t dx a:Addr):HO:=.ext fun h=>h.get? a=some (k6 C t dx)
def XN(fs:List (Str×V))(dx:Addr):HO:=.ext fun h=>∃ mA,h.Ns1 dx mA/\(∀ f,xR (fs.lookup f) (mA f))/\Qt mA (fs.map (·.1))
def Wg(K:ag)(C:Addr)(te:fM):TS:=fun D σ H=>∃ a t0 τ,σ[0]?=some (some (.ref a))/\H a=some (XO C t0 a)/\Ke K H σ τ/\te (fun _ _=>False) τ (fun _=>none) (fun _ _=>True) /\
 ∀ H' t1,(∀ b u,b≠a->H b=some u->H' b=some u)->H' a=some (XO C t1 a)->D.nx σ H'
def ZS(C:Addr)(f:Str)(i:Nat):TS:=fun D σ H=>∃ a t v,σ[0]?=some (some (.ref a))/\σ[i]?=some (some v)/\H a=some (XO C t a)/\∀ dx,H dx=none->D.nx σ (upd (upd H dx (XN [(f,v)] dx)) a (XD C t dx a))
def ZR(C:Addr)(f:Str)(i:Nat):TS:=fun D σ H=>∃ a t dx v fs,σ[0]?=some (some (.ref a))/\σ[i]?=some (some v)/\H a=some (XD C t dx a)/\dx≠a/\H dx=some (XN fs dx)/\fs.length < 1000 /\
 ∀ od,D.nx σ (upd (upd H dx (.jw od (.xd (HP f v fs)))) a (.jw (k6 C t dx) (.ext fun h=>h.get? a=some (k6 C t dx))))
section
variable {X:Cx} {C BC:Addr} {f:Str} {i:Nat} {pos pos':Pos} {B newId oE:String} {lU:List Value} {mc:Value}
theorem Wb{P:bx}{w:World}{H:Hp}{h:Heap}{a t:Addr}(e:h.get? a=some (sr C t)):gu P w H h a (XO C t a):=⟨e,⟨_,e⟩,fun _ _ h1 k=>k _ h1⟩
theorem ZC{P:bx}{w:World}{H:Hp}{h:Heap}{a t dx:Addr}(e:h.get? a=some (k6 C t dx)):gu P w H h a (XD C t dx a):=⟨e,⟨_,e⟩,fun _ _ h1 k=>k _ h1⟩
theorem ZA{P:bx}{w:World}{H:Hp}{h:Heap}{dx:Addr}{fs:List (Str×V)}{mA:Str->Option Value}(e:h.Ns1 dx mA)(r:∀ f,xR (fs.lookup f) (mA f))(wi:Qt mA (fs.map (·.1))):gu P w H h dx (XN fs dx) :=
 ⟨⟨mA,e,r,wi⟩,let ⟨o,_,_,q,_⟩:=e; ⟨o,q⟩,fun _ _ h1 k=>let ⟨m,⟨o,es,ep,q,c⟩,r⟩:=h1; ⟨m,⟨o,es,ep,k _ q,c⟩,r⟩⟩
theorem M5 {pl:Sem Bool} {x:Str} {e:Expr} {te:fM} {np JZ ap cp ep:Pos} {s0:Str} (hg:Gl X x) (hm:X.mg x=some (.ref BC)) (J0:sy X.K (.ref BC) "__getattribute__" = some (some (.builtin "type.__getattribute__"))) (hr:PySem.W.readsIn X.K BC mc=true)
  (hf:PySem.W.findCls X.K (.ref BC) mc "__init__" = some (.val (.builtin oE))) (F:Ba B newId oE lU) (q:Cg X.K C i lU newId=true) (h0:PE X (.Name s0 JZ) (KL 0)) (he:gy X e te)
  (Ag:autoParam ((x == ("__debug__" : Str))=false) Ad._auto_1) (hs:autoParam (bB [.Name s0 JZ,e] X.env=(false,eval (.Name s0 JZ) X.env) :: bB [e] X.env) Ar._auto_1) (hs1:autoParam (bB [e] X.env=[(false,eval e X.env)]) Ar._auto_1) (yc:autoParam ((i6 cp (bB [e] X.env)).any (·.1)=false) Ar._auto_1)
  (hev:autoParam (eval (.Call (.Attribute (.Name x np) "__init__" ap) [.Name s0 JZ,e] [] cp) X.env=(do
   let ov ← eval (.Name x np) X.env
   standAt ap.atName
   let (f,first) ← Km [ov] (getMethod ov "__init__" pl)
   callWith cp f first (i6 cp (bB [.Name s0 JZ,e] X.env)) (backToKw cp (keywordEach [] X.env)))) Ar._auto_1)
  (hkw:autoParam (backToKw cp (keywordEach [] X.env)=[]) Ar._auto_1) (hin:autoParam (CN (.builtin oE)=true) Ar._auto_1) (hsw:autoParam (qe (.Call (.Attribute (.Name x np) "__init__" ap) [.Name s0 JZ,e] [] cp) none ep.line X.env=pure false) Ar._auto_1) :
  PS X (.Expr (.Call (.Attribute (.Name x np) "__init__" ap) [.Name s0 JZ,e] [] cp) ep) (Wg X.K C te):=by
 rintro pins s σ H D I ⟨a,t0,τ,TR,ha,VD,ht,hq⟩;refine wpAny_Expr_any ?_ I.quiet hsw;refine PySem.W.methodCall_KW (pl:=pl) (kX I hg hm ?_ Ag) hev;refine PySem.W.method_cls I.qu J0 (PySem.W.cls_value I.qu hr hf hin ?_);rw [hkw];have I:=I.tok (s.toks+1);refine eX ?_ hs yc;rw [hs];show wpAny _ _ (pR ((false,eval (.Name s0 JZ) X.env) :: i6 cp (bB [e] X.env))) _ _ _;refine dg (gK (h0 pins _ σ H (fun v H'=>v=.ref a/\H'=H) I ⟨_,TR,rfl,rfl⟩) ?_);rintro u s1 ⟨v,H1,I1,r1,rfl,rfl⟩;cases (show u=dF a from r1);rw [hs1];show wpAny _ _ (pR [(false,eval e X.env)]) _ _ s1;refine dg (gK (he (fun _ _=>False) pins s1 σ H1 τ (fun _=>none) _ (Lk.none fun _ _ z=>z) ⟨I1,VD,fun _ _ z=>nomatch z⟩ ht) ?_);rintro u2 s2 ⟨v2,H2,d2,G2,jA,m2,r2,_,_⟩;refine kc ?_;have ha2:H2 a=some (XO C t0 a):=(m2.keep a _ ha rfl).1;have C0:s2.heap.get? a=some (sr C t0):=(show gu X.prog X.w H2 s2.heap a (XO C t0 a) from jA.cO a _ ha2).1;obtain⟨tl,N,nm,qn,bs,mU,sn,sub,ab,col,dd,k0,k1,k2,k3,k5,mN,hC,hN,hni,T⟩:=Gu jA.qu q;obtain⟨hh,g,d,t,os⟩:=s2;refine PJ F T hC C0 (by rw [ah,aq,bK]; lia) fun h' t1 e1 e2 e3=>?_;refine⟨σ,upd H2 a (XO C t1 a),jA.write (t':=t) (x:=a) (e:=a) (by rw [ha2]; exact bu) (.inl rfl) (fun b o hb z=>e2 b o hb z) ⟨_,e1⟩ (Wb e1),hq _ t1 (fun b u hb z=>?_) cP⟩;rw [br hb];exact(m2.keep b _ z rfl).1
theorem Rh{s0 p0:Str}{JZ pp:Pos}(Z:JO X.K C)(hn:cj X.K (.ref C) f=some none)(h0:PE X (.Name s0 JZ) (KL 0))(hv:PE X (.Name p0 pp) (KL i))(hs:autoParam (qe (.Name p0 pp) (some (.Attribute (.Name s0 JZ) f pos')) pos.line X.env=pure false) Ar._auto_1) :
  PS X (.Assign [.Attribute (.Name s0 JZ) f pos'] (.Name p0 pp) pos) (ZS C f i):=by
 rintro pins s σ H D I ⟨a,t,v,TR,hi,ha,hq⟩;refine Kj (gK (hv pins s σ H (fun v' H'=>v'=v/\H'=H) I ⟨_,hi,rfl,rfl⟩) ?_) hs;rintro u s1 ⟨v,H1,I1,r1,rfl,rfl⟩;refine gK (h0 pins s1 σ H1 (fun v' H'=>v'=.ref a/\H'=H1) I1 ⟨_,TR,rfl,rfl⟩) ?_;rintro u0 s2 ⟨_,H2,jA,r2,rfl,rfl⟩;cases (show u0=dF a from r2);have C0:s2.heap.get? a=some (sr C t):=(show gu X.prog X.w H2 s2.heap a (XO C t a) from jA.cO a _ ha).1;refine SS jA.qu C0 Z hn fun h' P9 e1 e2 e3=>?_;have hd:H2 s2.heap.objs.size=none:=jA.cO.fresh (aK _);have lr:s2.heap.objs.size≠a:=(bI (aN C0)).symm;refine⟨σ,_,?_,hq _ hd⟩;obtain⟨od,es,ep,ho,CZ⟩:=id e2;have h1:(s2.heap.push od).get? s2.heap.objs.size=some od:=Heap.get?_push_at rfl (Heap.get?_some_iff.mp ho).2;have I3:=jA.laid (t':=s2.toks) (a:=s2.heap.objs.size) (o:=XN [(f,v)] s2.heap.objs.size) (h':=s2.heap.push od) (fun b u q=>aA _ q) (aK _)
  (ZA (mA:=fun y=>if y=f then some u else none) ⟨od,es,ep,h1,CZ⟩ (fun g=>by
   rw [fR];by_cases hg:g=f
   ·rw [if_pos hg,beq_iff_eq.mpr hg]; exact r1
   ·rw [if_neg hg,beq_eq_false_iff_ne.mpr hg]; exact bu) (fun y hy=>by
   by_cases hg:y=f
   ·rw [hg]; exact bH
   ·exact absurd (if_neg hg) hy))
 refine I3.write (t':=P9) (x:=a) (e:=a) (o:=XD C t s2.heap.objs.size a) (h':=h') (by rw [br lr.symm,ha]; exact bu) (.inl rfl) (fun b o hb z=>?_) ⟨_,e1⟩ (ZC e1);by_cases hbs:b=s2.heap.objs.size
 ·subst hbs; rw [h1] at z; cases z; exact ho
 ·exact e3 b o hb (by rw [Dz _ _ _ hbs] at z; exact z)
theorem Rg{s0 p0:Str}{JZ pp:Pos}(Z:JO X.K C)(hn:cj X.K (.ref C) f=some none)(h0:PE X (.Name s0 JZ) (KL 0))(hv:PE X (.Name p0 pp) (KL i))(hs:autoParam (qe (.Name p0 pp) (some (.Attribute (.Name s0 JZ) f pos')) pos.line X.env=pure false) Ar._auto_1) :
  PS X (.Assign [.Attribute (.Name s0 JZ) f pos'] (.Name p0 pp) pos) (ZR C f i):=by
 rintro pins s σ H D I ⟨a,t,dx,v,fs,TR,hi,ha,lr,TZ,NF,hq⟩;refine Kj (gK (hv pins s σ H (fun v' H'=>v'=v/\H'=H) I ⟨_,hi,rfl,rfl⟩) ?_) hs;rintro u s1 ⟨v,H1,I1,r1,rfl,rfl⟩;refine gK (h0 pins s1 σ H1 (fun v' H'=>v'=.ref a/\H'=H1) I1 ⟨_,TR,rfl,rfl⟩) ?_;rintro u0 s2 ⟨_,H2,jA,r2,rfl,rfl⟩;cases (show u0=dF a from r2);have C0:s2.heap.get? a=some (k6 C t dx):=(show gu X.prog X.w H2 s2.heap a (XD C t dx a) from jA.cO a _ ha).1;obtain⟨mA,hA,rA,wA⟩:=(show gu X.prog X.w H2 s2.heap dx (XN fs dx) from jA.cO dx _ TZ).1;refine SR jA.qu C0 lr hA wA (by rw [ai]; lia) Z hn fun h' P9 e1 e2=>?_;obtain⟨od,es,ep,ho,CZ⟩:=id e1;refine⟨σ,_,?_,hq od⟩;have I3:=jA.write (t':=P9) (x:=dx) (e:=dx) (o:=.jw od (.xd (HP f v fs))) (h':=h') (by rw [TZ]; exact bu) (.inl rfl) (fun b o hb z=>(e2.2 b hb).trans z) ⟨_,ho⟩
  ⟨ho,_,e1,fun g=>by
   show xR ((HP f v fs).lookup g) (if g=f then some u else mA g);rw [zD];by_cases q:g=f
   ·rw [if_pos q,if_pos q]; exact r1
   ·rw [if_neg q,if_neg q]; exact rA g⟩
 have WG:h'.get? a=some (k6 C t dx):=(e2.2 a lr.symm).trans C0;exact I3.write (t':=P9) (x:=a) (e:=a) (h':=h') (by rw [br lr.symm,ha]; exact bu) (.inl rfl) (fun _ _ _ z=>z) ⟨_,WG⟩ ⟨WG,WG,⟨_,WG⟩,fun _ _ z k=>k _ z⟩
end
def Xl(K:ag)(C:Addr)(f g:Str)(te:fM):Sp:=fun vs H Q _=>∃ a x y t0 d1 d2,vs=[.ref a,x,y]/\H a=some (XO C t0 a)/\cQ K H x d1/\cQ K H y d2/\te (fun _ _=>False) [some (.ref a),some d1,some d2] (fun _=>none) (fun _ _=>True) /\
 ∀ H' t dx od,(∀ b u,b≠a->H b=some u->H' b=some u)->H' a=some (.jw (k6 C t dx) (.ext fun h=>h.get? a=some (k6 C t dx)))->H' dx=some (.jw od (.xd [(f,x),(g,y)]))->Q .cR H'
section
variable {P:bx} {w:World} {K:ag} {mg:Str->Option Value} {base:Heap}
theorem Nx{x qual s0 p1 p2 f g:Str}{st:Stmt}{fa C:Addr}{fd:aH}{k:Nat}{te:fM}(hfg:f≠g)(F:p7 K x qual st fa fd)(S:cG [s0,p1,p2] [s0,p1,p2] (aX st))
  (IH:∀ (lD:Value) (A:cX) (outer:List Env) (s:ao) (H:Hp) (E:XK),jI k (A.deeper (ze qual (aX st) s.heap.objs.size fa lD)) ->
   T8 (yU ji P w K mg base [s0,p1,p2] qual (aX st) fa lD A outer s H E).XJ (hX st) (Xb (Wg K C te) (Xb (ZS C f 1) (ZR C g 2)))) :
  fU P w K mg base ji (k+1) fa fd [s0,p1,p2] (Xl K C f g te):=by
 refine F.ok S (by rintro vs H Q E ⟨a,x,y,t0,d1,d2,rfl,_⟩; rfl) ?_;rintro lD A outer s H vs Q E IC ⟨a,x,y,t0,d1,d2,rfl,ha,r1,r2,ht,hq⟩;refine⟨_,IH lD A outer s H E IC,a,t0,[some (.ref a),some d1,some d2],rfl,ha,?_,ht,fun H1 t1 k1 h1=>⟨a,t1,x,rfl,rfl,h1,fun dx TZ=>?_⟩⟩
 ·exact Bg (Nn:=[s0,p1,p2]) (vs:=[.ref a,x,y]) (ds:=[.ref a,d1,d2]) (.cons (.ref a) (.cons r1 (.cons r2 .nil)))
 ·have lr:dx≠a:=fun e=>by rw [e,h1] at TZ; cases TZ
  refine⟨a,t1,dx,y,[(f,x)],rfl,rfl,cP,lr,by rw [br lr,cP],Nat.lt_of_sub_eq_succ rfl,fun od=>hq _ t1 dx od (fun b u hb z=>?_) cP ?_⟩
  ·have z1:=k1 b u hb z;have hbd:b≠dx:=fun e=>by rw [e,TZ] at z1; cases z1
   rw [br hb,br hbd,br hb,br hbd]; exact z1
  ·rw [br lr,cP];unfold HP;rw [if_neg hfg];rfl
end
section
variable {X:Cx} {x:Str} {C:Addr} {lU:List Value} {B newId oE:String} {e:Expr} {es:List Expr} {p pos:Pos} {t:AA}
theorem Mv.aal{K:ag}{H H':Hp}{G:Gp}{a:Addr}(ab:lW K H G)(hn:H a=none)(k:∀ b u,b≠a->H b=some u->H' b=some u):Mv K H G H' G:=by
 have k':∀ b u,H b=some u->H' b=some u:=fun b u q=>k b u (fun e=>by rw [e,hn] at q; cases q) q;have kp:Kp H H':=⟨fun b xs q=>k' b _ q,fun b o u q=>k' b _ q⟩;have PN:lW K H' G:=fun b g q=>by
  have z:=ab b g q;cases hb:H b with
  | none=>exact absurd hb z.tracked
  | some u=>exact z.mono kp ((k' b u hb).trans hb.symm)
 exact⟨fun b o q n=>⟨k' b o q,n⟩,fun b n=>by
  cases hb:G b with
  | none=>exact absurd hb n
  | some g=>exact(PN b g hb).tracked,PN⟩
structure xW(K:ag)(c f:Str):Prop where
 ex:∃ C,bh K aP c=some (some (.ref C))/\sx K C/\mP K C=true/\cj K (.ref C) f=some none
theorem Qy{K:ag}{H:Hp}{f:Str}{d:D}:∀ {fs:List (Str×V)} {ds:List D},bc K H (fs.map (·.2)) ds->((fs.map (·.1)).zip ds).lookup f=some d->∃ v,fs.lookup f=some v/\cQ K H v d:=by
 intro fs;induction fs with
 | nil=>intro ds _ h; cases h
 | cons q fs ih =>
  intro ds r h;cases r with
  | cons r1 r2 =>
   obtain⟨qk,qv⟩:=q;rw [aB,CD,fR] at h;rw [fR];cases hb:f == qk with
   | true=>rw [show (f == (qk,qv).1)=true from hb] at h; cases h; exact⟨qv,rfl,r1⟩
   | false=>rw [show (f == (qk,qv).1)=false from hb] at h; exact ih r2 h
theorem kz{all:List Str}{f:Str}{te:fM}(FB:ym B lU)(cl:∀ c,all.contains c=true->xW X.K c f)(he:gy X e te)(hb:autoParam (attributeBase e f X.env (eval e X.env)=eval e X.env) Ar._auto_1):gy X (.Attribute e f pos) (oJ all f te):=by
 intro E pins s σ H τ G Q hE I h;refine V3 hb (jC he hE I h fun x H1 d G1 u s1 I1 m1 r1 kg q1=>?_);cases kg with
 | ye h0 rs =>
  obtain⟨hc,d',hl,q⟩:=q1;obtain⟨⟨C',e4,z,hd,hf⟩⟩:=cl _ hc;obtain⟨o,C,dx,od,fs,h1,h2,h3,h4,h5,h6,rfl,rfl⟩:=h0;rw [h3] at e4;cases e4;cases r1;obtain⟨v,hv,rv⟩:=Qy rs hl;obtain⟨ho,mA,hA,hr⟩:=(show gu X.prog X.w H1 s1.heap dx (.jw od (.xd fs)) from I1.inv.cO dx _ h5);obtain⟨u,hu,ru⟩:=xR.some_of (v:=v) (o:=mA f) (by rw [<-hv]; exact hr f);exact SU FB I1.inv.qu (I1.inv.cO _ _ h1).1 h2 h6 h4 hA z.ga z.gn z.mb hd hf hu (Pm ru) ⟨v,H1,d',G1,I1.inv.tok _,m1,ru,rv,q⟩
 | _=>exact q1.elim
end
end K2
end
section
namespace K2
open PySem PySem.W PySem.Spec PyProof.Rows L2
abbrev VEB:List Value:=[.type "ValueError",.type "Exception",.type "BaseException",.type "object"]
structure EBt(K:Frag)(cn:Str)(C:Addr):Prop where
 ns:nsIn K aP cn=some (some (.ref C))
 sp:specialIn K (.ref C) "__getattribute__" = some (some (.builtin "type.__getattribute__"))
 rd:readsIn K C (.type "type")=true
 fc:findCls K (.ref C) (.type "type") "__init__" = some (.val (.builtin "ValueError.__init__"))
theorem YM {K:Frag} {cn:Str} {C:Addr} (a:autoParam (nsIn K aP cn=some (some (.ref C))) Aq._auto_1) (k:autoParam (specialIn K (.ref C) "__getattribute__" = some (some (.builtin "type.__getattribute__"))) Aq._auto_1) (r:autoParam (readsIn K C (.type "type")=true) Aq._auto_1) (e:autoParam (findCls K (.ref C) (.type "type") "__init__" = some (.val (.builtin "ValueError.__init__"))) Aq._auto_1):EBt K cn C:=⟨a,k,r,e⟩
structure Y2(K:Frag)(C:Addr)(cn q f g:Str)(st:Stmt)(fa:Addr)(fd:aH):Prop where
 ns:nsIn K aP cn=some (some (.ref C))
 kp:keepIn K (.ref C)=true
 ex:Cg K C fa VEB "ValueError.__new__" = true
 fn:isFn K (.ref fa)=true
 F:L2.p7 K "__init__" q st fa fd
 Z:JO K C
 n1:Dw K (.ref C) f=some none
 n2:Dw K (.ref C) g=some none
theorem SY {K:Frag} {C:Addr} {cn q f g:Str} {st:Stmt} {fa:Addr} {oc:Value} {od an:Option Addr} {Nd:Array (Option Value)} {kV doc pm lD ct:Value} (a:autoParam (nsIn K aP cn=some (some (.ref C))) Aq._auto_1) (fi:autoParam (Dw K (.ref C) "__init__" = some (some (.ref fa))) Aq._auto_1) (k:autoParam (keepIn K (.ref C)=true) Aq._auto_1)
  (l:autoParam (K.lookup fa=some ⟨oc,od,.func (fnOf "__init__" q (L2.lb st) (L2.hX st) (L2.aX st) .none kV doc pm an lD ct),Nd⟩) Aq._auto_1) (e:autoParam (Cg K C fa VEB "ValueError.__new__" = true) Ac._auto_1) (fn:autoParam (isFn K (.ref fa)=true) Aq._auto_1) (c:autoParam (codeIn K lD q=true) Aq._auto_1) (k2:autoParam (keepIn K (.ref fa)=true) Aq._auto_1)
  (ov:autoParam (L6 K C=true) Ac._auto_1) (mo:autoParam (mroIn K C (.type "object")=some true) Aq._auto_1) (sa:autoParam (Dw K (.ref C) "__setattr__" = some (some (.builtin "object.__setattr__"))) Aq._auto_1) (hd:autoParam (hasDictIn K C=true) Aq._auto_1) (n1:autoParam (Dw K (.ref C) f=some none) Aq._auto_1) (n2:autoParam (Dw K (.ref C) g=some none) Aq._auto_1) :
  Y2 K C cn q f g st fa (fnOf "__init__" q (L2.lb st) (L2.hX st) (L2.aX st) .none kV doc pm an lD ct):=⟨a,k,e,fn,L2.SG l c k2,⟨ov,mo,sa,hd⟩,n1,n2⟩
structure PV(P:bx)(w:World)(K:Frag)(mg:Str->Option Value)(base:Heap)(k:Nat)(fa:Addr)(fd:aH)(C:Addr)(cn:Str)(ps:List Str)(f g:Str)(te:fM):Prop where
 ok:L2.fU P w K mg base ji k fa fd ps (Xl K C f g te)
 bi:L2.Binds K fd ps []
 ns:nsIn K aP cn=some (some (.ref C))
 mg:mg cn=some (.ref C)
 kp:keepIn K (.ref C)=true
 ex:Cg K C fa VEB "ValueError.__new__" = true
 fn:isFn K (.ref fa)=true
theorem Y2.cal{P:bx}{w:World}{K:Frag}{mg:Str->Option Value}{base h:Heap}{k:Nat}{fa:Addr}{fd:aH}{C:Addr}{cn q:Str}{st:Stmt}{ps:List Str}{f g:Str}{te:fM}(z:Y2 K C cn q f g st fa fd)(X:K.In h)(G:h.Ns aP mg)(ok:L2.fU P w K mg base ji k fa fd ps (Xl K C f g te))(bi:L2.Binds K fd ps []) :
  PV P w K mg base k fa fd C cn ps f g te:=⟨ok,bi,z.ns,mg_of X G z.ns,z.kp,z.ex,z.fn⟩
theorem VJ {K:Frag} {f:Addr} (h:isFn K (.ref f)=true):∃ o,K.lookup f=some o/\o.cls=.type "function":=by
 have h:=beq_iff_eq.mp h;have h:(K.lookup f).map (·.cls)=some (.type "function"):=h;cases e:K.lookup f with
 | none=>rw [e] at h; cases h
 | some o=>rw [e] at h; exact⟨o,rfl,bC h⟩
end K2
end
section
namespace K2
open PySem PySem.Spec PyProof.Rows L2 PySem.Builtin PySem.Builtin.ObjectAttr PySem.Calls
def del(H:Hp)(a:Addr):Hp:=fun b=>if b=a then none else H b
theorem k9{H:Hp}{a b:Addr}(h:b≠a):del H a b=H b:=if_neg h
theorem xF{H:Hp}{a:Addr}:del H a a=none:=if_pos rfl
theorem S4{H:Hp}{a b:Addr}{u:HO}(h:del H a b=some u):b≠a/\H b=some u:=by
 by_cases e:b=a
 ·subst e; rw [xF] at h; cases h
 ·rw [k9 e] at h; exact⟨e,h⟩
section
variable {X:Cx} {pins:List (Addr×Obj)} {σ:L2.St} {H H1:Hp} {s s1:ao} {a:Addr} {o:Obj} {u:HO}
theorem uc{b:Addr}(h:H b=none):del H a b=none:=by
 by_cases e:b=a
 ·subst e; exact xF
 ·rw [k9 e]; exact h
theorem Ts(I : Inv X pins σ H s)(I1 : Inv X pins σ H1 s1)(h1 : H1 a = none)(ha : H a = some (.jw o u)) : Inv X pins σ (del H a) s := by
  have ne : ∀ {b : Addr} {v : HO}, H1 b = some v -> b ≠ a := fun {b v} q e => by rw [e, h1] at q; cases q
  exact { ok := I.ok, os := I.os, bare := I.bare
          base := ⟨I.base.keep, I.base.slot, fun b o q n hx => uc (I.base.free b o q n hx), I.base.there,
            fun b xs q => by rw [k9 (ne (I1.base.pW b xs q))]; exact I.base.pW b xs q, fun b o v q => by rw [k9 (ne (I1.base.o3 b o v q))]; exact I.base.o3 b o v q,
            fun b ps q => by rw [k9 (ne (I1.base.sC b ps q))]; exact I.base.sC b ps q, fun b x q => by rw [k9 (ne (I1.base.sG b x q))]; exact I.base.sG b x q⟩
          loc := I.loc, cell := I.cell
          free := uc I.free
          i8 := fun x c e => uc (I.i8 x c e)
          pin := fun p hp => by obtain⟨h1, h2, h3⟩ := I.pin p hp; exact⟨h1, uc h2, h3⟩
          cO := fun b v q => by
            obtain⟨_, q⟩ := S4 q;exact(I.cO b v q).jo (fun _ _ _ y => y) (fun c r => by rw [k9 (fun z => by rw [z, ha] at r; cases r)]; exact r) (fun c xs r => by rw [k9 (fun z => by rw [z, ha] at r; cases r)]; exact r)
          len := I.len }
end
section
variable {M:Model} {A:cX} {E:Value->ao->Prop} {env:Env}
variable {nm q:Str} {C N:Addr} {bs bm:List Value} {mU:Bool} {sn:List Str} {sub:List Value} {ab:Bool} {col:Option Bool} {dd:Option Addr} {k0 k1 k2 k3 k5:Option Value} {newId:String}
theorem OR{s:ao}{x:Sem Value}{Q:Flow->ao->Prop}(hh:A.handled=none)
  (h:wpAny M A x (fun v s1=>∃ e t dx C nm q N bs bm mU sn sub ab col dd k0 k1 k2 k3 k5 newId,v=.ref e/\bm.contains (.type "BaseException")=true/\s1.heap.get? C=some (jK nm q C N bs bm mU sn sub ab col dd k0 k1 k2 k3 k5 newId) /\
   s1.heap.get? e=some (k6 C t dx)/\E (.ref e) s1) E s):wpAny M A (raiseStmt env (some x) none) Q E s:=by
 unfold raiseStmt;refine ae (eY h (fun v s1 h1=>?_) fun _ _ x=>x);obtain⟨e,t,dx,C,nm,q,N,bs,bm,mU,sn,sub,ab,col,dd,k0,k1,k2,k3,k5,newId,rfl,hb,hC,he,hE⟩:=h1;have hcB:(dF C :: bm).contains (.type "BaseException")=true:=by rw [CI,hb,Bool.or_true]
 obtain⟨hp,g,d,tk,os⟩:=s1
 repeat (first | with_reducible refine jl he ?_ | with_reducible refine jl hC ?_ | (with_reducible refine sQ hC ?_; rw [hcB]) | wp_step)
 exact wpAny_raiseNew_none hh hE
end
section
variable {X:Cx} {x:Str} {C:Addr} {lU:List Value} {B newId oE:String} {e:Expr} {es:List Expr} {p pos Xp:Pos} {t:AA}
theorem K5{fI:Addr}{f g:Str}{fd:aH}{ps:List Str}{k:Nat}{te:fM}{oI:Obj}(A0:xX X)(hc:X.calm=true)(hk:kD X.K (.ref C)=true)(CZ:bh X.K aP x=some (some (.ref C)))(q:Cg X.K C fI lU newId=true)(FB:Ba B newId oE lU)
  (hfI:X.K.lookup fI=some oI) (hfc:oI.cls=.type "function") (F:fU X.prog X.w X.K X.mg X.base ji k fI fd ps (Xl X.K C f g te)) (hr:jI (k+1) X.A) (hb:Binds X.K fd ps []) (hg:Gl X x) (hm:X.mg x=some (.ref C)) (ha:GN X (e :: es) t)
  (Ag:autoParam ((x == ("__debug__" : Str))=false) Ad._auto_1) (he:autoParam (bB (e :: es) X.env=(false,eval e X.env) :: bB es X.env) Ar._auto_1) (yc:autoParam ((i6 pos (bB es X.env)).any (·.1)=false) Ar._auto_1) :
  Kb X (.Raise (some (.Call (.Name x p) (e :: es) [] pos)) none Xp) (ip x [f,g] te t):=by
 intro E pins s σ H τ G Dn hE I h;rw [arm_exec_Raise];refine ae (yg (OR (I.inv.ok.hd hc) (ae ?_)));refine eW (kX I.inv hg hm ?_ Ag);refine qP (h₀:=X.base) I.inv.ok.mod.Np hk (Bf ha pos hE I h fun vs H1 ds G1 us s1 I1 m1 r rd z=>⟨I1.inv.qu,?_⟩) he yc;obtain⟨hlen,ht,hQ⟩:=z;obtain⟨d1,d2,rfl⟩:∃ d1 d2,ds=[d1,d2]:=by
  match ds,hlen with
  | [d1,d2],_=>exact⟨d1,d2,rfl⟩
 cases rd with
 | @cons v1 _ vs1 _ r1 rd =>
 cases rd with
 | @cons v2 _ vs2 _ r2 rd =>
 cases rd;obtain⟨tl,N,nm,qn,bs,mU,sn,sub,ab,col,dd,k0,k1,k2,k3,k5,mN,hC,hN,hni,T⟩:=Gu I1.inv.qu q;have aez:=I1.inv.qu _ _ hfI;have J1:=I1.inv;obtain⟨hh,g0,d,tt,os⟩:=s1;refine Mm FB T hC hN hni aez hfc (fun h' a t0 kp sz e1=>?_) (by rw [aY,<-r.length,bK]; exact Ui rfl);have hn:=I1.inv.cO.fresh (a:=a) sz;have I2:=I1.inv.laid (t':=tt) (a:=a) (o:=XO C t0 a) (h':=h') kp sz (Wb e1);have m2:Mv X.K H1 G1 (upd H1 a (XO C t0 a)) G1:=Mv.aal I1.ab hn fun b u hb q=>by rw [br hb]; exact q
 have kp2:=m2.kp I1.ab;rw [aY];have rr:Vals (.ref a :: [v1,v2]) (.ref a :: us):=.cons rfl r;have J0:Xl X.K C f g te (.ref a :: [v1,v2]) (upd H1 a (XO C t0 a)) (fun v H'=>v=.cR/\∃ t dx od,(∀ b u,b≠a->(upd H1 a (XO C t0 a)) b=some u->H' b=some u)/\H' a=some (.jw (k6 C t dx) (.ext fun h=>h.get? a=some (k6 C t dx)))/\H' dx=some (.jw od (.xd [(f,v1),(g,v2)]))) E0 :=
  ⟨a,v1,v2,t0,d1,d2,rfl,cP,r1.mono kp2,r2.mono kp2,ht a,fun H' t dx od h1 h2 h3=>⟨rfl,t,dx,od,h1,h2,h3⟩⟩
 have hl:(dF a :: us).length=ps.length:=by rw [<-rr.length]; exact F.len _ _ _ _ J0
 refine pQ (kK (F.run _ X.stack _ _ ⟨dF a :: us,[]⟩ (dF a :: us) _ _ E0 (hr.make C us []) (I2.YL.make C us []) (by have:=hb _ (dF a :: us) I2.qu (by rw [bV]; exact hl); rw [bV] at this; exact this) rr J0) fun r s' hq'=>?_);cases r with
 | error e=>exact hq'.elim
 | ok fl =>
  cases fl with
  | ret u =>
   obtain⟨v,H',os3,WR,un,aec,rv,ev,t,dx,od,h1,h2,h3⟩:=hq';have I3:=I2.NY (ch:=[]) os3 un aec WR (fun b z=>absurd z (by simp));subst ev;have m3:Mv X.K H1 G1 H' G1:=Mv.aal I1.ab hn fun b u hb q=>h1 b u hb (by rw [br hb]; exact q);have kd:Kp H1 (del H' a):=by
    have kq:∀ b u,H1 b=some u->del H' a b=some u:=fun b u q=>by
     have hb:b≠a:=fun e=>by rw [e,hn] at q; cases q
     rw [k9 hb]; exact h1 b u hb (by rw [br hb]; exact q)
    exact⟨fun b xs q=>kq b _ q,fun b o u q=>kq b _ q⟩
   refine⟨rv,ae (yg (au ?_))⟩;obtain⟨tl,N,nm,qn,bs,mU,sn,sub,ab,col,dd,k0,k1,k2,k3,k5,mN,hC,hN,hni,T⟩:=Gu I3.qu q;have TZ:dx≠a:=fun z=>by rw [z,h2] at h3; cases h3
   have na:∀ b o,hh.get? b=some o->b≠a:=fun b o q e=>by subst e; exact absurd sz (Nat.not_le.mpr (aN q))
   have nh:∀ b u,H1 b=some u->b≠a:=fun b u q e=>by rw [e,hn] at q; cases q
   have hs1:hh.get? a=none:=by
    cases q0:hh.get? a with
    | none=>rfl
    | some o=>exact absurd rfl (na a o q0)
   exact⟨a,t,dx,C,nm,qn,N,bs,tl,mU,sn,sub,ab,col,dd,k0,k1,k2,k3,k5,newId,rfl,T.hasType FB.hasBase,hC,(I3.cO a _ h2).1,
    hE.pass pins σ H1 _ _ _ J1 ⟨a,C,t,e9 s'.heap (a :: o4 X.stack),del H' a,rfl,os3,WR,
     ⟨fun b o q n hb hx=>un.keep b o (kp b o q) (by rw [br (na b o q)]; exact n) hb hx,fun b o q n hb hx=>un.slot b o (kp b o q) (by rw [br (na b o q)]; exact n) hb hx,
      fun b o q n hx=>uc (un.free b o (kp b o q) (by rw [br (na b o q)]; exact n) hx),fun b o q hx=>un.there b o (kp b o q) hx,
      fun b xs q=>by rw [k9 (nh b _ q)]; exact un.pW b xs (by rw [br (nh b _ q)]; exact q),fun b o v q=>by rw [k9 (nh b _ q)]; exact un.o3 b o v (by rw [br (nh b _ q)]; exact q),
      fun b ps q=>by rw [k9 (nh b _ q)]; exact un.sC b ps (by rw [br (nh b _ q)]; exact q),fun b x q=>by rw [k9 (nh b _ q)]; exact un.sG b x (by rw [br (nh b _ q)]; exact q)⟩,
     (Ts I3 J1 hn h2).cO,fun b o e n c=>dN _ e fun hm=>(List.mem_cons.mp hm).elim (fun z=>by subst z; exact c.elim (fun c=>c hs1) (fun c=>c xF)) n,
     ⟨fun b o q=>qO _ q,oQ _ (.head _),PySem.W.funFrames_hide I3.stack fun env he b hb=>List.mem_cons.mpr (.inr (List.mem_filterMap.mpr ⟨env,he,hb⟩)),.inr ⟨_,_,(I3.cO a _ h2).1,rfl,rfl,rfl,rfl⟩⟩,
     xF,hs1,_,(I3.cO a _ h2).1,⟨x,[(f,d1),(g,d2)]⟩,C,fun _=>none,rfl,hm,(fun _ _ z=>by cases z),hQ,
     .inr ⟨dx,od,[(f,v1),(g,v2)],rfl,by rw [k9 TZ]; exact h3,rfl,.cons (r1.mono kd) (.cons (r2.mono kd) .nil)⟩⟩⟩
  | next=>exact bO hq'
  | brk=>exact bO hq'
  | cont=>exact bO hq'
end
section
variable {X:Cx} {x cn n:Str} {D f:Addr} {fd:aH} {ps:List Str} {k i:Nat} {sp:nR} {cat:List Str} {e:Expr} {es:List Expr} {p np pos ep FV tp:Pos} {TK:Stmt} {zg:List Stmt} {t:AA} {th:i5}
theorem SV(ex:Ex):Qe ex=.exc ex.cls\/ex.xA≠[]/\Qe ex=.ye ex.cls (ex.xA.map (·.1)) (ex.xA.map (·.2)):=by
 obtain⟨c,fl⟩:=ex;cases fl with
 | nil=>exact .inl rfl
 | cons a l=>exact .inr ⟨by simp,rfl⟩
theorem XR{K:ag}{H1 Hj:Hp}{G1 G':Gp}(mv:Mv K H1 G1 Hj G1)(hn:∀ b g,G' b=some g->H1 b=none/\PX K Hj b g):Mv K H1 G1 Hj (P8 G' G1):=by
 refine⟨fun a o e n=>⟨(mv.keep a o e n).1,?_⟩,mv.jo,fun a g eg=>?_⟩
 ·unfold P8;cases eg:G' a with
  | none=>exact n
  | some g=>have:=(hn a g eg).1; rw [e] at this; cases this
 ·unfold P8 at eg;cases eg':G' a with
  | none=>rw [eg'] at eg; exact mv.ab a g eg
  | some g'=>rw [eg'] at eg; cases eg; exact(hn a _ eg').2
end
end K2
namespace K2
open PySem PySem.W PySem.Spec PyProof.Rows L2
section
variable {X:Cx} {x:Str} {C:Addr} {e:Expr} {es:List Expr} {p pos Xp:Pos} {t:AA}
theorem lN{fI:Addr}{f g:Str}{fd:aH}{ps:List Str}{k:Nat}{te:fM}(A0:xX X)(hc:X.calm=true)(z:PV X.prog X.w X.K X.mg X.base k fI fd C x ps f g te)(hr:jI (k+1) X.A)(hg:Gl X x)(ha:GN X (e :: es) t)
  (Ag:autoParam ((x == ("__debug__" : Str))=false) Ad._auto_1) (he:autoParam (bB (e :: es) X.env=(false,eval e X.env) :: bB es X.env) Ar._auto_1) (yc:autoParam ((i6 pos (bB es X.env)).any (·.1)=false) Ar._auto_1) :
  Kb X (.Raise (some (.Call (.Name x p) (e :: es) [] pos)) none Xp) (ip x [f,g] te t):=by
 obtain⟨o,h1,h2⟩:=VJ z.fn;exact K5 A0 hc z.kp z.ns z.ex qf h1 h2 z.ok hr z.bi hg z.mg ha Ag he yc
end
end K2
end
section
namespace K2
open PySem PySem.Spec PyProof.Rows L2
def DC(K:ag)(C:Addr)(v:Value):Bool:=match K.lookup C with
 | some ⟨_,_,.cls cd,_⟩=>!cd.mro.contains v
 | _=>false
theorem Xe{K:ag}{h:Heap}{C N:Addr}{nm q:Str}{bs bm:List Value}{mU:Bool}{sn:List Str}{sub:List Value}{ab:Bool}{col:Option Bool}{dd:Option Addr}{k0 k1 k2 k3 k5:Option Value}{newId:String}{v:Value}
  (Y:K.In h) (hC:h.get? C=some (jK nm q C N bs bm mU sn sub ab col dd k0 k1 k2 k3 k5 newId)) (e:DC K C v=true):(dF C :: bm).contains v=false:=by
 unfold DC at e;split at e
 ·rename_i ho;have:=Y _ _ ho;rw [hC] at this;cases this;exact(g6 _ ▸ e)
 ·cases e
section
variable {X:Cx} {x cn cn' n:Str} {D D' f:Addr} {fd:aH} {ps:List Str} {k i:Nat} {sp:nR} {cat Tc:List Str} {e:Expr} {es:List Expr} {p np np' pos ep FV WC tp:Pos} {TK Xj:Stmt} {zg KO:List Stmt} {t:AA} {th th':i5}
structure Od(X:Cx)(cn:Str)(D:Addr)(cat:List Str):Prop where
 gl:Gl X cn
 mg:X.mg cn=some (.ref D)
 cls:∃ T6 newD,(lH X.K D T6 newD=true\/vg X.K D T6 newD=true)/\T6.contains (.type "BaseException")=true
 cR:∀ c,cat.contains c=true->∃ C lU newId,bh X.K aP c=some (some (.ref C))/\(lH X.K C lU newId=true\/vg X.K C lU newId=true)/\DC X.K C (.ref D)=true
theorem Jx{pins:List (Addr×Obj)}{σ:L2.St}{H1 Hj:Hp}{s1 s':ao}{a C t0:Addr}{B h5:Heap}{ex:Ex}{o0:Option Addr}{rest:List ExceptHandler}{Q:Flow->ao->Prop}{nn:Option Str}(A0:xX X)(L:Od X cn D cat)(J1:Inv X pins σ H1 s1)
  (I':Inv X pins σ Hj s') (hB:∀ b o,s'.heap.get? b=some o->b∉o4 X.stack->(s1.heap.get? b≠none\/Hj b≠none)->B.get? b=some o)
  (Sg:X.mg ex.cls=some (.ref C)) (IG:cat.contains ex.cls=true) (T1:(cn == ("__debug__" : Str))=false) (ld:Lnd X B a C t0 s'.heap h5 o0)
  (kk:wpAny (model X.prog X.w) X.A (PZ (.ref a) X.env rest) Q X.xe { s' with heap:=h5 }) :
  wpAny (model X.prog X.w) X.A (PZ (.ref a) X.env (.ExceptHandler (some (.Name cn np)) nn (TK :: zg) FV :: rest)) Q X.xe { s' with heap:=h5 }:=by
 obtain⟨uW,Pg,hex⟩:=A0;obtain⟨hgD,hmD,⟨T6,newD,qD,bD⟩,Yp⟩:=L;obtain⟨C',lU,newId,CZ,qC,IB⟩:=Yp ex.cls IG;have eC:C'=C:=by
  have:=dB J1.ok.mod.Np J1.ok.mod.glob CZ;rw [Sg] at this; cases this; rfl
 subst eC;obtain⟨T5,Wc,dk5⟩:=ld;have I5:Inv X pins σ Hj { s' with heap:=h5 }:=zb I' J1 uW Pg hex hB T5.1 Wc _;refine wpAny_handleBy_cons (codeAny_handlers_test ?_) (by intro z; cases z);refine kX (X:=marked X (.ref a)) (Cw I5) hgD hmD ?_ T1;obtain⟨bm,N,nm,qn,bs,mU,sn,sub,ab,col,dd,k0,k1,k2,k3,k5,hC,T⟩:=AW I5.qu qC;obtain⟨bm',N',nm',qn',V2,So,sn',Xf,PN,YR,WM,k0',k1',k2',k3',k5',hD,T'⟩:=AW I5.qu qD;obtain⟨oe,he5,hce⟩:=T5.there;refine DV hC hD he5 hce (T'.hasType bD) ?_;rw [Xe I5.qu hC IB];exact kk
theorem Ri{y:Str}{j:Nat}{py:Pos}(A0:xX X)(L:Clause X i n cn D cat)(Ln:Od X cn D Tc)(L':Clause X i n cn' D' Tc)(hj:X.N[j]?=some y)(hy:Loc X.env.scope y)
  (F:fU X.prog X.w X.K X.mg X.base (EB X.prog X.w) k f fd ps (mZ X.K X.mg sp)) (hr:jI k X.A) (hg:Gl X x) (hm:X.mg x=some (.ref f)) (hk:kD X.K (.ref f)=true) (hb:Binds X.K fd ps [])
  (ha:∀ EX,GN (X.wc EX) (e :: es) t) (hth:∀ v,sJ (marked X v) (TK :: zg) th) (ad5:∀ v,sJ (marked X v) (Xj :: KO) th')
  (Ag:autoParam ((x == ("__debug__" : Str))=false) Ad._auto_1) (T1:autoParam ((cn == ("__debug__" : Str))=false) Ad._auto_1) (aeC:autoParam ((cn' == ("__debug__" : Str))=false) Ad._auto_1) (he:autoParam (bB (e :: es) X.env=(false,eval e X.env) :: bB es X.env) Ar._auto_1) (yc:autoParam ((i6 pos (bB es X.env)).any (·.1)=false) Ar._auto_1)
  (hs:autoParam (qe (.Call (.Name x p) (e :: es) [] pos) (some (.Name y py)) ep.line X.env=pure false) Ar._auto_1) (hf:autoParam (X.fn y=true\/X.env.scope.names.lookup y=some .local) Ao._auto_1) :
  Kb X (.Try [.Assign [.Name y py] (.Call (.Name x p) (e :: es) [] pos) ep] [.ExceptHandler (some (.Name cn np)) (some n) (TK :: zg) FV,.ExceptHandler (some (.Name cn' np')) (some n) (Xj :: KO) WC] [] [] tp) (Jo sp t j i cat Tc th th'):=by
 intro E pins s σ H τ G Dn hE I h;refine wpAny_Try_except ?_;refine jS (Kg ?_ hs);generalize hEX:(fun (e:Value) (fW:ao)=>wpAny (model X.prog X.w) X.A (sT e X.env) (fun _ jU=>wpAny (model X.prog X.w) X.A (Hh e none) (fun _ Fb=>wpAny (model X.prog X.w) X.A (PZ e X.env [.ExceptHandler (some (.Name cn np)) (some n) (TK :: zg) FV,.ExceptHandler (some (.Name cn' np')) (some n) (Xj :: KO) WC]) (V5 X pins H G Dn) X.xe Fb) X.xe jU) X.xe fW)=EX;refine eW (kX I.inv hg hm ?_ Ag);have I0:I2 (X.wc EX) pins σ H τ G s:=⟨I.inv.wc EX,I.st,I.ab⟩;refine qP (h₀:=X.base) I.inv.ok.mod.Np hk (Bf (X:=X.wc EX) (ha EX) pos (Lk.none fun _ _ z=>z) I0 h fun vs H1 ds G1 us s1 I1 m1 r rd q=>⟨I1.inv.qu,?_⟩) he yc;have J1:Inv X pins σ H1 s1:=I1.inv.qT;refine eY (Q0 F hr hb J1 I1.ab r rd q) ?_ ?_
 ·rintro u s' ⟨v,d,G',Hj,I',mv,rv,Qa,q',hn⟩;have fg:∀ a o,G' a=some o->G1 a=none:=fun a o e=>I1.ab.free (hn a o e).1;have mu:=XR mv hn;exact wm I' L.nd hj hy rv (fun s2 jA=>kI (kI ⟨_,Hj,_,_,⟨jA,(I1.st.mono (mv.kp I1.ab)).set j Qa,mu.ab⟩,m1.trans mu,q' fg⟩)) hf
 ·rintro ev s' ⟨a,C,t0,B,ex,Hj,ea,I',mv,fl,hB,ha',J7,⟨o0,TY,hfo⟩,Sg,_,q'⟩;subst ea; subst hEX;refine Jy A0 J1.ok.frames fl TY fun h5 ld=>?_;rcases q' with ⟨IG,q'⟩ | ⟨IG,q'⟩
  ·exact Ei A0 L hth J1 I1.st I1.ab m1 I' mv hB ha' J7 hfo Sg IG (SV ex) q' T1 ld
  ·exact Jx A0 Ln J1 I' hB Sg IG T1 ld (Ei A0 L' ad5 J1 I1.st I1.ab m1 I' mv hB ha' J7 hfo Sg IG (SV ex) q' aeC ld)
end
theorem frames_at{h h' base:Heap}:∀ {l:List Env},h.FunFrames base l->(∀ b o,b∈o4 l->h.get? b=some o->(∀ vs,o.data≠.fields vs)->∃ o',h'.get? b=some o'/\o'.data=o.data)->h'.FunFrames base l
 | [],_,_=>trivial
 | env :: l,⟨hk,⟨L,o,hf,hb,ho,hd⟩,hr⟩,k=>by
  have e:o4 (env :: l)=L :: o4 l:=by unfold o4; rw [lJ hf]
  obtain⟨o',e1,ed⟩:=k L o (by rw [e]; exact .head _) ho hd;exact⟨hk,⟨L,o',hf,hb,e1,fun vs=>ed ▸ hd vs⟩,frames_at hr fun b o hb=>k b o (by rw [e]; exact .tail _ hb)⟩
section
variable {M:Model} {A:cX} {E:Value->ao->Prop} {s:ao} {B:Heap} {l:List Env} {e:Addr} {cls a0 fl:Value}
theorem LM{f:Option Addr}{Q:Unit->ao->Prop}(hkb:B.StaysIn s.heap)(hl:s.heap.FunFrames B l)(ht:s.heap.TracedAtW B e cls a0 fl)
  (h:∀ h' fl,B.StaysIn h'->h'.FunFrames B l->h'.TracedAtW B e cls a0 fl->(∀ b o,s.heap.get? b=some o->(∀ vs,o.data≠.fields vs)->h'.get? b=some o)->Q () { s with heap:=h' }):wpAny M A (Hh (.ref e) f) Q E s:=by
 obtain⟨oe,vs,T,oT,ts,he,C1,hd,h1,hnT,hTe,hT,WI,h3⟩:=ht;have aaA:3 < ts.size:=(Array.getElem?_eq_some_iff.mp h3).1;have other:∀ b,b≠T->(s.heap.update T (mQ (·.setIfInBounds 3 (f.elim c8 fun f=>r8 f)))).get? b=s.heap.get? b:=fun b hb=>cN _ _ (jz hb);have tS:∀ b o,s.heap.get? b=some o->(∀ vs,o.data≠.fields vs)->b≠T:=fun b o hb J8 q=>by
  rw [q,hT] at hb; injection hb with hb; subst hb; exact J8 ts WI
 unfold Hh;refine ae (pP he hd h1 ?_);rw [if_pos (show (dF T != c8)=true from by simp)];refine mq hT WI aaA (h _ (f.elim c8 fun f=>r8 f) (fun b o Yr=>(other b fun q=>by rw [q,hnT] at Yr; cases Yr).trans (hkb b o Yr))
  (hl.of_keeps fun b o hb J8=>⟨o,(other b (tS b o hb J8)).trans hb,rfl⟩) ?_ fun b o hb J8=>(other b (tS b o hb J8)).trans hb)
 exact⟨oe,vs,T,_,_,(other e (jz hTe)).trans he,C1,hd,h1,hnT,hTe,dQ _ hT (oV (fh WI _)),fh WI _,by simp [aaA]⟩
theorem Rv{α:Type}{Us:String}{Jv:Env}{Q:α->ao->Prop}(hkb:B.StaysIn s.heap)(hl:s.heap.FunFrames B l)(ht:s.heap.TracedAtW B e cls a0 fl)
  (h:∀ h' fl,B.StaysIn h'->h'.FunFrames B l->h'.TracedAtW B e cls a0 fl->(∀ b o,s.heap.get? b=some o->(∀ vs,o.data≠.fields vs)->h'.get? b=some o)->Zq s.heap h'->E (.ref e) { s with heap:=h' }):wpAny M A (PySem.passOn Us (.ref e) Jv:Sem α) Q E s:=by
 obtain⟨oe,vs,T,oT,ts,he,C1,hd,h1,r⟩:=id ht;unfold PySem.passOn;refine ae (pP he hd h1 ?_);rw [if_neg (show ¬ ((dF T == c8)=true) from by simp)];refine ae (eY (y0 (LM (Q:=fun _ s2=>∃ h' fl,B.StaysIn h'/\h'.FunFrames B l/\h'.TracedAtW B e cls a0 fl/\(∀ b o,s.heap.get? b=some o->(∀ vs,o.data≠.fields vs)->h'.get? b=some o)/\s2={ s with heap:=h' }) hkb hl ht fun h' fl q1 q2 q3 q4=>⟨h',fl,q1,q2,q3,q4,rfl⟩) (nH _ _)) ?_ (fun _ _ z=>z));rintro _ s2 ⟨⟨h',fl,q1,q2,q3,q4,rfl⟩,dk⟩;exact wpAny_throw (h h' fl q1 q2 q3 q4 dk)
end
section
variable {X:Cx} {N:List Str} {scope:Scope} {fp:List Addr} {pins:List (Addr×Obj)} {σ:L2.St} {H:Hp} {s:ao} {E:lu}
theorem Tr(A0 : xX X)(I : Inv X pins σ H s)(IE : ∀ b ∈ fp, o8 X pins H b) : Inv X pins σ H { s with heap := e9 s.heap fp } := by
  have old : ∀ b o, X.jc.heap.get? b = some o -> b ∉ fp := fun b o q hb => by
    obtain⟨_, _, _, f3, _⟩ := IE b hb;rw [A0.ex] at f3;rcases f3 with z | z
    · cases z
    · exact absurd (aN q) (Nat.not_lt.mpr z)
  exact { ok := I.ok, os := I.os, bare := I.bare
          base := ⟨fun b o q n hb hx => dN _ (I.base.keep b o q n hb hx) (old b o q), fun b o q n hb hx => let ⟨sl, e⟩ := I.base.slot b o q n hb hx; ⟨sl, dN _ e (old b o q)⟩, I.base.free,
            fun b o q hx => let ⟨o', e⟩ := I.base.there b o q hx; ⟨o', dN _ e (old b o q)⟩, I.base.pW, I.base.o3, I.base.sC, I.base.sG⟩
          loc := by
            obtain⟨m, ⟨o, es, ep, ho, r⟩, hl⟩ := I.loc;exact⟨m, ⟨o, es, ep, dN _ ho fun hb => (IE _ hb).2.1 rfl, r⟩, fun i x v e1 e2 e3 => let ⟨u, r, q⟩ := hl i x v e1 e2 e3; ⟨u, r, q.imp id fun ⟨k, c, e, oc, TV, hd⟩ => ⟨k, c, e, oc, dN _ TV fun hb => (IE _ hb).2.2.2.2.1 x c e rfl, hd⟩⟩⟩
          cell := fun x c e => let ⟨v, oc, TV, hd⟩ := I.cell x c e; ⟨v, oc, dN _ TV fun hb => (IE _ hb).2.2.2.2.1 x c e rfl, hd⟩
          free := I.free, i8 := I.i8
          pin := fun p hp => by
            obtain⟨h1, h2⟩ := I.pin p hp;exact⟨dN _ h1 fun hb => (IE _ hb).2.2.2.2.2 p hp rfl, h2⟩
          cO := fun a o q => (I.cO a o q).jo (fun b u hb e => dN _ e fun hm => by
            have n := (IE b hm).1;rcases hb with rfl | hb
            · rw [q] at n; cases n
            · rw [hb] at n; cases n) (fun b r => r) (fun b xs r => r)
          len := I.len }
theorem Vr(A0:xX X)(hL:Lk X E)(I:Inv X pins σ H s)(IE:∀ b∈fp,o8 X pins H b/\b < s.heap.objs.size):Lk (c7 X N scope s.heap.objs.size s H fp) E where
 pass:=fun Z3 Y5 H1 s1 s' e I1 D5=>by
  obtain⟨a,Ca,t,B,H',rfl,os,bare,un,cO,hB,fl,ha,hs,oe,he,hEx⟩:=D5;have I2:Inv (c7 X N scope s.heap.objs.size s H fp) Z3 Y5 H' s':=I1.NY (ch:=[]) os un cO bare (fun b z=>absurd z (by simp));have uW:=A0.st;have frC:s.heap.objs.size∉o4 X.stack:=fun z=>by
   obtain⟨_,o,e,_⟩:=I.stack.mem z;exact absurd (aN e) (eQ _)
  have YE:Dr B (X.env :: X.outer) a (.ref Ca) (.ref t) s'.heap:=by rw [<-uW]; exact fl
  show wpAny (model X.prog X.w) X.A (sT (.ref a) X.env) (fun _ UO=>AY X s.heap.objs.size (.ref a) UO) (AY X s.heap.objs.size) s';refine eY (y0 (BE (Q:=fun _ s2=>∃ h4,AD B (X.env :: X.outer) a (.ref Ca) (.ref t) X.env.locals h4/\s'.heap.UpToSlots h4/\s2={ s' with heap:=h4 }) (by rw [<-uW]; exact I.ok.frames) A0.fr YE fun h4 held QD=>⟨h4,held,QD,rfl⟩) (FO _ _)) ?_ (fun _ _ z=>z);rintro _ s2 ⟨⟨h4,held,QD,rfl⟩,dk4⟩;obtain⟨m2,aaI,_⟩:=I2.loc;refine⟨m2,QD.ns aaI,fun h6 hs6 Jv _=>?_⟩;have kB:(e9 B [s.heap.objs.size]).StaysIn B:=fun b o q=>qO _ q;have WH:=PySem.W.heldW_base kB held;rw [<-uW] at WH;obtain⟨k1,k2,k3,oe4,vs4,T,oT,ts,q1,q2,q3,q4,q5,q6,q7,q8,q9⟩:=WH;have aC:a≠s.heap.objs.size:=fun z=>by
   obtain⟨m1,⟨o,_,_,ho,_⟩,_⟩:=I1.loc;have ho:s1.heap.get? s.heap.objs.size=some o:=ho;rw [z,ho] at hs; cases hs
  have TC:T≠s.heap.objs.size:=fun z=>by
   obtain⟨o,_,_,ho,hd,_⟩:=QD.ns aaI;have ho:h4.get? s.heap.objs.size=some o:=ho;rw [<-z,q7] at ho; cases ho;rw [q8] at hd; cases hd
  have Zj:∀ b,b≠s.heap.objs.size->h6.get? b=h4.get? b:=fun b hb=>hs6.2 b hb;have nC:∀ b o,(e9 B [s.heap.objs.size]).get? b=some o->b≠s.heap.objs.size:=fun b o q z=>by
   rw [z,oQ _ (.head _)] at q; cases q
  refine Rv (B:=e9 B [s.heap.objs.size]) (l:=X.stack) (s:={ s' with heap:=h6 }) (cls:=.ref Ca) (a0:=.ref t) (fun b o q=>(Zj b (nC b o q)).trans (k1 b o q))
   (frames_at k3 fun b o hb e _=>⟨o,(Zj b fun z=>frC (z ▸ hb)).trans e,rfl⟩) ⟨oe4,vs4,T,oT,ts,(Zj a aC).trans q1,q2,q3,q4,q5,q6,(Zj T TC).trans q7,q8,q9⟩ ?_
  intro h8 fl8 s8 f8 t8 nf8 dk8;have UN:∀ b o,s.heap.get? b=some o->b∉fp->∃ o1,s1.heap.get? b=some o1:=fun b o q hb=>I1.base.there b o q hb;have We:∀ b o,s'.heap.get? b=some o->b∉o4 X.stack->b≠s.heap.objs.size->(s1.heap.get? b≠none\/H' b≠none)->(e9 B [s.heap.objs.size]).get? b=some o:=fun b o e n z c =>
   dN _ (hB b o e n c) (by simpa using z)
  have frame:∀ b o,b∈o4 X.stack->s'.heap.get? b=some o->∃ sl,h8.get? b=some { o with slots:=sl }:=fun b o hb e=>by
   obtain⟨_,o2,e2,nf⟩:=I2.stack.mem (show b∈o4 X.stack from hb);rw [e] at e2; cases e2;obtain⟨sl,e4⟩:=QD b o e nf;exact⟨sl,nf8 b _ ((Zj b fun z=>frC (z ▸ hb)).trans e4) nf⟩
  have Y6:∀ b o,(e9 s.heap fp).get? b=some o->b∉fp/\s.heap.get? b=some o/\b≠s.heap.objs.size:=fun b o q=>by
   have e:=qO _ q;exact⟨fun hb=>(by rw [oQ _ hb] at q; cases q),e,bI (aN e)⟩
  have ne1:∀ {b:Addr} {o1:Obj},s1.heap.get? b=some o1->s1.heap.get? b≠none:=fun e=>by rw [e]; simp
  have go:∀ b o,s'.heap.get? b=some o->b∉o4 X.stack->b≠s.heap.objs.size->(s1.heap.get? b≠none\/H' b≠none)->h8.get? b=some o:=fun b o e n z c=>s8 b o (We b o e n z c);have tr:∀ b u,H' b=some u->b∉o4 X.stack/\b≠s.heap.objs.size:=fun b u q=>⟨fun hb=>(by rw [I2.AG b hb] at q; cases q),fun z=>by
   have f:H' s.heap.objs.size=none:=I2.free;rw [z,f] at q; cases q⟩
  obtain⟨oe8,he8,_⟩:=t8.there;have dk:oe8.dict=oe.dict:=((dk8.at ((Zj a aC).trans q1) he8)).trans (dk4.at he q1);refine hL.pass pins σ H { s with heap:=e9 s.heap fp } _ _ (Tr A0 I fun b hb=>(IE b hb).1) ⟨a,Ca,t,e9 B [s.heap.objs.size],H',rfl,I2.os,I2.bare,⟨fun b o q n hb _=>?_,fun b o q n hb _=>?_,fun b o q n _=>?_,fun b o q _=>?_,I2.base.pW,I2.base.o3,I2.base.sC,I2.base.sG⟩,fun b u q=>?_,fun b o e n c=>?_,⟨s8,k2,f8,.inl ⟨fl8,t8⟩⟩,ha,?_,oe8,he8,by rw [dk]; exact hEx⟩
  ·obtain⟨h1,h2,h3⟩:=Y6 b o q;obtain⟨o1,e1⟩:=UN b o h2 h1;exact go b o (I2.base.keep b o h2 n hb h1) hb h3 (.inl (ne1 e1))
  ·obtain⟨h1,h2,h3⟩:=Y6 b o q;obtain⟨sl,e⟩:=I2.base.slot b o h2 n hb h1;obtain⟨DH,e2⟩:=frame b _ hb e;exact⟨DH,e2⟩
  ·obtain⟨h1,h2,h3⟩:=Y6 b o q;exact I2.base.free b o h2 n h1
  ·obtain⟨h1,h2,h3⟩:=Y6 b o q;obtain⟨o',e⟩:=I2.base.there b o h2 h1;obtain⟨o1,e1⟩:=UN b o h2 h1;by_cases hb:b∈o4 X.stack
   ·obtain⟨DH,e2⟩:=frame b _ hb e; exact⟨_,e2⟩
   ·exact⟨o',go b o' e hb h3 (.inl (ne1 e1))⟩
  ·refine(I2.cO b u q).jo (fun c v hc e=>?_) (fun b r=>r) (fun b xs r=>r);rcases hc with rfl | hc
   ·exact go c v e (tr c _ q).1 (tr c _ q).2 (.inr (by rw [q]; simp))
   ·exact go c v e (tr c _ hc).1 (tr c _ hc).2 (.inr (by rw [hc]; simp))
  ·have:∃ o1,s'.heap.get? b=some o1/\b≠s.heap.objs.size/\(s1.heap.get? b≠none\/H' b≠none):=by
    rcases c with c | c
    ·cases q:(e9 s.heap fp).get? b with
     | none=>exact absurd q c
     | some o0 =>
      obtain⟨h1,h2,h3⟩:=Y6 b o0 q;obtain⟨o',e'⟩:=I2.base.there b o0 h2 h1;obtain⟨o1,e1⟩:=UN b o0 h2 h1;exact⟨o',e',h3,.inl (ne1 e1)⟩
    ·cases q:H' b with
     | none=>exact absurd q c
     | some u =>
      obtain⟨o',e'⟩:=(I2.cO b u q).there;exact⟨o',e',(tr b u q).2,.inr (by simp)⟩
   obtain⟨o1,e1,z,c'⟩:=this;have x:=We b o1 e1 n z c';have:=s8 b o1 x;have e:h8.get? b=some o:=e;rw [e] at this; cases this;exact x
  ·cases q:(e9 s.heap fp).get? a with
   | none=>rfl
   | some o0 =>
    obtain⟨h1,h2,h3⟩:=Y6 a o0 q;obtain⟨o1,e1⟩:=UN a o0 h2 h1;rw [e1] at hs; cases hs
end
theorem OW{X:Cx}{scope:Scope}{tg elt iter:Expr}{ifs:List Expr}{pos:Pos}{m:Nat}{fr:List Nat}{wi:Qg}{g:A2}{c:Option y8}{te:fM}(N:List Str){sc:Scope}{XN:List Str}(A0:xX X)(hi:Qh X tg iter wi)(hg:∀ C s H fp,Oa (c7 X N scope C s H fp) tg g)(Sh:∀ C s H fp,V6 (c7 X N scope C s H fp) ifs c)(he:∀ C s H fp,gy (c7 X N scope C s H fp) elt te)
  (Yb:autoParam (X.env.scope=sc) Ar._auto_1) (Yw:autoParam (X.N=XN) Ar._auto_1) (hb:autoParam (xK N scope m fr sc XN=true) Ak._auto_1) (hc:autoParam (X.calm=true) Ar._auto_1) (hs:autoParam (∀ x,jm iter X.env x=pure x) Ai._auto_1):gy X (.ListComp elt [⟨tg,iter,ifs,0⟩] scope pos) (S9 m fr wi g c te) :=
 DT id (fun _ _ _ _ _ _ L I h=>Vr A0 L I h) hc (yX Yb Yw hb) hi hg Sh he hs
end K2
end
section
namespace K2
open PySem PySem.W PySem.Spec PyProof.Rows PySem.Calls
theorem O6{p q:bx}{loose:List Str}{Xt:ao->Bool}{α:Type}{Yf:ao->α}{Ya:World->α}{N:Nat}(e:opening p=plainProg p.main.scope.names)(hN:Nat.ble 600 N=true)(f:∀ s,fenceModules? p s=some s)
  (h:∀ (w:World) (os:OsState),(topFrom treeTable p w N ⟨Qr w.params,Oq [],Ko,Qq,os⟩).map (fun s=>(openSeen q loose (A7 p.main.body) Xt true s,Yf s))=some (openGood q loose,Ya w)):LeftO p q loose Xt Yf Ya N:=fun w=>by
 obtain⟨⟨h',gs,d,k,os⟩,e1,e2⟩:=Option.map_eq_some_iff.mp (boot_open e hN f w);obtain⟨rfl,rfl,rfl,rfl⟩:h'=Qr w.params/\gs=Oq []/\d=Ko/\k=Qq:=by simpa using e2
 unfold openEnds;rw [e1];exact h w os
abbrev ML(l:OpenLaw)(q:bx):Bool:=chainsOk q&&opensWell l.row.prog&&(frees l.row.toRowW&&l.row.within.isEmpty)
abbrev W2(l:OpenLaw)(q:bx)(s:ao):Bool:=xlAt q [] s&&recOk l.row.records s
theorem Pj{l:OpenLaw}{q:bx}{loose:List Str}{K:Params->Frag}{as:List Addr}{d:DefRec}{N:Nat}(ok:l.wellSaid=true)(e:opening l.row.prog=plainProg l.row.prog.main.scope.names)(hN:Nat.ble 600 N=true)(f:∀ s,fenceModules? l.row.prog s=some s)(hK:∀ P,as=(K P).map (·.1))
  (h:∀ (w:World) (os:OsState),(topFrom treeTable l.row.prog w N ⟨Qr w.params,Oq [],Ko,Qq,os⟩).map (fun s=>(openSeen q loose (A7 l.row.prog.main.body) (W2 l q) true s,as.map s.heap.get?))=some (openGood q loose,(K w.params).map fun p=>some p.2))
  (hd:defOf q l.row.name=some (d,[])) (hp:l.row.prog.theDef l.row.name=some (d.params,d.body,d.scope)) (hk:kwWritten? d.params.kwonlyargs d.params.kw_defaults=some []) (hr:(!l.row.writes||l.row.records.isEmpty)=true) (ht:ML l q=true) (hb:l.row.prog.bare) (hw:l.row.toRowW.promised)
  (c:WalkO q loose (XL q []) (InK K) l.row.toRowW d [] fun f vs=>MC f vs):l.Holds :=
 holds_law ok fun k1=>holds_open (O6 (Yf:=Hook.obs (kHook K as hK)) (Ya:=Hook.val (kHook K as hK)) e hN f h) (Hook.of (kHook K as hK)) (Hook.keeps (kHook K as hK)) (fun s x=>xl_of s (Bool.and_eq_true_iff.mp x).1) XL.keeps hd hp hk (fun s x=>recFacts_of (Bool.and_eq_true_iff.mp x).2) hr k1 ht hb hw c
structure At(K:Frag)(x:Str)(st:Stmt)(f:Addr)(fd:aH):Prop where
 a:nsIn K aP x=some (some (.ref f))
 F:L2.p7 K x x st f fd
theorem At.mg{K:Frag}{h:Heap}{mg:Str->Option Value}{x:Str}{st:Stmt}{f:Addr}{fd:aH}(z:At K x st f fd)(X:K.In h)(G:h.Ns aP mg):mg x=some (.ref f):=mg_of X G z.a
theorem gX{K:Frag}{x:Str}{st:Stmt}{f:Addr}{oc:Value}{od an:Option Addr}{Nd:Array (Option Value)}{kV doc pm lD ct:Value}(a:autoParam (nsIn K aP x=some (some (.ref f))) Aq._auto_1)(l:autoParam (K.lookup f=some ⟨oc,od,.func (fnOf x x (L2.lb st) (L2.hX st) (L2.aX st) .none kV doc pm an lD ct),Nd⟩) Aq._auto_1)
  (c:autoParam (codeIn K lD x=true) Aq._auto_1) (k:autoParam (keepIn K (.ref f)=true) Aq._auto_1):At K x st f (fnOf x x (L2.lb st) (L2.hX st) (L2.aX st) .none kV doc pm an lD ct):=⟨a,L2.SG l c k⟩
structure vi(P:bx)(w:World)(K:Frag)(mg:Str->Option Value)(base:Heap)(CX:L2.Qk)(k:Nat)(f:Addr)(fd:aH)(x:Str)(ps:List Str)(sp:L2.Sp):Prop where
 ok:L2.fU P w K mg base CX k f fd ps sp
 mg:mg x=some (.ref f)
 kp:keepIn K (.ref f)=true
 bi:L2.Binds K fd ps []
end K2
end
section
namespace K2
namespace za
def ab(c:Int):Int:=if c < 0 then -c else c
variable {α:Type}
def rnd(f:Int->Int)(r:Int->List α):Nat->Int->List Int->List α->List α×List Int
 | 0,_,QJ,ps=>(ps,QJ)
 | k+1,p,QJ,ps=>if p∈QJ then (ps,QJ) else rnd f r k (f p) (QJ++[p]) (ps++r p)
def cls(f:Int->Int)(r:Int->List α):List Int->List (List α)->List Int->List (List α)
 | [],rows,_=>rows
 | t :: ts,rows,met=>if t∈met then cls f r ts rows met else
  let s:=rnd f r 4 t [] []
  cls f r ts (rows++[s.1]) (met++s.2)
end za
end K2
end
section
namespace K2
open PySem (Str)
open Enc (enc)
theorem vD{α:Type} [DecidableEq α] [Enc α]{G G1:Gp}{p:Nat}{xs:List α}{Q:DK}(l:kl G G1)(hp:G p=none)(h1:G1 p=some (.lst (xs.map enc)))(q:Q (enc xs) G):Qj G1 (.ref p) Q :=
 SD l hp h1 (Kc.same _) q
theorem i9{α:Type}{f:α->D}{g:A2}{body:i5}{ok:Gp->Prop}{xs:List α}{E:lu}{K:oO}{τ:iK}{G:Gp}(I:List α->iK->Gp->Prop)
  (h0:I [] τ G) (cO:∀ pre τ G,I pre τ G->ok G)
  (step:∀ (pre:List α) (x:α) (post:List α) τ G (N:iK->Gp->Prop),xs=pre++x :: post->I pre τ G->(∀ u6 G2,I (pre++[x]) u6 G2->N u6 G2) ->
   g E (f x) τ G fun sZ G1=>body E { K with nx:=N,ct:=N,bk:=K.nx } sZ G1)
  (fin:∀ τ G,I xs τ G->K.nx τ G):so g body ok (xs.map f) E K τ G:=by
 have main:∀ (post pre:List α) τ G,xs=pre++post->I pre τ G->so g body ok (post.map f) E K τ G:=by
  intro post;induction post with
  | nil =>
   intro pre τ G e h;rw [bV] at e;subst e;exact⟨cO _ _ _ h,fin _ _ h⟩
  | cons d post ih =>
   intro pre τ G e h;refine⟨cO _ _ _ h,?_⟩;exact step pre d post τ G _ e h fun u6 G2 h2=>ih (pre++[d]) u6 G2 (by rw [e,cW]; rfl) h2
 exact main xs [] τ G rfl h0
theorem qI{α:Type}{f:α->D}{g:A2}{c:Option y8}{e:fM}{ok:Gp->Prop}{xs:List α}{E:lu}{τ:iK}{G:Gp}{Q:List D->Gp->Prop}(I:List α->List D->iK->Gp->Prop)
  (h0:I [] [] τ G) (cO:∀ pre acc τ G,I pre acc τ G->ok G)
  (step:∀ (pre:List α) (x:α) (post:List α) (acc:List D) τ G (N:iK->List D->Gp->Prop),xs=pre++x :: post->I pre acc τ G->(∀ u6 y7 G2,I (pre++[x]) y7 u6 G2->N u6 y7 G2) ->
   g E (f x) τ G fun sZ G1=>match c with
    | none=>e E sZ G1 fun x G2=>N sZ (acc++[x]) G2
    | some c=>c E sZ G1 fun k G2=>if k=true then e E sZ G2 fun x G3=>N sZ (acc++[x]) G3 else N sZ acc G2)
  (fin:∀ acc τ G,I xs acc τ G->Q acc G):i4 g c e ok (xs.map f) E τ G [] Q:=by
 have main:∀ (post pre:List α) (acc:List D) τ G,xs=pre++post->I pre acc τ G->i4 g c e ok (post.map f) E τ G acc Q:=by
  intro post;induction post with
  | nil =>
   intro pre acc τ G e h;rw [bV] at e;subst e;exact⟨cO _ _ _ _ h,fin _ _ _ h⟩
  | cons d post ih =>
   intro pre acc τ G e' h;refine⟨cO _ _ _ _ h,?_⟩;have:=step pre d post acc τ G (fun u6 y7 G2=>i4 g c e ok (post.map f) E u6 G2 y7 Q) e' h fun u6 y7 G2 h2=>ih (pre++[d]) y7 u6 G2 (by rw [e',cW]; rfl) h2;cases c with
   | none=>exact this
   | some c=>exact this
 exact main xs [] [] τ G rfl h0
theorem xm{α:Type} [DecidableEq α] [Enc α]{xs:List α}{G:Gp}{R:List D->(Gp->Prop)->Gp->Prop}(h:R (xs.map enc) (fun _=>True) G):Vz (enc xs) G R:=h
theorem IA{α:Type} [DecidableEq α] [Enc α]{xs:List α}{G:Gp}{R:List D->(Gp->Prop)->Gp->Prop}(h:R (oG 0 (xs.map enc)) (fun _=>True) G):rH (enc xs) G R:=h
theorem TJ{n:Nat}(h:n<=1000):n<=SZ:=by unfold SZ; lia
theorem UA{n:Nat}(h:n<=1000):n < SZ:=by unfold SZ; lia
abbrev Rows:=List (List T3)
def T3.s(p:T3):T2:=⟨p.a,p.b⟩
namespace P
def jq:nR:=acP (fun rows:Rows=>rows.flatten.length<=1000) fun rows=>rows.flatten
def tJ:i5 :=
 (bY (cT (o6 aU) (aT 1))
 (bY (je (qx (ay 0)) (aT 2) (jx (uB CQ AP (ay 1) (az (ay 2) aU))))
 (cC (fF (ay 1)))))
theorem ug(ds:List D)(G:Gp)(Q:DK)(h:jq ds G Q fun _ _=>False):tJ (fun _ _=>False) (ends Q) (bL 3 ds) G:=by
 obtain⟨rows,rfl,hl,q⟩:=h;unfold tJ;simp only [ends,bL,aB,a7,ah,aq,bE,aZ,aY,dZ,cT,o6,aU,aT,ax,ar];refine⟨by decide,fun p hp=>?_⟩;refine fY (fun τ G'=>(∃ b,τ=[some (enc rows),some (.ref p),b])/\kl G G'/\G' p=some (.lst (rows.flatten.map enc))) ?_ ?_
 ·intro N hN;simp only [je,hW,ay,aa];refine xm ?_;refine i9 (xs:=rows) (fun pre τ G'=>(∃ b,τ=[some (enc rows),some (.ref p),b])/\kl G G'/\G' p=some (.lst (pre.flatten.map enc))) ⟨⟨_,rfl⟩,.new hp,aW⟩ (fun _ _ _ _=>trivial) ?_ ?_
  ·rintro pre r post τ G' N2 e ⟨⟨b,rfl⟩,l,gp⟩ Ah;have hlen:pre.flatten.length+r.length<=rows.flatten.length:=by
    rw [e]; simp only [jh,eB,aE]; lia
   simp only [aT,jx,uB,ay,ax,ar,af,aa,ph,gp,az,aU,zC,tV (IsL.enc r),true_and];refine⟨TJ (by simp only [ai]; lia),?_⟩;refine Ah _ _ ⟨⟨_,rfl⟩,l.put hp,?_⟩;rw [aW]; simp
  ·rintro τ G' ⟨⟨b,rfl⟩,l,gp⟩;exact hN _ _ ⟨⟨_,rfl⟩,l,gp⟩
 ·rintro _ G' ⟨⟨b,rfl⟩,l,gp⟩;simp only [cC,fF,ay,af,aa];exact vD l hp gp q
theorem yQ(p:T3):(enc p:D)=.tup [.int p.a,.int p.b,.int p.c]:=rfl
theorem at0{a:D}{r:List D}:sI (a :: r) 0=some a:=by
 rw [uE _ (by lia) (by simp)]; rfl
theorem WS{a b:D}{r:List D}:sI (a :: b :: r) 1=some b:=by
 rw [uE _ (by lia) (by simp; lia)]; rfl
theorem at2{a b c:D}{r:List D}:sI (a :: b :: c :: r) 2=some c:=by
 rw [uE _ (by lia) (by simp; lia)]; rfl
def names(rows:Rows):List Int:=MP ((rows.flatten.filter fun p=>p.b == 0).map (·.a))
theorem VU{a b c:D}:cut [a,b,c] none (some 2)=[a,b]:=rfl
theorem DI{κ α:Type} [DecidableEq κ] [Enc κ] [vL κ] [DecidableEq α] [Enc α]{a:Nat}{l:List (κ×α)}{k:κ}{v:α}{G:Gp}{Q:Gp->Prop}(h:G a=some (.mO (fK l)))(hl:l.length<=1000)(q:Q (dE G a (.mO (fK (Mr l k v))))):MU (.ref a) (enc k) (enc v) G Q:=by
 unfold MU;simp only [h];refine⟨lP l k,?_,by rw [U6]; exact q⟩;unfold fK; rw [ai]; exact UA hl
def lft(s:T2):T3:=⟨s.a,s.b,0⟩
end P
theorem M1{α:Type} [DecidableEq α] [Enc α]{neg:Bool}{x:α}{xs:List α}{G:Gp}{Q:DK}(hd:Enc.dep α<=7)(q:Q (.bl (if neg then !decide (x∈xs) else decide (x∈xs))) G):wQ neg (enc x) (enc xs) G Q:=by
 refine⟨enc x,xs.map enc,Enc.sn _ _ _ (by unfold SN; lia),tw G 7 hd xs,?_⟩;rw [GJ]; exact q
class MA (α:Type) [DecidableEq α] [Enc α] [cg α] where
 mn:∀ {x:D} {G:Gp} {xs:List α} {Q:DK},itemsOf x G=some (xs.map enc)->xs≠[]->(∀ m∈xs,(∀ y∈xs,BV m y=true)->Q (enc m) G)->Tf [x] G Q
theorem lR{α:Type} [DecidableEq α] [Enc α] [cg α]:∀ (r:List α) (a:α),r.foldl (fun m x=>if cg.lt x m=true then x else m) a∈a :: r/\∀ y∈a :: r,BV (r.foldl (fun m x=>if cg.lt x m=true then x else m) a) y=true
 | [],a=>⟨by simp,fun y hy=>by rw [List.mem_singleton.mp hy]; unfold BV; rw [zY,cg.RY]; rfl⟩
 | b :: r,a=>by
  rw [iP];by_cases c:cg.lt b a=true
  ·rw [if_pos c];obtain⟨h1,h2⟩:=lR r b;refine⟨aM _ h1,fun y hy=>?_⟩;rcases List.mem_cons.mp hy with rfl | hy
   ·refine yH _ _ _ (h2 b (by simp)) ?_;unfold BV;cases q:cg.lt y b with
    | false=>rfl
    | true=>have:=cg.trans _ _ _ q c; rw [cg.RY] at this; cases this
   ·exact h2 y hy
  ·rw [if_neg c];obtain⟨h1,h2⟩:=lR r a;refine⟨?_,fun y hy=>?_⟩
   ·rcases List.mem_cons.mp h1 with h | h
    ·rw [h]; simp
    ·exact aM _ (aM _ h)
   ·rcases List.mem_cons.mp hy with rfl | hy
    ·exact h2 y (by simp)
    ·rcases List.mem_cons.mp hy with rfl | hy
     ·refine yH _ _ _ (h2 a (by simp)) ?_;unfold BV; simpa using c
     ·exact h2 y (aM _ hy)
instance:MA Int where
 mn:=by
  intro x G xs Q hi lr k;cases xs with
  | nil=>exact absurd rfl lr
  | cons a r =>
   obtain⟨h1,h2⟩:=lR r a;refine .inl ⟨a :: r,_,hi,rfl,?_⟩;have:(fun (m x:Int)=>if x < m then x else m)=fun m x=>if cg.lt x m=true then x else m:=by
    funext m x;show (if x < m then x else m)=if decide (x < m)=true then x else m
    simp
   show Q (enc (r.foldl (fun m x=>if x < m then x else m) a)) G;rw [this];exact k _ h1 h2
theorem BP:∀ (x y:List Int),uT (fun a b=>decide (a < b)) x y=lexLt x y
 | [],[]=>rfl
 | [],_ :: _=>rfl
 | _ :: _,[]=>rfl
 | a :: x,b :: y=>by simp only [BQ,lexLt,BP x y]
instance:MA T3 where
 mn:=by
  intro x G xs Q hi lr k;cases xs with
  | nil=>exact absurd rfl lr
  | cons a r =>
   obtain⟨h1,h2⟩:=lR r a;have ei:itemsOf x G=some (((a :: r).map T3.l).map tI):=by rw [hi,eD]; rfl
   refine .inr ⟨(a :: r).map T3.l,_,ei,rfl,?_⟩;have:∀ (r:List T3) (a:T3),(r.map T3.l).foldl (fun m x=>if lexLt x m=true then x else m) a.l=(r.foldl (fun m x=>if cg.lt x m=true then x else m) a).l:=by
    intro r;induction r with
    | nil=>intro a; rfl
    | cons b r ih =>
     intro a;rw [aB,iP,iP];have e:(if lexLt b.l a.l=true then b.l else a.l)=(if cg.lt b a=true then b else a).l:=by
      have:cg.lt b a=lexLt b.l a.l:=BP _ _;rw [this];split <;> rfl
     rw [e]; exact ih _
   rw [this r a];exact k _ h1 h2
namespace P
theorem Ib{κ β:Type} [DecidableEq κ]{l:List (κ×β)}{k:κ}{v:β}(h:oM l k=some v):(k,v)∈l:=by
 unfold oM at h;cases q:l.find? (fun p=>decide (p.1=k)) with
 | none=>rw [q] at h; cases h
 | some p =>
  rw [q] at h;have h1:=List.find?_some q;have h2:=List.mem_of_find?_eq_some q;simp at h h1;rw [<-h,<-h1]; exact h2
variable {rows:Rows}
end P
namespace P
variable {rows:Rows}
end P
namespace yf
open K2.P
def zy:i5 :=
 (bY (dM (fk (a9 ZV (ay 1) (kj mV (az (ay 0) aU)))) (cC (fF (a9 qY (ay 0) (ay 1)))) bZ)
 (cC (fF (dC (.int 0)))))
def qJ(ns:List Int)(k:Int):Int:=ns.getD k.toNat 0
def eZ:nR:=fun ds G Q _=>∃ (ns:List Int) (k:Int),ds=[.fH (ns.map D.int),.int k]/\0<=k/\Q (.int (qJ ns k)) G
theorem zO(ds:List D)(G:Gp)(Q:DK)(h:eZ ds G Q fun _ _=>False):zy (fun _ _=>False) (ends Q) (bL 2 ds) G:=by
 obtain⟨ns,k,rfl,h0,q⟩:=h;unfold zy;simp only [bY,dM,bL,aB,a7,ah,aq,aZ,aY,cC,fF,a9,ay,aa,af,ends,Bu,bZ,dC,dD,kj,az,aU,JB,Fs,aR];split
 ·rename_i h;have h1:k < (ns.map D.int).length:=by simpa using h
  rw [uE _ h0 h1];simp only [iu];rw [ai] at h1;have e:qJ ns k=ns[k.toNat]:=by unfold qJ; rw [aO,aj (by lia)]; rfl
  rw [<-e]; exact fy q
 ·rename_i h;have h1:¬ k < (ns.map D.int).length:=by simpa using h
  rw [ai] at h1;have e:qJ ns k=0:=by unfold qJ; rw [aO,iC (by lia)]; rfl
  rw [<-e]; exact fy q
def wJ:i5 :=
 (cC (fF (qH (Jr "int" (ay 0)) (S8 (Jr "bool" (ay 0))))))
def c9:nR:=fun ds G Q _=>∃ i:Int,ds=[.int i]/\Q (.bl true) G
theorem xT(ds:List D)(G:Gp)(Q:DK)(h:c9 ds G Q fun _ _=>False):wJ (fun _ _=>False) (ends Q) (bL 1 ds) G:=by
 obtain⟨i,rfl,q⟩:=h;unfold wJ;simp only [cC,fF,bL,aB,a7,ah,aq,aZ,aY,ends,qG,Jq,pJ,ay,aa,Iw,aR];simpa using fy q
structure HR(G G':Gp)(p0:Nat)(as:List Nat)(rs:Rows):Prop where
 le:kl G G'
 fp:G p0=none
 gp:G' p0=some (.lst (as.map D.ref))
 np:p0∉as
 nd:as.Nodup
 fr:∀ a∈as,G a=none
 len:as.length=rs.length
 at':∀ (i a:Nat) (r:List T3),as[i]?=some a->rs[i]?=some r->G' a=some (.lst (r.map enc))
theorem HR.put{G G':Gp}{p0:Nat}{as:List Nat}{rs:Rows}(h:HR G G' p0 as rs){j a:Nat}{r':List T3}(ha:as[j]?=some a):HR G (dE G' a (.lst (r'.map enc))) p0 as (rs.set j r'):=by
 have hm:a∈as:=cH ha;have hj:j < as.length:=(List.getElem?_eq_some_iff.mp ha).1;refine⟨h.le.put (h.fr a hm),h.fp,?_,h.np,h.nd,h.fr,by rw [dJ]; exact h.len,fun i b r hb hr=>?_⟩
 ·rw [dR (by rintro rfl; exact h.np hm)]; exact h.gp
 ·by_cases e:i=j
  ·subst e;rw [ha] at hb; cases hb;rw [eG (by have:=h.len; lia)] at hr;cases hr;exact aW
  ·have:b≠a:=by
    rintro rfl;have h1:=List.getElem?_eq_some_iff.mp hb;have h2:=List.getElem?_eq_some_iff.mp ha;have pw:=List.pairwise_iff_getElem.mp h.nd;rcases Nat.lt_trichotomy i j with lt | eq | gt
    ·exact pw i j h1.1 h2.1 lt (h1.2.trans h2.2.symm)
    ·exact e eq
    ·exact pw j i h2.1 h1.1 gt (h2.2.trans h1.2.symm)
   rw [dR this];rw [eE (fun z=>e z.symm)] at hr;exact h.at' i b r hb hr
theorem HR.fz{G G':Gp}{p0:Nat}{as:List Nat}{rs:Rows}(h:HR G G' p0 as rs){Q:DK}(q:Q (enc rs) G):Qj G' (.ref p0) Q:=by
 refine SD h.le h.fp h.gp (ss:=rs.map enc) ?_ q;have:∀ (as:List Nat) (rs:Rows),as.length=rs.length->(∀ a∈as,G a=none)->(∀ (i a:Nat) (r:List T3),as[i]?=some a->rs[i]?=some r->G' a=some (.lst (r.map enc)))->Kc G' (fun a=>(G a).isNone) (as.map D.ref) (rs.map enc):=by
  intro as;induction as with
  | nil=>intro rs hl _ _; cases rs with
   | nil=>exact .nil
   | cons _ _=>cases hl
  | cons a as ih =>
   intro rs hl hf FZ;cases rs with
   | nil=>cases hl
   | cons r rs =>
    refine .cons (.ref (FZ 0 a r rfl rfl) (by simp [hf a (by simp)]) (Kc.same _)) ?_;exact ih rs (by simpa using hl) (fun b hb=>hf b (aM _ hb)) fun i b s h1 h2=>FZ (i+1) b s h1 h2
 exact this as rs h.len h.fr h.at'
theorem wo{x:T3}{r r':List T3}(hr:r'.Perm (x :: r)):∀ (rs:Rows) (j:Nat),rs[j]?=some r->(rs.set j r').flatten.Perm (x :: rs.flatten)
 | [],j,h=>by cases h
 | s :: rs,0,h=>by
  cases h;rw [ar,eB,eB];exact hr.append_right _
 | s :: rs,j+1,h=>by
  rw [ax,eB,eB];exact((wo hr rs j h).append_left s).trans List.perm_middle
theorem xl{G G2:Gp}{d:D}{ds:List D}{R:List D->(Gp->Prop)->Gp->Prop}(h:IsL G d ds)(l:kl G G2)(k:∀ ok:Gp->Prop,(∀ G',kl G G'->ok G')->R ds ok G2):Vz d G2 R:=by
 rcases h with rfl | ⟨a,rfl,e⟩
 ·exact k _ fun _ _=>trivial
 ·rw [AV (l a _ e)]; exact k _ fun G' l=>l a _ e
theorem iy{r:List T3}:∀ {rs:Rows},r∈rs->r.length<=rs.flatten.length
 | a :: rs,h=>by
  rw [eB,aE];rcases List.mem_cons.mp h with rfl | h
  ·lia
  ·have:=iy h; lia
theorem QM(x:T3)(r:List T3)(i:Nat):(r.take i++x :: r.drop i).Perm (x :: r):=by
 refine List.perm_middle.trans (.cons _ ?_);rw [x9]
end yf
namespace za
open K2.P
theorem uj{α:Type} [DecidableEq α] [Enc α]{neg:Bool}{x:α}{xs:List α}{G:Gp}{Q:DK}(hd:Enc.dep α<=7)(q:Q (.bl (if neg then !decide (x∈xs) else decide (x∈xs))) G):wQ neg (enc x) (.tup (xs.map enc)) G Q:=by
 refine⟨enc x,xs.map enc,Enc.sn _ _ _ (by unfold SN; lia),tw G 7 hd xs,?_⟩;rw [GJ]; exact q
end za
namespace za
open K2.P
def Ok(n:Int)(cs:List Int):Prop:=n<=3/\cs.length<=40/\∀ c∈cs,1<=ab c/\ab c < n
end za
namespace za
open K2.P
def Good(n:Int)(cs:List Int):Prop:=(1<=n/\n<=3)/\cs.length<=12/\∀ c∈cs,1<=ab c/\ab c < n
instance (n:Int) (cs:List Int):Decidable (Good n cs):=by unfold Good; exact inferInstance
end za
namespace za
open K2.P
def jd:List T3->T3
 | []=>⟨0,0,0⟩
 | a :: r=>r.foldl (fun m x=>if cg.lt x m=true then x else m) a
theorem kW{r:List T3}(h:r≠[]):jd r∈r:=by
 cases r with
 | nil=>exact absurd rfl h
 | cons a r=>exact(lR r a).1
theorem pF{r:List T3}{y:T3}(hy:y∈r):BV (jd r) y=true:=by
 cases r with
 | nil=>cases hy
 | cons a r=>exact(lR r a).2 y hy
def fZ(r:List T3):List T3:=r.drop (r.idxOf (jd r))++r.take (r.idxOf (jd r))
theorem Jz{x:D}{G:Gp}{r:List T3}{Q:DK}(hi:itemsOf x G=some (r.map enc))(lr:r≠[])(q:Q (enc (jd r)) G):Tf [x] G Q :=
 MA.mn hi lr fun m hm hl=>by
  have:m=jd r:=BU _ _ (hl _ (kW lr)) (pF hm);rw [this]; exact q
theorem BJ{x:D}{G:Gp}{r:List T3}{Q:DK}(ht:CQ x G)(hi:itemsOf x G=some (r.map enc))(lr:r≠[])(q:Q (.int ((r.idxOf (jd r):Nat):Int)) G):FJ x [enc (jd r)] G Q:=by
 refine⟨ht,r.map enc,enc (jd r),r.map enc,hi,Enc.sn G 8 _ (by decide),tw G 7 (by decide) r,?_⟩;have e:(r.map enc).findIdx? (ik · (enc (jd r)))=some (r.idxOf (jd r)):=by
  have hf:(fun y:T3=>ik (enc y) (enc (jd r)))=fun y=>y == jd r:=by
   funext y;rw [Enc.eqv];by_cases h:y=jd r <;> simp [h]
  rw [List.findIdx?_map];show List.findIdx? (fun y=>ik (enc y) (enc (jd r))) r=_;rw [hf];have hm:=kW lr;rw [List.idxOf];rw [List.findIdx?_eq_some_iff_findIdx_eq];exact⟨List.findIdx_lt_length.mpr ⟨_,hm,by simp⟩,rfl⟩
 rw [e]; exact q
end za
namespace P
variable {rows:Rows}
end P
namespace K3
open K2.P K2.yf
inductive Rl (G:Gp):List D->Rows->Prop
 | nil:Rl G [] []
 | cons {x:D} {r:List T3} {xs:List D} {rs:Rows}:IsL G x (r.map enc)->Rl G xs rs->Rl G (x :: xs) (r :: rs)
def Dq(G:Gp)(d:D)(rows:Rows):Prop:=∃ ds,IsL G d ds/\Rl G ds rows
theorem Rl.enc{G:Gp}:∀ (rows:Rows),Rl G (rows.map Enc.enc) rows
 | []=>.nil
 | r :: rs=>.cons (IsL.enc r) (Rl.enc rs)
theorem Dq.enc{G:Gp}(rows:Rows):Dq G (Enc.enc rows) rows:=⟨_,IsL.enc rows,Rl.enc rows⟩
theorem MW{G':Gp}:∀ (as:List Nat) (rs:Rows),as.length=rs.length->(∀ (i a:Nat) (r:List T3),as[i]?=some a->rs[i]?=some r->G' a=some (.lst (r.map enc)))->Rl G' (as.map D.ref) rs
 | [],[],_,_=>.nil
 | [],_ :: _,h,_=>by cases h
 | _ :: _,[],h,_=>by cases h
 | a :: as,r :: rs,h,FZ=>.cons (IsL.ref (FZ 0 a r rfl rfl)) (MW as rs (by simpa using h) fun i b s h1 h2=>FZ (i+1) b s h1 h2)
theorem HR.rw{G G':Gp}{p0:Nat}{as:List Nat}{rs:Rows}(h:HR G G' p0 as rs):Dq G' (.ref p0) rs:=⟨_,IsL.ref h.gp,MW as rs h.len h.at'⟩
theorem YC{g:A2}{body:i5}{ok:Gp->Prop}{ds:List D}{rows:Rows}{E:lu}{K:oO}{τ:iK}{G G0:Gp}(rl:Rl G0 ds rows)(I:Rows->iK->Gp->Prop)
  (h0:I [] τ G) (cO:∀ pre τ G,I pre τ G->ok G)
  (step:∀ (pre:Rows) (r:List T3) (post:Rows) (x:D) τ G (N:iK->Gp->Prop),rows=pre++r :: post->IsL G0 x (r.map enc)->I pre τ G->(∀ u6 G2,I (pre++[r]) u6 G2->N u6 G2) ->
   g E x τ G fun sZ G1=>body E { K with nx:=N,ct:=N,bk:=K.nx } sZ G1)
  (fin:∀ τ G,I rows τ G->K.nx τ G):so g body ok ds E K τ G:=by
 have main:∀ (post pre:Rows) (ds:List D) τ G,Rl G0 ds post->rows=pre++post->I pre τ G->so g body ok ds E K τ G:=by
  intro post;induction post with
  | nil =>
   intro pre ds τ G rl e h;cases rl;rw [bV] at e;subst e;exact⟨cO _ _ _ h,fin _ _ h⟩
  | cons r post ih =>
   intro pre ds τ G rl e h;cases rl with
   | cons hx rl =>
    refine⟨cO _ _ _ h,?_⟩;exact step pre r post _ τ G _ e hx h fun u6 G2 h2=>ih (pre++[r]) _ u6 G2 rl (by rw [e,cW]; rfl) h2
 exact main rows [] ds τ G rl rfl h0
def used(u:List Int)(n:Int):List Int:=if n∈u then u else u++[n]
def zJ(u:List Int)(ns:List Int):List Int:=ns.foldl used u
theorem QC(u:List Int)(n:Int):(used u n).length<=u.length+1:=by unfold used; split <;> simp
theorem uA:∀ (ns u:List Int),(zJ u ns).length<=u.length+ns.length
 | [],u=>by simp [zJ]
 | n :: ns,u=>by
  have:=uA ns (used u n);have h2:=QC u n;show (zJ (used u n) ns).length<=_;rw [ah]; lia
theorem NP(u a b:List Int):zJ u (a++b)=zJ (zJ u a) b:=by unfold zJ; rw [Dy]
theorem S5:∀ (ns u:List Int),u.Nodup->(zJ u ns).Nodup
 | [],u,h=>h
 | n :: ns,u,h=>by
  refine S5 ns (used u n) ?_;unfold used;split
  ·exact h
  ·rename_i hn;rw [ko];refine⟨h,by simp,fun a ha b hb e=>?_⟩;rw [iB] at hb;subst hb e;exact hn ha
theorem AX:∀ (ns u:List Int) (x:Int),x∈zJ u ns↔x∈u\/x∈ns
 | [],u,x=>by simp [zJ]
 | n :: ns,u,x=>by
  show x∈zJ (used u n) ns↔_;rw [AX ns];unfold used;split
  ·rename_i hn;constructor
   ·rintro(h | h)
    ·exact .inl h
    ·exact .inr (aM _ h)
   ·rintro(h | h)
    ·exact .inl h
    ·rcases List.mem_cons.mp h with rfl | h
     ·exact .inl hn
     ·exact .inr h
  ·rw [List.mem_append,iB,u5,or_assoc]
def kh(rows:Rows):List Int:=MP (zJ [] (rows.flatten.map (·.a)))
theorem U1{α:Type} [DecidableEq α] [Enc α]{neg:Bool}{x:α}{xs:List α}{a:Nat}{G:Gp}{Q:DK}(hd:Enc.dep α<=7)(h:G a=some (.lst (xs.map enc)))(q:Q (.bl (if neg then !decide (x∈xs) else decide (x∈xs))) G):wQ neg (enc x) (.ref a) G Q:=by
 unfold wQ;simp only [h];refine⟨_,_,Enc.sn G 8 x (by lia),tw G 7 hd xs,?_⟩;rw [GJ]; exact q
theorem X6{c:y8}{a b:i5}{E:lu}{K:oO}{τ:iK}{G:Gp}:dM c a b E K τ G=c E τ G fun k G1=>if k=true then a E K τ G1 else b E K τ G1:=rfl
def eS:nR:=fun ds G Q _=>∃ (d:D) (rows:Rows),ds=[d]/\Dq G d rows/\rows.flatten.length < 64/\Q (enc (kh rows)) G
def wL:i5 :=
 (bY (cT (o6 aU) (aT 1))
 (bY (je (qx (ay 0)) (aT 2) (je (qx (ay 2)) (aT 3) (dM (fk (a9 (wQ true) (a9 qY (ay 3) (dC (.int 0))) (ay 1))) (jx (uB CQ me (ay 1) (az (a9 qY (ay 3) (dC (.int 0))) aU))) bZ)))
 (cC (fF (kj AZ (az (ay 1) aU))))))
theorem xV(ds:List D)(G:Gp)(Q:DK)(h:eS ds G Q fun _ _=>False):wL (fun _ _=>False) (ends Q) (bL 4 ds) G:=by
 obtain⟨d,rows,rfl,⟨ds,hd,rl⟩,hl,q⟩:=h;unfold wL;simp only [ends,bL,aB,a7,ah,aq,bE,aZ,aY,dZ,cT,o6,aU,aT,ax,ar];refine⟨by decide,fun p hp=>?_⟩;refine fY (fun τ G'=>(∃ a b,τ=[some d,some (.ref p),a,b])/\kl G G'/\G' p=some (.lst ((zJ [] (rows.flatten.map (·.a))).map enc))) ?_ ?_
 ·intro N hN;simp only [je,hW,ay,aa];refine xl hd (kl.new hp) fun ok cO=>?_;refine YC rl (fun pre τ G'=>(∃ a b,τ=[some d,some (.ref p),a,b])/\kl G G'/\G' p=some (.lst ((zJ [] (pre.flatten.map (·.a))).map enc))) ⟨⟨_,_,rfl⟩,.new hp,aW⟩ (fun _ _ _ h=>cO _ h.2.1) ?_ ?_
  ·rintro pre r post x τ G' N2 e hx ⟨⟨a,b,rfl⟩,l,gp⟩ Ah;have hlen:pre.flatten.length+r.length<=rows.flatten.length:=by
    rw [e]; simp only [jh,eB,aE]; lia
   simp only [aT,je,ax,ar,hW,ay,af,aa];refine xl hx l fun ok2 Ye=>?_;refine i9 (xs:=r) (fun pp τ G'=>(∃ a b,τ=[some d,some (.ref p),a,b])/\kl G G'/\G' p=some (.lst ((zJ (zJ [] (pre.flatten.map (·.a))) (pp.map (·.a))).map enc))) ⟨⟨_,_,rfl⟩,l,gp⟩ (fun _ _ _ h=>Ye _ h.2.1) ?_ ?_
   ·rintro pp t pt τ G4 N3 e4 ⟨⟨a,b,rfl⟩,l4,gp4⟩ NG;have hpp:pp.length < r.length:=by have:=congrArg gO e4; simp at this; lia
    have hz:=uA (pp.map (·.a)) (zJ [] (pre.flatten.map (·.a)));have hz2:=uA (pre.flatten.map (·.a)) [];rw [ai] at hz hz2;rw [aq] at hz2;simp only [aT,yQ,ax,ar,X6,jx,uB,ay,af,aa,ph,az,a9,dC,aU,mB,ot,at0,bZ,dD];refine U1 (x:=t.a) (xs:=zJ (zJ [] (pre.flatten.map (·.a))) (pp.map (·.a))) (by decide) gp4 ?_;simp only [if_true,aR];have eu:zJ (zJ [] (pre.flatten.map (·.a))) ((pp++[t]).map (·.a))=used (zJ (zJ [] (pre.flatten.map (·.a))) (pp.map (·.a))) t.a:=by
     rw [c6,NP]; rfl
    by_cases hm:t.a∈zJ (zJ [] (pre.flatten.map (·.a))) (pp.map (·.a))
    ·simp only [hm,decide_true,bM,aw,if_false];refine NG _ _ ⟨⟨_,_,rfl⟩,l4,?_⟩;rw [eu]; unfold used; rw [if_pos hm]; exact gp4
    ·simp only [hm,decide_false,bN,if_true,gp4];refine⟨trivial,UA (by rw [ai]; lia),NG _ _ ⟨⟨_,_,rfl⟩,l4.put hp,?_⟩⟩;rw [aW,eu]; unfold used; rw [if_neg hm,c6]; rfl
   ·rintro τ G4 ⟨⟨a,b,rfl⟩,l4,gp4⟩;refine Ah _ _ ⟨⟨_,_,rfl⟩,l4,?_⟩;have:(pre++[r]).flatten.map (·.a)=pre.flatten.map (·.a)++r.map (·.a):=by simp
    rw [this,NP]; exact gp4
  ·rintro τ G' ⟨⟨a,b,rfl⟩,l,gp⟩;exact hN _ _ ⟨⟨_,_,rfl⟩,l,gp⟩
 ·rintro _ G' ⟨⟨a,b,rfl⟩,l,gp⟩;simp only [cC,fF,kj,az,ay,af,aa,aU];have hz:=uA (rows.flatten.map (·.a)) [];rw [ai,aq] at hz;refine Mp (IsL.ref gp) (by lia) fun p2 Qc=>?_;exact vD (l.trans (.new Qc)) (l.free Qc) aW q
end K3
namespace K3
open K2.P K2.yf
def fnx(n:Int):Int:=n % 999+1
def fit(n:Int):Nat->Int
 | 0=>n
 | k+1=>fnx (fit n k)
theorem Cd{n:Int}(h1:1<=n)(h2:n<=999):∀ k:Nat,fit n k=(n - 1+k) % 999+1
 | 0=>by show n=_; lia
 | k+1=>by
  show fnx (fit n k)=_;rw [Cd h1 h2 k];unfold fnx;lia
theorem vf:∀ (xs ys:List Int),xs.Nodup->(∀ x∈xs,x∈ys)->xs.length<=ys.length
 | [],_,_,_=>cu _
 | x :: xs,ys,hn,h=>by
  rw [List.nodup_cons] at hn;have:=vf xs (ys.erase x) hn.2 fun y hy=>(List.mem_erase_of_ne (show y≠x from fun z=>hn.1 (by rw [<-z]; exact hy))).mpr (h y (aM _ hy));have hx:=h x (by simp);rw [List.length_erase_of_mem hx] at this;have:=List.length_pos_of_mem hx;rw [ah]; lia
theorem SM{n:Int}{ns:List Int}(h1:1<=n)(h2:n<=999)(hl:ns.length<=500):∃ k,k<=ns.length/\fit n k∉ns:=by
 apply dS;intro Sf;have yL:∀ k,k<=ns.length->fit n k∈ns:=fun k hk=>dS fun z=>Sf ⟨k,hk,z⟩;have nd:((cA (ns.length+1)).map fun k=>fit n k).Nodup:=by
  refine List.pairwise_iff_getElem.mpr fun i j hi hj ND=>?_;simp only [ai,fA] at hi hj;rw [iu,iu,mK,mK,Cd h1 h2,Cd h1 h2];lia
 have:=vf _ ns nd fun x hx=>by
  obtain⟨k,hk,rfl⟩:=List.mem_map.mp hx;exact yL k (by have:=List.mem_range.mp hk; lia)
 simp at this;lia
theorem Lr(rows:Rows):(kh rows).length<=rows.flatten.length:=by
 unfold kh;rw [MO];have:=uA (rows.flatten.map (·.a)) [];rw [ai,aq] at this;lia
theorem Lq{rows:Rows}{n:Int}:n∈kh rows↔n∈rows.flatten.map (·.a):=by
 unfold kh;rw [(tv _).mem_iff,AX];simp
def kr:nR:=fun ds G Q _=>∃ (d:D) (rows:Rows) (c:Int),ds=[d,.int c]/\Dq G d rows/\rows.flatten.length < 64/\∀ m:Int,m∉rows.flatten.map (·.a)->1<=m->m<=999->Q (.int m) G
def zw:i5 :=
 (bY (cT (a9 qm (dC (.int 1)) (a9 nB (a9 nB (a9 Fq (ay 1) (dC (.int 48271))) (dC (.int 1000003))) (dC (.int 999)))) (aT 2))
 (bY (S7 (fk (a9 (wQ false) (ay 2) (cZ eS (az (ay 0) aU)))) (cT (a9 qm (a9 nB (ay 2) (dC (.int 999))) (dC (.int 1))) (aT 2)))
 (cC (fF (ay 2)))))
theorem zN(ds:List D)(G:Gp)(Q:DK)(h:kr ds G Q fun _ _=>False):zw (fun _ _=>False) (ends Q) (bL 3 ds) G:=by
 obtain⟨d,rows,c,rfl,hd,hl,q⟩:=h;unfold zw;simp only [ends,bL,aB,a7,ah,aq,bE,aZ,aY,dZ,cT,a9,dC,ay,af,aa,aT,ax,ar,tM,fJ,ju];refine⟨.inr ⟨by decide,by decide⟩,by decide,by decide,?_⟩;have b1:1<=1+c * 48271 % 1000003 % 999:=by lia
 have b2:1+c * 48271 % 1000003 % 999<=999:=by lia
 generalize 1+c * 48271 % 1000003 % 999=n at *;have Yi:=Lr rows;refine fY (fun τ G'=>G=G'/\∃ m:Int,(m∉kh rows/\1<=m/\m<=999)/\τ=[some d,some (.int c),some (.int m)]) ?_ ?_
 ·intro N hN;obtain⟨k,hk,si⟩:=SM (ns:=kh rows) b1 b2 (by lia);have main:∀ (j:Nat),j<=k->Hr (fk (a9 (wQ false) (ay 2) (cZ eS (az (ay 0) aU)))) (cT (a9 qm (a9 nB (ay 2) (dC (.int 999))) (dC (.int 1))) (aT 2)) (j+1) (fun _ _=>False) { ends Q with nx:=N } [some d,some (.int c),some (.int (fit n (k - j)))] G:=by
   intro j;induction j with
   | zero =>
    intro _;show Hr _ _ (0+1) _ _ _ _;rw [Hr];simp only [cT,a9,ay,af,aa,dC,aT,ends,ax,ar,fJ,ju,dD,cZ,az,aU];refine⟨d,rows,rfl,hd,hl,?_⟩;refine M1 (x:=fit n (k - 0)) (by decide) ?_;simp only [aw,Nat.sub_zero,si,decide_false,bN,if_false,aR];have:=Cd b1 b2 k;exact hN _ _ ⟨rfl,_,⟨si,by lia,by lia⟩,rfl⟩
   | succ j ih =>
    intro hj;rw [Hr];simp only [cT,a9,ay,af,aa,dC,aT,ends,ax,ar,fJ,ju,dD,cZ,az,aU];refine⟨d,rows,rfl,hd,hl,?_⟩;refine M1 (x:=fit n (k - (j+1))) (by decide) ?_;have hb:=Cd b1 b2 (k - (j+1));by_cases hm:fit n (k - (j+1))∈kh rows
    ·simp only [aw,hm,decide_true,bM,if_false,aR,if_true];refine⟨by decide,?_⟩;have e:fit n (k - (j+1)) % 999+1=fit n (k - j):=by
      rw [show k - j=(k - (j+1))+1 by lia]; rfl
     rw [e];exact ih (by lia)
    ·simp only [aw,hm,decide_false,bN,if_false,aR];exact hN _ _ ⟨rfl,_,⟨hm,by lia,by lia⟩,rfl⟩
  have:=main k (aK _);rw [oW] at this;exact⟨k+1,this⟩
 ·rintro _ _ ⟨rfl,m,⟨m1,m2,m3⟩,rfl⟩;simp only [cC,fF,ay,af,aa];exact fy (q m (fun z=>m1 (Lq.mpr z)) m2 m3)
def ins(r:List T3)(k:Nat)(p:T3):List T3:=r.take k++p :: r.drop k
theorem B2(r:List T3)(k:Nat)(p:T3):(ins r k p).Perm (p :: r):=QM p r k
theorem FR(r:List T3)(k:Nat)(p:T3):(r.map enc).take k++enc p :: (r.map enc).drop k=(ins r k p).map (enc:T3->D):=by
 unfold ins; rw [c6,aB,List.map_take,List.map_drop]
theorem HR.at_{G G':Gp}{p0:Nat}{as:List Nat}{rs:Rows}(h:HR G G' p0 as rs){j:Int}(j1:0<=j)(j2:j < rs.length):∃ a r,as[j.toNat]?=some a/\rs[j.toNat]?=some r/\G' a=some (.lst (r.map enc))/\sI (as.map D.ref) j=some (.ref a):=by
 have hj:j.toNat < as.length:=by have:=h.len; lia
 refine⟨as[j.toNat],rs[j.toNat]'(by lia),aj hj,aj _,h.at' _ _ _ (aj hj) (aj _),?_⟩;rw [uE _ j1 (by rw [ai]; have:=h.len; lia),iu]
end K3
namespace AB
open K2.P
open K2.za (fZ jd)
abbrev Cs:=List Rows
def ap1(a:Rows)(x:List T3):Rows:=a++[x]
def pk1(m:List (List T3))(a:Rows):Cs:=m.map (ap1 a)
def pick(ls:List (List (List T3))):Cs:=ls.foldl (fun acc m=>acc.flatMap (pk1 m)) [[]]
end AB
namespace AB
open K2.P
open K2.za (fZ jd)
abbrev M:=List (Int×Int)
def rn1(m:M)(t:T3):T3:=⟨(oM m t.a).getD 0,t.b,t.c⟩
def ren(m:M)(r:List T3):List T3:=r.map (rn1 m)
def TL(r:List T3)(k:Nat):List T3:=r.drop k++r.take k
def abo(r:List T3):List (List T3):=(cA (max 1 r.length)).map (TL r)
theorem Xq{r:List T3}{k:Nat}{G:Gp}{Q:DK}{d:D}(hd:IsL G d (r.map enc))(hk:k<=r.length)(hl:r.length<=1000)(q:Q (enc (TL r k)) G) :
  Ra d (some (k:Int)) none G fun x G1=>Ra d none (some (k:Int)) G1 fun y G2=>qm x y G2 fun z G3=>Qj G3 z Q:=by
 refine Fp hd ?_;rw [uC,Jt r k hk];intro p hp;refine Fp (hd.mono (.new hp)) ?_;rw [uC,Ta r k hk];intro p2 Qc;have Yh:p≠p2:=fun z=>by rw [<-z,aW] at Qc; cases Qc
 have g1:dE (dE G p (.lst ((r.drop k).map enc))) p2 (.lst ((r.take k).map enc)) p=some (.lst ((r.drop k).map enc)):=by rw [dR Yh,aW]
 have gl:kl G (dE (dE G p (.lst ((r.drop k).map enc))) p2 (.lst ((r.take k).map enc))):=(kl.new hp).trans (.new Qc);show GK _ _ _ _;unfold GK;rw [tV (IsL.ref (ds:=(r.drop k).map enc) g1),tV (IsL.ref (ds:=(r.take k).map enc) aW)];refine⟨TJ (by simp; lia),fun p3 Sb=>?_⟩;refine vD (xs:=TL r k) (gl.trans (.new Sb)) (gl.free Sb) ?_ q;rw [aW];unfold TL;rw [c6]
def adG(m:M)(n:Int):M:=if (oM m n).isSome=true then m else Mr m n ((m.length:Int)+1)
def met(L:List T3):M:=L.foldl (fun m t=>adG m t.a) []
end AB
namespace AB
open K2.P
open K2.za (fZ jd kW pF)
theorem UK{r a b:List T3}{x:T3}(hx:x=jd r)(e:r=a++x :: b)(hn:x∉a):fZ r=x :: b++a:=by
 have hi:r.idxOf (jd r)=a.length:=by
  rw [<-hx,e,List.idxOf_append,if_neg hn,List.idxOf_cons_self]; simp
 unfold fZ;rw [hi,e,List.drop_left,List.take_left]
def chs(rows:Rows):Cs:=pick (rows.map abo)
def sm(rows:Rows):Rows:=(rows.map (ren (met rows.flatten))).map fZ
def bi(rows:Rows):Nat:=bst (fun i j=>cg.lt (sm ((chs rows).getD i [])) (sm ((chs rows).getD j []))) ((chs rows).length - 1)
end AB
namespace AB
open K2.P
open K2.za (fZ jd kW pF)
def tp(c:Rows):D:=.tup [enc (sm c),.vR (fK (met c.flatten))]
end AB
namespace yf
open K2.P
variable {rows:Rows}
end yf
namespace yf
open K2.P
variable {rows:Rows}
def z3:T3:=⟨0,0,0⟩
theorem Tp{r:List T3}{k:Nat}(h:k < r.length):sI (r.map (enc:T3->D)) (0+(k:Int))=some (enc (r.getD k z3)):=by
 rw [uE _ (by lia) (by rw [ai]; lia),iu];congr 2;rw [aO,aj h];show r[(0+(k:Int)).toNat]=r[k];congr 1; lia
end yf
namespace AB
open K2.P
open K2.za (fZ jd kW pF)
open K2.yf (c9 eZ z3 Tp)
def Vp(x y:T3):Bool:=lexLt [x.a,x.b] [y.a,y.b]
theorem w8{x y:T3}:Vp x y=true↔x.a < y.a\/(x.a=y.a/\x.b < y.b):=by
 unfold Vp;simp only [lexLt];by_cases h:x.a=y.a
 ·rw [if_pos h];by_cases h2:x.b=y.b
  ·rw [if_pos h2]; simp; lia
  ·rw [if_neg h2]; simp; lia
 ·rw [if_neg h]; simp; lia
theorem Vo{x y:T3}:cg.lt x y=true↔x.a < y.a\/(x.a=y.a/\(x.b < y.b\/(x.b=y.b/\x.c < y.c))):=by
 show uT (fun a b:Int=>decide (a < b)) [x.a,x.b,x.c] [y.a,y.b,y.c]=true↔_;simp only [uT];by_cases h:x.a=y.a
 ·by_cases h2:x.b=y.b
  ·by_cases h3:x.c=y.c
   ·simp [h,h2,h3]
   ·simp [h,h2,h3]
  ·simp [h,h2]
 ·simp [h]
theorem abp{r:List T3}{k:Nat}(h:k < r.length):sI (r.map (enc:T3->D)) (k:Int)=some (enc (r.getD k z3)):=by
 have:=Tp h;rw [Int.zero_add] at this; exact this
theorem getD_mem{r:List T3}{k:Nat}(h:k < r.length):r.getD k z3∈r:=by
 rw [aO,aj h]; exact cb h
theorem OM{r:List T3}(nd:(r.map T3.s).Nodup){b:Nat}(hb:b < r.length)(h:∀ k,k < r.length->Vp (r.getD k z3) (r.getD b z3)=false):TL r b=fZ r:=by
 have lr:r≠[]:=fun z=>by rw [z] at hb; exact absurd hb (dh _)
 have hx:r.getD b z3=jd r:=by
  refine BU _ _ ?_ (pF (getD_mem hb));unfold BV;cases hz:cg.lt (jd r) (r.getD b z3) with
  | false=>rfl
  | true =>
   exfalso;obtain⟨j,hj,ej⟩:=fu (kW lr);have h1:=h j hj;have e1:r.getD j z3=jd r:=by rw [aO,aj hj]; exact ej
   rw [e1] at h1;have h2:=Vo.mp hz;have h3:¬ ((jd r).a < (r.getD b z3).a\/((jd r).a=(r.getD b z3).a/\(jd r).b < (r.getD b z3).b)):=fun z=>by rw [w8.mpr z] at h1; cases h1
   have es:(jd r).s=(r.getD b z3).s:=by
    unfold T3.s;have h4:(jd r).a=(r.getD b z3).a:=by lia
    have h5:(jd r).b=(r.getD b z3).b:=by lia
    rw [h4,h5]
   have ejb:j=b:=by
    by_cases hjb:j=b
    ·exact hjb
    ·exfalso;have pw:=List.pairwise_iff_getElem.mp nd;have g:∀ k (hk:k < r.length),(r.map T3.s)[k]'(by rw [ai]; exact hk)=(r.getD k z3).s:=fun k hk=>by
      rw [iu,aO,aj hk]; rfl
     rcases Nat.lt_or_gt_of_ne hjb with q | q
     ·refine pw j b (by rw [ai]; exact hj) (by rw [ai]; exact hb) q ?_;rw [g j hj,g b hb,e1]; exact es
     ·refine pw b j (by rw [ai]; exact hb) (by rw [ai]; exact hj) q ?_;rw [g j hj,g b hb,e1]; exact es.symm
   subst ejb;rw [e1,cg.RY] at hz;cases hz
 have ndr:r.Nodup:=by
  refine List.Pairwise.imp ?_ (List.pairwise_map.mp nd);intro a b h e;exact h (congrArg _ e)
 have e:r=r.take b++r.getD b z3 :: r.drop (b+1):=by
  conv=>lhs; rw [<-x9 b r]
  rw [cq hb,aO,aj hb]; rfl
 have hn:r.getD b z3∉r.take b:=fun z=>by
  have hnd:=ndr;rw [e,ko] at hnd;exact hnd.2.2 _ z _ bH rfl
 rw [UK hx e hn];unfold TL;rw [cq hb];congr 1;rw [aO,aj hb]; rfl
def zu:i5 :=
 (bY (cT (dC (.int 0)) (aT 1))
 (bY (je (Iz (kj mV (az (ay 0) aU))) (aT 2) (dM (fk (a9 ZV (Cm (a9 qY (ay 0) (ay 2)) cL (gL (dC (.int 2)))) (Cm (a9 qY (ay 0) (ay 1)) cL (gL (dC (.int 2)))))) (cT (ay 2) (aT 1)) bZ))
 (cC (fF (a9 qm (Cm (ay 0) (gL (ay 1)) cL) (Cm (ay 0) cL (gL (ay 1))))))))
def mw:nR:=fun ds G Q _=>∃ r:List T3,ds=[enc r]/\(r.length<=1000/\(r.map T3.s).Nodup)/\Q (enc (fZ r)) G
theorem zM(ds:List D)(G:Gp)(Q:DK)(h:mw ds G Q fun _ _=>False):zu (fun _ _=>False) (ends Q) (bL 3 ds) G:=by
 obtain⟨r,rfl,⟨hl,nd⟩,q⟩:=h;unfold zu;simp only [ends,bL,aB,a7,ah,aq,bE,aZ,aY,dZ,cT,dC,aT,ax,ar];refine fY (fun τ G'=>G=G'/\∃ (b:Nat) (x:Option D),τ=[some (enc r),some (.int b),x]/\b<=r.length/\TL r b=fZ r) ?_ ?_
 ·intro N hN;simp only [je,xk,kj,az,ay,aa,aU];refine iJ (IsL.enc r) ?_;simp only [ai,yt];refine⟨by lia,by lia,?_⟩;unfold kR;refine i9 (xs:=cA (r.length:Int).toNat) (f:=fun i:Nat=>D.int (0+(i:Int))) (fun ks τ G'=>G=G'/\∃ (b:Nat) (x:Option D),τ=[some (enc r),some (.int b),x]/\(b < r.length\/(r=[]/\b=0))/\∀ k∈ks,Vp (r.getD k z3) (r.getD b z3)=false) ⟨rfl,0,_,rfl,by cases r <;> simp,by simp⟩ (fun _ _ _ _=>trivial) ?_ ?_
  ·rintro ks k post τ G' N2 e ⟨rfl,b,x,rfl,hb,hks⟩ Ah;have hk:k < r.length:=by
    have:k∈cA (r.length:Int).toNat:=by rw [e]; simp
    have:=List.mem_range.mp this; lia
   have hb:b < r.length:=hb.resolve_right fun z=>by rw [z.1] at hk; exact absurd hk (dh _)
   simp only [aT,dM,Int.zero_add,ax,ar,cT,ay,af,aa,bZ,dD,a9,Cm,cL,gV,dC,fx];refine yv (IsL.enc r) (abp hk) ?_;simp only [yQ,ui,ah,aq,VU];refine⟨by decide,?_⟩;refine yv (IsL.enc r) (abp hb) ?_;simp only [yQ,ui,ah,aq,VU];refine⟨by decide,?_⟩;refine⟨[(r.getD k z3).a,(r.getD k z3).b],[(r.getD b z3).a,(r.getD b z3).b],rfl,rfl,?_⟩;simp only [aR];show if Vp (r.getD k z3) (r.getD b z3)=true then _ else _
   cases hc:Vp (r.getD k z3) (r.getD b z3) with
   | true =>
    simp only [if_true];refine Ah _ _ ⟨rfl,k,_,rfl,.inl hk,fun j hj=>?_⟩;rcases List.mem_append.mp hj with hj | hj
    ·cases hz:Vp (r.getD j z3) (r.getD k z3) with
     | false=>rfl
     | true =>
      have h1:=w8.mp hz;have h2:=w8.mp hc;have h3:Vp (r.getD j z3) (r.getD b z3)=true:=w8.mpr (by lia);rw [hks j hj] at h3; cases h3
    ·obtain rfl:=List.mem_singleton.mp hj;cases hz:Vp (r.getD j z3) (r.getD j z3) with
     | false=>rfl
     | true=>have:=w8.mp hz; lia
   | false =>
    simp only [aw,if_false];refine Ah _ _ ⟨rfl,b,_,rfl,.inl hb,fun j hj=>?_⟩;rcases List.mem_append.mp hj with hj | hj
    ·exact hks j hj
    ·obtain rfl:=List.mem_singleton.mp hj;exact hc
  ·rintro τ G' ⟨rfl,b,x,rfl,hb,hks⟩;refine hN _ _ ⟨rfl,b,x,rfl,?_⟩;rcases hb with hb | ⟨rfl,rfl⟩
   ·exact⟨by lia,OM nd hb fun k hk=>hks k (List.mem_range.mpr (by lia))⟩
   ·exact⟨aK _,rfl⟩
 ·rintro _ _ ⟨rfl,b,x,rfl,hb,e⟩;simp only [cC,fF,a9,Cm,ay,aa,cL,gV,af,fx];refine Xq (IsL.enc r) hb hl ?_;rw [e]; exact q
def wK:i5 :=
 (cC (fF (lg 1 [] (qx (ay 0)) (aT 0) none (cZ mw (az (ay 0) aU)))))
def gG:nR:=fun ds G Q _=>∃ rows:Rows,ds=[enc rows]/\(rows.length<=1000/\∀ r∈rows,r.length<=1000/\(r.map T3.s).Nodup)/\Q (enc (rows.map fZ)) G
theorem xU(ds:List D)(G:Gp)(Q:DK)(h:gG ds G Q fun _ _=>False):wK (fun _ _=>False) (ends Q) (bL 1 ds) G:=by
 obtain⟨rows,rfl,⟨hl,hr⟩,q⟩:=h;unfold wK;simp only [cC,fF,lg,bL,aB,a7,ah,aq,aZ,aY,ends,hW,ay,aa];refine xm ⟨TJ (by rw [ai]; exact hl),?_⟩;refine qI (xs:=rows) (fun pre acc τ G'=>G=G'/\acc=(pre.map fZ).map enc/\∃ x,τ=[x]) ⟨rfl,rfl,_,rfl⟩ (fun _ _ _ _ _=>trivial) ?_ ?_
 ·rintro pre r post acc τ G' N e ⟨rfl,rfl,x,rfl⟩ hN;simp only [aT,cZ,az,ay,ar,aa,aU];refine⟨r,rfl,hr r (by rw [e]; simp),hN _ _ _ ⟨rfl,by simp,_,rfl⟩⟩
 ·rintro acc τ G' ⟨rfl,rfl,x,rfl⟩ p hp;exact vD (xs:=rows.map fZ) (.new hp) hp aW q
end AB
namespace AB
open K2.P
open K2.za (fZ jd kW pF)
open K2.yf (c9 eZ z3 qJ HR HR.fz)
theorem US{r:List T3}{k:Nat}{G:Gp}{Q:DK}{d:D}(hd:IsL G d (r.map enc))(hk:k<=r.length)(hl:r.length<=1000)(q:∀ p G1,kl G G1->G p=none->G1 p=some (.lst ((TL r k).map enc))->Q (.ref p) G1) :
  Ra d (some (k:Int)) none G fun x G1=>Ra d none (some (k:Int)) G1 fun y G2=>qm x y G2 Q:=by
 refine Fp hd ?_;rw [uC,Jt r k hk];intro p hp;refine Fp (hd.mono (.new hp)) ?_;rw [uC,Ta r k hk];intro p2 Qc;have Yh:p≠p2:=fun z=>by rw [<-z,aW] at Qc; cases Qc
 have g1:dE (dE G p (.lst ((r.drop k).map enc))) p2 (.lst ((r.take k).map enc)) p=some (.lst ((r.drop k).map enc)):=by rw [dR Yh,aW]
 have gl:kl G (dE (dE G p (.lst ((r.drop k).map enc))) p2 (.lst ((r.take k).map enc))):=(kl.new hp).trans (.new Qc);show GK _ _ _ _;unfold GK;rw [tV (IsL.ref (ds:=(r.drop k).map enc) g1),tV (IsL.ref (ds:=(r.take k).map enc) aW)];refine⟨TJ (by simp; lia),fun p3 Sb=>?_⟩;refine q _ _ (gl.trans (.new Sb)) (gl.free Sb) ?_;rw [aW];unfold TL;rw [c6]
end AB
namespace AB
open K2.P
open K2.za (fZ jd kW pF)
open K2.yf (c9 eZ z3 qJ HR HR.fz)
open K2.K3 (kh eS)
theorem Sv{G G1:Gp}{p:Nat}{o:GO}(l:kl G G1):kl (dE G p o) (dE G1 p o):=fun a ob e=>by
 by_cases ha:a=p
 ·subst ha; rw [aW] at e ⊢; exact e
 ·rw [dR ha] at e ⊢; exact l a ob e
theorem rJ{G G1:Gp}{p0 p1:Nat}{as:List Nat}{rs:Rows}{o:GO}(h:HR G G1 p0 as rs)(f:G1 p1=none):HR (dE G p1 o) (dE G1 p1 o) p0 as rs:=by
 have n0:p0≠p1:=by rintro rfl; rw [h.gp] at f; cases f
 have na:∀ a∈as,a≠p1:=fun a ha=>by
  rintro rfl;obtain⟨i,hi⟩:=kE ha;have h1:i < rs.length:=by rw [<-h.len]; exact(List.getElem?_eq_some_iff.mp hi).1
  rw [h.at' i a rs[i] hi (aj h1)] at f; cases f
 exact⟨Sv h.le,by rw [dR n0]; exact h.fp,by rw [dR n0]; exact h.gp,h.np,h.nd,fun a ha=>by rw [dR (na a ha)]; exact h.fr a ha,h.len,fun i a r h1 h2=>by
  rw [dR (na a (cH h1))]; exact h.at' i a r h1 h2⟩
theorem pG{G B G1:Gp}{p0:Nat}{as:List Nat}{rs:Rows}(l:kl G B)(h:HR B G1 p0 as rs):HR G G1 p0 as rs :=
 ⟨l.trans h.le,l.free h.fp,h.gp,h.np,h.nd,fun a ha=>l.free (h.fr a ha),h.len,h.at'⟩
end AB
namespace AB
open K2.P
open K2.za (fZ jd kW pF)
open K2.yf (c9)
open K2.K3 (kh eS)
variable {rows c:Rows}
end AB
namespace Qi
open K2.P
open K2.AB (M met ren rn1 TL abo chs sm bi)
open K2.za (fZ jd Jz BJ)
open K2.yf (HR HR.fz)
open K2.K3 (Rl MW)
theorem NB{G G1 G2:Gp}{p:Nat}{as:List Nat}{rs:Rows}(h:HR G G1 p as rs)(l:kl G1 G2):HR G G2 p as rs :=
 ⟨h.le.trans l,h.fp,l _ _ h.gp,h.np,h.nd,h.fr,h.len,fun i a r h1 h2=>l _ _ (h.at' i a r h1 h2)⟩
theorem ZO{G:Gp}:∀ {ds:List D} {rs:Rows},Rl G ds rs->Sn G 8 (.fH ds) (.fH (rs.map enc)):=by
 intro ds rs h;induction h with
 | nil=>exact .HG
 | cons hx _ ih =>
  refine .zB ?_ ih;rcases hx with rfl | ⟨a,rfl,e⟩
  ·exact tw G 6 (by decide) _
  ·exact .ref e (tw G 6 (by decide) _)
theorem zh{G G1:Gp}{p:Nat}{as:List Nat}{rs:Rows}(h:HR G G1 p as rs):Sn G1 8 (.ref p) (enc rs):=.ref h.gp (ZO (MW as rs h.len h.at'))
def DP:i5 :=
 (bY (dM (lC (fk (ay 0))) (cC (fF (o6 aU))) bZ)
 (bY (cT (uB CQ FJ (ay 0) (az (kj Tf (az (ay 0) aU)) aU)) (aT 1))
 (cC (fF (a9 qm (Cm (ay 0) (gL (ay 1)) cL) (Cm (ay 0) cL (gL (ay 1))))))))
def qh:nR:=fun ds G Q _=>∃ r:List T3,ds=[enc r]/\r.length<=1000/\∀ p,G p=none->Q (.ref p) (dE G p (.lst ((fZ r).map enc)))
theorem Ez(ds:List D)(G:Gp)(Q:DK)(h:qh ds G Q fun _ _=>False):DP (fun _ _=>False) (ends Q) (bL 2 ds) G:=by
 obtain⟨r,rfl,hl,q⟩:=h;unfold DP;refine fY (fun τ G'=>G=G'/\r≠[]/\τ=[some (enc r),none]) ?_ ?_
 ·intro N hN;simp only [dM,lC,bL,aB,a7,ah,aq,bE,aZ,aY,cC,fF,o6,aU,ends,bZ,dD,ay,aa];cases r with
  | nil=>exact⟨by decide,fun p hp=>SE (.new hp) hp aW (q p hp)⟩
  | cons a t=>exact hN _ _ ⟨rfl,by simp,rfl⟩
 ·rintro _ _ ⟨rfl,lr,rfl⟩;simp only [ends,dZ,cT,uB,ay,aa,az,kj,aU,aT,cC,fF,a9,Cm,ax,ar,cL,gV,af];refine⟨trivial,Jz rfl lr (BJ trivial rfl lr ?_)⟩;have hkl:r.idxOf (jd r)<=r.length:=List.idxOf_le_length;refine AB.US (IsL.enc r) hkl hl fun p G1 l f g=>?_;exact SE l f g (q p f)
def tH:i5 :=
 (cC (fF (lg 1 [] (qx (ay 0)) (aT 0) none (cZ qh (az (ay 0) aU)))))
def fX:nR:=fun ds G Q _=>∃ rows:Rows,ds=[enc rows]/\(rows.length<=1000/\∀ r∈rows,r.length<=1000)/\∀ p as G',HR G G' p as (rows.map fZ)->Q (.ref p) G'
theorem uf(ds:List D)(G:Gp)(Q:DK)(h:fX ds G Q fun _ _=>False):tH (fun _ _=>False) (ends Q) (bL 1 ds) G:=by
 obtain⟨rows,rfl,⟨hl,hr⟩,q⟩:=h;unfold tH;simp only [cC,fF,lg,bL,aB,a7,ah,aq,aZ,aY,ends,hW,ay,aa];refine xm ⟨TJ (by rw [ai]; exact hl),?_⟩;refine qI (xs:=rows) (fun pre acc τ G'=>(∃ a,τ=[a])/\∃ bs:List Nat,acc=bs.map D.ref/\bs.length=pre.length/\bs.Nodup/\(∀ a∈bs,G a=none)/\kl G G'/\∀ (i a:Nat) (r:List T3),bs[i]?=some a->pre[i]?=some r->G' a=some (.lst ((fZ r).map enc))) ⟨⟨_,rfl⟩,[],rfl,rfl,gZ,(fun a h=>by cases h),.refl _,fun i a r h=>by simp at h⟩ (fun _ _ _ _ _=>trivial) ?_ ?_
 ·rintro pre r post acc τ G' N e ⟨⟨a,rfl⟩,bs,rfl,hl,nd,fr,le,FZ⟩ hN;simp only [aT,cZ,az,ay,ar,aa,aU];refine⟨r,rfl,hr r (by rw [e]; simp),fun p hp=>?_⟩;have hnb:p∉bs:=fun z=>by
   obtain⟨i,hi⟩:=kE z;have h1:i < pre.length:=by rw [<-hl]; exact(List.getElem?_eq_some_iff.mp hi).1
   rw [FZ i p pre[i] hi (aj h1)] at hp; cases hp
  refine hN _ _ _ ⟨⟨_,rfl⟩,bs++[p],by simp,by simp [hl],?_,?_,le.trans (.new hp),?_⟩
  ·rw [ko];refine⟨nd,by simp,fun a h b hb e=>?_⟩;rw [iB] at hb;subst hb e;exact hnb h
  ·intro a h0;rcases List.mem_append.mp h0 with h | h
   ·exact fr a h
   ·rw [iB] at h; subst h; exact le.free hp
  ·intro i b s h1 h2;by_cases hi:i < bs.length
   ·rw [cm hi] at h1;rw [cm (by lia)] at h2;have:b≠p:=by rintro rfl; exact hnb (cH h1)
    rw [dR this];exact FZ i b s h1 h2
   ·rw [bA (by lia)] at h1 h2;have i0:i - bs.length=0:=by have:=(List.getElem?_eq_some_iff.mp h1).1; simp at this; lia
    rw [i0] at h1;rw [<-hl,i0] at h2;simp at h1 h2;subst h1 h2;exact aW
 ·rintro acc τ G5 ⟨⟨a',rfl⟩,bs,rfl,hl,nd,fr,le,FZ⟩ p3 Sb;refine fy (q p3 bs _ ⟨le.trans (.new Sb),le.free Sb,aW,fun z=>?_,nd,fr,by rw [ai]; exact hl,fun i b r h1 h2=>?_⟩)
  ·obtain⟨i,hi⟩:=kE z;have h1:i < rows.length:=by rw [<-hl]; exact(List.getElem?_eq_some_iff.mp hi).1
   rw [FZ i p3 rows[i] hi (aj h1)] at Sb; cases Sb
  ·rw [bP] at h2;obtain⟨r',WA,rfl⟩:=Option.map_eq_some_iff.mp h2;exact(kl.new Sb) _ _ (FZ i b r' h1 WA)
end Qi
namespace Qi
open K2.P
open K2.yf (HR HR.fz HR.put)
open K2.K3 (kh eS)
theorem NA{G G1:Gp}{p a:Nat}{as:List Nat}{rs:Rows}(h:HR G G1 p as rs)(f:G1 a=none):HR G (dE (dE G1 a (.lst [])) p (.lst ((as++[a]).map D.ref))) p (as++[a]) (rs++[[]]):=by
 have np:a≠p:=fun z=>by rw [z,h.gp] at f; cases f
 have na:a∉as:=fun z=>by
  obtain⟨i,hi⟩:=kE z;have h1:i < rs.length:=by rw [<-h.len]; exact(List.getElem?_eq_some_iff.mp hi).1
  rw [h.at' i a rs[i] hi (aj h1)] at f; cases f
 refine⟨((h.le.trans (.new f)).put h.fp),h.fp,aW,?_,?_,?_,by simp [h.len],fun i b r h1 h2=>?_⟩
 ·intro z;rcases List.mem_append.mp z with z | z
  ·exact h.np z
  ·exact np (List.mem_singleton.mp z).symm
 ·rw [ko];exact⟨h.nd,by simp,fun x hx y hy e=>na (by rw [<-List.mem_singleton.mp hy,<-e]; exact hx)⟩
 ·intro x hx;rcases List.mem_append.mp hx with hx | hx
  ·exact h.fr x hx
  ·rw [List.mem_singleton.mp hx]; exact h.le.free f
 ·have hl:=h.len;by_cases hi:i < as.length
  ·rw [cm hi] at h1;rw [cm (by lia)] at h2;have hb:=cH h1;rw [dR (by rintro rfl; exact h.np hb),dR (by rintro rfl; exact na hb)];exact h.at' i b r h1 h2
  ·rw [bA (by lia)] at h1 h2;have i0:i - as.length=0:=by have:=(List.getElem?_eq_some_iff.mp h1).1; simp at this; lia
   rw [i0] at h1;rw [<-hl,i0] at h2;simp at h1 h2;subst h1 h2;rw [dR np,aW]; rfl
def fl(c nm:Int)(t:T3):T3:=⟨t.a,t.b,if c % 9=7/\t.a=nm then -t.c else t.c⟩
end Qi
end K2
end
section
namespace K2
open PySem (Str)
namespace K4
def jn(c:Nat):List (List Nat)->List Nat
 | []=>[]
 | [x]=>x
 | x :: y :: r=>x++c :: jn c (y :: r)
theorem abj{c:Nat}:∀ {x y a b:List Nat},c∉x->c∉y->x++c :: a=y++c :: b->x=y/\a=b
 | [],[],a,b,_,_,h=>⟨rfl,by simpa using h⟩
 | [],y :: ys,a,b,_,hy,h=>by
  injection h with h1 h2
  exact absurd (by rw [h1]; exact bH) hy
 | x :: xs,[],a,b,hx,_,h=>by
  injection h with h1 h2
  exact absurd (by rw [<-h1]; exact bH) hx
 | x :: xs,y :: ys,a,b,hx,hy,h=>by
  injection h with h1 h2
  obtain⟨e1,e2⟩:=abj (fun z=>hx (aM _ z)) (fun z=>hy (aM _ z)) h2;exact⟨by rw [h1,e1],e2⟩
theorem RS{c:Nat}:∀ {xs ys:List (List Nat)},xs≠[]->ys≠[]->(∀ x∈xs,c∉x)->(∀ y∈ys,c∉y)->jn c xs=jn c ys->xs=ys
 | [],_,h,_,_,_,_=>absurd rfl h
 | _ :: _,[],_,h,_,_,_=>absurd rfl h
 | [x],[y],_,_,_,_,h=>by rw [show x=y from h]
 | [x],y :: y2 :: r,_,_,hx,_,h=>by
  have h:x=y++c :: jn c (y2 :: r):=h;exact absurd (by rw [h]; simp) (hx x (by simp))
 | x :: x2 :: r,[y],_,_,_,hy,h=>by
  have h:x++c :: jn c (x2 :: r)=y:=h;exact absurd (by rw [<-h]; simp) (hy y (by simp))
 | x :: x2 :: r,y :: y2 :: t,_,_,hx,hy,h=>by
  obtain⟨e1,e2⟩:=abj (hx x (by simp)) (hy y (by simp)) (show x++c :: jn c (x2 :: r)=y++c :: jn c (y2 :: t) from h);rw [e1,RS (List.cons_ne_nil _ _) (List.cons_ne_nil _ _) (fun z hz=>hx z (aM _ hz)) (fun z hz=>hy z (aM _ hz)) e2]
theorem gC(x y:Str):(x++y).cps.toList=x.cps.toList++y.cps.toList:=by rw [NU,Array.toList_append]
theorem AR(c:Nat):∀ xs:List Str,(gB ⟨#[c]⟩ xs).cps.toList=jn c (xs.map (·.cps.toList))
 | []=>rfl
 | [x]=>rfl
 | x :: y :: r=>by
  have e:gB ⟨#[c]⟩ (x :: y :: r)=(x++⟨#[c]⟩)++gB ⟨#[c]⟩ (y :: r):=rfl;rw [e,gC,gC,AR c (y :: r)];simp [jn]
theorem j7{x y:Str}(h:x.cps.toList=y.cps.toList):x=y:=by
 cases x; cases y;congr 1;exact Array.toList_inj.mp h
theorem map_inj{xs ys:List Str}(h:xs.map (·.cps.toList)=ys.map (·.cps.toList)):xs=ys:=by
 induction xs generalizing ys with
 | nil=>cases ys with
  | nil=>rfl
  | cons _ _=>cases h
 | cons x xs ih =>
  cases ys with
  | nil=>cases h
  | cons y ys =>
   rw [aB,aB] at h;injection h with h1 h2
   rw [j7 h1,ih h2]
theorem Bi{c:Nat}{xs:List Str}(lr:xs≠[])(hf:∀ x∈xs,c∉x.cps.toList):ck (gB ⟨#[c]⟩ xs) ⟨#[c]⟩=xs:=by
 have h1:=congrArg (fun z:Str=>z.cps.toList) (PySem.StrLaws.join_split (gB ⟨#[c]⟩ xs) ⟨#[c]⟩);simp only [AR] at h1;have hp:=PyProof.Rows.split_pos (gB ⟨#[c]⟩ xs) ⟨#[c]⟩;refine map_inj (RS (fun z=>?_) (fun z=>lr (List.map_eq_nil_iff.mp z)) (fun x hx=>?_) (fun y hy=>?_) h1)
 ·rw [List.map_eq_nil_iff] at z;rw [z] at hp;exact absurd hp (by simp)
 ·obtain⟨p,hp,rfl⟩:=List.mem_map.mp hx;exact PySem.StrLaws.split_free _ _ p hp
 ·obtain⟨p,hp,rfl⟩:=List.mem_map.mp hy;exact hf p hp
def wy (b:Int):Str:=if b=0 then "o" else "u"
def hd (c:Int):Str:=if c=1 then "+" else "-"
def wd(p:T3):Str:=(vS p.a++wy p.b)++hd p.c
def Ci:List (Str×Int×Int):=[("o+",0,1),("o-",0,-1),("u+",1,1),("u-",1,-1)]
structure Cy(p:T3):Prop where
 n1:1<=p.a
 n2:p.a<=999
 b:p.b=0\/p.b=1
 c:p.c=1\/p.c=-1
theorem yn(b:Int):(wy b).length=1:=by unfold wy; split <;> decide
theorem B4(c:Int):(hd c).length=1:=by unfold hd; split <;> decide
theorem qi(x y:Str)(k:Nat)(hk:y.length=k)(h1:1<=k):cV (x++y) (some (-(k:Int))) none=y/\cV (x++y) none (some (-(k:Int)))=x:=by
 have hl:(x++y).length=x.length+k:=by rw [fj,hk]
 have hc:(x++y).cps.toList=x.cps.toList++y.cps.toList:=gC x y;have hx:x.cps.toList.length=x.length:=by simp [A9]
 have hy:y.cps.toList.length=k:=by rw [<-hk]; simp [A9]
 constructor
 ·show dG _ _ _=_;rw [PySem.StrLaws.sliceText_from_neg (by lia) (by rw [hl]; lia),hl,hc];apply j7;rw [List.toList_toArray,show (-(k:Int)+((x.length+k:Nat):Int)).toNat=x.length by lia,<-hx,List.drop_left];exact vO (by rw [aE]; lia)
 ·show dG _ _ _=_;rw [PySem.StrLaws.sliceText_to_neg (by lia) (by rw [hl]; lia),hl,hc];apply j7;rw [List.toList_toArray,List.drop_zero,show (-(k:Int)+((x.length+k:Nat):Int) - 0).toNat=x.length by lia,<-hx,List.take_left]
theorem Ew(x y z:Str):(x++y)++z=x++(y++z):=by
 apply j7;rw [gC,gC,gC,gC,cW]
theorem Hs(p:T3):wd p=vS p.a++(wy p.b++hd p.c):=Ew _ _ _
theorem QB(p:T3):cV (wd p) (some (-2)) none=wy p.b++hd p.c/\cV (wd p) none (some (-2))=vS p.a:=by
 rw [Hs];exact qi (vS p.a) (wy p.b++hd p.c) 2 (by rw [fj,yn,B4]) (by decide)
theorem NK{p:T3}(h:Cy p):Ci.lookup (wy p.b++hd p.c)=some (p.b,p.c):=by
 obtain⟨a,b,c⟩:=p;have hb:b=0\/b=1:=h.b;have hc:c=1\/c=-1:=h.c;show Ci.lookup (wy b++hd c)=some (b,c);rcases hb with rfl | rfl <;> rcases hc with rfl | rfl <;> decide
def YF:Str:="0123456789"
def BB (x:Str):Bool:=decide (1<=x.length)&&decide (x.length<=3)&&!(eR x 0 == ("0" : Str))&&x.cps.toList.all (fun c=>cD YF ⟨#[c]⟩)&&x.cps.all (· < 128)&&x.cps.toList.all (fun c=>!(c == 32)&&!(c == 10)&&!(c == 46))
theorem VL:((cA 1000).all fun n=>n == 0||BB (vS (n:Int)))=true:=by decide +kernel
theorem Ce{n:Int}(h1:1<=n)(h2:n<=999):BB (vS n)=true:=by
 obtain⟨m,rfl⟩:=Int.eq_ofNat_of_zero_le (show 0<=n by lia);have:=List.all_eq_true.mp VL m (List.mem_range.mpr (by lia));have hm:(m == 0)=false:=by simp; lia
 rw [hm,CL] at this;exact this
theorem int_at{n:Int}(h1:1<=n)(h2:n<=999):PySem.intText? (vS n)=some n:=PySem.W.KIN.num_reads (by lia) (by lia)
end K4
end K2
end
section
namespace K2
open PySem (Str)
open Enc (enc)
namespace K4
open K2.P
open K2.za (fZ)
open K2.yf (HR HR.fz)
open K2.Qi (fX zh)
theorem Bc{p:T3}(h:Cy p):(wd p).length<=5:=by
 unfold wd;rw [fj,fj,yn,B4];have:=Ce h.n1 h.n2;unfold BB at this;simp only [aI,decide_eq_true_eq] at this;have:=this.1.1.1.1.2;lia
def ln (r:List T3):Str:=if r=[] then "." else gB " " (r.map wd)
def tx (rows:Rows):Str:=gB "\n" (rows.map ln)
theorem BZ(s:Str)(k:Nat)(hs:s.length<=1):∀ xs:List Str,(∀ x∈xs,x.length<=k)->(gB s xs).length<=xs.length * (k+1)
 | [],_=>cu _
 | [x],h=>by
  have:=h x (by simp);show x.length<=_;rw [bf]; lia
 | x :: y :: r,h=>by
  have e:gB s (x :: y :: r)=(x++s)++gB s (y :: r):=rfl;have:=h x (by simp);have:=BZ s k hs (y :: r) fun z hz=>h z (aM _ hz);rw [e,fj,fj,ah];rw [Nat.succ_mul];lia
theorem D0{n:Int}(h1:1<=n)(h2:n<=999):n.natAbs < 10 ^ 100:=iD (m:=999) (by lia) (by decide)
theorem B0{G:Gp}{d:D}{xs:List Str}{sep:Str}{Q:DK}(h:IsL G d (xs.map D.str))(h1:sep.length<=1000)(h2:∀ x∈xs,x.length<=1000)(h3:xs.length<=1000)(q:Q (.str (gB sep xs)) G):Ig (.str sep) [d] G Q:=⟨xs,QF h,vA h,⟨h1,h2,h3⟩,q⟩
theorem AU {b:Int} (h:b=0\/b=1):eR "ou" b=wy b:=by rcases h with rfl | rfl <;> decide
theorem FQ {c:Int} (h:c=1\/c=-1):eR "-+" ((c+1) / 2)=hd c:=by rcases h with rfl | rfl <;> decide
theorem Gk {n:Int} (h1:1<=n) (h2:n<=999):(1<=(vS n).length/\(vS n).length<=3)/\eR (vS n) 0≠"0"/\(∀ c∈(vS n).cps.toList,cD YF ⟨#[c]⟩=true)/\(vS n).cps.all (· < 128)=true/\∀ c∈(vS n).cps.toList,c≠32/\c≠10/\c≠46:=by
 have:=Ce h1 h2;unfold BB at this;simp only [aI,decide_eq_true_eq,fS,g6,beq_eq_false_iff_ne] at this;exact⟨this.1.1.1.1,this.1.1.1.2,this.1.1.2,by rw [this.1.2],fun c hc=>⟨(this.2 c hc).1.1,(this.2 c hc).1.2,(this.2 c hc).2⟩⟩
theorem wX(x:Str)(i:Int)(h:x.cps.all (· < 128)=true):(eR x i).cps.all (· < 0x110000)=true:=by
 unfold eR;have:(sM x i).getD 0 < 128:=by
  unfold sM;cases h1:vX i x.length with
  | none=>exact vM _
  | some j =>
   rw [oR];cases h2:x.cps[j]? with
   | none=>exact vM _
   | some c =>
    have hm:c∈x.cps:=wa h2;have:=Array.all_eq_true'.mp h c hm;exact of_decide_eq_true this
 simp; lia
def l8:i5 :=
 (Jp [("o+",0,1),("o-",0,-1),("u+",1,1),("u-",1,-1)] 1 (oH (ay 0) (gL (sP tL (dC (.int 2)))) cL) (kj NZ (az (oH (ay 0) cL (gL (sP tL (dC (.int 2))))) aU)))
def iR:nR:=fun ds G Q _=>∃ p:T3,ds=[.str (wd p)]/\Cy p/\Q (enc p) G
theorem p6(ds:List D)(G:Gp)(Q:DK)(h:iR ds G Q fun _ _=>False):l8 (fun _ _=>False) (ends Q) (bL 2 ds) G:=by
 obtain⟨p,rfl,hp,q⟩:=h;have hl:=Bc hp;obtain⟨e1,e2⟩:=QB p;have el:Ci.lookup (wy p.b++hd p.c)=some (p.b,p.c):=NK hp;unfold Ci at el;obtain⟨⟨l1,l3⟩,_⟩:=Gk hp.n1 hp.n2;unfold l8;simp only [Jp,oH,ay,bL,↓aB,↓a7,↓ah,↓aq,bE,↓aZ,↓aY,↓aa,↓gV,sP,dC,↓oq,↓fx,cL,kj,az,↓ax,↓ar,aU,ends];rw [e1,el];simp only [↓fF,↓bL,↓ends,↓dD,↓a9,↓sP,↓ay,↓kj,↓uB,↓az,↓aU,↓cC,↓abh,↓jx,↓cT,↓aT,↓dC,↓bZ,↓gU,↓o6,↓PA,↓pJ,↓PB,↓GB,↓lC,↓qG,↓VT,↓Jq,↓Cm,↓gV,↓cL,↓hW,↓xk,↓cZ,↓lg,↓ju,↓Rb,↓HN,↓HL,↓om,↓tM,↓fJ,↓jD,↓oq,↓Fs,↓MY,↓AJ,↓U2,↓ot,↓Bu,↓ui,↓Fo,↓MX,↓JB,↓JA,↓PG,↓mB,↓zC,↓tU,↓z9,↓ph,↓Uw,↓Uv,↓pf,↓true_and,↓and_true,↓Vy,↓Ny,↓fx,↓aR,↓yt,↓Iw,↓Vx,↓Iv,↓aB,↓a7,↓aZ,↓aY,↓aa,↓af,↓ar,↓ax,↓ah,↓aq,↓bE,↓if_true,↓if_false,↓bM,↓bN,↓aw,↓dZ,↓wt,↓Jp,↓oH];rw [e2];exact⟨by lia,by lia,p.a,int_at hp.n1 hp.n2,by lia,q⟩
theorem lT{xs pre post:List D}{d:D}(h:oG 0 xs=pre++d :: post):∃ x,xs[pre.length]?=some x/\d=.tup [.int pre.length,x]:=by
 have this:(oG 0 xs)[pre.length]?=(pre++d :: post)[pre.length]?:=by rw [h]
 rw [yP,bA (aK _),oW,aa] at this;obtain⟨x,hx,e⟩:=Option.map_eq_some_iff.mp this;exact⟨x,hx,by rw [<-e,yj]⟩
theorem xE{p:Nat}{ds:List D}{G:Gp}{R:List D->(Gp->Prop)->Gp->Prop}(h:G p=some (.lst ds)):rH (.ref p) G R=R (oG 0 ds) (fun G2=>G2 p=some (.lst ds)) G:=by
 unfold rH; simp only [h]
theorem qW:(" " : Str)=⟨#[32]⟩:=by decide
theorem yC:("\n" : Str)=⟨#[10]⟩:=by decide
end K4
namespace K3
open K2.P K2.yf
theorem qL{κ β:Type} [DecidableEq κ]{l:List (κ×β)}{k:κ}(h:k∉l.map (·.1)):oM l k=none:=by
 cases e:oM l k with
 | none=>rfl
 | some v=>exact absurd (List.mem_map.mpr ⟨_,Ib e,rfl⟩) h
theorem JH{κ β:Type} [DecidableEq κ]{l:List (κ×β)}{k:κ}:(oM l k).isSome=decide (k∈l.map (·.1)):=by
 by_cases h:k∈l.map (·.1)
 ·simp only [h,decide_true];obtain⟨p,hp,rfl⟩:=List.mem_map.mp h;unfold oM;rw [mY,List.find?_isSome];exact⟨p,hp,by simp⟩
 ·rw [qL h]; simp [h]
theorem AI{κ α:Type} [DecidableEq κ] [Enc κ] [vL κ] [DecidableEq α] [Enc α]{neg:Bool}{l:List (κ×α)}{k:κ}{G:Gp}{Q:DK}(hl:l≠[])(q:Q (.bl (if neg then !decide (k∈l.map (·.1)) else decide (k∈l.map (·.1)))) G):wQ neg (enc k) (.vR (fK l)) G Q:=by
 refine⟨fun z=>hl ?_,lP l k,?_⟩
 ·unfold fK at z; exact List.map_eq_nil_iff.mp z
 ·rw [tX,mY,JH]; exact q
end K3
namespace K4
open K2.P
open K2.za (fZ uj)
open K2.yf (HR HR.fz)
open K2.Qi (fX zh)
open K2.K3 (AI)
abbrev HM:=List (T2×Int)
def qz(L:List T3):HM:=L.map fun t=>(t.s,t.c)
theorem Cp{κ α:Type} [DecidableEq κ](l:List (κ×α))(k:κ)(v:α)(h:k∉l.map (·.1)):Mr l k v=l++[(k,v)]:=by
 unfold Mr;rw [if_neg];intro z;obtain⟨p,hp,e⟩:=List.any_eq_true.mp z;exact h (List.mem_map.mpr ⟨p,hp,of_decide_eq_true e⟩)
theorem qL{κ α:Type} [DecidableEq κ](l:List (κ×α))(k:κ)(h:k∉l.map (·.1)):oM l k=none:=by
 unfold oM;rw [List.find?_eq_none.mpr fun p hp z=>h (List.mem_map.mpr ⟨p,hp,of_decide_eq_true z⟩)];rfl
theorem mD(L:List T3):(qz L).map (·.1)=L.map T3.s:=by unfold qz; rw [eD]; rfl
theorem Sa{G G1 G2:Gp}{p:Nat}{as:List Nat}{rs:Rows}(l:kl G G1)(h:HR G1 G2 p as rs):HR G G2 p as rs :=
 ⟨l.trans h.le,l.free h.fp,h.gp,h.np,h.nd,fun a ha=>l.free (h.fr a ha),h.len,h.at'⟩
end K4
namespace K4
open K2.P
open K2.za (fZ)
open K2.AB (rJ pG gG)
open K2.Qi (zh)
open K2.yf (HR HR.fz eZ c9 qJ xl)
def ky:i5 :=
 (bY (dM (lC (fk (Jr "list" (ay 0)))) (cC (fF (dC (.bl false)))) bZ)
 (bY (je (qx (ay 0)) (aT 1) (bY (dM (lC (fk (Jr "list" (ay 1)))) (cC (fF (dC (.bl false)))) bZ)
 (je (qx (ay 1)) (aT 2) (bY (dM (GB (lC (fk (Jr "tuple" (ay 2)))) (fk (a9 (Fv true) (kj mV (az (ay 2) aU)) (dC (.int 3))))) (cC (fF (dC (.bl false)))) bZ)
 (dM (lC (fk (kj VZ (az (lg 1 [] (qx (ay 2)) (aT 0) none (cZ c9 (az (ay 0) aU))) aU)))) (cC (fF (dC (.bl false)))) bZ)))))
 (cC (fF (dC (.bl true))))))
def cY:nR:=fun ds G Q _=>∃ (G0:Gp) (p:Nat) (as:List Nat) (rows:Rows),ds=[.ref p]/\HR G0 G p as rows/\Q (.bl true) G
theorem kC(ds:List D)(G:Gp)(Q:DK)(h:cY ds G Q fun _ _=>False):ky (fun _ _=>False) (ends Q) (bL 3 ds) G:=by
 obtain⟨G0,p,as,rows,rfl,hr,q⟩:=h;unfold ky;simp only [bY,dM,lC,↓dD,↓pJ,ay,bL,↓aB,↓a7,↓ah,↓aq,bE,↓aZ,↓aY,↓aa,cC,fF,dC,ends,bZ,je,↓hW];refine Nw (IsL.ref hr.gp) ?_;simp only [↓aR,beq_self_eq_true,↓bM,↓aw,↓if_false];refine LA (IsL.ref hr.gp) fun ok cO=>?_;refine LJ (fun pre τ G'=>kl G G'/\∃ b c,τ=[some (.ref p),b,c]) ⟨.refl G,_,_,rfl⟩ (fun _ _ _ h=>cO _ h.1) ?_ ?_
 ·rintro pre d post τ G1 N e ⟨l1,b,c,rfl⟩ hN;obtain⟨a,ha,rfl⟩:∃ a,as[pre.length]?=some a/\D.ref a=d:=by
   have:(as.map D.ref)[pre.length]?=some d:=by rw [e,bA (aK _),oW]; rfl
   rw [bP] at this;exact Option.map_eq_some_iff.mp this
  have pH:pre.length < rows.length:=by rw [<-hr.len]; exact(List.getElem?_eq_some_iff.mp ha).1
  have ga:=l1 _ _ (hr.at' pre.length a rows[pre.length] ha (aj pH));generalize rows[pre.length]=r at ga;simp only [aT,bY,dM,lC,↓dD,↓pJ,ay,↓ax,↓ar,↓af,↓aa,cC,fF,dC,bZ,je,↓hW];refine Nw (IsL.ref ga) ?_;simp only [↓aR,beq_self_eq_true,↓bM,↓aw,↓if_false];refine LA (IsL.ref ga) fun ok2 Ye=>?_;refine i9 (xs:=r) (fun pre τ G'=>kl G1 G'/\∃ b c,τ=[some (.ref p),b,c]) ⟨.refl _,_,_,rfl⟩ (fun _ _ _ h=>Ye _ h.1) ?_ ?_
  ·rintro oy t DR τ G2 N2 e2 ⟨l2,b,c,rfl⟩ Ah;simp only [aT,bY,dM,GB,lC,↓dD,↓pJ,ay,↓ax,↓ar,yQ,↓af,↓aa,↓Iv,↓aR,beq_self_eq_true,↓bM,↓aw,cC,fF,dC,bZ,kj,az,lg,↓hW,↓Ny,↓ah,↓aq,aU,↓if_true,a9,↓JA,↓if_false];refine⟨_,_,.int _,.int _,?_⟩;simp only [↓aR,vH,↓if_true];refine⟨by decide,?_⟩;refine qI (xs:=[t.a,t.b,t.c]) (fun pre acc τ G'=>G2=G'/\acc=bE pre.length (D.bl true)/\∃ a,τ=[a]) ⟨rfl,rfl,_,rfl⟩ (fun _ _ _ _ _=>trivial) ?_ ?_
   ·rintro ag4 i afm acc τ G3 N3 e3 ⟨rfl,rfl,a,rfl⟩ NG;simp only [aT,cZ,az,ay,↓ar,↓aa,aU];refine⟨i,rfl,NG _ _ _ ⟨rfl,?_,_,rfl⟩⟩;simp [List.replicate_succ']
   ·rintro acc τ G3 ⟨rfl,rfl,a,rfl⟩ p2 hp;refine⟨bE 3 true,?_,?_⟩
    ·unfold itemsOf; simp only [aW]; rfl
    ·simp only [↓aR,bE,↓ah,↓aq];exact Ah _ _ ⟨l2.trans (.new hp),_,_,rfl⟩
  ·rintro τ G2 ⟨l2,b,c,rfl⟩;exact hN _ _ ⟨l1.trans l2,_,_,rfl⟩
 ·rintro τ G1 ⟨l1,b,c,rfl⟩;simp only [cC,fF,dC];exact jG l1 q
end K4
namespace Wa
open K2.P
open K2.za (fZ uj)
open K2.yf (HR HR.fz iy)
open K2.Qi (fX zh)
open K2.K3 (AI kh)
open K2.K4 (HM qz mD Cp qL Cy lT Sa)
def Er (w:Str) (n:Int):Ex:=⟨"NoDrawing",[("word",.str w),("place",.int n)]⟩
def bT:fM :=
 (Js (vF "no drawing: " (LY (ay 1) (vF ", " (LY (ay 2) SQ)))))
theorem yK(a:Nat){w:Str}{n:Int}(hw:w.length<=1000)(hn:n.natAbs < 10 ^ 100):bT (fun _ _=>False) [some (.ref a),some (.str w),some (.int n)] (fun _=>none) fun _ _=>True:=by
 unfold bT;simp only [Js,vF,LY,ay,↓af,↓aa,SQ,↓and_true];exact⟨by decide,w,if_pos hw,by decide,vS n,if_pos hn⟩
def Ja (p:T3) (ms:List T2):Option Str:=if ¬ (1<=p.a/\p.a<=999) then some "name" else if ¬ (p.b=0\/p.b=1) then some "way" else if ¬ (p.c=1\/p.c=-1) then some "hand" else if p.s∈ms then some "twice" else none
theorem Gj {p:T3} {ms:List T2} {w:Str} (h:Ja p ms=some w):w.length<=1000/\w≠""/\w.cps.all (· < 0x110000)=true:=by
 unfold Ja at h;split at h
 ·cases h; exact⟨by decide,by decide,eU _⟩
 split at h
 ·cases h; exact⟨by decide,by decide,eU _⟩
 split at h
 ·cases h; exact⟨by decide,by decide,eU _⟩
 split at h
 ·cases h; exact⟨by decide,by decide,eU _⟩
 ·cases h
theorem Cc{p:T3}{ms:List T2}(h:Ja p ms=none):Cy p/\p.s∉ms:=by
 unfold Ja at h;split at h
 ·cases h
 rename_i h1;split at h
 ·cases h
 rename_i h2;split at h
 ·cases h
 rename_i h3;split at h
 ·cases h
 rename_i h4;have h1:=Classical.not_not.mp h1;exact⟨⟨h1.1,h1.2,Classical.not_not.mp h2,Classical.not_not.mp h3⟩,h4⟩
def wD(d0:D):Option Str->D
 | none=>d0
 | some w=>.str w
def rdF(d0:D):i5 :=
 (bY (dM (lC (nM Qb Qb (dC (.int 1)) (a9 qY (ay 0) (dC (.int 0))) (dC (.int 999)))) (cC (fF (dC (.str "name")))) bZ)
 (bY (dM (fk (a9 (wQ true) (a9 qY (ay 0) (dC (.int 1))) (gU (az (dC (.int 0)) (az (dC (.int 1)) aU))))) (cC (fF (dC (.str "way")))) bZ)
 (bY (dM (fk (a9 (wQ true) (a9 qY (ay 0) (dC (.int 2))) (gU (az (dC (.int 1)) (az (sP tL (dC (.int 1))) aU))))) (cC (fF (dC (.str "hand")))) bZ)
 (bY (dM (fk (a9 (wQ false) (Cm (ay 0) cL (gL (dC (.int 2)))) (ay 1))) (cC (fF (dC (.str "twice")))) bZ)
 (cC (fF (dC d0)))))))
def spF(d0:D):nR:=fun ds G Q _=>∃ (p:T3) (m:HM) (q:Nat),ds=[enc p,.ref q]/\G q=some (.mO (fK m))/\Q (wD d0 (Ja p (m.map (·.1)))) G
theorem Fu{m:HM}{k:T2}{neg:Bool}{q:Nat}{G:Gp}{Q:DK}(gr:G q=some (.mO (fK m)))(h:Q (.bl (if neg then !decide (k∈m.map (·.1)) else decide (k∈m.map (·.1)))) G):wQ neg (enc k) (.ref q) G Q:=by
 unfold wQ;simp only [gr];refine⟨lP m _,?_⟩;rw [tX];have e:((oM m k).map enc:Option D).isSome=decide (k∈m.map (·.1)):=by
  by_cases z:k∈m.map (·.1)
  ·rw [decide_eq_true z];cases q:oM m k with
   | some v=>rfl
   | none =>
    unfold oM at q;rw [Om] at q;obtain⟨p,hp,e⟩:=List.mem_map.mp z;have:=(List.find?_eq_none.mp q) p hp;exact absurd (decide_eq_true e) this
  ·rw [decide_eq_false z,qL _ _ z]; rfl
 rw [e];exact h
theorem OKF(d0:D)(ds:List D)(G:Gp)(Q:DK)(h:spF d0 ds G Q fun _ _=>False):rdF d0 (fun _ _=>False) (ends Q) (bL 2 ds) G:=by
 obtain⟨p,m,r,rfl,gr,q⟩:=h;obtain⟨a,b,c⟩:=p;have e:(enc (⟨a,b,c⟩:T3):D)=.tup [.int a,.int b,.int c]:=rfl;rw [e];unfold rdF;have a0:sI [D.int a,D.int b,D.int c] 0=some (.int a):=rfl;have a1:sI [D.int a,D.int b,D.int c] 1=some (.int b):=rfl;have a2:sI [D.int a,D.int b,D.int c] 2=some (.int c):=rfl;simp only [bY,dM,lC,nM,dC,a9,ay,bL,↓aB,↓a7,↓ah,↓aq,↓aZ,↓aY,↓aa,↓ot,↓a0,↓MY,cC,fF,ends,bZ,↓dD,↓a1,gU,az,aU,↓a2,sP,↓oq,Cm,cL,↓gV,↓fx,↓ui,↓af,↓bN,↓if_true];unfold Ja at q;refine⟨_,rfl,?_⟩;by_cases h1:1<=a
 rotate_left
 ·rw [if_neg (by simpa using h1)];rw [if_pos (fun z=>h1 z.1)] at q;exact fy q
 rw [if_pos (decide_eq_true h1)];refine⟨_,rfl,?_⟩;by_cases h2:a<=999
 rotate_left
 ·rw [if_pos (by simpa using h2)];rw [if_pos (fun z=>h2 z.2)] at q;exact fy q
 rw [if_neg (by simpa using h2)];rw [if_neg (fun z=>z ⟨h1,h2⟩)] at q;refine⟨by decide,uj (x:=b) (xs:=[0,1]) (by decide) ?_⟩;by_cases hb:b=0\/b=1
 rotate_left
 ·rw [decide_eq_false (by simpa using hb)];simp only [↓aR,↓bN,↓if_true];rw [if_pos hb] at q;exact fy q
 rw [decide_eq_true (by simpa using hb)];simp only [↓aR,↓bM,↓if_true,↓aw,↓if_false];rw [if_neg (fun z=>z hb)] at q;refine⟨by decide,uj (x:=c) (xs:=[1,-1]) (by decide) ?_⟩;by_cases hc:c=1\/c=-1
 rotate_left
 ·rw [decide_eq_false (by simpa using hc)];simp only [↓aR,↓bN,↓if_true];rw [if_pos hc] at q;exact fy q
 rw [decide_eq_true (by simpa using hc)];simp only [↓aR,↓bM,↓if_true,↓aw,↓if_false];rw [if_neg (fun z=>z hc)] at q;refine⟨by decide,?_⟩;have e3:(.tup (cut [D.int a,D.int b,D.int c] none (some 2)):D)=enc (⟨a,b⟩:T2):=rfl;rw [e3];refine Fu gr ?_;by_cases hm:(⟨a,b⟩:T2)∈m.map (·.1)
 ·rw [decide_eq_true hm];simp only [↓aR,↓aw,↓bM,↓if_false,↓if_true];rw [if_pos (show T3.s ⟨a,b,c⟩∈_ from hm)] at q;exact fy q
 ·rw [decide_eq_false hm];simp only [↓aR,↓aw,↓bN,↓if_false];rw [if_neg (show ¬ T3.s ⟨a,b,c⟩∈_ from hm)] at q;exact fy q
def HK:i5 :=
 (bY (dM (lC (nM Qb Qb (dC (.int 1)) (a9 qY (ay 0) (dC (.int 0))) (dC (.int 999)))) (cC (fF (dC (.str "name")))) bZ)
 (bY (dM (fk (a9 (wQ true) (a9 qY (ay 0) (dC (.int 1))) (gU (az (dC (.int 0)) (az (dC (.int 1)) aU))))) (cC (fF (dC (.str "way")))) bZ)
 (bY (dM (fk (a9 (wQ true) (a9 qY (ay 0) (dC (.int 2))) (gU (az (dC (.int 1)) (az (sP tL (dC (.int 1))) aU))))) (cC (fF (dC (.str "hand")))) bZ)
 (bY (dM (fk (a9 (wQ false) (Cm (ay 0) cL (gL (dC (.int 2)))) (ay 1))) (cC (fF (dC (.str "twice")))) bZ)
 (cC (fF (dC .cR)))))))
def my:nR:=spF .cR
theorem zP(ds:List D)(G:Gp)(Q:DK)(h:my ds G Q fun _ _=>False):HK (fun _ _=>False) (ends Q) (bL 2 ds) G:=OKF .cR ds G Q h
def z8:i5 :=
 (bY (dM (lC (nM Qb Qb (dC (.int 1)) (a9 qY (ay 0) (dC (.int 0))) (dC (.int 999)))) (cC (fF (dC (.str "name")))) bZ)
 (bY (dM (fk (a9 (wQ true) (a9 qY (ay 0) (dC (.int 1))) (gU (az (dC (.int 0)) (az (dC (.int 1)) aU))))) (cC (fF (dC (.str "way")))) bZ)
 (bY (dM (fk (a9 (wQ true) (a9 qY (ay 0) (dC (.int 2))) (gU (az (dC (.int 1)) (az (sP tL (dC (.int 1))) aU))))) (cC (fF (dC (.str "hand")))) bZ)
 (bY (dM (fk (a9 (wQ false) (Cm (ay 0) cL (gL (dC (.int 2)))) (ay 1))) (cC (fF (dC (.str "twice")))) bZ)
 (cC (fF (dC (.str ""))))))))
def iM:nR:=spF (.str "")
theorem sv (ds:List D) (G:Gp) (Q:DK) (h:iM ds G Q fun _ _=>False):z8 (fun _ _=>False) (ends Q) (bL 2 ds) G:=OKF (.str "") ds G Q h
def fst:List T3->List T3->Option (Str×Int)
 | _,[]=>none
 | pre,p :: r=>match Ja p (pre.map T3.s) with
  | some w=>some (w,(pre.length:Int))
  | none=>fst (pre++[p]) r
theorem IM(pre r:List T3)(p:T3):fst pre (p :: r)=match Ja p (pre.map T3.s) with | some w=>some (w,(pre.length:Int)) | none=>fst (pre++[p]) r:=rfl
theorem VG:∀ (r pre:List T3) {w:Str} {n:Int},fst pre r=some (w,n)->w.length<=1000/\w.cps.all (· < 0x110000)=true/\0<=n/\n<=pre.length+r.length:=by
 intro r;induction r with
 | nil=>intro pre w n h; cases h
 | cons p r ih =>
  intro pre w n h;unfold fst at h;cases e:Ja p (pre.map T3.s) with
  | some w' =>
   rw [e] at h;cases h;have:=Gj e;exact⟨this.1,this.2.2,by lia,by rw [ah]; lia⟩
  | none =>
   rw [e] at h;have:=ih _ h;rw [aE,bf] at this;rw [ah];exact⟨this.1,this.2.1,this.2.2.1,by lia⟩
theorem IL:∀ (r pre:List T3),fst pre r=none->(pre.map T3.s).Nodup->((pre++r).map T3.s).Nodup/\∀ p∈r,Cy p:=by
 intro r;induction r with
 | nil=>intro pre _ h; rw [bV]; exact⟨h,fun p hp=>by cases hp⟩
 | cons p r ih =>
  intro pre h hn;unfold fst at h;cases e:Ja p (pre.map T3.s) with
  | some w=>rw [e] at h; cases h
  | none =>
   rw [e] at h;obtain⟨g,hp⟩:=Cc e;have n2:((pre++[p]).map T3.s).Nodup:=by
    rw [c6,ko];refine⟨hn,by simp,fun x hx y hy z=>?_⟩;rw [CG,iB] at hy;exact hp (by rw [<-hy,<-z]; exact hx)
   obtain⟨h1,h2⟩:=ih _ h n2;rw [cW] at h1;exact⟨h1,fun x hx=>(List.mem_cons.mp hx).elim (fun z=>by rw [z]; exact g) (h2 x)⟩
theorem ID{pre:List T3}{t:T3}(h:t.s∉pre.map T3.s):Mr (qz pre) t.s t.c=qz (pre++[t]):=by
 rw [Cp _ _ _ (by rw [mD]; exact h)];unfold qz;rw [c6]; rfl
def ve:i5 :=
 (bY (cT PA (aT 1))
 (bY (je (D4 (cZ jq (az (ay 0) aU))) (xq (iO (aT 2) (iO (aT 3) vC))) (bY (cT (cZ my (az (ay 3) (az (ay 1) aU))) (aT 4))
 (bY (dM (fk (sP (sE true) (ay 4))) (ip "NoDrawing" ["word","place"] bT (az (ay 4) (az (ay 2) aU))) bZ)
 (cT (a9 qY (ay 3) (dC (.int 2))) (SA (ay 1) (Cm (ay 3) cL (gL (dC (.int 2)))))))))
 (cC (fF (ay 1)))))
def jV:nR:=fun ds G Q E=>∃ rows:Rows,ds=[enc rows]/\rows.flatten.length<=1000/\match fst [] rows.flatten with
 | none=>Q (.vR (fK (qz rows.flatten))) G
 | some (w,n)=>E (Er w n) (fun _=>none)
theorem vh(ds:List D)(G:Gp)(Q:DK)(E:lu)(h:jV ds G Q E):ve E (ends Q) (bL 5 ds) G:=by
 obtain⟨rows,rfl,hF,q⟩:=h;unfold ve;simp only [↓dZ,cT,PA,mF,aT,ends,bL,↓aB,↓a7,↓ah,↓aq,bE,↓aZ,↓aY,↓ax,↓ar];intro d hd;refine fY (fun τ G'=>(∃ a b c,τ=[some (enc rows),some (.ref d),a,b,c])/\kl G G'/\G' d=some (.mO (fK (qz rows.flatten)))/\fst [] rows.flatten=none) ?_ ?_
 ·intro N hN;simp only [je,D4,cZ,az,ay,↓aa,aU];refine⟨rows,rfl,hF,?_⟩;refine IA ?_;refine LJ (fun pre τ G'=>(∃ a b c,τ=[some (enc rows),some (.ref d),a,b,c])/\kl G G'/\G' d=some (.mO (fK (qz (rows.flatten.take pre.length))))/\fst (rows.flatten.take pre.length) (rows.flatten.drop pre.length)=fst [] rows.flatten) ⟨⟨_,_,_,rfl⟩,.new hd,aW,rfl⟩ (fun _ _ _ _=>trivial) ?_ ?_
  ·rintro pre x post τ G' N2 e ⟨⟨a,b,c,rfl⟩,l,gd,hf⟩ Ah;obtain⟨y,hy,rfl⟩:=lT e;rw [bP] at hy;obtain⟨t,ht,rfl⟩:=Option.map_eq_some_iff.mp hy;have pH:pre.length < rows.flatten.length:=(List.getElem?_eq_some_iff.mp ht).1;have hl:(rows.flatten.take pre.length).length=pre.length:=by rw [dH]; lia
   rw [cq pH,(List.getElem?_eq_some_iff.mp ht).2] at hf;rw [IM] at hf;have keys:=mD (rows.flatten.take pre.length);simp only [xq,iO,aT,vC,↓dZ,cT,cZ,az,ay,↓ax,↓ar,↓af,↓aa,aU,bY,dM,↓dD,sP,bZ,a9,dC];refine⟨t,_,d,rfl,gd,?_⟩;rw [keys];cases NF:Ja t ((rows.flatten.take pre.length).map T3.s) with
   | some w =>
    rw [NF,hl] at hf;rw [<-hf] at q;unfold wD;simp only [sE,↓aR,ip,az,ay,↓af,↓aa,aU,↓ah,↓aq,↓aB,↓a7,↓true_and,↓if_true];have fl:=Gj NF;exact⟨fun a=>yK a fl.1 (by lia),q⟩
   | none =>
    rw [NF] at hf;obtain⟨gp,Sf⟩:=Cc NF;unfold wD;simp only [sE,↓aR,↓bM,↓aw,yQ,SA,ay,↓af,↓aa,Cm,cL,↓gV,dC,↓fx,↓ui,↓ah,↓aq,VU,↓ot,at2,↓if_false];refine⟨by decide,P.DI (k:=t.s) (v:=t.c) gd (by unfold qz; rw [ai,dH]; lia) ?_⟩;have et:rows.flatten.take (pre.length+1)=rows.flatten.take pre.length++[t]:=by rw [zX,ht]; rfl
    refine Ah _ _ ⟨⟨_,_,_,rfl⟩,l.put hd,?_,?_⟩
    ·rw [aW,ID Sf,aE,bf,et]
    ·rw [aE,bf,et]; exact hf
  ·rintro τ G' ⟨⟨a,b,c,rfl⟩,l,gd,hf⟩;rw [nY,ai] at gd hf;rw [o9] at gd hf;rw [pb] at hf;exact hN _ _ ⟨⟨_,_,_,rfl⟩,l,gd,hf.symm⟩
 rintro _ G' ⟨⟨a,b,c,rfl⟩,l,gd,hf⟩;rw [hf] at q;simp only [cC,fF,ay,↓af,↓aa];exact Yz l hd gd q
def yb(L:List T3):List Int:=MP (K3.zJ [] (L.map (·.a)))
theorem Vq{L:List T3}{n:Int}:n∈yb L↔n∈L.map (·.a):=by
 unfold yb;rw [UJ,K3.AX];simp
theorem Nk(L:List T3):(yb L).length<=L.length:=by
 unfold yb;rw [MO];have:=K3.uA (L.map (·.a)) [];rw [ai,aq] at this;lia
theorem X0{L:List T3}{m:List Int}(nd:m.Nodup)(h:∀ y,y∈m↔y∈L.map (·.a)):MP m=yb L:=by
 unfold yb;refine Xk ((Kv nd (K3.S5 _ _ gZ)).mpr fun y=>?_);rw [h y,K3.AX];simp
def nf(L:List T3):List Int->Option (Str×Int)
 | []=>none
 | n :: r=>if ¬ ((⟨n,0⟩:T2)∈L.map T3.s/\(⟨n,1⟩:T2)∈L.map T3.s) then some ("lone",n) else if ¬ oM (qz L) (⟨n,0⟩:T2)=oM (qz L) (⟨n,1⟩:T2) then some ("hands",n) else nf L r
theorem FF (L:List T3) (n:Int) (r:List Int):nf L (n :: r)=(if ¬ ((⟨n,0⟩:T2)∈L.map T3.s/\(⟨n,1⟩:T2)∈L.map T3.s) then some (("lone" : Str),n) else if ¬ oM (qz L) (⟨n,0⟩:T2)=oM (qz L) (⟨n,1⟩:T2) then some (("hands" : Str),n) else nf L r):=rfl
def Vk(L:List T3):Option (Str×Int):=match nf L (yb L) with
 | some z=>some z
 | none=>if 12 < (yb L).length then some ("many",((yb L).length:Int)) else none
theorem A1{L:List T3}{k:T2}(h:k∈L.map T3.s):∃ c:Int,oM (qz L) k=some c:=by
 cases e:oM (qz L) k with
 | some c=>exact⟨c,rfl⟩
 | none =>
  unfold oM at e;rw [Om] at e;rw [<-mD] at h;obtain⟨p,hp,e2⟩:=List.mem_map.mp h;exact absurd (decide_eq_true e2) ((List.find?_eq_none.mp e) p hp)
def ql:i5 :=
 (bY (cT (kj yY (az (lg 1 [] (R5 (ay 0)) (aT 0) none (a9 qY (ay 0) (dC (.int 0)))) aU)) (aT 1))
 (bY (je (qx (ay 1)) (aT 2) (bY (dM (GB (fk (a9 (wQ true) (gU (az (ay 2) (az (dC (.int 0)) aU))) (ay 0))) (fk (a9 (wQ true) (gU (az (ay 2) (az (dC (.int 1)) aU))) (ay 0)))) (ip "NoDrawing" ["word","place"] bT (az (dC (.str "lone")) (az (ay 2) aU))) bZ)
 (dM (fk (a9 (Fv true) (a9 qY (ay 0) (gU (az (ay 2) (az (dC (.int 0)) aU)))) (a9 qY (ay 0) (gU (az (ay 2) (az (dC (.int 1)) aU)))))) (ip "NoDrawing" ["word","place"] bT (az (dC (.str "hands")) (az (ay 2) aU))) bZ)))
 (dM (fk (a9 ZW (kj mV (az (ay 1) aU)) (dC (.int 12)))) (ip "NoDrawing" ["word","place"] bT (az (dC (.str "many")) (az (kj mV (az (ay 1) aU)) aU))) bZ)))
def ix:nR:=fun ds G Q E=>∃ L:List T3,ds=[.vR (fK (qz L))]/\L.length<=60/\(∀ p∈L,Cy p)/\match Vk L with
 | none=>∀ G',kl G G'->Q .cR G'
 | some (w,n)=>E (Er w n) (fun _=>none)
theorem qM(ds:List D)(G:Gp)(Q:DK)(E:lu)(h:ix ds G Q E):ql E (ends Q) (bL 3 ds) G:=by
 obtain⟨L,rfl,hF,gp,q⟩:=h;unfold ql;refine fY (fun τ G'=>kl G G'/\∃ (b:Nat),G b=none/\G' b=some (.lst ((yb L).map enc))/\τ=[some (.vR (fK (qz L))),some (.ref b),none]) ?_ ?_
 ·intro N hN;simp only [cT,kj,az,lg,R5,ay,bL,↓aB,↓a7,↓ah,↓aq,bE,↓aZ,↓aY,↓aa,FU,aU,aT,↓ax,↓ar];refine⟨TJ (by rw [ai]; unfold fK qz; rw [ai,ai]; lia),?_⟩;have ek:(fK (qz L)).map (·.1)=(L.map T3.s).map enc:=by unfold fK qz; rw [eD,eD,eD]; rfl
  rw [ek];refine qI (xs:=L.map T3.s) (fun pre acc τ G'=>G'=G/\(∃ a,τ=[a])/\acc=(pre.map (·.a)).map D.int) ⟨rfl,⟨_,rfl⟩,rfl⟩ (fun _ _ _ _ _=>trivial) ?_ ?_
  ·rintro pre t post acc τ G' N2 e ⟨rfl,⟨a,rfl⟩,rfl⟩ Ah;have e2:(enc t:D)=.tup [.int t.a,.int t.b]:=rfl;rw [e2];simp only [aT,a9,ay,↓ar,↓aa,dC,↓ot,↓at0];exact Ah _ _ _ ⟨rfl,⟨_,rfl⟩,by rw [c6,c6]; rfl⟩
  ·rintro acc τ G' ⟨rfl,⟨a,rfl⟩,rfl⟩ p hp;refine⟨(L.map T3.s).map (·.a),by unfold tW; simp only [aW]; rfl,by rw [ai,ai]; lia,fun m ndm hm b hb=>?_⟩;have Yq:b≠p:=fun z=>by rw [z,aW] at hb; cases hb
   refine hN _ _ ⟨(kl.new hp).trans (.new hb),b,by rw [dR Yq] at hb; exact hb,?_,rfl⟩;rw [aW,X0 (L:=L) ndm fun y=>by rw [hm y,eD]; rfl]
 rintro _ G1 ⟨l1,b,hb,g1,rfl⟩;refine fY (fun τ G'=>G'=G1/\nf L (yb L)=none/\∃ a,τ=[some (.vR (fK (qz L))),some (.ref b),a]) ?_ ?_
 ·intro N hN;simp only [je,↓hW,ay,↓af,↓aa,ends];refine LA (IsL.ref g1) fun ok cO=>?_;refine i9 (xs:=yb L) (fun pre τ G'=>G'=G1/\(∀ post,yb L=pre++post->nf L post=nf L (yb L))/\∃ a,τ=[some (.vR (fK (qz L))),some (.ref b),a]) ⟨rfl,fun post e=>by rw [aY] at e; rw [<-e],_,rfl⟩ (fun _ _ _ h=>by rw [h.1]; exact cO _ (.refl _)) ?_ ?_
  ·rintro pre n post τ G' N2 e ⟨rfl,hf,a,rfl⟩ Ah;have hn:n∈L.map (·.a):=Vq.mp (by rw [e]; simp);have hf:=hf _ e;obtain⟨p,hp,ep⟩:=List.mem_map.mp hn;have gn:=gp p hp;have hb1:n.natAbs < 10 ^ 100:=by have:=gn.n1; have:=gn.n2; rw [<-ep]; exact iD (show _<=1000 by lia) (by decide)
   have lr:qz L≠[]:=fun z=>by unfold qz at z; rw [List.map_eq_nil_iff] at z; rw [z] at hp; cases hp
   have Np:∀ w:Int,decide ((⟨n,w⟩:T2)∈(qz L).map (·.1))=decide ((⟨n,w⟩:T2)∈L.map T3.s):=fun w=>by rw [mD]
   have en:(enc n:D)=.int n:=rfl;rw [FF] at hf;rw [en];simp only [aT,bY,dM,GB,↓dD,a9,gU,az,ay,↓ax,↓ar,↓af,↓aa,dC,aU,↓ah,↓aq,bZ,↓if_true];refine⟨by decide,AI (k:=(⟨n,0⟩:T2)) lr ?_⟩;have RH:¬ ((⟨n,0⟩:T2)∈L.map T3.s/\(⟨n,1⟩:T2)∈L.map T3.s)->E (Er "lone" n) (fun _=>none):=fun z=>by
    rw [if_pos z] at hf;unfold Vk at q;rw [<-hf] at q;exact q
   have k0:=Np 0;have k1:=Np 1;by_cases h0:(⟨n,0⟩:T2)∈L.map T3.s
   rotate_left
   ·rw [k0,decide_eq_false h0];simp only [↓aR,↓bN,↓if_true,ip,az,dC,ay,↓af,↓aa,aU,↓ah,↓aq,↓aB,↓a7,↓true_and];exact⟨fun a=>yK a (by decide) hb1,RH fun z=>h0 z.1⟩
   rw [k0,decide_eq_true h0];simp only [↓aR,↓bM,↓if_true,↓aw,↓if_false];refine⟨by decide,AI (k:=(⟨n,1⟩:T2)) lr ?_⟩;by_cases h1:(⟨n,1⟩:T2)∈L.map T3.s
   rotate_left
   ·rw [k1,decide_eq_false h1];simp only [↓aR,↓bN,↓if_true,ip,az,dC,ay,↓af,↓aa,aU,↓ah,↓aq,↓aB,↓a7,↓true_and];exact⟨fun a=>yK a (by decide) hb1,RH fun z=>h1 z.2⟩
   rw [k1,decide_eq_true h1];rw [if_neg (fun z=>z ⟨h0,h1⟩)] at hf;simp only [↓aR,↓bM,↓if_true,↓aw,↓Ft,↓if_false];obtain⟨c0,e0⟩:=A1 h0;obtain⟨c1,e1⟩:=A1 h1;have l0:look (fK (qz L)) (.tup [.int n,.int 0])=some (.int c0):=(tX (qz L) (⟨n,0⟩:T2)).trans (by rw [e0]; rfl);have l1:look (fK (qz L)) (.tup [.int n,.int 1])=some (.int c1):=(tX (qz L) (⟨n,1⟩:T2)).trans (by rw [e1]; rfl);rw [l0,l1];refine⟨by decide,lP (qz L) (⟨n,0⟩:T2),by decide,lP (qz L) (⟨n,1⟩:T2),_,_,.int _,.int _,?_⟩;rw [e0,e1] at hf;by_cases hc:c0=c1
   ·have:ik (.int c0) (.int c1)=true:=by rw [hc]; exact beq_self_eq_true c1
    rw [this];simp only [↓aR,↓bM,↓if_true,↓aw,↓if_false];rw [if_neg (fun z=>z (by rw [hc]))] at hf;exact Ah _ _ ⟨rfl,fun Rk e'=>by
     rw [e,cW] at e';have:=mM e';rw [jZ] at this;cases this;exact hf,_,rfl⟩
   ·have:ik (.int c0) (.int c1)=false:=beq_eq_false_iff_ne.mpr hc;rw [this];simp only [↓aR,↓bN,↓if_true,ip,az,dC,ay,↓af,↓aa,aU,↓ah,↓aq,↓aB,↓a7,↓true_and];rw [if_pos (fun z=>hc (bC z))] at hf;unfold Vk at q;rw [<-hf] at q;exact⟨fun a=>yK a (by decide) hb1,q⟩
  ·rintro τ G' ⟨rfl,hf,a,rfl⟩;exact hN _ _ ⟨rfl,(hf [] (by rw [bV])).symm,a,rfl⟩
 rintro _ G1 ⟨rfl,J8,a,rfl⟩;unfold Vk at q;rw [J8] at q;have hle:=Nk L;simp only [dM,↓dD,a9,kj,az,ay,↓af,↓aa,aU,dC,ends,bZ];refine iJ (IsL.ref g1) ?_;rw [ai];simp only [↓AJ,↓aR];by_cases Yx:12 < (yb L).length
 ·rw [if_pos (decide_eq_true (by lia))];rw [if_pos Yx] at q;simp only [ip,az,dC,kj,ay,↓af,↓aa,aU,↓ah,↓aq,↓aB,↓a7,↓true_and];refine iJ (IsL.ref g1) ?_;rw [ai];exact⟨fun a=>yK a (by decide) (iD (show _<=1000 by lia) (by decide)),q⟩
 ·rw [if_neg (fun z=>Yx (by have:=of_decide_eq_true z; lia))];rw [if_neg Yx] at q;exact q _ l1
def Hd (rows:Rows):Option (Str×Int):=if ¬ (1<=rows.length/\rows.length<=3) then some ("strings",(rows.length:Int)) else match fst [] rows.flatten with
 | some z=>some z
 | none=>Vk rows.flatten
def zA:i5 :=
 (bY (dM (lC (nM Qb Qb (dC (.int 1)) (kj mV (az (ay 0) aU)) (dC (.int 3)))) (ip "NoDrawing" ["word","place"] bT (az (dC (.str "strings")) (az (kj mV (az (ay 0) aU)) aU))) bZ)
 (bY (jx (yT ix (az (yT jV (az (ay 0) aU)) aU)))
 (cC (fF (cZ fX (az (ay 0) aU))))))
def jr:nR:=fun ds G Q E=>∃ rows:Rows,ds=[enc rows]/\(rows.length<=1000/\rows.flatten.length<=60)/\match Hd rows with
 | none=>∀ p as G',HR G G' p as (rows.map fZ)->Q (.ref p) G'
 | some (w,n)=>E (Er w n) (fun _=>none)
theorem zQ(ds:List D)(G:Gp)(Q:DK)(E:lu)(h:jr ds G Q E):zA E (ends Q) (bL 1 ds) G:=by
 obtain⟨rows,rfl,⟨h10,h70⟩,q⟩:=h;unfold zA;unfold Hd at q;simp only [bY,dM,lC,nM,dC,kj,az,ay,bL,↓aB,↓a7,↓ah,↓aq,↓aZ,↓aY,↓aa,aU,ends,bZ,↓wt,jx,cC,fF,cZ,↓bN,↓if_true];refine iJ (IsL.enc rows) ?_;rw [ai];refine⟨_,rfl,?_⟩;have str:¬ (1<=rows.length/\rows.length<=3)->ip "NoDrawing" ["word","place"] bT (az (dC (.str "strings")) (az (kj mV (az (ay 0) aU)) aU)) E (ends Q) (bL 1 [enc rows]) G:=fun z=>by
  rw [if_pos z] at q;simp only [ip,az,dC,kj,ay,bL,↓aB,↓a7,↓ah,↓aq,↓aZ,↓aY,↓aa,aU,↓true_and];refine iJ (IsL.enc rows) ?_;rw [ai];exact⟨fun a=>yK a (by decide) (iD (show _<=1000 by lia) (by decide)),q⟩
 by_cases h1:(1:Int)<=rows.length
 rotate_left
 ·rw [if_neg (by simpa using h1)];exact str (fun z=>h1 (by lia))
 rw [if_pos (decide_eq_true h1)];refine⟨_,rfl,?_⟩;by_cases h3:(rows.length:Int)<=3
 rotate_left
 ·rw [if_pos (by simpa using h3)];exact str (fun z=>h3 (by lia))
 rw [if_neg (by simpa using h3)];rw [if_neg (fun z=>z ⟨by lia,by lia⟩)] at q;refine⟨rows,rfl,by lia,?_⟩;cases hf:fst [] rows.flatten with
 | some z =>
  obtain⟨w,n⟩:=z;rw [hf] at q;exact q
 | none =>
  rw [hf] at q;refine⟨rows.flatten,rfl,by lia,(IL _ _ hf gZ).2,?_⟩;cases hn:Vk rows.flatten with
  | some z=>rw [hn] at q; exact q
  | none =>
   rw [hn] at q;refine fun G1 l1=>?_;simp only;exact⟨rows,rfl,⟨by lia,fun r hr=>cE (iy hr) (by lia)⟩,fun p as G2 hr=>fy (q p as G2 (Sa l1 hr))⟩
end Wa
namespace Wa
open K2.P
open K2.za (fZ uj)
open K2.yf (HR HR.fz iy eZ qJ)
open K2.K3 (kh Dq Dq.enc eS)
open K2.K4 (HM qz mD Cp qL Cy)
def L9:Option (Str×Int)->D
 | none=>.cR
 | some (w,n)=>.tup [.str w,.int n]
theorem MZ{m:HM}{k:T2}{c:Int}{q:Nat}{G:Gp}{Q:DK}(gr:G q=some (.mO (fK m)))(e:oM m k=some c)(h:Q (.int c) G):qY (.ref q) (enc k) G Q:=by
 unfold qY;simp only [gr];refine⟨lP m _,?_⟩;rw [tX,e];exact h
def Bs:i5 :=
 (bY (dM (fk (a9 (wQ true) (kj mV (az (ay 0) aU)) (gU (az (dC (.int 1)) (az (dC (.int 2)) (az (dC (.int 3)) aU)))))) (cC (fF (gU (az (dC (.str "strings")) (az (kj mV (az (ay 0) aU)) aU))))) bZ)
 (bY (cT PA (aT 1))
 (bY (je (qx (ay 0)) (aT 2) (je (qx (ay 2)) (aT 3) (bY (cT (cZ iM (az (ay 3) (az (ay 1) aU))) (aT 4))
 (bY (dM (fk (a9 (Fv true) (ay 4) (dC (.str "")))) (cC (fF (gU (az (ay 4) (az (kj JC (az (ay 1) aU)) aU))))) bZ)
 (cT (a9 qY (ay 3) (dC (.int 2))) (SA (ay 1) (Cm (ay 3) cL (gL (dC (.int 2))))))))))
 (bY (cT (cZ eS (az (ay 0) aU)) (aT 5))
 (bY (je (qx (ay 5)) (aT 6) (bY (dM (GB (fk (a9 (wQ true) (gU (az (ay 6) (az (dC (.int 0)) aU))) (ay 1))) (fk (a9 (wQ true) (gU (az (ay 6) (az (dC (.int 1)) aU))) (ay 1)))) (cC (fF (gU (az (dC (.str "lone")) (az (ay 6) aU))))) bZ)
 (dM (fk (a9 (Fv true) (a9 qY (ay 1) (gU (az (ay 6) (az (dC (.int 0)) aU)))) (a9 qY (ay 1) (gU (az (ay 6) (az (dC (.int 1)) aU)))))) (cC (fF (gU (az (dC (.str "hands")) (az (ay 6) aU))))) bZ)))
 (bY (dM (fk (a9 ZW (kj mV (az (ay 5) aU)) (dC (.int 12)))) (cC (fF (gU (az (dC (.str "many")) (az (kj mV (az (ay 5) aU)) aU))))) bZ)
 (cC (fF (dC .cR)))))))))
def ij:nR:=fun ds G Q _=>∃ rows:Rows,ds=[enc rows]/\(rows.length<=1000/\rows.flatten.length<=60)/\Q (L9 (Hd rows)) G
theorem Cu(ds:List D)(G:Gp)(Q:DK)(h:ij ds G Q fun _ _=>False):Bs (fun _ _=>False) (ends Q) (bL 7 ds) G:=by
 obtain⟨rows,rfl,⟨h10,h60⟩,q⟩:=h;unfold Bs;unfold Hd at q;simp only [bY,dM,↓dD,a9,kj,az,ay,bL,↓aB,↓a7,↓ah,↓aq,bE,↓aZ,↓aY,↓aa,aU,gU,dC,cC,fF,ends,bZ,↓dZ,cT,PA,aT,↓ax,↓ar];refine iJ (IsL.enc rows) ?_;rw [ai];refine⟨by decide,uj (x:=(rows.length:Int)) (xs:=[1,2,3]) (by decide) ?_⟩;by_cases h1:1<=rows.length/\rows.length<=3
 rotate_left
 ·rw [decide_eq_false (by simp; lia)];rw [if_pos h1] at q;simp only [↓aR,↓bN,↓if_true];refine iJ (IsL.enc rows) ?_;rw [ai];exact⟨by decide,fy q⟩
 rw [decide_eq_true (by simp; lia)];rw [if_neg (fun z=>z h1)] at q;simp only [↓aR,↓bM,↓if_true,↓aw,mF,↓if_false];intro d hd;have cl:∀ {G':Gp} {L:List T3} {R:DK},G' d=some (.mO (fK (qz L)))->L.length<=1000->R (.int (L.length:Int)) G'->JC [.ref d] G' R:=fun {G' L R} h z r=>by
  unfold JC;simp only [h];have e:(fK (qz L)).length=L.length:=by unfold fK qz; rw [ai,ai]
  rw [e];exact⟨z,r⟩
 refine fY (fun τ G'=>(∃ a b c,τ=[some (enc rows),some (.ref d),a,b,c,none,none])/\kl G G'/\G' d=some (.mO (fK (qz rows.flatten)))/\fst [] rows.flatten=none) ?_ ?_
 ·intro N hN;simp only;refine i9 (xs:=rows) (fun pre τ G'=>(∃ a b c,τ=[some (enc rows),some (.ref d),a,b,c,none,none])/\kl G G'/\G' d=some (.mO (fK (qz pre.flatten)))/\∀ post,rows=pre++post->fst pre.flatten post.flatten=fst [] rows.flatten) ⟨⟨_,_,_,rfl⟩,.new hd,aW,fun post e=>by rw [e]; rfl⟩ (fun _ _ _ _=>trivial) ?_ ?_
  ·rintro pre r post τ G' N2 e ⟨⟨a,b,c,rfl⟩,l,gd,hf⟩ Ah;have hf:=hf _ e;simp only [aT,je,↓hW,ay,↓ax,↓ar,↓af,↓aa];refine i9 (xs:=r) (fun oy τ G2=>(∃ a b c,τ=[some (enc rows),some (.ref d),a,b,c,none,none])/\kl G G2/\G2 d=some (.mO (fK (qz (pre.flatten++oy))))/\∀ DR,r=oy++DR->fst (pre.flatten++oy) (DR++post.flatten)=fst [] rows.flatten) ⟨⟨_,_,_,rfl⟩,l,by rw [bV]; exact gd,fun DR e2=>by rw [bV,<-hf,eB,e2]; rfl⟩ (fun _ _ _ _=>trivial) ?_ ?_
   ·rintro oy t DR τ G2 N3 e2 ⟨⟨a,b,c,rfl⟩,l2,gd2,B3⟩ NG;have B3:=B3 _ e2;rw [aZ,IM] at B3;simp only [aT,↓dZ,cT,cZ,az,ay,↓ax,↓ar,↓af,↓aa,aU,bY,dM,↓dD,a9,dC,cC,fF,gU,kj,↓ah,↓aq,bZ];refine⟨t,_,d,rfl,gd2,?_⟩;rw [mD];cases NF:Ja t ((pre.flatten++oy).map T3.s) with
    | some w =>
     rw [NF] at B3;rw [<-B3] at q;have fl:=Gj NF;unfold wD;simp only;refine⟨_,_,.str _ fl.2.2,.str _ (eU _),?_⟩;have:ik (.str w) (.str "")=false:=beq_eq_false_iff_ne.mpr fl.2.1;rw [this];simp only [↓aR,↓bN,↓if_true];have hle:(pre.flatten++oy).length<=60:=by
      have:=congrArg (fun z:Rows=>z.flatten.length) e;simp only [jh,eB,aE,e2,ah] at this;rw [aE];lia
     refine cl gd2 (by lia) ?_;exact⟨by decide,jG l2 q⟩
    | none =>
     rw [NF] at B3;obtain⟨gp,Sf⟩:=Cc NF;unfold wD;simp only;refine⟨_,_,.str _ (eU _),.str _ (eU _),?_⟩;have:ik (.str "") (.str "")=true:=beq_self_eq_true _;rw [this];have hle:(pre.flatten++oy).length<=60:=by
      have:=congrArg (fun z:Rows=>z.flatten.length) e;simp only [jh,eB,aE,e2,ah] at this;rw [aE];lia
     simp only [↓aR,↓bM,↓if_true,↓aw,yQ,SA,ay,↓af,↓aa,Cm,cL,↓gV,dC,↓fx,↓ui,↓ah,↓aq,VU,↓ot,at2,↓if_false];refine⟨by decide,P.DI (k:=t.s) (v:=t.c) gd2 (by unfold qz; rw [ai]; lia) ?_⟩;refine NG _ _ ⟨⟨_,_,_,rfl⟩,l2.put hd,?_,fun Rk e'=>?_⟩
     ·rw [aW,ID Sf,cW]
     ·rw [e2,cW] at e';have:=mM e';rw [jZ] at this;cases this;rw [<-cW];exact B3
   ·rintro τ G2 ⟨⟨a,b,c,rfl⟩,l2,gd2,B3⟩;refine Ah _ _ ⟨⟨_,_,_,rfl⟩,l2,by rw [jh,Qv]; exact gd2,fun Rk e'=>?_⟩;rw [e,cW] at e';have:=mM e';rw [jZ] at this;cases this;rw [jh,Qv,<-B3 [] (by rw [bV]),aY]
  ·rintro τ G' ⟨⟨a,b,c,rfl⟩,l,gd,hf⟩;exact hN _ _ ⟨⟨_,_,_,rfl⟩,l,gd,(hf [] (by rw [bV])).symm⟩
 rintro _ G1 ⟨⟨a,b,c,rfl⟩,l1,g1,hf⟩;rw [hf] at q;simp only [↓dZ,cT,cZ,az,ay,↓aa,aU,aT,↓ax,↓ar];refine⟨_,rows,rfl,Dq.enc rows,by lia,?_⟩;have hlen:=Nk rows.flatten;have eln:kh rows=yb rows.flatten:=rfl;rw [eln];unfold Vk at q;refine fY (fun τ G'=>G'=G1/\nf rows.flatten (yb rows.flatten)=none/\∃ a b c e,τ=[some (enc rows),some (.ref d),a,b,c,some (enc (yb rows.flatten)),e]) ?_ ?_
 ·intro N hN;simp only [je,↓hW,ay,↓af,↓aa];refine i9 (xs:=yb rows.flatten) (fun pre τ G'=>G'=G1/\(∀ post,yb rows.flatten=pre++post->nf rows.flatten post=nf rows.flatten (yb rows.flatten))/\∃ a b c e,τ=[some (enc rows),some (.ref d),a,b,c,some (enc (yb rows.flatten)),e]) ⟨rfl,fun post e=>by rw [aY] at e; rw [<-e],_,_,_,_,rfl⟩ (fun _ _ _ _=>trivial) ?_ ?_
  ·rintro pre n post τ G' N2 e ⟨rfl,B3,a,b,c,e0,rfl⟩ Ah;have B3:=B3 _ e;have Np:∀ w:Int,decide ((⟨n,w⟩:T2)∈(qz rows.flatten).map (·.1))=decide ((⟨n,w⟩:T2)∈rows.flatten.map T3.s):=fun w=>by rw [mD]
   have en:(enc n:D)=.int n:=rfl;rw [FF] at B3;rw [en];simp only [aT,bY,dM,GB,↓dD,a9,gU,az,ay,↓ax,↓ar,↓af,↓aa,dC,aU,↓ah,↓aq,cC,fF,bZ,↓if_true];refine⟨by decide,Fu (k:=(⟨n,0⟩:T2)) g1 ?_⟩;have RH:¬ ((⟨n,0⟩:T2)∈rows.flatten.map T3.s/\(⟨n,1⟩:T2)∈rows.flatten.map T3.s)->Q (.tup [.str "lone",.int n]) G:=fun z=>by
    rw [if_pos z] at B3;rw [<-B3] at q;exact q
   have k0:=Np 0;have k1:=Np 1;by_cases h0:(⟨n,0⟩:T2)∈rows.flatten.map T3.s
   rotate_left
   ·rw [k0,decide_eq_false h0];simp only [↓aR,↓bN,↓if_true];exact⟨by decide,jG l1 (RH fun z=>h0 z.1)⟩
   rw [k0,decide_eq_true h0];simp only [↓aR,↓bM,↓if_true,↓aw,↓if_false];refine⟨by decide,Fu (k:=(⟨n,1⟩:T2)) g1 ?_⟩;by_cases h1:(⟨n,1⟩:T2)∈rows.flatten.map T3.s
   rotate_left
   ·rw [k1,decide_eq_false h1];simp only [↓aR,↓bN,↓if_true];exact⟨by decide,jG l1 (RH fun z=>h1 z.2)⟩
   rw [k1,decide_eq_true h1];rw [if_neg (fun z=>z ⟨h0,h1⟩)] at B3;simp only [↓aR,↓bM,↓if_true,↓aw,↓if_false];obtain⟨c0,e0⟩:=A1 h0;obtain⟨c1,e1⟩:=A1 h1;refine⟨by decide,MZ (k:=(⟨n,0⟩:T2)) g1 e0 ?_⟩;refine⟨by decide,MZ (k:=(⟨n,1⟩:T2)) g1 e1 ?_⟩;refine⟨_,_,.int _,.int _,?_⟩;rw [e0,e1] at B3;by_cases hc:c0=c1
   ·have:ik (.int c0) (.int c1)=true:=by rw [hc]; exact beq_self_eq_true c1
    rw [this];simp only [↓aR,↓bM,↓if_true,↓aw,↓if_false];rw [if_neg (fun z=>z (by rw [hc]))] at B3;exact Ah _ _ ⟨rfl,fun Rk e'=>by
     rw [e,cW] at e';have:=mM e';rw [jZ] at this;cases this;exact B3,_,_,_,_,rfl⟩
   ·have:ik (.int c0) (.int c1)=false:=beq_eq_false_iff_ne.mpr hc;rw [this];simp only [↓aR,↓bN,↓if_true];rw [if_pos (fun z=>hc (bC z))] at B3;rw [<-B3] at q;exact⟨by decide,jG l1 q⟩
  ·rintro τ G' ⟨rfl,B3,a,b,c,e,rfl⟩;exact hN _ _ ⟨rfl,(B3 [] (by rw [bV])).symm,_,_,_,_,rfl⟩
 rintro _ G1 ⟨rfl,J8,a,b,c,e,rfl⟩;rw [J8] at q;simp only [bY,dM,↓dD,a9,kj,az,ay,↓af,↓aa,aU,dC,cC,fF,gU,↓ah,↓aq,bZ];refine iJ (IsL.enc (yb rows.flatten)) ?_;rw [ai];simp only [↓AJ,↓aR];by_cases Yx:12 < (yb rows.flatten).length
 ·rw [if_pos (decide_eq_true (by lia))];rw [if_pos Yx] at q;refine iJ (IsL.enc (yb rows.flatten)) ?_;rw [ai];exact⟨by decide,jG l1 q⟩
 ·rw [if_neg (fun z=>Yx (by have:=of_decide_eq_true z; lia))];rw [if_neg Yx] at q;exact jG l1 q
end Wa
namespace EA
open K2.P
open K2.K4 (Cy wd Bc QB Hs wy hd yn B4 Ci NK j7 gC int_at Gk Ce BB wX YF Ew qi)
def Pl(x:Str):Prop:=∀ c∈x.cps.toList,c < 128
theorem Pl.all{x:Str}(h:Pl x):x.cps.all (· < 128)=true:=by
 rw [<-EK,fS];exact fun c hc=>decide_eq_true (h c hc)
theorem Pl.ok{x:Str}(h:Pl x):x.cps.all (· < 0x110000)=true:=by
 rw [<-EK,fS];exact fun c hc=>decide_eq_true (Uh (h c hc) (by decide))
theorem VR:((cA 128).all fun c=>cD "0123456789" ⟨#[c]⟩ == decide (48<=c/\c<=57))=true:=by decide +kernel
theorem dig {c:Nat} (h:c < 128):cD "0123456789" ⟨#[c]⟩=decide (48<=c/\c<=57):=by
 have:=List.all_eq_true.mp VR c (List.mem_range.mpr h);exact eq_of_beq this
theorem Vs:((cA 10).all fun a=>(cA 10).all fun b=>(cA 10).all fun c=>(a == 0||(vS (a:Int) == (⟨#[48+a]⟩:Str)&&vS ((10 * a+b:Nat):Int) == (⟨#[48+a,48+b]⟩:Str)&&vS ((100 * a+10 * b+c:Nat):Int) == (⟨#[48+a,48+b,48+c]⟩:Str))))=true:=by decide +kernel
theorem Ly{a b c:Nat}(ha:a < 10)(hb:b < 10)(hc:c < 10)(h0:a≠0):vS (a:Int)=(⟨#[48+a]⟩:Str)/\vS ((10 * a+b:Nat):Int)=(⟨#[48+a,48+b]⟩:Str)/\vS ((100 * a+10 * b+c:Nat):Int)=(⟨#[48+a,48+b,48+c]⟩:Str):=by
 have:=List.all_eq_true.mp (List.all_eq_true.mp (List.all_eq_true.mp Vs a (List.mem_range.mpr ha)) b (List.mem_range.mpr hb)) c (List.mem_range.mpr hc);simp only [j5,aI,beq_iff_eq] at this;rcases this with h | ⟨⟨h1,h2⟩,h3⟩
 ·exact absurd h h0
 ·exact⟨h1,h2,h3⟩
def Fg(l:List Nat):Prop:=(1<=l.length/\l.length<=3)/\l.head?≠some 48/\∀ c∈l,48<=c/\c<=57
instance (l:List Nat):Decidable (Fg l):=by unfold Fg; infer_instance
def vl(l:List Nat):Int:=l.foldl (fun (n:Int) (c:Nat)=>10 * n+((c:Int) - 48)) 0
theorem YG{l:List Nat}(h:Fg l):(1<=vl l/\vl l<=999)/\(⟨l.toArray⟩:Str)=vS (vl l):=by
 obtain⟨⟨h1,h3⟩,h0,hd⟩:=h
 match l,h1,h3,h0,hd with
 | [a],_,_,h0,hd =>
  have ha:=hd a (by simp);obtain⟨x,rfl⟩:∃ x,a=48+x:=⟨a - 48,by lia⟩;have hx:x≠0:=fun z=>h0 (by subst z; rfl);have e:=(Ly (a:=x) (b:=0) (c:=0) (by lia) (by decide) (by decide) hx).1;have ev:vl [48+x]=(x:Int):=by unfold vl; simp only [iP,zY]; lia
  rw [ev];exact⟨by lia,e.symm⟩
 | [a,b],_,_,h0,hd =>
  have ha:=hd a (by simp); have hb:=hd b (by simp);obtain⟨x,rfl⟩:∃ x,a=48+x:=⟨a - 48,by lia⟩;obtain⟨y,rfl⟩:∃ x,b=48+x:=⟨b - 48,by lia⟩;have hx:x≠0:=fun z=>h0 (by subst z; rfl);have e:=(Ly (a:=x) (b:=y) (c:=0) (by lia) (by lia) (by decide) hx).2.1;have ev:vl [48+x,48+y]=((10 * x+y:Nat):Int):=by unfold vl; simp only [iP,zY]; lia
  rw [ev];exact⟨by lia,e.symm⟩
 | [a,b,c],_,_,h0,hd =>
  have ha:=hd a (by simp); have hb:=hd b (by simp); have hc:=hd c (by simp);obtain⟨x,rfl⟩:∃ x,a=48+x:=⟨a - 48,by lia⟩;obtain⟨y,rfl⟩:∃ x,b=48+x:=⟨b - 48,by lia⟩;obtain⟨z,rfl⟩:∃ x,c=48+x:=⟨c - 48,by lia⟩;have hx:x≠0:=fun w=>h0 (by subst w; rfl);have e:=(Ly (a:=x) (b:=y) (c:=z) (by lia) (by lia) (by lia) hx).2.2;have ev:vl [48+x,48+y,48+z]=((100 * x+10 * y+z:Nat):Int):=by unfold vl; simp only [iP,zY]; lia
  rw [ev];exact⟨by lia,e.symm⟩
 | _ :: _ :: _ :: _ :: r,_,h3,_,_=>simp at h3
def Wn(l:List Nat):Option T3:=match l.reverse with
 | h :: w :: f=>if (w=111\/w=117)/\(h=43\/h=45)/\Fg f.reverse then some ⟨vl f.reverse,(if w=111 then 0 else 1),(if h=43 then 1 else -1)⟩ else none
 | _=>none
def pw(x:Str):Option T3:=Wn x.cps.toList
theorem K1(f:List Nat)(w h:Nat):Wn (f++[w,h])=if (w=111\/w=117)/\(h=43\/h=45)/\Fg f then some ⟨vl f,(if w=111 then 0 else 1),(if h=43 then 1 else -1)⟩ else none:=by
 unfold Wn;simp
theorem U4{x:Str}{p:T3}(h:pw x=some p):Cy p/\x=wd p:=by
 unfold pw Wn at h;split at h
 ·rename_i h0 w f e;split at h
  ·rename_i c;obtain⟨cw,ch,cf⟩:=c;cases h;obtain⟨v1,ev⟩:=YG cf;have ex:x.cps.toList=f.reverse++[w,h0]:=by
    have:=congrArg List.reverse e;rw [Uj] at this;rw [this]; simp
   refine⟨⟨v1.1,v1.2,?_,?_⟩,?_⟩
   ·show (if w=111 then (0:Int) else 1)=0\/_=1;split <;> simp
   ·show (if h0=43 then (1:Int) else -1)=1\/_=-1;split <;> simp
   ·apply j7;rw [ex,Hs,gC,gC];show _=(vS (vl f.reverse)).cps.toList++_;rw [<-ev];show f.reverse++[w,h0]=f.reverse++_;congr 1;rcases cw with rfl | rfl <;> rcases ch with rfl | rfl <;> (dsimp only; decide)
  ·cases h
 ·cases h
def tG:i5 :=
 (bY (dM (GB (lC (nM Qb Qb (dC (.int 1)) (kj Co (az (ay 0) aU)) (dC (.int 3)))) (fk (a9 (Fv false) (a9 Bv (ay 0) (dC (.int 0))) (dC (.str "0"))))) (cC (fF (dC (.bl false)))) bZ)
 (cC (fF (kj VZ (az (lg 1 [] (X7 (ay 0)) (aT 0) none (a9 (CW false) (ay 0) (dC (.str "0123456789")))) aU)))))
def kN:nR:=fun ds G Q _=>∃ x:Str,ds=[.str x]/\(Pl x/\x.length<=1000)/\Q (.bl (decide (Fg x.cps.toList))) G
theorem item_at{x:Str}{i:Int}{j c:Nat}(h:x.cps.toList[j]?=some c)(hi:i=(j:Int)\/i=(j:Int) - x.length):eR x i=⟨#[c]⟩:=by
 have hj:j < x.length:=by
  have:=(List.getElem?_eq_some_iff.mp h).1;exact this
 have e:vX i x.length=some j:=by
  unfold vX;rcases hi with rfl | rfl
  ·simp; lia
  ·simp; lia
 unfold eR sM;rw [e];have:x.cps[j]?=some c:=by rw [<-cz]; exact h
 simp [this]
theorem Ry(a b:Nat):ik (.str (⟨#[a]⟩:Str)) (.str (⟨#[b]⟩:Str))=decide (a=b):=by
 show ((⟨#[a]⟩:Str) == ⟨#[b]⟩)=_;by_cases h:a=b
 ·subst h; simp
 ·rw [decide_eq_false h];exact beq_eq_false_iff_ne.mpr fun z=>h (by injection z with z; simpa using z)
def fb:D->Bool
 | .str y=>cD "0123456789" y
 | _=>false
theorem Cr(ds:List D)(G:Gp)(Q:DK)(h:kN ds G Q fun _ _=>False):tG (fun _ _=>False) (ends Q) (bL 1 ds) G:=by
 obtain⟨x,rfl,⟨hp,hl⟩,q⟩:=h;have hlen:x.length=x.cps.toList.length:=rfl;unfold tG;simp only [bY,dM,GB,lC,nM,dC,kj,az,ay,bL,↓aB,↓a7,↓ah,↓aq,↓aZ,↓aY,↓aa,aU,cC,fF,ends,bZ,lg,↓if_true,↓dD,a9,↓bN];refine⟨by lia,?_⟩;refine⟨_,rfl,?_⟩;by_cases c1:1<=x.length
 ·rw [if_pos (decide_eq_true (by lia))];refine⟨_,rfl,?_⟩;by_cases c3:x.length<=3
  ·rw [if_neg (by simp; lia)];obtain⟨a,r,ex⟩:∃ a r,x.cps.toList=a :: r:=by
    cases e:x.cps.toList with
    | nil=>rw [e] at hlen; simp at hlen; lia
    | cons a r=>exact⟨a,r,rfl⟩
   refine⟨⟨by lia,by lia,by lia⟩,_,_,.str _ (wX _ _ hp.all),.str _ (by decide +kernel),?_⟩;have ei:eR x 0=⟨#[a]⟩:=item_at (j:=0) (c:=a) (by rw [ex]; rfl) (.inl rfl);rw [ei];have e0:ik (.str (⟨#[a]⟩:Str)) (.str "0")=decide (a=48):=Ry a 48;rw [e0];by_cases c0:a=48
   ·rw [decide_eq_true c0];simp only [↓aR,↓aw,↓bM,↓if_false,↓if_true];rw [decide_eq_false (fun h=>h.2.1 (by rw [ex,c0]; rfl))] at q;exact fy q
   ·rw [decide_eq_false c0];simp only [↓aR,↓aw,↓bN,↓if_false];refine⟨hp.all,TJ (by rw [ai]; show x.length<=_; lia),?_⟩;refine NV (fun pre acc τ G'=>G'=G/\acc=(pre.map fb).map D.bl/\∃ a,τ=[a]) ⟨rfl,rfl,_,rfl⟩ (fun _ _ _ _ _=>trivial) ?_ ?_
    ·rintro pre d post acc τ G3 N3 e3 ⟨rfl,rfl,a,rfl⟩ NG;obtain⟨c,hc,rfl⟩:∃ c∈x.cps.toList,D.str ⟨#[c]⟩=d:=by
      have:d∈x.cps.toList.map fun c=>D.str ⟨#[c]⟩:=by rw [e3]; simp
      exact List.mem_map.mp this
     simp only [aT,a9,ay,↓ar,↓aa,dC];show N3 _ _ _;refine NG _ _ _ ⟨rfl,?_,_,rfl⟩;have hcc:(if false=true then !(cD "0123456789" ⟨#[c]⟩) else cD "0123456789" ⟨#[c]⟩)=fb (.str ⟨#[c]⟩):=rfl;rw [hcc];simp
    ·rintro acc τ G3 ⟨rfl,rfl,a',rfl⟩ p NC;refine⟨_,vA (IsL.ref aW),?_⟩;have:((x.cps.toList.map fun c=>D.str ⟨#[c]⟩).map fb).all id=decide (Fg x.cps.toList):=by
      rw [Bool.eq_iff_iff,fS,decide_eq_true_eq];constructor
      ·intro h;refine⟨⟨c1,c3⟩,by rw [ex]; simpa using c0,fun c hc=>?_⟩;have:=h (fb (.str ⟨#[c]⟩)) (List.mem_map.mpr ⟨_,List.mem_map.mpr ⟨c,hc,rfl⟩,rfl⟩);have this:cD "0123456789" ⟨#[c]⟩=true:=this;rw [dig (hp c hc)] at this;exact of_decide_eq_true this
      ·intro h b hb;obtain⟨d,hd,rfl⟩:=List.mem_map.mp hb;obtain⟨c,hc,rfl⟩:=List.mem_map.mp hd;show cD "0123456789" ⟨#[c]⟩=true;rw [dig (hp c hc)];exact decide_eq_true (h.2.2 c hc)
     rw [this];exact jG (.new NC) q
  ·rw [if_pos (by simp; lia)];rw [decide_eq_false (fun h=>c3 h.1.2)] at q;exact fy q
 ·rw [if_neg (by simp; lia)];rw [decide_eq_false (fun h=>c1 h.1.1)] at q;exact fy q
theorem W5(a b c d:Nat):((⟨#[a,b]⟩:Str) == ⟨#[c,d]⟩)=(decide (a=c)&&decide (b=d)):=by
 by_cases h:a=c/\b=d
 ·obtain⟨rfl,rfl⟩:=h; simp
 ·have:¬ ((⟨#[a,b]⟩:Str)=⟨#[c,d]⟩):=fun z=>h (by injection z with z; simpa using z);rw [beq_eq_false_iff_ne.mpr this];by_cases h1:a=c
  ·have:b≠d:=fun z=>h ⟨h1,z⟩;simp [this]
  ·simp [h1]
theorem RG(w h:Nat):Ci.lookup (⟨#[w,h]⟩:Str)=if (w=111\/w=117)/\(h=43\/h=45) then some ((if w=111 then 0 else 1),(if h=43 then 1 else -1)) else none:=by
 have e:Ci=[((⟨#[111,43]⟩:Str),0,1),(⟨#[111,45]⟩,0,-1),(⟨#[117,43]⟩,1,1),(⟨#[117,45]⟩,1,-1)]:=by decide
 rw [e];simp only [fR,W5,List.lookup_nil];by_cases w1:w=111
 ·subst w1;by_cases h1:h=43
  ·subst h1; rfl
  ·by_cases h2:h=45
   ·subst h2; rfl
   ·simp [h1,h2]
 ·by_cases w2:w=117
  ·subst w2;by_cases h1:h=43
   ·subst h1; rfl
   ·by_cases h2:h=45
    ·subst h2; rfl
    ·simp [h1,h2]
  ·simp [w1,w2]
theorem KG{x:Str}(h:2<=x.length):∃ f w e,x.cps.toList=f++[w,e]/\x=(⟨f.toArray⟩:Str)++⟨#[w,e]⟩:=by
 have hl:2<=x.cps.toList.reverse.length:=by rw [List.length_reverse]; exact h
 match q:x.cps.toList.reverse,hl with
 | e :: w :: r,_ =>
  have ex:x.cps.toList=r.reverse++[w,e]:=by
   have:=congrArg List.reverse q;rw [Uj] at this;rw [this]; simp
  exact⟨r.reverse,w,e,ex,j7 (by rw [ex,gC])⟩
theorem short{x:Str}(h:x.length < 2):Ci.lookup (cV x (some (-2)) none)=none/\pw x=none:=by
 constructor
 ·have hl:(cV x (some (-2)) none).length < 2:=iD (PySem.Txt.slice_le x _ _) h;generalize cV x (some (-2)) none=y at hl;have ne:∀ a b,((y:Str) == ⟨#[a,b]⟩)=false:=fun a b=>beq_eq_false_iff_ne.mpr fun z=>by rw [z] at hl; exact absurd hl (eQ 2)
  have e:Ci=[((⟨#[111,43]⟩:Str),0,1),(⟨#[111,45]⟩,0,-1),(⟨#[117,43]⟩,1,1),(⟨#[117,45]⟩,1,-1)]:=by decide
  rw [e];simp only [fR,ne,List.lookup_nil]
 ·unfold pw Wn;have hl:x.cps.toList.reverse.length < 2:=by rw [List.length_reverse]; exact h
  split
  ·rename_i e;rw [e] at hl; simp at hl; lia
  ·rfl
def pE:i5 :=
 (cC (fF (qH (YO [("o+",0,1),("o-",0,-1),("u+",1,1),("u-",1,-1)] (oH (ay 0) (gL (sP tL (dC (.int 2)))) cL)) (cZ kN (az (oH (ay 0) cL (gL (sP tL (dC (.int 2))))) aU)))))
def i7:nR:=fun ds G Q _=>∃ x:Str,ds=[.str x]/\(Pl x/\x.length<=1000)/\Q (.bl (pw x).isSome) G
theorem xS(ds:List D)(G:Gp)(Q:DK)(h:i7 ds G Q fun _ _=>False):pE (fun _ _=>False) (ends Q) (bL 1 ds) G:=by
 obtain⟨x,rfl,⟨hp,hl⟩,q⟩:=h;unfold pE;simp only [cC,fF,↓qG,YO,oH,ay,bL,↓aB,↓a7,↓ah,↓aq,↓aZ,↓aY,↓aa,↓gV,sP,dC,↓oq,↓fx,cL,↓aR,cZ,az,aU,ends];refine⟨by lia,?_⟩;by_cases h2:2<=x.length
 ·obtain⟨f,w,e,ex,exx⟩:=KG h2;have sl:=qi (⟨f.toArray⟩:Str) ⟨#[w,e]⟩ 2 rfl (by decide);rw [<-exx] at sl;have s1:cV x (some (-2)) none=⟨#[w,e]⟩:=sl.1;have s2:cV x none (some (-2))=⟨f.toArray⟩:=sl.2;have el:=RG w e;have ep:pw x=_:=(congrArg Wn ex).trans (K1 f w e);rw [ep] at q;unfold Ci at el;rw [s1,s2,el];by_cases cc:(w=111\/w=117)/\(e=43\/e=45)
  ·rw [if_pos cc];refine⟨by lia,⟨f.toArray⟩,rfl,⟨fun c hc=>hp c (by rw [ex]; exact pU _ hc),?_⟩,fy ?_⟩
   ·have:(⟨f.toArray⟩:Str).length<=x.length:=by rw [exx,fj]; lia
    lia
   ·have:(decide (Fg (⟨f.toArray⟩:Str).cps.toList))=(if (w=111\/w=117)/\(e=43\/e=45)/\Fg f then some (⟨vl f,(if w=111 then 0 else 1),(if e=43 then 1 else -1)⟩:T3) else none).isSome:=by
     by_cases cf:Fg f
     ·rw [if_pos ⟨cc.1,cc.2,cf⟩,decide_eq_true (show Fg (⟨f.toArray⟩:Str).cps.toList from cf)]; rfl
     ·rw [if_neg (fun z=>cf z.2.2),decide_eq_false (show ¬ Fg (⟨f.toArray⟩:Str).cps.toList from cf)]; rfl
    rw [this]; exact q
  ·rw [if_neg cc];rw [if_neg (fun z=>cc ⟨z.1,z.2.1⟩)] at q;exact fy q
 ·obtain⟨e1,e2⟩:=short (x:=x) (by lia);unfold Ci at e1;rw [e1];rw [e2] at q;exact fy q
def l8:i5 :=
 (Jp [("o+",0,1),("o-",0,-1),("u+",1,1),("u-",1,-1)] 1 (oH (ay 0) (gL (sP tL (dC (.int 2)))) cL) (kj NZ (az (oH (ay 0) cL (gL (sP tL (dC (.int 2))))) aU)))
def iR:nR:=fun ds G Q _=>∃ (x:Str) (p:T3),ds=[.str x]/\pw x=some p/\Q (enc p) G
theorem p6(ds:List D)(G:Gp)(Q:DK)(h:iR ds G Q fun _ _=>False):l8 (fun _ _=>False) (ends Q) (bL 2 ds) G:=by
 obtain⟨x,p,rfl,e,q⟩:=h;obtain⟨g,rfl⟩:=U4 e;exact K4.p6 _ G Q ⟨p,rfl,g,q⟩
end EA
namespace EA
open K2.P
open K2.K4 (Cy wd j7 gC wX qi)
theorem VI:((cA 128).all fun c=>(!(decide (48<=c)&&decide (c<=57))||fV "0123456789" ⟨#[c]⟩ == (c:Int) - 48)&&(cD "ou" ⟨#[c]⟩ == decide (c=111\/c=117))&&(cD "+-" ⟨#[c]⟩ == decide (c=43\/c=45)))=true:=by decide +kernel
theorem fnd {c:Nat} (h:c < 128):(48<=c->c<=57->fV "0123456789" ⟨#[c]⟩=(c:Int) - 48)/\cD "ou" ⟨#[c]⟩=decide (c=111\/c=117)/\cD "+-" ⟨#[c]⟩=decide (c=43\/c=45):=by
 have:=List.all_eq_true.mp VI c (List.mem_range.mpr h);simp only [aI,j5,g6,Bool.and_eq_false_iff,decide_eq_false_iff_not,beq_iff_eq] at this;obtain⟨⟨h1,h2⟩,h3⟩:=this;exact⟨fun a b=>h1.elim (fun z=>by lia) id,h2,h3⟩
def pD:Option T3->D
 | some p=>enc p
 | none=>.cR
theorem Fw{x:Str}(h:x.length < 3\/5 < x.length\/x.cps.toList.head?=some 48):pw x=none:=by
 by_cases h2:2<=x.length
 ·obtain⟨f,w,e,ex,exx⟩:=KG h2;have ep:pw x=_:=(congrArg Wn ex).trans (K1 f w e);rw [ep,if_neg];rintro⟨_,_,⟨l1,l3⟩,h0,_⟩;have hl:x.length=f.length+2:=by
   show x.cps.toList.length=_;rw [ex,aE]; rfl
  rcases h with h | h | h
  ·lia
  ·lia
  ·rw [ex] at h;cases f with
   | nil=>simp at l1
   | cons a r=>exact h0 (by simpa using h)
 ·exact(short (by lia)).2
def tK:i5 :=
 (bY (dM (GB (fk (a9 ZV (kj Co (az (ay 0) aU)) (dC (.int 3)))) (GB (fk (a9 ZW (kj Co (az (ay 0) aU)) (dC (.int 5)))) (fk (a9 (Fv false) (a9 Bv (ay 0) (dC (.int 0))) (dC (.str "0")))))) (cC (fF (dC .cR))) bZ)
 (bY (dM (GB (fk (a9 (CW true) (a9 Bv (ay 0) (sP tL (dC (.int 2)))) (dC (.str "ou")))) (fk (a9 (CW true) (a9 Bv (ay 0) (sP tL (dC (.int 1)))) (dC (.str "+-"))))) (cC (fF (dC .cR))) bZ)
 (bY (cT (dC (.int 0)) (aT 1))
 (bY (je (X7 (oH (ay 0) cL (gL (sP tL (dC (.int 2)))))) (aT 2) (bY (dM (fk (a9 (CW true) (ay 2) (dC (.str "0123456789")))) (cC (fF (dC .cR))) bZ)
 (cT (a9 qm (a9 Fq (dC (.int 10)) (ay 1)) (uB QE w6 (dC (.str "0123456789")) (az (ay 2) aU))) (aT 1))))
 (cC (fF (gU (az (ay 1) (az (uB QE w6 (dC (.str "ou")) (az (a9 Bv (ay 0) (sP tL (dC (.int 2)))) aU)) (az (a9 KZ (a9 Fq (dC (.int 2)) (uB QE w6 (dC (.str "-+")) (az (a9 Bv (ay 0) (sP tL (dC (.int 1)))) aU))) (dC (.int 1))) aU))))))))))
def kO:nR:=fun ds G Q _=>∃ x:Str,ds=[.str x]/\(Pl x/\x.length<=1000)/\Q (pD (pw x)) G
theorem Ct(ds:List D)(G:Gp)(Q:DK)(h:kO ds G Q fun _ _=>False):tK (fun _ _=>False) (ends Q) (bL 3 ds) G:=by
 obtain⟨x,rfl,⟨hp,hl⟩,q⟩:=h;have hlen:x.length=x.cps.toList.length:=rfl;unfold tK;simp only [bY,dM,GB,↓dD,a9,kj,az,ay,bL,↓aB,↓a7,↓ah,↓aq,bE,↓aZ,↓aY,↓aa,aU,dC,cC,fF,ends,bZ,sP,↓oq,↓dZ,cT,aT,↓ax,↓ar,↓if_true];refine⟨by lia,?_⟩;simp only [↓Fs,↓aR];by_cases c3:(x.length:Int) < 3
 ·rw [decide_eq_true c3];rw [Fw (.inl (by lia))] at q;exact fy q
 rw [decide_eq_false c3];simp only [↓aw,↓if_false];refine⟨by lia,?_⟩;simp only [↓AJ,↓aR];by_cases c5:(x.length:Int) > 5
 ·rw [decide_eq_true c5];rw [Fw (.inr (.inl (by lia)))] at q;exact fy q
 rw [decide_eq_false c5];simp only [↓aw,↓if_false];obtain⟨f,w,e,ex,exx⟩:=KG (x:=x) (by lia);have hf:x.length=f.length+2:=by rw [hlen,ex,aE]; rfl
 obtain⟨a,r,ef⟩:∃ a r,f=a :: r:=by
  cases f with
  | nil=>simp at hf; lia
  | cons a r=>exact⟨a,r,rfl⟩
 refine⟨⟨by lia,by lia,by lia⟩,_,_,.str _ (wX _ _ hp.all),.str _ (by decide +kernel),?_⟩;have ei:eR x 0=⟨#[a]⟩:=item_at (j:=0) (c:=a) (by rw [ex,ef]; rfl) (.inl rfl);rw [ei];have e0:ik (.str (⟨#[a]⟩:Str)) (.str "0")=decide (a=48):=Ry a 48;rw [e0];by_cases c0:a=48
 ·rw [decide_eq_true c0];rw [Fw (.inr (.inr (by rw [ex,ef,c0]; rfl)))] at q;exact fy q
 rw [decide_eq_false c0];simp only [↓aR,↓aw,↓bN,↓if_false];have hw:w < 128:=hp w (by rw [ex]; simp);have he:e < 128:=hp e (by rw [ex]; simp);have iw:eR x (-2)=⟨#[w]⟩:=item_at (j:=f.length) (c:=w) (by rw [ex]; simp) (.inr (by lia));have ie:eR x (-1)=⟨#[e]⟩:=item_at (j:=f.length+1) (c:=e) (by rw [ex]; simp) (.inr (by lia));have ep:pw x=_:=(congrArg Wn ex).trans (K1 f w e);have s2:cV x none (some (-2))=⟨f.toArray⟩:=by
  have sl:=qi (⟨f.toArray⟩:Str) ⟨#[w,e]⟩ 2 rfl (by decide);rw [<-exx] at sl;exact sl.2
 refine⟨⟨by lia,by lia,by lia⟩,?_⟩;rw [iw];simp only [CW,↓aR,↓if_true];have cou:cD (a8 "ou") ⟨#[w]⟩=decide (w=111\/w=117):=(fnd hw).2.1;have cpm:cD (a8 "+-") ⟨#[e]⟩=decide (e=43\/e=45):=(fnd he).2.2;rw [cou];by_cases cw:w=111\/w=117
 rotate_left
 ·rw [decide_eq_false cw,if_pos (by decide)];rw [ep,if_neg (fun z=>cw z.1)] at q;exact fy q
 rw [decide_eq_true cw,if_neg (by decide)];refine⟨⟨by lia,by lia,by lia⟩,?_⟩;rw [ie];dsimp only;rw [cpm];by_cases ce:e=43\/e=45
 rotate_left
 ·rw [decide_eq_false ce,if_pos (by decide)];rw [ep,if_neg (fun z=>ce z.2.1)] at q;exact fy q
 rw [decide_eq_true ce,if_neg (by decide)];simp only [je];refine⟨by lia,?_⟩;rw [s2];have IE:∀ c∈f,c < 128:=fun c hc=>hp c (by rw [ex]; exact pU _ hc);refine⟨?_,?_⟩
 ·exact Pl.all (x:=⟨f.toArray⟩) IE
 refine i9 (xs:=f) (f:=fun c=>D.str ⟨#[c]⟩) (fun pre τ G'=>G'=G/\(∀ c∈pre,48<=c/\c<=57)/\∃ b,τ=[some (.str x),some (.int (vl pre)),b]) ⟨rfl,(fun c hc=>by cases hc),_,rfl⟩ (fun _ _ _ _=>trivial) ?_ ?_
 ·rintro pre c post τ G' N ef' ⟨rfl,hd,b,rfl⟩ hN;have hc:=IE c (by rw [ef']; simp);simp only [aT,bY,dM,↓dD,a9,ay,↓ax,↓ar,↓af,↓aa,dC,CW,↓aR,↓if_true,cC,fF,bZ,cT,↓tM,uB,↓pf,az,aU,↓true_and];have cd:cD (a8 "0123456789") ⟨#[c]⟩=decide (48<=c/\c<=57):=dig hc;rw [cd];by_cases vT:48<=c/\c<=57
  ·rw [decide_eq_true vT,if_neg (by decide)];have fc:fV (a8 "0123456789") ⟨#[c]⟩=(c:Int) - 48:=(fnd hc).1 vT.1 vT.2;refine⟨.inl ⟨by lia,by lia⟩,by rw [fc]; lia,?_⟩;rw [fc];refine hN _ _ ⟨rfl,fun d FX=>?_,some (.str ⟨#[c]⟩),?_⟩
   ·rcases List.mem_append.mp FX with z | z
    ·exact hd d z
    ·rw [List.mem_singleton.mp z]; exact vT
   ·rw [show vl (pre++[c])=10 * vl pre+((c:Int) - 48) from by unfold vl; rw [Dy]; rfl]
  ·rw [decide_eq_false vT,if_pos (by decide)];rw [ep,if_neg (fun z=>vT (z.2.2.2.2 c (by rw [ef']; simp)))] at q;exact fy q
 ·rintro τ G' ⟨rfl,hd,b,rfl⟩;have hF:Fg f:=⟨⟨by rw [ef]; simp,by lia⟩,by rw [ef]; simpa using c0,hd⟩;rw [ep,if_pos ⟨cw,ce,hF⟩] at q;simp only [cC,fF,gU,az,ay,↓af,↓aa,uB,dC,↓pf,a9,sP,↓oq,aU,↓ah,↓aq,↓true_and];have fw:0<=fV (a8 "ou") ⟨#[w]⟩/\fV (a8 "ou") ⟨#[w]⟩=if w=111 then 0 else 1:=by rcases cw with rfl | rfl <;> decide +kernel
  have fe:0<=fV (a8 "-+") ⟨#[e]⟩/\2 * fV (a8 "-+") ⟨#[e]⟩ - 1=if e=43 then 1 else -1:=by rcases ce with rfl | rfl <;> decide +kernel
  refine⟨⟨by lia,by lia,by lia⟩,?_⟩;rw [iw];refine⟨fw.1,⟨by lia,by lia,by lia⟩,?_⟩;rw [ie];refine⟨fe.1,.inl ⟨by lia,by lia⟩,by decide,?_⟩;show Qj G' (D.tup [D.int (vl f),D.int (fV (a8 "ou") ⟨#[w]⟩),D.int (2 * fV (a8 "-+") ⟨#[e]⟩ - 1)]) Q;rw [fw.2,fe.2];exact fy q
end EA
namespace EA
open K2.P
open K2.K4 (Cy wd j7 gC jn AR Bi lT xE qW yC)
theorem RT(c:Nat):∀ l:List Nat,∃ ls:List (List Nat),ls≠[]/\(∀ y∈ls,c∉y)/\l=jn c ls/\(∀ y∈ls,∀ a∈y,a∈l)/\(ls.map gO).sum+ls.length=l.length+1
 | []=>⟨[[]],by simp,by simp,rfl,by simp,rfl⟩
 | a :: r=>by
  obtain⟨ls,h1,h2,h3,h4,h5⟩:=RT c r;cases ls with
  | nil=>exact absurd rfl h1
  | cons y ys =>
   by_cases e:a=c
   ·refine⟨[] :: y :: ys,by simp,?_,?_,?_,?_⟩
    ·intro z hz;rcases List.mem_cons.mp hz with rfl | hz
     ·simp
     ·exact h2 z hz
    ·rw [h3,e]; rfl
    ·intro z hz b hb;rcases List.mem_cons.mp hz with rfl | hz
     ·cases hb
     ·exact .tail _ (h4 z hz b hb)
    ·simp at h5 ⊢; lia
   ·refine⟨(a :: y) :: ys,by simp,?_,?_,?_,?_⟩
    ·intro z hz;rcases List.mem_cons.mp hz with rfl | hz
     ·intro q;rcases List.mem_cons.mp q with q | q
      ·exact e q.symm
      ·exact h2 y (by simp) q
     ·exact h2 z (by simp [hz])
    ·rw [h3]; cases ys <;> rfl
    ·intro z hz b hb;rcases List.mem_cons.mp hz with rfl | hz
     ·rcases List.mem_cons.mp hb with rfl | hb
      ·simp
      ·exact .tail _ (h4 y (by simp) b hb)
     ·exact .tail _ (h4 z (by simp [hz]) b hb)
    ·simp at h5 ⊢; lia
theorem nS(c:Nat)(x:Str):ck x ⟨#[c]⟩≠[]/\x=gB ⟨#[c]⟩ (ck x ⟨#[c]⟩)/\(∀ y∈ck x ⟨#[c]⟩,∀ a∈y.cps.toList,a∈x.cps.toList)/\((ck x ⟨#[c]⟩).map uG).sum+(ck x ⟨#[c]⟩).length=x.length+1:=by
 obtain⟨ls,h1,h2,h3,h4,h5⟩:=RT c x.cps.toList;have em:(ls.map fun l=>(⟨l.toArray⟩:Str)).map (·.cps.toList)=ls:=by rw [eD]; exact List.map_id' ls
 have ex:x=gB ⟨#[c]⟩ (ls.map fun l=>(⟨l.toArray⟩:Str)):=j7 (by rw [AR,em]; exact h3);have es:ck x ⟨#[c]⟩=ls.map fun l=>(⟨l.toArray⟩:Str):=by
  rw [ex];exact Bi (fun z=>h1 (List.map_eq_nil_iff.mp z)) fun y hy=>by
   obtain⟨l,hl,rfl⟩:=List.mem_map.mp hy;exact h2 l hl
 rw [es];refine⟨fun z=>h1 (List.map_eq_nil_iff.mp z),ex,fun y hy=>?_,?_⟩
 ·obtain⟨l,hl,rfl⟩:=List.mem_map.mp hy;exact h4 l hl
 ·rw [ai,eD];exact h5
theorem UB{l:List Nat}:∀ {a:Nat},a∈l->a<=l.sum:=by
 induction l with
 | nil=>intro a h; cases h
 | cons b r ih =>
  intro a h;rw [u3];rcases List.mem_cons.mp h with rfl | h
  ·lia
  ·have:=ih h; lia
theorem pq{c:Nat}{x y:Str}(h:y∈ck x ⟨#[c]⟩)(hp:Pl x):Pl y/\y.length<=x.length:=by
 obtain⟨h1,h2,h3,h4⟩:=nS c x;refine⟨fun a ha=>hp a (h3 y h a ha),?_⟩;have:=UB (List.mem_map.mpr ⟨y,h,rfl⟩:y.length∈(ck x ⟨#[c]⟩).map uG);have:1<=(ck x ⟨#[c]⟩).length:=by
  cases e:ck x ⟨#[c]⟩ with
  | nil=>exact absurd e h1
  | cons a b=>simp
 lia
def Gm:Nat->List Str->Option Nat
 | _,[]=>none
 | k,x :: r=>match pw x with
  | none=>some k
  | some _=>Gm (k+1) r
theorem Ed(k:Nat)(x:Str)(r:List Str):Gm k (x :: r)=match pw x with | none=>some k | some _=>Gm (k+1) r:=rfl
def rv(ws:List Str):List T3:=ws.filterMap pw
def bad (x:Str):Option Nat:=if x = "." then none else Gm 0 (ck x " ")
def iN (x:Str):List T3:=if x = "." then [] else rv (ck x " ")
def Et (k a:Int):Ex:=⟨"NoText",[("line",.int k),("at",.int a)]⟩
def gT:fM :=
 (Js (vF "no such word: line " (LY (ay 1) (vF ", word " (LY (ay 2) SQ)))))
theorem X5(a:Nat){k n:Int}(hk:k.natAbs < 10 ^ 100)(hn:n.natAbs < 10 ^ 100):gT (fun _ _=>False) [some (.ref a),some (.int k),some (.int n)] (fun _=>none) fun _ _=>True:=by
 unfold gT;simp only [Js,vF,LY,ay,↓af,↓aa,SQ,↓and_true];exact⟨by decide,vS k,if_pos hk,by decide,vS n,if_pos hn⟩
def Br:i5 :=
 (bY (dM (fk (a9 (Fv false) (ay 0) (dC (.str ".")))) (cC (fF (o6 aU))) bZ)
 (bY (cT (o6 aU) (aT 2))
 (bY (je (D4 (uB QE yE (ay 0) (az (dC (.str " ")) aU))) (xq (iO (aT 3) (iO (aT 4) vC))) (bY (dM (lC (fk (cZ i7 (az (ay 4) aU)))) (ip "NoText" ["line","at"] gT (az (ay 1) (az (ay 3) aU))) bZ)
 (jx (uB CQ me (ay 2) (az (cZ iR (az (ay 4) aU)) aU)))))
 (cC (fF (ay 2))))))
def qV:nR:=fun ds G Q E=>∃ (x:Str) (k:Nat),ds=[.str x,.int k]/\(Pl x/\x.length<=1000/\k<=1000)/\match bad x with
 | none=>Q (enc (iN x)) G
 | some a=>E (Et k a) (fun _=>none)
theorem Mw(ds:List D)(G:Gp)(Q:DK)(E:lu)(h:qV ds G Q E):Br E (ends Q) (bL 5 ds) G:=by
 obtain⟨x,k,rfl,⟨hp,hl,hk⟩,q⟩:=h;unfold Br;refine fY (fun τ G'=>G'=G/\x≠"."/\τ=[some (.str x),some (.int k),none,none,none]) ?_ ?_
 ·intro N hN;simp only [dM,↓dD,a9,ay,bL,↓aB,↓a7,↓ah,↓aq,bE,↓aZ,↓aY,↓aa,dC,cC,fF,o6,aU,ends,bZ];refine⟨_,_,.str _ hp.ok,.str _ (eU _),?_⟩;by_cases lr:x = "."
  ·subst lr;have:ik (.str ".") (.str ".")=true:=by decide
   rw [this];simp only [↓aR,↓aw,↓bM,↓if_false,↓if_true];exact⟨by decide,fun p hp=>vD (xs:=([]:List T3)) (.new hp) hp aW q⟩
  ·have:ik (.str x) (.str ".")=false:=by show (_ == _)=false; exact beq_eq_false_iff_ne.mpr lr
   rw [this];simp only [↓aR,↓aw,↓bN,↓if_false];exact hN _ _ ⟨rfl,lr,rfl⟩
 rintro _ G ⟨rfl,lr,rfl⟩;unfold bad iN at q;rw [if_neg lr,if_neg lr] at q;refine fY (fun τ G'=>∃ p,G p=none/\G'=dE G p (.lst [])/\τ=[some (.str x),some (.int k),some (.ref p),none,none]) ?_ ?_
 ·intro N hN;simp only [cT,o6,aU,↓aq,aT,↓ax,↓ar];exact⟨by decide,fun p hp=>hN _ _ ⟨p,hp,rfl,rfl⟩⟩
 rintro _ _ ⟨p,NC,rfl,rfl⟩;obtain⟨w1,w2,w3,w4⟩:=nS 32 x;rw [<-qW] at w1 w2 w3 w4;generalize ews:ck x " " = ws at *;have hws:ws.length<=1001:=by lia
 have pc:∀ y∈ws,Pl y/\y.length<=1000:=fun y hy=>by
  have:=pq (c:=32) (x:=x) (y:=y) (by rw [<-qW,ews]; exact hy) hp;exact⟨this.1,by lia⟩
 refine fY (fun τ G'=>kl G G'/\G' p=some (.lst ((rv ws).map enc))/\Gm 0 ws=none/\∃ a b,τ=[some (.str x),some (.int k),some (.ref p),a,b]) ?_ ?_
 ·intro N hN;simp only [je,D4,uB,ay,↓aa,↓pf,az,dC,aU,ends,↓true_and];refine⟨by decide,by lia,fun b hb=>?_⟩;rw [ews];have Yq:b≠p:=fun z=>by rw [z,aW] at hb; cases hb
  have hbG:G b=none:=by rw [dR Yq] at hb; exact hb
  dsimp only;rw [xE aW];refine LJ (fun pre τ G'=>kl G G'/\G' b=some (.lst (ws.map D.str))/\G' p=some (.lst ((rv (ws.take pre.length)).map enc))/\Gm pre.length (ws.drop pre.length)=Gm 0 ws/\∃ a b,τ=[some (.str x),some (.int k),some (.ref p),a,b]) ?_ ?_ ?_ ?_
  ·exact⟨(kl.new NC).put hbG,aW,by rw [dR Yq.symm,aW]; rfl,rfl,_,_,rfl⟩
  ·rintro pre τ G' ⟨l,gb,gp,_⟩;exact gb
  ·rintro pre d post τ G' N2 e ⟨l,gb,gp,hf,a,c,rfl⟩ Ah;obtain⟨y,hy,rfl⟩:=lT e;rw [bP] at hy;obtain⟨t,ht,rfl⟩:=Option.map_eq_some_iff.mp hy;have Zd:=cH ht;have pH:pre.length < ws.length:=(List.getElem?_eq_some_iff.mp ht).1;rw [cq pH,(List.getElem?_eq_some_iff.mp ht).2] at hf;rw [Ed] at hf;simp only [xq,iO,aT,vC,bY,dM,lC,↓dD,cZ,az,ay,↓ax,↓ar,↓af,↓aa,aU,bZ,jx,uB,↓ph,↓mB];refine⟨t,rfl,pc t Zd,?_⟩;cases WB:pw t with
   | none =>
    rw [WB] at hf;rw [<-hf] at q;simp only [↓aR,ip,az,ay,↓af,↓aa,aU,↓ah,↓aq,↓aB,↓a7,↓true_and];exact⟨fun a=>X5 a (by lia) (by lia),q⟩
   | some v =>
    rw [WB] at hf;simp only [↓aR,↓gp,↓true_and];refine⟨t,v,rfl,WB,?_⟩;simp only [↓gp];have hr:rv (ws.take (pre.length+1))=rv (ws.take pre.length)++[v]:=by
     unfold rv;rw [zX,ht,TB];simp [WB]
    refine⟨?_,Ah _ _ ⟨l.put NC,by rw [dR Yq]; exact gb,?_,?_,_,_,rfl⟩⟩
    ·rw [ai];have:(rv (ws.take pre.length)).length<=(ws.take pre.length).length:=Oo _ _;rw [dH] at this;show _ < 16777216;lia
    ·rw [aW,aE,bf,hr,c6]; rfl
    ·rw [aE,bf]; exact hf
  ·rintro τ G' ⟨l,gb,gp,hf,a,c,rfl⟩;rw [nY,ai] at gp hf;rw [o9] at gp;rw [pb] at hf;exact hN _ _ ⟨l,gp,hf.symm,_,_,rfl⟩
 rintro _ G' ⟨l,gp,hf,a,b,rfl⟩;rw [hf] at q;simp only [cC,fF,ay,↓af,↓aa,ends];exact vD l NC gp q
end EA
namespace EA
open K2.P
open K2.za (fZ)
open K2.yf (HR HR.fz)
open K2.K4 (Cy wd j7 gC lT xE qW yC Sa)
open K2.Wa (Er Hd jr ij L9)
def NH:Nat->List Str->Option (Nat×Nat)
 | _,[]=>none
 | k,x :: r=>match bad x with
  | some a=>some (k,a)
  | none=>NH (k+1) r
theorem Jb(k:Nat)(x:Str)(r:List Str):NH k (x :: r)=match bad x with | some a=>some (k,a) | none=>NH (k+1) r:=rfl
theorem QZ:∀ ws:List Str,4 * (rv ws).length<=(ws.map uG).sum+ws.length
 | []=>cu _
 | x :: r=>by
  have ih:=QZ r;rw [aB,u3,ah];cases e:pw x with
  | none=>rw [show rv (x :: r)=rv r from by unfold rv; rw [lF,e]]; lia
  | some p =>
   rw [show rv (x :: r)=p :: rv r from by unfold rv; rw [lF,e],ah];have:¬ x.length < 3:=fun z=>by rw [Fw (.inl z)] at e; cases e
   lia
theorem Q6(x:Str):4 * (iN x).length<=x.length+1:=by
 unfold iN;split
 ·exact cu _
 ·have:=QZ (ck x " ");have h:=(nS 32 x).2.2.2;rw [<-qW] at h;lia
theorem HE:∀ ls:List Str,4 * ((ls.map iN).flatten).length<=(ls.map uG).sum+ls.length
 | []=>cu _
 | x :: r=>by
  have ih:=HE r;have:=Q6 x;rw [aB,eB,aE,aB,u3,ah];lia
def ka (x:Str):List Str:=ck x "\n"
theorem FL(x:Str):4 * (((ka x).map iN).flatten).length<=x.length+1/\(ka x).length<=x.length+1:=by
 have:=HE (ka x);have h:=(nS 10 x).2.2.2;rw [<-yC] at h;change ((ka x).map uG).sum+(ka x).length=x.length+1 at h;lia
def vc:i5 :=
 (cC (fF (yT jr (az (fF (S9 2 [] (D4 (uB QE yE (ay 0) (az (dC (.str "\n")) aU))) (xq (iO (aT 0) (iO (aT 1) vC))) none (yT qV (az (ay 1) (az (ay 0) aU))))) aU))))
def lZ:nR:=fun ds G Q E=>∃ x:Str,ds=[.str x]/\(Pl x/\x.length<=239)/\match NH 0 (ka x) with
 | some (l,a)=>E (Et l a) (fun _=>none)
 | none=>match Hd ((ka x).map iN) with
  | none=>∀ p as G',HR G G' p as (((ka x).map iN).map fZ)->Q (.ref p) G'
  | some (w,n)=>E (Er w n) (fun _=>none)
theorem Dm(ds:List D)(G:Gp)(Q:DK)(E:lu)(h:lZ ds G Q E):vc E (ends Q) (bL 1 ds) G:=by
 obtain⟨x,rfl,⟨hp,hl⟩,q⟩:=h;obtain⟨n1,n2⟩:=FL x;have pc:∀ y∈ka x,Pl y/\y.length<=239:=fun y hy=>by
  have:=pq (c:=10) (x:=x) (y:=y) (by rw [<-yC]; exact hy) hp;exact⟨this.1,by lia⟩
 unfold vc;simp only [cC,fF,bL,↓aB,↓a7,↓ah,↓aq,↓aZ,↓aY,ends];refine⟨trivial,by decide,by lia,fun b hb=>?_⟩;dsimp only;rw [xE aW];change _/\_;refine⟨TJ (by rw [nY,ai]; show (ka x).length<=_; lia),?_⟩;refine NV (fun pre acc τ G'=>G'=dE G b (.lst ((ka x).map D.str))/\acc=((ka x).take pre.length).map (fun y=>enc (iN y))/\NH pre.length ((ka x).drop pre.length)=NH 0 (ka x)/\∃ a c,τ=[a,c]) ⟨rfl,rfl,rfl,_,_,rfl⟩ (fun _ _ _ _ h=>by rw [h.1]; exact aW) ?_ ?_
 ·rintro pre d post acc τ G' N e ⟨rfl,rfl,hf,a,c,rfl⟩ hN;obtain⟨y,hy,rfl⟩:=lT e;rw [bP] at hy;obtain⟨t,ht,rfl⟩:=Option.map_eq_some_iff.mp hy;have ht:(ka x)[pre.length]?=some t:=ht;have Zd:=cH ht;have pH:pre.length < (ka x).length:=(List.getElem?_eq_some_iff.mp ht).1;rw [cq pH,(List.getElem?_eq_some_iff.mp ht).2,Jb] at hf;simp only [xq,iO,aT,vC,yT,az,ay,↓ar,↓ax,↓af,↓aa,aU];refine⟨t,pre.length,rfl,⟨(pc t Zd).1,by have:=(pc t Zd).2; lia,by lia⟩,?_⟩;cases B5:bad t with
  | some k =>
   rw [B5] at hf;rw [<-hf] at q;exact q
  | none =>
   rw [B5] at hf;refine hN _ _ _ ⟨rfl,?_,?_,_,_,rfl⟩
   ·rw [aE,bf,zX,ht,c6]; rfl
   ·rw [aE,bf]; exact hf
 ·rintro acc τ G' ⟨rfl,rfl,hf,a,c,rfl⟩ p NC;rw [nY,ai] at hf ⊢;change NH (ka x).length ((ka x).drop (ka x).length)=_ at hf;rw [pb] at hf;rw [<-hf] at q;change Qj (dE _ p (.lst (((ka x).take (ka x).length).map fun y=>enc (iN y)))) (.ref p) _;rw [o9];have em:((ka x).map fun y=>(enc (iN y):D))=((ka x).map iN).map enc:=by rw [eD]; rfl
  rw [em];refine vD (xs:=(ka x).map iN) ((kl.new hb).trans (.new NC)) ?_ aW ?_
  ·rw [dR (fun z=>by rw [z,aW] at NC; cases NC)] at NC; exact NC
  ·refine⟨(ka x).map iN,rfl,⟨by rw [ai]; lia,by lia⟩,?_⟩;change (match Hd ((ka x).map iN) with | none=>_ | some (w,n)=>_) at q;cases hc:Hd ((ka x).map iN) with
   | none =>
    rw [hc] at q;exact fun p as G2 hr=>fy (q p as G2 hr)
   | some z =>
    rw [hc] at q;exact q
end EA
namespace EA
open K2.P
open K2.yf (HR HR.fz HR.put)
open K2.K4 (qW yC)
open K2.Qi (NA NB)
open K2.AB (rJ pG)
theorem UU(n:Nat):kR 0 n=(cA n).map fun k:Nat=>D.int (k:Int):=by
 unfold kR; simp
theorem UT{n:Nat}{pre post:List Nat}{x:Nat}(e:cA n=pre++x :: post):x=pre.length/\x < n:=by
 have h1:=congrArg (fun l=>l[pre.length]?) e;simp only [bA (aK _),oW,aa] at h1;have hl:pre.length < n:=by have:=congrArg gO e; simp at this; lia
 rw [aj (by rw [fA]; exact hl),mK] at h1;injection h1 with h1
 lia
theorem YV{ds:List D}{k:Nat}{d:D}(h:ds[k]?=some d):sI ds (k:Int)=some d:=by
 have hk:=(List.getElem?_eq_some_iff.mp h).1;unfold sI Nv;rw [if_pos (by lia),if_pos (by lia),eF];exact h
theorem V4(ds:List D)(d:D):sI (ds++[d]) (-1)=some d:=by
 unfold sI Nv;rw [aE,bf,if_neg (by decide),if_pos (by lia),show (-1+((ds.length+1:Nat):Int)).toNat=ds.length from by lia];simp
theorem aaD{G G':Gp}{p0:Nat}{as:List Nat}{rs:Rows}(h:HR G G' p0 as rs):Fz G' (fun a=>(G a).isNone) (.ref p0) (enc rs):=by
 refine .ref h.gp (by simp [h.fp]) ?_;have:∀ (as:List Nat) (rs:Rows),as.length=rs.length->(∀ a∈as,G a=none)->(∀ (i a:Nat) (r:List T3),as[i]?=some a->rs[i]?=some r->G' a=some (.lst (r.map enc)))->Kc G' (fun a=>(G a).isNone) (as.map D.ref) (rs.map enc):=by
  intro as;induction as with
  | nil=>intro rs hl _ _; cases rs with
   | nil=>exact .nil
   | cons _ _=>cases hl
  | cons a as ih =>
   intro rs hl hf FZ;cases rs with
   | nil=>cases hl
   | cons r rs =>
    refine .cons (.ref (FZ 0 a r rfl rfl) (by simp [hf a (by simp)]) (Kc.same _)) ?_;exact ih rs (by simpa using hl) (fun b hb=>hf b (aM _ hb)) fun i b s h1 h2=>FZ (i+1) b s h1 h2
 exact this as rs h.len h.fr h.at'
theorem MQ{G:Gp}{n:Nat}:∀ (ws:List Str),(∀ y∈ws,Pl y)->Sn G (n+1) (.fH (ws.map D.str)) (.fH (ws.map D.str))
 | [],_=>.HG
 | x :: r,h=>.zB (.str x (h x (by simp)).ok) (MQ r fun y hy=>h y (by simp [hy]))
theorem YJ (ws:List Str):ik (.fH (ws.map D.str)) (.fH [.str "."])=decide (ws=[("." : Str)]):=by
 show lA (ws.map D.str) [.str "."]=_;cases ws with
 | nil=>rfl
 | cons x r =>
  cases r with
  | nil =>
   show ((x == ".")&&true)=_;rw [Bool.and_true];by_cases h:x = "."
   ·subst h; decide
   ·rw [beq_eq_false_iff_ne.mpr h,decide_eq_false (fun z=>h (by injection z))]
  | cons y s =>
   rw [decide_eq_false (fun z=>by injection z with _ z; cases z)];show (_&&lA (D.str y :: s.map D.str) [])=false;show (_&&false)=false;exact sO _
theorem VQ (t:Str):ck t " " = [("." : Str)]↔t = ".":=by
 constructor
 ·intro h;have e:=(nS 32 t).2.1;rw [<-qW,h] at e;exact e
 ·rintro rfl;decide +kernel
def zv:i5 :=
 (bY (cT (o6 aU) (aT 1))
 (bY (je (qx (uB QE yE (ay 0) (az (dC (.str "\n")) aU))) (aT 2) (bY (cT (uB QE yE (ay 2) (az (dC (.str " ")) aU)) (aT 3))
 (bY (jx (uB CQ me (ay 1) (az (o6 aU) aU)))
 (dM (fk (a9 (Fv true) (ay 3) (o6 (az (dC (.str ".")) aU)))) (je (Iz (kj mV (az (ay 3) aU))) (aT 4) (bY (cT (cZ kO (az (a9 qY (ay 3) (ay 4)) aU)) (aT 5))
 (bY (dM (fk (sP (sE false) (ay 5))) (cC (fF (gU (az (dC .cR) (az (a9 KZ (kj mV (az (ay 1) aU)) (dC (.int 1))) (az (ay 4) aU)))))) bZ)
 (jx (uB CQ me (a9 qY (ay 1) (sP tL (dC (.int 1)))) (az (ay 5) aU)))))) bZ))))
 (cC (fF (gU (az (ay 1) (az (dC (.int 0)) (az (dC (.int 0)) aU))))))))
def pA:nR:=fun ds G Q _=>∃ x:Str,ds=[.str x]/\(Pl x/\x.length<=239)/\match NH 0 (ka x) with
 | some (l,a)=>Q (.tup [.cR,.int l,.int a]) G
 | none=>Q (.tup [enc ((ka x).map iN),.int 0,.int 0]) G
theorem JL(ds:List D)(G:Gp)(Q:DK)(h:pA ds G Q fun _ _=>False):zv (fun _ _=>False) (ends Q) (bL 6 ds) G:=by
 obtain⟨x,rfl,⟨hp,hl⟩,q⟩:=h;obtain⟨n1,n2⟩:=FL x;have pc:∀ y∈ka x,Pl y/\y.length<=239:=fun y hy=>by
  have:=pq (c:=10) (x:=x) (y:=y) (by rw [<-yC]; exact hy) hp;exact⟨this.1,by lia⟩
 unfold zv;refine fY (fun τ G'=>∃ p,G p=none/\G'=dE G p (.lst [])/\τ=[some (.str x),some (.ref p),none,none,none,none]) ?_ ?_
 ·intro N hN;simp only [cT,o6,aU,↓aq,aT,bL,↓aB,↓a7,↓ah,bE,↓aZ,↓aY,↓ax,↓ar];exact⟨by decide,fun p hp=>hN _ _ ⟨p,hp,rfl,rfl⟩⟩
 rintro _ _ ⟨p,NC,rfl,rfl⟩;refine fY (fun τ G'=>NH 0 (ka x)=none/\∃ as a b c d,HR G G' p as ((ka x).map iN)/\τ=[some (.str x),some (.ref p),a,b,c,d]) ?_ ?_
 ·intro N hN;simp only [je,↓hW,uB,ay,↓aa,↓pf,az,dC,aU,ends,↓true_and];refine⟨by decide,by lia,fun b hb=>?_⟩;have Yq:b≠p:=fun z=>by rw [z,aW] at hb; cases hb
  have hbG:G b=none:=by rw [dR Yq] at hb; exact hb
  have h0:HR G (dE G p (.lst [])) p [] []:=⟨.new NC,NC,aW,by simp,by simp,by simp,rfl,fun i a r h=>by simp at h⟩;have h1:=rJ (o:=.lst ((ka x).map D.str)) h0 hb;have lG:kl G (dE G b (.lst ((ka x).map D.str))):=.new hbG;dsimp only;rw [AV aW];refine i9 (xs:=ka x) (f:=D.str) (fun pre τ G'=>NH pre.length ((ka x).drop pre.length)=NH 0 (ka x)/\∃ as a c d e,HR (dE G b (.lst ((ka x).map D.str))) G' p as (pre.map iN)/\τ=[some (.str x),some (.ref p),a,c,d,e]) ⟨rfl,[],_,_,_,_,h1,rfl⟩ (fun pre τ G' h=>by obtain⟨_,as,a,c,d,e,hR,_⟩:=h; exact hR.le _ _ aW) ?_ ?_
  ·rintro pre t post τ G' N2 e ⟨hf,as,a1,a2,a3,a4,hR,rfl⟩ Ah;have Zd:t∈ka x:=by rw [e]; simp
   have yc:pre.length < (ka x).length:=by rw [e]; simp
   have ht:(ka x)[pre.length]?=some t:=by rw [e]; simp
   rw [cq yc,(List.getElem?_eq_some_iff.mp ht).2,Jb] at hf;have al:as.length=pre.length:=by rw [hR.len,ai]
   obtain⟨pt,lt⟩:=pc t Zd;obtain⟨w1,w2,w3,w4⟩:=nS 32 t;rw [<-qW] at w1 w2 w3 w4;have hws:(ck t " ").length<=240:=by lia
   have pw':∀ y∈ck t " ",Pl y/\y.length<=1000:=fun y hy=>by
    have:=pq (c:=32) (x:=t) (y:=y) (by rw [<-qW]; exact hy) pt;exact⟨this.1,by lia⟩
   simp only [aT,↓dZ,cT,uB,ay,↓ax,↓ar,↓af,↓aa,↓pf,az,dC,aU,↓wt,jx,↓ph,o6,↓aq,↓mB,↓true_and];refine⟨by decide,by lia,fun w hw=>?_⟩;simp only;have dq:=VQ t;unfold bad at hf;have rt:iN t=if t = "." then [] else rv (ck t " "):=rfl
   generalize ck t " " = ws at *;have h2:=rJ (o:=.lst (ws.map D.str)) hR hw;rw [h2.gp];refine⟨trivial,by decide,fun v hv=>?_⟩;have vp:v≠p:=fun z=>by rw [z,h2.gp] at hv; cases hv
   rw [dR vp.symm,h2.gp];refine⟨by rw [ai]; show _ < 16777216; lia,?_⟩;have h3:=NA h2 hv;rw [show as.map D.ref++[D.ref v]=(as++[v]).map D.ref from by rw [c6]; rfl];generalize dE (dE (dE G' w (.lst (ws.map D.str))) v (.lst [])) p (.lst ((as++[v]).map D.ref))=G3 at *;have lw:kl (dE G b (.lst ((ka x).map D.str))) (dE (dE G b (.lst ((ka x).map D.str))) w (.lst (ws.map D.str))):=.new (by
    cases z:dE G b (.lst ((ka x).map D.str)) w with
    | none=>rfl
    | some o=>rw [hR.le _ _ z] at hw; cases hw)
   simp only [dM,↓dD,a9,ay,↓af,↓aa,o6,az,dC,aU,↓ah,↓aq,bZ];refine⟨by decide,fun u hu=>?_⟩;have h4:=NB h3 (.new (o:=.lst [.str "."]) hu);have gw:=h4.le _ _ (aW (G:=dE G b (.lst ((ka x).map D.str))) (a:=w) (o:=.lst (ws.map D.str)));refine⟨_,_,.ref gw (MQ ws fun y hy=>(pw' y hy).1),.ref aW (.zB (.str _ (eU _)) .HG),?_⟩;rw [if_pos rfl,YJ];by_cases cd:ws=[("." : Str)]
   ·rw [decide_eq_true cd];simp only [↓aR,↓bM,↓aw,↓if_false];have td:=dq.mp cd;rw [if_pos td] at hf rt;refine Ah _ _ ⟨by rw [aE,bf]; exact hf,as++[v],_,_,_,_,pG lw ?_,rfl⟩;rw [c6,CG,rt];exact h4
   ·rw [decide_eq_false cd];have td:¬ t = ".":=fun z=>cd (dq.mpr z);rw [if_neg td] at hf rt;generalize dE G3 u (.lst [.str "."])=G4 at *;simp only [↓aR,↓bN,je,↓xk,kj,az,ay,↓af,↓aa,aU,↓if_true];refine iJ (IsL.ref gw) ?_;rw [ai];refine⟨by lia,by lia,?_⟩;rw [eF,UU];refine i9 (xs:=cA ws.length) (f:=fun k:Nat=>D.int (k:Int)) (fun oy τ G5=>Gm oy.length (ws.drop oy.length)=Gm 0 ws/\HR (dE (dE G b (.lst ((ka x).map D.str))) w (.lst (ws.map D.str))) G5 p (as++[v]) (pre.map iN++[rv (ws.take oy.length)])/\∃ c d,τ=[some (.str x),some (.ref p),some (.str t),some (.ref w),c,d]) ⟨rfl,h4,_,_,rfl⟩ (fun _ _ _ _=>trivial) ?_ ?_
    ·rintro oy k DR τ G5 N3 e2 ⟨Pk,h5,c,d,rfl⟩ NG;obtain⟨rfl,hk⟩:=UT e2;obtain⟨y,hy⟩:∃ y,ws[oy.length]?=some y:=⟨_,aj hk⟩;have hym:=cH hy;rw [cq hk,(List.getElem?_eq_some_iff.mp hy).2,Ed] at Pk;have gw5:=h5.le _ _ (aW (G:=dE G b (.lst ((ka x).map D.str))) (a:=w) (o:=.lst (ws.map D.str)));simp only [aT,↓dZ,cT,cZ,az,a9,ay,↓ax,↓ar,↓af,↓aa,aU,bY,dM,↓dD,sP,cC,fF,gU,dC,kj,↓ah,↓aq,bZ,jx,uB,↓oq];refine yv (IsL.ref gw5) (YV (d:=.str y) (by rw [bP,hy]; rfl)) ⟨y,rfl,pw' y hym,?_⟩;cases WB:pw y with
     | none =>
      rw [WB] at Pk;rw [<-Pk] at hf;rw [<-hf] at q;simp only [sE,pD,↓aR,↓bN,↓if_true];refine iJ (IsL.ref h5.gp) ?_;simp only [↓om];refine⟨by decide,jG (lG.trans (lw.trans h5.le)) ?_⟩;rw [ai,aE,bf,al,show ((pre.length+1:Nat):Int) - 1=(pre.length:Int) from by lia];exact q
     | some z =>
      rw [WB] at Pk;simp only [sE,pD,↓aR,↓bN,↓if_true,↓aw,↓if_false];have av:(as++[v])[as.length]?=some v:=by simp
      have gv:=h5.at' as.length v (rv (ws.take oy.length)) av (by rw [al,bA (by simp)]; simp);refine yv (IsL.ref h5.gp) (x:=.ref v) (by rw [c6]; exact V4 _ _) ?_;have hr:rv (ws.take (oy.length+1))=rv (ws.take oy.length)++[z]:=by
       unfold rv;rw [zX,hy,TB];simp [WB]
      have h6:=HR.put h5 (r':=rv (ws.take oy.length)++[z]) av;have es:(pre.map iN++[rv (ws.take oy.length)]).set as.length (rv (ws.take oy.length)++[z])=pre.map iN++[rv (ws.take (oy.length+1))]:=by
       rw [hr,show as.length=(pre.map iN).length from by rw [ai]; exact al,List.set_append_right _ _ (aK _)];simp
      rw [es] at h6;refine⟨by unfold CQ; simp only [gv],?_⟩;rw [Ih gv];refine⟨?_,NG _ _ ⟨by rw [aE,bf]; exact Pk,?_,_,_,rfl⟩⟩
      ·rw [ai];have:(rv (ws.take oy.length)).length<=(ws.take oy.length).length:=Oo _ _;rw [dH] at this;show _ < 16777216;lia
      ·rw [aE,bf];rw [c6] at h6;exact h6
    ·rintro τ G5 ⟨Pk,h5,c,d,rfl⟩;rw [fA,o9] at h5;rw [fA,pb] at Pk;rw [<-Pk] at hf;refine Ah _ _ ⟨by rw [aE,bf]; exact hf,as++[v],_,_,_,_,pG lw ?_,rfl⟩;rw [c6,CG,rt];exact h5
  ·rintro τ G' ⟨hf,as,a,c,d,e,hR,rfl⟩;rw [pb] at hf;exact hN _ _ ⟨hf.symm,as,_,_,_,_,pG lG hR,rfl⟩
 ·rintro τ G' ⟨hf,as,a,b,c,d,hR,rfl⟩;rw [hf] at q;simp only [cC,fF,gU,az,ay,↓af,↓aa,dC,aU,↓ah,↓aq,ends];refine⟨by decide,?_⟩;exact YB hR.le (.tup (.cons (aaD hR) (.cons (.same _) (.cons (.same _) .nil)))) q
end EA
namespace EA
open K2.P
open K2.K4 (j7 gC)
theorem Pl.app{x y:Str}(hx:Pl x)(hy:Pl y):Pl (x++y):=fun c hc=>by
 rw [gC] at hc;exact(List.mem_append.mp hc).elim (hx c) (hy c)
theorem OL(x:Str)(l h:Option Int):∀ c∈(cV x l h).cps.toList,c∈x.cps.toList:=by
 intro c hc;change c∈(dG x l h).cps.toList at hc;unfold dG at hc;split at hc
 ·exact hc
 ·obtain⟨i,_,e⟩:=List.mem_filterMap.mp hc;exact Array.mem_toList_iff.mpr (wa e)
theorem W8{x:Str}{j:Int}(h0:0<=j)(h1:j<=x.length):((cV x none (some j)).length:Int)=j:=by
 change ((dG x none (some j)).length:Int)=j;have hl:x.cps.toList.length=x.length:=rfl;rw [PySem.StrLaws.sliceText_to ⟨h0,by lia⟩];show (((x.cps.toList.drop 0).take (j - 0).toNat).length:Int)=j;rw [dH,List.drop_zero];lia
theorem xw{x:Str}{j:Int}(h0:0<=j)(h1:j<=x.length):((cV x (some j) none).length:Int)=x.length - j:=by
 change ((dG x (some j) none).length:Int)=_;have hl:x.cps.toList.length=x.length:=rfl;rw [PySem.StrLaws.sliceText_from ⟨h0,by lia⟩];show (((x.cps.toList.drop j.toNat).take _).length:Int)=_;rw [dH,ez];lia
theorem Vu{x:Str}(hp:Pl x)(i:Int):∃ c,c < 128/\eR x i=⟨#[c]⟩:=by
 unfold eR;refine⟨_,?_,rfl⟩;unfold sM;cases h1:vX i x.length with
 | none=>exact vM _
 | some j =>
  rw [oR];cases h2:x.cps[j]? with
  | none=>exact vM _
  | some c=>exact hp c (Array.mem_toList_iff.mpr (wa h2))
def sg1:Str:=" !\"#$&'()*+,-./0123456789:;<=>?@ABCDEFGHIJKLMNOPQRSTUVWXYZ"
def sg2:Str:="[\\]^_`abcdefghijklmnopqrstuvwxyz{|}~\n"
def sg3:Str:="0123456789ou+-. \n"
theorem rg{x:Str}(h:x.cps.toList.all (· < 128)=true):Pl x:=fun c hc=>of_decide_eq_true (List.all_eq_true.mp h c hc)
def zt:i5 :=
 (bY (cT (dC (.str " !\"#$&'()*+,-./0123456789:;<=>?@ABCDEFGHIJKLMNOPQRSTUVWXYZ")) (aT 1))
 (bY (cT (a9 tN (ay 1) (dC (.str "[\\]^_`abcdefghijklmnopqrstuvwxyz{|}~\n"))) (aT 1))
 (bY (dM (fk (a9 (Fv false) (a9 nB (ay 0) (dC (.int 2))) (dC (.int 0)))) (cT (dC (.str "0123456789ou+-. \n")) (aT 1)) bZ)
 (cC (fF (a9 Bv (ay 1) (a9 nB (a9 wR (ay 0) (dC (.int 2))) (kj Co (az (ay 1) aU)))))))))
def mr:nR:=fun ds G Q _=>∃ c:Int,ds=[.int c]/\∀ a:Nat,a < 128->Q (.str ⟨#[a]⟩) G
theorem JK(ds:List D)(G:Gp)(Q:DK)(h:mr ds G Q fun _ _=>False):zt (fun _ _=>False) (ends Q) (bL 2 ds) G:=by
 obtain⟨c,rfl,q⟩:=h;unfold zt;simp only [↓dZ,cT,dC,aT,a9,ay,bL,↓aB,↓a7,↓ah,↓aq,bE,↓aZ,↓aY,↓ax,↓ar,↓af,↓aa,ends];refine⟨by decide,?_⟩;refine fY (fun τ G'=>G'=G/\∃ s:Str,Pl s/\(0 < s.length/\s.length<=1000)/\τ=[some (.int c),some (.str s)]) ?_ ?_
 ·intro N hN;simp only [dM,↓dD,a9,ay,↓aa,dC,↓fJ,cT,aT,↓ax,↓ar,bZ];refine⟨by decide,_,_,.int _,.int _,?_⟩;rw [if_neg (by decide)];cases ik (.int (c % 2)) (.int 0) with
  | true =>
   simp only [↓aR,↓if_true];exact hN _ _ ⟨rfl,sg3,rg (by decide +kernel),by decide,rfl⟩
  | false =>
   simp only [↓aR,↓aw,↓if_false];exact hN _ _ ⟨rfl,sg1++sg2,Pl.app (rg (by decide +kernel)) (rg (by decide +kernel)),by rw [fj]; decide,rfl⟩
 ·rintro τ G' ⟨rfl,s,hs,⟨h0,h1⟩,rfl⟩;simp only [cC,fF,a9,ay,↓af,↓aa,dC,↓jD,kj,az,aU];refine⟨by decide,by lia,?_⟩;have hz:(s.length:Int)≠0:=by lia
  refine⟨by lia,by lia,⟨?_,?_,by lia⟩,?_⟩
  ·have:=iX (c / 2) hz; lia
  ·exact gP _ (by lia)
  ·obtain⟨a,ha,e⟩:=Vu hs (c / 2 % s.length);rw [e];exact fy (q a ha)
theorem VH{x:Str}{j:Int}(h0:0<=j)(h1:j<=x.length+1):((cV x (some j) none).length:Int)<=x.length - j+1:=by
 by_cases h:j<=x.length
 ·rw [xw h0 h]; lia
 ·have e:cV x (some j) none=cV x (some (x.length:Int)) none:=by
   change dG x (some j) none=dG x (some (x.length:Int)) none;unfold dG;have:jT (some j) none 1 x.length=jT (some (x.length:Int)) none 1 x.length:=by
    unfold jT;have a:¬ (j < 0):=by lia
    have b:¬ ((x.length:Int) < 0):=by lia
    have c:min j (x.length:Int)=x.length:=by lia
    simp only [a,b,if_false,c,Int.min_self,show ((1:Int) > 0)=True from by simp,if_true]
   rw [this]
  rw [e,xw (by lia) (by lia)];lia
def vd:i5 :=
 (bY (cT (a9 nB (a9 nB (a9 Fq (ay 1) (dC (.int 69621))) (dC (.int 999983))) (a9 qm (kj Co (az (ay 0) aU)) (dC (.int 1)))) (aT 2))
 (bY (dM (fk (a9 (Fv false) (a9 nB (ay 1) (dC (.int 6))) (dC (.int 1)))) (cC (fF (a9 tN (a9 tN (oH (ay 0) cL (gL (ay 2))) (cZ mr (az (a9 wR (ay 1) (dC (.int 6))) aU))) (oH (ay 0) (gL (ay 2)) cL)))) bZ)
 (bY (dM (fk (a9 (Fv false) (a9 nB (ay 1) (dC (.int 6))) (dC (.int 2)))) (cC (fF (a9 tN (oH (ay 0) cL (gL (ay 2))) (oH (ay 0) (gL (a9 qm (ay 2) (dC (.int 1)))) cL)))) bZ)
 (bY (dM (fk (a9 (Fv false) (a9 nB (ay 1) (dC (.int 6))) (dC (.int 3)))) (cC (fF (a9 tN (a9 tN (oH (ay 0) cL (gL (ay 2))) (cZ mr (az (a9 wR (ay 1) (dC (.int 6))) aU))) (oH (ay 0) (gL (a9 qm (ay 2) (dC (.int 1)))) cL)))) bZ)
 (bY (dM (fk (a9 (Fv false) (a9 nB (ay 1) (dC (.int 6))) (dC (.int 4)))) (cC (fF (a9 tN (oH (ay 0) cL (gL (ay 2))) (oH (ay 0) (gL (kj VY (az (dC (.int 0)) (az (a9 KZ (a9 KZ (ay 2) (dC (.int 1))) (a9 nB (a9 wR (ay 1) (dC (.int 6))) (dC (.int 7)))) aU)))) cL)))) bZ)
 (cC (fF (ay 0))))))))
def l7:nR:=fun ds G Q _=>∃ (x:Str) (c:Int),ds=[.str x,.int c]/\(Pl x/\x.length<=1000)/\∀ y:Str,Pl y->y.length<=x.length+7->Q (.str y) G
theorem Dp(ds:List D)(G:Gp)(Q:DK)(h:l7 ds G Q fun _ _=>False):vd (fun _ _=>False) (ends Q) (bL 3 ds) G:=by
 obtain⟨x,c,rfl,⟨hp,hl⟩,q⟩:=h;have ps:∀ l h,Pl (cV x l h):=fun l h c hc=>hp c (OL x l h c hc);unfold vd;refine fY (fun τ G'=>G'=G/\∃ at_:Int,(0<=at_/\at_<=x.length)/\τ=[some (.str x),some (.int c),some (.int at_)]) ?_ ?_
 ·intro N hN;simp only [cT,a9,ay,bL,↓aB,↓a7,↓ah,↓aq,bE,↓aZ,↓aY,↓af,↓aa,dC,↓tM,↓fJ,kj,az,aU,aT,↓ax,↓ar];refine⟨.inr ⟨by decide,by decide⟩,by decide,by lia,?_⟩;have hz:(0:Int) < (x.length:Int)+1:=by lia
  refine⟨hz,hN _ _ ⟨rfl,c * 69621 % 999983 % ((x.length:Int)+1),⟨iX _ (by lia),?_⟩,rfl⟩⟩;have:=gP (c * 69621 % 999983) hz;lia
 rintro _ G ⟨rfl,at_,⟨h0,h1⟩,rfl⟩;have t1:=W8 h0 h1;have f1:=xw h0 h1;have f2:=VH (x:=x) (j:=at_+1) (by lia) (by lia);have one:∀ a:Nat,(⟨#[a]⟩:Str).length=1:=fun a=>rfl;have Z0:∀ a:Nat,a < 128->Pl ⟨#[a]⟩:=fun a ha c hc=>by rw [show c=a from by simpa using hc]; exact ha
 simp only [bY,dM,↓dD,a9,ay,↓af,↓aa,dC,↓fJ,cC,fF,cZ,az,↓jD,aU,ends,bZ];refine⟨by decide,_,_,.int _,.int _,?_⟩;rw [if_neg (by decide)];cases ik (.int (c % 6)) (.int 1) with
 | true =>
  simp only [↓aR,oH,ay,↓aa,cL,↓gV,↓af,↓fx,a9,dC,↓ju,kj,az,↓om,↓jD,↓fJ,aU,↓if_true];refine⟨by lia,by decide,by decide,c / 6,rfl,fun a ha=>?_⟩;refine⟨by rw [one]; lia,by lia,?_⟩;refine⟨by rw [fj,one]; lia,fy (q _ (((ps _ _).app (Z0 a ha)).app (ps _ _)) (by rw [fj,fj,one]; lia))⟩
 | false =>
 simp only [↓aR,↓aw,↓if_false];refine⟨by decide,_,_,.int _,.int _,?_⟩;rw [if_neg (by decide)];cases ik (.int (c % 6)) (.int 2) with
 | true =>
  simp only [↓aR,oH,ay,↓aa,cL,↓gV,↓af,↓fx,a9,dC,↓ju,kj,az,↓om,↓jD,↓fJ,aU,↓if_true];refine⟨by lia,by lia,?_⟩;refine⟨by lia,fy (q _ ((ps _ _).app (ps _ _)) (by rw [fj]; lia))⟩
 | false =>
 simp only [↓aR,↓aw,↓if_false];refine⟨by decide,_,_,.int _,.int _,?_⟩;rw [if_neg (by decide)];cases ik (.int (c % 6)) (.int 3) with
 | true =>
  simp only [↓aR,oH,ay,↓aa,cL,↓gV,↓af,↓fx,a9,dC,↓ju,kj,az,↓om,↓jD,↓fJ,aU,↓if_true];refine⟨by lia,by decide,by decide,c / 6,rfl,fun a ha=>?_⟩;refine⟨by rw [one]; lia,by lia,?_⟩;refine⟨by rw [fj,one]; lia,fy (q _ (((ps _ _).app (Z0 a ha)).app (ps _ _)) (by rw [fj,fj,one]; lia))⟩
 | false =>
 simp only [↓aR,↓aw,↓if_false];refine⟨by decide,_,_,.int _,.int _,?_⟩;rw [if_neg (by decide)];cases ik (.int (c % 6)) (.int 4) with
 | true =>
  simp only [↓aR,oH,ay,↓aa,cL,↓gV,↓af,↓fx,kj,az,dC,a9,↓om,↓jD,↓fJ,aU,↓if_true];have k7:0<=c / 6 % 7/\c / 6 % 7 < 7:=by lia
  generalize c / 6 % 7=k at k7;refine⟨by lia,by decide,by decide,by decide,?_⟩;have mx:∀ {R:DK},R (.int (if 0 < at_ - 1 - k then at_ - 1 - k else 0)) G->VY [D.int 0,D.int (at_ - 1 - k)] G R:=fun {R} h=>by
   exact h
  refine mx ?_;generalize em:(if 0 < at_ - 1 - k then at_ - 1 - k else 0)=m;have hm:0<=m/\m<=x.length/\at_ - 7<=m:=by rw [<-em]; split <;> lia
  have f3:=xw (x:=x) hm.1 hm.2.1;refine⟨by lia,⟨by lia,fy (q _ ((ps _ _).app (ps _ _)) (by rw [fj]; lia))⟩⟩
 | false =>
 simp only [↓aR,↓aw,↓if_false];exact fy (q x hp (by lia))
end EA
namespace EA
open K2.P
open K2.yf (HR HR.fz HR.put iy wo)
open K2.K4 (Cy wd Bc wy hd yn B4 ln tx BZ D0 Ce BB B0 AU FQ)
open K2.K3 (kh Dq Dq.enc eS kr HR.at_ HR.rw ins B2 FR)
open K2.AB (rJ pG)
theorem Ww{r:List T3}(h:∀ p∈r,Cy p):(ln r).length<=6 * r.length+1:=by
 unfold ln;split
 ·exact Nat.le_add_left 1 _
 ·have:=BZ " " 5 (by decide) (r.map wd) (fun x hx=>by obtain⟨p,hp,rfl⟩:=List.mem_map.mp hx; exact Bc (h p hp));rw [ai] at this;lia
theorem Ir(s:Str)(hs:s.length<=1):∀ xs:List Str,(gB s xs).length<=(xs.map uG).sum+xs.length
 | []=>cu _
 | [x]=>by show x.length<=_; simp
 | x :: y :: r=>by
  have e:gB s (x :: y :: r)=(x++s)++gB s (y :: r):=rfl;have:=Ir s hs (y :: r);rw [e,fj,fj,aB,u3,ah];lia
theorem QG:∀ {rows:Rows},(∀ r∈rows,∀ p∈r,Cy p)->(rows.map (fun r=>(ln r).length)).sum<=6 * rows.flatten.length+rows.length
 | [],_=>cu _
 | r :: rs,h=>by
  have:=Ww (h r (by simp));have:=QG (rows:=rs) fun r hr=>h r (by simp [hr]);rw [aB,u3,eB,aE,ah];lia
theorem ZF{rows:Rows}(h:∀ r∈rows,∀ p∈r,Cy p):(tx rows).length<=6 * rows.flatten.length+2 * rows.length:=by
 have h1:=QG h;have h2:=Ir "\n" (by decide) (rows.map ln);rw [eD,ai] at h2;have e:(rows.map (uG∘ln))=rows.map fun r=>(ln r).length:=rfl;rw [e] at h2;unfold tx;lia
def zx:i5 :=
 (bY (cT (o6 aU) (aT 1))
 (bY (je (qx (ay 0)) (xq (iO (aT 2) (iO (aT 3) (iO (aT 4) vC)))) (jx (uB CQ me (ay 1) (az (a9 tN (a9 tN (kj cStr (az (ay 2) aU)) (a9 Bv (dC (.str "ou")) (ay 3))) (a9 Bv (dC (.str "-+")) (a9 wR (a9 qm (ay 4) (dC (.int 1))) (dC (.int 2))))) aU))))
 (bY (dM (lC (fk (ay 1))) (cC (fF (dC (.str ".")))) bZ)
 (cC (fF (uB QE Ig (dC (.str " ")) (az (ay 1) aU)))))))
def pB:nR:=fun ds G Q _=>∃ r:List T3,ds=[enc r]/\((∀ p∈r,Cy p)/\r.length<=40)/\Q (.str (ln r)) G
theorem JM(ds:List D)(G:Gp)(Q:DK)(h:pB ds G Q fun _ _=>False):zx (fun _ _=>False) (ends Q) (bL 5 ds) G:=by
 obtain⟨r,rfl,⟨hg,hl⟩,q⟩:=h;unfold zx;refine fY (fun τ G'=>∃ p,G p=none/\G'=dE G p (.lst [])/\τ=[some (enc r),some (.ref p),none,none,none]) ?_ ?_
 ·intro N hN;simp only [cT,o6,aU,↓aq,aT,bL,↓aB,↓a7,↓ah,bE,↓aZ,↓aY,↓ax,↓ar];exact⟨by decide,fun p hp=>hN _ _ ⟨p,hp,rfl,rfl⟩⟩
 rintro _ _ ⟨p,hp,rfl,rfl⟩;refine fY (fun τ G'=>G'=dE G p (.lst ((r.map wd).map D.str))/\∃ a b c,τ=[some (enc r),some (.ref p),a,b,c]) ?_ ?_
 ·intro N hN;simp only [je,↓hW,ay,↓aa,ends];refine xm ?_;refine i9 (xs:=r) (fun pre τ G'=>G'=dE G p (.lst ((pre.map wd).map D.str))/\∃ a b c,τ=[some (enc r),some (.ref p),a,b,c]) ⟨rfl,_,_,_,rfl⟩ (fun _ _ _ _=>trivial) ?_ ?_
  ·rintro pre t post τ G' N2 e ⟨rfl,a,b,c,rfl⟩ Ah;have ht:=hg t (by rw [e]; simp);obtain⟨ta,tb,tc⟩:=t;have e3:(enc (⟨ta,tb,tc⟩:T3):D)=.tup [.int ta,.int tb,.int tc]:=rfl;rw [e3];simp only [xq,iO,aT,vC,jx,uB,ay,↓ax,↓ar,↓af,↓aa,↓ph,az,a9,kj,aU,dC,↓ju,↓jD,↓mB];have hb:tb=0\/tb=1:=ht.b;have hc:tc=1\/tc=-1:=ht.c;have hf:=Ce ht.n1 ht.n2;unfold BB at hf;simp only [aI,decide_eq_true_eq] at hf;have hil:(vS ta).length<=3:=hf.1.1.1.1.2;rw [aW];refine⟨trivial,D0 ht.n1 ht.n2,⟨?_,?_,by decide⟩,⟨?_,by decide,by decide,⟨?_,?_,by decide⟩,?_,?_⟩⟩
   ·show -((2:Nat):Int)<=tb; lia
   ·show tb < ((2:Nat):Int); lia
   ·rw [AU hb,yn]; lia
   ·show -((2:Nat):Int)<=(tc+1) / 2; lia
   ·show (tc+1) / 2 < ((2:Nat):Int); lia
   ·rw [AU hb,FQ hc,fj,yn,B4]; lia
   ·dsimp only;rw [aW];have:pre.length<=40:=by rw [e,aE] at hl; lia
    refine⟨by rw [ai,ai]; show _ < 16777216; lia,Ah _ _ ⟨?_,_,_,_,rfl⟩⟩;rw [AU hb,FQ hc];funext z;unfold dE;split
    ·simp [wd]
    ·rfl
  ·rintro τ G' ⟨rfl,a,b,c,rfl⟩;exact hN _ _ ⟨rfl,a,b,c,rfl⟩
 rintro _ _ ⟨rfl,a,b,c,rfl⟩;refine fY (fun τ G'=>G'=dE G p (.lst ((r.map wd).map D.str))/\r≠[]/\τ=[some (enc r),some (.ref p),a,b,c]) ?_ ?_
 ·intro N hN;simp only [dM,lC,↓dD,ay,↓af,↓aa,↓OF,↓aW,cC,fF,dC,ends,bZ];cases r with
  | nil=>exact jG (.new hp) q
  | cons x t=>exact hN _ _ ⟨rfl,by simp,rfl⟩
 rintro _ _ ⟨rfl,lr,rfl⟩;simp only [cC,fF,uB,dC,↓pf,az,ay,↓af,↓aa,aU,ends,↓true_and];refine B0 (IsL.ref aW) (by decide) (fun x hx=>?_) (by rw [ai]; lia) ?_
 ·obtain⟨p,hp,rfl⟩:=List.mem_map.mp hx;exact cE (Bc (hg p hp)) (by decide)
 ·have:ln r=gB " " (r.map wd):=if_neg lr;rw [<-this];exact jG (.new hp) q
def zr:i5 :=
 (cC (fF (uB QE Ig (dC (.str "\n")) (az (lg 1 [] (qx (ay 0)) (aT 0) none (cZ pB (az (ay 0) aU))) aU))))
def pz:nR:=fun ds G Q _=>∃ rows:Rows,ds=[enc rows]/\(rows.length<=5/\∀ r∈rows,(∀ p∈r,Cy p)/\r.length<=40)/\Q (.str (tx rows)) G
theorem JJ(ds:List D)(G:Gp)(Q:DK)(h:pz ds G Q fun _ _=>False):zr (fun _ _=>False) (ends Q) (bL 1 ds) G:=by
 obtain⟨rows,rfl,⟨h3,hg⟩,q⟩:=h;unfold zr;simp only [cC,fF,uB,dC,↓pf,az,lg,↓hW,ay,bL,↓aB,↓a7,↓ah,↓aq,↓aZ,↓aY,↓aa,aU,ends,↓true_and];refine xm ⟨TJ (by rw [ai]; lia),?_⟩;refine qI (xs:=rows) (fun pre acc τ G'=>G'=G/\(∃ a,τ=[a])/\acc=(pre.map ln).map D.str) ⟨rfl,⟨_,rfl⟩,rfl⟩ (fun _ _ _ _ _=>trivial) ?_ ?_
 ·rintro pre r post acc τ G' N e ⟨rfl,⟨a,rfl⟩,rfl⟩ hN;simp only [aT,cZ,az,ay,↓ar,↓aa,aU];exact⟨r,rfl,hg r (by rw [e]; simp),hN _ _ _ ⟨rfl,⟨_,rfl⟩,by simp⟩⟩
 ·rintro acc τ G' ⟨rfl,⟨a,rfl⟩,rfl⟩ b hb;refine B0 (IsL.ref aW) (by decide) (fun x hx=>?_) (by rw [ai]; lia) (jG (.new hb) q);obtain⟨r,hr,rfl⟩:=List.mem_map.mp hx;have:=Ww (hg r hr).1; have:=(hg r hr).2; lia
def nu:nR:=fun ds G Q _=>∃ (G0:Gp) (p0:Nat) (as:List Nat) (rows:Rows) (c:Int),ds=[.ref p0,.int c]/\HR G0 G p0 as rows/\(1<=rows.length/\rows.length<=5/\rows.flatten.length<=40) /\
 ∀ (HF:Rows) (m hd:Int) (G':Gp),HF.length=rows.length->HF.flatten.Perm (⟨m,1,hd⟩ :: ⟨m,0,hd⟩ :: rows.flatten)->m∉rows.flatten.map (·.a)->(1<=m/\m<=999)->(hd=1\/hd=-1)->HR G0 G' p0 as HF->Q .cR G'
def wM:i5 :=
 (bY (cT (cZ kr (az (ay 0) (az (ay 1) aU))) (aT 2))
 (bY (cT (a9 KZ (a9 Fq (dC (.int 2)) (a9 nB (ay 1) (dC (.int 2)))) (dC (.int 1))) (aT 3))
 (bY (cT (a9 qY (ay 0) (a9 nB (a9 wR (ay 1) (dC (.int 2))) (kj mV (az (ay 0) aU)))) (aT 4))
 (bY (jx (uB CQ w5 (ay 4) (az (a9 nB (a9 nB (a9 Fq (ay 1) (dC (.int 69621))) (dC (.int 999983))) (a9 qm (kj mV (az (ay 4) aU)) (dC (.int 1)))) (az (gU (az (ay 2) (az (dC (.int 0)) (az (ay 3) aU)))) aU))))
 (bY (cT (a9 qY (ay 0) (a9 nB (a9 wR (ay 1) (dC (.int 6))) (kj mV (az (ay 0) aU)))) (aT 5))
 (jx (uB CQ w5 (ay 5) (az (a9 nB (a9 nB (a9 Fq (ay 1) (dC (.int 40692))) (dC (.int 999979))) (a9 qm (kj mV (az (ay 5) aU)) (dC (.int 1)))) (az (gU (az (ay 2) (az (dC (.int 1)) (az (ay 3) aU)))) aU)))))))))
theorem GP(ds:List D)(G:Gp)(Q:DK)(h:nu ds G Q fun _ _=>False):wM (fun _ _=>False) (ends Q) (bL 6 ds) G:=by
 obtain⟨G0,p0,as,rows,c,rfl,hr,⟨n1,n3,hf⟩,q⟩:=h;unfold wM;simp only [ends,bL,aB,a7,ah,aq,bE,aZ,aY,dZ,cT,cZ,az,ay,aa,af,aU,aT,ax,ar,a9,dC,kj,wt,jx,uB,gU,tM,fJ,jD,om];refine⟨_,rows,c,rfl,HR.rw hr,by lia,fun m hm m1 m2=>?_⟩;simp only;refine⟨by decide,.inl ⟨by decide,by decide⟩,by decide,by decide,?_⟩;have hh:2 * (c % 2) - 1=1\/2 * (c % 2) - 1=-1:=by lia
 generalize 2 * (c % 2) - 1=hd at *;refine iJ (IsL.ref hr.gp) ?_;rw [ai,hr.len];simp only [fJ];refine⟨by lia,?_⟩;have i1:0<=c / 2 % (rows.length:Int):=iX _ (by lia);have i2:c / 2 % (rows.length:Int) < rows.length:=gP _ (by lia);generalize c / 2 % (rows.length:Int)=i at *;obtain⟨a,r,ea,er,ga,xa⟩:=HR.at_ hr i1 i2;refine yv (IsL.ref hr.gp) xa ?_;have rl:r.length<=40:=cE (iy (cH er)) hf;simp only [ph,ga,true_and];refine⟨.inr ⟨by decide,by decide⟩,by decide,?_⟩;refine iJ (IsL.ref ga) ?_;rw [ai];simp only [ju,fJ,tU];refine⟨by lia,by decide,?_⟩;have k1:0<=c * 69621 % 999983 % ((r.length:Int)+1):=iX _ (by lia);have k2:c * 69621 % 999983 % ((r.length:Int)+1) < (r.length:Int)+1:=gP _ (by lia);generalize c * 69621 % 999983 % ((r.length:Int)+1)=k at *;simp only [ga];refine⟨k1,by rw [ai]; lia,UA (by rw [ai]; lia),?_⟩;rw [show (D.tup [.int m,.int 0,.int hd])=enc (⟨m,0,hd⟩:T3) from rfl,FR];have h2:=hr.put (r':=ins r k.toNat ⟨m,0,hd⟩) ea;have p2:=wo (B2 r k.toNat ⟨m,0,hd⟩) rows _ er;generalize dE G a (.lst ((ins r k.toNat ⟨m,0,hd⟩).map enc))=G2 at *;generalize VA:rows.set i.toNat (ins r k.toNat ⟨m,0,hd⟩)=DL at *;have e2:DL.length=rows.length:=by rw [<-VA,dJ]
 refine⟨by decide,by decide,?_⟩;refine iJ (IsL.ref h2.gp) ?_;rw [ai,h2.len];simp only [fJ];refine⟨by lia,?_⟩;have j1:0<=c / 6 % (DL.length:Int):=iX _ (by lia);have j2:c / 6 % (DL.length:Int) < DL.length:=gP _ (by lia);generalize c / 6 % (DL.length:Int)=j at *;obtain⟨b,r',eb,er',gb,xb⟩:=HR.at_ h2 j1 j2;refine yv (IsL.ref h2.gp) xb ?_;have rl':r'.length<=41:=by
  have:=iy (cH er');have h3:=p2.length_eq;rw [ah] at h3; lia
 simp only [ph,gb,true_and];refine⟨.inr ⟨by decide,by decide⟩,by decide,?_⟩;refine iJ (IsL.ref gb) ?_;rw [ai];simp only [ju,fJ,tU];refine⟨by lia,by decide,?_⟩;have k1':0<=c * 40692 % 999979 % ((r'.length:Int)+1):=iX _ (by lia);have k2':c * 40692 % 999979 % ((r'.length:Int)+1) < (r'.length:Int)+1:=gP _ (by lia);generalize c * 40692 % 999979 % ((r'.length:Int)+1)=k' at *;simp only [gb];refine⟨k1',by rw [ai]; lia,UA (by rw [ai]; lia),?_⟩;rw [show (D.tup [.int m,.int 1,.int hd])=enc (⟨m,1,hd⟩:T3) from rfl,FR];refine q _ m hd _ ?_ ?_ hm ⟨m1,m2⟩ hh (h2.put (r':=ins r' k'.toNat ⟨m,1,hd⟩) eb)
 ·rw [dJ]; exact e2
 ·exact(wo (B2 r' k'.toNat ⟨m,1,hd⟩) DL _ er').trans (.cons _ p2)
end EA
namespace EA
open K2.P
open K2.yf (HR HR.fz HR.put iy eZ qJ)
open K2.K4 (Cy tx ln wd Hs wy hd Gk)
open K2.AB (rJ pG)
open K2.yf (xl)
theorem Z1{rows:Rows}(h:∀ r∈rows,∀ p∈r,Cy p):Pl (tx rows):=by
 have jp:∀ (sep:Str),Pl sep->∀ xs:List Str,(∀ x∈xs,Pl x)->Pl (gB sep xs):=fun sep hs xs=>by
  induction xs with
  | nil=>exact fun _ c hc=>by cases hc
  | cons x r ih =>
   intro hx;cases r with
   | nil=>exact hx x (by simp)
   | cons y t =>
    have e:gB sep (x :: y :: t)=(x++sep)++gB sep (y :: t):=rfl;rw [e];exact((hx x (by simp)).app hs).app (ih fun z hz=>hx z (by simp [hz]))
 have ac6:∀ {x:Str},x.cps.all (· < 128)=true->Pl x:=fun {x} h=>rg (by rw [EK]; exact h);refine jp _ (rg (by decide)) _ fun x hx=>?_;obtain⟨r,hr,rfl⟩:=List.mem_map.mp hx;unfold ln;split
 ·exact rg (by decide)
 ·refine jp _ (rg (by decide)) _ fun x hx=>?_;obtain⟨p,hp,rfl⟩:=List.mem_map.mp hx;have g:=h r hr p hp;rw [Hs];refine(ac6 (Gk g.n1 g.n2).2.2.2.1).app (Pl.app ?_ ?_)
  ·unfold wy; split <;> exact rg (by decide)
  ·unfold hd; split <;> exact rg (by decide)
def wN:i5 :=
 (bY (cT (a9 nB (cZ eZ (az (ay 0) (az (dC (.int 0)) aU))) (dC (.int 8))) (aT 1))
 (bY (dM (fk (a9 (Fv true) (ay 1) (dC (.int 4)))) (cT (a9 qm (dC (.int 1)) (a9 nB (ay 1) (dC (.int 3)))) (aT 1)) bZ)
 (bY (cT (lg 1 [] (Iz (ay 1)) (aT 0) none (o6 aU)) (aT 2))
 (bY (je (qx (Cm (ay 0) (gL (dC (.int 5))) (gL (dC (.int 18))))) (aT 3) (jx (cZ nu (az (ay 2) (az (ay 3) aU)))))
 (bY (cT (cZ pz (az (fF (ay 2)) aU)) (aT 4))
 (bY (je (qx (Cm (ay 0) (gL (dC (.int 1))) (gL (dC (.int 5))))) (aT 3) (cT (cZ l7 (az (ay 4) (az (ay 3) aU))) (aT 4)))
 (cC (fF (ay 4)))))))))
def nv:nR:=fun ds G Q _=>∃ ns:List Int,ds=[.fH (ns.map D.int)]/\∀ x:Str,Pl x->x.length<=239->Q (.str x) G
theorem GQ(ds:List D)(G:Gp)(Q:DK)(h:nv ds G Q fun _ _=>False):wN (fun _ _=>False) (ends Q) (bL 5 ds) G:=by
 obtain⟨ns,rfl,q⟩:=h;unfold wN;simp only [↓dZ,cT,a9,cZ,az,ay,bL,↓aB,↓a7,↓ah,↓aq,bE,↓aZ,↓aY,↓aa,dC,aU,aT,ends,↓ax,↓ar];refine⟨ns,0,rfl,by decide,?_⟩;simp only [↓fJ];refine⟨by decide,?_⟩;have m1:0<=qJ ns 0 % 8:=by lia
 have m2:qJ ns 0 % 8 < 8:=by lia
 generalize qJ ns 0 % 8=m at *;refine fY (fun τ G'=>G=G'/\∃ k:Int,(1<=k/\k<=4)/\τ=[some (.fH (ns.map D.int)),some (.int k),none,none,none]) ?_ ?_
 ·intro N hN;simp only [dM,↓dD,a9,ay,↓af,↓aa,dC,cT,↓fJ,↓ju,aT,↓ax,↓ar,bZ];refine⟨_,_,.int _,.int _,?_⟩;rw [if_pos rfl];have e4:ik (.int m) (.int 4)=decide (m=4):=Enc.eqv m 4;rw [e4];by_cases hm:m=4
  ·rw [decide_eq_true hm];simp only [↓aR,↓bM,↓aw,↓if_false];exact hN _ _ ⟨rfl,m,⟨by lia,by lia⟩,rfl⟩
  ·rw [decide_eq_false hm];simp only [↓aR,↓bN,↓if_true];exact⟨by decide,hN _ _ ⟨rfl,_,⟨by lia,by lia⟩,rfl⟩⟩
 rintro _ _ ⟨rfl,k,⟨k1,k3⟩,rfl⟩;simp only [↓dZ,cT,lg,↓xk,ay,↓af,↓aa,↓yt,aT,↓ax,↓ar];refine⟨by lia,by lia,TJ (by unfold kR; rw [ai,fA]; lia),?_⟩;unfold kR;refine qI (xs:=cA k.toNat) (fun pre acc τ G'=>(∃ a,τ=[a])/\∃ as:List Nat,acc=as.map D.ref/\as.length=pre.length/\as.Nodup/\(∀ a∈as,G a=none/\G' a=some (.lst []))/\kl G G') ⟨⟨_,rfl⟩,[],rfl,rfl,gZ,(fun a h=>by cases h),.refl G⟩ (fun _ _ _ _ _=>trivial) ?_ ?_
 ·rintro pre x post acc τ G' N e ⟨⟨a,rfl⟩,as,rfl,hl,hn,ha,le⟩ hN;simp only [aT,o6,aU,↓aq,↓ar];refine⟨by decide,fun p hp=>?_⟩;refine hN _ _ _ ⟨⟨_,rfl⟩,as++[p],by simp,by simp [hl],?_,?_,le.trans (.new hp)⟩
  ·rw [ko];refine⟨hn,by simp,fun a h b hb e=>?_⟩;rw [iB] at hb;subst hb e;rw [(ha a h).2] at hp; cases hp
  ·intro a h0;rcases List.mem_append.mp h0 with h | h
   ·refine⟨(ha a h).1,?_⟩;rw [dR (fun z=>by rw [<-z,(ha a h).2] at hp; cases hp)];exact(ha a h).2
   ·rw [iB] at h;subst h;exact⟨le.free hp,aW⟩
 rintro acc τ G1 ⟨⟨a,rfl⟩,as,rfl,hl,hn,ha,le⟩ p0 D5;rw [fA] at hl;have hr0:HR G (dE G1 p0 (.lst (as.map D.ref))) p0 as (bE as.length []):=by
  refine⟨le.trans (.new D5),le.free D5,aW,fun z=>?_,hn,fun a h=>(ha a h).1,by simp,fun i b r hb hr=>?_⟩
  ·rw [(ha p0 z).2] at D5; cases D5
  ·have B5:=cH hb;have:r=[]:=List.eq_of_mem_replicate (cH hr);subst this;rw [dR (by rintro rfl; rw [(ha b B5).2] at D5; cases D5)];exact(ha b B5).2
 generalize dE G1 p0 (.lst (as.map D.ref))=G2 at *;have as4:as.length<=4/\1<=as.length:=by lia
 refine fY (fun τ G'=>∃ (a b c:Option D) (rows:Rows),τ=[some (.fH (ns.map D.int)),a,some (.ref p0),b,c]/\rows.length<=4/\rows.flatten.length<=26/\(∀ r∈rows,∀ p∈r,Cy p)/\HR G G' p0 as rows) ?_ ?_
 ·intro N hN;simp only [je,↓hW,Cm,ay,↓aa,↓gV,dC,↓fx,↓Fo];intro p1 f1;have ec:cut (ns.map D.int) (some 5) (some 18)=(cut ns (some 5) (some 18)).map D.int:=uC _ _ _ _;have hcs:(cut ns (some 5) (some 18)).length<=13:=by
   unfold cut jW;simp only;rw [dH];have h1:min (18:Int).toNat ns.length<=18:=Nat.min_le_left _ _;simp;lia
  rw [ec];generalize cut ns (some 5) (some 18)=cs at *;have hr1:=rJ (o:=.lst (cs.map D.int)) hr0 f1;have b1:(dE G p1 (.lst (cs.map D.int))) p1=some (.lst (cs.map D.int)):=aW;have lB:kl G (dE G p1 (.lst (cs.map D.int))):=.new (hr0.le.free f1);generalize dE G2 p1 (.lst (cs.map D.int))=G3 at *;generalize dE G p1 (.lst (cs.map D.int))=B at *;refine xl (IsL.ref b1) hr1.le fun ok cO=>?_;refine i9 (xs:=cs) (fun pre τ G'=>(∃ a,τ=[some (.fH (ns.map D.int)),some (.int k),some (.ref p0),a,none])/\∃ rows:Rows,HR B G' p0 as rows/\rows.flatten.length=2 * pre.length/\rows.length=as.length/\∀ p∈rows.flatten,Cy p) ⟨⟨_,rfl⟩,_,hr1,by simp,by simp,fun p hp=>by simp at hp⟩ (fun _ _ _ h=>by obtain⟨_,_,h,_⟩:=h; exact cO _ h.le) ?_ ?_
  ·rintro pre c post τ G' N3 e ⟨⟨a,rfl⟩,rows,hr,fl,acY,gp⟩ NG;have Pe:pre.length < 13:=by have:=congrArg gO e; simp at this; lia
   simp only [aT,jx,cZ,az,ay,↓ax,↓ar,↓af,↓aa,aU];refine⟨B,p0,as,rows,c,rfl,hr,⟨by lia,by lia,by lia⟩,fun HF m hd G4 h1 h2 h3 hm h4 h5=>?_⟩;refine NG _ _ ⟨⟨_,rfl⟩,HF,h5,?_,by lia,fun p hp=>?_⟩
   ·have:=h2.length_eq;rw [ah,ah] at this;rw [aE,bf]; lia
   ·rcases List.mem_cons.mp (h2.mem_iff.mp hp) with rfl | hp
    ·exact⟨hm.1,hm.2,.inr rfl,h4⟩
    ·rcases List.mem_cons.mp hp with rfl | hp
     ·exact⟨hm.1,hm.2,.inl rfl,h4⟩
     ·exact gp p hp
  ·rintro τ G' ⟨⟨a,rfl⟩,rows,hr,fl,acY,gp⟩;exact hN _ _ ⟨_,_,_,rows,rfl,by lia,by lia,fun r WA p hp=>gp p (List.mem_flatten.mpr ⟨r,WA,hp⟩),pG lB hr⟩
 rintro _ G3 ⟨a,b,c,rows,rfl,r1,r2,r3,hr⟩;simp only [↓dZ,cT,cZ,az,fF,ay,↓af,↓aa,aU,aT,↓ax,↓ar];have rl:∀ r∈rows,r.length<=40:=fun r WA=>by
  have:=iy WA;lia
 refine hr.fz ⟨rows,rfl,⟨by lia,fun r WA=>⟨r3 r WA,rl r WA⟩⟩,?_⟩;have t0:=ZF r3;have t1:=Z1 r3;refine fY (fun τ G'=>∃ (a b c d:Option D) (x:Str),kl G G'/\Pl x/\x.length<=239/\τ=[a,b,c,d,some (.str x)]) ?_ ?_
 ·intro N hN;simp only [je,↓hW,Cm,ay,↓aa,↓gV,dC,↓fx,↓Fo];intro p1 f1;have ec:cut (ns.map D.int) (some 1) (some 5)=(cut ns (some 1) (some 5)).map D.int:=uC _ _ _ _;have hcs:(cut ns (some 1) (some 5)).length<=4:=by
   unfold cut jW;simp only;rw [dH];have h1:min (5:Int).toNat ns.length<=5:=Nat.min_le_left _ _;simp;lia
  rw [ec];generalize cut ns (some 1) (some 5)=cs at *;rw [AV aW];refine i9 (xs:=cs) (fun pre τ G'=>G'=dE G p1 (.lst (cs.map D.int))/\∃ (a b c d:Option D) (x:Str),Pl x/\x.length<=164+7 * pre.length/\τ=[a,b,c,d,some (.str x)]) ⟨rfl,_,_,_,_,tx rows,t1,by rw [aq]; lia,rfl⟩ (fun _ _ _ h=>by rw [h.1]; exact aW) ?_ ?_
  ·rintro pre c' post τ G' N3 e ⟨rfl,a,b,c,d,x,px,lx,rfl⟩ NG;have Pe:pre.length < 4:=by have:=congrArg gO e; simp at this; lia
   simp only [aT,cT,cZ,az,ay,↓ax,↓ar,↓af,↓aa,aU];refine⟨x,c',rfl,⟨px,by lia⟩,fun y py ly=>NG _ _ ⟨rfl,_,_,_,_,y,py,?_,rfl⟩⟩;rw [aE,bf]; lia
  ·rintro τ G' ⟨rfl,a,b,c,d,x,px,lx,rfl⟩;exact hN _ _ ⟨_,_,_,_,x,.new f1,px,by lia,rfl⟩
 ·rintro _ G4 ⟨a,b,c,d,x,l,px,lx,rfl⟩;simp only [cC,fF,ay,↓af,↓aa];exact jG l (q x px lx)
end EA
namespace Wa
open K2.P
open K2.za (fZ)
open K2.yf (HR HR.fz iy eZ c9)
open K2.AB (gG)
open K2.Qi (zh)
open K2.K4 (cY)
theorem aak{L:List T3}:∀ (l:List Int) {w:Str} {n:Int},nf L l=some (w,n)->okS w:=by
 intro l;induction l with
 | nil=>intro w n h; cases h
 | cons a l ih =>
  intro w n h;rw [FF] at h;split at h
  ·cases h; exact eU _
  split at h
  ·cases h; exact eU _
  ·exact ih h
theorem Mj{rows:Rows}{w:Str}{n:Int}(h:Hd rows=some (w,n)):okS w:=by
 unfold Hd at h;split at h
 ·cases h; exact eU _
 cases hf:fst [] rows.flatten with
 | some z=>rw [hf] at h; cases h; exact(VG _ _ hf).2.1
 | none =>
  rw [hf] at h;have h:Vk rows.flatten=some (w,n):=h;unfold Vk at h;cases hn:nf rows.flatten (yb rows.flatten) with
  | some z=>rw [hn] at h; cases h; exact aak _ hn
  | none =>
   rw [hn] at h;have h:(if 12 < (yb rows.flatten).length then some (("many" : Str),((yb rows.flatten).length:Int)) else none)=some (w,n):=h;split at h
   ·cases h; exact eU _
   ·cases h
theorem Ml{rows:Rows}(h:Hd rows=none):(rows.flatten.map T3.s).Nodup:=by
 unfold Hd at h;split at h
 ·cases h
 cases hf:fst [] rows.flatten with
 | some z=>rw [hf] at h; cases h
 | none=>exact(IL _ [] hf gZ).1
theorem R8{G G2:Gp}{p:Nat}{as:List Nat}{rs:Rows}(h:HR (fun _=>none) G2 p as rs)(d:∀ a o,G2 a=some o->G a=none):HR G (P8 G2 G) p as rs:=by
 have u:∀ {a:Nat} {o:GO},G2 a=some o->P8 G2 G a=some o:=fun {a o} e=>by unfold P8; rw [e]
 have ga:∀ a∈as,∃ o,G2 a=some o:=fun a ha=>by
  obtain⟨i,hi⟩:=kE ha;have h1:i < rs.length:=by rw [<-h.len]; exact(List.getElem?_eq_some_iff.mp hi).1
  exact⟨_,h.at' i a rs[i] hi (aj h1)⟩
 refine⟨fun a o e=>?_,d _ _ h.gp,u h.gp,h.np,h.nd,fun a ha=>(ga a ha).elim fun o e=>d _ _ e,h.len,fun i a r h1 h2=>u (h.at' i a r h1 h2)⟩;unfold P8;cases e2:G2 a with
 | none=>exact e
 | some o'=>rw [d a o' e2] at e; cases e
end Wa
namespace EA
open K2.P
open K2.za (fZ)
open K2.yf (HR HR.fz iy eZ c9)
open K2.AB (gG)
open K2.Qi (zh)
open K2.K4 (cY)
open K2.Wa (Er Hd jr ij L9 R8 Mj Ml)
def wO:i5 :=
 (bY (cT (dC .cR) (aT 1))
 (bY (cT (dC .cR) (aT 2))
 (bY (cT (dC .cR) (aT 3))
 (bY (Jo lZ (az (ay 0) aU) 3 4 ["NoText"] ["NoDrawing"] (bY (cT (ay 4) (aT 1))
 (cT (zK ["NoText","NoDrawing"] ["NoDrawing"] (ay 4)) (aT 2))) (bY (cT (ay 4) (aT 1))
 (cT (zK ["NoText","NoDrawing"] ["NoText"] (ay 4)) (aT 2))))
 (cC (fF (gU (az (ay 3) (az (ay 1) (az (ay 2) aU))))))))))
def ny:nR:=fun ds G Q _=>∃ x:Str,ds=[.str x]/\(Pl x/\x.length<=239)/\match NH 0 (ka x) with
 | some (l,a)=>Q (.tup [.cR,Qe (Et l a),.bl false]) G
 | none=>match Hd ((ka x).map iN) with
  | none=>∀ p as G',HR G G' p as (((ka x).map iN).map fZ)->Q (.tup [.ref p,.cR,.cR]) G'
  | some (w,n)=>Q (.tup [.cR,Qe (Er w n),.bl false]) G
theorem GR(ds:List D)(G:Gp)(Q:DK)(h:ny ds G Q fun _ _=>False):wO (fun _ _=>False) (ends Q) (bL 5 ds) G:=by
 obtain⟨x,rfl,⟨hp,hl⟩,q⟩:=h;unfold wO;simp only [↓dZ,cT,dC,aT,ends,bL,↓aB,↓a7,↓ah,↓aq,bE,↓aZ,↓aY,↓ax,↓ar];cases hf:NH 0 (ka x) with
 | some la =>
  obtain⟨l,a⟩:=la;rw [hf] at q;refine fY (fun τ G'=>G'=G/\τ=[some (.str x),some (Qe (Et l a)),some (.bl false),some .cR,none]) ?_ ?_
  ·intro N hN;unfold Jo;simp only [az,ay,↓aa,aU,↓ax,↓ar,↓dZ,cT,↓af,aT];refine⟨x,rfl,⟨hp,hl⟩,?_⟩;rw [hf];refine .inl ⟨(by decide:(["NoText"]:List Str).contains "NoText" = true),(by decide:(["NoText","NoDrawing"]:List Str).contains "NoText" = true),hN _ _ ⟨rfl,?_⟩⟩;have c2:(["NoDrawing"]:List Str).contains "NoText" = false:=by decide
   show [some (D.str x),some (Qe (Et l a)),some (.bl ((["NoDrawing"]:List Str).contains "NoText")),some .cR,none]=_;rw [c2]
  ·rintro _ _ ⟨rfl,rfl⟩;simp only [cC,fF,gU,az,ay,↓af,↓aa,aU,↓ah,↓aq];exact⟨by decide,fy q⟩
 | none =>
  rw [hf] at q;cases hc:Hd ((ka x).map iN) with
  | none =>
   rw [hc] at q;refine fY (fun τ G'=>∃ p as,HR G G' p as (((ka x).map iN).map fZ)/\τ=[some (.str x),some .cR,some .cR,some (.ref p),none]) ?_ ?_
   ·intro N hN;unfold Jo;simp only [az,ay,↓aa,aU,↓ax,↓ar,↓dZ,cT,↓af,aT];refine⟨x,rfl,⟨hp,hl⟩,?_⟩;rw [hf,hc];exact fun p as G2 hr d=>hN _ _ ⟨p,as,R8 hr d,rfl⟩
   ·rintro _ G' ⟨p,as,hr,rfl⟩;simp only [cC,fF,gU,az,ay,↓af,↓aa,aU,↓ah,↓aq];exact⟨by decide,fy (q p as G' hr)⟩
  | some wn =>
   obtain⟨w,n⟩:=wn;rw [hc] at q;refine fY (fun τ G'=>G'=G/\τ=[some (.str x),some (Qe (Er w n)),some (.bl false),some .cR,none]) ?_ ?_
   ·intro N hN;unfold Jo;simp only [az,ay,↓aa,aU,↓ax,↓ar,↓dZ,cT,↓af,aT];refine⟨x,rfl,⟨hp,hl⟩,?_⟩;rw [hf,hc];refine .inr ⟨(by decide:(["NoDrawing"]:List Str).contains "NoDrawing" = true),(by decide:(["NoText","NoDrawing"]:List Str).contains "NoDrawing" = true),hN _ _ ⟨rfl,?_⟩⟩;have c2:(["NoText"]:List Str).contains "NoDrawing" = false:=by decide
    show [some (D.str x),some (Qe (Er w n)),some (.bl ((["NoText"]:List Str).contains "NoDrawing")),some .cR,none]=_;rw [c2]
   ·rintro _ _ ⟨rfl,rfl⟩;simp only [cC,fF,gU,az,ay,↓af,↓aa,aU,↓ah,↓aq];exact⟨by decide,fy q⟩
end EA
namespace EA
open K2.P
open K2.za (fZ)
open K2.yf (HR HR.fz iy eZ c9)
open K2.AB (gG)
open K2.Qi (zh)
open K2.K4 (cY)
open K2.Wa (Er Hd ij L9 Mj Ml)
def Q7:i5 :=
 (bY (cT (cZ nv (az (ay 0) aU)) (aT 1))
 (bY (cT (cZ pA (az (ay 1) aU)) (xq (iO (aT 2) (iO (aT 3) (iO (aT 4) vC)))))
 (bY (cT (cZ ny (az (ay 1) aU)) (xq (iO (aT 5) (iO (aT 6) (iO (aT 7) vC)))))
 (bY (dM (PB (fk (sP (sE true) (ay 2))) (fk (sP (sE false) (cZ ij (az (ay 2) aU))))) (cC (fF (qH (sP (sE false) (ay 6)) (qH (cZ cY (az (ay 5) aU)) (a9 (Fv false) (ay 5) (cZ gG (az (ay 2) aU))))))) bZ)
 (bY (dM (GB (lC (fk (zK ["NoText","NoDrawing"] ["NoText","NoDrawing"] (ay 6)))) (GB (lC (fk (NT ["NoText","NoDrawing"] (ay 6)))) (fk (ay 7)))) (cC (fF (dC (.bl false)))) bZ)
 (bY (dM (fk (sP (sE false) (ay 2))) (bY (cT (qH (zK ["NoText","NoDrawing"] ["NoText"] (ay 6)) (qH (cZ c9 (az (oJ ["NoText"] "line" (ay 6)) aU)) (cZ c9 (az (oJ ["NoText"] "at" (ay 6)) aU)))) (aT 8))
 (cC (fF (qH (ay 8) (a9 (Fv false) (gU (az (oJ ["NoText"] "line" (ay 6)) (az (oJ ["NoText"] "at" (ay 6)) aU))) (gU (az (ay 3) (az (ay 4) aU)))))))) bZ)
 (bY (cT (qH (zK ["NoText","NoDrawing"] ["NoDrawing"] (ay 6)) (qH (Jr "str" (oJ ["NoDrawing"] "word" (ay 6))) (cZ c9 (az (oJ ["NoDrawing"] "place" (ay 6)) aU)))) (aT 8))
 (cC (fF (qH (ay 8) (a9 (Fv false) (gU (az (oJ ["NoDrawing"] "word" (ay 6)) (az (oJ ["NoDrawing"] "place" (ay 6)) aU))) (cZ ij (az (ay 2) aU)))))))))))))
theorem Y1(ds:List D)(G:Gp)(Q:DK)(h:DD ds G Q fun _ _=>False):Q7 (fun _ _=>False) (ends Q) (bL 9 ds) G:=by
 obtain⟨ns,rfl,CZ,hG,q⟩:=h;unfold Q7;simp only [↓dZ,cT,cZ,az,ay,bL,↓aB,↓a7,↓ah,↓aq,bE,↓aZ,↓aY,↓aa,aU,aT,↓ax,↓ar,↓af,ends];refine⟨ns,rfl,fun x px lx=>?_⟩;simp only;refine⟨x,rfl,⟨px,lx⟩,?_⟩;cases hf:NH 0 (ka x) with
 | some la =>
  obtain⟨l,a⟩:=la;simp only [xq,iO,aT,vC,↓dZ,cT,cZ,az,ay,↓ax,↓ar,↓af,↓aa,aU];refine⟨x,rfl,⟨px,lx⟩,?_⟩;rw [hf];unfold Qe Et;simp only [bY,dM,PB,↓dD,sP,ay,↓af,↓aa,sE,↓aR,↓bM,↓aw,cZ,az,aU,↓bN,cC,fF,↓qG,↓aB,↓a7,a9,↓if_false,bZ,GB,lC,zK,dC,↓dZ,cT,oJ,YI,aT,↓ax,↓ar,gU,↓ah,↓aq,↓pJ,↓if_true,NT];have k1:([a8 "NoText",a8 "NoDrawing"]:List Str).contains (a8 "NoText")=true:=by decide
  have k2:([a8 "NoText"]:List Str).contains (a8 "NoText")=true:=by decide
  have ll:gk (a8 "line") ([a8 "line",a8 "at"].zip [D.int (l:Int),D.int (a:Int)])=some (.int l):=by simp [List.zip,gk]
  have la:gk (a8 "at") ([a8 "line",a8 "at"].zip [D.int (l:Int),D.int (a:Int)])=some (.int a):=by
   have:(a8 "at" == a8 "line")=false:=by decide
   simp [List.zip,gk,this]
  simp only [k1,k2,bM,aw,if_false,if_true,true_and,ll,la];refine⟨_,rfl,(l:Int),rfl,?_⟩;simp only [↓aR,↓if_true];refine⟨_,rfl,(a:Int),rfl,?_⟩;simp only [↓aR,↓if_true];refine⟨_,rfl,_,rfl,by decide,by decide,?_⟩;have sn:Sn G 8 (.tup [.int l,.int a]) (.tup [.int l,.int a]):=.n8 (.int _) (.n8 (.int _) .E8);refine⟨_,_,sn,sn,?_⟩;have e:ik (.tup [.int l,.int a]) (.tup [.int l,.int a])=true:=by
   show ((l:Int) == (l:Int)&&((a:Int) == (a:Int)&&true))=true;simp
  rw [e];exact fy (q _)
 | none =>
  simp only [xq,iO,aT,vC,↓dZ,cT,cZ,az,ay,↓ax,↓ar,↓af,↓aa,aU];refine⟨x,rfl,⟨px,lx⟩,?_⟩;rw [hf];have n1:=FL x;have dc:∀ {G':Gp} {R:DK},R (L9 (Hd ((ka x).map iN))) G'->ij [.fH (((ka x).map iN).map enc)] G' R fun _ _=>False:=fun h=>⟨(ka x).map iN,rfl,⟨by rw [ai]; lia,by lia⟩,h⟩;have er:(enc ((ka x).map iN):D)=.fH (((ka x).map iN).map enc):=rfl;cases hc:Hd ((ka x).map iN) with
  | none =>
   intro p as G1 hr;simp only [er];simp only [bY,dM,PB,↓dD,sP,ay,↓af,↓aa,sE,↓aR,cZ,az,aU,↓bN,cC,fF,↓qG,a9,↓if_true,bZ,GB,lC,dC,↓aw,↓dZ,cT,aT,↓ax,↓ar,gU,↓ah,↓aq,↓pJ,↓if_false];refine dc ?_;rw [hc];simp only [L9];refine⟨G,p,as,_,rfl,hr,?_⟩;simp only [↓aR,↓if_true];have nd:=Ml hc;have ZQ:(((ka x).map iN).length<=1000/\∀ r∈(ka x).map iN,r.length<=1000/\(r.map T3.s).Nodup):=⟨by rw [ai]; lia,fun r hr=>⟨by have:=iy hr; lia,nd.sublist ((List.sublist_flatten_of_mem hr).map _)⟩⟩;refine⟨(ka x).map iN,rfl,ZQ,?_⟩;refine⟨_,_,zh hr,Enc.sn _ 8 (((ka x).map iN).map fZ) (by decide),?_⟩;rw [Enc.eqv,decide_eq_true rfl];exact fy (q _)
  | some wn =>
   obtain⟨w,n⟩:=wn;have ok:=Mj hc;unfold Qe Er;simp only [er];simp only [bY,dM,PB,↓dD,sP,ay,↓af,↓aa,sE,↓aR,cZ,az,aU,↓bN,cC,fF,↓qG,↓aB,↓a7,↓aw,a9,↓if_false,bZ,GB,lC,dC,↓dZ,cT,aT,↓ax,↓ar,gU,↓ah,↓aq,↓pJ,↓if_true];refine dc ?_;rw [hc];simp only [L9,zK,ay,↓af,↓aa,↓aR,NT,↓bM,↓aw,oJ,YI,↓if_false];have k1:([a8 "NoText",a8 "NoDrawing"]:List Str).contains (a8 "NoDrawing")=true:=by decide
   have k2:([a8 "NoDrawing"]:List Str).contains (a8 "NoDrawing")=true:=by decide
   have lw:gk (a8 "word") ([a8 "word",a8 "place"].zip [D.str w,D.int n])=some (.str w):=by simp [List.zip,gk]
   have lp:gk (a8 "place") ([a8 "word",a8 "place"].zip [D.str w,D.int n])=some (.int n):=by
    have:(a8 "place" == a8 "word")=false:=by decide
    simp [List.zip,gk,this]
   simp only [k1,k2,bM,aw,if_false,if_true,true_and,lw,lp];refine⟨_,rfl,?_⟩;simp only [isAt,Vw,↓aR];refine⟨_,rfl,n,rfl,?_⟩;simp only [↓aR,↓if_true];refine⟨_,rfl,_,rfl,by decide,dc ?_⟩;rw [hc];have sn:Sn G 8 (.tup [.str w,.int n]) (.tup [.str w,.int n]):=.n8 (.str w ok) (.n8 (.int n) .E8);refine⟨_,_,sn,sn,?_⟩;have e:ik (.tup [.str w,.int n]) (.tup [.str w,.int n])=true:=by
    show (w == w&&(n == n&&true))=true;simp
   rw [e];exact fy (q _)
end EA
end K2
end
namespace Fin
open PySem PySem.Spec PyProof.Rows L2 K2
open K2.Wa (my zP iM sv jV vh ix qM jr zQ ij Cu bT)
open K2.EA
open K2.yf (eZ zO c9 xT)
open K2.K3 (eS xV kr zN)
open K2.K4 (cY kC)
open K2.Qi (qh Ez fX uf)
open K2.AB (mw zM gG xU)
open K2.P (jq ug)
def top(i:Nat):Stmt:=PySem.Challenge.pw_knotwise_k05_texts_refused.main.body.getD i (.Pass ⟨0,0,0,0⟩)
def Vl(i j:Nat):Stmt:=match top i with | .ClassDef _ _ _ b _ _ _ _ _ _ _=>b.getD j (.Pass ⟨0,0,0,0⟩) | s=>s
section
variable {P:bx} {w:World} {K:ag} {mg:Str->Option Value} {base:Heap}
seal sJ Kb gy GN
theorem Hz:cG ["_law_script","_law_k"] ["_law_script","_law_k"] (aX (top 26)):=uM
theorem IX {f:Addr} {fd:aH} (F:p7 K "_law_cell" "_law_cell" (top 26) f fd) (cU:mg "len" = none):fU P w K mg base ji 1 f fd ["_law_script","_law_k"] (ft K eZ) :=
 zF F Hz zO fun _ _ _ _ _ _ hr=>have hu:=hr.units; have hu0:=hr.KC; (aF (da (cS (La hu0) (bQ 1) (cM fm rfl cU gW (ak (bQ 0) aG)) (gc _)) (aL (bF (bW (g4 hu (bQ 0) (bQ 1) (fun _ _=>rfl))))) bR)
 (aL (bF (bW aJ))))
theorem wx:cG ["_law_rows","_law_used","_law_row","_law_passing_here"] ["_law_rows"] (aX (top 31)):=uM
theorem Gf {f:Addr} {fd:aH} (F:p7 K "_law_names" "_law_names" (top 31) f fd) (nW:mg "sorted" = none):fU P w K mg base ji 1 f fd ["_law_rows"] (ft K eS) :=
 zF F wx xV fun _ _ _ _ _ _ hr=>have nd:=wx.nd; have hu:=hr.units; (aF (qc (i:=1) nd rfl (ma aG))
 (aF (gY df rfl (hV (bQ 0)) (sF (i:=2) nd rfl) (aL (gY df rfl (hV (bQ 2)) (sF (i:=3) nd rfl) (aL (da (cS (iU hu) (g4 hu (bQ 3) aJ (fun _ _=>rfl)) (bQ 1) (by with_unfolding_all rfl)) (aL (jX (iZ dO iF iE kM oB (bQ 1) (ak (g4 hu (bQ 3) aJ (fun _ _=>rfl)) aG)))) bR)))))
 (aL (bF (bW (cM (GF rfl hu) rfl nW Em (ak (bQ 1) aG)))))))
theorem zo:cG ["_law_rows","_law_cell_here","_law_name_here"] ["_law_rows","_law_cell_here"] (aX (top 32)):=uM
theorem IV {f:Addr} {fd:aH} (F:p7 K "_law_name" "_law_name" (top 32) f fd) {ua:Addr} {ue:aH} (ib:vi P w K mg base ji 1 ua ue "_law_names" ["_law_rows"] (ft K eS)):fU P w K mg base ji 2 f fd ["_law_rows","_law_cell_here"] (ft K kr) :=
 zF F zo zN fun _ _ _ _ _ _ hr=>have nd:=zo.nd; have hu:=hr.units; (aF (qc (i:=2) nd rfl (bX j9 aJ (bX fT (bX fT (bX rj (bQ 1) aJ) aJ) aJ)))
 (aF (OU df (cS (Lb hu) (bQ 2) (cB ib.ok (hr.mono (by decide)) rfl ib.mg ib.kp ib.bi (ak (bQ 0) aG)) (by with_unfolding_all rfl)) (aL (qc (i:=2) nd rfl (bX j9 (bX fT (bQ 2) aJ) aJ))))
 (aL (bF (bW (bQ 2))))))
theorem wz:cG ["_law_rows","_law_cell_here","_law_name_here","_law_hand","_law_over","_law_under"] ["_law_rows","_law_cell_here"] (aX (top 33)):=uM
theorem Gg {f:Addr} {fd:aH} (F:p7 K "_law_cross" "_law_cross" (top 33) f fd) (cU:mg "len" = none) {LS:Addr} {Me:aH} (rS:vi P w K mg base ji 2 LS Me "_law_name" ["_law_rows","_law_cell_here"] (ft K kr)):fU P w K mg base ji 3 f fd ["_law_rows","_law_cell_here"] (ft K nu) :=
 zF F wz GP fun _ _ _ _ _ _ hr=>have nd:=wz.nd; have hu:=hr.units; (aF (qc (i:=2) nd rfl (cB rS.ok (hr.mono (by decide)) rfl rS.mg rS.kp rS.bi (ak (bQ 0) (ak (bQ 1) aG))))
 (aF (qc (i:=3) nd rfl (bX wW (bX rj aJ (bX fT (bQ 1) aJ)) aJ))
 (aF (qc (i:=4) nd rfl (g4 hu (bQ 0) (bX fT (bX oz (bQ 1) aJ) (cM fm rfl cU gW (ak (bQ 0) aG))) (fun _ _=>rfl)))
 (aF (jX (iZ dO JT JS kM BI (bQ 4) (ak (bX fT (bX fT (bX rj (bQ 1) aJ) aJ) (bX j9 (cM fm rfl cU gW (ak (bQ 4) aG)) aJ)) (ak (eT (ak (bQ 2) (ak aJ (ak (bQ 3) aG)))) aG))))
 (aF (qc (i:=5) nd rfl (g4 hu (bQ 0) (bX fT (bX oz (bQ 1) aJ) (cM fm rfl cU gW (ak (bQ 0) aG))) (fun _ _=>rfl)))
 (aL (jX (iZ dO JT JS kM BI (bQ 5) (ak (bX fT (bX fT (bX rj (bQ 1) aJ) aJ) (bX j9 (cM fm rfl cU gW (ak (bQ 5) aG)) aJ)) (ak (eT (ak (bQ 2) (ak aJ (ak (bQ 3) aG)))) aG))))))))))
theorem zq:cG ["_law_row","_law_words","_law_name_here","_law_way","_law_hand"] ["_law_row"] (aX (top 34)):=uM
theorem IW {f:Addr} {fd:aH} (F:p7 K "_law_line" "_law_line" (top 34) f fd) (yz:mg "str" = none):fU P w K mg base ji 1 f fd ["_law_row"] (ft K pB) :=
 zF F zq JM fun _ _ _ _ _ _ hr=>have nd:=zq.nd; (aF (qc (i:=1) nd rfl (ma aG))
 (aF (gY df rfl (hV (bQ 0)) (uo rfl (fN (sF (i:=2) nd rfl) (fN (sF (i:=3) nd rfl) (fN (sF (i:=4) nd rfl) qo))) (fQ (fQ (fQ qA)))) (aL (jX (iZ dO iF iE kM oB (bQ 1) (ak (bX kS (bX kS (By PC rfl yz Ti (ak (bQ 2) aG)) (nE cK (bQ 3))) (nE cK (bX oz (bX j9 (bQ 4) aJ) aJ))) aG)))))
 (aF (da (jE (iT (bQ 1))) (aL (bF (bW cK))) bR)
 (aL (bF (bW (iZ eA Oi Oh nq HY cK (ak (bQ 1) aG))))))))
theorem Hy:cG ["_law_rows"] ["_law_rows"] (aX (top 35)):=uM
theorem IQ {f:Addr} {fd:aH} (F:p7 K "_law_text" "_law_text" (top 35) f fd) {LU:Addr} {Mf:aH} (rT:vi P w K mg base ji 1 LU Mf "_law_line" ["_law_row"] (ft K pB)):fU P w K mg base ji 2 f fd ["_law_rows"] (ft K pz) :=
 zF F Hy JJ fun _ _ _ _ _ _ hr=>(aL (bF (bW (iZ eA Oi Oh nq HY cK (ak (qp ["_law_row"] (sc:=aX (top 35)) (XN:=["_law_rows"]) (hV (bQ 0)) (fun _ _ _ _=>(sF (i:=0) (show (["_law_row"]:List Str).Nodup by decide +kernel) rfl)) (fun _ _ _ _=>.none) (fun _ _ _ _=>(cB rT.ok (hr.mono (by decide)) rfl rT.mg rT.kp rT.bi (ak (bQ 0) aG)))) aG)))))
theorem zj:cG ["_law_cell_here","_law_some"] ["_law_cell_here"] (aX (top 38)):=uM
theorem IS {f:Addr} {fd:aH} (F:p7 K "_law_sign" "_law_sign" (top 38) f fd) (cU:mg "len" = none):fU P w K mg base ji 1 f fd ["_law_cell_here"] (ft K mr) :=
 zF F zj JK fun _ _ _ _ _ _ hr=>have nd:=zj.nd; have hu:=hr.units; (aF (qc (i:=1) nd rfl cK)
 (aF (qc (i:=1) nd rfl (bX kS (bQ 1) cK))
 (aF (da (cS (oA hu) (bX fT (bQ 0) aJ) aJ (gc _)) (aL (qc (i:=1) nd rfl cK)) bR)
 (aL (bF (bW (nE (bQ 1) (bX fT (bX oz (bQ 0) aJ) (cM oK rfl cU gW (ak (bQ 1) aG))))))))))
theorem va:cG ["_law_text_here","_law_cell_here","_law_at"] ["_law_text_here","_law_cell_here"] (aX (top 39)):=uM
theorem C6 {f:Addr} {fd:aH} (F:p7 K "_law_spoilt" "_law_spoilt" (top 39) f fd) (cU:mg "len" = none) (Lg:mg "max" = none) {LP:Addr} {Mb:aH} (jy:vi P w K mg base ji 1 LP Mb "_law_sign" ["_law_cell_here"] (ft K mr)):fU P w K mg base ji 2 f fd ["_law_text_here","_law_cell_here"] (ft K l7) :=
 zF F va Dp fun _ _ _ _ _ _ hr=>have nd:=va.nd; have hu:=hr.units; (aF (qc (i:=2) nd rfl (bX fT (bX fT (bX rj (bQ 1) aJ) aJ) (bX j9 (cM oK rfl cU gW (ak (bQ 0) aG)) aJ)))
 (aF (da (cS (oA hu) (bX fT (bQ 1) aJ) aJ (gc _)) (aL (bF (bW (bX kS (bX kS (fO (bQ 0) eI (dA (bQ 2))) (cB jy.ok (hr.mono (by decide)) rfl jy.mg jy.kp jy.bi (ak (bX oz (bQ 1) aJ) aG))) (fO (bQ 0) (dA (bQ 2)) eI))))) bR)
 (aF (da (cS (oA hu) (bX fT (bQ 1) aJ) aJ (gc _)) (aL (bF (bW (bX kS (fO (bQ 0) eI (dA (bQ 2))) (fO (bQ 0) (dA (bX j9 (bQ 2) aJ)) eI))))) bR)
 (aF (da (cS (oA hu) (bX fT (bQ 1) aJ) aJ (gc _)) (aL (bF (bW (bX kS (bX kS (fO (bQ 0) eI (dA (bQ 2))) (cB jy.ok (hr.mono (by decide)) rfl jy.mg jy.kp jy.bi (ak (bX oz (bQ 1) aJ) aG))) (fO (bQ 0) (dA (bX j9 (bQ 2) aJ)) eI))))) bR)
 (aF (da (cS (oA hu) (bX fT (bQ 1) aJ) aJ (gc _)) (aL (bF (bW (bX kS (fO (bQ 0) eI (dA (bQ 2))) (fO (bQ 0) (dA (cM (PF rfl hu) rfl Lg YT (ak aJ (ak (bX wW (bX wW (bQ 2) aJ) (bX fT (bX oz (bQ 1) aJ) aJ)) aG)))) eI))))) bR)
 (aL (bF (bW (bQ 0)))))))))
theorem wB:cG ["_law_script","_law_many","_law_rows","_law_cell_here","_law_text_here"] ["_law_script"] (aX (top 42)):=uM
theorem Gh {f:Addr} {fd:aH} (F:p7 K "_law_built" "_law_built" (top 42) f fd) (kU:mg "range" = none) {LV:Addr} {Mg:aH} (rV:vi P w K mg base ji 1 LV Mg "_law_cell" ["_law_script","_law_k"] (ft K eZ)) {Jd:Addr} {Jl:aH} (pL:vi P w K mg base ji 3 Jd Jl "_law_cross" ["_law_rows","_law_cell_here"] (ft K nu)) {LO:Addr} {Ma:aH} (rP:vi P w K mg base ji 2 LO Ma "_law_text" ["_law_rows"] (ft K pz)) {Gr:Addr} {Gz:aH} (nP:vi P w K mg base ji 2 Gr Gz "_law_spoilt" ["_law_text_here","_law_cell_here"] (ft K l7)):fU P w K mg base ji 4 f fd ["_law_script"] (ft K nv) :=
 zF F wB GQ fun _ _ _ _ _ _ hr=>have nd:=wB.nd; have hu:=hr.units; (aF (qc (i:=1) nd rfl (bX fT (cB rV.ok (hr.mono (by decide)) rfl rV.mg rV.kp rV.bi (ak (bQ 0) (ak aJ aG))) aJ))
 (aF (da (cS (yw hu) (bQ 1) aJ (gc _)) (aL (qc (i:=1) nd rfl (bX j9 aJ (bX fT (bQ 1) aJ)))) bR)
 (aF (Rj ["_law_k"] (sc:=aX (top 42)) (XN:=["_law_script","_law_many","_law_rows","_law_cell_here","_law_text_here"]) (i:=2) nd rfl rfl (vo rfl kU (bQ 1)) (fun _ _ _ _=>(sF (i:=0) (show (["_law_k"]:List Str).Nodup by decide +kernel) rfl)) (fun _ _ _ _=>.none) (fun _ _ _ _=>(ma aG)))
 (aF (gY df rfl (hV (g8 (bQ 0) (dA aJ) (dA aJ))) (sF (i:=3) nd rfl) (aL (jX (cB pL.ok (hr.mono (by decide)) rfl pL.mg pL.kp pL.bi (ak (bQ 2) (ak (bQ 3) aG))))))
 (aF (qc (i:=4) nd rfl (cB rP.ok (hr.mono (by decide)) rfl rP.mg rP.kp rP.bi (ak (bW (bQ 2)) aG)))
 (aF (gY df rfl (hV (g8 (bQ 0) (dA aJ) (dA aJ))) (sF (i:=3) nd rfl) (aL (qc (i:=4) nd rfl (cB nP.ok (hr.mono (by decide)) rfl nP.mg nP.kp nP.bi (ak (bQ 4) (ak (bQ 3) aG))))))
 (aL (bF (bW (bQ 4))))))))))
theorem tE:cG ["_law_word","_law_number","_law_sign_here"] ["_law_word"] (aX (top 40)):=uM
theorem Cb {f:Addr} {fd:aH} (F:p7 K "_law_passing" "_law_passing" (top 40) f fd) (cU:mg "len" = none):fU P w K mg base ji 1 f fd ["_law_word"] (ft K kO) :=
 zF F tE Ct fun _ _ _ _ _ _ hr=>have nd:=tE.nd; have hu:=hr.units; have hu0:=hr.KC; (aF (da (Ka.pt (rf (cS (La hu0) (cM oK rfl cU gW (ak (bQ 0) aG)) aJ (gc _)) (rf (cS Lc (cM oK rfl cU gW (ak (bQ 0) aG)) aJ (gc _)) (qZ (cS (oA hu) (nE (bQ 0) aJ) cK (gc _)))))) (aL (bF (bW j8))) bR)
 (aF (da (Ka.pt (rf (cS BA (nE (bQ 0) (mT j6 aJ)) cK (by with_unfolding_all rfl)) (qZ (cS BA (nE (bQ 0) (mT j6 aJ)) cK (by with_unfolding_all rfl))))) (aL (bF (bW j8))) bR)
 (aF (qc (i:=1) nd rfl aJ)
 (aF (gY df rfl (M8 (fO (bQ 0) eI (dA (mT j6 aJ)))) (sF (i:=2) nd rfl) (aF (da (cS BA (bQ 2) cK (by with_unfolding_all rfl)) (aL (bF (bW j8))) bR)
 (aL (qc (i:=1) nd rfl (bX j9 (bX rj aJ (bQ 1)) (iZ eA uI uH nq vt cK (ak (bQ 2) aG)))))))
 (aL (bF (bW (eT (ak (bQ 1) (ak (iZ eA uI uH nq vt cK (ak (nE (bQ 0) (mT j6 aJ)) aG)) (ak (bX wW (bX rj aJ (iZ eA uI uH nq vt cK (ak (nE (bQ 0) (mT j6 aJ)) aG))) aJ) aG)))))))))))
theorem zm:cG ["_law_text_here","_law_rows","_law_line_here","_law_words","_law_at","_law_passing_here"] ["_law_text_here"] (aX (top 41)):=uM
theorem IU {f:Addr} {fd:aH} (F:p7 K "_law_read" "_law_read" (top 41) f fd) (cU:mg "len" = none) (kU:mg "range" = none) {De:Addr} {Dj:aH} (mj:vi P w K mg base ji 1 De Dj "_law_passing" ["_law_word"] (ft K kO)):fU P w K mg base ji 2 f fd ["_law_text_here"] (ft K pA) :=
 zF F zm JL fun _ _ _ _ _ _ hr=>have nd:=zm.nd; have hu:=hr.units; (aF (qc (i:=1) nd rfl (ma aG))
 (aF (gY df rfl (hV (iZ eA mJ mI nq uv (bQ 0) (ak cK aG))) (sF (i:=2) nd rfl) (aF (qc (i:=3) nd rfl (iZ eA mJ mI nq uv (bQ 2) (ak cK aG)))
 (aF (jX (iZ dO iF iE kM oB (bQ 1) (ak (ma aG) aG)))
 (aL (da (cS (yw hu) (bQ 3) (ma (ak cK aG)) (gc _)) (aL (gY df rfl (vo rfl kU (cM fm rfl cU gW (ak (bQ 3) aG))) (sF (i:=4) nd rfl) (aF (qc (i:=5) nd rfl (cB mj.ok (hr.mono (by decide)) rfl mj.mg mj.kp mj.bi (ak (g4 hu (bQ 3) (bQ 4) (fun _ _=>rfl)) aG)))
 (aF (da (Fx (bQ 5)) (aL (bF (bW (eT (ak j8 (ak (bX wW (cM fm rfl cU gW (ak (bQ 1) aG)) aJ) (ak (bQ 4) aG))))))) bR)
 (aL (jX (iZ dO iF iE kM oB (g4 hu (bQ 1) (mT j6 aJ) (fun _ _=>rfl)) (ak (bQ 5) aG)))))))) bR)))))
 (aL (bF (bW (eT (ak (bQ 1) (ak aJ (ak aJ aG)))))))))
theorem sD:cG ["self","word","place"] ["self","word","place"] (aX (Vl 2 0)):=uM
theorem sH {f C B:Addr} {fd:aH} (z:Y2 K C "NoDrawing" "NoDrawing.__init__" "word" "place" (Vl 2 0) f fd) (b:EBt K "KnotError" B) (mb:mg "KnotError" = some (.ref B)):fU P w K mg base ji 1 f fd ["self","word","place"] (Xl K C "word" "place" bT) :=
 Nx (by decide) z.F sD fun _ _ _ _ _ _ hr=>wU (M5 rfl mb b.sp b.rd b.fc qf z.ex (pv 0) (HU (um (by decide +kernel) (AL (bQ 1) (um (by decide +kernel) (AL (bQ 2) M6)))))) (wU (Rh z.Z z.n1 (pv 0) (pv 1)) (M4 (Rg z.Z z.n2 (pv 0) (pv 2))))
theorem qj:cG ["hands","names","name"] ["hands"] (aX (top 14)):=uM
theorem yN {f:Addr} {fd:aH} (F:p7 K "refuse_names" "refuse_names" (top 14) f fd) (cU:mg "len" = none) (Le:mg "set" = none) (nW:mg "sorted" = none) {lL:Tok} (xJ:mg "MOST_CROSSINGS" = some (.int 12 lL)) {lq:Addr} {gh:Addr} {gi:aH} (eO:PV P w K mg base 1 gh gi lq "NoDrawing" ["self","word","place"] "word" "place" bT):fU P w K mg base (EB P w) 3 f fd ["hands"] (mZ K mg ix) :=
 foX F qj qM fun _ _ _ _ _ _ hr=>have nd:=qj.nd; have hu:=hr.units; (aF (qc (i:=1) nd rfl (Bx rfl hu rfl nW rfl Le (ak (qp ["spot"] (sc:=aX (top 14)) (XN:=["hands","names","name"]) (Ro (bQ 0)) (fun _ _ _ _=>(sF (i:=0) (show (["spot"]:List Str).Nodup by decide +kernel) rfl)) (fun _ _ _ _=>.none) (fun _ _ _ _=>(g4 hu (bQ 0) aJ (fun _ _=>rfl)))) aG)))
 (aF (gY zW rfl (hV (bQ 1)) (sF (i:=2) nd rfl) (aF (da (Ka.pt (rf (cS (iU hu) (eT (ak (bQ 2) (ak aJ aG))) (bQ 0) (by with_unfolding_all rfl)) (qZ (cS (iU hu) (eT (ak (bQ 2) (ak aJ aG))) (bQ 0) (by with_unfolding_all rfl))))) (aL (lN ⟨rfl,rfl,rfl⟩ rfl eO (hr.mono (by decide)) rfl (ak cK (ak (bQ 2) aG)))) bR)
 (aL (da (cS (yw hu) (g4 hu (bQ 0) (eT (ak (bQ 2) (ak aJ aG))) (fun _ _=>rfl)) (g4 hu (bQ 0) (eT (ak (bQ 2) (ak aJ aG))) (fun _ _=>rfl)) (gc _)) (aL (lN ⟨rfl,rfl,rfl⟩ rfl eO (hr.mono (by decide)) rfl (ak cK (ak (bQ 2) aG)))) bR))))
 (aL (da (cS Lc (cM fm rfl cU gW (ak (bQ 1) aG)) (AM rfl xJ) (gc _)) (aL (lN ⟨rfl,rfl,rfl⟩ rfl eO (hr.mono (by decide)) rfl (ak cK (ak (cM fm rfl cU gW (ak (bQ 1) aG)) aG)))) bR))))
theorem tD:cG ["rows","passings","row"] ["rows"] (aX (top 8)):=uM
theorem B9 {f:Addr} {fd:aH} (F:p7 K "passings_of" "passings_of" (top 8) f fd):fU P w K mg base ji 1 f fd ["rows"] (ft K jq) :=
 zF F tD ug fun _ _ _ _ _ _ hr=>have nd:=tD.nd; (aF (qc (i:=1) nd rfl (ma aG))
 (aF (gY df rfl (hV (bQ 0)) (sF (i:=2) nd rfl) (aL (jX (iZ dO PySem.F.slot_list_extend PySem.F.type_list_extend kM Lh (bQ 1) (ak (bQ 2) aG)))))
 (aL (bF (bW (bQ 1))))))
theorem HA:cG ["passing","hands"] ["passing","hands"] (aX (top 13)):=uM
theorem IY {f:Addr} {fd:aH} (F:p7 K "fault_of" "fault_of" (top 13) f fd) {mS:Tok} (yW:mg "GREATEST_NAME" = some (.int 999 mS)):fU P w K mg base ji 1 f fd ["passing","hands"] (ft K my) :=
 zF F HA zP fun _ _ _ _ _ _ hr=>have hu:=hr.units; (aF (da (jE (uk tQ tQ aJ (g4 hu (bQ 0) aJ (fun _ _=>rfl)) (AM rfl yW))) (aL (bF (bW cK))) bR)
 (aF (da (cS (iU hu) (g4 hu (bQ 0) aJ (fun _ _=>rfl)) (eT (ak aJ (ak aJ aG))) (by with_unfolding_all rfl)) (aL (bF (bW cK))) bR)
 (aF (da (cS (iU hu) (g4 hu (bQ 0) aJ (fun _ _=>rfl)) (eT (ak aJ (ak (mT j6 aJ) aG))) (by with_unfolding_all rfl)) (aL (bF (bW cK))) bR)
 (aF (da (cS (Lb hu) (g8 (bQ 0) eI (dA aJ)) (bQ 1) (by with_unfolding_all rfl)) (aL (bF (bW cK))) bR)
 (aL (bF (bW j8)))))))
theorem vb:cG ["rows","hands","place","passing","word"] ["rows"] (aX (top 12)):=uM
theorem C7 {f:Addr} {fd:aH} (F:p7 K "hands_met" "hands_met" (top 12) f fd) (gH:mg "enumerate" = none) {Dc:Addr} {Di:aH} (mi:vi P w K mg base ji 1 Dc Di "passings_of" ["rows"] (ft K jq)) {LW:Addr} {Mh:aH} (rW:vi P w K mg base ji 1 LW Mh "fault_of" ["passing","hands"] (ft K my)) {lq:Addr} {gh:Addr} {gi:aH} (eO:PV P w K mg base 1 gh gi lq "NoDrawing" ["self","word","place"] "word" "place" bT):fU P w K mg base (EB P w) 3 f fd ["rows"] (mZ K mg jV) :=
 foX F vb vh fun _ _ _ _ _ _ hr=>have nd:=vb.nd; have hu:=hr.units; (aF (qc (i:=1) nd rfl Nb)
 (aF (gY zW rfl (Bw rfl gH (cB mi.ok (hr.mono (by decide)) rfl mi.mg mi.kp mi.bi (ak (bQ 0) aG))) (uo rfl (fN (sF (i:=2) nd rfl) (fN (sF (i:=3) nd rfl) qo)) (fQ (fQ qA))) (aF (qc (i:=4) nd rfl (cB rW.ok (hr.mono (by decide)) rfl rW.mg rW.kp rW.bi (ak (bQ 3) (ak (bQ 1) aG))))
 (aF (da (DQ (bQ 4)) (aL (lN ⟨rfl,rfl,rfl⟩ rfl eO (hr.mono (by decide)) rfl (ak (bQ 4) (ak (bQ 2) aG)))) bR)
 (aL (AK (g4 hu (bQ 3) aJ (fun _ _=>rfl)) (M9 hu (bQ 1) (g8 (bQ 3) eI (dA aJ))))))))
 (aL (bF (bW (bQ 1))))))
theorem DJ:cG ["row","start"] ["row"] (aX (top 9)):=uM
theorem Pq {f:Addr} {fd:aH} (F:p7 K "seated" "seated" (top 9) f fd) (Lf:mg "min" = none):fU P w K mg base ji 1 f fd ["row"] (ft K qh) :=
 zF F DJ Ez fun _ _ _ _ _ _ hr=>have nd:=DJ.nd; have hu:=hr.units; (aF (da (jE (iT (bQ 0))) (aL (bF (bW (ma aG)))) bR)
 (aF (qc (i:=1) nd rfl (iZ dO Kt PySem.F.type_list_index kM (O3 hu) (bQ 0) (ak (cM (PD rfl hu) rfl Lf YS (ak (bQ 0) aG)) aG)))
 (aL (bF (bW (bX j9 (g8 (bQ 0) (dA (bQ 1)) eI) (g8 (bQ 0) eI (dA (bQ 1)))))))))
theorem Bm:cG ["rows"] ["rows"] (aX (top 10)):=uM
theorem B8 {f:Addr} {fd:aH} (F:p7 K "seated_rows" "seated_rows" (top 10) f fd) {SO:Addr} {S6:aH} (xM:vi P w K mg base ji 1 SO S6 "seated" ["row"] (ft K qh)):fU P w K mg base ji 2 f fd ["rows"] (ft K fX) :=
 zF F Bm uf fun _ _ _ _ _ _ hr=>(aL (bF (bW (qp ["row"] (sc:=aX (top 10)) (XN:=["rows"]) (hV (bQ 0)) (fun _ _ _ _=>(sF (i:=0) (show (["row"]:List Str).Nodup by decide +kernel) rfl)) (fun _ _ _ _=>.none) (fun _ _ _ _=>(cB xM.ok (hr.mono (by decide)) rfl xM.mg xM.kp xM.bi (ak (bQ 0) aG)))))))
theorem HB:cG ["rows"] ["rows"] (aX (top 11)):=uM
theorem IZ {f:Addr} {fd:aH} (F:p7 K "checked" "checked" (top 11) f fd) (cU:mg "len" = none) {oa:Tok} (Av:mg "MOST_STRINGS" = some (.int 3 oa)) {lq:Addr} {gh:Addr} {gi:aH} (eO:PV P w K mg base 1 gh gi lq "NoDrawing" ["self","word","place"] "word" "place" bT) {Am:Addr} {An:aH} (kb:vi P w K mg base (EB P w) 3 Am An "refuse_names" ["hands"] (mZ K mg ix)) {Gs:Addr} {GA:aH} (nQ:vi P w K mg base (EB P w) 3 Gs GA "hands_met" ["rows"] (mZ K mg jV)) {C9:Addr} {Dh:aH} (mh:vi P w K mg base ji 2 C9 Dh "seated_rows" ["rows"] (ft K fX)):fU P w K mg base (EB P w) 4 f fd ["rows"] (mZ K mg jr) :=
 foX F HB zQ fun _ _ _ _ _ _ hr=>(aF (da (jE (uk tQ tQ aJ (cM fm rfl cU gW (ak (bQ 0) aG)) (AM rfl Av))) (aL (lN ⟨rfl,rfl,rfl⟩ rfl eO (hr.mono (by decide)) rfl (ak cK (ak (cM fm rfl cU gW (ak (bQ 0) aG)) aG)))) bR)
 (aF (jX (ur kb.ok (hr.mono (by decide)) rfl kb.mg kb.kp kb.bi (ak (ur nQ.ok (hr.mono (by decide)) rfl nQ.mg nQ.kp nQ.bi (ak (bQ 0) aG)) aG)))
 (aL (bF (bW (cB mh.ok (hr.mono (by decide)) rfl mh.mg mh.kp mh.bi (ak (bQ 0) aG)))))))
theorem Bl:cG ["figures"] ["figures"] (aX (top 23)):=uM
theorem B7 {f:Addr} {fd:aH} (F:p7 K "writes_name" "writes_name" (top 23) f fd) (yB:mg "all" = none) (cU:mg "len" = none) {yo:Tok} (KR:mg "FIGURES" = some (.str "0123456789" yo)) {og:Tok} (Ax:mg "MOST_FIGURES" = some (.int 3 og)):fU P w K mg base ji 1 f fd ["figures"] (ft K kN) :=
 zF F Bl Cr fun _ _ _ _ _ _ hr=>have hu:=hr.units; (aF (da (Ka.pt (rf (jE (uk tQ tQ aJ (cM oK rfl cU gW (ak (bQ 0) aG)) (AM rfl Ax))) (qZ (cS (oA hu) (nE (bQ 0) aJ) cK (gc _))))) (aL (bF (bW vq))) bR)
 (aL (bF (bW (cM (El rfl) rfl yB Tn (ak (qp ["figure"] (sc:=aX (top 23)) (XN:=["figures"]) (M8 (bQ 0)) (fun _ _ _ _=>(sF (i:=0) (show (["figure"]:List Str).Nodup by decide +kernel) rfl)) (fun _ _ _ _=>.none) (fun _ _ _ _=>(wV Vh (bQ 0) (HV rfl KR) (by with_unfolding_all rfl)))) aG))))))
theorem wu:cG ["word"] ["word"] (aX (top 22)):=uM
theorem xy {f:Addr} {fd:aH} (F:p7 K "writes_passing" "writes_passing" (top 22) f fd) {lQ:Addr} {oF:List (Str×Tok×Addr)} (vB:mg "ENDINGS" = some (.ref lQ)) (jt:Mt w K lQ oF [("o+",0,1),("o-",0,-1),("u+",1,1),("u-",1,-1)]) {C8:Addr} {Dg:aH} (mf:vi P w K mg base ji 1 C8 Dg "writes_name" ["figures"] (ft K kN)):fU P w K mg base ji 2 f fd ["word"] (ft K i7) :=
 zF F wu xS fun _ _ _ _ _ _ hr=>(aL (bF (bW (md (Vb jt rfl vB (fO (bQ 0) (dA (mT j6 aJ)) eI)) (rh (cB mf.ok (hr.mono (by decide)) rfl mf.mg mf.kp mf.bi (ak (fO (bQ 0) eI (dA (mT j6 aJ))) aG)))))))
theorem vn:cG ["self","line","at"] ["self","line","at"] (aX (Vl 3 0)):=uM
theorem vE {f C B:Addr} {fd:aH} (z:Y2 K C "NoText" "NoText.__init__" "line" "at" (Vl 3 0) f fd) (b:EBt K "KnotError" B) (mb:mg "KnotError" = some (.ref B)):fU P w K mg base ji 1 f fd ["self","line","at"] (Xl K C "line" "at" gT) :=
 Nx (by decide) z.F vn fun _ _ _ _ _ _ hr=>wU (M5 rfl mb b.sp b.rd b.fc qf z.ex (pv 0) (HU (um (by decide +kernel) (AL (bQ 1) (um (by decide +kernel) (AL (bQ 2) M6)))))) (wU (Rh z.Z z.n1 (pv 0) (pv 1)) (M4 (Rg z.Z z.n2 (pv 0) (pv 2))))
theorem u7:cG ["word","ending"] ["word"] (aX (top 24)):=uM
theorem C5 {f:Addr} {fd:aH} (F:p7 K "passing_of" "passing_of" (top 24) f fd) (yA:mg "int" = none) {lQ:Addr} {oF:List (Str×Tok×Addr)} (vB:mg "ENDINGS" = some (.ref lQ)) (jt:Mt w K lQ oF [("o+",0,1),("o-",0,-1),("u+",1,1),("u-",1,-1)]):fU P w K mg base ji 1 f fd ["word"] (ft K iR) :=
 zF F u7 p6 fun _ _ _ _ _ _ hr=>have nd:=u7.nd; (OT jt nd (i:=1) rfl (Ui rfl) (by first | exact Or.inl rfl | exact Or.inr rfl) (by first | exact Or.inl rfl | exact Or.inr (Or.inl rfl) | exact Or.inr (Or.inr rfl)) rfl vB (fO (bQ 0) (dA (mT j6 aJ)) eI) (By Mo rfl yA Tj (ak (fO (bQ 0) eI (dA (mT j6 aJ))) aG)) (fun _ _=>rfl))
theorem Bn:cG ["line","number","row","at","word"] ["line","number"] (aX (top 21)):=uM
theorem LK {f:Addr} {fd:aH} (F:p7 K "row_of" "row_of" (top 21) f fd) (gH:mg "enumerate" = none) {E9:Tok} (QU:mg "POINT" = some (.str "." E9)) {yO:Addr} {yR:aH} (jH:vi P w K mg base ji 2 yO yR "writes_passing" ["word"] (ft K i7)) {PU:Addr} {xB:Addr} {xH:aH} (xN:PV P w K mg base 1 xB xH PU "NoText" ["self","line","at"] "line" "at" gT) {Gq:Addr} {Gy:aH} (nO:vi P w K mg base ji 1 Gq Gy "passing_of" ["word"] (ft K iR)):fU P w K mg base (EB P w) 3 f fd ["line","number"] (mZ K mg qV) :=
 foX F Bn Mw fun _ _ _ _ _ _ hr=>have nd:=Bn.nd; have hu:=hr.units; (aF (da (cS (oA hu) (bQ 0) (HV rfl QU) (gc _)) (aL (bF (bW (ma aG)))) bR)
 (aF (qc (i:=2) nd rfl (ma aG))
 (aF (gY zW rfl (Bw rfl gH (iZ eA mJ mI nq uv (bQ 0) (ak cK aG))) (uo rfl (fN (sF (i:=3) nd rfl) (fN (sF (i:=4) nd rfl) qo)) (fQ (fQ qA))) (aF (da (jE (iT (cB jH.ok (hr.mono (by decide)) rfl jH.mg jH.kp jH.bi (ak (bQ 4) aG)))) (aL (lN ⟨rfl,rfl,rfl⟩ rfl xN (hr.mono (by decide)) rfl (ak (bQ 1) (ak (bQ 3) aG)))) bR)
 (aL (jX (iZ dO iF iE kM oB (bQ 2) (ak (cB nO.ok (hr.mono (by decide)) rfl nO.mg nO.kp nO.bi (ak (bQ 4) aG)) aG))))))
 (aL (bF (bW (bQ 2)))))))
theorem CV:cG ["text"] ["text"] (aX (top 20)):=uM
theorem C4 {f:Addr} {fd:aH} (F:p7 K "read_text" "read_text" (top 20) f fd) (gH:mg "enumerate" = none) {LX:Addr} {Mi:aH} (rX:vi P w K mg base (EB P w) 4 LX Mi "checked" ["rows"] (mZ K mg jr)) {Pr:Addr} {Py:aH} (uD:vi P w K mg base (EB P w) 3 Pr Py "row_of" ["line","number"] (mZ K mg qV)):fU P w K mg base (EB P w) 5 f fd ["text"] (mZ K mg lZ) :=
 foX F CV Dm fun _ _ _ _ _ _ hr=>(aL (bF (bW (ur rX.ok (hr.mono (by decide)) rfl rX.mg rX.kp rX.bi (ak (bW (OW ["number","line"] (sc:=aX (top 20)) (XN:=["text"]) ⟨rfl,rfl,rfl⟩ (Bw rfl gH (iZ eA mJ mI nq uv (bQ 0) (ak cK aG))) (fun _ _ _ _=>(uo rfl (fN (sF (i:=0) (show (["number","line"]:List Str).Nodup by decide +kernel) rfl) (fN (sF (i:=1) (show (["number","line"]:List Str).Nodup by decide +kernel) rfl) qo)) (fQ (fQ qA)))) (fun _ _ _ _=>.none) (fun _ _ _ _=>(ur uD.ok (hr.mono (by decide)) rfl uD.mg uD.kp uD.bi (ak (bQ 1) (ak (bQ 0) aG)))))) aG)))))
theorem wC:cG ["_law_text_here","_law_refused","_law_unlike","_law_found","e"] ["_law_text_here"] (aX (top 43)):=uM
theorem Gi {f:Addr} {fd:aH} (F:p7 K "_law_asked" "_law_asked" (top 43) f fd) (cy:mg "isinstance" = none) {bz:Addr} (fP:bh K aP "NoText" = some (some (.ref bz))) (qr:mg "NoText" = some (.ref bz)) (qF:vg K bz [.type "ValueError",.type "Exception",.type "BaseException",.type "object"] "ValueError.__new__" = true) (g7:sx K bz) {aQ:Addr} (dr:bh K aP "NoDrawing" = some (some (.ref aQ))) (nF:mg "NoDrawing" = some (.ref aQ)) (kZ:vg K aQ [.type "ValueError",.type "Exception",.type "BaseException",.type "object"] "ValueError.__new__" = true) (e7:sx K aQ) (jF:bp K (.type "NoneType") (.ref aQ)=some false) (nX:bp K (.type "NoneType") (.ref bz)=some false) (fB:bp K (.ref bz) (.ref aQ)=some false) (eV:bp K (.ref aQ) (.ref aQ)=some true) (gM:bp K (.ref bz) (.ref bz)=some true) (fC:bp K (.ref aQ) (.ref bz)=some false) (lM:subIn K bz (.ref bz)=true) (iG:subIn K aQ (.ref aQ)=true) (jO:DC K aQ (.ref bz)=true) {Gn:Addr} {Gx:aH} (nN:vi P w K mg base (EB P w) 5 Gn Gx "read_text" ["text"] (mZ K mg lZ)):fU P w K mg base ji 6 f fd ["_law_text_here"] (ft K ny) :=
 zF F wC GR fun _ _ _ _ _ _ hr=>have nd:=wC.nd; (aF (qc (i:=1) nd rfl j8)
 (aF (qc (i:=2) nd rfl j8)
 (aF (qc (i:=3) nd rfl j8)
 (aF (Ri (j:=3) ⟨rfl,rfl,rfl⟩ ⟨nd,rfl,rfl,rfl,qr,⟨_,_,(.inr qF),rfl⟩,(eN ⟨_,_,_,fP,(.inr qF),lM⟩ hZ)⟩ ⟨rfl,qr,⟨_,_,(.inr qF),rfl⟩,(eN ⟨_,_,_,dr,(.inr kZ),jO⟩ hZ)⟩ ⟨nd,rfl,rfl,rfl,nF,⟨_,_,(.inr kZ),rfl⟩,(eN ⟨_,_,_,dr,(.inr kZ),iG⟩ hZ)⟩ rfl (by first | exact Or.inl rfl | exact Or.inr rfl) nN.ok (hr.mono (by decide)) rfl nN.mg nN.kp nN.bi (fun EX=>(ak (bQ 0) aG)) (fun v=>(aF (qc (i:=1) nd rfl (bQ 4))
 (aL (qc (i:=2) nd rfl (tP bG rfl cy rfl nF jF (eN ⟨_,fP,fB,g7⟩ (eN ⟨_,dr,eV,e7⟩ hZ)) (bQ 4)))))) (fun v=>(aF (qc (i:=1) nd rfl (bQ 4))
 (aL (qc (i:=2) nd rfl (tP bG rfl cy rfl qr nX (eN ⟨_,fP,gM,g7⟩ (eN ⟨_,dr,fC,e7⟩ hZ)) (bQ 4)))))))
 (aL (bF (bW (eT (ak (bQ 3) (ak (bQ 1) (ak (bQ 2) aG)))))))))))
theorem z0:cG ["_law_passing_here","_law_met"] ["_law_passing_here","_law_met"] (aX (top 36)):=uM
theorem Aj {f:Addr} {fd:aH} (F:p7 K "_law_fault_of" "_law_fault_of" (top 36) f fd):fU P w K mg base ji 1 f fd ["_law_passing_here","_law_met"] (ft K iM) :=
 zF F z0 sv fun _ _ _ _ _ _ hr=>have hu:=hr.units; (aF (da (jE (uk tQ tQ aJ (g4 hu (bQ 0) aJ (fun _ _=>rfl)) aJ)) (aL (bF (bW cK))) bR)
 (aF (da (cS (iU hu) (g4 hu (bQ 0) aJ (fun _ _=>rfl)) (eT (ak aJ (ak aJ aG))) (by with_unfolding_all rfl)) (aL (bF (bW cK))) bR)
 (aF (da (cS (iU hu) (g4 hu (bQ 0) aJ (fun _ _=>rfl)) (eT (ak aJ (ak (mT j6 aJ) aG))) (by with_unfolding_all rfl)) (aL (bF (bW cK))) bR)
 (aF (da (cS (Lb hu) (g8 (bQ 0) eI (dA aJ)) (bQ 1) (by with_unfolding_all rfl)) (aL (bF (bW cK))) bR)
 (aL (bF (bW cK)))))))
theorem Bo:cG ["_law_rows","_law_met","_law_row","_law_passing_here","_law_word","_law_names_here","_law_name_here"] ["_law_rows"] (aX (top 37)):=uM
theorem LL {f:Addr} {fd:aH} (F:p7 K "_law_due" "_law_due" (top 37) f fd) (cU:mg "len" = none) {Cf:Addr} {Ck:aH} (lj:vi P w K mg base ji 1 Cf Ck "_law_fault_of" ["_law_passing_here","_law_met"] (ft K iM)) {ua:Addr} {ue:aH} (ib:vi P w K mg base ji 1 ua ue "_law_names" ["_law_rows"] (ft K eS)):fU P w K mg base ji 2 f fd ["_law_rows"] (ft K ij) :=
 zF F Bo Cu fun _ _ _ _ _ _ hr=>have nd:=Bo.nd; have hu:=hr.units; (aF (da (cS (iU hu) (cM fm rfl cU gW (ak (bQ 0) aG)) (eT (ak aJ (ak aJ (ak aJ aG)))) (by with_unfolding_all rfl)) (aL (bF (bW (eT (ak cK (ak (cM fm rfl cU gW (ak (bQ 0) aG)) aG)))))) bR)
 (aF (qc (i:=1) nd rfl Nb)
 (aF (gY df rfl (hV (bQ 0)) (sF (i:=2) nd rfl) (aL (gY df rfl (hV (bQ 2)) (sF (i:=3) nd rfl) (aF (qc (i:=4) nd rfl (cB lj.ok (hr.mono (by decide)) rfl lj.mg lj.kp lj.bi (ak (bQ 3) (ak (bQ 1) aG))))
 (aF (da (cS (yw hu) (bQ 4) cK (gc _)) (aL (bF (bW (eT (ak (bQ 4) (ak (cM Mn rfl cU gW (ak (bQ 1) aG)) aG)))))) bR)
 (aL (AK (g4 hu (bQ 3) aJ (fun _ _=>rfl)) (M9 hu (bQ 1) (g8 (bQ 3) eI (dA aJ))))))))))
 (aF (qc (i:=5) nd rfl (cB ib.ok (hr.mono (by decide)) rfl ib.mg ib.kp ib.bi (ak (bQ 0) aG)))
 (aF (gY df rfl (hV (bQ 5)) (sF (i:=6) nd rfl) (aF (da (Ka.pt (rf (cS (iU hu) (eT (ak (bQ 6) (ak aJ aG))) (bQ 1) (by with_unfolding_all rfl)) (qZ (cS (iU hu) (eT (ak (bQ 6) (ak aJ aG))) (bQ 1) (by with_unfolding_all rfl))))) (aL (bF (bW (eT (ak cK (ak (bQ 6) aG)))))) bR)
 (aL (da (cS (yw hu) (g4 hu (bQ 1) (eT (ak (bQ 6) (ak aJ aG))) (fun _ _=>rfl)) (g4 hu (bQ 1) (eT (ak (bQ 6) (ak aJ aG))) (fun _ _=>rfl)) (gc _)) (aL (bF (bW (eT (ak cK (ak (bQ 6) aG)))))) bR))))
 (aF (da (cS Lc (cM fm rfl cU gW (ak (bQ 5) aG)) aJ (gc _)) (aL (bF (bW (eT (ak cK (ak (cM fm rfl cU gW (ak (bQ 5) aG)) aG)))))) bR)
 (aL (bF (bW j8)))))))))
theorem Fe:cG ["_law_found"] ["_law_found"] (aX (top 27)):=uM
theorem Gd {f:Addr} {fd:aH} (F:p7 K "_law_whole" "_law_whole" (top 27) f fd) (FD:mg "bool" = none) (yA:mg "int" = none) (cy:mg "isinstance" = none):fU P w K mg base ji 1 f fd ["_law_found"] (ft K c9) :=
 zF F Fe xT fun _ _ _ _ _ _ hr=>(aL (bF (bW (md (uq "int" (by decide) rfl cy rfl yA Tj (bQ 0)) (rh (U9 (uq "bool" (by decide) rfl cy rfl FD V1 (bQ 0))))))))
theorem ku:cG ["_law_found","_law_row","_law_passing_here"] ["_law_found"] (aX (top 28)):=uM
theorem qE {f:Addr} {fd:aH} (F:p7 K "_law_rows_of_passings" "_law_rows_of_passings" (top 28) f fd) (yB:mg "all" = none) (cy:mg "isinstance" = none) (cU:mg "len" = none) (AO:mg "list" = none) (BG:mg "tuple" = none) {t9:Addr} {ud:aH} (dI:vi P w K mg base ji 1 t9 ud "_law_whole" ["_law_found"] (ft K c9)):fU P w K mg base ji 2 f fd ["_law_found"] (ft K cY) :=
 zF F ku kC fun _ _ _ _ _ _ hr=>have nd:=ku.nd; have hu:=hr.units; (aF (da (jE (iT (uq "list" (by decide) rfl cy rfl AO N0 (bQ 0)))) (aL (bF (bW vq))) bR)
 (aF (gY df rfl (hV (bQ 0)) (sF (i:=1) nd rfl) (aF (da (jE (iT (uq "list" (by decide) rfl cy rfl AO N0 (bQ 1)))) (aL (bF (bW vq))) bR)
 (aL (gY df rfl (hV (bQ 1)) (sF (i:=2) nd rfl) (aF (da (Ka.pt (rf (jE (iT (uq "tuple" (by decide) rfl cy rfl BG Th (bQ 2)))) (qZ (cS (yw hu) (cM fm rfl cU gW (ak (bQ 2) aG)) aJ (gc _))))) (aL (bF (bW vq))) bR)
 (aL (da (jE (iT (cM (El rfl) rfl yB Tn (ak (qp ["_law_number"] (sc:=aX (top 28)) (XN:=["_law_found","_law_row","_law_passing_here"]) (hV (bQ 2)) (fun _ _ _ _=>(sF (i:=0) (show (["_law_number"]:List Str).Nodup by decide +kernel) rfl)) (fun _ _ _ _=>.none) (fun _ _ _ _=>(cB dI.ok (hr.mono (by decide)) rfl dI.mg dI.kp dI.bi (ak (bQ 0) aG)))) aG)))) (aL (bF (bW vq))) bR)))))))
 (aL (bF (bW vq)))))
theorem zk:cG ["_law_row","_law_best","_law_k"] ["_law_row"] (aX (top 29)):=uM
theorem IT {f:Addr} {fd:aH} (F:p7 K "_law_seat" "_law_seat" (top 29) f fd) (cU:mg "len" = none) (kU:mg "range" = none):fU P w K mg base ji 1 f fd ["_law_row"] (ft K mw) :=
 zF F zk zM fun _ _ _ _ _ _ hr=>have nd:=zk.nd; have hu:=hr.units; have hu0:=hr.KC; (aF (qc (i:=1) nd rfl aJ)
 (aF (gY df rfl (vo rfl kU (cM fm rfl cU gW (ak (bQ 0) aG))) (sF (i:=2) nd rfl) (aL (da (cS (La hu0) (g8 (g4 hu (bQ 0) (bQ 2) (fun _ _=>rfl)) eI (dA aJ)) (g8 (g4 hu (bQ 0) (bQ 1) (fun _ _=>rfl)) eI (dA aJ)) (gc _)) (aL (qc (i:=1) nd rfl (bQ 2))) bR)))
 (aL (bF (bW (bX j9 (g8 (bQ 0) (dA (bQ 1)) eI) (g8 (bQ 0) eI (dA (bQ 1)))))))))
theorem Ff:cG ["_law_rows"] ["_law_rows"] (aX (top 30)):=uM
theorem Ge {f:Addr} {fd:aH} (F:p7 K "_law_seats" "_law_seats" (top 30) f fd) {LQ:Addr} {Mc:aH} (rQ:vi P w K mg base ji 1 LQ Mc "_law_seat" ["_law_row"] (ft K mw)):fU P w K mg base ji 2 f fd ["_law_rows"] (ft K gG) :=
 zF F Ff xU fun _ _ _ _ _ _ hr=>(aL (bF (bW (qp ["_law_row"] (sc:=aX (top 30)) (XN:=["_law_rows"]) (hV (bQ 0)) (fun _ _ _ _=>(sF (i:=0) (show (["_law_row"]:List Str).Nodup by decide +kernel) rfl)) (fun _ _ _ _=>.none) (fun _ _ _ _=>(cB rQ.ok (hr.mono (by decide)) rfl rQ.mg rQ.kp rQ.bi (ak (bQ 0) aG)))))))
theorem QX:cG ["_law_script","_law_text_here","_law_rows","_law_line_here","_law_at","_law_found","_law_refused","_law_unlike","_law_told"] ["_law_script"] (aX (top 44)):=uM
theorem YD {f:Addr} {fd:aH} (F:p7 K "law" "law" (top 44) f fd) (pX:mg "ValueError" = none) (cy:mg "isinstance" = none) (yz:mg "str" = none) {bz:Addr} (fP:bh K aP "NoText" = some (some (.ref bz))) (qr:mg "NoText" = some (.ref bz)) (g7:sx K bz) {aQ:Addr} (dr:bh K aP "NoDrawing" = some (some (.ref aQ))) (nF:mg "NoDrawing" = some (.ref aQ)) (e7:sx K aQ) {dn:Addr} (rn:bh K aP "KnotError" = some (some (.ref dn))) (FI:mg "KnotError" = some (.ref dn)) (wb:sx K dn) (k8:xW K "NoText" "line") (nJ:xW K "NoText" "at") (ja:xW K "NoDrawing" "word") (iI:xW K "NoDrawing" "place") (rG:bp K (.type "NoneType") (.ref dn)=some false) (nX:bp K (.type "NoneType") (.ref bz)=some false) (jF:bp K (.type "NoneType") (.ref aQ)=some false) (jP:bp K (.ref bz) (.ref dn)=some true) (iH:bp K (.ref aQ) (.ref dn)=some true) (gM:bp K (.ref bz) (.ref bz)=some true) (fC:bp K (.ref aQ) (.ref bz)=some false) (fB:bp K (.ref bz) (.ref aQ)=some false) (eV:bp K (.ref aQ) (.ref aQ)=some true) (yI:bp K (.ref bz) (.type "ValueError")=some true) (rF:bp K (.ref aQ) (.type "ValueError")=some true) {Je:Addr} {Jm:aH} (pM:vi P w K mg base ji 4 Je Jm "_law_built" ["_law_script"] (ft K nv)) {LR:Addr} {Md:aH} (rR:vi P w K mg base ji 2 LR Md "_law_read" ["_law_text_here"] (ft K pA)) {Jf:Addr} {Jn:aH} (pN:vi P w K mg base ji 6 Jf Jn "_law_asked" ["_law_text_here"] (ft K ny)) {Pt:Addr} {Pz:aH} (kA:vi P w K mg base ji 2 Pt Pz "_law_due" ["_law_rows"] (ft K ij)) {rM:Addr} {rO:aH} (gJ:vi P w K mg base ji 2 rM rO "_law_rows_of_passings" ["_law_found"] (ft K cY)) {Jc:Addr} {Jk:aH} (pK:vi P w K mg base ji 2 Jc Jk "_law_seats" ["_law_rows"] (ft K gG)) {t9:Addr} {ud:aH} (dI:vi P w K mg base ji 1 t9 ud "_law_whole" ["_law_found"] (ft K c9)):fU P w K mg base ji 7 f fd ["_law_script"] (ft K K2.DD) :=
 zF F QX Y1 fun _ _ _ _ _ _ hr=>have nd:=QX.nd; have hu:=hr.units; (aF (qc (i:=1) nd rfl (cB pM.ok (hr.mono (by decide)) rfl pM.mg pM.kp pM.bi (ak (bQ 0) aG)))
 (aF (AK (cB rR.ok (hr.mono (by decide)) rfl rR.mg rR.kp rR.bi (ak (bQ 1) aG)) (uo rfl (fN (sF (i:=2) nd rfl) (fN (sF (i:=3) nd rfl) (fN (sF (i:=4) nd rfl) qo))) (fQ (fQ (fQ qA)))))
 (aF (AK (cB pN.ok (hr.mono (by decide)) rfl pN.mg pN.kp pN.bi (ak (bQ 1) aG)) (uo rfl (fN (sF (i:=5) nd rfl) (fN (sF (i:=6) nd rfl) (fN (sF (i:=7) nd rfl) qo))) (fQ (fQ (fQ qA)))))
 (aF (da (Ka.pt (U5 (DQ (bQ 2)) (Rc (Fx (cB kA.ok (hr.mono (by decide)) rfl kA.mg kA.kp kA.bi (ak (bQ 2) aG)))))) (aL (bF (bW (md (Va (bQ 6)) (md (cB gJ.ok (hr.mono (by decide)) rfl gJ.mg gJ.kp gJ.bi (ak (bQ 5) aG)) (rh (wV (oA hu) (bQ 5) (cB pK.ok (hr.mono (by decide)) rfl pK.mg pK.kp pK.bi (ak (bQ 2) aG)) (gc _)))))))) bR)
 (aF (da (Ka.pt (rf (jE (iT (tP bG rfl cy rfl FI rG (eN ⟨_,fP,jP,g7⟩ (eN ⟨_,dr,iH,e7⟩ hZ)) (bQ 6)))) (rf (jE (iT (Rt bG rfl cy rfl pX (eN ⟨_,fP,yI,g7⟩ (eN ⟨_,dr,rF,e7⟩ hZ)) (bQ 6)))) (qZ (iT (bQ 7)))))) (aL (bF (bW vq))) bR)
 (aF (da (Fx (bQ 2)) (aF (qc (i:=8) nd rfl (md (tP bG rfl cy rfl qr nX (eN ⟨_,fP,gM,g7⟩ (eN ⟨_,dr,fC,e7⟩ hZ)) (bQ 6)) (md (cB dI.ok (hr.mono (by decide)) rfl dI.mg dI.kp dI.bi (ak (kz bG (eN k8 hZ) (bQ 6)) aG)) (rh (cB dI.ok (hr.mono (by decide)) rfl dI.mg dI.kp dI.bi (ak (kz bG (eN nJ hZ) (bQ 6)) aG))))))
 (aL (bF (bW (md (bQ 8) (rh (wV (oA hu) (eT (ak (kz bG (eN k8 hZ) (bQ 6)) (ak (kz bG (eN nJ hZ) (bQ 6)) aG))) (eT (ak (bQ 3) (ak (bQ 4) aG))) (gc _)))))))) bR)
 (aF (qc (i:=8) nd rfl (md (tP bG rfl cy rfl nF jF (eN ⟨_,fP,fB,g7⟩ (eN ⟨_,dr,eV,e7⟩ hZ)) (bQ 6)) (md (uq "str" (by decide) rfl cy rfl yz Ti (kz bG (eN ja hZ) (bQ 6))) (rh (cB dI.ok (hr.mono (by decide)) rfl dI.mg dI.kp dI.bi (ak (kz bG (eN iI hZ) (bQ 6)) aG))))))
 (aL (bF (bW (md (bQ 8) (rh (wV (oA hu) (eT (ak (kz bG (eN ja hZ) (bQ 6)) (ak (kz bG (eN iI hZ) (bQ 6)) aG))) (cB kA.ok (hr.mono (by decide)) rfl kA.mg kA.kp kA.bi (ak (bQ 2) aG)) (gc _))))))))))))))
end
theorem all_mk {l:EG} {w:World} {K:ag} {h:Heap} {mg:Str->Option Value} {fa:Addr} (X:K.In h) (G:h.Ns aP mg) (hfa:mg "law" = some (.ref fa))
  {f0:Addr} {d0:aH} (F0:At K "_law_cell" (top 26) f0 d0)
  {f1:Addr} {d1:aH} (F1:At K "_law_names" (top 31) f1 d1)
  {f2:Addr} {d2:aH} (F2:At K "_law_name" (top 32) f2 d2)
  {f3:Addr} {d3:aH} (F3:At K "_law_cross" (top 33) f3 d3)
  {f4:Addr} {d4:aH} (F4:At K "_law_line" (top 34) f4 d4)
  {f5:Addr} {d5:aH} (F5:At K "_law_text" (top 35) f5 d5)
  {f6:Addr} {d6:aH} (F6:At K "_law_sign" (top 38) f6 d6)
  {f7:Addr} {d7:aH} (F7:At K "_law_spoilt" (top 39) f7 d7)
  {f8:Addr} {d8:aH} (F8:At K "_law_built" (top 42) f8 d8)
  {f9:Addr} {d9:aH} (F9:At K "_law_passing" (top 40) f9 d9)
  {f10:Addr} {d10:aH} (F10:At K "_law_read" (top 41) f10 d10)
  {GS f11:Addr} {d11:aH} (F11:Y2 K GS "NoDrawing" "NoDrawing.__init__" "word" "place" (Vl 2 0) f11 d11)
  {f12:Addr} {d12:aH} (F12:At K "refuse_names" (top 14) f12 d12)
  {f13:Addr} {d13:aH} (F13:At K "passings_of" (top 8) f13 d13)
  {f14:Addr} {d14:aH} (F14:At K "fault_of" (top 13) f14 d14)
  {f15:Addr} {d15:aH} (F15:At K "hands_met" (top 12) f15 d15)
  {f16:Addr} {d16:aH} (F16:At K "seated" (top 9) f16 d16)
  {f17:Addr} {d17:aH} (F17:At K "seated_rows" (top 10) f17 d17)
  {f18:Addr} {d18:aH} (F18:At K "checked" (top 11) f18 d18)
  {f19:Addr} {d19:aH} (F19:At K "writes_name" (top 23) f19 d19)
  {f20:Addr} {d20:aH} (F20:At K "writes_passing" (top 22) f20 d20)
  {PO f21:Addr} {d21:aH} (F21:Y2 K PO "NoText" "NoText.__init__" "line" "at" (Vl 3 0) f21 d21)
  {f22:Addr} {d22:aH} (F22:At K "passing_of" (top 24) f22 d22)
  {f23:Addr} {d23:aH} (F23:At K "row_of" (top 21) f23 d23)
  {f24:Addr} {d24:aH} (F24:At K "read_text" (top 20) f24 d24)
  {f25:Addr} {d25:aH} (F25:At K "_law_asked" (top 43) f25 d25)
  {f26:Addr} {d26:aH} (F26:At K "_law_fault_of" (top 36) f26 d26)
  {f27:Addr} {d27:aH} (F27:At K "_law_due" (top 37) f27 d27)
  {f28:Addr} {d28:aH} (Zp:At K "_law_whole" (top 27) f28 d28)
  {f29:Addr} {d29:aH} (F29:At K "_law_rows_of_passings" (top 28) f29 d29)
  {f30:Addr} {d30:aH} (F30:At K "_law_seat" (top 29) f30 d30)
  {f31:Addr} {d31:aH} (F31:At K "_law_seats" (top 30) f31 d31)
  {f32:Addr} {d32:aH} (F32:At K "law" (top 44) f32 d32)
  (Zw:autoParam (bh K aP "len" = some none) Aq._auto_1) (Qz:autoParam (bh K aP "sorted" = some none) Aq._auto_1) (Zs:autoParam (bh K aP "str" = some none) Aq._auto_1) (Zv:autoParam (bh K aP "max" = some none) Aq._auto_1) (Uq:autoParam (bh K aP "range" = some none) Aq._auto_1) (Zt:autoParam (bh K aP "set" = some none) Aq._auto_1) (Hq:autoParam (bh K aP "enumerate" = some none) Aq._auto_1) (Zu:autoParam (bh K aP "min" = some none) Aq._auto_1) (Zy:autoParam (bh K aP "all" = some none) Aq._auto_1) (Zx:autoParam (bh K aP "int" = some none) Aq._auto_1) (EL:autoParam (bh K aP "isinstance" = some none) Aq._auto_1) (W0:autoParam (bh K aP "bool" = some none) Aq._auto_1) (WZ:autoParam (bh K aP "list" = some none) Aq._auto_1) (Uo:autoParam (bh K aP "tuple" = some none) Aq._auto_1) (EM:autoParam (bh K aP "ValueError" = some none) Aq._auto_1) {yo:Tok} (KN:autoParam (bh K aP "FIGURES" = some (some (.str "0123456789" yo))) Aq._auto_1) {E9:Tok} (QP:autoParam (bh K aP "POINT" = some (some (.str "." E9))) Aq._auto_1) {lQ:Addr} {oF:List (Str×Tok×Addr)} (jt:autoParam (abu w K "ENDINGS" lQ oF [("o+",0,1),("o-",0,-1),("u+",1,1),("u-",1,-1)]) As._auto_1) {GU:Addr} (nK:autoParam (EBt K "KnotError" GU) Ab._auto_1) {bz:Addr} (fP:autoParam (bh K aP "NoText" = some (some (.ref bz))) Aq._auto_1) (qF:autoParam (vg K bz [.type "ValueError",.type "Exception",.type "BaseException",.type "object"] "ValueError.__new__" = true) Ac._auto_1) (OA:autoParam (cj K (.ref bz) "__getattribute__" = some (some (.builtin "BaseException.__getattribute__"))) Af._auto_1) (Oz:autoParam (cj K (.ref bz) "__getattr__" = some none) Af._auto_1) (Oy:autoParam (cj K (.ref bz) "__class__" = some (some (.builtin "object.__class__"))) Af._auto_1) (Ox:autoParam (sy K (.builtin "object.__class__") "__get__" = some (some (.builtin "getset_descriptor.__get__"))) Af._auto_1) (Ow:autoParam (EF K (.builtin "object.__class__")=some true) Af._auto_1) (Ov:autoParam (iW K bz (.type "object")=some true) Af._auto_1) (Ou:autoParam (iW K bz (.type "BaseException")=some true) Af._auto_1) (Ot:autoParam ((zU K bz).isSome=true) Af._auto_1) {aQ:Addr} (dr:autoParam (bh K aP "NoDrawing" = some (some (.ref aQ))) Aq._auto_1) (kZ:autoParam (vg K aQ [.type "ValueError",.type "Exception",.type "BaseException",.type "object"] "ValueError.__new__" = true) Ac._auto_1) (E6:autoParam (cj K (.ref aQ) "__getattribute__" = some (some (.builtin "BaseException.__getattribute__"))) Af._auto_1) (E4:autoParam (cj K (.ref aQ) "__getattr__" = some none) Af._auto_1) (E1:autoParam (cj K (.ref aQ) "__class__" = some (some (.builtin "object.__class__"))) Af._auto_1) (EY:autoParam (sy K (.builtin "object.__class__") "__get__" = some (some (.builtin "getset_descriptor.__get__"))) Af._auto_1) (EV:autoParam (EF K (.builtin "object.__class__")=some true) Af._auto_1) (ET:autoParam (iW K aQ (.type "object")=some true) Af._auto_1) (ER:autoParam (iW K aQ (.type "BaseException")=some true) Af._auto_1) (EN:autoParam ((zU K aQ).isSome=true) Af._auto_1) {dn:Addr} (rn:autoParam (bh K aP "KnotError" = some (some (.ref dn))) Aq._auto_1) (E7:autoParam (cj K (.ref dn) "__getattribute__" = some (some (.builtin "BaseException.__getattribute__"))) Af._auto_1) (E5:autoParam (cj K (.ref dn) "__getattr__" = some none) Af._auto_1) (E3:autoParam (cj K (.ref dn) "__class__" = some (some (.builtin "object.__class__"))) Af._auto_1) (EZ:autoParam (sy K (.builtin "object.__class__") "__get__" = some (some (.builtin "getset_descriptor.__get__"))) Af._auto_1) (EW:autoParam (EF K (.builtin "object.__class__")=some true) Af._auto_1) (EU:autoParam (iW K dn (.type "object")=some true) Af._auto_1) (ES:autoParam (iW K dn (.type "BaseException")=some true) Af._auto_1) (EO:autoParam ((zU K dn).isSome=true) Af._auto_1) (D8:autoParam (mP K bz=true) Aq._auto_1) (xo:autoParam (mP K aQ=true) Aq._auto_1) (BH:autoParam (cj K (.ref bz) "line" = some none) Aq._auto_1) (FG:autoParam (cj K (.ref bz) "at" = some none) Aq._auto_1) (wY:autoParam (cj K (.ref aQ) "word" = some none) Aq._auto_1) (vr:autoParam (cj K (.ref aQ) "place" = some none) Aq._auto_1) (jF:autoParam (bp K (.type "NoneType") (.ref aQ)=some false) Az._auto_1) (nX:autoParam (bp K (.type "NoneType") (.ref bz)=some false) Az._auto_1) (rG:autoParam (bp K (.type "NoneType") (.ref dn)=some false) Az._auto_1) (fB:autoParam (bp K (.ref bz) (.ref aQ)=some false) Az._auto_1) (eV:autoParam (bp K (.ref aQ) (.ref aQ)=some true) Az._auto_1) (gM:autoParam (bp K (.ref bz) (.ref bz)=some true) Az._auto_1) (fC:autoParam (bp K (.ref aQ) (.ref bz)=some false) Az._auto_1) (jP:autoParam (bp K (.ref bz) (.ref dn)=some true) Az._auto_1) (iH:autoParam (bp K (.ref aQ) (.ref dn)=some true) Az._auto_1) (yI:autoParam (bp K (.ref bz) (.type "ValueError")=some true) Az._auto_1) (rF:autoParam (bp K (.ref aQ) (.type "ValueError")=some true) Az._auto_1) {yy:Value} {yx:Option Addr} {qK:ClassData} {yr:Array (Option Value)} (yG:autoParam (K.lookup bz=some ⟨yy,yx,.cls qK,yr⟩) Aq._auto_1) (yD:autoParam (qK.mro.contains (.ref bz)=true) Ae._auto_1) {rm:Value} {rk:Option Addr} {lh:ClassData} {qX:Array (Option Value)} (rD:autoParam (K.lookup aQ=some ⟨rm,rk,.cls lh,qX⟩) Aq._auto_1) (rz:autoParam (lh.mro.contains (.ref aQ)=true) Ae._auto_1) {uQ:Value} {uP:Option Addr} {jQ:ClassData} {uL:Array (Option Value)} (uS:autoParam (K.lookup aQ=some ⟨uQ,uP,.cls jQ,uL⟩) Aq._auto_1) (uR:autoParam (jQ.mro.contains (.ref bz)=false) Ae._auto_1) {lL:Tok} (xI:autoParam (bh K aP "MOST_CROSSINGS" = some (some (.int 12 lL))) Aq._auto_1) {mS:Tok} (yV:autoParam (bh K aP "GREATEST_NAME" = some (some (.int 999 mS))) Aq._auto_1) {oa:Tok} (Ap:autoParam (bh K aP "MOST_STRINGS" = some (some (.int 3 oa))) Aq._auto_1) {og:Tok} (Au:autoParam (bh K aP "MOST_FIGURES" = some (some (.int 3 og))) Aq._auto_1) :
  ∃ fd:aH,(∀ (s:ao) (v:Value),BindsTo s fd ⟨[v],[]⟩ [("_law_script",v)])/\∀ base:Heap,K.In base->base.Ns aP mg->fU l.prog w K mg base ji 7 fa fd ["_law_script"] (ft K K2.DD):=by
 have e:=hfa.symm.trans (dB X G F32.a);cases e;have b0:=F0.F.binds (ps:=["_law_script","_law_k"]) fun _ _ _ _ _ _ us hl=>by obtain⟨_,_,rfl⟩:=Io hl; rfl
 have b1:=F1.F.binds (ps:=["_law_rows"]) fun _ _ _ _ _ _ us hl=>by obtain⟨_,rfl⟩:=nG hl; rfl
 have b2:=F2.F.binds (ps:=["_law_rows","_law_cell_here"]) fun _ _ _ _ _ _ us hl=>by obtain⟨_,_,rfl⟩:=Io hl; rfl
 have b3:=F3.F.binds (ps:=["_law_rows","_law_cell_here"]) fun _ _ _ _ _ _ us hl=>by obtain⟨_,_,rfl⟩:=Io hl; rfl
 have b4:=F4.F.binds (ps:=["_law_row"]) fun _ _ _ _ _ _ us hl=>by obtain⟨_,rfl⟩:=nG hl; rfl
 have b5:=F5.F.binds (ps:=["_law_rows"]) fun _ _ _ _ _ _ us hl=>by obtain⟨_,rfl⟩:=nG hl; rfl
 have b6:=F6.F.binds (ps:=["_law_cell_here"]) fun _ _ _ _ _ _ us hl=>by obtain⟨_,rfl⟩:=nG hl; rfl
 have b7:=F7.F.binds (ps:=["_law_text_here","_law_cell_here"]) fun _ _ _ _ _ _ us hl=>by obtain⟨_,_,rfl⟩:=Io hl; rfl
 have b8:=F8.F.binds (ps:=["_law_script"]) fun _ _ _ _ _ _ us hl=>by obtain⟨_,rfl⟩:=nG hl; rfl
 have b9:=F9.F.binds (ps:=["_law_word"]) fun _ _ _ _ _ _ us hl=>by obtain⟨_,rfl⟩:=nG hl; rfl
 have b10:=F10.F.binds (ps:=["_law_text_here"]) fun _ _ _ _ _ _ us hl=>by obtain⟨_,rfl⟩:=nG hl; rfl
 have b11:=F11.F.binds (ps:=["self","word","place"]) fun _ _ _ _ _ _ us hl=>by obtain⟨_,_,_,rfl⟩:=aat hl; rfl
 have b12:=F12.F.binds (ps:=["hands"]) fun _ _ _ _ _ _ us hl=>by obtain⟨_,rfl⟩:=nG hl; rfl
 have b13:=F13.F.binds (ps:=["rows"]) fun _ _ _ _ _ _ us hl=>by obtain⟨_,rfl⟩:=nG hl; rfl
 have b14:=F14.F.binds (ps:=["passing","hands"]) fun _ _ _ _ _ _ us hl=>by obtain⟨_,_,rfl⟩:=Io hl; rfl
 have b15:=F15.F.binds (ps:=["rows"]) fun _ _ _ _ _ _ us hl=>by obtain⟨_,rfl⟩:=nG hl; rfl
 have b16:=F16.F.binds (ps:=["row"]) fun _ _ _ _ _ _ us hl=>by obtain⟨_,rfl⟩:=nG hl; rfl
 have b17:=F17.F.binds (ps:=["rows"]) fun _ _ _ _ _ _ us hl=>by obtain⟨_,rfl⟩:=nG hl; rfl
 have b18:=F18.F.binds (ps:=["rows"]) fun _ _ _ _ _ _ us hl=>by obtain⟨_,rfl⟩:=nG hl; rfl
 have b19:=F19.F.binds (ps:=["figures"]) fun _ _ _ _ _ _ us hl=>by obtain⟨_,rfl⟩:=nG hl; rfl
 have b20:=F20.F.binds (ps:=["word"]) fun _ _ _ _ _ _ us hl=>by obtain⟨_,rfl⟩:=nG hl; rfl
 have b21:=F21.F.binds (ps:=["self","line","at"]) fun _ _ _ _ _ _ us hl=>by obtain⟨_,_,_,rfl⟩:=aat hl; rfl
 have b22:=F22.F.binds (ps:=["word"]) fun _ _ _ _ _ _ us hl=>by obtain⟨_,rfl⟩:=nG hl; rfl
 have b23:=F23.F.binds (ps:=["line","number"]) fun _ _ _ _ _ _ us hl=>by obtain⟨_,_,rfl⟩:=Io hl; rfl
 have b24:=F24.F.binds (ps:=["text"]) fun _ _ _ _ _ _ us hl=>by obtain⟨_,rfl⟩:=nG hl; rfl
 have b25:=F25.F.binds (ps:=["_law_text_here"]) fun _ _ _ _ _ _ us hl=>by obtain⟨_,rfl⟩:=nG hl; rfl
 have b26:=F26.F.binds (ps:=["_law_passing_here","_law_met"]) fun _ _ _ _ _ _ us hl=>by obtain⟨_,_,rfl⟩:=Io hl; rfl
 have b27:=F27.F.binds (ps:=["_law_rows"]) fun _ _ _ _ _ _ us hl=>by obtain⟨_,rfl⟩:=nG hl; rfl
 have b28:=Zp.F.binds (ps:=["_law_found"]) fun _ _ _ _ _ _ us hl=>by obtain⟨_,rfl⟩:=nG hl; rfl
 have b29:=F29.F.binds (ps:=["_law_found"]) fun _ _ _ _ _ _ us hl=>by obtain⟨_,rfl⟩:=nG hl; rfl
 have b30:=F30.F.binds (ps:=["_law_row"]) fun _ _ _ _ _ _ us hl=>by obtain⟨_,rfl⟩:=nG hl; rfl
 have b31:=F31.F.binds (ps:=["_law_rows"]) fun _ _ _ _ _ _ us hl=>by obtain⟨_,rfl⟩:=nG hl; rfl
 have cU:=cJ X G Zw;have nW:=cJ X G Qz;have yz:=cJ X G Zs;have Lg:=cJ X G Zv;have kU:=cJ X G Uq;have Le:=cJ X G Zt;have gH:=cJ X G Hq;have Lf:=cJ X G Zu;have yB:=cJ X G Zy;have yA:=cJ X G Zx;have cy:=cJ X G EL;have FD:=cJ X G W0;have AO:=cJ X G WZ;have BG:=cJ X G Uo;have pX:=cJ X G EM;have g7:sx K bz:=⟨OA,Oz,Oy,Ox,Ow,Ov,Ou,Ot⟩;have e7:sx K aQ:=⟨E6,E4,E1,EY,EV,ET,ER,EN⟩;have wb:sx K dn:=⟨E7,E5,E3,EZ,EW,EU,ES,EO⟩;have k8:xW K "NoText" "line":=⟨⟨bz,fP,g7,D8,BH⟩⟩;have nJ:xW K "NoText" "at":=⟨⟨bz,fP,g7,D8,FG⟩⟩;have ja:xW K "NoDrawing" "word":=⟨⟨aQ,dr,e7,xo,wY⟩⟩;have iI:xW K "NoDrawing" "place":=⟨⟨aQ,dr,e7,xo,vr⟩⟩;have lM:subIn K bz (.ref bz)=true:=by unfold subIn; rw [yG]; exact yD
 have iG:subIn K aQ (.ref aQ)=true:=by unfold subIn; rw [rD]; exact rz
 have jO:DC K aQ (.ref bz)=true:=by unfold DC; rw [uS]; show (!jQ.mro.contains (.ref bz))=true; rw [uR]; rfl
 obtain⟨Fa,Fl⟩:=F32;obtain⟨oc,od,kV,doc,pm,an,lD,ct,Nd,rfl,lk,vT⟩:=Fl.ex;refine⟨jL "law" "law" (lb (top 44)) (hX (top 44)) (aX (top 44)) .none kV doc pm an lD ct,fun s v=>.of_eq rfl,fun base _ _=>?_⟩;have ok0:=IX (P:=l.prog) (w:=w) (mg:=mg) (base:=base) F0.F cU;have ok1:=Gf (P:=l.prog) (w:=w) (mg:=mg) (base:=base) F1.F nW;have ok2:=IV (P:=l.prog) (w:=w) (mg:=mg) (base:=base) F2.F ⟨ok1,F1.mg X G,F1.F.kp,b1⟩;have ok3:=Gg (P:=l.prog) (w:=w) (mg:=mg) (base:=base) F3.F cU ⟨ok2,F2.mg X G,F2.F.kp,b2⟩;have ok4:=IW (P:=l.prog) (w:=w) (mg:=mg) (base:=base) F4.F yz;have ok5:=IQ (P:=l.prog) (w:=w) (mg:=mg) (base:=base) F5.F ⟨ok4,F4.mg X G,F4.F.kp,b4⟩;have ok6:=IS (P:=l.prog) (w:=w) (mg:=mg) (base:=base) F6.F cU;have ok7:=C6 (P:=l.prog) (w:=w) (mg:=mg) (base:=base) F7.F cU Lg ⟨ok6,F6.mg X G,F6.F.kp,b6⟩;have ok8:=Gh (P:=l.prog) (w:=w) (mg:=mg) (base:=base) F8.F kU ⟨ok0,F0.mg X G,F0.F.kp,b0⟩ ⟨ok3,F3.mg X G,F3.F.kp,b3⟩ ⟨ok5,F5.mg X G,F5.F.kp,b5⟩ ⟨ok7,F7.mg X G,F7.F.kp,b7⟩;have ok9:=Cb (P:=l.prog) (w:=w) (mg:=mg) (base:=base) F9.F cU;have ady:=IU (P:=l.prog) (w:=w) (mg:=mg) (base:=base) F10.F cU kU ⟨ok9,F9.mg X G,F9.F.kp,b9⟩;have XI:=sH (P:=l.prog) (w:=w) (mg:=mg) (base:=base) F11 nK (dB X G nK.ns);have adx:=yN (P:=l.prog) (w:=w) (mg:=mg) (base:=base) F12.F cU Le nW (dB X G xI) (F11.cal X G XI b11);have adw:=B9 (P:=l.prog) (w:=w) (mg:=mg) (base:=base) F13.F;have adv:=IY (P:=l.prog) (w:=w) (mg:=mg) (base:=base) F14.F (dB X G yV);have adu:=C7 (P:=l.prog) (w:=w) (mg:=mg) (base:=base) F15.F gH ⟨adw,F13.mg X G,F13.F.kp,b13⟩ ⟨adv,F14.mg X G,F14.F.kp,b14⟩ (F11.cal X G XI b11);have adt:=Pq (P:=l.prog) (w:=w) (mg:=mg) (base:=base) F16.F Lf;have ads:=B8 (P:=l.prog) (w:=w) (mg:=mg) (base:=base) F17.F ⟨adt,F16.mg X G,F16.F.kp,b16⟩;have adq:=IZ (P:=l.prog) (w:=w) (mg:=mg) (base:=base) F18.F cU (dB X G Ap) (F11.cal X G XI b11) ⟨adx,F12.mg X G,F12.F.kp,b12⟩ ⟨adu,F15.mg X G,F15.F.kp,b15⟩ ⟨ads,F17.mg X G,F17.F.kp,b17⟩;have adp:=B7 (P:=l.prog) (w:=w) (mg:=mg) (base:=base) F19.F yB cU (dB X G KN) (dB X G Au);have adn:=xy (P:=l.prog) (w:=w) (mg:=mg) (base:=base) F20.F (dB X G jt.ns) jt.di ⟨adp,F19.mg X G,F19.F.kp,b19⟩;have adm:=vE (P:=l.prog) (w:=w) (mg:=mg) (base:=base) F21 nK (dB X G nK.ns);have adl:=C5 (P:=l.prog) (w:=w) (mg:=mg) (base:=base) F22.F yA (dB X G jt.ns) jt.di;have adk:=LK (P:=l.prog) (w:=w) (mg:=mg) (base:=base) F23.F gH (dB X G QP) ⟨adn,F20.mg X G,F20.F.kp,b20⟩ (F21.cal X G adm b21) ⟨adl,F22.mg X G,F22.F.kp,b22⟩;have adj:=C4 (P:=l.prog) (w:=w) (mg:=mg) (base:=base) F24.F gH ⟨adq,F18.mg X G,F18.F.kp,b18⟩ ⟨adk,F23.mg X G,F23.F.kp,b23⟩;have adi:=Gi (P:=l.prog) (w:=w) (mg:=mg) (base:=base) F25.F cy fP (dB X G fP) qF g7 dr (dB X G dr) kZ e7 jF nX fB eV gM fC lM iG jO ⟨adj,F24.mg X G,F24.F.kp,b24⟩;have adh:=Aj (P:=l.prog) (w:=w) (mg:=mg) (base:=base) F26.F;have adg:=LL (P:=l.prog) (w:=w) (mg:=mg) (base:=base) F27.F cU ⟨adh,F26.mg X G,F26.F.kp,b26⟩ ⟨ok1,F1.mg X G,F1.F.kp,b1⟩;have aad:=Gd (P:=l.prog) (w:=w) (mg:=mg) (base:=base) Zp.F FD yA cy;have adf:=qE (P:=l.prog) (w:=w) (mg:=mg) (base:=base) F29.F yB cy cU AO BG ⟨aad,Zp.mg X G,Zp.F.kp,b28⟩;have ade:=IT (P:=l.prog) (w:=w) (mg:=mg) (base:=base) F30.F cU kU;have adb:=Ge (P:=l.prog) (w:=w) (mg:=mg) (base:=base) F31.F ⟨ade,F30.mg X G,F30.F.kp,b30⟩;exact YD Fl pX cy yz fP (dB X G fP) g7 dr (dB X G dr) e7 rn (dB X G rn) wb k8 nJ ja iI rG nX jF jP iH gM fC fB eV yI rF ⟨ok8,F8.mg X G,F8.F.kp,b8⟩ ⟨ady,F10.mg X G,F10.F.kp,b10⟩ ⟨adi,F25.mg X G,F25.F.kp,b25⟩ ⟨adg,F27.mg X G,F27.F.kp,b27⟩ ⟨adf,F29.mg X G,F29.F.kp,b29⟩ ⟨adb,F31.mg X G,F31.F.kp,b31⟩ ⟨aad,Zp.mg X G,Zp.F.kp,b28⟩
section
open PySem.W PySem.Calls
def hC (n:Str) (t:Nat) (l:List Value):Obj:=⟨.type "code",none,.fields (.str n t :: .str n (t+1) :: .str "/claim/cut.py" (t+2) :: l).toArray,#[]⟩
def hI(n:Int):Value:=.int n 0
def hR(n:Nat):Value:=.ref n
def hN:Value:=.none
def hT:Value:=.bool true
def hS (n:Nat):Value:=.str "/claim/cut.py" n
def hD(n:Str)(t:Nat)(l a:Int)(r:Nat)(x y z:Value)(u:Nat):Obj:=hC n t [hI l,hI a,hI 0,hI 0,hI 3,hR r,hT,hI 181,hR (r+1),hN,x,y,z,hI (u - 1),hI l,hS u]
abbrev hF (i:Nat) (n:Str) (m c:Value):Obj:=⟨.type "function",none,.func (jL n n (lb (top i)) (hX (top i)) (aX (top i)) .none .none .none m none c .none),#[]⟩
abbrev hM (i j:Nat) (n q:Str) (m c:Value):Obj:=⟨.type "function",none,.func (jL n q (lb (Vl i j)) (hX (Vl i j)) (aX (Vl i j)) .none .none .none m none c .none),#[]⟩
abbrev hE(P:Params)(s:Str)(t:Nat)(v:Value):kL:=⟨PyData.keyHash P s,.str s t,v⟩
def hQ:bx:=PySem.W.view PySem.Challenge.pw_knotwise_k05_texts_refused [1,2,3,5,6,7,8,9,10,11,12,13,14,16,17,18,19,20,21,22,23,24,26,27,28,29,30,31,32,33,34,35,36,37,38,39,40,41,42,43,44]
def hK(P:Params):ag:=(nat_lit 2,⟨.none,none,(.dict #[] 0),#[]⟩) ::
(nat_lit 3,⟨(.type "dict"),none,(.dict #[hE P "__name__" 165 (.str "law_knotwise_k05_texts_refused" 389),hE P "__doc__" 166 .none,hE P "__package__" 167 .none,hE P "__loader__" 168 (.builtin "__main__.__loader__#opaque"),hE P "__spec__" 169 .none,hE P "__annotations__" 170 (.ref 6),hE P "__builtins__" 171 (.ref 4),hE P "__file__" 173 (.str "/claim/cut.py" 172),hE P "__cached__" 174 .none,hE P "KnotError" 206 (.ref 24),hE P "NoDrawing" 233 (.ref 44),hE P "NoText" 260 (.ref 63),hE P "MOST_STRINGS" 264 (.int 3 263),hE P "MOST_CROSSINGS" 266 (.int 12 265),hE P "GREATEST_NAME" 268 (.int 999 267),hE P "passings_of" 277 (.ref 72),hE P "seated" 285 (.ref 79),hE P "seated_rows" 291 (.ref 84),hE P "checked" 298 (.ref 91),hE P "hands_met" 309 (.ref 98),hE P "fault_of" 317 (.ref 105),hE P "refuse_names" 323 (.ref 110),hE P "FIGURES" 327 (.str "0123456789" 326),hE P "MOST_FIGURES" 329 (.int 3 328),hE P "POINT" 331 (.str "." 330),hE P "ENDINGS" 350 (.ref 111),hE P "read_text" 356 (.ref 120),hE P "row_of" 367 (.ref 127),hE P "writes_passing" 374 (.ref 134),hE P "writes_name" 380 (.ref 139),hE P "passing_of" 388 (.ref 146),hE P "_law_cell" 398 (.ref 153),hE P "_law_whole" 405 (.ref 160),hE P "_law_rows_of_passings" 411 (.ref 165),hE P "_law_seat" 420 (.ref 172),hE P "_law_seats" 426 (.ref 177),hE P "_law_names" 436 (.ref 184),hE P "_law_name" 445 (.ref 191),hE P "_law_cross" 457 (.ref 198),hE P "_law_line" 468 (.ref 205),hE P "_law_text" 474 (.ref 210),hE P "_law_fault_of" 482 (.ref 217),hE P "_law_due" 495 (.ref 224),hE P "_law_sign" 503 (.ref 231),hE P "_law_spoilt" 512 (.ref 238),hE P "_law_passing" 521 (.ref 245),hE P "_law_read" 533 (.ref 252),hE P "_law_built" 539 (.ref 257),hE P "_law_asked" 550 (.ref 264),hE P "law" 565 (.ref 271)] 50),#[]⟩) ::
(nat_lit 15,⟨(.type "tuple"),none,(.seq #[(.type "ValueError")] 0),#[]⟩) ::
(nat_lit 22,⟨(.type "tuple"),none,(.seq #[] 0),#[]⟩) ::
(nat_lit 23,⟨(.type "dict"),none,(.dict #[hE P "__module__" 196 (.str "knotwise.errors" 187),hE P "__firstlineno__" 200 (.int 2 199),hE P "__static_attributes__" 201 (.ref 22),hE P "__weakref__" 203 (.ref 25),hE P "__doc__" 204 .none] 3),#[]⟩) ::
(nat_lit 24,⟨(.type "type"),none,(.cls ⟨"KnotError",[(.type "ValueError")],[(.ref 24),(.type "ValueError"),(.type "Exception"),(.type "BaseException"),(.type "object")],23,"KnotError",.true,[],[(.ref 44),(.ref 63)],.false,none,.false⟩),#[(some (.ref 15)),none,(some (.str "KnotError" 189)),(some (.str "KnotError" 197)),(some (.builtin "ValueError.__new__")),(some (.bool .true))]⟩) ::
(nat_lit 25,⟨(.type "getset_descriptor"),none,(.fields #[(.str "__weakref__" 202),(.ref 24),(.builtin "ExceptionGroup.__weakref__"),.none]),#[]⟩) ::
(nat_lit 28,⟨(.type "tuple"),none,(.seq #[(.ref 24)] 0),#[]⟩) ::
(nat_lit 40,⟨(.type "code"),none,(.fields #[(.str "__init__" 219),(.str "NoDrawing.__init__" 220),(.str "/claim/cut.py" 221),(.int 6 0),(.int 3 0),(.int 0 0),(.int 0 0),(.int 3 0),(.ref 35),(.bool .true),(.int 181 0),(.ref 36),.none,(.ref 37),(.ref 38),(.ref 39),(.int 225 0),(.int 6 0),(.str "/claim/cut.py" 226)]),#[]⟩) ::
(nat_lit 41,hM 2 0 "__init__" "NoDrawing.__init__" (.str "knotwise.errors" 187) (.ref 40)) ::
(nat_lit 42,⟨(.type "tuple"),none,(.seq #[(.str "place" 228),(.str "word" 229)] 0),#[]⟩) ::
(nat_lit 43,⟨(.type "dict"),none,(.dict #[hE P "__module__" 214 (.str "knotwise.errors" 187),hE P "__firstlineno__" 218 (.int 4 217),hE P "__init__" 227 (.ref 41),hE P "__static_attributes__" 230 (.ref 42),hE P "__doc__" 231 .none] 2),#[]⟩) ::
(nat_lit 44,⟨(.type "type"),none,(.cls ⟨"NoDrawing",[(.ref 24)],[(.ref 44),(.ref 24),(.type "ValueError"),(.type "Exception"),(.type "BaseException"),(.type "object")],43,"NoDrawing",.true,[],[],.false,none,.false⟩),#[(some (.ref 28)),none,(some (.str "NoDrawing" 207)),(some (.str "NoDrawing" 215)),(some (.builtin "ValueError.__new__")),(some (.bool .true))]⟩) ::
(nat_lit 47,⟨(.type "tuple"),none,(.seq #[(.ref 24)] 0),#[]⟩) ::
(nat_lit 59,⟨(.type "code"),none,(.fields #[(.str "__init__" 246),(.str "NoText.__init__" 247),(.str "/claim/cut.py" 248),(.int 12 0),(.int 3 0),(.int 0 0),(.int 0 0),(.int 3 0),(.ref 54),(.bool .true),(.int 181 0),(.ref 55),.none,(.ref 56),(.ref 57),(.ref 58),(.int 252 0),(.int 12 0),(.str "/claim/cut.py" 253)]),#[]⟩) ::
(nat_lit 60,hM 3 0 "__init__" "NoText.__init__" (.str "knotwise.errors" 187) (.ref 59)) ::
(nat_lit 61,⟨(.type "tuple"),none,(.seq #[(.str "at" 255),(.str "line" 256)] 0),#[]⟩) ::
(nat_lit 62,⟨(.type "dict"),none,(.dict #[hE P "__module__" 241 (.str "knotwise.errors" 187),hE P "__firstlineno__" 245 (.int 10 244),hE P "__init__" 254 (.ref 60),hE P "__static_attributes__" 257 (.ref 61),hE P "__doc__" 258 .none] 2),#[]⟩) ::
(nat_lit 63,⟨(.type "type"),none,(.cls ⟨"NoText",[(.ref 24)],[(.ref 63),(.ref 24),(.type "ValueError"),(.type "Exception"),(.type "BaseException"),(.type "object")],62,"NoText",.true,[],[],.false,none,.false⟩),#[(some (.ref 47)),none,(some (.str "NoText" 234)),(some (.str "NoText" 242)),(some (.builtin "ValueError.__new__")),(some (.bool .true))]⟩) ::
(nat_lit 71,hD "passings_of" 269 20 1 66 (hR 68) (hR 69) (hR 70) 276) ::
(nat_lit 72,hF 8 "passings_of" (.str "knotwise.drawings" 261) (.ref 71)) ::
(nat_lit 78,hD "seated" 278 25 1 73 (hR 75) (hR 76) (hR 77) 284) ::
(nat_lit 79,hF 9 "seated" (.str "knotwise.drawings" 261) (.ref 78)) ::
(nat_lit 83,hD "seated_rows" 286 30 1 80 hN hN (hR 82) 290) ::
(nat_lit 84,hF 10 "seated_rows" (.str "knotwise.drawings" 261) (.ref 83)) ::
(nat_lit 90,hD "checked" 292 32 1 85 (hR 87) (hR 88) (hR 89) 297) ::
(nat_lit 91,hF 11 "checked" (.str "knotwise.drawings" 261) (.ref 90)) ::
(nat_lit 97,hD "hands_met" 299 37 1 92 (hR 94) (hR 95) (hR 96) 308) ::
(nat_lit 98,hF 12 "hands_met" (.str "knotwise.drawings" 261) (.ref 97)) ::
(nat_lit 104,hD "fault_of" 310 45 2 99 (hR 101) (hR 102) (hR 103) 316) ::
(nat_lit 105,hF 13 "fault_of" (.str "knotwise.drawings" 261) (.ref 104)) ::
(nat_lit 109,hD "refuse_names" 318 55 1 106 hN hN (hR 108) 322) ::
(nat_lit 110,hF 14 "refuse_names" (.str "knotwise.drawings" 261) (.ref 109)) ::
(nat_lit 111,⟨(.type "dict"),none,(.dict #[hE P "o+" 332 (.ref 112),hE P "o-" 335 (.ref 113),hE P "u+" 339 (.ref 114),hE P "u-" 342 (.ref 115)] 4),#[]⟩) ::
(nat_lit 112,⟨(.type "tuple"),none,(.seq #[(.int 0 333),(.int 1 334)] 0),#[]⟩) ::
(nat_lit 113,⟨(.type "tuple"),none,(.seq #[(.int 0 336),(.int (-1) 338)] 0),#[]⟩) ::
(nat_lit 114,⟨(.type "tuple"),none,(.seq #[(.int 1 340),(.int 1 341)] 0),#[]⟩) ::
(nat_lit 115,⟨(.type "tuple"),none,(.seq #[(.int 1 343),(.int (-1) 345)] 0),#[]⟩) ::
(nat_lit 119,hD "read_text" 351 69 1 116 hN hN (hR 118) 355) ::
(nat_lit 120,hF 20 "read_text" (.str "knotwise.texts" 324) (.ref 119)) ::
(nat_lit 126,hD "row_of" 357 71 2 121 (hR 123) (hR 124) (hR 125) 366) ::
(nat_lit 127,hF 21 "row_of" (.str "knotwise.texts" 324) (.ref 126)) ::
(nat_lit 133,hD "writes_passing" 368 80 1 128 (hR 130) (hR 131) (hR 132) 373) ::
(nat_lit 134,hF 22 "writes_passing" (.str "knotwise.texts" 324) (.ref 133)) ::
(nat_lit 138,hD "writes_name" 375 82 1 135 hN hN (hR 137) 379) ::
(nat_lit 139,hF 23 "writes_name" (.str "knotwise.texts" 324) (.ref 138)) ::
(nat_lit 145,hD "passing_of" 381 86 1 140 (hR 142) (hR 143) (hR 144) 387) ::
(nat_lit 146,hF 24 "passing_of" (.str "knotwise.texts" 324) (.ref 145)) ::
(nat_lit 152,hD "_law_cell" 391 90 2 147 (hR 149) (hR 150) (hR 151) 397) ::
(nat_lit 153,hF 26 "_law_cell" (.str "law_knotwise_k05_texts_refused" 389) (.ref 152)) ::
(nat_lit 159,hD "_law_whole" 399 94 1 154 (hR 156) (hR 157) (hR 158) 404) ::
(nat_lit 160,hF 27 "_law_whole" (.str "law_knotwise_k05_texts_refused" 389) (.ref 159)) ::
(nat_lit 164,hD "_law_rows_of_passings" 406 96 1 161 hN hN (hR 163) 410) ::
(nat_lit 165,hF 28 "_law_rows_of_passings" (.str "law_knotwise_k05_texts_refused" 389) (.ref 164)) ::
(nat_lit 171,hD "_law_seat" 412 108 1 166 (hR 168) (hR 169) (hR 170) 419) ::
(nat_lit 172,hF 29 "_law_seat" (.str "law_knotwise_k05_texts_refused" 389) (.ref 171)) ::
(nat_lit 176,hD "_law_seats" 421 114 1 173 hN hN (hR 175) 425) ::
(nat_lit 177,hF 30 "_law_seats" (.str "law_knotwise_k05_texts_refused" 389) (.ref 176)) ::
(nat_lit 183,hD "_law_names" 427 116 1 178 (hR 180) (hR 181) (hR 182) 435) ::
(nat_lit 184,hF 31 "_law_names" (.str "law_knotwise_k05_texts_refused" 389) (.ref 183)) ::
(nat_lit 190,hD "_law_name" 437 123 2 185 (hR 187) (hR 188) (hR 189) 444) ::
(nat_lit 191,hF 32 "_law_name" (.str "law_knotwise_k05_texts_refused" 389) (.ref 190)) ::
(nat_lit 197,hD "_law_cross" 446 128 2 192 (hR 194) (hR 195) (hR 196) 456) ::
(nat_lit 198,hF 33 "_law_cross" (.str "law_knotwise_k05_texts_refused" 389) (.ref 197)) ::
(nat_lit 204,hD "_law_line" 458 135 1 199 (hR 201) (hR 202) (hR 203) 467) ::
(nat_lit 205,hF 34 "_law_line" (.str "law_knotwise_k05_texts_refused" 389) (.ref 204)) ::
(nat_lit 209,hD "_law_text" 469 142 1 206 hN hN (hR 208) 473) ::
(nat_lit 210,hF 35 "_law_text" (.str "law_knotwise_k05_texts_refused" 389) (.ref 209)) ::
(nat_lit 216,hD "_law_fault_of" 475 144 2 211 (hR 213) (hR 214) (hR 215) 481) ::
(nat_lit 217,hF 36 "_law_fault_of" (.str "law_knotwise_k05_texts_refused" 389) (.ref 216)) ::
(nat_lit 223,hD "_law_due" 483 154 1 218 (hR 220) (hR 221) (hR 222) 494) ::
(nat_lit 224,hF 37 "_law_due" (.str "law_knotwise_k05_texts_refused" 389) (.ref 223)) ::
(nat_lit 230,hD "_law_sign" 496 173 1 225 (hR 227) (hR 228) (hR 229) 502) ::
(nat_lit 231,hF 38 "_law_sign" (.str "law_knotwise_k05_texts_refused" 389) (.ref 230)) ::
(nat_lit 237,hD "_law_spoilt" 504 179 2 232 (hR 234) (hR 235) (hR 236) 511) ::
(nat_lit 238,hF 39 "_law_spoilt" (.str "law_knotwise_k05_texts_refused" 389) (.ref 237)) ::
(nat_lit 244,hD "_law_passing" 513 190 1 239 (hR 241) (hR 242) (hR 243) 520) ::
(nat_lit 245,hF 40 "_law_passing" (.str "law_knotwise_k05_texts_refused" 389) (.ref 244)) ::
(nat_lit 251,hD "_law_read" 522 201 1 246 (hR 248) (hR 249) (hR 250) 532) ::
(nat_lit 252,hF 41 "_law_read" (.str "law_knotwise_k05_texts_refused" 389) (.ref 251)) ::
(nat_lit 256,hD "_law_built" 534 213 1 253 hN hN (hR 255) 538) ::
(nat_lit 257,hF 42 "_law_built" (.str "law_knotwise_k05_texts_refused" 389) (.ref 256)) ::
(nat_lit 263,hD "_law_asked" 540 224 1 258 (hR 260) (hR 261) (hR 262) 549) ::
(nat_lit 264,hF 43 "_law_asked" (.str "law_knotwise_k05_texts_refused" 389) (.ref 263)) ::
(nat_lit 270,hD "law" 551 237 1 265 (hR 267) (hR 268) (hR 269) 564) ::
(nat_lit 271,hF 44 "law" (.str "law_knotwise_k05_texts_refused" 389) (.ref 270)) :: []
def hA:List Addr:=[2,3,15,22,23,24,25,28,40,41,42,43,44,47,59,60,61,62,63,71,72,78,79,83,84,90,91,97,98,104,105,109,110,111,112,113,114,115,119,120,126,127,133,134,138,139,145,146,152,153,159,160,164,165,171,172,176,177,183,184,190,191,197,198,204,205,209,210,216,217,223,224,230,231,237,238,244,245,251,252,256,257,263,264,270,271]
def hL:List Str:=["ENDINGS"]
abbrev Ss(w:World):Prop:=∀ os:OsState,(topFrom treeTable (bq).row.prog w 3718 ⟨Qr w.params,Oq [],Ko,Qq,os⟩).map (fun s=>(openSeen hQ hL (A7 (bq).row.prog.main.body) (W2 bq hQ) true s,hA.map s.heap.get?))=some (openGood hQ hL,(hK w.params).map fun p=>some p.2)
theorem h_f (w:World):Ss (w.withFollow "special-get-raises" false):=fun os=>by kernel_rfl
theorem h_t (w:World):Ss (w.withFollow "special-get-raises" true):=fun os=>by kernel_rfl
theorem Yv (w:World) (os:OsState):(topFrom treeTable (bq).row.prog w 3718 ⟨Qr w.params,Oq [],Ko,Qq,os⟩).map (fun s=>(openSeen hQ hL (A7 (bq).row.prog.main.body) (W2 bq hQ) true s,hA.map s.heap.get?))=some (openGood hQ hL,(hK w.params).map fun p=>some p.2):=(byRow2 "special-get-raises" (P:=fun w=>Ss w) h_f h_t) w os
theorem Yu:(bq).wellSaid=true:=by kernel_rfl
theorem Yt:ML bq hQ=true:=by kernel_rfl
end
end Fin
end Internal
open Internal
open PySem PySem.W PyProof.Rows
set_option maxRecDepth 100000 in
set_option maxHeartbeats 0 in
theorem PySem.Challenge.cw_knotwise_k05_texts_refused_holds : PySem.Challenge.rw_knotwise_k05_texts_refused.Holds := by
 w_on
 refine K2.Pj (q:=Fin.hQ) (K:=Fin.hK) (as:=Fin.hA) (N:=3718) Fin.Yu (by kernel_rfl) (by kernel_rfl) (fun _=>by kernel_rfl) (fun _=>by kernel_rfl) Fin.Yv (by rfl) (by rfl) (by rfl) (by rfl) Fin.Yt ⟨rfl,rfl,rfl,rfl,rfl,by decide +kernel⟩ ?hw ?hc
 (case hw=>w_witness2)
 k_fill
 refine K2.RI (l:=bq) (k:=7) (x:="_law_script") rfl rfl ⟨rfl,by decide,by decide⟩ (fun w h Y=>Y) ?F
 case F =>
  intro w mg fa h KX G hmg;exact Fin.all_mk KX G hmg K2.gX K2.gX K2.gX K2.gX K2.gX K2.gX K2.gX K2.gX K2.gX K2.gX K2.gX K2.SY K2.gX K2.gX K2.gX K2.gX K2.gX K2.gX K2.gX K2.gX K2.gX K2.SY K2.gX K2.gX K2.gX K2.gX K2.gX K2.gX K2.gX K2.gX K2.gX K2.gX K2.gX
