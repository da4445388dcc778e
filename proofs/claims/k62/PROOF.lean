import PyProof.Rows.All
import Wide.All
import OpenK.AllK
import Wide.FinOn
import Lean
import PyProof.EqAt
import PyProof.EqKinds
import PyProof.TupleCall
import PySem.Challenge.RW_knotwise_k62_whole_run_back
open Array renaming length_toList -> eU, getElem?_eq_getElem -> ko, forIn_toList -> yX, getD -> Ky, mk -> Ms, getElem?_eq_none -> Oi
open Array.Perm renaming refl -> nR
open Bool renaming false_eq_true -> aj, and_eq_true -> aI, noConfusion -> bc, not_true -> bq, not_false -> cZ, false_ne_true -> fY, or_eq_true -> gG, and_eq_true_iff -> kg, false_and -> qR, not_eq_true' -> sA, and_false -> Kx, true_and -> Og, false_or -> Oh, beq_eq_decide_eq -> R5
open Classical renaming byContradiction -> gN
open False renaming elim -> bC
open ForInStep renaming yield -> tj
open Function renaming comp_def -> R3
open Int renaming toNat_natCast -> dE, emod_lt_of_pos -> jC, emod_nonneg -> jV, natCast_nonneg -> qQ, zero_add -> Ez, add_zero -> EA, mul_add -> Ir, add_comm -> SD
open List renaming getElem?_cons_zero -> aa, getElem?_cons_succ -> ae, set_cons_zero -> ah, length_cons -> ak, length_map -> ao, map_cons -> aq, set_cons_succ -> ar, getElem?_eq_getElem -> au, length_nil -> aB, cons_append -> aF, length_append -> aG, mem_cons_of_mem -> aL, map_append -> aM, getElem?_map -> aO, nil_append -> aP, size_toArray -> aR, map_map -> aS, nodup_cons -> aY, mem_of_getElem? -> aZ, map_nil -> a8, replicate -> bg, mem_cons -> bA, filter_cons -> bK, not_mem_nil -> bO, mem_map_of_mem -> bP, getElem?_append_right -> bS, length_set -> bY, getElem?_set_ne -> b9, getElem?_append_left -> cb, length_singleton -> cg, mem_singleton -> ck, getElem?_set_self -> cm, find?_cons_of_pos -> cp, find?_cons_of_neg -> cq, nodup_nil -> cy, nodup_append -> cz, mem_cons_self -> cA, length_drop -> cB, append_nil -> cC, mem_append_right -> cI, foldl_cons -> cJ, flatMap_cons -> cT, append_assoc -> cU, map_congr_left -> di, getElem_mem -> dD, take_append_drop -> dS, length -> dU, length_take -> dW, getD_eq_getElem?_getD -> eE, filter_append -> eK, find?_cons -> eQ, range -> fc, all_eq_true -> fm, flatten_cons -> fE, length_replicate -> fM, length_filter_le -> fN, getElem?_eq_none -> fO, find?_eq_none -> hW, drop_eq_getElem_cons -> ie, getElem?_of_mem -> iF, all_map -> iV, getElem_of_mem -> iX, map_id -> jL, length_range -> j3, foldl_append -> j4, mem_append_left -> kd, mem_of_find?_eq_some -> kQ, getElem_map -> kU, flatten_append -> kZ, filter_sublist -> k6, length_zip -> lV, getElem_range -> lW, getElem?_replicate -> lX, any_cons -> lY, all_cons -> lZ, drop_eq_nil_of_le -> mG, reverse_cons -> mO, map_reverse -> oq, length_reverse -> pD, filter_nil -> pE, zip_cons_cons -> qG, mem_or_eq_of_mem_set -> qP, reverse_perm -> sy, filter_cons_of_pos -> tM, filter_cons_of_neg -> tN, getElem_zip -> t4, perm_append_comm -> vY, find?_some -> vZ, filter_map -> v3, contains_iff_mem -> v5, drop_left -> xR, filterMap_cons -> ya, take_nil -> A3, drop_nil -> A4, append_of_mem -> A5, pairwise_map -> BK, set_nil -> CU, map_set -> CV, take_append_of_le_length -> Ew, lookup_cons -> Ey, of_mem_zip -> HI, length_erase_of_mem -> Mq, filterMap_cons_some -> Mr, map_take -> Oc, map_drop -> Od, eraseIdx_cons_zero -> Oe, eraseIdx_cons_succ -> Of, take_of_length_le -> OI, length_pos_of_mem -> OJ, set_getElem_self -> R1, mem_of_mem_drop -> Sw, mem_erase_of_ne -> Sy, idxOf_le_length -> Sz
open List.Perm renaming swap -> md, append -> yW, cons -> CW, trans -> SA
open List.Sublist renaming map -> l0, nodup -> nU
open Nat renaming le_refl -> aC, ne_of_lt -> bu, le_trans -> bz, lt_of_lt_of_le -> bJ, zero_le -> cw, lt_of_le_of_lt -> hZ, lt_irrefl -> ib, pow_le_pow_right -> km, mul_le_mul_right -> kn, add_assoc -> oX, not_lt_zero -> pI, add_sub_cancel_left -> tZ, succ_le_succ -> uB, lt_succ_self -> uC, le_add_right -> uD, lt_of_succ_lt_succ -> uG, le_of_succ_le_succ -> uH, ne_of_gt -> wc, le_succ -> yV, lt_trichotomy -> CS, lt_succ_of_lt -> CT, pow_succ -> Sr, le_of_lt -> Ss, add_zero -> Sv
open Ne renaming symm -> eD
open Option renaming getD_some -> tf, map_some -> uA, isSome_map -> A2, getD_none -> BI, bind_some -> BJ
open Option.some renaming inj -> ba, injEq -> wa
open PyProof.Rows renaming callWith_type1 -> dF, callWith_builtin1 -> lz, IntsAre -> me, slot_tuple_getitem -> vX, envOfC -> xb, boot_isinstance -> xQ, seqObj -> yM, AllBare -> yY
open PySem renaming wpAny_bind -> ag, Shared -> ax, wpAny_pure -> ay, sizeLine -> aX, starEach -> bx, Program -> bI, mainGlobals -> bQ, wpAny_loadPart' -> b8, sizeLine_eq -> cD, wpAny_holding -> cN, Around -> cS, wpAny_call_entry -> da, wpAny_newObj_type -> dc, sysModules -> df, compareOp -> dQ, bootBuiltins -> ez, wpAny_Call_Name_kw -> eS, FuncData -> fx, DictEntry -> fI, wpAny_dictEntries -> gL, ReadsAll -> hV, binaryOp -> iE, mem_of_lookup -> iU, wpAny_truthy_bool -> iY, tupleKind -> iZ, wpAny_typeNameOfWhole_itemiter -> jq, wpAny_callSpecial?_slot -> jr, wpAny_typeNameOfWhole_keyiter -> jE, wpAny_passesOwn -> kj, Paired -> kX, wpAny_typeNameOf_itemiter -> lG, wpAny_isInstance -> lS, wpAny_forIn_list -> lT, wpAny_typeNameOf_keyiter -> mw, backTo -> mx, wpAny_specialOf -> mW, wpAny_setField_rec -> mX, wpAny_execs_nil -> mY, wpAny_dictEpoch -> mZ, tupleKind_room_in1 -> ng, plainId_quiet -> ni, codeAny_builtin -> nj, wpAny_isOneOf_itemiter -> oj, wpAny_pyIter_slot -> oF, wpAny_mono -> oG, foldedSetIterable -> oH, valueAt -> oI, IsItemIter -> oJ, wpAny_seqItems -> oS, wpAny_fieldsOf -> oT, wpAny_attempt -> qE, wpAny_updateSeq -> qT, wpAny_letGo -> qU, wpAny_field -> qV, sliceBounds -> qW, richCompare -> qX, argBest -> qZ, NameKind -> tL, wpAny_Call_method0_late -> v8, pyNext -> xa, richCompare_meets_room -> xN, evalArgs_none -> xO, wpAny_notOrdered_dict -> yK, spliced -> yL, letOwnedTupleGo -> yN, isSubtype_tuple_tuple -> yP, importedModules -> yQ, codeAny_mono -> yR, codeAny -> yS, call_meetsIn -> yT, assignEach -> A1, wpAny_tryCatch -> BF, firstArgMember -> BG, holding -> CO, wpAny_tupleItemsOf -> EF, wpAny_standAt -> EG, swapsWith -> EH, rawInt -> EI, pyIter -> EJ, attributeBase -> EK, HeapKind -> EM, wpAny_truthy_dict -> H0, storedH -> Ia, relabel -> Ib, isInstance -> Ie, intKind -> Ig, callerA -> Ih, call_meets -> Ii, wpAny_callSpecialIfBound?_slot -> Km, assign -> Kn, call -> Kq, wpAny_execs_cons -> Ml, wpAny_letOwnedTupleGo_items -> Oz, valueAt -> OA, excClassObj -> OD, eqIsQuiet -> OE, wpAny_setField -> So
open PySem.Around renaming under_plainId -> j5
open PySem.AutoSeq1 renaming sub_tuple_tuple -> qp, sub_list_list -> Iz
open PySem.Builtin.Builtins renaming bindParams -> v7
open PySem.Builtin.Dict renaming showsAll -> lA, takeOut -> ER
open PySem.Builtin.Dict_items renaming ownsTuple -> fB, ownedTupleIsFree -> jh, ownedTupleFields -> qo, pairFromOwner -> rm
open PySem.Builtin.Int renaming intBits -> Iy
open PySem.Builtin.List renaming listTooLong -> jX, listExtendWith -> mP, listSameRef -> Bc, listItems -> CY
open PySem.Builtin.Slice renaming slicePlaces -> jw, sliceAdjust -> nV, sliceApplied -> yc
open PySem.Builtin.Tuple renaming tupleHashOf -> eu, tupleExact -> jP, tupleCompareSizes -> uI, tupleItemsOf -> yb
open PySem.Calls renaming spliced_cons -> fR, spliced_nil -> jW, callWith_builtin -> my, Name_function_global -> HM, evalArgs_plain -> R4
open PySem.F renaming plainAttrs_list -> cG, plainAttrs_dict -> dg, type_list_append -> fK, slot_list_append -> fL, slot_dict_items -> gc, slot_dict_get -> gM, slot_dict_itemiterator_next -> jt, slot_dict_itemiterator_iter -> ju, plain_min_loop -> jv, slot_dict_keyiterator_next -> jO, type_dict_get -> mE, slot_tuple_lt -> mF, args_dict_items_1 -> pH, entry_dict_items -> qF, type_dict_items -> rh, args_tuple_lt_2 -> rj, entry_tuple_lt -> sZ, slot_dict_pop -> tY, slot_list_lt -> uF, attrBase_ValueError -> CQ, args_dict_itemiterator_next_1 -> EN, args_dict_itemiterator_iter_1 -> EO, args_tuple_add_2 -> HH, entry_dict_itemiterator_next -> HJ, args_dict_keyiterator_next_1 -> HK, type_list_count -> Il, slot_list_index -> Im, slot_list_count -> Io, entry_tuple_add -> Ip, args_dict_get_3 -> Iq, entry_min_loop -> Iu, entry_dict_keyiterator_next -> Iw, slot_tuple_add -> Ks, entry_dict_get -> Ku, args_list_lt_2 -> Kv, slot_dict_keyiterator_iter -> Kw, type_dict_pop -> Mn, entry_list_lt -> Mp
open PySem.Heap renaming get?_push_of_some -> aA, lt_size -> aN, get?_push_size -> a9, get?_update_other -> cR, SameBut -> fP, get?_update_self -> hX, size_push -> kR, FlyingW -> vW, size_update -> EB, get?_none_of_le -> SE
open PySem.Heap.SameBut renaming update -> jM
open PySem.NameKind renaming free -> kY
open PySem.Obj renaming mapSeq -> fZ
open PySem.Paired renaming length -> iT, snoc -> R0
open PySem.PassesOwn renaming never -> bw
open PySem.PyData renaming depthAll -> cf, eqv -> qO
open PySem.SeqAt renaming items_eqAt -> nS, any_by_data -> rg, readOf -> BH
open PySem.Shared renaming TypeIs -> Ko
open PySem.Str renaming ofString -> qN
open PySem.Value renaming ref -> eL, int -> fu, none -> gu, isInt -> sY, builtin -> Mm
open PySem.W renaming Frag -> ai, nsIn -> eT, kia_one -> fH, kas_rev -> gU, kas_place -> kl, fnOf -> kP, kas_desc -> lU, excIn -> nT, keepIn -> pG, kas_asc -> qY, kitOne -> vV, callWith_K -> xP, kas_descPart -> yO, methodObj -> yU, OpenLaw -> CP, codeIn -> EL, boot_drawn -> Ij, cellsFrom_some -> Kr, kas_tail3 -> OB, findIn -> OC, boot_toks -> OF, boot_heap -> OG, hideAll_get -> OH, of_hideAll -> RZ, kitx_none -> Sq
open PySem.W.KasT renaming ret -> wd
open Sum renaming inl -> v9, inr -> Ik
open True renaming intro -> fX
set_option Elab.async false
set_option linter.all false
set_option maxRecDepth 100000
set_option maxHeartbeats 4000000
set_option genSizeOf false
set_option genInjectivity false
set_option compiler.extract_closed false
namespace Internal
theorem Ad(h:0=0:=by decide):0=0:=h
theorem Ae(h:0=0:=by first | rfl | decide):0=0:=h
theorem Af(h:0=0:=by first | k_is | rfl):0=0:=h
theorem Ai(h:0=0:=by intro _; rfl):0=0:=h
theorem Ak(h:0=0:=by decide +kernel):0=0:=h
theorem Al(h:0=0:=by intro _ _ _ _ h; repeat (first | (cases h.1; rfl) | (cases h <;> rename_i h))):0=0:=h
theorem Ao(h:0=0:=by first | exact .inl rfl | exact .inr rfl | exact .inr (.inl rfl) | exact .inr (.inr rfl) | assumption):0=0:=h
theorem Aq(h:0=0:=by k_is):0=0:=h
theorem Ar(h:0=0:=by rfl):0=0:=h
theorem Aua(h:0=0:=by exact scm):0=0:=h
theorem Aub(h:0=0:=by intro _ _ _ _ _ _ us hl; rcases us with _ | ⟨_,_ | ⟨_,_ | ⟨_,_ | ⟨_,_ | ⟨_,_⟩⟩⟩⟩⟩ <;> first | rfl | (simp at hl; done)):0=0:=h
theorem VE(h:0=0:=by show _=_; first | k_is | kit_is):0=0:=h
theorem N9(h:0=0:=by show _=_; k_is):0=0:=h
theorem Aw(h:0=0:=by with_unfolding_all rfl):0=0:=h
theorem Ax(h:0=0:=by k_exc):0=0:=h
namespace L2
open PySem PySem.Spec PyProof.Rows
abbrev Key:=Sum Int Str
def Cc:Key->Value->Bool
 | .inl k,v=>sY k v
 | .inr x,v=>Value.isStrOf x v
def abg(w:World):Key->Int
 | .inl k=>hashInt k
 | .inr x=>hashStr w x
theorem eZ:∀ {k:Key} {v:Value},Cc k v=true->(∃ i t,k=v9 i/\v=fu i t)\/(∃ x t,k=Ik x/\v=Value.str x t)
 | .inl i,v,h=>by
  obtain⟨t,e⟩:=Value.isInt_shape (k:=i) (v:=v) h;exact .inl ⟨i,t,rfl,e⟩
 | .inr x,v,h=>by
  obtain⟨t,e⟩:=Value.isStrOf_shape (x:=x) (v:=v) h;exact .inr ⟨x,t,rfl,e⟩
theorem Nh(i:Int)(t:Tok):Cc (.inl i) (.int i t)=true:=by simp [Cc,sY]
theorem Ng(x:Str)(t:Tok):Cc (.inr x) (.str x t)=true:=by simp [Cc,Value.isStrOf]
theorem Qh(a b:Int):decide ((v9 a:Key)=v9 b)=(a == b):=by
 by_cases e:a=b
 ·subst e; simp
 ·have h:¬ (v9 a:Key)=v9 b:=fun q=>e (Sum.inl.inj q);rw [decide_eq_false h];exact(beq_eq_false_iff_ne.mpr e).symm
theorem Qg(a b:Str):decide ((Ik a:Key)=Ik b)=decide (a=b):=by
 by_cases e:a=b
 ·subst e; simp
 ·have h:¬ (Ik a:Key)=Ik b:=fun q=>e (Sum.inr.inj q);rw [decide_eq_false h,decide_eq_false e]
theorem WC(a:Int)(b:Str):decide ((v9 a:Key)=Ik b)=false:=decide_eq_false (fun q=>nomatch q)
theorem WB(a:Str)(b:Int):decide ((Ik a:Key)=v9 b)=false:=decide_eq_false (fun q=>nomatch q)
def cH(prog:bI)(w:World):PySem.KeyKind prog w Key where
 is:=Cc
 hash:=abg w
 inj:=fun v a b ha hb=>by
  rcases eZ ha with ⟨i,t,rfl,rfl⟩ | ⟨x,t,rfl,rfl⟩
  ·rcases eZ hb with ⟨j,u,rfl,e⟩ | ⟨y,u,rfl,e⟩
   ·injection e with e1 _; rw [e1]
   ·exact nomatch e
  ·rcases eZ hb with ⟨j,u,rfl,e⟩ | ⟨y,u,rfl,e⟩
   ·exact nomatch e
   ·injection e with e1 _; rw [e1]
 byValue:=fun k v h=>by
  rcases eZ h with ⟨i,t,rfl,rfl⟩ | ⟨x,t,rfl,rfl⟩ <;> rfl
 pyHash:=fun hv h=>by
  rcases eZ hv with ⟨i,t,rfl,rfl⟩ | ⟨x,t,rfl,rfl⟩
  ·exact wpAny_pyHash_int h
  ·exact wpAny_pyHash_str h
 eqBool:=fun hu hv h=>by
  rcases eZ hu with ⟨i,t,rfl,rfl⟩ | ⟨x,t,rfl,rfl⟩
  ·rcases eZ hv with ⟨j,u,rfl,rfl⟩ | ⟨y,u,rfl,rfl⟩
   ·rw [Qh] at h; exact wpAny_eqBool_int h
   ·rw [WC] at h; exact SeqAt.EqAt.int_str i t y u _ _ _ _ h
  ·rcases eZ hv with ⟨j,u,rfl,rfl⟩ | ⟨y,u,rfl,rfl⟩
   ·rw [WB] at h; exact SeqAt.EqAt.str_int x t j u _ _ _ _ h
   ·rw [Qg] at h; exact wpAny_eqBool_str h
 «strs»:=fun k x t v h=>by
  rcases eZ h with ⟨i,u,rfl,e⟩ | ⟨y,u,rfl,e⟩
  ·exact nomatch e
  ·injection e with e1 _
   subst e1;cases v <;> rfl
theorem FT(prog:bI)(w:World)(i:Int)(t:Tok):(cH prog w).is (.inl i) (.int i t)=true:=Nh i t
theorem FR(prog:bI)(w:World)(x:Str)(t:Tok):(cH prog w).is (.inr x) (.str x t)=true:=Ng x t
inductive V where
 | eN | bl (b:Bool) | int (i:Int) | str (x:Str) | Xd (b:Array UInt8) | flt (b:UInt64) | ref (a:Addr) | ty (n:String)
def RelV:V->Value->Prop
 | .eN,u=>u=gu
 | .bl b,u=>u=Value.bool b
 | .int i,u=>∃ t,u=fu i t
 | .str x,u=>∃ t,u=Value.str x t
 | .Xd b,u=>∃ t,u=Value.bytes b t
 | .flt b,u=>∃ t,u=Value.float b t
 | .ref a,u=>u=eL a
 | .ty n,u=>u=Value.type n
abbrev Vals:List V->List Value->Prop:=kX RelV
theorem Vals.length{xs:List V}{us:List Value}(r:Vals xs us):xs.length=us.length:=iT r
theorem Vals.get:∀ {xs:List V} {us:List Value} {i:Nat} {x:V},Vals xs us->xs[i]?=some x->∃ u,us[i]?=some u/\RelV x u:=by
 intro xs us i x h;induction h generalizing i with
 | nil=>intro e; cases e
 | cons r t ih =>
  intro e;cases i with
  | zero=>cases e; exact⟨_,rfl,r⟩
  | succ i=>exact ih e
theorem Vals.set{x:V}{u:Value}(r:RelV x u):∀ {xs:List V} {us:List Value} (i:Nat),Vals xs us->Vals (xs.set i x) (us.set i u):=by
 intro xs us i h;induction h generalizing i with
 | nil=>rw [CU,CU]; exact .nil
 | cons q t ih =>
  cases i with
  | zero=>exact .cons r t
  | succ i=>exact .cons q (ih i)
theorem Vals.append:∀ {xs ys:List V} {us ws:List Value},Vals xs us->Vals ys ws->Vals (xs++ys) (us++ws):=by
 intro xs ys us ws h s;induction h with
 | nil=>exact s
 | cons r t ih=>exact .cons r ih
theorem Vals.take:∀ {xs:List V} {us:List Value} (n:Nat),Vals xs us->Vals (xs.take n) (us.take n):=by
 intro xs us n h;induction h generalizing n with
 | nil=>rw [A3,A3]; exact .nil
 | cons r t ih =>
  cases n with
  | zero=>exact .nil
  | succ n=>exact .cons r (ih n)
theorem Vals.drop:∀ {xs:List V} {us:List Value} (n:Nat),Vals xs us->Vals (xs.drop n) (us.drop n):=by
 intro xs us n h;induction h generalizing n with
 | nil=>rw [A4,A4]; exact .nil
 | cons r t ih =>
  cases n with
  | zero=>exact .cons r t
  | succ n=>exact ih n
def w8:Option V->Option Value->Prop
 | some v,some u=>RelV v u
 | none,none=>True
 | _,_=>False
def KV{κ:Type}:List (κ×V)->List (κ×Value)->Prop:=kX fun (p:κ×V) (q:κ×Value)=>p.1=q.1/\RelV p.2 q.2
def kV:Key->V
 | .inl i=>.int i
 | .inr x=>.str x
inductive HO where
 | lst (xs:List V)
 | tup (xs:List V)
 | dK (kvs:List (Key×V)) | dT (kvs:List (List Key×V))
 | set (S:Int->Bool) (n:Nat)
 | ins (C dx:Addr) (fs:List (Str×V))
 | own (x:Addr)
 | xd (fs:List (Str×V))
 | met (f x:Addr)
 | Yb (lo hi:Int)
 | iC (o:Obj) (u:HO)
 | SR (q:Str)
 | ext (φ:Heap->Prop)
abbrev Hp:=Addr->Option HO
def upd(H:Hp)(a:Addr)(o:HO):Hp:=fun b=>if b=a then some o else H b
theorem bU{H:Hp}{a:Addr}{o:HO}:upd H a o a=some o:=by unfold upd; rw [if_pos rfl]
theorem bG{H:Hp}{a b:Addr}{o:HO}(h:b≠a):upd H a o b=H b:=by unfold upd; rw [if_neg h]
theorem UZ{H:Hp}{a b:Addr}{o u:HO}(h:H a=some o)(h':H b=some u)(d:o≠u):a≠b:=by
 intro e; subst e; rw [h] at h'; exact d (ba h')
theorem d6{H:Hp}{a b:Addr}{o:HO}(h:H a=some o)(h':H b=none):a≠b:=by
 intro e; subst e; rw [h] at h'; cases h'
section
variable (P:bI) (w:World)
def fk(H:Hp)(h:Heap)(a:Addr):HO->Prop
 | .lst xs=>xs.length<=aX/\∃ (bH:List Value) (n:Nat),Vals xs bH/\h.get? a=some { cls:=.type "list",data:=.seq bH.toArray n }
 | .tup xs=>xs.length<=aX/\∃ bH:List Value,Vals xs bH/\IsTup h a bH.toArray
 | .dK kvs=>kvs.length<=aX/\(a == df)=false/\∃ vs,KV kvs vs/\h.DictOf (cH P w) a vs
 | .dT kvs=>kvs.length<=aX/\(a == df)=false/\∃ xs:List (List Key×Addr×Value),
   kX (fun (p:List Key×V) (q:List Key×Addr×Value)=>p.1=q.1/\H q.2.1=some (.tup (p.1.map kV))/\RelV p.2 q.2.2) kvs xs /\
   ∃ o es ep,h.get? a=some o/\o.ExactDict/\o.data=.dict es ep/\es.toList=xs.map (entryOfKey (iZ (cH P w)))/\(xs.map (·.1)).Nodup
 | .set S n=>h.SetOf (Ig P w) a S n
 | .ins C dx fs=>H dx=some (.own a)/\fs.length<=1000/\dx≠a/\h.get? a=some (PySem.W.instObj C dx) /\
   ∃ mA,h.Ns1 dx mA/\(∀ f,w8 (fs.lookup f) (mA f))/\PySem.Within mA (fs.map (·.1))
 | .own _=>∃ o,h.get? a=some o
 | .xd fs=>∃ mA,h.Ns1 a mA/\∀ f,w8 (fs.lookup f) (mA f)
 | .Yb lo hi=>∃ t u v,h.get? a=some { cls:=.type "range",data:=.fields #[.int lo t,.int hi u,.int 1 v] }
 | .iC o u=>h.get? a=some o/\fk H h a u
 | .SR q=>∃ ps,h.get? a=some { cls:=.none,data:=.fields ps }/\TriplesOk ps.toList/\∀ pos cv,codeAmong pos ps.toList=some cv->∃ c',cv=.ref c'/\H c'=some (.own a)/\h.CodeRec (.ref c') q
 | .met f x=>h.get? a=some (yU (.ref f) (.ref x))
 | .ext φ=>φ h/\(∃ o,h.get? a=some o)/\∀ h1 h2:Heap,φ h1->(∀ o,h1.get? a=some o->h2.get? a=some o)->φ h2
def oh(H:Hp)(h:Heap):Prop:=∀ a o,H a=some o->fk P w H h a o
end
section
variable {P:bI} {w:World} {H H':Hp} {h h':Heap} {a:Addr} {o:HO}
theorem fk.lt(x:fk P w H h a o):a < h.objs.size:=by
 cases o with
 | lst xs=>obtain⟨_,_,_,_,e⟩:=x; exact aN e
 | tup xs=>obtain⟨_,_,_,p⟩:=x; exact p.lt
 | dK kvs=>obtain⟨_,_,_,_,o,_,_,e,_⟩:=x; exact aN e
 | dT kvs=>obtain⟨_,_,_,_,o,_,_,e,_⟩:=x; exact aN e
 | set S n=>obtain⟨o,_,_,_,e,_⟩:=x; exact aN e
 | ins C dx fs=>obtain⟨_,_,_,e,_⟩:=x; exact aN e
 | own y=>obtain⟨_,e⟩:=x; exact aN e
 | xd fs=>obtain⟨_,⟨_,_,_,e,_⟩,_⟩:=x; exact aN e
 | Yb lo hi=>obtain⟨_,_,_,e⟩:=x; exact aN e
 | iC ob u=>obtain⟨e,_⟩:=x; exact aN e
 | SR q=>obtain⟨_,e,_⟩:=x; exact aN e
 | met f y=>exact aN (show h.get? a=some _ from x)
 | ext φ=>obtain⟨_,⟨_,e⟩,_⟩:=x; exact aN e
theorem Paired.TH{α β:Type}{F G:α->β->Prop}:∀ {l₁:List α} {l₂:List β},kX F l₁ l₂->(∀ a b,F a b->G a b)->kX G l₁ l₂:=by
 intro l₁ l₂ h f;induction h with
 | nil=>exact .nil
 | cons r t ih=>exact .cons (f _ _ r) ih
theorem fk.jl(x:fk P w H h a o)(k:∀ b u,(b=a\/H b=some (.own a))->h.get? b=some u->h'.get? b=some u)
  (ho:∀ b,H b=some (.own a)->H' b=some (.own a)) (ht:∀ b xs,H b=some (.tup xs)->H' b=some (.tup xs)):fk P w H' h' a o:=by
 induction o with
 | lst xs=>obtain⟨z,bH,n,r,e⟩:=x; exact⟨z,bH,n,r,k _ _ (.inl rfl) e⟩
 | tup xs=>obtain⟨z,bH,r,ob,e,c⟩:=x; exact⟨z,bH,r,ob,k _ _ (.inl rfl) e,c⟩
 | dK kvs=>obtain⟨z,y,vs,r,ob,es,ep,e,c⟩:=x; exact⟨z,y,vs,r,ob,es,ep,k _ _ (.inl rfl) e,c⟩
 | dT kvs =>
  obtain⟨z,y,xs,r,ob,es,ep,e,c⟩:=x;exact⟨z,y,xs,Paired.TH r fun p q z=>⟨z.1,ht _ _ z.2.1,z.2.2⟩,ob,es,ep,k _ _ (.inl rfl) e,c⟩
 | set S n=>obtain⟨ob,es,ep,t,e,c⟩:=x; exact⟨ob,es,ep,t,k _ _ (.inl rfl) e,c⟩
 | ins C dx fs =>
  obtain⟨d,z,ne,e,mA,⟨od,es,ep,e2,c⟩,r⟩:=x;exact⟨ho _ d,z,ne,k _ _ (.inl rfl) e,mA,⟨od,es,ep,k _ _ (.inr d) e2,c⟩,r⟩
 | own y=>obtain⟨ob,e⟩:=x; exact⟨ob,k _ _ (.inl rfl) e⟩
 | xd fs=>obtain⟨mA,⟨od,es,ep,e,c⟩,r⟩:=x; exact⟨mA,⟨od,es,ep,k _ _ (.inl rfl) e,c⟩,r⟩
 | Yb lo hi=>obtain⟨t,u,v,e⟩:=x; exact⟨t,u,v,k _ _ (.inl rfl) e⟩
 | iC ob u ih=>obtain⟨e,q⟩:=x; exact⟨k _ _ (.inl rfl) e,ih q⟩
 | SR q =>
  obtain⟨ps,e,t,z⟩:=x;refine⟨ps,k _ _ (.inl rfl) e,t,fun pos cv y=>?_⟩;obtain⟨c',e1,e2,c2,oc,vs,tq,e3,e4,r⟩:=z pos cv y;cases e3;exact⟨c',e1,ho _ e2,c',oc,vs,tq,rfl,k _ _ (.inr e2) e4,r⟩
 | met f y =>
  have e:h.get? a=some (yU (.ref f) (.ref y)):=x;show h'.get? a=some (yU (.ref f) (.ref y));exact k a _ (.inl rfl) e
 | ext φ=>obtain⟨p,⟨o,e⟩,st⟩:=x; exact⟨st _ _ p fun o q=>k _ _ (.inl rfl) q,⟨o,k _ _ (.inl rfl) e⟩,st⟩
theorem oh.lt(x:oh P w H h)(e:H a=some o):a < h.objs.size:=(x a o e).lt
theorem oh.fresh(x:oh P w H h)(e:h.objs.size<=a):H a=none:=by
 cases q:H a with
 | none=>rfl
 | some u=>exact absurd (bJ (x.lt q) e) (ib _)
theorem oh.kept(x:oh P w H h)(k:∀ b u,h.get? b=some u->h'.get? b=some u):oh P w H h':=fun a o e =>
 (x a o e).jl (fun b u _ q=>k b u q) (fun _ q=>q) fun _ _ q=>q
theorem oh.laid(x:oh P w H h)(k:∀ b u,h.get? b=some u->h'.get? b=some u)(hp:h.objs.size<=a)(new:fk P w (upd H a o) h' a o):oh P w (upd H a o) h':=fun b u e=>by
 have hn:=x.fresh hp;by_cases hb:b=a
 ·subst hb; rw [bU] at e; cases e; exact new
 ·rw [bG hb] at e;exact(x b u e).jl (fun c v _ q=>k c v q) (fun c q=>by rw [bG (d6 q hn)]; exact q) fun c xs q=>by rw [bG (d6 q hn)]; exact q
end
def Rd(H:Hp)(a:Addr)(u:HO):Prop:=H a=some u\/∃ o,H a=some (.iC o u)
theorem Rd.ok{P:bI}{w:World}{H:Hp}{h:Heap}{a:Addr}{u:HO}(r:Rd H a u)(x:oh P w H h):fk P w H h a u:=by
 rcases r with r | ⟨o,r⟩
 ·exact x a u r
 ·obtain⟨_,q⟩:=x a _ r;exact q
def ZI:Option HO->Prop
 | some (.lst _)=>True
 | some (.dK _)=>True
 | some (.dT _)=>True
 | some (.set _ _)=>True
 | some (.ins _ _ _)=>True
 | some (.ext _)=>True
 | _=>False
section
variable {P:bI} {w:World} {H:Hp} {h h':Heap} {x e:Addr} {o':HO}
theorem oh.write(ok:oh P w H h)(mu:ZI (H x))(he:e=x\/H e=some (.own x))(k:∀ b u,b≠e->h.get? b=some u->h'.get? b=some u)(XC:∃ u,h'.get? e=some u)
  (new:fk P w (upd H x o') h' x o'):oh P w (upd H x o') h':=fun b u q=>by
 have Yx:∀ c y,H c=some (.own y)->c≠x:=fun c y r z=>by subst z; rw [r] at mu; exact mu
 have aaX:∀ c xs,H c=some (.tup xs)->c≠x:=fun c xs r z=>by subst z; rw [r] at mu; exact mu
 by_cases hb:b=x
 ·subst hb; rw [bU] at q; cases q; exact new
 ·rw [bG hb] at q;by_cases WV:b=e
  ·have q':H b=some (.own x):=by
    rcases he with z | z
    ·exact absurd (WV.trans z) hb
    ·rw [WV]; exact z
   rw [q] at q'; cases q';obtain⟨v,hv⟩:=XC;exact⟨v,by rw [WV]; exact hv⟩
  ·refine(ok b u q).jl (fun c v hc r=>k c v ?_ r) (fun c r=>by rw [bG (Yx c b r)]; exact r) fun c xs r=>by rw [bG (aaX c xs r)]; exact r
   rcases hc with rfl | hc
   ·exact WV
   ·rintro rfl;rcases he with z | z
    ·exact Yx c b hc z
    ·rw [hc] at z; cases z; exact hb rfl
end
structure Un(fs ex:List Addr)(H H':Hp)(h h':Heap):Prop where
 keep:∀ b o,h.get? b=some o->H b=none->b∉fs->b∉ex->h'.get? b=some o
 slot:∀ b o,h.get? b=some o->H b=none->b∈fs->b∉ex->∃ sl,h'.get? b=some { o with slots:=sl }
 free:∀ b o,h.get? b=some o->H b=none->b∉ex->H' b=none
 there:∀ b o,h.get? b=some o->b∉ex->∃ o',h'.get? b=some o'
 qH:∀ b xs,H b=some (.tup xs)->H' b=some (.tup xs)
 qe:∀ b o u,H b=some (.iC o u)->H' b=some (.iC o u)
 tm:∀ b q,H b=some (.SR q)->H' b=some (.SR q)
 tu:∀ b x,H b=some (.own x)->H' b=some (.own x)
section
variable {fs fs' ex ex':List Addr} {H H1 H2:Hp} {h h1 h2 h':Heap} {a x e:Addr} {o:HO}
theorem Un.any(u:Un fs ex H H1 h h1){b:Addr}{ob:Obj}(q:h.get? b=some ob)(n:H b=none)(hx:b∉ex):∃ sl,h1.get? b=some { ob with slots:=sl }:=by
 by_cases hb:b∈fs
 ·exact u.slot b ob q n hb hx
 ·exact⟨ob.slots,u.keep b ob q n hb hx⟩
theorem Un.kept(k:∀ b u,h.get? b=some u->h'.get? b=some u):Un fs ex H H h h' :=
 ⟨fun b ob q _ _ _=>k b ob q,fun b ob q _ _ _=>⟨ob.slots,k b ob q⟩,fun _ _ _ n _=>n,fun b ob q _=>⟨ob,k b ob q⟩,fun _ _ q=>q,fun _ _ _ q=>q,fun _ _ q=>q,fun _ _ q=>q⟩
theorem Un.refl:Un fs ex H H h h:=Un.kept fun _ _ q=>q
theorem Un.laid(k:∀ b u,h.get? b=some u->h'.get? b=some u)(hp:h.objs.size<=a)(hn:H a=none):Un fs ex H (upd H a o) h h' where
 keep:=fun b u q _ _ _=>k b u q
 slot:=fun b u q _ _ _=>⟨u.slots,k b u q⟩
 free:=fun b u q n _=>by rw [bG (bu (bJ (aN q) hp))]; exact n
 there:=fun b u q _=>⟨u,k b u q⟩
 qH:=fun b xs q=>by rw [bG (d6 q hn)]; exact q
 qe:=fun b u xs q=>by rw [bG (d6 q hn)]; exact q
 tm:=fun b ps q=>by rw [bG (d6 q hn)]; exact q
 tu:=fun b ps q=>by rw [bG (d6 q hn)]; exact q
theorem Un.write(mu:ZI (H x))(he:e=x\/H e=some (.own x))(k:∀ b u,b≠e->h.get? b=some u->h'.get? b=some u)(XC:∃ u,h'.get? e=some u):Un fs ex H (upd H x o) h h':=by
 have hx:∀ b,H b=none->b≠x:=fun b n z=>by subst z; rw [n] at mu; exact mu
 have hb:∀ b,H b=none->b≠e:=fun b n z=>by
  subst z;rcases he with r | r
  ·exact hx b n r
  ·rw [n] at r; cases r
 have hm:∀ b u,H b=some u->¬ ZI (some u)->b≠x:=fun b u q nm z=>by subst z; rw [q] at mu; exact nm mu
 refine⟨fun b u q n _ _=>k b u (hb b n) q,fun b u q n _ _=>⟨u.slots,k b u (hb b n) q⟩,fun b u q n _=>by rw [bG (hx b n)]; exact n,fun b u q _=>?_,
  fun b xs q=>by rw [bG (hm b _ q fun z=>z)]; exact q,fun b u xs q=>by rw [bG (hm b _ q fun z=>z)]; exact q,fun b ps q=>by rw [bG (hm b _ q fun z=>z)]; exact q,fun b ps q=>by rw [bG (hm b _ q fun z=>z)]; exact q⟩
 by_cases WV:b=e
 ·subst WV; exact XC
 ·exact⟨u,k b u WV q⟩
end
def ZP(h:Heap)(H:Hp):List Addr:=(fc h.objs.size).filter fun a=>(H a).isSome
def DJ(h:Heap)(H:Hp):Heap:=PySem.W.hideAll h (ZP h H)
theorem Nv(h:Heap)(H:Hp):(DJ h H).objs.size=h.objs.size:=PySem.W.hideAll_size _ _
theorem QM{h:Heap}{H:Hp}{b:Addr}{o:Obj}(e:h.get? b=some o)(n:H b=none):(DJ h H).get? b=some o :=
 OH _ e fun hm=>by
  have q:(H b).isSome=true:=(List.mem_filter.mp hm).2;rw [n] at q; simp at q
theorem TB{h:Heap}{H:Hp}{b:Addr}{o:Obj}(e:(DJ h H).get? b=some o):h.get? b=some o/\H b=none:=by
 have e':h.get? b=some o:=RZ (ZP h H) e;refine⟨e',?_⟩;cases q:H b with
 | none=>rfl
 | some x =>
  have hm:b∈ZP h H:=List.mem_filter.mpr ⟨List.mem_range.mpr (aN e'),by simp [q]⟩;have z:(DJ h H).get? b=none:=PySem.W.hideAll_none (ZP h H) hm;rw [z] at e; cases e
def sW(g h:Heap)(L:Addr):List (Addr×Obj):=(fc h.objs.size).filterMap fun a=>if a=L\/(g.get? a).isSome=true then none else (h.get? a).map fun o=>(a,o)
theorem xA{g h:Heap}{L a:Addr}{o:Obj}(h1:a≠L)(h2:g.get? a=none)(h3:h.get? a=some o):(a,o)∈sW g h L :=
 List.mem_filterMap.mpr ⟨a,List.mem_range.mpr (aN h3),by simp [h1,h2,h3]⟩
theorem zG{g h:Heap}{L:Addr}{p:Addr×Obj}(hp:p∈sW g h L):p.1≠L/\g.get? p.1=none/\h.get? p.1=some p.2:=by
 obtain⟨b,_,e⟩:=List.mem_filterMap.mp hp;split at e
 ·cases e
 ·rename_i hn;cases q:h.get? b with
  | none=>rw [q] at e; simp at e
  | some u =>
   rw [q] at e;simp only [uA,wa] at e;subst e;refine⟨fun z=>hn (.inl z),?_,q⟩;show g.get? b=none;cases r:g.get? b with
   | none=>rfl
   | some v=>exact(hn (.inr (by simp [r]))).elim
def rest(g h:Heap)(L d:Addr):List (Addr×Obj):=(sW g h L).filter fun p=>decide (p.1≠d)
theorem FN{g h:Heap}{L:Addr}:News g L h (sW g h L):=fun p hp=>let ⟨a,b,c⟩:=zG hp; ⟨c,a,b⟩
structure Mod(K:ai)(mg:Str->Option Value)(base:Heap):Prop where
 U6:K.In base
 glob:base.Ns bQ mg
 blt:∃ mb,base.Ns builtinsNs mb/\∀ x:Str,x≠"__name__"->mb x=ez x
 nolimit:base.NoLimit
structure Cx where
 prog:bI
 w:World
 K:ai
 mg:Str->Option Value
 base:Heap
 A:cS
 N:List Str
 i6:ax
 N7:Hp
 env:Env
 outer:List Env
 stack:List Env
 ex:List Addr
 fn:Str->Bool
 calm:Bool
 pn:List (Addr×Obj)
 xe:Value->ax->Prop
def tD(l:List Env):List Addr:=l.filterMap (·.frame)
abbrev Cx.fs(X:Cx):List Addr:=tD X.outer
def Vis(sc:Scope)(x:Str):Prop:=sc.names.lookup x=some .local\/sc.names.lookup x=some .cell\/sc.names.lookup x=some .free
def Loc(sc:Scope)(x:Str):Prop:=sc.names.lookup x=some .local\/sc.names.lookup x=some .cell
def Look(env:Env)(h:Heap)(m:Str->Option Value)(x:Str)(u:Value):Prop :=
 (env.kindOf x=some .local/\m x=some u)\/((env.kindOf x=some .cell\/env.kindOf x=some .free)/\∃ c,env.cells.lookup x=some c/\h.IsCell c (some u))
structure Cx.Ok(X:Cx):Prop where
 mod:Mod X.K X.mg X.base
 kind:X.env.scope.kind=.function
 glob:X.env.globals=bQ
 blt:X.env.builtins=builtinsNs
 above:X.i6.heap.objs.size<=X.env.locals
 inj:∀ x y c,X.env.cells.lookup x=some c->X.env.cells.lookup y=some c->x=y
 has:∀ x,(X.env.kindOf x=some .cell\/X.env.kindOf x=some .free)->∃ c,X.env.cells.lookup x=some c
 XE:∀ x c,X.fn x=true->X.env.cells.lookup x=some c->X.i6.heap.objs.size<=c
 hd:X.calm=true->X.A.handled=none
 frames:X.A.frames=some X.stack
 X0:X.stack=X.outer\/(X.stack=X.env :: X.outer/\X.env.frame=some X.env.locals)
 Zn:∀ b∈X.ex,b≠X.env.locals/\∀ x c,X.env.cells.lookup x=some c->c≠b
 bs:∀ b o,X.base.get? b=some o->X.i6.heap.get? b=some o/\X.N7 b=none
 RC:X.base.objs.size<=X.i6.heap.objs.size
 Jd:∀ b o,X.base.get? b=some o->b∉X.ex
 NG:∀ b∈X.ex,b∉X.fs
 wU:X.i6.heap.FunFrames X.base X.outer
 Sh:∀ b∈X.fs,X.N7 b=none
structure Inv(X:Cx)(pins:List (Addr×Obj))(σ:List (Option V))(H:Hp)(s:ax):Prop where
 ok:X.Ok
 os:s.os=X.i6.os
 bare:yY s.gens
 base:Un X.fs X.ex X.N7 H X.i6.heap s.heap
 loc:∃ m,s.heap.Ns X.env.locals m/\∀ (i:Nat) (x:Str) (v:V),X.N[i]?=some x->σ[i]?=some (some v)->Vis X.env.scope x->∃ u,RelV v u/\Look X.env s.heap m x u
 cell:∀ x c,X.env.cells.lookup x=some c->∃ v,s.heap.IsCell c v
 free:H X.env.locals=none
 jf:∀ x c,X.env.cells.lookup x=some c->H c=none
 pin:∀ p∈X.pn++pins,s.heap.get? p.1=some p.2/\H p.1=none/\p.1≠X.env.locals/\p.1∉X.fs/\∀ v,p.2.data≠.cell v
 b7:oh X.prog X.w H s.heap
 len:σ.length=X.N.length
section
variable {X:Cx} {pins:List (Addr×Obj)} {σ:List (Option V)} {H H':Hp} {s:ax} {h':Heap}
theorem Cx.Ok.aaZ(ok:X.Ok){b:Addr}{o:Obj}(e:X.base.get? b=some o):b∉X.fs:=fun hb=>by
 have:=(ok.wU.mem hb).1;rw [e] at this; cases this
theorem Inv.bs(I:Inv X pins σ H s):∀ b o,X.base.get? b=some o->s.heap.get? b=some o/\H b=none:=fun b o e =>
 ⟨I.base.keep b o (I.ok.bs b o e).1 (I.ok.bs b o e).2 (I.ok.aaZ e) (I.ok.Jd b o e),I.base.free b o (I.ok.bs b o e).1 (I.ok.bs b o e).2 (I.ok.Jd b o e)⟩
theorem Inv.bk(I:Inv X pins σ H s):∀ b o,X.base.get? b=some o->s.heap.get? b=some o:=fun b o e=>(I.bs b o e).1
theorem Inv.mod(I:Inv X pins σ H s):Mod X.K X.mg X.base:=I.ok.mod
theorem Inv.z8(I:Inv X pins σ H s):X.K.In s.heap:=I.ok.mod.U6.keeps I.bk
theorem Inv.fr(I:Inv X pins σ H s):∃ m,Fr X.base X.env.locals s.heap m :=
 let ⟨m,hn,_⟩:=I.loc
 ⟨m,hn,I.bk,bz I.ok.RC I.ok.above⟩
theorem Inv.lt(I:Inv X pins σ H s):X.env.locals < s.heap.objs.size:=let ⟨_,hn,_⟩:=I.loc; hn.lt
theorem Inv.sz(I:Inv X pins σ H s):X.i6.heap.objs.size<=s.heap.objs.size:=bz I.ok.above (Ss I.lt)
theorem Inv.aaY(I:Inv X pins σ H s){a:Addr}(h:s.heap.objs.size<=a):a∉X.fs:=fun hb=>by
 obtain⟨_,o,ho,_⟩:=I.ok.wU.mem hb;exact absurd (bJ (aN ho) (bz I.sz h)) (ib _)
theorem Inv.Uj(I:Inv X pins σ H s):∀ x c,X.env.cells.lookup x=some c->c≠X.env.locals:=fun x c e z=>by
 obtain⟨v,o,ho,hd⟩:=I.cell x c e;obtain⟨m,⟨o',es,ep,Cj,A6,_⟩,_⟩:=I.loc;rw [z,Cj] at ho; cases ho; rw [A6] at hd; cases hd
theorem Inv.wU(I:Inv X pins σ H s):s.heap.FunFrames X.base X.outer:=by
 have all:∀ (l:List Env),(∀ b∈tD l,b∈X.fs)->X.i6.heap.FunFrames X.base l->s.heap.FunFrames X.base l:=by
  intro l;induction l with
  | nil=>intro _ _; trivial
  | cons env r ih =>
   intro hs hl;obtain⟨hk,⟨L,o,hf,hn,ho,hd⟩,hr⟩:=hl;have hL:L∈X.fs:=hs L (by unfold tD; rw [ya,hf]; exact cA);obtain⟨sl,e⟩:=I.base.slot L o ho (I.ok.Sh L hL) hL fun z=>I.ok.NG L z hL;exact⟨hk,⟨L,_,hf,hn,e,hd⟩,ih (fun b hb=>hs b (by unfold tD; rw [ya,hf]; exact aL _ hb)) hr⟩
 exact all X.outer (fun _ hb=>hb) I.ok.wU
theorem Inv.stack(I:Inv X pins σ H s):s.heap.FunFrames X.base X.stack:=by
 rcases I.ok.X0 with e | ⟨e,hf⟩
 ·rw [e]; exact I.wU
 ·rw [e];obtain⟨m,hn,_⟩:=I.loc;refine .cons (by rw [I.ok.kind]; decide) hf hn ?_ I.wU;exact SE (bz I.ok.RC I.ok.above)
theorem Inv.IH(I:Inv X pins σ H s):∀ b∈tD X.stack,b∈X.env.locals :: X.fs:=fun b hb=>by
 rcases I.ok.X0 with e | ⟨e,hf⟩
 ·rw [e] at hb; exact aL _ hb
 ·rw [e] at hb;unfold tD at hb;rw [ya,hf] at hb;exact hb
theorem Inv.C7(I:Inv X pins σ H s):∀ b∈tD X.stack,H b=none:=fun b hb=>by
 rcases List.mem_cons.mp (I.IH b hb) with e | hb
 ·rw [e]; exact I.free
 ·obtain⟨_,o,ho,_⟩:=I.ok.wU.mem hb;exact I.base.free b o ho (I.ok.Sh b hb) fun z=>I.ok.NG b z hb
theorem Inv.step{g':Array GenState}{t':Nat}{d':Drawn}{ch:List Addr}(I:Inv X pins σ H s)
  (Sg:∀ b∈ch,(b∈X.ex\/X.i6.heap.objs.size<=b)/\b≠X.env.locals/\(∀ x c,X.env.cells.lookup x=some c->c≠b)/\∀ p∈X.pn++pins,p.1≠b)
  (keep:∀ b o,b≠X.env.locals->b∉X.fs->b∉ch->s.heap.get? b=some o->H b=none->h'.get? b=some o)
  (slot:∀ b o,b≠X.env.locals->b∈X.fs->b∉ch->s.heap.get? b=some o->H b=none->∃ sl,h'.get? b=some { o with slots:=sl }) (free:∀ b o,b∉ch->s.heap.get? b=some o->H b=none->H' b=none)
  (there:∀ b o,b∉ch->s.heap.get? b=some o->∃ o',h'.get? b=some o')
  (qH:∀ b xs,H b=some (.tup xs)->H' b=some (.tup xs)) (qe:∀ b o u,H b=some (.iC o u)->H' b=some (.iC o u)) (tm:∀ b q,H b=some (.SR q)->H' b=some (.SR q)) (tu:∀ b x,H b=some (.own x)->H' b=some (.own x))
  (ns:∀ m,s.heap.Ns X.env.locals m->h'.Ns X.env.locals m) (b7:oh X.prog X.w H' h') (hg:yY g') :
  Inv X pins σ H' { s with heap:=h',gens:=g',drawn:=d',toks:=t' }:=by
 have neL:∀ b o,X.i6.heap.get? b=some o->b≠X.env.locals:=fun b o e=>bu (bJ (aN e) I.ok.above);have Z3:∀ b o,X.i6.heap.get? b=some o->b∉X.ex->b∉ch:=fun b o e hx hb=>by
  rcases (Sg b hb).1 with z | z
  ·exact hx z
  ·exact absurd (bJ (aN e) z) (ib _)
 have cellK:∀ x c,X.env.cells.lookup x=some c->∀ v,s.heap.IsCell c v->h'.IsCell c v:=fun x c e v ⟨o,ho,hd⟩=>by
  have YC:c∉ch:=fun z=>(Sg c z).2.2.1 x c e rfl;by_cases hc:c∈X.fs
  ·obtain⟨sl,q⟩:=slot c o (I.Uj x c e) hc YC ho (I.jf x c e);exact⟨_,q,hd⟩
  ·exact⟨o,keep c o (I.Uj x c e) hc YC ho (I.jf x c e),hd⟩
 refine⟨I.ok,I.os,hg,⟨fun b o e n hb hx=>?_,fun b o e n hb hx=>?_,fun b o e n hx=>?_,fun b o e hx=>?_,fun b xs e=>qH b xs (I.base.qH b xs e),fun b o xs e=>qe b o xs (I.base.qe b o xs e),fun b ps e=>?_,fun b x e=>tu b x (I.base.tu b x e)⟩,?_,fun x c e=>?_,?_,fun x c e=>?_,fun p hp=>?_,b7,I.len⟩
 ·exact keep b o (neL b o e) hb (Z3 b o e hx) (I.base.keep b o e n hb hx) (I.base.free b o e n hx)
 ·obtain⟨sl,e1⟩:=I.base.slot b o e n hb hx;obtain⟨sl',e2⟩:=slot b _ (neL b o e) hb (Z3 b o e hx) e1 (I.base.free b o e n hx);exact⟨sl',e2⟩
 ·obtain⟨o',e1⟩:=I.base.there b o e hx;exact free b o' (Z3 b o e hx) e1 (I.base.free b o e n hx)
 ·obtain⟨o',e1⟩:=I.base.there b o e hx;exact there b o' (Z3 b o e hx) e1
 ·exact tm b _ (I.base.tm b ps e)
 ·obtain⟨m,hn,hl⟩:=I.loc;refine⟨m,ns m hn,fun i x v e1 e2 e3=>?_⟩;obtain⟨u,r,l⟩:=hl i x v e1 e2 e3;refine⟨u,r,?_⟩;rcases l with l | ⟨k,c,e,z⟩
  ·exact .inl l
  ·exact .inr ⟨k,c,e,cellK x c e _ z⟩
 ·obtain⟨v,z⟩:=I.cell x c e;exact⟨v,cellK x c e v z⟩
 ·obtain⟨m,⟨o,_,_,ho,_⟩,_⟩:=I.loc;exact free _ o (fun z=>(Sg _ z).2.1 rfl) ho I.free
 ·obtain⟨v,o,ho,hd⟩:=I.cell x c e;exact free c o (fun z=>(Sg c z).2.2.1 x c e rfl) ho (I.jf x c e)
 ·obtain⟨e,n,ne,nf,d⟩:=I.pin p hp;have YC:p.1∉ch:=fun z=>(Sg p.1 z).2.2.2 p hp rfl;exact⟨keep p.1 p.2 ne nf YC e n,free p.1 p.2 YC e n,ne,nf,d⟩
theorem Inv.un{t':Nat}(I:Inv X pins σ H s)(u:Un X.fs [] H H' s.heap h')(b7:oh X.prog X.w H' h'):Inv X pins σ H' { s with heap:=h',toks:=t' }:=by
 obtain⟨m,⟨o,es,ep,ho,r⟩,_⟩:=id I.loc;obtain⟨sl,hL⟩:=u.any ho I.free (by simp);exact I.step (g':=s.gens) (d':=s.drawn) (ch:=[]) (fun _ z=>nomatch z) (fun b o _ hb _ e n=>u.keep b o e n hb (by simp)) (fun b o _ hb _ e n=>u.slot b o e n hb (by simp)) (fun b o _ e n=>u.free b o e n (by simp)) (fun b o _ e=>u.there b o e (by simp)) u.qH u.qe u.tm u.tu (fun m' hm=>by
  obtain⟨o',es',ep',Cj,r'⟩:=hm;rw [ho] at Cj; cases Cj;exact⟨_,es',ep',hL,r'⟩) b7 I.bare
theorem Inv.call{g':Array GenState}{t':Nat}{d':Drawn}{ch:List Addr}(I:Inv X pins σ H s)(u:Un (tD X.stack) ch H H' s.heap h')(b7:oh X.prog X.w H' h')(hg:yY g')
  (Sg:∀ b∈ch,(b∈X.ex\/X.i6.heap.objs.size<=b)/\b≠X.env.locals/\(∀ x c,X.env.cells.lookup x=some c->c≠b)/\∀ p∈X.pn++pins,p.1≠b) :
  Inv X pins σ H' { s with heap:=h',gens:=g',drawn:=d',toks:=t' }:=by
 obtain⟨m,⟨o,es,ep,ho,r⟩,_⟩:=id I.loc;obtain⟨sl,hL⟩:=u.any ho I.free fun z=>(Sg _ z).2.1 rfl;exact I.step (ch:=ch) Sg (fun b o hL hb hc e n=>u.keep b o e n (fun z=>(List.mem_cons.mp (I.IH b z)).elim hL hb) hc) (fun b o _ _ hc e n=>u.any e n hc) (fun b o hc e n=>u.free b o e n hc) (fun b o hc e=>u.there b o e hc) u.qH u.qe u.tm u.tu (fun m' hm=>by
  obtain⟨o',es',ep',Cj,r'⟩:=hm;rw [ho] at Cj; cases Cj;exact⟨_,es',ep',hL,r'⟩) b7 hg
theorem Inv.turned{t':Nat}{it:Addr}(I:Inv X pins σ H s)(k:∀ b o,b≠it->s.heap.get? b=some o->h'.get? b=some o)(hn:H it=none)(hL:it≠X.env.locals)
  (h1:it∈X.ex\/X.i6.heap.objs.size<=it) (h2:∀ x c,X.env.cells.lookup x=some c->c≠it) (h3:∀ p∈X.pn++pins,p.1≠it):Inv X pins σ H { s with heap:=h',toks:=t' }:=by
 have nit:∀ b u,H b=some u->b≠it:=fun b u e z=>by rw [z,hn] at e; cases e
 refine I.step (g':=s.gens) (d':=s.drawn) (ch:=[it]) (fun b hb=>?_) (fun b o _ _ hc e _=>k b o (fun z=>hc (by simp [z])) e) (fun b o _ _ hc e _=>⟨o.slots,k b o (fun z=>hc (by simp [z])) e⟩) (fun _ _ _ _ n=>n)
  (fun b o hc e=>⟨o,k b o (fun z=>hc (by simp [z])) e⟩) (fun _ _ e=>e) (fun _ _ _ e=>e) (fun _ _ e=>e) (fun _ _ e=>e) (fun m hm=>?_) (fun b u e=>?_) I.bare
 ·have e:b=it:=by simpa using hb
  subst e;exact⟨h1,hL,h2,h3⟩
 ·obtain⟨o,es,ep,ho,r⟩:=hm;exact⟨o,es,ep,k _ o (eD hL) ho,r⟩
 ·refine(I.b7 b u e).jl (fun c v hc q=>k c v ?_ q) (fun _ q=>q) fun _ _ q=>q;rcases hc with z | z
  ·rw [z]; exact nit b u e
  ·exact nit c _ z
theorem Inv.tok(I:Inv X pins σ H s)(t:Nat):Inv X pins σ H { s with toks:=t }:=I.un (h':=s.heap) (t':=t) Un.refl I.b7
theorem Inv.kept{t':Nat}(I:Inv X pins σ H s)(k:∀ b u,s.heap.get? b=some u->h'.get? b=some u):Inv X pins σ H { s with heap:=h',toks:=t' }:=I.un (Un.kept k) (I.b7.kept k)
theorem Inv.laid{a:Addr}{o:HO}{t':Nat}(I:Inv X pins σ H s)(k:∀ b u,s.heap.get? b=some u->h'.get? b=some u)(hp:s.heap.objs.size<=a)(new:fk X.prog X.w (upd H a o) h' a o) :
  Inv X pins σ (upd H a o) { s with heap:=h',toks:=t' }:=I.un (Un.laid k hp (I.b7.fresh hp)) (I.b7.laid k hp new)
theorem Inv.write{x e:Addr}{o:HO}{t':Nat}(I:Inv X pins σ H s)(mu:ZI (H x))(he:e=x\/H e=some (.own x))(k:∀ b u,b≠e->s.heap.get? b=some u->h'.get? b=some u)(XC:∃ u,h'.get? e=some u)
  (new:fk X.prog X.w (upd H x o) h' x o):Inv X pins σ (upd H x o) { s with heap:=h',toks:=t' }:=I.un (Un.write mu he k XC) (I.b7.write mu he k XC new)
theorem Inv.K5{UU:List (Addr×Obj)}(I:Inv X pins σ H s)(h:∀ p∈UU,s.heap.get? p.1=some p.2/\H p.1=none/\p.1≠X.env.locals/\p.1∉X.fs/\∀ v,p.2.data≠.cell v):Inv X UU σ H s :=
 ⟨I.ok,I.os,I.bare,I.base,I.loc,I.cell,I.free,I.jf,fun p hp=>(List.mem_append.mp hp).elim (fun z=>I.pin p (kd _ z)) (h p),I.b7,I.len⟩
theorem zJ{N:List Str}(hN:N.Nodup){i j:Nat}{x:Str}(a:N[i]?=some x)(b:N[j]?=some x):i=j:=by
 obtain⟨h1,e1⟩:=List.getElem?_eq_some_iff.mp a;obtain⟨h2,e2⟩:=List.getElem?_eq_some_iff.mp b;exact(List.getElem_inj hN).mp (e1.trans e2.symm)
theorem wj{M:Model}{A:cS}{E:Value->ax->Prop}{i:Nat}{x:Str}{v:V}{u:Value}{Q:Unit->ax->Prop}(I:Inv X pins σ H s)(hN:X.N.Nodup)(hi:X.N[i]?=some x)(hx:Loc X.env.scope x)(r:RelV v u)
  (h:∀ s',Inv X pins (σ.set i (some v)) H s'->(∃ a,fP a s.heap s'.heap/\(a=X.env.locals\/X.env.cells.lookup x=some a))->Q () s') (hf:autoParam (X.fn x=true\/X.env.scope.names.lookup x=some .local) Ao._auto_1):wpAny M A (storeName X.env x u) Q E s:=by
 obtain⟨m,hn,hl⟩:=id I.loc;have QO:(X.env.scope.kind == .class||(X.env.scope.kind == .module&&X.env.locals != X.env.globals))=false:=by rw [I.ok.kind]; rfl
 have Y4:i < σ.length:=by rw [I.len]; exact(List.getElem?_eq_some_iff.mp hi).1
 have Uj:=I.Uj;have tracked:∀ {a:Addr} {h':Heap},(∃ o,s.heap.get? a=some o/\H a=none)->fP a s.heap h'->oh X.prog X.w H h':=fun {a h'} ha hs b ob e=>by
  obtain⟨_,_,qy⟩:=ha;refine(I.b7 b ob e).jl (fun c w' hc q=>(hs.2 c ?_).trans q) (fun _ q=>q) fun _ _ q=>q;rintro rfl;rcases hc with rfl | hc
  ·rw [qy] at e; cases e
  ·rw [qy] at hc; cases hc
 rcases hx with hk | hk
 ·refine wpAny_storeName_local hk hn (fun h' Vf hs=>?_) QO;obtain⟨oL,_,_,hoL,_⟩:=id hn;refine h _ ⟨I.ok,I.os,I.bare,⟨fun b o e n hb hx=>?_,fun b o e n hb hx=>?_,I.base.free,fun b o e hx=>?_,I.base.qH,I.base.qe,I.base.tm,I.base.tu⟩,⟨_,Vf,fun j y v' e1 e2 e3=>?_⟩,fun y c e=>?_,I.free,I.jf,fun p hp=>?_,tracked ⟨oL,hoL,I.free⟩ hs,by simpa using I.len⟩ ⟨_,hs,.inl rfl⟩
  ·exact(hs.2 b (bu (bJ (aN e) I.ok.above))).trans (I.base.keep b o e n hb hx)
  ·obtain⟨sl,e1⟩:=I.base.slot b o e n hb hx;exact⟨sl,(hs.2 b (bu (bJ (aN e) I.ok.above))).trans e1⟩
  ·obtain⟨o',e1⟩:=I.base.there b o e hx;exact⟨o',(hs.2 b (bu (bJ (aN e) I.ok.above))).trans e1⟩
  ·by_cases hj:j=i
   ·subst hj;rw [hi] at e1; cases e1;rw [cm Y4] at e2;cases e2;exact⟨u,r,.inl ⟨hk,by simp⟩⟩
   ·rw [b9 (eD hj)] at e2;obtain⟨u',r',q⟩:=hl j y v' e1 e2 e3;refine⟨u',r',?_⟩;rcases q with ⟨k,e⟩ | ⟨k,c,e,z⟩
    ·refine .inl ⟨k,?_⟩;have:y≠x:=fun e=>hj (zJ hN e1 (e ▸ hi));simp [this,e]
    ·exact .inr ⟨k,c,e,z.sameBut hs (Uj y c e)⟩
  ·obtain⟨w',z⟩:=I.cell y c e;exact⟨w',z.sameBut hs (Uj y c e)⟩
  ·obtain⟨e,n,ne,nf,d⟩:=I.pin p hp;exact⟨(hs.2 p.1 ne).trans e,n,ne,nf,d⟩
 ·have hfn:X.fn x=true:=by
   rcases hf with z | z
   ·exact z
   ·rw [z] at hk; cases hk
  obtain⟨c,hc⟩:=I.ok.has x (.inl hk);obtain⟨w',z⟩:=I.cell x c hc;refine wpAny_storeName_cell I.ok.kind hk hc z (fun h' Ow hs=>?_);obtain⟨oc,XB,abK⟩:=id z;refine h { s with heap:=h' } ⟨I.ok,I.os,I.bare,⟨fun b o e n hb hx=>?_,fun b o e n hb hx=>?_,I.base.free,fun b o e hx=>?_,I.base.qH,I.base.qe,I.base.tm,I.base.tu⟩,⟨m,hn.sameBut hs (eD (Uj x c hc)),fun j y v' e1 e2 e3=>?_⟩,fun y c' e=>?_,I.free,I.jf,fun p hp=>?_,tracked ⟨oc,XB,I.jf x c hc⟩ hs,by simpa using I.len⟩ ⟨c,hs,.inr hc⟩
  ·exact(hs.2 b (bu (bJ (aN e) (I.ok.XE x c hfn hc)))).trans (I.base.keep b o e n hb hx)
  ·obtain⟨sl,e1⟩:=I.base.slot b o e n hb hx;exact⟨sl,(hs.2 b (bu (bJ (aN e) (I.ok.XE x c hfn hc)))).trans e1⟩
  ·obtain⟨o',e1⟩:=I.base.there b o e hx;exact⟨o',(hs.2 b (bu (bJ (aN e) (I.ok.XE x c hfn hc)))).trans e1⟩
  ·by_cases hj:j=i
   ·subst hj;rw [hi] at e1; cases e1;rw [cm Y4] at e2;cases e2;exact⟨u,r,.inr ⟨.inl hk,c,hc,Ow⟩⟩
   ·rw [b9 (eD hj)] at e2;obtain⟨u',r',q⟩:=hl j y v' e1 e2 e3;refine⟨u',r',?_⟩;rcases q with q | ⟨k,c',e,z'⟩
    ·exact .inl q
    ·refine .inr ⟨k,c',e,z'.sameBut hs ?_⟩;rintro rfl;exact hj (zJ hN e1 (I.ok.inj _ _ _ e hc ▸ hi))
  ·by_cases hcc:c'=c
   ·subst hcc; exact⟨_,Ow⟩
   ·obtain⟨w2,z2⟩:=I.cell y c' e;exact⟨w2,z2.sameBut hs hcc⟩
  ·obtain⟨e,n,ne,nf,d⟩:=I.pin p hp;refine⟨(hs.2 p.1 ?_).trans e,n,ne,nf,d⟩;intro q;rw [q,XB] at e;have q':oc=p.2:=ba e;exact d w' (by rw [<-q']; exact abK)
theorem E4{M:Model}{A:cS}{E:Value->ax->Prop}{i:Nat}{x:Str}{v:V}{u:Value}{Q:Unit->ax->Prop}(I:Inv X pins σ H s)(hN:X.N.Nodup)(hi:X.N[i]?=some x)(hx:Loc X.env.scope x)(r:RelV v u)
  (h:∀ s',Inv X pins (σ.set i (some v)) H s'->Q () s') (hf:autoParam (X.fn x=true\/X.env.scope.names.lookup x=some .local) Ao._auto_1):wpAny M A (storeName X.env x u) Q E s :=
 wj I hN hi hx r (fun s' I' _=>h s' I') hf
theorem Inv.Vu{s':ax}{ch:List Addr}(I:Inv X pins σ H s)(ho:s'.os=s.os)(u:Un (tD X.stack) ch H H' s.heap s'.heap)(b7:oh X.prog X.w H' s'.heap)(hg:yY s'.gens)
  (Sg:∀ b∈ch,(b∈X.ex\/X.i6.heap.objs.size<=b)/\b≠X.env.locals/\(∀ x c,X.env.cells.lookup x=some c->c≠b)/\∀ p∈X.pn++pins,p.1≠b):Inv X pins σ H' s':=by
 obtain⟨h',g',d',t',o'⟩:=s';have e:o'=s.os:=ho;subst e;exact I.call (g':=g') (t':=t') (d':=d') u b7 hg Sg
end
abbrev XK:=Value->Option Addr->Hp->Prop
abbrev St:=List (Option V)
abbrev VK:=V->Hp->Prop
abbrev TE:=St->Hp->VK->Prop
abbrev TT:=St->Hp->(Bool->Hp->Prop)->Prop
abbrev TA:=St->Hp->(List V->Hp->Prop)->Prop
structure Ends where
 nx:St->Hp->Prop
 rt:VK
 bk:St->Hp->Prop:=fun _ _=>False
 ct:St->Hp->Prop:=fun _ _=>False
abbrev TS:=Ends->St->Hp->Prop
def EP(X:Cx)(pins:List (Addr×Obj))(σ:St)(Q:VK)(u:Value)(s':ax):Prop:=∃ v H',Inv X pins σ H' s'/\RelV v u/\Q v H'
def TP(X:Cx)(pins:List (Addr×Obj))(σ:St)(Q:Bool->Hp->Prop)(b:Bool)(s':ax):Prop:=∃ H',Inv X pins σ H' s'/\Q b H'
def SP(X:Cx)(pins:List (Addr×Obj))(D:Ends)(f:Flow)(s':ax):Prop :=
 match f with
 | .next=>∃ jY H',Inv X pins jY H' s'/\D.nx jY H'
 | .brk=>∃ jY H',Inv X pins jY H' s'/\D.bk jY H'
 | .cont=>∃ jY H',Inv X pins jY H' s'/\D.ct jY H'
 | .ret u=>∃ v jY H',Inv X pins jY H' s'/\RelV v u/\D.rt v H'
def PE(X:Cx)(e:Expr)(t:TE):Prop :=
 ∀ (pins:List (Addr×Obj)) (s:ax) (σ:St) (H:Hp) (Q:VK),Inv X pins σ H s->t σ H Q->wpAny (model X.prog X.w) X.A (eval e X.env) (EP X pins σ Q) X.xe s
def XI(X:Cx)(st:List Stmt)(t:TS):Prop :=
 ∀ (pins:List (Addr×Obj)) (s:ax) (σ:St) (H:Hp) (D:Ends),Inv X pins σ H s->t D σ H->wpAny (model X.prog X.w) X.A (execs st X.env) (SP X pins D) X.xe s
theorem gH{α:Type}{t:Sem α}{Q Q':α->ax->Prop}{M:Model}{A:cS}{E:Value->ax->Prop}{s:ax}(h:wpAny M A t Q E s)(hQ:∀ a s,Q a s->Q' a s):wpAny M A t Q' E s:=oG h hQ fun _ _ x=>x
section
variable {X:Cx}
def aaA(i:Nat):TE:=fun σ H Q=>∃ v,σ[i]?=some (some v)/\Q v H
def tC(v:V):TE:=fun _ H Q=>Q v H
theorem We {i:Nat} {x:Str} {pos:Pos} (hN:X.N[i]?=some x) (hv:Vis X.env.scope x) (hd:autoParam ((x == ("__debug__" : Str))=false) Ad._auto_1) (HX:autoParam ((x == ("__classdict__" : Str))=false) Ad._auto_1):PE X (.Name x pos) (aaA i):=by
 intro pins s σ H Q I h;obtain⟨v,e,h⟩:=h;obtain⟨m,hn,hl⟩:=I.loc;obtain⟨u,r,l⟩:=hl i x v hN e hv;have fin:EP X pins σ Q u s:=⟨v,H,I,r,h⟩;rcases l with ⟨hk,hm⟩ | ⟨hk,c,hc,qz⟩
 ·exact wpAny_Name (wpAny_loadName_local I.ok.kind hk hn hm fin) hd
 ·rcases hk with hk | hk
  ·exact wpAny_Name (wpAny_loadName_cell I.ok.kind hk hc qz fin) hd
  ·exact wpAny_Name (wpAny_loadName_free I.ok.kind hk hc qz fin HX) hd
theorem Wg{i j pos}:PE X (.Constant (.int i) j pos) (tC (.int i)):=fun _ _ _ H _ I h=>wpAny_Constant_int ⟨.int i,H,I.tok _,⟨_,rfl⟩,h⟩
theorem Yp{b j pos}:PE X (.Constant (.bool b) j pos) (tC (.bl b)):=fun _ _ _ H _ I h=>Constant_bool ⟨.bl b,H,I,rfl,h⟩
theorem Wf{x j pos}:PE X (.Constant (.str x) j pos) (tC (.str x)):=fun _ _ _ H _ I h=>Calls.Constant_str ⟨.str x,H,I.tok _,⟨_,rfl⟩,h⟩
def Gl(X:Cx)(x:Str):Prop:=X.env.kindOf x=some .globalImplicit
theorem oz{E:Value->ax->Prop}{pins:List (Addr×Obj)}{s:ax}{σ:St}{H:Hp}{x:Str}{u:Value}{pos:Pos}{Q:Value->ax->Prop}(I:Inv X pins σ H s)(hg:Gl X x)(hm:X.mg x=some u)(h:Q u s)
  (hd:autoParam ((x == ("__debug__" : Str))=false) Ad._auto_1):wpAny (model X.prog X.w) X.A (eval (.Name x pos) X.env) Q E s :=
 HM I.ok.kind hg (Calls.loadGlobal_global (by rw [I.ok.glob]; exact I.mod.glob.keeps I.bk) hm h) hd
theorem nH{E:Value->ax->Prop}{pins:List (Addr×Obj)}{s:ax}{σ:St}{H:Hp}{x:Str}{u:Value}{pos:Pos}{Q:Value->ax->Prop}(I:Inv X pins σ H s)(hg:Gl X x)(hm:X.mg x=none)(hv:ez x=some u)(h:Q u s)
  (hn:autoParam (x≠"__name__") Ad._auto_1) (hd:autoParam ((x == ("__debug__" : Str))=false) Ad._auto_1):wpAny (model X.prog X.w) X.A (eval (.Name x pos) X.env) Q E s:=by
 obtain⟨mb,h1,h2⟩:=I.mod.blt;exact HM I.ok.kind hg (Calls.loadGlobal_builtin (by rw [I.ok.glob]; exact I.mod.glob.keeps I.bk) hm (by rw [I.ok.blt]; exact h1.keeps I.bk) ((h2 x hn).trans hv) h) hd
theorem Th {x:Str} {v:V} {u:Value} {pos:Pos} (hg:Gl X x) (hm:X.mg x=some u) (r:RelV v u) (hd:autoParam ((x == ("__debug__" : Str))=false) Ad._auto_1):PE X (.Name x pos) (tC v) :=
 fun _ _ _ H _ I h=>oz I hg hm ⟨v,H,I,r,h⟩ hd
variable {a b:Expr} {ta tb:TE} {pos:Pos}
def tB(t:TE):TT:=fun σ H Q=>t σ H fun x H1=>∃ c,x=.bl c/\Q c H1
variable {tA tB':TT} {rest:List Expr}
end
def pF(K:ai)(H:Hp)(a:Addr)(xs:List V):Prop :=
 Rd H a (.lst xs) \/
  ∃ (o:Obj) (bH:Array Value) (n:Nat),K.lookup a=some o/\o.cls=.type "list"/\o.dict=none/\o.data=.seq bH n/\bH.size<=aX/\Vals xs bH.toList
def yH(K:ai)(H:Hp)(a:Addr)(xs:List V):Prop :=
 Rd H a (.tup xs) \/
  ∃ (o:Obj) (bH:Array Value) (n:Nat),K.lookup a=some o/\o.cls=.type "tuple"/\o.data=.seq bH n/\bH.size<=aX/\Vals xs bH.toList
def acD:Value->Option V
 | .none=>some .eN
 | .bool b=>some (.bl b)
 | .int i _=>some (.int i)
 | .str x _=>some (.str x)
 | .bytes b _=>some (.Xd b)
 | .float b _=>some (.flt b)
 | .ref a=>some (.ref a)
 | .type n=>some (.ty n)
 | _=>none
theorem RelV.abs{x:V}{u:Value}(r:RelV x u):acD u=some x:=by
 cases x with
 | eN=>cases r; rfl
 | bl _=>cases r; rfl
 | int _=>obtain⟨t,rfl⟩:=r; rfl
 | str _=>obtain⟨t,rfl⟩:=r; rfl
 | Xd _=>obtain⟨t,rfl⟩:=r; rfl
 | flt _=>obtain⟨t,rfl⟩:=r; rfl
 | ref _=>cases r; rfl
 | ty _=>cases r; rfl
theorem RelV.inj{x y:V}{u:Value}(r:RelV x u)(q:RelV y u):x=y:=ba (r.abs.symm.trans q.abs)
theorem Vals.inj:∀ {xs ys:List V} {us:List Value},Vals xs us->Vals ys us->xs=ys:=by
 intro xs ys us h;induction h generalizing ys with
 | nil=>intro k; cases k; rfl
 | cons r t ih =>
  intro k;cases k with
  | cons r' t'=>rw [r.inj r',ih t']
section
variable {X:Cx} {pins:List (Addr×Obj)} {σ:St} {H:Hp} {s:ax} {a:Addr} {xs ys:List V}
theorem pF.of{K:ai}(h:H a=some (.lst xs)):pF K H a xs:=.inl (.inl h)
theorem yH.of{K:ai}(h:H a=some (.tup xs)):yH K H a xs:=.inl (.inl h)
theorem Inv.list(I:Inv X pins σ H s)(h:pF X.K H a xs):∃ bH:List Value,Vals xs bH/\PlainL s.heap a bH.toArray/\xs.length<=aX:=by
 rcases h with h | ⟨o,bH,n,hk,hc,hd,hs,hz,r⟩
 ·obtain⟨z,bH,n,r,e⟩:=h.ok I.b7;exact⟨bH,r,⟨_,n,e,rfl,rfl,rfl⟩,z⟩
 ·refine⟨bH.toList,r,⟨o,n,I.z8 a o hk,hc,hd,by simpa using hs⟩,?_⟩;have e:=r.length;simp only [eU] at e;lia
theorem Inv.tuple(I:Inv X pins σ H s)(h:yH X.K H a xs):∃ bH:List Value,Vals xs bH/\IsTup s.heap a bH.toArray/\xs.length<=aX:=by
 rcases h with h | ⟨o,bH,n,hk,hc,hs,hz,r⟩
 ·obtain⟨z,bH,r,p⟩:=h.ok I.b7;exact⟨bH,r,p,z⟩
 ·refine⟨bH.toList,r,⟨o,I.z8 a o hk,hc,n,by simpa using hs⟩,?_⟩;have e:=r.length;simp only [eU] at e;lia
theorem Inv.vj(I:Inv X pins σ H s)(h:pF X.K H a xs)(h':pF X.K H a ys):xs=ys:=by
 obtain⟨bH,r,⟨o,n,e,_,_,d⟩,_⟩:=I.list h;obtain⟨its',r',⟨o',n',e',_,_,d'⟩,_⟩:=I.list h';rw [e] at e'; cases e';rw [d] at d';injection d' with d1 _
 have:bH=its':=by simpa using congrArg Array.toList d1
 subst this;exact r.inj r'
theorem Inv.Mz(I:Inv X pins σ H s)(h:yH X.K H a xs)(h':yH X.K H a ys):xs=ys:=by
 obtain⟨bH,r,⟨o,e,_,n,d⟩,_⟩:=I.tuple h;obtain⟨its',r',⟨o',e',_,n',d'⟩,_⟩:=I.tuple h';rw [e] at e'; cases e';rw [d] at d';injection d' with d1 _
 have:bH=its':=by simpa using congrArg Array.toList d1
 subst this;exact r.inj r'
end
abbrev Cx.uJ(X:Cx)(E:Value->ax->Prop):Cx:={ X with xe:=E }
abbrev Cx.Ws(X:Cx):Cx:=X.uJ fun _ _=>False
theorem Cx.Ok.uJ{X:Cx}(ok:X.Ok)(E:Value->ax->Prop):(X.uJ E).Ok :=
 ⟨ok.mod,ok.kind,ok.glob,ok.blt,ok.above,ok.inj,ok.has,ok.XE,ok.hd,ok.frames,ok.X0,ok.Zn,ok.bs,ok.RC,ok.Jd,ok.NG,ok.wU,ok.Sh⟩
theorem Cx.Ok.pL{X:Cx}{E:Value->ax->Prop}(ok:(X.uJ E).Ok):X.Ok :=
 ⟨ok.mod,ok.kind,ok.glob,ok.blt,ok.above,ok.inj,ok.has,ok.XE,ok.hd,ok.frames,ok.X0,ok.Zn,ok.bs,ok.RC,ok.Jd,ok.NG,ok.wU,ok.Sh⟩
section
variable {X:Cx} {pins:List (Addr×Obj)} {σ:St} {H:Hp} {s:ax} {E:Value->ax->Prop}
theorem Inv.uJ(I:Inv X pins σ H s)(E:Value->ax->Prop):Inv (X.uJ E) pins σ H s:=⟨I.ok.uJ E,I.os,I.bare,I.base,I.loc,I.cell,I.free,I.jf,I.pin,I.b7,I.len⟩
theorem Inv.pL(I:Inv (X.uJ E) pins σ H s):Inv X pins σ H s:=⟨I.ok.pL,I.os,I.bare,I.base,I.loc,I.cell,I.free,I.jf,I.pin,I.b7,I.len⟩
theorem SP.pL{D:Ends}{f:Flow}{s':ax}(h:SP (X.uJ E) pins D f s'):SP X pins D f s':=by
 cases f with
 | next=>obtain⟨jY,H',I,q⟩:=h; exact⟨jY,H',I.pL,q⟩
 | brk=>obtain⟨jY,H',I,q⟩:=h; exact⟨jY,H',I.pL,q⟩
 | cont=>obtain⟨jY,H',I,q⟩:=h; exact⟨jY,H',I.pL,q⟩
 | ret u=>obtain⟨v,jY,H',I,r,q⟩:=h; exact⟨v,jY,H',I.pL,r,q⟩
theorem XI.Ws{st:List Stmt}{t:TS}(h:XI X.Ws st t):XI X st t:=fun pins s σ H D I hw =>
 oG (h pins s σ H D (I.uJ _) hw) (fun _ _ q=>q.pL) fun _ _ z=>bC z
end
section
variable {X:Cx} {st:Stmt} {rest:List Stmt} {t u:TS} {e:Expr} {te:TE} {pos:Pos}
theorem Inv.quiet{pins:List (Addr×Obj)}{σ:St}{H:Hp}{s:ax}(I:Inv X pins σ H s):interactive X.env=false:=by simp [interactive,I.ok.kind]
end
abbrev acF:=V->V->V->Hp->(Hp->Prop)->Prop
def acH(X:Cx)(t:acF):Prop :=
 ∀ (pins:List (Addr×Obj)) (s:ax) (σ:St) (H:Hp) (o i v:V) (ov iv u:Value) (Q:Hp->Prop),Inv X pins σ H s->RelV o ov->RelV i iv->RelV v u->t o i v H Q ->
  wpAny (model X.prog X.w) X.A (setItem ov iv u) (fun _ s'=>∃ H',Inv X pins σ H' s'/\Q H') X.xe s
structure It where
 go:Nat->Hp->Prop
 yld:Nat->Hp->V->Hp->Prop
 stop:Nat->Hp->Prop
def oi(X:Cx)(pins:List (Addr×Obj))(H:Hp)(b:Addr):Prop :=
 H b=none/\b≠X.env.locals/\b∉X.fs/\(b∈X.ex\/X.i6.heap.objs.size<=b)/\(∀ x c,X.env.cells.lookup x=some c->c≠b)/\∀ p∈X.pn++pins,p.1≠b
theorem Inv.Bp{X:Cx}{pins:List (Addr×Obj)}{σ:St}{H H':Hp}{s:ax}{b:Addr}(I:Inv X pins σ H s)(hb:s.heap.objs.size<=b)(hn:H' b=none):oi X pins H' b:=by
 refine⟨hn,wc (bJ I.lt hb),I.aaY hb,.inr (bz I.sz hb),fun x c e z=>?_,fun p hp z=>?_⟩
 ·obtain⟨v,q⟩:=I.cell x c e;exact absurd (bJ q.lt (by rw [z]; exact hb)) (ib _)
 ·exact absurd (bJ (aN (I.pin p hp).1) (by rw [z]; exact hb)) (ib _)
structure Turn(P:bI)(w:World)(K:ai)(tg:Expr)(J:It)(fp:List Addr)(it:Addr)(tn:Nat->Heap->Prop):Prop where
 mem:it∈fp
 obj:∀ i h,tn i h->∀ b∈fp,∃ o,h.get? b=some o/\∀ v,o.data≠.cell v
 keep:∀ i h h',tn i h->(∀ b∈fp,∀ o,h.get? b=some o->h'.get? b=some o)->tn i h'
 item:∀ (X:Cx),X.prog=P->X.w=w->X.K=K->X.calm=true->∀ (i:Nat) (pins:List (Addr×Obj)) (s:ax) (σ:St) (H:Hp) (E:Value->ax->Prop),Inv X pins σ H s->(∀ b∈fp,oi X pins H b)->tn i s.heap->J.go i H ->
  wpAny (model P w) X.A (xa (.ref it)) (fun r s1=>∃ u,r=some u /\
   wpAny (model P w) X.A (yN tg (.ref it) u) (fun _ s2=>∃ x H',Inv X pins σ H' s2/\RelV x u/\J.yld i H x H'/\tn (i+1) s2.heap/\∀ b∈fp,H' b=none) E s1) E s
 done:∀ (X:Cx),X.prog=P->X.w=w->X.K=K->X.calm=true->∀ (i:Nat) (pins:List (Addr×Obj)) (s:ax) (σ:St) (H:Hp) (E:Value->ax->Prop),Inv X pins σ H s->(∀ b∈fp,oi X pins H b)->tn i s.heap->J.stop i H ->
  wpAny (model P w) X.A (xa (.ref it)) (fun r s1=>r=none/\Inv X pins σ H s1) E s
 self:∀ (A:cS) (i:Nat) (s:ax) (Q:Value->ax->Prop) (E:Value->ax->Prop),tn i s.heap->Q (.ref it) s->wpAny (model P w) A (EJ (.ref it)) Q E s
abbrev TI:=St->Hp->(It->Hp->Prop)->Prop
def PIE(X:Cx)(pins:List (Addr×Obj))(σ:St)(tg:Expr)(R:It->Hp->Prop)(U7:Value)(s2:ax):Prop :=
 ∃ (it:Addr) (fp:List Addr) (tn:Nat->Heap->Prop) (J:It) (H':Hp),U7=.ref it/\Inv X pins σ H' s2/\Turn X.prog X.w X.K tg J fp it tn/\tn 0 s2.heap/\(∀ b∈fp,oi X pins H' b)/\R J H'
theorem LA{M:Model}{A:cS}{E:Value->ax->Prop}{s:ax}{tg:Expr}{it:Addr}{u:Value}{o:Obj}{n:String}{vs:Array Value}{Q:Unit->ax->Prop}(ho:s.heap.get? it=some o)(hc:o.cls=.type n)(hd:o.data=.fields vs)
    (hn:["enumerate","zip","dict_itemiterator","dict_reverseitemiterator","odict_iterator","itertools.zip_longest","itertools.pairwise"].contains n=false) (hQ:Q () s):wpAny M A (yN tg (.ref it) u) Q E s:=by
  unfold yN;cases tg <;> first
    | exact ay hQ
    | (cases u <;> first
        | exact ay hQ
        | (refine ag (wpAny_load ho ?_)
           rw [hc,hd];show wpAny M A (if (["enumerate","zip","dict_itemiterator","dict_reverseitemiterator","odict_iterator","itertools.zip_longest","itertools.pairwise"].contains n&&vs[0]? == some (EI _))=true then _ else _) Q E s;rw [if_neg (by intro h; rw [hn,qR] at h; cases h)];exact ay hQ))
def Itl(K:ai)(a:Addr):It :=
 ⟨fun i H=>∃ xs x,pF K H a xs/\xs[i]?=some x,fun i H x H'=>H'=H/\∀ xs,pF K H a xs->xs[i]?=some x,fun i H=>∃ xs,pF K H a xs/\xs.length<=i⟩
def Itt(K:ai)(a:Addr):It :=
 ⟨fun i H=>∃ xs x,yH K H a xs/\xs[i]?=some x,fun i H x H'=>H'=H/\∀ xs,yH K H a xs->xs[i]?=some x,fun i H=>∃ xs,yH K H a xs/\xs.length<=i⟩
def Itr(lo:Int)(n:Nat):It:=⟨fun i _=>i < n,fun i H x H'=>H'=H/\x=.int (lo+i),fun i _=>n<=i⟩
theorem Mu{P:bI}{w:World}{K:ai}{tg:Expr}(a it:Addr):Turn P w K tg (Itl K a) [it] it (fun i h=>h.IsListIter it a i) where
 mem:=by simp
 obj:=fun i h st b hb=>by
  have e:b=it:=by simpa using hb
  subst e;obtain⟨o,e,c,d⟩:=st;exact⟨o,e,fun v z=>by rw [d] at z; cases z⟩
 keep:=fun i h h' st k=>st.at fun o e=>k it (by simp) o e
 item:=by
  intro X hP hw hK hc i pins s σ H E I hf st hg;subst hP hw hK;obtain⟨xs,x,hq,hx⟩:=hg;obtain⟨bH,rv,p,hz⟩:=I.list hq;obtain⟨u,hu,ru⟩:=rv.get hx;obtain⟨f0,f1,f2,f3,f4,f5⟩:=hf it (by simp);refine wpAny_pyNext_list_item st p.isList (x:=u) (by simpa using hu) fun h' Bh sb=>?_;have I1:Inv X pins σ H { s with heap:=h' }:=I.turned (t':=s.toks) (fun b o hb e=>(sb.2 b hb).trans e) f0 f1 f3 f4 f5;obtain⟨o,e,c,d⟩:=id Bh;exact⟨u,rfl,LA (s:={ s with heap:=h' }) e c d (by decide) ⟨x,H,I1,ru,⟨rfl,fun ys hy=>by rw [I.vj hy hq]; exact hx⟩,Bh,fun b hb=>(hf b hb).1⟩⟩
 done:=by
  intro X hP hw hK hc i pins s σ H E I hf st hg;subst hP hw hK;obtain⟨xs,hq,hx⟩:=hg;obtain⟨bH,rv,p,hz⟩:=I.list hq;obtain⟨f0,f1,f2,f3,f4,f5⟩:=hf it (by simp);have hl:=rv.length;exact wpAny_pyNext_list_end (I.ok.hd hc) st p.isList (by simp; lia) fun h' eb=>⟨rfl,I.turned (t':=s.toks) (fun b o hb e=>eb b o hb e) f0 f1 f3 f4 f5⟩
 self:=fun _ _ _ _ _ st h=>wpAny_pyIter_listiter st h
theorem IB{P:bI}{w:World}{K:ai}{tg:Expr}(a it:Addr):Turn P w K tg (Itt K a) [it] it (fun i h=>h.IsTupleIter it a i) where
 mem:=by simp
 obj:=fun i h st b hb=>by
  have e:b=it:=by simpa using hb
  subst e;obtain⟨o,e,c,d⟩:=st;exact⟨o,e,fun v z=>by rw [d] at z; cases z⟩
 keep:=fun i h h' st k=>st.at fun o e=>k it (by simp) o e
 item:=by
  intro X hP hw hK hc i pins s σ H E I hf st hg;subst hP hw hK;obtain⟨xs,x,hq,hx⟩:=hg;obtain⟨bH,rv,p,hz⟩:=I.tuple hq;obtain⟨u,hu,ru⟩:=rv.get hx;obtain⟨f0,f1,f2,f3,f4,f5⟩:=hf it (by simp);refine wpAny_pyNext_tuple_item st (show s.heap.IsTuple a bH.toArray from p) (x:=u) (by simpa using hu) fun h' Bh sb=>?_;have I1:Inv X pins σ H { s with heap:=h' }:=I.turned (t':=s.toks) (fun b o hb e=>(sb.2 b hb).trans e) f0 f1 f3 f4 f5;obtain⟨o,e,c,d⟩:=id Bh;exact⟨u,rfl,LA (s:={ s with heap:=h' }) e c d (by decide) ⟨x,H,I1,ru,⟨rfl,fun ys hy=>by rw [I.Mz hy hq]; exact hx⟩,Bh,fun b hb=>(hf b hb).1⟩⟩
 done:=by
  intro X hP hw hK hc i pins s σ H E I hf st hg;subst hP hw hK;obtain⟨xs,hq,hx⟩:=hg;obtain⟨bH,rv,p,hz⟩:=I.tuple hq;obtain⟨f0,f1,f2,f3,f4,f5⟩:=hf it (by simp);have hl:=rv.length;exact wpAny_pyNext_tuple_end (I.ok.hd hc) st (show s.heap.IsTuple a bH.toArray from p) (by simp; lia) fun h' eb=>⟨rfl,I.turned (t':=s.toks) (fun b o hb e=>eb b o hb e) f0 f1 f3 f4 f5⟩
 self:=fun _ _ _ _ _ st h=>wpAny_pyIter_tupleiter st h
theorem IC{P:bI}{w:World}{K:ai}{tg:Expr}(it:Addr)(lo:Int)(n:Nat):Turn P w K tg (Itr lo n) [it] it (fun i h=>IsRangeIter h it (lo+(i:Nat) * 1) ((n:Int) - (i:Nat)) 1) where
 mem:=by simp
 obj:=fun i h st b hb=>by
  have e:b=it:=by simpa using hb
  subst e;exact⟨_,st,fun v z=>by
   have z':Data.fields _=Data.cell v:=z;cases z'⟩
 keep:=fun i h h' st k=>k it (by simp) _ st
 item:=by
  intro X hP hw hK hc i pins s σ H E I hf st hg;subst hP hw hK;obtain⟨f0,f1,f2,f3,f4,f5⟩:=hf it (by simp);have W:=Walks.range (prog:=X.prog) (w:=X.w) (I.ok.hd hc) it lo 1 n;refine W.item i s _ _ hg st fun v h' tk hv Bh kk=>?_;obtain⟨t,rfl⟩:=hv;have I1:Inv X pins σ H { s with heap:=h',toks:=tk }:=I.turned (fun b o hb e=>kk b o (by simpa using hb) e) f0 f1 f3 f4 f5;refine⟨_,rfl,LA (s:={ s with heap:=h',toks:=tk }) (n:="range_iterator") Bh rfl rfl (by decide) ⟨.int (lo+i),H,I1,⟨t,?_⟩,⟨rfl,rfl⟩,Bh,fun b hb=>(hf b hb).1⟩⟩;rw [Int.mul_one]
 done:=by
  intro X hP hw hK hc i pins s σ H E I hf st hg;subst hP hw hK;obtain⟨f0,f1,f2,f3,f4,f5⟩:=hf it (by simp);exact wpAny_pyNext_range_end (I.ok.hd hc) st (by have:n<=i:=hg; lia) fun h' eb=>⟨rfl,I.turned (t':=s.toks) (fun b o hb e=>eb b o hb e) f0 f1 f3 f4 f5⟩
 self:=fun _ _ _ _ _ st h=>wpAny_pyIter_rangeiter st h
section
variable {X:Cx} {tg:Expr}
theorem Pj{pins:List (Addr×Obj)}{σ:St}{H:Hp}{s:ax}{R:It->Hp->Prop}{E:Value->ax->Prop}{lo hi:Int}{t u v:Tok}{tk:Nat}(I:Inv X pins σ H s)(h1:-(2 ^ 62)<=lo)(h2:lo < 2 ^ 62)(h3:-(2 ^ 62)<=hi)(h4:hi < 2 ^ 62)
  (q:R (Itr lo (hi - lo).toNat) H):wpAny (model X.prog X.w) X.A (EJ (.ref s.heap.objs.size)) (PIE X pins σ tg R) E { s with heap:=s.heap.push { cls:=.type "range",data:=.fields #[.int lo t,.int hi u,.int 1 v] },toks:=tk }:=by
 refine wpAny_pyIter_range (IsRange.new ..) (small_one h1 h2 h3 h4) ?_;have I1:Inv X pins σ H { s with heap:=s.heap.push { cls:=.type "range",data:=.fields #[.int lo t,.int hi u,.int 1 v] },toks:=tk }:=I.kept fun b o e=>aA _ e
 refine⟨(s.heap.push { cls:=.type "range",data:=.fields #[.int lo t,.int hi u,.int 1 v] }).objs.size,[(s.heap.push { cls:=.type "range",data:=.fields #[.int lo t,.int hi u,.int 1 v] }).objs.size],_,_,H,rfl,
  I1.kept (t':=tk) fun b o e=>aA _ e,IC _ lo (hi - lo).toNat,?_,fun b hb=>?_,q⟩
 ·have e1:lo+((0:Nat):Int) * 1=lo:=by simp
  have e2:(((hi - lo).toNat:Nat):Int) - ((0:Nat):Int)=Builtin.Range.rangeSize lo hi 1:=by rw [rangeSize_one]; split <;> lia
  show IsRangeIter _ _ (lo+((0:Nat):Int) * 1) ((((hi - lo).toNat:Nat):Int) - ((0:Nat):Int)) 1;rw [e1,e2];exact a9 _ rfl
 ·have e:b=(s.heap.push { cls:=.type "range",data:=.fields #[.int lo t,.int hi u,.int 1 v] }).objs.size:=by simpa using hb
  subst e;exact I1.Bp (aC _) (I1.b7.fresh (aC _))
def rO(fp:List Addr)(h:Heap):List (Addr×Obj):=fp.filterMap fun b=>(h.get? b).map fun o=>(b,o)
theorem pZ{fp:List Addr}{h:Heap}{b:Addr}{o:Obj}(hb:b∈fp)(e:h.get? b=some o):(b,o)∈rO fp h:=List.mem_filterMap.mpr ⟨b,hb,by rw [e]; rfl⟩
theorem MY{fp:List Addr}{h:Heap}{p:Addr×Obj}(hp:p∈rO fp h):p.1∈fp/\h.get? p.1=some p.2:=by
 obtain⟨b,hb,e⟩:=List.mem_filterMap.mp hp;cases q:h.get? b with
 | none=>rw [q] at e; cases e
 | some o =>
  rw [q] at e;have e':(b,o)=p:=ba e;subst e';exact⟨hb,q⟩
theorem Inv.pinned{pins:List (Addr×Obj)}{σ:St}{H:Hp}{s:ax}{fp:List Addr}(I:Inv X pins σ H s)(hf:∀ b∈fp,oi X pins H b)(ho:∀ b∈fp,∃ o,s.heap.get? b=some o/\∀ v,o.data≠.cell v):Inv X (pins++rO fp s.heap) σ H s :=
 I.K5 fun p hp=>(List.mem_append.mp hp).elim (fun z=>I.pin p (cI _ z)) fun z=>by
  obtain⟨hb,e⟩:=MY z;obtain⟨f0,f1,f2,_⟩:=hf p.1 hb;obtain⟨o,e',d⟩:=ho p.1 hb;rw [e] at e'; cases e';exact⟨e,f0,f1,f2,d⟩
theorem Inv.uK{pins pl:List (Addr×Obj)}{σ:St}{H:Hp}{s:ax}(I:Inv X (pins++pl) σ H s):Inv X pins σ H s:=I.K5 fun p hp=>I.pin p (cI _ (kd _ hp))
end
abbrev R2:=V->V->Hp->VK->Prop
def Ke(X:Cx)(f:Value->Value->Sem Value)(r:R2):Prop :=
 ∀ (pins:List (Addr×Obj)) (s:ax) (σ:St) (H:Hp) (x y:V) (v u:Value) (Q:VK),Inv X pins σ H s->RelV x v->RelV y u->r x y H Q ->
  wpAny (model X.prog X.w) X.A (f v u) (EP X pins σ Q) X.xe s
def UnR(X:Cx)(f:Value->Sem Value)(r:V->Hp->VK->Prop):Prop :=
 ∀ (pins:List (Addr×Obj)) (s:ax) (σ:St) (H:Hp) (x:V) (v:Value) (Q:VK),Inv X pins σ H s->RelV x v->r x H Q ->
  wpAny (model X.prog X.w) X.A (f v) (EP X pins σ Q) X.xe s
def RW(X:Cx)(f:Value)(r:List V->Hp->VK->Prop):Prop :=
 ∀ (pins:List (Addr×Obj)) (s:ax) (σ:St) (H:Hp) (xs:List V) (us:List Value) (Q:VK),Inv X pins σ H s->Vals xs us->r xs H Q ->
  wpAny (model X.prog X.w) X.A (call f us) (EP X pins σ Q) X.xe s
def acE(X:Cx)(r:V->Hp->(Bool->Hp->Prop)->Prop):Prop :=
 ∀ (pins:List (Addr×Obj)) (s:ax) (σ:St) (H:Hp) (x:V) (v:Value) (Q:Bool->Hp->Prop),Inv X pins σ H s->RelV x v->r x H Q ->
  wpAny (model X.prog X.w) X.A (truthy v) (TP X pins σ Q) X.xe s
def rI(C:Int->Int->Prop)(g:Int->Int->V):R2:=fun x y H Q=>∃ i j,x=.int i/\y=.int j/\C i j/\Q (g i j) H
def Xv(g:Int->Int->V):R2:=fun x y H Q=>∃ i j,x=.int i/\y=.int j/\Q (g i j) H
def rU(g:Int->V):V->Hp->VK->Prop:=fun x H Q=>∃ i,x=.int i/\Q (g i) H
section
variable {X:Cx} {a b c:Expr} {ta tb tc:TE} {pos:Pos}
theorem Yt{f:Value->Value->Sem Value}{C:Int->Int->Prop}{g:Int->Int->Int}
  (rule:∀ (i j:Int) (t u:Tok) (s:ax) (Q:Value->ax->Prop) (E:Value->ax->Prop),C i j->Q (.int (g i j) s.toks) { s with toks:=s.toks+1 }->wpAny (model X.prog X.w) X.A (f (.int i t) (.int j u)) Q E s) :
  Ke X f (rI C fun i j=>.int (g i j)):=by
 intro pins s σ H x y v u Q I rx ry h;obtain⟨i,j,rfl,rfl,hc,q⟩:=h;obtain⟨t,rfl⟩:=rx;obtain⟨t',rfl⟩:=ry;exact rule i j t t' s _ _ hc ⟨.int (g i j),H,I.tok _,⟨_,rfl⟩,q⟩
theorem Ys{f:Value->Value->Sem Value}{g:Int->Int->Int}
  (rule:∀ (i j:Int) (t u:Tok) (s:ax) (Q:Value->ax->Prop) (E:Value->ax->Prop),Q (.int (g i j) s.toks) { s with toks:=s.toks+1 }->wpAny (model X.prog X.w) X.A (f (.int i t) (.int j u)) Q E s) :
  Ke X f (Xv fun i j=>.int (g i j)):=by
 intro pins s σ H x y v u Q I rx ry h;obtain⟨i,j,rfl,rfl,q⟩:=h;obtain⟨t,rfl⟩:=rx;obtain⟨t',rfl⟩:=ry;exact rule i j t t' s _ _ ⟨.int (g i j),H,I.tok _,⟨_,rfl⟩,q⟩
theorem Yu{f:Value->Value->Sem Value}{g:Int->Int->Bool}
  (rule:∀ (i j:Int) (t u:Tok) (s:ax) (Q:Value->ax->Prop) (E:Value->ax->Prop),Q (.bool (g i j)) s->wpAny (model X.prog X.w) X.A (f (.int i t) (.int j u)) Q E s) :
  Ke X f (Xv fun i j=>.bl (g i j)):=by
 intro pins s σ H x y v u Q I rx ry h;obtain⟨i,j,rfl,rfl,q⟩:=h;obtain⟨t,rfl⟩:=rx;obtain⟨t',rfl⟩:=ry;exact rule i j t t' s _ _ ⟨.bl (g i j),H,I,rfl,q⟩
def acR(i j:Int):Prop:=0 < j/\j < 1073741824
def acP(i j:Int):Prop:=0<=j/\j<=1000000/\i.natAbs < 2 ^ 64
def Xq(i j:Int):Prop:=(-(2 ^ 64) < i/\i < 2 ^ 64)\/(-(2 ^ 64) < j/\j < 2 ^ 64)
theorem Xq.ok{i j:Int}(h:Xq i j):IntMulOk i j:=by
 rcases h with ⟨h1,h2⟩ | ⟨h1,h2⟩
 ·exact .of_left (intBits_le_64 h1 h2)
 ·exact .of_right (intBits_le_64 h1 h2)
theorem Wo:Ke X (iE .Add) (Xv fun i j=>.int (i+j)):=Ys fun _ _ _ _ _ _ _ q=>add_int q
theorem Wj:Ke X (iE .Sub) (Xv fun i j=>.int (i - j)):=Ys fun _ _ _ _ _ _ _ q=>sub_int q
theorem Wl:Ke X (iE .Mult) (rI Xq fun i j=>.int (i * j)):=Yt fun _ _ _ _ _ _ _ hc q=>mul_int q hc.ok
theorem Ts:Ke X (iE .FloorDiv) (rI acR fun i j=>.int (i / j)):=Yt fun i j _ _ _ _ _ hc q=>by
 have h1:(0:Int) < j:=hc.1;have h2:j < 1073741824:=hc.2;exact floordiv_int (by lia) (by rw [Int.fdiv_eq_ediv_of_nonneg i (by lia)]; exact q) (.inl (PyProof.noPylong_small (by lia)))
theorem Wm:Ke X (iE .Mod) (rI (fun _ j=>0 < j) fun i j=>.int (i % j)):=Yt fun i j _ _ _ _ _ hc q=>by
 have h1:(0:Int) < j:=hc;exact mod_int' (by lia) (by rw [Int.fmod_eq_emod_of_nonneg i (by lia)]; exact q)
theorem Wk:Ke X (iE .Pow) (rI acP fun i j=>.int (i ^ j.toNat)):=Yt fun _ _ _ _ _ _ _ hc q=>pow_int_small hc.1 hc.2.1 hc.2.2 q
theorem unI{f:Value->Sem Value}{g:Int->Int}
  (rule:∀ (i:Int) (t:Tok) (s:ax) (Q:Value->ax->Prop) (E:Value->ax->Prop),Q (.int (g i) s.toks) { s with toks:=s.toks+1 }->wpAny (model X.prog X.w) X.A (f (.int i t)) Q E s) :
  UnR X f (rU fun i=>.int (g i)):=by
 intro pins s σ H x v Q I rx h;obtain⟨i,rfl,q⟩:=h;obtain⟨t,rfl⟩:=rx;exact rule i t s _ _ ⟨.int (g i),H,I.tok _,⟨_,rfl⟩,q⟩
theorem VM:UnR X (unaryOp .USub) (rU fun i=>.int (-i)):=unI fun _ _ _ _ _ q=>neg_int q
end
section
variable {X:Cx} {a b c:Expr} {ta tb tc:TE} {pos:Pos}
theorem Yq:Ke X (dQ .Lt) (Xv fun i j=>.bl (decide (i < j))):=Yu fun _ _ _ _ _ _ _ q=>lt_int q
theorem Yr:Ke X (dQ .LtE) (Xv fun i j=>.bl (decide (i<=j))):=Yu fun _ _ _ _ _ _ _ q=>le_int q
theorem e7(b:Expr){op:CmpOp}(h:autoParam (op≠.In) Ad._auto_1)(h2:autoParam (op≠.NotIn) Ad._auto_1):behindInMarks op b=false:=by
 have e1:(op == CmpOp.In)=false:=by cases op <;> first | rfl | exact absurd rfl h
 have e2:(op == CmpOp.NotIn)=false:=by cases op <;> first | rfl | exact absurd rfl h2
 cases b with
 | Set es k _ =>
  show (k == 0&&(op == .In||op == .NotIn)&&es.all (constantsAlone 8))=false;rw [e1,e2,Bool.or_false,Kx,qR]
 | _=>rfl
def Xk(K:ai)(x:V)(H:Hp)(k:Bool):Prop :=
 match x with
 | .eN=>k=false
 | .bl b=>k=b
 | .int i=>k=(i != 0)
 | .str y=>y.length<=aX/\k=((y.length:Int) != 0)
 | .Xd y=>y.size<=aX/\k=((y.size:Int) != 0)
 | .ref p=>(∃ xs,pF K H p xs/\k=!xs.isEmpty)\/(∃ xs,yH K H p xs/\k=!xs.isEmpty)\/∃ kvs,H p=some (.dK kvs)/\k=!kvs.isEmpty
 | _=>False
theorem Jt{κ:Type}{kvs:List (κ×V)}{vs:List (κ×Value)}(r:KV kvs vs):(!vs.isEmpty)=!kvs.isEmpty:=by
 cases r <;> rfl
theorem z9{xs:List V}{bH:List Value}(r:Vals xs bH):(!bH.toArray.isEmpty)=!xs.isEmpty:=by
 cases r <;> simp
theorem zW:(aX:Nat) < 2 ^ 63:=by rw [cD]; decide
theorem VP:acE X (fun x H Q=>∃ k,Xk X.K x H k/\Q k H):=by
 intro pins s σ H x v Q I rx h;obtain⟨k,e,q⟩:=h;have hl:=zW;have hs:aX=16777216:=cD;cases x with
 | eN =>
  cases rx;have e':k=false:=e;subst e';exact truthy_none ⟨H,I,q⟩
 | bl b =>
  cases rx;have e':k=b:=e;subst e';exact iY ⟨H,I,q⟩
 | int i =>
  obtain⟨t,rfl⟩:=rx;have e':k=(i != 0):=e;subst e';exact PySem.P.truthy_int ⟨H,I,q⟩
 | str y =>
  obtain⟨t,rfl⟩:=rx;obtain⟨hy,e'⟩:y.length<=aX/\k=((y.length:Int) != 0):=e;subst e';exact PySem.P.truthy_str (by lia) ⟨H,I.tok _,q⟩
 | Xd y =>
  obtain⟨t,rfl⟩:=rx;obtain⟨hy,e'⟩:y.size<=aX/\k=((y.size:Int) != 0):=e;subst e';exact PySem.W.truthy_bytes (by lia) ⟨H,I.tok _,q⟩
 | ref p =>
  cases rx;have e':(∃ xs,pF X.K H p xs/\k=!xs.isEmpty)\/(∃ xs,yH X.K H p xs/\k=!xs.isEmpty)\/∃ kvs,H p=some (.dK kvs)/\k=!kvs.isEmpty:=e;rcases e' with ⟨xs,hx,e'⟩ | ⟨xs,hx,e'⟩ | ⟨kvs,hx,e'⟩
  ·subst e';obtain⟨bH,r,pl,hz⟩:=I.list hx;have hlen:=r.length;exact wpAny_truthy_list pl.isList (by simp only [aR]; lia) ⟨H,I.tok _,by rw [z9 r]; exact q⟩
  ·subst e';obtain⟨bH,r,pl,hz⟩:=I.tuple hx;have hlen:=r.length;exact truthy_tuple pl (by simp only [aR]; lia) ⟨H,I.tok _,by rw [z9 r]; exact q⟩
  ·subst e';obtain⟨hz,hS,vs,r,m⟩:kvs.length<=aX/\(p == df)=false/\∃ vs,KV kvs vs/\s.heap.DictOf (cH X.prog X.w) p vs:=I.b7 p _ hx;have hlen:kvs.length=vs.length:=iT r;exact H0 hS m (by lia) ⟨H,I.tok _,by rw [Jt r]; exact q⟩
 | _=>exact(show False from e).elim
theorem Ja:Ke X (iE .Add) (fun x y H Q=>∃ i j,x=.str i/\y=.str j/\i.length+j.length<=aX/\Q (.str (i++j)) H):=by
 intro pins s σ H x y v u Q I rx ry h;obtain⟨i,j,rfl,rfl,hz,q⟩:=h;obtain⟨t,rfl⟩:=rx;obtain⟨t',rfl⟩:=ry;exact add_str (fun t' tk=>⟨.str (i++j),H,I.tok _,⟨_,rfl⟩,q⟩) hz
theorem vals1{x:V}{us:List Value}(r:Vals [x] us):∃ u,us=[u]/\RelV x u:=by
 cases r with
 | cons r1 r2=>cases r2; exact⟨_,rfl,r1⟩
theorem vals2{x y:V}{us:List Value}(r:Vals [x,y] us):∃ u w',us=[u,w']/\RelV x u/\RelV y w':=by
 cases r with
 | cons r1 r2 =>
  cases r2 with
  | cons r3 r4=>cases r4; exact⟨_,_,rfl,r1,r3⟩
def ZJ(K:ai)(x:V)(H:Hp)(n:Nat):Prop :=
 match x with
 | .str y=>y.length<=aX/\n=y.length
 | .Xd y=>y.size<=aX/\n=y.size
 | .ref p=>(∃ xs,pF K H p xs/\n=xs.length)\/∃ xs,yH K H p xs/\n=xs.length
 | _=>False
theorem Rp:RW X (.builtin "len") (fun xs H Q=>∃ x n,xs=[x]/\ZJ X.K x H n/\Q (.int n) H):=by
 intro pins s σ H xs us Q I r h;obtain⟨x,n,rfl,e,q⟩:=h;obtain⟨u,rfl,rx⟩:=vals1 r;have hl:=zW;have hs:aX=16777216:=cD;cases x with
 | str y =>
  obtain⟨t,rfl⟩:=rx;obtain⟨hy,e'⟩:y.length<=aX/\n=y.length:=e;subst e';exact len_str (by lia) ⟨.int _,H,I.tok _,⟨_,rfl⟩,q⟩
 | Xd y =>
  obtain⟨t,rfl⟩:=rx;obtain⟨hy,e'⟩:y.size<=aX/\n=y.size:=e;subst e';exact PySem.W.len_bytes (by lia) ⟨.int _,H,I.tok _,⟨_,rfl⟩,q⟩
 | ref p =>
  cases rx;have e':(∃ xs,pF X.K H p xs/\n=xs.length)\/∃ xs,yH X.K H p xs/\n=xs.length:=e;rcases e' with ⟨xs,hx,e'⟩ | ⟨xs,hx,e'⟩
  ·subst e';obtain⟨bH,r',pl,hz⟩:=I.list hx;have hlen:=r'.length;exact Calls.call_len_list pl.isList (by simp only [aR]; lia) ⟨.int xs.length,H,I.tok _,⟨_,by simp only [aR]; rw [hlen]⟩,q⟩
  ·subst e';obtain⟨bH,r',pl,hz⟩:=I.tuple hx;have hlen:=r'.length;exact len_tuple pl (by simp only [aR]; lia) ⟨.int xs.length,H,I.tok _,⟨_,by simp only [aR]; rw [hlen]⟩,q⟩
 | _=>exact(show False from e).elim
end
theorem w8.some_of{v:V}{o:Option Value}(r:w8 (some v) o):∃ u,o=some u/\RelV v u:=by
 cases o with
 | none=>exact(show False from r).elim
 | some u=>exact⟨u,rfl,r⟩
structure kO(k:Nat)(A:cS):Prop where
 hd:A.handled=none
 dp:A.depth+3 * k+5 < recursionLimit
 un:A.units+16 * k+200 < cLine
theorem kO.mono{j k:Nat}{A:cS}(r:kO k A)(h:j<=k):kO j A:=⟨r.hd,by have:=r.dp; lia,by have:=r.un; lia⟩
theorem kO.deeper{k:Nat}{A:cS}(r:kO (k+1) A)(env:Env):kO k (A.deeper env) :=
 ⟨r.hd,by have:=r.dp; show A.depth+1+3 * k+5 < _; lia,by have:=r.un; show A.units+3+16 * k+200 < _; lia⟩
theorem kO.depth{k:Nat}{A:cS}(r:kO k A):A.depth < recursionLimit:=by have:=r.dp; lia
theorem kO.units{k:Nat}{A:cS}(r:kO k A):A.units+64 < cLine:=by have:=r.un; lia
theorem kO.y0{k:Nat}{A:cS}(r:kO k A):A.units < cLine:=by have:=r.un; lia
abbrev Sp:=List V->Hp->VK->XK->Prop
abbrev Mi:=List Env->Hp->ax->XK->Value->ax->Prop
structure RV(P:bI)(w:World)(K:ai)(mg:Str->Option Value)(base:Heap)(A:cS)(outer:List Env)(s:ax)(H:Hp):Prop where
 frames:A.frames=some outer
 mod:Mod K mg base
 bs:∀ b o,base.get? b=some o->s.heap.get? b=some o/\H b=none
 RC:base.objs.size<=s.heap.objs.size
 wU:s.heap.FunFrames base outer
 Sh:∀ b∈tD outer,H b=none
 b7:oh P w H s.heap
 bare:yY s.gens
def CE(outer:List Env)(P:bI)(w:World)(H:Hp)(s:ax)(Q:VK)(u:Value)(s':ax):Prop :=
 ∃ v H',s'.os=s.os/\yY s'.gens/\Un (tD outer) [] H H' s.heap s'.heap/\oh P w H' s'.heap/\RelV v u/\Q v H'
def CR(CX:Mi)(outer:List Env)(P:bI)(w:World)(H:Hp)(s:ax)(Q:VK)(E:XK)(r:Result)(s':ax):Prop :=
 match r with
 | .ok (.ret u)=>CE outer P w H s Q u s'
 | .ok _=>False
 | .error e=>CX outer H s E e s'
structure tK(P:bI)(w:World)(K:ai)(mg:Str->Option Value)(base:Heap)(CX:Mi)(k:Nat)(f:Addr)(fd:fx)(ps:List Str)(sp:Sp):Prop where
 len:∀ vs H Q E,sp vs H Q E->vs.length=ps.length
 run:∀ (A:cS) (outer:List Env) (s:ax) (H:Hp) (args:Args) (us:List Value) (vs:List V) (Q:VK) (E:XK),kO k A->RV P w K mg base A outer s H->BindsTo s fd args (ps.zip us)->Vals vs us->sp vs H Q E ->
  yS (model P w) A (.call (.ref f) args) (CR CX outer P w H s Q E) s
section
variable {X:Cx} {pins:List (Addr×Obj)} {σ:St} {H:Hp} {s s':ax}
theorem Inv.Zo(I:Inv X pins σ H s):RV X.prog X.w X.K X.mg X.base X.A X.stack s H :=
 ⟨I.ok.frames,I.ok.mod,I.bs,bz I.ok.RC I.sz,I.stack,I.C7,I.b7,I.bare⟩
theorem Inv.after{Q:VK}{u:Value}(I:Inv X pins σ H s)(h:CE X.stack X.prog X.w H s Q u s'):EP X pins σ Q u s':=by
 obtain⟨v,H',os,bare,un,b7,r,q⟩:=h;obtain⟨hh,g,d,t,os'⟩:=s';obtain rfl:os'=s.os:=os;exact⟨v,H',I.call (h':=hh) (g':=g) (d':=d) (t':=t) (ch:=[]) un b7 bare (fun b z=>absurd z (by simp)),r,q⟩
end
def Binds(K:ai)(fd:fx)(ps:List Str)(ds:List Value):Prop :=
 ∀ (s:ax) (us:List Value),K.In s.heap->(us++ds).length=ps.length->BindsTo s fd ⟨us,[]⟩ (ps.zip (us++ds))
theorem Binds.all{K:ai}{fd:fx}{ps:List Str}(h:∀ us:List Value,us.length=ps.length->bindArgs fd ⟨us,[]⟩=pure (ps.zip us)):Binds K fd ps []:=fun s us _ hl=>by
 rw [cC] at hl ⊢;exact .of_eq (h us hl)
def Passes(CX:Mi)(X:Cx)(E:XK):Prop:=∀ (pins:List (Addr×Obj)) (σ:St) (H:Hp) (s:ax) (e:Value) (s':ax),Inv X pins σ H s->CX X.stack H s E e s'->X.xe e s'
section
variable {X:Cx} {CX:Mi} {k:Nat} {f C:Addr} {fd:fx} {ps:List Str} {sp:Sp} {dvs:List V} {ds:List Value} {E:XK} {x m:Str} {p pos apos:Pos} {e o:Expr} {es:List Expr} {ta:TE} {t:TA}
theorem O8{pins:List (Addr×Obj)}{σ:St}{H:Hp}{s:ax}{Q:VK}{us:List Value}{vs:List V}(F:tK X.prog X.w X.K X.mg X.base CX k f fd ps sp)(hr:kO k X.A)(hb:Binds X.K fd ps ds)(hd:Vals dvs ds)(hx:Passes CX X E)
  (I:Inv X pins σ H s) (r:Vals vs us) (h:sp (vs++dvs) H Q E):wpAny (model X.prog X.w) X.A (call (.ref f) us) (EP X pins σ Q) X.xe s:=by
 have r2:Vals (vs++dvs) (us++ds):=r.append hd;have hl:(us++ds).length=ps.length:=by rw [<-r2.length]; exact F.len _ _ _ _ h
 refine wpAny_call (yR (F.run X.A X.stack s H ⟨us,[]⟩ (us++ds) (vs++dvs) Q E hr I.Zo (hb s us I.z8 hl) r2 h) fun r s' hq=>?_);cases r with
 | error e=>exact hx pins σ H s e s' I hq
 | ok fl =>
  cases fl with
  | ret u=>exact I.after hq
  | next=>exact bC hq
  | brk=>exact bC hq
  | cont=>exact bC hq
end
structure lF(N P:List Str)(sc:Scope):Prop where
 kind:sc.kind=.function
 co:sc.isCoroutine=false
 gen:sc.isGenerator=false
 nd:N.Nodup
 pre:N.take P.length=P
 par:∀ x∈P,sc.names.lookup x=some .local\/sc.names.lookup x=some .cell
 Wt:∀ y∈sc.names,y.2≠.free
theorem CG{kindOf:Str->Option tL}{x:Str}:∀ {binds:List (Str×Value)} {m:Str->Option Value},(∀ v,(x,v)∉binds)->bindL kindOf binds m x=m x
 | [],_,_=>rfl
 | (n,v) :: r,m,h=>by
  unfold bindL;rw [CG fun w hw=>h w (aL _ hw)];split
  ·have:x≠n:=by rintro rfl; exact h v cA
   simp [this]
  ·rfl
theorem CI{kindOf:Str->Option tL}{x:Str}:∀ {binds:List (Str×Value)} {m:Str->Option Value},(∀ v,(x,v)∉binds)->bindC kindOf binds m x=m x
 | [],_,_=>rfl
 | (n,v) :: r,m,h=>by
  unfold bindC;rw [CI fun w hw=>h w (aL _ hw)];split
  ·rfl
  ·have:x≠n:=by rintro rfl; exact h v cA
   simp [this]
theorem CH{kindOf:Str->Option tL}{x:Str}{v:Value}:∀ {P:List Str} {vs:List Value} {i:Nat} {m:Str->Option Value},P.Nodup->P[i]?=some x->vs[i]?=some v->kindOf x=some .local ->
  bindL kindOf (P.zip vs) m x=some v
 | [],_,_,_,_,h,_,_=>by simp at h
 | _ :: _,[],_,_,_,_,h,_=>by simp at h
 | p :: P,w :: vs,0,m,nd,h1,h2,hk=>by
  simp at h1 h2; subst h1; subst h2;show bindL kindOf ((p,w) :: P.zip vs) m p=_;unfold bindL;rw [CG fun v hv=>(List.nodup_cons.mp nd).1 (HI hv).1,if_pos hk];simp
 | p :: P,w :: vs,i+1,m,nd,h1,h2,hk=>by
  show bindL kindOf ((p,w) :: P.zip vs) m x=_;unfold bindL;exact CH (i:=i) (List.nodup_cons.mp nd).2 (by simpa using h1) (by simpa using h2) hk
theorem CJ{kindOf:Str->Option tL}{x:Str}{v:Value}:∀ {P:List Str} {vs:List Value} {i:Nat} {m:Str->Option Value},P.Nodup->P[i]?=some x->vs[i]?=some v->kindOf x≠some .local ->
  bindC kindOf (P.zip vs) m x=some v
 | [],_,_,_,_,h,_,_=>by simp at h
 | _ :: _,[],_,_,_,_,h,_=>by simp at h
 | p :: P,w :: vs,0,m,nd,h1,h2,hk=>by
  simp at h1 h2; subst h1; subst h2;show bindC kindOf ((p,w) :: P.zip vs) m p=_;unfold bindC;rw [CI fun v hv=>(List.nodup_cons.mp nd).1 (HI hv).1,if_neg hk];simp
 | p :: P,w :: vs,i+1,m,nd,h1,h2,hk=>by
  show bindC kindOf ((p,w) :: P.zip vs) m x=_;unfold bindC;exact CJ (i:=i) (List.nodup_cons.mp nd).2 (by simpa using h1) (by simpa using h2) hk
def start(N:List Str)(vs:List V):St:=vs.map some++bg (N.length - vs.length) none
def vM(CX:Mi)(P:bI)(w:World)(K:ai)(mg:Str->Option Value)(base:Heap)(N:List Str)(qual:Str)(scope:Scope)(f:Addr)(cd:Value)(A:cS)(outer:List Env)(s:ax)(H:Hp)(E:XK):Cx where
 prog:=P
 w:=w
 K:=K
 mg:=mg
 base:=base
 A:=A.deeper (xb qual scope s.heap.objs.size f cd)
 N:=N
 i6:=s
 N7:=H
 env:=xb qual scope s.heap.objs.size f cd
 outer:=outer
 stack:=xb qual scope s.heap.objs.size f cd :: outer
 ex:=[]
 calm:=true
 fn:=fun _=>true
 pn:=[]
 xe:=fun e s'=>wpAny (model P w) (A.deeper (xb qual scope s.heap.objs.size f cd)) (leaving (xb qual scope s.heap.objs.size f cd) e) (fun _ X9=>CX outer H s E e X9) (fun e' X9=>CX outer H s E e' X9) s'
theorem Hh{sc:Scope}{n:Nat}{x:Str}(h:sc.names.lookup x=some .cell):∃ c,(cellsFrom n sc.names []).lookup x=some c:=by
 have q:=Kr sc.names n [] (.inl h);exact Option.isSome_iff_exists.mp q
theorem Nk{CX:Mi}{P:bI}{w:World}{K:ai}{mg:Str->Option Value}{base:Heap}{N ps:List Str}{qual:Str}{scope:Scope}{f:Addr}{cd:Value}{A:cS}{outer:List Env}{s s1:ax}{H:Hp}{E:XK}{us:List Value}{vs:List V}
  (S:lF N ps scope) (hd:A.handled=none) (e0:RV P w K mg base A outer s H) (hl:vs.length=ps.length) (r:Vals vs us)
  (x:InCallC s s.heap.objs.size (bindL (xb qual scope s.heap.objs.size f cd).kindOf (ps.zip us) fun _=>none) (cellsFrom (s.heap.objs.size+1) scope.names []) (bindC (xb qual scope s.heap.objs.size f cd).kindOf (ps.zip us) fun _=>none) s1) :
  Inv (vM CX P w K mg base N qual scope f cd A outer s H E) [] (start N vs) H s1:=by
 have Ab:ps.length<=N.length:=by have:=congrArg dU S.pre; rw [dW] at this; lia
 obtain⟨h1,tk,rfl,hk⟩:=x.done;have YB:∀ b:Addr,b∉(vM CX P w K mg base N qual scope f cd A outer s H E).ex:=fun b z=>absurd (show b∈([]:List Addr) from z) (by simp);refine⟨⟨e0.mod,S.kind,rfl,rfl,aC _,fun y z c h1 h2=>?_,fun y hy=>?_,fun y c _ h=>?_,fun _=>hd,Around.frames_deeper e0.frames,.inr ⟨rfl,rfl⟩,fun b z=>absurd z (YB b),e0.bs,e0.RC,fun b _ _=>YB b,fun b z=>absurd z (YB b),e0.wU,e0.Sh⟩,
  rfl,e0.bare,Un.kept hk,⟨_,x.toInCall.ns,fun i y v h1 h2 h3=>?_⟩,fun y c h=>⟨_,x.cell y c h⟩,e0.b7.fresh (aC _),fun y c h=>?_,fun p hp=>absurd (show p∈([]:List (Addr×Obj)) from hp) (by simp),e0.b7.kept hk,?_⟩
 ·exact name_of_addr x.apart (iU h1) (iU h2)
 ·have hy:scope.names.lookup y=some .cell\/scope.names.lookup y=some .free:=hy;rcases hy with hy | hy
  ·exact Hh hy
  ·exact absurd rfl (S.Wt _ (iU hy))
 ·exact Ss (x.above y c (iU h))
 ·have hi:i < vs.length:=by
   unfold start at h2;by_cases hi:i < vs.length
   ·exact hi
   ·rw [bS (by simpa using hi)] at h2;rw [lX] at h2;split at h2 <;> cases h2
  have ha:vs[i]?=some v:=by
   unfold start at h2;rw [cb (by simpa using hi),aO] at h2;cases e:vs[i]? with
   | none=>rw [e] at h2; cases h2
   | some a=>rw [e] at h2; cases h2; rfl
  obtain⟨u,hu,rv⟩:=r.get ha;have hp:ps[i]?=some y:=by
   rw [<-S.pre,List.getElem?_take_of_lt (by lia)]; exact h1
  have ndP:ps.Nodup:=by rw [<-S.pre]; exact S.nd.sublist (List.take_sublist _ _)
  refine⟨u,rv,?_⟩;rcases S.par y (aZ hp) with k | k
  ·exact .inl ⟨k,CH ndP hp hu k⟩
  ·obtain⟨c,e⟩:=Hh (n:=s.heap.objs.size+1) k;refine .inr ⟨.inl k,c,e,?_⟩;have q:=x.cell y c e;rw [CJ ndP hp hu (by show scope.names.lookup y≠_; rw [k]; decide)] at q;exact q
 ·exact e0.b7.fresh (Ss (x.above y c (iU h)))
 ·unfold start;show _=N.length;rw [aG,ao,fM];lia
theorem Vn{CX:Mi}{P:bI}{w:World}{K:ai}{mg:Str->Option Value}{base:Heap}{k:Nat}{f:Addr}{name qual:Str}{params:Arguments}{body:List Stmt}{scope:Scope}{dV kV doc pm kT ct oc:Value}{an od:Option Addr}
  {Lc:Array (Option Value)} {N ps:List Str} {sp:Sp} (lk:K.lookup f=some ⟨oc,od,.func (kP name qual params body scope dV kV doc pm an kT ct),Lc⟩) (HX:EL K kT qual=true) (S:lF N ps scope)
  (len:∀ vs H Q E,sp vs H Q E->vs.length=ps.length)
  (QP:∀ (A:cS) (outer:List Env) (s:ax) (H:Hp) (vs:List V) (Q:VK) (E:XK),kO k (A.deeper (xb qual scope s.heap.objs.size f kT))->sp vs H Q E ->
   ∃ t,XI (vM CX P w K mg base N qual scope f kT A outer s H E) body t/\t { nx:=fun _ H'=>Q .eN H',rt:=Q } (start N vs) H) :
  tK P w K mg base CX (k+1) f (kP name qual params body scope dV kV doc pm an kT ct) ps sp:=by
 refine⟨len,fun A outer s H args us vs Q E hr e0 hb r QE=>?_⟩;have hl:=len _ _ _ _ QE;have KX:K.In s.heap:=e0.mod.U6.keeps fun b o e=>(e0.bs b o e).1;have lim:s.heap.NoLimit:=e0.mod.nolimit.keeps fun b o e=>(e0.bs b o e).1;have Ck:∀ y∈ps.zip us,scope.names.lookup y.1=some .local\/(scope.names.lookup y.1=some .cell/\((cellsFrom (s.heap.objs.size+1) scope.names []).lookup y.1).isSome=true):=fun ⟨n,v⟩ hy=>by
  rcases S.par n (HI hy).1 with q | q
  ·exact .inl q
  ·exact .inr ⟨q,Kr _ _ _ (.inl q)⟩
 refine codeAny_call_function hr.depth (KX _ _ lk) rfl S.co S.gen rfl (PySem.W.codeRec_of KX HX) (hb _ _ _ _ ?_);refine wpAny_newFunctionEnv_cells S.kind Ck fun env he s1 x=>?_;subst he;refine⟨lim.keeps x.toInCall.keep,codeAny_func ?_⟩;obtain⟨t,ht,hq⟩:=QP A outer s H vs Q E (hr.deeper _) QE;have I:Inv (vM CX P w K mg base N qual scope f kT A outer s H E) [] (start N vs) H s1:=Nk S hr.hd e0 hl r x;refine oG (ht [] s1 (start N vs) H _ I hq) (fun fl s' hs=>?_) fun e s' hs=>hs;have fin:∀ {jY:St} {H':Hp} {v:V} {u:Value},Inv (vM CX P w K mg base N qual scope f kT A outer s H E) [] jY H' s'->RelV v u->Q v H'->CE outer P w H s Q u s' :=
  fun {jY H' v u} J rv q=>⟨v,H',J.os,J.bare,J.base,J.b7,rv,q⟩
 cases fl with
 | ret u =>
  obtain⟨v,jY,H',J,rv,q⟩:=hs;exact fin J rv q
 | next =>
  obtain⟨jY,H',J,q⟩:=hs;exact fin (v:=V.eN) (u:=gu) J rfl q
 | brk =>
  obtain⟨_,_,_,q⟩:=hs;exact bC q
 | cont =>
  obtain⟨_,_,_,q⟩:=hs;exact bC q
end L2
namespace HT
open PySem PyProof.Rows
def lexLt:List Int->List Int->Bool
 | [],[]=>false
 | [],_ :: _=>true
 | _ :: _,[]=>false
 | x :: xs,y :: ys=>if x=y then lexLt xs ys else decide (x < y)
theorem Jq(x y:Int)(xs ys:List Int):lexLt (x :: xs) (y :: ys)=if x=y then lexLt xs ys else decide (x < y):=rfl
theorem Bn:lexLt [] []=false:=rfl
theorem zX(y:Int)(ys:List Int):lexLt [] (y :: ys)=true:=rfl
theorem zY(x:Int)(xs:List Int):lexLt (x :: xs) []=false:=rfl
theorem Q8(A:cS)(s:ax)(a:Int)(t:Tok)(c:Int)(u:Tok):∃ e,SeqAt.EqAt A s (.int a t) (.int c u) e/\(e=true↔a=c) :=
 ⟨(a == c),SeqAt.EqAt.int_int a t c u,by simp⟩
theorem zr(A:cS)(s:ax)(a:Int)(t:Tok)(c:Int)(u:Tok)(prog:bI)(w:World)(E:Value->ax->Prop)(Q:Value->ax->Prop)(h:Q (.bool (decide (a < c))) s) :
  wpAny (model prog w) A (qX .Lt (.int a t) (.int c u)) Q E s :=
 (PyProof.Rows.lt_int h:wpAny (model prog w) A (dQ .Lt (.int a t) (.int c u)) Q E s)
section
open PySem.SeqAt
open PySem.AutoSeq1 (wpAny_loadPart')
open PySem.MeetsSeq PySem.MeetsSeq2 PySem.MeetsSeq3
theorem Bf(l b:Addr)(items oP:Array Value)(n n2:Nat)(dd ED:Option Addr)(sl E7:Array (Option Value))(ns ms:List Int)(hi:me items.toList ns)(hj:me oP.toList ms) :
  Meets (Builtin.«tuple.__lt__» ⟨[.ref l,.ref b],[]⟩)
   (fun _ R s=>s.heap.get? l=some { cls:=.type "tuple",dict:=dd,data:=.seq items n,slots:=sl }/\s.heap.get? b=some { cls:=.type "tuple",dict:=ED,data:=.seq oP n2,slots:=E7 } /\
    R (.ok (.ret (.bool (lexLt ns ms)))) s) :=
 .of_wp fun prog w A R s h=>by
  obtain⟨hp,g,d,tk,os⟩:=s; obtain⟨hl,hb,h⟩:=h;have f2:=qp;have z1:items.size=ns.length:=by rw [<-hi.length]; simp
  have z2:oP.size=ms.length:=by rw [<-hj.length]; simp
  wp_walk using b8 hl,b8 hb,lT _ (fun rest b s'=>b.1=none/\s'=⟨hp,g,d,tk,os⟩/\∃ (vs ws:List Value) (Xw Xy:List Int),rest=vs.zip ws /\
   me vs Xw/\me ws Xy/\Xw.length+oP.size=Xy.length+items.size/\R (.ok (.ret (.bool (lexLt Xw Xy)))) ⟨hp,g,d,tk,os⟩) _
  case turn =>
   rintro⟨y,x⟩ rest b s' ⟨Bo,rfl,vs,ws,Xw,Xy,hz,hvi,Z6,hlen,hR⟩;cases hvi with
   | nil=>rw [List.zip_nil_left] at hz; cases hz
   | cons a t aby =>
    cases Z6 with
    | nil=>rw [List.zip_nil_right] at hz; cases hz
    | cons c u abw =>
     rw [qG] at hz;injection hz with hyx QH
     injection hyx with hy hx
     subst hy hx;rw [Jq] at hR;simp only [ak] at hlen;obtain⟨e,he,Y5⟩:=Q8 A.in1 ⟨hp,g,d,tk,os⟩ a t c u;refine ag (he prog w _ _ ?_);cases e with
     | true =>
      rw [if_pos (Y5.mp rfl)] at hR
      wp_walk
      exact⟨rfl,rfl,_,_,_,_,QH,aby,abw,by lia,hR⟩
     | false =>
      rw [if_neg (fun q=>absurd (Y5.mpr q) fY)] at hR;have YW:=zr A.in1 ⟨hp,g,d,tk,os⟩ a t c u prog w
      wp_walk using YW
      exact⟨_,rfl,by simpa using hR⟩
  case fin =>
   rintro⟨b1,b2⟩ s' ⟨Bo,rfl,vs,ws,Xw,Xy,hz,hvi,Z6,hlen,hR⟩;simp only at Bo;subst Bo;have hv:lexLt Xw Xy=decide (items.size < oP.size):=by
    cases hvi with
    | nil =>
     cases Z6 with
     | nil =>
      simp only [aB] at hlen;rw [Bn];exact(decide_eq_false (by lia)).symm
     | cons c u hw =>
      simp only [aB,ak] at hlen;rw [zX];exact(decide_eq_true (by lia)).symm
    | cons a t hv =>
     cases Z6 with
     | nil =>
      simp only [aB,ak] at hlen;rw [zY];exact(decide_eq_false (by lia)).symm
     | cons c u hw =>
      rw [qG] at hz;cases hz
   rw [hv] at hR
   wp_walk
   exact⟨_,rfl,by simpa [uI] using hR⟩
  case h =>
   exact⟨rfl,rfl,items.toList,oP.toList,ns,ms,rfl,hi,hj,by lia,h⟩
end
section
variable {prog:bI} {w:World} {A:cS} {E:Value->ax->Prop} {s:ax}
theorem zS{l b:Addr}{items oP:Array Value}{ns ms:List Int}{Q:Value->ax->Prop}(hl:IsTup s.heap l items)(hb:IsTup s.heap b oP)(hi:me items.toList ns)(hj:me oP.toList ms)
  (hu:A.units < cLine) (h:Q (.bool (lexLt ns ms)) s):wpAny (model prog w) A (dQ .Lt (.ref l) (.ref b)) Q E s:=by
 obtain⟨⟨cls,dd,data,sl⟩,ho,hc,n,hd⟩:=id hl;obtain⟨⟨Rn,ED,data2,E7⟩,Ci,DL,n2,hd2⟩:=id hb;simp only at hc hd DL hd2;subst hc hd DL hd2;exact xN (op:=.Lt) ⟨_,ho,rfl⟩ ⟨_,Ci,rfl⟩ mF sZ (rj _ _) (Bf l b items oP n n2 dd ED sl E7 ns ms hi hj)
  ⟨ho,Ci,show Value.bool (lexLt ns ms)≠Value.notImplemented/\Q (.bool (lexLt ns ms)) s from⟨(fun x=>nomatch x),h⟩⟩ hu
theorem Um{t b:Addr}{vs ws:List Value}{Q:Value->ax->Prop}(ht:IsTup s.heap t vs.toArray)(hb:IsTup s.heap b ws.toArray)(hv:vs≠[])
  (h1:ws=[]->Q (.ref t) s) (h2:ws≠[]->Q (.ref s.heap.objs.size) { s with heap:=s.heap.push { cls:=.type "tuple",data:=.seq (vs++ws).toArray } })
  (hsz:vs.length+ws.length<=aX):wpAny (model prog w) A (iE .Add (.ref t) (.ref b)) Q E s:=by
 obtain⟨⟨cls,dd,data,sl⟩,ho,hc,n,hd⟩:=id ht;obtain⟨⟨Rn,ED,data2,E7⟩,Ci,DL,n2,hd2⟩:=id hb;simp only at hc hd DL hd2;subst hc hd DL hd2;have e:vs.toArray++ws.toArray=(vs++ws).toArray:=by simp
 by_cases hw:ws=[]
 ·exact concat_meets ⟨_,ho,rfl⟩ ⟨_,Ci,rfl⟩ noFill_tuple_add seq_tuple_add Ks Ip (HH _ _)
   (tuple_addW1 t b vs.toArray ws.toArray n n2 dd ED sl E7 (by simpa using hv) (by simp [hw])) ⟨ho,Ci,h1 hw⟩
 ·refine concat_meets ⟨_,ho,rfl⟩ ⟨_,Ci,rfl⟩ noFill_tuple_add seq_tuple_add Ks Ip (HH _ _)
   (tuple_addW2 t b vs.toArray ws.toArray n n2 dd ED sl E7 (by simpa using hv) (by simpa using hw) (by rw [aR,aR]; exact hsz)) ⟨ho,Ci,?_⟩
  rw [e];exact h2 hw
def jR(n d:Nat):Option Int->Nat
 | none=>d
 | some v=>if v < 0 then (v+(n:Int)).toNat else min v.toNat n
theorem V3(n d:Nat)(hd:d<=n)(o:Option Int):jR n d o<=n:=by
 cases o with
 | none=>exact hd
 | some v =>
  show (if v < 0 then (v+(n:Int)).toNat else min v.toNat n)<=n;by_cases hv:v < 0
  ·rw [if_pos hv]; lia
  ·rw [if_neg hv]; exact Nat.min_le_right _ _
theorem LX(v:Int)(n d:Nat):(if v < 0 then max (v+(n:Int)) 0 else min v (n:Int))=((jR n d (some v):Nat):Int):=by
 show (if v < 0 then max (v+(n:Int)) 0 else min v (n:Int))=(((if v < 0 then (v+(n:Int)).toNat else min v.toNat n):Nat):Int);by_cases hv:v < 0
 ·simp only [if_pos hv]; lia
 ·simp only [if_neg hv]; lia
theorem J9(lo hi:Option Int)(n:Nat):nV lo hi 1 (n:Int)=(((jR n 0 lo:Nat):Int),((jR n n hi:Nat):Int)):=by
 have h1:¬ ((1:Int) < 0):=by lia
 unfold nV;simp only [h1,if_false];refine Prod.ext ?_ ?_
 ·cases lo with
  | none=>rfl
  | some v=>exact LX v n 0
 ·cases hi with
  | none=>rfl
  | some v=>exact LX v n n
theorem IU(i j:Nat):jw (i:Int) (j:Int) 1=j - i:=by
 unfold jw;have h1:(1:Int) > 0:=by lia
 simp only [h1,if_true,Int.ediv_one];split <;> lia
theorem zb{v:Value}{o:Option Int}{Q:Option Int->ax->Prop}(p:IsPart v o)(h:Q o s):wpAny (model prog w) A (Builtin.Slice.slicePartIndex v) Q E s:=by
 cases p with
 | none=>exact slicePart_none h
 | int i t=>exact slicePart_int h
theorem wm{sl:Addr}{vl vu:Value}{lo hi:Option Int}{n:Nat}{Q:Int×Int×Nat->ax->Prop}(hs:s.heap.IsSliceOf sl vl vu .none)(pl:IsPart vl lo)(pu:IsPart vu hi)
  (h:Q (((jR n 0 lo:Nat):Int),1,jR n n hi - jR n 0 lo) s):wpAny (model prog w) A (yc (.ref sl) (pure (n:Int))) Q E s:=by
 obtain⟨os,YZ,Ze,hds⟩:=id hs;unfold yc Builtin.Slice.sliceFields;refine ag (ag (qV YZ hds (x:=vl) rfl (ag (qV YZ hds (x:=vu) rfl (ag (qV YZ hds (x:=.none) rfl (ay ?_)))))));refine ag (slicePart_none ?_);show wpAny _ _ (if ((1:Int) == 0)=true then _ else _) _ _ s;rw [if_neg (by decide)];refine ag (zb pl (ag (zb pu (ag (ay ?_)))));show wpAny _ _ (match nV lo hi 1 (n:Int) with | (lo,hi)=>pure (lo,(1:Int),jw lo hi 1)) _ _ s;rw [J9 lo hi n];show wpAny _ _ (pure (((jR n 0 lo:Nat):Int),(1:Int),jw ((jR n 0 lo:Nat):Int) ((jR n n hi:Nat):Int) 1)) _ _ s;rw [IU];exact ay h
theorem PG(xs:Array Value)(i k:Nat):((fc k).filterMap fun (m:Nat)=>xs[((i:Int)+(m:Int) * 1).toNat]?).toArray=((xs.toList.drop i).take k).toArray:=by
 have e:(fun (m:Nat)=>xs[((i:Int)+(m:Int) * 1).toNat]?)=fun m=>xs[i+m]?:=by
  funext m;have:((i:Int)+(m:Int) * 1).toNat=i+m:=by lia
  rw [this]
 rw [e];have:=pick_run xs i k;rw [List.filterMap_map] at this;have e2:((fun x=>xs[x]?)∘fun x=>i+x)=fun m=>xs[i+m]?:=rfl;rw [e2] at this;rw [this]
theorem vD{t sl:Addr}{items:Array Value}{vl vu:Value}{lo hi:Option Int}{Q:Value->ax->Prop}(ht:IsTup s.heap t items)(hs:s.heap.IsSliceOf sl vl vu .none)(pl:IsPart vl lo)(pu:IsPart vu hi)
  (hw:¬ (jR items.size 0 lo=0/\jR items.size items.size hi=items.size))
  (h:Q (.ref s.heap.objs.size) { s with heap:=s.heap.push { cls:=.type "tuple",data:=.seq ((items.toList.drop (jR items.size 0 lo)).take (jR items.size items.size hi - jR items.size 0 lo)).toArray } })
  (hsz:items.size<=aX):wpAny (model prog w) A (getItem (.ref t) (.ref sl)) Q E s:=by
 have Lv:sizeOk (.seq ((items.toList.drop (jR items.size 0 lo)).take (jR items.size items.size hi - jR items.size 0 lo)).toArray):=by
  show ((items.toList.drop (jR items.size 0 lo)).take (jR items.size items.size hi - jR items.size 0 lo)).toArray.size<=aX;rw [aR];exact bz (bz (List.length_take_le' _ _) (by rw [cB,eU]; exact Nat.sub_le _ _)) hsz
 have hj:jR items.size items.size hi<=items.size:=V3 _ _ (aC _) hi;obtain⟨os,YZ,Ze,hds⟩:=id hs;have hTs:s.TypeIs (.ref sl) "slice":=⟨os,YZ,Ze⟩;unfold getItem
 try with_reducible refine cN ?_
 first | refine ag (ay ?_) | skip
 refine ag (wpAny_sequenceKey ht.typeIs (by decide) ?_);refine ag (jr (name:=qN "__getitem__") ht.typeIs vX
  (da vX ht.typeIs entry_tuple_getitem ?_ (args_tuple_getitem _ _)))
 show wpAny _ _ (yb (.ref t) >>= _) _ _ s;refine ag (tupleItemsOf_ ht ?_);refine ag (wpAny_typeOf hTs ?_);rw [if_pos (by decide)];refine ag (wm hs pl pu ?_);have WM:¬ ((((jR items.size 0 lo:Nat):Int) == 0&&(1:Int) == 1&&(jR items.size items.size hi - jR items.size 0 lo) == items.size)=true):=by
  intro q;rw [aI,aI] at q;have q1:((jR items.size 0 lo:Nat):Int)=0:=eq_of_beq q.1.1;have q2:jR items.size items.size hi - jR items.size 0 lo=items.size:=eq_of_beq q.2;exact hw ⟨by lia,by lia⟩
 show wpAny _ _ (if (((jR items.size 0 lo:Nat):Int) == 0&&(1:Int) == 1&&(jR items.size items.size hi - jR items.size 0 lo) == items.size)=true then _ else _) _ _ s;rw [if_neg WM,PG]
 first
  | exact ag (m:=jP _) (dc (ay ⟨_,rfl,ay h⟩) Lv)
  | exact ag (m:=jP _) (dc (ag (ay (ay ⟨_,rfl,ay h⟩))) Lv)
  | exact ag (ag (m:=jP _) (dc (ay (ay ⟨_,rfl,ay h⟩)) Lv))
  | exact ag (ag (m:=jP _) (dc (ay ⟨_,rfl,ay h⟩) Lv))
end
end HT
namespace L2
open PySem PySem.Spec PyProof.Rows
abbrev TO:=St->Hp->(Option Int->Hp->Prop)->Prop
theorem intsAre_of{ns:List Int}:∀ {us:List Value},Vals (ns.map V.int) us->me us ns:=by
 induction ns with
 | nil=>intro us r; rw [a8] at r; cases r; exact .nil
 | cons n ns ih =>
  intro us r;rw [aq] at r;cases r with
  | cons r1 r2 =>
   obtain⟨t,e⟩:=r1;subst e;exact .cons n t (ih r2)
section
variable {X:Cx} {e:Expr} {te:TE} {lo hi:Option Expr} {tl th:TO} {pos p2:Pos}
def SlR(X:Cx)(r:V->Option Int->Option Int->Hp->VK->Prop):Prop :=
 ∀ (pins:List (Addr×Obj)) (s:ax) (σ:St) (H:Hp) (x:V) (v vl vu:Value) (lo hi:Option Int) (sl:Addr) (Q:VK),Inv X pins σ H s->RelV x v->s.heap.IsSliceOf sl vl vu .none->IsPart vl lo->IsPart vu hi->r x lo hi H Q ->
  ∃ T id,typeLookup (.type T) "__getitem__" = pure (some (.builtin id))/\s.TypeIs v T/\wpAny (model X.prog X.w) X.A (getItem v (.ref sl)) (EP X pins σ Q) X.xe s
def Hf(xs:List V)(lo hi:Option Int):List V:=(xs.drop (HT.jR xs.length 0 lo)).take (HT.jR xs.length xs.length hi - HT.jR xs.length 0 lo)
theorem xH(xs:List V)(lo hi:Option Int):(Hf xs lo hi).length<=xs.length:=by
 unfold Hf;rw [dW,cB];lia
def aaK(K:ai):V->Option Int->Option Int->Hp->VK->Prop:=fun x lo hi H Q=>∃ a xs,x=.ref a/\yH K H a xs /\
 ¬ (HT.jR xs.length 0 lo=0/\HT.jR xs.length xs.length hi=xs.length)/\∀ p,H p=none->Q (.ref p) (upd H p (.tup (Hf xs lo hi)))
theorem V1:SlR X (aaK X.K):=by
 intro pins s σ H x v vl vu lo hi sl Q I rx hs pl pu h;obtain⟨a,xs,rfl,hx,hw,q⟩:=h;cases rx;obtain⟨bH,r,ht,hz⟩:=I.tuple hx;have hlen:bH.toArray.size=xs.length:=by rw [aR]; exact r.length.symm
 refine⟨"tuple",_,PyProof.Rows.slot_tuple_getitem.lookup,ht.typeIs,?_⟩;refine HT.vD ht hs pl pu (by rw [hlen]; exact hw) ?_ (by rw [hlen]; exact hz);rw [hlen];refine⟨.ref s.heap.objs.size,_,I.laid (t':=s.toks) (o:=.tup (Hf xs lo hi)) (fun b ob q=>aA _ q) (aC _) ?_,rfl,q _ (I.b7.fresh (aC _))⟩;exact⟨bz (xH xs lo hi) hz,_,(r.drop (HT.jR xs.length 0 lo)).take (HT.jR xs.length xs.length hi - HT.jR xs.length 0 lo),IsTup.new _ _⟩
def aaM(K:ai):R2:=fun x y H Q=>∃ a b ns ms,x=.ref a/\y=.ref b/\yH K H a (ns.map V.int)/\yH K H b (ms.map V.int)/\Q (.bl (HT.lexLt ns ms)) H
theorem Wn(hu:X.A.units < cLine):Ke X (dQ .Lt) (aaM X.K):=by
 intro pins s σ H x y v u Q I rx ry h;obtain⟨a,b,ns,ms,rfl,rfl,ha,hb,q⟩:=h;cases rx;cases ry;obtain⟨bH,r1,p1,_⟩:=I.tuple ha;obtain⟨tx,r2,p2,_⟩:=I.tuple hb;have i1:me bH.toArray.toList ns:=intsAre_of r1;have i2:me tx.toArray.toList ms:=intsAre_of r2;exact HT.zS p1 p2 i1 i2 hu ⟨.bl (HT.lexLt ns ms),H,I,rfl,q⟩
def Yj(K:ai):R2:=fun x y H Q=>∃ a b xs ys,x=.ref a/\y=.ref b/\yH K H a xs/\yH K H b ys/\xs≠[]/\xs.length+ys.length<=aX /\
 (ys=[]->Q (.ref a) H)/\(ys≠[]->∀ p,H p=none->Q (.ref p) (upd H p (.tup (xs++ys))))
theorem Vals.Dx{xs:List V}{us:List Value}(r:Vals xs us):us=[]↔xs=[]:=by
 cases r with
 | nil=>simp
 | cons _ _=>simp
theorem Tt:Ke X (iE .Add) (Yj X.K):=by
 intro pins s σ H x y v u Q I rx ry h;obtain⟨a,b,xs,ys,rfl,rfl,ha,hb,hx,hz,q1,q2⟩:=h;cases rx;cases ry;obtain⟨bH,r1,p1,_⟩:=I.tuple ha;obtain⟨tx,r2,p2,_⟩:=I.tuple hb;refine HT.Um p1 p2 (fun z=>hx (r1.Dx.mp z)) (fun z=>⟨.ref a,H,I,rfl,q1 (r2.Dx.mp z)⟩) (fun z=>?_) (by rw [<-r1.length,<-r2.length]; exact hz);refine⟨.ref s.heap.objs.size,_,I.laid (t':=s.toks) (o:=.tup (xs++ys)) (fun b ob q=>aA _ q) (aC _) ?_,rfl,q2 (fun w=>z (r2.Dx.mpr w)) _ (I.b7.fresh (aC _))⟩;exact⟨by rw [aG]; exact hz,_,r1.append r2,IsTup.new _ _⟩
end
def HU(n:Nat)(i:Int):Option Nat:=if 0<=i then (if i < n then some i.toNat else none) else if -(n:Int)<=i then some (i+n).toNat else none
def r8{α:Type}(xs:List α)(i:Int):Option α:=(HU xs.length i).bind fun j=>xs[j]?
theorem Lq{n:Nat}{i:Int}{j:Nat}(h:HU n i=some j):seqIndex? i n=some j/\j < n/\-(n:Int)<=i/\i < n:=by
 unfold HU at h;by_cases h0:0<=i
 ·rw [if_pos h0] at h;by_cases h1:i < n
  ·rw [if_pos h1] at h;have e:i.toNat=j:=ba h;exact⟨by rw [seqIndex_of h0 h1,e],by lia,by lia,h1⟩
  ·rw [if_neg h1] at h; cases h
 ·rw [if_neg h0] at h;by_cases h1:-(n:Int)<=i
  ·rw [if_pos h1] at h;have e:(i+n).toNat=j:=ba h;exact⟨by rw [seqIndex_neg (by lia) h1,e],by lia,h1,by lia⟩
  ·rw [if_neg h1] at h; cases h
theorem L8{α:Type}{xs:List α}{i:Int}{v:α}(h:r8 xs i=some v):∃ j,seqIndex? i xs.length=some j/\xs[j]?=some v/\j < xs.length/\-(xs.length:Int)<=i/\i < xs.length:=by
 unfold r8 at h;cases e:HU xs.length i with
 | none=>rw [e] at h; cases h
 | some j =>
  rw [e] at h;obtain⟨h1,h2,h3,h4⟩:=Lq e;exact⟨j,h1,h,h2,h3,h4⟩
def Uz(b:Expr):Prop:=∀ o i,subscripted b false o i=operate [o,i] (getItem o i)
def IxR(X:Cx)(r:R2):Prop :=
 ∀ (value slice:Expr) (pins:List (Addr×Obj)) (s:ax) (σ:St) (H:Hp) (x y:V) (v u:Value) (Q:VK),Inv X pins σ H s->RelV x v->RelV y u->r x y H Q ->
  subscripted slice false v u=operate [v,u] (getItem v u)->wpAny (model X.prog X.w) X.A (subscriptTail value slice v u) (EP X pins σ Q) X.xe s
def MtR(X:Cx)(id:String)(r:V->List V->Hp->VK->Prop):Prop :=
 ∀ (pins:List (Addr×Obj)) (s:ax) (σ:St) (H:Hp) (x:V) (xs:List V) (v:Value) (us:List Value) (Q:VK),Inv X pins σ H s->RelV x v->Vals xs us->r x xs H Q ->
  wpAny (model X.prog X.w) X.A (call (.builtin id) (v :: us)) (EP X pins σ Q) X.xe s
section
variable {X:Cx} {a b:Expr} {ta tb:TE} {pos:Pos}
def aaO(K:ai):R2:=fun x y H Q=>∃ p xs i v,x=.ref p/\y=.int i/\pF K H p xs/\r8 xs i=some v/\Q v H
def aaN(K:ai):R2:=fun x y H Q=>∃ p xs i v,x=.ref p/\y=.int i/\yH K H p xs/\r8 xs i=some v/\Q v H
theorem Lp:IxR X (aaO X.K):=by
 intro value slice pins s σ H x y v u Q I rx ry h hs;obtain⟨p,xs,i,z,rfl,rfl,hq,he,q⟩:=h;cases rx;obtain⟨t,rfl⟩:=ry;obtain⟨bH,r,pl,hz⟩:=I.list hq;obtain⟨j,h1,h2,h3,h4,h5⟩:=L8 he;obtain⟨w,ew,pP⟩:=r.get h2;have hl:=r.length;have hn:=zW;have fin:EP X pins σ Q w s:=⟨z,H,I,pP,q⟩;by_cases h0:0<=i
 ·have hj:i.toNat=j:=by
   rw [seqIndex_of h0 h5] at h1;exact ba h1
  exact item_listR pl.isList h0 (by lia) (by rw [hj]; simpa using ew) fin hs
 ·have hj:(i+(bH.toArray.size:Int)).toNat=j:=by
   rw [seqIndex_neg (by lia) h4] at h1;rw [aR,<-hl];exact ba h1
  exact subscriptTail_builtinR (x:=w) pl.isList.typeIs slot_list_getitem.lookup
   (wpAny_getItem_list_neg (Q:=fun r s'=>r=w/\EP X pins σ Q r s') pl.isList (by lia) (by rw [aR] <;> lia) (by lia) (by rw [hj]; simpa using ew) ⟨rfl,fin⟩) hs
theorem WG:IxR X (aaN X.K):=by
 intro value slice pins s σ H x y v u Q I rx ry h hs;obtain⟨p,xs,i,z,rfl,rfl,hq,he,q⟩:=h;cases rx;obtain⟨t,rfl⟩:=ry;obtain⟨bH,r,pl,hz⟩:=I.tuple hq;obtain⟨j,h1,h2,h3,h4,h5⟩:=L8 he;obtain⟨w,ew,pP⟩:=r.get h2;have hl:=r.length;have hn:=zW;have fin:EP X pins σ Q w s:=⟨z,H,I,pP,q⟩;exact subscriptTail_builtinR (x:=w) pl.typeIs slot_tuple_getitem.lookup
  (getItem_tuple (j:=j) (Q:=fun r s'=>r=w/\EP X pins σ Q r s') pl (by lia) (by lia) (by rw [aR,<-hl]; exact h1) (by simpa using ew) ⟨rfl,fin⟩) hs
theorem Jl (bH:List Value) (n j:Nat) (u:Value):fZ (·.setIfInBounds j u) { cls:=.type "list",data:=.seq bH.toArray n } = { cls:=.type "list",data:=.seq (bH.set j u).toArray n }:=by
 simp [fZ]
theorem Inv.lst{pins:List (Addr×Obj)}{σ:St}{H:Hp}{s:ax}{p:Addr}{xs:List V}(I:Inv X pins σ H s)(h:H p=some (.lst xs)) :
  ∃ (bH:List Value) (n:Nat),Vals xs bH/\s.heap.get? p=some { cls:=.type "list",data:=.seq bH.toArray n }/\xs.length<=aX:=by
 obtain⟨z,bH,n,r,e⟩:=I.b7 p _ h;exact⟨bH,n,r,e,z⟩
theorem Inv.Wx{pins:List (Addr×Obj)}{σ:St}{H:Hp}{s:ax}{p:Addr}{xs ys:List V}{bH its':List Value}{n n':Nat}{f:Obj->Obj}(I:Inv X pins σ H s)(h:H p=some (.lst xs))
  (ho:s.heap.get? p=some { cls:=.type "list",data:=.seq bH.toArray n }) (hf:f { cls:=.type "list",data:=.seq bH.toArray n } = { cls:=.type "list",data:=.seq its'.toArray n' }) (r:Vals ys its') (hz:ys.length<=aX) (t:Nat) :
  Inv X pins σ (upd H p (.lst ys)) { s with heap:=s.heap.update p f,toks:=t }:=by
 have e:(s.heap.update p f).get? p=some { cls:=.type "list",data:=.seq its'.toArray n' }:=by
  rw [hX f ho (by rw [hf] <;> rfl),hf]
 refine I.write (x:=p) (e:=p) (by rw [h]; trivial) (.inl rfl) (fun b u hb q=>(cR _ _ (eD hb)).trans q) ⟨_,e⟩ ?_;exact⟨hz,its',n',r,e⟩
def Yh:V->V->V->Hp->(Hp->Prop)->Prop:=fun o i v H Q=>∃ p xs k j,o=.ref p/\i=.int k/\H p=some (.lst xs)/\HU xs.length k=some j/\Q (upd H p (.lst (xs.set j v)))
theorem set_list:acH X Yh:=by
 intro pins s σ H o i v ov iv u Q I ro ri rv h;obtain⟨p,xs,k,j,rfl,rfl,hp,hj,q⟩:=h;cases ro;obtain⟨t,rfl⟩:=ri;obtain⟨bH,n,r,ho,hz⟩:=I.lst hp;obtain⟨h1,h2,h3,h4⟩:=Lq hj;have hl:=r.length;have hn:=zW;have I':Inv X pins σ (upd H p (.lst (xs.set j v))) { s with heap:=s.heap.update p (fZ (·.setIfInBounds j u)) } :=
  I.Wx hp ho (Jl bH n j u) (r.set rv j) (by rw [bY]; exact hz) s.toks
 by_cases h0:0<=k
 ·have hk:k.toNat=j:=by
   rw [seqIndex_of h0 h4] at h1;exact ba h1
  exact PySem.W.ki_setAt ho h0 (by lia) (by rw [aR,<-hl]; exact h4) (by rw [hk]; exact⟨_,I',q⟩)
 ·have hk:(k+(bH.toArray.size:Int)).toNat=j:=by
   rw [seqIndex_neg (by lia) h3] at h1;rw [aR,<-hl];exact ba h1
  exact PySem.W.ki_setBack ho (by lia) (by rw [aR,<-hl]; exact h3) (by lia) (by rw [hk]; exact⟨_,I',q⟩)
theorem C8(lo hi:Option Int)(n:Nat):(qW lo hi none n).1=((HT.jR n 0 lo:Nat):Int)/\(qW lo hi none n).2.1=((HT.jR n n hi:Nat):Int)/\(qW lo hi none n).2.2=1:=by
 refine⟨?_,?_,rfl⟩
 ·cases lo with
  | none=>simp [qW,HT.jR]
  | some i =>
   simp only [qW,HT.jR,BI,show (1:Int) > 0 by decide,if_true];by_cases h:i < 0
   ·simp only [h,if_true] <;> lia
   ·simp only [h,if_false] <;> lia
 ·cases hi with
  | none=>simp [qW,HT.jR]
  | some i =>
   simp only [qW,HT.jR,BI,show (1:Int) > 0 by decide,if_true];by_cases h:i < 0
   ·simp only [h,if_true] <;> lia
   ·simp only [h,if_false] <;> lia
theorem Bj(bH:List Value)(lo hi:Option Int):slicePick bH.toArray lo hi none=((bH.drop (HT.jR bH.length 0 lo)).take (HT.jR bH.length bH.length hi - HT.jR bH.length 0 lo)).toArray:=by
 obtain⟨h1,h2,h3⟩:=C8 lo hi bH.toArray.size;unfold slicePick;rw [h1,h2,h3];simp only [sliceRange_one,pick_run,aR] <;> rfl
def aaL(K:ai):V->Option Int->Option Int->Hp->VK->Prop:=fun x lo hi H Q=>∃ a xs,x=.ref a/\pF K H a xs/\∀ p,H p=none->Q (.ref p) (upd H p (.lst (Hf xs lo hi)))
theorem KJ:SlR X (aaL X.K):=by
 intro pins s σ H x v vl vu lo hi sl Q I rx hs pl pu h;obtain⟨a,xs,rfl,hx,q⟩:=h;cases rx;obtain⟨bH,r,ht,hz⟩:=I.list hx;have hlen:=r.length;refine⟨"list",_,slot_list_getitem.lookup,ht.isList.typeIs,?_⟩;refine wpAny_getItem_list_slice ht.isList hs pl pu .none (by simp) ?_ (by rw [aR] <;> lia);rw [Bj,<-hlen];refine⟨.ref s.heap.objs.size,_,I.laid (t':=s.toks) (o:=.lst (Hf xs lo hi)) (fun b ob q=>aA _ q) (aC _) ?_,rfl,q _ (I.b7.fresh (aC _))⟩;exact⟨bz (xH xs lo hi) hz,_,0,(r.drop (HT.jR xs.length 0 lo)).take (HT.jR xs.length xs.length hi - HT.jR xs.length 0 lo),a9 _ rfl⟩
theorem D7:RW X (.type "list") (fun xs H Q=>∃ p ys,xs=[.ref p]/\(pF X.K H p ys\/yH X.K H p ys)/\∀ l,H l=none->Q (.ref l) (upd H l (.lst ys))):=by
 intro pins s σ H xs us Q I r h;obtain⟨p,ys,rfl,hq,q⟩:=h;obtain⟨u,rfl,rx⟩:=vals1 r;cases rx;have fin:∀ (bH:List Value),Vals ys bH->ys.length<=aX->∀ (h':Heap) (c':Nat),(∀ b o',s.heap.get? b=some o'->h'.get? b=some o') ->
   h'.get? s.heap.objs.size=some { cls:=.type "list",dict:=none,data:=.seq bH.toArray c',slots:=#[] }->EP X pins σ Q (.ref s.heap.objs.size) { s with heap:=h' }:=fun bH r' hz h' c' kp e =>
  ⟨.ref s.heap.objs.size,_,I.laid (t':=s.toks) kp (aC _) (show fk X.prog X.w _ h' _ (.lst ys) from⟨hz,bH,c',r',e⟩),rfl,q _ (I.b7.fresh (aC _))⟩
 rcases hq with hq | hq
 ·obtain⟨bH,r',pl,hz⟩:=I.list hq;have hlen:=r'.length;obtain⟨o,ho,hc,n,hd⟩:=pl.isList;exact call_list_seq p (.inl rfl) ho hc hd (fun h' c' kp e=>fin bH r' hz h' c' kp e) (by simp only [aR] <;> lia)
 ·obtain⟨bH,r',pl,hz⟩:=I.tuple hq;have hlen:=r'.length;obtain⟨o,ho,hc,n,hd⟩:=pl;exact call_list_seq p (.inr rfl) ho hc hd (fun h' c' kp e=>fin bH r' hz h' c' kp e) (by simp only [aR] <;> lia)
theorem Bx:RW X (.type "tuple") (fun xs H Q=>∃ p ys,xs=[.ref p]/\((pF X.K H p ys/\∀ l,H l=none->Q (.ref l) (upd H l (.tup ys)))\/(yH X.K H p ys/\Q (.ref p) H))):=by
 intro pins s σ H xs us Q I r h;obtain⟨p,ys,rfl,h⟩:=h;obtain⟨u,rfl,rx⟩:=vals1 r;cases rx;rcases h with ⟨hq,q⟩ | ⟨hq,q⟩
 ·obtain⟨bH,r',pl,hz⟩:=I.list hq;have hlen:=r'.length;refine call_tuple_list pl.isList (fun h' kp=>?_) (by simp only [aR] <;> lia);have I1:Inv X pins σ H { s with heap:=h' }:=I.kept (t':=s.toks) kp;have I2:Inv X pins σ (upd H h'.objs.size (.tup ys)) { s with heap:=h'.push { cls:=.type "tuple",data:=.seq bH.toArray } } :=
   I1.laid (t':=s.toks) (fun b o e=>aA _ e) (aC _) (show fk X.prog X.w _ _ _ (.tup ys) from⟨hz,bH,r',IsTup.new _ _⟩)
  exact⟨.ref h'.objs.size,_,I2,rfl,q _ (I1.b7.fresh (aC _))⟩
 ·obtain⟨bH,r',pl,hz⟩:=I.tuple hq;exact call_tuple_same pl ⟨.ref p,H,I,rfl,q⟩
def tyV(K:ai)(T:String)(x:V)(H:Hp):Prop:=match x with
 | .str _=>T = "str"
 | .int _=>T = "int"
 | .ref p=>(T = "list"/\∃ xs,pF K H p xs)\/(T = "tuple"/\∃ o,K.lookup p=some o/\o.cls=.type "tuple"/\o.dict=none) \/
   (T = "dict"/\((∃ kvs,H p=some (.dK kvs))\/∃ kvs,H p=some (.dT kvs)))\/(T = "set"/\∃ S n,H p=some (.set S n))
 | _=>False
theorem C1{pins:List (Addr×Obj)}{σ:St}{H:Hp}{s:ax}{T:String}{x:V}{v:Value}(I:Inv X pins σ H s)(r:RelV x v)(ty:tyV X.K T x H) :
  s.TypeIs v T/\∀ a,v=.ref a->∃ ob,s.heap.get? a=some ob/\ob.dict=none:=by
 cases x with
 | str z =>
  obtain⟨t,rfl⟩:=r;cases (show T = "str" from ty);exact⟨typeIs_str s z t,fun _ e=>nomatch e⟩
 | int i =>
  obtain⟨t,rfl⟩:=r;cases (show T = "int" from ty);exact⟨typeIs_int s i t,fun _ e=>nomatch e⟩
 | ref p =>
  cases r;rcases ty with ⟨rfl,xs,hq⟩ | ⟨rfl,o,hk,hc,hd⟩ | ⟨rfl,hk⟩ | ⟨rfl,S,n,hk⟩
  ·obtain⟨bH,_,pl,_⟩:=I.list hq;refine⟨pl.isList.typeIs,fun a e=>?_⟩;cases e;obtain⟨o,n,e,c,hd,_⟩:=pl;exact⟨o,e,hd⟩
  ·refine⟨⟨o,I.z8 p o hk,hc⟩,fun a e=>?_⟩;cases e;exact⟨o,I.z8 _ o hk,hd⟩
  ·have z:∃ o,s.heap.get? p=some o/\o.ExactDict:=by
    rcases hk with ⟨kvs,hk⟩ | ⟨kvs,hk⟩
    ·obtain⟨_,_,_,_,o,_,_,e,ex,_⟩:=I.b7 p _ hk;exact⟨o,e,ex⟩
    ·obtain⟨_,_,_,_,o,_,_,e,ex,_⟩:=I.b7 p _ hk;exact⟨o,e,ex⟩
   obtain⟨o,e,ex⟩:=z;refine⟨⟨o,e,ex.1⟩,fun a e2=>?_⟩;cases e2;exact⟨o,e,ex.2.1⟩
  ·obtain⟨o,_,_,_,e,ex,_⟩:=I.b7 p _ hk;refine⟨⟨o,e,ex.1⟩,fun a e2=>?_⟩;cases e2;exact⟨o,e,ex.2.1⟩
 | _=>exact bC ty
variable {o e:Expr} {es:List Expr} {to:TE} {t:TA} {name:Str} {apos lN:Pos} {T id:String} {r:V->List V->Hp->VK->Prop}
/- xs.append(e),list.index on a YD tuple .. are MtR facts of 06m -/
end
def MtM(X:Cx)(id:String)(r:V->List V->Hp->VK->Prop):Prop :=
 ∀ (pins:List (Addr×Obj)) (s:ax) (σ:St) (H:Hp) (x:V) (xs:List V) (v:Value) (us:List Value) (Q:VK),Inv X pins σ H s->RelV x v->Vals xs us->r x xs H Q ->
  wpAny (model X.prog X.w) X.A (call (.builtin id) (v :: us)) (EP X pins σ Q) X.xe s
theorem Vals.one:∀ {x:V} {us:List Value},Vals [x] us->∃ u,us=[u]/\RelV x u:=by
 intro x us h;cases h with
 | cons r t=>cases t; exact⟨_,rfl,r⟩
section
variable {X:Cx} {pins:List (Addr×Obj)} {σ:St} {H:Hp} {s:ax} {l b:Addr} {xs ys zs:List V}
theorem Inv.YH{bH its':List Value}{n:Nat}{f:Array Value->Array Value}{t':Nat}(I:Inv X pins σ H s)(hH:H l=some (.lst xs))
  (e:s.heap.get? l=some { cls:=.type "list",data:=.seq bH.toArray n }) (hf:f bH.toArray=its'.toArray) (hv:Vals ys its') (hz:ys.length<=aX) :
  Inv X pins σ (upd H l (.lst ys)) { s with heap:=s.heap.update l (fZ f),toks:=t' }:=by
 have q:=PySem.IsL.update e f;rw [hf] at q;refine I.write (x:=l) (e:=l) (by rw [hH]; exact trivial) (.inl rfl) (fun b' u hb hu=>(cR s.heap (fZ f) (eD hb)).trans hu) ⟨_,q⟩ ?_;exact⟨hz,its',_,hv,q⟩
theorem Inv.abb{bH:List Value}{t':Nat}(I:Inv X pins σ H s)(hv:Vals ys bH)(hz:ys.length<=aX) :
  Inv X pins σ (upd H s.heap.objs.size (.lst ys)) { s with heap:=s.heap.push { cls:=.type "list",data:=.seq bH.toArray },toks:=t' } :=
 I.laid (fun _ _ q=>aA _ q) (aC _) ⟨hz,bH,0,hv,a9 _ rfl⟩
theorem Inv.YG (I:Inv X pins σ H s) (hH:H l=some (.lst xs)):xs.length<=aX/\∃ (bH:List Value) (n:Nat),Vals xs bH/\xs.length=bH.length/\s.heap.get? l=some { cls:=.type "list",data:=.seq bH.toArray n }:=by
 obtain⟨z,bH,n,r,e⟩:=I.b7 l _ hH;exact⟨z,bH,n,r,r.length,e⟩
theorem PX{n:Nat}(h:n<=aX):jX n=false:=by
 unfold jX;exact decide_eq_false (by lia)
end
section
variable {X:Cx}
def S7:V->List V->Hp->VK->Prop:=fun x vs H Q=>∃ l xs y,x=.ref l/\vs=[y]/\H l=some (.lst xs)/\xs.length < aX/\Q .eN (upd H l (.lst (xs++[y])))
theorem B4:MtM X "list.append" S7:=by
 intro pins s σ H x vs v us Q I rx rv h;obtain⟨l,xs,y,rfl,rfl,hH,hz,q⟩:=h;cases rx;obtain⟨u,rfl,ru⟩:=rv.one;obtain⟨z,bH,n,r,hl,e⟩:=I.YG hH;refine Ii F.slot_list_append ⟨_,e,rfl⟩ F.entry_list_append (F.args_list_append_2 _ _) (PySem.list_append l bH.toArray n u (by rw [aR]; lia)) ⟨e,?_⟩;refine⟨.eN,_,I.YH (its':=bH++[u]) hH e (by simp) (r.append (.cons ru .nil)) ?_,rfl,q⟩;rw [aG,cg];lia
end
section
variable {κ:Type} [DecidableEq κ]
def mH(kvs:List (κ×V))(k:κ):Option V:=(kvs.find? fun kv=>decide (kv.1=k)).map (·.2)
def putK(kvs:List (κ×V))(k:κ)(v:V):List (κ×V) :=
 if (kvs.any fun kv=>decide (kv.1=k))=true then kvs.map (fun kv=>if kv.1=k then (kv.1,v) else kv) else kvs++[(k,v)]
theorem rn{p:κ×V}{r:List (κ×V)}{k:κ}(e:p.1=k):mH (p :: r) k=some p.2:=by simp [mH,eQ,e]
theorem rq{p:κ×V}{r:List (κ×V)}{k:κ}(e:¬ p.1=k):mH (p :: r) k=mH r k:=by simp [mH,eQ,e]
theorem EY(k:κ):∀ kvs:List (κ×V),(kvs.any fun kv=>decide (kv.1=k))=(mH kvs k).isSome
 | []=>rfl
 | p :: r=>by
  rw [lY];by_cases e:p.1=k
  ·simp only [rn e,decide_eq_true e,Bool.true_or,Option.isSome_some]
  ·rw [rq e,decide_eq_false e,Oh]; exact EY k r
theorem xC(kvs:List (κ×V))(k:κ)(v:V):(putK kvs k v).length<=kvs.length+1:=by
 unfold putK;split
 ·rw [ao]; lia
 ·rw [aG,ak,aB]; lia
theorem w8.pA{o:Option V}{u:Option Value}(r:w8 o u):o.isSome=u.isSome:=by
 cases o with
 | none=>cases u with
  | none=>rfl
  | some _=>exact(show False from r).elim
 | some _=>cases u with
  | none=>exact(show False from r).elim
  | some _=>rfl
theorem w8.getD{o:Option V}{u:Option Value}{d:V}{d':Value}(r:w8 o u)(rd:RelV d d'):RelV (o.getD d) (u.getD d'):=by
 cases o with
 | none=>cases u with
  | none=>exact rd
  | some _=>exact(show False from r).elim
 | some _=>cases u with
  | none=>exact(show False from r).elim
  | some _=>exact r
theorem KV.val{kvs:List (κ×V)}{vs:List (κ×Value)}(r:KV kvs vs)(k:κ):w8 (mH kvs k) (OA vs k):=by
 unfold KV at r;induction r with
 | nil=>exact fX
 | @cons p q ps qs h t ih =>
  obtain⟨h1,h2⟩:=h;by_cases e:p.1=k
  ·have e':q.1=k:=h1.symm.trans e;have b:OA (q :: qs) k=some q.2:=by simp [OA,eQ,e']
   rw [rn e,b]; exact h2
  ·have e':¬ q.1=k:=fun z=>e (h1.trans z);have b:OA (q :: qs) k=OA qs k:=by simp [OA,eQ,e']
   rw [rq e,b]; exact ih
theorem KV.any{kvs:List (κ×V)}{vs:List (κ×Value)}(r:KV kvs vs)(k:κ):(kvs.any fun kv=>decide (kv.1=k))=vs.any fun kv=>decide (kv.1=k):=by
 unfold KV at r;induction r with
 | nil=>rfl
 | cons h t ih=>rw [lY,lY,ih,h.1]
theorem KV.Pd{kvs:List (κ×V)}{vs:List (κ×Value)}(r:KV kvs vs)(k:κ){y:V}{u:Value}(ry:RelV y u) :
  KV (kvs.map fun kv=>if kv.1=k then (kv.1,y) else kv) (vs.map fun kv=>if kv.1=k then (kv.1,u) else kv):=by
 unfold KV at r ⊢;induction r with
 | nil=>exact .nil
 | @cons p q ps qs h t ih =>
  rw [aq,aq];refine .cons ?_ ih;obtain⟨h1,h2⟩:=h;by_cases e:p.1=k
  ·rw [if_pos e,if_pos (h1.symm.trans e)]; exact⟨h1,ry⟩
  ·rw [if_neg e,if_neg (fun z=>e (h1.trans z))]; exact⟨h1,h2⟩
theorem KV.put{kvs:List (κ×V)}{vs:List (κ×Value)}(r:KV kvs vs)(k:κ){y:V}{u:Value}(ry:RelV y u):KV (putK kvs k y) (stored vs k u):=by
 unfold putK stored;rw [r.any k];by_cases e:(vs.any fun kv=>decide (kv.1=k))=true
 ·rw [if_pos e,if_pos e]; exact r.Pd k ry
 ·rw [if_neg e,if_neg e]; exact R0 r ⟨rfl,ry⟩
theorem KV.length{kvs:List (κ×V)}{vs:List (κ×Value)}(r:KV kvs vs):kvs.length=vs.length:=iT r
end
theorem z0{P:bI}{w:World}{k:Key}{u:Value}(r:RelV (kV k) u):(cH P w).is k u=true:=by
 cases k with
 | inl i=>obtain⟨t,e⟩:=(show ∃ t,u=fu i t from r); subst e; exact FT P w i t
 | inr x=>obtain⟨t,e⟩:=(show ∃ t,u=Value.str x t from r); subst e; exact FR P w x t
theorem Ce{P:bI}{w:World}:∀ {ks:List Key} {us:List Value},Vals (ks.map kV) us->ItemsAre (cH P w) ks us
 | [],_,r=>by rw [a8] at r; cases r; exact .nil
 | k :: ks,_,r=>by
  rw [aq] at r;cases r with
  | cons h t=>exact .cons (z0 h) (Ce t)
abbrev KT(H:Hp):List (List Key×V)->List (List Key×Addr×Value)->Prop:=kX fun p q=>p.1=q.1/\H q.2.1=some (.tup (p.1.map kV))/\RelV p.2 q.2.2
theorem KT.val{H:Hp}{kvs:List (List Key×V)}{xs:List (List Key×Addr×Value)}(r:KT H kvs xs)(k:List Key):w8 (mH kvs k) ((atKey xs k).map (·.2)):=by
 induction r with
 | nil=>exact fX
 | @cons p q ps qs h t ih =>
  obtain⟨h1,_,h2⟩:=h;by_cases e:p.1=k
  ·have e':q.1=k:=h1.symm.trans e;have b:atKey (q :: qs) k=some q.2:=by simp [atKey,eQ,e']
   rw [rn e,b]; exact h2
  ·have e':¬ q.1=k:=fun z=>e (h1.trans z);have b:atKey (q :: qs) k=atKey qs k:=by simp [atKey,eQ,e']
   rw [rq e,b]; exact ih
theorem KT.Pd{H:Hp}{kvs:List (List Key×V)}{xs:List (List Key×Addr×Value)}(r:KT H kvs xs)(k:List Key){y:V}{u:Value}(ry:RelV y u) :
  KT H (kvs.map fun kv=>if kv.1=k then (kv.1,y) else kv) (xs.map (putAt k u)):=by
 induction r with
 | nil=>exact .nil
 | @cons p q ps qs h t ih =>
  rw [aq,aq];refine .cons ?_ ih;obtain⟨h1,h2,h3⟩:=h;unfold putAt;by_cases e:p.1=k
  ·rw [if_pos e,if_pos (h1.symm.trans e)]; exact⟨h1,h2,ry⟩
  ·rw [if_neg e,if_neg (fun z=>e (h1.trans z))]; exact⟨h1,h2,h3⟩
theorem KT.put{H:Hp}{kvs:List (List Key×V)}{xs:List (List Key×Addr×Value)}(r:KT H kvs xs)(k:List Key){b:Addr}{y:V}{u:Value}(hb:H b=some (.tup (k.map kV)))(ry:RelV y u) :
  KT H (putK kvs k y) (Ia xs k b u):=by
 have e:(kvs.any fun kv=>decide (kv.1=k))=(atKey xs k).isSome:=by
  rw [EY,(r.val k).pA,A2]
 unfold putK Ia;rw [e];by_cases q:(atKey xs k).isSome=true
 ·rw [if_pos q,if_pos q]; exact r.Pd k ry
 ·rw [if_neg q,if_neg q]; exact R0 r ⟨rfl,hb,ry⟩
theorem KT.keeps{H H':Hp}{kvs:List (List Key×V)}{xs:List (List Key×Addr×Value)}(r:KT H kvs xs)(ht:∀ b ys,H b=some (.tup ys)->H' b=some (.tup ys)):KT H' kvs xs :=
 Paired.TH r fun _ _ z=>⟨z.1,ht _ _ z.2.1,z.2.2⟩
section
variable {P:bI} {w:World} {H:Hp} {h:Heap} {a:Addr}
theorem UQ{u:HO}(ok:oh P w H h)(e:Rd H a u):fk P w H h a u:=e.ok ok
theorem tU{kvs:List (Key×V)}(ok:oh P w H h)(e:Rd H a (.dK kvs)):kvs.length<=aX/\(a == df)=false/\∃ vs,KV kvs vs/\h.DictOf (cH P w) a vs :=
 show fk P w H h a (.dK kvs) from UQ ok e
theorem Cw{kvs:List (Key×V)}(ok:oh P w H h)(e:H a=some (.dK kvs)):kvs.length<=aX/\(a == df)=false/\∃ vs,KV kvs vs/\h.DictOf (cH P w) a vs:=tU ok (.inl e)
theorem wN{ks:List Key}(ok:oh P w H h)(e:H a=some (.tup (ks.map kV))):(iZ (cH P w)).is h ks a:=by
 obtain⟨_,bH,r,o,h1,h2,n,h3⟩:=(show fk P w H h a (.tup (ks.map kV)) from ok a _ e);exact⟨o,bH.toArray,n,h1,h2,h3,by simpa using Ce r⟩
theorem AD{kvs:List (List Key×V)}(ok:oh P w H h)(e:Rd H a (.dT kvs)):kvs.length<=aX/\(a == df)=false /\
  ∃ xs,KT H kvs xs/\h.DictOfH (iZ (cH P w)) a xs:=by
 obtain⟨z,y,xs,r,o,es,ep,h1,h2,h3,h4,h5⟩:=(show fk P w H h a (.dT kvs) from UQ ok e);refine⟨z,y,xs,r,o,es,ep,h1,h2,h3,h4,fun x hx=>?_,h5⟩;have all:∀ {l:List (List Key×V)} {m:List (List Key×Addr×Value)},KT H l m->∀ x∈m,(iZ (cH P w)).is h x.1 x.2.1:=by
  intro l m q;induction q with
  | nil=>intro x hx; exact nomatch hx
  | @cons p q ps qs hq t ih =>
   intro x hx;rcases List.mem_cons.mp hx with e | hx
   ·subst e;exact wN ok (by rw [<-hq.1]; exact hq.2.1)
   ·exact ih x hx
 exact all r x hx
theorem Ra{kvs:List (List Key×V)}(ok:oh P w H h)(e:H a=some (.dT kvs)):kvs.length<=aX/\(a == df)=false /\
  ∃ xs,KT H kvs xs/\h.DictOfH (iZ (cH P w)) a xs:=AD ok (.inl e)
end
def AY(H:Hp)(a:Addr)(y:V)(r:Option V):Prop :=
 (∃ kvs k,Rd H a (.dK kvs)/\y=kV k/\r=mH kvs k)\/∃ kvs k b,Rd H a (.dT kvs)/\y=.ref b/\H b=some (.tup (k.map kV))/\r=mH kvs k
def N8(H:Hp)(a:Addr)(y v:V)(H':Hp):Prop :=
 (∃ kvs k,H a=some (.dK kvs)/\y=kV k/\kvs.length < aX/\H'=upd H a (.dK (putK kvs k v))) \/
 ∃ kvs k b,H a=some (.dT kvs)/\y=.ref b/\H b=some (.tup (k.map kV))/\kvs.length < aX/\H'=upd H a (.dT (putK kvs k v))
theorem AY.k{H:Hp}{a:Addr}{kvs:List (Key×V)}{k:Key}(e:H a=some (.dK kvs)):AY H a (kV k) (mH kvs k):=.inl ⟨kvs,k,.inl e,rfl,rfl⟩
theorem AY.t{H:Hp}{a b:Addr}{kvs:List (List Key×V)}{k:List Key}(e:H a=some (.dT kvs))(eb:H b=some (.tup (k.map kV))):AY H a (.ref b) (mH kvs k):=.inr ⟨kvs,k,b,.inl e,rfl,eb,rfl⟩
theorem N8.k{H:Hp}{a:Addr}{kvs:List (Key×V)}{k:Key}{v:V}(e:H a=some (.dK kvs))(hl:kvs.length < aX):N8 H a (kV k) v (upd H a (.dK (putK kvs k v))):=.inl ⟨kvs,k,e,rfl,hl,rfl⟩
theorem N8.t{H:Hp}{a b:Addr}{kvs:List (List Key×V)}{k:List Key}{v:V}(e:H a=some (.dT kvs))(eb:H b=some (.tup (k.map kV)))(hl:kvs.length < aX) :
  N8 H a (.ref b) v (upd H a (.dT (putK kvs k v))):=.inr ⟨kvs,k,b,e,rfl,eb,hl,rfl⟩
section
variable {X:Cx} {pins:List (Addr×Obj)} {σ:St} {H:Hp} {s:ax} {a:Addr} {y v:V} {u r:Value} {o:Option V} {A:cS} {E:Value->ax->Prop}
theorem Inv.big(I:Inv X pins σ H s):df < s.heap.objs.size:=by
 have h:bQ < s.heap.objs.size:=(I.mod.glob.keeps I.bk).lt;exact Nat.lt_trans (by decide) h
theorem wX{Q:Value->ax->Prop}(hu:A.units+1 < cLine)(I:Inv X pins σ H s)(g:AY H a y (some v))(ry:RelV y u)(h:∀ w' s',Inv X pins σ H s'->RelV v w'->Q w' s') :
  wpAny (model X.prog X.w) A (getItem (.ref a) u) Q E s:=by
 rcases g with ⟨kvs,k,e,ey,l⟩ | ⟨kvs,k,b,e,ey,eb,l⟩
 ·subst ey;obtain⟨z,hd,vs,rel,dd⟩:=tU I.b7 e;obtain⟨w',hw,pP⟩:=w8.some_of (v:=v) (o:=OA vs k) (by rw [l]; exact rel.val k);exact wpAny_getItem_of (z0 ry) dd.mapOf hw (h w' _ (I.tok _) pP)
 ·subst ey;cases (show u=eL b from ry);obtain⟨z,hd,xs,rel,dd⟩:=AD I.b7 e;obtain⟨w',hw,pP⟩:=w8.some_of (v:=v) (o:=(atKey xs k).map (·.2)) (by rw [l]; exact rel.val k);obtain⟨p,hp,qK⟩:=Option.map_eq_some_iff.mp hw;refine wpAny_getItem_heap (ng hu) (wN I.b7 eb) dd hp ?_;rw [qK];exact h w' _ (I.tok _) pP
theorem Zq{Q:Value->ax->Prop}(hu:A.units+1 < cLine)(I:Inv X pins σ H s)(g:AY H a y o)(ry:RelV y u)(h:∀ s',Inv X pins σ H s'->Q (.bool o.isSome) s') :
  wpAny (model X.prog X.w) A (dQ .In u (.ref a)) Q E s:=by
 rcases g with ⟨kvs,k,e,ey,l⟩ | ⟨kvs,k,b,e,ey,eb,l⟩
 ·subst ey;obtain⟨z,hd,vs,rel,dd⟩:=tU I.b7 e;refine wpAny_in_of (z0 ry) hd dd.mapOf ?_;rw [<-(rel.val k).pA,<-l];exact h _ (I.tok _)
 ·subst ey;cases (show u=eL b from ry);obtain⟨z,hd,xs,rel,dd⟩:=AD I.b7 e;refine wpAny_in_heap (ng hu) (wN I.b7 eb) hd dd ?_;have q:=(rel.val k).pA;rw [A2] at q;rw [<-q,<-l];exact h _ (I.tok _)
theorem LS{Q:Value->ax->Prop}(hu:A.units+1 < cLine)(I:Inv X pins σ H s)(g:AY H a y o)(ry:RelV y u)(h:∀ s',Inv X pins σ H s'->Q (.bool (!o.isSome)) s') :
  wpAny (model X.prog X.w) A (dQ .NotIn u (.ref a)) Q E s:=by
 rcases g with ⟨kvs,k,e,ey,l⟩ | ⟨kvs,k,b,e,ey,eb,l⟩
 ·subst ey;obtain⟨z,hd,vs,rel,dd⟩:=tU I.b7 e;refine wpAny_notIn_of (z0 ry) hd dd.mapOf ?_;rw [<-(rel.val k).pA,<-l];exact h _ (I.tok _)
 ·subst ey;cases (show u=eL b from ry);obtain⟨z,hd,xs,rel,dd⟩:=AD I.b7 e;refine wpAny_notIn_heap (ng hu) (wN I.b7 eb) hd dd ?_;have q:=(rel.val k).pA;rw [A2] at q;rw [<-q,<-l];exact h _ (I.tok _)
theorem sU{h':Heap}{t':Nat}{ob:HO}(I:Inv X pins σ H s)(mu:ZI (H a))(hs:fP a s.heap h')(he:∃ q,h'.get? a=some q)(new:fk X.prog X.w (upd H a ob) h' a ob) :
  Inv X pins σ (upd H a ob) { s with heap:=h',toks:=t' } :=
 I.write (x:=a) (e:=a) mu (.inl rfl) (fun b q hb z=>(hs.2 b hb).trans z) he new
theorem DX{P:bI}{w:World}{H':Hp}{h':Heap}{kvs:List (Key×V)}{vs:List (Key×Value)}(z:kvs.length<=aX)(hd:(a == df)=false)(rel:KV kvs vs)(dd:h'.DictOf (cH P w) a vs) :
  fk P w H' h' a (.dK kvs):=⟨z,hd,vs,rel,dd⟩
theorem NI{H':Hp}{Q:Unit->ax->Prop}(hu:A.units+1 < cLine)(I:Inv X pins σ H s)(g:N8 H a y v H')(ry:RelV y u)(rv:RelV v r)(h:∀ s',Inv X pins σ H' s'->Q () s') :
  wpAny (model X.prog X.w) A (setItem (.ref a) u r) Q E s:=by
 rcases g with ⟨kvs,k,e,ey,l,eH⟩ | ⟨kvs,k,b,e,ey,eb,l,eH⟩
 ·subst ey eH;obtain⟨z,hd,vs,rel,dd⟩:=Cw I.b7 e;have hz:vs.length<=aX:=by rw [<-rel.length]; exact z
  have hl:(putK kvs k v).length<=aX:=by have:=xC kvs k v; lia
  refine wpAny_setItem_pairs (hsz:=hz) (z0 ry) dd fun h' AF hs=>h _ ?_;have he:∃ q,h'.get? a=some q:=let ⟨q,_,_,hq,_⟩:=AF; ⟨q,hq⟩
  exact sU I (by rw [e]; exact fX) hs he (DX hl hd (rel.put k rv) AF)
 ·subst ey eH;cases (show u=eL b from ry);obtain⟨z,hd,xs,rel,dd⟩:=Ra I.b7 e;have hz:xs.length<=aX:=by rw [<-iT rel]; exact z
  have hl:(putK kvs k v).length<=aX:=by have:=xC kvs k v; lia
  refine wpAny_setItem_heap (hsz:=hz) (ng hu) (wN I.b7 eb) dd fun h' AF hs=>h _ ?_;obtain⟨q,es,ep,hq,h2,h3,h4,_,h5⟩:=AF;refine sU I (by rw [e]; exact fX) hs ⟨q,hq⟩ ⟨hl,hd,_,(rel.put k eb rv).keeps fun c ys ec=>?_,q,es,ep,hq,h2,h3,h4,h5⟩;rw [bG (UZ ec e (fun z=>nomatch z))];exact ec
end
section
variable {X:Cx} {pins:List (Addr×Obj)} {σ:St} {H:Hp} {s:ax} {a:Addr} {kvs:List (Key×V)} {k:Key} {u:Value} {A:cS} {E:Value->ax->Prop}
theorem Vr {Q:Value->ax->Prop} (I:Inv X pins σ H s) (e:Rd H a (.dK kvs)) (h:∀ t s',Inv X pins σ H s'->Q (.int kvs.length t) s'):wpAny (model X.prog X.w) A (call (.builtin "len") [.ref a]) Q E s:=by
 obtain⟨z,hd,vs,rel,dd⟩:=tU I.b7 e;refine call_len_dict hd dd (by rw [<-rel.length]; rw [cD] at z; lia) ?_;rw [<-rel.length];exact h _ _ (I.tok _)
theorem Ud{Q:Bool->ax->Prop}(I:Inv X pins σ H s)(e:Rd H a (.dK kvs))(h:∀ s',Inv X pins σ H s'->Q (!kvs.isEmpty) s'):wpAny (model X.prog X.w) A (truthy (.ref a)) Q E s:=by
 obtain⟨z,hd,vs,rel,dd⟩:=tU I.b7 e;refine H0 hd dd (by rw [<-rel.length]; rw [cD] at z; lia) ?_;have q:kvs.isEmpty=vs.isEmpty:=by cases rel <;> rfl
 rw [<-q];exact h _ (I.tok _)
end
theorem rW {X:Cx} {pins:List (Addr×Obj)} {σ:St} {H:Hp} {s:ax} {a:Addr} {y:V} {o:Option V} (I:Inv X pins σ H s) (g:AY H a y o):s.TypeIs (.ref a) "dict":=by
 rcases g with ⟨kvs,k,e,_,_⟩ | ⟨kvs,k,b,e,_,_,_⟩
 ·obtain⟨_,_,vs,_,dd⟩:=tU I.b7 e;exact dd.typeIs
 ·obtain⟨_,_,xs,_,dd⟩:=AD I.b7 e;exact dd.typeIs
theorem GV {P:bI} {w:World} {H:Hp} (h:Heap) (hb:df < h.objs.size):fk P w H (h.push { cls:=.type "dict",data:=.dict #[] }) h.objs.size (.dK []) :=
 ⟨cw _,beq_eq_false_iff_ne.mpr (eD (bu hb)),[],.nil,Heap.DictOf.new h⟩
def VT:TE:=fun _ H Q=>∀ p,H p=none->Q (.ref p) (upd H p (.dK []))
section
variable {X:Cx} {pos:Pos}
theorem PJ:PE X (.Dict [] [] pos) VT:=fun pins s σ H Q I h =>
 wpAny_Dict_empty ⟨.ref s.heap.objs.size,_,I.laid (a:=s.heap.objs.size) (o:=.dK []) (t':=s.toks) (fun _ _ q=>aA _ q) (aC _) (GV s.heap I.big),rfl,h _ (I.b7.fresh (aC _))⟩
end
abbrev VV:List (V×V)->List (Value×Value)->Prop:=kX fun p q=>RelV p.1 q.1/\RelV p.2 q.2
def Jj(kvs more:List (Key×V)):List (Key×V):=more.foldl (fun acc kv=>putK acc kv.1 kv.2) kvs
theorem KV.merge:∀ {more:List (Key×V)} {rs:List (Key×Value)} {kvs:List (Key×V)} {vs:List (Key×Value)},KV more rs->KV kvs vs->KV (Jj kvs more) (merged vs rs):=by
 intro more rs kvs vs r;unfold KV at r;induction r generalizing kvs vs with
 | nil=>intro q; exact q
 | @cons p q ps qs h t ih =>
  intro r0;have e:KV (putK kvs p.1 p.2) (stored vs q.1 q.2):=by
   have:=r0.put p.1 h.2;rw [<-h.1]; exact this
  exact ih e
theorem AH{P:bI}{w:World}:∀ {kvs:List (Key×V)} {ws:List (Value×Value)},VV (kvs.map fun kv=>(kV kv.1,kv.2)) ws->∃ rs,Carries (cH P w) ws rs/\KV kvs rs
 | [],_,r=>by rw [a8] at r; cases r; exact⟨[],fX,.nil⟩
 | p :: kvs,_,r=>by
  rw [aq] at r;cases r with
  | @cons a b as bs h t =>
   obtain⟨rs,c,q⟩:=AH (P:=P) (w:=w) t;obtain⟨b1,b2⟩:=b;exact⟨(p.1,b2) :: rs,⟨z0 h.1,rfl,c⟩,.cons ⟨rfl,h.2⟩ q⟩
def IsD(H:Hp)(a:Addr):Prop:=(∃ kvs,Rd H a (.dK kvs))\/∃ kvs,Rd H a (.dT kvs)
theorem Qt{X:Cx}{pins:List (Addr×Obj)}{σ:St}{H:Hp}{s:ax}{a:Addr}(I:Inv X pins σ H s)(d:IsD H a) :
  s.TypeIs (.ref a) "dict"/\(∀ b,eL a=.ref b->∃ ob,s.heap.get? b=some ob/\ob.dict=none)/\(a == df)=false:=by
 rcases d with ⟨kvs,e⟩ | ⟨kvs,e⟩
 ·obtain⟨_,hd,vs,_,dd⟩:=tU I.b7 e;refine⟨dd.typeIs,fun b q=>?_,hd⟩;cases q;obtain⟨ob,_,_,h1,h2,_⟩:=dd;exact⟨ob,h1,h2.2.1⟩
 ·obtain⟨_,hd,xs,_,dd⟩:=AD I.b7 e;refine⟨dd.typeIs,fun b q=>?_,hd⟩;cases q;obtain⟨ob,_,_,h1,h2,_⟩:=dd;exact⟨ob,h1,h2.2.1⟩
end L2
namespace Att
open PySem PySem.W PySem.Calls PyProof.Rows
theorem xT{P:Params}{h:Heap}:∀ (ns:List Int) (vs:List Value),WellAll P h vs (ns.map WData.int)->me vs ns:=by
 intro ns;induction ns with
 | nil =>
  intro vs w;rw [a8] at w;cases w;exact .nil
 | cons n ns ih =>
  intro vs w;rw [aq] at w;cases w with
  | cons a b =>
   cases a;exact .cons _ _ (ih _ b)
theorem MG{l:OpenLaw}{n:Nat}(hn:l.most=some n){P:Params}{h:Heap}{args:List WData}{vals:List Value}
  (TZ:l.row.toRowW.claim.pre args=true) (hwl:WellAll P h vals args) :
  ∃ a vs ns,vals=[eL a]/\args=[WData.list (ns.map WData.int)]/\h.get? a=some { cls:=.type "list",data:=.seq vs.toArray }/\me vs ns/\ns.length<=n:=by
 have hsh:WShape.hasAll [] args [.list .int]=true:=(pre_splitW TZ).1;have hc:l.pre.holds [] { args:=args } = true:=(pre_splitW TZ).2;obtain⟨d,r,rfl,h1,h2⟩:=hasAllW_cons hsh;obtain rfl:=hasAllW_nil h2;obtain⟨xs,rfl,h3⟩:=hasW_list h1;obtain⟨ns,rfl⟩:=items_int h3;have hlen:ns.length<=n:=by
  unfold OpenLaw.pre at hc;have h4:(WTm.not (.lt (.lit (.int (n:Int))) (.len (.arg 0)))).holds [] { args:=[.list (ns.map .int)] } = true:=by
   have h4:=(holds_andW hc).1;rw [hn] at h4;exact h4
  have h5:=condW_of h4 (w_not (w_lt w_lit (w_len_list (w_arg rfl))));rw [ao] at h5;refine Nat.le_of_not_lt fun q=>?_;have q':(n:Int) < ((ns.length:Nat):Int):=by lia
  first
   | (rw [decide_eq_true q'] at h5; exact absurd h5 (by decide))
   | (simp at h5; lia)
 cases hwl with
 | cons w1 w2 =>
  cases w2;cases w1 with
  | list ho vC=>exact⟨_,_,ns,rfl,rfl,ho,xT ns _ vC,hlen⟩
theorem MU(l:OpenLaw)(args:List WData):l.row.toRowW.claim.post args (.bool true) args=true :=
 postW_of (r:=l.row.toRowW) (X:=(true == true))
  (show WShape.has [] (.bool true) .bool=true by first | rfl | decide | simp [WShape.has,WShape.arms,WShape.armsAll])
  (show (WTm.eq .res (.lit (.bool true))).value [] { args:=args,res:=some (.bool true),after:=args } = some (.bool (true == true)) from w_eq_bool (w_res rfl) w_lit) rfl
theorem Hr{l:OpenLaw}{n:Nat}{q:bI}{loose:List Str}{XP:(Str->Option Value)->Heap->Prop}{YP:World->Heap->Prop}{d:DefRec}
  (hn:l.most=some n) (Zb:d.params.defaults=[])
  (call:∀ (w:World) (i6 fC:ax) (mg mb:Str->Option Value) (fa:Addr) (o:Obj) (pm cd doc:Value) (a:Addr) (vs:List Value) (ns:List Int),
   Ground q loose [] XP w i6 mg mb fC.heap->YP w fC.heap ->
   fC.heap.get? fa=some o->o.data=.func (docDef d.name d.params d.body d.scope pm cd doc)->fC.heap.CodeRec cd d.name->mg d.name=some (.ref fa) ->
   fC.heap.get? a=some { cls:=.type "list",data:=.seq vs.toArray }->me vs ns->ns.length<=n->fC.gens=#[] ->
   yS (model l.prog w) Ih (.call (.ref fa) ⟨[.ref a],[]⟩) (fun r s'=>r=.ok (.ret (.bool true))/\OldK fC.heap s'.heap/\s'.os=fC.os/\yY s'.gens) fC) :
  WalkO q loose XP YP l.row.toRowW d [] (fun f vs=>Kq f vs):=by
 intro w i6 fC mg mb G Y fa o pm cd doc dV kV ho hd HX hD Y1 hg args vals as TZ afY hrd hwl hlo;obtain rfl:dV=.none:=Dflts.none hD Zb;obtain rfl:kV=.none:=Dflts.noKw hD;obtain⟨a,vs,ns,rfl,rfl,QJ,hints,hlen⟩:=MG hn TZ hwl;refine enter_call (yR (call w i6 fC mg mb fa o pm cd doc a vs ns G Y ho (fd_plain hd) HX Y1 QJ hints hlen hg) fun r s' hq=>?_);obtain⟨rfl,h2,h3,h4⟩:=hq;exact⟨.inl ⟨.bool true,.bool true,[],rfl,fun _=>rfl,.bool true,MU l _,fun _=>⟨List.Pairwise.nil,fun _ hm=>(nomatch hm)⟩⟩,h2,h3,h4⟩
end Att
namespace L2
open PySem PySem.Spec PyProof.Rows
theorem BL:∀ {vs:List Value} {ns:List Int},me vs ns->Vals (ns.map V.int) vs
 | _,_,.nil=>.nil
 | _,_,.cons n t h=>.cons ⟨t,rfl⟩ (BL h)
def UC(H:Hp):Prop:=∀ b,H b=none\/∃ o xs,H b=some (.iC o (.lst xs))
theorem Qe{P:bI}{w:World}{K:ai}{mg mb:Str->Option Value}{CX:Mi}{k:Nat}{fa a:Addr}{fd:fx}{x:Str}{sp:Sp}{fC:ax}{vs:List Value}{ns:List Int}
  (KX:K.In fC.heap) (Nr:fC.heap.Ns bQ mg) (hb:fC.heap.Ns builtinsNs mb) (hbb:∀ x:Str,x≠"__name__"->mb x=ez x) (abT:fC.heap.NoLimit) (hg:fC.gens=#[])
  (ha:fC.heap.get? a=some { cls:=.type "list",data:=.seq vs.toArray }) (hi:me vs ns) (hl:ns.length<=aX) (hr:kO k Ih)
  (F:∀ base:Heap,K.In base->base.Ns bQ mg->tK P w K mg base CX k fa fd [x] sp) (Zg:∀ (s:ax) (u:Value),BindsTo s fd ⟨[u],[]⟩ [(x,u)])
  (QE:∀ H:Hp,UC H->pF K H a (ns.map V.int)->sp [.ref a] H (fun v _=>v=.bl true) fun _ _ _=>False)
  (hCX:∀ H e s',CX [] H fC (fun _ _ _=>False) e s'->False) :
  yS (model P w) Ih (.call (.ref fa) ⟨[.ref a],[]⟩) (fun r s'=>r=.ok (.ret (.bool true))/\OldK fC.heap s'.heap/\s'.os=fC.os/\yY s'.gens) fC:=by
 have rv:=BL hi;have abd:=hi.length;have core:∀ H:Hp,UC H->pF K H a (ns.map V.int)->oh P w H fC.heap->(∀ b,H b≠none->b=a)->(H a≠none->K.lookup a=none) ->
   yS (model P w) Ih (.call (.ref fa) ⟨[.ref a],[]⟩) (fun r s'=>r=.ok (.ret (.bool true))/\OldK fC.heap s'.heap/\s'.os=fC.os/\yY s'.gens) fC:=by
  intro H hO hS b7 hA hK;have L7:∀ {b:Addr} {o:Obj},fC.heap.get? b=some o->H b=none->(DJ fC.heap H).get? b=some o:=fun e n=>QM e n;have YB:∀ {b:Addr} {o:Obj} {es:Array fI} {ep:Nat},fC.heap.get? b=some o->o.data=.dict es ep->H b=none:=fun {b o es ep} e d=>by
   cases q:H b with
   | none=>rfl
   | some u =>
    have e':b=a:=hA b (by rw [q]; simp);subst e';rw [ha] at e; cases e;have d':Data.seq vs.toArray _=Data.dict es ep:=d;cases d'
  have Z1:∀ {b:Addr} {m:Str->Option Value},fC.heap.Ns b m->(DJ fC.heap H).Ns b m:=fun {b m} ⟨o,es,ep,e,d,r⟩=>⟨o,es,ep,L7 e (YB e d),d,r⟩;have hKb:K.In (DJ fC.heap H):=fun b o e=>L7 (KX b o e) (by
   cases q:H b with
   | none=>rfl
   | some u =>
    have e':b=a:=hA b (by rw [q]; simp);subst e';rw [hK (by rw [q]; simp)] at e; cases e)
  have hM:Mod K mg (DJ fC.heap H):=⟨hKb,Z1 Nr,⟨mb,Z1 hb,hbb⟩,let ⟨mc,h1,h2⟩:=abT; ⟨mc,Z1 h1,h2⟩⟩;have e0:RV P w K mg (DJ fC.heap H) Ih [] fC H:=⟨rfl,hM,fun b o e=>TB e,Nat.le_of_eq (Nv _ _),trivial,fun b hb=>absurd (show b∈([]:List Addr) from hb) (by simp),b7,.of_eq hg⟩;refine yR ((F _ hKb (Z1 Nr)).run Ih [] fC H ⟨[.ref a],[]⟩ [.ref a] [.ref a] _ _ hr e0 (Zg fC (.ref a)) (.cons rfl .nil) (QE H hO hS)) fun r s' h=>?_;cases r with
  | error e=>exact(hCX H e s' h).elim
  | ok fl =>
   cases fl with
   | next=>exact bC h
   | brk=>exact bC h
   | cont=>exact bC h
   | ret u =>
    obtain⟨v,H',os,bare,un,Jx,r',q⟩:=h;have q':v=.bl true:=q;subst q';obtain rfl:u=Value.bool true:=r';refine⟨rfl,OldK.of_keep fun b o e=>?_,os,bare⟩;cases q:H b with
    | none=>exact un.keep b o e q (by intro z; exact absurd (show b∈([]:List Addr) from z) (by simp)) (by simp)
    | some u =>
     rcases hO b with z | ⟨ob,xs,z⟩
     ·rw [q] at z; cases z
     ·have z2:=un.qe b ob _ z;obtain⟨e1,_⟩:=b7 b _ z;obtain⟨e2,_⟩:=Jx b _ z2;rw [e] at e1; cases e1;exact e2
 cases hk:K.lookup a with
 | some o =>
  have e:=KX a o hk;rw [ha] at e;cases e;refine core (fun _=>none) (fun _=>.inl rfl) (.inr ⟨_,vs.toArray,_,hk,rfl,rfl,rfl,by rw [aR,abd]; exact hl,by simpa using rv⟩) (fun b u z=>by have z':(none:Option HO)=some u:=z; cases z') (fun b z=>absurd rfl z) fun z=>absurd rfl z
 | none =>
  refine core (fun b=>if b=a then some (.iC { cls:=.type "list",data:=.seq vs.toArray } (.lst (ns.map V.int))) else none) (fun b=>?_) (.inl (.inr ⟨{ cls:=.type "list",data:=.seq vs.toArray },if_pos rfl⟩)) (fun b u z=>?_) (fun b z=>?_) fun _=>hk
  ·by_cases hb:b=a
   ·exact .inr ⟨_,_,if_pos hb⟩
   ·exact .inl (if_neg hb)
  ·by_cases hb:b=a
   ·have z':=(if_pos hb).symm.trans z;cases z';subst hb;exact⟨ha,by rw [ao]; exact hl,vs,_,rv,ha⟩
   ·have z':=(if_neg hb).symm.trans z;cases z'
  ·by_cases hb:b=a
   ·exact hb
   ·exact absurd (if_neg hb) z
theorem SH{l:CP}{n k:Nat}{q:bI}{loose:List Str}{XP:(Str->Option Value)->Heap->Prop}{YP:World->Heap->Prop}{d:DefRec}{K:Params->ai}{CX:World->Mi}{sp:World->Sp}{x:Str}
  (hn:l.most=some n) (hn2:n<=aX) (Zb:d.params.defaults=[]) (hr:kO k Ih)
  (hY:∀ (w:World) (h:Heap),YP w h->(K w.params).In h)
  (F:∀ (w:World) (mg:Str->Option Value) (fa:Addr) (h:Heap),(K w.params).In h->h.Ns bQ mg->mg d.name=some (.ref fa) ->
   ∃ fd:fx,(∀ (s:ax) (u:Value),BindsTo s fd ⟨[u],[]⟩ [(x,u)]) /\
    ∀ base:Heap,(K w.params).In base->base.Ns bQ mg->tK l.prog w (K w.params) mg base (CX w) k fa fd [x] (sp w))
  (QE:∀ (w:World) (H:Hp) (a:Addr) (ns:List Int),ns.length<=n->UC H->pF (K w.params) H a (ns.map V.int)->sp w [.ref a] H (fun v _=>v=.bl true) fun _ _ _=>False)
  (hCX:∀ (w:World) (H:Hp) (s:ax) (e:Value) (s':ax),CX w [] H s (fun _ _ _=>False) e s'->False) :
  PySem.W.WalkO q loose XP YP l.row.toRowW d [] (fun f vs=>Kq f vs):=by
 refine Att.Hr hn Zb fun w i6 fC mg mb fa o pm cd doc a vs ns G Y ho hd HX Y1 QJ hints hlen hg=>?_;have KX:=hY w _ Y;obtain⟨fd,hb,hF⟩:=F w mg fa _ KX G.T.g Y1;exact Qe KX G.T.g G.T.b G.T.builtins G.T.nolimit hg QJ hints (bz hlen hn2) hr hF hb (fun H hO hS=>QE w H a ns hlen hO hS) fun H e s'=>hCX w H fC e s'
end L2
/- THE ahn aao (shape; LID,My.* are acS):
   My.Adr: a structure of the addresses aeL aeE ady names (classes,XD); My.Txt K t: a structure (Prop) of the equations over K;
   My.aay:{K} {implicit addresses ..} (e1:nsIn K bQ "law" = some (some (.ref f))) (e2:K.lookup f=some ⟨oc,od,.func (fnOf "law" "law" params body scope dV kV doc pm an kT ct),sl⟩) (e3:codeIn K kT "law" = true) ..:∃ t,My.Txt K t
(the tactic k_is has no namespace: write k_is) -/
namespace L2
open PySem PySem.Spec PyProof.Rows
def kL(s:Stmt):Arguments:=match s with
 | .FunctionDef _ a _ _ _ _ _ _ _ _=>a
 | _=>{ posonlyargs:=[],args:=[],vararg:=none,kwonlyargs:=[],kw_defaults:=[],kwarg:=none,defaults:=[] }
def gC(s:Stmt):List Stmt:=match s with
 | .FunctionDef _ _ b _ _ _ _ _ _ _=>b
 | _=>[]
def bN(s:Stmt):Scope:=match s with
 | .FunctionDef _ _ _ _ _ _ sc _ _ _=>sc
 | _=>{ kind:=.function,names:=[],isGenerator:=false,isCoroutine:=false }
abbrev Kl:Mi:=fun _ _ _ _ _ _=>False
abbrev E0:XK:=fun _ _ _=>False
theorem UW{X:Cx}:Passes Kl X E0:=fun _ _ _ _ _ _ _ h=>h.elim
structure Sj(K:ai)(x qual:Str)(st:Stmt)(f:Addr)(fd:fx):Prop where
 ex:∃ (oc:Value) (od:Option Addr) (kV doc pm:Value) (an:Option Addr) (kT ct:Value) (Lc:Array (Option Value)),
  fd=kP x qual (kL st) (gC st) (bN st) .none kV doc pm an kT ct/\K.lookup f=some ⟨oc,od,.func fd,Lc⟩/\EL K kT qual=true
 kp:pG K (.ref f)=true
section
variable {P:bI} {w:World} {K:ai} {mg:Str->Option Value} {base:Heap}
theorem Sj.ok{x qual:Str}{st:Stmt}{f:Addr}{fd:fx}{N ps:List Str}{k:Nat}{sp:Sp}(F:Sj K x qual st f fd)(S:lF N ps (bN st))(len:∀ vs H Q E,sp vs H Q E->vs.length=ps.length)
  (QP:∀ (kT:Value) (A:cS) (outer:List Env) (s:ax) (H:Hp) (vs:List V) (Q:VK) (E:XK),kO k (A.deeper (xb qual (bN st) s.heap.objs.size f kT))->sp vs H Q E ->
   ∃ t,XI (vM Kl P w K mg base N qual (bN st) f kT A outer s H E).Ws (gC st) t/\t { nx:=fun _ H'=>Q .eN H',rt:=Q } (start N vs) H):tK P w K mg base Kl (k+1) f fd ps sp:=by
 obtain⟨oc,od,kV,doc,pm,an,kT,ct,Lc,rfl,lk,HX⟩:=F.ex;refine Vn lk HX S len fun A outer s H vs Q E hr QE=>?_;obtain⟨t,h,q⟩:=QP kT A outer s H vs Q E hr QE;exact⟨t,h.Ws,q⟩
theorem Sj.binds{x qual:Str}{st:Stmt}{f:Addr}{fd:fx}{ps:List Str}(F:Sj K x qual st f fd)
  (h:∀ (kV doc pm:Value) (an:Option Addr) (kT ct:Value) (us:List Value),us.length=ps.length->bindArgs (kP x qual (kL st) (gC st) (bN st) .none kV doc pm an kT ct) ⟨us,[]⟩=pure (ps.zip us)):Binds K fd ps []:=by
 obtain⟨oc,od,kV,doc,pm,an,kT,ct,Lc,rfl,lk,HX⟩:=F.ex;exact .all (h kV doc pm an kT ct)
theorem W2{x qual:Str}{st:Stmt}{f:Addr}{oc:Value}{od an:Option Addr}{Lc:Array (Option Value)}{kV doc pm kT ct:Value}(l:K.lookup f=some ⟨oc,od,.func (kP x qual (kL st) (gC st) (bN st) .none kV doc pm an kT ct),Lc⟩)
  (c:EL K kT qual=true) (k:pG K (.ref f)=true):Sj K x qual st f (kP x qual (kL st) (gC st) (bN st) .none kV doc pm an kT ct):=⟨⟨oc,od,kV,doc,pm,an,kT,ct,Lc,rfl,l,c⟩,k⟩
end
end L2
set_option autoImplicit false
section
namespace K2
open PySem (Str)
abbrev PK:=List (List (List Int))
inductive D where
 | eN | bl (b:Bool) | int (i:Int) | str (x:Str) | tup (ds:List D) | cW (ds:List D) | kW (kvs:List (D×D)) | ref (a:Nat) | exc (c:Str) | Cq (c:Str) (ns:List Str) (ds:List D) | oV (kvs:List (PK×D))
 deriving Inhabited
inductive GO where
 | lst (ds:List D)
 | gK (kvs:List (D×D))
 | ins (c:Str) (fs:List (Str×D))
 | qL (kvs:List (PK×D))
abbrev Gp:=Nat->Option GO
def eV(G:Gp)(a:Nat)(o:GO):Gp:=fun b=>if b=a then some o else G b
theorem az{G:Gp}{a:Nat}{o:GO}:eV G a o a=some o:=by unfold eV; rw [if_pos rfl]
theorem cL{G:Gp}{a b:Nat}{o:GO}(h:b≠a):eV G a o b=G b:=by unfold eV; rw [if_neg h]
abbrev SZ:Nat:=16777216
structure Ex where
 cls:Str
 agP:List (Str×D)
abbrev lP:=Ex->Gp->Prop
abbrev iD:=List (Option D)
abbrev DK:=D->Gp->Prop
abbrev fV:=lP->iD->Gp->DK->Prop
abbrev xY:=lP->iD->Gp->(Bool->Gp->Prop)->Prop
abbrev A8:=lP->iD->Gp->(List D->Gp->Prop)->Prop
structure nQ where
 nx:iD->Gp->Prop
 rt:DK
 bk:iD->Gp->Prop
 ct:iD->Gp->Prop
abbrev hU:=lP->nQ->iD->Gp->Prop
abbrev jU:=List D->Gp->DK->lP->Prop
abbrev yI:=D->D->Gp->DK->Prop
def HU(n:Nat)(i:Int):Option Nat:=if 0<=i then (if i < n then some i.toNat else none) else if -(n:Int)<=i then some (i+n).toNat else none
def r8{α:Type}(xs:List α)(i:Int):Option α:=(HU xs.length i).bind fun j=>xs[j]?
def jR(n d:Nat):Option Int->Nat
 | none=>d
 | some v=>if v < 0 then (v+(n:Int)).toNat else min v.toNat n
def cut{α:Type}(xs:List α)(lo hi:Option Int):List α:=(xs.drop (jR xs.length 0 lo)).take (jR xs.length xs.length hi - jR xs.length 0 lo)
mutual
def ip:D->D->Bool
 | .eN,.eN=>true
 | .bl a,.bl b=>a == b
 | .bl a,.int b=>(if a then 1 else 0) == b
 | .int a,.bl b=>a == (if b then 1 else 0)
 | .int a,.int b=>a == b
 | .str a,.str b=>a == b
 | .tup a,.tup b=>lK a b
 | .cW a,.cW b=>lK a b
 | _,_=>false
def lK:List D->List D->Bool
 | [],[]=>true
 | a :: r,b :: t=>ip a b&&lK r t
 | _,_=>false
end
mutual
def nr:D->Bool
 | .ref _=>false
 | .exc _=>false
 | .Cq _ _ _=>false
 | .kW _=>false
 | .oV _=>false
 | .str x=>x.cps.all (· < 0x110000)
 | .tup ds=>qv ds
 | .cW ds=>qv ds
 | _=>true
def qv:List D->Bool
 | []=>true
 | d :: r=>nr d&&qv r
end
class inductive Sn (G:Gp):Nat->D->D->Prop
 | eN {n:Nat}:Sn G n .eN .eN
 | bl {n:Nat} (b:Bool):Sn G n (.bl b) (.bl b)
 | int {n:Nat} (i:Int):Sn G n (.int i) (.int i)
 | str {n:Nat} (x:Str) (h:x.cps.all (· < 0x110000)=true):Sn G n (.str x) (.str x)
 | IE {n:Nat}:Sn G (n+1) (.tup []) (.tup [])
 | rB {n:Nat} {d s:D} {ds ss:List D}:Sn G n d s->Sn G (n+1) (.tup ds) (.tup ss)->Sn G (n+1) (.tup (d :: ds)) (.tup (s :: ss))
 | Bl {n:Nat}:Sn G (n+1) (.cW []) (.cW [])
 | rK {n:Nat} {d s:D} {ds ss:List D}:Sn G n d s->Sn G (n+1) (.cW ds) (.cW ss)->Sn G (n+1) (.cW (d :: ds)) (.cW (s :: ss))
 | ref {n:Nat} {a:Nat} {ds ss:List D}:G a=some (.lst ds)->Sn G n (.cW ds) (.cW ss)->Sn G n (.ref a) (.cW ss)
abbrev SN:Nat:=8
theorem Sn.nr{G:Gp}{n:Nat}{d t:D}(h:Sn G n d t):K2.nr t=true:=by
 induction h with
 | eN=>rfl
 | bl b=>rfl
 | int i=>rfl
 | str x h=>exact h
 | IE=>rfl
 | rB _ _ QA Qz =>
  show (K2.nr _&&K2.qv _)=true;rw [QA];exact Qz
 | Bl=>rfl
 | rK _ _ QA Qz =>
  show (K2.nr _&&K2.qv _)=true;rw [QA];exact Qz
 | ref _ _ ih=>exact ih
def qu(k:PK):D:=.tup (k.map fun r=>.tup (r.map fun t=>.tup (t.map D.int)))
def dH:D->Bool
 | .int _=>true
 | .str _=>true
 | _=>false
def HN:D->Gp->Option Bool
 | .eN,_=>some false
 | .bl b,_=>some b
 | .int i,_=>some (i != 0)
 | .str x,_=>if x.length<=SZ then some ((x.length:Int) != 0) else none
 | .tup ds,_=>some (!ds.isEmpty)
 | .cW ds,_=>some (!ds.isEmpty)
 | .exc _,_=>none
 | .Cq _ _ _,_=>none
 | .oV _,_=>none
 | .kW kvs,_=>if (kvs.all fun p=>dH p.1)=true then some (!kvs.isEmpty) else none
 | .ref a,G=>match G a with
  | some (.lst ds)=>some (!ds.isEmpty)
  | some (.gK kvs)=>if (kvs.all fun p=>dH p.1)=true then some (!kvs.isEmpty) else none
  | _=>none
def av(i:Nat):fV:=fun _ τ G Q=>match τ[i]? with
 | some (some d)=>Q d G
 | _=>False
def dC(d:D):fV:=fun _ _ G Q=>Q d G
def aQ:A8:=fun _ _ G Q=>Q [] G
def aw(a:fV)(r:A8):A8:=fun E τ G Q=>a E τ G fun x G1=>r E τ G1 fun xs G2=>Q (x :: xs) G2
def iB(t:A8):fV:=fun E τ G Q=>t E τ G fun ds G1=>ds.length<=SZ/\Q (.tup ds) G1
def jK(t:A8):fV:=fun E τ G Q=>t E τ G fun ds G1=>ds.length<=SZ/\∀ p,G1 p=none->Q (.ref p) (eV G1 p (.lst ds))
def bh(r:yI)(a b:fV):fV:=fun E τ G Q=>a E τ G fun x G1=>b E τ G1 fun y G2=>r x y G2 Q
def Si(r:D->Gp->DK->Prop)(a:fV):fV:=fun E τ G Q=>a E τ G fun x G1=>r x G1 Q
def gO(G:Gp)(o:GO)(Q:DK):Prop:=∀ p,G p=none->Q (.ref p) (eV G p o)
def MulOk(i j:Int):Prop:=(-(2 ^ 64) < i/\i < 2 ^ 64)\/(-(2 ^ 64) < j/\j < 2 ^ 64)
def ph:D->Gp->Option (List D)
 | .cW ds,_=>some ds
 | .ref a,G=>match G a with
  | some (.lst ds)=>some ds
  | _=>none
 | _,_=>none
def El(x y:D)(G:Gp)(Q:DK):Prop:=match ph x G,ph y G with
 | some xs,some ys=>xs.length+ys.length<=SZ/\gO G (.lst (xs++ys)) Q
 | _,_=>False
def kB:yI
 | .int i,.int j,G,Q=>Q (.int (i+j)) G
 | .str a,.str b,G,Q=>a.length+b.length<=SZ/\Q (.str (a++b)) G
 | .tup a,.tup b,G,Q=>a≠[]/\a.length+b.length<=SZ/\Q (.tup (a++b)) G
 | x,y,G,Q=>El x y G Q
def S2:yI
 | .int i,.int j,G,Q=>Q (.int (i - j)) G
 | _,_,_,_=>False
def MO:yI
 | .int i,.int j,G,Q=>MulOk i j/\Q (.int (i * j)) G
 | _,_,_,_=>False
def pQ:yI
 | .int i,.int j,G,Q=>0 < j/\Q (.int (i % j)) G
 | _,_,_,_=>False
def zt:yI
 | .int i,.int j,G,Q=>0 < j/\j < 2 ^ 30/\Q (.int (i / j)) G
 | _,_,_,_=>False
def MN:D->Gp->DK->Prop
 | .int i,G,Q=>Q (.int (-i)) G
 | _,_,_=>False
def Dh(neg:Bool):yI:=fun x y G Q=>∃ a b,Sn G SN x a/\Sn G SN y b/\Q (.bl (if neg then !ip a b else ip a b)) G
def lexLt:List Int->List Int->Bool
 | [],[]=>false
 | [],_ :: _=>true
 | _ :: _,[]=>false
 | x :: xs,y :: ys=>if x=y then lexLt xs ys else decide (x < y)
def UR:yI
 | .int i,.int j,G,Q=>Q (.bl (decide (i < j))) G
 | .tup a,.tup b,G,Q=>∃ xs ys,a=xs.map D.int/\b=ys.map D.int/\Q (.bl (lexLt xs ys)) G
 | _,_,_,_=>False
def Yi:yI
 | .int i,.int j,G,Q=>Q (.bl (decide (i<=j))) G
 | _,_,_,_=>False
def rGt:yI
 | .int i,.int j,G,Q=>Q (.bl (decide (i > j))) G
 | _,_,_,_=>False
def rGe:yI
 | .int i,.int j,G,Q=>Q (.bl (decide (i>=j))) G
 | _,_,_,_=>False
def itemsOf:D->Gp->Option (List D)
 | .tup ds,_=>some ds
 | .cW ds,_=>some ds
 | .ref a,G=>match G a with
  | some (.lst ds)=>some ds
  | _=>none
 | _,_=>none
def lr:D->Bool
 | .tup ds=>ds.all dH
 | _=>false
def iw(kvs:List (D×D))(k:D):Bool:=(dH k&&kvs.all fun p=>dH p.1)||(lr k&&kvs.all fun p=>lr p.1)
def look(kvs:List (D×D))(k:D):Option D:=(kvs.find? fun p=>ip p.1 k).map (·.2)
def put(kvs:List (D×D))(k v:D):List (D×D) :=
 if (kvs.any fun p=>ip p.1 k)=true then kvs.map (fun p=>if ip p.1 k=true then (p.1,v) else p) else kvs++[(k,v)]
def Pp(neg:Bool):yI:=fun x y G Q=>match y with
 | .ref a=>(match G a with
  | some (.gK kvs)=>iw kvs x=true/\Q (.bl (if neg then !(look kvs x).isSome else (look kvs x).isSome)) G
  | some (.lst ds)=>∃ s ss,Sn G SN x s/\Sn G SN (.cW ds) (.cW ss)/\Q (.bl (if neg then !ss.any (ip · s) else ss.any (ip · s))) G
  | _=>False)
 | .kW kvs=>kvs≠[]/\iw kvs x=true/\Q (.bl (if neg then !(look kvs x).isSome else (look kvs x).isSome)) G
 | .tup ds=>∃ s ss,Sn G SN x s/\Sn G SN (.cW ds) (.cW ss)/\Q (.bl (if neg then !ss.any (ip · s) else ss.any (ip · s))) G
 | .cW ds=>∃ s ss,Sn G SN x s/\Sn G SN (.cW ds) (.cW ss)/\Q (.bl (if neg then !ss.any (ip · s) else ss.any (ip · s))) G
 | _=>False
def mz:yI
 | .tup ds,.int i,G,Q=>(match r8 ds i with
  | some d=>Q d G
  | none=>False)
 | .cW ds,.int i,G,Q=>(match r8 ds i with
  | some d=>Q d G
  | none=>False)
 | .kW kvs,k,G,Q=>iw kvs k=true/\(match look kvs k with
  | some d=>Q d G
  | none=>False)
 | .ref a,k,G,Q=>(match G a with
  | some (.lst ds)=>(match k with
   | .int i=>(match r8 ds i with
    | some d=>Q d G
    | none=>False)
   | _=>False)
  | some (.gK kvs)=>iw kvs k=true/\(match look kvs k with
   | some d=>Q d G
   | none=>False)
  | _=>False)
 | _,_,_,_=>False
abbrev ZF:=lP->iD->Gp->(Option Int->Gp->Prop)->Prop
def gE:ZF:=fun _ _ G Q=>Q none G
def oD(t:fV):ZF:=fun E τ G Q=>t E τ G fun x G1=>match x with
 | .int i=>Q (some i) G1
 | _=>False
def Pk:D->Option Int->Option Int->Gp->DK->Prop
 | .tup ds,lo,hi,G,Q=>¬ (jR ds.length 0 lo=0/\jR ds.length ds.length hi=ds.length)/\Q (.tup (cut ds lo hi)) G
 | .cW ds,lo,hi,G,Q=>gO G (.lst (cut ds lo hi)) Q
 | .ref a,lo,hi,G,Q=>(match G a with
  | some (.lst ds)=>gO G (.lst (cut ds lo hi)) Q
  | _=>False)
 | _,_,_,_,_=>False
def DZ(a:fV)(lo hi:ZF):fV:=fun E τ G Q=>a E τ G fun x G1=>lo E τ G1 fun l G2=>hi E τ G2 fun h G3=>Pk x l h G3 Q
def gv(a:fV):xY:=fun E τ G Q=>a E τ G fun x G1=>match HN x G1 with
 | some b=>Q b G1
 | none=>False
def Rk(a b:xY):xY:=fun E τ G Q=>a E τ G fun c G1=>if c=true then b E τ G1 Q else Q false G1
def NJ(a b:xY):xY:=fun E τ G Q=>a E τ G fun c G1=>if c=true then Q true G1 else b E τ G1 Q
def ml(a:xY):xY:=fun E τ G Q=>a E τ G fun c G1=>Q (!c) G1
def Hd(a b:fV):fV:=fun E τ G Q=>a E τ G fun x G1=>match HN x G1 with
 | some true=>b E τ G1 Q
 | some false=>Q x G1
 | none=>False
def Zs(a b:fV):fV:=fun E τ G Q=>a E τ G fun x G1=>match HN x G1 with
 | some true=>Q x G1
 | some false=>b E τ G1 Q
 | none=>False
def Rh(a:fV):fV:=fun E τ G Q=>a E τ G fun x G1=>match HN x G1 with
 | some c=>Q (.bl (!c)) G1
 | none=>False
def Zt(c:xY)(a b:fV):fV:=fun E τ G Q=>c E τ G fun k G1=>if k=true then a E τ G1 Q else b E τ G1 Q
def bF(sp:jU)(t:A8):fV:=fun E τ G Q=>t E τ G fun ds G1=>sp ds G1 Q fun _ _=>False
def uj(r:List D->Gp->DK->Prop)(t:A8):fV:=fun E τ G Q=>t E τ G fun ds G1=>r ds G1 Q
def Be(x:D)(G:Gp):Prop:=match x with
 | .ref a=>(match G a with
  | some (.lst _)=>True
  | _=>False)
 | .cW _=>True
 | _=>False
def SM(x:D)(G:Gp):Prop:=match x with
 | .kW _=>True
 | .ref a=>(match G a with
  | some (.gK _)=>True
  | _=>False)
 | _=>False
def tyS(x:D)(_:Gp):Prop:=match x with
 | .str _=>True
 | _=>False
def tV(ty:D->Gp->Prop)(r:D->List D->Gp->DK->Prop)(o:fV)(t:A8):fV:=fun E τ G Q=>o E τ G fun x G1=>ty x G1/\t E τ G1 fun ds G2=>r x ds G2 Q
def lenOf:D->Gp->Option Nat
 | .tup ds,_=>some ds.length
 | .cW ds,_=>some ds.length
 | .str x,_=>if x.length<=SZ then some x.length else none
 | .kW kvs,_=>if (kvs.all fun p=>dH p.1)=true then some kvs.length else none
 | .ref a,G=>match G a with
  | some (.lst ds)=>some ds.length
  | some (.gK kvs)=>if (kvs.all fun p=>dH p.1)=true then some kvs.length else none
  | _=>none
 | _,_=>none
def qM(ds:List D)(G:Gp)(Q:DK):Prop:=match ds with
 | [x]=>(match lenOf x G with
  | some n=>Q (.int (n:Int)) G
  | none=>False)
 | _=>False
def xI(ds:List D)(G:Gp)(Q:DK):Prop:=match ds with
 | [x]=>(match itemsOf x G with
  | some xs=>gO G (.lst xs) Q
  | none=>False)
 | _=>False
def U8(C:String):D->Gp->Option Bool
 | .eN,_=>some false
 | .bl _,_=>some (C == "bool" || C == "int")
 | .int _,_=>some (C == "int")
 | .str _,_=>some (C == "str")
 | .tup _,_=>some (C == "tuple")
 | .cW _,_=>some (C == "list")
 | .kW _,_=>some (C == "dict")
 | .exc _,_=>none
 | .Cq _ _ _,_=>none
 | .oV _,_=>none
 | .ref a,G=>match G a with
  | some (.lst _)=>some (C == "list")
  | some (.gK _)=>some (C == "dict")
  | _=>none
def NK(C:String)(a:fV):fV:=fun E τ G Q=>a E τ G fun x G1=>match U8 C x G1 with
 | some b=>Q (.bl b) G1
 | none=>False
def mK(x:D)(ds:List D)(G:Gp)(Q:DK):Prop:=match x,ds with
 | .ref a,[d]=>(match G a with
  | some (.lst xs)=>xs.length < SZ/\Q .eN (eV G a (.lst (xs++[d])))
  | _=>False)
 | _,_=>False
def yv(x:D)(ds:List D)(G:Gp)(Q:DK):Prop:=match x,ds with
 | .ref a,[y]=>(match G a,ph y G with
  | some (.lst xs),some ys=>xs.length+ys.length<=SZ/\Q .eN (eV G a (.lst (xs++ys)))
  | _,_=>False)
 | _,_=>False
def TJ(x:D)(ds:List D)(G:Gp)(Q:DK):Prop:=match x,ds with
 | .ref a,[.int i,d]=>(match G a with
  | some (.lst xs)=>0<=i/\i<=xs.length/\xs.length < SZ/\Q .eN (eV G a (.lst (xs.take i.toNat++d :: xs.drop i.toNat)))
  | _=>False)
 | _,_=>False
def DA(x:D)(ds:List D)(G:Gp)(Q:DK):Prop:=match ds with
 | [d]=>Be x G/\∃ xs s ss,itemsOf x G=some xs/\Sn G SN d s/\Sn G SN (.cW xs) (.cW ss)/\(match ss.findIdx? (ip · s) with
  | some k=>Q (.int (k:Int)) G
  | none=>False)
 | _=>False
def FV(x:D)(ds:List D)(G:Gp)(Q:DK):Prop:=match x,ds with
 | .ref a,[k,d]=>(match G a with
  | some (.gK kvs)=>iw kvs k=true/\dH k=true/\(match look kvs k with
   | some v=>Q v G
   | none=>kvs.length < SZ/\Q d (eV G a (.gK (put kvs k d))))
  | _=>False)
 | _,_=>False
def dn:hU:=fun _ K τ G=>K.nx τ G
def bZ(a b:hU):hU:=fun E K τ G=>a E { K with nx:=b E K } τ G
def lM(a:fV):hU:=fun E K τ G=>a E τ G fun _ G1=>K.nx τ G1
def cu(a:fV):hU:=fun E K τ G=>a E τ G K.rt
def Zr:hU:=fun _ K _ G=>K.rt .eN G
def fA(c:xY)(a b:hU):hU:=fun E K τ G=>c E τ G fun k G1=>if k=true then a E K τ G1 else b E K τ G1
def ui:hU:=fun _ _ _ _=>False
abbrev A7:=lP->D->iD->Gp->(iD->Gp->Prop)->Prop
abbrev En:=lP->List D->iD->Gp->(iD->Gp->Prop)->Prop
def aH(i:Nat):A7:=fun _ d τ G Q=>Q (τ.set i (some d)) G
def jo:En:=fun _ ds τ G Q=>match ds with
 | []=>Q τ G
 | _=>False
def cY(t:A7)(r:En):En:=fun E ds τ G Q=>match ds with
 | d :: ds=>t E d τ G fun pJ G1=>r E ds pJ G1 Q
 | _=>False
def jA(t:En):A7:=fun E d τ G Q=>match d with
 | .tup ds=>t E ds τ G Q
 | _=>False
def xg(o k d:D)(G:Gp)(Q:Gp->Prop):Prop:=match o with
 | .ref a=>(match G a with
  | some (.lst xs)=>(match k with
   | .int i=>(match HU xs.length i with
    | some j=>Q (eV G a (.lst (xs.set j d)))
    | none=>False)
   | _=>False)
  | some (.gK kvs)=>iw kvs k=true/\kvs.length < SZ/\Q (eV G a (.gK (put kvs k d)))
  | _=>False)
 | _=>False
def nZ(o k:fV):A7:=fun E d τ G Q=>o E τ G fun x G1=>k E τ G1 fun y G2=>xg x y d G2 fun G3=>Q τ G3
def bM(a:fV)(g:A7):hU:=fun E K τ G=>a E τ G fun x G1=>g E x τ G1 K.nx
abbrev NT:=lP->iD->Gp->(List D->(Gp->Prop)->Gp->Prop)->Prop
def lu(a:fV):NT:=fun E τ G R=>a E τ G fun x G1=>match x with
 | .tup ds=>R ds (fun _=>True) G1
 | .cW ds=>R ds (fun _=>True) G1
 | .ref p=>(match G1 p with
  | some (.lst ds)=>R ds (fun G2=>G2 p=some (.lst ds)) G1
  | _=>False)
 | _=>False
def gJ(lo:Int)(n:Nat):List D:=(fc n).map fun (i:Nat)=>D.int (lo+(i:Int))
def Aa(a:fV):NT:=fun E τ G R=>a E τ G fun x G1=>match x with
 | .int n=>-(2 ^ 62)<=n/\n < 2 ^ 62/\R (gJ 0 n.toNat) (fun _=>True) G1
 | _=>False
def qA(g:A7)(body:hU)(ok:Gp->Prop):List D->hU
 | []=>fun _ K τ G=>ok G/\K.nx τ G
 | d :: r=>fun E K τ G=>ok G/\g E d τ G fun pJ G1=>body E { K with nx:=qA g body ok r E K,ct:=qA g body ok r E K,bk:=K.nx } pJ G1
def ff(i:NT)(g:A7)(body:hU):hU:=fun E K τ G=>i E τ G fun ds ok G1=>qA g body ok ds E K τ G1
def EU(c:xY)(body:hU):Nat->hU
 | 0=>fun _ _ _ _=>False
 | n+1=>fun E K τ G=>c E τ G fun k G1=>if k=true then body E { K with nx:=EU c body n E K,ct:=EU c body n E K,bk:=K.nx } τ G1 else K.nx τ G1
def JW(c:xY)(body:hU):hU:=fun E K τ G=>∃ n,EU c body n E K τ G
def jg(g:A7)(c:Option xY)(e:fV)(ok:Gp->Prop):List D->lP->iD->Gp->List D->(List D->Gp->Prop)->Prop
 | [],_,_,G,acc,Q=>ok G/\Q acc G
 | d :: r,E,τ,G,acc,Q=>ok G/\g E d τ G fun pJ G1=>match c with
  | none=>e E pJ G1 fun x G2=>jg g c e ok r E pJ G2 (acc++[x]) Q
  | some c=>c E pJ G1 fun k G2=>if k=true then e E pJ G2 fun x G3=>jg g (some c) e ok r E pJ G3 (acc++[x]) Q else jg g (some c) e ok r E pJ G2 acc Q
def wZ(m:Nat)(fr:List Nat)(τ:iD):iD:=bg m none++fr.map fun i=>(τ[i]?).getD none
def fT(m:Nat)(fr:List Nat)(i:NT)(g:A7)(c:Option xY)(e:fV):fV:=fun E τ G Q =>
 i E τ G fun ds ok G1=>ds.length<=SZ/\jg g c e ok ds (fun _ _=>False) (wZ m fr τ) G1 [] fun xs G2=>gO G2 (.lst xs) Q
abbrev tI(ns:List Int):D:=.tup (ns.map D.int)
def aa7:List Int->Option Int
 | []=>none
 | a :: r=>some (r.foldl (fun m x=>if x < m then x else m) a)
def aa6:List (List Int)->Option (List Int)
 | []=>none
 | a :: r=>some (r.foldl (fun m x=>if lexLt x m=true then x else m) a)
def Rv(ds:List D)(G:Gp)(Q:DK):Prop:=match ds with
 | [x]=>(∃ ns m,itemsOf x G=some (ns.map D.int)/\aa7 ns=some m/\Q (.int m) G)\/∃ Z0 m,itemsOf x G=some (Z0.map tI)/\aa6 Z0=some m/\Q (tI m) G
 | _=>False
def tE:fV:=fun _ _ G Q=>gO G (.gK []) Q
def fD(G G':Gp):Prop:=∀ a o,G a=some o->G' a=some o
theorem fD.refl(G:Gp):fD G G:=fun _ _ h=>h
theorem fD.trans{G G1 G2:Gp}(a:fD G G1)(b:fD G1 G2):fD G G2:=fun c o h=>b c o (a c o h)
theorem fD.new{G:Gp}{p:Nat}{o:GO}(h:G p=none):fD G (eV G p o):=fun a ob e=>by
 by_cases ha:a=p
 ·subst ha; rw [h] at e; cases e
 ·rw [cL ha]; exact e
theorem fD.free{G G':Gp}{p:Nat}(l:fD G G')(h:G' p=none):G p=none:=by
 cases q:G p with
 | none=>rfl
 | some o=>rw [l p o q] at h; cases h
theorem fD.put{G G':Gp}{p:Nat}{o:GO}(l:fD G G')(h:G p=none):fD G (eV G' p o):=fun a ob e=>by
 by_cases ha:a=p
 ·subst ha; rw [h] at e; cases e
 ·rw [cL ha]; exact l a ob e
def ends(Q:DK):nQ:=⟨fun _ G=>Q .eN G,Q,fun _ _=>False,fun _ _=>False⟩
def bo(n:Nat)(ds:List D):iD:=ds.map some++bg (n - ds.length) none
def QD(x:D)(G1:Gp)(R:List D->(Gp->Prop)->Gp->Prop):Prop:=match x with
 | .tup ds=>R ds (fun _=>True) G1
 | .cW ds=>R ds (fun _=>True) G1
 | .ref p=>(match G1 p with
  | some (.lst ds)=>R ds (fun G2=>G2 p=some (.lst ds)) G1
  | _=>False)
 | _=>False
def PQ(x:D)(G1:Gp)(Q:Option Int->Gp->Prop):Prop:=match x with
 | .int i=>Q (some i) G1
 | _=>False
def rz(x:D)(G1:Gp)(Q:Bool->Gp->Prop):Prop:=match HN x G1 with
 | some b=>Q b G1
 | none=>False
def UP(x:D)(G1:Gp)(R:List D->(Gp->Prop)->Gp->Prop):Prop:=match x with
 | .int n=>-(2 ^ 62)<=n/\n < 2 ^ 62/\R (gJ 0 n.toNat) (fun _=>True) G1
 | _=>False
def isAt(C:String)(x:D)(G1:Gp)(Q:DK):Prop:=match U8 C x G1 with
 | some b=>Q (.bl b) G1
 | none=>False
theorem gi{i j:Int}{G:Gp}{Q:DK}:kB (.int i) (.int j) G Q=Q (.int (i+j)) G:=rfl
theorem Fq{a b:List D}{G:Gp}{Q:DK}:kB (.tup a) (.tup b) G Q=(a≠[]/\a.length+b.length<=SZ/\Q (.tup (a++b)) G):=rfl
theorem uY{i j:Int}{G:Gp}{Q:DK}:S2 (.int i) (.int j) G Q=Q (.int (i - j)) G:=rfl
theorem uZ{i j:Int}{G:Gp}{Q:DK}:MO (.int i) (.int j) G Q=(MulOk i j/\Q (.int (i * j)) G):=rfl
theorem gX{i j:Int}{G:Gp}{Q:DK}:pQ (.int i) (.int j) G Q=(0 < j/\Q (.int (i % j)) G):=rfl
theorem mR{i j:Int}{G:Gp}{Q:DK}:zt (.int i) (.int j) G Q=(0 < j/\j < 2 ^ 30/\Q (.int (i / j)) G):=rfl
theorem rL{i:Int}{G:Gp}{Q:DK}:MN (.int i) G Q=Q (.int (-i)) G:=rfl
theorem ym{i j:Int}{G:Gp}{Q:DK}:UR (.int i) (.int j) G Q=Q (.bl (decide (i < j))) G:=rfl
theorem KS{i j:Int}{G:Gp}{Q:DK}:Yi (.int i) (.int j) G Q=Q (.bl (decide (i<=j))) G:=rfl
theorem S5{i j:Int}{G:Gp}{Q:DK}:rGt (.int i) (.int j) G Q=Q (.bl (decide (i > j))) G:=rfl
theorem S6{i j:Int}{G:Gp}{Q:DK}:rGe (.int i) (.int j) G Q=Q (.bl (decide (i>=j))) G:=rfl
theorem S4{ds:List D}{i:Int}{d:D}{G:Gp}{Q:DK}(h:r8 ds i=some d):mz (.cW ds) (.int i) G Q=Q d G:=by unfold mz; simp only [h]
theorem KU{a:Nat}{ds:List D}{i:Int}{d:D}{G:Gp}{Q:DK}(h1:G a=some (.lst ds))(h:r8 ds i=some d):mz (.ref a) (.int i) G Q=Q d G:=by unfold mz; simp only [h1,h]
theorem KP{ds:List D}{lo hi:Option Int}{G:Gp}{Q:DK}:Pk (.tup ds) lo hi G Q=(¬ (jR ds.length 0 lo=0/\jR ds.length ds.length hi=ds.length)/\Q (.tup (cut ds lo hi)) G):=rfl
theorem yk{ds:List D}{lo hi:Option Int}{G:Gp}{Q:DK}:Pk (.cW ds) lo hi G Q=gO G (.lst (cut ds lo hi)) Q:=rfl
theorem S3{a:Nat}{ds:List D}{lo hi:Option Int}{G:Gp}{Q:DK}(h:G a=some (.lst ds)):Pk (.ref a) lo hi G Q=gO G (.lst (cut ds lo hi)) Q:=by unfold Pk; simp only [h]
theorem vQ{ds:List D}{G:Gp}{Q:DK}:qM [.cW ds] G Q=Q (.int (ds.length:Int)) G:=rfl
theorem Rx{ds:List D}{G:Gp}{Q:DK}:qM [.tup ds] G Q=Q (.int (ds.length:Int)) G:=rfl
theorem Ho{a:Nat}{ds:List D}{G:Gp}{Q:DK}(h:G a=some (.lst ds)):qM [.ref a] G Q=Q (.int (ds.length:Int)) G:=by unfold qM lenOf; simp only [h]
theorem e9{a:fV}{E:lP}{τ:iD}{G:Gp}{R:List D->(Gp->Prop)->Gp->Prop}:lu a E τ G R=a E τ G fun x G1=>QD x G1 R:=by
 unfold lu QD; rfl
theorem Lr{ds:List D}{G:Gp}{R:List D->(Gp->Prop)->Gp->Prop}:QD (.cW ds) G R=R ds (fun _=>True) G:=rfl
theorem DH{ds:List D}{G:Gp}{R:List D->(Gp->Prop)->Gp->Prop}:QD (.tup ds) G R=R ds (fun _=>True) G:=rfl
theorem Ls{a:Nat}{ds:List D}{G:Gp}{R:List D->(Gp->Prop)->Gp->Prop}(h:G a=some (.lst ds)):QD (.ref a) G R=R ds (fun G2=>G2 a=some (.lst ds)) G:=by unfold QD; simp only [h]
theorem nM{t:fV}{E:lP}{τ:iD}{G:Gp}{Q:Option Int->Gp->Prop}:oD t E τ G Q=t E τ G fun x G1=>PQ x G1 Q:=rfl
theorem lh{i:Int}{G:Gp}{Q:Option Int->Gp->Prop}:PQ (.int i) G Q=Q (some i) G:=rfl
theorem cQ{a:fV}{E:lP}{τ:iD}{G:Gp}{Q:Bool->Gp->Prop}:gv a E τ G Q=a E τ G fun x G1=>rz x G1 Q:=rfl
theorem bE{b:Bool}{G:Gp}{Q:Bool->Gp->Prop}:rz (.bl b) G Q=Q b G:=rfl
theorem pB{a:fV}{E:lP}{τ:iD}{G:Gp}{R:List D->(Gp->Prop)->Gp->Prop}:Aa a E τ G R=a E τ G fun x G1=>UP x G1 R:=rfl
theorem o3{n:Int}{G:Gp}{R:List D->(Gp->Prop)->Gp->Prop}:UP (.int n) G R=(-(2 ^ 62)<=n/\n < 2 ^ 62/\R (gJ 0 n.toNat) (fun _=>True) G):=rfl
theorem yC{C:String}{a:fV}{E:lP}{τ:iD}{G:Gp}{Q:DK}:NK C a E τ G Q=a E τ G fun x G1=>isAt C x G1 Q:=rfl
theorem Gr {C:String} {i:Int} {G:Gp} {Q:DK}:isAt C (.int i) G Q=Q (.bl (C == "int")) G:=rfl
theorem Qu {C:String} {ds:List D} {G:Gp} {Q:DK}:isAt C (.tup ds) G Q=Q (.bl (C == "tuple")) G:=rfl
theorem AG{a b:fV}{E:lP}{τ:iD}{G:Gp}{Q:DK}:Hd a b E τ G Q=a E τ G fun x G1=>rz x G1 fun k G2=>if k=true then b E τ G2 Q else Q x G2:=by
 unfold Hd rz;refine congrArg (a E τ G) ?_;funext x G1;cases HN x G1 with
 | none=>rfl
 | some k=>cases k <;> simp
theorem Ue{a b:fV}{E:lP}{τ:iD}{G:Gp}{Q:DK}:Zs a b E τ G Q=a E τ G fun x G1=>rz x G1 fun k G2=>if k=true then Q x G2 else b E τ G2 Q:=by
 unfold Zs rz;refine congrArg (a E τ G) ?_;funext x G1;cases HN x G1 with
 | none=>rfl
 | some k=>cases k <;> simp
theorem GY{a:fV}{E:lP}{τ:iD}{G:Gp}{Q:DK}:Rh a E τ G Q=a E τ G fun x G1=>rz x G1 fun k G2=>Q (.bl (!k)) G2:=rfl
theorem zv{a:Nat}{y:D}{G:Gp}{Q:DK}:kB (.ref a) y G Q=El (.ref a) y G Q:=by cases y <;> rfl
theorem zu{a:List D}{y:D}{G:Gp}{Q:DK}:kB (.cW a) y G Q=El (.cW a) y G Q:=by cases y <;> rfl
theorem KQ{a:Nat}{lo hi:Option Int}{G:Gp}{Q:DK}:Pk (.ref a) lo hi G Q=(match G a with
  | some (.lst ds)=>gO G (.lst (cut ds lo hi)) Q
  | _=>False):=rfl
theorem Df{a:Nat}{k:D}{G:Gp}{Q:DK}:mz (.ref a) k G Q=(match G a with
  | some (.lst ds)=>(match k with
   | .int i=>(match r8 ds i with
    | some d=>Q d G
    | none=>False)
   | _=>False)
  | some (.gK kvs)=>iw kvs k=true/\(match look kvs k with
   | some d=>Q d G
   | none=>False)
  | _=>False):=by unfold mz; cases k <;> rfl
theorem ja{ds:List D}{i:Int}{G:Gp}{Q:DK}:mz (.tup ds) (.int i) G Q=(match r8 ds i with
  | some d=>Q d G
  | none=>False):=rfl
theorem nA{ds:List D}{i:Int}{G:Gp}{Q:DK}:mz (.cW ds) (.int i) G Q=(match r8 ds i with
  | some d=>Q d G
  | none=>False):=rfl
theorem NQ{a:Nat}{G:Gp}{Q:DK}:xI [.ref a] G Q=(match G a with
  | some (.lst ds)=>gO G (.lst ds) Q
  | _=>False):=by
 unfold xI itemsOf;cases h:G a with
 | none=>simp only [h]
 | some g=>cases g <;> simp only [h]
theorem ka{a:Nat}{d:D}{G:Gp}{Q:DK}:mK (.ref a) [d] G Q=(match G a with
  | some (.lst xs)=>xs.length < SZ/\Q .eN (eV G a (.lst (xs++[d])))
  | _=>False):=rfl
theorem xB{a:Nat}{y:D}{G:Gp}{Q:DK}:yv (.ref a) [y] G Q=(match G a,ph y G with
  | some (.lst xs),some ys=>xs.length+ys.length<=SZ/\Q .eN (eV G a (.lst (xs++ys)))
  | _,_=>False):=rfl
theorem FX{a:Nat}{i:Int}{d:D}{G:Gp}{Q:DK}:TJ (.ref a) [.int i,d] G Q=(match G a with
  | some (.lst xs)=>0<=i/\i<=xs.length/\xs.length < SZ/\Q .eN (eV G a (.lst (xs.take i.toNat++d :: xs.drop i.toNat)))
  | _=>False):=rfl
theorem xS{a:Nat}{k d:D}{G:Gp}{Q:DK}:FV (.ref a) [k,d] G Q=(match G a with
  | some (.gK kvs)=>iw kvs k=true/\dH k=true/\(match look kvs k with
   | some v=>Q v G
   | none=>kvs.length < SZ/\Q d (eV G a (.gK (put kvs k d))))
  | _=>False):=rfl
theorem TV{p:Nat}{G:Gp}{R:List D->(Gp->Prop)->Gp->Prop}:QD (.ref p) G R=(match G p with
  | some (.lst ds)=>R ds (fun G2=>G2 p=some (.lst ds)) G
  | _=>False):=rfl
theorem Qv{C:String}{p:Nat}{G:Gp}{Q:DK}:isAt C (.ref p) G Q=(match G p with
  | some (.lst _)=>Q (.bl (C == "list")) G
  | some (.gK _)=>Q (.bl (C == "dict")) G
  | _=>False):=by
 unfold isAt U8;cases h:G p with
 | none=>simp only [h]
 | some g=>cases g <;> simp only [h]
theorem TU {C:String} {b:Bool} {G:Gp} {Q:DK}:isAt C (.bl b) G Q=Q (.bl (C == "bool" || C == "int")) G:=rfl
theorem pM{a:Nat}{G:Gp}:Be (.ref a) G=(match G a with
  | some (.lst _)=>True
  | _=>False):=rfl
theorem ye{a:Nat}{G:Gp}:SM (.ref a) G=(match G a with
  | some (.gK _)=>True
  | _=>False):=rfl
theorem SK{ds:List D}{G:Gp}:Be (.cW ds) G=True:=rfl
theorem yn{kvs:List (D×D)}{k:D}{G:Gp}{Q:DK}:mz (.kW kvs) k G Q=(iw kvs k=true/\(match look kvs k with
  | some d=>Q d G
  | none=>False)):=by unfold mz; cases k <;> rfl
theorem SJ{x:Str}{G:Gp}:tyS (.str x) G=True:=rfl
def Bv(R:Nat->Bool)(G:Gp):Gp:=fun a=>if R a=true then none else G a
mutual
inductive Fz (G:Gp) (R:Nat->Bool):D->D->Prop
 | same (d:D):Fz G R d d
 | tup {ds ss:List D}:Et G R ds ss->Fz G R (.tup ds) (.tup ss)
 | cW {ds ss:List D}:Et G R ds ss->Fz G R (.cW ds) (.cW ss)
 | ref {a:Nat} {ds ss:List D}:G a=some (.lst ds)->R a=true->Et G R ds ss->Fz G R (.ref a) (.cW ss)
 | gK {a:Nat} {kvs U4:List (D×D)}:G a=some (.gK kvs)->R a=true->Kk G R kvs U4->Fz G R (.ref a) (.kW U4)
 | qL {a:Nat} {kvs U4:List (PK×D)}:G a=some (.qL kvs)->R a=true->Et G R (kvs.map fun p=>p.2) (U4.map fun p=>p.2)->kvs.map (fun p=>p.1)=U4.map (fun p=>p.1)->Fz G R (.ref a) (.oV U4)
inductive Et (G:Gp) (R:Nat->Bool):List D->List D->Prop
 | nil:Et G R [] []
 | cons {d s:D} {ds ss:List D}:Fz G R d s->Et G R ds ss->Et G R (d :: ds) (s :: ss)
inductive Kk (G:Gp) (R:Nat->Bool):List (D×D)->List (D×D)->Prop
 | nil:Kk G R [] []
 | cons {k d s:D} {ds ss:List (D×D)}:Fz G R d s->Kk G R ds ss->Kk G R ((k,d) :: ds) ((k,s) :: ss)
end
theorem Kk.same{G:Gp}{R:Nat->Bool}:∀ (kvs:List (D×D)),Kk G R kvs kvs
 | []=>.nil
 | (k,v) :: r=>.cons (.same v) (Kk.same r)
def Mf(G:Gp)(x:D)(Q:DK):Prop:=∃ (R:Nat->Bool) (t:D),Fz G R x t/\Q t (Bv R G)
def cO(e:fV):fV:=fun E τ G Q=>e E τ G fun x G1=>Mf G1 x Q
def Ha(i:Nat)(t:hU):hU:=fun E K τ G=>t E { K with nx:=fun pJ G1=>match pJ[i]? with
 | some (some d)=>Mf G1 d fun t G2=>K.nx (pJ.set i (some t)) G2
 | _=>False } τ G
theorem Et.same{G:Gp}{R:Nat->Bool}:∀ (ds:List D),Et G R ds ds
 | []=>.nil
 | d :: ds=>.cons (.same d) (Et.same ds)
theorem vJ{G G1:Gp}(l:fD G G1):Bv (fun a=>(G a).isNone) G1=G:=by
 funext a;unfold Bv;cases h:G a with
 | none=>simp [h]
 | some o=>simp [l a o h,h]
theorem NH{G G1:Gp}{p:Nat}{o:GO}(l:fD G G1)(hp:G p=none)(h1:G1 p=some o):Bv (fun a=>(G a).isNone&&decide (a≠p)) G1=eV G p o:=by
 funext a;unfold Bv eV;by_cases ha:a=p
 ·subst ha; simp [h1]
 ·cases h:G a with
  | none=>simp [ha,h]
  | some o=>simp [l a o h,ha,h]
theorem du{G:Gp}{d:D}{Q:DK}(q:Q d G):Mf G d Q:=⟨fun _=>false,d,.same d,by
 have e:Bv (fun _=>false) G=G:=by funext a; simp [Bv]
 rw [e]; exact q⟩
theorem yA{G G1:Gp}{d:D}{Q:DK}(l:fD G G1)(q:Q d G):Mf G1 d Q:=⟨_,d,.same d,by rw [vJ l]; exact q⟩
theorem DM{G G1:Gp}{p:Nat}{o:GO}{Q:DK}(l:fD G G1)(hp:G p=none)(h1:G1 p=some o)(q:Q (.ref p) (eV G p o)):Mf G1 (.ref p) Q :=
 ⟨_,.ref p,.same _,by rw [NH l hp h1]; exact q⟩
theorem QW{G G1:Gp}{p:Nat}{ds ss:List D}{Q:DK}(l:fD G G1)(hp:G p=none)(h1:G1 p=some (.lst ds))(hs:Et G1 (fun a=>(G a).isNone) ds ss)(q:Q (.cW ss) G):Mf G1 (.ref p) Q :=
 ⟨_,.cW ss,.ref h1 (by simp [hp]) hs,by rw [vJ l]; exact q⟩
theorem jB{G G1:Gp}{p:Nat}{kvs:List (D×D)}{Q:DK}(l:fD G G1)(hp:G p=none)(h1:G1 p=some (.gK kvs))(q:Q (.kW kvs) G):Mf G1 (.ref p) Q :=
 ⟨fun a=>(G a).isNone,.kW kvs,.gK h1 (by simp [hp]) (.same _),by rw [vJ l]; exact q⟩
def BM:jU:=fun ds G Q _=>∃ ns:List Int,ds=[.cW (ns.map D.int)]/\ns.length<=63/\(∀ a,G a=none)/\∀ G',Q (.bl true) G'
theorem cV{a b:hU}{E:lP}{K:nQ}{τ:iD}{G:Gp}(P:iD->Gp->Prop)(h1:∀ N,(∀ τ G,P τ G->N τ G)->a E { K with nx:=N } τ G)(h2:∀ τ G,P τ G->b E K τ G):bZ a b E K τ G:=h1 (b E K) h2
theorem zc{a b:hU}{E:lP}{K:nQ}{τ:iD}{G:Gp}:bZ a b E K τ G=a E { K with nx:=b E K } τ G:=rfl
theorem cM{a:fV}{g:A7}{b:hU}{E:lP}{K:nQ}{τ:iD}{G:Gp}:bZ (bM a g) b E K τ G=bM a g E { K with nx:=b E K } τ G:=rfl
theorem E9{a:fV}{b:hU}{E:lP}{K:nQ}{τ:iD}{G:Gp}:bZ (lM a) b E K τ G=lM a E { K with nx:=b E K } τ G:=rfl
theorem QZ{g:A7}{body:hU}{ok:Gp->Prop}{ds:List D}{E:lP}{K:nQ}{τ:iD}{G:Gp}(I:List D->iD->Gp->Prop)
  (h0:I [] τ G) (b7:∀ pre τ G,I pre τ G->ok G)
  (step:∀ (pre:List D) (d:D) (post:List D) τ G (N:iD->Gp->Prop),ds=pre++d :: post->I pre τ G->(∀ we G2,I (pre++[d]) we G2->N we G2) ->
   g E d τ G fun pJ G1=>body E { K with nx:=N,ct:=N,bk:=K.nx } pJ G1)
  (fin:∀ τ G,I ds τ G->K.nx τ G):qA g body ok ds E K τ G:=by
 have main:∀ (post pre:List D) τ G,ds=pre++post->I pre τ G->qA g body ok post E K τ G:=by
  intro post;induction post with
  | nil =>
   intro pre τ G e h;rw [cC] at e;subst e;exact⟨b7 _ _ _ h,fin _ _ h⟩
  | cons d post ih =>
   intro pre τ G e h;refine⟨b7 _ _ _ h,?_⟩;exact step pre d post τ G _ e h fun we G2 h2=>ih (pre++[d]) we G2 (by rw [e,cU]; rfl) h2
 exact main ds [] τ G rfl h0
theorem Uh{g:A7}{c:Option xY}{e:fV}{ok:Gp->Prop}{ds:List D}{E:lP}{τ:iD}{G:Gp}{Q:List D->Gp->Prop}(I:List D->List D->iD->Gp->Prop)
  (h0:I [] [] τ G) (b7:∀ pre acc τ G,I pre acc τ G->ok G)
  (step:∀ (pre:List D) (d:D) (post acc:List D) τ G (N:iD->List D->Gp->Prop),ds=pre++d :: post->I pre acc τ G->(∀ we w7 G2,I (pre++[d]) w7 we G2->N we w7 G2) ->
   g E d τ G fun pJ G1=>match c with
    | none=>e E pJ G1 fun x G2=>N pJ (acc++[x]) G2
    | some c=>c E pJ G1 fun k G2=>if k=true then e E pJ G2 fun x G3=>N pJ (acc++[x]) G3 else N pJ acc G2)
  (fin:∀ acc τ G,I ds acc τ G->Q acc G):jg g c e ok ds E τ G [] Q:=by
 have main:∀ (post pre acc:List D) τ G,ds=pre++post->I pre acc τ G->jg g c e ok post E τ G acc Q:=by
  intro post;induction post with
  | nil =>
   intro pre acc τ G e h;rw [cC] at e;subst e;exact⟨b7 _ _ _ _ h,fin _ _ _ h⟩
  | cons d post ih =>
   intro pre acc τ G e' h;refine⟨b7 _ _ _ _ h,?_⟩;have:=step pre d post acc τ G (fun we w7 G2=>jg g c e ok post E we G2 w7 Q) e' h fun we w7 G2 h2=>ih (pre++[d]) w7 we G2 (by rw [e',cU]; rfl) h2;cases c with
   | none=>exact this
   | some c=>exact this
 exact main ds [] [] τ G rfl h0
theorem Sn.rI{G:Gp}{n:Nat}:∀ (ns:List Int),Sn G (n+1) (.cW (ns.map D.int)) (.cW (ns.map D.int))
 | []=>.Bl
 | i :: ns=>.rK (.int i) (Sn.rI ns)
theorem qg(a b:D)(r t:List D):lK (a :: r) (b :: t)=(ip a b&&lK r t):=rfl
theorem iS(a b:Int):ip (.int a) (.int b)=(a == b):=rfl
theorem JT(a b:List D):ip (.tup a) (.tup b)=lK a b:=rfl
theorem GX{α:Type} [DecidableEq α](a b:α)(as bs:List α):(decide (a=b)&&decide (as=bs))=decide (a :: as=b :: bs):=by
 by_cases h:a=b <;> by_cases h2:as=bs <;> simp [h,h2]
set_option genInjectivity true in structure T2 where
 a:Int
 b:Int
 deriving DecidableEq
set_option genInjectivity true in structure T3 where
 a:Int
 b:Int
 c:Int
 deriving DecidableEq
class Enc (α:Type) [DecidableEq α] where
 enc:α->D
 dep:Nat
 eqv:∀ a b,ip (enc a) (enc b)=decide (a=b)
 sn:∀ (G:Gp) (n:Nat) (a:α),dep<=n->Sn G n (enc a) (enc a)
open Enc (enc)
instance:Enc Int where
 enc:=D.int
 dep:=0
 eqv:=fun a b=>rfl
 sn:=fun G n a _=>.int a
instance:Enc Bool where
 enc:=D.bl
 dep:=0
 eqv:=fun a b=>R5 a b
 sn:=fun G n a _=>.bl a
instance:Enc T2 where
 enc:=fun t=>.tup [.int t.a,.int t.b]
 dep:=1
 eqv:=fun x y=>by
  cases x; cases y;rw [JT,qg,qg,iS,iS]; simp only [T2.mk.injEq]; rename_i a b c d; by_cases h:a=c <;> by_cases h2:b=d <;> simp [h,h2,show lK [] []=true from rfl]
 sn:=fun G n t h=>by
  obtain⟨m,rfl⟩:∃ m,n=m+1:=⟨n - 1,by lia⟩;exact .rB (.int _) (.rB (.int _) .IE)
instance:Enc T3 where
 enc:=fun t=>.tup [.int t.a,.int t.b,.int t.c]
 dep:=1
 eqv:=fun x y=>by
  cases x; cases y;rw [JT,qg,qg,qg,iS,iS,iS]; simp only [T3.mk.injEq]; rename_i a b e c d f; by_cases h:a=c <;> by_cases h2:b=d <;> by_cases h3:e=f <;> simp [h,h2,h3,show lK [] []=true from rfl]
 sn:=fun G n t h=>by
  obtain⟨m,rfl⟩:∃ m,n=m+1:=⟨n - 1,by lia⟩;exact .rB (.int _) (.rB (.int _) (.rB (.int _) .IE))
instance {α β:Type} [DecidableEq α] [DecidableEq β] [Enc α] [Enc β]:Enc (α×β) where
 enc:=fun t=>.tup [enc t.1,enc t.2]
 dep:=max (Enc.dep α) (Enc.dep β)+1
 eqv:=fun x y=>by
  cases x; cases y;rw [JT,qg,qg,Enc.eqv,Enc.eqv]; simp only [Prod.mk.injEq]; rename_i a b c d; by_cases h:a=c <;> by_cases h2:b=d <;> simp [h,h2,show lK [] []=true from rfl]
 sn:=fun G n t h=>by
  obtain⟨m,rfl⟩:∃ m,n=m+1:=⟨n - 1,by lia⟩;exact .rB (Enc.sn _ _ _ (by lia)) (.rB (Enc.sn _ _ _ (by lia)) .IE)
theorem GU{α:Type} [DecidableEq α] [Enc α]:∀ (a b:List α),lK (a.map enc) (b.map enc)=decide (a=b)
 | [],[]=>(decide_eq_true rfl).symm
 | [],b :: bs=>(decide_eq_false (fun z=>nomatch z)).symm
 | a :: as,[]=>(decide_eq_false (fun z=>nomatch z)).symm
 | a :: as,b :: bs=>by
  show (ip (enc a) (enc b)&&lK (as.map enc) (bs.map enc))=_;rw [Enc.eqv,GU as bs,GX]
theorem t6{α:Type} [DecidableEq α] [Enc α](G:Gp)(n:Nat)(h:Enc.dep α<=n):∀ (xs:List α),Sn G (n+1) (.cW (xs.map enc)) (.cW (xs.map enc))
 | []=>.Bl
 | a :: as=>.rK (Enc.sn _ _ _ h) (t6 G n h as)
instance {α:Type} [DecidableEq α] [Enc α]:Enc (List α) where
 enc:=fun xs=>.cW (xs.map enc)
 dep:=Enc.dep α+1
 eqv:=fun a b=>by
  show lK _ _=_;exact GU a b
 sn:=fun G n t h=>by
  obtain⟨m,rfl⟩:∃ m,n=m+1:=⟨n - 1,by lia⟩;exact t6 G m (by lia) t
section
variable {α:Type} [DecidableEq α] [Enc α]
theorem Uu(L:List α)(t:α):(L.map enc).any (ip · (enc t))=decide (t∈L):=by
 induction L with
 | nil=>simp
 | cons a r ih =>
  simp only [aq,lY,Enc.eqv,ih,bA];by_cases h:a=t
  ·simp [h]
  ·have h':¬ t=a:=fun z=>h z.symm;by_cases h2:t∈r <;> simp [h,h',h2]
end
section
variable {κ α:Type} [DecidableEq κ] [Enc κ] [DecidableEq α] [Enc α]
def bB(l:List (κ×α)):List (D×D):=l.map fun p=>(enc p.1,enc p.2)
def cF(l:List (κ×α))(k:κ):Option α:=(l.find? fun p=>p.1=k).map (·.2)
def eY(l:List (κ×α))(k:κ)(v:α):List (κ×α):=if (l.any fun p=>p.1=k)=true then l.map (fun p=>if p.1=k then (p.1,v) else p) else l++[(k,v)]
theorem vh(l:List (κ×α))(k:κ):look (bB l) (enc k)=(cF l k).map enc:=by
 unfold look cF bB;induction l with
 | nil=>rfl
 | cons p r ih =>
  rw [aq,eQ,eQ];simp only [Enc.eqv];by_cases h:p.1=k
  ·simp [h]
  ·simp only [h,decide_false]; exact ih
theorem KZ(l:List (κ×α))(k:κ)(v:α):put (bB l) (enc k) (enc v)=bB (eY l k v):=by
 unfold put eY;have e:((bB l).any fun p=>ip p.1 (enc k))=l.any fun p=>decide (p.1=k):=by
  unfold bB; rw [List.any_map]; congr 1; funext p; exact Enc.eqv _ _
 rw [e];split
 ·unfold bB; rw [aS,aS];refine di fun p _=>?_;simp only [Function.comp,Enc.eqv,decide_eq_true_eq];split <;> rfl
 ·unfold bB; rw [aM]; rfl
theorem sX(l:List (κ×α))(k j:κ)(v:α):cF (eY l k v) j=if k=j then some v else cF l j:=by
 unfold eY;split
 ·rename_i h;unfold cF;induction l with
  | nil=>simp at h
  | cons p r ih =>
   rw [aq,eQ,eQ];by_cases h1:p.1=k
   ·rw [if_pos h1];by_cases h2:k=j
    ·simp [h1,h2]
    ·have:¬ p.1=j:=fun z=>h2 (h1.symm.trans z);simp only [this,decide_false,h2,if_false];by_cases h3:(r.any fun p=>decide (p.1=k))=true
     ·have:=ih h3;rw [if_neg h2] at this;exact this
     ·congr 1;have:r.map (fun p=>if p.1=k then (p.1,v) else p)=r:=by
       conv=>rhs; rw [<-jL r]
       refine di fun q hq=>?_;rw [if_neg]; rfl;intro z; exact h3 (List.any_eq_true.mpr ⟨q,hq,by simpa using z⟩)
      rw [this]
   ·rw [if_neg h1];have h3:(r.any fun p=>decide (p.1=k))=true:=by simpa [h1] using h
    by_cases h2:p.1=j
    ·have:¬ k=j:=fun z=>h1 (h2.trans z.symm);simp [h2,this]
    ·simp only [h2,decide_false]; exact ih h3
 ·rename_i h;unfold cF;rw [List.find?_append];by_cases h2:k=j
  ·subst h2;have:l.find? (fun p=>decide (p.1=k))=none:=by
    rw [hW];intro p hp z;exact h (List.any_eq_true.mpr ⟨p,hp,z⟩)
   rw [this]; simp
  ·simp [h2]
theorem sd(l:List (κ×α))(k:κ)(v:α):(eY l k v).length<=l.length+1:=by
 unfold eY; split <;> simp
end
class w9 (κ:Type) [DecidableEq κ] [Enc κ] where
 ok:(∀ k:κ,dH (enc k)=true)\/∀ k:κ,lr (enc k)=true
instance:w9 Int:=⟨.inl fun _=>rfl⟩
instance:w9 T2:=⟨.inr fun _=>rfl⟩
instance:w9 T3:=⟨.inr fun _=>rfl⟩
theorem nI{κ α:Type} [DecidableEq κ] [Enc κ] [w9 κ] [DecidableEq α] [Enc α](l:List (κ×α))(k:κ):iw (bB l) (enc k)=true:=by
 unfold iw bB;rcases w9.ok (κ:=κ) with h | h
 ·rw [gG]; left;rw [h k,Og,iV,fm];intro p _; exact h p.1
 ·rw [gG]; right;rw [h k,Og,iV,fm];intro p _; exact h p.1
end K2
end
section
namespace K2
open PySem (Str)
open Enc (enc)
mutual
def pe:D->D->Bool
 | .int a,.int b=>decide (a < b)
 | .tup a,.tup b=>mL a b
 | .cW a,.cW b=>mL a b
 | _,_=>false
def mL:List D->List D->Bool
 | [],[]=>false
 | [],_ :: _=>true
 | _ :: _,[]=>false
 | x :: xs,y :: ys=>if ip x y=true then mL xs ys else pe x y
end
theorem nG(x y:D)(xs ys:List D):mL (x :: xs) (y :: ys)=if ip x y=true then mL xs ys else pe x y:=rfl
theorem P8(a b:Int):pe (.int a) (.int b)=decide (a < b):=rfl
inductive og where
 | int | tup (l:List og) | lst (s:og)
mutual
def cK:og->D->Bool
 | .int,.int _=>true
 | .tup l,.tup ds=>fG l ds
 | .lst s,.cW ds=>g8 s ds
 | _,_=>false
def fG:List og->List D->Bool
 | [],[]=>true
 | s :: l,d :: ds=>cK s d&&fG l ds
 | _,_=>false
def g8:og->List D->Bool
 | _,[]=>true
 | s,d :: ds=>cK s d&&g8 s ds
end
theorem dM{a:D}(h:cK .int a=true):∃ i,a=.int i:=by cases a <;> first | exact⟨_,rfl⟩ | exact bc (show false=true from h)
theorem dI{l:List og}{a:D}(h:cK (.tup l) a=true):∃ x,a=.tup x:=by cases a <;> first | exact⟨_,rfl⟩ | exact bc (show false=true from h)
theorem dJ{l:og}{a:D}(h:cK (.lst l) a=true):∃ x,a=.cW x:=by cases a <;> first | exact⟨_,rfl⟩ | exact bc (show false=true from h)
mutual
def Vp:og->Nat
 | .int=>0
 | .tup l=>Rb l+1
 | .lst s=>Vp s+1
def Rb:List og->Nat
 | []=>0
 | s :: l=>max (Vp s) (Rb l)
end
def Wq(sh:og):Bool:=decide (Vp sh<=7)&&(match sh with
 | .tup []=>false
 | _=>true)
def Sd(a b:D):Bool:=!pe b a
def rC(ds:List D):List D:=ds.mergeSort Sd
def vP(ds:List D)(G:Gp)(Q:DK):Prop:=match ds with
 | [x]=>∃ (sh:og) (xs:List D),Be x G/\itemsOf x G=some xs/\xs.all (cK sh)=true/\Wq sh=true/\xs.length < 64/\gO G (.lst (rC xs)) Q
 | _=>False
class aT (α:Type) [DecidableEq α] [Enc α] where
 lt:α->α->Bool
 Bk:og
 Ah:∀ a:α,cK Bk (enc a)=true
 Sb:∀ a b:α,pe (enc a) (enc b)=lt a b
 HV:∀ a,lt a a=false
 trans:∀ a b c,lt a b=true->lt b c=true->lt a c=true
 nW:∀ a b,lt a b=false->lt b a=false->a=b
instance:aT Int where
 lt:=fun a b=>decide (a < b)
 Bk:=.int
 Ah:=fun _=>rfl
 Sb:=fun a b=>rfl
 HV:=fun a=>by simp
 trans:=fun a b c h1 h2=>by simp at *; lia
 nW:=fun a b h1 h2=>by simp at *; lia
def qI{α:Type} [DecidableEq α](lt:α->α->Bool):List α->List α->Bool
 | [],[]=>false
 | [],_ :: _=>true
 | _ :: _,[]=>false
 | x :: xs,y :: ys=>if x=y then qI lt xs ys else lt x y
theorem wM{α:Type} [DecidableEq α](lt:α->α->Bool)(x y:α)(xs ys:List α):qI lt (x :: xs) (y :: ys)=if x=y then qI lt xs ys else lt x y:=rfl
section
variable {α:Type} [DecidableEq α] {lt:α->α->Bool}
theorem vm:∀ x:List α,qI lt x x=false
 | []=>rfl
 | a :: x=>by simp only [wM,if_true]; exact vm x
theorem vk(t:∀ a b,lt a b=false->lt b a=false->a=b):∀ (x y:List α),qI lt x y=false->qI lt y x=false->x=y
 | [],[],_,_=>rfl
 | [],_ :: _,h,_=>by cases h
 | _ :: _,[],_,h=>by cases h
 | a :: x,b :: y,h1,h2=>by
  simp only [wM] at h1 h2;by_cases e:a=b
  ·subst e;simp only [if_true] at h1 h2;rw [vk t x y h1 h2]
  ·rw [if_neg e] at h1;rw [if_neg (eD e)] at h2;exact absurd (t a b h1 h2) e
theorem qb(ir:∀ a,lt a a=false)(tr:∀ a b c,lt a b=true->lt b c=true->lt a c=true):∀ (x y z:List α),qI lt x y=true->qI lt y z=true->qI lt x z=true
 | [],[],_,h,_=>by cases h
 | [],_ :: _,[],_,h=>by cases h
 | [],_ :: _,_ :: _,_,_=>rfl
 | _ :: _,[],_,h,_=>by cases h
 | _ :: _,_ :: _,[],_,h=>by cases h
 | a :: x,b :: y,c :: z,h1,h2=>by
  simp only [wM] at h1 h2 ⊢;by_cases e1:a=b
  ·subst e1;simp only [if_true] at h1;by_cases e2:a=c
   ·subst e2;simp only [if_true] at h2 ⊢;exact qb ir tr x y z h1 h2
   ·rw [if_neg e2] at h2 ⊢; exact h2
  ·rw [if_neg e1] at h1;by_cases e2:b=c
   ·subst e2;rw [if_neg e1]; exact h1
   ·rw [if_neg e2] at h2;have h3:=tr _ _ _ h1 h2;rw [if_neg (by rintro rfl; rw [ir] at h3; cases h3)]; exact h3
end
theorem ve{α:Type} [DecidableEq α] [Enc α] [aT α]:∀ (x y:List α),mL (x.map enc) (y.map enc)=qI (aT.lt (α:=α)) x y
 | [],[]=>rfl
 | [],_ :: _=>rfl
 | _ :: _,[]=>rfl
 | a :: x,b :: y=>by simp only [aq,nG,wM,Enc.eqv,ve x y,aT.Sb,decide_eq_true_eq]
theorem Cm{α:Type} [DecidableEq α] [Enc α] [aT α]:∀ (x:List α),g8 (aT.Bk α) (x.map enc)=true
 | []=>rfl
 | a :: x=>by simp only [aq,g8,aT.Ah,Cm x,Bool.and_self]
instance {α:Type} [DecidableEq α] [Enc α] [aT α]:aT (List α) where
 lt:=qI aT.lt
 Bk:=.lst (aT.Bk α)
 Ah:=fun a=>Cm a
 Sb:=fun a b=>ve a b
 HV:=vm
 trans:=qb aT.HV aT.trans
 nW:=vk aT.nW
def T2.l(t:T2):List Int:=[t.a,t.b]
def T3.l(t:T3):List Int:=[t.a,t.b,t.c]
instance:aT T2 where
 lt:=fun x y=>qI (fun a b=>decide (a < b)) x.l y.l
 Bk:=.tup [.int,.int]
 Ah:=fun _=>rfl
 Sb:=fun a b=>ve a.l b.l
 HV:=fun a=>vm _
 trans:=fun a b c=>qb (α:=Int) aT.HV aT.trans _ _ _
 nW:=fun ⟨a,b⟩ ⟨c,d⟩ h1 h2=>by
  have:=vk (α:=Int) aT.nW _ _ h1 h2;simpa [T2.l] using this
instance:aT T3 where
 lt:=fun x y=>qI (fun a b=>decide (a < b)) x.l y.l
 Bk:=.tup [.int,.int,.int]
 Ah:=fun _=>rfl
 Sb:=fun a b=>ve a.l b.l
 HV:=fun a=>vm _
 trans:=fun a b c=>qb (α:=Int) aT.HV aT.trans _ _ _
 nW:=fun ⟨a,b,e⟩ ⟨c,d,f⟩ h1 h2=>by
  have:=vk (α:=Int) aT.nW _ _ h1 h2;simpa [T3.l] using this
section
variable {α:Type} [DecidableEq α] [Enc α] [aT α]
def Gh(a b:α):Bool:=!aT.lt b a
def SW(xs:List α):List α:=xs.mergeSort Gh
theorem MF(xs:List α):rC (xs.map enc)=(SW xs).map enc:=by
 unfold rC SW;symm;exact List.map_mergeSort fun a _ b _=>by unfold Gh Sd; rw [aT.Sb]
theorem Cb(a b c:α)(h1:Gh a b=true)(h2:Gh b c=true):Gh a c=true:=by
 unfold Gh at *;simp only [sA] at *;cases h:aT.lt c a with
 | false=>rfl
 | true =>
  by_cases e:a=b
  ·subst e; rw [h] at h2; cases h2
  ·have Jy:aT.lt a b=true:=by
    cases q:aT.lt a b with
    | true=>rfl
    | false=>exact absurd (aT.nW _ _ q h1) e
   rw [aT.trans _ _ _ h Jy] at h2; cases h2
theorem Gg(a b:α)(h1:Gh a b=true)(h2:Gh b a=true):a=b:=by
 unfold Gh at *;exact aT.nW a b (by simpa using h2) (by simpa using h1)
theorem uM(xs:List α):(SW xs).Perm xs:=List.mergeSort_perm xs Gh
theorem SV{xs:List α}{x:α}:x∈SW xs↔x∈xs:=(uM xs).mem_iff
theorem ME{xs:List α}(h:xs.Nodup):(SW xs).Nodup:=(uM xs).nodup_iff.mpr h
end
end K2
end
section
namespace K2
open PySem (Str)
mutual
theorem lx:∀ (sh:og) (a:D),cK sh a=true->ip a a=true
 | .int,.int i,_=>by show (i == i)=true; exact beq_self_eq_true i
 | .tup l,.tup xs,h=>by show lK xs xs=true; exact xF l xs h
 | .lst l,.cW xs,h=>by show lK xs xs=true; exact xG l xs h
theorem xF:∀ (l:List og) (xs:List D),fG l xs=true->lK xs xs=true
 | [],[],_=>rfl
 | s :: l,x :: xs,h=>by
  have h:(cK s x&&fG l xs)=true:=h;rw [aI] at h;show (ip x x&&lK xs xs)=true;rw [lx s x h.1,xF l xs h.2]; rfl
theorem xG:∀ (s:og) (xs:List D),g8 s xs=true->lK xs xs=true
 | _,[],_=>rfl
 | s,x :: xs,h=>by
  have h:(cK s x&&g8 s xs)=true:=h;rw [aI] at h;show (ip x x&&lK xs xs)=true;rw [lx s x h.1,xG s xs h.2]; rfl
end
theorem W7(s:og)(ih:∀ (a b:D),cK s a=true->cK s b=true->ip a b=true->a=b):∀ (xs ys:List D),g8 s xs=true->g8 s ys=true->lK xs ys=true->xs=ys:=by
 intro xs;induction xs with
 | nil=>intro ys _ _ h; cases ys with
  | nil=>rfl
  | cons _ _=>cases h
 | cons x xs YT =>
  intro ys h1 h2 h;cases ys with
  | nil=>cases h
  | cons y ys =>
   have h1:(cK s x&&g8 s xs)=true:=h1;have h2:(cK s y&&g8 s ys)=true:=h2;have h:(ip x y&&lK xs ys)=true:=h;rw [aI] at h1 h2 h;rw [ih x y h1.1 h2.1 h.1,YT ys h1.2 h2.2 h.2]
mutual
theorem qB:∀ (sh:og) (a b:D),cK sh a=true->cK sh b=true->ip a b=true->a=b
 | .int,a,b,h1,h2,h=>by
  first | obtain⟨_,rfl⟩:=dM h1 | obtain⟨_,rfl⟩:=dI h1 | obtain⟨_,rfl⟩:=dJ h1
  first | obtain⟨_,rfl⟩:=dM h2 | obtain⟨_,rfl⟩:=dI h2 | obtain⟨_,rfl⟩:=dJ h2
  rw [iS] at h; rw [beq_iff_eq.mp h]
 | .tup l,a,b,h1,h2,h=>by
  first | obtain⟨_,rfl⟩:=dM h1 | obtain⟨_,rfl⟩:=dI h1 | obtain⟨_,rfl⟩:=dJ h1
  first | obtain⟨_,rfl⟩:=dM h2 | obtain⟨_,rfl⟩:=dI h2 | obtain⟨_,rfl⟩:=dJ h2
  rw [Q7 l _ _ h1 h2 h]
 | .lst l,a,b,h1,h2,h=>by
  first | obtain⟨_,rfl⟩:=dM h1 | obtain⟨_,rfl⟩:=dI h1 | obtain⟨_,rfl⟩:=dJ h1
  first | obtain⟨_,rfl⟩:=dM h2 | obtain⟨_,rfl⟩:=dI h2 | obtain⟨_,rfl⟩:=dJ h2
  rw [W7 l (qB l) _ _ h1 h2 h]
theorem Q7:∀ (l:List og) (xs ys:List D),fG l xs=true->fG l ys=true->lK xs ys=true->xs=ys
 | [],xs,ys,h1,h2,_=>by
  cases xs with
  | nil=>cases ys with
   | nil=>rfl
   | cons _ _=>cases h2
  | cons _ _=>cases h1
 | s :: l,xs,ys,h1,h2,h=>by
  cases xs with
  | nil=>cases h1
  | cons x xs =>
   cases ys with
   | nil=>cases h2
   | cons y ys =>
    have h1:(cK s x&&fG l xs)=true:=h1;have h2:(cK s y&&fG l ys)=true:=h2;have h:(ip x y&&lK xs ys)=true:=h;rw [aI] at h1 h2 h;rw [qB s x y h1.1 h2.1 h.1,Q7 l xs ys h1.2 h2.2 h.2]
end
theorem P7(s:og)(ih:∀ (a b:D),cK s a=true->cK s b=true->pe a b=false->pe b a=false->a=b):∀ (xs ys:List D),g8 s xs=true->g8 s ys=true->mL xs ys=false->mL ys xs=false->xs=ys:=by
 intro xs;induction xs with
 | nil=>intro ys _ _ h _; cases ys with
  | nil=>rfl
  | cons _ _=>cases h
 | cons x xs YT =>
  intro ys h1 h2 h3 h4;cases ys with
  | nil=>cases h4
  | cons y ys =>
   have h1:(cK s x&&g8 s xs)=true:=h1;have h2:(cK s y&&g8 s ys)=true:=h2;rw [aI] at h1 h2;simp only [nG] at h3 h4;by_cases e:ip x y=true
   ·have exy:=qB s x y h1.1 h2.1 e;subst exy;rw [if_pos e] at h3 h4;rw [YT ys h1.2 h2.2 h3 h4]
   ·rw [if_neg e] at h3;by_cases e2:ip y x=true
    ·have:=qB s y x h2.1 h1.1 e2;subst this; exact absurd e2 e
    ·rw [if_neg e2] at h4;have:=ih x y h1.1 h2.1 h3 h4;subst this;exact absurd (lx s x h1.1) e
mutual
theorem yy:∀ (sh:og) (a b:D),cK sh a=true->cK sh b=true->pe a b=false->pe b a=false->a=b
 | .int,a,b,h1,h2,h3,h4=>by
  first | obtain⟨_,rfl⟩:=dM h1 | obtain⟨_,rfl⟩:=dI h1 | obtain⟨_,rfl⟩:=dJ h1
  first | obtain⟨_,rfl⟩:=dM h2 | obtain⟨_,rfl⟩:=dI h2 | obtain⟨_,rfl⟩:=dJ h2
  simp [P8] at h3 h4; congr 1; lia
 | .tup l,a,b,h1,h2,h3,h4=>by
  first | obtain⟨_,rfl⟩:=dM h1 | obtain⟨_,rfl⟩:=dI h1 | obtain⟨_,rfl⟩:=dJ h1
  first | obtain⟨_,rfl⟩:=dM h2 | obtain⟨_,rfl⟩:=dI h2 | obtain⟨_,rfl⟩:=dJ h2
  rw [FZ l _ _ h1 h2 h3 h4]
 | .lst l,a,b,h1,h2,h3,h4=>by
  first | obtain⟨_,rfl⟩:=dM h1 | obtain⟨_,rfl⟩:=dI h1 | obtain⟨_,rfl⟩:=dJ h1
  first | obtain⟨_,rfl⟩:=dM h2 | obtain⟨_,rfl⟩:=dI h2 | obtain⟨_,rfl⟩:=dJ h2
  rw [P7 l (yy l) _ _ h1 h2 h3 h4]
theorem FZ:∀ (l:List og) (xs ys:List D),fG l xs=true->fG l ys=true->mL xs ys=false->mL ys xs=false->xs=ys
 | [],xs,ys,h1,h2,_,_=>by
  cases xs with
  | nil=>cases ys with
   | nil=>rfl
   | cons _ _=>cases h2
  | cons _ _=>cases h1
 | s :: l,xs,ys,h1,h2,h3,h4=>by
  cases xs with
  | nil=>cases h1
  | cons x xs =>
   cases ys with
   | nil=>cases h2
   | cons y ys =>
    have h1:(cK s x&&fG l xs)=true:=h1;have h2:(cK s y&&fG l ys)=true:=h2;rw [aI] at h1 h2;simp only [nG] at h3 h4;by_cases e:ip x y=true
    ·have exy:=qB s x y h1.1 h2.1 e;subst exy;rw [if_pos e] at h3 h4;rw [FZ l xs ys h1.2 h2.2 h3 h4]
    ·rw [if_neg e] at h3;by_cases e2:ip y x=true
     ·have:=qB s y x h2.1 h1.1 e2;subst this; exact absurd e2 e
     ·rw [if_neg e2] at h4;have:=yy s x y h1.1 h2.1 h3 h4;subst this;exact absurd (lx s x h1.1) e
end
mutual
theorem DB:∀ (sh:og) (a:D),cK sh a=true->pe a a=false
 | .int,.int i,_=>by rw [P8]; exact decide_eq_false (Int.lt_irrefl _)
 | .tup l,.tup xs,h=>by show mL xs xs=false; exact Ga l xs h
 | .lst l,.cW xs,h=>by show mL xs xs=false; exact Gb l xs h
theorem Ga:∀ (l:List og) (xs:List D),fG l xs=true->mL xs xs=false
 | [],[],_=>rfl
 | s :: l,x :: xs,h=>by
  have h:(cK s x&&fG l xs)=true:=h;rw [aI] at h;simp only [nG,lx s x h.1,if_true]; exact Ga l xs h.2
theorem Gb:∀ (s:og) (xs:List D),g8 s xs=true->mL xs xs=false
 | _,[],_=>rfl
 | s,x :: xs,h=>by
  have h:(cK s x&&g8 s xs)=true:=h;rw [aI] at h;simp only [nG,lx s x h.1,if_true]; exact Gb s xs h.2
end
theorem Jm(s:og)(ih:∀ (a b c:D),cK s a=true->cK s b=true->cK s c=true->pe a b=true->pe b c=true->pe a c=true):∀ (xs ys zs:List D),g8 s xs=true->g8 s ys=true->g8 s zs=true->mL xs ys=true->mL ys zs=true->mL xs zs=true:=by
 intro xs;induction xs with
 | nil =>
  intro ys zs _ _ _ h4 h5;cases ys with
  | nil=>cases h4
  | cons _ _=>cases zs with
   | nil=>cases h5
   | cons _ _=>rfl
 | cons x xs YT =>
  intro ys zs h1 h2 h3 h4 h5;cases ys with
  | nil=>cases h4
  | cons y ys =>
   cases zs with
   | nil=>cases h5
   | cons z zs =>
    have h1:(cK s x&&g8 s xs)=true:=h1;have h2:(cK s y&&g8 s ys)=true:=h2;have h3:(cK s z&&g8 s zs)=true:=h3;rw [aI] at h1 h2 h3;simp only [nG] at h4 h5 ⊢;by_cases e1:ip x y=true
    ·have:=qB s x y h1.1 h2.1 e1;subst this;rw [if_pos e1] at h4;by_cases e2:ip x z=true
     ·rw [if_pos e2] at h5 ⊢;exact YT ys zs h1.2 h2.2 h3.2 h4 h5
     ·rw [if_neg e2] at h5 ⊢; exact h5
    ·rw [if_neg e1] at h4;by_cases e2:ip y z=true
     ·have:=qB s y z h2.1 h3.1 e2;subst this;rw [if_neg e1]; exact h4
     ·rw [if_neg e2] at h5;have h6:=ih x y z h1.1 h2.1 h3.1 h4 h5;rw [if_neg (fun e3=>by
       have:=qB s x z h1.1 h3.1 e3;subst this;rw [DB s x h1.1] at h6; cases h6)]
      exact h6
mutual
theorem sJ:∀ (sh:og) (a b c:D),cK sh a=true->cK sh b=true->cK sh c=true->pe a b=true->pe b c=true->pe a c=true
 | .int,a,b,c,h1,h2,h3,h4,h5=>by
  first | obtain⟨_,rfl⟩:=dM h1 | obtain⟨_,rfl⟩:=dI h1 | obtain⟨_,rfl⟩:=dJ h1
  first | obtain⟨_,rfl⟩:=dM h2 | obtain⟨_,rfl⟩:=dI h2 | obtain⟨_,rfl⟩:=dJ h2
  first | obtain⟨_,rfl⟩:=dM h3 | obtain⟨_,rfl⟩:=dI h3 | obtain⟨_,rfl⟩:=dJ h3
  simp [P8] at *; lia
 | .tup l,a,b,c,h1,h2,h3,h4,h5=>by
  first | obtain⟨_,rfl⟩:=dM h1 | obtain⟨_,rfl⟩:=dI h1 | obtain⟨_,rfl⟩:=dJ h1
  first | obtain⟨_,rfl⟩:=dM h2 | obtain⟨_,rfl⟩:=dI h2 | obtain⟨_,rfl⟩:=dJ h2
  first | obtain⟨_,rfl⟩:=dM h3 | obtain⟨_,rfl⟩:=dI h3 | obtain⟨_,rfl⟩:=dJ h3
  exact zT l _ _ _ h1 h2 h3 h4 h5
 | .lst l,a,b,c,h1,h2,h3,h4,h5=>by
  first | obtain⟨_,rfl⟩:=dM h1 | obtain⟨_,rfl⟩:=dI h1 | obtain⟨_,rfl⟩:=dJ h1
  first | obtain⟨_,rfl⟩:=dM h2 | obtain⟨_,rfl⟩:=dI h2 | obtain⟨_,rfl⟩:=dJ h2
  first | obtain⟨_,rfl⟩:=dM h3 | obtain⟨_,rfl⟩:=dI h3 | obtain⟨_,rfl⟩:=dJ h3
  exact Jm l (sJ l) _ _ _ h1 h2 h3 h4 h5
theorem zT:∀ (l:List og) (xs ys zs:List D),fG l xs=true->fG l ys=true->fG l zs=true->mL xs ys=true->mL ys zs=true->mL xs zs=true
 | [],xs,ys,zs,h1,h2,_,h,_=>by
  cases xs with
  | nil=>cases ys with
   | nil=>cases h
   | cons _ _=>cases h2
  | cons _ _=>cases h1
 | s :: l,xs,ys,zs,h1,h2,h3,h4,h5=>by
  cases xs with
  | nil=>cases h1
  | cons x xs =>
   cases ys with
   | nil=>cases h2
   | cons y ys =>
    cases zs with
    | nil=>cases h3
    | cons z zs =>
     have h1:(cK s x&&fG l xs)=true:=h1;have h2:(cK s y&&fG l ys)=true:=h2;have h3:(cK s z&&fG l zs)=true:=h3;rw [aI] at h1 h2 h3;simp only [nG] at h4 h5 ⊢;by_cases e1:ip x y=true
     ·have:=qB s x y h1.1 h2.1 e1;subst this;rw [if_pos e1] at h4;by_cases e2:ip x z=true
      ·rw [if_pos e2] at h5 ⊢;exact zT l xs ys zs h1.2 h2.2 h3.2 h4 h5
      ·rw [if_neg e2] at h5 ⊢; exact h5
     ·rw [if_neg e1] at h4;by_cases e2:ip y z=true
      ·have:=qB s y z h2.1 h3.1 e2;subst this;rw [if_neg e1]; exact h4
      ·rw [if_neg e2] at h5;have h6:=sJ s x y z h1.1 h2.1 h3.1 h4 h5;rw [if_neg (fun e3=>by
        have:=qB s x z h1.1 h3.1 e3;subst this;rw [DB s x h1.1] at h6; cases h6)]
       exact h6
end
theorem B6(sh:og){a b:D}(h1:cK sh a=true)(h2:cK sh b=true)(h:pe a b=true):pe b a=false:=by
 cases q:pe b a with
 | false=>rfl
 | true=>have:=sJ sh a b a h1 h2 h1 h q; rw [DB sh a h1] at this; cases this
theorem zU(sh:og){a b c:D}(h1:cK sh a=true)(h2:cK sh b=true)(h3:cK sh c=true)(q1:pe b a=false)(q2:pe c b=false):pe c a=false:=by
 cases h:pe c a with
 | false=>rfl
 | true =>
  exfalso;cases q:pe a b with
  | false =>
   have:=yy sh a b h1 h2 q q1;subst this; rw [h] at q2; cases q2
  | true=>rw [sJ sh c a b h3 h1 h2 h q] at q2; cases q2
theorem uO(sh:og){xs ys:List D}(hx:∀ x∈xs,cK sh x=true)(hp:ys.Perm xs)(hs:ys.Pairwise fun a b=>pe b a=false):rC xs=ys:=by
 have hy:∀ y∈ys,cK sh y=true:=fun y h=>hx y (hp.mem_iff.mp h);have p1:(rC xs).Perm xs:=List.mergeSort_perm xs Sd;have hz:∀ z∈rC xs,cK sh z=true:=fun z h=>hx z (p1.mem_iff.mp h);have s1:(rC xs).Pairwise fun a b=>pe b a=false:=by
  let OL:List { d:D // cK sh d=true }:=xs.attach.map fun x=>⟨x.1,hx x.1 x.2⟩
  have ex:xs=OL.map (·.1):=by
   simp only [OL,aS]
   conv=>lhs; rw [<-List.attach_map_subtype_val xs]
   rfl
  have e2:rC xs=(OL.mergeSort fun a b=>Sd a.1 b.1).map (·.1):=by
   unfold rC;rw [ex];exact(List.map_mergeSort (r:=fun (a b:{ d:D // cK sh d=true })=>Sd a.1 b.1) (s:=Sd) (f:=fun x=>x.1) (l:=OL) fun a _ b _=>rfl).symm
  rw [e2,BK]
  have:=List.pairwise_mergeSort (le:=fun (a b:{ d:D // cK sh d=true })=>Sd a.1 b.1) (fun a b c h1 h2=>by
   unfold Sd at *;simp only [sA] at *;exact zU sh a.2 b.2 c.2 h1 h2) (fun a b=>by
   unfold Sd;cases q:pe b.1 a.1 with
   | false=>rfl
   | true=>rw [B6 sh b.2 a.2 q]; rfl) OL
  exact this.imp fun h=>by unfold Sd at h; simpa using h
 refine List.Perm.eq_of_pairwise (le:=fun a b=>pe b a=false) (fun a b ha hb h h'=>?_) s1 hs (p1.trans hp.symm);exact yy sh a b (hz a ha) (hy b hb) h' h
end K2
end
section
namespace K2
open PySem (Str)
open Enc (enc)
def nK(k:Nat):List D->List D
 | []=>[]
 | d :: r=>.tup [.int (k:Int),d] :: nK (k+1) r
theorem Cu:∀ (ds:List D) (k i:Nat),(nK k ds)[i]?=(ds[i]?).map fun d=>D.tup [.int ((k+i:Nat):Int),d]
 | [],k,i=>by simp [nK]
 | d :: r,k,0=>by simp [nK]
 | d :: r,k,i+1=>by
  rw [nK,ae,Cu r (k+1) i,ae];congr 1; funext x; congr 3; lia
theorem Ct:∀ (ds:List D) (k:Nat),(nK k ds).length=ds.length
 | [],_=>rfl
 | d :: r,k=>by rw [nK,ak,ak,Ct r]
def vw(x:D)(G1:Gp)(R:List D->(Gp->Prop)->Gp->Prop):Prop:=match x with
 | .cW ds=>R (nK 0 ds) (fun _=>True) G1
 | .ref p=>(match G1 p with
  | some (.lst ds)=>R (nK 0 ds) (fun G2=>G2 p=some (.lst ds)) G1
  | _=>False)
 | _=>False
def QC(a:fV):NT:=fun E τ G R=>a E τ G fun x G1=>vw x G1 R
def aaU(P:D->Gp->Prop):List D->Gp->Prop
 | [x],G=>P x G
 | _,_=>False
def aaT(P:D->D->Gp->Prop):List D->Gp->Prop
 | [x,y],G=>P x y G
 | _,_=>False
def pK:List D->List D->List D
 | x :: xs,y :: ys=>.tup [x,y] :: pK xs ys
 | _,_=>[]
theorem ET:∀ (xs ys:List D) (i:Nat),(pK xs ys)[i]?=(xs[i]?).bind fun x=>(ys[i]?).map fun y=>D.tup [x,y]
 | [],ys,i=>by simp [pK]
 | x :: xs,[],i=>by cases h:(x :: xs)[i]? <;> simp [pK]
 | x :: xs,y :: ys,0=>by simp [pK]
 | x :: xs,y :: ys,i+1=>by rw [pK,ae,ET xs ys i,ae,ae]
theorem ES:∀ (xs ys:List D),(pK xs ys).length=min xs.length ys.length
 | [],ys=>by simp [pK]
 | x :: xs,[]=>by simp [pK]
 | x :: xs,y :: ys=>by rw [pK,ak,ES xs ys,ak,ak]; lia
def vg(x:D)(G:Gp):Option (List D×(Gp->Prop)):=match x with
 | .cW ds=>some (ds,fun _=>True)
 | .ref p=>(match G p with
  | some (.lst ds)=>some (ds,fun G2=>G2 p=some (.lst ds))
  | _=>none)
 | _=>none
def uf(x y:D)(G1:Gp)(R:List D->(Gp->Prop)->Gp->Prop):Prop:=match vg x G1,vg y G1 with
 | some (xs,k1),some (ys,k2)=>R (pK xs ys) (fun G2=>k1 G2/\k2 G2) G1
 | _,_=>False
def QB(a b:fV):NT:=fun E τ G R=>a E τ G fun x G1=>b E τ G1 fun y G2=>uf x y G2 R
def DG(x:D)(G1:Gp)(R:List D->(Gp->Prop)->Gp->Prop):Prop:=match x with
 | .kW kvs=>R (kvs.map (·.1)) (fun _=>True) G1
 | _=>False
def Cf(a:fV):NT:=fun E τ G R=>a E τ G fun x G1=>DG x G1 R
def IsL(G:Gp)(d:D)(ds:List D):Prop:=d=.cW ds\/∃ a,d=.ref a/\G a=some (.lst ds)
theorem IsL.cW{G:Gp}{ds:List D}:IsL G (.cW ds) ds:=.inl rfl
theorem IsL.enc{α:Type} [DecidableEq α] [Enc α]{G:Gp}(xs:List α):IsL G (enc xs) (xs.map enc):=.inl rfl
theorem IsL.ref{G:Gp}{a:Nat}{ds:List D}(h:G a=some (.lst ds)):IsL G (.ref a) ds:=.inr ⟨a,rfl,h⟩
theorem IsL.mono{G G':Gp}{d:D}{ds:List D}(h:IsL G d ds)(l:fD G G'):IsL G' d ds:=by
 rcases h with h | ⟨a,h,e⟩
 ·exact .inl h
 ·exact .inr ⟨a,h,l a _ e⟩
theorem Ge{G:Gp}{d:D}{ds:List D}(h:IsL G d ds):∃ ok:Gp->Prop,vg d G=some (ds,ok)/\∀ G',fD G G'->ok G':=by
 rcases h with rfl | ⟨a,rfl,e⟩
 ·exact⟨_,rfl,fun _ _=>trivial⟩
 ·unfold vg; simp only [e]; exact⟨_,rfl,fun G' l=>l a _ e⟩
theorem Nl{G:Gp}{d d':D}{ds ds':List D}{R:List D->(Gp->Prop)->Gp->Prop}(h:IsL G d ds)(h':IsL G d' ds')(k:∀ ok:Gp->Prop,(∀ G',fD G G'->ok G')->R (pK ds ds') ok G):uf d d' G R:=by
 obtain⟨k1,e1,h1⟩:=Ge h;obtain⟨k2,e2,h2⟩:=Ge h';unfold uf; simp only [e1,e2];exact k _ fun G' l=>⟨h1 G' l,h2 G' l⟩
theorem ue{G:Gp}{d:D}{ds:List D}(h:IsL G d ds):itemsOf d G=some ds:=by
 rcases h with rfl | ⟨a,rfl,e⟩
 ·rfl
 ·unfold itemsOf; simp only [e]
theorem VN{G:Gp}{d:D}{ds:List D}(h:IsL G d ds):Be d G:=by
 rcases h with rfl | ⟨a,rfl,e⟩
 ·trivial
 ·unfold Be; simp only [e]
theorem wu{G:Gp}{d:D}{ds:List D}{lo hi:Option Int}{Q:DK}(h:IsL G d ds)(k:gO G (.lst (cut ds lo hi)) Q):Pk d lo hi G Q:=by
 rcases h with rfl | ⟨a,rfl,e⟩
 ·exact k
 ·rw [S3 e]; exact k
theorem LZ{G:Gp}{d:D}{ds:List D}{Q:DK}(h:IsL G d ds)(k:Q (.int (ds.length:Int)) G):qM [d] G Q:=by
 rcases h with rfl | ⟨a,rfl,e⟩
 ·exact k
 ·rw [Ho e]; exact k
theorem Rw{G:Gp}{d:D}{ds:List D}{Q:DK}(h:IsL G d ds)(k:gO G (.lst ds) Q):xI [d] G Q:=by
 unfold xI; simp only [ue h]; exact k
theorem AM{α:Type} [DecidableEq α] [Enc α] [aT α]{G:Gp}{d:D}{xs:List α}{Q:DK}(h:IsL G d (xs.map enc))(hl:xs.length < 64)(k:gO G (.lst ((SW xs).map enc)) Q)(ok:autoParam (Wq (aT.Bk α)=true) Ad._auto_1):vP [d] G Q :=
 ⟨aT.Bk α,xs.map enc,VN h,ue h,by rw [iV,fm]; intro x _; exact aT.Ah x,ok,by rw [ao]; exact hl,by rw [MF]; exact k⟩
theorem IQ{G:Gp}{d x:D}{ds:List D}{i:Int}{Q:DK}(h:IsL G d ds)(e:r8 ds i=some x)(k:Q x G):mz d (.int i) G Q:=by
 rcases h with rfl | ⟨a,rfl,e2⟩
 ·rw [S4 e]; exact k
 ·rw [KU e2 e]; exact k
theorem pg{G:Gp}{d:D}{ds:List D}(h:IsL G d ds):ph d G=some ds:=by
 rcases h with rfl | ⟨a,rfl,e⟩
 ·rfl
 ·unfold ph; simp only [e]
theorem Uv{G:Gp}{d e:D}{ds es:List D}{Q:DK}(h:IsL G d ds)(h':IsL G e es)(hz:ds.length+es.length<=SZ)(k:gO G (.lst (ds++es)) Q):El d e G Q:=by
 unfold El; simp only [pg h,pg h']; exact⟨hz,k⟩
theorem yp{G:Gp}{d e:D}{ds es:List D}{Q:DK}(h:IsL G d ds)(h':IsL G e es)(hz:ds.length+es.length<=SZ)(k:gO G (.lst (ds++es)) Q):kB d e G Q:=by
 have:=Uv h h' hz k;rcases h with rfl | ⟨a,rfl,_⟩
 ·rw [zu]; exact this
 ·rw [zv]; exact this
theorem vN{α:Type}(xs:List α)(i:Nat)(h:i<=xs.length):cut xs (some (i:Int)) none=xs.drop i:=by
 unfold cut jR;simp only;rw [if_neg (by lia),dE,Nat.min_eq_left h];exact OI (by rw [cB]; lia)
theorem D3{α:Type}(xs:List α)(i:Nat)(h:i<=xs.length):cut xs none (some (i:Int))=xs.take i:=by
 unfold cut jR;simp only;rw [if_neg (by lia),dE,Nat.min_eq_left h];simp
theorem qh{α β:Type}(f:α->β)(xs:List α)(lo hi:Option Int):cut (xs.map f) lo hi=(cut xs lo hi).map f:=by
 unfold cut; rw [ao,Oc,Od]
theorem ql{α:Type}(xs:List α){k:Int}(h0:0<=k)(h1:k < xs.length):r8 xs k=some (xs[k.toNat]'(by lia)):=by
 unfold r8 HU;rw [if_pos h0,if_pos h1];show xs[k.toNat]?=_;exact au (by lia)
theorem IM{n:Nat}{pre post:List D}{d:D}(h:gJ 0 n=pre++d :: post):d=.int (pre.length:Int)/\pre.length < n:=by
 have hl:pre.length < n:=by
  have:=congrArg dU h;simp [gJ] at this; lia
 have:=congrArg (fun l=>l[pre.length]?) h;simp only [gJ,aO,List.getElem?_range hl] at this;rw [bS (aC _)] at this;simp at this;exact⟨this.symm,hl⟩
def X2{α β:Type} [DecidableEq α] [Enc α] [DecidableEq β] [Enc β](pre:α->Prop)(f:α->β):jU:=fun ds G Q _=>∃ a:α,ds=[enc a]/\pre a/\Q (enc (f a)) G
def aaE{α β γ:Type} [DecidableEq α] [Enc α] [DecidableEq β] [Enc β] [DecidableEq γ] [Enc γ](pre:α->β->Prop)(f:α->β->γ):jU:=fun ds G Q _=>∃ (a:α) (b:β),ds=[enc a,enc b]/\pre a b/\Q (enc (f a b)) G
def V7:yI
 | .int i,.int j,G,Q=>(0<=j/\j<=1000000/\i.natAbs < 2 ^ 64)/\Q (.int (i ^ j.toNat)) G
 | _,_,_,_=>False
def tF:Nat:=2 ^ 4000
def KR:yI
 | .int i,.int j,G,Q=>(i.natAbs < tF/\j.natAbs < tF)/\Q (.int (i * j)) G
 | _,_,_,_=>False
theorem Fp{i j:Int}{G:Gp}{Q:DK}:V7 (.int i) (.int j) G Q=((0<=j/\j<=1000000/\i.natAbs < 2 ^ 64)/\Q (.int (i ^ j.toNat)) G):=rfl
theorem wx{i j:Int}{G:Gp}{Q:DK}:KR (.int i) (.int j) G Q=((i.natAbs < tF/\j.natAbs < tF)/\Q (.int (i * j)) G):=rfl
def vI:D->Gp->Option (List (D×D))
 | .kW kvs,_=>some kvs
 | .ref a,G=>match G a with
  | some (.gK kvs)=>some kvs
  | _=>none
 | _,_=>none
def vp(kvs:List (D×D)):Bool:=kvs.all fun p=>dH p.1
def L6(ds:List D)(G:Gp)(Q:DK):Prop:=match ds with
 | [x]=>∃ kvs,vI x G=some kvs/\vp kvs=true/\kvs.length<=SZ/\gO G (.gK kvs) Q
 | _=>False
def M4(x:D)(ds:List D)(G:Gp)(Q:DK):Prop:=match ds with
 | [k,d]=>∃ kvs,vI x G=some kvs/\vp kvs=true/\dH k=true/\Q ((look kvs k).getD d) G
 | _=>False
def Gw(x:D)(G1:Gp)(R:List D->(Gp->Prop)->Gp->Prop):Prop:=match x with
 | .kW kvs=>vp kvs=true/\R (kvs.map fun p=>.tup [p.1,p.2]) (fun _=>True) G1
 | _=>False
def mi(a:fV):NT:=fun E τ G R=>a E τ G fun x G1=>Gw x G1 R
def nC:D->Bool
 | .eN=>true
 | .bl _=>true
 | .int _=>true
 | _=>false
def LV(k v:fV):fV:=fun E τ G Q=>k E τ G fun x G1=>v E τ G1 fun y G2=>dH x=true/\gO G2 (.gK [(x,y)]) Q
def xX(l m:List (Int×Int)):Bool:=l.length == m.length&&l.all fun p=>cF m p.1 == some p.2
def V9(neg:Bool):yI:=fun x y G Q=>∃ l m:List (Int×Int),vI x G=some (bB l)/\vI y G=some (bB m)/\Q (.bl (if neg then !xX l m else xX l m)) G
def u6(neg:Bool):yI:=fun x y G Q=>Dh neg x y G Q\/V9 neg x y G Q
def AX{κ α:Type} [DecidableEq κ] [Enc κ] [DecidableEq α] [Enc α](G:Gp)(d:D)(l:List (κ×α)):Prop:=vI d G=some (bB l)
section
variable {κ α:Type} [DecidableEq κ] [Enc κ] [DecidableEq α] [Enc α] {l:List (κ×α)} {G G':Gp} {d:D}
theorem AX.ref{a:Nat}(h:G a=some (.gK (bB l))):AX G (.ref a) l:=by unfold AX vI; simp only [h]
theorem AX.kW:AX G (.kW (bB l)) l:=rfl
theorem AX.inv(h:AX G d l):d=.kW (bB l)\/∃ a,d=.ref a/\G a=some (.gK (bB l)):=by
 unfold AX vI at h;split at h
 ·exact .inl (by rw [ba h])
 ·rename_i a;split at h
  ·rename_i kvs e;exact .inr ⟨a,rfl,by rw [e,ba h]⟩
  ·cases h
 ·cases h
def VD(_:Gp)(d:D)(l:List (κ×α)):Prop:=d=.kW (bB l)
theorem VD.p(h:VD G d l):AX G' d l:=by unfold VD at h; rw [h]; exact .kW
theorem lq{β:Type} [DecidableEq β] [Enc β](l:List (Int×β)):vp (bB l)=true:=by
 unfold vp bB; rw [iV,fm]; intro p _; rfl
theorem Cv(l:List (κ×α)):(bB l).length=l.length:=by unfold bB; rw [ao]
theorem OP(h:AX G d l):SM d G:=by
 rcases h.inv with rfl | ⟨a,rfl,e⟩
 ·trivial
 ·unfold SM; simp only [e]
theorem Qw {C:String} {Q:DK} (h:AX G d l) (k:Q (.bl (C == "dict")) G):isAt C d G Q:=by
 rcases h.inv with rfl | ⟨a,rfl,e⟩
 ·exact k
 ·rw [Qv]; simp only [e]; exact k
end
section
variable {α:Type} [DecidableEq α] [Enc α] {l:List (Int×α)} {G:Gp} {d:D}
theorem Ry{Q:DK}(h:AX G d l)(hs:l.length<=SZ)(k:gO G (.gK (bB l)) Q):L6 [d] G Q:=⟨_,h,lq l,by rw [Cv]; exact hs,k⟩
theorem TK{Q:DK}{i:Int}{e:α}(h:AX G d l)(k:Q (enc ((cF l i).getD e)) G):M4 d [.int i,enc e] G Q:=by
 refine⟨_,h,lq l,rfl,?_⟩;have:(look (bB l) (.int i)).getD (enc e)=enc ((cF l i).getD e):=by
  rw [show (D.int i)=enc i from rfl,vh]; cases cF l i <;> rfl
 rw [this]; exact k
theorem lJ{G0:Gp}{R:List D->(Gp->Prop)->Gp->Prop}(h:VD G0 d l)(le0:fD G0 G)(k:∀ ok:Gp->Prop,(∀ G',fD G0 G'->ok G')->R (l.map fun p=>.tup [.int p.1,enc p.2]) ok G):Gw d G R:=by
 unfold VD at h;rw [h];refine⟨lq l,?_⟩;have:(bB l).map (fun p=>D.tup [p.1,p.2])=l.map fun p=>.tup [.int p.1,enc p.2]:=by unfold bB; rw [aS]; rfl
 rw [this];exact k _ fun G' le=>trivial
theorem Ju{G0:Gp}{R:List D->(Gp->Prop)->Gp->Prop}(h:VD G0 d l)(le0:fD G0 G)(k:∀ ok:Gp->Prop,(∀ G',fD G0 G'->ok G')->R (l.map fun p=>.int p.1) ok G):DG d G R:=by
 unfold VD at h;rw [h];show R ((bB l).map (·.1)) _ G;have:(bB l).map (·.1)=l.map fun p=>D.int p.1:=by unfold bB; rw [aS]; rfl
 rw [this];exact k _ fun G' le=>trivial
theorem US{i:Int}{v:α}{Q:DK}(h:AX G d l)(e:cF l i=some v)(k:Q (enc v) G):mz d (.int i) G Q:=by
 have hk:iw (bB l) (.int i)=true:=nI l i;have hl:look (bB l) (.int i)=some (enc v):=by rw [show (D.int i)=enc i from rfl,vh,e]; rfl
 rcases h.inv with rfl | ⟨a,rfl,e⟩
 ·rw [yn,hl]; exact⟨hk,k⟩
 ·rw [Df,e]; simp only [hl]; exact⟨hk,k⟩
theorem iN{a:Nat}{i:Int}{v:α}{Q:Gp->Prop}(h:G a=some (.gK (bB l)))(hs:l.length < SZ)(k:Q (eV G a (.gK (bB (eY l i v))))):xg (.ref a) (.int i) (enc v) G Q:=by
 unfold xg;simp only [h];refine⟨nI l i,by rw [Cv]; exact hs,?_⟩;rw [show (D.int i)=enc i from rfl,KZ]; exact k
end
theorem Pq{neg:Bool}{G:Gp}{d e:D}{l m:List (Int×Int)}{Q:DK}(h1:AX G d l)(h2:AX G e m)(k:Q (.bl (if neg then !xX l m else xX l m)) G):u6 neg d e G Q:=.inr ⟨l,m,h1,h2,k⟩
theorem u5{neg:Bool}{G:Gp}{i j:Int}{Q:DK}(k:Q (.bl (if neg then !decide (i=j) else decide (i=j))) G):u6 neg (.int i) (.int j) G Q:=.inl ⟨_,_,.int _,.int _,by
 have:ip (.int i) (.int j)=decide (i=j):=Enc.eqv i j;rw [this]; exact k⟩
theorem PC(l:List (Int×Int)):((bB l).all fun p=>dH p.1&&nC p.2)=true:=by
 unfold bB; rw [iV,fm]; intro p _; rfl
abbrev TF2:=lP->iD->Gp->(List Str->Gp->Prop)->Prop
def GZ(a:fV):fV:=fun E τ G Q=>a E τ G fun x G1=>∃ ds,ph x G1=some ds/\gO G1 (.lst ds.reverse) Q
end K2
end
section
namespace K2
def JX(x:PySem.Str)(t:A8):hU:=fun E _ τ G=>t E τ G fun ds _=>ds.length<=SZ/\E ⟨x,[]⟩ (fun _=>none)
end K2
namespace K2
open PySem (Str)
def Rg(sp:jU)(t:A8)(i:Nat)(cat:List Str)(th:hU):hU:=fun _ K τ G =>
 t (fun _ _=>False) τ G fun ds G1=>sp ds (fun _=>none) (fun _ _=>K.nx τ G1) fun ex _=>cat.contains ex.cls=true /\
  th (fun _ _=>False) ⟨fun oU G'=>K.nx (oU.set i none) G',fun _ _=>False,fun _ _=>False,fun _ _=>False⟩ (τ.set i (some (.exc ex.cls))) G1
end K2
namespace K2
open PySem (Str)
def LU(all sub:List Str)(a:fV):fV:=fun E τ G Q=>a E τ G fun x G1=>match x with
 | .eN=>Q (.bl false) G1
 | .exc c=>all.contains c=true/\Q (.bl (sub.contains c)) G1
 | .Cq c _ _=>all.contains c=true/\Q (.bl (sub.contains c)) G1
 | _=>False
end K2
end
section
namespace K2
open PySem (Str)
open Enc (enc)
def vL(r r':yI)(ta tb tc:fV):xY:=fun E τ G Q=>ta E τ G fun x G1=>tb E τ G1 fun y G2=>r x y G2 fun z G3=>∃ k,z=.bl k/\(if k=true then tc E τ G3 fun w G4=>r' y w G4 (fun z' G5=>∃ k',z'=.bl k'/\Q k' G5) else Q false G3)
end K2
end
section
namespace K2
open PySem (Str)
def Nm(x:D)(G1:Gp)(R:List D->(Gp->Prop)->Gp->Prop):Prop:=match x with
 | .kW kvs=>(kvs.all fun p=>lr p.1)=true/\R (kvs.map fun p=>.tup [p.1,p.2]) (fun _=>True) G1
 | _=>False
def DF(a:fV):NT:=fun E τ G R=>a E τ G fun x G1=>Nm x G1 R
def Hb(kv:List (Int×Int)):fV:=fun _ _ G Q=>gO G (.gK (bB kv)) Q
end K2
end
section
namespace K2
open PySem (Str)
open Enc (enc)
def h2(t:T2):Int:=PySem.reduceHash (PySem.Builtin.Tuple.tupleHashOf [PySem.hashInt t.a,PySem.hashInt t.b])
end K2
end
section
namespace K2
open Enc (enc)
def V8:yI:=fun x y G Q=>∃ (sh:og) (a b:D),(Sn G SN x a/\Sn G SN y b)/\(cK sh a=true/\cK sh b=true)/\Q (.bl (pe a b)) G
theorem Pm{α:Type} [DecidableEq α] [Enc α] [aT α]{x y:α}{G:Gp}{Q:DK}(hd:Enc.dep α<=8)(q:Q (.bl (aT.lt x y)) G):V8 (enc x) (enc y) G Q :=
 ⟨aT.Bk α,enc x,enc y,⟨Enc.sn _ _ _ hd,Enc.sn _ _ _ hd⟩,⟨aT.Ah _,aT.Ah _⟩,by rw [aT.Sb]; exact q⟩
end K2
end
section
namespace K2
open PySem (Str)
def Uq(ds:List D)(G:Gp)(Q:DK):Prop:=match ds with
 | [x]=>(match ph x G with
  | some xs=>Q (.tup xs) G
  | none=>False)
 | _=>False
def only(a:Nat)(o:GO):Gp:=fun b=>if b=a then some o else none
def qw(kvs:List (PK×D))(k:PK):Option D:=(kvs.find? fun p=>decide (p.1=k)).map (·.2)
def MP(kvs:List (PK×D))(k:PK)(v:D):List (PK×D) :=
 if (kvs.any fun p=>decide (p.1=k))=true then kvs.map (fun p=>if p.1=k then (p.1,v) else p) else kvs++[(k,v)]
def tyP(x:D)(G:Gp):Prop:=match x with
 | .ref a=>(match G a with
  | some (.qL _)=>True
  | _=>False)
 | .oV _=>True
 | _=>False
def FY(x:D)(ds:List D)(G:Gp)(Q:DK):Prop:=match x,ds with
 | .ref a,[k,d]=>∃ kvs pk,G a=some (.qL kvs)/\k=qu pk/\Q ((qw kvs pk).getD d) G
 | .oV kvs,[k,d]=>∃ pk,k=qu pk/\Q ((qw kvs pk).getD d) G
 | _,_=>False
def IL(o k d:D)(G:Gp)(Q:Gp->Prop):Prop:=match o with
 | .ref a=>∃ kvs pk,G a=some (.qL kvs)/\k=qu pk/\kvs.length < SZ/\Q (eV G a (.qL (MP kvs pk d)))
 | _=>False
def GD(o k:fV):A7:=fun E d τ G Q=>o E τ G fun x G1=>k E τ G1 fun y G2=>IL x y d G2 fun G3=>Q τ G3
def Rj:fV:=fun _ _ G Q=>gO G (.qL []) Q
def Ri(k v:fV):fV:=fun E τ G Q=>k E τ G fun x G1=>v E τ G1 fun y G2=>∃ pk,x=qu pk/\gO G2 (.qL [(pk,y)]) Q
def Np(x:D)(G1:Gp)(R:List D->(Gp->Prop)->Gp->Prop):Prop:=match x with
 | .oV kvs=>R (kvs.map fun p=>.tup [qu p.1,p.2]) (fun _=>True) G1
 | _=>False
def vt(a:fV):NT:=fun E τ G R=>a E τ G fun x G1=>Np x G1 R
def FW(x:D)(ds:List D)(G:Gp)(Q:DK):Prop:=match x,ds with
 | .ref a,[k]=>∃ kvs d,G a=some (.gK kvs)/\(lr k=true/\(kvs.all fun p=>lr p.1)=true/\look kvs k=some d)/\Q d (eV G a (.gK (kvs.filter fun p=>!ip p.1 k)))
 | _,_=>False
end K2
end
section
namespace K2
def tupP:D->Bool
 | .tup ds=>ds.all nC
 | .ref _=>true
 | .kW kvs=>kvs.all fun p=>dH p.1&&nC p.2
 | d=>nC d
def xu:GO->Bool
 | .lst ds=>ds.all tupP
 | .gK kvs=>kvs.all fun p=>dH p.1&&nC p.2
 | _=>false
def Om(G2 G1:Gp):Gp:=fun a=>match G2 a with
 | some o=>some o
 | none=>G1 a
def resT(T:Nat->Bool)(G:Gp):Gp:=fun a=>if T a=true then G a else none
def wY(sp:jU)(t:A8):fV:=fun E τ G Q=>t E τ G fun ds G1=>∃ (R:Nat->Bool) (ts:List D),(∀ a,R a=true->∃ xs,G1 a=some (.lst xs))/\Et G1 R ds ts /\
 sp ts (fun _=>none) (fun x G2=>tupP x=true/\∃ T:Nat->Bool,(∀ a o,T a=true->G2 a=some o->xu o=true)/\((∀ a o,G2 a=some o->G1 a=none)->Q x (Om (resT T G2) G1))) fun _ _=>False
def yx(x:D)(ds:List D)(G:Gp)(Q:DK):Prop:=match ds with
 | [.int k]=>Be x G/\∃ ns:List Int,itemsOf x G=some (ns.map D.int)/\Q (.int ((ns.count k:Nat):Int)) G
 | _=>False
end K2
end
section
namespace K2
open PySem
section
variable {prog:bI} {w:World} {K:Type} [DecidableEq K] (knd:EM prog w K)
inductive tH (h:Heap):List K->List Value->Prop
 | nil:tH h [] []
 | cons {k:K} {b:Addr} {ks:List K} {vs:List Value}:knd.is h k b->tH h ks vs->tH h (k :: ks) (.ref b :: vs)
def tJ (h:Heap) (ks:List K) (a:Addr):Prop:=∃ o items n,h.get? a=some o/\o.cls=.type "tuple"/\o.data=.seq items n/\tH knd h ks items.toList
variable {knd}
theorem tH.inj{h:Heap}{x y:List K}{vs:List Value}(hx:tH knd h x vs)(hy:tH knd h y vs):x=y:=by
 induction hx generalizing y with
 | nil=>cases hy; rfl
 | cons h1 _ ih =>
  cases hy with
  | cons h2 t2=>rw [knd.inj h1 h2,ih t2]
theorem tH.keeps{h h':Heap}{ks:List K}{vs:List Value}{d:Addr}{o:Obj}{es ep}(x:tH knd h ks vs)(ho:h.get? d=some o)(hd:o.data=.dict es ep)(hs:fP d h h'):tH knd h' ks vs:=by
 induction x with
 | nil=>exact .nil
 | cons h1 _ ih=>exact .cons (knd.keeps h1 ho hd hs) ih
theorem tJ.typeIs {s:ax} {ks:List K} {a:Addr} (x:tJ knd s.heap ks a):s.TypeIs (.ref a) "tuple":=let ⟨o,_,_,ho,hc,_⟩:=x; ⟨o,ho,hc⟩
theorem tJ.inj{h:Heap}{a:Addr}{x y:List K}(hx:tJ knd h x a)(hy:tJ knd h y a):x=y:=by
 obtain⟨o,items,n,ho,_,hd,hi⟩:=hx;obtain⟨o',abj,n',Cj,_,A6,Vj⟩:=hy;obtain rfl:o=o':=ba (ho.symm.trans Cj);rw [hd] at A6;injection A6 with h1 _
 subst h1;exact hi.inj Vj
theorem tJ.keeps{h h':Heap}{ks:List K}{a d:Addr}{o:Obj}{es ep}(x:tJ knd h ks a)(ho:h.get? d=some o)(hd:o.data=.dict es ep)(hs:fP d h h'):tJ knd h' ks a:=by
 obtain⟨o',items,n,Cj,hc,A6,hi⟩:=x;have oW:a≠d:=by
  rintro rfl;obtain rfl:o'=o:=ba (Cj.symm.trans ho);rw [hd] at A6; exact nomatch A6
 exact⟨o',items,n,(hs.2 a oW).trans Cj,hc,A6,hi.keeps ho hd hs⟩
def Dw(knd:EM prog w K)(ks:List K):Int:=reduceHash (eu (ks.map knd.hash))
def lD(knd:EM prog w K):List K->Nat
 | []=>0
 | k :: ks=>knd.draws k+lD knd ks
theorem vc(ks:List K)(k:K):lD knd (ks++[k])=lD knd ks+knd.draws k:=by
 induction ks with
 | nil=>simp [lD]
 | cons a r ih=>rw [aF,lD,lD,ih,oX]
variable {A:cS} {E:Value->ax->Prop} {s:ax}
theorem Ly{ks:List K}{a:Addr}{Q:Int->ax->Prop}(hu:A.units < cLine/\knd.room A.in1)(hk:tJ knd s.heap ks a)(h:Q (Dw knd ks) { s with toks:=s.toks+(lD knd ks+1) }) :
  wpAny (model prog w) A (pyHash (.ref a)) Q E s:=by
 have hT:=hk.typeIs;obtain⟨o,items,n,ho,_,hd,hi⟩:=hk;unfold pyHash
 first | unfold pyHashByItsType | skip
 first | refine ag (wpAny_cRoomFor_or (.inr hu.1) ?_) | skip
 refine ag (mW hT F.slot_tuple_hash.lookup ?_);show wpAny _ _ (if (some (Mm "tuple.__hash__") == some gu)=true then _ else _) Q E s;rw [if_neg (by rw [beq_builtin_none]; exact fY)];refine ag (mW hT F.slot_tuple_hash.lookup ?_);show wpAny _ _ (callSpecialIfBoundUnlessNone? (.ref a) "__hash__" _ >>= _) Q E s;refine ag (wpAny_callSpecialIfBoundUnlessNone?_slot hT F.slot_tuple_hash (da F.slot_tuple_hash hT F.entry_tuple_hash ?_ (F.args_tuple_hash_1 _)));show wpAny _ _ (yb (.ref a) >>= _) _ _ s;refine ag (EF ho hd ?_);refine ag ?_;rw [<-yX];refine lT _
  (fun rest (b:Array Int) s'=>∃ done left,ks=done++left/\tH knd s.heap left rest/\b.toList=done.map knd.hash/\s'={ s with toks:=s.toks+lD knd done })
  _ ?_ ?_ _ _ ⟨[],ks,rfl,hi,rfl,rfl⟩
 ·rintro x rest b s' ⟨done,left,rfl,hl,hb,rfl⟩;cases hl with
  | @cons k _ ks' _ h1 hl' =>
   refine ag (knd.pyHash hu.2 h1 ?_)
   first
    | exact ay ⟨done++[k],ks',by simp,hl',by simp [hb],by simp [vc,oX]⟩
    | exact ag (ay (ay ⟨done++[k],ks',by simp,hl',by simp [hb],by simp [vc,oX]⟩))
 ·rintro b s' ⟨done,left,rfl,hl,hb,rfl⟩;cases hl;rw [cC] at h;show wpAny _ _ (retInt (eu b.toList)) _ _ _;rw [hb];refine wpAny_ret_mkInt ?_;show wpAny _ _ (if (decide (-(2:Int) ^ 63<=eu (done.map knd.hash))&&decide (eu (done.map knd.hash) < 2 ^ 63))=true then _ else _) Q E _;unfold Dw reduceHash at h;by_cases hr:(decide (-(2:Int) ^ 63<=eu (done.map knd.hash))&&decide (eu (done.map knd.hash) < 2 ^ 63))=true
  ·rw [if_pos hr];rw [if_pos hr] at h;exact ay (by simpa [oX] using h)
  ·rw [if_neg hr];rw [if_neg hr] at h;exact ag (wpAny_rule (ay (by simpa [oX] using h)))
theorem JR{x y:List K}{a b:Addr}{P:Fin->ax->Prop}(hu:knd.room A)(hx:tJ knd s.heap x a)(hy:tJ knd s.heap y b)(h:P (.done (.ret (.bool (decide (x=y))))) s) :
  wpAny (model prog w) A (Builtin.«tuple.__eq__» ⟨[.ref a,.ref b],[]⟩) P E s:=by
 have hTb:=hy.typeIs;obtain⟨oa,xs,na,hoa,_,hda,hia⟩:=hx;obtain⟨ob,ys,nb,hob,_,Ag,hib⟩:=hy;show wpAny _ _ (Ie (.ref b) (.type "tuple") >>= _) _ _ s;refine ag (lS hTb yP ?_);simp only [bq,aj,if_false];refine ag (EF hoa hda ?_);refine ag (EF hob Ag ?_);refine ag ?_;refine lT _
  (fun rest r s'=>r.1=none/\s'=s/\∃ x' y' OL XO,rest=List.zip OL XO/\tH knd s.heap x' OL/\tH knd s.heap y' XO/\decide (x'=y')=decide (x=y)/\(OL.length == XO.length)=(xs.size == ys.size))
  _ ?_ ?_ _ _ ⟨rfl,rfl,x,y,xs.toList,ys.toList,rfl,hia,hib,rfl,by simp⟩
 ·rintro⟨u,v⟩ rest r s' ⟨hr,rfl,x',y',OL,XO,hz,hx',U9,T6,hlen⟩;cases hx' with
  | nil=>simp at hz
  | @cons k1 u' x'' aaw h1 abt =>
   cases U9 with
   | nil=>simp at hz
   | @cons k2 v' y'' aav h2 abq =>
    simp only [qG,List.cons.injEq,Prod.mk.injEq] at hz;obtain⟨⟨rfl,rfl⟩,rfl⟩:=hz;refine ag (knd.eqBool hu h1 h2 ?_);by_cases hk:k1=k2
    ·subst hk;rw [decide_eq_true rfl];simp only [bq,aj,if_false];refine ay ⟨rfl,rfl,x'',y'',aaw,aav,rfl,abt,abq,?_,by simpa using hlen⟩;rw [<-T6];by_cases Xz:x''=y''
     ·simp [Xz]
     ·simp [Xz]
    ·rw [decide_eq_false hk];simp only [cZ,if_true];have hf:decide (x=y)=false:=by rw [<-T6]; simp [hk]
     rw [hf] at h;exact ag (ay (ay (ay h)))
 ·rintro⟨r1,r2⟩ s' ⟨hr,rfl,x',y',OL,XO,hz,hx',U9,T6,hlen⟩;simp only at hr;subst hr;refine ay ?_;have ab2:(xs.size == ys.size)=decide (x=y):=by
   rw [<-T6,<-hlen];cases hx' with
   | nil =>
    cases U9 with
    | nil=>simp
    | cons _ _=>simp
   | cons _ _ =>
    cases U9 with
    | nil=>simp
    | cons _ _=>simp at hz
  show P (.done (.ret (.bool (xs.size == ys.size)))) s';rw [ab2]; exact h
theorem Cs{x y:List K}{a b:Addr}{Q:Bool->ax->Prop}(hu:A.units < cLine/\knd.room A.in1)(hx:tJ knd s.heap x a)(hy:tJ knd s.heap y b)(h:Q (decide (x=y)) s) :
  wpAny (model prog w) A (eqBool (.ref a) (.ref b)) Q E s:=by
 unfold eqBool
 try with_reducible refine cN ?_
 show wpAny _ _ (if (eL a == eL b)=true then _ else _) Q E s;by_cases Jy:(eL a == eL b)=true
 ·rw [if_pos Jy];have e:a=b:=by have:=eq_of_beq Jy; injection this
  subst e;obtain rfl:=hx.inj hy;exact ag (wpAny_rule (ay (by simpa using h)))
 ·rw [if_neg Jy];exact ag (wpAny_richCompare_same_room (op:=.Eq) hx.typeIs hy.typeIs F.slot_tuple_eq
   (da F.slot_tuple_eq hx.typeIs F.entry_tuple_eq (JR hu.2 hx hy ⟨_,rfl,(fun e=>nomatch e),iY h⟩) (F.args_tuple_eq_2 _ _)) hu.1)
theorem zx{ks:List K}{a:Addr}{Q:Bool->ax->Prop}(n:Nat)(hq:∀ (k:K) (b:Addr) (Q:Bool->ax->Prop),knd.is s.heap k b->Q true s->wpAny (model prog w) A (OE n (.ref b)) Q E s)(hk:tJ knd s.heap ks a)(h:Q true s):wpAny (model prog w) A (OE (n+1) (.ref a)) Q E s:=by
 have hT:=hk.typeIs;obtain⟨o,items,n',ho,_,hd,hi⟩:=hk;unfold OE;refine ag (mW hT F.slot_tuple_eq.lookup ?_);show wpAny _ _ (Ie (.ref a) (.type "tuple") >>= _) _ _ s;refine ag (lS hT yP ?_);simp only [bq,aj,if_false];refine ag (oS ho hd ?_);refine ag ?_;show wpAny _ _ (forIn items _ _) _ _ s;rw [<-yX];refine lT _ (fun rest r s'=>r.1=none/\s'=s/\∃ l,tH knd s.heap l rest) _ ?_ ?_ _ _ ⟨rfl,rfl,_,hi⟩
 ·rintro v rest r s' ⟨hr,rfl,l,vC⟩;cases vC with
  | cons h1 h2 =>
   refine ag (hq _ _ _ h1 ?_);simp only [bq,aj,if_false];exact ay ⟨rfl,rfl,_,h2⟩
 ·rintro⟨r1,r2⟩ s' ⟨hr,rfl,_⟩;simp only at hr;subst hr;exact ay h
end
theorem KW{prog:bI}{w:World}{K:Type} [DecidableEq K]{knd:KeyKind prog w K}{A:cS}{E:Value->ax->Prop}{s:ax}{ks:List K}{a:Addr}{Q:Bool->ax->Prop}(n:Nat)(hk:IsTupleKey knd s.heap ks a)(h:Q true s):wpAny (model prog w) A (OE (n+1) (.ref a)) Q E s:=by
 have hT:=hk.typeIs;obtain⟨o,items,n',ho,_,hd,hi⟩:=hk;unfold OE;refine ag (mW hT F.slot_tuple_eq.lookup ?_);show wpAny _ _ (Ie (.ref a) (.type "tuple") >>= _) _ _ s;refine ag (lS hT yP ?_);simp only [bq,aj,if_false];refine ag (oS ho hd ?_);refine ag ?_;show wpAny _ _ (forIn items _ _) _ _ s;rw [<-yX];refine lT _ (fun rest r s'=>r.1=none/\s'=s/\∀ v∈rest,carriedByValue v=true) _ ?_ ?_ _ _ ⟨rfl,rfl,hi.byValue⟩
 ·rintro v rest r s' ⟨hr,rfl,vC⟩;rw [eqIsQuiet_byValue _ (vC v cA)];refine ag (ay ?_);simp only [bq,aj,if_false];exact ay ⟨rfl,rfl,fun u Lu=>vC u (aL _ Lu)⟩
 ·rintro⟨r1,r2⟩ s' ⟨hr,rfl,_⟩;simp only at hr;subst hr;exact ay h
section
variable {prog:bI} {w:World}
def Xx{K:Type} [DecidableEq K](knd:KeyKind prog w K):EM prog w (List (List K)) where
 is:=tJ (iZ knd)
 hash:=Dw (iZ knd)
 draws:=fun ks=>lD (iZ knd) ks+1
 room:=fun A=>A.units < cLine/\(iZ knd).room A.in1
 inj:=fun hx hy=>hx.inj hy
 keeps:=fun x ho hd hs=>x.keeps ho hd hs
 pyHash:=fun hu hk h=>Ly hu hk h
 eqBool:=fun hu hx hy h=>Cs hu hx hy h
 quiet:=fun hk h=>zx 7 (fun _ _ _ h1 h2=>KW 6 h1 h2) hk h
def nk3{K:Type} [DecidableEq K](knd:KeyKind prog w K):EM prog w (List (List (List K))) where
 is:=tJ (Xx knd)
 hash:=Dw (Xx knd)
 draws:=fun ks=>lD (Xx knd) ks+1
 room:=fun A=>A.units < cLine/\(Xx knd).room A.in1
 inj:=fun hx hy=>hx.inj hy
 keeps:=fun x ho hd hs=>x.keeps ho hd hs
 pyHash:=fun hu hk h=>Ly hu hk h
 eqBool:=fun hu hx hy h=>Cs hu hx hy h
 quiet:=fun hk h=>zx 7 (fun _ _ _ h1 h2=>zx 6 (fun _ _ _ h3 h4=>KW 5 h3 h4) h1 h2) hk h
theorem M0{K:Type} [DecidableEq K]{knd:KeyKind prog w K}{A:cS}(hu:A.units+8 < cLine):(nk3 knd).room A:=by
 refine⟨?_,?_,?_⟩
 ·lia
 ·show A.units+1 < cLine; lia
 ·show A.units+1+1 < cLine; lia
theorem FK{K:Type} [DecidableEq K]{knd:KeyKind prog w K}{A:cS}(hu:A.units+8 < cLine):(nk3 knd).room A.in1:=by
 refine⟨?_,?_,?_⟩
 ·show A.units+1 < cLine; lia
 ·show A.units+1+1 < cLine; lia
 ·show A.units+1+1+1 < cLine; lia
end
section
variable {K:Type} [DecidableEq K]
def VI(xs:List (K×Addr×Value))(k:K):List (K×Addr×Value):=xs.filter fun x=>decide (x.1≠k)
theorem Mt{xs:List (K×Addr×Value)}(hn:(xs.map (·.1)).Nodup):∀ {j:Nat} {k:K} {p:Addr×Value},xs[j]?=some (k,p)->xs.eraseIdx j=VI xs k:=by
 induction xs with
 | nil=>intro j k p h; simp at h
 | cons x r ih =>
  intro j k p h;rw [aq,aY] at hn;cases j with
  | zero =>
   simp only [aa,wa] at h;subst h;unfold VI;rw [Oe,tN (by simp)];symm;refine List.filter_eq_self.mpr fun y hy=>?_;have:y.1≠k:=fun z=>hn.1 (List.mem_map.mpr ⟨y,hy,z⟩);simpa using this
  | succ j =>
   simp only [ae] at h;have:x.1≠k:=fun z=>hn.1 (by rw [z]; exact List.mem_map.mpr ⟨_,aZ h,rfl⟩);unfold VI;rw [Of,tM (by simpa using this),ih hn.2 h];rfl
theorem B5{α β:Type}(f:α->β):∀ (l:List α) (j:Nat),(l.eraseIdx j).map f=(l.map f).eraseIdx j
 | [],_=>rfl
 | _ :: _,0=>rfl
 | a :: l,j+1=>congrArg (f a :: ·) (B5 f l j)
end
section
variable {prog:bI} {w:World} {K:Type} [DecidableEq K] {knd:EM prog w K} {A:cS} {E:Value->ax->Prop} {s:ax}
theorem C4{d a:Addr}{xs:List (K×Addr×Value)}{k:K}{p:Addr×Value}{Q:Option fI->ax->Prop}(hu:knd.room A)(T4:knd.is s.heap k a)(hm:s.heap.DictOfH knd d xs)(hp:atKey xs k=some p)(hsz:xs.length<=aX)
  (hQ:∀ e:fI,e.val=p.2->∀ h',h'.DictOfH knd d (VI xs k)->fP d s.heap h'->Q (some e) { s with heap:=h',toks:=s.toks+knd.draws k }) :
  wpAny (model prog w) A (ER d (.ref a)) Q E s:=by
 obtain⟨o,es,ep,ho,hc,hd,he,his,hn⟩:=hm;unfold ER
 try with_reducible refine cN ?_
 refine ag (knd.pyHash hu T4 (ag (wpAny_dictFind_heap (s:={ s with toks:=s.toks+knd.draws k }) hu T4 ho hd he his hn ?_ ?_)))
 ·intro WM;rw [atKey_none_of_get WM] at hp; cases hp
 ·intro j q hj;rw [atKey_of_get hn hj] at hp;cases hp;refine ag (gL (s:={ s with toks:=s.toks+knd.draws k }) ho hd ?_);rw [entry_at he j,hj]
  refine ag (wpAny_updateDictKeys (hz:=by have e:=size_of_entries he; lia) (s:={ s with toks:=s.toks+knd.draws k }) ho hd (ay (hQ _ rfl _ ⟨_,_,ep+1,hX _ ho (Obj.isFreed_of_dict (Obj.data_mapDictKeys hd _)),
   hc.mapDictKeys _,Obj.data_mapDictKeys hd _,?_,?_,?_⟩ (jM ..))))
  ·rw [<-Mt hn hj,B5,<-he];obtain⟨l⟩:=es;simp
  ·intro x hx;exact knd.keeps (his x (List.mem_filter.mp hx).1) ho hd (jM ..)
  ·exact nU (l0 _ k6) hn
theorem PB{d a:Addr}{xs:List (K×Addr×Value)}{k:K}{p:Addr×Value}{Q:Value->ax->Prop}(hu:knd.room A.in1)(T4:knd.is s.heap k a)(hm:s.heap.DictOfH knd d xs)(hp:atKey xs k=some p)(hsz:xs.length<=aX)
  (hQ:∀ h',h'.DictOfH knd d (VI xs k)->fP d s.heap h'->Q p.2 { s with heap:=h',toks:=s.toks+knd.draws k }) :
  wpAny (model prog w) A (call (.builtin "dict.pop") [.ref d,.ref a]) Q E s:=by
 have hT:s.TypeIs (.ref d) "dict":=by obtain⟨o,es,ep,ho,hc,_⟩:=hm; exact⟨o,ho,hc.1⟩
 refine da tY hT PySem.F.entry_dict_pop ?_ (PySem.F.args_dict_pop_2 _ _);unfold Builtin.«dict.pop»;refine ag ?_;unfold Builtin.Dict.keyAndDefault;refine ag (yK hT ?_);show wpAny _ _ (pure (d,eL a,none)) _ _ s;refine ay ?_;have WO:=hm;obtain⟨o,es,ep,ho,hc,hd,he,his,hn⟩:=WO;have oW:es.isEmpty=false:=by
  have:xs≠[]:=by rintro rfl; cases hp
  have h2:=size_of_entries he;have h3:0 < xs.length:=List.length_pos_iff.mpr this;rw [Array.isEmpty_eq_false_iff];rintro rfl;simp at h2; lia
 simp only [keyPart,Option.isSome_none,aj,if_false];refine ag (gL ho hd (ag (ay ?_)));rw [oW,if_neg fY];refine ag (C4 hu T4 hm hp hsz fun e hv h' WO Gy=>?_);simp only [Option.isNone_some,aj,if_false];exact ag (qU (ay ⟨e.val,rfl,by rw [hv]; exact hQ h' WO Gy⟩))
end
end K2
end
section
namespace K2
open PySem PySem.Spec PyProof.Rows L2
def XH(K:ai)(H:Hp)(a:Addr)(xs:List V):Prop :=
 (∃ o,H a=some (.iC o (.lst xs))) \/
  ∃ (o:Obj) (bH:Array Value) (n:Nat),K.lookup a=some o/\o.cls=.type "list"/\o.dict=none/\o.data=.seq bH n/\bH.size<=aX/\Vals xs bH.toList
theorem XH.sq{K:ai}{H:Hp}{a:Addr}{xs:List V}(h:XH K H a xs):pF K H a xs:=by
 rcases h with ⟨o,h⟩ | h
 ·exact .inl (.inr ⟨o,h⟩)
 ·exact .inr h
def eP:Key->D
 | .inl i=>.int i
 | .inr x=>.str x
def ExcAt(K:ai)(H:Hp)(a:Addr)(c:Str):Prop:=∃ (o:Obj) (C:Addr),H a=some (.iC o (.ext fun h=>h.get? a=some o))/\o.cls=.ref C/\eT K bQ c=some (some (.ref C))
def Mh(K:ai)(H:Hp)(a:Addr)(c:Str)(ns:List Str)(vs:List V):Prop:=∃ (o:Obj) (C dx:Addr) (od:Obj) (fs:List (Str×V)),H a=some (.iC o (.ext fun h=>h.get? a=some o))/\o.cls=.ref C/\eT K bQ c=some (some (.ref C))/\o.dict=some dx/\H dx=some (.iC od (.xd fs))/\PySem.W.notCls o=true/\fs.map (·.1)=ns/\fs.map (·.2)=vs
def hsT(hs:List Int):Int:=reduceHash (eu hs)
def hP(k:PK):Int:=hsT (k.map fun r=>hsT (r.map fun t=>hsT (t.map hashInt)))
def Kd(a:Addr)(xs:List (PK×Addr×Value))(h:Heap):Prop:=xs.length<=aX/\(a == df)=false/\∃ (o:Obj) (es:Array fI) (ep:Nat),h.get? a=some o/\o.ExactDict/\o.data=.dict es ep/\es.toList=xs.map (fun x=>⟨hP x.1,.ref x.2.1,x.2.2⟩)/\(xs.map (·.1)).Nodup
def UA(kvs:List (PK×D))(ks vs:List V)(xs:List (PK×Addr×Value)):Prop:=kvs.map (fun p=>p.1)=xs.map (fun x=>x.1)/\ks=xs.map (fun x=>V.ref x.2.1)/\Vals vs (xs.map fun x=>x.2.2)
mutual
inductive bV (K:ai) (H:Hp):V->D->Prop
 | eN:bV K H .eN .eN
 | bl (b:Bool):bV K H (.bl b) (.bl b)
 | int (i:Int):bV K H (.int i) (.int i)
 | str (x:Str):bV K H (.str x) (.str x)
 | tup {a:Addr} {vs:List V} {ds:List D}:H a=some (.tup vs)->aU K H vs ds->bV K H (.ref a) (.tup ds)
 | cW {a:Addr} {vs:List V} {ds:List D}:XH K H a vs->aU K H vs ds->bV K H (.ref a) (.cW ds)
 | nY {a:Addr} {o:Obj} {kv:List (Key×V)} {kvs:List (D×D)}:H a=some (.iC o (.dK kv))->lQ K H kv kvs->bV K H (.ref a) (.kW kvs)
 | nX {a:Addr} {o:Obj} {kv:List (List Key×V)} {kvs:List (D×D)}:H a=some (.iC o (.dT kv))->mD K H kv kvs->bV K H (.ref a) (.kW kvs)
 | ref (a:Addr):bV K H (.ref a) (.ref a)
 | exc {a:Addr} {c:Str}:ExcAt K H a c->bV K H (.ref a) (.exc c)
 | Cq {a:Addr} {c:Str} {ns:List Str} {vs:List V} {ds:List D}:Mh K H a c ns vs->aU K H vs ds->bV K H (.ref a) (.Cq c ns ds)
 | oV {a:Addr} {o:Obj} {xs:List (PK×Addr×Value)} {ks vs:List V} {kvs:List (PK×D)}:H a=some (.iC o (.ext (Kd a xs)))->UA kvs ks vs xs->aU K H ks (kvs.map fun p=>qu p.1)->aU K H vs (kvs.map fun p=>p.2)->bV K H (.ref a) (.oV kvs)
inductive aU (K:ai) (H:Hp):List V->List D->Prop
 | nil:aU K H [] []
 | cons {v:V} {d:D} {vs:List V} {ds:List D}:bV K H v d->aU K H vs ds->aU K H (v :: vs) (d :: ds)
inductive lQ (K:ai) (H:Hp):List (Key×V)->List (D×D)->Prop
 | nil:lQ K H [] []
 | cons {k:Key} {v:V} {d:D} {r:List (Key×V)} {t:List (D×D)}:bV K H v d->lQ K H r t->lQ K H ((k,v) :: r) ((eP k,d) :: t)
inductive mD (K:ai) (H:Hp):List (List Key×V)->List (D×D)->Prop
 | nil:mD K H [] []
 | cons {k:List Key} {v:V} {d:D} {r:List (List Key×V)} {t:List (D×D)}:bV K H v d->mD K H r t->mD K H ((k,v) :: r) ((.tup (k.map eP),d) :: t)
end
structure Kp(H H':Hp):Prop where
 tup:∀ a xs,H a=some (.tup xs)->H' a=some (.tup xs)
 iC:∀ a o u,H a=some (.iC o u)->H' a=some (.iC o u)
theorem Kp.refl(H:Hp):Kp H H:=⟨fun _ _ h=>h,fun _ _ _ h=>h⟩
theorem Kp.trans{H H1 H2:Hp}(a:Kp H H1)(b:Kp H1 H2):Kp H H2:=⟨fun c xs h=>b.tup c xs (a.tup c xs h),fun c o u h=>b.iC c o u (a.iC c o u h)⟩
theorem Kp.sqT{K:ai}{H H':Hp}{a:Addr}{xs:List V}(k:Kp H H')(h:yH K H a xs):yH K H' a xs:=by
 rcases h with (h | ⟨o,h⟩) | h
 ·exact .inl (.inl (k.tup _ _ h))
 ·exact .inl (.inr ⟨o,k.iC _ _ _ h⟩)
 ·exact .inr h
theorem Kp.VX{K:ai}{H H':Hp}{a:Addr}{xs:List V}(k:Kp H H')(h:XH K H a xs):XH K H' a xs:=by
 rcases h with ⟨o,h⟩ | h
 ·exact .inl ⟨o,k.iC _ _ _ h⟩
 ·exact .inr h
theorem ExcAt.mono{K:ai}{H H':Hp}(k:Kp H H'){a:Addr}{c:Str}(h:ExcAt K H a c):ExcAt K H' a c :=
 let ⟨o,C,h1,h2,h3⟩:=h
 ⟨o,C,k.iC _ _ _ h1,h2,h3⟩
theorem Mh.mono{K:ai}{H H':Hp}(k:Kp H H'){a:Addr}{c:Str}{ns:List Str}{vs:List V}(h:Mh K H a c ns vs):Mh K H' a c ns vs :=
 let ⟨o,C,dx,od,fs,h1,h2,h3,h4,h5,h6⟩:=h
 ⟨o,C,dx,od,fs,k.iC _ _ _ h1,h2,h3,h4,k.iC _ _ _ h5,h6⟩
theorem aU.Gv{K:ai}{H:Hp}{P:List V->List D->Prop}(h0:P [] [])(h1:∀ {v:V} {d:D} {vs:List V} {ds:List D},bV K H v d->aU K H vs ds->P vs ds->P (v :: vs) (d :: ds)){vs:List V}{ds:List D}(h:aU K H vs ds):P vs ds :=
 aU.rec (motive_1:=fun _ _ _=>True) (motive_2:=fun vs ds _=>P vs ds) (motive_3:=fun _ _ _=>True) (motive_4:=fun _ _ _=>True) trivial (fun _=>trivial) (fun _=>trivial) (fun _=>trivial) (fun _ _ _=>trivial) (fun _ _ _=>trivial) (fun _ _ _=>trivial) (fun _ _ _=>trivial) (fun _=>trivial) (fun _=>trivial) (fun _ _ _=>trivial) (fun _ _ _ _ _ _=>trivial) h0 (fun a b _ ih=>h1 a b ih) trivial (fun _ _ _ _=>trivial) trivial (fun _ _ _ _=>trivial) h
theorem bV.mono{K:ai}{H H':Hp}(k:Kp H H'):∀ {v:V} {d:D},bV K H v d->bV K H' v d:=fun h =>
 bV.rec (motive_1:=fun v d _=>bV K H' v d) (motive_2:=fun v d _=>aU K H' v d) (motive_3:=fun v d _=>lQ K H' v d) (motive_4:=fun v d _=>mD K H' v d)
  .eN .bl .int .str (fun h _ r=>.tup (k.tup _ _ h) r) (fun h _ r=>.cW (k.VX h) r) (fun h _ r=>.nY (k.iC _ _ _ h) r) (fun h _ r=>.nX (k.iC _ _ _ h) r) .ref (fun h=>.exc (h.mono k)) (fun h _ r=>.Cq (h.mono k) r) (fun h z _ _ r1 r2=>.oV (k.iC _ _ _ h) z r1 r2) .nil (fun _ _ a b=>.cons a b) .nil (fun _ _ a b=>.cons a b) .nil (fun _ _ a b=>.cons a b) h
theorem aU.mono{K:ai}{H H':Hp}(k:Kp H H'){v:List V}{d:List D}(h:aU K H v d):aU K H' v d :=
 aU.Gv (P:=fun v d=>aU K H' v d) .nil (fun r _ ih=>.cons (r.mono k) ih) h
theorem lQ.mono{K:ai}{H H':Hp}(k:Kp H H'){v:List (Key×V)}{d:List (D×D)}(h:lQ K H v d):lQ K H' v d :=
 lQ.rec (motive_1:=fun v d _=>bV K H' v d) (motive_2:=fun v d _=>aU K H' v d) (motive_3:=fun v d _=>lQ K H' v d) (motive_4:=fun v d _=>mD K H' v d)
  .eN .bl .int .str (fun h _ r=>.tup (k.tup _ _ h) r) (fun h _ r=>.cW (k.VX h) r) (fun h _ r=>.nY (k.iC _ _ _ h) r) (fun h _ r=>.nX (k.iC _ _ _ h) r) .ref (fun h=>.exc (h.mono k)) (fun h _ r=>.Cq (h.mono k) r) (fun h z _ _ r1 r2=>.oV (k.iC _ _ _ h) z r1 r2) .nil (fun _ _ a b=>.cons a b) .nil (fun _ _ a b=>.cons a b) .nil (fun _ _ a b=>.cons a b) h
theorem mD.mono{K:ai}{H H':Hp}(k:Kp H H'){v:List (List Key×V)}{d:List (D×D)}(h:mD K H v d):mD K H' v d :=
 mD.rec (motive_1:=fun v d _=>bV K H' v d) (motive_2:=fun v d _=>aU K H' v d) (motive_3:=fun v d _=>lQ K H' v d) (motive_4:=fun v d _=>mD K H' v d)
  .eN .bl .int .str (fun h _ r=>.tup (k.tup _ _ h) r) (fun h _ r=>.cW (k.VX h) r) (fun h _ r=>.nY (k.iC _ _ _ h) r) (fun h _ r=>.nX (k.iC _ _ _ h) r) .ref (fun h=>.exc (h.mono k)) (fun h _ r=>.Cq (h.mono k) r) (fun h z _ _ r1 r2=>.oV (k.iC _ _ _ h) z r1 r2) .nil (fun _ _ a b=>.cons a b) .nil (fun _ _ a b=>.cons a b) .nil (fun _ _ a b=>.cons a b) h
theorem aU.length{K:ai}{H:Hp}:∀ {vs:List V} {ds:List D},aU K H vs ds->vs.length=ds.length:=fun h =>
 aU.Gv (P:=fun vs ds=>vs.length=ds.length) rfl (fun _ _ ih=>congrArg (· + 1) ih) h
theorem aU.get{K:ai}{H:Hp}:∀ {vs:List V} {ds:List D} {i:Nat} {d:D},aU K H vs ds->ds[i]?=some d->∃ v,vs[i]?=some v/\bV K H v d:=by
 intro vs ds i d h;refine aU.Gv (P:=fun vs ds=>∀ (i:Nat) (d:D),ds[i]?=some d->∃ v,vs[i]?=some v/\bV K H v d) (fun i d e=>by cases e) (fun r _ ih i d e=>?_) h i d;cases i with
 | zero=>cases e; exact⟨_,rfl,r⟩
 | succ i=>exact ih i d e
theorem aU.append{K:ai}{H:Hp}:∀ {vs ws:List V} {ds es:List D},aU K H vs ds->aU K H ws es->aU K H (vs++ws) (ds++es):=fun {_ ws _ es} h s =>
 aU.Gv (P:=fun vs ds=>aU K H (vs++ws) (ds++es)) s (fun r _ ih=>.cons r ih) h
theorem aU.take{K:ai}{H:Hp}:∀ {vs:List V} {ds:List D} (n:Nat),aU K H vs ds->aU K H (vs.take n) (ds.take n):=fun {_ _} n h =>
 aU.Gv (P:=fun vs ds=>∀ n,aU K H (vs.take n) (ds.take n)) (fun n=>by rw [A3,A3]; exact .nil) (fun r _ ih n=>by
  cases n with
  | zero=>exact .nil
  | succ n=>exact .cons r (ih n)) h n
theorem aU.drop{K:ai}{H:Hp}:∀ {vs:List V} {ds:List D} (n:Nat),aU K H vs ds->aU K H (vs.drop n) (ds.drop n):=fun {_ _} n h =>
 aU.Gv (P:=fun vs ds=>∀ n,aU K H (vs.drop n) (ds.drop n)) (fun n=>by rw [A4,A4]; exact .nil) (fun r t ih n=>by
  cases n with
  | zero=>exact .cons r t
  | succ n=>exact ih n) h n
theorem aU.set{K:ai}{H:Hp}{v:V}{d:D}(r:bV K H v d):∀ {vs:List V} {ds:List D} (i:Nat),aU K H vs ds->aU K H (vs.set i v) (ds.set i d):=fun {_ _} i h =>
 aU.Gv (P:=fun vs ds=>∀ i,aU K H (vs.set i v) (ds.set i d)) (fun i=>by rw [CU,CU]; exact .nil) (fun q t ih i=>by
  cases i with
  | zero=>exact .cons r t
  | succ i=>exact .cons q (ih i)) h i
theorem aU.one{K:ai}{H:Hp}:∀ {vs:List V} {d:D},aU K H vs [d]->∃ v,vs=[v]/\bV K H v d:=by
 intro vs d h;cases h with
 | cons r t=>cases t; exact⟨_,rfl,r⟩
theorem aU.two{K:ai}{H:Hp}:∀ {vs:List V} {d e:D},aU K H vs [d,e]->∃ v u,vs=[v,u]/\bV K H v d/\bV K H u e:=by
 intro vs d e h;cases h with
 | cons r t =>
  obtain⟨u,rfl,q⟩:=aU.one t;exact⟨_,_,rfl,r,q⟩
theorem aU.zero{K:ai}{H:Hp}:∀ {vs:List V},aU K H vs []->vs=[]
 | _,.nil=>rfl
theorem aU.ints{K:ai}{H:Hp}:∀ {vs:List V} {ns:List Int},aU K H vs (ns.map D.int)->vs=ns.map V.int:=by
 intro vs ns;induction ns generalizing vs with
 | nil=>intro h; exact h.zero
 | cons n ns ih =>
  intro h;cases h with
  | cons r t =>
   cases r;rw [ih t]; rfl
theorem aU.Le{K:ai}{H:Hp}:∀ (ns:List Int),aU K H (ns.map V.int) (ns.map D.int)
 | []=>.nil
 | n :: ns=>.cons (.int n) (aU.Le ns)
theorem lQ.ind{K:ai}{H:Hp}{motive:∀ (kv:List (Key×V)) (kvs:List (D×D)),lQ K H kv kvs->Prop}(nil:motive [] [] .nil)
  (cons:∀ {k:Key} {v:V} {d:D} {r:List (Key×V)} {t:List (D×D)} (re:bV K H v d) (rs:lQ K H r t),motive r t rs->motive ((k,v) :: r) ((eP k,d) :: t) (.cons re rs)):∀ {kv:List (Key×V)} {kvs:List (D×D)} (h:lQ K H kv kvs),motive kv kvs h:=fun h =>
 lQ.rec (motive_1:=fun _ _ _=>True) (motive_2:=fun _ _ _=>True) (motive_3:=motive) (motive_4:=fun _ _ _=>True) trivial (fun _=>trivial) (fun _=>trivial) (fun _=>trivial) (fun _ _ _=>trivial) (fun _ _ _=>trivial) (fun _ _ _=>trivial) (fun _ _ _=>trivial) (fun _=>trivial) (fun _=>trivial) (fun _ _ _=>trivial) (fun _ _ _ _ _ _=>trivial) trivial (fun _ _ _ _=>trivial) nil (fun a b _ ih=>cons a b ih) trivial (fun _ _ _ _=>trivial) h
theorem mD.ind{K:ai}{H:Hp}{motive:∀ (kv:List (List Key×V)) (kvs:List (D×D)),mD K H kv kvs->Prop}(nil:motive [] [] .nil)
  (cons:∀ {k:List Key} {v:V} {d:D} {r:List (List Key×V)} {t:List (D×D)} (re:bV K H v d) (rs:mD K H r t),motive r t rs->motive ((k,v) :: r) ((.tup (k.map eP),d) :: t) (.cons re rs)):∀ {kv:List (List Key×V)} {kvs:List (D×D)} (h:mD K H kv kvs),motive kv kvs h:=fun h =>
 mD.rec (motive_1:=fun _ _ _=>True) (motive_2:=fun _ _ _=>True) (motive_3:=fun _ _ _=>True) (motive_4:=motive) trivial (fun _=>trivial) (fun _=>trivial) (fun _=>trivial) (fun _ _ _=>trivial) (fun _ _ _=>trivial) (fun _ _ _=>trivial) (fun _ _ _=>trivial) (fun _=>trivial) (fun _=>trivial) (fun _ _ _=>trivial) (fun _ _ _ _ _ _=>trivial) trivial (fun _ _ _ _=>trivial) trivial (fun _ _ _ _=>trivial) nil (fun a b _ ih=>cons a b ih) h
theorem lQ.length{K:ai}{H:Hp}:∀ {v:List (Key×V)} {d:List (D×D)},lQ K H v d->v.length=d.length:=fun h =>
 lQ.ind (motive:=fun v d _=>v.length=d.length) rfl (fun _ _ ih=>congrArg (· + 1) ih) h
theorem mD.length{K:ai}{H:Hp}:∀ {v:List (List Key×V)} {d:List (D×D)},mD K H v d->v.length=d.length:=fun h =>
 mD.ind (motive:=fun v d _=>v.length=d.length) rfl (fun _ _ ih=>congrArg (· + 1) ih) h
def HZ(K:ai)(H:Hp)(a:Addr):GO->Prop
 | .lst ds=>∃ vs,H a=some (.lst vs)/\aU K H vs ds
 | .gK kvs=>(∃ kv,H a=some (.dK kv)/\lQ K H kv kvs)\/∃ kv,H a=some (.dT kv)/\mD K H kv kvs
 | .ins c fs=>∃ C dx fv,H a=some (.ins C dx fv)/\eT K bQ c=some (some (.ref C))/\fv.map (·.1)=fs.map (·.1)/\aU K H (fv.map (·.2)) (fs.map (·.2))
 | .qL kvs=>∃ xs ks vs,H a=some (.ext (Kd a xs))/\UA kvs ks vs xs/\aU K H ks (kvs.map fun p=>qu p.1)/\aU K H vs (kvs.map fun p=>p.2)
def kc(K:ai)(H:Hp)(G:Gp):Prop:=∀ a g,G a=some g->HZ K H a g
theorem HZ.dk{K:ai}{H:Hp}{a:Addr}{kv:List (Key×V)}{kvs:List (D×D)}(h:H a=some (.dK kv))(r:lQ K H kv kvs):HZ K H a (.gK kvs):=.inl ⟨kv,h,r⟩
theorem HZ.dt{K:ai}{H:Hp}{a:Addr}{kv:List (List Key×V)}{kvs:List (D×D)}(h:H a=some (.dT kv))(r:mD K H kv kvs):HZ K H a (.gK kvs):=.inr ⟨kv,h,r⟩
theorem HZ.mono{K:ai}{H H':Hp}{a:Addr}{g:GO}(k:Kp H H')(e:H' a=H a)(h:HZ K H a g):HZ K H' a g:=by
 cases g with
 | lst ds=>obtain⟨vs,q,r⟩:=h; exact⟨vs,e.trans q,r.mono k⟩
 | ins c fs=>obtain⟨C,dx,fv,q,h1,h2,r⟩:=h; exact⟨C,dx,fv,e.trans q,h1,h2,r.mono k⟩
 | qL kvs=>obtain⟨xs,ks,vs,q,h1,r1,r2⟩:=h; exact⟨xs,ks,vs,e.trans q,h1,r1.mono k,r2.mono k⟩
 | gK kvs =>
  rcases h with ⟨kv,q,r⟩ | ⟨kv,q,r⟩
  ·exact .inl ⟨kv,e.trans q,r.mono k⟩
  ·exact .inr ⟨kv,e.trans q,r.mono k⟩
theorem HZ.tracked{K:ai}{H:Hp}{a:Addr}{g:GO}(h:HZ K H a g):H a≠none:=by
 cases g with
 | lst ds=>obtain⟨vs,q,r⟩:=h; rw [q]; simp
 | ins c fs=>obtain⟨C,dx,fv,q,_⟩:=h; rw [q]; simp
 | qL kvs=>obtain⟨xs,ks,vs,q,_⟩:=h; rw [q]; simp
 | gK kvs =>
  rcases h with ⟨kv,q,r⟩ | ⟨kv,q,r⟩
  ·rw [q]; simp
  ·rw [q]; simp
theorem kc.free{K:ai}{H:Hp}{G:Gp}{a:Addr}(h:kc K H G)(e:H a=none):G a=none:=by
 cases q:G a with
 | none=>rfl
 | some g=>exact absurd e (h a g q).tracked
theorem kc.Yy{K:ai}{H:Hp}{G:Gp}{a:Addr}{xs:List V}(h:kc K H G)(e:H a=some (.tup xs)):G a=none:=by
 cases q:G a with
 | none=>rfl
 | some g =>
  have z:=h a g q;cases g with
  | lst ds=>obtain⟨vs,q,r⟩:=z; rw [e] at q; cases q
  | ins c fs=>obtain⟨C,dx,fv,q,_⟩:=z; rw [e] at q; cases q
  | qL kvs=>obtain⟨xs,ks,vs,q,_⟩:=z; rw [e] at q; cases q
  | gK kvs =>
   rcases z with ⟨kv,q,r⟩ | ⟨kv,q,r⟩
   ·rw [e] at q; cases q
   ·rw [e] at q; cases q
theorem kc.YA{K:ai}{H:Hp}{G:Gp}{a:Addr}{o:Obj}{u:HO}(h:kc K H G)(e:H a=some (.iC o u)):G a=none:=by
 cases q:G a with
 | none=>rfl
 | some g =>
  have z:=h a g q;cases g with
  | lst ds=>obtain⟨vs,q,r⟩:=z; rw [e] at q; cases q
  | ins c fs=>obtain⟨C,dx,fv,q,_⟩:=z; rw [e] at q; cases q
  | qL kvs=>obtain⟨xs,ks,vs,q,_⟩:=z; rw [e] at q; cases q
  | gK kvs =>
   rcases z with ⟨kv,q,r⟩ | ⟨kv,q,r⟩
   ·rw [e] at q; cases q
   ·rw [e] at q; cases q
structure Mv(K:ai)(H:Hp)(G:Gp)(H':Hp)(G':Gp):Prop where
 keep:∀ a o,H a=some o->G a=none->H' a=some o/\G' a=none
 jl:∀ a,G a≠none->H' a≠none
 ab:kc K H' G'
theorem Mv.refl{K:ai}{H:Hp}{G:Gp}(h:kc K H G):Mv K H G H G:=⟨fun _ _ e n=>⟨e,n⟩,fun a n=>by
 cases q:G a with
 | none=>exact absurd q n
 | some g=>exact(h a g q).tracked,h⟩
theorem Mv.trans{K:ai}{H H1 H2:Hp}{G G1 G2:Gp}(a:Mv K H G H1 G1)(b:Mv K H1 G1 H2 G2):Mv K H G H2 G2 :=
 ⟨fun c o e n=>let ⟨e1,n1⟩:=a.keep c o e n; b.keep c o e1 n1,fun c n=>by
  have h1:=a.jl c n;cases q:G1 c with
  | some g=>exact b.jl c (by rw [q]; simp)
  | none =>
   cases q1:H1 c with
   | none=>exact absurd q1 h1
   | some o=>rw [(b.keep c o q1 q).1]; simp,b.ab⟩
theorem Mv.kp{K:ai}{H H':Hp}{G G':Gp}(m:Mv K H G H' G')(h:kc K H G):Kp H H' :=
 ⟨fun a xs e=>(m.keep a _ e (h.Yy e)).1,fun a o u e=>(m.keep a _ e (h.YA e)).1⟩
theorem Kp.new{H:Hp}{p:Addr}{o:HO}(hp:H p=none):Kp H (upd H p o):=⟨fun a xs e=>by rw [bG (d6 e hp)]; exact e,fun a ob u e=>by rw [bG (d6 e hp)]; exact e⟩
theorem Kp.putL{H:Hp}{p:Addr}{xs:List V}{o:HO}(hp:H p=some (.lst xs)):Kp H (upd H p o) :=
 ⟨fun a ys e=>by rw [bG (by rintro rfl; rw [hp] at e; cases e)]; exact e,fun a ob u e=>by rw [bG (by rintro rfl; rw [hp] at e; cases e)]; exact e⟩
theorem Mv.new{K:ai}{H:Hp}{G:Gp}{p:Addr}{o:HO}{g:GO}(h:kc K H G)(hp:H p=none)(ho:HZ K (upd H p o) p g):Mv K H G (upd H p o) (eV G p g) where
 keep:=fun a ob e n=>by
  have ne:=d6 e hp;exact⟨by rw [bG ne]; exact e,by rw [cL ne]; exact n⟩
 jl:=fun a n=>by
  have ne:a≠p:=by rintro rfl; exact n (h.free hp)
  rw [bG ne];exact(Mv.refl h).jl a n
 ab:=fun a g' e=>by
  by_cases ha:a=p
  ·subst ha; rw [az] at e; cases e; exact ho
  ·rw [cL ha] at e;exact(h a g' e).mono (.new hp) (bG ha)
theorem Mv.GB{K:ai}{H:Hp}{G:Gp}{p:Addr}{o:HO}(h:kc K H G)(hp:H p=none):Mv K H G (upd H p o) G where
 keep:=fun a ob e n=>⟨by rw [bG (d6 e hp)]; exact e,n⟩
 jl:=fun a n=>by
  have ne:a≠p:=by rintro rfl; exact n (h.free hp)
  rw [bG ne];exact(Mv.refl h).jl a n
 ab:=fun a g' e=>by
  have ne:a≠p:=by rintro rfl; rw [h.free hp] at e; cases e
  exact(h a g' e).mono (.new hp) (bG ne)
theorem Mv.put{K:ai}{H:Hp}{G:Gp}{p:Addr}{o:HO}{g g0:GO}(h:kc K H G)(hg:G p=some g0)(k:Kp H (upd H p o))(ho:HZ K (upd H p o) p g):Mv K H G (upd H p o) (eV G p g) where
 keep:=fun a ob e n=>by
  have ne:a≠p:=by rintro rfl; rw [hg] at n; cases n
  exact⟨by rw [bG ne]; exact e,by rw [cL ne]; exact n⟩
 jl:=fun a n=>by
  by_cases ha:a=p
  ·subst ha; rw [bU]; simp
  ·rw [bG ha]; exact(Mv.refl h).jl a n
 ab:=fun a g' e=>by
  by_cases ha:a=p
  ·subst ha; rw [az] at e; cases e; exact ho
  ·rw [cL ha] at e;exact(h a g' e).mono k (bG ha)
theorem kc.lst{K:ai}{H:Hp}{G:Gp}{a:Addr}{ds:List D}(h:kc K H G)(e:G a=some (.lst ds)):∃ vs,H a=some (.lst vs)/\aU K H vs ds:=h a _ e
theorem Mv.FO{K:ai}{H:Hp}{G:Gp}{p:Addr}{vs:List V}{ds:List D}(h:kc K H G)(hp:H p=none)(r:aU K H vs ds):Mv K H G (upd H p (.lst vs)) (eV G p (.lst ds)) :=
 .new h hp ⟨vs,bU,r.mono (.new hp)⟩
theorem Mv.putL{K:ai}{H:Hp}{G:Gp}{p:Addr}{vs0 vs:List V}{ds0 ds:List D}(h:kc K H G)(hg:G p=some (.lst ds0))(hp:H p=some (.lst vs0))(r:aU K H vs ds):Mv K H G (upd H p (.lst vs)) (eV G p (.lst ds)) :=
 .put h hg (.putL hp) ⟨vs,bU,r.mono (.putL hp)⟩
structure Ob(K:ai)(H:Hp)(σ:L2.St)(τ:iD):Prop where
 len:σ.length=τ.length
 at':∀ (i:Nat) (d:D),τ[i]?=some (some d)->∃ v,σ[i]?=some (some v)/\bV K H v d
theorem Ob.mono{K:ai}{H H':Hp}{σ:L2.St}{τ:iD}(k:Kp H H')(a:Ob K H σ τ):Ob K H' σ τ :=
 ⟨a.len,fun i d e=>let ⟨v,h1,h2⟩:=a.at' i d e; ⟨v,h1,h2.mono k⟩⟩
theorem Ob.set{K:ai}{H:Hp}{σ:L2.St}{τ:iD}{v:V}{d:D}(a:Ob K H σ τ)(i:Nat)(r:bV K H v d):Ob K H (σ.set i (some v)) (τ.set i (some d)):=by
 refine⟨by rw [bY,bY]; exact a.len,fun j e h=>?_⟩;by_cases hj:i=j
 ·subst hj;by_cases hi:i < τ.length
  ·rw [cm hi] at h;cases h;exact⟨v,by rw [cm (by rw [a.len]; exact hi)],r⟩
  ·rw [List.set_eq_of_length_le (by lia)] at h;rw [fO (by lia)] at h;cases h
 ·rw [b9 hj] at h;obtain⟨w,h1,h2⟩:=a.at' j e h;exact⟨w,by rw [b9 hj]; exact h1,h2⟩
structure I2(X:Cx)(pins:List (Addr×Obj))(σ:L2.St)(H:Hp)(τ:iD)(G:Gp)(s:ax):Prop where
 inv:Inv X pins σ H s
 st:Ob X.K H σ τ
 ab:kc X.K H G
theorem I2.mv{X:Cx}{pins:List (Addr×Obj)}{σ:L2.St}{H H':Hp}{τ:iD}{G G':Gp}{s s':ax}(I:I2 X pins σ H τ G s)(I':Inv X pins σ H' s')(m:Mv X.K H G H' G'):I2 X pins σ H' τ G' s' :=
 ⟨I',I.st.mono (m.kp I.ab),m.ab⟩
def Sl(P:bI)(w:World):Mi:=fun outer H s E e s'=>∃ (a C t:Addr) (B:Heap) (H':Hp),e=.ref a/\s'.os=s.os/\yY s'.gens/\Un (tD outer) [] H H' s.heap s'.heap/\oh P w H' s'.heap /\
 (∀ b o,s'.heap.get? b=some o->b∉tD outer->(s.heap.get? b≠none\/H' b≠none)->B.get? b=some o)/\vW B outer a (.ref C) (.ref t) s'.heap/\H' a=none/\s.heap.get? a=none/\E (.ref C) none H'
def exK(K:ai)(mg:Str->Option Value)(E:lP):XK:=fun cls _ H=>∃ (ex:Ex) (C:Addr) (G:Gp),cls=.ref C/\mg ex.cls=some (.ref C)/\kc K H G/\E ex G
structure Lk(X:Cx)(E:lP):Prop where
 made:∀ (pins:List (Addr×Obj)) (σ:L2.St) (H:Hp) (s:ax) (h1:Heap) (a C:Addr) (args:List Value) (ex:Ex) (G:Gp),Inv X pins σ H s->kc X.K H G->PySem.Heap.MadeExcOf s.heap h1 a (.ref C) args->X.mg ex.cls=some (.ref C)->E ex G->X.xe (.ref a) { s with heap:=h1 }
 pass:∀ (pins:List (Addr×Obj)) (σ:L2.St) (H:Hp) (s s':ax) (e:Value),Inv X pins σ H s->Sl X.prog X.w X.stack H s (exK X.K X.mg E) e s'->X.xe e s'
theorem Lk.none{X:Cx}{E:lP}(h:∀ ex G,¬ E ex G):Lk X E where
 made:=fun _ _ _ _ _ _ _ _ ex _ _ _ _ _ z=>absurd z (h ex _)
 pass:=fun _ _ _ _ _ _ _ hc=>by
  obtain⟨_,_,_,_,_,_,_,_,_,_,_,_,_,_,hz⟩:=hc;obtain⟨ex,_,_,_,_,_,z⟩:=hz;exact absurd z (h ex _)
inductive su (X:Cx) (pins:List (Addr×Obj)) (σ:L2.St) (H:Hp) (G:Gp) (Q:DK) (u:Value) (s':ax):Prop
 | mk (v:V) (H':Hp) (d:D) (G':Gp) (i:Inv X pins σ H' s') (m:Mv X.K H G H' G') (r:RelV v u) (rd:bV X.K H' v d) (q:Q d G'):su X pins σ H G Q u s'
inductive XG (X:Cx) (pins:List (Addr×Obj)) (σ:L2.St) (H:Hp) (G:Gp) (Q:Bool->Gp->Prop) (b:Bool) (s':ax):Prop
 | mk (H':Hp) (G':Gp) (i:Inv X pins σ H' s') (m:Mv X.K H G H' G') (q:Q b G'):XG X pins σ H G Q b s'
inductive AP2 (X:Cx) (pins:List (Addr×Obj)) (σ:L2.St) (H:Hp) (G:Gp) (Q:List D->Gp->Prop) (us:List Value) (s':ax):Prop
 | mk (vs:List V) (H':Hp) (ds:List D) (G':Gp) (i:Inv X pins σ H' s') (m:Mv X.K H G H' G') (r:Vals vs us) (rd:aU X.K H' vs ds) (q:Q ds G'):AP2 X pins σ H G Q us s'
inductive SPn (X:Cx) (pins:List (Addr×Obj)) (H:Hp) (G:Gp) (P:iD->Gp->Prop) (s':ax):Prop
 | mk (jY:L2.St) (H':Hp) (oU:iD) (G':Gp) (i:I2 X pins jY H' oU G' s') (m:Mv X.K H G H' G') (q:P oU G'):SPn X pins H G P s'
inductive SPr (X:Cx) (pins:List (Addr×Obj)) (H:Hp) (G:Gp) (P:D->Gp->Prop) (u:Value) (s':ax):Prop
 | mk (v:V) (jY:L2.St) (H':Hp) (d:D) (G':Gp) (i:Inv X pins jY H' s') (m:Mv X.K H G H' G') (r:RelV v u) (rd:bV X.K H' v d) (q:P d G'):SPr X pins H G P u s'
def Ux(X:Cx)(pins:List (Addr×Obj))(H:Hp)(G:Gp)(D:nQ)(f:Flow)(s':ax):Prop :=
 match f with
 | .next=>SPn X pins H G D.nx s'
 | .brk=>SPn X pins H G D.bk s'
 | .cont=>SPn X pins H G D.ct s'
 | .ret u=>SPr X pins H G D.rt u s'
def fW(X:Cx)(e:Expr)(t:fV):Prop :=
 ∀ (E:lP) (pins:List (Addr×Obj)) (s:ax) (σ:L2.St) (H:Hp) (τ:iD) (G:Gp) (Q:DK),Lk X E->I2 X pins σ H τ G s->t E τ G Q->wpAny (model X.prog X.w) X.A (eval e X.env) (su X pins σ H G Q) X.xe s
def Kb(X:Cx)(e:Expr)(t:xY):Prop :=
 ∀ (E:lP) (pins:List (Addr×Obj)) (s:ax) (σ:L2.St) (H:Hp) (τ:iD) (G:Gp) (Q:Bool->Gp->Prop),Lk X E->I2 X pins σ H τ G s->t E τ G Q->wpAny (model X.prog X.w) X.A (isTrue e X.env (eval e X.env)) (XG X pins σ H G Q) X.xe s
def Ka(X:Cx)(e:Expr)(t:xY):Prop :=
 ∀ (wh:Sem Value) (E:lP) (pins:List (Addr×Obj)) (s:ax) (σ:L2.St) (H:Hp) (τ:iD) (G:Gp) (Q:Bool->Gp->Prop),Lk X E->I2 X pins σ H τ G s->t E τ G Q->wpAny (model X.prog X.w) X.A (isTrue e X.env wh) (XG X pins σ H G Q) X.xe s
def BC(X:Cx)(es:List Expr)(t:A8):Prop :=
 ∀ (pos:Pos) (E:lP) (pins:List (Addr×Obj)) (s:ax) (σ:L2.St) (H:Hp) (τ:iD) (G:Gp) (Q:List D->Gp->Prop),Lk X E->I2 X pins σ H τ G s->t E τ G Q->wpAny (model X.prog X.w) X.A (yL (mx pos (bx es X.env))) (AP2 X pins σ H G Q) X.xe s
def EE(X:Cx)(st:Stmt)(t:hU):Prop :=
 ∀ (E:lP) (pins:List (Addr×Obj)) (s:ax) (σ:L2.St) (H:Hp) (τ:iD) (G:Gp) (D:nQ),Lk X E->I2 X pins σ H τ G s->t E D τ G->wpAny (model X.prog X.w) X.A (exec st X.env) (Ux X pins H G D) X.xe s
def tG(X:Cx)(st:List Stmt)(t:hU):Prop :=
 ∀ (E:lP) (pins:List (Addr×Obj)) (s:ax) (σ:L2.St) (H:Hp) (τ:iD) (G:Gp) (D:nQ),Lk X E->I2 X pins σ H τ G s->t E D τ G->wpAny (model X.prog X.w) X.A (execs st X.env) (Ux X pins H G D) X.xe s
theorem Ux.trans{X:Cx}{pins:List (Addr×Obj)}{H H1:Hp}{G G1:Gp}{D:nQ}{f:Flow}{s':ax}(m:Mv X.K H G H1 G1)(h:Ux X pins H1 G1 D f s'):Ux X pins H G D f s':=by
 cases f with
 | next=>obtain⟨jY,H',oU,G',I,m',q⟩:=h; exact⟨jY,H',oU,G',I,m.trans m',q⟩
 | brk=>obtain⟨jY,H',oU,G',I,m',q⟩:=h; exact⟨jY,H',oU,G',I,m.trans m',q⟩
 | cont=>obtain⟨jY,H',oU,G',I,m',q⟩:=h; exact⟨jY,H',oU,G',I,m.trans m',q⟩
 | ret u=>obtain⟨v,jY,H',d,G',I,m',r,rd,q⟩:=h; exact⟨v,jY,H',d,G',I,m.trans m',r,rd,q⟩
section
variable {X:Cx} {a b c:Expr} {ta tb tc:fV} {pos:Pos}
theorem i5{pins:List (Addr×Obj)}{σ:L2.St}{H:Hp}{τ:iD}{G:Gp}{s:ax}{E:lP}{R:DK}{Q:Value->ax->Prop}(ha:fW X a ta)(hE:Lk X E)(I:I2 X pins σ H τ G s)(h:ta E τ G R)
  (k:∀ v H1 d G1 u s1,I2 X pins σ H1 τ G1 s1->Mv X.K H G H1 G1->RelV v u->bV X.K H1 v d->R d G1->Q u s1):wpAny (model X.prog X.w) X.A (eval a X.env) Q X.xe s :=
 gH (ha E pins s σ H τ G R hE I h) (by rintro u s1 ⟨v,H1,d,G1,I1,m,r,rd,q⟩; exact k v H1 d G1 u s1 (I.mv I1 m) m r rd q)
theorem su.trans{pins:List (Addr×Obj)}{σ:L2.St}{H H1:Hp}{G G1:Gp}{Q:DK}{u:Value}{s':ax}(m:Mv X.K H G H1 G1)(h:su X pins σ H1 G1 Q u s'):su X pins σ H G Q u s':=by
 obtain⟨v,H',d,G',I,m',r,rd,q⟩:=h;exact⟨v,H',d,G',I,m.trans m',r,rd,q⟩
theorem XG.trans{pins:List (Addr×Obj)}{σ:L2.St}{H H1:Hp}{G G1:Gp}{Q:Bool->Gp->Prop}{u:Bool}{s':ax}(m:Mv X.K H G H1 G1)(h:XG X pins σ H1 G1 Q u s'):XG X pins σ H G Q u s':=by
 obtain⟨H',G',I,m',r⟩:=h;exact⟨H',G',I,m.trans m',r⟩
theorem Ti {i:Nat} {x:Str} (hN:X.N[i]?=some x) (hv:Vis X.env.scope x) (hd:autoParam ((x == ("__debug__" : Str))=false) Ad._auto_1) (HX:autoParam ((x == ("__classdict__" : Str))=false) Ad._auto_1):fW X (.Name x pos) (av i):=by
 intro E pins s σ H τ G Q hE I h;unfold av at h;split at h
 ·rename_i d e;obtain⟨v,h1,h2⟩:=I.st.at' i d e;exact gH (We hN hv hd HX pins s σ H (fun v' H'=>v'=v/\H'=H) I.inv ⟨v,h1,rfl,rfl⟩) fun u s1 Ot=>by
   obtain⟨v',H',I1,r,e1,e2⟩:=Ot;subst e1; subst e2;exact⟨_,_,d,G,I1,.refl I.ab,r,h2,h⟩
 ·exact h.elim
theorem sG{e:Expr}{v:V}{d:D}(h:PE X e (tC v))(r:∀ K H,bV K H v d):fW X e (dC d):=by
 intro E pins s σ H τ G Q hE I hq;exact gH (h pins s σ H (fun v' H'=>v'=v/\H'=H) I.inv ⟨rfl,rfl⟩) fun u s1 hp1=>by
  obtain⟨v',H',I1,rr,e1,e2⟩:=hp1;subst e1; subst e2;exact⟨_,_,d,G,I1,.refl I.ab,rr,r _ _,hq⟩
theorem aJ{i j}:fW X (.Constant (.int i) j pos) (dC (.int i)):=sG Wg fun _ _=>.int i
def nP(X:Cx)(f:Value->Value->Sem Value)(r:yI):Prop :=
 ∀ (pins:List (Addr×Obj)) (s:ax) (σ:L2.St) (H:Hp) (G:Gp) (x y:V) (dx dy:D) (v u:Value) (Q:DK),Inv X pins σ H s->kc X.K H G->RelV x v->RelV y u->bV X.K H x dx->bV X.K H y dy->r dx dy G Q ->
  wpAny (model X.prog X.w) X.A (f v u) (su X pins σ H G Q) X.xe s
def ZD(X:Cx)(f:Value->Sem Value)(r:D->Gp->DK->Prop):Prop :=
 ∀ (pins:List (Addr×Obj)) (s:ax) (σ:L2.St) (H:Hp) (G:Gp) (x:V) (dx:D) (v:Value) (Q:DK),Inv X pins σ H s->kc X.K H G->RelV x v->bV X.K H x dx->r dx G Q ->
  wpAny (model X.prog X.w) X.A (f v) (su X pins σ H G Q) X.xe s
def sx(X:Cx)(f:Value)(r:List D->Gp->DK->Prop):Prop :=
 ∀ (pins:List (Addr×Obj)) (s:ax) (σ:L2.St) (H:Hp) (G:Gp) (xs:List V) (ds:List D) (us:List Value) (Q:DK),Inv X pins σ H s->kc X.K H G->Vals xs us->aU X.K H xs ds->r ds G Q ->
  wpAny (model X.prog X.w) X.A (call f us) (su X pins σ H G Q) X.xe s
abbrev A9(K:ai)(H:Hp)(G:Gp)(Q:DK):VK:=fun v H'=>∃ d G',Mv K H G H' G'/\bV K H' v d/\Q d G'
theorem su.of{pins:List (Addr×Obj)}{σ:L2.St}{H:Hp}{G:Gp}{Q:DK}{u:Value}{s':ax}(h:EP X pins σ (A9 X.K H G Q) u s'):su X pins σ H G Q u s':=by
 obtain⟨v,H',I,r,d,G',m,rd,q⟩:=h;exact⟨v,H',d,G',I,m,r,rd,q⟩
theorem RH(ha:fW X a ta)(hb:fW X b tb){E:lP}{pins:List (Addr×Obj)}{s:ax}{σ:L2.St}{H:Hp}{τ:iD}{G:Gp}{R:D->D->Gp->Prop}(hE:Lk X E)(I:I2 X pins σ H τ G s)
  (h:ta E τ G fun x G1=>tb E τ G1 fun y G2=>R x y G2) {Q:Value->ax->Prop} {f:Value->Value->Sem Value}
  (hf:∀ v u s2 x y dx dy H2 G2,I2 X pins σ H2 τ G2 s2->Mv X.K H G H2 G2->RelV x v->RelV y u->bV X.K H2 x dx->bV X.K H2 y dy->R dx dy G2->wpAny (model X.prog X.w) X.A (f v u) Q X.xe s2) :
  wpAny (model X.prog X.w) X.A (eval a X.env) (fun v fC=>wpAny (model X.prog X.w) X.A (eval b X.env) (fun u kq=>wpAny (model X.prog X.w) X.A (f v u) Q X.xe kq) X.xe fC) X.xe s:=by
 refine i5 ha hE I h fun x H1 dx G1 v s1 I1 m1 r1 jj q1=>?_;refine i5 hb hE I1 q1 fun y H2 dy G2 u s2 mr m2 r2 xr q2=>?_;exact hf v u s2 x y dx dy H2 G2 mr (m1.trans m2) r1 r2 (jj.mono (m2.kp I1.ab)) xr q2
theorem cx{op:Operator}{r:yI}(ho:nP X (iE op) r)(ha:fW X a ta)(hb:fW X b tb):fW X (.BinOp a op b pos) (bh r ta tb):=by
 intro E pins s σ H τ G Q hE I h;exact wpAny_BinOp (RH ha hb hE I h fun v u s2 x y dx dy H2 G2 mr m rx ry dX dY q=>gH (ho pins s2 σ H2 G2 x y dx dy v u Q mr.inv mr.ab rx ry dX dY q) fun _ _ z=>z.trans m)
theorem Dk{op:UnaryOp}{r:D->Gp->DK->Prop}(ho:ZD X (unaryOp op) r)(ha:fW X a ta):fW X (.UnaryOp op a pos) (Si r ta):=by
 intro E pins s σ H τ G Q hE I h;exact UnaryOp_ (i5 ha hE I h fun x H1 dx G1 v s1 I1 m1 r1 jj q1=>gH (ho pins s1 σ H1 G1 x dx v Q I1.inv I1.ab r1 jj q1) fun _ _ z=>z.trans m1)
theorem K9{op:CmpOp}{r:yI}(ho:nP X (dQ op) r)(ha:fW X a ta)(hb:fW X b tb)(hm:behindInMarks op b=false):fW X (.Compare a [op] [b] pos) (bh r ta tb):=by
 intro E pins s σ H τ G Q hE I h;exact wpAny_Compare1 (RH ha hb hE I h fun v u s2 x y dx dy H2 G2 mr m rx ry dX dY q=>gH (ho pins s2 σ H2 G2 x y dx dy v u Q mr.inv mr.ab rx ry dX dY q) fun _ _ z=>z.trans m) hm
end
theorem XU{K:ai}{H:Hp}{G:Gp}{x:V}{d:D}{k:Bool}(ab:kc K H G)(r:bV K H x d)(e:HN d G=some k):(∃ p,x=.ref p/\Rd H p (.dT [])/\k=false)\/(∃ p kv,x=.ref p/\Rd H p (.dK kv)/\k=!kv.isEmpty)\/Xk K x H k:=by
 have Rc:∀ kvs:List (D×D),(if (kvs.all fun p=>dH p.1)=true then some (!kvs.isEmpty) else none)=some k->∀ p,((∃ kv,Rd H p (.dK kv)/\lQ K H kv kvs)\/∃ kv,Rd H p (.dT kv)/\mD K H kv kvs) ->
   (∃ p',V.ref p=.ref p'/\Rd H p' (.dT [])/\k=false)\/(∃ p' kv,V.ref p=.ref p'/\Rd H p' (.dK kv)/\k=!kv.isEmpty)\/Xk K (.ref p) H k:=by
  intro kvs e p z;by_cases ha:(kvs.all fun p=>dH p.1)=true
  ·rw [if_pos ha] at e;cases e;rcases z with ⟨kv,hv,rs⟩ | ⟨kv,hv,rs⟩
   ·right; left;refine⟨p,kv,rfl,hv,?_⟩;cases rs <;> rfl
   ·left;cases rs with
    | nil=>exact⟨p,rfl,hv,rfl⟩
    | cons _ _=>simp [dH] at ha
  ·rw [if_neg ha] at e; cases e
 cases r with
 | eN=>right; right; cases e; rfl
 | bl b=>right; right; cases e; rfl
 | int i=>right; right; cases e; rfl
 | str y =>
  right; right;unfold HN at e;dsimp only at e;by_cases h:y.length<=SZ
  ·rw [if_pos h] at e; cases e; exact⟨by rw [cD]; exact h,rfl⟩
  ·rw [if_neg h] at e; cases e
 | tup h rs =>
  right; right;cases e;refine .inr (.inl ⟨_,.of h,?_⟩);cases rs <;> rfl
 | cW h rs =>
  right; right;cases e;refine .inl ⟨_,h.sq,?_⟩;cases rs <;> rfl
 | nY h rs=>exact Rc _ e _ (.inl ⟨_,.inr ⟨_,h⟩,rs⟩)
 | nX h rs=>exact Rc _ e _ (.inr ⟨_,.inr ⟨_,h⟩,rs⟩)
 | exc h=>simp [HN] at e
 | Cq h _=>simp [HN] at e
 | oV _ _ _ _=>simp [HN] at e
 | ref a =>
  unfold HN at e;dsimp only at e;cases q:G a with
  | none=>rw [q] at e; cases e
  | some g =>
   rw [q] at e;have z:=ab a g q;cases g with
   | lst ds =>
    right; right;obtain⟨vs,hv,rs⟩:=z;cases e;refine .inl ⟨vs,.of hv,?_⟩;cases rs <;> rfl
   | ins _ _=>cases e
   | qL _=>cases e
   | gK kvs =>
    refine Rc kvs e a ?_;rcases z with ⟨kv,hv,rs⟩ | ⟨kv,hv,rs⟩
    ·exact .inl ⟨kv,.inl hv,rs⟩
    ·exact .inr ⟨kv,.inl hv,rs⟩
section
variable {X:Cx} {a b c:Expr} {ta tb tc:fV} {pos:Pos}
def ZE(X:Cx):Prop:=∀ (pins:List (Addr×Obj)) (s:ax) (σ:L2.St) (H:Hp) (G:Gp) (x:V) (d:D) (v:Value) (k:Bool) (Q:Bool->ax->Prop),Inv X pins σ H s->kc X.K H G->RelV x v->bV X.K H x d->HN d G=some k ->
  (∀ s',Inv X pins σ H s'->Q k s')->wpAny (model X.prog X.w) X.A (truthy v) Q X.xe s
theorem OR:ZE X:=by
 intro pins s σ H G x d v k Q I ab rx rd e q;rcases XU ab rd e with ⟨p,rfl,hv,hk⟩ | ⟨p,kv,rfl,hv,hk⟩ | h
 ·obtain⟨z,hS,xs,rel,o,es,ep,ho,hx,A6,hl,nd⟩:=hv.ok I.b7;have hxs:xs=[]:=by cases rel; rfl
  subst hxs;have he:es=#[]:=by simpa using hl
  subst he;cases rx;have dd:s.heap.DictOf (cH X.prog X.w) p []:=⟨o,#[],ep,ho,hx,A6,(fun _ h=>by simp at h),.nil,cy⟩;refine H0 hS dd (by simp) ?_;subst hk;exact q _ (I.tok _)
 ·cases rx;subst hk;exact Ud I hv q
 ·exact gH (VP pins s σ H x v (fun k' H'=>k'=k/\H'=H) I rx ⟨k,h,rfl,rfl⟩) fun k' s' Ot=>by
   obtain⟨H',I',e1,e2⟩:=Ot;subst e1; subst e2; exact q s' I'
theorem gY(ha:fW X a ta)(he:autoParam (∀ whole,isTrue a X.env whole=(do let v ← whole; standAt a.pos; CO [v] (truthy v))) Ai._auto_1):Kb X a (gv ta):=by
 intro E pins s σ H τ G Q hE I h;refine isTrue_plain (i5 ha hE I h fun x H1 d G1 v s1 I1 m1 r1 jj q1=>?_) (he _)
 try dsimp only at q1
 split at q1
 ·rename_i k e;exact OR pins s1 σ H1 G1 x d v k _ I1.inv I1.ab r1 jj e fun s' I'=>⟨H1,G1,I',m1,q1⟩
 ·exact q1.elim
theorem dq{op:CmpOp}{r:yI}(ho:nP X (dQ op) r)(ha:fW X a ta)(hb:fW X b tb)(hm:behindInMarks op b=false):Kb X (.Compare a [op] [b] pos) (gv (bh r ta tb)):=by
 intro E pins s σ H τ G Q hE I h;refine wpAny_isTrue_Compare1 (i5 ha hE I h fun x H1 dx G1 v s1 I1 m1 r1 jj q1=>i5 hb hE I1 q1 fun y H2 dy G2 u s2 mr m2 r2 xr q2 =>
  gH (ho pins s2 σ H2 G2 x y dx dy v u _ mr.inv mr.ab r1 r2 (jj.mono (m2.kp I1.ab)) xr q2) ?_) hm
 rintro c s3 ⟨z,H3,dz,G3,I3,m3,r3,Ye,q3⟩
 try dsimp only at q3
 split at q3
 ·rename_i k e;exact OR pins s3 σ H3 G3 z dz c k _ I3 m3.ab r3 Ye e fun s' I'=>⟨H3,G3,I',(m1.trans m2).trans m3,q3⟩
 ·exact q3.elim
variable {tA tB:xY} {rest:List Expr}
theorem Ka.pt{e:Expr}{t:xY}(h:Ka X e t):Kb X e t:=fun E pins s σ H τ G Q hE I q=>h _ E pins s σ H τ G Q hE I q
theorem MB{pins:List (Addr×Obj)}{σ:L2.St}{H:Hp}{τ:iD}{G:Gp}{s:ax}{E:lP}{R:Bool->Gp->Prop}{Q:Bool->ax->Prop}(ha:Kb X a tA)(hE:Lk X E)(I:I2 X pins σ H τ G s)(h:tA E τ G R)
  (k:∀ c H1 G1 s1,I2 X pins σ H1 τ G1 s1->Mv X.K H G H1 G1->R c G1->Q c s1):wpAny (model X.prog X.w) X.A (isTrue a X.env (eval a X.env)) Q X.xe s :=
 gH (ha E pins s σ H τ G R hE I h) (by rintro c s1 ⟨H1,G1,I1,m,q⟩; exact k c H1 G1 s1 (I.mv I1 m) m q)
theorem Fs(ha:Kb X a tA):Ka X (.BoolOp .And [a] pos) tA:=by
 intro wh E pins s σ H τ G Q hE I h;refine isTrue_and (gH (ha E pins s σ H τ G Q hE I h) fun c s1 e=>?_);cases c with
 | true=>exact isTrue_and_nil e
 | false=>exact e
theorem u7(ha:Kb X a tA):Ka X (.BoolOp .Or [a] pos) tA:=by
 intro wh E pins s σ H τ G Q hE I h;refine isTrue_or (gH (ha E pins s σ H τ G Q hE I h) fun c s1 e=>?_);cases c with
 | false=>exact isTrue_or_nil e
 | true=>exact e
theorem KY(ha:Kb X a tA)(hb:Ka X (.BoolOp .And (b :: rest) pos) tB):Ka X (.BoolOp .And (a :: b :: rest) pos) (Rk tA tB):=by
 intro wh E pins s σ H τ G Q hE I h;refine isTrue_and (MB ha hE I h fun c H1 G1 s1 I1 m1 q1=>?_);cases c with
 | true=>exact gH (hb wh E pins s1 σ H1 τ G1 Q hE I1 (by simpa using q1)) fun _ _ z=>z.trans m1
 | false=>exact⟨H1,G1,I1.inv,m1,by simpa using q1⟩
theorem wy(ha:Kb X a tA)(hb:Ka X (.BoolOp .Or (b :: rest) pos) tB):Ka X (.BoolOp .Or (a :: b :: rest) pos) (NJ tA tB):=by
 intro wh E pins s σ H τ G Q hE I h;refine isTrue_or (MB ha hE I h fun c H1 G1 s1 I1 m1 q1=>?_);cases c with
 | false=>exact gH (hb wh E pins s1 σ H1 τ G1 Q hE I1 (by simpa using q1)) fun _ _ z=>z.trans m1
 | true=>exact⟨H1,G1,I1.inv,m1,by simpa using q1⟩
theorem jS(ha:Kb X a tA):Kb X (.UnaryOp .Not a pos) (ml tA):=by
 intro E pins s σ H τ G Q hE I h;exact isTrue_not (gH (ha E pins s σ H τ G (fun c H1=>Q (!c) H1) hE I h) (by rintro c s' ⟨H',G',i,m,q⟩; exact⟨H',G',i,m,q⟩))
theorem K7{op}{t:fV}(h:fW X a t):fW X (.BoolOp op [a] pos) t:=fun E pins s σ H τ G Q hE I hw=>BoolOp_one (h E pins s σ H τ G Q hE I hw)
theorem La(ha:fW X a ta)(hb:fW X (.BoolOp .And (b :: rest) pos) tb):fW X (.BoolOp .And (a :: b :: rest) pos) (Hd ta tb):=by
 intro E pins s σ H τ G Q hE I h;refine BoolOp_and (i5 ha hE I h fun x H1 d G1 v s1 I1 m1 r1 jj q1=>?_)
 try dsimp only at q1
 split at q1
 ·rename_i e;exact OR pins s1 σ H1 G1 x d v true _ I1.inv I1.ab r1 jj e fun s' I'=>gH (hb E pins s' σ H1 τ G1 Q hE ⟨I',I1.st,I1.ab⟩ q1) fun _ _ z=>z.trans m1
 ·rename_i e;exact OR pins s1 σ H1 G1 x d v false _ I1.inv I1.ab r1 jj e fun s' I'=>⟨x,H1,d,G1,I',m1,r1,jj,q1⟩
 ·exact q1.elim
theorem Tn(ha:fW X a ta):fW X (.UnaryOp .Not a pos) (Rh ta):=by
 intro E pins s σ H τ G Q hE I h;refine UnaryOp_ (i5 ha hE I h fun x H1 d G1 v s1 I1 m1 r1 jj q1=>?_)
 try dsimp only at q1
 split at q1
 ·rename_i k e;exact not_of (OR pins s1 σ H1 G1 x d v k _ I1.inv I1.ab r1 jj e fun s' I'=>⟨.bl (!k),H1,.bl (!k),G1,I',m1,rfl,.bl _,q1⟩)
 ·exact q1.elim
theorem PL(hc:Kb X c tA)(ha:fW X a ta)(hb:fW X b tb):fW X (.IfExp c a b pos) (Zt tA ta tb):=by
 intro E pins s σ H τ G Q hE I h;refine wpAny_IfExp (MB hc hE I h fun d H1 G1 s1 I1 m1 q1=>?_);cases d with
 | true=>exact gH (ha E pins s1 σ H1 τ G1 Q hE I1 (by simpa using q1)) fun _ _ z=>z.trans m1
 | false=>exact gH (hb E pins s1 σ H1 τ G1 Q hE I1 (by simpa using q1)) fun _ _ z=>z.trans m1
variable {e:Expr} {es:List Expr} {te:fV} {t:A8}
theorem gB:BC X [] aQ:=fun _ _ _ _ _ H _ G Q _ I h=>jW ⟨[],H,[],G,I.inv,.refl I.ab,.nil,.nil,h⟩
theorem eA(ha:fW X e te)(hr:BC X es t)(hs:autoParam (bx (e :: es) X.env=(false,eval e X.env) :: bx es X.env) Ar._auto_1):BC X (e :: es) (aw te t):=by
 intro pos E pins s σ H τ G Q hE I h;rw [hs];show wpAny _ _ (yL ((false,eval e X.env) :: mx pos (bx es X.env))) _ _ s;refine fR (i5 ha hE I h fun x H1 d G1 u s1 I1 m1 r1 jj q1=>?_);exact gH (hr pos E pins s1 σ H1 τ G1 _ hE I1 q1) (by rintro us s2 ⟨xs,H2,ds,G2,mr,m2,r2,xr,q2⟩; exact⟨x :: xs,H2,d :: ds,G2,mr,m1.trans m2,.cons r1 r2,.cons (jj.mono (m2.kp I1.ab)) xr,q2⟩)
theorem y8{pins:List (Addr×Obj)}{σ:L2.St}{H:Hp}{τ:iD}{G:Gp}{s:ax}{E:lP}{R:List D->Gp->Prop}{Q:List Value->ax->Prop}(ha:BC X es t)(pos:Pos)(hE:Lk X E)(I:I2 X pins σ H τ G s)(h:t E τ G R)
  (k:∀ vs H1 ds G1 us s1,I2 X pins σ H1 τ G1 s1->Mv X.K H G H1 G1->Vals vs us->aU X.K H1 vs ds->R ds G1->Q us s1):wpAny (model X.prog X.w) X.A (yL (mx pos (bx es X.env))) Q X.xe s :=
 gH (ha pos E pins s σ H τ G R hE I h) (by rintro us s1 ⟨vs,H1,ds,G1,I1,m,r,rd,q⟩; exact k vs H1 ds G1 us s1 (I.mv I1 m) m r rd q)
theorem eF{x1}(h:BC X es t):fW X (.Tuple es x1 pos) (iB t):=by
 intro E pins s σ H τ G Q hE I hq;refine wpAny_Tuple_spliced (y8 h pos hE I hq ?_);rintro xs H1 ds G1 us s1 I1 m1 r rd ⟨z,q⟩;refine⟨by rw [<-r.length,rd.length,cD]; exact z,?_⟩;have hf:H1 s1.heap.objs.size=none:=I1.inv.b7.fresh (aC _);refine⟨.ref s1.heap.objs.size,upd H1 s1.heap.objs.size (.tup xs),.tup ds,G1,I1.inv.laid (t':=s1.toks) (fun b u e=>aA _ e) (aC _) ?_,m1.trans (.GB I1.ab hf),rfl,?_,q⟩
 ·exact⟨by rw [rd.length,cD]; exact z,us,r,⟨_,a9 _ rfl,rfl,_,rfl⟩⟩
 ·exact .tup bU (rd.mono (.new hf))
theorem gy(h:BC X es t):fW X (.List es pos) (jK t):=by
 intro E pins s σ H τ G Q hE I hq;refine wpAny_List_spliced (y8 h pos hE I hq ?_);rintro xs H1 ds G1 us s1 I1 m1 r rd ⟨z,q⟩;refine⟨by rw [<-r.length,rd.length,cD]; exact z,?_⟩;have hf:H1 s1.heap.objs.size=none:=I1.inv.b7.fresh (aC _);refine⟨.ref s1.heap.objs.size,upd H1 s1.heap.objs.size (.lst xs),.ref _,eV G1 s1.heap.objs.size (.lst ds),I1.inv.laid (t':=s1.toks) (fun b u e=>aA _ e) (aC _) ?_,m1.trans (.FO I1.ab hf rd),rfl,.ref _,q _ (I1.ab.free hf)⟩;exact⟨by rw [rd.length,cD]; exact z,us,0,r,a9 _ rfl⟩
def Bi(K:ai)(sp:jU):Sp:=fun vs H Q _=>∃ ds G Q2,aU K H vs ds/\kc K H G/\sp ds G Q2 (fun _ _=>False)/\∀ d G' v H',Q2 d G'->Mv K H G H' G'->bV K H' v d->Q v H'
variable {k:Nat} {f:Addr} {fd:fx} {ps:List Str} {sp:jU} {x:Str} {p:Pos} {r:List D->Gp->DK->Prop} {id:String}
theorem PO(F:tK X.prog X.w X.K X.mg X.base Kl k f fd ps (Bi X.K sp))(hr:kO k X.A)(hg:Gl X x)(hm:X.mg x=some (.ref f))(hk:pG X.K (.ref f)=true)(hb:Binds X.K fd ps [])
  (ha:BC X (e :: es) t) (Ag:autoParam ((x == ("__debug__" : Str))=false) Ad._auto_1) (he:autoParam (bx (e :: es) X.env=(false,eval e X.env) :: bx es X.env) Ar._auto_1) (Ab:autoParam ((mx pos (bx es X.env)).any (·.1)=false) Ar._auto_1) :
  fW X (.Call (.Name x p) (e :: es) [] pos) (fun E τ G Q=>bF (fun ds G1 Q1 _=>sp ds G1 Q1 fun _ _=>False) t E τ G Q):=by
 intro E pins s σ H τ G Q hE I h;refine eS (oz I.inv hg hm ?_ Ag);refine xP (h₀:=X.base) I.inv.ok.mod.U6 hk (y8 ha pos hE I h fun vs H1 ds G1 us s1 I1 m1 r rd q=>⟨I1.inv.z8,?_⟩) he Ab;refine gH (O8 F hr hb .nil UW I1.inv r (Q:=A9 X.K H1 G1 Q) ?_) fun _ _ z=>(su.of z).trans m1;rw [cC];exact⟨ds,G1,Q,rd,I1.ab,q,fun d G' v H' q' m' Pg=>⟨d,G',m',Pg,q'⟩⟩
theorem g6 (hc:sx X (.builtin id) r) (hg:Gl X x) (hm:X.mg x=none) (hv:ez x=some (.builtin id)) (ha:BC X (e :: es) t) (hn:autoParam (x≠"__name__") Ad._auto_1) (Ag:autoParam ((x == ("__debug__" : Str))=false) Ad._auto_1)
  (he:autoParam (bx (e :: es) X.env=(false,eval e X.env) :: bx es X.env) Ar._auto_1) (Ab:autoParam ((mx pos (bx es X.env)).any (·.1)=false) Ar._auto_1):fW X (.Call (.Name x p) (e :: es) [] pos) (uj r t):=by
 intro E pins s σ H τ G Q hE I h;refine eS (nH I.inv hg hm hv ?_ hn Ag);exact lz (y8 ha pos hE I h fun vs H1 ds G1 us s1 I1 m1 r1 jj q1=>gH (hc pins s1 σ H1 G1 vs ds us Q I1.inv I1.ab r1 jj q1) fun _ _ z=>z.trans m1) he Ab
variable {st:Stmt} {sts:List Stmt} {u v:hU}
theorem dh:tG X [] dn:=fun _ _ _ σ H τ G _ _ I h=>mY ⟨σ,H,τ,G,I,.refl I.ab,h⟩
theorem aE(h1:EE X st u)(h2:tG X sts v):tG X (st :: sts) (bZ u v):=by
 intro E pins s σ H τ G D hE I h;refine Ml (gH (h1 E pins s σ H τ G { D with nx:=v E D } hE I h) fun f s1 q=>?_);cases f with
 | next =>
  obtain⟨jY,H',oU,G',I',m,q⟩:=q;exact gH (h2 E pins s1 jY H' oU G' D hE I' q) fun _ _ z=>z.trans m
 | ret v=>exact q
 | brk=>exact q
 | cont=>exact q
theorem aK(h1:EE X st u):tG X [st] u:=by
 intro E pins s σ H τ G D hE I h;refine Ml (gH (h1 E pins s σ H τ G D hE I h) fun f s1 q=>?_);cases f with
 | next=>exact mY q
 | ret v=>exact q
 | brk=>exact q
 | cont=>exact q
theorem bR(he:fW X e te):EE X (.Return (some e) pos) (cu te):=by
 intro E pins s σ H τ G D hE I h;exact wpAny_Return_some (gH (he E pins s σ H τ G _ hE I h) (by rintro v s1 ⟨x,H1,d,G1,I1,m,r1,rd,q1⟩; exact⟨x,σ,H1,d,G1,I1,m,r1,rd,q1⟩))
theorem fe{sa sb:List Stmt}(hc:Kb X c tA)(ha:tG X sa u)(hb:tG X sb v):EE X (.If c sa sb pos) (fA tA u v):=by
 intro E pins s σ H τ G D hE I h;refine wpAny_If (MB hc hE I h fun d H1 G1 s1 I1 m1 q1=>?_);cases d with
 | true=>exact gH (ha E pins s1 σ H1 τ G1 D hE I1 (by simpa using q1)) fun _ _ z=>z.trans m1
 | false=>exact gH (hb E pins s1 σ H1 τ G1 D hE I1 (by simpa using q1)) fun _ _ z=>z.trans m1
def NW(X:Cx)(target:Expr)(t:A7):Prop :=
 ∀ (E:lP) (pins:List (Addr×Obj)) (s:ax) (σ:L2.St) (H:Hp) (τ:iD) (G:Gp) (w:V) (d:D) (u:Value) (Q:iD->Gp->Prop),Lk X E->I2 X pins σ H τ G s->RelV w u->bV X.K H w d->t E d τ G Q ->
  wpAny (model X.prog X.w) X.A (Kn target X.env u) (fun _ s'=>∃ jY H' oU G',I2 X pins jY H' oU G' s'/\Mv X.K H G H' G'/\Q oU G') X.xe s
def UB(X:Cx)(ts:List Expr)(t:En):Prop :=
 ∀ (E:lP) (pins:List (Addr×Obj)) (s:ax) (σ:L2.St) (H:Hp) (τ:iD) (G:Gp) (ws:List V) (ds:List D) (us:List Value) (Q:iD->Gp->Prop),Lk X E->I2 X pins σ H τ G s->Vals ws us->aU X.K H ws ds->t E ds τ G Q ->
  wpAny (model X.prog X.w) X.A (assignInOrder ((A1 ts X.env).map (·.2)) us) (fun _ s'=>∃ jY H' oU G',I2 X pins jY H' oU G' s'/\Mv X.K H G H' G'/\Q oU G') X.xe s
theorem PI{i:Nat}{x:Str}(hN:X.N.Nodup)(hi:X.N[i]?=some x)(hx:Loc X.env.scope x)(hf:autoParam (X.fn x=true\/X.env.scope.names.lookup x=some .local) Ao._auto_1):NW X (.Name x pos) (aH i):=by
 intro E pins s σ H τ G w d u Q hE I r rd h;exact wpAny_assign_Name (E4 I.inv hN hi hx r (fun s' I'=>⟨_,H,_,G,⟨I',I.st.set i rd,I.ab⟩,.refl I.ab,h⟩) hf)
theorem gj:UB X [] jo:=by
 intro E pins s σ H τ G ws ds us Q hE I r rd h;unfold jo at h;split at h
 ·have e:=rd.zero;subst e;cases r;exact assignInOrder_nil ⟨σ,H,τ,G,I,.refl I.ab,h⟩
 ·exact h.elim
theorem bW{t:A7}{u:En}(h1:NW X e t)(h2:UB X es u)
  (hs:autoParam ((A1 (e :: es) X.env).map (·.2)=Kn e X.env :: (A1 es X.env).map (·.2)) Ar._auto_1):UB X (e :: es) (cY t u):=by
 intro E pins s σ H τ G ws ds us Q hE I r rd h;unfold cY at h;split at h
 ·cases rd with
  | cons jj xr =>
   cases r with
   | cons r1 r2 =>
    rw [hs];refine assignInOrder_cons (gH (h1 E pins s σ H τ G _ _ _ _ hE I r1 jj h) ?_);rintro _ s1 ⟨ZO,H1,pJ,G1,I1,m1,q1⟩;exact gH (h2 E pins s1 ZO H1 pJ G1 _ _ _ Q hE I1 r2 (xr.mono (m1.kp I.ab)) q1) (by rintro _ _ ⟨σ2,H2,we,G2,mr,m2,q2⟩; exact⟨σ2,H2,we,G2,mr,m1.trans m2,q2⟩)
 ·exact h.elim
theorem iq{k:Nat}{t:En}{n:Nat}(hc:X.calm=true)(h:UB X es t)(hgl:∀ E ds τ G Q,t E ds τ G Q->ds.length=n)
  (hn:autoParam ((A1 es X.env).length=n) Ar._auto_1) (Jw:autoParam ((A1 es X.env).findIdx? (·.1)=none) Ar._auto_1):NW X (.Tuple es k pos) (jA t):=by
 intro E pins s σ H τ G w d u Q hE I r rd hw;unfold jA at hw;split at hw
 ·cases rd with
  | tup hq rs =>
   cases r;obtain⟨bH,rv,ht,hz⟩:=I.inv.tuple (.of hq);refine assign_Tuple_tuple (I.inv.ok.hd hc) ht (by rw [hn,aR,<-rv.length,rs.length]; exact(hgl _ _ _ _ _ hw).symm) Jw fun h' hx=>?_;have I1:Inv X pins σ H { s with heap:=h' }:=I.inv.kept (t':=s.toks) fun b o e=>hx b o (bu (aN e)) e;exact h E pins _ σ H τ G _ _ _ Q hE ⟨I1,I.st,I.ab⟩ (by simpa using rv) rs hw
 ·exact hw.elim
theorem gm:∀ E ds τ G Q,jo E ds τ G Q->ds.length=0:=by
 intro E ds τ G Q h;cases ds with
 | nil=>rfl
 | cons _ _=>exact h.elim
theorem Ny{t:A7}{u:En}{n:Nat}(h:∀ E ds τ G Q,u E ds τ G Q->ds.length=n)(hm:∀ E d τ G (Q Q':iD->Gp->Prop),t E d τ G Q->(∀ oU G',Q oU G'->Q' oU G')->t E d τ G Q')(hx:∀ E d τ G,¬ t E d τ G fun _ _=>False) :
  ∀ E ds τ G Q,cY t u E ds τ G Q->ds.length=n+1:=by
 intro E ds τ G Q q;cases ds with
 | nil=>exact q.elim
 | cons d ds =>
  by_cases hl:ds.length=n
  ·rw [ak,hl]
  ·exact absurd (hm E d τ G _ (fun _ _=>False) q fun oU G' z=>hl (h _ _ _ _ _ z)) (hx E d τ G)
theorem jm{tg:Expr}{g:A7}(he:fW X e te)(hg:NW X tg g)(hs:autoParam (swapsWithSole [tg] e pos.line X.env=pure false) Ar._auto_1)(hw:autoParam (swappedStores [tg] e X.env=pure none) Ar._auto_1)
  (h1:autoParam ((A1 [tg] X.env).map (·.2)=[Kn tg X.env]) Ar._auto_1):EE X (.Assign [tg] e pos) (bM te g):=by
 intro E pins s σ H τ G D hE I h;refine wpAny_Assign_stores (i5 he hE I h fun x H1 d G1 v s1 I1 m1 r1 jj q1=>?_) hs hw;rw [h1];exact gH (hg E pins s1 σ H1 τ G1 x d v _ hE I1 r1 jj q1) (by rintro _ s2 ⟨σ2,H2,we,G2,mr,m2,q2⟩; exact⟨σ2,H2,we,G2,mr,m1.trans m2,q2⟩)
theorem Ta{i:Nat}{x:Str}{pos':Pos}(hN:X.N.Nodup)(hi:X.N[i]?=some x)(hx:Loc X.env.scope x)(he:fW X e te)(hs:autoParam (EH e (some (.Name x pos')) pos.line X.env=pure false) Ar._auto_1)(hf:autoParam (X.fn x=true\/X.env.scope.names.lookup x=some .local) Ao._auto_1) :
  EE X (.Assign [.Name x pos'] e pos) (bM te (aH i)):=by
 intro E pins s σ H τ G D hE I h;refine wpAny_Assign_Name (i5 he hE I h fun y H1 d G1 v s1 I1 m1 r1 jj q1=>?_) hs;exact E4 I1.inv hN hi hx r1 (fun s2 mr=>⟨_,H1,_,G1,⟨mr,I1.st.set i jj,I1.ab⟩,m1,q1⟩) hf
theorem nB(he:fW X e te)(hs:autoParam (EH e none pos.line X.env=pure false) Ar._auto_1):EE X (.Expr e pos) (lM te):=by
 intro E pins s σ H τ G D hE I h;exact wpAny_Expr_any (i5 he hE I h fun y H1 d G1 v s1 I1 m1 r1 jj q1=>⟨σ,H1,τ,G1,I1,m1,q1⟩) I.inv.quiet hs
end
def VA(K:ai)(J:It)(H':Hp)(ds:List D)(ok:Gp->Prop):Prop :=
 ∀ i H1 G1,Kp H' H1->kc K H1 G1->ok G1->(∀ d,ds[i]?=some d->J.go i H1/\∀ x H2,J.yld i H1 x H2->bV K H2 x d/\Mv K H1 G1 H2 G1)/\(ds.length<=i->J.stop i H1)
inductive Kc (X:Cx) (pins:List (Addr×Obj)) (σ:L2.St) (tg:Expr) (H:Hp) (G:Gp) (R:List D->(Gp->Prop)->Gp->Prop) (U7:Value) (s2:ax):Prop
 | mk (it:Addr) (fp:List Addr) (tn:Nat->Heap->Prop) (J:It) (H':Hp) (G':Gp) (ds:List D) (ok:Gp->Prop) (e:U7=.ref it) (i:Inv X pins σ H' s2) (m:Mv X.K H G H' G') (T:Turn X.prog X.w X.K tg J fp it tn) (t0:tn 0 s2.heap) (f:∀ b∈fp,oi X pins H' b)
  (wk:VA X.K J H' ds ok) (q:R ds ok G'):Kc X pins σ tg H G R U7 s2
def NV(X:Cx)(tg iter:Expr)(wi:NT):Prop :=
 ∀ (E:lP) (pins:List (Addr×Obj)) (s:ax) (σ:L2.St) (H:Hp) (τ:iD) (G:Gp) (R:List D->(Gp->Prop)->Gp->Prop),Lk X E->I2 X pins σ H τ G s->wi E τ G R ->
  wpAny (model X.prog X.w) X.A (eval iter X.env) (fun v s1=>wpAny (model X.prog X.w) X.A (EJ v) (Kc X pins σ tg H G R) X.xe s1) X.xe s
section
variable {X:Cx} {tg:Expr} {a b:Expr} {ta tb:fV} {pos p:Pos}
theorem Lj{pins:List (Addr×Obj)}{σ:L2.St}{H H1:Hp}{G G1:Gp}{s1:ax}{l:Addr}{vs:List V}{ds:List D}{ok:Gp->Prop}{R:List D->(Gp->Prop)->Gp->Prop}(I1:Inv X pins σ H1 s1)(m:Mv X.K H G H1 G1)(hq:pF X.K H1 l vs)
  (hk:∀ H2 G2,Kp H1 H2->kc X.K H2 G2->ok G2->∃ ws,pF X.K H2 l ws/\aU X.K H2 ws ds) (q:R ds ok G1):wpAny (model X.prog X.w) X.A (EJ (.ref l)) (Kc X pins σ tg H G R) X.xe s1:=by
 obtain⟨bH,rv,pl,hz⟩:=I1.list hq;refine wpAny_pyIter_list pl.isList ?_;refine⟨s1.heap.objs.size,[s1.heap.objs.size],_,_,H1,G1,ds,ok,rfl,I1.kept (t':=s1.toks) fun b o e=>aA _ e,m,Mu l _,⟨_,a9 _ rfl,rfl,rfl⟩,fun b hb=>?_,fun i H2 G2 k ab o=>?_,q⟩
 ·have e:b=s1.heap.objs.size:=by simpa using hb
  subst e;exact I1.Bp (aC _) (I1.b7.fresh (aC _))
 ·obtain⟨ws,hw,rd⟩:=hk H2 G2 k ab o;refine⟨fun d hd=>?_,fun hl=>⟨ws,hw,by rw [rd.length]; exact hl⟩⟩;obtain⟨v,hv,r⟩:=rd.get hd;refine⟨⟨ws,v,hw,hv⟩,?_⟩;rintro x H3 ⟨e,y⟩;subst e;have:=y ws hw;rw [hv] at this;cases this;exact⟨r,.refl ab⟩
theorem VO{pins:List (Addr×Obj)}{σ:L2.St}{H H1:Hp}{G G1:Gp}{s1:ax}{l:Addr}{vs:List V}{ds:List D}{R:List D->(Gp->Prop)->Gp->Prop}(I1:Inv X pins σ H1 s1)(m:Mv X.K H G H1 G1)(hq:yH X.K H1 l vs)(rd:aU X.K H1 vs ds)
  (q:R ds (fun _=>True) G1):wpAny (model X.prog X.w) X.A (EJ (.ref l)) (Kc X pins σ tg H G R) X.xe s1:=by
 obtain⟨bH,rv,pl,hz⟩:=I1.tuple hq;refine wpAny_pyIter_tuple (show s1.heap.IsTuple l bH.toArray from pl) ?_;refine⟨s1.heap.objs.size,[s1.heap.objs.size],_,_,H1,G1,ds,_,rfl,I1.kept (t':=s1.toks) fun b o e=>aA _ e,m,IB l _,⟨_,a9 _ rfl,rfl,rfl⟩,fun b hb=>?_,fun i H2 G2 k ab _=>?_,q⟩
 ·have e:b=s1.heap.objs.size:=by simpa using hb
  subst e;exact I1.Bp (aC _) (I1.b7.fresh (aC _))
 ·have hw:=k.sqT hq;have xr:=rd.mono k;refine⟨fun d hd=>?_,fun hl=>⟨vs,hw,by rw [rd.length]; exact hl⟩⟩;obtain⟨v,hv,r⟩:=xr.get hd;refine⟨⟨vs,v,hw,hv⟩,?_⟩;rintro x H3 ⟨e,y⟩;subst e;have:=y vs hw;rw [hv] at this;cases this;exact⟨r,.refl ab⟩
theorem eX(ha:fW X a ta):NV X tg a (lu ta):=by
 intro E pins s σ H τ G R hE I h;refine i5 ha hE I h fun x H1 d G1 v s1 I1 m1 r1 jj q1=>?_;cases jj with
 | tup hq rs=>cases r1; exact VO I1.inv m1 (.of hq) rs q1
 | cW hq rs=>cases r1; exact Lj I1.inv m1 hq.sq (fun H2 G2 k ab _=>⟨_,(k.VX hq).sq,rs.mono k⟩) q1
 | ref p =>
  cases r1;dsimp only at q1;split at q1
  ·rename_i ds e;obtain⟨vs,hv,rs⟩:=I1.ab.lst e;refine Lj I1.inv m1 (.of hv) (fun H2 G2 k ab o=>?_) q1;obtain⟨ws,hw,pP⟩:=ab.lst o;exact⟨ws,.of hw,pP⟩
  ·exact q1.elim
 | nY _ _=>exact q1.elim
 | nX _ _=>exact q1.elim
 | eN=>exact q1.elim
 | bl _=>exact q1.elim
 | int _=>exact q1.elim
 | str _=>exact q1.elim
 | exc _=>exact q1.elim
 | Cq _ _=>exact q1.elim
 | oV _ _ _ _=>exact q1.elim
theorem V5{pins:List (Addr×Obj)}{σ:L2.St}{H H1:Hp}{G G1:Gp}{s:ax}{R:List D->(Gp->Prop)->Gp->Prop}{lo hi:Int}{t u v:Tok}{tk:Nat}(I:Inv X pins σ H1 s)(m:Mv X.K H G H1 G1)(h1:-(2 ^ 62)<=lo)(h2:lo < 2 ^ 62)(h3:-(2 ^ 62)<=hi)(h4:hi < 2 ^ 62)
  (q:R (gJ lo (hi - lo).toNat) (fun _=>True) G1):wpAny (model X.prog X.w) X.A (EJ (.ref s.heap.objs.size)) (Kc X pins σ tg H G R) X.xe { s with heap:=s.heap.push { cls:=.type "range",data:=.fields #[.int lo t,.int hi u,.int 1 v] },toks:=tk }:=by
 refine gH (Pj (tg:=tg) I h1 h2 h3 h4 (R:=fun J H'=>J=Itr lo (hi - lo).toNat/\H'=H1) ⟨rfl,rfl⟩) ?_;rintro U7 s2 ⟨it,fp,tn,J,H',e,mr,T,st,fo,eJ,eH⟩;subst eJ; subst eH;refine⟨it,fp,tn,_,H',G1,_,_,e,mr,m,T,st,fo,fun i H2 G2 k ab _=>⟨fun d hd=>?_,fun hl=>?_⟩,q⟩
 ·unfold gJ at hd;rw [aO] at hd;cases Vj:(fc (hi - lo).toNat)[i]? with
  | none=>rw [Vj] at hd; cases hd
  | some j =>
   rw [Vj] at hd;obtain⟨wO,ej⟩:=List.getElem?_eq_some_iff.mp Vj;rw [j3] at wO;rw [lW] at ej;subst ej;cases hd;refine⟨wO,?_⟩;rintro x H3 ⟨e1,e2⟩;subst e1; subst e2;exact⟨.int _,.refl ab⟩
 ·unfold gJ at hl;rw [ao,j3] at hl;exact hl
theorem nE (hg:Gl X "range") (hm:X.mg "range" = none) (ha:fW X a ta) (hs:autoParam (bx [a] X.env=[(false,eval a X.env)]) Ar._auto_1):NV X tg (.Call (.Name "range" p) [a] [] pos) (Aa ta):=by
 intro E pins s σ H τ G R hE I h;have hA:BC X [a] (aw ta aQ):=eA ha gB hs;refine Call_ (nH I.inv hg hm boot_range (dF (y8 hA pos hE I (R:=fun ds G1=>match ds with | [.int n]=>-(2 ^ 62)<=n/\n < 2 ^ 62/\R (gJ 0 n.toNat) (fun _=>True) G1 | _=>False) ?_ fun vs H1 ds G1 us s1 I1 m1 r1 jj q1=>?_) hs rfl))
 ·show ta E τ G _;have e:(fun (x:D) (G1:Gp)=>match [x] with | [.int n]=>-(2 ^ 62)<=n/\n < 2 ^ 62/\R (gJ 0 n.toNat) (fun _=>True) G1 | _=>False)=fun x G1=>match x with | .int n=>-(2 ^ 62)<=n/\n < 2 ^ 62/\R (gJ 0 n.toNat) (fun _=>True) G1 | _=>False:=by
   funext x G1; cases x <;> rfl
  exact e ▸ h
 ·split at q1
  ·rename_i n;obtain⟨w,rfl,Fb⟩:=jj.one;cases Fb;obtain⟨u,rfl,ru⟩:=r1.one;obtain⟨t,rfl⟩:=ru;obtain⟨q1,q2,q⟩:=q1;exact call_range_1 (V5 I1.inv m1 (by lia) (by lia) q1 q2 (by simpa using q))
  ·exact q1.elim
theorem dO{iter:Expr}{body:List Stmt}{wi:NT}{g:A7}{t:hU}(hp:PassesOwn (model X.prog X.w) X.A X.env X.xe)(hc:X.calm=true)(hi:NV X tg iter wi)(hg:NW X tg g)(hb:tG X body t)
  (hs:autoParam (∀ x,oH iter X.env x=pure x) Ai._auto_1):EE X (.For tg iter body [] pos) (ff wi g t):=by
 intro E pins s σ H τ G D hE I h;refine wpAny_For (gH (hi E pins s σ H τ G _ hE I h) fun v s1 h1=>gH h1 fun U7 s2 h2=>?_) hs;obtain⟨it,fp,tn,J,H2,G2,ds,ok,e,mr,m2,T,R9,f2,wk,q⟩:=h2;subst e;have VU:∀ {H':Hp},(∀ b∈fp,H' b=none)->∀ b∈fp,oi X pins H' b:=fun hn b hb=>⟨hn b hb,(f2 b hb).2⟩;refine codeAny_forLoop_any (fun n s'=>∃ i jY H' oU G',I2 X pins jY H' oU G' s'/\Mv X.K H G H' G'/\Kp H2 H'/\tn i s'.heap/\(∀ b∈fp,H' b=none)/\n=ds.length - i/\i<=ds.length/\qA g t ok (ds.drop i) E D oU G') ?_ ds.length
  ⟨0,σ,H2,τ,G2,I.mv mr m2,m2,.refl _,R9,fun b hb=>(f2 b hb).1,rfl,cw _,q⟩
 rintro n s3 ⟨i,SF,H3,VG,G3,I3,m3,k3,ZS,fr3,rfl,hle,w3⟩;by_cases wO:i < ds.length
 ·rw [ie wO] at w3;obtain⟨ok3,w3⟩:=w3;obtain⟨go,yl⟩:=(wk i H3 G3 k3 I3.ab ok3).1 ds[i] (by simp [wO]);refine kj hp (gH (T.item X rfl rfl rfl hc i pins s3 SF H3 X.xe I3.inv (VU fr3) ZS go) ?_);rintro r s4 ⟨u,hr,h4⟩;subst hr;refine kj hp (gH h4 ?_);rintro _ s5 ⟨x,H5,I5,r5,y5,st5,fr5⟩;obtain⟨rd5,m5⟩:=yl x H5 y5;have I5':=I5.pinned (VU fr5) (T.obj _ _ st5);have J5:I2 X (pins++rO fp s5.heap) SF H5 VG G3 s5:=⟨I5',I3.st.mono (m5.kp I3.ab),m5.ab⟩;refine kj hp (gH (hg E _ s5 SF H5 VG G3 x ds[i] u _ hE J5 r5 rd5 w3) ?_);rintro _ s6 ⟨σ6,H6,τ6,G6,I6,m6,q6⟩;refine kj hp (gH (hb E _ s6 σ6 H6 τ6 G6 _ hE I6 q6) fun f s7 q7=>?_);have again:∀ {Ol:L2.St} {H7:Hp} {Oj:iD} {G7:Gp},I2 X (pins++rO fp s5.heap) Ol H7 Oj G7 s7->Mv X.K H6 G6 H7 G7->qA g t ok (ds.drop (i+1)) E D Oj G7 ->
    ∃ m,m < ds.length - i/\∃ i jY H' oU G',I2 X pins jY H' oU G' s7/\Mv X.K H G H' G'/\Kp H2 H'/\tn i s7.heap/\(∀ b∈fp,H' b=none)/\m=ds.length - i/\i<=ds.length/\qA g t ok (ds.drop i) E D oU G':=fun {Ol H7 Oj G7} I7 m7 n7=>by
   have mm:=m5.trans (m6.trans m7);refine⟨ds.length - (i+1),by lia,i+1,Ol,H7,Oj,G7,⟨I7.inv.uK,I7.st,I7.ab⟩,m3.trans mm,k3.trans (mm.kp I3.ab),T.keep _ _ _ st5 fun b hb o e=>(I7.inv.pin (b,o) (cI _ (cI _ (pZ hb e)))).1,fun b hb=>?_,rfl,wO,n7⟩;obtain⟨o,e,d⟩:=T.obj _ _ st5 b hb;exact(I7.inv.pin (b,o) (cI _ (cI _ (pZ hb e)))).2.1
  cases f with
  | next=>obtain⟨Ol,H7,Oj,G7,I7,m7,n7⟩:=q7; exact again I7 m7 n7
  | cont=>obtain⟨Ol,H7,Oj,G7,I7,m7,n7⟩:=q7; exact again I7 m7 n7
  | brk=>obtain⟨Ol,H7,Oj,G7,I7,m7,q7⟩:=q7; exact⟨Ol,H7,Oj,G7,⟨I7.inv.uK,I7.st,I7.ab⟩,m3.trans (m5.trans (m6.trans m7)),q7⟩
  | ret v=>obtain⟨x7,Ol,H7,d7,G7,I7,m7,r7,rd7,q7⟩:=q7; exact⟨x7,Ol,H7,d7,G7,I7.uK,m3.trans (m5.trans (m6.trans m7)),r7,rd7,q7⟩
 ·have hn:ds.length<=i:=by lia
  rw [mG hn] at w3;obtain⟨ok3,qn⟩:=w3;have stop:=(wk i H3 G3 k3 I3.ab ok3).2 hn;refine kj hp (gH (T.done X rfl rfl rfl hc i pins s3 SF H3 X.xe I3.inv (VU fr3) ZS stop) ?_);rintro r s4 ⟨hr,I4⟩;subst hr;exact mY ⟨SF,H3,VG,G3,⟨I4,I3.st,I3.ab⟩,m3,qn⟩
theorem MR{c:Expr}{body:List Stmt}{tc:xY}{t:hU}(hp:PassesOwn (model X.prog X.w) X.A X.env X.xe)(hc:Kb X c tc)(hb:tG X body t):EE X (.While c body [] pos) (JW tc t):=by
 intro E pins s σ H τ G D hE I h;obtain⟨n0,w0⟩:=h;refine wpAny_While (codeAny_whileLoop (fun n s'=>∃ jY H' oU G',I2 X pins jY H' oU G' s'/\Mv X.K H G H' G'/\EU tc t n E D oU G') ?_ n0 ⟨σ,H,τ,G,I,.refl I.ab,w0⟩);rintro n s1 ⟨ZO,H1,pJ,G1,I1,m1,w1⟩;cases n with
 | zero=>exact w1.elim
 | succ n =>
  refine kj hp (MB hc hE I1 w1 fun b H2 G2 s2 mr m2 q2=>?_);cases b with
  | true =>
   rw [if_pos rfl] at q2 ⊢;refine kj hp (gH (hb E pins s2 ZO H2 pJ G2 _ hE mr q2) fun f s3 q3=>?_);cases f with
   | next=>obtain⟨SF,H3,VG,G3,I3,m3,n3⟩:=q3; exact⟨n,uC _,SF,H3,VG,G3,I3,m1.trans (m2.trans m3),n3⟩
   | cont=>obtain⟨SF,H3,VG,G3,I3,m3,n3⟩:=q3; exact⟨n,uC _,SF,H3,VG,G3,I3,m1.trans (m2.trans m3),n3⟩
   | brk=>exact q3.trans (m1.trans m2)
   | ret v=>exact q3.trans (m1.trans m2)
  | false =>
   rw [if_neg fY] at q2 ⊢;exact mY ⟨ZO,H2,pJ,G2,mr,m1.trans m2,q2⟩
end
theorem Dc(n d:Nat)(o:Option Int):HT.jR n d o=jR n d o:=by cases o <;> rfl
theorem aU.cut{K:ai}{H:Hp}{vs:List V}{ds:List D}(r:aU K H vs ds)(lo hi:Option Int):aU K H (Hf vs lo hi) (K2.cut ds lo hi):=by
 unfold Hf K2.cut;rw [Dc,Dc,r.length];exact(r.drop _).take _
theorem aU.r8{K:ai}{H:Hp}{vs:List V}{ds:List D}{i:Int}{d:D}(r:aU K H vs ds)(h:K2.r8 ds i=some d):∃ v,L2.r8 vs i=some v/\bV K H v d:=by
 unfold K2.r8 at h;cases e:K2.HU ds.length i with
 | none=>rw [e] at h; cases h
 | some j =>
  rw [e] at h;obtain⟨v,h1,h2⟩:=r.get (show ds[j]?=some d from h);refine⟨v,?_,h2⟩;show (L2.HU vs.length i).bind _=_;have e':L2.HU vs.length i=some j:=by rw [r.length]; exact e
  rw [e'];exact h1
section
variable {X:Cx} {a b c e:Expr} {ta tb tc te:fV} {pos p2:Pos}
theorem nO{pins:List (Addr×Obj)}{s:ax}{σ:L2.St}{H:Hp}{G:Gp}{x:V}{d:D}{v:Value}{zs:List D}(I:Inv X pins σ H s)(ab:kc X.K H G)(rx:RelV x v)(rd:bV X.K H x d)(hi:ph d G=some zs) :
  ∃ l vs bH,v=.ref l/\Vals vs bH/\aU X.K H vs zs/\s.heap.IsList l bH.toArray/\vs.length<=aX:=by
 cases rd with
 | cW hq rs =>
  cases hi;cases rx;obtain⟨bH,rv,pl,hz⟩:=I.list hq.sq;exact⟨_,_,bH,rfl,rv,rs,pl.isList,hz⟩
 | ref l =>
  unfold ph at hi;dsimp only at hi;cases hg:G l with
  | none=>rw [hg] at hi; cases hi
  | some gg =>
   rw [hg] at hi;cases gg with
   | lst ds =>
    cases hi;cases rx;obtain⟨vs,hv,rs⟩:=ab.lst hg;obtain⟨bH,rv,pl,hz⟩:=I.list (.of hv);exact⟨_,_,bH,rfl,rv,rs,pl.isList,hz⟩
   | ins _ _=>cases hi
   | qL _=>cases hi
   | gK _=>cases hi
 | _=>cases hi
theorem wK{pins:List (Addr×Obj)}{s:ax}{σ:L2.St}{H:Hp}(I:Inv X pins σ H s){m:Str->Option Value}(F0:Fr X.base X.env.locals s.heap m){h':Heap}(F:Fr X.base X.env.locals h' m)(N:News X.base X.env.locals h' (sW X.base s.heap X.env.locals)) :
  (∀ b o,b≠X.env.locals->s.heap.get? b=some o->h'.get? b=some o)/\∀ m',s.heap.Ns X.env.locals m'->h'.Ns X.env.locals m':=by
 refine⟨fun b o hb e=>?_,fun m' hm=>?_⟩
 ·cases q:X.base.get? b with
  | some u =>
   have:=I.bk b u q;rw [e] at this; cases this;exact F.keep b _ q
  | none=>exact(N (b,o) (xA hb q e)).1
 ·have e1:=hm.eq_nsMap;have e2:=F0.ns.eq_nsMap;rw [e1,<-e2]; exact F.ns
theorem j8{P:bI}{w:World}{H:Hp}{h:Heap}{a:Addr}:∀ {o:HO},fk P w H h a o->∃ ob,h.get? a=some ob:=by
 intro o x;cases o with
 | lst _=>obtain⟨_,_,_,_,e⟩:=x; exact⟨_,e⟩
 | tup _=>obtain⟨_,_,_,ob,e,_⟩:=x; exact⟨ob,e⟩
 | dK _=>obtain⟨_,_,_,_,ob,_,_,e,_⟩:=x; exact⟨ob,e⟩
 | dT _=>obtain⟨_,_,_,_,ob,_,_,e,_⟩:=x; exact⟨ob,e⟩
 | set _ _=>obtain⟨ob,_,_,_,e,_⟩:=x; exact⟨ob,e⟩
 | ins _ _ _=>obtain⟨_,_,_,e,_⟩:=x; exact⟨_,e⟩
 | own _=>exact x
 | xd _=>obtain⟨_,⟨ob,_,_,e,_⟩,_⟩:=x; exact⟨ob,e⟩
 | met _ _=>exact⟨_,x⟩
 | Yb _ _=>obtain⟨_,_,_,e⟩:=x; exact⟨_,e⟩
 | iC _ _=>exact⟨_,x.1⟩
 | SR _=>obtain⟨_,e,_⟩:=x; exact⟨_,e⟩
 | ext _=>exact x.2.1
theorem LF{P:bI}{w:World}{H:Hp}{h:Heap}{a:Addr}(ok:oh P w H h)(e:h.get? a=none):H a=none:=by
 cases q:H a with
 | none=>rfl
 | some o =>
  obtain⟨ob,z⟩:=j8 (ok a o q);rw [e] at z; cases z
theorem Inv.U3{pins:List (Addr×Obj)}{s:ax}{σ:L2.St}{H:Hp}(I:Inv X pins σ H s){h':Heap}{t':Nat}{a:Addr}{o:HO}(k:∀ b o,b≠X.env.locals->s.heap.get? b=some o->h'.get? b=some o)(ns:∀ m',s.heap.Ns X.env.locals m'->h'.Ns X.env.locals m')
  (hp:s.heap.get? a=none) (new:fk X.prog X.w (upd H a o) h' a o):Inv X pins σ (upd H a o) { s with heap:=h',toks:=t' }:=by
 have hn:H a=none:=LF I.b7 hp;have ne:∀ b u,H b=some u->b≠a:=fun b u e=>d6 e hn;have nL:∀ b u,H b=some u->b≠X.env.locals:=fun b u e=>d6 e I.free;have ht:∀ b u,s.heap.get? b=some u->b≠a:=fun b u e z=>by subst z; rw [hp] at e; cases e
 have thL:∃ o',h'.get? X.env.locals=some o':=by
  obtain⟨m,hm,_⟩:=I.loc;obtain⟨o',_,_,ho,_⟩:=ns m hm;exact⟨o',ho⟩
 refine I.step (g':=s.gens) (d':=s.drawn) (ch:=[]) (fun b hb=>absurd hb (by simp)) (fun b o hL _ _ e _=>k b o hL e) (fun b o hL _ _ e _=>⟨o.slots,k b o hL e⟩) (fun b o _ e n=>by rw [bG (ht b o e)]; exact n)
  (fun b o _ e=>?_) (fun b xs e=>by rw [bG (ne _ _ e)]; exact e) (fun b o u e=>by rw [bG (ne _ _ e)]; exact e) (fun b ps e=>by rw [bG (ne _ _ e)]; exact e) (fun b ps e=>by rw [bG (ne _ _ e)]; exact e) ns (fun b u e=>?_) I.bare
 ·by_cases hb:b=X.env.locals
  ·rw [hb]; exact thL
  ·exact⟨o,k b o hb e⟩
 ·by_cases hb:b=a
  ·subst hb; rw [bU] at e; cases e; exact new
  ·rw [bG hb] at e;refine(I.b7 b u e).jl (fun c v hc r=>k c v ?_ r) (fun c z=>by rw [bG (ne _ _ z)]; exact z) (fun c xs z=>by rw [bG (ne _ _ z)]; exact z);rcases hc with rfl | hc
   ·exact nL _ _ e
   ·exact nL _ _ hc
theorem fF:nP X (iE .Add) kB:=by
 intro pins s σ H G x y dx dy v u Q I ab rx ry dX dY q;have lists:El dx dy G Q->wpAny (model X.prog X.w) X.A (iE .Add v u) (su X pins σ H G Q) X.xe s:=by
  intro q;unfold El at q;split at q
  ·rename_i xs ys e1 e2;obtain⟨hz,q⟩:=q;obtain⟨l,vs,bH,rfl,rv,rs,hl,_⟩:=nO I ab rx dX e1;obtain⟨b,ws,tx,rfl,MH,HP,hb,_⟩:=nO I ab ry dY e2;obtain⟨m,F0⟩:=I.fr;have hsz:bH.length+tx.length<=aX:=by rw [<-rv.length,<-MH.length,rs.length,HP.length,cD]; exact hz
   refine PyProof.Rows.add_lists F0 FN hl hb (fun h' F N=>?_) hsz;obtain⟨kk,ns⟩:=wK I F0 F fun p hp=>N p (aL _ hp);have hp:H s.heap.objs.size=none:=I.b7.fresh (aC _);refine⟨.ref s.heap.objs.size,upd H s.heap.objs.size (.lst (vs++ws)),.ref _,_,Inv.U3 (t':=s.toks) I kk ns (SE (aC _)) ?_,.FO ab hp (rs.append HP),rfl,.ref _,q _ (ab.free hp)⟩;exact⟨by rw [aG,rv.length,MH.length]; exact hsz,bH++tx,0,rv.append MH,(N _ cA).1⟩
  ·exact q.elim
 cases dX with
 | int i =>
  cases dY with
  | int j=>exact gH (Wo pins s σ H _ _ v u (A9 X.K H G Q) I rx ry ⟨i,j,rfl,rfl,_,_,.refl ab,.int _,q⟩) fun _ _ z=>.of z
  | _=>exact lists q
 | str i =>
  cases dY with
  | str j =>
   obtain⟨hz,q⟩:=q;exact gH (Ja pins s σ H _ _ v u (A9 X.K H G Q) I rx ry ⟨i,j,rfl,rfl,by rw [cD]; exact hz,_,_,.refl ab,.str _,q⟩) fun _ _ z=>.of z
  | _=>exact lists q
 | tup h1 r1 =>
  cases dY with
  | tup h2 r2 =>
   obtain⟨hn,hz,q⟩:=q;refine gH (Tt pins s σ H _ _ v u (A9 X.K H G Q) I rx ry ⟨_,_,_,_,rfl,rfl,.of h1,.of h2,?_,?_,fun e=>?_,fun e p hp=>?_⟩) fun _ _ z=>.of z
   ·rintro rfl; cases r1; exact hn rfl
   ·rw [r1.length,r2.length,cD]; exact hz
   ·subst e;cases r2;rw [cC] at q;exact⟨_,_,.refl ab,.tup h1 r1,q⟩
   ·exact⟨_,_,.GB ab hp,.tup bU ((r1.append r2).mono (.new hp)),q⟩
  | _=>exact lists q
 | ref l=>exact lists (by rw [zv] at q; exact q)
 | cW _ _=>exact lists (by rw [zu] at q; exact q)
 | _=>exact lists (by cases dY <;> exact q)
theorem Ld:nP X (iE .Sub) S2:=by
 intro pins s σ H G x y dx dy v u Q I ab rx ry dX dY q;cases dX with
 | int i =>
  cases dY with
  | int j=>exact gH (Wj pins s σ H _ _ v u (A9 X.K H G Q) I rx ry ⟨i,j,rfl,rfl,_,_,.refl ab,.int _,q⟩) fun _ _ z=>.of z
  | _=>exact bC q
 | _=>exact bC q
theorem yu:nP X (iE .Mult) MO:=by
 intro pins s σ H G x y dx dy v u Q I ab rx ry dX dY q;cases dX with
 | int i =>
  cases dY with
  | int j=>exact gH (Wl pins s σ H _ _ v u (A9 X.K H G Q) I rx ry ⟨i,j,rfl,rfl,q.1,_,_,.refl ab,.int _,q.2⟩) fun _ _ z=>.of z
  | _=>exact bC q
 | _=>exact bC q
theorem iu:nP X (iE .Mod) pQ:=by
 intro pins s σ H G x y dx dy v u Q I ab rx ry dX dY q;cases dX with
 | int i =>
  cases dY with
  | int j=>exact gH (Wm pins s σ H _ _ v u (A9 X.K H G Q) I rx ry ⟨i,j,rfl,rfl,q.1,_,_,.refl ab,.int _,q.2⟩) fun _ _ z=>.of z
  | _=>exact bC q
 | _=>exact bC q
theorem rP:nP X (iE .FloorDiv) zt:=by
 intro pins s σ H G x y dx dy v u Q I ab rx ry dX dY q;cases dX with
 | int i =>
  cases dY with
  | int j=>exact gH (Ts pins s σ H _ _ v u (A9 X.K H G Q) I rx ry ⟨i,j,rfl,rfl,⟨q.1,q.2.1⟩,_,_,.refl ab,.int _,q.2.2⟩) fun _ _ z=>.of z
  | _=>exact bC q
 | _=>exact bC q
theorem zF(hu:X.A.units < cLine):nP X (dQ .Lt) UR:=by
 intro pins s σ H G x y dx dy v u Q I ab rx ry dX dY q;cases dX with
 | int i =>
  cases dY with
  | int j=>exact gH (Yq pins s σ H _ _ v u (A9 X.K H G Q) I rx ry ⟨i,j,rfl,rfl,_,_,.refl ab,.bl _,q⟩) fun _ _ z=>.of z
  | _=>exact bC q
 | tup h1 r1 =>
  cases dY with
  | tup h2 r2 =>
   obtain⟨xs,ys,e1,e2,q⟩:=q;subst e1 e2;have z1:=r1.ints;have z2:=r2.ints;subst z1 z2;have el:∀ xs ys:List Int,HT.lexLt xs ys=K2.lexLt xs ys:=by
    intro xs;induction xs with
    | nil=>intro ys; cases ys <;> rfl
    | cons x xs ih=>intro ys; cases ys with
     | nil=>rfl
     | cons y ys=>unfold HT.lexLt K2.lexLt; rw [ih]
   exact gH (Wn hu pins s σ H _ _ v u (A9 X.K H G Q) I rx ry ⟨_,_,xs,ys,rfl,rfl,.of h1,.of h2,_,_,.refl ab,.bl _,by rw [el]; exact q⟩) fun _ _ z=>.of z
  | _=>exact bC q
 | _=>exact bC q
theorem PS:nP X (dQ .LtE) Yi:=by
 intro pins s σ H G x y dx dy v u Q I ab rx ry dX dY q;cases dX with
 | int i =>
  cases dY with
  | int j=>exact gH (Yr pins s σ H _ _ v u (A9 X.K H G Q) I rx ry ⟨i,j,rfl,rfl,_,_,.refl ab,.bl _,q⟩) fun _ _ z=>.of z
  | _=>exact bC q
 | _=>exact bC q
mutual
def pd:D->PyData
 | .eN=>.none
 | .bl b=>.bool b
 | .int i=>.int i
 | .str x=>.str x
 | .tup ds=>.tuple (mB ds)
 | .cW ds=>.list (mB ds)
 | .kW _=>.none
 | .exc _=>.none
 | .Cq _ _ _=>.none
 | .oV _=>.none
 | .ref _=>.none
def mB:List D->List PyData
 | []=>[]
 | d :: r=>pd d :: mB r
end
mutual
theorem uh:∀ (s t:D),nr s=true->nr t=true->qO (pd s) (pd t)=ip s t
 | .eN,t,_,ht=>by cases t <;> first | rfl | (exact bc (show false=true from ht))
 | .bl a,t,_,ht=>by cases t <;> first | rfl | (exact bc (show false=true from ht))
 | .int a,t,_,ht=>by cases t <;> first | rfl | (exact bc (show false=true from ht))
 | .str a,t,_,ht=>by cases t <;> first | rfl | (exact bc (show false=true from ht))
 | .tup a,t,hs,ht=>by
  cases t with
  | tup b=>exact DU a b hs ht
  | ref _=>exact bc (show false=true from ht)
  | exc _=>exact bc (show false=true from ht)
  | Cq _ _ _=>exact bc (show false=true from ht)
  | oV _=>exact bc (show false=true from ht)
  | kW _=>exact bc (show false=true from ht)
  | _=>rfl
 | .cW a,t,hs,ht=>by
  cases t with
  | cW b=>exact DU a b hs ht
  | ref _=>exact bc (show false=true from ht)
  | exc _=>exact bc (show false=true from ht)
  | Cq _ _ _=>exact bc (show false=true from ht)
  | oV _=>exact bc (show false=true from ht)
  | kW _=>exact bc (show false=true from ht)
  | _=>rfl
 | .ref _,_,hs,_=>bc (show false=true from hs)
 | .exc _,_,hs,_=>bc (show false=true from hs)
 | .Cq _ _ _,_,hs,_=>bc (show false=true from hs)
 | .oV _,_,hs,_=>bc (show false=true from hs)
 | .kW _,_,hs,_=>bc (show false=true from hs)
theorem DU:∀ (s t:List D),qv s=true->qv t=true->PyData.eqvAll (mB s) (mB t)=lK s t
 | [],[],_,_=>rfl
 | [],_ :: _,_,_=>rfl
 | _ :: _,[],_,_=>rfl
 | a :: r,b :: t,hs,ht=>by
  have Gy:nr a=true/\qv r=true:=(kg).mp hs;have XA:nr b=true/\qv t=true:=(kg).mp ht;show (qO (pd a) (pd b)&&PyData.eqvAll (mB r) (mB t))=(ip a b&&lK r t);rw [uh a b Gy.1 XA.1,DU r t Gy.2 XA.2]
end
mutual
theorem kI:∀ (s:D),nr s=true->(pd s).canLay0=true
 | .eN,_=>rfl
 | .bl a,_=>rfl
 | .int a,_=>rfl
 | .str a,h=>h
 | .tup a,h=>vn a h
 | .cW a,h=>vn a h
 | .exc _,_=>rfl
 | .Cq _ _ _,_=>rfl
 | .oV _,_=>rfl
 | .ref _,_=>rfl
 | .kW _,_=>rfl
theorem vn:∀ (s:List D),qv s=true->PyData.canLayAll0 (mB s)=true
 | [],_=>rfl
 | a :: r,h=>by
  have h':nr a=true/\qv r=true:=(kg).mp h;show ((pd a).canLay0&&PyData.canLayAll0 (mB r))=true;rw [kI a h'.1,vn r h'.2]; rfl
end
theorem AE{G:Gp}{n:Nat}{d t:D}(h:Sn G n d t):(pd t).depth<=n:=by
 induction h with
 | eN=>exact cw _
 | bl b=>exact cw _
 | int i=>exact cw _
 | str x h=>exact cw _
 | IE=>exact uB (cw _)
 | rB _ _ QA Qz =>
  exact uB (Nat.max_le.mpr ⟨QA,uH Qz⟩)
 | Bl=>exact uB (cw _)
 | rK _ _ QA Qz =>
  exact uB (Nat.max_le.mpr ⟨QA,uH Qz⟩)
 | ref _ _ ih=>exact ih
theorem gW{pins:List (Addr×Obj)}{σ:L2.St}{H:Hp}{s:ax}{G:Gp}(I:Inv X pins σ H s)(ab:kc X.K H G){n:Nat}{d t:D}(h:Sn G n d t) :
  (∀ v u,bV X.K H v d->RelV v u->∃ as,Reads s.heap u (pd t) as) /\
  (∀ ds ss,(d=.cW ds/\t=.cW ss)\/(d=.tup ds/\t=.tup ss)->∀ vs us,aU X.K H vs ds->Vals vs us->∃ as,hV s.heap us (mB ss) as):=by
 have UI:∀ {ds ss:List D},(∀ vs us,aU X.K H vs ds->Vals vs us->∃ as,hV s.heap us (mB ss) as)->∀ v u,bV X.K H v (.tup ds)->RelV v u->∃ as,Reads s.heap u (pd (.tup ss)) as:=by
  intro ds ss k v u r ru;cases r with
  | tup hq rs =>
   cases ru;obtain⟨bH,rv,⟨o,ho,hc,n,hd⟩,hz⟩:=I.tuple (.of hq);obtain⟨as,ra⟩:=k _ bH rs rv;exact⟨as,.tuple ho hc hd (by simpa using ra)⟩
 have UO:∀ {ds ss:List D},(∀ vs us,aU X.K H vs ds->Vals vs us->∃ as,hV s.heap us (mB ss) as)->∀ v u,bV X.K H v (.cW ds)->RelV v u->∃ as,Reads s.heap u (pd (.cW ss)) as:=by
  intro ds ss k v u r ru;cases r with
  | cW hq rs =>
   cases ru;obtain⟨bH,rv,pl,hz⟩:=I.list hq.sq;obtain⟨o,ho,hc,n,hd⟩:=pl.isList;obtain⟨as,ra⟩:=k _ bH rs rv;exact⟨_,.list ho hc hd (by simpa using ra)⟩
 induction h with
 | eN=>exact⟨fun v u r ru=>by cases r; cases ru; exact⟨_,.none⟩,fun ds ss e=>by rcases e with ⟨e,_⟩ | ⟨e,_⟩ <;> cases e⟩
 | bl b=>exact⟨fun v u r ru=>by cases r; cases ru; exact⟨_,.bool b⟩,fun ds ss e=>by rcases e with ⟨e,_⟩ | ⟨e,_⟩ <;> cases e⟩
 | int i=>exact⟨fun v u r ru=>by cases r; obtain⟨t,rfl⟩:=ru; exact⟨_,.int i t⟩,fun ds ss e=>by rcases e with ⟨e,_⟩ | ⟨e,_⟩ <;> cases e⟩
 | str x hx=>exact⟨fun v u r ru=>by cases r; obtain⟨t,rfl⟩:=ru; exact⟨_,.str x t⟩,fun ds ss e=>by rcases e with ⟨e,_⟩ | ⟨e,_⟩ <;> cases e⟩
 | IE =>
  have k:∀ vs us,aU X.K H vs []->Vals vs us->∃ as,hV s.heap us (mB []) as:=fun vs us r ru=>by
   have e:=r.zero;subst e;cases ru;exact⟨_,.nil⟩
  refine⟨UI k,fun ds ss e=>?_⟩;rcases e with ⟨e,_⟩ | ⟨e,e2⟩
  ·cases e
  ·cases e; cases e2; exact k
 | rB h1 h2 QA Qz =>
  have k2:=Qz.2 _ _ (.inr ⟨rfl,rfl⟩);have k:∀ vs us,aU X.K H vs (_ :: _)->Vals vs us->∃ as,hV s.heap us (mB (_ :: _)) as:=fun vs us r ru=>by
   cases r with
   | cons r1 r2 =>
    cases ru with
    | cons u1 u2 =>
     obtain⟨as,ra⟩:=QA.1 _ _ r1 u1;obtain⟨bs,rb⟩:=k2 _ _ r2 u2;exact⟨_,.cons ra rb⟩
  refine⟨UI k,fun ds ss e=>?_⟩;rcases e with ⟨e,_⟩ | ⟨e,e2⟩
  ·cases e
  ·cases e; cases e2; exact k
 | Bl =>
  have k:∀ vs us,aU X.K H vs []->Vals vs us->∃ as,hV s.heap us (mB []) as:=fun vs us r ru=>by
   have e:=r.zero;subst e;cases ru;exact⟨_,.nil⟩
  refine⟨UO k,fun ds ss e=>?_⟩;rcases e with ⟨e,e2⟩ | ⟨e,_⟩
  ·cases e; cases e2; exact k
  ·cases e
 | rK h1 h2 QA Qz =>
  have k2:=Qz.2 _ _ (.inl ⟨rfl,rfl⟩);have k:∀ vs us,aU X.K H vs (_ :: _)->Vals vs us->∃ as,hV s.heap us (mB (_ :: _)) as:=fun vs us r ru=>by
   cases r with
   | cons r1 r2 =>
    cases ru with
    | cons u1 u2 =>
     obtain⟨as,ra⟩:=QA.1 _ _ r1 u1;obtain⟨bs,rb⟩:=k2 _ _ r2 u2;exact⟨_,.cons ra rb⟩
  refine⟨UO k,fun ds ss e=>?_⟩;rcases e with ⟨e,e2⟩ | ⟨e,_⟩
  ·cases e; cases e2; exact k
  ·cases e
 | ref hg h1 ih =>
  refine⟨fun v u r ru=>?_,fun ds ss e=>by rcases e with ⟨e,_⟩ | ⟨e,_⟩ <;> cases e⟩;cases r;cases ru;obtain⟨vs,hv,rs⟩:=ab.lst hg;obtain⟨bH,rv,pl,hz⟩:=I.list (.of hv);obtain⟨o,ho,hc,n,hd⟩:=pl.isList;obtain⟨as,ra⟩:=ih.2 _ _ (.inl ⟨rfl,rfl⟩) vs bH rs rv;exact⟨_,.list ho hc hd (by simpa using ra)⟩
theorem kH(hu:X.A.units+64 < cLine):nP X (dQ .Eq) (Dh false):=by
 intro pins s σ H G x y dx dy v u Q I ab rx ry dX dY q;obtain⟨a,b,sa,sb,q⟩:=q;obtain⟨as,ra⟩:=(gW I ab sa).1 x v dX rx;obtain⟨bs,rb⟩:=(gW I ab sb).1 y u dY ry;have d1:=AE sa;refine SeqAt.compareEq_reads ra rb (kI _ sa.nr) (kI _ sb.nr) (by unfold SN at d1; lia) ?_;rw [uh _ _ sa.nr sb.nr];exact⟨.bl _,H,.bl _,G,I,.refl ab,rfl,.bl _,q⟩
theorem Ds(hu:X.A.units+64 < cLine):nP X (dQ .NotEq) (Dh true):=by
 intro pins s σ H G x y dx dy v u Q I ab rx ry dX dY q;obtain⟨a,b,sa,sb,q⟩:=q;obtain⟨as,ra⟩:=(gW I ab sa).1 x v dX rx;obtain⟨bs,rb⟩:=(gW I ab sb).1 y u dY ry;have d1:=AE sa;refine SeqAt.compareNe_reads ra rb (kI _ sa.nr) (kI _ sb.nr) (by unfold SN at d1; lia) ?_;rw [uh _ _ sa.nr sb.nr];exact⟨.bl _,H,.bl _,G,I,.refl ab,rfl,.bl _,q⟩
end
theorem vG(j k:Key):ip (eP j) (eP k)=decide (j=k):=by
 cases j with
 | inl a=>cases k with
  | inl b=>rw [Qh]; rfl
  | inr b=>exact(decide_eq_false (fun z=>nomatch z)).symm
 | inr a=>cases k with
  | inl b=>exact(decide_eq_false (fun z=>nomatch z)).symm
  | inr b=>rw [Qg]; exact(R5 a b)
theorem Cr:∀ (js ks:List Key),lK (js.map eP) (ks.map eP)=decide (js=ks)
 | [],[]=>(decide_eq_true rfl).symm
 | [],_ :: _=>(decide_eq_false (fun z=>nomatch z)).symm
 | _ :: _,[]=>(decide_eq_false (fun z=>nomatch z)).symm
 | j :: js,k :: ks=>by
  show (ip (eP j) (eP k)&&lK (js.map eP) (ks.map eP))=_;rw [vG,Cr js ks,GX]
theorem rT(js ks:List Key):ip (.tup (js.map eP)) (.tup (ks.map eP))=decide (js=ks):=by
 exact Cr js ks
section
variable {K:ai} {H:Hp}
theorem vq{d:D}(h:dH d=true):∃ k:Key,d=eP k:=by
 cases d with
 | int i=>exact⟨.inl i,rfl⟩
 | str x=>exact⟨.inr x,rfl⟩
 | _=>exact absurd h (by simp [dH])
theorem Ll:∀ {ds:List D},ds.all dH=true->∃ ks:List Key,ds=ks.map eP
 | [],_=>⟨[],rfl⟩
 | d :: r,h=>by
  rw [lZ,aI] at h;obtain⟨k,rfl⟩:=vq h.1;obtain⟨ks,rfl⟩:=Ll h.2;exact⟨k :: ks,rfl⟩
theorem Lm{d:D}(h:lr d=true):∃ ks:List Key,d=.tup (ks.map eP):=by
 cases d with
 | tup ds=>obtain⟨ks,rfl⟩:=Ll (ds:=ds) h; exact⟨ks,rfl⟩
 | _=>exact absurd h (by simp [lr])
theorem uT{v:V}{k:Key}(r:bV K H v (eP k)):v=kV k:=by
 cases k with
 | inl i=>cases r; rfl
 | inr x=>cases r; rfl
theorem Ff:∀ {vs:List V} {ks:List Key},aU K H vs (ks.map eP)->vs=ks.map kV
 | _,[],r=>r.zero
 | _,k :: ks,r=>by
  rw [aq] at r;cases r with
  | cons r1 r2=>rw [uT r1,Ff r2]; rfl
theorem Fh{v:V}{ks:List Key}(r:bV K H v (.tup (ks.map eP))):∃ b,v=.ref b/\H b=some (.tup (ks.map kV)):=by
 cases r with
 | tup h rs=>have e:=Ff rs; subst e; exact⟨_,rfl,h⟩
theorem lQ.look{kv:List (Key×V)}{kvs:List (D×D)}(r:lQ K H kv kvs)(k:Key):(∃ v d,mH kv k=some v/\K2.look kvs (eP k)=some d/\bV K H v d)\/(mH kv k=none/\K2.look kvs (eP k)=none):=by
 induction r using lQ.ind with
 | nil=>exact .inr ⟨rfl,rfl⟩
 | @cons j v d r t rd rs ih =>
  by_cases e:j=k
  ·left;refine⟨v,d,rn (p:=(j,v)) e,?_,rd⟩;unfold K2.look;rw [cp (by show ip (eP j) (eP k)=true; rw [vG]; exact decide_eq_true e)]; rfl
  ·have e1:mH ((j,v) :: r) k=mH r k:=rq (p:=(j,v)) e;have e2:K2.look ((eP j,d) :: t) (eP k)=K2.look t (eP k):=by
    unfold K2.look;rw [cq (by show ¬ ip (eP j) (eP k)=true; rw [vG]; simpa using e)]
   rw [e1,e2];exact ih
theorem mD.look{kv:List (List Key×V)}{kvs:List (D×D)}(r:mD K H kv kvs)(k:List Key):(∃ v d,mH kv k=some v/\K2.look kvs (.tup (k.map eP))=some d/\bV K H v d)\/(mH kv k=none/\K2.look kvs (.tup (k.map eP))=none):=by
 induction r using mD.ind with
 | nil=>exact .inr ⟨rfl,rfl⟩
 | @cons j v d r t rd rs ih =>
  by_cases e:j=k
  ·left;refine⟨v,d,rn (p:=(j,v)) e,?_,rd⟩;unfold K2.look;rw [cp (by show ip (.tup (j.map eP)) (.tup (k.map eP))=true; rw [rT]; exact decide_eq_true e)]; rfl
  ·have e1:mH ((j,v) :: r) k=mH r k:=rq (p:=(j,v)) e;have e2:K2.look ((.tup (j.map eP),d) :: t) (.tup (k.map eP))=K2.look t (.tup (k.map eP)):=by
    unfold K2.look;rw [cq (by show ¬ ip (.tup (j.map eP)) (.tup (k.map eP))=true; rw [rT]; simpa using e)]
   rw [e1,e2];exact ih
theorem lQ.any{kv:List (Key×V)}{kvs:List (D×D)}(r:lQ K H kv kvs)(k:Key):(kv.any fun p=>decide (p.1=k))=kvs.any fun p=>ip p.1 (eP k):=by
 induction r using lQ.ind with
 | nil=>rfl
 | @cons j v d r t rd rs ih=>simp only [lY]; rw [ih,vG]
theorem mD.any{kv:List (List Key×V)}{kvs:List (D×D)}(r:mD K H kv kvs)(k:List Key):(kv.any fun p=>decide (p.1=k))=kvs.any fun p=>ip p.1 (.tup (k.map eP)):=by
 induction r using mD.ind with
 | nil=>rfl
 | @cons j v d r t rd rs ih=>simp only [lY]; rw [ih,rT]
theorem lQ.put{kv:List (Key×V)}{kvs:List (D×D)}(r:lQ K H kv kvs)(k:Key){v:V}{d:D}(rd:bV K H v d):lQ K H (putK kv k v) (K2.put kvs (eP k) d):=by
 unfold putK K2.put;rw [r.any k];by_cases h:(kvs.any fun p=>ip p.1 (eP k))=true
 ·rw [if_pos h,if_pos h];clear h;induction r using lQ.ind with
  | nil=>exact .nil
  | @cons j w e r t re rs ih =>
   simp only [aq];rw [vG];by_cases e:j=k
   ·simp only [e,if_true,decide_true]; exact .cons rd ih
   ·simp only [e,if_false,decide_false,aj]; exact .cons re ih
 ·rw [if_neg h,if_neg h];clear h;induction r using lQ.ind with
  | nil=>exact .cons rd .nil
  | cons re rs ih=>exact .cons re ih
theorem mD.put{kv:List (List Key×V)}{kvs:List (D×D)}(r:mD K H kv kvs)(k:List Key){v:V}{d:D}(rd:bV K H v d):mD K H (putK kv k v) (K2.put kvs (.tup (k.map eP)) d):=by
 unfold putK K2.put;rw [r.any k];by_cases h:(kvs.any fun p=>ip p.1 (.tup (k.map eP)))=true
 ·rw [if_pos h,if_pos h];clear h;induction r using mD.ind with
  | nil=>exact .nil
  | @cons j w e r t re rs ih =>
   simp only [aq];rw [rT];by_cases e:j=k
   ·simp only [e,if_true,decide_true]; exact .cons rd ih
   ·simp only [e,if_false,decide_false,aj]; exact .cons re ih
 ·rw [if_neg h,if_neg h];clear h;induction r using mD.ind with
  | nil=>exact .cons rd .nil
  | cons re rs ih=>exact .cons re ih
end
theorem Kp.putD{H:Hp}{p:Addr}{o o':HO}(hp:H p=some o)(h:(∃ k,o=.dK k)\/∃ k,o=.dT k):Kp H (upd H p o') :=
 ⟨fun a ys e=>by rw [bG (by rintro rfl; rw [hp] at e; rcases h with ⟨_,rfl⟩ | ⟨_,rfl⟩ <;> cases e)]; exact e,fun a ob u e=>by rw [bG (by rintro rfl; rw [hp] at e; rcases h with ⟨_,rfl⟩ | ⟨_,rfl⟩ <;> cases e)]; exact e⟩
section
variable {X:Cx} {pins:List (Addr×Obj)} {σ:L2.St} {H:Hp} {s:ax} {G:Gp} {a:Addr} {kvs:List (D×D)} {k:D} {y:V}
theorem toT(I:Inv X pins σ H s)(e:H a=some (.dK [])):Inv X pins σ (upd H a (.dT [])) s:=by
 obtain⟨z,hd,vs,rel,dd⟩:=Cw I.b7 e;have hv:vs=[]:=by cases rel; rfl
 subst hv;obtain⟨o,es,ep,ho,hx,A6,hko,hl,nd⟩:=dd;have he:es=#[]:=by
  cases hq:es.toList with
  | nil=>simpa using hq
  | cons _ _=>rw [hq] at hl; cases hl
 subst he;exact I.write (h':=s.heap) (t':=s.toks) (x:=a) (e:=a) (by rw [e]; exact fX) (.inl rfl) (fun b u _ q=>q) ⟨o,ho⟩ ⟨cw _,hd,[],.nil,o,#[],ep,ho,hx,A6,rfl,cy⟩
theorem toK(I:Inv X pins σ H s)(e:H a=some (.dT [])):Inv X pins σ (upd H a (.dK [])) s:=by
 obtain⟨z,hd,xs,rel,o,es,ep,ho,hx,A6,hl,nd⟩:=I.b7 a _ e;have hv:xs=[]:=by cases rel; rfl
 subst hv;have he:es=#[]:=by simpa using hl
 subst he;exact I.write (h':=s.heap) (t':=s.toks) (x:=a) (e:=a) (by rw [e]; exact fX) (.inl rfl) (fun b u _ q=>q) ⟨o,ho⟩ ⟨cw _,hd,[],.nil,o,#[],ep,ho,hx,A6,(fun _ h=>by simp at h),.nil,cy⟩
theorem Lh{o:HO}(ab:kc X.K H G)(hg:G a=some (.gK kvs))(k:Kp H (upd H a o))(ho:HZ X.K (upd H a o) a (.gK kvs)):Mv X.K H G (upd H a o) G:=by
 have m:=Mv.put ab hg k ho;have e:eV G a (.gK kvs)=G:=by
  funext b; unfold eV; split
  ·rename_i z; rw [z,hg]
  ·rfl
 rw [e] at m;exact m
theorem DY(I:Inv X pins σ H s)(ab:kc X.K H G)(hg:G a=some (.gK kvs))(hk:iw kvs k=true)(ry:bV X.K H y k) :
  ∃ H',Inv X pins σ H' s/\Mv X.K H G H' G/\((∃ (kv:List (Key×V)) (kk:Key),H' a=some (.dK kv)/\lQ X.K H' kv kvs/\k=eP kk/\y=kV kk)\/∃ (kv:List (List Key×V)) (kk:List Key) (b:Addr),H' a=some (.dT kv)/\mD X.K H' kv kvs/\k=.tup (kk.map eP)/\y=.ref b/\H' b=some (.tup (kk.map kV))):=by
 unfold iw at hk;rw [gG,aI,aI] at hk;rcases hk with ⟨h1,h2⟩ | ⟨h1,h2⟩
 ·obtain⟨kk,rfl⟩:=vq h1;have ey:=uT ry;subst ey;rcases ab a _ hg with ⟨kv,hv,rs⟩ | ⟨kv,hv,rs⟩
  ·exact⟨H,I,.refl ab,.inl ⟨kv,kk,hv,rs,rfl,rfl⟩⟩
  ·cases rs with
   | nil =>
    refine⟨_,toK I hv,Lh ab hg (.putD hv (.inr ⟨_,rfl⟩)) (.inl ⟨[],bU,.nil⟩),.inl ⟨[],kk,bU,.nil,rfl,rfl⟩⟩
   | cons _ _=>simp [dH] at h2
 ·obtain⟨kk,rfl⟩:=Lm h1;obtain⟨b,rfl,hb⟩:=Fh ry;rcases ab a _ hg with ⟨kv,hv,rs⟩ | ⟨kv,hv,rs⟩
  ·cases rs with
   | nil =>
    have kp:Kp H (upd H a (.dT [])):=.putD hv (.inl ⟨_,rfl⟩);exact⟨_,toT I hv,Lh ab hg kp (.inr ⟨[],bU,.nil⟩),.inr ⟨[],kk,b,bU,.nil,rfl,rfl,kp.tup _ _ hb⟩⟩
   | @cons j _ _ _ _ _ _=>cases j <;> simp [eP,lr] at h2
  ·exact⟨H,I,.refl ab,.inr ⟨kv,kk,b,hv,rs,rfl,rfl,hb⟩⟩
theorem GW(I:Inv X pins σ H s)(ab:kc X.K H G)(hg:G a=some (.gK kvs))(hk:iw kvs k=true)(ry:bV X.K H y k) :
  ∃ H' o,Inv X pins σ H' s/\Mv X.K H G H' G/\AY H' a y o/\o.isSome=(look kvs k).isSome/\∀ d,look kvs k=some d->∃ v,o=some v/\bV X.K H' v d:=by
 obtain⟨H',I',m,h⟩:=DY I ab hg hk ry;rcases h with ⟨kv,kk,hv,rs,rfl,rfl⟩ | ⟨kv,kk,b,hv,rs,rfl,rfl,hb⟩
 ·refine⟨H',mH kv kk,I',m,.k hv,?_,fun d hd=>?_⟩
  ·rcases rs.look kk with ⟨v,d,e1,e2,_⟩ | ⟨e1,e2⟩ <;> rw [e1,e2] <;> rfl
  ·rcases rs.look kk with ⟨v,d',e1,e2,r⟩ | ⟨e1,e2⟩
   ·rw [e2] at hd; cases hd; exact⟨v,e1,r⟩
   ·rw [e2] at hd; cases hd
 ·refine⟨H',mH kv kk,I',m,.t hv hb,?_,fun d hd=>?_⟩
  ·rcases rs.look kk with ⟨v,d,e1,e2,_⟩ | ⟨e1,e2⟩ <;> rw [e1,e2] <;> rfl
  ·rcases rs.look kk with ⟨v,d',e1,e2,r⟩ | ⟨e1,e2⟩
   ·rw [e2] at hd; cases hd; exact⟨v,e1,r⟩
   ·rw [e2] at hd; cases hd
theorem De{x:V}(I:Inv X pins σ H s)(rd:bV X.K H x (.kW kvs))(hk:iw kvs k=true)(ry:bV X.K H y k) :
  ∃ a o,x=.ref a/\(kvs=[]\/AY H a y o)/\o.isSome=(look kvs k).isSome/\∀ d,look kvs k=some d->∃ v,o=some v/\bV X.K H v d:=by
 unfold iw at hk;rw [gG,aI,aI] at hk;cases rd with
 | nY h rs =>
  rename_i a ob kv;rcases hk with ⟨h1,h2⟩ | ⟨h1,h2⟩
  ·obtain⟨kk,rfl⟩:=vq h1;have ey:=uT ry;subst ey;refine⟨a,mH kv kk,rfl,.inr (.inl ⟨kv,kk,.inr ⟨_,h⟩,rfl,rfl⟩),?_,fun d hd=>?_⟩
   ·rcases rs.look kk with ⟨v,d,e1,e2,_⟩ | ⟨e1,e2⟩ <;> rw [e1,e2] <;> rfl
   ·rcases rs.look kk with ⟨v,d',e1,e2,r⟩ | ⟨e1,e2⟩
    ·rw [e2] at hd; cases hd; exact⟨v,e1,r⟩
    ·rw [e2] at hd; cases hd
  ·cases rs with
   | nil=>exact⟨a,none,rfl,.inl rfl,rfl,fun d hd=>by cases hd⟩
   | cons _ _ =>
    rename_i kx _ _ _ _ _ _;rw [lZ,aI] at h2;cases kx <;> exact absurd h2.1 (by simp [eP,lr])
 | nX h rs =>
  rename_i a ob kv;rcases hk with ⟨h1,h2⟩ | ⟨h1,h2⟩
  ·cases rs with
   | nil=>exact⟨a,none,rfl,.inl rfl,rfl,fun d hd=>by cases hd⟩
   | cons _ _ =>
    rw [lZ,aI] at h2;exact absurd h2.1 (by simp [dH])
  ·obtain⟨kk,rfl⟩:=Lm h1;obtain⟨b,rfl,hb⟩:=Fh ry;refine⟨a,mH kv kk,rfl,.inr (.inr ⟨kv,kk,b,.inr ⟨_,h⟩,rfl,hb,rfl⟩),?_,fun d hd=>?_⟩
   ·rcases rs.look kk with ⟨v,d,e1,e2,_⟩ | ⟨e1,e2⟩ <;> rw [e1,e2] <;> rfl
   ·rcases rs.look kk with ⟨v,d',e1,e2,r⟩ | ⟨e1,e2⟩
    ·rw [e2] at hd; cases hd; exact⟨v,e1,r⟩
    ·rw [e2] at hd; cases hd
theorem Rf{v:V}{d:D}(I:Inv X pins σ H s)(ab:kc X.K H G)(hg:G a=some (.gK kvs))(hk:iw kvs k=true)(hz:kvs.length < SZ)(ry:bV X.K H y k)(rv:bV X.K H v d) :
  ∃ H' H'',Inv X pins σ H' s/\N8 H' a y v H''/\Mv X.K H G H'' (eV G a (.gK (put kvs k d))):=by
 obtain⟨H',I',m,h⟩:=DY I ab hg hk ry;have rv':=rv.mono (m.kp ab);have sz:aX=16777216:=cD;rcases h with ⟨kv,kk,hv,rs,rfl,rfl⟩ | ⟨kv,kk,b,hv,rs,rfl,rfl,hb⟩
 ·have kp:Kp H' (upd H' a (.dK (putK kv kk v))):=.putD hv (.inl ⟨_,rfl⟩);exact⟨H',_,I',.k hv (by rw [rs.length,sz]; exact hz),m.trans (.put m.ab hg kp (.inl ⟨_,bU,(rs.put kk rv').mono kp⟩))⟩
 ·have kp:Kp H' (upd H' a (.dT (putK kv kk v))):=.putD hv (.inr ⟨_,rfl⟩);exact⟨H',_,I',.t hv hb (by rw [rs.length,sz]; exact hz),m.trans (.put m.ab hg kp (.inr ⟨_,bU,(rs.put kk rv').mono kp⟩))⟩
end
section
variable {X:Cx} {a b c e:Expr} {es:List Expr} {ta tb tc te:fV} {t:A8} {pos p p2 apos lN:Pos} {x:Str}
theorem mf{k:Bool}{j}:fW X (.Constant (.bool k) j pos) (dC (.bl k)):=sG Yp fun _ _=>.bl k
theorem Tj{y:Str}{j}:fW X (.Constant (.str y) j pos) (dC (.str y)):=sG Wf fun _ _=>.str y
theorem mS{st:Stmt}:EE X st ui:=fun _ _ _ _ _ _ _ _ _ _ h=>h.elim
theorem yd:ZD X (unaryOp .USub) MN:=by
 intro pins s σ H G x dx v Q I ab rx dX q;cases dX with
 | int i=>exact gH (VM pins s σ H _ v (A9 X.K H G Q) I rx ⟨i,rfl,_,_,.refl ab,.int _,q⟩) fun _ _ z=>.of z
 | _=>exact bC q
theorem dP(hu:X.A.units+64 < cLine)(ha:fW X a ta)(hb:fW X b tb)(hs:Uz b):fW X (.Subscript a b pos) (bh mz ta tb):=by
 intro E pins s σ H τ G Q hE I h;refine Subscript_ (RH ha hb hE I h fun v u s2 x y dx dy H2 G2 J m rx ry dX dY q=>?_);have fin:∀ {rb:R2},IxR X rb->rb x y H2 (A9 X.K H2 G2 Q)->wpAny (model X.prog X.w) X.A (subscriptTail a b v u) (su X pins σ H G Q) X.xe s2:=fun hr hq =>
  gH (hr a b pins s2 σ H2 x y v u _ J.inv rx ry hq (hs _ _)) fun _ _ z=>(su.of z).trans m
 cases dX with
 | tup hq rs =>
  cases dY with
  | int i =>
   rw [ja] at q;split at q
   ·rename_i d hd;obtain⟨w,hw,pP⟩:=rs.r8 hd;exact fin WG ⟨_,_,i,w,rfl,rfl,.of hq,hw,d,G2,.refl J.ab,pP,q⟩
   ·exact q.elim
  | _=>exact bC q
 | cW hq rs =>
  cases dY with
  | int i =>
   rw [nA] at q;split at q
   ·rename_i d hd;obtain⟨w,hw,pP⟩:=rs.r8 hd;exact fin Lp ⟨_,_,i,w,rfl,rfl,hq.sq,hw,d,G2,.refl J.ab,pP,q⟩
   ·exact q.elim
  | _=>exact bC q
 | nY h rs =>
  rw [yn] at q;obtain⟨hk,q⟩:=q;split at q
  ·rename_i d hd;obtain⟨a',o,ea,g,_,hv⟩:=De J.inv (.nY h rs) hk dY;obtain⟨w,rfl,pP⟩:=hv d hd;cases ea;rcases g with rfl | g
   ·cases hd
   ·cases rx;exact tail_any (rW J.inv g) PySem.F.slot_dict_getitem.lookup (wX (by lia) J.inv g ry fun w' s3 I4 rv=>⟨w,H2,d,G2,I4,m,rv,pP,q⟩) (hs _ _)
  ·exact q.elim
 | nX h rs =>
  rw [yn] at q;obtain⟨hk,q⟩:=q;split at q
  ·rename_i d hd;obtain⟨a',o,ea,g,_,hv⟩:=De J.inv (.nX h rs) hk dY;obtain⟨w,rfl,pP⟩:=hv d hd;cases ea;rcases g with rfl | g
   ·cases hd
   ·cases rx;exact tail_any (rW J.inv g) PySem.F.slot_dict_getitem.lookup (wX (by lia) J.inv g ry fun w' s3 I4 rv=>⟨w,H2,d,G2,I4,m,rv,pP,q⟩) (hs _ _)
  ·exact q.elim
 | ref l =>
  rw [Df] at q;split at q
  ·rename_i ds hl;obtain⟨vs,hv,rs⟩:=J.ab.lst hl;cases dY with
   | int i =>
    dsimp only at q;split at q
    ·rename_i d hd;obtain⟨w,hw,pP⟩:=rs.r8 hd;exact fin Lp ⟨_,_,i,w,rfl,rfl,.of hv,hw,d,G2,.refl J.ab,pP,q⟩
    ·exact q.elim
   | _=>exact bC q
  ·rename_i kvs hl;obtain⟨hk,q⟩:=q;split at q
   ·rename_i d hd;obtain⟨H3,o,I3,m3,g,_,hv⟩:=GW J.inv J.ab hl hk dY;obtain⟨w,rfl,pP⟩:=hv d hd;cases rx;exact tail_any (rW I3 g) PySem.F.slot_dict_getitem.lookup (wX (by lia) I3 g ry fun w' s3 I4 rv=>⟨w,H3,d,G2,I4,m.trans m3,rv,pP,q⟩) (hs _ _)
   ·exact q.elim
  ·exact q.elim
 | _=>exact bC q
def PO2(X:Cx)(e:Option Expr)(t:ZF):Prop :=
 ∀ (E:lP) (pins:List (Addr×Obj)) (s:ax) (σ:L2.St) (H:Hp) (τ:iD) (G:Gp) (Q:Option Int->Gp->Prop),Lk X E->I2 X pins σ H τ G s->t E τ G Q ->
  wpAny (model X.prog X.w) X.A (evalPart e X.env) (fun u s'=>∃ o H' G',Inv X pins σ H' s'/\Mv X.K H G H' G'/\IsPart u o/\Q o G') X.xe s
theorem jI:PO2 X none gE:=by
 intro E pins s σ H τ G Q hE I h;rw [evalPart_none];exact ay ⟨none,H,G,I.inv,.refl I.ab,.none,h⟩
theorem iI(h:fW X e te):PO2 X (some e) (oD te):=by
 intro E pins s σ H τ G Q hE I hw;rw [evalPart_some];refine i5 h hE I hw fun x H1 d G1 u s1 I1 m1 r1 jj q1=>?_;cases jj with
 | int i =>
  obtain⟨t,rfl⟩:=r1;exact⟨some i,H1,G1,I1.inv,m1,.int i t,q1⟩
 | _=>exact bC q1
theorem gZ{lo hi:Option Expr}{tl th:ZF}(he:fW X a ta)(hl:PO2 X lo tl)(hu:PO2 X hi th):fW X (.Subscript a (.Slice lo hi none p2) pos) (DZ ta tl th):=by
 intro E pins s σ H τ G Q hE I h;refine Subscript_ (i5 he hE I h fun x H1 d G1 v s1 I1 m1 r1 jj q1=>?_);refine wpAny_Slice (gH (hl E pins s1 σ H1 τ G1 _ hE I1 q1) ?_);rintro vl s2 ⟨l,H2,G2,mr,m2,pl,q2⟩;refine gH (hu E pins s2 σ H2 τ G2 _ hE (I1.mv mr m2) q2) ?_;rintro vu s3 ⟨r,H3,G3,I3,m3,pu,q3⟩;rw [evalPart_none];refine ay ?_;have YF:=m2.trans m3;have mm:=m1.trans YF;have I4:Inv X pins σ H3 { s3 with heap:=s3.heap.push { cls:=.type "slice",data:=.fields #[vl,vu,.none] } }:=I3.kept (t':=s3.toks) fun b ob q=>aA _ q;have Ye:=jj.mono (YF.kp I1.ab);have RK:=m3.ab;have key:∀ {rb:V->Option Int->Option Int->Hp->VK->Prop},SlR X rb->rb x l r H3 (A9 X.K H3 G3 Q)->wpAny (model X.prog X.w) X.A (subscriptTail a (.Slice lo hi none p2) v (.ref s3.heap.objs.size)) (su X pins σ H G Q) X.xe { s3 with heap:=s3.heap.push { cls:=.type "slice",data:=.fields #[vl,vu,.none] } }:=fun hr hq=>by
  obtain⟨T,id,hT,ht,hg⟩:=hr pins { s3 with heap:=s3.heap.push { cls:=.type "slice",data:=.fields #[vl,vu,.none] } } σ H3 x v vl vu l r s3.heap.objs.size _ I4 r1 (Heap.IsSliceOf.new ..) pl pu hq;exact gH (tail_any (ops:=[.ref s3.heap.objs.size,v]) ht hT hg (by with_unfolding_all rfl)) fun _ _ z=>(su.of z).trans mm
 cases Ye with
 | tup hq rs =>
  obtain⟨hw,q⟩:=q3;refine key V1 ⟨_,_,rfl,.of hq,?_,fun p hp=>⟨_,G3,.GB RK hp,.tup bU ((rs.cut l r).mono (.new hp)),q⟩⟩;rw [Dc,Dc,rs.length];exact hw
 | cW hq rs=>exact key KJ ⟨_,_,rfl,hq.sq,fun p hp=>⟨_,_,.FO RK hp (rs.cut l r),.ref _,q3 p (RK.free hp)⟩⟩
 | ref g =>
  rw [KQ] at q3;split at q3
  ·rename_i ds hg;obtain⟨vs,hv,rs⟩:=RK.lst hg;exact key KJ ⟨_,_,rfl,.of hv,fun p hp=>⟨_,_,.FO RK hp (rs.cut l r),.ref _,q3 p (RK.free hp)⟩⟩
  ·exact q3.elim
 | _=>exact bC q3
theorem To(ss:List D)(s:D)(h1:qv ss=true)(h2:nr s=true):((mB ss).any fun y=>qO y (pd s))=ss.any (ip · s):=by
 induction ss with
 | nil=>rfl
 | cons d r ih =>
  have h':nr d=true/\qv r=true:=(kg).mp h1;show (qO (pd d) (pd s)||(mB r).any _)=_;rw [ih h'.2,uh d s h'.1 h2]; rfl
theorem LR{G:Gp}{n:Nat}{ds ss:List D}(h:Sn G (n+1) (.cW ds) (.cW ss)):cf (mB ss)<=n:=by
 exact uH (AE h)
theorem DE(hu:X.A.units+64 < cLine)(neg:Bool){pins:List (Addr×Obj)}{s:ax}{σ:L2.St}{H:Hp}{G:Gp}{x y:V}{dx t:D}{ds ss:List D}{v u:Value}{Q:DK}(I:Inv X pins σ H s)(ab:kc X.K H G)(rx:RelV x v)(dX:bV X.K H x dx)
  (hy:(∃ l vs bH,u=.ref l/\Vals vs bH/\aU X.K H vs ds/\(s.heap.IsList l bH.toArray\/s.heap.IsTuple l bH.toArray))) (s1:Sn G SN dx t) (s2:Sn G SN (.cW ds) (.cW ss))
  (q:Q (.bl (if neg then !ss.any (ip · t) else ss.any (ip · t))) G):wpAny (model X.prog X.w) X.A (dQ (if neg then .NotIn else .In) v u) (su X pins σ H G Q) X.xe s:=by
 obtain⟨l,vs,bH,rfl,rv,rs,hl⟩:=hy;obtain⟨as,ra⟩:=(gW I ab s1).1 x v dX rx;obtain⟨bs,rb⟩:=(gW I ab s2).2 ds ss (.inl ⟨rfl,rfl⟩) vs bH rs rv;have d2:=LR (n:=7) s2;have n2:qv ss=true:=s2.nr;have zZ:=vn _ n2;have e:=To ss t n2 s1.nr;have Lu:X.A.units+1+min (cf (mB ss)) (pd t).depth < cLine:=by lia
 have Ph:hV s.heap bH.toArray.toList (mB ss) bs:=by simpa using rb
 have fin:∀ k:Bool,k=(if neg then !ss.any (ip · t) else ss.any (ip · t))->su X pins σ H G Q (.bool k) s:=fun k hk=>by subst hk; exact⟨.bl _,H,.bl _,G,I,.refl ab,rfl,.bl _,q⟩
 cases neg with
 | false =>
  rcases hl with hl | hl
  ·exact SeqAt.in_listAt _ hl (nS Ph ra zZ (kI _ s1.nr) Lu) (by rw [rg Ph zZ,e]; exact fin _ rfl)
  ·exact SeqAt.in_tupleAt _ hl (nS Ph ra zZ (kI _ s1.nr) Lu) (by rw [rg Ph zZ,e]; exact fin _ rfl)
 | true =>
  rcases hl with hl | hl
  ·exact SeqAt.notIn_listAt _ hl (nS Ph ra zZ (kI _ s1.nr) Lu) (by rw [rg Ph zZ,e]; exact fin _ rfl)
  ·exact SeqAt.notIn_tupleAt _ hl (nS Ph ra zZ (kI _ s1.nr) Lu) (by rw [rg Ph zZ,e]; exact fin _ rfl)
theorem Qy(hu:X.A.units+64 < cLine)(neg:Bool){pins:List (Addr×Obj)}{s:ax}{σ:L2.St}{H:Hp}{G:Gp}{x y:V}{dx:D}{kvs:List (D×D)}{v u:Value}{Q:DK}(I:Inv X pins σ H s)(ab:kc X.K H G)(rx:RelV x v)(ry:RelV y u)(dY:bV X.K H y (.kW kvs))(dX:bV X.K H x dx)
  (q:Pp neg dx (.kW kvs) G Q):wpAny (model X.prog X.w) X.A (dQ (if neg then .NotIn else .In) v u) (su X pins σ H G Q) X.xe s:=by
 obtain⟨oW,hk,q⟩:=q;have go:∀ (a:Addr) (o:Option V),y=.ref a->AY H a x o->o.isSome=(look kvs dx).isSome->wpAny (model X.prog X.w) X.A (dQ (if neg then .NotIn else .In) v u) (su X pins σ H G Q) X.xe s:=by
  intro a o ea g ho;subst ea;cases ry;cases neg with
  | false=>exact Zq (by lia) I g rx fun s3 I4=>⟨.bl _,H,.bl _,G,I4,.refl ab,rfl,.bl _,by rw [ho]; exact q⟩
  | true=>exact LS (by lia) I g rx fun s3 I4=>⟨.bl _,H,.bl _,G,I4,.refl ab,rfl,.bl _,by rw [ho]; exact q⟩
 obtain⟨a,o,ea,g,ho,_⟩:=De I dY hk dX;rcases g with rfl | g
 ·exact absurd rfl oW
 ·exact go a o ea g ho
theorem Tx(hu:X.A.units+64 < cLine)(neg:Bool):nP X (dQ (if neg then .NotIn else .In)) (Pp neg):=by
 intro pins s σ H G x y dx dy v u Q I ab rx ry dX dY q;cases dY with
 | tup hq rs =>
  obtain⟨t,ss,s1,s2,q⟩:=q;cases ry;obtain⟨bH,rv,pl,hz⟩:=I.tuple (.of hq);exact DE hu neg (y:=x) I ab rx dX ⟨_,_,bH,rfl,rv,rs,.inr pl⟩ s1 s2 q
 | cW hq rs =>
  obtain⟨t,ss,s1,s2,q⟩:=q;cases ry;obtain⟨bH,rv,pl,hz⟩:=I.list hq.sq;exact DE hu neg (y:=x) I ab rx dX ⟨_,_,bH,rfl,rv,rs,.inl pl.isList⟩ s1 s2 q
 | nY h rs=>exact Qy hu neg I ab rx ry (.nY h rs) dX q
 | nX h rs=>exact Qy hu neg I ab rx ry (.nX h rs) dX q
 | ref l =>
  unfold Pp at q;dsimp only at q;split at q
  ·rename_i kvs hl;obtain⟨hk,q⟩:=q;obtain⟨H3,o,I3,m3,g,ho,_⟩:=GW I ab hl hk dX;cases ry;cases neg with
   | false=>exact Zq (by lia) I3 g rx fun s3 I4=>⟨.bl _,H3,.bl _,G,I4,m3,rfl,.bl _,by rw [ho]; exact q⟩
   | true=>exact LS (by lia) I3 g rx fun s3 I4=>⟨.bl _,H3,.bl _,G,I4,m3,rfl,.bl _,by rw [ho]; exact q⟩
  ·rename_i ds hl;obtain⟨t,ss,s1,s2,q⟩:=q;cases ry;obtain⟨vs,hv,rs⟩:=ab.lst hl;obtain⟨bH,rv,pl,hz⟩:=I.list (.of hv);exact DE hu neg (y:=x) I ab rx dX ⟨_,_,bH,rfl,rv,rs,.inl pl.isList⟩ s1 s2 q
  ·exact q.elim
 | _=>exact bC q
theorem Jb(hu:X.A.units+64 < cLine):nP X (dQ .In) (Pp false):=Tx hu false
end
section
variable {X:Cx} {a b c e o:Expr} {es:List Expr} {ta tb tc te to:fV} {t:A8} {pos p p2 apos lN:Pos} {x name:Str} {id T:String}
theorem kb:sx X (.builtin "len") qM:=by
 intro pins s σ H G xs ds us Q I ab rx rd q;unfold qM at q;split at q
 ·rename_i x;obtain⟨v,rfl,r⟩:=rd.one;have SI:∀ (n:Nat),ZJ X.K v H n->Q (.int (n:Int)) G->wpAny (model X.prog X.w) X.A (call (.builtin "len") us) (su X pins σ H G Q) X.xe s:=fun n hn hq =>
   gH (Rp pins s σ H [v] us (A9 X.K H G Q) I rx ⟨v,n,rfl,hn,_,_,.refl ab,.int _,hq⟩) fun _ _ z=>.of z
  have sz:aX=16777216:=cD;cases r with
  | tup hq rs=>exact SI _ (.inr ⟨_,.of hq,by rw [rs.length]⟩) q
  | cW hq rs=>exact SI _ (.inl ⟨_,hq.sq,by rw [rs.length]⟩) q
  | str y =>
   unfold lenOf at q;dsimp only at q;by_cases hz:y.length<=SZ
   ·rw [if_pos hz] at q; exact SI _ ⟨by rw [sz]; exact hz,rfl⟩ q
   ·rw [if_neg hz] at q; exact q.elim
  | nY h rs =>
   rename_i l o kv kvs;obtain⟨u,rfl,ru⟩:=rx.one;cases ru;unfold lenOf at q;dsimp only at q;by_cases ha:(kvs.all fun p=>dH p.1)=true
   ·rw [if_pos ha] at q;exact Vr I (.inr ⟨_,h⟩) fun t s' I'=>⟨.int kv.length,H,_,G,I',.refl ab,⟨t,rfl⟩,.int _,by rw [rs.length]; exact q⟩
   ·rw [if_neg ha] at q; exact q.elim
  | nX h rs =>
   rename_i l o kv kvs;obtain⟨u,rfl,ru⟩:=rx.one;cases ru;unfold lenOf at q;dsimp only at q;by_cases ha:(kvs.all fun p=>dH p.1)=true
   ·rw [if_pos ha] at q;cases rs with
    | nil =>
     obtain⟨z,hS,xs,rel,ob,es,ep,ho,hx,A6,hl,nd⟩:=(I.b7 l _ h).2;have hxs:xs=[]:=by cases rel; rfl
     subst hxs;have he:es=#[]:=by simpa using hl
     subst he;have dd:s.heap.DictOf (cH X.prog X.w) l []:=⟨ob,#[],ep,ho,hx,A6,(fun _ h=>by simp at h),.nil,cy⟩;refine call_len_dict hS dd (by simp) ?_;exact⟨.int 0,H,_,G,I.tok _,.refl ab,⟨_,rfl⟩,.int _,q⟩
    | cons _ _=>simp [dH] at ha
   ·rw [if_neg ha] at q; exact q.elim
  | ref l =>
   unfold lenOf at q;dsimp only at q;cases hg:G l with
   | none=>rw [hg] at q; exact q.elim
   | some g =>
    rw [hg] at q;cases g with
    | lst ds =>
     obtain⟨vs,hv,rs⟩:=ab.lst hg;exact SI _ (.inl ⟨_,.of hv,by rw [rs.length]⟩) q
    | ins _ _=>exact q.elim
    | qL _=>exact q.elim
    | gK kvs =>
     obtain⟨u,rfl,ru⟩:=rx.one;cases ru;dsimp only at q;by_cases ha:(kvs.all fun p=>dH p.1)=true
     ·rw [if_pos ha] at q;rcases ab l _ hg with ⟨kv,hv,rs⟩ | ⟨kv,hv,rs⟩
      ·exact Vr I (.inl hv) fun t s' I'=>⟨.int kv.length,H,_,G,I',.refl ab,⟨t,rfl⟩,.int _,by rw [rs.length]; exact q⟩
      ·cases rs with
       | nil =>
        obtain⟨z,hd,vs,rel,dd⟩:=Cw (toK I hv).b7 bU;have hvs:vs=[]:=by cases rel; rfl
        subst hvs;refine call_len_dict hd dd (by simp) ?_;exact⟨.int 0,H,_,G,I.tok _,.refl ab,⟨_,rfl⟩,.int _,q⟩
       | cons _ _=>simp [dH] at ha
     ·rw [if_neg ha] at q; exact q.elim
  | _=>exact bC q
 ·exact q.elim
theorem JY:sx X (.type "list") xI:=by
 intro pins s σ H G xs ds us Q I ab rx rd q;unfold xI at q;split at q
 ·rename_i x;obtain⟨v,rfl,r⟩:=rd.one;have Xs:∀ (l:Addr) (ys:List V) (zs:List D),v=.ref l->(pF X.K H l ys\/yH X.K H l ys)->aU X.K H ys zs->gO G (.lst zs) Q->wpAny (model X.prog X.w) X.A (call (.type "list") us) (su X pins σ H G Q) X.xe s:=fun l ys zs e h rs hq=>by
   subst e;exact gH (D7 pins s σ H _ us (A9 X.K H G Q) I rx ⟨l,ys,rfl,h,fun p hp=>⟨_,_,.FO ab hp rs,.ref _,hq p (ab.free hp)⟩⟩) fun _ _ z=>.of z
  cases r with
  | tup hq rs=>exact Xs _ _ _ rfl (.inr (.of hq)) rs q
  | cW hq rs=>exact Xs _ _ _ rfl (.inl hq.sq) rs q
  | ref l =>
   unfold itemsOf at q;dsimp only at q;cases hg:G l with
   | none=>rw [hg] at q; exact q.elim
   | some g =>
    rw [hg] at q;cases g with
    | lst ds =>
     obtain⟨vs,hv,rs⟩:=ab.lst hg;exact Xs _ _ _ rfl (.inl (.of hv)) rs q
    | ins _ _=>exact q.elim
    | qL _=>exact q.elim
    | gK kvs=>exact q.elim
  | _=>exact bC q
 ·exact q.elim
theorem t8 {r:List D->Gp->DK->Prop} (hc:sx X (.type T) r) (hg:Gl X x) (hm:X.mg x=none) (hv:ez x=some (.type T)) (ha:BC X (e :: es) t) (hn:autoParam (x≠"__name__") Ad._auto_1) (Ag:autoParam ((x == ("__debug__" : Str))=false) Ad._auto_1)
  (he:autoParam (bx (e :: es) X.env=(false,eval e X.env) :: bx es X.env) Ar._auto_1) (Ab:autoParam ((mx pos (bx es X.env)).any (·.1)=false) Ar._auto_1):fW X (.Call (.Name x p) (e :: es) [] pos) (uj r t):=by
 intro E pins s σ H τ G Q hE I h;refine eS (nH I.inv hg hm hv ?_ hn Ag);exact dF (y8 ha pos hE I h fun vs H1 ds G1 us s1 I1 m1 r1 jj q1=>gH (hc pins s1 σ H1 G1 vs ds us Q I1.inv I1.ab r1 jj q1) fun _ _ z=>z.trans m1) he Ab
theorem WA (K:ai):∀ C∈["int","bool","list","tuple","dict","str"],∀ T∈["NoneType","bool","int","str","tuple","list","dict"],vV K (.type T) (.type C)=some (T == C||(T == "bool" && C == "int")):=by
 intro C hC T hT;simp only [bA,bO,or_false] at hC hT;rcases hC with rfl | rfl | rfl | rfl | rfl | rfl <;> rcases hT with rfl | rfl | rfl | rfl | rfl | rfl | rfl <;> kernel_rfl
theorem Qs (C:String) (hC:C∈["int","bool","list","tuple","dict","str"]) {pins:List (Addr×Obj)} {s:ax} {σ:L2.St} {H:Hp} {G:Gp} {v:V} {d:D} {u:Value} {k:Bool} {Q:DK} (I:Inv X pins σ H s) (ab:kc X.K H G) (ru:RelV v u) (r:bV X.K H v d)
  (hk:U8 C d G=some k) (q:Q (.bl k) G):wpAny (model X.prog X.w) X.A (call (.builtin "isinstance") [u,.type C]) (su X pins σ H G Q) X.xe s:=by
 have fin:∀ tk,su X pins σ H G Q (.bool k) { s with toks:=tk }:=fun tk=>⟨.bl k,H,.bl k,G,I.tok _,.refl ab,rfl,.bl k,q⟩;have hl:∀ T∈["NoneType","bool","int","str","tuple","list","dict"],k=(T == C||(T == "bool" && C == "int"))->vV X.K (.type T) (.type C)=some k:=fun T hT e=>by rw [WA X.K C hC T hT,e]
 have tl:∀ {l:Addr} {o:Obj},s.heap.get? l=some o->o.cls=.type "list"->k=("list" == C||("list" == "bool" && C == "int"))->v=.ref l->wpAny (model X.prog X.w) X.A (call (.builtin "isinstance") [u,.type C]) (su X pins σ H G Q) X.xe s:=fun ho hc e ev=>by
  subst ev;cases ru;exact fH PySem.W.kitx_list I.z8 ⟨_,ho,hc⟩ (hl "list" (by decide) e) (fun z=>nomatch z) fin
 have td:∀ {l:Addr} {o:Obj},s.heap.get? l=some o->o.cls=.type "dict"->k=("dict" == C||("dict" == "bool" && C == "int"))->v=.ref l->wpAny (model X.prog X.w) X.A (call (.builtin "isinstance") [u,.type C]) (su X pins σ H G Q) X.xe s:=fun ho hc e ev=>by
  subst ev;cases ru;exact fH PySem.W.kitx_dict I.z8 ⟨_,ho,hc⟩ (hl "dict" (by decide) e) (fun z=>nomatch z) fin
 have oQ:∀ P:String->Prop,(∀ C'∈["int","bool","list","tuple","dict","str"],P C')->P C:=fun P h=>h C hC;cases r with
 | eN =>
  cases ru;have e:k=("NoneType" == C||("NoneType" == "bool" && C == "int")):=by
   have:k=false:=(ba hk).symm;rw [this];exact oQ (fun C=>false=("NoneType" == C||("NoneType" == "bool" && C == "int"))) (by decide)
  exact fH Sq I.z8 fX (hl _ (by decide) e) (fun z=>nomatch z) fin
 | bl y =>
  cases ru;have e:k=("bool" == C||("bool" == "bool" && C == "int")):=by
   have:k=(C == "bool" || C == "int"):=(ba hk).symm;rw [this];exact oQ (fun C=>(C == "bool" || C == "int")=("bool" == C||("bool" == "bool" && C == "int"))) (by decide)
  exact fH PySem.W.kitx_bool I.z8 fX (hl _ (by decide) e) (fun z=>nomatch z) fin
 | int y =>
  obtain⟨t,rfl⟩:=ru;have e:k=("int" == C||("int" == "bool" && C == "int")):=by
   have:k=(C == "int"):=(ba hk).symm;rw [this];exact oQ (fun C=>(C == "int")=("int" == C||("int" == "bool" && C == "int"))) (by decide)
  exact fH PySem.W.kitx_int I.z8 fX (hl _ (by decide) e) (fun z=>nomatch z) fin
 | str y =>
  obtain⟨t,rfl⟩:=ru;have e:k=("str" == C||("str" == "bool" && C == "int")):=by
   have:k=(C == "str"):=(ba hk).symm;rw [this];exact oQ (fun C=>(C == "str")=("str" == C||("str" == "bool" && C == "int"))) (by decide)
  exact fH PySem.W.kitx_str I.z8 fX (hl _ (by decide) e) (fun z=>nomatch z) fin
 | tup hq rs =>
  cases ru;have e:k=("tuple" == C||("tuple" == "bool" && C == "int")):=by
   have:k=(C == "tuple"):=(ba hk).symm;rw [this];exact oQ (fun C=>(C == "tuple")=("tuple" == C||("tuple" == "bool" && C == "int"))) (by decide)
  obtain⟨bH,rv,⟨o,h1,h2,_⟩,hz⟩:=I.tuple (.of hq);exact fH PySem.W.kitx_tuple I.z8 ⟨o,h1,h2⟩ (hl _ (by decide) e) (fun z=>nomatch z) fin
 | cW hq rs =>
  obtain⟨bH,rv,pl,hz⟩:=I.list hq.sq;obtain⟨o,h1,h2,_⟩:=pl.isList;refine tl h1 h2 ?_ rfl;have:k=(C == "list"):=(ba hk).symm;rw [this];exact oQ (fun C=>(C == "list")=("list" == C||("list" == "bool" && C == "int"))) (by decide)
 | nY h rs =>
  have e:k=("dict" == C||("dict" == "bool" && C == "int")):=by
   have:k=(C == "dict"):=(ba hk).symm;rw [this];exact oQ (fun C=>(C == "dict")=("dict" == C||("dict" == "bool" && C == "int"))) (by decide)
  obtain⟨_,_,vs,_,ob,_,_,h1,h2,_⟩:=tU I.b7 (.inr ⟨_,h⟩);exact td h1 h2.1 e rfl
 | nX h rs =>
  have e:k=("dict" == C||("dict" == "bool" && C == "int")):=by
   have:k=(C == "dict"):=(ba hk).symm;rw [this];exact oQ (fun C=>(C == "dict")=("dict" == C||("dict" == "bool" && C == "int"))) (by decide)
  obtain⟨_,_,ys,_,ob,_,_,h1,h2,_⟩:=AD I.b7 (.inr ⟨_,h⟩);exact td h1 h2.1 e rfl
 | exc h=>simp [U8] at hk
 | Cq h _=>simp [U8] at hk
 | oV _ _ _ _=>simp [U8] at hk
 | ref l =>
  unfold U8 at hk;dsimp only at hk;cases hg:G l with
  | none=>rw [hg] at hk; cases hk
  | some g =>
   rw [hg] at hk;cases g with
   | lst ds =>
    obtain⟨vs,hv,rs⟩:=ab.lst hg;obtain⟨bH,rv,pl,hz⟩:=I.list (.of hv);obtain⟨o,h1,h2,_⟩:=pl.isList;refine tl h1 h2 ?_ rfl;have:k=(C == "list"):=(ba hk).symm;rw [this];exact oQ (fun C=>(C == "list")=("list" == C||("list" == "bool" && C == "int"))) (by decide)
   | ins _ _=>cases hk
   | qL _=>cases hk
   | gK kvs =>
    have e:k=("dict" == C||("dict" == "bool" && C == "int")):=by
     have:k=(C == "dict"):=(ba hk).symm;rw [this];exact oQ (fun C=>(C == "dict")=("dict" == C||("dict" == "bool" && C == "int"))) (by decide)
    rcases ab l _ hg with ⟨kv,hv,rs⟩ | ⟨kv,hv,rs⟩
    ·obtain⟨_,_,vs,_,ob,_,_,h1,h2,_⟩:=Cw I.b7 hv;exact td h1 h2.1 e rfl
    ·obtain⟨_,_,ys,_,ob,_,_,h1,h2,_⟩:=Ra I.b7 hv;exact td h1 h2.1 e rfl
theorem yr (C:String) (hC:C∈["int","bool","list","tuple","dict","str"]) {y:Str} {py:Pos} (hg:Gl X "isinstance") (hm:X.mg "isinstance" = none) (hgC:Gl X y) (hmC:X.mg y=none) (hvC:ez y=some (.type C)) (ha:fW X a ta) (hn:autoParam (y≠"__name__") Ad._auto_1) (Ag:autoParam ((y == ("__debug__" : Str))=false) Ad._auto_1)
  (he:autoParam (bx [a,.Name y py] X.env=(false,eval a X.env) :: bx [.Name y py] X.env) Ar._auto_1) (Ab:autoParam ((mx pos (bx [Expr.Name y py] X.env)).any (·.1)=false) Ar._auto_1) (T5:autoParam (bx [.Name y py] X.env=[(false,eval (.Name y py) X.env)]) Ar._auto_1) :
  fW X (.Call (.Name "isinstance" p) [a,.Name y py] [] pos) (NK C ta):=by
 intro E pins s σ H τ G Q hE I h;refine eS (nH I.inv hg hm xQ ?_);refine lz ?_ he Ab;rw [he];show wpAny _ _ (yL ((false,eval a X.env) :: mx pos (bx [.Name y py] X.env))) _ _ s;refine fR (i5 ha hE I h fun v H1 d G1 u s1 I1 m1 r1 jj q1=>?_);rw [T5];show wpAny _ _ (yL [(false,eval (.Name y py) X.env)]) _ _ s1;refine fR (nH I1.inv hgC hmC hvC (jW ?_) hn Ag)
 try dsimp only at q1
 split at q1
 ·rename_i k hk;exact gH (Qs C hC I1.inv I1.ab r1 jj hk q1) fun _ _ z=>z.trans m1
 ·exact q1.elim
end
section
variable {X:Cx} {a b c e o:Expr} {es:List Expr} {ta tb tc te to:fV} {t:A8} {pos p p2 apos lN:Pos} {x name:Str} {id T:String}
def HA(X:Cx)(id:String)(r:D->List D->Gp->DK->Prop):Prop :=
 ∀ (pins:List (Addr×Obj)) (s:ax) (σ:L2.St) (H:Hp) (G:Gp) (x:V) (d:D) (xs:List V) (ds:List D) (v:Value) (us:List Value) (Q:DK),Inv X pins σ H s->kc X.K H G->RelV x v->bV X.K H x d->Vals xs us->aU X.K H xs ds->r d ds G Q ->
  wpAny (model X.prog X.w) X.A (call (.builtin id) (v :: us)) (su X pins σ H G Q) X.xe s
def Uw(X:Cx)(T:String)(ty:D->Gp->Prop):Prop:=∀ (pins:List (Addr×Obj)) (s:ax) (σ:L2.St) (H:Hp) (G:Gp) (x:V) (d:D) (v:Value),Inv X pins σ H s->kc X.K H G->RelV x v->bV X.K H x d->ty d G ->
  s.TypeIs v T/\∀ a,v=.ref a->∃ ob,s.heap.get? a=some ob/\ob.dict=none
theorem jF:Uw X "list" Be:=by
 intro pins s σ H G x d v I ab r rd h;cases rd with
 | cW hq rs=>exact C1 I r (.inl ⟨rfl,_,hq.sq⟩)
 | ref l =>
  unfold Be at h;dsimp only at h;split at h
  ·rename_i ds hg;obtain⟨vs,hv,rs⟩:=ab.lst hg;exact C1 I r (.inl ⟨rfl,vs,.of hv⟩)
  ·exact h.elim
 | _=>exact bC h
theorem oY:Uw X "dict" SM:=by
 intro pins s σ H G x d v I ab r rd h;cases rd with
 | nY q rs =>
  cases r;obtain⟨t1,t2,_⟩:=Qt I (.inl ⟨_,.inr ⟨_,q⟩⟩);exact⟨t1,t2⟩
 | nX q rs =>
  cases r;obtain⟨t1,t2,_⟩:=Qt I (.inr ⟨_,.inr ⟨_,q⟩⟩);exact⟨t1,t2⟩
 | ref l =>
  unfold SM at h;dsimp only at h;split at h
  ·rename_i kvs hg;rcases ab l _ hg with ⟨kv,hv,rs⟩ | ⟨kv,hv,rs⟩
   ·exact C1 I r (.inr (.inr (.inl ⟨rfl,.inl ⟨kv,hv⟩⟩)))
   ·exact C1 I r (.inr (.inr (.inl ⟨rfl,.inr ⟨kv,hv⟩⟩)))
  ·exact h.elim
 | _=>exact bC h
theorem jy {ty:D->Gp->Prop} {r:D->List D->Gp->DK->Prop} (pa:PlainAttrs T) (slot:Slot T name id) (hty:typeOf (.builtin id)=pure (.type "method_descriptor")) (ht:Uw X T ty) (hm:HA X id r) (ho:fW X o to) (ha:BC X (e :: es) t)
  (vB:autoParam (EK o name X.env (eval o X.env)=eval o X.env) Ar._auto_1)
  (ab4:autoParam (((mx lN (bx (e :: es) X.env)).all (fun x=>!x.1)&&(backToKw lN (keywordEach [] X.env)).all (fun x=>x.1.isSome)
   && decide ((e :: es).length+([]:List Keyword).length+(if ([]:List Keyword).isEmpty then 0 else 1) < 30))=true) Ar._auto_1)
  (Ac:autoParam ((apos.endLine == lN.line)=true) Ar._auto_1) (hs:autoParam (bx (e :: es) X.env=(false,eval e X.env) :: bx es X.env) Ar._auto_1) (WK:autoParam ((mx lN (bx es X.env)).any (·.1)=false) Ar._auto_1) :
  fW X (.Call (.Attribute o name apos) (e :: es) [] lN) (tV ty r to t):=by
 intro E pins s σ H τ G Q hE I h;refine wpAny_Call_method_late vB ab4 Ac rfl (i5 ho hE I h ?_);rintro x H1 d G1 v s1 I1 m1 r1 jj ⟨hy,q1⟩;obtain⟨h1,h2⟩:=ht pins s1 σ H1 G1 x d v I1.inv I1.ab r1 jj hy;refine⟨T,id,pa,slot,hty,h1,h2,?_⟩;have hA:=ha lN E pins s1 σ H1 τ G1 _ hE I1 q1;rw [hs] at hA ⊢;refine my (by show (false||(mx lN (bx es X.env)).any (·.1))=false; rw [WK] <;> rfl) (R4 ?_);exact gH hA (by rintro us s2 ⟨vs,H2,ds,G2,mr,m2,r2,xr,q2⟩; exact gH (hm pins s2 σ H2 G2 x d vs ds v us Q mr m2.ab r1 (jj.mono (m2.kp I1.ab)) r2 xr q2) fun _ _ z=>z.trans (m1.trans m2))
theorem lj:HA X "list.append" mK:=by
 intro pins s σ H G x d xs ds v us Q I ab rx rd KL Bm q;unfold mK at q;split at q
 ·rename_i l d';cases rd;obtain⟨w,rfl,pP⟩:=Bm.one;split at q
  ·rename_i zs hg;obtain⟨hz,q⟩:=q;obtain⟨vs,hv,rs⟩:=ab.lst hg;exact gH (B4 pins s σ H _ _ v us (A9 X.K H G Q) I rx KL ⟨l,vs,w,rfl,rfl,hv,by rw [rs.length,cD]; exact hz,_,_,.putL ab hg hv (rs.append (.cons pP .nil)),.eN,q⟩) fun _ _ z=>.of z
  ·exact q.elim
 ·exact q.elim
theorem JP(l:Addr)(xs:Array Value)(n:Nat)(b:Addr)(ys:Array Value)(n2:Nat)(dd:Option Addr)(sl:Array (Option Value))(Vg:¬(!xs.isEmpty&&jX (xs.size+ys.size))=true)(hx:xs.size<=aX)(Xz:xs.size+ys.size<=aX+1) :
  Meets (Builtin.«list.extend» ⟨[.ref l,.ref b],[]⟩) (fun _ R s=>s.heap.get? l=some { cls:=.type "list",dict:=none,data:=.seq xs n,slots:=#[] }/\s.heap.get? b=some { cls:=.type "list",dict:=dd,data:=.seq ys n2,slots:=sl }/\R (.ok (.ret gu)) { s with heap:=s.heap.update l (fZ fun x=>x++ys),toks:=s.toks }) :=
 .of_wp fun prog w A R s h=>by
  obtain⟨hp,g,d,tk,os⟩:=s;obtain⟨h1,h2,h3⟩:=h;have e1:=AutoSeq1.idx_int;have e2:=qp;have e3:=Iz;have e4:=AutoSeq1.sub_tuple_list;have e5:=AutoSeq1.sub_list_tuple;have hz':(xs++ys).size<=aX+1:=by rw [Array.size_append]; exact Xz
  wp_walk using (qT h1 rfl (hz:=hx) (_hz':=hz')),b8 h1,b8 h2
  exact⟨_,rfl,h3⟩
theorem Ji:HA X "list.extend" yv:=by
 intro pins s σ H G x d xs ds v us Q I ab rx rd KL Bm q;unfold yv at q;split at q
 ·rename_i l y;cases rd;obtain⟨w,rfl,pP⟩:=Bm.one;obtain⟨u,rfl,ru⟩:=KL.one;split at q
  ·rename_i zs ys hg Y7;obtain⟨hz,q⟩:=q;obtain⟨vs,hv,rs⟩:=ab.lst hg;obtain⟨b,ws,tx,rfl,MH,HP,hb,_⟩:=nO I ab ru pP Y7;cases rx;obtain⟨z,bH,n,r,hl,e⟩:=I.YG hv;obtain⟨⟨cl,dd,dt,sl⟩,ho,Nx,n2,hdt⟩:=hb;simp only at Nx hdt;subst Nx hdt;have h1:=MH.length;have h2:=HP.length;have h3:=rs.length;have h4:=r.length;have h5:aX=16777216:=cD;have h6:SZ=16777216:=rfl;have hsz:bH.toArray.size+tx.toArray.size<=aX:=by rw [aR,aR]; lia
   have Vg:¬ (!bH.toArray.isEmpty&&jX (bH.toArray.size+tx.toArray.size))=true:=by
    rw [PX hsz,Kx];exact fY
   refine Ii F.slot_list_extend ⟨_,e,rfl⟩ F.entry_list_extend (F.args_list_extend_2 _ _) (JP l bH.toArray n b tx.toArray n2 dd sl Vg (by rw [aR]; lia) (by lia)) ⟨e,ho,?_⟩;refine⟨.eN,_,.eN,_,I.YH (its':=bH++tx) hv e (by simp) (r.append MH) ?_,.putL ab hg hv (rs.append HP),rfl,.eN,q⟩;rw [aG];lia
  ·exact q.elim
 ·exact q.elim
theorem M1 (hu : X.A.units + 64 < cLine) : HA X "list.index" DA := by
  intro pins s σ H G x d xs ds v us Q I ab rx rd KL Bm q;unfold DA at q;split at q
  · rename_i d'
    obtain⟨hy, zs, sn, ss, hi, s1, s2, q⟩ := q;obtain⟨w, rfl, pP⟩ := Bm.one;obtain⟨u, rfl, ru⟩ := KL.one;have lists : ∃ l vs bH, v = .ref l ∧ Vals vs bH ∧ aU X.K H vs zs ∧ s.heap.IsList l bH.toArray ∧ vs.length ≤ aX := by
      cases rd with
      | cW hq rs =>
        cases hi;cases rx;obtain⟨bH, rv, pl, hz⟩ := I.list hq.sq;exact⟨_, _, bH, rfl, rv, rs, pl.isList, hz⟩
      | ref l =>
        unfold itemsOf at hi;dsimp only at hi;cases hg : G l with
        | none => rw [hg] at hi; cases hi
        | some g =>
          rw [hg] at hi;cases g with
          | lst ds =>
            cases hi;cases rx;obtain⟨vs, hv, rs⟩ := ab.lst hg;obtain⟨bH, rv, pl, hz⟩ := I.list (.of hv);exact⟨_, _, bH, rfl, rv, rs, pl.isList, hz⟩
          | ins _ _ => cases hi
          | qL _ => cases hi
          | gK _ => cases hi
      | _ => exact bC hy
    obtain⟨l, vs, bH, rfl, rv, rs, hl, hz⟩ := lists;obtain⟨as, ra⟩ := (gW I ab s1).1 w u pP ru;obtain⟨bs, rb⟩ := (gW I ab s2).2 zs ss (.inl ⟨rfl, rfl⟩) vs bH rs rv;have d2 := LR (n := 7) s2;have n2 : qv ss = true := s2.nr;have zZ := vn _ n2;have Lu : X.A.units + 1 + min (cf (mB ss)) (pd sn).depth < cLine := by lia
    have Ph : hV s.heap bH.toArray.toList (mB ss) bs := by simpa using rb
    have mp := SeqAt.readsAll_map _ _ _ zZ Ph;split at q
    · rename_i k hk
      obtain⟨wO, abW, WM⟩ := List.findIdx?_eq_some_iff_getElem.mp hk;have pdl : ∀ (zz : List D), (mB zz).length = zz.length := by
        intro zz;induction zz with
        | nil => rfl
        | cons a r ih => exact congrArg Nat.succ ih
      have hlen : bH.length = ss.length := by
        have := congrArg dU mp;rw [ao, pdl] at this;simpa using this
      have at_ : ∀ (m : Nat) (h1 : m < bH.toArray.size) (h2 : m < ss.length), qO (BH s.heap bH.toArray[m]) (pd sn) = ip ss[m] sn := by
        intro m h1 h2;have e1 : (bH.toArray.toList.map (BH s.heap))[m]? = (mB ss)[m]? := by rw [mp]
        have pdg : ∀ (zz : List D) (m : Nat) (h : m < zz.length), (mB zz)[m]? = some (pd zz[m]) := by
          intro zz;induction zz with
          | nil => intro m h; simp at h
          | cons a r ih => intro m h; cases m with
            | zero => rfl
            | succ m => exact ih m (uG h)
        rw [pdg ss m h2] at e1;have h1' : m < bH.length := by simpa using h1
        have e2 : BH s.heap bH.toArray[m] = pd ss[m] := by
          simpa [h1'] using e1
        rw [e2];have fJ : nr ss[m] = true := by
          have : ∀ (zz : List D) (m : Nat) (h : m < zz.length), qv zz = true -> nr zz[m] = true := by
            intro zz;induction zz with
            | nil => intro m h; simp at h
            | cons a r ih => intro m h hn; have Vf : nr a = true ∧ qv r = true := (kg).mp hn
                             cases m with
                             | zero => exact Vf.1
                             | succ m => exact ih m (by simpa using h) Vf.2
          exact this ss m h2 n2
        exact uh _ _ fJ s1.nr
      have sz : aX = 16777216 := cD;have hvl : vs.length = bH.length := rv.length;obtain⟨⟨cls, dd, data, sl⟩, ho, hc, n, hd⟩ := id hl;simp only at hc hd;subst hc hd;have HW : k < bH.toArray.size := by rw [aR]; lia
      refine Ii Im ⟨_, ho, rfl⟩ PySem.F.entry_list_index (PySem.F.args_list_index_2 _ _)
        (SeqAt.list_indexAt l bH.toArray n dd sl u (fun y => qO (BH s.heap y) (pd sn)) k HW (by lia) ?_ ?_) ⟨ho, nS Ph ra zZ (kI _ s1.nr) Lu, ?_⟩
      · rw [at_ k HW wO]; exact abW
      · intro m hm hmk
        have Ou : m < ss.length := by lia
        rw [at_ m hm Ou];simpa using WM m hmk
      · exact⟨.int k, H, .int k, G, I.tok _, .refl ab, ⟨_, rfl⟩, .int _, q⟩
    · exact q.elim
  · exact q.elim
theorem pU:fW X (.Dict [] [] pos) tE:=by
 intro E pins s σ H τ G Q hE I h;exact gH (PJ pins s σ H (A9 X.K H G Q) I.inv fun p hp=>⟨_,_,.new I.ab hp (.dk bU .nil),.ref _,h p (I.ab.free hp)⟩) fun _ _ z=>.of z
end
def gw(env:Env):List (Str×tL)->List (Str×Addr)->List (Str×Addr)
 | [],acc=>acc
 | (n,k) :: r,acc=>if k=.free then gw env r ((n,(env.cells.lookup n).getD 0) :: acc) else gw env r acc
theorem uo(env:Env)(f:Str×tL->List (Str×Addr)->Sem (ForInStep (List (Str×Addr))))(hf:∀ n k c,f (n,k) c=if (k == kY)=true then (cellOf env n >>= fun a=>pure (tj ((n,a) :: c))) else pure (tj c)) :
  ∀ (ns:List (Str×tL)) (acc:List (Str×Addr)),(∀ x∈ns,x.2=.free->∃ c,env.cells.lookup x.1=some c)->forIn ns acc f=(pure (gw env ns acc):Sem (List (Str×Addr)))
 | [],acc,_=>rfl
 | (n,k) :: r,acc,h=>by
  rw [List.forIn_cons,hf];have hr:∀ x∈r,x.2=.free->∃ c,env.cells.lookup x.1=some c:=fun x hx=>h x (aL _ hx);by_cases hk:k=.free
  ·subst hk;obtain⟨c,hc⟩:=h (n,.free) cA rfl;have ec:cellOf env n=pure c:=by unfold cellOf; rw [hc]
   rw [if_pos (by decide),ec,pure_bind,pure_bind];show forIn r ((n,c) :: acc) f=_;rw [uo env f hf r _ hr];show _=(pure (gw env ((n,.free) :: r) acc):Sem (List (Str×Addr)));rw [gw,if_pos rfl,hc]; rfl
  ·rw [if_neg (by simpa using hk),pure_bind];show forIn r acc f=_;rw [uo env f hf r _ hr];show _=(pure (gw env ((n,k) :: r) acc):Sem (List (Str×Addr)));rw [gw,if_neg hk]
theorem Bw{env:Env}{scope:Scope}(h:∀ x∈scope.names,x.2=.free->∃ c,env.cells.lookup x.1=some c):closureFor scope env=pure (gw env scope.names []):=by
 unfold closureFor;dsimp only;rw [uo env _ (fun n k c=>?_) scope.names [] h]
 ·rfl
 ·by_cases hk:(k == kY)=true
  ·simp only [hk,if_true]
  ·simp only [hk,if_false,aj]
theorem uL{env:Env}{x:Str}{c:Addr}:∀ {ns:List (Str×tL)} {acc:List (Str×Addr)},(∀ y∈ns,y.2=.free->∃ c,env.cells.lookup y.1=some c)->(∀ y c,acc.lookup y=some c->env.cells.lookup y=some c)->(gw env ns acc).lookup x=some c->env.cells.lookup x=some c
 | [],_,_,ha,e=>ha _ _ e
 | (n,k) :: r,acc,h,ha,e=>by
  have hr:∀ y∈r,y.2=.free->∃ c,env.cells.lookup y.1=some c:=fun y hy=>h y (aL _ hy);unfold gw at e;by_cases hk:k=.free
  ·rw [if_pos hk] at e;refine uL hr (fun y c' q=>?_) e;rw [Ey] at q;by_cases hy:(y == n)=true
   ·rw [hy] at q;have e1:y=n:=eq_of_beq hy;subst e1;obtain⟨c0,hc0⟩:=h (y,k) cA hk;rw [hc0] at q ⊢;exact q
   ·have U9:(y == n)=false:=by simpa using hy
    rw [U9] at q;exact ha y c' q
  ·rw [if_neg hk] at e;exact uL hr ha e
theorem pN{env:Env}{x:Str}:∀ {ns:List (Str×tL)} {acc:List (Str×Addr)},((x,kY)∈ns\/∃ c,acc.lookup x=some c)->∃ c,(gw env ns acc).lookup x=some c
 | [],_,h=>by rcases h with h | h; exact absurd h (by simp); exact h
 | (n,k) :: r,acc,h=>by
  unfold gw;have grow:∀ a,(∃ c,acc.lookup x=some c)->∃ c,((n,a) :: acc).lookup x=some c:=fun a Ot=>by
   obtain⟨c,hc⟩:=Ot;rw [Ey];by_cases hy:(x == n)=true
   ·rw [hy]; exact⟨_,rfl⟩
   ·have U9:(x == n)=false:=by simpa using hy
    rw [U9]; exact⟨c,hc⟩
  by_cases hk:k=.free
  ·rw [if_pos hk];refine pN ?_;rcases h with h | h
   ·rcases List.mem_cons.mp h with e | h
    ·injection e with e1 e2
     subst e1;exact .inr ⟨(env.cells.lookup x).getD 0,by rw [Ey]; simp⟩
    ·exact .inl h
   ·exact .inr (grow _ h)
  ·rw [if_neg hk];refine pN ?_;rcases h with h | h
   ·rcases List.mem_cons.mp h with e | h
    ·injection e with e1 e2
     exact absurd e2.symm hk
    ·exact .inl h
   ·exact .inr h
abbrev eB(X:Cx)(N:List Str)(scope:Scope)(C:Addr)(s:ax)(H:Hp)(fp:List Addr):Cx :=
 { X with env:=compEnvC scope (gw X.env scope.names []) C X.env,N:=N,i6:=s,N7:=H,outer:=X.stack,stack:=X.stack,ex:=fp,fn:=fun _=>false,pn:=[],xe:=fun _ _=>False }
theorem uU{scope:Scope}{env:Env}{x:Str}(h:(Ib scope env).names.lookup x=some .cell\/(Ib scope env).names.lookup x=some .free)(qz:∀ y∈scope.names,y.2≠.cell):(x,kY)∈scope.names:=by
 have go:∀ k,(Ib scope env).names.lookup x=some k->k=.cell\/k=.free->(x,kY)∈scope.names:=by
  intro k hk hkk;have hm:=iU hk;unfold Ib at hm;dsimp only at hm;obtain⟨⟨n,j⟩,hj,e⟩:=List.mem_map.mp hm;dsimp only at e;by_cases hc:(j == kY&&env.scope.kind == .function&&env.kindOf n == some .cell)=true
  ·rw [if_pos hc] at e;rw [aI,aI] at hc;injection e with e1 e2
   have ej:j=.free:=eq_of_beq hc.1.1;rw [ej,e1] at hj;exact hj
  ·rw [if_neg hc] at e;injection e with e1 e2
   subst e1;rcases hkk with r | r
   ·exact absurd (e2.trans r) (qz _ hj)
   ·rw [e2.trans r] at hj; exact hj
 rcases h with h | h
 ·exact go _ h (.inl rfl)
 ·exact go _ h (.inr rfl)
section
variable {X:Cx} {N:List Str} {scope:Scope} {fp:List Addr} {pins:List (Addr×Obj)} {σ:L2.St} {H:Hp} {s:ax} {C:Addr}
theorem Xa(I:Inv X pins σ H s)(qz:∀ y∈scope.names,y.2≠.cell)(Ck:scope.kind=.function)(qy:∀ y∈scope.names,y.2=.free->X.env.kindOf y.1=some .cell)(hC:s.heap.objs.size<=C)(Y9:∀ b∈fp,oi X pins H b/\b < s.heap.objs.size):(eB X N scope C s H fp).Ok:=by
 have Nx:∀ y∈scope.names,y.2=.free->∃ c,X.env.cells.lookup y.1=some c:=fun y hy hf=>I.ok.has _ (.inl (qy y hy hf));have VQ:∀ x c,(gw X.env scope.names []).lookup x=some c->X.env.cells.lookup x=some c:=fun x c e=>uL Nx (fun y c q=>by simp at q) e;refine⟨I.ok.mod,Ck,I.ok.glob,I.ok.blt,hC,fun x y c h1 h2=>I.ok.inj x y c (VQ x c h1) (VQ y c h2),fun x hx=>?_,fun x c h=>absurd h (by simp),I.ok.hd,I.ok.frames,.inl rfl,fun b hb=>?_,I.bs,bz I.ok.RC I.sz,fun b o e hb=>?_,fun b hb=>?_,I.stack,I.C7⟩
 ·exact pN (.inl (uU hx qz))
 ·obtain⟨⟨f0,f1,f2,f3,f4,f5⟩,wO⟩:=Y9 b hb;exact⟨bu (bJ wO hC),fun x c e=>f4 x c (VQ x c e)⟩
 ·obtain⟨⟨f0,f1,f2,f3,f4,f5⟩,wO⟩:=Y9 b hb;rcases f3 with f3 | f3
  ·exact I.ok.Jd b o e f3
  ·exact absurd (bJ (aN e) (bz I.ok.RC f3)) (ib _)
 ·obtain⟨⟨f0,f1,f2,f3,f4,f5⟩,wO⟩:=Y9 b hb;intro z;rcases List.mem_cons.mp (I.IH b z) with e | e
  ·exact f1 e
  ·exact f2 e
theorem Ui{qJ:Heap}{m:Nat}{fr:List Nat}{tk:Nat}(I:Inv X pins σ H s)(ok:(eB X N scope s.heap.objs.size s H fp).Ok)(WT:∀ y∈scope.names,y.2≠.cell)(qy:∀ y∈scope.names,y.2=.free->X.env.kindOf y.1=some .cell)(hN:N.length=m+fr.length)
  (hfr:∀ j i x,fr[j]?=some i->N[m+j]?=some x->X.N[i]?=some x/\X.env.scope.names.lookup x=some .cell/\(Ib scope X.env).names.lookup x=some .cell) (Nr:∃ mm,qJ.Ns s.heap.objs.size mm) (hk:∀ b o,s.heap.get? b=some o->qJ.get? b=some o) :
  Inv (eB X N scope s.heap.objs.size s H fp) [] (bg m none++fr.map fun i=>(σ[i]?).getD none) H { s with heap:=qJ,toks:=tk }:=by
 have Nx:∀ y∈scope.names,y.2=.free->∃ c,X.env.cells.lookup y.1=some c:=fun y hy hf=>I.ok.has _ (.inl (qy y hy hf));have VQ:∀ x c,(gw X.env scope.names []).lookup x=some c->X.env.cells.lookup x=some c:=fun x c e=>uL Nx (fun y c q=>by simp at q) e;obtain⟨mm,Nr⟩:=Nr;refine⟨ok,rfl,I.bare,Un.kept hk,⟨mm,Nr,fun i x v h1 h2 h3=>?_⟩,fun x c e=>?_,I.b7.fresh (aC _),fun x c e=>?_,fun p hp=>absurd hp (by simp),I.b7.kept hk,?_⟩
 ·by_cases hi:i < m
  ·rw [cb (by simpa using hi),lX] at h2;split at h2 <;> cases h2
  ·obtain⟨j,rfl⟩:∃ j,i=m+j:=⟨i - m,by lia⟩;rw [bS (by simp),fM,tZ,aO] at h2;cases hj:fr[j]? with
   | none=>rw [hj] at h2; cases h2
   | some k =>
    rw [hj] at h2;have QU:(σ[k]?).getD none=some v:=by simpa using h2
    have hk':σ[k]?=some (some v):=by
     cases q:σ[k]? with
     | none=>rw [q] at QU; cases QU
     | some o=>rw [q] at QU; simp at QU; rw [QU]
    obtain⟨e1,e2,e3⟩:=hfr j k x hj h1;obtain⟨m0,hn0,hl0⟩:=I.loc;obtain⟨u,r,l⟩:=hl0 k x v e1 hk' (.inr (.inl e2));refine⟨u,r,.inr ⟨.inl e3,?_⟩⟩;rcases l with ⟨l1,_⟩ | ⟨_,c,hc,qz⟩
    ·have:X.env.scope.names.lookup x=some .local:=l1;rw [e2] at this; cases this
    ·have hx:(x,kY)∈scope.names:=uU (.inl e3) WT;obtain⟨c',Ow⟩:=pN (env:=X.env) (x:=x) (ns:=scope.names) (acc:=[]) (.inl hx);have:=VQ x c' Ow;rw [hc] at this;have ec:c=c':=ba this;subst ec;obtain⟨oc,XB,hd⟩:=qz;exact⟨c,Ow,oc,hk _ _ XB,hd⟩
 ·obtain⟨v,oc,XB,hd⟩:=I.cell x c (VQ x c e);exact⟨v,oc,hk _ _ XB,hd⟩
 ·exact I.jf x c (VQ x c e)
 ·rw [aG,fM,ao];exact hN.symm
theorem D4{prog:bI}{w:World}{A:cS}{R:Result->ax->Prop}{s:ax}{elt target iter:Expr}{ifs:List Expr}{sc:Scope}{pos:Pos}{it acc:Value}{env:Env}(J:Nat->ax->Prop)
  (turn:∀ n s,J n s->wpAny (model prog w) A (xa it) (fun r fC=>match r with
   | none=>R (.ok .next) fC
   | some v=>wpAny (model prog w) A (yN target it v) (fun _ XX=>wpAny (model prog w) A (Kn target env v) (fun _ kq =>
     wpAny (model prog w) A (forIn ifs true fun c r=>if r=true then do let ok ← isTrue c env (eval c env); pure (tj ok) else pure (tj r)) (fun k C5 =>
      if k=true then wpAny (model prog w) A (eval elt env) (fun x MD=>wpAny (model prog w) A (call (.builtin "list.append") [acc,x]) (fun _ OW=>∃ m,m < n/\J m OW) (fun _ _=>False) MD) (fun _ _=>False) C5
      else ∃ m,m < n/\J m C5) (fun _ _=>False) kq) (fun _ _=>False) XX) (fun _ _=>False) fC) (fun _ _=>False) s) (n:Nat) (h:J n s) :
  yS (model prog w) A (.compLoop (.ListComp elt [⟨target,iter,ifs,0⟩] sc pos) 0 it acc env) R s:=by
 have no:∀ {α:Type} {t:Sem α} {Q:α->ax->Prop} {E:Value->ax->Prop} {s:ax},wpAny (model prog w) A t Q (fun _ _=>False) s->wpAny (model prog w) A t Q E s:=fun h=>oG h (fun _ _ q=>q) fun _ _ z=>z.elim;refine codeAny_loop rfl J (fun n s hJ=>?_) n h;show wpAny _ A ((compTurn (.ListComp elt [⟨target,iter,ifs,0⟩] sc pos) 0 it acc env).onRaise (fun x=>do noteFrame x env; theTreesLotGoes x)) _ _ s;refine wpAny_noted ?_;rw [compTurn_list];refine ag (EG (ag (gH (no (turn n s hJ)) fun r fC qJ=>?_)));cases r with
 | none=>exact ay qJ
 | some v =>
  refine ag (gH (no qJ) fun _ kq Jv=>ag (gH (no Jv) fun _ C5 abm=>ag (gH (no abm) fun k MD YU=>?_)));cases k with
  | false=>exact ay ⟨rfl,YU⟩
  | true=>exact ag (ag (gH (no YU) fun x OW abl=>ag (gH (no abl) fun _ aeN abk=>ay (ay ⟨rfl,abk⟩))))
def CompEnd(X:Cx)(pins:List (Addr×Obj))(σ:L2.St)(H:Hp)(G:Gp)(Q:DK)(C Dd:Addr)(s':ax):Prop :=
 ∃ m H' G',Inv X pins σ H' s'/\s'.heap.Ns C m/\oi X pins H' C/\Mv X.K H G H' G'/\Q (.ref Dd) G'
inductive Xl (Xc:Cx):List Expr->Option xY->Prop
 | none:Xl Xc [] none
 | some {c:Expr} {t:xY}:Kb Xc c t->Xl Xc [c] (some t)
theorem CA{τ:iD}{G G2:Gp}{H2:Hp}{s2:ax}{tg elt iter:Expr}{ifs:List Expr}{pos:Pos}{m:Nat}{fr:List Nat}{E:lP}{g:A7}{c:Option xY}{te:fV}{J:It}{tn:Nat->Heap->Prop}{it:Addr}{ds:List D}{ok:Gp->Prop}{Q:DK}{Rr:Value->Addr->Result->ax->Prop}{E0:Value->ax->Prop}
  (hc:X.calm=true) (qz:∀ y∈scope.names,y.2≠.cell) (Ck:scope.kind=.function) (qy:∀ y∈scope.names,y.2=.free->X.env.kindOf y.1=some .cell) (hN:N.length=m+fr.length)
  (hfr:∀ j i x,fr[j]?=some i->N[m+j]?=some x->X.N[i]?=some x/\X.env.scope.names.lookup x=some .cell/\(Ib scope X.env).names.lookup x=some .cell)
  (hg:∀ C s H fp,NW (eB X N scope C s H fp) tg g) (hi:∀ C s H fp,Xl (eB X N scope C s H fp) ifs c) (he:∀ C s H fp,fW (eB X N scope C s H fp) elt te)
  (I:I2 X pins σ H2 τ G2 s2) (m2:Mv X.K H G H2 G2) (T:Turn X.prog X.w X.K tg J fp it tn) (R9:tn 0 s2.heap) (f2:∀ b∈fp,oi X pins H2 b) (wk:VA X.K J H2 ds ok) (hz:ds.length<=SZ)
  (hE0:∀ ex G,¬ E ex G) (q:jg g c te ok ds E (wZ m fr τ) G2 [] fun xs G3=>gO G3 (.lst xs) Q)
  (fin:∀ C s',CompEnd X pins σ H G Q C s2.heap.objs.size s'->Rr (.ref s2.heap.objs.size) C (.ok .next) s') :
  wpAny (model X.prog X.w) X.A (newList []) (fun acc C5=>wpAny (model X.prog X.w) X.A (newFunctionEnv scope X.env.globals (gw X.env scope.names []) [] X.env.qual none .none (some X.env)) (fun Zw MD =>
   yS (model X.prog X.w) X.A (.compStart (.ListComp elt [⟨tg,iter,ifs,0⟩] scope pos) 0 (.ref it) acc { Zw with scope:=Ib scope X.env }) (Rr acc Zw.locals) MD) E0 C5) E0 s2:=by
 have sz:aX=16777216:=cD;have wV:H2 s2.heap.objs.size=none:=I.inv.b7.fresh (aC _);have W0:G2 s2.heap.objs.size=none:=I.ab.free wV;refine dc (wpAny_newFunctionEnv qz (by intro y hy; simp at hy) (fun qJ QK QF=>?_) Ck);dsimp only at QK QF ⊢;have I3:Inv X pins σ (upd H2 s2.heap.objs.size (.lst [])) { s2 with heap:=s2.heap.push { cls:=.type "list",data:=.seq ([]:List Value).toArray },toks:=s2.toks }:=I.inv.abb (ys:=[]) .nil (cw _);generalize hs3:({ s2 with heap:=s2.heap.push { cls:=.type "list",data:=.seq ([]:List Value).toArray },toks:=s2.toks }:ax)=s3 at I3;generalize Zk:upd H2 s2.heap.objs.size (.lst [])=H3 at I3;have eH3:∀ b,b≠s2.heap.objs.size->H3 b=H2 b:=fun b hb=>by rw [<-Zk,bG hb]
 have GC:s3.heap=s2.heap.push { cls:=.type "list",data:=.seq ([]:List Value).toArray }:=by rw [<-hs3]
 have X5:s3.heap.objs.size=s2.heap.objs.size+1:=by rw [GC,kR]
 have QN:∀ b∈fp,b < s2.heap.objs.size:=fun b hb=>by
  obtain⟨o,e,_⟩:=T.obj _ _ R9 b hb;exact aN e
 have Y8:∀ b∈fp,oi X pins H3 b/\b < s3.heap.objs.size:=fun b hb=>by
  have hb2:=QN b hb;obtain⟨f0,f1⟩:=f2 b hb;exact⟨⟨by rw [eH3 b (bu hb2)]; exact f0,f1⟩,bJ hb2 (by rw [X5]; exact yV _)⟩
 have ZZ:(eB X N scope s3.heap.objs.size s3 H3 fp).Ok:=Xa I3 qz Ck qy (aC _) Y8;have Vh:∀ b o,s3.heap.get? b=some o->qJ.get? b=some o:=fun b o e=>by
  have hb:b < s3.heap.objs.size:=aN e;refine QF.extBut b o ?_ (aA _ ?_)
  ·rw [<-GC]; exact bu hb
  ·rw [<-GC]; exact e
 have abL:∃ mm,qJ.Ns s3.heap.objs.size mm:=⟨_,by rw [GC]; exact QK⟩;have I4:=Ui (tk:=s3.toks+([]:List (Str×Value)).length) I3 ZZ qz qy hN hfr abL Vh;have abf:Kp H2 H3:=by rw [<-Zk]; exact .new wV
 have RK:kc X.K H3 G2:=by rw [<-Zk]; exact(Mv.GB I.ab wV).ab
 have mv3:Mv X.K H2 G2 H3 G2:=by rw [<-Zk]; exact .GB I.ab wV
 have ZS:Ob X.K H3 (bg m none++fr.map fun i=>(σ[i]?).getD none) (wZ m fr τ):=by
  refine⟨by unfold wZ; rw [aG,aG,ao,ao,fM,fM],fun i d h2=>?_⟩;unfold wZ at h2;by_cases hi:i < m
  ·rw [cb (by simpa using hi),lX] at h2;split at h2 <;> cases h2
  ·obtain⟨j,rfl⟩:∃ j,i=m+j:=⟨i - m,by lia⟩;rw [bS (by simp),fM,tZ,aO] at h2;rw [bS (by simp),fM,tZ,aO];cases hj:fr[j]? with
   | none=>rw [hj] at h2; cases h2
   | some k =>
    rw [hj] at h2;have QU:(τ[k]?).getD none=some d:=by simpa using h2
    have hk':τ[k]?=some (some d):=by
     cases qq:τ[k]? with
     | none=>rw [qq] at QU; cases QU
     | some o=>rw [qq] at QU; simp at QU; rw [QU]
    obtain⟨v,e1,e2⟩:=I.st.at' k d hk';exact⟨v,by simp [e1],e2.mono abf⟩
 have hD3:H3 s2.heap.objs.size=some (.lst []):=by rw [<-Zk,bU]
 have X1:tn 0 qJ:=T.keep _ _ _ R9 fun b hb o e=>Vh b o (by rw [GC]; exact aA _ e);have O0:∀ {Hc:Hp},(∀ b∈fp,Hc b=none)->∀ b∈fp,oi (eB X N scope s3.heap.objs.size s3 H3 fp) [] Hc b:=fun hn b hb =>
  ⟨hn b hb,(ZZ.Zn b hb).1,ZZ.NG b hb,.inl hb,fun x c e=>(ZZ.Zn b hb).2 x c e,fun p hp=>absurd hp (by simp)⟩
 have neD:∀ b∈fp,b≠s2.heap.objs.size:=fun b hb=>bu (QN b hb);have loop:yS (model X.prog X.w) X.A (.compLoop (.ListComp elt [⟨tg,iter,ifs,0⟩] scope pos) 0 (.ref it) (.ref s2.heap.objs.size) (eB X N scope s3.heap.objs.size s3 H3 fp).env) (Rr (.ref s2.heap.objs.size) s3.heap.objs.size)
   { s3 with heap:=qJ,toks:=s3.toks+([]:List (Str×Value)).length }:=by
  refine D4 (fun n s'=>∃ i R6 Hc OK Gc uv vU,I2 (eB X N scope s3.heap.objs.size s3 H3 fp) [] R6 Hc OK Gc s'/\Gc s2.heap.objs.size=none/\Hc s2.heap.objs.size=some (.lst uv)/\aU X.K Hc uv vU/\vU.length<=i/\Mv X.K H2 G2 Hc Gc/\tn i s'.heap/\(∀ b∈fp,Hc b=none) /\
   n=ds.length - i/\i<=ds.length/\jg g c te ok (ds.drop i) E OK Gc vU fun xs G3=>gO G3 (.lst xs) Q) ?_ ds.length
   ⟨0,_,H3,_,G2,[],[],⟨I4,ZS,RK⟩,W0,hD3,.nil,aC _,mv3,X1,fun b hb=>by rw [eH3 b (neD b hb)]; exact(f2 b hb).1,rfl,cw _,q⟩
  rintro n s4 ⟨i,R6,Hc,OK,Gc,uv,vU,Ic,gD,hD,rA,hA,mc,stc,frc,rfl,hle,wq⟩;have kpc:Kp H2 Hc:=mc.kp I.ab;by_cases wO:i < ds.length
  ·rw [ie wO] at wq;obtain⟨okG,wq⟩:=wq;obtain⟨go,yl⟩:=(wk i Hc Gc kpc Ic.ab okG).1 ds[i] (by simp [wO]);refine gH (T.item (eB X N scope s3.heap.objs.size s3 H3 fp) rfl rfl rfl hc i [] s4 R6 Hc (fun _ _=>False) Ic.inv (O0 frc) stc go) ?_;rintro r s5 ⟨u,hr,h5⟩;subst hr;refine gH h5 ?_;rintro _ s6 ⟨x,H6,I6,r6,y6,st6,fr6⟩;obtain⟨rd6,m6⟩:=yl x H6 y6;have I6':=I6.pinned (O0 fr6) (T.obj _ _ st6);have J6:I2 (eB X N scope s3.heap.objs.size s3 H3 fp) ([]++rO fp s6.heap) R6 H6 OK Gc s6:=⟨I6',Ic.st.mono (m6.kp Ic.ab),m6.ab⟩;have back:∀ {XJ:L2.St} {H9:Hp} {Xr:iD} {G9:Gp} {s9:ax} {aV:List V} {aD:List D},I2 (eB X N scope s3.heap.objs.size s3 H3 fp) ([]++rO fp s6.heap) XJ H9 Xr G9 s9->Mv X.K H2 G2 H9 G9->G9 s2.heap.objs.size=none->H9 s2.heap.objs.size=some (.lst aV)->aU X.K H9 aV aD->aD.length<=i+1 ->
     (jg g c te ok (ds.drop (i+1)) E Xr G9 aD fun xs G3=>gO G3 (.lst xs) Q)->∃ mm,mm < ds.length - i/\∃ i R6 Hc OK Gc uv vU,I2 (eB X N scope s3.heap.objs.size s3 H3 fp) [] R6 Hc OK Gc s9/\Gc s2.heap.objs.size=none/\Hc s2.heap.objs.size=some (.lst uv)/\aU X.K Hc uv vU/\vU.length<=i /\
      Mv X.K H2 G2 Hc Gc/\tn i s9.heap/\(∀ b∈fp,Hc b=none)/\mm=ds.length - i/\i<=ds.length/\jg g c te ok (ds.drop i) E OK Gc vU fun xs G3=>gO G3 (.lst xs) Q:=fun {XJ H9 Xr G9 s9 aV aD} I9 m9 g9 h9 r9 l9 n9=>by
    refine⟨ds.length - (i+1),by lia,i+1,XJ,H9,Xr,G9,aV,aD,⟨I9.inv.uK,I9.st,I9.ab⟩,g9,h9,r9,l9,m9,T.keep _ _ _ st6 fun b hb o e=>(I9.inv.pin (b,o) (cI _ (cI _ (pZ hb e)))).1,fun b hb=>?_,rfl,wO,n9⟩;obtain⟨o,e,d⟩:=T.obj _ _ st6 b hb;exact(I9.inv.pin (b,o) (cI _ (cI _ (pZ hb e)))).2.1
   have mc6:=mc.trans m6;have hD6:=m6.keep _ _ hD gD;refine gH (hg _ _ _ _ E _ s6 R6 H6 OK Gc x ds[i] u _ (Lk.none hE0) J6 r6 rd6 wq) ?_;rintro _ s7 ⟨Ol,H7,Oj,G7,I7,m7,q7⟩;have hD7:=m7.keep _ _ hD6.1 gD;have mc7:=mc6.trans m7;have rA7:=rA.mono ((m6.trans m7).kp Ic.ab);have Zp:∀ (H8:Hp) (G8:Gp) (s8:ax),I2 (eB X N scope s3.heap.objs.size s3 H3 fp) ([]++rO fp s6.heap) Ol H8 Oj G8 s8->Mv X.K H7 G7 H8 G8->(te E Oj G8 fun y G9=>jg g c te ok (ds.drop (i+1)) E Oj G9 (vU++[y]) fun xs G3=>gO G3 (.lst xs) Q) ->
     wpAny (model X.prog X.w) X.A (eval elt (eB X N scope s3.heap.objs.size s3 H3 fp).env) (fun y MD=>wpAny (model X.prog X.w) X.A (call (.builtin "list.append") [.ref s2.heap.objs.size,y]) (fun _ OW=>∃ mm,mm < ds.length - i/\∃ i R6 Hc OK Gc uv vU,I2 (eB X N scope s3.heap.objs.size s3 H3 fp) [] R6 Hc OK Gc OW/\Gc s2.heap.objs.size=none/\Hc s2.heap.objs.size=some (.lst uv)/\aU X.K Hc uv vU/\vU.length<=i /\
      Mv X.K H2 G2 Hc Gc/\tn i OW.heap/\(∀ b∈fp,Hc b=none)/\mm=ds.length - i/\i<=ds.length/\jg g c te ok (ds.drop i) E OK Gc vU fun xs G3=>gO G3 (.lst xs) Q) (fun _ _=>False) MD) (fun _ _=>False) s8:=fun H8 G8 s8 I8 m8 q8=>by
    refine i5 (he _ _ _ _) (Lk.none hE0) I8 q8 fun v H9 d9 G9 u9 s9 I9 m9 r9 rd9 q9=>?_;have m79:=m8.trans m9;have hD9:=m79.keep _ _ hD7.1 hD7.2;have rA9:=rA7.mono (m79.kp I7.ab);have mc9:=mc7.trans m79;refine gH (B4 (X:=eB X N scope s3.heap.objs.size s3 H3 fp) _ s9 Ol H9 (.ref s2.heap.objs.size) [v] _ [u9] (fun _ H'=>H'=upd H9 s2.heap.objs.size (.lst (uv++[v]))) I9.inv rfl (.cons r9 .nil)
     ⟨_,uv,v,rfl,rfl,hD9.1,by rw [rA.length,sz]; have:SZ=16777216:=rfl; lia,rfl⟩) ?_
    rintro _ s10 ⟨v10,H10,I10,_,e10⟩;subst e10;have kpA:Kp H9 (upd H9 s2.heap.objs.size (.lst (uv++[v]))):=.putL hD9.1;have abA:kc X.K (upd H9 s2.heap.objs.size (.lst (uv++[v]))) G9:=fun a g' e=>by
     have ne:a≠s2.heap.objs.size:=by rintro rfl; rw [hD9.2] at e; cases e
     exact(I9.ab a g' e).mono kpA (bG ne)
    have mA:Mv X.K H2 G2 (upd H9 s2.heap.objs.size (.lst (uv++[v]))) G9:=⟨fun a o e n=>by
      have ne:a≠s2.heap.objs.size:=d6 e wV;obtain⟨e1,e2⟩:=mc9.keep a o e n;exact⟨by rw [bG ne]; exact e1,e2⟩,fun a n=>by
      by_cases ha:a=s2.heap.objs.size
      ·rw [ha,bU]; simp
      ·rw [bG ha]; exact mc9.jl a n,abA⟩
    exact back ⟨I10,I9.st.mono kpA,abA⟩ mA hD9.2 bU ((rA9.append (.cons rd9 .nil)).mono kpA) (by rw [aG,cg]; lia) q9
   cases hi s3.heap.objs.size s3 H3 fp with
   | none =>
    refine wpAny_tests_nil ?_;rw [if_pos rfl];exact Zp H7 G7 s7 I7 (.refl I7.ab) q7
   | some Zf =>
    refine wpAny_tests_one (MB Zf (Lk.none hE0) I7 q7 fun k H8 G8 s8 I8 m8 q8=>?_);cases k with
    | true =>
     rw [if_pos rfl] at q8 ⊢;exact Zp H8 G8 s8 I8 m8 q8
    | false =>
     rw [if_neg fY] at q8 ⊢;have hD8:=m8.keep _ _ hD7.1 hD7.2;exact back I8 (mc7.trans m8) hD8.2 hD8.1 (rA7.mono (m8.kp I7.ab)) (by lia) q8
  ·have hn:ds.length<=i:=by lia
   rw [mG hn] at wq;obtain⟨okG,qn⟩:=wq;have stop:=(wk i Hc Gc kpc Ic.ab okG).2 hn;refine gH (T.done (eB X N scope s3.heap.objs.size s3 H3 fp) rfl rfl rfl hc i [] s4 R6 Hc (fun _ _=>False) Ic.inv (O0 frc) stc stop) ?_;rintro r s5 ⟨hr,I5⟩;subst hr;refine fin s3.heap.objs.size s5 ?_;obtain⟨mm,abM,_⟩:=I5.loc;have hC5:Hc s3.heap.objs.size=none:=I5.free;have I6:Inv X pins σ Hc s5:=by
    obtain⟨h5,g5,d5,t5,o5⟩:=s5;have eo:o5=s3.os:=I5.os;subst eo;exact I3.call (h':=h5) (g':=g5) (d':=d5) (t':=t5) (ch:=fp) I5.base I5.b7 I5.bare fun b hb=>by
     obtain⟨⟨f0,f1,f2',f3,f4,f5⟩,hl⟩:=Y8 b hb;exact⟨f3,f1,f4,f5⟩
   have mvF:Mv X.K H2 G2 Hc (eV Gc s2.heap.objs.size (.lst vU)):=⟨fun a o e n=>by
     have ne:a≠s2.heap.objs.size:=d6 e wV;obtain⟨e1,e2⟩:=mc.keep a o e n;exact⟨e1,by rw [cL ne]; exact e2⟩,mc.jl,fun a g' e=>by
     by_cases ha:a=s2.heap.objs.size
     ·subst ha;rw [az] at e;cases e;exact⟨uv,hD,rA⟩
     ·rw [cL ha] at e;exact Ic.ab a g' e⟩
   exact⟨mm,Hc,_,I6,abM,I3.Bp (aC _) hC5,m2.trans mvF,qn _ gD⟩
 have all:yS (model X.prog X.w) X.A (.compStart (.ListComp elt [⟨tg,iter,ifs,0⟩] scope pos) 0 (.ref it) (.ref s2.heap.objs.size) (eB X N scope s3.heap.objs.size s3 H3 fp).env) (Rr (.ref s2.heap.objs.size) s3.heap.objs.size)
   { s3 with heap:=qJ,toks:=s3.toks+([]:List (Str×Value)).length }:=codeAny_compStart_list loop (T.self _ 0 _ _ _ X1 loop)
 subst hs3;exact all
end
section
variable {X:Cx} {N:List Str} {scope:Scope} {tg elt iter:Expr} {ifs:List Expr} {pos:Pos} {m:Nat} {fr:List Nat} {wi:NT} {g:A7} {c:Option xY} {te:fV}
structure AZ(X:Cx)(N:List Str)(scope:Scope)(m:Nat)(fr:List Nat):Prop where
 cell:∀ y∈scope.names,y.2≠.cell
 kind:scope.kind=.function
 names:∀ y∈scope.names,y.2=.local->scope.names.lookup y.1=some .local
 free:∀ y∈scope.names,y.2=.free->X.env.kindOf y.1=some .cell
 len:N.length=m+fr.length
 at':∀ j i x,fr[j]?=some i->N[m+j]?=some x->X.N[i]?=some x/\X.env.scope.names.lookup x=some .cell/\(Ib scope X.env).names.lookup x=some .cell
theorem AZ.closed{X:Cx}{N:List Str}{scope:Scope}{m:Nat}{fr:List Nat}(k:AZ X N scope m fr){pins:List (Addr×Obj)}{σ:L2.St}{H:Hp}{s:ax}(I:Inv X pins σ H s):closureFor scope X.env=pure (gw X.env scope.names []) :=
 Bw fun y hy hf=>I.ok.has _ (.inl (k.free y hy hf))
theorem MW(hc:X.calm=true)(k:AZ X N scope m fr)(hi:NV X tg iter wi)(hg:∀ C s H fp,NW (eB X N scope C s H fp) tg g)(WS:∀ C s H fp,Xl (eB X N scope C s H fp) ifs c)(he:∀ C s H fp,fW (eB X N scope C s H fp) elt te)
  (hs:autoParam (∀ x,oH iter X.env x=pure x) Ai._auto_1):fW X (.ListComp elt [⟨tg,iter,ifs,0⟩] scope pos) (fT m fr wi g c te):=by
 intro E pins s σ H τ G Q hE I h;rw [eval_ListComp];refine wpAny_comprehension_free (use:=none) rfl hs (k.closed I.inv) k.kind k.names (gH (hi E pins s σ H τ G _ hE I h) fun xv fC qJ=>gH qJ fun U7 kq Jv=>?_);obtain⟨it,fp,tn,J,H2,G2,ds,ok,e,mr,m2,T,R9,f2,wk,hz,q⟩:=Jv;subst e;refine CA (Rr:=fun acc C=>compPost (model X.prog X.w) X.A X.xe none (su X pins σ H G Q) acc C) hc k.cell k.kind k.free k.len k.at' hg WS he (I.mv mr m2) m2 T R9 f2 wk hz (fun _ _ z=>z) q ?_;rintro C s' ⟨mm,H',G',I',Nr,fpC,mv,q'⟩;refine⟨mm,Nr,fun h' Gy=>?_⟩;obtain⟨f0,f1,_,f3,f4,f5⟩:=fpC;exact⟨.ref _,H',.ref _,G',I'.turned (t':=s'.toks) (fun b o hb e=>Gy.extBut b o hb e) f0 f1 f3 f4 f5,mv,rfl,.ref _,q'⟩
theorem Ft{i:Nat}{y:Str}{py O2:Pos}(hN:X.N.Nodup)(hyi:X.N[i]?=some y)(hy:X.env.scope.names.lookup y=some .local)(hc:X.calm=true)(k:AZ X N scope m fr)(hi:NV X tg iter wi)(hg:∀ C s H fp,NW (eB X N scope C s H fp) tg g)
  (WS:∀ C s H fp,Xl (eB X N scope C s H fp) ifs c) (he:∀ C s H fp,fW (eB X N scope C s H fp) elt te) (hsw:autoParam (EH (.ListComp elt [⟨tg,iter,ifs,0⟩] scope pos) (some (.Name y py)) O2.line X.env=pure true) Ar._auto_1)
  (hs:autoParam (∀ x,oH iter X.env x=pure x) Ai._auto_1):EE X (.Assign [.Name y py] (.ListComp elt [⟨tg,iter,ifs,0⟩] scope pos) O2) (bM (fT m fr wi g c te) (aH i)):=by
 intro E pins s σ H τ G D hE I h;rw [exec_Assign_Name_used _ _ _ _ hsw];refine ag (EG (ag ?_));show wpAny _ X.A (do let _ ← comprehension (.ListComp elt [⟨tg,iter,ifs,0⟩] scope pos) scope X.env _ (newList []) false (eval iter X.env) (some (Kn (.Name y py) X.env))) _ _ s;refine ag (gH (wpAny_comprehension_free (use:=some (Kn (.Name y py) X.env)) (Q:=fun _ s'=>Ux X pins H G D .next s') rfl hs (k.closed I.inv) k.kind k.names (gH (hi E pins s σ H τ G _ hE I h) fun xv fC qJ=>gH qJ fun U7 kq Jv=>?_)) fun _ s' hq=>ay (ay hq));obtain⟨it,fp,tn,J,H2,G2,ds,ok,e,mr,m2,T,R9,f2,wk,hz,q⟩:=Jv;subst e;refine CA (Rr:=fun acc C=>compPost (model X.prog X.w) X.A X.xe (some (Kn (.Name y py) X.env)) (fun _ s'=>Ux X pins H G D .next s') acc C) hc k.cell k.kind k.free k.len k.at' hg WS he (I.mv mr m2) m2 T R9 f2 wk hz (fun _ _ z=>z) q ?_;rintro C s' ⟨mm,H',G',I',Nr,fpC,mv,q'⟩;show wpAny (model X.prog X.w) X.A (Kn (.Name y py) X.env (.ref kq.heap.objs.size)) _ X.xe s';obtain⟨f0,f1,_,f3,f4,f5⟩:=fpC;refine wpAny_assign_Name (wj (v:=.ref kq.heap.objs.size) I' hN hyi (.inl hy) rfl (?_) (.inr hy));rintro s3 I3 ⟨a,hsb,ha⟩;have hCa:C≠a:=by
  rcases ha with rfl | ha
  ·exact f1
  ·exact fun e=>f4 y a ha e.symm
 refine⟨mm,Nr.sameBut hsb hCa,fun h' Gy=>?_⟩;exact⟨_,H',_,G',⟨I3.turned (t':=s3.toks) (fun b o hb e=>Gy.extBut b o hb e) f0 f1 f3 f4 f5,(I.st.mono (mv.kp I.ab)).set i (.ref _),mv.ab⟩,mv,q'⟩
theorem bX{i:Nat}{u:En}{n:Nat}(h:∀ E ds τ G Q,u E ds τ G Q->ds.length=n):∀ E ds τ G Q,cY (aH i) u E ds τ G Q->ds.length=n+1 :=
 Ny h (fun _ _ _ _ _ _ q k=>k _ _ q) fun _ _ _ _ q=>q
theorem br (i:Nat) {x:Str} {pos:Pos} (hN:autoParam (X.N[i]?=some x) Ar._auto_1) (hv:autoParam (Vis X.env.scope x) Ao._auto_1) (hd:autoParam ((x == ("__debug__" : Str))=false) Ad._auto_1)
  (HX:autoParam ((x == ("__classdict__" : Str))=false) Ad._auto_1):fW X (.Name x pos) (av i):=Ti hN hv hd HX
theorem Jp{pins:List (Addr×Obj)}{s:ax}{σ:L2.St}{H:Hp}{G:Gp}{x:V}{d:D}{v:Value}{zs:List D}(I:Inv X pins σ H s)(ab:kc X.K H G)(rx:RelV x v)(rd:bV X.K H x d)(hi:itemsOf d G=some zs) :
  ∃ l vs bH,v=.ref l/\Vals vs bH/\aU X.K H vs zs/\(s.heap.IsList l bH.toArray\/s.heap.IsTuple l bH.toArray)/\vs.length<=aX:=by
 cases rd with
 | cW hq rs =>
  cases hi;cases rx;obtain⟨bH,rv,pl,hz⟩:=I.list hq.sq;exact⟨_,_,bH,rfl,rv,rs,.inl pl.isList,hz⟩
 | tup hq rs =>
  cases hi;cases rx;obtain⟨bH,rv,pl,hz⟩:=I.tuple (.of hq);exact⟨_,_,bH,rfl,rv,rs,.inr pl,hz⟩
 | ref l =>
  unfold itemsOf at hi;dsimp only at hi;cases hg:G l with
  | none=>rw [hg] at hi; cases hi
  | some gg =>
   rw [hg] at hi;cases gg with
   | lst ds =>
    cases hi;cases rx;obtain⟨vs,hv,rs⟩:=ab.lst hg;obtain⟨bH,rv,pl,hz⟩:=I.list (.of hv);exact⟨_,_,bH,rfl,rv,rs,.inl pl.isList,hz⟩
   | ins _ _=>cases hi
   | qL _=>cases hi
   | gK _=>cases hi
 | _=>cases hi
theorem Py{body:List Stmt}{t2:hU}(h:tG X body t2){E:lP}(hE:Lk X E):XI X body (fun D σ H=>∃ (τ:iD) (G:Gp) (D2:nQ),Ob X.K H σ τ/\kc X.K H G/\t2 E D2 τ G /\
  (∀ jY H' oU G',Mv X.K H G H' G'->D2.nx oU G'->D.nx jY H')/\(∀ v H' d G',Mv X.K H G H' G'->bV X.K H' v d->D2.rt d G'->D.rt v H')/\(∀ τ G,¬ D2.bk τ G)/\(∀ τ G,¬ D2.ct τ G)):=by
 rintro pins s σ H D I ⟨τ,G,D2,st,ab,q,k1,k2,k3,k4⟩;refine gH (h E pins s σ H τ G D2 hE ⟨I,st,ab⟩ q) fun f s1 z=>?_;cases f with
 | next=>obtain⟨jY,H',oU,G',J,mv,z⟩:=z; exact⟨jY,H',J.inv,k1 jY H' oU G' mv z⟩
 | brk=>obtain⟨jY,H',oU,G',J,mv,z⟩:=z; exact(k3 _ _ z).elim
 | cont=>obtain⟨jY,H',oU,G',J,mv,z⟩:=z; exact(k4 _ _ z).elim
 | ret u=>obtain⟨v,jY,H',d,G',J,mv,r,rd,z⟩:=z; exact⟨v,jY,H',J,r,k2 v H' d G' mv rd z⟩
theorem E5{K:ai}{H:Hp}{Nn:List Str}{vs:List V}{ds:List D}(r:aU K H vs ds):Ob K H (L2.start Nn vs) (bo Nn.length ds):=by
 unfold L2.start bo;refine⟨by simp [r.length],fun i d h=>?_⟩;by_cases hi:i < ds.length
 ·rw [cb (by simpa using hi),aO] at h;cases hd:ds[i]? with
  | none=>rw [hd] at h; cases h
  | some d' =>
   rw [hd] at h;have e:d'=d:=by simpa using h
   subst e;obtain⟨v,h1,h2⟩:=r.get hd;refine⟨v,?_,h2⟩;rw [cb (by simpa [r.length] using hi),aO,h1]; rfl
 ·rw [bS (by simpa using hi),lX] at h;split at h <;> cases h
theorem LD{P:bI}{w:World}{K:ai}{mg:Str->Option Value}{base:Heap}{x qual:Str}{st:Stmt}{f:Addr}{fd:fx}{Nn ps:List Str}{k:Nat}{sp:jU}{rd:hU}(F:Sj K x qual st f fd)(S:lF Nn ps (bN st))(len:∀ ds G Q E,sp ds G Q E->ds.length=ps.length)
  (hr:∀ ds G Q,sp ds G Q (fun _ _=>False)->rd (fun _ _=>False) (ends Q) (bo Nn.length ds) G)
  (hb:∀ (kT:Value) (A:cS) (outer:List Env) (s:ax) (H:Hp) (E:XK),kO k (A.deeper (xb qual (bN st) s.heap.objs.size f kT))->tG (vM Kl P w K mg base Nn qual (bN st) f kT A outer s H E).Ws (gC st) rd):tK P w K mg base Kl (k+1) f fd ps (Bi K sp):=by
 refine F.ok S ((by rintro vs H Q E ⟨ds,G,Q2,r,ab,q,_⟩; exact by rw [r.length]; exact len _ _ _ _ q)) ?_;rintro kT A outer s H vs Q E QG ⟨ds,G,Q2,r,ab,q,kk⟩;refine⟨_,Py (hb kT A outer s H E QG) (E:=fun _ _=>False) (Lk.none fun _ _ z=>z),?_⟩;exact⟨bo Nn.length ds,G,ends Q2,E5 r,ab,hr ds G Q2 q,fun jY H' oU G' mv z=>kk _ _ _ _ z mv .eN,fun v H' d G' mv Yd z=>kk _ _ _ _ z mv Yd,fun _ _ z=>z,fun _ _ z=>z⟩
section
variable {prog:bI} {w:World} {A:cS} {R:Result->ax->Prop} {It0:Addr} {fq wr:List Addr} {n:Nat} {P:Nat->Value->Prop} {Sx:Nat->Heap->Prop}
theorem Ww(W:Walks prog w A.in1 It0 fq wr n P Sx)(bt:Nat->Nat->Bool)(T:Heap->Prop)(B:Addr)(hB:B∉fq)(hT:∀ h h',T h->(∀ b o,b∉wr->b≠B->h.get? b=some o->h'.get? b=some o)->T h')
  (cmp:∀ i j x y s (Q:Value->ax->Prop) (E:Value->ax->Prop),T s.heap->P i x->P j y->Q (.bool (bt i j)) s->wpAny (model prog w) A.in1 (qX .Lt x y) Q E s) :
  ∀ (k j:Nat) (s:ax) (best:Value) (cc:Nat),n - (j+1)=k->j+1<=n->Sx (j+1) s.heap->T s.heap->P (qZ bt j) best ->
  s.heap.get? B=some { cls:=.type "list",dict:=none,data:=.seq #[best,best] cc,slots:=#[] } ->
  (∀ v h' tk,P (qZ bt (n - 1)) v->(∀ b o,b∉wr->b≠B->s.heap.get? b=some o->h'.get? b=some o)->R (.ok (.ret v)) { s with heap:=h',toks:=tk }) ->
  yS (model prog w) A (.builtin "min.loop" ⟨[.ref It0,.none,.ref B],[]⟩) R s:=by
 have hBw:B∉wr:=fun z=>hB (W.sub _ z);have nm:(toString "min"++toString ".loop" : String) = "min.loop":=by decide
 intro k;induction k with
 | zero =>
  intro j s best cc hk hj hs ht hp hb hR;have ej:j+1=n:=by lia
  refine nj Iu ?_; rw [j5 jv _];show wpAny _ A.in1 (seqItems? (.ref B) >>= _) _ _ s; refine ag (oS hb rfl ?_);show wpAny _ A.in1 (tryCatch (xa (.ref It0)) _ >>= _) _ _ s; refine ag (BF (W.done s _ _ (ej ▸ hs) fun h' tk kept=>?_));have Bo:=kept B _ hBw hb;show wpAny _ A.in1 (updateSeq B (fun _=>#[]) >>= _) _ _ _; refine ag ?_;refine qT Bo rfl (ag (qU (ay ?_)));exact hR best _ tk (by rw [<-ej]; exact hp) fun b o z1 z2 e=>(cR _ _ (eD z2)).trans (kept b o z1 e)
 | succ k ih =>
  intro j s best cc hk hj hs ht hp hb hR;have lt:j+1 < n:=by lia
  refine nj Iu ?_; rw [j5 jv _];show wpAny _ A.in1 (seqItems? (.ref B) >>= _) _ _ s; refine ag (oS hb rfl ?_);show wpAny _ A.in1 (tryCatch (xa (.ref It0)) _ >>= _) _ _ s; refine ag (BF (W.item (j+1) s _ _ lt hs fun v h' tk pv Bh kept=>?_));have Bo:=kept B _ hBw hb;have XA:T h':=hT _ _ ht fun b o z1 _ e=>kept b o z1 e;show wpAny _ A.in1 (tryCatch (CO [v,v] (qX .Lt v best >>= _)) _ >>= _) _ _ _;refine ag (BF (cN (ag (cmp (j+1) (qZ bt j) v best _ _ _ XA pv hp ?_)))); refine ag (cN (iY ?_)); refine ag (qU (ay ?_));cases hbt:bt (j+1) (qZ bt j) with
  | true =>
   simp only [if_true]; refine ag ?_;refine qT Bo rfl (ag (qU ?_)); rw [nm];refine ay ⟨ni jv _,ih (j+1) _ v _ (by lia) lt (W.frame _ _ _ Bh fun b z o e=>?_) (hT _ _ XA fun b o _ z2 e=>?_) (by simp only [qZ,hbt,if_true]; exact pv) (hX _ Bo rfl) fun v' Zl OT Yk kk=>?_⟩
   ·exact(cR _ _ (fun z':B=b=>hB (by rw [z']; exact z))).trans e
   ·exact(cR _ _ (eD z2)).trans e
   ·exact hR v' Zl OT Yk fun b o z1 z2 e=>kk b o z1 z2 ((cR _ _ (eD z2)).trans (kept b o z1 e))
  | false =>
   simp only [aj,if_false]; refine ag (qU ?_); rw [nm];refine ay ⟨ni jv _,ih (j+1) _ best cc (by lia) lt Bh XA (by simp only [qZ,hbt,aj,if_false]; exact hp) Bo fun v' Zl OT Yk kk=>?_⟩;exact hR v' Zl OT Yk fun b o z1 z2 e=>kk b o z1 z2 (kept b o z1 e)
end
theorem FU{prog:bI}{w:World}{A:cS}{E:Value->ax->Prop}{s:ax}{x:Value}{Q:Value->ax->Prop}
  (h:wpAny (model prog w) A.in1 (EJ x) (fun it kq=>∃ (I:Addr) (fq wr:List Addr) (n:Nat) (P:Nat->Value->Prop) (Sx:Nat->Heap->Prop) (bt:Nat->Nat->Bool) (T:Heap->Prop),it=.ref I/\Walks prog w A.in1 I fq wr n P Sx/\Sx 0 kq.heap/\(∀ b∈fq,b < kq.heap.objs.size)/\0 < n/\T kq.heap/\(∀ (h h':Heap) (B:Addr),kq.heap.objs.size<=B->T h->(∀ b o,b∉wr->b≠B->h.get? b=some o->h'.get? b=some o)->T h') /\
   (∀ i j x y s (Q:Value->ax->Prop) (E:Value->ax->Prop),T s.heap->P i x->P j y->Q (.bool (bt i j)) s->wpAny (model prog w) A.in1 (qX .Lt x y) Q E s) /\
   ∀ v h' tk,P (qZ bt (n - 1)) v->(∀ b o,b∉wr->kq.heap.get? b=some o->h'.get? b=some o)->Q v { kq with heap:=h',toks:=tk }) E s) :
  wpAny (model prog w) A (call (.builtin "min") [x]) Q E s:=by
 have nm:(toString "min"++toString ".loop" : String) = "min.loop":=by decide
 refine call_function_tree F.kind_min F.plain_min F.entry_min (F.args_min1 _) ?_;show wpAny _ A.in1 (v7 "min" ["key","default"] 0 ⟨[],[]⟩ >>= _) _ _ s; refine ag (wpAny_of_eq (show v7 "min" ["key","default"] 0 ⟨[],[]⟩=pure [none,none] from rfl) ?_);refine ag (ay ?_); refine ag (oG h (fun it kq Jv=>?_) fun _ _ e=>e);obtain⟨I,fq,wr,n,P,Sx,bt,T,rfl,W,Jw,Y9,hn,ht,hT,cmp,hQ⟩:=Jv;refine ag (dc ?_);have Zj:kq.heap.objs.size∉fq:=fun z=>ib _ (Y9 _ z);have hSw:kq.heap.objs.size∉wr:=fun z=>Zj (W.sub _ z);rw [nm];generalize hh:kq.heap.push { cls:=.type "list",data:=.seq ([]:List Value).toArray } = hp;have hb:hp.get? kq.heap.objs.size=some { cls:=.type "list",dict:=none,data:=.seq #[] 0,slots:=#[] }:=by rw [<-hh]; exact a9 _ rfl
 have old:∀ b o,kq.heap.get? b=some o->hp.get? b=some o:=fun b o e=>by rw [<-hh]; exact aA _ e
 have VW:Sx 0 hp:=W.frame _ _ _ Jw fun b _ o e=>old b o e;have ht0:T hp:=hT _ _ _ (aC _) ht fun b o _ _ e=>old b o e;refine ay ⟨ni jv _,?_⟩;refine nj Iu ?_; rw [j5 jv _];show wpAny _ A.in1 (seqItems? (.ref kq.heap.objs.size) >>= _) _ _ _; refine ag (oS hb rfl ?_);show wpAny _ A.in1 (tryCatch (xa (.ref I)) _ >>= _) _ _ _; refine ag (BF (W.item 0 _ _ _ hn VW fun v h' tk pv Bh kept=>?_));have Bo:=kept _ _ hSw hb;show wpAny _ A.in1 (updateSeq kq.heap.objs.size (fun _=>#[v,v]) >>= _) _ _ _; refine ag ?_;refine qT Bo rfl ?_; rw [nm];refine ay ⟨ni jv _,Ww W bt T _ Zj (fun h h'=>hT h h' _ (aC _)) cmp _ 0 _ v _ rfl hn (W.frame _ _ _ Bh fun b z o e=>?_) (hT _ _ _ (aC _) (hT _ _ _ (aC _) ht0 fun b o z1 _ e=>kept b o z1 e) fun b o _ z2 e=>?_) pv (hX _ Bo rfl) fun v' Zl OT Yk kk=>?_⟩
 ·exact(cR _ _ (fun z':kq.heap.objs.size=b=>Zj (by rw [z']; exact z))).trans e
 ·exact(cR _ _ (eD z2)).trans e
 ·refine hQ v' Zl OT Yk fun b o z1 e=>?_;have nb:b≠kq.heap.objs.size:=bu (aN e);exact kk b o z1 nb ((cR _ _ (eD nb)).trans (kept b o z1 (old b o e)))
theorem Ht{α:Type}(lt:α->α->Bool)(l:List α)(a:α)(f:Nat->α)(hf:∀ i,i < l.length+1->f i=(a :: l).getD i a) :
  f (qZ (fun i j=>lt (f i) (f j)) l.length)=l.foldl (fun m x=>if lt x m=true then x else m) a:=by
 have key:∀ k,k<=l.length->f (qZ (fun i j=>lt (f i) (f j)) k)=(l.take k).foldl (fun m x=>if lt x m=true then x else m) a:=by
  intro k;induction k with
  | zero=>intro _; rw [qZ,hf 0 (by lia)]; rfl
  | succ k ih =>
   intro hk;have ih':=ih (by lia);rw [List.take_succ_eq_append_getElem (by lia),j4,<-ih'];have e:f (k+1)=l[k]:=by
    rw [hf (k+1) (by lia),eE];simp [show k < l.length by lia]
   show f (if lt (f (k+1)) (f (qZ _ k))=true then k+1 else qZ _ k)=(if lt l[k] _=true then l[k] else _);rw [<-e];split <;> rfl
 rw [key l.length (aC _),List.take_length]
theorem NL (hc : X.calm = true) (hu : X.A.units + 64 < cLine) : sx X (.builtin "min") Rv := by
  intro pins s σ H G xs ds us Q I ab rx rd q;unfold Rv at q;split at q
  · rename_i x
    obtain⟨v, rfl, r⟩ := rd.one;obtain⟨u, rfl, ru⟩ := rx.one;have main : ∀ {α : Type} (zs : List α) (a : α) (enc : α -> D) (lt : α -> α -> Bool) (T : Heap -> Prop), itemsOf x G = some ((a :: zs).map enc) -> T s.heap -> (∀ (h h' : Heap) (B : Addr), s.heap.objs.size ≤ B -> T h -> (∀ b o, b < s.heap.objs.size -> b ≠ B -> h.get? b = some o -> h'.get? b = some o) -> T h') ->
        (∀ y z vy vz uy uz (s' : ax) (Q' : Value -> ax -> Prop) (E' : Value -> ax -> Prop), T s'.heap -> bV X.K H vy (enc y) -> RelV vy uy -> bV X.K H vz (enc z) -> RelV vz uz -> Q' (.bool (lt y z)) s' -> wpAny (model X.prog X.w) X.A.in1 (qX .Lt uy uz) Q' E' s') ->
        Q (enc (zs.foldl (fun m x => if lt x m = true then x else m) a)) G -> wpAny (model X.prog X.w) X.A (call (.builtin "min") [u]) (su X pins σ H G Q) X.xe s := by
      intro α zs a enc lt T hi ht hT cmp hq;obtain⟨l, vs, bH, rfl, rv, rs, hl, hz⟩ := Jp I ab ru r hi;have hlen : bH.length = zs.length + 1 := by rw [<-rv.length, rs.length, ao, ak]
      have oW : ∀ {o : Obj}, s.heap.get? l = some o -> l ≠ s.heap.objs.size := fun e => bu (aN e);have at_ : ∀ i uu, bH.toArray[i]? = some uu -> ∃ vv, RelV vv uu ∧ bV X.K H vv (enc ((a :: zs).getD i a)) := fun i uu e => by
        have e' : bH[i]? = some uu := by simpa using e
        have Vj : i < bH.length := (List.getElem?_eq_some_iff.mp e').1;have hd : ((a :: zs).map enc)[i]? = some (enc ((a :: zs).getD i a)) := by
          rw [aO, eE];cases h9 : (a :: zs)[i]? with
          | none => rw [List.getElem?_eq_none_iff] at h9; simp at h9; lia
          | some z => rfl
        obtain⟨vv, h1, h2⟩ := rs.get hd;obtain⟨uu', h3, h4⟩ := rv.get h1;rw [e'] at h3;cases h3;exact⟨vv, h4, h2⟩
      have Zv : ∀ i j p9 q9 s' (Q' : Value -> ax -> Prop) (E' : Value -> ax -> Prop), T s'.heap -> bH.toArray[i]? = some p9 -> bH.toArray[j]? = some q9 -> Q' (.bool (lt ((a :: zs).getD i a) ((a :: zs).getD j a))) s' -> wpAny (model X.prog X.w) X.A.in1 (qX .Lt p9 q9) Q' E' s' := fun i j p9 q9 s' Q' E' t' h1 h2 h3 => by
        obtain⟨v1, r1, d1⟩ := at_ i p9 h1;obtain⟨v2, r2, d2⟩ := at_ j q9 h2;exact cmp _ _ v1 v2 p9 q9 s' Q' E' t' d1 r1 d2 r2 h3
      have fin : ∀ vv h' tk, bH.toArray[qZ (fun i j => lt ((a :: zs).getD i a) ((a :: zs).getD j a)) (bH.toArray.size - 1)]? = some vv -> (∀ b o, b ∉ [s.heap.objs.size] -> s.heap.get? b = some o -> h'.get? b = some o) -> su X pins σ H G Q vv { s with heap := h', toks := tk } := fun vv h' tk e hk => by
        obtain⟨v1, r1, d1⟩ := at_ _ vv e;have es : bH.toArray.size - 1 = zs.length := by rw [aR]; lia
        rw [es, Ht lt zs a (fun i => (a :: zs).getD i a) (fun i _ => rfl)] at d1;exact⟨v1, H, _, G, I.kept fun b o e => hk b o (by simpa using bu (aN e)) e, .refl ab, r1, d1, hq⟩
      have Gz : 0 < bH.toArray.size := by rw [aR]; lia
      have hTp : ∀ (oo : Obj), T (s.heap.push oo) := fun oo => hT _ _ (s.heap.objs.size + 1) (yV _) ht fun b o hb _ e => aA _ e;have hT2 : ∀ (oo : Obj) (h h' : Heap) (B : Addr), (s.heap.push oo).objs.size ≤ B -> T h -> (∀ b o, b ∉ [s.heap.objs.size] -> b ≠ B -> h.get? b = some o -> h'.get? b = some o) -> T h' := fun oo h h' B hB t kk => hT h h' B (by rw [kR] at hB; exact Nat.le_of_succ_le hB) t fun b o hb hn e => kk b o (by simpa using bu hb) hn e;rcases hl with hl | hl
      · refine FU (wpAny_pyIter_list hl ?_)
        obtain⟨o, ho, Nx, n, hd⟩ := id hl;exact⟨s.heap.objs.size, _, _, _, _, _, _, T, rfl, Walks.list (A := X.A.in1) (show X.A.in1.handled = none from I.ok.hd hc) _ l (oW ho) bH.toArray, ⟨⟨_, a9 _ rfl, rfl, rfl⟩, ⟨o, aA _ ho, Nx, n, hd⟩⟩,
          fun b hb => by rcases (by simpa using hb : b = s.heap.objs.size ∨ b = l) with rfl | rfl
                         · rw [kR]; exact uC _
                         · rw [kR]; exact CT (aN ho), Gz, hTp _, hT2 _, Zv, fun vv h' tk e hk => fin vv h' tk e fun b o hb e => hk b o hb (aA _ e)⟩
      · refine FU (wpAny_pyIter_tuple hl ?_)
        obtain⟨o, ho, Nx, n, hd⟩ := id hl;exact⟨s.heap.objs.size, _, _, _, _, _, _, T, rfl, Walks.tuple (A := X.A.in1) (show X.A.in1.handled = none from I.ok.hd hc) _ l (oW ho) bH.toArray, ⟨⟨_, a9 _ rfl, rfl, rfl⟩, ⟨o, aA _ ho, Nx, n, hd⟩⟩,
          fun b hb => by rcases (by simpa using hb : b = s.heap.objs.size ∨ b = l) with rfl | rfl
                         · rw [kR]; exact uC _
                         · rw [kR]; exact CT (aN ho), Gz, hTp _, hT2 _, Zv, fun vv h' tk e hk => fin vv h' tk e fun b o hb e => hk b o hb (aA _ e)⟩
    rcases q with ⟨ns, mm, hi, hm, q⟩ | ⟨Z0, mm, hi, hm, q⟩
    · cases ns with
      | nil => cases hm
      | cons a zs =>
        cases hm;have e : (fun m x : Int => if x < m then x else m) = fun m x => if decide (x < m) = true then x else m := by funext m x; simp
        rw [e] at q;refine main zs a D.int (fun x y => decide (x < y)) (fun _ => True) hi trivial (fun _ _ _ _ _ _ => trivial) (fun y z vy vz uy uz s' Q' E' _ d1 r1 d2 r2 hq => ?_) q;cases d1;cases d2;obtain⟨t1, rfl⟩ := r1;obtain⟨t2, rfl⟩ := r2;exact HT.zr X.A.in1 s' y t1 z t2 X.prog X.w E' Q' hq
    · cases Z0 with
      | nil => cases hm
      | cons a zs =>
        cases hm;have el : ∀ xs ys : List Int, HT.lexLt xs ys = K2.lexLt xs ys := by
          intro xs;induction xs with
          | nil => intro ys; cases ys <;> rfl
          | cons x xs ih => intro ys; cases ys with
            | nil => rfl
            | cons y ys => unfold HT.lexLt K2.lexLt; rw [ih]
        refine main zs a tI K2.lexLt (fun h => ∀ b o, b < s.heap.objs.size -> s.heap.get? b = some o -> h.get? b = some o) hi (fun b o _ e => e) (fun h h' B hB t kk b o hb e => kk b o hb (bu (bJ hb hB)) (t b o hb e)) (fun y z vy vz uy uz s' Q' E' t' d1 r1 d2 r2 hq => ?_) q;cases d1 with
        | tup h1 rs1 =>
          cases d2 with
          | tup h2 HP =>
            cases r1;cases r2;have z1 := rs1.ints;have z2 := HP.ints;subst z1 z2;obtain⟨Qr, Xu, ⟨o1, ho1, hc1, n1, Zd⟩, _⟩ := I.tuple (.of h1);obtain⟨tx, MH, ⟨o2, Ci, DL, n2, hd2⟩, _⟩ := I.tuple (.of h2);have p1 : IsTup s'.heap _ Qr.toArray := ⟨o1, t' _ _ (aN ho1) ho1, hc1, n1, Zd⟩;have p2 : IsTup s'.heap _ tx.toArray := ⟨o2, t' _ _ (aN Ci) Ci, DL, n2, hd2⟩;rw [<-el] at hq;have i1 : me Qr.toArray.toList y := intsAre_of Xu;have i2 : me tx.toArray.toList z := intsAre_of MH;exact(HT.zS p1 p2 i1 i2 (show X.A.units + 1 < cLine by lia) hq : wpAny (model X.prog X.w) X.A.in1 (dQ .Lt _ _) Q' E' s')
  · exact q.elim
def aaI(scope sc:Scope):List (Str×tL):=scope.names.map fun (n,k)=>if (k == .free&&sc.kind == .function&&sc.names.lookup n == some .cell) then (n,.cell) else (n,k)
def yD(N:List Str)(scope:Scope)(m:Nat)(fr:List Nat)(sc:Scope)(XN:List Str):Bool :=
 scope.names.all (fun y=>decide (y.2≠.cell))&&decide (scope.kind=.function)&&scope.names.all (fun y=>!decide (y.2=.local)||decide (scope.names.lookup y.1=some .local)) &&
 scope.names.all (fun y=>!decide (y.2=.free)||decide (sc.names.lookup y.1=some .cell))&&decide (N.length=m+fr.length) &&
 (fc fr.length).all (fun j=>match fr[j]?,N[m+j]? with
  | some i,some x=>decide (XN[i]?=some x)&&decide (sc.names.lookup x=some .cell)&&decide ((aaI scope sc).lookup x=some .cell)
  | _,_=>false)
theorem CB{sc:Scope}{XN:List Str}(YV:X.env.scope=sc)(Zh:X.N=XN)(hb:yD N scope m fr sc XN=true):AZ X N scope m fr:=by
 subst YV Zh;unfold yD at hb;simp only [aI] at hb;obtain⟨⟨⟨⟨⟨h1,h2⟩,h3⟩,h4⟩,h5⟩,h6⟩:=hb;refine⟨fun y hy=>of_decide_eq_true (List.all_eq_true.mp h1 y hy),of_decide_eq_true h2,fun y hy hl=>?_,fun y hy hl=>?_,of_decide_eq_true h5,fun j i x e1 e2=>?_⟩
 ·have:=List.all_eq_true.mp h3 y hy;simp only [hl,decide_true,bq,Oh] at this;exact of_decide_eq_true this
 ·have:=List.all_eq_true.mp h4 y hy;simp only [hl,decide_true,bq,Oh] at this;exact of_decide_eq_true this
 ·have hj:j < fr.length:=(List.getElem?_eq_some_iff.mp e1).1;have:=List.all_eq_true.mp h6 j (List.mem_range.mpr hj);rw [e1,e2] at this;simp only [aI] at this;exact⟨of_decide_eq_true this.1.1,of_decide_eq_true this.1.2,of_decide_eq_true this.2⟩
theorem kG(N:List Str){sc:Scope}{XN:List Str}(hi:NV X tg iter wi)(hg:∀ C s H fp,NW (eB X N scope C s H fp) tg g)(WS:∀ C s H fp,Xl (eB X N scope C s H fp) ifs c)(he:∀ C s H fp,fW (eB X N scope C s H fp) elt te)
  (YV:autoParam (X.env.scope=sc) Ar._auto_1) (Zh:autoParam (X.N=XN) Ar._auto_1) (hb:autoParam (yD N scope m fr sc XN=true) Ak._auto_1) (hc:autoParam (X.calm=true) Ar._auto_1) (hs:autoParam (∀ x,oH iter X.env x=pure x) Ai._auto_1):fW X (.ListComp elt [⟨tg,iter,ifs,0⟩] scope pos) (fT m fr wi g c te) :=
 MW hc (CB YV Zh hb) hi hg WS he hs
theorem rN(N:List Str){sc:Scope}{XN:List Str}{i:Nat}{y:Str}{py O2:Pos}(hN:X.N.Nodup)(hyi:X.N[i]?=some y)(hy:X.env.scope.names.lookup y=some .local)(hi:NV X tg iter wi)(hg:∀ C s H fp,NW (eB X N scope C s H fp) tg g)
  (WS:∀ C s H fp,Xl (eB X N scope C s H fp) ifs c) (he:∀ C s H fp,fW (eB X N scope C s H fp) elt te) (YV:autoParam (X.env.scope=sc) Ar._auto_1) (Zh:autoParam (X.N=XN) Ar._auto_1) (hb:autoParam (yD N scope m fr sc XN=true) Ak._auto_1) (hc:autoParam (X.calm=true) Ar._auto_1)
  (hsw:autoParam (EH (.ListComp elt [⟨tg,iter,ifs,0⟩] scope pos) (some (.Name y py)) O2.line X.env=pure true) Ar._auto_1) (hs:autoParam (∀ x,oH iter X.env x=pure x) Ai._auto_1) :
  EE X (.Assign [.Name y py] (.ListComp elt [⟨tg,iter,ifs,0⟩] scope pos) O2) (bM (fT m fr wi g c te) (aH i)) :=
 Ft hN hyi hy hc (CB YV Zh hb) hi hg WS he hsw hs
theorem Nb{K:ai}{H:Hp}{a:Addr}{ns:List Int}(hO:UC H)(hS:pF K H a (ns.map V.int))(hl:ns.length<=63):Bi K BM [.ref a] H (fun v _=>v=.bl true) fun _ _ _=>False:=by
 have hF:XH K H a (ns.map V.int):=by
  rcases hS with (h | ⟨o,h⟩) | h
  ·rcases hO a with z | ⟨o,xs,z⟩
   ·rw [z] at h; cases h
   ·rw [z] at h; cases h
  ·exact .inl ⟨o,h⟩
  ·exact .inr h
 refine⟨[.cW (ns.map D.int)],fun _=>none,fun d _=>d=.bl true,.cons (.cW hF (aU.Le ns)) .nil,fun a g e=>(by cases e),⟨ns,rfl,hl,fun _=>rfl,fun _=>rfl⟩,fun d G' v H' e mv r=>?_⟩;subst e;cases r;rfl
theorem Qd{l:CP}{q:bI}{loose:List Str}{XP:(Str->Option Value)->Heap->Prop}{YP:World->Heap->Prop}{d:DefRec}{K:Params->ai}{k:Nat}{x:Str}(hn:l.most=some 63)(Zb:d.params.defaults=[])(hr:kO k Ih)
  (hY:∀ (w:World) (h:Heap),YP w h->(K w.params).In h)
  (F:∀ (w:World) (mg:Str->Option Value) (fa:Addr) (h:Heap),(K w.params).In h->h.Ns bQ mg->mg d.name=some (.ref fa) ->
   ∃ fd:fx,(∀ (s:ax) (u:Value),BindsTo s fd ⟨[u],[]⟩ [(x,u)])/\∀ base:Heap,(K w.params).In base->base.Ns bQ mg->tK l.prog w (K w.params) mg base Kl k fa fd [x] (Bi (K w.params) BM)) :
  PySem.W.WalkO q loose XP YP l.row.toRowW d [] (fun f vs=>Kq f vs) :=
 L2.SH (n:=63) (k:=k) (x:=x) (CX:=fun _=>Kl) (sp:=fun w=>Bi (K w.params) BM) hn (by decide) Zb hr hY F (fun _ _ _ _ hl hO hS=>Nb hO hS hl) fun _ _ _ _ _ z=>z
end
def D6:HO->Bool
 | .lst _=>true
 | .dK _=>true
 | .dT _=>true
 | .ext _=>true
 | _=>false
def mj(h:Heap)(S:Addr->Bool)(H:Hp):Hp:=fun a=>match H a with
 | some u=>if (D6 u&&S a)=true then (match h.get? a with
  | some o=>some (.iC o u)
  | none=>some u) else some u
 | none=>none
section
variable {h:Heap} {S:Addr->Bool} {H:Hp} {a:Addr}
theorem JC(n:∀ u,H a=some u->D6 u=false):mj h S H a=H a:=by
 unfold mj;cases e:H a with
 | none=>rfl
 | some u=>simp only [n u e,qR,aj,if_false]
theorem vE(hs:S a=false):mj h S H a=H a:=by
 unfold mj;cases e:H a with
 | none=>rfl
 | some u=>simp only [hs,Kx,aj,if_false]
theorem qf{u:HO}{o:Obj}(hs:S a=true)(e:H a=some u)(hu:D6 u=true)(ho:h.get? a=some o):mj h S H a=some (.iC o u):=by
 unfold mj;simp only [e,hs,hu,Bool.and_self,if_true,ho]
theorem pC(e:H a=none):mj h S H a=none:=by unfold mj; rw [e]
theorem mM{u:HO}(e:H a=some u)(hu:D6 u=false):mj h S H a=some u:=by rw [JC (fun v z=>by rw [e] at z; cases z; exact hu)]; exact e
theorem sP:Kp H (mj h S H):=⟨fun a xs e=>mM e rfl,fun a o u e=>mM e rfl⟩
end
section
variable {X:Cx} {pins:List (Addr×Obj)} {σ:L2.St} {H:Hp} {s:ax} {G:Gp}
theorem Inv.freeze(I : Inv X pins σ H s)(S : Addr -> Bool) : Inv X pins σ (mj s.heap S H) s where
  ok := I.ok
  os := I.os
  bare := I.bare
  base := { keep := I.base.keep, slot := I.base.slot, there := I.base.there
            free := fun b o q n hx => pC (I.base.free b o q n hx)
            qH := fun b xs q => mM (I.base.qH b xs q) rfl
            qe := fun b o u q => mM (I.base.qe b o u q) rfl
            tm := fun b ps q => mM (I.base.tm b ps q) rfl
            tu := fun b x q => mM (I.base.tu b x q) rfl }
  loc := I.loc
  cell := I.cell
  free := pC I.free
  jf := fun x c e => pC (I.jf x c e)
  pin := fun p hp => let ⟨h1, h2, h3⟩ := I.pin p hp; ⟨h1, pC h2, h3⟩
  b7 := fun a o q => by
    have st : ∀ u, H a = some u -> fk X.prog X.w (mj s.heap S H) s.heap a u := fun u e =>
      (I.b7 a u e).jl (fun b v _ r => r) (fun b r => mM r rfl) (fun b xs r => mM r rfl)
    cases e : H a with
    | none => rw [pC e] at q; cases q
    | some u =>
      by_cases hc : D6 u = true
      · by_cases hs : S a = true
        · obtain⟨ob, ho⟩ := j8 (I.b7 a _ e)
          rw [qf hs e hc ho] at q;cases q;exact⟨ho, st _ e⟩
        · rw [vE (by simpa using hs), e] at q
          cases q;exact st _ e
      · rw [mM e (by simpa using hc)] at q
        cases q;exact st _ e
  len := I.len
def iH(R:Nat->Bool)(G:Gp):Addr->Bool:=fun a=>R a&&(G a).isSome
theorem Cp(I:Inv X pins σ H s)(ab:kc X.K H G)(R:Nat->Bool):Mv X.K H G (mj s.heap (iH R G) H) (Bv R G) where
 keep:=fun a o e n=>by
  refine⟨by rw [vE (by simp [iH,n])]; exact e,?_⟩;unfold Bv; split
  ·rfl
  ·exact n
 jl:=fun a n=>by
  cases q:G a with
  | none=>exact absurd q n
  | some g =>
   have t:=(ab a g q).tracked;cases e:H a with
   | none=>exact absurd e t
   | some u =>
    unfold mj;rw [e];dsimp only;split
    ·split <;> simp
    ·simp
 ab:=fun a g e=>by
  unfold Bv at e;split at e
  ·cases e
  ·rename_i hr;exact(ab a g e).mono sP (vE (by simp [iH,hr]))
theorem JA(I:Inv X pins σ H s)(ab:kc X.K H G){R:Nat->Bool}:∀ {d t:D} {v:V},Fz G R d t->bV X.K H v d->bV X.K (mj s.heap (iH R G) H) v t:=by
 intro d t v h;revert v;refine Fz.rec (motive_1:=fun d t _=>∀ {v:V},bV X.K H v d->bV X.K (mj s.heap (iH R G) H) v t)
  (motive_2:=fun ds ts _=>∀ {vs:List V},aU X.K H vs ds->aU X.K (mj s.heap (iH R G) H) vs ts)
  (motive_3:=fun ds ts _=>(∀ {vs:List (Key×V)},lQ X.K H vs ds->lQ X.K (mj s.heap (iH R G) H) vs ts)/\∀ {vs:List (List Key×V)},mD X.K H vs ds->mD X.K (mj s.heap (iH R G) H) vs ts)
  ?_ ?_ ?_ ?_ ?_ ?_ ?_ ?_ ?_ ?_ h
 ·intro d v r; exact r.mono sP
 ·intro ds ss _ ih v r;cases r with
  | tup h rs=>exact .tup (sP.tup _ _ h) (ih rs)
 ·intro ds ss _ ih v r;cases r with
  | cW h rs=>exact .cW (sP.VX h) (ih rs)
 ·intro a ds ss g hr _ ih v r;cases r;obtain⟨vs,hv,rs⟩:=ab a _ g;obtain⟨ob,ho⟩:=j8 (I.b7 a _ hv);exact .cW (.inl ⟨_,qf (by simp [iH,hr,g]) hv rfl ho⟩) (ih rs)
 ·intro a ds ss g hr _ ih v r;cases r;rcases ab a _ g with ⟨kv,hv,rs⟩ | ⟨kv,hv,rs⟩
  ·obtain⟨ob,ho⟩:=j8 (I.b7 a _ hv);exact .nY (qf (by simp [iH,hr,g]) hv rfl ho) (ih.1 rs)
  ·obtain⟨ob,ho⟩:=j8 (I.b7 a _ hv);exact .nX (qf (by simp [iH,hr,g]) hv rfl ho) (ih.2 rs)
 ·intro a kvs U4 g hr _ ek ih v r;cases r;obtain⟨xs,ks,vs,hv,rel,r1,r2⟩:=ab a _ g;obtain⟨ob,ho⟩:=j8 (I.b7 a _ hv);have e2:(U4.map fun p=>qu p.1)=kvs.map fun p=>qu p.1:=by
   have:=congrArg (List.map qu) ek;rw [aS,aS] at this;exact this.symm
  exact .oV (qf (by simp [iH,hr,g]) hv rfl ho) ⟨ek.symm.trans rel.1,rel.2⟩ (by rw [e2]; exact r1.mono sP) (ih r2)
 ·intro vs r; cases r; exact .nil
 ·intro d s ds ss _ _ i1 i2 vs r;cases r with
  | cons r rs=>exact .cons (i1 r) (i2 rs)
 ·exact⟨fun r=>by cases r; exact .nil,fun r=>by cases r; exact .nil⟩
 ·intro k d s ds ss _ _ i1 i2;exact⟨fun r=>by cases r with | cons r rs=>exact .cons (i1 r) (i2.1 rs),fun r=>by cases r with | cons r rs=>exact .cons (i1 r) (i2.2 rs)⟩
variable {e:Expr} {te:fV} {st:Stmt} {t:hU}
theorem aW(he:fW X e te):fW X e (cO te):=by
 intro E pins s σ H τ G Q hE I h;refine gH (he E pins s σ H τ G _ hE I h) ?_;rintro u s1 ⟨v,H1,d,G1,I1,m,r,rd,R,t,hf,q⟩;exact⟨v,_,t,_,Inv.freeze I1 _,m.trans (Cp I1 m.ab R),r,JA I1 m.ab hf rd,q⟩
theorem yq{i:Nat}(h1:EE X st t):EE X st (Ha i t):=by
 intro E pins s σ H τ G D hE I h;refine gH (h1 E pins s σ H τ G _ hE I h) fun f s1 z=>?_;cases f with
 | next =>
  obtain⟨jY,H',oU,G',I',m,q⟩:=z;simp only at q;split at q
  ·rename_i d hd;obtain⟨R,t,hf,q⟩:=q;obtain⟨v,hv,rv⟩:=I'.st.at' i d hd;have a1:=(I'.st.mono (H':=mj s1.heap (iH R G') H') sP).set i (JA I'.inv I'.ab hf rv);have es:jY.set i (some v)=jY:=by
    have hi:i < jY.length:=(List.getElem?_eq_some_iff.mp hv).1;have e2:=(List.getElem?_eq_some_iff.mp hv).2;rw [<-e2]; exact R1 hi
   rw [es] at a1;have m2:=Cp I'.inv I'.ab R;exact⟨jY,_,_,_,⟨Inv.freeze I'.inv _,a1,m2.ab⟩,m.trans m2,q⟩
  ·exact q.elim
 | ret v=>exact z
 | brk=>exact z
 | cont=>exact z
end
theorem rZ:ez "len" = some (.builtin "len"):=by decide +kernel
theorem Xf:ez "min" = some (.builtin "min"):=by decide +kernel
theorem CD:ez "sorted" = some (.builtin "sorted"):=by decide +kernel
theorem Ed:ez "list" = some (.type "list"):=by decide +kernel
theorem RB:ez "tuple" = some (.type "tuple"):=by decide +kernel
theorem Ef:ez "dict" = some (.type "dict"):=by decide +kernel
theorem Xg:ez "int" = some (.type "int"):=by decide +kernel
theorem Ur:ez "bool" = some (.type "bool"):=by decide +kernel
end K2
end
section
namespace L2
open PySem PySem.Spec PyProof.Rows
section
variable {X:Cx} {pins:List (Addr×Obj)} {σ:St} {H:Hp} {s:ax} {h':Heap}
theorem Inv.sC{t':Nat}{fp:List Addr}(I:Inv X pins σ H s)(hf:∀ b∈fp,oi X pins H b)(k:∀ b o,b∉fp->s.heap.get? b=some o->h'.get? b=some o):Inv X pins σ H { s with heap:=h',toks:=t' }:=by
 have nt:∀ b u,H b=some u->b∉fp:=fun b u e z=>by rw [(hf b z).1] at e; cases e
 refine I.step (g':=s.gens) (d':=s.drawn) (ch:=fp) (fun b hb=>?_) (fun b o _ _ hc e _=>k b o hc e) (fun b o _ _ hc e _=>⟨o.slots,k b o hc e⟩) (fun _ _ _ _ n=>n)
  (fun b o hc e=>⟨o,k b o hc e⟩) (fun _ _ e=>e) (fun _ _ _ e=>e) (fun _ _ e=>e) (fun _ _ e=>e) (fun m hm=>?_) (fun b u e=>?_) I.bare
 ·obtain⟨f0,f1,f2,f3,f4,f5⟩:=hf b hb;exact⟨f3,f1,f4,f5⟩
 ·obtain⟨o,es,ep,ho,r⟩:=hm;exact⟨o,es,ep,k _ _ (fun z=>(hf _ z).2.1 rfl) ho,r⟩
 ·refine(I.b7 b u e).jl (fun c v hc r=>k c v ?_ r) (fun _ z=>z) (fun _ _ z=>z);rcases hc with rfl | hc
  ·exact nt _ _ e
  ·exact nt _ _ hc
theorem Inv.yf{t':Nat}{fp:List Addr}{T:Addr}{vs:List V}(I:Inv X pins σ H s)(hf:∀ b∈fp,oi X pins H b)(k:∀ b o,b∉fp->s.heap.get? b=some o->h'.get? b=some o)(hT:s.heap.objs.size<=T)
  (new:fk X.prog X.w (upd H T (.tup vs)) h' T (.tup vs)):Inv X pins σ (upd H T (.tup vs)) { s with heap:=h',toks:=t' }:=by
 have hn:H T=none:=I.b7.fresh hT;have ht:∀ b o,s.heap.get? b=some o->b≠T:=fun b o e z=>by subst z; exact absurd (aN e) (Nat.not_lt.mpr hT)
 have nt:∀ b u,H b=some u->b∉fp:=fun b u e z=>by rw [(hf b z).1] at e; cases e
 have ne:∀ b u,H b=some u->b≠T:=fun b u e=>d6 e hn;refine I.step (g':=s.gens) (d':=s.drawn) (ch:=fp) (fun b hb=>?_) (fun b o _ _ hc e _=>k b o hc e) (fun b o _ _ hc e _=>⟨o.slots,k b o hc e⟩) (fun b o _ e n=>by rw [bG (ht b o e)]; exact n)
  (fun b o hc e=>⟨o,k b o hc e⟩) (fun b xs e=>by rw [bG (ne _ _ e)]; exact e) (fun b o u e=>by rw [bG (ne _ _ e)]; exact e) (fun b ps e=>by rw [bG (ne _ _ e)]; exact e) (fun b ps e=>by rw [bG (ne _ _ e)]; exact e) (fun m hm=>?_) (fun b u e=>?_) I.bare
 ·obtain⟨f0,f1,f2,f3,f4,f5⟩:=hf b hb;exact⟨f3,f1,f4,f5⟩
 ·obtain⟨o,es,ep,ho,r⟩:=hm;exact⟨o,es,ep,k _ _ (fun z=>(hf _ z).2.1 rfl) ho,r⟩
 ·by_cases hb:b=T
  ·subst hb; rw [bU] at e; cases e; exact new
  ·rw [bG hb] at e;refine(I.b7 b u e).jl (fun c v hc r=>k c v ?_ r) (fun c z=>by rw [bG (ne _ _ z)]; exact z) (fun c xs z=>by rw [bG (ne _ _ z)]; exact z);rcases hc with rfl | hc
   ·exact nt _ _ e
   ·exact nt _ _ hc
theorem oi.upd{b T:Addr}{o:HO}(h:oi X pins H b)(hb:b≠T):oi X pins (L2.upd H T o) b:=by
 obtain⟨f0,r⟩:=h;exact⟨by rw [bG hb]; exact f0,r⟩
end
def Ite(K:ai)(a:Addr):It :=
  ⟨fun i H=>∃ xs x,pF K H a xs/\xs[i]?=some x,
   fun i H v H'=>∃ T y,v=.ref T/\H T=none/\H'=upd H T (.tup [.int i,y])/\∀ xs,pF K H a xs->xs[i]?=some y,
   fun i H=>∃ xs,pF K H a xs/\xs.length<=i⟩
theorem Mx{P:bI}{w:World}{K:ai}{elts:List Expr}{kk:Nat}{pos:Pos}(a e it:Addr)(oW:e≠it) :
  Turn P w K (.Tuple elts kk pos) (Ite K a) [e,it] e (fun i h=>(∃ old,IsEnum h e it i old)/\h.IsListIter it a i) where
 mem:=by simp
 obj:=fun i h Ot b hb=>by
  obtain⟨⟨old,he⟩,hit⟩:=Ot;rcases List.mem_cons.mp hb with rfl | hb
  ·exact⟨_,he,fun v z=>by cases z⟩
  ·have e:b=it:=by simpa using hb
   subst e;obtain⟨o,e,c,d⟩:=hit;exact⟨o,e,fun v z=>by rw [d] at z; cases z⟩
 keep:=(by rintro i h h' ⟨⟨old,he⟩,hit⟩ k; exact⟨⟨old,k e (by simp) _ he⟩,hit.at fun o q=>k it (by simp) o q⟩)
 item:=by
  intro X hP hw hK hc i pins s σ H E I hf st hg;obtain⟨⟨old,he⟩,hit⟩:=st;subst hP hw hK;obtain⟨xs,x,hq,hx⟩:=hg;obtain⟨bH,rv,p,hz⟩:=I.list hq;obtain⟨u,hu,ru⟩:=rv.get hx;have WZ:H s.heap.objs.size=none:=I.b7.fresh (aC _);have heT:e≠s.heap.objs.size:=bu (aN he);have Y6:it≠s.heap.objs.size:=by obtain⟨o,q,_⟩:=hit; exact bu (aN q)
  refine wpAny_pyNext_enum_item he hit p.isList (x:=u) (by simpa using hu) oW fun h' ho abU hT hsz kk=>?_;refine⟨_,rfl,?_⟩;have I1:Inv X pins σ (upd H s.heap.objs.size (.tup [.int i,x])) { s with heap:=h',toks:=s.toks+1 } :=
   I.yf (fp:=[e,it]) hf (fun b o hb q=>kk b o (fun z=>hb (by simp [z])) (fun z=>hb (by simp [z])) q) (aC _)
    ⟨by show 2<=aX; decide,[.int i s.toks,u],.cons ⟨_,rfl⟩ (.cons ru .nil),⟨_,hT,rfl,_,rfl⟩⟩
  refine wpAny_letOwnedTupleGo_enum (s:={ s with heap:=h',toks:=s.toks+1 }) ho fun h2 T5 Cg=>?_;have f1:∀ b∈[e,it],oi X pins (upd H s.heap.objs.size (.tup [.int i,x])) b:=fun b hb=>(hf b hb).upd (by
   rcases List.mem_cons.mp hb with rfl | hb
   ·exact heT
   ·rw [List.mem_singleton.mp hb]; exact Y6)
  have I2:Inv X pins σ (upd H s.heap.objs.size (.tup [.int i,x])) { s with heap:=h2,toks:=s.toks+1 } :=
   Inv.sC (s:={ s with heap:=h',toks:=s.toks+1 }) (t':=s.toks+1) (fp:=[e,it]) I1 f1 fun b o hb q=>(Cg.2 b (fun z=>hb (by simp [z]))).trans q
  refine⟨.ref s.heap.objs.size,_,I2,rfl,⟨_,x,rfl,WZ,rfl,fun ys hy=>by rw [I.vj hy hq]; exact hx⟩,⟨⟨u,?_⟩,?_⟩,fun b hb=>(f1 b hb).1⟩
  ·simpa using T5
  ·exact abU.at fun o q=>(Cg.2 it (eD oW)).trans q
 done:=by
  intro X hP hw hK hc i pins s σ H E I hf st hg;obtain⟨⟨old,he⟩,hit⟩:=st;subst hP hw hK;obtain⟨xs,hq,hx⟩:=hg;obtain⟨bH,rv,p,hz⟩:=I.list hq;have hl:=rv.length;refine wpAny_pyNext_enum_end (I.ok.hd hc) he hit p.isList (by simp; lia) fun h' eb=>⟨rfl,?_⟩;exact I.sC (t':=s.toks) (fp:=[e,it]) hf fun b o hb q=>eb b o (fun z=>hb (by simp [z])) q
 self:=(by rintro A i s Q E ⟨⟨old,he⟩,_⟩ h; exact wpAny_pyIter_enum he h)
end L2
namespace K2
open PySem PySem.Spec PyProof.Rows L2
section
variable {X:Cx} {elts:List Expr} {kk:Nat} {Bg:Pos} {a b:Expr} {ta tb:fV} {pos p:Pos}
theorem LN{pins:List (Addr×Obj)}{σ:L2.St}{H H1:Hp}{G G1:Gp}{s1:ax}{l:Addr}{vs:List V}{ds:List D}{ok:Gp->Prop}{R:List D->(Gp->Prop)->Gp->Prop}(I1:Inv X pins σ H1 s1)(m:Mv X.K H G H1 G1)(hq:pF X.K H1 l vs)
  (hk:∀ H2 G2,Kp H1 H2->kc X.K H2 G2->ok G2->∃ ws,pF X.K H2 l ws/\aU X.K H2 ws ds) (q:R (nK 0 ds) ok G1) :
  wpAny (model X.prog X.w) X.A (call (.type "enumerate") [.ref l]) (fun v s2=>wpAny (model X.prog X.w) X.A (EJ v) (Kc X pins σ (.Tuple elts kk Bg) H G R) X.xe s2) X.xe s1:=by
 obtain⟨bH,rv,pl,hz⟩:=I1.list hq;refine call_enumerate_list pl.isList fun h' he hit hsz kp=>?_;refine wpAny_pyIter_enum he ?_;refine⟨_,[s1.heap.objs.size+1,s1.heap.objs.size],_,_,H1,G1,nK 0 ds,ok,rfl,I1.kept (t':=s1.toks) kp,m,Mx l _ _ (Nat.succ_ne_self _),⟨⟨_,he⟩,hit⟩,fun b hb=>?_,fun i H2 G2 k ab o=>?_,q⟩
 ·have Bo:s1.heap.objs.size<=b:=by
   rcases List.mem_cons.mp hb with rfl | hb
   ·lia
   ·rw [List.mem_singleton.mp hb]; exact aC _
  exact I1.Bp Bo (I1.b7.fresh Bo)
 ·obtain⟨ws,hw,rd⟩:=hk H2 G2 k ab o;refine⟨fun d hd=>?_,fun hl=>⟨ws,hw,by rw [rd.length,<-Ct ds 0]; exact hl⟩⟩;rw [Cu] at hd;cases hdi:ds[i]? with
  | none=>rw [hdi] at hd; cases hd
  | some d' =>
   rw [hdi] at hd;obtain⟨v,hv,r⟩:=rd.get hdi;refine⟨⟨ws,v,hw,hv⟩,?_⟩;rintro x H3 ⟨T,y,ex,hT,e3,hy⟩;subst ex e3;have:=hy ws hw;rw [hv] at this;cases this;have ed:D.tup [.int ((0+i:Nat):Int),d']=d:=by simpa using hd
   subst ed;refine⟨.tup bU (.cons (by rw [Nat.zero_add]; exact .int _) (.cons (r.mono (.new hT)) .nil)),.GB ab hT⟩
theorem Ee:ez "enumerate" = some (.type "enumerate"):=by decide +kernel
theorem Xe:ez "zip" = some (.type "zip"):=by decide +kernel
theorem PH (hg:Gl X "enumerate") (hm:X.mg "enumerate" = none) (ha:fW X a ta) (hs:autoParam (bx [a] X.env=[(false,eval a X.env)]) Ar._auto_1):NV X (.Tuple elts kk Bg) (.Call (.Name "enumerate" p) [a] [] pos) (QC ta):=by
 intro E pins s σ H τ G R hE I h;have hA:BC X [a] (aw ta aQ):=eA ha gB hs;refine Call_ (nH I.inv hg hm Ee (dF (y8 hA pos hE I (R:=aaU fun x G1=>vw x G1 R) h fun vs H1 ds G1 us s1 I1 m1 r1 jj q1=>?_) hs rfl))
 match ds,q1 with
 | [x],q1 =>
  change vw x G1 R at q1;obtain⟨w,rfl,Fb⟩:=jj.one;obtain⟨u,rfl,ru⟩:=r1.one;cases Fb with
  | cW hq rs=>cases ru; exact LN I1.inv m1 hq.sq (fun H2 G2 k ab _=>⟨_,(k.VX hq).sq,rs.mono k⟩) q1
  | ref p =>
   cases ru;unfold vw at q1;dsimp only at q1;split at q1
   ·rename_i ds e;obtain⟨vs,hv,rs⟩:=I1.ab.lst e;refine LN I1.inv m1 (.of hv) (fun H2 G2 k ab o=>?_) q1;obtain⟨ws,hw,pP⟩:=ab.lst o;exact⟨ws,.of hw,pP⟩
   ·exact q1.elim
  | tup _ _=>exact q1.elim
  | nY _ _=>exact q1.elim
  | nX _ _=>exact q1.elim
  | eN=>exact q1.elim
  | bl _=>exact q1.elim
  | int _=>exact q1.elim
  | str _=>exact q1.elim
  | exc _=>exact q1.elim
  | Cq _ _=>exact q1.elim
  | oV _ _ _ _=>exact q1.elim
 | [],q1=>exact q1.elim
 | _ :: _ :: _,q1=>exact q1.elim
end
end K2
end
section
namespace K2
open PySem PySem.Spec PyProof.Rows L2
section
variable {X:Cx} {o i a b:Expr} {to ti ta tb:fV} {pos p:Pos}
theorem kF(hu:X.A.units+64 < cLine)(ho:fW X o to)(hi:fW X i ti)
  (ha:autoParam (∀ v,Kn (.Subscript o i pos) X.env v=(do
   let ov ← CO [v] (eval o X.env)
   let iv ← CO [v,ov] (eval i X.env)
   standAt pos
   CO [v,ov,iv] (setItem ov iv v)
   release [v,ov,iv] [])) Ai._auto_1):NW X (.Subscript o i pos) (nZ to ti):=by
 intro E pins s σ H τ G w d u Q hE I r rd h;rw [ha];refine ag (cN (i5 ho hE I h fun x H1 dx G1 ov s1 I1 m1 r1 jj q1=>?_));refine ag (cN (i5 hi hE I1 q1 fun y H2 dy G2 iv s2 mr m2 r2 xr q2=>?_));refine ag (EG (ag (cN ?_)));have HS:=m1.trans m2;have Pg:=rd.mono (HS.kp I.ab);have Bh:=I.st.mono (HS.kp I.ab);have rx':=jj.mono (m2.kp I1.ab);unfold xg at q2;split at q2
 ·rename_i l;cases rx';cases r1;split at q2
  ·rename_i xs hg;obtain⟨vs,hv,rs⟩:=mr.ab.lst hg;split at q2
   ·rename_i k;cases xr;split at q2
    ·rename_i j hj;have m3:Mv X.K H2 G2 (upd H2 l (.lst (vs.set j w))) (eV G2 l (.lst (xs.set j d))):=.putL mr.ab hg hv (rs.set Pg j);refine gH (set_list pins s2 σ H2 (.ref l) (.int k) w _ _ _ (fun H3=>H3=upd H2 l (.lst (vs.set j w))) mr.inv rfl r2 r ⟨l,vs,k,j,rfl,rfl,hv,?_,rfl⟩) ?_
     ·rw [rs.length]; exact hj
     ·rintro _ s3 ⟨H3,I3,e3⟩;subst e3;exact wpAny_release ⟨σ,_,τ,_,⟨I3,Bh.mono (m3.kp mr.ab),m3.ab⟩,HS.trans m3,q2⟩
    ·exact q2.elim
   ·exact q2.elim
  ·rename_i kvs hg;obtain⟨hk,hz,q⟩:=q2;obtain⟨H3,H4,I3,dp,m3⟩:=Rf mr.inv mr.ab hg hk hz xr Pg;exact NI (by lia) I3 dp r2 r fun s4 I4=>wpAny_release ⟨σ,H4,τ,_,⟨I4,Bh.mono (m3.kp mr.ab),m3.ab⟩,HS.trans m3,q⟩
  ·exact q2.elim
 ·exact q2.elim
end
end K2
end
section
namespace L2
open PySem PySem.Spec PyProof.Rows
theorem uN{X:Cx}{pins:List (Addr×Obj)}{σ:St}{H:Hp}{s:ax}{l b:Addr}{xs:List V}(I:Inv X pins σ H s)(hq:pF X.K H l xs)(hf:oi X pins H b):l≠b:=by
 rintro rfl;obtain⟨f0,f1,f2,f3,f4,f5⟩:=hf;rcases hq with (h | ⟨o,h⟩) | ⟨o,bH,n,h,_⟩
 ·rw [f0] at h; cases h
 ·rw [f0] at h; cases h
 ·have hb:=I.ok.mod.U6 _ _ h;rcases f3 with f3 | f3
  ·exact I.ok.Jd _ _ hb f3
  ·exact absurd (aN (I.ok.bs _ _ hb).1) (Nat.not_lt.mpr f3)
def Itz(K:ai)(a b:Addr):It :=
  ⟨fun i H=>∃ xs x ys y,pF K H a xs/\xs[i]?=some x/\pF K H b ys/\ys[i]?=some y,
   fun i H v H'=>∃ T x y,v=.ref T/\H T=none/\H'=upd H T (.tup [x,y])/\(∀ xs,pF K H a xs->xs[i]?=some x)/\∀ ys,pF K H b ys->ys[i]?=some y,
   fun i H=>∃ xs ys,pF K H a xs/\pF K H b ys/\(xs.length<=i\/ys.length<=i)⟩
structure ZC(z TI TO i1 i2 a b:Addr)(i:Nat)(h:Heap):Prop where
 hz:IsZip h z TI TO .none
 hI:IsPair h TI (.ref i1) (.ref i2)
 hO:∃ x y,IsPair h TO x y
 h1:h.IsListIter i1 a i
 h2:h.IsListIter i2 b i
theorem OQ{P:bI}{w:World}{K:ai}{elts:List Expr}{kk:Nat}{pos:Pos}(a b z TI TO i1 i2:Addr)(nd:[z,TI,TO,i1,i2].Nodup) :
  Turn P w K (.Tuple elts kk pos) (Itz K a b) [z,TI,TO,i1,i2] z (ZC z TI TO i1 i2 a b) where
 mem:=by simp
 obj:=fun i h st c hc=>by
  simp only [bA,bO,or_false] at hc;rcases hc with rfl | rfl | rfl | rfl | rfl
  ·exact⟨_,st.hz,fun v q=>by cases q⟩
  ·exact⟨_,st.hI,fun v q=>by cases q⟩
  ·obtain⟨x,y,h⟩:=st.hO; exact⟨_,h,fun v q=>by cases q⟩
  ·obtain⟨o,e,_,d⟩:=st.h1; exact⟨o,e,fun v q=>by rw [d] at q; cases q⟩
  ·obtain⟨o,e,_,d⟩:=st.h2; exact⟨o,e,fun v q=>by rw [d] at q; cases q⟩
 keep:=fun i h h' st k=>⟨k _ (by simp) _ st.hz,k _ (by simp) _ st.hI,let ⟨x,y,q⟩:=st.hO; ⟨x,y,k _ (by simp) _ q⟩,st.h1.at fun o q=>k _ (by simp) o q,st.h2.at fun o q=>k _ (by simp) o q⟩
 item:=by
  intro X hP hw hK hc i pins s σ H E I hf st hg;subst hP hw hK;obtain⟨xs,x,ys,y,Vc,hx,Vb,hy⟩:=hg;obtain⟨Qr,Xu,p1,hz1⟩:=I.list Vc;obtain⟨tx,MH,p2,hz2⟩:=I.list Vb;obtain⟨u1,Z8,MK⟩:=Xu.get hx;obtain⟨u2,hu2,Pa⟩:=MH.get hy;obtain⟨xo,yo,hO⟩:=st.hO;have ap:∀ c∈[z,TI,TO,i1,i2],a≠c/\b≠c:=fun c hc=>⟨uN I Vc (hf c hc),uN I Vb (hf c hc)⟩;simp only [aY,bA,bO,or_false,not_or] at nd;obtain⟨⟨n1,n2,n3,n4⟩,⟨n5,n6,n7⟩,⟨n8,n9⟩,n10,_⟩:=nd;have Dz:ZipApart z TI TO i1 i2 a b:=⟨eD n1,eD n2,eD n3,eD n4,n5,n6,n7,n8,n9,n10,(ap z (by simp)).1,(ap TO (by simp)).1,(ap i1 (by simp)).1,(ap i2 (by simp)).1,(ap z (by simp)).2,(ap TO (by simp)).2,(ap i1 (by simp)).2,(ap i2 (by simp)).2⟩;have WZ:H s.heap.objs.size=none:=I.b7.fresh (aC _);have inH:∀ c∈[z,TI,TO,i1,i2],c≠s.heap.objs.size:=fun c hc=>by
   simp only [bA,bO,or_false] at hc;rcases hc with rfl | rfl | rfl | rfl | rfl
   ·exact bu (aN st.hz)
   ·exact bu (aN st.hI)
   ·exact bu (aN hO)
   ·obtain⟨o,e,_⟩:=st.h1; exact bu (aN e)
   ·obtain⟨o,e,_⟩:=st.h2; exact bu (aN e)
  refine wpAny_pyNext_zip_item Dz st.hz st.hI hO st.h1 st.h2 p1.isList p2.isList (x:=u1) (y:=u2) (by simpa using Z8) (by simpa using hu2) fun h' a1 a2 a3 a4 a5 a6 a7=>?_;refine⟨_,rfl,?_⟩;have k1:∀ c o,c∉[z,TI,TO,i1,i2]->s.heap.get? c=some o->h'.get? c=some o:=fun c o hc q =>
   a7 c o (fun e=>hc (by simp [e])) (fun e=>hc (by simp [e])) (fun e=>hc (by simp [e])) (fun e=>hc (by simp [e])) q
  have I1:Inv X pins σ (upd H s.heap.objs.size (.tup [x,y])) { s with heap:=h' } :=
   I.yf (t':=s.toks) (fp:=[z,TI,TO,i1,i2]) hf k1 (aC _) ⟨by show 2<=aX; decide,[u1,u2],.cons MK (.cons Pa .nil),⟨_,a5,rfl,_,rfl⟩⟩
  refine wpAny_letOwnedTupleGo_zip (s:={ s with heap:=h' }) a1 fun h2 hz2 Cg=>?_;have f1:∀ c∈[z,TI,TO,i1,i2],oi X pins (upd H s.heap.objs.size (.tup [x,y])) c:=fun c hc=>(hf c hc).upd (inH c hc);have I2:Inv X pins σ (upd H s.heap.objs.size (.tup [x,y])) { s with heap:=h2 } :=
   Inv.sC (s:={ s with heap:=h' }) (t':=s.toks) (fp:=[z,TI,TO,i1,i2]) I1 f1 fun c o hc q=>(Cg.2 c (fun e=>hc (by simp [e]))).trans q
  have hI':IsPair h' TI (.ref i1) (.ref i2):=a7 TI _ (eD n1) n5 n6 n7 st.hI;refine⟨.ref s.heap.objs.size,_,I2,rfl,⟨_,x,y,rfl,WZ,rfl,fun zs hs=>by rw [I.vj hs Vc]; exact hx,fun zs hs=>by rw [I.vj hs Vb]; exact hy⟩,⟨hz2,?_,⟨u1,u2,?_⟩,?_,?_⟩,fun c hc=>(f1 c hc).1⟩
  ·exact(Cg.2 TI (eD n1)).trans hI'
  ·exact(Cg.2 TO (eD n2)).trans a2
  ·exact a3.at fun o q=>(Cg.2 i1 (eD n3)).trans q
  ·exact a4.at fun o q=>(Cg.2 i2 (eD n4)).trans q
 done:=by
  intro X hP hw hK hc i pins s σ H E I hf st hg;subst hP hw hK;obtain⟨xs,ys,Vc,Vb,hx⟩:=hg;obtain⟨Qr,Xu,p1,hz1⟩:=I.list Vc;obtain⟨tx,MH,p2,hz2⟩:=I.list Vb;have hl1:=Xu.length;have xE:=MH.length;obtain⟨xo,yo,hO⟩:=st.hO;have ap:∀ c∈[z,TI,TO,i1,i2],a≠c/\b≠c:=fun c hc=>⟨uN I Vc (hf c hc),uN I Vb (hf c hc)⟩;simp only [aY,bA,bO,or_false,not_or] at nd;obtain⟨⟨n1,n2,n3,n4⟩,⟨n5,n6,n7⟩,⟨n8,n9⟩,n10,_⟩:=nd;have Dz:ZipApart z TI TO i1 i2 a b:=⟨eD n1,eD n2,eD n3,eD n4,n5,n6,n7,n8,n9,n10,(ap z (by simp)).1,(ap TO (by simp)).1,(ap i1 (by simp)).1,(ap i2 (by simp)).1,(ap z (by simp)).2,(ap TO (by simp)).2,(ap i1 (by simp)).2,(ap i2 (by simp)).2⟩;refine wpAny_pyNext_zip_end (I.ok.hd hc) Dz st.hz st.hI hO st.h1 st.h2 p1.isList p2.isList (by
   rcases hx with hx | hx
   ·left; simp; lia
   ·right; simp; lia) fun h' k1=>⟨rfl,?_⟩
  exact I.sC (t':=s.toks) (fp:=[z,TI,TO,i1,i2]) hf fun c o hc q=>k1 c o (fun e=>hc (by simp [e])) (fun e=>hc (by simp [e])) (fun e=>hc (by simp [e])) (fun e=>hc (by simp [e])) q
 self:=fun A i s Q E st h=>wpAny_pyIter_zip st.hz h
end L2
namespace K2
open PySem PySem.Spec PyProof.Rows L2
section
variable {X:Cx} {elts:List Expr} {kk:Nat} {Bg:Pos} {a b:Expr} {ta tb:fV} {pos p:Pos}
theorem Gd{pins:List (Addr×Obj)}{s:ax}{σ:L2.St}{H:Hp}{G:Gp}{x:V}{d:D}{v:Value}{ds:List D}{ok:Gp->Prop}(I:Inv X pins σ H s)(ab:kc X.K H G)(rx:RelV x v)(rd:bV X.K H x d)(hi:vg d G=some (ds,ok)) :
  ∃ l vs,v=.ref l/\pF X.K H l vs/\aU X.K H vs ds/\∀ H2 G2,Kp H H2->kc X.K H2 G2->ok G2->∃ ws,pF X.K H2 l ws/\aU X.K H2 ws ds:=by
 cases rd with
 | cW hq rs=>cases hi; cases rx; exact⟨_,_,rfl,hq.sq,rs,fun H2 G2 k ab _=>⟨_,(k.VX hq).sq,rs.mono k⟩⟩
 | ref l =>
  unfold vg at hi;dsimp only at hi;cases hg:G l with
  | none=>rw [hg] at hi; cases hi
  | some gg =>
   rw [hg] at hi;cases gg with
   | lst zs =>
    cases hi;cases rx;obtain⟨vs,hv,rs⟩:=ab.lst hg;refine⟨_,_,rfl,.of hv,rs,fun H2 G2 k ab o=>?_⟩;obtain⟨ws,hw,pP⟩:=ab.lst o;exact⟨ws,.of hw,pP⟩
   | ins _ _=>cases hi
   | qL _=>cases hi
   | gK _=>cases hi
 | _=>cases hi
theorem K6 (hg:Gl X "zip") (hm:X.mg "zip" = none) (ha:fW X a ta) (hb:fW X b tb) (hs:autoParam (bx [a,b] X.env=[(false,eval a X.env),(false,eval b X.env)]) Ar._auto_1) (Cg:autoParam (bx [b] X.env=[(false,eval b X.env)]) Ar._auto_1) :
  NV X (.Tuple elts kk Bg) (.Call (.Name "zip" p) [a,b] [] pos) (QB ta tb):=by
 intro E pins s σ H τ G R hE I h;have hA:BC X [a,b] (aw ta (aw tb aQ)):=eA ha (eA hb gB Cg) (by rw [hs,Cg]);refine Call_ (nH I.inv hg hm Xe (dF (y8 hA pos hE I (R:=aaT fun x y G1=>uf x y G1 R) h fun vs H1 ds G1 us s1 I1 m1 r1 jj q1=>?_) (by rw [hs,Cg]) (by rw [Cg]; rfl)))
 match ds,q1 with
 | [x,y],q1 =>
  change uf x y G1 R at q1;obtain⟨w1,w2,rfl,Fb,SY⟩:=jj.two;obtain⟨u1,u2,rfl,MK,Pa⟩:=vals2 r1;unfold uf at q1;split at q1
  ·rename_i xs k1 ys k2 e1 e2;obtain⟨l1,v1,rfl,Vc,rs1,st1⟩:=Gd I1.inv I1.ab MK Fb e1;obtain⟨l2,v2,rfl,Vb,HP,R9⟩:=Gd I1.inv I1.ab Pa SY e2;obtain⟨Qr,Xu,pl1,_⟩:=I1.inv.list Vc;obtain⟨tx,MH,pl2,_⟩:=I1.inv.list Vb;refine call_zip_2 pl1.isList pl2.isList fun h' z1 z2 z3 z4 z5 z6 z7=>?_;refine wpAny_pyIter_zip z1 ?_;refine⟨_,[s1.heap.objs.size+4,s1.heap.objs.size+2,s1.heap.objs.size+3,s1.heap.objs.size,s1.heap.objs.size+1],_,_,H1,G1,pK xs ys,_,rfl,I1.inv.kept (t':=s1.toks) z7,m1,
    OQ l1 l2 _ _ _ _ _ (by simp),⟨z1,z2,⟨_,_,z3⟩,z4,z5⟩,fun c hc=>?_,fun i H2 G2 k ab o=>?_,q1⟩
   ·have Ow:s1.heap.objs.size<=c:=by
     simp only [bA,bO,or_false] at hc;rcases hc with rfl | rfl | rfl | rfl | rfl
     ·exact uD _ _
     ·exact uD _ _
     ·exact uD _ _
     ·exact aC _
     ·exact uD _ _
    exact I1.inv.Bp Ow (I1.inv.b7.fresh Ow)
   ·obtain⟨XQ,hw1,jj⟩:=st1 H2 G2 k ab o.1;obtain⟨ws2,Z7,xr⟩:=R9 H2 G2 k ab o.2;refine⟨fun d hd=>?_,fun hl=>⟨XQ,ws2,hw1,Z7,?_⟩⟩
    ·rw [ET] at hd;cases hx:xs[i]? with
     | none=>rw [hx] at hd; cases hd
     | some x' =>
      cases hy:ys[i]? with
      | none=>rw [hx,hy] at hd; cases hd
      | some y' =>
       rw [hx,hy] at hd;have ed:D.tup [x',y']=d:=by simpa using hd
       subst ed;obtain⟨vx,hvx,rx⟩:=jj.get hx;obtain⟨vy,hvy,ry⟩:=xr.get hy;refine⟨⟨XQ,vx,ws2,vy,hw1,hvx,Z7,hvy⟩,?_⟩;rintro v H3 ⟨T,px,py,ex,hT,e3,hx3,hy3⟩;subst ex e3;have q1:=hx3 XQ hw1;have q2:=hy3 ws2 Z7;rw [hvx] at q1;rw [hvy] at q2;cases q1; cases q2;exact⟨.tup bU (.cons (rx.mono (.new hT)) (.cons (ry.mono (.new hT)) .nil)),.GB ab hT⟩
    ·rw [ES] at hl;rw [jj.length,xr.length];lia
  ·exact q1.elim
 | [],q1=>exact q1.elim
 | [_],q1=>exact q1.elim
 | _ :: _ :: _ :: _,q1=>exact q1.elim
end
end K2
end
section
namespace K2
open PySem PySem.W PyProof.Rows
def iQ{α:Type}(lt:Nat->Nat->Bool):KasT α->α
 | .ret a=>a
 | .ask i j k=>iQ lt (k (lt i j))
theorem mQ{α β:Type}(lt:Nat->Nat->Bool)(f:α->KasT β):∀ t:KasT α,iQ lt (t.bind f)=iQ lt (f (iQ lt t))
 | .ret _=>rfl
 | .ask i j k=>mQ lt f (k (lt i j))
abbrev gA(p:Array Nat)(k:Nat):Nat:=p.getD k 0
theorem Cn(p:Array Nat)(k:Nat):gA p k=(p[k]?).getD 0:=by
 unfold gA; rw [Array.getD_eq_getD_getElem?]
structure NU(lt:Nat->Nat->Bool):Prop where
 asymm:∀ i j,lt i j=true->lt j i=false
 trans:∀ i j k,lt j i=false->lt k j=false->lt k i=false
theorem NU.refl{lt:Nat->Nat->Bool}(w:NU lt)(i:Nat):lt i i=false:=by
 cases h:lt i i with
 | false=>rfl
 | true=>rw [w.asymm _ _ h] at h; cases h
def Up(lt:Nat->Nat->Bool)(p:Array Nat)(m:Nat):Prop:=∀ i j,i<=j->j < m->lt (gA p j) (gA p i)=false
def Dn(lt:Nat->Nat->Bool)(p:Array Nat)(m:Nat):Prop:=∀ i j,i<=j->j < m->lt (gA p i) (gA p j)=false
section
variable {lt:Nat->Nat->Bool}
theorem Up.more(w:NU lt){p:Array Nat}{n m:Nat}(h1:1<=n)(h:Up lt p n)(hs:∀ k,n<=k->k < m->lt (gA p k) (gA p (k - 1))=false):Up lt p m:=by
 intro i j Nu hjm;induction j with
 | zero =>
  have:i=0:=by lia
  subst this; exact w.refl _
 | succ j ih =>
  by_cases hj:j+1 < n
  ·exact h i (j+1) Nu hj
  ·by_cases e:i=j+1
   ·subst e; exact w.refl _
   ·have h1:=ih (by lia) (by lia);have h2:=hs (j+1) (by lia) hjm;exact w.trans _ _ _ h1 h2
theorem KN(p:Array Nat):∀ (f n:Nat),n<=iQ lt (qY p f n)/\iQ lt (qY p f n)<=n+f/\(∀ k,n<=k->k < iQ lt (qY p f n)->lt (gA p k) (gA p (k - 1))=false) /\
  (iQ lt (qY p f n) < n+f->lt (gA p (iQ lt (qY p f n))) (gA p (iQ lt (qY p f n) - 1))=true):=by
 intro f;induction f with
 | zero=>intro n; exact⟨aC _,aC _,fun k h1 h2=>absurd (show k < n from h2) (by lia),fun h=>absurd (show n < n+0 from h) (by lia)⟩
 | succ f ih =>
  intro n;have e:iQ lt (qY p (f+1) n)=if lt (gA p n) (gA p (n - 1))=true then n else iQ lt (qY p f (n+1)):=by
   show iQ lt (if lt (gA p n) (gA p (n - 1))=true then wd n else qY p f (n+1))=_;split <;> rfl
  rw [e];by_cases c:lt (gA p n) (gA p (n - 1))=true
  ·rw [if_pos c];exact⟨aC _,by lia,fun k h1 h2=>absurd h2 (by lia),fun _=>c⟩
  ·rw [if_neg c];obtain⟨h1,h2,h3,h4⟩:=ih (n+1);refine⟨by lia,by lia,fun k k1 k2=>?_,fun h=>h4 (by lia)⟩;by_cases e:k=n
   ·subst e; simpa using c
   ·exact h3 k (by lia) k2
theorem iP{p:Array Nat}{i j:Nat}(hj:j<=p.size)(k:Nat):gA (gU p i j) k=if i<=k/\k < j then gA p (i+j - 1 - k) else gA p k:=by
 rw [Cn,gU,getElem?_mirror_all hj];split <;> rw [Cn]
theorem nu(p:Array Nat)(i j:Nat):(gU p i j).size=p.size:=mirror_size _ _ _ _
theorem kz(p:Array Nat)(i j:Nat):(gU p i j).Perm p:=mirror_perm _ _ _ _
theorem Dn.rev{p:Array Nat}{a n:Nat}(w:NU lt)(hn:n<=p.size)(h:Dn lt p n)(he:∀ k,a<=k->k < n->lt (gA p (n - 1)) (gA p k)=false):Dn lt (gU p a n) n:=by
 intro i j Nu Y3;rw [iP hn,iP hn];by_cases hi:a<=i
 ·rw [if_pos ⟨hi,by lia⟩,if_pos ⟨by lia,Y3⟩];exact w.trans _ _ _ (he (a+n - 1 - j) (by lia) (by lia)) (h (a+n - 1 - i) (n - 1) (by lia) (by lia))
 ·rw [if_neg (by lia)];by_cases hj:a<=j
  ·rw [if_pos ⟨hj,Y3⟩];exact h i (a+n - 1 - j) (by lia) (by lia)
  ·rw [if_neg (by lia)];exact h i j Nu Y3
def Eqs(lt:Nat->Nat->Bool)(p:Array Nat)(n q:Nat):Prop:=q+1<=n/\∀ k,n - (q+1)<=k->k < n->lt (gA p (n - 1)) (gA p k)=false
theorem Dn.one(w:NU lt){p:Array Nat}{n:Nat}(h1:1<=n)(h:Dn lt p n)(hc:lt (gA p (n - 1)) (gA p n)=false):Dn lt p (n+1):=by
 intro i j Nu hj;by_cases e:j=n
 ·subst e;by_cases e2:i=j
  ·subst e2; exact w.refl _
  ·exact w.trans _ _ _ hc (h i (j - 1) (by lia) (by lia))
 ·exact h i j Nu (by lia)
theorem O9(w:NU lt):∀ (f:Nat) (p:Array Nat) (n q:Nat),n+f<=p.size->Dn lt p n->Eqs lt p n q->∃ p' n' q',iQ lt (lU f p n q)=(p',n',q')/\p'.Perm p/\p'.size=p.size/\n<=n'/\n'<=n+f/\Dn lt p' n'/\Eqs lt p' n' q':=by
 intro f;induction f with
 | zero=>intro p n q _ hd he; exact⟨p,n,q,rfl,nR _,rfl,aC _,aC _,hd,he⟩
 | succ f ih =>
  intro p n q hs hd he;have h1:1<=n:=by have:=he.1; lia
  have e:iQ lt (lU (f+1) p n q)=if lt (gA p n) (gA p (n - 1))=true then (if q > 0 then iQ lt (lU f (gU p (n - (q+1)) n) (n+1) 0) else iQ lt (lU f p (n+1) 0))
    else if lt (gA p (n - 1)) (gA p n)=true then (p,n,q) else iQ lt (lU f p (n+1) (q+1)):=by
   show iQ lt (if lt (gA p n) (gA p (n - 1))=true then (if q > 0 then lU f (gU p (n - (q+1)) n) (n+1) 0 else lU f p (n+1) 0) else .ask (gA p (n - 1)) (gA p n) fun d=>if d=true then .ret (p,n,q) else lU f p (n+1) (q+1))=_;split
   ·split <;> rfl
   ·show iQ lt (if lt (gA p (n - 1)) (gA p n)=true then wd (p,n,q) else lU f p (n+1) (q+1))=_;split <;> rfl
  rw [e];by_cases c:lt (gA p n) (gA p (n - 1))=true
  ·rw [if_pos c];have ca:=w.asymm _ _ c;by_cases hq:q > 0
   ·rw [if_pos hq];have d1:Dn lt (gU p (n - (q+1)) n) n:=hd.rev w (by lia) he.2;have en:gA (gU p (n - (q+1)) n) n=gA p n:=by rw [iP (by lia),if_neg (by lia)]
    have ca':lt (gA (gU p (n - (q+1)) n) (n - 1)) (gA (gU p (n - (q+1)) n) n)=false:=by
     rw [en,iP (by lia)];split
     ·-- an item of the ZR is above p n
      exact w.trans _ _ _ ca (hd _ (n - 1) (by lia) (by lia))
     ·exact ca
    obtain⟨p',n',q',z,h2,h3,h4,h5,h6,h7⟩:=ih (gU p (n - (q+1)) n) (n+1) 0 (by rw [nu]; lia) (d1.one w h1 ca') ⟨by lia,fun k k1 k2=>by
     have:k=n:=by lia
     subst this; exact w.refl _⟩
    exact⟨p',n',q',z,h2.trans (kz _ _ _),h3.trans (nu _ _ _),by lia,by lia,h6,h7⟩
   ·rw [if_neg hq];obtain⟨p',n',q',z,h2,h3,h4,h5,h6,h7⟩:=ih p (n+1) 0 (by lia) (hd.one w h1 ca) ⟨by lia,fun k k1 k2=>by
     have:k=n:=by lia
     subst this; exact w.refl _⟩
    exact⟨p',n',q',z,h2,h3,by lia,by lia,h6,h7⟩
  ·rw [if_neg c];have c':lt (gA p n) (gA p (n - 1))=false:=by simpa using c
   by_cases d:lt (gA p (n - 1)) (gA p n)=true
   ·rw [if_pos d];exact⟨p,n,q,rfl,nR _,rfl,aC _,by lia,hd,he⟩
   ·rw [if_neg d];have d':lt (gA p (n - 1)) (gA p n)=false:=by simpa using d
    obtain⟨p',n',q',z,h2,h3,h4,h5,h6,h7⟩:=ih p (n+1) (q+1) (by lia) (hd.one w h1 d') ⟨by have:=he.1; lia,fun k k1 k2=>by
     rw [Nat.add_sub_cancel];by_cases e:k=n
     ·subst e; exact w.refl _
     ·exact w.trans _ _ _ (he.2 k (by lia) (by lia)) c'⟩
    exact⟨p',n',q',z,h2,h3,by lia,by lia,h6,h7⟩
theorem Dn.up{p:Array Nat}{n:Nat}(hn:n<=p.size)(h:Dn lt p n):Up lt (gU p 0 n) n:=by
 intro i j Nu Y3;rw [iP hn,iP hn,if_pos ⟨by lia,Y3⟩,if_pos ⟨by lia,by lia⟩];exact h _ _ (by lia) (by lia)
theorem Fc(w:NU lt){p:Array Nat}{n nrem:Nat}(h1:1<=n)(hn:n<=nrem)(hs:nrem<=p.size)(h:Dn lt p n):∃ p' m,iQ lt (OB n nrem p)=(m,p')/\p'.Perm p/\p'.size=p.size/\n<=m/\m<=nrem/\Up lt p' m:=by
 obtain⟨a1,a2,a3,_⟩:=KN (lt:=lt) (gU p 0 n) (nrem - n) n;refine⟨gU p 0 n,iQ lt (qY (gU p 0 n) (nrem - n) n),by rw [OB,mQ]; rfl,kz _ _ _,nu _ _ _,a1,by lia,?_⟩;exact(h.up (by lia)).more w h1 a3
theorem uR(w:NU lt){p:Array Nat}{n nrem:Nat}(h1:1<=n)(hn:n < nrem)(hs:nrem<=p.size)(h:Dn lt p n)(hc:lt (gA p (n - 1)) (gA p n)=false) :
  ∃ p' m,iQ lt (yO n nrem p)=(m,p')/\p'.Perm p/\p'.size=p.size/\n<=m/\m<=nrem/\Up lt p' m:=by
 obtain⟨p1,n1,q1,z,z2,z3,z4,z5,z6,z7⟩:=O9 w (nrem - (n+1)) p (n+1) 0 (by lia) (h.one w h1 hc) ⟨by lia,fun k k1 k2=>by
  have:k=n:=by lia
  subst this; exact w.refl _⟩
 rw [yO,mQ,z];show ∃ p' m,iQ lt (if q1 > 0 then OB n1 nrem (gU p1 (n1 - (q1+1)) n1) else OB n1 nrem p1)=(m,p')/\_;by_cases hq:q1 > 0
 ·rw [if_pos hq];obtain⟨p',m,y1,y2,y3,y4,y5,y6⟩:=Fc (nrem:=nrem) w (p:=gU p1 (n1 - (q1+1)) n1) (by lia) (by lia) (by rw [nu]; lia) (z6.rev w (by lia) z7.2);exact⟨p',m,y1,(y2.trans (kz _ _ _)).trans z2,(y3.trans (nu _ _ _)).trans z3,by lia,y5,y6⟩
 ·rw [if_neg hq];obtain⟨p',m,y1,y2,y3,y4,y5,y6⟩:=Fc (nrem:=nrem) w (p:=p1) (by lia) (by lia) (by lia) z6;exact⟨p',m,y1,y2.trans z2,y3.trans z3,by lia,y5,y6⟩
theorem MJ(w:NU lt){p:Array Nat}{nrem:Nat}(h1:1<=nrem)(hs:nrem<=p.size):∃ p' m,iQ lt (kas_count nrem p)=(m,p')/\p'.Perm p/\p'.size=p.size/\1<=m/\m<=nrem/\Up lt p' m:=by
 obtain⟨a1,a2,a3,a4⟩:=KN (lt:=lt) p (nrem - 1) 1;rw [kas_count,mQ];generalize iQ lt (qY p (nrem - 1) 1)=n at a1 a2 a3 a4;have u1:Up lt p 1:=fun i j Nu hj=>by
  have:i=j:=by lia
  subst this; exact w.refl _
 have up:Up lt p n:=u1.more w (aC _) a3;by_cases e:n=nrem
 ·subst e;rw [if_pos (by simp)];exact⟨p,n,rfl,nR _,rfl,a1,aC _,up⟩
 ·rw [if_neg (by simpa using e)];have hb:=a4 (by lia);by_cases h2:n > 1
  ·rw [if_pos h2];show ∃ p' m,iQ lt (if lt (gA p 0) (gA p (n - 1))=true then wd (n,p) else yO n nrem (gU p 0 n))=(m,p')/\_;by_cases c:lt (gA p 0) (gA p (n - 1))=true
   ·rw [if_pos c];exact⟨p,n,rfl,nR _,rfl,a1,by lia,up⟩
   ·rw [if_neg c];have c':lt (gA p 0) (gA p (n - 1))=false:=by simpa using c
    have all:∀ i j,i < n->j < n->lt (gA p i) (gA p j)=false:=fun i j hi hj =>
     w.trans _ _ _ (w.trans _ _ _ (up j (n - 1) (by lia) (by lia)) c') (up 0 i (by lia) hi)
    have d1:Dn lt (gU p 0 n) n:=fun i j Nu hj=>by
     rw [iP (by lia),iP (by lia),if_pos ⟨by lia,by lia⟩,if_pos ⟨by lia,hj⟩];exact all _ _ (by lia) (by lia)
    have hl:lt (gA (gU p 0 n) (n - 1)) (gA (gU p 0 n) n)=false:=by
     rw [iP (by lia),iP (by lia),if_pos ⟨by lia,by lia⟩,if_neg (by lia)];exact w.trans _ _ _ (w.asymm _ _ hb) (all _ _ (by lia) (by lia))
    obtain⟨p',m,y1,y2,y3,y4,y5,y6⟩:=uR (nrem:=nrem) w (p:=gU p 0 n) a1 (by lia) (by rw [nu]; lia) d1 hl;exact⟨p',m,y1,y2.trans (kz _ _ _),y3.trans (nu _ _ _),by lia,y5,y6⟩
  ·rw [if_neg h2];have e1:n=1:=by lia
   subst e1;have d1:Dn lt p 1:=fun i j Nu hj=>by
    have:i=j:=by lia
    subst this; exact w.refl _
   obtain⟨p',m,y1,y2,y3,y4,y5,y6⟩:=uR (nrem:=nrem) w (p:=p) (aC _) (by lia) hs d1 (w.asymm _ _ hb);exact⟨p',m,y1,y2,y3,by lia,y5,y6⟩
theorem MI(w:NU lt){p:Array Nat}{k:Nat}:∀ (f l r:Nat),l<=r->r<=k->r - l<=f->Up lt p k->(∀ i,i < l->lt (gA p k) (gA p i)=false)->(∀ i,r<=i->i < k->lt (gA p k) (gA p i)=true) ->
  ∃ m,iQ lt (kl p k f l r)=m/\m<=k/\(∀ i,i < m->lt (gA p k) (gA p i)=false)/\(∀ i,m<=i->i < k->lt (gA p k) (gA p i)=true):=by
 intro f;induction f with
 | zero =>
  intro l r hlr hrk hf up h1 h2;have:l=r:=by lia
  subst this;exact⟨l,rfl,hrk,h1,h2⟩
 | succ f ih =>
  intro l r hlr hrk hf up h1 h2;have e:iQ lt (kl p k (f+1) l r)=if l>=r then l else if lt (gA p k) (gA p ((l+r) / 2))=true then iQ lt (kl p k f l ((l+r) / 2)) else iQ lt (kl p k f ((l+r) / 2+1) r):=by
   show iQ lt (if l>=r then wd l else .ask (gA p k) (gA p ((l+r) / 2)) fun c=>if c=true then kl p k f l ((l+r) / 2) else kl p k f ((l+r) / 2+1) r)=_;split
   ·rfl
   ·show iQ lt (if lt (gA p k) (gA p ((l+r) / 2))=true then kl p k f l ((l+r) / 2) else kl p k f ((l+r) / 2+1) r)=_;split <;> rfl
  rw [e];by_cases c:l>=r
  ·rw [if_pos c];have:l=r:=by lia
   subst this;exact⟨l,rfl,hrk,h1,h2⟩
  ·rw [if_neg c];by_cases d:lt (gA p k) (gA p ((l+r) / 2))=true
   ·rw [if_pos d];refine ih l ((l+r) / 2) (by lia) (by lia) (by lia) up h1 fun i i1 i2=>?_;cases q:lt (gA p k) (gA p i) with
    | true=>rfl
    | false=>rw [w.trans _ _ _ (up ((l+r) / 2) i i1 i2) q] at d; cases d
   ·rw [if_neg d];refine ih ((l+r) / 2+1) r (by lia) hrk (by lia) up (fun i hi=>?_) h2;exact w.trans _ _ _ (up i ((l+r) / 2) (by lia) (by lia)) (by simpa using d)
theorem Co{p:Array Nat}{src d:Nat}(hs:src < p.size)(hd:d<=src)(k:Nat):gA (bubble p src d) k=if k=src - d then gA p src else if src - d < k/\k<=src then gA p (k - 1) else gA p k:=by
 rw [Cn,getElem?_bubble hs d hd,Cn p src,Cn p (k - 1),Cn p k];by_cases h1:k=src - d
 ·rw [if_pos h1,if_pos h1]
 ·rw [if_neg h1,if_neg h1];by_cases h2:src - d < k/\k<=src
  ·rw [if_pos h2,if_pos h2]
  ·rw [if_neg h2,if_neg h2]
theorem S0(w:NU lt):∀ (f:Nat) (p:Array Nat) (k:Nat),k+f<=p.size->Up lt p k->∃ p',iQ lt (kas_bin f p k)=p'/\p'.Perm p/\p'.size=p.size/\Up lt p' (k+f):=by
 intro f;induction f with
 | zero=>intro p k _ up; exact⟨p,rfl,nR _,rfl,up⟩
 | succ f ih =>
  intro p k hs up;obtain⟨m,e,hm,h1,h2⟩:=MI w k 0 k (cw _) (aC _) (aC _) up (fun i hi=>absurd hi (by lia)) (fun i i1 i2=>absurd i1 (by lia));have up':Up lt (bubble p k (k - m)) (k+1):=by
   intro i j Nu hj;rw [Co (by lia) (by lia),Co (by lia) (by lia)];have ek:k - (k - m)=m:=by lia
   rw [ek];by_cases j1:j=m
   ·rw [if_pos j1];by_cases i1:i=m
    ·rw [if_pos i1]; exact w.refl _
    ·rw [if_neg i1,if_neg (by lia)]; exact h1 i (by lia)
   ·rw [if_neg j1];by_cases j2:m < j/\j<=k
    ·rw [if_pos j2];by_cases i1:i=m
     ·rw [if_pos i1]; exact w.asymm _ _ (h2 (j - 1) (by lia) (by lia))
     ·rw [if_neg i1];by_cases i2:m < i/\i<=k
      ·rw [if_pos i2]; exact up _ _ (by lia) (by lia)
      ·rw [if_neg i2]; exact up _ _ (by lia) (by lia)
    ·rw [if_neg j2,if_neg (by lia),if_neg (by lia)]; exact up _ _ Nu (by lia)
  obtain⟨p',z,z1,z2,z3⟩:=ih (bubble p k (k - m)) (k+1) (by rw [bubble_size]; lia) up';refine⟨p',?_,z1.trans (bubble_perm _ _ _),z2.trans (bubble_size _ _ _),by rw [show k+(f+1)=k+1+f by lia]; exact z3⟩;rw [kas_bin,mQ,e]; exact z
theorem O6(w:NU lt){n:Nat}(h1:1<=n):∃ p,iQ lt (kas_sort n)=p/\p.toList.Perm (fc n)/\p.size=n/\Up lt p n:=by
 obtain⟨p,m,z,z1,z2,z3,z4,z5⟩:=MJ w (p:=(fc n).toArray) h1 (by simp);have zs:p.size=n:=by rw [z2]; simp
 have zp:p.toList.Perm (fc n):=by simpa using z1.toList
 rw [kas_sort,mQ,z];show ∃ q,iQ lt (if m < n then kas_bin (n - max m 1) p (max m 1) else .ret p)=q/\_;by_cases c:m < n
 ·rw [if_pos c];have em:max m 1=m:=by lia
  rw [em];obtain⟨p',y,y1,y2,y3⟩:=S0 w (n - m) p m (by lia) z5;exact⟨p',y,(by simpa using y1.toList:p'.toList.Perm p.toList).trans zp,y2.trans zs,by rw [show n=m+(n - m) by lia]; exact y3⟩
 ·rw [if_neg c];have:m=n:=by lia
  subst this;exact⟨p,rfl,zp,zs,z5⟩
end
end K2
end
section
namespace K2
open PySem PySem.Spec PyProof.Rows L2
open PySem.AutoSeq1 (wpAny_loadPart')
open PySem.MeetsSeq PySem.MeetsSeq2 PySem.MeetsSeq3 PySem.SeqAt
def AW(A:cS)(s:ax)(y x:Value)(b:Bool):Prop :=
 ∀ (prog:bI) (w:World) (E:Value->ax->Prop) (Q:Value->ax->Prop),Q (.bool b) s->wpAny (model prog w) A (qX .Lt y x) Q E s
def tw(e l:Nat->Bool)(n m:Nat):Nat->Nat->Bool
 | 0,_=>decide (n < m)
 | f+1,i=>if e i=true then tw e l n m f (i+1) else l i
theorem TL(l b:Addr)(xs ys:Array Value)(n m:Nat)(dd de:Option Addr)(sl sm:Array (Option Value))(e lt:Nat->Bool)(k:Nat) :
  ∀ i:Nat,i<=min xs.size ys.size->min xs.size ys.size - i=k->Meets (Builtin.«list.__eq__.loop» ⟨[.ref l,.ref b,EI i,EI 0],[]⟩)
   (fun A R s=>s.heap.get? l=some { cls:=.type "list",dict:=dd,data:=.seq xs n,slots:=sl }/\s.heap.get? b=some { cls:=.type "list",dict:=de,data:=.seq ys m,slots:=sm } /\
    (∀ j (h1:j < xs.size) (h2:j < ys.size),EqAt A.in1 s xs[j] ys[j] (e j)/\AW A.in1 s xs[j] ys[j] (lt j)) /\
    R (.ok (.ret (.bool (tw e lt xs.size ys.size k i)))) s):=by
 induction k with
 | zero =>
  intro i hi hk prog w A R s h;obtain⟨hp,g,d,tk,os⟩:=s;obtain⟨hl,hb,he,h⟩:=h
  wp_walk using b8 hl,b8 hb
  by_cases c:xs.size<=ys.size
  ·have h1:xs[((i:Nat):Int).toNat]?=none:=by simp; lia
   rw [h1]
   wp_walk using b8 hl,b8 hb
   exact h
  ·have h2:ys[((i:Nat):Int).toNat]?=none:=by simp; lia
   rw [h2];cases q:xs[((i:Nat):Int).toNat]? with
   | none =>
    wp_walk using b8 hl,b8 hb
    exact h
   | some v =>
    wp_walk using b8 hl,b8 hb
    exact h
 | succ k ih =>
  intro i hi hk prog w A R s h;obtain⟨hp,g,d,tk,os⟩:=s;obtain⟨hl,hb,he,h⟩:=h
  wp_walk using b8 hl,b8 hb
  have l1:i < xs.size:=by lia
  have l2:i < ys.size:=by lia
  have h1:xs[((i:Nat):Int).toNat]?=some xs[i]:=by simp [l1]
  have h2:ys[((i:Nat):Int).toNat]?=some ys[i]:=by simp [l2]
  have hc:((i:Int)+1)=((i+1:Nat):Int):=by push_cast; rfl
  rw [h1,h2];refine ag ((he i l1 l2).1 prog w _ _ ?_);cases q:e i with
  | true =>
   rw [tw,q,if_pos rfl] at h
   wp_walk
   rw [hc];exact⟨ni plain_eq_loop _,nj entry_eq_loop (by
    rw [j5 plain_eq_loop _];exact ih (i+1) (by lia) (by lia) prog w A R _ ⟨hl,hb,he,h⟩)⟩
  | false =>
   rw [tw,q,if_neg (by simp)] at h
   wp_walk using b8 hl,b8 hb
   rw [h1,h2];have YW:=(he i l1 l2).2 prog w
   wp_walk using YW
   exact h
theorem Ca(l b:Addr)(xs ys:Array Value)(n m:Nat)(dd de:Option Addr)(sl sm:Array (Option Value))(e lt:Nat->Bool) :
  Meets (Builtin.«list.__lt__» ⟨[.ref l,.ref b],[]⟩)
   (fun A R s=>s.heap.get? l=some { cls:=.type "list",dict:=dd,data:=.seq xs n,slots:=sl }/\s.heap.get? b=some { cls:=.type "list",dict:=de,data:=.seq ys m,slots:=sm } /\
    (∀ j (h1:j < xs.size) (h2:j < ys.size),EqAt A.in1 s xs[j] ys[j] (e j)/\AW A.in1 s xs[j] ys[j] (lt j)) /\
    R (.ok (.ret (.bool (tw e lt xs.size ys.size (min xs.size ys.size) 0)))) s):=by
 intro prog w A R s h;obtain⟨hp,g,d,tk,os⟩:=s;obtain⟨hl,hb,he,h⟩:=h;have f3:=Iz
 wp_walk using b8 hl,b8 hb
 exact⟨ni plain_eq_loop _,nj entry_eq_loop (by
  rw [j5 plain_eq_loop _];exact TL l b xs ys n m dd de sl sm e lt _ 0 (cw _) rfl prog w A R _ ⟨hl,hb,he,h⟩)⟩
theorem y7(l b:Addr)(xs ys:Array Value)(n m:Nat)(dd de:Option Addr)(sl sm:Array (Option Value))(e lt:Nat->Bool) :
  Meets (Builtin.«tuple.__lt__» ⟨[.ref l,.ref b],[]⟩)
   (fun A R s=>s.heap.get? l=some { cls:=.type "tuple",dict:=dd,data:=.seq xs n,slots:=sl }/\s.heap.get? b=some { cls:=.type "tuple",dict:=de,data:=.seq ys m,slots:=sm } /\
    (∀ j (h1:j < xs.size) (h2:j < ys.size),EqAt A.in1 s xs[j] ys[j] (e j)/\AW A.in1 s xs[j] ys[j] (lt j)) /\
    R (.ok (.ret (.bool (tw e lt xs.size ys.size (min xs.size ys.size) 0)))) s) :=
 .of_wp fun prog w A R s h=>by
  obtain⟨hp,g,d,tk,os⟩:=s;obtain⟨hl,hb,he,h⟩:=h;have f2:=qp;have zl:(xs.toList.zip ys.toList).length=min xs.size ys.size:=by simp
  wp_walk using b8 hl,b8 hb,lT _ (fun rest c s'=>c.1=none/\s'=⟨hp,g,d,tk,os⟩/\∃ i,i<=min xs.size ys.size/\rest=(xs.toList.zip ys.toList).drop i /\
   R (.ok (.ret (.bool (tw e lt xs.size ys.size (min xs.size ys.size - i) i)))) ⟨hp,g,d,tk,os⟩) _
  case turn =>
   rintro⟨y,x⟩ rest c s' ⟨hc,rfl,i,hi,hz,hR⟩;have il:i < min xs.size ys.size:=by
    have:=congrArg dU hz;rw [cB,zl,ak] at this;lia
   have l1:i < xs.size:=by lia
   have l2:i < ys.size:=by lia
   rw [ie (by rw [zl]; exact il)] at hz;injection hz with hyx QH
   have ey:y=xs[i]/\x=ys[i]:=by simpa using hyx
   obtain⟨rfl,rfl⟩:=ey;obtain⟨k,ek⟩:∃ k,min xs.size ys.size - i=k+1:=⟨min xs.size ys.size - i - 1,by lia⟩;rw [ek,tw] at hR;refine ag ((he i l1 l2).1 prog w _ _ ?_);cases q:e i with
   | true =>
    rw [q,if_pos rfl] at hR
    wp_walk
    exact⟨rfl,rfl,i+1,by lia,QH,by rw [show min xs.size ys.size - (i+1)=k by lia]; exact hR⟩
   | false =>
    rw [q,if_neg (by simp)] at hR;have YW:=(he i l1 l2).2 prog w
    wp_walk using YW
    exact⟨_,rfl,by simpa using hR⟩
  case fin =>
   rintro⟨c1,c2⟩ s' ⟨hc,rfl,i,hi,hz,hR⟩;simp only at hc;subst hc;have il:min xs.size ys.size - i=0:=by
    have:=congrArg dU hz;rw [cB,zl,aB] at this;lia
   rw [il,tw] at hR
   wp_walk
   exact⟨_,rfl,by simpa [uI] using hR⟩
  case h =>
   exact⟨rfl,rfl,0,cw _,rfl,by simpa using h⟩
theorem M5{A:cS}{s:ax}{l b:Addr}{xs ys:Array Value}{e lt:Nat->Bool}(hl:s.heap.IsList l xs)(hb:s.heap.IsList b ys)(hu:A.units < cLine)
  (he:∀ j (h1:j < xs.size) (h2:j < ys.size),EqAt A.in1 s xs[j] ys[j] (e j)/\AW A.in1 s xs[j] ys[j] (lt j)):AW A s (.ref l) (.ref b) (tw e lt xs.size ys.size (min xs.size ys.size) 0):=by
 intro prog w E Q hq;obtain⟨⟨cls,dd,data,sl⟩,ho,hc,n,hd⟩:=id hl;obtain⟨⟨Rn,ED,data2,E7⟩,Ci,DL,n2,hd2⟩:=id hb;simp only at hc hd DL hd2;subst hc hd DL hd2;exact xN (op:=.Lt) ⟨_,ho,rfl⟩ ⟨_,Ci,rfl⟩ uF Mp (Kv _ _) (Ca l b xs ys n n2 dd ED sl E7 e lt)
  ⟨ho,Ci,he,(fun x=>nomatch x),hq⟩ hu
theorem Jn{A:cS}{s:ax}{l b:Addr}{xs ys:Array Value}{e lt:Nat->Bool}(hl:s.heap.IsTuple l xs)(hb:s.heap.IsTuple b ys)(hu:A.units < cLine)
  (he:∀ j (h1:j < xs.size) (h2:j < ys.size),EqAt A.in1 s xs[j] ys[j] (e j)/\AW A.in1 s xs[j] ys[j] (lt j)):AW A s (.ref l) (.ref b) (tw e lt xs.size ys.size (min xs.size ys.size) 0):=by
 intro prog w E Q hq;obtain⟨⟨cls,dd,data,sl⟩,ho,hc,n,hd⟩:=id hl;obtain⟨⟨Rn,ED,data2,E7⟩,Ci,DL,n2,hd2⟩:=id hb;simp only at hc hd DL hd2;subst hc hd DL hd2;exact xN (op:=.Lt) ⟨_,ho,rfl⟩ ⟨_,Ci,rfl⟩ mF sZ (rj _ _) (y7 l b xs ys n n2 dd ED sl E7 e lt)
  ⟨ho,Ci,he,(fun x=>nomatch x),hq⟩ hu
theorem pz(xs ys:List D):∀ (k i:Nat),i<=min xs.length ys.length->min xs.length ys.length - i=k ->
  tw (fun j=>ip (xs.getD j .eN) (ys.getD j .eN)) (fun j=>pe (xs.getD j .eN) (ys.getD j .eN)) xs.length ys.length k i=mL (xs.drop i) (ys.drop i)
 | 0,i,hi,hk=>by
  rw [tw];by_cases c:xs.length<=ys.length
  ·have e1:xs.drop i=[]:=mG (by lia);rw [e1];cases q:ys.drop i with
   | nil =>
    have:=congrArg dU q;rw [cB,aB] at this;exact decide_eq_false (by lia)
   | cons y r =>
    have:=congrArg dU q;rw [cB,ak] at this;exact decide_eq_true (by lia)
  ·have e1:ys.drop i=[]:=mG (by lia);rw [e1];cases q:xs.drop i with
   | nil =>
    have:=congrArg dU q;rw [cB,aB] at this;exact decide_eq_false (by lia)
   | cons y r=>exact decide_eq_false (by lia)
 | k+1,i,hi,hk=>by
  have l1:i < xs.length:=by lia
  have l2:i < ys.length:=by lia
  rw [tw,ie l1,ie l2,nG,pz xs ys k (i+1) (by lia) (by lia)];have g1:xs.getD i .eN=xs[i]:=by rw [eE,au l1]; rfl
  have g2:ys.getD i .eN=ys[i]:=by rw [eE,au l2]; rfl
  rw [g1,g2]
theorem kA{h:Heap}:∀ {ds:List D} {vs:List Value} {as:List Addr},hV h vs (mB ds) as->∀ j (hj:j < vs.length),∃ bs,Reads h vs[j] (pd (ds.getD j .eN)) bs
 | [],vs,as,r,j,hj=>by cases r; exact absurd hj (pI _)
 | d :: ds,_,_,.cons (v:=v) (vs:=vs) r1 r2,j,hj=>by
  cases j with
  | zero=>exact⟨_,r1⟩
  | succ j=>exact kA r2 j (by simpa using hj)
theorem readsAll_len{h:Heap}:∀ {ds:List D} {vs:List Value} {as:List Addr},hV h vs (mB ds) as->vs.length=ds.length
 | [],_,_,r=>by cases r; rfl
 | d :: ds,_,_,.cons r1 r2=>by rw [ak,ak,readsAll_len r2]
theorem pV:∀ {ds:List D},qv ds=true->∀ j,nr (ds.getD j .eN)=true
 | [],_,j=>by rw [List.getD_nil]; rfl
 | d :: ds,h,0=>by
  have h:(nr d&&qv ds)=true:=h;rw [aI] at h; simpa using h.1
 | d :: ds,h,j+1=>by
  have h:(nr d&&qv ds)=true:=h;rw [aI] at h; simpa using pV h.2 j
theorem lL:∀ (ds:List D) (j:Nat),(pd (ds.getD j .eN)).depth<=cf (mB ds)
 | [],j=>by rw [List.getD_nil]; exact aC _
 | d :: ds,0=>by
  show (pd d).depth<=cf (pd d :: mB ds);simp only [cf]; lia
 | d :: ds,j+1=>by
  have:=lL ds j;show (pd (ds.getD j .eN)).depth<=cf (pd d :: mB ds);simp only [cf]; lia
theorem rR:∀ {l:List og} {ds:List D},fG l ds=true->∀ j,j < ds.length->∃ s∈l,cK s (ds.getD j .eN)=true/\l[j]?=some s
 | [],[],_,j,hj=>absurd hj (pI _)
 | [],_ :: _,h,_,_=>by cases h
 | _ :: _,[],h,_,_=>by cases h
 | s :: l,d :: ds,h,0,_=>by
  have h:(cK s d&&fG l ds)=true:=h;rw [aI] at h;exact⟨s,by simp,by simpa using h.1,by simp⟩
 | s :: l,d :: ds,h,j+1,hj=>by
  have h:(cK s d&&fG l ds)=true:=h;rw [aI] at h;obtain⟨s',h1,h2,h3⟩:=rR h.2 j (by simpa using hj);exact⟨s',aL _ h1,by simpa using h2,by simpa using h3⟩
theorem rS:∀ {s:og} {ds:List D},g8 s ds=true->∀ j,j < ds.length->cK s (ds.getD j .eN)=true
 | s,[],_,j,hj=>absurd hj (pI _)
 | s,d :: ds,h,0,_=>by
  have h:(cK s d&&g8 s ds)=true:=h;rw [aI] at h; simpa using h.1
 | s,d :: ds,h,j+1,hj=>by
  have h:(cK s d&&g8 s ds)=true:=h;rw [aI] at h; simpa using rS h.2 j (by simpa using hj)
theorem DV{A:cS}{s:ax}{xs ys:List D}{vs ws:Array Value}{as bs:List Addr}(r1:hV s.heap vs.toList (mB xs) as)(r2:hV s.heap ws.toList (mB ys) bs)(n1:qv xs=true)(n2:qv ys=true)
  (hu:A.units+cf (mB xs) < cLine) (j:Nat) (h1:j < vs.size) (h2:j < ws.size):EqAt A s vs[j] ws[j] (ip (xs.getD j .eN) (ys.getD j .eN)):=by
 obtain⟨ZA,q1⟩:=kA r1 j (by simpa using h1);obtain⟨Vv,q2⟩:=kA r2 j (by simpa using h2);have m1:=pV n1 j;have m2:=pV n2 j;have dp:=lL xs j;have:=eqAt_reads (pd (xs.getD j .eN)) (pd (ys.getD j .eN)) A s _ _ _ _ q1 q2 (kI _ m1) (kI _ m2) (by lia);rw [uh _ _ m1 m2] at this;simpa using this
theorem ua:∀ (n:Nat) (sh:og) (a b:D) (A:cS) (s:ax) (u v:Value) (as bs:List Addr),(pd a).depth<=n->cK sh a=true->cK sh b=true->nr a=true->nr b=true->Reads s.heap u (pd a) as->Reads s.heap v (pd b) bs->A.units+n < cLine->AW A s u v (pe a b):=by
 intro n;induction n using Nat.strongRecOn with
 | _ n ih =>
 intro sh a b A s u v as bs hn h1 h2 n1 n2 r1 r2 hu;cases sh with
 | int =>
  first | obtain⟨_,rfl⟩:=dM h1 | obtain⟨_,rfl⟩:=dI h1 | obtain⟨_,rfl⟩:=dJ h1
  first | obtain⟨_,rfl⟩:=dM h2 | obtain⟨_,rfl⟩:=dI h2 | obtain⟨_,rfl⟩:=dJ h2
  cases r1; cases r2;intro prog w E Q hq;exact HT.zr A s _ _ _ _ prog w E Q hq
 | tup l =>
  first | obtain⟨_,rfl⟩:=dM h1 | obtain⟨_,rfl⟩:=dI h1 | obtain⟨_,rfl⟩:=dJ h1
  first | obtain⟨_,rfl⟩:=dM h2 | obtain⟨_,rfl⟩:=dI h2 | obtain⟨_,rfl⟩:=dJ h2
  rename_i xs ys;have n1:qv xs=true:=n1;have n2:qv ys=true:=n2;cases r1 with
  | tuple k1 k2 k3 k4 =>
   cases r2 with
   | tuple m1 m2 m3 m4 =>
    rename_i p o vs c p' o' ws c';have hd:(pd (.tup xs)).depth=cf (mB xs)+1:=rfl;obtain⟨n',rfl⟩:∃ n',n=n'+1:=⟨n - 1,by lia⟩;have z1:=readsAll_len k4;have z2:=readsAll_len m4;have e1:vs.size=xs.length:=by simpa using z1
    have e2:ws.size=ys.length:=by simpa using z2
    have base:=Jn (A:=A) (s:=s) (e:=fun j=>ip (xs.getD j .eN) (ys.getD j .eN)) (lt:=fun j=>pe (xs.getD j .eN) (ys.getD j .eN)) ⟨_,k1,k2,_,k3⟩ ⟨_,m1,m2,_,m3⟩ (by lia) (fun j j1 j2=>by
     refine⟨DV k4 m4 n1 n2 (by show A.units+1+_ < _; lia) j j1 j2,?_⟩;obtain⟨ZA,q1⟩:=kA k4 j (by simpa using j1);obtain⟨Vv,q2⟩:=kA m4 j (by simpa using j2);obtain⟨sj,hsj,g1,g2⟩:=rR (l:=l) (ds:=xs) h1 j (by lia);obtain⟨sj',abE,g1',Zm⟩:=rR (l:=l) (ds:=ys) h2 j (by lia);rw [g2] at Zm; cases Zm;have dp:=lL xs j;have:=ih n' (by lia) sj (xs.getD j .eN) (ys.getD j .eN) A.in1 s _ _ _ _ (by lia) g1 g1' (pV n1 j) (pV n2 j) q1 q2 (by show A.units+1+n' < cLine; lia);simpa using this)
    have fin:=pz xs ys (min xs.length ys.length) 0 (cw _) rfl;rw [e1,e2,fin] at base;exact base
 | lst l =>
  first | obtain⟨_,rfl⟩:=dM h1 | obtain⟨_,rfl⟩:=dI h1 | obtain⟨_,rfl⟩:=dJ h1
  first | obtain⟨_,rfl⟩:=dM h2 | obtain⟨_,rfl⟩:=dI h2 | obtain⟨_,rfl⟩:=dJ h2
  rename_i xs ys;have n1:qv xs=true:=n1;have n2:qv ys=true:=n2;cases r1 with
  | list k1 k2 k3 k4 =>
   cases r2 with
   | list m1 m2 m3 m4 =>
    rename_i p o vs c p' ZA o' ws c' Vv;have hd:(pd (.cW xs)).depth=cf (mB xs)+1:=rfl;obtain⟨n',rfl⟩:∃ n',n=n'+1:=⟨n - 1,by lia⟩;have z1:=readsAll_len k4;have z2:=readsAll_len m4;have e1:vs.size=xs.length:=by simpa using z1
    have e2:ws.size=ys.length:=by simpa using z2
    have base:=M5 (A:=A) (s:=s) (e:=fun j=>ip (xs.getD j .eN) (ys.getD j .eN)) (lt:=fun j=>pe (xs.getD j .eN) (ys.getD j .eN)) ⟨_,k1,k2,_,k3⟩ ⟨_,m1,m2,_,m3⟩ (by lia) (fun j j1 j2=>by
     refine⟨DV k4 m4 n1 n2 (by show A.units+1+_ < _; lia) j j1 j2,?_⟩;obtain⟨ZA,q1⟩:=kA k4 j (by simpa using j1);obtain⟨Vv,q2⟩:=kA m4 j (by simpa using j2);have dp:=lL xs j;have:=ih n' (by lia) l (xs.getD j .eN) (ys.getD j .eN) A.in1 s _ _ _ _ (by lia) (rS (s:=l) (ds:=xs) h1 j (by lia)) (rS (s:=l) (ds:=ys) h2 j (by lia)) (pV n1 j) (pV n2 j) q1 q2 (by show A.units+1+n' < cLine; lia);simpa using this)
    have fin:=pz xs ys (min xs.length ys.length) 0 (cw _) rfl;rw [e1,e2,fin] at base;exact base
end K2
end
section
namespace K2
open PySem PySem.Spec PyProof.Rows L2 PySem.W
section
variable {prog:bI} {w:World} {A:cS} {E:Value->ax->Prop} {s:ax}
theorem O3 {at':Addr} {bH:List Value} {n:Nat} {P:PySem.Fin->ax->Prop} (xU:s.heap.get? at'=some (yM "list" bH.toArray n)) (HY:bH.length < 2)
  (done:P (.done (.ret .none)) { s with heap:=sortedHeap s.heap at' bH bH.toArray }):wpAny (model prog w) A (Builtin.«list.sort» ⟨[.ref at'],[]⟩) P E s:=by
 rw [list_sort_plain];have lt':at' < s.heap.objs.size:=aN xU;refine ag (listItems_at xU rfl (ag (listUpdate_at xU rfl ?_)));obtain⟨c,hc⟩:∃ c,(s.heap.update at' (fZ fun _=>#[])).get? at'=some (yM "list" #[] c):=⟨_,get?_update_seq xU (fun _=>#[])⟩;refine ag (seqEpoch_at hc rfl (ag (wpAny_newTuple (ag (wpAny_newList (cN ?_))))));have h6:(((s.heap.update at' (fZ fun _=>#[])).push (yM "tuple" bH.toArray 0)).push (yM "list" #[] 0)).get? at'=some (yM "list" #[] c):=by
  rw [Heap.get?_push_ne _ _ _ (by rw [size_push',EB]; exact bu (CT lt')),Heap.get?_push_ne _ _ _ (by rw [EB]; exact bu lt')];exact hc
 show wpAny (model prog w) A _ P E { s with heap:=((s.heap.update at' (fZ fun _=>#[])).push (yM "tuple" bH.toArray 0)).push (yM "list" #[] 0) };dsimp only;have sz2:bH.toArray.size < 2:=by simpa using HY
 rw [if_pos sz2,if_pos sz2];refine ag (ay ?_);rw [StateT.run_pure];refine ag (ay ?_);dsimp only;have es:(bH.toArray.zip bH.toArray).map (·.2)=bH.toArray:=by
  apply Array.toList_inj.mp;simp [List.map_snd_zip]
 refine ag (seqEpoch_at h6 rfl (ag (listUpdate_at h6 rfl ?_ (hsz2:=by rw [show (arrOf (SortSt.mk' general' (bH.toArray.zip bH.toArray) #[] 7 none)).map (·.2)=bH.toArray from es,cD]; simp; lia))));simp only [bne_self_eq_false,aj,if_false];refine ay ?_;rw [show (arrOf (SortSt.mk' general' (bH.toArray.zip bH.toArray) #[] 7 none)).map (·.2)=bH.toArray from es];exact done
theorem II{l:Addr}{bH:List Value}{Q:Value->ax->Prop}(hl:s.heap.IsList l bH.toArray)(HY:bH.length < 2)
  (done:Q (.ref (s.heap.objs.size+1)) { s with heap:=sortedAll s.heap bH bH.toArray }):wpAny (model prog w) A (call (.builtin "sorted") [.ref l]) Q E s:=by
 refine Calls.call_function_entry kind_sorted plain_sorted entry_sorted (args_sorted1 _) ?_;unfold Builtin.«sorted»;refine ag (m:=checkCount "sorted" 1 1 _) (ay (ag (collect_list hl (ag (wpAny_newList ?_)))));have e1:((s.heap.push (yM "list" #[] 0)).update s.heap.objs.size (fZ (·++bH.toArray))).objs.size=s.heap.objs.size+1:=by rw [EB,size_push']
 have e2:(((s.heap.push (yM "list" #[] 0)).update s.heap.objs.size (fZ (·++bH.toArray))).push (yM "list" bH.toArray 0)).get? (s.heap.objs.size+1)=some (yM "list" bH.toArray 0):=by
  rw [<-e1]; exact a9 _ rfl
 show wpAny _ _ _ _ _ { s with heap:=((s.heap.push (yM "list" #[] 0)).update s.heap.objs.size (fZ (·++bH.toArray))).push (yM "list" bH.toArray 0) };rw [e1];refine ag (cN (da slot_list_sort ⟨_,e2,rfl⟩ entry_list_sort (O3 e2 HY ⟨_,rfl,?_⟩) (args_list_sort _)));exact ay ⟨_,rfl,done⟩
end
section
open PySem.SeqAt
def RL(A:cS)(s:ax)(y x:Value)(b:Bool):Prop :=
 ∀ (prog:bI) (w:World) (E:Value->ax->Prop) (Q:Bool->ax->Prop),Q b s->wpAny (model prog w) A (oneLt' true y x) Q E s
theorem Jc{A:cS}{s:ax}{l b:Addr}{xs ys:Array Value}{e lt:Nat->Bool}(hl:s.heap.IsList l xs)(hb:s.heap.IsList b ys)(hu:A.units < cLine)
  (he:∀ j (h1:j < xs.size) (h2:j < ys.size),EqAt A.in1 s xs[j] ys[j] (e j)/\AW A.in1 s xs[j] ys[j] (lt j)):RL A s (.ref l) (.ref b) (tw e lt xs.size ys.size (min xs.size ys.size) 0):=by
 intro prog w E Q hq;obtain⟨⟨cls,dd,data,sl⟩,ho,hc,n,hd⟩:=id hl;obtain⟨⟨Rn,ED,data2,E7⟩,Ci,DL,n2,hd2⟩:=id hb;simp only at hc hd DL hd2;subst hc hd DL hd2;rw [oneLt'_eq];simp only [if_true];refine ag (wpAny_cRoomFor hu (ag (Km (T:="list") ⟨_,ho,rfl⟩ uF ?_)));exact Ii uF ⟨_,ho,rfl⟩ Mp (Kv _ _) (Ca l b xs ys n n2 dd ED sl E7 e lt) ⟨ho,Ci,he,iY hq⟩
theorem FG{A:cS}{s:ax}{l b:Addr}{xs ys:Array Value}{e lt:Nat->Bool}(hl:s.heap.IsTuple l xs)(hb:s.heap.IsTuple b ys)(hu:A.units < cLine)
  (he:∀ j (h1:j < xs.size) (h2:j < ys.size),EqAt A.in1 s xs[j] ys[j] (e j)/\AW A.in1 s xs[j] ys[j] (lt j)):RL A s (.ref l) (.ref b) (tw e lt xs.size ys.size (min xs.size ys.size) 0):=by
 intro prog w E Q hq;obtain⟨⟨cls,dd,data,sl⟩,ho,hc,n,hd⟩:=id hl;obtain⟨⟨Rn,ED,data2,E7⟩,Ci,DL,n2,hd2⟩:=id hb;simp only at hc hd DL hd2;subst hc hd DL hd2;rw [oneLt'_eq];simp only [if_true];refine ag (wpAny_cRoomFor hu (ag (Km (T:="tuple") ⟨_,ho,rfl⟩ mF ?_)));exact Ii mF ⟨_,ho,rfl⟩ sZ (rj _ _) (y7 l b xs ys n n2 dd ED sl E7 e lt) ⟨ho,Ci,he,iY hq⟩
theorem Gq{n:Nat}{A:cS}{s:ax}{xs ys:List D}{vs ws:Array Value}{as bs:List Addr}(r1:hV s.heap vs.toList (mB xs) as)(r2:hV s.heap ws.toList (mB ys) bs)(n1:qv xs=true)(n2:qv ys=true)(hd:cf (mB xs)<=n)
  (hu:A.units+n < cLine) (hs:∀ j,j < xs.length->j < ys.length->∃ sh,cK sh (xs.getD j .eN)=true/\cK sh (ys.getD j .eN)=true) (j:Nat) (h1:j < vs.size) (h2:j < ws.size) :
  EqAt A s vs[j] ws[j] (ip (xs.getD j .eN) (ys.getD j .eN))/\AW A s vs[j] ws[j] (pe (xs.getD j .eN) (ys.getD j .eN)):=by
 have z1:=readsAll_len r1;have z2:=readsAll_len r2;have e1:vs.size=xs.length:=by simpa using z1
 have e2:ws.size=ys.length:=by simpa using z2
 refine⟨DV r1 r2 n1 n2 (by lia) j h1 h2,?_⟩;obtain⟨ZA,q1⟩:=kA r1 j (by simpa using h1);obtain⟨Vv,q2⟩:=kA r2 j (by simpa using h2);obtain⟨sh,g1,g2⟩:=hs j (by lia) (by lia);have dp:=lL xs j;have:=ua n sh (xs.getD j .eN) (ys.getD j .eN) A s _ _ _ _ (by lia) g1 g2 (pV n1 j) (pV n2 j) q1 q2 hu;simpa using this
theorem xt{n:Nat}{sh:og}{a b:D}{A:cS}{s:ax}{u v:Value}{as bs:List Addr}(hn:(pd a).depth<=n)(h1:cK sh a=true)(h2:cK sh b=true)(n1:nr a=true)(n2:nr b=true)(r1:Reads s.heap u (pd a) as)(r2:Reads s.heap v (pd b) bs)
  (hu:A.units+n < cLine):RL A s u v (pe a b):=by
 cases sh with
 | int =>
  first | obtain⟨_,rfl⟩:=dM h1 | obtain⟨_,rfl⟩:=dI h1 | obtain⟨_,rfl⟩:=dJ h1
  first | obtain⟨_,rfl⟩:=dM h2 | obtain⟨_,rfl⟩:=dI h2 | obtain⟨_,rfl⟩:=dJ h2
  cases r1; cases r2;intro prog w E Q hq;exact oneLt_int hq
 | tup l =>
  first | obtain⟨_,rfl⟩:=dM h1 | obtain⟨_,rfl⟩:=dI h1 | obtain⟨_,rfl⟩:=dJ h1
  first | obtain⟨_,rfl⟩:=dM h2 | obtain⟨_,rfl⟩:=dI h2 | obtain⟨_,rfl⟩:=dJ h2
  rename_i xs ys;have n1:qv xs=true:=n1;have n2:qv ys=true:=n2;cases r1 with
  | tuple k1 k2 k3 k4 =>
   cases r2 with
   | tuple m1 m2 m3 m4 =>
    rename_i p o vs c p' o' ws c';have hd:(pd (.tup xs)).depth=cf (mB xs)+1:=rfl;obtain⟨n',rfl⟩:∃ n',n=n'+1:=⟨n - 1,by lia⟩;have z1:=readsAll_len k4;have z2:=readsAll_len m4;have e1:vs.size=xs.length:=by simpa using z1
    have e2:ws.size=ys.length:=by simpa using z2
    have base:=FG (A:=A) (s:=s) ⟨_,k1,k2,_,k3⟩ ⟨_,m1,m2,_,m3⟩ (by lia) (Gq (A:=A.in1) (n:=n') k4 m4 n1 n2 (by lia) (by show A.units+1+n' < cLine; lia) fun j j1 j2=>by
     obtain⟨sj,hsj,g1,g2⟩:=rR (l:=l) (ds:=xs) h1 j j1;obtain⟨sj',abE,g1',Zm⟩:=rR (l:=l) (ds:=ys) h2 j j2;rw [g2] at Zm; cases Zm;exact⟨sj,g1,g1'⟩)
    have fin:=pz xs ys (min xs.length ys.length) 0 (cw _) rfl;rw [e1,e2,fin] at base;exact base
 | lst l =>
  first | obtain⟨_,rfl⟩:=dM h1 | obtain⟨_,rfl⟩:=dI h1 | obtain⟨_,rfl⟩:=dJ h1
  first | obtain⟨_,rfl⟩:=dM h2 | obtain⟨_,rfl⟩:=dI h2 | obtain⟨_,rfl⟩:=dJ h2
  rename_i xs ys;have n1:qv xs=true:=n1;have n2:qv ys=true:=n2;cases r1 with
  | list k1 k2 k3 k4 =>
   cases r2 with
   | list m1 m2 m3 m4 =>
    rename_i p o vs c p' ZA o' ws c' Vv;have hd:(pd (.cW xs)).depth=cf (mB xs)+1:=rfl;obtain⟨n',rfl⟩:∃ n',n=n'+1:=⟨n - 1,by lia⟩;have z1:=readsAll_len k4;have z2:=readsAll_len m4;have e1:vs.size=xs.length:=by simpa using z1
    have e2:ws.size=ys.length:=by simpa using z2
    have base:=Jc (A:=A) (s:=s) ⟨_,k1,k2,_,k3⟩ ⟨_,m1,m2,_,m3⟩ (by lia) (Gq (A:=A.in1) (n:=n') k4 m4 n1 n2 (by lia) (by show A.units+1+n' < cLine; lia) fun j j1 j2=>⟨l,rS (s:=l) (ds:=xs) h1 j j1,rS (s:=l) (ds:=ys) h2 j j2⟩);have fin:=pz xs ys (min xs.length ys.length) 0 (cw _) rfl;rw [e1,e2,fin] at base;exact base
theorem DD{prog:bI}{w:World}{A:cS}{s:ax}{b fin:Bool}{Q:Bool->ax->Prop}{n:Nat}(hu:A.units+n < cLine):∀ (l:List og) (xs ys:List D) (vs ws:List Value) (as bs:List Addr) (i:Nat),fG l xs=true->fG l ys=true->qv xs=true->qv ys=true ->
  hV s.heap vs (mB xs) as->hV s.heap ws (mB ys) bs->cf (mB xs)<=n->fin=false->Q (mL xs ys) s->KatLex prog w A b fin Q (vs.zip ws) i s:=by
 intro l xs;induction xs generalizing l with
 | nil =>
  intro ys vs ws as bs i h1 h2 n1 n2 r1 r2 hd hf hq;cases r1;cases l with
  | nil =>
   cases ys with
   | nil=>cases r2; subst hf; exact hq
   | cons _ _=>cases h2
  | cons _ _=>cases h1
 | cons x xs ih =>
  intro ys vs ws as bs i h1 h2 n1 n2 r1 r2 hd hf hq;cases l with
  | nil=>cases h1
  | cons sh l =>
  cases ys with
  | nil=>cases h2
  | cons y ys =>
  cases r1 with
  | @cons v vs _ _ _ _ a1 a2 =>
  cases r2 with
  | @cons u ws _ _ _ _ b1 b2 =>
  have h1:(cK sh x&&fG l xs)=true:=h1;have h2:(cK sh y&&fG l ys)=true:=h2;have n1:(nr x&&qv xs)=true:=n1;have n2:(nr y&&qv ys)=true:=n2;rw [aI] at h1 h2 n1 n2;have Zd:(pd x).depth<=n/\cf (mB xs)<=n:=by
   have hd:cf (pd x :: mB xs)<=n:=hd;simp only [cf] at hd;lia
  show KatLex prog w A b fin Q ((v,u) :: vs.zip ws) i s;have eq:=eqAt_reads (pd x) (pd y) A s _ _ _ _ a1 b1 (kI _ n1.1) (kI _ n2.1) (by lia);rw [uh _ _ n1.1 n2.1] at eq;refine kat_cons (eq prog w _ _ ?_);rw [nG] at hq;cases q:ip x y with
  | true =>
   rw [q,if_pos rfl] at hq;exact kat_yes (ih l ys vs ws _ _ (i+1) h1.2 h2.2 n1.2 n2.2 a2 b2 Zd.2 hf hq)
  | false =>
   rw [q,if_neg (by simp)] at hq;refine kat_no ?_;cases c:(b&&i == 0) with
   | true=>exact xt Zd.1 h1.1 h2.1 n1.1 n2.1 a1 b1 hu prog w _ Q hq
   | false=>exact kat_one v u (ua n sh x y A s _ _ _ _ Zd.1 h1.1 h2.1 n1.1 n2.1 a1 b1 hu prog w _ _ hq)
end
def lR{α:Type}(n:Nat)(P:α->Prop):KasT α->Prop
 | .ret a=>P a
 | .ask i j k=>i < n/\j < n/\∀ b,lR n P (k b)
theorem lR.bind{α β:Type}{n:Nat}{P:α->Prop}{P':β->Prop}{f:α->KasT β}:∀ {t:KasT α},lR n P t->(∀ a,P a->lR n P' (f a))->lR n P' (t.bind f)
 | .ret a,q,h=>h a q
 | .ask i j k,⟨q1,q2,q3⟩,h=>⟨q1,q2,fun b=>lR.bind (q3 b) h⟩
theorem Gk{α:Type}{n:Nat}{lt:Nat->Nat->Bool}{cmp:Nat->Nat->(Bool->ax->Prop)->ax->Prop}{s:ax}{Q:α->ax->Prop}(hc:∀ i j,i < n->j < n->∀ C:Bool->ax->Prop,C (lt i j) s->cmp i j C s) :
  ∀ (t:KasT α),lR n (fun _=>True) t->Q (iQ lt t) s->t.kasWp cmp Q s
 | .ret a,_,q=>q
 | .ask i j k,⟨h1,h2,h3⟩,q=>hc i j h1 h2 _ (Gk hc (k (lt i j)) (h3 _) q)
def Bd(n:Nat)(p:Array Nat):Prop:=0 < n/\∀ x∈p,x < n
theorem Bd.at{n:Nat}{p:Array Nat}(h:Bd n p)(k:Nat):p.getD k 0 < n:=by
 by_cases hk:k < p.size
 ·have:p.getD k 0=p[k]:=by simp [Ky,hk]
  rw [this]; exact h.2 _ (Array.getElem_mem hk)
 ·have:p.getD k 0=0:=by simp [Ky,hk]
  rw [this]; exact h.1
theorem Bd.perm{n:Nat}{p q:Array Nat}(h:Bd n p)(hp:q.Perm p):Bd n q:=⟨h.1,fun x hx=>h.2 x (hp.mem_iff.mp hx)⟩
theorem Eh{n:Nat}{p:Array Nat}(h:Bd n p):∀ (f k:Nat),lR n (fun _=>True) (qY p f k)
 | 0,k=>trivial
 | f+1,k=>⟨h.at _,h.at _,fun b=>by
  show lR n _ (if b=true then wd k else qY p f (k+1));split
  ·trivial
  ·exact Eh h f (k+1)⟩
theorem vS{n:Nat}:∀ (f:Nat) (p:Array Nat) (k q:Nat),Bd n p->lR n (fun r=>Bd n r.1) (lU f p k q)
 | 0,p,k,q,h=>h
 | f+1,p,k,q,h=>⟨h.at _,h.at _,fun b=>by
  show lR n _ (if b=true then (if q > 0 then lU f (gU p (k - (q+1)) k) (k+1) 0 else lU f p (k+1) 0) else .ask (p.getD (k - 1) 0) (p.getD k 0) fun d=>if d=true then .ret (p,k,q) else lU f p (k+1) (q+1));split
  ·split
   ·exact vS f _ _ _ (h.perm (kz _ _ _))
   ·exact vS f _ _ _ h
  ·refine⟨h.at _,h.at _,fun d=>?_⟩;show lR n _ (if d=true then wd (p,k,q) else lU f p (k+1) (q+1));split
   ·exact h
   ·exact vS f _ _ _ h⟩
theorem Hs{n:Nat}{p:Array Nat}(h:Bd n p)(k m:Nat):lR n (fun r=>Bd n r.2) (OB k m p) :=
 lR.bind (Eh (h.perm (kz _ _ _)) _ _) fun _ _=>h.perm (kz _ _ _)
theorem vR{n:Nat}{p:Array Nat}(h:Bd n p)(k m:Nat):lR n (fun r=>Bd n r.2) (yO k m p) :=
 lR.bind (vS _ _ _ _ h) fun r hr=>by
  split
  ·exact Hs (hr.perm (kz _ _ _)) _ _
  ·exact Hs hr _ _
theorem NR{n:Nat}{p:Array Nat}(h:Bd n p)(m:Nat):lR n (fun r=>Bd n r.2) (kas_count m p) :=
 lR.bind (Eh h _ _) fun k _=>by
  split
  ·exact h
  ·split
   ·refine⟨h.at _,h.at _,fun b=>?_⟩;show lR n _ (if b=true then wd (k,p) else yO k m (gU p 0 k));split
    ·exact h
    ·exact vR (h.perm (kz _ _ _)) _ _
   ·exact vR h _ _
theorem w5{n:Nat}{p:Array Nat}(h:Bd n p)(k:Nat):∀ (f l r:Nat),lR n (fun _=>True) (kl p k f l r)
 | 0,l,r=>trivial
 | f+1,l,r=>by
  show lR n _ (if l>=r then wd l else .ask (p.getD k 0) (p.getD ((l+r) / 2) 0) fun c=>if c=true then kl p k f l ((l+r) / 2) else kl p k f ((l+r) / 2+1) r);split
  ·trivial
  ·refine⟨h.at _,h.at _,fun b=>?_⟩;show lR n _ (if b=true then kl p k f l ((l+r) / 2) else kl p k f ((l+r) / 2+1) r);split
   ·exact w5 h k f _ _
   ·exact w5 h k f _ _
theorem Ma{n:Nat}:∀ (f:Nat) (p:Array Nat) (k:Nat),Bd n p->lR n (fun _=>True) (kas_bin f p k)
 | 0,p,k,h=>trivial
 | f+1,p,k,h=>lR.bind (w5 h k _ _ _) fun l _=>Ma f _ _ (h.perm (bubble_perm _ _ _))
theorem RJ{n:Nat}(h:0 < n):lR n (fun _=>True) (kas_sort n) :=
 lR.bind (NR ⟨h,fun x hx=>by simpa using hx⟩ n) fun r hr=>by
  split
  ·exact Ma _ _ _ hr
  ·trivial
mutual
theorem xh{h h':Heap}(hk:∀ b o vs n,o.data=.seq vs n->h.get? b=some o->h'.get? b=some o):∀ (d:D) {v:Value} {as:List Addr},nr d=true->Reads h v (pd d) as->Reads h' v (pd d) as
 | .eN,_,_,_,r=>by cases r; exact .none
 | .bl b,_,_,_,r=>by cases r; exact .bool b
 | .int i,_,_,_,r=>by cases r; exact .int i _
 | .str x,_,_,_,r=>by cases r; exact .str x _
 | .tup ds,_,_,n,r=>by
  cases r with
  | tuple h1 h2 h3 h4=>exact .tuple (hk _ _ _ _ h3 h1) h2 h3 (nv hk ds n h4)
 | .cW ds,_,_,n,r=>by
  cases r with
  | list h1 h2 h3 h4=>exact .list (hk _ _ _ _ h3 h1) h2 h3 (nv hk ds n h4)
 | .kW _,_,_,n,_=>by cases n
 | .ref _,_,_,n,_=>by cases n
 | .exc _,_,_,n,_=>by cases n
theorem nv{h h':Heap}(hk:∀ b o vs n,o.data=.seq vs n->h.get? b=some o->h'.get? b=some o):∀ (ds:List D) {vs:List Value} {as:List Addr},qv ds=true->hV h vs (mB ds) as->hV h' vs (mB ds) as
 | [],_,_,_,r=>by cases r; exact .nil
 | d :: ds,_,_,n,r=>by
  have n:(nr d&&qv ds)=true:=n;rw [aI] at n;cases r with
  | cons r1 r2=>exact .cons (xh hk d n.1 r1) (nv hk ds n.2 r2)
end
mutual
theorem IJ(G:Gp):∀ (sh:og) (d:D) (n:Nat),cK sh d=true->Vp sh<=n->Sn G n d d
 | .int,.int i,n,_,_=>.int i
 | .tup l,.tup ds,n,h,hn=>by
  have hn:Rb l+1<=n:=hn;obtain⟨m,rfl⟩:∃ m,n=m+1:=⟨n - 1,by lia⟩;exact KH G l ds m h (by lia)
 | .lst s,.cW ds,n,h,hn=>by
  have hn:Vp s+1<=n:=hn;obtain⟨m,rfl⟩:∃ m,n=m+1:=⟨n - 1,by lia⟩;exact KI G s ds m h (by lia)
theorem KH(G:Gp):∀ (l:List og) (ds:List D) (m:Nat),fG l ds=true->Rb l<=m->Sn G (m+1) (.tup ds) (.tup ds)
 | [],[],m,_,_=>.IE
 | s :: l,d :: ds,m,h,hm=>by
  have h:(cK s d&&fG l ds)=true:=h;have hm:max (Vp s) (Rb l)<=m:=hm;rw [aI] at h;exact .rB (IJ G s d m h.1 (by lia)) (KH G l ds m h.2 (by lia))
theorem KI(G:Gp):∀ (s:og) (ds:List D) (m:Nat),g8 s ds=true->Vp s<=m->Sn G (m+1) (.cW ds) (.cW ds)
 | s,[],m,_,_=>.Bl
 | s,d :: ds,m,h,hm=>by
  have h:(cK s d&&g8 s ds)=true:=h;rw [aI] at h;exact .rK (IJ G s d m h.1 hm) (KI G s ds m h.2 hm)
end
theorem getD_at{α:Type}(xs:List α)(d:α){i:Nat}(h:i < xs.length):xs.getD i d=xs[i]:=by
 rw [eE,au h]; rfl
theorem zQ{α:Type}(xs:List α)(d:α):(fc xs.length).map (fun i=>xs.getD i d)=xs:=by
 refine List.ext_getElem (by simp) fun i h1 h2=>?_;rw [kU,lW];exact getD_at _ _ h2
theorem E1{h:Heap}{s1:og}{l:List og}:∀ (zs:List D) (vs:List Value),(∀ z∈zs,cK (.tup (s1 :: l)) z=true)->(∀ i,i < vs.length->∃ as,Reads h (vs.getD i .none) (pd (zs.getD i .eN)) as)->vs.length=zs.length ->
  ∃ fs,KatTups h vs fs/\fs.length=vs.length/\∀ f∈fs,∃ d as,cK s1 d=true/\Reads h f (pd d) as:=by
 intro zs;induction zs with
 | nil =>
  intro vs _ _ h;have:vs=[]:=List.length_eq_zero_iff.mp h;subst this;exact⟨[],trivial,rfl,fun _ h=>by cases h⟩
 | cons z zs ih =>
 intro vs hs hr hl;cases vs with
 | nil=>cases hl
 | cons v vs =>
  obtain⟨fs,h1,h2,h3⟩:=ih vs (fun z hz=>hs z (aL _ hz)) (fun i hi=>by
   obtain⟨as,r⟩:=hr (i+1) (by simpa using hi);exact⟨as,by simpa using r⟩) (by simpa using hl)
  obtain⟨as,r⟩:=hr 0 (by simp);have hz:=hs z (by simp);simp only [List.getD_cons_zero] at r;cases z <;> first | (cases hz; done) | skip
  rename_i ds;cases ds with
  | nil=>cases hz
  | cons d ds =>
   have hz:(cK s1 d&&fG l ds)=true:=hz;rw [aI] at hz;cases r with
   | tuple k1 k2 k3 k4 =>
    rename_i p o ws c;have k5:hV h ws.toList (pd d :: mB ds) as:=k4;cases q:ws.toList with
    | nil=>rw [q] at k5; cases k5
    | cons f rest =>
     rw [q] at k5;cases k5 with
     | cons r1 r2 =>
      have hf:ws[0]?=some f:=by
       have:ws.toList[0]?=some f:=by rw [q]; rfl
       simpa using this
      refine⟨f :: fs,.cons k1 k2 k3 hf h1,by simp [h2],fun g hg=>?_⟩;rcases List.mem_cons.mp hg with rfl | hg
      ·exact⟨d,_,hz.1,r1⟩
      ·exact h3 g hg
def OO:og->Value
 | .int=>.type "int"
 | .tup _=>.type "tuple"
 | .lst _=>.type "list"
theorem B7{M:Model}{h:Heap}{sh:og}{d:D}{v:Value}{as:List Addr}(hs:cK sh d=true)(r:Reads h v (pd d) as):Looks M h (typeOf v) (OO sh):=by
 cases sh with
 | int =>
  cases d <;> first | (cases hs; done) | skip
  cases r;exact .now
 | tup l =>
  cases d <;> first | (cases hs; done) | skip
  cases r with
  | tuple k1 k2 k3 k4 =>
   rename_i p o ws c;have:Looks M h (typeOf (.ref p)) o.cls:=(Looks.ld k1).andThen .now;rw [k2] at this; exact this
 | lst l =>
  cases d <;> first | (cases hs; done) | skip
  cases r with
  | list k1 k2 k3 k4 =>
   rename_i p o ws c as;have:Looks M h (typeOf (.ref p)) o.cls:=(Looks.ld k1).andThen .now;rw [k2] at this; exact this
theorem Nf{prog:bI}{w:World}{A:cS}{s:ax}{E:Value->ax->Prop}{Q:Bool->ax->Prop}{n:Nat}{b:Bool}{l:List og}{a c:D}{u v:Value}{as bs:List Addr}(hn:(pd a).depth<=n+1)(h1:cK (.tup l) a=true)(h2:cK (.tup l) c=true)(n1:nr a=true)(n2:nr c=true)
  (r1:Reads s.heap u (pd a) as) (r2:Reads s.heap v (pd c) bs) (hu:A.units+n < cLine) (hq:Q (pe a c) s):wpAny (model prog w) A (keyLt' (tuples' b) u v) Q E s:=by
 first | obtain⟨_,rfl⟩:=dM h1 | obtain⟨_,rfl⟩:=dI h1 | obtain⟨_,rfl⟩:=dJ h1
 first | obtain⟨_,rfl⟩:=dM h2 | obtain⟨_,rfl⟩:=dI h2 | obtain⟨_,rfl⟩:=dJ h2
 rename_i xs ys;cases r1 with
 | tuple k1 k2 k3 k4 =>
  cases r2 with
  | tuple m1 m2 m3 m4 =>
   rename_i p o vs c p' o' ws c';have z1:=readsAll_len k4;have z2:=readsAll_len m4;have e1:vs.size=xs.length:=by simpa using z1
   have e2:ws.size=ys.length:=by simpa using z2
   have el:∀ (l:List og) (xs ys:List D),fG l xs=true->fG l ys=true->xs.length=ys.length:=by
    intro l;induction l with
    | nil =>
     intro xs ys h1 h2;cases xs with
     | nil=>cases ys with
      | nil=>rfl
      | cons _ _=>cases h2
     | cons _ _=>cases h1
    | cons s l ih =>
     intro xs ys h1 h2;cases xs with
     | nil=>cases h1
     | cons x xs =>
      cases ys with
      | nil=>cases h2
      | cons y ys =>
       have h1:(cK s x&&fG l xs)=true:=h1;have h2:(cK s y&&fG l ys)=true:=h2;rw [aI] at h1 h2;rw [ak,ak,ih xs ys h1.2 h2.2]
   have hd:(pd (.tup xs)).depth=cf (mB xs)+1:=rfl;refine kat_lt k1 k3 m1 m3 (DD (n:=n) hu l xs ys _ _ _ _ 0 h1 h2 n1 n2 k4 m4 (by lia) (decide_eq_false (by rw [e1,e2,el l xs ys h1 h2]; lia)) hq)
section
variable {X:Cx}
theorem M6{x:D}{G:Gp}{zs:List D}(ty:Be x G)(hi:itemsOf x G=some zs):ph x G=some zs:=by
 cases x <;> first | exact ty.elim | exact hi
theorem vO (hc:X.calm=true) (hu:X.A.units+64 < cLine):sx X (.builtin "sorted") vP:=by
 intro pins s σ H G xs ds us Q I ab rx rd q;unfold vP at q;split at q
 ·rename_i x;obtain⟨sh,zs,ty,hi,vC,b7,h64,q⟩:=q;obtain⟨w1,rfl,Fb⟩:=rd.one;obtain⟨u,rfl,ru⟩:=rx.one;obtain⟨l,vs,bH,rfl,rv,rs,hl,_⟩:=nO I ab ru Fb (M6 ty hi);have hl1:=rv.length;have xE:=rs.length;have hsz:aX=16777216:=cD;have hz:∀ z∈zs,cK sh z=true:=fun z h=>List.all_eq_true.mp vC z h;by_cases HY:bH.length < 2
  ·refine II hl HY ?_;obtain⟨e,he⟩:=sortedAll_at s.heap bH bH.toArray;have hp:H (s.heap.objs.size+1)=none:=I.b7.fresh (yV _);have es:rC zs=zs:=uO sh hz (.refl _) (by
    match zs,xE,HY with
    | [],_,_=>exact .nil
    | [z],_,_=>exact List.pairwise_singleton _ _
    | _ :: _ :: _,h,f=>exact absurd f (by rw [<-hl1,h]; simp))
   rw [es] at q;refine⟨.ref (s.heap.objs.size+1),upd H (s.heap.objs.size+1) (.lst vs),.ref _,_,I.laid (t':=s.toks) (fun b o e=>sortedAll_old e) (yV _) ?_,.FO ab hp rs,rfl,.ref _,q _ (ab.free hp)⟩;exact⟨by lia,bH,e,rv,he⟩
  ·obtain⟨m,F0⟩:=I.fr;have nz:0 < zs.length:=by lia
   have nL:∀ b o vs n,o.data=.seq vs n->s.heap.get? b=some o->b≠X.env.locals:=fun b o vs n e1 e2 z=>by
    obtain⟨o',es,ep,Cj,A6,_⟩:=F0.ns;rw [z,Cj] at e2; cases e2; rw [A6] at e1; cases e1
   unfold Wq at b7;rw [aI] at b7;have hdp:Vp sh<=7:=of_decide_eq_true b7.1;have sn:∀ z∈zs,Sn G 7 z z:=fun z h=>IJ G sh z 7 (hz z h) hdp;refine kat_sorted F0 FN hl (by lia) (by lia) fun Dd e1 h' F N wO=>?_;obtain⟨kk,ns⟩:=wK I F0 F fun p hp=>N p (aL _ hp);have Bm:∀ i,i < bH.length->∃ as,Reads h' (bH.getD i .none) (pd (zs.getD i .eN)) as:=fun i hi=>by
    have i1:i < zs.length:=by lia
    have i2:i < vs.length:=by lia
    have g1:zs.getD i .eN=zs[i]:=getD_at _ _ i1;have g2:bH.getD i .none=bH[i]:=getD_at _ _ hi;obtain⟨v,hv,Yd⟩:=rs.get (au i1);obtain⟨u,Lu,ruv⟩:=rv.get hv;rw [au hi] at Lu;cases Lu;obtain⟨as,r⟩:=(gW I ab (sn _ (dD i1))).1 v _ Yd ruv;rw [g1,g2];exact⟨as,xh (fun b o vs n e1 e2=>kk b o (nL b o vs n e1 e2) e2) _ (sn _ (dD i1)).nr r⟩
   have Bk:∀ i,i < zs.length->cK sh (zs.getD i .eN)=true:=fun i hi=>by rw [getD_at _ _ hi]; exact hz _ (dD hi)
   have Z2:∀ i,i < zs.length->nr (zs.getD i .eN)=true:=fun i hi=>by rw [getD_at _ _ hi]; exact(sn _ (dD hi)).nr
   have dpz:∀ i,i < zs.length->(pd (zs.getD i .eN)).depth<=7:=fun i hi=>by rw [getD_at _ _ hi]; exact AE (sn _ (dD hi))
   let zz:Nat->D:=fun i=>if i < zs.length then zs.getD i .eN else zs.getD 0 .eN
   have XM:∀ i,cK sh (zz i)=true:=fun i=>by
    show cK sh (if i < zs.length then zs.getD i .eN else zs.getD 0 .eN)=true;split
    ·exact Bk i (by assumption)
    ·exact Bk 0 nz
   let lt:Nat->Nat->Bool:=fun i j=>pe (zz i) (zz j)
   have swo:NU lt:=⟨fun i j h=>B6 sh (XM i) (XM j) h,fun i j k h1 h2=>zU sh (XM i) (XM j) (XM k) h1 h2⟩;have lte:∀ i j,i < zs.length->j < zs.length->lt i j=pe (zs.getD i .eN) (zs.getD j .eN):=fun i j hi hj=>by
    show pe (if i < zs.length then _ else _) (if j < zs.length then _ else _)=_;rw [if_pos hi,if_pos hj]
   obtain⟨p,ep,GA,psz,hup⟩:=O6 swo (n:=bH.length) (by lia);have hA2:X.A.in1.in1.units=X.A.units+2:=rfl;have ask:∀ κ:SortKind,(∀ i j,i < bH.length->j < bH.length->∀ C:Bool->ax->Prop,C (pe (zs.getD i .eN) (zs.getD j .eN)) { s with heap:=h' }->kas_ask X.prog X.w X.A.in1.in1 κ bH i j C { s with heap:=h' }) ->
     (kas_sort bH.length).kasWp (kas_ask X.prog X.w X.A.in1.in1 κ bH) (fun p X9=>KasFin X.base X.env.locals m Dd e1 (p.toList.map fun i=>bH.getD i gu) (fun s3=>su X pins σ H G Q (.ref Dd) s3) X9) { s with heap:=h' }:=by
    intro κ hk;refine Gk (lt:=lt) (n:=bH.length) (fun i j i1 i2 C hC=>hk i j i1 i2 C (by rw [<-lte i j (by lia) (by lia)]; exact hC)) _ (RJ (by lia)) ?_;rw [ep];refine KasFin.intro (g:=fun o=>(Dd,o) :: sW X.base s.heap X.env.locals) F N (.head (fun q hq z=>absurd (wO q hq) (by rw [z]; exact ib _))) fun h2 c F2 N2=>?_;obtain⟨k2,ns2⟩:=wK I F0 F2 fun p hp=>N2 p (aL _ hp);have hD:s.heap.get? Dd=none:=by
     have nD:=N _ cA;cases qd:s.heap.get? Dd with
     | none=>rfl
     | some o=>exact absurd (wO _ (xA nD.2.1 nD.2.2 qd)) (ib _)
    have hp:H Dd=none:=LF I.b7 hD;have rvp:Vals (p.toList.map fun i=>vs.getD i .eN) (p.toList.map fun i=>bH.getD i gu):=by
     have:∀ (ps:List Nat),(∀ i∈ps,i < bH.length)->Vals (ps.map fun i=>vs.getD i .eN) (ps.map fun i=>bH.getD i gu):=by
      intro ps;induction ps with
      | nil=>intro _; exact .nil
      | cons i ps ih =>
       intro hh;have hi:=hh i (by simp);refine .cons ?_ (ih fun j hj=>hh j (aL _ hj));have i2:i < vs.length:=by lia
       obtain⟨u,Lu,ruv⟩:=rv.get (au i2);rw [au hi] at Lu;cases Lu;show RelV (vs.getD i .eN) (bH.getD i .none);rw [getD_at _ _ i2,getD_at _ _ hi]; exact ruv
     exact this _ fun i hi=>by simpa using GA.mem_iff.mp hi
    have rsp:aU X.K H (p.toList.map fun i=>vs.getD i .eN) (p.toList.map fun i=>zs.getD i .eN):=by
     have:∀ (ps:List Nat),(∀ i∈ps,i < bH.length)->aU X.K H (ps.map fun i=>vs.getD i .eN) (ps.map fun i=>zs.getD i .eN):=by
      intro ps;induction ps with
      | nil=>intro _; exact .nil
      | cons i ps ih =>
       intro hh;have hi:=hh i (by simp);refine .cons ?_ (ih fun j hj=>hh j (aL _ hj));have i2:i < vs.length:=by lia
       have i1:i < zs.length:=by lia
       obtain⟨v,hv,r⟩:=rs.get (au i1);rw [au i2] at hv;cases hv;show bV X.K H (vs.getD i .eN) (zs.getD i .eN);rw [getD_at _ _ i2,getD_at _ _ i1]; exact r
     exact this _ fun i hi=>by simpa using GA.mem_iff.mp hi
    have es:rC zs=p.toList.map fun i=>zs.getD i .eN:=by
     refine uO sh hz ?_ ?_
     ·have h1:(p.toList.map fun i=>zs.getD i .eN).Perm ((fc zs.length).map fun i=>zs.getD i .eN):=by
       have:bH.length=zs.length:=by lia
       rw [<-this];exact GA.map _
      rw [zQ] at h1;exact h1
     ·rw [BK,List.pairwise_iff_getElem];intro i j hi hj Nu;have g1:gA p i=p.toList[i]:=by
       have:i < p.size:=by simpa using hi
       simp [gA,Ky,this]
      have g2:gA p j=p.toList[j]:=by
       have:j < p.size:=by simpa using hj
       simp [gA,Ky,this]
      have bi:p.toList[i] < bH.length:=by simpa using GA.mem_iff.mp (dD hi)
      have bj:p.toList[j] < bH.length:=by simpa using GA.mem_iff.mp (dD hj)
      have:=hup i j (by lia) (by have:j < p.toList.length:=hj; rw [eU,psz] at this; exact this);rw [g1,g2,lte _ _ (by lia) (by lia)] at this;exact this
    rw [es] at q;have ln:(p.toList.map fun i=>vs.getD i .eN).length<=aX:=by rw [ao,eU,psz]; lia
    refine⟨.ref Dd,upd H Dd (.lst (p.toList.map fun i=>vs.getD i .eN)),.ref _,_,Inv.U3 (t':=s.toks) I k2 ns2 hD ?_,.FO ab hp rsp,rfl,.ref _,q _ (ab.free hp)⟩;exact⟨ln,_,c,rvp,(N2 _ cA).1⟩
   have gen:∀ i j,i < bH.length->j < bH.length->∀ C:Bool->ax->Prop,C (pe (zs.getD i .eN) (zs.getD j .eN)) { s with heap:=h' }->wpAny (model X.prog X.w) X.A.in1.in1 (keyLt' oneType' (bH.getD i gu) (bH.getD j gu)) C (fun _ _=>False) { s with heap:=h' }:=by
    intro i j hi hj C hC;obtain⟨as,r1⟩:=Bm i hi;obtain⟨bs,r2⟩:=Bm j hj;rw [keyLt'_oneType];exact xt (s:={ s with heap:=h' }) (n:=7) (dpz i (by lia)) (Bk i (by lia)) (Bk j (by lia)) (Z2 i (by lia)) (Z2 j (by lia)) r1 r2 (by rw [hA2]; lia) X.prog X.w _ C hC
   have lk:∀ v∈bH,Looks (model X.prog X.w) h' (typeOf v) (OO sh):=fun v hv=>by
    obtain⟨i,hi,rfl⟩:=iX hv;obtain⟨as,r⟩:=Bm i hi;rw [getD_at _ _ hi] at r;exact B7 (Bk i (by lia)) r
   cases sh with
   | int=>exact kas_kind (s:={ s with heap:=h' }) (T:=.type "int") (by lia) lk rfl rfl (ask oneType' gen)
   | lst ss=>exact kas_kind (s:={ s with heap:=h' }) (T:=.type "list") (by lia) lk rfl rfl (ask oneType' gen)
   | tup ss =>
    cases ss with
    | nil=>exact absurd b7.2 (by simp)
    | cons s1 ss =>
     obtain⟨fs,t1,t2,t3⟩:=E1 (h:=h') zs bH hz Bm (by lia);refine kat_kind (s:={ s with heap:=h' }) (T:=OO s1) t1 (by lia) (fun f hf=>?_) (by cases s1 <;> rfl) (ask _ fun i j hi hj C hC=>?_)
     ·obtain⟨d,as,h1,h2⟩:=t3 f hf;exact B7 h1 h2
     ·obtain⟨as,r1⟩:=Bm i hi;obtain⟨bs,r2⟩:=Bm j hj;exact Nf (s:={ s with heap:=h' }) (n:=7) (by have:=dpz i (by lia); lia) (Bk i (by lia)) (Bk j (by lia)) (Z2 i (by lia)) (Z2 j (by lia)) r1 r2 (by rw [hA2]; lia) hC
 ·exact q.elim
end
end K2
end
section
namespace L2
open PySem PySem.Spec PyProof.Rows
section
variable {prog:bI} {w:World} {A:cS} {E:Value->ax->Prop} {s:ax}
theorem Jr{d:Addr}{od:Obj}{es:Array fI}{c:Nat}{Q:Value->ax->Prop}(ns:(d == df)=false)(EC:s.heap.get? d=some od)(ex:od.ExactDict)(dd:od.data=.dict es c)
  (hQ:Q (.ref s.heap.objs.size) { s with heap:=s.heap.push { cls:=.type "dict_keyiterator",data:=.fields #[.ref d,.int 0 0,.int es.size 0,.int c 0] } }):wpAny (model prog w) A (EJ (.ref d)) Q E s:=by
 have ty:s.TypeIs (.ref d) "dict":=⟨od,EC,ex.1⟩;refine oF ty F.slot_dict_iter (da F.slot_dict_iter ty F.entry_dict_iter ?_ (F.args_dict_iter_1 _));unfold Builtin.«dict.__iter__» Builtin.Dict.dictSlotNone;refine ag (ag (yK ty (show wpAny _ _ (pure (eL d)) _ _ s from ay ?_)));show wpAny _ _ (lA d >>= _) _ _ s;unfold lA;rw [if_neg (fun z=>by rw [ns] at z; cases z)];refine ag (ay (ag (gL EC dd (ag (mZ EC dd ?_)))));refine ag (dc (ay ⟨_,rfl,"dict_keyiterator",_,⟨_,a9 _ rfl,rfl⟩,F.slot_dict_keyiterator_next.lookup,?_⟩));simpa [EI] using hQ
theorem Nd{it d:Addr}{od:Obj}{es:Array fI}{i c:Nat}{Q:Option Value->ax->Prop}(ki:s.heap.IsKeyIter it d i es.size c)(EC:s.heap.get? d=some od)(dd:od.data=.dict es c)(hi:i < es.size)
  (hQ:∀ h',h'.IsKeyIter it d (i+1) es.size c->fP it s.heap h'->Q (some es[i].key) { s with heap:=h' }):wpAny (model prog w) A (xa (.ref it)) Q E s:=by
 obtain⟨o,ho,hc,hf⟩:=id ki;unfold xa;refine ag (qE (jr (name:=qN "__next__") ki.typeIs jO (da jO ki.typeIs Iw ?_ (HK _))));refine ag (ay (ag (ag ?_)))
 first | refine ag (jE ki.typeIs (ay ?_)) | refine ag (mw ki.typeIs (ay ?_))
 refine ag (oT ho hf ?_);have Wh:fB "dict_keyiterator" = false:=by decide
 rw [Wh];show wpAny _ _ (if (eL d == gu)=true then _ else _) _ _ s;rw [if_neg (fun z=>by cases z)];refine ag (ay (ag (gL EC dd ?_)));rw [if_neg (by simp)];refine ag (ay (ag (mZ EC dd ?_)));rw [if_neg (by simp)];refine ay ?_;dsimp only;rw [if_neg (show ¬ ((i:Int) < 0) from Int.not_lt.mpr (qQ i)),dE,ko hi];dsimp only;refine ag ?_
 first | refine ag (jE ki.typeIs (ay ?_)) | refine ag (mw ki.typeIs (ay ?_))
 refine ag (wpAny_isOneOf_keyiter ki.typeIs ?_);show wpAny _ _ (setField (.ref it) 1 (EI ((i:Int)+1)) >>= _) _ _ s;refine ag (So ho hf (by simp) ?_);have ki2:(s.heap.update it (Obj.mapFields (·.setIfInBounds 1 (EI ((i:Int)+1))))).IsKeyIter it d (i+1) es.size c :=
  ⟨_,hX _ ho (Obj.isFreed_of_fields (Obj.data_mapFields hf _)),(Obj.cls_mapFields ..).trans hc,by rw [Obj.data_mapFields hf]; simp [EI]⟩
 refine ag (cN (ag (wpAny_isOneOf_keyiter (s:={ s with heap:=s.heap.update it (Obj.mapFields (·.setIfInBounds 1 (EI ((i:Int)+1)))) }) ki2.typeIs ?_)));show wpAny _ _ (pure es[i].key) _ _ _;exact ay (ay ⟨_,rfl,ay (hQ _ ki2 (jM ..))⟩)
theorem Qf{it d:Addr}{od:Obj}{es:Array fI}{i c:Nat}{Q:Option Value->ax->Prop}(calm:A.handled=none)(ki:s.heap.IsKeyIter it d i es.size c)(EC:s.heap.get? d=some od)(dd:od.data=.dict es c)(hi:es.size<=i)
  (hQ:∀ h',Heap.ExtBut it s.heap h'->Q none { s with heap:=h' }):wpAny (model prog w) A (xa (.ref it)) Q E s:=by
 obtain⟨o,ho,hc,hf⟩:=id ki;unfold xa;refine ag (qE (jr (name:=qN "__next__") ki.typeIs jO (da jO ki.typeIs Iw ?_ (HK _))));refine ag (ay (ag (ag ?_)))
 first | refine ag (jE ki.typeIs (ay ?_)) | refine ag (mw ki.typeIs (ay ?_))
 refine ag (oT ho hf ?_);have Wh:fB "dict_keyiterator" = false:=by decide
 rw [Wh];show wpAny _ _ (if (eL d == gu)=true then _ else _) _ _ s;rw [if_neg (fun z=>by cases z)];refine ag (ay (ag (gL EC dd ?_)));rw [if_neg (by simp)];refine ag (ay (ag (mZ EC dd ?_)));rw [if_neg (by simp)];refine ay ?_;dsimp only;rw [if_neg (show ¬ ((i:Int) < 0) from Int.not_lt.mpr (qQ i)),dE,Oi hi];dsimp only;refine ag ?_
 first | refine ag (jE ki.typeIs (ay ?_)) | refine ag (mw ki.typeIs (ay ?_))
 show wpAny _ _ (setField (.ref it) 0 .none >>= _) _ _ s;refine ag (So ho hf (by simp) ?_);show wpAny _ _ (newExc (.type "StopIteration") [] >>= _) _ _ _;refine ag ?_;simp only [newExc,newTuple];refine ag (dc (ag (m:=BG _ _) (wpAny_of_eq (a:=gu) (by first | rfl | (simp only [BG]; rfl)) (dc ?_ (by size_fits)))) (by size_fits));simp only [raiseNew];refine ag (wpAny_handled ?_);rw [show A.in1.handled=none from calm];refine ag (ay (wpAny_throw ?_));refine ag (lS (T:="StopIteration") (b:=true) ⟨_,a9 _ rfl,rfl⟩ isSubtype_stop (?_));exact ay (hQ _ (((jM ..).extBut.push _).push _))
end
def Itk(a:Addr)(o:Obj)(es:Array fI)(ks:List V):It :=
 ⟨fun i H=>(∃ u,H a=some (.iC o u))/\i < es.size,fun i H v H'=>H'=H/\ks[i]?=some v,fun i H=>(∃ u,H a=some (.iC o u))/\es.size<=i⟩
theorem Mw{P:bI}{w:World}{K:ai}{tg:Expr}(a it:Addr)(o:Obj)(es:Array fI)(c:Nat)(ks:List V)(dd:o.data=.dict es c)(hk:∀ i (h:i < es.size),∃ v,ks[i]?=some v/\RelV v es[i].key) :
  Turn P w K tg (Itk a o es ks) [it] it (fun i h=>h.IsKeyIter it a i es.size c) where
 mem:=by simp
 obj:=fun i h st b hb=>by
  have e:b=it:=by simpa using hb
  subst e;obtain⟨o',q,_,d⟩:=st;exact⟨o',q,fun v z=>by rw [d] at z; cases z⟩
 keep:=(by rintro i h h' ⟨o',q,r⟩ k; exact⟨o',k it (by simp) o' q,r⟩)
 item:=by
  intro X hP hw hK hc i pins s σ H E I hf st hg;subst hP hw hK;obtain⟨⟨u,hu⟩,hi⟩:=hg;obtain⟨f0,f1,f2,f3,f4,f5⟩:=hf it (by simp);obtain⟨v,hv,rv⟩:=hk i hi;refine Nd st (I.b7 a _ hu).1 dd hi fun h' Bh sb=>?_;have I1:Inv X pins σ H { s with heap:=h' }:=I.turned (t':=s.toks) (fun b o hb e=>(sb.2 b hb).trans e) f0 f1 f3 f4 f5;obtain⟨o',e,cl,d'⟩:=id Bh;exact⟨_,rfl,LA (s:={ s with heap:=h' }) e cl d' (by decide) ⟨v,H,I1,rv,⟨rfl,hv⟩,Bh,fun b hb=>(hf b hb).1⟩⟩
 done:=by
  intro X hP hw hK hc i pins s σ H E I hf st hg;subst hP hw hK;obtain⟨⟨u,hu⟩,hi⟩:=hg;obtain⟨f0,f1,f2,f3,f4,f5⟩:=hf it (by simp);exact Qf (I.ok.hd hc) st (I.b7 a _ hu).1 dd hi fun h' eb=>⟨rfl,I.turned (t':=s.toks) (fun b o hb e=>eb b o hb e) f0 f1 f3 f4 f5⟩
 self:=fun A i s Q E st h=>by
  refine oF st.typeIs Kw (da Kw st.typeIs F.entry_dict_keyiterator_iter ?_ (F.args_dict_keyiterator_iter_1 _));show wpAny _ _ (ret (.ref it)) _ _ s;exact ay ⟨_,rfl,"dict_keyiterator",_,st.typeIs,F.slot_dict_keyiterator_next.lookup,h⟩
end L2
namespace K2
open PySem PySem.Spec PyProof.Rows L2
section
variable {X:Cx} {tg a:Expr} {ta:fV} {pos p:Pos}
theorem wD{α β:Type}{F:α->β->Prop}:∀ {l:List α} {m:List β},kX F l m->∀ i (h1:i < l.length) (h2:i < m.length),F l[i] m[i]:=by
 intro l m h;induction h with
 | nil=>intro i h1; exact absurd h1 (pI i)
 | cons h t ih =>
  intro i h1 h2;cases i with
  | zero=>exact h
  | succ i=>exact ih i (uG h1) (uG h2)
theorem Qm{P:bI}{w:World}{k:Key}{u:Value}(h:(cH P w).is k u=true):RelV (kV k) u:=by
 rcases eZ h with ⟨i,t,rfl,rfl⟩ | ⟨x,t,rfl,rfl⟩
 ·exact⟨t,rfl⟩
 ·exact⟨t,rfl⟩
theorem lQ.keys{K:ai}{H:Hp}:∀ {kv:List (Key×V)} {kvs:List (D×D)},lQ K H kv kvs->kvs.map (·.1)=kv.map fun p=>eP p.1:=fun h =>
 lQ.ind (motive:=fun kv kvs _=>kvs.map (·.1)=kv.map fun p=>eP p.1) rfl (fun _ _ ih=>congrArg (_ :: ·) ih) h
theorem mD.keys{K:ai}{H:Hp}:∀ {kv:List (List Key×V)} {kvs:List (D×D)},mD K H kv kvs->kvs.map (·.1)=kv.map fun p=>D.tup (p.1.map eP):=fun h =>
 mD.ind (motive:=fun kv kvs _=>kvs.map (·.1)=kv.map fun p=>D.tup (p.1.map eP)) rfl (fun _ _ ih=>congrArg (_ :: ·) ih) h
theorem Fi{K:ai}{H:Hp}(k:Key):bV K H (kV k) (eP k):=by
 cases k with
 | inl i=>exact .int i
 | inr x=>exact .str x
theorem wo{K:ai}{H:Hp}:∀ (ks:List Key),aU K H (ks.map kV) (ks.map eP)
 | []=>.nil
 | k :: ks=>.cons (Fi k) (wo ks)
theorem Fx(ha:fW X a ta):NV X tg a (Cf ta):=by
 intro E pins s σ H τ G R hE I h;refine i5 ha hE I h fun x H1 d G1 v s1 I1 m1 r1 jj q1=>?_;unfold DG at q1;have go:∀ (l:Addr) (o:Obj) (u:HO) (kvs:List (D×D)) (es:Array fI) (c:Nat) (ks:List V),(l == df)=false->H1 l=some (.iC o u)->o.ExactDict->o.data=.dict es c->(∀ i (h:i < es.size),∃ v,ks[i]?=some v/\RelV v es[i].key)->ks.length=es.size ->
   aU X.K H1 ks (kvs.map (·.1))->R (kvs.map (·.1)) (fun _=>True) G1->wpAny (model X.prog X.w) X.A (EJ (.ref l)) (Kc X pins σ tg H G R) X.xe s1:=by
  intro l o u kvs es c ks ns hl ex dd hk hlen rs q;refine Jr ns (I1.inv.b7 l _ hl).1 ex dd ?_;refine⟨s1.heap.objs.size,[s1.heap.objs.size],_,_,H1,G1,kvs.map (·.1),_,rfl,I1.inv.kept (t':=s1.toks) fun b o e=>aA _ e,m1,Mw l _ o es c ks dd hk,⟨_,a9 _ rfl,rfl,rfl⟩,fun b hb=>?_,fun i H2 G2 k ab _=>?_,q⟩
  ·have e:b=s1.heap.objs.size:=by simpa using hb
   subst e;exact I1.inv.Bp (aC _) (I1.inv.b7.fresh (aC _))
  ·have xE:=k.iC _ _ _ hl;have HP:=rs.mono k;refine⟨fun d hd=>?_,fun hle=>⟨⟨u,xE⟩,by rw [<-hlen,rs.length]; exact hle⟩⟩;obtain⟨v,hv,r⟩:=HP.get hd;have hi:i < es.size:=by rw [<-hlen]; exact(List.getElem?_eq_some_iff.mp hv).1
   refine⟨⟨⟨u,xE⟩,hi⟩,?_⟩;rintro x H3 ⟨e,y⟩;subst e;rw [hv] at y;cases y;exact⟨r,.refl ab⟩
 cases jj with
 | nY hq rs =>
  rename_i l o kv kvs;cases r1;obtain⟨z,ns,vs,rel,ob,es,ep,ho,ex,dd,hko,hp,nd⟩:=(I1.inv.b7 l _ hq).2;have eo:ob=o:=by have:=(I1.inv.b7 l _ hq).1; rw [ho] at this; exact ba this
  subst eo;have l1:es.size=vs.length:=by simpa using hp.length
  have l2:kv.length=vs.length:=iT rel;refine go l ob _ kvs es ep (kv.map fun p=>kV p.1) ns hq ex dd (fun i hi=>?_) (by rw [ao]; lia) ?_ q1
  ·have i2:i < vs.length:=by lia
   have i3:i < kv.length:=by lia
   have g1:=(hp.get? (e:=es[i]) (k:=vs[i].1) (v:=vs[i].2) (by rw [au (by simpa using hi)]; simp) (by rw [au i2])).1;refine⟨kV kv[i].1,by simp [i3],?_⟩;have ek:kv[i].1=vs[i].1:=(wD rel i i3 i2).1;rw [ek];exact Qm g1
  ·rw [rs.keys];have:∀ (l:List (Key×V)),aU X.K H1 (l.map fun p=>kV p.1) (l.map fun p=>eP p.1):=by
    intro l;induction l with
    | nil=>exact .nil
    | cons p l ih=>exact .cons (Fi p.1) ih
   exact this kv
 | nX hq rs =>
  rename_i l o kv kvs;cases r1;obtain⟨z,ns,xs,rel,ob,es,ep,ho,ex,dd,hl,nd⟩:=(I1.inv.b7 l _ hq).2;have eo:ob=o:=by have:=(I1.inv.b7 l _ hq).1; rw [ho] at this; exact ba this
  subst eo;have l1:=congrArg dU hl;rw [ao,eU] at l1;refine go l ob _ kvs es ep (xs.map fun q=>V.ref q.2.1) ns hq ex dd (fun i hi=>?_) (by rw [ao]; lia) ?_ q1
  ·have i2:i < xs.length:=by lia
   refine⟨.ref xs[i].2.1,by simp [i2],?_⟩;have:es[i]=entryOfKey (iZ (cH X.prog X.w)) xs[i]:=by
    have:=congrArg (fun l=>l[i]?) hl;simp only [aO,au i2] at this;simpa [hi] using this
   rw [this];rfl
  ·rw [rs.keys];have:∀ (kv:List (List Key×V)) (xs:List (List Key×Addr×Value)),kX (fun (p:List Key×V) (q:List Key×Addr×Value)=>p.1=q.1/\H1 q.2.1=some (.tup (p.1.map kV))/\RelV p.2 q.2.2) kv xs->aU X.K H1 (xs.map fun q=>V.ref q.2.1) (kv.map fun p=>D.tup (p.1.map eP)):=by
    intro kv xs r;induction r with
    | nil=>exact .nil
    | cons h _ ih=>exact .cons (.tup h.2.1 (wo _)) ih
   exact this kv xs rel
 | _=>exact q1.elim
end
end K2
end
section
namespace L2
open PySem PySem.Spec PyProof.Rows
section
variable {X:Cx}
def RX(i j:Int):Prop:=i.natAbs < 2 ^ 4000/\j.natAbs < 2 ^ 4000
theorem RX.ok{i j:Int}(h:RX i j):IntMulOk i j:=by
 have h1:=intBits_le h.1;have h2:=intBits_le h.2;unfold IntMulOk;intro z;rw [aI] at z;have z2:((Iy i+Iy j:Nat):Int) > (bitsLine:Int):=of_decide_eq_true z.2;have hb:8000<=bitsLine:=by decide
 lia
theorem Tr:Ke X (iE .Mult) (rI RX fun i j=>.int (i * j)):=Yt fun _ _ _ _ _ _ _ hc q=>mul_int q hc.ok
end
end L2
namespace K2
open PySem PySem.Spec PyProof.Rows L2
section
variable {X:Cx}
theorem Tu:nP X (iE .Pow) V7:=by
 intro pins s σ H G x y dx dy v u Q I ab rx ry dX dY q;cases dX with
 | int i =>
  cases dY with
  | int j=>exact gH (Wk pins s σ H _ _ v u (A9 X.K H G Q) I rx ry ⟨i,j,rfl,rfl,q.1,_,_,.refl ab,.int _,q.2⟩) fun _ _ z=>.of z
  | _=>exact bC q
 | _=>exact bC q
theorem FF:nP X (iE .Mult) KR:=by
 intro pins s σ H G x y dx dy v u Q I ab rx ry dX dY q;cases dX with
 | int i =>
  cases dY with
  | int j=>exact gH (Tr pins s σ H _ _ v u (A9 X.K H G Q) I rx ry ⟨i,j,rfl,rfl,q.1,_,_,.refl ab,.int _,q.2⟩) fun _ _ z=>.of z
  | _=>exact bC q
 | _=>exact bC q
theorem wW{pins:List (Addr×Obj)}{σ:L2.St}{H:Hp}{s:ax}{G:Gp}{x:V}{d:D}{kvs:List (D×D)}(I:Inv X pins σ H s)(ab:kc X.K H G)(rd:bV X.K H x d)(hd:vI d G=some kvs)(h1:vp kvs=true) :
  ∃ a kv vs,x=.ref a/\lQ X.K H kv kvs/\kv.length<=aX/\(a == df)=false/\KV kv vs/\s.heap.DictOf (cH X.prog X.w) a vs:=by
 have empty:∀ (a:Addr) (kv:List (List Key×V)),fk X.prog X.w H s.heap a (.dT kv)->mD X.K H kv kvs ->
   ∃ a' kv vs,V.ref a=.ref a'/\lQ X.K H kv kvs/\kv.length<=aX/\(a' == df)=false/\KV kv vs/\s.heap.DictOf (cH X.prog X.w) a' vs:=by
  intro a kv ok rs;cases rs with
  | nil =>
   obtain⟨z,hm,xs,rel,o,es,ep,ho,hx,A6,hl,nd⟩:=ok;have hv:xs=[]:=by cases rel; rfl
   subst hv;have he:es=#[]:=by simpa using hl
   subst he;exact⟨a,[],[],rfl,.nil,cw _,hm,.nil,o,#[],ep,ho,hx,A6,(fun _ h=>by simp at h),.nil,cy⟩
  | cons _ _=>simp [vp,dH] at h1
 cases rd with
 | nY hq rs =>
  cases (show some _=some kvs from hd);obtain⟨z,hm,vs,rel,dd⟩:=tU I.b7 (.inr ⟨_,hq⟩);exact⟨_,_,vs,rfl,rs,z,hm,rel,dd⟩
 | nX hq rs =>
  cases (show some _=some kvs from hd);exact empty _ _ (I.b7 _ _ hq).2 rs
 | ref a =>
  unfold vI at hd;dsimp only at hd;split at hd
  ·rename_i kv' hg;cases hd;rcases ab a _ hg with ⟨kv,hv,rs⟩ | ⟨kv,hv,rs⟩
   ·obtain⟨z,hm,vs,rel,dd⟩:=Cw I.b7 hv;exact⟨a,kv,vs,rfl,rs,z,hm,rel,dd⟩
   ·exact empty a _ (I.b7 _ _ hv) rs
  ·cases hd
 | _=>cases hd
theorem JZ:sx X (.type "dict") L6:=by
 intro pins s σ H G xs ds us Q I ab rx rd q;unfold L6 at q;split at q
 ·rename_i x;obtain⟨kvs,hd,h1,hl,q⟩:=q;obtain⟨v,rfl,r⟩:=rd.one;obtain⟨a,kv,vs,rfl,rs,z,hm,rel,dd⟩:=wW I ab r hd h1;obtain⟨u,rfl,ru⟩:=rx.one;cases ru;refine kt_call_dict hm dd (by rw [<-rel.length]; exact z) fun h' AF hs=>?_;have hp:H s.heap.objs.size=none:=I.b7.fresh (aC _);refine⟨.ref _,upd H s.heap.objs.size (.dK kv),.ref _,_,I.laid (a:=s.heap.objs.size) (o:=.dK kv) (t':=s.toks) (fun b q hq=>?_) (aC _) (DX z (beq_eq_false_iff_ne.mpr (eD (bu I.big))) rel AF),.new ab hp (.dk bU (rs.mono (.new hp))),rfl,.ref _,q _ (ab.free hp)⟩;exact(hs.2 b (bu (aN hq))).trans (aA _ hq)
 ·exact q.elim
theorem Li:HA X "dict.get" M4:=by
 intro pins s σ H G x d xs ds v us Q I ab rx rd KL Bm q;unfold M4 at q;split at q
 ·rename_i k d';obtain⟨kvs,hd,h1,hk,q⟩:=q;obtain⟨w,w2,rfl,Fb,SY⟩:=Bm.two;obtain⟨u1,u2,rfl,MK,Pa⟩:=vals2 KL;obtain⟨a,kv,vs,rfl,rs,z,hm,rel,dd⟩:=wW I ab rd hd h1;cases rx;obtain⟨kk,rfl⟩:=vq hk;have ey:=uT Fb;subst ey;refine yT gM dd.typeIs Ku (Iq _ _ _) (meets_dict_get_default (cH X.prog X.w) a (z0 MK) hm u2) ⟨_,dd.mapOf,?_⟩;have ro:=(rel.val kk).getD Pa;rcases rs.look kk with ⟨v',d2,e1,e2,r⟩ | ⟨e1,e2⟩
  ·rw [e1] at ro;rw [e2] at q;exact⟨v',H,d2,G,I.tok _,.refl ab,ro,r,q⟩
  ·rw [e1] at ro;rw [e2] at q;exact⟨w2,H,d',G,I.tok _,.refl ab,ro,SY,q⟩
 ·exact q.elim
end
end K2
end
section
namespace L2
open PySem PySem.Spec PyProof.Rows
def Iti(a:Addr)(o:Obj)(kv:List (Key×V)):It :=
 ⟨fun i H=>(∃ u,H a=some (.iC o u))/\i < kv.length,fun i H v H'=>∃ T p,v=.ref T/\H T=none/\H'=upd H T (.tup [kV p.1,p.2])/\kv[i]?=some p,fun i H=>(∃ u,H a=some (.iC o u))/\kv.length<=i⟩
theorem zE{α β:Type}{F:α->β->Prop}:∀ {l:List α} {m:List β},kX F l m->∀ i (h1:i < l.length) (h2:i < m.length),F l[i] m[i]
 | _,_,.cons h _,0,_,_=>h
 | _,_,.cons _ t,i+1,h1,h2=>zE t i (by simpa using h1) (by simpa using h2)
theorem Ni{P:bI}{w:World}{k:Key}{u:Value}(h:(cH P w).is k u=true):RelV (kV k) u:=by
 rcases eZ h with ⟨i,t,rfl,rfl⟩ | ⟨x,t,rfl,rfl⟩
 ·exact⟨t,rfl⟩
 ·exact⟨t,rfl⟩
theorem mC:entryFor table "dict_itemiterator.__iter__" = some Builtin.«dict_keyiterator.__iter__» :=
 entryFor_alias (id':="dict_keyiterator.__iter__") (by rw [fastTable_eq_tree]; kernel_rfl) (by decide +kernel) (by decide +kernel) (by rw [fastTable_eq_tree]; kernel_rfl)
theorem ID{P:bI}{w:World}{K:ai}{elts:List Expr}{kk:Nat}{pos:Pos}(a it:Addr)(o:Obj)(kv:List (Key×V))(vs:List (Key×Value))(ep:Nat)(rel:KV kv vs)(hD:∀ h:Heap,h.get? a=some o->h.DictAt (cH P w) a vs ep) :
  Turn P w K (.Tuple elts kk pos) (Iti a o kv) [it] it (fun i h=>∃ ok ov,oJ h it a i vs.length ep ok ov) where
 mem:=by simp
 obj:=fun i h ⟨ok,ov,st⟩ b hb=>by
  have e:b=it:=by simpa using hb
  subst e;exact⟨_,st,fun v z=>by cases z⟩
 keep:=fun i h h' ⟨ok,ov,st⟩ k=>⟨ok,ov,k it (by simp) _ st⟩
 item:=by
  intro X hP hw hK hc i pins s σ H E I hf st hg;obtain⟨ok,ov,st⟩:=st;subst hP hw hK;obtain⟨⟨u,hu⟩,hi⟩:=hg;have hl:=rel.length;have Lx:i < vs.length:=by lia
  have hx:vs[i]?=some (vs[i].1,vs[i].2):=au Lx;have rp:=zE rel i hi Lx;have WZ:H s.heap.objs.size=none:=I.b7.fresh (aC _);have Y6:it≠s.heap.objs.size:=bu (aN st);refine wpAny_pyNext_items_item st (hD _ (I.b7 a _ hu).1) hx fun key h' hk ho hT hsz kk=>?_;refine⟨_,rfl,?_⟩;have rk:RelV (kV kv[i].1) key:=by rw [rp.1]; exact Ni hk
  have I1:Inv X pins σ (upd H s.heap.objs.size (.tup [kV kv[i].1,kv[i].2])) { s with heap:=h',toks:=s.toks } :=
   I.yf (fp:=[it]) hf (fun b o hb q=>kk b o (fun z=>hb (by simp [z])) q) (aC _)
    ⟨by show 2<=aX; decide,[key,vs[i].2],.cons rk (.cons rp.2 .nil),⟨_,hT,rfl,_,rfl⟩⟩
  refine Oz (s:={ s with heap:=h' }) ho fun h2 T5 Cg=>?_;have f1:∀ b∈[it],oi X pins (upd H s.heap.objs.size (.tup [kV kv[i].1,kv[i].2])) b:=fun b hb=>(hf b hb).upd (by rw [List.mem_singleton.mp hb]; exact Y6);have I2:Inv X pins σ (upd H s.heap.objs.size (.tup [kV kv[i].1,kv[i].2])) { s with heap:=h2,toks:=s.toks } :=
   Inv.sC (s:={ s with heap:=h',toks:=s.toks }) (t':=s.toks) (fp:=[it]) I1 f1 fun b o hb q=>(Cg.2 b (fun z=>hb (by simp [z]))).trans q
  exact⟨.ref s.heap.objs.size,_,I2,rfl,⟨_,kv[i],rfl,WZ,rfl,au hi⟩,⟨_,_,T5⟩,fun b hb=>(f1 b hb).1⟩
 done:=by
  intro X hP hw hK hc i pins s σ H E I hf st hg;obtain⟨ok,ov,st⟩:=st;subst hP hw hK;obtain⟨⟨u,hu⟩,hi⟩:=hg;have hl:=rel.length;obtain⟨f0,f1,f2,f3,f4,f5⟩:=hf it (by simp);exact wpAny_pyNext_items_end (I.ok.hd hc) st (hD _ (I.b7 a _ hu).1) (fO (by lia)) fun h' eb=>⟨rfl,I.turned (t':=s.toks) (fun b o hb e=>eb b o hb e) f0 f1 f3 f4 f5⟩
 self:=fun A i s Q E ⟨ok,ov,st⟩ h=>by
  have ty:s.TypeIs (.ref it) "dict_itemiterator":=⟨_,st,rfl⟩;refine oF ty ju (da ju ty mC ?_ (EO _));show wpAny _ _ (ret (.ref it)) _ _ s;exact ay ⟨_,rfl,"dict_itemiterator",_,ty,F.slot_dict_itemiterator_next.lookup,h⟩
end L2
namespace K2
open PySem PySem.Spec PyProof.Rows L2
section
variable {X:Cx}
theorem V4{pins:List (Addr×Obj)}{σ:L2.St}{H:Hp}{s:ax}{x:V}{kvs:List (D×D)}(I:Inv X pins σ H s)(rd:bV X.K H x (.kW kvs))(h1:vp kvs=true) :
  ∃ a ob u kv vs ep,x=.ref a/\H a=some (.iC ob u)/\lQ X.K H kv kvs/\(a == df)=false/\KV kv vs/\∀ h:Heap,h.get? a=some ob->h.DictAt (cH X.prog X.w) a vs ep:=by
 cases rd with
 | nY hq rs =>
  rename_i a o kv;obtain⟨z,hm,vs,rel,ob,es,ep,ho,r⟩:=(I.b7 a _ hq).2;have eo:ob=o:=by have:=(I.b7 a _ hq).1; rw [ho] at this; exact ba this
  subst eo;exact⟨a,ob,_,kv,vs,ep,rfl,hq,rs,hm,rel,fun h e=>⟨ob,es,e,r⟩⟩
 | nX hq rs =>
  rename_i a o kv;cases rs with
  | nil =>
   obtain⟨z,hm,xs,rel,ob,es,ep,ho,hx,A6,hl,nd⟩:=(I.b7 a _ hq).2;have eo:ob=o:=by have:=(I.b7 a _ hq).1; rw [ho] at this; exact ba this
   subst eo;have hv:xs=[]:=by cases rel; rfl
   subst hv;have he:es=#[]:=by simpa using hl
   subst he;exact⟨a,ob,_,[],[],ep,rfl,hq,.nil,hm,.nil,fun h e=>⟨ob,#[],e,hx,A6,(fun _ h=>by simp at h),.nil,cy⟩⟩
  | cons _ _=>simp [vp,dH] at h1
theorem lQ.item{K:ai}{H:Hp}:∀ {kv:List (Key×V)} {kvs:List (D×D)} {i:Nat} {q:D×D},lQ K H kv kvs->kvs[i]?=some q->∃ p,kv[i]?=some p/\q.1=eP p.1/\bV K H p.2 q.2
 | _,_,_,_,.nil,e=>by simp at e
 | _,_,0,_,.cons r _,e=>by simp at e; subst e; exact⟨_,rfl,rfl,r⟩
 | _,_,i+1,q,.cons _ t,e=>by
  obtain⟨p,h1,h2⟩:=lQ.item (i:=i) (q:=q) t (by simpa using e);exact⟨p,by simpa using h1,h2⟩
variable {elts:List Expr} {kk:Nat} {Bg apos lN:Pos} {o:Expr} {to:fV}
theorem MM{K:ai}{H:Hp}(k:Key):bV K H (kV k) (eP k):=by
 cases k with
 | inl i=>exact .int i
 | inr x=>exact .str x
theorem o6 (ho:fW X o to) (vB:autoParam (EK o "items" X.env (eval o X.env)=eval o X.env) Ar._auto_1) (Ac:autoParam ((apos.endLine == lN.line)=true) Ar._auto_1) :
  NV X (.Tuple elts kk Bg) (.Call (.Attribute o "items" apos) [] [] lN) (mi to):=by
 intro E pins s σ H τ G R hE I h;refine v8 vB Ac (i5 ho hE I h fun x H1 d G1 v s1 I1 m1 r1 jj q1=>?_);cases d with
 | kW kvs =>
  obtain⟨h1,q1⟩:=q1;obtain⟨t1,t2⟩:=oY pins s1 σ H1 G1 x _ v I1.inv I1.ab r1 jj trivial;obtain⟨a,ob,u,kv,vs,ep,rfl,hu,rs,hm,rel,hD⟩:=V4 I1.inv jj h1;cases r1;refine⟨"dict","dict.items",dg,gc,rh,t1,t2,my rfl (xO ?_)⟩;have dA:=hD _ (I1.inv.b7 a _ hu).1;refine yT gc t1 qF (pH _) (meets_dict_items (cH X.prog X.w) a hm) ⟨⟨vs,dA.dictOf⟩,?_⟩;have I2:Inv X pins σ H1 { s1 with heap:=s1.heap.push { cls:=.type "dict_items",data:=.fields #[.ref a] } }:=I1.inv.kept (t':=s1.toks) fun b o e=>aA _ e;refine wpAny_pyIter_items (s:={ s1 with heap:=s1.heap.push { cls:=.type "dict_items",data:=.fields #[.ref a] } }) (kvs:=vs) (ep:=ep) ⟨_,a9 _ rfl,rfl,rfl⟩ (dA.push _) ?_;refine⟨_,[_],_,_,H1,G1,kvs.map (fun p=>.tup [p.1,p.2]),_,rfl,I2.kept (t':=s1.toks) fun b o e=>aA _ e,m1,ID a _ ob kv vs ep rel hD,⟨.none,.none,a9 _ rfl⟩,fun b hb=>?_,fun i H2 G2 k ab _=>?_,q1⟩
  ·have e:=List.mem_singleton.mp hb;subst e;exact I2.Bp (aC _) (I2.b7.fresh (aC _))
  ·have xE:=k.iC _ _ _ hu;have HP:=rs.mono k;have hlen:kv.length=kvs.length:=rs.length;refine⟨fun d hd=>?_,fun hle=>⟨⟨u,xE⟩,by rw [hlen]; simpa using hle⟩⟩;rw [aO] at hd;cases HW:kvs[i]? with
   | none=>rw [HW] at hd; cases hd
   | some q =>
    rw [HW] at hd;obtain⟨p,hp,ek,rp⟩:=HP.item HW;have hi:i < kv.length:=(List.getElem?_eq_some_iff.mp hp).1;refine⟨⟨⟨u,xE⟩,hi⟩,fun x H3 ⟨T,p',ex,hT,e3,hy⟩=>?_⟩;subst ex e3;rw [hp] at hy;cases hy;have ed:D.tup [q.1,q.2]=d:=by simpa using hd
    subst ed;rw [ek];exact⟨.tup bU (.cons (MM _) (.cons (rp.mono (.new hT)) .nil)),.GB ab hT⟩
 | _=>exact q1.elim
end
end K2
end
section
namespace K2
open PySem PySem.Spec PyProof.Rows L2
section
variable {X:Cx}
theorem rV{K:ai}{H:Hp}:∀ {kv:List (Key×V)} {l:List (Int×Int)},lQ K H kv (bB l)->kv=l.map fun p=>((.inl p.1:Key),V.int p.2)
 | _,[],h=>by cases h; rfl
 | _,p :: l,h=>by
  have h:lQ K H _ ((D.int p.1,D.int p.2) :: bB l):=h;generalize e:(D.int p.1,D.int p.2) :: bB l=t at h;cases h with
  | nil=>cases e
  | cons r rs =>
   rename_i k v d r' t';injection e with e1 e2
   injection e1 with e3 e4
   subst e2 e4;cases r;rw [rV rs];cases k with
   | inl i=>cases e3; rfl
   | inr x=>cases e3
theorem vo:∀ {l:List (Int×Int)} {vs:List (Key×Value)},KV (l.map fun p=>((.inl p.1:Key),V.int p.2)) vs->∃ ts:List Tok,ts.length=l.length/\vs=(l.zip ts).map fun q=>((.inl q.1.1:Key),fu q.1.2 q.2)
 | [],_,.nil=>⟨[],rfl,rfl⟩
 | p :: l,_,.cons h r=>by
  obtain⟨ts,h1,h2⟩:=vo r;rename_i q vs;obtain⟨k,v⟩:=q;obtain⟨e1,t,e2⟩:=h;cases e1;cases e2;exact⟨t :: ts,by simp [h1],by rw [h2]; rfl⟩
theorem C0{l:List (Int×Int)}{ts:List Tok}(h:ts.length=l.length)(k:Int):(cF l k=none/\oI ((l.zip ts).map fun q=>((.inl q.1.1:Key),fu q.1.2 q.2)) (.inl k)=none)\/∃ v t,cF l k=some v/\oI ((l.zip ts).map fun q=>((.inl q.1.1:Key),fu q.1.2 q.2)) (.inl k)=some (.int v t):=by
 induction l generalizing ts with
 | nil=>exact .inl ⟨rfl,rfl⟩
 | cons p l ih =>
  cases ts with
  | nil=>cases h
  | cons t ts =>
   have ih:=ih (ts:=ts) (by simpa using h);by_cases e:p.1=k
   ·refine .inr ⟨p.2,t,?_,?_⟩
    ·unfold cF; simp [e]
    ·unfold oI; simp [e]
   ·have e':¬ ((.inl p.1:Key)=.inl k):=fun z=>e (by injection z);have a1:cF (p :: l) k=cF l k:=by unfold cF; simp [e]
    have a2:oI (((p :: l).zip (t :: ts)).map fun q=>((.inl q.1.1:Key),fu q.1.2 q.2)) (.inl k)=oI ((l.zip ts).map fun q=>((.inl q.1.1:Key),fu q.1.2 q.2)) (.inl k):=by
     unfold oI; simp [e']
    rw [a1,a2]; exact ih
theorem wQ{A:cS}{s:ax}{m:List (Int×Int)}{us:List Tok}(hm:us.length=m.length):∀ {l:List (Int×Int)} {ts:List Tok},ts.length=l.length ->
  PySem.W.KeqHits A s ((m.zip us).map fun q=>((.inl q.1.1:Key),fu q.1.2 q.2)) ((l.zip ts).map fun q=>((.inl q.1.1:Key),fu q.1.2 q.2)) (l.all fun p=>cF m p.1 == some p.2)
 | [],_,_=>.nil
 | p :: l,[],h=>by cases h
 | p :: l,t :: ts,h=>by
  have ih:=wQ (A:=A) (s:=s) hm (l:=l) (ts:=ts) (by simpa using h);rcases C0 hm p.1 with ⟨e1,e2⟩ | ⟨v,t',e1,e2⟩
  ·have:((p :: l).all fun p=>cF m p.1 == some p.2)=false:=by simp [e1]
   rw [this];exact .miss e2
  ·have eq:SeqAt.EqAt A s (fu p.2 t) (fu v t') (decide (p.2=v)):=by
    have:=PySem.W.keq_flat (A:=A) (s:=s) (v:=fu p.2 t) (y:=fu v t') (d:=.int p.2) (e:=.int v) (.int _ _) (.int _ _);have e2:SeqAt.EqAt A s (fu p.2 t) (fu v t') (p.2 == v):=by simpa [qO] using this
    exact e2
   have:((p :: l).all fun p=>cF m p.1 == some p.2)=(decide (p.2=v)&&l.all fun p=>cF m p.1 == some p.2):=by
    rw [lZ,e1];congr 1;by_cases z:p.2=v
    ·simp [z]
    ·have:¬ v=p.2:=fun y=>z y.symm;simp [z,this]
   rw [this];exact .hit e2 eq ih
theorem Tz(hu:X.A.units+64 < cLine):nP X (dQ .Eq) (V9 false):=by
 intro pins s σ H G x y dx dy v u Q I ab rx ry dX dY q;obtain⟨l,m,e1,e2,q⟩:=q;obtain⟨a,kv,vs,rfl,rs,z,hm,rel,dd⟩:=wW I ab dX e1 (lq l);obtain⟨b,kw,ws,rfl,HP,z2,Ou,Pe,ED⟩:=wW I ab dY e2 (lq m);cases rx;cases ry;rw [rV rs] at rel;rw [rV HP] at Pe;obtain⟨ts,t1,rfl⟩:=vo rel;obtain⟨us,t2,rfl⟩:=vo Pe;refine PySem.W.keq_eq hm Ou dd ED (by lia) (fun _=>wQ t2 t1) ?_;refine⟨.bl _,H,.bl _,G,I,.refl ab,rfl,.bl _,?_⟩;have:((((l.zip ts).map fun q=>((.inl q.1.1:Key),fu q.1.2 q.2)).length == ((m.zip us).map fun q=>((.inl q.1.1:Key),fu q.1.2 q.2)).length)&&l.all fun p=>cF m p.1 == some p.2)=xX l m:=by
  unfold xX; simp [t1,t2]
 rw [this]; exact q
theorem Tv(hu:X.A.units+64 < cLine):nP X (dQ .NotEq) (V9 true):=by
 intro pins s σ H G x y dx dy v u Q I ab rx ry dX dY q;obtain⟨l,m,e1,e2,q⟩:=q;obtain⟨a,kv,vs,rfl,rs,z,hm,rel,dd⟩:=wW I ab dX e1 (lq l);obtain⟨b,kw,ws,rfl,HP,z2,Ou,Pe,ED⟩:=wW I ab dY e2 (lq m);cases rx;cases ry;rw [rV rs] at rel;rw [rV HP] at Pe;obtain⟨ts,t1,rfl⟩:=vo rel;obtain⟨us,t2,rfl⟩:=vo Pe;refine PySem.W.keq_ne hm Ou dd ED (by lia) (fun _=>wQ t2 t1) ?_;refine⟨.bl _,H,.bl _,G,I,.refl ab,rfl,.bl _,?_⟩;have:((((l.zip ts).map fun q=>((.inl q.1.1:Key),fu q.1.2 q.2)).length == ((m.zip us).map fun q=>((.inl q.1.1:Key),fu q.1.2 q.2)).length)&&l.all fun p=>cF m p.1 == some p.2)=xX l m:=by
  unfold xX; simp [t1,t2]
 rw [this]; exact q
theorem vb(hu:X.A.units+64 < cLine):nP X (dQ .Eq) (u6 false):=by
 intro pins s σ H G x y dx dy v u Q I ab rx ry dX dY q;rcases q with q | q
 ·exact kH hu pins s σ H G x y dx dy v u Q I ab rx ry dX dY q
 ·exact Tz hu pins s σ H G x y dx dy v u Q I ab rx ry dX dY q
theorem Dq(hu:X.A.units+64 < cLine):nP X (dQ .NotEq) (u6 true):=by
 intro pins s σ H G x y dx dy v u Q I ab rx ry dX dY q;rcases q with q | q
 ·exact Ds hu pins s σ H G x y dx dy v u Q I ab rx ry dX dY q
 ·exact Tv hu pins s σ H G x y dx dy v u Q I ab rx ry dX dY q
variable {k v:Expr} {tk tv:fV} {pos:Pos}
theorem PN(hk:fW X k tk)(hv:fW X v tv):fW X (.Dict [some k] [v] pos) (LV tk tv):=by
 intro E pins s σ H τ G Q hE I h;have hn:=I.inv.b7.fresh (aC s.heap.objs.size);have I1:=I.inv.laid (a:=s.heap.objs.size) (o:=.dK []) (h':=s.heap.push { cls:=.type "dict",data:=.dict #[] }) (t':=s.toks) (fun _ _ q=>aA _ q) (aC _) (GV s.heap I.inv.big);have mh:Mv X.K H G (upd H s.heap.objs.size (.dK [])) G:=.GB I.ab hn;have I2:I2 X pins σ (upd H s.heap.objs.size (.dK [])) τ G { s with heap:=s.heap.push { cls:=.type "dict",data:=.dict #[] },toks:=s.toks }:=⟨I1,I.st.mono (.new hn),mh.ab⟩;refine wpAny_Dict_walk (knd:=cH X.prog X.w) (by rfl) (by rfl) (by simp) (show 1<=15 by decide) ?_;refine pairTrees_cons_walk (i5 hk hE I2 h fun x H1 dx G1 u s1 I3 m1 r1 jj q1=>?_);refine i5 hv hE I3 q1 fun y H2 dy G2 w s2 I4 m2 r2 xr q2=>?_;obtain⟨hk1,q2⟩:=q2;refine pairTrees_nil_walk ?_;obtain⟨kk,rfl⟩:=vq hk1;have ex:=uT jj;subst ex;have g0:G s.heap.objs.size=none:=I.ab.free hn;obtain⟨p1,p2⟩:=m1.keep _ _ (bU (H:=H) (a:=s.heap.objs.size) (o:=.dK [])) g0;obtain⟨p3,p4⟩:=m2.keep _ _ p1 p2;obtain⟨rs,c,rk⟩:=AH (P:=X.prog) (w:=X.w) (kvs:=[(kk,y)]) (ws:=[(u,w)]) (.cons ⟨r1,r2⟩ .nil);obtain⟨z,hd,vs0,r0,dd⟩:=Cw I4.inv.b7 p3;cases r0;refine⟨rs,c,dd,fun h' AF hs=>?_⟩;have he:∃ q,h'.get? s.heap.objs.size=some q:=let ⟨q,_,_,hq,_⟩:=AF; ⟨q,hq⟩
 have em:Jj [] [(kk,y)]=[(kk,y)]:=rfl;have kp:Kp H2 (upd H2 s.heap.objs.size (.dK [(kk,y)])):=.putD p3 (.inl ⟨_,rfl⟩);have I5:=sU (t':=s2.toks+[(u,w)].length) I4.inv (by rw [p3]; exact fX) hs he (DX (kvs:=Jj [] [(kk,y)]) (by rw [em]; exact(show 1<=aX by decide)) hd (rk.merge .nil) AF);rw [em] at I5;have HS:=(mh.trans m1).trans m2;refine⟨.ref s.heap.objs.size,_,.ref s.heap.objs.size,_,I5,?_,rfl,.ref _,q2 _ p4⟩;refine⟨fun a o e n=>?_,fun a n=>?_,fun a g e=>?_⟩
 ·have ha:a≠s.heap.objs.size:=fun z=>by rw [z,hn] at e; cases e
  obtain⟨k1,k2⟩:=HS.keep a o e n;exact⟨by rw [bG ha]; exact k1,by rw [cL ha]; exact k2⟩
 ·by_cases ha:a=s.heap.objs.size
  ·subst ha; rw [bU]; simp
  ·rw [bG ha]; exact HS.jl a n
 ·by_cases ha:a=s.heap.objs.size
  ·subst ha;rw [az] at e;cases e;exact .dk bU (.cons ((xr.mono kp)) .nil)
  ·rw [cL ha] at e;exact(HS.ab a g e).mono kp (bG ha)
end
section
variable {X:Cx} {e:Expr} {t:A8} {pos p:Pos} {x:Str} {k:Nat} {f:Addr} {fd:fx} {ps:List Str} {sp:jU}
theorem lQ.plain{K:ai}{H H2:Hp}:∀ {kv:List (Key×V)} {kvs:List (D×D)},lQ K H kv kvs->(kvs.all fun p=>dH p.1&&nC p.2)=true->lQ K H2 kv kvs
 | _,_,.nil,_=>.nil
 | _,_,.cons (d:=d) r rs,h=>by
  rw [lZ,aI,aI] at h;refine .cons ?_ (lQ.plain rs h.2);have hp:=h.1.2;cases r with
  | eN=>exact .eN
  | bl b=>exact .bl _
  | int i=>exact .int _
  | _=>exact absurd hp (by simp [nC])
end
end K2
end
section
namespace L2
open PySem PySem.Spec PyProof.Rows
theorem MZ:typeLookup (.type "list_reverseiterator") "__len__" = pure none:=by rw [typeLookup_type,builtinLookup_eq_fast]; kernel_rfl
theorem QL:typeLookup (.type "list_reverseiterator") "__length_hint__" = pure (some (.builtin "list_reverseiterator.__length_hint__")):=by rw [typeLookup_type,builtinLookup_eq_fast]; kernel_rfl
section
variable {prog:bI} {w:World} {A:cS} {E:Value->ax->Prop} {s:ax}
theorem Qc{I l:Addr}{items:Array Value}{Q:Value->ax->Prop}(hh:A.handled=none)(hl:s.heap.IsList l items)(hI:s.heap.IsRevIter I l ((items.size:Int) - 1))(oW:l≠I)(hn:items.size<=aX)
  (hQ:∀ h' tk AP c',(∀ b o,b≠I->s.heap.get? b=some o->h'.get? b=some o)->h'.get? s.heap.objs.size=some { cls:=.type "list",dict:=none,data:=.seq AP c',slots:=#[] }->ItemsOf (fun i v=>items[items.size - 1 - i]?=some v) AP items.size->Q (.ref s.heap.objs.size) { s with heap:=h',toks:=tk }) :
  wpAny (model prog w) A (call (.type "list") [.ref I]) Q E s:=by
 have lI:I < s.heap.objs.size:=by obtain⟨o,e,_⟩:=hI; exact aN e
 have ll:l < s.heap.objs.size:=by obtain⟨o,e,_⟩:=hl; exact aN e
 refine callType_codes (Q₁:=fun obj fC=>obj=.ref s.heap.objs.size/\fC={ s with heap:=s.heap.push { cls:=.type "list",data:=.seq #[] } }) PySem.F.called_list (PySem.F.typeCall_list_1 _) PySem.F.entry_list_init
  (code_list_new _ ⟨rfl,rfl⟩) fun obj fC qJ=>?_
 obtain⟨rfl,rfl⟩:=qJ;have hS:(s.heap.push { cls:=.type "list",data:=.seq #[] }).get? s.heap.objs.size=some { cls:=.type "list",data:=.seq #[] }:=a9 _ rfl;refine⟨⟨_,hS,rfl⟩,PySem.F.args_list_init_2 _ _,?_⟩;show wpAny _ _ (do let old ← CY (.ref s.heap.objs.size); Builtin.List.listUpdate (.ref s.heap.objs.size) (fun _=>#[]); letGo old.toList.reverse; mP (.ref s.heap.objs.size) (.ref I) .none) _ _ _;refine ag ?_;unfold CY;refine ag (oS hS rfl (ay ?_));show wpAny _ _ (updateSeq s.heap.objs.size (fun _=>#[]) >>= fun _=>letGo (#[]:Array Value).toList.reverse >>= fun _=>mP (.ref s.heap.objs.size) (.ref I) .none) _ _ _;refine ag (qT hS rfl ?_);have Vl:=hX (fZ (fun _=>(#[]:Array Value))) hS rfl;have ZY:∀ b o,s.heap.get? b=some o->((s.heap.push { cls:=.type "list",data:=.seq #[] }).update s.heap.objs.size (fZ (fun _=>(#[]:Array Value)))).get? b=some o :=
  fun b o e=>(cR _ _ (wc (aN e))).trans (aA _ e)
 refine ag (qU ?_);have W:=Walks.listRev (prog:=prog) (w:=w) (A:=A.in1.in1) hh I l oW items;have st:(fun (i:Nat) (h:Heap)=>i<=items.size/\h.IsRevIter I l ((items.size:Int) - 1 - (i:Int))/\h.IsList l items) 0 ((s.heap.push { cls:=.type "list",data:=.seq #[] }).update s.heap.objs.size (fZ (fun _=>(#[]:Array Value)))) :=
  ⟨cw _,by have:=hI.at (fun o e=>ZY I o e); simpa using this,hl.at fun o e=>ZY l o e⟩
 generalize (s.heap.push { cls:=.type "list",data:=.seq #[] }).update s.heap.objs.size (fZ (fun _=>(#[]:Array Value)))=h2 at Vl ZY st;have hT:Ko { s with heap:=h2 } (.ref I) "list_reverseiterator":=st.2.1.typeIs;have hSI:s.heap.objs.size≠I:=wc lI;have Zj:s.heap.objs.size∉[I,l]:=by simp only [bA,bO,or_false,not_or]; exact⟨hSI,wc ll⟩
 unfold mP;refine ag (wpAny_typeOf hT ?_);have h1:Bc (.ref s.heap.objs.size) (.ref I)=false:=by simp [Bc,hSI]
 rw [if_neg (by rw [h1]; decide)];refine ag (wpAny_pyIter_revIter (s:={ s with heap:=h2 }) st.2.1 ?_);refine ag (cN ?_);unfold Builtin.List.listLengthHint;refine ag (mW hT MZ ?_);show wpAny _ _ (specialOf (eL I) (qN "__length_hint__") >>= _) _ _ _;refine ag (mW hT QL ?_);generalize GB:("list_reverseiterator.__length_hint__" : String)=id0
 wp_delta
 rw [show splitId id0=some ("list_reverseiterator","__length_hint__") from by subst GB; decide +kernel];subst GB;refine ag (lS (b:=true) hT (by rw [isSubtype_type]; kernel_rfl) ?_);refine ay ?_;rw [if_neg (by decide)];obtain⟨c₀,Zi⟩:∃ c₀,h2.get? s.heap.objs.size=some { cls:=.type "list",data:=.seq #[] c₀ }:=⟨_,Vl⟩;refine ay ⟨ni PySem.F.plain_extend_loop _,codeAny_extend_loopS W.toS hn _ Zj _ items.size 0 _ #[] c₀ rfl (cw _) st Zi (ItemsOf.nil _) fun s' AP c' hm hS' QS=>?_⟩;rw [Moved.eq_with hm];refine⟨rfl,hQ s'.heap s'.toks AP c' (fun b o hb e=>hm.heap b o (fun WN=>?_) (ZY b o e)) hS' QS⟩;rcases List.mem_cons.mp WN with e' | WN
 ·exact absurd (aN e) (by rw [e']; exact ib _)
 ·exact hb (List.mem_singleton.mp WN)
end
end L2
namespace K2
open PySem PySem.Spec PyProof.Rows L2 PySem.W
section
variable {X:Cx}
variable {es:List Expr} {t:TF2} {e v1 v2:Expr} {te:fV} {pos:Pos} {c:Str} {k:Nat}
theorem EW:∀ {vs:List V} {us:List Value} {v:V} {u:Value},Vals vs us->RelV v u->Vals (vs++[v]) (us++[u])
 | _,_,_,_,.nil,h=>.cons h .nil
 | _,_,_,_,.cons a r,h=>.cons a (EW r h)
theorem EV:∀ {vs:List V} {us:List Value},Vals vs us->Vals vs.reverse us.reverse
 | _,_,.nil=>.nil
 | _,_,.cons h r=>by rw [mO,mO]; exact EW (EV r) h
theorem Fe{K:ai}{H:Hp}:∀ {vs:List V} {ds:List D},aU K H vs ds->aU K H vs.reverse ds.reverse
 | _,_,.nil=>.nil
 | _,_,.cons h r=>by rw [mO,mO]; exact(Fe r).append (.cons h .nil)
theorem Hq:ez "reversed" = some (.type "reversed"):=by decide +kernel
variable {a:Expr} {ta:fV} {p p2 PA:Pos}
theorem FA (hc:X.calm=true) (hg:Gl X "list") (hm:X.mg "list" = none) (Y7:Gl X "reversed") (Ou:X.mg "reversed" = none) (ha:fW X a ta) (hs:autoParam (bx [a] X.env=[(false,eval a X.env)]) Ar._auto_1)
  (Cg:autoParam (bx [.Call (.Name "reversed" p2) [a] [] PA] X.env=[(false,eval (.Call (.Name "reversed" p2) [a] [] PA) X.env)]) Ar._auto_1) :
  fW X (.Call (.Name "list" p) [.Call (.Name "reversed" p2) [a] [] PA] [] pos) (GZ ta):=by
 intro E pins s σ H τ G Q hE I h;refine eS (nH I.inv hg hm Ed ?_);refine dF ?_ Cg rfl;rw [Cg];show wpAny _ _ (yL ((false,eval (.Call (.Name "reversed" p2) [a] [] PA) X.env) :: mx pos (bx [] X.env))) _ _ s;refine fR ?_;refine eS (nH I.inv Y7 Ou Hq ?_);refine dF ?_ hs rfl;rw [hs];show wpAny _ _ (yL ((false,eval a X.env) :: mx PA (bx [] X.env))) _ _ s;refine fR (i5 ha hE I h fun x H1 d G1 u s1 I1 m1 r1 jj q1=>?_);refine jW ?_;obtain⟨ds,hd,q⟩:=q1;obtain⟨l,vs,bH,rfl,rv,rs,hl,hz⟩:=nO I1.inv I1.ab r1 jj hd;have hzl:bH.toArray.size<=aX:=by rw [aR,<-rv.length]; exact hz
 refine call_reversed_list hl ?_;refine jW ?_;have ll:l < s1.heap.objs.size:=by obtain⟨o,e,_⟩:=hl; exact aN e
 have xE:(s1.heap.push (revObj l ((bH.toArray.size:Int) - 1))).IsList l bH.toArray:=hl.at fun o e=>aA _ e;have hI2:(s1.heap.push (revObj l ((bH.toArray.size:Int) - 1))).IsRevIter s1.heap.objs.size l ((bH.toArray.size:Int) - 1):=⟨_,a9 _ rfl,rfl,rfl⟩;have mr:Inv X pins σ H1 { s1 with heap:=s1.heap.push (revObj l ((bH.toArray.size:Int) - 1)) }:=I1.inv.kept (t':=s1.toks) fun b o e=>aA _ e;refine Qc (s:={ s1 with heap:=s1.heap.push (revObj l ((bH.toArray.size:Int) - 1)) }) (I1.inv.ok.hd hc) xE hI2 (bu ll) hzl fun h' tk AP c' kk hS' QS=>?_;have eq:AP.toList=bH.reverse:=by
  refine List.ext_getElem? fun j=>?_;by_cases hj:j < AP.size
  ·have h1:=QS.2 j AP[j] (ko hj);have hs:AP.size=bH.length:=by rw [QS.1]; simp
   rw [List.getElem?_reverse (by lia),Array.getElem?_toList,ko hj,<-h1];simp
  ·have hs:AP.size=bH.length:=by rw [QS.1]; simp
   rw [fO (by rw [eU]; lia),fO (by rw [pD]; lia)]
 have hsz:(s1.heap.push (revObj l ((bH.toArray.size:Int) - 1))).objs.size=s1.heap.objs.size+1:=kR _ _;have hle:s1.heap.objs.size<=(s1.heap.push (revObj l ((bH.toArray.size:Int) - 1))).objs.size:=by rw [hsz]; exact yV _
 have hp:H1 (s1.heap.push (revObj l ((bH.toArray.size:Int) - 1))).objs.size=none:=I1.inv.b7.fresh hle;refine⟨.ref _,upd H1 _ (.lst vs.reverse),.ref _,_,I1.inv.laid (t':=tk) (fun b u e=>kk b u (bu (aN e)) (aA _ e)) hle ⟨by rw [pD]; exact hz,AP.toList,c',by rw [eq]; exact EV rv,by simpa using hS'⟩,m1.trans (.FO I1.ab hp (Fe rs)),rfl,.ref _,q _ (I1.ab.free hp)⟩
end
end K2
end
section
namespace K2
open PySem PySem.Spec PyProof.Rows L2
section
variable {K:ai} {h:Heap} {C:Addr} {CF:List Value} {newId:String}
theorem W5{P:Prop}{m:List Value}{sl:List (Option Value)}{f:Addr->List Value->Option Value->Option Value->Option Value->Option Value->String->Option Value->Bool}
  (q:PySem.W.excIn.match_1 (fun _ _=>Bool) m sl f (fun _ _=>false)=true)
  (k:∀ C' bm k0 k1 k2 k3 n k5,m=.ref C' :: bm->sl=[k0,k1,k2,k3,some (.builtin n),k5]->f C' bm k0 k1 k2 k3 n k5=true->P):P:=by
 have no:false=true->P:=fun z=>bc z;cases m with
 | nil=>exact no q
 | cons v bm =>
  cases v with
  | ref C' =>
   obtain _ | ⟨k0,_ | ⟨k1,_ | ⟨k2,_ | ⟨k3,_ | ⟨_ | w,sl⟩⟩⟩⟩⟩:=sl
   iterate 6 exact no q
   cases w with
   | builtin n =>
    obtain _ | ⟨k5,_ | _⟩:=sl
    ·exact no q
    ·exact k C' bm k0 k1 k2 k3 n k5 rfl rfl q
    ·exact no q
   | _=>exact no q
  | _=>exact no q
inductive RT (h:Heap) (C:Addr) (CF:List Value) (newId:String):Prop
 | mk (bm N nm qn bs hdct sn sub ab col dd k0 k1 k2 k3 k5 mN) (o:h.get? C=some (OD nm qn C N bs bm hdct sn sub ab col dd k0 k1 k2 k3 k5 newId)) (n:h.Ns N mN) (i:mN "__init__" = none) (t:OwnTail h CF bm):RT h C CF newId
theorem DT(Y:K.In h)(q:nT K C CF newId=true):RT h C CF newId:=by
 unfold nT at q;split at q
 rotate_left
 ·cases q
 rename_i dd cd sl ho;refine W5 q fun C' bm k0 k1 k2 k3 n k5 hm hs q=>?_;obtain⟨nm,bs,mro,ns,qn,hd,sn,sub,ab,col,del⟩:=cd;obtain⟨sl⟩:=sl;subst hm hs;have q:(C' == C&&n == newId&&!del&&PySem.W.tailIn K CF bm&&PySem.W.nsOkIn K ns&&eT K ns "__init__" == some none)=true:=q;simp only [aI,beq_iff_eq,sA] at q;obtain⟨⟨⟨⟨⟨e1,e2⟩,e3⟩,e4⟩,e5⟩,e6⟩:=q;subst e1 e2 e3;exact⟨bm,_,_,_,_,_,_,_,_,_,dd,k0,k1,k2,k3,k5,_,Y _ _ ho,.of_isNs (PySem.W.isNs_of_in Y e5),PySem.W.nsMap_none_of_in Y e5 e6,PySem.W.tail_of_in Y e4⟩
end
section
variable {X:Cx} {x:Str} {C:Addr} {CF:List Value} {B newId Qx:String} {e0:Expr} {es:List Expr} {np lN pos:Pos} {t:A8}
theorem IS(g:Gp->Gp)(hgg:∀ H G,kc X.K H G->kc X.K H (g G))(hg:Gl X x)(hm:X.mg x=some (.ref C))(q:nT X.K C CF newId=true)(FB:ExcBaseFacts B newId Qx CF)(hc:X.calm=true)(ha:BC X (e0 :: es) t)
  (Ag:autoParam ((x == ("__debug__" : Str))=false) Ad._auto_1) (he:autoParam (bx (e0 :: es) X.env=(false,eval e0 X.env) :: bx es X.env) Ar._auto_1) (Ab:autoParam ((mx lN (bx es X.env)).any (·.1)=false) Ar._auto_1) :
  EE X (.Raise (some (.Call (.Name x np) (e0 :: es) [] lN)) none pos) (fun E _ τ G=>t E τ G fun ds G1=>ds.length<=SZ/\E ⟨x,[]⟩ (g G1)):=by
 intro E pins s σ H τ G D hE I h;obtain⟨tl,N,nm,qn,bs,hdct,sn,sub,ab,col,dd,k0,k1,k2,k3,k5,mN,hC,hN,hni,T⟩:=DT I.inv.ok.mod.U6 q;refine wpAny_Raise_call_subT (C:=C) (nm:=nm) (q:=qn) (N:=N) (bs:=bs) (bm:=tl) (hdct:=hdct) (sn:=sn) (sub:=sub) (ab:=ab) (col:=col) (dd:=dd) (k0:=k0) (k1:=k1) (k2:=k2) (k3:=k3) (k5:=k5)
  FB (mN:=mN) (T.hasType FB.hasBase) (I.inv.ok.hd hc) (by rw [he]; show (false||(mx lN (bx es X.env)).any (·.1))=false; rw [Ab]; rfl) hni (oz I.inv hg hm ⟨rfl,?_⟩ Ag)
 have w:=y8 (Q:=fun us s2=>us.length<=aX/\(∀ b o,X.base.get? b=some o->s2.heap.get? b=some o)/\∀ h' e,Heap.MadeExcOf s2.heap h' e (.ref C) us->X.xe (.ref e) { s2 with heap:=h' }) ha lN hE I h
  fun vs H1 ds G1 us s1 I1 m1 r rd z=>⟨by rw [<-r.length,rd.length,cD]; exact z.1,I1.inv.bk,fun h' e hx=>hE.made pins σ H1 s1 h' e C us ⟨x,[]⟩ _ I1.inv (hgg _ _ I1.ab) hx hm z.2⟩
 rw [he] at w ⊢;exact R4 (oG w (fun us s2 h2=>⟨rfl,h2.1,h2.2.1 _ _ hC,hN.keeps h2.2.1,T.keeps h2.2.1,h2.2.2⟩) fun _ _ y=>y)
theorem MS(hg:Gl X x)(hm:X.mg x=some (.ref C))(q:nT X.K C CF newId=true)(FB:ExcBaseFacts B newId Qx CF)(hc:X.calm=true)(ha:BC X (e0 :: es) t)
  (Ag:autoParam ((x == ("__debug__" : Str))=false) Ad._auto_1) (he:autoParam (bx (e0 :: es) X.env=(false,eval e0 X.env) :: bx es X.env) Ar._auto_1) (Ab:autoParam ((mx lN (bx es X.env)).any (·.1)=false) Ar._auto_1) :
  EE X (.Raise (some (.Call (.Name x np) (e0 :: es) [] lN)) none pos) (JX x t):=IS (fun _ _=>none) (fun _ _ _ _ _ z=>by cases z) hg hm q FB hc ha Ag he Ab
end
theorem _root_.Internal.L2.fk.there{P:bI}{w:World}{H:Hp}{h:Heap}{a:Addr}{o:HO}(x:fk P w H h a o):∃ ob,h.get? a=some ob:=by
 cases o with
 | lst xs=>obtain⟨_,_,_,_,e⟩:=x; exact⟨_,e⟩
 | tup xs=>obtain⟨_,_,_,ob,e,_⟩:=x; exact⟨_,e⟩
 | dK kvs=>obtain⟨_,_,_,_,o,_,_,e,_⟩:=x; exact⟨_,e⟩
 | dT kvs=>obtain⟨_,_,_,_,o,_,_,e,_⟩:=x; exact⟨_,e⟩
 | set S n=>obtain⟨o,_,_,_,e,_⟩:=x; exact⟨_,e⟩
 | ins C dx fs=>obtain⟨_,_,_,e,_⟩:=x; exact⟨_,e⟩
 | own y=>exact x
 | xd fs=>obtain⟨_,⟨_,_,_,e,_⟩,_⟩:=x; exact⟨_,e⟩
 | Yb lo hi=>obtain⟨_,_,_,e⟩:=x; exact⟨_,e⟩
 | iC ob u=>obtain⟨e,_⟩:=x; exact⟨_,e⟩
 | SR ps=>obtain⟨_,e,_⟩:=x; exact⟨_,e⟩
 | met f y=>exact⟨_,x⟩
 | ext φ=>obtain⟨_,e,_⟩:=x; exact e
theorem IZ{X:Cx}{pins:List (Addr×Obj)}{σ:L2.St}{H1:Hp}{s1:ax}{h1 h' B:Heap}(I:Inv X pins σ H1 s1)(Jw:X.stack=X.env :: X.outer)(Ov:X.env.frame=some X.env.locals)(hex:X.ex=[])
  (YO:∀ b o,s1.heap.get? b=some o->h1.get? b=some o) (hB:∀ b o,s1.heap.get? b=some o->b∉tD X.stack->(X.i6.heap.get? b≠none\/H1 b≠none)->B.get? b=some o) (jl:B.StaysIn h') (up:h1.UpToSlots h') :
  Un (tD X.outer) [] X.N7 H1 X.i6.heap h'/\oh X.prog X.w H1 h'/\∀ b o,h'.get? b=some o->b∉tD X.outer->(X.i6.heap.get? b≠none\/H1 b≠none)->B.get? b=some o:=by
 have efr:tD X.stack=X.env.locals :: tD X.outer:=by rw [Jw]; unfold tD; rw [Mr Ov]
 have PW:∀ b,b∉tD X.outer->b≠X.env.locals->b∉tD X.stack:=fun b h1 h2 h3=>by
  rw [efr] at h3;rcases List.mem_cons.mp h3 with e | e
  ·exact h2 e
  ·exact h1 e
 have old:∀ b o,X.i6.heap.get? b=some o->b≠X.env.locals:=fun b o q=>bu (bJ (aN q) I.ok.above);have tr:∀ b u,H1 b=some u->b∉tD X.stack:=fun b u q hb=>by rw [I.C7 b hb] at q; cases q
 have nx:∀ b:Addr,b∉X.ex:=fun b=>by rw [hex]; exact bO
 have frame:∀ b o,b∈tD X.outer->s1.heap.get? b=some o->∃ sl,h'.get? b=some { o with slots:=sl }:=fun b o hb e=>by
  obtain⟨_,o2,e2,nf⟩:=I.stack.mem (show b∈tD X.stack by rw [efr]; exact .tail _ hb);rw [e] at e2; cases e2;exact up b o (YO b o e) nf
 have go:∀ b o,s1.heap.get? b=some o->b∉tD X.stack->(X.i6.heap.get? b≠none\/H1 b≠none)->h'.get? b=some o:=fun b o e n c=>jl b o (hB b o e n c);refine⟨⟨fun b o q n hb _=>?_,fun b o q n hb _=>?_,fun b o q n _=>I.base.free b o q n (nx b),fun b o q _=>?_,I.base.qH,I.base.qe,I.base.tm,I.base.tu⟩,fun a o q=>?_,fun b o e hb hc=>?_⟩
 ·exact go b o (I.base.keep b o q n hb (nx b)) (PW b hb (old b o q)) (.inl (by rw [q]; simp))
 ·obtain⟨sl,e⟩:=I.base.slot b o q n hb (nx b);obtain⟨E7,e2⟩:=frame b _ hb e;exact⟨E7,e2⟩
 ·obtain⟨o',e⟩:=I.base.there b o q (nx b);by_cases hb:b∈tD X.outer
  ·obtain⟨E7,e2⟩:=frame b _ hb e; exact⟨_,e2⟩
  ·exact⟨o',go b o' e (PW b hb (old b o q)) (.inl (by rw [q]; simp))⟩
 ·refine(I.b7 a o q).jl (fun b u hb e=>?_) (fun b r=>r) (fun b xs r=>r);rcases hb with rfl | hb
  ·exact go b u e (tr b _ q) (.inr (by rw [q]; simp))
  ·exact go b u e (tr b _ hb) (.inr (by rw [hb]; simp))
 ·have n:b∉tD X.stack:=by
   rcases hc with hc | hc
   ·cases q:X.i6.heap.get? b with
    | none=>exact absurd q hc
    | some o0=>exact PW b hb (old b o0 q)
   ·cases q:H1 b with
    | none=>exact absurd q hc
    | some u=>exact tr b u q
  have:∃ o1,s1.heap.get? b=some o1:=by
   rcases hc with hc | hc
   ·cases q:X.i6.heap.get? b with
    | none=>exact absurd q hc
    | some o0=>exact I.base.there b o0 q (nx b)
   ·cases q:H1 b with
    | none=>exact absurd q hc
    | some u=>exact(I.b7 b u q).there
  obtain⟨o1,e1⟩:=this;have e2:=go b o1 e1 n hc;rw [e] at e2; cases e2;exact hB b o e1 n hc
section
variable {P:bI} {w:World} {K:ai} {mg:Str->Option Value} {base:Heap} {N:List Str} {qual:Str} {scope:Scope} {f:Addr} {cd:Value} {A:cS} {outer:List Env} {s:ax} {H:Hp} {Ek:XK} {E2:lP}
theorem YL(ke:∀ ex C H' G',E2 ex G'->kc K H' G'->mg ex.cls=some (.ref C)->Ek (.ref C) none H'):Lk (vM (Sl P w) P w K mg base N qual scope f cd A outer s H Ek) E2 where
 made:=fun pins σ H1 s1 h1 a C args ex G1 I Jy hx hm hE=>by
  show wpAny (model P w) _ (leaving _ (.ref a)) _ _ _;refine wpAny_leaves_madeW (h:=s1.heap) (base:=PySem.W.hideAll s1.heap (tD (vM (Sl P w) P w K mg base N qual scope f cd A outer s H Ek).stack)) I.ok.frames rfl (fun b o q=>RZ _ q)
   (PySem.W.funFrames_hide I.stack fun env he b hb=>List.mem_filterMap.mpr ⟨env,he,hb⟩) hx fun h' t fl tup tn up=>?_
  obtain⟨un,b7,hB⟩:=IZ I rfl rfl rfl hx.keeps (fun b o e n _=>OH _ e n) fl.1 up;refine⟨a,C,t,_,H1,rfl,I.os,I.bare,un,b7,hB,fl,?_,?_,ke ex C H1 G1 hE Jy hm⟩
  ·cases q:H1 a with
   | none=>rfl
   | some u =>
    obtain⟨o,e⟩:=(I.b7 a u q).there;have:=hx.new;rw [e] at this; cases this
  ·cases q:s.heap.get? a with
   | none=>rfl
   | some o =>
    obtain⟨o',e⟩:=I.base.there a o q bO;have:=hx.new;rw [e] at this; cases this
 pass:=fun pins σ H1 s1 s' e I Ot=>by
  obtain⟨a,C,t,B,H',e1,os,bare,un,b7,hB,fl,ha,hs,ex,C',G2,e2,hm,Jy,hE⟩:=Ot;subst e1; cases e2;show wpAny (model P w) _ (leaving _ (.ref a)) _ _ _;have I':Inv (vM (Sl P w) P w K mg base N qual scope f cd A outer s H Ek) pins σ H' s':=by
   obtain⟨hh,g,d,t,os'⟩:=s';obtain rfl:os'=s1.os:=os;exact I.call (h':=hh) (g':=g) (d':=d) (t':=t) (ch:=[]) un b7 bare (fun b z=>absurd z (by simp))
  refine wpAny_leaves_onW I.ok.frames rfl fl fun h' fl' up=>?_;obtain⟨XS,Jx,hB'⟩:=IZ I' rfl rfl rfl (fun _ _ e=>e) (fun b o e n c=>hB b o e n (c.imp (fun z=>by
   cases q:s.heap.get? b with
   | none=>exact absurd q z
   | some o0=>obtain⟨o1,e1⟩:=I.base.there b o0 q bO; rw [e1]; simp) id)) fl'.1 up
  refine⟨a,C,t,B,H',rfl,I'.os,I'.bare,XS,Jx,hB',fl',ha,?_,ke ex C H' G2 hE Jy hm⟩;cases q:s.heap.get? a with
  | none=>rfl
  | some o=>obtain⟨o1,e1⟩:=I.base.there a o q bO; rw [e1] at hs; cases hs
end
def E6(K:ai)(mg:Str->Option Value)(sp:jU):Sp:=fun vs H Q E=>∃ ds G Q2 E2,aU K H vs ds/\kc K H G/\sp ds G Q2 E2/\(∀ d G' v H',Q2 d G'->Mv K H G H' G'->bV K H' v d->Q v H') /\
 ∀ (ex:Ex) (C:Addr) (H':Hp) (G':Gp),E2 ex G'->kc K H' G'->mg ex.cls=some (.ref C)->E (.ref C) none H'
theorem T7{P:bI}{w:World}{K:ai}{mg:Str->Option Value}{base:Heap}{x qual:Str}{st:Stmt}{f:Addr}{fd:fx}{Nn ps:List Str}{k:Nat}{sp:jU}{rd:hU}(F:Sj K x qual st f fd)(S:lF Nn ps (bN st))(len:∀ ds G Q E,sp ds G Q E->ds.length=ps.length)
  (hr:∀ ds G Q E,sp ds G Q E->rd E (ends Q) (bo Nn.length ds) G)
  (hb:∀ (kT:Value) (A:cS) (outer:List Env) (s:ax) (H:Hp) (E:XK),kO k (A.deeper (xb qual (bN st) s.heap.objs.size f kT))->tG (vM (Sl P w) P w K mg base Nn qual (bN st) f kT A outer s H E) (gC st) rd):tK P w K mg base (Sl P w) (k+1) f fd ps (E6 K mg sp):=by
 obtain⟨oc,od,kV,doc,pm,an,kT,ct,Lc,rfl,lk,HX⟩:=F.ex;refine Vn lk HX S ((by rintro vs H Q E ⟨ds,G,Q2,E2,r,ab,q,_⟩; exact by rw [r.length]; exact len _ _ _ _ q)) ?_;rintro A outer s H vs Q E QG ⟨ds,G,Q2,E2,r,ab,q,kk,ke⟩;refine⟨_,Py (hb kT A outer s H E QG) (YL ke),?_⟩;exact⟨bo Nn.length ds,G,ends Q2,E5 r,ab,hr ds G Q2 E2 q,fun jY H' oU G' mv z=>kk _ _ _ _ z mv .eN,fun v H' d G' mv Yd z=>kk _ _ _ _ z mv Yd,fun _ _ z=>z,fun _ _ z=>z⟩
def Sf:HO->Bool
 | .tup _=>true
 | .iC _ (.lst _)=>true
 | .iC _ (.dK _)=>true
 | .iC _ (.dT _)=>true
 | .iC _ (.ext _)=>true
 | .iC _ (.xd _)=>true
 | _=>false
def hr(H:Hp):Hp:=fun b=>(H b).bind fun o=>if Sf o=true then some o else none
def hj(H1 H':Hp):Hp:=fun b=>match H1 b with
 | some o=>some o
 | none=>H' b
section
variable {P:bI} {w:World} {K:ai} {H H1 H':Hp} {h h':Heap} {b:Addr} {o:HO} {fs:List Addr}
theorem TY(q:hr H b=some o):H b=some o/\Sf o=true:=by
 unfold hr at q;cases e:H b with
 | none=>rw [e] at q; cases q
 | some u =>
  rw [e] at q;simp only [BJ] at q;by_cases k:Sf u=true
  ·rw [if_pos k] at q; cases q; exact⟨rfl,k⟩
  ·rw [if_neg k] at q; cases q
theorem qx(q:H b=some o)(k:Sf o=true):hr H b=some o:=by unfold hr; rw [q,BJ,if_pos k]
theorem vA(q:H b=none):hr H b=none:=by unfold hr; rw [q]; rfl
theorem Va(q:H b=some o)(k:Sf o=false):hr H b=none:=by unfold hr; rw [q,BJ,if_neg (by rw [k]; exact fY)]
theorem WL(x:oh P w H h):oh P w (hr H) h:=fun a o q=>by
 obtain⟨e,k⟩:=TY q;have y:=x a o e;cases o with
 | tup xs=>exact y
 | iC ob u =>
  cases u with
  | lst _=>exact y
  | dK _=>exact y
  | ext _=>exact y
  | xd _=>exact y
  | dT kvs =>
   obtain⟨e1,z,n,xs,r,rest⟩:=y;exact⟨e1,z,n,xs,L2.Paired.TH r (fun p q z=>⟨z.1,qx z.2.1 rfl,z.2.2⟩),rest⟩
  | _=>exact bc (show false=true from k)
 | _=>exact bc (show false=true from k)
theorem oA(q:H1 b=some o):hj H1 H' b=some o:=by unfold hj; rw [q]
theorem rQ(q:H1 b=none):hj H1 H' b=H' b:=by unfold hj; rw [q]
theorem join(un:Un fs [] (hr H1) H' h h')(k1:oh P w H1 h)(k2:oh P w H' h')(fr:∀ b∈fs,H1 b=none) :
  Un fs [] H1 (hj H1 H') h h'/\oh P w (hj H1 H') h'/\Kp H' (hj H1 H')/\∀ b u,(∀ o,H1 b=some o->Sf o=false\/∃ ob v,o=.iC ob v)->H1 b≠none->h.get? b=some u->h'.get? b=some u:=by
 have nx:∀ c:Addr,c∉([]:List Addr):=fun c=>bO;have Yz:∀ c u,H1 c=some u->c∉fs:=fun c u q z=>by rw [fr c z] at q; cases q
 have L9:∀ c u v,H1 c=some u->H' c=some v->u=v/\Sf u=true:=fun c u v q q'=>by
  cases k:Sf u with
  | false =>
   obtain⟨ob,e⟩:=(k1 c u q).there;have:=un.free c ob e (Va q k) (nx c);rw [this] at q'; cases q'
  | true =>
   have r:=qx q k;cases u with
   | tup xs=>have:=un.qH c xs r; rw [q'] at this; cases this; exact⟨rfl,rfl⟩
   | iC ob x=>have:=un.qe c ob x r; rw [q'] at this; cases this; exact⟨rfl,rfl⟩
   | _=>exact bc (show false=true from k)
 have same:∀ b u,(∀ o,H1 b=some o->Sf o=false\/∃ ob v,o=.iC ob v)->H1 b≠none->h.get? b=some u->h'.get? b=some u:=fun b u hh hn e=>by
  cases q:H1 b with
  | none=>exact absurd q hn
  | some o =>
   cases k:Sf o with
   | false=>exact un.keep b u e (Va q k) (Yz b o q) (nx b)
   | true =>
    rcases hh o q with z | ⟨ob,v,rfl⟩
    ·rw [z] at k; cases k
    ·have h1:=(k2 b _ (un.qe b ob v (qx q k))).1;have h2:=(k1 b _ q).1;rw [h2] at e; cases e;exact h1
 refine⟨⟨fun c u e n hc hx=>un.keep c u e (vA n) hc hx,fun c u e n hc hx=>un.slot c u e (vA n) hc hx,fun c u e n hx=>?_,fun c u e hx=>un.there c u e hx,fun c xs q=>oA q,fun c ob u q=>oA q,fun c ps q=>oA q,fun c x q=>oA q⟩,fun c o q=>?_,⟨fun c xs q=>?_,fun c ob u q=>?_⟩,same⟩
 ·rw [rQ n]; exact un.free c u e (vA n) hx
 ·cases q1:H1 c with
  | some o1 =>
   rw [oA q1] at q; cases q;by_cases ht:∃ xs,o=.tup xs
   ·obtain⟨xs,rfl⟩:=ht;exact k2 c _ (un.qH c xs (qx q1 rfl))
   ·refine(k1 c o q1).jl (fun d u hd e=>?_) (fun d r=>oA r) (fun d xs r=>oA r);rcases hd with rfl | hd
    ·refine same d u (fun o' e'=>?_) (by rw [q1]; simp) e;rw [q1] at e'; cases e';cases o with
     | tup xs=>exact absurd ⟨xs,rfl⟩ ht
     | iC ob v=>exact .inr ⟨ob,v,rfl⟩
     | _=>exact .inl rfl
    ·refine same d u (fun o' e'=>?_) (by rw [hd]; simp) e;rw [hd] at e'; cases e';exact .inl rfl
  | none =>
   rw [rQ q1] at q;refine(k2 c o q).jl (fun d u _ e=>e) (fun d r=>?_) (fun d xs r=>?_)
   ·cases q2:H1 d with
    | none=>rw [rQ q2]; exact r
    | some u=>obtain⟨rfl,k⟩:=L9 d u _ q2 r; exact bc (show false=true from k)
   ·cases q2:H1 d with
    | none=>rw [rQ q2]; exact r
    | some u=>obtain⟨rfl,k⟩:=L9 d u _ q2 r; exact oA q2
 ·cases q2:H1 c with
  | none=>rw [rQ q2]; exact q
  | some u=>obtain⟨rfl,k⟩:=L9 c u _ q2 q; exact oA q2
 ·cases q2:H1 c with
  | none=>rw [rQ q2]; exact q
  | some v=>obtain⟨rfl,k⟩:=L9 c v _ q2 q; exact oA q2
end
theorem bV.hr{K:ai}{H:Hp}{v:V}{d:D}(h:bV K H v d):bV K (K2.hr H) v d :=
 bV.rec (motive_1:=fun v d _=>bV K (K2.hr H) v d) (motive_2:=fun v d _=>aU K (K2.hr H) v d) (motive_3:=fun v d _=>lQ K (K2.hr H) v d) (motive_4:=fun v d _=>mD K (K2.hr H) v d)
  .eN .bl .int .str (fun h _ r=>.tup (qx h rfl) r) (fun h _ r=>.cW (h.imp (fun q=>q.elim fun o q=>⟨o,qx q rfl⟩) id) r) (fun h _ r=>.nY (qx h rfl) r) (fun h _ r=>.nX (qx h rfl) r) .ref (fun h=>.exc (by obtain⟨o,C,h1,h2,h3⟩:=h; exact⟨o,C,qx h1 rfl,h2,h3⟩)) (fun h _ r=>.Cq (by obtain⟨o,C,dx,od,fs,h1,h2,h3,h4,h5,h6⟩:=h; exact⟨o,C,dx,od,fs,qx h1 rfl,h2,h3,h4,qx h5 rfl,h6⟩) r) (fun h z _ _ r1 r2=>.oV (qx h rfl) z r1 r2) .nil (fun _ _ a b=>.cons a b) .nil (fun _ _ a b=>.cons a b) .nil (fun _ _ a b=>.cons a b) h
theorem aU.hr{K:ai}{H:Hp}{v:List V}{d:List D}(h:aU K H v d):aU K (K2.hr H) v d :=
 aU.Gv (P:=fun v d=>aU K (K2.hr H) v d) .nil (fun r _ ih=>.cons r.hr ih) h
section
variable {M:Model} {A:cS} {E:Value->ax->Prop}
variable {nm q nm' q':Str} {C N D N':Addr} {bs bm Vv bm':List Value} {hdct Vk:Bool} {sn sn':List Str} {sub XY:List Value} {ab Xj:Bool} {col Zu:Option Bool} {dd AF:Option Addr} {k0 k1 k2 k3 k5 k0' k1' k2' k3' k5':Option Value} {newId Wu:String}
theorem M3{h:Heap}{g:Array GenState}{d:Drawn}{t:Nat}{os:OsState}{e:Addr}{oe:Obj}{Q:Bool->ax->Prop}
  (hC:h.get? C=some (OD nm q C N bs bm hdct sn sub ab col dd k0 k1 k2 k3 k5 newId)) (hD:h.get? D=some (OD nm' q' D N' Vv bm' Vk sn' XY Xj Zu AF k0' k1' k2' k3' k5' Wu))
  (he:h.get? e=some oe) (QO:oe.cls=.ref C) (vB:bm'.contains (.type "BaseException")=true)
  (hq:Q ((eL C :: bm).contains (.ref D)) ⟨h,g,d,t,os⟩):wpAny M A (excMatches (.ref e) (.ref D)) Q E ⟨h,g,d,t,os⟩:=by
 have hcB:(eL D :: bm').contains (.type "BaseException")=true:=by rw [List.contains_cons,vB,Bool.or_true]
 have f:=tc_notTuple;generalize hb:(eL C :: bm).contains (.ref D)=r at hq;unfold excMatches
 repeat (first | (with_reducible refine wpAny_loadPart_at he ?_; rw [QO]) | with_reducible refine wpAny_loadPart_at hD ?_ | (with_reducible refine wpAny_isSubtype_exc hD ?_; rw [hcB]) | (with_reducible refine wpAny_isSubtype_exc hC ?_; rw [hb]) | wp_step)
 cases r
 ·wp_walk; exact hq
 ·wp_walk; exact hq
end
section
variable {X:Cx} {pins:List (Addr×Obj)} {σ:L2.St} {H1:Hp} {G1:Gp} {s1:ax} {k:Nat} {f:Addr} {fd:fx} {ps:List Str} {sp:jU}
theorem U1{H':Hp}(ab:kc X.K H1 G1):Mv X.K H1 G1 (hj H1 H') G1:=by
 have kp:Kp H1 (hj H1 H'):=⟨fun a xs e=>oA e,fun a o u e=>oA e⟩;have Xj:kc X.K (hj H1 H') G1:=fun a g e=>(ab a g e).mono kp (by
  cases q:H1 a with
  | none=>exact absurd q (ab a g e).tracked
  | some o=>exact oA q)
 exact⟨fun a o e n=>⟨oA e,n⟩,fun a n=>by
  cases q:G1 a with
  | none=>exact absurd q n
  | some g=>exact(Xj a g q).tracked,Xj⟩
theorem O7{us:List Value}{vs:List V}{ds:List D}{Q2:DK}{E2:lP}(F:tK X.prog X.w X.K X.mg X.base (Sl X.prog X.w) k f fd ps (E6 X.K X.mg sp))(hr:kO k X.A)(hb:Binds X.K fd ps [])(I:Inv X pins σ H1 s1)(ab:kc X.K H1 G1)(r:Vals vs us)(rd:aU X.K H1 vs ds)
  (h:sp ds (fun _=>none) Q2 E2):wpAny (model X.prog X.w) X.A (call (.ref f) us)
   (fun u s'=>∃ v d G' Hj,Inv X pins σ Hj s'/\Mv X.K H1 G1 Hj G1/\RelV v u/\bV X.K Hj v d/\Q2 d G')
   (fun e s'=>∃ (a C t:Addr) (B:Heap) (ex:Ex) (Hj:Hp),e=.ref a/\Inv X pins σ Hj s'/\Mv X.K H1 G1 Hj G1/\vW B X.stack a (.ref C) (.ref t) s'.heap /\
    (∀ b o,s'.heap.get? b=some o->b∉tD X.stack->(s1.heap.get? b≠none\/Hj b≠none)->B.get? b=some o)/\Hj a=none/\s1.heap.get? a=none/\X.mg ex.cls=some (.ref C)/\∃ G',E2 ex G') s1:=by
 have QE:E6 X.K X.mg sp vs (K2.hr H1) (fun v H'=>∃ d G',bV X.K H' v d/\Q2 d G') (exK X.K X.mg E2) :=
  ⟨ds,fun _=>none,Q2,E2,rd.hr,(fun _ _ z=>by cases z),h,fun d G' v H' q _ Pg=>⟨d,G',Pg,q⟩,fun ex C H' G' q Xj hm=>⟨ex,C,G',rfl,hm,Xj,q⟩⟩
 have hl:us.length=ps.length:=by rw [<-r.length]; exact F.len _ _ _ _ QE
 have e0:=I.Zo;have e1:RV X.prog X.w X.K X.mg X.base X.A X.stack s1 (K2.hr H1):=⟨e0.frames,e0.mod,fun b o q=>⟨(e0.bs b o q).1,vA (e0.bs b o q).2⟩,e0.RC,e0.wU,fun b z=>vA (e0.Sh b z),WL e0.b7,e0.bare⟩;have hbu:=hb s1 us I.z8 (by rw [cC]; exact hl);rw [cC] at hbu;refine wpAny_call (yR (F.run X.A X.stack s1 (K2.hr H1) ⟨us,[]⟩ us vs _ _ hr e1 hbu r QE) fun res s' hq=>?_);cases res with
 | error e =>
  obtain⟨a,C,t,B,H',rfl,os,bare,un,b7,hB,fl,ha,hs,ex,C',G2,ec,hm,_,hE⟩:=hq;cases ec;obtain⟨XS,Jx,_,_⟩:=join un I.b7 b7 e0.Sh;have h1a:H1 a=none:=by
   cases q:H1 a with
   | none=>rfl
   | some u=>obtain⟨o,e⟩:=(I.b7 a u q).there; rw [e] at hs; cases hs
  refine⟨a,C,t,B,ex,hj H1 H',rfl,I.Vu (ch:=[]) os XS Jx bare (fun b z=>absurd z (by simp)),U1 ab,fl,fun b o e n c=>hB b o e n ?_,by rw [rQ h1a]; exact ha,hs,hm,G2,hE⟩;rcases c with c | c
  ·exact .inl c
  ·cases q:H1 b with
   | none=>rw [rQ q] at c; exact .inr c
   | some u=>obtain⟨o1,e1⟩:=(I.b7 b u q).there; exact .inl (by rw [e1]; simp)
 | ok fl =>
  cases fl with
  | ret u =>
   obtain⟨v,H',os,bare,un,b7,rv,d,G',Pg,q⟩:=hq;obtain⟨XS,Jx,kp,_⟩:=join un I.b7 b7 e0.Sh;exact⟨v,d,G',hj H1 H',I.Vu (ch:=[]) os XS Jx bare (fun b z=>absurd z (by simp)),U1 ab,rv,Pg.mono kp,q⟩
  | next=>exact bC hq
  | brk=>exact bC hq
  | cont=>exact bC hq
end
section
variable {X:Cx} {pins:List (Addr×Obj)} {σ:L2.St} {H H1:Hp} {s s1:ax} {h6 B:Heap} {a:Addr} {o:Obj} {u:HO}
theorem LY{h h':Heap}{c:Addr}{v:Option Value}(up:h.UpToSlots h')(z:h.IsCell c v):h'.IsCell c v:=by
 obtain⟨o,ho,hd⟩:=z;obtain⟨sl,e⟩:=up c o ho (fun vs q=>by rw [hd] at q; cases q);exact⟨_,e,hd⟩
theorem PF(I:Inv X pins σ H s)(Jw:X.stack=X.env :: X.outer)(Ov:X.env.frame=some X.env.locals){p:Addr×Obj}(hp:p∈X.pn++pins):p.1∉tD X.stack:=fun z=>by
 obtain⟨_,_,h3,h4,_⟩:=I.pin p hp;rw [Jw] at z; unfold tD at z; rw [Mr Ov] at z;rcases List.mem_cons.mp z with e | e
 ·exact h3 e
 ·exact h4 e
theorem CN(I : Inv X pins σ H s)(I1 : Inv X pins σ H1 s1)(Jw : X.stack = X.env :: X.outer)(Ov : X.env.frame = some X.env.locals)(hex : X.ex = [])
    (hB : ∀ b o, s.heap.get? b = some o -> b ∉ tD X.stack -> (s1.heap.get? b ≠ none ∨ H b ≠ none) -> B.get? b = some o) (jl : B.StaysIn h6) (up : s.heap.UpToSlots h6) (tk : Nat) : Inv X pins σ H { s with heap := h6, toks := tk } := by
  have z := IZ I Jw Ov hex (fun _ _ e => e) (fun b o e n c => hB b o e n (c.imp (fun c => by
    cases q : X.i6.heap.get? b with
    | none => exact absurd q c
    | some o0 => obtain⟨o1, e1⟩ := I1.base.there b o0 q (by rw [hex]; exact bO); rw [e1]; simp) id)) jl up
  exact { ok := I.ok, os := I.os, bare := I.bare
          base := by rw [hex]; exact z.1
          loc := by
            obtain⟨m, hn, hl⟩ := I.loc;exact⟨m, up.ns hn, fun i x v e1 e2 e3 => let ⟨u, r, q⟩ := hl i x v e1 e2 e3; ⟨u, r, q.imp id fun ⟨k, c, e, y⟩ => ⟨k, c, e, LY up y⟩⟩⟩
          cell := fun x c e => let ⟨v, y⟩ := I.cell x c e; ⟨v, LY up y⟩
          free := I.free, jf := I.jf
          pin := fun p hp => by
            obtain⟨h1, h2⟩ := I.pin p hp;exact⟨jl _ _ (hB p.1 p.2 h1 (PF I Jw Ov hp) (.inl (by rw [(I1.pin p hp).1]; simp))), h2⟩
          b7 := z.2.1
          len := I.len }
theorem N6(I : Inv X pins σ H s)(ha : H a = none)(hn : X.i6.heap.get? a = none)(nl : a ≠ X.env.locals)(nc : ∀ x c, X.env.cells.lookup x = some c -> c ≠ a)(np : ∀ p ∈ X.pn ++ pins, p.1 ≠ a)(new : fk X.prog X.w (upd H a u) s.heap a u) :
    Inv X pins σ (upd H a u) s := by
  have ne : ∀ b v, H b = some v -> b ≠ a := fun b v q e => by rw [e, ha] at q; cases q
  exact { ok := I.ok, os := I.os, bare := I.bare
          base := ⟨I.base.keep, I.base.slot, fun b o q n hx => by
            have : b ≠ a := fun e => by rw [e, hn] at q; cases q
            rw [bG this]; exact I.base.free b o q n hx, I.base.there, fun b xs q => by have r := I.base.qH b xs q; rw [bG (ne _ _ r)]; exact r, fun b o v q => by have r := I.base.qe b o v q; rw [bG (ne _ _ r)]; exact r,
            fun b ps q => by have r := I.base.tm b ps q; rw [bG (ne _ _ r)]; exact r,
            fun b x q => by have r := I.base.tu b x q; rw [bG (ne _ _ r)]; exact r⟩
          loc := I.loc, cell := I.cell
          free := by rw [bG (eD nl)]; exact I.free
          jf := fun x c e => by rw [bG (nc x c e)]; exact I.jf x c e
          pin := fun p hp => by obtain⟨h1, h2, h3⟩ := I.pin p hp; exact⟨h1, by rw [bG (np p hp)]; exact h2, h3⟩
          b7 := fun b v q => by
            by_cases e : b = a
            · subst e; rw [bU] at q; cases q; exact new
            · rw [bG e] at q
              exact(I.b7 b v q).jl (fun _ _ _ y => y) (fun c r => by rw [bG (ne _ _ r)]; exact r) (fun c xs r => by rw [bG (ne _ _ r)]; exact r)
          len := I.len }
abbrev marked(X:Cx)(v:Value):Cx:={ X with A:=X.A.mark (some v),calm:=false,xe:=fun _ _=>False }
theorem UD{v:Value}(ok:X.Ok):(marked X v).Ok :=
 ⟨ok.mod,ok.kind,ok.glob,ok.blt,ok.above,ok.inj,ok.has,ok.XE,fun z=>(by cases z),ok.frames,ok.X0,ok.Zn,ok.bs,ok.RC,ok.Jd,ok.NG,ok.wU,ok.Sh⟩
theorem HF{v:Value}(I:Inv X pins σ H s):Inv (marked X v) pins σ H s:=⟨UD I.ok,I.os,I.bare,I.base,I.loc,I.cell,I.free,I.jf,I.pin,I.b7,I.len⟩
theorem Kj{v:Value}(ok:X.Ok)(I:Inv (marked X v) pins σ H s):Inv X pins σ H s:=⟨ok,I.os,I.bare,I.base,I.loc,I.cell,I.free,I.jf,I.pin,I.b7,I.len⟩
theorem VJ{M : Model}{A : cS}{E : Value -> ax -> Prop}{i : Nat}{n : Str}{pos : Pos}{Q : Unit -> ax -> Prop}(I : Inv X pins σ H s)(hN : X.N.Nodup)(hi : X.N[i]? = some n)(hk : X.env.scope.names.lookup n = some .local)
    (h : ∀ s', Inv X pins (σ.set i none) H s' -> Q () s') : wpAny M A (do bindName X.env n .none; unbindBehindTheSuite X.env n pos) Q E s := by
  obtain⟨m, hn, hl⟩ := id I.loc;have QO : (X.env.scope.kind == .class || (X.env.scope.kind == .module && X.env.locals != X.env.globals)) = false := by rw [I.ok.kind]; rfl
  obtain⟨oL, _, _, hoL, _⟩ := id hn;refine wpAny_nameGoes_keeps hk hn QO fun h' v Vf hs => h _ ?_;have low : ∀ b o, X.i6.heap.get? b = some o -> b ≠ X.env.locals := fun b o e => bu (bJ (aN e) I.ok.above)
  exact { ok := I.ok, os := I.os, bare := I.bare
          base := ⟨fun b o e n hb hx => (hs.2 b (low b o e)).trans (I.base.keep b o e n hb hx), fun b o e n hb hx => by
              obtain⟨sl, e1⟩ := I.base.slot b o e n hb hx;exact⟨sl, (hs.2 b (low b o e)).trans e1⟩, I.base.free, fun b o e hx => by
              obtain⟨o', e1⟩ := I.base.there b o e hx;exact⟨o', (hs.2 b (low b o e)).trans e1⟩, I.base.qH, I.base.qe, I.base.tm, I.base.tu⟩
          loc := ⟨_, Vf, fun j y v' e1 e2 e3 => by
            by_cases hj : j = i
            · subst hj
              by_cases wO : j < σ.length
              · rw [cm wO] at e2; cases e2
              · rw [fO (by rw [bY]; lia)] at e2; cases e2
            · rw [b9 (eD hj)] at e2
              obtain⟨u', r', q⟩ := hl j y v' e1 e2 e3;refine⟨u', r', ?_⟩;rcases q with ⟨k, e⟩ | ⟨k, c, e, z⟩
              · refine .inl ⟨k, ?_⟩
                have : y ≠ n := fun e => hj (zJ hN e1 (e ▸ hi));simp [this, e]
              · exact .inr ⟨k, c, e, z.sameBut hs (I.Uj y c e)⟩⟩
          cell := fun y c e => by
            obtain⟨w', z⟩ := I.cell y c e;exact⟨w', z.sameBut hs (I.Uj y c e)⟩
          free := I.free, jf := I.jf
          pin := fun p hp => by
            obtain⟨h1, h2, h3, h4⟩ := I.pin p hp;exact⟨(hs.2 p.1 h3).trans h1, h2, h3, h4⟩
          b7 := fun b ob e => by
            refine(I.b7 b ob e).jl (fun c w' hc q => (hs.2 c ?_).trans q) (fun _ q => q) fun _ _ q => q;rintro rfl;rcases hc with rfl | hc
            · rw [I.free] at e; cases e
            · rw [I.free] at hc; cases hc
          len := by rw [bY]; exact I.len }
end
theorem Oa{K:ai}{H:Hp}{σ:L2.St}{τ:iD}(a:Ob K H σ τ)(i:Nat):Ob K H (σ.set i none) (τ.set i none):=by
 refine⟨by rw [bY,bY]; exact a.len,fun j e h=>?_⟩;by_cases hj:i=j
 ·subst hj;by_cases hi:i < τ.length
  ·rw [cm hi] at h; cases h
  ·rw [fO (by rw [bY]; lia)] at h; cases h
 ·rw [b9 hj] at h;obtain⟨w,h1,h2⟩:=a.at' j e h;exact⟨w,by rw [b9 hj]; exact h1,h2⟩
def subIn(K:ai)(C:Addr)(v:Value):Bool:=match K.lookup C with
 | some ⟨_,_,.cls cd,_⟩=>cd.mro.contains v
 | _=>false
theorem SU{K:ai}{h:Heap}{C N:Addr}{nm q:Str}{bs bm:List Value}{hdct:Bool}{sn:List Str}{sub:List Value}{ab:Bool}{col:Option Bool}{dd:Option Addr}{k0 k1 k2 k3 k5:Option Value}{newId:String}{v:Value}
  (Y:K.In h) (hC:h.get? C=some (OD nm q C N bs bm hdct sn sub ab col dd k0 k1 k2 k3 k5 newId)) (e:subIn K C v=true):(eL C :: bm).contains v=true:=by
 unfold subIn at e;split at e
 ·rename_i ho;have:=Y _ _ ho;rw [hC] at this;cases this;exact e
 ·cases e
section
variable {X:Cx} {x cn n:Str} {D f:Addr} {fd:fx} {ps:List Str} {k i:Nat} {sp:jU} {bmD:List Value} {newD:String} {cat:List Str} {e:Expr} {es:List Expr} {p np pos ep Gz tp:Pos} {VW:Stmt} {E3:List Stmt} {t:A8} {th:hU}
structure VF(X:Cx):Prop where
 st:X.stack=X.env :: X.outer
 fr:X.env.frame=some X.env.locals
 ex:X.ex=[]
structure Clause(X:Cx)(i:Nat)(n cn:Str)(D:Addr)(cat:List Str):Prop where
 nd:X.N.Nodup
 L9:X.N[i]?=some n
 loc:X.env.scope.names.lookup n=some .local
 gl:Gl X cn
 mg:X.mg cn=some (.ref D)
 cls:∃ bmD newD,nT X.K D bmD newD=true/\bmD.contains (.type "BaseException")=true
 cat:∀ c,cat.contains c=true->∃ C CF newId,eT X.K bQ c=some (some (.ref C))/\nT X.K C CF newId=true/\subIn X.K C (.ref D)=true
theorem Hi{pins:List (Addr×Obj)}{σ:L2.St}{H H1 Hj:Hp}{τ:iD}{G G1:Gp}{s1 s':ax}{Dn:nQ}{a C t0:Addr}{B:Heap}{ex:Ex}(A0:VF X)(L:Clause X i n cn D cat)(hth:∀ v,tG (marked X v) (VW :: E3) th)(J1:Inv X pins σ H1 s1)(st1:Ob X.K H1 σ τ)(ab1:kc X.K H1 G1)(m1:Mv X.K H G H1 G1)
  (I':Inv X pins σ Hj s') (mv:Mv X.K H1 G1 Hj G1) (fl:vW B X.stack a (.ref C) (.ref t0) s'.heap) (hB:∀ b o,s'.heap.get? b=some o->b∉tD X.stack->(s1.heap.get? b≠none\/Hj b≠none)->B.get? b=some o)
  (ha':Hj a=none) (Gy:s1.heap.get? a=none) (WO:X.mg ex.cls=some (.ref C)) (Ow:cat.contains ex.cls=true)
  (q':th (fun _ _=>False) ⟨fun oU G'=>Dn.nx (oU.set i none) G',fun _ _=>False,fun _ _=>False,fun _ _=>False⟩ (τ.set i (some (.exc ex.cls))) G1) (hdD:(cn == ("__debug__" : Str))=false) :
  wpAny (model X.prog X.w) X.A (noteFrame (.ref a) X.env) (fun _ kq=>wpAny (model X.prog X.w) X.A (setFlight (.ref a) none) (fun _ C5=>wpAny (model X.prog X.w) X.A (handleBy (.ref a) X.env [.ExceptHandler (some (.Name cn np)) (some n) (VW :: E3) Gz]) (Ux X pins H G Dn) X.xe C5) X.xe kq) X.xe s':=by
 obtain⟨Jw,Ov,hex⟩:=A0;obtain⟨hN,hi,hl,hgD,hmD,⟨bmD,newD,qD,bD⟩,ab9⟩:=L;obtain⟨C',CF,newId,Nr,qC,WH⟩:=ab9 ex.cls Ow;have eC:C'=C:=by
  have:=PySem.W.mg_of J1.ok.mod.U6 J1.ok.mod.glob Nr;rw [WO] at this; cases this; rfl
 subst eC;rw [Jw] at fl;refine wpAny_looks_onW (L:=X.env.locals) (by rw [<-Jw]; exact J1.ok.frames) Ov fl fun h4 held up4=>?_;refine wpAny_landsW held fun h5 fl5 up5=>?_;have I5:Inv X pins σ Hj { s' with heap:=h5 }:=CN I' J1 Jw Ov hex hB fl5.1 (up4.trans up5) _;refine wpAny_handleBy_cons (codeAny_handlers_test ?_) (by intro z; cases z);refine oz (X:=marked X (.ref a)) (HF I5) hgD hmD ?_ hdD;obtain⟨bm,N,nm,qn,bs,hdct,sn,sub,ab,col,dd,k0,k1,k2,k3,k5,mN,hC,_,_,T⟩:=DT I5.z8 qC;obtain⟨bm',N',nm',qn',Vv,Vk,sn',XY,Xj,Zu,AF,k0',k1',k2',k3',k5',mN',hD,_,_,T'⟩:=DT I5.z8 qD;obtain⟨oe,he5,hce⟩:=fl5.there;refine M3 hC hD he5 hce (T'.hasType bD) ?_;rw [SU I5.z8 hC WH];refine codeAny_handlers_suite_as ?_;refine lands_againW fl5 fun h6 fl6 up6=>?_;have I6:Inv X pins σ Hj { s' with heap:=h6 }:=CN I' J1 Jw Ov hex hB fl6.1 ((up4.trans up5).trans up6) _;obtain⟨Wr,he6,hc6⟩:=fl6.there;have nl:a≠X.env.locals:=fun z=>by
  obtain⟨m,⟨oL,_,_,hoL,_⟩,_⟩:=J1.loc;rw [z,hoL] at Gy; cases Gy
 have nc:∀ y c,X.env.cells.lookup y=some c->c≠a:=fun y c ec z=>by
  obtain⟨v,o,ho,_⟩:=J1.cell y c ec;rw [z,Gy] at ho; cases ho
 have npn:∀ q∈X.pn++pins,q.1≠a:=fun q hq z=>by
  have:=(J1.pin q hq).1;rw [z,Gy] at this; cases this
 have hn:X.i6.heap.get? a=none:=by
  cases q0:X.i6.heap.get? a with
  | none=>rfl
  | some o=>obtain⟨o1,e1⟩:=J1.base.there a o q0 (by rw [hex]; exact bO); rw [e1] at Gy; cases Gy
 have I7:=N6 (u:=.iC Wr (.ext fun h=>h.get? a=some Wr)) I6 ha' hn nl nc npn ⟨he6,he6,⟨_,he6⟩,fun h1 h2 q k=>k _ q⟩;have mvT:Mv X.K Hj G1 (upd Hj a (.iC Wr (.ext fun h=>h.get? a=some Wr))) G1:=.GB mv.ab ha';have kp7:Kp H1 (upd Hj a (.iC Wr (.ext fun h=>h.get? a=some Wr))):=(mv.trans mvT).kp ab1;refine wj (v:=.ref a) I7 hN hi (.inl hl) rfl (fun s8 I8 _=>?_) (.inr hl);refine oG (hth (.ref a) (fun _ _=>False) pins s8 _ _ (τ.set i (some (.exc ex.cls))) G1 _ (Lk.none fun _ _ z=>z)
  ⟨HF I8,(st1.mono kp7).set i (.exc ⟨Wr,C',bU,hc6,Nr⟩),mvT.ab⟩ q') (fun fw s9 q9=>?_) (fun _ _ z=>z.elim)
 cases fw with
 | next =>
  obtain⟨XJ,H9,Xr,G9,I9,m9,q9⟩:=q9;exact VJ (Kj J1.ok I9.inv) hN hi hl fun s10 I10=>⟨XJ.set i none,H9,Xr.set i none,G9,⟨I10,Oa I9.st i,I9.ab⟩,m1.trans (mv.trans (mvT.trans m9)),q9⟩
 | brk=>obtain⟨_,_,_,_,_,_,z⟩:=q9; exact z.elim
 | cont=>obtain⟨_,_,_,_,_,_,z⟩:=q9; exact z.elim
 | ret u=>obtain⟨_,_,_,_,_,_,_,_,_,z⟩:=q9; exact z.elim
theorem S9(A0:VF X)(L:Clause X i n cn D cat)
  (F:tK X.prog X.w X.K X.mg X.base (Sl X.prog X.w) k f fd ps (E6 X.K X.mg sp)) (hr:kO k X.A) (hg:Gl X x) (hm:X.mg x=some (.ref f)) (hk:pG X.K (.ref f)=true) (hb:Binds X.K fd ps [])
  (ha:∀ EX,BC (X.uJ EX) (e :: es) t) (hth:∀ v,tG (marked X v) (VW :: E3) th)
  (Ag:autoParam ((x == ("__debug__" : Str))=false) Ad._auto_1) (hdD:autoParam ((cn == ("__debug__" : Str))=false) Ad._auto_1) (he:autoParam (bx (e :: es) X.env=(false,eval e X.env) :: bx es X.env) Ar._auto_1) (Ab:autoParam ((mx pos (bx es X.env)).any (·.1)=false) Ar._auto_1)
  (hs:autoParam (EH (.Call (.Name x p) (e :: es) [] pos) none ep.line X.env=pure false) Ar._auto_1) :
  EE X (.Try [.Expr (.Call (.Name x p) (e :: es) [] pos) ep] [.ExceptHandler (some (.Name cn np)) (some n) (VW :: E3) Gz] [] [] tp) (Rg sp t i cat th):=by
 intro E pins s σ H τ G Dn hE I h;refine wpAny_Try_except ?_;refine Ml (wpAny_Expr_any ?_ I.inv.quiet hs);generalize hEX:(fun (e:Value) (fC:ax)=>wpAny (model X.prog X.w) X.A (noteFrame e X.env) (fun _ kq=>wpAny (model X.prog X.w) X.A (setFlight e none) (fun _ C5=>wpAny (model X.prog X.w) X.A (handleBy e X.env [.ExceptHandler (some (.Name cn np)) (some n) (VW :: E3) Gz]) (Ux X pins H G Dn) X.xe C5) X.xe kq) X.xe fC)=EX;refine eS (oz I.inv hg hm ?_ Ag);have I0:I2 (X.uJ EX) pins σ H τ G s:=⟨I.inv.uJ EX,I.st,I.ab⟩;refine xP (h₀:=X.base) I.inv.ok.mod.U6 hk (y8 (X:=X.uJ EX) (ha EX) pos (Lk.none fun _ _ z=>z) I0 h fun vs H1 ds G1 us s1 I1 m1 r rd q=>⟨I1.inv.z8,?_⟩) he Ab;have J1:Inv X pins σ H1 s1:=I1.inv.pL;refine oG (O7 F hr hb J1 I1.ab r rd q) ?_ ?_
 ·rintro u s' ⟨v,d,G',Hj,I',mv,rv,Pg,q'⟩;exact mY (mY ⟨σ,Hj,τ,G1,⟨I',I1.st.mono (mv.kp I1.ab),mv.ab⟩,m1.trans mv,q'⟩)
 ·rintro ev s' ⟨a,C,t0,B,ex,Hj,ea,I',mv,fl,hB,ha',Gy,WO,_,Ow,q'⟩;subst ea; subst hEX;exact Hi A0 L hth J1 I1.st I1.ab m1 I' mv fl hB ha' Gy WO Ow q' hdD
end
end K2
end
section
namespace K2
open PySem PySem.Spec PyProof.Rows L2 PySem.W PySem.Calls PySem.Builtin PySem.Builtin.Getset_descriptor
section
variable {prog:bI} {w:World} {A:cS} {E:Value->ax->Prop} {s:ax} {K:ai} {a C:Addr} {ox:Obj}
theorem T8 {Q:Option Value->ax->Prop} {B:String} {CF:List Value} (FB:ExcAttrBase B CF) (X:K.In s.heap) (hx:s.heap.get? a=some ox) (hc:ox.cls=.ref C) (hga:OC K (.ref C) "__getattribute__" = some (some (.builtin "BaseException.__getattribute__"))) (hgn:OC K (.ref C) "__getattr__" = some none)
  (hA:OC K (.ref C) "__class__" = some (some (.builtin "object.__class__"))) (hG:specialIn K (.builtin "object.__class__") "__get__" = some (some (.builtin "getset_descriptor.__get__"))) (hT:takesIn K (.builtin "object.__class__")=some true) (hm:mroIn K C (.type "object")=some true) (hmB:mroIn K C (.type "BaseException")=some true)
  (h:Q (some (.ref C)) { s with toks:=s.toks+1 }):wpAny (model prog w) A (getAttr? (.ref a) "__class__") Q E s:=by
 obtain⟨hh,g,d,t,os⟩:=s;have L0:Looks (model prog w) hh (typeOf (.ref a)) (.ref C):=hc ▸ (Looks.ld hx).andThen .now;have L1:=looks_findIn (M:=model prog w) X hga;have L2:=looks_findIn (M:=model prog w) X hgn;have L5:=looks_mroIn (M:=model prog w) X hm;have L3:Looks (model prog w) hh (Builtin.ObjectAttr.find (.ref a) (.ref C) "__class__") (.bind (.builtin "getset_descriptor.__get__") (.builtin "object.__class__")):=by
  refine(looks_findIn X hA).andThen ((looks_specialIn X hG:Looks (model prog w) hh (Builtin.ObjectAttr.getOf (some (.builtin "object.__class__"))) _).andThen ?_);refine((looks_takesIn X hT).andThen .now:Looks (model prog w) hh (Builtin.ObjectAttr.dataDescriptor? (some (.builtin "object.__class__")) (some (.builtin "getset_descriptor.__get__"))) (some (.builtin "getset_descriptor.__get__",.builtin "object.__class__"))).andThen ?_;exact Looks.tag .now
 have L4:=looks_mroIn (M:=model prog w) X hmB;have Z5:(Mm "BaseException.__getattribute__" == Mm "object.__getattribute__")=false:=by decide +kernel
 unfold getAttr? getAttrBy? getAttrBy;refine ag (wpAny_mkText (ag (qE (cN (ag (L0.at (ag (L1.at ?_))))))));dsimp only;rw [if_neg (by rw [Z5]; simp)];unfold getAttrByItsOwn hookBefore callGetattribute;have f3:=FB.ga.bind (.ref a);have fin:yS (model prog w) A (.call (.builtin "BaseException.__getattribute__") ⟨[.ref a,.str "__class__" t],[]⟩) (fun r s'=>r=.ok (.ret (.ref C))/\s'=⟨hh,g,d,t+1,os⟩) ⟨hh,g,d,t+1,os⟩:=by
  refine codeAny_call_builtin FB.ga.plain F.entry_bexc_ga ?_;have hk:builtinKind "BaseException.__getattribute__" = some .slot:=by decide +kernel
  have WI:splitId "BaseException.__getattribute__" = some ("BaseException","__getattribute__"):=by decide +kernel
  have ha:=F.args_bexc_ga (.ref a) (.str "__class__" t);have LI:Looks (model prog w) hh (Ie (.ref a) (.type "BaseException")) true:=L0.andThen L4;simp only [checkBuiltinCall,hk,WI];refine ag (LI.at ?_);simp only [bq,aj,if_false];have body:wpAny (model prog w) A.in1 (Builtin.«object.__getattribute__» ⟨[.ref a,.str "__class__" t],[]⟩)
    (fun fin s'=>fin=.done (.ret (.ref C))/\s'=⟨hh,g,d,t+1,os⟩) (fun _ _=>False) ⟨hh,g,d,t+1,os⟩:=by
   unfold Builtin.«object.__getattribute__»;refine ag (ay ?_);refine ag (ay ?_);refine ag (L0.at (ag (L3.at ?_)));show wpAny _ _ (Builtin.ObjectAttr.bindTo (.builtin "getset_descriptor.__get__") (.builtin "object.__class__") (.ref a) (.ref C)) _ _ _;show wpAny _ _ (do let v ← CO [.builtin "object.__class__"] (call (.builtin "getset_descriptor.__get__") [.builtin "object.__class__",.ref a,.ref C]); ret v) _ _ _;refine ag (cN (wpAny_call ?_));refine codeAny_call_builtin KF.slot_gs.plain KF.entry_gs (KF.slot_gs.check _ _ _ _ _ _ _ _ KF.type_class (KF.args_gs _ _ _) ?_);unfold Builtin.«getset_descriptor.__get__» descrGet;rw [dga_obj];refine ag (ay ?_);unfold descrGetter descrCheckInstance descrNameAndClass Ie;simp only [KF.owner_class]
   repeat lk
   refine⟨Code.quiet_builtin _ (by decide +kernel),nj KF.entry_class ?_⟩;unfold Builtin.«object.__class__» shownTypeOf
   repeat lk
   exact⟨rfl,rfl⟩
  have go:∀ z:Sem Unit,z=pure ()->∀ (P:Unit->ax->Prop) (E':Value->ax->Prop) s',P () s'->wpAny (model prog w) A.in1 z P E' s':=fun z e P E' s' hp=>by rw [e]; exact ay hp
  refine go _ ha _ _ _ (oG body ?_ (fun _ _ z=>z.elim));rintro fin s' ⟨e1,e2⟩;subst e1; exact⟨rfl,e2⟩
 refine ag (L2.at (ag (qE (cN ?_))));simp only [qR,aj,if_false];unfold boundAndCalled;rw [f3];refine ag (ay (wpAny_call (yR fin ?_)));rintro r s' ⟨e1,e2⟩;subst e1; subst e2;exact ay (ay h)
structure RU(K:ai)(C:Addr):Prop where
 ga:OC K (.ref C) "__getattribute__" = some (some (.builtin "BaseException.__getattribute__"))
 gn:OC K (.ref C) "__getattr__" = some none
 L9:OC K (.ref C) "__class__" = some (some (.builtin "object.__class__"))
 sp:specialIn K (.builtin "object.__class__") "__get__" = some (some (.builtin "getset_descriptor.__get__"))
 tk:takesIn K (.builtin "object.__class__")=some true
 mo:mroIn K C (.type "object")=some true
 mb:mroIn K C (.type "BaseException")=some true
 is:(clsIn K C).isSome=true
theorem Gi{B:String}{CF:List Value}(FB:ExcAttrBase B CF)(Z:RU K C):KitX K (.ref a) (.ref C) (fun h=>∃ o,h.get? a=some o/\o.cls=.ref C) where
 ty:=by rintro M h _ ⟨o,hx,hc⟩; exact hc ▸ (Looks.ld hx).andThen .now
 it:=fun M h X _=>by
  have WU:=Z.is;unfold clsIn at WU;split at WU
  ·rename_i ho;intro A' Q' E' s' k q;unfold isType loadHead;exact ag (wpAny_loadPart (k _ _ (X _ _ ho)) (ay q))
  ·cases WU
 ne:=fun h tp dd bH n sl X htp=>by
  have WU:=Z.is;refine Bool.eq_false_iff.mpr fun q=>?_;have e:C=tp:=Value.ref.inj (beq_iff_eq.mp q);subst e;unfold clsIn at WU;split at WU
  ·rename_i ho;have z:=(X _ _ ho).symm.trans htp;cases z
  ·cases WU
 ca:=fun X ⟨o,hx,hc⟩ k=>T8 FB X hx hc Z.ga Z.gn Z.L9 Z.sp Z.tk Z.mo Z.mb k
end
end K2
end
section
namespace K2
open PySem PySem.Spec PyProof.Rows L2
theorem D5{P:Str->Prop}:∀ c,([]:List Str).contains c=true->P c:=fun c h=>by simp at h
theorem nN{l:List Str}{P:Str->Prop}{x:Str}(h:P x)(t:∀ c,l.contains c=true->P c):∀ c,(x :: l).contains c=true->P c:=fun c hc=>by
 rw [List.contains_cons,gG] at hc;rcases hc with hc | hc
 ·rw [beq_iff_eq.mp hc]; exact h
 ·exact t c hc
section
variable {X:Cx} {a:Expr} {ta:fV} {p pos:Pos} {B:String} {CF:List Value} {all sub:List Str}
theorem FC {y:Str} {py:Pos} {C:Addr} (FB:ExcAttrBase B CF) (hg:Gl X "isinstance") (hm:X.mg "isinstance" = none) (hgC:Gl X y) (hmC:X.mg y=some (.ref C)) (abN:vV X.K (.type "NoneType") (.ref C)=some false)
  (Za:∀ c,all.contains c=true->∃ C',eT X.K bQ c=some (some (.ref C'))/\vV X.K (.ref C') (.ref C)=some (sub.contains c)/\RU X.K C') (ha:fW X a ta) (Ag:autoParam ((y == ("__debug__" : Str))=false) Ad._auto_1)
  (he:autoParam (bx [a,.Name y py] X.env=(false,eval a X.env) :: bx [.Name y py] X.env) Ar._auto_1) (Ab:autoParam ((mx pos (bx [Expr.Name y py] X.env)).any (·.1)=false) Ar._auto_1) (T5:autoParam (bx [.Name y py] X.env=[(false,eval (.Name y py) X.env)]) Ar._auto_1) :
  fW X (.Call (.Name "isinstance" p) [a,.Name y py] [] pos) (LU all sub ta):=by
 intro E pins s σ H τ G Q hE I h;refine eS (nH I.inv hg hm xQ ?_);refine lz ?_ he Ab;rw [he];show wpAny _ _ (yL ((false,eval a X.env) :: mx pos (bx [.Name y py] X.env))) _ _ s;refine fR (i5 ha hE I h fun v H1 d G1 u s1 I1 m1 r1 jj q1=>?_);rw [T5];show wpAny _ _ (yL [(false,eval (.Name y py) X.env)]) _ _ s1;refine fR (oz I1.inv hgC hmC (jW ?_) Ag);have fin:∀ b tk,Q (.bl b) G1->su X pins σ H G Q (.bool b) { s1 with toks:=tk }:=fun b tk q =>
  ⟨.bl b,H1,.bl b,G1,I1.inv.tok _,m1,rfl,.bl b,q⟩
 cases jj with
 | eN =>
  cases r1;exact fH Sq I1.inv.z8 fX abN (fun z=>nomatch z) fun tk=>fin false tk q1
 | exc h0 =>
  cases r1;obtain⟨o,C',e1,e2,e3⟩:=h0;obtain⟨vC,q2⟩:=q1;obtain⟨C2,e4,k1,k2⟩:=Za _ vC;rw [e3] at e4;cases e4;exact fH (Gi FB k2) I1.inv.z8 ⟨o,(I1.inv.b7 _ _ e1).1,e2⟩ k1 (fun z=>nomatch z) fun tk=>fin _ tk q2
 | Cq h0 _ =>
  cases r1;obtain⟨o,C',_,_,_,e1,e2,e3,_⟩:=h0;obtain⟨vC,q2⟩:=q1;obtain⟨C2,e4,k1,k2⟩:=Za _ vC;rw [e3] at e4;cases e4;exact fH (Gi FB k2) I1.inv.z8 ⟨o,(I1.inv.b7 _ _ e1).1,e2⟩ k1 (fun z=>nomatch z) fun tk=>fin _ tk q2
 | _=>exact q1.elim
end
section
variable {X:Cx} {e:Expr} {te:fV} {pos:Pos}
theorem kC{i:Nat}{x:Str}{pos':Pos}(hN:X.N.Nodup)(hi:X.N[i]?=some x)(he:fW X e te)(hx:autoParam (Loc X.env.scope x) Ao._auto_1)(hs:autoParam (EH e (some (.Name x pos')) pos.line X.env=pure false) Ar._auto_1)(hf:autoParam (X.fn x=true\/X.env.scope.names.lookup x=some .local) Ao._auto_1) :
  EE X (.Assign [.Name x pos'] e pos) (bM te (aH i)):=Ta hN hi hx he hs hf
theorem kS{i:Nat}{x:Str}(hN:X.N.Nodup)(hi:X.N[i]?=some x)(hx:autoParam (Loc X.env.scope x) Ao._auto_1)(hf:autoParam (X.fn x=true\/X.env.scope.names.lookup x=some .local) Ao._auto_1):NW X (.Name x pos) (aH i):=PI hN hi hx hf
theorem fo2{P:bI}{w:World}{K:ai}{mg:Str->Option Value}{base:Heap}{x qual:Str}{st:Stmt}{f:Addr}{fd:fx}{Nn ps:List Str}{k:Nat}{sp:jU}{rd:hU}(F:Sj K x qual st f fd)(S:lF Nn ps (bN st))
  (hr:∀ ds G Q,sp ds G Q (fun _ _=>False)->rd (fun _ _=>False) (ends Q) (bo Nn.length ds) G)
  (hb:∀ (kT:Value) (A:cS) (outer:List Env) (s:ax) (H:Hp) (E:XK),kO k (A.deeper (xb qual (bN st) s.heap.objs.size f kT))->tG (vM Kl P w K mg base Nn qual (bN st) f kT A outer s H E).Ws (gC st) rd)
  (len:autoParam (∀ ds G Q E,sp ds G Q E->ds.length=ps.length) Al._auto_1):tK P w K mg base Kl (k+1) f fd ps (Bi K sp):=LD F S len hr hb
theorem scm{N ps:List Str}{sc:Scope}(h1:autoParam (sc.kind=.function) Ar._auto_1)(h2:autoParam (sc.isCoroutine=false) Ar._auto_1)(h3:autoParam (sc.isGenerator=false) Ar._auto_1)(h4:autoParam N.Nodup Ak._auto_1)(h5:autoParam (N.take ps.length=ps) Ar._auto_1)
  (h6:autoParam (∀ x∈ps,sc.names.lookup x=some .local\/sc.names.lookup x=some .cell) Ak._auto_1) (h7:autoParam (∀ y∈sc.names,y.2≠.free) Ak._auto_1):lF N ps sc:=⟨h1,h2,h3,h4,h5,h6,h7⟩
end
section
variable {X:Cx} {a b c:Expr} {ta tb tc:fV} {pos:Pos}
theorem yt {x:Str} {i:Int} {t:Tok} {p:Pos} (hg:Gl X x) (hm:X.mg x=some (.int i t)) (hd:autoParam ((x == ("__debug__" : Str))=false) Ad._auto_1):fW X (.Name x p) (dC (.int i)):=sG (Th (v:=.int i) hg hm ⟨t,rfl⟩ hd) fun _ _=>.int i
theorem BZ{op op':CmpOp}{r r':yI}(ho:nP X (dQ op) r)(Cj:nP X (dQ op') r')(ha:fW X a ta)(hb:fW X b tb)(hc:fW X c tc)
  (hm:autoParam (lastMarks [op,op'] [b,c]=false) Aw._auto_1):Kb X (.Compare a [op,op'] [b,c] pos) (vL r r' ta tb tc):=by
 intro E pins s σ H τ G Q hE I h;refine isTrue_chain (i5 ha hE I h fun x H1 dx G1 v s1 I1 m1 r1 jj q1=>test_link (i5 hb hE I1 q1 fun y H2 dy G2 u s2 mr m2 r2 xr q2=>?_)) hm;refine gH (ho pins s2 σ H2 G2 x y dx dy v u _ mr.inv mr.ab r1 r2 (jj.mono (m2.kp I1.ab)) xr q2) fun d s3 z=>?_;obtain⟨z,H3,dz,G3,I3,m3,r3,Ye,k,e,q3⟩:=z;subst e;cases Ye;cases r3;have YF:=(m1.trans m2).trans m3;refine iY ?_;cases k with
 | false=>exact ite_ff ⟨H3,G3,I3,YF,q3⟩
 | true =>
  have J3:I2 X pins σ H3 τ G3 s3:=mr.mv I3 m3;refine ite_tt (test_last (i5 hc hE J3 q3 fun w' H4 dw G4 u4 s4 I4 m4 r4 rd4 q4=>?_));refine gH (Cj pins s4 σ H4 G4 y w' dy dw u u4 _ I4.inv I4.ab r2 r4 ((xr.mono (m3.kp mr.ab)).mono (m4.kp J3.ab)) rd4 q4) fun d' s5 z=>?_;obtain⟨z2,H5,dz2,G5,I5,m5,r5,rd5,k2,e2,q5⟩:=z;subst e2;cases rd5;cases r5;exact iY ⟨H5,G5,I5,(YF.trans m4).trans m5,q5⟩
end
end K2
end
section
namespace L2
open PySem PySem.Spec PyProof.Rows
section
variable {prog:bI} {w:World} {A:cS} {E:Value->ax->Prop} {s:ax}
theorem Js{it d:Addr}{od:Obj}{es:Array fI}{i ep:Nat}{ok ov:Value}{Q:Option Value->ax->Prop}(hit:oJ s.heap it d i es.size ep ok ov)(EC:s.heap.get? d=some od)(dd:od.data=.dict es ep)(hi:i < es.size)
  (hQ:∀ h',IsItemIterOut h' it d (i+1) es.size ep es[i].key es[i].val s.heap.objs.size->h'.get? s.heap.objs.size=some { cls:=.type "tuple",data:=.seq #[es[i].key,es[i].val] }->(∀ b o,b≠it->s.heap.get? b=some o->h'.get? b=some o)->Q (some (.ref s.heap.objs.size)) { s with heap:=h' }) :
  wpAny (model prog w) A (xa (.ref it)) Q E s:=by
 obtain⟨hp,g,dr,tk,os⟩:=s;have ty:Ko ⟨hp,g,dr,tk,os⟩ (.ref it) "dict_itemiterator":=⟨_,hit,rfl⟩;unfold xa;refine ag (qE (jr (name:=qN "__next__") ty jt (da jt ty HJ ?_ (EN _))));refine ag (ay (ag (ag ?_)))
 first | refine ag (jq ty (ay (ag (oT hit rfl ?_)))) | refine ag (lG ty (ay (ag (oT hit rfl ?_))))
 have PR:fB "dict_itemiterator" = true:=by decide
 rw [PR];show wpAny _ _ (if (eL d == gu)=true then _ else _) _ _ _;rw [if_neg (fun z=>by cases z)];refine ag (ay (ag (gL EC dd ?_)));rw [if_neg (by simp)];refine ag (ay (ag (mZ EC dd ?_)));rw [if_neg (by simp)];refine ay ?_;dsimp only;rw [if_neg (show ¬ ((i:Int) < 0) from Int.not_lt.mpr (qQ i)),dE,ko hi];dsimp only;refine ag ?_
 first | refine ag (jq ty (ay (ag (oj ty ?_)))) | refine ag (lG ty (ay (ag (oj ty ?_))))
 show wpAny _ _ (setField (.ref it) 3 (EI ((i:Int)+1)) >>= _) _ _ ⟨hp,g,dr,tk,os⟩;refine ag (mX hit (by simp) fun h1 e1 s1=>?_);have s1:fP it hp h1:=s1;have e1:oJ h1 it d (i+1) es.size ep ok ov:=by
  have e:((i+1:Nat):Int)=(i:Int)+1:=by lia
  unfold oJ; rw [e]; simpa [EI] using e1
 have ty1:Ko ⟨h1,g,dr,tk,os⟩ (.ref it) "dict_itemiterator":=⟨_,e1,rfl⟩;refine ag (cN (ag (oj ty1 (ag (oj ty1 ?_)))));show wpAny _ _ (rm (.ref it) 6 es[i].key es[i].val) _ _ ⟨h1,g,dr,tk,os⟩;unfold rm;refine ag (wpAny_newTuple ?_);have z1:h1.objs.size=hp.objs.size:=s1.1;have lt:it < hp.objs.size:=aN hit;have e2:oJ (h1.push { cls:=.type "tuple",data:=.seq #[es[i].key,es[i].val] }) it d (i+1) es.size ep ok ov:=aA _ e1;have t2:(h1.push { cls:=.type "tuple",data:=.seq #[es[i].key,es[i].val] }).get? hp.objs.size=some { cls:=.type "tuple",data:=.seq #[es[i].key,es[i].val] }:=by rw [<-z1]; exact a9 _ rfl
 have k2:∀ b o,b≠it->hp.get? b=some o->(h1.push { cls:=.type "tuple",data:=.seq #[es[i].key,es[i].val] }).get? b=some o:=fun b o hb e=>aA _ (s1.extBut b o hb e);generalize h1.push { cls:=.type "tuple",data:=.seq #[es[i].key,es[i].val] } = h2 at e2 t2 k2;show wpAny _ _ (jh (.ref it) >>= _) _ _ ⟨h2,g,dr,tk,os⟩;rw [z1];refine ag (show wpAny _ _ (jh (.ref it)) _ _ _ from ?_);unfold jh;refine ag (qV e2 rfl (x:=.none) rfl (ay ?_));rw [if_pos rfl];refine ag (qV e2 rfl (x:=ok) rfl (ag (qV e2 rfl (x:=ov) rfl (ag (mX e2 (by simp) fun h3 e3 s3=>?_)))));have s3:fP it h2 h3:=s3;have e3:oJ h3 it d (i+1) es.size ep es[i].key ov:=e3;refine ag (mX e3 (by simp) fun h4 e4 s4=>?_);have s4:fP it h3 h4:=s4;have e4:oJ h4 it d (i+1) es.size ep es[i].key es[i].val:=e4;refine ag (mX e4 (by simp) fun h5 e5 s5=>?_);have s5:fP it h4 h5:=s5;have e5:IsItemIterOut h5 it d (i+1) es.size ep es[i].key es[i].val hp.objs.size:=e5;refine ag (mX e5 (by simp) fun h6 e6 s6=>?_);have s6:fP it h5 h6:=s6;have all:∀ b o,b≠it->h2.get? b=some o->h6.get? b=some o:=fun b o hb e=>s6.extBut b o hb (s5.extBut b o hb (s4.extBut b o hb (s3.extBut b o hb e)));exact ag (qU (ay (ay ⟨_,rfl,ay (hQ h6 e6 (all _ _ (wc lt) t2) fun b o hb e=>all b o hb (k2 b o hb e))⟩)))
end
end L2
namespace L2
open PySem PySem.Spec PyProof.Rows
section
variable {prog:bI} {w:World} {A:cS} {E:Value->ax->Prop} {s:ax}
theorem Nj{it d:Addr}{od:Obj}{es:Array fI}{i ep:Nat}{ok ov:Value}{Q:Option Value->ax->Prop}(calm:A.handled=none)(hit:oJ s.heap it d i es.size ep ok ov)(EC:s.heap.get? d=some od)(dd:od.data=.dict es ep)(hi:es.size<=i)
  (hQ:∀ h',Heap.ExtBut it s.heap h'->Q none { s with heap:=h' }):wpAny (model prog w) A (xa (.ref it)) Q E s:=by
 have ty:s.TypeIs (.ref it) "dict_itemiterator":=⟨_,hit,rfl⟩;unfold xa;refine ag (qE (jr (name:=qN "__next__") ty jt (da jt ty HJ ?_ (EN _))));refine ag (ay (ag (ag ?_)))
 first | refine ag (jq ty (ay (ag (oT hit rfl ?_)))) | refine ag (lG ty (ay (ag (oT hit rfl ?_))))
 have PR:fB "dict_itemiterator" = true:=by decide
 rw [PR];show wpAny _ _ (if (eL d == gu)=true then _ else _) _ _ s;rw [if_neg (fun z=>by cases z)];refine ag (ay (ag (gL EC dd ?_)));rw [if_neg (by simp)];refine ag (ay (ag (mZ EC dd ?_)));rw [if_neg (by simp)];refine ay ?_;dsimp only;rw [if_neg (show ¬ ((i:Int) < 0) from Int.not_lt.mpr (qQ i)),dE,Oi hi];dsimp only;refine ag ?_
 first | refine ag (jq ty (ay (?_))) | refine ag (lG ty (ay (?_)))
 show wpAny _ _ (setField (.ref it) 2 .none >>= _) _ _ s;refine ag (So hit rfl (by simp) (show wpAny _ _ (newExc (.type "StopIteration") [] >>= _) _ _ _ from ag ?_));simp only [newExc,newTuple];refine ag (dc (ag (m:=BG _ _) (wpAny_of_eq (a:=gu) (by first | rfl | (simp only [BG]; rfl)) (dc ?_ (by size_fits)))) (by size_fits));simp only [raiseNew];refine ag (wpAny_handled ?_);rw [show A.in1.handled=none from calm];refine ag (ay (wpAny_throw ?_));refine ag (lS (T:="StopIteration") (b:=true) ⟨_,a9 _ rfl,rfl⟩ isSubtype_stop (?_));exact ay (hQ _ (((jM ..).extBut.push _).push _))
end
end L2
namespace L2
open PySem PySem.Spec PyProof.Rows
section
variable {prog:bI} {w:World} {A:cS} {E:Value->ax->Prop} {s:ax}
theorem vd (d:Addr) (ns:(d == df)=false):MeetsIn prog w (Builtin.«dict.items» ⟨[.ref d],[]⟩) (fun _ R s=>s.TypeIs (.ref d) "dict"/\R (.ok (.ret (.ref s.heap.objs.size))) { s with heap:=s.heap.push { cls:=.type "dict_items",data:=.fields #[.ref d] } }):=by
 refine .of_wp ?_;rintro A R s ⟨ty,h⟩;unfold Builtin.«dict.items» Builtin.Dict.noArgs;refine ag (ag (yK ty (show wpAny _ _ (pure d) _ _ s from ay ?_)));show wpAny _ _ (lA d >>= _) _ _ s;unfold lA;rw [if_neg (fun z=>by rw [ns] at z; cases z)];exact ag (ay (ag (dc (ay ⟨_,rfl,h⟩))))
theorem xD{v d:Addr}{od:Obj}{es:Array fI}{ep:Nat}{Q:Value->ax->Prop}(hv:s.heap.IsItemsView v d)(EC:s.heap.get? d=some od)(dd:od.data=.dict es ep)
  (hQ:Q (.ref s.heap.objs.size) { s with heap:=s.heap.push { cls:=.type "dict_itemiterator",data:=.fields #[.none,.bool false,.ref d,.int 0 0,.int es.size 0,.int ep 0,.none,.none] } }) :
  wpAny (model prog w) A (EJ (.ref v)) Q E s:=by
 obtain⟨ov,hov,hcv,hdv⟩:=id hv;refine oF hv.typeIs F.slot_dict_items_iter (da F.slot_dict_items_iter hv.typeIs F.entry_dict_items_iter ?_ (F.args_dict_items_iter_1 _));unfold Builtin.«dict_items.__iter__» Builtin.Dict_items.dictOf;refine ag (ay (ag (ag (qV hov hdv (x:=.ref d) rfl (ay (ag ?_))))));unfold Builtin.Dict_items.newIterator;refine ag (gL EC dd (ag (mZ EC dd ?_)));have PR:fB "dict_itemiterator" = true:=by decide
 rw [PR];dsimp only;rw [if_pos (show true=true from rfl)];refine dc (ay ⟨_,rfl,"dict_itemiterator",_,⟨_,a9 _ rfl,rfl⟩,F.slot_dict_itemiterator_next.lookup,?_⟩) ?_
 ·simpa [EI,qo] using hQ
 ·simp only [sizeOk,qo,aR,aG,ak,aB,cD]; lia
end
def acN(a:Addr)(o:Obj)(es:Array fI)(ps:List (V×V)):It :=
 ⟨fun i H=>(∃ u,H a=some (.iC o u))/\i < es.size,fun i H v H'=>∃ T p,v=.ref T/\H T=none/\H'=upd H T (.tup [p.1,p.2])/\ps[i]?=some p,fun i H=>(∃ u,H a=some (.iC o u))/\es.size<=i⟩
theorem xf{P:bI}{w:World}{K:ai}{elts:List Expr}{kk:Nat}{pos:Pos}(a it:Addr)(o:Obj)(es:Array fI)(ep:Nat)(ps:List (V×V))(dd:o.data=.dict es ep)(hk:∀ i (h:i < es.size),∃ p,ps[i]?=some p/\RelV p.1 es[i].key/\RelV p.2 es[i].val) :
  Turn P w K (.Tuple elts kk pos) (acN a o es ps) [it] it (fun i h=>∃ ok ov,oJ h it a i es.size ep ok ov) where
 mem:=by simp
 obj:=by
  rintro i h ⟨ok,ov,st⟩ b hb;have e:b=it:=by simpa using hb
  subst e;exact⟨_,st,fun v z=>by cases z⟩
 keep:=by rintro i h h' ⟨ok,ov,st⟩ k; exact⟨ok,ov,k it (by simp) _ st⟩
 item:=by
  intro X hP hw hK hc i pins s σ H E I hf st hg;obtain⟨ok,ov,st⟩:=st;subst hP hw hK;obtain⟨⟨u,hu⟩,hi⟩:=hg;obtain⟨p,hp,r1,r2⟩:=hk i hi;have WZ:H s.heap.objs.size=none:=I.b7.fresh (aC _);have Y6:it≠s.heap.objs.size:=bu (aN st);refine Js st (I.b7 a _ hu).1 dd hi fun h' ho hT kk=>?_;refine⟨_,rfl,?_⟩;have I1:Inv X pins σ (upd H s.heap.objs.size (.tup [p.1,p.2])) { s with heap:=h',toks:=s.toks } :=
   I.yf (fp:=[it]) hf (fun b o hb q=>kk b o (fun z=>hb (by simp [z])) q) (aC _)
    ⟨by show 2<=aX; decide,[es[i].key,es[i].val],.cons r1 (.cons r2 .nil),⟨_,hT,rfl,_,rfl⟩⟩
  refine Oz (s:={ s with heap:=h' }) ho fun h2 T5 Cg=>?_;have f1:∀ b∈[it],oi X pins (upd H s.heap.objs.size (.tup [p.1,p.2])) b:=fun b hb=>(hf b hb).upd (by rw [List.mem_singleton.mp hb]; exact Y6);have I2:Inv X pins σ (upd H s.heap.objs.size (.tup [p.1,p.2])) { s with heap:=h2,toks:=s.toks } :=
   Inv.sC (s:={ s with heap:=h',toks:=s.toks }) (t':=s.toks) (fp:=[it]) I1 f1 fun b o hb q=>(Cg.2 b (fun z=>hb (by simp [z]))).trans q
  exact⟨.ref s.heap.objs.size,_,I2,rfl,⟨_,p,rfl,WZ,rfl,hp⟩,⟨_,_,T5⟩,fun b hb=>(f1 b hb).1⟩
 done:=by
  intro X hP hw hK hc i pins s σ H E I hf st hg;obtain⟨ok,ov,st⟩:=st;subst hP hw hK;obtain⟨⟨u,hu⟩,hi⟩:=hg;obtain⟨f0,f1,f2,f3,f4,f5⟩:=hf it (by simp);exact Nj (I.ok.hd hc) st (I.b7 a _ hu).1 dd hi fun h' eb=>⟨rfl,I.turned (t':=s.toks) (fun b o hb e=>eb b o hb e) f0 f1 f3 f4 f5⟩
 self:=by
  rintro A i s Q E ⟨ok,ov,st⟩ h;have ty:s.TypeIs (.ref it) "dict_itemiterator":=⟨_,st,rfl⟩;refine oF ty ju (da ju ty mC ?_ (EO _));show wpAny _ _ (ret (.ref it)) _ _ s;exact ay ⟨_,rfl,"dict_itemiterator",_,ty,F.slot_dict_itemiterator_next.lookup,h⟩
end L2
end
section
namespace K2
open PySem PySem.Spec PyProof.Rows L2
section
variable {X:Cx} {elts:List Expr} {kk:Nat} {Bg apos lN:Pos} {o:Expr} {to:fV}
theorem mD.item{K:ai}{H:Hp}{kv:List (List Key×V)}{kvs:List (D×D)}(h:mD K H kv kvs):∀ {i:Nat} {q:D×D},kvs[i]?=some q->∃ p,kv[i]?=some p/\q.1=.tup (p.1.map eP)/\bV K H p.2 q.2:=by
 induction h using mD.ind with
 | nil=>intro i q e; simp at e
 | @cons k v d r t rd rs ih =>
  intro i q e;cases i with
  | zero=>simp at e; subst e; exact⟨_,rfl,rfl,rd⟩
  | succ i =>
   obtain⟨p,h1,h2⟩:=ih (i:=i) (q:=q) (by simpa using e);exact⟨p,by simpa using h1,h2⟩
theorem mD.len{K:ai}{H:Hp}{kv:List (List Key×V)}{kvs:List (D×D)}(h:mD K H kv kvs):kv.length=kvs.length:=by
 have:=congrArg dU h.keys;simpa using this.symm
theorem IV (ho:fW X o to) (vB:autoParam (EK o "items" X.env (eval o X.env)=eval o X.env) Ar._auto_1) (Ac:autoParam ((apos.endLine == lN.line)=true) Ar._auto_1) :
  NV X (.Tuple elts kk Bg) (.Call (.Attribute o "items" apos) [] [] lN) (DF to):=by
 intro E pins s σ H τ G R hE I h;refine v8 vB Ac (i5 ho hE I h fun x H1 d G1 v s1 I1 m1 r1 jj q1=>?_);cases d with
 | kW kvs =>
  obtain⟨h1,q1⟩:=q1;obtain⟨t1,t2⟩:=oY pins s1 σ H1 G1 x _ v I1.inv I1.ab r1 jj trivial;have main:∃ (a:Addr) (ob:Obj) (u:HO) (es:Array fI) (ep:Nat) (ps:List (V×V)),x=.ref a/\(a == df)=false/\H1 a=some (.iC ob u)/\ob.data=.dict es ep/\(∀ i (h:i < es.size),∃ p,ps[i]?=some p/\RelV p.1 es[i].key/\RelV p.2 es[i].val)/\kvs.length=es.size /\
    (∀ (i:Nat) (q:D×D),kvs[i]?=some q->∃ p,ps[i]?=some p/\bV X.K H1 p.1 q.1/\bV X.K H1 p.2 q.2):=by
   cases jj with
   | nY hq rs =>
    rename_i a o kv;cases rs with
    | nil =>
     obtain⟨z,ns,vs,rel,ob,es,ep,ho,ex,dd,hko,hp,nd⟩:=(I1.inv.b7 a _ hq).2;have eo:ob=o:=by have:=(I1.inv.b7 a _ hq).1; rw [ho] at this; exact ba this
     subst eo;have l1:es.size=vs.length:=by simpa using hp.length
     have l2:([]:List (Key×V)).length=vs.length:=iT rel;have l3:es.size=0:=by rw [l1,<-l2]; rfl
     exact⟨a,ob,_,es,ep,[],rfl,ns,hq,dd,fun i h=>by lia,by rw [l3]; rfl,fun i q e=>by simp at e⟩
    | @cons j _ _ _ _ _ _=>cases j <;> simp [eP,lr] at h1
   | nX hq rs =>
    rename_i a o kv;obtain⟨z,ns,xs,rel,ob,es,ep,ho,ex,dd,hl,nd⟩:=(I1.inv.b7 a _ hq).2;have eo:ob=o:=by have:=(I1.inv.b7 a _ hq).1; rw [ho] at this; exact ba this
    subst eo;have l1:=congrArg dU hl;rw [ao,eU] at l1;have l2:kv.length=xs.length:=iT rel;have l3:=rs.len;refine⟨a,ob,_,es,ep,(kv.zip xs).map fun z=>(V.ref z.2.2.1,z.1.2),rfl,ns,hq,dd,fun i hi=>?_,by lia,fun i q e=>?_⟩
    ·have i2:i < xs.length:=by lia
     have i3:i < kv.length:=by lia
     have ee:es[i]=entryOfKey (iZ (cH X.prog X.w)) xs[i]:=by
      have:=congrArg (fun l=>l[i]?) hl;simp only [aO,au i2] at this;simpa [hi] using this
     refine⟨(V.ref xs[i].2.1,kv[i].2),by rw [aO,au (by rw [lV]; lia),t4]; rfl,?_⟩;rw [ee];exact⟨rfl,(wD rel i i3 i2).2.2⟩
    ·obtain⟨p,hp,ek,rp⟩:=rs.item e;have i3:i < kv.length:=(List.getElem?_eq_some_iff.mp hp).1;have i2:i < xs.length:=by lia
     have pr:=wD rel i i3 i2;rw [au i3] at hp;cases hp;refine⟨(V.ref xs[i].2.1,kv[i].2),by rw [aO,au (by rw [lV]; lia),t4]; rfl,?_,rp⟩;rw [ek];exact .tup pr.2.1 (wo _)
  obtain⟨a,ob,u,es,ep,ps,rfl,hm,hu,dd,hk,hlen,V6⟩:=main;cases r1;refine⟨"dict","dict.items",dg,gc,rh,t1,t2,my rfl (xO ?_)⟩;refine yT gc t1 qF (pH _) (vd a hm) ⟨t1,?_⟩;have I2:Inv X pins σ H1 { s1 with heap:=s1.heap.push { cls:=.type "dict_items",data:=.fields #[.ref a] } }:=I1.inv.kept (t':=s1.toks) fun b o e=>aA _ e;refine xD (s:={ s1 with heap:=s1.heap.push { cls:=.type "dict_items",data:=.fields #[.ref a] } }) ⟨_,a9 _ rfl,rfl,rfl⟩ (aA _ (I1.inv.b7 a _ hu).1) dd ?_;refine⟨_,[_],_,_,H1,G1,kvs.map (fun p=>.tup [p.1,p.2]),_,rfl,I2.kept (t':=s1.toks) fun b o e=>aA _ e,m1,xf a _ ob es ep ps dd hk,⟨.none,.none,a9 _ rfl⟩,fun b hb=>?_,fun i H2 G2 k ab _=>?_,q1⟩
  ·have e:=List.mem_singleton.mp hb;subst e;exact I2.Bp (aC _) (I2.b7.fresh (aC _))
  ·have xE:=k.iC _ _ _ hu;refine⟨fun d hd=>?_,fun hle=>⟨⟨u,xE⟩,by rw [<-hlen]; simpa using hle⟩⟩;rw [aO] at hd;cases HW:kvs[i]? with
   | none=>rw [HW] at hd; cases hd
   | some q =>
    rw [HW] at hd;obtain⟨p,hp,rk,rp⟩:=V6 i q HW;have hi:i < es.size:=by rw [<-hlen]; exact(List.getElem?_eq_some_iff.mp HW).1
    refine⟨⟨⟨u,xE⟩,hi⟩,?_⟩;rintro x H3 ⟨T,p',ex,hT,e3,hy⟩;subst ex e3;rw [hp] at hy;cases hy;have ed:D.tup [q.1,q.2]=d:=by simpa using hd
    subst ed;exact⟨.tup bU (.cons ((rk.mono k).mono (.new hT)) (.cons ((rp.mono k).mono (.new hT)) .nil)),.GB ab hT⟩
 | _=>exact q1.elim
end
def eOk(e:fI)(p:Int×Int):Bool:=e.hash == hashInt p.1&&sY p.1 e.key&&sY p.2 e.val
def T9:List fI->List (Int×Int)->Bool
 | [],[]=>true
 | e :: es,p :: ps=>eOk e p&&T9 es ps
 | _,_=>false
def Cz(K:ai)(a:Addr)(kv:List (Int×Int)):Bool:=match K.lookup a with
 | some o=>o.cls == .type "dict" && o.dict == none&&o.slots.toList == []&&(match o.data with | .dict es _=>T9 es.toList kv | _=>false)
 | none=>false
def U5(kv:List (Int×Int)):List (Key×V):=kv.map fun p=>(.inl p.1,.int p.2)
theorem isInt_shape{i:Int}{v:Value}(h:sY i v=true):∃ t,v=.int i t:=by
 rcases eZ (k:=.inl i) h with ⟨j,t,e,rfl⟩ | ⟨_,_,e,_⟩
 ·cases e; exact⟨t,rfl⟩
 ·cases e
section
variable {P:bI} {w:World}
theorem Az:∀ (es:List fI) (kv:List (Int×Int)),T9 es kv=true->∃ vs,KV (U5 kv) vs/\Pairs (cH P w) es vs/\vs.map (·.1)=kv.map (fun p=>(v9 p.1:Key))/\∀ e∈es,∃ k,(cH P w).is k e.key=true/\e.hash=(cH P w).hash k
 | [],[],_=>⟨[],.nil,.nil,rfl,fun e h=>by cases h⟩
 | [],_ :: _,h=>bc (show false=true from h)
 | _ :: _,[],h=>bc (show false=true from h)
 | e :: es,p :: ps,h=>by
  have h:(eOk e p&&T9 es ps)=true:=h;rw [aI] at h;obtain⟨vs,h1,h2,h3,h4⟩:=Az es ps h.2;have he:=h.1;unfold eOk at he;rw [aI,aI] at he;obtain⟨t,ev⟩:=isInt_shape he.2;refine⟨(.inl p.1,e.val) :: vs,.cons ⟨rfl,t,ev⟩ h1,.cons he.1.2 rfl h2,by rw [aq,aq,h3],fun x hx=>?_⟩;rcases List.mem_cons.mp hx with rfl | hx
  ·exact⟨.inl p.1,he.1.2,beq_iff_eq.mp he.1.1⟩
  ·exact h4 x hx
theorem W9{K:ai}{a:Addr}{kv:List (Int×Int)}{h:Heap}(Y:K.In h)(e:Cz K a kv=true)(nd:(kv.map (·.1)).Nodup):∃ vs,KV (U5 kv) vs/\h.DictOf (cH P w) a vs:=by
 unfold Cz at e;cases hl:K.lookup a with
 | none=>rw [hl] at e; exact bc (show false=true from e)
 | some o =>
  rw [hl] at e;dsimp only at e;rw [aI,aI,aI] at e;obtain⟨⟨⟨e1,e2⟩,e3⟩,e4⟩:=e;obtain⟨c,dd,dt,⟨sl⟩⟩:=o;have f1:c=.type "dict":=beq_iff_eq.mp e1;have f2:dd=none:=beq_iff_eq.mp e2;have f3:sl=[]:=beq_iff_eq.mp e3;clear e1 e2 e3;subst f1;subst f2;subst f3;cases dt with
  | dict es ep =>
   obtain⟨vs,h1,h2,h3,h4⟩:=Az (P:=P) (w:=w) es.toList kv e4;refine⟨vs,h1,_,es,ep,Y _ _ hl,⟨rfl,rfl,rfl⟩,rfl,?_,h2,?_⟩
   ·intro e he;obtain⟨k,q1,q2⟩:=h4 e (Array.mem_toList_iff.mpr he);exact⟨k,q1,q2⟩
   ·rw [h3];have:kv.map (fun p=>(v9 p.1:Key))=(kv.map (·.1)).map v9:=by rw [aS]; rfl
    rw [this,List.nodup_iff_pairwise_ne,BK];exact(List.nodup_iff_pairwise_ne.mp nd).imp fun oW e=>oW (Sum.inl.inj e)
  | _=>exact bc (show false=true from e4)
end
end K2
namespace K2
open PySem PySem.Spec PyProof.Rows L2
section
variable {X:Cx} {x:Str} {a:Addr} {kv:List (Int×Int)} {p px pos:Pos}
theorem Vq{K:ai}{H:Hp}:∀ kv:List (Int×Int),lQ K H (U5 kv) (bB kv)
 | []=>.nil
 | p :: kv=>.cons (k:=.inl p.1) (.int p.2) (Vq kv)
theorem B0 (hg:Gl X "dict") (hm:X.mg "dict" = none) (Y7:Gl X x) (Ou:X.mg x=some (.ref a)) (ns:(a == df)=false) (hD:Cz X.K a kv=true) (nd:(kv.map (·.1)).Nodup) (hz:kv.length<=1000) (Ag:autoParam ((x == ("__debug__" : Str))=false) Ad._auto_1)
  (hs:autoParam (bx [.Name x px] X.env=[(false,eval (.Name x px) X.env)]) Ar._auto_1):fW X (.Call (.Name "dict" p) [.Name x px] [] pos) (Hb kv):=by
 intro E pins s σ H τ G Q hE I h;refine eS (nH I.inv hg hm Ef ?_);refine dF ?_ hs rfl;rw [hs];show wpAny _ _ (yL ((false,eval (.Name x px) X.env) :: mx pos (bx [] X.env))) _ _ s;refine fR ?_;refine oz I.inv Y7 Ou ?_ Ag;refine jW ?_;obtain⟨vs,rel,dd⟩:=W9 (P:=X.prog) (w:=X.w) I.inv.z8 hD nd;have hl:vs.length=kv.length:=by rw [<-rel.length]; unfold U5; rw [ao]
 have sz:aX=16777216:=cD;refine kt_call_dict ns dd (by lia) fun h' AF hs=>?_;have hp:H s.heap.objs.size=none:=I.inv.b7.fresh (aC _);have zz:(U5 kv).length<=aX:=by unfold U5; rw [ao]; lia
 refine⟨.ref _,upd H s.heap.objs.size (.dK (U5 kv)),.ref _,_,I.inv.laid (a:=s.heap.objs.size) (o:=.dK (U5 kv)) (t':=s.toks) (fun b q hq=>?_) (aC _) (DX zz (beq_eq_false_iff_ne.mpr (eD (bu I.inv.big))) rel AF),.new I.ab hp (.dk bU (Vq kv)),rfl,.ref _,h _ (I.ab.free hp)⟩;exact(hs.2 b (bu (aN hq))).trans (aA _ hq)
end
end K2
end
section
namespace K2
open PySem PySem.Spec PyProof.Rows L2
section
variable {X:Cx}
theorem Hk:sx X (.type "tuple") Uq:=by
 intro pins s σ H G xs ds us Q I ab rx rd q;unfold Uq at q;split at q
 ·rename_i x;obtain⟨v,rfl,r⟩:=rd.one;have Xs:∀ (l:Addr) (ys:List V) (zs:List D),v=.ref l->pF X.K H l ys->aU X.K H ys zs->Q (.tup zs) G->wpAny (model X.prog X.w) X.A (call (.type "tuple") us) (su X pins σ H G Q) X.xe s:=fun l ys zs e h rs hq=>by
   subst e;exact gH (Bx pins s σ H _ us (A9 X.K H G Q) I rx ⟨l,ys,rfl,.inl ⟨h,fun p hp=>⟨.tup zs,G,.GB ab hp,.tup bU (rs.mono (.new hp)),hq⟩⟩⟩) fun _ _ z=>.of z
  cases r with
  | cW hq rs=>exact Xs _ _ _ rfl hq.sq rs q
  | ref l =>
   unfold ph at q;dsimp only at q;cases hg:G l with
   | none=>rw [hg] at q; exact q.elim
   | some g =>
    rw [hg] at q;cases g with
    | lst ds =>
     obtain⟨vs,hv,rs⟩:=ab.lst hg;exact Xs _ _ _ rfl (.of hv) rs q
    | ins _ _=>exact q.elim
    | qL _=>exact q.elim
    | gK kvs=>exact q.elim
  | _=>exact bC q
 ·exact q.elim
end
section
variable {X:Cx}
theorem Tw(hu:X.A.units+64 < cLine):nP X (dQ .Lt) V8:=by
 intro pins s σ H G x y dx dy v u Q I ab rx ry dX dY q;obtain⟨sh,a,b,⟨sa,sb⟩,⟨h1,h2⟩,q⟩:=q;obtain⟨as,ra⟩:=(gW I ab sa).1 x v dX rx;obtain⟨bs,rb⟩:=(gW I ab sb).1 y u dY ry;have d1:=AE sa;exact ua _ sh a b _ s _ _ as bs (aC _) h1 h2 sa.nr sb.nr ra rb (by unfold SN at d1; lia) _ _ _ _ ⟨.bl _,H,.bl _,G,I,.refl ab,rfl,.bl _,q⟩
end
section
variable {X:Cx} {pins:List (Addr×Obj)} {σ:L2.St} {H1 H':Hp} {s1 s':ax}
def R7(S:Addr->Bool)(H1 H':Hp):Hp:=fun a=>if S a=true then H1 a else H' a
theorem OU{S:Addr->Bool}{a:Addr}(h:S a=true):R7 S H1 H' a=H1 a:=by unfold R7; rw [if_pos h]
theorem gP{S:Addr->Bool}{a:Addr}(h:S a=false):R7 S H1 H' a=H' a:=by unfold R7; rw [if_neg (by rw [h]; exact fY)]
theorem Inv.XW{S : Addr -> Bool}(I1 : Inv X pins σ H1 s1)(I' : Inv X pins σ H' s')(hS : ∀ a, S a = true -> ∃ u0 ob, H1 a = some u0 ∧ D6 u0 = true ∧ H' a = some (.iC ob u0)) : Inv X pins σ (R7 S H1 H') s' := by
  have cs : ∀ b, (S b = false ∨ ∃ u0 ob, S b = true ∧ H1 b = some u0 ∧ D6 u0 = true ∧ H' b = some (.iC ob u0)) := fun b => by
    cases c : S b with
    | false => exact .inl rfl
    | true => obtain⟨u0, ob, z⟩ := hS b c; exact .inr ⟨u0, ob, rfl, z⟩
  exact {
    ok := I'.ok
    os := I'.os
    bare := I'.bare
    base := { keep := I'.base.keep, slot := I'.base.slot, there := I'.base.there
              free := fun b o q n hx => by
                rcases cs b with hb | ⟨u0, ob, hb, e1, hu, e'⟩
                · rw [gP hb]; exact I'.base.free b o q n hx
                · have := I1.base.free b o q n hx; rw [e1] at this; cases this
              qH := fun b xs q => by
                rcases cs b with hb | ⟨u0, ob, hb, e1, hu, e'⟩
                · rw [gP hb]; exact I'.base.qH b xs q
                · have := I1.base.qH b xs q; rw [e1] at this; cases this; cases hu
              qe := fun b o u q => by
                rcases cs b with hb | ⟨u0, ob, hb, e1, hu, e'⟩
                · rw [gP hb]; exact I'.base.qe b o u q
                · have := I1.base.qe b o u q; rw [e1] at this; cases this; cases hu
              tm := fun b ps q => by
                rcases cs b with hb | ⟨u0, ob, hb, e1, hu, e'⟩
                · rw [gP hb]; exact I'.base.tm b ps q
                · have e := I1.base.tm b ps q; rw [e1] at e; cases e; cases hu
              tu := fun b x q => by
                rcases cs b with hb | ⟨u0, ob, hb, e1, hu, e'⟩
                · rw [gP hb]; exact I'.base.tu b x q
                · have e := I1.base.tu b x q; rw [e1] at e; cases e; cases hu }
    loc := I'.loc
    cell := I'.cell
    free := by
      rcases cs X.env.locals with hb | ⟨u0, ob, hb, e1, hu, e'⟩
      · rw [gP hb]; exact I'.free
      · have := I'.free; rw [e'] at this; cases this
    jf := fun x c e => by
      rcases cs c with hb | ⟨u0, ob, hb, e1, hu, e'⟩
      · rw [gP hb]; exact I'.jf x c e
      · have := I'.jf x c e; rw [e'] at this; cases this
    pin := fun q hq => by
      obtain⟨h1, h2, h3⟩ := I'.pin q hq;rcases cs q.1 with hb | ⟨u0, ob, hb, e1, hu, e'⟩
      · exact⟨h1, by rw [gP hb]; exact h2, h3⟩
      · rw [e'] at h2; cases h2
    b7 := fun a o q => by
      have st : ∀ u, fk X.prog X.w H' s'.heap a u -> fk X.prog X.w (R7 S H1 H') s'.heap a u := fun u x =>
        x.jl (fun b v _ r => r) (fun b r => by
          rcases cs b with hb | ⟨u0, ob, hb, e1, hu, e'⟩
          · rw [gP hb]; exact r
          · rw [e'] at r; cases r) (fun b xs r => by
          rcases cs b with hb | ⟨u0, ob, hb, e1, hu, e'⟩
          · rw [gP hb]; exact r
          · rw [e'] at r; cases r)
      rcases cs a with hb | ⟨u0, ob, hb, e1, hu, e'⟩
      · rw [gP hb] at q
        exact st _ (I'.b7 a _ q)
      · rw [OU hb, e1] at q
        cases q;exact st _ (I'.b7 a _ e').2
    len := I'.len }
end
section
variable {K:ai} {H' H3:Hp}
theorem ML{v:V}{d:D}(rd:bV K H' v d)(hp:nC d=true):bV K H3 v d:=by
 cases rd with
 | eN=>exact .eN
 | bl b=>exact .bl _
 | int i=>exact .int _
 | _=>exact absurd hp (by simp [nC])
theorem zg:∀ {ds:List D} {vs:List V},aU K H' vs ds->ds.all nC=true->aU K H3 vs ds
 | [],_,.nil,_=>.nil
 | _ :: _,_,.cons r rs,h=>by
  rw [lZ,aI] at h;exact .cons (ML r h.1) (zg rs h.2)
structure KtP(H' H3:Hp):Prop where
 t:∀ a xs,H' a=some (.tup xs)->H3 a=some (.tup xs)
 k:∀ a o kv,H' a=some (.iC o (.dK kv))->H3 a=some (.iC o (.dK kv))
 d:∀ a o kv,H' a=some (.iC o (.dT kv))->H3 a=some (.iC o (.dT kv))
theorem Fg(kt:KtP H' H3){v:V}{d:D}(rd:bV K H' v d)(hp:tupP d=true):bV K H3 v d:=by
 cases rd with
 | eN=>exact .eN
 | bl b=>exact .bl _
 | int i=>exact .int _
 | ref a=>exact .ref a
 | tup h r=>exact .tup (kt.t _ _ h) (zg r hp)
 | nY h r=>exact .nY (kt.k _ _ _ h) (r.plain hp)
 | nX h r =>
  cases r with
  | nil=>exact .nX (kt.d _ _ _ h) .nil
  | cons _ _=>exact absurd hp (by simp [tupP,dH])
 | _=>exact absurd hp (by simp [tupP,nC])
theorem BR(kt:KtP H' H3):∀ {ds:List D} {vs:List V},aU K H' vs ds->ds.all tupP=true->aU K H3 vs ds
 | [],_,.nil,_=>.nil
 | _ :: _,_,.cons r rs,h=>by
  rw [lZ,aI] at h;exact .cons (Fg kt r h.1) (BR kt rs h.2)
theorem Xi(kt:KtP H' H3){a:Addr}{o:GO}(e:H3 a=H' a)(h:HZ K H' a o)(ok:xu o=true):HZ K H3 a o:=by
 cases o with
 | lst ds=>obtain⟨vs,q,r⟩:=h; exact⟨vs,e.trans q,BR kt r ok⟩
 | gK kvs =>
  rcases h with ⟨kv,q,r⟩ | ⟨kv,q,r⟩
  ·exact .dk (e.trans q) (r.plain ok)
  ·cases r with
   | nil=>exact .dt (e.trans q) .nil
   | cons _ _=>exact absurd ok (by simp [xu,dH])
 | ins c fs=>exact absurd ok (by simp [xu])
 | qL kvs=>exact absurd ok (by simp [xu])
end
section
variable {X:Cx} {pins:List (Addr×Obj)} {σ:L2.St} {H:Hp} {s:ax} {G:Gp}
theorem LC(I:Inv X pins σ H s)(ab:kc X.K H G){R:Nat->Bool}:∀ {ds ts:List D} {vs:List V},Et G R ds ts->aU X.K H vs ds->aU X.K (mj s.heap (iH R G) H) vs ts
 | [],_,_,.nil,.nil=>.nil
 | _ :: _,_,_,.cons f fs,.cons r rs=>.cons (JA I ab f r) (LC I ab fs rs)
end
section
variable {X:Cx} {e:Expr} {es:List Expr} {t:A8} {pos p:Pos} {x:Str} {k:Nat} {f:Addr} {fd:fx} {ps:List Str} {sp:jU}
theorem sH(F:tK X.prog X.w X.K X.mg X.base Kl k f fd ps (Bi X.K sp))(hr:kO k X.A)(hg:Gl X x)(hm:X.mg x=some (.ref f))(hk:pG X.K (.ref f)=true)(hb:Binds X.K fd ps [])
  (ha:BC X (e :: es) t) (Ag:autoParam ((x == ("__debug__" : Str))=false) Ad._auto_1) (he:autoParam (bx (e :: es) X.env=(false,eval e X.env) :: bx es X.env) Ar._auto_1) (Ab:autoParam ((mx pos (bx es X.env)).any (·.1)=false) Ar._auto_1) :
  fW X (.Call (.Name x p) (e :: es) [] pos) (wY sp t):=by
 intro E pins s σ H τ G Q hE I h;refine eS (oz I.inv hg hm ?_ Ag);refine xP (h₀:=X.base) I.inv.ok.mod.U6 hk (y8 ha pos hE I h fun vs H1 ds G1 us s1 I1 m1 r rd q=>⟨I1.inv.z8,?_⟩) he Ab;obtain⟨R,ts,hR,fz,q⟩:=q;have rep:=LC I1.inv I1.ab fz rd;have I1':=Inv.freeze I1.inv (iH R G1);have Vi:∀ a,iH R G1 a=true->∃ u0 ob,H1 a=some u0/\D6 u0=true/\mj s1.heap (iH R G1) H1 a=some (.iC ob u0):=fun a h=>by
  have hRa:R a=true:=by unfold iH at h; rw [aI] at h; exact h.1
  obtain⟨xs,hx⟩:=hR a hRa;obtain⟨vs',hv,rs⟩:=I1.ab a _ hx;obtain⟨ob,ho⟩:=K2.j8 (I1.inv.b7 a _ hv);exact⟨_,ob,hv,rfl,qf h hv rfl ho⟩
 have WQ:∀ a,iH R G1 a=true->∃ vs ob,mj s1.heap (iH R G1) H1 a=some (.iC ob (.lst vs)):=fun a h=>by
  have hRa:R a=true:=by unfold iH at h; rw [aI] at h; exact h.1
  obtain⟨xs,hx⟩:=hR a hRa;obtain⟨vs',hv,rs⟩:=I1.ab a _ hx;obtain⟨ob,ho⟩:=K2.j8 (I1.inv.b7 a _ hv);exact⟨_,ob,qf h hv rfl ho⟩
 have out:∀ a,iH R G1 a=false->mj s1.heap (iH R G1) H1 a=H1 a:=fun a h=>vE h;generalize mj s1.heap (iH R G1) H1=H2 at rep I1' Vi WQ out;generalize iH R G1=S at Vi WQ out;refine gH (O8 F hr hb .nil UW I1' r (Q:=fun v H'=>∃ d G',Mv X.K H2 (fun _=>none) H' G'/\bV X.K H' v d/\(tupP d=true/\∃ T:Nat->Bool,(∀ a o,T a=true->G' a=some o->xu o=true)/\((∀ a o,G' a=some o->G1 a=none)->Q d (Om (resT T G') G1)))) ?_) fun u s2 z=>?_
 ·rw [cC];exact⟨ts,fun _=>none,_,rep,(fun a g e=>by(cases e)),q,(fun d G' v H' q2 m rd=>⟨d,G',m,rd,q2⟩)⟩
 ·obtain⟨v,H',I',rv,d,G',m,rd,hp,T,QJ,q3⟩:=z;have YN:∀ a o,H2 a=some o->H' a=some o/\G' a=none:=fun a o e=>m.keep a o e rfl;have hS:∀ a,S a=true->∃ u0 ob,H1 a=some u0/\D6 u0=true/\H' a=some (.iC ob u0):=fun a h=>by
   obtain⟨u0,ob,h1,h2,h3⟩:=Vi a h;exact⟨u0,ob,h1,h2,(YN a _ h3).1⟩
  have hL:∀ a,S a=true->∃ vs ob,H' a=some (.iC ob (.lst vs)):=fun a h=>by
   obtain⟨vs,ob,h3⟩:=WQ a h;exact⟨vs,ob,(YN a _ h3).1⟩
  have I3:=Inv.XW I1.inv I' hS;have same:∀ a o,H1 a=some o->R7 S H1 H' a=some o:=fun a o e=>by
   cases c:S a with
   | true=>rw [OU c]; exact e
   | false=>rw [gP c]; exact(YN a o (by rw [out a c]; exact e)).1
  have kp:Kp H1 (R7 S H1 H'):=⟨fun a xs e=>same a _ e,fun a o u e=>same a _ e⟩;have RK:kc X.K (R7 S H1 H') G1:=fun a g eg=>by
   have ab1:=I1.ab a g eg;cases eh:H1 a with
   | none=>exact absurd eh ab1.tracked
   | some o=>exact ab1.mono kp (by rw [same a o eh,eh])
  have ZT:∀ a o u,H' a=some (.iC o u)->(∀ vs,u≠.lst vs)->S a=false:=fun a o u e n=>by
   cases c:S a with
   | false=>rfl
   | true=>obtain⟨vs,ob,h3⟩:=hL a c; rw [h3] at e; cases e; exact absurd rfl (n vs)
  have kt:KtP H' (R7 S H1 H'):=⟨fun a xs e=>by
   cases c:S a with
   | true=>obtain⟨u0,ob,_,_,h3⟩:=hS a c; rw [h3] at e; cases e
   | false=>rw [gP c]; exact e,fun a o kv e=>by rw [gP (ZT a o _ e (fun _ z=>by cases z))]; exact e,fun a o kv e=>by rw [gP (ZT a o _ e (fun _ z=>by cases z))]; exact e⟩
  have fresh:∀ a o,G' a=some o->H1 a=none:=fun a o e=>by
   cases eh:H1 a with
   | none=>rfl
   | some u =>
    exfalso;cases c:S a with
    | true =>
     obtain⟨u0,ob,_,_,h3⟩:=Vi a c;have:=(YN a _ h3).2;rw [e] at this; cases this
    | false =>
     have:=(YN a u (by rw [out a c]; exact eh)).2;rw [e] at this; cases this
  have fg:∀ a o,G' a=some o->G1 a=none:=fun a o e=>I1.ab.free (fresh a o e);have so:∀ a o,G' a=some o->S a=false:=fun a o e=>by
   cases c:S a with
   | false=>rfl
   | true=>obtain⟨u0,ob,h1,_⟩:=hS a c; rw [fresh a o e] at h1; cases h1
  refine su.trans m1 ⟨v,_,d,Om (resT T G') G1,I3,?_,rv,Fg kt rd hp,q3 fg⟩;have rs:∀ a g,resT T G' a=some g->T a=true/\G' a=some g:=fun a g e=>by
   unfold resT at e;split at e
   ·rename_i c; exact⟨c,e⟩
   ·cases e
  refine⟨fun a o e n=>⟨same a o e,?_⟩,fun a n=>?_,fun a g eg=>?_⟩
  ·unfold Om;cases eg:resT T G' a with
   | none=>exact n
   | some g=>have:=fresh a g (rs a g eg).2; rw [e] at this; cases this
  ·cases eg:G1 a with
   | none=>exact absurd eg n
   | some g=>exact(RK a g eg).tracked
  ·unfold Om at eg;cases eg':resT T G' a with
   | none=>rw [eg'] at eg; exact RK a g eg
   | some g' =>
    rw [eg'] at eg;cases eg;obtain⟨t1,t2⟩:=rs a _ eg';exact Xi kt (gP (so a _ t2)) (m.ab a _ t2) (QJ a _ t1 t2)
end
section
variable {X:Cx}
theorem Gs{H:Hp}:∀ {ns:List Int} {vs:List V} {bH:List Value},aU X.K H vs (ns.map D.int)->Vals vs bH->me bH ns
 | [],_,_,.nil,.nil=>.nil
 | _ :: _,_,_,.cons (.int _) rs,.cons r vs=>by
  obtain⟨t,rfl⟩:=r;exact .cons _ t (Gs rs vs)
theorem zO:HA X "list.count" yx:=by
 intro pins s σ H G x d xs ds v us Q I ab rx rd KL Bm q;unfold yx at q;split at q
 ·rename_i k;obtain⟨hy,ns,hi,q⟩:=q;obtain⟨w,rfl,pP⟩:=Bm.one;obtain⟨u,rfl,ru⟩:=KL.one;have lists:∃ l vs bH,v=.ref l/\Vals vs bH/\aU X.K H vs (ns.map D.int)/\s.heap.IsList l bH.toArray:=by
   cases rd with
   | cW hq rs =>
    cases hi;cases rx;obtain⟨bH,rv,pl,hz⟩:=I.list hq.sq;exact⟨_,_,bH,rfl,rv,rs,pl.isList⟩
   | ref l =>
    unfold itemsOf at hi;dsimp only at hi;cases hg:G l with
    | none=>rw [hg] at hi; cases hi
    | some g =>
     rw [hg] at hi;cases g with
     | lst ds =>
      cases hi;cases rx;obtain⟨vs,hv,rs⟩:=ab.lst hg;obtain⟨bH,rv,pl,hz⟩:=I.list (.of hv);exact⟨_,_,bH,rfl,rv,rs,pl.isList⟩
     | ins _ _=>cases hi
     | qL _=>cases hi
     | gK _=>cases hi
   | _=>exact bC hy
  obtain⟨l,vs,bH,rfl,rv,rs,hl⟩:=lists;cases pP;obtain⟨t,rfl⟩:=ru;exact count_list_ints hl (Gs rs rv) ⟨.int _,H,.int _,G,I.tok _,.refl ab,⟨_,rfl⟩,.int _,q⟩
 ·exact q.elim
end
abbrev Nc(P:bI)(w:World):EM P w PK:=nk3 (Ig P w)
section
variable {P:bI} {w:World} {K:ai} {H:Hp} {h:Heap}
theorem items_int:∀ {t:List Int} {us:List Value},Vals (t.map V.int) us->ItemsAre (Ig P w) t us
 | [],_,r=>by rw [a8] at r; cases r; exact .nil
 | i :: t,_,r=>by
  rw [aq] at r;cases r with
  | cons h r =>
   obtain⟨q,rfl⟩:=h;exact .cons (by simp [Ig,sY]) (items_int r)
theorem aa1(ok:oh P w H h){v:V}{u:Value}{t:List Int}(r:bV K H v (.tup (t.map D.int)))(ru:RelV v u):∃ b,u=.ref b/\(iZ (Ig P w)).is h t b:=by
 cases r with
 | tup e rs =>
  have z:=rs.ints;subst z;cases ru;obtain⟨_,bH,r,o,h1,h2,n,h3⟩:=(show fk P w H h _ (.tup (t.map V.int)) from ok _ _ e);exact⟨_,rfl,o,bH.toArray,n,h1,h2,h3,by simpa using items_int r⟩
theorem UY(ok:oh P w H h):∀ {r:List (List Int)} {vs:List V} {us:List Value},aU K H vs (r.map fun t=>.tup (t.map D.int))->Vals vs us->tH (iZ (Ig P w)) h r us
 | [],_,_,q,ru=>by have:=q.zero; subst this; cases ru; exact .nil
 | t :: r,_,_,q,ru=>by
  rw [aq] at q;cases q with
  | cons q1 q2 =>
   cases ru with
   | cons r1 r2 =>
    obtain⟨b,rfl,hb⟩:=aa1 ok q1 r1;exact .cons hb (UY ok q2 r2)
theorem aa0(ok:oh P w H h){v:V}{u:Value}{r:List (List Int)}(q:bV K H v (.tup (r.map fun t=>.tup (t.map D.int))))(ru:RelV v u):∃ b,u=.ref b/\(Xx (Ig P w)).is h r b:=by
 cases q with
 | tup e rs =>
  cases ru;obtain⟨_,bH,r',o,h1,h2,n,h3⟩:=(show fk P w H h _ (.tup _) from ok _ _ e);exact⟨_,rfl,o,bH.toArray,n,h1,h2,h3,by simpa using UY ok rs r'⟩
theorem UX(ok:oh P w H h):∀ {k:PK} {vs:List V} {us:List Value},aU K H vs (k.map fun r=>.tup (r.map fun t=>.tup (t.map D.int)))->Vals vs us->tH (Xx (Ig P w)) h k us
 | [],_,_,q,ru=>by have:=q.zero; subst this; cases ru; exact .nil
 | t :: r,_,_,q,ru=>by
  rw [aq] at q;cases q with
  | cons q1 q2 =>
   cases ru with
   | cons r1 r2 =>
    obtain⟨b,rfl,hb⟩:=aa0 ok q1 r1;exact .cons hb (UX ok q2 r2)
theorem TF(ok:oh P w H h){v:V}{u:Value}{k:PK}(q:bV K H v (qu k))(ru:RelV v u):∃ b,v=.ref b/\u=.ref b/\(Nc P w).is h k b:=by
 unfold qu at q;cases q with
 | tup e rs =>
  cases ru;obtain⟨_,bH,r',o,h1,h2,n,h3⟩:=(show fk P w H h _ (.tup _) from ok _ _ e);exact⟨_,rfl,rfl,o,bH.toArray,n,h1,h2,h3,by simpa using UX ok rs r'⟩
def P1(K:ai)(H:Hp)(x:PK×Addr×Value)(p:PK×D):Prop:=x.1=p.1/\bV K H (.ref x.2.1) (qu p.1)/\∃ v,RelV v x.2.2/\bV K H v p.2
theorem Di:∀ {xs:List (PK×Addr×Value)} {ks vs:List V} {kvs:List (PK×D)},UA kvs ks vs xs->aU K H ks (kvs.map fun p=>qu p.1)->aU K H vs (kvs.map fun p=>p.2)->kX (P1 K H) xs kvs
 | [],ks,vs,kvs,r,r1,r2=>by
  have:kvs=[]:=by simpa using r.1
  subst this; exact .nil
 | x :: xs,ks,vs,kvs,r,r1,r2=>by
  obtain⟨e1,e2,e3⟩:=r;cases kvs with
  | nil=>cases e1
  | cons p kvs =>
   rw [aq,aq] at e1;injection e1 with e4 e5
   subst e2;rw [aq] at r1;rw [aq] at r1 r2;rw [aq] at e3;cases r1 with
   | cons q1 q2 =>
    cases r2 with
    | cons q3 q4 =>
     cases e3 with
     | cons q5 q6=>exact .cons ⟨e4.symm,q1,_,q5,q3⟩ (Di ⟨e5,rfl,q6⟩ q2 q4)
theorem Wb{xs:List (PK×Addr×Value)}{kvs:List (PK×D)}(h:kX (P1 K H) xs kvs):∃ vs,UA kvs (xs.map fun x=>.ref x.2.1) vs xs/\aU K H (xs.map fun x=>.ref x.2.1) (kvs.map fun p=>qu p.1)/\aU K H vs (kvs.map fun p=>p.2):=by
 induction h with
 | nil=>exact⟨[],⟨rfl,rfl,.nil⟩,.nil,.nil⟩
 | cons h1 _ ih =>
  obtain⟨vs,⟨a,b,c⟩,r1,r2⟩:=ih;obtain⟨e1,e2,v,e3,e4⟩:=h1;exact⟨v :: vs,⟨by rw [aq,aq,a,e1],rfl,.cons e3 c⟩,.cons e2 r1,.cons e4 r2⟩
theorem P1.mono{H':Hp}(k:Kp H H'){x:PK×Addr×Value}{p:PK×D}(h:P1 K H x p):P1 K H' x p:=let ⟨a,b,v,c,d⟩:=h; ⟨a,b.mono k,v,c,d.mono k⟩
theorem Fu{H':Hp}(k:Kp H H'){xs:List (PK×Addr×Value)}{kvs:List (PK×D)}(h:kX (P1 K H) xs kvs):kX (P1 K H') xs kvs:=Paired.TH h fun _ _ z=>z.mono k
theorem Wc(ok:oh P w H h){xs:List (PK×Addr×Value)}{kvs:List (PK×D)}(r:kX (P1 K H) xs kvs):∀ x∈xs,(Nc P w).is h x.1 x.2.1:=by
 induction r with
 | nil=>intro x hx; cases hx
 | cons h1 _ ih =>
  intro x hx;rcases List.mem_cons.mp hx with rfl | hx
  ·obtain⟨e1,e2,_⟩:=h1;obtain⟨b,e3,e4,e5⟩:=TF ok e2 (rfl:RelV (.ref _) (.ref _));cases e4;rw [e1]; exact e5
  ·exact ih x hx
theorem zD(ok:oh P w H h){a:Addr}{xs:List (PK×Addr×Value)}{kvs:List (PK×D)}(p:Kd a xs h)(r:kX (P1 K H) xs kvs):h.DictOfH (Nc P w) a xs:=by
 obtain⟨z,y,o,es,ep,h1,h2,h3,h4,h5⟩:=p;exact⟨o,es,ep,h1,h2,h3,h4,Wc ok r,h5⟩
theorem Dl{a:Addr}{xs:List (PK×Addr×Value)}(z:xs.length<=aX)(y:(a == df)=false)(d:h.DictOfH (Nc P w) a xs):fk P w H h a (.ext (Kd a xs)):=by
 obtain⟨o,es,ep,h1,h2,h3,h4,_,h5⟩:=d;refine⟨⟨z,y,o,es,ep,h1,h2,h3,h4,h5⟩,⟨o,h1⟩,?_⟩;rintro g1 g2 ⟨z,y,o,es,ep,q1,q⟩ k;exact⟨z,y,o,es,ep,k _ q1,q⟩
theorem Pz{xs:List (PK×Addr×Value)}{kvs:List (PK×D)}(r:kX (P1 K H) xs kvs)(k:PK):(∃ q v d,atKey xs k=some q/\qw kvs k=some d/\RelV v q.2/\bV K H v d)\/(atKey xs k=none/\qw kvs k=none):=by
 induction r with
 | nil=>exact .inr ⟨rfl,rfl⟩
 | @cons x p xs kvs h1 _ ih =>
  obtain⟨e1,e2,v,e3,e4⟩:=h1;by_cases e:x.1=k
  ·left;refine⟨x.2,v,p.2,?_,?_,e3,e4⟩
   ·unfold atKey; rw [cp (by simpa using e)]; rfl
   ·unfold qw; rw [cp (by simpa using e1.symm.trans e)]; rfl
  ·have a1:atKey (x :: xs) k=atKey xs k:=by unfold atKey; rw [cq (by simpa using e)]
   have a2:qw (p :: kvs) k=qw kvs k:=by unfold qw; rw [cq (by simpa using fun z=>e (e1.trans z))]
   rw [a1,a2]; exact ih
theorem Te{xs:List (PK×Addr×Value)}{kvs:List (PK×D)}(r:kX (P1 K H) xs kvs)(k:PK):(kvs.any fun p=>decide (p.1=k))=(atKey xs k).isSome:=by
 induction r with
 | nil=>rfl
 | @cons x p xs kvs h1 _ ih =>
  rw [lY];by_cases e:x.1=k
  ·have a1:(atKey (x :: xs) k).isSome=true:=by unfold atKey; rw [cp (by simpa using e)]; rfl
   rw [a1]; simp [h1.1 ▸ e]
  ·have a1:atKey (x :: xs) k=atKey xs k:=by unfold atKey; rw [cq (by simpa using e)]
   have:¬ p.1=k:=fun z=>e (h1.1.trans z);rw [a1,<-ih]; simp [this]
theorem Td{xs:List (PK×Addr×Value)}{kvs:List (PK×D)}(r:kX (P1 K H) xs kvs){k:PK}{b:Addr}{v:V}{u:Value}{d:D}(rk:bV K H (.ref b) (qu k))(ru:RelV v u)(rd:bV K H v d):kX (P1 K H) (Ia xs k b u) (MP kvs k d):=by
 unfold Ia MP;rw [Te r k];split
 ·rename_i hs;clear rk hs;induction r with
  | nil=>exact .nil
  | @cons x p xs kvs h1 _ ih =>
   rw [aq,aq];refine .cons ?_ ih;unfold putAt;obtain⟨e1,e2,e3⟩:=h1;by_cases e:x.1=k
   ·rw [if_pos e,if_pos (e1.symm.trans e)];exact⟨e1,e2,v,ru,rd⟩
   ·rw [if_neg e,if_neg (fun z=>e (e1.trans z))];exact⟨e1,e2,e3⟩
 ·exact R0 r ⟨rfl,rk,v,ru,rd⟩
theorem K0{xs:List (PK×Addr×Value)}{kvs:List (PK×D)}(r:kX (P1 K H) xs kvs):xs.length=kvs.length:=iT r
theorem Em{a:Addr}{xs:List (PK×Addr×Value)}{kvs:List (PK×D)}(e:H a=some (.ext (Kd a xs)))(r:kX (P1 K H) xs kvs):HZ K H a (.qL kvs):=by
 obtain⟨vs,a1,a2,a3⟩:=Wb r;exact⟨xs,_,vs,e,a1,a2,a3⟩
theorem JU{G:Gp}{a:Addr}{kvs:List (PK×D)}(ab:kc K H G)(hg:G a=some (.qL kvs)):∃ xs,H a=some (.ext (Kd a xs))/\kX (P1 K H) xs kvs:=by
 obtain⟨xs,ks,vs,e,a1,a2,a3⟩:=ab a _ hg;exact⟨xs,e,Di a1 a2 a3⟩
theorem Kp.Yl{p:Addr}{o:HO}{φ:Heap->Prop}(hp:H p=some (.ext φ)):Kp H (upd H p o) :=
 ⟨fun a ys e=>by rw [bG (by rintro rfl; rw [hp] at e; cases e)]; exact e,fun a ob u e=>by rw [bG (by rintro rfl; rw [hp] at e; cases e)]; exact e⟩
theorem DS{φ:Heap->Prop}{a:Addr}(ok:oh P w H h)(e:H a=some (.ext φ)):φ h:=(ok a _ e).1
end
section
variable {X:Cx} {elts:List Expr} {kk:Nat} {Bg apos lN pos:Pos} {o i k v:Expr} {to ti tk tv:fV}
theorem KA:Uw X "dict" tyP:=by
 intro pins s σ H G x d u I ab r rd h;cases rd with
 | ref l =>
  unfold tyP at h;dsimp only at h;split at h
  ·rename_i kvs hg;obtain⟨xs,e,_⟩:=JU ab hg;obtain⟨_,_,o,es,ep,h1,h2,_⟩:=DS I.b7 e;cases r;exact⟨⟨o,h1,h2.1⟩,fun a z=>by cases z; exact⟨o,h1,h2.2.1⟩⟩
  ·exact h.elim
 | oV hq _ _ _ =>
  obtain⟨_,_,o,es,ep,h1,h2,_⟩:=(I.b7 _ _ hq).2.1;cases r;exact⟨⟨o,h1,h2.1⟩,fun a z=>by cases z; exact⟨o,h1,h2.2.1⟩⟩
 | _=>exact bC h
theorem LB{pins:List (Addr×Obj)}{s:ax}{σ:L2.St}{H:Hp}{G:Gp}{a:Addr}{kvs:List (PK×D)}{ys:List (PK×Addr×Value)}{pk:PK}{w w2:V}{u1 u2:Value}{d':D}{Q:DK}(hu:X.A.units+64 < cLine)(I:Inv X pins σ H s)(ab:kc X.K H G)(pd:Kd a ys s.heap)(r:kX (P1 X.K H) ys kvs)(Fb:bV X.K H w (qu pk))(MK:RelV w u1)(SY:bV X.K H w2 d')(Pa:RelV w2 u2)(q:Q ((qw kvs pk).getD d') G) :
  wpAny (model X.prog X.w) X.A (call (.builtin "dict.get") [.ref a,u1,u2]) (su X pins σ H G Q) X.xe s:=by
 have dd:=zD I.b7 pd r;obtain⟨b,rfl,rfl,hb⟩:=TF I.b7 Fb MK;have hT:s.TypeIs (.ref a) "dict":=by obtain⟨o,es,ep,ho,hc,_⟩:=dd; exact⟨o,ho,hc.1⟩
 refine yT gM hT Ku (Iq _ _ _) (meetsH_dict_get_default (Nc X.prog X.w) a b pd.2.1 u2) ⟨FK (by lia),pk,ys,hb,dd,?_⟩;rcases Pz r pk with ⟨q1,v1,d1,h1,h2,h3,h4⟩ | ⟨h1,h2⟩
 ·rw [h1];rw [h2] at q;exact⟨v1,H,d1,G,I.tok _,.refl ab,h3,h4,q⟩
 ·rw [h1];rw [h2] at q;exact⟨w2,H,d',G,I.tok _,.refl ab,Pa,SY,q⟩
theorem FQ (hu:X.A.units+64 < cLine):HA X "dict.get" FY:=by
 intro pins s σ H G x d xs ds v us Q I ab rx rd KL Bm q;unfold FY at q;split at q
 ·rename_i a k d';obtain⟨kvs,pk,hg,rfl,q⟩:=q;cases rd;obtain⟨w,w2,rfl,Fb,SY⟩:=Bm.two;obtain⟨u1,u2,rfl,MK,Pa⟩:=vals2 KL;cases rx;obtain⟨ys,e,r⟩:=JU ab hg;exact LB hu I ab (DS I.b7 e) r Fb MK SY Pa q
 ·rename_i kvs k d';obtain⟨pk,rfl,q⟩:=q;obtain⟨w,w2,rfl,Fb,SY⟩:=Bm.two;obtain⟨u1,u2,rfl,MK,Pa⟩:=vals2 KL;cases rd with
  | oV hq rel rk rv =>
   cases rx;exact LB hu I ab (I.b7 _ _ hq).2.1 (Di rel rk rv) Fb MK SY Pa q
 ·exact q.elim
theorem Uc{pins:List (Addr×Obj)}{s:ax}{σ:L2.St}{H:Hp}{G:Gp}{a:Addr}{kvs:List (PK×D)}{pk:PK}{y w:V}{u r:Value}{d:D}{Q:Unit->ax->Prop}(hu:X.A.units+64 < cLine)(I:Inv X pins σ H s)(ab:kc X.K H G)(hg:G a=some (.qL kvs))(hz:kvs.length < SZ)(ry:RelV y u)(dy:bV X.K H y (qu pk))(rv:RelV w r)(dv:bV X.K H w d)
  (h:∀ H' s',Inv X pins σ H' s'->Mv X.K H G H' (eV G a (.qL (MP kvs pk d)))->Q () s'):wpAny (model X.prog X.w) X.A (setItem (.ref a) u r) Q X.xe s:=by
 obtain⟨xs,e,rr⟩:=JU ab hg;have pd:=DS I.b7 e;have dd:=zD I.b7 pd rr;obtain⟨b,rfl,rfl,hb⟩:=TF I.b7 dy ry;have sz:aX=16777216:=cD;have hl:xs.length < aX:=by rw [K0 rr,sz]; exact hz
 refine wpAny_setItem_heap (hsz:=by lia) (FK (by lia)) hb dd fun h' AF hs=>?_;have kp:Kp H (upd H a (.ext (Kd a (Ia xs pk b r)))):=.Yl e;have pr:=Fu kp (Td rr dy rv dv);have he:∃ q,h'.get? a=some q:=let ⟨q,_,_,hq,_⟩:=AF; ⟨q,hq⟩
 have xE:(Ia xs pk b r).length<=aX:=by
  unfold Ia;split
  ·rw [ao]; lia
  ·rw [aG]; show xs.length+1<=_; lia
 exact h _ _ (sU I (by rw [e]; exact fX) hs he (Dl xE pd.2.1 AF)) (.put ab hg kp (Em bU pr))
theorem Fy(hu:X.A.units+64 < cLine)(ho:fW X o to)(hi:fW X i ti)
  (ha:autoParam (∀ v,Kn (.Subscript o i pos) X.env v=(do
   let ov ← CO [v] (eval o X.env)
   let iv ← CO [v,ov] (eval i X.env)
   standAt pos
   CO [v,ov,iv] (setItem ov iv v)
   release [v,ov,iv] [])) Ai._auto_1):NW X (.Subscript o i pos) (GD to ti):=by
 intro E pins s σ H τ G w d u Q hE I r rd h;rw [ha];refine ag (cN (i5 ho hE I h fun x H1 dx G1 ov s1 I1 m1 r1 jj q1=>?_));refine ag (cN (i5 hi hE I1 q1 fun y H2 dy G2 iv s2 mr m2 r2 xr q2=>?_));refine ag (EG (ag (cN ?_)));have HS:=m1.trans m2;have Pg:=rd.mono (HS.kp I.ab);have Bh:=I.st.mono (HS.kp I.ab);have rx':=jj.mono (m2.kp I1.ab);unfold IL at q2;split at q2
 ·rename_i l;cases rx';cases r1;obtain⟨kvs,pk,hg,rfl,hz,q⟩:=q2;exact Uc hu mr.inv mr.ab hg hz r2 xr r Pg fun H4 s4 I4 m4=>wpAny_release ⟨σ,H4,τ,_,⟨I4,Bh.mono (m4.kp mr.ab),m4.ab⟩,HS.trans m4,q⟩
 ·exact q2.elim
theorem Cy {P:bI} {w:World} {H:Hp} (h:Heap) (hb:df < h.objs.size):fk P w H (h.push { cls:=.type "dict",data:=.dict #[] }) h.objs.size (.ext (Kd h.objs.size [])) :=
 Dl (cw _) (beq_eq_false_iff_ne.mpr (eD (bu hb))) ⟨_,#[],0,a9 _ rfl,⟨rfl,rfl,rfl⟩,rfl,rfl,(fun x hx=>absurd hx (by simp)),cy⟩
theorem K8:fW X (.Dict [] [] pos) Rj:=by
 intro E pins s σ H τ G Q hE I h;have hn:=I.inv.b7.fresh (aC s.heap.objs.size);have I1:=I.inv.laid (a:=s.heap.objs.size) (o:=.ext (Kd s.heap.objs.size [])) (h':=s.heap.push { cls:=.type "dict",data:=.dict #[] }) (t':=s.toks) (fun _ _ q=>aA _ q) (aC _) (Cy s.heap I.inv.big);exact wpAny_Dict_empty ⟨.ref s.heap.objs.size,_,.ref _,_,I1,.new I.ab hn (Em bU .nil),rfl,.ref _,h _ (I.ab.free hn)⟩
theorem PM(hu:X.A.units+64 < cLine)(hk:fW X k tk)(hv:fW X v tv):fW X (.Dict [some k] [v] pos) (Ri tk tv):=by
 intro E pins s σ H τ G Q hE I h;have hn:=I.inv.b7.fresh (aC s.heap.objs.size);have I1:=I.inv.laid (a:=s.heap.objs.size) (o:=.ext (Kd s.heap.objs.size [])) (h':=s.heap.push { cls:=.type "dict",data:=.dict #[] }) (t':=s.toks) (fun _ _ q=>aA _ q) (aC _) (Cy s.heap I.inv.big);have mh:Mv X.K H G (upd H s.heap.objs.size (.ext (Kd s.heap.objs.size []))) G:=.GB I.ab hn;have I2:I2 X pins σ (upd H s.heap.objs.size (.ext (Kd s.heap.objs.size []))) τ G { s with heap:=s.heap.push { cls:=.type "dict",data:=.dict #[] },toks:=s.toks }:=⟨I1,I.st.mono (.new hn),mh.ab⟩;refine wpAny_Dict_any (by rfl) (by rfl) (by simp) (show 1<=15 by decide) ?_;refine pairTrees_cons_walk (i5 hk hE I2 h fun x H1 dx G1 u s1 I3 m1 r1 jj q1=>?_);refine i5 hv hE I3 q1 fun y H2 dy G2 w s2 I4 m2 r2 xr q2=>?_;obtain⟨pk,rfl,q2⟩:=q2;refine pairTrees_nil_walk ?_;have g0:G s.heap.objs.size=none:=I.ab.free hn;obtain⟨p1,p2⟩:=m1.keep _ _ (bU (H:=H) (a:=s.heap.objs.size) (o:=.ext (Kd s.heap.objs.size []))) g0;obtain⟨p3,p4⟩:=m2.keep _ _ p1 p2;have Yg:=jj.mono (m2.kp I3.ab);have pd:=DS I4.inv.b7 p3;have dd:=zD (K:=X.K) (kvs:=[]) I4.inv.b7 pd .nil;obtain⟨b,rfl,rfl,hb⟩:=TF I4.inv.b7 Yg r1;unfold storeAll;rw [List.forIn_cons];refine ag (ag (wpAny_dictSet_heap (hsz:=cw _) (M0 (by lia)) hb dd fun h' AF hs=>ay ?_));show wpAny _ _ (forIn [] PUnit.unit _) _ _ _;rw [List.forIn_nil];refine ay ?_;have he:∃ q,h'.get? s.heap.objs.size=some q:=let ⟨q,_,_,hq,_⟩:=AF; ⟨q,hq⟩
 have es:Ia [] pk b w=[(pk,b,w)]:=rfl;rw [es] at AF;have kp:Kp H2 (upd H2 s.heap.objs.size (.ext (Kd s.heap.objs.size [(pk,b,w)]))):=.Yl p3;have I5:=sU (t':=s2.toks+(Nc X.prog X.w).draws pk) I4.inv (by rw [p3]; exact fX) hs he (Dl (by exact(show 1<=aX by decide)) pd.2.1 AF);have HS:=(mh.trans m1).trans m2;refine⟨.ref s.heap.objs.size,_,.ref s.heap.objs.size,_,I5,?_,rfl,.ref _,q2 _ p4⟩;refine⟨fun a o e n=>?_,fun a n=>?_,fun a g e=>?_⟩
 ·have ne:a≠s.heap.objs.size:=d6 e hn;obtain⟨k1,k2⟩:=HS.keep a o e n;exact⟨by rw [bG ne]; exact k1,by rw [cL ne]; exact k2⟩
 ·by_cases ha:a=s.heap.objs.size
  ·rw [ha,bU]; simp
  ·rw [bG ha]; exact HS.jl a n
 ·by_cases ha:a=s.heap.objs.size
  ·subst ha;rw [az] at e; cases e;exact Em bU (Fu kp (.cons ⟨rfl,Yg,y,r2,xr⟩ .nil))
  ·rw [cL ha] at e;exact(HS.ab a g e).mono kp (bG ha)
theorem zC (ho:fW X o to) (vB:autoParam (EK o "items" X.env (eval o X.env)=eval o X.env) Ar._auto_1) (Ac:autoParam ((apos.endLine == lN.line)=true) Ar._auto_1) :
  NV X (.Tuple elts kk Bg) (.Call (.Attribute o "items" apos) [] [] lN) (vt to):=by
 intro E pins s σ H τ G R hE I h;refine v8 vB Ac (i5 ho hE I h fun x H1 d G1 v s1 I1 m1 r1 jj q1=>?_);cases d with
 | oV kvs =>
  have q1:R (kvs.map fun p=>.tup [qu p.1,p.2]) (fun _=>True) G1:=q1;cases jj with
  | oV hq rel rk rv =>
  rename_i a ob xs ks vs;have pr:=Di rel rk rv;obtain⟨z,ns,o',es,ep,Cj,ex,dd,hl,nd⟩:=(I1.inv.b7 a _ hq).2.1;have eo:o'=ob:=by have:=(I1.inv.b7 a _ hq).1; rw [Cj] at this; exact ba this
  subst eo;have t1:s1.TypeIs (.ref a) "dict":=⟨_,Cj,ex.1⟩;have t2:∀ b,eL a=.ref b->∃ ob,s1.heap.get? b=some ob/\ob.dict=none:=fun b z=>by cases z; exact⟨_,Cj,ex.2.1⟩
  have l1:=congrArg dU hl;rw [ao,eU] at l1;have l2:=K0 pr;have l3:vs.length=xs.length:=by have:=rel.2.2.length; simpa using this
  have ps:∀ i (h:i < es.size),∃ p,((xs.zip vs).map fun z=>(V.ref z.1.2.1,z.2))[i]?=some p/\RelV p.1 es[i].key/\RelV p.2 es[i].val:=fun i hi=>by
   have i2:i < xs.length:=by lia
   have i3:i < vs.length:=by lia
   have ee:es[i]=⟨hP xs[i].1,.ref xs[i].2.1,xs[i].2.2⟩:=by
    have:=congrArg (fun l=>l[i]?) hl;simp only [aO,au i2] at this;simpa [hi] using this
   refine⟨(V.ref xs[i].2.1,vs[i]),by rw [aO,au (by rw [lV]; lia),t4]; rfl,?_⟩;rw [ee];refine⟨rfl,?_⟩;obtain⟨u,Z8,hu2⟩:=rel.2.2.get (au i3);rw [aO,au i2] at Z8;cases Z8;exact hu2
  have V6:∀ (i:Nat) (q:PK×D),kvs[i]?=some q->∃ p,((xs.zip vs).map fun z=>(V.ref z.1.2.1,z.2))[i]?=some p/\bV X.K H1 p.1 (qu q.1)/\bV X.K H1 p.2 q.2:=fun i q e=>by
   have i1:i < kvs.length:=(List.getElem?_eq_some_iff.mp e).1;have i2:i < xs.length:=by lia
   have i3:i < vs.length:=by lia
   refine⟨(V.ref xs[i].2.1,vs[i]),by rw [aO,au (by rw [lV]; lia),t4]; rfl,?_,?_⟩
   ·obtain⟨w,hw,pP⟩:=rk.get (i:=i) (d:=qu q.1) (by rw [aO,e]; rfl);rw [rel.2.1,aO,au i2] at hw;cases hw;exact pP
   ·obtain⟨w,hw,pP⟩:=rv.get (i:=i) (d:=q.2) (by rw [aO,e]; rfl);rw [au i3] at hw;cases hw;exact pP
  have hlen:kvs.length=es.size:=by lia
  cases r1;refine⟨"dict","dict.items",dg,gc,rh,t1,t2,my rfl (xO ?_)⟩;refine yT gc t1 qF (pH _) (vd a ns) ⟨t1,?_⟩;have I2:Inv X pins σ H1 { s1 with heap:=s1.heap.push { cls:=.type "dict_items",data:=.fields #[.ref a] } }:=I1.inv.kept (t':=s1.toks) fun b o e=>aA _ e;refine xD (s:={ s1 with heap:=s1.heap.push { cls:=.type "dict_items",data:=.fields #[.ref a] } }) ⟨_,a9 _ rfl,rfl,rfl⟩ (aA _ (I1.inv.b7 a _ hq).1) dd ?_;refine⟨_,[_],_,_,H1,G1,kvs.map (fun p=>.tup [qu p.1,p.2]),_,rfl,I2.kept (t':=s1.toks) fun b o e=>aA _ e,m1,xf a _ _ es ep _ dd ps,⟨.none,.none,a9 _ rfl⟩,fun b hb=>?_,fun i H2 G2 k ab _=>?_,q1⟩
  ·have e:=List.mem_singleton.mp hb;subst e;exact I2.Bp (aC _) (I2.b7.fresh (aC _))
  ·have xE:=k.iC _ _ _ hq;refine⟨fun d hd=>?_,fun hle=>⟨⟨_,xE⟩,by rw [<-hlen]; simpa using hle⟩⟩;rw [aO] at hd;cases HW:kvs[i]? with
   | none=>rw [HW] at hd; cases hd
   | some q =>
    rw [HW] at hd;obtain⟨p,hp,rk,rp⟩:=V6 i q HW;have hi:i < es.size:=by rw [<-hlen]; exact(List.getElem?_eq_some_iff.mp HW).1
    refine⟨⟨⟨_,xE⟩,hi⟩,?_⟩;rintro x H3 ⟨T,p',ex,hT,e3,hy⟩;subst ex e3;rw [hp] at hy;cases hy;have ed:D.tup [qu q.1,q.2]=d:=by simpa using hd
    subst ed;exact⟨.tup bU (.cons ((rk.mono k).mono (.new hT)) (.cons ((rp.mono k).mono (.new hT)) .nil)),.GB ab hT⟩
 | _=>exact q1.elim
theorem mD.drop{K:ai}{H:Hp}{kv:List (List Key×V)}{kvs:List (D×D)}(r:mD K H kv kvs)(k:List Key):mD K H (kv.filter fun p=>decide (p.1≠k)) (kvs.filter fun p=>!ip p.1 (.tup (k.map eP))):=by
 induction r using mD.ind with
 | nil=>exact .nil
 | @cons j v d r t rd rs ih =>
  rw [bK,bK];simp only [rT];by_cases e:j=k
  ·simp only [e,ne_eq,not_true_eq_false,decide_false,decide_true,bq,aj,if_false]; exact ih
  ·simp only [e,ne_eq,not_false_eq_true,decide_true,decide_false,cZ,if_true]; exact .cons rd ih
theorem KT.drop{H:Hp}{kvs:List (List Key×V)}{xs:List (List Key×Addr×Value)}(r:KT H kvs xs)(k:List Key):KT H (kvs.filter fun p=>decide (p.1≠k)) (VI xs k):=by
 unfold VI;induction r with
 | nil=>exact .nil
 | @cons p q ps qs h1 _ ih =>
  rw [bK,bK];by_cases e:p.1=k
  ·have e2:q.1=k:=h1.1.symm.trans e;simp only [e,e2,ne_eq,not_true_eq_false,decide_false,aj,if_false]; exact ih
  ·have e2:¬ q.1=k:=fun z=>e (h1.1.trans z);simp only [e,e2,ne_eq,not_false_eq_true,decide_true,if_true]; exact .cons h1 ih
theorem FP (hu:X.A.units+64 < cLine):HA X "dict.pop" FW:=by
 intro pins s σ H G x d xs ds v us Q I ab rx rd KL Bm q;unfold FW at q;split at q
 ·rename_i a k;obtain⟨kvs,d',hg,⟨hk,ha,hl⟩,q⟩:=q;cases rd;obtain⟨w,rfl,Fb⟩:=Bm.one;obtain⟨u1,rfl,MK⟩:=vals1 KL;cases rx;obtain⟨H',I',m,h⟩:=DY I ab hg (by unfold iw; rw [gG]; right; rw [hk,ha]; rfl) Fb;rcases h with ⟨kv,kk,hv,rs,rfl,rfl⟩ | ⟨kv,kk,b,hv,rs,rfl,rfl,hb⟩
  ·cases kk <;> simp [eP,lr] at hk
  ·cases MK;obtain⟨z,hd,ys,rel,dd⟩:=Ra I'.b7 hv;rcases rs.look kk with ⟨v',d2,e1,e2,rr⟩ | ⟨e1,e2⟩
   ·rw [e2] at hl;cases hl;obtain⟨w',hw,pP⟩:=w8.some_of (v:=v') (o:=(atKey ys kk).map (·.2)) (by rw [<-e1]; exact rel.val kk);obtain⟨p,hp,qK⟩:=Option.map_eq_some_iff.mp hw;refine PB (knd:=iZ (cH X.prog X.w)) (ng (by lia)) (wN I'.b7 hb) dd hp (by rw [<-iT rel]; exact z) fun h' AF hs=>?_;rw [qK];have kp:Kp H' (upd H' a (.dT (kv.filter fun p=>decide (p.1≠kk)))):=.putD hv (.inr ⟨_,rfl⟩);obtain⟨q',es,ep,hq,h2,h3,h4,_,h5⟩:=AF;have I5:=sU (t':=s.toks+(iZ (cH X.prog X.w)).draws kk) I' (by rw [hv]; exact fX) hs ⟨q',hq⟩ (ob:=.dT (kv.filter fun p=>decide (p.1≠kk))) ⟨bz (fN _ _) z,hd,_,(KT.drop rel kk).keeps fun c ys ec=>by rw [bG (UZ ec hv (fun z=>nomatch z))]; exact ec,q',es,ep,hq,h2,h3,h4,h5⟩;exact⟨v',_,d',_,I5,m.trans (.put m.ab hg kp (.dt bU ((rs.drop kk).mono kp))),pP,rr.mono kp,q⟩
   ·rw [e2] at hl; cases hl
 ·exact q.elim
end
end K2
end
section
namespace K2
open PySem PySem.W PySem.Spec PyProof.Rows PySem.Calls
theorem Na{p q:bI}{loose:List Str}{Xt:ax->Bool}{α:Type}{Yf:ax->α}{Ya:World->α}{N:Nat}(e:opening p=plainProg p.main.scope.names)(hN:Nat.ble 600 N=true)(f:∀ s,fenceModules? p s=some s)
  (h:∀ (w:World) (os:OsState),(topFrom treeTable p w N ⟨OG w.params,Ms [],Ij,OF,os⟩).map (fun s=>(openSeen q loose (yQ p.main.body) Xt true s,Yf s))=some (openGood q loose,Ya w)):LeftO p q loose Xt Yf Ya N:=fun w=>by
 obtain⟨⟨h',gs,d,k,os⟩,e1,e2⟩:=Option.map_eq_some_iff.mp (boot_open e hN f w);obtain⟨rfl,rfl,rfl,rfl⟩:h'=OG w.params/\gs=Ms []/\d=Ij/\k=OF:=by simpa using e2
 unfold openEnds;rw [e1];exact h w os
abbrev KD(l:OpenLaw)(q:bI):Bool:=chainsOk q&&opensWell l.row.prog&&(frees l.row.toRowW&&l.row.within.isEmpty)
abbrev VH(l:OpenLaw)(q:bI)(s:ax):Bool:=xlAt q [] s&&recOk l.row.records s
theorem Nw{l:OpenLaw}{q:bI}{loose:List Str}{K:Params->Frag}{as:List Addr}{d:DefRec}{N:Nat}(ok:l.wellSaid=true)(e:opening l.row.prog=plainProg l.row.prog.main.scope.names)(hN:Nat.ble 600 N=true)(f:∀ s,fenceModules? l.row.prog s=some s)(hK:∀ P,as=(K P).map (·.1))
  (h:∀ (w:World) (os:OsState),(topFrom treeTable l.row.prog w N ⟨OG w.params,Ms [],Ij,OF,os⟩).map (fun s=>(openSeen q loose (yQ l.row.prog.main.body) (VH l q) true s,as.map s.heap.get?))=some (openGood q loose,(K w.params).map fun p=>some p.2))
  (hd:defOf q l.row.name=some (d,[])) (hp:l.row.prog.theDef l.row.name=some (d.params,d.body,d.scope)) (hk:kwWritten? d.params.kwonlyargs d.params.kw_defaults=some []) (hr:(!l.row.writes||l.row.records.isEmpty)=true) (ht:KD l q=true) (hb:l.row.prog.bare) (hw:l.row.toRowW.promised)
  (c:WalkO q loose (XL q []) (InK K) l.row.toRowW d [] fun f vs=>Kq f vs):l.Holds :=
 holds_law ok fun k1=>holds_open (Na (Yf:=Hook.obs (kHook K as hK)) (Ya:=Hook.val (kHook K as hK)) e hN f h) (Hook.of (kHook K as hK)) (Hook.keeps (kHook K as hK)) (fun s x=>xl_of s (Bool.and_eq_true_iff.mp x).1) XL.keeps hd hp hk (fun s x=>recFacts_of (Bool.and_eq_true_iff.mp x).2) hr k1 ht hb hw c
structure At(K:Frag)(x:Str)(st:Stmt)(f:Addr)(fd:fx):Prop where
 a:nsIn K bQ x=some (some (.ref f))
 F:L2.Sj K x x st f fd
theorem Vy{K:Frag}{x:Str}{st:Stmt}{f:Addr}{oc:Value}{od an:Option Addr}{Lc:Array (Option Value)}{kV doc pm kT ct:Value}(a:autoParam (nsIn K bQ x=some (some (.ref f))) Aq._auto_1)(l:autoParam (K.lookup f=some ⟨oc,od,.func (fnOf x x (L2.kL st) (L2.gC st) (L2.bN st) .none kV doc pm an kT ct),Lc⟩) Aq._auto_1)
  (c:autoParam (codeIn K kT x=true) Aq._auto_1) (k:autoParam (keepIn K (.ref f)=true) Aq._auto_1):At K x st f (fnOf x x (L2.kL st) (L2.gC st) (L2.bN st) .none kV doc pm an kT ct):=⟨a,L2.W2 l c k⟩
structure Cal(P:bI)(w:World)(K:Frag)(mg:Str->Option Value)(base:Heap)(CX:L2.Mi)(k:Nat)(f:Addr)(fd:fx)(x:Str)(ps:List Str)(sp:L2.Sp):Prop where
 ok:L2.tK P w K mg base CX k f fd ps sp
 mg:mg x=some (.ref f)
 kp:keepIn K (.ref f)=true
 bi:L2.Binds K fd ps []
end K2
end
section
namespace K2
open PySem PySem.W PySem.Spec PyProof.Rows L2
structure Sk where
 P:bI
 w:World
 K:Frag
 mg:Str->Option Value
 base:Heap
inductive UG (V:Sk):Prop
 | mk {h:Heap}:V.K.In h->h.Ns bQ V.mg->UG V
theorem UG.mg{V:Sk}{x:Str}{v:Value}(Y:UG V)(a:nsIn V.K bQ x=some (some v)):V.mg x=some v:=by obtain⟨X,G⟩:=Y; exact mg_of X G a
theorem UG.no{V:Sk}{x:Str}(Y:UG V)(a:nsIn V.K bQ x=some none):V.mg x=none:=by obtain⟨X,G⟩:=Y; exact mg_none_of X G a
inductive ZN (V:Sk) (CX:Mi) (k:Nat) (x:Str) (ps:List Str) (sp:Sp):Prop
 | mk {f:Addr} {fd:fx}:Cal V.P V.w V.K V.mg V.base CX k f fd x ps sp->ZN V CX k x ps sp
theorem ZN.el{V:Sk}{CX:Mi}{k:Nat}{x:Str}{ps:List Str}{sp:Sp}{p:Prop}(z:ZN V CX k x ps sp)(h:∀ f fd,Cal V.P V.w V.K V.mg V.base CX k f fd x ps sp->p):p:=by obtain⟨c⟩:=z; exact h _ _ c
abbrev gT(V:Sk)(k:Nat)(x:Str)(ps:List Str)(sp:jU):Prop:=ZN V Kl k x ps (Bi V.K sp)
abbrev CEZ(V:Sk)(k:Nat)(x:Str)(ps:List Str)(sp:jU):Prop:=ZN V (Sl V.P V.w) k x ps (E6 V.K V.mg sp)
inductive iL (K:Frag) (x:Str) (st:Stmt):Prop
 | mk {f:Addr} {fd:fx}:At K x st f fd->iL K x st
theorem fj{K:Frag}{x:Str}{st:Stmt}{f:Addr}{oc:Value}{od an:Option Addr}{Lc:Array (Option Value)}{kV doc pm kT ct:Value}(a:autoParam (nsIn K bQ x=some (some (.ref f))) Aq._auto_1)(l:autoParam (K.lookup f=some ⟨oc,od,.func (fnOf x x (L2.kL st) (L2.gC st) (L2.bN st) .none kV doc pm an kT ct),Lc⟩) Aq._auto_1)
  (c:autoParam (codeIn K kT x=true) Aq._auto_1) (k:autoParam (keepIn K (.ref f)=true) Aq._auto_1):iL K x st:=⟨Vy a l c k⟩
theorem qS{V:Sk}{x:Str}{st:Stmt}{ps:List Str}{k:Nat}{sp:jU}{rd:hU}(Nn:List Str)(Y:UG V)(F:iL V.K x st)
  (hr:∀ ds G Q,sp ds G Q (fun _ _=>False)->rd (fun _ _=>False) (ends Q) (bo Nn.length ds) G)
  (hb:∀ {f:Addr} {kT:Value} {A:cS} {outer:List Env} {s:ax} {H:Hp} {E:XK},kO k (A.deeper (xb x (bN st) s.heap.objs.size f kT))->Nn.Nodup->tG (vM Kl V.P V.w V.K V.mg V.base Nn x (bN st) f kT A outer s H E).Ws (gC st) rd)
  (S:autoParam (lF Nn ps (bN st)) Aua._auto_1)
  (bn:autoParam (∀ (kV doc pm:Value) (an:Option Addr) (kT ct:Value) (us:List Value),us.length=ps.length->bindArgs (fnOf x x (kL st) (gC st) (bN st) .none kV doc pm an kT ct) ⟨us,[]⟩=pure (ps.zip us)) Aub._auto_1)
  (len:autoParam (∀ ds G Q E,sp ds G Q E->ds.length=ps.length) Al._auto_1):gT V (k+1) x ps sp:=by
 obtain⟨z⟩:=F;exact⟨⟨LD z.F S len hr fun _ _ _ _ _ _ r=>hb r S.nd,Y.mg z.a,z.F.kp,z.F.binds bn⟩⟩
theorem foE{V:Sk}{x:Str}{st:Stmt}{ps:List Str}{k:Nat}{sp:jU}{rd:hU}(Nn:List Str)(Y:UG V)(F:iL V.K x st)
  (hr:∀ ds G Q E,sp ds G Q E->rd E (ends Q) (bo Nn.length ds) G)
  (hb:∀ {f:Addr} {kT:Value} {A:cS} {outer:List Env} {s:ax} {H:Hp} {E:XK},kO k (A.deeper (xb x (bN st) s.heap.objs.size f kT))->Nn.Nodup->tG (vM (Sl V.P V.w) V.P V.w V.K V.mg V.base Nn x (bN st) f kT A outer s H E) (gC st) rd)
  (S:autoParam (lF Nn ps (bN st)) Aua._auto_1)
  (bn:autoParam (∀ (kV doc pm:Value) (an:Option Addr) (kT ct:Value) (us:List Value),us.length=ps.length->bindArgs (fnOf x x (kL st) (gC st) (bN st) .none kV doc pm an kT ct) ⟨us,[]⟩=pure (ps.zip us)) Aub._auto_1)
  (len:autoParam (∀ ds G Q E,sp ds G Q E->ds.length=ps.length) Al._auto_1):CEZ V (k+1) x ps sp:=by
 obtain⟨z⟩:=F;exact⟨⟨T7 z.F S len hr fun _ _ _ _ _ _ r=>hb r S.nd,Y.mg z.a,z.F.kp,z.F.binds bn⟩⟩
structure Vz(K:Frag)(x:Str)(C:Addr):Prop where
 ns:nsIn K bQ x=some (some (.ref C))
 ex:excIn K C [.type "ValueError",.type "Exception",.type "BaseException",.type "object"] "ValueError.__new__" = true
 xi:RU K C
theorem IA {K:Frag} {x:Str} {C:Addr} (ns:autoParam (nsIn K bQ x=some (some (.ref C))) Aq._auto_1) (ex:autoParam (excIn K C [.type "ValueError",.type "Exception",.type "BaseException",.type "object"] "ValueError.__new__" = true) Ax._auto_1)
  (x0:autoParam (OC K (.ref C) "__getattribute__" = some (some (.builtin "BaseException.__getattribute__"))) Af._auto_1) (x1:autoParam (OC K (.ref C) "__getattr__" = some none) Af._auto_1) (x2:autoParam (OC K (.ref C) "__class__" = some (some (.builtin "object.__class__"))) Af._auto_1)
  (x3:autoParam (specialIn K (.builtin "object.__class__") "__get__" = some (some (.builtin "getset_descriptor.__get__"))) Af._auto_1) (x4:autoParam (takesIn K (.builtin "object.__class__")=some true) Af._auto_1) (x5:autoParam (mroIn K C (.type "object")=some true) Af._auto_1) (x6:autoParam (mroIn K C (.type "BaseException")=some true) Af._auto_1) (x7:autoParam ((clsIn K C).isSome=true) Af._auto_1):Vz K x C:=⟨ns,ex,⟨x0,x1,x2,x3,x4,x5,x6,x7⟩⟩
theorem X8{K:Frag}{C:Addr}{D oc:Value}{od:Option Addr}{cd:ClassData}{sl:Array (Option Value)}(l:autoParam (K.lookup C=some ⟨oc,od,.cls cd,sl⟩) Aq._auto_1)(m:autoParam (cd.mro.contains D=true) Ae._auto_1):subIn K C D=true:=by unfold subIn; rw [l]; exact m
abbrev Kt(K:Frag)(C D:Addr)(b:Bool):Prop:=kitOne K (.ref C) (.ref D)=some b
abbrev Kn0 (K:Frag) (C:Addr):Prop:=kitOne K (.type "NoneType") (.ref C)=some false
abbrev mV(K:Frag)(x:Str):Prop:=nsIn K bQ x=some none
section
variable {X:Cx} {a b c:Expr} {ta tb tc:fV}
theorem k8(h:fW X a ta)(h1:autoParam (bx [a] X.env=(false,eval a X.env) :: bx [] X.env) Ar._auto_1):BC X [a] (aw ta aQ):=eA h gB h1
theorem mT(h:fW X a ta)(k:fW X b tb)(h1:autoParam (bx [a,b] X.env=(false,eval a X.env) :: bx [b] X.env) Ar._auto_1)(k1:autoParam (bx [b] X.env=(false,eval b X.env) :: bx [] X.env) Ar._auto_1):BC X [a,b] (aw ta (aw tb aQ)):=eA h (eA k gB k1) h1
theorem Dp(h:fW X a ta)(k:fW X b tb)(l:fW X c tc)(h1:autoParam (bx [a,b,c] X.env=(false,eval a X.env) :: bx [b,c] X.env) Ar._auto_1)(k1:autoParam (bx [b,c] X.env=(false,eval b X.env) :: bx [c] X.env) Ar._auto_1)(l1:autoParam (bx [c] X.env=(false,eval c X.env) :: bx [] X.env) Ar._auto_1):BC X [a,b,c] (aw ta (aw tb (aw tc aQ))):=eA h (eA k (eA l gB l1) k1) h1
end
section
variable {X:Cx} {e:Expr} {es:List Expr} {t:A8} {pos p:Pos} {x:Str} {k n:Nat} {ps:List Str} {sp:jU} {b:Heap}
theorem k7 (c:gT ⟨X.prog,X.w,X.K,X.mg,X.base⟩ k x ps sp) (hr:kO n X.A) (ha:BC X (e :: es) t) (hk:autoParam (k<=n) Ad._auto_1) (hg:autoParam (Gl X x) Ar._auto_1) (Ag:autoParam ((x == ("__debug__" : Str))=false) Ad._auto_1) (he:autoParam (bx (e :: es) X.env=(false,eval e X.env) :: bx es X.env) Ar._auto_1) (Ab:autoParam ((mx pos (bx es X.env)).any (·.1)=false) Ar._auto_1) :
  fW X (.Call (.Name x p) (e :: es) [] pos) (bF sp t):=by
 obtain⟨c⟩:=c;exact PO c.ok (hr.mono hk) hg c.mg c.kp c.bi ha Ag he Ab
end
end K2
end
section
set_option maxHeartbeats 1000000
namespace K2
namespace J
section
variable {α:Type} [DecidableEq α]
def Iv(f:α->α):Prop:=∀ e,f (f e)=e
def jn(f:α->α)(x y:α):α->α:=fun e=>if e=x\/e=y then e else if e=f x then f y else if e=f y then f x else f e
def cl(f:α->α)(x y:α):Nat:=if f x=y then 1 else 0
theorem YR{f:α->α}(h:Iv f){x y:α}(hx:f x≠x)(hy:f y≠y)(Xz:x≠y):Iv (jn f x y):=by
 intro e;have h1:=h x;have h2:=h y;have h3:=h e;unfold jn
 grind (splits:=40)
theorem Qq{f:α->α}(h:Iv f){x y e:α}(Xz:x≠y)(he:jn f x y e=e):e=x\/e=y\/f e=e:=by
 have h1:=h x;have h2:=h y;unfold jn at he
 grind (splits:=40)
theorem abi{f:α->α}{x y:α}:jn f x y x=x:=by unfold jn; grind
theorem abh{f:α->α}{x y:α}:jn f x y y=y:=by unfold jn; grind
theorem Lo{f:α->α}{x y:α}:jn f x y=jn f y x:=by funext e; unfold jn; grind
theorem Uk{f:α->α}(h:Iv f){x y:α}:cl f x y=cl f y x:=by
 have h1:=h x;have h2:=h y;unfold cl; grind
theorem TR{f:α->α}(h:Iv f){x y z w:α}(hx:f x≠x)(hy:f y≠y)(hz:f z≠z)(hw:f w≠w)(xy:x≠y)(xz:x≠z)(xw:x≠w)(yz:y≠z)(yw:y≠w)(zw:z≠w):jn (jn f x y) z w=jn (jn f z w) x y:=by
 funext e;have h1:=h x;have h2:=h y;have h3:=h z;have h4:=h w;have h5:=h e;unfold jn
 grind (splits:=40)
theorem Ul{f:α->α}(h:Iv f){x y z w:α}(hx:f x≠x)(hy:f y≠y)(hz:f z≠z)(hw:f w≠w)(xy:x≠y)(xz:x≠z)(xw:x≠w)(yz:y≠z)(yw:y≠w)(zw:z≠w):cl f x y+cl (jn f x y) z w=cl f z w+cl (jn f z w) x y:=by
 have h1:=h x;have h2:=h y;have h3:=h z;have h4:=h w;unfold cl jn
 grind (splits:=40)
end
end J
end K2
end
section
set_option maxHeartbeats 1000000
namespace K2
namespace J
section
variable {α:Type} [DecidableEq α]
abbrev Pr(α:Type):=List (α×α)
def jD(f:α->α):Pr α->α->α
 | []=>f
 | p :: ps=>jD (jn f p.1 p.2) ps
def cls(f:α->α):Pr α->Nat
 | []=>0
 | p :: ps=>cl f p.1 p.2+cls (jn f p.1 p.2) ps
def es:Pr α->List α
 | []=>[]
 | p :: ps=>p.1 :: p.2 :: es ps
structure Ok(f:α->α)(ps:Pr α):Prop where
 iv:Iv f
 nd:(es ps).Nodup
 dm:∀ e∈es ps,f e≠e
theorem sR{ps qs:Pr α}(h:ps.Perm qs):(es ps).Perm (es qs):=by
 induction h with
 | nil=>exact .nil
 | cons x _ ih=>exact(ih.cons _).cons _
 | swap x y l =>
  show (y.1 :: y.2 :: x.1 :: x.2 :: es l).Perm (x.1 :: x.2 :: y.1 :: y.2 :: es l);have:∀ (a b c d:α) (l:List α),(a :: b :: c :: d :: l).Perm (c :: d :: a :: b :: l):=fun a b c d l=>by
   refine((md c b _).cons a).trans ?_;refine(md c a _).trans ?_;refine CW c ?_;refine((md d b _).cons a).trans ?_;exact md d a _
  exact this _ _ _ _ _
 | trans _ _ a b=>exact a.trans b
theorem sS(ps qs:Pr α):es (ps++qs)=es ps++es qs:=by
 induction ps with
 | nil=>rfl
 | cons p ps ih=>rw [aF,es,es,ih]; rfl
theorem JQ(ps:Pr α):(es ps).length=2 * ps.length:=by
 induction ps with
 | nil=>rfl
 | cons p ps ih=>rw [es,ak,ak,ih,ak]; lia
theorem qa{ps:Pr α}{e:α}:e∈es ps↔∃ p∈ps,e=p.1\/e=p.2:=by
 induction ps with
 | nil=>simp [es]
 | cons p ps ih =>
  rw [es,bA,bA,ih];constructor
  ·rintro(h | h | ⟨q,h,z⟩)
   ·exact⟨p,by simp,.inl h⟩
   ·exact⟨p,by simp,.inr h⟩
   ·exact⟨q,aL _ h,z⟩
  ·rintro⟨q,h,z⟩;rcases List.mem_cons.mp h with rfl | h
   ·rcases z with z | z
    ·exact .inl z
    ·exact .inr (.inl z)
   ·exact .inr (.inr ⟨q,h,z⟩)
theorem Ok.perm{f:α->α}{ps qs:Pr α}(h:ps.Perm qs)(o:Ok f ps):Ok f qs :=
 ⟨o.iv,(sR h).nodup_iff.mp o.nd,fun e he=>o.dm e ((sR h).mem_iff.mpr he)⟩
theorem Ok.hd{f:α->α}{p:α×α}{ps:Pr α}(o:Ok f (p :: ps)):p.1≠p.2/\f p.1≠p.1/\f p.2≠p.2:=by
 have n:=o.nd;rw [es,aY] at n;exact⟨fun z=>n.1 (by rw [z]; exact cA),o.dm _ (by simp [es]),o.dm _ (by simp [es])⟩
theorem Ok.tl{f:α->α}{p:α×α}{ps:Pr α}(o:Ok f (p :: ps)):Ok (jn f p.1 p.2) ps:=by
 obtain⟨h1,h2,h3⟩:=o.hd;have n:=o.nd;rw [es,aY,aY] at n;refine⟨YR o.iv h2 h3 h1,n.2.2,fun e he z=>?_⟩;rcases Qq o.iv h1 z with z | z | z
 ·exact n.1 (by rw [<-z]; exact aL _ he)
 ·exact n.2.1 (by rw [<-z]; exact he)
 ·exact o.dm e (by simp [es,he]) z
theorem Ok.left{f:α->α}{ps qs:Pr α}(o:Ok f (ps++qs)):Ok (jD f ps) qs:=by
 induction ps generalizing f with
 | nil=>exact o
 | cons p ps ih=>exact ih o.tl
theorem Ok.pre{f:α->α}{ps qs:Pr α}(o:Ok f (ps++qs)):Ok f ps :=
 ⟨o.iv,by have:=o.nd; rw [sS] at this; exact(List.nodup_append.mp this).1,fun e he=>o.dm e (by rw [sS]; exact kd _ he)⟩
theorem ud(f:α->α)(ps qs:Pr α):jD f (ps++qs)=jD (jD f ps) qs:=by
 induction ps generalizing f with
 | nil=>rfl
 | cons p ps ih=>exact ih _
theorem um(f:α->α)(ps qs:Pr α):cls f (ps++qs)=cls f ps+cls (jD f ps) qs:=by
 induction ps generalizing f with
 | nil=>simp [cls,jD]
 | cons p ps ih=>rw [aF,cls,cls,ih,jD,oX]
theorem Gn{f:α->α}{ps qs:Pr α}(h:ps.Perm qs)(o:Ok f ps):jD f ps=jD f qs/\cls f ps=cls f qs:=by
 induction h generalizing f with
 | nil=>exact⟨rfl,rfl⟩
 | cons x _ ih =>
  obtain⟨a,b⟩:=ih o.tl;exact⟨a,by rw [cls,cls,b]⟩
 | swap x y l =>
  have n:=o.nd;simp only [es,aY,bA,not_or] at n;have d:∀ e,e=y.1\/e=y.2\/e=x.1\/e=x.2->f e≠e:=fun e he=>o.dm e (by
   simp only [es,bA];rcases he with h | h | h | h <;> simp [h])
  have a:=TR o.iv (d y.1 (by simp)) (d y.2 (by simp)) (d x.1 (by simp)) (d x.2 (by simp)) n.1.1 n.1.2.1 n.1.2.2.1 n.2.1.1 n.2.1.2.1 n.2.2.1.1;have b:=Ul o.iv (d y.1 (by simp)) (d y.2 (by simp)) (d x.1 (by simp)) (d x.2 (by simp)) n.1.1 n.1.2.1 n.1.2.2.1 n.2.1.1 n.2.1.2.1 n.2.2.1.1;refine⟨?_,?_⟩
  ·show jD (jn (jn f y.1 y.2) x.1 x.2) l=jD (jn (jn f x.1 x.2) y.1 y.2) l;rw [a]
  ·show cl f y.1 y.2+(cl (jn f y.1 y.2) x.1 x.2+cls (jn (jn f y.1 y.2) x.1 x.2) l)=cl f x.1 x.2+(cl (jn f x.1 x.2) y.1 y.2+cls (jn (jn f x.1 x.2) y.1 y.2) l);rw [a]; lia
 | trans h1 h2 i1 i2 =>
  obtain⟨a,b⟩:=i1 o;obtain⟨c,d⟩:=i2 (o.perm h1);exact⟨a.trans c,b.trans d⟩
theorem Qn{f:α->α}{x y:α}{ps:Pr α}(o:Iv f):jD f ((x,y) :: ps)=jD f ((y,x) :: ps)/\cls f ((x,y) :: ps)=cls f ((y,x) :: ps):=by
 refine⟨?_,?_⟩
 ·show jD (jn f x y) ps=jD (jn f y x) ps;rw [Lo]
 ·show cl f x y+cls (jn f x y) ps=cl f y x+cls (jn f y x) ps;rw [Lo,Uk o]
end
end J
end K2
end
section
set_option maxHeartbeats 1000000
namespace K2
namespace J
abbrev Fn:=Int->Int
def lp(g:Fn):Fn:=fun i=>-(g (i+2)) - g (i - 2)
def sh(b:Int)(g:Fn):Fn:=fun i=>g (i+b)
def kh:Nat->Fn->Fn
 | 0,g=>g
 | n+1,g=>lp (kh n g)
theorem TN(n m:Nat)(g:Fn):kh (n+m) g=kh n (kh m g):=by
 induction n with
 | zero=>rw [Nat.zero_add]; rfl
 | succ n ih=>rw [Nat.succ_add,kh,kh,ih]
theorem YI(b:Int)(g:Fn):lp (sh b g)=sh b (lp g):=by
 funext i;unfold lp sh;rw [show i+2+b=i+b+2 by lia,show i - 2+b=i+b - 2 by lia]
theorem zV(n:Nat)(b:Int)(g:Fn):kh n (sh b g)=sh b (kh n g):=by
 induction n with
 | zero=>rfl
 | succ n ih=>rw [kh,kh,ih,YI]
theorem UL(a b:Int)(g:Fn):sh a (sh b g)=sh (a+b) g:=by
 funext i;unfold sh;rw [Int.add_assoc]
theorem SX(g:Fn):sh 0 g=g:=by
 funext i;unfold sh;rw [EA]
def pl(g k:Fn):Fn:=fun i=>g i+k i
def sc(c:Int)(g:Fn):Fn:=fun i=>c * g i
theorem YK(g k:Fn):lp (pl g k)=pl (lp g) (lp k):=by
 funext i;show -(g (i+2)+k (i+2)) - (g (i - 2)+k (i - 2))=(-(g (i+2)) - g (i - 2))+(-(k (i+2)) - k (i - 2));lia
theorem YJ(c:Int)(g:Fn):lp (sc c g)=sc c (lp g):=by
 funext i;unfold lp sc;rw [Int.mul_sub,Int.mul_neg]
theorem Qb(n:Nat)(g k:Fn):kh n (pl g k)=pl (kh n g) (kh n k):=by
 induction n with
 | zero=>rfl
 | succ n ih=>rw [kh,kh,kh,ih,YK]
theorem Qa(n:Nat)(c:Int)(g:Fn):kh n (sc c g)=sc c (kh n g):=by
 induction n with
 | zero=>rfl
 | succ n ih=>rw [kh,kh,ih,YJ]
theorem UN(b:Int)(g k:Fn):sh b (pl g k)=pl (sh b g) (sh b k):=rfl
theorem UM(b c:Int)(g:Fn):sh b (sc c g)=sc c (sh b g):=rfl
def js(n:Int)(w:Bool):Pr T3:=if w=false then [(⟨n,0,0⟩,⟨n,1,1⟩),(⟨n,1,0⟩,⟨n,0,1⟩)] else [(⟨n,0,0⟩,⟨n,1,0⟩),(⟨n,0,1⟩,⟨n,1,1⟩)]
def Br:(T3->T3)->List (Int×Int)->Fn->Int
 | _,[],g=>g 0
 | f,p :: ps,g=>Br (jD f (js p.1 false)) ps (kh (cls f (js p.1 false)) (sh p.2 g))+Br (jD f (js p.1 true)) ps (kh (cls f (js p.1 true)) (sh (-p.2) g))
theorem RY:∀ (ps:List (Int×Int)) (f:T3->T3) (g k:Fn),Br f ps (pl g k)=Br f ps g+Br f ps k
 | [],_,_,_=>rfl
 | p :: ps,f,g,k=>by
  rw [Br,Br,Br,UN,UN,Qb,Qb,RY,RY]; lia
theorem Mj:∀ (ps:List (Int×Int)) (f:T3->T3) (c:Int) (g:Fn),Br f ps (sc c g)=c * Br f ps g
 | [],_,_,_=>rfl
 | p :: ps,f,c,g=>by
  rw [Br,Br,UM,UM,Qa,Qa,Mj,Mj,Ir]
def kK(n:Int):List T3:=[⟨n,0,0⟩,⟨n,1,1⟩,⟨n,1,0⟩,⟨n,0,1⟩]
theorem kJ(n:Int)(w:Bool):(es (js n w)).Perm (kK n):=by
 cases w with
 | false=>exact .refl _
 | true =>
  show [(⟨n,0,0⟩:T3),⟨n,1,0⟩,⟨n,0,1⟩,⟨n,1,1⟩].Perm _;refine CW _ ?_;refine(vY (l₁:=[(⟨n,1,0⟩:T3),⟨n,0,1⟩]) (l₂:=[⟨n,1,1⟩]))
structure Dm(f:T3->T3)(ns:List Int):Prop where
 iv:Iv f
 nd:ns.Nodup
 dm:∀ n∈ns,∀ e∈kK n,f e≠e
theorem Dm.perm{f:T3->T3}{ns ms:List Int}(h:ns.Perm ms)(d:Dm f ns):Dm f ms:=⟨d.iv,h.nodup_iff.mp d.nd,fun n hn=>d.dm n (h.mem_iff.mpr hn)⟩
theorem AB(n:Int):(kK n).Nodup:=by
 unfold kK;simp
theorem sT{n:Int}{e:T3}(h:e∈kK n):e.a=n:=by
 unfold kK at h;simp only [bA,bO,or_false] at h;rcases h with rfl | rfl | rfl | rfl <;> rfl
theorem Dm.ok{f:T3->T3}{n:Int}{ns:List Int}(d:Dm f (n :: ns))(w:Bool):Ok f (js n w) :=
 ⟨d.iv,(kJ n w).nodup_iff.mpr (AB n),fun e he=>d.dm n (by simp) e ((kJ n w).mem_iff.mp he)⟩
theorem Dm.Yw{f:T3->T3}{n m:Int}{ns:List Int}(d:Dm f (n :: m :: ns))(w v:Bool):Ok f (js n w++js m v):=by
 have Y0:n≠m:=fun z=>(List.nodup_cons.mp d.nd).1 (by rw [z]; exact cA);refine⟨d.iv,?_,fun e he=>?_⟩
 ·rw [sS,cz];refine⟨(kJ n w).nodup_iff.mpr (AB n),(kJ m v).nodup_iff.mpr (AB m),fun a ha b hb z=>?_⟩;have h1:=sT ((kJ n w).mem_iff.mp ha);have h2:=sT ((kJ m v).mem_iff.mp hb);rw [z] at h1;exact Y0 (h1.symm.trans h2)
 ·rw [sS,List.mem_append] at he;rcases he with he | he
  ·exact d.dm n (by simp) e ((kJ n w).mem_iff.mp he)
  ·exact d.dm m (by simp) e ((kJ m v).mem_iff.mp he)
theorem Ln{f:T3->T3}:∀ {ps:Pr T3},Ok f ps->∀ {e:T3},jD f ps e=e->e∈es ps\/f e=e:=by
 intro ps;induction ps generalizing f with
 | nil=>intro o e h; exact .inr h
 | cons p ps ih =>
  intro o e h;rcases ih o.tl h with z | z
  ·exact .inl (by simp [es,z])
  ·rcases Qq o.iv o.hd.1 z with z | z | z
   ·exact .inl (by simp [es,z])
   ·exact .inl (by simp [es,z])
   ·exact .inr z
theorem Qo{f:T3->T3}:∀ {ps:Pr T3},Ok f ps->Iv (jD f ps):=by
 intro ps;induction ps generalizing f with
 | nil=>intro o; exact o.iv
 | cons p ps ih=>intro o; exact ih o.tl
theorem Dm.step{f:T3->T3}{n:Int}{ns:List Int}(d:Dm f (n :: ns))(w:Bool):Dm (jD f (js n w)) ns:=by
 have nn:=List.nodup_cons.mp d.nd;refine⟨Qo (d.ok w),nn.2,fun m hm e he z=>?_⟩;rcases Ln (d.ok w) z with z | z
 ·have h1:=sT ((kJ n w).mem_iff.mp z);have h2:=sT he;exact nn.1 (by rw [<-h1,h2]; exact hm)
 ·exact d.dm m (aL _ hm) e he z
theorem UH{f:T3->T3}{p q:Int×Int}{ps:List (Int×Int)}(d:Dm f (p.1 :: q.1 :: ps.map (·.1)))(g:Fn):Br f (p :: q :: ps) g=Br f (q :: p :: ps) g:=by
 have key:∀ (w v:Bool),jD (jD f (js p.1 w)) (js q.1 v)=jD (jD f (js q.1 v)) (js p.1 w)/\cls (jD f (js p.1 w)) (js q.1 v)+cls f (js p.1 w)=cls (jD f (js q.1 v)) (js p.1 w)+cls f (js q.1 v):=fun w v=>by
  obtain⟨a,b⟩:=Gn (vY) (d.Yw w v);rw [ud,ud] at a;rw [um,um] at b;exact⟨a,by lia⟩
 have kk:∀ (w v:Bool) (x y:Int),Br (jD (jD f (js p.1 w)) (js q.1 v)) ps (kh (cls (jD f (js p.1 w)) (js q.1 v)) (sh x (kh (cls f (js p.1 w)) (sh y g))))=Br (jD (jD f (js q.1 v)) (js p.1 w)) ps (kh (cls (jD f (js q.1 v)) (js p.1 w)) (sh y (kh (cls f (js q.1 v)) (sh x g)))):=fun w v x y=>by
  obtain⟨a,b⟩:=key w v;have z:∀ (m n:Nat) (x y:Int),kh m (sh x (kh n (sh y g)))=sh (x+y) (kh (m+n) g):=fun m n x y=>by rw [zV,zV,zV,UL,TN]
  rw [a,z,z,b,SD x y]
 show (Br _ ps _+Br _ ps _)+(Br _ ps _+Br _ ps _)=(Br _ ps _+Br _ ps _)+(Br _ ps _+Br _ ps _);rw [kk,kk,kk,kk];lia
theorem Mk{ps qs:List (Int×Int)}(h:ps.Perm qs):∀ {f:T3->T3},Dm f (ps.map (·.1))->∀ g,Br f ps g=Br f qs g:=by
 induction h with
 | nil=>intro f d g; rfl
 | cons x _ ih=>intro f d g; rw [Br,Br,ih (d.step false),ih (d.step true)]
 | swap x y l=>intro f d g; exact UH d g
 | trans h1 h2 i1 i2=>intro f d g; rw [i1 d,i2 (d.perm (h1.map _))]
end J
end K2
end
section
set_option maxHeartbeats 1000000
namespace K2
namespace J
section
variable {α:Type} [DecidableEq α]
theorem Ok.es{f:α->α}{ps qs:Pr α}(h:(es ps).Perm (es qs))(o:Ok f ps):Ok f qs:=⟨o.iv,h.nodup_iff.mp o.nd,fun e he=>o.dm e (h.mem_iff.mpr he)⟩
structure Sm(ps qs:Pr α):Prop where
 es:(es ps).Perm (es qs)
 eq:∀ f,Ok f ps->jD f ps=jD f qs/\cls f ps=cls f qs
theorem Sm.refl(ps:Pr α):Sm ps ps:=⟨.refl _,fun _ o=>⟨rfl,rfl⟩⟩
theorem Sm.trans{ps qs rs:Pr α}(a:Sm ps qs)(b:Sm qs rs):Sm ps rs:=⟨a.es.trans b.es,fun f o=>by
 obtain⟨a1,a2⟩:=a.eq f o;obtain⟨b1,b2⟩:=b.eq f (o.es a.es);exact⟨a1.trans b1,a2.trans b2⟩⟩
theorem Sm.perm{ps qs:Pr α}(h:ps.Perm qs):Sm ps qs:=⟨sR h,fun f o=>Gn h o⟩
theorem Sm.turn(x y:α)(ps:Pr α):Sm ((x,y) :: ps) ((y,x) :: ps):=⟨md _ _ _,fun f o=>Qn o.iv⟩
theorem Sm.cons(p:α×α){ps qs:Pr α}(h:Sm ps qs):Sm (p :: ps) (p :: qs):=⟨(h.es.cons _).cons _,fun f o=>by
 obtain⟨a1,a2⟩:=h.eq _ o.tl;exact⟨a1,by rw [cls,cls,a2]⟩⟩
end
abbrev Pn:=List (Nat×Nat)
section
variable {α:Type} [DecidableEq α] (v:Nat->α)
abbrev mp(ps:Pn):Pr α:=ps.map fun p=>(v p.1,v p.2)
variable {v}
end
end J
end K2
end
section
set_option maxHeartbeats 1000000
end
section
set_option maxHeartbeats 1000000
namespace K2
namespace J
def vv(nm:Nat->Int)(i:Nat):T3:=⟨nm (i / 4),((i / 2 % 2:Nat):Int),((i % 2:Nat):Int)⟩
def jN(i:Nat)(w:Bool):Pn:=if w=false then [(4 * i,4 * i+3),(4 * i+2,4 * i+1)] else [(4 * i,4 * i+2),(4 * i+1,4 * i+3)]
theorem wH{α β:Type}{v:α->β}:∀ {l:List α},l.Nodup->(∀ i∈l,∀ j∈l,v i=v j->i=j)->(l.map v).Nodup
 | [],_,_=>cy
 | a :: l,h,hi=>by
  rw [aY] at h;rw [aq,aY];refine⟨fun z=>?_,wH h.2 fun i Vj j hj=>hi i (aL _ Vj) j (aL _ hj)⟩;obtain⟨b,hb,e⟩:=List.mem_map.mp z;have:=hi a (by simp) b (aL _ hb) e.symm;exact h.1 (this ▸ hb)
end J
end K2
end
section
namespace K2
open PySem (Str)
open Enc (enc)
theorem je{α:Type} [DecidableEq α] [Enc α]{G G1:Gp}{p:Nat}{xs:List α}{Q:DK}(l:fD G G1)(hp:G p=none)(h1:G1 p=some (.lst (xs.map enc)))(q:Q (enc xs) G):Mf G1 (.ref p) Q :=
 QW l hp h1 (Et.same _) q
theorem eG{α:Type}{f:α->D}{g:A7}{body:hU}{ok:Gp->Prop}{xs:List α}{E:lP}{K:nQ}{τ:iD}{G:Gp}(I:List α->iD->Gp->Prop)
  (h0:I [] τ G) (b7:∀ pre τ G,I pre τ G->ok G)
  (step:∀ (pre:List α) (x:α) (post:List α) τ G (N:iD->Gp->Prop),xs=pre++x :: post->I pre τ G->(∀ we G2,I (pre++[x]) we G2->N we G2) ->
   g E (f x) τ G fun pJ G1=>body E { K with nx:=N,ct:=N,bk:=K.nx } pJ G1)
  (fin:∀ τ G,I xs τ G->K.nx τ G):qA g body ok (xs.map f) E K τ G:=by
 have main:∀ (post pre:List α) τ G,xs=pre++post->I pre τ G->qA g body ok (post.map f) E K τ G:=by
  intro post;induction post with
  | nil =>
   intro pre τ G e h;rw [cC] at e;subst e;exact⟨b7 _ _ _ h,fin _ _ h⟩
  | cons d post ih =>
   intro pre τ G e h;refine⟨b7 _ _ _ h,?_⟩;exact step pre d post τ G _ e h fun we G2 h2=>ih (pre++[d]) we G2 (by rw [e,cU]; rfl) h2
 exact main xs [] τ G rfl h0
theorem iK{α:Type}{f:α->D}{g:A7}{c:Option xY}{e:fV}{ok:Gp->Prop}{xs:List α}{E:lP}{τ:iD}{G:Gp}{Q:List D->Gp->Prop}(I:List α->List D->iD->Gp->Prop)
  (h0:I [] [] τ G) (b7:∀ pre acc τ G,I pre acc τ G->ok G)
  (step:∀ (pre:List α) (x:α) (post:List α) (acc:List D) τ G (N:iD->List D->Gp->Prop),xs=pre++x :: post->I pre acc τ G->(∀ we w7 G2,I (pre++[x]) w7 we G2->N we w7 G2) ->
   g E (f x) τ G fun pJ G1=>match c with
    | none=>e E pJ G1 fun x G2=>N pJ (acc++[x]) G2
    | some c=>c E pJ G1 fun k G2=>if k=true then e E pJ G2 fun x G3=>N pJ (acc++[x]) G3 else N pJ acc G2)
  (fin:∀ acc τ G,I xs acc τ G->Q acc G):jg g c e ok (xs.map f) E τ G [] Q:=by
 have main:∀ (post pre:List α) (acc:List D) τ G,xs=pre++post->I pre acc τ G->jg g c e ok (post.map f) E τ G acc Q:=by
  intro post;induction post with
  | nil =>
   intro pre acc τ G e h;rw [cC] at e;subst e;exact⟨b7 _ _ _ _ h,fin _ _ _ h⟩
  | cons d post ih =>
   intro pre acc τ G e' h;refine⟨b7 _ _ _ _ h,?_⟩;have:=step pre d post acc τ G (fun we w7 G2=>jg g c e ok (post.map f) E we G2 w7 Q) e' h fun we w7 G2 h2=>ih (pre++[d]) w7 we G2 (by rw [e',cU]; rfl) h2;cases c with
   | none=>exact this
   | some c=>exact this
 exact main xs [] [] τ G rfl h0
theorem gR{α:Type} [DecidableEq α] [Enc α]{xs:List α}{G:Gp}{R:List D->(Gp->Prop)->Gp->Prop}(h:R (xs.map enc) (fun _=>True) G):QD (enc xs) G R:=h
theorem Gx{α:Type} [DecidableEq α] [Enc α]{xs:List α}{G:Gp}{R:List D->(Gp->Prop)->Gp->Prop}(h:R (nK 0 (xs.map enc)) (fun _=>True) G):vw (enc xs) G R:=h
theorem C6{n:Nat}(h:n<=1000):n<=SZ:=by unfold SZ; lia
theorem IG{n:Nat}(h:n<=1000):n < SZ:=by unfold SZ; lia
abbrev Rows:=List (List T3)
def T3.s(p:T3):T2:=⟨p.a,p.b⟩
structure Dr(rows:Rows):Prop where
 nd:(rows.flatten.map T3.s).Nodup
 way:∀ p∈rows.flatten,p.b=0\/p.b=1
 hand:∀ p∈rows.flatten,p.c=1\/p.c=-1
 Jk:∀ p∈rows.flatten,(⟨p.a,1 - p.b,p.c⟩:T3)∈rows.flatten
 HY:rows.flatten.length<=24
 str:rows.length<=3
namespace P
def gf:jU:=X2 (fun rows:Rows=>rows.flatten.length<=1000) fun rows=>rows.flatten
def rE:hU :=
 (bZ (bM (jK aQ) (aH 1))
 (bZ (ff (lu (av 0)) (aH 2) (lM (tV Be yv (av 1) (aw (av 2) aQ))))
 (cu (cO (av 1)))))
theorem sg(ds:List D)(G:Gp)(Q:DK)(h:gf ds G Q fun _ _=>False):rE (fun _ _=>False) (ends Q) (bo 3 ds) G:=by
 obtain⟨rows,rfl,hl,q⟩:=h;unfold rE;simp only [ends,bo,aq,a8,ak,aB,bg,aF,aP,cM,bM,jK,aQ,aH,ar,ah];refine⟨by decide,fun p hp=>?_⟩;refine cV (fun τ G'=>(∃ b,τ=[some (enc rows),some (.ref p),b])/\fD G G'/\G' p=some (.lst (rows.flatten.map enc))) ?_ ?_
 ·intro N hN;simp only [ff,e9,av,aa];refine gR ?_;refine eG (xs:=rows) (fun pre τ G'=>(∃ b,τ=[some (enc rows),some (.ref p),b])/\fD G G'/\G' p=some (.lst (pre.flatten.map enc))) ⟨⟨_,rfl⟩,.new hp,az⟩ (fun _ _ _ _=>trivial) ?_ ?_
  ·rintro pre r post τ G' N2 e ⟨⟨b,rfl⟩,l,gp⟩ oB;have hlen:pre.flatten.length+r.length<=rows.flatten.length:=by
    rw [e]; simp only [kZ,fE,aG]; lia
   simp only [aH,lM,tV,av,ar,ah,ae,aa,pM,gp,aw,aQ,xB,pg (IsL.enc r),true_and];refine⟨C6 (by simp only [ao]; lia),?_⟩;refine oB _ _ ⟨⟨_,rfl⟩,l.put hp,?_⟩;rw [az]; simp
  ·rintro τ G' ⟨⟨b,rfl⟩,l,gp⟩;exact hN _ _ ⟨⟨_,rfl⟩,l,gp⟩
 ·rintro _ G' ⟨⟨b,rfl⟩,l,gp⟩;simp only [cu,cO,av,ae,aa];exact je l hp gp q
theorem ly(p:T3):(enc p:D)=.tup [.int p.a,.int p.b,.int p.c]:=rfl
theorem W8(p:T2):(enc p:D)=.tup [.int p.a,.int p.b]:=rfl
theorem yB(i:Int):(enc i:D)=.int i:=rfl
theorem XF{a:D}{r:List D}:r8 (a :: r) 0=some a:=by
 rw [ql _ (by lia) (by simp)]; rfl
theorem L9{a b:D}{r:List D}:r8 (a :: b :: r) 1=some b:=by
 rw [ql _ (by lia) (by simp; lia)]; rfl
theorem at2{a b c:D}{r:List D}:r8 (a :: b :: c :: r) 2=some c:=by
 rw [ql _ (by lia) (by simp; lia)]; rfl
def names(rows:Rows):List Int:=SW ((rows.flatten.filter fun p=>p.b == 0).map (·.a))
def ig:jU:=X2 (fun rows:Rows=>rows.flatten.length < 64) names
def xl:hU :=
 (cu (cO (uj vP (aw (fT 1 [] (lu (bF gf (aw (av 0) aQ))) (aH 0) (some (gv (bh (Dh false) (bh mz (av 0) (dC (.int 1))) (dC (.int 0))))) (bh mz (av 0) (dC (.int 0)))) aQ))))
theorem xJ(ds:List D)(G:Gp)(Q:DK)(h:ig ds G Q fun _ _=>False):xl (fun _ _=>False) (ends Q) (bo 1 ds) G:=by
 obtain⟨rows,rfl,hl,q⟩:=h;unfold xl;simp only [cu,cO,uj,aw,fT,bo,aq,a8,ak,aB,aF,aP,aQ,ends,e9,bF,av,aa];refine⟨rows,rfl,(show rows.flatten.length<=1000 by lia),gR ⟨C6 (by rw [ao]; show rows.flatten.length<=1000; lia),?_⟩⟩;refine iK (xs:=rows.flatten) (fun pre acc τ G'=>G=G'/\(∃ a,τ=[a])/\acc=((pre.filter fun p=>p.b == 0).map (·.a)).map enc) ⟨rfl,⟨_,rfl⟩,rfl⟩ (fun _ _ _ _ _=>trivial) ?_ ?_
 ·rintro pre x post acc τ G' N e ⟨rfl,⟨a,rfl⟩,rfl⟩ hN;simp only [aH,ly,ah,bh,av,aa,dC,ja,XF,cQ,L9];refine⟨_,_,.int _,.int _,?_⟩;simp only [aj,iS,if_false,bE];split
  ·rename_i h;refine hN _ _ _ ⟨rfl,⟨_,rfl⟩,?_⟩;simp [eK,bK,h,yB]
  ·rename_i h;refine hN _ _ _ ⟨rfl,⟨_,rfl⟩,?_⟩;simp [eK,bK,h]
 ·rintro acc τ G' ⟨rfl,⟨a,rfl⟩,rfl⟩ p hp;refine AM (IsL.ref az) (by rw [ao]; exact hZ (fN _ _) hl) fun p2 qK=>?_;exact je ((fD.new hp).trans (.new qK)) ((fD.new hp).free qK) az q
def handOf(rows:Rows)(n:Int):Int:=((rows.flatten.find? fun p=>p.a == n).map (·.c)).getD 0
def i8:jU:=aaE (fun (rows:Rows) (n:Int)=>rows.flatten.length<=1000/\∃ p∈rows.flatten,p.a=n) handOf
def zo:hU :=
 (bZ (ff (lu (bF gf (aw (av 0) aQ))) (aH 2) (fA (gv (bh (Dh false) (bh mz (av 2) (dC (.int 0))) (av 1))) (cu (cO (bh mz (av 2) (dC (.int 2))))) dn))
 ui)
theorem AV(ds:List D)(G:Gp)(Q:DK)(h:i8 ds G Q fun _ _=>False):zo (fun _ _=>False) (ends Q) (bo 3 ds) G:=by
 obtain⟨rows,n,rfl,⟨hl,hn⟩,q⟩:=h;unfold zo;refine cV (fun τ G'=>False) ?_ (fun _ _ h=>h.elim);intro N hN;simp only [ff,bo,aq,a8,ak,aB,bg,aF,aP,ends,e9,bF,aw,av,aa,aQ];refine⟨rows,rfl,hl,gR ?_⟩;refine eG (xs:=rows.flatten) (fun pre τ G'=>G=G'/\(∃ a,τ=[some (enc rows),some (enc n),a])/\∀ p∈pre,p.a≠n) ⟨rfl,⟨_,rfl⟩,by simp⟩ (fun _ _ _ _=>trivial) ?_ ?_
 ·rintro pre x post τ G' N2 e ⟨rfl,⟨a,rfl⟩,hp⟩ oB;simp only [aH,fA,yB,ly,ar,ah,cu,cO,bh,av,ae,aa,dC,ja,at2,dn,cQ,XF];refine⟨_,_,.int _,.int _,?_⟩;simp only [aj,iS,if_false,bE];by_cases hx:x.a=n
  ·simp only [hx,beq_self_eq_true,if_true];refine du ?_;have:handOf rows n=x.c:=by
    unfold handOf;have:rows.flatten.find? (fun p=>p.a == n)=some x:=by
     rw [e,List.find?_append];have:pre.find? (fun p=>p.a == n)=none:=by
      rw [hW]; intro p uE; simpa using hp p uE
     rw [this];simp [hx]
    rw [this]; rfl
   rw [<-this]; exact q
  ·have:(x.a == n)=false:=by simpa using hx
   simp only [this,aj,if_false];refine oB _ _ ⟨rfl,⟨_,rfl⟩,fun p uE=>?_⟩;rcases List.mem_append.mp uE with h | h
   ·exact hp p h
   ·rw [List.mem_singleton.mp h]; exact hx
 ·rintro τ G' ⟨rfl,_,hp⟩;obtain⟨p,hp1,qK⟩:=hn;exact absurd qK (hp p hp1)
def yh(row:List T3)(i:Int):List T2:=if row=[] then [⟨i,2⟩] else row.map T3.s
def O1:Rows->Nat->List T2
 | [],_=>[]
 | r :: rs,k=>yh r (k:Int)++O1 rs (k+1)
def UK(rows:Rows):List T2:=SW (O1 rows 0)
theorem CZ{α:Type}{xs:List α}{pre post:List (α×Nat)}{x:α×Nat}(h:xs.zipIdx 0=pre++x :: post):∃ l r,xs=l++x.1 :: r/\x.2=l.length/\pre=l.zipIdx 0:=by
 have e1:xs=(pre.map (·.1))++x.1 :: post.map (·.1):=by
  have:=congrArg (List.map (·.1)) h;rw [List.zipIdx_map_fst] at this;rw [this]; simp
 have hl:pre.length < (xs.zipIdx 0).length:=by rw [h]; simp
 have hx:(xs.zipIdx 0)[pre.length]?=some x:=by rw [h]; simp
 refine⟨pre.map (·.1),post.map (·.1),e1,?_,?_⟩
 ·rw [List.getElem?_zipIdx] at hx;rw [ao];cases q:xs[pre.length]? with
  | none=>rw [q] at hx; cases hx
  | some y=>rw [q] at hx; simp at hx; rw [<-hx]
 ·have:(pre.map (·.1)).zipIdx 0=(xs.zipIdx 0).take pre.length:=by
   conv=>rhs; rw [e1,List.zipIdx_append]
   rw [Ew (by simp)];rw [OI (by simp)]
  rw [this,h]; simp
theorem acA{a b c:D}:cut [a,b,c] none (some 2)=[a,b]:=rfl
theorem M8{α:Type} [DecidableEq α] [Enc α](xs:List α)(G:Gp):vg (enc xs) G=some (xs.map enc,fun _=>True):=rfl
theorem M7{a:Nat}{ds:List D}{G:Gp}(h:G a=some (.lst ds)):vg (.ref a) G=some (ds,fun G2=>G2 a=some (.lst ds)):=by unfold vg; simp only [h]
theorem yZ{α β:Type} [DecidableEq α] [Enc α] [DecidableEq β] [Enc β]:∀ (xs:List α) (ys:List β),pK (xs.map enc) (ys.map enc)=(xs.zip ys).map fun p=>D.tup [enc p.1,enc p.2]
 | [],ys=>by simp [pK]
 | x :: xs,[]=>by simp [pK]
 | x :: xs,y :: ys=>by simp [pK,yZ xs ys]
theorem iN{κ α:Type} [DecidableEq κ] [Enc κ] [w9 κ] [DecidableEq α] [Enc α]{a:Nat}{l:List (κ×α)}{k:κ}{v:α}{G:Gp}{Q:Gp->Prop}(h:G a=some (.gK (bB l)))(hl:l.length<=1000)(q:Q (eV G a (.gK (bB (eY l k v))))):xg (.ref a) (enc k) (enc v) G Q:=by
 unfold xg;simp only [h];refine⟨nI l k,?_,by rw [KZ]; exact q⟩;unfold bB; rw [ao]; exact IG hl
def jk(r:List T3):List T3:=r.drop 1++r.take 1
def pairsOf(rows:Rows):List (T3×T3):=rows.flatMap fun r=>r.zip (jk r)
def nF(ps:List (T3×T3)):List (T2×T2):=ps.foldl (fun l p=>eY l p.1.s p.2.s) []
theorem B3(ps:List (T3×T3)):(nF ps).length<=ps.length:=by
 have:∀ (ps:List (T3×T3)) (l:List (T2×T2)),(ps.foldl (fun l p=>eY l p.1.s p.2.s) l).length<=l.length+ps.length:=by
  intro ps;induction ps with
  | nil=>intro l; simp
  | cons p ps ih =>
   intro l;rw [cJ,ak];have h1:=ih (eY l p.1.s p.2.s);have h2:=sd l p.1.s p.2.s;lia
 simpa [nF] using this ps []
theorem Jg(ps:List (T3×T3))(p:T3×T3):nF (ps++[p])=eY (nF ps) p.1.s p.2.s:=by unfold nF; rw [j4]; rfl
def nk:jU:=fun ds G Q _=>∃ rows:Rows,ds=[enc rows]/\rows.flatten.length<=500/\Q (.kW (bB (nF (pairsOf rows)))) G
theorem pairs_len(rows:Rows):(pairsOf rows).length<=rows.flatten.length:=by
 unfold pairsOf;induction rows with
 | nil=>simp
 | cons r rs ih=>simp only [cT,fE,aG,lV]; lia
def zj:hU :=
 (bZ (bM tE (aH 1))
 (bZ (ff (lu (av 0)) (aH 2) (ff (QB (av 2) (bh kB (DZ (av 2) (oD (dC (.int 1))) gE) (DZ (av 2) gE (oD (dC (.int 1)))))) (jA (cY (aH 3) (cY (aH 4) jo))) (bM (DZ (av 4) gE (oD (dC (.int 2)))) (nZ (av 1) (DZ (av 3) gE (oD (dC (.int 2))))))))
 (cu (cO (av 1)))))
theorem AQ(ds:List D)(G:Gp)(Q:DK)(h:nk ds G Q fun _ _=>False):zj (fun _ _=>False) (ends Q) (bo 5 ds) G:=by
 obtain⟨rows,rfl,hl,q⟩:=h;unfold zj;simp only [ends,bo,aq,a8,ak,aB,bg,aF,aP,cM,bM,tE,gO,aH,ar,ah];intro d hd;refine cV (fun τ G'=>(∃ a b c,τ=[some (enc rows),some (.ref d),a,b,c])/\fD G G'/\G' d=some (.gK (bB (nF (pairsOf rows))))) ?_ ?_
 ·intro N hN;simp only [ff,e9,av,aa];refine gR ?_;refine eG (xs:=rows) (fun pre τ G'=>(∃ a b c,τ=[some (enc rows),some (.ref d),a,b,c])/\fD G G'/\G' d=some (.gK (bB (nF (pairsOf pre))))) ⟨⟨_,_,_,rfl⟩,.new hd,az⟩ (fun _ _ _ _=>trivial) ?_ ?_
  ·rintro pre r post τ G' N2 e ⟨⟨a,b,c,rfl⟩,l,gd⟩ oB;have hr:pre.flatten.length+r.length<=rows.flatten.length:=by
    rw [e]; simp only [kZ,fE,aG]; lia
   simp only [aH,ff,QB,av,ar,ah,ae,aa,bh,DZ,gE,nM,dC,lh];refine wu (IsL.enc r) fun p1 h1=>?_;refine wu (IsL.enc r) fun p2 h2=>?_;have d1:d≠p1:=by rintro rfl; rw [gd] at h1; cases h1
   have l1:=l.trans (fD.new (o:=.lst (cut (r.map enc) (some 1) none)) h1);have d2:d≠p2:=by rintro rfl; rw [cL d1,gd] at h2; cases h2
   have h12:p1≠p2:=by rintro rfl; rw [az] at h2; cases h2
   refine yp (IsL.ref (by rw [cL h12,az])) (IsL.ref az) ?_ fun p3 h3=>?_
   ·rw [qh,qh,ao,ao];have e1:(cut r (some 1) none).length<=r.length:=by unfold cut; rw [dW,cB]; lia
    have e2:(cut r none (some 1)).length<=r.length:=by unfold cut; rw [dW,cB]; lia
    exact C6 (by lia)
   have d3:d≠p3:=by rintro rfl; rw [cL d2,cL d1,gd] at h3; cases h3
   have et:cut (r.map enc) (some 1) none++cut (r.map enc) none (some 1)=(jk r).map enc:=by
    rw [qh,qh,<-aM];congr 1;cases r with
    | nil=>rfl
    | cons x r=>rw [show (1:Int)=((1:Nat):Int) from rfl,vN _ _ (by simp),D3 _ _ (by simp)]; rfl
   rw [et];generalize hG3:eV (eV (eV G' p1 (.lst (cut (r.map enc) (some 1) none))) p2 (.lst (cut (r.map enc) none (some 1)))) p3 (.lst ((jk r).map enc))=G3;have g3:G3 p3=some (.lst ((jk r).map enc)):=by rw [<-hG3,az]
   have gd3:G3 d=some (.gK (bB (nF (pairsOf pre)))):=by rw [<-hG3,cL d3,cL d2,cL d1]; exact gd
   have l3:fD G G3:=by rw [<-hG3]; exact(l1.trans (.new h2)).trans (.new h3)
   unfold uf;rw [M8,M7 g3];dsimp only;rw [yZ];refine eG (xs:=r.zip (jk r)) (fun pp τ G'=>(∃ a b c,τ=[some (enc rows),some (.ref d),a,b,c])/\fD G G'/\G' d=some (.gK (bB (nF (pairsOf pre++pp))))/\G' p3=some (.lst ((jk r).map enc)))
    ⟨⟨_,_,_,rfl⟩,l3,by rw [cC]; exact gd3,g3⟩ (fun _ _ _ h=>⟨trivial,h.2.2.2⟩) ?_ ?_
   ·rintro pp x post τ G4 N3 e4 ⟨⟨a,b,c,rfl⟩,l4,gd4,gp4⟩ wR;have hz:(pairsOf pre++pp).length<=1000:=by
     have:=pairs_len pre;have h5:pp.length < (r.zip (jk r)).length:=by rw [e4]; simp
     rw [lV] at h5;rw [aG]; lia
    simp only [jA,cY,aH,jo,bM,DZ,av,ly,ar,ah,ae,aa,gE,nZ,KP,ak,aB,nM,dC,lh,acA];refine⟨by decide,by decide,?_⟩;refine iN (k:=x.1.s) (v:=x.2.s) gd4 (bz (B3 _) hz) ?_;refine wR _ _ ⟨⟨_,_,_,rfl⟩,l4.put hd,?_,by rw [cL (eD d3)]; exact gp4⟩;rw [az,<-cU,Jg]
   ·rintro τ G4 ⟨⟨a,b,c,rfl⟩,l4,gd4,gp4⟩;refine oB _ _ ⟨⟨_,_,_,rfl⟩,l4,?_⟩;have:pairsOf (pre++[r])=pairsOf pre++r.zip (jk r):=by unfold pairsOf; simp
    rw [this]; exact gd4
  ·rintro τ G' ⟨⟨a,b,c,rfl⟩,l,gd⟩;exact hN _ _ ⟨⟨_,_,_,rfl⟩,l,gd⟩
 ·rintro _ G' ⟨⟨a,b,c,rfl⟩,l,gd⟩;simp only [cu,cO,av,ae,aa];exact jB l hd gd q
def lft(s:T2):T3:=⟨s.a,s.b,0⟩
def rgt(s:T2):T3:=⟨s.a,s.b,1⟩
def V2(ss:List T2):List T3:=ss.flatMap fun s=>[lft s,rgt s]
end P
end K2
end
section
set_option maxHeartbeats 1000000
namespace K2
namespace J
def pt:Pr T3->T3->T3
 | [],e=>e
 | p :: r,e=>if e=p.1 then p.2 else if e=p.2 then p.1 else pt r e
theorem pT{P:Pr T3}{e:T3}(h:e∉es P):pt P e=e:=by
 induction P with
 | nil=>rfl
 | cons p r ih =>
  rw [es,bA,bA,not_or,not_or] at h;rw [pt,if_neg h.1,if_neg h.2.1,ih h.2.2]
theorem oN{P:Pr T3}(nd:(es P).Nodup){p:T3×T3}(h:p∈P):pt P p.1=p.2/\pt P p.2=p.1:=by
 induction P with
 | nil=>cases h
 | cons q r ih =>
  rw [es,aY,aY,bA,not_or] at nd;rcases List.mem_cons.mp h with rfl | h
  ·refine⟨by rw [pt,if_pos rfl],?_⟩;rw [pt,if_neg (fun z=>nd.1.1 z.symm),if_pos rfl]
  ·obtain⟨a,b⟩:=ih nd.2.2 h;have m1:p.1∈es r:=qa.mpr ⟨p,h,.inl rfl⟩;have m2:p.2∈es r:=qa.mpr ⟨p,h,.inr rfl⟩;have ne:∀ e∈es r,e≠q.1/\e≠q.2:=fun e he=>⟨fun z=>nd.1.2 (z ▸ he),fun z=>nd.2.1 (z ▸ he)⟩;exact⟨by rw [pt,if_neg (ne _ m1).1,if_neg (ne _ m1).2,a],by rw [pt,if_neg (ne _ m2).1,if_neg (ne _ m2).2,b]⟩
theorem Pw{P:Pr T3}(nd:(es P).Nodup){f:T3->T3}(h1:∀ p∈P,f p.1=p.2/\f p.2=p.1)(h2:∀ e,e∉es P->f e=e):pt P=f:=by
 funext e;by_cases he:e∈es P
 ·obtain⟨p,hp,z⟩:=qa.mp he;rcases z with rfl | rfl
  ·rw [(oN nd hp).1,(h1 p hp).1]
  ·rw [(oN nd hp).2,(h1 p hp).2]
 ·rw [pT he,h2 e he]
theorem S8{P P':Pr T3}(h:P.Perm P')(nd:(es P).Nodup):pt P=pt P':=by
 refine Pw nd (fun p hp=>oN ((sR h).nodup_iff.mp nd) (h.mem_iff.mp hp)) fun e he=>pT fun z=>he ((sR h).mem_iff.mpr z)
theorem Px{P:Pr T3}(nd:(es P).Nodup):Iv (pt P):=by
 intro e;by_cases he:e∈es P
 ·obtain⟨p,hp,z⟩:=qa.mp he;rcases z with rfl | rfl
  ·rw [(oN nd hp).1,(oN nd hp).2]
  ·rw [(oN nd hp).2,(oN nd hp).1]
 ·rw [pT he,pT he]
theorem UT{P:Pr T3}(nd:(es P).Nodup){p:T3×T3}(h:p∈P):p.1≠p.2:=by
 induction P with
 | nil=>cases h
 | cons q r ih =>
  rw [es,aY,aY,bA,not_or] at nd;rcases List.mem_cons.mp h with rfl | h
  ·exact nd.1.1
  ·exact ih nd.2.2 h
theorem wA{P:Pr T3}(nd:(es P).Nodup){e:T3}:pt P e≠e↔e∈es P:=by
 refine⟨fun h=>gN fun z=>h (pT z),fun he=>?_⟩;obtain⟨p,hp,z⟩:=qa.mp he;rcases z with rfl | rfl
 ·rw [(oN nd hp).1]; exact(UT nd hp).symm
 ·rw [(oN nd hp).2]; exact UT nd hp
theorem Wa{P:Pr T3}(nd:(es P).Nodup)(h:∀ e,pt P e=e):P=[]:=by
 cases P with
 | nil=>rfl
 | cons p r=>exact absurd (h p.1) (wA nd |>.mpr (by simp [es]))
structure Mg(l:List (T3×T3))(f:T3->T3):Prop where
 nd:(l.map (·.1)).Nodup
 at':∀ e,cF l e=if f e=e then none else some (f e)
theorem se{κ β:Type} [DecidableEq κ]{l:List (κ×β)}{k j:κ}:cF (l.filter fun p=>decide (p.1≠k)) j=if j=k then none else cF l j:=by
 induction l with
 | nil=>simp [cF]
 | cons p r ih =>
  unfold cF at *;rw [bK];by_cases h:p.1=k
  ·rw [if_neg (by simp [h]),ih];by_cases hj:j=k
   ·rw [if_pos hj,if_pos hj]
   ·rw [if_neg hj,if_neg hj,cq (by simp [h]; exact fun z=>hj z.symm)]
  ·rw [if_pos (by simp [h])];by_cases YY:p.1=j
   ·rw [cp (by simp [YY]),cp (by simp [YY]),if_neg (fun z=>h (YY.trans z))]
   ·rw [cq (by simp [YY]),cq (by simp [YY]),ih]
def DW(l:List (T3×T3))(k:T3):List (T3×T3):=l.filter fun p=>decide (p.1≠k)
theorem qm{κ β:Type} [DecidableEq κ]{l:List (κ×β)}{k:κ}{v:β}(h:(l.map (·.1)).Nodup):((eY l k v).map (·.1)).Nodup:=by
 unfold eY;split
 ·rw [aS];have:(l.map ((fun x:κ×β=>x.1)∘fun p=>if p.1=k then (p.1,v) else p))=l.map (·.1):=by
   refine di fun p _=>?_;show (if p.1=k then (p.1,v) else p).1=p.1;split <;> rfl
  rw [this]; exact h
 ·rename_i hk;rw [aM,cz];refine⟨h,by simp,fun a ha b hb z=>?_⟩;rw [List.map_singleton,ck] at hb;obtain⟨p,hp,e⟩:=List.mem_map.mp ha;exact hk (List.any_eq_true.mpr ⟨p,hp,by simp; rw [e,z,hb]⟩)
theorem Mg.join{l:List (T3×T3)}{f:T3->T3}(h:Mg l f)(iv:Iv f){x y:T3}(xy:x≠y)(hx:f x≠x)(hy:f y≠y) :
  cF l x=some (f x)/\cF (DW l x) y=some (f y)/\(f x=y->Mg (DW (DW l x) y) (jn f x y))/\(f x≠y->Mg (eY (eY (DW (DW l x) y) (f x) (f y)) (f y) (f x)) (jn f x y)):=by
 have a1:cF l x=some (f x):=by rw [h.at',if_neg hx]
 have a2:cF (DW l x) y=some (f y):=by unfold DW; rw [se,if_neg (fun z=>xy z.symm),h.at',if_neg hy]
 have nd2:((DW (DW l x) y).map (·.1)).Nodup:=nU (l0 _ (List.filter_sublist.trans k6)) h.nd;have d2:∀ e,cF (DW (DW l x) y) e=if e=x\/e=y then none else if f e=e then none else some (f e):=fun e=>by
  unfold DW;rw [se,se,h.at']
  grind
 have ix:=iv x;have iy:=iv y;refine⟨a1,a2,fun e=>⟨nd2,fun z=>?_⟩,fun e=>⟨qm (qm nd2),fun z=>?_⟩⟩
 ·have iz:=iv z;rw [d2];unfold jn
  grind (splits:=30)
 ·have iz:=iv z;rw [sX,sX,d2];unfold jn
  grind (splits:=30)
end J
end K2
end
section
namespace K2
namespace Y
abbrev Po:=List (Int×Int)
def ND(l:Po):Prop:=(l.map (·.1)).Nodup
def c0(l:Po)(k:Int):Int:=(cF l k).getD 0
def gz(l:Po):Po:=l.filter fun p=>p.2 != 0
def plus(a:Po)(p:Int×Int):Po:=eY a p.1 (c0 a p.1+p.2)
def tT(l m:Po):Po:=m.foldl plus l
def wF(l m:Po):Po:=gz (tT l m)
def o4(m:Po)(a:Po)(p:Int×Int):Po:=m.foldl (fun a q=>plus a (p.1+q.1,p.2 * q.2)) a
def oy(l m:Po):Po:=l.foldl (o4 m) []
def jx(l m:Po):Po:=gz (oy l m)
def lg(l:Po)(by_ f:Int):Po:=gz (l.map fun p=>(p.1+by_,p.2 * f))
def dZ(l:Po):Nat->Po
 | 0=>[(0,1)]
 | n+1=>jx (dZ l n) l
theorem lO{κ β:Type} [DecidableEq κ]{l:List (κ×β)}{k:κ}{v:β}(h:k∉l.map (·.1)):eY l k v=l++[(k,v)]:=by
 unfold eY;rw [if_neg];intro q;obtain⟨p,h1,h2⟩:=List.any_eq_true.mp q;exact h (List.mem_map.mpr ⟨p,h1,by simpa using h2⟩)
theorem AN{κ β:Type} [DecidableEq κ]{l:List (κ×β)}{k:κ}{v:β}(h:k∈l.map (·.1)):eY l k v=l.map (fun p=>if p.1=k then (p.1,v) else p):=by
 unfold eY;rw [if_pos];obtain⟨p,h1,h2⟩:=List.mem_map.mp h;exact List.any_eq_true.mpr ⟨p,h1,by simpa using h2⟩
theorem NS{κ β:Type} [DecidableEq κ](l:List (κ×β))(k:κ)(v:β):(eY l k v).map (·.1)=if k∈l.map (·.1) then l.map (·.1) else l.map (·.1)++[k]:=by
 split
 ·rename_i h;rw [AN h,aS];refine di fun p _=>?_;show (if p.1=k then (p.1,v) else p).1=p.1;split <;> rfl
 ·rename_i h;rw [lO h,aM]; rfl
theorem ND.put{l:Po}(h:ND l)(k v:Int):ND (eY l k v):=by
 unfold ND;rw [NS];split
 ·exact h
 ·rename_i hk;rw [cz];exact⟨h,by simp,fun a ha b hb=>by rw [ck] at hb; subst hb; intro z; exact hk (z ▸ ha)⟩
theorem ND.nil:ND []:=cy
theorem ND.one(k v:Int):ND [(k,v)]:=by unfold ND; simp
theorem ND.tail{p:Int×Int}{l:Po}(h:ND (p :: l)):ND l:=by unfold ND at *; rw [aq,aY] at h; exact h.2
theorem ND.head{p:Int×Int}{l:Po}(h:ND (p :: l)):p.1∉l.map (·.1):=by unfold ND at *; rw [aq,aY] at h; exact h.1
theorem ND.gz{l:Po}(h:ND l):ND (gz l):=by
 unfold ND Y.gz at *;exact nU (l0 _ k6) h
theorem sF{l:Po}(h:ND l)(p:Int×Int):ND (plus l p):=h.put _ _
theorem vF{α:Type}(f:Po->α->Po)(hf:∀ a x,ND a->ND (f a x)):∀ (xs:List α) (a:Po),ND a->ND (xs.foldl f a)
 | [],_,h=>h
 | x :: xs,a,h=>vF f hf xs _ (hf a x h)
theorem FE{l m:Po}(h:ND l):ND (tT l m):=vF _ (fun a x h=>sF h x) m l h
theorem Dj{m a:Po}(h:ND a)(p:Int×Int):ND (o4 m a p):=vF _ (fun a x h=>sF h _) m a h
theorem zA(l m:Po):ND (oy l m):=vF _ (fun a x h=>Dj h x) l [] .nil
theorem Tp{l m:Po}(h:ND l):ND (wF l m):=(FE h).gz
theorem wz(l m:Po):ND (jx l m):=(zA l m).gz
theorem E8{l:Po}(h:ND l)(b f:Int):ND (l.map fun p=>(p.1+b,p.2 * f)):=by
 unfold ND at *;rw [aS];have:(l.map ((fun x:Int×Int=>x.1)∘fun p=>(p.1+b,p.2 * f)))=(l.map (·.1)).map (· + b):=by rw [aS]; rfl
 rw [this];exact List.Pairwise.map _ (fun a c hac z=>hac (by lia)) h
theorem MQ{l:Po}(h:ND l)(b f:Int):ND (lg l b f):=(E8 h b f).gz
theorem wB(l:Po):∀ n,ND (dZ l n)
 | 0=>.one _ _
 | n+1=>wz _ _
theorem Fw(l:Po)(p:Int×Int):(plus l p).length<=l.length+1:=by unfold plus eY; split <;> simp
theorem sQ{α:Type}(f:Po->α->Po)(c:Nat)(hf:∀ a x,(f a x).length<=a.length+c):∀ (xs:List α) (a:Po),(xs.foldl f a).length<=a.length+xs.length * c
 | [],a=>by simp
 | x :: xs,a=>by
  have:=sQ f c hf xs (f a x);have:=hf a x;rw [cJ,ak,Nat.succ_mul]; lia
theorem B1(l m:Po):(tT l m).length<=l.length+m.length:=by
 have:=sQ plus 1 Fw m l;unfold tT; lia
theorem Fv(m a:Po)(p:Int×Int):(o4 m a p).length<=a.length+m.length:=by
 have:=sQ (fun a q=>plus a (p.1+q.1,p.2 * q.2)) 1 (fun a q=>Fw a _) m a;unfold o4; lia
theorem rM(l m:Po):(oy l m).length<=l.length * m.length:=by
 have:=sQ (o4 m) m.length (fun a p=>Fv m a p) l [];simpa [oy] using this
theorem wC(l:Po):(gz l).length<=l.length:=fN _ _
theorem zy(l m:Po):(jx l m).length<=l.length * m.length:=bz (wC _) (rM l m)
theorem t7(l:Po):∀ n,(dZ l n).length<=l.length ^ n
 | 0=>by simp [dZ]
 | n+1=>bz (zy _ _) (by rw [Sr]; exact kn _ (t7 l n))
def L(g:Int->Int):Po->Int
 | []=>0
 | p :: l=>p.2 * g p.1+L g l
theorem HD(g:Int->Int):∀ (l m:Po),L g (l++m)=L g l+L g m
 | [],m=>by simp [L]
 | p :: l,m=>by rw [aF,L,L,HD g l m]; lia
theorem CK{l:Po}{k:Int}(h:k∉l.map (·.1)):cF l k=none:=by
 unfold cF;have:l.find? (fun p=>decide (p.1=k))=none:=by
  rw [hW];intro p hp z;exact h (List.mem_map.mpr ⟨p,hp,by simpa using z⟩)
 rw [this]; rfl
theorem Ec{p:Int×Int}{l:Po}{k:Int}:c0 (p :: l) k=if p.1=k then p.2 else c0 l k:=by
 unfold c0 cF;rw [eQ];by_cases h:p.1=k <;> simp [h]
theorem CM(g:Int->Int)(k v:Int):∀ (l:Po),ND l->k∈l.map (·.1)->L g (l.map fun p=>if p.1=k then (p.1,v) else p)=L g l+(v - c0 l k) * g k
 | [],_,h=>by cases h
 | p :: l,hn,h=>by
  rw [aq,Ec];by_cases e:p.1=k
  ·rw [if_pos e,if_pos e,L,L];have:l.map (fun p=>if p.1=k then (p.1,v) else p)=l:=by
    conv=>rhs; rw [<-jL l]
    refine di fun q hq=>?_;rw [if_neg]; rfl;intro z; exact hn.head (by rw [e,<-z]; exact bP hq)
   rw [this];show v * g p.1+L g l=_;rw [e,Int.sub_mul]; lia
  ·rw [if_neg e,if_neg e,L,L,CM g k v l hn.tail (by
    rw [aq,bA] at h;rcases h with h | h
    ·exact absurd h.symm e
    ·exact h)]
   lia
theorem ZK(g:Int->Int){l:Po}(hn:ND l)(k v:Int):L g (eY l k v)=L g l+(v - c0 l k) * g k:=by
 by_cases h:k∈l.map (·.1)
 ·rw [AN h]; exact CM g k v l hn h
 ·rw [lO h,HD];have:c0 l k=0:=by unfold c0; rw [CK h]; rfl
  rw [this];simp [L]
theorem RQ(g:Int->Int){l:Po}(hn:ND l)(p:Int×Int):L g (plus l p)=L g l+p.2 * g p.1:=by
 unfold plus;rw [ZK g hn];congr 1;rw [show c0 l p.1+p.2 - c0 l p.1=p.2 by lia]
theorem yJ(g:Int->Int):∀ (l:Po),L g (gz l)=L g l
 | []=>rfl
 | p :: l=>by
  have ih:=yJ g l;unfold gz at *;rw [bK];by_cases h:p.2=0
  ·rw [if_neg (by simp [h]),ih,L,h]; simp
  ·rw [if_pos (by simp [h]),L,L,ih]
theorem RR(g:Int->Int):∀ (m l:Po),ND l->L g (m.foldl plus l)=L g l+L g m
 | [],l,_=>by simp [L]
 | p :: m,l,h=>by
  rw [cJ,RR g m _ (sF h p),RQ g h,L]; lia
theorem Xn(g:Int->Int){l:Po}(h:ND l)(m:Po):L g (wF l m)=L g l+L g m:=by
 unfold wF tT; rw [yJ,RR g m l h]
theorem RP(g:Int->Int)(p:Int×Int):∀ (m a:Po),ND a->L g (o4 m a p)=L g a+p.2 * L (fun j=>g (p.1+j)) m
 | [],a,_=>by simp [o4,L]
 | q :: m,a,h=>by
  have ih:=RP g p m (plus a (p.1+q.1,p.2 * q.2)) (sF h _);unfold o4 at *;rw [cJ,ih,RQ g h,L,Ir];show L g a+p.2 * q.2 * g (p.1+q.1)+_=_;rw [Int.mul_assoc]; lia
theorem HC(g:Int->Int)(l m:Po):L g (jx l m)=L (fun i=>L (fun j=>g (i+j)) m) l:=by
 unfold jx oy;rw [yJ];have:∀ (l a:Po),ND a->L g (l.foldl (o4 m) a)=L g a+L (fun i=>L (fun j=>g (i+j)) m) l:=by
  intro l;induction l with
  | nil=>intro a _; simp [L]
  | cons p l ih =>
   intro a h;rw [cJ,ih _ (Dj h p),RP g p m a h,L]; lia
 rw [this l [] .nil]; simp [L]
theorem xM(g:Int->Int)(b f:Int):∀ (l:Po),L g (l.map fun p=>(p.1+b,p.2 * f))=f * L (fun i=>g (i+b)) l
 | []=>by simp [L]
 | p :: l=>by
  rw [aq,L,xM g b f l,L,Ir];congr 1;show p.2 * f * g (p.1+b)=f * (p.2 * g (p.1+b));rw [Int.mul_comm p.2 f,Int.mul_assoc]
theorem RO(g:Int->Int)(b f:Int)(l:Po):L g (lg l b f)=f * L (fun i=>g (i+b)) l:=by
 unfold lg; rw [yJ,xM]
theorem VB(g h:Int->Int):∀ (l:Po),L (fun i=>g i+h i) l=L g l+L h l
 | []=>rfl
 | p :: l=>by rw [L,L,L,VB g h l,Ir]; lia
theorem Rz{l:Po}{k:Int}(h:k∉l.map (·.1)):c0 l k=0:=by unfold c0; rw [CK h]; rfl
theorem Mc{l:Po}(hn:ND l)(k:Int):L (fun i=>if i=k then 1 else 0) l=c0 l k:=by
 induction l with
 | nil=>rfl
 | cons p l ih =>
  rw [L,ih hn.tail,Ec];by_cases h:p.1=k
  ·have:c0 l k=0:=Rz (h ▸ hn.head);simp [h,this]
  ·simp [h]
def NZ(l:Po):Prop:=∀ p∈l,p.2≠0
theorem FD(l:Po):NZ (gz l):=fun p h=>by
 have:=(List.mem_filter.mp h).2;simpa using this
theorem AO{l:Po}(hn:ND l){p:Int×Int}(h:p∈l):cF l p.1=some p.2:=by
 induction l with
 | nil=>cases h
 | cons q l ih =>
  unfold cF;rw [eQ];rcases List.mem_cons.mp h with rfl | h
  ·simp
  ·have:q.1≠p.1:=fun z=>hn.head (by rw [z]; exact bP h);simp only [this,decide_false];exact ih hn.tail h
theorem RA{l:Po}(hn:ND l){p:Int×Int}(h:p∈l):c0 l p.1=p.2:=by unfold c0; rw [AO hn h]; rfl
theorem P5{l:Po}{k:Int}(h:c0 l k≠0):(k,c0 l k)∈l:=by
 unfold c0 at *;unfold cF at *;cases q:l.find? (fun p=>decide (p.1=k)) with
 | none=>rw [q] at h; exact absurd rfl h
 | some p =>
  have h1:=vZ q;have h2:=kQ q;simp at h1;simp only [uA,tf];rw [<-h1]; exact h2
theorem iO:∀ (xs ys:List Int),xs.Nodup->(∀ x∈xs,x∈ys)->xs.length<=ys.length
 | [],_,_,_=>cw _
 | x :: xs,ys,hn,h=>by
  rw [aY] at hn;have:=iO xs (ys.erase x) hn.2 fun y hy=>(Sy (show y≠x from fun z=>hn.1 (by rw [<-z]; exact hy))).mpr (h y (aL _ hy));have hx:=h x (by simp);rw [Mq hx] at this;have:=OJ hx;rw [ak]; lia
theorem sub_len{l m:Po}(hl:ND l)(zl:NZ l)(h:∀ k,c0 l k=c0 m k):l.length<=m.length:=by
 have:=iO (l.map fun p:Int×Int=>p.1) (m.map fun p:Int×Int=>p.1) hl fun k hk=>by
  obtain⟨p,hp,rfl⟩:=List.mem_map.mp hk;have h1:c0 m p.1≠0:=by rw [<-h,RA hl hp]; exact zl p hp
  exact bP (f:=(·.1)) (P5 h1)
 simpa using this
theorem Ua{l m:Po}(hl:ND l)(hm:ND m)(zl:NZ l)(zm:NZ m)(h:∀ k,c0 l k=c0 m k):xX l m=true:=by
 unfold xX;rw [aI];refine⟨?_,List.all_eq_true.mpr fun p hp=>?_⟩
 ·have h1:=sub_len hl zl h;have h2:=sub_len hm zm fun k=>(h k).symm;simpa using Nat.le_antisymm h1 h2
 ·have h1:c0 m p.1=p.2:=by rw [<-h,RA hl hp]
  have h2:c0 m p.1≠0:=by rw [h1]; exact zl p hp
  have:=AO hm (P5 h2);rw [h1] at this;simp only at this;rw [this]; simp
theorem AA{l m:Po}(hl:ND l)(hm:ND m)(zl:NZ l)(zm:NZ m)(h:∀ g,L g l=L g m):xX l m=true :=
 Ua hl hm zl zm fun k=>by rw [<-Mc hl,<-Mc hm,h]
def fJ:Po->Nat
 | []=>0
 | p :: l=>p.2.natAbs+fJ l
theorem zH:∀ (l m:Po),fJ (l++m)=fJ l+fJ m
 | [],m=>by simp [fJ]
 | p :: l,m=>by rw [aF,fJ,fJ,zH l m]; lia
theorem Du{l:Po}{p:Int×Int}(h:p∈l):p.2.natAbs<=fJ l:=by
 induction l with
 | nil=>cases h
 | cons q l ih =>
  rw [fJ];rcases List.mem_cons.mp h with rfl | h
  ·lia
  ·have:=ih h; lia
theorem xx(k v:Int):∀ (l:Po),ND l->k∈l.map (·.1)->fJ (l.map fun p=>if p.1=k then (p.1,v) else p)+(c0 l k).natAbs=fJ l+v.natAbs
 | [],_,h=>by cases h
 | p :: l,hn,h=>by
  rw [aq,Ec];by_cases e:p.1=k
  ·rw [if_pos e,if_pos e,fJ,fJ];have:l.map (fun p=>if p.1=k then (p.1,v) else p)=l:=by
    conv=>rhs; rw [<-jL l]
    refine di fun q hq=>?_;rw [if_neg]; rfl;intro z; exact hn.head (by rw [e,<-z]; exact bP hq)
   rw [this];show v.natAbs+fJ l+_=_;lia
  ·have:=xx k v l hn.tail (by
    rw [aq,bA] at h;rcases h with h | h
    ·exact absurd h.symm e
    ·exact h)
   rw [if_neg e,if_neg e,fJ,fJ];lia
theorem FI{l:Po}(hn:ND l)(p:Int×Int):fJ (plus l p)<=fJ l+p.2.natAbs:=by
 unfold plus;by_cases h:p.1∈l.map (·.1)
 ·rw [AN h];have:=xx p.1 (c0 l p.1+p.2) l hn h;have:=Int.natAbs_add_le (c0 l p.1) p.2;lia
 ·rw [lO h,zH,Rz h];simp [fJ]
theorem wG(l:Po):fJ (gz l)<=fJ l:=by
 induction l with
 | nil=>exact aC _
 | cons p l ih =>
  unfold gz at *;rw [bK];split
  ·rw [fJ,fJ]; lia
  ·rw [fJ]; lia
theorem FH(p:Int×Int):∀ (m a:Po),ND a->fJ (o4 m a p)<=fJ a+p.2.natAbs * fJ m
 | [],a,_=>by simp [o4,fJ]
 | q :: m,a,h=>by
  have ih:=FH p m (plus a (p.1+q.1,p.2 * q.2)) (sF h _);have:=FI h (p.1+q.1,p.2 * q.2);unfold o4 at *;rw [cJ,fJ,Nat.mul_add];have e:(p.2 * q.2).natAbs=p.2.natAbs * q.2.natAbs:=Int.natAbs_mul _ _;simp only at this;lia
theorem t9(l m:Po):fJ (jx l m)<=fJ l * fJ m:=by
 refine bz (wG _) ?_;unfold oy;have:∀ (l a:Po),ND a->fJ (l.foldl (o4 m) a)<=fJ a+fJ l * fJ m:=by
  intro l;induction l with
  | nil=>intro a _; simp [fJ]
  | cons p l ih =>
   intro a h;rw [cJ];have h1:=ih _ (Dj (m:=m) h p);have h2:=FH p m a h;rw [fJ,Nat.add_mul]; lia
 have:=this l [] .nil;simpa [fJ] using this
theorem pW(l:Po):∀ n,fJ (dZ l n)<=fJ l ^ n
 | 0=>by simp [dZ,fJ]
 | n+1=>bz (t9 _ _) (by rw [Sr]; exact kn _ (pW l n))
theorem FJ:∀ (m l:Po),ND l->fJ (m.foldl plus l)<=fJ l+fJ m
 | [],l,_=>by simp [fJ]
 | p :: m,l,h=>by
  have h1:=FJ m _ (sF h p);have h2:=FI h p;rw [cJ,fJ]; lia
theorem PT{l:Po}(h:ND l)(m:Po):fJ (wF l m)<=fJ l+fJ m:=bz (wG _) (FJ m l h)
theorem MT(l:Po):∀ n,NZ (dZ l n)
 | 0=>fun p h=>by
  simp only [dZ,ck] at h;subst h; decide
 | n+1=>FD _
end Y
end K2
end
section
namespace K2
open PySem (Str)
open Enc (enc)
class Eu (α:Type) [DecidableEq α] [Enc α] [aT α] where
 mn:∀ {x:D} {G:Gp} {xs:List α} {Q:DK},itemsOf x G=some (xs.map enc)->xs≠[]->(∀ m∈xs,(∀ y∈xs,Gh m y=true)->Q (enc m) G)->Rv [x] G Q
theorem j0{α:Type} [DecidableEq α] [Enc α] [aT α]:∀ (r:List α) (a:α),r.foldl (fun m x=>if aT.lt x m=true then x else m) a∈a :: r/\∀ y∈a :: r,Gh (r.foldl (fun m x=>if aT.lt x m=true then x else m) a) y=true
 | [],a=>⟨by simp,fun y hy=>by rw [List.mem_singleton.mp hy]; unfold Gh; rw [List.foldl_nil,aT.HV]; rfl⟩
 | b :: r,a=>by
  rw [cJ];by_cases c:aT.lt b a=true
  ·rw [if_pos c];obtain⟨h1,h2⟩:=j0 r b;refine⟨aL _ h1,fun y hy=>?_⟩;rcases List.mem_cons.mp hy with rfl | hy
   ·refine Cb _ _ _ (h2 b (by simp)) ?_;unfold Gh;cases q:aT.lt y b with
    | false=>rfl
    | true=>have:=aT.trans _ _ _ q c; rw [aT.HV] at this; cases this
   ·exact h2 y hy
  ·rw [if_neg c];obtain⟨h1,h2⟩:=j0 r a;refine⟨?_,fun y hy=>?_⟩
   ·rcases List.mem_cons.mp h1 with h | h
    ·rw [h]; simp
    ·exact aL _ (aL _ h)
   ·rcases List.mem_cons.mp hy with rfl | hy
    ·exact h2 y (by simp)
    ·rcases List.mem_cons.mp hy with rfl | hy
     ·refine Cb _ _ _ (h2 a (by simp)) ?_;unfold Gh; simpa using c
     ·exact h2 y (aL _ hy)
instance:Eu Int where
 mn:=by
  intro x G xs Q hi oW k;cases xs with
  | nil=>exact absurd rfl oW
  | cons a r =>
   obtain⟨h1,h2⟩:=j0 r a;refine .inl ⟨a :: r,_,hi,rfl,?_⟩;have:(fun (m x:Int)=>if x < m then x else m)=fun m x=>if aT.lt x m=true then x else m:=by
    funext m x;show (if x < m then x else m)=if decide (x < m)=true then x else m
    simp
   show Q (enc (r.foldl (fun m x=>if x < m then x else m) a)) G;rw [this];exact k _ h1 h2
theorem ub:∀ (x y:List Int),qI (fun a b=>decide (a < b)) x y=lexLt x y
 | [],[]=>rfl
 | [],_ :: _=>rfl
 | _ :: _,[]=>rfl
 | a :: x,b :: y=>by simp only [wM,lexLt,ub x y]
instance:Eu T3 where
 mn:=by
  intro x G xs Q hi oW k;cases xs with
  | nil=>exact absurd rfl oW
  | cons a r =>
   obtain⟨h1,h2⟩:=j0 r a;have ei:itemsOf x G=some (((a :: r).map T3.l).map tI):=by rw [hi,aS]; rfl
   refine .inr ⟨(a :: r).map T3.l,_,ei,rfl,?_⟩;have:∀ (r:List T3) (a:T3),(r.map T3.l).foldl (fun m x=>if lexLt x m=true then x else m) a.l=(r.foldl (fun m x=>if aT.lt x m=true then x else m) a).l:=by
    intro r;induction r with
    | nil=>intro a; rfl
    | cons b r ih =>
     intro a;rw [aq,cJ,cJ];have e:(if lexLt b.l a.l=true then b.l else a.l)=(if aT.lt b a=true then b else a).l:=by
      have:aT.lt b a=lexLt b.l a.l:=ub _ _;rw [this];split <;> rfl
     rw [e]; exact ih _
   rw [this r a];exact k _ h1 h2
namespace P
theorem lO{κ β:Type} [DecidableEq κ]{l:List (κ×β)}{k:κ}{v:β}(h:k∉l.map (·.1)):eY l k v=l++[(k,v)]:=by
 unfold eY;rw [if_neg];intro q;obtain⟨p,h1,h2⟩:=List.any_eq_true.mp q;exact h (List.mem_map.mpr ⟨p,h1,by simpa using h2⟩)
theorem GF{κ β γ:Type} [DecidableEq κ](kf:γ->κ)(vf:γ->β):∀ (ps:List γ) (l:List (κ×β)),(l.map (·.1)++ps.map kf).Nodup->ps.foldl (fun l p=>eY l (kf p) (vf p)) l=l++ps.map fun p=>(kf p,vf p)
 | [],l,_=>by simp
 | p :: ps,l,h=>by
  rw [cJ,lO (fun z=>by
   rw [aq,cz] at h;exact h.2.2 _ z _ (by simp) rfl),GF kf vf ps _ (by simpa using h)]
  simp
theorem xc(r:List T3):(jk r).length=r.length:=by unfold jk; rw [aG,cB,dW]; lia
theorem C3(r:List T3):(jk r).Perm r:=by
 unfold jk;exact List.perm_append_comm.trans (by rw [dS])
theorem o8(rows:Rows):(pairsOf rows).map (·.1)=rows.flatten:=by
 unfold pairsOf;induction rows with
 | nil=>rfl
 | cons r rs ih =>
  rw [cT,aM,ih,fE];congr 1;rw [List.map_fst_zip]; rw [xc]; exact aC _
theorem o7(rows:Rows):((pairsOf rows).map (·.2)).Perm rows.flatten:=by
 unfold pairsOf;induction rows with
 | nil=>exact .refl _
 | cons r rs ih =>
  rw [cT,aM,fE];refine yW ?_ ih;rw [List.map_snd_zip]
  ·exact C3 r
  ·rw [xc]; exact aC _
variable {rows:Rows}
theorem QX(d:Dr rows):((pairsOf rows).map fun p=>p.1.s).Nodup:=by
 have:((pairsOf rows).map fun p=>p.1.s)=rows.flatten.map T3.s:=by rw [<-o8,aS]; rfl
 rw [this]; exact d.nd
theorem V0(d:Dr rows):((pairsOf rows).map fun p=>p.2.s).Nodup:=by
 have:((pairsOf rows).map fun p=>p.2.s)=((pairsOf rows).map (·.2)).map T3.s:=by rw [aS]; rfl
 rw [this,((o7 rows).map T3.s).nodup_iff]; exact d.nd
theorem P2(d:Dr rows):nF (pairsOf rows)=(pairsOf rows).map fun p=>(p.1.s,p.2.s):=by
 unfold nF;rw [GF (fun p:T3×T3=>p.1.s) (fun p=>p.2.s) _ _ (by simpa using QX d)]; rfl
def ZX(rows:Rows)(s:T2):T3:=(rows.flatten.find? fun p=>decide (p.s=s)).getD ⟨0,0,0⟩
def nxt(rows:Rows)(s:T2):T2:=(cF ((pairsOf rows).map fun p=>(p.1.s,p.2.s)) s).getD s
def cmg(rows:Rows)(s:T2):T2:=(cF ((pairsOf rows).map fun p=>(p.2.s,p.1.s)) s).getD s
def mt(p:T3):T2:=⟨p.a,1 - p.b⟩
def fst(p:T3):Bool:=decide (p.b=0) == decide (p.c=1)
theorem Lb(d:Dr rows){p:T3}(h:p∈rows.flatten):ZX rows p.s=p:=by
 unfold ZX;cases q:rows.flatten.find? (fun x=>decide (x.s=p.s)) with
 | none=>rw [hW] at q; exact absurd (by simp) (q p h)
 | some x =>
  have h1:=vZ q;have h2:=kQ q;have h1:x.s=p.s:=by simpa using h1
  have:∀ (L:List T3),(L.map T3.s).Nodup->x∈L->p∈L->x=p:=by
   intro L;induction L with
   | nil=>intro _ h; cases h
   | cons y L ih =>
    intro hn hx hp;rw [aq,aY] at hn;rcases List.mem_cons.mp hx with e1 | Z5
    ·rcases List.mem_cons.mp hp with e2 | qK
     ·rw [e1,e2]
     ·exact absurd (by rw [<-e1,h1]; exact bP qK) hn.1
    ·rcases List.mem_cons.mp hp with e2 | qK
     ·exact absurd (by rw [<-e2,<-h1]; exact bP Z5) hn.1
     ·exact ih hn.2 Z5 qK
  exact this _ d.nd h2 h
theorem QR{p:T3}(h:p∈rows.flatten):∃ q,(p,q)∈pairsOf rows/\q∈rows.flatten:=by
 rw [<-o8] at h;obtain⟨x,hx,rfl⟩:=List.mem_map.mp h;exact⟨x.2,hx,(o7 rows).mem_iff.mp (bP hx)⟩
theorem QQ{q:T3}(h:q∈rows.flatten):∃ p,(p,q)∈pairsOf rows/\p∈rows.flatten:=by
 rw [<-(o7 rows).mem_iff] at h;obtain⟨x,hx,rfl⟩:=List.mem_map.mp h;exact⟨x.1,hx,by rw [<-o8]; exact bP hx⟩
def om(p:T3):T3:=⟨p.a,1 - p.b,p.c⟩
theorem Yv(d:Dr rows){p:T3}(h:p∈rows.flatten):om p∈rows.flatten:=d.Jk p h
def step(rows:Rows)(x:T3):T3 :=
 if x.b=2 then x else
 let al:=decide (x.c=0)
 let p:=if al=true then ZX rows (nxt rows x.s) else ZX rows x.s
 if (fst p == al)=true then lft (mt p) else rgt (cmg rows (mt p))
theorem o9{n:Int}:n∈names rows↔∃ p∈rows.flatten,p.b=0/\p.a=n:=by
 unfold names;rw [SV,List.mem_map];constructor
 ·rintro⟨p,h,rfl⟩;obtain⟨h1,h2⟩:=List.mem_filter.mp h;exact⟨p,h1,by simpa using h2,rfl⟩
 ·rintro⟨p,h1,h2,rfl⟩;exact⟨p,List.mem_filter.mpr ⟨h1,by simpa using h2⟩,rfl⟩
theorem Lz(d:Dr rows){p:T3}(h:p∈rows.flatten):handOf rows p.a=p.c:=by
 unfold handOf;cases q:rows.flatten.find? (fun x=>x.a == p.a) with
 | none=>rw [hW] at q; exact absurd (by simp) (q p h)
 | some x =>
  have h1:x.a=p.a:=by simpa using vZ q
  have h2:=kQ q;show x.c=p.c;have hw:=d.way p h;have Z7:=d.way x h2;by_cases e:x.b=p.b
  ·have:x.s=p.s:=by unfold T3.s; rw [h1,e]
   have e1:=Lb d h2;rw [this,Lb d h] at e1;rw [e1]
  ·have:(om x).s=p.s:=by unfold T3.s om; rw [h1]; congr 1; dsimp only; lia
   have e1:=Lb d (Yv d h2);rw [this,Lb d h] at e1;rw [e1]; rfl
end P
end K2
end
section
set_option maxHeartbeats 1000000
namespace K2
open Enc (enc)
instance {α β:Type} [DecidableEq α] [Enc α] [aT α] [DecidableEq β] [Enc β] [aT β]:aT (α×β) where
 lt:=fun x y=>if x.1=y.1 then aT.lt x.2 y.2 else aT.lt x.1 y.1
 Bk:=.tup [aT.Bk α,aT.Bk β]
 Ah:=fun x=>by
  show (cK _ (enc x.1)&&(cK _ (enc x.2)&&true))=true;rw [aT.Ah,aT.Ah]; rfl
 Sb:=fun x y=>by
  show mL [enc x.1,enc x.2] [enc y.1,enc y.2]=_;rw [nG,nG,Enc.eqv,Enc.eqv,aT.Sb,aT.Sb,show mL [] []=false from rfl];by_cases h:x.1=y.1
  ·simp only [h,decide_true,if_true];by_cases h2:x.2=y.2
   ·simp only [h2,decide_true,if_true]; exact(aT.HV _).symm
   ·simp only [h2,decide_false,aj,if_false]
  ·simp only [h,decide_false,aj,if_false]
 HV:=fun x=>by simp only [if_true]; exact aT.HV _
 trans:=fun x y z h1 h2=>by
  by_cases e1:x.1=y.1
  ·rw [if_pos e1] at h1;by_cases e2:y.1=z.1
   ·rw [if_pos e2] at h2;rw [if_pos (e1.trans e2)];exact aT.trans _ _ _ h1 h2
   ·rw [if_neg e2] at h2;rw [if_neg (fun q=>e2 (e1.symm.trans q)),e1]; exact h2
  ·rw [if_neg e1] at h1;by_cases e2:y.1=z.1
   ·rw [if_neg (fun q=>e1 (q.trans e2.symm)),<-e2]; exact h1
   ·rw [if_neg e2] at h2;have h3:=aT.trans _ _ _ h1 h2;rw [if_neg (fun q=>by rw [q,aT.HV] at h3; cases h3)]; exact h3
 nW:=fun x y h1 h2=>by
  by_cases e1:x.1=y.1
  ·rw [if_pos e1] at h1;rw [if_pos e1.symm] at h2;exact Prod.ext e1 (aT.nW _ _ h1 h2)
  ·rw [if_neg e1] at h1;rw [if_neg (fun q=>e1 q.symm)] at h2;exact absurd (aT.nW _ _ h1 h2) e1
namespace J
def MV(l:List (T3×T3)):Pr T3:=SW (l.filter fun p=>aT.lt p.1 p.2)
theorem zP{κ β:Type} [DecidableEq κ]:∀ {l:List (κ×β)},(l.map (·.1)).Nodup->∀ {p:κ×β},p∈l->cF l p.1=some p.2
 | [],_,_,h=>by cases h
 | q :: l,nd,p,h=>by
  rw [aq,aY] at nd;unfold cF;rcases List.mem_cons.mp h with rfl | h
  ·rw [cp (by simp)]; rfl
  ·have:¬ q.1=p.1:=fun z=>nd.1 (by rw [z]; exact bP h);rw [cq (by simpa using this)];exact zP nd.2 h
theorem Ej{κ β:Type} [DecidableEq κ]{l:List (κ×β)}{k:κ}{v:β}(h:cF l k=some v):(k,v)∈l:=by
 unfold cF at h;obtain⟨p,h1,h2⟩:=Option.map_eq_some_iff.mp h;have h3:=vZ h1;have h4:=kQ h1;simp at h3;rw [<-h3,<-h2]; exact h4
theorem Mg.mem{l:List (T3×T3)}{f:T3->T3}(h:Mg l f){p:T3×T3}(hp:p∈l):f p.1=p.2/\f p.1≠p.1:=by
 have a:=zP h.nd hp;rw [h.at'] at a;split at a
 ·cases a
 ·rename_i z; exact⟨ba a,z⟩
theorem TM{α:Type} [DecidableEq α] [Enc α] [aT α]{a b:α}(h1:aT.lt a b=true)(h2:aT.lt b a=true):False:=by
 have:=aT.trans _ _ _ h1 h2;rw [aT.HV] at this; cases this
theorem LK{f:T3->T3}(iv:Iv f):∀ {l:List (T3×T3)},(l.map (·.1)).Nodup->(∀ p∈l,f p.1=p.2)->(es (l.filter fun p=>aT.lt p.1 p.2)).Nodup
 | [],_,_=>cy
 | p :: l,nd,h=>by
  rw [aq,aY] at nd;have ih:=LK iv nd.2 fun q hq=>h q (aL _ hq);rw [bK];split
  ·rename_i hl;have fp:=h p (by simp);rw [es,aY,aY,bA,not_or];have out:∀ q∈l.filter (fun p=>aT.lt p.1 p.2),p.1≠q.1/\p.1≠q.2/\p.2≠q.1/\p.2≠q.2:=fun q hq=>by
    have Vd:=List.mem_filter.mp hq;have fq:=h q (aL _ Vd.1);have n1:p.1≠q.1:=fun z=>nd.1 (by rw [z]; exact bP Vd.1);have n2:p.1=q.2->p.2=q.1:=fun z=>by rw [<-fp,z,<-fq,iv]
    have n3:p.2=q.1->p.1=q.2:=fun z=>by rw [<-fq,<-z,<-fp,iv]
    have Vs:¬ (p.1=q.2/\p.2=q.1):=fun ⟨a,b⟩=>TM hl (by rw [a,b]; exact Vd.2);refine⟨n1,fun z=>Vs ⟨z,n2 z⟩,fun z=>Vs ⟨n3 z,z⟩,fun z=>n1 ?_⟩;have:=congrArg f z;rw [<-fp,<-fq,iv,iv] at this;exact this
   have ne:p.1≠p.2:=fun z=>by rw [z,aT.HV] at hl; cases hl
   refine⟨⟨ne,fun z=>?_⟩,fun z=>?_,ih⟩
   ·obtain⟨q,hq,e⟩:=qa.mp z;rcases e with e | e
    ·exact(out q hq).1 e
    ·exact(out q hq).2.1 e
   ·obtain⟨q,hq,e⟩:=qa.mp z;rcases e with e | e
    ·exact(out q hq).2.2.1 e
    ·exact(out q hq).2.2.2 e
  ·exact ih
theorem K4{l:List (T3×T3)}{f:T3->T3}(h:Mg l f)(iv:Iv f):(es (MV l)).Nodup/\pt (MV l)=f:=by
 have sp:=uM (l.filter fun p=>aT.lt p.1 p.2);have nd0:=LK iv h.nd fun p hp=>(h.mem hp).1;have nd:(es (MV l)).Nodup:=(sR sp).nodup_iff.mpr nd0;refine⟨nd,Pw nd (fun p hp=>?_) fun e he=>?_⟩
 ·have uE:=(List.mem_filter.mp (sp.mem_iff.mp hp)).1;have:=(h.mem uE).1;exact⟨this,by rw [<-this,iv]⟩
 ·refine gN fun z=>he ?_;have a1:cF l e=some (f e):=by rw [h.at',if_neg z]
  have z2:f (f e)≠f e:=fun q=>z (by rw [iv] at q; exact q.symm);have a2:cF l (f e)=some e:=by rw [h.at',if_neg z2,iv]
  have m1:=Ej a1;have m2:=Ej a2;rw [qa];by_cases hl:aT.lt e (f e)=true
  ·exact⟨(e,f e),sp.mem_iff.mpr (List.mem_filter.mpr ⟨m1,hl⟩),.inl rfl⟩
  ·by_cases xE:aT.lt (f e) e=true
   ·exact⟨(f e,e),sp.mem_iff.mpr (List.mem_filter.mpr ⟨m2,xE⟩),.inr rfl⟩
   ·exact absurd (aT.nW _ _ (by simpa using xE) (by simpa using hl)) z
def JN(P:Pr T3):List (T3×T3):=P.foldl (fun l p=>eY (eY l p.1 p.2) p.2 p.1) []
theorem LJ:∀ {P:Pr T3},(es P).Nodup->Mg (JN P) (pt P):=by
 have main:∀ (P:Pr T3) (l:List (T3×T3)) (f:T3->T3),Mg l f->(es P).Nodup->(∀ e∈es P,f e=e)->Mg (P.foldl (fun l p=>eY (eY l p.1 p.2) p.2 p.1) l) (fun e=>if e∈es P then pt P e else f e):=by
  intro P;induction P with
  | nil =>
   intro l f h _ _;have:(fun e=>if e∈es ([]:Pr T3) then pt [] e else f e)=f:=by funext e; simp [es]
   rw [this]; exact h
  | cons p P ih =>
   intro l f h nd hf;rw [es,aY,aY,bA,not_or] at nd;have f1:f p.1=p.1:=hf _ (by simp [es]);have f2:f p.2=p.2:=hf _ (by simp [es]);have h2:Mg (eY (eY l p.1 p.2) p.2 p.1) (fun e=>if e=p.1 then p.2 else if e=p.2 then p.1 else f e):=by
    refine⟨qm (qm h.nd),fun e=>?_⟩;rw [sX,sX,h.at'];have:=nd.1.1
    grind
   have:=ih _ _ h2 nd.2.2 fun e he=>by
    have m1:e≠p.1:=fun z=>nd.1.2 (z ▸ he);have m2:e≠p.2:=fun z=>nd.2.1 (z ▸ he);simp only [if_neg m1,if_neg m2];exact hf e (by simp [es,he])
   rw [cJ];have e2:(fun e=>if e∈es (p :: P) then pt (p :: P) e else f e)=fun e=>if e∈es P then pt P e else if e=p.1 then p.2 else if e=p.2 then p.1 else f e:=by
    funext e;rw [es,pt];by_cases he:e∈es P
    ·have m1:e≠p.1:=fun z=>nd.1.2 (z ▸ he);have m2:e≠p.2:=fun z=>nd.2.1 (z ▸ he);rw [if_pos (by simp [he]),if_neg m1,if_neg m2,if_pos he]
    ·rw [if_neg he];by_cases m1:e=p.1
     ·rw [if_pos (by simp [m1]),if_pos m1,if_pos m1]
     ·by_cases m2:e=p.2
      ·rw [if_pos (by simp [m2]),if_neg m1,if_pos m2,if_neg m1,if_pos m2]
      ·rw [if_neg (by simp [m1,m2,he]),if_neg m1,if_neg m2]
   rw [e2]; exact this
 intro P nd;have:=main P [] (fun e=>e) ⟨cy,fun e=>by simp [cF]⟩ nd (fun _ _=>rfl);have e2:(fun e=>if e∈es P then pt P e else e)=pt P:=by
  funext e;by_cases he:e∈es P
  ·rw [if_pos he]
  ·rw [if_neg he,pT he]
 rw [e2] at this; exact this
theorem LH(P:Pr T3):(JN P).length<=2 * P.length:=by
 have:∀ (P:Pr T3) (l:List (T3×T3)),(P.foldl (fun l p=>eY (eY l p.1 p.2) p.2 p.1) l).length<=l.length+2 * P.length:=by
  intro P;induction P with
  | nil=>intro l; simp
  | cons p P ih =>
   intro l;have h1:=ih (eY (eY l p.1 p.2) p.2 p.1);have h2:=sd (eY l p.1 p.2) p.2 p.1;have h3:=sd l p.1 p.2;rw [cJ,ak]; lia
 have:=this P [];simpa [JN] using this
end J
end K2
end
section
set_option maxHeartbeats 1000000
namespace K2
open Enc (enc)
namespace J
open Y (Po L ND NZ fJ wF jx lg dZ)
def oK(P:Pr T3):PK:=P.map fun p=>[p.1.l,p.2.l]
def acz:List (List Int)->T3×T3
 | [[a,b,c],[x,y,z]]=>(⟨a,b,c⟩,⟨x,y,z⟩)
 | _=>(⟨0,0,0⟩,⟨0,0,0⟩)
def dec(k:PK):Pr T3:=k.map acz
theorem JV(P:Pr T3):dec (oK P)=P:=by
 unfold dec oK;rw [aS]
 conv=>rhs; rw [<-jL P]
 rfl
theorem PD(P:Pr T3):qu (oK P)=.tup (P.map enc):=by
 unfold qu oK;rw [aS];rfl
abbrev Su:=List (PK×Po)
def iW(S:Su):List (PK×D):=S.map fun p=>(p.1,D.kW (bB p.2))
theorem B9(S:Su)(k:PK):qw (iW S) k=(cF S k).map fun l=>D.kW (bB l):=by
 unfold qw cF iW;rw [List.find?_map,Option.map_map,Option.map_map];rfl
theorem Pu(S:Su)(k:PK)(l:Po):MP (iW S) k (.kW (bB l))=iW (eY S k l):=by
 unfold MP eY iW;rw [List.any_map];split
 ·rename_i h;rw [if_pos (by simpa [R3] using h),aS,aS];refine di fun p _=>?_;simp only [Function.comp];split <;> rfl
 ·rename_i h;rw [if_neg (by simpa [R3] using h),aM]; rfl
def nW(ns:List (Int×Int))(g:Fn):Su->Int
 | []=>0
 | p :: S=>L (fun j=>Br (pt (dec p.1)) ns (sh j g)) p.2+nW ns g S
theorem KC(ns:List (Int×Int))(g:Fn)(S S':Su):nW ns g (S++S')=nW ns g S+nW ns g S':=by
 induction S with
 | nil=>simp [nW]
 | cons p S ih=>rw [aF,nW,nW,ih]; lia
theorem SO(ns:List (Int×Int))(g:Fn)(k:PK)(l:Po):∀ {S:Su},(S.map (·.1)).Nodup->nW ns g (eY S k l)=nW ns g S+(L (fun j=>Br (pt (dec k)) ns (sh j g)) l - L (fun j=>Br (pt (dec k)) ns (sh j g)) ((cF S k).getD []))
 | S,nd=>by
  unfold eY;split
  ·rename_i h;have main:∀ {S:Su},(S.map (·.1)).Nodup->(S.any fun p=>decide (p.1=k))=true->nW ns g (S.map fun p=>if p.1=k then (p.1,l) else p)=nW ns g S+(L (fun j=>Br (pt (dec k)) ns (sh j g)) l - L (fun j=>Br (pt (dec k)) ns (sh j g)) ((cF S k).getD [])):=by
    intro S;induction S with
    | nil=>intro _ h; cases h
    | cons p S ih =>
     intro nd h;rw [aq,aY] at nd;rw [aq,nW,nW];by_cases e:p.1=k
     ·have e2:(S.map fun p=>if p.1=k then (p.1,l) else p)=S:=by
       conv=>rhs; rw [<-jL S]
       refine di fun q hq=>?_;rw [if_neg]; rfl;intro z; exact nd.1 (by rw [e,<-z]; exact bP hq)
      have e3:cF (p :: S) k=some p.2:=by unfold cF; rw [cp (by simpa using e)]; rfl
      rw [e2,e3,if_pos e,e];simp only [tf];lia
     ·have e3:cF (p :: S) k=cF S k:=by unfold cF; rw [cq (by simpa using e)]
      rw [e3,if_neg e,ih nd.2 (by simpa [e] using h)];lia
   exact main nd h
  ·rename_i h;rw [KC];have e3:cF S k=none:=by
    unfold cF;have:S.find? (fun p=>decide (p.1=k))=none:=by
     rw [hW];intro p hp z;exact h (List.any_eq_true.mpr ⟨p,hp,z⟩)
    rw [this]; rfl
   rw [e3];show nW ns g S+(L _ l+0)=_;simp only [BI,L];lia
def LP:Po:=[(2,-1),(-2,-1)]
theorem acJ(g:Fn)(i:Int):L (fun j=>g (i+j)) LP=lp g i:=by
 show -1 * g (i+2)+(-1 * g (i+-2)+0)=-(g (i+2)) - g (i - 2);rw [show i+-2=i - 2 by lia]; lia
theorem P9(n:Nat)(g:Fn):kh n (lp g)=lp (kh n g):=by
 induction n with
 | zero=>rfl
 | succ n ih=>rw [kh,kh,ih]
theorem ux:∀ (n:Nat) (g:Fn),L g (dZ LP n)=kh n g 0
 | 0,g=>by show 1 * g 0+0=g 0; lia
 | n+1,g=>by
  show L g (jx (dZ LP n) LP)=_;rw [Y.HC];have:(fun i=>L (fun j=>g (i+j)) LP)=lp g:=by funext i; exact acJ g i
  rw [this,ux n,P9]; rfl
theorem Jo(f:T3->T3)(ns:List (Int×Int))(g:Fn):∀ (n:Nat) (b:Int),kh n (fun t=>Br f ns (sh (t+b) g))=fun t=>Br f ns (sh (t+b) (kh n g))
 | 0,b=>rfl
 | n+1,b=>by
  rw [kh,Jo f ns g n b];funext t;show -(Br f ns (sh (t+2+b) (kh n g))) - Br f ns (sh (t - 2+b) (kh n g))=Br f ns (sh (t+b) (lp (kh n g)));have e:sh (t+b) (lp (kh n g))=pl (sc (-1) (sh (t+2+b) (kh n g))) (sc (-1) (sh (t - 2+b) (kh n g))):=by
   funext i;show -(kh n g (i+(t+b)+2)) - kh n g (i+(t+b) - 2)=-1 * kh n g (i+(t+2+b))+-1 * kh n g (i+(t - 2+b));rw [show i+(t+b)+2=i+(t+2+b) by lia,show i+(t+b) - 2=i+(t - 2+b) by lia];lia
  rw [e,RY,Mj,Mj]; lia
def Tc(l:Po)(c:Nat)(b:Int):Po:=lg (jx l (dZ LP c)) b 1
theorem ZL(f:T3->T3)(ns:List (Int×Int))(g:Fn)(l:Po)(c:Nat)(b:Int):L (fun j=>Br f ns (sh j g)) (Tc l c b)=L (fun j=>Br f ns (kh c (sh b (sh j g)))) l:=by
 unfold Tc;rw [Y.RO,Y.HC,Int.one_mul];congr 1;funext i;rw [ux];have:(fun j=>Br f ns (sh (i+j+b) g))=fun t=>Br f ns (sh (t+(i+b)) g):=by
  funext t; rw [show i+t+b=t+(i+b) by lia]
 rw [this,Jo];show Br f ns (sh (0+(i+b)) (kh c g))=_;rw [Ez,zV,zV,UL,SD i b]
theorem TC(l:Po)(c:Nat)(b:Int):fJ (Tc l c b)<=fJ l * 2 ^ c:=by
 unfold Tc lg;refine bz (Y.wG _) ?_;have e:∀ m:Po,fJ (m.map fun p=>(p.1+b,p.2 * 1))=fJ m:=by
  intro m;induction m with
  | nil=>rfl
  | cons p m ih=>rw [aq,fJ,fJ,ih]; simp
 rw [e];exact bz (Y.t9 _ _) (Nat.mul_le_mul_left _ (Y.pW LP c))
def tO(A:Su)(k':PK)(l:Po)(c:Nat)(b:Int):Su:=eY A k' (wF ((cF A k').getD []) (Tc l c b))
def N1(S:Su):Prop:=(S.map (·.1)).Nodup/\∀ p∈S,ND p.2/\NZ p.2
theorem N1.get{S:Su}(h:N1 S)(k:PK):ND ((cF S k).getD [])/\NZ ((cF S k).getD []):=by
 cases e:cF S k with
 | none=>exact⟨Y.ND.nil,fun p hp=>by cases hp⟩
 | some l=>exact h.2 _ (Ej e)
theorem N1.put{S:Su}(h:N1 S){k:PK}{l:Po}(h1:ND l)(h2:NZ l):N1 (eY S k l):=by
 refine⟨qm h.1,fun p hp=>?_⟩;unfold eY at hp;split at hp
 ·obtain⟨q,hq,rfl⟩:=List.mem_map.mp hp;split
  ·exact⟨h1,h2⟩
  ·exact h.2 q hq
 ·rcases List.mem_append.mp hp with hp | hp
  ·exact h.2 p hp
  ·rw [ck] at hp; subst hp; exact⟨h1,h2⟩
theorem OZ{A:Su}(h:N1 A)(k':PK)(l:Po)(c:Nat)(b:Int):N1 (tO A k' l c b):=h.put (Y.Tp (h.get k').1) (Y.FD _)
theorem OX{A:Su}(h:N1 A)(ns:List (Int×Int))(g:Fn)(k':PK)(l:Po)(c:Nat)(b:Int):nW ns g (tO A k' l c b)=nW ns g A+L (fun j=>Br (pt (dec k')) ns (kh c (sh b (sh j g)))) l:=by
 unfold tO;rw [SO ns g k' _ h.1,Y.Xn _ (h.get k').1,ZL];lia
def ic:Su->Nat
 | []=>0
 | p :: S=>fJ p.2+ic S
theorem zI(S S':Su):ic (S++S')=ic S+ic S':=by
 induction S with
 | nil=>simp [ic]
 | cons p S ih=>rw [aF,ic,ic,ih]; lia
theorem PU(k:PK)(l:Po):∀ {S:Su},(S.map (·.1)).Nodup->ic (eY S k l)+fJ ((cF S k).getD [])<=ic S+fJ l
 | S,nd=>by
  unfold eY;split
  ·rename_i h;have main:∀ {S:Su},(S.map (·.1)).Nodup->(S.any fun p=>decide (p.1=k))=true->ic (S.map fun p=>if p.1=k then (p.1,l) else p)+fJ ((cF S k).getD [])<=ic S+fJ l:=by
    intro S;induction S with
    | nil=>intro _ h; cases h
    | cons p S ih =>
     intro nd h;rw [aq,aY] at nd;rw [aq,ic,ic];by_cases e:p.1=k
     ·have e2:(S.map fun p=>if p.1=k then (p.1,l) else p)=S:=by
       conv=>rhs; rw [<-jL S]
       refine di fun q hq=>?_;rw [if_neg]; rfl;intro z; exact nd.1 (by rw [e,<-z]; exact bP hq)
      have e3:cF (p :: S) k=some p.2:=by unfold cF; rw [cp (by simpa using e)]; rfl
      rw [e2,e3,if_pos e];simp only [tf];lia
     ·have e3:cF (p :: S) k=cF S k:=by unfold cF; rw [cq (by simpa using e)]
      have:=ih nd.2 (by simpa [e] using h);rw [e3,if_neg e];lia
   exact main nd h
  ·rename_i h;rw [zI];have e3:cF S k=none:=by
    unfold cF;have:S.find? (fun p=>decide (p.1=k))=none:=by
     rw [hW];intro p hp z;exact h (List.any_eq_true.mpr ⟨p,hp,z⟩)
    rw [this]; rfl
   rw [e3];show ic S+(fJ l+0)+0<=_;lia
theorem OY{A:Su}(h:N1 A)(k':PK)(l:Po){c:Nat}(hc:c<=2)(b:Int):ic (tO A k' l c b)<=ic A+4 * fJ l:=by
 unfold tO;have h1:=PU k' (wF ((cF A k').getD []) (Tc l c b)) h.1;have h2:=Y.PT (h.get k').1 (Tc l c b);have h3:=TC l c b;have h4:fJ l * 2 ^ c<=fJ l * 4:=Nat.mul_le_mul_left _ (show 2 ^ c<=2 ^ 2 from km (by decide) hc);lia
theorem Lf(S:Su)(k:PK):fJ ((cF S k).getD [])<=ic S:=by
 induction S with
 | nil=>exact aC _
 | cons p S ih =>
  unfold cF at *;rw [ic];by_cases e:p.1=k
  ·rw [cp (by simpa using e)]; simp only [uA,tf]; lia
  ·rw [cq (by simpa using e)]; lia
theorem Dt:∀ {l:Po},NZ l->l.length<=fJ l
 | [],_=>aC _
 | p :: l,h=>by
  have h1:=h p (by simp);have h2:=Dt (l:=l) fun q hq=>h q (aL _ hq);rw [ak,fJ]; lia
def jJ(S:Su):Su:=S.filter fun p=>!p.2.isEmpty
theorem Qi(ns:List (Int×Int))(g:Fn)(S:Su):nW ns g (jJ S)=nW ns g S:=by
 unfold jJ;induction S with
 | nil=>rfl
 | cons p S ih =>
  rw [bK];split
  ·rw [nW,nW,ih]
  ·rename_i h;have:p.2=[]:=by simpa using h
   rw [ih,nW,this,L,Ez]
theorem Gj{S:Su}(h:N1 S):N1 (jJ S):=⟨nU (l0 _ k6) h.1,fun p hp=>h.2 p (List.mem_filter.mp hp).1⟩
theorem Qj(S:Su):ic (jJ S)<=ic S:=by
 unfold jJ;induction S with
 | nil=>exact aC _
 | cons p S ih =>
  rw [bK];split
  ·rw [ic,ic]; lia
  ·rw [ic]; lia
theorem Ql{S:Su}(h:N1 S):(jJ S).length<=ic S:=by
 have:∀ {S:Su},(∀ p∈S,NZ p.2)->(jJ S).length<=ic S:=by
  intro S;unfold jJ;induction S with
  | nil=>intro _; exact aC _
  | cons p S ih =>
   intro h;have ih:=ih fun q hq=>h q (aL _ hq);rw [bK,ic];split
   ·rename_i z;have h1:=Dt (h p (by simp));have h2:0 < p.2.length:=by
     cases q:p.2 with
     | nil=>rw [q] at z; cases z
     | cons _ _=>simp
    rw [ak]; lia
   ·lia
 exact this fun p hp=>(h.2 p hp).2
end J
end K2
end
section
namespace K2
open PySem (Str)
open Enc (enc)
namespace Y
structure Pl(G:Gp)(d:D)(l:Po):Prop where
 is:VD G d l
 nd:ND l
theorem vK{G G1:Gp}{p:Nat}{o:GO}{Q:DK}(l:fD G G1)(hp:G p=none)(h1:G1 p=some o)(q:gO G o Q):Mf G1 (.ref p) Q:=DM l hp h1 (q p hp)
theorem LM(i j:Int):ip (.int i) (.int j)=decide (i=j):=Enc.eqv i j
theorem va(l m:Po):gz (l++m)=gz l++gz m:=eK _ _
theorem IY{l:Po}{k:Int}(h:k∈(gz l).map (·.1)):k∈l.map (·.1):=(l0 _ k6).subset h
theorem U0{l pre post:Po}{p:Int×Int}(h:ND l)(e:l=pre++p :: post):p.1∉pre.map (·.1):=by
 subst e;unfold ND at h;rw [aM,aq,cz] at h;intro z;exact h.2.2 _ z _ (by simp) rfl
theorem IW{l pre post:Po}{p:Int×Int}(h:ND l)(e:l=pre++p :: post)(hz:p.2≠0):eY (gz pre) p.1 p.2=gz (pre++[p]):=by
 rw [lO fun z=>U0 h e (IY z),va];congr 1;simp [gz,hz]
theorem IX{pre:Po}{p:Int×Int}(hz:p.2=0):gz (pre++[p])=gz pre:=by
 rw [va]; simp [gz,hz]
theorem vH(i:Int):(enc i:D)=.int i:=rfl
def dG:jU:=fun ds G Q _=>∃ (d:D) (l:Po),ds=[d]/\Pl G d l/\l.length<=SZ/\gO G (.gK (bB (gz l))) Q
def ny:hU :=
 (bZ (bM tE (aH 1))
 (bZ (ff (mi (av 0)) (jA (cY (aH 2) (cY (aH 3) jo))) (fA (gv (bh (Dh true) (av 3) (dC (.int 0)))) (bM (av 3) (nZ (av 1) (av 2))) dn))
 (cu (cO (av 1)))))
theorem uw(ds:List D)(G:Gp)(Q:DK)(h:dG ds G Q fun _ _=>False):ny (fun _ _=>False) (ends Q) (bo 4 ds) G:=by
 obtain⟨d,l,rfl,hd,hl,q⟩:=h;unfold ny;simp only [ends,bo,aq,a8,ak,aB,bg,aF,aP,cM,bM,tE,aH,ar,ah];intro p hp;refine cV (fun τ G'=>(∃ a b,τ=[some d,some (.ref p),a,b])/\fD G G'/\G' p=some (.gK (bB (gz l)))) ?_ ?_
 ·intro N hN;simp only [ff,mi,av,aa];refine lJ hd.is (.new hp) fun ok b7=>?_;refine eG (xs:=l) (fun pre τ G'=>(∃ a b,τ=[some d,some (.ref p),a,b])/\fD G G'/\G' p=some (.gK (bB (gz pre)))) ⟨⟨_,_,rfl⟩,.new hp,az⟩ (fun pre τ G' h=>b7 G' h.2.1) ?_ ?_
  ·rintro pre x post τ G' N2 e ⟨⟨a,b,rfl⟩,le,gp⟩ oB;have hlen:(gz pre).length < SZ:=by
    have:=wC pre;have:=congrArg dU e;rw [aG,ak] at this; lia
   simp only [jA,cY,aH,jo,ar,ah];refine⟨_,_,.int _,.int _,?_⟩;simp only [LM,if_true,bM,av,ae,aa,nZ,dn];by_cases hz:x.2=0
   ·simp only [hz,decide_true,bq];exact oB _ _ ⟨⟨_,_,rfl⟩,le,by rw [IX hz]; exact gp⟩
   ·simp only [hz,decide_false,cZ];refine iN (α:=Int) gp hlen ?_;exact oB _ _ ⟨⟨_,_,rfl⟩,le.put hp,by rw [az,<-IW hd.nd e hz]⟩
  ·rintro τ G' ⟨⟨a,b,rfl⟩,le,gp⟩;exact hN _ _ ⟨⟨_,_,rfl⟩,le,gp⟩
 ·rintro _ G' ⟨⟨a,b,rfl⟩,le,gp⟩;simp only [cu,cO,av,ae,aa];exact vK le hp gp q
theorem U2{G:Gp}{d:D}{l:Po}{i:Int}{Q:DK}(h:AX G d l)(k:Q (.int (c0 l i)) G):M4 d [.int i,.int 0] G Q:=TK (α:=Int) (e:=0) h k
theorem gQ{α:Type}{l pre post:List α}{x:α}(e:l=pre++x :: post):pre.length < l.length:=by
 have:=congrArg dU e;rw [aG,ak] at this; lia
def ky:jU:=fun ds G Q _=>∃ (d e:D) (l m:Po),ds=[d,e]/\Pl G d l/\Pl G e m/\l.length+m.length<=SZ/\gO G (.gK (bB (wF l m))) Q
def Fm:hU :=
 (bZ (bM (uj L6 (aw (av 0) aQ)) (aH 2))
 (bZ (ff (mi (av 1)) (jA (cY (aH 3) (cY (aH 4) jo))) (bM (bh kB (tV SM M4 (av 2) (aw (av 3) (aw (dC (.int 0)) aQ))) (av 4)) (nZ (av 2) (av 3))))
 (cu (cO (bF dG (aw (cO (av 2)) aQ))))))
theorem RN(ds:List D)(G:Gp)(Q:DK)(h:ky ds G Q fun _ _=>False):Fm (fun _ _=>False) (ends Q) (bo 5 ds) G:=by
 obtain⟨d,e,l,m,rfl,hd,he,hl,q⟩:=h;unfold Fm;simp only [ends,bo,aq,a8,ak,aB,bg,aF,aP,cM,bM,uj,aw,av,aa,aQ,aH,ar,ah];refine Ry hd.is.p (by lia) fun p hp=>?_;refine cV (fun τ G'=>(∃ a b,τ=[some d,some e,some (.ref p),a,b])/\fD G G'/\G' p=some (.gK (bB (tT l m)))) ?_ ?_
 ·intro N hN;simp only [ff,mi,av,ae,aa];refine lJ he.is (.new hp) fun ok b7=>?_;refine eG (xs:=m) (fun pre τ G'=>(∃ a b,τ=[some d,some e,some (.ref p),a,b])/\fD G G'/\G' p=some (.gK (bB (tT l pre)))) ⟨⟨_,_,rfl⟩,.new hp,az⟩ (fun pre τ G' h=>b7 G' h.2.1) ?_ ?_
  ·rintro pre x post τ G' N2 e2 ⟨⟨a,b,rfl⟩,le,gp⟩ oB;have hlen:(tT l pre).length < SZ:=by
    have:=B1 l pre;have:=gQ e2; lia
   simp only [jA,cY,aH,jo,bM,bh,tV,av,ar,ah,ae,aa,ye,aw,dC,aQ,nZ];refine⟨OP (AX.ref gp),U2 (AX.ref gp) ?_⟩;simp only [vH,gi];refine iN (α:=Int) gp hlen ?_;refine oB _ _ ⟨⟨_,_,rfl⟩,le.put hp,?_⟩;rw [az];unfold tT plus;rw [j4]; rfl
  ·rintro τ G' ⟨⟨a,b,rfl⟩,le,gp⟩;exact hN _ _ ⟨⟨_,_,rfl⟩,le,gp⟩
 ·rintro _ G' ⟨⟨a,b,rfl⟩,le,gp⟩;simp only [cu,cO,bF,aw,av,ae,aa,aQ];refine jB le hp gp ?_;refine⟨_,tT l m,rfl,⟨rfl,FE hd.nd⟩,by have:=B1 l m; lia,fun p2 qK=>?_⟩;exact vK (.new qK) qK az q
def gI:jU:=fun ds G Q _=>∃ (d:D) (l:Po) (b f:Int),ds=[d,.int b,.int f]/\Pl G d l/\l.length<=SZ/\(fJ l < tF/\f.natAbs < tF)/\gO G (.gK (bB (lg l b f))) Q
def zh:hU :=
 (bZ (bM tE (aH 3))
 (bZ (ff (mi (av 0)) (jA (cY (aH 4) (cY (aH 5) jo))) (bM (bh KR (av 5) (av 2)) (nZ (av 3) (bh kB (av 4) (av 1)))))
 (cu (cO (bF dG (aw (cO (av 3)) aQ))))))
def O4(b f:Int)(l:Po):Po:=l.map fun p=>(p.1+b,p.2 * f)
theorem IK{l pre post:Po}{p:Int×Int}(b f:Int)(h:ND l)(e:l=pre++p :: post):eY (O4 b f pre) (p.1+b) (p.2 * f)=O4 b f (pre++[p]):=by
 rw [lO,O4,O4,aM]; rfl;intro z;unfold O4 at z;rw [aS] at z;obtain⟨r,hr,er⟩:=List.mem_map.mp z;have:r.1=p.1:=by have:r.1+b=p.1+b:=er; lia
 exact U0 h e (this ▸ bP hr)
theorem Kf(ds:List D)(G:Gp)(Q:DK)(h:gI ds G Q fun _ _=>False):zh (fun _ _=>False) (ends Q) (bo 6 ds) G:=by
 obtain⟨d,l,b,f,rfl,hd,hl,⟨hb,hf⟩,q⟩:=h;unfold zh;simp only [ends,bo,aq,a8,ak,aB,bg,aF,aP,cM,bM,tE,aH,ar,ah];intro p hp;refine cV (fun τ G'=>(∃ u v,τ=[some d,some (.int b),some (.int f),some (.ref p),u,v])/\fD G G'/\G' p=some (.gK (bB (O4 b f l)))) ?_ ?_
 ·intro N hN;simp only [ff,mi,av,aa];refine lJ hd.is (.new hp) fun ok b7=>?_;refine eG (xs:=l) (fun pre τ G'=>(∃ u v,τ=[some d,some (.int b),some (.int f),some (.ref p),u,v])/\fD G G'/\G' p=some (.gK (bB (O4 b f pre)))) ⟨⟨_,_,rfl⟩,.new hp,az⟩ (fun pre τ G' h=>b7 G' h.2.1) ?_ ?_
  ·rintro pre x post τ G' N2 e ⟨⟨u,v,rfl⟩,le,gp⟩ oB;have hlen:(O4 b f pre).length < SZ:=by
    have:=gQ e;unfold O4; rw [ao]; lia
   have hx:x.2.natAbs < tF:=hZ (Du (by rw [e]; simp)) hb;simp only [jA,cY,aH,jo,bM,bh,av,ar,ah,vH,ae,aa,nZ,gi,wx];refine⟨⟨hx,hf⟩,?_⟩;refine iN (α:=Int) gp hlen ?_;exact oB _ _ ⟨⟨_,_,rfl⟩,le.put hp,by rw [az,<-IK b f hd.nd e]⟩
  ·rintro τ G' ⟨⟨u,v,rfl⟩,le,gp⟩;exact hN _ _ ⟨⟨_,_,rfl⟩,le,gp⟩
 ·rintro _ G' ⟨⟨u,v,rfl⟩,le,gp⟩;simp only [cu,cO,bF,aw,av,ae,aa,aQ];refine jB le hp gp ?_;refine⟨_,O4 b f l,rfl,⟨rfl,E8 hd.nd b f⟩,by unfold O4; rw [ao]; exact hl,fun p2 qK=>?_⟩;exact vK (.new qK) qK az q
def jG:jU:=fun ds G Q _=>∃ (d e:D) (l m:Po),ds=[d,e]/\Pl G d l/\Pl G e m/\l.length * m.length<=SZ/\(fJ l < tF/\fJ m < tF)/\gO G (.gK (bB (jx l m))) Q
def Fj:hU :=
 (bZ (bM tE (aH 2))
 (bZ (ff (mi (av 0)) (jA (cY (aH 3) (cY (aH 4) jo))) (ff (mi (av 1)) (jA (cY (aH 5) (cY (aH 6) jo))) (bZ (bM (bh kB (av 3) (av 5)) (aH 7))
 (bM (bh kB (tV SM M4 (av 2) (aw (av 7) (aw (dC (.int 0)) aQ))) (bh KR (av 4) (av 6))) (nZ (av 2) (av 7))))))
 (cu (cO (bF dG (aw (cO (av 2)) aQ))))))
theorem TG{l pre post:Po}{x:Int×Int}{m mp mq:Po}{y:Int×Int}(e:l=pre++x :: post)(e2:m=mp++y :: mq)(a:Po)(ha:a.length<=pre.length * m.length):(o4 mp a x).length < l.length * m.length:=by
 have h1:=Fv mp a x;have h2:=gQ e;have h3:=gQ e2;have h4:(pre.length+1) * m.length<=l.length * m.length:=kn _ h2;rw [Nat.succ_mul] at h4;lia
theorem Nz(m:Po):∀ (l:Po),(l.foldl (o4 m) []).length<=l.length * m.length:=fun l=>rM l m
theorem RM(ds:List D)(G:Gp)(Q:DK)(h:jG ds G Q fun _ _=>False):Fj (fun _ _=>False) (ends Q) (bo 8 ds) G:=by
 obtain⟨d,e,l,m,rfl,hd,he,hl,⟨hb,hf⟩,q⟩:=h;unfold Fj;simp only [ends,bo,aq,a8,ak,aB,bg,aF,aP,cM,bM,tE,aH,ar,ah];intro p hp;refine cV (fun τ G'=>(∃ a1 a2 a3 a4 a5,τ=[some d,some e,some (.ref p),a1,a2,a3,a4,a5])/\fD G G'/\G' p=some (.gK (bB (oy l m)))) ?_ ?_
 ·intro N hN;simp only [ff,mi,av,aa];refine lJ hd.is (.new hp) fun ok b7=>?_;refine eG (xs:=l) (fun pre τ G'=>(∃ a1 a2 a3 a4 a5,τ=[some d,some e,some (.ref p),a1,a2,a3,a4,a5])/\fD G G'/\G' p=some (.gK (bB (pre.foldl (o4 m) [])))) ⟨⟨_,_,_,_,_,rfl⟩,.new hp,az⟩ (fun pre τ G' h=>b7 G' h.2.1) ?_ ?_
  ·rintro pre x post τ G' N2 e1 ⟨⟨a1,a2,a3,a4,a5,rfl⟩,le,gp⟩ oB;have hx:x.2.natAbs < tF:=hZ (Du (by rw [e1]; simp)) hb;simp only [jA,cY,aH,jo,ff,mi,av,ar,ah,vH,ae,aa];refine lJ he.is le fun Yw abJ=>?_;refine eG (xs:=m) (fun mp τ G'=>(∃ a3 a4 a5,τ=[some d,some e,some (.ref p),some (.int x.1),some (.int x.2),a3,a4,a5])/\fD G G'/\G' p=some (.gK (bB (o4 mp (pre.foldl (o4 m) []) x)))) ⟨⟨_,_,_,rfl⟩,le,gp⟩ (fun pre τ G' h=>abJ G' h.2.1) ?_ ?_
   ·rintro mp y mq τ G2 N3 e2 ⟨⟨b3,b4,b5,rfl⟩,Se,Ox⟩ wR;have hlen:=bJ (TG e1 e2 (pre.foldl (o4 m) []) (Nz m pre)) hl;have hy:y.2.natAbs < tF:=hZ (Du (by rw [e2]; simp)) hf;simp only [jA,cY,aH,jo,ar,ah,vH,cM,bM,bh,av,ae,aa,tV,ye,aw,dC,aQ,nZ,wx,gi];refine⟨OP (AX.ref Ox),U2 (AX.ref Ox) ?_⟩;simp only [gi];refine⟨⟨hx,hy⟩,?_⟩;refine iN (α:=Int) Ox hlen ?_;refine wR _ _ ⟨⟨_,_,_,rfl⟩,Se.put hp,?_⟩;rw [az]
    conv=>rhs; rw [o4,j4]
    rfl
   ·rintro τ G2 ⟨⟨b3,b4,b5,rfl⟩,Se,Ox⟩;refine oB _ _ ⟨⟨_,_,_,_,_,rfl⟩,Se,?_⟩;rw [Ox,j4]; rfl
  ·rintro τ G' ⟨⟨a1,a2,a3,a4,a5,rfl⟩,le,gp⟩;exact hN _ _ ⟨⟨_,_,_,_,_,rfl⟩,le,gp⟩
 ·rintro _ G' ⟨⟨a1,a2,a3,a4,a5,rfl⟩,le,gp⟩;simp only [cu,cO,bF,aw,av,ae,aa,aQ];refine jB le hp gp ?_;refine⟨_,oy l m,rfl,⟨rfl,zA l m⟩,bz (rM l m) hl,fun p2 qK=>?_⟩;exact vK (.new qK) qK az q
def iM:jU:=fun ds G Q _=>∃ (d:D) (l:Po) (n:Nat),ds=[d,.int n]/\Pl G d l/\(n<=1000/\∀ k,k < n->l.length ^ k * l.length<=SZ/\fJ l ^ k < tF)/\fJ l < tF/\gO G (.gK (bB (dZ l n))) Q
def BU:hU :=
 (bZ (bM (LV (dC (.int 0)) (dC (.int 1))) (aH 2))
 (bZ (ff (Aa (av 1)) (aH 3) (bM (bF jG (aw (cO (av 2)) (aw (cO (av 0)) aQ))) (aH 2)))
 (cu (cO (av 2)))))
theorem NX(ds:List D)(G:Gp)(Q:DK)(h:iM ds G Q fun _ _=>False):BU (fun _ _=>False) (ends Q) (bo 4 ds) G:=by
 obtain⟨d,l,n,rfl,hd,⟨hn,hk⟩,hb,q⟩:=h;unfold BU;simp only [ends,bo,aq,a8,ak,aB,bg,aF,aP,cM,bM,LV,dC,aH,ar,ah];refine⟨rfl,fun p0 Ot=>?_⟩;refine cV (fun τ G'=>(∃ a p,τ=[some d,some (.int n),some (.ref p),a]/\G p=none/\G' p=some (.gK (bB (dZ l n))))/\fD G G') ?_ ?_
 ·intro N hN;simp only [ff,pB,av,ae,aa,o3];refine⟨by lia,by lia,?_⟩;rw [dE];refine QZ (fun pre τ G'=>(∃ a p,τ=[some d,some (.int n),some (.ref p),a]/\G p=none/\G' p=some (.gK (bB (dZ l pre.length))))/\fD G G') ⟨⟨_,p0,rfl,Ot,az⟩,.new Ot⟩ (fun _ _ _ _=>trivial) ?_ ?_
  ·rintro pre x post τ G' N2 e1 ⟨⟨a,p,rfl,hp,gp⟩,le⟩ oB;obtain⟨rfl,wO⟩:=IM e1;obtain⟨h1,h2⟩:=hk pre.length wO;simp only [aH,bM,bF,aw,cO,av,ar,ah,ae,aa,aQ];refine jB le hp gp (du ?_);refine⟨_,d,dZ l pre.length,l,rfl,⟨rfl,wB _ _⟩,hd,bz (kn _ (t7 l _)) h1,⟨hZ (pW l _) h2,hb⟩,fun p2 qK=>?_⟩;refine oB _ _ ⟨⟨_,p2,rfl,qK,?_⟩,.new qK⟩;rw [az,aG]; rfl
  ·rintro τ G' ⟨⟨a,p,rfl,hp,gp⟩,le⟩;rw [show (gJ 0 n).length=n by simp [gJ]] at gp;exact hN _ _ ⟨⟨_,p,rfl,hp,gp⟩,le⟩
 ·rintro _ G' ⟨⟨a,p,rfl,hp,gp⟩,le⟩;simp only [cu,cO,av,ae,aa];exact vK le hp gp q
end Y
namespace JB
open K2.P K2.J
def BW:hU :=
 (bZ (fA (gv (bh (Dh false) (av 1) (dC (.int 0)))) (cu (cO (jK (aw (iB (aw (iB (aw (av 0) (aw (dC (.int 0)) (aw (dC (.int 0)) aQ)))) (aw (iB (aw (av 0) (aw (dC (.int 1)) (aw (dC (.int 1)) aQ)))) aQ))) (aw (iB (aw (iB (aw (av 0) (aw (dC (.int 1)) (aw (dC (.int 0)) aQ)))) (aw (iB (aw (av 0) (aw (dC (.int 0)) (aw (dC (.int 1)) aQ)))) aQ))) aQ))))) dn)
 (cu (cO (jK (aw (iB (aw (iB (aw (av 0) (aw (dC (.int 0)) (aw (dC (.int 0)) aQ)))) (aw (iB (aw (av 0) (aw (dC (.int 1)) (aw (dC (.int 0)) aQ)))) aQ))) (aw (iB (aw (iB (aw (av 0) (aw (dC (.int 0)) (aw (dC (.int 1)) aQ)))) (aw (iB (aw (av 0) (aw (dC (.int 1)) (aw (dC (.int 1)) aQ)))) aQ))) aQ))))))
def wI(w:Bool):Int:=if w=true then 1 else 0
def sE:jU:=fun ds G Q _=>∃ (n:Int) (w:Bool),ds=[.int n,.int (wI w)]/\Q (enc (js n w)) G
theorem N0(ds:List D)(G:Gp)(Q:DK)(h:sE ds G Q fun _ _=>False):BW (fun _ _=>False) (ends Q) (bo 2 ds) G:=by
 obtain⟨n,w,rfl,q⟩:=h;unfold BW;simp only [bZ,fA,bo,aq,a8,ak,aB,aF,aP,cu,cO,jK,aw,iB,av,aa,dC,aQ,ends,dn,cQ,bh,ae];refine⟨_,_,.int _,.int _,?_⟩;simp only [aj,iS,if_false,bE];cases w with
 | false =>
  simp only [wI,aj,if_false,beq_self_eq_true,if_true];refine⟨by decide,by decide,by decide,by decide,by decide,by decide,by decide,fun p hp=>?_⟩;exact je (xs:=js n false) (.new hp) hp az q
 | true =>
  simp only [wI,if_true,show ((1:Int) == 0)=false from rfl,aj,if_false];refine⟨by decide,by decide,by decide,by decide,by decide,by decide,by decide,fun p hp=>?_⟩;exact je (xs:=js n true) (.new hp) hp az q
def xk:hU :=
 (cu (cO (Zt (gv (bh (Dh false) (av 1) (dC (.int 0)))) (av 0) (Si MN (av 0)))))
def pw(h:Int)(w:Bool):Int:=if w=true then -h else h
def ot:jU:=fun ds G Q _=>∃ (h:Int) (w:Bool),ds=[.int h,.int (wI w)]/\Q (.int (pw h w)) G
theorem Hw(ds:List D)(G:Gp)(Q:DK)(h:ot ds G Q fun _ _=>False):xk (fun _ _=>False) (ends Q) (bo 2 ds) G:=by
 obtain⟨n,w,rfl,q⟩:=h;unfold xk;simp only [cu,cO,Zt,bo,aq,a8,ak,aB,aF,aP,av,aa,ends,Si,rL,cQ,bh,ae,dC];refine⟨_,_,.int _,.int _,?_⟩;simp only [aj,iS,if_false,bE];cases w with
 | false =>
  simp only [wI,aj,if_false,beq_self_eq_true,if_true];exact du q
 | true =>
  simp only [wI,if_true,show ((1:Int) == 0)=false from rfl,aj,if_false];exact du q
theorem YM:∀ (x y:List Int),qI (fun a b=>decide (a < b)) x y=lexLt x y
 | [],[]=>rfl
 | [],_ :: _=>rfl
 | _ :: _,[]=>rfl
 | a :: x,b :: y=>by rw [wM,YM x y]; rfl
theorem lt3(p q:T3):lexLt p.l q.l=aT.lt p q:=(YM _ _).symm
def zi:hU :=
 (cu (cO (uj Uq (aw (uj vP (aw (fT 1 [0] (Cf (av 0)) (aH 0) (some (gv (bh UR (av 0) (bh mz (av 1) (av 0))))) (iB (aw (av 0) (aw (bh mz (av 1) (av 0)) aQ)))) aQ)) aQ))))
def la:jU:=fun ds G Q _=>∃ (l:List (T3×T3)),ds=[.kW (bB l)]/\((l.map (·.1)).Nodup/\l.length < 64)/\Q (qu (oK (MV l))) G
theorem Kg(ds:List D)(G:Gp)(Q:DK)(h:la ds G Q fun _ _=>False):zi (fun _ _=>False) (ends Q) (bo 1 ds) G:=by
 obtain⟨l,rfl,⟨nd,hl⟩,q⟩:=h;unfold zi;simp only [cu,cO,uj,aw,fT,Cf,av,bo,aq,a8,ak,aB,aF,aP,aa,aQ,ends];show _/\_;have ek:((bB l).map fun p=>p.1)=l.map fun p=>enc p.1:=by unfold bB; rw [aS]; rfl
 refine⟨C6 (by unfold bB; rw [ao,ao]; lia),?_⟩;rw [ek];refine iK (xs:=l) (f:=fun p=>enc p.1) (fun pre acc τ G'=>G=G'/\(∃ a,τ=[a,some (.kW (bB l))])/\acc=(pre.filter fun p=>aT.lt p.1 p.2).map enc) ⟨rfl,⟨_,rfl⟩,rfl⟩ (fun _ _ _ _ _=>trivial) ?_ ?_
 ·rintro pre x post acc τ G' N e ⟨rfl,⟨a,rfl⟩,rfl⟩ hN;have hx:cF l x.1=some x.2:=zP nd (by rw [e]; simp);simp only [aH,ah,iB,aw,av,aa,bh,ae,aQ,ak,aB,yn,vh,hx,uA,cQ];refine⟨nI _ _,?_⟩;show ∃ xs ys,_;refine⟨x.1.l,x.2.l,rfl,rfl,?_⟩;simp only [lt3,bE];split
  ·rename_i wO;refine⟨nI _ _,by decide,hN _ _ _ ⟨rfl,⟨_,rfl⟩,?_⟩⟩;simp only [eK,bK,wO,if_true,pE,aM]; rfl
  ·rename_i wO;refine hN _ _ _ ⟨rfl,⟨_,rfl⟩,?_⟩;simp only [eK,bK,wO,if_false,pE,cC,aj]
 ·rintro acc τ G' ⟨rfl,⟨a,rfl⟩,rfl⟩ p hp;refine AM (IsL.ref az) (hZ (fN _ _) hl) fun p2 qK=>?_;unfold Uq;simp only [pg (IsL.ref az)];rw [PD] at q;exact yA ((fD.new hp).trans (.new qK)) q
theorem Nq{G G2:Gp}{d:D}{ds:List D}{R:List D->(Gp->Prop)->Gp->Prop}(h:itemsOf d G=some ds)(l:fD G G2)(k:∀ ok:Gp->Prop,(∀ G',fD G G'->ok G')->R ds ok G2):QD d G2 R:=by
 cases d with
 | tup xs=>cases h; exact k _ fun _ _=>trivial
 | cW xs=>cases h; exact k _ fun _ _=>trivial
 | ref a =>
  unfold itemsOf at h;dsimp only at h;split at h
  ·rename_i xs ha;cases h;rw [Ls (l _ _ ha)];exact k _ fun G' le=>le _ _ ha
  ·cases h
 | _=>cases h
def xq:hU :=
 (bZ (bM tE (aH 1))
 (bZ (ff (lu (av 0)) (jA (cY (aH 2) (cY (aH 3) jo))) (bZ (bM (av 3) (nZ (av 1) (av 2)))
 (bM (av 2) (nZ (av 1) (av 3)))))
 (cu (cO (av 1)))))
def j7:jU:=fun ds G Q _=>∃ (d:D) (P:Pr T3),ds=[d]/\itemsOf d G=some (P.map enc)/\P.length<=200/\gO G (.gK (bB (JN P))) Q
theorem Q5(P:Pr T3)(p:T3×T3):JN (P++[p])=eY (eY (JN P) p.1 p.2) p.2 p.1:=by unfold JN; rw [j4]; rfl
theorem Hz(ds:List D)(G:Gp)(Q:DK)(h:j7 ds G Q fun _ _=>False):xq (fun _ _=>False) (ends Q) (bo 4 ds) G:=by
 obtain⟨d,P,rfl,hi,hl,q⟩:=h;unfold xq;simp only [ends,bo,aq,a8,ak,aB,bg,aF,aP,cM,bM,tE,gO,aH,ar,ah];intro p hp;refine cV (fun τ G'=>(∃ a b,τ=[some d,some (.ref p),a,b])/\fD G G'/\G' p=some (.gK (bB (JN P)))) ?_ ?_
 ·intro N hN;simp only [ff,e9,av,aa];refine Nq hi (.new hp) fun ok b7=>?_;refine eG (xs:=P) (fun pre τ G'=>(∃ a b,τ=[some d,some (.ref p),a,b])/\fD G G'/\G' p=some (.gK (bB (JN pre)))) ⟨⟨_,_,rfl⟩,.new hp,az⟩ (fun pre τ G' h=>b7 G' h.2.1) ?_ ?_
  ·rintro pre x post τ G' N2 e ⟨⟨a,b,rfl⟩,le,gp⟩ oB;have hlen:=LH pre;have xE:pre.length < P.length:=by rw [e]; simp
   have e0:(enc x:D)=.tup [enc x.1,enc x.2]:=rfl;simp only [jA,e0,cY,aH,jo,ar,ah,cM,bM,av,ae,aa,nZ];refine K2.P.iN (k:=x.1) (v:=x.2) gp (by lia) ?_;have adN:=sd (JN pre) x.1 x.2;refine K2.P.iN (k:=x.2) (v:=x.1) az (by lia) ?_;refine oB _ _ ⟨⟨_,_,rfl⟩,(le.put hp).put hp,?_⟩;rw [az,Q5]
  ·rintro τ G' ⟨⟨a,b,rfl⟩,le,gp⟩;exact hN _ _ ⟨⟨_,_,rfl⟩,le,gp⟩
 ·rintro _ G' ⟨⟨a,b,rfl⟩,le,gp⟩;simp only [cu,cO,av,ae,aa];exact DM le hp gp (q p hp)
def R8(l:List (T2×T2)):Pr T3:=l.map fun p=>(⟨p.1.a,p.1.b,1⟩,⟨p.2.a,p.2.b,0⟩)
theorem W4(P:Pr T3):((JN P).map (·.1)).Nodup:=by
 have:∀ (P:Pr T3) (l:List (T3×T3)),(l.map (·.1)).Nodup->((P.foldl (fun l p=>eY (eY l p.1 p.2) p.2 p.1) l).map (·.1)).Nodup:=by
  intro P;induction P with
  | nil=>intro l h; exact h
  | cons p P ih=>intro l h; exact ih _ (qm (qm h))
 exact this P [] cy
def tP:hU :=
 (bZ (bM (fT 2 [] (DF (bF nk (aw (av 0) aQ))) (jA (cY (aH 0) (cY (aH 1) jo))) none (iB (aw (bh kB (av 0) (iB (aw (dC (.int 1)) aQ))) (aw (bh kB (av 1) (iB (aw (dC (.int 0)) aQ))) aQ)))) (aH 1))
 (cu (cO (bF la (aw (cO (bF j7 (aw (av 1) aQ))) aQ)))))
def lB:jU:=fun ds G Q _=>∃ rows:Rows,ds=[enc rows]/\rows.flatten.length<=24/\Q (qu (oK (MV (JN (R8 (nF (pairsOf rows))))))) G
theorem BD(ds:List D)(G:Gp)(Q:DK)(h:lB ds G Q fun _ _=>False):tP (fun _ _=>False) (ends Q) (bo 2 ds) G:=by
 obtain⟨rows,rfl,hl,q⟩:=h;have l1:=B3 (pairsOf rows);have l2:=pairs_len rows;unfold tP;simp only [ends,bo,aq,a8,ak,aB,bg,aF,aP,cM,bM,fT,DF,bF,aw,av,aa,aQ,aH,cu,cO,ar,ah,ae];refine⟨rows,rfl,by lia,?_⟩;generalize hn:nF (pairsOf rows)=l at q l1;have hk:(((bB l).all fun p=>lr p.1)=true):=by
  unfold bB; rw [iV,fm]; intro p _; rfl
 refine⟨hk,?_⟩;have em:((bB l).map fun p=>D.tup [p.1,p.2])=l.map fun p=>D.tup [enc p.1,enc p.2]:=by unfold bB; rw [aS]; rfl
 rw [em];refine⟨C6 (by rw [ao]; lia),?_⟩;refine iK (xs:=l) (f:=fun p=>D.tup [enc p.1,enc p.2]) (fun pre acc τ G'=>G=G'/\(∃ a b,τ=[a,b])/\acc=(R8 pre).map enc) ⟨rfl,⟨_,_,rfl⟩,rfl⟩ (fun _ _ _ _ _=>trivial) ?_ ?_
 ·rintro pre x post acc τ G' N e ⟨rfl,⟨a,b,rfl⟩,rfl⟩ hN;simp only [jA,cY,aH,jo,iB,aw,bh,av,W8,ah,ar,aa,dC,aQ,ak,aB,ae,Fq,aF,aP];refine⟨by decide,by simp,by decide,by decide,by simp,by decide,by decide,hN _ _ _ ⟨rfl,⟨_,_,rfl⟩,?_⟩⟩;unfold R8;rw [aM,aM]; rfl
 ·rintro acc τ G' ⟨rfl,⟨a,b,rfl⟩,rfl⟩ p hp;have lt:(R8 l).length<=24:=by unfold R8; rw [ao]; lia
  refine⟨.ref p,R8 l,rfl,ue (IsL.ref az),by lia,fun p2 qK=>?_⟩;refine jB ((fD.new hp).trans (.new qK)) ((fD.new hp).free qK) az ?_;have lf:=LH (R8 l);exact⟨JN (R8 l),rfl,⟨W4 _,by lia⟩,du q⟩
end JB
namespace JB
open K2.P K2.J
open K2.Y (Po L ND NZ fJ wF jx lg dZ gI jG iM ky Pl)
theorem Ub(l:List (T3×T3))(k:T3):((bB l).filter fun p=>!ip p.1 (enc k))=bB (DW l k):=by
 unfold bB DW;rw [v3];congr 1;refine List.filter_congr fun p _=>?_;show (!ip (enc p.1) (enc k))=_;rw [Enc.eqv]; simp
theorem K1{G:Gp}{a:Nat}{l:List (T3×T3)}{k v:T3}{Q:DK}(h:G a=some (.gK (bB l)))(e:cF l k=some v)(q:Q (enc v) (eV G a (.gK (bB (DW l k))))):FW (.ref a) [enc k] G Q:=by
 refine⟨bB l,enc v,h,⟨rfl,?_,by rw [vh,e]; rfl⟩,by rw [Ub]; exact q⟩;unfold bB; rw [iV,fm]; intro p _; rfl
theorem WE{α:Type} [DecidableEq α]{f:α->α}(h:Iv f){x y e:α}(he:f e=e):jn f x y e=e:=by
 have h1:=h x;have h2:=h y;unfold jn
 grind
theorem vr{f:T3->T3}:∀ {ps:Pr T3},Ok f ps->∀ {e:T3},f e=e->jD f ps e=e:=by
 intro ps;induction ps generalizing f with
 | nil=>intro o e h; exact h
 | cons p ps ih=>intro o e h; exact ih o.tl (WE o.iv h)
theorem sub_len'{α:Type} [DecidableEq α]:∀ (xs ys:List α),xs.Nodup->(∀ x∈xs,x∈ys)->xs.length<=ys.length
 | [],_,_,_=>cw _
 | x :: xs,ys,hn,h=>by
  rw [aY] at hn;have:=sub_len' xs (ys.erase x) hn.2 fun y hy=>(Sy (show y≠x from fun z=>hn.1 (by rw [<-z]; exact hy))).mpr (h y (aL _ hy));have hx:=h x (by simp);rw [Mq hx] at this;have:=OJ hx;rw [ak]; lia
theorem LL{l:List (T3×T3)}{f:T3->T3}(h:Mg l f){E:List T3}(hE:∀ e,f e≠e->e∈E):l.length<=E.length:=by
 have:=sub_len' (l.map fun p:T3×T3=>p.1) E h.nd fun e he=>by
  obtain⟨p,hp,rfl⟩:=List.mem_map.mp he;exact hE _ (h.mem hp).2
 simpa using this
theorem LQ(l:List (T3×T3))(k:T3):(DW l k).length<=l.length:=fN _ _
theorem Hg(f:T3->T3)(ps:Pr T3)(x:T3×T3):cls f (ps++[x])=cls f ps+cl (jD f ps) x.1 x.2:=by rw [um]; rfl
theorem Gm(f:T3->T3)(ps:Pr T3)(x:T3×T3):jD f (ps++[x])=jn (jD f ps) x.1 x.2:=by rw [ud]; rfl
def rJ:hU :=
 (bZ (bM (bF j7 (aw (av 0) aQ)) (aH 2))
 (bZ (bM (dC (.int 0)) (aH 3))
 (bZ (ff (lu (av 1)) (jA (cY (aH 4) (cY (aH 5) jo))) (bZ (bM (tV SM FW (av 2) (aw (av 4) aQ)) (aH 6))
 (bZ (bM (tV SM FW (av 2) (aw (av 5) aQ)) (aH 7))
 (fA (gv (bh (Dh false) (av 6) (av 5))) (bM (bh kB (av 3) (dC (.int 1))) (aH 3)) (bZ (bM (av 7) (nZ (av 2) (av 6)))
 (bM (av 6) (nZ (av 2) (av 7))))))))
 (cu (cO (iB (aw (bF la (aw (cO (av 2)) aQ)) (aw (av 3) aQ))))))))
def ku:jU:=fun ds G Q _=>∃ (P ps:Pr T3),ds=[qu (oK P),enc ps]/\((es P).Nodup/\P.length<=24/\Ok (pt P) ps)/\∀ P':Pr T3,(es P').Nodup->pt P'=jD (pt P) ps->Q (.tup [qu (oK P'),.int (cls (pt P) ps)]) G
theorem AU(ds:List D)(G:Gp)(Q:DK)(h:ku ds G Q fun _ _=>False):rJ (fun _ _=>False) (ends Q) (bo 8 ds) G:=by
 obtain⟨P,ps,rfl,⟨nd,hl,ok⟩,q⟩:=h;unfold rJ;simp only [↓cM,bM,bF,aw,av,bo,↓aq,↓PD,↓a8,↓ak,↓aB,bg,↓aF,↓aP,↓aa,aQ,aH,dC,ends,↓ar,↓ah];refine⟨.tup (P.map enc),P,rfl,rfl,by lia,fun p hp=>?_⟩;simp only [↓cO,↓bo,↓ends,↓cQ,↓bh,↓Si,↓av,↓uj,↓tV,↓aw,↓aQ,↓cu,↓Zr,↓lM,↓bM,↓aH,↓dC,↓dn,↓iB,↓jK,↓tE,↓yC,↓Rk,↓NJ,↓ml,↓AG,↓Ue,↓GY,↓DZ,↓nM,↓gE,↓e9,↓pB,↓bF,↓fT,↓gi,↓Fq,↓zv,↓zu,↓uY,↓uZ,↓gX,↓mR,↓rL,↓ym,↓KS,↓S5,↓S6,↓ja,↓nA,↓KP,↓yk,↓KQ,↓vQ,↓Rx,↓NQ,↓ka,↓xB,↓FX,↓xS,↓pM,↓ye,↓SK,↓SJ,↓true_and,↓and_true,↓Lr,↓DH,↓lh,↓bE,↓o3,↓Gr,↓TU,↓Qu,↓aq,↓a8,↓aF,↓aP,↓aa,↓ae,↓ah,↓ar,↓ak,↓aB,↓bg,↓if_true,↓if_false,↓bq,↓cZ,↓aj,↓cM,↓E9,↓nZ,↓mi,↓Cf,↓Fp,↓wx,↓LV,↓jA,↓cY,↓jo];refine cV (fun τ G'=>∃ (l:List (T3×T3)) (a1 a2 a3 a4:Option D),τ=[some (.tup (P.map enc)),some (enc ps),some (.ref p),some (.int (cls (pt P) ps)),a1,a2,a3,a4]/\fD G G'/\G' p=some (.gK (bB l))/\Mg l (jD (pt P) ps)) ?_ ?_
 ·intro N hN;simp only [ff,↓e9,av,↓ae,↓aa];refine gR ?_;refine eG (xs:=ps) (fun pre τ G'=>∃ (l:List (T3×T3)) (a1 a2 a3 a4:Option D),τ=[some (.tup (P.map enc)),some (enc ps),some (.ref p),some (.int (cls (pt P) pre)),a1,a2,a3,a4]/\fD G G'/\G' p=some (.gK (bB l))/\Mg l (jD (pt P) pre)) ⟨JN P,_,_,_,_,rfl,.new hp,az,LJ nd⟩ (fun _ _ _ _=>trivial) ?_ ?_
  ·rintro pre x post τ G' N2 e ⟨l,a1,a2,a3,a4,rfl,le,gp,fa⟩ oB;have ok1:Ok (pt P) (pre++x :: post):=by rw [<-e]; exact ok
   have Yw:=ok1.left;obtain⟨n1,n2,n3⟩:=Yw.hd;obtain⟨f1,f2,f3,f4⟩:=fa.join Yw.iv n1 n2 n3;have ll:l.length<=(es P).length:=LL fa fun e he=>(wA nd).mp fun z=>he (vr ok1.pre z);rw [JQ] at ll;have e0:(enc x:D)=.tup [enc x.1,enc x.2]:=rfl;rw [e0];simp only [jA,cY,jo,aH,ah,ar];simp only [↓cM,bM,tV,av,↓ae,↓aa,↓ye,↓gp,aw,aQ,aH,↓ar,↓ah,↓true_and];refine K1 gp f1 ?_;simp only [↓az,↓true_and];refine K1 az f2 ?_;simp only [fA,↓cQ,bh,av,↓ae,↓aa,bM,dC,↓gi,aH,↓ar,↓ah,↓cM,nZ];refine⟨_,_,Enc.sn _ _ _ (by decide),Enc.sn _ _ _ (by decide),?_⟩;simp only [↓bE,↓aj,↓Enc.eqv,↓if_false];by_cases c:jD (pt P) pre x.1=x.2
   ·simp only [↓c,↓decide_true,↓if_true];refine oB _ _ ?_;have ec:((cls (pt P) pre+1:Nat):Int)=(cls (pt P) pre:Int)+1:=Int.natCast_add _ _;rw [Hg,Gm,cl,if_pos c,ec];exact⟨_,_,_,_,_,rfl,(le.put hp).put hp,az,f3 c⟩
   ·simp only [↓c,↓decide_false,↓aj,↓if_false];have d1:=LQ l x.1;have d2:=LQ (DW l x.1) x.2;refine K2.P.iN (k:=jD (pt P) pre x.1) (v:=jD (pt P) pre x.2) az (by lia) ?_;have d3:=sd (DW (DW l x.1) x.2) (jD (pt P) pre x.1) (jD (pt P) pre x.2);refine K2.P.iN (k:=jD (pt P) pre x.2) (v:=jD (pt P) pre x.1) az (by lia) ?_;refine oB _ _ ?_;rw [Hg,Gm,cl,if_neg c,Sv];exact⟨_,_,_,_,_,rfl,(((le.put hp).put hp).put hp).put hp,az,f4 c⟩
  ·rintro τ G' ⟨l,a1,a2,a3,a4,rfl,le,gp,fa⟩;exact hN _ _ ⟨l,_,_,_,_,rfl,le,gp,fa⟩
 ·rintro _ G' ⟨l,a1,a2,a3,a4,rfl,le,gp,fa⟩;have iv:Iv (jD (pt P) ps):=Qo ok;have ll:l.length<=(es P).length:=LL fa fun e he=>(wA nd).mp fun z=>he (vr ok z);rw [JQ] at ll;obtain⟨h1,h2⟩:=K4 fa iv;simp only [cu,cO,iB,aw,bF,av,↓ae,↓aa,aQ,↓ak,↓aB];refine jB le hp gp ?_;refine⟨l,rfl,⟨fa.nd,by lia⟩,by decide,du (q _ h1 h2)⟩
end JB
namespace JB
open K2.P K2.J
open K2.Y (Po L ND NZ fJ wF jx lg dZ gI jG iM ky Pl)
def ZG(ns:List Int)(k:PK):Prop:=∃ P,k=oK P/\(es P).Nodup/\∀ e,pt P e≠e↔∃ n∈ns,e∈kK n
structure Uy(S:Su)(ns:List Int):Prop where
 Oq:N1 S
 pl:∀ p∈S,ZG ns p.1
def Ei(ns:List Int):List T3:=ns.flatMap kK
theorem Hu(ns:List Int):(Ei ns).length=4 * ns.length:=by
 induction ns with
 | nil=>rfl
 | cons n ns ih=>unfold Ei at *; rw [cT,aG,ih,ak]; show 4+_=_; lia
theorem Wd{ns:List Int}{P:Pr T3}(nd:(es P).Nodup)(h:∀ e,pt P e≠e↔∃ n∈ns,e∈kK n):P.length<=2 * ns.length:=by
 have:=sub_len' (es P) (Ei ns) nd fun e he=>by
  obtain⟨n,h1,h2⟩:=(h e).mp ((wA nd).mpr he);exact List.mem_flatMap.mpr ⟨n,h1,h2⟩
 rw [JQ,Hu] at this; lia
theorem Yo{ns:List Int}{P:Pr T3}(nd:(es P).Nodup)(hn:ns.Nodup)(h:∀ e,pt P e≠e↔∃ n∈ns,e∈kK n):Dm (pt P) ns:=⟨Px nd,hn,fun n Vf e he=>(h e).mpr ⟨n,Vf,he⟩⟩
theorem WD{f:T3->T3}:∀ {ps:Pr T3},Ok f ps->∀ {e:T3},e∈es ps->jD f ps e=e:=by
 intro ps;induction ps generalizing f with
 | nil=>intro o e h; cases h
 | cons p ps ih =>
  intro o e h;rw [es,bA,bA] at h;rcases h with rfl | rfl | h
  ·exact vr o.tl abi
  ·exact vr o.tl abh
  ·exact ih o.tl h
theorem Tg{n:Int}{ns:List Int}{f:T3->T3}(d:Dm f (n :: ns))(h:∀ e,f e≠e↔∃ m∈n :: ns,e∈kK m)(w:Bool):∀ e,jD f (js n w) e≠e↔∃ m∈ns,e∈kK m:=by
 have ok:=d.ok w;have nn:=(List.nodup_cons.mp d.nd).1;intro e;constructor
 ·intro z;have h1:f e≠e:=fun y=>z (vr ok y);obtain⟨m,hm,he⟩:=(h e).mp h1;rcases List.mem_cons.mp hm with rfl | hm
  ·exact absurd (WD ok ((kJ m w).mem_iff.mpr he)) z
  ·exact⟨m,hm,he⟩
 ·rintro⟨m,hm,he⟩ z;rcases Ln ok z with z | z
  ·have h1:=sT ((kJ n w).mem_iff.mp z);have h2:=sT he;exact nn (by rw [<-h1,h2]; exact hm)
  ·exact(h e).mpr ⟨m,aL _ hm,he⟩ z
theorem Vt{α:Type} [DecidableEq α](f:α->α)(x y:α):cl f x y<=1:=by unfold cl; split <;> decide
theorem Rm(f:T3->T3)(n:Int)(w:Bool):cls f (js n w)<=2:=by
 cases w <;> (show _+(_+0)<=2; have:=Vt f; have a:=fun f x y=>Vt (α:=T3) f x y; have h1:=a f; have h2:=a; grind)
theorem VC:ND LP:=by unfold ND LP; decide
theorem RS:fJ LP=2:=rfl
theorem qk{n:Nat}(h:n<=2 ^ 30):n < tF:=hZ h (by unfold tF; exact Nat.pow_lt_pow_right (by decide) (by decide))
theorem Fo{c:Nat}(h:c<=3):c<=1000/\∀ k,k < c->LP.length ^ k * LP.length<=SZ/\fJ LP ^ k < tF:=by
 refine⟨by lia,fun k hk=>?_⟩;have:k=0\/k=1\/k=2:=by lia
 rcases this with rfl | rfl | rfl
 ·exact⟨by decide,qk (by decide)⟩
 ·exact⟨by decide,qk (by decide)⟩
 ·exact⟨by decide,qk (by decide)⟩
theorem IT{c:Nat}(h:c<=3):fJ (dZ LP c)<=8:=bz (Y.pW LP c) (show 2 ^ c<=2 ^ 3 from km (by decide) h)
theorem Tf{c:Nat}(h:c<=2):(dZ LP c).length<=4:=bz (Y.t7 LP c) (show 2 ^ c<=2 ^ 2 from km (by decide) h)
theorem MA{l:Po}{G:Gp}{Q:Bool->Gp->Prop}(h:Q (!l.isEmpty) G):rz (.kW (bB l)) G Q:=by
 unfold rz HN;dsimp only;have k:((bB l).all fun p=>dH p.1)=true:=by unfold bB; rw [iV,fm]; intro p _; rfl
 rw [if_pos k];have:(bB l).isEmpty=l.isEmpty:=by cases l <;> rfl
 rw [this]; exact h
theorem P6{G:Gp}{a:Nat}{A:Su}{k:PK}{Q:DK}(h:G a=some (.qL (iW A)))(q:Q (.kW (bB ((cF A k).getD []))) G):FY (.ref a) [qu k,.kW []] G Q:=by
 refine⟨_,k,h,rfl,?_⟩;rw [B9];cases e:cF A k with
 | none=>rw [e] at q; exact q
 | some l=>rw [e] at q; exact q
theorem BN{G:Gp}{a:Nat}{A:Su}{k:PK}{l:Po}{Q:Gp->Prop}(h:G a=some (.qL (iW A)))(hz:A.length < SZ)(q:Q (eV G a (.qL (iW (eY A k l))))):IL (.ref a) (qu k) (.kW (bB l)) G Q:=by
 refine⟨_,k,h,rfl,by unfold iW; rw [ao]; exact hz,?_⟩;rw [Pu]; exact q
theorem Jz{G G1:Gp}{p:Nat}{A:Su}{Q:DK}(l:fD G G1)(hp:G p=none)(h1:G1 p=some (.qL (iW A)))(q:Q (.oV (iW A)) G):Mf G1 (.ref p) Q :=
 ⟨fun a=>(G a).isNone,.oV (iW A),.qL h1 (by simp [hp]) (.same _) rfl,by rw [vJ l]; exact q⟩
def term(h n:Int)(rest:List (Int×Int))(g:Fn)(f:T3->T3)(l:Po)(w:Bool):Int:=L (fun j=>Br (jD f (js n w)) rest (kh (cls f (js n w)) (sh (pw h w) (sh j g)))) l
theorem MC(h n:Int)(rest:List (Int×Int))(g:Fn)(f:T3->T3)(l:Po):term h n rest g f l false+term h n rest g f l true=L (fun j=>Br f ((n,h) :: rest) (sh j g)) l:=by
 unfold term;rw [<-Y.VB]; rfl
def za(h n:Int)(rest:List (Int×Int))(g:Fn)(f:T3->T3)(l:Po):List Bool->Int
 | []=>0
 | w :: ws=>term h n rest g f l w+za h n rest g f l ws
theorem IF(h n:Int)(rest:List (Int×Int))(g:Fn)(f:T3->T3)(l:Po)(ws:List Bool)(w:Bool):za h n rest g f l (ws++[w])=za h n rest g f l ws+term h n rest g f l w:=by
 induction ws with
 | nil=>simp [za]
 | cons v ws ih=>rw [aF,za,za,ih]; lia
structure Oy(n h:Int)(rest:List (Int×Int))(pre:Su)(f:T3->T3)(l:Po)(ws:List Bool)(A:Su):Prop where
 ok:Uy A (rest.map (·.1))
 len:A.length<=2 * pre.length+ws.length
 fJ:ic A<=8 * ic pre+ws.length * (4 * fJ l)
 val:∀ g,nW rest g A=nW ((n,h) :: rest) g pre+za h n rest g f l ws
theorem Oy.step{n h:Int}{rest:List (Int×Int)}{pre:Su}{f:T3->T3}{l:Po}{ws:List Bool}{A:Su}(a:Oy n h rest pre f l ws A){P':Pr T3}{w:Bool}(nd:(es P').Nodup)(e:pt P'=jD f (js n w))(hp:∀ e,jD f (js n w) e≠e↔∃ m∈rest.map (·.1),e∈kK m) :
  Oy n h rest pre f l (ws++[w]) (tO A (oK P') l (cls f (js n w)) (pw h w)):=by
 refine⟨⟨OZ a.ok.Oq _ _ _ _,fun p uE=>?_⟩,?_,?_,fun g=>?_⟩
 ·unfold tO eY at uE;have here:ZG (rest.map (·.1)) (oK P'):=⟨P',rfl,nd,fun e'=>by rw [e]; exact hp e'⟩;split at uE
  ·obtain⟨q,hq,rfl⟩:=List.mem_map.mp uE;have:=a.ok.pl q hq;split <;> exact this
  ·rcases List.mem_append.mp uE with uE | uE
   ·exact a.ok.pl p uE
   ·rw [ck] at uE; subst uE; exact here
 ·have h1:=a.len;have h2:(tO A (oK P') l (cls f (js n w)) (pw h w)).length<=A.length+1:=by unfold tO eY; split <;> simp
  rw [aG,cg]; lia
 ·have h1:=a.fJ;have h2:=OY a.ok.Oq (oK P') l (Rm f n w) (pw h w);rw [aG,cg,Nat.add_mul,Nat.one_mul]; lia
 ·rw [OX a.ok.Oq,a.val,IF,JV,e];unfold term;lia
end JB
namespace JB
open K2.P K2.J
open K2.Y (Po L ND NZ fJ wF jx lg dZ gI jG iM ky Pl)
theorem Oy.zero{n h:Int}{rest:List (Int×Int)}{f:T3->T3}{l:Po}:Oy n h rest [] f l [] [] :=
 ⟨⟨⟨cy,fun p hp=>by cases hp⟩,fun p hp=>by cases hp⟩,aC _,cw _,fun g=>rfl⟩
theorem Oy.next{n h:Int}{rest:List (Int×Int)}{pre:Su}{x:PK×Po}{l':Po}{f':T3->T3}{A:Su}(a:Oy n h rest pre (pt (dec x.1)) x.2 [false,true] A):Oy n h rest (pre++[x]) f' l' [] A:=by
 refine⟨a.ok,?_,?_,fun g=>?_⟩
 ·have:=a.len;rw [aG,cg]; simp at this ⊢; lia
 ·have:=a.fJ;rw [zI];simp only [ak,aB,ic] at this ⊢; lia
 ·rw [a.val,KC];show _+(term h n rest g _ x.2 false+(term h n rest g _ x.2 true+0))=_+(L _ x.2+0)+0;have:=MC h n rest g (pt (dec x.1)) x.2;lia
theorem PV{S pre post:Su}{x:PK×Po}(e:S=pre++x :: post):ic pre+fJ x.2<=ic S:=by
 rw [e,zI,ic]; lia
theorem Cd(S:Su)(p:PK×Po):jJ (S++[p])=if p.2.isEmpty=true then jJ S else jJ S++[p]:=by
 unfold jJ;rw [eK];by_cases h:p.2.isEmpty=true
 ·rw [if_pos h,tN (by simp [h])]; simp
 ·rw [if_neg h,tM (by simp [h])]; simp
theorem Qk{S pre post:Su}{x:PK×Po}(nd:(S.map (·.1)).Nodup)(e:S=pre++x :: post):x.1∉(jJ pre).map (·.1):=by
 intro z;obtain⟨q,hq,e2⟩:=List.mem_map.mp z;have Vd:=(List.mem_filter.mp hq).1;rw [e,aM,aq,cz] at nd;exact nd.2.2 _ (bP Vd) _ cA e2
def uW:hU :=
 (bZ (bM Rj (aH 3))
 (bZ (Ha 3 (ff (vt (av 0)) (jA (cY (aH 4) (cY (aH 5) jo))) (ff (lu (iB (aw (dC (.int 0)) (aw (dC (.int 1)) aQ)))) (aH 6) (bZ (bM (bF ku (aw (av 4) (aw (bF sE (aw (av 1) (aw (av 6) aQ))) aQ))) (aH 7))
 (bZ (bM (bF gI (aw (cO (bF jG (aw (cO (av 5)) (aw (cO (bF iM (aw (cO (Hb [(2,-1),(-2,-1)])) (aw (cO (bh mz (av 7) (dC (.int 1)))) aQ)))) aQ)))) (aw (cO (bF ot (aw (av 2) (aw (av 6) aQ)))) (aw (cO (dC (.int 1))) aQ)))) (aH 8))
 (bM (cO (bF ky (aw (cO (tV tyP FY (av 3) (aw (cO (bh mz (av 7) (dC (.int 0)))) (aw (cO tE) aQ)))) (aw (cO (av 8)) aQ)))) (GD (av 3) (bh mz (av 7) (dC (.int 0))))))))))
 (bZ (bM Rj (aH 9))
 (bZ (Ha 3 (ff (vt (av 3)) (jA (cY (aH 4) (cY (aH 5) jo))) (fA (gv (av 5)) (bM (cO (av 5)) (GD (av 9) (av 4))) dn)))
 (cu (cO (av 9)))))))
def mJ:jU:=fun ds G Q _=>∃ (S:Su) (n h:Int) (rest:List (Int×Int)),ds=[.oV (iW S),.int n,.int h]/\(Uy S (n :: rest.map (·.1))/\(n :: rest.map (·.1)).Nodup/\rest.length<=11/\S.length<=1048576/\ic S<=1048576) /\
 ∀ S':Su,Uy S' (rest.map (·.1))->S'.length<=ic S'->ic S'<=8 * ic S->(∀ g,nW rest g S'=nW ((n,h) :: rest) g S)->Q (.oV (iW S')) G
theorem Er(ds:List D)(G:Gp)(Q:DK)(h:mJ ds G Q fun _ _=>False):uW (fun _ _=>False) (ends Q) (bo 10 ds) G:=by
 obtain⟨S,n,h,rest,rfl,⟨so,nn,hr,hSl,hSn⟩,q⟩:=h;unfold uW;simp only [↓cM,bM,Rj,gO,aH,ends,bo,↓aq,↓a8,↓ak,↓aB,bg,↓aF,↓aP,↓ar,↓ah];intro p hp;refine cV (fun τ G'=>∃ (A:Su) (a1 a2 a3 a4 a5 a6:Option D),G=G'/\τ=[some (.oV (iW S)),some (.int n),some (.int h),some (.oV (iW A)),a1,a2,a3,a4,a5,a6]/\Oy n h rest S (fun e=>e) [] [] A) ?_ ?_
 ·intro N hN;simp only [Ha];simp only [ff,vt,av,↓aa];show qA _ _ _ ((iW S).map _) _ _ _ _;have em:((iW S).map fun p=>D.tup [qu p.1,p.2])=S.map fun p=>D.tup [qu p.1,.kW (bB p.2)]:=by unfold iW; rw [aS]; rfl
  rw [em];refine eG (xs:=S) (f:=fun p=>D.tup [qu p.1,.kW (bB p.2)]) (fun pre τ G'=>∃ (A:Su) (a1 a2 a3 a4 a5 a6:Option D),fD G G'/\G' p=some (.qL (iW A))/\τ=[some (.oV (iW S)),some (.int n),some (.int h),some (.ref p),a1,a2,a3,a4,a5,a6]/\Oy n h rest pre (fun e=>e) [] [] A)
   ⟨[],_,_,_,_,_,_,.new hp,az,rfl,.zero⟩ (fun _ _ _ _=>trivial) ?_ ?_
  ·rintro pre x post τ G' N2 e ⟨A,a1,a2,a3,a4,a5,a6,le,gp,rfl,af⟩ oB;obtain⟨P,ek,nd,pl⟩:=so.pl x (by rw [e]; simp);have dm:=Yo nd nn pl;have pll:=Wd nd pl;have hx:=so.Oq.2 x (by rw [e]; simp);have hnx:=PV e;have hlx:=Dt hx.2;have Ab:pre.length < S.length:=by rw [e]; simp
   have ed:dec x.1=P:=by rw [ek,JV]
   simp only [jA,cY,jo,aH,ah,ar];simp only [ff,↓e9,iB,aw,dC,aQ,↓ak,↓aB,↓DH];refine⟨by decide,?_⟩;refine eG (xs:=[false,true]) (f:=fun w=>D.int (wI w)) (fun ws τ G'=>∃ (A:Su) (a3 a4 a5 a6:Option D),fD G G'/\G' p=some (.qL (iW A))/\τ=[some (.oV (iW S)),some (.int n),some (.int h),some (.ref p),some (qu x.1),some (.kW (bB x.2)),a3,a4,a5,a6]/\Oy n h rest pre (pt P) x.2 ws A)
    ⟨A,_,_,_,_,le,gp,rfl,⟨af.ok,af.len,by have:=af.fJ; simp only [aB,Nat.zero_mul] at this ⊢; exact this,af.val⟩⟩ (fun _ _ _ _=>trivial) ?_ ?_
   ·rintro ws w wt τ G2 N3 ew ⟨B,b3,b4,b5,b6,Se,Ox,rfl,bf⟩ wR;have XQ:ws.length<=1:=by
     have:=congrArg dU ew;simp at this; lia
    have hc:=Rm (pt P) n w;have bl:=bf.len;have bn:=bf.fJ;have bn2:ic B<=8388608:=by
     have:ws.length * (4 * fJ x.2)<=1 * (4 * fJ x.2):=kn _ XQ;lia
    simp only [aH,↓cM,bM,bF,aw,av,↓ar,ek,↓ah,↓ae,↓aa,aQ,cO,bh,dC,tV,tE];refine⟨n,w,rfl,?_⟩;refine⟨P,js n w,rfl,⟨nd,by simp only [ak,ao] at pll; lia,dm.ok w⟩,fun P' nd' ep=>?_⟩;have p0:Oy n h rest pre (pt P) x.2 (ws++[w]) (tO B (oK P') x.2 (cls (pt P) (js n w)) (pw h w)):=bf.step nd' ep (Tg dm pl w);simp only [↓ja,L9,XF];generalize ec:cls (pt P) (js n w)=c at hc p0;have hx1:=hx.1;have l1:(dZ LP c).length<=4:=Tf hc;have l2:x.2.length * (dZ LP c).length<=1048576 * 4:=Nat.mul_le_mul (by lia) l1;have l3:=Y.zy x.2 (dZ LP c);have l4:fJ x.2 * fJ (dZ LP c)<=1048576 * 8:=Nat.mul_le_mul (by lia) (IT (by lia));have l5:=Y.t9 x.2 (dZ LP c);have l6:(Tc x.2 c (pw h w)).length<=(jx x.2 (dZ LP c)).length:=bz (Y.wC _) (by rw [ao]; exact aC _);have l7:=Dt (bf.ok.Oq.get (oK P')).2;have l8:=Lf B (oK P');refine du ?_;unfold Hb;intro p5 f5;refine jB (.new f5) f5 az (du ?_);refine⟨_,LP,c,rfl,⟨rfl,VC⟩,Fo (by lia),by rw [RS]; exact qk (by decide),fun p6 f6=>?_⟩;refine jB (.new f6) f6 az ?_;refine⟨_,_,x.2,dZ LP c,rfl,⟨rfl,hx1⟩,⟨rfl,Y.wB _ _⟩,bz l2 (by decide),⟨qk (by lia),qk (bz (IT (by lia)) (by decide))⟩,fun p7 f7=>?_⟩;refine jB (.new f7) f7 az ?_;refine⟨h,w,rfl,du (du ?_)⟩;refine⟨_,jx x.2 (dZ LP c),pw h w,1,rfl,⟨rfl,Y.wz _ _⟩,bz (bz l3 l2) (by decide),⟨qk (bz (bz l5 l4) (by decide)),qk (by decide)⟩,fun p8 f8=>?_⟩;have h8:p≠p8:=by rintro rfl; rw [Ox] at f8; cases f8
    refine⟨by unfold tyP; simp only [cL h8,Ox],du ?_⟩;intro p9 f9;refine jB (.new f9) f9 az ?_;refine P6 (by rw [cL h8]; exact Ox) (du ?_);refine jB (.new f8) f8 az ?_;refine⟨_,_,(cF B (oK P')).getD [],Tc x.2 c (pw h w),rfl,⟨rfl,(bf.ok.Oq.get _).1⟩,⟨rfl,Y.MQ (Y.wz _ _) _ _⟩,?_,fun p10 f10=>?_⟩
    ·show _<=16777216;lia
    refine jB (.new f10) f10 az ?_;unfold GD;simp only [av,↓ae,↓aa,bh,dC,↓ja,XF];refine BN Ox (show _ < 16777216 by lia) ?_;rw [<-ek];exact wR _ _ ⟨_,_,_,_,_,Se.put hp,az,rfl,p0⟩
   ·rintro τ G2 ⟨B,b3,b4,b5,b6,Se,Ox,rfl,bf⟩;refine oB _ _ ⟨B,_,_,_,_,_,_,Se,Ox,rfl,?_⟩;rw [<-ed] at bf;exact bf.next
  ·rintro τ G' ⟨A,a1,a2,a3,a4,a5,a6,le,gp,rfl,af⟩;simp only [↓ae,↓aa,↓ar,↓ah];refine Jz le hp gp ?_;exact hN _ _ ⟨A,_,_,_,_,_,_,rfl,rfl,af⟩
 ·rintro _ G' ⟨A,a1,a2,a3,a4,a5,a6,rfl,rfl,af⟩;simp only [↓cM,bM,Rj,gO,aH,↓ar,↓ah];intro p2 qK;have al:=af.len;have an:=af.fJ;simp only [aB,Nat.zero_mul,Sv] at al an;refine cV (fun τ G'=>∃ (a1 a2 a3 a4 a5:Option D),τ=[some (.oV (iW S)),some (.int n),some (.int h),some (.oV (iW A)),a1,a2,a3,a4,a5,some (.ref p2)]/\fD G G'/\G' p2=some (.qL (iW (jJ A)))) ?_ ?_
  ·intro N hN;simp only [Ha];simp only [ff,vt,av,↓ae,↓aa];show qA _ _ _ ((iW A).map _) _ _ _ _;have em:((iW A).map fun p=>D.tup [qu p.1,p.2])=A.map fun p=>D.tup [qu p.1,.kW (bB p.2)]:=by unfold iW; rw [aS]; rfl
   rw [em];refine eG (xs:=A) (f:=fun p=>D.tup [qu p.1,.kW (bB p.2)]) (fun pre τ G'=>∃ (a1 a2 a3 a4 a5:Option D),τ=[some (.oV (iW S)),some (.int n),some (.int h),some (.oV (iW A)),a1,a2,a3,a4,a5,some (.ref p2)]/\fD G G'/\G' p2=some (.qL (iW (jJ pre))))
    ⟨_,_,_,_,_,rfl,.new qK,az⟩ (fun _ _ _ _=>trivial) ?_ ?_
   ·rintro pre x post τ G' N2 e ⟨b1,b2,b3,b4,b5,rfl,le,gp⟩ oB;simp only [jA,cY,jo,aH,ah,ar];simp only [fA,↓cQ,av,↓ae,↓aa,bM,cO,dn];refine MA ?_;have Ab:pre.length < A.length:=by rw [e]; simp
    have hkl:(jJ pre).length<=pre.length:=fN _ _;by_cases c:x.2.isEmpty=true
    ·simp only [c,bq,aj,if_false,dn];refine oB _ _ ⟨_,_,_,_,_,rfl,le,?_⟩;rw [Cd,if_pos c]; exact gp
    ·have c':x.2.isEmpty=false:=by simpa using c
     simp only [c',cZ,if_true];refine du ?_;unfold GD;simp only [av,↓ae,↓aa];refine BN gp (show _ < 16777216 by lia) ?_;refine oB _ _ ⟨_,_,_,_,_,rfl,le.put qK,?_⟩;rw [az,Cd,if_neg c,Y.lO (Qk af.ok.Oq.1 e)]
   ·rintro τ G' ⟨b1,b2,b3,b4,b5,rfl,le,gp⟩;simp only [↓ae,↓aa,↓ar,↓ah];exact du (hN _ _ ⟨_,_,_,_,_,rfl,le,gp⟩)
  ·rintro _ G' ⟨b1,b2,b3,b4,b5,rfl,le,gp⟩;simp only [cu,cO,av,↓ae,↓aa];refine Jz le qK gp ?_;refine q (jJ A) ⟨Gj af.ok.Oq,fun p uE=>af.ok.pl p (List.mem_filter.mp uE).1⟩ ?_ ?_ fun g=>?_
   ·have:jJ (jJ A)=jJ A:=by unfold jJ; rw [List.filter_filter]; simp
    have h2:=Ql (Gj af.ok.Oq);rw [this] at h2; exact h2
   ·exact bz (Qj A) an
   ·rw [Qi,af.val];show _+0=_;lia
end JB
namespace JB
open K2.P K2.J
open K2.Y (Po L ND NZ fJ wF jx lg dZ gI jG iM ky Pl)
variable {rows:Rows}
def eO(s:T2):T3:=⟨s.a,s.b,1⟩
def eI(s:T2):T3:=⟨s.a,s.b,0⟩
def Oo(ps:List (T3×T3)):Pr T3:=ps.map fun p=>(eO p.1.s,eI p.2.s)
def KG(rows:Rows):Pr T3:=Oo (pairsOf rows)
def fr(rows:Rows):T3->T3:=pt (KG rows)
def lo(rows:Rows):Nat:=(rows.filter fun r=>r.isEmpty).length
def nh(rows:Rows):List (Int×Int):=(names rows).map fun n=>(n,handOf rows n)
theorem GS:∀ (P:Pr T3),(es P).Perm (P.map (·.1)++P.map (·.2))
 | []=>.refl _
 | p :: P=>by
  rw [es,aq,aq,aF];refine CW _ ?_;exact((GS P).cons p.2).trans List.perm_middle.symm
theorem UJ{ps:List (T3×T3)}(h1:(ps.map fun p=>p.1.s).Nodup)(h2:(ps.map fun p=>p.2.s).Nodup):(es (Oo ps)).Nodup:=by
 refine(GS _).nodup_iff.mpr (List.nodup_append.mpr ⟨?_,?_,?_⟩)
 ·have:(Oo ps).map (·.1)=(ps.map fun p=>p.1.s).map eO:=by unfold Oo; rw [aS,aS]; rfl
  rw [this];refine wH h1 fun i _ j _ e=>?_;injection e with e1 e2
  cases i; cases j; simp only at e1 e2; rw [e1,e2]
 ·have:(Oo ps).map (·.2)=(ps.map fun p=>p.2.s).map eI:=by unfold Oo; rw [aS,aS]; rfl
  rw [this];refine wH h2 fun i _ j _ e=>?_;injection e with e1 e2
  cases i; cases j; simp only at e1 e2; rw [e1,e2]
 ·intro a ha b hb e;obtain⟨p,hp,rfl⟩:=List.mem_map.mp ha;obtain⟨q,hq,rfl⟩:=List.mem_map.mp hb;obtain⟨p',_,rfl⟩:=List.mem_map.mp hp;obtain⟨q',_,rfl⟩:=List.mem_map.mp hq;injection e with _ _ e3
  cases e3
theorem y9(d:Dr rows):(es (KG rows)).Nodup:=UJ (QX d) (V0 d)
theorem VR(d:Dr rows):R8 (nF (pairsOf rows))=KG rows:=by
 rw [P2 d];unfold R8 KG Oo;rw [aS]; rfl
theorem VS(d:Dr rows)(e:T3):e∈es (KG rows)↔∃ p∈rows.flatten,e=eO p.s\/e=eI p.s:=by
 rw [qa];constructor
 ·rintro⟨q,hq,z⟩;obtain⟨pq,hpq,rfl⟩:=List.mem_map.mp hq;have h1:pq.1∈rows.flatten:=by rw [<-o8 rows]; exact bP hpq
  have h2:pq.2∈rows.flatten:=(o7 rows).mem_iff.mp (bP hpq);rcases z with z | z
  ·exact⟨_,h1,.inl z⟩
  ·exact⟨_,h2,.inr z⟩
 ·rintro⟨p,hp,z | z⟩
  ·obtain⟨q,hq,_⟩:=QR hp;exact⟨_,List.mem_map.mpr ⟨_,hq,rfl⟩,.inl z⟩
  ·obtain⟨q,hq,_⟩:=QQ hp;exact⟨_,List.mem_map.mpr ⟨_,hq,rfl⟩,.inr z⟩
theorem yg(d:Dr rows)(e:T3):e∈es (KG rows)↔∃ n∈names rows,e∈kK n:=by
 rw [VS d];constructor
 ·rintro⟨p,hp,z⟩;have hn:p.a∈names rows:=by
   rw [o9];rcases d.way p hp with w | w
   ·exact⟨p,hp,w,rfl⟩
   ·exact⟨_,d.Jk p hp,by simp [w],rfl⟩
  refine⟨p.a,hn,?_⟩;rcases d.way p hp with w | w <;> rcases z with rfl | rfl <;> simp [kK,eO,eI,T3.s,w]
 ·rintro⟨n,hn,he⟩;obtain⟨p,hp,w,rfl⟩:=o9.mp hn;have hm:=d.Jk p hp;unfold kK at he;simp only [bA,bO,or_false] at he;have e0:p.s=⟨p.a,0⟩:=by show (⟨p.a,p.b⟩:T2)=_; rw [w]
  have e1:T3.s ⟨p.a,1 - p.b,p.c⟩=⟨p.a,1⟩:=by show (⟨p.a,1 - p.b⟩:T2)=_; rw [w]; rfl
  rcases he with rfl | rfl | rfl | rfl
  ·exact⟨p,hp,.inr (by rw [e0]; rfl)⟩
  ·exact⟨_,hm,.inl (by rw [e1]; rfl)⟩
  ·exact⟨_,hm,.inr (by rw [e1]; rfl)⟩
  ·exact⟨p,hp,.inl (by rw [e0]; rfl)⟩
theorem zM(d:Dr rows):(names rows).Nodup:=by
 unfold names;refine ME ?_;have h:=d.nd;have:∀ {L:List T3},(L.map T3.s).Nodup->((L.filter fun p=>p.b == 0).map (·.a)).Nodup:=by
  intro L;induction L with
  | nil=>intro _; exact cy
  | cons p L ih =>
   intro h;rw [aq,aY] at h;rw [bK];split
   ·rename_i hp;rw [aq,aY];refine⟨fun z=>h.1 ?_,ih h.2⟩;obtain⟨q,hq,e⟩:=List.mem_map.mp z;have Vd:=List.mem_filter.mp hq;refine List.mem_map.mpr ⟨q,Vd.1,?_⟩;have b1:p.b=0:=by simpa using hp
    have b2:q.b=0:=by simpa using Vd.2
    show (⟨q.a,q.b⟩:T2)=⟨p.a,p.b⟩;rw [e,b1,b2]
   ·exact ih h.2
 exact this h
theorem QY(d:Dr rows):Dm (fr rows) (names rows) :=
 ⟨Px (y9 d),zM d,fun n hn e he=>(wA (y9 d)).mpr ((yg d e).mpr ⟨n,hn,he⟩)⟩
theorem Jh(d:Dr rows):2 * (names rows).length<=rows.flatten.length:=by
 have h:=sub_len' ((names rows).flatMap fun n=>[(⟨n,0⟩:T2),⟨n,1⟩]) (rows.flatten.map T3.s) ?_ ?_
 ·have:((names rows).flatMap fun n=>[(⟨n,0⟩:T2),⟨n,1⟩]).length=2 * (names rows).length:=by
   generalize names rows=l;induction l with
   | nil=>rfl
   | cons n l ih=>rw [cT,aG,ih]; simp only [ak,aB]; lia
  rw [this,ao] at h; exact h
 ·have:∀ {l:List Int},l.Nodup->(l.flatMap fun n=>[(⟨n,0⟩:T2),⟨n,1⟩]).Nodup:=by
   intro l;induction l with
   | nil=>intro _; exact cy
   | cons n l ih =>
    intro h;rw [aY] at h;rw [cT,cz];refine⟨by simp,ih h.2,fun a ha b hb e=>?_⟩;obtain⟨m,hm,hb⟩:=List.mem_flatMap.mp hb;have ea:a.a=n:=by simp only [bA,bO,or_false] at ha; rcases ha with rfl | rfl <;> rfl
    have eb:b.a=m:=by simp only [bA,bO,or_false] at hb; rcases hb with rfl | rfl <;> rfl
    rw [e,eb] at ea;exact h.1 (ea ▸ hm)
  exact this (zM d)
 ·intro s hs;obtain⟨n,hn,hs⟩:=List.mem_flatMap.mp hs;obtain⟨p,hp,w,rfl⟩:=o9.mp hn;simp only [bA,bO,or_false] at hs;rcases hs with rfl | rfl
  ·exact List.mem_map.mpr ⟨p,hp,by show (⟨p.a,p.b⟩:T2)=_; rw [w]⟩
  ·exact List.mem_map.mpr ⟨_,d.Jk p hp,by show (⟨p.a,1 - p.b⟩:T2)=_; rw [w]; rfl⟩
theorem Zc(d:Dr rows){n:Int}(h:n∈names rows):∃ p∈rows.flatten,p.a=n:=by
 obtain⟨p,hp,_,e⟩:=o9.mp h;exact⟨p,hp,e⟩
theorem ze(d:Dr rows):∀ r∈rows,r.length<=24:=fun r hr=>by
 have h1:=d.HY;obtain⟨a,b,e⟩:=A5 hr;rw [e,kZ,fE,aG,aG] at h1;lia
def B2(rows:Rows)(ns:List Int):List (Int×Int):=ns.map fun n=>(n,handOf rows n)
theorem Lg(rows:Rows)(ns:List Int):(B2 rows ns).map (·.1)=ns:=by
 unfold B2;rw [aS];exact jL ns
theorem zip_map(f:Int->Int):∀ l:List Int,l.zip (l.map f)=l.map fun n=>(n,f n)
 | []=>rfl
 | n :: l=>by rw [aq,qG,zip_map f l,aq]
theorem aaQ{k:Nat}(h:k<=5):8 * 8 ^ k<=1048576:=by
 have:8 ^ k<=8 ^ 5:=km (by decide) h;lia
def BV:hU :=
 (bZ (bM (fT 1 [0] (lu (av 1)) (aH 0) none (bF i8 (aw (av 1) (aw (av 0) aQ)))) (aH 2))
 (bZ (bM (uj qM (aw (fT 1 [] (lu (av 0)) (aH 0) (some (ml (gv (av 0)))) (av 0)) aQ)) (aH 3))
 (bZ (bM (cO (Ri (bF lB (aw (av 0) aQ)) (cO (bF iM (aw (cO (Hb [(2,-1),(-2,-1)])) (aw (cO (av 3)) aQ)))))) (aH 4))
 (bZ (ff (QB (av 1) (av 2)) (jA (cY (aH 5) (cY (aH 6) jo))) (bM (cO (bF mJ (aw (av 4) (aw (av 5) (aw (av 6) aQ))))) (aH 4)))
 (cu (cO (av 4)))))))
def sD:jU:=fun ds G Q _=>∃ (rows:Rows) (ns:List Int),ds=[enc rows,enc ns]/\(Dr rows/\ns.Perm (names rows)/\ns.length<=6) /\
 ∀ S':Su,Uy S' []->ic S'<=2097152->(∀ g,nW [] g S'=Br (fr rows) (B2 rows ns) (kh (lo rows) g))->Q (.oV (iW S')) G
theorem NY(ds:List D)(G:Gp)(Q:DK)(h:sD ds G Q fun _ _=>False):BV (fun _ _=>False) (ends Q) (bo 7 ds) G:=by
 obtain⟨rows,ns,rfl,⟨d,hp,hl⟩,q⟩:=h;have HY:=d.HY;have str:=d.str;have nn:ns.Nodup:=hp.nodup_iff.mpr (zM d);have lol:lo rows<=3:=bz (fN _ _) str;unfold BV;simp only [↓cM,bM,fT,↓e9,av,bo,↓aq,↓a8,↓ak,↓aB,bg,↓aF,↓aP,↓ae,↓aa,aH,uj,aw,↓ar,↓ah,aQ,cO,ends];refine gR ⟨C6 (by rw [ao]; lia),?_⟩;refine iK (xs:=ns) (fun pre acc τ G'=>G=G'/\(∃ a,τ=[a,some (enc rows)])/\acc=(pre.map (handOf rows)).map D.int) ⟨rfl,⟨_,rfl⟩,rfl⟩ (fun _ _ _ _ _=>trivial) ?_ ?_
 ·rintro pre n post acc τ G' N e ⟨rfl,⟨a,rfl⟩,rfl⟩ hN;have hn:n∈names rows:=hp.mem_iff.mp (by rw [e]; simp);simp only [aH,bF,aw,av,↓ah,yB,↓ae,↓aa,aQ];refine⟨rows,n,rfl,⟨by lia,Zc d hn⟩,?_⟩;refine hN _ _ _ ⟨rfl,⟨_,rfl⟩,?_⟩;rw [aM,aM]; rfl
 rintro acc τ G' ⟨rfl,⟨a,rfl⟩,rfl⟩ p1 f1;refine gR ⟨C6 (by rw [ao]; lia),?_⟩;refine iK (xs:=rows) (fun pre acc τ G'=>eV G p1 (.lst ((ns.map (handOf rows)).map D.int))=G'/\(∃ a,τ=[a])/\acc=(pre.filter fun r=>r.isEmpty).map enc) ⟨rfl,⟨_,rfl⟩,rfl⟩ (fun _ _ _ _ _=>trivial) ?_ ?_
 ·rintro pre r post acc τ G' N e ⟨rfl,⟨a,rfl⟩,rfl⟩ hN;simp only [aH,ml,↓cQ,av,↓ah,↓aa];show rz (.cW (r.map enc)) _ _;unfold rz HN;simp only [];by_cases c:r.isEmpty=true
  ·have c2:(r.map (enc:T3->D)).isEmpty=true:=by cases r with
    | nil=>rfl
    | cons _ _=>cases c
   simp only [c2,bq,cZ,if_true];refine hN _ _ _ ⟨rfl,⟨_,rfl⟩,?_⟩;simp only [eK,bK,c,if_true,pE,aM,aq,a8]
  ·have c2:(r.map (enc:T3->D)).isEmpty=false:=by cases r with
    | nil=>exact absurd rfl c
    | cons _ _=>rfl
   simp only [c2,bq,cZ,if_false,aj];refine hN _ _ _ ⟨rfl,⟨_,rfl⟩,?_⟩;have c':r.isEmpty=false:=by simpa using c
   simp only [eK,bK,c',if_false,aj,pE,cC]
 rintro acc τ G' ⟨rfl,⟨a,rfl⟩,rfl⟩ p2 f2;have p12:p1≠p2:=by rintro rfl; rw [az] at f2; cases f2
 simp only [Ho az,ao];simp only [Ri,bF,aw,av,↓aa,aQ,cO,↓ae];have elo:(rows.filter fun r=>r.isEmpty).length=lo rows:=rfl;rw [elo];refine⟨rows,rfl,by lia,?_⟩;rw [VR d];have nd:=y9 d;obtain⟨n0,e0⟩:=K4 (LJ nd) (Px nd);generalize hP0:MV (JN (KG rows))=P0 at n0 e0;unfold Hb;intro p5 f5;refine jB (.new f5) f5 az (du ?_);refine⟨_,LP,lo rows,rfl,⟨rfl,VC⟩,Fo lol,by rw [RS]; exact qk (by decide),fun p6 f6=>?_⟩;refine jB (.new f6) f6 az ?_;refine⟨oK P0,rfl,fun p7 f7=>?_⟩;have g1:fD G (eV (eV G p1 (.lst ((ns.map (handOf rows)).map D.int))) p2 (.lst (((rows.filter fun r=>r.isEmpty)).map enc))):=(fD.new f1).trans (.new f2);refine Jz (A:=[(oK P0,dZ LP (lo rows))]) (.new f7) f7 az ?_;generalize hG2:eV (eV G p1 (.lst ((ns.map (handOf rows)).map D.int))) p2 (.lst (((rows.filter fun r=>r.isEmpty)).map enc))=G2 at g1;have gh:G2 p1=some (.lst ((ns.map (handOf rows)).map D.int)):=by rw [<-hG2,cL p12,az]
 refine cV (fun τ G'=>∃ (S:Su) (a b:Option D),G'=G2/\τ=[some (enc rows),some (enc ns),some (.ref p1),some (.int (lo rows)),some (.oV (iW S)),a,b]/\Uy S []/\ic S<=2097152/\∀ g,nW [] g S=Br (fr rows) (B2 rows ns) (kh (lo rows) g)) ?_ ?_
 ·intro N hN;simp only [ff,QB,av,↓ae,↓aa];have hz:pK (ns.map enc) ((ns.map (handOf rows)).map D.int)=(B2 rows ns).map enc:=by
   have:pK (ns.map enc) ((ns.map (handOf rows)).map enc)=(ns.zip (ns.map (handOf rows))).map enc:=yZ _ _;refine this.trans ?_;rw [zip_map]; rfl
  refine Nl (IsL.enc ns) (IsL.ref gh) fun ok b7=>?_;rw [hz];have hnl:(B2 rows ns).length=ns.length:=by unfold B2; rw [ao]
  have start:∀ g,nW (B2 rows ns) g [(oK P0,dZ LP (lo rows))]=Br (fr rows) (B2 rows ns) (kh (lo rows) g):=fun g=>by
   show L _ _+0=_;rw [ux,EA,JV,e0];have:=congrFun (Jo (fr rows) (B2 rows ns) g (lo rows) 0) 0;simp only [EA] at this;rw [SX] at this;exact this
  have so0:Uy [(oK P0,dZ LP (lo rows))] ((B2 rows ns).map (·.1)):=by
   refine⟨⟨by simp,fun p uE=>?_⟩,fun p uE=>?_⟩
   ·rw [ck] at uE; subst uE; exact⟨Y.wB _ _,Y.MT _ _⟩
   ·rw [ck] at uE; subst uE;refine⟨P0,rfl,n0,fun e=>?_⟩;rw [e0,wA nd,yg d,Lg];exact⟨fun ⟨n,h1,h2⟩=>⟨n,hp.mem_iff.mpr h1,h2⟩,fun ⟨n,h1,h2⟩=>⟨n,hp.mem_iff.mp h1,h2⟩⟩
  refine eG (xs:=B2 rows ns) (fun pre τ G'=>∃ (S:Su) (a b:Option D),G'=G2/\τ=[some (enc rows),some (enc ns),some (.ref p1),some (.int (lo rows)),some (.oV (iW S)),a,b]/\Uy S (((B2 rows ns).drop pre.length).map (·.1))/\(S.length<=8 * 8 ^ pre.length/\ic S<=8 * 8 ^ pre.length)/\∀ g,nW ((B2 rows ns).drop pre.length) g S=Br (fr rows) (B2 rows ns) (kh (lo rows) g))
   ⟨_,_,_,rfl,rfl,so0,⟨(by decide:1<=8 * 8 ^ 0),bz (Nat.le_of_eq (Sv _)) (IT lol)⟩,start⟩ (fun pre τ G' h=>b7 G' (by obtain⟨_,_,_,rfl,_⟩:=h; exact .refl _)) ?_ ?_
  ·rintro pre x post τ G' N2 e ⟨S,a,b,rfl,rfl,so,⟨sl,sn⟩,sv⟩ oB;have dr:(B2 rows ns).drop pre.length=x :: post:=by rw [e,xR]
   have dr2:(B2 rows ns).drop (pre++[x]).length=post:=by
    rw [e,show pre++x :: post=(pre++[x])++post by simp,xR]
   have Ab:pre.length+1+post.length<=6:=by
    have:=congrArg dU e;rw [aG,ak,hnl] at this; lia
   have WH:(x.1 :: post.map (·.1)).Nodup:=by
    have h1:=Lg rows ns;rw [e,aM,aq] at h1;have h2:=nn;rw [<-h1] at h2;exact(List.nodup_append.mp h2).2.1
   rw [dr] at so sv;have p8:=aaQ (k:=pre.length) (by lia);have e3:(enc x:D)=.tup [.int x.1,.int x.2]:=rfl;rw [e3];simp only [jA,cY,jo,aH,ah,ar];simp only [bM,cO,bF,aw,av,↓ae,↓aa,aQ,aH,↓ar,↓ah];refine⟨S,x.1,x.2,post,rfl,⟨so,WH,by lia,by lia,by lia⟩,fun S' ZT l1 l2 v=>?_⟩;refine du (oB _ _ ?_);rw [dr2];have e8:8 * 8 ^ (pre++[x]).length=8 * (8 * 8 ^ pre.length):=by
    rw [aG,cg,Sr]; lia
   rw [e8];exact⟨S',_,_,rfl,rfl,ZT,⟨by lia,by lia⟩,fun g=>by rw [v]; exact sv g⟩
  ·rintro τ G' ⟨S,a,b,rfl,rfl,so,⟨sl,sn⟩,sv⟩;have dr:(B2 rows ns).drop (B2 rows ns).length=[]:=List.drop_length;rw [dr] at so sv;have:8 ^ (B2 rows ns).length<=8 ^ 6:=km (by decide) (by lia);exact hN _ _ ⟨S,_,_,rfl,rfl,so,by lia,sv⟩
 ·rintro _ G' ⟨S,a,b,rfl,rfl,so,hn,hv⟩;simp only [cu,cO,av,↓ae,↓aa];exact yA g1 (q S so hn hv)
structure BP(T:Po)(f:Fn->Int):Prop where
 nd:ND T
 nz:NZ T
 fJ:fJ T<=2097152
 val:∀ g,L g T=f g
def brk(rows:Rows)(g:Fn):Int:=Br (fr rows) (nh rows) (kh (lo rows) g)
theorem VZ{S:Su}(so:Uy S []):∀ p∈S,p.1=[]:=fun p hp=>by
 obtain⟨P,e,nd,h⟩:=so.pl p hp;have:P=[]:=Wa nd fun e=>gN fun z=>by
  obtain⟨n,hn,_⟩:=(h e).mp z;cases hn
 rw [e,this]; rfl
theorem SQ{S:Su}(so:Uy S [])(g:Fn):nW [] g S=L g ((cF S []).getD []):=by
 have h:=VZ so;have nd:=so.Oq.1;cases S with
 | nil=>rfl
 | cons p S =>
  have e1:=h p (by simp);have e2:S=[]:=by
   cases S with
   | nil=>rfl
   | cons q S =>
    have e3:=h q (by simp);rw [aq,aq,aY] at nd;exact absurd (by rw [e1,e3]; exact cA) nd.1
  subst e2;have e4:cF [p] ([]:PK)=some p.2:=by unfold cF; rw [cp (by simpa using e1)]; rfl
  rw [e4];show L _ p.2+0=L g p.2;rw [EA];congr 1;funext j;show sh j g 0=g j;unfold sh;rw [Ez]
def zq:hU :=
 (cu (cO (tV tyP FY (bF sD (aw (av 0) (aw (bF ig (aw (av 0) aQ)) aQ))) (aw (cO (iB aQ)) (aw (cO tE) aQ)))))
def lb:jU:=fun ds G Q _=>∃ rows:Rows,ds=[enc rows]/\(Dr rows/\rows.flatten.length<=12)/\∀ T:Po,BP T (brk rows)->Q (.kW (bB T)) G
theorem Ki(ds:List D)(G:Gp)(Q:DK)(h:lb ds G Q fun _ _=>False):zq (fun _ _=>False) (ends Q) (bo 1 ds) G:=by
 obtain⟨rows,rfl,⟨d,hl⟩,q⟩:=h;have nl:=Jh d;unfold zq;simp only [cu,cO,tV,bF,aw,av,bo,↓aq,↓a8,↓ak,↓aB,↓aF,↓aP,↓aa,aQ,iB,tE,ends];refine⟨rows,rfl,(show rows.flatten.length < 64 by lia),?_⟩;refine⟨rows,names rows,rfl,⟨d,.refl _,by lia⟩,fun S so hn hv=>?_⟩;refine⟨trivial,by decide,du ?_⟩;intro p hp;refine jB (.new hp) hp az ?_;refine⟨[],rfl,?_⟩;have bp:BP ((cF S []).getD []) (brk rows):=⟨(so.Oq.get []).1,(so.Oq.get []).2,bz (Lf S []) hn,fun g=>by rw [<-SQ so,hv]; rfl⟩;have e:(qw (iW S) []).getD (.kW [])=.kW (bB ((cF S []).getD [])):=by
  rw [B9];cases cF S [] <;> rfl
 rw [e];exact du (q _ bp)
end JB
end K2
end
section
namespace K2
namespace JB
open K2.P K2.J
section
variable {α:Type}
def w6:List α->List (α×α)
 | a :: b :: l=>(a,b) :: w6 (b :: l)
 | _=>[]
def He:List α->List (α×α)
 | []=>[]
 | a :: l=>w6 (a :: l++[a])
theorem vT(a b:α)(l:List α):w6 (a :: b :: l)=(a,b) :: w6 (b :: l):=rfl
theorem yF:∀ (xs:List α) (m:α) (ys:List α),w6 (xs++m :: ys)=w6 (xs++[m])++w6 (m :: ys)
 | [],m,ys=>rfl
 | [a],m,ys=>rfl
 | a :: b :: xs,m,ys=>by
  rw [aF,aF,vT,aF,aF,vT,aF];congr 1;exact yF (b :: xs) m ys
theorem Kz:∀ (l:List α) (c:α),l.zip (l.drop 1++[c])=w6 (l++[c])
 | [],_=>rfl
 | [a],c=>rfl
 | a :: b :: l,c=>by
  rw [aF,aF,vT];show (a,b) :: (b :: l).zip (l++[c])=_;congr 1;exact Kz (b :: l) c
theorem LW(A B:List α):(He (A++B)).Perm (He (B++A)):=by
 cases A with
 | nil=>rw [aP,cC]
 | cons a A =>
  cases B with
  | nil=>rw [aP,cC]
  | cons b B =>
   show (w6 (a :: A++b :: B++[a])).Perm (w6 (b :: B++a :: A++[b]));have e1:w6 (a :: A++b :: B++[a])=w6 (a :: A++[b])++w6 (b :: B++[a]):=by
    rw [cU]; exact yF (a :: A) b (B++[a])
   have e2:w6 (b :: B++a :: A++[b])=w6 (b :: B++[a])++w6 (a :: A++[b]):=by
    rw [cU]; exact yF (b :: B) a (A++[b])
   rw [e1,e2];exact vY
end
theorem SG(r:List T3):r.zip (jk r)=He r:=by
 cases r with
 | nil=>rfl
 | cons a l=>exact Kz (a :: l) a
theorem lH(rows:Rows):pairsOf rows=rows.flatMap He:=by
 unfold pairsOf;congr 1;funext r;exact SG r
theorem oC{α β:Type}(f:α->List β):∀ {rows:List α} {i:Nat} {r r':α},rows[i]?=some r->((rows.set i r').flatMap f).Perm (f r'++(rows.eraseIdx i).flatMap f)
 | [],_,_,_,h=>by simp at h
 | a :: rows,0,r,r',h=>by rw [ah,cT,Oe]
 | a :: rows,i+1,r,r',h=>by
  rw [ar,cT,Of,cT];refine((oC f (rows:=rows) (i:=i) (r:=r) (by simpa using h)).append_left _).trans ?_;rw [<-cU,<-cU];exact List.perm_append_comm.append_right _
theorem Av{α β:Type}(f:α->List β){rows:List α}{i:Nat}{r:α}(h:rows[i]?=some r):(rows.flatMap f).Perm (f r++(rows.eraseIdx i).flatMap f):=by
 have:=oC f (r':=r) h;have e:rows.set i r=rows:=by
  obtain⟨hi,e⟩:=List.getElem?_eq_some_iff.mp h;rw [<-e]; exact R1 hi
 rw [e] at this; exact this
def ZH(rows:Rows):Prop:=(rows.flatten.map T3.s).Nodup
theorem Wv{rows:Rows}(h:ZH rows):(es (KG rows)).Nodup:=by
 refine UJ ?_ ?_
 ·have:=congrArg (List.map T3.s) (o8 rows);rw [aS] at this;have h2:((pairsOf rows).map fun p=>p.1.s)=rows.flatten.map T3.s:=this;rw [h2]; exact h
 ·have:=(o7 rows).map T3.s;rw [aS] at this;exact this.nodup_iff.mpr h
theorem GR{rows:Rows}{i:Nat}{r r':List T3}(h:rows[i]?=some r):(rows.set i r').flatten.Perm (r'++(rows.eraseIdx i).flatten):=by
 have:=oC (fun r:List T3=>r) (r':=r') h;simpa [List.flatMap_id'] using this
theorem DQ{rows:Rows}{i:Nat}{r:List T3}(h:rows[i]?=some r):rows.flatten.Perm (r++(rows.eraseIdx i).flatten):=by
 have:=Av (fun r:List T3=>r) h;simpa [List.flatMap_id'] using this
theorem Wy{rows:Rows}{i:Nat}{r r':List T3}(h:rows[i]?=some r):lo (rows.set i r')+(if r.isEmpty=true then 1 else 0)=lo rows+(if r'.isEmpty=true then 1 else 0):=by
 unfold lo;induction rows generalizing i with
 | nil=>simp at h
 | cons a rows ih =>
  cases i with
  | zero =>
   simp only [aa,wa] at h;subst h;rw [ah,bK,bK];split <;> split <;> simp <;> lia
  | succ i =>
   have:=ih (i:=i) (by simpa using h);rw [ar,bK,bK];split
   ·rw [ak,ak]; lia
   ·exact this
theorem LG{rows:Rows}(nd:ZH rows){p q:T3}(h:(p,q)∈pairsOf rows):fr rows (eO p.s)=eI q.s/\fr rows (eI q.s)=eO p.s:=oN (Wv nd) (p:=(eO p.s,eI q.s)) (List.mem_map.mpr ⟨(p,q),h,rfl⟩)
end JB
end K2
end
section
namespace K2
open PySem (Str)
open Enc (enc)
namespace T
abbrev Tb:=List (List Int)
structure HL(G G':Gp)(p0:Nat)(as:List Nat)(rs:List (List D)):Prop where
 le:fD G G'
 fp:G p0=none
 gp:G' p0=some (.lst (as.map D.ref))
 np:p0∉as
 nd:as.Nodup
 fr:∀ a∈as,G a=none
 len:as.length=rs.length
 at':∀ (i a:Nat) (r:List D),as[i]?=some a->rs[i]?=some r->G' a=some (.lst r)
theorem HL.ext{G G' G'':Gp}{p0:Nat}{as:List Nat}{rs:List (List D)}(h:HL G G' p0 as rs)(l:fD G' G''):HL G G'' p0 as rs :=
 ⟨h.le.trans l,h.fp,l _ _ h.gp,h.np,h.nd,h.fr,h.len,fun i a r h1 h2=>l _ _ (h.at' i a r h1 h2)⟩
theorem HL.row{G G':Gp}{p0:Nat}{as:List Nat}{rs:List (List D)}(h:HL G G' p0 as rs){i:Nat}{r:List D}(hr:rs[i]?=some r):∃ a,as[i]?=some a/\G' a=some (.lst r)/\r8 (as.map D.ref) (i:Int)=some (.ref a):=by
 have hi:i < as.length:=by rw [h.len]; exact(List.getElem?_eq_some_iff.mp hr).1
 refine⟨as[i],au hi,h.at' i _ r (au hi) hr,?_⟩;rw [ql _ (by lia) (by rw [ao]; lia)];simp
theorem PZ{as:List Nat}(hn:as.Nodup){i j a:Nat}(h1:as[i]?=some a)(h2:as[j]?=some a):i=j:=by
 have g1:=List.getElem?_eq_some_iff.mp h1;have g2:=List.getElem?_eq_some_iff.mp h2;have pw:=List.pairwise_iff_getElem.mp hn;rcases CS i j with lt | eq | gt
 ·exact absurd (g1.2.trans g2.2.symm) (pw i j g1.1 g2.1 lt)
 ·exact eq
 ·exact absurd (g2.2.trans g1.2.symm) (pw j i g2.1 g1.1 gt)
theorem PY{as:List Nat}(h:∀ i k a:Nat,i < k->as[i]?=some a->as[k]?=some a->False):as.Nodup:=by
 refine List.pairwise_iff_getElem.mpr fun i k hi hk hik z=>?_;exact h i k as[i] hik (au hi) (by rw [au hk,z])
theorem HL.Pd{G G':Gp}{p0:Nat}{as:List Nat}{rs:List (List D)}(h:HL G G' p0 as rs){j a:Nat}{r':List D}(hj:j < as.length)(ga:G' a=some (.lst r'))(na:a∉as)(fa:G a=none)(np:a≠p0):HL G (eV G' p0 (.lst ((as.set j a).map D.ref))) p0 (as.set j a) (rs.set j r'):=by
 have Vi:∀ b,b∈as.set j a->b=a\/b∈as:=fun b hb=>by
  rcases qP hb with z | z
  ·exact .inr z
  ·exact .inl z
 refine⟨h.le.put h.fp,h.fp,az,fun z=>?_,?_,fun b hb=>?_,by rw [bY,bY]; exact h.len,fun i b r hb hr=>?_⟩
 ·rcases Vi _ z with z | z
  ·exact np z.symm
  ·exact h.np z
 ·refine PY fun i k b hik h1 h2=>?_;by_cases e1:j=i
  ·subst e1;rw [cm hj] at h1;rw [b9 (by lia)] at h2;cases h1;exact na (aZ h2)
  ·rw [b9 e1] at h1;by_cases e2:j=k
   ·subst e2;rw [cm hj] at h2;cases h2;exact na (aZ h1)
   ·rw [b9 e2] at h2;have:=PZ h.nd h1 h2;lia
 ·rcases Vi b hb with z | z
  ·rw [z]; exact fa
  ·exact h.fr b z
 ·have hb0:b≠p0:=by
   rintro rfl;rcases Vi b (aZ hb) with z | z
   ·exact np z.symm
   ·exact h.np z
  rw [cL hb0];by_cases e:j=i
  ·subst e;rw [cm hj] at hb;rw [cm (by rw [<-h.len]; exact hj)] at hr;cases hb; cases hr;exact ga
  ·rw [b9 e] at hb hr;exact h.at' i b r hb hr
theorem HL.fz{G G':Gp}{p0:Nat}{as:List Nat}{rs:List (List D)}(h:HL G G' p0 as rs){Q:DK}(q:Q (.cW (rs.map D.cW)) G):Mf G' (.ref p0) Q:=by
 refine QW h.le h.fp h.gp (ss:=rs.map D.cW) ?_ q;have:∀ (as:List Nat) (rs:List (List D)),as.length=rs.length->(∀ a∈as,G a=none)->(∀ (i a:Nat) (r:List D),as[i]?=some a->rs[i]?=some r->G' a=some (.lst r))->Et G' (fun a=>(G a).isNone) (as.map D.ref) (rs.map D.cW):=by
  intro as;induction as with
  | nil=>intro rs hl _ _; cases rs with
   | nil=>exact .nil
   | cons _ _=>cases hl
  | cons a as ih =>
   intro rs hl hf xU;cases rs with
   | nil=>cases hl
   | cons r rs =>
    refine .cons (.ref (xU 0 a r rfl rfl) (by simp [hf a (by simp)]) (Et.same _)) ?_;exact ih rs (by simpa using hl) (fun b hb=>hf b (aL _ hb)) fun i b s h1 h2=>xU (i+1) b s h1 h2
 exact this as rs h.len h.fr h.at'
end T
namespace P
variable {rows:Rows}
def X6(rows:Rows):List T3:=V2 (UK rows)
end P
namespace P
variable {rows:Rows}
def XZ(rows:Rows)(s:T2):Nat:=(((rows.zipIdx 0).find? fun p=>decide (s∈yh p.1 (p.2:Int))).map (·.2)).getD 0
theorem IP(n:Nat):gJ 0 n=((fc n).map fun (i:Nat)=>(i:Int)).map enc:=by
 unfold gJ;rw [aS];refine di fun i _=>?_;show D.int (0+(i:Int))=D.int (i:Int);rw [Ez]
end P
namespace Y
def rH:hU :=
 (bZ (fA (gv (bh UR (av 1) (uj qM (aw (av 0) aQ)))) (cu (cO (bh mz (av 0) (av 1)))) dn)
 (cu (cO (dC (.int 0)))))
def gq(ns:List Int)(k:Int):Int:=ns.getD k.toNat 0
def bL:jU:=fun ds G Q _=>∃ (ns:List Int) (k:Int),ds=[.cW (ns.map D.int),.int k]/\0<=k/\Q (.int (gq ns k)) G
theorem AS(ds:List D)(G:Gp)(Q:DK)(h:bL ds G Q fun _ _=>False):rH (fun _ _=>False) (ends Q) (bo 2 ds) G:=by
 obtain⟨ns,k,rfl,h0,q⟩:=h;unfold rH;simp only [bZ,fA,bo,aq,a8,ak,aB,aF,aP,cu,cO,bh,av,aa,ae,ends,nA,dn,dC,cQ,uj,aw,aQ,vQ,ym,bE];split
 ·rename_i h;have h1:k < (ns.map D.int).length:=by simpa using h
  rw [ql _ h0 h1];simp only [kU];rw [ao] at h1;have e:gq ns k=ns[k.toNat]:=by unfold gq; rw [eE,au (by lia)]; rfl
  rw [<-e]; exact du q
 ·rename_i h;have h1:¬ k < (ns.map D.int).length:=by simpa using h
  rw [ao] at h1;have e:gq ns k=0:=by unfold gq; rw [eE,fO (by lia)]; rfl
  rw [<-e]; exact du q
def uX:hU :=
 (cu (cO (Hd (NK "int" (av 0)) (Rh (NK "bool" (av 0))))))
def cE:jU:=fun ds G Q _=>∃ i:Int,ds=[.int i]/\Q (.bl true) G
theorem Es(ds:List D)(G:Gp)(Q:DK)(h:cE ds G Q fun _ _=>False):uX (fun _ _=>False) (ends Q) (bo 1 ds) G:=by
 obtain⟨i,rfl,q⟩:=h;unfold uX;simp only [cu,cO,bo,aq,a8,ak,aB,aF,aP,ends,AG,GY,yC,av,aa,Gr,bE];simpa using du q
def xp:hU :=
 (cu (cO (bh pQ (bh pQ (bh MO (av 0) (dC (.int 48271))) (av 1)) (av 2))))
def pick(c p m:Int):Int:=c * 48271 % p % m
def d8:jU:=fun ds G Q _=>∃ c p m:Int,ds=[.int c,.int p,.int m]/\(0 < p/\0 < m)/\Q (.int (pick c p m)) G
theorem Hy(ds:List D)(G:Gp)(Q:DK)(h:d8 ds G Q fun _ _=>False):xp (fun _ _=>False) (ends Q) (bo 3 ds) G:=by
 obtain⟨c,p,m,rfl,⟨hp,hm⟩,q⟩:=h;unfold xp;simp only [cu,cO,bh,av,bo,aq,a8,ak,aB,aF,aP,aa,dC,ae,ends,uZ,gX];exact⟨.inr ⟨by decide,by decide⟩,hp,hm,du q⟩
theorem kD(c p:Int){m:Int}(h:0 < m):0<=pick c p m:=jV _ (by lia)
theorem kE(c p:Int){m:Int}(h:0 < m):pick c p m < m:=jC _ h
def xn:hU :=
 (bZ (fA (ml (gv (NK "dict" (av 0)))) (cu (cO (dC (.bl false)))) dn)
 (bZ (ff (Cf (av 0)) (aH 1) (fA (NJ (ml (gv (bF cE (aw (av 1) aQ)))) (NJ (ml (gv (bF cE (aw (bh mz (av 0) (av 1)) aQ)))) (gv (bh (Dh false) (bh mz (av 0) (av 1)) (dC (.int 0)))))) (cu (cO (dC (.bl false)))) dn))
 (cu (cO (dC (.bl true))))))
def ik:jU:=fun ds G Q _=>∃ (d:D) (l:Po),ds=[d]/\Pl G d l/\NZ l/\Q (.bl true) G
theorem Hx(ds:List D)(G:Gp)(Q:DK)(h:ik ds G Q fun _ _=>False):xn (fun _ _=>False) (ends Q) (bo 2 ds) G:=by
 obtain⟨d,l,rfl,hd,hz,q⟩:=h;unfold xn;refine cV (fun τ G'=>τ=[some d,none]/\G=G') ?_ ?_
 ·intro N hN;simp only [fA,ml,bo,aq,a8,ak,aB,bg,aF,aP,cu,cO,dC,ends,dn,cQ,yC,av,aa];refine Qw (G:=G) hd.is.p ?_;simp only [beq_self_eq_true,bE,bq,aj,if_false];exact hN _ _ ⟨rfl,rfl⟩
 rintro _ _ ⟨rfl,rfl⟩;refine cV (fun τ G'=>(∃ a,τ=[some d,a])/\G=G') ?_ ?_
 ·intro N hN;simp only [ff,Cf,av,aa,ends];refine Ju hd.is (.refl _) fun ok b7=>?_;refine eG (xs:=l) (fun pre τ G'=>(∃ a,τ=[some d,a])/\G=G') ⟨⟨_,rfl⟩,rfl⟩ (fun pre τ G' h=>b7 G' (by rw [<-h.2]; exact .refl _)) ?_ ?_
  ·rintro pre x post τ G' N2 e ⟨⟨a,rfl⟩,rfl⟩ oB;have hm:x∈l:=by rw [e]; simp
   have hx:=AO hd.nd hm;simp only [aH,fA,NJ,ml,ar,ah,cu,cO,dC,dn,if_true,cQ,bh,av,aa,ae,bF,aw,aQ];refine⟨_,rfl,?_⟩;simp only [bE,bq,aj,if_false];refine US hd.is.p hx ⟨x.2,rfl,?_⟩;simp only [bE,bq,aj,if_false];refine US hd.is.p hx ⟨_,_,.int _,.int _,?_⟩;simp only [aj,LM,hz x hm,decide_false,cZ,if_false,bE];exact oB _ _ ⟨⟨_,rfl⟩,rfl⟩
  ·rintro τ G' ⟨⟨a,rfl⟩,rfl⟩;exact hN _ _ ⟨⟨_,rfl⟩,rfl⟩
 ·rintro _ _ ⟨⟨a,rfl⟩,rfl⟩;simp only [cu,cO,dC,ends];exact du q
end Y
namespace Bb
open K2.T
open K2.P (names handOf XZ yh ig i8)
open K2.Y (gq pick kD kE bL cE d8 iO gQ)
theorem fb{α:Type} [DecidableEq α] [Enc α](rs:List (List α)):(enc rs:D)=.cW ((rs.map fun r=>r.map enc).map D.cW):=by
 show D.cW _=_;rw [aS]; rfl
def ow:hU :=
 (cu (cO (fT 1 [] (lu (av 0)) (aH 0) none (uj xI (aw (av 0) aQ)))))
def eM:jU:=fun ds G Q _=>∃ rs:List (List D),ds=[.cW (rs.map D.cW)]/\rs.length<=1000/\∀ G' p0 as,HL G G' p0 as rs->Q (.ref p0) G'
theorem sr(ds:List D)(G:Gp)(Q:DK)(h:eM ds G Q fun _ _=>False):ow (fun _ _=>False) (ends Q) (bo 1 ds) G:=by
 obtain⟨rs,rfl,hl,q⟩:=h;unfold ow;simp only [cu,cO,fT,bo,aq,a8,ak,aB,aF,aP,ends,e9,av,aa,Lr];refine⟨C6 (by rw [ao]; exact hl),?_⟩;refine iK (xs:=rs) (fun pre acc τ G'=>(∃ a,τ=[a])/\∃ as:List Nat,acc=as.map D.ref/\fD G G'/\as.Nodup/\(∀ a∈as,G a=none)/\as.length=pre.length/\(∀ (i a:Nat) (r:List D),as[i]?=some a->pre[i]?=some r->G' a=some (.lst r))) ?_ (fun _ _ _ _ _=>trivial) ?_ ?_
 ·exact⟨⟨_,rfl⟩,[],rfl,.refl G,cy,fun _ h=>by(cases h),rfl,fun i a r h=>by simp at h⟩
 ·rintro pre r post acc τ G' N e ⟨⟨a,rfl⟩,as,rfl,le,nd,fr,ln,xU⟩ hN;simp only [aH,uj,aw,av,ah,aa,aQ];refine Rw (IsL.cW) fun p hp=>?_;have hna:p∉as:=fun z=>by
   obtain⟨i,hi⟩:=iF z;have h1:i < pre.length:=by rw [<-ln]; exact(List.getElem?_eq_some_iff.mp hi).1
   have:=xU i p pre[i] hi (au h1);rw [hp] at this; cases this
  refine hN _ _ _ ⟨⟨_,rfl⟩,as++[p],by simp,le.trans (.new hp),?_,fun b hb=>?_,by rw [aG,aG,ln]; rfl,fun i b r2 h1 h2=>?_⟩
  ·rw [cz];exact⟨nd,by simp,fun x hx y hy=>by rw [ck] at hy; subst hy; intro z; exact hna (z ▸ hx)⟩
  ·rcases List.mem_append.mp hb with z | z
   ·exact fr b z
   ·rw [ck] at z; rw [z]; exact le.free hp
  ·by_cases hi:i < as.length
   ·rw [cb hi] at h1;rw [cb (by rw [<-ln]; exact hi)] at h2;have:=xU i b r2 h1 h2;exact(fD.new hp) _ _ this
   ·rw [bS (by lia)] at h1;rw [bS (by lia)] at h2;have:i - as.length=0:=by
     have:=(List.getElem?_eq_some_iff.mp h1).1;simp at this; lia
    rw [this] at h1;rw [show i - pre.length=0 by lia] at h2;simp at h1 h2;subst h1 h2;exact az
 ·rintro acc τ G' ⟨⟨a,rfl⟩,as,rfl,le,nd,fr,ln,xU⟩ p hp;have hna:p∉as:=fun z=>by
   obtain⟨i,hi⟩:=iF z;have h1:i < rs.length:=by rw [<-ln]; exact(List.getElem?_eq_some_iff.mp hi).1
   have:=xU i p rs[i] hi (au h1);rw [hp] at this; cases this
  refine du (q _ p as ⟨le.trans (.new hp),le.free hp,az,hna,nd,fr,ln,fun i b r h1 h2=>?_⟩);exact(fD.new hp) _ _ (xU i b r h1 h2)
def ou:hU :=
 (bZ (JW (gv (bh (Pp false) (av 1) (av 0))) (bM (bh kB (bh pQ (av 1) (dC (.int 999))) (dC (.int 1))) (aH 1)))
 (cu (cO (av 1))))
def fnx(n:Int):Int:=n % 999+1
def fit(n:Int):Nat->Int
 | 0=>n
 | k+1=>fnx (fit n k)
theorem Ay{n:Int}(h1:1<=n)(h2:n<=999):∀ k:Nat,fit n k=(n - 1+k) % 999+1
 | 0=>by show n=_; lia
 | k+1=>by
  show fnx (fit n k)=_;rw [Ay h1 h2 k];unfold fnx;lia
theorem Q6{n:Int}{ns:List Int}(h1:1<=n)(h2:n<=999)(hl:ns.length<=500):∃ k,k<=ns.length/\fit n k∉ns:=by
 apply gN;intro WM;have vC:∀ k,k<=ns.length->fit n k∈ns:=fun k hk=>gN fun z=>WM ⟨k,hk,z⟩;have nd:((fc (ns.length+1)).map fun k=>fit n k).Nodup:=by
  refine List.pairwise_iff_getElem.mpr fun i j hi hj Nu=>?_;simp only [ao,j3] at hi hj;rw [kU,kU,lW,lW,Ay h1 h2,Ay h1 h2];lia
 have:=iO _ ns nd fun x hx=>by
  obtain⟨k,hk,rfl⟩:=List.mem_map.mp hx;exact vC k (by have:=List.mem_range.mp hk; lia)
 simp at this;lia
def i7:jU:=fun ds G Q _=>∃ (d:D) (ns:List Int) (n:Int),ds=[d,.int n]/\IsL G d (ns.map D.int)/\(ns.length<=500/\1<=n/\n<=999)/\∀ m:Int,m∉ns->1<=m->m<=999->Q (.int m) G
theorem u3{G:Gp}{d:D}{ns:List Int}{i:Int}{Q:DK}(h:IsL G d (ns.map D.int))(k:Q (.bl (decide (i∈ns))) G):Pp false (.int i) d G Q:=by
 have e:(ns.map D.int).any (fun x=>ip x (.int i))=decide (i∈ns):=Uu ns i;rcases h with rfl | ⟨a,rfl,g⟩
 ·refine⟨.int i,ns.map D.int,.int _,Sn.rI ns,?_⟩;simp only [aj,if_false];rw [e]; exact k
 ·unfold Pp;simp only [g];refine⟨.int i,ns.map D.int,.int _,Sn.rI ns,?_⟩;simp only [aj,if_false];rw [e]; exact k
theorem si(ds:List D)(G:Gp)(Q:DK)(h:i7 ds G Q fun _ _=>False):ou (fun _ _=>False) (ends Q) (bo 2 ds) G:=by
 obtain⟨d,ns,n,rfl,hd,⟨hl,h1,h2⟩,q⟩:=h;unfold ou;refine cV (fun τ G'=>G=G'/\∃ m:Int,(m∉ns/\1<=m/\m<=999)/\τ=[some d,some (.int m)]) ?_ ?_
 ·intro N hN;obtain⟨k,hk,qy⟩:=Q6 h1 h2 hl;have main:∀ (j:Nat),j<=k->EU (gv (bh (Pp false) (av 1) (av 0))) (bM (bh kB (bh pQ (av 1) (dC (.int 999))) (dC (.int 1))) (aH 1)) (j+1) (fun _ _=>False) { ends Q with nx:=N } [some d,some (.int (fit n (k - j)))] G:=by
   intro j;induction j with
   | zero =>
    intro _;show EU _ _ (0+1) _ _ _ _;rw [EU];simp only [bM,bh,av,ae,aa,dC,aH,ends,ar,ah,gX,gi,cQ];refine u3 hd ?_;simp only [Nat.sub_zero,qy,decide_false,bE,aj,if_false];have:=Ay h1 h2 k;exact hN _ _ ⟨rfl,_,⟨qy,by lia,by lia⟩,rfl⟩
   | succ j ih =>
    intro hj;rw [EU];simp only [bM,bh,av,ae,aa,dC,aH,ends,ar,ah,gX,gi,cQ];refine u3 hd ?_;have hb:=Ay h1 h2 (k - (j+1));by_cases hm:fit n (k - (j+1))∈ns
    ·simp only [hm,decide_true,bE,if_true];refine⟨by decide,?_⟩;have e:fit n (k - (j+1)) % 999+1=fit n (k - j):=by
      rw [show k - j=(k - (j+1))+1 by lia]; rfl
     rw [e];exact ih (by lia)
    ·simp only [hm,decide_false,bE,aj,if_false];exact hN _ _ ⟨rfl,_,⟨hm,by lia,by lia⟩,rfl⟩
  have:=main k (aC _);rw [Nat.sub_self] at this;exact⟨k+1,this⟩
 ·rintro _ _ ⟨rfl,m,⟨m1,m2,m3⟩,rfl⟩;simp only [cu,cO,av,ae,aa,ends];exact du (q m m1 m2 m3)
abbrev dT(t:Tb):List (List D):=t.map fun r=>r.map D.int
end Bb
namespace Bb
open K2.T
open K2.P (names handOf XZ yh ig i8)
open K2.Y (gq pick kD kE bL cE d8 iO gQ)
structure AL(G G':Gp)(as:List Nat)(rs:List (List D)):Prop where
 le:fD G G'
 nd:as.Nodup
 fr:∀ a∈as,G a=none
 len:as.length=rs.length
 at':∀ (i a:Nat) (r:List D),as[i]?=some a->rs[i]?=some r->G' a=some (.lst r)
theorem AL.nil(G:Gp):AL G G [] []:=⟨.refl G,cy,fun _ h=>by(cases h),rfl,fun i a r h=>by simp at h⟩
theorem AL.new{G G':Gp}{as:List Nat}{rs:List (List D)}(h:AL G G' as rs){p:Nat}(hp:G' p=none):p∉as:=fun z=>by
 obtain⟨i,hi⟩:=iF z;have h1:i < rs.length:=by rw [<-h.len]; exact(List.getElem?_eq_some_iff.mp hi).1
 have:=h.at' i p rs[i] hi (au h1);rw [hp] at this; cases this
theorem AL.push{G G':Gp}{as:List Nat}{rs:List (List D)}(h:AL G G' as rs){p:Nat}(hp:G' p=none)(r:List D):AL G (eV G' p (.lst r)) (as++[p]) (rs++[r]):=by
 refine⟨h.le.trans (.new hp),?_,fun b hb=>?_,by rw [aG,aG,h.len]; rfl,fun i b r2 h1 h2=>?_⟩
 ·rw [cz];exact⟨h.nd,by simp,fun x hx y hy=>by rw [ck] at hy; subst hy; intro z; exact h.new hp (z ▸ hx)⟩
 ·rcases List.mem_append.mp hb with z | z
  ·exact h.fr b z
  ·rw [ck] at z; rw [z]; exact h.le.free hp
 ·by_cases hi:i < as.length
  ·rw [cb hi] at h1;rw [cb (by rw [<-h.len]; exact hi)] at h2;exact(fD.new hp) _ _ (h.at' i b r2 h1 h2)
  ·have ln:=h.len;rw [bS (by lia)] at h1;rw [bS (by lia)] at h2;have:i - as.length=0:=by
    have:=(List.getElem?_eq_some_iff.mp h1).1;simp at this; lia
   rw [this] at h1;rw [show i - rs.length=0 by lia] at h2;simp at h1 h2;subst h1 h2;exact az
theorem AL.top{G G':Gp}{as:List Nat}{rs:List (List D)}(h:AL G G' as rs){p:Nat}(hp:G' p=none):HL G (eV G' p (.lst (as.map D.ref))) p as rs :=
 ⟨h.le.trans (.new hp),h.le.free hp,az,h.new hp,h.nd,h.fr,h.len,fun i b r h1 h2=>(fD.new hp) _ _ (h.at' i b r h1 h2)⟩
theorem kM{i:Nat}{t:hU}{E:lP}{K:nQ}{τ:iD}{G:Gp}:Ha i t E K τ G=t E { K with nx:=fun pJ G1=>match pJ[i]? with
 | some (some d)=>Mf G1 d fun t G2=>K.nx (pJ.set i (some t)) G2
 | _=>False } τ G:=rfl
end Bb
namespace Xo
open K2.P
section
variable {α β:Type} [DecidableEq α] [DecidableEq β]
variable {V:List α} {R:α->α->Prop}
def it(f:α->α):Nat->α->α
 | 0,a=>a
 | n+1,a=>f (it f n a)
variable {f:α->α}
def gr(V:List α)(f:α->α):List (α×α):=V.map fun a=>(a,f a)
end
end Xo
namespace Xo
open K2.P
variable {rows:Rows}
def flp(z:T3):T3:=⟨z.a,z.b,1 - z.c⟩
def swp(off:List T2)(z:T3):T3:=if z.s∈off then flp z else z
def phi(rows:Rows)(off:List T2)(a:T3):T3:=swp off (step rows a)
def acC(rows:Rows):List T2:=rows.flatten.map T3.s
def acv(rows:Rows):List T2:=(UK rows).filter fun s=>decide (s.b=2)
def pr(s:T2):T3×T3:=(lft s,rgt s)
def base(rows:Rows):List (T3×T3):=gr (X6 rows) (phi rows (acC rows))++(acv rows).map pr
end Xo
namespace HE
open K2.P
structure HR(G G':Gp)(p0:Nat)(as:List Nat)(rs:Rows):Prop where
 le:fD G G'
 fp:G p0=none
 gp:G' p0=some (.lst (as.map D.ref))
 np:p0∉as
 nd:as.Nodup
 fr:∀ a∈as,G a=none
 len:as.length=rs.length
 at':∀ (i a:Nat) (r:List T3),as[i]?=some a->rs[i]?=some r->G' a=some (.lst (r.map enc))
end HE
namespace K13
open K2.P K2.HE
variable {rows:Rows}
end K13
namespace K13
open K2.P K2.HE
variable {rows:Rows}
end K13
namespace Xo
open K2.P
variable {rows:Rows}
end Xo
namespace Me
open K2.P K2.Xo
section
variable {α:Type} [DecidableEq α]
def dd(l:List α):List α:=l.foldl (fun acc x=>if x∈acc then acc else acc++[x]) []
end
variable {rows:Rows}
end Me
instance:Eu T2 where
 mn:=by
  intro x G xs Q hi oW k;cases xs with
  | nil=>exact absurd rfl oW
  | cons a r =>
   obtain⟨h1,h2⟩:=j0 r a;have ei:itemsOf x G=some (((a :: r).map T2.l).map tI):=by rw [hi,aS]; rfl
   refine .inr ⟨(a :: r).map T2.l,_,ei,rfl,?_⟩;have:∀ (r:List T2) (a:T2),(r.map T2.l).foldl (fun m x=>if lexLt x m=true then x else m) a.l=(r.foldl (fun m x=>if aT.lt x m=true then x else m) a).l:=by
    intro r;induction r with
    | nil=>intro a; rfl
    | cons b r ih =>
     intro a;rw [aq,cJ,cJ];have e:(if lexLt b.l a.l=true then b.l else a.l)=(if aT.lt b a=true then b else a).l:=by
      have:aT.lt b a=lexLt b.l a.l:=ub _ _;rw [this];split <;> rfl
     rw [e]; exact ih _
   rw [this r a];exact k _ h1 h2
namespace Me
open K2.P K2.Xo K2.T
open K2.Y (gQ)
variable {rows:Rows}
end Me
namespace Me
open K2.P K2.T
open K2.Bb (AL eM fnx fb kM)
open K2.Y (gq pick kD kE bL cE d8 iO gQ)
theorem sL{G G2:Gp}{d:D}{ds:List D}{R:List D->(Gp->Prop)->Gp->Prop}(h:IsL G d ds)(l:fD G G2)(k:∀ ok:Gp->Prop,(∀ G',fD G G'->ok G')->R ds ok G2):QD d G2 R:=by
 rcases h with rfl | ⟨a,rfl,e⟩
 ·exact k _ fun _ _=>trivial
 ·rw [Ls (l _ _ e)];exact k _ fun G' le=>le _ _ e
end Me
namespace JB
open K2.T
open K2.P (names handOf ig i8 o9 Lz pairsOf)
open K2.Y (gq pick kD kE bL cE d8 gQ)
open K2.Bb (AL fb kM)
open K2.Me (sL)
def eM:jU:=Bb.eM
def ow:hU :=
 (cu (cO (fT 1 [] (lu (av 0)) (aH 0) none (uj xI (aw (av 0) aQ)))))
theorem sr(ds:List D)(G:Gp)(Q:DK)(h:eM ds G Q fun _ _=>False):ow (fun _ _=>False) (ends Q) (bo 1 ds) G:=Bb.sr ds G Q h
def i7:jU:=Bb.i7
def ou:hU :=
 (bZ (JW (gv (bh (Pp false) (av 1) (av 0))) (bM (bh kB (bh pQ (av 1) (dC (.int 999))) (dC (.int 1))) (aH 1)))
 (cu (cO (av 1))))
theorem si(ds:List D)(G:Gp)(Q:DK)(h:i7 ds G Q fun _ _=>False):ou (fun _ _=>False) (ends Q) (bo 2 ds) G:=Bb.si ds G Q h
def zk:hU :=
 (bZ (bM (bF eM (aw (av 0) aQ)) (aH 4))
 (bZ (bM (bh pQ (av 2) (bh kB (uj qM (aw (bh mz (av 4) (av 1)) aQ)) (dC (.int 1)))) (aH 2))
 (bZ (bM (bh kB (bh kB (DZ (bh mz (av 4) (av 1)) gE (oD (av 2))) (av 3)) (DZ (bh mz (av 4) (av 1)) (oD (av 2)) gE)) (nZ (av 4) (av 1)))
 (cu (cO (av 4))))))
def nq:jU:=fun ds G Q _=>∃ (rs:List (List D)) (i:Nat) (pl:Int) (more:List D),ds=[.cW (rs.map D.cW),.int i,.int pl,.cW more]/\(i < rs.length/\rs.length<=1000/\(∀ r∈rs,r.length<=500)/\more.length<=100)/\∀ (r:List D) (k:Nat),rs[i]?=some r->k<=r.length->(k:Int)=pl % ((r.length:Int)+1)->Q (.cW ((rs.set i (r.take k++more++r.drop k)).map D.cW)) G
theorem Kh(ds:List D)(G:Gp)(Q:DK)(h:nq ds G Q fun _ _=>False):zk (fun _ _=>False) (ends Q) (bo 5 ds) G:=by
 obtain⟨rs,i,pl,more,rfl,⟨hi,hl,hr,hm⟩,q⟩:=h;unfold zk;simp only [ends,bo,aq,a8,ak,aB,bg,aF,aP,cM,bM,bF,aw,av,aa,aQ,aH,ar,ah,bh,ae,uj,dC,DZ,gE,nZ,cu,cO,nM];refine⟨rs,rfl,hl,fun G1 p0 as h1=>?_⟩;obtain⟨r,er⟩:∃ r,rs[i]?=some r:=⟨rs[i],au hi⟩;have Z9:=hr r (aZ er);obtain⟨a,ea,ga,ia⟩:=h1.row (i:=i) (r:=r) er;refine IQ (IsL.ref h1.gp) ia (LZ (IsL.ref ga) ?_);simp only [gi,gX,lh];refine⟨by lia,?_⟩;have c1:0<=pl % ((r.length:Int)+1):=jV _ (by lia);have c2:pl % ((r.length:Int)+1) < (r.length:Int)+1:=jC _ (by lia);generalize ec:pl % ((r.length:Int)+1)=c at c1 c2;obtain⟨k,rfl⟩:∃ k:Nat,c=(k:Int):=⟨c.toNat,by lia⟩;have hk:k<=r.length:=by lia
 refine IQ (IsL.ref h1.gp) ia (wu (IsL.ref ga) fun p1 f1=>?_);rw [D3 _ _ hk];have l1:=fD.new (o:=.lst (r.take k)) f1;refine yp (IsL.ref az) (IsL.cW) (by rw [dW]; exact C6 (by lia)) fun p2 f2=>?_;have l2:=fD.new (o:=.lst (r.take k++more)) f2;have Z4:=l1.trans l2;refine IQ (IsL.ref (Z4 _ _ h1.gp)) ia (wu (IsL.ref (Z4 _ _ ga)) fun p3 f3=>?_);rw [vN _ _ hk];have l3:=fD.new (o:=.lst (r.drop k)) f3;refine yp (IsL.ref (l3 _ _ az)) (IsL.ref az) (by simp only [aG,dW,cB]; exact C6 (by lia)) fun p4 f4=>?_;have l4:=fD.new (o:=.lst (r.take k++more++r.drop k)) f4;have h4:=h1.ext ((Z4.trans l3).trans l4);have hn:∀ o,G1 p4≠some o:=fun o z=>by
  have:=(Z4.trans l3) _ _ z;rw [f4] at this; cases this
 have n4:p4∉as:=fun z=>by
  obtain⟨j,hj⟩:=iF z;have hjl:j < rs.length:=by rw [<-h1.len]; exact(List.getElem?_eq_some_iff.mp hj).1
  exact hn _ (h1.at' j p4 _ hj (au hjl))
 have n0:p4≠p0:=fun z=>hn _ (by rw [z]; exact h1.gp);have hf4:G p4=none:=by
  cases e:G p4 with
  | none=>rfl
  | some o=>exact absurd (h1.le _ _ e) (hn o)
 have hj:i < as.length:=(List.getElem?_eq_some_iff.mp ea).1;have h5:=h4.Pd (r':=r.take k++more++r.drop k) hj az n4 hf4 n0;unfold xg;simp only [h4.gp];have ei:HU (as.map D.ref).length (i:Int)=some i:=by
  unfold HU;rw [if_pos (by lia),if_pos (by rw [ao]; lia)]; simp
 simp only [ei];have es:(as.map D.ref).set i (.ref p4)=(as.set i p4).map D.ref:=by rw [CV]
 rw [es];refine h5.fz ?_;exact q r k er hk ec.symm
theorem Pt{α:Type} [DecidableEq α] [Enc α]{G:Gp}{Q:DK}{rows:List (List α)}{i:Nat}{pl:Int}{more:List α}(h:i < rows.length/\rows.length<=1000/\(∀ r∈rows,r.length<=500)/\more.length<=100)
  (q:∀ (r:List α) (k:Nat),rows[i]?=some r->k<=r.length->(k:Int)=pl % ((r.length:Int)+1)->Q (enc (rows.set i (r.take k++more++r.drop k))) G):nq [enc rows,.int i,.int pl,enc more] G Q fun _ _=>False:=by
 refine⟨rows.map fun r=>r.map enc,i,pl,more.map enc,by rw [fb]; rfl,⟨by rw [ao]; exact h.1,by rw [ao]; exact h.2.1,fun r hr=>?_,by rw [ao]; exact h.2.2.2⟩,fun r k hr hk e=>?_⟩
 ·obtain⟨r',WJ,rfl⟩:=List.mem_map.mp hr;rw [ao]; exact h.2.2.1 r' WJ
 ·rw [aO] at hr;obtain⟨r',WJ,rfl⟩:=Option.map_eq_some_iff.mp hr;rw [ao] at hk e;have:=q r' k WJ hk e;rw [fb,CV,aM,aM,Oc,Od] at this;exact this
theorem Dr.two{rows R:Rows}(d:Dr rows){m h:Int}(hm:∀ p∈rows.flatten,p.a≠m)(hh:h=1\/h=-1)(hp:R.flatten.Perm (⟨m,1,h⟩ :: ⟨m,0,h⟩ :: rows.flatten))(HY:rows.flatten.length<=22)(str:R.length<=3):Dr R:=by
 have mem:∀ p,p∈R.flatten↔p=⟨m,1,h⟩\/p=⟨m,0,h⟩\/p∈rows.flatten:=fun p=>by rw [hp.mem_iff,bA,bA]
 refine⟨?_,fun p h1=>?_,fun p h1=>?_,fun p h1=>?_,?_,str⟩
 ·refine(hp.map T3.s).nodup_iff.mpr ?_;rw [aq,aq,aY,aY];have out:∀ w:Int,(⟨m,w⟩:T2)∉rows.flatten.map T3.s:=fun w z=>by
   obtain⟨p,uE,e⟩:=List.mem_map.mp z;injection e with e1 _
   exact hm p uE e1
  refine⟨fun z=>?_,out 0,d.nd⟩;rcases List.mem_cons.mp z with z | z
  ·injection z with _ z2; cases z2
  ·exact out 1 z
 ·rcases (mem p).mp h1 with rfl | rfl | h1
  ·exact .inr rfl
  ·exact .inl rfl
  ·exact d.way p h1
 ·rcases (mem p).mp h1 with rfl | rfl | h1
  ·exact hh
  ·exact hh
  ·exact d.hand p h1
 ·rcases (mem p).mp h1 with rfl | rfl | h1
  ·exact(mem _).mpr (.inr (.inl rfl))
  ·exact(mem _).mpr (.inl rfl)
  ·exact(mem _).mpr (.inr (.inr (d.Jk p h1)))
 ·rw [hp.length_eq,ak,ak]; lia
theorem Dr.nil{S:Nat}(h:S<=3):Dr (bg S []):=by
 have e:(bg S ([]:List T3)).flatten=[]:=by
  rw [List.flatten_eq_nil_iff]; intro l hl; exact(List.mem_replicate.mp hl).2
 refine⟨by rw [e]; exact cy,fun p hp=>?_,fun p hp=>?_,fun p hp=>?_,by rw [e]; simp,by simpa using h⟩ <;> rw [e] at hp <;> cases hp
theorem Gu{rows:Rows}{i k:Nat}{r more:List T3}(hr:rows[i]?=some r):(rows.set i (r.take k++more++r.drop k)).flatten.Perm (more++rows.flatten):=by
 refine(GR hr).trans ?_;refine SA ?_ ((DQ hr).symm.append_left _);rw [<-cU];refine List.Perm.append_right _ ?_
 conv=>rhs; rw [<-dS k r]
 rw [<-cU];exact List.perm_append_comm.append_right _
def acI(rows:Rows)(ns:List Int):Prop:=∀ p∈rows.flatten,p.a∈ns
def fy:jU:=fun ds G Q _=>∃ (d:D) (cells:List Int) (S:Nat) (sp:Int),ds=[d,.int S,.int sp]/\IsL G d (cells.map D.int)/\(cells.length<=12/\(1<=S/\S<=3)/\1<=sp/\sp<=999) /\
 ∀ rows:Rows,Dr rows->rows.length=S->rows.flatten.length=2 * cells.length->Q (enc rows) G
end JB
namespace JB
open K2.P K2.J
open K2.Y (Po L ND NZ fJ lg gI ik bL d8 gq pick kD kE Pl AA)
open K2.Bb (fb)
variable {rows:Rows}
def wr(rows:Rows):Int:=((names rows).map (handOf rows)).sum
def hs(L:List T3):Int:=((L.filter fun p=>p.b == 0).map (·.c)).sum
def Sa(L:List T3):List (Int×Int):=(L.filter fun p=>p.b == 0).map fun p=>(p.a,p.c)
theorem sI(d:Dr rows):(nh rows).Perm (Sa rows.flatten):=by
 unfold nh names;refine((uM _).map _).trans ?_;rw [aS];unfold Sa;have:((rows.flatten.filter fun p=>p.b == 0).map ((fun n=>(n,handOf rows n))∘fun p:T3=>p.a))=(rows.flatten.filter fun p=>p.b == 0).map fun p=>(p.a,p.c):=by
  refine di fun p hp=>?_;show (p.a,handOf rows p.a)=_;rw [Lz d (List.mem_filter.mp hp).1]
 rw [this]
theorem zL{a b:List T3}(h:a.Perm b):(Sa a).Perm (Sa b):=(h.filter _).map _
theorem Dy(rows:Rows):(nh rows).map (·.1)=names rows:=by
 unfold nh;rw [aS];exact jL _
end JB
end K2
end
section
set_option maxHeartbeats 1000000
namespace K2
namespace J
section
variable {α:Type} [DecidableEq α]
def cj(r f:α->α):α->α:=fun e=>r (f (r e))
theorem YS{r f:α->α}(hr:Iv r)(x y:α):jn (cj r f) (r x) (r y)=cj r (jn f x y)/\cl (cj r f) (r x) (r y)=cl f x y:=by
 have inj:∀ {a b:α},r a=r b->a=b:=fun {a b} h=>by rw [<-hr a,h,hr]
 have sw:∀ {a b:α},a=r b↔r a=b:=fun {a b}=>⟨fun h=>by rw [h,hr],fun h=>by rw [<-h,hr]⟩;refine⟨?_,?_⟩
 ·funext e;show (if e=r x\/e=r y then e else if e=r (f (r (r x))) then r (f (r (r y))) else if e=r (f (r (r y))) then r (f (r (r x))) else r (f (r e)))=r (if r e=x\/r e=y then r e else if r e=f x then f y else if r e=f y then f x else f (r e));rw [hr,hr];by_cases c1:r e=x\/r e=y
  ·rw [if_pos (c1.imp sw.mpr sw.mpr),if_pos c1,hr]
  ·rw [if_neg (fun z=>c1 (z.imp sw.mp sw.mp)),if_neg c1];by_cases c2:r e=f x
   ·rw [if_pos (sw.mpr c2),if_pos c2]
   ·rw [if_neg (fun z=>c2 (sw.mp z)),if_neg c2];by_cases c3:r e=f y
    ·rw [if_pos (sw.mpr c3),if_pos c3]
    ·rw [if_neg (fun z=>c3 (sw.mp z)),if_neg c3]
 ·show (if r (f (r (r x)))=r y then 1 else 0)=if f x=y then 1 else 0
  rw [hr];by_cases c:f x=y
  ·rw [if_pos c,if_pos (by rw [c])]
  ·rw [if_neg c,if_neg (fun z=>c (inj z))]
theorem Qp{r:α->α}(hr:Iv r):∀ (ps:Pr α) (f:α->α),jD (cj r f) (ps.map fun p=>(r p.1,r p.2))=cj r (jD f ps)/\cls (cj r f) (ps.map fun p=>(r p.1,r p.2))=cls f ps
 | [],f=>⟨rfl,rfl⟩
 | p :: ps,f=>by
  obtain⟨a,b⟩:=YS (f:=f) hr p.1 p.2;obtain⟨c,d⟩:=Qp hr ps (jn f p.1 p.2);rw [aq,jD,cls,jD,cls];show jD (jn (cj r f) (r p.1) (r p.2)) _=_/\cl (cj r f) (r p.1) (r p.2)+cls (jn (cj r f) (r p.1) (r p.2)) _=_;rw [a,b,c,d];exact⟨rfl,rfl⟩
end
end J
end K2
end
section
namespace K2
open Enc (enc)
namespace JD
open K2.P K2.J K2.JB
section
variable {nm:Nat->Int} (inj:∀ i j,i < 12->j < 12->vv nm i=vv nm j->i=j)
include inj
omit inj in
end
theorem yG{α β:Type}(f:α->β):∀ l:List α,w6 (l.map f)=(w6 l).map fun p=>(f p.1,f p.2)
 | []=>rfl
 | [_]=>rfl
 | a :: b :: l=>by
  show (f a,f b) :: w6 ((b :: l).map f)=_;rw [yG f (b :: l)]; rfl
theorem D1{α β:Type}(f:α->β)(l:List α):He (l.map f)=(He l).map fun p=>(f p.1,f p.2):=by
 cases l with
 | nil=>rfl
 | cons a l =>
  show w6 (f a :: l.map f++[f a])=(w6 (a :: l++[a])).map _;rw [<-yG f (a :: l++[a])];congr 1;simp
theorem D0{α:Type}{l:List α}{p:α×α}(h:p∈He l):p.1∈l/\p.2∈l:=by
 have adm:∀ {l:List α} {p:α×α},p∈w6 l->p.1∈l/\p.2∈l:=by
  intro l;induction l with
  | nil=>intro p h; cases h
  | cons a l ih =>
   intro p h;cases l with
   | nil=>cases h
   | cons b l =>
    rw [vT] at h;rcases List.mem_cons.mp h with rfl | h
    ·exact⟨by simp,by simp⟩
    ·have:=ih h;exact⟨aL _ this.1,aL _ this.2⟩
 cases l with
 | nil=>cases h
 | cons a l =>
  obtain⟨h1,h2⟩:=adm (l:=a :: l++[a]) h;refine⟨?_,?_⟩
  ·rcases List.mem_append.mp h1 with z | z
   ·exact z
   ·rw [ck] at z; rw [z]; simp
  ·rcases List.mem_append.mp h2 with z | z
   ·exact z
   ·rw [ck] at z; rw [z]; simp
def Wi(o:Bool)(p q:T3):List T3:=if o then [p,q] else [q,p]
def prs(a b c h0 h1 h2:Int)(o m u:Bool):List (List T3):=[Wi o ⟨a,0,h0⟩ ⟨b,0,h1⟩,Wi m ⟨a,1,h0⟩ ⟨c,0,h2⟩,Wi u ⟨b,1,h1⟩ ⟨c,1,h2⟩]
end JD
namespace JE
open K2.P K2.J K2.JB
open K2.JD (yG D1 D0)
theorem OV{A B:List (T3×T3)}(h:A.Perm B):(Oo A).Perm (Oo B):=h.map _
theorem Ym{A B:List (T3×T3)}(h:A.Perm B)(nd:(es (Oo A)).Nodup):pt (Oo A)=pt (Oo B):=S8 (OV h) nd
def ex(X:Int)(p:T3):T3:=if p.a=X then ⟨X,1 - p.b,-p.c⟩ else p
theorem Dr.perm{rows R:Rows}(d:Dr rows)(h:R.flatten.Perm rows.flatten)(str:R.length<=3):Dr R :=
 ⟨(h.map _).nodup_iff.mpr d.nd,fun p hp=>d.way p (h.mem_iff.mp hp),fun p hp=>d.hand p (h.mem_iff.mp hp),fun p hp=>h.mem_iff.mpr (d.Jk p (h.mem_iff.mp hp)),by rw [h.length_eq]; exact d.HY,str⟩
end JE
namespace JF
open K2.P K2.J K2.JB
open K2.JD (yG D1)
theorem RD{rows R:Rows}(d:Dr rows)(dR:Dr R)(pp:(pairsOf R).Perm (pairsOf rows))(pf:R.flatten.Perm rows.flatten)(l:lo R=lo rows)(g:Fn):brk R g=brk rows g:=by
 have pn:(nh R).Perm (nh rows):=(sI dR).trans ((zL pf).trans (sI d).symm);have ef:fr R=fr rows:=JE.Ym pp (y9 dR);unfold brk;rw [Mk pn (by rw [Dy]; exact QY dR),ef,l]
theorem Pb{rows:Rows}{σ:List T3->List T3}(h:∀ r∈rows,∃ k,σ r=r.drop k++r.take k):(pairsOf (rows.map σ)).Perm (pairsOf rows)/\(rows.map σ).flatten.Perm rows.flatten/\lo (rows.map σ)=lo rows:=by
 induction rows with
 | nil=>exact⟨.refl _,.refl _,rfl⟩
 | cons r rows ih =>
  obtain⟨k,hk⟩:=h r (by simp);obtain⟨i1,i2,i3⟩:=ih fun r' hr=>h r' (by simp [hr]);have e:r.take k++r.drop k=r:=dS k r;refine⟨?_,?_,?_⟩
  ·rw [aq,lH,lH,cT,cT,<-lH,<-lH];refine yW ?_ i1;rw [hk];refine(LW _ _).trans ?_;rw [e]
  ·rw [aq,fE,fE];refine yW ?_ i2;rw [hk];refine List.perm_append_comm.trans ?_;rw [e]
  ·rw [aq];have ee:(σ r).isEmpty=r.isEmpty:=by
    have hl:(σ r).length=r.length:=by rw [hk,aG,cB,dW]; lia
    cases h1:σ r with
    | nil=>rw [h1] at hl; cases r with
     | nil=>rfl
     | cons=>simp at hl
    | cons=>rw [h1] at hl; cases r with
     | nil=>simp at hl
     | cons=>rfl
   unfold lo at i3 ⊢;rw [bK,bK,ee];split
   ·rw [ak,ak,i3]
   ·exact i3
theorem RE{rows:Rows}{σ:List T3->List T3}(d:Dr rows)(h:∀ r∈rows,∃ k,σ r=r.drop k++r.take k):Dr (rows.map σ)/\∀ g,brk (rows.map σ) g=brk rows g:=by
 obtain⟨a1,a2,a3⟩:=Pb h;have dR:Dr (rows.map σ):=JE.Dr.perm d a2 (by rw [ao]; exact d.str);exact⟨dR,fun g=>RD d dR a1 a2 a3 g⟩
def rf(p:T3):T3:=⟨p.a,p.b,-p.c⟩
theorem MX(f:T3->T3)(rows:Rows):pairsOf (rows.map fun r=>r.map f)=(pairsOf rows).map fun p=>(f p.1,f p.2):=by
 rw [lH,lH];induction rows with
 | nil=>rfl
 | cons r rows ih=>rw [aq,cT,ih,cT,aM,D1]
theorem Q4(f:T3->T3)(rows:Rows):(rows.map fun r=>r.map f).flatten=rows.flatten.map f:=by rw [List.map_flatten]
theorem Wz(f:T3->T3)(rows:Rows):lo (rows.map fun r=>r.map f)=lo rows:=by
 unfold lo;rw [v3,ao];congr 2;funext r;cases r <;> rfl
end JF
namespace JH
open K2.P K2.J K2.JB
section
variable (B:T2->Bool)
def rb(e:T3):T3:=if B ⟨e.a,e.b⟩=true then ⟨e.a,e.b,1 - e.c⟩ else e
def hb(n h:Int):Int:=if B ⟨n,0⟩=B ⟨n,1⟩ then h else -h
theorem BX:Iv (rb B):=fun e=>by
 by_cases c:B ⟨e.a,e.b⟩=true
 ·have e1:rb B e=⟨e.a,e.b,1 - e.c⟩:=by unfold rb; rw [if_pos c]
  rw [e1];unfold rb;rw [if_pos c];show (⟨e.a,e.b,1 - (1 - e.c)⟩:T3)=e;rw [show 1 - (1 - e.c)=e.c by lia]
 ·have e1:rb B e=e:=by unfold rb; rw [if_neg c]
  rw [e1,e1]
theorem BY{n w c:Int}{b:Bool}(h:B ⟨n,w⟩=b):rb B ⟨n,w,c⟩=if b=true then ⟨n,w,1 - c⟩ else ⟨n,w,c⟩:=by
 unfold rb;show (if B ⟨n,w⟩=true then _ else _)=_;rw [h]
theorem LO{n:Int}{e:T3}(h:e∈kK n):rb B e∈kK n:=by
 unfold rb;split
 ·simp only [kK,bA,bO,or_false] at h ⊢;rcases h with rfl | rfl | rfl | rfl <;> simp
 ·exact h
theorem ZM{f:T3->T3}{ns:List Int}(d:Dm f ns):Dm (cj (rb B) f) ns :=
 ⟨fun e=>by unfold cj; rw [BX,d.iv,BX],d.nd,fun n hn e he z=>d.dm n hn (rb B e) (LO B he) (by unfold cj at z; have:=congrArg (rb B) z; rwa [BX] at this)⟩
theorem XT(a b c d:T3)(R:Pr T3):Sm ((a,b) :: (c,d) :: R) ((b,a) :: (d,c) :: R):=(Sm.turn a b _).trans (Sm.cons _ (Sm.turn c d _))
theorem SS(p q:T3×T3):Sm [p,q] [q,p]:=Sm.perm (md _ _ _)
theorem YQ(n:Int)(w:Bool):Sm (js n (if B ⟨n,0⟩=B ⟨n,1⟩ then w else !w)) ((js n w).map fun p=>(rb B p.1,rb B p.2)):=by
 cases h0:B ⟨n,0⟩ <;> cases h1:B ⟨n,1⟩ <;> cases w <;>
  simp only [js,aq,a8,if_true,if_false,Bool.true_eq_false,aj,bq,cZ,BY B h0,BY B h1,show (1:Int) - 0=1 from rfl,show (1:Int) - 1=0 from rfl,reduceCtorEq]
 ·exact Sm.refl _
 ·exact Sm.refl _
 ·exact Sm.cons _ (Sm.turn _ _ _)
 ·exact Sm.cons _ (Sm.turn _ _ _)
 ·exact(SS _ _).trans (Sm.cons _ (Sm.turn _ _ _))
 ·exact(SS _ _).trans (Sm.turn _ _ _)
 ·exact(XT _ _ _ _ _).trans (SS _ _)
 ·exact SS _ _
theorem HG:∀ (ps:List (Int×Int)) (f:T3->T3) (g:Fn),Dm f (ps.map (·.1))->Br (cj (rb B) f) (ps.map fun p=>(p.1,hb B p.1 p.2)) g=Br f ps g
 | [],f,g,_=>rfl
 | p :: ps,f,g,d=>by
  have st:∀ w,jD (cj (rb B) f) (js p.1 (if B ⟨p.1,0⟩=B ⟨p.1,1⟩ then w else !w))=cj (rb B) (jD f (js p.1 w))/\cls (cj (rb B) f) (js p.1 (if B ⟨p.1,0⟩=B ⟨p.1,1⟩ then w else !w))=cls f (js p.1 w):=fun w=>by
   obtain⟨s1,s2⟩:=(YQ B p.1 w).2 _ ((ZM B d).ok _);obtain⟨t1,t2⟩:=Qp (BX B) (js p.1 w) f;exact⟨s1.trans t1,s2.trans t2⟩
  have s0:=st false;have s1:=st true;show Br (jD (cj (rb B) f) (js p.1 false)) (ps.map fun p=>(p.1,hb B p.1 p.2)) (kh (cls (cj (rb B) f) (js p.1 false)) (sh (hb B p.1 p.2) g))+Br (jD (cj (rb B) f) (js p.1 true)) (ps.map fun p=>(p.1,hb B p.1 p.2)) (kh (cls (cj (rb B) f) (js p.1 true)) (sh (-hb B p.1 p.2) g))=Br (jD f (js p.1 false)) ps (kh (cls f (js p.1 false)) (sh p.2 g))+Br (jD f (js p.1 true)) ps (kh (cls f (js p.1 true)) (sh (-p.2) g));by_cases c:B ⟨p.1,0⟩=B ⟨p.1,1⟩
  ·rw [if_pos c] at s0 s1;have eh:hb B p.1 p.2=p.2:=by unfold hb; rw [if_pos c]
   rw [s0.1,s0.2,s1.1,s1.2,eh,HG ps _ _ (d.step false),HG ps _ _ (d.step true)]
  ·rw [if_neg c] at s0 s1;simp only [cZ,bq] at s0 s1;have eh:hb B p.1 p.2=-p.2:=by unfold hb; rw [if_neg c]
   rw [s0.1,s0.2,s1.1,s1.2,eh,HG ps _ _ (d.step true),HG ps _ _ (d.step false),Int.neg_neg,SD]
end
end JH
namespace JH
open K2.P K2.J K2.JB
theorem Mb{α:Type}:∀ l:List α,w6 l.reverse=((w6 l).map fun p=>(p.2,p.1)).reverse
 | []=>rfl
 | [_]=>rfl
 | a :: b :: l=>by
  have ih:=Mb (b :: l);have e1:(a :: b :: l).reverse=l.reverse++b :: [a]:=by simp
  have e2:(b :: l).reverse=l.reverse++[b]:=by simp
  rw [e1,yF,<-e2,ih];show _++[(b,a)]=(((a,b) :: w6 (b :: l)).map fun p=>(p.2,p.1)).reverse;rw [aq,mO]
theorem Ug{α:Type}(l:List α):(He l.reverse).Perm ((He l).map fun p=>(p.2,p.1)):=by
 cases l with
 | nil=>exact .refl _
 | cons a l =>
  have e1:(a :: l).reverse=l.reverse++[a]:=by simp
  rw [e1];refine(LW l.reverse [a]).trans ?_;show (w6 (a :: l.reverse++[a])).Perm ((w6 (a :: l++[a])).map _);have e2:a :: l.reverse++[a]=(a :: l++[a]).reverse:=by simp
  rw [e2,Mb];exact sy _
def oO(r:List T3)(s:T2):Bool:=decide (s∈r.map T3.s)
def hP(r:List T3)(p:T3):T3:=⟨p.a,p.b,hb (oO r) p.a p.c⟩
def back(rows:Rows)(i:Nat)(r:List T3):Rows:=(rows.set i r.reverse).map fun x=>x.map (hP r)
theorem sV{rows:Rows}{i:Nat}{r:List T3}(hi:rows[i]?=some r):(back rows i r).flatten.Perm (rows.flatten.map (hP r)):=by
 unfold back;rw [JF.Q4];refine List.Perm.map _ ?_;refine(GR hi).trans ?_;refine SA ?_ (DQ hi).symm;exact(sy r).append_right _
theorem Eg{rows:Rows}{i:Nat}{r:List T3}(d:Dr rows)(hi:rows[i]?=some r):Dr (back rows i r):=by
 have fl:=sV hi;have hc:∀ q∈rows.flatten,(hP r q).c=1\/(hP r q).c=-1:=fun q hq=>by
  have:=d.hand q hq;show hb (oO r) q.a q.c=1\/hb (oO r) q.a q.c=-1;unfold hb;split <;> lia
 refine⟨?_,?_,?_,?_,by rw [fl.length_eq,ao]; exact d.HY,by unfold back; rw [ao,bY]; exact d.str⟩
 ·refine(fl.map _).nodup_iff.mpr ?_;rw [aS]; exact d.nd
 ·intro p hp;obtain⟨q,hq,rfl⟩:=List.mem_map.mp (fl.mem_iff.mp hp);exact d.way q hq
 ·intro p hp;obtain⟨q,hq,rfl⟩:=List.mem_map.mp (fl.mem_iff.mp hp);exact hc q hq
 ·intro p hp;obtain⟨q,hq,rfl⟩:=List.mem_map.mp (fl.mem_iff.mp hp);refine fl.mem_iff.mpr (List.mem_map.mpr ⟨_,d.Jk q hq,rfl⟩)
theorem Ut{rows:Rows}{i:Nat}{r:List T3}(d:Dr rows)(hi:rows[i]?=some r):fr (back rows i r)=cj (rb (oO r)) (fr rows):=by
 have dB:=Eg d hi;have pp:(pairsOf rows).Perm (He r++(rows.eraseIdx i).flatMap He):=by rw [lH]; exact Av He hi
 have pb:(pairsOf (back rows i r)).Perm (((He r).map fun p=>(hP r p.2,hP r p.1))++((rows.eraseIdx i).flatMap He).map fun p=>(hP r p.1,hP r p.2)):=by
  unfold back;rw [JF.MX];have p1:(pairsOf (rows.set i r.reverse)).Perm (((He r).map fun p=>(p.2,p.1))++(rows.eraseIdx i).flatMap He):=by
   rw [lH];refine(oC He hi).trans ?_;exact(Ug r).append_right _
  refine(p1.map _).trans ?_;rw [aM,aS]; rfl
 have on1:∀ p∈r,oO r p.s=true:=fun p hp=>by unfold oO; simp only [decide_eq_true_eq]; exact List.mem_map.mpr ⟨p,hp,rfl⟩
 have on0:∀ x∈rows.eraseIdx i,∀ p∈x,oO r p.s=false:=fun x hx p hp=>by
  unfold oO;simp only [decide_eq_false_iff_not];intro z;have nd:=(DQ hi).map T3.s |>.nodup_iff.mp d.nd
  rw [aM,cz] at nd;exact nd.2.2 _ z _ (List.mem_map.mpr ⟨p,List.mem_flatten.mpr ⟨x,hx,hp⟩,rfl⟩) rfl
 have ZU:∀ p∈r,rb (oO r) (eO p.s)=eI p.s/\rb (oO r) (eI p.s)=eO p.s:=fun p hp=>⟨by rw [show eO p.s=⟨p.a,p.b,1⟩ from rfl,BY (oO r) (on1 p hp)]; rfl,by rw [show eI p.s=⟨p.a,p.b,0⟩ from rfl,BY (oO r) (on1 p hp)]; rfl⟩;have ZV:∀ x∈rows.eraseIdx i,∀ p∈x,rb (oO r) (eO p.s)=eO p.s/\rb (oO r) (eI p.s)=eI p.s:=fun x hx p hp=>⟨by rw [show eO p.s=⟨p.a,p.b,1⟩ from rfl,BY (oO r) (on0 x hx p hp)]; rfl,by rw [show eI p.s=⟨p.a,p.b,0⟩ from rfl,BY (oO r) (on0 x hx p hp)]; rfl⟩;unfold fr;refine Pw (y9 dB) (fun p hp=>?_) fun e he=>?_
 ·obtain⟨⟨u,v⟩,huv,rfl⟩:=List.mem_map.mp hp;rcases List.mem_append.mp (pb.mem_iff.mp huv) with z | z
  ·obtain⟨⟨a,b⟩,Jy,e⟩:=List.mem_map.mp z;injection e with e1 e2
   subst e1 e2;obtain⟨ha,Bo⟩:=JD.D0 Jy;obtain⟨f1,f2⟩:=LG d.nd (pp.mem_iff.mpr (kd _ Jy));refine⟨?_,?_⟩
   ·show rb (oO r) (pt (KG rows) (rb (oO r) (eO b.s)))=eI a.s;rw [(ZU b Bo).1];show rb (oO r) (fr rows (eI b.s))=_;rw [f2,(ZU a ha).1]
   ·show rb (oO r) (pt (KG rows) (rb (oO r) (eI a.s)))=eO b.s;rw [(ZU a ha).2];show rb (oO r) (fr rows (eO a.s))=_;rw [f1,(ZU b Bo).2]
  ·obtain⟨⟨a,b⟩,Jy,e⟩:=List.mem_map.mp z;injection e with e1 e2
   subst e1 e2;obtain⟨x,hx,aca⟩:=List.mem_flatMap.mp Jy;obtain⟨ha,Bo⟩:=JD.D0 aca;obtain⟨f1,f2⟩:=LG d.nd (pp.mem_iff.mpr (cI _ Jy));refine⟨?_,?_⟩
   ·show rb (oO r) (pt (KG rows) (rb (oO r) (eO a.s)))=eI b.s;rw [(ZV x hx a ha).1];show rb (oO r) (fr rows (eO a.s))=_;rw [f1,(ZV x hx b Bo).2]
   ·show rb (oO r) (pt (KG rows) (rb (oO r) (eI b.s)))=eO a.s;rw [(ZV x hx b Bo).2];show rb (oO r) (fr rows (eI b.s))=_;rw [f2,(ZV x hx a ha).1]
 ·have ne:rb (oO r) e∉es (KG rows):=fun z=>by
   obtain⟨n,hn,hm⟩:=(yg d _).mp z;have Ou:=LO (oO r) hm;rw [BX] at Ou;refine he ((yg dB e).mpr ⟨n,?_,Ou⟩);have p1:=(sI d).map (·.1);have p2:=(sI dB).map (·.1);rw [Dy] at p1 p2;have p3:=(zL (sV hi)).map (·.1);have e4:(Sa (rows.flatten.map (hP r))).map (·.1)=(Sa rows.flatten).map (·.1):=by
    unfold Sa;rw [v3,aS,aS,aS]; rfl
   rw [e4] at p3;exact p2.mem_iff.mpr (p3.mem_iff.mpr (p1.mem_iff.mp hn))
  show rb (oO r) (pt (KG rows) (rb (oO r) e))=e;rw [pT ne,BX]
theorem RI{rows:Rows}{i:Nat}{r:List T3}(d:Dr rows)(hi:rows[i]?=some r)(g:Fn):brk (back rows i r) g=brk rows g:=by
 have dB:=Eg d hi;have pn:(nh (back rows i r)).Perm ((nh rows).map fun p=>(p.1,hb (oO r) p.1 p.2)):=by
  refine(sI dB).trans ((zL (sV hi)).trans ?_);have:Sa (rows.flatten.map (hP r))=(Sa rows.flatten).map fun p=>(p.1,hb (oO r) p.1 p.2):=by
   unfold Sa;rw [v3,aS,aS]; rfl
  rw [this];exact(sI d).symm.map _
 have el:lo (back rows i r)=lo rows:=by
  unfold back;rw [JF.Wz];have:=Wy (r':=r.reverse) hi;rw [List.isEmpty_reverse] at this;lia
 unfold brk;rw [Mk pn (by rw [Dy]; exact QY dB),Ut d hi,el,HG (oO r) _ _ _ (by rw [Dy]; exact QY d)]
end JH
end K2
end
section
namespace K2
open PySem (Str)
open Enc (enc)
namespace JE
open K2.P K2.J K2.JB
open K2.Y (Po gq pick kD kE bL cE d8 gQ)
open K2.Bb (AL fb kM)
open K2.Me (sL)
def Dg(f s:Int):Prop:=0<=f/\f < s
def Xp:List Int->List Int->Prop
 | [],[]=>True
 | f :: fs,s :: ss=>Dg f s/\Xp fs ss
 | _,_=>False
def prim:List Int:=[10007,10009,10037,10039,10061,10067,10069,10079,10091,10093]
def tS:hU :=
 (bZ (bM (jK (aw (dC (.int 10007)) (aw (dC (.int 10009)) (aw (dC (.int 10037)) (aw (dC (.int 10039)) (aw (dC (.int 10061)) (aw (dC (.int 10067)) (aw (dC (.int 10069)) (aw (dC (.int 10079)) (aw (dC (.int 10091)) (aw (dC (.int 10093)) aQ))))))))))) (aH 2))
 (bZ (bM (bh zt (av 0) (dC (.int 2))) (aH 3))
 (bZ (bM (jK aQ) (aH 4))
 (bZ (ff (QC (av 1)) (jA (cY (aH 5) (cY (aH 6) jo))) (fA (gv (bh (Dh false) (bh pQ (av 0) (dC (.int 2))) (dC (.int 0)))) (bZ (lM (tV Be mK (av 4) (aw (bh pQ (av 3) (av 6)) aQ)))
 (bM (bh zt (av 3) (av 6)) (aH 3))) (lM (tV Be mK (av 4) (aw (bF d8 (aw (av 0) (aw (bh mz (av 2) (av 5)) (aw (av 6) aQ)))) aQ)))))
 (cu (cO (av 4)))))))
def jH:jU:=fun ds G Q _=>∃ (cell:Int) (uP:List Int),ds=[.int cell,enc uP]/\(uP.length<=10/\∀ s∈uP,1<=s/\s<=10000)/\∀ fs:List Int,Xp fs uP->Q (enc fs) G
theorem DR:∀ {fs ss:List Int} {f s:Int},Xp fs ss->Dg f s->Xp (fs++[f]) (ss++[s])
 | [],[],_,_,_,k=>⟨k,trivial⟩
 | _ :: _,[],_,_,h,_=>h.elim
 | [],_ :: _,_,_,h,_=>h.elim
 | _ :: _,_ :: _,_,_,h,k=>⟨h.1,DR h.2 k⟩
theorem JO:∀ {fs ss:List Int},Xp fs ss->fs.length=ss.length
 | [],[],_=>rfl
 | _ :: _,[],h=>h.elim
 | [],_ :: _,h=>h.elim
 | _ :: _,_ :: _,h=>by rw [ak,ak,JO h.2]
theorem Q9(xs:List Int):nK 0 (xs.map enc)=(xs.zipIdx 0).map fun p=>D.tup [.int (p.2:Int),.int p.1]:=by
 have:∀ (xs:List Int) (k:Nat),nK k (xs.map enc)=(xs.zipIdx k).map fun p=>D.tup [.int (p.2:Int),.int p.1]:=by
  intro xs;induction xs with
  | nil=>intro k; rfl
  | cons x xs ih =>
   intro k;show D.tup [.int (k:Int),.int x] :: nK (k+1) (xs.map enc)=_;rw [ih (k+1)]; rfl
 exact this xs 0
theorem tX(ds:List D)(G:Gp)(Q:DK)(h:jH ds G Q fun _ _=>False):tS (fun _ _=>False) (ends Q) (bo 7 ds) G:=by
 obtain⟨cell,uP,rfl,⟨hl,hs⟩,q⟩:=h;unfold tS;simp only [↓cM,bM,jK,aw,dC,aQ,↓ak,↓aB,aH,bh,av,bo,↓aq,↓a8,bg,↓aF,↓aP,↓ar,↓ah,↓aa,↓mR,ends];refine⟨by decide,fun p2 f2=>⟨by decide,by decide,by decide,fun p4 f4=>?_⟩⟩;have n24:p2≠p4:=fun z=>by rw [<-z,az] at f4; cases f4
 have f4':G p4=none:=(fD.new f2).free f4;refine cV (fun τ G'=>∃ fs:List Int,Xp fs uP/\fD G G'/\G' p4=some (.lst (fs.map enc))/\∃ a3 a5 a6,τ=[some (.int cell),some (enc uP),some (.ref p2),a3,some (.ref p4),a5,a6]) ?_ ?_
 ·intro N hN;simp only [ff,QC,av,↓ae,↓aa];refine Gx ?_;rw [Q9];refine eG (xs:=uP.zipIdx 0) (fun pre τ G'=>∃ (fs:List Int) (left:Int) (a5 a6:Option D),Xp fs (pre.map (·.1))/\fD G G'/\G' p2=some (.lst (prim.map D.int))/\G' p4=some (.lst (fs.map enc))/\τ=[some (.int cell),some (enc uP),some (.ref p2),some (.int left),some (.ref p4),a5,a6])
   ⟨[],_,_,_,trivial,(fD.new f2).trans (.new f4),by rw [cL n24,az]; rfl,az,rfl⟩ (fun _ _ _ _=>trivial) ?_ ?_
  ·rintro pre x post τ G' N2 e ⟨fs,left,a5,a6,fa,le,g2,g4,rfl⟩ oB;obtain⟨lf,rt,e1,e2,e3⟩:=CZ e;have hx:1<=x.1/\x.1<=10000:=hs x.1 (by rw [e1]; simp);have Ov:lf.length < 10:=by have:=congrArg dU e1; simp at this; lia
   simp only [jA,cY,aH,jo,fA,↓cQ,bh,av,↓ar,↓ah,↓aa,dC,↓gX,↓E9,lM,tV,↓ae,↓pM,aw,aQ,↓ka,bM,↓mR,bF];refine⟨by decide,_,_,.int _,.int _,?_⟩;simp only [↓bE,↓aj,iS,↓if_false];by_cases c:cell % 2=0
   ·have c':(cell % 2 == 0)=true:=by simpa using c
    simp only [c',g4,↓true_and,↓if_true];refine⟨by lia,by rw [ao]; exact IG (by have:=JO fa; rw [this,e3,ao,List.length_zipIdx]; lia),by lia,by lia,?_⟩;refine oB _ _ ⟨fs++[left % x.1],_,_,_,by rw [aM]; exact DR fa ⟨jV _ (by lia),jC _ (by lia)⟩,le.put f4',by rw [cL n24]; exact g2,by rw [az,aM]; rfl,rfl⟩
   ·have c':(cell % 2 == 0)=false:=by simpa using c
    simp only [c',↓aj,g4,↓true_and,↓if_false];rw [Df,g2];have ea:∃ pr:Int,r8 (prim.map D.int) (x.2:Int)=some (.int pr)/\1<=pr/\pr<=10093:=by
     have hk:x.2 < prim.length:=by rw [e2]; exact Ov
     refine⟨prim[x.2],?_,?_⟩
     ·rw [ql _ (by lia) (by rw [ao]; lia)];simp only [dE,kU]
     ·have:∀ y∈prim,1<=y/\y<=10093:=by decide
      exact this _ (dD hk)
    obtain⟨pr,ea,ZW,pr2⟩:=ea;simp only [ea];refine⟨_,_,_,rfl,⟨by lia,by lia⟩,?_⟩;simp only [g4];refine⟨by rw [ao]; exact IG (by have:=JO fa; rw [this,e3,ao,List.length_zipIdx]; lia),?_⟩;refine oB _ _ ⟨fs++[pick cell pr x.1],_,_,_,by rw [aM]; exact DR fa ⟨kD _ _ (by lia),kE _ _ (by lia)⟩,le.put f4',by rw [cL n24]; exact g2,by rw [az,aM]; rfl,rfl⟩
  ·rintro τ G' ⟨fs,left,a5,a6,fa,le,g2,g4,rfl⟩;rw [List.zipIdx_map_fst] at fa;exact hN _ _ ⟨fs,fa,le,g4,_,_,_,rfl⟩
 ·rintro _ G' ⟨fs,fa,le,g4,a3,a5,a6,rfl⟩;simp only [cu,cO,av,↓ae,↓aa];exact je le f4' g4 (q fs fa)
section
variable (a b c d e f:D)
theorem x0:r8 [a,b,c,d,e,f] 0=some a:=rfl
theorem x1:r8 [a,b,c,d,e,f] 1=some b:=rfl
theorem x2:r8 [a,b,c,d,e,f] (2+2 * 0)=some c:=rfl
theorem x3:r8 [a,b,c,d,e,f] (3+2 * 0)=some d:=rfl
theorem x4:r8 [a,b,c,d,e,f] (2+2 * 1)=some e:=rfl
theorem x5:r8 [a,b,c,d,e,f] (3+2 * 1)=some f:=rfl
end
def rG:hU :=
 (bZ (Ha 3 (bM (fT 1 [] (Aa (av 1)) (aH 0) none (jK aQ)) (aH 3)))
 (bZ (bM (jK aQ) (aH 4))
 (bZ (ff (lu (av 0)) (aH 5) (bZ (bM (bF jH (aw (cO (av 5)) (aw (cO (jK (aw (av 2) (aw (dC (.int 2)) (aw (av 1) (aw (dC (.int 10000)) (aw (av 1) (aw (dC (.int 10000)) aQ)))))))) aQ))) (aH 6))
 (bZ (bM (bF i7 (aw (av 4) (aw (bh kB (dC (.int 1)) (bh mz (av 6) (dC (.int 0)))) aQ))) (aH 7))
 (bZ (lM (tV Be mK (av 4) (aw (av 7) aQ)))
 (ff (Aa (dC (.int 2))) (aH 8) (bM (cO (bF nq (aw (cO (av 3)) (aw (cO (bh mz (av 6) (bh kB (dC (.int 2)) (bh MO (dC (.int 2)) (av 8))))) (aw (cO (bh mz (av 6) (bh kB (dC (.int 3)) (bh MO (dC (.int 2)) (av 8))))) (aw (cO (jK (aw (iB (aw (av 7) (aw (av 8) (aw (bh S2 (dC (.int 1)) (bh MO (dC (.int 2)) (bh mz (av 6) (dC (.int 1))))) aQ)))) aQ))) aQ)))))) (aH 3)))))))
 (cu (cO (av 3))))))
def fy:jU:=JB.fy
theorem sk(ds:List D)(G:Gp)(Q:DK)(h:fy ds G Q fun _ _=>False):rG (fun _ _=>False) (ends Q) (bo 9 ds) G:=by
 obtain⟨d,cells,S,sp,rfl,hd,⟨Nx,⟨hS1,hS3⟩,sp1,sp2⟩,q⟩:=h;unfold rG;simp only [ends,bo,aq,a8,ak,aB,bg,aF,aP,zc,kM,bM,fT,aH,ar,ah,ae,aa,jK,aQ,pB,av,o3,dE];have YX:(-(2 ^ 62):Int)<=(S:Int)/\(S:Int) < 2 ^ 62:=by lia
 refine⟨YX.1,YX.2,C6 (by simp [gJ]; lia),?_⟩;refine Uh (fun pre acc τ G'=>(∃ a,τ=[a])/\∃ as:List Nat,acc=as.map D.ref/\AL G G' as (bg pre.length [])) ⟨⟨_,rfl⟩,[],rfl,.nil G⟩ (fun _ _ _ _ _=>trivial) ?_ ?_
 ·rintro pre x post acc τ G' N e ⟨⟨a,rfl⟩,as,rfl,al⟩ hN;simp only [aH,jK,aQ,aB,ah];refine⟨by decide,fun p hp=>hN _ _ _ ⟨⟨_,rfl⟩,as++[p],by simp,?_⟩⟩;rw [aG,cg,List.replicate_succ'];exact al.push hp []
 rintro acc τ G' ⟨⟨a,rfl⟩,as,rfl,al⟩ p3 f3;refine(al.top f3).fz ?_;have e3:D.cW ((bg (gJ 0 S).length ([]:List D)).map D.cW)=enc (bg S ([]:List T3)):=by
  rw [fb]; simp [gJ]
 rw [e3];clear al f3 p3 as G' a e3;refine⟨by decide,fun p6 f6=>?_⟩;simp only [ff];simp only [e9,av,aa];refine sL hd (.new f6) fun ok b7=>?_;refine eG (xs:=cells) (f:=D.int) (fun pre τ G'=>fD G G'/\∃ (rows:Rows) (ns:List Int) (a1 a2 a3 a4:Option D),(Dr rows/\rows.length=S/\rows.flatten.length=2 * pre.length/\ns.length=pre.length/\acI rows ns)/\G' p6=some (.lst (ns.map D.int)) /\
  τ=[some d,some (.int S),some (.int sp),some (enc rows),some (.ref p6),a1,a2,a3,a4]) ⟨.new f6,_,[],_,_,_,_,⟨Dr.nil hS3,by simp,by simp,rfl,fun p hp=>by simp at hp⟩,az,rfl⟩ (fun _ _ _ h=>b7 _ h.1) ?_ ?_
 ·rintro pre x post τ G' N2 e ⟨le,rows,ns,a1,a2,a3,a4,⟨dr,hlen,hfl,Ze,Y0⟩,g6',rfl⟩ oB;have hlp:=gQ e;simp only [aH,ar,ah,zc,bM,bF,aw,cO,av,ae,aa,jK,dC,aQ,ak,aB,bh,lM,tV,pM,ka];refine du ⟨by decide,fun p7 f7=>?_⟩;refine je (xs:=([sp,2,(S:Int),10000,(S:Int),10000]:List Int)) (.new f7) f7 az ?_;refine⟨_,_,rfl,⟨by simp,fun s hs=>by simp only [bA,bO,or_false] at hs; lia⟩,fun fs fa=>?_⟩
  match fs,fa with
  | [d0,d1,d2,d3,d4,d5],⟨⟨a0,b0⟩,⟨a1',b1⟩,⟨a2',b2⟩,⟨a3',b3⟩,⟨a4',b4⟩,⟨a5',b5⟩,_⟩ =>
  have e6:(enc [d0,d1,d2,d3,d4,d5]:D)=.cW [.int d0,.int d1,.int d2,.int d3,.int d4,.int d5]:=rfl;rw [e6];simp only [nA,x0,gi];refine⟨.ref p6,ns,_,rfl,IsL.ref g6',⟨by lia,by lia,by lia⟩,fun m m1 m2 m3=>?_⟩;simp only [g6',true_and];refine⟨IG (by rw [ao]; lia),?_⟩;have Se:fD G (eV G' p6 (.lst (ns.map D.int++[.int m]))):=le.put f6;have g62:(eV G' p6 (.lst (ns.map D.int++[.int m]))) p6=some (.lst (ns.map D.int++[.int m])):=az;generalize eV G' p6 (.lst (ns.map D.int++[.int m]))=G2 at Se g62;have hh:(1 - 2 * d1)=1\/(1 - 2 * d1)=-1:=by lia
  simp only [ff];simp only [pB,dC,o3];refine⟨by decide,by decide,?_⟩;have er:gJ 0 (Int.toNat 2)=([0,1]:List Int).map D.int:=rfl;rw [er];have rl:=ze dr;have fw:=dr.HY;obtain⟨i,rfl⟩:∃ i:Nat,d2=(i:Int):=⟨d2.toNat,by lia⟩;obtain⟨j,rfl⟩:∃ i:Nat,d4=(i:Int):=⟨d4.toNat,by lia⟩;have hmf:∀ p∈rows.flatten,p.a≠m:=fun p hp z=>m1 (z ▸ Y0 p hp);refine eG (xs:=([0,1]:List Int)) (f:=D.int) (fun zB τ G3=>G2=G3/\∃ (R:Rows) (b1:Option D),((zB=[]/\R=rows)\/(∃ (i:Nat) (r:List T3) (k:Nat),zB=[0]/\i < S/\rows[i]?=some r/\R=rows.set i (r.take k++[⟨m,0,1 - 2 * d1⟩]++r.drop k))\/(zB=[0,1]/\Dr R/\R.length=S/\R.flatten.Perm (⟨m,1,1 - 2 * d1⟩ :: ⟨m,0,1 - 2 * d1⟩ :: rows.flatten))) /\
   τ=[some d,some (.int S),some (.int sp),some (enc R),some (.ref p6),some (.int x),some (.cW [.int d0,.int d1,.int i,.int d3,.int j,.int d5]),some (.int m),b1]) ⟨rfl,rows,_,.inl ⟨rfl,rfl⟩,rfl⟩ (fun _ _ _ _=>trivial) ?_ ?_
  ·rintro zB w Yn τ G3 N3 e2 ⟨rfl,R,b1,J,rfl⟩ wR;have Xb:(zB=[]/\w=0)\/(zB=[0]/\w=1):=by
    cases zB with
    | nil=>cases e2; exact .inl ⟨rfl,rfl⟩
    | cons u zB =>
     cases zB with
     | nil=>cases e2; exact .inr ⟨rfl,rfl⟩
     | cons v zB =>
      have:=congrArg dU e2;simp at this
   rcases Xb with ⟨rfl,rfl⟩ | ⟨rfl,rfl⟩
   ·have eR:R=rows:=by
     rcases J with ⟨_,z⟩ | ⟨_,_,_,z,_⟩ | ⟨z,_⟩
     ·exact z
     ·cases z
     ·cases z
    subst eR;simp only [aH,bM,cO,bF,aw,av,ar,ah,ae,aa,bh,dC,jK,iB,aQ,ak,aB,nA,x1,uZ,uY,gi,x3,x2];refine du ⟨.inl ⟨by decide,by decide⟩,du ⟨.inl ⟨by decide,by decide⟩,du ?_⟩⟩;refine⟨.inl ⟨by decide,by decide⟩,by decide,by decide,fun pa fa=>?_⟩;refine je (xs:=[(⟨m,0,1 - 2 * d1⟩:T3)]) (.new fa) fa az ?_;refine Pt (rows:=R) (more:=[(⟨m,0,1 - 2 * d1⟩:T3)]) ⟨by rw [hlen]; lia,by rw [hlen]; lia,fun r hr=>by have:=rl r hr; lia,by simp⟩ fun r k hr hk ek=>du ?_;exact wR _ _ ⟨rfl,_,_,.inr (.inl ⟨i,r,k,rfl,by lia,hr,rfl⟩),rfl⟩
   ·obtain⟨i',r,k,hi,hr,rfl⟩:∃ (i:Nat) (r:List T3) (k:Nat),i < S/\rows[i]?=some r/\R=rows.set i (r.take k++[⟨m,0,1 - 2 * d1⟩]++r.drop k):=by
     rcases J with ⟨z,_⟩ | ⟨i,r,k,_,z⟩ | ⟨z,_⟩
     ·cases z
     ·exact⟨i,r,k,z⟩
     ·cases z
    simp only [aH,bM,cO,bF,aw,av,ar,ah,ae,aa,bh,dC,jK,iB,aQ,ak,aB,nA,x1,uZ,uY,gi,x5,x4];refine du ⟨.inl ⟨by decide,by decide⟩,du ⟨.inl ⟨by decide,by decide⟩,du ?_⟩⟩;refine⟨.inl ⟨by decide,by decide⟩,by decide,by decide,fun pa fa=>?_⟩;refine je (xs:=[(⟨m,1,1 - 2 * d1⟩:T3)]) (.new fa) fa az ?_;refine Pt (more:=[(⟨m,1,1 - 2 * d1⟩:T3)]) ⟨by rw [bY,hlen]; lia,by rw [bY,hlen]; lia,fun r2 hr2=>?_,by simp⟩ fun r' k' WJ hk' ek'=>du ?_
    ·rcases qP hr2 with z | z
     ·have:=rl r2 z; lia
     ·have:=rl r (aZ hr);rw [z,aG,aG,cg,dW,cB]; lia
    have pf:=(Gu (k:=k') (more:=[⟨m,1,1 - 2 * d1⟩]) WJ).trans ((Gu (k:=k) (more:=[⟨m,0,1 - 2 * d1⟩]) hr).append_left _);have dr2:=K2.JB.Dr.two dr hmf hh pf (by lia) (by rw [bY,bY]; lia);exact wR _ _ ⟨rfl,_,_,.inr (.inr ⟨rfl,dr2,by rw [bY,bY]; exact hlen,pf⟩),rfl⟩
  ·rintro τ G3 ⟨rfl,R,b1,J,rfl⟩;obtain⟨drn,ln,pf⟩:Dr R/\R.length=S/\R.flatten.Perm (⟨m,1,1 - 2 * d1⟩ :: ⟨m,0,1 - 2 * d1⟩ :: rows.flatten):=by
    rcases J with ⟨z,_⟩ | ⟨_,_,_,z,_⟩ | ⟨_,z⟩
    ·cases z
    ·cases z
    ·exact z
   refine oB _ _ ⟨Se,R,ns++[m],_,_,_,_,⟨drn,ln,by rw [pf.length_eq,ak,ak,aG,cg]; lia,by rw [aG,aG,Ze]; rfl,fun p hp=>?_⟩,?_,rfl⟩
   ·rcases List.mem_cons.mp (pf.mem_iff.mp hp) with rfl | hp
    ·simp
    ·rcases List.mem_cons.mp hp with rfl | hp
     ·simp
     ·exact kd _ (Y0 p hp)
   ·rw [g62,aM]; rfl
 ·rintro τ G' ⟨le,rows,ns,a1,a2,a3,a4,⟨dr,hlen,hfl,Ze,Y0⟩,g6',rfl⟩;simp only [cu,cO,av,ae,aa];exact yA le (q rows dr hlen hfl)
end JE
namespace HE
open K2.P
variable {rows:Rows}
end HE
namespace HE
open K2.P
variable {rows:Rows}
def z3:T3:=⟨0,0,0⟩
def prv(r:List T3)(k:Nat):T3:=if k=0 then r.getD (r.length - 1) z3 else r.getD (k - 1) z3
def ZW(r:List T3)(ks:List Nat):List (T3×T3):=ks.map fun k=>(prv r k,r.getD k z3)
def prs(rows:Rows):List (T3×T3):=rows.flatMap fun r=>ZW r (fc r.length)
end HE
namespace Me
open K2.P K2.T
open K2.HE (prv ZW prs z3)
open K2.Bb (kM)
open K2.Y (gQ)
variable {rows:Rows}
def ks(rows:Rows):List T2:=(prs rows).map fun p=>p.2.s
end Me
namespace Me
open K2.P K2.T
open K2.Bb (kM fb eM)
open K2.Y (gq pick kD kE bL cE d8 gQ)
variable {rows:Rows}
end Me
namespace JE
open K2.P K2.J K2.JB
open K2.Y (Po gq pick kD kE bL cE d8 gQ)
open K2.Bb (AL fb kM)
open K2.Me (sL)
theorem Vo{α:Type} [DecidableEq α] [Enc α]{xs:List α}{i:Nat}{r:α}(h:xs[i]?=some r):r8 (xs.map enc) (i:Int)=some (enc r):=by
 have hi:=(List.getElem?_eq_some_iff.mp h).1;rw [ql _ (by lia) (by rw [ao]; lia)];simp only [dE,kU];have:=(List.getElem?_eq_some_iff.mp h).2;rw [this]
theorem pR{α:Type} [DecidableEq α] [Enc α]{xs:List α}{i:Nat}{r:α}{G:Gp}{Q:DK}(h:xs[i]?=some r)(q:Q (enc r) G):mz (enc xs) (.int i) G Q:=by
 show mz (.cW (xs.map enc)) (.int i) G Q;rw [nA,Vo h];exact q
theorem yE{α:Type} [DecidableEq α] [Enc α]{r:List α}{G:Gp}{Q:DK}(q:Q (.int (r.length:Int)) G):qM [enc r] G Q:=by
 show qM [.cW (r.map enc)] G Q;rw [vQ,ao]; exact q
theorem yj(n:Nat):gJ 0 n=(fc n).map fun k:Nat=>D.int (k:Int):=by
 rw [IP,aS]; rfl
theorem yi{n:Nat}{pre post:List Nat}{x:Nat}(e:fc n=pre++x :: post):x=pre.length/\x < n:=by
 have h1:=congrArg (fun l=>l[pre.length]?) e;simp only [bS (aC _),Nat.sub_self,aa] at h1;have hl:pre.length < n:=by have:=congrArg dU e; simp at this; lia
 rw [au (by rw [j3]; exact hl),lW] at h1;injection h1 with h1
 exact⟨h1.symm,by lia⟩
end JE
namespace JE
open K2.P K2.J K2.JB
open K2.Y (Po gq pick kD kE bL cE d8 gQ)
open K2.Bb (AL fb kM)
open K2.Me (sL)
theorem BQ:∀ {L:List T3},(L.map T3.s).Nodup->∀ {p q:T3},p∈L->q∈L->p.s=q.s->p=q
 | x :: L,nd,p,q,hp,hq,e=>by
  rw [aq,aY] at nd;rcases List.mem_cons.mp hp with e1 | h1
  ·rcases List.mem_cons.mp hq with e2 | h2
   ·rw [e1,e2]
   ·exact absurd (List.mem_map.mpr ⟨q,h2,by rw [<-e,e1]⟩) nd.1
  ·rcases List.mem_cons.mp hq with e2 | h2
   ·exact absurd (List.mem_map.mpr ⟨p,h1,by rw [e,e2]⟩) nd.1
   ·exact BQ nd.2 h1 h2 e
end JE
end K2
end
section
namespace K2
namespace Ba
def ab(c:Int):Int:=if c < 0 then -c else c
variable {α:Type}
end Ba
end K2
end
section
namespace K2
open PySem (Str)
open Enc (enc)
namespace Ba
open K2.P
def Ok(n:Int)(cs:List Int):Prop:=n<=3/\cs.length<=40/\∀ c∈cs,1<=ab c/\ab c < n
end Ba
namespace Ba
open K2.P
def Good(n:Int)(cs:List Int):Prop:=(1<=n/\n<=3)/\cs.length<=12/\∀ c∈cs,1<=ab c/\ab c < n
instance (n:Int) (cs:List Int):Decidable (Good n cs):=by unfold Good; exact inferInstance
end Ba
namespace Ba
open K2.P
def jb:List T3->T3
 | []=>⟨0,0,0⟩
 | a :: r=>r.foldl (fun m x=>if aT.lt x m=true then x else m) a
theorem iJ{r:List T3}(h:r≠[]):jb r∈r:=by
 cases r with
 | nil=>exact absurd rfl h
 | cons a r=>exact(j0 r a).1
theorem lE{r:List T3}{y:T3}(hy:y∈r):Gh (jb r) y=true:=by
 cases r with
 | nil=>cases hy
 | cons a r=>exact(j0 r a).2 y hy
def cX(r:List T3):List T3:=r.drop (r.idxOf (jb r))++r.take (r.idxOf (jb r))
theorem Hn{x:D}{G:Gp}{r:List T3}{Q:DK}(hi:itemsOf x G=some (r.map enc))(oW:r≠[])(q:Q (enc (jb r)) G):Rv [x] G Q :=
 Eu.mn hi oW fun m hm hl=>by
  have:m=jb r:=Gg _ _ (hl _ (iJ oW)) (lE hm);rw [this]; exact q
theorem zR{x:D}{G:Gp}{r:List T3}{Q:DK}(ht:Be x G)(hi:itemsOf x G=some (r.map enc))(oW:r≠[])(q:Q (.int ((r.idxOf (jb r):Nat):Int)) G):DA x [enc (jb r)] G Q:=by
 refine⟨ht,r.map enc,enc (jb r),r.map enc,hi,Enc.sn G 8 _ (by decide),t6 G 7 (by decide) r,?_⟩;have e:(r.map enc).findIdx? (ip · (enc (jb r)))=some (r.idxOf (jb r)):=by
  have hf:(fun y:T3=>ip (enc y) (enc (jb r)))=fun y=>y == jb r:=by
   funext y;rw [Enc.eqv];by_cases h:y=jb r <;> simp [h]
  rw [List.findIdx?_map];show List.findIdx? (fun y=>ip (enc y) (enc (jb r))) r=_;rw [hf];have hm:=iJ oW;rw [List.idxOf];rw [List.findIdx?_eq_some_iff_findIdx_eq];exact⟨List.findIdx_lt_length.mpr ⟨_,hm,by simp⟩,rfl⟩
 rw [e]; exact q
end Ba
namespace K3
open K2.P K2.HE
inductive Rl (G:Gp):List D->Rows->Prop
 | nil:Rl G [] []
 | cons {x:D} {r:List T3} {xs:List D} {rs:Rows}:IsL G x (r.map enc)->Rl G xs rs->Rl G (x :: xs) (r :: rs)
theorem Pc{G':Gp}:∀ (as:List Nat) (rs:Rows),as.length=rs.length->(∀ (i a:Nat) (r:List T3),as[i]?=some a->rs[i]?=some r->G' a=some (.lst (r.map enc)))->Rl G' (as.map D.ref) rs
 | [],[],_,_=>.nil
 | [],_ :: _,h,_=>by cases h
 | _ :: _,[],h,_=>by cases h
 | a :: as,r :: rs,h,xU=>.cons (IsL.ref (xU 0 a r rfl rfl)) (Pc as rs (by simpa using h) fun i b s h1 h2=>xU (i+1) b s h1 h2)
end K3
namespace K3
open K2.P K2.HE
def ins(r:List T3)(k:Nat)(p:T3):List T3:=r.take k++p :: r.drop k
end K3
namespace Md
open K2.P
open K2.Ba (cX jb)
abbrev M:=List (Int×Int)
def rn1(m:M)(t:T3):T3:=⟨(cF m t.a).getD 0,t.b,t.c⟩
def ren(m:M)(r:List T3):List T3:=r.map (rn1 m)
def HQ(r:List T3)(k:Nat):List T3:=r.drop k++r.take k
def aa8(m:M)(n:Int):M:=if (cF m n).isSome=true then m else eY m n ((m.length:Int)+1)
def met(L:List T3):M:=L.foldl (fun m t=>aa8 m t.a) []
end Md
namespace Md
open K2.P
open K2.Ba (cX jb iJ lE)
theorem Fd(r:List T3)(k:Nat):(HQ r k).Perm r:=by
 unfold HQ;exact List.perm_append_comm.trans (by rw [dS])
theorem uQ{r a b:List T3}{x:T3}(hx:x=jb r)(e:r=a++x :: b)(hn:x∉a):cX r=x :: b++a:=by
 have hi:r.idxOf (jb r)=a.length:=by
  rw [<-hx,e,List.idxOf_append,if_neg hn,List.idxOf_cons_self]; simp
 unfold cX;rw [hi,e,xR,List.take_left]
theorem M9{r r':List T3}(p:r'.Perm r)(oW:r≠[]):jb r'=jb r:=by
 have abP:r'≠[]:=fun z=>oW (by rw [z] at p; exact p.symm.eq_nil);exact Gg _ _ (lE (p.mem_iff.mpr (iJ oW))) (lE (p.mem_iff.mp (iJ abP)))
theorem zd{r:List T3}(hn:(r.map T3.s).Nodup)(k:Nat):cX (HQ r k)=cX r:=by
 by_cases oW:r=[]
 ·subst oW; unfold HQ; simp
 have nd:r.Nodup:=by
  refine List.Pairwise.imp ?_ (List.pairwise_map.mp hn);intro a b h e;exact h (congrArg _ e)
 have hl:=M9 (Fd r k) oW;obtain⟨a,b,e⟩:=A5 (iJ oW);generalize hx:jb r=x at e;rw [hx] at hl;have hnd:(a++x :: b).Nodup:=by rw [<-e]; exact nd
 rw [cz] at hnd;have ha:x∉a:=fun z=>hnd.2.2 x z x cA rfl;have hb:x∉b:=(List.nodup_cons.mp hnd.2.1).1;rw [uQ hx.symm e ha];by_cases hk:k<=a.length
 ·have e2:HQ r k=a.drop k++x :: (b++a.take k):=by
   unfold HQ;rw [e,List.drop_append_of_le_length hk,Ew hk]; simp
  rw [uQ hl.symm e2 fun z=>ha (Sw z)];simp only [aF,cU,dS]
 ·obtain⟨j,rfl⟩:∃ j,k=a.length+(j+1):=⟨k - a.length - 1,by lia⟩;have e2:HQ r (a.length+(j+1))=(b.drop j++a)++x :: b.take j:=by
   unfold HQ;rw [e,List.drop_length_add_append,List.take_length_add_append,List.drop_succ_cons,List.take_succ_cons]; simp
  rw [uQ hl.symm e2 fun z=>(List.mem_append.mp z).elim (fun z=>hb (Sw z)) ha];simp only [aF,<-cU,dS]
def sm(rows:Rows):Rows:=(rows.map (ren (met rows.flatten))).map cX
end Md
namespace Md
open K2.P
open K2.Ba (cX jb iJ lE)
def tp(c:Rows):D:=.tup [enc (sm c),.kW (bB (met c.flatten))]
end Md
namespace Md
open K2.P
open K2.Ba (cX jb iJ lE)
open K2.HE (z3 HR)
theorem S1{r:List T3}{k:Nat}{G:Gp}{Q:DK}{d:D}(hd:IsL G d (r.map enc))(hk:k<=r.length)(hl:r.length<=1000)(q:∀ p G1,fD G G1->G p=none->G1 p=some (.lst ((HQ r k).map enc))->Q (.ref p) G1) :
  Pk d (some (k:Int)) none G fun x G1=>Pk d none (some (k:Int)) G1 fun y G2=>kB x y G2 Q:=by
 refine wu hd ?_;rw [qh,vN r k hk];intro p hp;refine wu (hd.mono (.new hp)) ?_;rw [qh,D3 r k hk];intro p2 qK;have abO:p≠p2:=fun z=>by rw [<-z,az] at qK; cases qK
 have g1:eV (eV G p (.lst ((r.drop k).map enc))) p2 (.lst ((r.take k).map enc)) p=some (.lst ((r.drop k).map enc)):=by rw [cL abO,az]
 have gl:fD G (eV (eV G p (.lst ((r.drop k).map enc))) p2 (.lst ((r.take k).map enc))):=(fD.new hp).trans (.new qK);show El _ _ _ _;unfold El;rw [pg (IsL.ref (ds:=(r.drop k).map enc) g1),pg (IsL.ref (ds:=(r.take k).map enc) az)];refine⟨C6 (by simp; lia),fun p3 Ve=>?_⟩;refine q _ _ (gl.trans (.new Ve)) (gl.free Ve) ?_;rw [az];unfold HQ;rw [aM]
end Md
namespace Md
open K2.P
open K2.Ba (cX jb iJ lE)
variable {rows c:Rows}
end Md
end K2
end
section
namespace K2
open Enc (enc)
namespace UE
open K2.P K2.Md
open K2.Ba (cX jb iJ lE)
theorem KO(a b:List T3):HQ (a++b) a.length=b++a:=by unfold HQ; rw [xR,List.take_left]
end UE
end K2
end
section
namespace K2
open PySem (Str)
open Enc (enc)
namespace UE
open K2.P
open K2.Md (M met ren rn1 HQ sm)
open K2.Ba (cX jb Hn zR)
open K2.HE (HR)
open K2.K3 (Rl Pc)
theorem Lw{G G1 G2:Gp}{p:Nat}{as:List Nat}{rs:Rows}(h:HR G G1 p as rs)(l:fD G1 G2):HR G G2 p as rs :=
 ⟨h.le.trans l,h.fp,l _ _ h.gp,h.np,h.nd,h.fr,h.len,fun i a r h1 h2=>l _ _ (h.at' i a r h1 h2)⟩
theorem X3{G:Gp}:∀ {ds:List D} {rs:Rows},Rl G ds rs->Sn G 8 (.cW ds) (.cW (rs.map enc)):=by
 intro ds rs h;induction h with
 | nil=>exact .Bl
 | cons hx _ ih =>
  refine .rK ?_ ih;rcases hx with rfl | ⟨a,rfl,e⟩
  ·exact t6 G 6 (by decide) _
  ·exact .ref e (t6 G 6 (by decide) _)
theorem X4{G G1:Gp}{p:Nat}{as:List Nat}{rs:Rows}(h:HR G G1 p as rs):Sn G1 8 (.ref p) (enc rs):=.ref h.gp (X3 (Pc as rs h.len h.at'))
def BS:hU :=
 (bZ (fA (ml (gv (av 0))) (cu (cO (jK aQ))) dn)
 (bZ (bM (tV Be DA (av 0) (aw (uj Rv (aw (av 0) aQ)) aQ)) (aH 1))
 (cu (cO (bh kB (DZ (av 0) (oD (av 1)) gE) (DZ (av 0) gE (oD (av 1))))))))
def oZ:jU:=fun ds G Q _=>∃ r:List T3,ds=[enc r]/\r.length<=1000/\∀ p,G p=none->Q (.ref p) (eV G p (.lst ((cX r).map enc)))
theorem CL(ds:List D)(G:Gp)(Q:DK)(h:oZ ds G Q fun _ _=>False):BS (fun _ _=>False) (ends Q) (bo 2 ds) G:=by
 obtain⟨r,rfl,hl,q⟩:=h;unfold BS;refine cV (fun τ G'=>G=G'/\r≠[]/\τ=[some (enc r),none]) ?_ ?_
 ·intro N hN;simp only [fA,ml,bo,aq,a8,ak,aB,bg,aF,aP,cu,cO,jK,aQ,ends,dn,cQ,av,aa];cases r with
  | nil=>exact⟨by decide,fun p hp=>DM (.new hp) hp az (q p hp)⟩
  | cons a t=>exact hN _ _ ⟨rfl,by simp,rfl⟩
 ·rintro _ _ ⟨rfl,oW,rfl⟩;simp only [ends,cM,bM,tV,av,aa,aw,uj,aQ,aH,cu,cO,bh,DZ,ar,ah,gE,nM,ae];refine⟨trivial,Hn rfl oW (zR trivial rfl oW ?_)⟩;have hkl:r.idxOf (jb r)<=r.length:=Sz;refine Md.S1 (IsL.enc r) hkl hl fun p G1 l f g=>?_;exact DM l f g (q p f)
def rD:hU :=
 (cu (cO (fT 1 [] (lu (av 0)) (aH 0) none (bF oZ (aw (av 0) aQ)))))
def gV:jU:=fun ds G Q _=>∃ rows:Rows,ds=[enc rows]/\(rows.length<=1000/\∀ r∈rows,r.length<=1000)/\∀ p as G',HR G G' p as (rows.map cX)->Q (.ref p) G'
theorem sf(ds:List D)(G:Gp)(Q:DK)(h:gV ds G Q fun _ _=>False):rD (fun _ _=>False) (ends Q) (bo 1 ds) G:=by
 obtain⟨rows,rfl,⟨hl,hr⟩,q⟩:=h;unfold rD;simp only [cu,cO,fT,bo,aq,a8,ak,aB,aF,aP,ends,e9,av,aa];refine gR ⟨C6 (by rw [ao]; exact hl),?_⟩;refine iK (xs:=rows) (fun pre acc τ G'=>(∃ a,τ=[a])/\∃ bs:List Nat,acc=bs.map D.ref/\bs.length=pre.length/\bs.Nodup/\(∀ a∈bs,G a=none)/\fD G G'/\∀ (i a:Nat) (r:List T3),bs[i]?=some a->pre[i]?=some r->G' a=some (.lst ((cX r).map enc))) ⟨⟨_,rfl⟩,[],rfl,rfl,cy,(fun a h=>by cases h),.refl _,fun i a r h=>by simp at h⟩ (fun _ _ _ _ _=>trivial) ?_ ?_
 ·rintro pre r post acc τ G' N e ⟨⟨a,rfl⟩,bs,rfl,hl,nd,fr,le,xU⟩ hN;simp only [aH,bF,aw,av,ah,aa,aQ];refine⟨r,rfl,hr r (by rw [e]; simp),fun p hp=>?_⟩;have hnb:p∉bs:=fun z=>by
   obtain⟨i,hi⟩:=iF z;have h1:i < pre.length:=by rw [<-hl]; exact(List.getElem?_eq_some_iff.mp hi).1
   rw [xU i p pre[i] hi (au h1)] at hp; cases hp
  refine hN _ _ _ ⟨⟨_,rfl⟩,bs++[p],by simp,by simp [hl],?_,?_,le.trans (.new hp),?_⟩
  ·rw [cz];refine⟨nd,by simp,fun a h b hb e=>?_⟩;rw [ck] at hb;subst hb e;exact hnb h
  ·intro a h0;rcases List.mem_append.mp h0 with h | h
   ·exact fr a h
   ·rw [ck] at h; subst h; exact le.free hp
  ·intro i b s h1 h2;by_cases hi:i < bs.length
   ·rw [cb hi] at h1;rw [cb (by lia)] at h2;have:b≠p:=by rintro rfl; exact hnb (aZ h1)
    rw [cL this];exact xU i b s h1 h2
   ·rw [bS (by lia)] at h1 h2;have i0:i - bs.length=0:=by have:=(List.getElem?_eq_some_iff.mp h1).1; simp at this; lia
    rw [i0] at h1;rw [<-hl,i0] at h2;simp at h1 h2;subst h1 h2;exact az
 ·rintro acc τ G5 ⟨⟨a',rfl⟩,bs,rfl,hl,nd,fr,le,xU⟩ p3 Ve;refine du (q p3 bs _ ⟨le.trans (.new Ve),le.free Ve,az,fun z=>?_,nd,fr,by rw [ao]; exact hl,fun i b r h1 h2=>?_⟩)
  ·obtain⟨i,hi⟩:=iF z;have h1:i < rows.length:=by rw [<-hl]; exact(List.getElem?_eq_some_iff.mp hi).1
   rw [xU i p3 rows[i] hi (au h1)] at Ve; cases Ve
  ·rw [aO] at h2;obtain⟨r',WJ,rfl⟩:=Option.map_eq_some_iff.mp h2;exact(fD.new Ve) _ _ (xU i b r' h1 WJ)
end UE
namespace JF
open K2.P K2.J K2.JB
open K2.Ba (cX jb iJ lE)
open K2.JE (pR yE yj yi BQ)
theorem aba{p q:T3}(h:aT.lt p.s q.s=true):aT.lt p q=true:=by
 obtain⟨a,b,c⟩:=p;obtain⟨a',b',c'⟩:=q;have h':qI (fun a b=>decide (a < b)) [a,b] [a',b']=true:=h;show qI (fun a b=>decide (a < b)) [a,b,c] [a',b',c']=true;simp only [qI] at h' ⊢
 grind
theorem uQ{r:List T3}{k:Nat}(nd:(r.map T3.s).Nodup)(hk:k < r.length)(h:∀ j (hj:j < r.length),aT.lt r[j].s r[k].s=false):k=r.idxOf (jb r):=by
 have oW:r≠[]:=by intro z; rw [z] at hk; cases hk
 have hm:=iJ oW;obtain⟨j,hj,ej⟩:=iX hm;have le1:aT.lt r[k] (jb r)=false:=by
  have:=lE (dD hk);unfold Gh at this;simpa using this
 have e:(jb r).s=r[k].s:=by
  refine aT.nW _ _ (by rw [<-ej]; exact h j hj) ?_;cases c:aT.lt r[k].s (jb r).s with
  | false=>rfl
  | true=>rw [aba c] at le1; cases le1
 have e2:jb r=r[k]:=BQ nd hm (dD hk) e;rw [e2];have nr:r.Nodup:=List.Pairwise.of_map _ (fun a b h z=>h (by rw [z])) nd;have hi:=List.idxOf_lt_length_of_mem (dD hk);have e3:r[r.idxOf r[k]]=r[k]:=List.getElem_idxOf hi;have pw:=List.pairwise_iff_getElem.mp nr;rcases CS (r.idxOf r[k]) k with c | c | c
 ·exact absurd e3 (pw _ _ hi hk c)
 ·exact c.symm
 ·exact absurd e3.symm (pw _ _ hk hi c)
def tR:hU :=
 (bZ (fA (gv (bh (Dh false) (av 0) (jK aQ))) (cu (cO (jK aQ))) dn)
 (bZ (bM (dC (.int 0)) (aH 1))
 (bZ (ff (Aa (uj qM (aw (av 0) aQ))) (aH 2) (fA (gv (bh V8 (iB (aw (bh mz (bh mz (av 0) (av 2)) (dC (.int 0))) (aw (bh mz (bh mz (av 0) (av 2)) (dC (.int 1))) aQ))) (iB (aw (bh mz (bh mz (av 0) (av 1)) (dC (.int 0))) (aw (bh mz (bh mz (av 0) (av 1)) (dC (.int 1))) aQ))))) (bM (av 2) (aH 1)) dn))
 (cu (cO (bh kB (DZ (av 0) (oD (av 1)) gE) (DZ (av 0) gE (oD (av 1)))))))))
def ft:jU:=fun ds G Q _=>∃ r:List T3,ds=[enc r]/\(r.length<=1000/\(r.map T3.s).Nodup)/\Q (enc (cX r)) G
theorem tW(ds:List D)(G:Gp)(Q:DK)(h:ft ds G Q fun _ _=>False):tR (fun _ _=>False) (ends Q) (bo 3 ds) G:=by
 obtain⟨r,rfl,⟨hl,nd⟩,q⟩:=h;unfold tR;refine cV (fun τ G'=>fD G G'/\r≠[]/\τ=[some (enc r),none,none]) ?_ ?_
 ·intro N hN;simp only [fA,↓cQ,bh,av,bo,↓aq,↓a8,↓ak,↓aB,bg,↓aF,↓aP,↓aa,jK,aQ,cu,cO,ends,dn];refine⟨by decide,fun p f=>?_⟩;refine⟨.cW (r.map enc),.cW [],t6 _ 7 (by decide) r,.ref az .Bl,?_⟩;cases r with
  | nil =>
   have e:ip (.cW (([]:List T3).map enc)) (.cW [])=true:=rfl;simp only [↓bE,↓aj,↓a8,↓if_false];exact⟨by decide,fun p2 f2=>je (xs:=([]:List T3)) ((fD.new f).trans (.new f2)) ((fD.new f).free f2) az q⟩
  | cons a t =>
   have e:ip (.cW ((a :: t).map enc)) (.cW [])=false:=rfl;simp only [↓bE,↓aj,↓aq,↓if_false];exact hN _ _ ⟨.new f,by simp,rfl⟩
 ·rintro _ G' ⟨le,oW,rfl⟩;have Gz:0 < r.length:=List.length_pos_iff.mpr oW;simp only [↓cM,bM,dC,aH,ends,↓ar,↓ah];refine cV (fun τ G2=>G'=G2/\∃ (k:Nat) (hk:k < r.length) (a2:Option D),(∀ j (hj:j < r.length),aT.lt r[j].s r[k].s=false)/\τ=[some (enc r),some (.int k),a2]) ?_ ?_
  ·intro N hN;simp only [ff,↓pB,uj,aw,av,↓aa,aQ];refine yE ?_;simp only [↓o3];refine⟨by lia,by lia,?_⟩;rw [dE,yj];refine eG (xs:=fc r.length) (f:=fun k:Nat=>D.int (k:Int)) (fun pre τ G2=>G'=G2/\∃ (k:Nat) (hk:k < r.length) (a2:Option D),(∀ j (hj:j < r.length),j < pre.length->aT.lt r[j].s r[k].s=false)/\τ=[some (enc r),some (.int k),a2]) ⟨rfl,0,Gz,_,(fun j hj z=>absurd z (pI _)),rfl⟩ (fun _ _ _ _=>trivial) ?_ ?_
   ·rintro pre x post τ _ N2 e ⟨rfl,k,hk,a2,Nt,rfl⟩ oB;obtain⟨ex,hx⟩:=yi e;have gx:r[x]?=some r[x]:=au hx;have gk:r[k]?=some r[k]:=au hk;simp only [aH,fA,↓cQ,bh,iB,aw,av,↓ar,↓ah,↓aa,↓ae,dC,aQ,↓ak,↓aB,bM,dn];refine pR gx ?_;rw [ly,ja,XF];refine pR gx ?_;rw [ly,ja,L9];refine⟨by decide,?_⟩;refine pR gk ?_;rw [ly,ja,XF];refine pR gk ?_;rw [ly,ja,L9];refine⟨by decide,?_⟩;refine Pm (x:=r[x].s) (y:=r[k].s) (by decide) ?_;simp only [↓bE];cases c:aT.lt r[x].s r[k].s with
    | true =>
     simp only [↓if_true];refine oB _ _ ⟨rfl,x,hx,_,fun j hj z=>?_,rfl⟩;rw [aG,cg] at z;by_cases c2:j=x
     ·subst c2; exact aT.HV _
     ·have:=Nt j hj (by lia);cases c3:aT.lt r[j].s r[x].s with
      | false=>rfl
      | true=>rw [aT.trans _ _ _ c3 c] at this; cases this
    | false =>
     simp only [↓aj,↓if_false];refine oB _ _ ⟨rfl,k,hk,_,fun j hj z=>?_,rfl⟩;rw [aG,cg] at z;by_cases c2:j=x
     ·subst c2; exact c
     ·exact Nt j hj (by lia)
   ·rintro τ _ ⟨rfl,k,hk,a2,Nt,rfl⟩;exact hN _ _ ⟨rfl,k,hk,a2,fun j hj=>Nt j hj (by rw [j3]; exact hj),rfl⟩
  ·rintro _ _ ⟨rfl,k,hk,a2,Nt,rfl⟩;have ek:=uQ nd hk Nt;simp only [cu,cO,bh,DZ,av,↓aa,↓nM,↓ae,↓lh,gE];show Pk (.cW (r.map enc)) _ _ _ _;rw [yk,vN _ _ (by rw [ao]; lia)];intro p5 f5;show Pk (.cW (r.map enc)) _ _ _ _;rw [yk,D3 _ _ (by rw [ao]; lia)];intro p6 f6;have n56:p5≠p6:=by rintro rfl; rw [az] at f6; cases f6
   refine yp (IsL.ref (by rw [cL n56,az])) (IsL.ref az) (by rw [cB,dW,ao]; exact C6 (by lia)) fun p7 f7=>?_;have l6:=(le.trans (fD.new (o:=.lst ((r.map enc).drop k)) f5)).trans (fD.new (o:=.lst ((r.map enc).take k)) f6);refine je (G:=G) (xs:=cX r) (l6.trans (.new f7)) (l6.free f7) ?_ q;rw [az];unfold cX;rw [<-ek,aM,Od,Oc]
end JF
end K2
end
section
namespace K2
open Enc (enc)
namespace JF
open K2.P K2.J K2.JB
open K2.T (Tb)
def cell(t:Tb)(a b:Nat):Int:=((t[a]?).getD [])[b]?.getD 0
end JF
namespace JF
open K2.P K2.J K2.JB
open K2.T (Tb)
open K2.Ba (cX jb)
theorem C9(r:List T3):∃ k,cX r=r.drop k++r.take k:=⟨_,rfl⟩
theorem BO(r:List T3):(cX r).Perm r:=by
 unfold cX;exact List.perm_append_comm.trans (by rw [dS])
end JF
end K2
end
section
namespace K2
open PySem (Str)
open Enc (enc)
namespace JF
open K2.P K2.J K2.JB
open K2.Y (cE)
def xm:hU :=
 (bZ (fA (NJ (ml (gv (NK "list" (av 0)))) (gv (bh (Dh true) (av 0) (av 1)))) (cu (cO (dC (.bl false)))) dn)
 (bZ (ff (lu (av 0)) (aH 2) (ff (lu (av 2)) (aH 3) (ff (lu (av 3)) (aH 4) (fA (ml (gv (bF cE (aw (av 4) aQ)))) (cu (cO (dC (.bl false)))) dn))))
 (cu (cO (dC (.bl true))))))
def ij:jU:=fun ds G Q _=>∃ R:Rows,ds=[enc R,enc R]/\(R.length<=1000/\∀ r∈R,r.length<=1000)/\Q (.bl true) G
theorem xK(ds:List D)(G:Gp)(Q:DK)(h:ij ds G Q fun _ _=>False):xm (fun _ _=>False) (ends Q) (bo 5 ds) G:=by
 obtain⟨R,rfl,⟨hl,hr⟩,q⟩:=h;unfold xm;refine cV (fun τ G'=>G=G'/\τ=[some (enc R),some (enc R),none,none,none]) ?_ ?_
 ·intro N hN;simp only [fA,NJ,ml,↓cQ,↓yC,av,bo,↓aq,↓a8,↓ak,↓aB,bg,↓aF,↓aP,↓aa,cu,cO,dC,ends,dn,↓if_true,bh,↓ae];refine⟨_,_,Enc.sn G 8 R (by decide),Enc.sn G 8 R (by decide),?_⟩;have e:ip (enc R) (enc R)=true:=by rw [Enc.eqv]; simp
  simp only [↓bE,e,↓bq,↓if_true,↓aj,↓if_false];exact hN _ _ ⟨rfl,rfl⟩
 ·rintro _ _ ⟨rfl,rfl⟩;refine cV (fun τ G'=>G=G') ?_ ?_
  ·intro N hN;simp only [ff,↓e9,av,↓aa,ends];refine gR ?_;refine eG (xs:=R) (fun pre τ G'=>G=G'/\∃ a b c,τ=[some (enc R),some (enc R),a,b,c]) ⟨rfl,_,_,_,rfl⟩ (fun _ _ _ _=>trivial) ?_ ?_
   ·rintro pre r post τ _ N2 e ⟨rfl,a,b,c,rfl⟩ oB;simp only [aH,ff,↓e9,av,↓ar,↓ah,↓ae,↓aa];refine gR ?_;refine eG (xs:=r) (fun pre τ G'=>G=G'/\∃ b c,τ=[some (enc R),some (enc R),some (enc r),b,c]) ⟨rfl,_,_,rfl⟩ (fun _ _ _ _=>trivial) ?_ ?_
    ·rintro pr x po τ _ N3 e2 ⟨rfl,b,c,rfl⟩ wR;rw [ly];simp only [aH,ff,↓e9,av,↓ar,↓ah,↓ae,↓aa,↓DH];refine QZ (fun pre τ G'=>G=G'/\∃ c,τ=[some (enc R),some (enc R),some (enc r),some (.tup [.int x.a,.int x.b,.int x.c]),c]) ⟨rfl,_,rfl⟩ (fun _ _ _ _=>trivial) ?_ ?_
     ·rintro zB d Yn τ _ N4 e4 ⟨rfl,c,rfl⟩ hN4;have hd:∃ i:Int,d=.int i:=by
       have:d∈([.int x.a,.int x.b,.int x.c]:List D):=by rw [e4]; simp
       simp only [bA,bO,or_false] at this;rcases this with h | h | h <;> exact⟨_,h⟩
      obtain⟨i,rfl⟩:=hd;simp only [aH,fA,ml,↓cQ,bF,aw,av,↓ar,↓ah,↓ae,↓aa,aQ,cu,cO,dC,dn];refine⟨i,rfl,?_⟩;simp only [↓bE,↓bq,↓aj,↓if_false];exact hN4 _ _ ⟨rfl,_,rfl⟩
     ·rintro τ _ ⟨rfl,c,rfl⟩;exact wR _ _ ⟨rfl,_,_,rfl⟩
    ·rintro τ _ ⟨rfl,b,c,rfl⟩;exact oB _ _ ⟨rfl,_,_,_,rfl⟩
   ·rintro τ _ ⟨rfl,_⟩;exact hN _ _ rfl
  ·rintro τ _ rfl;simp only [cu,cO,dC,ends];exact du q
end JF
namespace JF
open K2.P K2.J K2.JB
open K2.HE (HR)
def HB(sp:jU)(ds:List D)(G1:Gp)(Q:DK):Prop:=∃ (R:Nat->Bool) (ts:List D),(∀ a,R a=true->∃ xs,G1 a=some (.lst xs))/\Et G1 R ds ts /\
 sp ts (fun _=>none) (fun x G2=>tupP x=true/\∃ T:Nat->Bool,(∀ a o,T a=true->G2 a=some o->xu o=true)/\((∀ a o,G2 a=some o->G1 a=none)->Q x (Om (resT T G2) G1))) fun _ _=>False
theorem rX{sp:jU}{t:A8}{E:lP}{τ:iD}{G:Gp}{Q:DK}:wY sp t E τ G Q=t E τ G fun ds G1=>HB sp ds G1 Q:=rfl
theorem QV{G1:Gp}{R:Nat->Bool}:∀ (as:List Nat) (rs:Rows),as.length=rs.length->(∀ (i a:Nat) (r:List T3),as[i]?=some a->rs[i]?=some r->G1 a=some (.lst (r.map enc))/\R a=true)->Et G1 R (as.map D.ref) (rs.map enc)
 | [],[],_,_=>.nil
 | [],_ :: _,h,_=>by cases h
 | _ :: _,[],h,_=>by cases h
 | a :: as,r :: rs,h,k=>by
  obtain⟨k1,k2⟩:=k 0 a r rfl rfl;exact .cons (.ref k1 k2 (Et.same _)) (QV as rs (by simpa using h) fun i a' r' h1 h2=>k (i+1) a' r' (by simpa using h1) (by simpa using h2))
def pj(p:Nat)(as:List Nat)(a:Nat):Bool:=a == p||as.contains a
theorem DI{G G1:Gp}{p:Nat}{as:List Nat}{rs:Rows}(h:HR G G1 p as rs):(∀ a,pj p as a=true->∃ xs,G1 a=some (.lst xs))/\Fz G1 (pj p as) (.ref p) (enc rs):=by
 refine⟨fun a ha=>?_,?_⟩
 ·unfold pj at ha;rw [gG,beq_iff_eq,v5] at ha;rcases ha with rfl | ha
  ·exact⟨_,h.gp⟩
  ·obtain⟨i,hi,e⟩:=iX ha;have h1:as[i]?=some a:=by rw [au hi,e]
   have Lx:i < rs.length:=by rw [<-h.len]; exact hi
   exact⟨_,h.at' i a rs[i] h1 (au Lx)⟩
 ·refine .ref h.gp (by simp [pj]) (QV as rs h.len fun i a r h1 h2=>⟨h.at' i a r h1 h2,?_⟩);unfold pj;rw [gG,v5];exact .inr (aZ h1)
theorem EZ(T:Nat->Bool)(G:Gp):Om (resT T fun _=>none) G=G:=by
 funext a;unfold Om resT;rw [ite_self]
theorem wL{G G1:Gp}{p:Nat}{as:List Nat}{rs:Rows}{Q:DK}(h:HR G G1 p as rs)(hz:rs.length<=1000/\∀ r∈rs,r.length<=1000)(q:Q (.bl true) G1) :
  HB ij [.ref p,enc rs] G1 Q:=by
 obtain⟨h1,h2⟩:=DI h;refine⟨pj p as,[enc rs,enc rs],h1,.cons h2 (.cons (.same _) .nil),rs,rfl,hz,rfl,fun _=>false,(fun a o _ e=>nomatch e),fun _=>?_⟩;rw [EZ]; exact q
theorem vi{G G1:Gp}{p:Nat}{as:List Nat}{rs:Rows}{Q:DK}(h:HR G G1 p as rs)(d:Dr rs)(hz:rs.flatten.length<=12)(q:∀ T,BP T (brk rs)->Q (.kW (bB T)) G1) :
  HB lb [.ref p] G1 Q:=by
 obtain⟨h1,h2⟩:=DI h;refine⟨pj p as,[enc rs],h1,.cons h2 .nil,rs,rfl,⟨d,hz⟩,fun T bT=>⟨PC T,fun _=>false,(fun a o _ e=>nomatch e),fun _=>?_⟩⟩;rw [EZ]; exact q T bT
theorem DC{p:Nat}{as:List Nat}{a:Nat}:pj p as a=true↔a=p\/a∈as:=by
 unfold pj;rw [gG,beq_iff_eq,v5]
theorem ON{T:Nat->Bool}{G2 G1:Gp}{a:Nat}{o:GO}(h:T a=true)(e:G2 a=some o):Om (resT T G2) G1 a=some o:=by
 unfold Om resT;rw [if_pos h,e]
end JF
namespace JF
open K2.P K2.J K2.JB
open K2.HE (HR)
open K2.T (HL)
open K2.Bb (fb dT)
theorem WR{G1 G2:Gp}{p:Nat}{as:List Nat}{rs:List (List D)}(h:HL (fun _=>none) G2 p as rs)(dj:∀ a o,G2 a=some o->G1 a=none):HL G1 (Om (resT (pj p as) G2) G1) p as rs:=by
 have at2:∀ a∈as,∃ r,G2 a=some (.lst r):=fun a ha=>by
  obtain⟨i,hi,e⟩:=iX ha;have h1:as[i]?=some a:=by rw [au hi,e]
  have Lx:i < rs.length:=by rw [<-h.len]; exact hi
  exact⟨_,h.at' i a rs[i] h1 (au Lx)⟩
 refine⟨fun a o e=>?_,dj _ _ h.gp,ON (DC.mpr (.inl rfl)) h.gp,h.np,h.nd,fun a ha=>?_,h.len,fun i a r h1 h2=>ON (DC.mpr (.inr (aZ h1))) (h.at' i a r h1 h2)⟩
 ·unfold Om resT;split
  ·rename_i o' e';split at e'
   ·rw [dj a o' e'] at e; cases e
   ·cases e'
  ·exact e
 ·obtain⟨r,hr⟩:=at2 a ha;exact dj a _ hr
theorem Y2{G2:Gp}{p:Nat}{as:List Nat}{rs:List (List D)}(h:HL (fun _=>none) G2 p as rs)(hp:∀ r∈rs,r.all tupP=true):∀ a o,pj p as a=true->G2 a=some o->xu o=true:=fun a o ha e=>by
 rcases DC.mp ha with rfl | ha
 ·rw [h.gp] at e;cases e;show (as.map D.ref).all tupP=true;rw [iV,fm];intro x _; rfl
 ·obtain⟨i,hi,ei⟩:=iX ha;have h1:as[i]?=some a:=by rw [au hi,ei]
  have Lx:i < rs.length:=by rw [<-h.len]; exact hi
  rw [h.at' i a rs[i] h1 (au Lx)] at e;cases e;exact hp _ (dD Lx)
theorem B8{G G1:Gp}{p:Nat}{as:List Nat}{rs:Rows}{Q:DK}(h:HR G G1 p as rs)(hz:rs.length<=1000)(q:Q (enc rs) G1) :
  HB eM [.ref p] G1 (fun x G=>Mf G x Q):=by
 obtain⟨h1,h2⟩:=DI h;refine⟨pj p as,[enc rs],h1,.cons h2 .nil,rs.map fun r=>r.map enc,by rw [fb],by rw [ao]; exact hz,fun G3 p2 as2 xE=>⟨rfl,pj p2 as2,Y2 xE (fun r hr=>?_),fun dj=>?_⟩⟩
 ·obtain⟨x,_,rfl⟩:=List.mem_map.mp hr;rw [iV,fm];intro y _; rfl
 ·refine(WR xE dj).fz ?_;rw [<-fb]; exact q
end JF
namespace JF
open K2.P K2.J K2.JB
open K2.Y (Po L ND NZ fJ ik gq bL AA)
open K2.HE (HR)
open K2.Ba (cX)
open K2.Md (HQ zd)
open K2.T (HL)
open K2.Bb (fb dT kM)
theorem oM{rows:Rows}(d:Dr rows):∀ r∈rows,(r.map T3.s).Nodup:=fun r hr=>by
 have:=d.nd;obtain⟨s,t,rfl⟩:=A5 hr;rw [kZ,fE,aM,aM,cz,cz] at this;exact this.2.1.1
theorem JS{neg:Bool}{G:Gp}{xs ys:Rows}{Q:DK}(q:Q (.bl (if neg then !decide (xs=ys) else decide (xs=ys))) G):u6 neg (enc xs) (enc ys) G Q :=
 .inl ⟨_,_,Enc.sn G 8 xs (by decide),Enc.sn G 8 ys (by decide),by rw [Enc.eqv]; exact q⟩
theorem QI{G G1:Gp}{p:Nat}{as:List Nat}{rs:Rows}(h:HR G G1 p as rs){a:Nat}(ha:a∈as):∃ r∈rs,G1 a=some (.lst ((r:List T3).map enc)):=by
 obtain⟨i,hi,e⟩:=iX ha;have h1:as[i]?=some a:=by rw [au hi,e]
 have Lx:i < rs.length:=by rw [<-h.len]; exact hi
 exact⟨rs[i],dD Lx,h.at' i a rs[i] h1 (au Lx)⟩
end JF
namespace JH
open K2.P K2.J K2.JB
open K2.Ba (cX)
open K2.UE (gV)
open K2.HE (HR)
def pY(r:List T3):List Int:=r.map (·.a)
def once(r:List T3):List Int:=(pY r).filter fun n=>(pY r).count n == 1
def tn(ns:List Int)(p:T3):T3:=⟨p.a,p.b,if p.a∈ns then -p.c else p.c⟩
theorem zN{τ:iD}{G:Gp}{r:List T3}(hl:r.length<=1000){Q:DK}(q:Q (enc (pY r)) G) :
  QD (enc r) G fun ds ok G1=>ds.length<=SZ/\jg (aH 0) none (bh mz (av 0) (dC (.int 0))) ok ds (fun _ _=>False) (wZ 1 [] τ) G1 [] fun xs G1=>gO G1 (.lst xs) fun x G2=>Mf G2 x Q:=by
 refine gR ⟨C6 (by rw [ao]; exact hl),?_⟩;refine iK (xs:=r) (fun pr acc τ G2=>G=G2/\(∃ a,τ=[a])/\acc=(pY pr).map enc) ⟨rfl,⟨_,rfl⟩,rfl⟩ (fun _ _ _ _ _=>trivial) ?_ ?_
 ·rintro pr x po acc τ G2 N3 e2 ⟨rfl,⟨a,rfl⟩,rfl⟩ wR;rw [ly];simp only [aH,bh,av,↓ah,↓aa,dC,↓ja];refine wR _ _ _ ⟨rfl,⟨_,rfl⟩,?_⟩;unfold pY;rw [aM,aM]; rfl
 ·rintro acc τ G2 ⟨rfl,_,rfl⟩ p f;exact je (xs:=pY r) (.new f) f az q
def qt:hU :=
 (bZ (bM (cO (fT 1 [] (lu (av 0)) (aH 0) none (bh mz (av 0) (dC (.int 0))))) (aH 1))
 (cu (cO (fT 1 [1] (lu (av 1)) (aH 0) (some (gv (bh (Dh false) (tV Be yx (av 1) (aw (av 0) aQ)) (dC (.int 1))))) (av 0)))))
def jQ:jU:=fun ds G Q _=>∃ r:List T3,ds=[enc r]/\r.length<=1000/\Q (enc (once r)) G
theorem x8(ds:List D)(G:Gp)(Q:DK)(h:jQ ds G Q fun _ _=>False):qt (fun _ _=>False) (ends Q) (bo 2 ds) G:=by
 obtain⟨r,rfl,hl,q⟩:=h;unfold qt;simp only [↓cM,bM,cO,fT,↓e9,av,bo,↓aq,↓a8,↓ak,↓aB,bg,↓aF,↓aP,↓aa,aH,cu,↓ar,↓ah,↓ae,ends];refine zN hl ?_;have hn:(pY r).length<=1000:=by unfold pY; rw [ao]; exact hl
 refine gR ⟨C6 (by rw [ao]; exact hn),?_⟩;refine iK (xs:=pY r) (fun pr acc τ G2=>G=G2/\(∃ a,τ=[a,some (enc (pY r))])/\acc=(pr.filter fun n=>(pY r).count n == 1).map enc) ⟨rfl,⟨_,rfl⟩,rfl⟩ (fun _ _ _ _ _=>trivial) ?_ ?_
 ·rintro pr x po acc τ G2 N3 e2 ⟨rfl,⟨a,rfl⟩,rfl⟩ wR;simp only [aH,↓cQ,bh,tV,av,↓ah,↓yB,↓ae,↓aa,aw,aQ,dC];refine⟨trivial,trivial,pY r,rfl,?_⟩;refine⟨_,_,.int _,.int _,?_⟩;simp only [↓bE,↓aj,iS,↓if_false];by_cases c:(pY r).count x=1
  ·have e:(((pY r).count x:Nat):Int) == 1:=by rw [c]; rfl
   simp only [e,↓if_true];refine wR _ _ _ ⟨rfl,⟨_,rfl⟩,?_⟩;rw [eK,aM,tM (by simp [c])]; rfl
  ·have e:((((pY r).count x:Nat):Int) == 1)=false:=by rw [beq_eq_false_iff_ne]; lia
   simp only [e,↓aj,↓if_false];refine wR _ _ _ ⟨rfl,⟨_,rfl⟩,?_⟩;rw [eK,tN (by simp [c]),pE,cC]
 ·rintro acc τ G2 ⟨rfl,_,rfl⟩ p f;exact je (xs:=once r) (.new f) f az q
def tQ:hU :=
 (cu (cO (fT 3 [1] (lu (av 0)) (jA (cY (aH 0) (cY (aH 1) (cY (aH 2) jo)))) none (iB (aw (av 0) (aw (av 1) (aw (Zt (gv (bh (Pp false) (av 0) (av 3))) (Si MN (av 2)) (av 2)) aQ)))))))
def lC:jU:=fun ds G Q _=>∃ (r:List T3) (ns:List Int),ds=[enc r,enc ns]/\r.length<=1000/\Q (enc (r.map (tn ns))) G
theorem BE(ds:List D)(G:Gp)(Q:DK)(h:lC ds G Q fun _ _=>False):tQ (fun _ _=>False) (ends Q) (bo 2 ds) G:=by
 obtain⟨r,ns,rfl,hl,q⟩:=h;unfold tQ;simp only [cu,cO,fT,↓e9,av,bo,↓aq,↓a8,↓ak,↓aB,↓aF,↓aP,↓aa,ends];refine gR ⟨C6 (by rw [ao]; exact hl),?_⟩;refine iK (xs:=r) (fun pr acc τ G2=>G=G2/\(∃ a b c,τ=[a,b,c,some (enc ns)])/\acc=(pr.map (tn ns)).map enc) ⟨rfl,⟨_,_,_,rfl⟩,rfl⟩ (fun _ _ _ _ _=>trivial) ?_ ?_
 ·rintro pr x po acc τ G2 N3 e2 ⟨rfl,⟨a,b,c,rfl⟩,rfl⟩ wR;rw [ly];simp only [jA,cY,aH,jo,iB,aw,av,↓ah,↓ar,↓aa,↓ae,Zt,↓cQ,bh,Si,↓rL,aQ,↓ak,↓aB];refine Bb.u3 (IsL.enc ns) ?_;by_cases m:x.a∈ns
  ·simp only [↓bE,m,decide_true,↓if_true];refine⟨by decide,wR _ _ _ ⟨rfl,⟨_,_,_,rfl⟩,?_⟩⟩;rw [aM,aM];have:tn ns x=⟨x.a,x.b,-x.c⟩:=by unfold tn; rw [if_pos m]
   simp only [aq,a8,this,ly]
  ·simp only [↓bE,m,decide_false,↓aj,↓if_false];refine⟨by decide,wR _ _ _ ⟨rfl,⟨_,_,_,rfl⟩,?_⟩⟩;rw [aM,aM];have:tn ns x=⟨x.a,x.b,x.c⟩:=by unfold tn; rw [if_neg m]
   simp only [aq,a8,this,ly]
 ·rintro acc τ G2 ⟨rfl,_,rfl⟩ p f;exact je (xs:=r.map (tn ns)) (.new f) f az q
theorem Ro{ta tb tc:fV}{E:lP}{τ:iD}{G:Gp}{x y z:Int}{Q:Bool->Gp->Prop}(ha:∀ Q,ta E τ G Q=Q (.int x) G)(hb:∀ Q,tb E τ G Q=Q (.int y) G)(hc:∀ Q,tc E τ G Q=Q (.int z) G)(q:Q (decide (x<=y)&&decide (y < z)) G):vL Yi UR ta tb tc E τ G Q:=by
 unfold vL;rw [ha,hb,KS];refine⟨_,rfl,?_⟩;by_cases h:x<=y
 ·rw [if_pos (decide_eq_true h),hc,ym];rw [decide_eq_true h,Og] at q;exact⟨_,rfl,q⟩
 ·rw [if_neg (by simp [h])];rw [decide_eq_false h,qR] at q;exact q
theorem Gf{rows:Rows}{E:lP}{τ:iD}{G:Gp}(Q2:DK):uj qM (aw (av 0) aQ) E (some (enc rows) :: τ) G Q2=Q2 (.int (rows.length:Int)) G:=by
 have:(enc rows:D)=.cW (rows.map enc):=rfl;rw [this];simp only [uj,aw,av,↓aa,aQ,↓vQ,ao]
def bk(rows:Rows)(i:Nat)(r:List T3):Rows:=(((rows.map fun x=>x.map (tn (once r))).set i ((r.map (tn (once r))).reverse)).map cX)
def xj:hU :=
 (bZ (fA (ml (vL Yi UR (dC (.int 0)) (av 1) (uj qM (aw (av 0) aQ)))) ui dn)
 (bZ (bM (bF jQ (aw (bh mz (av 0) (av 1)) aQ)) (aH 2))
 (bZ (bM (fT 1 [2] (lu (av 0)) (aH 0) none (cO (bF lC (aw (av 0) (aw (av 1) aQ))))) (aH 3))
 (bZ (bM (cO (GZ (bh mz (av 3) (av 1)))) (nZ (av 3) (av 1)))
 (cu (cO (bF gV (aw (cO (av 3)) aQ))))))))
def j6:jU:=fun ds G Q _=>∃ (rows:Rows) (i:Nat) (r:List T3),ds=[enc rows,.int i]/\(rows[i]?=some r/\rows.length<=1000/\∀ r∈rows,r.length<=1000)/\∀ p as G',HR G G' p as (bk rows i r)->Q (.ref p) G'
theorem Hv(ds:List D)(G:Gp)(Q:DK)(h:j6 ds G Q fun _ _=>False):xj (fun _ _=>False) (ends Q) (bo 4 ds) G:=by
 obtain⟨rows,i,r,rfl,⟨hi,hl,hr⟩,q⟩:=h;have il:=(List.getElem?_eq_some_iff.mp hi).1;have Z9:=hr r (aZ hi);unfold xj;refine cV (fun τ G'=>G=G'/\τ=[some (enc rows),some (.int i),none,none]) ?_ ?_
 ·intro N hN;unfold fA ml;refine Ro (x:=0) (y:=i) (z:=rows.length) (fun _=>rfl) (fun _=>rfl) (fun Q2=>Gf Q2) ?_
  ·rw [decide_eq_true (by lia),decide_eq_true (by lia)];exact hN _ _ ⟨rfl,rfl⟩
 rintro _ _ ⟨rfl,rfl⟩;simp only [↓cM,bM,bF,aw,bh,av,↓aa,↓ae,aQ,aH,fT,↓e9,↓ar,↓ah,cO,nZ,cu,ends];refine JE.pR hi ⟨r,rfl,Z9,?_⟩;refine gR ⟨C6 (by rw [ao]; exact hl),?_⟩;refine iK (xs:=rows) (fun pr acc τ G2=>G=G2/\(∃ a,τ=[a,some (enc (once r))])/\acc=(pr.map fun x=>x.map (tn (once r))).map enc) ⟨rfl,⟨_,rfl⟩,rfl⟩ (fun _ _ _ _ _=>trivial) ?_ ?_
 ·rintro pr x po acc τ G2 N3 e2 ⟨rfl,⟨a,rfl⟩,rfl⟩ wR;simp only [aH,cO,bF,aw,av,↓ah,↓aa,↓ae,aQ];refine⟨x,once r,rfl,hr x (by rw [e2]; simp),du (wR _ _ _ ⟨rfl,⟨_,rfl⟩,?_⟩)⟩;rw [aM,aM]; rfl
 ·rintro acc τ G2 ⟨rfl,_,rfl⟩ p f;have Lx:(rows.map fun x=>x.map (tn (once r)))[i]?=some (r.map (tn (once r))):=by rw [aO,hi]; rfl
  simp only [GZ,bh,av,↓ae,↓aa];rw [KU az (JE.Vo Lx)];refine⟨_,rfl,fun p2 f2=>?_⟩;have n2:p≠p2:=by rintro rfl; rw [az] at f2; cases f2
  rw [<-oq];refine je (G:=eV G p (.lst ((rows.map fun x=>x.map (tn (once r))).map enc))) (xs:=(r.map (tn (once r))).reverse) (.new f2) f2 az ?_;unfold xg;simp only [az];have ei:HU ((rows.map fun x=>x.map (tn (once r))).map enc).length (i:Int)=some i:=by
   unfold HU;rw [if_pos (by lia),if_pos (by rw [ao,ao]; lia)]; simp
  simp only [ei];rw [<-CV];refine je (G:=G) (fD.put (.new f) f) f az ?_;refine⟨_,rfl,⟨?_,fun x hx=>?_⟩,fun p7 as7 G7 hr7=>du (q p7 as7 G7 hr7)⟩
  ·rw [bY,ao]; exact hl
  ·rcases qP hx with hx | hx
   ·obtain⟨y,hy,rfl⟩:=List.mem_map.mp hx;rw [ao]; exact hr y hy
   ·rw [hx,pD,ao]; exact Z9
def uV:hU :=
 (bZ (fA (ml (vL Yi UR (dC (.int 0)) (av 1) (uj qM (aw (av 0) aQ)))) (JX "NoString" (aw (dC (.str "no string has this number")) aQ)) dn)
 (bZ ui
 (bZ ui
 (bZ ui
 ui))))
def mI:jU:=fun ds G Q E=>∃ (rows:Rows) (i:Int),ds=[enc rows,.int i]/\(i < 0\/(rows.length:Int)<=i)/\E ⟨"NoString",[]⟩ (fun _=>none)
theorem Ep(ds:List D)(G:Gp)(Q:DK)(E:lP)(h:mI ds G Q E):uV E (ends Q) (bo 4 ds) G:=by
 obtain⟨rows,i,rfl,hi,q⟩:=h;unfold uV;refine cV (fun τ G'=>False) ?_ (fun _ _ h=>h.elim);intro N hN;unfold fA ml;refine Ro (x:=0) (y:=i) (z:=rows.length) (fun _=>rfl) (fun _=>rfl) (fun Q2=>Gf Q2) ?_;have e:(!(decide (0<=i)&&decide (i < (rows.length:Int))))=true:=by
  simp only [sA,Bool.and_eq_false_iff,decide_eq_false_iff_not];lia
 rw [e];show (if true=true then _ else _);rw [if_pos rfl];unfold JX;simp only [aw,dC,aQ,↓ak,↓aB];exact⟨by decide,q⟩
end JH
namespace Mo
open K2.P
open K2.Ba (cX)
open K2.Md (HQ Fd zd)
open K2.UE (KO)
def Eo(r x:List T3):Prop:=∃ k,k<=r.length/\x=HQ r k
theorem Eo.app(a b:List T3):Eo (a++b) (b++a):=⟨a.length,by simp,(KO a b).symm⟩
theorem Eo.parts{a b:List T3}(h:Eo a b):∃ u v,a=u++v/\b=v++u:=by
 obtain⟨k,_,rfl⟩:=h;exact⟨a.take k,a.drop k,(dS k a).symm,rfl⟩
theorem Eo.of{a b u v:List T3}(h1:a=u++v)(h2:b=v++u):Eo a b:=by rw [h1,h2]; exact .app u v
theorem Eo.map{a b:List T3}{f:T3->T3}(h:Eo a b):Eo (a.map f) (b.map f):=by
 obtain⟨u,v,rfl,rfl⟩:=h.parts;exact .of (u:=u.map f) (v:=v.map f) (by rw [aM]) (by rw [aM])
theorem Eo.X7{a b:List T3}(h:Eo a b)(nd:(a.map T3.s).Nodup):cX b=cX a:=by
 obtain⟨k,_,rfl⟩:=h;exact zd nd k
theorem zf(r:List T3):Eo r (cX r):=⟨_,Sz,rfl⟩
def ZW(s:T2)(ps:List T3)(p:T3):List T3:=if p.s=s then p :: ps else [p]
end Mo
namespace JH
open K2.P K2.J K2.JB
open K2.JF (C9 BO RE oM)
open K2.Ba (cX)
open K2.Mo (Eo zf)
theorem cnt{r:List T3}{n:Int}(nd:(r.map T3.s).Nodup)(hw:∀ p∈r,p.b=0\/p.b=1):(pY r).count n=(if (⟨n,0⟩:T2)∈r.map T3.s then 1 else 0)+(if (⟨n,1⟩:T2)∈r.map T3.s then 1 else 0):=by
 induction r with
 | nil=>rfl
 | cons p r ih =>
  rw [aq,aY] at nd;have ih:=ih nd.2 fun q hq=>hw q (aL _ hq);have w:=hw p (by simp);show (p.a :: pY r).count n=_;rw [List.count_cons,ih,aq];have h0:((⟨n,0⟩:T2)=p.s)↔p.a=n/\p.b=0:=by
   show (⟨n,0⟩:T2)=⟨p.a,p.b⟩↔_;rw [T2.mk.injEq]; lia
  have h1:((⟨n,1⟩:T2)=p.s)↔p.a=n/\p.b=1:=by
   show (⟨n,1⟩:T2)=⟨p.a,p.b⟩↔_;rw [T2.mk.injEq]; lia
  have m0:p.a=n->p.b=0->(⟨n,0⟩:T2)∉r.map T3.s:=fun e1 e2=>by
   have:p.s=⟨n,0⟩:=(h0.mpr ⟨e1,e2⟩).symm;rw [<-this]; exact nd.1
  have m1:p.a=n->p.b=1->(⟨n,1⟩:T2)∉r.map T3.s:=fun e1 e2=>by
   have:p.s=⟨n,1⟩:=(h1.mpr ⟨e1,e2⟩).symm;rw [<-this]; exact nd.1
  simp only [bA,h0,h1];by_cases e:p.a=n
  ·rcases w with w | w
   ·have:=m0 e w;simp [e,w,this];lia
   ·have:=m1 e w;simp [e,w,this]
  ·simp [e]
theorem P4{r:List T3}{n:Int}(nd:(r.map T3.s).Nodup)(hw:∀ p∈r,p.b=0\/p.b=1):n∈once r↔oO r ⟨n,0⟩≠oO r ⟨n,1⟩:=by
 unfold once oO;rw [List.mem_filter,beq_iff_eq];have c:=cnt (n:=n) nd hw;have hc:n∈pY r↔0 < (pY r).count n:=List.count_pos_iff.symm;rw [hc,c];by_cases a:(⟨n,0⟩:T2)∈r.map T3.s <;> by_cases b:(⟨n,1⟩:T2)∈r.map T3.s <;> simp [a,b]
theorem OS{r:List T3}(nd:(r.map T3.s).Nodup)(hw:∀ p∈r,p.b=0\/p.b=1)(p:T3):tn (once r) p=hP r p:=by
 unfold tn hP hb;have:=P4 (n:=p.a) nd hw;by_cases c:oO r ⟨p.a,0⟩=oO r ⟨p.a,1⟩
 ·rw [if_pos c,if_neg (fun z=>this.mp z c)]
 ·rw [if_neg c,if_pos (this.mpr c)]
variable {rows:Rows} {i:Nat} {r:List T3}
theorem uS(d:Dr rows)(hi:rows[i]?=some r):∀ p∈r,p.b=0\/p.b=1:=fun p hp=>d.way p (List.mem_flatten.mpr ⟨r,aZ hi,hp⟩)
theorem Vw(d:Dr rows)(hi:rows[i]?=some r):bk rows i r=(back rows i r).map cX:=by
 have e:tn (once r)=hP r:=funext (OS (oM d r (aZ hi)) (uS d hi));unfold bk back;rw [e,CV (f:=fun x=>List.map (hP r) x),oq]
theorem Vx(d:Dr rows)(hi:rows[i]?=some r):Dr (bk rows i r)/\∀ g,brk (bk rows i r) g=brk rows g:=by
 rw [Vw d hi];obtain⟨a,b⟩:=RE (Eg d hi) fun r _=>C9 r;exact⟨a,fun g=>(b g).trans (RI d hi g)⟩
theorem Us(d:Dr rows)(hi:rows[i]?=some r):(bk rows i r).flatten.length=rows.flatten.length:=by
 rw [Vw d hi,(JF.Pb fun r _=>C9 r).2.1.length_eq,(sV hi).length_eq,ao]
theorem Eo.rev{a b:List T3}(h:Eo a b):Eo a.reverse b.reverse:=by
 obtain⟨u,v,rfl,rfl⟩:=h.parts;exact .of (u:=v.reverse) (v:=u.reverse) (by rw [List.reverse_append]) (by rw [List.reverse_append])
theorem Vm(r:List T3)(p:T3):hP r (hP r p)=p:=by
 obtain⟨a,b,c⟩:=p;unfold hP hb;simp only;split <;> simp
theorem RG(hi:rows[i]?=some r):(bk rows i r)[i]?=some (cX (r.map (tn (once r))).reverse):=by
 unfold bk;rw [aO,cm (by rw [ao]; exact(List.getElem?_eq_some_iff.mp hi).1)]; rfl
theorem Zy(d:Dr rows)(hi:rows[i]?=some r):bk (bk rows i r) i (cX (r.map (tn (once r))).reverse)=rows.map cX:=by
 have nd:=oM d r (aZ hi);have il:=(List.getElem?_eq_some_iff.mp hi).1;have e:tn (once r)=hP r:=funext (OS nd (uS d hi));have e2:tn (once (cX (r.map (tn (once r))).reverse))=hP r:=by
  have d2:=(Vx d hi).1;have h2:=RG hi;rw [show tn (once (cX (r.map (tn (once r))).reverse))=hP (cX (r.map (tn (once r))).reverse) from funext (OS (oM d2 _ (aZ h2)) (uS d2 h2))];have on:oO (cX (r.map (tn (once r))).reverse)=oO r:=by
   funext s;unfold oO;have:s∈(cX (r.map (tn (once r))).reverse).map T3.s↔s∈r.map T3.s:=by
    rw [((BO _).map T3.s).mem_iff,((sy _).map T3.s).mem_iff,aS];exact Iff.rfl
   rw [decide_eq_decide]; exact this
  funext p;unfold hP;rw [on]
 have main:∀ x∈rows,cX ((cX (x.map (hP r))).map (hP r))=cX x:=fun x hx=>by
  refine Eo.X7 ?_ (oM d x hx);have h:=(zf (x.map (hP r))).map (f:=hP r);rw [aS,show hP r∘hP r=id from funext (Vm r),jL] at h;exact h
 have YE:cX (((cX (r.map (hP r)).reverse).map (hP r)).reverse)=cX r:=by
  refine Eo.X7 ?_ nd;have h:=Eo.rev ((zf (r.map (hP r)).reverse).map (f:=hP r));rw [oq,List.reverse_reverse,aS,show hP r∘hP r=id from funext (Vm r),jL] at h;exact h
 show (((bk rows i r).map fun x=>x.map (tn (once (cX (r.map (tn (once r))).reverse)))).set i _).map cX=_;rw [e2];unfold bk;rw [e];refine List.ext_getElem? fun j=>?_;rw [aO,aO];by_cases c:j=i
 ·subst c;rw [cm (by simp only [ao,bY]; exact il),hi];exact congrArg some YE
 ·rw [b9 (eD c),aO,aO,b9 (eD c),aO];cases hx:rows[j]? with
  | none=>rfl
  | some x=>exact congrArg some (main x (aZ hx))
end JH
namespace JE
open K2.P K2.J K2.JB
open K2.Y (Po L ND NZ fJ lg wF gI ky ik gq pick kD kE bL cE d8 gQ AA)
open K2.Bb (AL fb kM)
open K2.Me (sL)
theorem OM{R:Rows}(nd:ZH R){i j:Nat}{r r':List T3}{p:T3}(hi:R[i]?=some r)(hj:R[j]?=some r')(hp:p∈r)(uE:p∈r'):i=j:=by
 have main:∀ {i j:Nat} {r r':List T3},R[i]?=some r->R[j]?=some r'->p∈r->p∈r'->i < j->False:=by
  intro i j r r' hi hj hp uE lt;have li:=(List.getElem?_eq_some_iff.mp hi);have e:R=R.take (i+1)++R.drop (i+1):=(dS _ _).symm;have n1:=nd;unfold ZH at n1;rw [e,kZ,aM,cz] at n1;have m1:p∈(R.take (i+1)).flatten:=List.mem_flatten.mpr ⟨r,by rw [<-li.2]; exact List.mem_take_iff_getElem.mpr ⟨i,by have:=li.1; lia,rfl⟩,hp⟩;have m2:p∈(R.drop (i+1)).flatten:=List.mem_flatten.mpr ⟨r',by
   refine aZ (i:=j - (i+1)) ?_;rw [List.getElem?_drop,show i+1+(j - (i+1))=j by lia]; exact hj,uE⟩
  exact n1.2.2 _ (List.mem_map.mpr ⟨p,m1,rfl⟩) _ (List.mem_map.mpr ⟨p,m2,rfl⟩) rfl
 rcases CS i j with c | c | c
 ·exact(main hi hj hp uE c).elim
 ·exact c
 ·exact(main hj hi uE hp c).elim
end JE
namespace JH
open K2.P K2.J K2.JB
open K2.JF (oM ft)
open K2.Ba (cX)
open K2.JE (pR yE yj yi)
variable {rows:Rows} {i:Nat} {r:List T3}
theorem BQ:∀ {L:List T3},(L.map T3.s).Nodup->∀ {p q:T3},p∈L->q∈L->p.s=q.s->p=q
 | [],_,_,_,h,_,_=>nomatch h
 | x :: L,nd,p,q,hp,hq,e=>by
  rw [aq,aY] at nd;rcases List.mem_cons.mp hp with rfl | hp
  ·rcases List.mem_cons.mp hq with rfl | hq
   ·rfl
   ·exact absurd (e ▸ bP hq) nd.1
  ·rcases List.mem_cons.mp hq with h | hq
   ·exact absurd (by rw [<-h,<-e]; exact bP hp) nd.1
   ·exact BQ nd.2 hp hq e
theorem VL(nd:ZH rows){a b:Nat}{x y:List T3}{p q:T3}(ha:rows[a]?=some x)(hb:rows[b]?=some y)(hp:p∈x)(hq:q∈y)(e:p.s=q.s):a=b:=by
 have:=BQ nd (List.mem_flatten.mpr ⟨x,aZ ha,hp⟩) (List.mem_flatten.mpr ⟨y,aZ hb,hq⟩) e;subst this;exact JE.OM nd ha hb hp hq
theorem XR(d:Dr rows)(hi:rows[i]?=some r){j:Nat}{x:List T3}(hj:rows[j]?=some x){p:T3}(hp:p∈x):(if (j=i/\(pY r).count p.a=1)\/(j≠i/\p.a∈pY r) then (⟨p.a,p.b,-p.c⟩:T3) else p)=tn (once r) p:=by
 have nd:=oM d r (aZ hi);have c:=cnt (n:=p.a) nd (uS d hi);have hw:=uS d hj p hp;have hc:p.a∈pY r↔0 < (pY r).count p.a:=List.count_pos_iff.symm;have e:p.a∈once r↔(pY r).count p.a=1:=by
  unfold once;rw [List.mem_filter,beq_iff_eq,hc]; lia
 have key:((j=i/\(pY r).count p.a=1)\/(j≠i/\p.a∈pY r))↔p.a∈once r:=by
  rw [e];by_cases ji:j=i
  ·simp [ji]
  ·have out:p.s∉r.map T3.s:=fun z=>by
    obtain⟨q,hq,eq⟩:=List.mem_map.mp z;exact ji (VL d.nd hj hi hp hq eq.symm)
   rw [hc];simp only [ji,false_and,not_false_eq_true,true_and,false_or,ne_eq];have Tq:(⟨p.a,p.b⟩:T2)∉r.map T3.s:=out;rw [c];rcases hw with w | w
   ·rw [w] at Tq;rw [if_neg Tq];split <;> lia
   ·rw [w] at Tq;rw [if_neg Tq];split <;> lia
 unfold tn;by_cases k:p.a∈once r
 ·rw [if_pos (key.mpr k),if_pos k]
 ·rw [if_neg (fun z=>k (key.mp z)),if_neg k]
theorem Xh(hi:rows[i]?=some r){j:Nat}{x:List T3}(hj:rows[j]?=some x):(bk rows i r)[j]?=some (cX (if j=i then (x.map (tn (once r))).reverse else x.map (tn (once r)))):=by
 by_cases c:j=i
 ·subst c;rw [hi] at hj;cases hj;rw [RG hi,if_pos rfl]
 ·unfold bk;rw [aO,b9 (eD c),aO,hj,if_neg c]; rfl
theorem RF(rows:Rows)(i:Nat)(r:List T3):(bk rows i r).length=rows.length:=by unfold bk; rw [ao,bY,ao]
def qr:hU :=
 (bZ (Ha 2 (bM (fT 1 [] (lu (bh mz (av 0) (av 1))) (aH 0) none (bh mz (av 0) (dC (.int 0)))) (aH 2)))
 (bZ (bM (jK aQ) (aH 3))
 (bZ (ff (Aa (uj qM (aw (av 0) aQ))) (aH 4) (bZ (bM (jK aQ) (aH 5))
 (bZ (ff (lu (bh mz (av 0) (av 4))) (jA (cY (aH 6) (cY (aH 7) (cY (aH 8) jo)))) (bZ (fA (NJ (Rk (gv (bh (Dh false) (av 4) (av 1))) (gv (bh (Dh false) (tV Be yx (av 2) (aw (av 6) aQ)) (dC (.int 1))))) (Rk (gv (bh (Dh true) (av 4) (av 1))) (gv (bh (Pp false) (av 6) (av 2))))) (bM (Si MN (av 8)) (aH 8)) dn)
 (lM (tV Be mK (av 5) (aw (cO (iB (aw (av 6) (aw (av 7) (aw (av 8) aQ))))) aQ)))))
 (bZ (fA (gv (bh (Dh false) (av 4) (av 1))) (bM (GZ (av 5)) (aH 5)) dn)
 (lM (tV Be mK (av 3) (aw (cO (bF ft (aw (cO (av 5)) aQ))) aQ)))))))
 (cu (cO (av 3))))))
def iG:jU:=fun ds G Q _=>∃ (rows:Rows) (i:Nat) (r:List T3),ds=[enc rows,.int i]/\(Dr rows/\rows[i]?=some r)/\Q (enc (bk rows i r)) G
theorem xZ(ds:List D)(G:Gp)(Q:DK)(h:iG ds G Q fun _ _=>False):qr (fun _ _=>False) (ends Q) (bo 9 ds) G:=by
 obtain⟨rows,i,r,rfl,⟨d,hi⟩,q⟩:=h;have il:=(List.getElem?_eq_some_iff.mp hi).1;have Yc:=ze d;have str:=d.str;have Z9:=Yc r (aZ hi);unfold qr;refine cV (fun τ G'=>G=G'/\τ=[some (enc rows),some (.int i),some (enc (pY r)),none,none,none,none,none,none]) ?_ ?_
 ·intro N hN;simp only [↓Bb.kM,bM,fT,↓e9,bh,av,bo,↓aq,↓a8,↓ak,↓aB,bg,↓aF,↓aP,↓aa,↓ae,aH,↓ar,↓ah];exact pR hi (zN (by lia) (hN _ _ ⟨rfl,rfl⟩))
 rintro _ _ ⟨rfl,rfl⟩;simp only [↓cM,bM,jK,aQ,↓aB,aH,ends,↓ar,↓ah];refine⟨by decide,fun p hp=>?_⟩;refine cV (fun τ G'=>(∃ a b c e f,τ=[some (enc rows),some (.int i),some (enc (pY r)),some (.ref p),a,b,c,e,f])/\fD G G'/\G' p=some (.lst ((bk rows i r).map enc))) ?_ ?_
 ·intro N hN;simp only [ff,↓pB,uj,aw,av,↓aa,aQ];refine yE ?_;refine⟨by lia,by lia,?_⟩;rw [dE,yj];refine eG (xs:=fc rows.length) (f:=fun k:Nat=>D.int (k:Int)) (fun pre τ G'=>(∃ a b c e f,τ=[some (enc rows),some (.int i),some (enc (pY r)),some (.ref p),a,b,c,e,f])/\fD G G'/\G' p=some (.lst (((bk rows i r).take pre.length).map enc))) ⟨⟨_,_,_,_,_,rfl⟩,.new hp,az⟩ (fun _ _ _ _=>trivial) ?_ ?_
  ·rintro pre j post τ G' N2 e ⟨⟨a1,a2,a3,a4,a5,rfl⟩,le,gp⟩ oB;obtain⟨jp,hj⟩:=yi e;obtain⟨x,hx⟩:∃ x,rows[j]?=some x:=⟨_,au hj⟩;have hxl:=Yc x (aZ hx);simp only [aH,↓cM,bM,jK,aQ,↓aB,↓ar,↓ah];refine⟨by decide,fun p2 f2=>?_⟩;have hpp:p≠p2:=by rintro rfl; rw [gp] at f2; cases f2
   refine cV (fun τ G2=>∃ (b1 b2 b3:Option D),τ=[some (enc rows),some (.int i),some (enc (pY r)),some (.ref p),some (.int j),some (.ref p2),b1,b2,b3]/\fD G' G2/\G2 p2=some (.lst ((x.map (tn (once r))).map enc))) ?_ ?_
   ·intro N3 wR;simp only [ff,↓e9,bh,av,↓aa,↓ae];refine pR hx (gR ?_);refine eG (xs:=x) (fun pr τ G2=>∃ (b1 b2 b3:Option D),τ=[some (enc rows),some (.int i),some (enc (pY r)),some (.ref p),some (.int j),some (.ref p2),b1,b2,b3]/\fD G' G2/\G2 p2=some (.lst ((pr.map (tn (once r))).map enc))) ⟨_,_,_,rfl,.new f2,az⟩ (fun _ _ _ _=>trivial) ?_ ?_
    ·rintro pr y po τ G2 N4 e2 ⟨b1,b2,b3,rfl,TQ,g3⟩ hN4;have afM:pr.length < x.length:=by rw [e2]; simp
     have wb:=XR d hi hx (p:=y) (by rw [e2]; simp);rw [ly];simp only [jA,cY,aH,jo,↓ar,↓ah];refine cV (fun τ G3=>G2=G3/\τ=[some (enc rows),some (.int i),some (enc (pY r)),some (.ref p),some (.int j),some (.ref p2),some (.int y.a),some (.int y.b),some (.int (tn (once r) y).c)]) ?_ ?_
     ·intro N5 hN5;simp only [fA,NJ,Rk,↓cQ,bh,av,↓ae,↓aa,tV,aw,aQ,dC,bM,Si,↓rL,aH,↓ar,↓ah,dn,↓if_true,↓aj,↓if_false];refine⟨_,_,.int _,.int _,?_⟩;simp only [↓bE,↓aj,iS,↓if_false];have ej:((j:Int) == (i:Int))=decide (j=i):=by rw [Bool.eq_iff_iff,beq_iff_eq,decide_eq_true_iff]; lia
      have ec:((((pY r).count y.a:Nat):Int) == 1)=decide ((pY r).count y.a=1):=by rw [Bool.eq_iff_iff,beq_iff_eq,decide_eq_true_iff]; lia
      rw [ej];by_cases c:j=i
      ·have dj:decide (j=i)=true:=decide_eq_true c;simp only [dj,↓if_true];refine⟨trivial,trivial,pY r,rfl,?_⟩;refine⟨_,_,.int _,.int _,?_⟩;simp only [↓bE,↓aj,iS,ec,↓if_false];by_cases m:(pY r).count y.a=1
       ·rw [if_pos (decide_eq_true m)];refine hN5 _ _ ⟨rfl,?_⟩;rw [<-wb,if_pos (.inl ⟨c,m⟩)]
       ·rw [if_neg (by simp [m])];refine⟨_,_,.int _,.int _,?_⟩;simp only [↓bE,iS,ej,dj,↓bq,↓if_true,↓aj,↓if_false];refine hN5 _ _ ⟨rfl,?_⟩;rw [<-wb,if_neg (by simp [c,m])]
      ·have dj:decide (j=i)=false:=decide_eq_false c;simp only [dj,↓aj,↓if_false];refine⟨_,_,.int _,.int _,?_⟩;simp only [↓bE,iS,ej,dj,↓cZ,↓if_true];refine Bb.u3 (IsL.enc (pY r)) ?_;by_cases m:y.a∈pY r
       ·simp only [↓bE,m,decide_true,↓if_true];refine hN5 _ _ ⟨rfl,?_⟩;rw [<-wb,if_pos (.inr ⟨c,m⟩)]
       ·simp only [↓bE,m,decide_false,↓aj,↓if_false];refine hN5 _ _ ⟨rfl,?_⟩;rw [<-wb,if_neg (by simp [c,m])]
     ·rintro _ _ ⟨rfl,rfl⟩;simp only [lM,tV,av,↓ae,↓aa,↓pM,g3,aw,cO,iB,aQ,↓ak,↓aB,↓ka,↓true_and];refine⟨by decide,du ?_⟩;simp only [g3];refine⟨IG (by rw [ao,ao]; lia),?_⟩;refine hN4 _ _ ⟨_,_,_,rfl,TQ.put f2,?_⟩;rw [az,aM,aM];rfl
    ·rintro τ G2 ⟨b1,b2,b3,rfl,TQ,g3⟩;exact wR _ _ ⟨_,_,_,rfl,TQ,g3⟩
   rintro _ G2 ⟨b1,b2,b3,rfl,TQ,g3⟩;refine cV (fun τ G3=>∃ p3,τ=[some (enc rows),some (.int i),some (enc (pY r)),some (.ref p),some (.int j),some (.ref p3),b1,b2,b3]/\fD G' G3/\G' p3=none/\G3 p3=some (.lst ((if j=i then (x.map (tn (once r))).reverse else x.map (tn (once r))).map enc))) ?_ ?_
   ·intro N3 wR;simp only [fA,↓cQ,bh,av,↓ae,↓aa,bM,aH,↓ar,↓ah,dn];refine⟨_,_,.int _,.int _,?_⟩;by_cases c:j=i
    ·have e0:ip (.int (j:Int)) (.int (i:Int))=true:=by rw [iS,beq_iff_eq]; lia
     simp only [↓bE,↓aj,e0,↓bq,↓if_false,GZ,av,↓ae,↓aa,↓if_true];refine⟨(x.map (tn (once r))).map enc,by unfold ph; simp only [g3],fun p3 f3=>wR _ _ ⟨p3,rfl,TQ.trans (.new f3),TQ.free f3,?_⟩⟩;rw [az,if_pos c,oq]
    ·have e0:ip (.int (j:Int)) (.int (i:Int))=false:=by rw [iS,beq_eq_false_iff_ne]; lia
     simp only [↓bE,↓aj,e0,↓cZ,↓if_false];exact wR _ _ ⟨p2,rfl,TQ,f2,by rw [g3,if_neg c]⟩
   rintro _ G3 ⟨p3,rfl,le4,f3,g4⟩;simp only [lM,tV,av,↓ae,↓aa,↓pM,le4 _ _ gp,aw,cO,bF,aQ,↓ka,↓true_and];refine je (G:=G') le4 f3 g4 ?_;have hb:=Xh hi hx;refine⟨_,rfl,⟨?_,?_⟩,du ?_⟩
   ·split
    ·rw [pD,ao]; lia
    ·rw [ao]; lia
   ·have:((x.map (tn (once r))).map T3.s).Nodup:=by rw [aS]; exact oM d x (aZ hx)
    split
    ·rw [oq]; exact((sy _).nodup_iff).mpr this
    ·exact this
   simp only [gp];have xE:=RF rows i r;refine⟨IG (by rw [ao,dW]; lia),?_⟩;refine oB _ _ ⟨⟨_,_,_,_,_,rfl⟩,le.put hp,?_⟩;rw [az,aG,cg,List.take_add_one,<-jp,hb,aM];rfl
  ·rintro τ G' ⟨⟨a1,a2,a3,a4,a5,rfl⟩,le,gp⟩;refine hN _ _ ⟨⟨_,_,_,_,_,rfl⟩,le,?_⟩;rw [gp,j3,<-RF rows i r,List.take_length]
 ·rintro _ G' ⟨⟨a,b,c,e,f,rfl⟩,le,gp⟩;simp only [cu,cO,av,↓ae,↓aa];exact je le hp gp q
end JH
namespace JH
open K2.P K2.J K2.JB
open K2.JF (oM ft ij JS QI HB rX wL B8 vi)
open K2.Ba (cX)
open K2.HE (HR)
open K2.Y (Po L ND NZ fJ ik gq bL AA)
open K2.Bb (fb)
def rF:hU :=
 (bZ (bM (jK aQ) (aH 2))
 (bZ (Rg mI (aw (av 0) (aw (av 1) aQ)) 3 ["NoString"] (bM (jK (aw (LU ["NoString","TooMany","KnotError"] ["NoString","TooMany","KnotError"] (av 3)) (aw (LU ["NoString","TooMany","KnotError"] ["TooMany"] (av 3)) aQ))) (aH 2)))
 (cu (cO (bh (Dh false) (av 2) (jK (aw (dC (.bl true)) (aw (dC (.bl false)) aQ))))))))
def kr:jU:=fun ds G Q _=>∃ (rows:Rows) (i:Int),ds=[enc rows,.int i]/\(i < 0\/(rows.length:Int)<=i)/\Q (.bl true) G
theorem AR(ds:List D)(G:Gp)(Q:DK)(h:kr ds G Q fun _ _=>False):rF (fun _ _=>False) (ends Q) (bo 4 ds) G:=by
 obtain⟨rows,i,rfl,hi,q⟩:=h;unfold rF;simp only [↓cM,bM,jK,aQ,↓aB,aH,ends,bo,↓aq,↓a8,↓ak,bg,↓aF,↓aP,↓ar,↓ah,zc,Rg,aw,av,↓aa,↓ae,cu,cO,bh,dC];refine⟨by decide,fun p f=>?_⟩;refine⟨rows,i,rfl,hi,by decide,?_⟩;have e1:(["NoString","TooMany","KnotError"]:List Str).contains "NoString" = true:=by decide
 have e3:(["TooMany"]:List Str).contains "NoString" = false:=by decide
 simp only [LU,av,↓ae,↓aa,e1,e3,↓true_and];refine⟨by decide,fun p1 f1=>⟨by decide,fun p2 f2=>?_⟩⟩;have n12:p1≠p2:=by rintro rfl; rw [az] at f2; cases f2
 refine⟨_,_,.ref (by rw [cL n12]; exact az) (.rK (.bl _) (.rK (.bl _) .Bl)),.ref az (.rK (.bl _) (.rK (.bl _) .Bl)),?_⟩;have e4:ip (.cW [.bl true,.bl false]) (.cW [.bl true,.bl false])=true:=by decide
 simp only [↓aj,e4,↓bq,↓if_false];exact yA ((fD.new f).trans ((fD.new f1).trans (.new f2))) q
theorem W6{neg:Bool}{G G1:Gp}{p a:Nat}{as:List Nat}{xs ys:Rows}{Q:DK}(h:HR G G1 p as xs)(g:G1 a=some (.lst (ys.map enc)))(q:Q (.bl (if neg then !decide (xs=ys) else decide (xs=ys))) G1):u6 neg (.ref p) (.ref a) G1 Q :=
 .inl ⟨_,_,UE.X4 h,.ref g (t6 G1 7 (by decide) ys),by rw [show (D.cW (ys.map enc))=enc ys from rfl,Enc.eqv]; exact q⟩
abbrev VY:jU:=BM
def Pf:hU :=
 (bZ (bM (bh kB (dC (.int 1)) (bh pQ (bF bL (aw (av 0) (aw (dC (.int 0)) aQ))) (dC (.int 3)))) (aH 1))
 (bZ (bM (dC (.int 12)) (aH 2))
 (bZ (fA (gv (bh (u6 false) (bh pQ (bh zt (bF bL (aw (av 0) (aw (dC (.int 0)) aQ))) (dC (.int 3))) (dC (.int 2))) (dC (.int 1)))) (bM (dC (.int 999)) (aH 2)) dn)
 (bZ (bM (bh pQ (bF bL (aw (av 0) (aw (dC (.int 2)) aQ))) (dC (.int 13))) (aH 3))
 (bZ (fA (gv (bh (u6 false) (bh pQ (bF bL (aw (av 0) (aw (dC (.int 1)) aQ))) (dC (.int 2))) (dC (.int 1)))) (bM (bh pQ (av 3) (dC (.int 6))) (aH 3)) dn)
 (bZ (bM (DZ (av 0) (oD (dC (.int 5))) (oD (bh kB (dC (.int 5)) (av 3)))) (aH 4))
 (bZ (bM (cO (bF fy (aw (av 4) (aw (av 1) (aw (av 2) aQ))))) (aH 5))
 (bZ (bM (bh pQ (bF bL (aw (av 0) (aw (dC (.int 3)) aQ))) (av 1)) (aH 6))
 (bZ (bM (cO (bF eM (aw (av 5) aQ))) (aH 7))
 (bZ (bM (bF j6 (aw (cO (av 7)) (aw (cO (av 6)) aQ))) (aH 8))
 (bZ (fA (NJ (ml (gv (wY ij (aw (av 8) (aw (bF iG (aw (av 5) (aw (av 6) aQ))) aQ))))) (gv (bh (u6 true) (av 7) (av 5)))) (cu (cO (dC (.bl false)))) dn)
 (bZ (fA (gv (bh (u6 true) (bF j6 (aw (cO (wY eM (aw (av 8) aQ))) (aw (cO (av 6)) aQ))) (fT 1 [] (lu (av 5)) (aH 0) none (cO (bF ft (aw (av 0) aQ)))))) (cu (cO (dC (.bl false)))) dn)
 (bZ (bM (bh pQ (bh zt (bF bL (aw (av 0) (aw (dC (.int 4)) aQ))) (dC (.int 2))) (bh V7 (dC (.int 10)) (dC (.int 40)))) (aH 9))
 (bZ (fA (gv (bh (u6 false) (bh pQ (bh zt (bF bL (aw (av 0) (aw (dC (.int 4)) aQ))) (dC (.int 2))) (dC (.int 3))) (dC (.int 0)))) (bM (dC (.int 0)) (aH 9)) dn)
 (bZ (bM (bh kB (av 1) (av 9)) (aH 10))
 (bZ (fA (gv (bh (u6 false) (bh pQ (bF bL (aw (av 0) (aw (dC (.int 4)) aQ))) (dC (.int 2))) (dC (.int 1)))) (bM (bh S2 (Si MN (dC (.int 1))) (av 9)) (aH 10)) dn)
 (bZ (fA (ml (gv (bF kr (aw (av 7) (aw (av 10) aQ))))) (cu (cO (dC (.bl false)))) dn)
 (bZ (fA (gv (bh UR (uj qM (aw (av 4) aQ)) (dC (.int 6)))) (bZ (bM (bF lb (aw (cO (av 7)) aQ)) (aH 11))
 (fA (NJ (ml (gv (bF ik (aw (av 11) aQ)))) (gv (bh (u6 true) (wY lb (aw (av 8) aQ)) (av 11)))) (cu (cO (dC (.bl false)))) dn)) dn)
 (bZ (ff (lu (av 8)) (aH 12) (lM (tV Be mK (av 12) (aw (iB (aw (dC (.int 1)) (aw (dC (.int 0)) (aw (dC (.int 1)) aQ)))) aQ))))
 (cu (cO (Hd (bh (u6 false) (av 7) (av 5)) (wY ij (aw (bF j6 (aw (cO (av 7)) (aw (cO (av 6)) aQ))) (aw (bF iG (aw (av 5) (aw (av 6) aQ))) aQ)))))))))))))))))))))))))
theorem Xm(ds:List D)(G:Gp)(Q:DK)(h:VY ds G Q fun _ _=>False):Pf (fun _ _=>False) (ends Q) (bo 13 ds) G:=by
 obtain⟨ns,rfl,hl,hG,q⟩:=h;unfold Pf;simp only [↓cM,bM,bh,dC,bF,aw,av,bo,↓aq,↓a8,↓ak,↓aB,bg,↓aF,↓aP,↓aa,aQ,aH,ends,↓ar,↓ah];refine⟨ns,0,rfl,by decide,by decide,?_⟩;have s1:0<=gq ns 0 % 3:=jV _ (by decide);have s2:gq ns 0 % 3 < 3:=jC _ (by decide);generalize gq ns 0 % 3=s0 at s1 s2;obtain⟨S,hS⟩:∃ S:Nat,1+s0=(S:Int):=⟨(1+s0).toNat,by lia⟩;have hS1:1<=S:=by lia
 have hS3:S<=3:=by lia
 simp only [↓gi,hS];refine cV (fun τ G'=>G=G'/\∃ sp:Int,1<=sp/\sp<=999/\τ=[some (.cW (ns.map D.int)),some (.int S),some (.int sp),none,none,none,none,none,none,none,none,none,none]) ?_ ?_
 ·intro N hN;simp only [fA,↓cQ,bh,bF,aw,av,↓aa,dC,aQ,bM,aH,↓ar,↓ah,dn];refine⟨ns,0,rfl,by decide,?_⟩;simp only [↓mR,↓gX];refine⟨by decide,by decide,by decide,u5 ?_⟩;by_cases c:gq ns 0 / 3 % 2=1
  ·simp only [↓bE,↓aj,c,decide_true,↓bq,↓if_false,↓if_true];exact hN _ _ ⟨rfl,999,by decide,by decide,rfl⟩
  ·simp only [↓bE,↓aj,c,decide_false,↓cZ,↓if_false];exact hN _ _ ⟨rfl,12,by decide,by decide,rfl⟩
 rintro _ _ ⟨rfl,sp,sp1,sp2,rfl⟩;simp only [↓cM,bM,bh,bF,aw,av,↓aa,dC,aQ,aH,↓ar,↓ah];refine⟨ns,2,rfl,by decide,by decide,?_⟩;have m1:0<=gq ns 2 % 13:=jV _ (by decide);have m2:gq ns 2 % 13 < 13:=jC _ (by decide);generalize gq ns 2 % 13=m0 at m1 m2;refine cV (fun τ G'=>G=G'/\∃ m:Int,0<=m/\m<=12/\τ=[some (.cW (ns.map D.int)),some (.int S),some (.int sp),some (.int m),none,none,none,none,none,none,none,none,none]) ?_ ?_
 ·intro N hN;simp only [fA,↓cQ,bh,bF,aw,av,↓aa,dC,aQ,bM,↓ae,↓gX,aH,↓ar,↓ah,dn];refine⟨ns,1,rfl,by decide,?_⟩;simp only [↓gX];refine⟨by decide,u5 ?_⟩;by_cases c:gq ns 1 % 2=1
  ·simp only [↓bE,↓aj,c,decide_true,↓bq,↓if_false,↓if_true];refine⟨by decide,hN _ _ ⟨rfl,m0 % 6,by lia,by lia,rfl⟩⟩
  ·simp only [↓bE,↓aj,c,decide_false,↓cZ,↓if_false];exact hN _ _ ⟨rfl,m0,by lia,by lia,rfl⟩
 rintro _ _ ⟨rfl,m,ma,mb,rfl⟩;simp only [↓cM,bM,DZ,av,↓aa,↓nM,dC,↓lh,bh,↓ae,↓gi,↓yk,aH,cO,bF,aw,↓ar,↓ah,aQ];rw [qh];intro pS fS;have Nx:(cut ns (some 5) (some (5+m))).length<=12:=by
  unfold cut jR;simp only;rw [if_neg (by lia),if_neg (by lia)];simp only [dW,cB]; lia
 generalize ab8:cut ns (some 5) (some (5+m))=cells at Nx;have gS:eV G pS (.lst (cells.map D.int)) pS=some (.lst (cells.map D.int)):=az;generalize eV G pS (.lst (cells.map D.int))=G0 at gS;refine⟨.ref pS,cells,S,sp,rfl,IsL.ref gS,⟨by lia,⟨hS1,hS3⟩,sp1,sp2⟩,fun rows d hlen hfl=>du ?_⟩;have rnd:=oM d;have Yc:=ze d;have str:=d.str;have HY:=d.HY;refine⟨ns,3,rfl,by decide,?_⟩;simp only [↓gX];refine⟨by lia,?_⟩;have i1:0<=gq ns 3 % (S:Int):=jV _ (by lia);have i2:gq ns 3 % (S:Int) < S:=jC _ (by lia);generalize gq ns 3 % (S:Int)=ia at i1 i2;obtain⟨i,rfl⟩:∃ i:Nat,ia=(i:Int):=⟨ia.toNat,by lia⟩;obtain⟨r,hi⟩:∃ r,rows[i]?=some r:=⟨_,au (by lia)⟩;refine⟨rows.map fun r=>r.map enc,by rw [fb],by rw [ao]; lia,fun G3 p2 as2 h2=>h2.fz ?_⟩;rw [<-fb];have szA:rows.length<=1000/\∀ r∈rows,r.length<=1000:=⟨by lia,fun r hr=>by have:=Yc r hr; lia⟩;obtain⟨db,bb⟩:=Vx d hi;have bfl:=Us d hi;have ZQ:(bk rows i r).length<=1000/\∀ x∈bk rows i r,x.length<=1000:=⟨by have:=db.str; lia,fun x hx=>by have:=ze db x hx; lia⟩;refine du (du ⟨rows,i,r,rfl,⟨hi,szA⟩,fun p1 Zz G1 hr1=>?_⟩);refine cV (fun τ G'=>G1=G'/\τ=[some (.cW (ns.map D.int)),some (.int S),some (.int sp),some (.int m),some (.ref pS),some (enc rows),some (.int i),some (enc rows),some (.ref p1),none,none,none,none]) ?_ ?_
 ·intro N hN;simp only [fA,NJ,ml,↓cQ,↓rX,aw,av,↓ae,↓aa,bF,aQ,cu,cO,dC,dn,↓if_true,bh];refine⟨rows,i,r,rfl,⟨d,hi⟩,?_⟩;refine wL hr1 ZQ ?_;simp only [↓bE,↓bq,↓aj,↓if_false];refine JS ?_;simp only [↓bE,decide_true,↓bq,↓if_true,↓aj,↓if_false];exact hN _ _ ⟨rfl,rfl⟩
 rintro _ _ ⟨rfl,rfl⟩;refine cV (fun τ G'=>fD G1 G'/\τ=[some (.cW (ns.map D.int)),some (.int S),some (.int sp),some (.int m),some (.ref pS),some (enc rows),some (.int i),some (enc rows),some (.ref p1),none,none,none,none]) ?_ ?_
 ·intro N hN;simp only [fA,↓cQ,bh,bF,aw,cO,↓rX,av,↓ae,↓aa,aQ,fT,↓e9,cu,dC,dn];refine B8 hr1 ZQ.1 (du ⟨_,i,_,rfl,⟨RG hi,ZQ⟩,fun p3 as3 G3 hr3=>?_⟩);rw [Zy d hi] at hr3;refine gR ⟨C6 (by rw [ao]; lia),?_⟩;refine iK (xs:=rows) (fun pr acc τ G2=>G3=G2/\(∃ a,τ=[a])/\acc=(pr.map cX).map enc) ⟨rfl,⟨_,rfl⟩,rfl⟩ (fun _ _ _ _ _=>trivial) ?_ ?_
  ·rintro pr x po acc τ G2 N3 e2 ⟨rfl,⟨a,rfl⟩,rfl⟩ wR;simp only [aH,cO,bF,aw,av,↓ah,↓aa,aQ];have hx:x∈rows:=by rw [e2]; simp
   refine⟨x,rfl,⟨by have:=Yc x hx; lia,rnd x hx⟩,du (wR _ _ _ ⟨rfl,⟨_,rfl⟩,?_⟩)⟩;rw [aM,aM]; rfl
  ·rintro acc τ G2 ⟨rfl,⟨a,rfl⟩,rfl⟩ p4 f4;refine W6 (UE.Lw hr3 (.new f4)) az ?_;simp only [↓bE,decide_true,↓bq,↓if_true,↓aj,↓if_false];exact hN _ _ ⟨hr3.le.trans (.new f4),rfl⟩
 rintro _ G3 ⟨TQ,rfl⟩;have hA:=UE.Lw hr1 TQ;refine cV (fun τ G'=>G3=G'/\∃ f:Int,0<=f/\τ=[some (.cW (ns.map D.int)),some (.int S),some (.int sp),some (.int m),some (.ref pS),some (enc rows),some (.int i),some (enc rows),some (.ref p1),some (.int f),none,none,none]) ?_ ?_
 ·intro N hN;simp only [bM,bh,bF,aw,av,↓aa,dC,aQ,↓Fp,aH,↓ar,↓ah];refine⟨ns,4,rfl,by decide,?_⟩;simp only [↓mR,↓gX];refine⟨by decide,by decide,⟨by decide,by decide,by decide⟩,by decide,?_⟩;exact hN _ _ ⟨rfl,_,jV _ (by decide),rfl⟩
 rintro _ _ ⟨rfl,f1,hf1,rfl⟩;refine cV (fun τ G'=>G3=G'/\∃ f:Int,0<=f/\τ=[some (.cW (ns.map D.int)),some (.int S),some (.int sp),some (.int m),some (.ref pS),some (enc rows),some (.int i),some (enc rows),some (.ref p1),some (.int f),none,none,none]) ?_ ?_
 ·intro N hN;simp only [fA,↓cQ,bh,bF,aw,av,↓aa,dC,aQ,bM,aH,↓ar,↓ah,dn];refine⟨ns,4,rfl,by decide,?_⟩;simp only [↓mR,↓gX];refine⟨by decide,by decide,by decide,u5 ?_⟩;by_cases c:gq ns 4 / 2 % 3=0
  ·simp only [↓bE,↓aj,c,decide_true,↓bq,↓if_false,↓if_true];exact hN _ _ ⟨rfl,0,by decide,rfl⟩
  ·simp only [↓bE,↓aj,c,decide_false,↓cZ,↓if_false];exact hN _ _ ⟨rfl,f1,hf1,rfl⟩
 rintro _ _ ⟨rfl,f0,hf0,rfl⟩;simp only [↓cM,bM,bh,av,↓ae,↓aa,↓gi,aH,↓ar,↓ah];refine cV (fun τ G'=>G3=G'/\∃ k:Int,(k < 0\/(rows.length:Int)<=k)/\τ=[some (.cW (ns.map D.int)),some (.int S),some (.int sp),some (.int m),some (.ref pS),some (enc rows),some (.int i),some (enc rows),some (.ref p1),some (.int f0),some (.int k),none,none]) ?_ ?_
 ·intro N hN;simp only [fA,↓cQ,bh,bF,aw,av,↓aa,dC,aQ,bM,Si,↓rL,↓ae,↓uY,aH,↓ar,↓ah,dn];refine⟨ns,4,rfl,by decide,?_⟩;simp only [↓gX];refine⟨by decide,u5 ?_⟩;by_cases c:gq ns 4 % 2=1
  ·simp only [↓bE,↓aj,c,decide_true,↓bq,↓if_false,↓if_true];exact hN _ _ ⟨rfl,-1 - f0,by lia,rfl⟩
  ·simp only [↓bE,↓aj,c,decide_false,↓cZ,↓if_false];exact hN _ _ ⟨rfl,S+f0,by lia,rfl⟩
 rintro _ _ ⟨rfl,k,hk,rfl⟩;refine cV (fun τ G'=>G3=G'/\τ=[some (.cW (ns.map D.int)),some (.int S),some (.int sp),some (.int m),some (.ref pS),some (enc rows),some (.int i),some (enc rows),some (.ref p1),some (.int f0),some (.int k),none,none]) ?_ ?_
 ·intro N hN;simp only [fA,ml,↓cQ,bF,aw,av,↓ae,↓aa,aQ,cu,cO,dC,dn];refine⟨rows,k,rfl,hk,?_⟩;simp only [↓bE,↓bq,↓aj,↓if_false];exact hN _ _ ⟨rfl,rfl⟩
 rintro _ _ ⟨rfl,rfl⟩;have gS3:G3 pS=some (.lst (cells.map D.int)):=hA.le _ _ gS;refine cV (fun τ G'=>G3=G'/\∃ x,τ=[some (.cW (ns.map D.int)),some (.int S),some (.int sp),some (.int m),some (.ref pS),some (enc rows),some (.int i),some (enc rows),some (.ref p1),some (.int f0),some (.int k),x,none]) ?_ ?_
 ·intro N hN;simp only [fA,↓cQ,bh,uj,aw,av,↓ae,↓aa,aQ,dC,↓cM,bM,bF,cO,aH,NJ,ml,↓ar,↓ah,cu,dn,↓if_true];refine LZ (IsL.ref gS3) ?_;simp only [↓ym,↓bE,ao];by_cases c6:(cells.length:Int) < 6
  ·simp only [c6,decide_true,↓if_true];have Zx:rows.flatten.length<=12:=by lia
   refine du ⟨rows,rfl,⟨d,Zx⟩,fun T bT=>?_⟩;simp only [↓rX,aw,av,↓ae,↓aa,aQ];refine⟨_,T,rfl,⟨rfl,bT.nd⟩,bT.nz,?_⟩;simp only [↓bE,↓bq,↓aj,↓if_false];refine vi hA db (by rw [bfl]; exact Zx) fun T1 b1=>?_;have ee:xX T1 T=true:=AA b1.nd bT.nd b1.nz bT.nz fun g=>by rw [b1.val,bT.val,bb]
   refine Pq (l:=T1) (m:=T) AX.kW AX.kW ?_;simp only [↓bE,ee,↓bq,↓if_true,↓aj,↓if_false];exact hN _ _ ⟨rfl,_,rfl⟩
  ·simp only [c6,decide_false,↓aj,↓if_false];exact hN _ _ ⟨rfl,_,rfl⟩
 rintro _ _ ⟨rfl,x9,rfl⟩;have L9:∀ a∈Zz,∃ r:List T3,r.length<=24/\G3 a=some (.lst (r.map enc)):=fun a ha=>by
  obtain⟨r,hr,e⟩:=QI hA ha;exact⟨r,ze db r hr,e⟩
 refine cV (fun τ G'=>∃ x,τ=[some (.cW (ns.map D.int)),some (.int S),some (.int sp),some (.int m),some (.ref pS),some (enc rows),some (.int i),some (enc rows),some (.ref p1),some (.int f0),some (.int k),x9,x]) ?_ ?_
 ·intro N hN;simp only [ff,↓e9,av,↓ae,↓aa,TV,hA.gp];refine eG (xs:=Zz) (f:=D.ref) (fun pre τ G'=>(∃ x,τ=[some (.cW (ns.map D.int)),some (.int S),some (.int sp),some (.int m),some (.ref pS),some (enc rows),some (.int i),some (enc rows),some (.ref p1),some (.int f0),some (.int k),x9,x])/\G' p1=some (.lst (Zz.map D.ref))/\∀ (i a:Nat),pre.length<=i->Zz[i]?=some a->∃ r:List T3,r.length<=24/\G' a=some (.lst (r.map enc))) ⟨⟨_,rfl⟩,hA.gp,fun i a _ h=>L9 a (aZ h)⟩ (fun _ _ _ h=>h.2.1) ?_ ?_
  ·rintro pre b post τ G' N2 e ⟨⟨x,rfl⟩,gp,xU⟩ oB;have hb:Zz[pre.length]?=some b:=by rw [e]; simp
   obtain⟨r,rl,gb⟩:=xU pre.length b (aC _) hb;simp only [aH,lM,tV,av,↓ar,↓ah,↓ae,↓aa,↓pM,gb,aw,iB,dC,aQ,↓ak,↓aB,↓ka,↓true_and];refine⟨by decide,IG (by rw [ao]; lia),oB _ _ ⟨⟨_,rfl⟩,?_,fun i a h0 h1=>?_⟩⟩
   ·rw [cL (by rintro rfl; exact hA.np (aZ hb))]; exact gp
   ·rw [aG,cg] at h0;have oW:a≠b:=by
     rintro rfl;have h3:=List.getElem?_eq_some_iff.mp h1;have h4:=List.getElem?_eq_some_iff.mp hb;exact List.pairwise_iff_getElem.mp hA.nd pre.length i h4.1 h3.1 (by lia) (h4.2.trans h3.2.symm)
    rw [cL oW];exact xU i a (by lia) h1
  ·rintro τ G' ⟨⟨x,rfl⟩,_⟩;exact hN _ _ ⟨_,rfl⟩
 rintro _ G8 ⟨x,rfl⟩;simp only [cu,cO,↓AG,bh,av,↓ae,↓aa,↓rX,aw,bF,aQ];refine JS ?_;simp only [↓bE,↓aj,decide_true,↓bq,↓if_false,↓if_true];refine du (du ⟨rows,i,r,rfl,⟨hi,szA⟩,fun p9 as9 G9 hr9=>?_⟩);refine⟨rows,i,r,rfl,⟨d,hi⟩,wL hr9 ZQ ?_⟩;exact du (q _)
end JH
end K2
end
namespace Fin
open PySem PySem.Spec PyProof.Rows L2 K2
open K2.JB hiding fy
open K2.JE (jH tX fy sk)
open K2.JF (ft tW ij xK)
open K2.JH
open K2.UE (oZ CL gV sf)
open K2.P (gf sg ig xJ i8 AV nk AQ)
open K2.Y
def top(i:Nat):Stmt:=PySem.Challenge.pw_knotwise_k62_whole_run_back.main.body.getD i (.Pass ⟨0,0,0,0⟩)
theorem O5:lF ["_law_script","_law_strings","_law_spread","_law_many","_law_cells","_law_rows_here","_law_string","_law_handed","_law_found","_law_far","_law_none","_law_due","_law_row"] ["_law_script"] (bN (top 49)):=scm
section
variable {V:Sk} (Y:UG V)
include Y
theorem As (F:iL V.K "_law_cell_at" (top 36)) (fQ:mV V.K "len"):gT V 1 "_law_cell_at" ["_law_script","_law_k"] bL :=
 qS ["_law_script","_law_k"] Y F AS fun hr nd=>have hu:=hr.units; have TX:=hr.y0; (aE (fe (dq (zF TX) (br 1) (g6 kb rfl (Y.no fQ) rZ (k8 (br 0))) (e7 _)) (aK (bR (aW (dP hu (br 0) (br 1) (fun _ _=>rfl))))) dh)
 (aK (bR (aW aJ))))
theorem GL (F:iL V.K "_law_pick" (top 38)):gT V 1 "_law_pick" ["_law_cell","_law_prime","_law_many"] d8 :=
 qS ["_law_cell","_law_prime","_law_many"] Y F Hy fun hr nd=>(aK (bR (aW (cx iu (cx iu (cx yu (br 0) aJ) (br 1)) (br 2)))))
theorem Bu (F:iL V.K "_law_digits" (top 43)) (pX:mV V.K "enumerate") (J7:gT V 1 "_law_pick" ["_law_cell","_law_prime","_law_many"] d8):gT V 2 "_law_digits" ["_law_cell","_law_sizes"] jH :=
 qS ["_law_cell","_law_sizes","_law_primes","_law_left","_law_found","_law_at","_law_size"] Y F tX fun hr nd=>have hu:=hr.units; (aE (kC (i:=2) nd rfl (gy (eA aJ (eA aJ (eA aJ (eA aJ (eA aJ (eA aJ (eA aJ (Dp aJ aJ aJ))))))))))
 (aE (kC (i:=3) nd rfl (cx rP (br 0) aJ))
 (aE (kC (i:=4) nd rfl (gy gB))
 (aE (dO bw rfl (PH rfl (Y.no pX) (br 1)) (iq rfl (bW (kS (i:=5) nd rfl) (bW (kS (i:=6) nd rfl) gj)) (bX (bX gm))) (aK (fe (dq (kH hu) (cx iu (br 0) aJ) aJ (e7 _)) (aE (nB (jy cG fL fK jF lj (br 4) (k8 (cx iu (br 3) (br 6)))))
 (aK (kC (i:=3) nd rfl (cx rP (br 3) (br 6))))) (aK (nB (jy cG fL fK jF lj (br 4) (k8 (k7 J7 hr (Dp (br 0) (dP hu (br 2) (br 5) (fun _ _=>rfl)) (br 6))))))))))
 (aK (bR (aW (br 4))))))))
theorem GN (F:iL V.K "_law_free" (top 41)):gT V 1 "_law_free" ["_law_names","_law_name"] i7 :=
 qS ["_law_names","_law_name"] Y F si fun hr nd=>have hu:=hr.units; (aE (MR bw (dq (Jb hu) (br 1) (br 0) (by with_unfolding_all rfl)) (aK (kC (i:=1) nd rfl (cx fF (cx iu (br 1) aJ) aJ))))
 (aK (bR (aW (br 1)))))
theorem GP (F:iL V.K "_law_copy" (top 40)) (jT:mV V.K "list"):gT V 1 "_law_copy" ["_law_rows_here"] eM :=
 qS ["_law_rows_here"] Y F sr fun hr nd=>(aK (bR (aW (kG ["_law_row"] (sc:=bN (top 40)) (XN:=["_law_rows_here"]) (eX (br 0)) (fun _ _ _ _=>(kS (i:=0) (show (["_law_row"]:List Str).Nodup by decide +kernel) rfl)) (fun _ _ _ _=>.none) (fun _ _ _ _=>(t8 JY rfl (Y.no jT) Ed (k8 (br 0))))))))
theorem JK (F:iL V.K "_law_put" (top 42)) (fQ:mV V.K "len") (qj:gT V 1 "_law_copy" ["_law_rows_here"] eM):gT V 2 "_law_put" ["_law_rows_here","_law_at","_law_place","_law_more"] nq :=
 qS ["_law_rows_here","_law_at","_law_place","_law_more","_law_made"] Y F Kh fun hr nd=>have hu:=hr.units; (aE (kC (i:=4) nd rfl (k7 qj hr (k8 (br 0))))
 (aE (kC (i:=2) nd rfl (cx iu (br 2) (cx fF (g6 kb rfl (Y.no fQ) rZ (k8 (dP hu (br 4) (br 1) (fun _ _=>rfl)))) aJ)))
 (aE (jm (cx fF (cx fF (gZ (dP hu (br 4) (br 1) (fun _ _=>rfl)) jI (iI (br 2))) (br 3)) (gZ (dP hu (br 4) (br 1) (fun _ _=>rfl)) (iI (br 2)) jI)) (kF hu (br 4) (br 1)))
 (aK (bR (aW (br 4)))))))
theorem Ap (F:iL V.K "_law_drawing" (top 44)) (g7:mV V.K "range") (Eb:gT V 2 "_law_digits" ["_law_cell","_law_sizes"] jH) (J8:gT V 1 "_law_free" ["_law_names","_law_name"] i7) (NO:gT V 2 "_law_put" ["_law_rows_here","_law_at","_law_place","_law_more"] nq):gT V 3 "_law_drawing" ["_law_cells","_law_strings","_law_spread"] fy :=
 qS ["_law_cells","_law_strings","_law_spread","_law_rows_here","_law_names","_law_cell","_law_part","_law_name","_law_way"] Y F sk fun hr nd=>have hu:=hr.units; (aE (yq (rN ["_law_k"] (sc:=bN (top 44)) (XN:=["_law_cells","_law_strings","_law_spread","_law_rows_here","_law_names","_law_cell","_law_part","_law_name","_law_way"]) (i:=3) nd rfl rfl (nE rfl (Y.no g7) (br 1)) (fun _ _ _ _=>(kS (i:=0) (show (["_law_k"]:List Str).Nodup by decide +kernel) rfl)) (fun _ _ _ _=>.none) (fun _ _ _ _=>(gy gB))))
 (aE (kC (i:=4) nd rfl (gy gB))
 (aE (dO bw rfl (eX (br 0)) (kS (i:=5) nd rfl) (aE (kC (i:=6) nd rfl (k7 Eb hr (mT (aW (br 5)) (aW (gy (eA (br 2) (eA aJ (eA (br 1) (Dp aJ (br 1) aJ)))))))))
 (aE (kC (i:=7) nd rfl (k7 J8 hr (mT (br 4) (cx fF aJ (dP hu (br 6) aJ (fun _ _=>rfl))))))
 (aE (nB (jy cG fL fK jF lj (br 4) (k8 (br 7))))
 (aK (dO bw rfl (nE rfl (Y.no g7) aJ) (kS (i:=8) nd rfl) (aK (kC (i:=3) nd rfl (aW (k7 NO hr (eA (aW (br 3)) (Dp (aW (dP hu (br 6) (cx fF aJ (cx yu aJ (br 8))) (fun _ _=>rfl))) (aW (dP hu (br 6) (cx fF aJ (cx yu aJ (br 8))) (fun _ _=>rfl))) (aW (gy (k8 (eF (Dp (br 7) (br 8) (cx Ld aJ (cx yu aJ (dP hu (br 6) aJ (fun _ _=>rfl)))))))))))))))))))))
 (aK (bR (aW (br 3)))))))
theorem xW (F:iL V.K "crossed_once" (top 13)):gT V 1 "crossed_once" ["row"] jQ :=
 qS ["row","names"] Y F x8 fun hr nd=>have hu:=hr.units; (aE (kC (i:=1) nd rfl (aW (kG ["passing"] (sc:=bN (top 13)) (XN:=["row","names"]) (eX (br 0)) (fun _ _ _ _=>(kS (i:=0) (show (["passing"]:List Str).Nodup by decide +kernel) rfl)) (fun _ _ _ _=>.none) (fun _ _ _ _=>(dP hu (br 0) aJ (fun _ _=>rfl))))))
 (aK (bR (aW (kG ["name","names"] (sc:=bN (top 13)) (XN:=["row","names"]) (eX (br 1)) (fun _ _ _ _=>(kS (i:=0) (show (["name","names"]:List Str).Nodup by decide +kernel) rfl)) (fun _ _ _ _=>(.some (dq (kH hu) (jy cG Io Il jF zO (br 1) (k8 (br 0))) aJ (e7 _)))) (fun _ _ _ _=>(br 0)))))))
theorem Bs (F:iL V.K "turned_row" (top 14)):gT V 1 "turned_row" ["row","names"] lC :=
 qS ["row","names"] Y F BE fun hr nd=>have hu:=hr.units; (aK (bR (aW (kG ["name","way","hand","names"] (sc:=bN (top 14)) (XN:=["row","names"]) (eX (br 0)) (fun _ _ _ _=>(iq rfl (bW (kS (i:=0) (show (["name","way","hand","names"]:List Str).Nodup by decide +kernel) rfl) (bW (kS (i:=1) (show (["name","way","hand","names"]:List Str).Nodup by decide +kernel) rfl) (bW (kS (i:=2) (show (["name","way","hand","names"]:List Str).Nodup by decide +kernel) rfl) gj))) (bX (bX (bX gm))))) (fun _ _ _ _=>.none) (fun _ _ _ _=>(eF (Dp (br 0) (br 1) (PL (dq (Jb hu) (br 0) (br 3) (by with_unfolding_all rfl)) (Dk yd (br 2)) (br 2)))))))))
theorem NA (F:iL V.K "seated" (top 7)) (Je:mV V.K "min"):gT V 1 "seated" ["row"] oZ :=
 qS ["row","start"] Y F CL fun hr nd=>have hu:=hr.units; (aE (fe (jS (gY (br 0))) (aK (bR (aW (gy gB)))) dh)
 (aE (kC (i:=1) nd rfl (jy cG Im PySem.F.type_list_index jF (M1 hu) (br 0) (k8 (g6 (NL rfl hu) rfl (Y.no Je) Xf (k8 (br 0))))))
 (aK (bR (aW (cx fF (gZ (br 0) (iI (br 1)) jI) (gZ (br 0) jI (iI (br 1)))))))))
theorem Aj (F:iL V.K "seated_rows" (top 8)) (Rq:gT V 1 "seated" ["row"] oZ):gT V 2 "seated_rows" ["rows"] gV :=
 qS ["rows"] Y F sf fun hr nd=>(aK (bR (aW (kG ["row"] (sc:=bN (top 8)) (XN:=["rows"]) (eX (br 0)) (fun _ _ _ _=>(kS (i:=0) (show (["row"]:List Str).Nodup by decide +kernel) rfl)) (fun _ _ _ _=>.none) (fun _ _ _ _=>(k7 Rq hr (k8 (br 0))))))))
theorem GG (F:iL V.K "run_back" (top 15)) (fQ:mV V.K "len") (jT:mV V.K "list") (j9:mV V.K "reversed") (AK:gT V 1 "crossed_once" ["row"] jQ) (D9:gT V 1 "turned_row" ["row","names"] lC) (By:gT V 2 "seated_rows" ["rows"] gV):gT V 3 "run_back" ["drawing","string"] j6 :=
 qS ["drawing","string","names","rows"] Y F Hv fun hr nd=>have hu:=hr.units; have TX:=hr.y0; (aE (fe (jS (BZ PS (zF TX) aJ (br 1) (g6 kb rfl (Y.no fQ) rZ (k8 (br 0))))) (aK mS) dh)
 (aE (kC (i:=2) nd rfl (k7 AK hr (k8 (dP hu (br 0) (br 1) (fun _ _=>rfl)))))
 (aE (rN ["row","names"] (sc:=bN (top 15)) (XN:=["drawing","string","names","rows"]) (i:=3) nd rfl rfl (eX (br 0)) (fun _ _ _ _=>(kS (i:=0) (show (["row","names"]:List Str).Nodup by decide +kernel) rfl)) (fun _ _ _ _=>.none) (fun _ _ _ _=>(aW (k7 D9 hr (mT (br 0) (br 1))))))
 (aE (jm (aW (FA rfl rfl (Y.no jT) rfl (Y.no j9) (dP hu (br 3) (br 1) (fun _ _=>rfl)))) (kF hu (br 3) (br 1)))
 (aK (bR (aW (k7 By hr (k8 (aW (br 3)))))))))))
theorem DP (F:iL V.K "_law_whole" (top 37)) (Dv:mV V.K "bool") (Jf:mV V.K "int") (cP:mV V.K "isinstance"):gT V 1 "_law_whole" ["_law_found"] cE :=
 qS ["_law_found"] Y F Es fun hr nd=>(aK (bR (aW (La (yr "int" (by decide) rfl (Y.no cP) rfl (Y.no Jf) Xg (br 0)) (K7 (Tn (yr "bool" (by decide) rfl (Y.no cP) rfl (Y.no Dv) Ur (br 0))))))))
theorem GJ (F:iL V.K "_law_rows" (top 46)) (cP:mV V.K "isinstance") (jT:mV V.K "list") (oE:gT V 1 "_law_whole" ["_law_found"] cE):gT V 2 "_law_rows" ["_law_found","_law_due"] ij :=
 qS ["_law_found","_law_due","_law_row","_law_passing","_law_number"] Y F xK fun hr nd=>have hu:=hr.units; (aE (fe (Ka.pt (wy (jS (gY (yr "list" (by decide) rfl (Y.no cP) rfl (Y.no jT) Ed (br 0)))) (u7 (dq (Ds hu) (br 0) (br 1) (e7 _))))) (aK (bR (aW mf))) dh)
 (aE (dO bw rfl (eX (br 0)) (kS (i:=2) nd rfl) (aK (dO bw rfl (eX (br 2)) (kS (i:=3) nd rfl) (aK (dO bw rfl (eX (br 3)) (kS (i:=4) nd rfl) (aK (fe (jS (gY (k7 oE hr (k8 (br 4))))) (aK (bR (aW mf))) dh)))))))
 (aK (bR (aW mf)))))
theorem Bt (F:iL V.K "_law_seated" (top 45)) (fQ:mV V.K "len") (g7:mV V.K "range"):gT V 1 "_law_seated" ["_law_row"] ft :=
 qS ["_law_row","_law_at","_law_k"] Y F tW fun hr nd=>have hu:=hr.units; (aE (fe (dq (kH hu) (br 0) (gy gB) (e7 _)) (aK (bR (aW (gy gB)))) dh)
 (aE (kC (i:=1) nd rfl aJ)
 (aE (dO bw rfl (nE rfl (Y.no g7) (g6 kb rfl (Y.no fQ) rZ (k8 (br 0)))) (kS (i:=2) nd rfl) (aK (fe (dq (Tw hu) (eF (mT (dP hu (dP hu (br 0) (br 2) (fun _ _=>rfl)) aJ (fun _ _=>rfl)) (dP hu (dP hu (br 0) (br 2) (fun _ _=>rfl)) aJ (fun _ _=>rfl)))) (eF (mT (dP hu (dP hu (br 0) (br 1) (fun _ _=>rfl)) aJ (fun _ _=>rfl)) (dP hu (dP hu (br 0) (br 1) (fun _ _=>rfl)) aJ (fun _ _=>rfl)))) (e7 _)) (aK (kC (i:=1) nd rfl (br 2))) dh)))
 (aK (bR (aW (cx fF (gZ (br 0) (iI (br 1)) jI) (gZ (br 0) jI (iI (br 1))))))))))
theorem xV (F:iL V.K "_law_way_back" (top 47)) (fQ:mV V.K "len") (jT:mV V.K "list") (g7:mV V.K "range") (j9:mV V.K "reversed") (qi:gT V 1 "_law_seated" ["_law_row"] ft):gT V 2 "_law_way_back" ["_law_rows_here","_law_string"] iG :=
 qS ["_law_rows_here","_law_string","_law_here","_law_made","_law_at","_law_fresh","_law_name","_law_way","_law_hand"] Y F xZ fun hr nd=>have hu:=hr.units; (aE (yq (rN ["_law_passing"] (sc:=bN (top 47)) (XN:=["_law_rows_here","_law_string","_law_here","_law_made","_law_at","_law_fresh","_law_name","_law_way","_law_hand"]) (i:=2) nd rfl rfl (eX (dP hu (br 0) (br 1) (fun _ _=>rfl))) (fun _ _ _ _=>(kS (i:=0) (show (["_law_passing"]:List Str).Nodup by decide +kernel) rfl)) (fun _ _ _ _=>.none) (fun _ _ _ _=>(dP hu (br 0) aJ (fun _ _=>rfl)))))
 (aE (kC (i:=3) nd rfl (gy gB))
 (aE (dO bw rfl (nE rfl (Y.no g7) (g6 kb rfl (Y.no fQ) rZ (k8 (br 0)))) (kS (i:=4) nd rfl) (aE (kC (i:=5) nd rfl (gy gB))
 (aE (dO bw rfl (eX (dP hu (br 0) (br 4) (fun _ _=>rfl))) (iq rfl (bW (kS (i:=6) nd rfl) (bW (kS (i:=7) nd rfl) (bW (kS (i:=8) nd rfl) gj))) (bX (bX (bX gm)))) (aE (fe (Ka.pt (wy (Ka.pt (KY (dq (kH hu) (br 4) (br 1) (e7 _)) (Fs (dq (kH hu) (jy cG Io Il jF zO (br 2) (k8 (br 6))) aJ (e7 _))))) (u7 (Ka.pt (KY (dq (Ds hu) (br 4) (br 1) (e7 _)) (Fs (dq (Jb hu) (br 6) (br 2) (by with_unfolding_all rfl)))))))) (aK (kC (i:=8) nd rfl (Dk yd (br 8)))) dh)
 (aK (nB (jy cG fL fK jF lj (br 5) (k8 (aW (eF (Dp (br 6) (br 7) (br 8))))))))))
 (aE (fe (dq (kH hu) (br 4) (br 1) (e7 _)) (aK (kC (i:=5) nd rfl (FA rfl rfl (Y.no jT) rfl (Y.no j9) (br 5)))) dh)
 (aK (nB (jy cG fL fK jF lj (br 3) (k8 (aW (k7 qi hr (k8 (aW (br 5)))))))))))))
 (aK (bR (aW (br 3)))))))
theorem DN (F:iL V.K "run_back" (top 15)) (fQ:mV V.K "len") {fi:Addr} (eW:Vz V.K "NoString" fi):CEZ V 1 "run_back" ["drawing","string"] mI :=
 foE ["drawing","string","names","rows"] Y F Ep fun hr nd=>have TX:=hr.y0; (aE (fe (jS (BZ PS (zF TX) aJ (br 1) (g6 kb rfl (Y.no fQ) rZ (k8 (br 0))))) (aK (MS rfl (Y.mg eW.ns) eW.ex PySem.F.excBase_ValueError rfl (k8 Tj))) dh)
 (aE mS
 (aE mS
 (aE mS
 (aK mS)))))
theorem An (F:iL V.K "_law_refused" (top 48)) (cP:mV V.K "isinstance") {fi:Addr} (eW:Vz V.K "NoString" fi) {fh:Addr} (k9:Vz V.K "TooMany" fh) {dN:Addr} (i4:Vz V.K "KnotError" dN) (i9:subIn V.K fi (.ref fi)=true) (uc:Kn0 V.K fh) (qc:Kn0 V.K dN) (jz:Kt V.K fi fh false) (jZ:Kt V.K fh fh true) (jd:Kt V.K dN fh false) (iR:Kt V.K fi dN true) (jc:Kt V.K fh dN true) (iA:Kt V.K dN dN true) (Hl:CEZ V 1 "run_back" ["drawing","string"] mI):gT V 2 "_law_refused" ["_law_rows_here","_law_string"] kr :=
 qS ["_law_rows_here","_law_string","_law_told","e"] Y F AR fun hr nd=>have hu:=hr.units; (aE (kC (i:=2) nd rfl (gy gB))
 (aE (Hl.el fun _ _ q=>S9 ⟨rfl,rfl,rfl⟩ ⟨nd,rfl,rfl,rfl,(Y.mg eW.ns),⟨_,_,eW.ex,rfl⟩,(nN ⟨_,_,_,eW.ns,eW.ex,i9⟩ D5)⟩ q.ok (hr.mono (by decide)) rfl q.mg q.kp q.bi (fun EX=>(mT (br 0) (br 1))) (fun v=>(aK (kC (i:=2) nd rfl (gy (mT (FC CQ rfl (Y.no cP) rfl (Y.mg i4.ns) qc (nN ⟨_,eW.ns,iR,eW.xi⟩ (nN ⟨_,k9.ns,jc,k9.xi⟩ (nN ⟨_,i4.ns,iA,i4.xi⟩ D5))) (br 3)) (FC CQ rfl (Y.no cP) rfl (Y.mg k9.ns) uc (nN ⟨_,eW.ns,jz,eW.xi⟩ (nN ⟨_,k9.ns,jZ,k9.xi⟩ (nN ⟨_,i4.ns,jd,i4.xi⟩ D5))) (br 3))))))))
 (aK (bR (aW (K9 (kH hu) (br 2) (gy (mT mf mf)) (e7 _)))))))
theorem Am (F:iL V.K "passings_of" (top 6)):gT V 1 "passings_of" ["rows"] gf :=
 qS ["rows","passings","row"] Y F sg fun hr nd=>(aE (kC (i:=1) nd rfl (gy gB))
 (aE (dO bw rfl (eX (br 0)) (kS (i:=2) nd rfl) (aK (nB (jy cG PySem.F.slot_list_extend PySem.F.type_list_extend jF Ji (br 1) (k8 (br 2))))))
 (aK (bR (aW (br 1))))))
theorem JL (F:iL V.K "hand_of" (top 10)) (oR:gT V 1 "passings_of" ["rows"] gf):gT V 2 "hand_of" ["drawing","name"] i8 :=
 qS ["drawing","name","passing"] Y F AV fun hr nd=>have hu:=hr.units; (aE (dO bw rfl (eX (k7 oR hr (k8 (br 0)))) (kS (i:=2) nd rfl) (aK (fe (dq (kH hu) (dP hu (br 2) aJ (fun _ _=>rfl)) (br 1) (e7 _)) (aK (bR (aW (dP hu (br 2) aJ (fun _ _=>rfl))))) dh)))
 (aK mS))
theorem JJ (F:iL V.K "next_of" (top 11)) (wJ:mV V.K "zip"):gT V 1 "next_of" ["drawing"] nk :=
 qS ["drawing","behind","row","passing","follower"] Y F AQ fun hr nd=>have hu:=hr.units; (aE (kC (i:=1) nd rfl pU)
 (aE (dO bw rfl (eX (br 0)) (kS (i:=2) nd rfl) (aK (dO bw rfl (K6 rfl (Y.no wJ) (br 2) (cx fF (gZ (br 2) (iI aJ) jI) (gZ (br 2) jI (iI aJ)))) (iq rfl (bW (kS (i:=3) nd rfl) (bW (kS (i:=4) nd rfl) gj)) (bX (bX gm))) (aK (jm (gZ (br 4) jI (iI aJ)) (kF hu (br 1) (gZ (br 3) jI (iI aJ))))))))
 (aK (bR (aW (br 1))))))
theorem JI (F:iL V.K "plan_of" (top 28)) (mU:mV V.K "sorted") (zK:mV V.K "tuple"):gT V 1 "plan_of" ["far"] la :=
 qS ["far"] Y F Kg fun hr nd=>have hu:=hr.units; have TX:=hr.y0; (aK (bR (aW (t8 Hk rfl (Y.no zK) RB (k8 (g6 (vO rfl hu) rfl (Y.no mU) CD (k8 (kG ["end","far"] (sc:=bN (top 28)) (XN:=["far"]) (Fx (br 0)) (fun _ _ _ _=>(kS (i:=0) (show (["end","far"]:List Str).Nodup by decide +kernel) rfl)) (fun _ _ _ _=>(.some (dq (zF TX) (br 0) (dP hu (br 1) (br 0) (fun _ _=>rfl)) (e7 _)))) (fun _ _ _ _=>(eF (mT (br 0) (dP hu (br 1) (br 0) (fun _ _=>rfl)))))))))))))
theorem GQ (F:iL V.K "far_ends" (top 30)):gT V 1 "far_ends" ["threads"] j7 :=
 qS ["threads","far","one","other"] Y F Hz fun hr nd=>have hu:=hr.units; (aE (kC (i:=1) nd rfl pU)
 (aE (dO bw rfl (eX (br 0)) (iq rfl (bW (kS (i:=2) nd rfl) (bW (kS (i:=3) nd rfl) gj)) (bX (bX gm))) (aE (jm (br 3) (kF hu (br 1) (br 2)))
 (aK (jm (br 2) (kF hu (br 1) (br 3))))))
 (aK (bR (aW (br 1))))))
theorem Bq (F:iL V.K "whole_plan" (top 29)) (NN:gT V 1 "next_of" ["drawing"] nk) (w4:gT V 1 "plan_of" ["far"] la) (ur:gT V 1 "far_ends" ["threads"] j7):gT V 2 "whole_plan" ["drawing"] lB :=
 qS ["drawing","threads"] Y F BD fun hr nd=>(aE (rN ["spot","after"] (sc:=bN (top 29)) (XN:=["drawing","threads"]) (i:=1) nd rfl rfl (IV (k7 NN hr (k8 (br 0)))) (fun _ _ _ _=>(iq rfl (bW (kS (i:=0) (show (["spot","after"]:List Str).Nodup by decide +kernel) rfl) (bW (kS (i:=1) (show (["spot","after"]:List Str).Nodup by decide +kernel) rfl) gj)) (bX (bX gm)))) (fun _ _ _ _=>.none) (fun _ _ _ _=>(eF (mT (cx fF (br 0) (eF (k8 aJ))) (cx fF (br 1) (eF (k8 aJ)))))))
 (aK (bR (aW (k7 w4 hr (k8 (aW (k7 ur hr (k8 (br 1))))))))))
theorem ug (F:iL V.K "without_noughts" (top 18)):gT V 1 "without_noughts" ["sums"] dG :=
 qS ["sums","kept","power","number"] Y F uw fun hr nd=>have hu:=hr.units; (aE (kC (i:=1) nd rfl pU)
 (aE (dO bw rfl (o6 (br 0)) (iq rfl (bW (kS (i:=2) nd rfl) (bW (kS (i:=3) nd rfl) gj)) (bX (bX gm))) (aK (fe (dq (Ds hu) (br 3) aJ (e7 _)) (aK (jm (br 3) (kF hu (br 1) (br 2)))) dh)))
 (aK (bR (aW (br 1))))))
theorem Q0 (F:iL V.K "times" (top 20)) (gF:gT V 1 "without_noughts" ["sums"] dG):gT V 2 "times" ["one","other"] jG :=
 qS ["one","other","sums","power","number","other_power","other_number","both"] Y F RM fun hr nd=>have hu:=hr.units; (aE (kC (i:=2) nd rfl pU)
 (aE (dO bw rfl (o6 (br 0)) (iq rfl (bW (kS (i:=3) nd rfl) (bW (kS (i:=4) nd rfl) gj)) (bX (bX gm))) (aK (dO bw rfl (o6 (br 1)) (iq rfl (bW (kS (i:=5) nd rfl) (bW (kS (i:=6) nd rfl) gj)) (bX (bX gm))) (aE (kC (i:=7) nd rfl (cx fF (br 3) (br 5)))
 (aK (jm (cx fF (jy dg gM mE oY Li (br 2) (mT (br 7) aJ)) (cx FF (br 4) (br 6))) (kF hu (br 2) (br 7))))))))
 (aK (bR (aW (k7 gF hr (k8 (aW (br 2)))))))))
theorem NB (F:iL V.K "raised" (top 22)) (g7:mV V.K "range") (Ea:gT V 2 "times" ["one","other"] jG):gT V 3 "raised" ["one","count"] iM :=
 qS ["one","count","product","step"] Y F NX fun hr nd=>(aE (kC (i:=2) nd rfl (PN aJ aJ))
 (aE (dO bw rfl (nE rfl (Y.no g7) (br 1)) (kS (i:=3) nd rfl) (aK (kC (i:=2) nd rfl (k7 Ea hr (mT (aW (br 2)) (aW (br 0)))))))
 (aK (bR (aW (br 2))))))
theorem Au (F:iL V.K "joined_plan" (top 31)) (ur:gT V 1 "far_ends" ["threads"] j7) (w4:gT V 1 "plan_of" ["far"] la):gT V 2 "joined_plan" ["plan","pairs"] ku :=
 qS ["plan","pairs","far","closed","one","other","before","after"] Y F AU fun hr nd=>have hu:=hr.units; (aE (kC (i:=2) nd rfl (k7 ur hr (k8 (br 0))))
 (aE (kC (i:=3) nd rfl aJ)
 (aE (dO bw rfl (eX (br 1)) (iq rfl (bW (kS (i:=4) nd rfl) (bW (kS (i:=5) nd rfl) gj)) (bX (bX gm))) (aE (kC (i:=6) nd rfl (jy dg tY Mn oY (FP hu) (br 2) (k8 (br 4))))
 (aE (kC (i:=7) nd rfl (jy dg tY Mn oY (FP hu) (br 2) (k8 (br 5))))
 (aK (fe (dq (kH hu) (br 6) (br 5) (e7 _)) (aK (kC (i:=3) nd rfl (cx fF (br 3) aJ))) (aE (jm (br 7) (kF hu (br 2) (br 6)))
 (aK (jm (br 6) (kF hu (br 2) (br 7))))))))))
 (aK (bR (aW (eF (mT (k7 w4 hr (k8 (aW (br 2)))) (br 3)))))))))
theorem NF (F:iL V.K "joints" (top 26)) {pO:Tok} (kN:eT V.K bQ "ALONG" = some (some (.int 0 pO))):gT V 1 "joints" ["name","split"] sE :=
 qS ["name","split"] Y F N0 fun hr nd=>have hu:=hr.units; (aE (fe (dq (kH hu) (br 1) (yt rfl (Y.mg kN)) (e7 _)) (aK (bR (aW (gy (mT (eF (mT (eF (Dp (br 0) aJ aJ)) (eF (Dp (br 0) aJ aJ)))) (eF (mT (eF (Dp (br 0) aJ aJ)) (eF (Dp (br 0) aJ aJ))))))))) dh)
 (aK (bR (aW (gy (mT (eF (mT (eF (Dp (br 0) aJ aJ)) (eF (Dp (br 0) aJ aJ)))) (eF (mT (eF (Dp (br 0) aJ aJ)) (eF (Dp (br 0) aJ aJ))))))))))
theorem JG (F:iL V.K "shifted" (top 21)) (gF:gT V 1 "without_noughts" ["sums"] dG):gT V 2 "shifted" ["one","by","factor"] gI :=
 qS ["one","by","factor","sums","power","number"] Y F Kf fun hr nd=>have hu:=hr.units; (aE (kC (i:=3) nd rfl pU)
 (aE (dO bw rfl (o6 (br 0)) (iq rfl (bW (kS (i:=4) nd rfl) (bW (kS (i:=5) nd rfl) gj)) (bX (bX gm))) (aK (jm (cx FF (br 5) (br 2)) (kF hu (br 3) (cx fF (br 4) (br 1))))))
 (aK (bR (aW (k7 gF hr (k8 (aW (br 3)))))))))
theorem GH (F:iL V.K "power_at" (top 27)) {pO:Tok} (kN:eT V.K bQ "ALONG" = some (some (.int 0 pO))):gT V 1 "power_at" ["hand","split"] ot :=
 qS ["hand","split"] Y F Hw fun hr nd=>have hu:=hr.units; (aK (bR (aW (PL (dq (kH hu) (br 1) (yt rfl (Y.mg kN)) (e7 _)) (br 0) (Dk yd (br 0))))))
theorem Q3 (F:iL V.K "added" (top 19)) (no_dict:mV V.K "dict") (gF:gT V 1 "without_noughts" ["sums"] dG):gT V 2 "added" ["one","other"] ky :=
 qS ["one","other","sums","power","number"] Y F RN fun hr nd=>have hu:=hr.units; (aE (kC (i:=2) nd rfl (t8 JZ rfl (Y.no no_dict) Ef (k8 (br 0))))
 (aE (dO bw rfl (o6 (br 1)) (iq rfl (bW (kS (i:=3) nd rfl) (bW (kS (i:=4) nd rfl) gj)) (bX (bX gm))) (aK (jm (cx fF (jy dg gM mE oY Li (br 2) (mT (br 3) aJ)) (br 4)) (kF hu (br 2) (br 3)))))
 (aK (bR (aW (k7 gF hr (k8 (aW (br 2)))))))))
theorem DO (F:iL V.K "opened_at" (top 32)) (no_dict:mV V.K "dict") {wg:Tok} (uk:eT V.K bQ "AGAINST" = some (some (.int 1 wg))) {pO:Tok} (kN:eT V.K bQ "ALONG" = some (some (.int 0 pO))) {nJ:Addr} (sN:eT V.K bQ "LOOP" = some (some (.ref nJ))) (sM:(nJ == df)=false) (sO:Cz V.K nJ [(2,-1),(-2,-1)]=true) (BB:gT V 2 "joined_plan" ["plan","pairs"] ku) (Ru:gT V 1 "joints" ["name","split"] sE) (NM:gT V 2 "shifted" ["one","by","factor"] gI) (J0:gT V 1 "power_at" ["hand","split"] ot) (Ea:gT V 2 "times" ["one","other"] jG) (AI:gT V 3 "raised" ["one","count"] iM) (Uo:gT V 2 "added" ["one","other"] ky):gT V 4 "opened_at" ["sums","name","hand"] mJ :=
 qS ["sums","name","hand","after","plan","poly","split","made","part","kept"] Y F Er fun hr nd=>have hu:=hr.units; (aE (kC (i:=3) nd rfl K8)
 (aE (yq (dO bw rfl (zC (br 0)) (iq rfl (bW (kS (i:=4) nd rfl) (bW (kS (i:=5) nd rfl) gj)) (bX (bX gm))) (aK (dO bw rfl (eX (eF (mT (yt rfl (Y.mg kN)) (yt rfl (Y.mg uk))))) (kS (i:=6) nd rfl) (aE (kC (i:=7) nd rfl (k7 BB hr (mT (br 4) (k7 Ru hr (mT (br 1) (br 6))))))
 (aE (kC (i:=8) nd rfl (k7 NM hr (Dp (aW (k7 Ea hr (mT (aW (br 5)) (aW (k7 AI hr (mT (aW (B0 rfl (Y.no no_dict) rfl (Y.mg sN) sM sO (by decide) (by decide))) (aW (dP hu (br 7) aJ (fun _ _=>rfl))))))))) (aW (k7 J0 hr (mT (br 2) (br 6)))) (aW aJ))))
 (aK (jm (aW (k7 Uo hr (mT (aW (jy dg gM mE KA (FQ hu) (br 3) (mT (aW (dP hu (br 7) aJ (fun _ _=>rfl))) (aW pU)))) (aW (br 8))))) (Fy hu (br 3) (dP hu (br 7) aJ (fun _ _=>rfl)))))))))))
 (aE (kC (i:=9) nd rfl K8)
 (aE (yq (dO bw rfl (zC (br 3)) (iq rfl (bW (kS (i:=4) nd rfl) (bW (kS (i:=5) nd rfl) gj)) (bX (bX gm))) (aK (fe (gY (br 5)) (aK (jm (aW (br 5)) (Fy hu (br 9) (br 4)))) dh))))
 (aK (bR (aW (br 9))))))))
theorem NC (F:iL V.K "opened" (top 33)) (no_dict:mV V.K "dict") (fQ:mV V.K "len") (wJ:mV V.K "zip") {nJ:Addr} (sN:eT V.K bQ "LOOP" = some (some (.ref nJ))) (sM:(nJ == df)=false) (sO:Cz V.K nJ [(2,-1),(-2,-1)]=true) (NP:gT V 2 "hand_of" ["drawing","name"] i8) (D8:gT V 2 "whole_plan" ["drawing"] lB) (AI:gT V 3 "raised" ["one","count"] iM) (Hm:gT V 4 "opened_at" ["sums","name","hand"] mJ):gT V 5 "opened" ["drawing","names"] sD :=
 qS ["drawing","names","hands","loose","sums","name","hand"] Y F NY fun hr nd=>have hu:=hr.units; (aE (rN ["name","drawing"] (sc:=bN (top 33)) (XN:=["drawing","names","hands","loose","sums","name","hand"]) (i:=2) nd rfl rfl (eX (br 1)) (fun _ _ _ _=>(kS (i:=0) (show (["name","drawing"]:List Str).Nodup by decide +kernel) rfl)) (fun _ _ _ _=>.none) (fun _ _ _ _=>(k7 NP hr (mT (br 1) (br 0)))))
 (aE (kC (i:=3) nd rfl (g6 kb rfl (Y.no fQ) rZ (k8 (kG ["row"] (sc:=bN (top 33)) (XN:=["drawing","names","hands","loose","sums","name","hand"]) (eX (br 0)) (fun _ _ _ _=>(kS (i:=0) (show (["row"]:List Str).Nodup by decide +kernel) rfl)) (fun _ _ _ _=>(.some (jS (gY (br 0))))) (fun _ _ _ _=>(br 0))))))
 (aE (kC (i:=4) nd rfl (aW (PM hu (k7 D8 hr (k8 (br 0))) (aW (k7 AI hr (mT (aW (B0 rfl (Y.no no_dict) rfl (Y.mg sN) sM sO (by decide) (by decide))) (aW (br 3))))))))
 (aE (dO bw rfl (K6 rfl (Y.no wJ) (br 1) (br 2)) (iq rfl (bW (kS (i:=5) nd rfl) (bW (kS (i:=6) nd rfl) gj)) (bX (bX gm))) (aK (kC (i:=4) nd rfl (aW (k7 Hm hr (Dp (br 4) (br 5) (br 6)))))))
 (aK (bR (aW (br 4))))))))
theorem GI (F:iL V.K "names_of" (top 9)) (mU:mV V.K "sorted") (oR:gT V 1 "passings_of" ["rows"] gf):gT V 2 "names_of" ["drawing"] ig :=
 qS ["drawing"] Y F xJ fun hr nd=>have hu:=hr.units; (aK (bR (aW (g6 (vO rfl hu) rfl (Y.no mU) CD (k8 (kG ["passing"] (sc:=bN (top 9)) (XN:=["drawing"]) (eX (k7 oR hr (k8 (br 0)))) (fun _ _ _ _=>(kS (i:=0) (show (["passing"]:List Str).Nodup by decide +kernel) rfl)) (fun _ _ _ _=>(.some (dq (kH hu) (dP hu (br 0) aJ (fun _ _=>rfl)) aJ (e7 _)))) (fun _ _ _ _=>(dP hu (br 0) aJ (fun _ _=>rfl)))))))))
theorem JM (F:iL V.K "bracket" (top 34)) (Rt:gT V 5 "opened" ["drawing","names"] sD) (J2:gT V 2 "names_of" ["drawing"] ig):gT V 6 "bracket" ["drawing"] lb :=
 qS ["drawing"] Y F Ki fun hr nd=>have hu:=hr.units; (aK (bR (aW (jy dg gM mE KA (FQ hu) (k7 Rt hr (mT (br 0) (k7 J2 hr (k8 (br 0))))) (mT (aW (eF gB)) (aW pU))))))
theorem GK (F:iL V.K "_law_poly" (top 39)) (no_dict:mV V.K "dict") (cP:mV V.K "isinstance") (oE:gT V 1 "_law_whole" ["_law_found"] cE):gT V 2 "_law_poly" ["_law_found"] ik :=
 qS ["_law_found","_law_at"] Y F Hx fun hr nd=>have hu:=hr.units; (aE (fe (jS (gY (yr "dict" (by decide) rfl (Y.no cP) rfl (Y.no no_dict) Ef (br 0)))) (aK (bR (aW mf))) dh)
 (aE (dO bw rfl (Fx (br 0)) (kS (i:=1) nd rfl) (aK (fe (Ka.pt (wy (jS (gY (k7 oE hr (k8 (br 1))))) (wy (jS (gY (k7 oE hr (k8 (dP hu (br 0) (br 1) (fun _ _=>rfl)))))) (u7 (dq (kH hu) (dP hu (br 0) (br 1) (fun _ _=>rfl)) aJ (e7 _)))))) (aK (bR (aW mf))) dh)))
 (aK (bR (aW mf)))))
theorem W3 {f:Addr} {fd:fx} (F:Sj V.K "law" "law" (top 49) f fd) (fQ:mV V.K "len") (fU:gT V 1 "_law_cell_at" ["_law_script","_law_k"] bL) (BA:gT V 3 "_law_drawing" ["_law_cells","_law_strings","_law_spread"] fy) (qj:gT V 1 "_law_copy" ["_law_rows_here"] eM) (uq:gT V 3 "run_back" ["drawing","string"] j6) (AJ:gT V 2 "_law_rows" ["_law_found","_law_due"] ij) (rY:gT V 2 "_law_way_back" ["_law_rows_here","_law_string"] iG) (qi:gT V 1 "_law_seated" ["_law_row"] ft) (Bz:gT V 2 "_law_refused" ["_law_rows_here","_law_string"] kr) (CC:gT V 6 "bracket" ["drawing"] lb) (J4:gT V 2 "_law_poly" ["_law_found"] ik):tK V.P V.w V.K V.mg V.base Kl 7 f fd ["_law_script"] (Bi V.K K2.BM) :=
 fo2 F O5 Xm fun _ _ _ _ _ _ hr=>have nd:=O5.nd; have hu:=hr.units; have TX:=hr.y0; (aE (kC (i:=1) nd rfl (cx fF aJ (cx iu (k7 fU hr (mT (br 0) aJ)) aJ)))
 (aE (kC (i:=2) nd rfl aJ)
 (aE (fe (dq (vb hu) (cx iu (cx rP (k7 fU hr (mT (br 0) aJ)) aJ) aJ) aJ (e7 _)) (aK (kC (i:=2) nd rfl aJ)) dh)
 (aE (kC (i:=3) nd rfl (cx iu (k7 fU hr (mT (br 0) aJ)) aJ))
 (aE (fe (dq (vb hu) (cx iu (k7 fU hr (mT (br 0) aJ)) aJ) aJ (e7 _)) (aK (kC (i:=3) nd rfl (cx iu (br 3) aJ))) dh)
 (aE (kC (i:=4) nd rfl (gZ (br 0) (iI aJ) (iI (cx fF aJ (br 3)))))
 (aE (kC (i:=5) nd rfl (aW (k7 BA hr (Dp (br 4) (br 1) (br 2)))))
 (aE (kC (i:=6) nd rfl (cx iu (k7 fU hr (mT (br 0) aJ)) (br 1)))
 (aE (kC (i:=7) nd rfl (aW (k7 qj hr (k8 (br 5)))))
 (aE (kC (i:=8) nd rfl (k7 uq hr (mT (aW (br 7)) (aW (br 6)))))
 (aE (fe (Ka.pt (wy (jS (gY (AJ.el fun _ _ q=>sH q.ok (hr.mono (by decide)) rfl q.mg q.kp q.bi (mT (br 8) (k7 rY hr (mT (br 5) (br 6))))))) (u7 (dq (Dq hu) (br 7) (br 5) (e7 _))))) (aK (bR (aW mf))) dh)
 (aE (fe (dq (Dq hu) (k7 uq hr (mT (aW (qj.el fun _ _ q=>sH q.ok (hr.mono (by decide)) rfl q.mg q.kp q.bi (k8 (br 8)))) (aW (br 6)))) (kG ["_law_row"] (sc:=bN (top 49)) (XN:=["_law_script","_law_strings","_law_spread","_law_many","_law_cells","_law_rows_here","_law_string","_law_handed","_law_found","_law_far","_law_none","_law_due","_law_row"]) (eX (br 5)) (fun _ _ _ _=>(kS (i:=0) (show (["_law_row"]:List Str).Nodup by decide +kernel) rfl)) (fun _ _ _ _=>.none) (fun _ _ _ _=>(aW (k7 qi hr (k8 (br 0)))))) (e7 _)) (aK (bR (aW mf))) dh)
 (aE (kC (i:=9) nd rfl (cx iu (cx rP (k7 fU hr (mT (br 0) aJ)) aJ) (cx Tu aJ aJ)))
 (aE (fe (dq (vb hu) (cx iu (cx rP (k7 fU hr (mT (br 0) aJ)) aJ) aJ) aJ (e7 _)) (aK (kC (i:=9) nd rfl aJ)) dh)
 (aE (kC (i:=10) nd rfl (cx fF (br 1) (br 9)))
 (aE (fe (dq (vb hu) (cx iu (k7 fU hr (mT (br 0) aJ)) aJ) aJ (e7 _)) (aK (kC (i:=10) nd rfl (cx Ld (Dk yd aJ) (br 9)))) dh)
 (aE (fe (jS (gY (k7 Bz hr (mT (br 7) (br 10))))) (aK (bR (aW mf))) dh)
 (aE (fe (dq (zF TX) (g6 kb rfl (Y.no fQ) rZ (k8 (br 4))) aJ (e7 _)) (aE (kC (i:=11) nd rfl (k7 CC hr (k8 (aW (br 7)))))
 (aK (fe (Ka.pt (wy (jS (gY (k7 J4 hr (k8 (br 11))))) (u7 (dq (Dq hu) (CC.el fun _ _ q=>sH q.ok (hr.mono (by decide)) rfl q.mg q.kp q.bi (k8 (br 8))) (br 11) (e7 _))))) (aK (bR (aW mf))) dh))) dh)
 (aE (dO bw rfl (eX (br 8)) (kS (i:=12) nd rfl) (aK (nB (jy cG fL fK jF lj (br 12) (k8 (eF (Dp aJ aJ aJ)))))))
 (aK (bR (aW (La (K9 (vb hu) (br 7) (br 5) (e7 _)) (K7 (AJ.el fun _ _ q=>sH q.ok (hr.mono (by decide)) rfl q.mg q.kp q.bi (mT (k7 uq hr (mT (aW (br 7)) (aW (br 6)))) (k7 rY hr (mT (br 5) (br 6)))))))))))))))))))))))))))))
end
theorem all_mk {l:CP} {w:World} {K:ai} {h:Heap} {mg:Str->Option Value} {fa fl:Addr} {dl:fx} (X:K.In h) (G:h.Ns bQ mg) (hfa:mg "law" = some (.ref fa)) (FL:At K "law" (top 49) fl dl) (F0:iL K "_law_cell_at" (top 36)) (F1:iL K "_law_pick" (top 38)) (F2:iL K "_law_digits" (top 43)) (F3:iL K "_law_free" (top 41)) (F4:iL K "_law_copy" (top 40)) (F5:iL K "_law_put" (top 42)) (F6:iL K "_law_drawing" (top 44)) (F7:iL K "crossed_once" (top 13)) (F8:iL K "turned_row" (top 14)) (F9:iL K "seated" (top 7)) (F10:iL K "seated_rows" (top 8)) (F11:iL K "run_back" (top 15)) (F12:iL K "_law_whole" (top 37)) (F13:iL K "_law_rows" (top 46)) (F14:iL K "_law_seated" (top 45)) (F15:iL K "_law_way_back" (top 47)) (F16:iL K "_law_refused" (top 48)) (F17:iL K "passings_of" (top 6)) (F18:iL K "hand_of" (top 10)) (F19:iL K "next_of" (top 11)) (F20:iL K "plan_of" (top 28)) (F21:iL K "far_ends" (top 30)) (F22:iL K "whole_plan" (top 29)) (F23:iL K "without_noughts" (top 18)) (F24:iL K "times" (top 20)) (F25:iL K "raised" (top 22)) (F26:iL K "joined_plan" (top 31)) (F27:iL K "joints" (top 26)) (F28:iL K "shifted" (top 21)) (F29:iL K "power_at" (top 27)) (F30:iL K "added" (top 19)) (F31:iL K "opened_at" (top 32)) (F32:iL K "opened" (top 33)) (F33:iL K "names_of" (top 9)) (F34:iL K "bracket" (top 34)) (F35:iL K "_law_poly" (top 39)) {fi:Addr} (eW:Vz K "NoString" fi) {fh:Addr} (k9:Vz K "TooMany" fh) {dN:Addr} (i4:Vz K "KnotError" dN) (i9:subIn K fi (.ref fi)=true) (uc:autoParam (Kn0 K fh) VE._auto_1) (qc:autoParam (Kn0 K dN) VE._auto_1) (jz:autoParam (Kt K fi fh false) VE._auto_1) (jZ:autoParam (Kt K fh fh true) VE._auto_1) (jd:autoParam (Kt K dN fh false) VE._auto_1) (iR:autoParam (Kt K fi dN true) VE._auto_1) (jc:autoParam (Kt K fh dN true) VE._auto_1) (iA:autoParam (Kt K dN dN true) VE._auto_1) {pO:Tok} (kN:autoParam (eT K bQ "ALONG" = some (some (.int 0 pO))) Aq._auto_1) {wg:Tok} (uk:autoParam (eT K bQ "AGAINST" = some (some (.int 1 wg))) Aq._auto_1) {nJ:Addr} (sN:autoParam (eT K bQ "LOOP" = some (some (.ref nJ))) Aq._auto_1) (sM:autoParam ((nJ == df)=false) Ae._auto_1) (sO:autoParam (Cz K nJ [(2,-1),(-2,-1)]=true) Af._auto_1) (fQ:autoParam (mV K "len") N9._auto_1) (pX:autoParam (mV K "enumerate") N9._auto_1) (jT:autoParam (mV K "list") N9._auto_1) (g7:autoParam (mV K "range") N9._auto_1) (Je:autoParam (mV K "min") N9._auto_1) (j9:autoParam (mV K "reversed") N9._auto_1) (Dv:autoParam (mV K "bool") N9._auto_1) (Jf:autoParam (mV K "int") N9._auto_1) (cP:autoParam (mV K "isinstance") N9._auto_1) (wJ:autoParam (mV K "zip") N9._auto_1) (mU:autoParam (mV K "sorted") N9._auto_1) (zK:autoParam (mV K "tuple") N9._auto_1) (no_dict:autoParam (mV K "dict") N9._auto_1) :
  ∃ fd:fx,(∀ (s:ax) (v:Value),BindsTo s fd ⟨[v],[]⟩ [("_law_script",v)])/\∀ base:Heap,K.In base->base.Ns bQ mg->tK l.prog w K mg base Kl 7 fa fd ["_law_script"] (Bi K K2.BM):=by
 have e:=hfa.symm.trans (PySem.W.mg_of X G FL.a);cases e;obtain⟨Fa,Fl⟩:=FL;obtain⟨oc,od,kV,doc,pm,an,kT,ct,Lc,rfl,lk,HX⟩:=Fl.ex;refine⟨kP "law" "law" (kL (top 49)) (gC (top 49)) (bN (top 49)) .none kV doc pm an kT ct,fun s v=>.of_eq rfl,fun base _ _=>?_⟩;have Y:UG ⟨l.prog,w,K,mg,base⟩:=⟨X,G⟩;have c0:=As Y F0 fQ;have c1:=GL Y F1;have c2:=Bu Y F2 pX c1;have c3:=GN Y F3;have c4:=GP Y F4 jT;have c5:=JK Y F5 fQ c4;have c6:=Ap Y F6 g7 c2 c3 c5;have c7:=xW Y F7;have c8:=Bs Y F8;have c9:=NA Y F9 Je;have c10:=Aj Y F10 c9;have c11:=GG Y F11 fQ jT j9 c7 c8 c10;have Zx:=DP Y F12 Dv Jf cP;have c13:=GJ Y F13 cP jT Zx;have c14:=Bt Y F14 fQ g7;have c15:=xV Y F15 fQ jT g7 j9 c14;have c16:=DN Y F11 fQ eW;have c17:=An Y F16 cP eW k9 i4 i9 uc qc jz jZ jd iR jc iA c16;have c18:=Am Y F17;have c19:=JL Y F18 c18;have c20:=JJ Y F19 wJ;have c21:=JI Y F20 mU zK;have c22:=GQ Y F21;have c23:=Bq Y F22 c20 c21 c22;have c24:=ug Y F23;have c25:=Q0 Y F24 c24;have c26:=NB Y F25 g7 c25;have c27:=Au Y F26 c22 c21;have c28:=NF Y F27 kN;have c29:=JG Y F28 c24;have c30:=GH Y F29 kN;have c31:=Q3 Y F30 no_dict c24;have c32:=DO Y F31 no_dict uk kN sN sM sO c27 c28 c29 c30 c25 c26 c31;have c33:=NC Y F32 no_dict fQ wJ sN sM sO c19 c23 c26 c32;have c34:=GI Y F33 mU c18;have c35:=JM Y F34 c33 c34;have c36:=GK Y F35 no_dict cP Zx;exact W3 Y Fl fQ c0 c6 c4 c11 c13 c15 c14 c17 c35 c36
section
open PySem.W PySem.Calls
def hC (n:Str) (t:Nat) (l:List Value):Obj:=⟨.type "code",none,.fields (.str n t :: .str n (t+1) :: .str "/claim/cut.py" (t+2) :: l).toArray,#[]⟩
def hI(n:Int):Value:=.int n 0
def hR(n:Nat):Value:=.ref n
def hN:Value:=.none
def hT:Value:=.bool true
def hS (n:Nat):Value:=.str "/claim/cut.py" n
def hD(n:Str)(t:Nat)(l a:Int)(r:Nat)(x y z:Value)(u:Nat):Obj:=hC n t [hI l,hI a,hI 0,hI 0,hI 3,hR r,hT,hI 181,hR (r+1),hN,x,y,z,hI (u - 1),hI l,hS u]
abbrev hF (i:Nat) (n:Str) (m c:Value):Obj:=⟨.type "function",none,.func (kP n n (kL (top i)) (gC (top i)) (bN (top i)) .none .none .none m none c .none),#[]⟩
abbrev hE(P:Params)(s:Str)(t:Nat)(v:Value):fI:=⟨PyData.keyHash P s,.str s t,v⟩
def hQ:bI:=PySem.W.view PySem.Challenge.pw_knotwise_k62_whole_run_back [1,2,3,4,6,7,8,9,10,11,13,14,15,17,18,19,20,21,22,24,25,26,27,28,29,30,31,32,33,34,36,37,38,39,40,41,42,43,44,45,46,47,48,49]
def hK(P:Params):ai:=(nat_lit 2,⟨.none,none,(.dict #[] 0),#[]⟩) ::
(nat_lit 3,⟨(.type "dict"),none,(.dict #[hE P "__name__" 165 (.str "law_knotwise_k62_whole_run_back" 482),hE P "__doc__" 166 .none,hE P "__package__" 167 .none,hE P "__loader__" 168 (.builtin "__main__.__loader__#opaque"),hE P "__spec__" 169 .none,hE P "__annotations__" 170 (.ref 6),hE P "__builtins__" 171 (.ref 4),hE P "__file__" 173 (.str "/claim/cut.py" 172),hE P "__cached__" 174 .none,hE P "KnotError" 206 (.ref 24),hE P "NoName" 222 (.ref 37),hE P "TooMany" 238 (.ref 49),hE P "NoString" 254 (.ref 61),hE P "passings_of" 265 (.ref 70),hE P "seated" 273 (.ref 77),hE P "seated_rows" 279 (.ref 82),hE P "names_of" 285 (.ref 87),hE P "hand_of" 294 (.ref 94),hE P "next_of" 305 (.ref 101),hE P "crossed_once" 313 (.ref 106),hE P "turned_row" 319 (.ref 111),hE P "run_back" 325 (.ref 116),hE P "LOOP" 337 (.ref 117),hE P "without_noughts" 347 (.ref 124),hE P "added" 358 (.ref 131),hE P "times" 372 (.ref 138),hE P "shifted" 384 (.ref 145),hE P "raised" 394 (.ref 152),hE P "ALONG" 398 (.int 0 397),hE P "AGAINST" 400 (.int 1 399),hE P "joints" 408 (.ref 159),hE P "power_at" 416 (.ref 166),hE P "plan_of" 422 (.ref 171),hE P "whole_plan" 428 (.ref 176),hE P "far_ends" 438 (.ref 183),hE P "joined_plan" 452 (.ref 190),hE P "opened_at" 468 (.ref 197),hE P "opened" 474 (.ref 202),hE P "bracket" 481 (.ref 209),hE P "_law_cell_at" 491 (.ref 216),hE P "_law_whole" 498 (.ref 223),hE P "_law_pick" 507 (.ref 230),hE P "_law_poly" 515 (.ref 237),hE P "_law_copy" 521 (.ref 242),hE P "_law_free" 529 (.ref 249),hE P "_law_put" 540 (.ref 256),hE P "_law_digits" 553 (.ref 263),hE P "_law_drawing" 559 (.ref 268),hE P "_law_seated" 568 (.ref 275),hE P "_law_rows" 579 (.ref 282),hE P "_law_way_back" 585 (.ref 287),hE P "_law_refused" 595 (.ref 294),hE P "law" 601 (.ref 299)] 53),#[]⟩) ::
(nat_lit 15,⟨(.type "tuple"),none,(.seq #[(.type "ValueError")] 0),#[]⟩) ::
(nat_lit 22,⟨(.type "tuple"),none,(.seq #[] 0),#[]⟩) ::
(nat_lit 23,⟨(.type "dict"),none,(.dict #[hE P "__module__" 196 (.str "knotwise.errors" 187),hE P "__firstlineno__" 200 (.int 2 199),hE P "__static_attributes__" 201 (.ref 22),hE P "__weakref__" 203 (.ref 25),hE P "__doc__" 204 .none] 3),#[]⟩) ::
(nat_lit 24,⟨(.type "type"),none,(.cls ⟨"KnotError",[(.type "ValueError")],[(.ref 24),(.type "ValueError"),(.type "Exception"),(.type "BaseException"),(.type "object")],23,"KnotError",.true,[],[(.ref 37),(.ref 49),(.ref 61)],.false,none,.false⟩),#[(some (.ref 15)),none,(some (.str "KnotError" 189)),(some (.str "KnotError" 197)),(some (.builtin "ValueError.__new__")),(some (.bool .true))]⟩) ::
(nat_lit 25,⟨(.type "getset_descriptor"),none,(.fields #[(.str "__weakref__" 202),(.ref 24),(.builtin "ExceptionGroup.__weakref__"),.none]),#[]⟩) ::
(nat_lit 28,⟨(.type "tuple"),none,(.seq #[(.ref 24)] 0),#[]⟩) ::
(nat_lit 35,⟨(.type "tuple"),none,(.seq #[] 0),#[]⟩) ::
(nat_lit 36,⟨(.type "dict"),none,(.dict #[hE P "__module__" 214 (.str "knotwise.errors" 187),hE P "__firstlineno__" 218 (.int 4 217),hE P "__static_attributes__" 219 (.ref 35),hE P "__doc__" 220 .none] 2),#[]⟩) ::
(nat_lit 37,⟨(.type "type"),none,(.cls ⟨"NoName",[(.ref 24)],[(.ref 37),(.ref 24),(.type "ValueError"),(.type "Exception"),(.type "BaseException"),(.type "object")],36,"NoName",.true,[],[],.false,none,.false⟩),#[(some (.ref 28)),none,(some (.str "NoName" 207)),(some (.str "NoName" 215)),(some (.builtin "ValueError.__new__")),(some (.bool .true))]⟩) ::
(nat_lit 40,⟨(.type "tuple"),none,(.seq #[(.ref 24)] 0),#[]⟩) ::
(nat_lit 47,⟨(.type "tuple"),none,(.seq #[] 0),#[]⟩) ::
(nat_lit 48,⟨(.type "dict"),none,(.dict #[hE P "__module__" 230 (.str "knotwise.errors" 187),hE P "__firstlineno__" 234 (.int 6 233),hE P "__static_attributes__" 235 (.ref 47),hE P "__doc__" 236 .none] 2),#[]⟩) ::
(nat_lit 49,⟨(.type "type"),none,(.cls ⟨"TooMany",[(.ref 24)],[(.ref 49),(.ref 24),(.type "ValueError"),(.type "Exception"),(.type "BaseException"),(.type "object")],48,"TooMany",.true,[],[],.false,none,.false⟩),#[(some (.ref 40)),none,(some (.str "TooMany" 223)),(some (.str "TooMany" 231)),(some (.builtin "ValueError.__new__")),(some (.bool .true))]⟩) ::
(nat_lit 52,⟨(.type "tuple"),none,(.seq #[(.ref 24)] 0),#[]⟩) ::
(nat_lit 59,⟨(.type "tuple"),none,(.seq #[] 0),#[]⟩) ::
(nat_lit 60,⟨(.type "dict"),none,(.dict #[hE P "__module__" 246 (.str "knotwise.errors" 187),hE P "__firstlineno__" 250 (.int 8 249),hE P "__static_attributes__" 251 (.ref 59),hE P "__doc__" 252 .none] 2),#[]⟩) ::
(nat_lit 61,⟨(.type "type"),none,(.cls ⟨"NoString",[(.ref 24)],[(.ref 61),(.ref 24),(.type "ValueError"),(.type "Exception"),(.type "BaseException"),(.type "object")],60,"NoString",.true,[],[],.false,none,.false⟩),#[(some (.ref 52)),none,(some (.str "NoString" 239)),(some (.str "NoString" 247)),(some (.builtin "ValueError.__new__")),(some (.bool .true))]⟩) ::
(nat_lit 69,hD "passings_of" 257 11 1 64 (hR 66) (hR 67) (hR 68) 264) ::
(nat_lit 70,hF 6 "passings_of" (.str "knotwise.drawings" 255) (.ref 69)) ::
(nat_lit 76,hD "seated" 266 16 1 71 (hR 73) (hR 74) (hR 75) 272) ::
(nat_lit 77,hF 7 "seated" (.str "knotwise.drawings" 255) (.ref 76)) ::
(nat_lit 81,hD "seated_rows" 274 21 1 78 hN hN (hR 80) 278) ::
(nat_lit 82,hF 8 "seated_rows" (.str "knotwise.drawings" 255) (.ref 81)) ::
(nat_lit 86,hD "names_of" 280 23 1 83 hN hN (hR 85) 284) ::
(nat_lit 87,hF 9 "names_of" (.str "knotwise.drawings" 255) (.ref 86)) ::
(nat_lit 93,hD "hand_of" 286 25 2 88 (hR 90) (hR 91) (hR 92) 293) ::
(nat_lit 94,hF 10 "hand_of" (.str "knotwise.drawings" 255) (.ref 93)) ::
(nat_lit 100,hD "next_of" 295 30 1 95 (hR 97) (hR 98) (hR 99) 304) ::
(nat_lit 101,hF 11 "next_of" (.str "knotwise.drawings" 255) (.ref 100)) ::
(nat_lit 105,hD "crossed_once" 308 37 1 102 hN hN (hR 104) 312) ::
(nat_lit 106,hF 13 "crossed_once" (.str "knotwise.makings" 306) (.ref 105)) ::
(nat_lit 110,hD "turned_row" 314 40 2 107 hN hN (hR 109) 318) ::
(nat_lit 111,hF 14 "turned_row" (.str "knotwise.makings" 306) (.ref 110)) ::
(nat_lit 115,hD "run_back" 320 42 2 112 hN hN (hR 114) 324) ::
(nat_lit 116,hF 15 "run_back" (.str "knotwise.makings" 306) (.ref 115)) ::
(nat_lit 117,⟨(.type "dict"),none,(.dict #[⟨2,(.int 2 328),(.int (-1) 330)⟩,⟨(-2),(.int (-2) 332),(.int (-1) 334)⟩] 2),#[]⟩) ::
(nat_lit 123,hD "without_noughts" 338 51 1 118 (hR 120) (hR 121) (hR 122) 346) ::
(nat_lit 124,hF 18 "without_noughts" (.str "knotwise.polys" 326) (.ref 123)) ::
(nat_lit 130,hD "added" 348 57 2 125 (hR 127) (hR 128) (hR 129) 357) ::
(nat_lit 131,hF 19 "added" (.str "knotwise.polys" 326) (.ref 130)) ::
(nat_lit 137,hD "times" 359 62 2 132 (hR 134) (hR 135) (hR 136) 371) ::
(nat_lit 138,hF 20 "times" (.str "knotwise.polys" 326) (.ref 137)) ::
(nat_lit 144,hD "shifted" 373 69 3 139 (hR 141) (hR 142) (hR 143) 383) ::
(nat_lit 145,hF 21 "shifted" (.str "knotwise.polys" 326) (.ref 144)) ::
(nat_lit 151,hD "raised" 385 74 2 146 (hR 148) (hR 149) (hR 150) 393) ::
(nat_lit 152,hF 22 "raised" (.str "knotwise.polys" 326) (.ref 151)) ::
(nat_lit 158,hD "joints" 401 82 2 153 (hR 155) (hR 156) (hR 157) 407) ::
(nat_lit 159,hF 26 "joints" (.str "knotwise.brackets" 395) (.ref 158)) ::
(nat_lit 165,hD "power_at" 409 86 2 160 (hR 162) (hR 163) (hR 164) 415) ::
(nat_lit 166,hF 27 "power_at" (.str "knotwise.brackets" 395) (.ref 165)) ::
(nat_lit 170,hD "plan_of" 417 88 1 167 hN hN (hR 169) 421) ::
(nat_lit 171,hF 28 "plan_of" (.str "knotwise.brackets" 395) (.ref 170)) ::
(nat_lit 175,hD "whole_plan" 423 90 1 172 hN hN (hR 174) 427) ::
(nat_lit 176,hF 29 "whole_plan" (.str "knotwise.brackets" 395) (.ref 175)) ::
(nat_lit 182,hD "far_ends" 429 93 1 177 (hR 179) (hR 180) (hR 181) 437) ::
(nat_lit 183,hF 30 "far_ends" (.str "knotwise.brackets" 395) (.ref 182)) ::
(nat_lit 189,hD "joined_plan" 439 99 2 184 (hR 186) (hR 187) (hR 188) 451) ::
(nat_lit 190,hF 31 "joined_plan" (.str "knotwise.brackets" 395) (.ref 189)) ::
(nat_lit 196,hD "opened_at" 453 111 3 191 (hR 193) (hR 194) (hR 195) 467) ::
(nat_lit 197,hF 32 "opened_at" (.str "knotwise.brackets" 395) (.ref 196)) ::
(nat_lit 201,hD "opened" 469 123 2 198 hN hN (hR 200) 473) ::
(nat_lit 202,hF 33 "opened" (.str "knotwise.brackets" 395) (.ref 201)) ::
(nat_lit 208,hD "bracket" 475 130 1 203 (hR 205) (hR 206) (hR 207) 480) ::
(nat_lit 209,hF 34 "bracket" (.str "knotwise.brackets" 395) (.ref 208)) ::
(nat_lit 215,hD "_law_cell_at" 484 133 2 210 (hR 212) (hR 213) (hR 214) 490) ::
(nat_lit 216,hF 36 "_law_cell_at" (.str "law_knotwise_k62_whole_run_back" 482) (.ref 215)) ::
(nat_lit 222,hD "_law_whole" 492 137 1 217 (hR 219) (hR 220) (hR 221) 497) ::
(nat_lit 223,hF 37 "_law_whole" (.str "law_knotwise_k62_whole_run_back" 482) (.ref 222)) ::
(nat_lit 229,hD "_law_pick" 499 139 3 224 (hR 226) (hR 227) (hR 228) 506) ::
(nat_lit 230,hF 38 "_law_pick" (.str "law_knotwise_k62_whole_run_back" 482) (.ref 229)) ::
(nat_lit 236,hD "_law_poly" 508 141 1 231 (hR 233) (hR 234) (hR 235) 514) ::
(nat_lit 237,hF 39 "_law_poly" (.str "law_knotwise_k62_whole_run_back" 482) (.ref 236)) ::
(nat_lit 241,hD "_law_copy" 516 148 1 238 hN hN (hR 240) 520) ::
(nat_lit 242,hF 40 "_law_copy" (.str "law_knotwise_k62_whole_run_back" 482) (.ref 241)) ::
(nat_lit 248,hD "_law_free" 522 150 2 243 (hR 245) (hR 246) (hR 247) 528) ::
(nat_lit 249,hF 41 "_law_free" (.str "law_knotwise_k62_whole_run_back" 482) (.ref 248)) ::
(nat_lit 255,hD "_law_put" 530 154 4 250 (hR 252) (hR 253) (hR 254) 539) ::
(nat_lit 256,hF 42 "_law_put" (.str "law_knotwise_k62_whole_run_back" 482) (.ref 255)) ::
(nat_lit 262,hD "_law_digits" 541 159 2 257 (hR 259) (hR 260) (hR 261) 552) ::
(nat_lit 263,hF 43 "_law_digits" (.str "law_knotwise_k62_whole_run_back" 482) (.ref 262)) ::
(nat_lit 267,hD "_law_drawing" 554 170 3 264 hN hN (hR 266) 558) ::
(nat_lit 268,hF 44 "_law_drawing" (.str "law_knotwise_k62_whole_run_back" 482) (.ref 267)) ::
(nat_lit 274,hD "_law_seated" 560 180 1 269 (hR 271) (hR 272) (hR 273) 567) ::
(nat_lit 275,hF 45 "_law_seated" (.str "law_knotwise_k62_whole_run_back" 482) (.ref 274)) ::
(nat_lit 281,hD "_law_rows" 569 188 2 276 (hR 278) (hR 279) (hR 280) 578) ::
(nat_lit 282,hF 46 "_law_rows" (.str "law_knotwise_k62_whole_run_back" 482) (.ref 281)) ::
(nat_lit 286,hD "_law_way_back" 580 197 2 283 hN hN (hR 285) 584) ::
(nat_lit 287,hF 47 "_law_way_back" (.str "law_knotwise_k62_whole_run_back" 482) (.ref 286)) ::
(nat_lit 293,hD "_law_refused" 586 210 2 288 (hR 290) (hR 291) (hR 292) 594) ::
(nat_lit 294,hF 48 "_law_refused" (.str "law_knotwise_k62_whole_run_back" 482) (.ref 293)) ::
(nat_lit 298,hD "law" 596 217 1 295 hN hN (hR 297) 600) ::
(nat_lit 299,hF 49 "law" (.str "law_knotwise_k62_whole_run_back" 482) (.ref 298)) :: []
def hA:List Addr:=[2,3,15,22,23,24,25,28,35,36,37,40,47,48,49,52,59,60,61,69,70,76,77,81,82,86,87,93,94,100,101,105,106,110,111,115,116,117,123,124,130,131,137,138,144,145,151,152,158,159,165,166,170,171,175,176,182,183,189,190,196,197,201,202,208,209,215,216,222,223,229,230,236,237,241,242,248,249,255,256,262,263,267,268,274,275,281,282,286,287,293,294,298,299]
def hL:List Str:=["LOOP"]
abbrev QT(w:World):Prop:=∀ os:OsState,(topFrom treeTable (PySem.Challenge.rw_knotwise_k62_whole_run_back).row.prog w 4248 ⟨OG w.params,Ms [],Ij,OF,os⟩).map (fun s=>(openSeen hQ hL (yQ (PySem.Challenge.rw_knotwise_k62_whole_run_back).row.prog.main.body) (VH PySem.Challenge.rw_knotwise_k62_whole_run_back hQ) true s,hA.map s.heap.get?))=some (openGood hQ hL,(hK w.params).map fun p=>some p.2)
theorem h_f (w:World):QT (w.withFollow "special-get-raises" false):=fun os=>by kernel_rfl
theorem h_t (w:World):QT (w.withFollow "special-get-raises" true):=fun os=>by kernel_rfl
theorem WY (w:World) (os:OsState):(topFrom treeTable (PySem.Challenge.rw_knotwise_k62_whole_run_back).row.prog w 4248 ⟨OG w.params,Ms [],Ij,OF,os⟩).map (fun s=>(openSeen hQ hL (yQ (PySem.Challenge.rw_knotwise_k62_whole_run_back).row.prog.main.body) (VH PySem.Challenge.rw_knotwise_k62_whole_run_back hQ) true s,hA.map s.heap.get?))=some (openGood hQ hL,(hK w.params).map fun p=>some p.2):=(byRow2 "special-get-raises" (P:=fun w=>QT w) h_f h_t) w os
theorem WX:(PySem.Challenge.rw_knotwise_k62_whole_run_back).wellSaid=true:=by kernel_rfl
theorem WW:KD PySem.Challenge.rw_knotwise_k62_whole_run_back hQ=true:=by kernel_rfl
end
end Fin
end Internal
open Internal
open PySem PySem.W PyProof.Rows
set_option maxRecDepth 100000 in
set_option maxHeartbeats 0 in
theorem PySem.Challenge.cw_knotwise_k62_whole_run_back_holds : PySem.Challenge.rw_knotwise_k62_whole_run_back.Holds := by
 w_on
 refine K2.Nw (q:=Fin.hQ) (K:=Fin.hK) (as:=Fin.hA) (N:=4248) Fin.WX (by kernel_rfl) (by kernel_rfl) (fun _=>by kernel_rfl) (fun _=>by kernel_rfl) Fin.WY (by rfl) (by rfl) (by rfl) (by rfl) Fin.WW ⟨rfl,rfl,rfl,rfl,rfl,by decide +kernel⟩ ?hw ?hc
 (case hw=>w_witness2)
 k_fill
 refine K2.Qd (l:=PySem.Challenge.rw_knotwise_k62_whole_run_back) (k:=7) (x:="_law_script") rfl rfl ⟨rfl,by decide,by decide⟩ (fun w h Y=>Y) ?F
 case F =>
  intro w mg fa h KX G Y1;exact Fin.all_mk KX G Y1 K2.Vy K2.fj K2.fj K2.fj K2.fj K2.fj K2.fj K2.fj K2.fj K2.fj K2.fj K2.fj K2.fj K2.fj K2.fj K2.fj K2.fj K2.fj K2.fj K2.fj K2.fj K2.fj K2.fj K2.fj K2.fj K2.fj K2.fj K2.fj K2.fj K2.fj K2.fj K2.fj K2.fj K2.fj K2.fj K2.fj K2.fj K2.IA K2.IA K2.IA K2.X8
