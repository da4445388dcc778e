import PyProof.Rows.All
import Wide.All
import OpenK.AllK
import Wide.FinOn
import Lean
import PyProof.EqAt
import PyProof.EqKinds
import PyProof.TupleCall
import PySem.Challenge.RW_knotwise_k46_lays_keep
open Array renaming length_toList -> eN, forIn_toList -> wQ, getElem?_eq_getElem -> EY, getD -> Hk, mk -> Jg, getElem?_eq_none -> KZ
open Array.Perm renaming refl -> lQ
open Bool renaming false_eq_true -> aq, and_eq_true -> aH, noConfusion -> bz, not_true -> bV, not_false -> eC, false_ne_true -> iF, and_eq_true_iff -> mF, or_eq_true -> nF, false_and -> Hi, and_false -> Hj, false_or -> KY, beq_eq_decide_eq -> OE
open Classical renaming byContradiction -> fW
open False renaming elim -> bP
open ForInStep renaming yield -> qN
open Function renaming comp_def -> OD
open Int renaming toNat_natCast -> eV, emod_lt_of_pos -> iJ, emod_nonneg -> kB, add_zero -> lT, natCast_nonneg -> oX, mul_add -> rB, zero_add -> uG, mul_assoc -> Lr
open List renaming getElem?_cons_zero -> aa, getElem?_cons_succ -> ae, length_cons -> aj, map_cons -> ak, set_cons_zero -> ao, set_cons_succ -> ar, getElem?_eq_getElem -> au, cons_append -> az, length_append -> aB, length_map -> aC, length_nil -> aE, mem_cons_of_mem -> aL, nodup_cons -> aO, mem_cons -> aQ, nil_append -> aT, size_toArray -> aX, map_append -> a9, replicate -> bc, map_nil -> bq, map_map -> br, getElem?_map -> bA, filter_cons -> bD, mem_map_of_mem -> bI, append_assoc -> bK, getElem?_set_self -> bW, mem_cons_self -> cb, find?_cons_of_pos -> cj, find?_cons_of_neg -> ck, getElem?_append_right -> cm, length_drop -> cx, length_set -> cy, append_nil -> cz, nodup_nil -> cE, not_mem_nil -> cI, foldl_cons -> cM, getElem?_append_left -> cO, mem_of_getElem? -> cS, mem_singleton -> cT, perm_append_comm -> cX, mem_append_right -> cY, map_congr_left -> cZ, length_take -> c7, length_singleton -> du, length_filter_le -> dw, getD_eq_getElem?_getD -> dI, getElem?_set_ne -> dM, filter_append -> dN, find?_cons -> dQ, length -> dU, nodup_append -> eP, flatten_cons -> eQ, flatMap_cons -> eS, length_replicate -> eY, getElem_mem -> fh, find?_eq_none -> gk, drop_eq_getElem_cons -> gw, sum_cons -> g6, all_eq_true -> hW, range -> ib, mem_of_find?_eq_some -> jB, filter_sublist -> jE, length_zip -> ku, getElem?_replicate -> ky, any_cons -> kz, drop_eq_nil_of_le -> kL, map_id -> kW, foldl_append -> kX, all_map -> lP, getElem_map -> lZ, mem_append_left -> mC, getElem?_of_mem -> mD, flatten_append -> nE, zip_cons_cons -> oO, getElem_range -> oP, mem_or_eq_of_mem_set -> oW, filter_cons_of_neg -> qY, getElem_zip -> rz, take_of_length_le -> sk, take_append_drop -> uq, getElem?_eq_none -> ur, find?_some -> uu, filter_nil -> uv, filterMap_cons -> vV, take_nil -> yM, drop_nil -> yN, all_cons -> yO, pairwise_map -> zu, length_range -> zv, set_nil -> AK, lookup_cons -> B3, drop_append_of_le_length -> B4, of_mem_zip -> Ew, mem_append -> Ey, length_erase_of_mem -> Jf, filter_cons_of_pos -> KS, eraseIdx_cons_zero -> KU, eraseIdx_cons_succ -> KW, length_pos_of_mem -> Lp, set_getElem_self -> OC, mem_erase_of_ne -> OS
open List.Perm renaming swap -> iZ, cons -> AM, append_right -> Ez, trans -> OT
open List.Sublist renaming map -> kA, nodup -> lS
open Nat renaming le_refl -> aF, le_trans -> bu, ne_of_lt -> bL, lt_of_lt_of_le -> bO, zero_le -> cB, lt_of_le_of_lt -> gm, lt_irrefl -> jc, add_assoc -> jd, pow_le_pow_right -> jk, mul_le_mul_right -> jl, add_zero -> oV, add_sub_cancel_left -> rq, succ_le_succ -> sg, le_add_right -> si, le_of_succ_le_succ -> sC, not_lt_zero -> uE, zero_add -> B2, lt_succ_self -> Ci, lt_of_succ_lt_succ -> OB, pow_succ -> OQ, le_of_lt -> OR
open Ne renaming symm -> fT
open Option renaming getD_some -> qM, map_some -> sf, isSome_map -> yL, getD_none -> zt
open Option.some renaming inj -> aY, injEq -> uD
open PyProof.Rows renaming callWith_type1 -> fg, IntsAre -> nN, slot_tuple_getitem -> uo, callWith_builtin1 -> uC, seqObj -> wH, preSum_getD -> yU, AllBare -> AN, envOfC -> Cf
open PySem renaming wpAny_bind -> ag, Shared -> aw, wpAny_pure -> aA, FuncData -> aI, sizeLine -> aZ, Program -> bJ, mainGlobals -> bS, wpAny_loadPart' -> cc, starEach -> cC, sizeLine_eq -> cQ, wpAny_call_entry -> cU, sysModules -> cV, wpAny_newObj_type -> dh, Around -> dj, bootBuiltins -> eB, wpAny_holding -> eL, compareOp -> eW, DictEntry -> eX, wpAny_dictEntries -> fU, ReadsAll -> gI, mem_of_lookup -> gZ, tupleKind -> g7, wpAny_typeNameOfWhole_itemiter -> iq, wpAny_callSpecial?_slot -> iw, binaryOp -> iA, wpAny_typeNameOfWhole_keyiter -> iK, wpAny_passesOwn -> ji, Paired -> jC, wpAny_typeNameOf_itemiter -> j8, wpAny_forIn_list -> kq, wpAny_typeNameOf_keyiter -> kE, wpAny_setField_rec -> la, wpAny_dictEpoch -> lb, wpAny_Call_Name_kw -> lg, tupleKind_room_in1 -> lh, wpAny_isOneOf_itemiter -> lY, wpAny_pyIter_slot -> my, foldedSetIterable -> mz, valueAt -> mB, IsItemIter -> mE, wpAny_fieldsOf -> mP, wpAny_isInstance -> nJ, backTo -> oy, attributeBase -> oM, wpAny_field -> oY, sliceBounds -> oZ, NameKind -> qX, wpAny_truthy_bool -> sx, wpAny_Call_method0_late -> uz, richCompare_meets_room -> vP, evalArgs_none -> vQ, wpAny_specialOf -> wD, wpAny_notOrdered_dict -> wF, wpAny_execs_nil -> wG, letOwnedTupleGo -> wJ, isSubtype_tuple_tuple -> wL, importedModules -> wM, call_meetsIn -> wN, assignEach -> yJ, firstArgMember -> zr, wpAny_tupleItemsOf -> Ca, wpAny_standAt -> Cb, wpAny_attempt -> Cc, rawInt -> Cd, pyNext -> Ce, HeapKind -> Cj, wpAny_truthy_dict -> EJ, storedH -> EK, relabel -> EL, intKind -> EM, codeAny -> EN, callerA -> EO, wpAny_callSpecialIfBound?_slot -> GZ, assign -> G5, call -> Ha, wpAny_letOwnedTupleGo_items -> Lf, valueAt -> Lg, swapsWith -> Lh, pyIter -> Li, holding -> Ll, eqIsQuiet -> Lm, Keyword -> Lq, BindsTo -> Lu, wpAny_setField -> OO
open PySem.Around renaming under_plainId -> Lv
open PySem.AutoSeq1 renaming sub_tuple_tuple -> oB, sub_list_list -> EX
open PySem.Builtin.Dict renaming showsAll -> jW, takeOut -> Co
open PySem.Builtin.Dict_items renaming ownsTuple -> eM, ownedTupleIsFree -> hX, ownedTupleFields -> oA, pairFromOwner -> pe
open PySem.Builtin.Int renaming intBits -> EW
open PySem.Builtin.List renaming listTooLong -> i0
open PySem.Builtin.Slice renaming slicePlaces -> iE, sliceAdjust -> lU, sliceApplied -> vX
open PySem.Builtin.Tuple renaming tupleHashOf -> dG, tupleExact -> iT, tupleCompareSizes -> sD, tupleItemsOf -> vW
open PySem.Calls renaming callWith_builtin -> kG, spliced_cons -> oz, spliced_nil -> yV, Name_function_global -> EC
open PySem.F renaming plainAttrs_dict -> cW, slot_dict_items -> fk, slot_dict_get -> fV, slot_dict_itemiterator_next -> iC, slot_dict_itemiterator_iter -> iD, slot_dict_keyiterator_next -> iS, type_dict_get -> kJ, slot_tuple_lt -> kK, args_dict_items_1 -> nM, entry_dict_items -> oN, type_dict_items -> o8, plainAttrs_list -> o9, args_tuple_lt_2 -> pb, entry_tuple_lt -> qL, slot_dict_pop -> rn, slot_list_lt -> sA, args_dict_itemiterator_next_1 -> Ck, args_dict_itemiterator_iter_1 -> Cm, type_list_append -> Es, slot_list_append -> Et, args_tuple_add_2 -> Eu, entry_dict_itemiterator_next -> EA, args_dict_keyiterator_next_1 -> EB, entry_tuple_add -> ET, args_dict_get_3 -> EU, entry_dict_keyiterator_next -> EV, slot_tuple_add -> Hd, entry_dict_get -> He, args_list_lt_2 -> Hf, slot_dict_keyiterator_iter -> Hh, type_dict_pop -> Jd, entry_list_lt -> Je
open PySem.Heap renaming get?_push_of_some -> aK, lt_size -> aW, get?_push_size -> bt, SameBut -> eZ, get?_update_self -> uw, size_update -> B5, size_push -> Hg, get?_update_other -> Ls, get?_none_of_le -> OU
open PySem.Heap.SameBut renaming update -> iR
open PySem.NameKind renaming free -> jD
open PySem.Obj renaming mapSeq -> iu
open PySem.Paired renaming length -> gU, snoc -> OA
open PySem.PassesOwn renaming never -> bN
open PySem.PyData renaming depthAll -> cq, eqv -> yK
open PySem.SeqAt renaming any_by_data -> o7, items_eqAt -> qW
open PySem.Str renaming ofString -> uB
open PySem.Value renaming int -> dW, ref -> fj, none -> fE, isInt -> qK
open PySem.W renaming Frag -> ai, nsIn -> c6, mg_none_of -> c8, kas_rev -> gb, kia_one -> iB, kas_place -> jj, fnOf -> jA, mg_of -> jH, kas_desc -> kr, keepIn -> kF, findIn -> nK, kas_asc -> o6, kas_descPart -> wK, methodObj -> wO, OpenLaw -> AJ, codeIn -> Cg, boot_drawn -> ER, cellsFrom_some -> Hb, kas_tail3 -> Lj, boot_toks -> Ln, boot_heap -> Lo, specialIn -> OP
open PySem.W.KasT renaming ret -> uF
open Sum renaming inl -> uA, inr -> ES
open True renaming intro -> fF
set_option Elab.async false
set_option linter.all false
set_option maxRecDepth 100000
set_option maxHeartbeats 4000000
set_option genSizeOf false
set_option genInjectivity false
set_option compiler.extract_closed false
namespace Internal
theorem Ad(h:0=0:=by decide):0=0:=h
theorem Ae(h:0=0:=by first | rfl | decide):0=0:=h
theorem Af(h:0=0:=by first | k_is | rfl):0=0:=h
theorem Ai(h:0=0:=by intro _; rfl):0=0:=h
theorem Ak(h:0=0:=by decide +kernel):0=0:=h
theorem Al(h:0=0:=by intro _ _ _ _ h; repeat (first | (cases h.1; rfl) | (cases h <;> rename_i h))):0=0:=h
theorem Ao(h:0=0:=by first | exact .inl rfl | exact .inr rfl | exact .inr (.inl rfl) | exact .inr (.inr rfl) | assumption):0=0:=h
theorem Aq(h:0=0:=by k_is):0=0:=h
theorem Ar(h:0=0:=by rfl):0=0:=h
namespace L2
open PySem PySem.Spec PyProof.Rows
noncomputable abbrev Key:=Sum Int Str
noncomputable def zW:Key->Value->Bool
 | .inl k,v=>qK k v
 | .inr x,v=>Value.isStrOf x v
noncomputable def XI(w:World):Key->Int
 | .inl k=>hashInt k
 | .inr x=>hashStr w x
theorem eg:∀ {k:Key} {v:Value},zW k v=true->(∃ i t,k=uA i/\v=dW i t)\/(∃ x t,k=ES x/\v=Value.str x t)
 | .inl i,v,h=>by
  obtain⟨t,e⟩:=Value.isInt_shape (k:=i) (v:=v) h;exact .inl ⟨i,t,rfl,e⟩
 | .inr x,v,h=>by
  obtain⟨t,e⟩:=Value.isStrOf_shape (x:=x) (v:=v) h;exact .inr ⟨x,t,rfl,e⟩
theorem JY(i:Int)(t:Tok):zW (.inl i) (.int i t)=true:=by simp [zW,qK]
theorem JX(x:Str)(t:Tok):zW (.inr x) (.str x t)=true:=by simp [zW,Value.isStrOf]
theorem MT(a b:Int):decide ((uA a:Key)=uA b)=(a == b):=by
 by_cases e:a=b
 ·subst e; simp
 ·have h:¬ (uA a:Key)=uA b:=fun q=>e (Sum.inl.inj q);rw [decide_eq_false h];exact(beq_eq_false_iff_ne.mpr e).symm
theorem MS(a b:Str):decide ((ES a:Key)=ES b)=decide (a=b):=by
 by_cases e:a=b
 ·subst e; simp
 ·have h:¬ (ES a:Key)=ES b:=fun q=>e (Sum.inr.inj q);rw [decide_eq_false h,decide_eq_false e]
theorem SS(a:Int)(b:Str):decide ((uA a:Key)=ES b)=false:=decide_eq_false (fun q=>nomatch q)
theorem SR(a:Str)(b:Int):decide ((ES a:Key)=uA b)=false:=decide_eq_false (fun q=>nomatch q)
noncomputable def cK(prog:bJ)(w:World):PySem.KeyKind prog w Key where
 is:=zW
 hash:=XI w
 inj:=fun v a b ha hb=>by
  rcases eg ha with ⟨i,t,rfl,rfl⟩ | ⟨x,t,rfl,rfl⟩
  ·rcases eg hb with ⟨j,u,rfl,e⟩ | ⟨y,u,rfl,e⟩
   ·injection e with e1 _; rw [e1]
   ·exact nomatch e
  ·rcases eg hb with ⟨j,u,rfl,e⟩ | ⟨y,u,rfl,e⟩
   ·exact nomatch e
   ·injection e with e1 _; rw [e1]
 byValue:=fun k v h=>by
  rcases eg h with ⟨i,t,rfl,rfl⟩ | ⟨x,t,rfl,rfl⟩ <;> rfl
 pyHash:=fun hv h=>by
  rcases eg hv with ⟨i,t,rfl,rfl⟩ | ⟨x,t,rfl,rfl⟩
  ·exact wpAny_pyHash_int h
  ·exact wpAny_pyHash_str h
 eqBool:=fun hu hv h=>by
  rcases eg hu with ⟨i,t,rfl,rfl⟩ | ⟨x,t,rfl,rfl⟩
  ·rcases eg hv with ⟨j,u,rfl,rfl⟩ | ⟨y,u,rfl,rfl⟩
   ·rw [MT] at h; exact wpAny_eqBool_int h
   ·rw [SS] at h; exact SeqAt.EqAt.int_str i t y u _ _ _ _ h
  ·rcases eg hv with ⟨j,u,rfl,rfl⟩ | ⟨y,u,rfl,rfl⟩
   ·rw [SR] at h; exact SeqAt.EqAt.str_int x t j u _ _ _ _ h
   ·rw [MS] at h; exact wpAny_eqBool_str h
 «strs»:=fun k x t v h=>by
  rcases eg h with ⟨i,u,rfl,e⟩ | ⟨y,u,rfl,e⟩
  ·exact nomatch e
  ·injection e with e1 _
   subst e1;cases v <;> rfl
theorem Dk(prog:bJ)(w:World)(i:Int)(t:Tok):(cK prog w).is (.inl i) (.int i t)=true:=JY i t
theorem Dj(prog:bJ)(w:World)(x:Str)(t:Tok):(cK prog w).is (.inr x) (.str x t)=true:=JX x t
inductive V where
 | eh | bl (b:Bool) | int (i:Int) | str (x:Str) | Tt (b:Array UInt8) | Vz (b:UInt64) | ref (a:Addr) | ty (n:String)
noncomputable def RelV:V->Value->Prop
 | .eh,u=>u=fE
 | .bl b,u=>u=Value.bool b
 | .int i,u=>∃ t,u=dW i t
 | .str x,u=>∃ t,u=Value.str x t
 | .Tt b,u=>∃ t,u=Value.bytes b t
 | .Vz b,u=>∃ t,u=Value.float b t
 | .ref a,u=>u=fj a
 | .ty n,u=>u=Value.type n
noncomputable abbrev Vals:List V->List Value->Prop:=jC RelV
theorem Vals.length{xs:List V}{us:List Value}(r:Vals xs us):xs.length=us.length:=gU r
theorem Vals.get:∀ {xs:List V} {us:List Value} {i:Nat} {x:V},Vals xs us->xs[i]?=some x->∃ u,us[i]?=some u/\RelV x u:=by
 intro xs us i x h;induction h generalizing i with
 | nil=>intro e; cases e
 | cons r t ih =>
  intro e;cases i with
  | zero=>cases e; exact⟨_,rfl,r⟩
  | succ i=>exact ih e
theorem Vals.set{x:V}{u:Value}(r:RelV x u):∀ {xs:List V} {us:List Value} (i:Nat),Vals xs us->Vals (xs.set i x) (us.set i u):=by
 intro xs us i h;induction h generalizing i with
 | nil=>rw [AK,AK]; exact .nil
 | cons q t ih =>
  cases i with
  | zero=>exact .cons r t
  | succ i=>exact .cons q (ih i)
theorem Vals.append:∀ {xs ys:List V} {us ws:List Value},Vals xs us->Vals ys ws->Vals (xs++ys) (us++ws):=by
 intro xs ys us ws h s;induction h with
 | nil=>exact s
 | cons r t ih=>exact .cons r ih
theorem Vals.take:∀ {xs:List V} {us:List Value} (n:Nat),Vals xs us->Vals (xs.take n) (us.take n):=by
 intro xs us n h;induction h generalizing n with
 | nil=>rw [yM,yM]; exact .nil
 | cons r t ih =>
  cases n with
  | zero=>exact .nil
  | succ n=>exact .cons r (ih n)
theorem Vals.drop:∀ {xs:List V} {us:List Value} (n:Nat),Vals xs us->Vals (xs.drop n) (us.drop n):=by
 intro xs us n h;induction h generalizing n with
 | nil=>rw [yN,yN]; exact .nil
 | cons r t ih =>
  cases n with
  | zero=>exact .cons r t
  | succ n=>exact ih n
noncomputable def vi:Option V->Option Value->Prop
 | some v,some u=>RelV v u
 | none,none=>True
 | _,_=>False
noncomputable def KV{κ:Type}:List (κ×V)->List (κ×Value)->Prop:=jC fun (p:κ×V) (q:κ×Value)=>p.1=q.1/\RelV p.2 q.2
noncomputable def kV:Key->V
 | .inl i=>.int i
 | .inr x=>.str x
inductive HO where
 | lst (xs:List V)
 | tup (xs:List V)
 | dK (kvs:List (Key×V)) | dT (kvs:List (List Key×V))
 | set (S:Int->Bool) (n:Nat)
 | ins (C dx:Addr) (fs:List (Str×V))
 | own (x:Addr)
 | xd (fs:List (Str×V))
 | met (f x:Addr)
 | Uw (lo hi:Int)
 | jh (o:Obj) (u:HO)
 | QM (q:Str)
 | ext (φ:Heap->Prop)
noncomputable abbrev Hp:=Addr->Option HO
noncomputable def upd(H:Hp)(a:Addr)(o:HO):Hp:=fun b=>if b=a then some o else H b
theorem bY{H:Hp}{a:Addr}{o:HO}:upd H a o a=some o:=by unfold upd; rw [if_pos rfl]
theorem bM{H:Hp}{a b:Addr}{o:HO}(h:b≠a):upd H a o b=H b:=by unfold upd; rw [if_neg h]
theorem QZ{H:Hp}{a b:Addr}{o u:HO}(h:H a=some o)(h':H b=some u)(d:o≠u):a≠b:=by
 intro e; subst e; rw [h] at h'; exact d (aY h')
theorem dE{H:Hp}{a b:Addr}{o:HO}(h:H a=some o)(h':H b=none):a≠b:=by
 intro e; subst e; rw [h] at h'; cases h'
section
variable (P:bJ) (w:World)
noncomputable def fA(H:Hp)(h:Heap)(a:Addr):HO->Prop
 | .lst xs=>xs.length<=aZ/\∃ (bX:List Value) (n:Nat),Vals xs bX/\h.get? a=some { cls:=.type "list",data:=.seq bX.toArray n }
 | .tup xs=>xs.length<=aZ/\∃ bX:List Value,Vals xs bX/\IsTup h a bX.toArray
 | .dK kvs=>kvs.length<=aZ/\(a == cV)=false/\∃ vs,KV kvs vs/\h.DictOf (cK P w) a vs
 | .dT kvs=>kvs.length<=aZ/\(a == cV)=false/\∃ xs:List (List Key×Addr×Value),
   jC (fun (p:List Key×V) (q:List Key×Addr×Value)=>p.1=q.1/\H q.2.1=some (.tup (p.1.map kV))/\RelV p.2 q.2.2) kvs xs /\
   ∃ o es ep,h.get? a=some o/\o.ExactDict/\o.data=.dict es ep/\es.toList=xs.map (entryOfKey (g7 (cK P w)))/\(xs.map (·.1)).Nodup
 | .set S n=>h.SetOf (EM P w) a S n
 | .ins C dx fs=>H dx=some (.own a)/\fs.length<=1000/\dx≠a/\h.get? a=some (PySem.W.instObj C dx) /\
   ∃ mA,h.Ns1 dx mA/\(∀ f,vi (fs.lookup f) (mA f))/\PySem.Within mA (fs.map (·.1))
 | .own _=>∃ o,h.get? a=some o
 | .xd fs=>∃ mA,h.Ns1 a mA/\∀ f,vi (fs.lookup f) (mA f)
 | .Uw lo hi=>∃ t u v,h.get? a=some { cls:=.type "range",data:=.fields #[.int lo t,.int hi u,.int 1 v] }
 | .jh o u=>h.get? a=some o/\fA H h a u
 | .QM q=>∃ ps,h.get? a=some { cls:=.none,data:=.fields ps }/\TriplesOk ps.toList/\∀ pos cv,codeAmong pos ps.toList=some cv->∃ c',cv=.ref c'/\H c'=some (.own a)/\h.CodeRec (.ref c') q
 | .met f x=>h.get? a=some (wO (.ref f) (.ref x))
 | .ext φ=>φ h/\(∃ o,h.get? a=some o)/\∀ h1 h2:Heap,φ h1->(∀ o,h1.get? a=some o->h2.get? a=some o)->φ h2
noncomputable def oJ(H:Hp)(h:Heap):Prop:=∀ a o,H a=some o->fA P w H h a o
end
section
variable {P:bJ} {w:World} {H H':Hp} {h h':Heap} {a:Addr} {o:HO}
theorem fA.lt(x:fA P w H h a o):a < h.objs.size:=by
 cases o with
 | lst xs=>obtain⟨_,_,_,_,e⟩:=x; exact aW e
 | tup xs=>obtain⟨_,_,_,p⟩:=x; exact p.lt
 | dK kvs=>obtain⟨_,_,_,_,o,_,_,e,_⟩:=x; exact aW e
 | dT kvs=>obtain⟨_,_,_,_,o,_,_,e,_⟩:=x; exact aW e
 | set S n=>obtain⟨o,_,_,_,e,_⟩:=x; exact aW e
 | ins C dx fs=>obtain⟨_,_,_,e,_⟩:=x; exact aW e
 | own y=>obtain⟨_,e⟩:=x; exact aW e
 | xd fs=>obtain⟨_,⟨_,_,_,e,_⟩,_⟩:=x; exact aW e
 | Uw lo hi=>obtain⟨_,_,_,e⟩:=x; exact aW e
 | jh ob u=>obtain⟨e,_⟩:=x; exact aW e
 | QM q=>obtain⟨_,e,_⟩:=x; exact aW e
 | met f y=>exact aW (show h.get? a=some _ from x)
 | ext φ=>obtain⟨_,⟨_,e⟩,_⟩:=x; exact aW e
theorem Paired.SI{α β:Type}{F G:α->β->Prop}:∀ {l₁:List α} {l₂:List β},jC F l₁ l₂->(∀ a b,F a b->G a b)->jC G l₁ l₂:=by
 intro l₁ l₂ h f;induction h with
 | nil=>exact .nil
 | cons r t ih=>exact .cons (f _ _ r) ih
theorem fA.lj(x:fA P w H h a o)(k:∀ b u,(b=a\/H b=some (.own a))->h.get? b=some u->h'.get? b=some u)
  (ho:∀ b,H b=some (.own a)->H' b=some (.own a)) (ht:∀ b xs,H b=some (.tup xs)->H' b=some (.tup xs)):fA P w H' h' a o:=by
 induction o with
 | lst xs=>obtain⟨z,bX,n,r,e⟩:=x; exact⟨z,bX,n,r,k _ _ (.inl rfl) e⟩
 | tup xs=>obtain⟨z,bX,r,ob,e,c⟩:=x; exact⟨z,bX,r,ob,k _ _ (.inl rfl) e,c⟩
 | dK kvs=>obtain⟨z,y,vs,r,ob,es,ep,e,c⟩:=x; exact⟨z,y,vs,r,ob,es,ep,k _ _ (.inl rfl) e,c⟩
 | dT kvs =>
  obtain⟨z,y,xs,r,ob,es,ep,e,c⟩:=x;exact⟨z,y,xs,Paired.SI r fun p q z=>⟨z.1,ht _ _ z.2.1,z.2.2⟩,ob,es,ep,k _ _ (.inl rfl) e,c⟩
 | set S n=>obtain⟨ob,es,ep,t,e,c⟩:=x; exact⟨ob,es,ep,t,k _ _ (.inl rfl) e,c⟩
 | ins C dx fs =>
  obtain⟨d,z,ne,e,mA,⟨od,es,ep,e2,c⟩,r⟩:=x;exact⟨ho _ d,z,ne,k _ _ (.inl rfl) e,mA,⟨od,es,ep,k _ _ (.inr d) e2,c⟩,r⟩
 | own y=>obtain⟨ob,e⟩:=x; exact⟨ob,k _ _ (.inl rfl) e⟩
 | xd fs=>obtain⟨mA,⟨od,es,ep,e,c⟩,r⟩:=x; exact⟨mA,⟨od,es,ep,k _ _ (.inl rfl) e,c⟩,r⟩
 | Uw lo hi=>obtain⟨t,u,v,e⟩:=x; exact⟨t,u,v,k _ _ (.inl rfl) e⟩
 | jh ob u ih=>obtain⟨e,q⟩:=x; exact⟨k _ _ (.inl rfl) e,ih q⟩
 | QM q =>
  obtain⟨ps,e,t,z⟩:=x;refine⟨ps,k _ _ (.inl rfl) e,t,fun pos cv y=>?_⟩;obtain⟨c',e1,e2,c2,oc,vs,tq,e3,e4,r⟩:=z pos cv y;cases e3;exact⟨c',e1,ho _ e2,c',oc,vs,tq,rfl,k _ _ (.inr e2) e4,r⟩
 | met f y =>
  have e:h.get? a=some (wO (.ref f) (.ref y)):=x;show h'.get? a=some (wO (.ref f) (.ref y));exact k a _ (.inl rfl) e
 | ext φ=>obtain⟨p,⟨o,e⟩,st⟩:=x; exact⟨st _ _ p fun o q=>k _ _ (.inl rfl) q,⟨o,k _ _ (.inl rfl) e⟩,st⟩
theorem oJ.lt(x:oJ P w H h)(e:H a=some o):a < h.objs.size:=(x a o e).lt
theorem oJ.fresh(x:oJ P w H h)(e:h.objs.size<=a):H a=none:=by
 cases q:H a with
 | none=>rfl
 | some u=>exact absurd (bO (x.lt q) e) (jc _)
theorem oJ.kept(x:oJ P w H h)(k:∀ b u,h.get? b=some u->h'.get? b=some u):oJ P w H h':=fun a o e =>
 (x a o e).lj (fun b u _ q=>k b u q) (fun _ q=>q) fun _ _ q=>q
theorem oJ.laid(x:oJ P w H h)(k:∀ b u,h.get? b=some u->h'.get? b=some u)(hp:h.objs.size<=a)(new:fA P w (upd H a o) h' a o):oJ P w (upd H a o) h':=fun b u e=>by
 have hn:=x.fresh hp;by_cases hb:b=a
 ·subst hb; rw [bY] at e; cases e; exact new
 ·rw [bM hb] at e;exact(x b u e).lj (fun c v _ q=>k c v q) (fun c q=>by rw [bM (dE q hn)]; exact q) fun c xs q=>by rw [bM (dE q hn)]; exact q
end
noncomputable def Rd(H:Hp)(a:Addr)(u:HO):Prop:=H a=some u\/∃ o,H a=some (.jh o u)
theorem Rd.ok{P:bJ}{w:World}{H:Hp}{h:Heap}{a:Addr}{u:HO}(r:Rd H a u)(x:oJ P w H h):fA P w H h a u:=by
 rcases r with r | ⟨o,r⟩
 ·exact x a u r
 ·obtain⟨_,q⟩:=x a _ r;exact q
noncomputable def VP:Option HO->Prop
 | some (.lst _)=>True
 | some (.dK _)=>True
 | some (.dT _)=>True
 | some (.set _ _)=>True
 | some (.ins _ _ _)=>True
 | some (.ext _)=>True
 | _=>False
section
variable {P:bJ} {w:World} {H:Hp} {h h':Heap} {x e:Addr} {o':HO}
theorem oJ.write(ok:oJ P w H h)(mu:VP (H x))(he:e=x\/H e=some (.own x))(k:∀ b u,b≠e->h.get? b=some u->h'.get? b=some u)(T1:∃ u,h'.get? e=some u)
  (new:fA P w (upd H x o') h' x o'):oJ P w (upd H x o') h':=fun b u q=>by
 have UQ:∀ c y,H c=some (.own y)->c≠x:=fun c y r z=>by subst z; rw [r] at mu; exact mu
 have Xq:∀ c xs,H c=some (.tup xs)->c≠x:=fun c xs r z=>by subst z; rw [r] at mu; exact mu
 by_cases hb:b=x
 ·subst hb; rw [bY] at q; cases q; exact new
 ·rw [bM hb] at q;by_cases S4:b=e
  ·have q':H b=some (.own x):=by
    rcases he with z | z
    ·exact absurd (S4.trans z) hb
    ·rw [S4]; exact z
   rw [q] at q'; cases q';obtain⟨v,hv⟩:=T1;exact⟨v,by rw [S4]; exact hv⟩
  ·refine(ok b u q).lj (fun c v hc r=>k c v ?_ r) (fun c r=>by rw [bM (UQ c b r)]; exact r) fun c xs r=>by rw [bM (Xq c xs r)]; exact r
   rcases hc with rfl | hc
   ·exact S4
   ·rintro rfl;rcases he with z | z
    ·exact UQ c b hc z
    ·rw [hc] at z; cases z; exact hb rfl
end
structure Un(fs ex:List Addr)(H H':Hp)(h h':Heap):Prop where
 keep:∀ b o,h.get? b=some o->H b=none->b∉fs->b∉ex->h'.get? b=some o
 slot:∀ b o,h.get? b=some o->H b=none->b∈fs->b∉ex->∃ sl,h'.get? b=some { o with slots:=sl }
 free:∀ b o,h.get? b=some o->H b=none->b∉ex->H' b=none
 there:∀ b o,h.get? b=some o->b∉ex->∃ o',h'.get? b=some o'
 yX:∀ b xs,H b=some (.tup xs)->H' b=some (.tup xs)
 xZ:∀ b o u,H b=some (.jh o u)->H' b=some (.jh o u)
 yZ:∀ b q,H b=some (.QM q)->H' b=some (.QM q)
 y8:∀ b x,H b=some (.own x)->H' b=some (.own x)
section
variable {fs fs' ex ex':List Addr} {H H1 H2:Hp} {h h1 h2 h':Heap} {a x e:Addr} {o:HO}
theorem Un.any(u:Un fs ex H H1 h h1){b:Addr}{ob:Obj}(q:h.get? b=some ob)(n:H b=none)(hx:b∉ex):∃ sl,h1.get? b=some { ob with slots:=sl }:=by
 by_cases hb:b∈fs
 ·exact u.slot b ob q n hb hx
 ·exact⟨ob.slots,u.keep b ob q n hb hx⟩
theorem Un.kept(k:∀ b u,h.get? b=some u->h'.get? b=some u):Un fs ex H H h h' :=
 ⟨fun b ob q _ _ _=>k b ob q,fun b ob q _ _ _=>⟨ob.slots,k b ob q⟩,fun _ _ _ n _=>n,fun b ob q _=>⟨ob,k b ob q⟩,fun _ _ q=>q,fun _ _ _ q=>q,fun _ _ q=>q,fun _ _ q=>q⟩
theorem Un.refl:Un fs ex H H h h:=Un.kept fun _ _ q=>q
theorem Un.laid(k:∀ b u,h.get? b=some u->h'.get? b=some u)(hp:h.objs.size<=a)(hn:H a=none):Un fs ex H (upd H a o) h h' where
 keep:=fun b u q _ _ _=>k b u q
 slot:=fun b u q _ _ _=>⟨u.slots,k b u q⟩
 free:=fun b u q n _=>by rw [bM (bL (bO (aW q) hp))]; exact n
 there:=fun b u q _=>⟨u,k b u q⟩
 yX:=fun b xs q=>by rw [bM (dE q hn)]; exact q
 xZ:=fun b u xs q=>by rw [bM (dE q hn)]; exact q
 yZ:=fun b ps q=>by rw [bM (dE q hn)]; exact q
 y8:=fun b ps q=>by rw [bM (dE q hn)]; exact q
theorem Un.write(mu:VP (H x))(he:e=x\/H e=some (.own x))(k:∀ b u,b≠e->h.get? b=some u->h'.get? b=some u)(T1:∃ u,h'.get? e=some u):Un fs ex H (upd H x o) h h':=by
 have hx:∀ b,H b=none->b≠x:=fun b n z=>by subst z; rw [n] at mu; exact mu
 have hb:∀ b,H b=none->b≠e:=fun b n z=>by
  subst z;rcases he with r | r
  ·exact hx b n r
  ·rw [n] at r; cases r
 have hm:∀ b u,H b=some u->¬ VP (some u)->b≠x:=fun b u q nm z=>by subst z; rw [q] at mu; exact nm mu
 refine⟨fun b u q n _ _=>k b u (hb b n) q,fun b u q n _ _=>⟨u.slots,k b u (hb b n) q⟩,fun b u q n _=>by rw [bM (hx b n)]; exact n,fun b u q _=>?_,
  fun b xs q=>by rw [bM (hm b _ q fun z=>z)]; exact q,fun b u xs q=>by rw [bM (hm b _ q fun z=>z)]; exact q,fun b ps q=>by rw [bM (hm b _ q fun z=>z)]; exact q,fun b ps q=>by rw [bM (hm b _ q fun z=>z)]; exact q⟩
 by_cases S4:b=e
 ·subst S4; exact T1
 ·exact⟨u,k b u S4 q⟩
end
noncomputable def VW(h:Heap)(H:Hp):List Addr:=(ib h.objs.size).filter fun a=>(H a).isSome
noncomputable def Bs(h:Heap)(H:Hp):Heap:=PySem.W.hideAll h (VW h H)
theorem Kb(h:Heap)(H:Hp):(Bs h H).objs.size=h.objs.size:=PySem.W.hideAll_size _ _
theorem Nm{h:Heap}{H:Hp}{b:Addr}{o:Obj}(e:h.get? b=some o)(n:H b=none):(Bs h H).get? b=some o :=
 PySem.W.hideAll_get _ e fun hm=>by
  have q:(H b).isSome=true:=(List.mem_filter.mp hm).2;rw [n] at q; simp at q
theorem PO{h:Heap}{H:Hp}{b:Addr}{o:Obj}(e:(Bs h H).get? b=some o):h.get? b=some o/\H b=none:=by
 have e':h.get? b=some o:=PySem.W.of_hideAll (VW h H) e;refine⟨e',?_⟩;cases q:H b with
 | none=>rfl
 | some x =>
  have hm:b∈VW h H:=List.mem_filter.mpr ⟨List.mem_range.mpr (aW e'),by simp [q]⟩;have z:(Bs h H).get? b=none:=PySem.W.hideAll_none (VW h H) hm;rw [z] at e; cases e
noncomputable def qI(g h:Heap)(L:Addr):List (Addr×Obj):=(ib h.objs.size).filterMap fun a=>if a=L\/(g.get? a).isSome=true then none else (h.get? a).map fun o=>(a,o)
theorem vF{g h:Heap}{L a:Addr}{o:Obj}(h1:a≠L)(h2:g.get? a=none)(h3:h.get? a=some o):(a,o)∈qI g h L :=
 List.mem_filterMap.mpr ⟨a,List.mem_range.mpr (aW h3),by simp [h1,h2,h3]⟩
theorem xu{g h:Heap}{L:Addr}{p:Addr×Obj}(hp:p∈qI g h L):p.1≠L/\g.get? p.1=none/\h.get? p.1=some p.2:=by
 obtain⟨b,_,e⟩:=List.mem_filterMap.mp hp;split at e
 ·cases e
 ·rename_i hn;cases q:h.get? b with
  | none=>rw [q] at e; simp at e
  | some u =>
   rw [q] at e;simp only [sf,uD] at e;subst e;refine⟨fun z=>hn (.inl z),?_,q⟩;show g.get? b=none;cases r:g.get? b with
   | none=>rfl
   | some v=>exact(hn (.inr (by simp [r]))).elim
noncomputable def rest(g h:Heap)(L d:Addr):List (Addr×Obj):=(qI g h L).filter fun p=>decide (p.1≠d)
theorem Dg{g h:Heap}{L:Addr}:News g L h (qI g h L):=fun p hp=>let ⟨a,b,c⟩:=xu hp; ⟨c,a,b⟩
structure Mod(K:ai)(mg:Str->Option Value)(base:Heap):Prop where
 Wb:K.In base
 glob:base.Ns bS mg
 blt:∃ mb,base.Ns builtinsNs mb/\∀ x:Str,x≠"__name__"->mb x=eB x
 nolimit:base.NoLimit
structure Cx where
 prog:bJ
 w:World
 K:ai
 mg:Str->Option Value
 base:Heap
 A:dj
 N:List Str
 lV:aw
 Ox:Hp
 env:Env
 outer:List Env
 stack:List Env
 ex:List Addr
 fn:Str->Bool
 calm:Bool
 pn:List (Addr×Obj)
 xe:Value->aw->Prop
noncomputable def La(l:List Env):List Addr:=l.filterMap (·.frame)
noncomputable abbrev Cx.fs(X:Cx):List Addr:=La X.outer
noncomputable def Wr(sc:Scope)(x:Str):Prop:=sc.names.lookup x=some .local\/sc.names.lookup x=some .cell\/sc.names.lookup x=some .free
noncomputable def Loc(sc:Scope)(x:Str):Prop:=sc.names.lookup x=some .local\/sc.names.lookup x=some .cell
noncomputable def Look(env:Env)(h:Heap)(m:Str->Option Value)(x:Str)(u:Value):Prop :=
 (env.kindOf x=some .local/\m x=some u)\/((env.kindOf x=some .cell\/env.kindOf x=some .free)/\∃ c,env.cells.lookup x=some c/\h.IsCell c (some u))
structure Cx.Ok(X:Cx):Prop where
 mod:Mod X.K X.mg X.base
 kind:X.env.scope.kind=.function
 glob:X.env.globals=bS
 blt:X.env.builtins=builtinsNs
 above:X.lV.heap.objs.size<=X.env.locals
 inj:∀ x y c,X.env.cells.lookup x=some c->X.env.cells.lookup y=some c->x=y
 has:∀ x,(X.env.kindOf x=some .cell\/X.env.kindOf x=some .free)->∃ c,X.env.cells.lookup x=some c
 VF:∀ x c,X.fn x=true->X.env.cells.lookup x=some c->X.lV.heap.objs.size<=c
 hd:X.calm=true->X.A.handled=none
 frames:X.A.frames=some X.stack
 VY:X.stack=X.outer\/(X.stack=X.env :: X.outer/\X.env.frame=some X.env.locals)
 Wo:∀ b∈X.ex,b≠X.env.locals/\∀ x c,X.env.cells.lookup x=some c->c≠b
 bs:∀ b o,X.base.get? b=some o->X.lV.heap.get? b=some o/\X.Ox b=none
 Qx:X.base.objs.size<=X.lV.heap.objs.size
 JM:∀ b o,X.base.get? b=some o->b∉X.ex
 NO:∀ b∈X.ex,b∉X.fs
 xW:X.lV.heap.FunFrames X.base X.outer
 T6:∀ b∈X.fs,X.Ox b=none
structure Inv(X:Cx)(pins:List (Addr×Obj))(σ:List (Option V))(H:Hp)(s:aw):Prop where
 ok:X.Ok
 os:s.os=X.lV.os
 bare:AN s.gens
 base:Un X.fs X.ex X.Ox H X.lV.heap s.heap
 loc:∃ m,s.heap.Ns X.env.locals m/\∀ (i:Nat) (x:Str) (v:V),X.N[i]?=some x->σ[i]?=some (some v)->Wr X.env.scope x->∃ u,RelV v u/\Look X.env s.heap m x u
 cell:∀ x c,X.env.cells.lookup x=some c->∃ v,s.heap.IsCell c v
 free:H X.env.locals=none
 oG:∀ x c,X.env.cells.lookup x=some c->H c=none
 pin:∀ p∈X.pn++pins,s.heap.get? p.1=some p.2/\H p.1=none/\p.1≠X.env.locals/\p.1∉X.fs/\∀ v,p.2.data≠.cell v
 cD:oJ X.prog X.w H s.heap
 len:σ.length=X.N.length
section
variable {X:Cx} {pins:List (Addr×Obj)} {σ:List (Option V)} {H H':Hp} {s:aw} {h':Heap}
theorem Cx.Ok.Xs(ok:X.Ok){b:Addr}{o:Obj}(e:X.base.get? b=some o):b∉X.fs:=fun hb=>by
 have:=(ok.xW.mem hb).1;rw [e] at this; cases this
theorem Inv.bs(I:Inv X pins σ H s):∀ b o,X.base.get? b=some o->s.heap.get? b=some o/\H b=none:=fun b o e =>
 ⟨I.base.keep b o (I.ok.bs b o e).1 (I.ok.bs b o e).2 (I.ok.Xs e) (I.ok.JM b o e),I.base.free b o (I.ok.bs b o e).1 (I.ok.bs b o e).2 (I.ok.JM b o e)⟩
theorem Inv.bk(I:Inv X pins σ H s):∀ b o,X.base.get? b=some o->s.heap.get? b=some o:=fun b o e=>(I.bs b o e).1
theorem Inv.mod(I:Inv X pins σ H s):Mod X.K X.mg X.base:=I.ok.mod
theorem Inv.Ij(I:Inv X pins σ H s):X.K.In s.heap:=I.ok.mod.Wb.keeps I.bk
theorem Inv.fr(I:Inv X pins σ H s):∃ m,Fr X.base X.env.locals s.heap m :=
 let ⟨m,hn,_⟩:=I.loc
 ⟨m,hn,I.bk,bu I.ok.Qx I.ok.above⟩
theorem Inv.lt(I:Inv X pins σ H s):X.env.locals < s.heap.objs.size:=let ⟨_,hn,_⟩:=I.loc; hn.lt
theorem Inv.sz(I:Inv X pins σ H s):X.lV.heap.objs.size<=s.heap.objs.size:=bu I.ok.above (OR I.lt)
theorem Inv.Xr(I:Inv X pins σ H s){a:Addr}(h:s.heap.objs.size<=a):a∉X.fs:=fun hb=>by
 obtain⟨_,o,ho,_⟩:=I.ok.xW.mem hb;exact absurd (bO (aW ho) (bu I.sz h)) (jc _)
theorem Inv.Tp(I:Inv X pins σ H s):∀ x c,X.env.cells.lookup x=some c->c≠X.env.locals:=fun x c e z=>by
 obtain⟨v,o,ho,hd⟩:=I.cell x c e;obtain⟨m,⟨o',es,ep,B7,yP,_⟩,_⟩:=I.loc;rw [z,B7] at ho; cases ho; rw [yP] at hd; cases hd
theorem Inv.xW(I:Inv X pins σ H s):s.heap.FunFrames X.base X.outer:=by
 have all:∀ (l:List Env),(∀ b∈La l,b∈X.fs)->X.lV.heap.FunFrames X.base l->s.heap.FunFrames X.base l:=by
  intro l;induction l with
  | nil=>intro _ _; trivial
  | cons env r ih =>
   intro hs hl;obtain⟨hk,⟨L,o,hf,hn,ho,hd⟩,hr⟩:=hl;have hL:L∈X.fs:=hs L (by unfold La; rw [vV,hf]; exact cb);obtain⟨sl,e⟩:=I.base.slot L o ho (I.ok.T6 L hL) hL fun z=>I.ok.NO L z hL;exact⟨hk,⟨L,_,hf,hn,e,hd⟩,ih (fun b hb=>hs b (by unfold La; rw [vV,hf]; exact aL _ hb)) hr⟩
 exact all X.outer (fun _ hb=>hb) I.ok.xW
theorem Inv.stack(I:Inv X pins σ H s):s.heap.FunFrames X.base X.stack:=by
 rcases I.ok.VY with e | ⟨e,hf⟩
 ·rw [e]; exact I.xW
 ·rw [e];obtain⟨m,hn,_⟩:=I.loc;refine .cons (by rw [I.ok.kind]; decide) hf hn ?_ I.xW;exact OU (bu I.ok.Qx I.ok.above)
theorem Inv.E7(I:Inv X pins σ H s):∀ b∈La X.stack,b∈X.env.locals :: X.fs:=fun b hb=>by
 rcases I.ok.VY with e | ⟨e,hf⟩
 ·rw [e] at hb; exact aL _ hb
 ·rw [e] at hb;unfold La at hb;rw [vV,hf] at hb;exact hb
theorem Inv.Hs(I:Inv X pins σ H s):∀ b∈La X.stack,H b=none:=fun b hb=>by
 rcases List.mem_cons.mp (I.E7 b hb) with e | hb
 ·rw [e]; exact I.free
 ·obtain⟨_,o,ho,_⟩:=I.ok.xW.mem hb;exact I.base.free b o ho (I.ok.T6 b hb) fun z=>I.ok.NO b z hb
theorem Inv.step{g':Array GenState}{t':Nat}{d':Drawn}{ch:List Addr}(I:Inv X pins σ H s)
  (Rp:∀ b∈ch,(b∈X.ex\/X.lV.heap.objs.size<=b)/\b≠X.env.locals/\(∀ x c,X.env.cells.lookup x=some c->c≠b)/\∀ p∈X.pn++pins,p.1≠b)
  (keep:∀ b o,b≠X.env.locals->b∉X.fs->b∉ch->s.heap.get? b=some o->H b=none->h'.get? b=some o)
  (slot:∀ b o,b≠X.env.locals->b∈X.fs->b∉ch->s.heap.get? b=some o->H b=none->∃ sl,h'.get? b=some { o with slots:=sl }) (free:∀ b o,b∉ch->s.heap.get? b=some o->H b=none->H' b=none)
  (there:∀ b o,b∉ch->s.heap.get? b=some o->∃ o',h'.get? b=some o')
  (yX:∀ b xs,H b=some (.tup xs)->H' b=some (.tup xs)) (xZ:∀ b o u,H b=some (.jh o u)->H' b=some (.jh o u)) (yZ:∀ b q,H b=some (.QM q)->H' b=some (.QM q)) (y8:∀ b x,H b=some (.own x)->H' b=some (.own x))
  (ns:∀ m,s.heap.Ns X.env.locals m->h'.Ns X.env.locals m) (cD:oJ X.prog X.w H' h') (hg:AN g') :
  Inv X pins σ H' { s with heap:=h',gens:=g',drawn:=d',toks:=t' }:=by
 have ZH:∀ b o,X.lV.heap.get? b=some o->b≠X.env.locals:=fun b o e=>bL (bO (aW e) I.ok.above);have V8:∀ b o,X.lV.heap.get? b=some o->b∉X.ex->b∉ch:=fun b o e hx hb=>by
  rcases (Rp b hb).1 with z | z
  ·exact hx z
  ·exact absurd (bO (aW e) z) (jc _)
 have cellK:∀ x c,X.env.cells.lookup x=some c->∀ v,s.heap.IsCell c v->h'.IsCell c v:=fun x c e v ⟨o,ho,hd⟩=>by
  have UU:c∉ch:=fun z=>(Rp c z).2.2.1 x c e rfl;by_cases hc:c∈X.fs
  ·obtain⟨sl,q⟩:=slot c o (I.Tp x c e) hc UU ho (I.oG x c e);exact⟨_,q,hd⟩
  ·exact⟨o,keep c o (I.Tp x c e) hc UU ho (I.oG x c e),hd⟩
 refine⟨I.ok,I.os,hg,⟨fun b o e n hb hx=>?_,fun b o e n hb hx=>?_,fun b o e n hx=>?_,fun b o e hx=>?_,fun b xs e=>yX b xs (I.base.yX b xs e),fun b o xs e=>xZ b o xs (I.base.xZ b o xs e),fun b ps e=>?_,fun b x e=>y8 b x (I.base.y8 b x e)⟩,?_,fun x c e=>?_,?_,fun x c e=>?_,fun p hp=>?_,cD,I.len⟩
 ·exact keep b o (ZH b o e) hb (V8 b o e hx) (I.base.keep b o e n hb hx) (I.base.free b o e n hx)
 ·obtain⟨sl,e1⟩:=I.base.slot b o e n hb hx;obtain⟨sl',e2⟩:=slot b _ (ZH b o e) hb (V8 b o e hx) e1 (I.base.free b o e n hx);exact⟨sl',e2⟩
 ·obtain⟨o',e1⟩:=I.base.there b o e hx;exact free b o' (V8 b o e hx) e1 (I.base.free b o e n hx)
 ·obtain⟨o',e1⟩:=I.base.there b o e hx;exact there b o' (V8 b o e hx) e1
 ·exact yZ b _ (I.base.yZ b ps e)
 ·obtain⟨m,hn,hl⟩:=I.loc;refine⟨m,ns m hn,fun i x v e1 e2 e3=>?_⟩;obtain⟨u,r,l⟩:=hl i x v e1 e2 e3;refine⟨u,r,?_⟩;rcases l with l | ⟨k,c,e,z⟩
  ·exact .inl l
  ·exact .inr ⟨k,c,e,cellK x c e _ z⟩
 ·obtain⟨v,z⟩:=I.cell x c e;exact⟨v,cellK x c e v z⟩
 ·obtain⟨m,⟨o,_,_,ho,_⟩,_⟩:=I.loc;exact free _ o (fun z=>(Rp _ z).2.1 rfl) ho I.free
 ·obtain⟨v,o,ho,hd⟩:=I.cell x c e;exact free c o (fun z=>(Rp c z).2.2.1 x c e rfl) ho (I.oG x c e)
 ·obtain⟨e,n,ne,nf,d⟩:=I.pin p hp;have UU:p.1∉ch:=fun z=>(Rp p.1 z).2.2.2 p hp rfl;exact⟨keep p.1 p.2 ne nf UU e n,free p.1 p.2 UU e n,ne,nf,d⟩
theorem Inv.un{t':Nat}(I:Inv X pins σ H s)(u:Un X.fs [] H H' s.heap h')(cD:oJ X.prog X.w H' h'):Inv X pins σ H' { s with heap:=h',toks:=t' }:=by
 obtain⟨m,⟨o,es,ep,ho,r⟩,_⟩:=id I.loc;obtain⟨sl,hL⟩:=u.any ho I.free (by simp);exact I.step (g':=s.gens) (d':=s.drawn) (ch:=[]) (fun _ z=>nomatch z) (fun b o _ hb _ e n=>u.keep b o e n hb (by simp)) (fun b o _ hb _ e n=>u.slot b o e n hb (by simp)) (fun b o _ e n=>u.free b o e n (by simp)) (fun b o _ e=>u.there b o e (by simp)) u.yX u.xZ u.yZ u.y8 (fun m' hm=>by
  obtain⟨o',YN,YR,B7,r'⟩:=hm;rw [ho] at B7; cases B7;exact⟨_,YN,YR,hL,r'⟩) cD I.bare
theorem Inv.call{g':Array GenState}{t':Nat}{d':Drawn}{ch:List Addr}(I:Inv X pins σ H s)(u:Un (La X.stack) ch H H' s.heap h')(cD:oJ X.prog X.w H' h')(hg:AN g')
  (Rp:∀ b∈ch,(b∈X.ex\/X.lV.heap.objs.size<=b)/\b≠X.env.locals/\(∀ x c,X.env.cells.lookup x=some c->c≠b)/\∀ p∈X.pn++pins,p.1≠b) :
  Inv X pins σ H' { s with heap:=h',gens:=g',drawn:=d',toks:=t' }:=by
 obtain⟨m,⟨o,es,ep,ho,r⟩,_⟩:=id I.loc;obtain⟨sl,hL⟩:=u.any ho I.free fun z=>(Rp _ z).2.1 rfl;exact I.step (ch:=ch) Rp (fun b o hL hb hc e n=>u.keep b o e n (fun z=>(List.mem_cons.mp (I.E7 b z)).elim hL hb) hc) (fun b o _ _ hc e n=>u.any e n hc) (fun b o hc e n=>u.free b o e n hc) (fun b o hc e=>u.there b o e hc) u.yX u.xZ u.yZ u.y8 (fun m' hm=>by
  obtain⟨o',YN,YR,B7,r'⟩:=hm;rw [ho] at B7; cases B7;exact⟨_,YN,YR,hL,r'⟩) cD hg
theorem Inv.turned{t':Nat}{it:Addr}(I:Inv X pins σ H s)(k:∀ b o,b≠it->s.heap.get? b=some o->h'.get? b=some o)(hn:H it=none)(hL:it≠X.env.locals)
  (h1:it∈X.ex\/X.lV.heap.objs.size<=it) (h2:∀ x c,X.env.cells.lookup x=some c->c≠it) (h3:∀ p∈X.pn++pins,p.1≠it):Inv X pins σ H { s with heap:=h',toks:=t' }:=by
 have ZG:∀ b u,H b=some u->b≠it:=fun b u e z=>by rw [z,hn] at e; cases e
 refine I.step (g':=s.gens) (d':=s.drawn) (ch:=[it]) (fun b hb=>?_) (fun b o _ _ hc e _=>k b o (fun z=>hc (by simp [z])) e) (fun b o _ _ hc e _=>⟨o.slots,k b o (fun z=>hc (by simp [z])) e⟩) (fun _ _ _ _ n=>n)
  (fun b o hc e=>⟨o,k b o (fun z=>hc (by simp [z])) e⟩) (fun _ _ e=>e) (fun _ _ _ e=>e) (fun _ _ e=>e) (fun _ _ e=>e) (fun m hm=>?_) (fun b u e=>?_) I.bare
 ·have e:b=it:=by simpa using hb
  subst e;exact⟨h1,hL,h2,h3⟩
 ·obtain⟨o,es,ep,ho,r⟩:=hm;exact⟨o,es,ep,k _ o (fT hL) ho,r⟩
 ·refine(I.cD b u e).lj (fun c v hc q=>k c v ?_ q) (fun _ q=>q) fun _ _ q=>q;rcases hc with z | z
  ·rw [z]; exact ZG b u e
  ·exact ZG c _ z
theorem Inv.tok(I:Inv X pins σ H s)(t:Nat):Inv X pins σ H { s with toks:=t }:=I.un (h':=s.heap) (t':=t) Un.refl I.cD
theorem Inv.kept{t':Nat}(I:Inv X pins σ H s)(k:∀ b u,s.heap.get? b=some u->h'.get? b=some u):Inv X pins σ H { s with heap:=h',toks:=t' }:=I.un (Un.kept k) (I.cD.kept k)
theorem Inv.laid{a:Addr}{o:HO}{t':Nat}(I:Inv X pins σ H s)(k:∀ b u,s.heap.get? b=some u->h'.get? b=some u)(hp:s.heap.objs.size<=a)(new:fA X.prog X.w (upd H a o) h' a o) :
  Inv X pins σ (upd H a o) { s with heap:=h',toks:=t' }:=I.un (Un.laid k hp (I.cD.fresh hp)) (I.cD.laid k hp new)
theorem Inv.write{x e:Addr}{o:HO}{t':Nat}(I:Inv X pins σ H s)(mu:VP (H x))(he:e=x\/H e=some (.own x))(k:∀ b u,b≠e->s.heap.get? b=some u->h'.get? b=some u)(T1:∃ u,h'.get? e=some u)
  (new:fA X.prog X.w (upd H x o) h' x o):Inv X pins σ (upd H x o) { s with heap:=h',toks:=t' }:=I.un (Un.write mu he k T1) (I.cD.write mu he k T1 new)
theorem Inv.HM{QW:List (Addr×Obj)}(I:Inv X pins σ H s)(h:∀ p∈QW,s.heap.get? p.1=some p.2/\H p.1=none/\p.1≠X.env.locals/\p.1∉X.fs/\∀ v,p.2.data≠.cell v):Inv X QW σ H s :=
 ⟨I.ok,I.os,I.bare,I.base,I.loc,I.cell,I.free,I.oG,fun p hp=>(List.mem_append.mp hp).elim (fun z=>I.pin p (mC _ z)) (h p),I.cD,I.len⟩
theorem De{N:List Str}(hN:N.Nodup){i j:Nat}{x:Str}(a:N[i]?=some x)(b:N[j]?=some x):i=j:=by
 obtain⟨h1,e1⟩:=List.getElem?_eq_some_iff.mp a;obtain⟨h2,e2⟩:=List.getElem?_eq_some_iff.mp b;exact(List.getElem_inj hN).mp (e1.trans e2.symm)
theorem zy{M:Model}{A:dj}{E:Value->aw->Prop}{i:Nat}{x:Str}{v:V}{u:Value}{Q:Unit->aw->Prop}(I:Inv X pins σ H s)(hN:X.N.Nodup)(hi:X.N[i]?=some x)(hx:Loc X.env.scope x)(r:RelV v u)
  (h:∀ s',Inv X pins (σ.set i (some v)) H s'->(∃ a,eZ a s.heap s'.heap/\(a=X.env.locals\/X.env.cells.lookup x=some a))->Q () s') (hf:autoParam (X.fn x=true\/X.env.scope.names.lookup x=some .local) Ao._auto_1):wpAny M A (storeName X.env x u) Q E s:=by
 obtain⟨m,hn,hl⟩:=id I.loc;have YC:(X.env.scope.kind == .class||(X.env.scope.kind == .module&&X.env.locals != X.env.globals))=false:=by rw [I.ok.kind]; rfl
 have Vk:i < σ.length:=by rw [I.len]; exact(List.getElem?_eq_some_iff.mp hi).1
 have Tp:=I.Tp;have tracked:∀ {a:Addr} {h':Heap},(∃ o,s.heap.get? a=some o/\H a=none)->eZ a s.heap h'->oJ X.prog X.w H h':=fun {a h'} ha hs b ob e=>by
  obtain⟨_,_,oE⟩:=ha;refine(I.cD b ob e).lj (fun c w' hc q=>(hs.2 c ?_).trans q) (fun _ q=>q) fun _ _ q=>q;rintro rfl;rcases hc with rfl | hc
  ·rw [oE] at e; cases e
  ·rw [oE] at hc; cases hc
 rcases hx with hk | hk
 ·refine wpAny_storeName_local hk hn (fun h' Yl hs=>?_) YC;obtain⟨oL,_,_,hoL,_⟩:=id hn;refine h _ ⟨I.ok,I.os,I.bare,⟨fun b o e n hb hx=>?_,fun b o e n hb hx=>?_,I.base.free,fun b o e hx=>?_,I.base.yX,I.base.xZ,I.base.yZ,I.base.y8⟩,⟨_,Yl,fun j y v' e1 e2 e3=>?_⟩,fun y c e=>?_,I.free,I.oG,fun p hp=>?_,tracked ⟨oL,hoL,I.free⟩ hs,by simpa using I.len⟩ ⟨_,hs,.inl rfl⟩
  ·exact(hs.2 b (bL (bO (aW e) I.ok.above))).trans (I.base.keep b o e n hb hx)
  ·obtain⟨sl,e1⟩:=I.base.slot b o e n hb hx;exact⟨sl,(hs.2 b (bL (bO (aW e) I.ok.above))).trans e1⟩
  ·obtain⟨o',e1⟩:=I.base.there b o e hx;exact⟨o',(hs.2 b (bL (bO (aW e) I.ok.above))).trans e1⟩
  ·by_cases hj:j=i
   ·subst hj;rw [hi] at e1; cases e1;rw [bW Vk] at e2;cases e2;exact⟨u,r,.inl ⟨hk,by simp⟩⟩
   ·rw [dM (fT hj)] at e2;obtain⟨u',r',q⟩:=hl j y v' e1 e2 e3;refine⟨u',r',?_⟩;rcases q with ⟨k,e⟩ | ⟨k,c,e,z⟩
    ·refine .inl ⟨k,?_⟩;have:y≠x:=fun e=>hj (De hN e1 (e ▸ hi));simp [this,e]
    ·exact .inr ⟨k,c,e,z.sameBut hs (Tp y c e)⟩
  ·obtain⟨w',z⟩:=I.cell y c e;exact⟨w',z.sameBut hs (Tp y c e)⟩
  ·obtain⟨e,n,ne,nf,d⟩:=I.pin p hp;exact⟨(hs.2 p.1 ne).trans e,n,ne,nf,d⟩
 ·have Yv:X.fn x=true:=by
   rcases hf with z | z
   ·exact z
   ·rw [z] at hk; cases hk
  obtain⟨c,hc⟩:=I.ok.has x (.inl hk);obtain⟨w',z⟩:=I.cell x c hc;refine wpAny_storeName_cell I.ok.kind hk hc z (fun h' Rq hs=>?_);obtain⟨oc,TZ,Yh⟩:=id z;refine h { s with heap:=h' } ⟨I.ok,I.os,I.bare,⟨fun b o e n hb hx=>?_,fun b o e n hb hx=>?_,I.base.free,fun b o e hx=>?_,I.base.yX,I.base.xZ,I.base.yZ,I.base.y8⟩,⟨m,hn.sameBut hs (fT (Tp x c hc)),fun j y v' e1 e2 e3=>?_⟩,fun y c' e=>?_,I.free,I.oG,fun p hp=>?_,tracked ⟨oc,TZ,I.oG x c hc⟩ hs,by simpa using I.len⟩ ⟨c,hs,.inr hc⟩
  ·exact(hs.2 b (bL (bO (aW e) (I.ok.VF x c Yv hc)))).trans (I.base.keep b o e n hb hx)
  ·obtain⟨sl,e1⟩:=I.base.slot b o e n hb hx;exact⟨sl,(hs.2 b (bL (bO (aW e) (I.ok.VF x c Yv hc)))).trans e1⟩
  ·obtain⟨o',e1⟩:=I.base.there b o e hx;exact⟨o',(hs.2 b (bL (bO (aW e) (I.ok.VF x c Yv hc)))).trans e1⟩
  ·by_cases hj:j=i
   ·subst hj;rw [hi] at e1; cases e1;rw [bW Vk] at e2;cases e2;exact⟨u,r,.inr ⟨.inl hk,c,hc,Rq⟩⟩
   ·rw [dM (fT hj)] at e2;obtain⟨u',r',q⟩:=hl j y v' e1 e2 e3;refine⟨u',r',?_⟩;rcases q with q | ⟨k,c',e,z'⟩
    ·exact .inl q
    ·refine .inr ⟨k,c',e,z'.sameBut hs ?_⟩;rintro rfl;exact hj (De hN e1 (I.ok.inj _ _ _ e hc ▸ hi))
  ·by_cases hcc:c'=c
   ·subst hcc; exact⟨_,Rq⟩
   ·obtain⟨w2,z2⟩:=I.cell y c' e;exact⟨w2,z2.sameBut hs hcc⟩
  ·obtain⟨e,n,ne,nf,d⟩:=I.pin p hp;refine⟨(hs.2 p.1 ?_).trans e,n,ne,nf,d⟩;intro q;rw [q,TZ] at e;have q':oc=p.2:=aY e;exact d w' (by rw [<-q']; exact Yh)
theorem CB{M:Model}{A:dj}{E:Value->aw->Prop}{i:Nat}{x:Str}{v:V}{u:Value}{Q:Unit->aw->Prop}(I:Inv X pins σ H s)(hN:X.N.Nodup)(hi:X.N[i]?=some x)(hx:Loc X.env.scope x)(r:RelV v u)
  (h:∀ s',Inv X pins (σ.set i (some v)) H s'->Q () s') (hf:autoParam (X.fn x=true\/X.env.scope.names.lookup x=some .local) Ao._auto_1):wpAny M A (storeName X.env x u) Q E s :=
 zy I hN hi hx r (fun s' I' _=>h s' I') hf
end
noncomputable abbrev XK:=Value->Option Addr->Hp->Prop
noncomputable abbrev St:=List (Option V)
noncomputable abbrev VK:=V->Hp->Prop
noncomputable abbrev TE:=St->Hp->VK->Prop
noncomputable abbrev TT:=St->Hp->(Bool->Hp->Prop)->Prop
noncomputable abbrev TA:=St->Hp->(List V->Hp->Prop)->Prop
structure Ends where
 nx:St->Hp->Prop
 rt:VK
 bk:St->Hp->Prop:=fun _ _=>False
 ct:St->Hp->Prop:=fun _ _=>False
noncomputable abbrev TS:=Ends->St->Hp->Prop
noncomputable def EP(X:Cx)(pins:List (Addr×Obj))(σ:St)(Q:VK)(u:Value)(s':aw):Prop:=∃ v H',Inv X pins σ H' s'/\RelV v u/\Q v H'
noncomputable def TP(X:Cx)(pins:List (Addr×Obj))(σ:St)(Q:Bool->Hp->Prop)(b:Bool)(s':aw):Prop:=∃ H',Inv X pins σ H' s'/\Q b H'
noncomputable def SP(X:Cx)(pins:List (Addr×Obj))(D:Ends)(f:Flow)(s':aw):Prop :=
 match f with
 | .next=>∃ i7 H',Inv X pins i7 H' s'/\D.nx i7 H'
 | .brk=>∃ i7 H',Inv X pins i7 H' s'/\D.bk i7 H'
 | .cont=>∃ i7 H',Inv X pins i7 H' s'/\D.ct i7 H'
 | .ret u=>∃ v i7 H',Inv X pins i7 H' s'/\RelV v u/\D.rt v H'
noncomputable def PE(X:Cx)(e:Expr)(t:TE):Prop :=
 ∀ (pins:List (Addr×Obj)) (s:aw) (σ:St) (H:Hp) (Q:VK),Inv X pins σ H s->t σ H Q->wpAny (model X.prog X.w) X.A (eval e X.env) (EP X pins σ Q) X.xe s
noncomputable def T9(X:Cx)(st:List Stmt)(t:TS):Prop :=
 ∀ (pins:List (Addr×Obj)) (s:aw) (σ:St) (H:Hp) (D:Ends),Inv X pins σ H s->t D σ H->wpAny (model X.prog X.w) X.A (execs st X.env) (SP X pins D) X.xe s
theorem gc{α:Type}{t:Sem α}{Q Q':α->aw->Prop}{M:Model}{A:dj}{E:Value->aw->Prop}{s:aw}(h:wpAny M A t Q E s)(hQ:∀ a s,Q a s->Q' a s):wpAny M A t Q' E s:=wpAny_mono h hQ fun _ _ x=>x
section
variable {X:Cx}
noncomputable def WR(i:Nat):TE:=fun σ H Q=>∃ v,σ[i]?=some (some v)/\Q v H
noncomputable def tC(v:V):TE:=fun _ H Q=>Q v H
theorem Sq {i:Nat} {x:Str} {pos:Pos} (hN:X.N[i]?=some x) (hv:Wr X.env.scope x) (hd:autoParam ((x == ("__debug__" : Str))=false) Ad._auto_1) (Iw:autoParam ((x == ("__classdict__" : Str))=false) Ad._auto_1):PE X (.Name x pos) (WR i):=by
 intro pins s σ H Q I h;obtain⟨v,e,h⟩:=h;obtain⟨m,hn,hl⟩:=I.loc;obtain⟨u,r,l⟩:=hl i x v hN e hv;have fin:EP X pins σ Q u s:=⟨v,H,I,r,h⟩;rcases l with ⟨hk,hm⟩ | ⟨hk,c,hc,oF⟩
 ·exact wpAny_Name (wpAny_loadName_local I.ok.kind hk hn hm fin) hd
 ·rcases hk with hk | hk
  ·exact wpAny_Name (wpAny_loadName_cell I.ok.kind hk hc oF fin) hd
  ·exact wpAny_Name (wpAny_loadName_free I.ok.kind hk hc oF fin Iw) hd
theorem Sr{i j pos}:PE X (.Constant (.int i) j pos) (tC (.int i)):=fun _ _ _ H _ I h=>wpAny_Constant_int ⟨.int i,H,I.tok _,⟨_,rfl⟩,h⟩
theorem UD{b j pos}:PE X (.Constant (.bool b) j pos) (tC (.bl b)):=fun _ _ _ H _ I h=>Constant_bool ⟨.bl b,H,I,rfl,h⟩
noncomputable def Gl(X:Cx)(x:Str):Prop:=X.env.kindOf x=some .globalImplicit
theorem Bm{E:Value->aw->Prop}{pins:List (Addr×Obj)}{s:aw}{σ:St}{H:Hp}{x:Str}{u:Value}{pos:Pos}{Q:Value->aw->Prop}(I:Inv X pins σ H s)(hg:Gl X x)(hm:X.mg x=some u)(h:Q u s)
  (hd:autoParam ((x == ("__debug__" : Str))=false) Ad._auto_1):wpAny (model X.prog X.w) X.A (eval (.Name x pos) X.env) Q E s :=
 EC I.ok.kind hg (Calls.loadGlobal_global (by rw [I.ok.glob]; exact I.mod.glob.keeps I.bk) hm h) hd
theorem pT{E:Value->aw->Prop}{pins:List (Addr×Obj)}{s:aw}{σ:St}{H:Hp}{x:Str}{u:Value}{pos:Pos}{Q:Value->aw->Prop}(I:Inv X pins σ H s)(hg:Gl X x)(hm:X.mg x=none)(hv:eB x=some u)(h:Q u s)
  (hn:autoParam (x≠"__name__") Ad._auto_1) (hd:autoParam ((x == ("__debug__" : Str))=false) Ad._auto_1):wpAny (model X.prog X.w) X.A (eval (.Name x pos) X.env) Q E s:=by
 obtain⟨mb,h1,h2⟩:=I.mod.blt;exact EC I.ok.kind hg (Calls.loadGlobal_builtin (by rw [I.ok.glob]; exact I.mod.glob.keeps I.bk) hm (by rw [I.ok.blt]; exact h1.keeps I.bk) ((h2 x hn).trans hv) h) hd
theorem Pw {x:Str} {v:V} {u:Value} {pos:Pos} (hg:Gl X x) (hm:X.mg x=some u) (r:RelV v u) (hd:autoParam ((x == ("__debug__" : Str))=false) Ad._auto_1):PE X (.Name x pos) (tC v) :=
 fun _ _ _ H _ I h=>Bm I hg hm ⟨v,H,I,r,h⟩ hd
variable {a b:Expr} {ta tb:TE} {pos:Pos}
noncomputable def tB(t:TE):TT:=fun σ H Q=>t σ H fun x H1=>∃ c,x=.bl c/\Q c H1
variable {tA tB':TT} {rest:List Expr}
end
noncomputable def qg(K:ai)(H:Hp)(a:Addr)(xs:List V):Prop :=
 Rd H a (.lst xs) \/
  ∃ (o:Obj) (bX:Array Value) (n:Nat),K.lookup a=some o/\o.cls=.type "list"/\o.dict=none/\o.data=.seq bX n/\bX.size<=aZ/\Vals xs bX.toList
noncomputable def wB(K:ai)(H:Hp)(a:Addr)(xs:List V):Prop :=
 Rd H a (.tup xs) \/
  ∃ (o:Obj) (bX:Array Value) (n:Nat),K.lookup a=some o/\o.cls=.type "tuple"/\o.data=.seq bX n/\bX.size<=aZ/\Vals xs bX.toList
noncomputable def Y6:Value->Option V
 | .none=>some .eh
 | .bool b=>some (.bl b)
 | .int i _=>some (.int i)
 | .str x _=>some (.str x)
 | .bytes b _=>some (.Tt b)
 | .float b _=>some (.Vz b)
 | .ref a=>some (.ref a)
 | .type n=>some (.ty n)
 | _=>none
theorem RelV.abs{x:V}{u:Value}(r:RelV x u):Y6 u=some x:=by
 cases x with
 | eh=>cases r; rfl
 | bl _=>cases r; rfl
 | int _=>obtain⟨t,rfl⟩:=r; rfl
 | str _=>obtain⟨t,rfl⟩:=r; rfl
 | Tt _=>obtain⟨t,rfl⟩:=r; rfl
 | Vz _=>obtain⟨t,rfl⟩:=r; rfl
 | ref _=>cases r; rfl
 | ty _=>cases r; rfl
theorem RelV.inj{x y:V}{u:Value}(r:RelV x u)(q:RelV y u):x=y:=aY (r.abs.symm.trans q.abs)
theorem Vals.inj:∀ {xs ys:List V} {us:List Value},Vals xs us->Vals ys us->xs=ys:=by
 intro xs ys us h;induction h generalizing ys with
 | nil=>intro k; cases k; rfl
 | cons r t ih =>
  intro k;cases k with
  | cons r' t'=>rw [r.inj r',ih t']
section
variable {X:Cx} {pins:List (Addr×Obj)} {σ:St} {H:Hp} {s:aw} {a:Addr} {xs ys:List V}
theorem qg.of{K:ai}(h:H a=some (.lst xs)):qg K H a xs:=.inl (.inl h)
theorem wB.of{K:ai}(h:H a=some (.tup xs)):wB K H a xs:=.inl (.inl h)
theorem Inv.list(I:Inv X pins σ H s)(h:qg X.K H a xs):∃ bX:List Value,Vals xs bX/\PlainL s.heap a bX.toArray/\xs.length<=aZ:=by
 rcases h with h | ⟨o,bX,n,hk,hc,hd,hs,hz,r⟩
 ·obtain⟨z,bX,n,r,e⟩:=h.ok I.cD;exact⟨bX,r,⟨_,n,e,rfl,rfl,rfl⟩,z⟩
 ·refine⟨bX.toList,r,⟨o,n,I.Ij a o hk,hc,hd,by simpa using hs⟩,?_⟩;have e:=r.length;simp only [eN] at e;lia
theorem Inv.tuple(I:Inv X pins σ H s)(h:wB X.K H a xs):∃ bX:List Value,Vals xs bX/\IsTup s.heap a bX.toArray/\xs.length<=aZ:=by
 rcases h with h | ⟨o,bX,n,hk,hc,hs,hz,r⟩
 ·obtain⟨z,bX,r,p⟩:=h.ok I.cD;exact⟨bX,r,p,z⟩
 ·refine⟨bX.toList,r,⟨o,I.Ij a o hk,hc,n,by simpa using hs⟩,?_⟩;have e:=r.length;simp only [eN] at e;lia
theorem Inv.xK(I:Inv X pins σ H s)(h:qg X.K H a xs)(h':qg X.K H a ys):xs=ys:=by
 obtain⟨bX,r,⟨o,n,e,_,_,d⟩,_⟩:=I.list h;obtain⟨its',r',⟨o',n',e',_,_,d'⟩,_⟩:=I.list h';rw [e] at e'; cases e';rw [d] at d';injection d' with d1 _
 have:bX=its':=by simpa using congrArg Array.toList d1
 subst this;exact r.inj r'
theorem Inv.Jk(I:Inv X pins σ H s)(h:wB X.K H a xs)(h':wB X.K H a ys):xs=ys:=by
 obtain⟨bX,r,⟨o,e,_,n,d⟩,_⟩:=I.tuple h;obtain⟨its',r',⟨o',e',_,n',d'⟩,_⟩:=I.tuple h';rw [e] at e'; cases e';rw [d] at d';injection d' with d1 _
 have:bX=its':=by simpa using congrArg Array.toList d1
 subst this;exact r.inj r'
end
noncomputable abbrev Cx.yW(X:Cx)(E:Value->aw->Prop):Cx:={ X with xe:=E }
noncomputable abbrev Cx.TU(X:Cx):Cx:=X.yW fun _ _=>False
theorem Cx.Ok.yW{X:Cx}(ok:X.Ok)(E:Value->aw->Prop):(X.yW E).Ok :=
 ⟨ok.mod,ok.kind,ok.glob,ok.blt,ok.above,ok.inj,ok.has,ok.VF,ok.hd,ok.frames,ok.VY,ok.Wo,ok.bs,ok.Qx,ok.JM,ok.NO,ok.xW,ok.T6⟩
theorem Cx.Ok.pv{X:Cx}{E:Value->aw->Prop}(ok:(X.yW E).Ok):X.Ok :=
 ⟨ok.mod,ok.kind,ok.glob,ok.blt,ok.above,ok.inj,ok.has,ok.VF,ok.hd,ok.frames,ok.VY,ok.Wo,ok.bs,ok.Qx,ok.JM,ok.NO,ok.xW,ok.T6⟩
section
variable {X:Cx} {pins:List (Addr×Obj)} {σ:St} {H:Hp} {s:aw} {E:Value->aw->Prop}
theorem Inv.yW(I:Inv X pins σ H s)(E:Value->aw->Prop):Inv (X.yW E) pins σ H s:=⟨I.ok.yW E,I.os,I.bare,I.base,I.loc,I.cell,I.free,I.oG,I.pin,I.cD,I.len⟩
theorem Inv.pv(I:Inv (X.yW E) pins σ H s):Inv X pins σ H s:=⟨I.ok.pv,I.os,I.bare,I.base,I.loc,I.cell,I.free,I.oG,I.pin,I.cD,I.len⟩
theorem SP.pv{D:Ends}{f:Flow}{s':aw}(h:SP (X.yW E) pins D f s'):SP X pins D f s':=by
 cases f with
 | next=>obtain⟨i7,H',I,q⟩:=h; exact⟨i7,H',I.pv,q⟩
 | brk=>obtain⟨i7,H',I,q⟩:=h; exact⟨i7,H',I.pv,q⟩
 | cont=>obtain⟨i7,H',I,q⟩:=h; exact⟨i7,H',I.pv,q⟩
 | ret u=>obtain⟨v,i7,H',I,r,q⟩:=h; exact⟨v,i7,H',I.pv,r,q⟩
theorem T9.TU{st:List Stmt}{t:TS}(h:T9 X.TU st t):T9 X st t:=fun pins s σ H D I hw =>
 wpAny_mono (h pins s σ H D (I.yW _) hw) (fun _ _ q=>q.pv) fun _ _ z=>bP z
end
section
variable {X:Cx} {st:Stmt} {rest:List Stmt} {t u:TS} {e:Expr} {te:TE} {pos:Pos}
theorem Inv.quiet{pins:List (Addr×Obj)}{σ:St}{H:Hp}{s:aw}(I:Inv X pins σ H s):interactive X.env=false:=by simp [interactive,I.ok.kind]
end
noncomputable abbrev Y8:=V->V->V->Hp->(Hp->Prop)->Prop
noncomputable def Za(X:Cx)(t:Y8):Prop :=
 ∀ (pins:List (Addr×Obj)) (s:aw) (σ:St) (H:Hp) (o i v:V) (ov iv u:Value) (Q:Hp->Prop),Inv X pins σ H s->RelV o ov->RelV i iv->RelV v u->t o i v H Q ->
  wpAny (model X.prog X.w) X.A (setItem ov iv u) (fun _ s'=>∃ H',Inv X pins σ H' s'/\Q H') X.xe s
structure It where
 go:Nat->Hp->Prop
 Zl:Nat->Hp->V->Hp->Prop
 stop:Nat->Hp->Prop
noncomputable def mM(X:Cx)(pins:List (Addr×Obj))(H:Hp)(b:Addr):Prop :=
 H b=none/\b≠X.env.locals/\b∉X.fs/\(b∈X.ex\/X.lV.heap.objs.size<=b)/\(∀ x c,X.env.cells.lookup x=some c->c≠b)/\∀ p∈X.pn++pins,p.1≠b
theorem Inv.Bv{X:Cx}{pins:List (Addr×Obj)}{σ:St}{H H':Hp}{s:aw}{b:Addr}(I:Inv X pins σ H s)(hb:s.heap.objs.size<=b)(hn:H' b=none):mM X pins H' b:=by
 refine⟨hn,Nat.ne_of_gt (bO I.lt hb),I.Xr hb,.inr (bu I.sz hb),fun x c e z=>?_,fun p hp z=>?_⟩
 ·obtain⟨v,q⟩:=I.cell x c e;exact absurd (bO q.lt (by rw [z]; exact hb)) (jc _)
 ·exact absurd (bO (aW (I.pin p hp).1) (by rw [z]; exact hb)) (jc _)
structure Turn(P:bJ)(w:World)(K:ai)(tg:Expr)(J:It)(fp:List Addr)(it:Addr)(tn:Nat->Heap->Prop):Prop where
 mem:it∈fp
 obj:∀ i h,tn i h->∀ b∈fp,∃ o,h.get? b=some o/\∀ v,o.data≠.cell v
 keep:∀ i h h',tn i h->(∀ b∈fp,∀ o,h.get? b=some o->h'.get? b=some o)->tn i h'
 item:∀ (X:Cx),X.prog=P->X.w=w->X.K=K->X.calm=true->∀ (i:Nat) (pins:List (Addr×Obj)) (s:aw) (σ:St) (H:Hp) (E:Value->aw->Prop),Inv X pins σ H s->(∀ b∈fp,mM X pins H b)->tn i s.heap->J.go i H ->
  wpAny (model P w) X.A (Ce (.ref it)) (fun r s1=>∃ u,r=some u /\
   wpAny (model P w) X.A (wJ tg (.ref it) u) (fun _ s2=>∃ x H',Inv X pins σ H' s2/\RelV x u/\J.Zl i H x H'/\tn (i+1) s2.heap/\∀ b∈fp,H' b=none) E s1) E s
 done:∀ (X:Cx),X.prog=P->X.w=w->X.K=K->X.calm=true->∀ (i:Nat) (pins:List (Addr×Obj)) (s:aw) (σ:St) (H:Hp) (E:Value->aw->Prop),Inv X pins σ H s->(∀ b∈fp,mM X pins H b)->tn i s.heap->J.stop i H ->
  wpAny (model P w) X.A (Ce (.ref it)) (fun r s1=>r=none/\Inv X pins σ H s1) E s
 self:∀ (A:dj) (i:Nat) (s:aw) (Q:Value->aw->Prop) (E:Value->aw->Prop),tn i s.heap->Q (.ref it) s->wpAny (model P w) A (Li (.ref it)) Q E s
noncomputable abbrev TI:=St->Hp->(It->Hp->Prop)->Prop
noncomputable def PIE(X:Cx)(pins:List (Addr×Obj))(σ:St)(tg:Expr)(R:It->Hp->Prop)(Q8:Value)(s2:aw):Prop :=
 ∃ (it:Addr) (fp:List Addr) (tn:Nat->Heap->Prop) (J:It) (H':Hp),Q8=.ref it/\Inv X pins σ H' s2/\Turn X.prog X.w X.K tg J fp it tn/\tn 0 s2.heap/\(∀ b∈fp,mM X pins H' b)/\R J H'
theorem Iz{M:Model}{A:dj}{E:Value->aw->Prop}{s:aw}{tg:Expr}{it:Addr}{u:Value}{o:Obj}{n:String}{vs:Array Value}{Q:Unit->aw->Prop}(ho:s.heap.get? it=some o)(hc:o.cls=.type n)(hd:o.data=.fields vs)
    (hn:["enumerate","zip","dict_itemiterator","dict_reverseitemiterator","odict_iterator","itertools.zip_longest","itertools.pairwise"].contains n=false) (hQ:Q () s):wpAny M A (wJ tg (.ref it) u) Q E s:=by
  unfold wJ;cases tg <;> first
    | exact aA hQ
    | (cases u <;> first
        | exact aA hQ
        | (refine ag (wpAny_load ho ?_)
           rw [hc,hd];show wpAny M A (if (["enumerate","zip","dict_itemiterator","dict_reverseitemiterator","odict_iterator","itertools.zip_longest","itertools.pairwise"].contains n&&vs[0]? == some (Cd _))=true then _ else _) Q E s;rw [if_neg (by intro h; rw [hn,Hi] at h; cases h)];exact aA hQ))
noncomputable def Itl(K:ai)(a:Addr):It :=
 ⟨fun i H=>∃ xs x,qg K H a xs/\xs[i]?=some x,fun i H x H'=>H'=H/\∀ xs,qg K H a xs->xs[i]?=some x,fun i H=>∃ xs,qg K H a xs/\xs.length<=i⟩
noncomputable def Itt(K:ai)(a:Addr):It :=
 ⟨fun i H=>∃ xs x,wB K H a xs/\xs[i]?=some x,fun i H x H'=>H'=H/\∀ xs,wB K H a xs->xs[i]?=some x,fun i H=>∃ xs,wB K H a xs/\xs.length<=i⟩
noncomputable def Zh(lo:Int)(n:Nat):It:=⟨fun i _=>i < n,fun i H x H'=>H'=H/\x=.int (lo+i),fun i _=>n<=i⟩
theorem Ji{P:bJ}{w:World}{K:ai}{tg:Expr}(a it:Addr):Turn P w K tg (Itl K a) [it] it (fun i h=>h.IsListIter it a i) where
 mem:=by simp
 obj:=fun i h st b hb=>by
  have e:b=it:=by simpa using hb
  subst e;obtain⟨o,e,c,d⟩:=st;exact⟨o,e,fun v z=>by rw [d] at z; cases z⟩
 keep:=fun i h h' st k=>st.at fun o e=>k it (by simp) o e
 item:=by
  intro X hP hw hK hc i pins s σ H E I hf st hg;subst hP hw hK;obtain⟨xs,x,hq,hx⟩:=hg;obtain⟨bX,rv,p,hz⟩:=I.list hq;obtain⟨u,hu,ru⟩:=rv.get hx;obtain⟨f0,f1,f2,f3,f4,f5⟩:=hf it (by simp);refine wpAny_pyNext_list_item st p.isList (x:=u) (by simpa using hu) fun h' EE sb=>?_;have I1:Inv X pins σ H { s with heap:=h' }:=I.turned (t':=s.toks) (fun b o hb e=>(sb.2 b hb).trans e) f0 f1 f3 f4 f5;obtain⟨o,e,c,d⟩:=id EE;exact⟨u,rfl,Iz (s:={ s with heap:=h' }) e c d (by decide) ⟨x,H,I1,ru,⟨rfl,fun ys hy=>by rw [I.xK hy hq]; exact hx⟩,EE,fun b hb=>(hf b hb).1⟩⟩
 done:=by
  intro X hP hw hK hc i pins s σ H E I hf st hg;subst hP hw hK;obtain⟨xs,hq,hx⟩:=hg;obtain⟨bX,rv,p,hz⟩:=I.list hq;obtain⟨f0,f1,f2,f3,f4,f5⟩:=hf it (by simp);have hl:=rv.length;exact wpAny_pyNext_list_end (I.ok.hd hc) st p.isList (by simp; lia) fun h' eb=>⟨rfl,I.turned (t':=s.toks) (fun b o hb e=>eb b o hb e) f0 f1 f3 f4 f5⟩
 self:=fun _ _ _ _ _ st h=>wpAny_pyIter_listiter st h
theorem EZ{P:bJ}{w:World}{K:ai}{tg:Expr}(a it:Addr):Turn P w K tg (Itt K a) [it] it (fun i h=>h.IsTupleIter it a i) where
 mem:=by simp
 obj:=fun i h st b hb=>by
  have e:b=it:=by simpa using hb
  subst e;obtain⟨o,e,c,d⟩:=st;exact⟨o,e,fun v z=>by rw [d] at z; cases z⟩
 keep:=fun i h h' st k=>st.at fun o e=>k it (by simp) o e
 item:=by
  intro X hP hw hK hc i pins s σ H E I hf st hg;subst hP hw hK;obtain⟨xs,x,hq,hx⟩:=hg;obtain⟨bX,rv,p,hz⟩:=I.tuple hq;obtain⟨u,hu,ru⟩:=rv.get hx;obtain⟨f0,f1,f2,f3,f4,f5⟩:=hf it (by simp);refine wpAny_pyNext_tuple_item st (show s.heap.IsTuple a bX.toArray from p) (x:=u) (by simpa using hu) fun h' EE sb=>?_;have I1:Inv X pins σ H { s with heap:=h' }:=I.turned (t':=s.toks) (fun b o hb e=>(sb.2 b hb).trans e) f0 f1 f3 f4 f5;obtain⟨o,e,c,d⟩:=id EE;exact⟨u,rfl,Iz (s:={ s with heap:=h' }) e c d (by decide) ⟨x,H,I1,ru,⟨rfl,fun ys hy=>by rw [I.Jk hy hq]; exact hx⟩,EE,fun b hb=>(hf b hb).1⟩⟩
 done:=by
  intro X hP hw hK hc i pins s σ H E I hf st hg;subst hP hw hK;obtain⟨xs,hq,hx⟩:=hg;obtain⟨bX,rv,p,hz⟩:=I.tuple hq;obtain⟨f0,f1,f2,f3,f4,f5⟩:=hf it (by simp);have hl:=rv.length;exact wpAny_pyNext_tuple_end (I.ok.hd hc) st (show s.heap.IsTuple a bX.toArray from p) (by simp; lia) fun h' eb=>⟨rfl,I.turned (t':=s.toks) (fun b o hb e=>eb b o hb e) f0 f1 f3 f4 f5⟩
 self:=fun _ _ _ _ _ st h=>wpAny_pyIter_tupleiter st h
theorem E1{P:bJ}{w:World}{K:ai}{tg:Expr}(it:Addr)(lo:Int)(n:Nat):Turn P w K tg (Zh lo n) [it] it (fun i h=>IsRangeIter h it (lo+(i:Nat) * 1) ((n:Int) - (i:Nat)) 1) where
 mem:=by simp
 obj:=fun i h st b hb=>by
  have e:b=it:=by simpa using hb
  subst e;exact⟨_,st,fun v z=>by
   have z':Data.fields _=Data.cell v:=z;cases z'⟩
 keep:=fun i h h' st k=>k it (by simp) _ st
 item:=by
  intro X hP hw hK hc i pins s σ H E I hf st hg;subst hP hw hK;obtain⟨f0,f1,f2,f3,f4,f5⟩:=hf it (by simp);have W:=Walks.range (prog:=X.prog) (w:=X.w) (I.ok.hd hc) it lo 1 n;refine W.item i s _ _ hg st fun v h' tk hv EE kk=>?_;obtain⟨t,rfl⟩:=hv;have I1:Inv X pins σ H { s with heap:=h',toks:=tk }:=I.turned (fun b o hb e=>kk b o (by simpa using hb) e) f0 f1 f3 f4 f5;refine⟨_,rfl,Iz (s:={ s with heap:=h',toks:=tk }) (n:="range_iterator") EE rfl rfl (by decide) ⟨.int (lo+i),H,I1,⟨t,?_⟩,⟨rfl,rfl⟩,EE,fun b hb=>(hf b hb).1⟩⟩;rw [Int.mul_one]
 done:=by
  intro X hP hw hK hc i pins s σ H E I hf st hg;subst hP hw hK;obtain⟨f0,f1,f2,f3,f4,f5⟩:=hf it (by simp);exact wpAny_pyNext_range_end (I.ok.hd hc) st (by have:n<=i:=hg; lia) fun h' eb=>⟨rfl,I.turned (t':=s.toks) (fun b o hb e=>eb b o hb e) f0 f1 f3 f4 f5⟩
 self:=fun _ _ _ _ _ st h=>wpAny_pyIter_rangeiter st h
section
variable {X:Cx} {tg:Expr}
theorem L8{pins:List (Addr×Obj)}{σ:St}{H:Hp}{s:aw}{R:It->Hp->Prop}{E:Value->aw->Prop}{lo hi:Int}{t u v:Tok}{tk:Nat}(I:Inv X pins σ H s)(h1:-(2 ^ 62)<=lo)(h2:lo < 2 ^ 62)(h3:-(2 ^ 62)<=hi)(h4:hi < 2 ^ 62)
  (q:R (Zh lo (hi - lo).toNat) H):wpAny (model X.prog X.w) X.A (Li (.ref s.heap.objs.size)) (PIE X pins σ tg R) E { s with heap:=s.heap.push { cls:=.type "range",data:=.fields #[.int lo t,.int hi u,.int 1 v] },toks:=tk }:=by
 refine wpAny_pyIter_range (IsRange.new ..) (small_one h1 h2 h3 h4) ?_;have I1:Inv X pins σ H { s with heap:=s.heap.push { cls:=.type "range",data:=.fields #[.int lo t,.int hi u,.int 1 v] },toks:=tk }:=I.kept fun b o e=>aK _ e
 refine⟨(s.heap.push { cls:=.type "range",data:=.fields #[.int lo t,.int hi u,.int 1 v] }).objs.size,[(s.heap.push { cls:=.type "range",data:=.fields #[.int lo t,.int hi u,.int 1 v] }).objs.size],_,_,H,rfl,
  I1.kept (t':=tk) fun b o e=>aK _ e,E1 _ lo (hi - lo).toNat,?_,fun b hb=>?_,q⟩
 ·have e1:lo+((0:Nat):Int) * 1=lo:=by simp
  have e2:(((hi - lo).toNat:Nat):Int) - ((0:Nat):Int)=Builtin.Range.rangeSize lo hi 1:=by rw [rangeSize_one]; split <;> lia
  show IsRangeIter _ _ (lo+((0:Nat):Int) * 1) ((((hi - lo).toNat:Nat):Int) - ((0:Nat):Int)) 1;rw [e1,e2];exact bt _ rfl
 ·have e:b=(s.heap.push { cls:=.type "range",data:=.fields #[.int lo t,.int hi u,.int 1 v] }).objs.size:=by simpa using hb
  subst e;exact I1.Bv (aF _) (I1.cD.fresh (aF _))
noncomputable def pO(fp:List Addr)(h:Heap):List (Addr×Obj):=fp.filterMap fun b=>(h.get? b).map fun o=>(b,o)
theorem nY{fp:List Addr}{h:Heap}{b:Addr}{o:Obj}(hb:b∈fp)(e:h.get? b=some o):(b,o)∈pO fp h:=List.mem_filterMap.mpr ⟨b,hb,by rw [e]; rfl⟩
theorem JL{fp:List Addr}{h:Heap}{p:Addr×Obj}(hp:p∈pO fp h):p.1∈fp/\h.get? p.1=some p.2:=by
 obtain⟨b,hb,e⟩:=List.mem_filterMap.mp hp;cases q:h.get? b with
 | none=>rw [q] at e; cases e
 | some o =>
  rw [q] at e;have e':(b,o)=p:=aY e;subst e';exact⟨hb,q⟩
theorem Inv.pinned{pins:List (Addr×Obj)}{σ:St}{H:Hp}{s:aw}{fp:List Addr}(I:Inv X pins σ H s)(hf:∀ b∈fp,mM X pins H b)(ho:∀ b∈fp,∃ o,s.heap.get? b=some o/\∀ v,o.data≠.cell v):Inv X (pins++pO fp s.heap) σ H s :=
 I.HM fun p hp=>(List.mem_append.mp hp).elim (fun z=>I.pin p (cY _ z)) fun z=>by
  obtain⟨hb,e⟩:=JL z;obtain⟨f0,f1,f2,_⟩:=hf p.1 hb;obtain⟨o,e',d⟩:=ho p.1 hb;rw [e] at e'; cases e';exact⟨e,f0,f1,f2,d⟩
theorem Inv.sE{pins pl:List (Addr×Obj)}{σ:St}{H:Hp}{s:aw}(I:Inv X (pins++pl) σ H s):Inv X pins σ H s:=I.HM fun p hp=>I.pin p (cY _ (mC _ hp))
end
noncomputable abbrev R2:=V->V->Hp->VK->Prop
noncomputable def KG(X:Cx)(f:Value->Value->Sem Value)(r:R2):Prop :=
 ∀ (pins:List (Addr×Obj)) (s:aw) (σ:St) (H:Hp) (x y:V) (v u:Value) (Q:VK),Inv X pins σ H s->RelV x v->RelV y u->r x y H Q ->
  wpAny (model X.prog X.w) X.A (f v u) (EP X pins σ Q) X.xe s
noncomputable def UnR(X:Cx)(f:Value->Sem Value)(r:V->Hp->VK->Prop):Prop :=
 ∀ (pins:List (Addr×Obj)) (s:aw) (σ:St) (H:Hp) (x:V) (v:Value) (Q:VK),Inv X pins σ H s->RelV x v->r x H Q ->
  wpAny (model X.prog X.w) X.A (f v) (EP X pins σ Q) X.xe s
noncomputable def Oy(X:Cx)(f:Value)(r:List V->Hp->VK->Prop):Prop :=
 ∀ (pins:List (Addr×Obj)) (s:aw) (σ:St) (H:Hp) (xs:List V) (us:List Value) (Q:VK),Inv X pins σ H s->Vals xs us->r xs H Q ->
  wpAny (model X.prog X.w) X.A (call f us) (EP X pins σ Q) X.xe s
noncomputable def Y7(X:Cx)(r:V->Hp->(Bool->Hp->Prop)->Prop):Prop :=
 ∀ (pins:List (Addr×Obj)) (s:aw) (σ:St) (H:Hp) (x:V) (v:Value) (Q:Bool->Hp->Prop),Inv X pins σ H s->RelV x v->r x H Q ->
  wpAny (model X.prog X.w) X.A (truthy v) (TP X pins σ Q) X.xe s
noncomputable def rI(C:Int->Int->Prop)(g:Int->Int->V):R2:=fun x y H Q=>∃ i j,x=.int i/\y=.int j/\C i j/\Q (g i j) H
noncomputable def Uz(g:Int->Int->V):R2:=fun x y H Q=>∃ i j,x=.int i/\y=.int j/\Q (g i j) H
noncomputable def rU(g:Int->V):V->Hp->VK->Prop:=fun x H Q=>∃ i,x=.int i/\Q (g i) H
section
variable {X:Cx} {a b c:Expr} {ta tb tc:TE} {pos:Pos}
theorem V3{f:Value->Value->Sem Value}{C:Int->Int->Prop}{g:Int->Int->Int}
  (rule:∀ (i j:Int) (t u:Tok) (s:aw) (Q:Value->aw->Prop) (E:Value->aw->Prop),C i j->Q (.int (g i j) s.toks) { s with toks:=s.toks+1 }->wpAny (model X.prog X.w) X.A (f (.int i t) (.int j u)) Q E s) :
  KG X f (rI C fun i j=>.int (g i j)):=by
 intro pins s σ H x y v u Q I rx ry h;obtain⟨i,j,rfl,rfl,hc,q⟩:=h;obtain⟨t,rfl⟩:=rx;obtain⟨t',rfl⟩:=ry;exact rule i j t t' s _ _ hc ⟨.int (g i j),H,I.tok _,⟨_,rfl⟩,q⟩
theorem UH{f:Value->Value->Sem Value}{g:Int->Int->Int}
  (rule:∀ (i j:Int) (t u:Tok) (s:aw) (Q:Value->aw->Prop) (E:Value->aw->Prop),Q (.int (g i j) s.toks) { s with toks:=s.toks+1 }->wpAny (model X.prog X.w) X.A (f (.int i t) (.int j u)) Q E s) :
  KG X f (Uz fun i j=>.int (g i j)):=by
 intro pins s σ H x y v u Q I rx ry h;obtain⟨i,j,rfl,rfl,q⟩:=h;obtain⟨t,rfl⟩:=rx;obtain⟨t',rfl⟩:=ry;exact rule i j t t' s _ _ ⟨.int (g i j),H,I.tok _,⟨_,rfl⟩,q⟩
theorem W9{f:Value->Value->Sem Value}{g:Int->Int->Bool}
  (rule:∀ (i j:Int) (t u:Tok) (s:aw) (Q:Value->aw->Prop) (E:Value->aw->Prop),Q (.bool (g i j)) s->wpAny (model X.prog X.w) X.A (f (.int i t) (.int j u)) Q E s) :
  KG X f (Uz fun i j=>.bl (g i j)):=by
 intro pins s σ H x y v u Q I rx ry h;obtain⟨i,j,rfl,rfl,q⟩:=h;obtain⟨t,rfl⟩:=rx;obtain⟨t',rfl⟩:=ry;exact rule i j t t' s _ _ ⟨.bl (g i j),H,I,rfl,q⟩
noncomputable def Zj(i j:Int):Prop:=0 < j/\j < 1073741824
noncomputable def TK(i j:Int):Prop:=(-(2 ^ 64) < i/\i < 2 ^ 64)\/(-(2 ^ 64) < j/\j < 2 ^ 64)
theorem TK.ok{i j:Int}(h:TK i j):IntMulOk i j:=by
 rcases h with ⟨h1,h2⟩ | ⟨h1,h2⟩
 ·exact .of_left (intBits_le_64 h1 h2)
 ·exact .of_right (intBits_le_64 h1 h2)
theorem SA:KG X (iA .Add) (Uz fun i j=>.int (i+j)):=UH fun _ _ _ _ _ _ _ q=>add_int q
theorem Sw:KG X (iA .Sub) (Uz fun i j=>.int (i - j)):=UH fun _ _ _ _ _ _ _ q=>sub_int q
theorem Sx:KG X (iA .Mult) (rI TK fun i j=>.int (i * j)):=V3 fun _ _ _ _ _ _ _ hc q=>mul_int q hc.ok
theorem PG:KG X (iA .FloorDiv) (rI Zj fun i j=>.int (i / j)):=V3 fun i j _ _ _ _ _ hc q=>by
 have h1:(0:Int) < j:=hc.1;have h2:j < 1073741824:=hc.2;exact floordiv_int (by lia) (by rw [Int.fdiv_eq_ediv_of_nonneg i (by lia)]; exact q) (.inl (PyProof.noPylong_small (by lia)))
theorem Sy:KG X (iA .Mod) (rI (fun _ j=>0 < j) fun i j=>.int (i % j)):=V3 fun i j _ _ _ _ _ hc q=>by
 have h1:(0:Int) < j:=hc;exact mod_int' (by lia) (by rw [Int.fmod_eq_emod_of_nonneg i (by lia)]; exact q)
theorem unI{f:Value->Sem Value}{g:Int->Int}
  (rule:∀ (i:Int) (t:Tok) (s:aw) (Q:Value->aw->Prop) (E:Value->aw->Prop),Q (.int (g i) s.toks) { s with toks:=s.toks+1 }->wpAny (model X.prog X.w) X.A (f (.int i t)) Q E s) :
  UnR X f (rU fun i=>.int (g i)):=by
 intro pins s σ H x v Q I rx h;obtain⟨i,rfl,q⟩:=h;obtain⟨t,rfl⟩:=rx;exact rule i t s _ _ ⟨.int (g i),H,I.tok _,⟨_,rfl⟩,q⟩
theorem RO:UnR X (unaryOp .USub) (rU fun i=>.int (-i)):=unI fun _ _ _ _ _ q=>neg_int q
end
section
variable {X:Cx} {a b c:Expr} {ta tb tc:TE} {pos:Pos}
theorem UG:KG X (eW .Lt) (Uz fun i j=>.bl (decide (i < j))):=W9 fun _ _ _ _ _ _ _ q=>lt_int q
theorem hB(b:Expr){op:CmpOp}(h:autoParam (op≠.In) Ad._auto_1)(h2:autoParam (op≠.NotIn) Ad._auto_1):behindInMarks op b=false:=by
 have e1:(op == CmpOp.In)=false:=by cases op <;> first | rfl | exact absurd rfl h
 have e2:(op == CmpOp.NotIn)=false:=by cases op <;> first | rfl | exact absurd rfl h2
 cases b with
 | Set es k _ =>
  show (k == 0&&(op == .In||op == .NotIn)&&es.all (constantsAlone 8))=false;rw [e1,e2,Bool.or_false,Hj,Hi]
 | _=>rfl
noncomputable def Tx(K:ai)(x:V)(H:Hp)(k:Bool):Prop :=
 match x with
 | .eh=>k=false
 | .bl b=>k=b
 | .int i=>k=(i != 0)
 | .str y=>y.length<=aZ/\k=((y.length:Int) != 0)
 | .Tt y=>y.size<=aZ/\k=((y.size:Int) != 0)
 | .ref p=>(∃ xs,qg K H p xs/\k=!xs.isEmpty)\/(∃ xs,wB K H p xs/\k=!xs.isEmpty)\/∃ kvs,H p=some (.dK kvs)/\k=!kvs.isEmpty
 | _=>False
theorem FP{κ:Type}{kvs:List (κ×V)}{vs:List (κ×Value)}(r:KV kvs vs):(!vs.isEmpty)=!kvs.isEmpty:=by
 cases r <;> rfl
theorem xT{xs:List V}{bX:List Value}(r:Vals xs bX):(!bX.toArray.isEmpty)=!xs.isEmpty:=by
 cases r <;> simp
theorem xM:(aZ:Nat) < 2 ^ 63:=by rw [cQ]; decide
theorem RQ:Y7 X (fun x H Q=>∃ k,Tx X.K x H k/\Q k H):=by
 intro pins s σ H x v Q I rx h;obtain⟨k,e,q⟩:=h;have hl:=xM;have hs:aZ=16777216:=cQ;cases x with
 | eh =>
  cases rx;have e':k=false:=e;subst e';exact truthy_none ⟨H,I,q⟩
 | bl b =>
  cases rx;have e':k=b:=e;subst e';exact sx ⟨H,I,q⟩
 | int i =>
  obtain⟨t,rfl⟩:=rx;have e':k=(i != 0):=e;subst e';exact PySem.P.truthy_int ⟨H,I,q⟩
 | str y =>
  obtain⟨t,rfl⟩:=rx;obtain⟨hy,e'⟩:y.length<=aZ/\k=((y.length:Int) != 0):=e;subst e';exact PySem.P.truthy_str (by lia) ⟨H,I.tok _,q⟩
 | Tt y =>
  obtain⟨t,rfl⟩:=rx;obtain⟨hy,e'⟩:y.size<=aZ/\k=((y.size:Int) != 0):=e;subst e';exact PySem.W.truthy_bytes (by lia) ⟨H,I.tok _,q⟩
 | ref p =>
  cases rx;have e':(∃ xs,qg X.K H p xs/\k=!xs.isEmpty)\/(∃ xs,wB X.K H p xs/\k=!xs.isEmpty)\/∃ kvs,H p=some (.dK kvs)/\k=!kvs.isEmpty:=e;rcases e' with ⟨xs,hx,e'⟩ | ⟨xs,hx,e'⟩ | ⟨kvs,hx,e'⟩
  ·subst e';obtain⟨bX,r,pl,hz⟩:=I.list hx;have hlen:=r.length;exact wpAny_truthy_list pl.isList (by simp only [aX]; lia) ⟨H,I.tok _,by rw [xT r]; exact q⟩
  ·subst e';obtain⟨bX,r,pl,hz⟩:=I.tuple hx;have hlen:=r.length;exact truthy_tuple pl (by simp only [aX]; lia) ⟨H,I.tok _,by rw [xT r]; exact q⟩
  ·subst e';obtain⟨hz,hS,vs,r,m⟩:kvs.length<=aZ/\(p == cV)=false/\∃ vs,KV kvs vs/\s.heap.DictOf (cK X.prog X.w) p vs:=I.cD p _ hx;have hlen:kvs.length=vs.length:=gU r;exact EJ hS m (by lia) ⟨H,I.tok _,by rw [FP r]; exact q⟩
 | _=>exact(show False from e).elim
theorem Fv:KG X (iA .Add) (fun x y H Q=>∃ i j,x=.str i/\y=.str j/\i.length+j.length<=aZ/\Q (.str (i++j)) H):=by
 intro pins s σ H x y v u Q I rx ry h;obtain⟨i,j,rfl,rfl,hz,q⟩:=h;obtain⟨t,rfl⟩:=rx;obtain⟨t',rfl⟩:=ry;exact add_str (fun t' tk=>⟨.str (i++j),H,I.tok _,⟨_,rfl⟩,q⟩) hz
theorem vals1{x:V}{us:List Value}(r:Vals [x] us):∃ u,us=[u]/\RelV x u:=by
 cases r with
 | cons r1 r2=>cases r2; exact⟨_,rfl,r1⟩
theorem vals2{x y:V}{us:List Value}(r:Vals [x,y] us):∃ u w',us=[u,w']/\RelV x u/\RelV y w':=by
 cases r with
 | cons r1 r2 =>
  cases r2 with
  | cons r3 r4=>cases r4; exact⟨_,_,rfl,r1,r3⟩
noncomputable def VQ(K:ai)(x:V)(H:Hp)(n:Nat):Prop :=
 match x with
 | .str y=>y.length<=aZ/\n=y.length
 | .Tt y=>y.size<=aZ/\n=y.size
 | .ref p=>(∃ xs,qg K H p xs/\n=xs.length)\/∃ xs,wB K H p xs/\n=xs.length
 | _=>False
theorem Ob:Oy X (.builtin "len") (fun xs H Q=>∃ x n,xs=[x]/\VQ X.K x H n/\Q (.int n) H):=by
 intro pins s σ H xs us Q I r h;obtain⟨x,n,rfl,e,q⟩:=h;obtain⟨u,rfl,rx⟩:=vals1 r;have hl:=xM;have hs:aZ=16777216:=cQ;cases x with
 | str y =>
  obtain⟨t,rfl⟩:=rx;obtain⟨hy,e'⟩:y.length<=aZ/\n=y.length:=e;subst e';exact len_str (by lia) ⟨.int _,H,I.tok _,⟨_,rfl⟩,q⟩
 | Tt y =>
  obtain⟨t,rfl⟩:=rx;obtain⟨hy,e'⟩:y.size<=aZ/\n=y.size:=e;subst e';exact PySem.W.len_bytes (by lia) ⟨.int _,H,I.tok _,⟨_,rfl⟩,q⟩
 | ref p =>
  cases rx;have e':(∃ xs,qg X.K H p xs/\n=xs.length)\/∃ xs,wB X.K H p xs/\n=xs.length:=e;rcases e' with ⟨xs,hx,e'⟩ | ⟨xs,hx,e'⟩
  ·subst e';obtain⟨bX,r',pl,hz⟩:=I.list hx;have hlen:=r'.length;exact Calls.call_len_list pl.isList (by simp only [aX]; lia) ⟨.int xs.length,H,I.tok _,⟨_,by simp only [aX]; rw [hlen]⟩,q⟩
  ·subst e';obtain⟨bX,r',pl,hz⟩:=I.tuple hx;have hlen:=r'.length;exact len_tuple pl (by simp only [aX]; lia) ⟨.int xs.length,H,I.tok _,⟨_,by simp only [aX]; rw [hlen]⟩,q⟩
 | _=>exact(show False from e).elim
end
structure adH(h:Heap)(x dx C:Addr)(mA:Str->Option Value):Prop where
 obj:h.get? x=some (PySem.W.instObj C dx)
 ns:h.Ns1 dx mA
 ne:dx≠x
theorem vi.some_of{v:V}{o:Option Value}(r:vi (some v) o):∃ u,o=some u/\RelV v u:=by
 cases o with
 | none=>exact(show False from r).elim
 | some u=>exact⟨u,rfl,r⟩
structure Cls(K:ai)(C:Addr):Prop where
 pg:PySem.W.plainGet K C Str.empty=true
 hd:PySem.W.hasDictIn K C=true
 po:PySem.W.plainOver K C=true
 sa:nK K (.ref C) "__setattr__" = some (some (.builtin "object.__setattr__"))
structure Con(K:ai)(C:Addr)(f:Str)(v:V)(u:Value):Prop where
 at_:nK K (.ref C) f=some (some u)
 rel:RelV v u
 get:OP K u "__get__" = some none
 cp:PySem.W.copiedNames.contains f=false
structure Meth(K:ai)(C:Addr)(m:Str)(f:Addr):Prop where
 at_:nK K (.ref C) m=some (some (.ref f))
 fn:PySem.W.isFn K (.ref f)=true
 kp:kF K (.ref f)=true
section
variable {X:Cx} {pins:List (Addr×Obj)} {σ:St} {H:Hp} {s:aw} {A:dj} {E:Value->aw->Prop} {Q:Value->aw->Prop} {c:Value} {b:Bool}
inductive yv (K:ai) (H:Hp):V->Value->Prop where
 | eh:yv K H .eh (.type "NoneType")
 | bl (x:Bool):yv K H (.bl x) (.type "bool")
 | int (i:Int):yv K H (.int i) (.type "int")
 | str (x:Str):yv K H (.str x) (.type "str")
 | Vz (x:UInt64):yv K H (.Vz x) (.type "float")
 | lst {a:Addr} {xs:List V} (e:H a=some (.lst xs)):yv K H (.ref a) (.type "list")
 | jh {a:Addr} {o:Obj} {xs:List V} (e:H a=some (.jh o (.lst xs))):yv K H (.ref a) (.type "list")
 | tup {a:Addr} {xs:List V} (e:H a=some (.tup xs)):yv K H (.ref a) (.type "tuple")
 | dK {a:Addr} {kvs:List (Key×V)} (e:H a=some (.dK kvs)):yv K H (.ref a) (.type "dict")
 | dT {a:Addr} {kvs:List (List Key×V)} (e:H a=some (.dT kvs)):yv K H (.ref a) (.type "dict")
 | ins {a C dx:Addr} {fs:List (Str×V)} (e:H a=some (.ins C dx fs)) (cl:Cls K C) (ha:nK K (.ref C) "__class__" = some (some (.builtin "object.__class__")))
   (hn:OP K (.builtin "object.__class__") "__get__" = some (some (.builtin "getset_descriptor.__get__"))) (htk:PySem.W.takesIn K (.builtin "object.__class__")=some true)
   (hm:PySem.W.mroIn K C (.type "object")=some true):yv K H (.ref a) (.ref C)
end
structure lO(k:Nat)(A:dj):Prop where
 hd:A.handled=none
 dp:A.depth+3 * k+5 < recursionLimit
 un:A.units+16 * k+200 < cLine
theorem lO.mono{j k:Nat}{A:dj}(r:lO k A)(h:j<=k):lO j A:=⟨r.hd,by have:=r.dp; lia,by have:=r.un; lia⟩
theorem lO.deeper{k:Nat}{A:dj}(r:lO (k+1) A)(env:Env):lO k (A.deeper env) :=
 ⟨r.hd,by have:=r.dp; show A.depth+1+3 * k+5 < _; lia,by have:=r.un; show A.units+3+16 * k+200 < _; lia⟩
theorem lO.depth{k:Nat}{A:dj}(r:lO k A):A.depth < recursionLimit:=by have:=r.dp; lia
theorem lO.units{k:Nat}{A:dj}(r:lO k A):A.units+64 < cLine:=by have:=r.un; lia
theorem lO.Lz{k:Nat}{A:dj}(r:lO k A):A.units < cLine:=by have:=r.un; lia
noncomputable abbrev Sp:=List V->Hp->VK->XK->Prop
noncomputable abbrev KR:=List Env->Hp->aw->XK->Value->aw->Prop
structure QG(P:bJ)(w:World)(K:ai)(mg:Str->Option Value)(base:Heap)(A:dj)(outer:List Env)(s:aw)(H:Hp):Prop where
 frames:A.frames=some outer
 mod:Mod K mg base
 bs:∀ b o,base.get? b=some o->s.heap.get? b=some o/\H b=none
 Qx:base.objs.size<=s.heap.objs.size
 xW:s.heap.FunFrames base outer
 T6:∀ b∈La outer,H b=none
 cD:oJ P w H s.heap
 bare:AN s.gens
noncomputable def CE(outer:List Env)(P:bJ)(w:World)(H:Hp)(s:aw)(Q:VK)(u:Value)(s':aw):Prop :=
 ∃ v H',s'.os=s.os/\AN s'.gens/\Un (La outer) [] H H' s.heap s'.heap/\oJ P w H' s'.heap/\RelV v u/\Q v H'
noncomputable def CR(CX:KR)(outer:List Env)(P:bJ)(w:World)(H:Hp)(s:aw)(Q:VK)(E:XK)(r:Result)(s':aw):Prop :=
 match r with
 | .ok (.ret u)=>CE outer P w H s Q u s'
 | .ok _=>False
 | .error e=>CX outer H s E e s'
structure fX(P:bJ)(w:World)(K:ai)(mg:Str->Option Value)(base:Heap)(CX:KR)(k:Nat)(f:Addr)(fd:aI)(ps:List Str)(sp:Sp):Prop where
 len:∀ vs H Q E,sp vs H Q E->vs.length=ps.length
 run:∀ (A:dj) (outer:List Env) (s:aw) (H:Hp) (args:Args) (us:List Value) (vs:List V) (Q:VK) (E:XK),lO k A->QG P w K mg base A outer s H->Lu s fd args (ps.zip us)->Vals vs us->sp vs H Q E ->
  EN (model P w) A (.call (.ref f) args) (CR CX outer P w H s Q E) s
section
variable {X:Cx} {pins:List (Addr×Obj)} {σ:St} {H:Hp} {s s':aw}
theorem Inv.YS(I:Inv X pins σ H s):QG X.prog X.w X.K X.mg X.base X.A X.stack s H :=
 ⟨I.ok.frames,I.ok.mod,I.bs,bu I.ok.Qx I.sz,I.stack,I.Hs,I.cD,I.bare⟩
theorem Inv.after{Q:VK}{u:Value}(I:Inv X pins σ H s)(h:CE X.stack X.prog X.w H s Q u s'):EP X pins σ Q u s':=by
 obtain⟨v,H',os,bare,un,cD,r,q⟩:=h;obtain⟨hh,g,d,t,os'⟩:=s';obtain rfl:os'=s.os:=os;exact⟨v,H',I.call (h':=hh) (g':=g) (d':=d) (t':=t) (ch:=[]) un cD bare (fun b z=>absurd z (by simp)),r,q⟩
end
noncomputable def Binds(K:ai)(fd:aI)(ps:List Str)(ds:List Value):Prop :=
 ∀ (s:aw) (us:List Value),K.In s.heap->(us++ds).length=ps.length->Lu s fd ⟨us,[]⟩ (ps.zip (us++ds))
theorem Binds.all{K:ai}{fd:aI}{ps:List Str}(h:∀ us:List Value,us.length=ps.length->bindArgs fd ⟨us,[]⟩=pure (ps.zip us)):Binds K fd ps []:=fun s us _ hl=>by
 rw [cz] at hl ⊢;exact .of_eq (h us hl)
noncomputable def Passes(CX:KR)(X:Cx)(E:XK):Prop:=∀ (pins:List (Addr×Obj)) (σ:St) (H:Hp) (s:aw) (e:Value) (s':aw),Inv X pins σ H s->CX X.stack H s E e s'->X.xe e s'
section
variable {X:Cx} {CX:KR} {k:Nat} {f C:Addr} {fd:aI} {ps:List Str} {sp:Sp} {Wq:List V} {ds:List Value} {E:XK} {x m:Str} {p pos apos:Pos} {e o:Expr} {es:List Expr} {ta:TE} {t:TA}
theorem R9{pins:List (Addr×Obj)}{σ:St}{H:Hp}{s:aw}{Q:VK}{us:List Value}{vs:List V}(F:fX X.prog X.w X.K X.mg X.base CX k f fd ps sp)(hr:lO k X.A)(hb:Binds X.K fd ps ds)(hd:Vals Wq ds)(hx:Passes CX X E)
  (I:Inv X pins σ H s) (r:Vals vs us) (h:sp (vs++Wq) H Q E):wpAny (model X.prog X.w) X.A (call (.ref f) us) (EP X pins σ Q) X.xe s:=by
 have r2:Vals (vs++Wq) (us++ds):=r.append hd;have hl:(us++ds).length=ps.length:=by rw [<-r2.length]; exact F.len _ _ _ _ h
 refine wpAny_call (codeAny_mono (F.run X.A X.stack s H ⟨us,[]⟩ (us++ds) (vs++Wq) Q E hr I.YS (hb s us I.Ij hl) r2 h) fun r s' hq=>?_);cases r with
 | error e=>exact hx pins σ H s e s' I hq
 | ok fl =>
  cases fl with
  | ret u=>exact I.after hq
  | next=>exact bP hq
  | brk=>exact bP hq
  | cont=>exact bP hq
structure Mk(K:ai)(C f:Addr):Prop where
 makes:PySem.W.makesIn K C=true
 init:nK K (.ref C) "__init__" = some (some (.ref f))
 fn:PySem.W.isFn K (.ref f)=true
 kp:kF K (.ref C)=true
end
section
variable {X:Cx} {CX:KR} {k:Nat} {f C:Addr} {fd:aI} {ps ks:List Str} {sp:Sp} {E:XK} {x m:Str} {p pos apos abt:Pos} {e o:Expr} {es:List Expr} {kws:List Lq} {te ta:TE} {t tk:TA} {nm:Option Str}
structure Zd(K:ai)(fd:aI)(ps ks:List Str)(g:List Value->List Value->List Value)(gV:List V->List V->List V):Prop where
 to:∀ (s:aw) (us ws:List Value),K.In s.heap->(g us ws).length=ps.length->Lu s fd ⟨us,ks.zip ws⟩ (ps.zip (g us ws))
 rel:∀ {vs:List V} {us:List Value} {zs:List V} {ws:List Value},Vals vs us->Vals zs ws->Vals (gV vs zs) (g us ws)
variable {g:List Value->List Value->List Value} {gV:List V->List V->List V}
end
structure cA(N P:List Str)(sc:Scope):Prop where
 kind:sc.kind=.function
 co:sc.isCoroutine=false
 gen:sc.isGenerator=false
 nd:N.Nodup
 pre:N.take P.length=P
 par:∀ x∈P,sc.names.lookup x=some .local\/sc.names.lookup x=some .cell
 SG:∀ y∈sc.names,y.2≠.free
theorem AA{kindOf:Str->Option qX}{x:Str}:∀ {binds:List (Str×Value)} {m:Str->Option Value},(∀ v,(x,v)∉binds)->bindL kindOf binds m x=m x
 | [],_,_=>rfl
 | (n,v) :: r,m,h=>by
  unfold bindL;rw [AA fun w hw=>h w (aL _ hw)];split
  ·have:x≠n:=by rintro rfl; exact h v cb
   simp [this]
  ·rfl
theorem AD{kindOf:Str->Option qX}{x:Str}:∀ {binds:List (Str×Value)} {m:Str->Option Value},(∀ v,(x,v)∉binds)->bindC kindOf binds m x=m x
 | [],_,_=>rfl
 | (n,v) :: r,m,h=>by
  unfold bindC;rw [AD fun w hw=>h w (aL _ hw)];split
  ·rfl
  ·have:x≠n:=by rintro rfl; exact h v cb
   simp [this]
theorem AB{kindOf:Str->Option qX}{x:Str}{v:Value}:∀ {P:List Str} {vs:List Value} {i:Nat} {m:Str->Option Value},P.Nodup->P[i]?=some x->vs[i]?=some v->kindOf x=some .local ->
  bindL kindOf (P.zip vs) m x=some v
 | [],_,_,_,_,h,_,_=>by simp at h
 | _ :: _,[],_,_,_,_,h,_=>by simp at h
 | p :: P,w :: vs,0,m,nd,h1,h2,hk=>by
  simp at h1 h2; subst h1; subst h2;show bindL kindOf ((p,w) :: P.zip vs) m p=_;unfold bindL;rw [AA fun v hv=>(List.nodup_cons.mp nd).1 (Ew hv).1,if_pos hk];simp
 | p :: P,w :: vs,i+1,m,nd,h1,h2,hk=>by
  show bindL kindOf ((p,w) :: P.zip vs) m x=_;unfold bindL;exact AB (i:=i) (List.nodup_cons.mp nd).2 (by simpa using h1) (by simpa using h2) hk
theorem AE{kindOf:Str->Option qX}{x:Str}{v:Value}:∀ {P:List Str} {vs:List Value} {i:Nat} {m:Str->Option Value},P.Nodup->P[i]?=some x->vs[i]?=some v->kindOf x≠some .local ->
  bindC kindOf (P.zip vs) m x=some v
 | [],_,_,_,_,h,_,_=>by simp at h
 | _ :: _,[],_,_,_,_,h,_=>by simp at h
 | p :: P,w :: vs,0,m,nd,h1,h2,hk=>by
  simp at h1 h2; subst h1; subst h2;show bindC kindOf ((p,w) :: P.zip vs) m p=_;unfold bindC;rw [AD fun v hv=>(List.nodup_cons.mp nd).1 (Ew hv).1,if_neg hk];simp
 | p :: P,w :: vs,i+1,m,nd,h1,h2,hk=>by
  show bindC kindOf ((p,w) :: P.zip vs) m x=_;unfold bindC;exact AE (i:=i) (List.nodup_cons.mp nd).2 (by simpa using h1) (by simpa using h2) hk
noncomputable def start(N:List Str)(vs:List V):St:=vs.map some++bc (N.length - vs.length) none
noncomputable def D9(CX:KR)(P:bJ)(w:World)(K:ai)(mg:Str->Option Value)(base:Heap)(N:List Str)(qual:Str)(scope:Scope)(f:Addr)(cd:Value)(A:dj)(outer:List Env)(s:aw)(H:Hp)(E:XK):Cx where
 prog:=P
 w:=w
 K:=K
 mg:=mg
 base:=base
 A:=A.deeper (Cf qual scope s.heap.objs.size f cd)
 N:=N
 lV:=s
 Ox:=H
 env:=Cf qual scope s.heap.objs.size f cd
 outer:=outer
 stack:=Cf qual scope s.heap.objs.size f cd :: outer
 ex:=[]
 calm:=true
 fn:=fun _=>true
 pn:=[]
 xe:=fun e s'=>wpAny (model P w) (A.deeper (Cf qual scope s.heap.objs.size f cd)) (leaving (Cf qual scope s.heap.objs.size f cd) e) (fun _ Uv=>CX outer H s E e Uv) (fun e' Uv=>CX outer H s E e' Uv) s'
theorem Ed{sc:Scope}{n:Nat}{x:Str}(h:sc.names.lookup x=some .cell):∃ c,(cellsFrom n sc.names []).lookup x=some c:=by
 have q:=Hb sc.names n [] (.inl h);exact Option.isSome_iff_exists.mp q
theorem J2{CX:KR}{P:bJ}{w:World}{K:ai}{mg:Str->Option Value}{base:Heap}{N ps:List Str}{qual:Str}{scope:Scope}{f:Addr}{cd:Value}{A:dj}{outer:List Env}{s s1:aw}{H:Hp}{E:XK}{us:List Value}{vs:List V}
  (S:cA N ps scope) (hd:A.handled=none) (e0:QG P w K mg base A outer s H) (hl:vs.length=ps.length) (r:Vals vs us)
  (x:InCallC s s.heap.objs.size (bindL (Cf qual scope s.heap.objs.size f cd).kindOf (ps.zip us) fun _=>none) (cellsFrom (s.heap.objs.size+1) scope.names []) (bindC (Cf qual scope s.heap.objs.size f cd).kindOf (ps.zip us) fun _=>none) s1) :
  Inv (D9 CX P w K mg base N qual scope f cd A outer s H E) [] (start N vs) H s1:=by
 have FV:ps.length<=N.length:=by have:=congrArg dU S.pre; rw [c7] at this; lia
 obtain⟨h1,tk,rfl,hk⟩:=x.done;have UT:∀ b:Addr,b∉(D9 CX P w K mg base N qual scope f cd A outer s H E).ex:=fun b z=>absurd (show b∈([]:List Addr) from z) (by simp);refine⟨⟨e0.mod,S.kind,rfl,rfl,aF _,fun y z c h1 h2=>?_,fun y hy=>?_,fun y c _ h=>?_,fun _=>hd,Around.frames_deeper e0.frames,.inr ⟨rfl,rfl⟩,fun b z=>absurd z (UT b),e0.bs,e0.Qx,fun b _ _=>UT b,fun b z=>absurd z (UT b),e0.xW,e0.T6⟩,
  rfl,e0.bare,Un.kept hk,⟨_,x.toInCall.ns,fun i y v h1 h2 h3=>?_⟩,fun y c h=>⟨_,x.cell y c h⟩,e0.cD.fresh (aF _),fun y c h=>?_,fun p hp=>absurd (show p∈([]:List (Addr×Obj)) from hp) (by simp),e0.cD.kept hk,?_⟩
 ·exact name_of_addr x.apart (gZ h1) (gZ h2)
 ·have hy:scope.names.lookup y=some .cell\/scope.names.lookup y=some .free:=hy;rcases hy with hy | hy
  ·exact Ed hy
  ·exact absurd rfl (S.SG _ (gZ hy))
 ·exact OR (x.above y c (gZ h))
 ·have hi:i < vs.length:=by
   unfold start at h2;by_cases hi:i < vs.length
   ·exact hi
   ·rw [cm (by simpa using hi)] at h2;rw [ky] at h2;split at h2 <;> cases h2
  have ha:vs[i]?=some v:=by
   unfold start at h2;rw [cO (by simpa using hi),bA] at h2;cases e:vs[i]? with
   | none=>rw [e] at h2; cases h2
   | some a=>rw [e] at h2; cases h2; rfl
  obtain⟨u,hu,rv⟩:=r.get ha;have hp:ps[i]?=some y:=by
   rw [<-S.pre,List.getElem?_take_of_lt (by lia)]; exact h1
  have ZI:ps.Nodup:=by rw [<-S.pre]; exact S.nd.sublist (List.take_sublist _ _)
  refine⟨u,rv,?_⟩;rcases S.par y (cS hp) with k | k
  ·exact .inl ⟨k,AB ZI hp hu k⟩
  ·obtain⟨c,e⟩:=Ed (n:=s.heap.objs.size+1) k;refine .inr ⟨.inl k,c,e,?_⟩;have q:=x.cell y c e;rw [AE ZI hp hu (by show scope.names.lookup y≠_; rw [k]; decide)] at q;exact q
 ·exact e0.cD.fresh (OR (x.above y c (gZ h)))
 ·unfold start;show _=N.length;rw [aB,aC,eY];lia
theorem Vy{CX:KR}{P:bJ}{w:World}{K:ai}{mg:Str->Option Value}{base:Heap}{k:Nat}{f:Addr}{name qual:Str}{params:Arguments}{body:List Stmt}{scope:Scope}{dV kV doc pm nI ct oc:Value}{an od:Option Addr}
  {Mr:Array (Option Value)} {N ps:List Str} {sp:Sp} (lk:K.lookup f=some ⟨oc,od,.func (jA name qual params body scope dV kV doc pm an nI ct),Mr⟩) (Iw:Cg K nI qual=true) (S:cA N ps scope)
  (len:∀ vs H Q E,sp vs H Q E->vs.length=ps.length)
  (Nt:∀ (A:dj) (outer:List Env) (s:aw) (H:Hp) (vs:List V) (Q:VK) (E:XK),lO k (A.deeper (Cf qual scope s.heap.objs.size f nI))->sp vs H Q E ->
   ∃ t,T9 (D9 CX P w K mg base N qual scope f nI A outer s H E) body t/\t { nx:=fun _ H'=>Q .eh H',rt:=Q } (start N vs) H) :
  fX P w K mg base CX (k+1) f (jA name qual params body scope dV kV doc pm an nI ct) ps sp:=by
 refine⟨len,fun A outer s H args us vs Q E hr e0 hb r Rc=>?_⟩;have hl:=len _ _ _ _ Rc;have KX:K.In s.heap:=e0.mod.Wb.keeps fun b o e=>(e0.bs b o e).1;have lim:s.heap.NoLimit:=e0.mod.nolimit.keeps fun b o e=>(e0.bs b o e).1;have z8:∀ y∈ps.zip us,scope.names.lookup y.1=some .local\/(scope.names.lookup y.1=some .cell/\((cellsFrom (s.heap.objs.size+1) scope.names []).lookup y.1).isSome=true):=fun ⟨n,v⟩ hy=>by
  rcases S.par n (Ew hy).1 with q | q
  ·exact .inl q
  ·exact .inr ⟨q,Hb _ _ _ (.inl q)⟩
 refine codeAny_call_function hr.depth (KX _ _ lk) rfl S.co S.gen rfl (PySem.W.codeRec_of KX Iw) (hb _ _ _ _ ?_);refine wpAny_newFunctionEnv_cells S.kind z8 fun env he s1 x=>?_;subst he;refine⟨lim.keeps x.toInCall.keep,codeAny_func ?_⟩;obtain⟨t,ht,hq⟩:=Nt A outer s H vs Q E (hr.deeper _) Rc;have I:Inv (D9 CX P w K mg base N qual scope f nI A outer s H E) [] (start N vs) H s1:=J2 S hr.hd e0 hl r x;refine wpAny_mono (ht [] s1 (start N vs) H _ I hq) (fun fl s' hs=>?_) fun e s' hs=>hs;have fin:∀ {i7:St} {H':Hp} {v:V} {u:Value},Inv (D9 CX P w K mg base N qual scope f nI A outer s H E) [] i7 H' s'->RelV v u->Q v H'->CE outer P w H s Q u s' :=
  fun {i7 H' v u} J rv q=>⟨v,H',J.os,J.bare,J.base,J.cD,rv,q⟩
 cases fl with
 | ret u =>
  obtain⟨v,i7,H',J,rv,q⟩:=hs;exact fin J rv q
 | next =>
  obtain⟨i7,H',J,q⟩:=hs;exact fin (v:=V.eh) (u:=fE) J rfl q
 | brk =>
  obtain⟨_,_,_,q⟩:=hs;exact bP q
 | cont =>
  obtain⟨_,_,_,q⟩:=hs;exact bP q
end L2
namespace HT
open PySem PyProof.Rows
noncomputable def lexLt:List Int->List Int->Bool
 | [],[]=>false
 | [],_ :: _=>true
 | _ :: _,[]=>false
 | x :: xs,y :: ys=>if x=y then lexLt xs ys else decide (x < y)
theorem FL(x y:Int)(xs ys:List Int):lexLt (x :: xs) (y :: ys)=if x=y then lexLt xs ys else decide (x < y):=rfl
theorem y9:lexLt [] []=false:=rfl
theorem xN(y:Int)(ys:List Int):lexLt [] (y :: ys)=true:=rfl
theorem xO(x:Int)(xs:List Int):lexLt (x :: xs) []=false:=rfl
theorem NR(A:dj)(s:aw)(a:Int)(t:Tok)(c:Int)(u:Tok):∃ e,SeqAt.EqAt A s (.int a t) (.int c u) e/\(e=true↔a=c) :=
 ⟨(a == c),SeqAt.EqAt.int_int a t c u,by simp⟩
theorem CS(A:dj)(s:aw)(a:Int)(t:Tok)(c:Int)(u:Tok)(prog:bJ)(w:World)(E:Value->aw->Prop)(Q:Value->aw->Prop)(h:Q (.bool (decide (a < c))) s) :
  wpAny (model prog w) A (richCompare .Lt (.int a t) (.int c u)) Q E s :=
 (PyProof.Rows.lt_int h:wpAny (model prog w) A (eW .Lt (.int a t) (.int c u)) Q E s)
section
open PySem.SeqAt
open PySem.AutoSeq1 (wpAny_loadPart')
open PySem.MeetsSeq PySem.MeetsSeq2 PySem.MeetsSeq3
theorem yY(l b:Addr)(items mI:Array Value)(n n2:Nat)(dd B9:Option Addr)(sl Hw:Array (Option Value))(ns ms:List Int)(hi:nN items.toList ns)(hj:nN mI.toList ms) :
  Meets (Builtin.«tuple.__lt__» ⟨[.ref l,.ref b],[]⟩)
   (fun _ R s=>s.heap.get? l=some { cls:=.type "tuple",dict:=dd,data:=.seq items n,slots:=sl }/\s.heap.get? b=some { cls:=.type "tuple",dict:=B9,data:=.seq mI n2,slots:=Hw } /\
    R (.ok (.ret (.bool (lexLt ns ms)))) s) :=
 .of_wp fun prog w A R s h=>by
  obtain⟨hp,g,d,tk,os⟩:=s; obtain⟨hl,hb,h⟩:=h;have f2:=oB;have z1:items.size=ns.length:=by rw [<-hi.length]; simp
  have z2:mI.size=ms.length:=by rw [<-hj.length]; simp
  wp_walk using cc hl,cc hb,kq _ (fun rest b s'=>b.1=none/\s'=⟨hp,g,d,tk,os⟩/\∃ (vs ws:List Value) (TR TX:List Int),rest=vs.zip ws /\
   nN vs TR/\nN ws TX/\TR.length+mI.size=TX.length+items.size/\R (.ok (.ret (.bool (lexLt TR TX)))) ⟨hp,g,d,tk,os⟩) _
  case turn =>
   rintro⟨y,x⟩ rest b s' ⟨YD,rfl,vs,ws,TR,TX,hz,X5,Wc,hlen,hR⟩;cases X5 with
   | nil=>rw [List.zip_nil_left] at hz; cases hz
   | cons a t X4 =>
    cases Wc with
    | nil=>rw [List.zip_nil_right] at hz; cases hz
    | cons c u X2 =>
     rw [oO] at hz;injection hz with XU Nk
     injection XU with hy hx
     subst hy hx;rw [FL] at hR;simp only [aj] at hlen;obtain⟨e,he,Vl⟩:=NR A.in1 ⟨hp,g,d,tk,os⟩ a t c u;refine ag (he prog w _ _ ?_);cases e with
     | true =>
      rw [if_pos (Vl.mp rfl)] at hR
      wp_walk
      exact⟨rfl,rfl,_,_,_,_,Nk,X4,X2,by lia,hR⟩
     | false =>
      rw [if_neg (fun q=>absurd (Vl.mpr q) iF)] at hR;have Vc:=CS A.in1 ⟨hp,g,d,tk,os⟩ a t c u prog w
      wp_walk using Vc
      exact⟨_,rfl,by simpa using hR⟩
  case fin =>
   rintro⟨b1,b2⟩ s' ⟨YD,rfl,vs,ws,TR,TX,hz,X5,Wc,hlen,hR⟩;simp only at YD;subst YD;have hv:lexLt TR TX=decide (items.size < mI.size):=by
    cases X5 with
    | nil =>
     cases Wc with
     | nil =>
      simp only [aE] at hlen;rw [y9];exact(decide_eq_false (by lia)).symm
     | cons c u hw =>
      simp only [aE,aj] at hlen;rw [xN];exact(decide_eq_true (by lia)).symm
    | cons a t hv =>
     cases Wc with
     | nil =>
      simp only [aE,aj] at hlen;rw [xO];exact(decide_eq_false (by lia)).symm
     | cons c u hw =>
      rw [oO] at hz;cases hz
   rw [hv] at hR
   wp_walk
   exact⟨_,rfl,by simpa [sD] using hR⟩
  case h =>
   exact⟨rfl,rfl,items.toList,mI.toList,ns,ms,rfl,hi,hj,by lia,h⟩
end
section
variable {prog:bJ} {w:World} {A:dj} {E:Value->aw->Prop} {s:aw}
theorem FH{l b:Addr}{items mI:Array Value}{ns ms:List Int}{Q:Value->aw->Prop}(hl:IsTup s.heap l items)(hb:IsTup s.heap b mI)(hi:nN items.toList ns)(hj:nN mI.toList ms)
  (hu:A.units < cLine) (h:Q (.bool (lexLt ns ms)) s):wpAny (model prog w) A (eW .Lt (.ref l) (.ref b)) Q E s:=by
 obtain⟨⟨cls,dd,data,sl⟩,ho,hc,n,hd⟩:=id hl;obtain⟨⟨N9,B9,data2,Hw⟩,DI,z9,n2,hd2⟩:=id hb;simp only at hc hd z9 hd2;subst hc hd z9 hd2;exact vP (op:=.Lt) ⟨_,ho,rfl⟩ ⟨_,DI,rfl⟩ kK qL (pb _ _) (yY l b items mI n n2 dd B9 sl Hw ns ms hi hj)
  ⟨ho,DI,show Value.bool (lexLt ns ms)≠Value.notImplemented/\Q (.bool (lexLt ns ms)) s from⟨(fun x=>nomatch x),h⟩⟩ hu
theorem Qr{t b:Addr}{vs ws:List Value}{Q:Value->aw->Prop}(ht:IsTup s.heap t vs.toArray)(hb:IsTup s.heap b ws.toArray)(hv:vs≠[])
  (h1:ws=[]->Q (.ref t) s) (h2:ws≠[]->Q (.ref s.heap.objs.size) { s with heap:=s.heap.push { cls:=.type "tuple",data:=.seq (vs++ws).toArray } })
  (hsz:vs.length+ws.length<=aZ):wpAny (model prog w) A (iA .Add (.ref t) (.ref b)) Q E s:=by
 obtain⟨⟨cls,dd,data,sl⟩,ho,hc,n,hd⟩:=id ht;obtain⟨⟨N9,B9,data2,Hw⟩,DI,z9,n2,hd2⟩:=id hb;simp only at hc hd z9 hd2;subst hc hd z9 hd2;have e:vs.toArray++ws.toArray=(vs++ws).toArray:=by simp
 by_cases hw:ws=[]
 ·exact concat_meets ⟨_,ho,rfl⟩ ⟨_,DI,rfl⟩ noFill_tuple_add seq_tuple_add Hd ET (Eu _ _)
   (tuple_addW1 t b vs.toArray ws.toArray n n2 dd B9 sl Hw (by simpa using hv) (by simp [hw])) ⟨ho,DI,h1 hw⟩
 ·refine concat_meets ⟨_,ho,rfl⟩ ⟨_,DI,rfl⟩ noFill_tuple_add seq_tuple_add Hd ET (Eu _ _)
   (tuple_addW2 t b vs.toArray ws.toArray n n2 dd B9 sl Hw (by simpa using hv) (by simpa using hw) (by rw [aX,aX]; exact hsz)) ⟨ho,DI,?_⟩
  rw [e];exact h2 hw
noncomputable def iU(n d:Nat):Option Int->Nat
 | none=>d
 | some v=>if v < 0 then (v+(n:Int)).toNat else min v.toNat n
theorem R8(n d:Nat)(hd:d<=n)(o:Option Int):iU n d o<=n:=by
 cases o with
 | none=>exact hd
 | some v =>
  show (if v < 0 then (v+(n:Int)).toNat else min v.toNat n)<=n;by_cases hv:v < 0
  ·rw [if_pos hv]; lia
  ·rw [if_neg hv]; exact Nat.min_le_right _ _
theorem IQ(v:Int)(n d:Nat):(if v < 0 then max (v+(n:Int)) 0 else min v (n:Int))=((iU n d (some v):Nat):Int):=by
 show (if v < 0 then max (v+(n:Int)) 0 else min v (n:Int))=(((if v < 0 then (v+(n:Int)).toNat else min v.toNat n):Nat):Int);by_cases hv:v < 0
 ·simp only [if_pos hv]; lia
 ·simp only [if_neg hv]; lia
theorem GL(lo hi:Option Int)(n:Nat):lU lo hi 1 (n:Int)=(((iU n 0 lo:Nat):Int),((iU n n hi:Nat):Int)):=by
 have h1:¬ ((1:Int) < 0):=by lia
 unfold lU;simp only [h1,if_false];refine Prod.ext ?_ ?_
 ·cases lo with
  | none=>rfl
  | some v=>exact IQ v n 0
 ·cases hi with
  | none=>rfl
  | some v=>exact IQ v n n
theorem Fo(i j:Nat):iE (i:Int) (j:Int) 1=j - i:=by
 unfold iE;have h1:(1:Int) > 0:=by lia
 simp only [h1,if_true,Int.ediv_one];split <;> lia
theorem wY{v:Value}{o:Option Int}{Q:Option Int->aw->Prop}(p:IsPart v o)(h:Q o s):wpAny (model prog w) A (Builtin.Slice.slicePartIndex v) Q E s:=by
 cases p with
 | none=>exact slicePart_none h
 | int i t=>exact slicePart_int h
theorem uJ{sl:Addr}{vl vu:Value}{lo hi:Option Int}{n:Nat}{Q:Int×Int×Nat->aw->Prop}(hs:s.heap.IsSliceOf sl vl vu .none)(pl:IsPart vl lo)(pu:IsPart vu hi)
  (h:Q (((iU n 0 lo:Nat):Int),1,iU n n hi - iU n 0 lo) s):wpAny (model prog w) A (vX (.ref sl) (pure (n:Int))) Q E s:=by
 obtain⟨os,Vf,Vp,Wh⟩:=id hs;unfold vX Builtin.Slice.sliceFields;refine ag (ag (oY Vf Wh (x:=vl) rfl (ag (oY Vf Wh (x:=vu) rfl (ag (oY Vf Wh (x:=.none) rfl (aA ?_)))))));refine ag (slicePart_none ?_);show wpAny _ _ (if ((1:Int) == 0)=true then _ else _) _ _ s;rw [if_neg (by decide)];refine ag (wY pl (ag (wY pu (ag (aA ?_)))));show wpAny _ _ (match lU lo hi 1 (n:Int) with | (lo,hi)=>pure (lo,(1:Int),iE lo hi 1)) _ _ s;rw [GL lo hi n];show wpAny _ _ (pure (((iU n 0 lo:Nat):Int),(1:Int),iE ((iU n 0 lo:Nat):Int) ((iU n n hi:Nat):Int) 1)) _ _ s;rw [Fo];exact aA h
theorem Mi(xs:Array Value)(i k:Nat):((ib k).filterMap fun (m:Nat)=>xs[((i:Int)+(m:Int) * 1).toNat]?).toArray=((xs.toList.drop i).take k).toArray:=by
 have e:(fun (m:Nat)=>xs[((i:Int)+(m:Int) * 1).toNat]?)=fun m=>xs[i+m]?:=by
  funext m;have:((i:Int)+(m:Int) * 1).toNat=i+m:=by lia
  rw [this]
 rw [e];have:=pick_run xs i k;rw [List.filterMap_map] at this;have e2:((fun x=>xs[x]?)∘fun x=>i+x)=fun m=>xs[i+m]?:=rfl;rw [e2] at this;rw [this]
theorem tT{t sl:Addr}{items:Array Value}{vl vu:Value}{lo hi:Option Int}{Q:Value->aw->Prop}(ht:IsTup s.heap t items)(hs:s.heap.IsSliceOf sl vl vu .none)(pl:IsPart vl lo)(pu:IsPart vu hi)
  (hw:¬ (iU items.size 0 lo=0/\iU items.size items.size hi=items.size))
  (h:Q (.ref s.heap.objs.size) { s with heap:=s.heap.push { cls:=.type "tuple",data:=.seq ((items.toList.drop (iU items.size 0 lo)).take (iU items.size items.size hi - iU items.size 0 lo)).toArray } })
  (hsz:items.size<=aZ):wpAny (model prog w) A (getItem (.ref t) (.ref sl)) Q E s:=by
 have Iu:sizeOk (.seq ((items.toList.drop (iU items.size 0 lo)).take (iU items.size items.size hi - iU items.size 0 lo)).toArray):=by
  show ((items.toList.drop (iU items.size 0 lo)).take (iU items.size items.size hi - iU items.size 0 lo)).toArray.size<=aZ;rw [aX];exact bu (bu (List.length_take_le' _ _) (by rw [cx,eN]; exact Nat.sub_le _ _)) hsz
 have hj:iU items.size items.size hi<=items.size:=R8 _ _ (aF _) hi;obtain⟨os,Vf,Vp,Wh⟩:=id hs;have hTs:s.TypeIs (.ref sl) "slice":=⟨os,Vf,Vp⟩;unfold getItem
 try with_reducible refine eL ?_
 first | refine ag (aA ?_) | skip
 refine ag (wpAny_sequenceKey ht.typeIs (by decide) ?_);refine ag (iw (name:=uB "__getitem__") ht.typeIs uo
  (cU uo ht.typeIs entry_tuple_getitem ?_ (args_tuple_getitem _ _)))
 show wpAny _ _ (vW (.ref t) >>= _) _ _ s;refine ag (tupleItemsOf_ ht ?_);refine ag (wpAny_typeOf hTs ?_);rw [if_pos (by decide)];refine ag (uJ hs pl pu ?_);have Vg:¬ ((((iU items.size 0 lo:Nat):Int) == 0&&(1:Int) == 1&&(iU items.size items.size hi - iU items.size 0 lo) == items.size)=true):=by
  intro q;rw [aH,aH] at q;have q1:((iU items.size 0 lo:Nat):Int)=0:=eq_of_beq q.1.1;have q2:iU items.size items.size hi - iU items.size 0 lo=items.size:=eq_of_beq q.2;exact hw ⟨by lia,by lia⟩
 show wpAny _ _ (if (((iU items.size 0 lo:Nat):Int) == 0&&(1:Int) == 1&&(iU items.size items.size hi - iU items.size 0 lo) == items.size)=true then _ else _) _ _ s;rw [if_neg Vg,Mi]
 first
  | exact ag (m:=iT _) (dh (aA ⟨_,rfl,aA h⟩) Iu)
  | exact ag (m:=iT _) (dh (ag (aA (aA ⟨_,rfl,aA h⟩))) Iu)
  | exact ag (ag (m:=iT _) (dh (aA (aA ⟨_,rfl,aA h⟩)) Iu))
  | exact ag (ag (m:=iT _) (dh (aA ⟨_,rfl,aA h⟩) Iu))
end
end HT
namespace L2
open PySem PySem.Spec PyProof.Rows
noncomputable abbrev TO:=St->Hp->(Option Int->Hp->Prop)->Prop
theorem intsAre_of{ns:List Int}:∀ {us:List Value},Vals (ns.map V.int) us->nN us ns:=by
 induction ns with
 | nil=>intro us r; rw [bq] at r; cases r; exact .nil
 | cons n ns ih =>
  intro us r;rw [ak] at r;cases r with
  | cons r1 r2 =>
   obtain⟨t,e⟩:=r1;subst e;exact .cons n t (ih r2)
section
variable {X:Cx} {e:Expr} {te:TE} {lo hi:Option Expr} {tl th:TO} {pos p2:Pos}
noncomputable def Y9(X:Cx)(r:V->Option Int->Option Int->Hp->VK->Prop):Prop :=
 ∀ (pins:List (Addr×Obj)) (s:aw) (σ:St) (H:Hp) (x:V) (v vl vu:Value) (lo hi:Option Int) (sl:Addr) (Q:VK),Inv X pins σ H s->RelV x v->s.heap.IsSliceOf sl vl vu .none->IsPart vl lo->IsPart vu hi->r x lo hi H Q ->
  ∃ T id,typeLookup (.type T) "__getitem__" = pure (some (.builtin id))/\s.TypeIs v T/\wpAny (model X.prog X.w) X.A (getItem v (.ref sl)) (EP X pins σ Q) X.xe s
noncomputable def Eb(xs:List V)(lo hi:Option Int):List V:=(xs.drop (HT.iU xs.length 0 lo)).take (HT.iU xs.length xs.length hi - HT.iU xs.length 0 lo)
theorem vK(xs:List V)(lo hi:Option Int):(Eb xs lo hi).length<=xs.length:=by
 unfold Eb;rw [c7,cx];lia
noncomputable def W2(K:ai):V->Option Int->Option Int->Hp->VK->Prop:=fun x lo hi H Q=>∃ a xs,x=.ref a/\wB K H a xs /\
 ¬ (HT.iU xs.length 0 lo=0/\HT.iU xs.length xs.length hi=xs.length)/\∀ p,H p=none->Q (.ref p) (upd H p (.tup (Eb xs lo hi)))
theorem R6:Y9 X (W2 X.K):=by
 intro pins s σ H x v vl vu lo hi sl Q I rx hs pl pu h;obtain⟨a,xs,rfl,hx,hw,q⟩:=h;cases rx;obtain⟨bX,r,ht,hz⟩:=I.tuple hx;have hlen:bX.toArray.size=xs.length:=by rw [aX]; exact r.length.symm
 refine⟨"tuple",_,PyProof.Rows.slot_tuple_getitem.lookup,ht.typeIs,?_⟩;refine HT.tT ht hs pl pu (by rw [hlen]; exact hw) ?_ (by rw [hlen]; exact hz);rw [hlen];refine⟨.ref s.heap.objs.size,_,I.laid (t':=s.toks) (o:=.tup (Eb xs lo hi)) (fun b ob q=>aK _ q) (aF _) ?_,rfl,q _ (I.cD.fresh (aF _))⟩;exact⟨bu (vK xs lo hi) hz,_,(r.drop (HT.iU xs.length 0 lo)).take (HT.iU xs.length xs.length hi - HT.iU xs.length 0 lo),IsTup.new _ _⟩
noncomputable def W5(K:ai):R2:=fun x y H Q=>∃ a b ns ms,x=.ref a/\y=.ref b/\wB K H a (ns.map V.int)/\wB K H b (ms.map V.int)/\Q (.bl (HT.lexLt ns ms)) H
theorem Sz(hu:X.A.units < cLine):KG X (eW .Lt) (W5 X.K):=by
 intro pins s σ H x y v u Q I rx ry h;obtain⟨a,b,ns,ms,rfl,rfl,ha,hb,q⟩:=h;cases rx;cases ry;obtain⟨bX,r1,p1,_⟩:=I.tuple ha;obtain⟨uW,r2,p2,_⟩:=I.tuple hb;have i1:nN bX.toArray.toList ns:=intsAre_of r1;have i2:nN uW.toArray.toList ms:=intsAre_of r2;exact HT.FH p1 p2 i1 i2 hu ⟨.bl (HT.lexLt ns ms),H,I,rfl,q⟩
noncomputable def UA(K:ai):R2:=fun x y H Q=>∃ a b xs ys,x=.ref a/\y=.ref b/\wB K H a xs/\wB K H b ys/\xs≠[]/\xs.length+ys.length<=aZ /\
 (ys=[]->Q (.ref a) H)/\(ys≠[]->∀ p,H p=none->Q (.ref p) (upd H p (.tup (xs++ys))))
theorem Vals.Bh{xs:List V}{us:List Value}(r:Vals xs us):us=[]↔xs=[]:=by
 cases r with
 | nil=>simp
 | cons _ _=>simp
theorem PH:KG X (iA .Add) (UA X.K):=by
 intro pins s σ H x y v u Q I rx ry h;obtain⟨a,b,xs,ys,rfl,rfl,ha,hb,hx,hz,q1,q2⟩:=h;cases rx;cases ry;obtain⟨bX,r1,p1,_⟩:=I.tuple ha;obtain⟨uW,r2,p2,_⟩:=I.tuple hb;refine HT.Qr p1 p2 (fun z=>hx (r1.Bh.mp z)) (fun z=>⟨.ref a,H,I,rfl,q1 (r2.Bh.mp z)⟩) (fun z=>?_) (by rw [<-r1.length,<-r2.length]; exact hz);refine⟨.ref s.heap.objs.size,_,I.laid (t':=s.toks) (o:=.tup (xs++ys)) (fun b ob q=>aK _ q) (aF _) ?_,rfl,q2 (fun w=>z (r2.Bh.mpr w)) _ (I.cD.fresh (aF _))⟩;exact⟨by rw [aB]; exact hz,_,r1.append r2,IsTup.new _ _⟩
end
noncomputable def Ip(n:Nat)(i:Int):Option Nat:=if 0<=i then (if i < n then some i.toNat else none) else if -(n:Int)<=i then some (i+n).toNat else none
noncomputable def uf{α:Type}(xs:List α)(i:Int):Option α:=(Ip xs.length i).bind fun j=>xs[j]?
theorem Io{n:Nat}{i:Int}{j:Nat}(h:Ip n i=some j):seqIndex? i n=some j/\j < n/\-(n:Int)<=i/\i < n:=by
 unfold Ip at h;by_cases h0:0<=i
 ·rw [if_pos h0] at h;by_cases h1:i < n
  ·rw [if_pos h1] at h;have e:i.toNat=j:=aY h;exact⟨by rw [seqIndex_of h0 h1,e],by lia,by lia,h1⟩
  ·rw [if_neg h1] at h; cases h
 ·rw [if_neg h0] at h;by_cases h1:-(n:Int)<=i
  ·rw [if_pos h1] at h;have e:(i+n).toNat=j:=aY h;exact⟨by rw [seqIndex_neg (by lia) h1,e],by lia,h1,by lia⟩
  ·rw [if_neg h1] at h; cases h
theorem IV{α:Type}{xs:List α}{i:Int}{v:α}(h:uf xs i=some v):∃ j,seqIndex? i xs.length=some j/\xs[j]?=some v/\j < xs.length/\-(xs.length:Int)<=i/\i < xs.length:=by
 unfold uf at h;cases e:Ip xs.length i with
 | none=>rw [e] at h; cases h
 | some j =>
  rw [e] at h;obtain⟨h1,h2,h3,h4⟩:=Io e;exact⟨j,h1,h,h2,h3,h4⟩
noncomputable def QC(b:Expr):Prop:=∀ o i,subscripted b false o i=operate [o,i] (getItem o i)
noncomputable def Zg(X:Cx)(r:R2):Prop :=
 ∀ (value slice:Expr) (pins:List (Addr×Obj)) (s:aw) (σ:St) (H:Hp) (x y:V) (v u:Value) (Q:VK),Inv X pins σ H s->RelV x v->RelV y u->r x y H Q ->
  subscripted slice false v u=operate [v,u] (getItem v u)->wpAny (model X.prog X.w) X.A (subscriptTail value slice v u) (EP X pins σ Q) X.xe s
noncomputable def MtR(X:Cx)(id:String)(r:V->List V->Hp->VK->Prop):Prop :=
 ∀ (pins:List (Addr×Obj)) (s:aw) (σ:St) (H:Hp) (x:V) (xs:List V) (v:Value) (us:List Value) (Q:VK),Inv X pins σ H s->RelV x v->Vals xs us->r x xs H Q ->
  wpAny (model X.prog X.w) X.A (call (.builtin id) (v :: us)) (EP X pins σ Q) X.xe s
section
variable {X:Cx} {a b:Expr} {ta tb:TE} {pos:Pos}
noncomputable def W7(K:ai):R2:=fun x y H Q=>∃ p xs i v,x=.ref p/\y=.int i/\qg K H p xs/\uf xs i=some v/\Q v H
noncomputable def W6(K:ai):R2:=fun x y H Q=>∃ p xs i v,x=.ref p/\y=.int i/\wB K H p xs/\uf xs i=some v/\Q v H
theorem Im:Zg X (W7 X.K):=by
 intro value slice pins s σ H x y v u Q I rx ry h hs;obtain⟨p,xs,i,z,rfl,rfl,hq,he,q⟩:=h;cases rx;obtain⟨t,rfl⟩:=ry;obtain⟨bX,r,pl,hz⟩:=I.list hq;obtain⟨j,h1,h2,h3,h4,h5⟩:=IV he;obtain⟨w,ew,qO⟩:=r.get h2;have hl:=r.length;have hn:=xM;have fin:EP X pins σ Q w s:=⟨z,H,I,qO,q⟩;by_cases h0:0<=i
 ·have hj:i.toNat=j:=by
   rw [seqIndex_of h0 h5] at h1;exact aY h1
  exact item_listR pl.isList h0 (by lia) (by rw [hj]; simpa using ew) fin hs
 ·have hj:(i+(bX.toArray.size:Int)).toNat=j:=by
   rw [seqIndex_neg (by lia) h4] at h1;rw [aX,<-hl];exact aY h1
  exact subscriptTail_builtinR (x:=w) pl.isList.typeIs slot_list_getitem.lookup
   (wpAny_getItem_list_neg (Q:=fun r s'=>r=w/\EP X pins σ Q r s') pl.isList (by lia) (by rw [aX] <;> lia) (by lia) (by rw [hj]; simpa using ew) ⟨rfl,fin⟩) hs
theorem SW:Zg X (W6 X.K):=by
 intro value slice pins s σ H x y v u Q I rx ry h hs;obtain⟨p,xs,i,z,rfl,rfl,hq,he,q⟩:=h;cases rx;obtain⟨t,rfl⟩:=ry;obtain⟨bX,r,pl,hz⟩:=I.tuple hq;obtain⟨j,h1,h2,h3,h4,h5⟩:=IV he;obtain⟨w,ew,qO⟩:=r.get h2;have hl:=r.length;have hn:=xM;have fin:EP X pins σ Q w s:=⟨z,H,I,qO,q⟩;exact subscriptTail_builtinR (x:=w) pl.typeIs slot_tuple_getitem.lookup
  (getItem_tuple (j:=j) (Q:=fun r s'=>r=w/\EP X pins σ Q r s') pl (by lia) (by lia) (by rw [aX,<-hl]; exact h1) (by simpa using ew) ⟨rfl,fin⟩) hs
theorem FG (bX:List Value) (n j:Nat) (u:Value):iu (·.setIfInBounds j u) { cls:=.type "list",data:=.seq bX.toArray n } = { cls:=.type "list",data:=.seq (bX.set j u).toArray n }:=by
 simp [iu]
theorem Inv.lst{pins:List (Addr×Obj)}{σ:St}{H:Hp}{s:aw}{p:Addr}{xs:List V}(I:Inv X pins σ H s)(h:H p=some (.lst xs)) :
  ∃ (bX:List Value) (n:Nat),Vals xs bX/\s.heap.get? p=some { cls:=.type "list",data:=.seq bX.toArray n }/\xs.length<=aZ:=by
 obtain⟨z,bX,n,r,e⟩:=I.cD p _ h;exact⟨bX,n,r,e,z⟩
theorem Inv.SJ{pins:List (Addr×Obj)}{σ:St}{H:Hp}{s:aw}{p:Addr}{xs ys:List V}{bX its':List Value}{n n':Nat}{f:Obj->Obj}(I:Inv X pins σ H s)(h:H p=some (.lst xs))
  (ho:s.heap.get? p=some { cls:=.type "list",data:=.seq bX.toArray n }) (hf:f { cls:=.type "list",data:=.seq bX.toArray n } = { cls:=.type "list",data:=.seq its'.toArray n' }) (r:Vals ys its') (hz:ys.length<=aZ) (t:Nat) :
  Inv X pins σ (upd H p (.lst ys)) { s with heap:=s.heap.update p f,toks:=t }:=by
 have e:(s.heap.update p f).get? p=some { cls:=.type "list",data:=.seq its'.toArray n' }:=by
  rw [uw f ho (by rw [hf] <;> rfl),hf]
 refine I.write (x:=p) (e:=p) (by rw [h]; trivial) (.inl rfl) (fun b u hb q=>(Ls _ _ (fT hb)).trans q) ⟨_,e⟩ ?_;exact⟨hz,its',n',r,e⟩
noncomputable def Uy:V->V->V->Hp->(Hp->Prop)->Prop:=fun o i v H Q=>∃ p xs k j,o=.ref p/\i=.int k/\H p=some (.lst xs)/\Ip xs.length k=some j/\Q (upd H p (.lst (xs.set j v)))
theorem set_list:Za X Uy:=by
 intro pins s σ H o i v ov iv u Q I ro ri rv h;obtain⟨p,xs,k,j,rfl,rfl,hp,hj,q⟩:=h;cases ro;obtain⟨t,rfl⟩:=ri;obtain⟨bX,n,r,ho,hz⟩:=I.lst hp;obtain⟨h1,h2,h3,h4⟩:=Io hj;have hl:=r.length;have hn:=xM;have I':Inv X pins σ (upd H p (.lst (xs.set j v))) { s with heap:=s.heap.update p (iu (·.setIfInBounds j u)) } :=
  I.SJ hp ho (FG bX n j u) (r.set rv j) (by rw [cy]; exact hz) s.toks
 by_cases h0:0<=k
 ·have hk:k.toNat=j:=by
   rw [seqIndex_of h0 h4] at h1;exact aY h1
  exact PySem.W.ki_setAt ho h0 (by lia) (by rw [aX,<-hl]; exact h4) (by rw [hk]; exact⟨_,I',q⟩)
 ·have hk:(k+(bX.toArray.size:Int)).toNat=j:=by
   rw [seqIndex_neg (by lia) h3] at h1;rw [aX,<-hl];exact aY h1
  exact PySem.W.ki_setBack ho (by lia) (by rw [aX,<-hl]; exact h3) (by lia) (by rw [hk]; exact⟨_,I',q⟩)
theorem AV(lo hi:Option Int)(n:Nat):(oZ lo hi none n).1=((HT.iU n 0 lo:Nat):Int)/\(oZ lo hi none n).2.1=((HT.iU n n hi:Nat):Int)/\(oZ lo hi none n).2.2=1:=by
 refine⟨?_,?_,rfl⟩
 ·cases lo with
  | none=>simp [oZ,HT.iU]
  | some i =>
   simp only [oZ,HT.iU,zt,show (1:Int) > 0 by decide,if_true];by_cases h:i < 0
   ·simp only [h,if_true] <;> lia
   ·simp only [h,if_false] <;> lia
 ·cases hi with
  | none=>simp [oZ,HT.iU]
  | some i =>
   simp only [oZ,HT.iU,zt,show (1:Int) > 0 by decide,if_true];by_cases h:i < 0
   ·simp only [h,if_true] <;> lia
   ·simp only [h,if_false] <;> lia
theorem y0(bX:List Value)(lo hi:Option Int):slicePick bX.toArray lo hi none=((bX.drop (HT.iU bX.length 0 lo)).take (HT.iU bX.length bX.length hi - HT.iU bX.length 0 lo)).toArray:=by
 obtain⟨h1,h2,h3⟩:=AV lo hi bX.toArray.size;unfold slicePick;rw [h1,h2,h3];simp only [sliceRange_one,pick_run,aX] <;> rfl
noncomputable def W3(K:ai):V->Option Int->Option Int->Hp->VK->Prop:=fun x lo hi H Q=>∃ a xs,x=.ref a/\qg K H a xs/\∀ p,H p=none->Q (.ref p) (upd H p (.lst (Eb xs lo hi)))
theorem Hv:Y9 X (W3 X.K):=by
 intro pins s σ H x v vl vu lo hi sl Q I rx hs pl pu h;obtain⟨a,xs,rfl,hx,q⟩:=h;cases rx;obtain⟨bX,r,ht,hz⟩:=I.list hx;have hlen:=r.length;refine⟨"list",_,slot_list_getitem.lookup,ht.isList.typeIs,?_⟩;refine wpAny_getItem_list_slice ht.isList hs pl pu .none (by simp) ?_ (by rw [aX] <;> lia);rw [y0,<-hlen];refine⟨.ref s.heap.objs.size,_,I.laid (t':=s.toks) (o:=.lst (Eb xs lo hi)) (fun b ob q=>aK _ q) (aF _) ?_,rfl,q _ (I.cD.fresh (aF _))⟩;exact⟨bu (vK xs lo hi) hz,_,0,(r.drop (HT.iU xs.length 0 lo)).take (HT.iU xs.length xs.length hi - HT.iU xs.length 0 lo),bt _ rfl⟩
theorem BO:Oy X (.type "list") (fun xs H Q=>∃ p ys,xs=[.ref p]/\(qg X.K H p ys\/wB X.K H p ys)/\∀ l,H l=none->Q (.ref l) (upd H l (.lst ys))):=by
 intro pins s σ H xs us Q I r h;obtain⟨p,ys,rfl,hq,q⟩:=h;obtain⟨u,rfl,rx⟩:=vals1 r;cases rx;have fin:∀ (bX:List Value),Vals ys bX->ys.length<=aZ->∀ (h':Heap) (c':Nat),(∀ b o',s.heap.get? b=some o'->h'.get? b=some o') ->
   h'.get? s.heap.objs.size=some { cls:=.type "list",dict:=none,data:=.seq bX.toArray c',slots:=#[] }->EP X pins σ Q (.ref s.heap.objs.size) { s with heap:=h' }:=fun bX r' hz h' c' kp e =>
  ⟨.ref s.heap.objs.size,_,I.laid (t':=s.toks) kp (aF _) (show fA X.prog X.w _ h' _ (.lst ys) from⟨hz,bX,c',r',e⟩),rfl,q _ (I.cD.fresh (aF _))⟩
 rcases hq with hq | hq
 ·obtain⟨bX,r',pl,hz⟩:=I.list hq;have hlen:=r'.length;obtain⟨o,ho,hc,n,hd⟩:=pl.isList;exact call_list_seq p (.inl rfl) ho hc hd (fun h' c' kp e=>fin bX r' hz h' c' kp e) (by simp only [aX] <;> lia)
 ·obtain⟨bX,r',pl,hz⟩:=I.tuple hq;have hlen:=r'.length;obtain⟨o,ho,hc,n,hd⟩:=pl;exact call_list_seq p (.inr rfl) ho hc hd (fun h' c' kp e=>fin bX r' hz h' c' kp e) (by simp only [aX] <;> lia)
theorem zk:Oy X (.type "tuple") (fun xs H Q=>∃ p ys,xs=[.ref p]/\((qg X.K H p ys/\∀ l,H l=none->Q (.ref l) (upd H l (.tup ys)))\/(wB X.K H p ys/\Q (.ref p) H))):=by
 intro pins s σ H xs us Q I r h;obtain⟨p,ys,rfl,h⟩:=h;obtain⟨u,rfl,rx⟩:=vals1 r;cases rx;rcases h with ⟨hq,q⟩ | ⟨hq,q⟩
 ·obtain⟨bX,r',pl,hz⟩:=I.list hq;have hlen:=r'.length;refine call_tuple_list pl.isList (fun h' kp=>?_) (by simp only [aX] <;> lia);have I1:Inv X pins σ H { s with heap:=h' }:=I.kept (t':=s.toks) kp;have I2:Inv X pins σ (upd H h'.objs.size (.tup ys)) { s with heap:=h'.push { cls:=.type "tuple",data:=.seq bX.toArray } } :=
   I1.laid (t':=s.toks) (fun b o e=>aK _ e) (aF _) (show fA X.prog X.w _ _ _ (.tup ys) from⟨hz,bX,r',IsTup.new _ _⟩)
  exact⟨.ref h'.objs.size,_,I2,rfl,q _ (I1.cD.fresh (aF _))⟩
 ·obtain⟨bX,r',pl,hz⟩:=I.tuple hq;exact call_tuple_same pl ⟨.ref p,H,I,rfl,q⟩
noncomputable def tyV(K:ai)(T:String)(x:V)(H:Hp):Prop:=match x with
 | .str _=>T = "str"
 | .int _=>T = "int"
 | .ref p=>(T = "list"/\∃ xs,qg K H p xs)\/(T = "tuple"/\∃ o,K.lookup p=some o/\o.cls=.type "tuple"/\o.dict=none) \/
   (T = "dict"/\((∃ kvs,H p=some (.dK kvs))\/∃ kvs,H p=some (.dT kvs)))\/(T = "set"/\∃ S n,H p=some (.set S n))
 | _=>False
theorem AQ{pins:List (Addr×Obj)}{σ:St}{H:Hp}{s:aw}{T:String}{x:V}{v:Value}(I:Inv X pins σ H s)(r:RelV x v)(ty:tyV X.K T x H) :
  s.TypeIs v T/\∀ a,v=.ref a->∃ ob,s.heap.get? a=some ob/\ob.dict=none:=by
 cases x with
 | str z =>
  obtain⟨t,rfl⟩:=r;cases (show T = "str" from ty);exact⟨typeIs_str s z t,fun _ e=>nomatch e⟩
 | int i =>
  obtain⟨t,rfl⟩:=r;cases (show T = "int" from ty);exact⟨typeIs_int s i t,fun _ e=>nomatch e⟩
 | ref p =>
  cases r;rcases ty with ⟨rfl,xs,hq⟩ | ⟨rfl,o,hk,hc,hd⟩ | ⟨rfl,hk⟩ | ⟨rfl,S,n,hk⟩
  ·obtain⟨bX,_,pl,_⟩:=I.list hq;refine⟨pl.isList.typeIs,fun a e=>?_⟩;cases e;obtain⟨o,n,e,c,hd,_⟩:=pl;exact⟨o,e,hd⟩
  ·refine⟨⟨o,I.Ij p o hk,hc⟩,fun a e=>?_⟩;cases e;exact⟨o,I.Ij _ o hk,hd⟩
  ·have z:∃ o,s.heap.get? p=some o/\o.ExactDict:=by
    rcases hk with ⟨kvs,hk⟩ | ⟨kvs,hk⟩
    ·obtain⟨_,_,_,_,o,_,_,e,ex,_⟩:=I.cD p _ hk;exact⟨o,e,ex⟩
    ·obtain⟨_,_,_,_,o,_,_,e,ex,_⟩:=I.cD p _ hk;exact⟨o,e,ex⟩
   obtain⟨o,e,ex⟩:=z;refine⟨⟨o,e,ex.1⟩,fun a e2=>?_⟩;cases e2;exact⟨o,e,ex.2.1⟩
  ·obtain⟨o,_,_,_,e,ex,_⟩:=I.cD p _ hk;refine⟨⟨o,e,ex.1⟩,fun a e2=>?_⟩;cases e2;exact⟨o,e,ex.2.1⟩
 | _=>exact bP ty
variable {o e:Expr} {es:List Expr} {to:TE} {t:TA} {name:Str} {apos jg:Pos} {T id:String} {r:V->List V->Hp->VK->Prop}
/- xs.append(e),list.index on a UW tuple .. are MtR facts of 06m -/
end
noncomputable def MtM(X:Cx)(id:String)(r:V->List V->Hp->VK->Prop):Prop :=
 ∀ (pins:List (Addr×Obj)) (s:aw) (σ:St) (H:Hp) (x:V) (xs:List V) (v:Value) (us:List Value) (Q:VK),Inv X pins σ H s->RelV x v->Vals xs us->r x xs H Q ->
  wpAny (model X.prog X.w) X.A (call (.builtin id) (v :: us)) (EP X pins σ Q) X.xe s
theorem Vals.one:∀ {x:V} {us:List Value},Vals [x] us->∃ u,us=[u]/\RelV x u:=by
 intro x us h;cases h with
 | cons r t=>cases t; exact⟨_,rfl,r⟩
theorem Vals.two:∀ {x y:V} {us:List Value},Vals [x,y] us->∃ u v,us=[u,v]/\RelV x u/\RelV y v:=by
 intro x y us h;cases h with
 | cons r t =>
  obtain⟨v,rfl,q⟩:=Vals.one t;exact⟨_,_,rfl,r,q⟩
section
variable {X:Cx} {pins:List (Addr×Obj)} {σ:St} {H:Hp} {s:aw} {l b:Addr} {xs ys zs:List V}
theorem Inv.UY{bX its':List Value}{n:Nat}{f:Array Value->Array Value}{t':Nat}(I:Inv X pins σ H s)(hH:H l=some (.lst xs))
  (e:s.heap.get? l=some { cls:=.type "list",data:=.seq bX.toArray n }) (hf:f bX.toArray=its'.toArray) (hv:Vals ys its') (hz:ys.length<=aZ) :
  Inv X pins σ (upd H l (.lst ys)) { s with heap:=s.heap.update l (iu f),toks:=t' }:=by
 have q:=PySem.IsL.update e f;rw [hf] at q;refine I.write (x:=l) (e:=l) (by rw [hH]; exact trivial) (.inl rfl) (fun b' u hb hu=>(Ls s.heap (iu f) (fT hb)).trans hu) ⟨_,q⟩ ?_;exact⟨hz,its',_,hv,q⟩
theorem Inv.XD{bX:List Value}{t':Nat}(I:Inv X pins σ H s)(hv:Vals ys bX)(hz:ys.length<=aZ) :
  Inv X pins σ (upd H s.heap.objs.size (.lst ys)) { s with heap:=s.heap.push { cls:=.type "list",data:=.seq bX.toArray },toks:=t' } :=
 I.laid (fun _ _ q=>aK _ q) (aF _) ⟨hz,bX,0,hv,bt _ rfl⟩
theorem Inv.UX (I:Inv X pins σ H s) (hH:H l=some (.lst xs)):xs.length<=aZ/\∃ (bX:List Value) (n:Nat),Vals xs bX/\xs.length=bX.length/\s.heap.get? l=some { cls:=.type "list",data:=.seq bX.toArray n }:=by
 obtain⟨z,bX,n,r,e⟩:=I.cD l _ hH;exact⟨z,bX,n,r,r.length,e⟩
theorem Mz{n:Nat}(h:n<=aZ):i0 n=false:=by
 unfold i0;exact decide_eq_false (by lia)
end
section
variable {X:Cx}
noncomputable def Pf:V->List V->Hp->VK->Prop:=fun x vs H Q=>∃ l xs y,x=.ref l/\vs=[y]/\H l=some (.lst xs)/\xs.length < aZ/\Q .eh (upd H l (.lst (xs++[y])))
theorem zO:MtM X "list.append" Pf:=by
 intro pins s σ H x vs v us Q I rx rv h;obtain⟨l,xs,y,rfl,rfl,hH,hz,q⟩:=h;cases rx;obtain⟨u,rfl,ru⟩:=rv.one;obtain⟨z,bX,n,r,hl,e⟩:=I.UX hH;refine call_meets F.slot_list_append ⟨_,e,rfl⟩ F.entry_list_append (F.args_list_append_2 _ _) (PySem.list_append l bX.toArray n u (by rw [aX]; lia)) ⟨e,?_⟩;refine⟨.eh,_,I.UY (its':=bX++[u]) hH e (by simp) (r.append (.cons ru .nil)) ?_,rfl,q⟩;rw [aB,du];lia
end
section
variable {κ:Type} [DecidableEq κ]
noncomputable def kM(kvs:List (κ×V))(k:κ):Option V:=(kvs.find? fun kv=>decide (kv.1=k)).map (·.2)
noncomputable def putK(kvs:List (κ×V))(k:κ)(v:V):List (κ×V) :=
 if (kvs.any fun kv=>decide (kv.1=k))=true then kvs.map (fun kv=>if kv.1=k then (kv.1,v) else kv) else kvs++[(k,v)]
theorem ph{p:κ×V}{r:List (κ×V)}{k:κ}(e:p.1=k):kM (p :: r) k=some p.2:=by simp [kM,dQ,e]
theorem pj{p:κ×V}{r:List (κ×V)}{k:κ}(e:¬ p.1=k):kM (p :: r) k=kM r k:=by simp [kM,dQ,e]
theorem Ct(k:κ):∀ kvs:List (κ×V),(kvs.any fun kv=>decide (kv.1=k))=(kM kvs k).isSome
 | []=>rfl
 | p :: r=>by
  rw [kz];by_cases e:p.1=k
  ·simp only [ph e,decide_eq_true e,Bool.true_or,Option.isSome_some]
  ·rw [pj e,decide_eq_false e,KY]; exact Ct k r
theorem vG(kvs:List (κ×V))(k:κ)(v:V):(putK kvs k v).length<=kvs.length+1:=by
 unfold putK;split
 ·rw [aC]; lia
 ·rw [aB,aj,aE]; lia
theorem vi.nq{o:Option V}{u:Option Value}(r:vi o u):o.isSome=u.isSome:=by
 cases o with
 | none=>cases u with
  | none=>rfl
  | some _=>exact(show False from r).elim
 | some _=>cases u with
  | none=>exact(show False from r).elim
  | some _=>rfl
theorem vi.getD{o:Option V}{u:Option Value}{d:V}{d':Value}(r:vi o u)(rd:RelV d d'):RelV (o.getD d) (u.getD d'):=by
 cases o with
 | none=>cases u with
  | none=>exact rd
  | some _=>exact(show False from r).elim
 | some _=>cases u with
  | none=>exact(show False from r).elim
  | some _=>exact r
theorem KV.val{kvs:List (κ×V)}{vs:List (κ×Value)}(r:KV kvs vs)(k:κ):vi (kM kvs k) (Lg vs k):=by
 unfold KV at r;induction r with
 | nil=>exact fF
 | @cons p q ps qs h t ih =>
  obtain⟨h1,h2⟩:=h;by_cases e:p.1=k
  ·have e':q.1=k:=h1.symm.trans e;have b:Lg (q :: qs) k=some q.2:=by simp [Lg,dQ,e']
   rw [ph e,b]; exact h2
  ·have e':¬ q.1=k:=fun z=>e (h1.trans z);have b:Lg (q :: qs) k=Lg qs k:=by simp [Lg,dQ,e']
   rw [pj e,b]; exact ih
theorem KV.any{kvs:List (κ×V)}{vs:List (κ×Value)}(r:KV kvs vs)(k:κ):(kvs.any fun kv=>decide (kv.1=k))=vs.any fun kv=>decide (kv.1=k):=by
 unfold KV at r;induction r with
 | nil=>rfl
 | cons h t ih=>rw [kz,kz,ih,h.1]
theorem KV.L5{kvs:List (κ×V)}{vs:List (κ×Value)}(r:KV kvs vs)(k:κ){y:V}{u:Value}(ry:RelV y u) :
  KV (kvs.map fun kv=>if kv.1=k then (kv.1,y) else kv) (vs.map fun kv=>if kv.1=k then (kv.1,u) else kv):=by
 unfold KV at r ⊢;induction r with
 | nil=>exact .nil
 | @cons p q ps qs h t ih =>
  rw [ak,ak];refine .cons ?_ ih;obtain⟨h1,h2⟩:=h;by_cases e:p.1=k
  ·rw [if_pos e,if_pos (h1.symm.trans e)]; exact⟨h1,ry⟩
  ·rw [if_neg e,if_neg (fun z=>e (h1.trans z))]; exact⟨h1,h2⟩
theorem KV.put{kvs:List (κ×V)}{vs:List (κ×Value)}(r:KV kvs vs)(k:κ){y:V}{u:Value}(ry:RelV y u):KV (putK kvs k y) (stored vs k u):=by
 unfold putK stored;rw [r.any k];by_cases e:(vs.any fun kv=>decide (kv.1=k))=true
 ·rw [if_pos e,if_pos e]; exact r.L5 k ry
 ·rw [if_neg e,if_neg e]; exact OA r ⟨rfl,ry⟩
theorem KV.length{kvs:List (κ×V)}{vs:List (κ×Value)}(r:KV kvs vs):kvs.length=vs.length:=gU r
end
theorem xQ{P:bJ}{w:World}{k:Key}{u:Value}(r:RelV (kV k) u):(cK P w).is k u=true:=by
 cases k with
 | inl i=>obtain⟨t,e⟩:=(show ∃ t,u=dW i t from r); subst e; exact Dk P w i t
 | inr x=>obtain⟨t,e⟩:=(show ∃ t,u=Value.str x t from r); subst e; exact Dj P w x t
theorem zY{P:bJ}{w:World}:∀ {ks:List Key} {us:List Value},Vals (ks.map kV) us->ItemsAre (cK P w) ks us
 | [],_,r=>by rw [bq] at r; cases r; exact .nil
 | k :: ks,_,r=>by
  rw [ak] at r;cases r with
  | cons h t=>exact .cons (xQ h) (zY t)
noncomputable abbrev KT(H:Hp):List (List Key×V)->List (List Key×Addr×Value)->Prop:=jC fun p q=>p.1=q.1/\H q.2.1=some (.tup (p.1.map kV))/\RelV p.2 q.2.2
theorem KT.val{H:Hp}{kvs:List (List Key×V)}{xs:List (List Key×Addr×Value)}(r:KT H kvs xs)(k:List Key):vi (kM kvs k) ((atKey xs k).map (·.2)):=by
 induction r with
 | nil=>exact fF
 | @cons p q ps qs h t ih =>
  obtain⟨h1,_,h2⟩:=h;by_cases e:p.1=k
  ·have e':q.1=k:=h1.symm.trans e;have b:atKey (q :: qs) k=some q.2:=by simp [atKey,dQ,e']
   rw [ph e,b]; exact h2
  ·have e':¬ q.1=k:=fun z=>e (h1.trans z);have b:atKey (q :: qs) k=atKey qs k:=by simp [atKey,dQ,e']
   rw [pj e,b]; exact ih
theorem KT.L5{H:Hp}{kvs:List (List Key×V)}{xs:List (List Key×Addr×Value)}(r:KT H kvs xs)(k:List Key){y:V}{u:Value}(ry:RelV y u) :
  KT H (kvs.map fun kv=>if kv.1=k then (kv.1,y) else kv) (xs.map (putAt k u)):=by
 induction r with
 | nil=>exact .nil
 | @cons p q ps qs h t ih =>
  rw [ak,ak];refine .cons ?_ ih;obtain⟨h1,h2,h3⟩:=h;unfold putAt;by_cases e:p.1=k
  ·rw [if_pos e,if_pos (h1.symm.trans e)]; exact⟨h1,h2,ry⟩
  ·rw [if_neg e,if_neg (fun z=>e (h1.trans z))]; exact⟨h1,h2,h3⟩
theorem KT.put{H:Hp}{kvs:List (List Key×V)}{xs:List (List Key×Addr×Value)}(r:KT H kvs xs)(k:List Key){b:Addr}{y:V}{u:Value}(hb:H b=some (.tup (k.map kV)))(ry:RelV y u) :
  KT H (putK kvs k y) (EK xs k b u):=by
 have e:(kvs.any fun kv=>decide (kv.1=k))=(atKey xs k).isSome:=by
  rw [Ct,(r.val k).nq,yL]
 unfold putK EK;rw [e];by_cases q:(atKey xs k).isSome=true
 ·rw [if_pos q,if_pos q]; exact r.L5 k ry
 ·rw [if_neg q,if_neg q]; exact OA r ⟨rfl,hb,ry⟩
theorem KT.keeps{H H':Hp}{kvs:List (List Key×V)}{xs:List (List Key×Addr×Value)}(r:KT H kvs xs)(ht:∀ b ys,H b=some (.tup ys)->H' b=some (.tup ys)):KT H' kvs xs :=
 Paired.SI r fun _ _ z=>⟨z.1,ht _ _ z.2.1,z.2.2⟩
section
variable {P:bJ} {w:World} {H:Hp} {h:Heap} {a:Addr}
theorem QS{u:HO}(ok:oJ P w H h)(e:Rd H a u):fA P w H h a u:=e.ok ok
theorem rj{kvs:List (Key×V)}(ok:oJ P w H h)(e:Rd H a (.dK kvs)):kvs.length<=aZ/\(a == cV)=false/\∃ vs,KV kvs vs/\h.DictOf (cK P w) a vs :=
 show fA P w H h a (.dK kvs) from QS ok e
theorem As{kvs:List (Key×V)}(ok:oJ P w H h)(e:H a=some (.dK kvs)):kvs.length<=aZ/\(a == cV)=false/\∃ vs,KV kvs vs/\h.DictOf (cK P w) a vs:=rj ok (.inl e)
theorem uV{ks:List Key}(ok:oJ P w H h)(e:H a=some (.tup (ks.map kV))):(g7 (cK P w)).is h ks a:=by
 obtain⟨_,bX,r,o,h1,h2,n,h3⟩:=(show fA P w H h a (.tup (ks.map kV)) from ok a _ e);exact⟨o,bX.toArray,n,h1,h2,h3,by simpa using zY r⟩
theorem yf{kvs:List (List Key×V)}(ok:oJ P w H h)(e:Rd H a (.dT kvs)):kvs.length<=aZ/\(a == cV)=false /\
  ∃ xs,KT H kvs xs/\h.DictOfH (g7 (cK P w)) a xs:=by
 obtain⟨z,y,xs,r,o,es,ep,h1,h2,h3,h4,h5⟩:=(show fA P w H h a (.dT kvs) from QS ok e);refine⟨z,y,xs,r,o,es,ep,h1,h2,h3,h4,fun x hx=>?_,h5⟩;have all:∀ {l:List (List Key×V)} {m:List (List Key×Addr×Value)},KT H l m->∀ x∈m,(g7 (cK P w)).is h x.1 x.2.1:=by
  intro l m q;induction q with
  | nil=>intro x hx; exact nomatch hx
  | @cons p q ps qs hq t ih =>
   intro x hx;rcases List.mem_cons.mp hx with e | hx
   ·subst e;exact uV ok (by rw [<-hq.1]; exact hq.2.1)
   ·exact ih x hx
 exact all r x hx
theorem NS{kvs:List (List Key×V)}(ok:oJ P w H h)(e:H a=some (.dT kvs)):kvs.length<=aZ/\(a == cV)=false /\
  ∃ xs,KT H kvs xs/\h.DictOfH (g7 (cK P w)) a xs:=yf ok (.inl e)
end
noncomputable def yH(H:Hp)(a:Addr)(y:V)(r:Option V):Prop :=
 (∃ kvs k,Rd H a (.dK kvs)/\y=kV k/\r=kM kvs k)\/∃ kvs k b,Rd H a (.dT kvs)/\y=.ref b/\H b=some (.tup (k.map kV))/\r=kM kvs k
noncomputable def KQ(H:Hp)(a:Addr)(y v:V)(H':Hp):Prop :=
 (∃ kvs k,H a=some (.dK kvs)/\y=kV k/\kvs.length < aZ/\H'=upd H a (.dK (putK kvs k v))) \/
 ∃ kvs k b,H a=some (.dT kvs)/\y=.ref b/\H b=some (.tup (k.map kV))/\kvs.length < aZ/\H'=upd H a (.dT (putK kvs k v))
theorem yH.k{H:Hp}{a:Addr}{kvs:List (Key×V)}{k:Key}(e:H a=some (.dK kvs)):yH H a (kV k) (kM kvs k):=.inl ⟨kvs,k,.inl e,rfl,rfl⟩
theorem yH.t{H:Hp}{a b:Addr}{kvs:List (List Key×V)}{k:List Key}(e:H a=some (.dT kvs))(eb:H b=some (.tup (k.map kV))):yH H a (.ref b) (kM kvs k):=.inr ⟨kvs,k,b,.inl e,rfl,eb,rfl⟩
theorem KQ.k{H:Hp}{a:Addr}{kvs:List (Key×V)}{k:Key}{v:V}(e:H a=some (.dK kvs))(hl:kvs.length < aZ):KQ H a (kV k) v (upd H a (.dK (putK kvs k v))):=.inl ⟨kvs,k,e,rfl,hl,rfl⟩
theorem KQ.t{H:Hp}{a b:Addr}{kvs:List (List Key×V)}{k:List Key}{v:V}(e:H a=some (.dT kvs))(eb:H b=some (.tup (k.map kV)))(hl:kvs.length < aZ) :
  KQ H a (.ref b) v (upd H a (.dT (putK kvs k v))):=.inr ⟨kvs,k,b,e,rfl,eb,hl,rfl⟩
section
variable {X:Cx} {pins:List (Addr×Obj)} {σ:St} {H:Hp} {s:aw} {a:Addr} {y v:V} {u r:Value} {o:Option V} {A:dj} {E:Value->aw->Prop}
theorem Inv.big(I:Inv X pins σ H s):cV < s.heap.objs.size:=by
 have h:bS < s.heap.objs.size:=(I.mod.glob.keeps I.bk).lt;exact Nat.lt_trans (by decide) h
theorem ve{Q:Value->aw->Prop}(hu:A.units+1 < cLine)(I:Inv X pins σ H s)(g:yH H a y (some v))(ry:RelV y u)(h:∀ w' s',Inv X pins σ H s'->RelV v w'->Q w' s') :
  wpAny (model X.prog X.w) A (getItem (.ref a) u) Q E s:=by
 rcases g with ⟨kvs,k,e,ey,l⟩ | ⟨kvs,k,b,e,ey,eb,l⟩
 ·subst ey;obtain⟨z,hd,vs,rel,dd⟩:=rj I.cD e;obtain⟨w',hw,qO⟩:=vi.some_of (v:=v) (o:=Lg vs k) (by rw [l]; exact rel.val k);exact wpAny_getItem_of (xQ ry) dd.mapOf hw (h w' _ (I.tok _) qO)
 ·subst ey;cases (show u=fj b from ry);obtain⟨z,hd,xs,rel,dd⟩:=yf I.cD e;obtain⟨w',hw,qO⟩:=vi.some_of (v:=v) (o:=(atKey xs k).map (·.2)) (by rw [l]; exact rel.val k);obtain⟨p,hp,qR⟩:=Option.map_eq_some_iff.mp hw;refine wpAny_getItem_heap (lh hu) (uV I.cD eb) dd hp ?_;rw [qR];exact h w' _ (I.tok _) qO
theorem VC{Q:Value->aw->Prop}(hu:A.units+1 < cLine)(I:Inv X pins σ H s)(g:yH H a y o)(ry:RelV y u)(h:∀ s',Inv X pins σ H s'->Q (.bool o.isSome) s') :
  wpAny (model X.prog X.w) A (eW .In u (.ref a)) Q E s:=by
 rcases g with ⟨kvs,k,e,ey,l⟩ | ⟨kvs,k,b,e,ey,eb,l⟩
 ·subst ey;obtain⟨z,hd,vs,rel,dd⟩:=rj I.cD e;refine wpAny_in_of (xQ ry) hd dd.mapOf ?_;rw [<-(rel.val k).nq,<-l];exact h _ (I.tok _)
 ·subst ey;cases (show u=fj b from ry);obtain⟨z,hd,xs,rel,dd⟩:=yf I.cD e;refine wpAny_in_heap (lh hu) (uV I.cD eb) hd dd ?_;have q:=(rel.val k).nq;rw [yL] at q;rw [<-q,<-l];exact h _ (I.tok _)
theorem IK{Q:Value->aw->Prop}(hu:A.units+1 < cLine)(I:Inv X pins σ H s)(g:yH H a y o)(ry:RelV y u)(h:∀ s',Inv X pins σ H s'->Q (.bool (!o.isSome)) s') :
  wpAny (model X.prog X.w) A (eW .NotIn u (.ref a)) Q E s:=by
 rcases g with ⟨kvs,k,e,ey,l⟩ | ⟨kvs,k,b,e,ey,eb,l⟩
 ·subst ey;obtain⟨z,hd,vs,rel,dd⟩:=rj I.cD e;refine wpAny_notIn_of (xQ ry) hd dd.mapOf ?_;rw [<-(rel.val k).nq,<-l];exact h _ (I.tok _)
 ·subst ey;cases (show u=fj b from ry);obtain⟨z,hd,xs,rel,dd⟩:=yf I.cD e;refine wpAny_notIn_heap (lh hu) (uV I.cD eb) hd dd ?_;have q:=(rel.val k).nq;rw [yL] at q;rw [<-q,<-l];exact h _ (I.tok _)
theorem qC{h':Heap}{t':Nat}{ob:HO}(I:Inv X pins σ H s)(mu:VP (H a))(hs:eZ a s.heap h')(he:∃ q,h'.get? a=some q)(new:fA X.prog X.w (upd H a ob) h' a ob) :
  Inv X pins σ (upd H a ob) { s with heap:=h',toks:=t' } :=
 I.write (x:=a) (e:=a) mu (.inl rfl) (fun b q hb z=>(hs.2 b hb).trans z) he new
theorem BG{P:bJ}{w:World}{H':Hp}{h':Heap}{kvs:List (Key×V)}{vs:List (Key×Value)}(z:kvs.length<=aZ)(hd:(a == cV)=false)(rel:KV kvs vs)(dd:h'.DictOf (cK P w) a vs) :
  fA P w H' h' a (.dK kvs):=⟨z,hd,vs,rel,dd⟩
theorem Kr{H':Hp}{Q:Unit->aw->Prop}(hu:A.units+1 < cLine)(I:Inv X pins σ H s)(g:KQ H a y v H')(ry:RelV y u)(rv:RelV v r)(h:∀ s',Inv X pins σ H' s'->Q () s') :
  wpAny (model X.prog X.w) A (setItem (.ref a) u r) Q E s:=by
 rcases g with ⟨kvs,k,e,ey,l,eH⟩ | ⟨kvs,k,b,e,ey,eb,l,eH⟩
 ·subst ey eH;obtain⟨z,hd,vs,rel,dd⟩:=As I.cD e;have hz:vs.length<=aZ:=by rw [<-rel.length]; exact z
  have hl:(putK kvs k v).length<=aZ:=by have:=vG kvs k v; lia
  refine wpAny_setItem_pairs (hsz:=hz) (xQ ry) dd fun h' Aw hs=>h _ ?_;have he:∃ q,h'.get? a=some q:=let ⟨q,_,_,hq,_⟩:=Aw; ⟨q,hq⟩
  exact qC I (by rw [e]; exact fF) hs he (BG hl hd (rel.put k rv) Aw)
 ·subst ey eH;cases (show u=fj b from ry);obtain⟨z,hd,xs,rel,dd⟩:=NS I.cD e;have hz:xs.length<=aZ:=by rw [<-gU rel]; exact z
  have hl:(putK kvs k v).length<=aZ:=by have:=vG kvs k v; lia
  refine wpAny_setItem_heap (hsz:=hz) (lh hu) (uV I.cD eb) dd fun h' Aw hs=>h _ ?_;obtain⟨q,es,ep,hq,h2,h3,h4,_,h5⟩:=Aw;refine qC I (by rw [e]; exact fF) hs ⟨q,hq⟩ ⟨hl,hd,_,(rel.put k eb rv).keeps fun c ys ec=>?_,q,es,ep,hq,h2,h3,h4,h5⟩;rw [bM (QZ ec e (fun z=>nomatch z))];exact ec
end
section
variable {X:Cx} {pins:List (Addr×Obj)} {σ:St} {H:Hp} {s:aw} {a:Addr} {kvs:List (Key×V)} {k:Key} {u:Value} {A:dj} {E:Value->aw->Prop}
theorem Rv {Q:Value->aw->Prop} (I:Inv X pins σ H s) (e:Rd H a (.dK kvs)) (h:∀ t s',Inv X pins σ H s'->Q (.int kvs.length t) s'):wpAny (model X.prog X.w) A (call (.builtin "len") [.ref a]) Q E s:=by
 obtain⟨z,hd,vs,rel,dd⟩:=rj I.cD e;refine call_len_dict hd dd (by rw [<-rel.length]; rw [cQ] at z; lia) ?_;rw [<-rel.length];exact h _ _ (I.tok _)
theorem Qi{Q:Bool->aw->Prop}(I:Inv X pins σ H s)(e:Rd H a (.dK kvs))(h:∀ s',Inv X pins σ H s'->Q (!kvs.isEmpty) s'):wpAny (model X.prog X.w) A (truthy (.ref a)) Q E s:=by
 obtain⟨z,hd,vs,rel,dd⟩:=rj I.cD e;refine EJ hd dd (by rw [<-rel.length]; rw [cQ] at z; lia) ?_;have q:kvs.isEmpty=vs.isEmpty:=by cases rel <;> rfl
 rw [<-q];exact h _ (I.tok _)
end
theorem pZ {X:Cx} {pins:List (Addr×Obj)} {σ:St} {H:Hp} {s:aw} {a:Addr} {y:V} {o:Option V} (I:Inv X pins σ H s) (g:yH H a y o):s.TypeIs (.ref a) "dict":=by
 rcases g with ⟨kvs,k,e,_,_⟩ | ⟨kvs,k,b,e,_,_,_⟩
 ·obtain⟨_,_,vs,_,dd⟩:=rj I.cD e;exact dd.typeIs
 ·obtain⟨_,_,xs,_,dd⟩:=yf I.cD e;exact dd.typeIs
theorem D0 {P:bJ} {w:World} {H:Hp} (h:Heap) (hb:cV < h.objs.size):fA P w H (h.push { cls:=.type "dict",data:=.dict #[] }) h.objs.size (.dK []) :=
 ⟨cB _,beq_eq_false_iff_ne.mpr (fT (bL hb)),[],.nil,Heap.DictOf.new h⟩
noncomputable def RV:TE:=fun _ H Q=>∀ p,H p=none->Q (.ref p) (upd H p (.dK []))
section
variable {X:Cx} {pos:Pos}
theorem Ml:PE X (.Dict [] [] pos) RV:=fun pins s σ H Q I h =>
 wpAny_Dict_empty ⟨.ref s.heap.objs.size,_,I.laid (a:=s.heap.objs.size) (o:=.dK []) (t':=s.toks) (fun _ _ q=>aK _ q) (aF _) (D0 s.heap I.big),rfl,h _ (I.cD.fresh (aF _))⟩
end
noncomputable abbrev VV:List (V×V)->List (Value×Value)->Prop:=jC fun p q=>RelV p.1 q.1/\RelV p.2 q.2
noncomputable def FF(kvs more:List (Key×V)):List (Key×V):=more.foldl (fun acc kv=>putK acc kv.1 kv.2) kvs
theorem KV.merge:∀ {more:List (Key×V)} {rs:List (Key×Value)} {kvs:List (Key×V)} {vs:List (Key×Value)},KV more rs->KV kvs vs->KV (FF kvs more) (merged vs rs):=by
 intro more rs kvs vs r;unfold KV at r;induction r generalizing kvs vs with
 | nil=>intro q; exact q
 | @cons p q ps qs h t ih =>
  intro r0;have e:KV (putK kvs p.1 p.2) (stored vs q.1 q.2):=by
   have:=r0.put p.1 h.2;rw [<-h.1]; exact this
  exact ih e
theorem ym{P:bJ}{w:World}:∀ {kvs:List (Key×V)} {ws:List (Value×Value)},VV (kvs.map fun kv=>(kV kv.1,kv.2)) ws->∃ rs,Carries (cK P w) ws rs/\KV kvs rs
 | [],_,r=>by rw [bq] at r; cases r; exact⟨[],fF,.nil⟩
 | p :: kvs,_,r=>by
  rw [ak] at r;cases r with
  | @cons a b as bs h t =>
   obtain⟨rs,c,q⟩:=ym (P:=P) (w:=w) t;obtain⟨b1,b2⟩:=b;exact⟨(p.1,b2) :: rs,⟨xQ h.1,rfl,c⟩,.cons ⟨rfl,h.2⟩ q⟩
structure M1(X:Cx)(o:Expr)(m:Str)(apos:Pos)(e:Expr)(jg:Pos):Prop where
 base:oM o m X.env (eval o X.env)=eval o X.env
 Aj:((oy jg (cC [e] X.env)).all (fun x=>!x.1)&&(backToKw jg (keywordEach [] X.env)).all (fun x=>x.1.isSome)
  && decide (([e]:List Expr).length+([]:List Lq).length+(if ([]:List Lq).isEmpty then 0 else 1) < 30))=true
 line:(apos.endLine == jg.line)=true
 trees:oy jg (cC [e] X.env)=[(false,eval e X.env)]
structure M2(X:Cx)(o:Expr)(m:Str)(apos:Pos)(e f:Expr)(jg:Pos):Prop where
 base:oM o m X.env (eval o X.env)=eval o X.env
 Aj:((oy jg (cC [e,f] X.env)).all (fun x=>!x.1)&&(backToKw jg (keywordEach [] X.env)).all (fun x=>x.1.isSome)
  && decide (([e,f]:List Expr).length+([]:List Lq).length+(if ([]:List Lq).isEmpty then 0 else 1) < 30))=true
 line:(apos.endLine == jg.line)=true
 trees:oy jg (cC [e,f] X.env)=[(false,eval e X.env),(false,eval f X.env)]
noncomputable def IsD(H:Hp)(a:Addr):Prop:=(∃ kvs,Rd H a (.dK kvs))\/∃ kvs,Rd H a (.dT kvs)
theorem M8{X:Cx}{pins:List (Addr×Obj)}{σ:St}{H:Hp}{s:aw}{a:Addr}(I:Inv X pins σ H s)(d:IsD H a) :
  s.TypeIs (.ref a) "dict"/\(∀ b,fj a=.ref b->∃ ob,s.heap.get? b=some ob/\ob.dict=none)/\(a == cV)=false:=by
 rcases d with ⟨kvs,e⟩ | ⟨kvs,e⟩
 ·obtain⟨_,hd,vs,_,dd⟩:=rj I.cD e;refine⟨dd.typeIs,fun b q=>?_,hd⟩;cases q;obtain⟨ob,_,_,h1,h2,_⟩:=dd;exact⟨ob,h1,h2.2.1⟩
 ·obtain⟨_,hd,xs,_,dd⟩:=yf I.cD e;refine⟨dd.typeIs,fun b q=>?_,hd⟩;cases q;obtain⟨ob,_,_,h1,h2,_⟩:=dd;exact⟨ob,h1,h2.2.1⟩
end L2
namespace Att
open PySem PySem.W PySem.Calls PyProof.Rows
theorem vU{P:Params}{h:Heap}:∀ (ns:List Int) (vs:List Value),WellAll P h vs (ns.map WData.int)->nN vs ns:=by
 intro ns;induction ns with
 | nil =>
  intro vs w;rw [bq] at w;cases w;exact .nil
 | cons n ns ih =>
  intro vs w;rw [ak] at w;cases w with
  | cons a b =>
   cases a;exact .cons _ _ (ih _ b)
theorem Js{l:OpenLaw}{n:Nat}(hn:l.most=some n){P:Params}{h:Heap}{args:List WData}{vals:List Value}
  (P6:l.row.toRowW.claim.pre args=true) (X1:WellAll P h vals args) :
  ∃ a vs ns,vals=[fj a]/\args=[WData.list (ns.map WData.int)]/\h.get? a=some { cls:=.type "list",data:=.seq vs.toArray }/\nN vs ns/\ns.length<=n:=by
 have hsh:WShape.hasAll [] args [.list .int]=true:=(pre_splitW P6).1;have hc:l.pre.holds [] { args:=args } = true:=(pre_splitW P6).2;obtain⟨d,r,rfl,h1,h2⟩:=hasAllW_cons hsh;obtain rfl:=hasAllW_nil h2;obtain⟨xs,rfl,h3⟩:=hasW_list h1;obtain⟨ns,rfl⟩:=items_int h3;have hlen:ns.length<=n:=by
  unfold OpenLaw.pre at hc;have h4:(WTm.not (.lt (.lit (.int (n:Int))) (.len (.arg 0)))).holds [] { args:=[.list (ns.map .int)] } = true:=by
   have h4:=(holds_andW hc).1;rw [hn] at h4;exact h4
  have h5:=condW_of h4 (w_not (w_lt w_lit (w_len_list (w_arg rfl))));rw [aC] at h5;refine Nat.le_of_not_lt fun q=>?_;have q':(n:Int) < ((ns.length:Nat):Int):=by lia
  first
   | (rw [decide_eq_true q'] at h5; exact absurd h5 (by decide))
   | (simp at h5; lia)
 cases X1 with
 | cons w1 w2 =>
  cases w2;cases w1 with
  | list ho za=>exact⟨_,_,ns,rfl,rfl,ho,vU ns _ za,hlen⟩
theorem JI(l:OpenLaw)(args:List WData):l.row.toRowW.claim.post args (.bool true) args=true :=
 postW_of (r:=l.row.toRowW) (X:=(true == true))
  (show WShape.has [] (.bool true) .bool=true by first | rfl | decide | simp [WShape.has,WShape.arms,WShape.armsAll])
  (show (WTm.eq .res (.lit (.bool true))).value [] { args:=args,res:=some (.bool true),after:=args } = some (.bool (true == true)) from w_eq_bool (w_res rfl) w_lit) rfl
theorem Eh{l:OpenLaw}{n:Nat}{q:bJ}{loose:List Str}{XP:(Str->Option Value)->Heap->Prop}{YP:World->Heap->Prop}{d:DefRec}
  (hn:l.most=some n) (Vo:d.params.defaults=[])
  (call:∀ (w:World) (lV fm:aw) (mg mb:Str->Option Value) (fa:Addr) (o:Obj) (pm cd doc:Value) (a:Addr) (vs:List Value) (ns:List Int),
   Ground q loose [] XP w lV mg mb fm.heap->YP w fm.heap ->
   fm.heap.get? fa=some o->o.data=.func (docDef d.name d.params d.body d.scope pm cd doc)->fm.heap.CodeRec cd d.name->mg d.name=some (.ref fa) ->
   fm.heap.get? a=some { cls:=.type "list",data:=.seq vs.toArray }->nN vs ns->ns.length<=n->fm.gens=#[] ->
   EN (model l.prog w) EO (.call (.ref fa) ⟨[.ref a],[]⟩) (fun r s'=>r=.ok (.ret (.bool true))/\OldK fm.heap s'.heap/\s'.os=fm.os/\AN s'.gens) fm) :
  WalkO q loose XP YP l.row.toRowW d [] (fun f vs=>Ha f vs):=by
 intro w lV fm mg mb G Y fa o pm cd doc dV kV ho hd Iw hD Vi hg args vals as P6 abV hrd X1 hlo;obtain rfl:dV=.none:=Dflts.none hD Vo;obtain rfl:kV=.none:=Dflts.noKw hD;obtain⟨a,vs,ns,rfl,rfl,S0,hints,hlen⟩:=Js hn P6 X1;refine enter_call (codeAny_mono (call w lV fm mg mb fa o pm cd doc a vs ns G Y ho (fd_plain hd) Iw Vi S0 hints hlen hg) fun r s' hq=>?_);obtain⟨rfl,h2,h3,h4⟩:=hq;exact⟨.inl ⟨.bool true,.bool true,[],rfl,fun _=>rfl,.bool true,JI l _,fun _=>⟨List.Pairwise.nil,fun _ hm=>(nomatch hm)⟩⟩,h2,h3,h4⟩
end Att
namespace L2
open PySem PySem.Spec PyProof.Rows
theorem zx:∀ {vs:List Value} {ns:List Int},nN vs ns->Vals (ns.map V.int) vs
 | _,_,.nil=>.nil
 | _,_,.cons n t h=>.cons ⟨t,rfl⟩ (zx h)
noncomputable def QF(H:Hp):Prop:=∀ b,H b=none\/∃ o xs,H b=some (.jh o (.lst xs))
theorem MQ{P:bJ}{w:World}{K:ai}{mg mb:Str->Option Value}{CX:KR}{k:Nat}{fa a:Addr}{fd:aI}{x:Str}{sp:Sp}{fm:aw}{vs:List Value}{ns:List Int}
  (KX:K.In fm.heap) (OL:fm.heap.Ns bS mg) (hb:fm.heap.Ns builtinsNs mb) (hbb:∀ x:Str,x≠"__name__"->mb x=eB x) (Yp:fm.heap.NoLimit) (hg:fm.gens=#[])
  (ha:fm.heap.get? a=some { cls:=.type "list",data:=.seq vs.toArray }) (hi:nN vs ns) (hl:ns.length<=aZ) (hr:lO k EO)
  (F:∀ base:Heap,K.In base->base.Ns bS mg->fX P w K mg base CX k fa fd [x] sp) (Vr:∀ (s:aw) (u:Value),Lu s fd ⟨[u],[]⟩ [(x,u)])
  (Rc:∀ H:Hp,QF H->qg K H a (ns.map V.int)->sp [.ref a] H (fun v _=>v=.bl true) fun _ _ _=>False)
  (YH:∀ H e s',CX [] H fm (fun _ _ _=>False) e s'->False) :
  EN (model P w) EO (.call (.ref fa) ⟨[.ref a],[]⟩) (fun r s'=>r=.ok (.ret (.bool true))/\OldK fm.heap s'.heap/\s'.os=fm.os/\AN s'.gens) fm:=by
 have rv:=zx hi;have XF:=hi.length;have core:∀ H:Hp,QF H->qg K H a (ns.map V.int)->oJ P w H fm.heap->(∀ b,H b≠none->b=a)->(H a≠none->K.lookup a=none) ->
   EN (model P w) EO (.call (.ref fa) ⟨[.ref a],[]⟩) (fun r s'=>r=.ok (.ret (.bool true))/\OldK fm.heap s'.heap/\s'.os=fm.os/\AN s'.gens) fm:=by
  intro H hO hS cD hA hK;have IU:∀ {b:Addr} {o:Obj},fm.heap.get? b=some o->H b=none->(Bs fm.heap H).get? b=some o:=fun e n=>Nm e n;have UT:∀ {b:Addr} {o:Obj} {es:Array eX} {ep:Nat},fm.heap.get? b=some o->o.data=.dict es ep->H b=none:=fun {b o es ep} e d=>by
   cases q:H b with
   | none=>rfl
   | some u =>
    have e':b=a:=hA b (by rw [q]; simp);subst e';rw [ha] at e; cases e;have d':Data.seq vs.toArray _=Data.dict es ep:=d;cases d'
  have V5:∀ {b:Addr} {m:Str->Option Value},fm.heap.Ns b m->(Bs fm.heap H).Ns b m:=fun {b m} ⟨o,es,ep,e,d,r⟩=>⟨o,es,ep,IU e (UT e d),d,r⟩;have hKb:K.In (Bs fm.heap H):=fun b o e=>IU (KX b o e) (by
   cases q:H b with
   | none=>rfl
   | some u =>
    have e':b=a:=hA b (by rw [q]; simp);subst e';rw [hK (by rw [q]; simp)] at e; cases e)
  have hM:Mod K mg (Bs fm.heap H):=⟨hKb,V5 OL,⟨mb,V5 hb,hbb⟩,let ⟨mc,h1,h2⟩:=Yp; ⟨mc,V5 h1,h2⟩⟩;have e0:QG P w K mg (Bs fm.heap H) EO [] fm H:=⟨rfl,hM,fun b o e=>PO e,Nat.le_of_eq (Kb _ _),trivial,fun b hb=>absurd (show b∈([]:List Addr) from hb) (by simp),cD,.of_eq hg⟩;refine codeAny_mono ((F _ hKb (V5 OL)).run EO [] fm H ⟨[.ref a],[]⟩ [.ref a] [.ref a] _ _ hr e0 (Vr fm (.ref a)) (.cons rfl .nil) (Rc H hO hS)) fun r s' h=>?_;cases r with
  | error e=>exact(YH H e s' h).elim
  | ok fl =>
   cases fl with
   | next=>exact bP h
   | brk=>exact bP h
   | cont=>exact bP h
   | ret u =>
    obtain⟨v,H',os,bare,un,Yg,r',q⟩:=h;have q':v=.bl true:=q;subst q';obtain rfl:u=Value.bool true:=r';refine⟨rfl,OldK.of_keep fun b o e=>?_,os,bare⟩;cases q:H b with
    | none=>exact un.keep b o e q (by intro z; exact absurd (show b∈([]:List Addr) from z) (by simp)) (by simp)
    | some u =>
     rcases hO b with z | ⟨ob,xs,z⟩
     ·rw [q] at z; cases z
     ·have z2:=un.xZ b ob _ z;obtain⟨e1,_⟩:=cD b _ z;obtain⟨e2,_⟩:=Yg b _ z2;rw [e] at e1; cases e1;exact e2
 cases hk:K.lookup a with
 | some o =>
  have e:=KX a o hk;rw [ha] at e;cases e;refine core (fun _=>none) (fun _=>.inl rfl) (.inr ⟨_,vs.toArray,_,hk,rfl,rfl,rfl,by rw [aX,XF]; exact hl,by simpa using rv⟩) (fun b u z=>by have z':(none:Option HO)=some u:=z; cases z') (fun b z=>absurd rfl z) fun z=>absurd rfl z
 | none =>
  refine core (fun b=>if b=a then some (.jh { cls:=.type "list",data:=.seq vs.toArray } (.lst (ns.map V.int))) else none) (fun b=>?_) (.inl (.inr ⟨{ cls:=.type "list",data:=.seq vs.toArray },if_pos rfl⟩)) (fun b u z=>?_) (fun b z=>?_) fun _=>hk
  ·by_cases hb:b=a
   ·exact .inr ⟨_,_,if_pos hb⟩
   ·exact .inl (if_neg hb)
  ·by_cases hb:b=a
   ·have z':=(if_pos hb).symm.trans z;cases z';subst hb;exact⟨ha,by rw [aC]; exact hl,vs,_,rv,ha⟩
   ·have z':=(if_neg hb).symm.trans z;cases z'
  ·by_cases hb:b=a
   ·exact hb
   ·exact absurd (if_neg hb) z
theorem OZ{l:AJ}{n k:Nat}{q:bJ}{loose:List Str}{XP:(Str->Option Value)->Heap->Prop}{YP:World->Heap->Prop}{d:DefRec}{K:Params->ai}{CX:World->KR}{sp:World->Sp}{x:Str}
  (hn:l.most=some n) (hn2:n<=aZ) (Vo:d.params.defaults=[]) (hr:lO k EO)
  (hY:∀ (w:World) (h:Heap),YP w h->(K w.params).In h)
  (F:∀ (w:World) (mg:Str->Option Value) (fa:Addr) (h:Heap),(K w.params).In h->h.Ns bS mg->mg d.name=some (.ref fa) ->
   ∃ fd:aI,(∀ (s:aw) (u:Value),Lu s fd ⟨[u],[]⟩ [(x,u)]) /\
    ∀ base:Heap,(K w.params).In base->base.Ns bS mg->fX l.prog w (K w.params) mg base (CX w) k fa fd [x] (sp w))
  (Rc:∀ (w:World) (H:Hp) (a:Addr) (ns:List Int),ns.length<=n->QF H->qg (K w.params) H a (ns.map V.int)->sp w [.ref a] H (fun v _=>v=.bl true) fun _ _ _=>False)
  (YH:∀ (w:World) (H:Hp) (s:aw) (e:Value) (s':aw),CX w [] H s (fun _ _ _=>False) e s'->False) :
  PySem.W.WalkO q loose XP YP l.row.toRowW d [] (fun f vs=>Ha f vs):=by
 refine Att.Eh hn Vo fun w lV fm mg mb fa o pm cd doc a vs ns G Y ho hd Iw Vi S0 hints hlen hg=>?_;have KX:=hY w _ Y;obtain⟨fd,hb,hF⟩:=F w mg fa _ KX G.T.g Vi;exact MQ KX G.T.g G.T.b G.T.builtins G.T.nolimit hg S0 hints (bu hlen hn2) hr hF hb (fun H hO hS=>Rc w H a ns hlen hO hS) fun H e s'=>YH w H fm e s'
end L2
/- THE adL Ws (shape; LID,My.* are Zk):
   My.Adr: a structure of WQ addresses aaL aaG ZO names (classes,T5); My.Txt K t: a structure (Prop) of WQ equations over K;
   My.WO:{K} {implicit addresses ..} (e1:nsIn K bS "law" = some (some (.ref f))) (e2:K.lookup f=some ⟨oc,od,.func (fnOf "law" "law" params body scope dV kV doc pm an nI ct),sl⟩) (e3:codeIn K nI "law" = true) ..:∃ t,My.Txt K t
(WQ tactic k_is has no namespace: write k_is) -/
namespace L2
open PySem PySem.Spec PyProof.Rows
noncomputable def mr(s:Stmt):Arguments:=match s with
 | .FunctionDef _ a _ _ _ _ _ _ _ _=>a
 | _=>{ posonlyargs:=[],args:=[],vararg:=none,kwonlyargs:=[],kw_defaults:=[],kwarg:=none,defaults:=[] }
noncomputable def jx(s:Stmt):List Stmt:=match s with
 | .FunctionDef _ _ b _ _ _ _ _ _ _=>b
 | _=>[]
noncomputable def bg(s:Stmt):Scope:=match s with
 | .FunctionDef _ _ _ _ _ _ sc _ _ _=>sc
 | _=>{ kind:=.function,names:=[],isGenerator:=false,isCoroutine:=false }
noncomputable abbrev fY:KR:=fun _ _ _ _ _ _=>False
noncomputable abbrev E0:XK:=fun _ _ _=>False
theorem UE{X:Cx}:Passes fY X E0:=fun _ _ _ _ _ _ _ h=>h.elim
structure oK(K:ai)(x qual:Str)(st:Stmt)(f:Addr)(fd:aI):Prop where
 ex:∃ (oc:Value) (od:Option Addr) (kV doc pm:Value) (an:Option Addr) (nI ct:Value) (Mr:Array (Option Value)),
  fd=jA x qual (mr st) (jx st) (bg st) .none kV doc pm an nI ct/\K.lookup f=some ⟨oc,od,.func fd,Mr⟩/\Cg K nI qual=true
 kp:kF K (.ref f)=true
section
variable {P:bJ} {w:World} {K:ai} {mg:Str->Option Value} {base:Heap}
theorem oK.ok{x qual:Str}{st:Stmt}{f:Addr}{fd:aI}{N ps:List Str}{k:Nat}{sp:Sp}(F:oK K x qual st f fd)(S:cA N ps (bg st))(len:∀ vs H Q E,sp vs H Q E->vs.length=ps.length)
  (Nt:∀ (nI:Value) (A:dj) (outer:List Env) (s:aw) (H:Hp) (vs:List V) (Q:VK) (E:XK),lO k (A.deeper (Cf qual (bg st) s.heap.objs.size f nI))->sp vs H Q E ->
   ∃ t,T9 (D9 fY P w K mg base N qual (bg st) f nI A outer s H E).TU (jx st) t/\t { nx:=fun _ H'=>Q .eh H',rt:=Q } (start N vs) H):fX P w K mg base fY (k+1) f fd ps sp:=by
 obtain⟨oc,od,kV,doc,pm,an,nI,ct,Mr,rfl,lk,Iw⟩:=F.ex;refine Vy lk Iw S len fun A outer s H vs Q E hr Rc=>?_;obtain⟨t,h,q⟩:=Nt nI A outer s H vs Q E hr Rc;exact⟨t,h.TU,q⟩
theorem oK.binds{x qual:Str}{st:Stmt}{f:Addr}{fd:aI}{ps:List Str}(F:oK K x qual st f fd)
  (h:∀ (kV doc pm:Value) (an:Option Addr) (nI ct:Value) (us:List Value),us.length=ps.length->bindArgs (jA x qual (mr st) (jx st) (bg st) .none kV doc pm an nI ct) ⟨us,[]⟩=pure (ps.zip us)):Binds K fd ps []:=by
 obtain⟨oc,od,kV,doc,pm,an,nI,ct,Mr,rfl,lk,Iw⟩:=F.ex;exact .all (h kV doc pm an nI ct)
theorem Ta{x qual:Str}{st:Stmt}{f:Addr}{oc:Value}{od an:Option Addr}{Mr:Array (Option Value)}{kV doc pm nI ct:Value}(l:K.lookup f=some ⟨oc,od,.func (jA x qual (mr st) (jx st) (bg st) .none kV doc pm an nI ct),Mr⟩)
  (c:Cg K nI qual=true) (k:kF K (.ref f)=true):oK K x qual st f (jA x qual (mr st) (jx st) (bg st) .none kV doc pm an nI ct):=⟨⟨oc,od,kV,doc,pm,an,nI,ct,Mr,rfl,l,c⟩,k⟩
end
end L2
set_option autoImplicit false
section
namespace K2
open PySem (Str)
noncomputable abbrev PK:=List (List (List Int))
inductive D where
 | eh | bl (b:Bool) | int (i:Int) | str (x:Str) | tup (ds:List D) | dJ (ds:List D) | jY (kvs:List (D×D)) | ref (a:Nat) | exc (c:Str) | EH (c:Str) (ns:List Str) (ds:List D) | nG (kvs:List (PK×D))
 deriving Inhabited
inductive GO where
 | lst (ds:List D)
 | gu (kvs:List (D×D))
 | ins (c:Str) (fs:List (Str×D))
 | qS (kvs:List (PK×D))
noncomputable abbrev Gp:=Nat->Option GO
noncomputable def eD(G:Gp)(a:Nat)(o:GO):Gp:=fun b=>if b=a then some o else G b
theorem aJ{G:Gp}{a:Nat}{o:GO}:eD G a o a=some o:=by unfold eD; rw [if_pos rfl]
theorem dR{G:Gp}{a b:Nat}{o:GO}(h:b≠a):eD G a o b=G b:=by unfold eD; rw [if_neg h]
noncomputable abbrev SZ:Nat:=16777216
structure Ex where
 cls:Str
 acy:List (Str×D)
noncomputable abbrev kS:=Ex->Gp->Prop
noncomputable abbrev gY:=List (Option D)
noncomputable abbrev DK:=D->Gp->Prop
noncomputable abbrev fM:=kS->gY->Gp->DK->Prop
noncomputable abbrev vM:=kS->gY->Gp->(Bool->Gp->Prop)->Prop
noncomputable abbrev GP:=kS->gY->Gp->(List D->Gp->Prop)->Prop
structure kI where
 nx:gY->Gp->Prop
 rt:DK
 bk:gY->Gp->Prop
 ct:gY->Gp->Prop
noncomputable abbrev hV:=kS->kI->gY->Gp->Prop
noncomputable abbrev mR:=List D->Gp->DK->kS->Prop
noncomputable abbrev zo:=D->D->Gp->DK->Prop
noncomputable def Ip(n:Nat)(i:Int):Option Nat:=if 0<=i then (if i < n then some i.toNat else none) else if -(n:Int)<=i then some (i+n).toNat else none
noncomputable def uf{α:Type}(xs:List α)(i:Int):Option α:=(Ip xs.length i).bind fun j=>xs[j]?
noncomputable def iU(n d:Nat):Option Int->Nat
 | none=>d
 | some v=>if v < 0 then (v+(n:Int)).toNat else min v.toNat n
noncomputable def cut{α:Type}(xs:List α)(lo hi:Option Int):List α:=(xs.drop (iU xs.length 0 lo)).take (iU xs.length xs.length hi - iU xs.length 0 lo)
mutual
noncomputable def hZ:D->D->Bool
 | .eh,.eh=>true
 | .bl a,.bl b=>a == b
 | .bl a,.int b=>(if a then 1 else 0) == b
 | .int a,.bl b=>a == (if b then 1 else 0)
 | .int a,.int b=>a == b
 | .str a,.str b=>a == b
 | .tup a,.tup b=>ke a b
 | .dJ a,.dJ b=>ke a b
 | _,_=>false
noncomputable def ke:List D->List D->Bool
 | [],[]=>true
 | a :: r,b :: t=>hZ a b&&ke r t
 | _,_=>false
end
mutual
noncomputable def nr:D->Bool
 | .ref _=>false
 | .exc _=>false
 | .EH _ _ _=>false
 | .jY _=>false
 | .nG _=>false
 | .str x=>x.cps.all (· < 0x110000)
 | .tup ds=>pQ ds
 | .dJ ds=>pQ ds
 | _=>true
noncomputable def pQ:List D->Bool
 | []=>true
 | d :: r=>nr d&&pQ r
end
class inductive Sn (G:Gp):Nat->D->D->Prop
 | eh {n:Nat}:Sn G n .eh .eh
 | bl {n:Nat} (b:Bool):Sn G n (.bl b) (.bl b)
 | int {n:Nat} (i:Int):Sn G n (.int i) (.int i)
 | str {n:Nat} (x:Str) (h:x.cps.all (· < 0x110000)=true):Sn G n (.str x) (.str x)
 | E3 {n:Nat}:Sn G (n+1) (.tup []) (.tup [])
 | pA {n:Nat} {d s:D} {ds ss:List D}:Sn G n d s->Sn G (n+1) (.tup ds) (.tup ss)->Sn G (n+1) (.tup (d :: ds)) (.tup (s :: ss))
 | Jy {n:Nat}:Sn G (n+1) (.dJ []) (.dJ [])
 | zJ {n:Nat} {d s:D} {ds ss:List D}:Sn G n d s->Sn G (n+1) (.dJ ds) (.dJ ss)->Sn G (n+1) (.dJ (d :: ds)) (.dJ (s :: ss))
 | ref {n:Nat} {a:Nat} {ds ss:List D}:G a=some (.lst ds)->Sn G n (.dJ ds) (.dJ ss)->Sn G n (.ref a) (.dJ ss)
noncomputable abbrev SN:Nat:=8
theorem Sn.nr{G:Gp}{n:Nat}{d t:D}(h:Sn G n d t):K2.nr t=true:=by
 induction h with
 | eh=>rfl
 | bl b=>rfl
 | int i=>rfl
 | str x h=>exact h
 | E3=>rfl
 | pA _ _ Nf Nd =>
  show (K2.nr _&&K2.pQ _)=true;rw [Nf];exact Nd
 | Jy=>rfl
 | zJ _ _ Nf Nd =>
  show (K2.nr _&&K2.pQ _)=true;rw [Nf];exact Nd
 | ref _ _ ih=>exact ih
noncomputable def oC(k:PK):D:=.tup (k.map fun r=>.tup (r.map fun t=>.tup (t.map D.int)))
noncomputable def dZ:D->Bool
 | .int _=>true
 | .str _=>true
 | _=>false
noncomputable def ED:D->Gp->Option Bool
 | .eh,_=>some false
 | .bl b,_=>some b
 | .int i,_=>some (i != 0)
 | .str x,_=>if x.length<=SZ then some ((x.length:Int) != 0) else none
 | .tup ds,_=>some (!ds.isEmpty)
 | .dJ ds,_=>some (!ds.isEmpty)
 | .exc _,_=>none
 | .EH _ _ _,_=>none
 | .nG _,_=>none
 | .jY kvs,_=>if (kvs.all fun p=>dZ p.1)=true then some (!kvs.isEmpty) else none
 | .ref a,G=>match G a with
  | some (.lst ds)=>some (!ds.isEmpty)
  | some (.gu kvs)=>if (kvs.all fun p=>dZ p.1)=true then some (!kvs.isEmpty) else none
  | _=>none
noncomputable def ay(i:Nat):fM:=fun _ τ G Q=>match τ[i]? with
 | some (some d)=>Q d G
 | _=>False
noncomputable def dC(d:D):fM:=fun _ _ G Q=>Q d G
noncomputable def a8:GP:=fun _ _ G Q=>Q [] G
noncomputable def av(a:fM)(r:GP):GP:=fun E τ G Q=>a E τ G fun x G1=>r E τ G1 fun xs G2=>Q (x :: xs) G2
noncomputable def fQ(t:GP):fM:=fun E τ G Q=>t E τ G fun ds G1=>ds.length<=SZ/\Q (.tup ds) G1
noncomputable def kj(t:GP):fM:=fun E τ G Q=>t E τ G fun ds G1=>ds.length<=SZ/\∀ p,G1 p=none->Q (.ref p) (eD G1 p (.lst ds))
noncomputable def bE(r:zo)(a b:fM):fM:=fun E τ G Q=>a E τ G fun x G1=>b E τ G1 fun y G2=>r x y G2 Q
noncomputable def Lb(r:D->Gp->DK->Prop)(a:fM):fM:=fun E τ G Q=>a E τ G fun x G1=>r x G1 Q
noncomputable def gv(G:Gp)(o:GO)(Q:DK):Prop:=∀ p,G p=none->Q (.ref p) (eD G p o)
noncomputable def MulOk(i j:Int):Prop:=(-(2 ^ 64) < i/\i < 2 ^ 64)\/(-(2 ^ 64) < j/\j < 2 ^ 64)
noncomputable def pR:D->Gp->Option (List D)
 | .dJ ds,_=>some ds
 | .ref a,G=>match G a with
  | some (.lst ds)=>some ds
  | _=>none
 | _,_=>none
noncomputable def GN(x y:D)(G:Gp)(Q:DK):Prop:=match pR x G,pR y G with
 | some xs,some ys=>xs.length+ys.length<=SZ/\gv G (.lst (xs++ys)) Q
 | _,_=>False
noncomputable def iN:zo
 | .int i,.int j,G,Q=>Q (.int (i+j)) G
 | .str a,.str b,G,Q=>a.length+b.length<=SZ/\Q (.str (a++b)) G
 | .tup a,.tup b,G,Q=>a≠[]/\a.length+b.length<=SZ/\Q (.tup (a++b)) G
 | x,y,G,Q=>GN x y G Q
noncomputable def Pa:zo
 | .int i,.int j,G,Q=>Q (.int (i - j)) G
 | _,_,_,_=>False
noncomputable def Fi:zo
 | .int i,.int j,G,Q=>MulOk i j/\Q (.int (i * j)) G
 | _,_,_,_=>False
noncomputable def pL:zo
 | .int i,.int j,G,Q=>0 < j/\Q (.int (i % j)) G
 | _,_,_,_=>False
noncomputable def HC:zo
 | .int i,.int j,G,Q=>0 < j/\j < 2 ^ 30/\Q (.int (i / j)) G
 | _,_,_,_=>False
noncomputable def JA:D->Gp->DK->Prop
 | .int i,G,Q=>Q (.int (-i)) G
 | _,_,_=>False
noncomputable def HD(neg:Bool):zo:=fun x y G Q=>∃ a b,Sn G SN x a/\Sn G SN y b/\Q (.bl (if neg then !hZ a b else hZ a b)) G
noncomputable def lexLt:List Int->List Int->Bool
 | [],[]=>false
 | [],_ :: _=>true
 | _ :: _,[]=>false
 | x :: xs,y :: ys=>if x=y then lexLt xs ys else decide (x < y)
noncomputable def V1:zo
 | .int i,.int j,G,Q=>Q (.bl (decide (i < j))) G
 | .tup a,.tup b,G,Q=>∃ xs ys,a=xs.map D.int/\b=ys.map D.int/\Q (.bl (lexLt xs ys)) G
 | _,_,_,_=>False
noncomputable def rLe:zo
 | .int i,.int j,G,Q=>Q (.bl (decide (i<=j))) G
 | _,_,_,_=>False
noncomputable def rGt:zo
 | .int i,.int j,G,Q=>Q (.bl (decide (i > j))) G
 | _,_,_,_=>False
noncomputable def rGe:zo
 | .int i,.int j,G,Q=>Q (.bl (decide (i>=j))) G
 | _,_,_,_=>False
noncomputable def itemsOf:D->Gp->Option (List D)
 | .tup ds,_=>some ds
 | .dJ ds,_=>some ds
 | .ref a,G=>match G a with
  | some (.lst ds)=>some ds
  | _=>none
 | _,_=>none
noncomputable def jS:D->Bool
 | .tup ds=>ds.all dZ
 | _=>false
noncomputable def gF(kvs:List (D×D))(k:D):Bool:=(dZ k&&kvs.all fun p=>dZ p.1)||(jS k&&kvs.all fun p=>jS p.1)
noncomputable def look(kvs:List (D×D))(k:D):Option D:=(kvs.find? fun p=>hZ p.1 k).map (·.2)
noncomputable def put(kvs:List (D×D))(k v:D):List (D×D) :=
 if (kvs.any fun p=>hZ p.1 k)=true then kvs.map (fun p=>if hZ p.1 k=true then (p.1,v) else p) else kvs++[(k,v)]
noncomputable def Pe(neg:Bool):zo:=fun x y G Q=>match y with
 | .ref a=>(match G a with
  | some (.gu kvs)=>gF kvs x=true/\Q (.bl (if neg then !(look kvs x).isSome else (look kvs x).isSome)) G
  | some (.lst ds)=>∃ s ss,Sn G SN x s/\Sn G SN (.dJ ds) (.dJ ss)/\Q (.bl (if neg then !ss.any (hZ · s) else ss.any (hZ · s))) G
  | _=>False)
 | .jY kvs=>kvs≠[]/\gF kvs x=true/\Q (.bl (if neg then !(look kvs x).isSome else (look kvs x).isSome)) G
 | .tup ds=>∃ s ss,Sn G SN x s/\Sn G SN (.dJ ds) (.dJ ss)/\Q (.bl (if neg then !ss.any (hZ · s) else ss.any (hZ · s))) G
 | .dJ ds=>∃ s ss,Sn G SN x s/\Sn G SN (.dJ ds) (.dJ ss)/\Q (.bl (if neg then !ss.any (hZ · s) else ss.any (hZ · s))) G
 | _=>False
noncomputable def lR:zo
 | .tup ds,.int i,G,Q=>(match uf ds i with
  | some d=>Q d G
  | none=>False)
 | .dJ ds,.int i,G,Q=>(match uf ds i with
  | some d=>Q d G
  | none=>False)
 | .jY kvs,k,G,Q=>gF kvs k=true/\(match look kvs k with
  | some d=>Q d G
  | none=>False)
 | .ref a,k,G,Q=>(match G a with
  | some (.lst ds)=>(match k with
   | .int i=>(match uf ds i with
    | some d=>Q d G
    | none=>False)
   | _=>False)
  | some (.gu kvs)=>gF kvs k=true/\(match look kvs k with
   | some d=>Q d G
   | none=>False)
  | _=>False)
 | _,_,_,_=>False
noncomputable abbrev VN:=kS->gY->Gp->(Option Int->Gp->Prop)->Prop
noncomputable def gX:VN:=fun _ _ G Q=>Q none G
noncomputable def rm(t:fM):VN:=fun E τ G Q=>t E τ G fun x G1=>match x with
 | .int i=>Q (some i) G1
 | _=>False
noncomputable def Sf:D->Option Int->Option Int->Gp->DK->Prop
 | .tup ds,lo,hi,G,Q=>¬ (iU ds.length 0 lo=0/\iU ds.length ds.length hi=ds.length)/\Q (.tup (cut ds lo hi)) G
 | .dJ ds,lo,hi,G,Q=>gv G (.lst (cut ds lo hi)) Q
 | .ref a,lo,hi,G,Q=>(match G a with
  | some (.lst ds)=>gv G (.lst (cut ds lo hi)) Q
  | _=>False)
 | _,_,_,_,_=>False
noncomputable def EI(a:fM)(lo hi:VN):fM:=fun E τ G Q=>a E τ G fun x G1=>lo E τ G1 fun l G2=>hi E τ G2 fun h G3=>Sf x l h G3 Q
noncomputable def jy(a:fM):vM:=fun E τ G Q=>a E τ G fun x G1=>match ED x G1 with
 | some b=>Q b G1
 | none=>False
noncomputable def GC(a b:vM):vM:=fun E τ G Q=>a E τ G fun c G1=>if c=true then b E τ G1 Q else Q false G1
noncomputable def Lc(a b:vM):vM:=fun E τ G Q=>a E τ G fun c G1=>if c=true then Q true G1 else b E τ G1 Q
noncomputable def rW(a:vM):vM:=fun E τ G Q=>a E τ G fun c G1=>Q (!c) G1
noncomputable def IM(a b:fM):fM:=fun E τ G Q=>a E τ G fun x G1=>match ED x G1 with
 | some true=>b E τ G1 Q
 | some false=>Q x G1
 | none=>False
noncomputable def VD(a b:fM):fM:=fun E τ G Q=>a E τ G fun x G1=>match ED x G1 with
 | some true=>Q x G1
 | some false=>b E τ G1 Q
 | none=>False
noncomputable def N0(a:fM):fM:=fun E τ G Q=>a E τ G fun x G1=>match ED x G1 with
 | some c=>Q (.bl (!c)) G1
 | none=>False
noncomputable def YY(c:vM)(a b:fM):fM:=fun E τ G Q=>c E τ G fun k G1=>if k=true then a E τ G1 Q else b E τ G1 Q
noncomputable def bC(sp:mR)(t:GP):fM:=fun E τ G Q=>t E τ G fun ds G1=>sp ds G1 Q fun _ _=>False
noncomputable def uy(r:List D->Gp->DK->Prop)(t:GP):fM:=fun E τ G Q=>t E τ G fun ds G1=>r ds G1 Q
noncomputable def K3(x:D)(G:Gp):Prop:=match x with
 | .ref a=>(match G a with
  | some (.lst _)=>True
  | _=>False)
 | .dJ _=>True
 | _=>False
noncomputable def O2(x:D)(G:Gp):Prop:=match x with
 | .jY _=>True
 | .ref a=>(match G a with
  | some (.gu _)=>True
  | _=>False)
 | _=>False
noncomputable def tyS(x:D)(_:Gp):Prop:=match x with
 | .str _=>True
 | _=>False
noncomputable def yQ(ty:D->Gp->Prop)(r:D->List D->Gp->DK->Prop)(o:fM)(t:GP):fM:=fun E τ G Q=>o E τ G fun x G1=>ty x G1/\t E τ G1 fun ds G2=>r x ds G2 Q
noncomputable def lenOf:D->Gp->Option Nat
 | .tup ds,_=>some ds.length
 | .dJ ds,_=>some ds.length
 | .str x,_=>if x.length<=SZ then some x.length else none
 | .jY kvs,_=>if (kvs.all fun p=>dZ p.1)=true then some kvs.length else none
 | .ref a,G=>match G a with
  | some (.lst ds)=>some ds.length
  | some (.gu kvs)=>if (kvs.all fun p=>dZ p.1)=true then some kvs.length else none
  | _=>none
 | _,_=>none
noncomputable def ue(ds:List D)(G:Gp)(Q:DK):Prop:=match ds with
 | [x]=>(match lenOf x G with
  | some n=>Q (.int (n:Int)) G
  | none=>False)
 | _=>False
noncomputable def vL(ds:List D)(G:Gp)(Q:DK):Prop:=match ds with
 | [x]=>(match itemsOf x G with
  | some xs=>gv G (.lst xs) Q
  | none=>False)
 | _=>False
noncomputable def Q9(C:String):D->Gp->Option Bool
 | .eh,_=>some false
 | .bl _,_=>some (C == "bool" || C == "int")
 | .int _,_=>some (C == "int")
 | .str _,_=>some (C == "str")
 | .tup _,_=>some (C == "tuple")
 | .dJ _,_=>some (C == "list")
 | .jY _,_=>some (C == "dict")
 | .exc _,_=>none
 | .EH _ _ _,_=>none
 | .nG _,_=>none
 | .ref a,G=>match G a with
  | some (.lst _)=>some (C == "list")
  | some (.gu _)=>some (C == "dict")
  | _=>none
noncomputable def N4(C:String)(a:fM):fM:=fun E τ G Q=>a E τ G fun x G1=>match Q9 C x G1 with
 | some b=>Q (.bl b) G1
 | none=>False
noncomputable def tx(x:D)(ds:List D)(G:Gp)(Q:DK):Prop:=match x,ds with
 | .ref a,[d]=>(match G a with
  | some (.lst xs)=>xs.length < SZ/\Q .eh (eD G a (.lst (xs++[d])))
  | _=>False)
 | _,_=>False
noncomputable def we(x:D)(ds:List D)(G:Gp)(Q:DK):Prop:=match x,ds with
 | .ref a,[y]=>(match G a,pR y G with
  | some (.lst xs),some ys=>xs.length+ys.length<=SZ/\Q .eh (eD G a (.lst (xs++ys)))
  | _,_=>False)
 | _,_=>False
noncomputable def PT(x:D)(ds:List D)(G:Gp)(Q:DK):Prop:=match x,ds with
 | .ref a,[.int i,d]=>(match G a with
  | some (.lst xs)=>0<=i/\i<=xs.length/\xs.length < SZ/\Q .eh (eD G a (.lst (xs.take i.toNat++d :: xs.drop i.toNat)))
  | _=>False)
 | _,_=>False
noncomputable def Dp(x:D)(ds:List D)(G:Gp)(Q:DK):Prop:=match x,ds with
 | .ref a,[k,d]=>(match G a with
  | some (.gu kvs)=>gF kvs k=true/\dZ k=true/\(match look kvs k with
   | some v=>Q v G
   | none=>kvs.length < SZ/\Q d (eD G a (.gu (put kvs k d))))
  | _=>False)
 | _,_=>False
noncomputable def fB:hV:=fun _ K τ G=>K.nx τ G
noncomputable def cN(a b:hV):hV:=fun E K τ G=>a E { K with nx:=b E K } τ G
noncomputable def nA(a:fM):hV:=fun E K τ G=>a E τ G fun _ G1=>K.nx τ G1
noncomputable def c5(a:fM):hV:=fun E K τ G=>a E τ G K.rt
noncomputable def IL:hV:=fun _ K _ G=>K.rt .eh G
noncomputable def jV(c:vM)(a b:hV):hV:=fun E K τ G=>c E τ G fun k G1=>if k=true then a E K τ G1 else b E K τ G1
noncomputable def N1:hV:=fun _ _ _ _=>False
noncomputable abbrev yT:=kS->D->gY->Gp->(gY->Gp->Prop)->Prop
noncomputable abbrev BY:=kS->List D->gY->Gp->(gY->Gp->Prop)->Prop
noncomputable def aP(i:Nat):yT:=fun _ d τ G Q=>Q (τ.set i (some d)) G
noncomputable def i6:BY:=fun _ ds τ G Q=>match ds with
 | []=>Q τ G
 | _=>False
noncomputable def dF(t:yT)(r:BY):BY:=fun E ds τ G Q=>match ds with
 | d :: ds=>t E d τ G fun nO G1=>r E ds nO G1 Q
 | _=>False
noncomputable def jf(t:BY):yT:=fun E d τ G Q=>match d with
 | .tup ds=>t E ds τ G Q
 | _=>False
noncomputable def wZ(o k d:D)(G:Gp)(Q:Gp->Prop):Prop:=match o with
 | .ref a=>(match G a with
  | some (.lst xs)=>(match k with
   | .int i=>(match Ip xs.length i with
    | some j=>Q (eD G a (.lst (xs.set j d)))
    | none=>False)
   | _=>False)
  | some (.gu kvs)=>gF kvs k=true/\kvs.length < SZ/\Q (eD G a (.gu (put kvs k d)))
  | _=>False)
 | _=>False
noncomputable def lI(o k:fM):yT:=fun E d τ G Q=>o E τ G fun x G1=>k E τ G1 fun y G2=>wZ x y d G2 fun G3=>Q τ G3
noncomputable def bQ(a:fM)(g:yT):hV:=fun E K τ G=>a E τ G fun x G1=>g E x τ G1 K.nx
noncomputable abbrev Kx:=kS->gY->Gp->(List D->(Gp->Prop)->Gp->Prop)->Prop
noncomputable def oT(a:fM):Kx:=fun E τ G R=>a E τ G fun x G1=>match x with
 | .tup ds=>R ds (fun _=>True) G1
 | .dJ ds=>R ds (fun _=>True) G1
 | .ref p=>(match G1 p with
  | some (.lst ds)=>R ds (fun G2=>G2 p=some (.lst ds)) G1
  | _=>False)
 | _=>False
noncomputable def fu(lo:Int)(n:Nat):List D:=(ib n).map fun (i:Nat)=>D.int (lo+(i:Int))
noncomputable def DE(a:fM):Kx:=fun E τ G R=>a E τ G fun x G1=>match x with
 | .int n=>-(2 ^ 62)<=n/\n < 2 ^ 62/\R (fu 0 n.toNat) (fun _=>True) G1
 | _=>False
noncomputable def Ra(a b:fM):Kx:=fun E τ G R=>a E τ G fun x G1=>b E τ G1 fun y G2=>match x,y with
 | .int i,.int j=>(-(2 ^ 62)<=i/\i < 2 ^ 62/\-(2 ^ 62)<=j/\j < 2 ^ 62)/\R (fu i (j - i).toNat) (fun _=>True) G2
 | _,_=>False
noncomputable def oH(g:yT)(body:hV)(ok:Gp->Prop):List D->hV
 | []=>fun _ K τ G=>ok G/\K.nx τ G
 | d :: r=>fun E K τ G=>ok G/\g E d τ G fun nO G1=>body E { K with nx:=oH g body ok r E K,ct:=oH g body ok r E K,bk:=K.nx } nO G1
noncomputable def fR(i:Kx)(g:yT)(body:hV):hV:=fun E K τ G=>i E τ G fun ds ok G1=>oH g body ok ds E K τ G1
noncomputable def Cs(c:vM)(body:hV):Nat->hV
 | 0=>fun _ _ _ _=>False
 | n+1=>fun E K τ G=>c E τ G fun k G1=>if k=true then body E { K with nx:=Cs c body n E K,ct:=Cs c body n E K,bk:=K.nx } τ G1 else K.nx τ G1
noncomputable def GA(c:vM)(body:hV):hV:=fun E K τ G=>∃ n,Cs c body n E K τ G
noncomputable def iI(g:yT)(c:Option vM)(e:fM)(ok:Gp->Prop):List D->kS->gY->Gp->List D->(List D->Gp->Prop)->Prop
 | [],_,_,G,acc,Q=>ok G/\Q acc G
 | d :: r,E,τ,G,acc,Q=>ok G/\g E d τ G fun nO G1=>match c with
  | none=>e E nO G1 fun x G2=>iI g c e ok r E nO G2 (acc++[x]) Q
  | some c=>c E nO G1 fun k G2=>if k=true then e E nO G2 fun x G3=>iI g (some c) e ok r E nO G3 (acc++[x]) Q else iI g (some c) e ok r E nO G2 acc Q
noncomputable def yj(m:Nat)(fr:List Nat)(τ:gY):gY:=bc m none++fr.map fun i=>(τ[i]?).getD none
noncomputable def gy(m:Nat)(fr:List Nat)(i:Kx)(g:yT)(c:Option vM)(e:fM):fM:=fun E τ G Q =>
 i E τ G fun ds ok G1=>ds.length<=SZ/\iI g c e ok ds (fun _ _=>False) (yj m fr τ) G1 [] fun xs G2=>gv G2 (.lst xs) Q
noncomputable abbrev tI(ns:List Int):D:=.tup (ns.map D.int)
noncomputable def XA:List Int->Option Int
 | []=>none
 | a :: r=>some (r.foldl (fun m x=>if x < m then x else m) a)
noncomputable def Xz:List (List Int)->Option (List Int)
 | []=>none
 | a :: r=>some (r.foldl (fun m x=>if lexLt x m=true then x else m) a)
noncomputable def Y1(ds:List D)(G:Gp)(Q:DK):Prop:=match ds with
 | [x]=>(∃ ns m,itemsOf x G=some (ns.map D.int)/\XA ns=some m/\Q (.int m) G)\/∃ ZF m,itemsOf x G=some (ZF.map tI)/\Xz ZF=some m/\Q (tI m) G
 | _=>False
noncomputable def oo:fM:=fun _ _ G Q=>gv G (.gu []) Q
noncomputable def fN(G G':Gp):Prop:=∀ a o,G a=some o->G' a=some o
theorem fN.refl(G:Gp):fN G G:=fun _ _ h=>h
theorem fN.trans{G G1 G2:Gp}(a:fN G G1)(b:fN G1 G2):fN G G2:=fun c o h=>b c o (a c o h)
theorem fN.new{G:Gp}{p:Nat}{o:GO}(h:G p=none):fN G (eD G p o):=fun a ob e=>by
 by_cases ha:a=p
 ·subst ha; rw [h] at e; cases e
 ·rw [dR ha]; exact e
theorem fN.free{G G':Gp}{p:Nat}(l:fN G G')(h:G' p=none):G p=none:=by
 cases q:G p with
 | none=>rfl
 | some o=>rw [l p o q] at h; cases h
theorem fN.put{G G':Gp}{p:Nat}{o:GO}(l:fN G G')(h:G p=none):fN G (eD G' p o):=fun a ob e=>by
 by_cases ha:a=p
 ·subst ha; rw [h] at e; cases e
 ·rw [dR ha]; exact l a ob e
noncomputable def ends(Q:DK):kI:=⟨fun _ G=>Q .eh G,Q,fun _ _=>False,fun _ _=>False⟩
noncomputable def bF(n:Nat)(ds:List D):gY:=ds.map some++bc (n - ds.length) none
noncomputable def P4(x:D)(G1:Gp)(R:List D->(Gp->Prop)->Gp->Prop):Prop:=match x with
 | .tup ds=>R ds (fun _=>True) G1
 | .dJ ds=>R ds (fun _=>True) G1
 | .ref p=>(match G1 p with
  | some (.lst ds)=>R ds (fun G2=>G2 p=some (.lst ds)) G1
  | _=>False)
 | _=>False
noncomputable def Mp(x:D)(G1:Gp)(Q:Option Int->Gp->Prop):Prop:=match x with
 | .int i=>Q (some i) G1
 | _=>False
noncomputable def pz(x:D)(G1:Gp)(Q:Bool->Gp->Prop):Prop:=match ED x G1 with
 | some b=>Q b G1
 | none=>False
noncomputable def QR(x:D)(G1:Gp)(R:List D->(Gp->Prop)->Gp->Prop):Prop:=match x with
 | .int n=>-(2 ^ 62)<=n/\n < 2 ^ 62/\R (fu 0 n.toNat) (fun _=>True) G1
 | _=>False
noncomputable def isAt(C:String)(x:D)(G1:Gp)(Q:DK):Prop:=match Q9 C x G1 with
 | some b=>Q (.bl b) G1
 | none=>False
theorem dq{i j:Int}{G:Gp}{Q:DK}:iN (.int i) (.int j) G Q=Q (.int (i+j)) G:=rfl
theorem pM{a b:List D}{G:Gp}{Q:DK}:iN (.tup a) (.tup b) G Q=(a≠[]/\a.length+b.length<=SZ/\Q (.tup (a++b)) G):=rfl
theorem mV{i j:Int}{G:Gp}{Q:DK}:Pa (.int i) (.int j) G Q=Q (.int (i - j)) G:=rfl
theorem jt{i j:Int}{G:Gp}{Q:DK}:Fi (.int i) (.int j) G Q=(MulOk i j/\Q (.int (i * j)) G):=rfl
theorem gi{i j:Int}{G:Gp}{Q:DK}:pL (.int i) (.int j) G Q=(0 < j/\Q (.int (i % j)) G):=rfl
theorem mW{i j:Int}{G:Gp}{Q:DK}:HC (.int i) (.int j) G Q=(0 < j/\j < 2 ^ 30/\Q (.int (i / j)) G):=rfl
theorem lA{i:Int}{G:Gp}{Q:DK}:JA (.int i) G Q=Q (.int (-i)) G:=rfl
theorem sX{i j:Int}{G:Gp}{Q:DK}:V1 (.int i) (.int j) G Q=Q (.bl (decide (i < j))) G:=rfl
theorem v7{i j:Int}{G:Gp}{Q:DK}:rLe (.int i) (.int j) G Q=Q (.bl (decide (i<=j))) G:=rfl
theorem v9{i j:Int}{G:Gp}{Q:DK}:rGt (.int i) (.int j) G Q=Q (.bl (decide (i > j))) G:=rfl
theorem wa{i j:Int}{G:Gp}{Q:DK}:rGe (.int i) (.int j) G Q=Q (.bl (decide (i>=j))) G:=rfl
theorem Pc{ds:List D}{i:Int}{d:D}{G:Gp}{Q:DK}(h:uf ds i=some d):lR (.dJ ds) (.int i) G Q=Q d G:=by unfold lR; simp only [h]
theorem Pd{a:Nat}{ds:List D}{i:Int}{d:D}{G:Gp}{Q:DK}(h1:G a=some (.lst ds))(h:uf ds i=some d):lR (.ref a) (.int i) G Q=Q d G:=by unfold lR; simp only [h1,h]
theorem sT{ds:List D}{lo hi:Option Int}{G:Gp}{Q:DK}:Sf (.tup ds) lo hi G Q=(¬ (iU ds.length 0 lo=0/\iU ds.length ds.length hi=ds.length)/\Q (.tup (cut ds lo hi)) G):=rfl
theorem sU{ds:List D}{lo hi:Option Int}{G:Gp}{Q:DK}:Sf (.dJ ds) lo hi G Q=gv G (.lst (cut ds lo hi)) Q:=rfl
theorem Pb{a:Nat}{ds:List D}{lo hi:Option Int}{G:Gp}{Q:DK}(h:G a=some (.lst ds)):Sf (.ref a) lo hi G Q=gv G (.lst (cut ds lo hi)) Q:=by unfold Sf; simp only [h]
theorem nC{ds:List D}{G:Gp}{Q:DK}:ue [.dJ ds] G Q=Q (.int (ds.length:Int)) G:=rfl
theorem ud{ds:List D}{G:Gp}{Q:DK}:ue [.tup ds] G Q=Q (.int (ds.length:Int)) G:=rfl
theorem Eg{a:Nat}{ds:List D}{G:Gp}{Q:DK}(h:G a=some (.lst ds)):ue [.ref a] G Q=Q (.int (ds.length:Int)) G:=by unfold ue lenOf; simp only [h]
theorem fJ{a:fM}{E:kS}{τ:gY}{G:Gp}{R:List D->(Gp->Prop)->Gp->Prop}:oT a E τ G R=a E τ G fun x G1=>P4 x G1 R:=by
 unfold oT P4; rfl
theorem tS{ds:List D}{G:Gp}{R:List D->(Gp->Prop)->Gp->Prop}:P4 (.dJ ds) G R=R ds (fun _=>True) G:=rfl
theorem tR{ds:List D}{G:Gp}{R:List D->(Gp->Prop)->Gp->Prop}:P4 (.tup ds) G R=R ds (fun _=>True) G:=rfl
theorem Ir{a:Nat}{ds:List D}{G:Gp}{R:List D->(Gp->Prop)->Gp->Prop}(h:G a=some (.lst ds)):P4 (.ref a) G R=R ds (fun G2=>G2 a=some (.lst ds)) G:=by unfold P4; simp only [h]
theorem kh{t:fM}{E:kS}{τ:gY}{G:Gp}{Q:Option Int->Gp->Prop}:rm t E τ G Q=t E τ G fun x G1=>Mp x G1 Q:=rfl
theorem gE{i:Int}{G:Gp}{Q:Option Int->Gp->Prop}:Mp (.int i) G Q=Q (some i) G:=rfl
theorem eA{a:fM}{E:kS}{τ:gY}{G:Gp}{Q:Bool->Gp->Prop}:jy a E τ G Q=a E τ G fun x G1=>pz x G1 Q:=rfl
theorem cF{b:Bool}{G:Gp}{Q:Bool->Gp->Prop}:pz (.bl b) G Q=Q b G:=rfl
theorem lG{a:fM}{E:kS}{τ:gY}{G:Gp}{R:List D->(Gp->Prop)->Gp->Prop}:DE a E τ G R=a E τ G fun x G1=>QR x G1 R:=rfl
theorem jJ{n:Int}{G:Gp}{R:List D->(Gp->Prop)->Gp->Prop}:QR (.int n) G R=(-(2 ^ 62)<=n/\n < 2 ^ 62/\R (fu 0 n.toNat) (fun _=>True) G):=rfl
theorem qD{C:String}{a:fM}{E:kS}{τ:gY}{G:Gp}{Q:DK}:N4 C a E τ G Q=a E τ G fun x G1=>isAt C x G1 Q:=rfl
theorem pU {C:String} {i:Int} {G:Gp} {Q:DK}:isAt C (.int i) G Q=Q (.bl (C == "int")) G:=rfl
theorem tO {C:String} {ds:List D} {G:Gp} {Q:DK}:isAt C (.tup ds) G Q=Q (.bl (C == "tuple")) G:=rfl
theorem qb{a b:fM}{E:kS}{τ:gY}{G:Gp}{Q:DK}:IM a b E τ G Q=a E τ G fun x G1=>pz x G1 fun k G2=>if k=true then b E τ G2 Q else Q x G2:=by
 unfold IM pz;refine congrArg (a E τ G) ?_;funext x G1;cases ED x G1 with
 | none=>rfl
 | some k=>cases k <;> simp
theorem wy{a b:fM}{E:kS}{τ:gY}{G:Gp}{Q:DK}:VD a b E τ G Q=a E τ G fun x G1=>pz x G1 fun k G2=>if k=true then Q x G2 else b E τ G2 Q:=by
 unfold VD pz;refine congrArg (a E τ G) ?_;funext x G1;cases ED x G1 with
 | none=>rfl
 | some k=>cases k <;> simp
theorem qa{a:fM}{E:kS}{τ:gY}{G:Gp}{Q:DK}:N0 a E τ G Q=a E τ G fun x G1=>pz x G1 fun k G2=>Q (.bl (!k)) G2:=rfl
theorem mY{a:Nat}{y:D}{G:Gp}{Q:DK}:iN (.ref a) y G Q=GN (.ref a) y G Q:=by cases y <;> rfl
theorem mX{a:List D}{y:D}{G:Gp}{Q:DK}:iN (.dJ a) y G Q=GN (.dJ a) y G Q:=by cases y <;> rfl
theorem sV{a:Nat}{lo hi:Option Int}{G:Gp}{Q:DK}:Sf (.ref a) lo hi G Q=(match G a with
  | some (.lst ds)=>gv G (.lst (cut ds lo hi)) Q
  | _=>False):=rfl
theorem HB{a:Nat}{k:D}{G:Gp}{Q:DK}:lR (.ref a) k G Q=(match G a with
  | some (.lst ds)=>(match k with
   | .int i=>(match uf ds i with
    | some d=>Q d G
    | none=>False)
   | _=>False)
  | some (.gu kvs)=>gF kvs k=true/\(match look kvs k with
   | some d=>Q d G
   | none=>False)
  | _=>False):=by unfold lR; cases k <;> rfl
theorem gJ{ds:List D}{i:Int}{G:Gp}{Q:DK}:lR (.tup ds) (.int i) G Q=(match uf ds i with
  | some d=>Q d G
  | none=>False):=rfl
theorem iM{ds:List D}{i:Int}{G:Gp}{Q:DK}:lR (.dJ ds) (.int i) G Q=(match uf ds i with
  | some d=>Q d G
  | none=>False):=rfl
theorem qG{a:Nat}{G:Gp}{Q:DK}:vL [.ref a] G Q=(match G a with
  | some (.lst ds)=>gv G (.lst ds) Q
  | _=>False):=by
 unfold vL itemsOf;cases h:G a with
 | none=>simp only [h]
 | some g=>cases g <;> simp only [h]
theorem ja{a:Nat}{d:D}{G:Gp}{Q:DK}:tx (.ref a) [d] G Q=(match G a with
  | some (.lst xs)=>xs.length < SZ/\Q .eh (eD G a (.lst (xs++[d])))
  | _=>False):=rfl
theorem kc{a:Nat}{y:D}{G:Gp}{Q:DK}:we (.ref a) [y] G Q=(match G a,pR y G with
  | some (.lst xs),some ys=>xs.length+ys.length<=SZ/\Q .eh (eD G a (.lst (xs++ys)))
  | _,_=>False):=rfl
theorem mj{a:Nat}{i:Int}{d:D}{G:Gp}{Q:DK}:PT (.ref a) [.int i,d] G Q=(match G a with
  | some (.lst xs)=>0<=i/\i<=xs.length/\xs.length < SZ/\Q .eh (eD G a (.lst (xs.take i.toNat++d :: xs.drop i.toNat)))
  | _=>False):=rfl
theorem iY{a:Nat}{k d:D}{G:Gp}{Q:DK}:Dp (.ref a) [k,d] G Q=(match G a with
  | some (.gu kvs)=>gF kvs k=true/\dZ k=true/\(match look kvs k with
   | some v=>Q v G
   | none=>kvs.length < SZ/\Q d (eD G a (.gu (put kvs k d))))
  | _=>False):=rfl
theorem M9{C:String}{p:Nat}{G:Gp}{Q:DK}:isAt C (.ref p) G Q=(match G p with
  | some (.lst _)=>Q (.bl (C == "list")) G
  | some (.gu _)=>Q (.bl (C == "dict")) G
  | _=>False):=by
 unfold isAt Q9;cases h:G p with
 | none=>simp only [h]
 | some g=>cases g <;> simp only [h]
theorem wm {C:String} {b:Bool} {G:Gp} {Q:DK}:isAt C (.bl b) G Q=Q (.bl (C == "bool" || C == "int")) G:=rfl
theorem nQ{a:Nat}{G:Gp}:K3 (.ref a) G=(match G a with
  | some (.lst _)=>True
  | _=>False):=rfl
theorem nR{a:Nat}{G:Gp}:O2 (.ref a) G=(match G a with
  | some (.gu _)=>True
  | _=>False):=rfl
theorem v3{ds:List D}{G:Gp}:K3 (.dJ ds) G=True:=rfl
theorem v8{kvs:List (D×D)}{k:D}{G:Gp}{Q:DK}:lR (.jY kvs) k G Q=(gF kvs k=true/\(match look kvs k with
  | some d=>Q d G
  | none=>False)):=by unfold lR; cases k <;> rfl
theorem vZ{x:Str}{G:Gp}:tyS (.str x) G=True:=rfl
end K2
end
section
namespace K2
open PySem (Str)
noncomputable def zf(R:Nat->Bool)(G:Gp):Gp:=fun a=>if R a=true then none else G a
mutual
inductive Fz (G:Gp) (R:Nat->Bool):D->D->Prop
 | same (d:D):Fz G R d d
 | tup {ds ss:List D}:GX G R ds ss->Fz G R (.tup ds) (.tup ss)
 | dJ {ds ss:List D}:GX G R ds ss->Fz G R (.dJ ds) (.dJ ss)
 | ref {a:Nat} {ds ss:List D}:G a=some (.lst ds)->R a=true->GX G R ds ss->Fz G R (.ref a) (.dJ ss)
 | gu {a:Nat} {kvs Q5:List (D×D)}:G a=some (.gu kvs)->R a=true->GY G R kvs Q5->Fz G R (.ref a) (.jY Q5)
 | qS {a:Nat} {kvs Q5:List (PK×D)}:G a=some (.qS kvs)->R a=true->GX G R (kvs.map fun p=>p.2) (Q5.map fun p=>p.2)->kvs.map (fun p=>p.1)=Q5.map (fun p=>p.1)->Fz G R (.ref a) (.nG Q5)
inductive GX (G:Gp) (R:Nat->Bool):List D->List D->Prop
 | nil:GX G R [] []
 | cons {d s:D} {ds ss:List D}:Fz G R d s->GX G R ds ss->GX G R (d :: ds) (s :: ss)
inductive GY (G:Gp) (R:Nat->Bool):List (D×D)->List (D×D)->Prop
 | nil:GY G R [] []
 | cons {k d s:D} {ds ss:List (D×D)}:Fz G R d s->GY G R ds ss->GY G R ((k,d) :: ds) ((k,s) :: ss)
end
theorem GY.same{G:Gp}{R:Nat->Bool}:∀ (kvs:List (D×D)),GY G R kvs kvs
 | []=>.nil
 | (k,v) :: r=>.cons (.same v) (GY.same r)
noncomputable def KP(G:Gp)(x:D)(Q:DK):Prop:=∃ (R:Nat->Bool) (t:D),Fz G R x t/\Q t (zf R G)
noncomputable def dB(e:fM):fM:=fun E τ G Q=>e E τ G fun x G1=>KP G1 x Q
noncomputable def GB(i:Nat)(t:hV):hV:=fun E K τ G=>t E { K with nx:=fun nO G1=>match nO[i]? with
 | some (some d)=>KP G1 d fun t G2=>K.nx (nO.set i (some t)) G2
 | _=>False } τ G
theorem GX.same{G:Gp}{R:Nat->Bool}:∀ (ds:List D),GX G R ds ds
 | []=>.nil
 | d :: ds=>.cons (.same d) (GX.same ds)
theorem t4{G G1:Gp}(l:fN G G1):zf (fun a=>(G a).isNone) G1=G:=by
 funext a;unfold zf;cases h:G a with
 | none=>simp [h]
 | some o=>simp [l a o h,h]
theorem Ko{G G1:Gp}{p:Nat}{o:GO}(l:fN G G1)(hp:G p=none)(h1:G1 p=some o):zf (fun a=>(G a).isNone&&decide (a≠p)) G1=eD G p o:=by
 funext a;unfold zf eD;by_cases ha:a=p
 ·subst ha; simp [h1]
 ·cases h:G a with
  | none=>simp [ha,h]
  | some o=>simp [l a o h,ha,h]
theorem c4{G:Gp}{d:D}{Q:DK}(q:Q d G):KP G d Q:=⟨fun _=>false,d,.same d,by
 have e:zf (fun _=>false) G=G:=by funext a; simp [zf]
 rw [e]; exact q⟩
theorem tU{G G1:Gp}{d:D}{Q:DK}(l:fN G G1)(q:Q d G):KP G1 d Q:=⟨_,d,.same d,by rw [t4 l]; exact q⟩
theorem NC{G G1:Gp}{p:Nat}{o:GO}{Q:DK}(l:fN G G1)(hp:G p=none)(h1:G1 p=some o)(q:Q (.ref p) (eD G p o)):KP G1 (.ref p) Q :=
 ⟨_,.ref p,.same _,by rw [Ko l hp h1]; exact q⟩
theorem FX{G G1:Gp}{p:Nat}{ds ss:List D}{Q:DK}(l:fN G G1)(hp:G p=none)(h1:G1 p=some (.lst ds))(hs:GX G1 (fun a=>(G a).isNone) ds ss)(q:Q (.dJ ss) G):KP G1 (.ref p) Q :=
 ⟨_,.dJ ss,.ref h1 (by simp [hp]) hs,by rw [t4 l]; exact q⟩
theorem iH{G G1:Gp}{p:Nat}{kvs:List (D×D)}{Q:DK}(l:fN G G1)(hp:G p=none)(h1:G1 p=some (.gu kvs))(q:Q (.jY kvs) G):KP G1 (.ref p) Q :=
 ⟨fun a=>(G a).isNone,.jY kvs,.gu h1 (by simp [hp]) (.same _),by rw [t4 l]; exact q⟩
noncomputable def zA:mR:=fun ds G Q _=>∃ ns:List Int,ds=[.dJ (ns.map D.int)]/\ns.length<=63/\(∀ a,G a=none)/\∀ G',Q (.bl true) G'
theorem gf{a b:hV}{E:kS}{K:kI}{τ:gY}{G:Gp}(P:gY->Gp->Prop)(h1:∀ N,(∀ τ G,P τ G->N τ G)->a E { K with nx:=N } τ G)(h2:∀ τ G,P τ G->b E K τ G):cN a b E K τ G:=h1 (b E K) h2
theorem pD{a b:hV}{E:kS}{K:kI}{τ:gY}{G:Gp}:cN a b E K τ G=a E { K with nx:=b E K } τ G:=rfl
theorem c9{a:fM}{g:yT}{b:hV}{E:kS}{K:kI}{τ:gY}{G:Gp}:cN (bQ a g) b E K τ G=bQ a g E { K with nx:=b E K } τ G:=rfl
theorem sJ{a:fM}{b:hV}{E:kS}{K:kI}{τ:gY}{G:Gp}:cN (nA a) b E K τ G=nA a E { K with nx:=b E K } τ G:=rfl
theorem Tc{g:yT}{body:hV}{ok:Gp->Prop}{ds:List D}{E:kS}{K:kI}{τ:gY}{G:Gp}(I:List D->gY->Gp->Prop)
  (h0:I [] τ G) (cD:∀ pre τ G,I pre τ G->ok G)
  (step:∀ (pre:List D) (d:D) (post:List D) τ G (N:gY->Gp->Prop),ds=pre++d :: post->I pre τ G->(∀ uH G2,I (pre++[d]) uH G2->N uH G2) ->
   g E d τ G fun nO G1=>body E { K with nx:=N,ct:=N,bk:=K.nx } nO G1)
  (fin:∀ τ G,I ds τ G->K.nx τ G):oH g body ok ds E K τ G:=by
 have main:∀ (post pre:List D) τ G,ds=pre++post->I pre τ G->oH g body ok post E K τ G:=by
  intro post;induction post with
  | nil =>
   intro pre τ G e h;rw [cz] at e;subst e;exact⟨cD _ _ _ h,fin _ _ h⟩
  | cons d post ih =>
   intro pre τ G e h;refine⟨cD _ _ _ h,?_⟩;exact step pre d post τ G _ e h fun uH G2 h2=>ih (pre++[d]) uH G2 (by rw [e,bK]; rfl) h2
 exact main ds [] τ G rfl h0
theorem Ql{g:yT}{c:Option vM}{e:fM}{ok:Gp->Prop}{ds:List D}{E:kS}{τ:gY}{G:Gp}{Q:List D->Gp->Prop}(I:List D->List D->gY->Gp->Prop)
  (h0:I [] [] τ G) (cD:∀ pre acc τ G,I pre acc τ G->ok G)
  (step:∀ (pre:List D) (d:D) (post acc:List D) τ G (N:gY->List D->Gp->Prop),ds=pre++d :: post->I pre acc τ G->(∀ uH vh G2,I (pre++[d]) vh uH G2->N uH vh G2) ->
   g E d τ G fun nO G1=>match c with
    | none=>e E nO G1 fun x G2=>N nO (acc++[x]) G2
    | some c=>c E nO G1 fun k G2=>if k=true then e E nO G2 fun x G3=>N nO (acc++[x]) G3 else N nO acc G2)
  (fin:∀ acc τ G,I ds acc τ G->Q acc G):iI g c e ok ds E τ G [] Q:=by
 have main:∀ (post pre acc:List D) τ G,ds=pre++post->I pre acc τ G->iI g c e ok post E τ G acc Q:=by
  intro post;induction post with
  | nil =>
   intro pre acc τ G e h;rw [cz] at e;subst e;exact⟨cD _ _ _ _ h,fin _ _ _ h⟩
  | cons d post ih =>
   intro pre acc τ G e' h;refine⟨cD _ _ _ _ h,?_⟩;have:=step pre d post acc τ G (fun uH vh G2=>iI g c e ok post E uH G2 vh Q) e' h fun uH vh G2 h2=>ih (pre++[d]) vh uH G2 (by rw [e',bK]; rfl) h2;cases c with
   | none=>exact this
   | some c=>exact this
 exact main ds [] [] τ G rfl h0
theorem Sn.rI{G:Gp}{n:Nat}:∀ (ns:List Int),Sn G (n+1) (.dJ (ns.map D.int)) (.dJ (ns.map D.int))
 | []=>.Jy
 | i :: ns=>.zJ (.int i) (Sn.rI ns)
theorem oh(a b:D)(r t:List D):ke (a :: r) (b :: t)=(hZ a b&&ke r t):=rfl
theorem jU(a b:Int):hZ (.int a) (.int b)=(a == b):=rfl
theorem Gu(a b:List D):hZ (.tup a) (.tup b)=ke a b:=rfl
theorem D3{α:Type} [DecidableEq α](a b:α)(as bs:List α):(decide (a=b)&&decide (as=bs))=decide (a :: as=b :: bs):=by
 by_cases h:a=b <;> by_cases h2:as=bs <;> simp [h,h2]
end K2
end
section
namespace K2
open PySem (Str)
set_option genInjectivity true in structure T2 where
 a:Int
 b:Int
 deriving DecidableEq
set_option genInjectivity true in structure T3 where
 a:Int
 b:Int
 c:Int
 deriving DecidableEq
class Enc (α:Type) [DecidableEq α] where
 enc:α->D
 dep:Nat
 eqv:∀ a b,hZ (enc a) (enc b)=decide (a=b)
 sn:∀ (G:Gp) (n:Nat) (a:α),dep<=n->Sn G n (enc a) (enc a)
open Enc (enc)
noncomputable instance:Enc Int where
 enc:=D.int
 dep:=0
 eqv:=fun a b=>rfl
 sn:=fun G n a _=>.int a
noncomputable instance:Enc Bool where
 enc:=D.bl
 dep:=0
 eqv:=fun a b=>OE a b
 sn:=fun G n a _=>.bl a
noncomputable instance:Enc T2 where
 enc:=fun t=>.tup [.int t.a,.int t.b]
 dep:=1
 eqv:=fun x y=>by
  cases x; cases y;rw [Gu,oh,oh,jU,jU]; simp only [T2.mk.injEq]; rename_i a b c d; by_cases h:a=c <;> by_cases h2:b=d <;> simp [h,h2,show ke [] []=true from rfl]
 sn:=fun G n t h=>by
  obtain⟨m,rfl⟩:∃ m,n=m+1:=⟨n - 1,by lia⟩;exact .pA (.int _) (.pA (.int _) .E3)
noncomputable instance:Enc T3 where
 enc:=fun t=>.tup [.int t.a,.int t.b,.int t.c]
 dep:=1
 eqv:=fun x y=>by
  cases x; cases y;rw [Gu,oh,oh,oh,jU,jU,jU]; simp only [T3.mk.injEq]; rename_i a b e c d f; by_cases h:a=c <;> by_cases h2:b=d <;> by_cases h3:e=f <;> simp [h,h2,h3,show ke [] []=true from rfl]
 sn:=fun G n t h=>by
  obtain⟨m,rfl⟩:∃ m,n=m+1:=⟨n - 1,by lia⟩;exact .pA (.int _) (.pA (.int _) (.pA (.int _) .E3))
noncomputable instance {α β:Type} [DecidableEq α] [DecidableEq β] [Enc α] [Enc β]:Enc (α×β) where
 enc:=fun t=>.tup [enc t.1,enc t.2]
 dep:=max (Enc.dep α) (Enc.dep β)+1
 eqv:=fun x y=>by
  cases x; cases y;rw [Gu,oh,oh,Enc.eqv,Enc.eqv]; simp only [Prod.mk.injEq]; rename_i a b c d; by_cases h:a=c <;> by_cases h2:b=d <;> simp [h,h2,show ke [] []=true from rfl]
 sn:=fun G n t h=>by
  obtain⟨m,rfl⟩:∃ m,n=m+1:=⟨n - 1,by lia⟩;exact .pA (Enc.sn _ _ _ (by lia)) (.pA (Enc.sn _ _ _ (by lia)) .E3)
theorem DZ{α:Type} [DecidableEq α] [Enc α]:∀ (a b:List α),ke (a.map enc) (b.map enc)=decide (a=b)
 | [],[]=>(decide_eq_true rfl).symm
 | [],b :: bs=>(decide_eq_false (fun z=>nomatch z)).symm
 | a :: as,[]=>(decide_eq_false (fun z=>nomatch z)).symm
 | a :: as,b :: bs=>by
  show (hZ (enc a) (enc b)&&ke (as.map enc) (bs.map enc))=_;rw [Enc.eqv,DZ as bs,D3]
theorem LU{α:Type} [DecidableEq α] [Enc α](G:Gp)(n:Nat)(h:Enc.dep α<=n):∀ (xs:List α),Sn G (n+1) (.dJ (xs.map enc)) (.dJ (xs.map enc))
 | []=>.Jy
 | a :: as=>.zJ (Enc.sn _ _ _ h) (LU G n h as)
noncomputable instance {α:Type} [DecidableEq α] [Enc α]:Enc (List α) where
 enc:=fun xs=>.dJ (xs.map enc)
 dep:=Enc.dep α+1
 eqv:=fun a b=>by
  show ke _ _=_;exact DZ a b
 sn:=fun G n t h=>by
  obtain⟨m,rfl⟩:∃ m,n=m+1:=⟨n - 1,by lia⟩;exact LU G m (by lia) t
section
variable {α:Type} [DecidableEq α] [Enc α]
theorem Qy(L:List α)(t:α):(L.map enc).any (hZ · (enc t))=decide (t∈L):=by
 induction L with
 | nil=>simp
 | cons a r ih =>
  simp only [ak,kz,Enc.eqv,ih,aQ];by_cases h:a=t
  ·simp [h]
  ·have h':¬ t=a:=fun z=>h z.symm;by_cases h2:t∈r <;> simp [h,h',h2]
end
section
variable {κ α:Type} [DecidableEq κ] [Enc κ] [DecidableEq α] [Enc α]
noncomputable def bB(l:List (κ×α)):List (D×D):=l.map fun p=>(enc p.1,enc p.2)
noncomputable def cH(l:List (κ×α))(k:κ):Option α:=(l.find? fun p=>p.1=k).map (·.2)
noncomputable def ez(l:List (κ×α))(k:κ)(v:α):List (κ×α):=if (l.any fun p=>p.1=k)=true then l.map (fun p=>if p.1=k then (p.1,v) else p) else l++[(k,v)]
theorem tG(l:List (κ×α))(k:κ):look (bB l) (enc k)=(cH l k).map enc:=by
 unfold look cH bB;induction l with
 | nil=>rfl
 | cons p r ih =>
  rw [ak,dQ,dQ];simp only [Enc.eqv];by_cases h:p.1=k
  ·simp [h]
  ·simp only [h,decide_false]; exact ih
theorem HG(l:List (κ×α))(k:κ)(v:α):put (bB l) (enc k) (enc v)=bB (ez l k v):=by
 unfold put ez;have e:((bB l).any fun p=>hZ p.1 (enc k))=l.any fun p=>decide (p.1=k):=by
  unfold bB; rw [List.any_map]; congr 1; funext p; exact Enc.eqv _ _
 rw [e];split
 ·unfold bB; rw [br,br];refine cZ fun p _=>?_;simp only [Function.comp,Enc.eqv,decide_eq_true_eq];split <;> rfl
 ·unfold bB; rw [a9]; rfl
theorem qJ(l:List (κ×α))(k j:κ)(v:α):cH (ez l k v) j=if k=j then some v else cH l j:=by
 unfold ez;split
 ·rename_i h;unfold cH;induction l with
  | nil=>simp at h
  | cons p r ih =>
   rw [ak,dQ,dQ];by_cases h1:p.1=k
   ·rw [if_pos h1];by_cases h2:k=j
    ·simp [h1,h2]
    ·have:¬ p.1=j:=fun z=>h2 (h1.symm.trans z);simp only [this,decide_false,h2,if_false];by_cases h3:(r.any fun p=>decide (p.1=k))=true
     ·have:=ih h3;rw [if_neg h2] at this;exact this
     ·congr 1;have:r.map (fun p=>if p.1=k then (p.1,v) else p)=r:=by
       conv=>rhs; rw [<-kW r]
       refine cZ fun q hq=>?_;rw [if_neg]; rfl;intro z; exact h3 (List.any_eq_true.mpr ⟨q,hq,by simpa using z⟩)
      rw [this]
   ·rw [if_neg h1];have h3:(r.any fun p=>decide (p.1=k))=true:=by simpa [h1] using h
    by_cases h2:p.1=j
    ·have:¬ k=j:=fun z=>h1 (h2.trans z.symm);simp [h2,this]
    ·simp only [h2,decide_false]; exact ih h3
 ·rename_i h;unfold cH;rw [List.find?_append];by_cases h2:k=j
  ·subst h2;have:l.find? (fun p=>decide (p.1=k))=none:=by
    rw [gk];intro p hp z;exact h (List.any_eq_true.mpr ⟨p,hp,z⟩)
   rw [this]; simp
  ·simp [h2]
theorem qe(l:List (κ×α))(k:κ)(v:α):(ez l k v).length<=l.length+1:=by
 unfold ez; split <;> simp
end
class sd (κ:Type) [DecidableEq κ] [Enc κ] where
 ok:(∀ k:κ,dZ (enc k)=true)\/∀ k:κ,jS (enc k)=true
noncomputable instance:sd Int:=⟨.inl fun _=>rfl⟩
noncomputable instance:sd T2:=⟨.inr fun _=>rfl⟩
noncomputable instance:sd T3:=⟨.inr fun _=>rfl⟩
theorem lE{κ α:Type} [DecidableEq κ] [Enc κ] [sd κ] [DecidableEq α] [Enc α](l:List (κ×α))(k:κ):gF (bB l) (enc k)=true:=by
 unfold gF bB;rcases sd.ok (κ:=κ) with h | h
 ·rw [nF]; left;rw [h k,Bool.true_and,lP,hW];intro p _; exact h p.1
 ·rw [nF]; right;rw [h k,Bool.true_and,lP,hW];intro p _; exact h p.1
end K2
end
section
namespace K2
open PySem (Str)
open Enc (enc)
mutual
noncomputable def nH:D->D->Bool
 | .int a,.int b=>decide (a < b)
 | .tup a,.tup b=>kO a b
 | .dJ a,.dJ b=>kO a b
 | _,_=>false
noncomputable def kO:List D->List D->Bool
 | [],[]=>false
 | [],_ :: _=>true
 | _ :: _,[]=>false
 | x :: xs,y :: ys=>if hZ x y=true then kO xs ys else nH x y
end
theorem lD(x y:D)(xs ys:List D):kO (x :: xs) (y :: ys)=if hZ x y=true then kO xs ys else nH x y:=rfl
theorem MK(a b:Int):nH (.int a) (.int b)=decide (a < b):=rfl
inductive mx where
 | int | tup (l:List mx) | lst (s:mx)
mutual
noncomputable def cP:mx->D->Bool
 | .int,.int _=>true
 | .tup l,.tup ds=>eT l ds
 | .lst s,.dJ ds=>gj s ds
 | _,_=>false
noncomputable def eT:List mx->List D->Bool
 | [],[]=>true
 | s :: l,d :: ds=>cP s d&&eT l ds
 | _,_=>false
noncomputable def gj:mx->List D->Bool
 | _,[]=>true
 | s,d :: ds=>cP s d&&gj s ds
end
theorem dg{a:D}(h:cP .int a=true):∃ i,a=.int i:=by cases a <;> first | exact⟨_,rfl⟩ | exact bz (show false=true from h)
theorem dc{l:List mx}{a:D}(h:cP (.tup l) a=true):∃ x,a=.tup x:=by cases a <;> first | exact⟨_,rfl⟩ | exact bz (show false=true from h)
theorem df{l:mx}{a:D}(h:cP (.lst l) a=true):∃ x,a=.dJ x:=by cases a <;> first | exact⟨_,rfl⟩ | exact bz (show false=true from h)
mutual
noncomputable def Rt:mx->Nat
 | .int=>0
 | .tup l=>NT l+1
 | .lst s=>Rt s+1
noncomputable def NT:List mx->Nat
 | []=>0
 | s :: l=>max (Rt s) (NT l)
end
noncomputable def SE(sh:mx):Bool:=decide (Rt sh<=7)&&(match sh with
 | .tup []=>false
 | _=>true)
noncomputable def OJ(a b:D):Bool:=!nH b a
noncomputable def pC(ds:List D):List D:=ds.mergeSort OJ
noncomputable def uc(ds:List D)(G:Gp)(Q:DK):Prop:=match ds with
 | [x]=>∃ (sh:mx) (xs:List D),K3 x G/\itemsOf x G=some xs/\xs.all (cP sh)=true/\SE sh=true/\xs.length < 64/\gv G (.lst (pC xs)) Q
 | _=>False
class bo (α:Type) [DecidableEq α] [Enc α] where
 lt:α->α->Bool
 zB:mx
 Bt:∀ a:α,cP zB (enc a)=true
 PV:∀ a b:α,nH (enc a) (enc b)=lt a b
 FQ:∀ a,lt a a=false
 trans:∀ a b c,lt a b=true->lt b c=true->lt a c=true
 mG:∀ a b,lt a b=false->lt b a=false->a=b
noncomputable instance:bo Int where
 lt:=fun a b=>decide (a < b)
 zB:=.int
 Bt:=fun _=>rfl
 PV:=fun a b=>rfl
 FQ:=fun a=>by simp
 trans:=fun a b c h1 h2=>by simp at *; lia
 mG:=fun a b h1 h2=>by simp at *; lia
noncomputable def rH{α:Type} [DecidableEq α](lt:α->α->Bool):List α->List α->Bool
 | [],[]=>false
 | [],_ :: _=>true
 | _ :: _,[]=>false
 | x :: xs,y :: ys=>if x=y then rH lt xs ys else lt x y
theorem uU{α:Type} [DecidableEq α](lt:α->α->Bool)(x y:α)(xs ys:List α):rH lt (x :: xs) (y :: ys)=if x=y then rH lt xs ys else lt x y:=rfl
section
variable {α:Type} [DecidableEq α] {lt:α->α->Bool}
theorem tJ:∀ x:List α,rH lt x x=false
 | []=>rfl
 | a :: x=>by simp only [uU,if_true]; exact tJ x
theorem tH(t:∀ a b,lt a b=false->lt b a=false->a=b):∀ (x y:List α),rH lt x y=false->rH lt y x=false->x=y
 | [],[],_,_=>rfl
 | [],_ :: _,h,_=>by cases h
 | _ :: _,[],_,h=>by cases h
 | a :: x,b :: y,h1,h2=>by
  simp only [uU] at h1 h2;by_cases e:a=b
  ·subst e;simp only [if_true] at h1 h2;rw [tH t x y h1 h2]
  ·rw [if_neg e] at h1;rw [if_neg (fT e)] at h2;exact absurd (t a b h1 h2) e
theorem nZ(ir:∀ a,lt a a=false)(tr:∀ a b c,lt a b=true->lt b c=true->lt a c=true):∀ (x y z:List α),rH lt x y=true->rH lt y z=true->rH lt x z=true
 | [],[],_,h,_=>by cases h
 | [],_ :: _,[],_,h=>by cases h
 | [],_ :: _,_ :: _,_,_=>rfl
 | _ :: _,[],_,h,_=>by cases h
 | _ :: _,_ :: _,[],_,h=>by cases h
 | a :: x,b :: y,c :: z,h1,h2=>by
  simp only [uU] at h1 h2 ⊢;by_cases e1:a=b
  ·subst e1;simp only [if_true] at h1;by_cases e2:a=c
   ·subst e2;simp only [if_true] at h2 ⊢;exact nZ ir tr x y z h1 h2
   ·rw [if_neg e2] at h2 ⊢; exact h2
  ·rw [if_neg e1] at h1;by_cases e2:b=c
   ·subst e2;rw [if_neg e1]; exact h1
   ·rw [if_neg e2] at h2;have h3:=tr _ _ _ h1 h2;rw [if_neg (by rintro rfl; rw [ir] at h3; cases h3)]; exact h3
end
theorem tD{α:Type} [DecidableEq α] [Enc α] [bo α]:∀ (x y:List α),kO (x.map enc) (y.map enc)=rH (bo.lt (α:=α)) x y
 | [],[]=>rfl
 | [],_ :: _=>rfl
 | _ :: _,[]=>rfl
 | a :: x,b :: y=>by simp only [ak,lD,uU,Enc.eqv,tD x y,bo.PV,decide_eq_true_eq]
theorem Aa{α:Type} [DecidableEq α] [Enc α] [bo α]:∀ (x:List α),gj (bo.zB α) (x.map enc)=true
 | []=>rfl
 | a :: x=>by simp only [ak,gj,bo.Bt,Aa x,Bool.and_self]
noncomputable instance {α:Type} [DecidableEq α] [Enc α] [bo α]:bo (List α) where
 lt:=rH bo.lt
 zB:=.lst (bo.zB α)
 Bt:=fun a=>Aa a
 PV:=fun a b=>tD a b
 FQ:=tJ
 trans:=nZ bo.FQ bo.trans
 mG:=tH bo.mG
noncomputable def T2.l(t:T2):List Int:=[t.a,t.b]
noncomputable def T3.l(t:T3):List Int:=[t.a,t.b,t.c]
noncomputable instance:bo T2 where
 lt:=fun x y=>rH (fun a b=>decide (a < b)) x.l y.l
 zB:=.tup [.int,.int]
 Bt:=fun _=>rfl
 PV:=fun a b=>tD a.l b.l
 FQ:=fun a=>tJ _
 trans:=fun a b c=>nZ (α:=Int) bo.FQ bo.trans _ _ _
 mG:=fun ⟨a,b⟩ ⟨c,d⟩ h1 h2=>by
  have:=tH (α:=Int) bo.mG _ _ h1 h2;simpa [T2.l] using this
noncomputable instance:bo T3 where
 lt:=fun x y=>rH (fun a b=>decide (a < b)) x.l y.l
 zB:=.tup [.int,.int,.int]
 Bt:=fun _=>rfl
 PV:=fun a b=>tD a.l b.l
 FQ:=fun a=>tJ _
 trans:=fun a b c=>nZ (α:=Int) bo.FQ bo.trans _ _ _
 mG:=fun ⟨a,b,e⟩ ⟨c,d,f⟩ h1 h2=>by
  have:=tH (α:=Int) bo.mG _ _ h1 h2;simpa [T3.l] using this
section
variable {α:Type} [DecidableEq α] [Enc α] [bo α]
noncomputable def K7(a b:α):Bool:=!bo.lt b a
noncomputable def O7(xs:List α):List α:=xs.mergeSort K7
theorem Jr(xs:List α):pC (xs.map enc)=(O7 xs).map enc:=by
 unfold pC O7;symm;exact List.map_mergeSort fun a _ b _=>by unfold K7 OJ; rw [bo.PV]
theorem zV(a b c:α)(h1:K7 a b=true)(h2:K7 b c=true):K7 a c=true:=by
 unfold K7 at *;simp only [Bool.not_eq_true'] at *;cases h:bo.lt c a with
 | false=>rfl
 | true =>
  by_cases e:a=b
  ·subst e; rw [h] at h2; cases h2
  ·have Nw:bo.lt a b=true:=by
    cases q:bo.lt a b with
    | true=>rfl
    | false=>exact absurd (bo.mG _ _ q h1) e
   rw [bo.trans _ _ _ h Nw] at h2; cases h2
theorem pB(xs:List α):(O7 xs).Perm xs:=List.mergeSort_perm xs K7
theorem O6{xs:List α}{x:α}:x∈O7 xs↔x∈xs:=(pB xs).mem_iff
theorem Jq{xs:List α}(h:xs.Nodup):(O7 xs).Nodup:=(pB xs).nodup_iff.mpr h
end
end K2
end
section
namespace K2
open PySem (Str)
mutual
theorem jT:∀ (sh:mx) (a:D),cP sh a=true->hZ a a=true
 | .int,.int i,_=>by show (i == i)=true; exact beq_self_eq_true i
 | .tup l,.tup xs,h=>by show ke xs xs=true; exact vI l xs h
 | .lst l,.dJ xs,h=>by show ke xs xs=true; exact vJ l xs h
theorem vI:∀ (l:List mx) (xs:List D),eT l xs=true->ke xs xs=true
 | [],[],_=>rfl
 | s :: l,x :: xs,h=>by
  have h:(cP s x&&eT l xs)=true:=h;rw [aH] at h;show (hZ x x&&ke xs xs)=true;rw [jT s x h.1,vI l xs h.2]; rfl
theorem vJ:∀ (s:mx) (xs:List D),gj s xs=true->ke xs xs=true
 | _,[],_=>rfl
 | s,x :: xs,h=>by
  have h:(cP s x&&gj s xs)=true:=h;rw [aH] at h;show (hZ x x&&ke xs xs)=true;rw [jT s x h.1,vJ s xs h.2]; rfl
end
theorem Ti(s:mx)(ih:∀ (a b:D),cP s a=true->cP s b=true->hZ a b=true->a=b):∀ (xs ys:List D),gj s xs=true->gj s ys=true->ke xs ys=true->xs=ys:=by
 intro xs;induction xs with
 | nil=>intro ys _ _ h; cases ys with
  | nil=>rfl
  | cons _ _=>cases h
 | cons x xs U7 =>
  intro ys h1 h2 h;cases ys with
  | nil=>cases h
  | cons y ys =>
   have h1:(cP s x&&gj s xs)=true:=h1;have h2:(cP s y&&gj s ys)=true:=h2;have h:(hZ x y&&ke xs ys)=true:=h;rw [aH] at h1 h2 h;rw [ih x y h1.1 h2.1 h.1,U7 ys h1.2 h2.2 h.2]
mutual
theorem oI:∀ (sh:mx) (a b:D),cP sh a=true->cP sh b=true->hZ a b=true->a=b
 | .int,a,b,h1,h2,h=>by
  first | obtain⟨_,rfl⟩:=dg h1 | obtain⟨_,rfl⟩:=dc h1 | obtain⟨_,rfl⟩:=df h1
  first | obtain⟨_,rfl⟩:=dg h2 | obtain⟨_,rfl⟩:=dc h2 | obtain⟨_,rfl⟩:=df h2
  rw [jU] at h; rw [beq_iff_eq.mp h]
 | .tup l,a,b,h1,h2,h=>by
  first | obtain⟨_,rfl⟩:=dg h1 | obtain⟨_,rfl⟩:=dc h1 | obtain⟨_,rfl⟩:=df h1
  first | obtain⟨_,rfl⟩:=dg h2 | obtain⟨_,rfl⟩:=dc h2 | obtain⟨_,rfl⟩:=df h2
  rw [NQ l _ _ h1 h2 h]
 | .lst l,a,b,h1,h2,h=>by
  first | obtain⟨_,rfl⟩:=dg h1 | obtain⟨_,rfl⟩:=dc h1 | obtain⟨_,rfl⟩:=df h1
  first | obtain⟨_,rfl⟩:=dg h2 | obtain⟨_,rfl⟩:=dc h2 | obtain⟨_,rfl⟩:=df h2
  rw [Ti l (oI l) _ _ h1 h2 h]
theorem NQ:∀ (l:List mx) (xs ys:List D),eT l xs=true->eT l ys=true->ke xs ys=true->xs=ys
 | [],xs,ys,h1,h2,_=>by
  cases xs with
  | nil=>cases ys with
   | nil=>rfl
   | cons _ _=>cases h2
  | cons _ _=>cases h1
 | s :: l,xs,ys,h1,h2,h=>by
  cases xs with
  | nil=>cases h1
  | cons x xs =>
   cases ys with
   | nil=>cases h2
   | cons y ys =>
    have h1:(cP s x&&eT l xs)=true:=h1;have h2:(cP s y&&eT l ys)=true:=h2;have h:(hZ x y&&ke xs ys)=true:=h;rw [aH] at h1 h2 h;rw [oI s x y h1.1 h2.1 h.1,NQ l xs ys h1.2 h2.2 h.2]
end
theorem MJ(s:mx)(ih:∀ (a b:D),cP s a=true->cP s b=true->nH a b=false->nH b a=false->a=b):∀ (xs ys:List D),gj s xs=true->gj s ys=true->kO xs ys=false->kO ys xs=false->xs=ys:=by
 intro xs;induction xs with
 | nil=>intro ys _ _ h _; cases ys with
  | nil=>rfl
  | cons _ _=>cases h
 | cons x xs U7 =>
  intro ys h1 h2 h3 h4;cases ys with
  | nil=>cases h4
  | cons y ys =>
   have h1:(cP s x&&gj s xs)=true:=h1;have h2:(cP s y&&gj s ys)=true:=h2;rw [aH] at h1 h2;simp only [lD] at h3 h4;by_cases e:hZ x y=true
   ·have YM:=oI s x y h1.1 h2.1 e;subst YM;rw [if_pos e] at h3 h4;rw [U7 ys h1.2 h2.2 h3 h4]
   ·rw [if_neg e] at h3;by_cases e2:hZ y x=true
    ·have:=oI s y x h2.1 h1.1 e2;subst this; exact absurd e2 e
    ·rw [if_neg e2] at h4;have:=ih x y h1.1 h2.1 h3 h4;subst this;exact absurd (jT s x h1.1) e
mutual
theorem wg:∀ (sh:mx) (a b:D),cP sh a=true->cP sh b=true->nH a b=false->nH b a=false->a=b
 | .int,a,b,h1,h2,h3,h4=>by
  first | obtain⟨_,rfl⟩:=dg h1 | obtain⟨_,rfl⟩:=dc h1 | obtain⟨_,rfl⟩:=df h1
  first | obtain⟨_,rfl⟩:=dg h2 | obtain⟨_,rfl⟩:=dc h2 | obtain⟨_,rfl⟩:=df h2
  simp [MK] at h3 h4; congr 1; lia
 | .tup l,a,b,h1,h2,h3,h4=>by
  first | obtain⟨_,rfl⟩:=dg h1 | obtain⟨_,rfl⟩:=dc h1 | obtain⟨_,rfl⟩:=df h1
  first | obtain⟨_,rfl⟩:=dg h2 | obtain⟨_,rfl⟩:=dc h2 | obtain⟨_,rfl⟩:=df h2
  rw [Dt l _ _ h1 h2 h3 h4]
 | .lst l,a,b,h1,h2,h3,h4=>by
  first | obtain⟨_,rfl⟩:=dg h1 | obtain⟨_,rfl⟩:=dc h1 | obtain⟨_,rfl⟩:=df h1
  first | obtain⟨_,rfl⟩:=dg h2 | obtain⟨_,rfl⟩:=dc h2 | obtain⟨_,rfl⟩:=df h2
  rw [MJ l (wg l) _ _ h1 h2 h3 h4]
theorem Dt:∀ (l:List mx) (xs ys:List D),eT l xs=true->eT l ys=true->kO xs ys=false->kO ys xs=false->xs=ys
 | [],xs,ys,h1,h2,_,_=>by
  cases xs with
  | nil=>cases ys with
   | nil=>rfl
   | cons _ _=>cases h2
  | cons _ _=>cases h1
 | s :: l,xs,ys,h1,h2,h3,h4=>by
  cases xs with
  | nil=>cases h1
  | cons x xs =>
   cases ys with
   | nil=>cases h2
   | cons y ys =>
    have h1:(cP s x&&eT l xs)=true:=h1;have h2:(cP s y&&eT l ys)=true:=h2;rw [aH] at h1 h2;simp only [lD] at h3 h4;by_cases e:hZ x y=true
    ·have YM:=oI s x y h1.1 h2.1 e;subst YM;rw [if_pos e] at h3 h4;rw [Dt l xs ys h1.2 h2.2 h3 h4]
    ·rw [if_neg e] at h3;by_cases e2:hZ y x=true
     ·have:=oI s y x h2.1 h1.1 e2;subst this; exact absurd e2 e
     ·rw [if_neg e2] at h4;have:=wg s x y h1.1 h2.1 h3 h4;subst this;exact absurd (jT s x h1.1) e
end
mutual
theorem Bk:∀ (sh:mx) (a:D),cP sh a=true->nH a a=false
 | .int,.int i,_=>by rw [MK]; exact decide_eq_false (Int.lt_irrefl _)
 | .tup l,.tup xs,h=>by show kO xs xs=false; exact Du l xs h
 | .lst l,.dJ xs,h=>by show kO xs xs=false; exact Dv l xs h
theorem Du:∀ (l:List mx) (xs:List D),eT l xs=true->kO xs xs=false
 | [],[],_=>rfl
 | s :: l,x :: xs,h=>by
  have h:(cP s x&&eT l xs)=true:=h;rw [aH] at h;simp only [lD,jT s x h.1,if_true]; exact Du l xs h.2
theorem Dv:∀ (s:mx) (xs:List D),gj s xs=true->kO xs xs=false
 | _,[],_=>rfl
 | s,x :: xs,h=>by
  have h:(cP s x&&gj s xs)=true:=h;rw [aH] at h;simp only [lD,jT s x h.1,if_true]; exact Dv s xs h.2
end
theorem FI(s:mx)(ih:∀ (a b c:D),cP s a=true->cP s b=true->cP s c=true->nH a b=true->nH b c=true->nH a c=true):∀ (xs ys zs:List D),gj s xs=true->gj s ys=true->gj s zs=true->kO xs ys=true->kO ys zs=true->kO xs zs=true:=by
 intro xs;induction xs with
 | nil =>
  intro ys zs _ _ _ h4 h5;cases ys with
  | nil=>cases h4
  | cons _ _=>cases zs with
   | nil=>cases h5
   | cons _ _=>rfl
 | cons x xs U7 =>
  intro ys zs h1 h2 h3 h4 h5;cases ys with
  | nil=>cases h4
  | cons y ys =>
   cases zs with
   | nil=>cases h5
   | cons z zs =>
    have h1:(cP s x&&gj s xs)=true:=h1;have h2:(cP s y&&gj s ys)=true:=h2;have h3:(cP s z&&gj s zs)=true:=h3;rw [aH] at h1 h2 h3;simp only [lD] at h4 h5 ⊢;by_cases e1:hZ x y=true
    ·have:=oI s x y h1.1 h2.1 e1;subst this;rw [if_pos e1] at h4;by_cases e2:hZ x z=true
     ·rw [if_pos e2] at h5 ⊢;exact U7 ys zs h1.2 h2.2 h3.2 h4 h5
     ·rw [if_neg e2] at h5 ⊢; exact h5
    ·rw [if_neg e1] at h4;by_cases e2:hZ y z=true
     ·have:=oI s y z h2.1 h3.1 e2;subst this;rw [if_neg e1]; exact h4
     ·rw [if_neg e2] at h5;have h6:=ih x y z h1.1 h2.1 h3.1 h4 h5;rw [if_neg (fun e3=>by
       have:=oI s x z h1.1 h3.1 e3;subst this;rw [Bk s x h1.1] at h6; cases h6)]
      exact h6
mutual
theorem qu:∀ (sh:mx) (a b c:D),cP sh a=true->cP sh b=true->cP sh c=true->nH a b=true->nH b c=true->nH a c=true
 | .int,a,b,c,h1,h2,h3,h4,h5=>by
  first | obtain⟨_,rfl⟩:=dg h1 | obtain⟨_,rfl⟩:=dc h1 | obtain⟨_,rfl⟩:=df h1
  first | obtain⟨_,rfl⟩:=dg h2 | obtain⟨_,rfl⟩:=dc h2 | obtain⟨_,rfl⟩:=df h2
  first | obtain⟨_,rfl⟩:=dg h3 | obtain⟨_,rfl⟩:=dc h3 | obtain⟨_,rfl⟩:=df h3
  simp [MK] at *; lia
 | .tup l,a,b,c,h1,h2,h3,h4,h5=>by
  first | obtain⟨_,rfl⟩:=dg h1 | obtain⟨_,rfl⟩:=dc h1 | obtain⟨_,rfl⟩:=df h1
  first | obtain⟨_,rfl⟩:=dg h2 | obtain⟨_,rfl⟩:=dc h2 | obtain⟨_,rfl⟩:=df h2
  first | obtain⟨_,rfl⟩:=dg h3 | obtain⟨_,rfl⟩:=dc h3 | obtain⟨_,rfl⟩:=df h3
  exact xH l _ _ _ h1 h2 h3 h4 h5
 | .lst l,a,b,c,h1,h2,h3,h4,h5=>by
  first | obtain⟨_,rfl⟩:=dg h1 | obtain⟨_,rfl⟩:=dc h1 | obtain⟨_,rfl⟩:=df h1
  first | obtain⟨_,rfl⟩:=dg h2 | obtain⟨_,rfl⟩:=dc h2 | obtain⟨_,rfl⟩:=df h2
  first | obtain⟨_,rfl⟩:=dg h3 | obtain⟨_,rfl⟩:=dc h3 | obtain⟨_,rfl⟩:=df h3
  exact FI l (qu l) _ _ _ h1 h2 h3 h4 h5
theorem xH:∀ (l:List mx) (xs ys zs:List D),eT l xs=true->eT l ys=true->eT l zs=true->kO xs ys=true->kO ys zs=true->kO xs zs=true
 | [],xs,ys,zs,h1,h2,_,h,_=>by
  cases xs with
  | nil=>cases ys with
   | nil=>cases h
   | cons _ _=>cases h2
  | cons _ _=>cases h1
 | s :: l,xs,ys,zs,h1,h2,h3,h4,h5=>by
  cases xs with
  | nil=>cases h1
  | cons x xs =>
   cases ys with
   | nil=>cases h2
   | cons y ys =>
    cases zs with
    | nil=>cases h3
    | cons z zs =>
     have h1:(cP s x&&eT l xs)=true:=h1;have h2:(cP s y&&eT l ys)=true:=h2;have h3:(cP s z&&eT l zs)=true:=h3;rw [aH] at h1 h2 h3;simp only [lD] at h4 h5 ⊢;by_cases e1:hZ x y=true
     ·have:=oI s x y h1.1 h2.1 e1;subst this;rw [if_pos e1] at h4;by_cases e2:hZ x z=true
      ·rw [if_pos e2] at h5 ⊢;exact xH l xs ys zs h1.2 h2.2 h3.2 h4 h5
      ·rw [if_neg e2] at h5 ⊢; exact h5
     ·rw [if_neg e1] at h4;by_cases e2:hZ y z=true
      ·have:=oI s y z h2.1 h3.1 e2;subst this;rw [if_neg e1]; exact h4
      ·rw [if_neg e2] at h5;have h6:=qu s x y z h1.1 h2.1 h3.1 h4 h5;rw [if_neg (fun e3=>by
        have:=oI s x z h1.1 h3.1 e3;subst this;rw [Bk s x h1.1] at h6; cases h6)]
       exact h6
end
theorem zQ(sh:mx){a b:D}(h1:cP sh a=true)(h2:cP sh b=true)(h:nH a b=true):nH b a=false:=by
 cases q:nH b a with
 | false=>rfl
 | true=>have:=qu sh a b a h1 h2 h1 h q; rw [Bk sh a h1] at this; cases this
theorem xI(sh:mx){a b c:D}(h1:cP sh a=true)(h2:cP sh b=true)(h3:cP sh c=true)(q1:nH b a=false)(q2:nH c b=false):nH c a=false:=by
 cases h:nH c a with
 | false=>rfl
 | true =>
  exfalso;cases q:nH a b with
  | false =>
   have:=wg sh a b h1 h2 q q1;subst this; rw [h] at q2; cases q2
  | true=>rw [qu sh c a b h3 h1 h2 h q] at q2; cases q2
theorem sI(sh:mx){xs ys:List D}(hx:∀ x∈xs,cP sh x=true)(hp:ys.Perm xs)(hs:ys.Pairwise fun a b=>nH b a=false):pC xs=ys:=by
 have hy:∀ y∈ys,cP sh y=true:=fun y h=>hx y (hp.mem_iff.mp h);have p1:(pC xs).Perm xs:=List.mergeSort_perm xs OJ;have hz:∀ z∈pC xs,cP sh z=true:=fun z h=>hx z (p1.mem_iff.mp h);have s1:(pC xs).Pairwise fun a b=>nH b a=false:=by
  let Ly:List { d:D // cP sh d=true }:=xs.attach.map fun x=>⟨x.1,hx x.1 x.2⟩
  have ex:xs=Ly.map (·.1):=by
   simp only [Ly,br]
   conv=>lhs; rw [<-List.attach_map_subtype_val xs]
   rfl
  have e2:pC xs=(Ly.mergeSort fun a b=>OJ a.1 b.1).map (·.1):=by
   unfold pC;rw [ex];exact(List.map_mergeSort (r:=fun (a b:{ d:D // cP sh d=true })=>OJ a.1 b.1) (s:=OJ) (f:=fun x=>x.1) (l:=Ly) fun a _ b _=>rfl).symm
  rw [e2,zu]
  have:=List.pairwise_mergeSort (le:=fun (a b:{ d:D // cP sh d=true })=>OJ a.1 b.1) (fun a b c h1 h2=>by
   unfold OJ at *;simp only [Bool.not_eq_true'] at *;exact xI sh a.2 b.2 c.2 h1 h2) (fun a b=>by
   unfold OJ;cases q:nH b.1 a.1 with
   | false=>rfl
   | true=>rw [zQ sh b.2 a.2 q]; rfl) Ly
  exact this.imp fun h=>by unfold OJ at h; simpa using h
 refine List.Perm.eq_of_pairwise (le:=fun a b=>nH b a=false) (fun a b ha hb h h'=>?_) s1 hs (p1.trans hp.symm);exact wg sh a b (hz a ha) (hy b hb) h' h
end K2
end
section
namespace K2
open PySem (Str)
open Enc (enc)
noncomputable def Xa(P:D->D->Gp->Prop):List D->Gp->Prop
 | [x,y],G=>P x y G
 | _,_=>False
noncomputable def nP:List D->List D->List D
 | x :: xs,y :: ys=>.tup [x,y] :: nP xs ys
 | _,_=>[]
theorem Cq:∀ (xs ys:List D) (i:Nat),(nP xs ys)[i]?=(xs[i]?).bind fun x=>(ys[i]?).map fun y=>D.tup [x,y]
 | [],ys,i=>by simp [nP]
 | x :: xs,[],i=>by cases h:(x :: xs)[i]? <;> simp [nP]
 | x :: xs,y :: ys,0=>by simp [nP]
 | x :: xs,y :: ys,i+1=>by rw [nP,ae,Cq xs ys i,ae,ae]
theorem Cp:∀ (xs ys:List D),(nP xs ys).length=min xs.length ys.length
 | [],ys=>by simp [nP]
 | x :: xs,[]=>by simp [nP]
 | x :: xs,y :: ys=>by rw [nP,aj,Cp xs ys,aj,aj]; lia
noncomputable def tF(x:D)(G:Gp):Option (List D×(Gp->Prop)):=match x with
 | .dJ ds=>some (ds,fun _=>True)
 | .ref p=>(match G p with
  | some (.lst ds)=>some (ds,fun G2=>G2 p=some (.lst ds))
  | _=>none)
 | _=>none
noncomputable def rK(x y:D)(G1:Gp)(R:List D->(Gp->Prop)->Gp->Prop):Prop:=match tF x G1,tF y G1 with
 | some (xs,k1),some (ys,k2)=>R (nP xs ys) (fun G2=>k1 G2/\k2 G2) G1
 | _,_=>False
noncomputable def Nh(a b:fM):Kx:=fun E τ G R=>a E τ G fun x G1=>b E τ G1 fun y G2=>rK x y G2 R
noncomputable def Bq(x:D)(G1:Gp)(R:List D->(Gp->Prop)->Gp->Prop):Prop:=match x with
 | .jY kvs=>R (kvs.map (·.1)) (fun _=>True) G1
 | _=>False
noncomputable def tQ(a:fM):Kx:=fun E τ G R=>a E τ G fun x G1=>Bq x G1 R
noncomputable def IsL(G:Gp)(d:D)(ds:List D):Prop:=d=.dJ ds\/∃ a,d=.ref a/\G a=some (.lst ds)
theorem IsL.dJ{G:Gp}{ds:List D}:IsL G (.dJ ds) ds:=.inl rfl
theorem IsL.enc{α:Type} [DecidableEq α] [Enc α]{G:Gp}(xs:List α):IsL G (enc xs) (xs.map enc):=.inl rfl
theorem IsL.ref{G:Gp}{a:Nat}{ds:List D}(h:G a=some (.lst ds)):IsL G (.ref a) ds:=.inr ⟨a,rfl,h⟩
theorem Dx{G:Gp}{d:D}{ds:List D}(h:IsL G d ds):∃ ok:Gp->Prop,tF d G=some (ds,ok)/\∀ G',fN G G'->ok G':=by
 rcases h with rfl | ⟨a,rfl,e⟩
 ·exact⟨_,rfl,fun _ _=>trivial⟩
 ·unfold tF; simp only [e]; exact⟨_,rfl,fun G' l=>l a _ e⟩
theorem J3{G:Gp}{d d':D}{ds ds':List D}{R:List D->(Gp->Prop)->Gp->Prop}(h:IsL G d ds)(h':IsL G d' ds')(k:∀ ok:Gp->Prop,(∀ G',fN G G'->ok G')->R (nP ds ds') ok G):rK d d' G R:=by
 obtain⟨k1,e1,h1⟩:=Dx h;obtain⟨k2,e2,h2⟩:=Dx h';unfold rK; simp only [e1,e2];exact k _ fun G' l=>⟨h1 G' l,h2 G' l⟩
theorem oe{G:Gp}{d:D}{ds:List D}(h:IsL G d ds):itemsOf d G=some ds:=by
 rcases h with rfl | ⟨a,rfl,e⟩
 ·rfl
 ·unfold itemsOf; simp only [e]
theorem LB{G:Gp}{d:D}{ds:List D}(h:IsL G d ds):K3 d G:=by
 rcases h with rfl | ⟨a,rfl,e⟩
 ·trivial
 ·unfold K3; simp only [e]
theorem A1{G:Gp}{d:D}{ds:List D}{lo hi:Option Int}{Q:DK}(h:IsL G d ds)(k:gv G (.lst (cut ds lo hi)) Q):Sf d lo hi G Q:=by
 rcases h with rfl | ⟨a,rfl,e⟩
 ·exact k
 ·rw [Pb e]; exact k
theorem Qu{G:Gp}{d:D}{ds:List D}{Q:DK}(h:IsL G d ds)(k:Q (.int (ds.length:Int)) G):ue [d] G Q:=by
 rcases h with rfl | ⟨a,rfl,e⟩
 ·exact k
 ·rw [Eg e]; exact k
theorem Oc{G:Gp}{d:D}{ds:List D}{Q:DK}(h:IsL G d ds)(k:gv G (.lst ds) Q):vL [d] G Q:=by
 unfold vL; simp only [oe h]; exact k
theorem yn{α:Type} [DecidableEq α] [Enc α] [bo α]{G:Gp}{d:D}{xs:List α}{Q:DK}(h:IsL G d (xs.map enc))(hl:xs.length < 64)(k:gv G (.lst ((O7 xs).map enc)) Q)(ok:autoParam (SE (bo.zB α)=true) Ad._auto_1):uc [d] G Q :=
 ⟨bo.zB α,xs.map enc,LB h,oe h,by rw [lP,hW]; intro x _; exact bo.Bt x,ok,by rw [aC]; exact hl,by rw [Jr]; exact k⟩
theorem Fj{G:Gp}{d x:D}{ds:List D}{i:Int}{Q:DK}(h:IsL G d ds)(e:uf ds i=some x)(k:Q x G):lR d (.int i) G Q:=by
 rcases h with rfl | ⟨a,rfl,e2⟩
 ·rw [Pc e]; exact k
 ·rw [Pd e2 e]; exact k
theorem tE{G:Gp}{d:D}{ds:List D}(h:IsL G d ds):pR d G=some ds:=by
 rcases h with rfl | ⟨a,rfl,e⟩
 ·rfl
 ·unfold pR; simp only [e]
theorem Qz{G:Gp}{d e:D}{ds es:List D}{Q:DK}(h:IsL G d ds)(h':IsL G e es)(hz:ds.length+es.length<=SZ)(k:gv G (.lst (ds++es)) Q):GN d e G Q:=by
 unfold GN; simp only [tE h,tE h']; exact⟨hz,k⟩
theorem wb{G:Gp}{d e:D}{ds es:List D}{Q:DK}(h:IsL G d ds)(h':IsL G e es)(hz:ds.length+es.length<=SZ)(k:gv G (.lst (ds++es)) Q):iN d e G Q:=by
 have:=Qz h h' hz k;rcases h with rfl | ⟨a,rfl,_⟩
 ·rw [mX]; exact this
 ·rw [mY]; exact this
theorem Ea{α:Type}(xs:List α)(i:Nat)(h:i<=xs.length):cut xs (some (i:Int)) none=xs.drop i:=by
 unfold cut iU;simp only;rw [if_neg (by lia),eV,Nat.min_eq_left h];exact sk (by rw [cx]; lia)
theorem N7{α:Type}(xs:List α)(i:Nat)(h:i<=xs.length):cut xs none (some (i:Int))=xs.take i:=by
 unfold cut iU;simp only;rw [if_neg (by lia),eV,Nat.min_eq_left h];simp
theorem t7{α β:Type}(f:α->β)(xs:List α)(lo hi:Option Int):cut (xs.map f) lo hi=(cut xs lo hi).map f:=by
 unfold cut; rw [aC,List.map_take,List.map_drop]
theorem qH{α:Type}(xs:List α){k:Int}(h0:0<=k)(h1:k < xs.length):uf xs k=some (xs[k.toNat]'(by lia)):=by
 unfold uf Ip;rw [if_pos h0,if_pos h1];show xs[k.toNat]?=_;exact au (by lia)
theorem Fh{n:Nat}{pre post:List D}{d:D}(h:fu 0 n=pre++d :: post):d=.int (pre.length:Int)/\pre.length < n:=by
 have hl:pre.length < n:=by
  have:=congrArg dU h;simp [fu] at this; lia
 have:=congrArg (fun l=>l[pre.length]?) h;simp only [fu,bA,List.getElem?_range hl] at this;rw [cm (aF _)] at this;simp at this;exact⟨this.symm,hl⟩
noncomputable def R3{α β:Type} [DecidableEq α] [Enc α] [DecidableEq β] [Enc β](pre:α->Prop)(f:α->β):mR:=fun ds G Q _=>∃ a:α,ds=[enc a]/\pre a/\Q (enc (f a)) G
noncomputable def WU{α β γ:Type} [DecidableEq α] [Enc α] [DecidableEq β] [Enc β] [DecidableEq γ] [Enc γ](pre:α->β->Prop)(f:α->β->γ):mR:=fun ds G Q _=>∃ (a:α) (b:β),ds=[enc a,enc b]/\pre a b/\Q (enc (f a b)) G
end K2
end
section
namespace K2
open PySem (Str)
open Enc (enc)
noncomputable def W4:zo
 | .int i,.int j,G,Q=>(0<=j/\j<=1000000/\i.natAbs < 2 ^ 64)/\Q (.int (i ^ j.toNat)) G
 | _,_,_,_=>False
noncomputable def qT:Nat:=2 ^ 4000
noncomputable def Hz:zo
 | .int i,.int j,G,Q=>(i.natAbs < qT/\j.natAbs < qT)/\Q (.int (i * j)) G
 | _,_,_,_=>False
theorem sW{i j:Int}{G:Gp}{Q:DK}:W4 (.int i) (.int j) G Q=((0<=j/\j<=1000000/\i.natAbs < 2 ^ 64)/\Q (.int (i ^ j.toNat)) G):=rfl
theorem kZ{i j:Int}{G:Gp}{Q:DK}:Hz (.int i) (.int j) G Q=((i.natAbs < qT/\j.natAbs < qT)/\Q (.int (i * j)) G):=rfl
noncomputable def tZ:D->Gp->Option (List (D×D))
 | .jY kvs,_=>some kvs
 | .ref a,G=>match G a with
  | some (.gu kvs)=>some kvs
  | _=>none
 | _,_=>none
noncomputable def tL(kvs:List (D×D)):Bool:=kvs.all fun p=>dZ p.1
noncomputable def IT(ds:List D)(G:Gp)(Q:DK):Prop:=match ds with
 | [x]=>∃ kvs,tZ x G=some kvs/\tL kvs=true/\kvs.length<=SZ/\gv G (.gu kvs) Q
 | _=>False
noncomputable def JO(x:D)(ds:List D)(G:Gp)(Q:DK):Prop:=match ds with
 | [k,d]=>∃ kvs,tZ x G=some kvs/\tL kvs=true/\dZ k=true/\Q ((look kvs k).getD d) G
 | _=>False
noncomputable def DF(x:D)(G1:Gp)(R:List D->(Gp->Prop)->Gp->Prop):Prop:=match x with
 | .jY kvs=>tL kvs=true/\R (kvs.map fun p=>.tup [p.1,p.2]) (fun _=>True) G1
 | _=>False
noncomputable def i5(a:fM):Kx:=fun E τ G R=>a E τ G fun x G1=>DF x G1 R
noncomputable def yh(k v:fM):fM:=fun E τ G Q=>k E τ G fun x G1=>v E τ G1 fun y G2=>dZ x=true/\gv G2 (.gu [(x,y)]) Q
noncomputable def u7(l m:List (Int×Int)):Bool:=l.length == m.length&&l.all fun p=>cH m p.1 == some p.2
noncomputable def Sg(neg:Bool):zo:=fun x y G Q=>∃ l m:List (Int×Int),tZ x G=some (bB l)/\tZ y G=some (bB m)/\Q (.bl (if neg then !u7 l m else u7 l m)) G
noncomputable def A2(neg:Bool):zo:=fun x y G Q=>HD neg x y G Q\/Sg neg x y G Q
noncomputable def yG{κ α:Type} [DecidableEq κ] [Enc κ] [DecidableEq α] [Enc α](G:Gp)(d:D)(l:List (κ×α)):Prop:=tZ d G=some (bB l)
section
variable {κ α:Type} [DecidableEq κ] [Enc κ] [DecidableEq α] [Enc α] {l:List (κ×α)} {G G':Gp} {d:D}
theorem yG.ref{a:Nat}(h:G a=some (.gu (bB l))):yG G (.ref a) l:=by unfold yG tZ; simp only [h]
theorem yG.jY:yG G (.jY (bB l)) l:=rfl
theorem yG.inv(h:yG G d l):d=.jY (bB l)\/∃ a,d=.ref a/\G a=some (.gu (bB l)):=by
 unfold yG tZ at h;split at h
 ·exact .inl (by rw [aY h])
 ·rename_i a;split at h
  ·rename_i kvs e;exact .inr ⟨a,rfl,by rw [e,aY h]⟩
  ·cases h
 ·cases h
noncomputable def RE(_:Gp)(d:D)(l:List (κ×α)):Prop:=d=.jY (bB l)
theorem RE.p(h:RE G d l):yG G' d l:=by unfold RE at h; rw [h]; exact .jY
theorem jR{β:Type} [DecidableEq β] [Enc β](l:List (Int×β)):tL (bB l)=true:=by
 unfold tL bB; rw [lP,hW]; intro p _; rfl
theorem Ap(l:List (κ×α)):(bB l).length=l.length:=by unfold bB; rw [aC]
theorem LC(h:yG G d l):O2 d G:=by
 rcases h.inv with rfl | ⟨a,rfl,e⟩
 ·trivial
 ·unfold O2; simp only [e]
theorem Na {C:String} {Q:DK} (h:yG G d l) (k:Q (.bl (C == "dict")) G):isAt C d G Q:=by
 rcases h.inv with rfl | ⟨a,rfl,e⟩
 ·exact k
 ·rw [M9]; simp only [e]; exact k
end
section
variable {α:Type} [DecidableEq α] [Enc α] {l:List (Int×α)} {G:Gp} {d:D}
theorem Od{Q:DK}(h:yG G d l)(hs:l.length<=SZ)(k:gv G (.gu (bB l)) Q):IT [d] G Q:=⟨_,h,jR l,by rw [Ap]; exact hs,k⟩
theorem PU{Q:DK}{i:Int}{e:α}(h:yG G d l)(k:Q (enc ((cH l i).getD e)) G):JO d [.int i,enc e] G Q:=by
 refine⟨_,h,jR l,rfl,?_⟩;have:(look (bB l) (.int i)).getD (enc e)=enc ((cH l i).getD e):=by
  rw [show (D.int i)=enc i from rfl,tG]; cases cH l i <;> rfl
 rw [this]; exact k
theorem kd{G0:Gp}{R:List D->(Gp->Prop)->Gp->Prop}(h:RE G0 d l)(le0:fN G0 G)(k:∀ ok:Gp->Prop,(∀ G',fN G0 G'->ok G')->R (l.map fun p=>.tup [.int p.1,enc p.2]) ok G):DF d G R:=by
 unfold RE at h;rw [h];refine⟨jR l,?_⟩;have:(bB l).map (fun p=>D.tup [p.1,p.2])=l.map fun p=>.tup [.int p.1,enc p.2]:=by unfold bB; rw [br]; rfl
 rw [this];exact k _ fun G' le=>trivial
theorem FT{G0:Gp}{R:List D->(Gp->Prop)->Gp->Prop}(h:RE G0 d l)(le0:fN G0 G)(k:∀ ok:Gp->Prop,(∀ G',fN G0 G'->ok G')->R (l.map fun p=>.int p.1) ok G):Bq d G R:=by
 unfold RE at h;rw [h];show R ((bB l).map (·.1)) _ G;have:(bB l).map (·.1)=l.map fun p=>D.int p.1:=by unfold bB; rw [br]; rfl
 rw [this];exact k _ fun G' le=>trivial
theorem QU{i:Int}{v:α}{Q:DK}(h:yG G d l)(e:cH l i=some v)(k:Q (enc v) G):lR d (.int i) G Q:=by
 have hk:gF (bB l) (.int i)=true:=lE l i;have hl:look (bB l) (.int i)=some (enc v):=by rw [show (D.int i)=enc i from rfl,tG,e]; rfl
 rcases h.inv with rfl | ⟨a,rfl,e⟩
 ·rw [v8,hl]; exact⟨hk,k⟩
 ·rw [HB,e]; simp only [hl]; exact⟨hk,k⟩
theorem gO{a:Nat}{i:Int}{v:α}{Q:Gp->Prop}(h:G a=some (.gu (bB l)))(hs:l.length < SZ)(k:Q (eD G a (.gu (bB (ez l i v))))):wZ (.ref a) (.int i) (enc v) G Q:=by
 unfold wZ;simp only [h];refine⟨lE l i,by rw [Ap]; exact hs,?_⟩;rw [show (D.int i)=enc i from rfl,HG]; exact k
end
theorem Ma{neg:Bool}{G:Gp}{d e:D}{l m:List (Int×Int)}{Q:DK}(h1:yG G d l)(h2:yG G e m)(k:Q (.bl (if neg then !u7 l m else u7 l m)) G):A2 neg d e G Q:=.inr ⟨l,m,h1,h2,k⟩
theorem CV{neg:Bool}{G:Gp}{i j:Int}{Q:DK}(k:Q (.bl (if neg then !decide (i=j) else decide (i=j))) G):A2 neg (.int i) (.int j) G Q:=.inl ⟨_,_,.int _,.int _,by
 have:hZ (.int i) (.int j)=decide (i=j):=Enc.eqv i j;rw [this]; exact k⟩
end K2
end
section
namespace K2
open PySem (Str)
open Enc (enc)
noncomputable abbrev TF2:=kS->gY->Gp->(List Str->Gp->Prop)->Prop
end K2
end
section
namespace K2
open PySem (Str)
open Enc (enc)
noncomputable def Ts(ds:List D)(G:Gp)(Q:DK):Prop:=match ds with
 | [x]=>∃ ns:List Int,K3 x G/\itemsOf x G=some (ns.map D.int)/\(ns.length<=1000/\∀ n∈ns,-1000<=n/\n<=1000)/\Q (.int ns.sum) G
 | _=>False
end K2
end
section
namespace K2
open PySem (Str)
noncomputable def J4(x:D)(G1:Gp)(R:List D->(Gp->Prop)->Gp->Prop):Prop:=match x with
 | .jY kvs=>(kvs.all fun p=>jS p.1)=true/\R (kvs.map fun p=>.tup [p.1,p.2]) (fun _=>True) G1
 | _=>False
noncomputable def Bp(a:fM):Kx:=fun E τ G R=>a E τ G fun x G1=>J4 x G1 R
end K2
end
section
namespace K2
open PySem (Str)
noncomputable def D7(kv:List (Int×Int)):fM:=fun _ _ G Q=>gv G (.gu (bB kv)) Q
end K2
end
section
namespace K2
open PySem (Str)
open Enc (enc)
noncomputable def h2(t:T2):Int:=PySem.reduceHash (PySem.Builtin.Tuple.tupleHashOf [PySem.hashInt t.a,PySem.hashInt t.b])
end K2
end
section
namespace K2
open PySem (Str)
noncomputable def Qt(ds:List D)(G:Gp)(Q:DK):Prop:=match ds with
 | [x]=>(match pR x G with
  | some xs=>Q (.tup xs) G
  | none=>False)
 | _=>False
end K2
end
section
namespace K2
open PySem (Str)
noncomputable def only(a:Nat)(o:GO):Gp:=fun b=>if b=a then some o else none
end K2
end
section
namespace K2
open PySem (Str)
noncomputable def oD(kvs:List (PK×D))(k:PK):Option D:=(kvs.find? fun p=>decide (p.1=k)).map (·.2)
noncomputable def JD(kvs:List (PK×D))(k:PK)(v:D):List (PK×D) :=
 if (kvs.any fun p=>decide (p.1=k))=true then kvs.map (fun p=>if p.1=k then (p.1,v) else p) else kvs++[(k,v)]
noncomputable def tyP(x:D)(G:Gp):Prop:=match x with
 | .ref a=>(match G a with
  | some (.qS _)=>True
  | _=>False)
 | .nG _=>True
 | _=>False
noncomputable def Ds(x:D)(ds:List D)(G:Gp)(Q:DK):Prop:=match x,ds with
 | .ref a,[k,d]=>∃ kvs pk,G a=some (.qS kvs)/\k=oC pk/\Q ((oD kvs pk).getD d) G
 | .nG kvs,[k,d]=>∃ pk,k=oC pk/\Q ((oD kvs pk).getD d) G
 | _,_=>False
noncomputable def Fd(o k d:D)(G:Gp)(Q:Gp->Prop):Prop:=match o with
 | .ref a=>∃ kvs pk,G a=some (.qS kvs)/\k=oC pk/\kvs.length < SZ/\Q (eD G a (.qS (JD kvs pk d)))
 | _=>False
noncomputable def DL(o k:fM):yT:=fun E d τ G Q=>o E τ G fun x G1=>k E τ G1 fun y G2=>Fd x y d G2 fun G3=>Q τ G3
noncomputable def N6:fM:=fun _ _ G Q=>gv G (.qS []) Q
noncomputable def N5(k v:fM):fM:=fun E τ G Q=>k E τ G fun x G1=>v E τ G1 fun y G2=>∃ pk,x=oC pk/\gv G2 (.qS [(pk,y)]) Q
noncomputable def J7(x:D)(G1:Gp)(R:List D->(Gp->Prop)->Gp->Prop):Prop:=match x with
 | .nG kvs=>R (kvs.map fun p=>.tup [oC p.1,p.2]) (fun _=>True) G1
 | _=>False
noncomputable def tP(a:fM):Kx:=fun E τ G R=>a E τ G fun x G1=>J7 x G1 R
noncomputable def Dq(x:D)(ds:List D)(G:Gp)(Q:DK):Prop:=match x,ds with
 | .ref a,[k]=>∃ kvs d,G a=some (.gu kvs)/\(jS k=true/\(kvs.all fun p=>jS p.1)=true/\look kvs k=some d)/\Q d (eD G a (.gu (kvs.filter fun p=>!hZ p.1 k)))
 | _,_=>False
end K2
end
section
namespace K2
open PySem
section
variable {prog:bJ} {w:World} {K:Type} [DecidableEq K] (knd:Cj prog w K)
inductive qU (h:Heap):List K->List Value->Prop
 | nil:qU h [] []
 | cons {k:K} {b:Addr} {ks:List K} {vs:List Value}:knd.is h k b->qU h ks vs->qU h (k :: ks) (.ref b :: vs)
noncomputable def qV (h:Heap) (ks:List K) (a:Addr):Prop:=∃ o items n,h.get? a=some o/\o.cls=.type "tuple"/\o.data=.seq items n/\qU knd h ks items.toList
variable {knd}
theorem qU.inj{h:Heap}{x y:List K}{vs:List Value}(hx:qU knd h x vs)(hy:qU knd h y vs):x=y:=by
 induction hx generalizing y with
 | nil=>cases hy; rfl
 | cons h1 _ ih =>
  cases hy with
  | cons h2 t2=>rw [knd.inj h1 h2,ih t2]
theorem qU.keeps{h h':Heap}{ks:List K}{vs:List Value}{d:Addr}{o:Obj}{es ep}(x:qU knd h ks vs)(ho:h.get? d=some o)(hd:o.data=.dict es ep)(hs:eZ d h h'):qU knd h' ks vs:=by
 induction x with
 | nil=>exact .nil
 | cons h1 _ ih=>exact .cons (knd.keeps h1 ho hd hs) ih
theorem qV.typeIs {s:aw} {ks:List K} {a:Addr} (x:qV knd s.heap ks a):s.TypeIs (.ref a) "tuple":=let ⟨o,_,_,ho,hc,_⟩:=x; ⟨o,ho,hc⟩
theorem qV.inj{h:Heap}{a:Addr}{x y:List K}(hx:qV knd h x a)(hy:qV knd h y a):x=y:=by
 obtain⟨o,items,n,ho,_,hd,hi⟩:=hx;obtain⟨o',XO,n',B7,_,yP,Np⟩:=hy;obtain rfl:o=o':=aY (ho.symm.trans B7);rw [hd] at yP;injection yP with h1 _
 subst h1;exact hi.inj Np
theorem qV.keeps{h h':Heap}{ks:List K}{a d:Addr}{o:Obj}{es ep}(x:qV knd h ks a)(ho:h.get? d=some o)(hd:o.data=.dict es ep)(hs:eZ d h h'):qV knd h' ks a:=by
 obtain⟨o',items,n,B7,hc,yP,hi⟩:=x;have B8:a≠d:=by
  rintro rfl;obtain rfl:o'=o:=aY (B7.symm.trans ho);rw [hd] at yP; exact nomatch yP
 exact⟨o',items,n,(hs.2 a B8).trans B7,hc,yP,hi.keeps ho hd hs⟩
noncomputable def Bg(knd:Cj prog w K)(ks:List K):Int:=reduceHash (dG (ks.map knd.hash))
noncomputable def j0(knd:Cj prog w K):List K->Nat
 | []=>0
 | k :: ks=>knd.draws k+j0 knd ks
theorem tu(ks:List K)(k:K):j0 knd (ks++[k])=j0 knd ks+knd.draws k:=by
 induction ks with
 | nil=>simp [j0]
 | cons a r ih=>rw [az,j0,j0,ih,jd]
variable {A:dj} {E:Value->aw->Prop} {s:aw}
theorem Iy{ks:List K}{a:Addr}{Q:Int->aw->Prop}(hu:A.units < cLine/\knd.room A.in1)(hk:qV knd s.heap ks a)(h:Q (Bg knd ks) { s with toks:=s.toks+(j0 knd ks+1) }) :
  wpAny (model prog w) A (pyHash (.ref a)) Q E s:=by
 have hT:=hk.typeIs;obtain⟨o,items,n,ho,_,hd,hi⟩:=hk;unfold pyHash
 first | unfold pyHashByItsType | skip
 first | refine ag (wpAny_cRoomFor_or (.inr hu.1) ?_) | skip
 refine ag (wD hT F.slot_tuple_hash.lookup ?_);show wpAny _ _ (if (some (Value.builtin "tuple.__hash__") == some fE)=true then _ else _) Q E s;rw [if_neg (by rw [beq_builtin_none]; exact iF)];refine ag (wD hT F.slot_tuple_hash.lookup ?_);show wpAny _ _ (callSpecialIfBoundUnlessNone? (.ref a) "__hash__" _ >>= _) Q E s;refine ag (wpAny_callSpecialIfBoundUnlessNone?_slot hT F.slot_tuple_hash (cU F.slot_tuple_hash hT F.entry_tuple_hash ?_ (F.args_tuple_hash_1 _)));show wpAny _ _ (vW (.ref a) >>= _) _ _ s;refine ag (Ca ho hd ?_);refine ag ?_;rw [<-wQ];refine kq _
  (fun rest (b:Array Int) s'=>∃ done left,ks=done++left/\qU knd s.heap left rest/\b.toList=done.map knd.hash/\s'={ s with toks:=s.toks+j0 knd done })
  _ ?_ ?_ _ _ ⟨[],ks,rfl,hi,rfl,rfl⟩
 ·rintro x rest b s' ⟨done,left,rfl,hl,hb,rfl⟩;cases hl with
  | @cons k _ ZP _ h1 Z2 =>
   refine ag (knd.pyHash hu.2 h1 ?_)
   first
    | exact aA ⟨done++[k],ZP,by simp,Z2,by simp [hb],by simp [tu,jd]⟩
    | exact ag (aA (aA ⟨done++[k],ZP,by simp,Z2,by simp [hb],by simp [tu,jd]⟩))
 ·rintro b s' ⟨done,left,rfl,hl,hb,rfl⟩;cases hl;rw [cz] at h;show wpAny _ _ (retInt (dG b.toList)) _ _ _;rw [hb];refine wpAny_ret_mkInt ?_;show wpAny _ _ (if (decide (-(2:Int) ^ 63<=dG (done.map knd.hash))&&decide (dG (done.map knd.hash) < 2 ^ 63))=true then _ else _) Q E _;unfold Bg reduceHash at h;by_cases hr:(decide (-(2:Int) ^ 63<=dG (done.map knd.hash))&&decide (dG (done.map knd.hash) < 2 ^ 63))=true
  ·rw [if_pos hr];rw [if_pos hr] at h;exact aA (by simpa [jd] using h)
  ·rw [if_neg hr];rw [if_neg hr] at h;exact ag (wpAny_rule (aA (by simpa [jd] using h)))
theorem Gs{x y:List K}{a b:Addr}{P:Fin->aw->Prop}(hu:knd.room A)(hx:qV knd s.heap x a)(hy:qV knd s.heap y b)(h:P (.done (.ret (.bool (decide (x=y))))) s) :
  wpAny (model prog w) A (Builtin.«tuple.__eq__» ⟨[.ref a,.ref b],[]⟩) P E s:=by
 have hTb:=hy.typeIs;obtain⟨oa,xs,na,hoa,_,hda,hia⟩:=hx;obtain⟨ob,ys,nb,hob,_,Kd,hib⟩:=hy;show wpAny _ _ (isInstance (.ref b) (.type "tuple") >>= _) _ _ s;refine ag (nJ hTb wL ?_);simp only [bV,aq,if_false];refine ag (Ca hoa hda ?_);refine ag (Ca hob Kd ?_);refine ag ?_;refine kq _
  (fun rest r s'=>r.1=none/\s'=s/\∃ x' y' Ly Ul,rest=List.zip Ly Ul/\qU knd s.heap x' Ly/\qU knd s.heap y' Ul/\decide (x'=y')=decide (x=y)/\(Ly.length == Ul.length)=(xs.size == ys.size))
  _ ?_ ?_ _ _ ⟨rfl,rfl,x,y,xs.toList,ys.toList,rfl,hia,hib,rfl,by simp⟩
 ·rintro⟨u,v⟩ rest r s' ⟨hr,rfl,x',y',Ly,Ul,hz,X0,Rb,P9,hlen⟩;cases X0 with
  | nil=>simp at hz
  | @cons k1 u' Zn WM h1 XZ =>
   cases Rb with
   | nil=>simp at hz
   | @cons k2 v' Zm WL h2 XX =>
    simp only [oO,List.cons.injEq,Prod.mk.injEq] at hz;obtain⟨⟨rfl,rfl⟩,rfl⟩:=hz;refine ag (knd.eqBool hu h1 h2 ?_);by_cases hk:k1=k2
    ·subst hk;rw [decide_eq_true rfl];simp only [bV,aq,if_false];refine aA ⟨rfl,rfl,Zn,Zm,WM,WL,rfl,XZ,XX,?_,by simpa using hlen⟩;rw [<-P9];by_cases TY:Zn=Zm
     ·simp [TY]
     ·simp [TY]
    ·rw [decide_eq_false hk];simp only [eC,if_true];have hf:decide (x=y)=false:=by rw [<-P9]; simp [hk]
     rw [hf] at h;exact ag (aA (aA (aA h)))
 ·rintro⟨r1,r2⟩ s' ⟨hr,rfl,x',y',Ly,Ul,hz,X0,Rb,P9,hlen⟩;simp only at hr;subst hr;refine aA ?_;have Yx:(xs.size == ys.size)=decide (x=y):=by
   rw [<-P9,<-hlen];cases X0 with
   | nil =>
    cases Rb with
    | nil=>simp
    | cons _ _=>simp
   | cons _ _ =>
    cases Rb with
    | nil=>simp
    | cons _ _=>simp at hz
  show P (.done (.ret (.bool (xs.size == ys.size)))) s';rw [Yx]; exact h
theorem An{x y:List K}{a b:Addr}{Q:Bool->aw->Prop}(hu:A.units < cLine/\knd.room A.in1)(hx:qV knd s.heap x a)(hy:qV knd s.heap y b)(h:Q (decide (x=y)) s) :
  wpAny (model prog w) A (eqBool (.ref a) (.ref b)) Q E s:=by
 unfold eqBool
 try with_reducible refine eL ?_
 show wpAny _ _ (if (fj a == fj b)=true then _ else _) Q E s;by_cases Nw:(fj a == fj b)=true
 ·rw [if_pos Nw];have e:a=b:=by have:=eq_of_beq Nw; injection this
  subst e;obtain rfl:=hx.inj hy;exact ag (wpAny_rule (aA (by simpa using h)))
 ·rw [if_neg Nw];exact ag (wpAny_richCompare_same_room (op:=.Eq) hx.typeIs hy.typeIs F.slot_tuple_eq
   (cU F.slot_tuple_eq hx.typeIs F.entry_tuple_eq (Gs hu.2 hx hy ⟨_,rfl,(fun e=>nomatch e),sx h⟩) (F.args_tuple_eq_2 _ _)) hu.1)
theorem xi{ks:List K}{a:Addr}{Q:Bool->aw->Prop}(n:Nat)(hq:∀ (k:K) (b:Addr) (Q:Bool->aw->Prop),knd.is s.heap k b->Q true s->wpAny (model prog w) A (Lm n (.ref b)) Q E s)(hk:qV knd s.heap ks a)(h:Q true s):wpAny (model prog w) A (Lm (n+1) (.ref a)) Q E s:=by
 have hT:=hk.typeIs;obtain⟨o,items,n',ho,_,hd,hi⟩:=hk;unfold Lm;refine ag (wD hT F.slot_tuple_eq.lookup ?_);show wpAny _ _ (isInstance (.ref a) (.type "tuple") >>= _) _ _ s;refine ag (nJ hT wL ?_);simp only [bV,aq,if_false];refine ag (wpAny_seqItems ho hd ?_);refine ag ?_;show wpAny _ _ (forIn items _ _) _ _ s;rw [<-wQ];refine kq _ (fun rest r s'=>r.1=none/\s'=s/\∃ l,qU knd s.heap l rest) _ ?_ ?_ _ _ ⟨rfl,rfl,_,hi⟩
 ·rintro v rest r s' ⟨hr,rfl,l,za⟩;cases za with
  | cons h1 h2 =>
   refine ag (hq _ _ _ h1 ?_);simp only [bV,aq,if_false];exact aA ⟨rfl,rfl,_,h2⟩
 ·rintro⟨r1,r2⟩ s' ⟨hr,rfl,_⟩;simp only at hr;subst hr;exact aA h
end
theorem HE{prog:bJ}{w:World}{K:Type} [DecidableEq K]{knd:KeyKind prog w K}{A:dj}{E:Value->aw->Prop}{s:aw}{ks:List K}{a:Addr}{Q:Bool->aw->Prop}(n:Nat)(hk:IsTupleKey knd s.heap ks a)(h:Q true s):wpAny (model prog w) A (Lm (n+1) (.ref a)) Q E s:=by
 have hT:=hk.typeIs;obtain⟨o,items,n',ho,_,hd,hi⟩:=hk;unfold Lm;refine ag (wD hT F.slot_tuple_eq.lookup ?_);show wpAny _ _ (isInstance (.ref a) (.type "tuple") >>= _) _ _ s;refine ag (nJ hT wL ?_);simp only [bV,aq,if_false];refine ag (wpAny_seqItems ho hd ?_);refine ag ?_;show wpAny _ _ (forIn items _ _) _ _ s;rw [<-wQ];refine kq _ (fun rest r s'=>r.1=none/\s'=s/\∀ v∈rest,carriedByValue v=true) _ ?_ ?_ _ _ ⟨rfl,rfl,hi.byValue⟩
 ·rintro v rest r s' ⟨hr,rfl,za⟩;rw [eqIsQuiet_byValue _ (za v cb)];refine ag (aA ?_);simp only [bV,aq,if_false];exact aA ⟨rfl,rfl,fun u FU=>za u (aL _ FU)⟩
 ·rintro⟨r1,r2⟩ s' ⟨hr,rfl,_⟩;simp only at hr;subst hr;exact aA h
section
variable {prog:bJ} {w:World}
noncomputable def TV{K:Type} [DecidableEq K](knd:KeyKind prog w K):Cj prog w (List (List K)) where
 is:=qV (g7 knd)
 hash:=Bg (g7 knd)
 draws:=fun ks=>j0 (g7 knd) ks+1
 room:=fun A=>A.units < cLine/\(g7 knd).room A.in1
 inj:=fun hx hy=>hx.inj hy
 keeps:=fun x ho hd hs=>x.keeps ho hd hs
 pyHash:=fun hu hk h=>Iy hu hk h
 eqBool:=fun hu hx hy h=>An hu hx hy h
 quiet:=fun hk h=>xi 7 (fun _ _ _ h1 h2=>HE 6 h1 h2) hk h
noncomputable def Xw{K:Type} [DecidableEq K](knd:KeyKind prog w K):Cj prog w (List (List (List K))) where
 is:=qV (TV knd)
 hash:=Bg (TV knd)
 draws:=fun ks=>j0 (TV knd) ks+1
 room:=fun A=>A.units < cLine/\(TV knd).room A.in1
 inj:=fun hx hy=>hx.inj hy
 keeps:=fun x ho hd hs=>x.keeps ho hd hs
 pyHash:=fun hu hk h=>Iy hu hk h
 eqBool:=fun hu hx hy h=>An hu hx hy h
 quiet:=fun hk h=>xi 7 (fun _ _ _ h1 h2=>xi 6 (fun _ _ _ h3 h4=>HE 5 h3 h4) h1 h2) hk h
theorem JN{K:Type} [DecidableEq K]{knd:KeyKind prog w K}{A:dj}(hu:A.units+8 < cLine):(Xw knd).room A:=by
 refine⟨?_,?_,?_⟩
 ·lia
 ·show A.units+1 < cLine; lia
 ·show A.units+1+1 < cLine; lia
theorem Df{K:Type} [DecidableEq K]{knd:KeyKind prog w K}{A:dj}(hu:A.units+8 < cLine):(Xw knd).room A.in1:=by
 refine⟨?_,?_,?_⟩
 ·show A.units+1 < cLine; lia
 ·show A.units+1+1 < cLine; lia
 ·show A.units+1+1+1 < cLine; lia
end
end K2
end
section
namespace K2
open PySem
section
variable {K:Type} [DecidableEq K]
noncomputable def RL(xs:List (K×Addr×Value))(k:K):List (K×Addr×Value):=xs.filter fun x=>decide (x.1≠k)
theorem Jh{xs:List (K×Addr×Value)}(hn:(xs.map (·.1)).Nodup):∀ {j:Nat} {k:K} {p:Addr×Value},xs[j]?=some (k,p)->xs.eraseIdx j=RL xs k:=by
 induction xs with
 | nil=>intro j k p h; simp at h
 | cons x r ih =>
  intro j k p h;rw [ak,aO] at hn;cases j with
  | zero =>
   simp only [aa,uD] at h;subst h;unfold RL;rw [KU,qY (by simp)];symm;refine List.filter_eq_self.mpr fun y hy=>?_;have:y.1≠k:=fun z=>hn.1 (List.mem_map.mpr ⟨y,hy,z⟩);simpa using this
  | succ j =>
   simp only [ae] at h;have:x.1≠k:=fun z=>hn.1 (by rw [z]; exact List.mem_map.mpr ⟨_,cS h,rfl⟩);unfold RL;rw [KW,KS (by simpa using this),ih hn.2 h];rfl
theorem zP{α β:Type}(f:α->β):∀ (l:List α) (j:Nat),(l.eraseIdx j).map f=(l.map f).eraseIdx j
 | [],_=>rfl
 | _ :: _,0=>rfl
 | a :: l,j+1=>congrArg (f a :: ·) (zP f l j)
end
section
variable {prog:bJ} {w:World} {K:Type} [DecidableEq K] {knd:Cj prog w K} {A:dj} {E:Value->aw->Prop} {s:aw}
theorem AU{d a:Addr}{xs:List (K×Addr×Value)}{k:K}{p:Addr×Value}{Q:Option eX->aw->Prop}(hu:knd.room A)(P8:knd.is s.heap k a)(hm:s.heap.DictOfH knd d xs)(hp:atKey xs k=some p)(hsz:xs.length<=aZ)
  (hQ:∀ e:eX,e.val=p.2->∀ h',h'.DictOfH knd d (RL xs k)->eZ d s.heap h'->Q (some e) { s with heap:=h',toks:=s.toks+knd.draws k }) :
  wpAny (model prog w) A (Co d (.ref a)) Q E s:=by
 obtain⟨o,es,ep,ho,hc,hd,he,Yq,hn⟩:=hm;unfold Co
 try with_reducible refine eL ?_
 refine ag (knd.pyHash hu P8 (ag (wpAny_dictFind_heap (s:={ s with toks:=s.toks+knd.draws k }) hu P8 ho hd he Yq hn ?_ ?_)))
 ·intro Vg;rw [atKey_none_of_get Vg] at hp; cases hp
 ·intro j q hj;rw [atKey_of_get hn hj] at hp;cases hp;refine ag (fU (s:={ s with toks:=s.toks+knd.draws k }) ho hd ?_);rw [entry_at he j,hj]
  refine ag (wpAny_updateDictKeys (hz:=by have e:=size_of_entries he; lia) (s:={ s with toks:=s.toks+knd.draws k }) ho hd (aA (hQ _ rfl _ ⟨_,_,ep+1,uw _ ho (Obj.isFreed_of_dict (Obj.data_mapDictKeys hd _)),
   hc.mapDictKeys _,Obj.data_mapDictKeys hd _,?_,?_,?_⟩ (iR ..))))
  ·rw [<-Jh hn hj,zP,<-he];obtain⟨l⟩:=es;simp
  ·intro x hx;exact knd.keeps (Yq x (List.mem_filter.mp hx).1) ho hd (iR ..)
  ·exact lS (kA _ jE) hn
theorem Mg{d a:Addr}{xs:List (K×Addr×Value)}{k:K}{p:Addr×Value}{Q:Value->aw->Prop}(hu:knd.room A.in1)(P8:knd.is s.heap k a)(hm:s.heap.DictOfH knd d xs)(hp:atKey xs k=some p)(hsz:xs.length<=aZ)
  (hQ:∀ h',h'.DictOfH knd d (RL xs k)->eZ d s.heap h'->Q p.2 { s with heap:=h',toks:=s.toks+knd.draws k }) :
  wpAny (model prog w) A (call (.builtin "dict.pop") [.ref d,.ref a]) Q E s:=by
 have hT:s.TypeIs (.ref d) "dict":=by obtain⟨o,es,ep,ho,hc,_⟩:=hm; exact⟨o,ho,hc.1⟩
 refine cU rn hT PySem.F.entry_dict_pop ?_ (PySem.F.args_dict_pop_2 _ _);unfold Builtin.«dict.pop»;refine ag ?_;unfold Builtin.Dict.keyAndDefault;refine ag (wF hT ?_);show wpAny _ _ (pure (d,fj a,none)) _ _ s;refine aA ?_;have Yo:=hm;obtain⟨o,es,ep,ho,hc,hd,he,Yq,hn⟩:=Yo;have B8:es.isEmpty=false:=by
  have:xs≠[]:=by rintro rfl; cases hp
  have h2:=size_of_entries he;have h3:0 < xs.length:=List.length_pos_iff.mpr this;rw [Array.isEmpty_eq_false_iff];rintro rfl;simp at h2; lia
 simp only [keyPart,Option.isSome_none,aq,if_false];refine ag (fU ho hd (ag (aA ?_)));rw [B8,if_neg iF];refine ag (AU hu P8 hm hp hsz fun e hv h' Yo Rf=>?_);simp only [Option.isNone_some,aq,if_false];exact ag (wpAny_letGo (aA ⟨e.val,rfl,by rw [hv]; exact hQ h' Yo Rf⟩))
end
end K2
end
section
namespace K2
open PySem PySem.Spec PyProof.Rows L2
noncomputable def T8(K:ai)(H:Hp)(a:Addr)(xs:List V):Prop :=
 (∃ o,H a=some (.jh o (.lst xs))) \/
  ∃ (o:Obj) (bX:Array Value) (n:Nat),K.lookup a=some o/\o.cls=.type "list"/\o.dict=none/\o.data=.seq bX n/\bX.size<=aZ/\Vals xs bX.toList
theorem T8.sq{K:ai}{H:Hp}{a:Addr}{xs:List V}(h:T8 K H a xs):qg K H a xs:=by
 rcases h with ⟨o,h⟩ | h
 ·exact .inl (.inr ⟨o,h⟩)
 ·exact .inr h
noncomputable def dP:Key->D
 | .inl i=>.int i
 | .inr x=>.str x
noncomputable def ExcAt(K:ai)(H:Hp)(a:Addr)(c:Str):Prop:=∃ (o:Obj) (C:Addr),H a=some (.jh o (.ext fun h=>h.get? a=some o))/\o.cls=.ref C/\c6 K bS c=some (some (.ref C))
noncomputable def Ja(K:ai)(H:Hp)(a:Addr)(c:Str)(ns:List Str)(vs:List V):Prop:=∃ (o:Obj) (C dx:Addr) (od:Obj) (fs:List (Str×V)),H a=some (.jh o (.ext fun h=>h.get? a=some o))/\o.cls=.ref C/\c6 K bS c=some (some (.ref C))/\o.dict=some dx/\H dx=some (.jh od (.xd fs))/\PySem.W.notCls o=true/\fs.map (·.1)=ns/\fs.map (·.2)=vs
noncomputable def Yc(hs:List Int):Int:=reduceHash (dG hs)
noncomputable def hP(k:PK):Int:=Yc (k.map fun r=>Yc (r.map fun t=>Yc (t.map hashInt)))
noncomputable def GR(a:Addr)(xs:List (PK×Addr×Value))(h:Heap):Prop:=xs.length<=aZ/\(a == cV)=false/\∃ (o:Obj) (es:Array eX) (ep:Nat),h.get? a=some o/\o.ExactDict/\o.data=.dict es ep/\es.toList=xs.map (fun x=>⟨hP x.1,.ref x.2.1,x.2.2⟩)/\(xs.map (·.1)).Nodup
noncomputable def QD(kvs:List (PK×D))(ks vs:List V)(xs:List (PK×Addr×Value)):Prop:=kvs.map (fun p=>p.1)=xs.map (fun x=>x.1)/\ks=xs.map (fun x=>V.ref x.2.1)/\Vals vs (xs.map fun x=>x.2.2)
mutual
inductive cg (K:ai) (H:Hp):V->D->Prop
 | eh:cg K H .eh .eh
 | bl (b:Bool):cg K H (.bl b) (.bl b)
 | int (i:Int):cg K H (.int i) (.int i)
 | str (x:Str):cg K H (.str x) (.str x)
 | tup {a:Addr} {vs:List V} {ds:List D}:H a=some (.tup vs)->bh K H vs ds->cg K H (.ref a) (.tup ds)
 | dJ {a:Addr} {vs:List V} {ds:List D}:T8 K H a vs->bh K H vs ds->cg K H (.ref a) (.dJ ds)
 | oS {a:Addr} {o:Obj} {kv:List (Key×V)} {kvs:List (D×D)}:H a=some (.jh o (.dK kv))->k9 K H kv kvs->cg K H (.ref a) (.jY kvs)
 | oR {a:Addr} {o:Obj} {kv:List (List Key×V)} {kvs:List (D×D)}:H a=some (.jh o (.dT kv))->kT K H kv kvs->cg K H (.ref a) (.jY kvs)
 | ref (a:Addr):cg K H (.ref a) (.ref a)
 | exc {a:Addr} {c:Str}:ExcAt K H a c->cg K H (.ref a) (.exc c)
 | EH {a:Addr} {c:Str} {ns:List Str} {vs:List V} {ds:List D}:Ja K H a c ns vs->bh K H vs ds->cg K H (.ref a) (.EH c ns ds)
 | nG {a:Addr} {o:Obj} {xs:List (PK×Addr×Value)} {ks vs:List V} {kvs:List (PK×D)}:H a=some (.jh o (.ext (GR a xs)))->QD kvs ks vs xs->bh K H ks (kvs.map fun p=>oC p.1)->bh K H vs (kvs.map fun p=>p.2)->cg K H (.ref a) (.nG kvs)
inductive bh (K:ai) (H:Hp):List V->List D->Prop
 | nil:bh K H [] []
 | cons {v:V} {d:D} {vs:List V} {ds:List D}:cg K H v d->bh K H vs ds->bh K H (v :: vs) (d :: ds)
inductive k9 (K:ai) (H:Hp):List (Key×V)->List (D×D)->Prop
 | nil:k9 K H [] []
 | cons {k:Key} {v:V} {d:D} {r:List (Key×V)} {t:List (D×D)}:cg K H v d->k9 K H r t->k9 K H ((k,v) :: r) ((dP k,d) :: t)
inductive kT (K:ai) (H:Hp):List (List Key×V)->List (D×D)->Prop
 | nil:kT K H [] []
 | cons {k:List Key} {v:V} {d:D} {r:List (List Key×V)} {t:List (D×D)}:cg K H v d->kT K H r t->kT K H ((k,v) :: r) ((.tup (k.map dP),d) :: t)
end
structure Kp(H H':Hp):Prop where
 tup:∀ a xs,H a=some (.tup xs)->H' a=some (.tup xs)
 jh:∀ a o u,H a=some (.jh o u)->H' a=some (.jh o u)
theorem Kp.refl(H:Hp):Kp H H:=⟨fun _ _ h=>h,fun _ _ _ h=>h⟩
theorem Kp.trans{H H1 H2:Hp}(a:Kp H H1)(b:Kp H1 H2):Kp H H2:=⟨fun c xs h=>b.tup c xs (a.tup c xs h),fun c o u h=>b.jh c o u (a.jh c o u h)⟩
theorem Kp.sqT{K:ai}{H H':Hp}{a:Addr}{xs:List V}(k:Kp H H')(h:wB K H a xs):wB K H' a xs:=by
 rcases h with (h | ⟨o,h⟩) | h
 ·exact .inl (.inl (k.tup _ _ h))
 ·exact .inl (.inr ⟨o,k.jh _ _ _ h⟩)
 ·exact .inr h
theorem Kp.TM{K:ai}{H H':Hp}{a:Addr}{xs:List V}(k:Kp H H')(h:T8 K H a xs):T8 K H' a xs:=by
 rcases h with ⟨o,h⟩ | h
 ·exact .inl ⟨o,k.jh _ _ _ h⟩
 ·exact .inr h
theorem ExcAt.mono{K:ai}{H H':Hp}(k:Kp H H'){a:Addr}{c:Str}(h:ExcAt K H a c):ExcAt K H' a c :=
 let ⟨o,C,h1,h2,h3⟩:=h
 ⟨o,C,k.jh _ _ _ h1,h2,h3⟩
theorem Ja.mono{K:ai}{H H':Hp}(k:Kp H H'){a:Addr}{c:Str}{ns:List Str}{vs:List V}(h:Ja K H a c ns vs):Ja K H' a c ns vs :=
 let ⟨o,C,dx,od,fs,h1,h2,h3,h4,h5,h6⟩:=h
 ⟨o,C,dx,od,fs,k.jh _ _ _ h1,h2,h3,h4,k.jh _ _ _ h5,h6⟩
theorem bh.FR{K:ai}{H:Hp}{P:List V->List D->Prop}(h0:P [] [])(h1:∀ {v:V} {d:D} {vs:List V} {ds:List D},cg K H v d->bh K H vs ds->P vs ds->P (v :: vs) (d :: ds)){vs:List V}{ds:List D}(h:bh K H vs ds):P vs ds :=
 bh.rec (motive_1:=fun _ _ _=>True) (motive_2:=fun vs ds _=>P vs ds) (motive_3:=fun _ _ _=>True) (motive_4:=fun _ _ _=>True) trivial (fun _=>trivial) (fun _=>trivial) (fun _=>trivial) (fun _ _ _=>trivial) (fun _ _ _=>trivial) (fun _ _ _=>trivial) (fun _ _ _=>trivial) (fun _=>trivial) (fun _=>trivial) (fun _ _ _=>trivial) (fun _ _ _ _ _ _=>trivial) h0 (fun a b _ ih=>h1 a b ih) trivial (fun _ _ _ _=>trivial) trivial (fun _ _ _ _=>trivial) h
theorem cg.mono{K:ai}{H H':Hp}(k:Kp H H'):∀ {v:V} {d:D},cg K H v d->cg K H' v d:=fun h =>
 cg.rec (motive_1:=fun v d _=>cg K H' v d) (motive_2:=fun v d _=>bh K H' v d) (motive_3:=fun v d _=>k9 K H' v d) (motive_4:=fun v d _=>kT K H' v d)
  .eh .bl .int .str (fun h _ r=>.tup (k.tup _ _ h) r) (fun h _ r=>.dJ (k.TM h) r) (fun h _ r=>.oS (k.jh _ _ _ h) r) (fun h _ r=>.oR (k.jh _ _ _ h) r) .ref (fun h=>.exc (h.mono k)) (fun h _ r=>.EH (h.mono k) r) (fun h z _ _ r1 r2=>.nG (k.jh _ _ _ h) z r1 r2) .nil (fun _ _ a b=>.cons a b) .nil (fun _ _ a b=>.cons a b) .nil (fun _ _ a b=>.cons a b) h
theorem bh.mono{K:ai}{H H':Hp}(k:Kp H H'){v:List V}{d:List D}(h:bh K H v d):bh K H' v d :=
 bh.FR (P:=fun v d=>bh K H' v d) .nil (fun r _ ih=>.cons (r.mono k) ih) h
theorem k9.mono{K:ai}{H H':Hp}(k:Kp H H'){v:List (Key×V)}{d:List (D×D)}(h:k9 K H v d):k9 K H' v d :=
 k9.rec (motive_1:=fun v d _=>cg K H' v d) (motive_2:=fun v d _=>bh K H' v d) (motive_3:=fun v d _=>k9 K H' v d) (motive_4:=fun v d _=>kT K H' v d)
  .eh .bl .int .str (fun h _ r=>.tup (k.tup _ _ h) r) (fun h _ r=>.dJ (k.TM h) r) (fun h _ r=>.oS (k.jh _ _ _ h) r) (fun h _ r=>.oR (k.jh _ _ _ h) r) .ref (fun h=>.exc (h.mono k)) (fun h _ r=>.EH (h.mono k) r) (fun h z _ _ r1 r2=>.nG (k.jh _ _ _ h) z r1 r2) .nil (fun _ _ a b=>.cons a b) .nil (fun _ _ a b=>.cons a b) .nil (fun _ _ a b=>.cons a b) h
theorem kT.mono{K:ai}{H H':Hp}(k:Kp H H'){v:List (List Key×V)}{d:List (D×D)}(h:kT K H v d):kT K H' v d :=
 kT.rec (motive_1:=fun v d _=>cg K H' v d) (motive_2:=fun v d _=>bh K H' v d) (motive_3:=fun v d _=>k9 K H' v d) (motive_4:=fun v d _=>kT K H' v d)
  .eh .bl .int .str (fun h _ r=>.tup (k.tup _ _ h) r) (fun h _ r=>.dJ (k.TM h) r) (fun h _ r=>.oS (k.jh _ _ _ h) r) (fun h _ r=>.oR (k.jh _ _ _ h) r) .ref (fun h=>.exc (h.mono k)) (fun h _ r=>.EH (h.mono k) r) (fun h z _ _ r1 r2=>.nG (k.jh _ _ _ h) z r1 r2) .nil (fun _ _ a b=>.cons a b) .nil (fun _ _ a b=>.cons a b) .nil (fun _ _ a b=>.cons a b) h
theorem bh.length{K:ai}{H:Hp}:∀ {vs:List V} {ds:List D},bh K H vs ds->vs.length=ds.length:=fun h =>
 bh.FR (P:=fun vs ds=>vs.length=ds.length) rfl (fun _ _ ih=>congrArg (· + 1) ih) h
theorem bh.get{K:ai}{H:Hp}:∀ {vs:List V} {ds:List D} {i:Nat} {d:D},bh K H vs ds->ds[i]?=some d->∃ v,vs[i]?=some v/\cg K H v d:=by
 intro vs ds i d h;refine bh.FR (P:=fun vs ds=>∀ (i:Nat) (d:D),ds[i]?=some d->∃ v,vs[i]?=some v/\cg K H v d) (fun i d e=>by cases e) (fun r _ ih i d e=>?_) h i d;cases i with
 | zero=>cases e; exact⟨_,rfl,r⟩
 | succ i=>exact ih i d e
theorem bh.append{K:ai}{H:Hp}:∀ {vs ws:List V} {ds es:List D},bh K H vs ds->bh K H ws es->bh K H (vs++ws) (ds++es):=fun {_ ws _ es} h s =>
 bh.FR (P:=fun vs ds=>bh K H (vs++ws) (ds++es)) s (fun r _ ih=>.cons r ih) h
theorem bh.take{K:ai}{H:Hp}:∀ {vs:List V} {ds:List D} (n:Nat),bh K H vs ds->bh K H (vs.take n) (ds.take n):=fun {_ _} n h =>
 bh.FR (P:=fun vs ds=>∀ n,bh K H (vs.take n) (ds.take n)) (fun n=>by rw [yM,yM]; exact .nil) (fun r _ ih n=>by
  cases n with
  | zero=>exact .nil
  | succ n=>exact .cons r (ih n)) h n
theorem bh.drop{K:ai}{H:Hp}:∀ {vs:List V} {ds:List D} (n:Nat),bh K H vs ds->bh K H (vs.drop n) (ds.drop n):=fun {_ _} n h =>
 bh.FR (P:=fun vs ds=>∀ n,bh K H (vs.drop n) (ds.drop n)) (fun n=>by rw [yN,yN]; exact .nil) (fun r t ih n=>by
  cases n with
  | zero=>exact .cons r t
  | succ n=>exact ih n) h n
theorem bh.set{K:ai}{H:Hp}{v:V}{d:D}(r:cg K H v d):∀ {vs:List V} {ds:List D} (i:Nat),bh K H vs ds->bh K H (vs.set i v) (ds.set i d):=fun {_ _} i h =>
 bh.FR (P:=fun vs ds=>∀ i,bh K H (vs.set i v) (ds.set i d)) (fun i=>by rw [AK,AK]; exact .nil) (fun q t ih i=>by
  cases i with
  | zero=>exact .cons r t
  | succ i=>exact .cons q (ih i)) h i
theorem bh.one{K:ai}{H:Hp}:∀ {vs:List V} {d:D},bh K H vs [d]->∃ v,vs=[v]/\cg K H v d:=by
 intro vs d h;cases h with
 | cons r t=>cases t; exact⟨_,rfl,r⟩
theorem bh.two{K:ai}{H:Hp}:∀ {vs:List V} {d e:D},bh K H vs [d,e]->∃ v u,vs=[v,u]/\cg K H v d/\cg K H u e:=by
 intro vs d e h;cases h with
 | cons r t =>
  obtain⟨u,rfl,q⟩:=bh.one t;exact⟨_,_,rfl,r,q⟩
theorem bh.zero{K:ai}{H:Hp}:∀ {vs:List V},bh K H vs []->vs=[]
 | _,.nil=>rfl
theorem bh.ints{K:ai}{H:Hp}:∀ {vs:List V} {ns:List Int},bh K H vs (ns.map D.int)->vs=ns.map V.int:=by
 intro vs ns;induction ns generalizing vs with
 | nil=>intro h; exact h.zero
 | cons n ns ih =>
  intro h;cases h with
  | cons r t =>
   cases r;rw [ih t]; rfl
theorem bh.HX{K:ai}{H:Hp}:∀ (ns:List Int),bh K H (ns.map V.int) (ns.map D.int)
 | []=>.nil
 | n :: ns=>.cons (.int n) (bh.HX ns)
theorem k9.ind{K:ai}{H:Hp}{motive:∀ (kv:List (Key×V)) (kvs:List (D×D)),k9 K H kv kvs->Prop}(nil:motive [] [] .nil)
  (cons:∀ {k:Key} {v:V} {d:D} {r:List (Key×V)} {t:List (D×D)} (re:cg K H v d) (rs:k9 K H r t),motive r t rs->motive ((k,v) :: r) ((dP k,d) :: t) (.cons re rs)):∀ {kv:List (Key×V)} {kvs:List (D×D)} (h:k9 K H kv kvs),motive kv kvs h:=fun h =>
 k9.rec (motive_1:=fun _ _ _=>True) (motive_2:=fun _ _ _=>True) (motive_3:=motive) (motive_4:=fun _ _ _=>True) trivial (fun _=>trivial) (fun _=>trivial) (fun _=>trivial) (fun _ _ _=>trivial) (fun _ _ _=>trivial) (fun _ _ _=>trivial) (fun _ _ _=>trivial) (fun _=>trivial) (fun _=>trivial) (fun _ _ _=>trivial) (fun _ _ _ _ _ _=>trivial) trivial (fun _ _ _ _=>trivial) nil (fun a b _ ih=>cons a b ih) trivial (fun _ _ _ _=>trivial) h
theorem kT.ind{K:ai}{H:Hp}{motive:∀ (kv:List (List Key×V)) (kvs:List (D×D)),kT K H kv kvs->Prop}(nil:motive [] [] .nil)
  (cons:∀ {k:List Key} {v:V} {d:D} {r:List (List Key×V)} {t:List (D×D)} (re:cg K H v d) (rs:kT K H r t),motive r t rs->motive ((k,v) :: r) ((.tup (k.map dP),d) :: t) (.cons re rs)):∀ {kv:List (List Key×V)} {kvs:List (D×D)} (h:kT K H kv kvs),motive kv kvs h:=fun h =>
 kT.rec (motive_1:=fun _ _ _=>True) (motive_2:=fun _ _ _=>True) (motive_3:=fun _ _ _=>True) (motive_4:=motive) trivial (fun _=>trivial) (fun _=>trivial) (fun _=>trivial) (fun _ _ _=>trivial) (fun _ _ _=>trivial) (fun _ _ _=>trivial) (fun _ _ _=>trivial) (fun _=>trivial) (fun _=>trivial) (fun _ _ _=>trivial) (fun _ _ _ _ _ _=>trivial) trivial (fun _ _ _ _=>trivial) trivial (fun _ _ _ _=>trivial) nil (fun a b _ ih=>cons a b ih) h
theorem k9.length{K:ai}{H:Hp}:∀ {v:List (Key×V)} {d:List (D×D)},k9 K H v d->v.length=d.length:=fun h =>
 k9.ind (motive:=fun v d _=>v.length=d.length) rfl (fun _ _ ih=>congrArg (· + 1) ih) h
theorem kT.length{K:ai}{H:Hp}:∀ {v:List (List Key×V)} {d:List (D×D)},kT K H v d->v.length=d.length:=fun h =>
 kT.ind (motive:=fun v d _=>v.length=d.length) rfl (fun _ _ ih=>congrArg (· + 1) ih) h
noncomputable def Jc(K:ai)(H:Hp)(a:Addr):GO->Prop
 | .lst ds=>∃ vs,H a=some (.lst vs)/\bh K H vs ds
 | .gu kvs=>(∃ kv,H a=some (.dK kv)/\k9 K H kv kvs)\/∃ kv,H a=some (.dT kv)/\kT K H kv kvs
 | .ins c fs=>∃ C dx fv,H a=some (.ins C dx fv)/\c6 K bS c=some (some (.ref C))/\fv.map (·.1)=fs.map (·.1)/\bh K H (fv.map (·.2)) (fs.map (·.2))
 | .qS kvs=>∃ xs ks vs,H a=some (.ext (GR a xs))/\QD kvs ks vs xs/\bh K H ks (kvs.map fun p=>oC p.1)/\bh K H vs (kvs.map fun p=>p.2)
noncomputable def kU(K:ai)(H:Hp)(G:Gp):Prop:=∀ a g,G a=some g->Jc K H a g
theorem Jc.dk{K:ai}{H:Hp}{a:Addr}{kv:List (Key×V)}{kvs:List (D×D)}(h:H a=some (.dK kv))(r:k9 K H kv kvs):Jc K H a (.gu kvs):=.inl ⟨kv,h,r⟩
theorem Jc.dt{K:ai}{H:Hp}{a:Addr}{kv:List (List Key×V)}{kvs:List (D×D)}(h:H a=some (.dT kv))(r:kT K H kv kvs):Jc K H a (.gu kvs):=.inr ⟨kv,h,r⟩
theorem Jc.mono{K:ai}{H H':Hp}{a:Addr}{g:GO}(k:Kp H H')(e:H' a=H a)(h:Jc K H a g):Jc K H' a g:=by
 cases g with
 | lst ds=>obtain⟨vs,q,r⟩:=h; exact⟨vs,e.trans q,r.mono k⟩
 | ins c fs=>obtain⟨C,dx,fv,q,h1,h2,r⟩:=h; exact⟨C,dx,fv,e.trans q,h1,h2,r.mono k⟩
 | qS kvs=>obtain⟨xs,ks,vs,q,h1,r1,r2⟩:=h; exact⟨xs,ks,vs,e.trans q,h1,r1.mono k,r2.mono k⟩
 | gu kvs =>
  rcases h with ⟨kv,q,r⟩ | ⟨kv,q,r⟩
  ·exact .inl ⟨kv,e.trans q,r.mono k⟩
  ·exact .inr ⟨kv,e.trans q,r.mono k⟩
theorem Jc.tracked{K:ai}{H:Hp}{a:Addr}{g:GO}(h:Jc K H a g):H a≠none:=by
 cases g with
 | lst ds=>obtain⟨vs,q,r⟩:=h; rw [q]; simp
 | ins c fs=>obtain⟨C,dx,fv,q,_⟩:=h; rw [q]; simp
 | qS kvs=>obtain⟨xs,ks,vs,q,_⟩:=h; rw [q]; simp
 | gu kvs =>
  rcases h with ⟨kv,q,r⟩ | ⟨kv,q,r⟩
  ·rw [q]; simp
  ·rw [q]; simp
theorem kU.free{K:ai}{H:Hp}{G:Gp}{a:Addr}(h:kU K H G)(e:H a=none):G a=none:=by
 cases q:G a with
 | none=>rfl
 | some g=>exact absurd e (h a g q).tracked
theorem kU.UR{K:ai}{H:Hp}{G:Gp}{a:Addr}{xs:List V}(h:kU K H G)(e:H a=some (.tup xs)):G a=none:=by
 cases q:G a with
 | none=>rfl
 | some g =>
  have z:=h a g q;cases g with
  | lst ds=>obtain⟨vs,q,r⟩:=z; rw [e] at q; cases q
  | ins c fs=>obtain⟨C,dx,fv,q,_⟩:=z; rw [e] at q; cases q
  | qS kvs=>obtain⟨xs,ks,vs,q,_⟩:=z; rw [e] at q; cases q
  | gu kvs =>
   rcases z with ⟨kv,q,r⟩ | ⟨kv,q,r⟩
   ·rw [e] at q; cases q
   ·rw [e] at q; cases q
theorem kU.US{K:ai}{H:Hp}{G:Gp}{a:Addr}{o:Obj}{u:HO}(h:kU K H G)(e:H a=some (.jh o u)):G a=none:=by
 cases q:G a with
 | none=>rfl
 | some g =>
  have z:=h a g q;cases g with
  | lst ds=>obtain⟨vs,q,r⟩:=z; rw [e] at q; cases q
  | ins c fs=>obtain⟨C,dx,fv,q,_⟩:=z; rw [e] at q; cases q
  | qS kvs=>obtain⟨xs,ks,vs,q,_⟩:=z; rw [e] at q; cases q
  | gu kvs =>
   rcases z with ⟨kv,q,r⟩ | ⟨kv,q,r⟩
   ·rw [e] at q; cases q
   ·rw [e] at q; cases q
structure Mv(K:ai)(H:Hp)(G:Gp)(H':Hp)(G':Gp):Prop where
 keep:∀ a o,H a=some o->G a=none->H' a=some o/\G' a=none
 lj:∀ a,G a≠none->H' a≠none
 ab:kU K H' G'
theorem Mv.refl{K:ai}{H:Hp}{G:Gp}(h:kU K H G):Mv K H G H G:=⟨fun _ _ e n=>⟨e,n⟩,fun a n=>by
 cases q:G a with
 | none=>exact absurd q n
 | some g=>exact(h a g q).tracked,h⟩
theorem Mv.trans{K:ai}{H H1 H2:Hp}{G G1 G2:Gp}(a:Mv K H G H1 G1)(b:Mv K H1 G1 H2 G2):Mv K H G H2 G2 :=
 ⟨fun c o e n=>let ⟨e1,n1⟩:=a.keep c o e n; b.keep c o e1 n1,fun c n=>by
  have h1:=a.lj c n;cases q:G1 c with
  | some g=>exact b.lj c (by rw [q]; simp)
  | none =>
   cases q1:H1 c with
   | none=>exact absurd q1 h1
   | some o=>rw [(b.keep c o q1 q).1]; simp,b.ab⟩
theorem Mv.kp{K:ai}{H H':Hp}{G G':Gp}(m:Mv K H G H' G')(h:kU K H G):Kp H H' :=
 ⟨fun a xs e=>(m.keep a _ e (h.UR e)).1,fun a o u e=>(m.keep a _ e (h.US e)).1⟩
theorem Kp.new{H:Hp}{p:Addr}{o:HO}(hp:H p=none):Kp H (upd H p o):=⟨fun a xs e=>by rw [bM (dE e hp)]; exact e,fun a ob u e=>by rw [bM (dE e hp)]; exact e⟩
theorem Kp.putL{H:Hp}{p:Addr}{xs:List V}{o:HO}(hp:H p=some (.lst xs)):Kp H (upd H p o) :=
 ⟨fun a ys e=>by rw [bM (by rintro rfl; rw [hp] at e; cases e)]; exact e,fun a ob u e=>by rw [bM (by rintro rfl; rw [hp] at e; cases e)]; exact e⟩
theorem Mv.new{K:ai}{H:Hp}{G:Gp}{p:Addr}{o:HO}{g:GO}(h:kU K H G)(hp:H p=none)(ho:Jc K (upd H p o) p g):Mv K H G (upd H p o) (eD G p g) where
 keep:=fun a ob e n=>by
  have ne:=dE e hp;exact⟨by rw [bM ne]; exact e,by rw [dR ne]; exact n⟩
 lj:=fun a n=>by
  have ne:a≠p:=by rintro rfl; exact n (h.free hp)
  rw [bM ne];exact(Mv.refl h).lj a n
 ab:=fun a g' e=>by
  by_cases ha:a=p
  ·subst ha; rw [aJ] at e; cases e; exact ho
  ·rw [dR ha] at e;exact(h a g' e).mono (.new hp) (bM ha)
theorem Mv.K8{K:ai}{H:Hp}{G:Gp}{p:Addr}{o:HO}(h:kU K H G)(hp:H p=none):Mv K H G (upd H p o) G where
 keep:=fun a ob e n=>⟨by rw [bM (dE e hp)]; exact e,n⟩
 lj:=fun a n=>by
  have ne:a≠p:=by rintro rfl; exact n (h.free hp)
  rw [bM ne];exact(Mv.refl h).lj a n
 ab:=fun a g' e=>by
  have ne:a≠p:=by rintro rfl; rw [h.free hp] at e; cases e
  exact(h a g' e).mono (.new hp) (bM ne)
theorem Mv.put{K:ai}{H:Hp}{G:Gp}{p:Addr}{o:HO}{g g0:GO}(h:kU K H G)(hg:G p=some g0)(k:Kp H (upd H p o))(ho:Jc K (upd H p o) p g):Mv K H G (upd H p o) (eD G p g) where
 keep:=fun a ob e n=>by
  have ne:a≠p:=by rintro rfl; rw [hg] at n; cases n
  exact⟨by rw [bM ne]; exact e,by rw [dR ne]; exact n⟩
 lj:=fun a n=>by
  by_cases ha:a=p
  ·subst ha; rw [bY]; simp
  ·rw [bM ha]; exact(Mv.refl h).lj a n
 ab:=fun a g' e=>by
  by_cases ha:a=p
  ·subst ha; rw [aJ] at e; cases e; exact ho
  ·rw [dR ha] at e;exact(h a g' e).mono k (bM ha)
theorem kU.lst{K:ai}{H:Hp}{G:Gp}{a:Addr}{ds:List D}(h:kU K H G)(e:G a=some (.lst ds)):∃ vs,H a=some (.lst vs)/\bh K H vs ds:=h a _ e
theorem Mv.FD{K:ai}{H:Hp}{G:Gp}{p:Addr}{vs:List V}{ds:List D}(h:kU K H G)(hp:H p=none)(r:bh K H vs ds):Mv K H G (upd H p (.lst vs)) (eD G p (.lst ds)) :=
 .new h hp ⟨vs,bY,r.mono (.new hp)⟩
theorem Mv.putL{K:ai}{H:Hp}{G:Gp}{p:Addr}{Zo vs:List V}{ds0 ds:List D}(h:kU K H G)(hg:G p=some (.lst ds0))(hp:H p=some (.lst Zo))(r:bh K H vs ds):Mv K H G (upd H p (.lst vs)) (eD G p (.lst ds)) :=
 .put h hg (.putL hp) ⟨vs,bY,r.mono (.putL hp)⟩
structure ON(K:ai)(H:Hp)(σ:L2.St)(τ:gY):Prop where
 len:σ.length=τ.length
 at':∀ (i:Nat) (d:D),τ[i]?=some (some d)->∃ v,σ[i]?=some (some v)/\cg K H v d
theorem ON.mono{K:ai}{H H':Hp}{σ:L2.St}{τ:gY}(k:Kp H H')(a:ON K H σ τ):ON K H' σ τ :=
 ⟨a.len,fun i d e=>let ⟨v,h1,h2⟩:=a.at' i d e; ⟨v,h1,h2.mono k⟩⟩
theorem ON.set{K:ai}{H:Hp}{σ:L2.St}{τ:gY}{v:V}{d:D}(a:ON K H σ τ)(i:Nat)(r:cg K H v d):ON K H (σ.set i (some v)) (τ.set i (some d)):=by
 refine⟨by rw [cy,cy]; exact a.len,fun j e h=>?_⟩;by_cases hj:i=j
 ·subst hj;by_cases hi:i < τ.length
  ·rw [bW hi] at h;cases h;exact⟨v,by rw [bW (by rw [a.len]; exact hi)],r⟩
  ·rw [List.set_eq_of_length_le (by lia)] at h;rw [ur (by lia)] at h;cases h
 ·rw [dM hj] at h;obtain⟨w,h1,h2⟩:=a.at' j e h;exact⟨w,by rw [dM hj]; exact h1,h2⟩
structure I2(X:Cx)(pins:List (Addr×Obj))(σ:L2.St)(H:Hp)(τ:gY)(G:Gp)(s:aw):Prop where
 inv:Inv X pins σ H s
 st:ON X.K H σ τ
 ab:kU X.K H G
theorem I2.mv{X:Cx}{pins:List (Addr×Obj)}{σ:L2.St}{H H':Hp}{τ:gY}{G G':Gp}{s s':aw}(I:I2 X pins σ H τ G s)(I':Inv X pins σ H' s')(m:Mv X.K H G H' G'):I2 X pins σ H' τ G' s' :=
 ⟨I',I.st.mono (m.kp I.ab),m.ab⟩
noncomputable def CXe(P:bJ)(w:World):KR:=fun outer H s E e s'=>∃ (a C t:Addr) (B:Heap) (H':Hp),e=.ref a/\s'.os=s.os/\AN s'.gens/\Un (La outer) [] H H' s.heap s'.heap/\oJ P w H' s'.heap /\
 (∀ b o,s'.heap.get? b=some o->b∉La outer->(s.heap.get? b≠none\/H' b≠none)->B.get? b=some o)/\PySem.Heap.FlyingW B outer a (.ref C) (.ref t) s'.heap/\H' a=none/\s.heap.get? a=none/\E (.ref C) none H'
noncomputable def exK(K:ai)(mg:Str->Option Value)(E:kS):XK:=fun cls _ H=>∃ (ex:Ex) (C:Addr) (G:Gp),cls=.ref C/\mg ex.cls=some (.ref C)/\kU K H G/\E ex G
structure Lk(X:Cx)(E:kS):Prop where
 made:∀ (pins:List (Addr×Obj)) (σ:L2.St) (H:Hp) (s:aw) (h1:Heap) (a C:Addr) (args:List Value) (ex:Ex) (G:Gp),Inv X pins σ H s->kU X.K H G->PySem.Heap.MadeExcOf s.heap h1 a (.ref C) args->X.mg ex.cls=some (.ref C)->E ex G->X.xe (.ref a) { s with heap:=h1 }
 pass:∀ (pins:List (Addr×Obj)) (σ:L2.St) (H:Hp) (s s':aw) (e:Value),Inv X pins σ H s->CXe X.prog X.w X.stack H s (exK X.K X.mg E) e s'->X.xe e s'
theorem Lk.none{X:Cx}{E:kS}(h:∀ ex G,¬ E ex G):Lk X E where
 made:=fun _ _ _ _ _ _ _ _ ex _ _ _ _ _ z=>absurd z (h ex _)
 pass:=fun _ _ _ _ _ _ _ hc=>by
  obtain⟨_,_,_,_,_,_,_,_,_,_,_,_,_,_,hz⟩:=hc;obtain⟨ex,_,_,_,_,_,z⟩:=hz;exact absurd z (h ex _)
inductive se (X:Cx) (pins:List (Addr×Obj)) (σ:L2.St) (H:Hp) (G:Gp) (Q:DK) (u:Value) (s':aw):Prop
 | mk (v:V) (H':Hp) (d:D) (G':Gp) (i:Inv X pins σ H' s') (m:Mv X.K H G H' G') (r:RelV v u) (rd:cg X.K H' v d) (q:Q d G'):se X pins σ H G Q u s'
inductive T7 (X:Cx) (pins:List (Addr×Obj)) (σ:L2.St) (H:Hp) (G:Gp) (Q:Bool->Gp->Prop) (b:Bool) (s':aw):Prop
 | mk (H':Hp) (G':Gp) (i:Inv X pins σ H' s') (m:Mv X.K H G H' G') (q:Q b G'):T7 X pins σ H G Q b s'
inductive AP2 (X:Cx) (pins:List (Addr×Obj)) (σ:L2.St) (H:Hp) (G:Gp) (Q:List D->Gp->Prop) (us:List Value) (s':aw):Prop
 | mk (vs:List V) (H':Hp) (ds:List D) (G':Gp) (i:Inv X pins σ H' s') (m:Mv X.K H G H' G') (r:Vals vs us) (rd:bh X.K H' vs ds) (q:Q ds G'):AP2 X pins σ H G Q us s'
inductive Wt (X:Cx) (pins:List (Addr×Obj)) (H:Hp) (G:Gp) (P:gY->Gp->Prop) (s':aw):Prop
 | mk (i7:L2.St) (H':Hp) (oQ:gY) (G':Gp) (i:I2 X pins i7 H' oQ G' s') (m:Mv X.K H G H' G') (q:P oQ G'):Wt X pins H G P s'
inductive SPr (X:Cx) (pins:List (Addr×Obj)) (H:Hp) (G:Gp) (P:D->Gp->Prop) (u:Value) (s':aw):Prop
 | mk (v:V) (i7:L2.St) (H':Hp) (d:D) (G':Gp) (i:Inv X pins i7 H' s') (m:Mv X.K H G H' G') (r:RelV v u) (rd:cg X.K H' v d) (q:P d G'):SPr X pins H G P u s'
noncomputable def Tz(X:Cx)(pins:List (Addr×Obj))(H:Hp)(G:Gp)(D:kI)(f:Flow)(s':aw):Prop :=
 match f with
 | .next=>Wt X pins H G D.nx s'
 | .brk=>Wt X pins H G D.bk s'
 | .cont=>Wt X pins H G D.ct s'
 | .ret u=>SPr X pins H G D.rt u s'
noncomputable def fZ(X:Cx)(e:Expr)(t:fM):Prop :=
 ∀ (E:kS) (pins:List (Addr×Obj)) (s:aw) (σ:L2.St) (H:Hp) (τ:gY) (G:Gp) (Q:DK),Lk X E->I2 X pins σ H τ G s->t E τ G Q->wpAny (model X.prog X.w) X.A (eval e X.env) (se X pins σ H G Q) X.xe s
noncomputable def IX(X:Cx)(e:Expr)(t:vM):Prop :=
 ∀ (E:kS) (pins:List (Addr×Obj)) (s:aw) (σ:L2.St) (H:Hp) (τ:gY) (G:Gp) (Q:Bool->Gp->Prop),Lk X E->I2 X pins σ H τ G s->t E τ G Q->wpAny (model X.prog X.w) X.A (isTrue e X.env (eval e X.env)) (T7 X pins σ H G Q) X.xe s
noncomputable def Oj(X:Cx)(e:Expr)(t:vM):Prop :=
 ∀ (wh:Sem Value) (E:kS) (pins:List (Addr×Obj)) (s:aw) (σ:L2.St) (H:Hp) (τ:gY) (G:Gp) (Q:Bool->Gp->Prop),Lk X E->I2 X pins σ H τ G s->t E τ G Q->wpAny (model X.prog X.w) X.A (isTrue e X.env wh) (T7 X pins σ H G Q) X.xe s
noncomputable def IY(X:Cx)(es:List Expr)(t:GP):Prop :=
 ∀ (pos:Pos) (E:kS) (pins:List (Addr×Obj)) (s:aw) (σ:L2.St) (H:Hp) (τ:gY) (G:Gp) (Q:List D->Gp->Prop),Lk X E->I2 X pins σ H τ G s->t E τ G Q->wpAny (model X.prog X.w) X.A (spliced (oy pos (cC es X.env))) (AP2 X pins σ H G Q) X.xe s
noncomputable def GQ(X:Cx)(st:Stmt)(t:hV):Prop :=
 ∀ (E:kS) (pins:List (Addr×Obj)) (s:aw) (σ:L2.St) (H:Hp) (τ:gY) (G:Gp) (D:kI),Lk X E->I2 X pins σ H τ G s->t E D τ G->wpAny (model X.prog X.w) X.A (exec st X.env) (Tz X pins H G D) X.xe s
noncomputable def yy(X:Cx)(st:List Stmt)(t:hV):Prop :=
 ∀ (E:kS) (pins:List (Addr×Obj)) (s:aw) (σ:L2.St) (H:Hp) (τ:gY) (G:Gp) (D:kI),Lk X E->I2 X pins σ H τ G s->t E D τ G->wpAny (model X.prog X.w) X.A (execs st X.env) (Tz X pins H G D) X.xe s
theorem Tz.trans{X:Cx}{pins:List (Addr×Obj)}{H H1:Hp}{G G1:Gp}{D:kI}{f:Flow}{s':aw}(m:Mv X.K H G H1 G1)(h:Tz X pins H1 G1 D f s'):Tz X pins H G D f s':=by
 cases f with
 | next=>obtain⟨i7,H',oQ,G',I,m',q⟩:=h; exact⟨i7,H',oQ,G',I,m.trans m',q⟩
 | brk=>obtain⟨i7,H',oQ,G',I,m',q⟩:=h; exact⟨i7,H',oQ,G',I,m.trans m',q⟩
 | cont=>obtain⟨i7,H',oQ,G',I,m',q⟩:=h; exact⟨i7,H',oQ,G',I,m.trans m',q⟩
 | ret u=>obtain⟨v,i7,H',d,G',I,m',r,rd,q⟩:=h; exact⟨v,i7,H',d,G',I,m.trans m',r,rd,q⟩
section
variable {X:Cx} {a b c:Expr} {ta tb tc:fM} {pos:Pos}
theorem je{pins:List (Addr×Obj)}{σ:L2.St}{H:Hp}{τ:gY}{G:Gp}{s:aw}{E:kS}{R:DK}{Q:Value->aw->Prop}(ha:fZ X a ta)(hE:Lk X E)(I:I2 X pins σ H τ G s)(h:ta E τ G R)
  (k:∀ v H1 d G1 u s1,I2 X pins σ H1 τ G1 s1->Mv X.K H G H1 G1->RelV v u->cg X.K H1 v d->R d G1->Q u s1):wpAny (model X.prog X.w) X.A (eval a X.env) Q X.xe s :=
 gc (ha E pins s σ H τ G R hE I h) (by rintro u s1 ⟨v,H1,d,G1,I1,m,r,rd,q⟩; exact k v H1 d G1 u s1 (I.mv I1 m) m r rd q)
theorem se.trans{pins:List (Addr×Obj)}{σ:L2.St}{H H1:Hp}{G G1:Gp}{Q:DK}{u:Value}{s':aw}(m:Mv X.K H G H1 G1)(h:se X pins σ H1 G1 Q u s'):se X pins σ H G Q u s':=by
 obtain⟨v,H',d,G',I,m',r,rd,q⟩:=h;exact⟨v,H',d,G',I,m.trans m',r,rd,q⟩
theorem T7.trans{pins:List (Addr×Obj)}{σ:L2.St}{H H1:Hp}{G G1:Gp}{Q:Bool->Gp->Prop}{u:Bool}{s':aw}(m:Mv X.K H G H1 G1)(h:T7 X pins σ H1 G1 Q u s'):T7 X pins σ H G Q u s':=by
 obtain⟨H',G',I,m',r⟩:=h;exact⟨H',G',I,m.trans m',r⟩
theorem Px {i:Nat} {x:Str} (hN:X.N[i]?=some x) (hv:Wr X.env.scope x) (hd:autoParam ((x == ("__debug__" : Str))=false) Ad._auto_1) (Iw:autoParam ((x == ("__classdict__" : Str))=false) Ad._auto_1):fZ X (.Name x pos) (ay i):=by
 intro E pins s σ H τ G Q hE I h;unfold ay at h;split at h
 ·rename_i d e;obtain⟨v,h1,h2⟩:=I.st.at' i d e;exact gc (Sq hN hv hd Iw pins s σ H (fun v' H'=>v'=v/\H'=H) I.inv ⟨v,h1,rfl,rfl⟩) fun u s1 Rj=>by
   obtain⟨v',H',I1,r,e1,e2⟩:=Rj;subst e1; subst e2;exact⟨_,_,d,G,I1,.refl I.ab,r,h2,h⟩
 ·exact h.elim
theorem uO{e:Expr}{v:V}{d:D}(h:PE X e (tC v))(r:∀ K H,cg K H v d):fZ X e (dC d):=by
 intro E pins s σ H τ G Q hE I hq;exact gc (h pins s σ H (fun v' H'=>v'=v/\H'=H) I.inv ⟨rfl,rfl⟩) fun u s1 Yd=>by
  obtain⟨v',H',I1,rr,e1,e2⟩:=Yd;subst e1; subst e2;exact⟨_,_,d,G,I1,.refl I.ab,rr,r _ _,hq⟩
theorem aM{i j}:fZ X (.Constant (.int i) j pos) (dC (.int i)):=uO Sr fun _ _=>.int i
noncomputable def oU(X:Cx)(f:Value->Value->Sem Value)(r:zo):Prop :=
 ∀ (pins:List (Addr×Obj)) (s:aw) (σ:L2.St) (H:Hp) (G:Gp) (x y:V) (dx dy:D) (v u:Value) (Q:DK),Inv X pins σ H s->kU X.K H G->RelV x v->RelV y u->cg X.K H x dx->cg X.K H y dy->r dx dy G Q ->
  wpAny (model X.prog X.w) X.A (f v u) (se X pins σ H G Q) X.xe s
noncomputable def VL(X:Cx)(f:Value->Sem Value)(r:D->Gp->DK->Prop):Prop :=
 ∀ (pins:List (Addr×Obj)) (s:aw) (σ:L2.St) (H:Hp) (G:Gp) (x:V) (dx:D) (v:Value) (Q:DK),Inv X pins σ H s->kU X.K H G->RelV x v->cg X.K H x dx->r dx G Q ->
  wpAny (model X.prog X.w) X.A (f v) (se X pins σ H G Q) X.xe s
noncomputable def qk(X:Cx)(f:Value)(r:List D->Gp->DK->Prop):Prop :=
 ∀ (pins:List (Addr×Obj)) (s:aw) (σ:L2.St) (H:Hp) (G:Gp) (xs:List V) (ds:List D) (us:List Value) (Q:DK),Inv X pins σ H s->kU X.K H G->Vals xs us->bh X.K H xs ds->r ds G Q ->
  wpAny (model X.prog X.w) X.A (call f us) (se X pins σ H G Q) X.xe s
noncomputable abbrev AG(K:ai)(H:Hp)(G:Gp)(Q:DK):VK:=fun v H'=>∃ d G',Mv K H G H' G'/\cg K H' v d/\Q d G'
theorem se.of{pins:List (Addr×Obj)}{σ:L2.St}{H:Hp}{G:Gp}{Q:DK}{u:Value}{s':aw}(h:EP X pins σ (AG X.K H G Q) u s'):se X pins σ H G Q u s':=by
 obtain⟨v,H',I,r,d,G',m,rd,q⟩:=h;exact⟨v,H',d,G',I,m,r,rd,q⟩
theorem Oh(ha:fZ X a ta)(hb:fZ X b tb){E:kS}{pins:List (Addr×Obj)}{s:aw}{σ:L2.St}{H:Hp}{τ:gY}{G:Gp}{R:D->D->Gp->Prop}(hE:Lk X E)(I:I2 X pins σ H τ G s)
  (h:ta E τ G fun x G1=>tb E τ G1 fun y G2=>R x y G2) {Q:Value->aw->Prop} {f:Value->Value->Sem Value}
  (hf:∀ v u s2 x y dx dy H2 G2,I2 X pins σ H2 τ G2 s2->Mv X.K H G H2 G2->RelV x v->RelV y u->cg X.K H2 x dx->cg X.K H2 y dy->R dx dy G2->wpAny (model X.prog X.w) X.A (f v u) Q X.xe s2) :
  wpAny (model X.prog X.w) X.A (eval a X.env) (fun v fm=>wpAny (model X.prog X.w) X.A (eval b X.env) (fun u Cz=>wpAny (model X.prog X.w) X.A (f v u) Q X.xe Cz) X.xe fm) X.xe s:=by
 refine je ha hE I h fun x H1 dx G1 v s1 I1 m1 r1 iV q1=>?_;refine je hb hE I1 q1 fun y H2 dy G2 u s2 lX m2 r2 xh q2=>?_;exact hf v u s2 x y dx dy H2 G2 lX (m1.trans m2) r1 r2 (iV.mono (m2.kp I1.ab)) xh q2
theorem cu{op:Operator}{r:zo}(ho:oU X (iA op) r)(ha:fZ X a ta)(hb:fZ X b tb):fZ X (.BinOp a op b pos) (bE r ta tb):=by
 intro E pins s σ H τ G Q hE I h;exact wpAny_BinOp (Oh ha hb hE I h fun v u s2 x y dx dy H2 G2 lX m rx ry dX dY q=>gc (ho pins s2 σ H2 G2 x y dx dy v u Q lX.inv lX.ab rx ry dX dY q) fun _ _ z=>z.trans m)
theorem A7{op:UnaryOp}{r:D->Gp->DK->Prop}(ho:VL X (unaryOp op) r)(ha:fZ X a ta):fZ X (.UnaryOp op a pos) (Lb r ta):=by
 intro E pins s σ H τ G Q hE I h;exact UnaryOp_ (je ha hE I h fun x H1 dx G1 v s1 I1 m1 r1 iV q1=>gc (ho pins s1 σ H1 G1 x dx v Q I1.inv I1.ab r1 iV q1) fun _ _ z=>z.trans m1)
theorem PA{op:CmpOp}{r:zo}(ho:oU X (eW op) r)(ha:fZ X a ta)(hb:fZ X b tb)(hm:behindInMarks op b=false):fZ X (.Compare a [op] [b] pos) (bE r ta tb):=by
 intro E pins s σ H τ G Q hE I h;exact wpAny_Compare1 (Oh ha hb hE I h fun v u s2 x y dx dy H2 G2 lX m rx ry dX dY q=>gc (ho pins s2 σ H2 G2 x y dx dy v u Q lX.inv lX.ab rx ry dX dY q) fun _ _ z=>z.trans m) hm
end
end K2
end
section
namespace K2
open PySem PySem.Spec PyProof.Rows L2
theorem Uq{K:ai}{H:Hp}{G:Gp}{x:V}{d:D}{k:Bool}(ab:kU K H G)(r:cg K H x d)(e:ED d G=some k):(∃ p,x=.ref p/\Rd H p (.dT [])/\k=false)\/(∃ p kv,x=.ref p/\Rd H p (.dK kv)/\k=!kv.isEmpty)\/Tx K x H k:=by
 have NU:∀ kvs:List (D×D),(if (kvs.all fun p=>dZ p.1)=true then some (!kvs.isEmpty) else none)=some k->∀ p,((∃ kv,Rd H p (.dK kv)/\k9 K H kv kvs)\/∃ kv,Rd H p (.dT kv)/\kT K H kv kvs) ->
   (∃ p',V.ref p=.ref p'/\Rd H p' (.dT [])/\k=false)\/(∃ p' kv,V.ref p=.ref p'/\Rd H p' (.dK kv)/\k=!kv.isEmpty)\/Tx K (.ref p) H k:=by
  intro kvs e p z;by_cases ha:(kvs.all fun p=>dZ p.1)=true
  ·rw [if_pos ha] at e;cases e;rcases z with ⟨kv,hv,rs⟩ | ⟨kv,hv,rs⟩
   ·right; left;refine⟨p,kv,rfl,hv,?_⟩;cases rs <;> rfl
   ·left;cases rs with
    | nil=>exact⟨p,rfl,hv,rfl⟩
    | cons _ _=>simp [dZ] at ha
  ·rw [if_neg ha] at e; cases e
 cases r with
 | eh=>right; right; cases e; rfl
 | bl b=>right; right; cases e; rfl
 | int i=>right; right; cases e; rfl
 | str y =>
  right; right;unfold ED at e;dsimp only at e;by_cases h:y.length<=SZ
  ·rw [if_pos h] at e; cases e; exact⟨by rw [cQ]; exact h,rfl⟩
  ·rw [if_neg h] at e; cases e
 | tup h rs =>
  right; right;cases e;refine .inr (.inl ⟨_,.of h,?_⟩);cases rs <;> rfl
 | dJ h rs =>
  right; right;cases e;refine .inl ⟨_,h.sq,?_⟩;cases rs <;> rfl
 | oS h rs=>exact NU _ e _ (.inl ⟨_,.inr ⟨_,h⟩,rs⟩)
 | oR h rs=>exact NU _ e _ (.inr ⟨_,.inr ⟨_,h⟩,rs⟩)
 | exc h=>simp [ED] at e
 | EH h _=>simp [ED] at e
 | nG _ _ _ _=>simp [ED] at e
 | ref a =>
  unfold ED at e;dsimp only at e;cases q:G a with
  | none=>rw [q] at e; cases e
  | some g =>
   rw [q] at e;have z:=ab a g q;cases g with
   | lst ds =>
    right; right;obtain⟨vs,hv,rs⟩:=z;cases e;refine .inl ⟨vs,.of hv,?_⟩;cases rs <;> rfl
   | ins _ _=>cases e
   | qS _=>cases e
   | gu kvs =>
    refine NU kvs e a ?_;rcases z with ⟨kv,hv,rs⟩ | ⟨kv,hv,rs⟩
    ·exact .inl ⟨kv,.inl hv,rs⟩
    ·exact .inr ⟨kv,.inl hv,rs⟩
section
variable {X:Cx} {a b c:Expr} {ta tb tc:fM} {pos:Pos}
noncomputable def VM(X:Cx):Prop:=∀ (pins:List (Addr×Obj)) (s:aw) (σ:L2.St) (H:Hp) (G:Gp) (x:V) (d:D) (v:Value) (k:Bool) (Q:Bool->aw->Prop),Inv X pins σ H s->kU X.K H G->RelV x v->cg X.K H x d->ED d G=some k ->
  (∀ s',Inv X pins σ H s'->Q k s')->wpAny (model X.prog X.w) X.A (truthy v) Q X.xe s
theorem LF:VM X:=by
 intro pins s σ H G x d v k Q I ab rx rd e q;rcases Uq ab rd e with ⟨p,rfl,hv,hk⟩ | ⟨p,kv,rfl,hv,hk⟩ | h
 ·obtain⟨z,hS,xs,rel,o,es,ep,ho,hx,yP,hl,nd⟩:=hv.ok I.cD;have XY:xs=[]:=by cases rel; rfl
  subst XY;have he:es=#[]:=by simpa using hl
  subst he;cases rx;have dd:s.heap.DictOf (cK X.prog X.w) p []:=⟨o,#[],ep,ho,hx,yP,(fun _ h=>by simp at h),.nil,cE⟩;refine EJ hS dd (by simp) ?_;subst hk;exact q _ (I.tok _)
 ·cases rx;subst hk;exact Qi I hv q
 ·exact gc (RQ pins s σ H x v (fun k' H'=>k'=k/\H'=H) I rx ⟨k,h,rfl,rfl⟩) fun k' s' Rj=>by
   obtain⟨H',I',e1,e2⟩:=Rj;subst e1; subst e2; exact q s' I'
theorem jL(ha:fZ X a ta)(he:autoParam (∀ whole,isTrue a X.env whole=(do let v ← whole; standAt a.pos; Ll [v] (truthy v))) Ai._auto_1):IX X a (jy ta):=by
 intro E pins s σ H τ G Q hE I h;refine isTrue_plain (je ha hE I h fun x H1 d G1 v s1 I1 m1 r1 iV q1=>?_) (he _)
 try dsimp only at q1
 split at q1
 ·rename_i k e;exact LF pins s1 σ H1 G1 x d v k _ I1.inv I1.ab r1 iV e fun s' I'=>⟨H1,G1,I',m1,q1⟩
 ·exact q1.elim
theorem fH{op:CmpOp}{r:zo}(ho:oU X (eW op) r)(ha:fZ X a ta)(hb:fZ X b tb)(hm:behindInMarks op b=false):IX X (.Compare a [op] [b] pos) (jy (bE r ta tb)):=by
 intro E pins s σ H τ G Q hE I h;refine wpAny_isTrue_Compare1 (je ha hE I h fun x H1 dx G1 v s1 I1 m1 r1 iV q1=>je hb hE I1 q1 fun y H2 dy G2 u s2 lX m2 r2 xh q2 =>
  gc (ho pins s2 σ H2 G2 x y dx dy v u _ lX.inv lX.ab r1 r2 (iV.mono (m2.kp I1.ab)) xh q2) ?_) hm
 rintro c s3 ⟨z,H3,dz,G3,I3,m3,r3,W0,q3⟩
 try dsimp only at q3
 split at q3
 ·rename_i k e;exact LF pins s3 σ H3 G3 z dz c k _ I3 m3.ab r3 W0 e fun s' I'=>⟨H3,G3,I',(m1.trans m2).trans m3,q3⟩
 ·exact q3.elim
variable {tA tB:vM} {rest:List Expr}
theorem Oj.pt{e:Expr}{t:vM}(h:Oj X e t):IX X e t:=fun E pins s σ H τ G Q hE I q=>h _ E pins s σ H τ G Q hE I q
theorem Jm{pins:List (Addr×Obj)}{σ:L2.St}{H:Hp}{τ:gY}{G:Gp}{s:aw}{E:kS}{R:Bool->Gp->Prop}{Q:Bool->aw->Prop}(ha:IX X a tA)(hE:Lk X E)(I:I2 X pins σ H τ G s)(h:tA E τ G R)
  (k:∀ c H1 G1 s1,I2 X pins σ H1 τ G1 s1->Mv X.K H G H1 G1->R c G1->Q c s1):wpAny (model X.prog X.w) X.A (isTrue a X.env (eval a X.env)) Q X.xe s :=
 gc (ha E pins s σ H τ G R hE I h) (by rintro c s1 ⟨H1,G1,I1,m,q⟩; exact k c H1 G1 s1 (I.mv I1 m) m q)
theorem Mb(ha:IX X a tA):Oj X (.BoolOp .And [a] pos) tA:=by
 intro wh E pins s σ H τ G Q hE I h;refine isTrue_and (gc (ha E pins s σ H τ G Q hE I h) fun c s1 e=>?_);cases c with
 | true=>exact isTrue_and_nil e
 | false=>exact e
theorem HF(ha:IX X a tA):Oj X (.BoolOp .Or [a] pos) tA:=by
 intro wh E pins s σ H τ G Q hE I h;refine isTrue_or (gc (ha E pins s σ H τ G Q hE I h) fun c s1 e=>?_);cases c with
 | false=>exact isTrue_or_nil e
 | true=>exact e
theorem Pg(ha:IX X a tA)(hb:Oj X (.BoolOp .And (b :: rest) pos) tB):Oj X (.BoolOp .And (a :: b :: rest) pos) (GC tA tB):=by
 intro wh E pins s σ H τ G Q hE I h;refine isTrue_and (Jm ha hE I h fun c H1 G1 s1 I1 m1 q1=>?_);cases c with
 | true=>exact gc (hb wh E pins s1 σ H1 τ G1 Q hE I1 (by simpa using q1)) fun _ _ z=>z.trans m1
 | false=>exact⟨H1,G1,I1.inv,m1,by simpa using q1⟩
theorem xj(ha:IX X a tA)(hb:Oj X (.BoolOp .Or (b :: rest) pos) tB):Oj X (.BoolOp .Or (a :: b :: rest) pos) (Lc tA tB):=by
 intro wh E pins s σ H τ G Q hE I h;refine isTrue_or (Jm ha hE I h fun c H1 G1 s1 I1 m1 q1=>?_);cases c with
 | false=>exact gc (hb wh E pins s1 σ H1 τ G1 Q hE I1 (by simpa using q1)) fun _ _ z=>z.trans m1
 | true=>exact⟨H1,G1,I1.inv,m1,by simpa using q1⟩
theorem qo(ha:IX X a tA):IX X (.UnaryOp .Not a pos) (rW tA):=by
 intro E pins s σ H τ G Q hE I h;exact isTrue_not (gc (ha E pins s σ H τ G (fun c H1=>Q (!c) H1) hE I h) (by rintro c s' ⟨H',G',i,m,q⟩; exact⟨H',G',i,m,q⟩))
theorem Py{op}{t:fM}(h:fZ X a t):fZ X (.BoolOp op [a] pos) t:=fun E pins s σ H τ G Q hE I hw=>BoolOp_one (h E pins s σ H τ G Q hE I hw)
theorem PB(ha:fZ X a ta)(hb:fZ X (.BoolOp .And (b :: rest) pos) tb):fZ X (.BoolOp .And (a :: b :: rest) pos) (IM ta tb):=by
 intro E pins s σ H τ G Q hE I h;refine BoolOp_and (je ha hE I h fun x H1 d G1 v s1 I1 m1 r1 iV q1=>?_)
 try dsimp only at q1
 split at q1
 ·rename_i e;exact LF pins s1 σ H1 G1 x d v true _ I1.inv I1.ab r1 iV e fun s' I'=>gc (hb E pins s' σ H1 τ G1 Q hE ⟨I',I1.st,I1.ab⟩ q1) fun _ _ z=>z.trans m1
 ·rename_i e;exact LF pins s1 σ H1 G1 x d v false _ I1.inv I1.ab r1 iV e fun s' I'=>⟨x,H1,d,G1,I',m1,r1,iV,q1⟩
 ·exact q1.elim
theorem Pz(ha:fZ X a ta):fZ X (.UnaryOp .Not a pos) (N0 ta):=by
 intro E pins s σ H τ G Q hE I h;refine UnaryOp_ (je ha hE I h fun x H1 d G1 v s1 I1 m1 r1 iV q1=>?_)
 try dsimp only at q1
 split at q1
 ·rename_i k e;exact not_of (LF pins s1 σ H1 G1 x d v k _ I1.inv I1.ab r1 iV e fun s' I'=>⟨.bl (!k),H1,.bl (!k),G1,I',m1,rfl,.bl _,q1⟩)
 ·exact q1.elim
theorem Ss(hc:IX X c tA)(ha:fZ X a ta)(hb:fZ X b tb):fZ X (.IfExp c a b pos) (YY tA ta tb):=by
 intro E pins s σ H τ G Q hE I h;refine wpAny_IfExp (Jm hc hE I h fun d H1 G1 s1 I1 m1 q1=>?_);cases d with
 | true=>exact gc (ha E pins s1 σ H1 τ G1 Q hE I1 (by simpa using q1)) fun _ _ z=>z.trans m1
 | false=>exact gc (hb E pins s1 σ H1 τ G1 Q hE I1 (by simpa using q1)) fun _ _ z=>z.trans m1
variable {e:Expr} {es:List Expr} {te:fM} {t:GP}
theorem aG:IY X [] a8:=fun _ _ _ _ _ H _ G Q _ I h=>yV ⟨[],H,[],G,I.inv,.refl I.ab,.nil,.nil,h⟩
theorem ah(ha:fZ X e te)(hr:IY X es t)(hs:autoParam (cC (e :: es) X.env=(false,eval e X.env) :: cC es X.env) Ar._auto_1):IY X (e :: es) (av te t):=by
 intro pos E pins s σ H τ G Q hE I h;rw [hs];show wpAny _ _ (spliced ((false,eval e X.env) :: oy pos (cC es X.env))) _ _ s;refine oz (je ha hE I h fun x H1 d G1 u s1 I1 m1 r1 iV q1=>?_);exact gc (hr pos E pins s1 σ H1 τ G1 _ hE I1 q1) (by rintro us s2 ⟨xs,H2,ds,G2,lX,m2,r2,xh,q2⟩; exact⟨x :: xs,H2,d :: ds,G2,lX,m1.trans m2,.cons r1 r2,.cons (iV.mono (m2.kp I1.ab)) xh,q2⟩)
theorem Cw{pins:List (Addr×Obj)}{σ:L2.St}{H:Hp}{τ:gY}{G:Gp}{s:aw}{E:kS}{R:List D->Gp->Prop}{Q:List Value->aw->Prop}(ha:IY X es t)(pos:Pos)(hE:Lk X E)(I:I2 X pins σ H τ G s)(h:t E τ G R)
  (k:∀ vs H1 ds G1 us s1,I2 X pins σ H1 τ G1 s1->Mv X.K H G H1 G1->Vals vs us->bh X.K H1 vs ds->R ds G1->Q us s1):wpAny (model X.prog X.w) X.A (spliced (oy pos (cC es X.env))) Q X.xe s :=
 gc (ha pos E pins s σ H τ G R hE I h) (by rintro us s1 ⟨vs,H1,ds,G1,I1,m,r,rd,q⟩; exact k vs H1 ds G1 us s1 (I.mv I1 m) m r rd q)
theorem di{x1}(h:IY X es t):fZ X (.Tuple es x1 pos) (fQ t):=by
 intro E pins s σ H τ G Q hE I hq;refine wpAny_Tuple_spliced (Cw h pos hE I hq ?_);rintro xs H1 ds G1 us s1 I1 m1 r rd ⟨z,q⟩;refine⟨by rw [<-r.length,rd.length,cQ]; exact z,?_⟩;have hf:H1 s1.heap.objs.size=none:=I1.inv.cD.fresh (aF _);refine⟨.ref s1.heap.objs.size,upd H1 s1.heap.objs.size (.tup xs),.tup ds,G1,I1.inv.laid (t':=s1.toks) (fun b u e=>aK _ e) (aF _) ?_,m1.trans (.K8 I1.ab hf),rfl,?_,q⟩
 ·exact⟨by rw [rd.length,cQ]; exact z,us,r,⟨_,bt _ rfl,rfl,_,rfl⟩⟩
 ·exact .tup bY (rd.mono (.new hf))
theorem jv(h:IY X es t):fZ X (.List es pos) (kj t):=by
 intro E pins s σ H τ G Q hE I hq;refine wpAny_List_spliced (Cw h pos hE I hq ?_);rintro xs H1 ds G1 us s1 I1 m1 r rd ⟨z,q⟩;refine⟨by rw [<-r.length,rd.length,cQ]; exact z,?_⟩;have hf:H1 s1.heap.objs.size=none:=I1.inv.cD.fresh (aF _);refine⟨.ref s1.heap.objs.size,upd H1 s1.heap.objs.size (.lst xs),.ref _,eD G1 s1.heap.objs.size (.lst ds),I1.inv.laid (t':=s1.toks) (fun b u e=>aK _ e) (aF _) ?_,m1.trans (.FD I1.ab hf rd),rfl,.ref _,q _ (I1.ab.free hf)⟩;exact⟨by rw [rd.length,cQ]; exact z,us,0,r,bt _ rfl⟩
noncomputable def cR(K:ai)(sp:mR):Sp:=fun vs H Q _=>∃ ds G Q2,bh K H vs ds/\kU K H G/\sp ds G Q2 (fun _ _=>False)/\∀ d G' v H',Q2 d G'->Mv K H G H' G'->cg K H' v d->Q v H'
variable {k:Nat} {f:Addr} {fd:aI} {ps:List Str} {sp:mR} {x:Str} {p:Pos} {r:List D->Gp->DK->Prop} {id:String}
theorem Mo(F:fX X.prog X.w X.K X.mg X.base fY k f fd ps (cR X.K sp))(hr:lO k X.A)(hg:Gl X x)(hm:X.mg x=some (.ref f))(hk:kF X.K (.ref f)=true)(hb:Binds X.K fd ps [])
  (ha:IY X (e :: es) t) (Kd:autoParam ((x == ("__debug__" : Str))=false) Ad._auto_1) (he:autoParam (cC (e :: es) X.env=(false,eval e X.env) :: cC es X.env) Ar._auto_1) (FV:autoParam ((oy pos (cC es X.env)).any (·.1)=false) Ar._auto_1) :
  fZ X (.Call (.Name x p) (e :: es) [] pos) (fun E τ G Q=>bC (fun ds G1 Q1 _=>sp ds G1 Q1 fun _ _=>False) t E τ G Q):=by
 intro E pins s σ H τ G Q hE I h;refine lg (Bm I.inv hg hm ?_ Kd);refine PySem.W.callWith_K (h₀:=X.base) I.inv.ok.mod.Wb hk (Cw ha pos hE I h fun vs H1 ds G1 us s1 I1 m1 r rd q=>⟨I1.inv.Ij,?_⟩) he FV;refine gc (R9 F hr hb .nil UE I1.inv r (Q:=AG X.K H1 G1 Q) ?_) fun _ _ z=>(se.of z).trans m1;rw [cz];exact⟨ds,G1,Q,rd,I1.ab,q,fun d G' v H' q' m' TN=>⟨d,G',m',TN,q'⟩⟩
theorem i9 (hc:qk X (.builtin id) r) (hg:Gl X x) (hm:X.mg x=none) (hv:eB x=some (.builtin id)) (ha:IY X (e :: es) t) (hn:autoParam (x≠"__name__") Ad._auto_1) (Kd:autoParam ((x == ("__debug__" : Str))=false) Ad._auto_1)
  (he:autoParam (cC (e :: es) X.env=(false,eval e X.env) :: cC es X.env) Ar._auto_1) (FV:autoParam ((oy pos (cC es X.env)).any (·.1)=false) Ar._auto_1):fZ X (.Call (.Name x p) (e :: es) [] pos) (uy r t):=by
 intro E pins s σ H τ G Q hE I h;refine lg (pT I.inv hg hm hv ?_ hn Kd);exact uC (Cw ha pos hE I h fun vs H1 ds G1 us s1 I1 m1 r1 iV q1=>gc (hc pins s1 σ H1 G1 vs ds us Q I1.inv I1.ab r1 iV q1) fun _ _ z=>z.trans m1) he FV
variable {st:Stmt} {Zs:List Stmt} {u v:hV}
theorem gK:yy X [] fB:=fun _ _ _ σ H τ G _ _ I h=>wG ⟨σ,H,τ,G,I,.refl I.ab,h⟩
theorem aN(h1:GQ X st u)(h2:yy X Zs v):yy X (st :: Zs) (cN u v):=by
 intro E pins s σ H τ G D hE I h;refine wpAny_execs_cons (gc (h1 E pins s σ H τ G { D with nx:=v E D } hE I h) fun f s1 q=>?_);cases f with
 | next =>
  obtain⟨i7,H',oQ,G',I',m,q⟩:=q;exact gc (h2 E pins s1 i7 H' oQ G' D hE I' q) fun _ _ z=>z.trans m
 | ret v=>exact q
 | brk=>exact q
 | cont=>exact q
theorem aU(h1:GQ X st u):yy X [st] u:=by
 intro E pins s σ H τ G D hE I h;refine wpAny_execs_cons (gc (h1 E pins s σ H τ G D hE I h) fun f s1 q=>?_);cases f with
 | next=>exact wG q
 | ret v=>exact q
 | brk=>exact q
 | cont=>exact q
theorem cG(he:fZ X e te):GQ X (.Return (some e) pos) (c5 te):=by
 intro E pins s σ H τ G D hE I h;exact wpAny_Return_some (gc (he E pins s σ H τ G _ hE I h) (by rintro v s1 ⟨x,H1,d,G1,I1,m,r1,rd,q1⟩; exact⟨x,σ,H1,d,G1,I1,m,r1,rd,q1⟩))
theorem jM{sa sb:List Stmt}(hc:IX X c tA)(ha:yy X sa u)(hb:yy X sb v):GQ X (.If c sa sb pos) (jV tA u v):=by
 intro E pins s σ H τ G D hE I h;refine wpAny_If (Jm hc hE I h fun d H1 G1 s1 I1 m1 q1=>?_);cases d with
 | true=>exact gc (ha E pins s1 σ H1 τ G1 D hE I1 (by simpa using q1)) fun _ _ z=>z.trans m1
 | false=>exact gc (hb E pins s1 σ H1 τ G1 D hE I1 (by simpa using q1)) fun _ _ z=>z.trans m1
noncomputable def KD(X:Cx)(target:Expr)(t:yT):Prop :=
 ∀ (E:kS) (pins:List (Addr×Obj)) (s:aw) (σ:L2.St) (H:Hp) (τ:gY) (G:Gp) (w:V) (d:D) (u:Value) (Q:gY->Gp->Prop),Lk X E->I2 X pins σ H τ G s->RelV w u->cg X.K H w d->t E d τ G Q ->
  wpAny (model X.prog X.w) X.A (G5 target X.env u) (fun _ s'=>∃ i7 H' oQ G',I2 X pins i7 H' oQ G' s'/\Mv X.K H G H' G'/\Q oQ G') X.xe s
noncomputable def QE(X:Cx)(ts:List Expr)(t:BY):Prop :=
 ∀ (E:kS) (pins:List (Addr×Obj)) (s:aw) (σ:L2.St) (H:Hp) (τ:gY) (G:Gp) (ws:List V) (ds:List D) (us:List Value) (Q:gY->Gp->Prop),Lk X E->I2 X pins σ H τ G s->Vals ws us->bh X.K H ws ds->t E ds τ G Q ->
  wpAny (model X.prog X.w) X.A (assignInOrder ((yJ ts X.env).map (·.2)) us) (fun _ s'=>∃ i7 H' oQ G',I2 X pins i7 H' oQ G' s'/\Mv X.K H G H' G'/\Q oQ G') X.xe s
theorem Mj{i:Nat}{x:Str}(hN:X.N.Nodup)(hi:X.N[i]?=some x)(hx:Loc X.env.scope x)(hf:autoParam (X.fn x=true\/X.env.scope.names.lookup x=some .local) Ao._auto_1):KD X (.Name x pos) (aP i):=by
 intro E pins s σ H τ G w d u Q hE I r rd h;exact wpAny_assign_Name (CB I.inv hN hi hx r (fun s' I'=>⟨_,H,_,G,⟨I',I.st.set i rd,I.ab⟩,.refl I.ab,h⟩) hf)
theorem gL:QE X [] i6:=by
 intro E pins s σ H τ G ws ds us Q hE I r rd h;unfold i6 at h;split at h
 ·have e:=rd.zero;subst e;cases r;exact assignInOrder_nil ⟨σ,H,τ,G,I,.refl I.ab,h⟩
 ·exact h.elim
theorem cJ{t:yT}{u:BY}(h1:KD X e t)(h2:QE X es u)
  (hs:autoParam ((yJ (e :: es) X.env).map (·.2)=G5 e X.env :: (yJ es X.env).map (·.2)) Ar._auto_1):QE X (e :: es) (dF t u):=by
 intro E pins s σ H τ G ws ds us Q hE I r rd h;unfold dF at h;split at h
 ·cases rd with
  | cons iV xh =>
   cases r with
   | cons r1 r2 =>
    rw [hs];refine assignInOrder_cons (gc (h1 E pins s σ H τ G _ _ _ _ hE I r1 iV h) ?_);rintro _ s1 ⟨VU,H1,nO,G1,I1,m1,q1⟩;exact gc (h2 E pins s1 VU H1 nO G1 _ _ _ Q hE I1 r2 (xh.mono (m1.kp I.ab)) q1) (by rintro _ _ ⟨WK,H2,uH,G2,lX,m2,q2⟩; exact⟨WK,H2,uH,G2,lX,m1.trans m2,q2⟩)
 ·exact h.elim
theorem iX{k:Nat}{t:BY}{n:Nat}(hc:X.calm=true)(h:QE X es t)(hgl:∀ E ds τ G Q,t E ds τ G Q->ds.length=n)
  (hn:autoParam ((yJ es X.env).length=n) Ar._auto_1) (hst:autoParam ((yJ es X.env).findIdx? (·.1)=none) Ar._auto_1):KD X (.Tuple es k pos) (jf t):=by
 intro E pins s σ H τ G w d u Q hE I r rd hw;unfold jf at hw;split at hw
 ·cases rd with
  | tup hq rs =>
   cases r;obtain⟨bX,rv,ht,hz⟩:=I.inv.tuple (.of hq);refine assign_Tuple_tuple (I.inv.ok.hd hc) ht (by rw [hn,aX,<-rv.length,rs.length]; exact(hgl _ _ _ _ _ hw).symm) hst fun h' hx=>?_;have I1:Inv X pins σ H { s with heap:=h' }:=I.inv.kept (t':=s.toks) fun b o e=>hx b o (bL (aW e)) e;exact h E pins _ σ H τ G _ _ _ Q hE ⟨I1,I.st,I.ab⟩ (by simpa using rv) rs hw
 ·exact hw.elim
theorem gM:∀ E ds τ G Q,i6 E ds τ G Q->ds.length=0:=by
 intro E ds τ G Q h;cases ds with
 | nil=>rfl
 | cons _ _=>exact h.elim
theorem Kf{t:yT}{u:BY}{n:Nat}(h:∀ E ds τ G Q,u E ds τ G Q->ds.length=n)(hm:∀ E d τ G (Q Q':gY->Gp->Prop),t E d τ G Q->(∀ oQ G',Q oQ G'->Q' oQ G')->t E d τ G Q')(hx:∀ E d τ G,¬ t E d τ G fun _ _=>False) :
  ∀ E ds τ G Q,dF t u E ds τ G Q->ds.length=n+1:=by
 intro E ds τ G Q q;cases ds with
 | nil=>exact q.elim
 | cons d ds =>
  by_cases hl:ds.length=n
  ·rw [aj,hl]
  ·exact absurd (hm E d τ G _ (fun _ _=>False) q fun oQ G' z=>hl (h _ _ _ _ _ z)) (hx E d τ G)
theorem iW{tg:Expr}{g:yT}(he:fZ X e te)(hg:KD X tg g)(hs:autoParam (swapsWithSole [tg] e pos.line X.env=pure false) Ar._auto_1)(hw:autoParam (swappedStores [tg] e X.env=pure none) Ar._auto_1)
  (h1:autoParam ((yJ [tg] X.env).map (·.2)=[G5 tg X.env]) Ar._auto_1):GQ X (.Assign [tg] e pos) (bQ te g):=by
 intro E pins s σ H τ G D hE I h;refine wpAny_Assign_stores (je he hE I h fun x H1 d G1 v s1 I1 m1 r1 iV q1=>?_) hs hw;rw [h1];exact gc (hg E pins s1 σ H1 τ G1 x d v _ hE I1 r1 iV q1) (by rintro _ s2 ⟨WK,H2,uH,G2,lX,m2,q2⟩; exact⟨WK,H2,uH,G2,lX,m1.trans m2,q2⟩)
theorem Pj{i:Nat}{x:Str}{pos':Pos}(hN:X.N.Nodup)(hi:X.N[i]?=some x)(hx:Loc X.env.scope x)(he:fZ X e te)(hs:autoParam (Lh e (some (.Name x pos')) pos.line X.env=pure false) Ar._auto_1)(hf:autoParam (X.fn x=true\/X.env.scope.names.lookup x=some .local) Ao._auto_1) :
  GQ X (.Assign [.Name x pos'] e pos) (bQ te (aP i)):=by
 intro E pins s σ H τ G D hE I h;refine wpAny_Assign_Name (je he hE I h fun y H1 d G1 v s1 I1 m1 r1 iV q1=>?_) hs;exact CB I1.inv hN hi hx r1 (fun s2 lX=>⟨_,H1,_,G1,⟨lX,I1.st.set i iV,I1.ab⟩,m1,q1⟩) hf
theorem xm(he:fZ X e te)(hs:autoParam (Lh e none pos.line X.env=pure false) Ar._auto_1):GQ X (.Expr e pos) (nA te):=by
 intro E pins s σ H τ G D hE I h;exact wpAny_Expr_any (je he hE I h fun y H1 d G1 v s1 I1 m1 r1 iV q1=>⟨σ,H1,τ,G1,I1,m1,q1⟩) I.inv.quiet hs
end
end K2
end
section
namespace K2
open PySem PySem.Spec PyProof.Rows L2
noncomputable def RB(K:ai)(J:It)(H':Hp)(ds:List D)(ok:Gp->Prop):Prop :=
 ∀ i H1 G1,Kp H' H1->kU K H1 G1->ok G1->(∀ d,ds[i]?=some d->J.go i H1/\∀ x H2,J.Zl i H1 x H2->cg K H2 x d/\Mv K H1 G1 H2 G1)/\(ds.length<=i->J.stop i H1)
inductive KA (X:Cx) (pins:List (Addr×Obj)) (σ:L2.St) (tg:Expr) (H:Hp) (G:Gp) (R:List D->(Gp->Prop)->Gp->Prop) (Q8:Value) (s2:aw):Prop
 | mk (it:Addr) (fp:List Addr) (tn:Nat->Heap->Prop) (J:It) (H':Hp) (G':Gp) (ds:List D) (ok:Gp->Prop) (e:Q8=.ref it) (i:Inv X pins σ H' s2) (m:Mv X.K H G H' G') (T:Turn X.prog X.w X.K tg J fp it tn) (t0:tn 0 s2.heap) (f:∀ b∈fp,mM X pins H' b)
  (wk:RB X.K J H' ds ok) (q:R ds ok G'):KA X pins σ tg H G R Q8 s2
noncomputable def KC(X:Cx)(tg iter:Expr)(wi:Kx):Prop :=
 ∀ (E:kS) (pins:List (Addr×Obj)) (s:aw) (σ:L2.St) (H:Hp) (τ:gY) (G:Gp) (R:List D->(Gp->Prop)->Gp->Prop),Lk X E->I2 X pins σ H τ G s->wi E τ G R ->
  wpAny (model X.prog X.w) X.A (eval iter X.env) (fun v s1=>wpAny (model X.prog X.w) X.A (Li v) (KA X pins σ tg H G R) X.xe s1) X.xe s
section
variable {X:Cx} {tg:Expr} {a b:Expr} {ta tb:fM} {pos p:Pos}
theorem Ig{pins:List (Addr×Obj)}{σ:L2.St}{H H1:Hp}{G G1:Gp}{s1:aw}{l:Addr}{vs:List V}{ds:List D}{ok:Gp->Prop}{R:List D->(Gp->Prop)->Gp->Prop}(I1:Inv X pins σ H1 s1)(m:Mv X.K H G H1 G1)(hq:qg X.K H1 l vs)
  (hk:∀ H2 G2,Kp H1 H2->kU X.K H2 G2->ok G2->∃ ws,qg X.K H2 l ws/\bh X.K H2 ws ds) (q:R ds ok G1):wpAny (model X.prog X.w) X.A (Li (.ref l)) (KA X pins σ tg H G R) X.xe s1:=by
 obtain⟨bX,rv,pl,hz⟩:=I1.list hq;refine wpAny_pyIter_list pl.isList ?_;refine⟨s1.heap.objs.size,[s1.heap.objs.size],_,_,H1,G1,ds,ok,rfl,I1.kept (t':=s1.toks) fun b o e=>aK _ e,m,Ji l _,⟨_,bt _ rfl,rfl,rfl⟩,fun b hb=>?_,fun i H2 G2 k ab o=>?_,q⟩
 ·have e:b=s1.heap.objs.size:=by simpa using hb
  subst e;exact I1.Bv (aF _) (I1.cD.fresh (aF _))
 ·obtain⟨ws,hw,rd⟩:=hk H2 G2 k ab o;refine⟨fun d hd=>?_,fun hl=>⟨ws,hw,by rw [rd.length]; exact hl⟩⟩;obtain⟨v,hv,r⟩:=rd.get hd;refine⟨⟨ws,v,hw,hv⟩,?_⟩;rintro x H3 ⟨e,y⟩;subst e;have:=y ws hw;rw [hv] at this;cases this;exact⟨r,.refl ab⟩
theorem RP{pins:List (Addr×Obj)}{σ:L2.St}{H H1:Hp}{G G1:Gp}{s1:aw}{l:Addr}{vs:List V}{ds:List D}{R:List D->(Gp->Prop)->Gp->Prop}(I1:Inv X pins σ H1 s1)(m:Mv X.K H G H1 G1)(hq:wB X.K H1 l vs)(rd:bh X.K H1 vs ds)
  (q:R ds (fun _=>True) G1):wpAny (model X.prog X.w) X.A (Li (.ref l)) (KA X pins σ tg H G R) X.xe s1:=by
 obtain⟨bX,rv,pl,hz⟩:=I1.tuple hq;refine wpAny_pyIter_tuple (show s1.heap.IsTuple l bX.toArray from pl) ?_;refine⟨s1.heap.objs.size,[s1.heap.objs.size],_,_,H1,G1,ds,_,rfl,I1.kept (t':=s1.toks) fun b o e=>aK _ e,m,EZ l _,⟨_,bt _ rfl,rfl,rfl⟩,fun b hb=>?_,fun i H2 G2 k ab _=>?_,q⟩
 ·have e:b=s1.heap.objs.size:=by simpa using hb
  subst e;exact I1.Bv (aF _) (I1.cD.fresh (aF _))
 ·have hw:=k.sqT hq;have xh:=rd.mono k;refine⟨fun d hd=>?_,fun hl=>⟨vs,hw,by rw [rd.length]; exact hl⟩⟩;obtain⟨v,hv,r⟩:=xh.get hd;refine⟨⟨vs,v,hw,hv⟩,?_⟩;rintro x H3 ⟨e,y⟩;subst e;have:=y vs hw;rw [hv] at this;cases this;exact⟨r,.refl ab⟩
theorem gW(ha:fZ X a ta):KC X tg a (oT ta):=by
 intro E pins s σ H τ G R hE I h;refine je ha hE I h fun x H1 d G1 v s1 I1 m1 r1 iV q1=>?_;cases iV with
 | tup hq rs=>cases r1; exact RP I1.inv m1 (.of hq) rs q1
 | dJ hq rs=>cases r1; exact Ig I1.inv m1 hq.sq (fun H2 G2 k ab _=>⟨_,(k.TM hq).sq,rs.mono k⟩) q1
 | ref p =>
  cases r1;dsimp only at q1;split at q1
  ·rename_i ds e;obtain⟨vs,hv,rs⟩:=I1.ab.lst e;refine Ig I1.inv m1 (.of hv) (fun H2 G2 k ab o=>?_) q1;obtain⟨ws,hw,qO⟩:=ab.lst o;exact⟨ws,.of hw,qO⟩
  ·exact q1.elim
 | oS _ _=>exact q1.elim
 | oR _ _=>exact q1.elim
 | eh=>exact q1.elim
 | bl _=>exact q1.elim
 | int _=>exact q1.elim
 | str _=>exact q1.elim
 | exc _=>exact q1.elim
 | EH _ _=>exact q1.elim
 | nG _ _ _ _=>exact q1.elim
theorem L4{pins:List (Addr×Obj)}{σ:L2.St}{H H1:Hp}{G G1:Gp}{s:aw}{R:List D->(Gp->Prop)->Gp->Prop}{lo hi:Int}{t u v:Tok}{tk:Nat}(I:Inv X pins σ H1 s)(m:Mv X.K H G H1 G1)(h1:-(2 ^ 62)<=lo)(h2:lo < 2 ^ 62)(h3:-(2 ^ 62)<=hi)(h4:hi < 2 ^ 62)
  (q:R (fu lo (hi - lo).toNat) (fun _=>True) G1):wpAny (model X.prog X.w) X.A (Li (.ref s.heap.objs.size)) (KA X pins σ tg H G R) X.xe { s with heap:=s.heap.push { cls:=.type "range",data:=.fields #[.int lo t,.int hi u,.int 1 v] },toks:=tk }:=by
 refine gc (L8 (tg:=tg) I h1 h2 h3 h4 (R:=fun J H'=>J=Zh lo (hi - lo).toNat/\H'=H1) ⟨rfl,rfl⟩) ?_;rintro Q8 s2 ⟨it,fp,tn,J,H',e,lX,T,st,fo,eJ,eH⟩;subst eJ; subst eH;refine⟨it,fp,tn,_,H',G1,_,_,e,lX,m,T,st,fo,fun i H2 G2 k ab _=>⟨fun d hd=>?_,fun hl=>?_⟩,q⟩
 ·unfold fu at hd;rw [bA] at hd;cases Np:(ib (hi - lo).toNat)[i]? with
  | none=>rw [Np] at hd; cases hd
  | some j =>
   rw [Np] at hd;obtain⟨wo,ej⟩:=List.getElem?_eq_some_iff.mp Np;rw [zv] at wo;rw [oP] at ej;subst ej;cases hd;refine⟨wo,?_⟩;rintro x H3 ⟨e1,e2⟩;subst e1; subst e2;exact⟨.int _,.refl ab⟩
 ·unfold fu at hl;rw [aC,zv] at hl;exact hl
theorem rD (hg:Gl X "range") (hm:X.mg "range" = none) (ha:fZ X a ta) (hs:autoParam (cC [a] X.env=[(false,eval a X.env)]) Ar._auto_1):KC X tg (.Call (.Name "range" p) [a] [] pos) (DE ta):=by
 intro E pins s σ H τ G R hE I h;have hA:IY X [a] (av ta a8):=ah ha aG hs;refine Call_ (pT I.inv hg hm boot_range (fg (Cw hA pos hE I (R:=fun ds G1=>match ds with | [.int n]=>-(2 ^ 62)<=n/\n < 2 ^ 62/\R (fu 0 n.toNat) (fun _=>True) G1 | _=>False) ?_ fun vs H1 ds G1 us s1 I1 m1 r1 iV q1=>?_) hs rfl))
 ·show ta E τ G _;have e:(fun (x:D) (G1:Gp)=>match [x] with | [.int n]=>-(2 ^ 62)<=n/\n < 2 ^ 62/\R (fu 0 n.toNat) (fun _=>True) G1 | _=>False)=fun x G1=>match x with | .int n=>-(2 ^ 62)<=n/\n < 2 ^ 62/\R (fu 0 n.toNat) (fun _=>True) G1 | _=>False:=by
   funext x G1; cases x <;> rfl
  exact e ▸ h
 ·split at q1
  ·rename_i n;obtain⟨w,rfl,AZ⟩:=iV.one;cases AZ;obtain⟨u,rfl,ru⟩:=r1.one;obtain⟨t,rfl⟩:=ru;obtain⟨q1,q2,q⟩:=q1;exact call_range_1 (L4 I1.inv m1 (by lia) (by lia) q1 q2 (by simpa using q))
  ·exact q1.elim
theorem eG{iter:Expr}{body:List Stmt}{wi:Kx}{g:yT}{t:hV}(hp:PassesOwn (model X.prog X.w) X.A X.env X.xe)(hc:X.calm=true)(hi:KC X tg iter wi)(hg:KD X tg g)(hb:yy X body t)
  (hs:autoParam (∀ x,mz iter X.env x=pure x) Ai._auto_1):GQ X (.For tg iter body [] pos) (fR wi g t):=by
 intro E pins s σ H τ G D hE I h;refine wpAny_For (gc (hi E pins s σ H τ G _ hE I h) fun v s1 h1=>gc h1 fun Q8 s2 h2=>?_) hs;obtain⟨it,fp,tn,J,H2,G2,ds,ok,e,lX,m2,T,OH,f2,wk,q⟩:=h2;subst e;have RY:∀ {H':Hp},(∀ b∈fp,H' b=none)->∀ b∈fp,mM X pins H' b:=fun hn b hb=>⟨hn b hb,(f2 b hb).2⟩;refine codeAny_forLoop_any (fun n s'=>∃ i i7 H' oQ G',I2 X pins i7 H' oQ G' s'/\Mv X.K H G H' G'/\Kp H2 H'/\tn i s'.heap/\(∀ b∈fp,H' b=none)/\n=ds.length - i/\i<=ds.length/\oH g t ok (ds.drop i) E D oQ G') ?_ ds.length
  ⟨0,σ,H2,τ,G2,I.mv lX m2,m2,.refl _,OH,fun b hb=>(f2 b hb).1,rfl,cB _,q⟩
 rintro n s3 ⟨i,OV,H3,RG,G3,I3,m3,k3,VZ,fr3,rfl,hle,w3⟩;by_cases wo:i < ds.length
 ·rw [gw wo] at w3;obtain⟨TQ,w3⟩:=w3;obtain⟨go,yl⟩:=(wk i H3 G3 k3 I3.ab TQ).1 ds[i] (by simp [wo]);refine ji hp (gc (T.item X rfl rfl rfl hc i pins s3 OV H3 X.xe I3.inv (RY fr3) VZ go) ?_);rintro r s4 ⟨u,hr,h4⟩;subst hr;refine ji hp (gc h4 ?_);rintro _ s5 ⟨x,H5,I5,r5,y5,WT,fr5⟩;obtain⟨rd5,m5⟩:=yl x H5 y5;have I5':=I5.pinned (RY fr5) (T.obj _ _ WT);have J5:I2 X (pins++pO fp s5.heap) OV H5 RG G3 s5:=⟨I5',I3.st.mono (m5.kp I3.ab),m5.ab⟩;refine ji hp (gc (hg E _ s5 OV H5 RG G3 x ds[i] u _ hE J5 r5 rd5 w3) ?_);rintro _ s6 ⟨σ6,H6,τ6,G6,I6,m6,q6⟩;refine ji hp (gc (hb E _ s6 σ6 H6 τ6 G6 _ hE I6 q6) fun f s7 q7=>?_);have again:∀ {K1:L2.St} {H7:Hp} {K0:gY} {G7:Gp},I2 X (pins++pO fp s5.heap) K1 H7 K0 G7 s7->Mv X.K H6 G6 H7 G7->oH g t ok (ds.drop (i+1)) E D K0 G7 ->
    ∃ m,m < ds.length - i/\∃ i i7 H' oQ G',I2 X pins i7 H' oQ G' s7/\Mv X.K H G H' G'/\Kp H2 H'/\tn i s7.heap/\(∀ b∈fp,H' b=none)/\m=ds.length - i/\i<=ds.length/\oH g t ok (ds.drop i) E D oQ G':=fun {K1 H7 K0 G7} I7 m7 n7=>by
   have mm:=m5.trans (m6.trans m7);refine⟨ds.length - (i+1),by lia,i+1,K1,H7,K0,G7,⟨I7.inv.sE,I7.st,I7.ab⟩,m3.trans mm,k3.trans (mm.kp I3.ab),T.keep _ _ _ WT fun b hb o e=>(I7.inv.pin (b,o) (cY _ (cY _ (nY hb e)))).1,fun b hb=>?_,rfl,wo,n7⟩;obtain⟨o,e,d⟩:=T.obj _ _ WT b hb;exact(I7.inv.pin (b,o) (cY _ (cY _ (nY hb e)))).2.1
  cases f with
  | next=>obtain⟨K1,H7,K0,G7,I7,m7,n7⟩:=q7; exact again I7 m7 n7
  | cont=>obtain⟨K1,H7,K0,G7,I7,m7,n7⟩:=q7; exact again I7 m7 n7
  | brk=>obtain⟨K1,H7,K0,G7,I7,m7,q7⟩:=q7; exact⟨K1,H7,K0,G7,⟨I7.inv.sE,I7.st,I7.ab⟩,m3.trans (m5.trans (m6.trans m7)),q7⟩
  | ret v=>obtain⟨x7,K1,H7,d7,G7,I7,m7,r7,rd7,q7⟩:=q7; exact⟨x7,K1,H7,d7,G7,I7.sE,m3.trans (m5.trans (m6.trans m7)),r7,rd7,q7⟩
 ·have hn:ds.length<=i:=by lia
  rw [kL hn] at w3;obtain⟨TQ,qn⟩:=w3;have stop:=(wk i H3 G3 k3 I3.ab TQ).2 hn;refine ji hp (gc (T.done X rfl rfl rfl hc i pins s3 OV H3 X.xe I3.inv (RY fr3) VZ stop) ?_);rintro r s4 ⟨hr,I4⟩;subst hr;exact wG ⟨OV,H3,RG,G3,⟨I4,I3.st,I3.ab⟩,m3,qn⟩
theorem JF{c:Expr}{body:List Stmt}{tc:vM}{t:hV}(hp:PassesOwn (model X.prog X.w) X.A X.env X.xe)(hc:IX X c tc)(hb:yy X body t):GQ X (.While c body [] pos) (GA tc t):=by
 intro E pins s σ H τ G D hE I h;obtain⟨n0,w0⟩:=h;refine wpAny_While (codeAny_whileLoop (fun n s'=>∃ i7 H' oQ G',I2 X pins i7 H' oQ G' s'/\Mv X.K H G H' G'/\Cs tc t n E D oQ G') ?_ n0 ⟨σ,H,τ,G,I,.refl I.ab,w0⟩);rintro n s1 ⟨VU,H1,nO,G1,I1,m1,w1⟩;cases n with
 | zero=>exact w1.elim
 | succ n =>
  refine ji hp (Jm hc hE I1 w1 fun b H2 G2 s2 lX m2 q2=>?_);cases b with
  | true =>
   rw [if_pos rfl] at q2 ⊢;refine ji hp (gc (hb E pins s2 VU H2 nO G2 _ hE lX q2) fun f s3 q3=>?_);cases f with
   | next=>obtain⟨OV,H3,RG,G3,I3,m3,n3⟩:=q3; exact⟨n,Ci _,OV,H3,RG,G3,I3,m1.trans (m2.trans m3),n3⟩
   | cont=>obtain⟨OV,H3,RG,G3,I3,m3,n3⟩:=q3; exact⟨n,Ci _,OV,H3,RG,G3,I3,m1.trans (m2.trans m3),n3⟩
   | brk=>exact q3.trans (m1.trans m2)
   | ret v=>exact q3.trans (m1.trans m2)
  | false =>
   rw [if_neg iF] at q2 ⊢;exact wG ⟨VU,H2,nO,G2,lX,m1.trans m2,q2⟩
end
end K2
end
section
namespace K2
open PySem PySem.Spec PyProof.Rows L2
theorem AY(n d:Nat)(o:Option Int):HT.iU n d o=iU n d o:=by cases o <;> rfl
theorem bh.cut{K:ai}{H:Hp}{vs:List V}{ds:List D}(r:bh K H vs ds)(lo hi:Option Int):bh K H (Eb vs lo hi) (K2.cut ds lo hi):=by
 unfold Eb K2.cut;rw [AY,AY,r.length];exact(r.drop _).take _
theorem bh.uf{K:ai}{H:Hp}{vs:List V}{ds:List D}{i:Int}{d:D}(r:bh K H vs ds)(h:K2.uf ds i=some d):∃ v,L2.uf vs i=some v/\cg K H v d:=by
 unfold K2.uf at h;cases e:K2.Ip ds.length i with
 | none=>rw [e] at h; cases h
 | some j =>
  rw [e] at h;obtain⟨v,h1,h2⟩:=r.get (show ds[j]?=some d from h);refine⟨v,?_,h2⟩;show (L2.Ip vs.length i).bind _=_;have e':L2.Ip vs.length i=some j:=by rw [r.length]; exact e
  rw [e'];exact h1
section
variable {X:Cx} {a b c e:Expr} {ta tb tc te:fM} {pos p2:Pos}
theorem lN{pins:List (Addr×Obj)}{s:aw}{σ:L2.St}{H:Hp}{G:Gp}{x:V}{d:D}{v:Value}{zs:List D}(I:Inv X pins σ H s)(ab:kU X.K H G)(rx:RelV x v)(rd:cg X.K H x d)(hi:pR d G=some zs) :
  ∃ l vs bX,v=.ref l/\Vals vs bX/\bh X.K H vs zs/\s.heap.IsList l bX.toArray/\vs.length<=aZ:=by
 cases rd with
 | dJ hq rs =>
  cases hi;cases rx;obtain⟨bX,rv,pl,hz⟩:=I.list hq.sq;exact⟨_,_,bX,rfl,rv,rs,pl.isList,hz⟩
 | ref l =>
  unfold pR at hi;dsimp only at hi;cases hg:G l with
  | none=>rw [hg] at hi; cases hi
  | some gg =>
   rw [hg] at hi;cases gg with
   | lst ds =>
    cases hi;cases rx;obtain⟨vs,hv,rs⟩:=ab.lst hg;obtain⟨bX,rv,pl,hz⟩:=I.list (.of hv);exact⟨_,_,bX,rfl,rv,rs,pl.isList,hz⟩
   | ins _ _=>cases hi
   | qS _=>cases hi
   | gu _=>cases hi
 | _=>cases hi
theorem uT{pins:List (Addr×Obj)}{s:aw}{σ:L2.St}{H:Hp}(I:Inv X pins σ H s){m:Str->Option Value}(F0:Fr X.base X.env.locals s.heap m){h':Heap}(F:Fr X.base X.env.locals h' m)(N:News X.base X.env.locals h' (qI X.base s.heap X.env.locals)) :
  (∀ b o,b≠X.env.locals->s.heap.get? b=some o->h'.get? b=some o)/\∀ m',s.heap.Ns X.env.locals m'->h'.Ns X.env.locals m':=by
 refine⟨fun b o hb e=>?_,fun m' hm=>?_⟩
 ·cases q:X.base.get? b with
  | some u =>
   have:=I.bk b u q;rw [e] at this; cases this;exact F.keep b _ q
  | none=>exact(N (b,o) (vF hb q e)).1
 ·have e1:=hm.eq_nsMap;have e2:=F0.ns.eq_nsMap;rw [e1,<-e2]; exact F.ns
theorem k6{P:bJ}{w:World}{H:Hp}{h:Heap}{a:Addr}:∀ {o:HO},fA P w H h a o->∃ ob,h.get? a=some ob:=by
 intro o x;cases o with
 | lst _=>obtain⟨_,_,_,_,e⟩:=x; exact⟨_,e⟩
 | tup _=>obtain⟨_,_,_,ob,e,_⟩:=x; exact⟨ob,e⟩
 | dK _=>obtain⟨_,_,_,_,ob,_,_,e,_⟩:=x; exact⟨ob,e⟩
 | dT _=>obtain⟨_,_,_,_,ob,_,_,e,_⟩:=x; exact⟨ob,e⟩
 | set _ _=>obtain⟨ob,_,_,_,e,_⟩:=x; exact⟨ob,e⟩
 | ins _ _ _=>obtain⟨_,_,_,e,_⟩:=x; exact⟨_,e⟩
 | own _=>exact x
 | xd _=>obtain⟨_,⟨ob,_,_,e,_⟩,_⟩:=x; exact⟨ob,e⟩
 | met _ _=>exact⟨_,x⟩
 | Uw _ _=>obtain⟨_,_,_,e⟩:=x; exact⟨_,e⟩
 | jh _ _=>exact⟨_,x.1⟩
 | QM _=>obtain⟨_,e,_⟩:=x; exact⟨_,e⟩
 | ext _=>exact x.2.1
theorem IC{P:bJ}{w:World}{H:Hp}{h:Heap}{a:Addr}(ok:oJ P w H h)(e:h.get? a=none):H a=none:=by
 cases q:H a with
 | none=>rfl
 | some o =>
  obtain⟨ob,z⟩:=k6 (ok a o q);rw [e] at z; cases z
theorem Inv.Q4{pins:List (Addr×Obj)}{s:aw}{σ:L2.St}{H:Hp}(I:Inv X pins σ H s){h':Heap}{t':Nat}{a:Addr}{o:HO}(k:∀ b o,b≠X.env.locals->s.heap.get? b=some o->h'.get? b=some o)(ns:∀ m',s.heap.Ns X.env.locals m'->h'.Ns X.env.locals m')
  (hp:s.heap.get? a=none) (new:fA X.prog X.w (upd H a o) h' a o):Inv X pins σ (upd H a o) { s with heap:=h',toks:=t' }:=by
 have hn:H a=none:=IC I.cD hp;have ne:∀ b u,H b=some u->b≠a:=fun b u e=>dE e hn;have nL:∀ b u,H b=some u->b≠X.env.locals:=fun b u e=>dE e I.free;have ht:∀ b u,s.heap.get? b=some u->b≠a:=fun b u e z=>by subst z; rw [hp] at e; cases e
 have thL:∃ o',h'.get? X.env.locals=some o':=by
  obtain⟨m,hm,_⟩:=I.loc;obtain⟨o',_,_,ho,_⟩:=ns m hm;exact⟨o',ho⟩
 refine I.step (g':=s.gens) (d':=s.drawn) (ch:=[]) (fun b hb=>absurd hb (by simp)) (fun b o hL _ _ e _=>k b o hL e) (fun b o hL _ _ e _=>⟨o.slots,k b o hL e⟩) (fun b o _ e n=>by rw [bM (ht b o e)]; exact n)
  (fun b o _ e=>?_) (fun b xs e=>by rw [bM (ne _ _ e)]; exact e) (fun b o u e=>by rw [bM (ne _ _ e)]; exact e) (fun b ps e=>by rw [bM (ne _ _ e)]; exact e) (fun b ps e=>by rw [bM (ne _ _ e)]; exact e) ns (fun b u e=>?_) I.bare
 ·by_cases hb:b=X.env.locals
  ·rw [hb]; exact thL
  ·exact⟨o,k b o hb e⟩
 ·by_cases hb:b=a
  ·subst hb; rw [bY] at e; cases e; exact new
  ·rw [bM hb] at e;refine(I.cD b u e).lj (fun c v hc r=>k c v ?_ r) (fun c z=>by rw [bM (ne _ _ z)]; exact z) (fun c xs z=>by rw [bM (ne _ _ z)]; exact z);rcases hc with rfl | hc
   ·exact nL _ _ e
   ·exact nL _ _ hc
theorem dS:oU X (iA .Add) iN:=by
 intro pins s σ H G x y dx dy v u Q I ab rx ry dX dY q;have lists:GN dx dy G Q->wpAny (model X.prog X.w) X.A (iA .Add v u) (se X pins σ H G Q) X.xe s:=by
  intro q;unfold GN at q;split at q
  ·rename_i xs ys e1 e2;obtain⟨hz,q⟩:=q;obtain⟨l,vs,bX,rfl,rv,rs,hl,_⟩:=lN I ab rx dX e1;obtain⟨b,ws,uW,rfl,LZ,Hy,hb,_⟩:=lN I ab ry dY e2;obtain⟨m,F0⟩:=I.fr;have hsz:bX.length+uW.length<=aZ:=by rw [<-rv.length,<-LZ.length,rs.length,Hy.length,cQ]; exact hz
   refine PyProof.Rows.add_lists F0 Dg hl hb (fun h' F N=>?_) hsz;obtain⟨kk,ns⟩:=uT I F0 F fun p hp=>N p (aL _ hp);have hp:H s.heap.objs.size=none:=I.cD.fresh (aF _);refine⟨.ref s.heap.objs.size,upd H s.heap.objs.size (.lst (vs++ws)),.ref _,_,Inv.Q4 (t':=s.toks) I kk ns (OU (aF _)) ?_,.FD ab hp (rs.append Hy),rfl,.ref _,q _ (ab.free hp)⟩;exact⟨by rw [aB,rv.length,LZ.length]; exact hsz,bX++uW,0,rv.append LZ,(N _ cb).1⟩
  ·exact q.elim
 cases dX with
 | int i =>
  cases dY with
  | int j=>exact gc (SA pins s σ H _ _ v u (AG X.K H G Q) I rx ry ⟨i,j,rfl,rfl,_,_,.refl ab,.int _,q⟩) fun _ _ z=>.of z
  | _=>exact lists q
 | str i =>
  cases dY with
  | str j =>
   obtain⟨hz,q⟩:=q;exact gc (Fv pins s σ H _ _ v u (AG X.K H G Q) I rx ry ⟨i,j,rfl,rfl,by rw [cQ]; exact hz,_,_,.refl ab,.str _,q⟩) fun _ _ z=>.of z
  | _=>exact lists q
 | tup h1 r1 =>
  cases dY with
  | tup h2 r2 =>
   obtain⟨hn,hz,q⟩:=q;refine gc (PH pins s σ H _ _ v u (AG X.K H G Q) I rx ry ⟨_,_,_,_,rfl,rfl,.of h1,.of h2,?_,?_,fun e=>?_,fun e p hp=>?_⟩) fun _ _ z=>.of z
   ·rintro rfl; cases r1; exact hn rfl
   ·rw [r1.length,r2.length,cQ]; exact hz
   ·subst e;cases r2;rw [cz] at q;exact⟨_,_,.refl ab,.tup h1 r1,q⟩
   ·exact⟨_,_,.K8 ab hp,.tup bY ((r1.append r2).mono (.new hp)),q⟩
  | _=>exact lists q
 | ref l=>exact lists (by rw [mY] at q; exact q)
 | dJ _ _=>exact lists (by rw [mX] at q; exact q)
 | _=>exact lists (by cases dY <;> exact q)
theorem HS:oU X (iA .Sub) Pa:=by
 intro pins s σ H G x y dx dy v u Q I ab rx ry dX dY q;cases dX with
 | int i =>
  cases dY with
  | int j=>exact gc (Sw pins s σ H _ _ v u (AG X.K H G Q) I rx ry ⟨i,j,rfl,rfl,_,_,.refl ab,.int _,q⟩) fun _ _ z=>.of z
  | _=>exact bP q
 | _=>exact bP q
theorem tj:oU X (iA .Mult) Fi:=by
 intro pins s σ H G x y dx dy v u Q I ab rx ry dX dY q;cases dX with
 | int i =>
  cases dY with
  | int j=>exact gc (Sx pins s σ H _ _ v u (AG X.K H G Q) I rx ry ⟨i,j,rfl,rfl,q.1,_,_,.refl ab,.int _,q.2⟩) fun _ _ z=>.of z
  | _=>exact bP q
 | _=>exact bP q
theorem ij:oU X (iA .Mod) pL:=by
 intro pins s σ H G x y dx dy v u Q I ab rx ry dX dY q;cases dX with
 | int i =>
  cases dY with
  | int j=>exact gc (Sy pins s σ H _ _ v u (AG X.K H G Q) I rx ry ⟨i,j,rfl,rfl,q.1,_,_,.refl ab,.int _,q.2⟩) fun _ _ z=>.of z
  | _=>exact bP q
 | _=>exact bP q
theorem C6:oU X (iA .FloorDiv) HC:=by
 intro pins s σ H G x y dx dy v u Q I ab rx ry dX dY q;cases dX with
 | int i =>
  cases dY with
  | int j=>exact gc (PG pins s σ H _ _ v u (AG X.K H G Q) I rx ry ⟨i,j,rfl,rfl,⟨q.1,q.2.1⟩,_,_,.refl ab,.int _,q.2.2⟩) fun _ _ z=>.of z
  | _=>exact bP q
 | _=>exact bP q
theorem Mt(hu:X.A.units < cLine):oU X (eW .Lt) V1:=by
 intro pins s σ H G x y dx dy v u Q I ab rx ry dX dY q;cases dX with
 | int i =>
  cases dY with
  | int j=>exact gc (UG pins s σ H _ _ v u (AG X.K H G Q) I rx ry ⟨i,j,rfl,rfl,_,_,.refl ab,.bl _,q⟩) fun _ _ z=>.of z
  | _=>exact bP q
 | tup h1 r1 =>
  cases dY with
  | tup h2 r2 =>
   obtain⟨xs,ys,e1,e2,q⟩:=q;subst e1 e2;have z1:=r1.ints;have z2:=r2.ints;subst z1 z2;have el:∀ xs ys:List Int,HT.lexLt xs ys=K2.lexLt xs ys:=by
    intro xs;induction xs with
    | nil=>intro ys; cases ys <;> rfl
    | cons x xs ih=>intro ys; cases ys with
     | nil=>rfl
     | cons y ys=>unfold HT.lexLt K2.lexLt; rw [ih]
   exact gc (Sz hu pins s σ H _ _ v u (AG X.K H G Q) I rx ry ⟨_,_,xs,ys,rfl,rfl,.of h1,.of h2,_,_,.refl ab,.bl _,by rw [el]; exact q⟩) fun _ _ z=>.of z
  | _=>exact bP q
 | _=>exact bP q
mutual
noncomputable def pd:D->PyData
 | .eh=>.none
 | .bl b=>.bool b
 | .int i=>.int i
 | .str x=>.str x
 | .tup ds=>.tuple (lW ds)
 | .dJ ds=>.list (lW ds)
 | .jY _=>.none
 | .exc _=>.none
 | .EH _ _ _=>.none
 | .nG _=>.none
 | .ref _=>.none
noncomputable def lW:List D->List PyData
 | []=>[]
 | d :: r=>pd d :: lW r
end
mutual
theorem u6:∀ (s t:D),nr s=true->nr t=true->yK (pd s) (pd t)=hZ s t
 | .eh,t,_,ht=>by cases t <;> first | rfl | (exact bz (show false=true from ht))
 | .bl a,t,_,ht=>by cases t <;> first | rfl | (exact bz (show false=true from ht))
 | .int a,t,_,ht=>by cases t <;> first | rfl | (exact bz (show false=true from ht))
 | .str a,t,_,ht=>by cases t <;> first | rfl | (exact bz (show false=true from ht))
 | .tup a,t,hs,ht=>by
  cases t with
  | tup b=>exact BC a b hs ht
  | ref _=>exact bz (show false=true from ht)
  | exc _=>exact bz (show false=true from ht)
  | EH _ _ _=>exact bz (show false=true from ht)
  | nG _=>exact bz (show false=true from ht)
  | jY _=>exact bz (show false=true from ht)
  | _=>rfl
 | .dJ a,t,hs,ht=>by
  cases t with
  | dJ b=>exact BC a b hs ht
  | ref _=>exact bz (show false=true from ht)
  | exc _=>exact bz (show false=true from ht)
  | EH _ _ _=>exact bz (show false=true from ht)
  | nG _=>exact bz (show false=true from ht)
  | jY _=>exact bz (show false=true from ht)
  | _=>rfl
 | .ref _,_,hs,_=>bz (show false=true from hs)
 | .exc _,_,hs,_=>bz (show false=true from hs)
 | .EH _ _ _,_,hs,_=>bz (show false=true from hs)
 | .nG _,_,hs,_=>bz (show false=true from hs)
 | .jY _,_,hs,_=>bz (show false=true from hs)
theorem BC:∀ (s t:List D),pQ s=true->pQ t=true->PyData.eqvAll (lW s) (lW t)=ke s t
 | [],[],_,_=>rfl
 | [],_ :: _,_,_=>rfl
 | _ :: _,[],_,_=>rfl
 | a :: r,b :: t,hs,ht=>by
  have Rf:nr a=true/\pQ r=true:=(mF).mp hs;have ZW:nr b=true/\pQ t=true:=(mF).mp ht;show (yK (pd a) (pd b)&&PyData.eqvAll (lW r) (lW t))=(hZ a b&&ke r t);rw [u6 a b Rf.1 ZW.1,BC r t Rf.2 ZW.2]
end
mutual
theorem jQ:∀ (s:D),nr s=true->(pd s).canLay0=true
 | .eh,_=>rfl
 | .bl a,_=>rfl
 | .int a,_=>rfl
 | .str a,h=>h
 | .tup a,h=>wj a h
 | .dJ a,h=>wj a h
 | .exc _,_=>rfl
 | .EH _ _ _,_=>rfl
 | .nG _,_=>rfl
 | .ref _,_=>rfl
 | .jY _,_=>rfl
theorem wj:∀ (s:List D),pQ s=true->PyData.canLayAll0 (lW s)=true
 | [],_=>rfl
 | a :: r,h=>by
  have h':nr a=true/\pQ r=true:=(mF).mp h;show ((pd a).canLay0&&PyData.canLayAll0 (lW r))=true;rw [jQ a h'.1,wj r h'.2]; rfl
end
theorem BI{G:Gp}{n:Nat}{d t:D}(h:Sn G n d t):(pd t).depth<=n:=by
 induction h with
 | eh=>exact cB _
 | bl b=>exact cB _
 | int i=>exact cB _
 | str x h=>exact cB _
 | E3=>exact sg (cB _)
 | pA _ _ Nf Nd =>
  exact sg (Nat.max_le.mpr ⟨Nf,sC Nd⟩)
 | Jy=>exact sg (cB _)
 | zJ _ _ Nf Nd =>
  exact sg (Nat.max_le.mpr ⟨Nf,sC Nd⟩)
 | ref _ _ ih=>exact ih
theorem jK{pins:List (Addr×Obj)}{σ:L2.St}{H:Hp}{s:aw}{G:Gp}(I:Inv X pins σ H s)(ab:kU X.K H G){n:Nat}{d t:D}(h:Sn G n d t) :
  (∀ v u,cg X.K H v d->RelV v u->∃ as,Reads s.heap u (pd t) as) /\
  (∀ ds ss,(d=.dJ ds/\t=.dJ ss)\/(d=.tup ds/\t=.tup ss)->∀ vs us,bh X.K H vs ds->Vals vs us->∃ as,gI s.heap us (lW ss) as):=by
 have QK:∀ {ds ss:List D},(∀ vs us,bh X.K H vs ds->Vals vs us->∃ as,gI s.heap us (lW ss) as)->∀ v u,cg X.K H v (.tup ds)->RelV v u->∃ as,Reads s.heap u (pd (.tup ss)) as:=by
  intro ds ss k v u r ru;cases r with
  | tup hq rs =>
   cases ru;obtain⟨bX,rv,⟨o,ho,hc,n,hd⟩,hz⟩:=I.tuple (.of hq);obtain⟨as,ra⟩:=k _ bX rs rv;exact⟨as,.tuple ho hc hd (by simpa using ra)⟩
 have QQ:∀ {ds ss:List D},(∀ vs us,bh X.K H vs ds->Vals vs us->∃ as,gI s.heap us (lW ss) as)->∀ v u,cg X.K H v (.dJ ds)->RelV v u->∃ as,Reads s.heap u (pd (.dJ ss)) as:=by
  intro ds ss k v u r ru;cases r with
  | dJ hq rs =>
   cases ru;obtain⟨bX,rv,pl,hz⟩:=I.list hq.sq;obtain⟨o,ho,hc,n,hd⟩:=pl.isList;obtain⟨as,ra⟩:=k _ bX rs rv;exact⟨_,.list ho hc hd (by simpa using ra)⟩
 induction h with
 | eh=>exact⟨fun v u r ru=>by cases r; cases ru; exact⟨_,.none⟩,fun ds ss e=>by rcases e with ⟨e,_⟩ | ⟨e,_⟩ <;> cases e⟩
 | bl b=>exact⟨fun v u r ru=>by cases r; cases ru; exact⟨_,.bool b⟩,fun ds ss e=>by rcases e with ⟨e,_⟩ | ⟨e,_⟩ <;> cases e⟩
 | int i=>exact⟨fun v u r ru=>by cases r; obtain⟨t,rfl⟩:=ru; exact⟨_,.int i t⟩,fun ds ss e=>by rcases e with ⟨e,_⟩ | ⟨e,_⟩ <;> cases e⟩
 | str x hx=>exact⟨fun v u r ru=>by cases r; obtain⟨t,rfl⟩:=ru; exact⟨_,.str x t⟩,fun ds ss e=>by rcases e with ⟨e,_⟩ | ⟨e,_⟩ <;> cases e⟩
 | E3 =>
  have k:∀ vs us,bh X.K H vs []->Vals vs us->∃ as,gI s.heap us (lW []) as:=fun vs us r ru=>by
   have e:=r.zero;subst e;cases ru;exact⟨_,.nil⟩
  refine⟨QK k,fun ds ss e=>?_⟩;rcases e with ⟨e,_⟩ | ⟨e,e2⟩
  ·cases e
  ·cases e; cases e2; exact k
 | pA h1 h2 Nf Nd =>
  have k2:=Nd.2 _ _ (.inr ⟨rfl,rfl⟩);have k:∀ vs us,bh X.K H vs (_ :: _)->Vals vs us->∃ as,gI s.heap us (lW (_ :: _)) as:=fun vs us r ru=>by
   cases r with
   | cons r1 r2 =>
    cases ru with
    | cons u1 u2 =>
     obtain⟨as,ra⟩:=Nf.1 _ _ r1 u1;obtain⟨bs,rb⟩:=k2 _ _ r2 u2;exact⟨_,.cons ra rb⟩
  refine⟨QK k,fun ds ss e=>?_⟩;rcases e with ⟨e,_⟩ | ⟨e,e2⟩
  ·cases e
  ·cases e; cases e2; exact k
 | Jy =>
  have k:∀ vs us,bh X.K H vs []->Vals vs us->∃ as,gI s.heap us (lW []) as:=fun vs us r ru=>by
   have e:=r.zero;subst e;cases ru;exact⟨_,.nil⟩
  refine⟨QQ k,fun ds ss e=>?_⟩;rcases e with ⟨e,e2⟩ | ⟨e,_⟩
  ·cases e; cases e2; exact k
  ·cases e
 | zJ h1 h2 Nf Nd =>
  have k2:=Nd.2 _ _ (.inl ⟨rfl,rfl⟩);have k:∀ vs us,bh X.K H vs (_ :: _)->Vals vs us->∃ as,gI s.heap us (lW (_ :: _)) as:=fun vs us r ru=>by
   cases r with
   | cons r1 r2 =>
    cases ru with
    | cons u1 u2 =>
     obtain⟨as,ra⟩:=Nf.1 _ _ r1 u1;obtain⟨bs,rb⟩:=k2 _ _ r2 u2;exact⟨_,.cons ra rb⟩
  refine⟨QQ k,fun ds ss e=>?_⟩;rcases e with ⟨e,e2⟩ | ⟨e,_⟩
  ·cases e; cases e2; exact k
  ·cases e
 | ref hg h1 ih =>
  refine⟨fun v u r ru=>?_,fun ds ss e=>by rcases e with ⟨e,_⟩ | ⟨e,_⟩ <;> cases e⟩;cases r;cases ru;obtain⟨vs,hv,rs⟩:=ab.lst hg;obtain⟨bX,rv,pl,hz⟩:=I.list (.of hv);obtain⟨o,ho,hc,n,hd⟩:=pl.isList;obtain⟨as,ra⟩:=ih.2 _ _ (.inl ⟨rfl,rfl⟩) vs bX rs rv;exact⟨_,.list ho hc hd (by simpa using ra)⟩
theorem lB(hu:X.A.units+64 < cLine):oU X (eW .Eq) (HD false):=by
 intro pins s σ H G x y dx dy v u Q I ab rx ry dX dY q;obtain⟨a,b,sa,sb,q⟩:=q;obtain⟨as,ra⟩:=(jK I ab sa).1 x v dX rx;obtain⟨bs,rb⟩:=(jK I ab sb).1 y u dY ry;have d1:=BI sa;refine SeqAt.compareEq_reads ra rb (jQ _ sa.nr) (jQ _ sb.nr) (by unfold SN at d1; lia) ?_;rw [u6 _ _ sa.nr sb.nr];exact⟨.bl _,H,.bl _,G,I,.refl ab,rfl,.bl _,q⟩
theorem Ms(hu:X.A.units+64 < cLine):oU X (eW .NotEq) (HD true):=by
 intro pins s σ H G x y dx dy v u Q I ab rx ry dX dY q;obtain⟨a,b,sa,sb,q⟩:=q;obtain⟨as,ra⟩:=(jK I ab sa).1 x v dX rx;obtain⟨bs,rb⟩:=(jK I ab sb).1 y u dY ry;have d1:=BI sa;refine SeqAt.compareNe_reads ra rb (jQ _ sa.nr) (jQ _ sb.nr) (by unfold SN at d1; lia) ?_;rw [u6 _ _ sa.nr sb.nr];exact⟨.bl _,H,.bl _,G,I,.refl ab,rfl,.bl _,q⟩
end
end K2
end
section
namespace K2
open PySem PySem.Spec PyProof.Rows L2
theorem tX(j k:Key):hZ (dP j) (dP k)=decide (j=k):=by
 cases j with
 | inl a=>cases k with
  | inl b=>rw [MT]; rfl
  | inr b=>exact(decide_eq_false (fun z=>nomatch z)).symm
 | inr a=>cases k with
  | inl b=>exact(decide_eq_false (fun z=>nomatch z)).symm
  | inr b=>rw [MS]; exact(OE a b)
theorem Am:∀ (js ks:List Key),ke (js.map dP) (ks.map dP)=decide (js=ks)
 | [],[]=>(decide_eq_true rfl).symm
 | [],_ :: _=>(decide_eq_false (fun z=>nomatch z)).symm
 | _ :: _,[]=>(decide_eq_false (fun z=>nomatch z)).symm
 | j :: js,k :: ks=>by
  show (hZ (dP j) (dP k)&&ke (js.map dP) (ks.map dP))=_;rw [tX,Am js ks,D3]
theorem pX(js ks:List Key):hZ (.tup (js.map dP)) (.tup (ks.map dP))=decide (js=ks):=by
 exact Am js ks
section
variable {K:ai} {H:Hp}
theorem tM{d:D}(h:dZ d=true):∃ k:Key,d=dP k:=by
 cases d with
 | int i=>exact⟨.inl i,rfl⟩
 | str x=>exact⟨.inr x,rfl⟩
 | _=>exact absurd h (by simp [dZ])
theorem Ih:∀ {ds:List D},ds.all dZ=true->∃ ks:List Key,ds=ks.map dP
 | [],_=>⟨[],rfl⟩
 | d :: r,h=>by
  rw [yO,aH] at h;obtain⟨k,rfl⟩:=tM h.1;obtain⟨ks,rfl⟩:=Ih h.2;exact⟨k :: ks,rfl⟩
theorem Ii{d:D}(h:jS d=true):∃ ks:List Key,d=.tup (ks.map dP):=by
 cases d with
 | tup ds=>obtain⟨ks,rfl⟩:=Ih (ds:=ds) h; exact⟨ks,rfl⟩
 | _=>exact absurd h (by simp [jS])
theorem sO{v:V}{k:Key}(r:cg K H v (dP k)):v=kV k:=by
 cases k with
 | inl i=>cases r; rfl
 | inr x=>cases r; rfl
theorem CL:∀ {vs:List V} {ks:List Key},bh K H vs (ks.map dP)->vs=ks.map kV
 | _,[],r=>r.zero
 | _,k :: ks,r=>by
  rw [ak] at r;cases r with
  | cons r1 r2=>rw [sO r1,CL r2]; rfl
theorem CM{v:V}{ks:List Key}(r:cg K H v (.tup (ks.map dP))):∃ b,v=.ref b/\H b=some (.tup (ks.map kV)):=by
 cases r with
 | tup h rs=>have e:=CL rs; subst e; exact⟨_,rfl,h⟩
theorem k9.look{kv:List (Key×V)}{kvs:List (D×D)}(r:k9 K H kv kvs)(k:Key):(∃ v d,kM kv k=some v/\K2.look kvs (dP k)=some d/\cg K H v d)\/(kM kv k=none/\K2.look kvs (dP k)=none):=by
 induction r using k9.ind with
 | nil=>exact .inr ⟨rfl,rfl⟩
 | @cons j v d r t rd rs ih =>
  by_cases e:j=k
  ·left;refine⟨v,d,ph (p:=(j,v)) e,?_,rd⟩;unfold K2.look;rw [cj (by show hZ (dP j) (dP k)=true; rw [tX]; exact decide_eq_true e)]; rfl
  ·have e1:kM ((j,v) :: r) k=kM r k:=pj (p:=(j,v)) e;have e2:K2.look ((dP j,d) :: t) (dP k)=K2.look t (dP k):=by
    unfold K2.look;rw [ck (by show ¬ hZ (dP j) (dP k)=true; rw [tX]; simpa using e)]
   rw [e1,e2];exact ih
theorem kT.look{kv:List (List Key×V)}{kvs:List (D×D)}(r:kT K H kv kvs)(k:List Key):(∃ v d,kM kv k=some v/\K2.look kvs (.tup (k.map dP))=some d/\cg K H v d)\/(kM kv k=none/\K2.look kvs (.tup (k.map dP))=none):=by
 induction r using kT.ind with
 | nil=>exact .inr ⟨rfl,rfl⟩
 | @cons j v d r t rd rs ih =>
  by_cases e:j=k
  ·left;refine⟨v,d,ph (p:=(j,v)) e,?_,rd⟩;unfold K2.look;rw [cj (by show hZ (.tup (j.map dP)) (.tup (k.map dP))=true; rw [pX]; exact decide_eq_true e)]; rfl
  ·have e1:kM ((j,v) :: r) k=kM r k:=pj (p:=(j,v)) e;have e2:K2.look ((.tup (j.map dP),d) :: t) (.tup (k.map dP))=K2.look t (.tup (k.map dP)):=by
    unfold K2.look;rw [ck (by show ¬ hZ (.tup (j.map dP)) (.tup (k.map dP))=true; rw [pX]; simpa using e)]
   rw [e1,e2];exact ih
theorem k9.any{kv:List (Key×V)}{kvs:List (D×D)}(r:k9 K H kv kvs)(k:Key):(kv.any fun p=>decide (p.1=k))=kvs.any fun p=>hZ p.1 (dP k):=by
 induction r using k9.ind with
 | nil=>rfl
 | @cons j v d r t rd rs ih=>simp only [kz]; rw [ih,tX]
theorem kT.any{kv:List (List Key×V)}{kvs:List (D×D)}(r:kT K H kv kvs)(k:List Key):(kv.any fun p=>decide (p.1=k))=kvs.any fun p=>hZ p.1 (.tup (k.map dP)):=by
 induction r using kT.ind with
 | nil=>rfl
 | @cons j v d r t rd rs ih=>simp only [kz]; rw [ih,pX]
theorem k9.put{kv:List (Key×V)}{kvs:List (D×D)}(r:k9 K H kv kvs)(k:Key){v:V}{d:D}(rd:cg K H v d):k9 K H (putK kv k v) (K2.put kvs (dP k) d):=by
 unfold putK K2.put;rw [r.any k];by_cases h:(kvs.any fun p=>hZ p.1 (dP k))=true
 ·rw [if_pos h,if_pos h];clear h;induction r using k9.ind with
  | nil=>exact .nil
  | @cons j w e r t re rs ih =>
   simp only [ak];rw [tX];by_cases e:j=k
   ·simp only [e,if_true,decide_true]; exact .cons rd ih
   ·simp only [e,if_false,decide_false,aq]; exact .cons re ih
 ·rw [if_neg h,if_neg h];clear h;induction r using k9.ind with
  | nil=>exact .cons rd .nil
  | cons re rs ih=>exact .cons re ih
theorem kT.put{kv:List (List Key×V)}{kvs:List (D×D)}(r:kT K H kv kvs)(k:List Key){v:V}{d:D}(rd:cg K H v d):kT K H (putK kv k v) (K2.put kvs (.tup (k.map dP)) d):=by
 unfold putK K2.put;rw [r.any k];by_cases h:(kvs.any fun p=>hZ p.1 (.tup (k.map dP)))=true
 ·rw [if_pos h,if_pos h];clear h;induction r using kT.ind with
  | nil=>exact .nil
  | @cons j w e r t re rs ih =>
   simp only [ak];rw [pX];by_cases e:j=k
   ·simp only [e,if_true,decide_true]; exact .cons rd ih
   ·simp only [e,if_false,decide_false,aq]; exact .cons re ih
 ·rw [if_neg h,if_neg h];clear h;induction r using kT.ind with
  | nil=>exact .cons rd .nil
  | cons re rs ih=>exact .cons re ih
end
theorem Kp.putD{H:Hp}{p:Addr}{o o':HO}(hp:H p=some o)(h:(∃ k,o=.dK k)\/∃ k,o=.dT k):Kp H (upd H p o') :=
 ⟨fun a ys e=>by rw [bM (by rintro rfl; rw [hp] at e; rcases h with ⟨_,rfl⟩ | ⟨_,rfl⟩ <;> cases e)]; exact e,fun a ob u e=>by rw [bM (by rintro rfl; rw [hp] at e; rcases h with ⟨_,rfl⟩ | ⟨_,rfl⟩ <;> cases e)]; exact e⟩
section
variable {X:Cx} {pins:List (Addr×Obj)} {σ:L2.St} {H:Hp} {s:aw} {G:Gp} {a:Addr} {kvs:List (D×D)} {k:D} {y:V}
theorem toT(I:Inv X pins σ H s)(e:H a=some (.dK [])):Inv X pins σ (upd H a (.dT [])) s:=by
 obtain⟨z,hd,vs,rel,dd⟩:=As I.cD e;have hv:vs=[]:=by cases rel; rfl
 subst hv;obtain⟨o,es,ep,ho,hx,yP,Z3,hl,nd⟩:=dd;have he:es=#[]:=by
  cases hq:es.toList with
  | nil=>simpa using hq
  | cons _ _=>rw [hq] at hl; cases hl
 subst he;exact I.write (h':=s.heap) (t':=s.toks) (x:=a) (e:=a) (by rw [e]; exact fF) (.inl rfl) (fun b u _ q=>q) ⟨o,ho⟩ ⟨cB _,hd,[],.nil,o,#[],ep,ho,hx,yP,rfl,cE⟩
theorem toK(I:Inv X pins σ H s)(e:H a=some (.dT [])):Inv X pins σ (upd H a (.dK [])) s:=by
 obtain⟨z,hd,xs,rel,o,es,ep,ho,hx,yP,hl,nd⟩:=I.cD a _ e;have hv:xs=[]:=by cases rel; rfl
 subst hv;have he:es=#[]:=by simpa using hl
 subst he;exact I.write (h':=s.heap) (t':=s.toks) (x:=a) (e:=a) (by rw [e]; exact fF) (.inl rfl) (fun b u _ q=>q) ⟨o,ho⟩ ⟨cB _,hd,[],.nil,o,#[],ep,ho,hx,yP,(fun _ h=>by simp at h),.nil,cE⟩
theorem Ib{o:HO}(ab:kU X.K H G)(hg:G a=some (.gu kvs))(k:Kp H (upd H a o))(ho:Jc X.K (upd H a o) a (.gu kvs)):Mv X.K H G (upd H a o) G:=by
 have m:=Mv.put ab hg k ho;have e:eD G a (.gu kvs)=G:=by
  funext b; unfold eD; split
  ·rename_i z; rw [z,hg]
  ·rfl
 rw [e] at m;exact m
theorem BH(I:Inv X pins σ H s)(ab:kU X.K H G)(hg:G a=some (.gu kvs))(hk:gF kvs k=true)(ry:cg X.K H y k) :
  ∃ H',Inv X pins σ H' s/\Mv X.K H G H' G/\((∃ (kv:List (Key×V)) (kk:Key),H' a=some (.dK kv)/\k9 X.K H' kv kvs/\k=dP kk/\y=kV kk)\/∃ (kv:List (List Key×V)) (kk:List Key) (b:Addr),H' a=some (.dT kv)/\kT X.K H' kv kvs/\k=.tup (kk.map dP)/\y=.ref b/\H' b=some (.tup (kk.map kV))):=by
 unfold gF at hk;rw [nF,aH,aH] at hk;rcases hk with ⟨h1,h2⟩ | ⟨h1,h2⟩
 ·obtain⟨kk,rfl⟩:=tM h1;have ey:=sO ry;subst ey;rcases ab a _ hg with ⟨kv,hv,rs⟩ | ⟨kv,hv,rs⟩
  ·exact⟨H,I,.refl ab,.inl ⟨kv,kk,hv,rs,rfl,rfl⟩⟩
  ·cases rs with
   | nil =>
    refine⟨_,toK I hv,Ib ab hg (.putD hv (.inr ⟨_,rfl⟩)) (.inl ⟨[],bY,.nil⟩),.inl ⟨[],kk,bY,.nil,rfl,rfl⟩⟩
   | cons _ _=>simp [dZ] at h2
 ·obtain⟨kk,rfl⟩:=Ii h1;obtain⟨b,rfl,hb⟩:=CM ry;rcases ab a _ hg with ⟨kv,hv,rs⟩ | ⟨kv,hv,rs⟩
  ·cases rs with
   | nil =>
    have kp:Kp H (upd H a (.dT [])):=.putD hv (.inl ⟨_,rfl⟩);exact⟨_,toT I hv,Ib ab hg kp (.inr ⟨[],bY,.nil⟩),.inr ⟨[],kk,b,bY,.nil,rfl,rfl,kp.tup _ _ hb⟩⟩
   | @cons j _ _ _ _ _ _=>cases j <;> simp [dP,jS] at h2
  ·exact⟨H,I,.refl ab,.inr ⟨kv,kk,b,hv,rs,rfl,rfl,hb⟩⟩
theorem D1(I:Inv X pins σ H s)(ab:kU X.K H G)(hg:G a=some (.gu kvs))(hk:gF kvs k=true)(ry:cg X.K H y k) :
  ∃ H' o,Inv X pins σ H' s/\Mv X.K H G H' G/\yH H' a y o/\o.isSome=(look kvs k).isSome/\∀ d,look kvs k=some d->∃ v,o=some v/\cg X.K H' v d:=by
 obtain⟨H',I',m,h⟩:=BH I ab hg hk ry;rcases h with ⟨kv,kk,hv,rs,rfl,rfl⟩ | ⟨kv,kk,b,hv,rs,rfl,rfl,hb⟩
 ·refine⟨H',kM kv kk,I',m,.k hv,?_,fun d hd=>?_⟩
  ·rcases rs.look kk with ⟨v,d,e1,e2,_⟩ | ⟨e1,e2⟩ <;> rw [e1,e2] <;> rfl
  ·rcases rs.look kk with ⟨v,d',e1,e2,r⟩ | ⟨e1,e2⟩
   ·rw [e2] at hd; cases hd; exact⟨v,e1,r⟩
   ·rw [e2] at hd; cases hd
 ·refine⟨H',kM kv kk,I',m,.t hv hb,?_,fun d hd=>?_⟩
  ·rcases rs.look kk with ⟨v,d,e1,e2,_⟩ | ⟨e1,e2⟩ <;> rw [e1,e2] <;> rfl
  ·rcases rs.look kk with ⟨v,d',e1,e2,r⟩ | ⟨e1,e2⟩
   ·rw [e2] at hd; cases hd; exact⟨v,e1,r⟩
   ·rw [e2] at hd; cases hd
theorem A0{x:V}(I:Inv X pins σ H s)(rd:cg X.K H x (.jY kvs))(hk:gF kvs k=true)(ry:cg X.K H y k) :
  ∃ a o,x=.ref a/\(kvs=[]\/yH H a y o)/\o.isSome=(look kvs k).isSome/\∀ d,look kvs k=some d->∃ v,o=some v/\cg X.K H v d:=by
 unfold gF at hk;rw [nF,aH,aH] at hk;cases rd with
 | oS h rs =>
  rename_i a ob kv;rcases hk with ⟨h1,h2⟩ | ⟨h1,h2⟩
  ·obtain⟨kk,rfl⟩:=tM h1;have ey:=sO ry;subst ey;refine⟨a,kM kv kk,rfl,.inr (.inl ⟨kv,kk,.inr ⟨_,h⟩,rfl,rfl⟩),?_,fun d hd=>?_⟩
   ·rcases rs.look kk with ⟨v,d,e1,e2,_⟩ | ⟨e1,e2⟩ <;> rw [e1,e2] <;> rfl
   ·rcases rs.look kk with ⟨v,d',e1,e2,r⟩ | ⟨e1,e2⟩
    ·rw [e2] at hd; cases hd; exact⟨v,e1,r⟩
    ·rw [e2] at hd; cases hd
  ·cases rs with
   | nil=>exact⟨a,none,rfl,.inl rfl,rfl,fun d hd=>by cases hd⟩
   | cons _ _ =>
    rename_i kx _ _ _ _ _ _;rw [yO,aH] at h2;cases kx <;> exact absurd h2.1 (by simp [dP,jS])
 | oR h rs =>
  rename_i a ob kv;rcases hk with ⟨h1,h2⟩ | ⟨h1,h2⟩
  ·cases rs with
   | nil=>exact⟨a,none,rfl,.inl rfl,rfl,fun d hd=>by cases hd⟩
   | cons _ _ =>
    rw [yO,aH] at h2;exact absurd h2.1 (by simp [dZ])
  ·obtain⟨kk,rfl⟩:=Ii h1;obtain⟨b,rfl,hb⟩:=CM ry;refine⟨a,kM kv kk,rfl,.inr (.inr ⟨kv,kk,b,.inr ⟨_,h⟩,rfl,hb,rfl⟩),?_,fun d hd=>?_⟩
   ·rcases rs.look kk with ⟨v,d,e1,e2,_⟩ | ⟨e1,e2⟩ <;> rw [e1,e2] <;> rfl
   ·rcases rs.look kk with ⟨v,d',e1,e2,r⟩ | ⟨e1,e2⟩
    ·rw [e2] at hd; cases hd; exact⟨v,e1,r⟩
    ·rw [e2] at hd; cases hd
theorem NV{v:V}{d:D}(I:Inv X pins σ H s)(ab:kU X.K H G)(hg:G a=some (.gu kvs))(hk:gF kvs k=true)(hz:kvs.length < SZ)(ry:cg X.K H y k)(rv:cg X.K H v d) :
  ∃ H' H'',Inv X pins σ H' s/\KQ H' a y v H''/\Mv X.K H G H'' (eD G a (.gu (put kvs k d))):=by
 obtain⟨H',I',m,h⟩:=BH I ab hg hk ry;have Zw:=rv.mono (m.kp ab);have sz:aZ=16777216:=cQ;rcases h with ⟨kv,kk,hv,rs,rfl,rfl⟩ | ⟨kv,kk,b,hv,rs,rfl,rfl,hb⟩
 ·have kp:Kp H' (upd H' a (.dK (putK kv kk v))):=.putD hv (.inl ⟨_,rfl⟩);exact⟨H',_,I',.k hv (by rw [rs.length,sz]; exact hz),m.trans (.put m.ab hg kp (.inl ⟨_,bY,(rs.put kk Zw).mono kp⟩))⟩
 ·have kp:Kp H' (upd H' a (.dT (putK kv kk v))):=.putD hv (.inr ⟨_,rfl⟩);exact⟨H',_,I',.t hv hb (by rw [rs.length,sz]; exact hz),m.trans (.put m.ab hg kp (.inr ⟨_,bY,(rs.put kk Zw).mono kp⟩))⟩
end
end K2
end
section
namespace K2
open PySem PySem.Spec PyProof.Rows L2
section
variable {X:Cx} {a b c e:Expr} {es:List Expr} {ta tb tc te:fM} {t:GP} {pos p p2 apos jg:Pos} {x:Str}
theorem A9{k:Bool}{j}:fZ X (.Constant (.bool k) j pos) (dC (.bl k)):=uO UD fun _ _=>.bl k
theorem JG{st:Stmt}:GQ X st N1:=fun _ _ _ _ _ _ _ _ _ _ h=>h.elim
theorem vY:VL X (unaryOp .USub) JA:=by
 intro pins s σ H G x dx v Q I ab rx dX q;cases dX with
 | int i=>exact gc (RO pins s σ H _ v (AG X.K H G Q) I rx ⟨i,rfl,_,_,.refl ab,.int _,q⟩) fun _ _ z=>.of z
 | _=>exact bP q
theorem dO(hu:X.A.units+64 < cLine)(ha:fZ X a ta)(hb:fZ X b tb)(hs:QC b):fZ X (.Subscript a b pos) (bE lR ta tb):=by
 intro E pins s σ H τ G Q hE I h;refine Subscript_ (Oh ha hb hE I h fun v u s2 x y dx dy H2 G2 J m rx ry dX dY q=>?_);have fin:∀ {rb:R2},Zg X rb->rb x y H2 (AG X.K H2 G2 Q)->wpAny (model X.prog X.w) X.A (subscriptTail a b v u) (se X pins σ H G Q) X.xe s2:=fun hr hq =>
  gc (hr a b pins s2 σ H2 x y v u _ J.inv rx ry hq (hs _ _)) fun _ _ z=>(se.of z).trans m
 cases dX with
 | tup hq rs =>
  cases dY with
  | int i =>
   rw [gJ] at q;split at q
   ·rename_i d hd;obtain⟨w,hw,qO⟩:=rs.uf hd;exact fin SW ⟨_,_,i,w,rfl,rfl,.of hq,hw,d,G2,.refl J.ab,qO,q⟩
   ·exact q.elim
  | _=>exact bP q
 | dJ hq rs =>
  cases dY with
  | int i =>
   rw [iM] at q;split at q
   ·rename_i d hd;obtain⟨w,hw,qO⟩:=rs.uf hd;exact fin Im ⟨_,_,i,w,rfl,rfl,hq.sq,hw,d,G2,.refl J.ab,qO,q⟩
   ·exact q.elim
  | _=>exact bP q
 | oS h rs =>
  rw [v8] at q;obtain⟨hk,q⟩:=q;split at q
  ·rename_i d hd;obtain⟨a',o,ea,g,_,hv⟩:=A0 J.inv (.oS h rs) hk dY;obtain⟨w,rfl,qO⟩:=hv d hd;cases ea;rcases g with rfl | g
   ·cases hd
   ·cases rx;exact tail_any (pZ J.inv g) PySem.F.slot_dict_getitem.lookup (ve (by lia) J.inv g ry fun w' s3 I4 rv=>⟨w,H2,d,G2,I4,m,rv,qO,q⟩) (hs _ _)
  ·exact q.elim
 | oR h rs =>
  rw [v8] at q;obtain⟨hk,q⟩:=q;split at q
  ·rename_i d hd;obtain⟨a',o,ea,g,_,hv⟩:=A0 J.inv (.oR h rs) hk dY;obtain⟨w,rfl,qO⟩:=hv d hd;cases ea;rcases g with rfl | g
   ·cases hd
   ·cases rx;exact tail_any (pZ J.inv g) PySem.F.slot_dict_getitem.lookup (ve (by lia) J.inv g ry fun w' s3 I4 rv=>⟨w,H2,d,G2,I4,m,rv,qO,q⟩) (hs _ _)
  ·exact q.elim
 | ref l =>
  rw [HB] at q;split at q
  ·rename_i ds hl;obtain⟨vs,hv,rs⟩:=J.ab.lst hl;cases dY with
   | int i =>
    dsimp only at q;split at q
    ·rename_i d hd;obtain⟨w,hw,qO⟩:=rs.uf hd;exact fin Im ⟨_,_,i,w,rfl,rfl,.of hv,hw,d,G2,.refl J.ab,qO,q⟩
    ·exact q.elim
   | _=>exact bP q
  ·rename_i kvs hl;obtain⟨hk,q⟩:=q;split at q
   ·rename_i d hd;obtain⟨H3,o,I3,m3,g,_,hv⟩:=D1 J.inv J.ab hl hk dY;obtain⟨w,rfl,qO⟩:=hv d hd;cases rx;exact tail_any (pZ I3 g) PySem.F.slot_dict_getitem.lookup (ve (by lia) I3 g ry fun w' s3 I4 rv=>⟨w,H3,d,G2,I4,m.trans m3,rv,qO,q⟩) (hs _ _)
   ·exact q.elim
  ·exact q.elim
 | _=>exact bP q
noncomputable def Wu(X:Cx)(e:Option Expr)(t:VN):Prop :=
 ∀ (E:kS) (pins:List (Addr×Obj)) (s:aw) (σ:L2.St) (H:Hp) (τ:gY) (G:Gp) (Q:Option Int->Gp->Prop),Lk X E->I2 X pins σ H τ G s->t E τ G Q ->
  wpAny (model X.prog X.w) X.A (evalPart e X.env) (fun u s'=>∃ o H' G',Inv X pins σ H' s'/\Mv X.K H G H' G'/\IsPart u o/\Q o G') X.xe s
theorem nc:Wu X none gX:=by
 intro E pins s σ H τ G Q hE I h;rw [evalPart_none];exact aA ⟨none,H,G,I.inv,.refl I.ab,.none,h⟩
theorem kb(h:fZ X e te):Wu X (some e) (rm te):=by
 intro E pins s σ H τ G Q hE I hw;rw [evalPart_some];refine je h hE I hw fun x H1 d G1 u s1 I1 m1 r1 iV q1=>?_;cases iV with
 | int i =>
  obtain⟨t,rfl⟩:=r1;exact⟨some i,H1,G1,I1.inv,m1,.int i t,q1⟩
 | _=>exact bP q1
theorem jO{lo hi:Option Expr}{tl th:VN}(he:fZ X a ta)(hl:Wu X lo tl)(hu:Wu X hi th):fZ X (.Subscript a (.Slice lo hi none p2) pos) (EI ta tl th):=by
 intro E pins s σ H τ G Q hE I h;refine Subscript_ (je he hE I h fun x H1 d G1 v s1 I1 m1 r1 iV q1=>?_);refine wpAny_Slice (gc (hl E pins s1 σ H1 τ G1 _ hE I1 q1) ?_);rintro vl s2 ⟨l,H2,G2,lX,m2,pl,q2⟩;refine gc (hu E pins s2 σ H2 τ G2 _ hE (I1.mv lX m2) q2) ?_;rintro vu s3 ⟨r,H3,G3,I3,m3,pu,q3⟩;rw [evalPart_none];refine aA ?_;have ZL:=m2.trans m3;have mm:=m1.trans ZL;have I4:Inv X pins σ H3 { s3 with heap:=s3.heap.push { cls:=.type "slice",data:=.fields #[vl,vu,.none] } }:=I3.kept (t':=s3.toks) fun b ob q=>aK _ q;have W0:=iV.mono (ZL.kp I1.ab);have RA:=m3.ab;have key:∀ {rb:V->Option Int->Option Int->Hp->VK->Prop},Y9 X rb->rb x l r H3 (AG X.K H3 G3 Q)->wpAny (model X.prog X.w) X.A (subscriptTail a (.Slice lo hi none p2) v (.ref s3.heap.objs.size)) (se X pins σ H G Q) X.xe { s3 with heap:=s3.heap.push { cls:=.type "slice",data:=.fields #[vl,vu,.none] } }:=fun hr hq=>by
  obtain⟨T,id,hT,ht,hg⟩:=hr pins { s3 with heap:=s3.heap.push { cls:=.type "slice",data:=.fields #[vl,vu,.none] } } σ H3 x v vl vu l r s3.heap.objs.size _ I4 r1 (Heap.IsSliceOf.new ..) pl pu hq;exact gc (tail_any (ops:=[.ref s3.heap.objs.size,v]) ht hT hg (by with_unfolding_all rfl)) fun _ _ z=>(se.of z).trans mm
 cases W0 with
 | tup hq rs =>
  obtain⟨hw,q⟩:=q3;refine key R6 ⟨_,_,rfl,.of hq,?_,fun p hp=>⟨_,G3,.K8 RA hp,.tup bY ((rs.cut l r).mono (.new hp)),q⟩⟩;rw [AY,AY,rs.length];exact hw
 | dJ hq rs=>exact key Hv ⟨_,_,rfl,hq.sq,fun p hp=>⟨_,_,.FD RA hp (rs.cut l r),.ref _,q3 p (RA.free hp)⟩⟩
 | ref g =>
  rw [sV] at q3;split at q3
  ·rename_i ds hg;obtain⟨vs,hv,rs⟩:=RA.lst hg;exact key Hv ⟨_,_,rfl,.of hv,fun p hp=>⟨_,_,.FD RA hp (rs.cut l r),.ref _,q3 p (RA.free hp)⟩⟩
  ·exact q3.elim
 | _=>exact bP q3
theorem PC(ss:List D)(s:D)(h1:pQ ss=true)(h2:nr s=true):((lW ss).any fun y=>yK y (pd s))=ss.any (hZ · s):=by
 induction ss with
 | nil=>rfl
 | cons d r ih =>
  have h':nr d=true/\pQ r=true:=(mF).mp h1;show (yK (pd d) (pd s)||(lW r).any _)=_;rw [ih h'.2,u6 d s h'.1 h2]; rfl
theorem Qh{G:Gp}{n:Nat}{ds ss:List D}(h:Sn G (n+1) (.dJ ds) (.dJ ss)):cq (lW ss)<=n:=by
 exact sC (BI h)
theorem Bo(hu:X.A.units+64 < cLine)(neg:Bool){pins:List (Addr×Obj)}{s:aw}{σ:L2.St}{H:Hp}{G:Gp}{x y:V}{dx t:D}{ds ss:List D}{v u:Value}{Q:DK}(I:Inv X pins σ H s)(ab:kU X.K H G)(rx:RelV x v)(dX:cg X.K H x dx)
  (hy:(∃ l vs bX,u=.ref l/\Vals vs bX/\bh X.K H vs ds/\(s.heap.IsList l bX.toArray\/s.heap.IsTuple l bX.toArray))) (s1:Sn G SN dx t) (s2:Sn G SN (.dJ ds) (.dJ ss))
  (q:Q (.bl (if neg then !ss.any (hZ · t) else ss.any (hZ · t))) G):wpAny (model X.prog X.w) X.A (eW (if neg then .NotIn else .In) v u) (se X pins σ H G Q) X.xe s:=by
 obtain⟨l,vs,bX,rfl,rv,rs,hl⟩:=hy;obtain⟨as,ra⟩:=(jK I ab s1).1 x v dX rx;obtain⟨bs,rb⟩:=(jK I ab s2).2 ds ss (.inl ⟨rfl,rfl⟩) vs bX rs rv;have d2:=Qh (n:=7) s2;have n2:pQ ss=true:=s2.nr;have Dy:=wj _ n2;have e:=PC ss t n2 s1.nr;have FU:X.A.units+1+min (cq (lW ss)) (pd t).depth < cLine:=by lia
 have QT:gI s.heap bX.toArray.toList (lW ss) bs:=by simpa using rb
 have fin:∀ k:Bool,k=(if neg then !ss.any (hZ · t) else ss.any (hZ · t))->se X pins σ H G Q (.bool k) s:=fun k hk=>by subst hk; exact⟨.bl _,H,.bl _,G,I,.refl ab,rfl,.bl _,q⟩
 cases neg with
 | false =>
  rcases hl with hl | hl
  ·exact SeqAt.in_listAt _ hl (qW QT ra Dy (jQ _ s1.nr) FU) (by rw [o7 QT Dy,e]; exact fin _ rfl)
  ·exact SeqAt.in_tupleAt _ hl (qW QT ra Dy (jQ _ s1.nr) FU) (by rw [o7 QT Dy,e]; exact fin _ rfl)
 | true =>
  rcases hl with hl | hl
  ·exact SeqAt.notIn_listAt _ hl (qW QT ra Dy (jQ _ s1.nr) FU) (by rw [o7 QT Dy,e]; exact fin _ rfl)
  ·exact SeqAt.notIn_tupleAt _ hl (qW QT ra Dy (jQ _ s1.nr) FU) (by rw [o7 QT Dy,e]; exact fin _ rfl)
theorem Nc(hu:X.A.units+64 < cLine)(neg:Bool){pins:List (Addr×Obj)}{s:aw}{σ:L2.St}{H:Hp}{G:Gp}{x y:V}{dx:D}{kvs:List (D×D)}{v u:Value}{Q:DK}(I:Inv X pins σ H s)(ab:kU X.K H G)(rx:RelV x v)(ry:RelV y u)(dY:cg X.K H y (.jY kvs))(dX:cg X.K H x dx)
  (q:Pe neg dx (.jY kvs) G Q):wpAny (model X.prog X.w) X.A (eW (if neg then .NotIn else .In) v u) (se X pins σ H G Q) X.xe s:=by
 obtain⟨B8,hk,q⟩:=q;have go:∀ (a:Addr) (o:Option V),y=.ref a->yH H a x o->o.isSome=(look kvs dx).isSome->wpAny (model X.prog X.w) X.A (eW (if neg then .NotIn else .In) v u) (se X pins σ H G Q) X.xe s:=by
  intro a o ea g ho;subst ea;cases ry;cases neg with
  | false=>exact VC (by lia) I g rx fun s3 I4=>⟨.bl _,H,.bl _,G,I4,.refl ab,rfl,.bl _,by rw [ho]; exact q⟩
  | true=>exact IK (by lia) I g rx fun s3 I4=>⟨.bl _,H,.bl _,G,I4,.refl ab,rfl,.bl _,by rw [ho]; exact q⟩
 obtain⟨a,o,ea,g,ho,_⟩:=A0 I dY hk dX;rcases g with rfl | g
 ·exact absurd rfl B8
 ·exact go a o ea g ho
theorem PJ(hu:X.A.units+64 < cLine)(neg:Bool):oU X (eW (if neg then .NotIn else .In)) (Pe neg):=by
 intro pins s σ H G x y dx dy v u Q I ab rx ry dX dY q;cases dY with
 | tup hq rs =>
  obtain⟨t,ss,s1,s2,q⟩:=q;cases ry;obtain⟨bX,rv,pl,hz⟩:=I.tuple (.of hq);exact Bo hu neg (y:=x) I ab rx dX ⟨_,_,bX,rfl,rv,rs,.inr pl⟩ s1 s2 q
 | dJ hq rs =>
  obtain⟨t,ss,s1,s2,q⟩:=q;cases ry;obtain⟨bX,rv,pl,hz⟩:=I.list hq.sq;exact Bo hu neg (y:=x) I ab rx dX ⟨_,_,bX,rfl,rv,rs,.inl pl.isList⟩ s1 s2 q
 | oS h rs=>exact Nc hu neg I ab rx ry (.oS h rs) dX q
 | oR h rs=>exact Nc hu neg I ab rx ry (.oR h rs) dX q
 | ref l =>
  unfold Pe at q;dsimp only at q;split at q
  ·rename_i kvs hl;obtain⟨hk,q⟩:=q;obtain⟨H3,o,I3,m3,g,ho,_⟩:=D1 I ab hl hk dX;cases ry;cases neg with
   | false=>exact VC (by lia) I3 g rx fun s3 I4=>⟨.bl _,H3,.bl _,G,I4,m3,rfl,.bl _,by rw [ho]; exact q⟩
   | true=>exact IK (by lia) I3 g rx fun s3 I4=>⟨.bl _,H3,.bl _,G,I4,m3,rfl,.bl _,by rw [ho]; exact q⟩
  ·rename_i ds hl;obtain⟨t,ss,s1,s2,q⟩:=q;cases ry;obtain⟨vs,hv,rs⟩:=ab.lst hl;obtain⟨bX,rv,pl,hz⟩:=I.list (.of hv);exact Bo hu neg (y:=x) I ab rx dX ⟨_,_,bX,rfl,rv,rs,.inl pl.isList⟩ s1 s2 q
  ·exact q.elim
 | _=>exact bP q
theorem SD(hu:X.A.units+64 < cLine):oU X (eW .In) (Pe false):=PJ hu false
end
end K2
end
section
namespace K2
open PySem PySem.Spec PyProof.Rows L2
section
variable {X:Cx} {a b c e o:Expr} {es:List Expr} {ta tb tc te to:fM} {t:GP} {pos p p2 apos jg:Pos} {x name:Str} {id T:String}
theorem nB:qk X (.builtin "len") ue:=by
 intro pins s σ H G xs ds us Q I ab rx rd q;unfold ue at q;split at q
 ·rename_i x;obtain⟨v,rfl,r⟩:=rd.one;have O1:∀ (n:Nat),VQ X.K v H n->Q (.int (n:Int)) G->wpAny (model X.prog X.w) X.A (call (.builtin "len") us) (se X pins σ H G Q) X.xe s:=fun n hn hq =>
   gc (Ob pins s σ H [v] us (AG X.K H G Q) I rx ⟨v,n,rfl,hn,_,_,.refl ab,.int _,hq⟩) fun _ _ z=>.of z
  have sz:aZ=16777216:=cQ;cases r with
  | tup hq rs=>exact O1 _ (.inr ⟨_,.of hq,by rw [rs.length]⟩) q
  | dJ hq rs=>exact O1 _ (.inl ⟨_,hq.sq,by rw [rs.length]⟩) q
  | str y =>
   unfold lenOf at q;dsimp only at q;by_cases hz:y.length<=SZ
   ·rw [if_pos hz] at q; exact O1 _ ⟨by rw [sz]; exact hz,rfl⟩ q
   ·rw [if_neg hz] at q; exact q.elim
  | oS h rs =>
   rename_i l o kv kvs;obtain⟨u,rfl,ru⟩:=rx.one;cases ru;unfold lenOf at q;dsimp only at q;by_cases ha:(kvs.all fun p=>dZ p.1)=true
   ·rw [if_pos ha] at q;exact Rv I (.inr ⟨_,h⟩) fun t s' I'=>⟨.int kv.length,H,_,G,I',.refl ab,⟨t,rfl⟩,.int _,by rw [rs.length]; exact q⟩
   ·rw [if_neg ha] at q; exact q.elim
  | oR h rs =>
   rename_i l o kv kvs;obtain⟨u,rfl,ru⟩:=rx.one;cases ru;unfold lenOf at q;dsimp only at q;by_cases ha:(kvs.all fun p=>dZ p.1)=true
   ·rw [if_pos ha] at q;cases rs with
    | nil =>
     obtain⟨z,hS,xs,rel,ob,es,ep,ho,hx,yP,hl,nd⟩:=(I.cD l _ h).2;have XY:xs=[]:=by cases rel; rfl
     subst XY;have he:es=#[]:=by simpa using hl
     subst he;have dd:s.heap.DictOf (cK X.prog X.w) l []:=⟨ob,#[],ep,ho,hx,yP,(fun _ h=>by simp at h),.nil,cE⟩;refine call_len_dict hS dd (by simp) ?_;exact⟨.int 0,H,_,G,I.tok _,.refl ab,⟨_,rfl⟩,.int _,q⟩
    | cons _ _=>simp [dZ] at ha
   ·rw [if_neg ha] at q; exact q.elim
  | ref l =>
   unfold lenOf at q;dsimp only at q;cases hg:G l with
   | none=>rw [hg] at q; exact q.elim
   | some g =>
    rw [hg] at q;cases g with
    | lst ds =>
     obtain⟨vs,hv,rs⟩:=ab.lst hg;exact O1 _ (.inl ⟨_,.of hv,by rw [rs.length]⟩) q
    | ins _ _=>exact q.elim
    | qS _=>exact q.elim
    | gu kvs =>
     obtain⟨u,rfl,ru⟩:=rx.one;cases ru;dsimp only at q;by_cases ha:(kvs.all fun p=>dZ p.1)=true
     ·rw [if_pos ha] at q;rcases ab l _ hg with ⟨kv,hv,rs⟩ | ⟨kv,hv,rs⟩
      ·exact Rv I (.inl hv) fun t s' I'=>⟨.int kv.length,H,_,G,I',.refl ab,⟨t,rfl⟩,.int _,by rw [rs.length]; exact q⟩
      ·cases rs with
       | nil =>
        obtain⟨z,hd,vs,rel,dd⟩:=As (toK I hv).cD bY;have hvs:vs=[]:=by cases rel; rfl
        subst hvs;refine call_len_dict hd dd (by simp) ?_;exact⟨.int 0,H,_,G,I.tok _,.refl ab,⟨_,rfl⟩,.int _,q⟩
       | cons _ _=>simp [dZ] at ha
     ·rw [if_neg ha] at q; exact q.elim
  | _=>exact bP q
 ·exact q.elim
theorem GH:qk X (.type "list") vL:=by
 intro pins s σ H G xs ds us Q I ab rx rd q;unfold vL at q;split at q
 ·rename_i x;obtain⟨v,rfl,r⟩:=rd.one;have TL:∀ (l:Addr) (ys:List V) (zs:List D),v=.ref l->(qg X.K H l ys\/wB X.K H l ys)->bh X.K H ys zs->gv G (.lst zs) Q->wpAny (model X.prog X.w) X.A (call (.type "list") us) (se X pins σ H G Q) X.xe s:=fun l ys zs e h rs hq=>by
   subst e;exact gc (BO pins s σ H _ us (AG X.K H G Q) I rx ⟨l,ys,rfl,h,fun p hp=>⟨_,_,.FD ab hp rs,.ref _,hq p (ab.free hp)⟩⟩) fun _ _ z=>.of z
  cases r with
  | tup hq rs=>exact TL _ _ _ rfl (.inr (.of hq)) rs q
  | dJ hq rs=>exact TL _ _ _ rfl (.inl hq.sq) rs q
  | ref l =>
   unfold itemsOf at q;dsimp only at q;cases hg:G l with
   | none=>rw [hg] at q; exact q.elim
   | some g =>
    rw [hg] at q;cases g with
    | lst ds =>
     obtain⟨vs,hv,rs⟩:=ab.lst hg;exact TL _ _ _ rfl (.inl (.of hv)) rs q
    | ins _ _=>exact q.elim
    | qS _=>exact q.elim
    | gu kvs=>exact q.elim
  | _=>exact bP q
 ·exact q.elim
theorem rE {r:List D->Gp->DK->Prop} (hc:qk X (.type T) r) (hg:Gl X x) (hm:X.mg x=none) (hv:eB x=some (.type T)) (ha:IY X (e :: es) t) (hn:autoParam (x≠"__name__") Ad._auto_1) (Kd:autoParam ((x == ("__debug__" : Str))=false) Ad._auto_1)
  (he:autoParam (cC (e :: es) X.env=(false,eval e X.env) :: cC es X.env) Ar._auto_1) (FV:autoParam ((oy pos (cC es X.env)).any (·.1)=false) Ar._auto_1):fZ X (.Call (.Name x p) (e :: es) [] pos) (uy r t):=by
 intro E pins s σ H τ G Q hE I h;refine lg (pT I.inv hg hm hv ?_ hn Kd);exact fg (Cw ha pos hE I h fun vs H1 ds G1 us s1 I1 m1 r1 iV q1=>gc (hc pins s1 σ H1 G1 vs ds us Q I1.inv I1.ab r1 iV q1) fun _ _ z=>z.trans m1) he FV
theorem SQ (K:ai):∀ C∈["int","bool","list","tuple","dict","str"],∀ T∈["NoneType","bool","int","str","tuple","list","dict"],PySem.W.kitOne K (.type T) (.type C)=some (T == C||(T == "bool" && C == "int")):=by
 intro C hC T hT;simp only [aQ,cI,or_false] at hC hT;rcases hC with rfl | rfl | rfl | rfl | rfl | rfl <;> rcases hT with rfl | rfl | rfl | rfl | rfl | rfl | rfl <;> kernel_rfl
theorem M7 (C:String) (hC:C∈["int","bool","list","tuple","dict","str"]) {pins:List (Addr×Obj)} {s:aw} {σ:L2.St} {H:Hp} {G:Gp} {v:V} {d:D} {u:Value} {k:Bool} {Q:DK} (I:Inv X pins σ H s) (ab:kU X.K H G) (ru:RelV v u) (r:cg X.K H v d)
  (hk:Q9 C d G=some k) (q:Q (.bl k) G):wpAny (model X.prog X.w) X.A (call (.builtin "isinstance") [u,.type C]) (se X pins σ H G Q) X.xe s:=by
 have fin:∀ tk,se X pins σ H G Q (.bool k) { s with toks:=tk }:=fun tk=>⟨.bl k,H,.bl k,G,I.tok _,.refl ab,rfl,.bl k,q⟩;have hl:∀ T∈["NoneType","bool","int","str","tuple","list","dict"],k=(T == C||(T == "bool" && C == "int"))->PySem.W.kitOne X.K (.type T) (.type C)=some k:=fun T hT e=>by rw [SQ X.K C hC T hT,e]
 have tl:∀ {l:Addr} {o:Obj},s.heap.get? l=some o->o.cls=.type "list"->k=("list" == C||("list" == "bool" && C == "int"))->v=.ref l->wpAny (model X.prog X.w) X.A (call (.builtin "isinstance") [u,.type C]) (se X pins σ H G Q) X.xe s:=fun ho hc e ev=>by
  subst ev;cases ru;exact iB PySem.W.kitx_list I.Ij ⟨_,ho,hc⟩ (hl "list" (by decide) e) (fun z=>nomatch z) fin
 have td:∀ {l:Addr} {o:Obj},s.heap.get? l=some o->o.cls=.type "dict"->k=("dict" == C||("dict" == "bool" && C == "int"))->v=.ref l->wpAny (model X.prog X.w) X.A (call (.builtin "isinstance") [u,.type C]) (se X pins σ H G Q) X.xe s:=fun ho hc e ev=>by
  subst ev;cases ru;exact iB PySem.W.kitx_dict I.Ij ⟨_,ho,hc⟩ (hl "dict" (by decide) e) (fun z=>nomatch z) fin
 have mL:∀ P:String->Prop,(∀ C'∈["int","bool","list","tuple","dict","str"],P C')->P C:=fun P h=>h C hC;cases r with
 | eh =>
  cases ru;have e:k=("NoneType" == C||("NoneType" == "bool" && C == "int")):=by
   have:k=false:=(aY hk).symm;rw [this];exact mL (fun C=>false=("NoneType" == C||("NoneType" == "bool" && C == "int"))) (by decide)
  exact iB PySem.W.kitx_none I.Ij fF (hl _ (by decide) e) (fun z=>nomatch z) fin
 | bl y =>
  cases ru;have e:k=("bool" == C||("bool" == "bool" && C == "int")):=by
   have:k=(C == "bool" || C == "int"):=(aY hk).symm;rw [this];exact mL (fun C=>(C == "bool" || C == "int")=("bool" == C||("bool" == "bool" && C == "int"))) (by decide)
  exact iB PySem.W.kitx_bool I.Ij fF (hl _ (by decide) e) (fun z=>nomatch z) fin
 | int y =>
  obtain⟨t,rfl⟩:=ru;have e:k=("int" == C||("int" == "bool" && C == "int")):=by
   have:k=(C == "int"):=(aY hk).symm;rw [this];exact mL (fun C=>(C == "int")=("int" == C||("int" == "bool" && C == "int"))) (by decide)
  exact iB PySem.W.kitx_int I.Ij fF (hl _ (by decide) e) (fun z=>nomatch z) fin
 | str y =>
  obtain⟨t,rfl⟩:=ru;have e:k=("str" == C||("str" == "bool" && C == "int")):=by
   have:k=(C == "str"):=(aY hk).symm;rw [this];exact mL (fun C=>(C == "str")=("str" == C||("str" == "bool" && C == "int"))) (by decide)
  exact iB PySem.W.kitx_str I.Ij fF (hl _ (by decide) e) (fun z=>nomatch z) fin
 | tup hq rs =>
  cases ru;have e:k=("tuple" == C||("tuple" == "bool" && C == "int")):=by
   have:k=(C == "tuple"):=(aY hk).symm;rw [this];exact mL (fun C=>(C == "tuple")=("tuple" == C||("tuple" == "bool" && C == "int"))) (by decide)
  obtain⟨bX,rv,⟨o,h1,h2,_⟩,hz⟩:=I.tuple (.of hq);exact iB PySem.W.kitx_tuple I.Ij ⟨o,h1,h2⟩ (hl _ (by decide) e) (fun z=>nomatch z) fin
 | dJ hq rs =>
  obtain⟨bX,rv,pl,hz⟩:=I.list hq.sq;obtain⟨o,h1,h2,_⟩:=pl.isList;refine tl h1 h2 ?_ rfl;have:k=(C == "list"):=(aY hk).symm;rw [this];exact mL (fun C=>(C == "list")=("list" == C||("list" == "bool" && C == "int"))) (by decide)
 | oS h rs =>
  have e:k=("dict" == C||("dict" == "bool" && C == "int")):=by
   have:k=(C == "dict"):=(aY hk).symm;rw [this];exact mL (fun C=>(C == "dict")=("dict" == C||("dict" == "bool" && C == "int"))) (by decide)
  obtain⟨_,_,vs,_,ob,_,_,h1,h2,_⟩:=rj I.cD (.inr ⟨_,h⟩);exact td h1 h2.1 e rfl
 | oR h rs =>
  have e:k=("dict" == C||("dict" == "bool" && C == "int")):=by
   have:k=(C == "dict"):=(aY hk).symm;rw [this];exact mL (fun C=>(C == "dict")=("dict" == C||("dict" == "bool" && C == "int"))) (by decide)
  obtain⟨_,_,ys,_,ob,_,_,h1,h2,_⟩:=yf I.cD (.inr ⟨_,h⟩);exact td h1 h2.1 e rfl
 | exc h=>simp [Q9] at hk
 | EH h _=>simp [Q9] at hk
 | nG _ _ _ _=>simp [Q9] at hk
 | ref l =>
  unfold Q9 at hk;dsimp only at hk;cases hg:G l with
  | none=>rw [hg] at hk; cases hk
  | some g =>
   rw [hg] at hk;cases g with
   | lst ds =>
    obtain⟨vs,hv,rs⟩:=ab.lst hg;obtain⟨bX,rv,pl,hz⟩:=I.list (.of hv);obtain⟨o,h1,h2,_⟩:=pl.isList;refine tl h1 h2 ?_ rfl;have:k=(C == "list"):=(aY hk).symm;rw [this];exact mL (fun C=>(C == "list")=("list" == C||("list" == "bool" && C == "int"))) (by decide)
   | ins _ _=>cases hk
   | qS _=>cases hk
   | gu kvs =>
    have e:k=("dict" == C||("dict" == "bool" && C == "int")):=by
     have:k=(C == "dict"):=(aY hk).symm;rw [this];exact mL (fun C=>(C == "dict")=("dict" == C||("dict" == "bool" && C == "int"))) (by decide)
    rcases ab l _ hg with ⟨kv,hv,rs⟩ | ⟨kv,hv,rs⟩
    ·obtain⟨_,_,vs,_,ob,_,_,h1,h2,_⟩:=As I.cD hv;exact td h1 h2.1 e rfl
    ·obtain⟨_,_,ys,_,ob,_,_,h1,h2,_⟩:=NS I.cD hv;exact td h1 h2.1 e rfl
theorem A8 (C:String) (hC:C∈["int","bool","list","tuple","dict","str"]) {y:Str} {py:Pos} (hg:Gl X "isinstance") (hm:X.mg "isinstance" = none) (hgC:Gl X y) (hmC:X.mg y=none) (hvC:eB y=some (.type C)) (ha:fZ X a ta) (hn:autoParam (y≠"__name__") Ad._auto_1) (Kd:autoParam ((y == ("__debug__" : Str))=false) Ad._auto_1)
  (he:autoParam (cC [a,.Name y py] X.env=(false,eval a X.env) :: cC [.Name y py] X.env) Ar._auto_1) (FV:autoParam ((oy pos (cC [Expr.Name y py] X.env)).any (·.1)=false) Ar._auto_1) (Vn:autoParam (cC [.Name y py] X.env=[(false,eval (.Name y py) X.env)]) Ar._auto_1) :
  fZ X (.Call (.Name "isinstance" p) [a,.Name y py] [] pos) (N4 C ta):=by
 intro E pins s σ H τ G Q hE I h;refine lg (pT I.inv hg hm PyProof.Rows.boot_isinstance ?_);refine uC ?_ he FV;rw [he];show wpAny _ _ (spliced ((false,eval a X.env) :: oy pos (cC [.Name y py] X.env))) _ _ s;refine oz (je ha hE I h fun v H1 d G1 u s1 I1 m1 r1 iV q1=>?_);rw [Vn];show wpAny _ _ (spliced [(false,eval (.Name y py) X.env)]) _ _ s1;refine oz (pT I1.inv hgC hmC hvC (yV ?_) hn Kd)
 try dsimp only at q1
 split at q1
 ·rename_i k hk;exact gc (M7 C hC I1.inv I1.ab r1 iV hk q1) fun _ _ z=>z.trans m1
 ·exact q1.elim
end
end K2
end
section
namespace K2
open PySem PySem.Spec PyProof.Rows L2
section
variable {X:Cx} {a b c e o:Expr} {es:List Expr} {ta tb tc te to:fM} {t:GP} {pos p p2 apos jg:Pos} {x name:Str} {id T:String}
noncomputable def KO(X:Cx)(id:String)(r:D->List D->Gp->DK->Prop):Prop :=
 ∀ (pins:List (Addr×Obj)) (s:aw) (σ:L2.St) (H:Hp) (G:Gp) (x:V) (d:D) (xs:List V) (ds:List D) (v:Value) (us:List Value) (Q:DK),Inv X pins σ H s->kU X.K H G->RelV x v->cg X.K H x d->Vals xs us->bh X.K H xs ds->r d ds G Q ->
  wpAny (model X.prog X.w) X.A (call (.builtin id) (v :: us)) (se X pins σ H G Q) X.xe s
noncomputable def QA(X:Cx)(T:String)(ty:D->Gp->Prop):Prop:=∀ (pins:List (Addr×Obj)) (s:aw) (σ:L2.St) (H:Hp) (G:Gp) (x:V) (d:D) (v:Value),Inv X pins σ H s->kU X.K H G->RelV x v->cg X.K H x d->ty d G ->
  s.TypeIs v T/\∀ a,v=.ref a->∃ ob,s.heap.get? a=some ob/\ob.dict=none
theorem wU:QA X "list" K3:=by
 intro pins s σ H G x d v I ab r rd h;cases rd with
 | dJ hq rs=>exact AQ I r (.inl ⟨rfl,_,hq.sq⟩)
 | ref l =>
  unfold K3 at h;dsimp only at h;split at h
  ·rename_i ds hg;obtain⟨vs,hv,rs⟩:=ab.lst hg;exact AQ I r (.inl ⟨rfl,vs,.of hv⟩)
  ·exact h.elim
 | _=>exact bP h
theorem mS:QA X "dict" O2:=by
 intro pins s σ H G x d v I ab r rd h;cases rd with
 | oS q rs =>
  cases r;obtain⟨t1,t2,_⟩:=M8 I (.inl ⟨_,.inr ⟨_,q⟩⟩);exact⟨t1,t2⟩
 | oR q rs =>
  cases r;obtain⟨t1,t2,_⟩:=M8 I (.inr ⟨_,.inr ⟨_,q⟩⟩);exact⟨t1,t2⟩
 | ref l =>
  unfold O2 at h;dsimp only at h;split at h
  ·rename_i kvs hg;rcases ab l _ hg with ⟨kv,hv,rs⟩ | ⟨kv,hv,rs⟩
   ·exact AQ I r (.inr (.inr (.inl ⟨rfl,.inl ⟨kv,hv⟩⟩)))
   ·exact AQ I r (.inr (.inr (.inl ⟨rfl,.inr ⟨kv,hv⟩⟩)))
  ·exact h.elim
 | _=>exact bP h
theorem nV {ty:D->Gp->Prop} {r:D->List D->Gp->DK->Prop} (pa:PlainAttrs T) (slot:Slot T name id) (hty:typeOf (.builtin id)=pure (.type "method_descriptor")) (ht:QA X T ty) (hm:KO X id r) (ho:fZ X o to) (ha:IY X (e :: es) t)
  (xV:autoParam (oM o name X.env (eval o X.env)=eval o X.env) Ar._auto_1)
  (Yy:autoParam (((oy jg (cC (e :: es) X.env)).all (fun x=>!x.1)&&(backToKw jg (keywordEach [] X.env)).all (fun x=>x.1.isSome)
   && decide ((e :: es).length+([]:List Lq).length+(if ([]:List Lq).isEmpty then 0 else 1) < 30))=true) Ar._auto_1)
  (xU:autoParam ((apos.endLine == jg.line)=true) Ar._auto_1) (hs:autoParam (cC (e :: es) X.env=(false,eval e X.env) :: cC es X.env) Ar._auto_1) (SY:autoParam ((oy jg (cC es X.env)).any (·.1)=false) Ar._auto_1) :
  fZ X (.Call (.Attribute o name apos) (e :: es) [] jg) (yQ ty r to t):=by
 intro E pins s σ H τ G Q hE I h;refine wpAny_Call_method_late xV Yy xU rfl (je ho hE I h ?_);rintro x H1 d G1 v s1 I1 m1 r1 iV ⟨hy,q1⟩;obtain⟨h1,h2⟩:=ht pins s1 σ H1 G1 x d v I1.inv I1.ab r1 iV hy;refine⟨T,id,pa,slot,hty,h1,h2,?_⟩;have hA:=ha jg E pins s1 σ H1 τ G1 _ hE I1 q1;rw [hs] at hA ⊢;refine kG (by show (false||(oy jg (cC es X.env)).any (·.1))=false; rw [SY] <;> rfl) (Calls.evalArgs_plain ?_);exact gc hA (by rintro us s2 ⟨vs,H2,ds,G2,lX,m2,r2,xh,q2⟩; exact gc (hm pins s2 σ H2 G2 x d vs ds v us Q lX m2.ab r1 (iV.mono (m2.kp I1.ab)) r2 xh q2) fun _ _ z=>z.trans (m1.trans m2))
theorem xE:KO X "list.append" tx:=by
 intro pins s σ H G x d xs ds v us Q I ab rx rd OI CO q;unfold tx at q;split at q
 ·rename_i l d';cases rd;obtain⟨w,rfl,qO⟩:=CO.one;split at q
  ·rename_i zs hg;obtain⟨hz,q⟩:=q;obtain⟨vs,hv,rs⟩:=ab.lst hg;exact gc (zO pins s σ H _ _ v us (AG X.K H G Q) I rx OI ⟨l,vs,w,rfl,rfl,hv,by rw [rs.length,cQ]; exact hz,_,_,.putL ab hg hv (rs.append (.cons qO .nil)),.eh,q⟩) fun _ _ z=>.of z
  ·exact q.elim
 ·exact q.elim
theorem Gm(l:Addr)(xs:Array Value)(n:Nat)(b:Addr)(ys:Array Value)(n2:Nat)(dd:Option Addr)(sl:Array (Option Value))(Rk:¬(!xs.isEmpty&&i0 (xs.size+ys.size))=true)(hx:xs.size<=aZ)(TY:xs.size+ys.size<=aZ+1) :
  Meets (Builtin.«list.extend» ⟨[.ref l,.ref b],[]⟩) (fun _ R s=>s.heap.get? l=some { cls:=.type "list",dict:=none,data:=.seq xs n,slots:=#[] }/\s.heap.get? b=some { cls:=.type "list",dict:=dd,data:=.seq ys n2,slots:=sl }/\R (.ok (.ret fE)) { s with heap:=s.heap.update l (iu fun x=>x++ys),toks:=s.toks }) :=
 .of_wp fun prog w A R s h=>by
  obtain⟨hp,g,d,tk,os⟩:=s;obtain⟨h1,h2,h3⟩:=h;have e1:=AutoSeq1.idx_int;have e2:=oB;have e3:=EX;have e4:=AutoSeq1.sub_tuple_list;have e5:=AutoSeq1.sub_list_tuple;have hz':(xs++ys).size<=aZ+1:=by rw [Array.size_append]; exact TY
  wp_walk using (wpAny_updateSeq h1 rfl (hz:=hx) (_hz':=hz')),cc h1,cc h2
  exact⟨_,rfl,h3⟩
theorem FE:KO X "list.extend" we:=by
 intro pins s σ H G x d xs ds v us Q I ab rx rd OI CO q;unfold we at q;split at q
 ·rename_i l y;cases rd;obtain⟨w,rfl,qO⟩:=CO.one;obtain⟨u,rfl,ru⟩:=OI.one;split at q
  ·rename_i zs ys hg Ys;obtain⟨hz,q⟩:=q;obtain⟨vs,hv,rs⟩:=ab.lst hg;obtain⟨b,ws,uW,rfl,LZ,Hy,hb,_⟩:=lN I ab ru qO Ys;cases rx;obtain⟨z,bX,n,r,hl,e⟩:=I.UX hv;obtain⟨⟨cl,dd,dt,sl⟩,ho,Nr,n2,Z9⟩:=hb;simp only at Nr Z9;subst Nr Z9;have h1:=LZ.length;have h2:=Hy.length;have h3:=rs.length;have h4:=r.length;have h5:aZ=16777216:=cQ;have h6:SZ=16777216:=rfl;have hsz:bX.toArray.size+uW.toArray.size<=aZ:=by rw [aX,aX]; lia
   have Rk:¬ (!bX.toArray.isEmpty&&i0 (bX.toArray.size+uW.toArray.size))=true:=by
    rw [Mz hsz,Hj];exact iF
   refine call_meets F.slot_list_extend ⟨_,e,rfl⟩ F.entry_list_extend (F.args_list_extend_2 _ _) (Gm l bX.toArray n b uW.toArray n2 dd sl Rk (by rw [aX]; lia) (by lia)) ⟨e,ho,?_⟩;refine⟨.eh,_,.eh,_,I.UY (its':=bX++uW) hv e (by simp) (r.append LZ) ?_,.putL ab hg hv (rs.append Hy),rfl,.eh,q⟩;rw [aB];lia
  ·exact q.elim
 ·exact q.elim
theorem nU:fZ X (.Dict [] [] pos) oo:=by
 intro E pins s σ H τ G Q hE I h;exact gc (Ml pins s σ H (AG X.K H G Q) I.inv fun p hp=>⟨_,_,.new I.ab hp (.dk bY .nil),.ref _,h p (I.ab.free hp)⟩) fun _ _ z=>.of z
end
end K2
end
section
namespace K2
open PySem PySem.Spec PyProof.Rows L2
noncomputable def fG(env:Env):List (Str×qX)->List (Str×Addr)->List (Str×Addr)
 | [],acc=>acc
 | (n,k) :: r,acc=>if k=.free then fG env r ((n,(env.cells.lookup n).getD 0) :: acc) else fG env r acc
theorem rX(env:Env)(f:Str×qX->List (Str×Addr)->Sem (ForInStep (List (Str×Addr))))(hf:∀ n k c,f (n,k) c=if (k == jD)=true then (cellOf env n >>= fun a=>pure (qN ((n,a) :: c))) else pure (qN c)) :
  ∀ (ns:List (Str×qX)) (acc:List (Str×Addr)),(∀ x∈ns,x.2=.free->∃ c,env.cells.lookup x.1=some c)->forIn ns acc f=(pure (fG env ns acc):Sem (List (Str×Addr)))
 | [],acc,_=>rfl
 | (n,k) :: r,acc,h=>by
  rw [List.forIn_cons,hf];have hr:∀ x∈r,x.2=.free->∃ c,env.cells.lookup x.1=some c:=fun x hx=>h x (aL _ hx);by_cases hk:k=.free
  ·subst hk;obtain⟨c,hc⟩:=h (n,.free) cb rfl;have ec:cellOf env n=pure c:=by unfold cellOf; rw [hc]
   rw [if_pos (by decide),ec,pure_bind,pure_bind];show forIn r ((n,c) :: acc) f=_;rw [rX env f hf r _ hr];show _=(pure (fG env ((n,.free) :: r) acc):Sem (List (Str×Addr)));rw [fG,if_pos rfl,hc]; rfl
  ·rw [if_neg (by simpa using hk),pure_bind];show forIn r acc f=_;rw [rX env f hf r _ hr];show _=(pure (fG env ((n,k) :: r) acc):Sem (List (Str×Addr)));rw [fG,if_neg hk]
theorem zj{env:Env}{scope:Scope}(h:∀ x∈scope.names,x.2=.free->∃ c,env.cells.lookup x.1=some c):closureFor scope env=pure (fG env scope.names []):=by
 unfold closureFor;dsimp only;rw [rX env _ (fun n k c=>?_) scope.names [] h]
 ·rfl
 ·by_cases hk:(k == jD)=true
  ·simp only [hk,if_true]
  ·simp only [hk,if_false,aq]
theorem sF{env:Env}{x:Str}{c:Addr}:∀ {ns:List (Str×qX)} {acc:List (Str×Addr)},(∀ y∈ns,y.2=.free->∃ c,env.cells.lookup y.1=some c)->(∀ y c,acc.lookup y=some c->env.cells.lookup y=some c)->(fG env ns acc).lookup x=some c->env.cells.lookup x=some c
 | [],_,_,ha,e=>ha _ _ e
 | (n,k) :: r,acc,h,ha,e=>by
  have hr:∀ y∈r,y.2=.free->∃ c,env.cells.lookup y.1=some c:=fun y hy=>h y (aL _ hy);unfold fG at e;by_cases hk:k=.free
  ·rw [if_pos hk] at e;refine sF hr (fun y c' q=>?_) e;rw [B3] at q;by_cases hy:(y == n)=true
   ·rw [hy] at q;have e1:y=n:=eq_of_beq hy;subst e1;obtain⟨c0,hc0⟩:=h (y,k) cb hk;rw [hc0] at q ⊢;exact q
   ·have Rb:(y == n)=false:=by simpa using hy
    rw [Rb] at q;exact ha y c' q
  ·rw [if_neg hk] at e;exact sF hr ha e
theorem nS{env:Env}{x:Str}:∀ {ns:List (Str×qX)} {acc:List (Str×Addr)},((x,jD)∈ns\/∃ c,acc.lookup x=some c)->∃ c,(fG env ns acc).lookup x=some c
 | [],_,h=>by rcases h with h | h; exact absurd h (by simp); exact h
 | (n,k) :: r,acc,h=>by
  unfold fG;have grow:∀ a,(∃ c,acc.lookup x=some c)->∃ c,((n,a) :: acc).lookup x=some c:=fun a Rj=>by
   obtain⟨c,hc⟩:=Rj;rw [B3];by_cases hy:(x == n)=true
   ·rw [hy]; exact⟨_,rfl⟩
   ·have Rb:(x == n)=false:=by simpa using hy
    rw [Rb]; exact⟨c,hc⟩
  by_cases hk:k=.free
  ·rw [if_pos hk];refine nS ?_;rcases h with h | h
   ·rcases List.mem_cons.mp h with e | h
    ·injection e with e1 e2
     subst e1;exact .inr ⟨(env.cells.lookup x).getD 0,by rw [B3]; simp⟩
    ·exact .inl h
   ·exact .inr (grow _ h)
  ·rw [if_neg hk];refine nS ?_;rcases h with h | h
   ·rcases List.mem_cons.mp h with e | h
    ·injection e with e1 e2
     exact absurd e2.symm hk
    ·exact .inl h
   ·exact .inr h
noncomputable abbrev dH(X:Cx)(N:List Str)(scope:Scope)(C:Addr)(s:aw)(H:Hp)(fp:List Addr):Cx :=
 { X with env:=compEnvC scope (fG X.env scope.names []) C X.env,N:=N,lV:=s,Ox:=H,outer:=X.stack,stack:=X.stack,ex:=fp,fn:=fun _=>false,pn:=[],xe:=fun _ _=>False }
theorem sP{scope:Scope}{env:Env}{x:Str}(h:(EL scope env).names.lookup x=some .cell\/(EL scope env).names.lookup x=some .free)(oF:∀ y∈scope.names,y.2≠.cell):(x,jD)∈scope.names:=by
 have go:∀ k,(EL scope env).names.lookup x=some k->k=.cell\/k=.free->(x,jD)∈scope.names:=by
  intro k hk hkk;have hm:=gZ hk;unfold EL at hm;dsimp only at hm;obtain⟨⟨n,j⟩,hj,e⟩:=List.mem_map.mp hm;dsimp only at e;by_cases hc:(j == jD&&env.scope.kind == .function&&env.kindOf n == some .cell)=true
  ·rw [if_pos hc] at e;rw [aH,aH] at hc;injection e with e1 e2
   have ej:j=.free:=eq_of_beq hc.1.1;rw [ej,e1] at hj;exact hj
  ·rw [if_neg hc] at e;injection e with e1 e2
   subst e1;rcases hkk with r | r
   ·exact absurd (e2.trans r) (oF _ hj)
   ·rw [e2.trans r] at hj; exact hj
 rcases h with h | h
 ·exact go _ h (.inl rfl)
 ·exact go _ h (.inr rfl)
section
variable {X:Cx} {N:List Str} {scope:Scope} {fp:List Addr} {pins:List (Addr×Obj)} {σ:L2.St} {H:Hp} {s:aw} {C:Addr}
theorem To(I:Inv X pins σ H s)(oF:∀ y∈scope.names,y.2≠.cell)(z8:scope.kind=.function)(oE:∀ y∈scope.names,y.2=.free->X.env.kindOf y.1=some .cell)(hC:s.heap.objs.size<=C)(Yu:∀ b∈fp,mM X pins H b/\b < s.heap.objs.size):(dH X N scope C s H fp).Ok:=by
 have Nr:∀ y∈scope.names,y.2=.free->∃ c,X.env.cells.lookup y.1=some c:=fun y hy hf=>I.ok.has _ (.inl (oE y hy hf));have RR:∀ x c,(fG X.env scope.names []).lookup x=some c->X.env.cells.lookup x=some c:=fun x c e=>sF Nr (fun y c q=>by simp at q) e;refine⟨I.ok.mod,z8,I.ok.glob,I.ok.blt,hC,fun x y c h1 h2=>I.ok.inj x y c (RR x c h1) (RR y c h2),fun x hx=>?_,fun x c h=>absurd h (by simp),I.ok.hd,I.ok.frames,.inl rfl,fun b hb=>?_,I.bs,bu I.ok.Qx I.sz,fun b o e hb=>?_,fun b hb=>?_,I.stack,I.Hs⟩
 ·exact nS (.inl (sP hx oF))
 ·obtain⟨⟨f0,f1,f2,f3,f4,f5⟩,wo⟩:=Yu b hb;exact⟨bL (bO wo hC),fun x c e=>f4 x c (RR x c e)⟩
 ·obtain⟨⟨f0,f1,f2,f3,f4,f5⟩,wo⟩:=Yu b hb;rcases f3 with f3 | f3
  ·exact I.ok.JM b o e f3
  ·exact absurd (bO (aW e) (bu I.ok.Qx f3)) (jc _)
 ·obtain⟨⟨f0,f1,f2,f3,f4,f5⟩,wo⟩:=Yu b hb;intro z;rcases List.mem_cons.mp (I.E7 b z) with e | e
  ·exact f1 e
  ·exact f2 e
theorem Qm{qQ:Heap}{m:Nat}{fr:List Nat}{tk:Nat}(I:Inv X pins σ H s)(ok:(dH X N scope s.heap.objs.size s H fp).Ok)(S3:∀ y∈scope.names,y.2≠.cell)(oE:∀ y∈scope.names,y.2=.free->X.env.kindOf y.1=some .cell)(hN:N.length=m+fr.length)
  (Yt:∀ j i x,fr[j]?=some i->N[m+j]?=some x->X.N[i]?=some x/\X.env.scope.names.lookup x=some .cell/\(EL scope X.env).names.lookup x=some .cell) (OL:∃ mm,qQ.Ns s.heap.objs.size mm) (hk:∀ b o,s.heap.get? b=some o->qQ.get? b=some o) :
  Inv (dH X N scope s.heap.objs.size s H fp) [] (bc m none++fr.map fun i=>(σ[i]?).getD none) H { s with heap:=qQ,toks:=tk }:=by
 have Nr:∀ y∈scope.names,y.2=.free->∃ c,X.env.cells.lookup y.1=some c:=fun y hy hf=>I.ok.has _ (.inl (oE y hy hf));have RR:∀ x c,(fG X.env scope.names []).lookup x=some c->X.env.cells.lookup x=some c:=fun x c e=>sF Nr (fun y c q=>by simp at q) e;obtain⟨mm,OL⟩:=OL;refine⟨ok,rfl,I.bare,Un.kept hk,⟨mm,OL,fun i x v h1 h2 h3=>?_⟩,fun x c e=>?_,I.cD.fresh (aF _),fun x c e=>?_,fun p hp=>absurd hp (by simp),I.cD.kept hk,?_⟩
 ·by_cases hi:i < m
  ·rw [cO (by simpa using hi),ky] at h2;split at h2 <;> cases h2
  ·obtain⟨j,rfl⟩:∃ j,i=m+j:=⟨i - m,by lia⟩;rw [cm (by simp),eY,rq,bA] at h2;cases hj:fr[j]? with
   | none=>rw [hj] at h2; cases h2
   | some k =>
    rw [hj] at h2;have Nz:(σ[k]?).getD none=some v:=by simpa using h2
    have Rm:σ[k]?=some (some v):=by
     cases q:σ[k]? with
     | none=>rw [q] at Nz; cases Nz
     | some o=>rw [q] at Nz; simp at Nz; rw [Nz]
    obtain⟨e1,e2,e3⟩:=Yt j k x hj h1;obtain⟨m0,hn0,hl0⟩:=I.loc;obtain⟨u,r,l⟩:=hl0 k x v e1 Rm (.inr (.inl e2));refine⟨u,r,.inr ⟨.inl e3,?_⟩⟩;rcases l with ⟨l1,_⟩ | ⟨_,c,hc,oF⟩
    ·have:X.env.scope.names.lookup x=some .local:=l1;rw [e2] at this; cases this
    ·have hx:(x,jD)∈scope.names:=sP (.inl e3) S3;obtain⟨c',Rq⟩:=nS (env:=X.env) (x:=x) (ns:=scope.names) (acc:=[]) (.inl hx);have:=RR x c' Rq;rw [hc] at this;have ec:c=c':=aY this;subst ec;obtain⟨oc,TZ,hd⟩:=oF;exact⟨c,Rq,oc,hk _ _ TZ,hd⟩
 ·obtain⟨v,oc,TZ,hd⟩:=I.cell x c (RR x c e);exact⟨v,oc,hk _ _ TZ,hd⟩
 ·exact I.oG x c (RR x c e)
 ·rw [aB,eY,aC];exact hN.symm
theorem BN{prog:bJ}{w:World}{A:dj}{R:Result->aw->Prop}{s:aw}{elt target iter:Expr}{ifs:List Expr}{sc:Scope}{pos:Pos}{it acc:Value}{env:Env}(J:Nat->aw->Prop)
  (turn:∀ n s,J n s->wpAny (model prog w) A (Ce it) (fun r fm=>match r with
   | none=>R (.ok .next) fm
   | some v=>wpAny (model prog w) A (wJ target it v) (fun _ Ur=>wpAny (model prog w) A (G5 target env v) (fun _ Cz =>
     wpAny (model prog w) A (forIn ifs true fun c r=>if r=true then do let ok ← isTrue c env (eval c env); pure (qN ok) else pure (qN r)) (fun k LH =>
      if k=true then wpAny (model prog w) A (eval elt env) (fun x Jo=>wpAny (model prog w) A (call (.builtin "list.append") [acc,x]) (fun _ LG=>∃ m,m < n/\J m LG) (fun _ _=>False) Jo) (fun _ _=>False) LH
      else ∃ m,m < n/\J m LH) (fun _ _=>False) Cz) (fun _ _=>False) Ur) (fun _ _=>False) fm) (fun _ _=>False) s) (n:Nat) (h:J n s) :
  EN (model prog w) A (.compLoop (.ListComp elt [⟨target,iter,ifs,0⟩] sc pos) 0 it acc env) R s:=by
 have no:∀ {α:Type} {t:Sem α} {Q:α->aw->Prop} {E:Value->aw->Prop} {s:aw},wpAny (model prog w) A t Q (fun _ _=>False) s->wpAny (model prog w) A t Q E s:=fun h=>wpAny_mono h (fun _ _ q=>q) fun _ _ z=>z.elim;refine codeAny_loop rfl J (fun n s hJ=>?_) n h;show wpAny _ A ((compTurn (.ListComp elt [⟨target,iter,ifs,0⟩] sc pos) 0 it acc env).onRaise (fun x=>do noteFrame x env; theTreesLotGoes x)) _ _ s;refine wpAny_noted ?_;rw [compTurn_list];refine ag (Cb (ag (gc (no (turn n s hJ)) fun r fm qQ=>?_)));cases r with
 | none=>exact aA qQ
 | some v =>
  refine ag (gc (no qQ) fun _ Cz Ni=>ag (gc (no Ni) fun _ LH XS=>ag (gc (no XS) fun k Jo U8=>?_)));cases k with
  | false=>exact aA ⟨rfl,U8⟩
  | true=>exact ag (ag (gc (no U8) fun x LG XR=>ag (gc (no XR) fun _ aaN XQ=>aA (aA ⟨rfl,XQ⟩))))
noncomputable def CompEnd(X:Cx)(pins:List (Addr×Obj))(σ:L2.St)(H:Hp)(G:Gp)(Q:DK)(C Dd:Addr)(s':aw):Prop :=
 ∃ m H' G',Inv X pins σ H' s'/\s'.heap.Ns C m/\mM X pins H' C/\Mv X.K H G H' G'/\Q (.ref Dd) G'
inductive TB (Xc:Cx):List Expr->Option vM->Prop
 | none:TB Xc [] none
 | some {c:Expr} {t:vM}:IX Xc c t->TB Xc [c] (some t)
theorem Ax{τ:gY}{G G2:Gp}{H2:Hp}{s2:aw}{tg elt iter:Expr}{ifs:List Expr}{pos:Pos}{m:Nat}{fr:List Nat}{E:kS}{g:yT}{c:Option vM}{te:fM}{J:It}{tn:Nat->Heap->Prop}{it:Addr}{ds:List D}{ok:Gp->Prop}{Q:DK}{Rr:Value->Addr->Result->aw->Prop}{E0:Value->aw->Prop}
  (hc:X.calm=true) (oF:∀ y∈scope.names,y.2≠.cell) (z8:scope.kind=.function) (oE:∀ y∈scope.names,y.2=.free->X.env.kindOf y.1=some .cell) (hN:N.length=m+fr.length)
  (Yt:∀ j i x,fr[j]?=some i->N[m+j]?=some x->X.N[i]?=some x/\X.env.scope.names.lookup x=some .cell/\(EL scope X.env).names.lookup x=some .cell)
  (hg:∀ C s H fp,KD (dH X N scope C s H fp) tg g) (hi:∀ C s H fp,TB (dH X N scope C s H fp) ifs c) (he:∀ C s H fp,fZ (dH X N scope C s H fp) elt te)
  (I:I2 X pins σ H2 τ G2 s2) (m2:Mv X.K H G H2 G2) (T:Turn X.prog X.w X.K tg J fp it tn) (OH:tn 0 s2.heap) (f2:∀ b∈fp,mM X pins H2 b) (wk:RB X.K J H2 ds ok) (hz:ds.length<=SZ)
  (YG:∀ ex G,¬ E ex G) (q:iI g c te ok ds E (yj m fr τ) G2 [] fun xs G3=>gv G3 (.lst xs) Q)
  (fin:∀ C s',CompEnd X pins σ H G Q C s2.heap.objs.size s'->Rr (.ref s2.heap.objs.size) C (.ok .next) s') :
  wpAny (model X.prog X.w) X.A (newList []) (fun acc LH=>wpAny (model X.prog X.w) X.A (newFunctionEnv scope X.env.globals (fG X.env scope.names []) [] X.env.qual none .none (some X.env)) (fun VE Jo =>
   EN (model X.prog X.w) X.A (.compStart (.ListComp elt [⟨tg,iter,ifs,0⟩] scope pos) 0 (.ref it) acc { VE with scope:=EL scope X.env }) (Rr acc VE.locals) Jo) E0 LH) E0 s2:=by
 have sz:aZ=16777216:=cQ;have uY:H2 s2.heap.objs.size=none:=I.inv.cD.fresh (aF _);have S9:G2 s2.heap.objs.size=none:=I.ab.free uY;refine dh (wpAny_newFunctionEnv oF (by intro y hy; simp at hy) (fun qQ Nl Nj=>?_) z8);dsimp only at Nl Nj ⊢;have I3:Inv X pins σ (upd H2 s2.heap.objs.size (.lst [])) { s2 with heap:=s2.heap.push { cls:=.type "list",data:=.seq ([]:List Value).toArray },toks:=s2.toks }:=I.inv.XD (ys:=[]) .nil (cB _);generalize ZX:({ s2 with heap:=s2.heap.push { cls:=.type "list",data:=.seq ([]:List Value).toArray },toks:=s2.toks }:aw)=s3 at I3;generalize Vv:upd H2 s2.heap.objs.size (.lst [])=H3 at I3;have eH3:∀ b,b≠s2.heap.objs.size->H3 b=H2 b:=fun b hb=>by rw [<-Vv,bM hb]
 have DJ:s3.heap=s2.heap.push { cls:=.type "list",data:=.seq ([]:List Value).toArray }:=by rw [<-ZX]
 have Ut:s3.heap.objs.size=s2.heap.objs.size+1:=by rw [DJ,Hg]
 have Nq:∀ b∈fp,b < s2.heap.objs.size:=fun b hb=>by
  obtain⟨o,e,_⟩:=T.obj _ _ OH b hb;exact aW e
 have Vm:∀ b∈fp,mM X pins H3 b/\b < s3.heap.objs.size:=fun b hb=>by
  have hb2:=Nq b hb;obtain⟨f0,f1⟩:=f2 b hb;exact⟨⟨by rw [eH3 b (bL hb2)]; exact f0,f1⟩,bO hb2 (by rw [Ut]; exact Nat.le_succ _)⟩
 have V4:(dH X N scope s3.heap.objs.size s3 H3 fp).Ok:=To I3 oF z8 oE (aF _) Vm;have Rl:∀ b o,s3.heap.get? b=some o->qQ.get? b=some o:=fun b o e=>by
  have hb:b < s3.heap.objs.size:=aW e;refine Nj.extBut b o ?_ (aK _ ?_)
  ·rw [<-DJ]; exact bL hb
  ·rw [<-DJ]; exact e
 have Yi:∃ mm,qQ.Ns s3.heap.objs.size mm:=⟨_,by rw [DJ]; exact Nl⟩;have I4:=Qm (tk:=s3.toks+([]:List (Str×Value)).length) I3 V4 oF oE hN Yt Yi Rl;have XH:Kp H2 H3:=by rw [<-Vv]; exact .new uY
 have RA:kU X.K H3 G2:=by rw [<-Vv]; exact(Mv.K8 I.ab uY).ab
 have mv3:Mv X.K H2 G2 H3 G2:=by rw [<-Vv]; exact .K8 I.ab uY
 have VZ:ON X.K H3 (bc m none++fr.map fun i=>(σ[i]?).getD none) (yj m fr τ):=by
  refine⟨by unfold yj; rw [aB,aB,aC,aC,eY,eY],fun i d h2=>?_⟩;unfold yj at h2;by_cases hi:i < m
  ·rw [cO (by simpa using hi),ky] at h2;split at h2 <;> cases h2
  ·obtain⟨j,rfl⟩:∃ j,i=m+j:=⟨i - m,by lia⟩;rw [cm (by simp),eY,rq,bA] at h2;rw [cm (by simp),eY,rq,bA];cases hj:fr[j]? with
   | none=>rw [hj] at h2; cases h2
   | some k =>
    rw [hj] at h2;have Nz:(τ[k]?).getD none=some d:=by simpa using h2
    have Rm:τ[k]?=some (some d):=by
     cases qq:τ[k]? with
     | none=>rw [qq] at Nz; cases Nz
     | some o=>rw [qq] at Nz; simp at Nz; rw [Nz]
    obtain⟨v,e1,e2⟩:=I.st.at' k d Rm;exact⟨v,by simp [e1],e2.mono XH⟩
 have hD3:H3 s2.heap.objs.size=some (.lst []):=by rw [<-Vv,bY]
 have Us:tn 0 qQ:=T.keep _ _ _ OH fun b hb o e=>Rl b o (by rw [DJ]; exact aK _ e);have LN:∀ {Hc:Hp},(∀ b∈fp,Hc b=none)->∀ b∈fp,mM (dH X N scope s3.heap.objs.size s3 H3 fp) [] Hc b:=fun hn b hb =>
  ⟨hn b hb,(V4.Wo b hb).1,V4.NO b hb,.inl hb,fun x c e=>(V4.Wo b hb).2 x c e,fun p hp=>absurd hp (by simp)⟩
 have neD:∀ b∈fp,b≠s2.heap.objs.size:=fun b hb=>bL (Nq b hb);have loop:EN (model X.prog X.w) X.A (.compLoop (.ListComp elt [⟨tg,iter,ifs,0⟩] scope pos) 0 (.ref it) (.ref s2.heap.objs.size) (dH X N scope s3.heap.objs.size s3 H3 fp).env) (Rr (.ref s2.heap.objs.size) s3.heap.objs.size)
   { s3 with heap:=qQ,toks:=s3.toks+([]:List (Str×Value)).length }:=by
  refine BN (fun n s'=>∃ i OF Hc Lw Gc rY uk,I2 (dH X N scope s3.heap.objs.size s3 H3 fp) [] OF Hc Lw Gc s'/\Gc s2.heap.objs.size=none/\Hc s2.heap.objs.size=some (.lst rY)/\bh X.K Hc rY uk/\uk.length<=i/\Mv X.K H2 G2 Hc Gc/\tn i s'.heap/\(∀ b∈fp,Hc b=none) /\
   n=ds.length - i/\i<=ds.length/\iI g c te ok (ds.drop i) E Lw Gc uk fun xs G3=>gv G3 (.lst xs) Q) ?_ ds.length
   ⟨0,_,H3,_,G2,[],[],⟨I4,VZ,RA⟩,S9,hD3,.nil,aF _,mv3,Us,fun b hb=>by rw [eH3 b (neD b hb)]; exact(f2 b hb).1,rfl,cB _,q⟩
  rintro n s4 ⟨i,OF,Hc,Lw,Gc,rY,uk,Ic,gD,hD,rA,hA,mc,Zt,frc,rfl,hle,wq⟩;have ZQ:Kp H2 Hc:=mc.kp I.ab;by_cases wo:i < ds.length
  ·rw [gw wo] at wq;obtain⟨Xb,wq⟩:=wq;obtain⟨go,yl⟩:=(wk i Hc Gc ZQ Ic.ab Xb).1 ds[i] (by simp [wo]);refine gc (T.item (dH X N scope s3.heap.objs.size s3 H3 fp) rfl rfl rfl hc i [] s4 OF Hc (fun _ _=>False) Ic.inv (LN frc) Zt go) ?_;rintro r s5 ⟨u,hr,h5⟩;subst hr;refine gc h5 ?_;rintro _ s6 ⟨x,H6,I6,r6,y6,WS,fr6⟩;obtain⟨rd6,m6⟩:=yl x H6 y6;have I6':=I6.pinned (LN fr6) (T.obj _ _ WS);have J6:I2 (dH X N scope s3.heap.objs.size s3 H3 fp) ([]++pO fp s6.heap) OF H6 Lw Gc s6:=⟨I6',Ic.st.mono (m6.kp Ic.ab),m6.ab⟩;have back:∀ {WJ:L2.St} {H9:Hp} {VT:gY} {G9:Gp} {s9:aw} {aV:List V} {aD:List D},I2 (dH X N scope s3.heap.objs.size s3 H3 fp) ([]++pO fp s6.heap) WJ H9 VT G9 s9->Mv X.K H2 G2 H9 G9->G9 s2.heap.objs.size=none->H9 s2.heap.objs.size=some (.lst aV)->bh X.K H9 aV aD->aD.length<=i+1 ->
     (iI g c te ok (ds.drop (i+1)) E VT G9 aD fun xs G3=>gv G3 (.lst xs) Q)->∃ mm,mm < ds.length - i/\∃ i OF Hc Lw Gc rY uk,I2 (dH X N scope s3.heap.objs.size s3 H3 fp) [] OF Hc Lw Gc s9/\Gc s2.heap.objs.size=none/\Hc s2.heap.objs.size=some (.lst rY)/\bh X.K Hc rY uk/\uk.length<=i /\
      Mv X.K H2 G2 Hc Gc/\tn i s9.heap/\(∀ b∈fp,Hc b=none)/\mm=ds.length - i/\i<=ds.length/\iI g c te ok (ds.drop i) E Lw Gc uk fun xs G3=>gv G3 (.lst xs) Q:=fun {WJ H9 VT G9 s9 aV aD} I9 m9 g9 h9 r9 l9 n9=>by
    refine⟨ds.length - (i+1),by lia,i+1,WJ,H9,VT,G9,aV,aD,⟨I9.inv.sE,I9.st,I9.ab⟩,g9,h9,r9,l9,m9,T.keep _ _ _ WS fun b hb o e=>(I9.inv.pin (b,o) (cY _ (cY _ (nY hb e)))).1,fun b hb=>?_,rfl,wo,n9⟩;obtain⟨o,e,d⟩:=T.obj _ _ WS b hb;exact(I9.inv.pin (b,o) (cY _ (cY _ (nY hb e)))).2.1
   have mc6:=mc.trans m6;have hD6:=m6.keep _ _ hD gD;refine gc (hg _ _ _ _ E _ s6 OF H6 Lw Gc x ds[i] u _ (Lk.none YG) J6 r6 rd6 wq) ?_;rintro _ s7 ⟨K1,H7,K0,G7,I7,m7,q7⟩;have Wj:=m7.keep _ _ hD6.1 gD;have ZK:=mc6.trans m7;have Zx:=rA.mono ((m6.trans m7).kp Ic.ab);have VB:∀ (H8:Hp) (G8:Gp) (s8:aw),I2 (dH X N scope s3.heap.objs.size s3 H3 fp) ([]++pO fp s6.heap) K1 H8 K0 G8 s8->Mv X.K H7 G7 H8 G8->(te E K0 G8 fun y G9=>iI g c te ok (ds.drop (i+1)) E K0 G9 (uk++[y]) fun xs G3=>gv G3 (.lst xs) Q) ->
     wpAny (model X.prog X.w) X.A (eval elt (dH X N scope s3.heap.objs.size s3 H3 fp).env) (fun y Jo=>wpAny (model X.prog X.w) X.A (call (.builtin "list.append") [.ref s2.heap.objs.size,y]) (fun _ LG=>∃ mm,mm < ds.length - i/\∃ i OF Hc Lw Gc rY uk,I2 (dH X N scope s3.heap.objs.size s3 H3 fp) [] OF Hc Lw Gc LG/\Gc s2.heap.objs.size=none/\Hc s2.heap.objs.size=some (.lst rY)/\bh X.K Hc rY uk/\uk.length<=i /\
      Mv X.K H2 G2 Hc Gc/\tn i LG.heap/\(∀ b∈fp,Hc b=none)/\mm=ds.length - i/\i<=ds.length/\iI g c te ok (ds.drop i) E Lw Gc uk fun xs G3=>gv G3 (.lst xs) Q) (fun _ _=>False) Jo) (fun _ _=>False) s8:=fun H8 G8 s8 I8 m8 q8=>by
    refine je (he _ _ _ _) (Lk.none YG) I8 q8 fun v H9 d9 G9 u9 s9 I9 m9 r9 rd9 q9=>?_;have XB:=m8.trans m9;have Wi:=XB.keep _ _ Wj.1 Wj.2;have rA9:=Zx.mono (XB.kp I7.ab);have ZJ:=ZK.trans XB;refine gc (zO (X:=dH X N scope s3.heap.objs.size s3 H3 fp) _ s9 K1 H9 (.ref s2.heap.objs.size) [v] _ [u9] (fun _ H'=>H'=upd H9 s2.heap.objs.size (.lst (rY++[v]))) I9.inv rfl (.cons r9 .nil)
     ⟨_,rY,v,rfl,rfl,Wi.1,by rw [rA.length,sz]; have:SZ=16777216:=rfl; lia,rfl⟩) ?_
    rintro _ s10 ⟨v10,H10,I10,_,e10⟩;subst e10;have XG:Kp H9 (upd H9 s2.heap.objs.size (.lst (rY++[v]))):=.putL Wi.1;have abA:kU X.K (upd H9 s2.heap.objs.size (.lst (rY++[v]))) G9:=fun a g' e=>by
     have ne:a≠s2.heap.objs.size:=by rintro rfl; rw [Wi.2] at e; cases e
     exact(I9.ab a g' e).mono XG (bM ne)
    have mA:Mv X.K H2 G2 (upd H9 s2.heap.objs.size (.lst (rY++[v]))) G9:=⟨fun a o e n=>by
      have ne:a≠s2.heap.objs.size:=dE e uY;obtain⟨e1,e2⟩:=ZJ.keep a o e n;exact⟨by rw [bM ne]; exact e1,e2⟩,fun a n=>by
      by_cases ha:a=s2.heap.objs.size
      ·rw [ha,bY]; simp
      ·rw [bM ha]; exact ZJ.lj a n,abA⟩
    exact back ⟨I10,I9.st.mono XG,abA⟩ mA Wi.2 bY ((rA9.append (.cons rd9 .nil)).mono XG) (by rw [aB,du]; lia) q9
   cases hi s3.heap.objs.size s3 H3 fp with
   | none =>
    refine wpAny_tests_nil ?_;rw [if_pos rfl];exact VB H7 G7 s7 I7 (.refl I7.ab) q7
   | some Vq =>
    refine wpAny_tests_one (Jm Vq (Lk.none YG) I7 q7 fun k H8 G8 s8 I8 m8 q8=>?_);cases k with
    | true =>
     rw [if_pos rfl] at q8 ⊢;exact VB H8 G8 s8 I8 m8 q8
    | false =>
     rw [if_neg iF] at q8 ⊢;have hD8:=m8.keep _ _ Wj.1 Wj.2;exact back I8 (ZK.trans m8) hD8.2 hD8.1 (Zx.mono (m8.kp I7.ab)) (by lia) q8
  ·have hn:ds.length<=i:=by lia
   rw [kL hn] at wq;obtain⟨Xb,qn⟩:=wq;have stop:=(wk i Hc Gc ZQ Ic.ab Xb).2 hn;refine gc (T.done (dH X N scope s3.heap.objs.size s3 H3 fp) rfl rfl rfl hc i [] s4 OF Hc (fun _ _=>False) Ic.inv (LN frc) Zt stop) ?_;rintro r s5 ⟨hr,I5⟩;subst hr;refine fin s3.heap.objs.size s5 ?_;obtain⟨mm,Yj,_⟩:=I5.loc;have hC5:Hc s3.heap.objs.size=none:=I5.free;have I6:Inv X pins σ Hc s5:=by
    obtain⟨h5,g5,d5,t5,o5⟩:=s5;have eo:o5=s3.os:=I5.os;subst eo;exact I3.call (h':=h5) (g':=g5) (d':=d5) (t':=t5) (ch:=fp) I5.base I5.cD I5.bare fun b hb=>by
     obtain⟨⟨f0,f1,f2',f3,f4,f5⟩,hl⟩:=Vm b hb;exact⟨f3,f1,f4,f5⟩
   have mvF:Mv X.K H2 G2 Hc (eD Gc s2.heap.objs.size (.lst uk)):=⟨fun a o e n=>by
     have ne:a≠s2.heap.objs.size:=dE e uY;obtain⟨e1,e2⟩:=mc.keep a o e n;exact⟨e1,by rw [dR ne]; exact e2⟩,mc.lj,fun a g' e=>by
     by_cases ha:a=s2.heap.objs.size
     ·subst ha;rw [aJ] at e;cases e;exact⟨rY,hD,rA⟩
     ·rw [dR ha] at e;exact Ic.ab a g' e⟩
   exact⟨mm,Hc,_,I6,Yj,I3.Bv (aF _) hC5,m2.trans mvF,qn _ gD⟩
 have all:EN (model X.prog X.w) X.A (.compStart (.ListComp elt [⟨tg,iter,ifs,0⟩] scope pos) 0 (.ref it) (.ref s2.heap.objs.size) (dH X N scope s3.heap.objs.size s3 H3 fp).env) (Rr (.ref s2.heap.objs.size) s3.heap.objs.size)
   { s3 with heap:=qQ,toks:=s3.toks+([]:List (Str×Value)).length }:=codeAny_compStart_list loop (T.self _ 0 _ _ _ Us loop)
 subst ZX;exact all
end
end K2
end
section
namespace K2
open PySem PySem.Spec PyProof.Rows L2
section
variable {X:Cx} {N:List Str} {scope:Scope} {tg elt iter:Expr} {ifs:List Expr} {pos:Pos} {m:Nat} {fr:List Nat} {wi:Kx} {g:yT} {c:Option vM} {te:fM}
structure yI(X:Cx)(N:List Str)(scope:Scope)(m:Nat)(fr:List Nat):Prop where
 cell:∀ y∈scope.names,y.2≠.cell
 kind:scope.kind=.function
 names:∀ y∈scope.names,y.2=.local->scope.names.lookup y.1=some .local
 free:∀ y∈scope.names,y.2=.free->X.env.kindOf y.1=some .cell
 len:N.length=m+fr.length
 at':∀ j i x,fr[j]?=some i->N[m+j]?=some x->X.N[i]?=some x/\X.env.scope.names.lookup x=some .cell/\(EL scope X.env).names.lookup x=some .cell
theorem yI.closed{X:Cx}{N:List Str}{scope:Scope}{m:Nat}{fr:List Nat}(k:yI X N scope m fr){pins:List (Addr×Obj)}{σ:L2.St}{H:Hp}{s:aw}(I:Inv X pins σ H s):closureFor scope X.env=pure (fG X.env scope.names []) :=
 zj fun y hy hf=>I.ok.has _ (.inl (k.free y hy hf))
theorem JK(hc:X.calm=true)(k:yI X N scope m fr)(hi:KC X tg iter wi)(hg:∀ C s H fp,KD (dH X N scope C s H fp) tg g)(S2:∀ C s H fp,TB (dH X N scope C s H fp) ifs c)(he:∀ C s H fp,fZ (dH X N scope C s H fp) elt te)
  (hs:autoParam (∀ x,mz iter X.env x=pure x) Ai._auto_1):fZ X (.ListComp elt [⟨tg,iter,ifs,0⟩] scope pos) (gy m fr wi g c te):=by
 intro E pins s σ H τ G Q hE I h;rw [eval_ListComp];refine wpAny_comprehension_free (use:=none) rfl hs (k.closed I.inv) k.kind k.names (gc (hi E pins s σ H τ G _ hE I h) fun xv fm qQ=>gc qQ fun Q8 Cz Ni=>?_);obtain⟨it,fp,tn,J,H2,G2,ds,ok,e,lX,m2,T,OH,f2,wk,hz,q⟩:=Ni;subst e;refine Ax (Rr:=fun acc C=>compPost (model X.prog X.w) X.A X.xe none (se X pins σ H G Q) acc C) hc k.cell k.kind k.free k.len k.at' hg S2 he (I.mv lX m2) m2 T OH f2 wk hz (fun _ _ z=>z) q ?_;rintro C s' ⟨mm,H',G',I',OL,YL,mv,q'⟩;refine⟨mm,OL,fun h' Rf=>?_⟩;obtain⟨f0,f1,_,f3,f4,f5⟩:=YL;exact⟨.ref _,H',.ref _,G',I'.turned (t':=s'.toks) (fun b o hb e=>Rf.extBut b o hb e) f0 f1 f3 f4 f5,mv,rfl,.ref _,q'⟩
theorem CW{i:Nat}{y:Str}{py LR:Pos}(hN:X.N.Nodup)(XW:X.N[i]?=some y)(hy:X.env.scope.names.lookup y=some .local)(hc:X.calm=true)(k:yI X N scope m fr)(hi:KC X tg iter wi)(hg:∀ C s H fp,KD (dH X N scope C s H fp) tg g)
  (S2:∀ C s H fp,TB (dH X N scope C s H fp) ifs c) (he:∀ C s H fp,fZ (dH X N scope C s H fp) elt te) (X8:autoParam (Lh (.ListComp elt [⟨tg,iter,ifs,0⟩] scope pos) (some (.Name y py)) LR.line X.env=pure true) Ar._auto_1)
  (hs:autoParam (∀ x,mz iter X.env x=pure x) Ai._auto_1):GQ X (.Assign [.Name y py] (.ListComp elt [⟨tg,iter,ifs,0⟩] scope pos) LR) (bQ (gy m fr wi g c te) (aP i)):=by
 intro E pins s σ H τ G D hE I h;rw [exec_Assign_Name_used _ _ _ _ X8];refine ag (Cb (ag ?_));show wpAny _ X.A (do let _ ← comprehension (.ListComp elt [⟨tg,iter,ifs,0⟩] scope pos) scope X.env _ (newList []) false (eval iter X.env) (some (G5 (.Name y py) X.env))) _ _ s;refine ag (gc (wpAny_comprehension_free (use:=some (G5 (.Name y py) X.env)) (Q:=fun _ s'=>Tz X pins H G D .next s') rfl hs (k.closed I.inv) k.kind k.names (gc (hi E pins s σ H τ G _ hE I h) fun xv fm qQ=>gc qQ fun Q8 Cz Ni=>?_)) fun _ s' hq=>aA (aA hq));obtain⟨it,fp,tn,J,H2,G2,ds,ok,e,lX,m2,T,OH,f2,wk,hz,q⟩:=Ni;subst e;refine Ax (Rr:=fun acc C=>compPost (model X.prog X.w) X.A X.xe (some (G5 (.Name y py) X.env)) (fun _ s'=>Tz X pins H G D .next s') acc C) hc k.cell k.kind k.free k.len k.at' hg S2 he (I.mv lX m2) m2 T OH f2 wk hz (fun _ _ z=>z) q ?_;rintro C s' ⟨mm,H',G',I',OL,YL,mv,q'⟩;show wpAny (model X.prog X.w) X.A (G5 (.Name y py) X.env (.ref Cz.heap.objs.size)) _ X.xe s';obtain⟨f0,f1,_,f3,f4,f5⟩:=YL;refine wpAny_assign_Name (zy (v:=.ref Cz.heap.objs.size) I' hN XW (.inl hy) rfl (?_) (.inr hy));rintro s3 I3 ⟨a,hsb,ha⟩;have hCa:C≠a:=by
  rcases ha with rfl | ha
  ·exact f1
  ·exact fun e=>f4 y a ha e.symm
 refine⟨mm,OL.sameBut hsb hCa,fun h' Rf=>?_⟩;exact⟨_,H',_,G',⟨I3.turned (t':=s3.toks) (fun b o hb e=>Rf.extBut b o hb e) f0 f1 f3 f4 f5,(I.st.mono (mv.kp I.ab)).set i (.ref _),mv.ab⟩,mv,q'⟩
theorem cL{i:Nat}{u:BY}{n:Nat}(h:∀ E ds τ G Q,u E ds τ G Q->ds.length=n):∀ E ds τ G Q,dF (aP i) u E ds τ G Q->ds.length=n+1 :=
 Kf h (fun _ _ _ _ _ _ q k=>k _ _ q) fun _ _ _ _ q=>q
theorem bH (i:Nat) {x:Str} {pos:Pos} (hN:autoParam (X.N[i]?=some x) Ar._auto_1) (hv:autoParam (Wr X.env.scope x) Ao._auto_1) (hd:autoParam ((x == ("__debug__" : Str))=false) Ad._auto_1)
  (Iw:autoParam ((x == ("__classdict__" : Str))=false) Ad._auto_1):fZ X (.Name x pos) (ay i):=Px hN hv hd Iw
theorem Sj{body:List Stmt}{t2:hV}(h:yy X body t2){E:kS}(hE:Lk X E):T9 X body (fun D σ H=>∃ (τ:gY) (G:Gp) (D2:kI),ON X.K H σ τ/\kU X.K H G/\t2 E D2 τ G /\
  (∀ i7 H' oQ G',Mv X.K H G H' G'->D2.nx oQ G'->D.nx i7 H')/\(∀ v H' d G',Mv X.K H G H' G'->cg X.K H' v d->D2.rt d G'->D.rt v H')/\(∀ τ G,¬ D2.bk τ G)/\(∀ τ G,¬ D2.ct τ G)):=by
 rintro pins s σ H D I ⟨τ,G,D2,st,ab,q,k1,k2,k3,k4⟩;refine gc (h E pins s σ H τ G D2 hE ⟨I,st,ab⟩ q) fun f s1 z=>?_;cases f with
 | next=>obtain⟨i7,H',oQ,G',J,mv,z⟩:=z; exact⟨i7,H',J.inv,k1 i7 H' oQ G' mv z⟩
 | brk=>obtain⟨i7,H',oQ,G',J,mv,z⟩:=z; exact(k3 _ _ z).elim
 | cont=>obtain⟨i7,H',oQ,G',J,mv,z⟩:=z; exact(k4 _ _ z).elim
 | ret u=>obtain⟨v,i7,H',d,G',J,mv,r,rd,z⟩:=z; exact⟨v,i7,H',J,r,k2 v H' d G' mv rd z⟩
theorem LO{K:ai}{H:Hp}{Nn:List Str}{vs:List V}{ds:List D}(r:bh K H vs ds):ON K H (L2.start Nn vs) (bF Nn.length ds):=by
 unfold L2.start bF;refine⟨by simp [r.length],fun i d h=>?_⟩;by_cases hi:i < ds.length
 ·rw [cO (by simpa using hi),bA] at h;cases hd:ds[i]? with
  | none=>rw [hd] at h; cases h
  | some d' =>
   rw [hd] at h;have e:d'=d:=by simpa using h
   subst e;obtain⟨v,h1,h2⟩:=r.get hd;refine⟨v,?_,h2⟩;rw [cO (by simpa [r.length] using hi),bA,h1]; rfl
 ·rw [cm (by simpa using hi),ky] at h;split at h <;> cases h
theorem Qa{P:bJ}{w:World}{K:ai}{mg:Str->Option Value}{base:Heap}{x qual:Str}{st:Stmt}{f:Addr}{fd:aI}{Nn ps:List Str}{k:Nat}{sp:mR}{rd:hV}(F:oK K x qual st f fd)(S:cA Nn ps (bg st))(len:∀ ds G Q E,sp ds G Q E->ds.length=ps.length)
  (hr:∀ ds G Q,sp ds G Q (fun _ _=>False)->rd (fun _ _=>False) (ends Q) (bF Nn.length ds) G)
  (hb:∀ (nI:Value) (A:dj) (outer:List Env) (s:aw) (H:Hp) (E:XK),lO k (A.deeper (Cf qual (bg st) s.heap.objs.size f nI))->yy (D9 fY P w K mg base Nn qual (bg st) f nI A outer s H E).TU (jx st) rd):fX P w K mg base fY (k+1) f fd ps (cR K sp):=by
 refine F.ok S ((by rintro vs H Q E ⟨ds,G,Q2,r,ab,q,_⟩; exact by rw [r.length]; exact len _ _ _ _ q)) ?_;rintro nI A outer s H vs Q E Va ⟨ds,G,Q2,r,ab,q,kk⟩;refine⟨_,Sj (hb nI A outer s H E Va) (E:=fun _ _=>False) (Lk.none fun _ _ z=>z),?_⟩;exact⟨bF Nn.length ds,G,ends Q2,LO r,ab,hr ds G Q2 q,fun i7 H' oQ G' mv z=>kk _ _ _ _ z mv .eh,fun v H' d G' mv WZ z=>kk _ _ _ _ z mv WZ,fun _ _ z=>z,fun _ _ z=>z⟩
noncomputable def WY(scope sc:Scope):List (Str×qX):=scope.names.map fun (n,k)=>if (k == .free&&sc.kind == .function&&sc.names.lookup n == some .cell) then (n,.cell) else (n,k)
noncomputable def wz(N:List Str)(scope:Scope)(m:Nat)(fr:List Nat)(sc:Scope)(XN:List Str):Bool :=
 scope.names.all (fun y=>decide (y.2≠.cell))&&decide (scope.kind=.function)&&scope.names.all (fun y=>!decide (y.2=.local)||decide (scope.names.lookup y.1=some .local)) &&
 scope.names.all (fun y=>!decide (y.2=.free)||decide (sc.names.lookup y.1=some .cell))&&decide (N.length=m+fr.length) &&
 (ib fr.length).all (fun j=>match fr[j]?,N[m+j]? with
  | some i,some x=>decide (XN[i]?=some x)&&decide (sc.names.lookup x=some .cell)&&decide ((WY scope sc).lookup x=some .cell)
  | _,_=>false)
theorem Ay{sc:Scope}{XN:List Str}(U9:X.env.scope=sc)(Vs:X.N=XN)(hb:wz N scope m fr sc XN=true):yI X N scope m fr:=by
 subst U9 Vs;unfold wz at hb;simp only [aH] at hb;obtain⟨⟨⟨⟨⟨h1,h2⟩,h3⟩,h4⟩,h5⟩,h6⟩:=hb;refine⟨fun y hy=>of_decide_eq_true (List.all_eq_true.mp h1 y hy),of_decide_eq_true h2,fun y hy hl=>?_,fun y hy hl=>?_,of_decide_eq_true h5,fun j i x e1 e2=>?_⟩
 ·have:=List.all_eq_true.mp h3 y hy;simp only [hl,decide_true,bV,KY] at this;exact of_decide_eq_true this
 ·have:=List.all_eq_true.mp h4 y hy;simp only [hl,decide_true,bV,KY] at this;exact of_decide_eq_true this
 ·have hj:j < fr.length:=(List.getElem?_eq_some_iff.mp e1).1;have:=List.all_eq_true.mp h6 j (List.mem_range.mpr hj);rw [e1,e2] at this;simp only [aH] at this;exact⟨of_decide_eq_true this.1.1,of_decide_eq_true this.1.2,of_decide_eq_true this.2⟩
theorem pP(N:List Str){sc:Scope}{XN:List Str}(hi:KC X tg iter wi)(hg:∀ C s H fp,KD (dH X N scope C s H fp) tg g)(S2:∀ C s H fp,TB (dH X N scope C s H fp) ifs c)(he:∀ C s H fp,fZ (dH X N scope C s H fp) elt te)
  (U9:autoParam (X.env.scope=sc) Ar._auto_1) (Vs:autoParam (X.N=XN) Ar._auto_1) (hb:autoParam (wz N scope m fr sc XN=true) Ak._auto_1) (hc:autoParam (X.calm=true) Ar._auto_1) (hs:autoParam (∀ x,mz iter X.env x=pure x) Ai._auto_1):fZ X (.ListComp elt [⟨tg,iter,ifs,0⟩] scope pos) (gy m fr wi g c te) :=
 JK hc (Ay U9 Vs hb) hi hg S2 he hs
theorem sY(N:List Str){sc:Scope}{XN:List Str}{i:Nat}{y:Str}{py LR:Pos}(hN:X.N.Nodup)(XW:X.N[i]?=some y)(hy:X.env.scope.names.lookup y=some .local)(hi:KC X tg iter wi)(hg:∀ C s H fp,KD (dH X N scope C s H fp) tg g)
  (S2:∀ C s H fp,TB (dH X N scope C s H fp) ifs c) (he:∀ C s H fp,fZ (dH X N scope C s H fp) elt te) (U9:autoParam (X.env.scope=sc) Ar._auto_1) (Vs:autoParam (X.N=XN) Ar._auto_1) (hb:autoParam (wz N scope m fr sc XN=true) Ak._auto_1) (hc:autoParam (X.calm=true) Ar._auto_1)
  (X8:autoParam (Lh (.ListComp elt [⟨tg,iter,ifs,0⟩] scope pos) (some (.Name y py)) LR.line X.env=pure true) Ar._auto_1) (hs:autoParam (∀ x,mz iter X.env x=pure x) Ai._auto_1) :
  GQ X (.Assign [.Name y py] (.ListComp elt [⟨tg,iter,ifs,0⟩] scope pos) LR) (bQ (gy m fr wi g c te) (aP i)) :=
 CW hN XW hy hc (Ay U9 Vs hb) hi hg S2 he X8 hs
theorem JT{K:ai}{H:Hp}{a:Addr}{ns:List Int}(hO:QF H)(hS:qg K H a (ns.map V.int))(hl:ns.length<=63):cR K zA [.ref a] H (fun v _=>v=.bl true) fun _ _ _=>False:=by
 have hF:T8 K H a (ns.map V.int):=by
  rcases hS with (h | ⟨o,h⟩) | h
  ·rcases hO a with z | ⟨o,xs,z⟩
   ·rw [z] at h; cases h
   ·rw [z] at h; cases h
  ·exact .inl ⟨o,h⟩
  ·exact .inr h
 refine⟨[.dJ (ns.map D.int)],fun _=>none,fun d _=>d=.bl true,.cons (.dJ hF (bh.HX ns)) .nil,fun a g e=>(by cases e),⟨ns,rfl,hl,fun _=>rfl,fun _=>rfl⟩,fun d G' v H' e mv r=>?_⟩;subst e;cases r;rfl
theorem MP{l:AJ}{q:bJ}{loose:List Str}{XP:(Str->Option Value)->Heap->Prop}{YP:World->Heap->Prop}{d:DefRec}{K:Params->ai}{k:Nat}{x:Str}(hn:l.most=some 63)(Vo:d.params.defaults=[])(hr:lO k EO)
  (hY:∀ (w:World) (h:Heap),YP w h->(K w.params).In h)
  (F:∀ (w:World) (mg:Str->Option Value) (fa:Addr) (h:Heap),(K w.params).In h->h.Ns bS mg->mg d.name=some (.ref fa) ->
   ∃ fd:aI,(∀ (s:aw) (u:Value),Lu s fd ⟨[u],[]⟩ [(x,u)])/\∀ base:Heap,(K w.params).In base->base.Ns bS mg->fX l.prog w (K w.params) mg base fY k fa fd [x] (cR (K w.params) zA)) :
  PySem.W.WalkO q loose XP YP l.row.toRowW d [] (fun f vs=>Ha f vs) :=
 L2.OZ (n:=63) (k:=k) (x:=x) (CX:=fun _=>fY) (sp:=fun w=>cR (K w.params) zA) hn (by decide) Vo hr hY F (fun _ _ _ _ hl hO hS=>JT hO hS hl) fun _ _ _ _ _ z=>z
end
end K2
end
section
namespace K2
open PySem PySem.Spec PyProof.Rows L2
noncomputable def Oa:HO->Bool
 | .lst _=>true
 | .dK _=>true
 | .dT _=>true
 | .ext _=>true
 | _=>false
noncomputable def ny(h:Heap)(S:Addr->Bool)(H:Hp):Hp:=fun a=>match H a with
 | some u=>if (Oa u&&S a)=true then (match h.get? a with
  | some o=>some (.jh o u)
  | none=>some u) else some u
 | none=>none
section
variable {h:Heap} {S:Addr->Bool} {H:Hp} {a:Addr}
theorem FZ(n:∀ u,H a=some u->Oa u=false):ny h S H a=H a:=by
 unfold ny;cases e:H a with
 | none=>rfl
 | some u=>simp only [n u e,Hi,aq,if_false]
theorem x2(hs:S a=false):ny h S H a=H a:=by
 unfold ny;cases e:H a with
 | none=>rfl
 | some u=>simp only [hs,Hj,aq,if_false]
theorem tV{u:HO}{o:Obj}(hs:S a=true)(e:H a=some u)(hu:Oa u=true)(ho:h.get? a=some o):ny h S H a=some (.jh o u):=by
 unfold ny;simp only [e,hs,hu,Bool.and_self,if_true,ho]
theorem nv(e:H a=none):ny h S H a=none:=by unfold ny; rw [e]
theorem kP{u:HO}(e:H a=some u)(hu:Oa u=false):ny h S H a=some u:=by rw [FZ (fun v z=>by rw [e] at z; cases z; exact hu)]; exact e
theorem qy:Kp H (ny h S H):=⟨fun a xs e=>kP e rfl,fun a o u e=>kP e rfl⟩
end
section
variable {X:Cx} {pins:List (Addr×Obj)} {σ:L2.St} {H:Hp} {s:aw} {G:Gp}
theorem Inv.freeze(I : Inv X pins σ H s)(S : Addr -> Bool) : Inv X pins σ (ny s.heap S H) s where
  ok := I.ok
  os := I.os
  bare := I.bare
  base := { keep := I.base.keep, slot := I.base.slot, there := I.base.there
            free := fun b o q n hx => nv (I.base.free b o q n hx)
            yX := fun b xs q => kP (I.base.yX b xs q) rfl
            xZ := fun b o u q => kP (I.base.xZ b o u q) rfl
            yZ := fun b ps q => kP (I.base.yZ b ps q) rfl
            y8 := fun b x q => kP (I.base.y8 b x q) rfl }
  loc := I.loc
  cell := I.cell
  free := nv I.free
  oG := fun x c e => nv (I.oG x c e)
  pin := fun p hp => let ⟨h1, h2, h3⟩ := I.pin p hp; ⟨h1, nv h2, h3⟩
  cD := fun a o q => by
    have st : ∀ u, H a = some u -> fA X.prog X.w (ny s.heap S H) s.heap a u := fun u e =>
      (I.cD a u e).lj (fun b v _ r => r) (fun b r => kP r rfl) (fun b xs r => kP r rfl)
    cases e : H a with
    | none => rw [nv e] at q; cases q
    | some u =>
      by_cases hc : Oa u = true
      · by_cases hs : S a = true
        · obtain⟨ob, ho⟩ := k6 (I.cD a _ e)
          rw [tV hs e hc ho] at q;cases q;exact⟨ho, st _ e⟩
        · rw [x2 (by simpa using hs), e] at q
          cases q;exact st _ e
      · rw [kP e (by simpa using hc)] at q
        cases q;exact st _ e
  len := I.len
noncomputable def mU(R:Nat->Bool)(G:Gp):Addr->Bool:=fun a=>R a&&(G a).isSome
theorem Ah(I:Inv X pins σ H s)(ab:kU X.K H G)(R:Nat->Bool):Mv X.K H G (ny s.heap (mU R G) H) (zf R G) where
 keep:=fun a o e n=>by
  refine⟨by rw [x2 (by simp [mU,n])]; exact e,?_⟩;unfold zf; split
  ·rfl
  ·exact n
 lj:=fun a n=>by
  cases q:G a with
  | none=>exact absurd q n
  | some g =>
   have t:=(ab a g q).tracked;cases e:H a with
   | none=>exact absurd e t
   | some u =>
    unfold ny;rw [e];dsimp only;split
    ·split <;> simp
    ·simp
 ab:=fun a g e=>by
  unfold zf at e;split at e
  ·cases e
  ·rename_i hr;exact(ab a g e).mono qy (x2 (by simp [mU,hr]))
theorem NB(I:Inv X pins σ H s)(ab:kU X.K H G){R:Nat->Bool}:∀ {d t:D} {v:V},Fz G R d t->cg X.K H v d->cg X.K (ny s.heap (mU R G) H) v t:=by
 intro d t v h;revert v;refine Fz.rec (motive_1:=fun d t _=>∀ {v:V},cg X.K H v d->cg X.K (ny s.heap (mU R G) H) v t)
  (motive_2:=fun ds ts _=>∀ {vs:List V},bh X.K H vs ds->bh X.K (ny s.heap (mU R G) H) vs ts)
  (motive_3:=fun ds ts _=>(∀ {vs:List (Key×V)},k9 X.K H vs ds->k9 X.K (ny s.heap (mU R G) H) vs ts)/\∀ {vs:List (List Key×V)},kT X.K H vs ds->kT X.K (ny s.heap (mU R G) H) vs ts)
  ?_ ?_ ?_ ?_ ?_ ?_ ?_ ?_ ?_ ?_ h
 ·intro d v r; exact r.mono qy
 ·intro ds ss _ ih v r;cases r with
  | tup h rs=>exact .tup (qy.tup _ _ h) (ih rs)
 ·intro ds ss _ ih v r;cases r with
  | dJ h rs=>exact .dJ (qy.TM h) (ih rs)
 ·intro a ds ss g hr _ ih v r;cases r;obtain⟨vs,hv,rs⟩:=ab a _ g;obtain⟨ob,ho⟩:=k6 (I.cD a _ hv);exact .dJ (.inl ⟨_,tV (by simp [mU,hr,g]) hv rfl ho⟩) (ih rs)
 ·intro a ds ss g hr _ ih v r;cases r;rcases ab a _ g with ⟨kv,hv,rs⟩ | ⟨kv,hv,rs⟩
  ·obtain⟨ob,ho⟩:=k6 (I.cD a _ hv);exact .oS (tV (by simp [mU,hr,g]) hv rfl ho) (ih.1 rs)
  ·obtain⟨ob,ho⟩:=k6 (I.cD a _ hv);exact .oR (tV (by simp [mU,hr,g]) hv rfl ho) (ih.2 rs)
 ·intro a kvs Q5 g hr _ ek ih v r;cases r;obtain⟨xs,ks,vs,hv,rel,r1,r2⟩:=ab a _ g;obtain⟨ob,ho⟩:=k6 (I.cD a _ hv);have e2:(Q5.map fun p=>oC p.1)=kvs.map fun p=>oC p.1:=by
   have:=congrArg (List.map oC) ek;rw [br,br] at this;exact this.symm
  exact .nG (tV (by simp [mU,hr,g]) hv rfl ho) ⟨ek.symm.trans rel.1,rel.2⟩ (by rw [e2]; exact r1.mono qy) (ih r2)
 ·intro vs r; cases r; exact .nil
 ·intro d s ds ss _ _ i1 i2 vs r;cases r with
  | cons r rs=>exact .cons (i1 r) (i2 rs)
 ·exact⟨fun r=>by cases r; exact .nil,fun r=>by cases r; exact .nil⟩
 ·intro k d s ds ss _ _ i1 i2;exact⟨fun r=>by cases r with | cons r rs=>exact .cons (i1 r) (i2.1 rs),fun r=>by cases r with | cons r rs=>exact .cons (i1 r) (i2.2 rs)⟩
variable {e:Expr} {te:fM} {st:Stmt} {t:hV}
theorem bb(he:fZ X e te):fZ X e (dB te):=by
 intro E pins s σ H τ G Q hE I h;refine gc (he E pins s σ H τ G _ hE I h) ?_;rintro u s1 ⟨v,H1,d,G1,I1,m,r,rd,R,t,hf,q⟩;exact⟨v,_,t,_,Inv.freeze I1 _,m.trans (Ah I1 m.ab R),r,NB I1 m.ab hf rd,q⟩
theorem A4{i:Nat}(h1:GQ X st t):GQ X st (GB i t):=by
 intro E pins s σ H τ G D hE I h;refine gc (h1 E pins s σ H τ G _ hE I h) fun f s1 z=>?_;cases f with
 | next =>
  obtain⟨i7,H',oQ,G',I',m,q⟩:=z;simp only at q;split at q
  ·rename_i d hd;obtain⟨R,t,hf,q⟩:=q;obtain⟨v,hv,rv⟩:=I'.st.at' i d hd;have a1:=(I'.st.mono (H':=ny s1.heap (mU R G') H') qy).set i (NB I'.inv I'.ab hf rv);have es:i7.set i (some v)=i7:=by
    have hi:i < i7.length:=(List.getElem?_eq_some_iff.mp hv).1;have e2:=(List.getElem?_eq_some_iff.mp hv).2;rw [<-e2]; exact OC hi
   rw [es] at a1;have m2:=Ah I'.inv I'.ab R;exact⟨i7,_,_,_,⟨Inv.freeze I'.inv _,a1,m2.ab⟩,m.trans m2,q⟩
  ·exact q.elim
 | ret v=>exact z
 | brk=>exact z
 | cont=>exact z
end
end K2
end
section
namespace K2
open PySem PySem.Spec PyProof.Rows L2
theorem yr:eB "len" = some (.builtin "len"):=by decide +kernel
theorem Tv:eB "sum" = some (.builtin "sum"):=by decide +kernel
theorem Az:eB "sorted" = some (.builtin "sorted"):=by decide +kernel
theorem Qv:eB "list" = some (.type "list"):=by decide +kernel
theorem Og:eB "tuple" = some (.type "tuple"):=by decide +kernel
theorem BR:eB "dict" = some (.type "dict"):=by decide +kernel
theorem Tw:eB "int" = some (.type "int"):=by decide +kernel
theorem Qw:eB "bool" = some (.type "bool"):=by decide +kernel
section
variable {X:Cx} {a b c e o:Expr} {es:List Expr} {ta tb tc te to:fM} {t:GP} {pos p p2 apos jg:Pos} {x name:Str} {id T:String} {k:Nat} {f:Addr} {fd:aI} {ps:List Str} {sp:mR}
theorem aS(F:fX X.prog X.w X.K X.mg X.base fY k f fd ps (cR X.K sp))(hr:lO k X.A)(hg:Gl X x)(hm:X.mg x=some (.ref f))(hk:kF X.K (.ref f)=true)(hb:Binds X.K fd ps [])
  (ha:IY X (e :: es) t) (Kd:autoParam ((x == ("__debug__" : Str))=false) Ad._auto_1) (he:autoParam (cC (e :: es) X.env=(false,eval e X.env) :: cC es X.env) Ar._auto_1) (FV:autoParam ((oy pos (cC es X.env)).any (·.1)=false) Ar._auto_1) :
  fZ X (.Call (.Name x p) (e :: es) [] pos) (bC sp t):=Mo F hr hg hm hk hb ha Kd he FV
end
end K2
end
section
namespace L2
open PySem PySem.Spec PyProof.Rows
section
variable {X:Cx} {pins:List (Addr×Obj)} {σ:St} {H:Hp} {s:aw} {h':Heap}
theorem Inv.v5{t':Nat}{fp:List Addr}(I:Inv X pins σ H s)(hf:∀ b∈fp,mM X pins H b)(k:∀ b o,b∉fp->s.heap.get? b=some o->h'.get? b=some o):Inv X pins σ H { s with heap:=h',toks:=t' }:=by
 have nt:∀ b u,H b=some u->b∉fp:=fun b u e z=>by rw [(hf b z).1] at e; cases e
 refine I.step (g':=s.gens) (d':=s.drawn) (ch:=fp) (fun b hb=>?_) (fun b o _ _ hc e _=>k b o hc e) (fun b o _ _ hc e _=>⟨o.slots,k b o hc e⟩) (fun _ _ _ _ n=>n)
  (fun b o hc e=>⟨o,k b o hc e⟩) (fun _ _ e=>e) (fun _ _ _ e=>e) (fun _ _ e=>e) (fun _ _ e=>e) (fun m hm=>?_) (fun b u e=>?_) I.bare
 ·obtain⟨f0,f1,f2,f3,f4,f5⟩:=hf b hb;exact⟨f3,f1,f4,f5⟩
 ·obtain⟨o,es,ep,ho,r⟩:=hm;exact⟨o,es,ep,k _ _ (fun z=>(hf _ z).2.1 rfl) ho,r⟩
 ·refine(I.cD b u e).lj (fun c v hc r=>k c v ?_ r) (fun _ z=>z) (fun _ _ z=>z);rcases hc with rfl | hc
  ·exact nt _ _ e
  ·exact nt _ _ hc
theorem Inv.AR{t':Nat}{fp:List Addr}{T:Addr}{vs:List V}(I:Inv X pins σ H s)(hf:∀ b∈fp,mM X pins H b)(k:∀ b o,b∉fp->s.heap.get? b=some o->h'.get? b=some o)(hT:s.heap.objs.size<=T)
  (new:fA X.prog X.w (upd H T (.tup vs)) h' T (.tup vs)):Inv X pins σ (upd H T (.tup vs)) { s with heap:=h',toks:=t' }:=by
 have hn:H T=none:=I.cD.fresh hT;have ht:∀ b o,s.heap.get? b=some o->b≠T:=fun b o e z=>by subst z; exact absurd (aW e) (Nat.not_lt.mpr hT)
 have nt:∀ b u,H b=some u->b∉fp:=fun b u e z=>by rw [(hf b z).1] at e; cases e
 have ne:∀ b u,H b=some u->b≠T:=fun b u e=>dE e hn;refine I.step (g':=s.gens) (d':=s.drawn) (ch:=fp) (fun b hb=>?_) (fun b o _ _ hc e _=>k b o hc e) (fun b o _ _ hc e _=>⟨o.slots,k b o hc e⟩) (fun b o _ e n=>by rw [bM (ht b o e)]; exact n)
  (fun b o hc e=>⟨o,k b o hc e⟩) (fun b xs e=>by rw [bM (ne _ _ e)]; exact e) (fun b o u e=>by rw [bM (ne _ _ e)]; exact e) (fun b ps e=>by rw [bM (ne _ _ e)]; exact e) (fun b ps e=>by rw [bM (ne _ _ e)]; exact e) (fun m hm=>?_) (fun b u e=>?_) I.bare
 ·obtain⟨f0,f1,f2,f3,f4,f5⟩:=hf b hb;exact⟨f3,f1,f4,f5⟩
 ·obtain⟨o,es,ep,ho,r⟩:=hm;exact⟨o,es,ep,k _ _ (fun z=>(hf _ z).2.1 rfl) ho,r⟩
 ·by_cases hb:b=T
  ·subst hb; rw [bY] at e; cases e; exact new
  ·rw [bM hb] at e;refine(I.cD b u e).lj (fun c v hc r=>k c v ?_ r) (fun c z=>by rw [bM (ne _ _ z)]; exact z) (fun c xs z=>by rw [bM (ne _ _ z)]; exact z);rcases hc with rfl | hc
   ·exact nt _ _ e
   ·exact nt _ _ hc
theorem mM.upd{b T:Addr}{o:HO}(h:mM X pins H b)(hb:b≠T):mM X pins (L2.upd H T o) b:=by
 obtain⟨f0,r⟩:=h;exact⟨by rw [bM hb]; exact f0,r⟩
end
end L2
namespace K2
open PySem PySem.Spec PyProof.Rows L2
section
variable {X:Cx} {elts:List Expr} {kk:Nat} {Cv:Pos} {a b:Expr} {ta tb:fM} {pos p:Pos}
theorem Tu:eB "zip" = some (.type "zip"):=by decide +kernel
end
end K2
end
section
namespace K2
open PySem PySem.Spec PyProof.Rows L2
section
variable {X:Cx} {o i a b:Expr} {to ti ta tb:fM} {pos p:Pos}
theorem jZ(hu:X.A.units+64 < cLine)(ho:fZ X o to)(hi:fZ X i ti)
  (ha:autoParam (∀ v,G5 (.Subscript o i pos) X.env v=(do
   let ov ← Ll [v] (eval o X.env)
   let iv ← Ll [v,ov] (eval i X.env)
   standAt pos
   Ll [v,ov,iv] (setItem ov iv v)
   release [v,ov,iv] [])) Ai._auto_1):KD X (.Subscript o i pos) (lI to ti):=by
 intro E pins s σ H τ G w d u Q hE I r rd h;rw [ha];refine ag (eL (je ho hE I h fun x H1 dx G1 ov s1 I1 m1 r1 iV q1=>?_));refine ag (eL (je hi hE I1 q1 fun y H2 dy G2 iv s2 lX m2 r2 xh q2=>?_));refine ag (Cb (ag (eL ?_)));have EF:=m1.trans m2;have TN:=rd.mono (EF.kp I.ab);have EE:=I.st.mono (EF.kp I.ab);have WV:=iV.mono (m2.kp I1.ab);unfold wZ at q2;split at q2
 ·rename_i l;cases WV;cases r1;split at q2
  ·rename_i xs hg;obtain⟨vs,hv,rs⟩:=lX.ab.lst hg;split at q2
   ·rename_i k;cases xh;split at q2
    ·rename_i j hj;have m3:Mv X.K H2 G2 (upd H2 l (.lst (vs.set j w))) (eD G2 l (.lst (xs.set j d))):=.putL lX.ab hg hv (rs.set TN j);refine gc (set_list pins s2 σ H2 (.ref l) (.int k) w _ _ _ (fun H3=>H3=upd H2 l (.lst (vs.set j w))) lX.inv rfl r2 r ⟨l,vs,k,j,rfl,rfl,hv,?_,rfl⟩) ?_
     ·rw [rs.length]; exact hj
     ·rintro _ s3 ⟨H3,I3,e3⟩;subst e3;exact wpAny_release ⟨σ,_,τ,_,⟨I3,EE.mono (m3.kp lX.ab),m3.ab⟩,EF.trans m3,q2⟩
    ·exact q2.elim
   ·exact q2.elim
  ·rename_i kvs hg;obtain⟨hk,hz,q⟩:=q2;obtain⟨H3,H4,I3,dp,m3⟩:=NV lX.inv lX.ab hg hk hz xh TN;exact Kr (by lia) I3 dp r2 r fun s4 I4=>wpAny_release ⟨σ,H4,τ,_,⟨I4,EE.mono (m3.kp lX.ab),m3.ab⟩,EF.trans m3,q⟩
  ·exact q2.elim
 ·exact q2.elim
end
end K2
end
section
namespace L2
open PySem PySem.Spec PyProof.Rows
theorem sG{X:Cx}{pins:List (Addr×Obj)}{σ:St}{H:Hp}{s:aw}{l b:Addr}{xs:List V}(I:Inv X pins σ H s)(hq:qg X.K H l xs)(hf:mM X pins H b):l≠b:=by
 rintro rfl;obtain⟨f0,f1,f2,f3,f4,f5⟩:=hf;rcases hq with (h | ⟨o,h⟩) | ⟨o,bX,n,h,_⟩
 ·rw [f0] at h; cases h
 ·rw [f0] at h; cases h
 ·have hb:=I.ok.mod.Wb _ _ h;rcases f3 with f3 | f3
  ·exact I.ok.JM _ _ hb f3
  ·exact absurd (aW (I.ok.bs _ _ hb).1) (Nat.not_lt.mpr f3)
noncomputable def Itz(K:ai)(a b:Addr):It :=
  ⟨fun i H=>∃ xs x ys y,qg K H a xs/\xs[i]?=some x/\qg K H b ys/\ys[i]?=some y,
   fun i H v H'=>∃ T x y,v=.ref T/\H T=none/\H'=upd H T (.tup [x,y])/\(∀ xs,qg K H a xs->xs[i]?=some x)/\∀ ys,qg K H b ys->ys[i]?=some y,
   fun i H=>∃ xs ys,qg K H a xs/\qg K H b ys/\(xs.length<=i\/ys.length<=i)⟩
structure VJ(z TI TO i1 i2 a b:Addr)(i:Nat)(h:Heap):Prop where
 hz:IsZip h z TI TO .none
 hI:IsPair h TI (.ref i1) (.ref i2)
 hO:∃ x y,IsPair h TO x y
 h1:h.IsListIter i1 a i
 h2:h.IsListIter i2 b i
theorem LD{P:bJ}{w:World}{K:ai}{elts:List Expr}{kk:Nat}{pos:Pos}(a b z TI TO i1 i2:Addr)(nd:[z,TI,TO,i1,i2].Nodup) :
  Turn P w K (.Tuple elts kk pos) (Itz K a b) [z,TI,TO,i1,i2] z (VJ z TI TO i1 i2 a b) where
 mem:=by simp
 obj:=fun i h st c hc=>by
  simp only [aQ,cI,or_false] at hc;rcases hc with rfl | rfl | rfl | rfl | rfl
  ·exact⟨_,st.hz,fun v q=>by cases q⟩
  ·exact⟨_,st.hI,fun v q=>by cases q⟩
  ·obtain⟨x,y,h⟩:=st.hO; exact⟨_,h,fun v q=>by cases q⟩
  ·obtain⟨o,e,_,d⟩:=st.h1; exact⟨o,e,fun v q=>by rw [d] at q; cases q⟩
  ·obtain⟨o,e,_,d⟩:=st.h2; exact⟨o,e,fun v q=>by rw [d] at q; cases q⟩
 keep:=fun i h h' st k=>⟨k _ (by simp) _ st.hz,k _ (by simp) _ st.hI,let ⟨x,y,q⟩:=st.hO; ⟨x,y,k _ (by simp) _ q⟩,st.h1.at fun o q=>k _ (by simp) o q,st.h2.at fun o q=>k _ (by simp) o q⟩
 item:=by
  intro X hP hw hK hc i pins s σ H E I hf st hg;subst hP hw hK;obtain⟨xs,x,ys,y,Rh,hx,Rg,hy⟩:=hg;obtain⟨U5,V0,p1,hz1⟩:=I.list Rh;obtain⟨uW,LZ,p2,XT⟩:=I.list Rg;obtain⟨u1,We,Fg⟩:=V0.get hx;obtain⟨u2,X6,Jx⟩:=LZ.get hy;obtain⟨xo,yo,hO⟩:=st.hO;have ap:∀ c∈[z,TI,TO,i1,i2],a≠c/\b≠c:=fun c hc=>⟨sG I Rh (hf c hc),sG I Rg (hf c hc)⟩;simp only [aO,aQ,cI,or_false,not_or] at nd;obtain⟨⟨n1,n2,n3,n4⟩,⟨n5,n6,n7⟩,⟨n8,n9⟩,Xy,_⟩:=nd;have Dz:ZipApart z TI TO i1 i2 a b:=⟨fT n1,fT n2,fT n3,fT n4,n5,n6,n7,n8,n9,Xy,(ap z (by simp)).1,(ap TO (by simp)).1,(ap i1 (by simp)).1,(ap i2 (by simp)).1,(ap z (by simp)).2,(ap TO (by simp)).2,(ap i1 (by simp)).2,(ap i2 (by simp)).2⟩;have Vu:H s.heap.objs.size=none:=I.cD.fresh (aF _);have inH:∀ c∈[z,TI,TO,i1,i2],c≠s.heap.objs.size:=fun c hc=>by
   simp only [aQ,cI,or_false] at hc;rcases hc with rfl | rfl | rfl | rfl | rfl
   ·exact bL (aW st.hz)
   ·exact bL (aW st.hI)
   ·exact bL (aW hO)
   ·obtain⟨o,e,_⟩:=st.h1; exact bL (aW e)
   ·obtain⟨o,e,_⟩:=st.h2; exact bL (aW e)
  refine wpAny_pyNext_zip_item Dz st.hz st.hI hO st.h1 st.h2 p1.isList p2.isList (x:=u1) (y:=u2) (by simpa using We) (by simpa using X6) fun h' a1 a2 a3 a4 a5 a6 a7=>?_;refine⟨_,rfl,?_⟩;have k1:∀ c o,c∉[z,TI,TO,i1,i2]->s.heap.get? c=some o->h'.get? c=some o:=fun c o hc q =>
   a7 c o (fun e=>hc (by simp [e])) (fun e=>hc (by simp [e])) (fun e=>hc (by simp [e])) (fun e=>hc (by simp [e])) q
  have I1:Inv X pins σ (upd H s.heap.objs.size (.tup [x,y])) { s with heap:=h' } :=
   I.AR (t':=s.toks) (fp:=[z,TI,TO,i1,i2]) hf k1 (aF _) ⟨by show 2<=aZ; decide,[u1,u2],.cons Fg (.cons Jx .nil),⟨_,a5,rfl,_,rfl⟩⟩
  refine wpAny_letOwnedTupleGo_zip (s:={ s with heap:=h' }) a1 fun h2 XT EG=>?_;have f1:∀ c∈[z,TI,TO,i1,i2],mM X pins (upd H s.heap.objs.size (.tup [x,y])) c:=fun c hc=>(hf c hc).upd (inH c hc);have I2:Inv X pins σ (upd H s.heap.objs.size (.tup [x,y])) { s with heap:=h2 } :=
   Inv.v5 (s:={ s with heap:=h' }) (t':=s.toks) (fp:=[z,TI,TO,i1,i2]) I1 f1 fun c o hc q=>(EG.2 c (fun e=>hc (by simp [e]))).trans q
  have hI':IsPair h' TI (.ref i1) (.ref i2):=a7 TI _ (fT n1) n5 n6 n7 st.hI;refine⟨.ref s.heap.objs.size,_,I2,rfl,⟨_,x,y,rfl,Vu,rfl,fun zs hs=>by rw [I.xK hs Rh]; exact hx,fun zs hs=>by rw [I.xK hs Rg]; exact hy⟩,⟨XT,?_,⟨u1,u2,?_⟩,?_,?_⟩,fun c hc=>(f1 c hc).1⟩
  ·exact(EG.2 TI (fT n1)).trans hI'
  ·exact(EG.2 TO (fT n2)).trans a2
  ·exact a3.at fun o q=>(EG.2 i1 (fT n3)).trans q
  ·exact a4.at fun o q=>(EG.2 i2 (fT n4)).trans q
 done:=by
  intro X hP hw hK hc i pins s σ H E I hf st hg;subst hP hw hK;obtain⟨xs,ys,Rh,Rg,hx⟩:=hg;obtain⟨U5,V0,p1,hz1⟩:=I.list Rh;obtain⟨uW,LZ,p2,XT⟩:=I.list Rg;have Z1:=V0.length;have z0:=LZ.length;obtain⟨xo,yo,hO⟩:=st.hO;have ap:∀ c∈[z,TI,TO,i1,i2],a≠c/\b≠c:=fun c hc=>⟨sG I Rh (hf c hc),sG I Rg (hf c hc)⟩;simp only [aO,aQ,cI,or_false,not_or] at nd;obtain⟨⟨n1,n2,n3,n4⟩,⟨n5,n6,n7⟩,⟨n8,n9⟩,Xy,_⟩:=nd;have Dz:ZipApart z TI TO i1 i2 a b:=⟨fT n1,fT n2,fT n3,fT n4,n5,n6,n7,n8,n9,Xy,(ap z (by simp)).1,(ap TO (by simp)).1,(ap i1 (by simp)).1,(ap i2 (by simp)).1,(ap z (by simp)).2,(ap TO (by simp)).2,(ap i1 (by simp)).2,(ap i2 (by simp)).2⟩;refine wpAny_pyNext_zip_end (I.ok.hd hc) Dz st.hz st.hI hO st.h1 st.h2 p1.isList p2.isList (by
   rcases hx with hx | hx
   ·left; simp; lia
   ·right; simp; lia) fun h' k1=>⟨rfl,?_⟩
  exact I.v5 (t':=s.toks) (fp:=[z,TI,TO,i1,i2]) hf fun c o hc q=>k1 c o (fun e=>hc (by simp [e])) (fun e=>hc (by simp [e])) (fun e=>hc (by simp [e])) (fun e=>hc (by simp [e])) q
 self:=fun A i s Q E st h=>wpAny_pyIter_zip st.hz h
end L2
namespace K2
open PySem PySem.Spec PyProof.Rows L2
section
variable {X:Cx} {elts:List Expr} {kk:Nat} {Cv:Pos} {a b:Expr} {ta tb:fM} {pos p:Pos}
theorem Dw{pins:List (Addr×Obj)}{s:aw}{σ:L2.St}{H:Hp}{G:Gp}{x:V}{d:D}{v:Value}{ds:List D}{ok:Gp->Prop}(I:Inv X pins σ H s)(ab:kU X.K H G)(rx:RelV x v)(rd:cg X.K H x d)(hi:tF d G=some (ds,ok)) :
  ∃ l vs,v=.ref l/\qg X.K H l vs/\bh X.K H vs ds/\∀ H2 G2,Kp H H2->kU X.K H2 G2->ok G2->∃ ws,qg X.K H2 l ws/\bh X.K H2 ws ds:=by
 cases rd with
 | dJ hq rs=>cases hi; cases rx; exact⟨_,_,rfl,hq.sq,rs,fun H2 G2 k ab _=>⟨_,(k.TM hq).sq,rs.mono k⟩⟩
 | ref l =>
  unfold tF at hi;dsimp only at hi;cases hg:G l with
  | none=>rw [hg] at hi; cases hi
  | some gg =>
   rw [hg] at hi;cases gg with
   | lst zs =>
    cases hi;cases rx;obtain⟨vs,hv,rs⟩:=ab.lst hg;refine⟨_,_,rfl,.of hv,rs,fun H2 G2 k ab o=>?_⟩;obtain⟨ws,hw,qO⟩:=ab.lst o;exact⟨ws,.of hw,qO⟩
   | ins _ _=>cases hi
   | qS _=>cases hi
   | gu _=>cases hi
 | _=>cases hi
theorem HN (hg:Gl X "zip") (hm:X.mg "zip" = none) (ha:fZ X a ta) (hb:fZ X b tb) (hs:autoParam (cC [a,b] X.env=[(false,eval a X.env),(false,eval b X.env)]) Ar._auto_1) (EG:autoParam (cC [b] X.env=[(false,eval b X.env)]) Ar._auto_1) :
  KC X (.Tuple elts kk Cv) (.Call (.Name "zip" p) [a,b] [] pos) (Nh ta tb):=by
 intro E pins s σ H τ G R hE I h;have hA:IY X [a,b] (av ta (av tb a8)):=ah ha (ah hb aG EG) (by rw [hs,EG]);refine Call_ (pT I.inv hg hm Tu (fg (Cw hA pos hE I (R:=Xa fun x y G1=>rK x y G1 R) h fun vs H1 ds G1 us s1 I1 m1 r1 iV q1=>?_) (by rw [hs,EG]) (by rw [EG]; rfl)))
 match ds,q1 with
 | [x,y],q1 =>
  change rK x y G1 R at q1;obtain⟨w1,w2,rfl,AZ,LY⟩:=iV.two;obtain⟨u1,u2,rfl,Fg,Jx⟩:=vals2 r1;unfold rK at q1;split at q1
  ·rename_i xs k1 ys k2 e1 e2;obtain⟨l1,v1,rfl,Rh,rs1,st1⟩:=Dw I1.inv I1.ab Fg AZ e1;obtain⟨l2,v2,rfl,Rg,Hy,OH⟩:=Dw I1.inv I1.ab Jx LY e2;obtain⟨U5,V0,pl1,_⟩:=I1.inv.list Rh;obtain⟨uW,LZ,pl2,_⟩:=I1.inv.list Rg;refine call_zip_2 pl1.isList pl2.isList fun h' z1 z2 z3 z4 z5 z6 z7=>?_;refine wpAny_pyIter_zip z1 ?_;refine⟨_,[s1.heap.objs.size+4,s1.heap.objs.size+2,s1.heap.objs.size+3,s1.heap.objs.size,s1.heap.objs.size+1],_,_,H1,G1,nP xs ys,_,rfl,I1.inv.kept (t':=s1.toks) z7,m1,
    LD l1 l2 _ _ _ _ _ (by simp),⟨z1,z2,⟨_,_,z3⟩,z4,z5⟩,fun c hc=>?_,fun i H2 G2 k ab o=>?_,q1⟩
   ·have Rq:s1.heap.objs.size<=c:=by
     simp only [aQ,cI,or_false] at hc;rcases hc with rfl | rfl | rfl | rfl | rfl
     ·exact si _ _
     ·exact si _ _
     ·exact si _ _
     ·exact aF _
     ·exact si _ _
    exact I1.inv.Bv Rq (I1.inv.cD.fresh Rq)
   ·obtain⟨Um,X3,iV⟩:=st1 H2 G2 k ab o.1;obtain⟨WN,Wd,xh⟩:=OH H2 G2 k ab o.2;refine⟨fun d hd=>?_,fun hl=>⟨Um,WN,X3,Wd,?_⟩⟩
    ·rw [Cq] at hd;cases hx:xs[i]? with
     | none=>rw [hx] at hd; cases hd
     | some x' =>
      cases hy:ys[i]? with
      | none=>rw [hx,hy] at hd; cases hd
      | some y' =>
       rw [hx,hy] at hd;have ed:D.tup [x',y']=d:=by simpa using hd
       subst ed;obtain⟨vx,ZU,rx⟩:=iV.get hx;obtain⟨vy,ZT,ry⟩:=xh.get hy;refine⟨⟨Um,vx,WN,vy,X3,ZU,Wd,ZT⟩,?_⟩;rintro v H3 ⟨T,px,py,ex,hT,e3,hx3,hy3⟩;subst ex e3;have q1:=hx3 Um X3;have q2:=hy3 WN Wd;rw [ZU] at q1;rw [ZT] at q2;cases q1; cases q2;exact⟨.tup bY (.cons (rx.mono (.new hT)) (.cons (ry.mono (.new hT)) .nil)),.K8 ab hT⟩
    ·rw [Cp] at hl;rw [iV.length,xh.length];lia
  ·exact q1.elim
 | [],q1=>exact q1.elim
 | [_],q1=>exact q1.elim
 | _ :: _ :: _ :: _,q1=>exact q1.elim
end
end K2
end
section
namespace K2
open PySem PySem.W PyProof.Rows
noncomputable def gS{α:Type}(lt:Nat->Nat->Bool):KasT α->α
 | .ret a=>a
 | .ask i j k=>gS lt (k (lt i j))
theorem kY{α β:Type}(lt:Nat->Nat->Bool)(f:α->KasT β):∀ t:KasT α,gS lt (t.bind f)=gS lt (f (gS lt t))
 | .ret _=>rfl
 | .ask i j k=>kY lt f (k (lt i j))
noncomputable abbrev gA(p:Array Nat)(k:Nat):Nat:=p.getD k 0
theorem Ab(p:Array Nat)(k:Nat):gA p k=(p[k]?).getD 0:=by
 unfold gA; rw [Array.getD_eq_getD_getElem?]
structure Kz(lt:Nat->Nat->Bool):Prop where
 asymm:∀ i j,lt i j=true->lt j i=false
 trans:∀ i j k,lt j i=false->lt k j=false->lt k i=false
theorem Kz.refl{lt:Nat->Nat->Bool}(w:Kz lt)(i:Nat):lt i i=false:=by
 cases h:lt i i with
 | false=>rfl
 | true=>rw [w.asymm _ _ h] at h; cases h
noncomputable def Up(lt:Nat->Nat->Bool)(p:Array Nat)(m:Nat):Prop:=∀ i j,i<=j->j < m->lt (gA p j) (gA p i)=false
noncomputable def Dn(lt:Nat->Nat->Bool)(p:Array Nat)(m:Nat):Prop:=∀ i j,i<=j->j < m->lt (gA p i) (gA p j)=false
section
variable {lt:Nat->Nat->Bool}
theorem Up.more(w:Kz lt){p:Array Nat}{n m:Nat}(h1:1<=n)(h:Up lt p n)(hs:∀ k,n<=k->k < m->lt (gA p k) (gA p (k - 1))=false):Up lt p m:=by
 intro i j Ka hjm;induction j with
 | zero =>
  have:i=0:=by lia
  subst this; exact w.refl _
 | succ j ih =>
  by_cases hj:j+1 < n
  ·exact h i (j+1) Ka hj
  ·by_cases e:i=j+1
   ·subst e; exact w.refl _
   ·have h1:=ih (by lia) (by lia);have h2:=hs (j+1) (by lia) hjm;exact w.trans _ _ _ h1 h2
theorem Hx(p:Array Nat):∀ (f n:Nat),n<=gS lt (o6 p f n)/\gS lt (o6 p f n)<=n+f/\(∀ k,n<=k->k < gS lt (o6 p f n)->lt (gA p k) (gA p (k - 1))=false) /\
  (gS lt (o6 p f n) < n+f->lt (gA p (gS lt (o6 p f n))) (gA p (gS lt (o6 p f n) - 1))=true):=by
 intro f;induction f with
 | zero=>intro n; exact⟨aF _,aF _,fun k h1 h2=>absurd (show k < n from h2) (by lia),fun h=>absurd (show n < n+0 from h) (by lia)⟩
 | succ f ih =>
  intro n;have e:gS lt (o6 p (f+1) n)=if lt (gA p n) (gA p (n - 1))=true then n else gS lt (o6 p f (n+1)):=by
   show gS lt (if lt (gA p n) (gA p (n - 1))=true then uF n else o6 p f (n+1))=_;split <;> rfl
  rw [e];by_cases c:lt (gA p n) (gA p (n - 1))=true
  ·rw [if_pos c];exact⟨aF _,by lia,fun k h1 h2=>absurd h2 (by lia),fun _=>c⟩
  ·rw [if_neg c];obtain⟨h1,h2,h3,h4⟩:=ih (n+1);refine⟨by lia,by lia,fun k k1 k2=>?_,fun h=>h4 (by lia)⟩;by_cases e:k=n
   ·subst e; simpa using c
   ·exact h3 k (by lia) k2
theorem gR{p:Array Nat}{i j:Nat}(hj:j<=p.size)(k:Nat):gA (gb p i j) k=if i<=k/\k < j then gA p (i+j - 1 - k) else gA p k:=by
 rw [Ab,gb,getElem?_mirror_all hj];split <;> rw [Ab]
theorem lx(p:Array Nat)(i j:Nat):(gb p i j).size=p.size:=mirror_size _ _ _ _
theorem jq(p:Array Nat)(i j:Nat):(gb p i j).Perm p:=mirror_perm _ _ _ _
theorem Dn.rev{p:Array Nat}{a n:Nat}(w:Kz lt)(hn:n<=p.size)(h:Dn lt p n)(he:∀ k,a<=k->k < n->lt (gA p (n - 1)) (gA p k)=false):Dn lt (gb p a n) n:=by
 intro i j Ka Vj;rw [gR hn,gR hn];by_cases hi:a<=i
 ·rw [if_pos ⟨hi,by lia⟩,if_pos ⟨by lia,Vj⟩];exact w.trans _ _ _ (he (a+n - 1 - j) (by lia) (by lia)) (h (a+n - 1 - i) (n - 1) (by lia) (by lia))
 ·rw [if_neg (by lia)];by_cases hj:a<=j
  ·rw [if_pos ⟨hj,Vj⟩];exact h i (a+n - 1 - j) (by lia) (by lia)
  ·rw [if_neg (by lia)];exact h i j Ka Vj
noncomputable def Eqs(lt:Nat->Nat->Bool)(p:Array Nat)(n q:Nat):Prop:=q+1<=n/\∀ k,n - (q+1)<=k->k < n->lt (gA p (n - 1)) (gA p k)=false
theorem Dn.one(w:Kz lt){p:Array Nat}{n:Nat}(h1:1<=n)(h:Dn lt p n)(hc:lt (gA p (n - 1)) (gA p n)=false):Dn lt p (n+1):=by
 intro i j Ka hj;by_cases e:j=n
 ·subst e;by_cases e2:i=j
  ·subst e2; exact w.refl _
  ·exact w.trans _ _ _ hc (h i (j - 1) (by lia) (by lia))
 ·exact h i j Ka (by lia)
theorem L1(w:Kz lt):∀ (f:Nat) (p:Array Nat) (n q:Nat),n+f<=p.size->Dn lt p n->Eqs lt p n q->∃ p' n' q',gS lt (kr f p n q)=(p',n',q')/\p'.Perm p/\p'.size=p.size/\n<=n'/\n'<=n+f/\Dn lt p' n'/\Eqs lt p' n' q':=by
 intro f;induction f with
 | zero=>intro p n q _ hd he; exact⟨p,n,q,rfl,lQ _,rfl,aF _,aF _,hd,he⟩
 | succ f ih =>
  intro p n q hs hd he;have h1:1<=n:=by have:=he.1; lia
  have e:gS lt (kr (f+1) p n q)=if lt (gA p n) (gA p (n - 1))=true then (if q > 0 then gS lt (kr f (gb p (n - (q+1)) n) (n+1) 0) else gS lt (kr f p (n+1) 0))
    else if lt (gA p (n - 1)) (gA p n)=true then (p,n,q) else gS lt (kr f p (n+1) (q+1)):=by
   show gS lt (if lt (gA p n) (gA p (n - 1))=true then (if q > 0 then kr f (gb p (n - (q+1)) n) (n+1) 0 else kr f p (n+1) 0) else .ask (gA p (n - 1)) (gA p n) fun d=>if d=true then .ret (p,n,q) else kr f p (n+1) (q+1))=_;split
   ·split <;> rfl
   ·show gS lt (if lt (gA p (n - 1)) (gA p n)=true then uF (p,n,q) else kr f p (n+1) (q+1))=_;split <;> rfl
  rw [e];by_cases c:lt (gA p n) (gA p (n - 1))=true
  ·rw [if_pos c];have ca:=w.asymm _ _ c;by_cases hq:q > 0
   ·rw [if_pos hq];have d1:Dn lt (gb p (n - (q+1)) n) n:=hd.rev w (by lia) he.2;have en:gA (gb p (n - (q+1)) n) n=gA p n:=by rw [gR (by lia),if_neg (by lia)]
    have ca':lt (gA (gb p (n - (q+1)) n) (n - 1)) (gA (gb p (n - (q+1)) n) n)=false:=by
     rw [en,gR (by lia)];split
     ·-- an item of WQ VX is above p n
      exact w.trans _ _ _ ca (hd _ (n - 1) (by lia) (by lia))
     ·exact ca
    obtain⟨p',n',q',z,h2,h3,h4,h5,h6,h7⟩:=ih (gb p (n - (q+1)) n) (n+1) 0 (by rw [lx]; lia) (d1.one w h1 ca') ⟨by lia,fun k k1 k2=>by
     have:k=n:=by lia
     subst this; exact w.refl _⟩
    exact⟨p',n',q',z,h2.trans (jq _ _ _),h3.trans (lx _ _ _),by lia,by lia,h6,h7⟩
   ·rw [if_neg hq];obtain⟨p',n',q',z,h2,h3,h4,h5,h6,h7⟩:=ih p (n+1) 0 (by lia) (hd.one w h1 ca) ⟨by lia,fun k k1 k2=>by
     have:k=n:=by lia
     subst this; exact w.refl _⟩
    exact⟨p',n',q',z,h2,h3,by lia,by lia,h6,h7⟩
  ·rw [if_neg c];have c':lt (gA p n) (gA p (n - 1))=false:=by simpa using c
   by_cases d:lt (gA p (n - 1)) (gA p n)=true
   ·rw [if_pos d];exact⟨p,n,q,rfl,lQ _,rfl,aF _,by lia,hd,he⟩
   ·rw [if_neg d];have d':lt (gA p (n - 1)) (gA p n)=false:=by simpa using d
    obtain⟨p',n',q',z,h2,h3,h4,h5,h6,h7⟩:=ih p (n+1) (q+1) (by lia) (hd.one w h1 d') ⟨by have:=he.1; lia,fun k k1 k2=>by
     rw [Nat.add_sub_cancel];by_cases e:k=n
     ·subst e; exact w.refl _
     ·exact w.trans _ _ _ (he.2 k (by lia) (by lia)) c'⟩
    exact⟨p',n',q',z,h2,h3,by lia,by lia,h6,h7⟩
theorem Dn.up{p:Array Nat}{n:Nat}(hn:n<=p.size)(h:Dn lt p n):Up lt (gb p 0 n) n:=by
 intro i j Ka Vj;rw [gR hn,gR hn,if_pos ⟨by lia,Vj⟩,if_pos ⟨by lia,by lia⟩];exact h _ _ (by lia) (by lia)
theorem CK(w:Kz lt){p:Array Nat}{n nrem:Nat}(h1:1<=n)(hn:n<=nrem)(hs:nrem<=p.size)(h:Dn lt p n):∃ p' m,gS lt (Lj n nrem p)=(m,p')/\p'.Perm p/\p'.size=p.size/\n<=m/\m<=nrem/\Up lt p' m:=by
 obtain⟨a1,a2,a3,_⟩:=Hx (lt:=lt) (gb p 0 n) (nrem - n) n;refine⟨gb p 0 n,gS lt (o6 (gb p 0 n) (nrem - n) n),by rw [Lj,kY]; rfl,jq _ _ _,lx _ _ _,a1,by lia,?_⟩;exact(h.up (by lia)).more w h1 a3
theorem sN(w:Kz lt){p:Array Nat}{n nrem:Nat}(h1:1<=n)(hn:n < nrem)(hs:nrem<=p.size)(h:Dn lt p n)(hc:lt (gA p (n - 1)) (gA p n)=false) :
  ∃ p' m,gS lt (wK n nrem p)=(m,p')/\p'.Perm p/\p'.size=p.size/\n<=m/\m<=nrem/\Up lt p' m:=by
 obtain⟨p1,n1,q1,z,z2,z3,z4,z5,z6,z7⟩:=L1 w (nrem - (n+1)) p (n+1) 0 (by lia) (h.one w h1 hc) ⟨by lia,fun k k1 k2=>by
  have:k=n:=by lia
  subst this; exact w.refl _⟩
 rw [wK,kY,z];show ∃ p' m,gS lt (if q1 > 0 then Lj n1 nrem (gb p1 (n1 - (q1+1)) n1) else Lj n1 nrem p1)=(m,p')/\_;by_cases hq:q1 > 0
 ·rw [if_pos hq];obtain⟨p',m,y1,y2,y3,y4,y5,y6⟩:=CK (nrem:=nrem) w (p:=gb p1 (n1 - (q1+1)) n1) (by lia) (by lia) (by rw [lx]; lia) (z6.rev w (by lia) z7.2);exact⟨p',m,y1,(y2.trans (jq _ _ _)).trans z2,(y3.trans (lx _ _ _)).trans z3,by lia,y5,y6⟩
 ·rw [if_neg hq];obtain⟨p',m,y1,y2,y3,y4,y5,y6⟩:=CK (nrem:=nrem) w (p:=p1) (by lia) (by lia) (by lia) z6;exact⟨p',m,y1,y2.trans z2,y3.trans z3,by lia,y5,y6⟩
theorem Jw(w:Kz lt){p:Array Nat}{nrem:Nat}(h1:1<=nrem)(hs:nrem<=p.size):∃ p' m,gS lt (kas_count nrem p)=(m,p')/\p'.Perm p/\p'.size=p.size/\1<=m/\m<=nrem/\Up lt p' m:=by
 obtain⟨a1,a2,a3,a4⟩:=Hx (lt:=lt) p (nrem - 1) 1;rw [kas_count,kY];generalize gS lt (o6 p (nrem - 1) 1)=n at a1 a2 a3 a4;have u1:Up lt p 1:=fun i j Ka hj=>by
  have:i=j:=by lia
  subst this; exact w.refl _
 have up:Up lt p n:=u1.more w (aF _) a3;by_cases e:n=nrem
 ·subst e;rw [if_pos (by simp)];exact⟨p,n,rfl,lQ _,rfl,a1,aF _,up⟩
 ·rw [if_neg (by simpa using e)];have hb:=a4 (by lia);by_cases h2:n > 1
  ·rw [if_pos h2];show ∃ p' m,gS lt (if lt (gA p 0) (gA p (n - 1))=true then uF (n,p) else wK n nrem (gb p 0 n))=(m,p')/\_;by_cases c:lt (gA p 0) (gA p (n - 1))=true
   ·rw [if_pos c];exact⟨p,n,rfl,lQ _,rfl,a1,by lia,up⟩
   ·rw [if_neg c];have c':lt (gA p 0) (gA p (n - 1))=false:=by simpa using c
    have all:∀ i j,i < n->j < n->lt (gA p i) (gA p j)=false:=fun i j hi hj =>
     w.trans _ _ _ (w.trans _ _ _ (up j (n - 1) (by lia) (by lia)) c') (up 0 i (by lia) hi)
    have d1:Dn lt (gb p 0 n) n:=fun i j Ka hj=>by
     rw [gR (by lia),gR (by lia),if_pos ⟨by lia,by lia⟩,if_pos ⟨by lia,hj⟩];exact all _ _ (by lia) (by lia)
    have hl:lt (gA (gb p 0 n) (n - 1)) (gA (gb p 0 n) n)=false:=by
     rw [gR (by lia),gR (by lia),if_pos ⟨by lia,by lia⟩,if_neg (by lia)];exact w.trans _ _ _ (w.asymm _ _ hb) (all _ _ (by lia) (by lia))
    obtain⟨p',m,y1,y2,y3,y4,y5,y6⟩:=sN (nrem:=nrem) w (p:=gb p 0 n) a1 (by lia) (by rw [lx]; lia) d1 hl;exact⟨p',m,y1,y2.trans (jq _ _ _),y3.trans (lx _ _ _),by lia,y5,y6⟩
  ·rw [if_neg h2];have e1:n=1:=by lia
   subst e1;have d1:Dn lt p 1:=fun i j Ka hj=>by
    have:i=j:=by lia
    subst this; exact w.refl _
   obtain⟨p',m,y1,y2,y3,y4,y5,y6⟩:=sN (nrem:=nrem) w (p:=p) (aF _) (by lia) hs d1 (w.asymm _ _ hb);exact⟨p',m,y1,y2,y3,by lia,y5,y6⟩
theorem Jv(w:Kz lt){p:Array Nat}{k:Nat}:∀ (f l r:Nat),l<=r->r<=k->r - l<=f->Up lt p k->(∀ i,i < l->lt (gA p k) (gA p i)=false)->(∀ i,r<=i->i < k->lt (gA p k) (gA p i)=true) ->
  ∃ m,gS lt (jj p k f l r)=m/\m<=k/\(∀ i,i < m->lt (gA p k) (gA p i)=false)/\(∀ i,m<=i->i < k->lt (gA p k) (gA p i)=true):=by
 intro f;induction f with
 | zero =>
  intro l r hlr Wf hf up h1 h2;have:l=r:=by lia
  subst this;exact⟨l,rfl,Wf,h1,h2⟩
 | succ f ih =>
  intro l r hlr Wf hf up h1 h2;have e:gS lt (jj p k (f+1) l r)=if l>=r then l else if lt (gA p k) (gA p ((l+r) / 2))=true then gS lt (jj p k f l ((l+r) / 2)) else gS lt (jj p k f ((l+r) / 2+1) r):=by
   show gS lt (if l>=r then uF l else .ask (gA p k) (gA p ((l+r) / 2)) fun c=>if c=true then jj p k f l ((l+r) / 2) else jj p k f ((l+r) / 2+1) r)=_;split
   ·rfl
   ·show gS lt (if lt (gA p k) (gA p ((l+r) / 2))=true then jj p k f l ((l+r) / 2) else jj p k f ((l+r) / 2+1) r)=_;split <;> rfl
  rw [e];by_cases c:l>=r
  ·rw [if_pos c];have:l=r:=by lia
   subst this;exact⟨l,rfl,Wf,h1,h2⟩
  ·rw [if_neg c];by_cases d:lt (gA p k) (gA p ((l+r) / 2))=true
   ·rw [if_pos d];refine ih l ((l+r) / 2) (by lia) (by lia) (by lia) up h1 fun i i1 i2=>?_;cases q:lt (gA p k) (gA p i) with
    | true=>rfl
    | false=>rw [w.trans _ _ _ (up ((l+r) / 2) i i1 i2) q] at d; cases d
   ·rw [if_neg d];refine ih ((l+r) / 2+1) r (by lia) Wf (by lia) up (fun i hi=>?_) h2;exact w.trans _ _ _ (up i ((l+r) / 2) (by lia) (by lia)) (by simpa using d)
theorem Ac{p:Array Nat}{src d:Nat}(hs:src < p.size)(hd:d<=src)(k:Nat):gA (bubble p src d) k=if k=src - d then gA p src else if src - d < k/\k<=src then gA p (k - 1) else gA p k:=by
 rw [Ab,getElem?_bubble hs d hd,Ab p src,Ab p (k - 1),Ab p k];by_cases h1:k=src - d
 ·rw [if_pos h1,if_pos h1]
 ·rw [if_neg h1,if_neg h1];by_cases h2:src - d < k/\k<=src
  ·rw [if_pos h2,if_pos h2]
  ·rw [if_neg h2,if_neg h2]
theorem O9(w:Kz lt):∀ (f:Nat) (p:Array Nat) (k:Nat),k+f<=p.size->Up lt p k->∃ p',gS lt (kas_bin f p k)=p'/\p'.Perm p/\p'.size=p.size/\Up lt p' (k+f):=by
 intro f;induction f with
 | zero=>intro p k _ up; exact⟨p,rfl,lQ _,rfl,up⟩
 | succ f ih =>
  intro p k hs up;obtain⟨m,e,hm,h1,h2⟩:=Jv w k 0 k (cB _) (aF _) (aF _) up (fun i hi=>absurd hi (by lia)) (fun i i1 i2=>absurd i1 (by lia));have up':Up lt (bubble p k (k - m)) (k+1):=by
   intro i j Ka hj;rw [Ac (by lia) (by lia),Ac (by lia) (by lia)];have ek:k - (k - m)=m:=by lia
   rw [ek];by_cases j1:j=m
   ·rw [if_pos j1];by_cases i1:i=m
    ·rw [if_pos i1]; exact w.refl _
    ·rw [if_neg i1,if_neg (by lia)]; exact h1 i (by lia)
   ·rw [if_neg j1];by_cases j2:m < j/\j<=k
    ·rw [if_pos j2];by_cases i1:i=m
     ·rw [if_pos i1]; exact w.asymm _ _ (h2 (j - 1) (by lia) (by lia))
     ·rw [if_neg i1];by_cases i2:m < i/\i<=k
      ·rw [if_pos i2]; exact up _ _ (by lia) (by lia)
      ·rw [if_neg i2]; exact up _ _ (by lia) (by lia)
    ·rw [if_neg j2,if_neg (by lia),if_neg (by lia)]; exact up _ _ Ka (by lia)
  obtain⟨p',z,z1,z2,z3⟩:=ih (bubble p k (k - m)) (k+1) (by rw [bubble_size]; lia) up';refine⟨p',?_,z1.trans (bubble_perm _ _ _),z2.trans (bubble_size _ _ _),by rw [show k+(f+1)=k+1+f by lia]; exact z3⟩;rw [kas_bin,kY,e]; exact z
theorem L0(w:Kz lt){n:Nat}(h1:1<=n):∃ p,gS lt (kas_sort n)=p/\p.toList.Perm (ib n)/\p.size=n/\Up lt p n:=by
 obtain⟨p,m,z,z1,z2,z3,z4,z5⟩:=Jw w (p:=(ib n).toArray) h1 (by simp);have zs:p.size=n:=by rw [z2]; simp
 have zp:p.toList.Perm (ib n):=by simpa using z1.toList
 rw [kas_sort,kY,z];show ∃ q,gS lt (if m < n then kas_bin (n - max m 1) p (max m 1) else .ret p)=q/\_;by_cases c:m < n
 ·rw [if_pos c];have em:max m 1=m:=by lia
  rw [em];obtain⟨p',y,y1,y2,y3⟩:=O9 w (n - m) p m (by lia) z5;exact⟨p',y,(by simpa using y1.toList:p'.toList.Perm p.toList).trans zp,y2.trans zs,by rw [show n=m+(n - m) by lia]; exact y3⟩
 ·rw [if_neg c];have:m=n:=by lia
  subst this;exact⟨p,rfl,zp,zs,z5⟩
end
end K2
end
section
namespace K2
open PySem PySem.Spec PyProof.Rows L2
open PySem.AutoSeq1 (wpAny_loadPart')
open PySem.MeetsSeq PySem.MeetsSeq2 PySem.MeetsSeq3 PySem.SeqAt
noncomputable def yF(A:dj)(s:aw)(y x:Value)(b:Bool):Prop :=
 ∀ (prog:bJ) (w:World) (E:Value->aw->Prop) (Q:Value->aw->Prop),Q (.bool b) s->wpAny (model prog w) A (richCompare .Lt y x) Q E s
noncomputable def qP(e l:Nat->Bool)(n m:Nat):Nat->Nat->Bool
 | 0,_=>decide (n < m)
 | f+1,i=>if e i=true then qP e l n m f (i+1) else l i
theorem PW(l b:Addr)(xs ys:Array Value)(n m:Nat)(dd de:Option Addr)(sl sm:Array (Option Value))(e lt:Nat->Bool)(k:Nat) :
  ∀ i:Nat,i<=min xs.size ys.size->min xs.size ys.size - i=k->Meets (Builtin.«list.__eq__.loop» ⟨[.ref l,.ref b,Cd i,Cd 0],[]⟩)
   (fun A R s=>s.heap.get? l=some { cls:=.type "list",dict:=dd,data:=.seq xs n,slots:=sl }/\s.heap.get? b=some { cls:=.type "list",dict:=de,data:=.seq ys m,slots:=sm } /\
    (∀ j (h1:j < xs.size) (h2:j < ys.size),EqAt A.in1 s xs[j] ys[j] (e j)/\yF A.in1 s xs[j] ys[j] (lt j)) /\
    R (.ok (.ret (.bool (qP e lt xs.size ys.size k i)))) s):=by
 induction k with
 | zero =>
  intro i hi hk prog w A R s h;obtain⟨hp,g,d,tk,os⟩:=s;obtain⟨hl,hb,he,h⟩:=h
  wp_walk using cc hl,cc hb
  by_cases c:xs.size<=ys.size
  ·have h1:xs[((i:Nat):Int).toNat]?=none:=by simp; lia
   rw [h1]
   wp_walk using cc hl,cc hb
   exact h
  ·have h2:ys[((i:Nat):Int).toNat]?=none:=by simp; lia
   rw [h2];cases q:xs[((i:Nat):Int).toNat]? with
   | none =>
    wp_walk using cc hl,cc hb
    exact h
   | some v =>
    wp_walk using cc hl,cc hb
    exact h
 | succ k ih =>
  intro i hi hk prog w A R s h;obtain⟨hp,g,d,tk,os⟩:=s;obtain⟨hl,hb,he,h⟩:=h
  wp_walk using cc hl,cc hb
  have l1:i < xs.size:=by lia
  have l2:i < ys.size:=by lia
  have h1:xs[((i:Nat):Int).toNat]?=some xs[i]:=by simp [l1]
  have h2:ys[((i:Nat):Int).toNat]?=some ys[i]:=by simp [l2]
  have hc:((i:Int)+1)=((i+1:Nat):Int):=by push_cast; rfl
  rw [h1,h2];refine ag ((he i l1 l2).1 prog w _ _ ?_);cases q:e i with
  | true =>
   rw [qP,q,if_pos rfl] at h
   wp_walk
   rw [hc];exact⟨plainId_quiet plain_eq_loop _,codeAny_builtin entry_eq_loop (by
    rw [Lv plain_eq_loop _];exact ih (i+1) (by lia) (by lia) prog w A R _ ⟨hl,hb,he,h⟩)⟩
  | false =>
   rw [qP,q,if_neg (by simp)] at h
   wp_walk using cc hl,cc hb
   rw [h1,h2];have Vc:=(he i l1 l2).2 prog w
   wp_walk using Vc
   exact h
theorem zU(l b:Addr)(xs ys:Array Value)(n m:Nat)(dd de:Option Addr)(sl sm:Array (Option Value))(e lt:Nat->Bool) :
  Meets (Builtin.«list.__lt__» ⟨[.ref l,.ref b],[]⟩)
   (fun A R s=>s.heap.get? l=some { cls:=.type "list",dict:=dd,data:=.seq xs n,slots:=sl }/\s.heap.get? b=some { cls:=.type "list",dict:=de,data:=.seq ys m,slots:=sm } /\
    (∀ j (h1:j < xs.size) (h2:j < ys.size),EqAt A.in1 s xs[j] ys[j] (e j)/\yF A.in1 s xs[j] ys[j] (lt j)) /\
    R (.ok (.ret (.bool (qP e lt xs.size ys.size (min xs.size ys.size) 0)))) s):=by
 intro prog w A R s h;obtain⟨hp,g,d,tk,os⟩:=s;obtain⟨hl,hb,he,h⟩:=h;have f3:=EX
 wp_walk using cc hl,cc hb
 exact⟨plainId_quiet plain_eq_loop _,codeAny_builtin entry_eq_loop (by
  rw [Lv plain_eq_loop _];exact PW l b xs ys n m dd de sl sm e lt _ 0 (cB _) rfl prog w A R _ ⟨hl,hb,he,h⟩)⟩
theorem wV(l b:Addr)(xs ys:Array Value)(n m:Nat)(dd de:Option Addr)(sl sm:Array (Option Value))(e lt:Nat->Bool) :
  Meets (Builtin.«tuple.__lt__» ⟨[.ref l,.ref b],[]⟩)
   (fun A R s=>s.heap.get? l=some { cls:=.type "tuple",dict:=dd,data:=.seq xs n,slots:=sl }/\s.heap.get? b=some { cls:=.type "tuple",dict:=de,data:=.seq ys m,slots:=sm } /\
    (∀ j (h1:j < xs.size) (h2:j < ys.size),EqAt A.in1 s xs[j] ys[j] (e j)/\yF A.in1 s xs[j] ys[j] (lt j)) /\
    R (.ok (.ret (.bool (qP e lt xs.size ys.size (min xs.size ys.size) 0)))) s) :=
 .of_wp fun prog w A R s h=>by
  obtain⟨hp,g,d,tk,os⟩:=s;obtain⟨hl,hb,he,h⟩:=h;have f2:=oB;have zl:(xs.toList.zip ys.toList).length=min xs.size ys.size:=by simp
  wp_walk using cc hl,cc hb,kq _ (fun rest c s'=>c.1=none/\s'=⟨hp,g,d,tk,os⟩/\∃ i,i<=min xs.size ys.size/\rest=(xs.toList.zip ys.toList).drop i /\
   R (.ok (.ret (.bool (qP e lt xs.size ys.size (min xs.size ys.size - i) i)))) ⟨hp,g,d,tk,os⟩) _
  case turn =>
   rintro⟨y,x⟩ rest c s' ⟨hc,rfl,i,hi,hz,hR⟩;have il:i < min xs.size ys.size:=by
    have:=congrArg dU hz;rw [cx,zl,aj] at this;lia
   have l1:i < xs.size:=by lia
   have l2:i < ys.size:=by lia
   rw [gw (by rw [zl]; exact il)] at hz;injection hz with XU Nk
   have ey:y=xs[i]/\x=ys[i]:=by simpa using XU
   obtain⟨rfl,rfl⟩:=ey;obtain⟨k,ek⟩:∃ k,min xs.size ys.size - i=k+1:=⟨min xs.size ys.size - i - 1,by lia⟩;rw [ek,qP] at hR;refine ag ((he i l1 l2).1 prog w _ _ ?_);cases q:e i with
   | true =>
    rw [q,if_pos rfl] at hR
    wp_walk
    exact⟨rfl,rfl,i+1,by lia,Nk,by rw [show min xs.size ys.size - (i+1)=k by lia]; exact hR⟩
   | false =>
    rw [q,if_neg (by simp)] at hR;have Vc:=(he i l1 l2).2 prog w
    wp_walk using Vc
    exact⟨_,rfl,by simpa using hR⟩
  case fin =>
   rintro⟨c1,c2⟩ s' ⟨hc,rfl,i,hi,hz,hR⟩;simp only at hc;subst hc;have il:min xs.size ys.size - i=0:=by
    have:=congrArg dU hz;rw [cx,zl,aE] at this;lia
   rw [il,qP] at hR
   wp_walk
   exact⟨_,rfl,by simpa [sD] using hR⟩
  case h =>
   exact⟨rfl,rfl,0,cB _,rfl,by simpa using h⟩
theorem JP{A:dj}{s:aw}{l b:Addr}{xs ys:Array Value}{e lt:Nat->Bool}(hl:s.heap.IsList l xs)(hb:s.heap.IsList b ys)(hu:A.units < cLine)
  (he:∀ j (h1:j < xs.size) (h2:j < ys.size),EqAt A.in1 s xs[j] ys[j] (e j)/\yF A.in1 s xs[j] ys[j] (lt j)):yF A s (.ref l) (.ref b) (qP e lt xs.size ys.size (min xs.size ys.size) 0):=by
 intro prog w E Q hq;obtain⟨⟨cls,dd,data,sl⟩,ho,hc,n,hd⟩:=id hl;obtain⟨⟨N9,B9,data2,Hw⟩,DI,z9,n2,hd2⟩:=id hb;simp only at hc hd z9 hd2;subst hc hd z9 hd2;exact vP (op:=.Lt) ⟨_,ho,rfl⟩ ⟨_,DI,rfl⟩ sA Je (Hf _ _) (zU l b xs ys n n2 dd B9 sl Hw e lt)
  ⟨ho,DI,he,(fun x=>nomatch x),hq⟩ hu
theorem FJ{A:dj}{s:aw}{l b:Addr}{xs ys:Array Value}{e lt:Nat->Bool}(hl:s.heap.IsTuple l xs)(hb:s.heap.IsTuple b ys)(hu:A.units < cLine)
  (he:∀ j (h1:j < xs.size) (h2:j < ys.size),EqAt A.in1 s xs[j] ys[j] (e j)/\yF A.in1 s xs[j] ys[j] (lt j)):yF A s (.ref l) (.ref b) (qP e lt xs.size ys.size (min xs.size ys.size) 0):=by
 intro prog w E Q hq;obtain⟨⟨cls,dd,data,sl⟩,ho,hc,n,hd⟩:=id hl;obtain⟨⟨N9,B9,data2,Hw⟩,DI,z9,n2,hd2⟩:=id hb;simp only at hc hd z9 hd2;subst hc hd z9 hd2;exact vP (op:=.Lt) ⟨_,ho,rfl⟩ ⟨_,DI,rfl⟩ kK qL (pb _ _) (wV l b xs ys n n2 dd B9 sl Hw e lt)
  ⟨ho,DI,he,(fun x=>nomatch x),hq⟩ hu
theorem nk(xs ys:List D):∀ (k i:Nat),i<=min xs.length ys.length->min xs.length ys.length - i=k ->
  qP (fun j=>hZ (xs.getD j .eh) (ys.getD j .eh)) (fun j=>nH (xs.getD j .eh) (ys.getD j .eh)) xs.length ys.length k i=kO (xs.drop i) (ys.drop i)
 | 0,i,hi,hk=>by
  rw [qP];by_cases c:xs.length<=ys.length
  ·have e1:xs.drop i=[]:=kL (by lia);rw [e1];cases q:ys.drop i with
   | nil =>
    have:=congrArg dU q;rw [cx,aE] at this;exact decide_eq_false (by lia)
   | cons y r =>
    have:=congrArg dU q;rw [cx,aj] at this;exact decide_eq_true (by lia)
  ·have e1:ys.drop i=[]:=kL (by lia);rw [e1];cases q:xs.drop i with
   | nil =>
    have:=congrArg dU q;rw [cx,aE] at this;exact decide_eq_false (by lia)
   | cons y r=>exact decide_eq_false (by lia)
 | k+1,i,hi,hk=>by
  have l1:i < xs.length:=by lia
  have l2:i < ys.length:=by lia
  rw [qP,gw l1,gw l2,lD,nk xs ys k (i+1) (by lia) (by lia)];have g1:xs.getD i .eh=xs[i]:=by rw [dI,au l1]; rfl
  have g2:ys.getD i .eh=ys[i]:=by rw [dI,au l2]; rfl
  rw [g1,g2]
theorem jr{h:Heap}:∀ {ds:List D} {vs:List Value} {as:List Addr},gI h vs (lW ds) as->∀ j (hj:j < vs.length),∃ bs,Reads h vs[j] (pd (ds.getD j .eh)) bs
 | [],vs,as,r,j,hj=>by cases r; exact absurd hj (uE _)
 | d :: ds,_,_,.cons (v:=v) (vs:=vs) r1 r2,j,hj=>by
  cases j with
  | zero=>exact⟨_,r1⟩
  | succ j=>exact jr r2 j (by simpa using hj)
theorem readsAll_len{h:Heap}:∀ {ds:List D} {vs:List Value} {as:List Addr},gI h vs (lW ds) as->vs.length=ds.length
 | [],_,_,r=>by cases r; rfl
 | d :: ds,_,_,.cons r1 r2=>by rw [aj,aj,readsAll_len r2]
theorem nW:∀ {ds:List D},pQ ds=true->∀ j,nr (ds.getD j .eh)=true
 | [],_,j=>by rw [List.getD_nil]; rfl
 | d :: ds,h,0=>by
  have h:(nr d&&pQ ds)=true:=h;rw [aH] at h; simpa using h.1
 | d :: ds,h,j+1=>by
  have h:(nr d&&pQ ds)=true:=h;rw [aH] at h; simpa using nW h.2 j
theorem kg:∀ (ds:List D) (j:Nat),(pd (ds.getD j .eh)).depth<=cq (lW ds)
 | [],j=>by rw [List.getD_nil]; exact aF _
 | d :: ds,0=>by
  show (pd d).depth<=cq (pd d :: lW ds);simp only [cq]; lia
 | d :: ds,j+1=>by
  have:=kg ds j;show (pd (ds.getD j .eh)).depth<=cq (pd d :: lW ds);simp only [cq]; lia
theorem pV:∀ {l:List mx} {ds:List D},eT l ds=true->∀ j,j < ds.length->∃ s∈l,cP s (ds.getD j .eh)=true/\l[j]?=some s
 | [],[],_,j,hj=>absurd hj (uE _)
 | [],_ :: _,h,_,_=>by cases h
 | _ :: _,[],h,_,_=>by cases h
 | s :: l,d :: ds,h,0,_=>by
  have h:(cP s d&&eT l ds)=true:=h;rw [aH] at h;exact⟨s,by simp,by simpa using h.1,by simp⟩
 | s :: l,d :: ds,h,j+1,hj=>by
  have h:(cP s d&&eT l ds)=true:=h;rw [aH] at h;obtain⟨s',h1,h2,h3⟩:=pV h.2 j (by simpa using hj);exact⟨s',aL _ h1,by simpa using h2,by simpa using h3⟩
theorem pW:∀ {s:mx} {ds:List D},gj s ds=true->∀ j,j < ds.length->cP s (ds.getD j .eh)=true
 | s,[],_,j,hj=>absurd hj (uE _)
 | s,d :: ds,h,0,_=>by
  have h:(cP s d&&gj s ds)=true:=h;rw [aH] at h; simpa using h.1
 | s,d :: ds,h,j+1,hj=>by
  have h:(cP s d&&gj s ds)=true:=h;rw [aH] at h; simpa using pW h.2 j (by simpa using hj)
theorem BD{A:dj}{s:aw}{xs ys:List D}{vs ws:Array Value}{as bs:List Addr}(r1:gI s.heap vs.toList (lW xs) as)(r2:gI s.heap ws.toList (lW ys) bs)(n1:pQ xs=true)(n2:pQ ys=true)
  (hu:A.units+cq (lW xs) < cLine) (j:Nat) (h1:j < vs.size) (h2:j < ws.size):EqAt A s vs[j] ws[j] (hZ (xs.getD j .eh) (ys.getD j .eh)):=by
 obtain⟨VI,q1⟩:=jr r1 j (by simpa using h1);obtain⟨VG,q2⟩:=jr r2 j (by simpa using h2);have m1:=nW n1 j;have m2:=nW n2 j;have dp:=kg xs j;have:=eqAt_reads (pd (xs.getD j .eh)) (pd (ys.getD j .eh)) A s _ _ _ _ q1 q2 (jQ _ m1) (jQ _ m2) (by lia);rw [u6 _ _ m1 m2] at this;simpa using this
theorem xJ:∀ (n:Nat) (sh:mx) (a b:D) (A:dj) (s:aw) (u v:Value) (as bs:List Addr),(pd a).depth<=n->cP sh a=true->cP sh b=true->nr a=true->nr b=true->Reads s.heap u (pd a) as->Reads s.heap v (pd b) bs->A.units+n < cLine->yF A s u v (nH a b):=by
 intro n;induction n using Nat.strongRecOn with
 | _ n ih =>
 intro sh a b A s u v as bs hn h1 h2 n1 n2 r1 r2 hu;cases sh with
 | int =>
  first | obtain⟨_,rfl⟩:=dg h1 | obtain⟨_,rfl⟩:=dc h1 | obtain⟨_,rfl⟩:=df h1
  first | obtain⟨_,rfl⟩:=dg h2 | obtain⟨_,rfl⟩:=dc h2 | obtain⟨_,rfl⟩:=df h2
  cases r1; cases r2;intro prog w E Q hq;exact HT.CS A s _ _ _ _ prog w E Q hq
 | tup l =>
  first | obtain⟨_,rfl⟩:=dg h1 | obtain⟨_,rfl⟩:=dc h1 | obtain⟨_,rfl⟩:=df h1
  first | obtain⟨_,rfl⟩:=dg h2 | obtain⟨_,rfl⟩:=dc h2 | obtain⟨_,rfl⟩:=df h2
  rename_i xs ys;have n1:pQ xs=true:=n1;have n2:pQ ys=true:=n2;cases r1 with
  | tuple k1 k2 k3 k4 =>
   cases r2 with
   | tuple m1 m2 m3 m4 =>
    rename_i p o vs c p' o' ws c';have hd:(pd (.tup xs)).depth=cq (lW xs)+1:=rfl;obtain⟨n',rfl⟩:∃ n',n=n'+1:=⟨n - 1,by lia⟩;have z1:=readsAll_len k4;have z2:=readsAll_len m4;have e1:vs.size=xs.length:=by simpa using z1
    have e2:ws.size=ys.length:=by simpa using z2
    have base:=FJ (A:=A) (s:=s) (e:=fun j=>hZ (xs.getD j .eh) (ys.getD j .eh)) (lt:=fun j=>nH (xs.getD j .eh) (ys.getD j .eh)) ⟨_,k1,k2,_,k3⟩ ⟨_,m1,m2,_,m3⟩ (by lia) (fun j j1 j2=>by
     refine⟨BD k4 m4 n1 n2 (by show A.units+1+_ < _; lia) j j1 j2,?_⟩;obtain⟨VI,q1⟩:=jr k4 j (by simpa using j1);obtain⟨VG,q2⟩:=jr m4 j (by simpa using j2);obtain⟨sj,hsj,g1,g2⟩:=pV (l:=l) (ds:=xs) h1 j (by lia);obtain⟨sj',Yb,YK,Vw⟩:=pV (l:=l) (ds:=ys) h2 j (by lia);rw [g2] at Vw; cases Vw;have dp:=kg xs j;have:=ih n' (by lia) sj (xs.getD j .eh) (ys.getD j .eh) A.in1 s _ _ _ _ (by lia) g1 YK (nW n1 j) (nW n2 j) q1 q2 (by show A.units+1+n' < cLine; lia);simpa using this)
    have fin:=nk xs ys (min xs.length ys.length) 0 (cB _) rfl;rw [e1,e2,fin] at base;exact base
 | lst l =>
  first | obtain⟨_,rfl⟩:=dg h1 | obtain⟨_,rfl⟩:=dc h1 | obtain⟨_,rfl⟩:=df h1
  first | obtain⟨_,rfl⟩:=dg h2 | obtain⟨_,rfl⟩:=dc h2 | obtain⟨_,rfl⟩:=df h2
  rename_i xs ys;have n1:pQ xs=true:=n1;have n2:pQ ys=true:=n2;cases r1 with
  | list k1 k2 k3 k4 =>
   cases r2 with
   | list m1 m2 m3 m4 =>
    rename_i p o vs c p' VI o' ws c' VG;have hd:(pd (.dJ xs)).depth=cq (lW xs)+1:=rfl;obtain⟨n',rfl⟩:∃ n',n=n'+1:=⟨n - 1,by lia⟩;have z1:=readsAll_len k4;have z2:=readsAll_len m4;have e1:vs.size=xs.length:=by simpa using z1
    have e2:ws.size=ys.length:=by simpa using z2
    have base:=JP (A:=A) (s:=s) (e:=fun j=>hZ (xs.getD j .eh) (ys.getD j .eh)) (lt:=fun j=>nH (xs.getD j .eh) (ys.getD j .eh)) ⟨_,k1,k2,_,k3⟩ ⟨_,m1,m2,_,m3⟩ (by lia) (fun j j1 j2=>by
     refine⟨BD k4 m4 n1 n2 (by show A.units+1+_ < _; lia) j j1 j2,?_⟩;obtain⟨VI,q1⟩:=jr k4 j (by simpa using j1);obtain⟨VG,q2⟩:=jr m4 j (by simpa using j2);have dp:=kg xs j;have:=ih n' (by lia) l (xs.getD j .eh) (ys.getD j .eh) A.in1 s _ _ _ _ (by lia) (pW (s:=l) (ds:=xs) h1 j (by lia)) (pW (s:=l) (ds:=ys) h2 j (by lia)) (nW n1 j) (nW n2 j) q1 q2 (by show A.units+1+n' < cLine; lia);simpa using this)
    have fin:=nk xs ys (min xs.length ys.length) 0 (cB _) rfl;rw [e1,e2,fin] at base;exact base
end K2
end
section
namespace K2
open PySem PySem.Spec PyProof.Rows L2 PySem.W
section
variable {prog:bJ} {w:World} {A:dj} {E:Value->aw->Prop} {s:aw}
theorem LS {at':Addr} {bX:List Value} {n:Nat} {P:PySem.Fin->aw->Prop} (Ke:s.heap.get? at'=some (wH "list" bX.toArray n)) (Aj:bX.length < 2)
  (done:P (.done (.ret .none)) { s with heap:=sortedHeap s.heap at' bX bX.toArray }):wpAny (model prog w) A (Builtin.«list.sort» ⟨[.ref at'],[]⟩) P E s:=by
 rw [list_sort_plain];have lt':at' < s.heap.objs.size:=aW Ke;refine ag (listItems_at Ke rfl (ag (listUpdate_at Ke rfl ?_)));obtain⟨c,hc⟩:∃ c,(s.heap.update at' (iu fun _=>#[])).get? at'=some (wH "list" #[] c):=⟨_,get?_update_seq Ke (fun _=>#[])⟩;refine ag (seqEpoch_at hc rfl (ag (wpAny_newTuple (ag (wpAny_newList (eL ?_))))));have h6:(((s.heap.update at' (iu fun _=>#[])).push (wH "tuple" bX.toArray 0)).push (wH "list" #[] 0)).get? at'=some (wH "list" #[] c):=by
  rw [Heap.get?_push_ne _ _ _ (by rw [size_push',B5]; exact bL (Nat.lt_succ_of_lt lt')),Heap.get?_push_ne _ _ _ (by rw [B5]; exact bL lt')];exact hc
 show wpAny (model prog w) A _ P E { s with heap:=((s.heap.update at' (iu fun _=>#[])).push (wH "tuple" bX.toArray 0)).push (wH "list" #[] 0) };dsimp only;have Zq:bX.toArray.size < 2:=by simpa using Aj
 rw [if_pos Zq,if_pos Zq];refine ag (aA ?_);rw [StateT.run_pure];refine ag (aA ?_);dsimp only;have es:(bX.toArray.zip bX.toArray).map (·.2)=bX.toArray:=by
  apply Array.toList_inj.mp;simp [List.map_snd_zip]
 refine ag (seqEpoch_at h6 rfl (ag (listUpdate_at h6 rfl ?_ (hsz2:=by rw [show (arrOf (SortSt.mk' general' (bX.toArray.zip bX.toArray) #[] 7 none)).map (·.2)=bX.toArray from es,cQ]; simp; lia))));simp only [bne_self_eq_false,aq,if_false];refine aA ?_;rw [show (arrOf (SortSt.mk' general' (bX.toArray.zip bX.toArray) #[] 7 none)).map (·.2)=bX.toArray from es];exact done
theorem E9{l:Addr}{bX:List Value}{Q:Value->aw->Prop}(hl:s.heap.IsList l bX.toArray)(Aj:bX.length < 2)
  (done:Q (.ref (s.heap.objs.size+1)) { s with heap:=sortedAll s.heap bX bX.toArray }):wpAny (model prog w) A (call (.builtin "sorted") [.ref l]) Q E s:=by
 refine Calls.call_function_entry kind_sorted plain_sorted entry_sorted (args_sorted1 _) ?_;unfold Builtin.«sorted»;refine ag (m:=checkCount "sorted" 1 1 _) (aA (ag (collect_list hl (ag (wpAny_newList ?_)))));have e1:((s.heap.push (wH "list" #[] 0)).update s.heap.objs.size (iu (·++bX.toArray))).objs.size=s.heap.objs.size+1:=by rw [B5,size_push']
 have e2:(((s.heap.push (wH "list" #[] 0)).update s.heap.objs.size (iu (·++bX.toArray))).push (wH "list" bX.toArray 0)).get? (s.heap.objs.size+1)=some (wH "list" bX.toArray 0):=by
  rw [<-e1]; exact bt _ rfl
 show wpAny _ _ _ _ _ { s with heap:=((s.heap.push (wH "list" #[] 0)).update s.heap.objs.size (iu (·++bX.toArray))).push (wH "list" bX.toArray 0) };rw [e1];refine ag (eL (cU slot_list_sort ⟨_,e2,rfl⟩ entry_list_sort (LS e2 Aj ⟨_,rfl,?_⟩) (args_list_sort _)));exact aA ⟨_,rfl,done⟩
end
section
open PySem.SeqAt
noncomputable def Ol(A:dj)(s:aw)(y x:Value)(b:Bool):Prop :=
 ∀ (prog:bJ) (w:World) (E:Value->aw->Prop) (Q:Bool->aw->Prop),Q b s->wpAny (model prog w) A (oneLt' true y x) Q E s
theorem Fw{A:dj}{s:aw}{l b:Addr}{xs ys:Array Value}{e lt:Nat->Bool}(hl:s.heap.IsList l xs)(hb:s.heap.IsList b ys)(hu:A.units < cLine)
  (he:∀ j (h1:j < xs.size) (h2:j < ys.size),EqAt A.in1 s xs[j] ys[j] (e j)/\yF A.in1 s xs[j] ys[j] (lt j)):Ol A s (.ref l) (.ref b) (qP e lt xs.size ys.size (min xs.size ys.size) 0):=by
 intro prog w E Q hq;obtain⟨⟨cls,dd,data,sl⟩,ho,hc,n,hd⟩:=id hl;obtain⟨⟨N9,B9,data2,Hw⟩,DI,z9,n2,hd2⟩:=id hb;simp only at hc hd z9 hd2;subst hc hd z9 hd2;rw [oneLt'_eq];simp only [if_true];refine ag (wpAny_cRoomFor hu (ag (GZ (T:="list") ⟨_,ho,rfl⟩ sA ?_)));exact call_meets sA ⟨_,ho,rfl⟩ Je (Hf _ _) (zU l b xs ys n n2 dd B9 sl Hw e lt) ⟨ho,DI,he,sx hq⟩
theorem C7{A:dj}{s:aw}{l b:Addr}{xs ys:Array Value}{e lt:Nat->Bool}(hl:s.heap.IsTuple l xs)(hb:s.heap.IsTuple b ys)(hu:A.units < cLine)
  (he:∀ j (h1:j < xs.size) (h2:j < ys.size),EqAt A.in1 s xs[j] ys[j] (e j)/\yF A.in1 s xs[j] ys[j] (lt j)):Ol A s (.ref l) (.ref b) (qP e lt xs.size ys.size (min xs.size ys.size) 0):=by
 intro prog w E Q hq;obtain⟨⟨cls,dd,data,sl⟩,ho,hc,n,hd⟩:=id hl;obtain⟨⟨N9,B9,data2,Hw⟩,DI,z9,n2,hd2⟩:=id hb;simp only at hc hd z9 hd2;subst hc hd z9 hd2;rw [oneLt'_eq];simp only [if_true];refine ag (wpAny_cRoomFor hu (ag (GZ (T:="tuple") ⟨_,ho,rfl⟩ kK ?_)));exact call_meets kK ⟨_,ho,rfl⟩ qL (pb _ _) (wV l b xs ys n n2 dd B9 sl Hw e lt) ⟨ho,DI,he,sx hq⟩
theorem DD{n:Nat}{A:dj}{s:aw}{xs ys:List D}{vs ws:Array Value}{as bs:List Addr}(r1:gI s.heap vs.toList (lW xs) as)(r2:gI s.heap ws.toList (lW ys) bs)(n1:pQ xs=true)(n2:pQ ys=true)(hd:cq (lW xs)<=n)
  (hu:A.units+n < cLine) (hs:∀ j,j < xs.length->j < ys.length->∃ sh,cP sh (xs.getD j .eh)=true/\cP sh (ys.getD j .eh)=true) (j:Nat) (h1:j < vs.size) (h2:j < ws.size) :
  EqAt A s vs[j] ws[j] (hZ (xs.getD j .eh) (ys.getD j .eh))/\yF A s vs[j] ws[j] (nH (xs.getD j .eh) (ys.getD j .eh)):=by
 have z1:=readsAll_len r1;have z2:=readsAll_len r2;have e1:vs.size=xs.length:=by simpa using z1
 have e2:ws.size=ys.length:=by simpa using z2
 refine⟨BD r1 r2 n1 n2 (by lia) j h1 h2,?_⟩;obtain⟨VI,q1⟩:=jr r1 j (by simpa using h1);obtain⟨VG,q2⟩:=jr r2 j (by simpa using h2);obtain⟨sh,g1,g2⟩:=hs j (by lia) (by lia);have dp:=kg xs j;have:=xJ n sh (xs.getD j .eh) (ys.getD j .eh) A s _ _ _ _ (by lia) g1 g2 (nW n1 j) (nW n2 j) q1 q2 hu;simpa using this
theorem vD{n:Nat}{sh:mx}{a b:D}{A:dj}{s:aw}{u v:Value}{as bs:List Addr}(hn:(pd a).depth<=n)(h1:cP sh a=true)(h2:cP sh b=true)(n1:nr a=true)(n2:nr b=true)(r1:Reads s.heap u (pd a) as)(r2:Reads s.heap v (pd b) bs)
  (hu:A.units+n < cLine):Ol A s u v (nH a b):=by
 cases sh with
 | int =>
  first | obtain⟨_,rfl⟩:=dg h1 | obtain⟨_,rfl⟩:=dc h1 | obtain⟨_,rfl⟩:=df h1
  first | obtain⟨_,rfl⟩:=dg h2 | obtain⟨_,rfl⟩:=dc h2 | obtain⟨_,rfl⟩:=df h2
  cases r1; cases r2;intro prog w E Q hq;exact oneLt_int hq
 | tup l =>
  first | obtain⟨_,rfl⟩:=dg h1 | obtain⟨_,rfl⟩:=dc h1 | obtain⟨_,rfl⟩:=df h1
  first | obtain⟨_,rfl⟩:=dg h2 | obtain⟨_,rfl⟩:=dc h2 | obtain⟨_,rfl⟩:=df h2
  rename_i xs ys;have n1:pQ xs=true:=n1;have n2:pQ ys=true:=n2;cases r1 with
  | tuple k1 k2 k3 k4 =>
   cases r2 with
   | tuple m1 m2 m3 m4 =>
    rename_i p o vs c p' o' ws c';have hd:(pd (.tup xs)).depth=cq (lW xs)+1:=rfl;obtain⟨n',rfl⟩:∃ n',n=n'+1:=⟨n - 1,by lia⟩;have z1:=readsAll_len k4;have z2:=readsAll_len m4;have e1:vs.size=xs.length:=by simpa using z1
    have e2:ws.size=ys.length:=by simpa using z2
    have base:=C7 (A:=A) (s:=s) ⟨_,k1,k2,_,k3⟩ ⟨_,m1,m2,_,m3⟩ (by lia) (DD (A:=A.in1) (n:=n') k4 m4 n1 n2 (by lia) (by show A.units+1+n' < cLine; lia) fun j j1 j2=>by
     obtain⟨sj,hsj,g1,g2⟩:=pV (l:=l) (ds:=xs) h1 j j1;obtain⟨sj',Yb,YK,Vw⟩:=pV (l:=l) (ds:=ys) h2 j j2;rw [g2] at Vw; cases Vw;exact⟨sj,g1,YK⟩)
    have fin:=nk xs ys (min xs.length ys.length) 0 (cB _) rfl;rw [e1,e2,fin] at base;exact base
 | lst l =>
  first | obtain⟨_,rfl⟩:=dg h1 | obtain⟨_,rfl⟩:=dc h1 | obtain⟨_,rfl⟩:=df h1
  first | obtain⟨_,rfl⟩:=dg h2 | obtain⟨_,rfl⟩:=dc h2 | obtain⟨_,rfl⟩:=df h2
  rename_i xs ys;have n1:pQ xs=true:=n1;have n2:pQ ys=true:=n2;cases r1 with
  | list k1 k2 k3 k4 =>
   cases r2 with
   | list m1 m2 m3 m4 =>
    rename_i p o vs c p' VI o' ws c' VG;have hd:(pd (.dJ xs)).depth=cq (lW xs)+1:=rfl;obtain⟨n',rfl⟩:∃ n',n=n'+1:=⟨n - 1,by lia⟩;have z1:=readsAll_len k4;have z2:=readsAll_len m4;have e1:vs.size=xs.length:=by simpa using z1
    have e2:ws.size=ys.length:=by simpa using z2
    have base:=Fw (A:=A) (s:=s) ⟨_,k1,k2,_,k3⟩ ⟨_,m1,m2,_,m3⟩ (by lia) (DD (A:=A.in1) (n:=n') k4 m4 n1 n2 (by lia) (by show A.units+1+n' < cLine; lia) fun j j1 j2=>⟨l,pW (s:=l) (ds:=xs) h1 j j1,pW (s:=l) (ds:=ys) h2 j j2⟩);have fin:=nk xs ys (min xs.length ys.length) 0 (cB _) rfl;rw [e1,e2,fin] at base;exact base
theorem Bn{prog:bJ}{w:World}{A:dj}{s:aw}{b fin:Bool}{Q:Bool->aw->Prop}{n:Nat}(hu:A.units+n < cLine):∀ (l:List mx) (xs ys:List D) (vs ws:List Value) (as bs:List Addr) (i:Nat),eT l xs=true->eT l ys=true->pQ xs=true->pQ ys=true ->
  gI s.heap vs (lW xs) as->gI s.heap ws (lW ys) bs->cq (lW xs)<=n->fin=false->Q (kO xs ys) s->KatLex prog w A b fin Q (vs.zip ws) i s:=by
 intro l xs;induction xs generalizing l with
 | nil =>
  intro ys vs ws as bs i h1 h2 n1 n2 r1 r2 hd hf hq;cases r1;cases l with
  | nil =>
   cases ys with
   | nil=>cases r2; subst hf; exact hq
   | cons _ _=>cases h2
  | cons _ _=>cases h1
 | cons x xs ih =>
  intro ys vs ws as bs i h1 h2 n1 n2 r1 r2 hd hf hq;cases l with
  | nil=>cases h1
  | cons sh l =>
  cases ys with
  | nil=>cases h2
  | cons y ys =>
  cases r1 with
  | @cons v vs _ _ _ _ a1 a2 =>
  cases r2 with
  | @cons u ws _ _ _ _ b1 b2 =>
  have h1:(cP sh x&&eT l xs)=true:=h1;have h2:(cP sh y&&eT l ys)=true:=h2;have n1:(nr x&&pQ xs)=true:=n1;have n2:(nr y&&pQ ys)=true:=n2;rw [aH] at h1 h2 n1 n2;have YB:(pd x).depth<=n/\cq (lW xs)<=n:=by
   have hd:cq (pd x :: lW xs)<=n:=hd;simp only [cq] at hd;lia
  show KatLex prog w A b fin Q ((v,u) :: vs.zip ws) i s;have eq:=eqAt_reads (pd x) (pd y) A s _ _ _ _ a1 b1 (jQ _ n1.1) (jQ _ n2.1) (by lia);rw [u6 _ _ n1.1 n2.1] at eq;refine kat_cons (eq prog w _ _ ?_);rw [lD] at hq;cases q:hZ x y with
  | true =>
   rw [q,if_pos rfl] at hq;exact kat_yes (ih l ys vs ws _ _ (i+1) h1.2 h2.2 n1.2 n2.2 a2 b2 YB.2 hf hq)
  | false =>
   rw [q,if_neg (by simp)] at hq;refine kat_no ?_;cases c:(b&&i == 0) with
   | true=>exact vD YB.1 h1.1 h2.1 n1.1 n2.1 a1 b1 hu prog w _ Q hq
   | false=>exact kat_one v u (xJ n sh x y A s _ _ _ _ YB.1 h1.1 h2.1 n1.1 n2.1 a1 b1 hu prog w _ _ hq)
end
noncomputable def ko{α:Type}(n:Nat)(P:α->Prop):KasT α->Prop
 | .ret a=>P a
 | .ask i j k=>i < n/\j < n/\∀ b,ko n P (k b)
theorem ko.bind{α β:Type}{n:Nat}{P:α->Prop}{P':β->Prop}{f:α->KasT β}:∀ {t:KasT α},ko n P t->(∀ a,P a->ko n P' (f a))->ko n P' (t.bind f)
 | .ret a,q,h=>h a q
 | .ask i j k,⟨q1,q2,q3⟩,h=>⟨q1,q2,fun b=>ko.bind (q3 b) h⟩
theorem DB{α:Type}{n:Nat}{lt:Nat->Nat->Bool}{cmp:Nat->Nat->(Bool->aw->Prop)->aw->Prop}{s:aw}{Q:α->aw->Prop}(hc:∀ i j,i < n->j < n->∀ C:Bool->aw->Prop,C (lt i j) s->cmp i j C s) :
  ∀ (t:KasT α),ko n (fun _=>True) t->Q (gS lt t) s->t.kasWp cmp Q s
 | .ret a,_,q=>q
 | .ask i j k,⟨h1,h2,h3⟩,q=>hc i j h1 h2 _ (DB hc (k (lt i j)) (h3 _) q)
noncomputable def Bd(n:Nat)(p:Array Nat):Prop:=0 < n/\∀ x∈p,x < n
theorem Bd.at{n:Nat}{p:Array Nat}(h:Bd n p)(k:Nat):p.getD k 0 < n:=by
 by_cases hk:k < p.size
 ·have:p.getD k 0=p[k]:=by simp [Hk,hk]
  rw [this]; exact h.2 _ (Array.getElem_mem hk)
 ·have:p.getD k 0=0:=by simp [Hk,hk]
  rw [this]; exact h.1
theorem Bd.perm{n:Nat}{p q:Array Nat}(h:Bd n p)(hp:q.Perm p):Bd n q:=⟨h.1,fun x hx=>h.2 x (hp.mem_iff.mp hx)⟩
theorem BS{n:Nat}{p:Array Nat}(h:Bd n p):∀ (f k:Nat),ko n (fun _=>True) (o6 p f k)
 | 0,k=>trivial
 | f+1,k=>⟨h.at _,h.at _,fun b=>by
  show ko n _ (if b=true then uF k else o6 p f (k+1));split
  ·trivial
  ·exact BS h f (k+1)⟩
theorem uh{n:Nat}:∀ (f:Nat) (p:Array Nat) (k q:Nat),Bd n p->ko n (fun r=>Bd n r.1) (kr f p k q)
 | 0,p,k,q,h=>h
 | f+1,p,k,q,h=>⟨h.at _,h.at _,fun b=>by
  show ko n _ (if b=true then (if q > 0 then kr f (gb p (k - (q+1)) k) (k+1) 0 else kr f p (k+1) 0) else .ask (p.getD (k - 1) 0) (p.getD k 0) fun d=>if d=true then .ret (p,k,q) else kr f p (k+1) (q+1));split
  ·split
   ·exact uh f _ _ _ (h.perm (jq _ _ _))
   ·exact uh f _ _ _ h
  ·refine⟨h.at _,h.at _,fun d=>?_⟩;show ko n _ (if d=true then uF (p,k,q) else kr f p (k+1) (q+1));split
   ·exact h
   ·exact uh f _ _ _ h⟩
theorem Ei{n:Nat}{p:Array Nat}(h:Bd n p)(k m:Nat):ko n (fun r=>Bd n r.2) (Lj k m p) :=
 ko.bind (BS (h.perm (jq _ _ _)) _ _) fun _ _=>h.perm (jq _ _ _)
theorem ug{n:Nat}{p:Array Nat}(h:Bd n p)(k m:Nat):ko n (fun r=>Bd n r.2) (wK k m p) :=
 ko.bind (uh _ _ _ _ h) fun r hr=>by
  split
  ·exact Ei (hr.perm (jq _ _ _)) _ _
  ·exact Ei hr _ _
theorem Kv{n:Nat}{p:Array Nat}(h:Bd n p)(m:Nat):ko n (fun r=>Bd n r.2) (kas_count m p) :=
 ko.bind (BS h _ _) fun k _=>by
  split
  ·exact h
  ·split
   ·refine⟨h.at _,h.at _,fun b=>?_⟩;show ko n _ (if b=true then uF (k,p) else wK k m (gb p 0 k));split
    ·exact h
    ·exact ug (h.perm (jq _ _ _)) _ _
   ·exact ug h _ _
theorem vg{n:Nat}{p:Array Nat}(h:Bd n p)(k:Nat):∀ (f l r:Nat),ko n (fun _=>True) (jj p k f l r)
 | 0,l,r=>trivial
 | f+1,l,r=>by
  show ko n _ (if l>=r then uF l else .ask (p.getD k 0) (p.getD ((l+r) / 2) 0) fun c=>if c=true then jj p k f l ((l+r) / 2) else jj p k f ((l+r) / 2+1) r);split
  ·trivial
  ·refine⟨h.at _,h.at _,fun b=>?_⟩;show ko n _ (if b=true then jj p k f l ((l+r) / 2) else jj p k f ((l+r) / 2+1) r);split
   ·exact vg h k f _ _
   ·exact vg h k f _ _
theorem IW{n:Nat}:∀ (f:Nat) (p:Array Nat) (k:Nat),Bd n p->ko n (fun _=>True) (kas_bin f p k)
 | 0,p,k,h=>trivial
 | f+1,p,k,h=>ko.bind (vg h k _ _ _) fun l _=>IW f _ _ (h.perm (bubble_perm _ _ _))
theorem Oi{n:Nat}(h:0 < n):ko n (fun _=>True) (kas_sort n) :=
 ko.bind (Kv ⟨h,fun x hx=>by simpa using hx⟩ n) fun r hr=>by
  split
  ·exact IW _ _ _ hr
  ·trivial
end K2
end
section
namespace K2
open PySem PySem.Spec PyProof.Rows L2 PySem.W
mutual
theorem vr{h h':Heap}(hk:∀ b o vs n,o.data=.seq vs n->h.get? b=some o->h'.get? b=some o):∀ (d:D) {v:Value} {as:List Addr},nr d=true->Reads h v (pd d) as->Reads h' v (pd d) as
 | .eh,_,_,_,r=>by cases r; exact .none
 | .bl b,_,_,_,r=>by cases r; exact .bool b
 | .int i,_,_,_,r=>by cases r; exact .int i _
 | .str x,_,_,_,r=>by cases r; exact .str x _
 | .tup ds,_,_,n,r=>by
  cases r with
  | tuple h1 h2 h3 h4=>exact .tuple (hk _ _ _ _ h3 h1) h2 h3 (ly hk ds n h4)
 | .dJ ds,_,_,n,r=>by
  cases r with
  | list h1 h2 h3 h4=>exact .list (hk _ _ _ _ h3 h1) h2 h3 (ly hk ds n h4)
 | .jY _,_,_,n,_=>by cases n
 | .ref _,_,_,n,_=>by cases n
 | .exc _,_,_,n,_=>by cases n
theorem ly{h h':Heap}(hk:∀ b o vs n,o.data=.seq vs n->h.get? b=some o->h'.get? b=some o):∀ (ds:List D) {vs:List Value} {as:List Addr},pQ ds=true->gI h vs (lW ds) as->gI h' vs (lW ds) as
 | [],_,_,_,r=>by cases r; exact .nil
 | d :: ds,_,_,n,r=>by
  have n:(nr d&&pQ ds)=true:=n;rw [aH] at n;cases r with
  | cons r1 r2=>exact .cons (vr hk d n.1 r1) (ly hk ds n.2 r2)
end
mutual
theorem Fb(G:Gp):∀ (sh:mx) (d:D) (n:Nat),cP sh d=true->Rt sh<=n->Sn G n d d
 | .int,.int i,n,_,_=>.int i
 | .tup l,.tup ds,n,h,hn=>by
  have hn:NT l+1<=n:=hn;obtain⟨m,rfl⟩:∃ m,n=m+1:=⟨n - 1,by lia⟩;exact Ht G l ds m h (by lia)
 | .lst s,.dJ ds,n,h,hn=>by
  have hn:Rt s+1<=n:=hn;obtain⟨m,rfl⟩:∃ m,n=m+1:=⟨n - 1,by lia⟩;exact Hu G s ds m h (by lia)
theorem Ht(G:Gp):∀ (l:List mx) (ds:List D) (m:Nat),eT l ds=true->NT l<=m->Sn G (m+1) (.tup ds) (.tup ds)
 | [],[],m,_,_=>.E3
 | s :: l,d :: ds,m,h,hm=>by
  have h:(cP s d&&eT l ds)=true:=h;have hm:max (Rt s) (NT l)<=m:=hm;rw [aH] at h;exact .pA (Fb G s d m h.1 (by lia)) (Ht G l ds m h.2 (by lia))
theorem Hu(G:Gp):∀ (s:mx) (ds:List D) (m:Nat),gj s ds=true->Rt s<=m->Sn G (m+1) (.dJ ds) (.dJ ds)
 | s,[],m,_,_=>.Jy
 | s,d :: ds,m,h,hm=>by
  have h:(cP s d&&gj s ds)=true:=h;rw [aH] at h;exact .zJ (Fb G s d m h.1 hm) (Hu G s ds m h.2 hm)
end
theorem getD_at{α:Type}(xs:List α)(d:α){i:Nat}(h:i < xs.length):xs.getD i d=xs[i]:=by
 rw [dI,au h]; rfl
theorem xG{α:Type}(xs:List α)(d:α):(ib xs.length).map (fun i=>xs.getD i d)=xs:=by
 refine List.ext_getElem (by simp) fun i h1 h2=>?_;rw [lZ,oP];exact getD_at _ _ h2
theorem Cu{h:Heap}{s1:mx}{l:List mx}:∀ (zs:List D) (vs:List Value),(∀ z∈zs,cP (.tup (s1 :: l)) z=true)->(∀ i,i < vs.length->∃ as,Reads h (vs.getD i .none) (pd (zs.getD i .eh)) as)->vs.length=zs.length ->
  ∃ fs,KatTups h vs fs/\fs.length=vs.length/\∀ f∈fs,∃ d as,cP s1 d=true/\Reads h f (pd d) as:=by
 intro zs;induction zs with
 | nil =>
  intro vs _ _ h;have:vs=[]:=List.length_eq_zero_iff.mp h;subst this;exact⟨[],trivial,rfl,fun _ h=>by cases h⟩
 | cons z zs ih =>
 intro vs hs hr hl;cases vs with
 | nil=>cases hl
 | cons v vs =>
  obtain⟨fs,h1,h2,h3⟩:=ih vs (fun z hz=>hs z (aL _ hz)) (fun i hi=>by
   obtain⟨as,r⟩:=hr (i+1) (by simpa using hi);exact⟨as,by simpa using r⟩) (by simpa using hl)
  obtain⟨as,r⟩:=hr 0 (by simp);have hz:=hs z (by simp);simp only [List.getD_cons_zero] at r;cases z <;> first | (cases hz; done) | skip
  rename_i ds;cases ds with
  | nil=>cases hz
  | cons d ds =>
   have hz:(cP s1 d&&eT l ds)=true:=hz;rw [aH] at hz;cases r with
   | tuple k1 k2 k3 k4 =>
    rename_i p o ws c;have k5:gI h ws.toList (pd d :: lW ds) as:=k4;cases q:ws.toList with
    | nil=>rw [q] at k5; cases k5
    | cons f rest =>
     rw [q] at k5;cases k5 with
     | cons r1 r2 =>
      have hf:ws[0]?=some f:=by
       have:ws.toList[0]?=some f:=by rw [q]; rfl
       simpa using this
      refine⟨f :: fs,.cons k1 k2 k3 hf h1,by simp [h2],fun g hg=>?_⟩;rcases List.mem_cons.mp hg with rfl | hg
      ·exact⟨d,_,hz.1,r1⟩
      ·exact h3 g hg
noncomputable def LA:mx->Value
 | .int=>.type "int"
 | .tup _=>.type "tuple"
 | .lst _=>.type "list"
theorem zS{M:Model}{h:Heap}{sh:mx}{d:D}{v:Value}{as:List Addr}(hs:cP sh d=true)(r:Reads h v (pd d) as):Looks M h (typeOf v) (LA sh):=by
 cases sh with
 | int =>
  cases d <;> first | (cases hs; done) | skip
  cases r;exact .now
 | tup l =>
  cases d <;> first | (cases hs; done) | skip
  cases r with
  | tuple k1 k2 k3 k4 =>
   rename_i p o ws c;have:Looks M h (typeOf (.ref p)) o.cls:=(Looks.ld k1).andThen .now;rw [k2] at this; exact this
 | lst l =>
  cases d <;> first | (cases hs; done) | skip
  cases r with
  | list k1 k2 k3 k4 =>
   rename_i p o ws c as;have:Looks M h (typeOf (.ref p)) o.cls:=(Looks.ld k1).andThen .now;rw [k2] at this; exact this
theorem JW{prog:bJ}{w:World}{A:dj}{s:aw}{E:Value->aw->Prop}{Q:Bool->aw->Prop}{n:Nat}{b:Bool}{l:List mx}{a c:D}{u v:Value}{as bs:List Addr}(hn:(pd a).depth<=n+1)(h1:cP (.tup l) a=true)(h2:cP (.tup l) c=true)(n1:nr a=true)(n2:nr c=true)
  (r1:Reads s.heap u (pd a) as) (r2:Reads s.heap v (pd c) bs) (hu:A.units+n < cLine) (hq:Q (nH a c) s):wpAny (model prog w) A (keyLt' (tuples' b) u v) Q E s:=by
 first | obtain⟨_,rfl⟩:=dg h1 | obtain⟨_,rfl⟩:=dc h1 | obtain⟨_,rfl⟩:=df h1
 first | obtain⟨_,rfl⟩:=dg h2 | obtain⟨_,rfl⟩:=dc h2 | obtain⟨_,rfl⟩:=df h2
 rename_i xs ys;cases r1 with
 | tuple k1 k2 k3 k4 =>
  cases r2 with
  | tuple m1 m2 m3 m4 =>
   rename_i p o vs c p' o' ws c';have z1:=readsAll_len k4;have z2:=readsAll_len m4;have e1:vs.size=xs.length:=by simpa using z1
   have e2:ws.size=ys.length:=by simpa using z2
   have el:∀ (l:List mx) (xs ys:List D),eT l xs=true->eT l ys=true->xs.length=ys.length:=by
    intro l;induction l with
    | nil =>
     intro xs ys h1 h2;cases xs with
     | nil=>cases ys with
      | nil=>rfl
      | cons _ _=>cases h2
     | cons _ _=>cases h1
    | cons s l ih =>
     intro xs ys h1 h2;cases xs with
     | nil=>cases h1
     | cons x xs =>
      cases ys with
      | nil=>cases h2
      | cons y ys =>
       have h1:(cP s x&&eT l xs)=true:=h1;have h2:(cP s y&&eT l ys)=true:=h2;rw [aH] at h1 h2;rw [aj,aj,ih xs ys h1.2 h2.2]
   have hd:(pd (.tup xs)).depth=cq (lW xs)+1:=rfl;refine kat_lt k1 k3 m1 m3 (Bn (n:=n) hu l xs ys _ _ _ _ 0 h1 h2 n1 n2 k4 m4 (by lia) (decide_eq_false (by rw [e1,e2,el l xs ys h1 h2]; lia)) hq)
section
variable {X:Cx}
theorem zR{x:D}{G:Gp}{zs:List D}(ty:K3 x G)(hi:itemsOf x G=some zs):pR x G=some zs:=by
 cases x <;> first | exact ty.elim | exact hi
theorem t9 (hc:X.calm=true) (hu:X.A.units+64 < cLine):qk X (.builtin "sorted") uc:=by
 intro pins s σ H G xs ds us Q I ab rx rd q;unfold uc at q;split at q
 ·rename_i x;obtain⟨sh,zs,ty,hi,za,cD,h64,q⟩:=q;obtain⟨w1,rfl,AZ⟩:=rd.one;obtain⟨u,rfl,ru⟩:=rx.one;obtain⟨l,vs,bX,rfl,rv,rs,hl,_⟩:=lN I ab ru AZ (zR ty hi);have Z1:=rv.length;have z0:=rs.length;have hsz:aZ=16777216:=cQ;have hz:∀ z∈zs,cP sh z=true:=fun z h=>List.all_eq_true.mp za z h;by_cases Aj:bX.length < 2
  ·refine E9 hl Aj ?_;obtain⟨e,he⟩:=sortedAll_at s.heap bX bX.toArray;have hp:H (s.heap.objs.size+1)=none:=I.cD.fresh (Nat.le_succ _);have es:pC zs=zs:=sI sh hz (.refl _) (by
    match zs,z0,Aj with
    | [],_,_=>exact .nil
    | [z],_,_=>exact List.pairwise_singleton _ _
    | _ :: _ :: _,h,f=>exact absurd f (by rw [<-Z1,h]; simp))
   rw [es] at q;refine⟨.ref (s.heap.objs.size+1),upd H (s.heap.objs.size+1) (.lst vs),.ref _,_,I.laid (t':=s.toks) (fun b o e=>sortedAll_old e) (Nat.le_succ _) ?_,.FD ab hp rs,rfl,.ref _,q _ (ab.free hp)⟩;exact⟨by lia,bX,e,rv,he⟩
  ·obtain⟨m,F0⟩:=I.fr;have nz:0 < zs.length:=by lia
   have nL:∀ b o vs n,o.data=.seq vs n->s.heap.get? b=some o->b≠X.env.locals:=fun b o vs n e1 e2 z=>by
    obtain⟨o',es,ep,B7,yP,_⟩:=F0.ns;rw [z,B7] at e2; cases e2; rw [yP] at e1; cases e1
   unfold SE at cD;rw [aH] at cD;have hdp:Rt sh<=7:=of_decide_eq_true cD.1;have sn:∀ z∈zs,Sn G 7 z z:=fun z h=>Fb G sh z 7 (hz z h) hdp;refine kat_sorted F0 Dg hl (by lia) (by lia) fun Dd e1 h' F N wo=>?_;obtain⟨kk,ns⟩:=uT I F0 F fun p hp=>N p (aL _ hp);have CO:∀ i,i < bX.length->∃ as,Reads h' (bX.getD i .none) (pd (zs.getD i .eh)) as:=fun i hi=>by
    have i1:i < zs.length:=by lia
    have i2:i < vs.length:=by lia
    have g1:zs.getD i .eh=zs[i]:=getD_at _ _ i1;have g2:bX.getD i .none=bX[i]:=getD_at _ _ hi;obtain⟨v,hv,WZ⟩:=rs.get (au i1);obtain⟨u,FU,WW⟩:=rv.get hv;rw [au hi] at FU;cases FU;obtain⟨as,r⟩:=(jK I ab (sn _ (fh i1))).1 v _ WZ WW;rw [g1,g2];exact⟨as,vr (fun b o vs n e1 e2=>kk b o (nL b o vs n e1 e2) e2) _ (sn _ (fh i1)).nr r⟩
   have zB:∀ i,i < zs.length->cP sh (zs.getD i .eh)=true:=fun i hi=>by rw [getD_at _ _ hi]; exact hz _ (fh hi)
   have V6:∀ i,i < zs.length->nr (zs.getD i .eh)=true:=fun i hi=>by rw [getD_at _ _ hi]; exact(sn _ (fh hi)).nr
   have dpz:∀ i,i < zs.length->(pd (zs.getD i .eh)).depth<=7:=fun i hi=>by rw [getD_at _ _ hi]; exact BI (sn _ (fh hi))
   let zz:Nat->D:=fun i=>if i < zs.length then zs.getD i .eh else zs.getD 0 .eh
   have Ug:∀ i,cP sh (zz i)=true:=fun i=>by
    show cP sh (if i < zs.length then zs.getD i .eh else zs.getD 0 .eh)=true;split
    ·exact zB i (by assumption)
    ·exact zB 0 nz
   let lt:Nat->Nat->Bool:=fun i j=>nH (zz i) (zz j)
   have swo:Kz lt:=⟨fun i j h=>zQ sh (Ug i) (Ug j) h,fun i j k h1 h2=>xI sh (Ug i) (Ug j) (Ug k) h1 h2⟩;have ZM:∀ i j,i < zs.length->j < zs.length->lt i j=nH (zs.getD i .eh) (zs.getD j .eh):=fun i j hi hj=>by
    show nH (if i < zs.length then _ else _) (if j < zs.length then _ else _)=_;rw [if_pos hi,if_pos hj]
   obtain⟨p,ep,DH,Zy,hup⟩:=L0 swo (n:=bX.length) (by lia);have hA2:X.A.in1.in1.units=X.A.units+2:=rfl;have ask:∀ κ:SortKind,(∀ i j,i < bX.length->j < bX.length->∀ C:Bool->aw->Prop,C (nH (zs.getD i .eh) (zs.getD j .eh)) { s with heap:=h' }->kas_ask X.prog X.w X.A.in1.in1 κ bX i j C { s with heap:=h' }) ->
     (kas_sort bX.length).kasWp (kas_ask X.prog X.w X.A.in1.in1 κ bX) (fun p Uv=>KasFin X.base X.env.locals m Dd e1 (p.toList.map fun i=>bX.getD i fE) (fun s3=>se X pins σ H G Q (.ref Dd) s3) Uv) { s with heap:=h' }:=by
    intro κ hk;refine DB (lt:=lt) (n:=bX.length) (fun i j i1 i2 C hC=>hk i j i1 i2 C (by rw [<-ZM i j (by lia) (by lia)]; exact hC)) _ (Oi (by lia)) ?_;rw [ep];refine KasFin.intro (g:=fun o=>(Dd,o) :: qI X.base s.heap X.env.locals) F N (.head (fun q hq z=>absurd (wo q hq) (by rw [z]; exact jc _))) fun h2 c F2 N2=>?_;obtain⟨k2,ns2⟩:=uT I F0 F2 fun p hp=>N2 p (aL _ hp);have hD:s.heap.get? Dd=none:=by
     have nD:=N _ cb;cases qd:s.heap.get? Dd with
     | none=>rfl
     | some o=>exact absurd (wo _ (vF nD.2.1 nD.2.2 qd)) (jc _)
    have hp:H Dd=none:=IC I.cD hD;have rvp:Vals (p.toList.map fun i=>vs.getD i .eh) (p.toList.map fun i=>bX.getD i fE):=by
     have:∀ (ps:List Nat),(∀ i∈ps,i < bX.length)->Vals (ps.map fun i=>vs.getD i .eh) (ps.map fun i=>bX.getD i fE):=by
      intro ps;induction ps with
      | nil=>intro _; exact .nil
      | cons i ps ih =>
       intro hh;have hi:=hh i (by simp);refine .cons ?_ (ih fun j hj=>hh j (aL _ hj));have i2:i < vs.length:=by lia
       obtain⟨u,FU,WW⟩:=rv.get (au i2);rw [au hi] at FU;cases FU;show RelV (vs.getD i .eh) (bX.getD i .none);rw [getD_at _ _ i2,getD_at _ _ hi]; exact WW
     exact this _ fun i hi=>by simpa using DH.mem_iff.mp hi
    have rsp:bh X.K H (p.toList.map fun i=>vs.getD i .eh) (p.toList.map fun i=>zs.getD i .eh):=by
     have:∀ (ps:List Nat),(∀ i∈ps,i < bX.length)->bh X.K H (ps.map fun i=>vs.getD i .eh) (ps.map fun i=>zs.getD i .eh):=by
      intro ps;induction ps with
      | nil=>intro _; exact .nil
      | cons i ps ih =>
       intro hh;have hi:=hh i (by simp);refine .cons ?_ (ih fun j hj=>hh j (aL _ hj));have i2:i < vs.length:=by lia
       have i1:i < zs.length:=by lia
       obtain⟨v,hv,r⟩:=rs.get (au i1);rw [au i2] at hv;cases hv;show cg X.K H (vs.getD i .eh) (zs.getD i .eh);rw [getD_at _ _ i2,getD_at _ _ i1]; exact r
     exact this _ fun i hi=>by simpa using DH.mem_iff.mp hi
    have es:pC zs=p.toList.map fun i=>zs.getD i .eh:=by
     refine sI sh hz ?_ ?_
     ·have h1:(p.toList.map fun i=>zs.getD i .eh).Perm ((ib zs.length).map fun i=>zs.getD i .eh):=by
       have:bX.length=zs.length:=by lia
       rw [<-this];exact DH.map _
      rw [xG] at h1;exact h1
     ·rw [zu,List.pairwise_iff_getElem];intro i j hi hj Ka;have g1:gA p i=p.toList[i]:=by
       have:i < p.size:=by simpa using hi
       simp [gA,Hk,this]
      have g2:gA p j=p.toList[j]:=by
       have:j < p.size:=by simpa using hj
       simp [gA,Hk,this]
      have bi:p.toList[i] < bX.length:=by simpa using DH.mem_iff.mp (fh hi)
      have bj:p.toList[j] < bX.length:=by simpa using DH.mem_iff.mp (fh hj)
      have:=hup i j (by lia) (by have:j < p.toList.length:=hj; rw [eN,Zy] at this; exact this);rw [g1,g2,ZM _ _ (by lia) (by lia)] at this;exact this
    rw [es] at q;have ln:(p.toList.map fun i=>vs.getD i .eh).length<=aZ:=by rw [aC,eN,Zy]; lia
    refine⟨.ref Dd,upd H Dd (.lst (p.toList.map fun i=>vs.getD i .eh)),.ref _,_,Inv.Q4 (t':=s.toks) I k2 ns2 hD ?_,.FD ab hp rsp,rfl,.ref _,q _ (ab.free hp)⟩;exact⟨ln,_,c,rvp,(N2 _ cb).1⟩
   have gen:∀ i j,i < bX.length->j < bX.length->∀ C:Bool->aw->Prop,C (nH (zs.getD i .eh) (zs.getD j .eh)) { s with heap:=h' }->wpAny (model X.prog X.w) X.A.in1.in1 (keyLt' oneType' (bX.getD i fE) (bX.getD j fE)) C (fun _ _=>False) { s with heap:=h' }:=by
    intro i j hi hj C hC;obtain⟨as,r1⟩:=CO i hi;obtain⟨bs,r2⟩:=CO j hj;rw [keyLt'_oneType];exact vD (s:={ s with heap:=h' }) (n:=7) (dpz i (by lia)) (zB i (by lia)) (zB j (by lia)) (V6 i (by lia)) (V6 j (by lia)) r1 r2 (by rw [hA2]; lia) X.prog X.w _ C hC
   have lk:∀ v∈bX,Looks (model X.prog X.w) h' (typeOf v) (LA sh):=fun v hv=>by
    obtain⟨i,hi,rfl⟩:=List.getElem_of_mem hv;obtain⟨as,r⟩:=CO i hi;rw [getD_at _ _ hi] at r;exact zS (zB i (by lia)) r
   cases sh with
   | int=>exact kas_kind (s:={ s with heap:=h' }) (T:=.type "int") (by lia) lk rfl rfl (ask oneType' gen)
   | lst ss=>exact kas_kind (s:={ s with heap:=h' }) (T:=.type "list") (by lia) lk rfl rfl (ask oneType' gen)
   | tup ss =>
    cases ss with
    | nil=>exact absurd cD.2 (by simp)
    | cons s1 ss =>
     obtain⟨fs,t1,t2,t3⟩:=Cu (h:=h') zs bX hz CO (by lia);refine kat_kind (s:={ s with heap:=h' }) (T:=LA s1) t1 (by lia) (fun f hf=>?_) (by cases s1 <;> rfl) (ask _ fun i j hi hj C hC=>?_)
     ·obtain⟨d,as,h1,h2⟩:=t3 f hf;exact zS h1 h2
     ·obtain⟨as,r1⟩:=CO i hi;obtain⟨bs,r2⟩:=CO j hj;exact JW (s:={ s with heap:=h' }) (n:=7) (by have:=dpz i (by lia); lia) (zB i (by lia)) (zB j (by lia)) (V6 i (by lia)) (V6 j (by lia)) r1 r2 (by rw [hA2]; lia) hC
 ·exact q.elim
end
end K2
end
section
namespace L2
open PySem PySem.Spec PyProof.Rows
section
variable {prog:bJ} {w:World} {A:dj} {E:Value->aw->Prop} {s:aw}
theorem FN{d:Addr}{od:Obj}{es:Array eX}{c:Nat}{Q:Value->aw->Prop}(ns:(d == cV)=false)(B6:s.heap.get? d=some od)(ex:od.ExactDict)(dd:od.data=.dict es c)
  (hQ:Q (.ref s.heap.objs.size) { s with heap:=s.heap.push { cls:=.type "dict_keyiterator",data:=.fields #[.ref d,.int 0 0,.int es.size 0,.int c 0] } }):wpAny (model prog w) A (Li (.ref d)) Q E s:=by
 have ty:s.TypeIs (.ref d) "dict":=⟨od,B6,ex.1⟩;refine my ty F.slot_dict_iter (cU F.slot_dict_iter ty F.entry_dict_iter ?_ (F.args_dict_iter_1 _));unfold Builtin.«dict.__iter__» Builtin.Dict.dictSlotNone;refine ag (ag (wF ty (show wpAny _ _ (pure (fj d)) _ _ s from aA ?_)));show wpAny _ _ (jW d >>= _) _ _ s;unfold jW;rw [if_neg (fun z=>by rw [ns] at z; cases z)];refine ag (aA (ag (fU B6 dd (ag (lb B6 dd ?_)))));refine ag (dh (aA ⟨_,rfl,"dict_keyiterator",_,⟨_,bt _ rfl,rfl⟩,F.slot_dict_keyiterator_next.lookup,?_⟩));simpa [Cd] using hQ
theorem JV{it d:Addr}{od:Obj}{es:Array eX}{i c:Nat}{Q:Option Value->aw->Prop}(ki:s.heap.IsKeyIter it d i es.size c)(B6:s.heap.get? d=some od)(dd:od.data=.dict es c)(hi:i < es.size)
  (hQ:∀ h',h'.IsKeyIter it d (i+1) es.size c->eZ it s.heap h'->Q (some es[i].key) { s with heap:=h' }):wpAny (model prog w) A (Ce (.ref it)) Q E s:=by
 obtain⟨o,ho,hc,hf⟩:=id ki;unfold Ce;refine ag (Cc (iw (name:=uB "__next__") ki.typeIs iS (cU iS ki.typeIs EV ?_ (EB _))));refine ag (aA (ag (ag ?_)))
 first | refine ag (iK ki.typeIs (aA ?_)) | refine ag (kE ki.typeIs (aA ?_))
 refine ag (mP ho hf ?_);have Sv:eM "dict_keyiterator" = false:=by decide
 rw [Sv];show wpAny _ _ (if (fj d == fE)=true then _ else _) _ _ s;rw [if_neg (fun z=>by cases z)];refine ag (aA (ag (fU B6 dd ?_)));rw [if_neg (by simp)];refine ag (aA (ag (lb B6 dd ?_)));rw [if_neg (by simp)];refine aA ?_;dsimp only;rw [if_neg (show ¬ ((i:Int) < 0) from Int.not_lt.mpr (oX i)),eV,EY hi];dsimp only;refine ag ?_
 first | refine ag (iK ki.typeIs (aA ?_)) | refine ag (kE ki.typeIs (aA ?_))
 refine ag (wpAny_isOneOf_keyiter ki.typeIs ?_);show wpAny _ _ (setField (.ref it) 1 (Cd ((i:Int)+1)) >>= _) _ _ s;refine ag (OO ho hf (by simp) ?_);have ZR:(s.heap.update it (Obj.mapFields (·.setIfInBounds 1 (Cd ((i:Int)+1))))).IsKeyIter it d (i+1) es.size c :=
  ⟨_,uw _ ho (Obj.isFreed_of_fields (Obj.data_mapFields hf _)),(Obj.cls_mapFields ..).trans hc,by rw [Obj.data_mapFields hf]; simp [Cd]⟩
 refine ag (eL (ag (wpAny_isOneOf_keyiter (s:={ s with heap:=s.heap.update it (Obj.mapFields (·.setIfInBounds 1 (Cd ((i:Int)+1)))) }) ZR.typeIs ?_)));show wpAny _ _ (pure es[i].key) _ _ _;exact aA (aA ⟨_,rfl,aA (hQ _ ZR (iR ..))⟩)
theorem MR{it d:Addr}{od:Obj}{es:Array eX}{i c:Nat}{Q:Option Value->aw->Prop}(calm:A.handled=none)(ki:s.heap.IsKeyIter it d i es.size c)(B6:s.heap.get? d=some od)(dd:od.data=.dict es c)(hi:es.size<=i)
  (hQ:∀ h',Heap.ExtBut it s.heap h'->Q none { s with heap:=h' }):wpAny (model prog w) A (Ce (.ref it)) Q E s:=by
 obtain⟨o,ho,hc,hf⟩:=id ki;unfold Ce;refine ag (Cc (iw (name:=uB "__next__") ki.typeIs iS (cU iS ki.typeIs EV ?_ (EB _))));refine ag (aA (ag (ag ?_)))
 first | refine ag (iK ki.typeIs (aA ?_)) | refine ag (kE ki.typeIs (aA ?_))
 refine ag (mP ho hf ?_);have Sv:eM "dict_keyiterator" = false:=by decide
 rw [Sv];show wpAny _ _ (if (fj d == fE)=true then _ else _) _ _ s;rw [if_neg (fun z=>by cases z)];refine ag (aA (ag (fU B6 dd ?_)));rw [if_neg (by simp)];refine ag (aA (ag (lb B6 dd ?_)));rw [if_neg (by simp)];refine aA ?_;dsimp only;rw [if_neg (show ¬ ((i:Int) < 0) from Int.not_lt.mpr (oX i)),eV,KZ hi];dsimp only;refine ag ?_
 first | refine ag (iK ki.typeIs (aA ?_)) | refine ag (kE ki.typeIs (aA ?_))
 show wpAny _ _ (setField (.ref it) 0 .none >>= _) _ _ s;refine ag (OO ho hf (by simp) ?_);show wpAny _ _ (newExc (.type "StopIteration") [] >>= _) _ _ _;refine ag ?_;simp only [newExc,newTuple];refine ag (dh (ag (m:=zr _ _) (wpAny_of_eq (a:=fE) (by first | rfl | (simp only [zr]; rfl)) (dh ?_ (by size_fits)))) (by size_fits));simp only [raiseNew];refine ag (wpAny_handled ?_);rw [show A.in1.handled=none from calm];refine ag (aA (wpAny_throw ?_));refine ag (nJ (T:="StopIteration") (b:=true) ⟨_,bt _ rfl,rfl⟩ isSubtype_stop (?_));exact aA (hQ _ (((iR ..).extBut.push _).push _))
end
noncomputable def Itk(a:Addr)(o:Obj)(es:Array eX)(ks:List V):It :=
 ⟨fun i H=>(∃ u,H a=some (.jh o u))/\i < es.size,fun i H v H'=>H'=H/\ks[i]?=some v,fun i H=>(∃ u,H a=some (.jh o u))/\es.size<=i⟩
theorem Jj{P:bJ}{w:World}{K:ai}{tg:Expr}(a it:Addr)(o:Obj)(es:Array eX)(c:Nat)(ks:List V)(dd:o.data=.dict es c)(hk:∀ i (h:i < es.size),∃ v,ks[i]?=some v/\RelV v es[i].key) :
  Turn P w K tg (Itk a o es ks) [it] it (fun i h=>h.IsKeyIter it a i es.size c) where
 mem:=by simp
 obj:=fun i h st b hb=>by
  have e:b=it:=by simpa using hb
  subst e;obtain⟨o',q,_,d⟩:=st;exact⟨o',q,fun v z=>by rw [d] at z; cases z⟩
 keep:=(by rintro i h h' ⟨o',q,r⟩ k; exact⟨o',k it (by simp) o' q,r⟩)
 item:=by
  intro X hP hw hK hc i pins s σ H E I hf st hg;subst hP hw hK;obtain⟨⟨u,hu⟩,hi⟩:=hg;obtain⟨f0,f1,f2,f3,f4,f5⟩:=hf it (by simp);obtain⟨v,hv,rv⟩:=hk i hi;refine JV st (I.cD a _ hu).1 dd hi fun h' EE sb=>?_;have I1:Inv X pins σ H { s with heap:=h' }:=I.turned (t':=s.toks) (fun b o hb e=>(sb.2 b hb).trans e) f0 f1 f3 f4 f5;obtain⟨o',e,cl,d'⟩:=id EE;exact⟨_,rfl,Iz (s:={ s with heap:=h' }) e cl d' (by decide) ⟨v,H,I1,rv,⟨rfl,hv⟩,EE,fun b hb=>(hf b hb).1⟩⟩
 done:=by
  intro X hP hw hK hc i pins s σ H E I hf st hg;subst hP hw hK;obtain⟨⟨u,hu⟩,hi⟩:=hg;obtain⟨f0,f1,f2,f3,f4,f5⟩:=hf it (by simp);exact MR (I.ok.hd hc) st (I.cD a _ hu).1 dd hi fun h' eb=>⟨rfl,I.turned (t':=s.toks) (fun b o hb e=>eb b o hb e) f0 f1 f3 f4 f5⟩
 self:=fun A i s Q E st h=>by
  refine my st.typeIs Hh (cU Hh st.typeIs F.entry_dict_keyiterator_iter ?_ (F.args_dict_keyiterator_iter_1 _));show wpAny _ _ (ret (.ref it)) _ _ s;exact aA ⟨_,rfl,"dict_keyiterator",_,st.typeIs,F.slot_dict_keyiterator_next.lookup,h⟩
end L2
namespace K2
open PySem PySem.Spec PyProof.Rows L2
section
variable {X:Cx} {tg a:Expr} {ta:fM} {pos p:Pos}
theorem uQ{α β:Type}{F:α->β->Prop}:∀ {l:List α} {m:List β},jC F l m->∀ i (h1:i < l.length) (h2:i < m.length),F l[i] m[i]:=by
 intro l m h;induction h with
 | nil=>intro i h1; exact absurd h1 (uE i)
 | cons h t ih =>
  intro i h1 h2;cases i with
  | zero=>exact h
  | succ i=>exact ih i (OB h1) (OB h2)
theorem MY{P:bJ}{w:World}{k:Key}{u:Value}(h:(cK P w).is k u=true):RelV (kV k) u:=by
 rcases eg h with ⟨i,t,rfl,rfl⟩ | ⟨x,t,rfl,rfl⟩
 ·exact⟨t,rfl⟩
 ·exact⟨t,rfl⟩
theorem k9.keys{K:ai}{H:Hp}:∀ {kv:List (Key×V)} {kvs:List (D×D)},k9 K H kv kvs->kvs.map (·.1)=kv.map fun p=>dP p.1:=fun h =>
 k9.ind (motive:=fun kv kvs _=>kvs.map (·.1)=kv.map fun p=>dP p.1) rfl (fun _ _ ih=>congrArg (_ :: ·) ih) h
theorem kT.keys{K:ai}{H:Hp}:∀ {kv:List (List Key×V)} {kvs:List (D×D)},kT K H kv kvs->kvs.map (·.1)=kv.map fun p=>D.tup (p.1.map dP):=fun h =>
 kT.ind (motive:=fun kv kvs _=>kvs.map (·.1)=kv.map fun p=>D.tup (p.1.map dP)) rfl (fun _ _ ih=>congrArg (_ :: ·) ih) h
theorem CN{K:ai}{H:Hp}(k:Key):cg K H (kV k) (dP k):=by
 cases k with
 | inl i=>exact .int i
 | inr x=>exact .str x
theorem uK{K:ai}{H:Hp}:∀ (ks:List Key),bh K H (ks.map kV) (ks.map dP)
 | []=>.nil
 | k :: ks=>.cons (CN k) (uK ks)
theorem C1(ha:fZ X a ta):KC X tg a (tQ ta):=by
 intro E pins s σ H τ G R hE I h;refine je ha hE I h fun x H1 d G1 v s1 I1 m1 r1 iV q1=>?_;unfold Bq at q1;have go:∀ (l:Addr) (o:Obj) (u:HO) (kvs:List (D×D)) (es:Array eX) (c:Nat) (ks:List V),(l == cV)=false->H1 l=some (.jh o u)->o.ExactDict->o.data=.dict es c->(∀ i (h:i < es.size),∃ v,ks[i]?=some v/\RelV v es[i].key)->ks.length=es.size ->
   bh X.K H1 ks (kvs.map (·.1))->R (kvs.map (·.1)) (fun _=>True) G1->wpAny (model X.prog X.w) X.A (Li (.ref l)) (KA X pins σ tg H G R) X.xe s1:=by
  intro l o u kvs es c ks ns hl ex dd hk hlen rs q;refine FN ns (I1.inv.cD l _ hl).1 ex dd ?_;refine⟨s1.heap.objs.size,[s1.heap.objs.size],_,_,H1,G1,kvs.map (·.1),_,rfl,I1.inv.kept (t':=s1.toks) fun b o e=>aK _ e,m1,Jj l _ o es c ks dd hk,⟨_,bt _ rfl,rfl,rfl⟩,fun b hb=>?_,fun i H2 G2 k ab _=>?_,q⟩
  ·have e:b=s1.heap.objs.size:=by simpa using hb
   subst e;exact I1.inv.Bv (aF _) (I1.inv.cD.fresh (aF _))
  ·have z0:=k.jh _ _ _ hl;have Hy:=rs.mono k;refine⟨fun d hd=>?_,fun hle=>⟨⟨u,z0⟩,by rw [<-hlen,rs.length]; exact hle⟩⟩;obtain⟨v,hv,r⟩:=Hy.get hd;have hi:i < es.size:=by rw [<-hlen]; exact(List.getElem?_eq_some_iff.mp hv).1
   refine⟨⟨⟨u,z0⟩,hi⟩,?_⟩;rintro x H3 ⟨e,y⟩;subst e;rw [hv] at y;cases y;exact⟨r,.refl ab⟩
 cases iV with
 | oS hq rs =>
  rename_i l o kv kvs;cases r1;obtain⟨z,ns,vs,rel,ob,es,ep,ho,ex,dd,Z3,hp,nd⟩:=(I1.inv.cD l _ hq).2;have eo:ob=o:=by have:=(I1.inv.cD l _ hq).1; rw [ho] at this; exact aY this
  subst eo;have l1:es.size=vs.length:=by simpa using hp.length
  have l2:kv.length=vs.length:=gU rel;refine go l ob _ kvs es ep (kv.map fun p=>kV p.1) ns hq ex dd (fun i hi=>?_) (by rw [aC]; lia) ?_ q1
  ·have i2:i < vs.length:=by lia
   have i3:i < kv.length:=by lia
   have g1:=(hp.get? (e:=es[i]) (k:=vs[i].1) (v:=vs[i].2) (by rw [au (by simpa using hi)]; simp) (by rw [au i2])).1;refine⟨kV kv[i].1,by simp [i3],?_⟩;have ek:kv[i].1=vs[i].1:=(uQ rel i i3 i2).1;rw [ek];exact MY g1
  ·rw [rs.keys];have:∀ (l:List (Key×V)),bh X.K H1 (l.map fun p=>kV p.1) (l.map fun p=>dP p.1):=by
    intro l;induction l with
    | nil=>exact .nil
    | cons p l ih=>exact .cons (CN p.1) ih
   exact this kv
 | oR hq rs =>
  rename_i l o kv kvs;cases r1;obtain⟨z,ns,xs,rel,ob,es,ep,ho,ex,dd,hl,nd⟩:=(I1.inv.cD l _ hq).2;have eo:ob=o:=by have:=(I1.inv.cD l _ hq).1; rw [ho] at this; exact aY this
  subst eo;have l1:=congrArg dU hl;rw [aC,eN] at l1;refine go l ob _ kvs es ep (xs.map fun q=>V.ref q.2.1) ns hq ex dd (fun i hi=>?_) (by rw [aC]; lia) ?_ q1
  ·have i2:i < xs.length:=by lia
   refine⟨.ref xs[i].2.1,by simp [i2],?_⟩;have:es[i]=entryOfKey (g7 (cK X.prog X.w)) xs[i]:=by
    have:=congrArg (fun l=>l[i]?) hl;simp only [bA,au i2] at this;simpa [hi] using this
   rw [this];rfl
  ·rw [rs.keys];have:∀ (kv:List (List Key×V)) (xs:List (List Key×Addr×Value)),jC (fun (p:List Key×V) (q:List Key×Addr×Value)=>p.1=q.1/\H1 q.2.1=some (.tup (p.1.map kV))/\RelV p.2 q.2.2) kv xs->bh X.K H1 (xs.map fun q=>V.ref q.2.1) (kv.map fun p=>D.tup (p.1.map dP)):=by
    intro kv xs r;induction r with
    | nil=>exact .nil
    | cons h _ ih=>exact .cons (.tup h.2.1 (uK _)) ih
   exact this kv xs rel
 | _=>exact q1.elim
end
end K2
end
section
namespace L2
open PySem PySem.Spec PyProof.Rows
section
variable {X:Cx}
noncomputable def Oz(i j:Int):Prop:=i.natAbs < 2 ^ 4000/\j.natAbs < 2 ^ 4000
theorem Oz.ok{i j:Int}(h:Oz i j):IntMulOk i j:=by
 have h1:=intBits_le h.1;have h2:=intBits_le h.2;unfold IntMulOk;intro z;rw [aH] at z;have z2:((EW i+EW j:Nat):Int) > (bitsLine:Int):=of_decide_eq_true z.2;have hb:8000<=bitsLine:=by decide
 lia
theorem PF:KG X (iA .Mult) (rI Oz fun i j=>.int (i * j)):=V3 fun _ _ _ _ _ _ _ hc q=>mul_int q hc.ok
end
end L2
namespace K2
open PySem PySem.Spec PyProof.Rows L2
section
variable {X:Cx}
theorem C5:oU X (iA .Mult) Hz:=by
 intro pins s σ H G x y dx dy v u Q I ab rx ry dX dY q;cases dX with
 | int i =>
  cases dY with
  | int j=>exact gc (PF pins s σ H _ _ v u (AG X.K H G Q) I rx ry ⟨i,j,rfl,rfl,q.1,_,_,.refl ab,.int _,q.2⟩) fun _ _ z=>.of z
  | _=>exact bP q
 | _=>exact bP q
theorem va{pins:List (Addr×Obj)}{σ:L2.St}{H:Hp}{s:aw}{G:Gp}{x:V}{d:D}{kvs:List (D×D)}(I:Inv X pins σ H s)(ab:kU X.K H G)(rd:cg X.K H x d)(hd:tZ d G=some kvs)(h1:tL kvs=true) :
  ∃ a kv vs,x=.ref a/\k9 X.K H kv kvs/\kv.length<=aZ/\(a == cV)=false/\KV kv vs/\s.heap.DictOf (cK X.prog X.w) a vs:=by
 have empty:∀ (a:Addr) (kv:List (List Key×V)),fA X.prog X.w H s.heap a (.dT kv)->kT X.K H kv kvs ->
   ∃ a' kv vs,V.ref a=.ref a'/\k9 X.K H kv kvs/\kv.length<=aZ/\(a' == cV)=false/\KV kv vs/\s.heap.DictOf (cK X.prog X.w) a' vs:=by
  intro a kv ok rs;cases rs with
  | nil =>
   obtain⟨z,hm,xs,rel,o,es,ep,ho,hx,yP,hl,nd⟩:=ok;have hv:xs=[]:=by cases rel; rfl
   subst hv;have he:es=#[]:=by simpa using hl
   subst he;exact⟨a,[],[],rfl,.nil,cB _,hm,.nil,o,#[],ep,ho,hx,yP,(fun _ h=>by simp at h),.nil,cE⟩
  | cons _ _=>simp [tL,dZ] at h1
 cases rd with
 | oS hq rs =>
  cases (show some _=some kvs from hd);obtain⟨z,hm,vs,rel,dd⟩:=rj I.cD (.inr ⟨_,hq⟩);exact⟨_,_,vs,rfl,rs,z,hm,rel,dd⟩
 | oR hq rs =>
  cases (show some _=some kvs from hd);exact empty _ _ (I.cD _ _ hq).2 rs
 | ref a =>
  unfold tZ at hd;dsimp only at hd;split at hd
  ·rename_i kv' hg;cases hd;rcases ab a _ hg with ⟨kv,hv,rs⟩ | ⟨kv,hv,rs⟩
   ·obtain⟨z,hm,vs,rel,dd⟩:=As I.cD hv;exact⟨a,kv,vs,rfl,rs,z,hm,rel,dd⟩
   ·exact empty a _ (I.cD _ _ hv) rs
  ·cases hd
 | _=>cases hd
theorem GJ:qk X (.type "dict") IT:=by
 intro pins s σ H G xs ds us Q I ab rx rd q;unfold IT at q;split at q
 ·rename_i x;obtain⟨kvs,hd,h1,hl,q⟩:=q;obtain⟨v,rfl,r⟩:=rd.one;obtain⟨a,kv,vs,rfl,rs,z,hm,rel,dd⟩:=va I ab r hd h1;obtain⟨u,rfl,ru⟩:=rx.one;cases ru;refine kt_call_dict hm dd (by rw [<-rel.length]; exact z) fun h' Aw hs=>?_;have hp:H s.heap.objs.size=none:=I.cD.fresh (aF _);refine⟨.ref _,upd H s.heap.objs.size (.dK kv),.ref _,_,I.laid (a:=s.heap.objs.size) (o:=.dK kv) (t':=s.toks) (fun b q hq=>?_) (aF _) (BG z (beq_eq_false_iff_ne.mpr (fT (bL I.big))) rel Aw),.new ab hp (.dk bY (rs.mono (.new hp))),rfl,.ref _,q _ (ab.free hp)⟩;exact(hs.2 b (bL (aW hq))).trans (aK _ hq)
 ·exact q.elim
theorem Ie:KO X "dict.get" JO:=by
 intro pins s σ H G x d xs ds v us Q I ab rx rd OI CO q;unfold JO at q;split at q
 ·rename_i k d';obtain⟨kvs,hd,h1,hk,q⟩:=q;obtain⟨w,w2,rfl,AZ,LY⟩:=CO.two;obtain⟨u1,u2,rfl,Fg,Jx⟩:=vals2 OI;obtain⟨a,kv,vs,rfl,rs,z,hm,rel,dd⟩:=va I ab rd hd h1;cases rx;obtain⟨kk,rfl⟩:=tM hk;have ey:=sO AZ;subst ey;refine wN fV dd.typeIs He (EU _ _ _) (meets_dict_get_default (cK X.prog X.w) a (xQ Fg) hm u2) ⟨_,dd.mapOf,?_⟩;have ro:=(rel.val kk).getD Jx;rcases rs.look kk with ⟨v',d2,e1,e2,r⟩ | ⟨e1,e2⟩
  ·rw [e1] at ro;rw [e2] at q;exact⟨v',H,d2,G,I.tok _,.refl ab,ro,r,q⟩
  ·rw [e1] at ro;rw [e2] at q;exact⟨w2,H,d',G,I.tok _,.refl ab,ro,LY,q⟩
 ·exact q.elim
end
end K2
end
section
namespace L2
open PySem PySem.Spec PyProof.Rows
noncomputable def Iti(a:Addr)(o:Obj)(kv:List (Key×V)):It :=
 ⟨fun i H=>(∃ u,H a=some (.jh o u))/\i < kv.length,fun i H v H'=>∃ T p,v=.ref T/\H T=none/\H'=upd H T (.tup [kV p.1,p.2])/\kv[i]?=some p,fun i H=>(∃ u,H a=some (.jh o u))/\kv.length<=i⟩
theorem xt{α β:Type}{F:α->β->Prop}:∀ {l:List α} {m:List β},jC F l m->∀ i (h1:i < l.length) (h2:i < m.length),F l[i] m[i]
 | _,_,.cons h _,0,_,_=>h
 | _,_,.cons _ t,i+1,h1,h2=>xt t i (by simpa using h1) (by simpa using h2)
theorem JZ{P:bJ}{w:World}{k:Key}{u:Value}(h:(cK P w).is k u=true):RelV (kV k) u:=by
 rcases eg h with ⟨i,t,rfl,rfl⟩ | ⟨x,t,rfl,rfl⟩
 ·exact⟨t,rfl⟩
 ·exact⟨t,rfl⟩
theorem kH:entryFor table "dict_itemiterator.__iter__" = some Builtin.«dict_keyiterator.__iter__» :=
 entryFor_alias (id':="dict_keyiterator.__iter__") (by rw [fastTable_eq_tree]; kernel_rfl) (by decide +kernel) (by decide +kernel) (by rw [fastTable_eq_tree]; kernel_rfl)
theorem E2{P:bJ}{w:World}{K:ai}{elts:List Expr}{kk:Nat}{pos:Pos}(a it:Addr)(o:Obj)(kv:List (Key×V))(vs:List (Key×Value))(ep:Nat)(rel:KV kv vs)(hD:∀ h:Heap,h.get? a=some o->h.DictAt (cK P w) a vs ep) :
  Turn P w K (.Tuple elts kk pos) (Iti a o kv) [it] it (fun i h=>∃ ok ov,mE h it a i vs.length ep ok ov) where
 mem:=by simp
 obj:=fun i h ⟨ok,ov,st⟩ b hb=>by
  have e:b=it:=by simpa using hb
  subst e;exact⟨_,st,fun v z=>by cases z⟩
 keep:=fun i h h' ⟨ok,ov,st⟩ k=>⟨ok,ov,k it (by simp) _ st⟩
 item:=by
  intro X hP hw hK hc i pins s σ H E I hf st hg;obtain⟨ok,ov,st⟩:=st;subst hP hw hK;obtain⟨⟨u,hu⟩,hi⟩:=hg;have hl:=rel.length;have Z8:i < vs.length:=by lia
  have hx:vs[i]?=some (vs[i].1,vs[i].2):=au Z8;have rp:=xt rel i hi Z8;have Vu:H s.heap.objs.size=none:=I.cD.fresh (aF _);have Yr:it≠s.heap.objs.size:=bL (aW st);refine wpAny_pyNext_items_item st (hD _ (I.cD a _ hu).1) hx fun key h' hk ho hT hsz kk=>?_;refine⟨_,rfl,?_⟩;have rk:RelV (kV kv[i].1) key:=by rw [rp.1]; exact JZ hk
  have I1:Inv X pins σ (upd H s.heap.objs.size (.tup [kV kv[i].1,kv[i].2])) { s with heap:=h',toks:=s.toks } :=
   I.AR (fp:=[it]) hf (fun b o hb q=>kk b o (fun z=>hb (by simp [z])) q) (aF _)
    ⟨by show 2<=aZ; decide,[key,vs[i].2],.cons rk (.cons rp.2 .nil),⟨_,hT,rfl,_,rfl⟩⟩
  refine Lf (s:={ s with heap:=h' }) ho fun h2 Vn EG=>?_;have f1:∀ b∈[it],mM X pins (upd H s.heap.objs.size (.tup [kV kv[i].1,kv[i].2])) b:=fun b hb=>(hf b hb).upd (by rw [List.mem_singleton.mp hb]; exact Yr);have I2:Inv X pins σ (upd H s.heap.objs.size (.tup [kV kv[i].1,kv[i].2])) { s with heap:=h2,toks:=s.toks } :=
   Inv.v5 (s:={ s with heap:=h',toks:=s.toks }) (t':=s.toks) (fp:=[it]) I1 f1 fun b o hb q=>(EG.2 b (fun z=>hb (by simp [z]))).trans q
  exact⟨.ref s.heap.objs.size,_,I2,rfl,⟨_,kv[i],rfl,Vu,rfl,au hi⟩,⟨_,_,Vn⟩,fun b hb=>(f1 b hb).1⟩
 done:=by
  intro X hP hw hK hc i pins s σ H E I hf st hg;obtain⟨ok,ov,st⟩:=st;subst hP hw hK;obtain⟨⟨u,hu⟩,hi⟩:=hg;have hl:=rel.length;obtain⟨f0,f1,f2,f3,f4,f5⟩:=hf it (by simp);exact wpAny_pyNext_items_end (I.ok.hd hc) st (hD _ (I.cD a _ hu).1) (ur (by lia)) fun h' eb=>⟨rfl,I.turned (t':=s.toks) (fun b o hb e=>eb b o hb e) f0 f1 f3 f4 f5⟩
 self:=fun A i s Q E ⟨ok,ov,st⟩ h=>by
  have ty:s.TypeIs (.ref it) "dict_itemiterator":=⟨_,st,rfl⟩;refine my ty iD (cU iD ty kH ?_ (Cm _));show wpAny _ _ (ret (.ref it)) _ _ s;exact aA ⟨_,rfl,"dict_itemiterator",_,ty,F.slot_dict_itemiterator_next.lookup,h⟩
end L2
namespace K2
open PySem PySem.Spec PyProof.Rows L2
section
variable {X:Cx}
theorem Sb{pins:List (Addr×Obj)}{σ:L2.St}{H:Hp}{s:aw}{x:V}{kvs:List (D×D)}(I:Inv X pins σ H s)(rd:cg X.K H x (.jY kvs))(h1:tL kvs=true) :
  ∃ a ob u kv vs ep,x=.ref a/\H a=some (.jh ob u)/\k9 X.K H kv kvs/\(a == cV)=false/\KV kv vs/\∀ h:Heap,h.get? a=some ob->h.DictAt (cK X.prog X.w) a vs ep:=by
 cases rd with
 | oS hq rs =>
  rename_i a o kv;obtain⟨z,hm,vs,rel,ob,es,ep,ho,r⟩:=(I.cD a _ hq).2;have eo:ob=o:=by have:=(I.cD a _ hq).1; rw [ho] at this; exact aY this
  subst eo;exact⟨a,ob,_,kv,vs,ep,rfl,hq,rs,hm,rel,fun h e=>⟨ob,es,e,r⟩⟩
 | oR hq rs =>
  rename_i a o kv;cases rs with
  | nil =>
   obtain⟨z,hm,xs,rel,ob,es,ep,ho,hx,yP,hl,nd⟩:=(I.cD a _ hq).2;have eo:ob=o:=by have:=(I.cD a _ hq).1; rw [ho] at this; exact aY this
   subst eo;have hv:xs=[]:=by cases rel; rfl
   subst hv;have he:es=#[]:=by simpa using hl
   subst he;exact⟨a,ob,_,[],[],ep,rfl,hq,.nil,hm,.nil,fun h e=>⟨ob,#[],e,hx,yP,(fun _ h=>by simp at h),.nil,cE⟩⟩
  | cons _ _=>simp [tL,dZ] at h1
theorem k9.item{K:ai}{H:Hp}:∀ {kv:List (Key×V)} {kvs:List (D×D)} {i:Nat} {q:D×D},k9 K H kv kvs->kvs[i]?=some q->∃ p,kv[i]?=some p/\q.1=dP p.1/\cg K H p.2 q.2
 | _,_,_,_,.nil,e=>by simp at e
 | _,_,0,_,.cons r _,e=>by simp at e; subst e; exact⟨_,rfl,rfl,r⟩
 | _,_,i+1,q,.cons _ t,e=>by
  obtain⟨p,h1,h2⟩:=k9.item (i:=i) (q:=q) t (by simpa using e);exact⟨p,by simpa using h1,h2⟩
variable {elts:List Expr} {kk:Nat} {Cv apos jg:Pos} {o:Expr} {to:fM}
theorem Jz{K:ai}{H:Hp}(k:Key):cg K H (kV k) (dP k):=by
 cases k with
 | inl i=>exact .int i
 | inr x=>exact .str x
theorem ng (ho:fZ X o to) (xV:autoParam (oM o "items" X.env (eval o X.env)=eval o X.env) Ar._auto_1) (xU:autoParam ((apos.endLine == jg.line)=true) Ar._auto_1) :
  KC X (.Tuple elts kk Cv) (.Call (.Attribute o "items" apos) [] [] jg) (i5 to):=by
 intro E pins s σ H τ G R hE I h;refine uz xV xU (je ho hE I h fun x H1 d G1 v s1 I1 m1 r1 iV q1=>?_);cases d with
 | jY kvs =>
  obtain⟨h1,q1⟩:=q1;obtain⟨t1,t2⟩:=mS pins s1 σ H1 G1 x _ v I1.inv I1.ab r1 iV trivial;obtain⟨a,ob,u,kv,vs,ep,rfl,hu,rs,hm,rel,hD⟩:=Sb I1.inv iV h1;cases r1;refine⟨"dict","dict.items",cW,fk,o8,t1,t2,kG rfl (vQ ?_)⟩;have dA:=hD _ (I1.inv.cD a _ hu).1;refine wN fk t1 oN (nM _) (meets_dict_items (cK X.prog X.w) a hm) ⟨⟨vs,dA.dictOf⟩,?_⟩;have I2:Inv X pins σ H1 { s1 with heap:=s1.heap.push { cls:=.type "dict_items",data:=.fields #[.ref a] } }:=I1.inv.kept (t':=s1.toks) fun b o e=>aK _ e;refine wpAny_pyIter_items (s:={ s1 with heap:=s1.heap.push { cls:=.type "dict_items",data:=.fields #[.ref a] } }) (kvs:=vs) (ep:=ep) ⟨_,bt _ rfl,rfl,rfl⟩ (dA.push _) ?_;refine⟨_,[_],_,_,H1,G1,kvs.map (fun p=>.tup [p.1,p.2]),_,rfl,I2.kept (t':=s1.toks) fun b o e=>aK _ e,m1,E2 a _ ob kv vs ep rel hD,⟨.none,.none,bt _ rfl⟩,fun b hb=>?_,fun i H2 G2 k ab _=>?_,q1⟩
  ·have e:=List.mem_singleton.mp hb;subst e;exact I2.Bv (aF _) (I2.cD.fresh (aF _))
  ·have z0:=k.jh _ _ _ hu;have Hy:=rs.mono k;have hlen:kv.length=kvs.length:=rs.length;refine⟨fun d hd=>?_,fun hle=>⟨⟨u,z0⟩,by rw [hlen]; simpa using hle⟩⟩;rw [bA] at hd;cases J9:kvs[i]? with
   | none=>rw [J9] at hd; cases hd
   | some q =>
    rw [J9] at hd;obtain⟨p,hp,ek,rp⟩:=Hy.item J9;have hi:i < kv.length:=(List.getElem?_eq_some_iff.mp hp).1;refine⟨⟨⟨u,z0⟩,hi⟩,fun x H3 ⟨T,p',ex,hT,e3,hy⟩=>?_⟩;subst ex e3;rw [hp] at hy;cases hy;have ed:D.tup [q.1,q.2]=d:=by simpa using hd
    subst ed;rw [ek];exact⟨.tup bY (.cons (Jz _) (.cons (rp.mono (.new hT)) .nil)),.K8 ab hT⟩
 | _=>exact q1.elim
end
end K2
end
section
namespace K2
open PySem PySem.Spec PyProof.Rows L2
section
variable {X:Cx}
theorem pY{K:ai}{H:Hp}:∀ {kv:List (Key×V)} {l:List (Int×Int)},k9 K H kv (bB l)->kv=l.map fun p=>((.inl p.1:Key),V.int p.2)
 | _,[],h=>by cases h; rfl
 | _,p :: l,h=>by
  have h:k9 K H _ ((D.int p.1,D.int p.2) :: bB l):=h;generalize e:(D.int p.1,D.int p.2) :: bB l=t at h;cases h with
  | nil=>cases e
  | cons r rs =>
   rename_i k v d r' t';injection e with e1 e2
   injection e1 with e3 e4
   subst e2 e4;cases r;rw [pY rs];cases k with
   | inl i=>cases e3; rfl
   | inr x=>cases e3
theorem tK:∀ {l:List (Int×Int)} {vs:List (Key×Value)},KV (l.map fun p=>((.inl p.1:Key),V.int p.2)) vs->∃ ts:List Tok,ts.length=l.length/\vs=(l.zip ts).map fun q=>((.inl q.1.1:Key),dW q.1.2 q.2)
 | [],_,.nil=>⟨[],rfl,rfl⟩
 | p :: l,_,.cons h r=>by
  obtain⟨ts,h1,h2⟩:=tK r;rename_i q vs;obtain⟨k,v⟩:=q;obtain⟨e1,t,e2⟩:=h;cases e1;cases e2;exact⟨t :: ts,by simp [h1],by rw [h2]; rfl⟩
theorem AP{l:List (Int×Int)}{ts:List Tok}(h:ts.length=l.length)(k:Int):(cH l k=none/\mB ((l.zip ts).map fun q=>((.inl q.1.1:Key),dW q.1.2 q.2)) (.inl k)=none)\/∃ v t,cH l k=some v/\mB ((l.zip ts).map fun q=>((.inl q.1.1:Key),dW q.1.2 q.2)) (.inl k)=some (.int v t):=by
 induction l generalizing ts with
 | nil=>exact .inl ⟨rfl,rfl⟩
 | cons p l ih =>
  cases ts with
  | nil=>cases h
  | cons t ts =>
   have ih:=ih (ts:=ts) (by simpa using h);by_cases e:p.1=k
   ·refine .inr ⟨p.2,t,?_,?_⟩
    ·unfold cH; simp [e]
    ·unfold mB; simp [e]
   ·have e':¬ ((.inl p.1:Key)=.inl k):=fun z=>e (by injection z);have a1:cH (p :: l) k=cH l k:=by unfold cH; simp [e]
    have a2:mB (((p :: l).zip (t :: ts)).map fun q=>((.inl q.1.1:Key),dW q.1.2 q.2)) (.inl k)=mB ((l.zip ts).map fun q=>((.inl q.1.1:Key),dW q.1.2 q.2)) (.inl k):=by
     unfold mB; simp [e']
    rw [a1,a2]; exact ih
theorem uX{A:dj}{s:aw}{m:List (Int×Int)}{us:List Tok}(hm:us.length=m.length):∀ {l:List (Int×Int)} {ts:List Tok},ts.length=l.length ->
  PySem.W.KeqHits A s ((m.zip us).map fun q=>((.inl q.1.1:Key),dW q.1.2 q.2)) ((l.zip ts).map fun q=>((.inl q.1.1:Key),dW q.1.2 q.2)) (l.all fun p=>cH m p.1 == some p.2)
 | [],_,_=>.nil
 | p :: l,[],h=>by cases h
 | p :: l,t :: ts,h=>by
  have ih:=uX (A:=A) (s:=s) hm (l:=l) (ts:=ts) (by simpa using h);rcases AP hm p.1 with ⟨e1,e2⟩ | ⟨v,t',e1,e2⟩
  ·have:((p :: l).all fun p=>cH m p.1 == some p.2)=false:=by simp [e1]
   rw [this];exact .miss e2
  ·have eq:SeqAt.EqAt A s (dW p.2 t) (dW v t') (decide (p.2=v)):=by
    have:=PySem.W.keq_flat (A:=A) (s:=s) (v:=dW p.2 t) (y:=dW v t') (d:=.int p.2) (e:=.int v) (.int _ _) (.int _ _);have e2:SeqAt.EqAt A s (dW p.2 t) (dW v t') (p.2 == v):=by simpa [yK] using this
    exact e2
   have:((p :: l).all fun p=>cH m p.1 == some p.2)=(decide (p.2=v)&&l.all fun p=>cH m p.1 == some p.2):=by
    rw [yO,e1];congr 1;by_cases z:p.2=v
    ·simp [z]
    ·have:¬ v=p.2:=fun y=>z y.symm;simp [z,this]
   rw [this];exact .hit e2 eq ih
theorem PL(hu:X.A.units+64 < cLine):oU X (eW .Eq) (Sg false):=by
 intro pins s σ H G x y dx dy v u Q I ab rx ry dX dY q;obtain⟨l,m,e1,e2,q⟩:=q;obtain⟨a,kv,vs,rfl,rs,z,hm,rel,dd⟩:=va I ab dX e1 (jR l);obtain⟨b,kw,ws,rfl,Hy,z2,S1,L6,B9⟩:=va I ab dY e2 (jR m);cases rx;cases ry;rw [pY rs] at rel;rw [pY Hy] at L6;obtain⟨ts,t1,rfl⟩:=tK rel;obtain⟨us,t2,rfl⟩:=tK L6;refine PySem.W.keq_eq hm S1 dd B9 (by lia) (fun _=>uX t2 t1) ?_;refine⟨.bl _,H,.bl _,G,I,.refl ab,rfl,.bl _,?_⟩;have:((((l.zip ts).map fun q=>((.inl q.1.1:Key),dW q.1.2 q.2)).length == ((m.zip us).map fun q=>((.inl q.1.1:Key),dW q.1.2 q.2)).length)&&l.all fun p=>cH m p.1 == some p.2)=u7 l m:=by
  unfold u7; simp [t1,t2]
 rw [this]; exact q
theorem PI(hu:X.A.units+64 < cLine):oU X (eW .NotEq) (Sg true):=by
 intro pins s σ H G x y dx dy v u Q I ab rx ry dX dY q;obtain⟨l,m,e1,e2,q⟩:=q;obtain⟨a,kv,vs,rfl,rs,z,hm,rel,dd⟩:=va I ab dX e1 (jR l);obtain⟨b,kw,ws,rfl,Hy,z2,S1,L6,B9⟩:=va I ab dY e2 (jR m);cases rx;cases ry;rw [pY rs] at rel;rw [pY Hy] at L6;obtain⟨ts,t1,rfl⟩:=tK rel;obtain⟨us,t2,rfl⟩:=tK L6;refine PySem.W.keq_ne hm S1 dd B9 (by lia) (fun _=>uX t2 t1) ?_;refine⟨.bl _,H,.bl _,G,I,.refl ab,rfl,.bl _,?_⟩;have:((((l.zip ts).map fun q=>((.inl q.1.1:Key),dW q.1.2 q.2)).length == ((m.zip us).map fun q=>((.inl q.1.1:Key),dW q.1.2 q.2)).length)&&l.all fun p=>cH m p.1 == some p.2)=u7 l m:=by
  unfold u7; simp [t1,t2]
 rw [this]; exact q
theorem HV(hu:X.A.units+64 < cLine):oU X (eW .Eq) (A2 false):=by
 intro pins s σ H G x y dx dy v u Q I ab rx ry dX dY q;rcases q with q | q
 ·exact lB hu pins s σ H G x y dx dy v u Q I ab rx ry dX dY q
 ·exact PL hu pins s σ H G x y dx dy v u Q I ab rx ry dX dY q
theorem HU(hu:X.A.units+64 < cLine):oU X (eW .NotEq) (A2 true):=by
 intro pins s σ H G x y dx dy v u Q I ab rx ry dX dY q;rcases q with q | q
 ·exact Ms hu pins s σ H G x y dx dy v u Q I ab rx ry dX dY q
 ·exact PI hu pins s σ H G x y dx dy v u Q I ab rx ry dX dY q
variable {k v:Expr} {tk tv:fM} {pos:Pos}
theorem Mn(hk:fZ X k tk)(hv:fZ X v tv):fZ X (.Dict [some k] [v] pos) (yh tk tv):=by
 intro E pins s σ H τ G Q hE I h;have hn:=I.inv.cD.fresh (aF s.heap.objs.size);have I1:=I.inv.laid (a:=s.heap.objs.size) (o:=.dK []) (h':=s.heap.push { cls:=.type "dict",data:=.dict #[] }) (t':=s.toks) (fun _ _ q=>aK _ q) (aF _) (D0 s.heap I.inv.big);have mh:Mv X.K H G (upd H s.heap.objs.size (.dK [])) G:=.K8 I.ab hn;have I2:I2 X pins σ (upd H s.heap.objs.size (.dK [])) τ G { s with heap:=s.heap.push { cls:=.type "dict",data:=.dict #[] },toks:=s.toks }:=⟨I1,I.st.mono (.new hn),mh.ab⟩;refine wpAny_Dict_walk (knd:=cK X.prog X.w) (by rfl) (by rfl) (by simp) (show 1<=15 by decide) ?_;refine pairTrees_cons_walk (je hk hE I2 h fun x H1 dx G1 u s1 I3 m1 r1 iV q1=>?_);refine je hv hE I3 q1 fun y H2 dy G2 w s2 I4 m2 r2 xh q2=>?_;obtain⟨hk1,q2⟩:=q2;refine pairTrees_nil_walk ?_;obtain⟨kk,rfl⟩:=tM hk1;have ex:=sO iV;subst ex;have g0:G s.heap.objs.size=none:=I.ab.free hn;obtain⟨p1,p2⟩:=m1.keep _ _ (bY (H:=H) (a:=s.heap.objs.size) (o:=.dK [])) g0;obtain⟨p3,p4⟩:=m2.keep _ _ p1 p2;obtain⟨rs,c,rk⟩:=ym (P:=X.prog) (w:=X.w) (kvs:=[(kk,y)]) (ws:=[(u,w)]) (.cons ⟨r1,r2⟩ .nil);obtain⟨z,hd,Zo,r0,dd⟩:=As I4.inv.cD p3;cases r0;refine⟨rs,c,dd,fun h' Aw hs=>?_⟩;have he:∃ q,h'.get? s.heap.objs.size=some q:=let ⟨q,_,_,hq,_⟩:=Aw; ⟨q,hq⟩
 have em:FF [] [(kk,y)]=[(kk,y)]:=rfl;have kp:Kp H2 (upd H2 s.heap.objs.size (.dK [(kk,y)])):=.putD p3 (.inl ⟨_,rfl⟩);have I5:=qC (t':=s2.toks+[(u,w)].length) I4.inv (by rw [p3]; exact fF) hs he (BG (kvs:=FF [] [(kk,y)]) (by rw [em]; exact(show 1<=aZ by decide)) hd (rk.merge .nil) Aw);rw [em] at I5;have EF:=(mh.trans m1).trans m2;refine⟨.ref s.heap.objs.size,_,.ref s.heap.objs.size,_,I5,?_,rfl,.ref _,q2 _ p4⟩;refine⟨fun a o e n=>?_,fun a n=>?_,fun a g e=>?_⟩
 ·have ha:a≠s.heap.objs.size:=fun z=>by rw [z,hn] at e; cases e
  obtain⟨k1,k2⟩:=EF.keep a o e n;exact⟨by rw [bM ha]; exact k1,by rw [dR ha]; exact k2⟩
 ·by_cases ha:a=s.heap.objs.size
  ·subst ha; rw [bY]; simp
  ·rw [bM ha]; exact EF.lj a n
 ·by_cases ha:a=s.heap.objs.size
  ·subst ha;rw [aJ] at e;cases e;exact .dk bY (.cons ((xh.mono kp)) .nil)
  ·rw [dR ha] at e;exact(EF.ab a g e).mono kp (bM ha)
end
end K2
end
section
namespace K2
open PySem PySem.Spec PyProof.Rows L2 PySem.W
section
variable {X:Cx}
theorem vm:∀ (ns:List Int) (j:Nat),(∀ n∈ns,-1000<=n/\n<=1000)->-1000 * (ns.length:Int)<=(ns.take j).sum/\(ns.take j).sum<=1000 * (ns.length:Int)
 | [],j,_=>by simp
 | n :: ns,0,_=>by simp only [List.take_zero,List.sum_nil,aj]; lia
 | n :: ns,j+1,h=>by
  have h1:=h n (by simp);have:=vm ns j fun m hm=>h m (aL _ hm);rw [List.take_succ_cons,g6,aj]; lia
theorem Ku (hc:X.calm=true):qk X (.builtin "sum") Ts:=by
 intro pins s σ H G xs ds us Q I ab rx rd q;unfold Ts at q;split at q
 ·rename_i x;obtain⟨ns,ty,hi,⟨hn,hb⟩,q⟩:=q;obtain⟨w1,rfl,AZ⟩:=rd.one;obtain⟨u,rfl,ru⟩:=rx.one;obtain⟨l,vs,bX,rfl,rv,rs,hl,_⟩:=lN I ab ru AZ (zR ty hi);have ev:=rs.ints;subst ev;have hlen:bX.length=ns.length:=by rw [<-rv.length,aC]
  obtain⟨o,ho,Nr,n,hd⟩:=id hl;have B8:l≠s.heap.objs.size:=bL (aW ho);refine call_sum_walk (wpAny_pyIter_list hl ?_);refine⟨s.heap.objs.size,_,_,_,_,_,fun i=>ns.getD i 0,rfl,Walks.list (A:=X.A.in1) (show X.A.in1.handled=none from I.ok.hd hc) _ l B8 bX.toArray,⟨⟨_,bt _ rfl,rfl,rfl⟩,⟨o,aK _ ho,Nr,n,hd⟩⟩,fun b hb=>?_,fun i v hv=>?_,fun j hj=>?_,fun h' tk t' hk=>?_⟩
  ·rcases (by simpa using hb:b=s.heap.objs.size\/b=l) with rfl | rfl
   ·rw [Hg]; exact Ci _
   ·rw [Hg]; exact Nat.lt_succ_of_lt (aW ho)
  ·have ZV:bX[i]?=some v:=by simpa using hv
   have Np:i < bX.length:=(List.getElem?_eq_some_iff.mp ZV).1;have Rn:i < ns.length:=by lia
   obtain⟨u,FU,ru⟩:=rv.get (i:=i) (x:=.int ns[i]) (by rw [bA,au Rn]; rfl);rw [ZV] at FU;cases FU;obtain⟨t,rfl⟩:=ru;refine⟨t,?_⟩;have e9:ns.getD i 0=ns[i]:=by rw [dI,au Rn]; rfl
   show dW ns[i] t=dW (ns.getD i 0) t;rw [e9]
  ·have Z6:j < ns.length:=by rw [<-hlen]; simpa using hj
   have e1:ns.getD j 0=ns[j]:=by rw [dI,au Z6]; rfl
   have b1:=hb ns[j] (fh Z6);have b2:=vm ns (j+1) hb;rw [yU];dsimp only;rw [e1];unfold InLong;lia
  ·have e:preSum (fun i=>ns.getD i 0) bX.toArray.size=ns.sum:=by
    rw [yU,aX,hlen,List.take_length]
   rw [e];refine⟨.int _,H,.int _,G,I.kept (t':=tk) fun b o e=>hk b o (by simpa using bL (aW e)) (aK _ e),.refl ab,⟨_,rfl⟩,.int _,q⟩
 ·exact q.elim
end
end K2
end
section
namespace K2
open PySem PySem.Spec PyProof.Rows L2
section
variable {K:ai} {h:Heap} {C:Addr} {VH:List Value} {newId:String}
inductive TJ (h:Heap) (C:Addr) (VH:List Value) (newId:String):Prop
 | mk (bm N nm qn bs YA sn sub ab col dd k0 k1 k2 k3 k5 mN) (o:h.get? C=some (excClassObj nm qn C N bs bm YA sn sub ab col dd k0 k1 k2 k3 k5 newId)) (n:h.Ns N mN) (i:mN "__init__" = none) (t:OwnTail h VH bm):TJ h C VH newId
end
end K2
end
section
namespace K2
open PySem PySem.Spec PyProof.Rows L2
noncomputable def kp1:HO->Bool
 | .tup _=>true
 | .jh _ (.lst _)=>true
 | .jh _ (.dK _)=>true
 | .jh _ (.dT _)=>true
 | .jh _ (.ext _)=>true
 | .jh _ (.xd _)=>true
 | _=>false
noncomputable def hr(H:Hp):Hp:=fun b=>(H b).bind fun o=>if kp1 o=true then some o else none
noncomputable def hj(H1 H':Hp):Hp:=fun b=>match H1 b with
 | some o=>some o
 | none=>H' b
end K2
end
section
namespace K2
open PySem PySem.Spec PyProof.Rows L2
noncomputable def subIn(K:ai)(C:Addr)(v:Value):Bool:=match K.lookup C with
 | some ⟨_,_,.cls cd,_⟩=>cd.mro.contains v
 | _=>false
section
variable {X:Cx} {x cn n:Str} {D f:Addr} {fd:aI} {ps:List Str} {k i:Nat} {sp:mR} {Y3:List Value} {newD:String} {cat:List Str} {e:Expr} {es:List Expr} {p np pos ep abM tp:Pos} {st0:Stmt} {Zr:List Stmt} {t:GP} {th:hV}
structure aaC(X:Cx):Prop where
 st:X.stack=X.env :: X.outer
 fr:X.env.frame=some X.env.locals
 ex:X.ex=[]
structure Clause(X:Cx)(i:Nat)(n cn:Str)(D:Addr)(cat:List Str):Prop where
 nd:X.N.Nodup
 Ry:X.N[i]?=some n
 loc:X.env.scope.names.lookup n=some .local
 gl:Gl X cn
 mg:X.mg cn=some (.ref D)
 cls:∃ Y3 newD,PySem.W.excIn X.K D Y3 newD=true/\Y3.contains (.type "BaseException")=true
 cat:∀ c,cat.contains c=true->∃ C VH newId,c6 X.K bS c=some (some (.ref C))/\PySem.W.excIn X.K C VH newId=true/\subIn X.K C (.ref D)=true
end
end K2
end
section
namespace K2
open PySem PySem.Spec PyProof.Rows L2 PySem.W PySem.Calls PySem.Builtin PySem.Builtin.Getset_descriptor
section
variable {prog:bJ} {w:World} {A:dj} {E:Value->aw->Prop} {s:aw} {K:ai} {a C:Addr} {ox:Obj}
structure aaz(K:ai)(C:Addr):Prop where
 ga:findIn K (.ref C) "__getattribute__" = some (some (.builtin "BaseException.__getattribute__"))
 gn:findIn K (.ref C) "__getattr__" = some none
 Ry:findIn K (.ref C) "__class__" = some (some (.builtin "object.__class__"))
 sp:specialIn K (.builtin "object.__class__") "__get__" = some (some (.builtin "getset_descriptor.__get__"))
 tk:takesIn K (.builtin "object.__class__")=some true
 mo:mroIn K C (.type "object")=some true
 mb:mroIn K C (.type "BaseException")=some true
 is:(clsIn K C).isSome=true
end
end K2
end
section
namespace K2
open PySem PySem.Spec PyProof.Rows L2
section
variable {X:Cx} {e:Expr} {te:fM} {pos:Pos}
theorem ka{i:Nat}{x:Str}{pos':Pos}(hN:X.N.Nodup)(hi:X.N[i]?=some x)(he:fZ X e te)(hx:autoParam (Loc X.env.scope x) Ao._auto_1)(hs:autoParam (Lh e (some (.Name x pos')) pos.line X.env=pure false) Ar._auto_1)(hf:autoParam (X.fn x=true\/X.env.scope.names.lookup x=some .local) Ao._auto_1) :
  GQ X (.Assign [.Name x pos'] e pos) (bQ te (aP i)):=Pj hN hi hx he hs hf
theorem mQ{i:Nat}{x:Str}(hN:X.N.Nodup)(hi:X.N[i]?=some x)(hx:autoParam (Loc X.env.scope x) Ao._auto_1)(hf:autoParam (X.fn x=true\/X.env.scope.names.lookup x=some .local) Ao._auto_1):KD X (.Name x pos) (aP i):=Mj hN hi hx hf
theorem su{P:bJ}{w:World}{K:ai}{mg:Str->Option Value}{base:Heap}{x qual:Str}{st:Stmt}{f:Addr}{fd:aI}{Nn ps:List Str}{k:Nat}{sp:mR}{rd:hV}(F:oK K x qual st f fd)(S:cA Nn ps (bg st))
  (hr:∀ ds G Q,sp ds G Q (fun _ _=>False)->rd (fun _ _=>False) (ends Q) (bF Nn.length ds) G)
  (hb:∀ (nI:Value) (A:dj) (outer:List Env) (s:aw) (H:Hp) (E:XK),lO k (A.deeper (Cf qual (bg st) s.heap.objs.size f nI))->yy (D9 fY P w K mg base Nn qual (bg st) f nI A outer s H E).TU (jx st) rd)
  (len:autoParam (∀ ds G Q E,sp ds G Q E->ds.length=ps.length) Al._auto_1):fX P w K mg base fY (k+1) f fd ps (cR K sp):=Qa F S len hr hb
theorem sr{N ps:List Str}{sc:Scope}(h1:autoParam (sc.kind=.function) Ar._auto_1)(h2:autoParam (sc.isCoroutine=false) Ar._auto_1)(h3:autoParam (sc.isGenerator=false) Ar._auto_1)(h4:autoParam N.Nodup Ak._auto_1)(h5:autoParam (N.take ps.length=ps) Ar._auto_1)
  (h6:autoParam (∀ x∈ps,sc.names.lookup x=some .local\/sc.names.lookup x=some .cell) Ak._auto_1) (h7:autoParam (∀ y∈sc.names,y.2≠.free) Ak._auto_1):cA N ps sc:=⟨h1,h2,h3,h4,h5,h6,h7⟩
end
end K2
end
section
namespace K2
open PySem PySem.Spec PyProof.Rows L2
section
variable {X:Cx} {a b c:Expr} {ta tb tc:fM} {pos:Pos}
theorem wd {x:Str} {i:Int} {t:Tok} {p:Pos} (hg:Gl X x) (hm:X.mg x=some (.int i t)) (hd:autoParam ((x == ("__debug__" : Str))=false) Ad._auto_1):fZ X (.Name x p) (dC (.int i)):=uO (Pw (v:=.int i) hg hm ⟨t,rfl⟩ hd) fun _ _=>.int i
end
end K2
end
section
namespace K2
open PySem PySem.Spec PyProof.Rows L2
theorem rJ{α:Type}{us:List α}(h:us.length=1):∃ a,us=[a]:=List.length_eq_one_iff.mp h
theorem SM{α:Type}{us:List α}{n:Nat}(h:us.length=n+1):∃ a t,us=a :: t/\t.length=n:=by
 cases us with
 | nil=>cases h
 | cons a t=>exact⟨a,t,rfl,Nat.succ.inj h⟩
theorem xP{α:Type}{us:List α}(h:us.length=2):∃ a b,us=[a,b]:=by
 obtain⟨a,t,rfl,h2⟩:=SM h; obtain⟨b,rfl⟩:=rJ h2; exact⟨a,b,rfl⟩
theorem MO{α:Type}{us:List α}(h:us.length=3):∃ a b c,us=[a,b,c]:=by
 obtain⟨a,t,rfl,h2⟩:=SM h; obtain⟨b,c,rfl⟩:=xP h2; exact⟨a,b,c,rfl⟩
theorem U3{α:Type}{us:List α}(h:us.length=4):∃ a b c d,us=[a,b,c,d]:=by
 obtain⟨a,t,rfl,h2⟩:=SM h; obtain⟨b,c,d,rfl⟩:=MO h2; exact⟨a,b,c,d,rfl⟩
section
variable {X:Cx} {a b tg:Expr} {ta tb:fM} {p pos:Pos}
theorem Fp (hg:Gl X "range") (hm:X.mg "range" = none) (ha:fZ X a ta) (hb:fZ X b tb) (hs:autoParam (cC [a,b] X.env=(false,eval a X.env) :: cC [b] X.env) Ar._auto_1) (EG:autoParam (cC [b] X.env=[(false,eval b X.env)]) Ar._auto_1) (FV:autoParam ((oy pos (cC [b] X.env)).any (·.1)=false) Ar._auto_1):KC X tg (.Call (.Name "range" p) [a,b] [] pos) (Ra ta tb):=by
 intro E pins s σ H τ G R hE I h;have hA:IY X [a,b] (av ta (av tb a8)):=ah ha (ah hb aG EG) hs;refine Call_ (pT I.inv hg hm boot_range (fg (Cw hA pos hE I (R:=fun ds G1=>match ds with | [.int i,.int j]=>(-(2 ^ 62)<=i/\i < 2 ^ 62/\-(2 ^ 62)<=j/\j < 2 ^ 62)/\R (fu i (j - i).toNat) (fun _=>True) G1 | _=>False) ?_ fun vs H1 ds G1 us s1 I1 m1 r1 iV q1=>?_) hs FV))
 ·show ta E τ G fun x G1=>tb E τ G1 fun y G2=>_;have e:(fun (x:D) (G1:Gp)=>tb E τ G1 fun y G2=>match [x,y] with | [.int i,.int j]=>(-(2 ^ 62)<=i/\i < 2 ^ 62/\-(2 ^ 62)<=j/\j < 2 ^ 62)/\R (fu i (j - i).toNat) (fun _=>True) G2 | _=>False)=fun x G1=>tb E τ G1 fun y G2=>match x,y with | .int i,.int j=>(-(2 ^ 62)<=i/\i < 2 ^ 62/\-(2 ^ 62)<=j/\j < 2 ^ 62)/\R (fu i (j - i).toNat) (fun _=>True) G2 | _,_=>False:=by
   funext x G1;congr 1;funext y G2;cases x <;> cases y <;> rfl
  exact e ▸ h
 ·split at q1
  ·rename_i i j;obtain⟨w1,w2,rfl,AZ,LY⟩:=iV.two;cases AZ; cases LY;obtain⟨u1,u2,rfl,Fg,Jx⟩:=r1.two;obtain⟨t1,rfl⟩:=Fg;obtain⟨t2,rfl⟩:=Jx;obtain⟨⟨q1,q2,q3,q4⟩,q⟩:=q1;exact call_range_2 (L4 I1.inv m1 q1 q2 q3 q4 q)
  ·exact q1.elim
end
end K2
end
section
namespace L2
open PySem PySem.Spec PyProof.Rows
section
variable {prog:bJ} {w:World} {A:dj} {E:Value->aw->Prop} {s:aw}
theorem FO{it d:Addr}{od:Obj}{es:Array eX}{i ep:Nat}{ok ov:Value}{Q:Option Value->aw->Prop}(hit:mE s.heap it d i es.size ep ok ov)(B6:s.heap.get? d=some od)(dd:od.data=.dict es ep)(hi:i < es.size)
  (hQ:∀ h',IsItemIterOut h' it d (i+1) es.size ep es[i].key es[i].val s.heap.objs.size->h'.get? s.heap.objs.size=some { cls:=.type "tuple",data:=.seq #[es[i].key,es[i].val] }->(∀ b o,b≠it->s.heap.get? b=some o->h'.get? b=some o)->Q (some (.ref s.heap.objs.size)) { s with heap:=h' }) :
  wpAny (model prog w) A (Ce (.ref it)) Q E s:=by
 obtain⟨hp,g,dr,tk,os⟩:=s;have ty:Shared.TypeIs ⟨hp,g,dr,tk,os⟩ (.ref it) "dict_itemiterator":=⟨_,hit,rfl⟩;unfold Ce;refine ag (Cc (iw (name:=uB "__next__") ty iC (cU iC ty EA ?_ (Ck _))));refine ag (aA (ag (ag ?_)))
 first | refine ag (iq ty (aA (ag (mP hit rfl ?_)))) | refine ag (j8 ty (aA (ag (mP hit rfl ?_))))
 have Mq:eM "dict_itemiterator" = true:=by decide
 rw [Mq];show wpAny _ _ (if (fj d == fE)=true then _ else _) _ _ _;rw [if_neg (fun z=>by cases z)];refine ag (aA (ag (fU B6 dd ?_)));rw [if_neg (by simp)];refine ag (aA (ag (lb B6 dd ?_)));rw [if_neg (by simp)];refine aA ?_;dsimp only;rw [if_neg (show ¬ ((i:Int) < 0) from Int.not_lt.mpr (oX i)),eV,EY hi];dsimp only;refine ag ?_
 first | refine ag (iq ty (aA (ag (lY ty ?_)))) | refine ag (j8 ty (aA (ag (lY ty ?_))))
 show wpAny _ _ (setField (.ref it) 3 (Cd ((i:Int)+1)) >>= _) _ _ ⟨hp,g,dr,tk,os⟩;refine ag (la hit (by simp) fun h1 e1 s1=>?_);have s1:eZ it hp h1:=s1;have e1:mE h1 it d (i+1) es.size ep ok ov:=by
  have e:((i+1:Nat):Int)=(i:Int)+1:=by lia
  unfold mE; rw [e]; simpa [Cd] using e1
 have Zp:Shared.TypeIs ⟨h1,g,dr,tk,os⟩ (.ref it) "dict_itemiterator":=⟨_,e1,rfl⟩;refine ag (eL (ag (lY Zp (ag (lY Zp ?_)))));show wpAny _ _ (pe (.ref it) 6 es[i].key es[i].val) _ _ ⟨h1,g,dr,tk,os⟩;unfold pe;refine ag (wpAny_newTuple ?_);have z1:h1.objs.size=hp.objs.size:=s1.1;have lt:it < hp.objs.size:=aW hit;have e2:mE (h1.push { cls:=.type "tuple",data:=.seq #[es[i].key,es[i].val] }) it d (i+1) es.size ep ok ov:=aK _ e1;have t2:(h1.push { cls:=.type "tuple",data:=.seq #[es[i].key,es[i].val] }).get? hp.objs.size=some { cls:=.type "tuple",data:=.seq #[es[i].key,es[i].val] }:=by rw [<-z1]; exact bt _ rfl
 have k2:∀ b o,b≠it->hp.get? b=some o->(h1.push { cls:=.type "tuple",data:=.seq #[es[i].key,es[i].val] }).get? b=some o:=fun b o hb e=>aK _ (s1.extBut b o hb e);generalize h1.push { cls:=.type "tuple",data:=.seq #[es[i].key,es[i].val] } = h2 at e2 t2 k2;show wpAny _ _ (hX (.ref it) >>= _) _ _ ⟨h2,g,dr,tk,os⟩;rw [z1];refine ag (show wpAny _ _ (hX (.ref it)) _ _ _ from ?_);unfold hX;refine ag (oY e2 rfl (x:=.none) rfl (aA ?_));rw [if_pos rfl];refine ag (oY e2 rfl (x:=ok) rfl (ag (oY e2 rfl (x:=ov) rfl (ag (la e2 (by simp) fun h3 e3 s3=>?_)))));have s3:eZ it h2 h3:=s3;have e3:mE h3 it d (i+1) es.size ep es[i].key ov:=e3;refine ag (la e3 (by simp) fun h4 e4 s4=>?_);have s4:eZ it h3 h4:=s4;have e4:mE h4 it d (i+1) es.size ep es[i].key es[i].val:=e4;refine ag (la e4 (by simp) fun h5 e5 s5=>?_);have s5:eZ it h4 h5:=s5;have e5:IsItemIterOut h5 it d (i+1) es.size ep es[i].key es[i].val hp.objs.size:=e5;refine ag (la e5 (by simp) fun h6 e6 s6=>?_);have s6:eZ it h5 h6:=s6;have all:∀ b o,b≠it->h2.get? b=some o->h6.get? b=some o:=fun b o hb e=>s6.extBut b o hb (s5.extBut b o hb (s4.extBut b o hb (s3.extBut b o hb e)));exact ag (wpAny_letGo (aA (aA ⟨_,rfl,aA (hQ h6 e6 (all _ _ (Nat.ne_of_gt lt) t2) fun b o hb e=>all b o hb (k2 b o hb e))⟩)))
end
end L2
namespace L2
open PySem PySem.Spec PyProof.Rows
section
variable {prog:bJ} {w:World} {A:dj} {E:Value->aw->Prop} {s:aw}
theorem J1{it d:Addr}{od:Obj}{es:Array eX}{i ep:Nat}{ok ov:Value}{Q:Option Value->aw->Prop}(calm:A.handled=none)(hit:mE s.heap it d i es.size ep ok ov)(B6:s.heap.get? d=some od)(dd:od.data=.dict es ep)(hi:es.size<=i)
  (hQ:∀ h',Heap.ExtBut it s.heap h'->Q none { s with heap:=h' }):wpAny (model prog w) A (Ce (.ref it)) Q E s:=by
 have ty:s.TypeIs (.ref it) "dict_itemiterator":=⟨_,hit,rfl⟩;unfold Ce;refine ag (Cc (iw (name:=uB "__next__") ty iC (cU iC ty EA ?_ (Ck _))));refine ag (aA (ag (ag ?_)))
 first | refine ag (iq ty (aA (ag (mP hit rfl ?_)))) | refine ag (j8 ty (aA (ag (mP hit rfl ?_))))
 have Mq:eM "dict_itemiterator" = true:=by decide
 rw [Mq];show wpAny _ _ (if (fj d == fE)=true then _ else _) _ _ s;rw [if_neg (fun z=>by cases z)];refine ag (aA (ag (fU B6 dd ?_)));rw [if_neg (by simp)];refine ag (aA (ag (lb B6 dd ?_)));rw [if_neg (by simp)];refine aA ?_;dsimp only;rw [if_neg (show ¬ ((i:Int) < 0) from Int.not_lt.mpr (oX i)),eV,KZ hi];dsimp only;refine ag ?_
 first | refine ag (iq ty (aA (?_))) | refine ag (j8 ty (aA (?_)))
 show wpAny _ _ (setField (.ref it) 2 .none >>= _) _ _ s;refine ag (OO hit rfl (by simp) (show wpAny _ _ (newExc (.type "StopIteration") [] >>= _) _ _ _ from ag ?_));simp only [newExc,newTuple];refine ag (dh (ag (m:=zr _ _) (wpAny_of_eq (a:=fE) (by first | rfl | (simp only [zr]; rfl)) (dh ?_ (by size_fits)))) (by size_fits));simp only [raiseNew];refine ag (wpAny_handled ?_);rw [show A.in1.handled=none from calm];refine ag (aA (wpAny_throw ?_));refine ag (nJ (T:="StopIteration") (b:=true) ⟨_,bt _ rfl,rfl⟩ isSubtype_stop (?_));exact aA (hQ _ (((iR ..).extBut.push _).push _))
end
end L2
namespace L2
open PySem PySem.Spec PyProof.Rows
section
variable {prog:bJ} {w:World} {A:dj} {E:Value->aw->Prop} {s:aw}
theorem tw (d:Addr) (ns:(d == cV)=false):MeetsIn prog w (Builtin.«dict.items» ⟨[.ref d],[]⟩) (fun _ R s=>s.TypeIs (.ref d) "dict"/\R (.ok (.ret (.ref s.heap.objs.size))) { s with heap:=s.heap.push { cls:=.type "dict_items",data:=.fields #[.ref d] } }):=by
 refine .of_wp ?_;rintro A R s ⟨ty,h⟩;unfold Builtin.«dict.items» Builtin.Dict.noArgs;refine ag (ag (wF ty (show wpAny _ _ (pure d) _ _ s from aA ?_)));show wpAny _ _ (jW d >>= _) _ _ s;unfold jW;rw [if_neg (fun z=>by rw [ns] at z; cases z)];exact ag (aA (ag (dh (aA ⟨_,rfl,h⟩))))
theorem vH{v d:Addr}{od:Obj}{es:Array eX}{ep:Nat}{Q:Value->aw->Prop}(hv:s.heap.IsItemsView v d)(B6:s.heap.get? d=some od)(dd:od.data=.dict es ep)
  (hQ:Q (.ref s.heap.objs.size) { s with heap:=s.heap.push { cls:=.type "dict_itemiterator",data:=.fields #[.none,.bool false,.ref d,.int 0 0,.int es.size 0,.int ep 0,.none,.none] } }) :
  wpAny (model prog w) A (Li (.ref v)) Q E s:=by
 obtain⟨ov,hov,hcv,hdv⟩:=id hv;refine my hv.typeIs F.slot_dict_items_iter (cU F.slot_dict_items_iter hv.typeIs F.entry_dict_items_iter ?_ (F.args_dict_items_iter_1 _));unfold Builtin.«dict_items.__iter__» Builtin.Dict_items.dictOf;refine ag (aA (ag (ag (oY hov hdv (x:=.ref d) rfl (aA (ag ?_))))));unfold Builtin.Dict_items.newIterator;refine ag (fU B6 dd (ag (lb B6 dd ?_)));have Mq:eM "dict_itemiterator" = true:=by decide
 rw [Mq];dsimp only;rw [if_pos (show true=true from rfl)];refine dh (aA ⟨_,rfl,"dict_itemiterator",_,⟨_,bt _ rfl,rfl⟩,F.slot_dict_itemiterator_next.lookup,?_⟩) ?_
 ·simpa [Cd,oA] using hQ
 ·simp only [sizeOk,oA,aX,aB,aj,aE,cQ]; lia
end
noncomputable def Zi(a:Addr)(o:Obj)(es:Array eX)(ps:List (V×V)):It :=
 ⟨fun i H=>(∃ u,H a=some (.jh o u))/\i < es.size,fun i H v H'=>∃ T p,v=.ref T/\H T=none/\H'=upd H T (.tup [p.1,p.2])/\ps[i]?=some p,fun i H=>(∃ u,H a=some (.jh o u))/\es.size<=i⟩
theorem vk{P:bJ}{w:World}{K:ai}{elts:List Expr}{kk:Nat}{pos:Pos}(a it:Addr)(o:Obj)(es:Array eX)(ep:Nat)(ps:List (V×V))(dd:o.data=.dict es ep)(hk:∀ i (h:i < es.size),∃ p,ps[i]?=some p/\RelV p.1 es[i].key/\RelV p.2 es[i].val) :
  Turn P w K (.Tuple elts kk pos) (Zi a o es ps) [it] it (fun i h=>∃ ok ov,mE h it a i es.size ep ok ov) where
 mem:=by simp
 obj:=by
  rintro i h ⟨ok,ov,st⟩ b hb;have e:b=it:=by simpa using hb
  subst e;exact⟨_,st,fun v z=>by cases z⟩
 keep:=by rintro i h h' ⟨ok,ov,st⟩ k; exact⟨ok,ov,k it (by simp) _ st⟩
 item:=by
  intro X hP hw hK hc i pins s σ H E I hf st hg;obtain⟨ok,ov,st⟩:=st;subst hP hw hK;obtain⟨⟨u,hu⟩,hi⟩:=hg;obtain⟨p,hp,r1,r2⟩:=hk i hi;have Vu:H s.heap.objs.size=none:=I.cD.fresh (aF _);have Yr:it≠s.heap.objs.size:=bL (aW st);refine FO st (I.cD a _ hu).1 dd hi fun h' ho hT kk=>?_;refine⟨_,rfl,?_⟩;have I1:Inv X pins σ (upd H s.heap.objs.size (.tup [p.1,p.2])) { s with heap:=h',toks:=s.toks } :=
   I.AR (fp:=[it]) hf (fun b o hb q=>kk b o (fun z=>hb (by simp [z])) q) (aF _)
    ⟨by show 2<=aZ; decide,[es[i].key,es[i].val],.cons r1 (.cons r2 .nil),⟨_,hT,rfl,_,rfl⟩⟩
  refine Lf (s:={ s with heap:=h' }) ho fun h2 Vn EG=>?_;have f1:∀ b∈[it],mM X pins (upd H s.heap.objs.size (.tup [p.1,p.2])) b:=fun b hb=>(hf b hb).upd (by rw [List.mem_singleton.mp hb]; exact Yr);have I2:Inv X pins σ (upd H s.heap.objs.size (.tup [p.1,p.2])) { s with heap:=h2,toks:=s.toks } :=
   Inv.v5 (s:={ s with heap:=h',toks:=s.toks }) (t':=s.toks) (fp:=[it]) I1 f1 fun b o hb q=>(EG.2 b (fun z=>hb (by simp [z]))).trans q
  exact⟨.ref s.heap.objs.size,_,I2,rfl,⟨_,p,rfl,Vu,rfl,hp⟩,⟨_,_,Vn⟩,fun b hb=>(f1 b hb).1⟩
 done:=by
  intro X hP hw hK hc i pins s σ H E I hf st hg;obtain⟨ok,ov,st⟩:=st;subst hP hw hK;obtain⟨⟨u,hu⟩,hi⟩:=hg;obtain⟨f0,f1,f2,f3,f4,f5⟩:=hf it (by simp);exact J1 (I.ok.hd hc) st (I.cD a _ hu).1 dd hi fun h' eb=>⟨rfl,I.turned (t':=s.toks) (fun b o hb e=>eb b o hb e) f0 f1 f3 f4 f5⟩
 self:=by
  rintro A i s Q E ⟨ok,ov,st⟩ h;have ty:s.TypeIs (.ref it) "dict_itemiterator":=⟨_,st,rfl⟩;refine my ty iD (cU iD ty kH ?_ (Cm _));show wpAny _ _ (ret (.ref it)) _ _ s;exact aA ⟨_,rfl,"dict_itemiterator",_,ty,F.slot_dict_itemiterator_next.lookup,h⟩
end L2
end
section
namespace K2
open PySem PySem.Spec PyProof.Rows L2
section
variable {X:Cx} {elts:List Expr} {kk:Nat} {Cv apos jg:Pos} {o:Expr} {to:fM}
theorem kT.item{K:ai}{H:Hp}{kv:List (List Key×V)}{kvs:List (D×D)}(h:kT K H kv kvs):∀ {i:Nat} {q:D×D},kvs[i]?=some q->∃ p,kv[i]?=some p/\q.1=.tup (p.1.map dP)/\cg K H p.2 q.2:=by
 induction h using kT.ind with
 | nil=>intro i q e; simp at e
 | @cons k v d r t rd rs ih =>
  intro i q e;cases i with
  | zero=>simp at e; subst e; exact⟨_,rfl,rfl,rd⟩
  | succ i =>
   obtain⟨p,h1,h2⟩:=ih (i:=i) (q:=q) (by simpa using e);exact⟨p,by simpa using h1,h2⟩
theorem kT.len{K:ai}{H:Hp}{kv:List (List Key×V)}{kvs:List (D×D)}(h:kT K H kv kvs):kv.length=kvs.length:=by
 have:=congrArg dU h.keys;simpa using this.symm
theorem Fq (ho:fZ X o to) (xV:autoParam (oM o "items" X.env (eval o X.env)=eval o X.env) Ar._auto_1) (xU:autoParam ((apos.endLine == jg.line)=true) Ar._auto_1) :
  KC X (.Tuple elts kk Cv) (.Call (.Attribute o "items" apos) [] [] jg) (Bp to):=by
 intro E pins s σ H τ G R hE I h;refine uz xV xU (je ho hE I h fun x H1 d G1 v s1 I1 m1 r1 iV q1=>?_);cases d with
 | jY kvs =>
  obtain⟨h1,q1⟩:=q1;obtain⟨t1,t2⟩:=mS pins s1 σ H1 G1 x _ v I1.inv I1.ab r1 iV trivial;have main:∃ (a:Addr) (ob:Obj) (u:HO) (es:Array eX) (ep:Nat) (ps:List (V×V)),x=.ref a/\(a == cV)=false/\H1 a=some (.jh ob u)/\ob.data=.dict es ep/\(∀ i (h:i < es.size),∃ p,ps[i]?=some p/\RelV p.1 es[i].key/\RelV p.2 es[i].val)/\kvs.length=es.size /\
    (∀ (i:Nat) (q:D×D),kvs[i]?=some q->∃ p,ps[i]?=some p/\cg X.K H1 p.1 q.1/\cg X.K H1 p.2 q.2):=by
   cases iV with
   | oS hq rs =>
    rename_i a o kv;cases rs with
    | nil =>
     obtain⟨z,ns,vs,rel,ob,es,ep,ho,ex,dd,Z3,hp,nd⟩:=(I1.inv.cD a _ hq).2;have eo:ob=o:=by have:=(I1.inv.cD a _ hq).1; rw [ho] at this; exact aY this
     subst eo;have l1:es.size=vs.length:=by simpa using hp.length
     have l2:([]:List (Key×V)).length=vs.length:=gU rel;have l3:es.size=0:=by rw [l1,<-l2]; rfl
     exact⟨a,ob,_,es,ep,[],rfl,ns,hq,dd,fun i h=>by lia,by rw [l3]; rfl,fun i q e=>by simp at e⟩
    | @cons j _ _ _ _ _ _=>cases j <;> simp [dP,jS] at h1
   | oR hq rs =>
    rename_i a o kv;obtain⟨z,ns,xs,rel,ob,es,ep,ho,ex,dd,hl,nd⟩:=(I1.inv.cD a _ hq).2;have eo:ob=o:=by have:=(I1.inv.cD a _ hq).1; rw [ho] at this; exact aY this
    subst eo;have l1:=congrArg dU hl;rw [aC,eN] at l1;have l2:kv.length=xs.length:=gU rel;have l3:=rs.len;refine⟨a,ob,_,es,ep,(kv.zip xs).map fun z=>(V.ref z.2.2.1,z.1.2),rfl,ns,hq,dd,fun i hi=>?_,by lia,fun i q e=>?_⟩
    ·have i2:i < xs.length:=by lia
     have i3:i < kv.length:=by lia
     have ee:es[i]=entryOfKey (g7 (cK X.prog X.w)) xs[i]:=by
      have:=congrArg (fun l=>l[i]?) hl;simp only [bA,au i2] at this;simpa [hi] using this
     refine⟨(V.ref xs[i].2.1,kv[i].2),by rw [bA,au (by rw [ku]; lia),rz]; rfl,?_⟩;rw [ee];exact⟨rfl,(uQ rel i i3 i2).2.2⟩
    ·obtain⟨p,hp,ek,rp⟩:=rs.item e;have i3:i < kv.length:=(List.getElem?_eq_some_iff.mp hp).1;have i2:i < xs.length:=by lia
     have pr:=uQ rel i i3 i2;rw [au i3] at hp;cases hp;refine⟨(V.ref xs[i].2.1,kv[i].2),by rw [bA,au (by rw [ku]; lia),rz]; rfl,?_,rp⟩;rw [ek];exact .tup pr.2.1 (uK _)
  obtain⟨a,ob,u,es,ep,ps,rfl,hm,hu,dd,hk,hlen,Se⟩:=main;cases r1;refine⟨"dict","dict.items",cW,fk,o8,t1,t2,kG rfl (vQ ?_)⟩;refine wN fk t1 oN (nM _) (tw a hm) ⟨t1,?_⟩;have I2:Inv X pins σ H1 { s1 with heap:=s1.heap.push { cls:=.type "dict_items",data:=.fields #[.ref a] } }:=I1.inv.kept (t':=s1.toks) fun b o e=>aK _ e;refine vH (s:={ s1 with heap:=s1.heap.push { cls:=.type "dict_items",data:=.fields #[.ref a] } }) ⟨_,bt _ rfl,rfl,rfl⟩ (aK _ (I1.inv.cD a _ hu).1) dd ?_;refine⟨_,[_],_,_,H1,G1,kvs.map (fun p=>.tup [p.1,p.2]),_,rfl,I2.kept (t':=s1.toks) fun b o e=>aK _ e,m1,vk a _ ob es ep ps dd hk,⟨.none,.none,bt _ rfl⟩,fun b hb=>?_,fun i H2 G2 k ab _=>?_,q1⟩
  ·have e:=List.mem_singleton.mp hb;subst e;exact I2.Bv (aF _) (I2.cD.fresh (aF _))
  ·have z0:=k.jh _ _ _ hu;refine⟨fun d hd=>?_,fun hle=>⟨⟨u,z0⟩,by rw [<-hlen]; simpa using hle⟩⟩;rw [bA] at hd;cases J9:kvs[i]? with
   | none=>rw [J9] at hd; cases hd
   | some q =>
    rw [J9] at hd;obtain⟨p,hp,rk,rp⟩:=Se i q J9;have hi:i < es.size:=by rw [<-hlen]; exact(List.getElem?_eq_some_iff.mp J9).1
    refine⟨⟨⟨u,z0⟩,hi⟩,?_⟩;rintro x H3 ⟨T,p',ex,hT,e3,hy⟩;subst ex e3;rw [hp] at hy;cases hy;have ed:D.tup [q.1,q.2]=d:=by simpa using hd
    subst ed;exact⟨.tup bY (.cons ((rk.mono k).mono (.new hT)) (.cons ((rp.mono k).mono (.new hT)) .nil)),.K8 ab hT⟩
 | _=>exact q1.elim
end
end K2
end
section
namespace K2
open PySem PySem.Spec PyProof.Rows L2
noncomputable def YV(e:eX)(p:Int×Int):Bool:=e.hash == hashInt p.1&&qK p.1 e.key&&qK p.2 e.val
noncomputable def Qd:List eX->List (Int×Int)->Bool
 | [],[]=>true
 | e :: es,p :: ps=>YV e p&&Qd es ps
 | _,_=>false
noncomputable def Av(K:ai)(a:Addr)(kv:List (Int×Int)):Bool:=match K.lookup a with
 | some o=>o.cls == .type "dict" && o.dict == none&&o.slots.toList == []&&(match o.data with | .dict es _=>Qd es.toList kv | _=>false)
 | none=>false
noncomputable def Q6(kv:List (Int×Int)):List (Key×V):=kv.map fun p=>(.inl p.1,.int p.2)
theorem isInt_shape{i:Int}{v:Value}(h:qK i v=true):∃ t,v=.int i t:=by
 rcases eg (k:=.inl i) h with ⟨j,t,e,rfl⟩ | ⟨_,_,e,_⟩
 ·cases e; exact⟨t,rfl⟩
 ·cases e
section
variable {P:bJ} {w:World}
theorem yd:∀ (es:List eX) (kv:List (Int×Int)),Qd es kv=true->∃ vs,KV (Q6 kv) vs/\Pairs (cK P w) es vs/\vs.map (·.1)=kv.map (fun p=>(uA p.1:Key))/\∀ e∈es,∃ k,(cK P w).is k e.key=true/\e.hash=(cK P w).hash k
 | [],[],_=>⟨[],.nil,.nil,rfl,fun e h=>by cases h⟩
 | [],_ :: _,h=>bz (show false=true from h)
 | _ :: _,[],h=>bz (show false=true from h)
 | e :: es,p :: ps,h=>by
  have h:(YV e p&&Qd es ps)=true:=h;rw [aH] at h;obtain⟨vs,h1,h2,h3,h4⟩:=yd es ps h.2;have he:=h.1;unfold YV at he;rw [aH,aH] at he;obtain⟨t,ev⟩:=isInt_shape he.2;refine⟨(.inl p.1,e.val) :: vs,.cons ⟨rfl,t,ev⟩ h1,.cons he.1.2 rfl h2,by rw [ak,ak,h3],fun x hx=>?_⟩;rcases List.mem_cons.mp hx with rfl | hx
  ·exact⟨.inl p.1,he.1.2,beq_iff_eq.mp he.1.1⟩
  ·exact h4 x hx
theorem Tn{K:ai}{a:Addr}{kv:List (Int×Int)}{h:Heap}(Y:K.In h)(e:Av K a kv=true)(nd:(kv.map (·.1)).Nodup):∃ vs,KV (Q6 kv) vs/\h.DictOf (cK P w) a vs:=by
 unfold Av at e;cases hl:K.lookup a with
 | none=>rw [hl] at e; exact bz (show false=true from e)
 | some o =>
  rw [hl] at e;dsimp only at e;rw [aH,aH,aH] at e;obtain⟨⟨⟨e1,e2⟩,e3⟩,e4⟩:=e;obtain⟨c,dd,dt,⟨sl⟩⟩:=o;have f1:c=.type "dict":=beq_iff_eq.mp e1;have f2:dd=none:=beq_iff_eq.mp e2;have f3:sl=[]:=beq_iff_eq.mp e3;clear e1 e2 e3;subst f1;subst f2;subst f3;cases dt with
  | dict es ep =>
   obtain⟨vs,h1,h2,h3,h4⟩:=yd (P:=P) (w:=w) es.toList kv e4;refine⟨vs,h1,_,es,ep,Y _ _ hl,⟨rfl,rfl,rfl⟩,rfl,?_,h2,?_⟩
   ·intro e he;obtain⟨k,q1,q2⟩:=h4 e (Array.mem_toList_iff.mpr he);exact⟨k,q1,q2⟩
   ·rw [h3];have:kv.map (fun p=>(uA p.1:Key))=(kv.map (·.1)).map uA:=by rw [br]; rfl
    rw [this,List.nodup_iff_pairwise_ne,zu];exact(List.nodup_iff_pairwise_ne.mp nd).imp fun B8 e=>B8 (Sum.inl.inj e)
  | _=>exact bz (show false=true from e4)
end
end K2
namespace K2
open PySem PySem.Spec PyProof.Rows L2
section
variable {X:Cx} {x:Str} {a:Addr} {kv:List (Int×Int)} {p px pos:Pos}
theorem Ru{K:ai}{H:Hp}:∀ kv:List (Int×Int),k9 K H (Q6 kv) (bB kv)
 | []=>.nil
 | p :: kv=>.cons (k:=.inl p.1) (.int p.2) (Ru kv)
theorem zK (hg:Gl X "dict") (hm:X.mg "dict" = none) (Ys:Gl X x) (S1:X.mg x=some (.ref a)) (ns:(a == cV)=false) (hD:Av X.K a kv=true) (nd:(kv.map (·.1)).Nodup) (hz:kv.length<=1000) (Kd:autoParam ((x == ("__debug__" : Str))=false) Ad._auto_1)
  (hs:autoParam (cC [.Name x px] X.env=[(false,eval (.Name x px) X.env)]) Ar._auto_1):fZ X (.Call (.Name "dict" p) [.Name x px] [] pos) (D7 kv):=by
 intro E pins s σ H τ G Q hE I h;refine lg (pT I.inv hg hm BR ?_);refine fg ?_ hs rfl;rw [hs];show wpAny _ _ (spliced ((false,eval (.Name x px) X.env) :: oy pos (cC [] X.env))) _ _ s;refine oz ?_;refine Bm I.inv Ys S1 ?_ Kd;refine yV ?_;obtain⟨vs,rel,dd⟩:=Tn (P:=X.prog) (w:=X.w) I.inv.Ij hD nd;have hl:vs.length=kv.length:=by rw [<-rel.length]; unfold Q6; rw [aC]
 have sz:aZ=16777216:=cQ;refine kt_call_dict ns dd (by lia) fun h' Aw hs=>?_;have hp:H s.heap.objs.size=none:=I.inv.cD.fresh (aF _);have zz:(Q6 kv).length<=aZ:=by unfold Q6; rw [aC]; lia
 refine⟨.ref _,upd H s.heap.objs.size (.dK (Q6 kv)),.ref _,_,I.inv.laid (a:=s.heap.objs.size) (o:=.dK (Q6 kv)) (t':=s.toks) (fun b q hq=>?_) (aF _) (BG zz (beq_eq_false_iff_ne.mpr (fT (bL I.inv.big))) rel Aw),.new I.ab hp (.dk bY (Ru kv)),rfl,.ref _,h _ (I.ab.free hp)⟩;exact(hs.2 b (bL (aW hq))).trans (aK _ hq)
end
end K2
end
section
namespace K2
open PySem PySem.Spec PyProof.Rows L2
section
variable {X:Cx}
theorem Ee:qk X (.type "tuple") Qt:=by
 intro pins s σ H G xs ds us Q I ab rx rd q;unfold Qt at q;split at q
 ·rename_i x;obtain⟨v,rfl,r⟩:=rd.one;have TL:∀ (l:Addr) (ys:List V) (zs:List D),v=.ref l->qg X.K H l ys->bh X.K H ys zs->Q (.tup zs) G->wpAny (model X.prog X.w) X.A (call (.type "tuple") us) (se X pins σ H G Q) X.xe s:=fun l ys zs e h rs hq=>by
   subst e;exact gc (zk pins s σ H _ us (AG X.K H G Q) I rx ⟨l,ys,rfl,.inl ⟨h,fun p hp=>⟨.tup zs,G,.K8 ab hp,.tup bY (rs.mono (.new hp)),hq⟩⟩⟩) fun _ _ z=>.of z
  cases r with
  | dJ hq rs=>exact TL _ _ _ rfl hq.sq rs q
  | ref l =>
   unfold pR at q;dsimp only at q;cases hg:G l with
   | none=>rw [hg] at q; exact q.elim
   | some g =>
    rw [hg] at q;cases g with
    | lst ds =>
     obtain⟨vs,hv,rs⟩:=ab.lst hg;exact TL _ _ _ rfl (.of hv) rs q
    | ins _ _=>exact q.elim
    | qS _=>exact q.elim
    | gu kvs=>exact q.elim
  | _=>exact bP q
 ·exact q.elim
end
end K2
end
section
namespace K2
open PySem PySem.Spec PyProof.Rows L2
noncomputable abbrev JU(P:bJ)(w:World):Cj P w PK:=Xw (EM P w)
section
variable {P:bJ} {w:World} {K:ai} {H:Hp} {h:Heap}
theorem items_int:∀ {t:List Int} {us:List Value},Vals (t.map V.int) us->ItemsAre (EM P w) t us
 | [],_,r=>by rw [bq] at r; cases r; exact .nil
 | i :: t,_,r=>by
  rw [ak] at r;cases r with
  | cons h r =>
   obtain⟨q,rfl⟩:=h;exact .cons (by simp [EM,qK]) (items_int r)
theorem Xv(ok:oJ P w H h){v:V}{u:Value}{t:List Int}(r:cg K H v (.tup (t.map D.int)))(ru:RelV v u):∃ b,u=.ref b/\(g7 (EM P w)).is h t b:=by
 cases r with
 | tup e rs =>
  have z:=rs.ints;subst z;cases ru;obtain⟨_,bX,r,o,h1,h2,n,h3⟩:=(show fA P w H h _ (.tup (t.map V.int)) from ok _ _ e);exact⟨_,rfl,o,bX.toArray,n,h1,h2,h3,by simpa using items_int r⟩
theorem QY(ok:oJ P w H h):∀ {r:List (List Int)} {vs:List V} {us:List Value},bh K H vs (r.map fun t=>.tup (t.map D.int))->Vals vs us->qU (g7 (EM P w)) h r us
 | [],_,_,q,ru=>by have:=q.zero; subst this; cases ru; exact .nil
 | t :: r,_,_,q,ru=>by
  rw [ak] at q;cases q with
  | cons q1 q2 =>
   cases ru with
   | cons r1 r2 =>
    obtain⟨b,rfl,hb⟩:=Xv ok q1 r1;exact .cons hb (QY ok q2 r2)
theorem Xu(ok:oJ P w H h){v:V}{u:Value}{r:List (List Int)}(q:cg K H v (.tup (r.map fun t=>.tup (t.map D.int))))(ru:RelV v u):∃ b,u=.ref b/\(TV (EM P w)).is h r b:=by
 cases q with
 | tup e rs =>
  cases ru;obtain⟨_,bX,r',o,h1,h2,n,h3⟩:=(show fA P w H h _ (.tup _) from ok _ _ e);exact⟨_,rfl,o,bX.toArray,n,h1,h2,h3,by simpa using QY ok rs r'⟩
theorem QX(ok:oJ P w H h):∀ {k:PK} {vs:List V} {us:List Value},bh K H vs (k.map fun r=>.tup (r.map fun t=>.tup (t.map D.int)))->Vals vs us->qU (TV (EM P w)) h k us
 | [],_,_,q,ru=>by have:=q.zero; subst this; cases ru; exact .nil
 | t :: r,_,_,q,ru=>by
  rw [ak] at q;cases q with
  | cons q1 q2 =>
   cases ru with
   | cons r1 r2 =>
    obtain⟨b,rfl,hb⟩:=Xu ok q1 r1;exact .cons hb (QX ok q2 r2)
theorem PR(ok:oJ P w H h){v:V}{u:Value}{k:PK}(q:cg K H v (oC k))(ru:RelV v u):∃ b,v=.ref b/\u=.ref b/\(JU P w).is h k b:=by
 unfold oC at q;cases q with
 | tup e rs =>
  cases ru;obtain⟨_,bX,r',o,h1,h2,n,h3⟩:=(show fA P w H h _ (.tup _) from ok _ _ e);exact⟨_,rfl,rfl,o,bX.toArray,n,h1,h2,h3,by simpa using QX ok rs r'⟩
noncomputable def P1(K:ai)(H:Hp)(x:PK×Addr×Value)(p:PK×D):Prop:=x.1=p.1/\cg K H (.ref x.2.1) (oC p.1)/\∃ v,RelV v x.2.2/\cg K H v p.2
theorem A5:∀ {xs:List (PK×Addr×Value)} {ks vs:List V} {kvs:List (PK×D)},QD kvs ks vs xs->bh K H ks (kvs.map fun p=>oC p.1)->bh K H vs (kvs.map fun p=>p.2)->jC (P1 K H) xs kvs
 | [],ks,vs,kvs,r,r1,r2=>by
  have:kvs=[]:=by simpa using r.1
  subst this; exact .nil
 | x :: xs,ks,vs,kvs,r,r1,r2=>by
  obtain⟨e1,e2,e3⟩:=r;cases kvs with
  | nil=>cases e1
  | cons p kvs =>
   rw [ak,ak] at e1;injection e1 with e4 e5
   subst e2;rw [ak] at r1;rw [ak] at r1 r2;rw [ak] at e3;cases r1 with
   | cons q1 q2 =>
    cases r2 with
    | cons q3 q4 =>
     cases e3 with
     | cons q5 q6=>exact .cons ⟨e4.symm,q1,_,q5,q3⟩ (A5 ⟨e5,rfl,q6⟩ q2 q4)
theorem Sk{xs:List (PK×Addr×Value)}{kvs:List (PK×D)}(h:jC (P1 K H) xs kvs):∃ vs,QD kvs (xs.map fun x=>.ref x.2.1) vs xs/\bh K H (xs.map fun x=>.ref x.2.1) (kvs.map fun p=>oC p.1)/\bh K H vs (kvs.map fun p=>p.2):=by
 induction h with
 | nil=>exact⟨[],⟨rfl,rfl,.nil⟩,.nil,.nil⟩
 | cons h1 _ ih =>
  obtain⟨vs,⟨a,b,c⟩,r1,r2⟩:=ih;obtain⟨e1,e2,v,e3,e4⟩:=h1;exact⟨v :: vs,⟨by rw [ak,ak,a,e1],rfl,.cons e3 c⟩,.cons e2 r1,.cons e4 r2⟩
theorem P1.mono{H':Hp}(k:Kp H H'){x:PK×Addr×Value}{p:PK×D}(h:P1 K H x p):P1 K H' x p:=let ⟨a,b,v,c,d⟩:=h; ⟨a,b.mono k,v,c,d.mono k⟩
theorem CY{H':Hp}(k:Kp H H'){xs:List (PK×Addr×Value)}{kvs:List (PK×D)}(h:jC (P1 K H) xs kvs):jC (P1 K H') xs kvs:=Paired.SI h fun _ _ z=>z.mono k
theorem Sl(ok:oJ P w H h){xs:List (PK×Addr×Value)}{kvs:List (PK×D)}(r:jC (P1 K H) xs kvs):∀ x∈xs,(JU P w).is h x.1 x.2.1:=by
 induction r with
 | nil=>intro x hx; cases hx
 | cons h1 _ ih =>
  intro x hx;rcases List.mem_cons.mp hx with rfl | hx
  ·obtain⟨e1,e2,_⟩:=h1;obtain⟨b,e3,e4,e5⟩:=PR ok e2 (rfl:RelV (.ref _) (.ref _));cases e4;rw [e1]; exact e5
  ·exact ih x hx
theorem xr(ok:oJ P w H h){a:Addr}{xs:List (PK×Addr×Value)}{kvs:List (PK×D)}(p:GR a xs h)(r:jC (P1 K H) xs kvs):h.DictOfH (JU P w) a xs:=by
 obtain⟨z,y,o,es,ep,h1,h2,h3,h4,h5⟩:=p;exact⟨o,es,ep,h1,h2,h3,h4,Sl ok r,h5⟩
theorem Ba{a:Addr}{xs:List (PK×Addr×Value)}(z:xs.length<=aZ)(y:(a == cV)=false)(d:h.DictOfH (JU P w) a xs):fA P w H h a (.ext (GR a xs)):=by
 obtain⟨o,es,ep,h1,h2,h3,h4,_,h5⟩:=d;refine⟨⟨z,y,o,es,ep,h1,h2,h3,h4,h5⟩,⟨o,h1⟩,?_⟩;rintro g1 g2 ⟨z,y,o,es,ep,q1,q⟩ k;exact⟨z,y,o,es,ep,k _ q1,q⟩
theorem Mf{xs:List (PK×Addr×Value)}{kvs:List (PK×D)}(r:jC (P1 K H) xs kvs)(k:PK):(∃ q v d,atKey xs k=some q/\oD kvs k=some d/\RelV v q.2/\cg K H v d)\/(atKey xs k=none/\oD kvs k=none):=by
 induction r with
 | nil=>exact .inr ⟨rfl,rfl⟩
 | @cons x p xs kvs h1 _ ih =>
  obtain⟨e1,e2,v,e3,e4⟩:=h1;by_cases e:x.1=k
  ·left;refine⟨x.2,v,p.2,?_,?_,e3,e4⟩
   ·unfold atKey; rw [cj (by simpa using e)]; rfl
   ·unfold oD; rw [cj (by simpa using e1.symm.trans e)]; rfl
  ·have a1:atKey (x :: xs) k=atKey xs k:=by unfold atKey; rw [ck (by simpa using e)]
   have a2:oD (p :: kvs) k=oD kvs k:=by unfold oD; rw [ck (by simpa using fun z=>e (e1.trans z))]
   rw [a1,a2]; exact ih
theorem Pq{xs:List (PK×Addr×Value)}{kvs:List (PK×D)}(r:jC (P1 K H) xs kvs)(k:PK):(kvs.any fun p=>decide (p.1=k))=(atKey xs k).isSome:=by
 induction r with
 | nil=>rfl
 | @cons x p xs kvs h1 _ ih =>
  rw [kz];by_cases e:x.1=k
  ·have a1:(atKey (x :: xs) k).isSome=true:=by unfold atKey; rw [cj (by simpa using e)]; rfl
   rw [a1]; simp [h1.1 ▸ e]
  ·have a1:atKey (x :: xs) k=atKey xs k:=by unfold atKey; rw [ck (by simpa using e)]
   have:¬ p.1=k:=fun z=>e (h1.1.trans z);rw [a1,<-ih]; simp [this]
theorem Pp{xs:List (PK×Addr×Value)}{kvs:List (PK×D)}(r:jC (P1 K H) xs kvs){k:PK}{b:Addr}{v:V}{u:Value}{d:D}(rk:cg K H (.ref b) (oC k))(ru:RelV v u)(rd:cg K H v d):jC (P1 K H) (EK xs k b u) (JD kvs k d):=by
 unfold EK JD;rw [Pq r k];split
 ·rename_i hs;clear rk hs;induction r with
  | nil=>exact .nil
  | @cons x p xs kvs h1 _ ih =>
   rw [ak,ak];refine .cons ?_ ih;unfold putAt;obtain⟨e1,e2,e3⟩:=h1;by_cases e:x.1=k
   ·rw [if_pos e,if_pos (e1.symm.trans e)];exact⟨e1,e2,v,ru,rd⟩
   ·rw [if_neg e,if_neg (fun z=>e (e1.trans z))];exact⟨e1,e2,e3⟩
 ·exact OA r ⟨rfl,rk,v,ru,rd⟩
theorem HH{xs:List (PK×Addr×Value)}{kvs:List (PK×D)}(r:jC (P1 K H) xs kvs):xs.length=kvs.length:=gU r
theorem BX{a:Addr}{xs:List (PK×Addr×Value)}{kvs:List (PK×D)}(e:H a=some (.ext (GR a xs)))(r:jC (P1 K H) xs kvs):Jc K H a (.qS kvs):=by
 obtain⟨vs,a1,a2,a3⟩:=Sk r;exact⟨xs,_,vs,e,a1,a2,a3⟩
theorem Gv{G:Gp}{a:Addr}{kvs:List (PK×D)}(ab:kU K H G)(hg:G a=some (.qS kvs)):∃ xs,H a=some (.ext (GR a xs))/\jC (P1 K H) xs kvs:=by
 obtain⟨xs,ks,vs,e,a1,a2,a3⟩:=ab a _ hg;exact⟨xs,e,A5 a1 a2 a3⟩
theorem Kp.UB{p:Addr}{o:HO}{φ:Heap->Prop}(hp:H p=some (.ext φ)):Kp H (upd H p o) :=
 ⟨fun a ys e=>by rw [bM (by rintro rfl; rw [hp] at e; cases e)]; exact e,fun a ob u e=>by rw [bM (by rintro rfl; rw [hp] at e; cases e)]; exact e⟩
theorem BB{φ:Heap->Prop}{a:Addr}(ok:oJ P w H h)(e:H a=some (.ext φ)):φ h:=(ok a _ e).1
end
section
variable {X:Cx} {elts:List Expr} {kk:Nat} {Cv apos jg pos:Pos} {o i k v:Expr} {to ti tk tv:fM}
theorem Hm:QA X "dict" tyP:=by
 intro pins s σ H G x d u I ab r rd h;cases rd with
 | ref l =>
  unfold tyP at h;dsimp only at h;split at h
  ·rename_i kvs hg;obtain⟨xs,e,_⟩:=Gv ab hg;obtain⟨_,_,o,es,ep,h1,h2,_⟩:=BB I.cD e;cases r;exact⟨⟨o,h1,h2.1⟩,fun a z=>by cases z; exact⟨o,h1,h2.2.1⟩⟩
  ·exact h.elim
 | nG hq _ _ _ =>
  obtain⟨_,_,o,es,ep,h1,h2,_⟩:=(I.cD _ _ hq).2.1;cases r;exact⟨⟨o,h1,h2.1⟩,fun a z=>by cases z; exact⟨o,h1,h2.2.1⟩⟩
 | _=>exact bP h
theorem IB{pins:List (Addr×Obj)}{s:aw}{σ:L2.St}{H:Hp}{G:Gp}{a:Addr}{kvs:List (PK×D)}{ys:List (PK×Addr×Value)}{pk:PK}{w w2:V}{u1 u2:Value}{d':D}{Q:DK}(hu:X.A.units+64 < cLine)(I:Inv X pins σ H s)(ab:kU X.K H G)(pd:GR a ys s.heap)(r:jC (P1 X.K H) ys kvs)(AZ:cg X.K H w (oC pk))(Fg:RelV w u1)(LY:cg X.K H w2 d')(Jx:RelV w2 u2)(q:Q ((oD kvs pk).getD d') G) :
  wpAny (model X.prog X.w) X.A (call (.builtin "dict.get") [.ref a,u1,u2]) (se X pins σ H G Q) X.xe s:=by
 have dd:=xr I.cD pd r;obtain⟨b,rfl,rfl,hb⟩:=PR I.cD AZ Fg;have hT:s.TypeIs (.ref a) "dict":=by obtain⟨o,es,ep,ho,hc,_⟩:=dd; exact⟨o,ho,hc.1⟩
 refine wN fV hT He (EU _ _ _) (meetsH_dict_get_default (JU X.prog X.w) a b pd.2.1 u2) ⟨Df (by lia),pk,ys,hb,dd,?_⟩;rcases Mf r pk with ⟨q1,v1,d1,h1,h2,h3,h4⟩ | ⟨h1,h2⟩
 ·rw [h1];rw [h2] at q;exact⟨v1,H,d1,G,I.tok _,.refl ab,h3,h4,q⟩
 ·rw [h1];rw [h2] at q;exact⟨w2,H,d',G,I.tok _,.refl ab,Jx,LY,q⟩
theorem Di (hu:X.A.units+64 < cLine):KO X "dict.get" Ds:=by
 intro pins s σ H G x d xs ds v us Q I ab rx rd OI CO q;unfold Ds at q;split at q
 ·rename_i a k d';obtain⟨kvs,pk,hg,rfl,q⟩:=q;cases rd;obtain⟨w,w2,rfl,AZ,LY⟩:=CO.two;obtain⟨u1,u2,rfl,Fg,Jx⟩:=vals2 OI;cases rx;obtain⟨ys,e,r⟩:=Gv ab hg;exact IB hu I ab (BB I.cD e) r AZ Fg LY Jx q
 ·rename_i kvs k d';obtain⟨pk,rfl,q⟩:=q;obtain⟨w,w2,rfl,AZ,LY⟩:=CO.two;obtain⟨u1,u2,rfl,Fg,Jx⟩:=vals2 OI;cases rd with
  | nG hq rel rk rv =>
   cases rx;exact IB hu I ab (I.cD _ _ hq).2.1 (A5 rel rk rv) AZ Fg LY Jx q
 ·exact q.elim
theorem Qg{pins:List (Addr×Obj)}{s:aw}{σ:L2.St}{H:Hp}{G:Gp}{a:Addr}{kvs:List (PK×D)}{pk:PK}{y w:V}{u r:Value}{d:D}{Q:Unit->aw->Prop}(hu:X.A.units+64 < cLine)(I:Inv X pins σ H s)(ab:kU X.K H G)(hg:G a=some (.qS kvs))(hz:kvs.length < SZ)(ry:RelV y u)(dy:cg X.K H y (oC pk))(rv:RelV w r)(dv:cg X.K H w d)
  (h:∀ H' s',Inv X pins σ H' s'->Mv X.K H G H' (eD G a (.qS (JD kvs pk d)))->Q () s'):wpAny (model X.prog X.w) X.A (setItem (.ref a) u r) Q X.xe s:=by
 obtain⟨xs,e,rr⟩:=Gv ab hg;have pd:=BB I.cD e;have dd:=xr I.cD pd rr;obtain⟨b,rfl,rfl,hb⟩:=PR I.cD dy ry;have sz:aZ=16777216:=cQ;have hl:xs.length < aZ:=by rw [HH rr,sz]; exact hz
 refine wpAny_setItem_heap (hsz:=by lia) (Df (by lia)) hb dd fun h' Aw hs=>?_;have kp:Kp H (upd H a (.ext (GR a (EK xs pk b r)))):=.UB e;have pr:=CY kp (Pp rr dy rv dv);have he:∃ q,h'.get? a=some q:=let ⟨q,_,_,hq,_⟩:=Aw; ⟨q,hq⟩
 have z0:(EK xs pk b r).length<=aZ:=by
  unfold EK;split
  ·rw [aC]; lia
  ·rw [aB]; show xs.length+1<=_; lia
 exact h _ _ (qC I (by rw [e]; exact fF) hs he (Ba z0 pd.2.1 Aw)) (.put ab hg kp (BX bY pr))
theorem C2(hu:X.A.units+64 < cLine)(ho:fZ X o to)(hi:fZ X i ti)
  (ha:autoParam (∀ v,G5 (.Subscript o i pos) X.env v=(do
   let ov ← Ll [v] (eval o X.env)
   let iv ← Ll [v,ov] (eval i X.env)
   standAt pos
   Ll [v,ov,iv] (setItem ov iv v)
   release [v,ov,iv] [])) Ai._auto_1):KD X (.Subscript o i pos) (DL to ti):=by
 intro E pins s σ H τ G w d u Q hE I r rd h;rw [ha];refine ag (eL (je ho hE I h fun x H1 dx G1 ov s1 I1 m1 r1 iV q1=>?_));refine ag (eL (je hi hE I1 q1 fun y H2 dy G2 iv s2 lX m2 r2 xh q2=>?_));refine ag (Cb (ag (eL ?_)));have EF:=m1.trans m2;have TN:=rd.mono (EF.kp I.ab);have EE:=I.st.mono (EF.kp I.ab);have WV:=iV.mono (m2.kp I1.ab);unfold Fd at q2;split at q2
 ·rename_i l;cases WV;cases r1;obtain⟨kvs,pk,hg,rfl,hz,q⟩:=q2;exact Qg hu lX.inv lX.ab hg hz r2 xh r TN fun H4 s4 I4 m4=>wpAny_release ⟨σ,H4,τ,_,⟨I4,EE.mono (m4.kp lX.ab),m4.ab⟩,EF.trans m4,q⟩
 ·exact q2.elim
theorem Au {P:bJ} {w:World} {H:Hp} (h:Heap) (hb:cV < h.objs.size):fA P w H (h.push { cls:=.type "dict",data:=.dict #[] }) h.objs.size (.ext (GR h.objs.size [])) :=
 Ba (cB _) (beq_eq_false_iff_ne.mpr (fT (bL hb))) ⟨_,#[],0,bt _ rfl,⟨rfl,rfl,rfl⟩,rfl,rfl,(fun x hx=>absurd hx (by simp)),cE⟩
theorem HP:fZ X (.Dict [] [] pos) N6:=by
 intro E pins s σ H τ G Q hE I h;have hn:=I.inv.cD.fresh (aF s.heap.objs.size);have I1:=I.inv.laid (a:=s.heap.objs.size) (o:=.ext (GR s.heap.objs.size [])) (h':=s.heap.push { cls:=.type "dict",data:=.dict #[] }) (t':=s.toks) (fun _ _ q=>aK _ q) (aF _) (Au s.heap I.inv.big);exact wpAny_Dict_empty ⟨.ref s.heap.objs.size,_,.ref _,_,I1,.new I.ab hn (BX bY .nil),rfl,.ref _,h _ (I.ab.free hn)⟩
theorem Mm(hu:X.A.units+64 < cLine)(hk:fZ X k tk)(hv:fZ X v tv):fZ X (.Dict [some k] [v] pos) (N5 tk tv):=by
 intro E pins s σ H τ G Q hE I h;have hn:=I.inv.cD.fresh (aF s.heap.objs.size);have I1:=I.inv.laid (a:=s.heap.objs.size) (o:=.ext (GR s.heap.objs.size [])) (h':=s.heap.push { cls:=.type "dict",data:=.dict #[] }) (t':=s.toks) (fun _ _ q=>aK _ q) (aF _) (Au s.heap I.inv.big);have mh:Mv X.K H G (upd H s.heap.objs.size (.ext (GR s.heap.objs.size []))) G:=.K8 I.ab hn;have I2:I2 X pins σ (upd H s.heap.objs.size (.ext (GR s.heap.objs.size []))) τ G { s with heap:=s.heap.push { cls:=.type "dict",data:=.dict #[] },toks:=s.toks }:=⟨I1,I.st.mono (.new hn),mh.ab⟩;refine wpAny_Dict_any (by rfl) (by rfl) (by simp) (show 1<=15 by decide) ?_;refine pairTrees_cons_walk (je hk hE I2 h fun x H1 dx G1 u s1 I3 m1 r1 iV q1=>?_);refine je hv hE I3 q1 fun y H2 dy G2 w s2 I4 m2 r2 xh q2=>?_;obtain⟨pk,rfl,q2⟩:=q2;refine pairTrees_nil_walk ?_;have g0:G s.heap.objs.size=none:=I.ab.free hn;obtain⟨p1,p2⟩:=m1.keep _ _ (bY (H:=H) (a:=s.heap.objs.size) (o:=.ext (GR s.heap.objs.size []))) g0;obtain⟨p3,p4⟩:=m2.keep _ _ p1 p2;have Ux:=iV.mono (m2.kp I3.ab);have pd:=BB I4.inv.cD p3;have dd:=xr (K:=X.K) (kvs:=[]) I4.inv.cD pd .nil;obtain⟨b,rfl,rfl,hb⟩:=PR I4.inv.cD Ux r1;unfold storeAll;rw [List.forIn_cons];refine ag (ag (wpAny_dictSet_heap (hsz:=cB _) (JN (by lia)) hb dd fun h' Aw hs=>aA ?_));show wpAny _ _ (forIn [] PUnit.unit _) _ _ _;rw [List.forIn_nil];refine aA ?_;have he:∃ q,h'.get? s.heap.objs.size=some q:=let ⟨q,_,_,hq,_⟩:=Aw; ⟨q,hq⟩
 have es:EK [] pk b w=[(pk,b,w)]:=rfl;rw [es] at Aw;have kp:Kp H2 (upd H2 s.heap.objs.size (.ext (GR s.heap.objs.size [(pk,b,w)]))):=.UB p3;have I5:=qC (t':=s2.toks+(JU X.prog X.w).draws pk) I4.inv (by rw [p3]; exact fF) hs he (Ba (by exact(show 1<=aZ by decide)) pd.2.1 Aw);have EF:=(mh.trans m1).trans m2;refine⟨.ref s.heap.objs.size,_,.ref s.heap.objs.size,_,I5,?_,rfl,.ref _,q2 _ p4⟩;refine⟨fun a o e n=>?_,fun a n=>?_,fun a g e=>?_⟩
 ·have ne:a≠s.heap.objs.size:=dE e hn;obtain⟨k1,k2⟩:=EF.keep a o e n;exact⟨by rw [bM ne]; exact k1,by rw [dR ne]; exact k2⟩
 ·by_cases ha:a=s.heap.objs.size
  ·rw [ha,bY]; simp
  ·rw [bM ha]; exact EF.lj a n
 ·by_cases ha:a=s.heap.objs.size
  ·subst ha;rw [aJ] at e; cases e;exact BX bY (CY kp (.cons ⟨rfl,Ux,y,r2,xh⟩ .nil))
  ·rw [dR ha] at e;exact(EF.ab a g e).mono kp (bM ha)
theorem xn (ho:fZ X o to) (xV:autoParam (oM o "items" X.env (eval o X.env)=eval o X.env) Ar._auto_1) (xU:autoParam ((apos.endLine == jg.line)=true) Ar._auto_1) :
  KC X (.Tuple elts kk Cv) (.Call (.Attribute o "items" apos) [] [] jg) (tP to):=by
 intro E pins s σ H τ G R hE I h;refine uz xV xU (je ho hE I h fun x H1 d G1 v s1 I1 m1 r1 iV q1=>?_);cases d with
 | nG kvs =>
  have q1:R (kvs.map fun p=>.tup [oC p.1,p.2]) (fun _=>True) G1:=q1;cases iV with
  | nG hq rel rk rv =>
  rename_i a ob xs ks vs;have pr:=A5 rel rk rv;obtain⟨z,ns,o',es,ep,B7,ex,dd,hl,nd⟩:=(I1.inv.cD a _ hq).2.1;have eo:o'=ob:=by have:=(I1.inv.cD a _ hq).1; rw [B7] at this; exact aY this
  subst eo;have t1:s1.TypeIs (.ref a) "dict":=⟨_,B7,ex.1⟩;have t2:∀ b,fj a=.ref b->∃ ob,s1.heap.get? b=some ob/\ob.dict=none:=fun b z=>by cases z; exact⟨_,B7,ex.2.1⟩
  have l1:=congrArg dU hl;rw [aC,eN] at l1;have l2:=HH pr;have l3:vs.length=xs.length:=by have:=rel.2.2.length; simpa using this
  have ps:∀ i (h:i < es.size),∃ p,((xs.zip vs).map fun z=>(V.ref z.1.2.1,z.2))[i]?=some p/\RelV p.1 es[i].key/\RelV p.2 es[i].val:=fun i hi=>by
   have i2:i < xs.length:=by lia
   have i3:i < vs.length:=by lia
   have ee:es[i]=⟨hP xs[i].1,.ref xs[i].2.1,xs[i].2.2⟩:=by
    have:=congrArg (fun l=>l[i]?) hl;simp only [bA,au i2] at this;simpa [hi] using this
   refine⟨(V.ref xs[i].2.1,vs[i]),by rw [bA,au (by rw [ku]; lia),rz]; rfl,?_⟩;rw [ee];refine⟨rfl,?_⟩;obtain⟨u,We,X6⟩:=rel.2.2.get (au i3);rw [bA,au i2] at We;cases We;exact X6
  have Se:∀ (i:Nat) (q:PK×D),kvs[i]?=some q->∃ p,((xs.zip vs).map fun z=>(V.ref z.1.2.1,z.2))[i]?=some p/\cg X.K H1 p.1 (oC q.1)/\cg X.K H1 p.2 q.2:=fun i q e=>by
   have i1:i < kvs.length:=(List.getElem?_eq_some_iff.mp e).1;have i2:i < xs.length:=by lia
   have i3:i < vs.length:=by lia
   refine⟨(V.ref xs[i].2.1,vs[i]),by rw [bA,au (by rw [ku]; lia),rz]; rfl,?_,?_⟩
   ·obtain⟨w,hw,qO⟩:=rk.get (i:=i) (d:=oC q.1) (by rw [bA,e]; rfl);rw [rel.2.1,bA,au i2] at hw;cases hw;exact qO
   ·obtain⟨w,hw,qO⟩:=rv.get (i:=i) (d:=q.2) (by rw [bA,e]; rfl);rw [au i3] at hw;cases hw;exact qO
  have hlen:kvs.length=es.size:=by lia
  cases r1;refine⟨"dict","dict.items",cW,fk,o8,t1,t2,kG rfl (vQ ?_)⟩;refine wN fk t1 oN (nM _) (tw a ns) ⟨t1,?_⟩;have I2:Inv X pins σ H1 { s1 with heap:=s1.heap.push { cls:=.type "dict_items",data:=.fields #[.ref a] } }:=I1.inv.kept (t':=s1.toks) fun b o e=>aK _ e;refine vH (s:={ s1 with heap:=s1.heap.push { cls:=.type "dict_items",data:=.fields #[.ref a] } }) ⟨_,bt _ rfl,rfl,rfl⟩ (aK _ (I1.inv.cD a _ hq).1) dd ?_;refine⟨_,[_],_,_,H1,G1,kvs.map (fun p=>.tup [oC p.1,p.2]),_,rfl,I2.kept (t':=s1.toks) fun b o e=>aK _ e,m1,vk a _ _ es ep _ dd ps,⟨.none,.none,bt _ rfl⟩,fun b hb=>?_,fun i H2 G2 k ab _=>?_,q1⟩
  ·have e:=List.mem_singleton.mp hb;subst e;exact I2.Bv (aF _) (I2.cD.fresh (aF _))
  ·have z0:=k.jh _ _ _ hq;refine⟨fun d hd=>?_,fun hle=>⟨⟨_,z0⟩,by rw [<-hlen]; simpa using hle⟩⟩;rw [bA] at hd;cases J9:kvs[i]? with
   | none=>rw [J9] at hd; cases hd
   | some q =>
    rw [J9] at hd;obtain⟨p,hp,rk,rp⟩:=Se i q J9;have hi:i < es.size:=by rw [<-hlen]; exact(List.getElem?_eq_some_iff.mp J9).1
    refine⟨⟨⟨_,z0⟩,hi⟩,?_⟩;rintro x H3 ⟨T,p',ex,hT,e3,hy⟩;subst ex e3;rw [hp] at hy;cases hy;have ed:D.tup [oC q.1,q.2]=d:=by simpa using hd
    subst ed;exact⟨.tup bY (.cons ((rk.mono k).mono (.new hT)) (.cons ((rp.mono k).mono (.new hT)) .nil)),.K8 ab hT⟩
 | _=>exact q1.elim
theorem kT.drop{K:ai}{H:Hp}{kv:List (List Key×V)}{kvs:List (D×D)}(r:kT K H kv kvs)(k:List Key):kT K H (kv.filter fun p=>decide (p.1≠k)) (kvs.filter fun p=>!hZ p.1 (.tup (k.map dP))):=by
 induction r using kT.ind with
 | nil=>exact .nil
 | @cons j v d r t rd rs ih =>
  rw [bD,bD];simp only [pX];by_cases e:j=k
  ·simp only [e,ne_eq,not_true_eq_false,decide_false,decide_true,bV,aq,if_false]; exact ih
  ·simp only [e,ne_eq,not_false_eq_true,decide_true,decide_false,eC,if_true]; exact .cons rd ih
theorem KT.drop{H:Hp}{kvs:List (List Key×V)}{xs:List (List Key×Addr×Value)}(r:KT H kvs xs)(k:List Key):KT H (kvs.filter fun p=>decide (p.1≠k)) (RL xs k):=by
 unfold RL;induction r with
 | nil=>exact .nil
 | @cons p q ps qs h1 _ ih =>
  rw [bD,bD];by_cases e:p.1=k
  ·have e2:q.1=k:=h1.1.symm.trans e;simp only [e,e2,ne_eq,not_true_eq_false,decide_false,aq,if_false]; exact ih
  ·have e2:¬ q.1=k:=fun z=>e (h1.1.trans z);simp only [e,e2,ne_eq,not_false_eq_true,decide_true,if_true]; exact .cons h1 ih
theorem Dh (hu:X.A.units+64 < cLine):KO X "dict.pop" Dq:=by
 intro pins s σ H G x d xs ds v us Q I ab rx rd OI CO q;unfold Dq at q;split at q
 ·rename_i a k;obtain⟨kvs,d',hg,⟨hk,ha,hl⟩,q⟩:=q;cases rd;obtain⟨w,rfl,AZ⟩:=CO.one;obtain⟨u1,rfl,Fg⟩:=vals1 OI;cases rx;obtain⟨H',I',m,h⟩:=BH I ab hg (by unfold gF; rw [nF]; right; rw [hk,ha]; rfl) AZ;rcases h with ⟨kv,kk,hv,rs,rfl,rfl⟩ | ⟨kv,kk,b,hv,rs,rfl,rfl,hb⟩
  ·cases kk <;> simp [dP,jS] at hk
  ·cases Fg;obtain⟨z,hd,ys,rel,dd⟩:=NS I'.cD hv;rcases rs.look kk with ⟨v',d2,e1,e2,rr⟩ | ⟨e1,e2⟩
   ·rw [e2] at hl;cases hl;obtain⟨w',hw,qO⟩:=vi.some_of (v:=v') (o:=(atKey ys kk).map (·.2)) (by rw [<-e1]; exact rel.val kk);obtain⟨p,hp,qR⟩:=Option.map_eq_some_iff.mp hw;refine Mg (knd:=g7 (cK X.prog X.w)) (lh (by lia)) (uV I'.cD hb) dd hp (by rw [<-gU rel]; exact z) fun h' Aw hs=>?_;rw [qR];have kp:Kp H' (upd H' a (.dT (kv.filter fun p=>decide (p.1≠kk)))):=.putD hv (.inr ⟨_,rfl⟩);obtain⟨q',es,ep,hq,h2,h3,h4,_,h5⟩:=Aw;have I5:=qC (t':=s.toks+(g7 (cK X.prog X.w)).draws kk) I' (by rw [hv]; exact fF) hs ⟨q',hq⟩ (ob:=.dT (kv.filter fun p=>decide (p.1≠kk))) ⟨bu (dw _ _) z,hd,_,(KT.drop rel kk).keeps fun c ys ec=>by rw [bM (QZ ec hv (fun z=>nomatch z))]; exact ec,q',es,ep,hq,h2,h3,h4,h5⟩;exact⟨v',_,d',_,I5,m.trans (.put m.ab hg kp (.dt bY ((rs.drop kk).mono kp))),qO,rr.mono kp,q⟩
   ·rw [e2] at hl; cases hl
 ·exact q.elim
end
end K2
end
section
namespace K2
open PySem PySem.W PySem.Spec PyProof.Rows PySem.Calls
theorem JS{p q:bJ}{loose:List Str}{Xt:aw->Bool}{α:Type}{Yf:aw->α}{Ya:World->α}{N:Nat}(e:opening p=plainProg p.main.scope.names)(hN:Nat.ble 600 N=true)(f:∀ s,fenceModules? p s=some s)
  (h:∀ (w:World) (os:OsState),(topFrom treeTable p w N ⟨Lo w.params,Jg [],ER,Ln,os⟩).map (fun s=>(openSeen q loose (wM p.main.body) Xt true s,Yf s))=some (openGood q loose,Ya w)):LeftO p q loose Xt Yf Ya N:=fun w=>by
 obtain⟨⟨h',gs,d,k,os⟩,e1,e2⟩:=Option.map_eq_some_iff.mp (boot_open e hN f w);obtain⟨rfl,rfl,rfl,rfl⟩:h'=Lo w.params/\gs=Jg []/\d=ER/\k=Ln:=by simpa using e2
 unfold openEnds;rw [e1];exact h w os
noncomputable abbrev Ho(l:OpenLaw)(q:bJ):Bool:=chainsOk q&&opensWell l.row.prog&&(frees l.row.toRowW&&l.row.within.isEmpty)
noncomputable abbrev RK(l:OpenLaw)(q:bJ)(s:aw):Bool:=xlAt q [] s&&recOk l.row.records s
theorem Kc{l:OpenLaw}{q:bJ}{loose:List Str}{K:Params->Frag}{as:List Addr}{d:DefRec}{N:Nat}(ok:l.wellSaid=true)(e:opening l.row.prog=plainProg l.row.prog.main.scope.names)(hN:Nat.ble 600 N=true)(f:∀ s,fenceModules? l.row.prog s=some s)(hK:∀ P,as=(K P).map (·.1))
  (h:∀ (w:World) (os:OsState),(topFrom treeTable l.row.prog w N ⟨Lo w.params,Jg [],ER,Ln,os⟩).map (fun s=>(openSeen q loose (wM l.row.prog.main.body) (RK l q) true s,as.map s.heap.get?))=some (openGood q loose,(K w.params).map fun p=>some p.2))
  (hd:defOf q l.row.name=some (d,[])) (hp:l.row.prog.theDef l.row.name=some (d.params,d.body,d.scope)) (hk:kwWritten? d.params.kwonlyargs d.params.kw_defaults=some []) (hr:(!l.row.writes||l.row.records.isEmpty)=true) (ht:Ho l q=true) (hb:l.row.prog.bare) (hw:l.row.toRowW.promised)
  (c:WalkO q loose (XL q []) (InK K) l.row.toRowW d [] fun f vs=>Ha f vs):l.Holds :=
 holds_law ok fun k1=>holds_open (JS (Yf:=Hook.obs (kHook K as hK)) (Ya:=Hook.val (kHook K as hK)) e hN f h) (Hook.of (kHook K as hK)) (Hook.keeps (kHook K as hK)) (fun s x=>xl_of s (Bool.and_eq_true_iff.mp x).1) XL.keeps hd hp hk (fun s x=>recFacts_of (Bool.and_eq_true_iff.mp x).2) hr k1 ht hb hw c
structure At(K:Frag)(x:Str)(st:Stmt)(f:Addr)(fd:aI):Prop where
 a:nsIn K bS x=some (some (.ref f))
 F:L2.oK K x x st f fd
theorem At.mg{K:Frag}{h:Heap}{mg:Str->Option Value}{x:Str}{st:Stmt}{f:Addr}{fd:aI}(z:At K x st f fd)(X:K.In h)(G:h.Ns bS mg):mg x=some (.ref f):=mg_of X G z.a
theorem fD{K:Frag}{x:Str}{st:Stmt}{f:Addr}{oc:Value}{od an:Option Addr}{Mr:Array (Option Value)}{kV doc pm nI ct:Value}(a:autoParam (nsIn K bS x=some (some (.ref f))) Aq._auto_1)(l:autoParam (K.lookup f=some ⟨oc,od,.func (fnOf x x (L2.mr st) (L2.jx st) (L2.bg st) .none kV doc pm an nI ct),Mr⟩) Aq._auto_1)
  (c:autoParam (codeIn K nI x=true) Aq._auto_1) (k:autoParam (keepIn K (.ref f)=true) Aq._auto_1):At K x st f (fnOf x x (L2.mr st) (L2.jx st) (L2.bg st) .none kV doc pm an nI ct):=⟨a,L2.Ta l c k⟩
structure mO(P:bJ)(w:World)(K:Frag)(mg:Str->Option Value)(base:Heap)(CX:L2.KR)(k:Nat)(f:Addr)(fd:aI)(x:Str)(ps:List Str)(sp:L2.Sp):Prop where
 ok:L2.fX P w K mg base CX k f fd ps sp
 mg:mg x=some (.ref f)
 kp:keepIn K (.ref f)=true
 bi:L2.Binds K fd ps []
end K2
end
section
set_option maxHeartbeats 1000000
namespace K2
namespace J
section
variable {α:Type} [DecidableEq α]
noncomputable def Iv(f:α->α):Prop:=∀ e,f (f e)=e
noncomputable def jn(f:α->α)(x y:α):α->α:=fun e=>if e=x\/e=y then e else if e=f x then f y else if e=f y then f x else f e
noncomputable def cl(f:α->α)(x y:α):Nat:=if f x=y then 1 else 0
theorem Q7{f:α->α}(h:Iv f){x y:α}(hx:f x≠x)(hy:f y≠y)(TY:x≠y):Iv (jn f x y):=by
 intro e;have h1:=h x;have h2:=h y;have h3:=h e;unfold jn
 grind (splits:=40)
theorem M5{f:α->α}(h:Iv f){x y e:α}(TY:x≠y)(he:jn f x y e=e):e=x\/e=y\/f e=e:=by
 have h1:=h x;have h2:=h y;unfold jn at he
 grind (splits:=40)
theorem XM{f:α->α}{x y:α}:jn f x y x=x:=by unfold jn; grind
theorem XJ{f:α->α}{x y:α}:jn f x y y=y:=by unfold jn; grind
theorem Il{f:α->α}{x y:α}:jn f x y=jn f y x:=by funext e; unfold jn; grind
theorem Qp{f:α->α}(h:Iv f){x y:α}:cl f x y=cl f y x:=by
 have h1:=h x;have h2:=h y;unfold cl; grind
theorem PZ{f:α->α}(h:Iv f){x y z w:α}(hx:f x≠x)(hy:f y≠y)(hz:f z≠z)(hw:f w≠w)(xy:x≠y)(xz:x≠z)(xw:x≠w)(yz:y≠z)(yw:y≠w)(zw:z≠w):jn (jn f x y) z w=jn (jn f z w) x y:=by
 funext e;have h1:=h x;have h2:=h y;have h3:=h z;have h4:=h w;have h5:=h e;unfold jn
 grind (splits:=40)
theorem Qq{f:α->α}(h:Iv f){x y z w:α}(hx:f x≠x)(hy:f y≠y)(hz:f z≠z)(hw:f w≠w)(xy:x≠y)(xz:x≠z)(xw:x≠w)(yz:y≠z)(yw:y≠w)(zw:z≠w):cl f x y+cl (jn f x y) z w=cl f z w+cl (jn f z w) x y:=by
 have h1:=h x;have h2:=h y;have h3:=h z;have h4:=h w;unfold cl jn
 grind (splits:=40)
end
end J
end K2
end
section
set_option maxHeartbeats 1000000
namespace K2
namespace J
section
variable {α:Type} [DecidableEq α]
noncomputable abbrev Pr(α:Type):=List (α×α)
noncomputable def gQ(f:α->α):Pr α->α->α
 | []=>f
 | p :: ps=>gQ (jn f p.1 p.2) ps
noncomputable def cls(f:α->α):Pr α->Nat
 | []=>0
 | p :: ps=>cl f p.1 p.2+cls (jn f p.1 p.2) ps
noncomputable def es:Pr α->List α
 | []=>[]
 | p :: ps=>p.1 :: p.2 :: es ps
structure Ok(f:α->α)(ps:Pr α):Prop where
 iv:Iv f
 nd:(es ps).Nodup
 dm:∀ e∈es ps,f e≠e
theorem j5{ps qs:Pr α}(h:ps.Perm qs):(es ps).Perm (es qs):=by
 induction h with
 | nil=>exact .nil
 | cons x _ ih=>exact(ih.cons _).cons _
 | swap x y l =>
  show (y.1 :: y.2 :: x.1 :: x.2 :: es l).Perm (x.1 :: x.2 :: y.1 :: y.2 :: es l);have:∀ (a b c d:α) (l:List α),(a :: b :: c :: d :: l).Perm (c :: d :: a :: b :: l):=fun a b c d l=>by
   refine((iZ c b _).cons a).trans ?_;refine(iZ c a _).trans ?_;refine AM c ?_;refine((iZ d b _).cons a).trans ?_;exact iZ d a _
  exact this _ _ _ _ _
 | trans _ _ a b=>exact a.trans b
theorem qA(ps qs:Pr α):es (ps++qs)=es ps++es qs:=by
 induction ps with
 | nil=>rfl
 | cons p ps ih=>rw [az,es,es,ih]; rfl
theorem Gr(ps:Pr α):(es ps).length=2 * ps.length:=by
 induction ps with
 | nil=>rfl
 | cons p ps ih=>rw [es,aj,aj,ih,aj]; lia
theorem kC{ps:Pr α}{e:α}:e∈es ps↔∃ p∈ps,e=p.1\/e=p.2:=by
 induction ps with
 | nil=>simp [es]
 | cons p ps ih =>
  rw [es,aQ,aQ,ih];constructor
  ·rintro(h | h | ⟨q,h,z⟩)
   ·exact⟨p,by simp,.inl h⟩
   ·exact⟨p,by simp,.inr h⟩
   ·exact⟨q,aL _ h,z⟩
  ·rintro⟨q,h,z⟩;rcases List.mem_cons.mp h with rfl | h
   ·rcases z with z | z
    ·exact .inl z
    ·exact .inr (.inl z)
   ·exact .inr (.inr ⟨q,h,z⟩)
theorem Ok.perm{f:α->α}{ps qs:Pr α}(h:ps.Perm qs)(o:Ok f ps):Ok f qs :=
 ⟨o.iv,(j5 h).nodup_iff.mp o.nd,fun e he=>o.dm e ((j5 h).mem_iff.mpr he)⟩
theorem Ok.hd{f:α->α}{p:α×α}{ps:Pr α}(o:Ok f (p :: ps)):p.1≠p.2/\f p.1≠p.1/\f p.2≠p.2:=by
 have n:=o.nd;rw [es,aO] at n;exact⟨fun z=>n.1 (by rw [z]; exact cb),o.dm _ (by simp [es]),o.dm _ (by simp [es])⟩
theorem Ok.tl{f:α->α}{p:α×α}{ps:Pr α}(o:Ok f (p :: ps)):Ok (jn f p.1 p.2) ps:=by
 obtain⟨h1,h2,h3⟩:=o.hd;have n:=o.nd;rw [es,aO,aO] at n;refine⟨Q7 o.iv h2 h3 h1,n.2.2,fun e he z=>?_⟩;rcases M5 o.iv h1 z with z | z | z
 ·exact n.1 (by rw [<-z]; exact aL _ he)
 ·exact n.2.1 (by rw [<-z]; exact he)
 ·exact o.dm e (by simp [es,he]) z
theorem Ok.left{f:α->α}{ps qs:Pr α}(o:Ok f (ps++qs)):Ok (gQ f ps) qs:=by
 induction ps generalizing f with
 | nil=>exact o
 | cons p ps ih=>exact ih o.tl
theorem Ok.pre{f:α->α}{ps qs:Pr α}(o:Ok f (ps++qs)):Ok f ps :=
 ⟨o.iv,by have:=o.nd; rw [qA] at this; exact(List.nodup_append.mp this).1,fun e he=>o.dm e (by rw [qA]; exact mC _ he)⟩
theorem lF(f:α->α)(ps qs:Pr α):gQ f (ps++qs)=gQ (gQ f ps) qs:=by
 induction ps generalizing f with
 | nil=>rfl
 | cons p ps ih=>exact ih _
theorem lM(f:α->α)(ps qs:Pr α):cls f (ps++qs)=cls f ps+cls (gQ f ps) qs:=by
 induction ps generalizing f with
 | nil=>simp [cls,gQ]
 | cons p ps ih=>rw [az,cls,cls,ih,gQ,jd]
theorem xS{f:α->α}{ps qs:Pr α}(h:ps.Perm qs)(o:Ok f ps):gQ f ps=gQ f qs/\cls f ps=cls f qs:=by
 induction h generalizing f with
 | nil=>exact⟨rfl,rfl⟩
 | cons x _ ih =>
  obtain⟨a,b⟩:=ih o.tl;exact⟨a,by rw [cls,cls,b]⟩
 | swap x y l =>
  have n:=o.nd;simp only [es,aO,aQ,not_or] at n;have d:∀ e,e=y.1\/e=y.2\/e=x.1\/e=x.2->f e≠e:=fun e he=>o.dm e (by
   simp only [es,aQ];rcases he with h | h | h | h <;> simp [h])
  have a:=PZ o.iv (d y.1 (by simp)) (d y.2 (by simp)) (d x.1 (by simp)) (d x.2 (by simp)) n.1.1 n.1.2.1 n.1.2.2.1 n.2.1.1 n.2.1.2.1 n.2.2.1.1;have b:=Qq o.iv (d y.1 (by simp)) (d y.2 (by simp)) (d x.1 (by simp)) (d x.2 (by simp)) n.1.1 n.1.2.1 n.1.2.2.1 n.2.1.1 n.2.1.2.1 n.2.2.1.1;refine⟨?_,?_⟩
  ·show gQ (jn (jn f y.1 y.2) x.1 x.2) l=gQ (jn (jn f x.1 x.2) y.1 y.2) l;rw [a]
  ·show cl f y.1 y.2+(cl (jn f y.1 y.2) x.1 x.2+cls (jn (jn f y.1 y.2) x.1 x.2) l)=cl f x.1 x.2+(cl (jn f x.1 x.2) y.1 y.2+cls (jn (jn f x.1 x.2) y.1 y.2) l);rw [a]; lia
 | trans h1 h2 i1 i2 =>
  obtain⟨a,b⟩:=i1 o;obtain⟨c,d⟩:=i2 (o.perm h1);exact⟨a.trans c,b.trans d⟩
theorem MZ{f:α->α}{x y:α}{ps:Pr α}(o:Iv f):gQ f ((x,y) :: ps)=gQ f ((y,x) :: ps)/\cls f ((x,y) :: ps)=cls f ((y,x) :: ps):=by
 refine⟨?_,?_⟩
 ·show gQ (jn f x y) ps=gQ (jn f y x) ps;rw [Il]
 ·show cl f x y+cls (jn f x y) ps=cl f y x+cls (jn f y x) ps;rw [Il,Qp o]
theorem M6{f:α->α}(h:Iv f){p q x y:α}(e:f p=q)(pq:p≠q)(hx:f x≠x)(hy:f y≠y)(xp:x≠p)(xq:x≠q)(yp:y≠p)(yq:y≠q)(xy:x≠y) :
  jn (jn f x p) q y=jn (jn f p q) x y/\cl f x p+cl (jn f x p) q y=cl (jn f p q) x y:=by
 have h1:=h x;have h2:=h y;have h3:=h p;refine⟨?_,?_⟩
 ·funext a;have h5:=h a;unfold jn
  grind (splits:=40)
 ·unfold cl jn
  grind (splits:=40)
theorem J0{f:α->α}{p q x y:α}{ps:Pr α}(o:Ok f ((x,p) :: (q,y) :: ps))(e:f p=q) :
  gQ f ((x,p) :: (q,y) :: ps)=gQ (jn f p q) ((x,y) :: ps)/\cls f ((x,p) :: (q,y) :: ps)=cls (jn f p q) ((x,y) :: ps):=by
 have n:=o.nd;simp only [es,aO,aQ,not_or] at n;have d:∀ e,e=x\/e=p\/e=q\/e=y->f e≠e:=fun e he=>o.dm e (by
  simp only [es,aQ];rcases he with h | h | h | h <;> simp [h])
 obtain⟨a,b⟩:=M6 o.iv e n.2.1.1 (d x (by simp)) (d y (by simp)) n.1.1 n.1.2.1 (fun z=>n.2.1.2.1 z.symm) (fun z=>n.2.2.1.1 z.symm) n.1.2.2.1;refine⟨?_,?_⟩
 ·show gQ (jn (jn f x p) q y) ps=gQ (jn (jn f p q) x y) ps;rw [a]
 ·show cl f x p+(cl (jn f x p) q y+cls (jn (jn f x p) q y) ps)=cl (jn f p q) x y+cls (jn (jn f p q) x y) ps;rw [<-jd,b,a]
theorem M0{f:α->α}{p q:α}{ps:Pr α}(e:f p=q):cls f ((p,q) :: ps)=1+cls (jn f p q) ps:=by
 show cl f p q+_=_;unfold cl;rw [if_pos e]
end
end J
end K2
end
section
set_option maxHeartbeats 1000000
namespace K2
namespace J
noncomputable abbrev Fn:=Int->Int
noncomputable def lp(g:Fn):Fn:=fun i=>-(g (i+2)) - g (i - 2)
noncomputable def sh(b:Int)(g:Fn):Fn:=fun i=>g (i+b)
noncomputable def gT:Nat->Fn->Fn
 | 0,g=>g
 | n+1,g=>lp (gT n g)
theorem Bl(n m:Nat)(g:Fn):gT (n+m) g=gT n (gT m g):=by
 induction n with
 | zero=>rw [B2]; rfl
 | succ n ih=>rw [Nat.succ_add,gT,gT,ih]
theorem UZ(b:Int)(g:Fn):lp (sh b g)=sh b (lp g):=by
 funext i;unfold lp sh;rw [show i+2+b=i+b+2 by lia,show i - 2+b=i+b - 2 by lia]
theorem kD(n:Nat)(b:Int)(g:Fn):gT n (sh b g)=sh b (gT n g):=by
 induction n with
 | zero=>rfl
 | succ n ih=>rw [gT,gT,ih,UZ]
theorem LV(a b:Int)(g:Fn):sh a (sh b g)=sh (a+b) g:=by
 funext i;unfold sh;rw [Int.add_assoc]
theorem AW(g:Fn):sh 0 g=g:=by
 funext i;unfold sh;rw [lT]
noncomputable def pl(g k:Fn):Fn:=fun i=>g i+k i
noncomputable def sc(c:Int)(g:Fn):Fn:=fun i=>c * g i
theorem U1(g k:Fn):lp (pl g k)=pl (lp g) (lp k):=by
 funext i;show -(g (i+2)+k (i+2)) - (g (i - 2)+k (i - 2))=(-(g (i+2)) - g (i - 2))+(-(k (i+2)) - k (i - 2));lia
theorem U0(c:Int)(g:Fn):lp (sc c g)=sc c (lp g):=by
 funext i;unfold lp sc;rw [Int.mul_sub,Int.mul_neg]
theorem MN(n:Nat)(g k:Fn):gT n (pl g k)=pl (gT n g) (gT n k):=by
 induction n with
 | zero=>rfl
 | succ n ih=>rw [gT,gT,gT,ih,U1]
theorem MM(n:Nat)(c:Int)(g:Fn):gT n (sc c g)=sc c (gT n g):=by
 induction n with
 | zero=>rfl
 | succ n ih=>rw [gT,gT,ih,U0]
theorem QP(b:Int)(g k:Fn):sh b (pl g k)=pl (sh b g) (sh b k):=rfl
theorem QO(b c:Int)(g:Fn):sh b (sc c g)=sc c (sh b g):=rfl
noncomputable def js(n:Int)(w:Bool):Pr T3:=if w=false then [(⟨n,0,0⟩,⟨n,1,1⟩),(⟨n,1,0⟩,⟨n,0,1⟩)] else [(⟨n,0,0⟩,⟨n,1,0⟩),(⟨n,0,1⟩,⟨n,1,1⟩)]
noncomputable def Br:(T3->T3)->List (Int×Int)->Fn->Int
 | _,[],g=>g 0
 | f,p :: ps,g=>Br (gQ f (js p.1 false)) ps (gT (cls f (js p.1 false)) (sh p.2 g))+Br (gQ f (js p.1 true)) ps (gT (cls f (js p.1 true)) (sh (-p.2) g))
theorem Jb:∀ (ps:List (Int×Int)) (f:T3->T3) (g k:Fn),Br f ps (pl g k)=Br f ps g+Br f ps k
 | [],_,_,_=>rfl
 | p :: ps,f,g,k=>by
  rw [Br,Br,Br,QP,QP,MN,MN,Jb,Jb]; lia
theorem AI:∀ (ps:List (Int×Int)) (f:T3->T3) (c:Int) (g:Fn),Br f ps (sc c g)=c * Br f ps g
 | [],_,_,_=>rfl
 | p :: ps,f,c,g=>by
  rw [Br,Br,QO,QO,MM,MM,AI,AI,rB]
noncomputable def jG(n:Int):List T3:=[⟨n,0,0⟩,⟨n,1,1⟩,⟨n,1,0⟩,⟨n,0,1⟩]
theorem jw(n:Int)(w:Bool):(es (js n w)).Perm (jG n):=by
 cases w with
 | false=>exact .refl _
 | true =>
  show [(⟨n,0,0⟩:T3),⟨n,1,0⟩,⟨n,0,1⟩,⟨n,1,1⟩].Perm _;refine AM _ ?_;refine(cX (l₁:=[(⟨n,1,0⟩:T3),⟨n,0,1⟩]) (l₂:=[⟨n,1,1⟩]))
structure Dm(f:T3->T3)(ns:List Int):Prop where
 iv:Iv f
 nd:ns.Nodup
 dm:∀ n∈ns,∀ e∈jG n,f e≠e
theorem Dm.perm{f:T3->T3}{ns ms:List Int}(h:ns.Perm ms)(d:Dm f ns):Dm f ms:=⟨d.iv,h.nodup_iff.mp d.nd,fun n hn=>d.dm n (h.mem_iff.mpr hn)⟩
theorem ye(n:Int):(jG n).Nodup:=by
 unfold jG;simp
theorem qB{n:Int}{e:T3}(h:e∈jG n):e.a=n:=by
 unfold jG at h;simp only [aQ,cI,or_false] at h;rcases h with rfl | rfl | rfl | rfl <;> rfl
theorem Dm.ok{f:T3->T3}{n:Int}{ns:List Int}(d:Dm f (n :: ns))(w:Bool):Ok f (js n w) :=
 ⟨d.iv,(jw n w).nodup_iff.mpr (ye n),fun e he=>d.dm n (by simp) e ((jw n w).mem_iff.mp he)⟩
theorem Dm.PN{f:T3->T3}{n m:Int}{ns:List Int}(d:Dm f (n :: m :: ns))(w v:Bool):Ok f (js n w++js m v):=by
 have Vh:n≠m:=fun z=>(List.nodup_cons.mp d.nd).1 (by rw [z]; exact cb);refine⟨d.iv,?_,fun e he=>?_⟩
 ·rw [qA,eP];refine⟨(jw n w).nodup_iff.mpr (ye n),(jw m v).nodup_iff.mpr (ye m),fun a ha b hb z=>?_⟩;have h1:=qB ((jw n w).mem_iff.mp ha);have h2:=qB ((jw m v).mem_iff.mp hb);rw [z] at h1;exact Vh (h1.symm.trans h2)
 ·rw [qA,Ey] at he;rcases he with he | he
  ·exact d.dm n (by simp) e ((jw n w).mem_iff.mp he)
  ·exact d.dm m (by simp) e ((jw m v).mem_iff.mp he)
theorem Ik{f:T3->T3}:∀ {ps:Pr T3},Ok f ps->∀ {e:T3},gQ f ps e=e->e∈es ps\/f e=e:=by
 intro ps;induction ps generalizing f with
 | nil=>intro o e h; exact .inr h
 | cons p ps ih =>
  intro o e h;rcases ih o.tl h with z | z
  ·exact .inl (by simp [es,z])
  ·rcases M5 o.iv o.hd.1 z with z | z | z
   ·exact .inl (by simp [es,z])
   ·exact .inl (by simp [es,z])
   ·exact .inr z
theorem M3{f:T3->T3}:∀ {ps:Pr T3},Ok f ps->Iv (gQ f ps):=by
 intro ps;induction ps generalizing f with
 | nil=>intro o; exact o.iv
 | cons p ps ih=>intro o; exact ih o.tl
theorem Dm.step{f:T3->T3}{n:Int}{ns:List Int}(d:Dm f (n :: ns))(w:Bool):Dm (gQ f (js n w)) ns:=by
 have nn:=List.nodup_cons.mp d.nd;refine⟨M3 (d.ok w),nn.2,fun m hm e he z=>?_⟩;rcases Ik (d.ok w) z with z | z
 ·have h1:=qB ((jw n w).mem_iff.mp z);have h2:=qB he;exact nn.1 (by rw [<-h1,h2]; exact hm)
 ·exact d.dm m (aL _ hm) e he z
theorem QH{f:T3->T3}{p q:Int×Int}{ps:List (Int×Int)}(d:Dm f (p.1 :: q.1 :: ps.map (·.1)))(g:Fn):Br f (p :: q :: ps) g=Br f (q :: p :: ps) g:=by
 have key:∀ (w v:Bool),gQ (gQ f (js p.1 w)) (js q.1 v)=gQ (gQ f (js q.1 v)) (js p.1 w)/\cls (gQ f (js p.1 w)) (js q.1 v)+cls f (js p.1 w)=cls (gQ f (js q.1 v)) (js p.1 w)+cls f (js q.1 v):=fun w v=>by
  obtain⟨a,b⟩:=xS (cX) (d.PN w v);rw [lF,lF] at a;rw [lM,lM] at b;exact⟨a,by lia⟩
 have kk:∀ (w v:Bool) (x y:Int),Br (gQ (gQ f (js p.1 w)) (js q.1 v)) ps (gT (cls (gQ f (js p.1 w)) (js q.1 v)) (sh x (gT (cls f (js p.1 w)) (sh y g))))=Br (gQ (gQ f (js q.1 v)) (js p.1 w)) ps (gT (cls (gQ f (js q.1 v)) (js p.1 w)) (sh y (gT (cls f (js q.1 v)) (sh x g)))):=fun w v x y=>by
  obtain⟨a,b⟩:=key w v;have z:∀ (m n:Nat) (x y:Int),gT m (sh x (gT n (sh y g)))=sh (x+y) (gT (m+n) g):=fun m n x y=>by rw [kD,kD,kD,LV,Bl]
  rw [a,z,z,b,Int.add_comm x y]
 show (Br _ ps _+Br _ ps _)+(Br _ ps _+Br _ ps _)=(Br _ ps _+Br _ ps _)+(Br _ ps _+Br _ ps _);rw [kk,kk,kk,kk];lia
theorem QI{ps qs:List (Int×Int)}(h:ps.Perm qs):∀ {f:T3->T3},Dm f (ps.map (·.1))->∀ g,Br f ps g=Br f qs g:=by
 induction h with
 | nil=>intro f d g; rfl
 | cons x _ ih=>intro f d g; rw [Br,Br,ih (d.step false),ih (d.step true)]
 | swap x y l=>intro f d g; exact QH d g
 | trans h1 h2 i1 i2=>intro f d g; rw [i1 d,i2 (d.perm (h1.map _))]
end J
end K2
end
section
set_option maxHeartbeats 1000000
namespace K2
namespace J
section
variable {α:Type} [DecidableEq α]
theorem Ok.es{f:α->α}{ps qs:Pr α}(h:(es ps).Perm (es qs))(o:Ok f ps):Ok f qs:=⟨o.iv,h.nodup_iff.mp o.nd,fun e he=>o.dm e (h.mem_iff.mpr he)⟩
structure Sm(ps qs:Pr α):Prop where
 es:(es ps).Perm (es qs)
 eq:∀ f,Ok f ps->gQ f ps=gQ f qs/\cls f ps=cls f qs
theorem Sm.refl(ps:Pr α):Sm ps ps:=⟨.refl _,fun _ o=>⟨rfl,rfl⟩⟩
theorem Sm.trans{ps qs rs:Pr α}(a:Sm ps qs)(b:Sm qs rs):Sm ps rs:=⟨a.es.trans b.es,fun f o=>by
 obtain⟨a1,a2⟩:=a.eq f o;obtain⟨b1,b2⟩:=b.eq f (o.es a.es);exact⟨a1.trans b1,a2.trans b2⟩⟩
theorem Sm.perm{ps qs:Pr α}(h:ps.Perm qs):Sm ps qs:=⟨j5 h,fun f o=>xS h o⟩
theorem Sm.turn(x y:α)(ps:Pr α):Sm ((x,y) :: ps) ((y,x) :: ps):=⟨iZ _ _ _,fun f o=>MZ o.iv⟩
theorem Sm.cons(p:α×α){ps qs:Pr α}(h:Sm ps qs):Sm (p :: ps) (p :: qs):=⟨(h.es.cons _).cons _,fun f o=>by
 obtain⟨a1,a2⟩:=h.eq _ o.tl;exact⟨a1,by rw [cls,cls,a2]⟩⟩
end
noncomputable abbrev Pn:=List (Nat×Nat)
noncomputable def Cy(p:Nat):Pn->Option (Nat×Pn)
 | []=>none
 | (a,b) :: r=>if a=p then some (b,r) else if b=p then some (a,r) else match Cy p r with
  | some (x,r')=>some (x,(a,b) :: r')
  | none=>none
noncomputable def LM(p q:Nat)(ps:Pn):Option (Nat×Pn):=match Cy p ps with
 | none=>none
 | some (x,r)=>if x=q then some (1,r) else match Cy q r with
  | none=>none
  | some (y,r2)=>some (0,(x,y) :: r2)
noncomputable def Wl:Pn->Pn->Option (Nat×Pn)
 | [],ps=>some (0,ps)
 | (p,q) :: T,ps=>match LM p q ps with
  | none=>none
  | some (k,Zz)=>match Wl T Zz with
   | none=>none
   | some (k',qs)=>some (k+k',qs)
noncomputable def P2(p:Nat×Nat):Pn->Pn
 | []=>[p]
 | a :: r=>if p.1<=a.1 then p :: a :: r else a :: P2 p r
noncomputable def Qs:Pn->Pn
 | []=>[]
 | (a,b) :: r=>P2 (if a<=b then (a,b) else (b,a)) (Qs r)
section
variable {α:Type} [DecidableEq α] (v:Nat->α)
noncomputable abbrev mp(ps:Pn):Pr α:=ps.map fun p=>(v p.1,v p.2)
theorem wX{p x:Nat}:∀ {ps r:Pn},Cy p ps=some (x,r)->Sm (mp v ps) (mp v ((x,p) :: r))
 | [],_,h=>by cases h
 | (a,b) :: ps,r,h=>by
  unfold Cy at h;by_cases h1:a=p
  ·rw [if_pos h1] at h;cases h;subst h1;exact Sm.turn _ _ _
  ·rw [if_neg h1] at h;by_cases h2:b=p
   ·rw [if_pos h2] at h;cases h;subst h2;exact .refl _
   ·rw [if_neg h2] at h;split at h
    ·rename_i x' r' e;cases h;exact((wX e).cons _).trans (.perm (.swap _ _ _))
    ·cases h
theorem zZ(p:Nat×Nat):∀ ps:Pn,(P2 p ps).Perm (p :: ps)
 | []=>.refl _
 | a :: r=>by
  unfold P2;split
  ·exact .refl _
  ·exact((zZ p r).cons a).trans (.swap _ _ _)
theorem IS:∀ ps:Pn,Sm (mp v ps) (mp v (Qs ps))
 | []=>.refl _
 | (a,b) :: r=>by
  unfold Qs;refine Sm.trans ?_ (.perm ((zZ _ _).symm.map _));refine((IS r).cons (v a,v b)).trans ?_;split
  ·exact .refl _
  ·exact .turn _ _ _
noncomputable def Sd(f:α->α):Pn->α->α
 | []=>f
 | (p,q) :: T=>Sd (jn f (v p) (v q)) T
structure Th(f:α->α)(T:Pn):Prop where
 iv:Iv f
 nd:(es (mp v T)).Nodup
 th:∀ t∈T,f (v t.1)=v t.2
variable {v}
theorem M4{f:α->α}(h:Iv f){p q e:α}(t:f p=q)(h1:e≠p)(h2:e≠q):jn f p q e=f e:=by
 have:=h p;have:=h e;unfold jn
 grind
theorem Th.tl{f:α->α}{p q:Nat}{T:Pn}(h:Th v f ((p,q) :: T)):Th v (jn f (v p) (v q)) T:=by
 have n:=h.nd;have t0:=h.th (p,q) (by simp);have e1:v p≠v q:=by
  show (v p)≠(v q);have n':(v p :: v q :: es (mp v T)).Nodup:=n;rw [aO] at n';exact fun z=>n'.1 (by rw [z]; exact cb)
 have n':(v p :: v q :: es (mp v T)).Nodup:=n;rw [aO,aO] at n';have fq:f (v q)=v p:=by rw [<-t0]; exact h.iv _
 refine⟨Q7 h.iv (by rw [t0]; exact e1.symm) (by rw [fq]; exact e1) e1,n'.2.2,fun t ht=>?_⟩;have m1:v t.1∈es (mp v T):=kC.mpr ⟨_,List.mem_map.mpr ⟨t,ht,rfl⟩,.inl rfl⟩;rw [M4 h.iv t0]
 ·exact h.th t (aL _ ht)
 ·exact fun z=>n'.1 (by rw [<-z]; exact aL _ m1)
 ·exact fun z=>n'.2.1 (by rw [<-z]; exact m1)
theorem LL{f:α->α}{p q k:Nat}{T ps qs:Pn}(h:Th v f ((p,q) :: T))(o:Ok f (mp v ps))(e:LM p q ps=some (k,qs)) :
  Ok (jn f (v p) (v q)) (mp v qs)/\gQ f (mp v ps)=gQ (jn f (v p) (v q)) (mp v qs)/\cls f (mp v ps)=k+cls (jn f (v p) (v q)) (mp v qs):=by
 have t0:=h.th (p,q) (by simp);unfold LM at e;split at e
 ·cases e
 ·rename_i x r e1;have s1:=wX v e1;have o1:=o.es s1.es;obtain⟨a1,a2⟩:=s1.eq f o;split at e
  ·rename_i z;cases e;subst z;have s2:=Sm.turn (v x) (v p) (mp v qs);have o2:Ok f ((v p,v x) :: mp v qs):=o1.es s2.es;obtain⟨b1,b2⟩:=s2.eq f o1;refine⟨o2.tl,a1.trans b1,?_⟩;rw [a2];exact b2.trans (M0 t0)
  ·split at e
   ·cases e
   ·rename_i z y r2 e2;cases e;have s2:Sm (mp v ((x,p) :: r)) ((v x,v p) :: (v q,v y) :: mp v r2):=((wX v e2).trans (.turn _ _ _)).cons _;have o2:=o1.es s2.es;obtain⟨b1,b2⟩:=s2.eq f o1;obtain⟨c1,c2⟩:=J0 o2 t0;refine⟨?_,a1.trans (b1.trans c1),by rw [a2,b2,c2,B2]; rfl⟩;have n:=o2.nd;have iv:=h.tl.iv;have e1':v p≠v q:=by
     have n':(v p :: v q :: es (mp v T)).Nodup:=h.nd;rw [aO] at n';exact fun z=>n'.1 (by rw [z]; exact cb)
    simp only [es,aO,aQ,not_or] at n;have m:∀ {e:α},e∈es (mp v ((x,y) :: r2))->e∈es ((v x,v p) :: (v q,v y) :: mp v r2)/\e≠v p/\e≠v q:=by
     intro e he;have Yz:e=v x\/e=v y\/e∈es (mp v r2):=by simpa [es] using he
     refine⟨by simp only [es,aQ]; rcases Yz with z | z | z <;> simp [z],?_,?_⟩
     ·rintro rfl;rcases Yz with z | z | z
      ·exact n.1.1 z.symm
      ·exact n.2.1.2.1 z
      ·exact n.2.1.2.2 z
     ·rintro rfl;rcases Yz with z | z | z
      ·exact n.1.2.1 z.symm
      ·exact n.2.2.1.1 z
      ·exact n.2.2.1.2 z
    refine⟨iv,?_,fun e he=>?_⟩
    ·show (v x :: v y :: es (mp v r2)).Nodup;simp only [aO,aQ,not_or];exact⟨⟨n.1.2.2.1,n.1.2.2.2⟩,n.2.2.2.1,n.2.2.2.2⟩
    ·obtain⟨m1,m2,m3⟩:=m he;rw [M4 h.iv t0 m2 m3];exact o2.dm e m1
theorem NA:∀ {T:Pn} {f:α->α} {ps qs:Pn} {k:Nat},Th v f T->Ok f (mp v ps)->Wl T ps=some (k,qs) ->
  Ok (Sd v f T) (mp v qs)/\gQ f (mp v ps)=gQ (Sd v f T) (mp v qs)/\cls f (mp v ps)=k+cls (Sd v f T) (mp v qs)
 | [],f,ps,qs,k,h,o,e=>by
  cases e;exact⟨o,rfl,by rw [B2]; rfl⟩
 | (p,q) :: T,f,ps,qs,k,h,o,e=>by
  unfold Wl at e;split at e
  ·cases e
  ·rename_i k1 Zz e1;split at e
   ·cases e
   ·rename_i k2 qs' e2;cases e;obtain⟨o1,a1,a2⟩:=LL h o e1;obtain⟨o2,b1,b2⟩:=NA h.tl o1 e2;exact⟨o2,a1.trans b1,by rw [a2,b2,jd]; rfl⟩
noncomputable def Xx(T ps:Pn):Option (Nat×Pn):=(Wl T ps).map fun r=>(r.1,Qs r.2)
theorem SH{T:Pn}{f:α->α}{ps qs:Pn}{k:Nat}(h:Th v f T)(o:Ok f (mp v ps))(e:Xx T ps=some (k,qs)) :
  gQ f (mp v ps)=gQ (Sd v f T) (mp v qs)/\cls f (mp v ps)=k+cls (Sd v f T) (mp v qs):=by
 unfold Xx at e;obtain⟨r,e1,e2⟩:=Option.map_eq_some_iff.mp e;cases e2;obtain⟨o1,a1,a2⟩:=NA h o (k:=r.1) (qs:=r.2) e1;obtain⟨b1,b2⟩:=(IS v r.2).eq _ o1;exact⟨a1.trans b1,by rw [a2,b2]⟩
end
end J
end K2
end
section
set_option maxHeartbeats 1000000
namespace K2
namespace J
section
variable {κ:Type} [DecidableEq κ]
noncomputable def fsum(W:κ->Int):List (κ×Int)->Int
 | []=>0
 | p :: S=>p.2 * W p.1+fsum W S
noncomputable def t8(k:κ):List (κ×Int)->Int
 | []=>0
 | p :: S=>(if p.1=k then p.2 else 0)+t8 k S
theorem xY(W:κ->Int)(S S':List (κ×Int)):fsum W (S++S')=fsum W S+fsum W S':=by
 induction S with
 | nil=>simp [fsum]
 | cons p S ih=>rw [az,fsum,fsum,ih]; lia
theorem Qo(k:κ)(S S':List (κ×Int)):t8 k (S++S')=t8 k S+t8 k S':=by
 induction S with
 | nil=>simp [t8]
 | cons p S ih=>rw [az,t8,t8,ih]; lia
noncomputable def vT(c:Int)(S:List (κ×Int)):List (κ×Int):=S.map fun p=>(p.1,c * p.2)
theorem xX(W:κ->Int)(c:Int)(S:List (κ×Int)):fsum W (vT c S)=c * fsum W S:=by
 induction S with
 | nil=>simp [vT,fsum]
 | cons p S ih =>
  have:vT c (p :: S)=(p.1,c * p.2) :: vT c S:=rfl;rw [this,fsum,fsum,ih,rB,Lr]
theorem Qn(k:κ)(c:Int)(S:List (κ×Int)):t8 k (vT c S)=c * t8 k S:=by
 induction S with
 | nil=>simp [vT,t8]
 | cons p S ih =>
  have:vT c (p :: S)=(p.1,c * p.2) :: vT c S:=rfl;rw [this,t8,t8,ih,rB];congr 1;split <;> simp
theorem FY(W:κ->Int)(k:κ)(S:List (κ×Int)):fsum W S=t8 k S * W k+fsum W (S.filter fun p=>decide (p.1≠k)):=by
 induction S with
 | nil=>simp [fsum,t8]
 | cons p S ih =>
  rw [fsum,t8,ih,bD];by_cases h:p.1=k
  ·simp only [h,ne_eq,not_true_eq_false,decide_false,aq,if_false,if_true,Int.add_mul];lia
  ·simp only [h,ne_eq,not_false_eq_true,decide_true,if_true,if_false,uG];rw [fsum]; lia
theorem GG(k j:κ)(S:List (κ×Int)):t8 j (S.filter fun p=>decide (p.1≠k))=if j=k then 0 else t8 j S:=by
 induction S with
 | nil=>simp [t8]
 | cons p S ih =>
  rw [bD];by_cases h:p.1=k
  ·simp only [h,ne_eq,not_true_eq_false,decide_false,aq,if_false];have:(S.filter fun p=>!decide (p.1=k))=S.filter fun p=>decide (p.1≠k):=by simp
   rw [t8];by_cases hj:j=k
   ·simp [hj] at ih ⊢; exact ih
   ·have:¬ p.1=j:=fun z=>hj (z.symm.trans h);simp [hj,this] at ih ⊢; exact ih
  ·simp only [h,ne_eq,not_false_eq_true,decide_true,if_true];rw [t8,t8];simp only [ne_eq] at ih;rw [ih];by_cases hj:j=k
   ·have:¬ p.1=j:=fun z=>h (z.trans hj);simp [hj,h]
   ·simp [hj]
theorem Ag(W:κ->Int):∀ (n:Nat) (S:List (κ×Int)),S.length<=n->(∀ k,t8 k S=0)->fsum W S=0
 | _,[],_,_=>rfl
 | 0,_ :: _,h,_=>by simp at h
 | n+1,p :: S,hl,h=>by
  rw [FY W p.1,h,Int.zero_mul,uG];refine Ag W n _ ?_ fun k=>?_
  ·rw [qY (by simp)];exact bu (dw _ _) (by simpa using hl)
  ·rw [GG]; split
   ·rfl
   ·exact h k
theorem yk{k:κ}:∀ {S:List (κ×Int)},k∉S.map (·.1)->t8 k S=0
 | [],_=>rfl
 | p :: S,h=>by
  rw [ak,aQ,not_or] at h;rw [t8,if_neg (fun z=>h.1 z.symm),yk h.2]; rfl
noncomputable def YQ(S S':List (κ×Int)):Bool:=(S++S').all fun p=>decide (t8 p.1 S=t8 p.1 S')
theorem Tf(W:κ->Int){S S':List (κ×Int)}(h:YQ S S'=true):fsum W S=fsum W S':=by
 have z:∀ k,t8 k (S++vT (-1) S')=0:=fun k=>by
  rw [Qo,Qn];by_cases hk:k∈(S++S').map (·.1)
  ·obtain⟨p,hp,rfl⟩:=List.mem_map.mp hk;have:=List.all_eq_true.mp h p hp;have e:t8 p.1 S=t8 p.1 S':=by simpa using this
   rw [e]; lia
  ·rw [a9,Ey,not_or] at hk;rw [yk hk.1,yk hk.2]; rfl
 have:=Ag W _ _ (aF _) z;rw [xY,xX] at this;lia
end
noncomputable abbrev Ky:=Pn×Int
noncomputable def VA:Nat->Int->List (Int×Int)
 | 0,b=>[(b,1)]
 | k+1,b=>(VA k (b+2)).map (fun p=>(p.1,-1 * p.2))++(VA k (b - 2)).map fun p=>(p.1,-1 * p.2)
noncomputable def RZ(jN:Nat->Bool->Pn):List (Nat×Int)->List (Pn×Int)
 | []=>[([],0)]
 | p :: r=>((RZ jN r).map fun q=>(jN p.1 false++q.1,q.2+p.2))++(RZ jN r).map fun q=>(jN p.1 true++q.1,q.2+-p.2)
noncomputable def UI(T:Pn)(s:Pn×Int):Option (List (Ky×Int)):=(Xx T s.1).map fun r=>(VA r.1 s.2).map fun x=>((r.2,x.1),x.2)
noncomputable def GK(T:Pn):List (Pn×Int)->Option (List (Ky×Int))
 | []=>some []
 | s :: r=>match UI T s,GK T r with
  | some a,some b=>some (a++b)
  | _,_=>none
section
variable (v:Nat->T3) (F:T3->T3) (ns:List (Int×Int)) (g:Fn)
noncomputable def Wk(k:Ky):Int:=Br (gQ F (mp v k.1)) ns (gT (cls F (mp v k.1)) (sh k.2 g))
theorem Gn(q:Pn):∀ (k:Nat) (b:Int),fsum (Wk v F ns g) ((VA k b).map fun x=>((q,x.1),x.2))=Br (gQ F (mp v q)) ns (gT (k+cls F (mp v q)) (sh b g))
 | 0,b=>by
  rw [B2];show 1 * Wk v F ns g (q,b)+0=_;rw [Int.one_mul,lT]; rfl
 | k+1,b=>by
  have neg:∀ l:List (Int×Int),fsum (Wk v F ns g) ((l.map fun p=>(p.1,-1 * p.2)).map fun x=>((q,x.1),x.2))=-1 * fsum (Wk v F ns g) (l.map fun x=>((q,x.1),x.2)):=fun l=>by
   rw [<-xX,vT,br,br]; rfl
  rw [VA,a9,xY,neg,neg,Gn q k,Gn q k,Nat.succ_add,gT];have e:lp (gT (k+cls F (mp v q)) (sh b g))=pl (sc (-1) (gT (k+cls F (mp v q)) (sh (b+2) g))) (sc (-1) (gT (k+cls F (mp v q)) (sh (b - 2) g))):=by
   rw [kD,kD,kD];funext i;show -(gT _ g (i+2+b)) - gT _ g (i - 2+b)=-1 * (gT _ g (i+(b+2)))+-1 * gT _ g (i+(b - 2));rw [show i+2+b=i+(b+2) by lia,show i - 2+b=i+(b - 2) by lia];lia
  rw [e,Jb,AI,AI]
end
section
variable {v:Nat->T3} {jN:Nat->Bool->Pn} {nm:Nat->Int}
noncomputable def vS(v:Nat->T3)(f:T3->T3)(ns:List (Int×Int))(g:Fn):List (Pn×Int)->Int
 | []=>0
 | s :: r=>Br (gQ f (mp v s.1)) ns (gT (cls f (mp v s.1)) (sh s.2 g))+vS v f ns g r
theorem RN(f:T3->T3)(ns:List (Int×Int))(g:Fn)(a b:List (Pn×Int)):vS v f ns g (a++b)=vS v f ns g a+vS v f ns g b:=by
 induction a with
 | nil=>simp [vS]
 | cons s a ih=>rw [az,vS,vS,ih]; lia
theorem E8(hj:∀ i w,mp v (jN i w)=js (nm i) w):∀ (as:List (Nat×Int)) (f:T3->T3) (ns:List (Int×Int)) (g:Fn),Br f ((as.map fun p=>(nm p.1,p.2))++ns) g=vS v f ns g (RZ jN as)
 | [],f,ns,g=>by
  show Br f ns g=Br f ns (sh 0 g)+0;rw [AW,lT]
 | p :: r,f,ns,g=>by
  have one:∀ (w:Bool) (b:Int) (l:List (Pn×Int)),vS v (gQ f (js (nm p.1) w)) ns (gT (cls f (js (nm p.1) w)) (sh b g)) l=vS v f ns g (l.map fun q=>(jN p.1 w++q.1,q.2+b)):=fun w b l=>by
   induction l with
   | nil=>rfl
   | cons s l ih =>
    rw [ak,vS,vS,ih];congr 1;show _=Br (gQ f ((jN p.1 w++s.1).map fun p=>(v p.1,v p.2))) ns (gT (cls f ((jN p.1 w++s.1).map fun p=>(v p.1,v p.2))) (sh (s.2+b) g));rw [a9];have e:=hj p.1 w;unfold mp at e;rw [e,lF,lM];congr 1;have z:∀ (m n:Nat) (x y:Int),gT m (sh x (gT n (sh y g)))=sh (x+y) (gT (m+n) g):=fun m n x y=>by rw [kD,kD,kD,LV,Bl]
    rw [z,kD,Nat.add_comm]
  rw [ak,az,Br,RZ,RN,E8 hj r,E8 hj r,one,one]
theorem BU{T:Pn}{f:T3->T3}(ns:List (Int×Int))(g:Fn)(h:Th v f T):∀ {ss:List (Pn×Int)} {S:List (Ky×Int)},(∀ s∈ss,Ok f (mp v s.1))->GK T ss=some S->vS v f ns g ss=fsum (Wk v (Sd v f T) ns g) S
 | [],S,_,e=>by cases e; rfl
 | s :: ss,S,o,e=>by
  unfold GK at e;split at e
  ·rename_i a b e1 e2;cases e;rw [vS,xY,BU ns g h (fun s hs=>o s (aL _ hs)) e2];congr 1;unfold UI at e1;obtain⟨r,e3,e4⟩:=Option.map_eq_some_iff.mp e1;subst e4;rw [Gn];obtain⟨a1,a2⟩:=SH h (o s (by simp)) (k:=r.1) (qs:=r.2) e3;rw [a1,a2]
  ·cases e
theorem E6{T:Pn}{f:T3->T3}(ns:List (Int×Int))(g:Fn)(h:Th v f T){as bs:List (Pn×Int)}{c:Int}(oa:∀ s∈as,Ok f (mp v s.1))(ob:∀ s∈bs,Ok f (mp v s.1))
  (e:(match GK T as,GK T bs with
   | some S,some S'=>YQ S (vT c S')
   | _,_=>false)=true):vS v f ns g as=c * vS v f ns g bs:=by
 split at e
 ·rename_i S S' e1 e2;rw [BU ns g h oa e1,BU ns g h ob e2,Tf _ e,xX]
 ·cases e
end
end J
end K2
end
section
set_option maxHeartbeats 1000000
namespace K2
namespace J
noncomputable def vv(nm:Nat->Int)(i:Nat):T3:=⟨nm (i / 4),((i / 2 % 2:Nat):Int),((i % 2:Nat):Int)⟩
noncomputable def jN(i:Nat)(w:Bool):Pn:=if w=false then [(4 * i,4 * i+3),(4 * i+2,4 * i+1)] else [(4 * i,4 * i+2),(4 * i+1,4 * i+3)]
theorem Uo(nm:Nat->Int)(i:Nat):vv nm (4 * i)=⟨nm i,0,0⟩/\vv nm (4 * i+1)=⟨nm i,0,1⟩/\vv nm (4 * i+2)=⟨nm i,1,0⟩/\vv nm (4 * i+3)=⟨nm i,1,1⟩:=by
 have q:∀ (k:Nat),k < 4->(4 * i+k) / 4=i/\(4 * i+k) / 2 % 2=k / 2/\(4 * i+k) % 2=k % 2:=fun k hk=>by lia
 obtain⟨a0,a1,a2⟩:=q 0 (by lia);obtain⟨b0,b1,b2⟩:=q 1 (by lia);obtain⟨c0,c1,c2⟩:=q 2 (by lia);obtain⟨d0,d1,d2⟩:=q 3 (by lia);unfold vv;rw [oV] at a0 a1 a2;rw [a0,a1,a2,b0,b1,b2,c0,c1,c2,d0,d1,d2];exact⟨rfl,rfl,rfl,rfl⟩
theorem U4(nm:Nat->Int)(i:Nat)(w:Bool):mp (vv nm) (jN i w)=js (nm i) w:=by
 obtain⟨a,b,c,d⟩:=Uo nm i;cases w
 ·show [(vv nm (4 * i),vv nm (4 * i+3)),(vv nm (4 * i+2),vv nm (4 * i+1))]=_;rw [a,b,c,d]; rfl
 ·show [(vv nm (4 * i),vv nm (4 * i+2)),(vv nm (4 * i+1),vv nm (4 * i+3))]=_;rw [a,b,c,d]; rfl
noncomputable def okN(m:Nat)(ps:Pn):Bool:=decide (es ps).Nodup&&(es ps).all fun i=>decide (i < 4 * m)
theorem Gq{α β:Type}(v:α->β):∀ ps:Pr α,es (ps.map fun p=>(v p.1,v p.2))=(es ps).map v
 | []=>rfl
 | p :: ps=>by rw [ak,es,es,Gq v ps,ak,ak]
structure Tg(v:Nat->T3)(f:T3->T3)(m:Nat):Prop where
 iv:Iv f
 inj:∀ i j,i < 4 * m->j < 4 * m->v i=v j->i=j
 dm:∀ i,i < 4 * m->f (v i)≠v i
theorem qt{α β:Type}{v:α->β}:∀ {l:List α},l.Nodup->(∀ i∈l,∀ j∈l,v i=v j->i=j)->(l.map v).Nodup
 | [],_,_=>cE
 | a :: l,h,hi=>by
  rw [aO] at h;rw [ak,aO];refine⟨fun z=>?_,qt h.2 fun i Np j hj=>hi i (aL _ Np) j (aL _ hj)⟩;obtain⟨b,hb,e⟩:=List.mem_map.mp z;have:=hi a (by simp) b (aL _ hb) e.symm;exact h.1 (this ▸ hb)
theorem HW{m:Nat}{ps:Pn}(h:okN m ps=true):(es ps).Nodup/\∀ i∈es ps,i < 4 * m:=by
 unfold okN at h;rw [aH] at h;exact⟨of_decide_eq_true h.1,fun i hi=>of_decide_eq_true (List.all_eq_true.mp h.2 i hi)⟩
theorem Tg.nd{v:Nat->T3}{f:T3->T3}{m:Nat}(t:Tg v f m){ps:Pn}(h:okN m ps=true):(es (mp v ps)).Nodup:=by
 obtain⟨h1,h2⟩:=HW h;unfold mp;rw [Gq];exact qt h1 fun i hi j hj=>t.inj i j (h2 i hi) (h2 j hj)
theorem Tg.ok{v:Nat->T3}{f:T3->T3}{m:Nat}(t:Tg v f m){ps:Pn}(h:okN m ps=true):Ok f (mp v ps):=by
 refine⟨t.iv,t.nd h,fun e he=>?_⟩;unfold mp at he;rw [Gq] at he;obtain⟨i,hi,rfl⟩:=List.mem_map.mp he;exact t.dm i ((HW h).2 i hi)
theorem Tg.th{v:Nat->T3}{f:T3->T3}{m:Nat}(t:Tg v f m){T:Pn}(h:okN m T=true)(ht:∀ p∈T,f (v p.1)=v p.2):Th v f T:=⟨t.iv,t.nd h,ht⟩
noncomputable def Y0(m:Nat)(T:Pn)(as bs:List (Pn×Int))(c:Int):Bool:=okN m T&&(as.all fun s=>okN m s.1)&&(bs.all fun s=>okN m s.1)&&(match GK T as,GK T bs with
   | some S,some S'=>YQ S (vT c S')
   | _,_=>false)
theorem RU{v:Nat->T3}{f:T3->T3}{m:Nat}{T:Pn}{as bs:List (Pn×Int)}{c:Int}(t:Tg v f m)(h:Y0 m T as bs c=true)(ht:∀ p∈T,f (v p.1)=v p.2)(ns:List (Int×Int))(g:Fn):vS v f ns g as=c * vS v f ns g bs:=by
 unfold Y0 at h;rw [aH,aH,aH] at h;obtain⟨⟨⟨h1,h2⟩,h3⟩,h4⟩:=h;exact E6 ns g (t.th h1 ht) (fun s hs=>t.ok (List.all_eq_true.mp h2 s hs)) (fun s hs=>t.ok (List.all_eq_true.mp h3 s hs)) h4
theorem RM{nm:Nat->Int}{m:Nat}(h:∀ i j,i < m->j < m->nm i=nm j->i=j):∀ i j,i < 4 * m->j < 4 * m->vv nm i=vv nm j->i=j:=by
 intro i j hi hj e;unfold vv at e;injection e with e1 e2 e3
 have:=h (i / 4) (j / 4) (by lia) (by lia) e1;have e2':i / 2 % 2=j / 2 % 2:=by exact_mod_cast e2
 have e3':i % 2=j % 2:=by exact_mod_cast e3
 lia
theorem O0{nm:Nat->Int}(i:Nat):vv nm i∈jG (nm (i / 4)):=by
 have h1:i / 2 % 2=0\/i / 2 % 2=1:=by lia
 have h2:i % 2=0\/i % 2=1:=by lia
 unfold vv jG;rcases h1 with h1 | h1 <;> rcases h2 with h2 | h2 <;> rw [h1,h2] <;> simp
noncomputable def K5(l:List Int)(i:Nat):Int:=(l[i]?).getD 0
theorem FA{l:List Int}{i:Nat}(h:i < l.length):K5 l i=l[i]:=by unfold K5; rw [au h]; rfl
theorem Dm.tg{f:T3->T3}{l:List Int}(d:Dm f l):Tg (vv (K5 l)) f l.length:=by
 refine⟨d.iv,RM fun i j hi hj e=>?_,fun i hi=>?_⟩
 ·rw [FA hi,FA hj] at e;exact(List.getElem_inj d.nd).mp e
 ·have Np:i / 4 < l.length:=by lia
  refine d.dm (K5 l (i / 4)) ?_ _ (O0 i);rw [FA Np];exact fh Np
noncomputable def jF(n w:Int):T3×T3:=(⟨n,w,0⟩,⟨n,w,1⟩)
theorem SO{f:T3->T3}{a b h:Int}{ns:List (Int×Int)}(d:Dm f [a,b])(hh:h=1\/h=-1)(ho:f ⟨a,0,1⟩=⟨b,0,0⟩)(hu:f ⟨a,1,1⟩=⟨b,1,0⟩\/f ⟨b,1,1⟩=⟨a,1,0⟩)(g:Fn) :
  Br f ((a,h) :: (b,-h) :: ns) g=Br (gQ f [jF a 0,jF b 0,jF a 1,jF b 1]) ns (gT (cls f [jF a 0,jF b 0,jF a 1,jF b 1]) g):=by
 have t:Tg (vv (K5 [a,b])) f 2:=d.tg;have e0:=E8 (v:=vv (K5 [a,b])) (jN:=jN) (nm:=K5 [a,b]) (U4 _) [(0,h),(1,-h)] f ns g;have e1:Br f ((a,h) :: (b,-h) :: ns) g=vS (vv (K5 [a,b])) f ns g (RZ jN [(0,h),(1,-h)]):=e0;rw [e1];have fin:∀ T:Pn,Y0 2 T (RZ jN [(0,h),(1,-h)]) [([(0,1),(4,5),(2,3),(6,7)],0)] 1=true->(∀ p∈T,f (vv (K5 [a,b]) p.1)=vv (K5 [a,b]) p.2)->vS (vv (K5 [a,b])) f ns g (RZ jN [(0,h),(1,-h)])=Br (gQ f [jF a 0,jF b 0,jF a 1,jF b 1]) ns (gT (cls f [jF a 0,jF b 0,jF a 1,jF b 1]) g):=fun T hc ht=>by
  rw [RU t hc ht ns g];show 1 * (Br (gQ f [jF a 0,jF b 0,jF a 1,jF b 1]) ns (gT (cls f [jF a 0,jF b 0,jF a 1,jF b 1]) (sh 0 g))+0)=_;rw [lT,Int.one_mul,AW]
 rcases hu with hu | hu
 ·refine fin [(1,4),(3,6)] (by rcases hh with rfl | rfl <;> decide +kernel) ?_;intro p hp;simp only [aQ,cI,or_false] at hp;rcases hp with rfl | rfl
  ·exact ho
  ·exact hu
 ·refine fin [(1,4),(7,2)] (by rcases hh with rfl | rfl <;> decide +kernel) ?_;intro p hp;simp only [aQ,cI,or_false] at hp;rcases hp with rfl | rfl
  ·exact ho
  ·exact hu
end J
end K2
end
section
namespace K2
open PySem (Str)
open Enc (enc)
theorem og{α:Type} [DecidableEq α] [Enc α]{G G1:Gp}{p:Nat}{xs:List α}{Q:DK}(l:fN G G1)(hp:G p=none)(h1:G1 p=some (.lst (xs.map enc)))(q:Q (enc xs) G):KP G1 (.ref p) Q :=
 FX l hp h1 (GX.same _) q
theorem eU{α:Type}{f:α->D}{g:yT}{body:hV}{ok:Gp->Prop}{xs:List α}{E:kS}{K:kI}{τ:gY}{G:Gp}(I:List α->gY->Gp->Prop)
  (h0:I [] τ G) (cD:∀ pre τ G,I pre τ G->ok G)
  (step:∀ (pre:List α) (x:α) (post:List α) τ G (N:gY->Gp->Prop),xs=pre++x :: post->I pre τ G->(∀ uH G2,I (pre++[x]) uH G2->N uH G2) ->
   g E (f x) τ G fun nO G1=>body E { K with nx:=N,ct:=N,bk:=K.nx } nO G1)
  (fin:∀ τ G,I xs τ G->K.nx τ G):oH g body ok (xs.map f) E K τ G:=by
 have main:∀ (post pre:List α) τ G,xs=pre++post->I pre τ G->oH g body ok (post.map f) E K τ G:=by
  intro post;induction post with
  | nil =>
   intro pre τ G e h;rw [cz] at e;subst e;exact⟨cD _ _ _ h,fin _ _ h⟩
  | cons d post ih =>
   intro pre τ G e h;refine⟨cD _ _ _ h,?_⟩;exact step pre d post τ G _ e h fun uH G2 h2=>ih (pre++[d]) uH G2 (by rw [e,bK]; rfl) h2
 exact main xs [] τ G rfl h0
theorem kl{α:Type}{f:α->D}{g:yT}{c:Option vM}{e:fM}{ok:Gp->Prop}{xs:List α}{E:kS}{τ:gY}{G:Gp}{Q:List D->Gp->Prop}(I:List α->List D->gY->Gp->Prop)
  (h0:I [] [] τ G) (cD:∀ pre acc τ G,I pre acc τ G->ok G)
  (step:∀ (pre:List α) (x:α) (post:List α) (acc:List D) τ G (N:gY->List D->Gp->Prop),xs=pre++x :: post->I pre acc τ G->(∀ uH vh G2,I (pre++[x]) vh uH G2->N uH vh G2) ->
   g E (f x) τ G fun nO G1=>match c with
    | none=>e E nO G1 fun x G2=>N nO (acc++[x]) G2
    | some c=>c E nO G1 fun k G2=>if k=true then e E nO G2 fun x G3=>N nO (acc++[x]) G3 else N nO acc G2)
  (fin:∀ acc τ G,I xs acc τ G->Q acc G):iI g c e ok (xs.map f) E τ G [] Q:=by
 have main:∀ (post pre:List α) (acc:List D) τ G,xs=pre++post->I pre acc τ G->iI g c e ok (post.map f) E τ G acc Q:=by
  intro post;induction post with
  | nil =>
   intro pre acc τ G e h;rw [cz] at e;subst e;exact⟨cD _ _ _ _ h,fin _ _ _ h⟩
  | cons d post ih =>
   intro pre acc τ G e' h;refine⟨cD _ _ _ _ h,?_⟩;have:=step pre d post acc τ G (fun uH vh G2=>iI g c e ok (post.map f) E uH G2 vh Q) e' h fun uH vh G2 h2=>ih (pre++[d]) vh uH G2 (by rw [e',bK]; rfl) h2;cases c with
   | none=>exact this
   | some c=>exact this
 exact main xs [] [] τ G rfl h0
theorem j4{α:Type} [DecidableEq α] [Enc α]{xs:List α}{G:Gp}{R:List D->(Gp->Prop)->Gp->Prop}(h:R (xs.map enc) (fun _=>True) G):P4 (enc xs) G R:=h
theorem Jp{n:Nat}(h:n<=1000):n<=SZ:=by unfold SZ; lia
theorem RW{n:Nat}(h:n<=1000):n < SZ:=by unfold SZ; lia
noncomputable abbrev Rows:=List (List T3)
noncomputable def T3.s(p:T3):T2:=⟨p.a,p.b⟩
structure Dr(rows:Rows):Prop where
 nd:(rows.flatten.map T3.s).Nodup
 way:∀ p∈rows.flatten,p.b=0\/p.b=1
 hand:∀ p∈rows.flatten,p.c=1\/p.c=-1
 Dl:∀ p∈rows.flatten,(⟨p.a,1 - p.b,p.c⟩:T3)∈rows.flatten
 Aj:rows.flatten.length<=24
 str:rows.length<=3
namespace P
noncomputable def ft:mR:=R3 (fun rows:Rows=>rows.flatten.length<=1000) fun rows=>rows.flatten
noncomputable def pH:hV :=
 (cN (bQ (kj a8) (aP 1))
 (cN (fR (oT (ay 0)) (aP 2) (nA (yQ K3 we (ay 1) (av (ay 2) a8))))
 (c5 (dB (ay 1)))))
theorem qh(ds:List D)(G:Gp)(Q:DK)(h:ft ds G Q fun _ _=>False):pH (fun _ _=>False) (ends Q) (bF 3 ds) G:=by
 obtain⟨rows,rfl,hl,q⟩:=h;unfold pH;simp only [ends,bF,ak,bq,aj,aE,bc,az,aT,c9,bQ,kj,a8,aP,ar,ao];refine⟨by decide,fun p hp=>?_⟩;refine gf (fun τ G'=>(∃ b,τ=[some (enc rows),some (.ref p),b])/\fN G G'/\G' p=some (.lst (rows.flatten.map enc))) ?_ ?_
 ·intro N hN;simp only [fR,fJ,ay,aa];refine j4 ?_;refine eU (xs:=rows) (fun pre τ G'=>(∃ b,τ=[some (enc rows),some (.ref p),b])/\fN G G'/\G' p=some (.lst (pre.flatten.map enc))) ⟨⟨_,rfl⟩,.new hp,aJ⟩ (fun _ _ _ _=>trivial) ?_ ?_
  ·rintro pre r post τ G' N2 e ⟨⟨b,rfl⟩,l,gp⟩ qv;have hlen:pre.flatten.length+r.length<=rows.flatten.length:=by
    rw [e]; simp only [nE,eQ,aB]; lia
   simp only [aP,nA,yQ,ay,ar,ao,ae,aa,nQ,gp,av,a8,kc,tE (IsL.enc r),true_and];refine⟨Jp (by simp only [aC]; lia),?_⟩;refine qv _ _ ⟨⟨_,rfl⟩,l.put hp,?_⟩;rw [aJ]; simp
  ·rintro τ G' ⟨⟨b,rfl⟩,l,gp⟩;exact hN _ _ ⟨⟨_,rfl⟩,l,gp⟩
 ·rintro _ G' ⟨⟨b,rfl⟩,l,gp⟩;simp only [c5,dB,ay,ae,aa];exact og l hp gp q
theorem BE(p:T3):(enc p:D)=.tup [.int p.a,.int p.b,.int p.c]:=rfl
theorem Tj(p:T2):(enc p:D)=.tup [.int p.a,.int p.b]:=rfl
theorem wx(i:Int):(enc i:D)=.int i:=rfl
theorem Rz{a:D}{r:List D}:uf (a :: r) 0=some a:=by
 rw [qH _ (by lia) (by simp)]; rfl
theorem Ry{a b:D}{r:List D}:uf (a :: b :: r) 1=some b:=by
 rw [qH _ (by lia) (by simp; lia)]; rfl
theorem at2{a b c:D}{r:List D}:uf (a :: b :: c :: r) 2=some c:=by
 rw [qH _ (by lia) (by simp; lia)]; rfl
noncomputable def names(rows:Rows):List Int:=O7 ((rows.flatten.filter fun p=>p.b == 0).map (·.a))
noncomputable def fc:mR:=R3 (fun rows:Rows=>rows.flatten.length < 64) names
noncomputable def vw:hV :=
 (c5 (dB (uy uc (av (gy 1 [] (oT (bC ft (av (ay 0) a8))) (aP 0) (some (jy (bE (HD false) (bE lR (ay 0) (dC (.int 1))) (dC (.int 0))))) (bE lR (ay 0) (dC (.int 0)))) a8))))
theorem vN(ds:List D)(G:Gp)(Q:DK)(h:fc ds G Q fun _ _=>False):vw (fun _ _=>False) (ends Q) (bF 1 ds) G:=by
 obtain⟨rows,rfl,hl,q⟩:=h;unfold vw;simp only [c5,dB,uy,av,gy,bF,ak,bq,aj,aE,az,aT,a8,ends,fJ,bC,ay,aa];refine⟨rows,rfl,(show rows.flatten.length<=1000 by lia),j4 ⟨Jp (by rw [aC]; show rows.flatten.length<=1000; lia),?_⟩⟩;refine kl (xs:=rows.flatten) (fun pre acc τ G'=>G=G'/\(∃ a,τ=[a])/\acc=((pre.filter fun p=>p.b == 0).map (·.a)).map enc) ⟨rfl,⟨_,rfl⟩,rfl⟩ (fun _ _ _ _ _=>trivial) ?_ ?_
 ·rintro pre x post acc τ G' N e ⟨rfl,⟨a,rfl⟩,rfl⟩ hN;simp only [aP,BE,ao,bE,ay,aa,dC,gJ,Rz,eA,Ry];refine⟨_,_,.int _,.int _,?_⟩;simp only [aq,jU,if_false,cF];split
  ·rename_i h;refine hN _ _ _ ⟨rfl,⟨_,rfl⟩,?_⟩;simp [dN,bD,h,wx]
  ·rename_i h;refine hN _ _ _ ⟨rfl,⟨_,rfl⟩,?_⟩;simp [dN,bD,h]
 ·rintro acc τ G' ⟨rfl,⟨a,rfl⟩,rfl⟩ p hp;refine yn (IsL.ref aJ) (by rw [aC]; exact gm (dw _ _) hl) fun p2 qR=>?_;exact og ((fN.new hp).trans (.new qR)) ((fN.new hp).free qR) aJ q
noncomputable def handOf(rows:Rows)(n:Int):Int:=((rows.flatten.find? fun p=>p.a == n).map (·.c)).getD 0
noncomputable def fO:mR:=WU (fun (rows:Rows) (n:Int)=>rows.flatten.length<=1000/\∃ p∈rows.flatten,p.a=n) handOf
noncomputable def xf:hV :=
 (cN (fR (oT (bC ft (av (ay 0) a8))) (aP 2) (jV (jy (bE (HD false) (bE lR (ay 2) (dC (.int 0))) (ay 1))) (c5 (dB (bE lR (ay 2) (dC (.int 2))))) fB))
 N1)
theorem yE(ds:List D)(G:Gp)(Q:DK)(h:fO ds G Q fun _ _=>False):xf (fun _ _=>False) (ends Q) (bF 3 ds) G:=by
 obtain⟨rows,n,rfl,⟨hl,hn⟩,q⟩:=h;unfold xf;refine gf (fun τ G'=>False) ?_ (fun _ _ h=>h.elim);intro N hN;simp only [fR,bF,ak,bq,aj,aE,bc,az,aT,ends,fJ,bC,av,ay,aa,a8];refine⟨rows,rfl,hl,j4 ?_⟩;refine eU (xs:=rows.flatten) (fun pre τ G'=>G=G'/\(∃ a,τ=[some (enc rows),some (enc n),a])/\∀ p∈pre,p.a≠n) ⟨rfl,⟨_,rfl⟩,by simp⟩ (fun _ _ _ _=>trivial) ?_ ?_
 ·rintro pre x post τ G' N2 e ⟨rfl,⟨a,rfl⟩,hp⟩ qv;simp only [aP,jV,wx,BE,ar,ao,c5,dB,bE,ay,ae,aa,dC,gJ,at2,fB,eA,Rz];refine⟨_,_,.int _,.int _,?_⟩;simp only [aq,jU,if_false,cF];by_cases hx:x.a=n
  ·simp only [hx,beq_self_eq_true,if_true];refine c4 ?_;have:handOf rows n=x.c:=by
    unfold handOf;have:rows.flatten.find? (fun p=>p.a == n)=some x:=by
     rw [e,List.find?_append];have:pre.find? (fun p=>p.a == n)=none:=by
      rw [gk]; intro p ux; simpa using hp p ux
     rw [this];simp [hx]
    rw [this]; rfl
   rw [<-this]; exact q
  ·have:(x.a == n)=false:=by simpa using hx
   simp only [this,aq,if_false];refine qv _ _ ⟨rfl,⟨_,rfl⟩,fun p ux=>?_⟩;rcases List.mem_append.mp ux with h | h
   ·exact hp p h
   ·rw [List.mem_singleton.mp h]; exact hx
 ·rintro τ G' ⟨rfl,_,hp⟩;obtain⟨p,Yd,qR⟩:=hn;exact absurd qR (hp p Yd)
noncomputable def sH(row:List T3)(i:Int):List T2:=if row=[] then [⟨i,2⟩] else row.map T3.s
noncomputable def LQ:Rows->Nat->List T2
 | [],_=>[]
 | r :: rs,k=>sH r (k:Int)++LQ rs (k+1)
noncomputable def QN(rows:Rows):List T2:=O7 (LQ rows 0)
theorem YZ{a b c:D}:cut [a,b,c] none (some 2)=[a,b]:=rfl
theorem JR{α:Type} [DecidableEq α] [Enc α](xs:List α)(G:Gp):tF (enc xs) G=some (xs.map enc,fun _=>True):=rfl
theorem JQ{a:Nat}{ds:List D}{G:Gp}(h:G a=some (.lst ds)):tF (.ref a) G=some (ds,fun G2=>G2 a=some (.lst ds)):=by unfold tF; simp only [h]
theorem wR{α β:Type} [DecidableEq α] [Enc α] [DecidableEq β] [Enc β]:∀ (xs:List α) (ys:List β),nP (xs.map enc) (ys.map enc)=(xs.zip ys).map fun p=>D.tup [enc p.1,enc p.2]
 | [],ys=>by simp [nP]
 | x :: xs,[]=>by simp [nP]
 | x :: xs,y :: ys=>by simp [nP,wR xs ys]
theorem gO{κ α:Type} [DecidableEq κ] [Enc κ] [sd κ] [DecidableEq α] [Enc α]{a:Nat}{l:List (κ×α)}{k:κ}{v:α}{G:Gp}{Q:Gp->Prop}(h:G a=some (.gu (bB l)))(hl:l.length<=1000)(q:Q (eD G a (.gu (bB (ez l k v))))):wZ (.ref a) (enc k) (enc v) G Q:=by
 unfold wZ;simp only [h];refine⟨lE l k,?_,by rw [HG]; exact q⟩;unfold bB; rw [aC]; exact RW hl
noncomputable def ic(r:List T3):List T3:=r.drop 1++r.take 1
noncomputable def pairsOf(rows:Rows):List (T3×T3):=rows.flatMap fun r=>r.zip (ic r)
noncomputable def lC(ps:List (T3×T3)):List (T2×T2):=ps.foldl (fun l p=>ez l p.1.s p.2.s) []
theorem zN(ps:List (T3×T3)):(lC ps).length<=ps.length:=by
 have:∀ (ps:List (T3×T3)) (l:List (T2×T2)),(ps.foldl (fun l p=>ez l p.1.s p.2.s) l).length<=l.length+ps.length:=by
  intro ps;induction ps with
  | nil=>intro l; simp
  | cons p ps ih =>
   intro l;rw [cM,aj];have h1:=ih (ez l p.1.s p.2.s);have h2:=qe l p.1.s p.2.s;lia
 simpa [lC] using this ps []
theorem FC(ps:List (T3×T3))(p:T3×T3):lC (ps++[p])=ez (lC ps) p.1.s p.2.s:=by unfold lC; rw [kX]; rfl
noncomputable def lq:mR:=fun ds G Q _=>∃ rows:Rows,ds=[enc rows]/\rows.flatten.length<=500/\Q (.jY (bB (lC (pairsOf rows)))) G
theorem pairs_len(rows:Rows):(pairsOf rows).length<=rows.flatten.length:=by
 unfold pairsOf;induction rows with
 | nil=>simp
 | cons r rs ih=>simp only [eS,eQ,aB,ku]; lia
noncomputable def xb:hV :=
 (cN (bQ oo (aP 1))
 (cN (fR (oT (ay 0)) (aP 2) (fR (Nh (ay 2) (bE iN (EI (ay 2) (rm (dC (.int 1))) gX) (EI (ay 2) gX (rm (dC (.int 1)))))) (jf (dF (aP 3) (dF (aP 4) i6))) (bQ (EI (ay 4) gX (rm (dC (.int 2)))) (lI (ay 1) (EI (ay 3) gX (rm (dC (.int 2))))))))
 (c5 (dB (ay 1)))))
theorem yA(ds:List D)(G:Gp)(Q:DK)(h:lq ds G Q fun _ _=>False):xb (fun _ _=>False) (ends Q) (bF 5 ds) G:=by
 obtain⟨rows,rfl,hl,q⟩:=h;unfold xb;simp only [ends,bF,ak,bq,aj,aE,bc,az,aT,c9,bQ,oo,gv,aP,ar,ao];intro d hd;refine gf (fun τ G'=>(∃ a b c,τ=[some (enc rows),some (.ref d),a,b,c])/\fN G G'/\G' d=some (.gu (bB (lC (pairsOf rows))))) ?_ ?_
 ·intro N hN;simp only [fR,fJ,ay,aa];refine j4 ?_;refine eU (xs:=rows) (fun pre τ G'=>(∃ a b c,τ=[some (enc rows),some (.ref d),a,b,c])/\fN G G'/\G' d=some (.gu (bB (lC (pairsOf pre))))) ⟨⟨_,_,_,rfl⟩,.new hd,aJ⟩ (fun _ _ _ _=>trivial) ?_ ?_
  ·rintro pre r post τ G' N2 e ⟨⟨a,b,c,rfl⟩,l,gd⟩ qv;have hr:pre.flatten.length+r.length<=rows.flatten.length:=by
    rw [e]; simp only [nE,eQ,aB]; lia
   simp only [aP,fR,Nh,ay,ar,ao,ae,aa,bE,EI,gX,kh,dC,gE];refine A1 (IsL.enc r) fun p1 h1=>?_;refine A1 (IsL.enc r) fun p2 h2=>?_;have d1:d≠p1:=by rintro rfl; rw [gd] at h1; cases h1
   have l1:=l.trans (fN.new (o:=.lst (cut (r.map enc) (some 1) none)) h1);have d2:d≠p2:=by rintro rfl; rw [dR d1,gd] at h2; cases h2
   have h12:p1≠p2:=by rintro rfl; rw [aJ] at h2; cases h2
   refine wb (IsL.ref (by rw [dR h12,aJ])) (IsL.ref aJ) ?_ fun p3 h3=>?_
   ·rw [t7,t7,aC,aC];have e1:(cut r (some 1) none).length<=r.length:=by unfold cut; rw [c7,cx]; lia
    have e2:(cut r none (some 1)).length<=r.length:=by unfold cut; rw [c7,cx]; lia
    exact Jp (by lia)
   have d3:d≠p3:=by rintro rfl; rw [dR d2,dR d1,gd] at h3; cases h3
   have et:cut (r.map enc) (some 1) none++cut (r.map enc) none (some 1)=(ic r).map enc:=by
    rw [t7,t7,<-a9];congr 1;cases r with
    | nil=>rfl
    | cons x r=>rw [show (1:Int)=((1:Nat):Int) from rfl,Ea _ _ (by simp),N7 _ _ (by simp)]; rfl
   rw [et];generalize YF:eD (eD (eD G' p1 (.lst (cut (r.map enc) (some 1) none))) p2 (.lst (cut (r.map enc) none (some 1)))) p3 (.lst ((ic r).map enc))=G3;have g3:G3 p3=some (.lst ((ic r).map enc)):=by rw [<-YF,aJ]
   have gd3:G3 d=some (.gu (bB (lC (pairsOf pre)))):=by rw [<-YF,dR d3,dR d2,dR d1]; exact gd
   have l3:fN G G3:=by rw [<-YF]; exact(l1.trans (.new h2)).trans (.new h3)
   unfold rK;rw [JR,JQ g3];dsimp only;rw [wR];refine eU (xs:=r.zip (ic r)) (fun pp τ G'=>(∃ a b c,τ=[some (enc rows),some (.ref d),a,b,c])/\fN G G'/\G' d=some (.gu (bB (lC (pairsOf pre++pp))))/\G' p3=some (.lst ((ic r).map enc)))
    ⟨⟨_,_,_,rfl⟩,l3,by rw [cz]; exact gd3,g3⟩ (fun _ _ _ h=>⟨trivial,h.2.2.2⟩) ?_ ?_
   ·rintro pp x post τ G4 N3 e4 ⟨⟨a,b,c,rfl⟩,l4,YI,S8⟩ Ny;have hz:(pairsOf pre++pp).length<=1000:=by
     have:=pairs_len pre;have h5:pp.length < (r.zip (ic r)).length:=by rw [e4]; simp
     rw [ku] at h5;rw [aB]; lia
    simp only [jf,dF,aP,i6,bQ,EI,ay,BE,ar,ao,ae,aa,gX,lI,sT,aj,aE,kh,dC,gE,YZ];refine⟨by decide,by decide,?_⟩;refine gO (k:=x.1.s) (v:=x.2.s) YI (bu (zN _) hz) ?_;refine Ny _ _ ⟨⟨_,_,_,rfl⟩,l4.put hd,?_,by rw [dR (fT d3)]; exact S8⟩;rw [aJ,<-bK,FC]
   ·rintro τ G4 ⟨⟨a,b,c,rfl⟩,l4,YI,S8⟩;refine qv _ _ ⟨⟨_,_,_,rfl⟩,l4,?_⟩;have:pairsOf (pre++[r])=pairsOf pre++r.zip (ic r):=by unfold pairsOf; simp
    rw [this]; exact YI
  ·rintro τ G' ⟨⟨a,b,c,rfl⟩,l,gd⟩;exact hN _ _ ⟨⟨_,_,_,rfl⟩,l,gd⟩
 ·rintro _ G' ⟨⟨a,b,c,rfl⟩,l,gd⟩;simp only [c5,dB,ay,ae,aa];exact iH l hd gd q
noncomputable def XE(s:T2):T3:=⟨s.a,s.b,0⟩
noncomputable def WX(s:T2):T3:=⟨s.a,s.b,1⟩
noncomputable def R7(ss:List T2):List T3:=ss.flatMap fun s=>[XE s,WX s]
end P
end K2
end
section
set_option maxHeartbeats 1000000
namespace K2
namespace J
noncomputable def pt:Pr T3->T3->T3
 | [],e=>e
 | p :: r,e=>if e=p.1 then p.2 else if e=p.2 then p.1 else pt r e
theorem mi{P:Pr T3}{e:T3}(h:e∉es P):pt P e=e:=by
 induction P with
 | nil=>rfl
 | cons p r ih =>
  rw [es,aQ,aQ,not_or,not_or] at h;rw [pt,if_neg h.1,if_neg h.2.1,ih h.2.2]
theorem i4{P:Pr T3}(nd:(es P).Nodup){p:T3×T3}(h:p∈P):pt P p.1=p.2/\pt P p.2=p.1:=by
 induction P with
 | nil=>cases h
 | cons q r ih =>
  rw [es,aO,aO,aQ,not_or] at nd;rcases List.mem_cons.mp h with rfl | h
  ·refine⟨by rw [pt,if_pos rfl],?_⟩;rw [pt,if_neg (fun z=>nd.1.1 z.symm),if_pos rfl]
  ·obtain⟨a,b⟩:=ih nd.2.2 h;have m1:p.1∈es r:=kC.mpr ⟨p,h,.inl rfl⟩;have m2:p.2∈es r:=kC.mpr ⟨p,h,.inr rfl⟩;have ne:∀ e∈es r,e≠q.1/\e≠q.2:=fun e he=>⟨fun z=>nd.1.2 (z ▸ he),fun z=>nd.2.1 (z ▸ he)⟩;exact⟨by rw [pt,if_neg (ne _ m1).1,if_neg (ne _ m1).2,a],by rw [pt,if_neg (ne _ m2).1,if_neg (ne _ m2).2,b]⟩
theorem Md{P:Pr T3}(nd:(es P).Nodup){f:T3->T3}(h1:∀ p∈P,f p.1=p.2/\f p.2=p.1)(h2:∀ e,e∉es P->f e=e):pt P=f:=by
 funext e;by_cases he:e∈es P
 ·obtain⟨p,hp,z⟩:=kC.mp he;rcases z with rfl | rfl
  ·rw [(i4 nd hp).1,(h1 p hp).1]
  ·rw [(i4 nd hp).2,(h1 p hp).2]
 ·rw [mi he,h2 e he]
theorem wc{P P':Pr T3}(h:P.Perm P')(nd:(es P).Nodup):pt P=pt P':=by
 refine Md nd (fun p hp=>i4 ((j5 h).nodup_iff.mp nd) (h.mem_iff.mp hp)) fun e he=>mi fun z=>he ((j5 h).mem_iff.mpr z)
theorem Me{P:Pr T3}(nd:(es P).Nodup):Iv (pt P):=by
 intro e;by_cases he:e∈es P
 ·obtain⟨p,hp,z⟩:=kC.mp he;rcases z with rfl | rfl
  ·rw [(i4 nd hp).1,(i4 nd hp).2]
  ·rw [(i4 nd hp).2,(i4 nd hp).1]
 ·rw [mi he,mi he]
theorem QV{P:Pr T3}(nd:(es P).Nodup){p:T3×T3}(h:p∈P):p.1≠p.2:=by
 induction P with
 | nil=>cases h
 | cons q r ih =>
  rw [es,aO,aO,aQ,not_or] at nd;rcases List.mem_cons.mp h with rfl | h
  ·exact nd.1.1
  ·exact ih nd.2.2 h
theorem uM{P:Pr T3}(nd:(es P).Nodup){e:T3}:pt P e≠e↔e∈es P:=by
 refine⟨fun h=>fW fun z=>h (mi z),fun he=>?_⟩;obtain⟨p,hp,z⟩:=kC.mp he;rcases z with rfl | rfl
 ·rw [(i4 nd hp).1]; exact(QV nd hp).symm
 ·rw [(i4 nd hp).2]; exact QV nd hp
theorem Sh{P:Pr T3}(nd:(es P).Nodup)(h:∀ e,pt P e=e):P=[]:=by
 cases P with
 | nil=>rfl
 | cons p r=>exact absurd (h p.1) (uM nd |>.mpr (by simp [es]))
structure I0(l:List (T3×T3))(f:T3->T3):Prop where
 nd:(l.map (·.1)).Nodup
 at':∀ e,cH l e=if f e=e then none else some (f e)
theorem qf{κ β:Type} [DecidableEq κ]{l:List (κ×β)}{k j:κ}:cH (l.filter fun p=>decide (p.1≠k)) j=if j=k then none else cH l j:=by
 induction l with
 | nil=>simp [cH]
 | cons p r ih =>
  unfold cH at *;rw [bD];by_cases h:p.1=k
  ·rw [if_neg (by simp [h]),ih];by_cases hj:j=k
   ·rw [if_pos hj,if_pos hj]
   ·rw [if_neg hj,if_neg hj,ck (by simp [h]; exact fun z=>hj z.symm)]
  ·rw [if_pos (by simp [h])];by_cases Ve:p.1=j
   ·rw [cj (by simp [Ve]),cj (by simp [Ve]),if_neg (fun z=>h (Ve.trans z))]
   ·rw [ck (by simp [Ve]),ck (by simp [Ve]),ih]
noncomputable def BF(l:List (T3×T3))(k:T3):List (T3×T3):=l.filter fun p=>decide (p.1≠k)
theorem ow{κ β:Type} [DecidableEq κ]{l:List (κ×β)}{k:κ}{v:β}(h:(l.map (·.1)).Nodup):((ez l k v).map (·.1)).Nodup:=by
 unfold ez;split
 ·rw [br];have:(l.map ((fun x:κ×β=>x.1)∘fun p=>if p.1=k then (p.1,v) else p))=l.map (·.1):=by
   refine cZ fun p _=>?_;show (if p.1=k then (p.1,v) else p).1=p.1;split <;> rfl
  rw [this]; exact h
 ·rename_i hk;rw [a9,eP];refine⟨h,by simp,fun a ha b hb z=>?_⟩;rw [List.map_singleton,cT] at hb;obtain⟨p,hp,e⟩:=List.mem_map.mp ha;exact hk (List.any_eq_true.mpr ⟨p,hp,by simp; rw [e,z,hb]⟩)
theorem I0.join{l:List (T3×T3)}{f:T3->T3}(h:I0 l f)(iv:Iv f){x y:T3}(xy:x≠y)(hx:f x≠x)(hy:f y≠y) :
  cH l x=some (f x)/\cH (BF l x) y=some (f y)/\(f x=y->I0 (BF (BF l x) y) (jn f x y))/\(f x≠y->I0 (ez (ez (BF (BF l x) y) (f x) (f y)) (f y) (f x)) (jn f x y)):=by
 have a1:cH l x=some (f x):=by rw [h.at',if_neg hx]
 have a2:cH (BF l x) y=some (f y):=by unfold BF; rw [qf,if_neg (fun z=>xy z.symm),h.at',if_neg hy]
 have V9:((BF (BF l x) y).map (·.1)).Nodup:=lS (kA _ (List.filter_sublist.trans jE)) h.nd;have d2:∀ e,cH (BF (BF l x) y) e=if e=x\/e=y then none else if f e=e then none else some (f e):=fun e=>by
  unfold BF;rw [qf,qf,h.at']
  grind
 have ix:=iv x;have iy:=iv y;refine⟨a1,a2,fun e=>⟨V9,fun z=>?_⟩,fun e=>⟨ow (ow V9),fun z=>?_⟩⟩
 ·have iz:=iv z;rw [d2];unfold jn
  grind (splits:=30)
 ·have iz:=iv z;rw [qJ,qJ,d2];unfold jn
  grind (splits:=30)
end J
end K2
end
section
namespace K2
namespace Y
noncomputable abbrev Po:=List (Int×Int)
noncomputable def ND(l:Po):Prop:=(l.map (·.1)).Nodup
noncomputable def c0(l:Po)(k:Int):Int:=(cH l k).getD 0
noncomputable def fI(l:Po):Po:=l.filter fun p=>p.2 != 0
noncomputable def plus(a:Po)(p:Int×Int):Po:=ez a p.1 (c0 a p.1+p.2)
noncomputable def rh(l m:Po):Po:=m.foldl plus l
noncomputable def vR(l m:Po):Po:=fI (rh l m)
noncomputable def mZ(m:Po)(a:Po)(p:Int×Int):Po:=m.foldl (fun a q=>plus a (p.1+q.1,p.2 * q.2)) a
noncomputable def mf(l m:Po):Po:=l.foldl (mZ m) []
noncomputable def iG(l m:Po):Po:=fI (mf l m)
noncomputable def ju(l:Po)(by_ f:Int):Po:=fI (l.map fun p=>(p.1+by_,p.2 * f))
noncomputable def dD(l:Po):Nat->Po
 | 0=>[(0,1)]
 | n+1=>iG (dD l n) l
theorem kn{κ β:Type} [DecidableEq κ]{l:List (κ×β)}{k:κ}{v:β}(h:k∉l.map (·.1)):ez l k v=l++[(k,v)]:=by
 unfold ez;rw [if_neg];intro q;obtain⟨p,h1,h2⟩:=List.any_eq_true.mp q;exact h (List.mem_map.mpr ⟨p,h1,by simpa using h2⟩)
theorem yt{κ β:Type} [DecidableEq κ]{l:List (κ×β)}{k:κ}{v:β}(h:k∈l.map (·.1)):ez l k v=l.map (fun p=>if p.1=k then (p.1,v) else p):=by
 unfold ez;rw [if_pos];obtain⟨p,h1,h2⟩:=List.mem_map.mp h;exact List.any_eq_true.mpr ⟨p,h1,by simpa using h2⟩
theorem Kw{κ β:Type} [DecidableEq κ](l:List (κ×β))(k:κ)(v:β):(ez l k v).map (·.1)=if k∈l.map (·.1) then l.map (·.1) else l.map (·.1)++[k]:=by
 split
 ·rename_i h;rw [yt h,br];refine cZ fun p _=>?_;show (if p.1=k then (p.1,v) else p).1=p.1;split <;> rfl
 ·rename_i h;rw [kn h,a9]; rfl
theorem ND.put{l:Po}(h:ND l)(k v:Int):ND (ez l k v):=by
 unfold ND;rw [Kw];split
 ·exact h
 ·rename_i hk;rw [eP];exact⟨h,by simp,fun a ha b hb=>by rw [cT] at hb; subst hb; intro z; exact hk (z ▸ ha)⟩
theorem ND.nil:ND []:=cE
theorem ND.one(k v:Int):ND [(k,v)]:=by unfold ND; simp
theorem ND.tail{p:Int×Int}{l:Po}(h:ND (p :: l)):ND l:=by unfold ND at *; rw [ak,aO] at h; exact h.2
theorem ND.head{p:Int×Int}{l:Po}(h:ND (p :: l)):p.1∉l.map (·.1):=by unfold ND at *; rw [ak,aO] at h; exact h.1
theorem ND.fI{l:Po}(h:ND l):ND (fI l):=by
 unfold ND Y.fI at *;exact lS (kA _ jE) h
theorem qp{l:Po}(h:ND l)(p:Int×Int):ND (plus l p):=h.put _ _
theorem tW{α:Type}(f:Po->α->Po)(hf:∀ a x,ND a->ND (f a x)):∀ (xs:List α) (a:Po),ND a->ND (xs.foldl f a)
 | [],_,h=>h
 | x :: xs,a,h=>tW f hf xs _ (hf a x h)
theorem C4{l m:Po}(h:ND l):ND (rh l m):=tW _ (fun a x h=>qp h x) m l h
theorem A6{m a:Po}(h:ND a)(p:Int×Int):ND (mZ m a p):=tW _ (fun a x h=>qp h _) m a h
theorem xl(l m:Po):ND (mf l m):=tW _ (fun a x h=>A6 h x) l [] .nil
theorem PD{l m:Po}(h:ND l):ND (vR l m):=(C4 h).fI
theorem uL(l m:Po):ND (iG l m):=(xl l m).fI
theorem CC{l:Po}(h:ND l)(b f:Int):ND (l.map fun p=>(p.1+b,p.2 * f)):=by
 unfold ND at *;rw [br];have:(l.map ((fun x:Int×Int=>x.1)∘fun p=>(p.1+b,p.2 * f)))=(l.map (·.1)).map (· + b):=by rw [br]; rfl
 rw [this];exact List.Pairwise.map _ (fun a c hac z=>hac (by lia)) h
theorem JE{l:Po}(h:ND l)(b f:Int):ND (ju l b f):=(CC h b f).fI
theorem uN(l:Po):∀ n,ND (dD l n)
 | 0=>.one _ _
 | n+1=>uL _ _
theorem C0(l:Po)(p:Int×Int):(plus l p).length<=l.length+1:=by unfold plus ez; split <;> simp
theorem qz{α:Type}(f:Po->α->Po)(c:Nat)(hf:∀ a x,(f a x).length<=a.length+c):∀ (xs:List α) (a:Po),(xs.foldl f a).length<=a.length+xs.length * c
 | [],a=>by simp
 | x :: xs,a=>by
  have:=qz f c hf xs (f a x);have:=hf a x;rw [cM,aj,Nat.succ_mul]; lia
theorem zL(l m:Po):(rh l m).length<=l.length+m.length:=by
 have:=qz plus 1 C0 m l;unfold rh; lia
theorem CZ(m a:Po)(p:Int×Int):(mZ m a p).length<=a.length+m.length:=by
 have:=qz (fun a q=>plus a (p.1+q.1,p.2 * q.2)) 1 (fun a q=>C0 a _) m a;unfold mZ; lia
theorem pN(l m:Po):(mf l m).length<=l.length * m.length:=by
 have:=qz (mZ m) m.length (fun a p=>CZ m a p) l [];simpa [mf] using this
theorem uP(l:Po):(fI l).length<=l.length:=dw _ _
theorem xk(l m:Po):(iG l m).length<=l.length * m.length:=bu (uP _) (pN l m)
theorem rC(l:Po):∀ n,(dD l n).length<=l.length ^ n
 | 0=>by simp [dD]
 | n+1=>bu (xk _ _) (by rw [OQ]; exact jl _ (rC l n))
noncomputable def L(g:Int->Int):Po->Int
 | []=>0
 | p :: l=>p.2 * g p.1+L g l
theorem Er(g:Int->Int):∀ (l m:Po),L g (l++m)=L g l+L g m
 | [],m=>by simp [L]
 | p :: l,m=>by rw [az,L,L,Er g l m]; lia
theorem AF{l:Po}{k:Int}(h:k∉l.map (·.1)):cH l k=none:=by
 unfold cH;have:l.find? (fun p=>decide (p.1=k))=none:=by
  rw [gk];intro p hp z;exact h (List.mem_map.mpr ⟨p,hp,by simpa using z⟩)
 rw [this]; rfl
theorem BQ{p:Int×Int}{l:Po}{k:Int}:c0 (p :: l) k=if p.1=k then p.2 else c0 l k:=by
 unfold c0 cH;rw [dQ];by_cases h:p.1=k <;> simp [h]
theorem AH(g:Int->Int)(k v:Int):∀ (l:Po),ND l->k∈l.map (·.1)->L g (l.map fun p=>if p.1=k then (p.1,v) else p)=L g l+(v - c0 l k) * g k
 | [],_,h=>by cases h
 | p :: l,hn,h=>by
  rw [ak,BQ];by_cases e:p.1=k
  ·rw [if_pos e,if_pos e,L,L];have:l.map (fun p=>if p.1=k then (p.1,v) else p)=l:=by
    conv=>rhs; rw [<-kW l]
    refine cZ fun q hq=>?_;rw [if_neg]; rfl;intro z; exact hn.head (by rw [e,<-z]; exact bI hq)
   rw [this];show v * g p.1+L g l=_;rw [e,Int.sub_mul]; lia
  ·rw [if_neg e,if_neg e,L,L,AH g k v l hn.tail (by
    rw [ak,aQ] at h;rcases h with h | h
    ·exact absurd h.symm e
    ·exact h)]
   lia
theorem VR(g:Int->Int){l:Po}(hn:ND l)(k v:Int):L g (ez l k v)=L g l+(v - c0 l k) * g k:=by
 by_cases h:k∈l.map (·.1)
 ·rw [yt h]; exact AH g k v l hn h
 ·rw [kn h,Er];have:c0 l k=0:=by unfold c0; rw [AF h]; rfl
  rw [this];simp [L]
theorem Ou(g:Int->Int){l:Po}(hn:ND l)(p:Int×Int):L g (plus l p)=L g l+p.2 * g p.1:=by
 unfold plus;rw [VR g hn];congr 1;rw [show c0 l p.1+p.2 - c0 l p.1=p.2 by lia]
theorem wC(g:Int->Int):∀ (l:Po),L g (fI l)=L g l
 | []=>rfl
 | p :: l=>by
  have ih:=wC g l;unfold fI at *;rw [bD];by_cases h:p.2=0
  ·rw [if_neg (by simp [h]),ih,L,h]; simp
  ·rw [if_pos (by simp [h]),L,L,ih]
theorem Ov(g:Int->Int):∀ (m l:Po),ND l->L g (m.foldl plus l)=L g l+L g m
 | [],l,_=>by simp [L]
 | p :: m,l,h=>by
  rw [cM,Ov g m _ (qp h p),Ou g h,L]; lia
theorem TG(g:Int->Int){l:Po}(h:ND l)(m:Po):L g (vR l m)=L g l+L g m:=by
 unfold vR rh; rw [wC,Ov g m l h]
theorem Ot(g:Int->Int)(p:Int×Int):∀ (m a:Po),ND a->L g (mZ m a p)=L g a+p.2 * L (fun j=>g (p.1+j)) m
 | [],a,_=>by simp [mZ,L]
 | q :: m,a,h=>by
  have ih:=Ot g p m (plus a (p.1+q.1,p.2 * q.2)) (qp h _);unfold mZ at *;rw [cM,ih,Ou g h,L,rB];show L g a+p.2 * q.2 * g (p.1+q.1)+_=_;rw [Lr]; lia
theorem Ep(g:Int->Int)(l m:Po):L g (iG l m)=L (fun i=>L (fun j=>g (i+j)) m) l:=by
 unfold iG mf;rw [wC];have:∀ (l a:Po),ND a->L g (l.foldl (mZ m) a)=L g a+L (fun i=>L (fun j=>g (i+j)) m) l:=by
  intro l;induction l with
  | nil=>intro a _; simp [L]
  | cons p l ih =>
   intro a h;rw [cM,ih _ (A6 h p),Ot g p m a h,L]; lia
 rw [this l [] .nil]; simp [L]
theorem vO(g:Int->Int)(b f:Int):∀ (l:Po),L g (l.map fun p=>(p.1+b,p.2 * f))=f * L (fun i=>g (i+b)) l
 | []=>by simp [L]
 | p :: l=>by
  rw [ak,L,vO g b f l,L,rB];congr 1;show p.2 * f * g (p.1+b)=f * (p.2 * g (p.1+b));rw [Int.mul_comm p.2 f,Lr]
theorem Oq(g:Int->Int)(b f:Int)(l:Po):L g (ju l b f)=f * L (fun i=>g (i+b)) l:=by
 unfold ju; rw [wC,vO]
theorem RC(g h:Int->Int):∀ (l:Po),L (fun i=>g i+h i) l=L g l+L h l
 | []=>rfl
 | p :: l=>by rw [L,L,L,RC g h l,rB]; lia
theorem Oe{l:Po}{k:Int}(h:k∉l.map (·.1)):c0 l k=0:=by unfold c0; rw [AF h]; rfl
theorem IZ{l:Po}(hn:ND l)(k:Int):L (fun i=>if i=k then 1 else 0) l=c0 l k:=by
 induction l with
 | nil=>rfl
 | cons p l ih =>
  rw [L,ih hn.tail,BQ];by_cases h:p.1=k
  ·have:c0 l k=0:=Oe (h ▸ hn.head);simp [h,this]
  ·simp [h]
noncomputable def NZ(l:Po):Prop:=∀ p∈l,p.2≠0
theorem C3(l:Po):NZ (fI l):=fun p h=>by
 have:=(List.mem_filter.mp h).2;simpa using this
theorem yu{l:Po}(hn:ND l){p:Int×Int}(h:p∈l):cH l p.1=some p.2:=by
 induction l with
 | nil=>cases h
 | cons q l ih =>
  unfold cH;rw [dQ];rcases List.mem_cons.mp h with rfl | h
  ·simp
  ·have:q.1≠p.1:=fun z=>hn.head (by rw [z]; exact bI h);simp only [this,decide_false];exact ih hn.tail h
theorem Of{l:Po}(hn:ND l){p:Int×Int}(h:p∈l):c0 l p.1=p.2:=by unfold c0; rw [yu hn h]; rfl
theorem MG{l:Po}{k:Int}(h:c0 l k≠0):(k,c0 l k)∈l:=by
 unfold c0 at *;unfold cH at *;cases q:l.find? (fun p=>decide (p.1=k)) with
 | none=>rw [q] at h; exact absurd rfl h
 | some p =>
  have h1:=uu q;have h2:=jB q;simp at h1;simp only [sf,qM];rw [<-h1]; exact h2
theorem gP:∀ (xs ys:List Int),xs.Nodup->(∀ x∈xs,x∈ys)->xs.length<=ys.length
 | [],_,_,_=>cB _
 | x :: xs,ys,hn,h=>by
  rw [aO] at hn;have:=gP xs (ys.erase x) hn.2 fun y hy=>(OS (show y≠x from fun z=>hn.1 (by rw [<-z]; exact hy))).mpr (h y (aL _ hy));have hx:=h x (by simp);rw [Jf hx] at this;have:=Lp hx;rw [aj]; lia
theorem sub_len{l m:Po}(hl:ND l)(zl:NZ l)(h:∀ k,c0 l k=c0 m k):l.length<=m.length:=by
 have:=gP (l.map fun p:Int×Int=>p.1) (m.map fun p:Int×Int=>p.1) hl fun k hk=>by
  obtain⟨p,hp,rfl⟩:=List.mem_map.mp hk;have h1:c0 m p.1≠0:=by rw [<-h,Of hl hp]; exact zl p hp
  exact bI (f:=(·.1)) (MG h1)
 simpa using this
theorem Qe{l m:Po}(hl:ND l)(hm:ND m)(zl:NZ l)(zm:NZ m)(h:∀ k,c0 l k=c0 m k):u7 l m=true:=by
 unfold u7;rw [aH];refine⟨?_,List.all_eq_true.mpr fun p hp=>?_⟩
 ·have h1:=sub_len hl zl h;have h2:=sub_len hm zm fun k=>(h k).symm;simpa using Nat.le_antisymm h1 h2
 ·have h1:c0 m p.1=p.2:=by rw [<-h,Of hl hp]
  have h2:c0 m p.1≠0:=by rw [h1]; exact zl p hp
  have:=yu hm (MG h2);rw [h1] at this;simp only at this;rw [this]; simp
theorem NP{l m:Po}(hl:ND l)(hm:ND m)(zl:NZ l)(zm:NZ m)(h:∀ g,L g l=L g m):u7 l m=true :=
 Qe hl hm zl zm fun k=>by rw [<-IZ hl,<-IZ hm,h]
noncomputable def fi:Po->Nat
 | []=>0
 | p :: l=>p.2.natAbs+fi l
theorem xx:∀ (l m:Po),fi (l++m)=fi l+fi m
 | [],m=>by simp [fi]
 | p :: l,m=>by rw [az,fi,fi,xx l m]; lia
theorem Bc{l:Po}{p:Int×Int}(h:p∈l):p.2.natAbs<=fi l:=by
 induction l with
 | nil=>cases h
 | cons q l ih =>
  rw [fi];rcases List.mem_cons.mp h with rfl | h
  ·lia
  ·have:=ih h; lia
theorem vE(k v:Int):∀ (l:Po),ND l->k∈l.map (·.1)->fi (l.map fun p=>if p.1=k then (p.1,v) else p)+(c0 l k).natAbs=fi l+v.natAbs
 | [],_,h=>by cases h
 | p :: l,hn,h=>by
  rw [ak,BQ];by_cases e:p.1=k
  ·rw [if_pos e,if_pos e,fi,fi];have:l.map (fun p=>if p.1=k then (p.1,v) else p)=l:=by
    conv=>rhs; rw [<-kW l]
    refine cZ fun q hq=>?_;rw [if_neg]; rfl;intro z; exact hn.head (by rw [e,<-z]; exact bI hq)
   rw [this];show v.natAbs+fi l+_=_;lia
  ·have:=vE k v l hn.tail (by
    rw [ak,aQ] at h;rcases h with h | h
    ·exact absurd h.symm e
    ·exact h)
   rw [if_neg e,if_neg e,fi,fi];lia
theorem C9{l:Po}(hn:ND l)(p:Int×Int):fi (plus l p)<=fi l+p.2.natAbs:=by
 unfold plus;by_cases h:p.1∈l.map (·.1)
 ·rw [yt h];have:=vE p.1 (c0 l p.1+p.2) l hn h;have:=Int.natAbs_add_le (c0 l p.1) p.2;lia
 ·rw [kn h,xx,Oe h];simp [fi]
theorem uR(l:Po):fi (fI l)<=fi l:=by
 induction l with
 | nil=>exact aF _
 | cons p l ih =>
  unfold fI at *;rw [bD];split
  ·rw [fi,fi]; lia
  ·rw [fi]; lia
theorem C8(p:Int×Int):∀ (m a:Po),ND a->fi (mZ m a p)<=fi a+p.2.natAbs * fi m
 | [],a,_=>by simp [mZ,fi]
 | q :: m,a,h=>by
  have ih:=C8 p m (plus a (p.1+q.1,p.2 * q.2)) (qp h _);have:=C9 h (p.1+q.1,p.2 * q.2);unfold mZ at *;rw [cM,fi,Nat.mul_add];have e:(p.2 * q.2).natAbs=p.2.natAbs * q.2.natAbs:=Int.natAbs_mul _ _;simp only at this;lia
theorem rF(l m:Po):fi (iG l m)<=fi l * fi m:=by
 refine bu (uR _) ?_;unfold mf;have:∀ (l a:Po),ND a->fi (l.foldl (mZ m) a)<=fi a+fi l * fi m:=by
  intro l;induction l with
  | nil=>intro a _; simp [fi]
  | cons p l ih =>
   intro a h;rw [cM];have h1:=ih _ (A6 (m:=m) h p);have h2:=C8 p m a h;rw [fi,Nat.add_mul]; lia
 have:=this l [] .nil;simpa [fi] using this
theorem nX(l:Po):∀ n,fi (dD l n)<=fi l ^ n
 | 0=>by simp [dD,fi]
 | n+1=>bu (rF _ _) (by rw [OQ]; exact jl _ (nX l n))
theorem Dc:∀ (m l:Po),ND l->fi (m.foldl plus l)<=fi l+fi m
 | [],l,_=>by simp [fi]
 | p :: m,l,h=>by
  have h1:=Dc m _ (qp h p);have h2:=C9 h p;rw [cM,fi]; lia
theorem Mu{l:Po}(h:ND l)(m:Po):fi (vR l m)<=fi l+fi m:=bu (uR _) (Dc m l h)
theorem JH(l:Po):∀ n,NZ (dD l n)
 | 0=>fun p h=>by
  simp only [dD,cT] at h;subst h; decide
 | n+1=>C3 _
end Y
end K2
end
section
namespace K2
open PySem (Str)
open Enc (enc)
class inductive Cn {α:Type} (ps:List (α×α)):α->α->Prop
 | refl (x:α):Cn ps x x
 | pair {x y:α}:(x,y)∈ps->Cn ps x y
 | symm {x y:α}:Cn ps x y->Cn ps y x
 | trans {x y z:α}:Cn ps x y->Cn ps y z->Cn ps x z
class B1 (α:Type) [DecidableEq α] [Enc α] [bo α] where
 mn:∀ {x:D} {G:Gp} {xs:List α} {Q:DK},itemsOf x G=some (xs.map enc)->xs≠[]->(∀ m∈xs,(∀ y∈xs,K7 m y=true)->Q (enc m) G)->Y1 [x] G Q
theorem lJ{α:Type} [DecidableEq α] [Enc α] [bo α]:∀ (r:List α) (a:α),r.foldl (fun m x=>if bo.lt x m=true then x else m) a∈a :: r/\∀ y∈a :: r,K7 (r.foldl (fun m x=>if bo.lt x m=true then x else m) a) y=true
 | [],a=>⟨by simp,fun y hy=>by rw [List.mem_singleton.mp hy]; unfold K7; rw [List.foldl_nil,bo.FQ]; rfl⟩
 | b :: r,a=>by
  rw [cM];by_cases c:bo.lt b a=true
  ·rw [if_pos c];obtain⟨h1,h2⟩:=lJ r b;refine⟨aL _ h1,fun y hy=>?_⟩;rcases List.mem_cons.mp hy with rfl | hy
   ·refine zV _ _ _ (h2 b (by simp)) ?_;unfold K7;cases q:bo.lt y b with
    | false=>rfl
    | true=>have:=bo.trans _ _ _ q c; rw [bo.FQ] at this; cases this
   ·exact h2 y hy
  ·rw [if_neg c];obtain⟨h1,h2⟩:=lJ r a;refine⟨?_,fun y hy=>?_⟩
   ·rcases List.mem_cons.mp h1 with h | h
    ·rw [h]; simp
    ·exact aL _ (aL _ h)
   ·rcases List.mem_cons.mp hy with rfl | hy
    ·exact h2 y (by simp)
    ·rcases List.mem_cons.mp hy with rfl | hy
     ·refine zV _ _ _ (h2 a (by simp)) ?_;unfold K7; simpa using c
     ·exact h2 y (aL _ hy)
noncomputable instance:B1 Int where
 mn:=by
  intro x G xs Q hi B8 k;cases xs with
  | nil=>exact absurd rfl B8
  | cons a r =>
   obtain⟨h1,h2⟩:=lJ r a;refine .inl ⟨a :: r,_,hi,rfl,?_⟩;have:(fun (m x:Int)=>if x < m then x else m)=fun m x=>if bo.lt x m=true then x else m:=by
    funext m x;show (if x < m then x else m)=if decide (x < m)=true then x else m
    simp
   show Q (enc (r.foldl (fun m x=>if x < m then x else m) a)) G;rw [this];exact k _ h1 h2
theorem rG:∀ (x y:List Int),rH (fun a b=>decide (a < b)) x y=lexLt x y
 | [],[]=>rfl
 | [],_ :: _=>rfl
 | _ :: _,[]=>rfl
 | a :: x,b :: y=>by simp only [uU,lexLt,rG x y]
noncomputable instance:B1 T3 where
 mn:=by
  intro x G xs Q hi B8 k;cases xs with
  | nil=>exact absurd rfl B8
  | cons a r =>
   obtain⟨h1,h2⟩:=lJ r a;have ei:itemsOf x G=some (((a :: r).map T3.l).map tI):=by rw [hi,br]; rfl
   refine .inr ⟨(a :: r).map T3.l,_,ei,rfl,?_⟩;have:∀ (r:List T3) (a:T3),(r.map T3.l).foldl (fun m x=>if lexLt x m=true then x else m) a.l=(r.foldl (fun m x=>if bo.lt x m=true then x else m) a).l:=by
    intro r;induction r with
    | nil=>intro a; rfl
    | cons b r ih =>
     intro a;rw [ak,cM,cM];have e:(if lexLt b.l a.l=true then b.l else a.l)=(if bo.lt b a=true then b else a).l:=by
      have:bo.lt b a=lexLt b.l a.l:=rG _ _;rw [this];split <;> rfl
     rw [e]; exact ih _
   rw [this r a];exact k _ h1 h2
namespace P
section
variable {α:Type} [DecidableEq α] [Enc α] [bo α] [sd α] [B1 α]
structure GI(ms:List α)(ps:List (α×α))(l:List (α×List α)):Prop where
 len:l.length<=64
 at':∀ m∈ms,∃ g,cH l m=some g/\g.Nodup/\∀ x,x∈g↔Cn ps m x
end
end P
end K2
end
section
namespace K2
open PySem (Str)
open Enc (enc)
namespace P
theorem kn{κ β:Type} [DecidableEq κ]{l:List (κ×β)}{k:κ}{v:β}(h:k∉l.map (·.1)):ez l k v=l++[(k,v)]:=by
 unfold ez;rw [if_neg];intro q;obtain⟨p,h1,h2⟩:=List.any_eq_true.mp q;exact h (List.mem_map.mpr ⟨p,h1,by simpa using h2⟩)
theorem DM{κ β γ:Type} [DecidableEq κ](kf:γ->κ)(vf:γ->β):∀ (ps:List γ) (l:List (κ×β)),(l.map (·.1)++ps.map kf).Nodup->ps.foldl (fun l p=>ez l (kf p) (vf p)) l=l++ps.map fun p=>(kf p,vf p)
 | [],l,_=>by simp
 | p :: ps,l,h=>by
  rw [cM,kn (fun z=>by
   rw [ak,eP] at h;exact h.2.2 _ z _ (by simp) rfl),DM kf vf ps _ (by simpa using h)]
  simp
theorem vj(r:List T3):(ic r).length=r.length:=by unfold ic; rw [aB,cx,c7]; lia
theorem AS(r:List T3):(ic r).Perm r:=by
 unfold ic;exact List.perm_append_comm.trans (by rw [uq])
theorem nj(rows:Rows):(pairsOf rows).map (·.1)=rows.flatten:=by
 unfold pairsOf;induction rows with
 | nil=>rfl
 | cons r rs ih =>
  rw [eS,a9,ih,eQ];congr 1;rw [List.map_fst_zip]; rw [vj]; exact aF _
theorem ni(rows:Rows):((pairsOf rows).map (·.2)).Perm rows.flatten:=by
 unfold pairsOf;induction rows with
 | nil=>exact .refl _
 | cons r rs ih =>
  rw [eS,a9,eQ];refine List.Perm.append ?_ ih;rw [List.map_snd_zip]
  ·exact AS r
  ·rw [vj]; exact aF _
variable {rows:Rows}
theorem NF(d:Dr rows):((pairsOf rows).map fun p=>p.1.s).Nodup:=by
 have:((pairsOf rows).map fun p=>p.1.s)=rows.flatten.map T3.s:=by rw [<-nj,br]; rfl
 rw [this]; exact d.nd
theorem R5(d:Dr rows):((pairsOf rows).map fun p=>p.2.s).Nodup:=by
 have:((pairsOf rows).map fun p=>p.2.s)=((pairsOf rows).map (·.2)).map T3.s:=by rw [br]; rfl
 rw [this,((ni rows).map T3.s).nodup_iff]; exact d.nd
theorem ME(d:Dr rows):lC (pairsOf rows)=(pairsOf rows).map fun p=>(p.1.s,p.2.s):=by
 unfold lC;rw [DM (fun p:T3×T3=>p.1.s) (fun p=>p.2.s) _ _ (by simpa using NF d)]; rfl
noncomputable def V2(rows:Rows)(s:T2):T3:=(rows.flatten.find? fun p=>decide (p.s=s)).getD ⟨0,0,0⟩
noncomputable def nxt(rows:Rows)(s:T2):T2:=(cH ((pairsOf rows).map fun p=>(p.1.s,p.2.s)) s).getD s
noncomputable def cmg(rows:Rows)(s:T2):T2:=(cH ((pairsOf rows).map fun p=>(p.2.s,p.1.s)) s).getD s
noncomputable def mt(p:T3):T2:=⟨p.a,1 - p.b⟩
noncomputable def fst(p:T3):Bool:=decide (p.b=0) == decide (p.c=1)
theorem HQ(d:Dr rows){p:T3}(h:p∈rows.flatten):V2 rows p.s=p:=by
 unfold V2;cases q:rows.flatten.find? (fun x=>decide (x.s=p.s)) with
 | none=>rw [gk] at q; exact absurd (by simp) (q p h)
 | some x =>
  have h1:=uu q;have h2:=jB q;have h1:x.s=p.s:=by simpa using h1
  have:∀ (L:List T3),(L.map T3.s).Nodup->x∈L->p∈L->x=p:=by
   intro L;induction L with
   | nil=>intro _ h; cases h
   | cons y L ih =>
    intro hn hx hp;rw [ak,aO] at hn;rcases List.mem_cons.mp hx with e1 | ZS
    ·rcases List.mem_cons.mp hp with e2 | qR
     ·rw [e1,e2]
     ·exact absurd (by rw [<-e1,h1]; exact bI qR) hn.1
    ·rcases List.mem_cons.mp hp with e2 | qR
     ·exact absurd (by rw [<-e2,<-h1]; exact bI ZS) hn.1
     ·exact ih hn.2 ZS qR
  exact this _ d.nd h2 h
theorem Nv{p:T3}(h:p∈rows.flatten):∃ q,(p,q)∈pairsOf rows/\q∈rows.flatten:=by
 rw [<-nj] at h;obtain⟨x,hx,rfl⟩:=List.mem_map.mp h;exact⟨x.2,hx,(ni rows).mem_iff.mp (bI hx)⟩
theorem Nu{q:T3}(h:q∈rows.flatten):∃ p,(p,q)∈pairsOf rows/\p∈rows.flatten:=by
 rw [<-(ni rows).mem_iff] at h;obtain⟨x,hx,rfl⟩:=List.mem_map.mp h;exact⟨x.1,hx,by rw [<-nj]; exact bI hx⟩
noncomputable def om(p:T3):T3:=⟨p.a,1 - p.b,p.c⟩
theorem UJ(d:Dr rows){p:T3}(h:p∈rows.flatten):om p∈rows.flatten:=d.Dl p h
noncomputable def step(rows:Rows)(x:T3):T3 :=
 if x.b=2 then x else
 let al:=decide (x.c=0)
 let p:=if al=true then V2 rows (nxt rows x.s) else V2 rows x.s
 if (fst p == al)=true then XE (mt p) else WX (cmg rows (mt p))
theorem k8{n:Int}:n∈names rows↔∃ p∈rows.flatten,p.b=0/\p.a=n:=by
 unfold names;rw [O6,List.mem_map];constructor
 ·rintro⟨p,h,rfl⟩;obtain⟨h1,h2⟩:=List.mem_filter.mp h;exact⟨p,h1,by simpa using h2,rfl⟩
 ·rintro⟨p,h1,h2,rfl⟩;exact⟨p,List.mem_filter.mpr ⟨h1,by simpa using h2⟩,rfl⟩
theorem wu(d:Dr rows){p:T3}(h:p∈rows.flatten):handOf rows p.a=p.c:=by
 unfold handOf;cases q:rows.flatten.find? (fun x=>x.a == p.a) with
 | none=>rw [gk] at q; exact absurd (by simp) (q p h)
 | some x =>
  have h1:x.a=p.a:=by simpa using uu q
  have h2:=jB q;show x.c=p.c;have hw:=d.way p h;have Wd:=d.way x h2;by_cases e:x.b=p.b
  ·have:x.s=p.s:=by unfold T3.s; rw [h1,e]
   have e1:=HQ d h2;rw [this,HQ d h] at e1;rw [e1]
  ·have:(om x).s=p.s:=by unfold T3.s om; rw [h1]; congr 1; dsimp only; lia
   have e1:=HQ d (UJ d h2);rw [this,HQ d h] at e1;rw [e1]; rfl
end P
end K2
end
section
set_option maxHeartbeats 1000000
namespace K2
open Enc (enc)
noncomputable instance {α β:Type} [DecidableEq α] [Enc α] [bo α] [DecidableEq β] [Enc β] [bo β]:bo (α×β) where
 lt:=fun x y=>if x.1=y.1 then bo.lt x.2 y.2 else bo.lt x.1 y.1
 zB:=.tup [bo.zB α,bo.zB β]
 Bt:=fun x=>by
  show (cP _ (enc x.1)&&(cP _ (enc x.2)&&true))=true;rw [bo.Bt,bo.Bt]; rfl
 PV:=fun x y=>by
  show kO [enc x.1,enc x.2] [enc y.1,enc y.2]=_;rw [lD,lD,Enc.eqv,Enc.eqv,bo.PV,bo.PV,show kO [] []=false from rfl];by_cases h:x.1=y.1
  ·simp only [h,decide_true,if_true];by_cases h2:x.2=y.2
   ·simp only [h2,decide_true,if_true]; exact(bo.FQ _).symm
   ·simp only [h2,decide_false,aq,if_false]
  ·simp only [h,decide_false,aq,if_false]
 FQ:=fun x=>by simp only [if_true]; exact bo.FQ _
 trans:=fun x y z h1 h2=>by
  by_cases e1:x.1=y.1
  ·rw [if_pos e1] at h1;by_cases e2:y.1=z.1
   ·rw [if_pos e2] at h2;rw [if_pos (e1.trans e2)];exact bo.trans _ _ _ h1 h2
   ·rw [if_neg e2] at h2;rw [if_neg (fun q=>e2 (e1.symm.trans q)),e1]; exact h2
  ·rw [if_neg e1] at h1;by_cases e2:y.1=z.1
   ·rw [if_neg (fun q=>e1 (q.trans e2.symm)),<-e2]; exact h1
   ·rw [if_neg e2] at h2;have h3:=bo.trans _ _ _ h1 h2;rw [if_neg (fun q=>by rw [q,bo.FQ] at h3; cases h3)]; exact h3
 mG:=fun x y h1 h2=>by
  by_cases e1:x.1=y.1
  ·rw [if_pos e1] at h1;rw [if_pos e1.symm] at h2;exact Prod.ext e1 (bo.mG _ _ h1 h2)
  ·rw [if_neg e1] at h1;rw [if_neg (fun q=>e1 q.symm)] at h2;exact absurd (bo.mG _ _ h1 h2) e1
namespace J
noncomputable def JJ(l:List (T3×T3)):Pr T3:=O7 (l.filter fun p=>bo.lt p.1 p.2)
theorem xF{κ β:Type} [DecidableEq κ]:∀ {l:List (κ×β)},(l.map (·.1)).Nodup->∀ {p:κ×β},p∈l->cH l p.1=some p.2
 | [],_,_,h=>by cases h
 | q :: l,nd,p,h=>by
  rw [ak,aO] at nd;unfold cH;rcases List.mem_cons.mp h with rfl | h
  ·rw [cj (by simp)]; rfl
  ·have:¬ q.1=p.1:=fun z=>nd.1 (by rw [z]; exact bI h);rw [ck (by simpa using this)];exact xF nd.2 h
theorem BW{κ β:Type} [DecidableEq κ]{l:List (κ×β)}{k:κ}{v:β}(h:cH l k=some v):(k,v)∈l:=by
 unfold cH at h;obtain⟨p,h1,h2⟩:=Option.map_eq_some_iff.mp h;have h3:=uu h1;have h4:=jB h1;simp at h3;rw [<-h3,<-h2]; exact h4
theorem I0.mem{l:List (T3×T3)}{f:T3->T3}(h:I0 l f){p:T3×T3}(hp:p∈l):f p.1=p.2/\f p.1≠p.1:=by
 have a:=xF h.nd hp;rw [h.at'] at a;split at a
 ·cases a
 ·rename_i z; exact⟨aY a,z⟩
theorem PX{α:Type} [DecidableEq α] [Enc α] [bo α]{a b:α}(h1:bo.lt a b=true)(h2:bo.lt b a=true):False:=by
 have:=bo.trans _ _ _ h1 h2;rw [bo.FQ] at this; cases this
theorem IG{f:T3->T3}(iv:Iv f):∀ {l:List (T3×T3)},(l.map (·.1)).Nodup->(∀ p∈l,f p.1=p.2)->(es (l.filter fun p=>bo.lt p.1 p.2)).Nodup
 | [],_,_=>cE
 | p :: l,nd,h=>by
  rw [ak,aO] at nd;have ih:=IG iv nd.2 fun q hq=>h q (aL _ hq);rw [bD];split
  ·rename_i hl;have fp:=h p (by simp);rw [es,aO,aO,aQ,not_or];have out:∀ q∈l.filter (fun p=>bo.lt p.1 p.2),p.1≠q.1/\p.1≠q.2/\p.2≠q.1/\p.2≠q.2:=fun q hq=>by
    have Ri:=List.mem_filter.mp hq;have fq:=h q (aL _ Ri.1);have n1:p.1≠q.1:=fun z=>nd.1 (by rw [z]; exact bI Ri.1);have n2:p.1=q.2->p.2=q.1:=fun z=>by rw [<-fp,z,<-fq,iv]
    have n3:p.2=q.1->p.1=q.2:=fun z=>by rw [<-fq,<-z,<-fp,iv]
    have Rw:¬ (p.1=q.2/\p.2=q.1):=fun ⟨a,b⟩=>PX hl (by rw [a,b]; exact Ri.2);refine⟨n1,fun z=>Rw ⟨z,n2 z⟩,fun z=>Rw ⟨n3 z,z⟩,fun z=>n1 ?_⟩;have:=congrArg f z;rw [<-fp,<-fq,iv,iv] at this;exact this
   have ne:p.1≠p.2:=fun z=>by rw [z,bo.FQ] at hl; cases hl
   refine⟨⟨ne,fun z=>?_⟩,fun z=>?_,ih⟩
   ·obtain⟨q,hq,e⟩:=kC.mp z;rcases e with e | e
    ·exact(out q hq).1 e
    ·exact(out q hq).2.1 e
   ·obtain⟨q,hq,e⟩:=kC.mp z;rcases e with e | e
    ·exact(out q hq).2.2.1 e
    ·exact(out q hq).2.2.2 e
  ·exact ih
theorem HK{l:List (T3×T3)}{f:T3->T3}(h:I0 l f)(iv:Iv f):(es (JJ l)).Nodup/\pt (JJ l)=f:=by
 have sp:=pB (l.filter fun p=>bo.lt p.1 p.2);have nd0:=IG iv h.nd fun p hp=>(h.mem hp).1;have nd:(es (JJ l)).Nodup:=(j5 sp).nodup_iff.mpr nd0;refine⟨nd,Md nd (fun p hp=>?_) fun e he=>?_⟩
 ·have ux:=(List.mem_filter.mp (sp.mem_iff.mp hp)).1;have:=(h.mem ux).1;exact⟨this,by rw [<-this,iv]⟩
 ·refine fW fun z=>he ?_;have a1:cH l e=some (f e):=by rw [h.at',if_neg z]
  have z2:f (f e)≠f e:=fun q=>z (by rw [iv] at q; exact q.symm);have a2:cH l (f e)=some e:=by rw [h.at',if_neg z2,iv]
  have m1:=BW a1;have m2:=BW a2;rw [kC];by_cases hl:bo.lt e (f e)=true
  ·exact⟨(e,f e),sp.mem_iff.mpr (List.mem_filter.mpr ⟨m1,hl⟩),.inl rfl⟩
  ·by_cases z0:bo.lt (f e) e=true
   ·exact⟨(f e,e),sp.mem_iff.mpr (List.mem_filter.mpr ⟨m2,z0⟩),.inr rfl⟩
   ·exact absurd (bo.mG _ _ (by simpa using z0) (by simpa using hl)) z
noncomputable def Gh(P:Pr T3):List (T3×T3):=P.foldl (fun l p=>ez (ez l p.1 p.2) p.2 p.1) []
theorem IF:∀ {P:Pr T3},(es P).Nodup->I0 (Gh P) (pt P):=by
 have main:∀ (P:Pr T3) (l:List (T3×T3)) (f:T3->T3),I0 l f->(es P).Nodup->(∀ e∈es P,f e=e)->I0 (P.foldl (fun l p=>ez (ez l p.1 p.2) p.2 p.1) l) (fun e=>if e∈es P then pt P e else f e):=by
  intro P;induction P with
  | nil =>
   intro l f h _ _;have:(fun e=>if e∈es ([]:Pr T3) then pt [] e else f e)=f:=by funext e; simp [es]
   rw [this]; exact h
  | cons p P ih =>
   intro l f h nd hf;rw [es,aO,aO,aQ,not_or] at nd;have f1:f p.1=p.1:=hf _ (by simp [es]);have f2:f p.2=p.2:=hf _ (by simp [es]);have h2:I0 (ez (ez l p.1 p.2) p.2 p.1) (fun e=>if e=p.1 then p.2 else if e=p.2 then p.1 else f e):=by
    refine⟨ow (ow h.nd),fun e=>?_⟩;rw [qJ,qJ,h.at'];have:=nd.1.1
    grind
   have:=ih _ _ h2 nd.2.2 fun e he=>by
    have m1:e≠p.1:=fun z=>nd.1.2 (z ▸ he);have m2:e≠p.2:=fun z=>nd.2.1 (z ▸ he);simp only [if_neg m1,if_neg m2];exact hf e (by simp [es,he])
   rw [cM];have e2:(fun e=>if e∈es (p :: P) then pt (p :: P) e else f e)=fun e=>if e∈es P then pt P e else if e=p.1 then p.2 else if e=p.2 then p.1 else f e:=by
    funext e;rw [es,pt];by_cases he:e∈es P
    ·have m1:e≠p.1:=fun z=>nd.1.2 (z ▸ he);have m2:e≠p.2:=fun z=>nd.2.1 (z ▸ he);rw [if_pos (by simp [he]),if_neg m1,if_neg m2,if_pos he]
    ·rw [if_neg he];by_cases m1:e=p.1
     ·rw [if_pos (by simp [m1]),if_pos m1,if_pos m1]
     ·by_cases m2:e=p.2
      ·rw [if_pos (by simp [m2]),if_neg m1,if_pos m2,if_neg m1,if_pos m2]
      ·rw [if_neg (by simp [m1,m2,he]),if_neg m1,if_neg m2]
   rw [e2]; exact this
 intro P nd;have:=main P [] (fun e=>e) ⟨cE,fun e=>by simp [cH]⟩ nd (fun _ _=>rfl);have e2:(fun e=>if e∈es P then pt P e else e)=pt P:=by
  funext e;by_cases he:e∈es P
  ·rw [if_pos he]
  ·rw [if_neg he,mi he]
 rw [e2] at this; exact this
theorem IE(P:Pr T3):(Gh P).length<=2 * P.length:=by
 have:∀ (P:Pr T3) (l:List (T3×T3)),(P.foldl (fun l p=>ez (ez l p.1 p.2) p.2 p.1) l).length<=l.length+2 * P.length:=by
  intro P;induction P with
  | nil=>intro l; simp
  | cons p P ih =>
   intro l;have h1:=ih (ez (ez l p.1 p.2) p.2 p.1);have h2:=qe (ez l p.1 p.2) p.2 p.1;have h3:=qe l p.1 p.2;rw [cM,aj]; lia
 have:=this P [];simpa [Gh] using this
end J
end K2
end
section
set_option maxHeartbeats 1000000
namespace K2
open Enc (enc)
namespace J
open Y (Po L ND NZ fi vR iG ju dD)
noncomputable def mH(P:Pr T3):PK:=P.map fun p=>[p.1.l,p.2.l]
noncomputable def YX:List (List Int)->T3×T3
 | [[a,b,c],[x,y,z]]=>(⟨a,b,c⟩,⟨x,y,z⟩)
 | _=>(⟨0,0,0⟩,⟨0,0,0⟩)
noncomputable def dec(k:PK):Pr T3:=k.map YX
theorem Gw(P:Pr T3):dec (mH P)=P:=by
 unfold dec mH;rw [br]
 conv=>rhs; rw [<-kW P]
 rfl
theorem Mh(P:Pr T3):oC (mH P)=.tup (P.map enc):=by
 unfold oC mH;rw [br];rfl
noncomputable abbrev Su:=List (PK×Po)
noncomputable def g4(S:Su):List (PK×D):=S.map fun p=>(p.1,D.jY (bB p.2))
theorem zT(S:Su)(k:PK):oD (g4 S) k=(cH S k).map fun l=>D.jY (bB l):=by
 unfold oD cH g4;rw [List.find?_map,Option.map_map,Option.map_map];rfl
theorem Mc(S:Su)(k:PK)(l:Po):JD (g4 S) k (.jY (bB l))=g4 (ez S k l):=by
 unfold JD ez g4;rw [List.any_map];split
 ·rename_i h;rw [if_pos (by simpa [OD] using h),br,br];refine cZ fun p _=>?_;simp only [Function.comp];split <;> rfl
 ·rename_i h;rw [if_neg (by simpa [OD] using h),a9]; rfl
noncomputable def mG(ns:List (Int×Int))(g:Fn):Su->Int
 | []=>0
 | p :: S=>L (fun j=>Br (pt (dec p.1)) ns (sh j g)) p.2+mG ns g S
theorem Hn(ns:List (Int×Int))(g:Fn)(S S':Su):mG ns g (S++S')=mG ns g S+mG ns g S':=by
 induction S with
 | nil=>simp [mG]
 | cons p S ih=>rw [az,mG,mG,ih]; lia
theorem O3(ns:List (Int×Int))(g:Fn)(k:PK)(l:Po):∀ {S:Su},(S.map (·.1)).Nodup->mG ns g (ez S k l)=mG ns g S+(L (fun j=>Br (pt (dec k)) ns (sh j g)) l - L (fun j=>Br (pt (dec k)) ns (sh j g)) ((cH S k).getD []))
 | S,nd=>by
  unfold ez;split
  ·rename_i h;have main:∀ {S:Su},(S.map (·.1)).Nodup->(S.any fun p=>decide (p.1=k))=true->mG ns g (S.map fun p=>if p.1=k then (p.1,l) else p)=mG ns g S+(L (fun j=>Br (pt (dec k)) ns (sh j g)) l - L (fun j=>Br (pt (dec k)) ns (sh j g)) ((cH S k).getD [])):=by
    intro S;induction S with
    | nil=>intro _ h; cases h
    | cons p S ih =>
     intro nd h;rw [ak,aO] at nd;rw [ak,mG,mG];by_cases e:p.1=k
     ·have e2:(S.map fun p=>if p.1=k then (p.1,l) else p)=S:=by
       conv=>rhs; rw [<-kW S]
       refine cZ fun q hq=>?_;rw [if_neg]; rfl;intro z; exact nd.1 (by rw [e,<-z]; exact bI hq)
      have e3:cH (p :: S) k=some p.2:=by unfold cH; rw [cj (by simpa using e)]; rfl
      rw [e2,e3,if_pos e,e];simp only [qM];lia
     ·have e3:cH (p :: S) k=cH S k:=by unfold cH; rw [ck (by simpa using e)]
      rw [e3,if_neg e,ih nd.2 (by simpa [e] using h)];lia
   exact main nd h
  ·rename_i h;rw [Hn];have e3:cH S k=none:=by
    unfold cH;have:S.find? (fun p=>decide (p.1=k))=none:=by
     rw [gk];intro p hp z;exact h (List.any_eq_true.mpr ⟨p,hp,z⟩)
    rw [this]; rfl
   rw [e3];show mG ns g S+(L _ l+0)=_;simp only [zt,L];lia
noncomputable def LP:Po:=[(2,-1),(-2,-1)]
theorem Zc(g:Fn)(i:Int):L (fun j=>g (i+j)) LP=lp g i:=by
 show -1 * g (i+2)+(-1 * g (i+-2)+0)=-(g (i+2)) - g (i - 2);rw [show i+-2=i - 2 by lia]; lia
theorem ML(n:Nat)(g:Fn):gT n (lp g)=lp (gT n g):=by
 induction n with
 | zero=>rfl
 | succ n ih=>rw [gT,gT,ih]
theorem r8:∀ (n:Nat) (g:Fn),L g (dD LP n)=gT n g 0
 | 0,g=>by show 1 * g 0+0=g 0; lia
 | n+1,g=>by
  show L g (iG (dD LP n) LP)=_;rw [Y.Ep];have:(fun i=>L (fun j=>g (i+j)) LP)=lp g:=by funext i; exact Zc g i
  rw [this,r8 n,ML]; rfl
theorem FK(f:T3->T3)(ns:List (Int×Int))(g:Fn):∀ (n:Nat) (b:Int),gT n (fun t=>Br f ns (sh (t+b) g))=fun t=>Br f ns (sh (t+b) (gT n g))
 | 0,b=>rfl
 | n+1,b=>by
  rw [gT,FK f ns g n b];funext t;show -(Br f ns (sh (t+2+b) (gT n g))) - Br f ns (sh (t - 2+b) (gT n g))=Br f ns (sh (t+b) (lp (gT n g)));have e:sh (t+b) (lp (gT n g))=pl (sc (-1) (sh (t+2+b) (gT n g))) (sc (-1) (sh (t - 2+b) (gT n g))):=by
   funext i;show -(gT n g (i+(t+b)+2)) - gT n g (i+(t+b) - 2)=-1 * gT n g (i+(t+2+b))+-1 * gT n g (i+(t - 2+b));rw [show i+(t+b)+2=i+(t+2+b) by lia,show i+(t+b) - 2=i+(t - 2+b) by lia];lia
  rw [e,Jb,AI,AI]; lia
noncomputable def Pk(l:Po)(c:Nat)(b:Int):Po:=ju (iG l (dD LP c)) b 1
theorem VS(f:T3->T3)(ns:List (Int×Int))(g:Fn)(l:Po)(c:Nat)(b:Int):L (fun j=>Br f ns (sh j g)) (Pk l c b)=L (fun j=>Br f ns (gT c (sh b (sh j g)))) l:=by
 unfold Pk;rw [Y.Oq,Y.Ep,Int.one_mul];congr 1;funext i;rw [r8];have:(fun j=>Br f ns (sh (i+j+b) g))=fun t=>Br f ns (sh (t+(i+b)) g):=by
  funext t; rw [show i+t+b=t+(i+b) by lia]
 rw [this,FK];show Br f ns (sh (0+(i+b)) (gT c g))=_;rw [uG,kD,kD,LV,Int.add_comm i b]
theorem PQ(l:Po)(c:Nat)(b:Int):fi (Pk l c b)<=fi l * 2 ^ c:=by
 unfold Pk ju;refine bu (Y.uR _) ?_;have e:∀ m:Po,fi (m.map fun p=>(p.1+b,p.2 * 1))=fi m:=by
  intro m;induction m with
  | nil=>rfl
  | cons p m ih=>rw [ak,fi,fi,ih]; simp
 rw [e];exact bu (Y.rF _ _) (Nat.mul_le_mul_left _ (Y.nX LP c))
noncomputable def qZ(A:Su)(k':PK)(l:Po)(c:Nat)(b:Int):Su:=ez A k' (vR ((cH A k').getD []) (Pk l c b))
noncomputable def KN(S:Su):Prop:=(S.map (·.1)).Nodup/\∀ p∈S,ND p.2/\NZ p.2
theorem KN.get{S:Su}(h:KN S)(k:PK):ND ((cH S k).getD [])/\NZ ((cH S k).getD []):=by
 cases e:cH S k with
 | none=>exact⟨Y.ND.nil,fun p hp=>by cases hp⟩
 | some l=>exact h.2 _ (BW e)
theorem KN.put{S:Su}(h:KN S){k:PK}{l:Po}(h1:ND l)(h2:NZ l):KN (ez S k l):=by
 refine⟨ow h.1,fun p hp=>?_⟩;unfold ez at hp;split at hp
 ·obtain⟨q,hq,rfl⟩:=List.mem_map.mp hp;split
  ·exact⟨h1,h2⟩
  ·exact h.2 q hq
 ·rcases List.mem_append.mp hp with hp | hp
  ·exact h.2 p hp
  ·rw [cT] at hp; subst hp; exact⟨h1,h2⟩
theorem LK{A:Su}(h:KN A)(k':PK)(l:Po)(c:Nat)(b:Int):KN (qZ A k' l c b):=h.put (Y.PD (h.get k').1) (Y.C3 _)
theorem LI{A:Su}(h:KN A)(ns:List (Int×Int))(g:Fn)(k':PK)(l:Po)(c:Nat)(b:Int):mG ns g (qZ A k' l c b)=mG ns g A+L (fun j=>Br (pt (dec k')) ns (gT c (sh b (sh j g)))) l:=by
 unfold qZ;rw [O3 ns g k' _ h.1,Y.TG _ (h.get k').1,VS];lia
noncomputable def gq:Su->Nat
 | []=>0
 | p :: S=>fi p.2+gq S
theorem xA(S S':Su):gq (S++S')=gq S+gq S':=by
 induction S with
 | nil=>simp [gq]
 | cons p S ih=>rw [az,gq,gq,ih]; lia
theorem Mw(k:PK)(l:Po):∀ {S:Su},(S.map (·.1)).Nodup->gq (ez S k l)+fi ((cH S k).getD [])<=gq S+fi l
 | S,nd=>by
  unfold ez;split
  ·rename_i h;have main:∀ {S:Su},(S.map (·.1)).Nodup->(S.any fun p=>decide (p.1=k))=true->gq (S.map fun p=>if p.1=k then (p.1,l) else p)+fi ((cH S k).getD [])<=gq S+fi l:=by
    intro S;induction S with
    | nil=>intro _ h; cases h
    | cons p S ih =>
     intro nd h;rw [ak,aO] at nd;rw [ak,gq,gq];by_cases e:p.1=k
     ·have e2:(S.map fun p=>if p.1=k then (p.1,l) else p)=S:=by
       conv=>rhs; rw [<-kW S]
       refine cZ fun q hq=>?_;rw [if_neg]; rfl;intro z; exact nd.1 (by rw [e,<-z]; exact bI hq)
      have e3:cH (p :: S) k=some p.2:=by unfold cH; rw [cj (by simpa using e)]; rfl
      rw [e2,e3,if_pos e];simp only [qM];lia
     ·have e3:cH (p :: S) k=cH S k:=by unfold cH; rw [ck (by simpa using e)]
      have:=ih nd.2 (by simpa [e] using h);rw [e3,if_neg e];lia
   exact main nd h
  ·rename_i h;rw [xA];have e3:cH S k=none:=by
    unfold cH;have:S.find? (fun p=>decide (p.1=k))=none:=by
     rw [gk];intro p hp z;exact h (List.any_eq_true.mpr ⟨p,hp,z⟩)
    rw [this]; rfl
   rw [e3];show gq S+(fi l+0)+0<=_;lia
theorem LJ{A:Su}(h:KN A)(k':PK)(l:Po){c:Nat}(hc:c<=2)(b:Int):gq (qZ A k' l c b)<=gq A+4 * fi l:=by
 unfold qZ;have h1:=Mw k' (vR ((cH A k').getD []) (Pk l c b)) h.1;have h2:=Y.Mu (h.get k').1 (Pk l c b);have h3:=PQ l c b;have h4:fi l * 2 ^ c<=fi l * 4:=Nat.mul_le_mul_left _ (show 2 ^ c<=2 ^ 2 from jk (by decide) hc);lia
theorem HY(S:Su)(k:PK):fi ((cH S k).getD [])<=gq S:=by
 induction S with
 | nil=>exact aF _
 | cons p S ih =>
  unfold cH at *;rw [gq];by_cases e:p.1=k
  ·rw [cj (by simpa using e)]; simp only [sf,qM]; lia
  ·rw [ck (by simpa using e)]; lia
theorem Bb:∀ {l:Po},NZ l->l.length<=fi l
 | [],_=>aF _
 | p :: l,h=>by
  have h1:=h p (by simp);have h2:=Bb (l:=l) fun q hq=>h q (aL _ hq);rw [aj,fi]; lia
noncomputable def iP(S:Su):Su:=S.filter fun p=>!p.2.isEmpty
theorem MU(ns:List (Int×Int))(g:Fn)(S:Su):mG ns g (iP S)=mG ns g S:=by
 unfold iP;induction S with
 | nil=>rfl
 | cons p S ih =>
  rw [bD];split
  ·rw [mG,mG,ih]
  ·rename_i h;have:p.2=[]:=by simpa using h
   rw [ih,mG,this,L,uG]
theorem DA{S:Su}(h:KN S):KN (iP S):=⟨lS (kA _ jE) h.1,fun p hp=>h.2 p (List.mem_filter.mp hp).1⟩
theorem MV(S:Su):gq (iP S)<=gq S:=by
 unfold iP;induction S with
 | nil=>exact aF _
 | cons p S ih =>
  rw [bD];split
  ·rw [gq,gq]; lia
  ·rw [gq]; lia
theorem MX{S:Su}(h:KN S):(iP S).length<=gq S:=by
 have:∀ {S:Su},(∀ p∈S,NZ p.2)->(iP S).length<=gq S:=by
  intro S;unfold iP;induction S with
  | nil=>intro _; exact aF _
  | cons p S ih =>
   intro h;have ih:=ih fun q hq=>h q (aL _ hq);rw [bD,gq];split
   ·rename_i z;have h1:=Bb (h p (by simp));have h2:0 < p.2.length:=by
     cases q:p.2 with
     | nil=>rw [q] at z; cases z
     | cons _ _=>simp
    rw [aj]; lia
   ·lia
 exact this fun p hp=>(h.2 p hp).2
end J
end K2
end
section
namespace K2
open PySem (Str)
open Enc (enc)
namespace Y
structure Pl(G:Gp)(d:D)(l:Po):Prop where
 is:RE G d l
 nd:ND l
theorem t6{G G1:Gp}{p:Nat}{o:GO}{Q:DK}(l:fN G G1)(hp:G p=none)(h1:G1 p=some o)(q:gv G o Q):KP G1 (.ref p) Q:=NC l hp h1 (q p hp)
theorem II(i j:Int):hZ (.int i) (.int j)=decide (i=j):=Enc.eqv i j
theorem sZ(l m:Po):fI (l++m)=fI l++fI m:=dN _ _
theorem Fu{l:Po}{k:Int}(h:k∈(fI l).map (·.1)):k∈l.map (·.1):=(kA _ jE).subset h
theorem Q0{l pre post:Po}{p:Int×Int}(h:ND l)(e:l=pre++p :: post):p.1∉pre.map (·.1):=by
 subst e;unfold ND at h;rw [a9,ak,eP] at h;intro z;exact h.2.2 _ z _ (by simp) rfl
theorem Fs{l pre post:Po}{p:Int×Int}(h:ND l)(e:l=pre++p :: post)(hz:p.2≠0):ez (fI pre) p.1 p.2=fI (pre++[p]):=by
 rw [kn fun z=>Q0 h e (Fu z),sZ];congr 1;simp [fI,hz]
theorem Ft{pre:Po}{p:Int×Int}(hz:p.2=0):fI (pre++[p])=fI pre:=by
 rw [sZ]; simp [fI,hz]
theorem tY(i:Int):(enc i:D)=.int i:=rfl
noncomputable def da:mR:=fun ds G Q _=>∃ (d:D) (l:Po),ds=[d]/\Pl G d l/\l.length<=SZ/\gv G (.gu (bB (fI l))) Q
noncomputable def lz:hV :=
 (cN (bQ oo (aP 1))
 (cN (fR (i5 (ay 0)) (jf (dF (aP 2) (dF (aP 3) i6))) (jV (jy (bE (HD true) (ay 3) (dC (.int 0)))) (bQ (ay 3) (lI (ay 1) (ay 2))) fB))
 (c5 (dB (ay 1)))))
theorem rZ(ds:List D)(G:Gp)(Q:DK)(h:da ds G Q fun _ _=>False):lz (fun _ _=>False) (ends Q) (bF 4 ds) G:=by
 obtain⟨d,l,rfl,hd,hl,q⟩:=h;unfold lz;simp only [ends,bF,ak,bq,aj,aE,bc,az,aT,c9,bQ,oo,aP,ar,ao];intro p hp;refine gf (fun τ G'=>(∃ a b,τ=[some d,some (.ref p),a,b])/\fN G G'/\G' p=some (.gu (bB (fI l)))) ?_ ?_
 ·intro N hN;simp only [fR,i5,ay,aa];refine kd hd.is (.new hp) fun ok cD=>?_;refine eU (xs:=l) (fun pre τ G'=>(∃ a b,τ=[some d,some (.ref p),a,b])/\fN G G'/\G' p=some (.gu (bB (fI pre)))) ⟨⟨_,_,rfl⟩,.new hp,aJ⟩ (fun pre τ G' h=>cD G' h.2.1) ?_ ?_
  ·rintro pre x post τ G' N2 e ⟨⟨a,b,rfl⟩,le,gp⟩ qv;have hlen:(fI pre).length < SZ:=by
    have:=uP pre;have:=congrArg dU e;rw [aB,aj] at this; lia
   simp only [jf,dF,aP,i6,ar,ao];refine⟨_,_,.int _,.int _,?_⟩;simp only [II,if_true,bQ,ay,ae,aa,lI,fB];by_cases hz:x.2=0
   ·simp only [hz,decide_true,bV];exact qv _ _ ⟨⟨_,_,rfl⟩,le,by rw [Ft hz]; exact gp⟩
   ·simp only [hz,decide_false,eC];refine gO (α:=Int) gp hlen ?_;exact qv _ _ ⟨⟨_,_,rfl⟩,le.put hp,by rw [aJ,<-Fs hd.nd e hz]⟩
  ·rintro τ G' ⟨⟨a,b,rfl⟩,le,gp⟩;exact hN _ _ ⟨⟨_,_,rfl⟩,le,gp⟩
 ·rintro _ G' ⟨⟨a,b,rfl⟩,le,gp⟩;simp only [c5,dB,ay,ae,aa];exact t6 le hp gp q
theorem Q3{G:Gp}{d:D}{l:Po}{i:Int}{Q:DK}(h:yG G d l)(k:Q (.int (c0 l i)) G):JO d [.int i,.int 0] G Q:=PU (α:=Int) (e:=0) h k
theorem j3{α:Type}{l pre post:List α}{x:α}(e:l=pre++x :: post):pre.length < l.length:=by
 have:=congrArg dU e;rw [aB,aj] at this; lia
noncomputable def j9:mR:=fun ds G Q _=>∃ (d e:D) (l m:Po),ds=[d,e]/\Pl G d l/\Pl G e m/\l.length+m.length<=SZ/\gv G (.gu (bB (vR l m))) Q
noncomputable def CQ:hV :=
 (cN (bQ (uy IT (av (ay 0) a8)) (aP 2))
 (cN (fR (i5 (ay 1)) (jf (dF (aP 3) (dF (aP 4) i6))) (bQ (bE iN (yQ O2 JO (ay 2) (av (ay 3) (av (dC (.int 0)) a8))) (ay 4)) (lI (ay 2) (ay 3))))
 (c5 (dB (bC da (av (dB (ay 2)) a8))))))
theorem Oo(ds:List D)(G:Gp)(Q:DK)(h:j9 ds G Q fun _ _=>False):CQ (fun _ _=>False) (ends Q) (bF 5 ds) G:=by
 obtain⟨d,e,l,m,rfl,hd,he,hl,q⟩:=h;unfold CQ;simp only [ends,bF,ak,bq,aj,aE,bc,az,aT,c9,bQ,uy,av,ay,aa,a8,aP,ar,ao];refine Od hd.is.p (by lia) fun p hp=>?_;refine gf (fun τ G'=>(∃ a b,τ=[some d,some e,some (.ref p),a,b])/\fN G G'/\G' p=some (.gu (bB (rh l m)))) ?_ ?_
 ·intro N hN;simp only [fR,i5,ay,ae,aa];refine kd he.is (.new hp) fun ok cD=>?_;refine eU (xs:=m) (fun pre τ G'=>(∃ a b,τ=[some d,some e,some (.ref p),a,b])/\fN G G'/\G' p=some (.gu (bB (rh l pre)))) ⟨⟨_,_,rfl⟩,.new hp,aJ⟩ (fun pre τ G' h=>cD G' h.2.1) ?_ ?_
  ·rintro pre x post τ G' N2 e2 ⟨⟨a,b,rfl⟩,le,gp⟩ qv;have hlen:(rh l pre).length < SZ:=by
    have:=zL l pre;have:=j3 e2; lia
   simp only [jf,dF,aP,i6,bQ,bE,yQ,ay,ar,ao,ae,aa,nR,av,dC,a8,lI];refine⟨LC (yG.ref gp),Q3 (yG.ref gp) ?_⟩;simp only [tY,dq];refine gO (α:=Int) gp hlen ?_;refine qv _ _ ⟨⟨_,_,rfl⟩,le.put hp,?_⟩;rw [aJ];unfold rh plus;rw [kX]; rfl
  ·rintro τ G' ⟨⟨a,b,rfl⟩,le,gp⟩;exact hN _ _ ⟨⟨_,_,rfl⟩,le,gp⟩
 ·rintro _ G' ⟨⟨a,b,rfl⟩,le,gp⟩;simp only [c5,dB,bC,av,ay,ae,aa,a8];refine iH le hp gp ?_;refine⟨_,rh l m,rfl,⟨rfl,C4 hd.nd⟩,by have:=zL l m; lia,fun p2 qR=>?_⟩;exact t6 (.new qR) qR aJ q
noncomputable def gC:mR:=fun ds G Q _=>∃ (d:D) (l:Po) (b f:Int),ds=[d,.int b,.int f]/\Pl G d l/\l.length<=SZ/\(fi l < qT/\f.natAbs < qT)/\gv G (.gu (bB (ju l b f))) Q
noncomputable def w9:hV :=
 (cN (bQ oo (aP 3))
 (cN (fR (i5 (ay 0)) (jf (dF (aP 4) (dF (aP 5) i6))) (bQ (bE Hz (ay 5) (ay 2)) (lI (ay 3) (bE iN (ay 4) (ay 1)))))
 (c5 (dB (bC da (av (dB (ay 3)) a8))))))
noncomputable def LW(b f:Int)(l:Po):Po:=l.map fun p=>(p.1+b,p.2 * f)
theorem Fc{l pre post:Po}{p:Int×Int}(b f:Int)(h:ND l)(e:l=pre++p :: post):ez (LW b f pre) (p.1+b) (p.2 * f)=LW b f (pre++[p]):=by
 rw [kn,LW,LW,a9]; rfl;intro z;unfold LW at z;rw [br] at z;obtain⟨r,hr,er⟩:=List.mem_map.mp z;have:r.1=p.1:=by have:r.1+b=p.1+b:=er; lia
 exact Q0 h e (this ▸ bI hr)
theorem GS(ds:List D)(G:Gp)(Q:DK)(h:gC ds G Q fun _ _=>False):w9 (fun _ _=>False) (ends Q) (bF 6 ds) G:=by
 obtain⟨d,l,b,f,rfl,hd,hl,⟨hb,hf⟩,q⟩:=h;unfold w9;simp only [ends,bF,ak,bq,aj,aE,bc,az,aT,c9,bQ,oo,aP,ar,ao];intro p hp;refine gf (fun τ G'=>(∃ u v,τ=[some d,some (.int b),some (.int f),some (.ref p),u,v])/\fN G G'/\G' p=some (.gu (bB (LW b f l)))) ?_ ?_
 ·intro N hN;simp only [fR,i5,ay,aa];refine kd hd.is (.new hp) fun ok cD=>?_;refine eU (xs:=l) (fun pre τ G'=>(∃ u v,τ=[some d,some (.int b),some (.int f),some (.ref p),u,v])/\fN G G'/\G' p=some (.gu (bB (LW b f pre)))) ⟨⟨_,_,rfl⟩,.new hp,aJ⟩ (fun pre τ G' h=>cD G' h.2.1) ?_ ?_
  ·rintro pre x post τ G' N2 e ⟨⟨u,v,rfl⟩,le,gp⟩ qv;have hlen:(LW b f pre).length < SZ:=by
    have:=j3 e;unfold LW; rw [aC]; lia
   have hx:x.2.natAbs < qT:=gm (Bc (by rw [e]; simp)) hb;simp only [jf,dF,aP,i6,bQ,bE,ay,ar,ao,tY,ae,aa,lI,dq,kZ];refine⟨⟨hx,hf⟩,?_⟩;refine gO (α:=Int) gp hlen ?_;exact qv _ _ ⟨⟨_,_,rfl⟩,le.put hp,by rw [aJ,<-Fc b f hd.nd e]⟩
  ·rintro τ G' ⟨⟨u,v,rfl⟩,le,gp⟩;exact hN _ _ ⟨⟨_,_,rfl⟩,le,gp⟩
 ·rintro _ G' ⟨⟨u,v,rfl⟩,le,gp⟩;simp only [c5,dB,bC,av,ay,ae,aa,a8];refine iH le hp gp ?_;refine⟨_,LW b f l,rfl,⟨rfl,CC hd.nd b f⟩,by unfold LW; rw [aC]; exact hl,fun p2 qR=>?_⟩;exact t6 (.new qR) qR aJ q
noncomputable def iL:mR:=fun ds G Q _=>∃ (d e:D) (l m:Po),ds=[d,e]/\Pl G d l/\Pl G e m/\l.length * m.length<=SZ/\(fi l < qT/\fi m < qT)/\gv G (.gu (bB (iG l m))) Q
noncomputable def CP:hV :=
 (cN (bQ oo (aP 2))
 (cN (fR (i5 (ay 0)) (jf (dF (aP 3) (dF (aP 4) i6))) (fR (i5 (ay 1)) (jf (dF (aP 5) (dF (aP 6) i6))) (cN (bQ (bE iN (ay 3) (ay 5)) (aP 7))
 (bQ (bE iN (yQ O2 JO (ay 2) (av (ay 7) (av (dC (.int 0)) a8))) (bE Hz (ay 4) (ay 6))) (lI (ay 2) (ay 7))))))
 (c5 (dB (bC da (av (dB (ay 2)) a8))))))
theorem PS{l pre post:Po}{x:Int×Int}{m mp mq:Po}{y:Int×Int}(e:l=pre++x :: post)(e2:m=mp++y :: mq)(a:Po)(ha:a.length<=pre.length * m.length):(mZ mp a x).length < l.length * m.length:=by
 have h1:=CZ mp a x;have h2:=j3 e;have h3:=j3 e2;have h4:(pre.length+1) * m.length<=l.length * m.length:=jl _ h2;rw [Nat.succ_mul] at h4;lia
theorem Kg(m:Po):∀ (l:Po),(l.foldl (mZ m) []).length<=l.length * m.length:=fun l=>pN l m
theorem Om(ds:List D)(G:Gp)(Q:DK)(h:iL ds G Q fun _ _=>False):CP (fun _ _=>False) (ends Q) (bF 8 ds) G:=by
 obtain⟨d,e,l,m,rfl,hd,he,hl,⟨hb,hf⟩,q⟩:=h;unfold CP;simp only [ends,bF,ak,bq,aj,aE,bc,az,aT,c9,bQ,oo,aP,ar,ao];intro p hp;refine gf (fun τ G'=>(∃ a1 a2 a3 a4 a5,τ=[some d,some e,some (.ref p),a1,a2,a3,a4,a5])/\fN G G'/\G' p=some (.gu (bB (mf l m)))) ?_ ?_
 ·intro N hN;simp only [fR,i5,ay,aa];refine kd hd.is (.new hp) fun ok cD=>?_;refine eU (xs:=l) (fun pre τ G'=>(∃ a1 a2 a3 a4 a5,τ=[some d,some e,some (.ref p),a1,a2,a3,a4,a5])/\fN G G'/\G' p=some (.gu (bB (pre.foldl (mZ m) [])))) ⟨⟨_,_,_,_,_,rfl⟩,.new hp,aJ⟩ (fun pre τ G' h=>cD G' h.2.1) ?_ ?_
  ·rintro pre x post τ G' N2 e1 ⟨⟨a1,a2,a3,a4,a5,rfl⟩,le,gp⟩ qv;have hx:x.2.natAbs < qT:=gm (Bc (by rw [e1]; simp)) hb;simp only [jf,dF,aP,i6,fR,i5,ay,ar,ao,tY,ae,aa];refine kd he.is le fun PN Ye=>?_;refine eU (xs:=m) (fun mp τ G'=>(∃ a3 a4 a5,τ=[some d,some e,some (.ref p),some (.int x.1),some (.int x.2),a3,a4,a5])/\fN G G'/\G' p=some (.gu (bB (mZ mp (pre.foldl (mZ m) []) x)))) ⟨⟨_,_,_,rfl⟩,le,gp⟩ (fun pre τ G' h=>Ye G' h.2.1) ?_ ?_
   ·rintro mp y mq τ G2 N3 e2 ⟨⟨b3,b4,b5,rfl⟩,OK,K9⟩ Ny;have hlen:=bO (PS e1 e2 (pre.foldl (mZ m) []) (Kg m pre)) hl;have hy:y.2.natAbs < qT:=gm (Bc (by rw [e2]; simp)) hf;simp only [jf,dF,aP,i6,ar,ao,tY,c9,bQ,bE,ay,ae,aa,yQ,nR,av,dC,a8,lI,kZ,dq];refine⟨LC (yG.ref K9),Q3 (yG.ref K9) ?_⟩;simp only [dq];refine⟨⟨hx,hy⟩,?_⟩;refine gO (α:=Int) K9 hlen ?_;refine Ny _ _ ⟨⟨_,_,_,rfl⟩,OK.put hp,?_⟩;rw [aJ]
    conv=>rhs; rw [mZ,kX]
    rfl
   ·rintro τ G2 ⟨⟨b3,b4,b5,rfl⟩,OK,K9⟩;refine qv _ _ ⟨⟨_,_,_,_,_,rfl⟩,OK,?_⟩;rw [K9,kX]; rfl
  ·rintro τ G' ⟨⟨a1,a2,a3,a4,a5,rfl⟩,le,gp⟩;exact hN _ _ ⟨⟨_,_,_,_,_,rfl⟩,le,gp⟩
 ·rintro _ G' ⟨⟨a1,a2,a3,a4,a5,rfl⟩,le,gp⟩;simp only [c5,dB,bC,av,ay,ae,aa,a8];refine iH le hp gp ?_;refine⟨_,mf l m,rfl,⟨rfl,xl l m⟩,bu (pN l m) hl,fun p2 qR=>?_⟩;exact t6 (.new qR) qR aJ q
noncomputable def gN:mR:=fun ds G Q _=>∃ (d:D) (l:Po) (n:Nat),ds=[d,.int n]/\Pl G d l/\(n<=1000/\∀ k,k < n->l.length ^ k * l.length<=SZ/\fi l ^ k < qT)/\fi l < qT/\gv G (.gu (bB (dD l n))) Q
noncomputable def zG:hV :=
 (cN (bQ (yh (dC (.int 0)) (dC (.int 1))) (aP 2))
 (cN (fR (DE (ay 1)) (aP 3) (bQ (bC iL (av (dB (ay 2)) (av (dB (ay 0)) a8))) (aP 2)))
 (c5 (dB (ay 2)))))
theorem KI(ds:List D)(G:Gp)(Q:DK)(h:gN ds G Q fun _ _=>False):zG (fun _ _=>False) (ends Q) (bF 4 ds) G:=by
 obtain⟨d,l,n,rfl,hd,⟨hn,hk⟩,hb,q⟩:=h;unfold zG;simp only [ends,bF,ak,bq,aj,aE,bc,az,aT,c9,bQ,yh,dC,aP,ar,ao];refine⟨rfl,fun p0 Rj=>?_⟩;refine gf (fun τ G'=>(∃ a p,τ=[some d,some (.int n),some (.ref p),a]/\G p=none/\G' p=some (.gu (bB (dD l n))))/\fN G G') ?_ ?_
 ·intro N hN;simp only [fR,lG,ay,ae,aa,jJ];refine⟨by lia,by lia,?_⟩;rw [eV];refine Tc (fun pre τ G'=>(∃ a p,τ=[some d,some (.int n),some (.ref p),a]/\G p=none/\G' p=some (.gu (bB (dD l pre.length))))/\fN G G') ⟨⟨_,p0,rfl,Rj,aJ⟩,.new Rj⟩ (fun _ _ _ _=>trivial) ?_ ?_
  ·rintro pre x post τ G' N2 e1 ⟨⟨a,p,rfl,hp,gp⟩,le⟩ qv;obtain⟨rfl,wo⟩:=Fh e1;obtain⟨h1,h2⟩:=hk pre.length wo;simp only [aP,bQ,bC,av,dB,ay,ar,ao,ae,aa,a8];refine iH le hp gp (c4 ?_);refine⟨_,d,dD l pre.length,l,rfl,⟨rfl,uN _ _⟩,hd,bu (jl _ (rC l _)) h1,⟨gm (nX l _) h2,hb⟩,fun p2 qR=>?_⟩;refine qv _ _ ⟨⟨_,p2,rfl,qR,?_⟩,.new qR⟩;rw [aJ,aB]; rfl
  ·rintro τ G' ⟨⟨a,p,rfl,hp,gp⟩,le⟩;rw [show (fu 0 n).length=n by simp [fu]] at gp;exact hN _ _ ⟨⟨_,p,rfl,hp,gp⟩,le⟩
 ·rintro _ G' ⟨⟨a,p,rfl,hp,gp⟩,le⟩;simp only [c5,dB,ay,ae,aa];exact t6 le hp gp q
end Y
end K2
end
section
namespace K2
open PySem (Str)
open Enc (enc)
namespace JB
open K2.P K2.J
noncomputable def zI:hV :=
 (cN (jV (jy (bE (HD false) (ay 1) (dC (.int 0)))) (c5 (dB (kj (av (fQ (av (fQ (av (ay 0) (av (dC (.int 0)) (av (dC (.int 0)) a8)))) (av (fQ (av (ay 0) (av (dC (.int 1)) (av (dC (.int 1)) a8)))) a8))) (av (fQ (av (fQ (av (ay 0) (av (dC (.int 1)) (av (dC (.int 0)) a8)))) (av (fQ (av (ay 0) (av (dC (.int 0)) (av (dC (.int 1)) a8)))) a8))) a8))))) fB)
 (c5 (dB (kj (av (fQ (av (fQ (av (ay 0) (av (dC (.int 0)) (av (dC (.int 0)) a8)))) (av (fQ (av (ay 0) (av (dC (.int 1)) (av (dC (.int 0)) a8)))) a8))) (av (fQ (av (fQ (av (ay 0) (av (dC (.int 0)) (av (dC (.int 1)) a8)))) (av (fQ (av (ay 0) (av (dC (.int 1)) (av (dC (.int 1)) a8)))) a8))) a8))))))
noncomputable def wI(w:Bool):Int:=if w=true then 1 else 0
noncomputable def qm:mR:=fun ds G Q _=>∃ (n:Int) (w:Bool),ds=[.int n,.int (wI w)]/\Q (enc (js n w)) G
theorem KL(ds:List D)(G:Gp)(Q:DK)(h:qm ds G Q fun _ _=>False):zI (fun _ _=>False) (ends Q) (bF 2 ds) G:=by
 obtain⟨n,w,rfl,q⟩:=h;unfold zI;simp only [cN,jV,bF,ak,bq,aj,aE,az,aT,c5,dB,kj,av,fQ,ay,aa,dC,a8,ends,fB,eA,bE,ae];refine⟨_,_,.int _,.int _,?_⟩;simp only [aq,jU,if_false,cF];cases w with
 | false =>
  simp only [wI,aq,if_false,beq_self_eq_true,if_true];refine⟨by decide,by decide,by decide,by decide,by decide,by decide,by decide,fun p hp=>?_⟩;exact og (xs:=js n false) (.new hp) hp aJ q
 | true =>
  simp only [wI,if_true,show ((1:Int) == 0)=false from rfl,aq,if_false];refine⟨by decide,by decide,by decide,by decide,by decide,by decide,by decide,fun p hp=>?_⟩;exact og (xs:=js n true) (.new hp) hp aJ q
noncomputable def vt:hV :=
 (c5 (dB (YY (jy (bE (HD false) (ay 1) (dC (.int 0)))) (ay 0) (Lb JA (ay 0)))))
noncomputable def pw(h:Int)(w:Bool):Int:=if w=true then -h else h
noncomputable def l0:mR:=fun ds G Q _=>∃ (h:Int) (w:Bool),ds=[.int h,.int (wI w)]/\Q (.int (pw h w)) G
theorem Ek(ds:List D)(G:Gp)(Q:DK)(h:l0 ds G Q fun _ _=>False):vt (fun _ _=>False) (ends Q) (bF 2 ds) G:=by
 obtain⟨n,w,rfl,q⟩:=h;unfold vt;simp only [c5,dB,YY,bF,ak,bq,aj,aE,az,aT,ay,aa,ends,Lb,lA,eA,bE,ae,dC];refine⟨_,_,.int _,.int _,?_⟩;simp only [aq,jU,if_false,cF];cases w with
 | false =>
  simp only [wI,aq,if_false,beq_self_eq_true,if_true];exact c4 q
 | true =>
  simp only [wI,if_true,show ((1:Int) == 0)=false from rfl,aq,if_false];exact c4 q
theorem U2:∀ (x y:List Int),rH (fun a b=>decide (a < b)) x y=lexLt x y
 | [],[]=>rfl
 | [],_ :: _=>rfl
 | _ :: _,[]=>rfl
 | a :: x,b :: y=>by rw [uU,U2 x y]; rfl
theorem lt3(p q:T3):lexLt p.l q.l=bo.lt p q:=(U2 _ _).symm
noncomputable def xa:hV :=
 (c5 (dB (uy Qt (av (uy uc (av (gy 1 [0] (tQ (ay 0)) (aP 0) (some (jy (bE V1 (ay 0) (bE lR (ay 1) (ay 0))))) (fQ (av (ay 0) (av (bE lR (ay 1) (ay 0)) a8)))) a8)) a8))))
noncomputable def jI:mR:=fun ds G Q _=>∃ (l:List (T3×T3)),ds=[.jY (bB l)]/\((l.map (·.1)).Nodup/\l.length < 64)/\Q (oC (mH (JJ l))) G
theorem GU(ds:List D)(G:Gp)(Q:DK)(h:jI ds G Q fun _ _=>False):xa (fun _ _=>False) (ends Q) (bF 1 ds) G:=by
 obtain⟨l,rfl,⟨nd,hl⟩,q⟩:=h;unfold xa;simp only [c5,dB,uy,av,gy,tQ,ay,bF,ak,bq,aj,aE,az,aT,aa,a8,ends];show _/\_;have ek:((bB l).map fun p=>p.1)=l.map fun p=>enc p.1:=by unfold bB; rw [br]; rfl
 refine⟨Jp (by unfold bB; rw [aC,aC]; lia),?_⟩;rw [ek];refine kl (xs:=l) (f:=fun p=>enc p.1) (fun pre acc τ G'=>G=G'/\(∃ a,τ=[a,some (.jY (bB l))])/\acc=(pre.filter fun p=>bo.lt p.1 p.2).map enc) ⟨rfl,⟨_,rfl⟩,rfl⟩ (fun _ _ _ _ _=>trivial) ?_ ?_
 ·rintro pre x post acc τ G' N e ⟨rfl,⟨a,rfl⟩,rfl⟩ hN;have hx:cH l x.1=some x.2:=xF nd (by rw [e]; simp);simp only [aP,ao,fQ,av,ay,aa,bE,ae,a8,aj,aE,v8,tG,hx,sf,eA];refine⟨lE _ _,?_⟩;show ∃ xs ys,_;refine⟨x.1.l,x.2.l,rfl,rfl,?_⟩;simp only [lt3,cF];split
  ·rename_i wo;refine⟨lE _ _,by decide,hN _ _ _ ⟨rfl,⟨_,rfl⟩,?_⟩⟩;simp only [dN,bD,wo,if_true,uv,a9]; rfl
  ·rename_i wo;refine hN _ _ _ ⟨rfl,⟨_,rfl⟩,?_⟩;simp only [dN,bD,wo,if_false,uv,cz,aq]
 ·rintro acc τ G' ⟨rfl,⟨a,rfl⟩,rfl⟩ p hp;refine yn (IsL.ref aJ) (gm (dw _ _) hl) fun p2 qR=>?_;unfold Qt;simp only [tE (IsL.ref aJ)];rw [Mh] at q;exact tU ((fN.new hp).trans (.new qR)) q
theorem J8{G G2:Gp}{d:D}{ds:List D}{R:List D->(Gp->Prop)->Gp->Prop}(h:itemsOf d G=some ds)(l:fN G G2)(k:∀ ok:Gp->Prop,(∀ G',fN G G'->ok G')->R ds ok G2):P4 d G2 R:=by
 cases d with
 | tup xs=>cases h; exact k _ fun _ _=>trivial
 | dJ xs=>cases h; exact k _ fun _ _=>trivial
 | ref a =>
  unfold itemsOf at h;dsimp only at h;split at h
  ·rename_i xs ha;cases h;rw [Ir (l _ _ ha)];exact k _ fun G' le=>le _ _ ha
  ·cases h
 | _=>cases h
noncomputable def vC:hV :=
 (cN (bQ oo (aP 1))
 (cN (fR (oT (ay 0)) (jf (dF (aP 2) (dF (aP 3) i6))) (cN (bQ (ay 3) (lI (ay 1) (ay 2)))
 (bQ (ay 2) (lI (ay 1) (ay 3)))))
 (c5 (dB (ay 1)))))
noncomputable def i8:mR:=fun ds G Q _=>∃ (d:D) (P:Pr T3),ds=[d]/\itemsOf d G=some (P.map enc)/\P.length<=200/\gv G (.gu (bB (Gh P))) Q
theorem NJ(P:Pr T3)(p:T3×T3):Gh (P++[p])=ez (ez (Gh P) p.1 p.2) p.2 p.1:=by unfold Gh; rw [kX]; rfl
theorem Eo(ds:List D)(G:Gp)(Q:DK)(h:i8 ds G Q fun _ _=>False):vC (fun _ _=>False) (ends Q) (bF 4 ds) G:=by
 obtain⟨d,P,rfl,hi,hl,q⟩:=h;unfold vC;simp only [ends,bF,ak,bq,aj,aE,bc,az,aT,c9,bQ,oo,gv,aP,ar,ao];intro p hp;refine gf (fun τ G'=>(∃ a b,τ=[some d,some (.ref p),a,b])/\fN G G'/\G' p=some (.gu (bB (Gh P)))) ?_ ?_
 ·intro N hN;simp only [fR,fJ,ay,aa];refine J8 hi (.new hp) fun ok cD=>?_;refine eU (xs:=P) (fun pre τ G'=>(∃ a b,τ=[some d,some (.ref p),a,b])/\fN G G'/\G' p=some (.gu (bB (Gh pre)))) ⟨⟨_,_,rfl⟩,.new hp,aJ⟩ (fun pre τ G' h=>cD G' h.2.1) ?_ ?_
  ·rintro pre x post τ G' N2 e ⟨⟨a,b,rfl⟩,le,gp⟩ qv;have hlen:=IE pre;have z0:pre.length < P.length:=by rw [e]; simp
   have e0:(enc x:D)=.tup [enc x.1,enc x.2]:=rfl;simp only [jf,e0,dF,aP,i6,ar,ao,c9,bQ,ay,ae,aa,lI];refine K2.P.gO (k:=x.1) (v:=x.2) gp (by lia) ?_;have Z0:=qe (Gh pre) x.1 x.2;refine K2.P.gO (k:=x.2) (v:=x.1) aJ (by lia) ?_;refine qv _ _ ⟨⟨_,_,rfl⟩,(le.put hp).put hp,?_⟩;rw [aJ,NJ]
  ·rintro τ G' ⟨⟨a,b,rfl⟩,le,gp⟩;exact hN _ _ ⟨⟨_,_,rfl⟩,le,gp⟩
 ·rintro _ G' ⟨⟨a,b,rfl⟩,le,gp⟩;simp only [c5,dB,ay,ae,aa];exact NC le hp gp (q p hp)
noncomputable def OG(l:List (T2×T2)):Pr T3:=l.map fun p=>(⟨p.1.a,p.1.b,1⟩,⟨p.2.a,p.2.b,0⟩)
theorem Te(P:Pr T3):((Gh P).map (·.1)).Nodup:=by
 have:∀ (P:Pr T3) (l:List (T3×T3)),(l.map (·.1)).Nodup->((P.foldl (fun l p=>ez (ez l p.1 p.2) p.2 p.1) l).map (·.1)).Nodup:=by
  intro P;induction P with
  | nil=>intro l h; exact h
  | cons p P ih=>intro l h; exact ih _ (ow (ow h))
 exact this P [] cE
noncomputable def rg:hV :=
 (cN (bQ (gy 2 [] (Bp (bC lq (av (ay 0) a8))) (jf (dF (aP 0) (dF (aP 1) i6))) none (fQ (av (bE iN (ay 0) (fQ (av (dC (.int 1)) a8))) (av (bE iN (ay 1) (fQ (av (dC (.int 0)) a8))) a8)))) (aP 1))
 (c5 (dB (bC jI (av (dB (bC i8 (av (ay 1) a8))) a8)))))
noncomputable def jX:mR:=fun ds G Q _=>∃ rows:Rows,ds=[enc rows]/\rows.flatten.length<=24/\Q (oC (mH (JJ (Gh (OG (lC (pairsOf rows))))))) G
theorem zq(ds:List D)(G:Gp)(Q:DK)(h:jX ds G Q fun _ _=>False):rg (fun _ _=>False) (ends Q) (bF 2 ds) G:=by
 obtain⟨rows,rfl,hl,q⟩:=h;have l1:=zN (pairsOf rows);have l2:=pairs_len rows;unfold rg;simp only [ends,bF,ak,bq,aj,aE,bc,az,aT,c9,bQ,gy,Bp,bC,av,ay,aa,a8,aP,c5,dB,ar,ao,ae];refine⟨rows,rfl,by lia,?_⟩;generalize hn:lC (pairsOf rows)=l at q l1;have hk:(((bB l).all fun p=>jS p.1)=true):=by
  unfold bB; rw [lP,hW]; intro p _; rfl
 refine⟨hk,?_⟩;have em:((bB l).map fun p=>D.tup [p.1,p.2])=l.map fun p=>D.tup [enc p.1,enc p.2]:=by unfold bB; rw [br]; rfl
 rw [em];refine⟨Jp (by rw [aC]; lia),?_⟩;refine kl (xs:=l) (f:=fun p=>D.tup [enc p.1,enc p.2]) (fun pre acc τ G'=>G=G'/\(∃ a b,τ=[a,b])/\acc=(OG pre).map enc) ⟨rfl,⟨_,_,rfl⟩,rfl⟩ (fun _ _ _ _ _=>trivial) ?_ ?_
 ·rintro pre x post acc τ G' N e ⟨rfl,⟨a,b,rfl⟩,rfl⟩ hN;simp only [jf,dF,aP,i6,fQ,av,bE,ay,Tj,ao,ar,aa,dC,a8,aj,aE,ae,pM,az,aT];refine⟨by decide,by simp,by decide,by decide,by simp,by decide,by decide,hN _ _ _ ⟨rfl,⟨_,_,rfl⟩,?_⟩⟩;unfold OG;rw [a9,a9]; rfl
 ·rintro acc τ G' ⟨rfl,⟨a,b,rfl⟩,rfl⟩ p hp;have lt:(OG l).length<=24:=by unfold OG; rw [aC]; lia
  refine⟨.ref p,OG l,rfl,oe (IsL.ref aJ),by lia,fun p2 qR=>?_⟩;refine iH ((fN.new hp).trans (.new qR)) ((fN.new hp).free qR) aJ ?_;have lf:=IE (OG l);exact⟨Gh (OG l),rfl,⟨Te _,by lia⟩,c4 q⟩
end JB
end K2
end
section
namespace K2
open PySem (Str)
open Enc (enc)
namespace JB
open K2.P K2.J
open K2.Y (Po L ND NZ fi vR iG ju dD gC iL gN j9 Pl)
theorem Qf(l:List (T3×T3))(k:T3):((bB l).filter fun p=>!hZ p.1 (enc k))=bB (BF l k):=by
 unfold bB BF;rw [List.filter_map];congr 1;refine List.filter_congr fun p _=>?_;show (!hZ (enc p.1) (enc k))=_;rw [Enc.eqv]; simp
theorem HJ{G:Gp}{a:Nat}{l:List (T3×T3)}{k v:T3}{Q:DK}(h:G a=some (.gu (bB l)))(e:cH l k=some v)(q:Q (enc v) (eD G a (.gu (bB (BF l k))))):Dq (.ref a) [enc k] G Q:=by
 refine⟨bB l,enc v,h,⟨rfl,?_,by rw [tG,e]; rfl⟩,by rw [Qf]; exact q⟩;unfold bB; rw [lP,hW]; intro p _; rfl
theorem SV{α:Type} [DecidableEq α]{f:α->α}(h:Iv f){x y e:α}(he:f e=e):jn f x y e=e:=by
 have h1:=h x;have h2:=h y;unfold jn
 grind
theorem tN{f:T3->T3}:∀ {ps:Pr T3},Ok f ps->∀ {e:T3},f e=e->gQ f ps e=e:=by
 intro ps;induction ps generalizing f with
 | nil=>intro o e h; exact h
 | cons p ps ih=>intro o e h; exact ih o.tl (SV o.iv h)
theorem sub_len'{α:Type} [DecidableEq α]:∀ (xs ys:List α),xs.Nodup->(∀ x∈xs,x∈ys)->xs.length<=ys.length
 | [],_,_,_=>cB _
 | x :: xs,ys,hn,h=>by
  rw [aO] at hn;have:=sub_len' xs (ys.erase x) hn.2 fun y hy=>(OS (show y≠x from fun z=>hn.1 (by rw [<-z]; exact hy))).mpr (h y (aL _ hy));have hx:=h x (by simp);rw [Jf hx] at this;have:=Lp hx;rw [aj]; lia
theorem IH{l:List (T3×T3)}{f:T3->T3}(h:I0 l f){E:List T3}(hE:∀ e,f e≠e->e∈E):l.length<=E.length:=by
 have:=sub_len' (l.map fun p:T3×T3=>p.1) E h.nd fun e he=>by
  obtain⟨p,hp,rfl⟩:=List.mem_map.mp he;exact hE _ (h.mem hp).2
 simpa using this
theorem IJ(l:List (T3×T3))(k:T3):(BF l k).length<=l.length:=dw _ _
theorem Ec(f:T3->T3)(ps:Pr T3)(x:T3×T3):cls f (ps++[x])=cls f ps+cl (gQ f ps) x.1 x.2:=by rw [lM]; rfl
theorem DC(f:T3->T3)(ps:Pr T3)(x:T3×T3):gQ f (ps++[x])=jn (gQ f ps) x.1 x.2:=by rw [lF]; rfl
noncomputable def pK:hV :=
 (cN (bQ (bC i8 (av (ay 0) a8)) (aP 2))
 (cN (bQ (dC (.int 0)) (aP 3))
 (cN (fR (oT (ay 1)) (jf (dF (aP 4) (dF (aP 5) i6))) (cN (bQ (yQ O2 Dq (ay 2) (av (ay 4) a8)) (aP 6))
 (cN (bQ (yQ O2 Dq (ay 2) (av (ay 5) a8)) (aP 7))
 (jV (jy (bE (HD false) (ay 6) (ay 5))) (bQ (bE iN (ay 3) (dC (.int 1))) (aP 3)) (cN (bQ (ay 7) (lI (ay 2) (ay 6)))
 (bQ (ay 6) (lI (ay 2) (ay 7))))))))
 (c5 (dB (fQ (av (bC jI (av (dB (ay 2)) a8)) (av (ay 3) a8))))))))
noncomputable def jo:mR:=fun ds G Q _=>∃ (P ps:Pr T3),ds=[oC (mH P),enc ps]/\((es P).Nodup/\P.length<=24/\Ok (pt P) ps)/\∀ P':Pr T3,(es P').Nodup->pt P'=gQ (pt P) ps->Q (.tup [oC (mH P'),.int (cls (pt P) ps)]) G
theorem yD(ds:List D)(G:Gp)(Q:DK)(h:jo ds G Q fun _ _=>False):pK (fun _ _=>False) (ends Q) (bF 8 ds) G:=by
 obtain⟨P,ps,rfl,⟨nd,hl,ok⟩,q⟩:=h;unfold pK;simp only [↓c9,bQ,bC,av,ay,bF,↓ak,↓Mh,↓bq,↓aj,↓aE,bc,↓az,↓aT,↓aa,a8,aP,dC,ends,↓ar,↓ao];refine⟨.tup (P.map enc),P,rfl,rfl,by lia,fun p hp=>?_⟩;simp only [↓dB,↓bF,↓ends,↓eA,↓bE,↓Lb,↓ay,↓uy,↓yQ,↓av,↓a8,↓c5,↓IL,↓nA,↓bQ,↓aP,↓dC,↓fB,↓fQ,↓kj,↓oo,↓qD,↓GC,↓Lc,↓rW,↓qb,↓wy,↓qa,↓EI,↓kh,↓gX,↓fJ,↓lG,↓bC,↓gy,↓dq,↓pM,↓mY,↓mX,↓mV,↓jt,↓gi,↓mW,↓lA,↓sX,↓v7,↓v9,↓wa,↓gJ,↓iM,↓sT,↓sU,↓sV,↓nC,↓ud,↓qG,↓ja,↓kc,↓mj,↓iY,↓nQ,↓nR,↓v3,↓vZ,↓true_and,↓and_true,↓tS,↓tR,↓gE,↓cF,↓jJ,↓pU,↓wm,↓tO,↓ak,↓bq,↓az,↓aT,↓aa,↓ae,↓ao,↓ar,↓aj,↓aE,↓bc,↓if_true,↓if_false,↓bV,↓eC,↓aq,↓c9,↓sJ,↓lI,↓i5,↓tQ,↓sW,↓kZ,↓yh,↓jf,↓dF,↓i6];refine gf (fun τ G'=>∃ (l:List (T3×T3)) (a1 a2 a3 a4:Option D),τ=[some (.tup (P.map enc)),some (enc ps),some (.ref p),some (.int (cls (pt P) ps)),a1,a2,a3,a4]/\fN G G'/\G' p=some (.gu (bB l))/\I0 l (gQ (pt P) ps)) ?_ ?_
 ·intro N hN;simp only [fR,↓fJ,ay,↓ae,↓aa];refine j4 ?_;refine eU (xs:=ps) (fun pre τ G'=>∃ (l:List (T3×T3)) (a1 a2 a3 a4:Option D),τ=[some (.tup (P.map enc)),some (enc ps),some (.ref p),some (.int (cls (pt P) pre)),a1,a2,a3,a4]/\fN G G'/\G' p=some (.gu (bB l))/\I0 l (gQ (pt P) pre)) ⟨Gh P,_,_,_,_,rfl,.new hp,aJ,IF nd⟩ (fun _ _ _ _=>trivial) ?_ ?_
  ·rintro pre x post τ G' N2 e ⟨l,a1,a2,a3,a4,rfl,le,gp,fa⟩ qv;have UP:Ok (pt P) (pre++x :: post):=by rw [<-e]; exact ok
   have PN:=UP.left;obtain⟨n1,n2,n3⟩:=PN.hd;obtain⟨f1,f2,f3,f4⟩:=fa.join PN.iv n1 n2 n3;have ll:l.length<=(es P).length:=IH fa fun e he=>(uM nd).mp fun z=>he (tN UP.pre z);rw [Gr] at ll;have e0:(enc x:D)=.tup [enc x.1,enc x.2]:=rfl;rw [e0];simp only [jf,dF,i6,aP,ao,ar];simp only [↓c9,bQ,yQ,ay,↓ae,↓aa,↓nR,↓gp,av,a8,aP,↓ar,↓ao,↓true_and];refine HJ gp f1 ?_;simp only [↓aJ,↓true_and];refine HJ aJ f2 ?_;simp only [jV,↓eA,bE,ay,↓ae,↓aa,bQ,dC,↓dq,aP,↓ar,↓ao,↓c9,lI];refine⟨_,_,Enc.sn _ _ _ (by decide),Enc.sn _ _ _ (by decide),?_⟩;simp only [↓cF,↓aq,↓Enc.eqv,↓if_false];by_cases c:gQ (pt P) pre x.1=x.2
   ·simp only [↓c,↓decide_true,↓if_true];refine qv _ _ ?_;have ec:((cls (pt P) pre+1:Nat):Int)=(cls (pt P) pre:Int)+1:=Int.natCast_add _ _;rw [Ec,DC,cl,if_pos c,ec];exact⟨_,_,_,_,_,rfl,(le.put hp).put hp,aJ,f3 c⟩
   ·simp only [↓c,↓decide_false,↓aq,↓if_false];have d1:=IJ l x.1;have d2:=IJ (BF l x.1) x.2;refine K2.P.gO (k:=gQ (pt P) pre x.1) (v:=gQ (pt P) pre x.2) aJ (by lia) ?_;have d3:=qe (BF (BF l x.1) x.2) (gQ (pt P) pre x.1) (gQ (pt P) pre x.2);refine K2.P.gO (k:=gQ (pt P) pre x.2) (v:=gQ (pt P) pre x.1) aJ (by lia) ?_;refine qv _ _ ?_;rw [Ec,DC,cl,if_neg c,oV];exact⟨_,_,_,_,_,rfl,(((le.put hp).put hp).put hp).put hp,aJ,f4 c⟩
  ·rintro τ G' ⟨l,a1,a2,a3,a4,rfl,le,gp,fa⟩;exact hN _ _ ⟨l,_,_,_,_,rfl,le,gp,fa⟩
 ·rintro _ G' ⟨l,a1,a2,a3,a4,rfl,le,gp,fa⟩;have iv:Iv (gQ (pt P) ps):=M3 ok;have ll:l.length<=(es P).length:=IH fa fun e he=>(uM nd).mp fun z=>he (tN ok z);rw [Gr] at ll;obtain⟨h1,h2⟩:=HK fa iv;simp only [c5,dB,fQ,av,bC,ay,↓ae,↓aa,a8,↓aj,↓aE];refine iH le hp gp ?_;refine⟨l,rfl,⟨fa.nd,by lia⟩,by decide,c4 (q _ h1 h2)⟩
end JB
end K2
end
section
namespace K2
open PySem (Str)
open Enc (enc)
namespace JB
open K2.P K2.J
open K2.Y (Po L ND NZ fi vR iG ju dD gC iL gN j9 Pl)
noncomputable def VO(ns:List Int)(k:PK):Prop:=∃ P,k=mH P/\(es P).Nodup/\∀ e,pt P e≠e↔∃ n∈ns,e∈jG n
structure QB(S:Su)(ns:List Int):Prop where
 K6:KN S
 pl:∀ p∈S,VO ns p.1
noncomputable def BV(ns:List Int):List T3:=ns.flatMap jG
theorem Ej(ns:List Int):(BV ns).length=4 * ns.length:=by
 induction ns with
 | nil=>rfl
 | cons n ns ih=>unfold BV at *; rw [eS,aB,ih,aj]; show 4+_=_; lia
theorem So{ns:List Int}{P:Pr T3}(nd:(es P).Nodup)(h:∀ e,pt P e≠e↔∃ n∈ns,e∈jG n):P.length<=2 * ns.length:=by
 have:=sub_len' (es P) (BV ns) nd fun e he=>by
  obtain⟨n,h1,h2⟩:=(h e).mp ((uM nd).mpr he);exact List.mem_flatMap.mpr ⟨n,h1,h2⟩
 rw [Gr,Ej] at this; lia
theorem UC{ns:List Int}{P:Pr T3}(nd:(es P).Nodup)(hn:ns.Nodup)(h:∀ e,pt P e≠e↔∃ n∈ns,e∈jG n):Dm (pt P) ns:=⟨Me nd,hn,fun n Yl e he=>(h e).mpr ⟨n,Yl,he⟩⟩
theorem SU{f:T3->T3}:∀ {ps:Pr T3},Ok f ps->∀ {e:T3},e∈es ps->gQ f ps e=e:=by
 intro ps;induction ps generalizing f with
 | nil=>intro o e h; cases h
 | cons p ps ih =>
  intro o e h;rw [es,aQ,aQ] at h;rcases h with rfl | rfl | h
  ·exact tN o.tl XM
  ·exact tN o.tl XJ
  ·exact ih o.tl h
theorem Pu{n:Int}{ns:List Int}{f:T3->T3}(d:Dm f (n :: ns))(h:∀ e,f e≠e↔∃ m∈n :: ns,e∈jG m)(w:Bool):∀ e,gQ f (js n w) e≠e↔∃ m∈ns,e∈jG m:=by
 have ok:=d.ok w;have nn:=(List.nodup_cons.mp d.nd).1;intro e;constructor
 ·intro z;have h1:f e≠e:=fun y=>z (tN ok y);obtain⟨m,hm,he⟩:=(h e).mp h1;rcases List.mem_cons.mp hm with rfl | hm
  ·exact absurd (SU ok ((jw m w).mem_iff.mpr he)) z
  ·exact⟨m,hm,he⟩
 ·rintro⟨m,hm,he⟩ z;rcases Ik ok z with z | z
  ·have h1:=qB ((jw n w).mem_iff.mp z);have h2:=qB he;exact nn (by rw [<-h1,h2]; exact hm)
  ·exact(h e).mpr ⟨m,aL _ hm,he⟩ z
theorem Rx{α:Type} [DecidableEq α](f:α->α)(x y:α):cl f x y<=1:=by unfold cl; split <;> decide
theorem N8(f:T3->T3)(n:Int)(w:Bool):cls f (js n w)<=2:=by
 cases w <;> (show _+(_+0)<=2; have:=Rx f; have a:=fun f x y=>Rx (α:=T3) f x y; have h1:=a f; have h2:=a; grind)
theorem RD:ND LP:=by unfold ND LP; decide
theorem Ow:fi LP=2:=rfl
theorem ou{n:Nat}(h:n<=2 ^ 30):n < qT:=gm h (by unfold qT; exact Nat.pow_lt_pow_right (by decide) (by decide))
theorem CT{c:Nat}(h:c<=3):c<=1000/\∀ k,k < c->LP.length ^ k * LP.length<=SZ/\fi LP ^ k < qT:=by
 refine⟨by lia,fun k hk=>?_⟩;have:k=0\/k=1\/k=2:=by lia
 rcases this with rfl | rfl | rfl
 ·exact⟨by decide,ou (by decide)⟩
 ·exact⟨by decide,ou (by decide)⟩
 ·exact⟨by decide,ou (by decide)⟩
theorem Fm{c:Nat}(h:c<=3):fi (dD LP c)<=8:=bu (Y.nX LP c) (show 2 ^ c<=2 ^ 3 from jk (by decide) h)
theorem Pt{c:Nat}(h:c<=2):(dD LP c).length<=4:=bu (Y.rC LP c) (show 2 ^ c<=2 ^ 2 from jk (by decide) h)
theorem Jl{l:Po}{G:Gp}{Q:Bool->Gp->Prop}(h:Q (!l.isEmpty) G):pz (.jY (bB l)) G Q:=by
 unfold pz ED;dsimp only;have k:((bB l).all fun p=>dZ p.1)=true:=by unfold bB; rw [lP,hW]; intro p _; rfl
 rw [if_pos k];have:(bB l).isEmpty=l.isEmpty:=by cases l <;> rfl
 rw [this]; exact h
theorem MH{G:Gp}{a:Nat}{A:Su}{k:PK}{Q:DK}(h:G a=some (.qS (g4 A)))(q:Q (.jY (bB ((cH A k).getD []))) G):Ds (.ref a) [oC k,.jY []] G Q:=by
 refine⟨_,k,h,rfl,?_⟩;rw [zT];cases e:cH A k with
 | none=>rw [e] at q; exact q
 | some l=>rw [e] at q; exact q
theorem zC{G:Gp}{a:Nat}{A:Su}{k:PK}{l:Po}{Q:Gp->Prop}(h:G a=some (.qS (g4 A)))(hz:A.length < SZ)(q:Q (eD G a (.qS (g4 (ez A k l))))):Fd (.ref a) (oC k) (.jY (bB l)) G Q:=by
 refine⟨_,k,h,rfl,by unfold g4; rw [aC]; exact hz,?_⟩;rw [Mc]; exact q
theorem FW{G G1:Gp}{p:Nat}{A:Su}{Q:DK}(l:fN G G1)(hp:G p=none)(h1:G1 p=some (.qS (g4 A)))(q:Q (.nG (g4 A)) G):KP G1 (.ref p) Q :=
 ⟨fun a=>(G a).isNone,.nG (g4 A),.qS h1 (by simp [hp]) (.same _) rfl,by rw [t4 l]; exact q⟩
noncomputable def term(h n:Int)(rest:List (Int×Int))(g:Fn)(f:T3->T3)(l:Po)(w:Bool):Int:=L (fun j=>Br (gQ f (js n w)) rest (gT (cls f (js n w)) (sh (pw h w) (sh j g)))) l
theorem Jn(h n:Int)(rest:List (Int×Int))(g:Fn)(f:T3->T3)(l:Po):term h n rest g f l false+term h n rest g f l true=L (fun j=>Br f ((n,h) :: rest) (sh j g)) l:=by
 unfold term;rw [<-Y.RC]; rfl
noncomputable def wW(h n:Int)(rest:List (Int×Int))(g:Fn)(f:T3->T3)(l:Po):List Bool->Int
 | []=>0
 | w :: ws=>term h n rest g f l w+wW h n rest g f l ws
theorem E5(h n:Int)(rest:List (Int×Int))(g:Fn)(f:T3->T3)(l:Po)(ws:List Bool)(w:Bool):wW h n rest g f l (ws++[w])=wW h n rest g f l ws+term h n rest g f l w:=by
 induction ws with
 | nil=>simp [wW]
 | cons v ws ih=>rw [az,wW,wW,ih]; lia
structure Le(n h:Int)(rest:List (Int×Int))(pre:Su)(f:T3->T3)(l:Po)(ws:List Bool)(A:Su):Prop where
 ok:QB A (rest.map (·.1))
 len:A.length<=2 * pre.length+ws.length
 fi:gq A<=8 * gq pre+ws.length * (4 * fi l)
 val:∀ g,mG rest g A=mG ((n,h) :: rest) g pre+wW h n rest g f l ws
theorem Le.step{n h:Int}{rest:List (Int×Int)}{pre:Su}{f:T3->T3}{l:Po}{ws:List Bool}{A:Su}(a:Le n h rest pre f l ws A){P':Pr T3}{w:Bool}(nd:(es P').Nodup)(e:pt P'=gQ f (js n w))(hp:∀ e,gQ f (js n w) e≠e↔∃ m∈rest.map (·.1),e∈jG m) :
  Le n h rest pre f l (ws++[w]) (qZ A (mH P') l (cls f (js n w)) (pw h w)):=by
 refine⟨⟨LK a.ok.K6 _ _ _ _,fun p ux=>?_⟩,?_,?_,fun g=>?_⟩
 ·unfold qZ ez at ux;have here:VO (rest.map (·.1)) (mH P'):=⟨P',rfl,nd,fun e'=>by rw [e]; exact hp e'⟩;split at ux
  ·obtain⟨q,hq,rfl⟩:=List.mem_map.mp ux;have:=a.ok.pl q hq;split <;> exact this
  ·rcases List.mem_append.mp ux with ux | ux
   ·exact a.ok.pl p ux
   ·rw [cT] at ux; subst ux; exact here
 ·have h1:=a.len;have h2:(qZ A (mH P') l (cls f (js n w)) (pw h w)).length<=A.length+1:=by unfold qZ ez; split <;> simp
  rw [aB,du]; lia
 ·have h1:=a.fi;have h2:=LJ a.ok.K6 (mH P') l (N8 f n w) (pw h w);rw [aB,du,Nat.add_mul,Nat.one_mul]; lia
 ·rw [LI a.ok.K6,a.val,E5,Gw,e];unfold term;lia
end JB
end K2
end
section
namespace K2
open PySem (Str)
open Enc (enc)
namespace JB
open K2.P K2.J
open K2.Y (Po L ND NZ fi vR iG ju dD gC iL gN j9 Pl)
theorem Le.zero{n h:Int}{rest:List (Int×Int)}{f:T3->T3}{l:Po}:Le n h rest [] f l [] [] :=
 ⟨⟨⟨cE,fun p hp=>by cases hp⟩,fun p hp=>by cases hp⟩,aF _,cB _,fun g=>rfl⟩
theorem Le.next{n h:Int}{rest:List (Int×Int)}{pre:Su}{x:PK×Po}{l':Po}{f':T3->T3}{A:Su}(a:Le n h rest pre (pt (dec x.1)) x.2 [false,true] A):Le n h rest (pre++[x]) f' l' [] A:=by
 refine⟨a.ok,?_,?_,fun g=>?_⟩
 ·have:=a.len;rw [aB,du]; simp at this ⊢; lia
 ·have:=a.fi;rw [xA];simp only [aj,aE,gq] at this ⊢; lia
 ·rw [a.val,Hn];show _+(term h n rest g _ x.2 false+(term h n rest g _ x.2 true+0))=_+(L _ x.2+0)+0;have:=Jn h n rest g (pt (dec x.1)) x.2;lia
theorem Mx{S pre post:Su}{x:PK×Po}(e:S=pre++x :: post):gq pre+fi x.2<=gq S:=by
 rw [e,xA,gq]; lia
theorem zX(S:Su)(p:PK×Po):iP (S++[p])=if p.2.isEmpty=true then iP S else iP S++[p]:=by
 unfold iP;rw [dN];by_cases h:p.2.isEmpty=true
 ·rw [if_pos h,qY (by simp [h])]; simp
 ·rw [if_neg h,KS (by simp [h])]; simp
theorem MW{S pre post:Su}{x:PK×Po}(nd:(S.map (·.1)).Nodup)(e:S=pre++x :: post):x.1∉(iP pre).map (·.1):=by
 intro z;obtain⟨q,hq,e2⟩:=List.mem_map.mp z;have Ri:=(List.mem_filter.mp hq).1;rw [e,a9,ak,eP] at nd;exact nd.2.2 _ (bI Ri) _ cb e2
noncomputable def sQ:hV :=
 (cN (bQ N6 (aP 3))
 (cN (GB 3 (fR (tP (ay 0)) (jf (dF (aP 4) (dF (aP 5) i6))) (fR (oT (fQ (av (dC (.int 0)) (av (dC (.int 1)) a8)))) (aP 6) (cN (bQ (bC jo (av (ay 4) (av (bC qm (av (ay 1) (av (ay 6) a8))) a8))) (aP 7))
 (cN (bQ (bC gC (av (dB (bC iL (av (dB (ay 5)) (av (dB (bC gN (av (dB (D7 [(2,-1),(-2,-1)])) (av (dB (bE lR (ay 7) (dC (.int 1)))) a8)))) a8)))) (av (dB (bC l0 (av (ay 2) (av (ay 6) a8)))) (av (dB (dC (.int 1))) a8)))) (aP 8))
 (bQ (dB (bC j9 (av (dB (yQ tyP Ds (ay 3) (av (dB (bE lR (ay 7) (dC (.int 0)))) (av (dB oo) a8)))) (av (dB (ay 8)) a8)))) (DL (ay 3) (bE lR (ay 7) (dC (.int 0))))))))))
 (cN (bQ N6 (aP 9))
 (cN (GB 3 (fR (tP (ay 3)) (jf (dF (aP 4) (dF (aP 5) i6))) (jV (jy (ay 5)) (bQ (dB (ay 5)) (DL (ay 9) (ay 4))) fB)))
 (c5 (dB (ay 9)))))))
noncomputable def kN:mR:=fun ds G Q _=>∃ (S:Su) (n h:Int) (rest:List (Int×Int)),ds=[.nG (g4 S),.int n,.int h]/\(QB S (n :: rest.map (·.1))/\(n :: rest.map (·.1)).Nodup/\rest.length<=11/\S.length<=1048576/\gq S<=1048576) /\
 ∀ S':Su,QB S' (rest.map (·.1))->S'.length<=gq S'->gq S'<=8 * gq S->(∀ g,mG rest g S'=mG ((n,h) :: rest) g S)->Q (.nG (g4 S')) G
theorem BZ(ds:List D)(G:Gp)(Q:DK)(h:kN ds G Q fun _ _=>False):sQ (fun _ _=>False) (ends Q) (bF 10 ds) G:=by
 obtain⟨S,n,h,rest,rfl,⟨so,nn,hr,hSl,hSn⟩,q⟩:=h;unfold sQ;simp only [↓c9,bQ,N6,gv,aP,ends,bF,↓ak,↓bq,↓aj,↓aE,bc,↓az,↓aT,↓ar,↓ao];intro p hp;refine gf (fun τ G'=>∃ (A:Su) (a1 a2 a3 a4 a5 a6:Option D),G=G'/\τ=[some (.nG (g4 S)),some (.int n),some (.int h),some (.nG (g4 A)),a1,a2,a3,a4,a5,a6]/\Le n h rest S (fun e=>e) [] [] A) ?_ ?_
 ·intro N hN;simp only [GB];simp only [fR,tP,ay,↓aa];show oH _ _ _ ((g4 S).map _) _ _ _ _;have em:((g4 S).map fun p=>D.tup [oC p.1,p.2])=S.map fun p=>D.tup [oC p.1,.jY (bB p.2)]:=by unfold g4; rw [br]; rfl
  rw [em];refine eU (xs:=S) (f:=fun p=>D.tup [oC p.1,.jY (bB p.2)]) (fun pre τ G'=>∃ (A:Su) (a1 a2 a3 a4 a5 a6:Option D),fN G G'/\G' p=some (.qS (g4 A))/\τ=[some (.nG (g4 S)),some (.int n),some (.int h),some (.ref p),a1,a2,a3,a4,a5,a6]/\Le n h rest pre (fun e=>e) [] [] A)
   ⟨[],_,_,_,_,_,_,.new hp,aJ,rfl,.zero⟩ (fun _ _ _ _=>trivial) ?_ ?_
  ·rintro pre x post τ G' N2 e ⟨A,a1,a2,a3,a4,a5,a6,le,gp,rfl,af⟩ qv;obtain⟨P,ek,nd,pl⟩:=so.pl x (by rw [e]; simp);have dm:=UC nd nn pl;have pll:=So nd pl;have hx:=so.K6.2 x (by rw [e]; simp);have hnx:=Mx e;have hlx:=Bb hx.2;have FV:pre.length < S.length:=by rw [e]; simp
   have ed:dec x.1=P:=by rw [ek,Gw]
   simp only [jf,dF,i6,aP,ao,ar];simp only [fR,↓fJ,fQ,av,dC,a8,↓aj,↓aE,↓tR];refine⟨by decide,?_⟩;refine eU (xs:=[false,true]) (f:=fun w=>D.int (wI w)) (fun ws τ G'=>∃ (A:Su) (a3 a4 a5 a6:Option D),fN G G'/\G' p=some (.qS (g4 A))/\τ=[some (.nG (g4 S)),some (.int n),some (.int h),some (.ref p),some (oC x.1),some (.jY (bB x.2)),a3,a4,a5,a6]/\Le n h rest pre (pt P) x.2 ws A)
    ⟨A,_,_,_,_,le,gp,rfl,⟨af.ok,af.len,by have:=af.fi; simp only [aE,Nat.zero_mul] at this ⊢; exact this,af.val⟩⟩ (fun _ _ _ _=>trivial) ?_ ?_
   ·rintro ws w wt τ G2 N3 ew ⟨B,b3,b4,b5,b6,OK,K9,rfl,bf⟩ Ny;have Um:ws.length<=1:=by
     have:=congrArg dU ew;simp at this; lia
    have hc:=N8 (pt P) n w;have bl:=bf.len;have bn:=bf.fi;have bn2:gq B<=8388608:=by
     have:ws.length * (4 * fi x.2)<=1 * (4 * fi x.2):=jl _ Um;lia
    simp only [aP,↓c9,bQ,bC,av,ay,↓ar,ek,↓ao,↓ae,↓aa,a8,dB,bE,dC,yQ,oo];refine⟨n,w,rfl,?_⟩;refine⟨P,js n w,rfl,⟨nd,by simp only [aj,aC] at pll; lia,dm.ok w⟩,fun P' nd' ep=>?_⟩;have p0:Le n h rest pre (pt P) x.2 (ws++[w]) (qZ B (mH P') x.2 (cls (pt P) (js n w)) (pw h w)):=bf.step nd' ep (Pu dm pl w);simp only [↓gJ,Ry,Rz];generalize ec:cls (pt P) (js n w)=c at hc p0;have hx1:=hx.1;have l1:(dD LP c).length<=4:=Pt hc;have l2:x.2.length * (dD LP c).length<=1048576 * 4:=Nat.mul_le_mul (by lia) l1;have l3:=Y.xk x.2 (dD LP c);have l4:fi x.2 * fi (dD LP c)<=1048576 * 8:=Nat.mul_le_mul (by lia) (Fm (by lia));have l5:=Y.rF x.2 (dD LP c);have l6:(Pk x.2 c (pw h w)).length<=(iG x.2 (dD LP c)).length:=bu (Y.uP _) (by rw [aC]; exact aF _);have l7:=Bb (bf.ok.K6.get (mH P')).2;have l8:=HY B (mH P');refine c4 ?_;unfold D7;intro p5 f5;refine iH (.new f5) f5 aJ (c4 ?_);refine⟨_,LP,c,rfl,⟨rfl,RD⟩,CT (by lia),by rw [Ow]; exact ou (by decide),fun p6 f6=>?_⟩;refine iH (.new f6) f6 aJ ?_;refine⟨_,_,x.2,dD LP c,rfl,⟨rfl,hx1⟩,⟨rfl,Y.uN _ _⟩,bu l2 (by decide),⟨ou (by lia),ou (bu (Fm (by lia)) (by decide))⟩,fun p7 f7=>?_⟩;refine iH (.new f7) f7 aJ ?_;refine⟨h,w,rfl,c4 (c4 ?_)⟩;refine⟨_,iG x.2 (dD LP c),pw h w,1,rfl,⟨rfl,Y.uL _ _⟩,bu (bu l3 l2) (by decide),⟨ou (bu (bu l5 l4) (by decide)),ou (by decide)⟩,fun p8 f8=>?_⟩;have h8:p≠p8:=by rintro rfl; rw [K9] at f8; cases f8
    refine⟨by unfold tyP; simp only [dR h8,K9],c4 ?_⟩;intro p9 f9;refine iH (.new f9) f9 aJ ?_;refine MH (by rw [dR h8]; exact K9) (c4 ?_);refine iH (.new f8) f8 aJ ?_;refine⟨_,_,(cH B (mH P')).getD [],Pk x.2 c (pw h w),rfl,⟨rfl,(bf.ok.K6.get _).1⟩,⟨rfl,Y.JE (Y.uL _ _) _ _⟩,?_,fun p10 Wn=>?_⟩
    ·show _<=16777216;lia
    refine iH (.new Wn) Wn aJ ?_;unfold DL;simp only [ay,↓ae,↓aa,bE,dC,↓gJ,Rz];refine zC K9 (show _ < 16777216 by lia) ?_;rw [<-ek];exact Ny _ _ ⟨_,_,_,_,_,OK.put hp,aJ,rfl,p0⟩
   ·rintro τ G2 ⟨B,b3,b4,b5,b6,OK,K9,rfl,bf⟩;refine qv _ _ ⟨B,_,_,_,_,_,_,OK,K9,rfl,?_⟩;rw [<-ed] at bf;exact bf.next
  ·rintro τ G' ⟨A,a1,a2,a3,a4,a5,a6,le,gp,rfl,af⟩;simp only [↓ae,↓aa,↓ar,↓ao];refine FW le hp gp ?_;exact hN _ _ ⟨A,_,_,_,_,_,_,rfl,rfl,af⟩
 ·rintro _ G' ⟨A,a1,a2,a3,a4,a5,a6,rfl,rfl,af⟩;simp only [↓c9,bQ,N6,gv,aP,↓ar,↓ao];intro p2 qR;have al:=af.len;have an:=af.fi;simp only [aE,Nat.zero_mul,oV] at al an;refine gf (fun τ G'=>∃ (a1 a2 a3 a4 a5:Option D),τ=[some (.nG (g4 S)),some (.int n),some (.int h),some (.nG (g4 A)),a1,a2,a3,a4,a5,some (.ref p2)]/\fN G G'/\G' p2=some (.qS (g4 (iP A)))) ?_ ?_
  ·intro N hN;simp only [GB];simp only [fR,tP,ay,↓ae,↓aa];show oH _ _ _ ((g4 A).map _) _ _ _ _;have em:((g4 A).map fun p=>D.tup [oC p.1,p.2])=A.map fun p=>D.tup [oC p.1,.jY (bB p.2)]:=by unfold g4; rw [br]; rfl
   rw [em];refine eU (xs:=A) (f:=fun p=>D.tup [oC p.1,.jY (bB p.2)]) (fun pre τ G'=>∃ (a1 a2 a3 a4 a5:Option D),τ=[some (.nG (g4 S)),some (.int n),some (.int h),some (.nG (g4 A)),a1,a2,a3,a4,a5,some (.ref p2)]/\fN G G'/\G' p2=some (.qS (g4 (iP pre))))
    ⟨_,_,_,_,_,rfl,.new qR,aJ⟩ (fun _ _ _ _=>trivial) ?_ ?_
   ·rintro pre x post τ G' N2 e ⟨b1,b2,b3,b4,b5,rfl,le,gp⟩ qv;simp only [jf,dF,i6,aP,ao,ar];simp only [jV,↓eA,ay,↓ae,↓aa,bQ,dB,fB];refine Jl ?_;have FV:pre.length < A.length:=by rw [e]; simp
    have hkl:(iP pre).length<=pre.length:=dw _ _;by_cases c:x.2.isEmpty=true
    ·simp only [c,bV,aq,if_false,fB];refine qv _ _ ⟨_,_,_,_,_,rfl,le,?_⟩;rw [zX,if_pos c]; exact gp
    ·have c':x.2.isEmpty=false:=by simpa using c
     simp only [c',eC,if_true];refine c4 ?_;unfold DL;simp only [ay,↓ae,↓aa];refine zC gp (show _ < 16777216 by lia) ?_;refine qv _ _ ⟨_,_,_,_,_,rfl,le.put qR,?_⟩;rw [aJ,zX,if_neg c,Y.kn (MW af.ok.K6.1 e)]
   ·rintro τ G' ⟨b1,b2,b3,b4,b5,rfl,le,gp⟩;simp only [↓ae,↓aa,↓ar,↓ao];exact c4 (hN _ _ ⟨_,_,_,_,_,rfl,le,gp⟩)
  ·rintro _ G' ⟨b1,b2,b3,b4,b5,rfl,le,gp⟩;simp only [c5,dB,ay,↓ae,↓aa];refine FW le qR gp ?_;refine q (iP A) ⟨DA af.ok.K6,fun p ux=>af.ok.pl p (List.mem_filter.mp ux).1⟩ ?_ ?_ fun g=>?_
   ·have:iP (iP A)=iP A:=by unfold iP; rw [List.filter_filter]; simp
    have h2:=MX (DA af.ok.K6);rw [this] at h2; exact h2
   ·exact bu (MV A) an
   ·rw [MU,af.val];show _+0=_;lia
end JB
end K2
end
section
namespace K2
open PySem (Str)
open Enc (enc)
namespace JB
open K2.P K2.J
open K2.Y (Po L ND NZ fi vR iG ju dD gC iL gN j9 Pl)
variable {rows:Rows}
noncomputable def eO(s:T2):T3:=⟨s.a,s.b,1⟩
noncomputable def eI(s:T2):T3:=⟨s.a,s.b,0⟩
noncomputable def K4(ps:List (T3×T3)):Pr T3:=ps.map fun p=>(eO p.1.s,eI p.2.s)
noncomputable def Hr(rows:Rows):Pr T3:=K4 (pairsOf rows)
noncomputable def fr(rows:Rows):T3->T3:=pt (Hr rows)
noncomputable def lo(rows:Rows):Nat:=(rows.filter fun r=>r.isEmpty).length
noncomputable def nh(rows:Rows):List (Int×Int):=(names rows).map fun n=>(n,handOf rows n)
theorem DY:∀ (P:Pr T3),(es P).Perm (P.map (·.1)++P.map (·.2))
 | []=>.refl _
 | p :: P=>by
  rw [es,ak,ak,az];refine AM _ ?_;exact((DY P).cons p.2).trans List.perm_middle.symm
theorem QL{ps:List (T3×T3)}(h1:(ps.map fun p=>p.1.s).Nodup)(h2:(ps.map fun p=>p.2.s).Nodup):(es (K4 ps)).Nodup:=by
 refine(DY _).nodup_iff.mpr (List.nodup_append.mpr ⟨?_,?_,?_⟩)
 ·have:(K4 ps).map (·.1)=(ps.map fun p=>p.1.s).map eO:=by unfold K4; rw [br,br]; rfl
  rw [this];refine qt h1 fun i _ j _ e=>?_;injection e with e1 e2
  cases i; cases j; simp only at e1 e2; rw [e1,e2]
 ·have:(K4 ps).map (·.2)=(ps.map fun p=>p.2.s).map eI:=by unfold K4; rw [br,br]; rfl
  rw [this];refine qt h2 fun i _ j _ e=>?_;injection e with e1 e2
  cases i; cases j; simp only at e1 e2; rw [e1,e2]
 ·intro a ha b hb e;obtain⟨p,hp,rfl⟩:=List.mem_map.mp ha;obtain⟨q,hq,rfl⟩:=List.mem_map.mp hb;obtain⟨p',_,rfl⟩:=List.mem_map.mp hp;obtain⟨q',_,rfl⟩:=List.mem_map.mp hq;injection e with _ _ e3
  cases e3
theorem E4(d:Dr rows):(es (Hr rows)).Nodup:=QL (NF d) (R5 d)
theorem RS(d:Dr rows):OG (lC (pairsOf rows))=Hr rows:=by
 rw [ME d];unfold OG Hr K4;rw [br]; rfl
theorem RT(d:Dr rows)(e:T3):e∈es (Hr rows)↔∃ p∈rows.flatten,e=eO p.s\/e=eI p.s:=by
 rw [kC];constructor
 ·rintro⟨q,hq,z⟩;obtain⟨pq,ZZ,rfl⟩:=List.mem_map.mp hq;have h1:pq.1∈rows.flatten:=by rw [<-nj rows]; exact bI ZZ
  have h2:pq.2∈rows.flatten:=(ni rows).mem_iff.mp (bI ZZ);rcases z with z | z
  ·exact⟨_,h1,.inl z⟩
  ·exact⟨_,h2,.inr z⟩
 ·rintro⟨p,hp,z | z⟩
  ·obtain⟨q,hq,_⟩:=Nv hp;exact⟨_,List.mem_map.mpr ⟨_,hq,rfl⟩,.inl z⟩
  ·obtain⟨q,hq,_⟩:=Nu hp;exact⟨_,List.mem_map.mpr ⟨_,hq,rfl⟩,.inr z⟩
theorem Hq(d:Dr rows)(e:T3):e∈es (Hr rows)↔∃ n∈names rows,e∈jG n:=by
 rw [RT d];constructor
 ·rintro⟨p,hp,z⟩;have hn:p.a∈names rows:=by
   rw [k8];rcases d.way p hp with w | w
   ·exact⟨p,hp,w,rfl⟩
   ·exact⟨_,d.Dl p hp,by simp [w],rfl⟩
  refine⟨p.a,hn,?_⟩;rcases d.way p hp with w | w <;> rcases z with rfl | rfl <;> simp [jG,eO,eI,T3.s,w]
 ·rintro⟨n,hn,he⟩;obtain⟨p,hp,w,rfl⟩:=k8.mp hn;have hm:=d.Dl p hp;unfold jG at he;simp only [aQ,cI,or_false] at he;have e0:p.s=⟨p.a,0⟩:=by show (⟨p.a,p.b⟩:T2)=_; rw [w]
  have e1:T3.s ⟨p.a,1 - p.b,p.c⟩=⟨p.a,1⟩:=by show (⟨p.a,1 - p.b⟩:T2)=_; rw [w]; rfl
  rcases he with rfl | rfl | rfl | rfl
  ·exact⟨p,hp,.inr (by rw [e0]; rfl)⟩
  ·exact⟨_,hm,.inl (by rw [e1]; rfl)⟩
  ·exact⟨_,hm,.inr (by rw [e1]; rfl)⟩
  ·exact⟨p,hp,.inl (by rw [e0]; rfl)⟩
theorem xC(d:Dr rows):(names rows).Nodup:=by
 unfold names;refine Jq ?_;have h:=d.nd;have:∀ {L:List T3},(L.map T3.s).Nodup->((L.filter fun p=>p.b == 0).map (·.a)).Nodup:=by
  intro L;induction L with
  | nil=>intro _; exact cE
  | cons p L ih =>
   intro h;rw [ak,aO] at h;rw [bD];split
   ·rename_i hp;rw [ak,aO];refine⟨fun z=>h.1 ?_,ih h.2⟩;obtain⟨q,hq,e⟩:=List.mem_map.mp z;have Ri:=List.mem_filter.mp hq;refine List.mem_map.mpr ⟨q,Ri.1,?_⟩;have b1:p.b=0:=by simpa using hp
    have b2:q.b=0:=by simpa using Ri.2
    show (⟨q.a,q.b⟩:T2)=⟨p.a,p.b⟩;rw [e,b1,b2]
   ·exact ih h.2
 exact this h
theorem Vx(d:Dr rows):Dm (fr rows) (names rows) :=
 ⟨Me (E4 d),xC d,fun n hn e he=>(uM (E4 d)).mpr ((Hq d e).mpr ⟨n,hn,he⟩)⟩
theorem xD(d:Dr rows):2 * (names rows).length<=rows.flatten.length:=by
 have h:=sub_len' ((names rows).flatMap fun n=>[(⟨n,0⟩:T2),⟨n,1⟩]) (rows.flatten.map T3.s) ?_ ?_
 ·have:((names rows).flatMap fun n=>[(⟨n,0⟩:T2),⟨n,1⟩]).length=2 * (names rows).length:=by
   generalize names rows=l;induction l with
   | nil=>rfl
   | cons n l ih=>rw [eS,aB,ih]; simp only [aj,aE]; lia
  rw [this,aC] at h; exact h
 ·have:∀ {l:List Int},l.Nodup->(l.flatMap fun n=>[(⟨n,0⟩:T2),⟨n,1⟩]).Nodup:=by
   intro l;induction l with
   | nil=>intro _; exact cE
   | cons n l ih =>
    intro h;rw [aO] at h;rw [eS,eP];refine⟨by simp,ih h.2,fun a ha b hb e=>?_⟩;obtain⟨m,hm,hb⟩:=List.mem_flatMap.mp hb;have ea:a.a=n:=by simp only [aQ,cI,or_false] at ha; rcases ha with rfl | rfl <;> rfl
    have eb:b.a=m:=by simp only [aQ,cI,or_false] at hb; rcases hb with rfl | rfl <;> rfl
    rw [e,eb] at ea;exact h.1 (ea ▸ hm)
  exact this (xC d)
 ·intro s hs;obtain⟨n,hn,hs⟩:=List.mem_flatMap.mp hs;obtain⟨p,hp,w,rfl⟩:=k8.mp hn;simp only [aQ,cI,or_false] at hs;rcases hs with rfl | rfl
  ·exact List.mem_map.mpr ⟨p,hp,by show (⟨p.a,p.b⟩:T2)=_; rw [w]⟩
  ·exact List.mem_map.mpr ⟨_,d.Dl p hp,by show (⟨p.a,1 - p.b⟩:T2)=_; rw [w]; rfl⟩
theorem Ro(d:Dr rows){n:Int}(h:n∈names rows):∃ p∈rows.flatten,p.a=n:=by
 obtain⟨p,hp,_,e⟩:=k8.mp h;exact⟨p,hp,e⟩
theorem L3(d:Dr rows):∀ r∈rows,r.length<=24:=fun r hr=>by
 have h1:=d.Aj;obtain⟨a,b,e⟩:=List.append_of_mem hr;rw [e,nE,eQ,aB,aB] at h1;lia
noncomputable def zM(rows:Rows)(ns:List Int):List (Int×Int):=ns.map fun n=>(n,handOf rows n)
theorem HZ(rows:Rows)(ns:List Int):(zM rows ns).map (·.1)=ns:=by
 unfold zM;rw [br];exact kW ns
theorem zip_map(f:Int->Int):∀ l:List Int,l.zip (l.map f)=l.map fun n=>(n,f n)
 | []=>rfl
 | n :: l=>by rw [ak,oO,zip_map f l,ak]
theorem W8{k:Nat}(h:k<=5):8 * 8 ^ k<=1048576:=by
 have:8 ^ k<=8 ^ 5:=jk (by decide) h;lia
noncomputable def zH:hV :=
 (cN (bQ (gy 1 [0] (oT (ay 1)) (aP 0) none (bC fO (av (ay 1) (av (ay 0) a8)))) (aP 2))
 (cN (bQ (uy ue (av (gy 1 [] (oT (ay 0)) (aP 0) (some (rW (jy (ay 0)))) (ay 0)) a8)) (aP 3))
 (cN (bQ (dB (N5 (bC jX (av (ay 0) a8)) (dB (bC gN (av (dB (D7 [(2,-1),(-2,-1)])) (av (dB (ay 3)) a8)))))) (aP 4))
 (cN (fR (Nh (ay 1) (ay 2)) (jf (dF (aP 5) (dF (aP 6) i6))) (bQ (dB (bC kN (av (ay 4) (av (ay 5) (av (ay 6) a8))))) (aP 4)))
 (c5 (dB (ay 4)))))))
noncomputable def ql:mR:=fun ds G Q _=>∃ (rows:Rows) (ns:List Int),ds=[enc rows,enc ns]/\(Dr rows/\ns.Perm (names rows)/\ns.length<=6) /\
 ∀ S':Su,QB S' []->gq S'<=2097152->(∀ g,mG [] g S'=Br (fr rows) (zM rows ns) (gT (lo rows) g))->Q (.nG (g4 S')) G
theorem KJ(ds:List D)(G:Gp)(Q:DK)(h:ql ds G Q fun _ _=>False):zH (fun _ _=>False) (ends Q) (bF 7 ds) G:=by
 obtain⟨rows,ns,rfl,⟨d,hp,hl⟩,q⟩:=h;have Aj:=d.Aj;have str:=d.str;have nn:ns.Nodup:=hp.nodup_iff.mpr (xC d);have ZN:lo rows<=3:=bu (dw _ _) str;unfold zH;simp only [↓c9,bQ,gy,↓fJ,ay,bF,↓ak,↓bq,↓aj,↓aE,bc,↓az,↓aT,↓ae,↓aa,aP,uy,av,↓ar,↓ao,a8,dB,ends];refine j4 ⟨Jp (by rw [aC]; lia),?_⟩;refine kl (xs:=ns) (fun pre acc τ G'=>G=G'/\(∃ a,τ=[a,some (enc rows)])/\acc=(pre.map (handOf rows)).map D.int) ⟨rfl,⟨_,rfl⟩,rfl⟩ (fun _ _ _ _ _=>trivial) ?_ ?_
 ·rintro pre n post acc τ G' N e ⟨rfl,⟨a,rfl⟩,rfl⟩ hN;have hn:n∈names rows:=hp.mem_iff.mp (by rw [e]; simp);simp only [aP,bC,av,ay,↓ao,wx,↓ae,↓aa,a8];refine⟨rows,n,rfl,⟨by lia,Ro d hn⟩,?_⟩;refine hN _ _ _ ⟨rfl,⟨_,rfl⟩,?_⟩;rw [a9,a9]; rfl
 rintro acc τ G' ⟨rfl,⟨a,rfl⟩,rfl⟩ p1 f1;refine j4 ⟨Jp (by rw [aC]; lia),?_⟩;refine kl (xs:=rows) (fun pre acc τ G'=>eD G p1 (.lst ((ns.map (handOf rows)).map D.int))=G'/\(∃ a,τ=[a])/\acc=(pre.filter fun r=>r.isEmpty).map enc) ⟨rfl,⟨_,rfl⟩,rfl⟩ (fun _ _ _ _ _=>trivial) ?_ ?_
 ·rintro pre r post acc τ G' N e ⟨rfl,⟨a,rfl⟩,rfl⟩ hN;simp only [aP,rW,↓eA,ay,↓ao,↓aa];show pz (.dJ (r.map enc)) _ _;unfold pz ED;simp only [];by_cases c:r.isEmpty=true
  ·have c2:(r.map (enc:T3->D)).isEmpty=true:=by cases r with
    | nil=>rfl
    | cons _ _=>cases c
   simp only [c2,bV,eC,if_true];refine hN _ _ _ ⟨rfl,⟨_,rfl⟩,?_⟩;simp only [dN,bD,c,if_true,uv,a9,ak,bq]
  ·have c2:(r.map (enc:T3->D)).isEmpty=false:=by cases r with
    | nil=>exact absurd rfl c
    | cons _ _=>rfl
   simp only [c2,bV,eC,if_false,aq];refine hN _ _ _ ⟨rfl,⟨_,rfl⟩,?_⟩;have c':r.isEmpty=false:=by simpa using c
   simp only [dN,bD,c',if_false,aq,uv,cz]
 rintro acc τ G' ⟨rfl,⟨a,rfl⟩,rfl⟩ p2 f2;have p12:p1≠p2:=by rintro rfl; rw [aJ] at f2; cases f2
 simp only [Eg aJ,aC];simp only [N5,bC,av,ay,↓aa,a8,dB,↓ae];have elo:(rows.filter fun r=>r.isEmpty).length=lo rows:=rfl;rw [elo];refine⟨rows,rfl,by lia,?_⟩;rw [RS d];have nd:=E4 d;obtain⟨n0,e0⟩:=HK (IF nd) (Me nd);generalize hP0:JJ (Gh (Hr rows))=P0 at n0 e0;unfold D7;intro p5 f5;refine iH (.new f5) f5 aJ (c4 ?_);refine⟨_,LP,lo rows,rfl,⟨rfl,RD⟩,CT ZN,by rw [Ow]; exact ou (by decide),fun p6 f6=>?_⟩;refine iH (.new f6) f6 aJ ?_;refine⟨mH P0,rfl,fun p7 f7=>?_⟩;have g1:fN G (eD (eD G p1 (.lst ((ns.map (handOf rows)).map D.int))) p2 (.lst (((rows.filter fun r=>r.isEmpty)).map enc))):=(fN.new f1).trans (.new f2);refine FW (A:=[(mH P0,dD LP (lo rows))]) (.new f7) f7 aJ ?_;generalize hG2:eD (eD G p1 (.lst ((ns.map (handOf rows)).map D.int))) p2 (.lst (((rows.filter fun r=>r.isEmpty)).map enc))=G2 at g1;have gh:G2 p1=some (.lst ((ns.map (handOf rows)).map D.int)):=by rw [<-hG2,dR p12,aJ]
 refine gf (fun τ G'=>∃ (S:Su) (a b:Option D),G'=G2/\τ=[some (enc rows),some (enc ns),some (.ref p1),some (.int (lo rows)),some (.nG (g4 S)),a,b]/\QB S []/\gq S<=2097152/\∀ g,mG [] g S=Br (fr rows) (zM rows ns) (gT (lo rows) g)) ?_ ?_
 ·intro N hN;simp only [fR,Nh,ay,↓ae,↓aa];have hz:nP (ns.map enc) ((ns.map (handOf rows)).map D.int)=(zM rows ns).map enc:=by
   have:nP (ns.map enc) ((ns.map (handOf rows)).map enc)=(ns.zip (ns.map (handOf rows))).map enc:=wR _ _;refine this.trans ?_;rw [zip_map]; rfl
  refine J3 (IsL.enc ns) (IsL.ref gh) fun ok cD=>?_;rw [hz];have hnl:(zM rows ns).length=ns.length:=by unfold zM; rw [aC]
  have start:∀ g,mG (zM rows ns) g [(mH P0,dD LP (lo rows))]=Br (fr rows) (zM rows ns) (gT (lo rows) g):=fun g=>by
   show L _ _+0=_;rw [r8,lT,Gw,e0];have:=congrFun (FK (fr rows) (zM rows ns) g (lo rows) 0) 0;simp only [lT] at this;rw [AW] at this;exact this
  have so0:QB [(mH P0,dD LP (lo rows))] ((zM rows ns).map (·.1)):=by
   refine⟨⟨by simp,fun p ux=>?_⟩,fun p ux=>?_⟩
   ·rw [cT] at ux; subst ux; exact⟨Y.uN _ _,Y.JH _ _⟩
   ·rw [cT] at ux; subst ux;refine⟨P0,rfl,n0,fun e=>?_⟩;rw [e0,uM nd,Hq d,HZ];exact⟨fun ⟨n,h1,h2⟩=>⟨n,hp.mem_iff.mpr h1,h2⟩,fun ⟨n,h1,h2⟩=>⟨n,hp.mem_iff.mp h1,h2⟩⟩
  refine eU (xs:=zM rows ns) (fun pre τ G'=>∃ (S:Su) (a b:Option D),G'=G2/\τ=[some (enc rows),some (enc ns),some (.ref p1),some (.int (lo rows)),some (.nG (g4 S)),a,b]/\QB S (((zM rows ns).drop pre.length).map (·.1))/\(S.length<=8 * 8 ^ pre.length/\gq S<=8 * 8 ^ pre.length)/\∀ g,mG ((zM rows ns).drop pre.length) g S=Br (fr rows) (zM rows ns) (gT (lo rows) g))
   ⟨_,_,_,rfl,rfl,so0,⟨(by decide:1<=8 * 8 ^ 0),bu (Nat.le_of_eq (oV _)) (Fm ZN)⟩,start⟩ (fun pre τ G' h=>cD G' (by obtain⟨_,_,_,rfl,_⟩:=h; exact .refl _)) ?_ ?_
  ·rintro pre x post τ G' N2 e ⟨S,a,b,rfl,rfl,so,⟨sl,sn⟩,sv⟩ qv;have dr:(zM rows ns).drop pre.length=x :: post:=by rw [e,List.drop_left]
   have YW:(zM rows ns).drop (pre++[x]).length=post:=by
    rw [e,show pre++x :: post=(pre++[x])++post by simp,List.drop_left]
   have FV:pre.length+1+post.length<=6:=by
    have:=congrArg dU e;rw [aB,aj,hnl] at this; lia
   have X9:(x.1 :: post.map (·.1)).Nodup:=by
    have h1:=HZ rows ns;rw [e,a9,ak] at h1;have h2:=nn;rw [<-h1] at h2;exact(List.nodup_append.mp h2).2.1
   rw [dr] at so sv;have p8:=W8 (k:=pre.length) (by lia);have e3:(enc x:D)=.tup [.int x.1,.int x.2]:=rfl;rw [e3];simp only [jf,dF,i6,aP,ao,ar];simp only [bQ,dB,bC,av,ay,↓ae,↓aa,a8,aP,↓ar,↓ao];refine⟨S,x.1,x.2,post,rfl,⟨so,X9,by lia,by lia,by lia⟩,fun S' so' l1 l2 v=>?_⟩;refine c4 (qv _ _ ?_);rw [YW];have e8:8 * 8 ^ (pre++[x]).length=8 * (8 * 8 ^ pre.length):=by
    rw [aB,du,OQ]; lia
   rw [e8];exact⟨S',_,_,rfl,rfl,so',⟨by lia,by lia⟩,fun g=>by rw [v]; exact sv g⟩
  ·rintro τ G' ⟨S,a,b,rfl,rfl,so,⟨sl,sn⟩,sv⟩;have dr:(zM rows ns).drop (zM rows ns).length=[]:=List.drop_length;rw [dr] at so sv;have:8 ^ (zM rows ns).length<=8 ^ 6:=jk (by decide) (by lia);exact hN _ _ ⟨S,_,_,rfl,rfl,so,by lia,sv⟩
 ·rintro _ G' ⟨S,a,b,rfl,rfl,so,hn,hv⟩;simp only [c5,dB,ay,↓ae,↓aa];exact tU g1 (q S so hn hv)
structure BP(T:Po)(f:Fn->Int):Prop where
 nd:ND T
 nz:NZ T
 fi:fi T<=2097152
 val:∀ g,L g T=f g
noncomputable def brk(rows:Rows)(g:Fn):Int:=Br (fr rows) (nh rows) (gT (lo rows) g)
theorem R4{S:Su}(so:QB S []):∀ p∈S,p.1=[]:=fun p hp=>by
 obtain⟨P,e,nd,h⟩:=so.pl p hp;have:P=[]:=Sh nd fun e=>fW fun z=>by
  obtain⟨n,hn,_⟩:=(h e).mp z;cases hn
 rw [e,this]; rfl
theorem O4{S:Su}(so:QB S [])(g:Fn):mG [] g S=L g ((cH S []).getD []):=by
 have h:=R4 so;have nd:=so.K6.1;cases S with
 | nil=>rfl
 | cons p S =>
  have e1:=h p (by simp);have e2:S=[]:=by
   cases S with
   | nil=>rfl
   | cons q S =>
    have e3:=h q (by simp);rw [ak,ak,aO] at nd;exact absurd (by rw [e1,e3]; exact cb) nd.1
  subst e2;have e4:cH [p] ([]:PK)=some p.2:=by unfold cH; rw [cj (by simpa using e1)]; rfl
  rw [e4];show L _ p.2+0=L g p.2;rw [lT];congr 1;funext j;show sh j g 0=g j;unfold sh;rw [uG]
noncomputable def xg:hV :=
 (c5 (dB (yQ tyP Ds (bC ql (av (ay 0) (av (bC fc (av (ay 0) a8)) a8))) (av (dB (fQ a8)) (av (dB oo) a8)))))
noncomputable def lr:mR:=fun ds G Q _=>∃ rows:Rows,ds=[enc rows]/\(Dr rows/\rows.flatten.length<=12)/\∀ T:Po,BP T (brk rows)->Q (.jY (bB T)) G
theorem GW(ds:List D)(G:Gp)(Q:DK)(h:lr ds G Q fun _ _=>False):xg (fun _ _=>False) (ends Q) (bF 1 ds) G:=by
 obtain⟨rows,rfl,⟨d,hl⟩,q⟩:=h;have nl:=xD d;unfold xg;simp only [c5,dB,yQ,bC,av,ay,bF,↓ak,↓bq,↓aj,↓aE,↓az,↓aT,↓aa,a8,fQ,oo,ends];refine⟨rows,rfl,(show rows.flatten.length < 64 by lia),?_⟩;refine⟨rows,names rows,rfl,⟨d,.refl _,by lia⟩,fun S so hn hv=>?_⟩;refine⟨trivial,by decide,c4 ?_⟩;intro p hp;refine iH (.new hp) hp aJ ?_;refine⟨[],rfl,?_⟩;have bp:BP ((cH S []).getD []) (brk rows):=⟨(so.K6.get []).1,(so.K6.get []).2,bu (HY S []) hn,fun g=>by rw [<-O4 so,hv]; rfl⟩;have e:(oD (g4 S) []).getD (.jY [])=.jY (bB ((cH S []).getD [])):=by
  rw [zT];cases cH S [] <;> rfl
 rw [e];exact c4 (q _ bp)
end JB
end K2
end
section
namespace K2
namespace JB
open K2.P K2.J
section
variable {α:Type}
noncomputable def yS:List α->List (α×α)
 | a :: b :: l=>(a,b) :: yS (b :: l)
 | _=>[]
noncomputable def D8:List α->List (α×α)
 | []=>[]
 | a :: l=>yS (a :: l++[a])
theorem uj(a b:α)(l:List α):yS (a :: b :: l)=(a,b) :: yS (b :: l):=rfl
theorem ui:∀ (xs:List α) (m:α) (ys:List α),yS (xs++m :: ys)=yS (xs++[m])++yS (m :: ys)
 | [],m,ys=>rfl
 | [a],m,ys=>rfl
 | a :: b :: xs,m,ys=>by
  rw [az,az,uj,az,az,uj,az];congr 1;exact ui (b :: xs) m ys
theorem Hl:∀ (l:List α) (c:α),l.zip (l.drop 1++[c])=yS (l++[c])
 | [],_=>rfl
 | [a],c=>rfl
 | a :: b :: l,c=>by
  rw [az,az,uj];show (a,b) :: (b :: l).zip (l++[c])=_;congr 1;exact Hl (b :: l) c
theorem BM(A B:List α):(D8 (A++B)).Perm (D8 (B++A)):=by
 cases A with
 | nil=>rw [aT,cz]
 | cons a A =>
  cases B with
  | nil=>rw [aT,cz]
  | cons b B =>
   show (yS (a :: A++b :: B++[a])).Perm (yS (b :: B++a :: A++[b]));have e1:yS (a :: A++b :: B++[a])=yS (a :: A++[b])++yS (b :: B++[a]):=by
    rw [bK]; exact ui (a :: A) b (B++[a])
   have e2:yS (b :: B++a :: A++[b])=yS (b :: B++[a])++yS (a :: A++[b]):=by
    rw [bK]; exact ui (b :: B) a (A++[b])
   rw [e1,e2];exact cX
end
theorem OW(r:List T3):r.zip (ic r)=D8 r:=by
 cases r with
 | nil=>rfl
 | cons a l=>exact Hl (a :: l) a
theorem tf(rows:Rows):pairsOf rows=rows.flatMap D8:=by
 unfold pairsOf;congr 1;funext r;exact OW r
theorem ml{α β:Type}(f:α->List β):∀ {rows:List α} {i:Nat} {r r':α},rows[i]?=some r->((rows.set i r').flatMap f).Perm (f r'++(rows.eraseIdx i).flatMap f)
 | [],_,_,_,h=>by simp at h
 | a :: rows,0,r,r',h=>by rw [ao,eS,KU]
 | a :: rows,i+1,r,r',h=>by
  rw [ar,eS,KW,eS];refine((ml f (rows:=rows) (i:=i) (r:=r) (by simpa using h)).append_left _).trans ?_;rw [<-bK,<-bK];exact List.perm_append_comm.append_right _
theorem x8{α β:Type}(f:α->List β){rows:List α}{i:Nat}{r:α}(h:rows[i]?=some r):(rows.flatMap f).Perm (f r++(rows.eraseIdx i).flatMap f):=by
 have:=ml f (r':=r) h;have e:rows.set i r=rows:=by
  obtain⟨hi,e⟩:=List.getElem?_eq_some_iff.mp h;rw [<-e]; exact OC hi
 rw [e] at this; exact this
theorem Qk(A B:List T3)(q:T3):(A++B=[]/\D8 (A++q :: B)=[(q,q)])\/∃ (a b:T3) (l:List (T3×T3)),A++B≠[]/\(D8 (A++q :: B)).Perm ((q,b) :: (a,q) :: l)/\(D8 (A++B)).Perm ((a,b) :: l):=by
 have h1:=BM A (q :: B);have h2:=BM A B;cases hc:B++A with
 | nil =>
  left;obtain⟨e1,e2⟩:=List.append_eq_nil_iff.mp hc;subst e1 e2;exact⟨rfl,rfl⟩
 | cons c0 c =>
  right;have ne:A++B≠[]:=by
   intro z;obtain⟨e1,e2⟩:=List.append_eq_nil_iff.mp z;subst e1 e2;cases hc
  rw [az,hc] at h1;rw [hc] at h2;obtain⟨c',a,e⟩:∃ c' a,c0 :: c=c'++[a]:=by
   have:=List.dropLast_concat_getLast (show c0 :: c≠[] from List.cons_ne_nil _ _);exact⟨_,_,this.symm⟩
  have s1:D8 (q :: c0 :: c)=(q,c0) :: (yS (c0 :: c)++[(a,q)]):=by
   show yS (q :: c0 :: c++[q])=_;rw [az,az,uj,<-az,e];congr 1;rw [bK];exact ui c' a [q]
  have s2:D8 (c0 :: c)=yS (c0 :: c)++[(a,c0)]:=by
   show yS (c0 :: c++[c0])=_;rw [e,bK];exact ui c' a [c0]
  refine⟨a,c0,yS (c0 :: c),ne,?_,?_⟩
  ·refine h1.trans ?_;rw [s1];exact(cX).cons _
  ·refine h2.trans ?_;rw [s2];exact cX
theorem Si{a b x y:T3}{R:Pr T3}(nd:(es ((y,b) :: (a,x) :: R)).Nodup):jn (pt ((y,b) :: (a,x) :: R)) x y=pt ((a,b) :: R)/\cl (pt ((y,b) :: (a,x) :: R)) x y=0:=by
 have n:=nd;simp only [es,aO,aQ,not_or] at n;obtain⟨⟨yb,ya,yx,yR⟩,⟨ba,bx,bR⟩,⟨ax,aR⟩,xR,rR⟩:=n;have fx:pt ((y,b) :: (a,x) :: R) x=a:=(i4 nd (p:=(a,x)) (by simp)).2;have fy:pt ((y,b) :: (a,x) :: R) y=b:=(i4 nd (p:=(y,b)) (by simp)).1;have V9:(es ((a,b) :: R)).Nodup:=by
  simp only [es,aO,aQ,not_or];exact⟨⟨fun z=>ba z.symm,aR⟩,bR,rR⟩
 refine⟨?_,by unfold cl; rw [fx,if_neg (fun z=>ya z.symm)]⟩;symm;refine Md V9 (fun p hp=>?_) fun e he=>?_
 ·have off:∀ e,e∈es R->e≠x/\e≠y/\e≠a/\e≠b:=fun e he=>⟨fun z=>xR (z ▸ he),fun z=>yR (z ▸ he),fun z=>aR (z ▸ he),fun z=>bR (z ▸ he)⟩;rcases List.mem_cons.mp hp with rfl | hp
  ·unfold jn;rw [fx,fy];refine⟨?_,?_⟩
   ·show (if a=x\/a=y then a else if a=a then b else _)=b;rw [if_neg (by rintro(z | z); exact ax z; exact ya z.symm),if_pos rfl]
   ·show (if b=x\/b=y then b else if b=a then b else if b=b then a else _)=a;rw [if_neg (by rintro(z | z); exact bx z; exact yb z.symm),if_neg (fun z=>ba z),if_pos rfl]
  ·have m1:p.1∈es R:=kC.mpr ⟨p,hp,.inl rfl⟩;have m2:p.2∈es R:=kC.mpr ⟨p,hp,.inr rfl⟩;obtain⟨o1,o2,o3,o4⟩:=off _ m1;obtain⟨u1,u2,u3,u4⟩:=off _ m2;have:=i4 nd (p:=p) (by simp [hp]);unfold jn;rw [fx,fy,if_neg (by rintro(z | z); exact o1 z; exact o2 z),if_neg o3,if_neg o4,if_neg (by rintro(z | z); exact u1 z; exact u2 z),if_neg u3,if_neg u4];exact this
 ·simp only [es,aQ,not_or] at he;unfold jn;rw [fx,fy];split
  ·rfl
  ·rename_i hz;rw [if_neg he.1,if_neg he.2.1];refine mi ?_;simp only [es,aQ,not_or];rw [not_or] at hz;exact⟨hz.2,he.2.1,he.1,hz.1,he.2.2⟩
theorem Ph{x y:T3}{R:Pr T3}(nd:(es ((y,x) :: R)).Nodup):jn (pt ((y,x) :: R)) x y=pt R/\cl (pt ((y,x) :: R)) x y=1:=by
 have n:=nd;simp only [es,aO,aQ,not_or] at n;obtain⟨⟨yx,yR⟩,xR,rR⟩:=n;have fx:pt ((y,x) :: R) x=y:=(i4 nd (p:=(y,x)) (by simp)).2;have fy:pt ((y,x) :: R) y=x:=(i4 nd (p:=(y,x)) (by simp)).1;refine⟨?_,by unfold cl; rw [fx,if_pos rfl]⟩;funext e;unfold jn;rw [fx,fy];split
 ·rename_i hz;rw [mi (by rcases hz with rfl | rfl; exact xR; exact yR)]
 ·rename_i hz;rw [not_or] at hz;rw [if_neg hz.2,if_neg hz.1,pt,if_neg hz.2,if_neg hz.1]
noncomputable def TF(rows:Rows):Prop:=(rows.flatten.map T3.s).Nodup
theorem MF{rows:Rows}(h:TF rows):(es (Hr rows)).Nodup:=by
 refine QL ?_ ?_
 ·have:=congrArg (List.map T3.s) (nj rows);rw [br] at this;have h2:((pairsOf rows).map fun p=>p.1.s)=rows.flatten.map T3.s:=this;rw [h2]; exact h
 ·have:=(ni rows).map T3.s;rw [br] at this;exact this.nodup_iff.mpr h
theorem NI{rows:Rows}{i:Nat}{r r':List T3}(h:rows[i]?=some r):(rows.set i r').flatten.Perm (r'++(rows.eraseIdx i).flatten):=by
 have:=ml (fun r:List T3=>r) (r':=r') h;simpa [List.flatMap_id'] using this
theorem Qb{rows:Rows}{i:Nat}{r:List T3}(h:rows[i]?=some r):rows.flatten.Perm (r++(rows.eraseIdx i).flatten):=by
 have:=x8 (fun r:List T3=>r) h;simpa [List.flatMap_id'] using this
theorem SK{rows:Rows}{i:Nat}{r r':List T3}(h:rows[i]?=some r):lo (rows.set i r')+(if r.isEmpty=true then 1 else 0)=lo rows+(if r'.isEmpty=true then 1 else 0):=by
 unfold lo;induction rows generalizing i with
 | nil=>simp at h
 | cons a rows ih =>
  cases i with
  | zero =>
   simp only [aa,uD] at h;subst h;rw [ao,bD,bD];split <;> split <;> simp <;> lia
  | succ i =>
   have:=ih (i:=i) (by simpa using h);rw [ar,bD,bD];split
   ·rw [aj,aj]; lia
   ·exact this
theorem Nb{rows:Rows}{i k:Nat}{r:List T3}{q:T3}(h:rows[i]?=some r)(nd:TF (rows.set i (r.take k++q :: r.drop k))) :
  fr rows=jn (fr (rows.set i (r.take k++q :: r.drop k))) (eI q.s) (eO q.s)/\lo rows=lo (rows.set i (r.take k++q :: r.drop k))+cl (fr (rows.set i (r.take k++q :: r.drop k))) (eI q.s) (eO q.s):=by
 have n1:=MF nd;have p1:=ml D8 (r':=r.take k++q :: r.drop k) h;rw [<-tf] at p1;have p2:=x8 D8 h;rw [<-tf] at p2;have l1:=SK (r':=r.take k++q :: r.drop k) h;have ne:(r.take k++q :: r.drop k).isEmpty=false:=by cases hr:r.take k <;> rfl
 rw [ne] at l1;simp only [aq,if_false,oV] at l1;have rr:r.take k++r.drop k=r:=uq k r;rcases Qk (r.take k) (r.drop k) q with ⟨e1,e2⟩ | ⟨a,b,l,e1,e2,e3⟩
 ·rw [rr] at e1;have t1:(Hr (rows.set i (r.take k++q :: r.drop k))).Perm ((eO q.s,eI q.s) :: K4 ((rows.eraseIdx i).flatMap D8)):=by
   have:=p1.map fun p:T3×T3=>(eO p.1.s,eI p.2.s);rw [e2] at this;exact this
  have t2:(Hr rows).Perm (K4 ((rows.eraseIdx i).flatMap D8)):=by
   have:=p2.map fun p:T3×T3=>(eO p.1.s,eI p.2.s);rw [e1] at this;exact this
  have n2:(es ((eO q.s,eI q.s) :: K4 ((rows.eraseIdx i).flatMap D8))).Nodup:=(j5 t1).nodup_iff.mp n1;have n3:(es (Hr rows)).Nodup:=by
   refine(j5 t2).nodup_iff.mpr ?_;rw [es,aO,aO] at n2;exact n2.2.2
  obtain⟨a1,a2⟩:=Ph n2;unfold fr;rw [wc t1 n1,a1,a2,wc t2 n3];refine⟨rfl,?_⟩;rw [e1] at l1;simp only [List.isEmpty_nil,if_true] at l1;rw [e1];exact l1.symm
 ·rw [rr] at e1 e3;have t1:(Hr (rows.set i (r.take k++q :: r.drop k))).Perm ((eO q.s,eI b.s) :: (eO a.s,eI q.s) :: K4 (l++(rows.eraseIdx i).flatMap D8)):=by
   have:=(p1.trans (e2.append_right _)).map fun p:T3×T3=>(eO p.1.s,eI p.2.s);exact this
  have t2:(Hr rows).Perm ((eO a.s,eI b.s) :: K4 (l++(rows.eraseIdx i).flatMap D8)):=by
   have:=(p2.trans (e3.append_right _)).map fun p:T3×T3=>(eO p.1.s,eI p.2.s);exact this
  have n2:=(j5 t1).nodup_iff.mp n1;have n3:(es (Hr rows)).Nodup:=by
   refine(j5 t2).nodup_iff.mpr ?_;simp only [es,aO,aQ,not_or] at n2 ⊢;exact⟨⟨fun z=>n2.2.1.1 z.symm,n2.2.2.1.2⟩,n2.2.1.2.2,n2.2.2.2.2⟩
  obtain⟨a1,a2⟩:=Si n2;unfold fr;rw [wc t1 n1,a1,a2,wc t2 n3];refine⟨rfl,?_⟩;have:r.isEmpty=false:=by cases r with
   | nil=>exact absurd rfl e1
   | cons _ _=>rfl
  rw [this] at l1;simp only [aq,if_false,oV] at l1 ⊢;exact l1.symm
theorem ID{rows:Rows}(nd:TF rows){p q:T3}(h:(p,q)∈pairsOf rows):fr rows (eO p.s)=eI q.s/\fr rows (eI q.s)=eO p.s:=i4 (MF nd) (p:=(eO p.s,eI q.s)) (List.mem_map.mpr ⟨(p,q),h,rfl⟩)
theorem IP(A B:List T3)(p q:T3):(p,q)∈D8 (A++p :: q :: B):=by
 refine(BM A (p :: q :: B)).mem_iff.mpr ?_;show (p,q)∈yS (p :: q :: (B++A)++[p]);exact cb
end JB
end K2
end
section
namespace K2
open PySem (Str)
open Enc (enc)
namespace T
noncomputable abbrev Tb:=List (List Int)
structure HL(G G':Gp)(p0:Nat)(as:List Nat)(rs:List (List D)):Prop where
 le:fN G G'
 fp:G p0=none
 gp:G' p0=some (.lst (as.map D.ref))
 np:p0∉as
 nd:as.Nodup
 fr:∀ a∈as,G a=none
 len:as.length=rs.length
 at':∀ (i a:Nat) (r:List D),as[i]?=some a->rs[i]?=some r->G' a=some (.lst r)
theorem HL.ext{G G' G'':Gp}{p0:Nat}{as:List Nat}{rs:List (List D)}(h:HL G G' p0 as rs)(l:fN G' G''):HL G G'' p0 as rs :=
 ⟨h.le.trans l,h.fp,l _ _ h.gp,h.np,h.nd,h.fr,h.len,fun i a r h1 h2=>l _ _ (h.at' i a r h1 h2)⟩
theorem HL.row{G G':Gp}{p0:Nat}{as:List Nat}{rs:List (List D)}(h:HL G G' p0 as rs){i:Nat}{r:List D}(hr:rs[i]?=some r):∃ a,as[i]?=some a/\G' a=some (.lst r)/\uf (as.map D.ref) (i:Int)=some (.ref a):=by
 have hi:i < as.length:=by rw [h.len]; exact(List.getElem?_eq_some_iff.mp hr).1
 refine⟨as[i],au hi,h.at' i _ r (au hi) hr,?_⟩;rw [qH _ (by lia) (by rw [aC]; lia)];simp
theorem MB{as:List Nat}(hn:as.Nodup){i j a:Nat}(h1:as[i]?=some a)(h2:as[j]?=some a):i=j:=by
 have g1:=List.getElem?_eq_some_iff.mp h1;have g2:=List.getElem?_eq_some_iff.mp h2;have pw:=List.pairwise_iff_getElem.mp hn;rcases Nat.lt_trichotomy i j with lt | eq | gt
 ·exact absurd (g1.2.trans g2.2.symm) (pw i j g1.1 g2.1 lt)
 ·exact eq
 ·exact absurd (g2.2.trans g1.2.symm) (pw j i g2.1 g1.1 gt)
theorem MA{as:List Nat}(h:∀ i k a:Nat,i < k->as[i]?=some a->as[k]?=some a->False):as.Nodup:=by
 refine List.pairwise_iff_getElem.mpr fun i k hi hk Z7 z=>?_;exact h i k as[i] Z7 (au hi) (by rw [au hk,z])
theorem HL.L5{G G':Gp}{p0:Nat}{as:List Nat}{rs:List (List D)}(h:HL G G' p0 as rs){j a:Nat}{r':List D}(hj:j < as.length)(ga:G' a=some (.lst r'))(na:a∉as)(fa:G a=none)(np:a≠p0):HL G (eD G' p0 (.lst ((as.set j a).map D.ref))) p0 (as.set j a) (rs.set j r'):=by
 have Rn:∀ b,b∈as.set j a->b=a\/b∈as:=fun b hb=>by
  rcases oW hb with z | z
  ·exact .inr z
  ·exact .inl z
 refine⟨h.le.put h.fp,h.fp,aJ,fun z=>?_,?_,fun b hb=>?_,by rw [cy,cy]; exact h.len,fun i b r hb hr=>?_⟩
 ·rcases Rn _ z with z | z
  ·exact np z.symm
  ·exact h.np z
 ·refine MA fun i k b Z7 h1 h2=>?_;by_cases e1:j=i
  ·subst e1;rw [bW hj] at h1;rw [dM (by lia)] at h2;cases h1;exact na (cS h2)
  ·rw [dM e1] at h1;by_cases e2:j=k
   ·subst e2;rw [bW hj] at h2;cases h2;exact na (cS h1)
   ·rw [dM e2] at h2;have:=MB h.nd h1 h2;lia
 ·rcases Rn b hb with z | z
  ·rw [z]; exact fa
  ·exact h.fr b z
 ·have hb0:b≠p0:=by
   rintro rfl;rcases Rn b (cS hb) with z | z
   ·exact np z.symm
   ·exact h.np z
  rw [dR hb0];by_cases e:j=i
  ·subst e;rw [bW hj] at hb;rw [bW (by rw [<-h.len]; exact hj)] at hr;cases hb; cases hr;exact ga
  ·rw [dM e] at hb hr;exact h.at' i b r hb hr
theorem HL.fz{G G':Gp}{p0:Nat}{as:List Nat}{rs:List (List D)}(h:HL G G' p0 as rs){Q:DK}(q:Q (.dJ (rs.map D.dJ)) G):KP G' (.ref p0) Q:=by
 refine FX h.le h.fp h.gp (ss:=rs.map D.dJ) ?_ q;have:∀ (as:List Nat) (rs:List (List D)),as.length=rs.length->(∀ a∈as,G a=none)->(∀ (i a:Nat) (r:List D),as[i]?=some a->rs[i]?=some r->G' a=some (.lst r))->GX G' (fun a=>(G a).isNone) (as.map D.ref) (rs.map D.dJ):=by
  intro as;induction as with
  | nil=>intro rs hl _ _; cases rs with
   | nil=>exact .nil
   | cons _ _=>cases hl
  | cons a as ih =>
   intro rs hl hf Ke;cases rs with
   | nil=>cases hl
   | cons r rs =>
    refine .cons (.ref (Ke 0 a r rfl rfl) (by simp [hf a (by simp)]) (GX.same _)) ?_;exact ih rs (by simpa using hl) (fun b hb=>hf b (aL _ hb)) fun i b s h1 h2=>Ke (i+1) b s h1 h2
 exact this as rs h.len h.fr h.at'
end T
end K2
end
section
namespace K2
open PySem (Str)
open Enc (enc)
namespace P
variable {rows:Rows}
noncomputable def Uu(rows:Rows):List T3:=R7 (QN rows)
end P
end K2
end
section
namespace K2
open PySem (Str)
open Enc (enc)
namespace P
variable {rows:Rows}
noncomputable def RX(rows:Rows)(s:T2):Nat:=(((rows.zipIdx 0).find? fun p=>decide (s∈sH p.1 (p.2:Int))).map (·.2)).getD 0
end P
end K2
end
section
namespace K2
open PySem (Str)
open Enc (enc)
namespace Y
noncomputable def pJ:hV :=
 (cN (jV (jy (bE V1 (ay 1) (uy ue (av (ay 0) a8)))) (c5 (dB (bE lR (ay 0) (ay 1)))) fB)
 (c5 (dB (dC (.int 0)))))
noncomputable def fC(ns:List Int)(k:Int):Int:=ns.getD k.toNat 0
noncomputable def cf:mR:=fun ds G Q _=>∃ (ns:List Int) (k:Int),ds=[.dJ (ns.map D.int),.int k]/\0<=k/\Q (.int (fC ns k)) G
theorem yC(ds:List D)(G:Gp)(Q:DK)(h:cf ds G Q fun _ _=>False):pJ (fun _ _=>False) (ends Q) (bF 2 ds) G:=by
 obtain⟨ns,k,rfl,h0,q⟩:=h;unfold pJ;simp only [cN,jV,bF,ak,bq,aj,aE,az,aT,c5,dB,bE,ay,aa,ae,ends,iM,fB,dC,eA,uy,av,a8,nC,sX,cF];split
 ·rename_i h;have h1:k < (ns.map D.int).length:=by simpa using h
  rw [qH _ h0 h1];simp only [lZ];rw [aC] at h1;have e:fC ns k=ns[k.toNat]:=by unfold fC; rw [dI,au (by lia)]; rfl
  rw [<-e]; exact c4 q
 ·rename_i h;have h1:¬ k < (ns.map D.int).length:=by simpa using h
  rw [aC] at h1;have e:fC ns k=0:=by unfold fC; rw [dI,ur (by lia)]; rfl
  rw [<-e]; exact c4 q
noncomputable def sR:hV :=
 (c5 (dB (IM (N4 "int" (ay 0)) (N0 (N4 "bool" (ay 0))))))
noncomputable def e7:mR:=fun ds G Q _=>∃ i:Int,ds=[.int i]/\Q (.bl true) G
theorem B0(ds:List D)(G:Gp)(Q:DK)(h:e7 ds G Q fun _ _=>False):sR (fun _ _=>False) (ends Q) (bF 1 ds) G:=by
 obtain⟨i,rfl,q⟩:=h;unfold sR;simp only [c5,dB,bF,ak,bq,aj,aE,az,aT,ends,qb,qa,qD,ay,aa,pU,cF];simpa using c4 q
noncomputable def vA:hV :=
 (c5 (dB (bE pL (bE pL (bE Fi (ay 0) (dC (.int 48271))) (ay 1)) (ay 2))))
noncomputable def pick(c p m:Int):Int:=c * 48271 % p % m
noncomputable def cw:mR:=fun ds G Q _=>∃ c p m:Int,ds=[.int c,.int p,.int m]/\(0 < p/\0 < m)/\Q (.int (pick c p m)) G
theorem Em(ds:List D)(G:Gp)(Q:DK)(h:cw ds G Q fun _ _=>False):vA (fun _ _=>False) (ends Q) (bF 3 ds) G:=by
 obtain⟨c,p,m,rfl,⟨hp,hm⟩,q⟩:=h;unfold vA;simp only [c5,dB,bE,ay,bF,ak,bq,aj,aE,az,aT,aa,dC,ae,ends,jt,gi];exact⟨.inr ⟨by decide,by decide⟩,hp,hm,c4 q⟩
theorem ie(c p:Int){m:Int}(h:0 < m):0<=pick c p m:=kB _ (by lia)
theorem ig(c p:Int){m:Int}(h:0 < m):pick c p m < m:=iJ _ h
noncomputable def vz:hV :=
 (cN (jV (rW (jy (N4 "dict" (ay 0)))) (c5 (dB (dC (.bl false)))) fB)
 (cN (fR (tQ (ay 0)) (aP 1) (jV (Lc (rW (jy (bC e7 (av (ay 1) a8)))) (Lc (rW (jy (bC e7 (av (bE lR (ay 0) (ay 1)) a8)))) (jy (bE (HD false) (bE lR (ay 0) (ay 1)) (dC (.int 0)))))) (c5 (dB (dC (.bl false)))) fB))
 (c5 (dB (dC (.bl true))))))
noncomputable def gx:mR:=fun ds G Q _=>∃ (d:D) (l:Po),ds=[d]/\Pl G d l/\NZ l/\Q (.bl true) G
theorem El(ds:List D)(G:Gp)(Q:DK)(h:gx ds G Q fun _ _=>False):vz (fun _ _=>False) (ends Q) (bF 2 ds) G:=by
 obtain⟨d,l,rfl,hd,hz,q⟩:=h;unfold vz;refine gf (fun τ G'=>τ=[some d,none]/\G=G') ?_ ?_
 ·intro N hN;simp only [jV,rW,bF,ak,bq,aj,aE,bc,az,aT,c5,dB,dC,ends,fB,eA,qD,ay,aa];refine Na (G:=G) hd.is.p ?_;simp only [beq_self_eq_true,cF,bV,aq,if_false];exact hN _ _ ⟨rfl,rfl⟩
 rintro _ _ ⟨rfl,rfl⟩;refine gf (fun τ G'=>(∃ a,τ=[some d,a])/\G=G') ?_ ?_
 ·intro N hN;simp only [fR,tQ,ay,aa,ends];refine FT hd.is (.refl _) fun ok cD=>?_;refine eU (xs:=l) (fun pre τ G'=>(∃ a,τ=[some d,a])/\G=G') ⟨⟨_,rfl⟩,rfl⟩ (fun pre τ G' h=>cD G' (by rw [<-h.2]; exact .refl _)) ?_ ?_
  ·rintro pre x post τ G' N2 e ⟨⟨a,rfl⟩,rfl⟩ qv;have hm:x∈l:=by rw [e]; simp
   have hx:=yu hd.nd hm;simp only [aP,jV,Lc,rW,ar,ao,c5,dB,dC,fB,if_true,eA,bE,ay,aa,ae,bC,av,a8];refine⟨_,rfl,?_⟩;simp only [cF,bV,aq,if_false];refine QU hd.is.p hx ⟨x.2,rfl,?_⟩;simp only [cF,bV,aq,if_false];refine QU hd.is.p hx ⟨_,_,.int _,.int _,?_⟩;simp only [aq,II,hz x hm,decide_false,eC,if_false,cF];exact qv _ _ ⟨⟨_,rfl⟩,rfl⟩
  ·rintro τ G' ⟨⟨a,rfl⟩,rfl⟩;exact hN _ _ ⟨⟨_,rfl⟩,rfl⟩
 ·rintro _ _ ⟨⟨a,rfl⟩,rfl⟩;simp only [c5,dB,dC,ends];exact c4 q
end Y
end K2
end
section
namespace K2
open PySem (Str)
open Enc (enc)
namespace Ld
open K2.T
open K2.P (names handOf RX sH fc fO)
open K2.Y (fC pick ie ig cf e7 cw gP j3)
theorem iQ{α:Type} [DecidableEq α] [Enc α](rs:List (List α)):(enc rs:D)=.dJ ((rs.map fun r=>r.map enc).map D.dJ):=by
 show D.dJ _=_;rw [br]; rfl
noncomputable def me:hV :=
 (c5 (dB (gy 1 [] (oT (ay 0)) (aP 0) none (uy vL (av (ay 0) a8)))))
noncomputable def ef:mR:=fun ds G Q _=>∃ rs:List (List D),ds=[.dJ (rs.map D.dJ)]/\rs.length<=1000/\∀ G' p0 as,HL G G' p0 as rs->Q (.ref p0) G'
theorem qj(ds:List D)(G:Gp)(Q:DK)(h:ef ds G Q fun _ _=>False):me (fun _ _=>False) (ends Q) (bF 1 ds) G:=by
 obtain⟨rs,rfl,hl,q⟩:=h;unfold me;simp only [c5,dB,gy,bF,ak,bq,aj,aE,az,aT,ends,fJ,ay,aa,tS];refine⟨Jp (by rw [aC]; exact hl),?_⟩;refine kl (xs:=rs) (fun pre acc τ G'=>(∃ a,τ=[a])/\∃ as:List Nat,acc=as.map D.ref/\fN G G'/\as.Nodup/\(∀ a∈as,G a=none)/\as.length=pre.length/\(∀ (i a:Nat) (r:List D),as[i]?=some a->pre[i]?=some r->G' a=some (.lst r))) ?_ (fun _ _ _ _ _=>trivial) ?_ ?_
 ·exact⟨⟨_,rfl⟩,[],rfl,.refl G,cE,fun _ h=>by(cases h),rfl,fun i a r h=>by simp at h⟩
 ·rintro pre r post acc τ G' N e ⟨⟨a,rfl⟩,as,rfl,le,nd,fr,ln,Ke⟩ hN;simp only [aP,uy,av,ay,ao,aa,a8];refine Oc (IsL.dJ) fun p hp=>?_;have Yk:p∉as:=fun z=>by
   obtain⟨i,hi⟩:=mD z;have h1:i < pre.length:=by rw [<-ln]; exact(List.getElem?_eq_some_iff.mp hi).1
   have:=Ke i p pre[i] hi (au h1);rw [hp] at this; cases this
  refine hN _ _ _ ⟨⟨_,rfl⟩,as++[p],by simp,le.trans (.new hp),?_,fun b hb=>?_,by rw [aB,aB,ln]; rfl,fun i b r2 h1 h2=>?_⟩
  ·rw [eP];exact⟨nd,by simp,fun x hx y hy=>by rw [cT] at hy; subst hy; intro z; exact Yk (z ▸ hx)⟩
  ·rcases List.mem_append.mp hb with z | z
   ·exact fr b z
   ·rw [cT] at z; rw [z]; exact le.free hp
  ·by_cases hi:i < as.length
   ·rw [cO hi] at h1;rw [cO (by rw [<-ln]; exact hi)] at h2;have:=Ke i b r2 h1 h2;exact(fN.new hp) _ _ this
   ·rw [cm (by lia)] at h1;rw [cm (by lia)] at h2;have:i - as.length=0:=by
     have:=(List.getElem?_eq_some_iff.mp h1).1;simp at this; lia
    rw [this] at h1;rw [show i - pre.length=0 by lia] at h2;simp at h1 h2;subst h1 h2;exact aJ
 ·rintro acc τ G' ⟨⟨a,rfl⟩,as,rfl,le,nd,fr,ln,Ke⟩ p hp;have Yk:p∉as:=fun z=>by
   obtain⟨i,hi⟩:=mD z;have h1:i < rs.length:=by rw [<-ln]; exact(List.getElem?_eq_some_iff.mp hi).1
   have:=Ke i p rs[i] hi (au h1);rw [hp] at this; cases this
  refine c4 (q _ p as ⟨le.trans (.new hp),le.free hp,aJ,Yk,nd,fr,ln,fun i b r h1 h2=>?_⟩);exact(fN.new hp) _ _ (Ke i b r h1 h2)
noncomputable def md:hV :=
 (cN (GA (jy (bE (Pe false) (ay 1) (ay 0))) (bQ (bE iN (bE pL (ay 1) (dC (.int 999))) (dC (.int 1))) (aP 1)))
 (c5 (dB (ay 1))))
noncomputable def Wm(n:Int):Int:=n % 999+1
noncomputable def fit(n:Int):Nat->Int
 | 0=>n
 | k+1=>Wm (fit n k)
theorem x9{n:Int}(h1:1<=n)(h2:n<=999):∀ k:Nat,fit n k=(n - 1+k) % 999+1
 | 0=>by show n=_; lia
 | k+1=>by
  show Wm (fit n k)=_;rw [x9 h1 h2 k];unfold Wm;lia
theorem NK{n:Int}{ns:List Int}(h1:1<=n)(h2:n<=999)(hl:ns.length<=500):∃ k,k<=ns.length/\fit n k∉ns:=by
 apply fW;intro Vg;have za:∀ k,k<=ns.length->fit n k∈ns:=fun k hk=>fW fun z=>Vg ⟨k,hk,z⟩;have nd:((ib (ns.length+1)).map fun k=>fit n k).Nodup:=by
  refine List.pairwise_iff_getElem.mpr fun i j hi hj Ka=>?_;simp only [aC,zv] at hi hj;rw [lZ,lZ,oP,oP,x9 h1 h2,x9 h1 h2];lia
 have:=gP _ ns nd fun x hx=>by
  obtain⟨k,hk,rfl⟩:=List.mem_map.mp hx;exact za k (by have:=List.mem_range.mp hk; lia)
 simp at this;lia
noncomputable def fe:mR:=fun ds G Q _=>∃ (d:D) (ns:List Int) (n:Int),ds=[d,.int n]/\IsL G d (ns.map D.int)/\(ns.length<=500/\1<=n/\n<=999)/\∀ m:Int,m∉ns->1<=m->m<=999->Q (.int m) G
theorem CU{G:Gp}{d:D}{ns:List Int}{i:Int}{Q:DK}(h:IsL G d (ns.map D.int))(k:Q (.bl (decide (i∈ns))) G):Pe false (.int i) d G Q:=by
 have e:(ns.map D.int).any (fun x=>hZ x (.int i))=decide (i∈ns):=Qy ns i;rcases h with rfl | ⟨a,rfl,g⟩
 ·refine⟨.int i,ns.map D.int,.int _,Sn.rI ns,?_⟩;simp only [aq,if_false];rw [e]; exact k
 ·unfold Pe;simp only [g];refine⟨.int i,ns.map D.int,.int _,Sn.rI ns,?_⟩;simp only [aq,if_false];rw [e]; exact k
theorem qi(ds:List D)(G:Gp)(Q:DK)(h:fe ds G Q fun _ _=>False):md (fun _ _=>False) (ends Q) (bF 2 ds) G:=by
 obtain⟨d,ns,n,rfl,hd,⟨hl,h1,h2⟩,q⟩:=h;unfold md;refine gf (fun τ G'=>G=G'/\∃ m:Int,(m∉ns/\1<=m/\m<=999)/\τ=[some d,some (.int m)]) ?_ ?_
 ·intro N hN;obtain⟨k,hk,oE⟩:=NK h1 h2 hl;have main:∀ (j:Nat),j<=k->Cs (jy (bE (Pe false) (ay 1) (ay 0))) (bQ (bE iN (bE pL (ay 1) (dC (.int 999))) (dC (.int 1))) (aP 1)) (j+1) (fun _ _=>False) { ends Q with nx:=N } [some d,some (.int (fit n (k - j)))] G:=by
   intro j;induction j with
   | zero =>
    intro _;show Cs _ _ (0+1) _ _ _ _;rw [Cs];simp only [bQ,bE,ay,ae,aa,dC,aP,ends,ar,ao,gi,dq,eA];refine CU hd ?_;simp only [Nat.sub_zero,oE,decide_false,cF,aq,if_false];have:=x9 h1 h2 k;exact hN _ _ ⟨rfl,_,⟨oE,by lia,by lia⟩,rfl⟩
   | succ j ih =>
    intro hj;rw [Cs];simp only [bQ,bE,ay,ae,aa,dC,aP,ends,ar,ao,gi,dq,eA];refine CU hd ?_;have hb:=x9 h1 h2 (k - (j+1));by_cases hm:fit n (k - (j+1))∈ns
    ·simp only [hm,decide_true,cF,if_true];refine⟨by decide,?_⟩;have e:fit n (k - (j+1)) % 999+1=fit n (k - j):=by
      rw [show k - j=(k - (j+1))+1 by lia]; rfl
     rw [e];exact ih (by lia)
    ·simp only [hm,decide_false,cF,aq,if_false];exact hN _ _ ⟨rfl,_,⟨hm,by lia,by lia⟩,rfl⟩
  have:=main k (aF _);rw [Nat.sub_self] at this;exact⟨k+1,this⟩
 ·rintro _ _ ⟨rfl,m,⟨m1,m2,m3⟩,rfl⟩;simp only [c5,dB,ay,ae,aa,ends];exact c4 (q m m1 m2 m3)
noncomputable abbrev dT(t:Tb):List (List D):=t.map fun r=>r.map D.int
structure Lk(rows:Rows):Prop where
 dr:Dr rows
 sp:∀ n∈names rows,∀ w:Int,w=0\/w=1->(∃ p∈rows.zipIdx 0,(⟨n,w⟩:T2)∈sH p.1 (p.2:Int))/\RX rows ⟨n,w⟩ < rows.length
 hd:∀ n∈names rows,∃ p∈rows.flatten,p.a=n
end Ld
end K2
end
section
namespace K2
open PySem (Str)
open Enc (enc)
namespace Ld
open K2.T
open K2.P (names handOf RX sH fc fO)
open K2.Y (fC pick ie ig cf e7 cw gP j3)
structure Cr where
 n:Int
 i:Nat
 j:Nat
 h:Int
noncomputable def Cr.ps(c:Cr):List T3:=[⟨c.n,0,c.h⟩,⟨c.n,1,c.h⟩]
noncomputable def flat(cs:List Cr):List T3:=cs.flatMap Cr.ps
structure CR(S:Nat)(rows:Rows)(cs:List Cr):Prop where
 len:rows.length=S
 perm:rows.flatten.Perm (flat cs)
 nd:(cs.map Cr.n).Nodup
 hand:∀ c∈cs,c.h=1\/c.h=-1
 ix:∀ c∈cs,c.i < S/\c.j < S
 Rz:∀ c∈cs,∃ r,rows[c.i]?=some r/\(⟨c.n,0,c.h⟩:T3)∈r
 Ry:∀ c∈cs,∃ r,rows[c.j]?=some r/\(⟨c.n,1,c.h⟩:T3)∈r
 Aj:cs.length<=12
section
variable {S:Nat} {rows:Rows} {cs:List Cr}
theorem inj{c d:Cr}:∀ {cs:List Cr},(cs.map Cr.n).Nodup->c∈cs->d∈cs->c.n=d.n->c=d
 | e :: cs,h,hc,hd,hn=>by
  rw [ak,aO] at h;rcases List.mem_cons.mp hc with e1 | z9
  ·rcases List.mem_cons.mp hd with e2 | hd2
   ·rw [e1,e2]
   ·exact absurd (by rw [<-e1,hn]; exact bI hd2) h.1
  ·rcases List.mem_cons.mp hd with e2 | hd2
   ·exact absurd (by rw [<-e2,<-hn]; exact bI z9) h.1
   ·exact inj h.2 z9 hd2 hn
end
structure AL(G G':Gp)(as:List Nat)(rs:List (List D)):Prop where
 le:fN G G'
 nd:as.Nodup
 fr:∀ a∈as,G a=none
 len:as.length=rs.length
 at':∀ (i a:Nat) (r:List D),as[i]?=some a->rs[i]?=some r->G' a=some (.lst r)
theorem AL.nil(G:Gp):AL G G [] []:=⟨.refl G,cE,fun _ h=>by(cases h),rfl,fun i a r h=>by simp at h⟩
theorem AL.new{G G':Gp}{as:List Nat}{rs:List (List D)}(h:AL G G' as rs){p:Nat}(hp:G' p=none):p∉as:=fun z=>by
 obtain⟨i,hi⟩:=mD z;have h1:i < rs.length:=by rw [<-h.len]; exact(List.getElem?_eq_some_iff.mp hi).1
 have:=h.at' i p rs[i] hi (au h1);rw [hp] at this; cases this
theorem AL.push{G G':Gp}{as:List Nat}{rs:List (List D)}(h:AL G G' as rs){p:Nat}(hp:G' p=none)(r:List D):AL G (eD G' p (.lst r)) (as++[p]) (rs++[r]):=by
 refine⟨h.le.trans (.new hp),?_,fun b hb=>?_,by rw [aB,aB,h.len]; rfl,fun i b r2 h1 h2=>?_⟩
 ·rw [eP];exact⟨h.nd,by simp,fun x hx y hy=>by rw [cT] at hy; subst hy; intro z; exact h.new hp (z ▸ hx)⟩
 ·rcases List.mem_append.mp hb with z | z
  ·exact h.fr b z
  ·rw [cT] at z; rw [z]; exact h.le.free hp
 ·by_cases hi:i < as.length
  ·rw [cO hi] at h1;rw [cO (by rw [<-h.len]; exact hi)] at h2;exact(fN.new hp) _ _ (h.at' i b r2 h1 h2)
  ·have ln:=h.len;rw [cm (by lia)] at h1;rw [cm (by lia)] at h2;have:i - as.length=0:=by
    have:=(List.getElem?_eq_some_iff.mp h1).1;simp at this; lia
   rw [this] at h1;rw [show i - rs.length=0 by lia] at h2;simp at h1 h2;subst h1 h2;exact aJ
theorem AL.top{G G':Gp}{as:List Nat}{rs:List (List D)}(h:AL G G' as rs){p:Nat}(hp:G' p=none):HL G (eD G' p (.lst (as.map D.ref))) p as rs :=
 ⟨h.le.trans (.new hp),h.le.free hp,aJ,h.new hp,h.nd,h.fr,h.len,fun i b r h1 h2=>(fN.new hp) _ _ (h.at' i b r h1 h2)⟩
theorem BL{i:Nat}{t:hV}{E:kS}{K:kI}{τ:gY}{G:Gp}:GB i t E K τ G=t E { K with nx:=fun nO G1=>match nO[i]? with
 | some (some d)=>KP G1 d fun t G2=>K.nx (nO.set i (some t)) G2
 | _=>False } τ G:=rfl
end Ld
end K2
end
section
namespace K2
open PySem (Str)
open Enc (enc)
namespace TH
open K2.P
section
variable {α β:Type} [DecidableEq α] [DecidableEq β]
structure Tr(V:List α)(R:α->α->Prop)(A:List α):Prop where
 pw:A.Pairwise fun a b=>¬ R a b
 cov:∀ v∈V,∃ a∈A,R v a
 in':∀ a∈A,a∈V
structure Eqv(R:α->α->Prop):Prop where
 rf:∀ x,R x x
 sy:∀ {x y},R x y->R y x
 tr:∀ {x y z},R x y->R y z->R x z
variable {V:List α} {R:α->α->Prop}
noncomputable def it(f:α->α):Nat->α->α
 | 0,a=>a
 | n+1,a=>f (it f n a)
structure Pm(V:List α)(f:α->α):Prop where
 cl:∀ a∈V,f a∈V
 inj:∀ a∈V,∀ b∈V,f a=f b->a=b
variable {f:α->α}
noncomputable def gr(V:List α)(f:α->α):List (α×α):=V.map fun a=>(a,f a)
end
end TH
end K2
end
section
namespace K2
open PySem (Str)
open Enc (enc)
namespace TH
open K2.P
variable {rows:Rows}
noncomputable def flp(z:T3):T3:=⟨z.a,z.b,1 - z.c⟩
noncomputable def swp(off:List T2)(z:T3):T3:=if z.s∈off then flp z else z
noncomputable def phi(rows:Rows)(off:List T2)(a:T3):T3:=swp off (step rows a)
noncomputable def Y5(rows:Rows):List T2:=rows.flatten.map T3.s
noncomputable def YT(rows:Rows):List T2:=(QN rows).filter fun s=>decide (s.b=2)
noncomputable def pr(s:T2):T3×T3:=(XE s,WX s)
noncomputable def base(rows:Rows):List (T3×T3):=gr (Uu rows) (phi rows (Y5 rows))++(YT rows).map pr
end TH
end K2
end
section
namespace K2
open PySem (Str)
open Enc (enc)
namespace Zf
open K2.P
structure HR(G G':Gp)(p0:Nat)(as:List Nat)(rs:Rows):Prop where
 le:fN G G'
 fp:G p0=none
 gp:G' p0=some (.lst (as.map D.ref))
 np:p0∉as
 nd:as.Nodup
 fr:∀ a∈as,G a=none
 len:as.length=rs.length
 at':∀ (i a:Nat) (r:List T3),as[i]?=some a->rs[i]?=some r->G' a=some (.lst (r.map enc))
structure MI(st:Int)(n:Nat)(name:Int)(L:List T3):Prop where
 off:∃ off:Int,0<=off/\off<=83 * n/\name=(st+off) % 999/\∀ p∈L,∃ o:Int,0 < o/\o<=off/\p.a=(st+o) % 999+1
 nd:(L.map T3.s).Nodup
 way:∀ p∈L,p.b=0\/p.b=1
 hand:∀ p∈L,p.c=1\/p.c=-1
 Dl:∀ p∈L,(⟨p.a,1 - p.b,p.c⟩:T3)∈L
 len:L.length=2 * n
end Zf
end K2
end
section
namespace K2
open PySem (Str)
open Enc (enc)
namespace Ze
open K2.P K2.Zf
variable {rows:Rows}
theorem Ng{c:vM}{a b:hV}{E:kS}{K:kI}{τ:gY}{G:Gp}:jV c a b E K τ G=c E τ G fun k G1=>if k=true then a E K τ G1 else b E K τ G1:=rfl
end Ze
end K2
end
section
namespace K2
open PySem (Str)
open Enc (enc)
namespace Ze
open K2.P K2.Zf
variable {rows:Rows}
structure HI(n:Nat)(ps:List (Int×Int))(P7:List Int):Prop where
 len:P7.length=n
 Uw:∀ x∈P7,0<=x/\x < (n:Int)
 eq:∀ i j:Nat,i < n->j < n->(P7.getD i 0=P7.getD j 0↔Cn ps (i:Int) (j:Int))
end Ze
end K2
end
section
namespace K2
open PySem (Str)
open Enc (enc)
namespace TH
open K2.P
variable {rows:Rows}
end TH
end K2
end
section
namespace K2
open PySem (Str)
open Enc (enc)
namespace OM
open K2.P K2.TH
section
variable {α:Type} [DecidableEq α]
noncomputable def dd(l:List α):List α:=l.foldl (fun acc x=>if x∈acc then acc else acc++[x]) []
end
variable {rows:Rows}
end OM
end K2
end
section
namespace K2
open PySem (Str)
open Enc (enc)
noncomputable instance:B1 T2 where
 mn:=by
  intro x G xs Q hi B8 k;cases xs with
  | nil=>exact absurd rfl B8
  | cons a r =>
   obtain⟨h1,h2⟩:=lJ r a;have ei:itemsOf x G=some (((a :: r).map T2.l).map tI):=by rw [hi,br]; rfl
   refine .inr ⟨(a :: r).map T2.l,_,ei,rfl,?_⟩;have:∀ (r:List T2) (a:T2),(r.map T2.l).foldl (fun m x=>if lexLt x m=true then x else m) a.l=(r.foldl (fun m x=>if bo.lt x m=true then x else m) a).l:=by
    intro r;induction r with
    | nil=>intro a; rfl
    | cons b r ih =>
     intro a;rw [ak,cM,cM];have e:(if lexLt b.l a.l=true then b.l else a.l)=(if bo.lt b a=true then b else a).l:=by
      have:bo.lt b a=lexLt b.l a.l:=rG _ _;rw [this];split <;> rfl
     rw [e]; exact ih _
   rw [this r a];exact k _ h1 h2
namespace OM
open K2.P K2.TH K2.T
open K2.Y (j3)
variable {rows:Rows}
end OM
end K2
end
section
namespace K2
open PySem (Str)
open Enc (enc)
namespace OM
open K2.P K2.T
open K2.Ld (CR Cr AL ef Wm iQ BL)
open K2.Y (fC pick ie ig cf e7 cw gP j3)
theorem Ng{c:vM}{a b:hV}{E:kS}{K:kI}{τ:gY}{G:Gp}:jV c a b E K τ G=c E τ G fun k G1=>if k=true then a E K τ G1 else b E K τ G1:=rfl
theorem eq_int(i j:Int):hZ (.int i) (.int j)=decide (i=j):=Enc.eqv i j
noncomputable def tm(L:List T3):List Int:=(L.filter fun p=>p.b == 0).map (·.a)
noncomputable def fb:mR:=R3 (fun rows:Rows=>rows.flatten.length<=500) fun rows=>tm rows.flatten
noncomputable def sS:hV :=
 (cN (bQ (kj a8) (aP 1))
 (cN (fR (oT (ay 0)) (aP 2) (fR (oT (ay 2)) (aP 3) (jV (jy (bE (HD false) (bE lR (ay 3) (dC (.int 1))) (dC (.int 0)))) (nA (yQ K3 tx (ay 1) (av (bE lR (ay 3) (dC (.int 0))) a8))) fB)))
 (c5 (dB (ay 1)))))
theorem qr(L:List T3):(tm L).length<=L.length:=by unfold tm; rw [aC]; exact dw _ _
theorem PM(a b:List T3):tm (a++b)=tm a++tm b:=by unfold tm; rw [dN,a9]
theorem um(ds:List D)(G:Gp)(Q:DK)(h:fb ds G Q fun _ _=>False):sS (fun _ _=>False) (ends Q) (bF 4 ds) G:=by
 obtain⟨rows,rfl,hl,q⟩:=h;unfold sS;simp only [ends,bF,ak,bq,aj,aE,bc,az,aT,c9,bQ,kj,a8,aP,ar,ao];refine⟨by decide,fun p hp=>?_⟩;refine gf (fun τ G'=>(∃ a b,τ=[some (enc rows),some (.ref p),a,b])/\fN G G'/\G' p=some (.lst ((tm rows.flatten).map enc))) ?_ ?_
 ·intro N hN;simp only [fR,fJ,ay,aa];refine j4 ?_;refine eU (xs:=rows) (fun pre τ G'=>(∃ a b,τ=[some (enc rows),some (.ref p),a,b])/\fN G G'/\G' p=some (.lst ((tm pre.flatten).map enc))) ⟨⟨_,_,rfl⟩,.new hp,aJ⟩ (fun _ _ _ _=>trivial) ?_ ?_
  ·rintro pre r post τ G' N2 e ⟨⟨a,b,rfl⟩,l,gp⟩ qv;have hlen:pre.flatten.length+r.length<=rows.flatten.length:=by
    rw [e]; simp only [nE,eQ,aB]; lia
   simp only [aP,fR,ar,ao,fJ,ay,ae,aa];refine j4 ?_;refine eU (xs:=r) (fun pp τ G'=>(∃ a b,τ=[some (enc rows),some (.ref p),a,b])/\fN G G'/\G' p=some (.lst ((tm (pre.flatten++pp)).map enc))) ⟨⟨_,_,rfl⟩,l,by rw [cz]; exact gp⟩ (fun _ _ _ _=>trivial) ?_ ?_
   ·rintro pp t pt τ G4 N3 e4 ⟨⟨a,b,rfl⟩,l4,S8⟩ Ny;have hpp:pp.length < r.length:=by have:=congrArg dU e4; simp at this; lia
    have hz:=qr (pre.flatten++pp);rw [aB] at hz;simp only [aP,BE,ar,ao,Ng,nA,yQ,ay,ae,aa,nQ,av,bE,dC,a8,ja,gJ,Rz,fB,eA,Ry];refine⟨_,_,.int _,.int _,?_⟩;rw [eq_int];have eu:tm (pre.flatten++(pp++[t]))=tm (pre.flatten++pp)++tm [t]:=by rw [<-bK,PM]
    by_cases hb:t.b=0
    ·simp only [aq,hb,decide_true,bV,if_false,cF,S8,true_and,if_true];refine⟨RW (by rw [aC]; lia),Ny _ _ ⟨⟨_,_,rfl⟩,l4.put hp,?_⟩⟩;rw [aJ,eu,a9];have:tm [t]=[t.a]:=by simp [tm,hb]
     rw [this]; rfl
    ·simp only [aq,hb,decide_false,eC,if_false,cF];refine Ny _ _ ⟨⟨_,_,rfl⟩,l4,?_⟩;have:tm [t]=[]:=by simp [tm,hb]
     rw [eu,this,cz]; exact S8
   ·rintro τ G4 ⟨⟨a,b,rfl⟩,l4,S8⟩;refine qv _ _ ⟨⟨_,_,rfl⟩,l4,?_⟩;have:(pre++[r]).flatten=pre.flatten++r:=by simp
    rw [this]; exact S8
  ·rintro τ G' ⟨⟨a,b,rfl⟩,l,gp⟩;exact hN _ _ ⟨⟨_,_,rfl⟩,l,gp⟩
 ·rintro _ G' ⟨⟨a,b,rfl⟩,l,gp⟩;simp only [c5,dB,ay,ae,aa];exact og l hp gp q
theorem Iq{G G2:Gp}{d:D}{ds:List D}{R:List D->(Gp->Prop)->Gp->Prop}(h:IsL G d ds)(l:fN G G2)(k:∀ ok:Gp->Prop,(∀ G',fN G G'->ok G')->R ds ok G2):P4 d G2 R:=by
 rcases h with rfl | ⟨a,rfl,e⟩
 ·exact k _ fun _ _=>trivial
 ·rw [Ir (l _ _ e)];exact k _ fun G' le=>le _ _ e
end OM
end K2
end
section
namespace K2
open PySem (Str)
open Enc (enc)
namespace JB
open K2.T
open K2.P (names handOf fc fO k8 wu pairsOf)
open K2.Y (fC pick ie ig cf e7 cw j3)
open K2.Ld (AL iQ BL)
open K2.OM (Iq tm qr)
noncomputable def ef:mR:=Ld.ef
noncomputable def me:hV :=
 (c5 (dB (gy 1 [] (oT (ay 0)) (aP 0) none (uy vL (av (ay 0) a8)))))
theorem qj(ds:List D)(G:Gp)(Q:DK)(h:ef ds G Q fun _ _=>False):me (fun _ _=>False) (ends Q) (bF 1 ds) G:=Ld.qj ds G Q h
noncomputable def fe:mR:=Ld.fe
noncomputable def md:hV :=
 (cN (GA (jy (bE (Pe false) (ay 1) (ay 0))) (bQ (bE iN (bE pL (ay 1) (dC (.int 999))) (dC (.int 1))) (aP 1)))
 (c5 (dB (ay 1))))
theorem qi(ds:List D)(G:Gp)(Q:DK)(h:fe ds G Q fun _ _=>False):md (fun _ _=>False) (ends Q) (bF 2 ds) G:=Ld.qi ds G Q h
noncomputable def xc:hV :=
 (cN (bQ (bC ef (av (ay 0) a8)) (aP 4))
 (cN (bQ (bE pL (ay 2) (bE iN (uy ue (av (bE lR (ay 4) (ay 1)) a8)) (dC (.int 1)))) (aP 2))
 (cN (bQ (bE iN (bE iN (EI (bE lR (ay 4) (ay 1)) gX (rm (ay 2))) (ay 3)) (EI (bE lR (ay 4) (ay 1)) (rm (ay 2)) gX)) (lI (ay 4) (ay 1)))
 (c5 (dB (ay 4))))))
noncomputable def g8:mR:=fun ds G Q _=>∃ (rs:List (List D)) (i:Nat) (pl:Int) (more:List D),ds=[.dJ (rs.map D.dJ),.int i,.int pl,.dJ more]/\(i < rs.length/\rs.length<=1000/\(∀ r∈rs,r.length<=500)/\more.length<=100)/\∀ (r:List D) (k:Nat),rs[i]?=some r->k<=r.length->(k:Int)=pl % ((r.length:Int)+1)->Q (.dJ ((rs.set i (r.take k++more++r.drop k)).map D.dJ)) G
theorem GV(ds:List D)(G:Gp)(Q:DK)(h:g8 ds G Q fun _ _=>False):xc (fun _ _=>False) (ends Q) (bF 5 ds) G:=by
 obtain⟨rs,i,pl,more,rfl,⟨hi,hl,hr,hm⟩,q⟩:=h;unfold xc;simp only [ends,bF,ak,bq,aj,aE,bc,az,aT,c9,bQ,bC,av,ay,aa,a8,aP,ar,ao,bE,ae,uy,dC,EI,gX,lI,c5,dB,kh];refine⟨rs,rfl,hl,fun G1 p0 as h1=>?_⟩;obtain⟨r,er⟩:∃ r,rs[i]?=some r:=⟨rs[i],au hi⟩;have hrl:=hr r (cS er);obtain⟨a,ea,ga,ia⟩:=h1.row (i:=i) (r:=r) er;refine Fj (IsL.ref h1.gp) ia (Qu (IsL.ref ga) ?_);simp only [dq,gi,gE];refine⟨by lia,?_⟩;have c1:0<=pl % ((r.length:Int)+1):=kB _ (by lia);have c2:pl % ((r.length:Int)+1) < (r.length:Int)+1:=iJ _ (by lia);generalize ec:pl % ((r.length:Int)+1)=c at c1 c2;obtain⟨k,rfl⟩:∃ k:Nat,c=(k:Int):=⟨c.toNat,by lia⟩;have hk:k<=r.length:=by lia
 refine Fj (IsL.ref h1.gp) ia (A1 (IsL.ref ga) fun p1 f1=>?_);rw [N7 _ _ hk];have l1:=fN.new (o:=.lst (r.take k)) f1;refine wb (IsL.ref aJ) (IsL.dJ) (by rw [c7]; exact Jp (by lia)) fun p2 f2=>?_;have l2:=fN.new (o:=.lst (r.take k++more)) f2;have Wa:=l1.trans l2;refine Fj (IsL.ref (Wa _ _ h1.gp)) ia (A1 (IsL.ref (Wa _ _ ga)) fun p3 f3=>?_);rw [Ea _ _ hk];have l3:=fN.new (o:=.lst (r.drop k)) f3;refine wb (IsL.ref (l3 _ _ aJ)) (IsL.ref aJ) (by simp only [aB,c7,cx]; exact Jp (by lia)) fun p4 f4=>?_;have l4:=fN.new (o:=.lst (r.take k++more++r.drop k)) f4;have h4:=h1.ext ((Wa.trans l3).trans l4);have hn:∀ o,G1 p4≠some o:=fun o z=>by
  have:=(Wa.trans l3) _ _ z;rw [f4] at this; cases this
 have n4:p4∉as:=fun z=>by
  obtain⟨j,hj⟩:=mD z;have hjl:j < rs.length:=by rw [<-h1.len]; exact(List.getElem?_eq_some_iff.mp hj).1
  exact hn _ (h1.at' j p4 _ hj (au hjl))
 have n0:p4≠p0:=fun z=>hn _ (by rw [z]; exact h1.gp);have hf4:G p4=none:=by
  cases e:G p4 with
  | none=>rfl
  | some o=>exact absurd (h1.le _ _ e) (hn o)
 have hj:i < as.length:=(List.getElem?_eq_some_iff.mp ea).1;have h5:=h4.L5 (r':=r.take k++more++r.drop k) hj aJ n4 hf4 n0;unfold wZ;simp only [h4.gp];have ei:Ip (as.map D.ref).length (i:Int)=some i:=by
  unfold Ip;rw [if_pos (by lia),if_pos (by rw [aC]; lia)]; simp
 simp only [ei];have es:(as.map D.ref).set i (.ref p4)=(as.set i p4).map D.ref:=by rw [List.map_set]
 rw [es];refine h5.fz ?_;exact q r k er hk ec.symm
theorem A3{α:Type} [DecidableEq α] [Enc α]{G:Gp}{Q:DK}{rows:List (List α)}{i:Nat}{pl:Int}{more:List α}(h:i < rows.length/\rows.length<=1000/\(∀ r∈rows,r.length<=500)/\more.length<=100)
  (q:∀ (r:List α) (k:Nat),rows[i]?=some r->k<=r.length->(k:Int)=pl % ((r.length:Int)+1)->Q (enc (rows.set i (r.take k++more++r.drop k))) G):g8 [enc rows,.int i,.int pl,enc more] G Q fun _ _=>False:=by
 refine⟨rows.map fun r=>r.map enc,i,pl,more.map enc,by rw [iQ]; rfl,⟨by rw [aC]; exact h.1,by rw [aC]; exact h.2.1,fun r hr=>?_,by rw [aC]; exact h.2.2.2⟩,fun r k hr hk e=>?_⟩
 ·obtain⟨r',DG,rfl⟩:=List.mem_map.mp hr;rw [aC]; exact h.2.2.1 r' DG
 ·rw [bA] at hr;obtain⟨r',DG,rfl⟩:=Option.map_eq_some_iff.mp hr;rw [aC] at hk e;have:=q r' k DG hk e;rw [iQ,List.map_set,a9,a9,List.map_take,List.map_drop] at this;exact this
theorem Dr.two{rows R:Rows}(d:Dr rows){m h:Int}(hm:∀ p∈rows.flatten,p.a≠m)(hh:h=1\/h=-1)(hp:R.flatten.Perm (⟨m,1,h⟩ :: ⟨m,0,h⟩ :: rows.flatten))(Aj:rows.flatten.length<=22)(str:R.length<=3):Dr R:=by
 have mem:∀ p,p∈R.flatten↔p=⟨m,1,h⟩\/p=⟨m,0,h⟩\/p∈rows.flatten:=fun p=>by rw [hp.mem_iff,aQ,aQ]
 refine⟨?_,fun p h1=>?_,fun p h1=>?_,fun p h1=>?_,?_,str⟩
 ·refine(hp.map T3.s).nodup_iff.mpr ?_;rw [ak,ak,aO,aO];have out:∀ w:Int,(⟨m,w⟩:T2)∉rows.flatten.map T3.s:=fun w z=>by
   obtain⟨p,ux,e⟩:=List.mem_map.mp z;injection e with e1 _
   exact hm p ux e1
  refine⟨fun z=>?_,out 0,d.nd⟩;rcases List.mem_cons.mp z with z | z
  ·injection z with _ z2; cases z2
  ·exact out 1 z
 ·rcases (mem p).mp h1 with rfl | rfl | h1
  ·exact .inr rfl
  ·exact .inl rfl
  ·exact d.way p h1
 ·rcases (mem p).mp h1 with rfl | rfl | h1
  ·exact hh
  ·exact hh
  ·exact d.hand p h1
 ·rcases (mem p).mp h1 with rfl | rfl | h1
  ·exact(mem _).mpr (.inr (.inl rfl))
  ·exact(mem _).mpr (.inl rfl)
  ·exact(mem _).mpr (.inr (.inr (d.Dl p h1)))
 ·rw [hp.length_eq,aj,aj]; lia
theorem Dr.nil{S:Nat}(h:S<=3):Dr (bc S []):=by
 have e:(bc S ([]:List T3)).flatten=[]:=by
  rw [List.flatten_eq_nil_iff]; intro l hl; exact(List.mem_replicate.mp hl).2
 refine⟨by rw [e]; exact cE,fun p hp=>?_,fun p hp=>?_,fun p hp=>?_,by rw [e]; simp,by simpa using h⟩ <;> rw [e] at hp <;> cases hp
theorem nu{rows:Rows}{i k:Nat}{r more:List T3}(hr:rows[i]?=some r):(rows.set i (r.take k++more++r.drop k)).flatten.Perm (more++rows.flatten):=by
 refine(NI hr).trans ?_;refine OT ?_ ((Qb hr).symm.append_left _);rw [<-bK];refine Ez _ ?_
 conv=>rhs; rw [<-uq k r]
 rw [<-bK];exact List.perm_append_comm.append_right _
noncomputable def Zb(rows:Rows)(ns:List Int):Prop:=∀ p∈rows.flatten,p.a∈ns
noncomputable def pI:hV :=
 (cN (GB 3 (bQ (gy 1 [] (DE (ay 1)) (aP 0) none (kj a8)) (aP 3)))
 (cN (bQ (kj a8) (aP 4))
 (cN (fR (oT (ay 0)) (aP 5) (cN (bQ (bC fe (av (ay 4) (av (bE iN (dC (.int 1)) (bC cw (av (ay 5) (av (dC (.int 10007)) (av (ay 2) a8))))) a8))) (aP 6))
 (cN (nA (yQ K3 tx (ay 4) (av (ay 6) a8)))
 (cN (bQ (bE Pa (dC (.int 1)) (bE Fi (dC (.int 2)) (bC cw (av (ay 5) (av (dC (.int 10009)) (av (dC (.int 2)) a8)))))) (aP 7))
 (fR (DE (dC (.int 2))) (aP 8) (cN (bQ (bE iN (dC (.int 10037)) (bE Fi (dC (.int 24)) (ay 8))) (aP 9))
 (cN (bQ (bC cw (av (ay 5) (av (bE iN (dC (.int 10039)) (bE Fi (dC (.int 28)) (ay 8))) (av (dC (.int 10000)) a8)))) (aP 10))
 (bQ (dB (bC g8 (av (dB (ay 3)) (av (dB (bC cw (av (ay 5) (av (ay 9) (av (ay 1) a8))))) (av (dB (ay 10)) (av (dB (kj (av (fQ (av (ay 6) (av (ay 8) (av (ay 7) a8)))) a8))) a8)))))) (aP 3)))))))))
 (c5 (dB (ay 3))))))
noncomputable def jm:mR:=fun ds G Q _=>∃ (d:D) (cells:List Int) (S:Nat) (sp:Int),ds=[d,.int S,.int sp]/\IsL G d (cells.map D.int)/\(cells.length<=12/\(1<=S/\S<=3)/\1<=sp/\sp<=999) /\
 ∀ rows:Rows,Dr rows->rows.length=S->rows.flatten.length=2 * cells.length->Q (enc rows) G
theorem yB(ds:List D)(G:Gp)(Q:DK)(h:jm ds G Q fun _ _=>False):pI (fun _ _=>False) (ends Q) (bF 11 ds) G:=by
 obtain⟨d,cells,S,sp,rfl,hd,⟨Nr,⟨T4,YE⟩,Zv,Zu⟩,q⟩:=h;unfold pI;simp only [ends,bF,ak,bq,aj,aE,bc,az,aT,pD,BL,bQ,gy,aP,ar,ao,ae,aa,kj,a8,lG,ay,jJ,eV];have Vd:(-(2 ^ 62):Int)<=(S:Int)/\(S:Int) < 2 ^ 62:=by lia
 refine⟨Vd.1,Vd.2,Jp (by simp [fu]; lia),?_⟩;refine Ql (fun pre acc τ G'=>(∃ a,τ=[a])/\∃ as:List Nat,acc=as.map D.ref/\AL G G' as (bc pre.length [])) ⟨⟨_,rfl⟩,[],rfl,.nil G⟩ (fun _ _ _ _ _=>trivial) ?_ ?_
 ·rintro pre x post acc τ G' N e ⟨⟨a,rfl⟩,as,rfl,al⟩ hN;simp only [aP,kj,a8,aE,ao];refine⟨by decide,fun p hp=>hN _ _ _ ⟨⟨_,rfl⟩,as++[p],by simp,?_⟩⟩;rw [aB,du,List.replicate_succ'];exact al.push hp []
 rintro acc τ G' ⟨⟨a,rfl⟩,as,rfl,al⟩ p3 f3;refine(al.top f3).fz ?_;have e3:D.dJ ((bc (fu 0 S).length ([]:List D)).map D.dJ)=enc (bc S ([]:List T3)):=by
  rw [iQ]; simp [fu]
 rw [e3];clear al f3 p3 as G' a e3;refine⟨by decide,fun p6 f6=>?_⟩;simp only [fR];simp only [fJ,ay,aa];refine Iq hd (.new f6) fun ok cD=>?_;refine eU (xs:=cells) (f:=D.int) (fun pre τ G'=>fN G G'/\∃ (rows:Rows) (ns:List Int) (a1 a2 a3 a4 a5 a6:Option D),(Dr rows/\rows.length=S/\rows.flatten.length=2 * pre.length/\ns.length=pre.length/\Zb rows ns)/\G' p6=some (.lst (ns.map D.int)) /\
  τ=[some d,some (.int S),some (.int sp),some (enc rows),some (.ref p6),a1,a2,a3,a4,a5,a6]) ⟨.new f6,_,[],_,_,_,_,_,_,⟨Dr.nil YE,by simp,by simp,rfl,fun p hp=>by simp at hp⟩,aJ,rfl⟩ (fun _ _ _ h=>cD _ h.1) ?_ ?_
 ·rintro pre x post τ G' N2 e ⟨le,rows,ns,a1,a2,a3,a4,a5,a6,⟨dr,hlen,Yw,Vp,Vh⟩,YJ,rfl⟩ qv;have hlp:=j3 e;simp only [aP,ar,ao,pD,bQ,bC,av,ay,ae,aa,bE,dC,a8,nA,yQ,nQ,ja];refine⟨_,_,_,rfl,⟨by decide,by lia⟩,?_⟩;simp only [dq];have q1:=ie x 10007 (m:=sp) (by lia);have q2:=ig x 10007 (m:=sp) (by lia);refine⟨.ref p6,ns,_,rfl,IsL.ref YJ,⟨by lia,by lia,by lia⟩,fun m m1 m2 m3=>?_⟩;simp only [YJ,true_and];refine⟨RW (by rw [aC]; lia),?_⟩;have OK:fN G (eD G' p6 (.lst (ns.map D.int++[.int m]))):=le.put f6;have g62:(eD G' p6 (.lst (ns.map D.int++[.int m]))) p6=some (.lst (ns.map D.int++[.int m])):=aJ;generalize eD G' p6 (.lst (ns.map D.int++[.int m]))=G2 at OK g62;refine⟨_,_,_,rfl,by decide,?_⟩;simp only [jt,mV];have h1:=ie x 10009 (m:=2) (by decide);have h2:=ig x 10009 (m:=2) (by decide);refine⟨.inl ⟨by decide,by decide⟩,?_⟩;have hh:(1 - 2 * pick x 10009 2)=1\/(1 - 2 * pick x 10009 2)=-1:=by lia
  generalize (1 - 2 * pick x 10009 2)=hd at hh;simp only [fR];simp only [lG,dC,jJ];refine⟨by decide,by decide,?_⟩;have er:fu 0 (Int.toNat 2)=([0,1]:List Int).map D.int:=rfl;rw [er];have rl:=L3 dr;have fw:=dr.Aj;have Yn:∀ p∈rows.flatten,p.a≠m:=fun p hp z=>m1 (z ▸ Vh p hp);refine eU (xs:=([0,1]:List Int)) (f:=D.int) (fun y7 τ G3=>G2=G3/\∃ (R:Rows) (b1 b2 b3:Option D),((y7=[]/\R=rows)\/(∃ (i:Nat) (r:List T3) (k:Nat),y7=[0]/\i < S/\rows[i]?=some r/\R=rows.set i (r.take k++[⟨m,0,hd⟩]++r.drop k))\/(y7=[0,1]/\Dr R/\R.length=S/\R.flatten.Perm (⟨m,1,hd⟩ :: ⟨m,0,hd⟩ :: rows.flatten))) /\
   τ=[some d,some (.int S),some (.int sp),some (enc R),some (.ref p6),some (.int x),some (.int m),some (.int hd),b1,b2,b3]) ⟨rfl,rows,_,_,_,.inl ⟨rfl,rfl⟩,rfl⟩ (fun _ _ _ _=>trivial) ?_ ?_
  ·rintro y7 w ZA τ G3 N3 e2 ⟨rfl,R,b1,b2,b3,J,rfl⟩ Ny;have Tq:(y7=[]/\w=0)\/(y7=[0]/\w=1):=by
    cases y7 with
    | nil=>cases e2; exact .inl ⟨rfl,rfl⟩
    | cons u y7 =>
     cases y7 with
     | nil=>cases e2; exact .inr ⟨rfl,rfl⟩
     | cons v y7 =>
      have:=congrArg dU e2;simp at this
   rcases Tq with ⟨rfl,rfl⟩ | ⟨rfl,rfl⟩
   ·have eR:R=rows:=by
     rcases J with ⟨_,z⟩ | ⟨_,_,_,z,_⟩ | ⟨z,_⟩
     ·exact z
     ·cases z
     ·cases z
    subst eR;simp only [aP,ar,ao,pD,bQ,bE,dC,ay,ae,aa,bC,av,a8,dB,kj,fQ,aj,aE,jt,dq];refine⟨.inl ⟨by decide,by decide⟩,?_⟩;refine⟨.inl ⟨by decide,by decide⟩,?_⟩;refine⟨_,_,_,rfl,⟨by decide,by decide⟩,?_⟩;refine c4 ⟨_,_,_,rfl,⟨by decide,by lia⟩,c4 ?_⟩;have i1:=ie x (10037+24 * 0) (m:=S) (by lia);have i2:=ig x (10037+24 * 0) (m:=S) (by lia);generalize pick x (10037+24 * 0) S=oi at i1 i2;obtain⟨i,rfl⟩:∃ i:Nat,oi=(i:Int):=⟨oi.toNat,by lia⟩;refine c4 ⟨by decide,by decide,fun pa fa=>?_⟩;refine og (xs:=[(⟨m,0,hd⟩:T3)]) (.new fa) fa aJ ?_;refine A3 (rows:=R) (more:=[(⟨m,0,hd⟩:T3)]) ⟨by rw [hlen]; lia,by rw [hlen]; lia,fun r hr=>by have:=rl r hr; lia,by simp⟩ fun r k hr hk ek=>c4 ?_;exact Ny _ _ ⟨rfl,_,_,_,_,.inr (.inl ⟨i,r,k,rfl,by lia,hr,rfl⟩),rfl⟩
   ·obtain⟨i,r,k,hi,hr,rfl⟩:∃ (i:Nat) (r:List T3) (k:Nat),i < S/\rows[i]?=some r/\R=rows.set i (r.take k++[⟨m,0,hd⟩]++r.drop k):=by
     rcases J with ⟨z,_⟩ | ⟨i,r,k,_,z⟩ | ⟨z,_⟩
     ·cases z
     ·exact⟨i,r,k,z⟩
     ·cases z
    simp only [aP,ar,ao,pD,bQ,bE,dC,ay,ae,aa,bC,av,a8,dB,kj,fQ,aj,aE,jt,dq];refine⟨.inl ⟨by decide,by decide⟩,?_⟩;refine⟨.inl ⟨by decide,by decide⟩,?_⟩;refine⟨_,_,_,rfl,⟨by decide,by decide⟩,?_⟩;refine c4 ⟨_,_,_,rfl,⟨by decide,by lia⟩,c4 ?_⟩;have i1:=ie x (10037+24 * 1) (m:=S) (by lia);have i2:=ig x (10037+24 * 1) (m:=S) (by lia);generalize pick x (10037+24 * 1) S=oj at i1 i2;obtain⟨j,rfl⟩:∃ i:Nat,oj=(i:Int):=⟨oj.toNat,by lia⟩;refine c4 ⟨by decide,by decide,fun pa fa=>?_⟩;refine og (xs:=[(⟨m,1,hd⟩:T3)]) (.new fa) fa aJ ?_;refine A3 (more:=[(⟨m,1,hd⟩:T3)]) ⟨by rw [cy,hlen]; lia,by rw [cy,hlen]; lia,fun r2 Wg=>?_,by simp⟩ fun r' k' DG Rm ek'=>c4 ?_
    ·rcases oW Wg with z | z
     ·have:=rl r2 z; lia
     ·have:=rl r (cS hr);rw [z,aB,aB,du,c7,cx]; lia
    have pf:=(nu (k:=k') (more:=[⟨m,1,hd⟩]) DG).trans ((nu (k:=k) (more:=[⟨m,0,hd⟩]) hr).append_left _);have YW:Dr ((rows.set i (r.take k++[⟨m,0,hd⟩]++r.drop k)).set j (r'.take k'++[⟨m,1,hd⟩]++r'.drop k')):=K2.JB.Dr.two dr Yn hh pf (by lia) (by rw [cy,cy]; lia);exact Ny _ _ ⟨rfl,_,_,_,_,.inr (.inr ⟨rfl,YW,by rw [cy,cy]; exact hlen,pf⟩),rfl⟩
  ·rintro τ G3 ⟨rfl,R,b1,b2,b3,J,rfl⟩;obtain⟨drn,ln,pf⟩:Dr R/\R.length=S/\R.flatten.Perm (⟨m,1,hd⟩ :: ⟨m,0,hd⟩ :: rows.flatten):=by
    rcases J with ⟨z,_⟩ | ⟨_,_,_,z,_⟩ | ⟨_,z⟩
    ·cases z
    ·cases z
    ·exact z
   refine qv _ _ ⟨OK,R,ns++[m],_,_,_,_,_,_,⟨drn,ln,by rw [pf.length_eq,aj,aj,aB,du]; lia,by rw [aB,aB,Vp]; rfl,fun p hp=>?_⟩,?_,rfl⟩
   ·rcases List.mem_cons.mp (pf.mem_iff.mp hp) with rfl | hp
    ·simp
    ·rcases List.mem_cons.mp hp with rfl | hp
     ·simp
     ·exact mC _ (Vh p hp)
   ·rw [g62,a9]; rfl
 ·rintro τ G' ⟨le,rows,ns,a1,a2,a3,a4,a5,a6,⟨dr,hlen,Yw,Vp,Vh⟩,YJ,rfl⟩;simp only [c5,dB,ay,ae,aa];exact tU le (q rows dr hlen Yw)
end JB
end K2
end
section
namespace K2
open PySem (Str)
open Enc (enc)
namespace JB
open K2.P K2.J
open K2.Y (Po L ND NZ fi ju gC gx cf cw fC pick ie ig Pl NP)
open K2.Ld (iQ)
open K2.OM (tm qr fb)
variable {rows:Rows}
noncomputable def wr(rows:Rows):Int:=((names rows).map (handOf rows)).sum
noncomputable def zF:hV :=
 (c5 (dB (uy Ts (av (gy 1 [0] (oT (bC fc (av (ay 0) a8))) (aP 0) none (bC fO (av (ay 1) (av (ay 0) a8)))) a8))))
noncomputable def mT:mR:=fun ds G Q _=>∃ rows:Rows,ds=[enc rows]/\Dr rows/\Q (.int (wr rows)) G
theorem KH(ds:List D)(G:Gp)(Q:DK)(h:mT ds G Q fun _ _=>False):zF (fun _ _=>False) (ends Q) (bF 1 ds) G:=by
 obtain⟨rows,rfl,d,q⟩:=h;have Aj:=d.Aj;have nl:=xD d;unfold zF;simp only [c5,dB,uy,av,gy,bF,ak,bq,aj,aE,az,aT,a8,ends,fJ,bC,ay,aa];refine⟨rows,rfl,(show rows.flatten.length < 64 by lia),j4 ⟨Jp (by rw [aC]; show (names rows).length<=1000; lia),?_⟩⟩;refine kl (xs:=names rows) (fun pre acc τ G'=>G=G'/\(∃ a,τ=[a,some (enc rows)])/\acc=(pre.map (handOf rows)).map D.int) ⟨rfl,⟨_,rfl⟩,rfl⟩ (fun _ _ _ _ _=>trivial) ?_ ?_
 ·rintro pre n post acc τ G' N e ⟨rfl,⟨a,rfl⟩,rfl⟩ hN;have hn:n∈names rows:=by rw [e]; simp
  simp only [aP,bC,av,ay,wx,ao,ae,aa,a8];refine⟨rows,n,rfl,⟨by lia,Ro d hn⟩,?_⟩;refine hN _ _ _ ⟨rfl,⟨_,rfl⟩,?_⟩;rw [a9,a9]; rfl
 ·rintro acc τ G' ⟨rfl,⟨a,rfl⟩,rfl⟩ p hp;refine⟨(names rows).map (handOf rows),LB (IsL.ref aJ),oe (IsL.ref aJ),⟨by rw [aC]; lia,fun n hn=>?_⟩,tU (.new hp) q⟩;obtain⟨m,hm,rfl⟩:=List.mem_map.mp hn;obtain⟨p,ux,_,e⟩:=k8.mp hm;have:=d.hand p ux;rw [<-wu d ux,e] at this;lia
theorem BP.eq{T U:Po}{f k:Fn->Int}(b:BP T f)(c:BP U k)(h:∀ g,f g=k g):u7 T U=true:=NP b.nd c.nd b.nz c.nz fun g=>by rw [b.val,c.val,h]
noncomputable def hs(L:List T3):Int:=((L.filter fun p=>p.b == 0).map (·.c)).sum
theorem O5(a b:List Int):(a++b).sum=a.sum+b.sum:=by
 induction a with
 | nil=>simp
 | cons x a ih=>rw [az,g6,g6,ih]; lia
theorem SX(a b:List T3):hs (a++b)=hs a+hs b:=by unfold hs; rw [dN,a9,O5]
theorem CA{a b:List Int}(h:a.Perm b):a.sum=b.sum:=by
 induction h with
 | nil=>rfl
 | cons x _ ih=>rw [g6,g6,ih]
 | swap x y l=>rw [g6,g6,g6,g6]; lia
 | trans _ _ a b=>exact a.trans b
theorem QJ(d:Dr rows):wr rows=hs rows.flatten:=by
 unfold wr hs names;rw [CA ((pB _).map (handOf rows)),br];congr 1;refine cZ fun p hp=>?_;exact wu d (List.mem_filter.mp hp).1
theorem P5{a b:List T3}(h:a.Perm b):hs a=hs b:=by unfold hs; exact CA ((h.filter _).map _)
noncomputable def V7(L:List T3):List (Int×Int):=(L.filter fun p=>p.b == 0).map fun p=>(p.a,p.c)
theorem H0(d:Dr rows):(nh rows).Perm (V7 rows.flatten):=by
 unfold nh names;refine((pB _).map _).trans ?_;rw [br];unfold V7;have:((rows.flatten.filter fun p=>p.b == 0).map ((fun n=>(n,handOf rows n))∘fun p:T3=>p.a))=(rows.flatten.filter fun p=>p.b == 0).map fun p=>(p.a,p.c):=by
  refine cZ fun p hp=>?_;show (p.a,handOf rows p.a)=_;rw [wu d (List.mem_filter.mp hp).1]
 rw [this]
theorem MD{a b:List T3}(h:a.Perm b):(V7 a).Perm (V7 b):=(h.filter _).map _
theorem MC(rows:Rows):(nh rows).map (·.1)=names rows:=by
 unfold nh;rw [br];exact kW _
theorem Dm.sub{f:T3->T3}{ns ms:List Int}(d:Dm f ns)(h:ms.Nodup)(hs:∀ m∈ms,m∈ns):Dm f ms:=⟨d.iv,h,fun n hn=>d.dm n (hs n hn)⟩
theorem Ia{L M:List T3}(h:(M.map T3.s).Nodup){N:List T3}(p:M.Perm (N++L)):(L.map T3.s).Nodup:=by
 have:=(p.map T3.s).nodup_iff.mp h;rw [a9] at this;exact(List.nodup_append.mp this).2.1
theorem O8{rows:Rows}{i k:Nat}{r:List T3}{p q:T3}(hk:k<=r.length):(rows.set i (r.take k++q :: r.drop k)).set i ((r.take k++q :: r.drop k).take k++p :: (r.take k++q :: r.drop k).drop k)=rows.set i (r.take k++[p,q]++r.drop k):=by
 have l:(r.take k).length=k:=by rw [c7]; lia
 rw [List.set_set,List.take_append_of_le_length (by lia),sk (by lia),B4 (by lia),List.drop_of_length_le (by lia),aT,bK];rfl
theorem U6{rows:Rows}{i k:Nat}{r:List T3}{p q:T3}(hr:rows[i]?=some r)(hk:k<=r.length)(nd:TF (rows.set i (r.take k++[p,q]++r.drop k))) :
  fr rows=gQ (fr (rows.set i (r.take k++[p,q]++r.drop k))) [(eI p.s,eO p.s),(eI q.s,eO q.s)]/\lo rows=lo (rows.set i (r.take k++[p,q]++r.drop k))+cls (fr (rows.set i (r.take k++[p,q]++r.drop k))) [(eI p.s,eO p.s),(eI q.s,eO q.s)] /\
  fr (rows.set i (r.take k++[p,q]++r.drop k)) (eO p.s)=eI q.s:=by
 have hi:i < rows.length:=(List.getElem?_eq_some_iff.mp hr).1;have f2:=nu (k:=k) (more:=[p,q]) hr;have n1:TF (rows.set i (r.take k++q :: r.drop k)):=by
  have f1:=nu (k:=k) (more:=[q]) hr;rw [bK] at f1;refine(f1.map T3.s).nodup_iff.mpr ?_;exact Ia nd (N:=[p]) f2
 have h1:(rows.set i (r.take k++q :: r.drop k))[i]?=some (r.take k++q :: r.drop k):=bW hi;have e2:=O8 (rows:=rows) (i:=i) (p:=p) (q:=q) hk;obtain⟨a1,a2⟩:=Nb (k:=k) (q:=p) h1 (by rw [e2]; exact nd);rw [e2] at a1 a2;obtain⟨b1,b2⟩:=Nb (k:=k) (q:=q) hr n1;refine⟨?_,?_,?_⟩
 ·rw [b1,a1]; rfl
 ·rw [b2,a2,a1,cls,cls,cls];simp only;lia
 ·refine(ID nd ?_).1;rw [tf];refine List.mem_flatMap.mpr ⟨r.take k++[p,q]++r.drop k,cS (bW hi),?_⟩;rw [bK];exact IP _ _ _ _
end JB
end K2
end
section
namespace K2
open PySem (Str)
open Enc (enc)
namespace JC
open K2.P K2.J K2.JB
open K2.Y (Po ju gx cf cw fC pick ie ig)
open K2.Ld (iQ)
open K2.OM (tm qr fb)
theorem Bi{rows:Rows}(nd:TF rows){i:Nat}{r:List T3}(hr:rows[i]?=some r){A B:List T3}{p q:T3}(e:r=A++p :: q :: B):fr rows (eO p.s)=eI q.s:=by
 refine(ID nd ?_).1;rw [tf];refine List.mem_flatMap.mpr ⟨r,cS hr,?_⟩;rw [e];exact IP _ _ _ _
theorem PY{rows:Rows}(d:Dr rows){a b h:Int}{i k j k':Nat}{r r':List T3}{U V:T3}(Nw:a≠b)(ha:∀ p∈rows.flatten,p.a≠a)(hb:∀ p∈rows.flatten,p.a≠b)(hh:h=1\/h=-1)(Aj:rows.flatten.length<=20)
  (hr:rows[i]?=some r) (hk:k<=r.length) (DG:(rows.set i (r.take k++[⟨a,0,h⟩,⟨b,0,-h⟩]++r.drop k))[j]?=some r') (Rm:k'<=r'.length) (B8:¬ (j=i/\k'=k+1))
  (Vt:(U=⟨a,1,h⟩/\V=⟨b,1,-h⟩)\/(U=⟨b,1,-h⟩/\V=⟨a,1,h⟩)) :
  Dr ((rows.set i (r.take k++[⟨a,0,h⟩,⟨b,0,-h⟩]++r.drop k)).set j (r'.take k'++[U,V]++r'.drop k')) /\
  (∀ g,brk ((rows.set i (r.take k++[⟨a,0,h⟩,⟨b,0,-h⟩]++r.drop k)).set j (r'.take k'++[U,V]++r'.drop k')) g=brk rows g) /\
  wr ((rows.set i (r.take k++[⟨a,0,h⟩,⟨b,0,-h⟩]++r.drop k)).set j (r'.take k'++[U,V]++r'.drop k'))=wr rows /\
  ((rows.set i (r.take k++[⟨a,0,h⟩,⟨b,0,-h⟩]++r.drop k)).set j (r'.take k'++[U,V]++r'.drop k')).flatten.length=rows.flatten.length+4:=by
 have hi:i < rows.length:=(List.getElem?_eq_some_iff.mp hr).1;have hhn:-h=1\/-h=-1:=by lia
 have f1:=nu (k:=k) (more:=[⟨a,0,h⟩,⟨b,0,-h⟩]) hr;have f2:=nu (k:=k') (more:=[U,V]) DG;have e1:(rows.set i (r.take k++[⟨a,0,h⟩,⟨b,0,-h⟩]++r.drop k))[i]?=some (r.take k++[⟨a,0,h⟩,⟨b,0,-h⟩]++r.drop k):=bW hi;have fl:((rows.set i (r.take k++[⟨a,0,h⟩,⟨b,0,-h⟩]++r.drop k)).set j (r'.take k'++[U,V]++r'.drop k')).flatten.Perm ([⟨b,1,-h⟩,⟨b,0,-h⟩,⟨a,1,h⟩,⟨a,0,h⟩]++rows.flatten):=by
  refine f2.trans ((f1.append_left _).trans ?_);rw [<-bK];refine Ez _ ?_;rcases Vt with ⟨rfl,rfl⟩ | ⟨rfl,rfl⟩
  ·show [(⟨a,1,h⟩:T3),⟨b,1,-h⟩,⟨a,0,h⟩,⟨b,0,-h⟩].Perm _;exact(cX (l₁:=[(⟨a,1,h⟩:T3)]) (l₂:=[⟨b,1,-h⟩,⟨a,0,h⟩,⟨b,0,-h⟩])).trans ((cX (l₁:=[(⟨a,0,h⟩:T3)]) (l₂:=[⟨b,0,-h⟩,⟨a,1,h⟩])).cons _)
  ·show [(⟨b,1,-h⟩:T3),⟨a,1,h⟩,⟨a,0,h⟩,⟨b,0,-h⟩].Perm _;exact(cX (l₁:=[(⟨a,1,h⟩:T3),⟨a,0,h⟩]) (l₂:=[⟨b,0,-h⟩])).cons _
 have d2:Dr ((rows.set i (r.take k++[⟨a,0,h⟩,⟨b,0,-h⟩]++r.drop k)).set j (r'.take k'++[U,V]++r'.drop k')):=by
  have mid:Dr [⟨a,1,h⟩ :: ⟨a,0,h⟩ :: rows.flatten]:=by
   refine K2.JB.Dr.two d ha hh ?_ (by lia) (by simp);simp
  refine K2.JB.Dr.two mid (m:=b) (h:=-h) ?_ hhn ?_ ?_ (by rw [cy,cy]; exact d.str)
  ·intro p hp;simp only [eQ,List.flatten_nil,cz,aQ] at hp;rcases hp with rfl | rfl | hp
   ·exact Nw
   ·exact Nw
   ·exact hb p hp
  ·simpa using fl
  ·simp only [eQ,List.flatten_nil,cz,aj]; lia
 have n1:TF (rows.set i (r.take k++[⟨a,0,h⟩,⟨b,0,-h⟩]++r.drop k)):=Ia d2.nd (N:=[U,V]) f2;obtain⟨a1,a2,a3⟩:=U6 hr hk n1;obtain⟨b1,b2,b3⟩:=U6 DG Rm d2.nd;have over:fr ((rows.set i (r.take k++[⟨a,0,h⟩,⟨b,0,-h⟩]++r.drop k)).set j (r'.take k'++[U,V]++r'.drop k')) ⟨a,0,1⟩=⟨b,0,0⟩:=by
  by_cases Z4:j=i
  ·subst Z4;rw [e1] at DG;injection DG with er
   have Z5:j < (rows.set j (r.take k++[⟨a,0,h⟩,⟨b,0,-h⟩]++r.drop k)).length:=by rw [cy]; exact hi
   have lk:(r.take k).length=k:=by rw [c7]; lia
   rcases Nat.lt_or_ge k k' with wo | hge
   ·have h2:k+2<=k':=by lia
    have YO:r'=(r.take k++[⟨a,0,h⟩,⟨b,0,-h⟩])++r.drop k:=er.symm;refine Bi d2.nd (bW Z5) (p:=⟨a,0,h⟩) (q:=⟨b,0,-h⟩) (A:=r.take k) (B:=(r.drop k).take (k' - (k+2))++[U,V]++r'.drop k') ?_;rw [YO,List.take_append,sk (by rw [aB,lk]; simp; lia),aB,lk];simp
   ·have YO:r'=r.take k++(⟨a,0,h⟩ :: ⟨b,0,-h⟩ :: r.drop k):=by rw [<-er,bK]; rfl
    refine Bi d2.nd (bW Z5) (p:=⟨a,0,h⟩) (q:=⟨b,0,-h⟩) (A:=r'.take k'++[U,V]++(r.take k).drop k') (B:=r.drop k) ?_;rw [YO,B4 (by lia)];simp
  ·refine Bi d2.nd (i:=i) (r:=r.take k++[⟨a,0,h⟩,⟨b,0,-h⟩]++r.drop k) (p:=⟨a,0,h⟩) (q:=⟨b,0,-h⟩) (A:=r.take k) (B:=r.drop k) ?_ (by rw [bK]; rfl);rw [dM Z4]; exact e1
 have fll:=fl.length_eq;generalize hR:(rows.set i (r.take k++[⟨a,0,h⟩,⟨b,0,-h⟩]++r.drop k)).set j (r'.take k'++[U,V]++r'.drop k')=R at d2 fl b1 b2 b3 over fll;generalize rows.set i (r.take k++[⟨a,0,h⟩,⟨b,0,-h⟩]++r.drop k)=R1 at a1 a2 b1 b2;have pn:(nh R).Perm ((a,h) :: (b,-h) :: nh rows):=by
  refine(H0 d2).trans ((MD fl).trans ?_);refine OT ?_ (((H0 d).symm.cons _).cons _);exact iZ _ _ _
 have dm:=Vx d2;have Rn:∀ m∈[a,b],m∈names R:=fun m hm=>by
  have:=(pn.map (·.1)).mem_iff (a:=m);rw [MC] at this;refine this.mpr ?_;simp only [aQ,cI,or_false] at hm;simp only [ak,aQ];rcases hm with rfl | rfl <;> simp
 have dn:Dm (fr R) [a,b]:=Dm.sub dm (by simp [Nw]) Rn;have ok:Ok (fr R) [jF a 0,jF b 0,jF a 1,jF b 1]:=by
  have tg:Tg (vv (K5 [a,b])) (fr R) 2:=dn.tg;exact tg.ok (ps:=[(0,1),(4,5),(2,3),(6,7)]) (by decide +kernel)
 have hu:fr R ⟨a,1,1⟩=⟨b,1,0⟩\/fr R ⟨b,1,1⟩=⟨a,1,0⟩:=by
  rcases Vt with ⟨rfl,rfl⟩ | ⟨rfl,rfl⟩
  ·exact .inl b3
  ·exact .inr b3
 have key:fr rows=gQ (fr R) [jF a 0,jF b 0,jF a 1,jF b 1]/\lo rows=lo R+cls (fr R) [jF a 0,jF b 0,jF a 1,jF b 1]:=by
  have j1:fr rows=gQ (fr R) ([(eI U.s,eO U.s),(eI V.s,eO V.s)]++[jF a 0,jF b 0]):=by rw [lF,<-b1]; exact a1
  have j2:lo rows=lo R+cls (fr R) ([(eI U.s,eO U.s),(eI V.s,eO V.s)]++[jF a 0,jF b 0]):=by
   rw [lM,<-b1];have z:lo rows=lo R1+cls (fr R1) [jF a 0,jF b 0]:=a2;lia
  have pp:[jF a 0,jF b 0,jF a 1,jF b 1].Perm ([(eI U.s,eO U.s),(eI V.s,eO V.s)]++[jF a 0,jF b 0]):=by
   rcases Vt with ⟨rfl,rfl⟩ | ⟨rfl,rfl⟩
   ·exact cX (l₁:=[jF a 0,jF b 0]) (l₂:=[jF a 1,jF b 1])
   ·refine(cX (l₁:=[jF a 0,jF b 0]) (l₂:=[jF a 1,jF b 1])).trans ?_;exact iZ _ _ _
  obtain⟨z1,z2⟩:=xS pp ok;exact⟨by rw [z1]; exact j1,by rw [z2]; exact j2⟩
 refine⟨d2,fun g=>?_,?_,by rw [fll,aB]; simp only [aj,aE]; lia⟩
 ·unfold brk;rw [QI pn (by rw [MC]; exact dm),SO dn hh over hu,<-key.1,<-Bl,Nat.add_comm,<-key.2]
 ·rw [QJ d2,QJ d,P5 fl,SX];show (-h+(h+0))+_=_;lia
end JC
end K2
end
section
namespace K2
open PySem (Str)
open Enc (enc)
namespace JC
open K2.P K2.J K2.JB
open K2.Y (Po ju gx cf cw fC pick ie ig)
open K2.Ld (iQ)
open K2.OM (tm qr fb)
theorem at3(a b c e:D):uf [a,b,c,e] 3=some e:=rfl
theorem Sa{rows:Rows}{i:Nat}{r:List T3}(h:rows[i]?=some r):uf (rows.map enc) (i:Int)=some (enc r):=by
 have hi:=(List.getElem?_eq_some_iff.mp h).1;rw [qH _ (by lia) (by rw [aC]; lia)];simp only [eV,lZ];have:=(List.getElem?_eq_some_iff.mp h).2;rw [this]
theorem HA{rows:Rows}{i:Nat}{r:List T3}{G:Gp}{Q:DK}(h:rows[i]?=some r)(q:Q (enc r) G):lR (enc rows) (.int i) G Q:=by
 show lR (.dJ (rows.map enc)) (.int i) G Q;rw [iM,Sa h];exact q
theorem Ef{r:List T3}{G:Gp}{Q:DK}(q:Q (.int (r.length:Int)) G):ue [enc r] G Q:=by
 show ue [.dJ (r.map enc)] G Q;rw [nC,aC]; exact q
structure LdR(rows R:Rows):Prop where
 dr:Dr R
 brk:∀ g,brk R g=JB.brk rows g
 wr:wr R=JB.wr rows
 fl:R.flatten.length=rows.flatten.length+4
 len:R.length=rows.length
noncomputable def vB:hV :=
 (cN (bQ (bE pL (bE lR (ay 3) (dC (.int 0))) (ay 2)) (aP 4))
 (cN (bQ (bE pL (bC cw (av (bE lR (ay 3) (dC (.int 1))) (av (dC (.int 10039)) (av (dC (.int 10000)) a8)))) (bE iN (uy ue (av (bE lR (ay 0) (ay 4)) a8)) (dC (.int 1)))) (aP 5))
 (cN (bQ (bE lR (ay 1) (dC (.int 2))) (aP 6))
 (cN (bQ (kj (av (fQ (av (bE lR (ay 1) (dC (.int 0))) (av (dC (.int 0)) (av (ay 6) a8)))) (av (fQ (av (bE lR (ay 1) (dC (.int 1))) (av (dC (.int 0)) (av (Lb JA (ay 6)) a8)))) a8))) (aP 7))
 (cN (bQ (dB (bC g8 (av (dB (ay 0)) (av (dB (ay 4)) (av (dB (ay 5)) (av (dB (ay 7)) a8)))))) (aP 8))
 (cN (bQ (kj (av (fQ (av (bE lR (ay 1) (dC (.int 0))) (av (dC (.int 1)) (av (ay 6) a8)))) (av (fQ (av (bE lR (ay 1) (dC (.int 1))) (av (dC (.int 1)) (av (Lb JA (ay 6)) a8)))) a8))) (aP 9))
 (cN (jV (jy (bE (HD false) (bE pL (bE lR (ay 3) (dC (.int 2))) (dC (.int 2))) (dC (.int 1)))) (bQ (kj (av (fQ (av (bE lR (ay 1) (dC (.int 1))) (av (dC (.int 1)) (av (Lb JA (ay 6)) a8)))) (av (fQ (av (bE lR (ay 1) (dC (.int 0))) (av (dC (.int 1)) (av (ay 6) a8)))) a8))) (aP 9)) fB)
 (cN (bQ (bE pL (bE HC (bE lR (ay 3) (dC (.int 2))) (dC (.int 2))) (ay 2)) (aP 10))
 (cN (bQ (bE pL (bC cw (av (bE lR (ay 3) (dC (.int 3))) (av (dC (.int 10067)) (av (dC (.int 10000)) a8)))) (bE iN (uy ue (av (bE lR (ay 8) (ay 10)) a8)) (dC (.int 1)))) (aP 11))
 (cN (jV (GC (jy (bE (HD false) (ay 10) (ay 4))) (jy (bE (HD false) (ay 11) (bE iN (ay 5) (dC (.int 1)))))) (bQ (bE iN (ay 5) (dC (.int 2))) (aP 11)) fB)
 (c5 (dB (bC g8 (av (dB (ay 8)) (av (dB (ay 10)) (av (dB (ay 11)) (av (dB (ay 9)) a8)))))))))))))))))
noncomputable def ma:mR:=fun ds G Q _=>∃ (rows:Rows) (a b h:Int) (S:Nat) (c0 c1 c2 c3:Int),ds=[enc rows,.tup [.int a,.int b,.int h],.int S,.dJ [.int c0,.int c1,.int c2,.int c3]] /\
 (Dr rows/\rows.length=S/\1<=S/\rows.flatten.length<=20/\a≠b/\(∀ p∈rows.flatten,p.a≠a)/\(∀ p∈rows.flatten,p.a≠b)/\(h=1\/h=-1))/\∀ R:Rows,LdR rows R->Q (enc R) G
theorem Bj{x:Int}{S:Nat}(hS:1<=S):∃ i:Nat,x % (S:Int)=(i:Int)/\i < S:=by
 have i1:0<=x % (S:Int):=kB _ (by lia);have i2:x % (S:Int) < S:=iJ _ (by lia);exact⟨(x % (S:Int)).toNat,by lia,by lia⟩
theorem En(ds:List D)(G:Gp)(Q:DK)(h:ma ds G Q fun _ _=>False):vB (fun _ _=>False) (ends Q) (bF 12 ds) G:=by
 obtain⟨rows,a,b,h,S,c0,c1,c2,c3,rfl,⟨d,hlen,T4,Aj,Nw,ha,hb,hh⟩,q⟩:=h;have rl:=L3 d;have str:=d.str;unfold vB;simp only [↓c9,bQ,bE,ay,bF,↓ak,↓bq,↓aj,↓aE,bc,↓az,↓aT,↓ae,↓aa,dC,↓iM,Rz,↓gi,aP,bC,av,↓ar,↓ao,a8,uy,↓gJ,kj,fQ,Lb,dB,ends];refine⟨by lia,?_⟩;obtain⟨i,ei,hi⟩:=Bj (x:=c0) T4;rw [ei];obtain⟨r,hr⟩:∃ r,rows[i]?=some r:=⟨rows[i],au (by lia)⟩;have hrl:=rl r (cS hr);simp only [Ry];refine⟨_,_,_,rfl,⟨by decide,by decide⟩,?_⟩;simp only [↓dB,↓bF,↓ends,↓eA,↓bE,↓Lb,↓ay,↓uy,↓yQ,↓av,↓a8,↓c5,↓IL,↓nA,↓bQ,↓aP,↓dC,↓fB,↓fQ,↓kj,↓oo,↓qD,↓GC,↓Lc,↓rW,↓qb,↓wy,↓qa,↓EI,↓kh,↓gX,↓fJ,↓lG,↓bC,↓gy,↓dq,↓pM,↓mY,↓mX,↓mV,↓jt,↓gi,↓mW,↓lA,↓sX,↓v7,↓v9,↓wa,↓gJ,↓iM,↓sT,↓sU,↓sV,↓nC,↓ud,↓qG,↓ja,↓kc,↓mj,↓iY,↓nQ,↓nR,↓v3,↓vZ,↓true_and,↓and_true,↓tS,↓tR,↓gE,↓cF,↓jJ,↓pU,↓wm,↓tO,↓ak,↓bq,↓az,↓aT,↓aa,↓ae,↓ao,↓ar,↓aj,↓aE,↓bc,↓if_true,↓if_false,↓bV,↓eC,↓aq,↓c9,↓sJ,↓lI,↓i5,↓tQ,↓sW,↓kZ,↓yh,↓jf,↓dF,↓i6];refine HA hr (Ef ?_);simp only [↓dq,↓gi];refine⟨by lia,?_⟩;obtain⟨k,ek,hk⟩:=Bj (x:=pick c1 10039 10000) (S:=r.length+1) (by lia);rw [show ((r.length:Int)+1)=((r.length+1:Nat):Int) by lia,ek];simp only [at2,↓lA];refine⟨by decide,by decide,by decide,fun p1 f1=>c4 (c4 (c4 ?_))⟩;refine og (xs:=[(⟨a,0,h⟩:T3),⟨b,0,-h⟩]) (.new f1) f1 aJ ?_;refine A3 (rows:=rows) (more:=[(⟨a,0,h⟩:T3),⟨b,0,-h⟩]) ⟨by lia,by lia,fun r hr=>by have:=rl r hr; lia,by simp⟩ fun r2 k2 Wg hk2 ek2=>c4 ?_;rw [hr] at Wg;injection Wg with er2
 subst er2;have YU:k2=k:=by
  rw [Int.emod_eq_of_lt (by lia) (by lia)] at ek2;lia
 subst YU;have rJ:(rows.set i (r.take k2++[⟨a,0,h⟩,⟨b,0,-h⟩]++r.drop k2)).length=S:=by rw [cy]; exact hlen
 refine⟨by decide,by decide,by decide,fun p2 f2=>?_⟩;refine gf (fun τ G'=>∃ (U V:T3) (p3:Nat),((U=⟨a,1,h⟩/\V=⟨b,1,-h⟩)\/(U=⟨b,1,-h⟩/\V=⟨a,1,h⟩))/\G p3=none/\fN G G'/\G' p3=some (.lst ([U,V].map enc))/\τ=[some (enc rows),some (.tup [.int a,.int b,.int h]),some (.int S),some (.dJ [.int c0,.int c1,.int c2,.int c3]),some (.int i),some (.int k2),some (.int h),some (.ref p1),some (enc (rows.set i (r.take k2++[⟨a,0,h⟩,⟨b,0,-h⟩]++r.drop k2))),some (.ref p3),none,none]) ?_ ?_
 ·intro N hN;simp only [jV,↓eA,bE,ay,↓ae,↓aa,dC,↓iM,at2,↓gi,bQ,kj,av,fQ,↓gJ,Lb,↓lA,a8,↓aj,↓aE,aP,↓ar,↓ao,fB];refine⟨by decide,?_⟩;refine⟨_,_,.int _,.int _,?_⟩;simp only [↓cF,↓aq,jU,↓if_false,Ry,Rz];split
  ·refine⟨by decide,by decide,by decide,fun p3 f3=>hN _ _ ?_⟩;exact⟨⟨b,1,-h⟩,⟨a,1,h⟩,p3,.inr ⟨rfl,rfl⟩,(fN.new f2).free f3,(fN.new f2).trans (.new f3),aJ,rfl⟩
  ·exact hN _ _ ⟨⟨a,1,h⟩,⟨b,1,-h⟩,p2,.inl ⟨rfl,rfl⟩,f2,.new f2,aJ,rfl⟩
 rintro _ G' ⟨U,V,p3,Vt,f3,le3,g3,rfl⟩;simp only [↓c9,bQ,bE,ay,↓ae,↓aa,dC,↓iM,at2,↓mW,↓gi,aP,bC,av,↓ar,↓ao,a8,uy];refine⟨by decide,by decide,by lia,?_⟩;obtain⟨j,ej,hj⟩:=Bj (x:=c2 / 2) T4;rw [ej];obtain⟨r',DG⟩:∃ r',(rows.set i (r.take k2++[⟨a,0,h⟩,⟨b,0,-h⟩]++r.drop k2))[j]?=some r':=⟨_,au (by lia)⟩;have Vb:∀ x∈rows.set i (r.take k2++[⟨a,0,h⟩,⟨b,0,-h⟩]++r.drop k2),x.length<=30:=fun x hx=>by
  rcases oW hx with z | z
  ·have:=rl x z; lia
  ·rw [z,aB,aB,c7,cx];simp only [aj,aE]; lia
 have abL:=Vb r' (cS DG);simp only [at3];refine⟨_,_,_,rfl,⟨by decide,by decide⟩,?_⟩;simp only [↓dB,↓bF,↓ends,↓eA,↓bE,↓Lb,↓ay,↓uy,↓yQ,↓av,↓a8,↓c5,↓IL,↓nA,↓bQ,↓aP,↓dC,↓fB,↓fQ,↓kj,↓oo,↓qD,↓GC,↓Lc,↓rW,↓qb,↓wy,↓qa,↓EI,↓kh,↓gX,↓fJ,↓lG,↓bC,↓gy,↓dq,↓pM,↓mY,↓mX,↓mV,↓jt,↓gi,↓mW,↓lA,↓sX,↓v7,↓v9,↓wa,↓gJ,↓iM,↓sT,↓sU,↓sV,↓nC,↓ud,↓qG,↓ja,↓kc,↓mj,↓iY,↓nQ,↓nR,↓v3,↓vZ,↓true_and,↓and_true,↓tS,↓tR,↓gE,↓cF,↓jJ,↓pU,↓wm,↓tO,↓ak,↓bq,↓az,↓aT,↓aa,↓ae,↓ao,↓ar,↓aj,↓aE,↓bc,↓if_true,↓if_false,↓bV,↓eC,↓aq,↓c9,↓sJ,↓lI,↓i5,↓tQ,↓sW,↓kZ,↓yh,↓jf,↓dF,↓i6];refine HA DG (Ef ?_);simp only [↓dq,↓gi];refine⟨by lia,?_⟩;obtain⟨l,el,hl⟩:=Bj (x:=pick c3 10067 10000) (S:=r'.length+1) (by lia);rw [show ((r'.length:Int)+1)=((r'.length+1:Nat):Int) by lia,el];have rr2:j=i->r'.length=r.length+2:=fun z=>by
  subst z;rw [bW (by lia)] at DG;injection DG with e
  rw [<-e,aB,aB,c7,cx];simp only [aj,aE]; lia
 refine gf (fun τ G2=>∃ k':Nat,k'<=r'.length/\¬ (j=i/\k'=k2+1)/\G2=G'/\τ=[some (enc rows),some (.tup [.int a,.int b,.int h]),some (.int S),some (.dJ [.int c0,.int c1,.int c2,.int c3]),some (.int i),some (.int k2),some (.int h),some (.ref p1),some (enc (rows.set i (r.take k2++[⟨a,0,h⟩,⟨b,0,-h⟩]++r.drop k2))),some (.ref p3),some (.int j),some (.int k')]) ?_ ?_
 ·intro N hN;simp only [jV,GC,↓eA,bE,ay,↓ae,↓aa,dC,↓dq,bQ,aP,↓ar,↓ao,fB,↓aq,↓if_false];refine⟨_,_,.int _,.int _,?_⟩;simp only [↓cF,↓aq,jU,↓if_false];by_cases c1':(j:Int)=i
  ·have c':((j:Int) == (i:Int))=true:=by simpa using c1'
   simp only [c',↓if_true];refine⟨_,_,.int _,.int _,?_⟩;simp only [↓cF,↓aq,jU,↓if_false];by_cases c2':(l:Int)=k2+1
   ·have Y2:((l:Int) == (k2:Int)+1)=true:=by simpa using c2'
    simp only [Y2,↓if_true];have:=rr2 (by lia);refine hN _ _ ⟨k2+2,by lia,by lia,rfl,?_⟩;rw [show (((k2+2:Nat)):Int)=(k2:Int)+2 by lia]
   ·have Y2:((l:Int) == (k2:Int)+1)=false:=by simpa using c2'
    simp only [Y2,↓aq,↓if_false];exact hN _ _ ⟨l,by lia,by lia,rfl,rfl⟩
  ·have c':((j:Int) == (i:Int))=false:=by simpa using c1'
   simp only [c',↓aq,↓if_false];exact hN _ _ ⟨l,by lia,by lia,rfl,rfl⟩
 rintro _ _ ⟨k',Rm,B8,rfl,rfl⟩;simp only [c5,dB,bC,av,ay,↓ae,↓aa,a8];refine c4 (c4 (c4 ?_));refine og (xs:=[U,V]) le3 f3 g3 ?_;refine A3 (more:=[U,V]) ⟨by lia,by lia,fun x hx=>by have:=Vb x hx; lia,by simp⟩ fun r3 k3 ZY hk3 ek3=>c4 ?_;rw [DG] at ZY;injection ZY with er3
 subst er3;have YU:k3=k':=by
  rw [Int.emod_eq_of_lt (by lia) (by lia)] at ek3;lia
 subst YU;obtain⟨z1,z2,z3,z4⟩:=PY d Nw ha hb hh Aj hr (by lia) DG Rm B8 Vt;exact q _ ⟨z1,z2,z3,z4,by rw [cy,cy]⟩
theorem L9{α:Type} [DecidableEq α] [Enc α]{neg:Bool}{x y:α}{G:Gp}{Q:DK}(hd:Enc.dep α<=8)(q:Q (.bl (if neg then !decide (x=y) else decide (x=y))) G):A2 neg (enc x) (enc y) G Q :=
 .inl ⟨enc x,enc y,Enc.sn _ _ _ hd,Enc.sn _ _ _ hd,by rw [Enc.eqv]; exact q⟩
noncomputable abbrev R0:mR:=zA
noncomputable def L7:hV :=
 (cN (bQ (bE iN (dC (.int 1)) (bE pL (bC cf (av (ay 0) (av (dC (.int 0)) a8))) (dC (.int 3)))) (aP 1))
 (cN (bQ (dC (.int 12)) (aP 2))
 (cN (jV (jy (bE (A2 false) (bE pL (bE HC (bC cf (av (ay 0) (av (dC (.int 0)) a8))) (dC (.int 3))) (dC (.int 2))) (dC (.int 1)))) (bQ (dC (.int 999)) (aP 2)) fB)
 (cN (bQ (dB (bC jm (av (EI (ay 0) (rm (dC (.int 7))) (rm (bE iN (dC (.int 7)) (bE pL (bC cf (av (ay 0) (av (dC (.int 1)) a8))) (dC (.int 4)))))) (av (ay 1) (av (ay 2) a8))))) (aP 3))
 (cN (bQ (bC fe (av (bC fb (av (ay 3) a8)) (av (bE iN (dC (.int 1)) (bC cw (av (bC cf (av (ay 0) (av (dC (.int 2)) a8))) (av (dC (.int 10007)) (av (ay 2) a8))))) a8))) (aP 4))
 (cN (bQ (bC fe (av (bE iN (bC fb (av (ay 3) a8)) (kj (av (ay 4) a8))) (av (bE iN (dC (.int 1)) (bC cw (av (bC cf (av (ay 0) (av (dC (.int 2)) a8))) (av (dC (.int 10091)) (av (dC (.int 999)) a8))))) a8))) (aP 5))
 (cN (bQ (fQ (av (ay 4) (av (ay 5) (av (bE Pa (dC (.int 1)) (bE Fi (dC (.int 2)) (bE pL (bC cf (av (ay 0) (av (dC (.int 2)) a8))) (dC (.int 2))))) a8)))) (aP 6))
 (cN (bQ (gy 1 [0] (Ra (dC (.int 3)) (dC (.int 7))) (aP 0) none (bC cf (av (ay 1) (av (ay 0) a8)))) (aP 7))
 (cN (bQ (dB (bC ma (av (dB (ay 3)) (av (dB (ay 6)) (av (dB (ay 1)) (av (dB (ay 7)) a8)))))) (aP 8))
 (cN (bQ (dB (bC ef (av (ay 8) a8))) (aP 9))
 (cN (bQ (dB (bC lr (av (dB (bC ef (av (ay 3) a8))) a8))) (aP 10))
 (cN (bQ (dB (bC lr (av (dB (ay 9)) a8))) (aP 11))
 (cN (jV (Lc (rW (jy (bC gx (av (ay 10) a8)))) (Lc (rW (jy (bC gx (av (ay 11) a8)))) (Lc (jy (bE (A2 true) (ay 10) (ay 11))) (jy (bE (A2 true) (ay 9) (ay 8)))))) (c5 (dB (dC (.bl false)))) fB)
 (c5 (dB (bE (A2 false) (bC mT (av (ay 9) a8)) (bC mT (av (ay 3) a8))))))))))))))))))
theorem TC(ds:List D)(G:Gp)(Q:DK)(h:R0 ds G Q fun _ _=>False):L7 (fun _ _=>False) (ends Q) (bF 12 ds) G:=by
 obtain⟨ns,rfl,hl,hG,q⟩:=h;unfold L7;simp only [↓c9,bQ,bE,dC,bC,av,ay,bF,↓ak,↓bq,↓aj,↓aE,bc,↓az,↓aT,↓aa,a8,aP,ends,↓ar,↓ao];refine⟨ns,0,rfl,by decide,by decide,?_⟩;have s1:0<=fC ns 0 % 3:=kB _ (by decide);have s2:fC ns 0 % 3 < 3:=iJ _ (by decide);generalize fC ns 0 % 3=s0 at s1 s2;obtain⟨S,hS⟩:∃ S:Nat,1+s0=(S:Int):=⟨(1+s0).toNat,by lia⟩;have T4:1<=S:=by lia
 have YE:S<=3:=by lia
 simp only [↓dq,hS];refine gf (fun τ G'=>G=G'/\∃ sp:Int,(1<=sp/\sp<=999)/\τ=[some (.dJ (ns.map D.int)),some (.int S),some (.int sp),none,none,none,none,none,none,none,none,none]) ?_ ?_
 ·intro N hN;simp only [jV,↓eA,bE,bC,av,ay,↓aa,dC,a8,bQ,aP,↓ar,↓ao,fB];refine⟨ns,0,rfl,by decide,by decide,by decide,by decide,CV ?_⟩;simp only [↓cF,↓aq,↓if_false];split
  ·exact hN _ _ ⟨rfl,999,by decide,rfl⟩
  ·exact hN _ _ ⟨rfl,12,by decide,rfl⟩
 rintro _ _ ⟨rfl,sp,⟨Zv,Zu⟩,rfl⟩;simp only [↓c9,bQ,dB,bC,av,EI,ay,↓aa,↓kh,dC,↓gE,bE,a8,↓sU,↓ae,aP,↓ar,↓ao,kj,↓aj,↓aE,fQ,gy];refine⟨ns,1,rfl,by decide,by decide,?_⟩;have d1:0<=fC ns 1 % 4:=kB _ (by decide);have d2:fC ns 1 % 4 < 4:=iJ _ (by decide);generalize fC ns 1 % 4=j at d1 d2;simp only [↓dq,↓gE];rw [t7];intro pS fS;have Nr:(cut ns (some 7) (some (7+j))).length<=3:=by
  unfold cut iU;simp only;rw [if_neg (by lia),if_neg (by lia)];simp only [c7,cx]; lia
 generalize cut ns (some 7) (some (7+j))=cells at Nr;refine⟨.ref pS,cells,S,sp,rfl,IsL.ref aJ,⟨by lia,⟨T4,YE⟩,Zv,Zu⟩,fun rows d hlen Yw=>tU (.new fS) ?_⟩;refine⟨rows,rfl,by lia,?_⟩;refine⟨ns,2,rfl,by decide,?_⟩;refine⟨_,_,_,rfl,⟨by decide,by lia⟩,?_⟩;simp only [↓dq];have q1:=ie (fC ns 2) 10007 (m:=sp) (by lia);have q2:=ig (fC ns 2) 10007 (m:=sp) (by lia);have ol:=qr rows.flatten;refine⟨enc (tm rows.flatten),tm rows.flatten,_,rfl,IsL.enc (tm rows.flatten),⟨by lia,by lia,by lia⟩,fun m m1 m2 m3=>?_⟩;have Yn:∀ p∈rows.flatten,p.a≠m:=fun p hp z=>by
  refine m1 ?_;rw [<-z];rcases d.way p hp with w | w
  ·exact List.mem_map.mpr ⟨p,List.mem_filter.mpr ⟨hp,by simp [w]⟩,rfl⟩
  ·exact List.mem_map.mpr ⟨_,List.mem_filter.mpr ⟨d.Dl p hp,by simp [w]⟩,rfl⟩
 have S1:∀ p∈rows.flatten,p.a∈tm rows.flatten:=fun p hp=>by
  rcases d.way p hp with w | w
  ·exact List.mem_map.mpr ⟨p,List.mem_filter.mpr ⟨hp,by simp [w]⟩,rfl⟩
  ·exact List.mem_map.mpr ⟨_,List.mem_filter.mpr ⟨d.Dl p hp,by simp [w]⟩,rfl⟩
 simp only [↓dB,↓bF,↓ends,↓eA,↓bE,↓Lb,↓ay,↓uy,↓yQ,↓av,↓a8,↓c5,↓IL,↓nA,↓bQ,↓aP,↓dC,↓fB,↓fQ,↓kj,↓oo,↓qD,↓GC,↓Lc,↓rW,↓qb,↓wy,↓qa,↓EI,↓kh,↓gX,↓fJ,↓lG,↓bC,↓gy,↓dq,↓pM,↓mY,↓mX,↓mV,↓jt,↓gi,↓mW,↓lA,↓sX,↓v7,↓v9,↓wa,↓gJ,↓iM,↓sT,↓sU,↓sV,↓nC,↓ud,↓qG,↓ja,↓kc,↓mj,↓iY,↓nQ,↓nR,↓v3,↓vZ,↓true_and,↓and_true,↓tS,↓tR,↓gE,↓cF,↓jJ,↓pU,↓wm,↓tO,↓ak,↓bq,↓az,↓aT,↓aa,↓ae,↓ao,↓ar,↓aj,↓aE,↓bc,↓if_true,↓if_false,↓bV,↓eC,↓aq,↓c9,↓sJ,↓lI,↓i5,↓tQ,↓sW,↓kZ,↓yh,↓jf,↓dF,↓i6];refine⟨rows,rfl,by lia,by decide,fun p1 f1=>?_⟩;refine wb (IsL.enc (tm rows.flatten)) (IsL.ref aJ) (by rw [aC]; exact Jp (by simp only [aj,aE]; lia)) fun p2 f2=>?_;refine⟨ns,2,rfl,by decide,?_⟩;refine⟨_,_,_,rfl,⟨by decide,by decide⟩,?_⟩;simp only [↓dq];have q3:=ie (fC ns 2) 10091 (m:=999) (by lia);have q4:=ig (fC ns 2) 10091 (m:=999) (by lia);refine⟨.ref p2,tm rows.flatten++[m],_,rfl,IsL.ref (by rw [aJ,a9]; rfl),⟨by rw [aB]; simp only [aj,aE]; lia,by lia,by lia⟩,fun m' XC m2' m3'=>?_⟩;rw [Ey,not_or,cT] at XC;have Ym:∀ p∈rows.flatten,p.a≠m':=fun p hp z=>XC.1 (z ▸ S1 p hp);refine⟨ns,2,rfl,by decide,by decide,?_⟩;have h1:0<=fC ns 2 % 2:=kB _ (by decide);have h2:fC ns 2 % 2 < 2:=iJ _ (by decide);generalize fC ns 2 % 2=h0 at h1 h2;simp only [↓jt,↓mV];refine⟨.inl ⟨by decide,by decide⟩,?_⟩;have hh:(1 - 2 * h0)=1\/(1 - 2 * h0)=-1:=by lia
 generalize (1 - 2 * h0)=h at hh;refine⟨by decide,?_⟩;have gl:fN G (eD (eD G p1 (.lst [.int m])) p2 (.lst ((tm rows.flatten).map enc++[.int m]))):=(fN.new f1).trans (.new f2);generalize eD (eD G p1 (.lst [.int m])) p2 (.lst ((tm rows.flatten).map enc++[.int m]))=G1 at gl;refine⟨by decide,by decide,?_⟩;have er:fu 3 (7 - 3:Int).toNat=([3,4,5,6]:List Int).map D.int:=rfl;rw [er];refine kl (xs:=([3,4,5,6]:List Int)) (f:=D.int) (fun pre acc τ G'=>G1=G'/\(∃ a,τ=[a,some (.dJ (ns.map D.int))])/\acc=pre.map fun k=>D.int (fC ns k)) ⟨rfl,⟨_,rfl⟩,rfl⟩ (fun _ _ _ _ _=>trivial) ?_ ?_
 ·rintro pre x post acc τ G' N e ⟨rfl,⟨a,rfl⟩,rfl⟩ hN;have hx:0<=x:=by
   have:x∈([3,4,5,6]:List Int):=by rw [e]; simp
   simp only [aQ,cI,or_false] at this;lia
  simp only [aP,bC,av,ay,↓ao,↓ae,↓aa,a8];refine⟨ns,x,rfl,hx,?_⟩;refine hN _ _ _ ⟨rfl,⟨_,rfl⟩,?_⟩;rw [a9]; rfl
 rintro acc τ G' ⟨rfl,⟨a,rfl⟩,rfl⟩ p3 f3;refine c4 (c4 (c4 ?_));refine FX (.new f3) f3 aJ (GX.same _) ?_;refine⟨rows,m,m',h,S,fC ns 3,fC ns 4,fC ns 5,fC ns 6,rfl,⟨d,hlen,T4,by lia,fun z=>XC.2 z.symm,Yn,Ym,hh⟩,fun R ld=>c4 ?_⟩;have fl2:=ld.fl;have ln2:=ld.len;have copy:∀ {A:Rows} {G:Gp} {Q:DK},A.length<=1000->Q (enc A) G->ef [enc A] G (fun x G1=>KP G1 x Q) fun _ _=>False:=fun {A G Q} hA qq=>by
  refine⟨A.map fun r=>r.map enc,by rw [iQ],by rw [aC]; exact hA,fun G3 p2 as2 h2=>h2.fz ?_⟩;rw [<-iQ]; exact qq
 refine copy (by lia) (copy (by lia) ?_);refine⟨rows,rfl,⟨d,by lia⟩,fun T bT=>c4 (c4 ?_)⟩;refine⟨R,rfl,⟨ld.dr,by lia⟩,fun U bU=>c4 ?_⟩;rw [pD];simp only [jV,Lc,rW,↓eA,bC,av,ay,↓ae,↓aa,a8,c5,dB,dC,fB,bE,↓if_true];refine⟨_,T,rfl,⟨rfl,bT.nd⟩,bT.nz,?_⟩;simp only [↓cF,↓bV,↓aq,↓if_false];refine⟨_,U,rfl,⟨rfl,bU.nd⟩,bU.nz,?_⟩;simp only [↓cF,↓bV,↓aq,↓if_false];refine Ma yG.jY yG.jY ?_;have e1:u7 T U=true:=bT.eq bU fun g=>(ld.brk g).symm;simp only [↓cF,e1,↓bV,↓if_true,↓aq,↓if_false];refine L9 (by decide) ?_;simp only [↓cF,decide_true,↓bV,↓if_true,↓aq,↓if_false];refine⟨R,rfl,ld.dr,?_⟩;refine⟨rows,rfl,d,CV ?_⟩;simp only [↓aq,ld.wr,decide_true,↓bV,↓if_false];exact c4 (q _)
end JC
end K2
end
namespace Fin
open PySem PySem.Spec PyProof.Rows L2 K2
open K2.JB
open K2.JC
open K2.OM (fb um)
open K2.P (ft qh fc vN fO yE lq yA)
open K2.Y
noncomputable def top(i:Nat):Stmt:=PySem.Challenge.pw_knotwise_k46_lays_keep.main.body.getD i (.Pass ⟨0,0,0,0⟩)
section
variable {P:bJ} {w:World} {K:ai} {mg:Str->Option Value} {base:Heap}
theorem w7:cA ["_law_script","_law_k"] ["_law_script","_law_k"] (bg (top 30)):=sr
theorem x5 {f:Addr} {fd:aI} (F:oK K "_law_cell_at" "_law_cell_at" (top 30) f fd) (jP:mg "len" = none):fX P w K mg base fY 1 f fd ["_law_script","_law_k"] (cR K cf) :=
 su F w7 yC fun _ _ _ _ _ _ hr=>have hu:=hr.units; have X7:=hr.Lz; (aN (jM (fH (Mt X7) (bH 1) (i9 nB rfl jP yr (ah (bH 0) aG)) (hB _)) (aU (cG (bb (dO hu (bH 0) (bH 1) (fun _ _=>rfl))))) gK)
 (aU (cG (bb aM))))
theorem vp:cA ["_law_names_here","_law_name"] ["_law_names_here","_law_name"] (bg (top 35)):=sr
theorem DS {f:Addr} {fd:aI} (F:oK K "_law_free" "_law_free" (top 35) f fd):fX P w K mg base fY 1 f fd ["_law_names_here","_law_name"] (cR K fe) :=
 su F vp qi fun _ _ _ _ _ _ hr=>have nd:=vp.nd; have hu:=hr.units; (aN (JF bN (fH (SD hu) (bH 1) (bH 0) (by with_unfolding_all rfl)) (aU (ka (i:=1) nd rfl (cu dS (cu ij (bH 1) aM) aM))))
 (aU (cG (bb (bH 1)))))
theorem CH:cA ["_law_cell","_law_prime","_law_many"] ["_law_cell","_law_prime","_law_many"] (bg (top 32)):=sr
theorem DQ {f:Addr} {fd:aI} (F:oK K "_law_pick" "_law_pick" (top 32) f fd):fX P w K mg base fY 1 f fd ["_law_cell","_law_prime","_law_many"] (cR K cw) :=
 su F CH Em fun _ _ _ _ _ _ hr=>(aU (cG (bb (cu ij (cu ij (cu tj (bH 0) aM) (bH 1)) (bH 2)))))
theorem CI:cA ["_law_rows"] ["_law_rows"] (bg (top 34)):=sr
theorem DT {f:Addr} {fd:aI} (F:oK K "_law_copy" "_law_copy" (top 34) f fd) (Be:mg "list" = none):fX P w K mg base fY 1 f fd ["_law_rows"] (cR K ef) :=
 su F CI qj fun _ _ _ _ _ _ hr=>(aU (cG (bb (pP ["_law_row"] (sc:=bg (top 34)) (XN:=["_law_rows"]) (gW (bH 0)) (fun _ _ _ _=>(mQ (i:=0) (show (["_law_row"]:List Str).Nodup by decide +kernel) rfl)) (fun _ _ _ _=>.none) (fun _ _ _ _=>(rE GH rfl Be Qv (ah (bH 0) aG)))))))
theorem w6:cA ["_law_rows","_law_at","_law_place","_law_more","_law_made"] ["_law_rows","_law_at","_law_place","_law_more"] (bg (top 36)):=sr
theorem Ge {f:Addr} {fd:aI} (F:oK K "_law_put" "_law_put" (top 36) f fd) (jP:mg "len" = none) {rO:Addr} {rT:aI} (eF:mO P w K mg base fY 1 rO rT "_law_copy" ["_law_rows"] (cR K ef)):fX P w K mg base fY 2 f fd ["_law_rows","_law_at","_law_place","_law_more"] (cR K g8) :=
 su F w6 GV fun _ _ _ _ _ _ hr=>have nd:=w6.nd; have hu:=hr.units; (aN (ka (i:=4) nd rfl (aS eF.ok (hr.mono (by decide)) rfl eF.mg eF.kp eF.bi (ah (bH 0) aG)))
 (aN (ka (i:=2) nd rfl (cu ij (bH 2) (cu dS (i9 nB rfl jP yr (ah (dO hu (bH 4) (bH 1) (fun _ _=>rfl)) aG)) aM)))
 (aN (iW (cu dS (cu dS (jO (dO hu (bH 4) (bH 1) (fun _ _=>rfl)) nc (kb (bH 2))) (bH 3)) (jO (dO hu (bH 4) (bH 1) (fun _ _=>rfl)) (kb (bH 2)) nc)) (jZ hu (bH 4) (bH 1)))
 (aU (cG (bb (bH 4)))))))
theorem pF:cA ["_law_cells","_law_strings","_law_spread","_law_rows","_law_names_here","_law_cell","_law_name","_law_hand","_law_way","_law_prime","_law_place"] ["_law_cells","_law_strings","_law_spread"] (bg (top 37)):=sr
theorem x4 {f:Addr} {fd:aI} (F:oK K "_law_drawing" "_law_drawing" (top 37) f fd) (iO:mg "range" = none) {rN:Addr} {rS:aI} (eE:mO P w K mg base fY 1 rN rS "_law_free" ["_law_names_here","_law_name"] (cR K fe)) {lK:Addr} {lL:aI} (bG:mO P w K mg base fY 1 lK lL "_law_pick" ["_law_cell","_law_prime","_law_many"] (cR K cw)) {u0:Addr} {vc:aI} (ff:mO P w K mg base fY 2 u0 vc "_law_put" ["_law_rows","_law_at","_law_place","_law_more"] (cR K g8)):fX P w K mg base fY 3 f fd ["_law_cells","_law_strings","_law_spread"] (cR K jm) :=
 su F pF yB fun _ _ _ _ _ _ hr=>have nd:=pF.nd; (aN (A4 (sY ["_law_k"] (sc:=bg (top 37)) (XN:=["_law_cells","_law_strings","_law_spread","_law_rows","_law_names_here","_law_cell","_law_name","_law_hand","_law_way","_law_prime","_law_place"]) (i:=3) nd rfl rfl (rD rfl iO (bH 1)) (fun _ _ _ _=>(mQ (i:=0) (show (["_law_k"]:List Str).Nodup by decide +kernel) rfl)) (fun _ _ _ _=>.none) (fun _ _ _ _=>(jv aG))))
 (aN (ka (i:=4) nd rfl (jv aG))
 (aN (eG bN rfl (gW (bH 0)) (mQ (i:=5) nd rfl) (aN (ka (i:=6) nd rfl (aS eE.ok (hr.mono (by decide)) rfl eE.mg eE.kp eE.bi (ah (bH 4) (ah (cu dS aM (aS bG.ok (hr.mono (by decide)) rfl bG.mg bG.kp bG.bi (ah (bH 5) (ah aM (ah (bH 2) aG))))) aG))))
 (aN (xm (nV o9 Et Es wU xE (bH 4) (ah (bH 6) aG)))
 (aN (ka (i:=7) nd rfl (cu HS aM (cu tj aM (aS bG.ok (hr.mono (by decide)) rfl bG.mg bG.kp bG.bi (ah (bH 5) (ah aM (ah aM aG)))))))
 (aU (eG bN rfl (rD rfl iO aM) (mQ (i:=8) nd rfl) (aN (ka (i:=9) nd rfl (cu dS aM (cu tj aM (bH 8))))
 (aN (ka (i:=10) nd rfl (aS bG.ok (hr.mono (by decide)) rfl bG.mg bG.kp bG.bi (ah (bH 5) (ah (cu dS aM (cu tj aM (bH 8))) (ah aM aG)))))
 (aU (ka (i:=3) nd rfl (bb (aS ff.ok (hr.mono (by decide)) rfl ff.mg ff.kp ff.bi (ah (bb (bH 3)) (ah (bb (aS bG.ok (hr.mono (by decide)) rfl bG.mg bG.kp bG.bi (ah (bH 5) (ah (bH 9) (ah (bH 1) aG))))) (ah (bb (bH 10)) (ah (bb (jv (ah (di (ah (bH 6) (ah (bH 8) (ah (bH 7) aG)))) aG))) aG))))))))))))))))
 (aU (cG (bb (bH 3)))))))
theorem sM:cA ["_law_rows","_law_names_here","_law_row","_law_passing"] ["_law_rows"] (bg (top 38)):=sr
theorem By {f:Addr} {fd:aI} (F:oK K "_law_names" "_law_names" (top 38) f fd):fX P w K mg base fY 1 f fd ["_law_rows"] (cR K fb) :=
 su F sM um fun _ _ _ _ _ _ hr=>have nd:=sM.nd; have hu:=hr.units; (aN (ka (i:=1) nd rfl (jv aG))
 (aN (eG bN rfl (gW (bH 0)) (mQ (i:=2) nd rfl) (aU (eG bN rfl (gW (bH 2)) (mQ (i:=3) nd rfl) (aU (jM (fH (lB hu) (dO hu (bH 3) aM (fun _ _=>rfl)) aM (hB _)) (aU (xm (nV o9 Et Es wU xE (bH 1) (ah (dO hu (bH 3) aM (fun _ _=>rfl)) aG)))) gK)))))
 (aU (cG (bb (bH 1))))))
theorem vo:cA ["_law_rows","_law_pair","_law_strings","_law_cells","_law_one","_law_place","_law_hand","_law_overs","_law_made","_law_unders","_law_other","_law_second"] ["_law_rows","_law_pair","_law_strings","_law_cells"] (bg (top 39)):=sr
theorem DR {f:Addr} {fd:aI} (F:oK K "_law_laid" "_law_laid" (top 39) f fd) (jP:mg "len" = none) {lK:Addr} {lL:aI} (bG:mO P w K mg base fY 1 lK lL "_law_pick" ["_law_cell","_law_prime","_law_many"] (cR K cw)) {u0:Addr} {vc:aI} (ff:mO P w K mg base fY 2 u0 vc "_law_put" ["_law_rows","_law_at","_law_place","_law_more"] (cR K g8)):fX P w K mg base fY 3 f fd ["_law_rows","_law_pair","_law_strings","_law_cells"] (cR K ma) :=
 su F vo En fun _ _ _ _ _ _ hr=>have nd:=vo.nd; have hu:=hr.units; (aN (ka (i:=4) nd rfl (cu ij (dO hu (bH 3) aM (fun _ _=>rfl)) (bH 2)))
 (aN (ka (i:=5) nd rfl (cu ij (aS bG.ok (hr.mono (by decide)) rfl bG.mg bG.kp bG.bi (ah (dO hu (bH 3) aM (fun _ _=>rfl)) (ah aM (ah aM aG)))) (cu dS (i9 nB rfl jP yr (ah (dO hu (bH 0) (bH 4) (fun _ _=>rfl)) aG)) aM)))
 (aN (ka (i:=6) nd rfl (dO hu (bH 1) aM (fun _ _=>rfl)))
 (aN (ka (i:=7) nd rfl (jv (ah (di (ah (dO hu (bH 1) aM (fun _ _=>rfl)) (ah aM (ah (bH 6) aG)))) (ah (di (ah (dO hu (bH 1) aM (fun _ _=>rfl)) (ah aM (ah (A7 vY (bH 6)) aG)))) aG))))
 (aN (ka (i:=8) nd rfl (bb (aS ff.ok (hr.mono (by decide)) rfl ff.mg ff.kp ff.bi (ah (bb (bH 0)) (ah (bb (bH 4)) (ah (bb (bH 5)) (ah (bb (bH 7)) aG)))))))
 (aN (ka (i:=9) nd rfl (jv (ah (di (ah (dO hu (bH 1) aM (fun _ _=>rfl)) (ah aM (ah (bH 6) aG)))) (ah (di (ah (dO hu (bH 1) aM (fun _ _=>rfl)) (ah aM (ah (A7 vY (bH 6)) aG)))) aG))))
 (aN (jM (fH (lB hu) (cu ij (dO hu (bH 3) aM (fun _ _=>rfl)) aM) aM (hB _)) (aU (ka (i:=9) nd rfl (jv (ah (di (ah (dO hu (bH 1) aM (fun _ _=>rfl)) (ah aM (ah (A7 vY (bH 6)) aG)))) (ah (di (ah (dO hu (bH 1) aM (fun _ _=>rfl)) (ah aM (ah (bH 6) aG)))) aG))))) gK)
 (aN (ka (i:=10) nd rfl (cu ij (cu C6 (dO hu (bH 3) aM (fun _ _=>rfl)) aM) (bH 2)))
 (aN (ka (i:=11) nd rfl (cu ij (aS bG.ok (hr.mono (by decide)) rfl bG.mg bG.kp bG.bi (ah (dO hu (bH 3) aM (fun _ _=>rfl)) (ah aM (ah aM aG)))) (cu dS (i9 nB rfl jP yr (ah (dO hu (bH 8) (bH 10) (fun _ _=>rfl)) aG)) aM)))
 (aN (jM (Oj.pt (Pg (fH (lB hu) (bH 10) (bH 4) (hB _)) (Mb (fH (lB hu) (bH 11) (cu dS (bH 5) aM) (hB _))))) (aU (ka (i:=11) nd rfl (cu dS (bH 5) aM))) gK)
 (aU (cG (bb (aS ff.ok (hr.mono (by decide)) rfl ff.mg ff.kp ff.bi (ah (bb (bH 8)) (ah (bb (bH 10)) (ah (bb (bH 11)) (ah (bb (bH 9)) aG))))))))))))))))))
theorem pE:cA ["rows","passings","row"] ["rows"] (bg (top 4)):=sr
theorem x3 {f:Addr} {fd:aI} (F:oK K "passings_of" "passings_of" (top 4) f fd):fX P w K mg base fY 1 f fd ["rows"] (cR K ft) :=
 su F pE qh fun _ _ _ _ _ _ hr=>have nd:=pE.nd; (aN (ka (i:=1) nd rfl (jv aG))
 (aN (eG bN rfl (gW (bH 0)) (mQ (i:=2) nd rfl) (aU (xm (nV o9 PySem.F.slot_list_extend PySem.F.type_list_extend wU FE (bH 1) (ah (bH 2) aG)))))
 (aU (cG (bb (bH 1))))))
theorem w8:cA ["drawing","name","passing"] ["drawing","name"] (bg (top 6)):=sr
theorem Gf {f:Addr} {fd:aI} (F:oK K "hand_of" "hand_of" (top 6) f fd) {mJ:Addr} {mK:aI} (eK:mO P w K mg base fY 1 mJ mK "passings_of" ["rows"] (cR K ft)):fX P w K mg base fY 2 f fd ["drawing","name"] (cR K fO) :=
 su F w8 yE fun _ _ _ _ _ _ hr=>have nd:=w8.nd; have hu:=hr.units; (aN (eG bN rfl (gW (aS eK.ok (hr.mono (by decide)) rfl eK.mg eK.kp eK.bi (ah (bH 0) aG))) (mQ (i:=2) nd rfl) (aU (jM (fH (lB hu) (dO hu (bH 2) aM (fun _ _=>rfl)) (bH 1) (hB _)) (aU (cG (bb (dO hu (bH 2) aM (fun _ _=>rfl))))) gK)))
 (aU JG))
theorem w5:cA ["drawing","behind","row","passing","follower"] ["drawing"] (bg (top 7)):=sr
theorem Gd {f:Addr} {fd:aI} (F:oK K "next_of" "next_of" (top 7) f fd) (uS:mg "zip" = none):fX P w K mg base fY 1 f fd ["drawing"] (cR K lq) :=
 su F w5 yA fun _ _ _ _ _ _ hr=>have nd:=w5.nd; have hu:=hr.units; (aN (ka (i:=1) nd rfl nU)
 (aN (eG bN rfl (gW (bH 0)) (mQ (i:=2) nd rfl) (aU (eG bN rfl (HN rfl uS (bH 2) (cu dS (jO (bH 2) (kb aM) nc) (jO (bH 2) nc (kb aM)))) (iX rfl (cJ (mQ (i:=3) nd rfl) (cJ (mQ (i:=4) nd rfl) gL)) (cL (cL gM))) (aU (iW (jO (bH 4) nc (kb aM)) (jZ hu (bH 1) (jO (bH 3) nc (kb aM))))))))
 (aU (cG (bb (bH 1))))))
theorem Fe:cA ["far"] ["far"] (bg (top 20)):=sr
theorem Gb {f:Addr} {fd:aI} (F:oK K "plan_of" "plan_of" (top 20) f fd) (k7:mg "sorted" = none) (xB:mg "tuple" = none):fX P w K mg base fY 1 f fd ["far"] (cR K jI) :=
 su F Fe GU fun _ _ _ _ _ _ hr=>have hu:=hr.units; have X7:=hr.Lz; (aU (cG (bb (rE Ee rfl xB Og (ah (i9 (t9 rfl hu) rfl k7 Az (ah (pP ["end","far"] (sc:=bg (top 20)) (XN:=["far"]) (C1 (bH 0)) (fun _ _ _ _=>(mQ (i:=0) (show (["end","far"]:List Str).Nodup by decide +kernel) rfl)) (fun _ _ _ _=>(.some (fH (Mt X7) (bH 0) (dO hu (bH 1) (bH 0) (fun _ _=>rfl)) (hB _)))) (fun _ _ _ _=>(di (ah (bH 0) (ah (dO hu (bH 1) (bH 0) (fun _ _=>rfl)) aG))))) aG)) aG)))))
theorem vq:cA ["threads","far","one","other"] ["threads"] (bg (top 22)):=sr
theorem DU {f:Addr} {fd:aI} (F:oK K "far_ends" "far_ends" (top 22) f fd):fX P w K mg base fY 1 f fd ["threads"] (cR K i8) :=
 su F vq Eo fun _ _ _ _ _ _ hr=>have nd:=vq.nd; have hu:=hr.units; (aN (ka (i:=1) nd rfl nU)
 (aN (eG bN rfl (gW (bH 0)) (iX rfl (cJ (mQ (i:=2) nd rfl) (cJ (mQ (i:=3) nd rfl) gL)) (cL (cL gM))) (aN (iW (bH 3) (jZ hu (bH 1) (bH 2)))
 (aU (iW (bH 2) (jZ hu (bH 1) (bH 3))))))
 (aU (cG (bb (bH 1))))))
theorem q0:cA ["drawing","threads"] ["drawing"] (bg (top 21)):=sr
theorem zb {f:Addr} {fd:aI} (F:oK K "whole_plan" "whole_plan" (top 21) f fd) {Km:Addr} {Ks:aI} (qF:mO P w K mg base fY 1 Km Ks "next_of" ["drawing"] (cR K lq)) {uZ:Addr} {vb:aI} (ik:mO P w K mg base fY 1 uZ vb "plan_of" ["far"] (cR K jI)) {rP:Addr} {rV:aI} (gH:mO P w K mg base fY 1 rP rV "far_ends" ["threads"] (cR K i8)):fX P w K mg base fY 2 f fd ["drawing"] (cR K jX) :=
 su F q0 zq fun _ _ _ _ _ _ hr=>have nd:=q0.nd; (aN (sY ["spot","after"] (sc:=bg (top 21)) (XN:=["drawing","threads"]) (i:=1) nd rfl rfl (Fq (aS qF.ok (hr.mono (by decide)) rfl qF.mg qF.kp qF.bi (ah (bH 0) aG))) (fun _ _ _ _=>(iX rfl (cJ (mQ (i:=0) (show (["spot","after"]:List Str).Nodup by decide +kernel) rfl) (cJ (mQ (i:=1) (show (["spot","after"]:List Str).Nodup by decide +kernel) rfl) gL)) (cL (cL gM)))) (fun _ _ _ _=>.none) (fun _ _ _ _=>(di (ah (cu dS (bH 0) (di (ah aM aG))) (ah (cu dS (bH 1) (di (ah aM aG))) aG)))))
 (aU (cG (bb (aS ik.ok (hr.mono (by decide)) rfl ik.mg ik.kp ik.bi (ah (bb (aS gH.ok (hr.mono (by decide)) rfl gH.mg gH.kp gH.bi (ah (bH 1) aG))) aG))))))
theorem lu:cA ["sums","kept","power","number"] ["sums"] (bg (top 10)):=sr
theorem rL {f:Addr} {fd:aI} (F:oK K "without_noughts" "without_noughts" (top 10) f fd):fX P w K mg base fY 1 f fd ["sums"] (cR K da) :=
 su F lu rZ fun _ _ _ _ _ _ hr=>have nd:=lu.nd; have hu:=hr.units; (aN (ka (i:=1) nd rfl nU)
 (aN (eG bN rfl (ng (bH 0)) (iX rfl (cJ (mQ (i:=2) nd rfl) (cJ (mQ (i:=3) nd rfl) gL)) (cL (cL gM))) (aU (jM (fH (Ms hu) (bH 3) aM (hB _)) (aU (iW (bH 3) (jZ hu (bH 1) (bH 2)))) gK)))
 (aU (cG (bb (bH 1))))))
theorem CD:cA ["one","other","sums","power","number","other_power","other_number","both"] ["one","other"] (bg (top 12)):=sr
theorem NG {f:Addr} {fd:aI} (F:oK K "times" "times" (top 12) f fd) {fK:Addr} {fL:aI} (bZ:mO P w K mg base fY 1 fK fL "without_noughts" ["sums"] (cR K da)):fX P w K mg base fY 2 f fd ["one","other"] (cR K iL) :=
 su F CD Om fun _ _ _ _ _ _ hr=>have nd:=CD.nd; have hu:=hr.units; (aN (ka (i:=2) nd rfl nU)
 (aN (eG bN rfl (ng (bH 0)) (iX rfl (cJ (mQ (i:=3) nd rfl) (cJ (mQ (i:=4) nd rfl) gL)) (cL (cL gM))) (aU (eG bN rfl (ng (bH 1)) (iX rfl (cJ (mQ (i:=5) nd rfl) (cJ (mQ (i:=6) nd rfl) gL)) (cL (cL gM))) (aN (ka (i:=7) nd rfl (cu dS (bH 3) (bH 5)))
 (aU (iW (cu dS (nV cW fV kJ mS Ie (bH 2) (ah (bH 7) (ah aM aG))) (cu C5 (bH 4) (bH 6))) (jZ hu (bH 2) (bH 7))))))))
 (aU (cG (bb (aS bZ.ok (hr.mono (by decide)) rfl bZ.mg bZ.kp bZ.bi (ah (bb (bH 2)) aG)))))))
theorem zD:cA ["one","count","product","step"] ["one","count"] (bg (top 14)):=sr
theorem Ki {f:Addr} {fd:aI} (F:oK K "raised" "raised" (top 14) f fd) (iO:mg "range" = none) {BA:Addr} {BK:aI} (kR:mO P w K mg base fY 2 BA BK "times" ["one","other"] (cR K iL)):fX P w K mg base fY 3 f fd ["one","count"] (cR K gN) :=
 su F zD KI fun _ _ _ _ _ _ hr=>have nd:=zD.nd; (aN (ka (i:=2) nd rfl (Mn aM aM))
 (aN (eG bN rfl (rD rfl iO (bH 1)) (mQ (i:=3) nd rfl) (aU (ka (i:=2) nd rfl (aS kR.ok (hr.mono (by decide)) rfl kR.mg kR.kp kR.bi (ah (bb (bH 2)) (ah (bb (bH 0)) aG))))))
 (aU (cG (bb (bH 2))))))
theorem pG:cA ["plan","pairs","far","closed","one","other","before","after"] ["plan","pairs"] (bg (top 23)):=sr
theorem x6 {f:Addr} {fd:aI} (F:oK K "joined_plan" "joined_plan" (top 23) f fd) {rP:Addr} {rV:aI} (gH:mO P w K mg base fY 1 rP rV "far_ends" ["threads"] (cR K i8)) {uZ:Addr} {vb:aI} (ik:mO P w K mg base fY 1 uZ vb "plan_of" ["far"] (cR K jI)):fX P w K mg base fY 2 f fd ["plan","pairs"] (cR K jo) :=
 su F pG yD fun _ _ _ _ _ _ hr=>have nd:=pG.nd; have hu:=hr.units; (aN (ka (i:=2) nd rfl (aS gH.ok (hr.mono (by decide)) rfl gH.mg gH.kp gH.bi (ah (bH 0) aG)))
 (aN (ka (i:=3) nd rfl aM)
 (aN (eG bN rfl (gW (bH 1)) (iX rfl (cJ (mQ (i:=4) nd rfl) (cJ (mQ (i:=5) nd rfl) gL)) (cL (cL gM))) (aN (ka (i:=6) nd rfl (nV cW rn Jd mS (Dh hu) (bH 2) (ah (bH 4) aG)))
 (aN (ka (i:=7) nd rfl (nV cW rn Jd mS (Dh hu) (bH 2) (ah (bH 5) aG)))
 (aU (jM (fH (lB hu) (bH 6) (bH 5) (hB _)) (aU (ka (i:=3) nd rfl (cu dS (bH 3) aM))) (aN (iW (bH 7) (jZ hu (bH 2) (bH 6)))
 (aU (iW (bH 6) (jZ hu (bH 2) (bH 7))))))))))
 (aU (cG (bb (di (ah (aS ik.ok (hr.mono (by decide)) rfl ik.mg ik.kp ik.bi (ah (bb (bH 2)) aG)) (ah (bH 3) aG)))))))))
theorem Ju:cA ["name","split"] ["name","split"] (bg (top 18)):=sr
theorem Kk {f:Addr} {fd:aI} (F:oK K "joints" "joints" (top 18) f fd) {nT:Tok} (qc:mg "ALONG" = some (.int 0 nT)):fX P w K mg base fY 1 f fd ["name","split"] (cR K qm) :=
 su F Ju KL fun _ _ _ _ _ _ hr=>have hu:=hr.units; (aN (jM (fH (lB hu) (bH 1) (wd rfl qc) (hB _)) (aU (cG (bb (jv (ah (di (ah (di (ah (bH 0) (ah aM (ah aM aG)))) (ah (di (ah (bH 0) (ah aM (ah aM aG)))) aG))) (ah (di (ah (di (ah (bH 0) (ah aM (ah aM aG)))) (ah (di (ah (bH 0) (ah aM (ah aM aG)))) aG))) aG)))))) gK)
 (aU (cG (bb (jv (ah (di (ah (di (ah (bH 0) (ah aM (ah aM aG)))) (ah (di (ah (bH 0) (ah aM (ah aM aG)))) aG))) (ah (di (ah (di (ah (bH 0) (ah aM (ah aM aG)))) (ah (di (ah (bH 0) (ah aM (ah aM aG)))) aG))) aG)))))))
theorem w4:cA ["one","by","factor","sums","power","number"] ["one","by","factor"] (bg (top 13)):=sr
theorem Ga {f:Addr} {fd:aI} (F:oK K "shifted" "shifted" (top 13) f fd) {fK:Addr} {fL:aI} (bZ:mO P w K mg base fY 1 fK fL "without_noughts" ["sums"] (cR K da)):fX P w K mg base fY 2 f fd ["one","by","factor"] (cR K gC) :=
 su F w4 GS fun _ _ _ _ _ _ hr=>have nd:=w4.nd; have hu:=hr.units; (aN (ka (i:=3) nd rfl nU)
 (aN (eG bN rfl (ng (bH 0)) (iX rfl (cJ (mQ (i:=4) nd rfl) (cJ (mQ (i:=5) nd rfl) gL)) (cL (cL gM))) (aU (iW (cu C5 (bH 5) (bH 2)) (jZ hu (bH 3) (cu dS (bH 4) (bH 1))))))
 (aU (cG (bb (aS bZ.ok (hr.mono (by decide)) rfl bZ.mg bZ.kp bZ.bi (ah (bb (bH 3)) aG)))))))
theorem CF:cA ["hand","split"] ["hand","split"] (bg (top 19)):=sr
theorem DN {f:Addr} {fd:aI} (F:oK K "power_at" "power_at" (top 19) f fd) {nT:Tok} (qc:mg "ALONG" = some (.int 0 nT)):fX P w K mg base fY 1 f fd ["hand","split"] (cR K l0) :=
 su F CF Ek fun _ _ _ _ _ _ hr=>have hu:=hr.units; (aU (cG (bb (Ss (fH (lB hu) (bH 1) (wd rfl qc) (hB _)) (bH 0) (A7 vY (bH 0))))))
theorem CJ:cA ["one","other","sums","power","number"] ["one","other"] (bg (top 11)):=sr
theorem NH {f:Addr} {fd:aI} (F:oK K "added" "added" (top 11) f fd) (no_dict:mg "dict" = none) {fK:Addr} {fL:aI} (bZ:mO P w K mg base fY 1 fK fL "without_noughts" ["sums"] (cR K da)):fX P w K mg base fY 2 f fd ["one","other"] (cR K j9) :=
 su F CJ Oo fun _ _ _ _ _ _ hr=>have nd:=CJ.nd; have hu:=hr.units; (aN (ka (i:=2) nd rfl (rE GJ rfl no_dict BR (ah (bH 0) aG)))
 (aN (eG bN rfl (ng (bH 1)) (iX rfl (cJ (mQ (i:=3) nd rfl) (cJ (mQ (i:=4) nd rfl) gL)) (cL (cL gM))) (aU (iW (cu dS (nV cW fV kJ mS Ie (bH 2) (ah (bH 3) (ah aM aG))) (bH 4)) (jZ hu (bH 2) (bH 3)))))
 (aU (cG (bb (aS bZ.ok (hr.mono (by decide)) rfl bZ.mg bZ.kp bZ.bi (ah (bb (bH 2)) aG)))))))
theorem sL:cA ["sums","name","hand","after","plan","poly","split","made","part","kept"] ["sums","name","hand"] (bg (top 24)):=sr
theorem Bw {f:Addr} {fd:aI} (F:oK K "opened_at" "opened_at" (top 24) f fd) (no_dict:mg "dict" = none) {uI:Tok} (GF:mg "AGAINST" = some (.int 1 uI)) {nT:Tok} (qc:mg "ALONG" = some (.int 0 nT)) {lH:Addr} (Bu:mg "LOOP" = some (.ref lH)) (qw:(lH == cV)=false) (qx:Av K lH [(2,-1),(-2,-1)]=true) {ze:Addr} {zi:aI} (j7:mO P w K mg base fY 2 ze zi "joined_plan" ["plan","pairs"] (cR K jo)) {NN:Addr} {NY:aI} (ub:mO P w K mg base fY 1 NN NY "joints" ["name","split"] (cR K qm)) {Kl:Addr} {Kq:aI} (qE:mO P w K mg base fY 2 Kl Kq "shifted" ["one","by","factor"] (cR K gC)) {Gi:Addr} {Gx:aI} (oq:mO P w K mg base fY 1 Gi Gx "power_at" ["hand","split"] (cR K l0)) {BA:Addr} {BK:aI} (kR:mO P w K mg base fY 2 BA BK "times" ["one","other"] (cR K iL)) {yc:Addr} {yg:aI} (jz:mO P w K mg base fY 3 yc yg "raised" ["one","count"] (cR K gN)) {Qc:Addr} {Qj:aI} (wA:mO P w K mg base fY 2 Qc Qj "added" ["one","other"] (cR K j9)):fX P w K mg base fY 4 f fd ["sums","name","hand"] (cR K kN) :=
 su F sL BZ fun _ _ _ _ _ _ hr=>have nd:=sL.nd; have hu:=hr.units; (aN (ka (i:=3) nd rfl HP)
 (aN (A4 (eG bN rfl (xn (bH 0)) (iX rfl (cJ (mQ (i:=4) nd rfl) (cJ (mQ (i:=5) nd rfl) gL)) (cL (cL gM))) (aU (eG bN rfl (gW (di (ah (wd rfl qc) (ah (wd rfl GF) aG)))) (mQ (i:=6) nd rfl) (aN (ka (i:=7) nd rfl (aS j7.ok (hr.mono (by decide)) rfl j7.mg j7.kp j7.bi (ah (bH 4) (ah (aS ub.ok (hr.mono (by decide)) rfl ub.mg ub.kp ub.bi (ah (bH 1) (ah (bH 6) aG))) aG))))
 (aN (ka (i:=8) nd rfl (aS qE.ok (hr.mono (by decide)) rfl qE.mg qE.kp qE.bi (ah (bb (aS kR.ok (hr.mono (by decide)) rfl kR.mg kR.kp kR.bi (ah (bb (bH 5)) (ah (bb (aS jz.ok (hr.mono (by decide)) rfl jz.mg jz.kp jz.bi (ah (bb (zK rfl no_dict rfl Bu qw qx (by decide) (by decide))) (ah (bb (dO hu (bH 7) aM (fun _ _=>rfl))) aG)))) aG)))) (ah (bb (aS oq.ok (hr.mono (by decide)) rfl oq.mg oq.kp oq.bi (ah (bH 2) (ah (bH 6) aG)))) (ah (bb aM) aG)))))
 (aU (iW (bb (aS wA.ok (hr.mono (by decide)) rfl wA.mg wA.kp wA.bi (ah (bb (nV cW fV kJ Hm (Di hu) (bH 3) (ah (bb (dO hu (bH 7) aM (fun _ _=>rfl))) (ah (bb nU) aG)))) (ah (bb (bH 8)) aG)))) (C2 hu (bH 3) (dO hu (bH 7) aM (fun _ _=>rfl)))))))))))
 (aN (ka (i:=9) nd rfl HP)
 (aN (A4 (eG bN rfl (xn (bH 3)) (iX rfl (cJ (mQ (i:=4) nd rfl) (cJ (mQ (i:=5) nd rfl) gL)) (cL (cL gM))) (aU (jM (jL (bH 5)) (aU (iW (bb (bH 5)) (C2 hu (bH 9) (bH 4)))) gK))))
 (aU (cG (bb (bH 9))))))))
theorem zE:cA ["drawing","names","hands","loose","sums","name","hand"] ["drawing","names"] (bg (top 25)):=sr
theorem Kj {f:Addr} {fd:aI} (F:oK K "opened" "opened" (top 25) f fd) (no_dict:mg "dict" = none) (jP:mg "len" = none) (uS:mg "zip" = none) {lH:Addr} (Bu:mg "LOOP" = some (.ref lH)) (qw:(lH == cV)=false) (qx:Av K lH [(2,-1),(-2,-1)]=true) {u5:Addr} {vd:aI} (ip:mO P w K mg base fY 2 u5 vd "hand_of" ["drawing","name"] (cR K fO)) {Bz:Addr} {BJ:aI} (kQ:mO P w K mg base fY 2 Bz BJ "whole_plan" ["drawing"] (cR K jX)) {yc:Addr} {yg:aI} (jz:mO P w K mg base fY 3 yc yg "raised" ["one","count"] (cR K gN)) {DV:Addr} {D4:aI} (mw:mO P w K mg base fY 4 DV D4 "opened_at" ["sums","name","hand"] (cR K kN)):fX P w K mg base fY 5 f fd ["drawing","names"] (cR K ql) :=
 su F zE KJ fun _ _ _ _ _ _ hr=>have nd:=zE.nd; have hu:=hr.units; (aN (sY ["name","drawing"] (sc:=bg (top 25)) (XN:=["drawing","names","hands","loose","sums","name","hand"]) (i:=2) nd rfl rfl (gW (bH 1)) (fun _ _ _ _=>(mQ (i:=0) (show (["name","drawing"]:List Str).Nodup by decide +kernel) rfl)) (fun _ _ _ _=>.none) (fun _ _ _ _=>(aS ip.ok (hr.mono (by decide)) rfl ip.mg ip.kp ip.bi (ah (bH 1) (ah (bH 0) aG)))))
 (aN (ka (i:=3) nd rfl (i9 nB rfl jP yr (ah (pP ["row"] (sc:=bg (top 25)) (XN:=["drawing","names","hands","loose","sums","name","hand"]) (gW (bH 0)) (fun _ _ _ _=>(mQ (i:=0) (show (["row"]:List Str).Nodup by decide +kernel) rfl)) (fun _ _ _ _=>(.some (qo (jL (bH 0))))) (fun _ _ _ _=>(bH 0))) aG)))
 (aN (ka (i:=4) nd rfl (bb (Mm hu (aS kQ.ok (hr.mono (by decide)) rfl kQ.mg kQ.kp kQ.bi (ah (bH 0) aG)) (bb (aS jz.ok (hr.mono (by decide)) rfl jz.mg jz.kp jz.bi (ah (bb (zK rfl no_dict rfl Bu qw qx (by decide) (by decide))) (ah (bb (bH 3)) aG)))))))
 (aN (eG bN rfl (HN rfl uS (bH 1) (bH 2)) (iX rfl (cJ (mQ (i:=5) nd rfl) (cJ (mQ (i:=6) nd rfl) gL)) (cL (cL gM))) (aU (ka (i:=4) nd rfl (bb (aS mw.ok (hr.mono (by decide)) rfl mw.mg mw.kp mw.bi (ah (bH 4) (ah (bH 5) (ah (bH 6) aG))))))))
 (aU (cG (bb (bH 4))))))))
theorem CG:cA ["drawing"] ["drawing"] (bg (top 5)):=sr
theorem DO {f:Addr} {fd:aI} (F:oK K "names_of" "names_of" (top 5) f fd) (k7:mg "sorted" = none) {mJ:Addr} {mK:aI} (eK:mO P w K mg base fY 1 mJ mK "passings_of" ["rows"] (cR K ft)):fX P w K mg base fY 2 f fd ["drawing"] (cR K fc) :=
 su F CG vN fun _ _ _ _ _ _ hr=>have hu:=hr.units; (aU (cG (bb (i9 (t9 rfl hu) rfl k7 Az (ah (pP ["passing"] (sc:=bg (top 5)) (XN:=["drawing"]) (gW (aS eK.ok (hr.mono (by decide)) rfl eK.mg eK.kp eK.bi (ah (bH 0) aG))) (fun _ _ _ _=>(mQ (i:=0) (show (["passing"]:List Str).Nodup by decide +kernel) rfl)) (fun _ _ _ _=>(.some (fH (lB hu) (dO hu (bH 0) aM (fun _ _=>rfl)) aM (hB _)))) (fun _ _ _ _=>(dO hu (bH 0) aM (fun _ _=>rfl)))) aG)))))
theorem Ff:cA ["drawing"] ["drawing"] (bg (top 26)):=sr
theorem Gg {f:Addr} {fd:aI} (F:oK K "bracket" "bracket" (top 26) f fd) {NM:Addr} {NX:aI} (ua:mO P w K mg base fY 5 NM NX "opened" ["drawing","names"] (cR K ql)) {rM:Addr} {rQ:aI} (gG:mO P w K mg base fY 2 rM rQ "names_of" ["drawing"] (cR K fc)):fX P w K mg base fY 6 f fd ["drawing"] (cR K lr) :=
 su F Ff GW fun _ _ _ _ _ _ hr=>have hu:=hr.units; (aU (cG (bb (nV cW fV kJ Hm (Di hu) (aS ua.ok (hr.mono (by decide)) rfl ua.mg ua.kp ua.bi (ah (bH 0) (ah (aS gG.ok (hr.mono (by decide)) rfl gG.mg gG.kp gG.bi (ah (bH 0) aG)) aG))) (ah (bb (di aG)) (ah (bb nU) aG))))))
theorem AX:cA ["_law_found"] ["_law_found"] (bg (top 31)):=sr
theorem Bx {f:Addr} {fd:aI} (F:oK K "_law_whole" "_law_whole" (top 31) f fd) (Bf:mg "bool" = none) (Fy:mg "int" = none) (fP:mg "isinstance" = none):fX P w K mg base fY 1 f fd ["_law_found"] (cR K e7) :=
 su F AX B0 fun _ _ _ _ _ _ hr=>(aU (cG (bb (PB (A8 "int" (by decide) rfl fP rfl Fy Tw (bH 0)) (Py (Pz (A8 "bool" (by decide) rfl fP rfl Bf Qw (bH 0))))))))
theorem vn:cA ["_law_found","_law_at"] ["_law_found"] (bg (top 33)):=sr
theorem DP {f:Addr} {fd:aI} (F:oK K "_law_poly" "_law_poly" (top 33) f fd) (no_dict:mg "dict" = none) (fP:mg "isinstance" = none) {DW:Addr} {D5:aI} (gz:mO P w K mg base fY 1 DW D5 "_law_whole" ["_law_found"] (cR K e7)):fX P w K mg base fY 2 f fd ["_law_found"] (cR K gx) :=
 su F vn El fun _ _ _ _ _ _ hr=>have nd:=vn.nd; have hu:=hr.units; (aN (jM (qo (jL (A8 "dict" (by decide) rfl fP rfl no_dict BR (bH 0)))) (aU (cG (bb A9))) gK)
 (aN (eG bN rfl (C1 (bH 0)) (mQ (i:=1) nd rfl) (aU (jM (Oj.pt (xj (qo (jL (aS gz.ok (hr.mono (by decide)) rfl gz.mg gz.kp gz.bi (ah (bH 1) aG)))) (xj (qo (jL (aS gz.ok (hr.mono (by decide)) rfl gz.mg gz.kp gz.bi (ah (dO hu (bH 0) (bH 1) (fun _ _=>rfl)) aG)))) (HF (fH (lB hu) (dO hu (bH 0) (bH 1) (fun _ _=>rfl)) aM (hB _)))))) (aU (cG (bb A9))) gK)))
 (aU (cG (bb A9)))))
theorem Jt:cA ["drawing"] ["drawing"] (bg (top 28)):=sr
theorem Kh {f:Addr} {fd:aI} (F:oK K "writhe" "writhe" (top 28) f fd) (Fx:mg "sum" = none) {rM:Addr} {rQ:aI} (gG:mO P w K mg base fY 2 rM rQ "names_of" ["drawing"] (cR K fc)) {u5:Addr} {vd:aI} (ip:mO P w K mg base fY 2 u5 vd "hand_of" ["drawing","name"] (cR K fO)):fX P w K mg base fY 3 f fd ["drawing"] (cR K mT) :=
 su F Jt KH fun _ _ _ _ _ _ hr=>(aU (cG (bb (i9 (Ku rfl) rfl Fx Tv (ah (pP ["name","drawing"] (sc:=bg (top 28)) (XN:=["drawing"]) (gW (aS gG.ok (hr.mono (by decide)) rfl gG.mg gG.kp gG.bi (ah (bH 0) aG))) (fun _ _ _ _=>(mQ (i:=0) (show (["name","drawing"]:List Str).Nodup by decide +kernel) rfl)) (fun _ _ _ _=>.none) (fun _ _ _ _=>(aS ip.ok (hr.mono (by decide)) rfl ip.mg ip.kp ip.bi (ah (bH 1) (ah (bH 0) aG))))) aG)))))
theorem LX:cA ["_law_script","_law_strings","_law_spread","_law_rows","_law_first","_law_second","_law_pair","_law_cells","_law_laid_here","_law_handed","_law_one","_law_other"] ["_law_script"] (bg (top 40)):=sr
theorem Td {f:Addr} {fd:aI} (F:oK K "law" "law" (top 40) f fd) (iO:mg "range" = none) {zd:Addr} {zh:aI} (bw:mO P w K mg base fY 1 zd zh "_law_cell_at" ["_law_script","_law_k"] (cR K cf)) {zc:Addr} {zg:aI} (j6:mO P w K mg base fY 3 zc zg "_law_drawing" ["_law_cells","_law_strings","_law_spread"] (cR K jm)) {rN:Addr} {rS:aI} (eE:mO P w K mg base fY 1 rN rS "_law_free" ["_law_names_here","_law_name"] (cR K fe)) {lK:Addr} {lL:aI} (bG:mO P w K mg base fY 1 lK lL "_law_pick" ["_law_cell","_law_prime","_law_many"] (cR K cw)) {DX:Addr} {D6:aI} (gB:mO P w K mg base fY 1 DX D6 "_law_names" ["_law_rows"] (cR K fb)) {Gk:Addr} {Gz:aI} (ot:mO P w K mg base fY 3 Gk Gz "_law_laid" ["_law_rows","_law_pair","_law_strings","_law_cells"] (cR K ma)) {rO:Addr} {rT:aI} (eF:mO P w K mg base fY 1 rO rT "_law_copy" ["_law_rows"] (cR K ef)) {Kn:Addr} {Kt:aI} (jb:mO P w K mg base fY 6 Kn Kt "bracket" ["drawing"] (cR K lr)) {Gj:Addr} {Gy:aI} (hU:mO P w K mg base fY 2 Gj Gy "_law_poly" ["_law_found"] (cR K gx)) {NL:Addr} {NW:aI} (km:mO P w K mg base fY 3 NL NW "writhe" ["drawing"] (cR K mT)):fX P w K mg base fY 7 f fd ["_law_script"] (cR K K2.zA) :=
 su F LX TC fun _ _ _ _ _ _ hr=>have nd:=LX.nd; have hu:=hr.units; (aN (ka (i:=1) nd rfl (cu dS aM (cu ij (aS bw.ok (hr.mono (by decide)) rfl bw.mg bw.kp bw.bi (ah (bH 0) (ah aM aG))) aM)))
 (aN (ka (i:=2) nd rfl aM)
 (aN (jM (fH (HV hu) (cu ij (cu C6 (aS bw.ok (hr.mono (by decide)) rfl bw.mg bw.kp bw.bi (ah (bH 0) (ah aM aG))) aM) aM) aM (hB _)) (aU (ka (i:=2) nd rfl aM)) gK)
 (aN (ka (i:=3) nd rfl (bb (aS j6.ok (hr.mono (by decide)) rfl j6.mg j6.kp j6.bi (ah (jO (bH 0) (kb aM) (kb (cu dS aM (cu ij (aS bw.ok (hr.mono (by decide)) rfl bw.mg bw.kp bw.bi (ah (bH 0) (ah aM aG))) aM)))) (ah (bH 1) (ah (bH 2) aG))))))
 (aN (ka (i:=4) nd rfl (aS eE.ok (hr.mono (by decide)) rfl eE.mg eE.kp eE.bi (ah (aS gB.ok (hr.mono (by decide)) rfl gB.mg gB.kp gB.bi (ah (bH 3) aG)) (ah (cu dS aM (aS bG.ok (hr.mono (by decide)) rfl bG.mg bG.kp bG.bi (ah (aS bw.ok (hr.mono (by decide)) rfl bw.mg bw.kp bw.bi (ah (bH 0) (ah aM aG))) (ah aM (ah (bH 2) aG))))) aG))))
 (aN (ka (i:=5) nd rfl (aS eE.ok (hr.mono (by decide)) rfl eE.mg eE.kp eE.bi (ah (cu dS (aS gB.ok (hr.mono (by decide)) rfl gB.mg gB.kp gB.bi (ah (bH 3) aG)) (jv (ah (bH 4) aG))) (ah (cu dS aM (aS bG.ok (hr.mono (by decide)) rfl bG.mg bG.kp bG.bi (ah (aS bw.ok (hr.mono (by decide)) rfl bw.mg bw.kp bw.bi (ah (bH 0) (ah aM aG))) (ah aM (ah aM aG))))) aG))))
 (aN (ka (i:=6) nd rfl (di (ah (bH 4) (ah (bH 5) (ah (cu HS aM (cu tj aM (cu ij (aS bw.ok (hr.mono (by decide)) rfl bw.mg bw.kp bw.bi (ah (bH 0) (ah aM aG))) aM))) aG)))))
 (aN (sY ["_law_k","_law_script"] (sc:=bg (top 40)) (XN:=["_law_script","_law_strings","_law_spread","_law_rows","_law_first","_law_second","_law_pair","_law_cells","_law_laid_here","_law_handed","_law_one","_law_other"]) (i:=7) nd rfl rfl (Fp rfl iO aM aM) (fun _ _ _ _=>(mQ (i:=0) (show (["_law_k","_law_script"]:List Str).Nodup by decide +kernel) rfl)) (fun _ _ _ _=>.none) (fun _ _ _ _=>(aS bw.ok (hr.mono (by decide)) rfl bw.mg bw.kp bw.bi (ah (bH 1) (ah (bH 0) aG)))))
 (aN (ka (i:=8) nd rfl (bb (aS ot.ok (hr.mono (by decide)) rfl ot.mg ot.kp ot.bi (ah (bb (bH 3)) (ah (bb (bH 6)) (ah (bb (bH 1)) (ah (bb (bH 7)) aG)))))))
 (aN (ka (i:=9) nd rfl (bb (aS eF.ok (hr.mono (by decide)) rfl eF.mg eF.kp eF.bi (ah (bH 8) aG))))
 (aN (ka (i:=10) nd rfl (bb (aS jb.ok (hr.mono (by decide)) rfl jb.mg jb.kp jb.bi (ah (bb (aS eF.ok (hr.mono (by decide)) rfl eF.mg eF.kp eF.bi (ah (bH 3) aG))) aG))))
 (aN (ka (i:=11) nd rfl (bb (aS jb.ok (hr.mono (by decide)) rfl jb.mg jb.kp jb.bi (ah (bb (bH 9)) aG))))
 (aN (jM (Oj.pt (xj (qo (jL (aS hU.ok (hr.mono (by decide)) rfl hU.mg hU.kp hU.bi (ah (bH 10) aG)))) (xj (qo (jL (aS hU.ok (hr.mono (by decide)) rfl hU.mg hU.kp hU.bi (ah (bH 11) aG)))) (xj (fH (HU hu) (bH 10) (bH 11) (hB _)) (HF (fH (HU hu) (bH 9) (bH 8) (hB _))))))) (aU (cG (bb A9))) gK)
 (aU (cG (bb (PA (HV hu) (aS km.ok (hr.mono (by decide)) rfl km.mg km.kp km.bi (ah (bH 9) aG)) (aS km.ok (hr.mono (by decide)) rfl km.mg km.kp km.bi (ah (bH 3) aG)) (hB _))))))))))))))))))
end
theorem all_mk {l:AJ} {w:World} {K:ai} {h:Heap} {mg:Str->Option Value} {fa:Addr} (X:K.In h) (G:h.Ns bS mg) (hfa:mg "law" = some (.ref fa))
  {f0:Addr} {d0:aI} (F0:At K "_law_cell_at" (top 30) f0 d0)
  {f1:Addr} {d1:aI} (F1:At K "_law_free" (top 35) f1 d1)
  {f2:Addr} {d2:aI} (F2:At K "_law_pick" (top 32) f2 d2)
  {f3:Addr} {d3:aI} (F3:At K "_law_copy" (top 34) f3 d3)
  {f4:Addr} {d4:aI} (F4:At K "_law_put" (top 36) f4 d4)
  {f5:Addr} {d5:aI} (F5:At K "_law_drawing" (top 37) f5 d5)
  {f6:Addr} {d6:aI} (F6:At K "_law_names" (top 38) f6 d6)
  {f7:Addr} {d7:aI} (F7:At K "_law_laid" (top 39) f7 d7)
  {f8:Addr} {d8:aI} (F8:At K "passings_of" (top 4) f8 d8)
  {f9:Addr} {d9:aI} (F9:At K "hand_of" (top 6) f9 d9)
  {Wn:Addr} {d10:aI} (WI:At K "next_of" (top 7) Wn d10)
  {f11:Addr} {d11:aI} (Ue:At K "plan_of" (top 20) f11 d11)
  {f12:Addr} {d12:aI} (Ud:At K "far_ends" (top 22) f12 d12)
  {f13:Addr} {d13:aI} (WH:At K "whole_plan" (top 21) f13 d13)
  {f14:Addr} {d14:aI} (RF:At K "without_noughts" (top 10) f14 d14)
  {f15:Addr} {d15:aI} (Uc:At K "times" (top 12) f15 d15)
  {f16:Addr} {d16:aI} (Ub:At K "raised" (top 14) f16 d16)
  {f17:Addr} {d17:aI} (WG:At K "joined_plan" (top 23) f17 d17)
  {f18:Addr} {d18:aI} (WE:At K "joints" (top 18) f18 d18)
  {f19:Addr} {d19:aI} (WD:At K "shifted" (top 13) f19 d19)
  {f20:Addr} {d20:aI} (WC:At K "power_at" (top 19) f20 d20)
  {f21:Addr} {d21:aI} (WB:At K "added" (top 11) f21 d21)
  {f22:Addr} {d22:aI} (WA:At K "opened_at" (top 24) f22 d22)
  {f23:Addr} {d23:aI} (Wz:At K "opened" (top 25) f23 d23)
  {f24:Addr} {d24:aI} (Ua:At K "names_of" (top 5) f24 d24)
  {f25:Addr} {d25:aI} (Wy:At K "bracket" (top 26) f25 d25)
  {f26:Addr} {d26:aI} (Wx:At K "_law_whole" (top 31) f26 d26)
  {f27:Addr} {d27:aI} (Ww:At K "_law_poly" (top 33) f27 d27)
  {f28:Addr} {d28:aI} (Wv:At K "writhe" (top 28) f28 d28)
  {f29:Addr} {d29:aI} (F29:At K "law" (top 40) f29 d29)
  (Uj:autoParam (c6 K bS "len" = some none) Aq._auto_1) (RH:autoParam (c6 K bS "list" = some none) Aq._auto_1) (OY:autoParam (c6 K bS "range" = some none) Aq._auto_1) (Uh:autoParam (c6 K bS "zip" = some none) Aq._auto_1) (Lx:autoParam (c6 K bS "sorted" = some none) Aq._auto_1) (OX:autoParam (c6 K bS "tuple" = some none) Aq._auto_1) (RI:autoParam (c6 K bS "dict" = some none) Aq._auto_1) (RJ:autoParam (c6 K bS "bool" = some none) Aq._auto_1) (Uk:autoParam (c6 K bS "int" = some none) Aq._auto_1) (AO:autoParam (c6 K bS "isinstance" = some none) Aq._auto_1) (Ui:autoParam (c6 K bS "sum" = some none) Aq._auto_1) {nT:Tok} (yi:autoParam (c6 K bS "ALONG" = some (some (.int 0 nT))) Aq._auto_1) {uI:Tok} (GD:autoParam (c6 K bS "AGAINST" = some (some (.int 1 uI))) Aq._auto_1) {lH:Addr} (IA:autoParam (c6 K bS "LOOP" = some (some (.ref lH))) Aq._auto_1) (qw:autoParam ((lH == cV)=false) Ae._auto_1) (qx:autoParam (Av K lH [(2,-1),(-2,-1)]=true) Af._auto_1) :
  ∃ fd:aI,(∀ (s:aw) (v:Value),Lu s fd ⟨[v],[]⟩ [("_law_script",v)])/\∀ base:Heap,K.In base->base.Ns bS mg->fX l.prog w K mg base fY 7 fa fd ["_law_script"] (cR K K2.zA):=by
 have e:=hfa.symm.trans (jH X G F29.a);cases e;have b0:=F0.F.binds (ps:=["_law_script","_law_k"]) fun _ _ _ _ _ _ us hl=>by obtain⟨_,_,rfl⟩:=xP hl; rfl
 have b1:=F1.F.binds (ps:=["_law_names_here","_law_name"]) fun _ _ _ _ _ _ us hl=>by obtain⟨_,_,rfl⟩:=xP hl; rfl
 have b2:=F2.F.binds (ps:=["_law_cell","_law_prime","_law_many"]) fun _ _ _ _ _ _ us hl=>by obtain⟨_,_,_,rfl⟩:=MO hl; rfl
 have b3:=F3.F.binds (ps:=["_law_rows"]) fun _ _ _ _ _ _ us hl=>by obtain⟨_,rfl⟩:=rJ hl; rfl
 have b4:=F4.F.binds (ps:=["_law_rows","_law_at","_law_place","_law_more"]) fun _ _ _ _ _ _ us hl=>by obtain⟨_,_,_,_,rfl⟩:=U3 hl; rfl
 have b5:=F5.F.binds (ps:=["_law_cells","_law_strings","_law_spread"]) fun _ _ _ _ _ _ us hl=>by obtain⟨_,_,_,rfl⟩:=MO hl; rfl
 have b6:=F6.F.binds (ps:=["_law_rows"]) fun _ _ _ _ _ _ us hl=>by obtain⟨_,rfl⟩:=rJ hl; rfl
 have b7:=F7.F.binds (ps:=["_law_rows","_law_pair","_law_strings","_law_cells"]) fun _ _ _ _ _ _ us hl=>by obtain⟨_,_,_,_,rfl⟩:=U3 hl; rfl
 have b8:=F8.F.binds (ps:=["rows"]) fun _ _ _ _ _ _ us hl=>by obtain⟨_,rfl⟩:=rJ hl; rfl
 have b9:=F9.F.binds (ps:=["drawing","name"]) fun _ _ _ _ _ _ us hl=>by obtain⟨_,_,rfl⟩:=xP hl; rfl
 have b10:=WI.F.binds (ps:=["drawing"]) fun _ _ _ _ _ _ us hl=>by obtain⟨_,rfl⟩:=rJ hl; rfl
 have b11:=Ue.F.binds (ps:=["far"]) fun _ _ _ _ _ _ us hl=>by obtain⟨_,rfl⟩:=rJ hl; rfl
 have b12:=Ud.F.binds (ps:=["threads"]) fun _ _ _ _ _ _ us hl=>by obtain⟨_,rfl⟩:=rJ hl; rfl
 have b13:=WH.F.binds (ps:=["drawing"]) fun _ _ _ _ _ _ us hl=>by obtain⟨_,rfl⟩:=rJ hl; rfl
 have Y4:=RF.F.binds (ps:=["sums"]) fun _ _ _ _ _ _ us hl=>by obtain⟨_,rfl⟩:=rJ hl; rfl
 have b15:=Uc.F.binds (ps:=["one","other"]) fun _ _ _ _ _ _ us hl=>by obtain⟨_,_,rfl⟩:=xP hl; rfl
 have b16:=Ub.F.binds (ps:=["one","count"]) fun _ _ _ _ _ _ us hl=>by obtain⟨_,_,rfl⟩:=xP hl; rfl
 have b17:=WG.F.binds (ps:=["plan","pairs"]) fun _ _ _ _ _ _ us hl=>by obtain⟨_,_,rfl⟩:=xP hl; rfl
 have b18:=WE.F.binds (ps:=["name","split"]) fun _ _ _ _ _ _ us hl=>by obtain⟨_,_,rfl⟩:=xP hl; rfl
 have b19:=WD.F.binds (ps:=["one","by","factor"]) fun _ _ _ _ _ _ us hl=>by obtain⟨_,_,_,rfl⟩:=MO hl; rfl
 have b20:=WC.F.binds (ps:=["hand","split"]) fun _ _ _ _ _ _ us hl=>by obtain⟨_,_,rfl⟩:=xP hl; rfl
 have b21:=WB.F.binds (ps:=["one","other"]) fun _ _ _ _ _ _ us hl=>by obtain⟨_,_,rfl⟩:=xP hl; rfl
 have b22:=WA.F.binds (ps:=["sums","name","hand"]) fun _ _ _ _ _ _ us hl=>by obtain⟨_,_,_,rfl⟩:=MO hl; rfl
 have b23:=Wz.F.binds (ps:=["drawing","names"]) fun _ _ _ _ _ _ us hl=>by obtain⟨_,_,rfl⟩:=xP hl; rfl
 have b24:=Ua.F.binds (ps:=["drawing"]) fun _ _ _ _ _ _ us hl=>by obtain⟨_,rfl⟩:=rJ hl; rfl
 have b25:=Wy.F.binds (ps:=["drawing"]) fun _ _ _ _ _ _ us hl=>by obtain⟨_,rfl⟩:=rJ hl; rfl
 have b26:=Wx.F.binds (ps:=["_law_found"]) fun _ _ _ _ _ _ us hl=>by obtain⟨_,rfl⟩:=rJ hl; rfl
 have b27:=Ww.F.binds (ps:=["_law_found"]) fun _ _ _ _ _ _ us hl=>by obtain⟨_,rfl⟩:=rJ hl; rfl
 have b28:=Wv.F.binds (ps:=["drawing"]) fun _ _ _ _ _ _ us hl=>by obtain⟨_,rfl⟩:=rJ hl; rfl
 have jP:=c8 X G Uj;have Be:=c8 X G RH;have iO:=c8 X G OY;have uS:=c8 X G Uh;have k7:=c8 X G Lx;have xB:=c8 X G OX;have no_dict:=c8 X G RI;have Bf:=c8 X G RJ;have Fy:=c8 X G Uk;have fP:=c8 X G AO;have Fx:=c8 X G Ui;obtain⟨Fa,Fl⟩:=F29;obtain⟨oc,od,kV,doc,pm,an,nI,ct,Mr,rfl,lk,Iw⟩:=Fl.ex;refine⟨jA "law" "law" (mr (top 40)) (jx (top 40)) (bg (top 40)) .none kV doc pm an nI ct,fun s v=>.of_eq rfl,fun base _ _=>?_⟩;have ok0:=x5 (P:=l.prog) (w:=w) (mg:=mg) (base:=base) F0.F jP;have UP:=DS (P:=l.prog) (w:=w) (mg:=mg) (base:=base) F1.F;have PN:=DQ (P:=l.prog) (w:=w) (mg:=mg) (base:=base) F2.F;have TQ:=DT (P:=l.prog) (w:=w) (mg:=mg) (base:=base) F3.F Be;have ZE:=Ge (P:=l.prog) (w:=w) (mg:=mg) (base:=base) F4.F jP ⟨TQ,F3.mg X G,F3.F.kp,b3⟩;have ok5:=x4 (P:=l.prog) (w:=w) (mg:=mg) (base:=base) F5.F iO ⟨UP,F1.mg X G,F1.F.kp,b1⟩ ⟨PN,F2.mg X G,F2.F.kp,b2⟩ ⟨ZE,F4.mg X G,F4.F.kp,b4⟩;have ok6:=By (P:=l.prog) (w:=w) (mg:=mg) (base:=base) F6.F;have ok7:=DR (P:=l.prog) (w:=w) (mg:=mg) (base:=base) F7.F jP ⟨PN,F2.mg X G,F2.F.kp,b2⟩ ⟨ZE,F4.mg X G,F4.F.kp,b4⟩;have ZD:=x3 (P:=l.prog) (w:=w) (mg:=mg) (base:=base) F8.F;have ZC:=Gf (P:=l.prog) (w:=w) (mg:=mg) (base:=base) F9.F ⟨ZD,F8.mg X G,F8.F.kp,b8⟩;have Xp:=Gd (P:=l.prog) (w:=w) (mg:=mg) (base:=base) WI.F uS;have UO:=Gb (P:=l.prog) (w:=w) (mg:=mg) (base:=base) Ue.F k7 xB;have UN:=DU (P:=l.prog) (w:=w) (mg:=mg) (base:=base) Ud.F;have Xo:=zb (P:=l.prog) (w:=w) (mg:=mg) (base:=base) WH.F ⟨Xp,WI.mg X G,WI.F.kp,b10⟩ ⟨UO,Ue.mg X G,Ue.F.kp,b11⟩ ⟨UN,Ud.mg X G,Ud.F.kp,b12⟩;have SF:=rL (P:=l.prog) (w:=w) (mg:=mg) (base:=base) RF.F;have UM:=NG (P:=l.prog) (w:=w) (mg:=mg) (base:=base) Uc.F ⟨SF,RF.mg X G,RF.F.kp,Y4⟩;have UL:=Ki (P:=l.prog) (w:=w) (mg:=mg) (base:=base) Ub.F iO ⟨UM,Uc.mg X G,Uc.F.kp,b15⟩;have Xn:=x6 (P:=l.prog) (w:=w) (mg:=mg) (base:=base) WG.F ⟨UN,Ud.mg X G,Ud.F.kp,b12⟩ ⟨UO,Ue.mg X G,Ue.F.kp,b11⟩;have Xm:=Kk (P:=l.prog) (w:=w) (mg:=mg) (base:=base) WE.F (jH X G yi);have Xl:=Ga (P:=l.prog) (w:=w) (mg:=mg) (base:=base) WD.F ⟨SF,RF.mg X G,RF.F.kp,Y4⟩;have Xk:=DN (P:=l.prog) (w:=w) (mg:=mg) (base:=base) WC.F (jH X G yi);have Xj:=NH (P:=l.prog) (w:=w) (mg:=mg) (base:=base) WB.F no_dict ⟨SF,RF.mg X G,RF.F.kp,Y4⟩;have Xi:=Bw (P:=l.prog) (w:=w) (mg:=mg) (base:=base) WA.F no_dict (jH X G GD) (jH X G yi) (jH X G IA) qw qx ⟨Xn,WG.mg X G,WG.F.kp,b17⟩ ⟨Xm,WE.mg X G,WE.F.kp,b18⟩ ⟨Xl,WD.mg X G,WD.F.kp,b19⟩ ⟨Xk,WC.mg X G,WC.F.kp,b20⟩ ⟨UM,Uc.mg X G,Uc.F.kp,b15⟩ ⟨UL,Ub.mg X G,Ub.F.kp,b16⟩ ⟨Xj,WB.mg X G,WB.F.kp,b21⟩;have Xh:=Kj (P:=l.prog) (w:=w) (mg:=mg) (base:=base) Wz.F no_dict jP uS (jH X G IA) qw qx ⟨ZC,F9.mg X G,F9.F.kp,b9⟩ ⟨Xo,WH.mg X G,WH.F.kp,b13⟩ ⟨UL,Ub.mg X G,Ub.F.kp,b16⟩ ⟨Xi,WA.mg X G,WA.F.kp,b22⟩;have UK:=DO (P:=l.prog) (w:=w) (mg:=mg) (base:=base) Ua.F k7 ⟨ZD,F8.mg X G,F8.F.kp,b8⟩;have Xg:=Gg (P:=l.prog) (w:=w) (mg:=mg) (base:=base) Wy.F ⟨Xh,Wz.mg X G,Wz.F.kp,b23⟩ ⟨UK,Ua.mg X G,Ua.F.kp,b24⟩;have Xf:=Bx (P:=l.prog) (w:=w) (mg:=mg) (base:=base) Wx.F Bf Fy fP;have Xe:=DP (P:=l.prog) (w:=w) (mg:=mg) (base:=base) Ww.F no_dict fP ⟨Xf,Wx.mg X G,Wx.F.kp,b26⟩;have Xd:=Kh (P:=l.prog) (w:=w) (mg:=mg) (base:=base) Wv.F Fx ⟨UK,Ua.mg X G,Ua.F.kp,b24⟩ ⟨ZC,F9.mg X G,F9.F.kp,b9⟩;exact Td Fl iO ⟨ok0,F0.mg X G,F0.F.kp,b0⟩ ⟨ok5,F5.mg X G,F5.F.kp,b5⟩ ⟨UP,F1.mg X G,F1.F.kp,b1⟩ ⟨PN,F2.mg X G,F2.F.kp,b2⟩ ⟨ok6,F6.mg X G,F6.F.kp,b6⟩ ⟨ok7,F7.mg X G,F7.F.kp,b7⟩ ⟨TQ,F3.mg X G,F3.F.kp,b3⟩ ⟨Xg,Wy.mg X G,Wy.F.kp,b25⟩ ⟨Xe,Ww.mg X G,Ww.F.kp,b27⟩ ⟨Xd,Wv.mg X G,Wv.F.kp,b28⟩
section
open PySem.W PySem.Calls
noncomputable def hC (n:Str) (t:Nat) (l:List Value):Obj:=⟨.type "code",none,.fields (.str n t :: .str n (t+1) :: .str "/claim/cut.py" (t+2) :: l).toArray,#[]⟩
noncomputable def hI(n:Int):Value:=.int n 0
noncomputable def hR(n:Nat):Value:=.ref n
noncomputable def hN:Value:=.none
noncomputable def hT:Value:=.bool true
noncomputable def hS (n:Nat):Value:=.str "/claim/cut.py" n
noncomputable def hD(n:Str)(t:Nat)(l a:Int)(r:Nat)(x y z:Value)(u:Nat):Obj:=hC n t [hI l,hI a,hI 0,hI 0,hI 3,hR r,hT,hI 181,hR (r+1),hN,x,y,z,hI (u - 1),hI l,hS u]
noncomputable abbrev hF (i:Nat) (n:Str) (m c:Value):Obj:=⟨.type "function",none,.func (jA n n (mr (top i)) (jx (top i)) (bg (top i)) .none .none .none m none c .none),#[]⟩
noncomputable abbrev hE(P:Params)(s:Str)(t:Nat)(v:Value):eX:=⟨PyData.keyHash P s,.str s t,v⟩
noncomputable def hQ:bJ:=PySem.W.view PySem.Challenge.pw_knotwise_k46_lays_keep [1,2,4,5,6,7,9,10,11,12,13,14,16,17,18,19,20,21,22,23,24,25,26,28,30,31,32,33,34,35,36,37,38,39,40]
noncomputable def hK (P:Params):ai:=(nat_lit 3,⟨(.type "dict"),none,(.dict #[hE P "__name__" 165 (.str "law_knotwise_k46_lays_keep" 424),hE P "__doc__" 166 .none,hE P "__package__" 167 .none,hE P "__loader__" 168 (.builtin "__main__.__loader__#opaque"),hE P "__spec__" 169 .none,hE P "__annotations__" 170 (.ref 6),hE P "__builtins__" 171 (.ref 4),hE P "__file__" 173 (.str "/claim/cut.py" 172),hE P "__cached__" 174 .none,hE P "KnotError" 206 (.ref 24),hE P "NoName" 222 (.ref 37),hE P "passings_of" 233 (.ref 46),hE P "names_of" 239 (.ref 51),hE P "hand_of" 248 (.ref 58),hE P "next_of" 259 (.ref 65),hE P "LOOP" 271 (.ref 66),hE P "without_noughts" 281 (.ref 73),hE P "added" 292 (.ref 80),hE P "times" 306 (.ref 87),hE P "shifted" 318 (.ref 94),hE P "raised" 328 (.ref 101),hE P "ALONG" 332 (.int 0 331),hE P "AGAINST" 334 (.int 1 333),hE P "joints" 342 (.ref 108),hE P "power_at" 350 (.ref 115),hE P "plan_of" 356 (.ref 120),hE P "whole_plan" 362 (.ref 125),hE P "far_ends" 372 (.ref 132),hE P "joined_plan" 386 (.ref 139),hE P "opened_at" 402 (.ref 146),hE P "opened" 408 (.ref 151),hE P "bracket" 415 (.ref 158),hE P "writhe" 423 (.ref 163),hE P "_law_cell_at" 433 (.ref 170),hE P "_law_whole" 440 (.ref 177),hE P "_law_pick" 449 (.ref 184),hE P "_law_poly" 457 (.ref 191),hE P "_law_copy" 463 (.ref 196),hE P "_law_free" 471 (.ref 203),hE P "_law_put" 482 (.ref 210),hE P "_law_drawing" 488 (.ref 215),hE P "_law_names" 498 (.ref 222),hE P "_law_laid" 516 (.ref 229),hE P "law" 522 (.ref 234)] 44),#[]⟩) ::
(nat_lit 45,hD "passings_of" 225 7 1 40 (hR 42) (hR 43) (hR 44) 232) ::
(nat_lit 46,hF 4 "passings_of" (.str "knotwise.drawings" 223) (.ref 45)) ::
(nat_lit 50,hD "names_of" 234 12 1 47 hN hN (hR 49) 238) ::
(nat_lit 51,hF 5 "names_of" (.str "knotwise.drawings" 223) (.ref 50)) ::
(nat_lit 57,hD "hand_of" 240 14 2 52 (hR 54) (hR 55) (hR 56) 247) ::
(nat_lit 58,hF 6 "hand_of" (.str "knotwise.drawings" 223) (.ref 57)) ::
(nat_lit 64,hD "next_of" 249 19 1 59 (hR 61) (hR 62) (hR 63) 258) ::
(nat_lit 65,hF 7 "next_of" (.str "knotwise.drawings" 223) (.ref 64)) ::
(nat_lit 66,⟨(.type "dict"),none,(.dict #[⟨2,(.int 2 262),(.int (-1) 264)⟩,⟨(-2),(.int (-2) 266),(.int (-1) 268)⟩] 2),#[]⟩) ::
(nat_lit 72,hD "without_noughts" 272 27 1 67 (hR 69) (hR 70) (hR 71) 280) ::
(nat_lit 73,hF 10 "without_noughts" (.str "knotwise.polys" 260) (.ref 72)) ::
(nat_lit 79,hD "added" 282 33 2 74 (hR 76) (hR 77) (hR 78) 291) ::
(nat_lit 80,hF 11 "added" (.str "knotwise.polys" 260) (.ref 79)) ::
(nat_lit 86,hD "times" 293 38 2 81 (hR 83) (hR 84) (hR 85) 305) ::
(nat_lit 87,hF 12 "times" (.str "knotwise.polys" 260) (.ref 86)) ::
(nat_lit 93,hD "shifted" 307 45 3 88 (hR 90) (hR 91) (hR 92) 317) ::
(nat_lit 94,hF 13 "shifted" (.str "knotwise.polys" 260) (.ref 93)) ::
(nat_lit 100,hD "raised" 319 50 2 95 (hR 97) (hR 98) (hR 99) 327) ::
(nat_lit 101,hF 14 "raised" (.str "knotwise.polys" 260) (.ref 100)) ::
(nat_lit 107,hD "joints" 335 58 2 102 (hR 104) (hR 105) (hR 106) 341) ::
(nat_lit 108,hF 18 "joints" (.str "knotwise.brackets" 329) (.ref 107)) ::
(nat_lit 114,hD "power_at" 343 62 2 109 (hR 111) (hR 112) (hR 113) 349) ::
(nat_lit 115,hF 19 "power_at" (.str "knotwise.brackets" 329) (.ref 114)) ::
(nat_lit 119,hD "plan_of" 351 64 1 116 hN hN (hR 118) 355) ::
(nat_lit 120,hF 20 "plan_of" (.str "knotwise.brackets" 329) (.ref 119)) ::
(nat_lit 124,hD "whole_plan" 357 66 1 121 hN hN (hR 123) 361) ::
(nat_lit 125,hF 21 "whole_plan" (.str "knotwise.brackets" 329) (.ref 124)) ::
(nat_lit 131,hD "far_ends" 363 69 1 126 (hR 128) (hR 129) (hR 130) 371) ::
(nat_lit 132,hF 22 "far_ends" (.str "knotwise.brackets" 329) (.ref 131)) ::
(nat_lit 138,hD "joined_plan" 373 75 2 133 (hR 135) (hR 136) (hR 137) 385) ::
(nat_lit 139,hF 23 "joined_plan" (.str "knotwise.brackets" 329) (.ref 138)) ::
(nat_lit 145,hD "opened_at" 387 87 3 140 (hR 142) (hR 143) (hR 144) 401) ::
(nat_lit 146,hF 24 "opened_at" (.str "knotwise.brackets" 329) (.ref 145)) ::
(nat_lit 150,hD "opened" 403 99 2 147 hN hN (hR 149) 407) ::
(nat_lit 151,hF 25 "opened" (.str "knotwise.brackets" 329) (.ref 150)) ::
(nat_lit 157,hD "bracket" 409 106 1 152 (hR 154) (hR 155) (hR 156) 414) ::
(nat_lit 158,hF 26 "bracket" (.str "knotwise.brackets" 329) (.ref 157)) ::
(nat_lit 162,hD "writhe" 418 109 1 159 hN hN (hR 161) 422) ::
(nat_lit 163,hF 28 "writhe" (.str "knotwise.marks" 416) (.ref 162)) ::
(nat_lit 169,hD "_law_cell_at" 426 112 2 164 (hR 166) (hR 167) (hR 168) 432) ::
(nat_lit 170,hF 30 "_law_cell_at" (.str "law_knotwise_k46_lays_keep" 424) (.ref 169)) ::
(nat_lit 176,hD "_law_whole" 434 116 1 171 (hR 173) (hR 174) (hR 175) 439) ::
(nat_lit 177,hF 31 "_law_whole" (.str "law_knotwise_k46_lays_keep" 424) (.ref 176)) ::
(nat_lit 183,hD "_law_pick" 441 118 3 178 (hR 180) (hR 181) (hR 182) 448) ::
(nat_lit 184,hF 32 "_law_pick" (.str "law_knotwise_k46_lays_keep" 424) (.ref 183)) ::
(nat_lit 190,hD "_law_poly" 450 120 1 185 (hR 187) (hR 188) (hR 189) 456) ::
(nat_lit 191,hF 33 "_law_poly" (.str "law_knotwise_k46_lays_keep" 424) (.ref 190)) ::
(nat_lit 195,hD "_law_copy" 458 127 1 192 hN hN (hR 194) 462) ::
(nat_lit 196,hF 34 "_law_copy" (.str "law_knotwise_k46_lays_keep" 424) (.ref 195)) ::
(nat_lit 202,hD "_law_free" 464 129 2 197 (hR 199) (hR 200) (hR 201) 470) ::
(nat_lit 203,hF 35 "_law_free" (.str "law_knotwise_k46_lays_keep" 424) (.ref 202)) ::
(nat_lit 209,hD "_law_put" 472 133 4 204 (hR 206) (hR 207) (hR 208) 481) ::
(nat_lit 210,hF 36 "_law_put" (.str "law_knotwise_k46_lays_keep" 424) (.ref 209)) ::
(nat_lit 214,hD "_law_drawing" 483 138 3 211 hN hN (hR 213) 487) ::
(nat_lit 215,hF 37 "_law_drawing" (.str "law_knotwise_k46_lays_keep" 424) (.ref 214)) ::
(nat_lit 221,hD "_law_names" 489 150 1 216 (hR 218) (hR 219) (hR 220) 497) ::
(nat_lit 222,hF 38 "_law_names" (.str "law_knotwise_k46_lays_keep" 424) (.ref 221)) ::
(nat_lit 228,hD "_law_laid" 499 157 4 223 (hR 225) (hR 226) (hR 227) 515) ::
(nat_lit 229,hF 39 "_law_laid" (.str "law_knotwise_k46_lays_keep" 424) (.ref 228)) ::
(nat_lit 233,hD "law" 517 171 1 230 hN hN (hR 232) 521) ::
(nat_lit 234,hF 40 "law" (.str "law_knotwise_k46_lays_keep" 424) (.ref 233)) :: []
noncomputable def hA:List Addr:=[3,45,46,50,51,57,58,64,65,66,72,73,79,80,86,87,93,94,100,101,107,108,114,115,119,120,124,125,131,132,138,139,145,146,150,151,157,158,162,163,169,170,176,177,183,184,190,191,195,196,202,203,209,210,214,215,221,222,228,229,233,234]
noncomputable def hL:List Str:=["LOOP"]
noncomputable abbrev Nx(w:World):Prop:=∀ os:OsState,(topFrom treeTable (PySem.Challenge.rw_knotwise_k46_lays_keep).row.prog w 3010 ⟨Lo w.params,Jg [],ER,Ln,os⟩).map (fun s=>(openSeen hQ hL (wM (PySem.Challenge.rw_knotwise_k46_lays_keep).row.prog.main.body) (RK PySem.Challenge.rw_knotwise_k46_lays_keep hQ) true s,hA.map s.heap.get?))=some (openGood hQ hL,(hK w.params).map fun p=>some p.2)
theorem h_f (w:World):Nx (w.withFollow "special-get-raises" false):=fun os=>by kernel_rfl
theorem h_t (w:World):Nx (w.withFollow "special-get-raises" true):=fun os=>by kernel_rfl
theorem S7 (w:World) (os:OsState):(topFrom treeTable (PySem.Challenge.rw_knotwise_k46_lays_keep).row.prog w 3010 ⟨Lo w.params,Jg [],ER,Ln,os⟩).map (fun s=>(openSeen hQ hL (wM (PySem.Challenge.rw_knotwise_k46_lays_keep).row.prog.main.body) (RK PySem.Challenge.rw_knotwise_k46_lays_keep hQ) true s,hA.map s.heap.get?))=some (openGood hQ hL,(hK w.params).map fun p=>some p.2):=(byRow2 "special-get-raises" (P:=fun w=>Nx w) h_f h_t) w os
theorem S6:(PySem.Challenge.rw_knotwise_k46_lays_keep).wellSaid=true:=by kernel_rfl
theorem S5:Ho PySem.Challenge.rw_knotwise_k46_lays_keep hQ=true:=by kernel_rfl
end
end Fin
end Internal
open Internal
open PySem PySem.W PyProof.Rows
set_option maxRecDepth 100000 in
set_option maxHeartbeats 0 in
theorem PySem.Challenge.cw_knotwise_k46_lays_keep_holds : PySem.Challenge.rw_knotwise_k46_lays_keep.Holds := by
 w_on
 refine K2.Kc (q:=Fin.hQ) (K:=Fin.hK) (as:=Fin.hA) (N:=3010) Fin.S6 (by kernel_rfl) (by kernel_rfl) (fun _=>by kernel_rfl) (fun _=>by kernel_rfl) Fin.S7 (by rfl) (by rfl) (by rfl) (by rfl) Fin.S5 ⟨rfl,rfl,rfl,rfl,rfl,by decide +kernel⟩ ?hw ?hc
 (case hw=>w_witness2)
 k_fill
 refine K2.MP (l:=PySem.Challenge.rw_knotwise_k46_lays_keep) (k:=7) (x:="_law_script") rfl rfl ⟨rfl,by decide,by decide⟩ (fun w h Y=>Y) ?F
 case F =>
  intro w mg fa h KX G Vi;exact Fin.all_mk KX G Vi K2.fD K2.fD K2.fD K2.fD K2.fD K2.fD K2.fD K2.fD K2.fD K2.fD K2.fD K2.fD K2.fD K2.fD K2.fD K2.fD K2.fD K2.fD K2.fD K2.fD K2.fD K2.fD K2.fD K2.fD K2.fD K2.fD K2.fD K2.fD K2.fD K2.fD
