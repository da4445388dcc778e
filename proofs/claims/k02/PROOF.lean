import PyProof.Rows.All
import Wide.All
import OpenK.AllK
import Wide.FinOn
import Lean
import PyProof.EqAt
import PyProof.EqKinds
import PyProof.TupleCall
import PySem.Challenge.RW_knotwise_k02_rows_checked
open Array renaming getD_eq_getD_getElem? -> aP, getElem?_eq_getElem -> bC, length_toList -> bG, getElem?_toList -> cg, getElem?_eq_none -> fZ, getD -> pP, toList_filterMap -> JV
open Array.Perm renaming refl -> lW
open Bool renaming false_eq_true -> au, and_eq_true -> aG, not_true -> aX, noConfusion -> aY, not_false -> bE, false_ne_true -> eQ, and_eq_true_iff -> jg, not_eq_true' -> lr, or_eq_true -> nI, false_and -> vH, and_false -> vI, false_or -> JU, beq_eq_decide_eq -> Nr
open Classical renaming byContradiction -> cU
open False renaming elim -> bf
open ForInStep renaming yield -> qW
open Int renaming toNat_natCast -> eI, emod_lt_of_pos -> fC, emod_nonneg -> g6, natCast_nonneg -> pC, toNat -> qV
open List renaming getElem?_cons_zero -> aa, getElem?_cons_succ -> af, length_cons -> ah, getElem?_eq_getElem -> ai, length_map -> aj, length_nil -> ar, set_cons_zero -> av, set_cons_succ -> az, length_append -> aB, getD_eq_getElem?_getD -> aH, map_cons -> aI, size_toArray -> aJ, mem_cons_of_mem -> aN, nil_append -> aW, cons_append -> a6, replicate -> bq, map_nil -> br, getElem_mem -> bB, mem_cons_self -> bI, getElem?_append_right -> bK, append_nil -> bL, getElem?_map -> bO, length_singleton -> bV, getElem?_append_left -> cq, mem_of_getElem? -> cz, flatten_cons -> cA, range -> cF, length_drop -> cK, length_set -> cL, append_assoc -> cM, mem_append_right -> cO, drop_eq_getElem_cons -> cX, getElem?_set_self -> cZ, map_append -> dD, length_take -> dG, getElem?_set_ne -> dR, not_mem_nil -> ef, getElem_of_mem -> eB, getElem_map -> eT, length_replicate -> ff, nodup_nil -> fM, map_map -> fN, mem_singleton -> gC, length -> gE, getElem?_of_mem -> gR, length_range -> gU, find?_cons -> gW, lookup -> ic, flatten_append -> ie, singleton_append -> iT, getElem?_eq_none -> iU, lookup_cons -> jH, all_eq_true -> jI, getElem?_replicate -> kz, append_cancel_left -> kA, drop_eq_nil_of_le -> kU, pairwise_map -> lj, nodup_append -> lq, take_append_drop -> lU, any_cons -> mQ, nodup_iff_pairwise_ne -> oS, getElem_range -> o6, pairwise_iff_getElem -> pA, mem_or_eq_of_mem_set -> pB, getElem?_take_of_lt -> qz, filterMap_cons_some -> qA, mem_cons -> rp, foldl_cons -> ug, filterMap_cons -> vW, zip_cons_cons -> ye, take_nil -> yf, drop_nil -> yg, contains_cons -> yh, set_nil -> z8, all_map -> z9, of_mem_zip -> D3, perm_ext_iff_of_nodup -> Ew, pairwise_singleton -> JR, pairwise_mergeSort -> JS, all_cons -> JT, take_of_length_le -> Kr, flatten_singleton -> Ks, find?_cons_of_pos -> Kt, find?_cons_of_neg -> Ku, getElem?_toArray -> Np, mem_append_left -> NR
open List.Pairwise renaming imp_of_mem -> yi
open List.Perm renaming eq_of_pairwise -> B1
open Nat renaming le_refl -> aC, lt_of_lt_of_le -> bw, ne_of_lt -> bA, zero_le -> bY, le_trans -> bZ, not_lt_zero -> cC, lt_irrefl -> eR, succ_le_succ -> jL, le_succ -> jP, succ_pos -> j0, lt_of_le_of_lt -> kE, lt_succ_of_lt -> lD, le_of_ble_eq_true -> lZ, lt_succ_self -> mH, mod_lt -> nH, sub_self -> pz, add_sub_cancel_left -> rJ, lt_of_succ_lt_succ -> sy, le_of_succ_le_succ -> sA, zero_add -> uv, le_of_lt -> B0, succ_add -> NP, lt_trans -> NQ
open Ne renaming symm -> jZ
open Option renaming isSome_map -> kN, bind_some -> yX, map_some -> BZ, map_eq_none_iff -> Ih
open Option.some renaming inj -> bp
open PyProof.Rows renaming callWith_builtin1 -> dF, callWith_type1 -> ib, IntsAre -> kF, boot_isinstance -> kM, envOfC -> sr, toString_length_le -> ue, slot_tuple_getitem -> uf, seqObj -> u6, ofString_length -> vG, AllBare -> wH, oneType' -> JP
open PyProof.Rows.F renaming plain_set_update_loop -> sC, entry_set_update_loop -> NT
open PySem renaming wpAny_bind -> ae, Shared -> ak, wpAny_pure -> aq, FuncData -> aL, mainGlobals -> aO, sizeLine -> aT, starEach -> a9, Program -> bo, sizeLine_eq -> bN, wpAny_loadPart' -> bT, Around -> cx, wpAny_holding -> cE, wpAny_newObj_type -> di, bootBuiltins -> dj, wpAny_Call_Name_kw -> du, compareOp -> dA, wpAny_mono -> eA, wpAny_call_entry -> eG, codeAny_builtin -> fE, sysModules -> fL, wpAny_callSpecial?_slot -> gc, ReadsAll -> gB, binaryOp -> gO, backTo -> gP, SetTable -> gQ, mem_of_lookup -> hW, codeAny_call_builtin -> h8, wpAny_truthy_bool -> ig, wpAny_loadPart_at -> ij, wpAny_typeNameOfWhole_keyiter -> iO, wpAny_passesOwn -> jh, wpAny_execs_nil -> ji, excClassObj -> jk, codeAny_mono -> jl, plainId_quiet -> jG, wpAny_typeNameOf_keyiter -> kL, wpAny_attempt -> lC, DictEntry -> lE, wpAny_setState_of -> mC, wpAny_call -> mD, foldedSetIterable -> mE, codeAny -> mF, wpAny_execs_cons -> nK, wpAny_isSubtype_exc -> pE, swapsWith -> pF, sliceBounds -> pG, richCompare -> pH, argBest -> pJ, tupleKind_room_in1 -> rk, pyNext -> rm, NameKind -> rn, wpAny_setField -> rF, spliced -> rG, wpAny_pyIter_slot -> si, wpAny_pyIter_list -> sk, wpAny_dictEntries -> so, wpAny_standAt -> uk, attributeBase -> um, ExcAttrBase -> ux, rawInt -> u7, richCompare_meets_room -> vC, wpAny_updateSeq -> wz, letOwnedTupleGo -> wB, ExcBaseFacts -> wG, call_meets -> yc, assignEach -> yd, GenState -> yj, wpAny_tryCatch -> yR, wpAny_fieldsOf -> yS, pyIter -> yT, firstArgMember -> yU, wpAny_setEntries_of -> zW, wpAny_letGo -> zX, keywordEach -> zY, wpAny_pyIter_tuple -> B9, tupleKind -> Ca, setField -> Cb, wpAny_truthy_dict -> Ee, relabel -> Ef, plainObj_wpAny_Assign_Attribute -> Eg, isInstance -> Eh, intKind_is -> Ei, holding -> Ej, callerA -> El, wpAny_callSpecialIfBound?_slot -> Gv, call -> Gw, wpAny_isInstance -> H0, wpAny_askSetting -> Ia, checkBuiltinCall -> Ib, wpAny_of_eq -> Ke, wpAny_dictEpoch -> Kf, valueAt -> Kg, noteFrame -> Kh, importedModules -> Kj, codeAny_of_tree -> Kk, assign -> Kl, Within -> Kn, Keyword -> Kv, BindsTo -> Kw, wpAny_seqItems -> NJ, wpAny_loadPart -> NK, isSubtype_type -> NL
open PySem.Around renaming under_plainId -> eM, under -> JW
open PySem.AutoSeq1 renaming sub_tuple_tuple -> oT, sub_list_list -> EC
open PySem.Builtin.Builtins renaming bindParams -> uh
open PySem.Builtin.Dict renaming showsAll -> B2
open PySem.Builtin.Dict_items renaming ownsTuple -> rL
open PySem.Builtin.Int renaming intBits -> EB
open PySem.Builtin.List renaming listTooLong -> i7, listLengthHint -> vY
open PySem.Builtin.Slice renaming slicePlaces -> iJ, sliceAdjust -> l7, sliceApplied -> vX
open PySem.Builtin.Tuple renaming tupleExact -> iW, tupleCompareSizes -> sD
open PySem.Calls renaming spliced_cons -> dS, spliced_nil -> kW, Name_function_global -> D5, call_function_entry -> EA
open PySem.Code renaming quiet_builtin -> o7, isFrame -> Nq
open PySem.EntryCells renaming newEntry -> GC
open PySem.F renaming attrBase_ValueError -> cH, plainAttrs_list -> fF, plain_min_loop -> iI, slot_dict_keyiterator_next -> iV, slot_tuple_lt -> kS, args_tuple_lt_2 -> pO, entry_tuple_lt -> qU, slot_list_lt -> sv, excBase_ValueError -> BY, type_list_insert -> DX, type_list_append -> DY, slot_list_insert -> DZ, slot_list_append -> D0, args_tuple_add_2 -> D1, args_dict_keyiterator_next_1 -> D4, slot_list_index -> Et, entry_tuple_add -> Eu, entry_min_loop -> Ey, entry_dict_keyiterator_next -> Ez, slot_tuple_add -> Gz, args_list_lt_2 -> GA, slot_dict_keyiterator_iter -> GB, slot_set_iter -> Ie, entry_list_lt -> Ig
open PySem.Heap renaming get?_push_of_some -> ax, lt_size -> aK, get?_push_size -> bh, get?_update_other -> cI, get?_update_self -> dE, FlyingW -> fY, size_push -> iy, SameBut -> lV, size_update -> rK, get?_push_ne -> yY, get?_none_of_le -> NS
open PySem.Heap.SameBut renaming update -> fD
open PySem.NameKind renaming free -> jM
open PySem.Obj renaming data_mapFields -> fB, mapSeq -> iD, mapFields -> rH, isFreed_of_fields -> ur, cls_mapFields -> z0
open PySem.Paired renaming length -> jY
open PySem.PassesOwn renaming never -> dM, leaving -> Kq
open PySem.PyData renaming depthAll -> bU, eqv -> sx
open PySem.SeqAt renaming items_eqAt -> lY, any_by_data -> pL, readOf -> yW
open PySem.SetTable renaming below -> BX, fill -> DV
open PySem.Str renaming ofString -> cJ, empty -> Ep
open PySem.Value renaming none -> dn, ref -> dI, int -> pK, builtin -> qT, bool -> uc, type -> yp, str -> Km, isInt -> NM
open PySem.W renaming Frag -> ag, nsIn -> bc, findIn -> bz, kitOne -> cf, mg_none_of -> cm, kia_one -> dU, mroIn -> e7, mg_of -> gh, kas_rev -> gu, keepIn -> gv, specialIn -> gI, fnOf -> iH, kas_place -> jj, hideAll -> jO, kas_desc -> ky, hasDictIn -> kD, takesIn -> mG, callWith_K -> nG, kas_asc -> pI, excIn -> pM, clsIn -> pN, looks_findIn -> su, InstAt -> ud, looks_clsIn -> uo, hideAll_get -> uq, tail_of_in -> vD, of_hideAll -> vE, isNs_of_in -> vF, kas_descPart -> wC, methodObj -> wF, handedIn -> yq, any_some -> yr, findIn -> yV, OpenLaw -> zZ, tailIn -> Cc, notCls -> Cd, codeIn -> Ce, Looks -> Es, funFrames_hide -> Gx, cellsFrom_some -> Gy, hideAll_none -> JQ, kas_tail3 -> Ki, looks_mroIn -> Ko, set_plain -> NN, kitx_none -> NO
open PySem.W.KasT renaming ret -> uw
open PySem.W.Looks renaming here -> DW
open Sum renaming inr -> Em, inl -> Eo
open True renaming intro -> a8
set_option Elab.async false
set_option linter.all false
set_option maxRecDepth 100000
set_option maxHeartbeats 4000000
set_option genSizeOf false
set_option genInjectivity false
set_option compiler.extract_closed false
namespace Internal
theorem Ab(h:0=0:=by exact K2.RX):0=0:=h
theorem Ac(h:0=0:=by kernel_rfl):0=0:=h
theorem Ad(h:0=0:=by decide):0=0:=h
theorem Ae(h:0=0:=by first | rfl | decide):0=0:=h
theorem Af(h:0=0:=by first | k_is | rfl):0=0:=h
theorem Ai(h:0=0:=by intro _; rfl):0=0:=h
theorem Ak(h:0=0:=by decide +kernel):0=0:=h
theorem Al(h:0=0:=by intro _ _ _ _ h; repeat (first | (cases h.1; rfl) | (cases h <;> rename_i h))):0=0:=h
theorem Ao(h:0=0:=by first | exact .inl rfl | exact .inr rfl | exact .inr (.inl rfl) | exact .inr (.inr rfl) | assumption):0=0:=h
theorem Aq(h:0=0:=by k_is):0=0:=h
theorem Ar(h:0=0:=by rfl):0=0:=h
theorem Aw(h:0=0:=by with_unfolding_all rfl):0=0:=h
theorem Az(h:0=0:=by first | k_is | kit_is):0=0:=h
namespace L2
open PySem PySem.Spec PyProof.Rows
noncomputable abbrev Key:=Sum Int Str
noncomputable def zu:Key->Value->Bool
 | .inl k,v=>NM k v
 | .inr x,v=>Value.isStrOf x v
noncomputable def W7(w:World):Key->Int
 | .inl k=>hashInt k
 | .inr x=>hashStr w x
theorem ft:∀ {k:Key} {v:Value},zu k v=true->(∃ i t,k=Eo i/\v=pK i t)\/(∃ x t,k=Em x/\v=Km x t)
 | .inl i,v,h=>by
  obtain⟨t,e⟩:=Value.isInt_shape (k:=i) (v:=v) h;exact .inl ⟨i,t,rfl,e⟩
 | .inr x,v,h=>by
  obtain⟨t,e⟩:=Value.isStrOf_shape (x:=x) (v:=v) h;exact .inr ⟨x,t,rfl,e⟩
theorem Jl(i:Int)(t:Tok):zu (.inl i) (.int i t)=true:=by simp [zu,NM]
theorem Jk(x:Str)(t:Tok):zu (.inr x) (.str x t)=true:=by simp [zu,Value.isStrOf]
theorem LQ(a b:Int):decide ((Eo a:Key)=Eo b)=(a == b):=by
 by_cases e:a=b
 ·subst e; simp
 ·have h:¬ (Eo a:Key)=Eo b:=fun q=>e (Sum.inl.inj q);rw [decide_eq_false h];exact(beq_eq_false_iff_ne.mpr e).symm
theorem LP(a b:Str):decide ((Em a:Key)=Em b)=decide (a=b):=by
 by_cases e:a=b
 ·subst e; simp
 ·have h:¬ (Em a:Key)=Em b:=fun q=>e (Sum.inr.inj q);rw [decide_eq_false h,decide_eq_false e]
theorem Rj(a:Int)(b:Str):decide ((Eo a:Key)=Em b)=false:=decide_eq_false (fun q=>nomatch q)
theorem Ri(a:Str)(b:Int):decide ((Em a:Key)=Eo b)=false:=decide_eq_false (fun q=>nomatch q)
noncomputable def fK(prog:bo)(w:World):PySem.KeyKind prog w Key where
 is:=zu
 hash:=W7 w
 inj:=fun v a b ha hb=>by
  rcases ft ha with ⟨i,t,rfl,rfl⟩ | ⟨x,t,rfl,rfl⟩
  ·rcases ft hb with ⟨j,u,rfl,e⟩ | ⟨y,u,rfl,e⟩
   ·injection e with e1 _; rw [e1]
   ·exact nomatch e
  ·rcases ft hb with ⟨j,u,rfl,e⟩ | ⟨y,u,rfl,e⟩
   ·exact nomatch e
   ·injection e with e1 _; rw [e1]
 byValue:=fun k v h=>by
  rcases ft h with ⟨i,t,rfl,rfl⟩ | ⟨x,t,rfl,rfl⟩ <;> rfl
 pyHash:=fun hv h=>by
  rcases ft hv with ⟨i,t,rfl,rfl⟩ | ⟨x,t,rfl,rfl⟩
  ·exact wpAny_pyHash_int h
  ·exact wpAny_pyHash_str h
 eqBool:=fun hu hv h=>by
  rcases ft hu with ⟨i,t,rfl,rfl⟩ | ⟨x,t,rfl,rfl⟩
  ·rcases ft hv with ⟨j,u,rfl,rfl⟩ | ⟨y,u,rfl,rfl⟩
   ·rw [LQ] at h; exact wpAny_eqBool_int h
   ·rw [Rj] at h; exact SeqAt.EqAt.int_str i t y u _ _ _ _ h
  ·rcases ft hv with ⟨j,u,rfl,rfl⟩ | ⟨y,u,rfl,rfl⟩
   ·rw [Ri] at h; exact SeqAt.EqAt.str_int x t j u _ _ _ _ h
   ·rw [LP] at h; exact wpAny_eqBool_str h
 «strs»:=fun k x t v h=>by
  rcases ft h with ⟨i,u,rfl,e⟩ | ⟨y,u,rfl,e⟩
  ·exact nomatch e
  ·injection e with e1 _
   subst e1;cases v <;> rfl
theorem CP(prog:bo)(w:World)(i:Int)(t:Tok):(fK prog w).is (.inl i) (.int i t)=true:=Jl i t
theorem CO(prog:bo)(w:World)(x:Str)(t:Tok):(fK prog w).is (.inr x) (.str x t)=true:=Jk x t
inductive V where
 | cy | bl (b:Bool) | int (i:Int) | str (x:Str) | Qf (b:Array UInt8) | Bw (b:UInt64) | ref (a:Addr) | ty (n:String)
noncomputable def RelV:V->Value->Prop
 | .cy,u=>u=dn
 | .bl b,u=>u=uc b
 | .int i,u=>∃ t,u=pK i t
 | .str x,u=>∃ t,u=Km x t
 | .Qf b,u=>∃ t,u=Value.bytes b t
 | .Bw b,u=>∃ t,u=Value.float b t
 | .ref a,u=>u=dI a
 | .ty n,u=>u=yp n
noncomputable abbrev Vals:List V->List Value->Prop:=Paired RelV
theorem Vals.length{xs:List V}{us:List Value}(r:Vals xs us):xs.length=us.length:=jY r
theorem Vals.get:∀ {xs:List V} {us:List Value} {i:Nat} {x:V},Vals xs us->xs[i]?=some x->∃ u,us[i]?=some u/\RelV x u:=by
 intro xs us i x h;induction h generalizing i with
 | nil=>intro e; cases e
 | cons r t ih =>
  intro e;cases i with
  | zero=>cases e; exact⟨_,rfl,r⟩
  | succ i=>exact ih e
theorem Vals.set{x:V}{u:Value}(r:RelV x u):∀ {xs:List V} {us:List Value} (i:Nat),Vals xs us->Vals (xs.set i x) (us.set i u):=by
 intro xs us i h;induction h generalizing i with
 | nil=>rw [z8,z8]; exact .nil
 | cons q t ih =>
  cases i with
  | zero=>exact .cons r t
  | succ i=>exact .cons q (ih i)
theorem Vals.append:∀ {xs ys:List V} {us ws:List Value},Vals xs us->Vals ys ws->Vals (xs++ys) (us++ws):=by
 intro xs ys us ws h s;induction h with
 | nil=>exact s
 | cons r t ih=>exact .cons r ih
theorem Vals.take:∀ {xs:List V} {us:List Value} (n:Nat),Vals xs us->Vals (xs.take n) (us.take n):=by
 intro xs us n h;induction h generalizing n with
 | nil=>rw [yf,yf]; exact .nil
 | cons r t ih =>
  cases n with
  | zero=>exact .nil
  | succ n=>exact .cons r (ih n)
theorem Vals.drop:∀ {xs:List V} {us:List Value} (n:Nat),Vals xs us->Vals (xs.drop n) (us.drop n):=by
 intro xs us n h;induction h generalizing n with
 | nil=>rw [yg,yg]; exact .nil
 | cons r t ih =>
  cases n with
  | zero=>exact .cons r t
  | succ n=>exact ih n
noncomputable def t8:Option V->Option Value->Prop
 | some v,some u=>RelV v u
 | none,none=>True
 | _,_=>False
noncomputable def KV{κ:Type}:List (κ×V)->List (κ×Value)->Prop:=Paired fun (p:κ×V) (q:κ×Value)=>p.1=q.1/\RelV p.2 q.2
noncomputable def kV:Key->V
 | .inl i=>.int i
 | .inr x=>.str x
inductive HO where
 | lst (xs:List V)
 | tup (xs:List V)
 | dK (aS:List (Key×V)) | dT (aS:List (List Key×V))
 | set (S:Int->Bool) (n:Nat)
 | ins (C dx:Addr) (fs:List (Str×V))
 | own (x:Addr)
 | xd (fs:List (Str×V))
 | met (f x:Addr)
 | Tn (lo hi:Int)
 | hZ (o:Obj) (u:HO)
 | N5 (q:Str)
 | ext (φ:Heap->Prop)
noncomputable abbrev Hp:=Addr->Option HO
noncomputable def upd(H:Hp)(a:Addr)(o:HO):Hp:=fun b=>if b=a then some o else H b
theorem cj{H:Hp}{a:Addr}{o:HO}:upd H a o a=some o:=by unfold upd; rw [if_pos rfl]
theorem bu{H:Hp}{a b:Addr}{o:HO}(h:b≠a):upd H a o b=H b:=by unfold upd; rw [if_neg h]
theorem TX{H:Hp}{a b:Addr}{o u:HO}(h:H a=some o)(h':H b=some u)(d:o≠u):a≠b:=by
 intro e; subst e; rw [h] at h'; exact d (bp h')
theorem dW{H:Hp}{a b:Addr}{o:HO}(h:H a=some o)(h':H b=none):a≠b:=by
 intro e; subst e; rw [h] at h'; cases h'
section
variable (P:bo) (w:World)
noncomputable def eZ(H:Hp)(h:Heap)(a:Addr):HO->Prop
 | .lst xs=>xs.length<=aT/\∃ (a7:List Value) (n:Nat),Vals xs a7/\h.get? a=some { cls:=.type "list",data:=.seq a7.toArray n }
 | .tup xs=>xs.length<=aT/\∃ a7:List Value,Vals xs a7/\IsTup h a a7.toArray
 | .dK aS=>aS.length<=aT/\(a == fL)=false/\∃ vs,KV aS vs/\h.DictOf (fK P w) a vs
 | .dT aS=>aS.length<=aT/\(a == fL)=false/\∃ xs:List (List Key×Addr×Value),
   Paired (fun (p:List Key×V) (q:List Key×Addr×Value)=>p.1=q.1/\H q.2.1=some (.tup (p.1.map kV))/\RelV p.2 q.2.2) aS xs /\
   ∃ o es ep,h.get? a=some o/\o.ExactDict/\o.data=.dict es ep/\es.toList=xs.map (entryOfKey (Ca (fK P w)))/\(xs.map (·.1)).Nodup
 | .set S n=>h.SetOf (intKind P w) a S n
 | .ins C dx fs=>H dx=some (.own a)/\fs.length<=1000/\dx≠a/\h.get? a=some (PySem.W.instObj C dx) /\
   ∃ mA,h.Ns1 dx mA/\(∀ f,t8 (fs.lookup f) (mA f))/\Kn mA (fs.map (·.1))
 | .own _=>∃ o,h.get? a=some o
 | .xd fs=>∃ mA,h.Ns1 a mA/\∀ f,t8 (fs.lookup f) (mA f)
 | .Tn lo hi=>∃ t u v,h.get? a=some { cls:=.type "range",data:=.fields #[.int lo t,.int hi u,.int 1 v] }
 | .hZ o u=>h.get? a=some o/\eZ H h a u
 | .N5 q=>∃ ps,h.get? a=some { cls:=.none,data:=.fields ps }/\TriplesOk ps.toList/\∀ pos cv,codeAmong pos ps.toList=some cv->∃ c',cv=.ref c'/\H c'=some (.own a)/\h.CodeRec (.ref c') q
 | .met f x=>h.get? a=some (wF (.ref f) (.ref x))
 | .ext φ=>φ h/\(∃ o,h.get? a=some o)/\∀ h1 h2:Heap,φ h1->(∀ o,h1.get? a=some o->h2.get? a=some o)->φ h2
noncomputable def pq(H:Hp)(h:Heap):Prop:=∀ a o,H a=some o->eZ P w H h a o
end
section
variable {P:bo} {w:World} {H H':Hp} {h h':Heap} {a:Addr} {o:HO}
theorem eZ.lt(x:eZ P w H h a o):a < h.objs.size:=by
 cases o with
 | lst xs=>obtain⟨_,_,_,_,e⟩:=x; exact aK e
 | tup xs=>obtain⟨_,_,_,p⟩:=x; exact p.lt
 | dK aS=>obtain⟨_,_,_,_,o,_,_,e,_⟩:=x; exact aK e
 | dT aS=>obtain⟨_,_,_,_,o,_,_,e,_⟩:=x; exact aK e
 | set S n=>obtain⟨o,_,_,_,e,_⟩:=x; exact aK e
 | ins C dx fs=>obtain⟨_,_,_,e,_⟩:=x; exact aK e
 | own y=>obtain⟨_,e⟩:=x; exact aK e
 | xd fs=>obtain⟨_,⟨_,_,_,e,_⟩,_⟩:=x; exact aK e
 | Tn lo hi=>obtain⟨_,_,_,e⟩:=x; exact aK e
 | hZ ob u=>obtain⟨e,_⟩:=x; exact aK e
 | N5 q=>obtain⟨_,e,_⟩:=x; exact aK e
 | met f y=>exact aK (show h.get? a=some _ from x)
 | ext φ=>obtain⟨_,⟨_,e⟩,_⟩:=x; exact aK e
theorem Paired.Q8{α β:Type}{F G:α->β->Prop}:∀ {Ra:List α} {Q9:List β},Paired F Ra Q9->(∀ a b,F a b->G a b)->Paired G Ra Q9:=by
 intro Ra Q9 h f;induction h with
 | nil=>exact .nil
 | cons r t ih=>exact .cons (f _ _ r) ih
theorem eZ.iK(x:eZ P w H h a o)(k:∀ b u,(b=a\/H b=some (.own a))->h.get? b=some u->h'.get? b=some u)
  (ho:∀ b,H b=some (.own a)->H' b=some (.own a)) (ht:∀ b xs,H b=some (.tup xs)->H' b=some (.tup xs)):eZ P w H' h' a o:=by
 induction o with
 | lst xs=>obtain⟨z,a7,n,r,e⟩:=x; exact⟨z,a7,n,r,k _ _ (.inl rfl) e⟩
 | tup xs=>obtain⟨z,a7,r,ob,e,c⟩:=x; exact⟨z,a7,r,ob,k _ _ (.inl rfl) e,c⟩
 | dK aS=>obtain⟨z,y,vs,r,ob,es,ep,e,c⟩:=x; exact⟨z,y,vs,r,ob,es,ep,k _ _ (.inl rfl) e,c⟩
 | dT aS =>
  obtain⟨z,y,xs,r,ob,es,ep,e,c⟩:=x;exact⟨z,y,xs,Paired.Q8 r fun p q z=>⟨z.1,ht _ _ z.2.1,z.2.2⟩,ob,es,ep,k _ _ (.inl rfl) e,c⟩
 | set S n=>obtain⟨ob,es,ep,t,e,c⟩:=x; exact⟨ob,es,ep,t,k _ _ (.inl rfl) e,c⟩
 | ins C dx fs =>
  obtain⟨d,z,ne,e,mA,⟨od,es,ep,e2,c⟩,r⟩:=x;exact⟨ho _ d,z,ne,k _ _ (.inl rfl) e,mA,⟨od,es,ep,k _ _ (.inr d) e2,c⟩,r⟩
 | own y=>obtain⟨ob,e⟩:=x; exact⟨ob,k _ _ (.inl rfl) e⟩
 | xd fs=>obtain⟨mA,⟨od,es,ep,e,c⟩,r⟩:=x; exact⟨mA,⟨od,es,ep,k _ _ (.inl rfl) e,c⟩,r⟩
 | Tn lo hi=>obtain⟨t,u,v,e⟩:=x; exact⟨t,u,v,k _ _ (.inl rfl) e⟩
 | hZ ob u ih=>obtain⟨e,q⟩:=x; exact⟨k _ _ (.inl rfl) e,ih q⟩
 | N5 q =>
  obtain⟨ps,e,t,z⟩:=x;refine⟨ps,k _ _ (.inl rfl) e,t,fun pos cv y=>?_⟩;obtain⟨c',e1,e2,c2,oc,vs,tq,e3,e4,r⟩:=z pos cv y;cases e3;exact⟨c',e1,ho _ e2,c',oc,vs,tq,rfl,k _ _ (.inr e2) e4,r⟩
 | met f y =>
  have e:h.get? a=some (wF (.ref f) (.ref y)):=x;show h'.get? a=some (wF (.ref f) (.ref y));exact k a _ (.inl rfl) e
 | ext φ=>obtain⟨p,⟨o,e⟩,st⟩:=x; exact⟨st _ _ p fun o q=>k _ _ (.inl rfl) q,⟨o,k _ _ (.inl rfl) e⟩,st⟩
theorem pq.lt(x:pq P w H h)(e:H a=some o):a < h.objs.size:=(x a o e).lt
theorem pq.fresh(x:pq P w H h)(e:h.objs.size<=a):H a=none:=by
 cases q:H a with
 | none=>rfl
 | some u=>exact absurd (bw (x.lt q) e) (eR _)
theorem pq.kept(x:pq P w H h)(k:∀ b u,h.get? b=some u->h'.get? b=some u):pq P w H h':=fun a o e =>
 (x a o e).iK (fun b u _ q=>k b u q) (fun _ q=>q) fun _ _ q=>q
theorem pq.laid(x:pq P w H h)(k:∀ b u,h.get? b=some u->h'.get? b=some u)(hp:h.objs.size<=a)(new:eZ P w (upd H a o) h' a o):pq P w (upd H a o) h':=fun b u e=>by
 have hn:=x.fresh hp;by_cases hb:b=a
 ·subst hb; rw [cj] at e; cases e; exact new
 ·rw [bu hb] at e;exact(x b u e).iK (fun c v _ q=>k c v q) (fun c q=>by rw [bu (dW q hn)]; exact q) fun c xs q=>by rw [bu (dW q hn)]; exact q
end
noncomputable def Rd(H:Hp)(a:Addr)(u:HO):Prop:=H a=some u\/∃ o,H a=some (.hZ o u)
theorem Rd.ok{P:bo}{w:World}{H:Hp}{h:Heap}{a:Addr}{u:HO}(r:Rd H a u)(x:pq P w H h):eZ P w H h a u:=by
 rcases r with r | ⟨o,r⟩
 ·exact x a u r
 ·obtain⟨_,q⟩:=x a _ r;exact q
noncomputable def Vi:Option HO->Prop
 | some (.lst _)=>True
 | some (.dK _)=>True
 | some (.dT _)=>True
 | some (.set _ _)=>True
 | some (.ins _ _ _)=>True
 | some (.ext _)=>True
 | _=>False
section
variable {P:bo} {w:World} {H:Hp} {h h':Heap} {x e:Addr} {o':HO}
theorem pq.write(ok:pq P w H h)(mu:Vi (H x))(he:e=x\/H e=some (.own x))(k:∀ b u,b≠e->h.get? b=some u->h'.get? b=some u)(P7:∃ u,h'.get? e=some u)
  (new:eZ P w (upd H x o') h' x o'):pq P w (upd H x o') h':=fun b u q=>by
 have TN:∀ c y,H c=some (.own y)->c≠x:=fun c y r z=>by subst z; rw [r] at mu; exact mu
 have WQ:∀ c xs,H c=some (.tup xs)->c≠x:=fun c xs r z=>by subst z; rw [r] at mu; exact mu
 by_cases hb:b=x
 ·subst hb; rw [cj] at q; cases q; exact new
 ·rw [bu hb] at q;by_cases RI:b=e
  ·have q':H b=some (.own x):=by
    rcases he with z | z
    ·exact absurd (RI.trans z) hb
    ·rw [RI]; exact z
   rw [q] at q'; cases q';obtain⟨v,hv⟩:=P7;exact⟨v,by rw [RI]; exact hv⟩
  ·refine(ok b u q).iK (fun c v hc r=>k c v ?_ r) (fun c r=>by rw [bu (TN c b r)]; exact r) fun c xs r=>by rw [bu (WQ c xs r)]; exact r
   rcases hc with rfl | hc
   ·exact RI
   ·rintro rfl;rcases he with z | z
    ·exact TN c b hc z
    ·rw [hc] at z; cases z; exact hb rfl
end
structure Un(fs ex:List Addr)(H H':Hp)(h h':Heap):Prop where
 keep:∀ b o,h.get? b=some o->H b=none->b∉fs->b∉ex->h'.get? b=some o
 slot:∀ b o,h.get? b=some o->H b=none->b∈fs->b∉ex->∃ sl,h'.get? b=some { o with slots:=sl }
 free:∀ b o,h.get? b=some o->H b=none->b∉ex->H' b=none
 there:∀ b o,h.get? b=some o->b∉ex->∃ o',h'.get? b=some o'
 o8:∀ b xs,H b=some (.tup xs)->H' b=some (.tup xs)
 oz:∀ b o u,H b=some (.hZ o u)->H' b=some (.hZ o u)
 rN:∀ b q,H b=some (.N5 q)->H' b=some (.N5 q)
 rQ:∀ b x,H b=some (.own x)->H' b=some (.own x)
section
variable {fs fs' ex ex':List Addr} {H H1 H2:Hp} {h h1 h2 h':Heap} {a x e:Addr} {o:HO}
theorem Un.any(u:Un fs ex H H1 h h1){b:Addr}{ob:Obj}(q:h.get? b=some ob)(n:H b=none)(hx:b∉ex):∃ sl,h1.get? b=some { ob with slots:=sl }:=by
 by_cases hb:b∈fs
 ·exact u.slot b ob q n hb hx
 ·exact⟨ob.slots,u.keep b ob q n hb hx⟩
theorem Un.kept(k:∀ b u,h.get? b=some u->h'.get? b=some u):Un fs ex H H h h' :=
 ⟨fun b ob q _ _ _=>k b ob q,fun b ob q _ _ _=>⟨ob.slots,k b ob q⟩,fun _ _ _ n _=>n,fun b ob q _=>⟨ob,k b ob q⟩,fun _ _ q=>q,fun _ _ _ q=>q,fun _ _ q=>q,fun _ _ q=>q⟩
theorem Un.refl:Un fs ex H H h h:=Un.kept fun _ _ q=>q
theorem Un.laid(k:∀ b u,h.get? b=some u->h'.get? b=some u)(hp:h.objs.size<=a)(hn:H a=none):Un fs ex H (upd H a o) h h' where
 keep:=fun b u q _ _ _=>k b u q
 slot:=fun b u q _ _ _=>⟨u.slots,k b u q⟩
 free:=fun b u q n _=>by rw [bu (bA (bw (aK q) hp))]; exact n
 there:=fun b u q _=>⟨u,k b u q⟩
 o8:=fun b xs q=>by rw [bu (dW q hn)]; exact q
 oz:=fun b u xs q=>by rw [bu (dW q hn)]; exact q
 rN:=fun b ps q=>by rw [bu (dW q hn)]; exact q
 rQ:=fun b ps q=>by rw [bu (dW q hn)]; exact q
theorem Un.write(mu:Vi (H x))(he:e=x\/H e=some (.own x))(k:∀ b u,b≠e->h.get? b=some u->h'.get? b=some u)(P7:∃ u,h'.get? e=some u):Un fs ex H (upd H x o) h h':=by
 have hx:∀ b,H b=none->b≠x:=fun b n z=>by subst z; rw [n] at mu; exact mu
 have hb:∀ b,H b=none->b≠e:=fun b n z=>by
  subst z;rcases he with r | r
  ·exact hx b n r
  ·rw [n] at r; cases r
 have hm:∀ b u,H b=some u->¬ Vi (some u)->b≠x:=fun b u q nm z=>by subst z; rw [q] at mu; exact nm mu
 refine⟨fun b u q n _ _=>k b u (hb b n) q,fun b u q n _ _=>⟨u.slots,k b u (hb b n) q⟩,fun b u q n _=>by rw [bu (hx b n)]; exact n,fun b u q _=>?_,
  fun b xs q=>by rw [bu (hm b _ q fun z=>z)]; exact q,fun b u xs q=>by rw [bu (hm b _ q fun z=>z)]; exact q,fun b ps q=>by rw [bu (hm b _ q fun z=>z)]; exact q,fun b ps q=>by rw [bu (hm b _ q fun z=>z)]; exact q⟩
 by_cases RI:b=e
 ·subst RI; exact P7
 ·exact⟨u,k b u RI q⟩
end
noncomputable def Vq(h:Heap)(H:Hp):List Addr:=(cF h.objs.size).filter fun a=>(H a).isSome
noncomputable def Bn(h:Heap)(H:Hp):Heap:=jO h (Vq h H)
theorem Jq(h:Heap)(H:Hp):(Bn h H).objs.size=h.objs.size:=PySem.W.hideAll_size _ _
theorem Mi{h:Heap}{H:Hp}{b:Addr}{o:Obj}(e:h.get? b=some o)(n:H b=none):(Bn h H).get? b=some o :=
 uq _ e fun hm=>by
  have q:(H b).isSome=true:=(List.mem_filter.mp hm).2;rw [n] at q; simp at q
theorem OO{h:Heap}{H:Hp}{b:Addr}{o:Obj}(e:(Bn h H).get? b=some o):h.get? b=some o/\H b=none:=by
 have e':h.get? b=some o:=vE (Vq h H) e;refine⟨e',?_⟩;cases q:H b with
 | none=>rfl
 | some x =>
  have hm:b∈Vq h H:=List.mem_filter.mpr ⟨List.mem_range.mpr (aK e'),by simp [q]⟩;have z:(Bn h H).get? b=none:=JQ (Vq h H) hm;rw [z] at e; cases e
noncomputable def oP(g h:Heap)(L:Addr):List (Addr×Obj):=(cF h.objs.size).filterMap fun a=>if a=L\/(g.get? a).isSome=true then none else (h.get? a).map fun o=>(a,o)
theorem mr{g h:Heap}{L a:Addr}{o:Obj}(h1:a≠L)(h2:g.get? a=none)(h3:h.get? a=some o):(a,o)∈oP g h L :=
 List.mem_filterMap.mpr ⟨a,List.mem_range.mpr (aK h3),by simp [h1,h2,h3]⟩
theorem w9{g h:Heap}{L:Addr}{p:Addr×Obj}(hp:p∈oP g h L):p.1≠L/\g.get? p.1=none/\h.get? p.1=some p.2:=by
 obtain⟨b,_,e⟩:=List.mem_filterMap.mp hp;split at e
 ·cases e
 ·rename_i hn;cases q:h.get? b with
  | none=>rw [q] at e; simp at e
  | some u =>
   rw [q] at e;simp only [BZ,Option.some.injEq] at e;subst e;refine⟨fun z=>hn (.inl z),?_,q⟩;show g.get? b=none;cases r:g.get? b with
   | none=>rfl
   | some v=>exact(hn (.inr (by simp [r]))).elim
noncomputable def rest(g h:Heap)(L d:Addr):List (Addr×Obj):=(oP g h L).filter fun p=>decide (p.1≠d)
theorem xg{g h:Heap}{L:Addr}:News g L h (oP g h L):=fun p hp=>let ⟨a,b,c⟩:=w9 hp; ⟨c,a,b⟩
structure Mod(K:ag)(mg:Str->Option Value)(base:Heap):Prop where
 Ji:K.In base
 glob:base.Ns aO mg
 blt:∃ mb,base.Ns builtinsNs mb/\∀ x:Str,x≠"__name__"->mb x=dj x
 nolimit:base.NoLimit
structure Cx where
 prog:bo
 w:World
 K:ag
 mg:Str->Option Value
 base:Heap
 A:cx
 N:List Str
 gS:ak
 JL:Hp
 env:Env
 outer:List Env
 stack:List Env
 ex:List Addr
 fn:Str->Bool
 calm:Bool
 pn:List (Addr×Obj)
 xe:Value->ak->Prop
noncomputable def oA(l:List Env):List Addr:=l.filterMap (·.frame)
noncomputable abbrev Cx.fs(X:Cx):List Addr:=oA X.outer
noncomputable def Vc(sc:Scope)(x:Str):Prop:=sc.names.lookup x=some .local\/sc.names.lookup x=some .cell\/sc.names.lookup x=some .free
noncomputable def Loc(sc:Scope)(x:Str):Prop:=sc.names.lookup x=some .local\/sc.names.lookup x=some .cell
noncomputable def Look(env:Env)(h:Heap)(m:Str->Option Value)(x:Str)(u:Value):Prop :=
 (env.kindOf x=some .local/\m x=some u)\/((env.kindOf x=some .cell\/env.kindOf x=some .free)/\∃ c,env.cells.lookup x=some c/\h.IsCell c (some u))
structure Cx.Ok(X:Cx):Prop where
 mod:Mod X.K X.mg X.base
 kind:X.env.scope.kind=.function
 glob:X.env.globals=aO
 blt:X.env.builtins=builtinsNs
 above:X.gS.heap.objs.size<=X.env.locals
 inj:∀ x y c,X.env.cells.lookup x=some c->X.env.cells.lookup y=some c->x=y
 has:∀ x,(X.env.kindOf x=some .cell\/X.env.kindOf x=some .free)->∃ c,X.env.cells.lookup x=some c
 SG:∀ x c,X.fn x=true->X.env.cells.lookup x=some c->X.gS.heap.objs.size<=c
 hd:X.calm=true->X.A.handled=none
 frames:X.A.frames=some X.stack
 Te:X.stack=X.outer\/(X.stack=X.env :: X.outer/\X.env.frame=some X.env.locals)
 UX:∀ b∈X.ex,b≠X.env.locals/\∀ x c,X.env.cells.lookup x=some c->c≠b
 bs:∀ b o,X.base.get? b=some o->X.gS.heap.get? b=some o/\X.JL b=none
 J9:X.base.objs.size<=X.gS.heap.objs.size
 IY:∀ b o,X.base.get? b=some o->b∉X.ex
 Jz:∀ b∈X.ex,b∉X.fs
 tP:X.gS.heap.FunFrames X.base X.outer
 MC:∀ b∈X.fs,X.JL b=none
structure Inv(X:Cx)(pins:List (Addr×Obj))(σ:List (Option V))(H:Hp)(s:ak):Prop where
 ok:X.Ok
 os:s.os=X.gS.os
 bare:wH s.gens
 base:Un X.fs X.ex X.JL H X.gS.heap s.heap
 loc:∃ m,s.heap.Ns X.env.locals m/\∀ (i:Nat) (x:Str) (v:V),X.N[i]?=some x->σ[i]?=some (some v)->Vc X.env.scope x->∃ u,RelV v u/\Look X.env s.heap m x u
 cell:∀ x c,X.env.cells.lookup x=some c->∃ v,s.heap.IsCell c v
 free:H X.env.locals=none
 iE:∀ x c,X.env.cells.lookup x=some c->H c=none
 pin:∀ p∈X.pn++pins,s.heap.get? p.1=some p.2/\H p.1=none/\p.1≠X.env.locals/\p.1∉X.fs/\∀ v,p.2.data≠.cell v
 ck:pq X.prog X.w H s.heap
 len:σ.length=X.N.length
section
variable {X:Cx} {pins:List (Addr×Obj)} {σ:List (Option V)} {H H':Hp} {s:ak} {h':Heap}
theorem Cx.Ok.WT(ok:X.Ok){b:Addr}{o:Obj}(e:X.base.get? b=some o):b∉X.fs:=fun hb=>by
 have:=(ok.tP.mem hb).1;rw [e] at this; cases this
theorem Inv.bs(I:Inv X pins σ H s):∀ b o,X.base.get? b=some o->s.heap.get? b=some o/\H b=none:=fun b o e =>
 ⟨I.base.keep b o (I.ok.bs b o e).1 (I.ok.bs b o e).2 (I.ok.WT e) (I.ok.IY b o e),I.base.free b o (I.ok.bs b o e).1 (I.ok.bs b o e).2 (I.ok.IY b o e)⟩
theorem Inv.bk(I:Inv X pins σ H s):∀ b o,X.base.get? b=some o->s.heap.get? b=some o:=fun b o e=>(I.bs b o e).1
theorem Inv.mod(I:Inv X pins σ H s):Mod X.K X.mg X.base:=I.ok.mod
theorem Inv.qg(I:Inv X pins σ H s):X.K.In s.heap:=I.ok.mod.Ji.keeps I.bk
theorem Inv.fr(I:Inv X pins σ H s):∃ m,Fr X.base X.env.locals s.heap m :=
 let ⟨m,hn,_⟩:=I.loc
 ⟨m,hn,I.bk,bZ I.ok.J9 I.ok.above⟩
theorem Inv.lt(I:Inv X pins σ H s):X.env.locals < s.heap.objs.size:=let ⟨_,hn,_⟩:=I.loc; hn.lt
theorem Inv.sz(I:Inv X pins σ H s):X.gS.heap.objs.size<=s.heap.objs.size:=bZ I.ok.above (B0 I.lt)
theorem Inv.WS(I:Inv X pins σ H s){a:Addr}(h:s.heap.objs.size<=a):a∉X.fs:=fun hb=>by
 obtain⟨_,o,ho,_⟩:=I.ok.tP.mem hb;exact absurd (bw (aK ho) (bZ I.sz h)) (eR _)
theorem Inv.Pm(I:Inv X pins σ H s):∀ x c,X.env.cells.lookup x=some c->c≠X.env.locals:=fun x c e z=>by
 obtain⟨v,o,ho,hd⟩:=I.cell x c e;obtain⟨m,⟨o',es,ep,Jp,C9,_⟩,_⟩:=I.loc;rw [z,Jp] at ho; cases ho; rw [C9] at hd; cases hd
theorem Inv.tP(I:Inv X pins σ H s):s.heap.FunFrames X.base X.outer:=by
 have all:∀ (l:List Env),(∀ b∈oA l,b∈X.fs)->X.gS.heap.FunFrames X.base l->s.heap.FunFrames X.base l:=by
  intro l;induction l with
  | nil=>intro _ _; trivial
  | cons env r ih =>
   intro hs hl;obtain⟨hk,⟨L,o,hf,hn,ho,hd⟩,hr⟩:=hl;have hL:L∈X.fs:=hs L (by unfold oA; rw [vW,hf]; exact bI);obtain⟨sl,e⟩:=I.base.slot L o ho (I.ok.MC L hL) hL fun z=>I.ok.Jz L z hL;exact⟨hk,⟨L,_,hf,hn,e,hd⟩,ih (fun b hb=>hs b (by unfold oA; rw [vW,hf]; exact aN _ hb)) hr⟩
 exact all X.outer (fun _ hb=>hb) I.ok.tP
theorem Inv.stack(I:Inv X pins σ H s):s.heap.FunFrames X.base X.stack:=by
 rcases I.ok.Te with e | ⟨e,hf⟩
 ·rw [e]; exact I.tP
 ·rw [e];obtain⟨m,hn,_⟩:=I.loc;refine .cons (by rw [I.ok.kind]; decide) hf hn ?_ I.tP;exact NS (bZ I.ok.J9 I.ok.above)
theorem Inv.EO(I:Inv X pins σ H s):∀ b∈oA X.stack,b∈X.env.locals :: X.fs:=fun b hb=>by
 rcases I.ok.Te with e | ⟨e,hf⟩
 ·rw [e] at hb; exact aN _ hb
 ·rw [e] at hb;unfold oA at hb;rw [vW,hf] at hb;exact hb
theorem Inv.AJ(I:Inv X pins σ H s):∀ b∈oA X.stack,H b=none:=fun b hb=>by
 rcases List.mem_cons.mp (I.EO b hb) with e | hb
 ·rw [e]; exact I.free
 ·obtain⟨_,o,ho,_⟩:=I.ok.tP.mem hb;exact I.base.free b o ho (I.ok.MC b hb) fun z=>I.ok.Jz b z hb
theorem Inv.step{g':Array yj}{t':Nat}{d':Drawn}{ch:List Addr}(I:Inv X pins σ H s)
  (ND:∀ b∈ch,(b∈X.ex\/X.gS.heap.objs.size<=b)/\b≠X.env.locals/\(∀ x c,X.env.cells.lookup x=some c->c≠b)/\∀ p∈X.pn++pins,p.1≠b)
  (keep:∀ b o,b≠X.env.locals->b∉X.fs->b∉ch->s.heap.get? b=some o->H b=none->h'.get? b=some o)
  (slot:∀ b o,b≠X.env.locals->b∈X.fs->b∉ch->s.heap.get? b=some o->H b=none->∃ sl,h'.get? b=some { o with slots:=sl }) (free:∀ b o,b∉ch->s.heap.get? b=some o->H b=none->H' b=none)
  (there:∀ b o,b∉ch->s.heap.get? b=some o->∃ o',h'.get? b=some o')
  (o8:∀ b xs,H b=some (.tup xs)->H' b=some (.tup xs)) (oz:∀ b o u,H b=some (.hZ o u)->H' b=some (.hZ o u)) (rN:∀ b q,H b=some (.N5 q)->H' b=some (.N5 q)) (rQ:∀ b x,H b=some (.own x)->H' b=some (.own x))
  (ns:∀ m,s.heap.Ns X.env.locals m->h'.Ns X.env.locals m) (ck:pq X.prog X.w H' h') (hg:wH g') :
  Inv X pins σ H' { s with heap:=h',gens:=g',drawn:=d',toks:=t' }:=by
 have YX:∀ b o,X.gS.heap.get? b=some o->b≠X.env.locals:=fun b o e=>bA (bw (aK e) I.ok.above);have Vy:∀ b o,X.gS.heap.get? b=some o->b∉X.ex->b∉ch:=fun b o e hx hb=>by
  rcases (ND b hb).1 with z | z
  ·exact hx z
  ·exact absurd (bw (aK e) z) (eR _)
 have cellK:∀ x c,X.env.cells.lookup x=some c->∀ v,s.heap.IsCell c v->h'.IsCell c v:=fun x c e v ⟨o,ho,hd⟩=>by
  have TY:c∉ch:=fun z=>(ND c z).2.2.1 x c e rfl;by_cases hc:c∈X.fs
  ·obtain⟨sl,q⟩:=slot c o (I.Pm x c e) hc TY ho (I.iE x c e);exact⟨_,q,hd⟩
  ·exact⟨o,keep c o (I.Pm x c e) hc TY ho (I.iE x c e),hd⟩
 refine⟨I.ok,I.os,hg,⟨fun b o e n hb hx=>?_,fun b o e n hb hx=>?_,fun b o e n hx=>?_,fun b o e hx=>?_,fun b xs e=>o8 b xs (I.base.o8 b xs e),fun b o xs e=>oz b o xs (I.base.oz b o xs e),fun b ps e=>?_,fun b x e=>rQ b x (I.base.rQ b x e)⟩,?_,fun x c e=>?_,?_,fun x c e=>?_,fun p hp=>?_,ck,I.len⟩
 ·exact keep b o (YX b o e) hb (Vy b o e hx) (I.base.keep b o e n hb hx) (I.base.free b o e n hx)
 ·obtain⟨sl,e1⟩:=I.base.slot b o e n hb hx;obtain⟨sl',e2⟩:=slot b _ (YX b o e) hb (Vy b o e hx) e1 (I.base.free b o e n hx);exact⟨sl',e2⟩
 ·obtain⟨o',e1⟩:=I.base.there b o e hx;exact free b o' (Vy b o e hx) e1 (I.base.free b o e n hx)
 ·obtain⟨o',e1⟩:=I.base.there b o e hx;exact there b o' (Vy b o e hx) e1
 ·exact rN b _ (I.base.rN b ps e)
 ·obtain⟨m,hn,hl⟩:=I.loc;refine⟨m,ns m hn,fun i x v e1 e2 e3=>?_⟩;obtain⟨u,r,l⟩:=hl i x v e1 e2 e3;refine⟨u,r,?_⟩;rcases l with l | ⟨k,c,e,z⟩
  ·exact .inl l
  ·exact .inr ⟨k,c,e,cellK x c e _ z⟩
 ·obtain⟨v,z⟩:=I.cell x c e;exact⟨v,cellK x c e v z⟩
 ·obtain⟨m,⟨o,_,_,ho,_⟩,_⟩:=I.loc;exact free _ o (fun z=>(ND _ z).2.1 rfl) ho I.free
 ·obtain⟨v,o,ho,hd⟩:=I.cell x c e;exact free c o (fun z=>(ND c z).2.2.1 x c e rfl) ho (I.iE x c e)
 ·obtain⟨e,n,ne,nf,d⟩:=I.pin p hp;have TY:p.1∉ch:=fun z=>(ND p.1 z).2.2.2 p hp rfl;exact⟨keep p.1 p.2 ne nf TY e n,free p.1 p.2 TY e n,ne,nf,d⟩
theorem Inv.un{t':Nat}(I:Inv X pins σ H s)(u:Un X.fs [] H H' s.heap h')(ck:pq X.prog X.w H' h'):Inv X pins σ H' { s with heap:=h',toks:=t' }:=by
 obtain⟨m,⟨o,es,ep,ho,r⟩,_⟩:=id I.loc;obtain⟨sl,hL⟩:=u.any ho I.free (by simp);exact I.step (g':=s.gens) (d':=s.drawn) (ch:=[]) (fun _ z=>nomatch z) (fun b o _ hb _ e n=>u.keep b o e n hb (by simp)) (fun b o _ hb _ e n=>u.slot b o e n hb (by simp)) (fun b o _ e n=>u.free b o e n (by simp)) (fun b o _ e=>u.there b o e (by simp)) u.o8 u.oz u.rN u.rQ (fun m' hm=>by
  obtain⟨o',es',Yg,Jp,r'⟩:=hm;rw [ho] at Jp; cases Jp;exact⟨_,es',Yg,hL,r'⟩) ck I.bare
theorem Inv.call{g':Array yj}{t':Nat}{d':Drawn}{ch:List Addr}(I:Inv X pins σ H s)(u:Un (oA X.stack) ch H H' s.heap h')(ck:pq X.prog X.w H' h')(hg:wH g')
  (ND:∀ b∈ch,(b∈X.ex\/X.gS.heap.objs.size<=b)/\b≠X.env.locals/\(∀ x c,X.env.cells.lookup x=some c->c≠b)/\∀ p∈X.pn++pins,p.1≠b) :
  Inv X pins σ H' { s with heap:=h',gens:=g',drawn:=d',toks:=t' }:=by
 obtain⟨m,⟨o,es,ep,ho,r⟩,_⟩:=id I.loc;obtain⟨sl,hL⟩:=u.any ho I.free fun z=>(ND _ z).2.1 rfl;exact I.step (ch:=ch) ND (fun b o hL hb hc e n=>u.keep b o e n (fun z=>(List.mem_cons.mp (I.EO b z)).elim hL hb) hc) (fun b o _ _ hc e n=>u.any e n hc) (fun b o hc e n=>u.free b o e n hc) (fun b o hc e=>u.there b o e hc) u.o8 u.oz u.rN u.rQ (fun m' hm=>by
  obtain⟨o',es',Yg,Jp,r'⟩:=hm;rw [ho] at Jp; cases Jp;exact⟨_,es',Yg,hL,r'⟩) ck hg
theorem Inv.turned{t':Nat}{it:Addr}(I:Inv X pins σ H s)(k:∀ b o,b≠it->s.heap.get? b=some o->h'.get? b=some o)(hn:H it=none)(hL:it≠X.env.locals)
  (h1:it∈X.ex\/X.gS.heap.objs.size<=it) (h2:∀ x c,X.env.cells.lookup x=some c->c≠it) (h3:∀ p∈X.pn++pins,p.1≠it):Inv X pins σ H { s with heap:=h',toks:=t' }:=by
 have YW:∀ b u,H b=some u->b≠it:=fun b u e z=>by rw [z,hn] at e; cases e
 refine I.step (g':=s.gens) (d':=s.drawn) (ch:=[it]) (fun b hb=>?_) (fun b o _ _ hc e _=>k b o (fun z=>hc (by simp [z])) e) (fun b o _ _ hc e _=>⟨o.slots,k b o (fun z=>hc (by simp [z])) e⟩) (fun _ _ _ _ n=>n)
  (fun b o hc e=>⟨o,k b o (fun z=>hc (by simp [z])) e⟩) (fun _ _ e=>e) (fun _ _ _ e=>e) (fun _ _ e=>e) (fun _ _ e=>e) (fun m hm=>?_) (fun b u e=>?_) I.bare
 ·have e:b=it:=by simpa using hb
  subst e;exact⟨h1,hL,h2,h3⟩
 ·obtain⟨o,es,ep,ho,r⟩:=hm;exact⟨o,es,ep,k _ o (jZ hL) ho,r⟩
 ·refine(I.ck b u e).iK (fun c v hc q=>k c v ?_ q) (fun _ q=>q) fun _ _ q=>q;rcases hc with z | z
  ·rw [z]; exact YW b u e
  ·exact YW c _ z
theorem Inv.tok(I:Inv X pins σ H s)(t:Nat):Inv X pins σ H { s with toks:=t }:=I.un (h':=s.heap) (t':=t) Un.refl I.ck
theorem Inv.kept{t':Nat}(I:Inv X pins σ H s)(k:∀ b u,s.heap.get? b=some u->h'.get? b=some u):Inv X pins σ H { s with heap:=h',toks:=t' }:=I.un (Un.kept k) (I.ck.kept k)
theorem Inv.laid{a:Addr}{o:HO}{t':Nat}(I:Inv X pins σ H s)(k:∀ b u,s.heap.get? b=some u->h'.get? b=some u)(hp:s.heap.objs.size<=a)(new:eZ X.prog X.w (upd H a o) h' a o) :
  Inv X pins σ (upd H a o) { s with heap:=h',toks:=t' }:=I.un (Un.laid k hp (I.ck.fresh hp)) (I.ck.laid k hp new)
theorem Inv.write{x e:Addr}{o:HO}{t':Nat}(I:Inv X pins σ H s)(mu:Vi (H x))(he:e=x\/H e=some (.own x))(k:∀ b u,b≠e->s.heap.get? b=some u->h'.get? b=some u)(P7:∃ u,h'.get? e=some u)
  (new:eZ X.prog X.w (upd H x o) h' x o):Inv X pins σ (upd H x o) { s with heap:=h',toks:=t' }:=I.un (Un.write mu he k P7) (I.ck.write mu he k P7 new)
theorem Inv.Ha{PR:List (Addr×Obj)}(I:Inv X pins σ H s)(h:∀ p∈PR,s.heap.get? p.1=some p.2/\H p.1=none/\p.1≠X.env.locals/\p.1∉X.fs/\∀ v,p.2.data≠.cell v):Inv X PR σ H s :=
 ⟨I.ok,I.os,I.bare,I.base,I.loc,I.cell,I.free,I.iE,fun p hp=>(List.mem_append.mp hp).elim (fun z=>I.pin p (NR _ z)) (h p),I.ck,I.len⟩
theorem xc{N:List Str}(hN:N.Nodup){i j:Nat}{x:Str}(a:N[i]?=some x)(b:N[j]?=some x):i=j:=by
 obtain⟨h1,e1⟩:=List.getElem?_eq_some_iff.mp a;obtain⟨h2,e2⟩:=List.getElem?_eq_some_iff.mp b;exact(List.getElem_inj hN).mp (e1.trans e2.symm)
theorem uA{M:Model}{A:cx}{E:Value->ak->Prop}{i:Nat}{x:Str}{v:V}{u:Value}{Q:Unit->ak->Prop}(I:Inv X pins σ H s)(hN:X.N.Nodup)(hi:X.N[i]?=some x)(hx:Loc X.env.scope x)(r:RelV v u)
  (h:∀ s',Inv X pins (σ.set i (some v)) H s'->(∃ a,lV a s.heap s'.heap/\(a=X.env.locals\/X.env.cells.lookup x=some a))->Q () s') (hf:autoParam (X.fn x=true\/X.env.scope.names.lookup x=some .local) Ao._auto_1):wpAny M A (storeName X.env x u) Q E s:=by
 obtain⟨m,hn,hl⟩:=id I.loc;have Mm:(X.env.scope.kind == .class||(X.env.scope.kind == .module&&X.env.locals != X.env.globals))=false:=by rw [I.ok.kind]; rfl
 have Uu:i < σ.length:=by rw [I.len]; exact(List.getElem?_eq_some_iff.mp hi).1
 have Pm:=I.Pm;have tracked:∀ {a:Addr} {h':Heap},(∃ o,s.heap.get? a=some o/\H a=none)->lV a s.heap h'->pq X.prog X.w H h':=fun {a h'} ha hs b ob e=>by
  obtain⟨_,_,oW⟩:=ha;refine(I.ck b ob e).iK (fun c w' hc q=>(hs.2 c ?_).trans q) (fun _ q=>q) fun _ _ q=>q;rintro rfl;rcases hc with rfl | hc
  ·rw [oW] at e; cases e
  ·rw [oW] at hc; cases hc
 rcases hx with hk | hk
 ·refine wpAny_storeName_local hk hn (fun h' Eb hs=>?_) Mm;obtain⟨oL,_,_,VH,_⟩:=id hn;refine h _ ⟨I.ok,I.os,I.bare,⟨fun b o e n hb hx=>?_,fun b o e n hb hx=>?_,I.base.free,fun b o e hx=>?_,I.base.o8,I.base.oz,I.base.rN,I.base.rQ⟩,⟨_,Eb,fun j y v' e1 e2 e3=>?_⟩,fun y c e=>?_,I.free,I.iE,fun p hp=>?_,tracked ⟨oL,VH,I.free⟩ hs,by simpa using I.len⟩ ⟨_,hs,.inl rfl⟩
  ·exact(hs.2 b (bA (bw (aK e) I.ok.above))).trans (I.base.keep b o e n hb hx)
  ·obtain⟨sl,e1⟩:=I.base.slot b o e n hb hx;exact⟨sl,(hs.2 b (bA (bw (aK e) I.ok.above))).trans e1⟩
  ·obtain⟨o',e1⟩:=I.base.there b o e hx;exact⟨o',(hs.2 b (bA (bw (aK e) I.ok.above))).trans e1⟩
  ·by_cases hj:j=i
   ·subst hj;rw [hi] at e1; cases e1;rw [cZ Uu] at e2;cases e2;exact⟨u,r,.inl ⟨hk,by simp⟩⟩
   ·rw [dR (jZ hj)] at e2;obtain⟨u',r',q⟩:=hl j y v' e1 e2 e3;refine⟨u',r',?_⟩;rcases q with ⟨k,e⟩ | ⟨k,c,e,z⟩
    ·refine .inl ⟨k,?_⟩;have:y≠x:=fun e=>hj (xc hN e1 (e ▸ hi));simp [this,e]
    ·exact .inr ⟨k,c,e,z.sameBut hs (Pm y c e)⟩
  ·obtain⟨w',z⟩:=I.cell y c e;exact⟨w',z.sameBut hs (Pm y c e)⟩
  ·obtain⟨e,n,ne,nf,d⟩:=I.pin p hp;exact⟨(hs.2 p.1 ne).trans e,n,ne,nf,d⟩
 ·have XS:X.fn x=true:=by
   rcases hf with z | z
   ·exact z
   ·rw [z] at hk; cases hk
  obtain⟨c,hc⟩:=I.ok.has x (.inl hk);obtain⟨w',z⟩:=I.cell x c hc;refine wpAny_storeName_cell I.ok.kind hk hc z (fun h' O6 hs=>?_);obtain⟨oc,Sy,Xw⟩:=id z;refine h { s with heap:=h' } ⟨I.ok,I.os,I.bare,⟨fun b o e n hb hx=>?_,fun b o e n hb hx=>?_,I.base.free,fun b o e hx=>?_,I.base.o8,I.base.oz,I.base.rN,I.base.rQ⟩,⟨m,hn.sameBut hs (jZ (Pm x c hc)),fun j y v' e1 e2 e3=>?_⟩,fun y c' e=>?_,I.free,I.iE,fun p hp=>?_,tracked ⟨oc,Sy,I.iE x c hc⟩ hs,by simpa using I.len⟩ ⟨c,hs,.inr hc⟩
  ·exact(hs.2 b (bA (bw (aK e) (I.ok.SG x c XS hc)))).trans (I.base.keep b o e n hb hx)
  ·obtain⟨sl,e1⟩:=I.base.slot b o e n hb hx;exact⟨sl,(hs.2 b (bA (bw (aK e) (I.ok.SG x c XS hc)))).trans e1⟩
  ·obtain⟨o',e1⟩:=I.base.there b o e hx;exact⟨o',(hs.2 b (bA (bw (aK e) (I.ok.SG x c XS hc)))).trans e1⟩
  ·by_cases hj:j=i
   ·subst hj;rw [hi] at e1; cases e1;rw [cZ Uu] at e2;cases e2;exact⟨u,r,.inr ⟨.inl hk,c,hc,O6⟩⟩
   ·rw [dR (jZ hj)] at e2;obtain⟨u',r',q⟩:=hl j y v' e1 e2 e3;refine⟨u',r',?_⟩;rcases q with q | ⟨k,c',e,z'⟩
    ·exact .inl q
    ·refine .inr ⟨k,c',e,z'.sameBut hs ?_⟩;rintro rfl;exact hj (xc hN e1 (I.ok.inj _ _ _ e hc ▸ hi))
  ·by_cases Zw:c'=c
   ·subst Zw; exact⟨_,O6⟩
   ·obtain⟨w2,z2⟩:=I.cell y c' e;exact⟨w2,z2.sameBut hs Zw⟩
  ·obtain⟨e,n,ne,nf,d⟩:=I.pin p hp;refine⟨(hs.2 p.1 ?_).trans e,n,ne,nf,d⟩;intro q;rw [q,Sy] at e;have q':oc=p.2:=bp e;exact d w' (by rw [<-q']; exact Xw)
theorem wL{M:Model}{A:cx}{E:Value->ak->Prop}{i:Nat}{x:Str}{v:V}{u:Value}{Q:Unit->ak->Prop}(I:Inv X pins σ H s)(hN:X.N.Nodup)(hi:X.N[i]?=some x)(hx:Loc X.env.scope x)(r:RelV v u)
  (h:∀ s',Inv X pins (σ.set i (some v)) H s'->Q () s') (hf:autoParam (X.fn x=true\/X.env.scope.names.lookup x=some .local) Ao._auto_1):wpAny M A (storeName X.env x u) Q E s :=
 uA I hN hi hx r (fun s' I' _=>h s' I') hf
theorem Inv.Qe{s':ak}{ch:List Addr}(I:Inv X pins σ H s)(ho:s'.os=s.os)(u:Un (oA X.stack) ch H H' s.heap s'.heap)(ck:pq X.prog X.w H' s'.heap)(hg:wH s'.gens)
  (ND:∀ b∈ch,(b∈X.ex\/X.gS.heap.objs.size<=b)/\b≠X.env.locals/\(∀ x c,X.env.cells.lookup x=some c->c≠b)/\∀ p∈X.pn++pins,p.1≠b):Inv X pins σ H' s':=by
 obtain⟨h',g',d',t',o'⟩:=s';have e:o'=s.os:=ho;subst e;exact I.call (g':=g') (t':=t') (d':=d') u ck hg ND
end
noncomputable abbrev XK:=Value->Option Addr->Hp->Prop
noncomputable abbrev St:=List (Option V)
noncomputable abbrev VK:=V->Hp->Prop
noncomputable abbrev TE:=St->Hp->VK->Prop
noncomputable abbrev TT:=St->Hp->(Bool->Hp->Prop)->Prop
noncomputable abbrev TA:=St->Hp->(List V->Hp->Prop)->Prop
structure Ends where
 nx:St->Hp->Prop
 rt:VK
 bk:St->Hp->Prop:=fun _ _=>False
 ct:St->Hp->Prop:=fun _ _=>False
noncomputable abbrev TS:=Ends->St->Hp->Prop
noncomputable def EP(X:Cx)(pins:List (Addr×Obj))(σ:St)(Q:VK)(u:Value)(s':ak):Prop:=∃ v H',Inv X pins σ H' s'/\RelV v u/\Q v H'
noncomputable def TP(X:Cx)(pins:List (Addr×Obj))(σ:St)(Q:Bool->Hp->Prop)(b:Bool)(s':ak):Prop:=∃ H',Inv X pins σ H' s'/\Q b H'
noncomputable def SP(X:Cx)(pins:List (Addr×Obj))(D:Ends)(f:Flow)(s':ak):Prop :=
 match f with
 | .next=>∃ iP H',Inv X pins iP H' s'/\D.nx iP H'
 | .brk=>∃ iP H',Inv X pins iP H' s'/\D.bk iP H'
 | .cont=>∃ iP H',Inv X pins iP H' s'/\D.ct iP H'
 | .ret u=>∃ v iP H',Inv X pins iP H' s'/\RelV v u/\D.rt v H'
noncomputable def PE(X:Cx)(e:Expr)(t:TE):Prop :=
 ∀ (pins:List (Addr×Obj)) (s:ak) (σ:St) (H:Hp) (Q:VK),Inv X pins σ H s->t σ H Q->wpAny (model X.prog X.w) X.A (eval e X.env) (EP X pins σ Q) X.xe s
noncomputable def PS(X:Cx)(st:Stmt)(t:TS):Prop :=
 ∀ (pins:List (Addr×Obj)) (s:ak) (σ:St) (H:Hp) (D:Ends),Inv X pins σ H s->t D σ H->wpAny (model X.prog X.w) X.A (exec st X.env) (SP X pins D) X.xe s
noncomputable def NG(X:Cx)(st:List Stmt)(t:TS):Prop :=
 ∀ (pins:List (Addr×Obj)) (s:ak) (σ:St) (H:Hp) (D:Ends),Inv X pins σ H s->t D σ H->wpAny (model X.prog X.w) X.A (execs st X.env) (SP X pins D) X.xe s
theorem fy{α:Type}{t:Sem α}{Q Q':α->ak->Prop}{M:Model}{A:cx}{E:Value->ak->Prop}{s:ak}(h:wpAny M A t Q E s)(hQ:∀ a s,Q a s->Q' a s):wpAny M A t Q' E s:=eA h hQ fun _ _ x=>x
section
variable {X:Cx}
noncomputable def EN(i:Nat):TE:=fun σ H Q=>∃ v,σ[i]?=some (some v)/\Q v H
noncomputable def tC(v:V):TE:=fun _ H Q=>Q v H
theorem Lq {i:Nat} {x:Str} {pos:Pos} (hN:X.N[i]?=some x) (hv:Vc X.env.scope x) (hd:autoParam ((x == ("__debug__" : Str))=false) Ad._auto_1) (B5:autoParam ((x == ("__classdict__" : Str))=false) Ad._auto_1):PE X (.Name x pos) (EN i):=by
 intro pins s σ H Q I h;obtain⟨v,e,h⟩:=h;obtain⟨m,hn,hl⟩:=I.loc;obtain⟨u,r,l⟩:=hl i x v hN e hv;have fin:EP X pins σ Q u s:=⟨v,H,I,r,h⟩;rcases l with ⟨hk,hm⟩ | ⟨hk,c,hc,oX⟩
 ·exact wpAny_Name (wpAny_loadName_local I.ok.kind hk hn hm fin) hd
 ·rcases hk with hk | hk
  ·exact wpAny_Name (wpAny_loadName_cell I.ok.kind hk hc oX fin) hd
  ·exact wpAny_Name (wpAny_loadName_free I.ok.kind hk hc oX fin B5) hd
theorem QS{i j pos}:PE X (.Constant (.int i) j pos) (tC (.int i)):=fun _ _ _ H _ I h=>wpAny_Constant_int ⟨.int i,H,I.tok _,⟨_,rfl⟩,h⟩
theorem Tv{b j pos}:PE X (.Constant (.bool b) j pos) (tC (.bl b)):=fun _ _ _ H _ I h=>Constant_bool ⟨.bl b,H,I,rfl,h⟩
theorem QR{j pos}:PE X (.Constant .none j pos) (tC .cy):=fun _ _ _ H _ I h=>Constant_none ⟨.cy,H,I,rfl,h⟩
theorem QQ{x j pos}:PE X (.Constant (.str x) j pos) (tC (.str x)):=fun _ _ _ H _ I h=>Calls.Constant_str ⟨.str x,H,I.tok _,⟨_,rfl⟩,h⟩
noncomputable def Gl(X:Cx)(x:Str):Prop:=X.env.kindOf x=some .globalImplicit
theorem mx{E:Value->ak->Prop}{pins:List (Addr×Obj)}{s:ak}{σ:St}{H:Hp}{x:Str}{u:Value}{pos:Pos}{Q:Value->ak->Prop}(I:Inv X pins σ H s)(hg:Gl X x)(hm:X.mg x=some u)(h:Q u s)
  (hd:autoParam ((x == ("__debug__" : Str))=false) Ad._auto_1):wpAny (model X.prog X.w) X.A (eval (.Name x pos) X.env) Q E s :=
 D5 I.ok.kind hg (Calls.loadGlobal_global (by rw [I.ok.glob]; exact I.mod.glob.keeps I.bk) hm h) hd
theorem lM{E:Value->ak->Prop}{pins:List (Addr×Obj)}{s:ak}{σ:St}{H:Hp}{x:Str}{u:Value}{pos:Pos}{Q:Value->ak->Prop}(I:Inv X pins σ H s)(hg:Gl X x)(hm:X.mg x=none)(hv:dj x=some u)(h:Q u s)
  (hn:autoParam (x≠"__name__") Ad._auto_1) (hd:autoParam ((x == ("__debug__" : Str))=false) Ad._auto_1):wpAny (model X.prog X.w) X.A (eval (.Name x pos) X.env) Q E s:=by
 obtain⟨mb,h1,h2⟩:=I.mod.blt;exact D5 I.ok.kind hg (Calls.loadGlobal_builtin (by rw [I.ok.glob]; exact I.mod.glob.keeps I.bk) hm (by rw [I.ok.blt]; exact h1.keeps I.bk) ((h2 x hn).trans hv) h) hd
theorem OD {x:Str} {v:V} {u:Value} {pos:Pos} (hg:Gl X x) (hm:X.mg x=some u) (r:RelV v u) (hd:autoParam ((x == ("__debug__" : Str))=false) Ad._auto_1):PE X (.Name x pos) (tC v) :=
 fun _ _ _ H _ I h=>mx I hg hm ⟨v,H,I,r,h⟩ hd
variable {a b:Expr} {ta tb:TE} {pos:Pos}
noncomputable def tB(t:TE):TT:=fun σ H Q=>t σ H fun x H1=>∃ c,x=.bl c/\Q c H1
variable {tA tB':TT} {rest:List Expr}
end
noncomputable def t7(K:ag)(H:Hp)(a:Addr)(xs:List V):Prop :=
 Rd H a (.lst xs) \/
  ∃ (o:Obj) (a7:Array Value) (n:Nat),K.lookup a=some o/\o.cls=.type "list"/\o.dict=none/\o.data=.seq a7 n/\a7.size<=aT/\Vals xs a7.toList
noncomputable def x5(K:ag)(H:Hp)(a:Addr)(xs:List V):Prop :=
 Rd H a (.tup xs) \/
  ∃ (o:Obj) (a7:Array Value) (n:Nat),K.lookup a=some o/\o.cls=.type "tuple"/\o.data=.seq a7 n/\a7.size<=aT/\Vals xs a7.toList
noncomputable def Ym:Value->Option V
 | .none=>some .cy
 | .bool b=>some (.bl b)
 | .int i _=>some (.int i)
 | .str x _=>some (.str x)
 | .bytes b _=>some (.Qf b)
 | .float b _=>some (.Bw b)
 | .ref a=>some (.ref a)
 | .type n=>some (.ty n)
 | _=>none
theorem RelV.abs{x:V}{u:Value}(r:RelV x u):Ym u=some x:=by
 cases x with
 | cy=>cases r; rfl
 | bl _=>cases r; rfl
 | int _=>obtain⟨t,rfl⟩:=r; rfl
 | str _=>obtain⟨t,rfl⟩:=r; rfl
 | Qf _=>obtain⟨t,rfl⟩:=r; rfl
 | Bw _=>obtain⟨t,rfl⟩:=r; rfl
 | ref _=>cases r; rfl
 | ty _=>cases r; rfl
theorem RelV.inj{x y:V}{u:Value}(r:RelV x u)(q:RelV y u):x=y:=bp (r.abs.symm.trans q.abs)
theorem Vals.inj:∀ {xs ys:List V} {us:List Value},Vals xs us->Vals ys us->xs=ys:=by
 intro xs ys us h;induction h generalizing ys with
 | nil=>intro k; cases k; rfl
 | cons r t ih =>
  intro k;cases k with
  | cons r' t'=>rw [r.inj r',ih t']
section
variable {X:Cx} {pins:List (Addr×Obj)} {σ:St} {H:Hp} {s:ak} {a:Addr} {xs ys:List V}
theorem t7.of{K:ag}(h:H a=some (.lst xs)):t7 K H a xs:=.inl (.inl h)
theorem x5.of{K:ag}(h:H a=some (.tup xs)):x5 K H a xs:=.inl (.inl h)
theorem Inv.list(I:Inv X pins σ H s)(h:t7 X.K H a xs):∃ a7:List Value,Vals xs a7/\PlainL s.heap a a7.toArray/\xs.length<=aT:=by
 rcases h with h | ⟨o,a7,n,hk,hc,hd,hs,hz,r⟩
 ·obtain⟨z,a7,n,r,e⟩:=h.ok I.ck;exact⟨a7,r,⟨_,n,e,rfl,rfl,rfl⟩,z⟩
 ·refine⟨a7.toList,r,⟨o,n,I.qg a o hk,hc,hd,by simpa using hs⟩,?_⟩;have e:=r.length;simp only [bG] at e;lia
theorem Inv.tuple(I:Inv X pins σ H s)(h:x5 X.K H a xs):∃ a7:List Value,Vals xs a7/\IsTup s.heap a a7.toArray/\xs.length<=aT:=by
 rcases h with h | ⟨o,a7,n,hk,hc,hs,hz,r⟩
 ·obtain⟨z,a7,r,p⟩:=h.ok I.ck;exact⟨a7,r,p,z⟩
 ·refine⟨a7.toList,r,⟨o,I.qg a o hk,hc,n,by simpa using hs⟩,?_⟩;have e:=r.length;simp only [bG] at e;lia
theorem Inv.CZ(I:Inv X pins σ H s)(h:t7 X.K H a xs)(h':t7 X.K H a ys):xs=ys:=by
 obtain⟨a7,r,⟨o,n,e,_,_,d⟩,_⟩:=I.list h;obtain⟨its',r',⟨o',n',e',_,_,d'⟩,_⟩:=I.list h';rw [e] at e'; cases e';rw [d] at d';injection d' with d1 _
 have:a7=its':=by simpa using congrArg Array.toList d1
 subst this;exact r.inj r'
theorem Inv.Iw(I:Inv X pins σ H s)(h:x5 X.K H a xs)(h':x5 X.K H a ys):xs=ys:=by
 obtain⟨a7,r,⟨o,e,_,n,d⟩,_⟩:=I.tuple h;obtain⟨its',r',⟨o',e',_,n',d'⟩,_⟩:=I.tuple h';rw [e] at e'; cases e';rw [d] at d';injection d' with d1 _
 have:a7=its':=by simpa using congrArg Array.toList d1
 subst this;exact r.inj r'
end
noncomputable abbrev Cx.sF(X:Cx)(E:Value->ak->Prop):Cx:={ X with xe:=E }
noncomputable abbrev Cx.Q4(X:Cx):Cx:=X.sF fun _ _=>False
theorem Cx.Ok.sF{X:Cx}(ok:X.Ok)(E:Value->ak->Prop):(X.sF E).Ok :=
 ⟨ok.mod,ok.kind,ok.glob,ok.blt,ok.above,ok.inj,ok.has,ok.SG,ok.hd,ok.frames,ok.Te,ok.UX,ok.bs,ok.J9,ok.IY,ok.Jz,ok.tP,ok.MC⟩
theorem Cx.Ok.nM{X:Cx}{E:Value->ak->Prop}(ok:(X.sF E).Ok):X.Ok :=
 ⟨ok.mod,ok.kind,ok.glob,ok.blt,ok.above,ok.inj,ok.has,ok.SG,ok.hd,ok.frames,ok.Te,ok.UX,ok.bs,ok.J9,ok.IY,ok.Jz,ok.tP,ok.MC⟩
section
variable {X:Cx} {pins:List (Addr×Obj)} {σ:St} {H:Hp} {s:ak} {E:Value->ak->Prop}
theorem Inv.sF(I:Inv X pins σ H s)(E:Value->ak->Prop):Inv (X.sF E) pins σ H s:=⟨I.ok.sF E,I.os,I.bare,I.base,I.loc,I.cell,I.free,I.iE,I.pin,I.ck,I.len⟩
theorem Inv.nM(I:Inv (X.sF E) pins σ H s):Inv X pins σ H s:=⟨I.ok.nM,I.os,I.bare,I.base,I.loc,I.cell,I.free,I.iE,I.pin,I.ck,I.len⟩
theorem SP.nM{D:Ends}{f:Flow}{s':ak}(h:SP (X.sF E) pins D f s'):SP X pins D f s':=by
 cases f with
 | next=>obtain⟨iP,H',I,q⟩:=h; exact⟨iP,H',I.nM,q⟩
 | brk=>obtain⟨iP,H',I,q⟩:=h; exact⟨iP,H',I.nM,q⟩
 | cont=>obtain⟨iP,H',I,q⟩:=h; exact⟨iP,H',I.nM,q⟩
 | ret u=>obtain⟨v,iP,H',I,r,q⟩:=h; exact⟨v,iP,H',I.nM,r,q⟩
theorem NG.Q4{st:List Stmt}{t:TS}(h:NG X.Q4 st t):NG X st t:=fun pins s σ H D I hw =>
 eA (h pins s σ H D (I.sF _) hw) (fun _ _ q=>q.nM) fun _ _ z=>bf z
end
section
variable {X:Cx} {st:Stmt} {rest:List Stmt} {t u:TS} {e:Expr} {te:TE} {pos:Pos}
noncomputable def Qx(t u:TS):TS:=fun D σ H=>t { D with nx:=u D } σ H
theorem CG(h1:PS X st t)(h2:NG X rest u):NG X (st :: rest) (Qx t u):=by
 intro pins s σ H D I h;refine nK (fy (h1 pins s σ H { D with nx:=u D } I h) fun f s1 q=>?_);cases f with
 | next =>
  obtain⟨iP,H',I',q⟩:=q;exact h2 pins s1 iP H' D I' q
 | ret v=>exact q
 | brk=>exact q
 | cont=>exact q
theorem Ox(h1:PS X st t):NG X [st] t:=by
 intro pins s σ H D I h;refine nK (fy (h1 pins s σ H D I h) fun f s1 q=>?_);cases f with
 | next=>exact ji q
 | ret v=>exact q
 | brk=>exact q
 | cont=>exact q
theorem Inv.quiet{pins:List (Addr×Obj)}{σ:St}{H:Hp}{s:ak}(I:Inv X pins σ H s):interactive X.env=false:=by simp [interactive,I.ok.kind]
end
noncomputable abbrev Yq:=V->V->V->Hp->(Hp->Prop)->Prop
noncomputable def Ys(X:Cx)(t:Yq):Prop :=
 ∀ (pins:List (Addr×Obj)) (s:ak) (σ:St) (H:Hp) (o i v:V) (ov iv u:Value) (Q:Hp->Prop),Inv X pins σ H s->RelV o ov->RelV i iv->RelV v u->t o i v H Q ->
  wpAny (model X.prog X.w) X.A (setItem ov iv u) (fun _ s'=>∃ H',Inv X pins σ H' s'/\Q H') X.xe s
structure It where
 go:Nat->Hp->Prop
 YB:Nat->Hp->V->Hp->Prop
 stop:Nat->Hp->Prop
noncomputable def px(X:Cx)(pins:List (Addr×Obj))(H:Hp)(b:Addr):Prop :=
 H b=none/\b≠X.env.locals/\b∉X.fs/\(b∈X.ex\/X.gS.heap.objs.size<=b)/\(∀ x c,X.env.cells.lookup x=some c->c≠b)/\∀ p∈X.pn++pins,p.1≠b
theorem Inv.Jw{X:Cx}{pins:List (Addr×Obj)}{σ:St}{H H':Hp}{s:ak}{b:Addr}(I:Inv X pins σ H s)(hb:s.heap.objs.size<=b)(hn:H' b=none):px X pins H' b:=by
 refine⟨hn,Nat.ne_of_gt (bw I.lt hb),I.WS hb,.inr (bZ I.sz hb),fun x c e z=>?_,fun p hp z=>?_⟩
 ·obtain⟨v,q⟩:=I.cell x c e;exact absurd (bw q.lt (by rw [z]; exact hb)) (eR _)
 ·exact absurd (bw (aK (I.pin p hp).1) (by rw [z]; exact hb)) (eR _)
structure Turn(P:bo)(w:World)(K:ag)(tg:Expr)(J:It)(fp:List Addr)(it:Addr)(tn:Nat->Heap->Prop):Prop where
 mem:it∈fp
 obj:∀ i h,tn i h->∀ b∈fp,∃ o,h.get? b=some o/\∀ v,o.data≠.cell v
 keep:∀ i h h',tn i h->(∀ b∈fp,∀ o,h.get? b=some o->h'.get? b=some o)->tn i h'
 item:∀ (X:Cx),X.prog=P->X.w=w->X.K=K->X.calm=true->∀ (i:Nat) (pins:List (Addr×Obj)) (s:ak) (σ:St) (H:Hp) (E:Value->ak->Prop),Inv X pins σ H s->(∀ b∈fp,px X pins H b)->tn i s.heap->J.go i H ->
  wpAny (model P w) X.A (rm (.ref it)) (fun r s1=>∃ u,r=some u /\
   wpAny (model P w) X.A (wB tg (.ref it) u) (fun _ s2=>∃ x H',Inv X pins σ H' s2/\RelV x u/\J.YB i H x H'/\tn (i+1) s2.heap/\∀ b∈fp,H' b=none) E s1) E s
 done:∀ (X:Cx),X.prog=P->X.w=w->X.K=K->X.calm=true->∀ (i:Nat) (pins:List (Addr×Obj)) (s:ak) (σ:St) (H:Hp) (E:Value->ak->Prop),Inv X pins σ H s->(∀ b∈fp,px X pins H b)->tn i s.heap->J.stop i H ->
  wpAny (model P w) X.A (rm (.ref it)) (fun r s1=>r=none/\Inv X pins σ H s1) E s
 self:∀ (A:cx) (i:Nat) (s:ak) (Q:Value->ak->Prop) (E:Value->ak->Prop),tn i s.heap->Q (.ref it) s->wpAny (model P w) A (yT (.ref it)) Q E s
noncomputable abbrev TI:=St->Hp->(It->Hp->Prop)->Prop
noncomputable def PIE(X:Cx)(pins:List (Addr×Obj))(σ:St)(tg:Expr)(R:It->Hp->Prop)(P0:Value)(s2:ak):Prop :=
 ∃ (it:Addr) (fp:List Addr) (tn:Nat->Heap->Prop) (J:It) (H':Hp),P0=.ref it/\Inv X pins σ H' s2/\Turn X.prog X.w X.K tg J fp it tn/\tn 0 s2.heap/\(∀ b∈fp,px X pins H' b)/\R J H'
theorem Hz{M:Model}{A:cx}{E:Value->ak->Prop}{s:ak}{tg:Expr}{it:Addr}{u:Value}{o:Obj}{n:String}{vs:Array Value}{Q:Unit->ak->Prop}(ho:s.heap.get? it=some o)(hc:o.cls=.type n)(hd:o.data=.fields vs)
    (hn:["enumerate","zip","dict_itemiterator","dict_reverseitemiterator","odict_iterator","itertools.zip_longest","itertools.pairwise"].contains n=false) (hQ:Q () s):wpAny M A (wB tg (.ref it) u) Q E s:=by
  unfold wB;cases tg <;> first
    | exact aq hQ
    | (cases u <;> first
        | exact aq hQ
        | (refine ae (wpAny_load ho ?_)
           rw [hc,hd];show wpAny M A (if (["enumerate","zip","dict_itemiterator","dict_reverseitemiterator","odict_iterator","itertools.zip_longest","itertools.pairwise"].contains n&&vs[0]? == some (u7 _))=true then _ else _) Q E s;rw [if_neg (by intro h; rw [hn,vH] at h; cases h)];exact aq hQ))
noncomputable def Itl(K:ag)(a:Addr):It :=
 ⟨fun i H=>∃ xs x,t7 K H a xs/\xs[i]?=some x,fun i H x H'=>H'=H/\∀ xs,t7 K H a xs->xs[i]?=some x,fun i H=>∃ xs,t7 K H a xs/\xs.length<=i⟩
noncomputable def Itt(K:ag)(a:Addr):It :=
 ⟨fun i H=>∃ xs x,x5 K H a xs/\xs[i]?=some x,fun i H x H'=>H'=H/\∀ xs,x5 K H a xs->xs[i]?=some x,fun i H=>∃ xs,x5 K H a xs/\xs.length<=i⟩
noncomputable def Yv(lo:Int)(n:Nat):It:=⟨fun i _=>i < n,fun i H x H'=>H'=H/\x=.int (lo+i),fun i _=>n<=i⟩
theorem Ir{P:bo}{w:World}{K:ag}{tg:Expr}(a it:Addr):Turn P w K tg (Itl K a) [it] it (fun i h=>h.IsListIter it a i) where
 mem:=by simp
 obj:=fun i h st b hb=>by
  have e:b=it:=by simpa using hb
  subst e;obtain⟨o,e,c,d⟩:=st;exact⟨o,e,fun v z=>by rw [d] at z; cases z⟩
 keep:=fun i h h' st k=>st.at fun o e=>k it (by simp) o e
 item:=by
  intro X hP hw hK hc i pins s σ H E I hf st hg;subst hP hw hK;obtain⟨xs,x,hq,hx⟩:=hg;obtain⟨a7,rv,p,hz⟩:=I.list hq;obtain⟨u,hu,ru⟩:=rv.get hx;obtain⟨f0,f1,f2,f3,f4,f5⟩:=hf it (by simp);refine wpAny_pyNext_list_item st p.isList (x:=u) (by simpa using hu) fun h' yu sb=>?_;have I1:Inv X pins σ H { s with heap:=h' }:=I.turned (t':=s.toks) (fun b o hb e=>(sb.2 b hb).trans e) f0 f1 f3 f4 f5;obtain⟨o,e,c,d⟩:=id yu;exact⟨u,rfl,Hz (s:={ s with heap:=h' }) e c d (by decide) ⟨x,H,I1,ru,⟨rfl,fun ys hy=>by rw [I.CZ hy hq]; exact hx⟩,yu,fun b hb=>(hf b hb).1⟩⟩
 done:=by
  intro X hP hw hK hc i pins s σ H E I hf st hg;subst hP hw hK;obtain⟨xs,hq,hx⟩:=hg;obtain⟨a7,rv,p,hz⟩:=I.list hq;obtain⟨f0,f1,f2,f3,f4,f5⟩:=hf it (by simp);have hl:=rv.length;exact wpAny_pyNext_list_end (I.ok.hd hc) st p.isList (by simp; lia) fun h' eb=>⟨rfl,I.turned (t':=s.toks) (fun b o hb e=>eb b o hb e) f0 f1 f3 f4 f5⟩
 self:=fun _ _ _ _ _ st h=>wpAny_pyIter_listiter st h
theorem EL{P:bo}{w:World}{K:ag}{tg:Expr}(a it:Addr):Turn P w K tg (Itt K a) [it] it (fun i h=>h.IsTupleIter it a i) where
 mem:=by simp
 obj:=fun i h st b hb=>by
  have e:b=it:=by simpa using hb
  subst e;obtain⟨o,e,c,d⟩:=st;exact⟨o,e,fun v z=>by rw [d] at z; cases z⟩
 keep:=fun i h h' st k=>st.at fun o e=>k it (by simp) o e
 item:=by
  intro X hP hw hK hc i pins s σ H E I hf st hg;subst hP hw hK;obtain⟨xs,x,hq,hx⟩:=hg;obtain⟨a7,rv,p,hz⟩:=I.tuple hq;obtain⟨u,hu,ru⟩:=rv.get hx;obtain⟨f0,f1,f2,f3,f4,f5⟩:=hf it (by simp);refine wpAny_pyNext_tuple_item st (show s.heap.IsTuple a a7.toArray from p) (x:=u) (by simpa using hu) fun h' yu sb=>?_;have I1:Inv X pins σ H { s with heap:=h' }:=I.turned (t':=s.toks) (fun b o hb e=>(sb.2 b hb).trans e) f0 f1 f3 f4 f5;obtain⟨o,e,c,d⟩:=id yu;exact⟨u,rfl,Hz (s:={ s with heap:=h' }) e c d (by decide) ⟨x,H,I1,ru,⟨rfl,fun ys hy=>by rw [I.Iw hy hq]; exact hx⟩,yu,fun b hb=>(hf b hb).1⟩⟩
 done:=by
  intro X hP hw hK hc i pins s σ H E I hf st hg;subst hP hw hK;obtain⟨xs,hq,hx⟩:=hg;obtain⟨a7,rv,p,hz⟩:=I.tuple hq;obtain⟨f0,f1,f2,f3,f4,f5⟩:=hf it (by simp);have hl:=rv.length;exact wpAny_pyNext_tuple_end (I.ok.hd hc) st (show s.heap.IsTuple a a7.toArray from p) (by simp; lia) fun h' eb=>⟨rfl,I.turned (t':=s.toks) (fun b o hb e=>eb b o hb e) f0 f1 f3 f4 f5⟩
 self:=fun _ _ _ _ _ st h=>wpAny_pyIter_tupleiter st h
theorem EM{P:bo}{w:World}{K:ag}{tg:Expr}(it:Addr)(lo:Int)(n:Nat):Turn P w K tg (Yv lo n) [it] it (fun i h=>IsRangeIter h it (lo+(i:Nat) * 1) ((n:Int) - (i:Nat)) 1) where
 mem:=by simp
 obj:=fun i h st b hb=>by
  have e:b=it:=by simpa using hb
  subst e;exact⟨_,st,fun v z=>by
   have z':Data.fields _=Data.cell v:=z;cases z'⟩
 keep:=fun i h h' st k=>k it (by simp) _ st
 item:=by
  intro X hP hw hK hc i pins s σ H E I hf st hg;subst hP hw hK;obtain⟨f0,f1,f2,f3,f4,f5⟩:=hf it (by simp);have W:=Walks.range (prog:=X.prog) (w:=X.w) (I.ok.hd hc) it lo 1 n;refine W.item i s _ _ hg st fun v h' tk hv yu kk=>?_;obtain⟨t,rfl⟩:=hv;have I1:Inv X pins σ H { s with heap:=h',toks:=tk }:=I.turned (fun b o hb e=>kk b o (by simpa using hb) e) f0 f1 f3 f4 f5;refine⟨_,rfl,Hz (s:={ s with heap:=h',toks:=tk }) (n:="range_iterator") yu rfl rfl (by decide) ⟨.int (lo+i),H,I1,⟨t,?_⟩,⟨rfl,rfl⟩,yu,fun b hb=>(hf b hb).1⟩⟩;rw [Int.mul_one]
 done:=by
  intro X hP hw hK hc i pins s σ H E I hf st hg;subst hP hw hK;obtain⟨f0,f1,f2,f3,f4,f5⟩:=hf it (by simp);exact wpAny_pyNext_range_end (I.ok.hd hc) st (by have:n<=i:=hg; lia) fun h' eb=>⟨rfl,I.turned (t':=s.toks) (fun b o hb e=>eb b o hb e) f0 f1 f3 f4 f5⟩
 self:=fun _ _ _ _ _ st h=>wpAny_pyIter_rangeiter st h
section
variable {X:Cx} {tg:Expr}
theorem Lb{pins:List (Addr×Obj)}{σ:St}{H:Hp}{s:ak}{R:It->Hp->Prop}{E:Value->ak->Prop}{lo hi:Int}{t u v:Tok}{tk:Nat}(I:Inv X pins σ H s)(h1:-(2 ^ 62)<=lo)(h2:lo < 2 ^ 62)(h3:-(2 ^ 62)<=hi)(h4:hi < 2 ^ 62)
  (q:R (Yv lo (hi - lo).toNat) H):wpAny (model X.prog X.w) X.A (yT (.ref s.heap.objs.size)) (PIE X pins σ tg R) E { s with heap:=s.heap.push { cls:=.type "range",data:=.fields #[.int lo t,.int hi u,.int 1 v] },toks:=tk }:=by
 refine wpAny_pyIter_range (IsRange.new ..) (small_one h1 h2 h3 h4) ?_;have I1:Inv X pins σ H { s with heap:=s.heap.push { cls:=.type "range",data:=.fields #[.int lo t,.int hi u,.int 1 v] },toks:=tk }:=I.kept fun b o e=>ax _ e
 refine⟨(s.heap.push { cls:=.type "range",data:=.fields #[.int lo t,.int hi u,.int 1 v] }).objs.size,[(s.heap.push { cls:=.type "range",data:=.fields #[.int lo t,.int hi u,.int 1 v] }).objs.size],_,_,H,rfl,
  I1.kept (t':=tk) fun b o e=>ax _ e,EM _ lo (hi - lo).toNat,?_,fun b hb=>?_,q⟩
 ·have e1:lo+((0:Nat):Int) * 1=lo:=by simp
  have e2:(((hi - lo).toNat:Nat):Int) - ((0:Nat):Int)=Builtin.Range.rangeSize lo hi 1:=by rw [rangeSize_one]; split <;> lia
  show IsRangeIter _ _ (lo+((0:Nat):Int) * 1) ((((hi - lo).toNat:Nat):Int) - ((0:Nat):Int)) 1;rw [e1,e2];exact bh _ rfl
 ·have e:b=(s.heap.push { cls:=.type "range",data:=.fields #[.int lo t,.int hi u,.int 1 v] }).objs.size:=by simpa using hb
  subst e;exact I1.Jw (aC _) (I1.ck.fresh (aC _))
noncomputable def pZ(fp:List Addr)(h:Heap):List (Addr×Obj):=fp.filterMap fun b=>(h.get? b).map fun o=>(b,o)
theorem n6{fp:List Addr}{h:Heap}{b:Addr}{o:Obj}(hb:b∈fp)(e:h.get? b=some o):(b,o)∈pZ fp h:=List.mem_filterMap.mpr ⟨b,hb,by rw [e]; rfl⟩
theorem IX{fp:List Addr}{h:Heap}{p:Addr×Obj}(hp:p∈pZ fp h):p.1∈fp/\h.get? p.1=some p.2:=by
 obtain⟨b,hb,e⟩:=List.mem_filterMap.mp hp;cases q:h.get? b with
 | none=>rw [q] at e; cases e
 | some o =>
  rw [q] at e;have e':(b,o)=p:=bp e;subst e';exact⟨hb,q⟩
theorem Inv.pinned{pins:List (Addr×Obj)}{σ:St}{H:Hp}{s:ak}{fp:List Addr}(I:Inv X pins σ H s)(hf:∀ b∈fp,px X pins H b)(ho:∀ b∈fp,∃ o,s.heap.get? b=some o/\∀ v,o.data≠.cell v):Inv X (pins++pZ fp s.heap) σ H s :=
 I.Ha fun p hp=>(List.mem_append.mp hp).elim (fun z=>I.pin p (cO _ z)) fun z=>by
  obtain⟨hb,e⟩:=IX z;obtain⟨f0,f1,f2,_⟩:=hf p.1 hb;obtain⟨o,e',d⟩:=ho p.1 hb;rw [e] at e'; cases e';exact⟨e,f0,f1,f2,d⟩
theorem Inv.sG{pins pl:List (Addr×Obj)}{σ:St}{H:Hp}{s:ak}(I:Inv X (pins++pl) σ H s):Inv X pins σ H s:=I.Ha fun p hp=>I.pin p (cO _ (NR _ hp))
end
noncomputable abbrev R2:=V->V->Hp->VK->Prop
noncomputable def Ed(X:Cx)(f:Value->Value->Sem Value)(r:R2):Prop :=
 ∀ (pins:List (Addr×Obj)) (s:ak) (σ:St) (H:Hp) (x y:V) (v u:Value) (Q:VK),Inv X pins σ H s->RelV x v->RelV y u->r x y H Q ->
  wpAny (model X.prog X.w) X.A (f v u) (EP X pins σ Q) X.xe s
noncomputable def ZT(X:Cx)(f:Value->Sem Value)(r:V->Hp->VK->Prop):Prop :=
 ∀ (pins:List (Addr×Obj)) (s:ak) (σ:St) (H:Hp) (x:V) (v:Value) (Q:VK),Inv X pins σ H s->RelV x v->r x H Q ->
  wpAny (model X.prog X.w) X.A (f v) (EP X pins σ Q) X.xe s
noncomputable def Qm(X:Cx)(f:Value)(r:List V->Hp->VK->Prop):Prop :=
 ∀ (pins:List (Addr×Obj)) (s:ak) (σ:St) (H:Hp) (xs:List V) (us:List Value) (Q:VK),Inv X pins σ H s->Vals xs us->r xs H Q ->
  wpAny (model X.prog X.w) X.A (call f us) (EP X pins σ Q) X.xe s
noncomputable def Yp(X:Cx)(r:V->Hp->(Bool->Hp->Prop)->Prop):Prop :=
 ∀ (pins:List (Addr×Obj)) (s:ak) (σ:St) (H:Hp) (x:V) (v:Value) (Q:Bool->Hp->Prop),Inv X pins σ H s->RelV x v->r x H Q ->
  wpAny (model X.prog X.w) X.A (truthy v) (TP X pins σ Q) X.xe s
noncomputable def rI(C:Int->Int->Prop)(g:Int->Int->V):R2:=fun x y H Q=>∃ i j,x=.int i/\y=.int j/\C i j/\Q (g i j) H
noncomputable def QN(g:Int->Int->V):R2:=fun x y H Q=>∃ i j,x=.int i/\y=.int j/\Q (g i j) H
noncomputable def rU(g:Int->V):V->Hp->VK->Prop:=fun x H Q=>∃ i,x=.int i/\Q (g i) H
section
variable {X:Cx} {a b c:Expr} {ta tb tc:TE} {pos:Pos}
theorem TH{f:Value->Value->Sem Value}{C:Int->Int->Prop}{g:Int->Int->Int}
  (rule:∀ (i j:Int) (t u:Tok) (s:ak) (Q:Value->ak->Prop) (E:Value->ak->Prop),C i j->Q (.int (g i j) s.toks) { s with toks:=s.toks+1 }->wpAny (model X.prog X.w) X.A (f (.int i t) (.int j u)) Q E s) :
  Ed X f (rI C fun i j=>.int (g i j)):=by
 intro pins s σ H x y v u Q I rx ry h;obtain⟨i,j,rfl,rfl,hc,q⟩:=h;obtain⟨t,rfl⟩:=rx;obtain⟨t',rfl⟩:=ry;exact rule i j t t' s _ _ hc ⟨.int (g i j),H,I.tok _,⟨_,rfl⟩,q⟩
theorem TG{f:Value->Value->Sem Value}{g:Int->Int->Int}
  (rule:∀ (i j:Int) (t u:Tok) (s:ak) (Q:Value->ak->Prop) (E:Value->ak->Prop),Q (.int (g i j) s.toks) { s with toks:=s.toks+1 }->wpAny (model X.prog X.w) X.A (f (.int i t) (.int j u)) Q E s) :
  Ed X f (QN fun i j=>.int (g i j)):=by
 intro pins s σ H x y v u Q I rx ry h;obtain⟨i,j,rfl,rfl,q⟩:=h;obtain⟨t,rfl⟩:=rx;obtain⟨t',rfl⟩:=ry;exact rule i j t t' s _ _ ⟨.int (g i j),H,I.tok _,⟨_,rfl⟩,q⟩
theorem Q3{f:Value->Value->Sem Value}{g:Int->Int->Bool}
  (rule:∀ (i j:Int) (t u:Tok) (s:ak) (Q:Value->ak->Prop) (E:Value->ak->Prop),Q (.bool (g i j)) s->wpAny (model X.prog X.w) X.A (f (.int i t) (.int j u)) Q E s) :
  Ed X f (QN fun i j=>.bl (g i j)):=by
 intro pins s σ H x y v u Q I rx ry h;obtain⟨i,j,rfl,rfl,q⟩:=h;obtain⟨t,rfl⟩:=rx;obtain⟨t',rfl⟩:=ry;exact rule i j t t' s _ _ ⟨.bl (g i j),H,I,rfl,q⟩
noncomputable def Yz(i j:Int):Prop:=0 < j/\j < 1073741824
noncomputable def Yy(i j:Int):Prop:=0<=j/\j<=1000000/\i.natAbs < 2 ^ 64
noncomputable def Sf(i j:Int):Prop:=(-(2 ^ 64) < i/\i < 2 ^ 64)\/(-(2 ^ 64) < j/\j < 2 ^ 64)
theorem Sf.ok{i j:Int}(h:Sf i j):IntMulOk i j:=by
 rcases h with ⟨h1,h2⟩ | ⟨h1,h2⟩
 ·exact .of_left (intBits_le_64 h1 h2)
 ·exact .of_right (intBits_le_64 h1 h2)
theorem Q0:Ed X (gO .Add) (QN fun i j=>.int (i+j)):=TG fun _ _ _ _ _ _ _ q=>add_int q
theorem QV:Ed X (gO .Sub) (QN fun i j=>.int (i - j)):=TG fun _ _ _ _ _ _ _ q=>sub_int q
theorem QX:Ed X (gO .Mult) (rI Sf fun i j=>.int (i * j)):=TH fun _ _ _ _ _ _ _ hc q=>mul_int q hc.ok
theorem OL:Ed X (gO .FloorDiv) (rI Yz fun i j=>.int (i / j)):=TH fun i j _ _ _ _ _ hc q=>by
 have h1:(0:Int) < j:=hc.1;have h2:j < 1073741824:=hc.2;exact floordiv_int (by lia) (by rw [Int.fdiv_eq_ediv_of_nonneg i (by lia)]; exact q) (.inl (PyProof.noPylong_small (by lia)))
theorem QY:Ed X (gO .Mod) (rI (fun _ j=>0 < j) fun i j=>.int (i % j)):=TH fun i j _ _ _ _ _ hc q=>by
 have h1:(0:Int) < j:=hc;exact mod_int' (by lia) (by rw [Int.fmod_eq_emod_of_nonneg i (by lia)]; exact q)
theorem QW:Ed X (gO .Pow) (rI Yy fun i j=>.int (i ^ j.toNat)):=TH fun _ _ _ _ _ _ _ hc q=>pow_int_small hc.1 hc.2.1 hc.2.2 q
theorem Z9{f:Value->Sem Value}{g:Int->Int}
  (rule:∀ (i:Int) (t:Tok) (s:ak) (Q:Value->ak->Prop) (E:Value->ak->Prop),Q (.int (g i) s.toks) { s with toks:=s.toks+1 }->wpAny (model X.prog X.w) X.A (f (.int i t)) Q E s) :
  ZT X f (rU fun i=>.int (g i)):=by
 intro pins s σ H x v Q I rx h;obtain⟨i,rfl,q⟩:=h;obtain⟨t,rfl⟩:=rx;exact rule i t s _ _ ⟨.int (g i),H,I.tok _,⟨_,rfl⟩,q⟩
theorem Qr:ZT X (unaryOp .USub) (rU fun i=>.int (-i)):=Z9 fun _ _ _ _ _ q=>neg_int q
end
section
variable {X:Cx} {a b c:Expr} {ta tb tc:TE} {pos:Pos}
theorem TB:Ed X (dA .Lt) (QN fun i j=>.bl (decide (i < j))):=Q3 fun _ _ _ _ _ _ _ q=>lt_int q
theorem TC:Ed X (dA .LtE) (QN fun i j=>.bl (decide (i<=j))):=Q3 fun _ _ _ _ _ _ _ q=>le_int q
theorem TF:Ed X (dA .Gt) (QN fun i j=>.bl (decide (j < i))):=Q3 fun _ _ _ _ _ _ _ q=>gt_int q
theorem fj(b:Expr){op:CmpOp}(h:autoParam (op≠.In) Ad._auto_1)(h2:autoParam (op≠.NotIn) Ad._auto_1):behindInMarks op b=false:=by
 have e1:(op == CmpOp.In)=false:=by cases op <;> first | rfl | exact absurd rfl h
 have e2:(op == CmpOp.NotIn)=false:=by cases op <;> first | rfl | exact absurd rfl h2
 cases b with
 | Set es k _ =>
  show (k == 0&&(op == .In||op == .NotIn)&&es.all (constantsAlone 8))=false;rw [e1,e2,Bool.or_false,vI,vH]
 | _=>rfl
noncomputable def Sb(K:ag)(x:V)(H:Hp)(k:Bool):Prop :=
 match x with
 | .cy=>k=false
 | .bl b=>k=b
 | .int i=>k=(i != 0)
 | .str y=>y.length<=aT/\k=((y.length:Int) != 0)
 | .Qf y=>y.size<=aT/\k=((y.size:Int) != 0)
 | .ref p=>(∃ xs,t7 K H p xs/\k=!xs.isEmpty)\/(∃ xs,x5 K H p xs/\k=!xs.isEmpty)\/∃ aS,H p=some (.dK aS)/\k=!aS.isEmpty
 | _=>False
theorem Fu{κ:Type}{aS:List (κ×V)}{vs:List (κ×Value)}(r:KV aS vs):(!vs.isEmpty)=!aS.isEmpty:=by
 cases r <;> rfl
theorem xD{xs:List V}{a7:List Value}(r:Vals xs a7):(!a7.toArray.isEmpty)=!xs.isEmpty:=by
 cases r <;> simp
theorem xo:(aT:Nat) < 2 ^ 63:=by rw [bN]; decide
theorem Qu:Yp X (fun x H Q=>∃ k,Sb X.K x H k/\Q k H):=by
 intro pins s σ H x v Q I rx h;obtain⟨k,e,q⟩:=h;have hl:=xo;have hs:aT=16777216:=bN;cases x with
 | cy =>
  cases rx;have e':k=false:=e;subst e';exact truthy_none ⟨H,I,q⟩
 | bl b =>
  cases rx;have e':k=b:=e;subst e';exact ig ⟨H,I,q⟩
 | int i =>
  obtain⟨t,rfl⟩:=rx;have e':k=(i != 0):=e;subst e';exact PySem.P.truthy_int ⟨H,I,q⟩
 | str y =>
  obtain⟨t,rfl⟩:=rx;obtain⟨hy,e'⟩:y.length<=aT/\k=((y.length:Int) != 0):=e;subst e';exact PySem.P.truthy_str (by lia) ⟨H,I.tok _,q⟩
 | Qf y =>
  obtain⟨t,rfl⟩:=rx;obtain⟨hy,e'⟩:y.size<=aT/\k=((y.size:Int) != 0):=e;subst e';exact PySem.W.truthy_bytes (by lia) ⟨H,I.tok _,q⟩
 | ref p =>
  cases rx;have e':(∃ xs,t7 X.K H p xs/\k=!xs.isEmpty)\/(∃ xs,x5 X.K H p xs/\k=!xs.isEmpty)\/∃ aS,H p=some (.dK aS)/\k=!aS.isEmpty:=e;rcases e' with ⟨xs,hx,e'⟩ | ⟨xs,hx,e'⟩ | ⟨aS,hx,e'⟩
  ·subst e';obtain⟨a7,r,pl,hz⟩:=I.list hx;have hlen:=r.length;exact wpAny_truthy_list pl.isList (by simp only [aJ]; lia) ⟨H,I.tok _,by rw [xD r]; exact q⟩
  ·subst e';obtain⟨a7,r,pl,hz⟩:=I.tuple hx;have hlen:=r.length;exact truthy_tuple pl (by simp only [aJ]; lia) ⟨H,I.tok _,by rw [xD r]; exact q⟩
  ·subst e';obtain⟨hz,hS,vs,r,m⟩:aS.length<=aT/\(p == fL)=false/\∃ vs,KV aS vs/\s.heap.DictOf (fK X.prog X.w) p vs:=I.ck p _ hx;have hlen:aS.length=vs.length:=jY r;exact Ee hS m (by lia) ⟨H,I.tok _,by rw [Fu r]; exact q⟩
 | _=>exact(show False from e).elim
theorem E5:Ed X (gO .Add) (fun x y H Q=>∃ i j,x=.str i/\y=.str j/\i.length+j.length<=aT/\Q (.str (i++j)) H):=by
 intro pins s σ H x y v u Q I rx ry h;obtain⟨i,j,rfl,rfl,hz,q⟩:=h;obtain⟨t,rfl⟩:=rx;obtain⟨t',rfl⟩:=ry;exact add_str (fun t' tk=>⟨.str (i++j),H,I.tok _,⟨_,rfl⟩,q⟩) hz
theorem vals1{x:V}{us:List Value}(r:Vals [x] us):∃ u,us=[u]/\RelV x u:=by
 cases r with
 | cons r1 r2=>cases r2; exact⟨_,rfl,r1⟩
theorem vals2{x y:V}{us:List Value}(r:Vals [x,y] us):∃ u w',us=[u,w']/\RelV x u/\RelV y w':=by
 cases r with
 | cons r1 r2 =>
  cases r2 with
  | cons r3 r4=>cases r4; exact⟨_,_,rfl,r1,r3⟩
noncomputable def Vj(K:ag)(x:V)(H:Hp)(n:Nat):Prop :=
 match x with
 | .str y=>y.length<=aT/\n=y.length
 | .Qf y=>y.size<=aT/\n=y.size
 | .ref p=>(∃ xs,t7 K H p xs/\n=xs.length)\/∃ xs,x5 K H p xs/\n=xs.length
 | _=>False
theorem M4:Qm X (.builtin "len") (fun xs H Q=>∃ x n,xs=[x]/\Vj X.K x H n/\Q (.int n) H):=by
 intro pins s σ H xs us Q I r h;obtain⟨x,n,rfl,e,q⟩:=h;obtain⟨u,rfl,rx⟩:=vals1 r;have hl:=xo;have hs:aT=16777216:=bN;cases x with
 | str y =>
  obtain⟨t,rfl⟩:=rx;obtain⟨hy,e'⟩:y.length<=aT/\n=y.length:=e;subst e';exact len_str (by lia) ⟨.int _,H,I.tok _,⟨_,rfl⟩,q⟩
 | Qf y =>
  obtain⟨t,rfl⟩:=rx;obtain⟨hy,e'⟩:y.size<=aT/\n=y.size:=e;subst e';exact PySem.W.len_bytes (by lia) ⟨.int _,H,I.tok _,⟨_,rfl⟩,q⟩
 | ref p =>
  cases rx;have e':(∃ xs,t7 X.K H p xs/\n=xs.length)\/∃ xs,x5 X.K H p xs/\n=xs.length:=e;rcases e' with ⟨xs,hx,e'⟩ | ⟨xs,hx,e'⟩
  ·subst e';obtain⟨a7,r',pl,hz⟩:=I.list hx;have hlen:=r'.length;exact Calls.call_len_list pl.isList (by simp only [aJ]; lia) ⟨.int xs.length,H,I.tok _,⟨_,by simp only [aJ]; rw [hlen]⟩,q⟩
  ·subst e';obtain⟨a7,r',pl,hz⟩:=I.tuple hx;have hlen:=r'.length;exact len_tuple pl (by simp only [aJ]; lia) ⟨.int xs.length,H,I.tok _,⟨_,by simp only [aJ]; rw [hlen]⟩,q⟩
 | _=>exact(show False from e).elim
end
structure ac3(h:Heap)(x dx C:Addr)(mA:Str->Option Value):Prop where
 obj:h.get? x=some (PySem.W.instObj C dx)
 ns:h.Ns1 dx mA
 ne:dx≠x
theorem Je{h:Heap}{dx:Addr}{mA:Str->Option Value}(n:h.Ns1 dx mA):∃ od,h.get? dx=some od/\∀ name,PySem.W.lookIn name od=some (mA name):=by
 obtain⟨o,es,ep,ho,hd,hk,_,hm⟩:=n;refine⟨o,ho,fun name=>?_⟩;have e:=hm name;unfold nsFind findBy at e;rw [<-Array.find?_toList] at e;unfold PySem.W.lookIn;rw [hd];dsimp only;split
 ·rename_i y q;rw [q] at e;exact congrArg some e
 ·rename_i q;rw [q] at e;have a:es.toList.any (·.refKey)=false:=by
   rw [List.any_eq_false];intro y hy;obtain⟨z,t,RC⟩:=hk y (Array.mem_toList_iff.mp hy);simp [DictEntry.refKey,RC]
  have a':¬ es.toList.any (·.refKey)=true:=by rw [a]; exact eQ
  rw [if_neg a'];exact congrArg some e
noncomputable def CF(f:Str)(v:V):List (Str×V)->List (Str×V)
 | []=>[(f,v)]
 | (g,x) :: r=>if g=f then (g,v) :: r else (g,x) :: CF f v r
theorem vk(f g:Str)(v:V):∀ fs:List (Str×V),(CF f v fs).lookup g=if g=f then some v else fs.lookup g
 | []=>by
  show ic g [(f,v)]=_;by_cases h:g=f
  ·have hb:(g == f)=true:=beq_iff_eq.mpr h;simp only [ic,hb,if_pos h]
  ·have hb:(g == f)=false:=beq_eq_false_iff_ne.mpr h;simp only [ic,hb,if_neg h]
 | (k,x) :: r=>by
  have ih:=vk f g v r;rw [show CF f v ((k,x) :: r)=(if k=f then (k,v) :: r else (k,x) :: CF f v r) from rfl];by_cases hk:k=f
  ·rw [if_pos hk];by_cases h:g=k
   ·have hb:(g == k)=true:=beq_iff_eq.mpr h;simp only [ic,hb,if_pos (h.trans hk)]
   ·have hb:(g == k)=false:=beq_eq_false_iff_ne.mpr h;simp only [ic,hb,if_neg (fun e:g=f=>h (e.trans hk.symm))]
  ·rw [if_neg hk];by_cases h:g=k
   ·have hb:(g == k)=true:=beq_iff_eq.mpr h;simp only [ic,hb,if_neg (fun e:g=f=>hk (h.symm.trans e))]
   ·have hb:(g == k)=false:=beq_eq_false_iff_ne.mpr h;simp only [ic,hb];exact ih
theorem t8.some_of{v:V}{o:Option Value}(r:t8 (some v) o):∃ u,o=some u/\RelV v u:=by
 cases o with
 | none=>exact(show False from r).elim
 | some u=>exact⟨u,rfl,r⟩
theorem Js{v:V}{u:Value}(r:RelV v u):yq u=true:=by
 cases v with
 | cy=>cases (show u=dn from r); rfl
 | bl b=>cases (show u=uc b from r); rfl
 | int i=>obtain⟨t,e⟩:=(show ∃ t,u=pK i t from r); cases e; rfl
 | str x=>obtain⟨t,e⟩:=(show ∃ t,u=Km x t from r); cases e; rfl
 | Qf b=>obtain⟨t,e⟩:=(show ∃ t,u=Value.bytes b t from r); cases e; rfl
 | Bw b=>obtain⟨t,e⟩:=(show ∃ t,u=Value.float b t from r); cases e; rfl
 | ref a=>cases (show u=dI a from r); rfl
 | ty n=>cases (show u=yp n from r); rfl
structure Cls(K:ag)(C:Addr):Prop where
 pg:PySem.W.plainGet K C Ep=true
 hd:kD K C=true
 po:PySem.W.plainOver K C=true
 sa:bz K (.ref C) "__setattr__" = some (some (.builtin "object.__setattr__"))
structure Con(K:ag)(C:Addr)(f:Str)(v:V)(u:Value):Prop where
 at_:bz K (.ref C) f=some (some u)
 rel:RelV v u
 get:gI K u "__get__" = some none
 cp:PySem.W.copiedNames.contains f=false
structure Meth(K:ag)(C:Addr)(m:Str)(f:Addr):Prop where
 at_:bz K (.ref C) m=some (some (.ref f))
 fn:PySem.W.isFn K (.ref f)=true
 kp:gv K (.ref f)=true
section
variable {X:Cx} {pins:List (Addr×Obj)} {σ:St} {H:Hp} {s:ak} {a C dx:Addr} {fs:List (Str×V)} {f:Str} {v:V} {A:cx} {E:Value->ak->Prop}
theorem Pr{prog:bo}{w:World}{env:Env}{e:Expr}{f:Str}{pos:Pos}{s:ak}{Q:Value->ak->Prop}(hb:um e f env (eval e env)=eval e env)
  (h:wpAny (model prog w) A (eval e env) (fun o eV=>wpAny (model prog w) A (getAttr o f true) Q E eV) E s):wpAny (model prog w) A (eval (.Attribute e f pos) env) Q E s :=
 Attribute_any_ h (by rw [arm_eval_Attribute,hb])
end
section
variable {X:Cx} {pins:List (Addr×Obj)} {σ:St} {H:Hp} {s:ak} {A:cx} {E:Value->ak->Prop} {Q:Value->ak->Prop} {c:Value} {b:Bool}
inductive x4 (K:ag) (H:Hp):V->Value->Prop where
 | cy:x4 K H .cy (.type "NoneType")
 | bl (x:Bool):x4 K H (.bl x) (.type "bool")
 | int (i:Int):x4 K H (.int i) (.type "int")
 | str (x:Str):x4 K H (.str x) (.type "str")
 | Bw (x:UInt64):x4 K H (.Bw x) (.type "float")
 | lst {a:Addr} {xs:List V} (e:H a=some (.lst xs)):x4 K H (.ref a) (.type "list")
 | hZ {a:Addr} {o:Obj} {xs:List V} (e:H a=some (.hZ o (.lst xs))):x4 K H (.ref a) (.type "list")
 | tup {a:Addr} {xs:List V} (e:H a=some (.tup xs)):x4 K H (.ref a) (.type "tuple")
 | dK {a:Addr} {aS:List (Key×V)} (e:H a=some (.dK aS)):x4 K H (.ref a) (.type "dict")
 | dT {a:Addr} {aS:List (List Key×V)} (e:H a=some (.dT aS)):x4 K H (.ref a) (.type "dict")
 | ins {a C dx:Addr} {fs:List (Str×V)} (e:H a=some (.ins C dx fs)) (cl:Cls K C) (ha:bz K (.ref C) "__class__" = some (some (.builtin "object.__class__")))
   (hn:gI K (.builtin "object.__class__") "__get__" = some (some (.builtin "getset_descriptor.__get__"))) (htk:mG K (.builtin "object.__class__")=some true)
   (hm:e7 K C (.type "object")=some true):x4 K H (.ref a) (.ref C)
end
structure iC(k:Nat)(A:cx):Prop where
 hd:A.handled=none
 dp:A.depth+3 * k+5 < recursionLimit
 un:A.units+16 * k+200 < cLine
theorem iC.mono{j k:Nat}{A:cx}(r:iC k A)(h:j<=k):iC j A:=⟨r.hd,by have:=r.dp; lia,by have:=r.un; lia⟩
theorem iC.deeper{k:Nat}{A:cx}(r:iC (k+1) A)(env:Env):iC k (A.deeper env) :=
 ⟨r.hd,by have:=r.dp; show A.depth+1+3 * k+5 < _; lia,by have:=r.un; show A.units+3+16 * k+200 < _; lia⟩
theorem Fi {A:cx} {C:Addr} {us:List Value} {kw:List (Str×Value)}:(A.under (.builtin "type.__call__" ⟨.ref C :: us,kw⟩)).depth=A.depth+1:=by
 first | rfl | simp [JW,Code.weight,Code.isCreation,Code.isGuard,Code.isCaller,Code.frames,Nq,guardIds]
theorem Fh {A:cx} {C:Addr} {us:List Value} {kw:List (Str×Value)}:(A.under (.builtin "type.__call__" ⟨.ref C :: us,kw⟩)).units=A.units+1:=by
 first | rfl | simp [JW,Code.cUnits,Code.frames,Nq]
theorem iC.make {k:Nat} {A:cx} (r:iC (k+1) A) (C:Addr) (us:List Value) (kw:List (Str×Value)):iC k (A.under (.builtin "type.__call__" ⟨.ref C :: us,kw⟩)) :=
 ⟨r.hd,by have:=r.dp; rw [Fi]; lia,by have:=r.un; rw [Fh]; lia⟩
theorem iC.depth{k:Nat}{A:cx}(r:iC k A):A.depth < recursionLimit:=by have:=r.dp; lia
theorem iC.units{k:Nat}{A:cx}(r:iC k A):A.units+64 < cLine:=by have:=r.un; lia
theorem iC.KG{k:Nat}{A:cx}(r:iC k A):A.units < cLine:=by have:=r.un; lia
noncomputable abbrev Sp:=List V->Hp->VK->XK->Prop
noncomputable abbrev JN:=List Env->Hp->ak->XK->Value->ak->Prop
structure DU(P:bo)(w:World)(K:ag)(mg:Str->Option Value)(base:Heap)(A:cx)(outer:List Env)(s:ak)(H:Hp):Prop where
 frames:A.frames=some outer
 mod:Mod K mg base
 bs:∀ b o,base.get? b=some o->s.heap.get? b=some o/\H b=none
 J9:base.objs.size<=s.heap.objs.size
 tP:s.heap.FunFrames base outer
 MC:∀ b∈oA outer,H b=none
 ck:pq P w H s.heap
 bare:wH s.gens
noncomputable def CE(outer:List Env)(P:bo)(w:World)(H:Hp)(s:ak)(Q:VK)(u:Value)(s':ak):Prop :=
 ∃ v H',s'.os=s.os/\wH s'.gens/\Un (oA outer) [] H H' s.heap s'.heap/\pq P w H' s'.heap/\RelV v u/\Q v H'
noncomputable def CR(CX:JN)(outer:List Env)(P:bo)(w:World)(H:Hp)(s:ak)(Q:VK)(E:XK)(r:Result)(s':ak):Prop :=
 match r with
 | .ok (.ret u)=>CE outer P w H s Q u s'
 | .ok _=>False
 | .error e=>CX outer H s E e s'
structure gi(P:bo)(w:World)(K:ag)(mg:Str->Option Value)(base:Heap)(CX:JN)(k:Nat)(f:Addr)(fd:aL)(ps:List Str)(sp:Sp):Prop where
 len:∀ vs H Q E,sp vs H Q E->vs.length=ps.length
 run:∀ (A:cx) (outer:List Env) (s:ak) (H:Hp) (args:Args) (us:List Value) (vs:List V) (Q:VK) (E:XK),iC k A->DU P w K mg base A outer s H->Kw s fd args (ps.zip us)->Vals vs us->sp vs H Q E ->
  mF (model P w) A (.call (.ref f) args) (CR CX outer P w H s Q E) s
theorem DU.make{P:bo}{w:World}{K:ag}{mg:Str->Option Value}{base:Heap}{A:cx}{outer:List Env}{s:ak}{H:Hp}(e:DU P w K mg base A outer s H)(C:Addr)(us:List Value)(kw:List (Str×Value)) :
  DU P w K mg base (A.under (.builtin "type.__call__" ⟨.ref C :: us,kw⟩)) outer s H:=⟨by first | exact e.frames | (simpa [JW,Code.envs,Nq,pushEnvs] using e.frames),e.mod,e.bs,e.J9,e.tP,e.MC,e.ck,e.bare⟩
section
variable {X:Cx} {pins:List (Addr×Obj)} {σ:St} {H:Hp} {s s':ak}
theorem Inv.RV(I:Inv X pins σ H s):DU X.prog X.w X.K X.mg X.base X.A X.stack s H :=
 ⟨I.ok.frames,I.ok.mod,I.bs,bZ I.ok.J9 I.sz,I.stack,I.AJ,I.ck,I.bare⟩
theorem Inv.after{Q:VK}{u:Value}(I:Inv X pins σ H s)(h:CE X.stack X.prog X.w H s Q u s'):EP X pins σ Q u s':=by
 obtain⟨v,H',os,bare,un,ck,r,q⟩:=h;obtain⟨hh,g,d,t,Tx⟩:=s';obtain rfl:Tx=s.os:=os;exact⟨v,H',I.call (h':=hh) (g':=g) (d':=d) (t':=t) (ch:=[]) un ck bare (fun b z=>absurd z (by simp)),r,q⟩
end
noncomputable def Binds(K:ag)(fd:aL)(ps:List Str)(ds:List Value):Prop :=
 ∀ (s:ak) (us:List Value),K.In s.heap->(us++ds).length=ps.length->Kw s fd ⟨us,[]⟩ (ps.zip (us++ds))
theorem Binds.all{K:ag}{fd:aL}{ps:List Str}(h:∀ us:List Value,us.length=ps.length->bindArgs fd ⟨us,[]⟩=pure (ps.zip us)):Binds K fd ps []:=fun s us _ hl=>by
 rw [bL] at hl ⊢;exact .of_eq (h us hl)
noncomputable def Passes(CX:JN)(X:Cx)(E:XK):Prop:=∀ (pins:List (Addr×Obj)) (σ:St) (H:Hp) (s:ak) (e:Value) (s':ak),Inv X pins σ H s->CX X.stack H s E e s'->X.xe e s'
section
variable {X:Cx} {CX:JN} {k:Nat} {f C:Addr} {fd:aL} {ps:List Str} {sp:Sp} {VU:List V} {ds:List Value} {E:XK} {x m:Str} {p pos apos:Pos} {e o:Expr} {es:List Expr} {ta:TE} {t:TA}
theorem K6{pins:List (Addr×Obj)}{σ:St}{H:Hp}{s:ak}{Q:VK}{us:List Value}{vs:List V}(F:gi X.prog X.w X.K X.mg X.base CX k f fd ps sp)(hr:iC k X.A)(hb:Binds X.K fd ps ds)(hd:Vals VU ds)(hx:Passes CX X E)
  (I:Inv X pins σ H s) (r:Vals vs us) (h:sp (vs++VU) H Q E):wpAny (model X.prog X.w) X.A (call (.ref f) us) (EP X pins σ Q) X.xe s:=by
 have r2:Vals (vs++VU) (us++ds):=r.append hd;have hl:(us++ds).length=ps.length:=by rw [<-r2.length]; exact F.len _ _ _ _ h
 refine mD (jl (F.run X.A X.stack s H ⟨us,[]⟩ (us++ds) (vs++VU) Q E hr I.RV (hb s us I.qg hl) r2 h) fun r s' hq=>?_);cases r with
 | error e=>exact hx pins σ H s e s' I hq
 | ok fl =>
  cases fl with
  | ret u=>exact I.after hq
  | next=>exact bf hq
  | brk=>exact bf hq
  | cont=>exact bf hq
structure Mk(K:ag)(C f:Addr):Prop where
 makes:PySem.W.makesIn K C=true
 init:bz K (.ref C) "__init__" = some (some (.ref f))
 fn:PySem.W.isFn K (.ref f)=true
 kp:gv K (.ref C)=true
end
section
variable {X:Cx} {CX:JN} {k:Nat} {f C:Addr} {fd:aL} {ps ks:List Str} {sp:Sp} {E:XK} {x m:Str} {p pos apos aaU:Pos} {e o:Expr} {es:List Expr} {kws:List Kv} {te ta:TE} {t tk:TA} {nm:Option Str}
structure Yt(K:ag)(fd:aL)(ps ks:List Str)(g:List Value->List Value->List Value)(gV:List V->List V->List V):Prop where
 to:∀ (s:ak) (us ws:List Value),K.In s.heap->(g us ws).length=ps.length->Kw s fd ⟨us,ks.zip ws⟩ (ps.zip (g us ws))
 rel:∀ {vs:List V} {us:List Value} {zs:List V} {ws:List Value},Vals vs us->Vals zs ws->Vals (gV vs zs) (g us ws)
variable {g:List Value->List Value->List Value} {gV:List V->List V->List V}
end
structure cQ(N P:List Str)(sc:Scope):Prop where
 kind:sc.kind=.function
 co:sc.isCoroutine=false
 gen:sc.isGenerator=false
 nd:N.Nodup
 pre:N.take P.length=P
 par:∀ x∈P,sc.names.lookup x=some .local\/sc.names.lookup x=some .cell
 Q5:∀ y∈sc.names,y.2≠.free
theorem zQ{kindOf:Str->Option rn}{x:Str}:∀ {binds:List (Str×Value)} {m:Str->Option Value},(∀ v,(x,v)∉binds)->bindL kindOf binds m x=m x
 | [],_,_=>rfl
 | (n,v) :: r,m,h=>by
  unfold bindL;rw [zQ fun w hw=>h w (aN _ hw)];split
  ·have:x≠n:=by rintro rfl; exact h v bI
   simp [this]
  ·rfl
theorem zS{kindOf:Str->Option rn}{x:Str}:∀ {binds:List (Str×Value)} {m:Str->Option Value},(∀ v,(x,v)∉binds)->bindC kindOf binds m x=m x
 | [],_,_=>rfl
 | (n,v) :: r,m,h=>by
  unfold bindC;rw [zS fun w hw=>h w (aN _ hw)];split
  ·rfl
  ·have:x≠n:=by rintro rfl; exact h v bI
   simp [this]
theorem zR{kindOf:Str->Option rn}{x:Str}{v:Value}:∀ {P:List Str} {vs:List Value} {i:Nat} {m:Str->Option Value},P.Nodup->P[i]?=some x->vs[i]?=some v->kindOf x=some .local ->
  bindL kindOf (P.zip vs) m x=some v
 | [],_,_,_,_,h,_,_=>by simp at h
 | _ :: _,[],_,_,_,_,h,_=>by simp at h
 | p :: P,w :: vs,0,m,nd,h1,h2,hk=>by
  simp at h1 h2; subst h1; subst h2;show bindL kindOf ((p,w) :: P.zip vs) m p=_;unfold bindL;rw [zQ fun v hv=>(List.nodup_cons.mp nd).1 (D3 hv).1,if_pos hk];simp
 | p :: P,w :: vs,i+1,m,nd,h1,h2,hk=>by
  show bindL kindOf ((p,w) :: P.zip vs) m x=_;unfold bindL;exact zR (i:=i) (List.nodup_cons.mp nd).2 (by simpa using h1) (by simpa using h2) hk
theorem zT{kindOf:Str->Option rn}{x:Str}{v:Value}:∀ {P:List Str} {vs:List Value} {i:Nat} {m:Str->Option Value},P.Nodup->P[i]?=some x->vs[i]?=some v->kindOf x≠some .local ->
  bindC kindOf (P.zip vs) m x=some v
 | [],_,_,_,_,h,_,_=>by simp at h
 | _ :: _,[],_,_,_,_,h,_=>by simp at h
 | p :: P,w :: vs,0,m,nd,h1,h2,hk=>by
  simp at h1 h2; subst h1; subst h2;show bindC kindOf ((p,w) :: P.zip vs) m p=_;unfold bindC;rw [zS fun v hv=>(List.nodup_cons.mp nd).1 (D3 hv).1,if_neg hk];simp
 | p :: P,w :: vs,i+1,m,nd,h1,h2,hk=>by
  show bindC kindOf ((p,w) :: P.zip vs) m x=_;unfold bindC;exact zT (i:=i) (List.nodup_cons.mp nd).2 (by simpa using h1) (by simpa using h2) hk
noncomputable def start(N:List Str)(vs:List V):St:=vs.map some++bq (N.length - vs.length) none
noncomputable def nB(CX:JN)(P:bo)(w:World)(K:ag)(mg:Str->Option Value)(base:Heap)(N:List Str)(qual:Str)(scope:Scope)(f:Addr)(cd:Value)(A:cx)(outer:List Env)(s:ak)(H:Hp)(E:XK):Cx where
 prog:=P
 w:=w
 K:=K
 mg:=mg
 base:=base
 A:=A.deeper (sr qual scope s.heap.objs.size f cd)
 N:=N
 gS:=s
 JL:=H
 env:=sr qual scope s.heap.objs.size f cd
 outer:=outer
 stack:=sr qual scope s.heap.objs.size f cd :: outer
 ex:=[]
 calm:=true
 fn:=fun _=>true
 pn:=[]
 xe:=fun e s'=>wpAny (model P w) (A.deeper (sr qual scope s.heap.objs.size f cd)) (leaving (sr qual scope s.heap.objs.size f cd) e) (fun _ QF=>CX outer H s E e QF) (fun e' QF=>CX outer H s E e' QF) s'
theorem DD{sc:Scope}{n:Nat}{x:Str}(h:sc.names.lookup x=some .cell):∃ c,(cellsFrom n sc.names []).lookup x=some c:=by
 have q:=Gy sc.names n [] (.inl h);exact Option.isSome_iff_exists.mp q
theorem Jm{CX:JN}{P:bo}{w:World}{K:ag}{mg:Str->Option Value}{base:Heap}{N ps:List Str}{qual:Str}{scope:Scope}{f:Addr}{cd:Value}{A:cx}{outer:List Env}{s s1:ak}{H:Hp}{E:XK}{us:List Value}{vs:List V}
  (S:cQ N ps scope) (hd:A.handled=none) (e0:DU P w K mg base A outer s H) (hl:vs.length=ps.length) (r:Vals vs us)
  (x:InCallC s s.heap.objs.size (bindL (sr qual scope s.heap.objs.size f cd).kindOf (ps.zip us) fun _=>none) (cellsFrom (s.heap.objs.size+1) scope.names []) (bindC (sr qual scope s.heap.objs.size f cd).kindOf (ps.zip us) fun _=>none) s1) :
  Inv (nB CX P w K mg base N qual scope f cd A outer s H E) [] (start N vs) H s1:=by
 have vn:ps.length<=N.length:=by have:=congrArg gE S.pre; rw [dG] at this; lia
 obtain⟨h1,tk,rfl,hk⟩:=x.done;have TR:∀ b:Addr,b∉(nB CX P w K mg base N qual scope f cd A outer s H E).ex:=fun b z=>absurd (show b∈([]:List Addr) from z) (by simp);refine⟨⟨e0.mod,S.kind,rfl,rfl,aC _,fun y z c h1 h2=>?_,fun y hy=>?_,fun y c _ h=>?_,fun _=>hd,Around.frames_deeper e0.frames,.inr ⟨rfl,rfl⟩,fun b z=>absurd z (TR b),e0.bs,e0.J9,fun b _ _=>TR b,fun b z=>absurd z (TR b),e0.tP,e0.MC⟩,
  rfl,e0.bare,Un.kept hk,⟨_,x.toInCall.ns,fun i y v h1 h2 h3=>?_⟩,fun y c h=>⟨_,x.cell y c h⟩,e0.ck.fresh (aC _),fun y c h=>?_,fun p hp=>absurd (show p∈([]:List (Addr×Obj)) from hp) (by simp),e0.ck.kept hk,?_⟩
 ·exact name_of_addr x.apart (hW h1) (hW h2)
 ·have hy:scope.names.lookup y=some .cell\/scope.names.lookup y=some .free:=hy;rcases hy with hy | hy
  ·exact DD hy
  ·exact absurd rfl (S.Q5 _ (hW hy))
 ·exact B0 (x.above y c (hW h))
 ·have hi:i < vs.length:=by
   unfold start at h2;by_cases hi:i < vs.length
   ·exact hi
   ·rw [bK (by simpa using hi)] at h2;rw [kz] at h2;split at h2 <;> cases h2
  have ha:vs[i]?=some v:=by
   unfold start at h2;rw [cq (by simpa using hi),bO] at h2;cases e:vs[i]? with
   | none=>rw [e] at h2; cases h2
   | some a=>rw [e] at h2; cases h2; rfl
  obtain⟨u,hu,rv⟩:=r.get ha;have hp:ps[i]?=some y:=by
   rw [<-S.pre,qz (by lia)]; exact h1
  have YY:ps.Nodup:=by rw [<-S.pre]; exact S.nd.sublist (List.take_sublist _ _)
  refine⟨u,rv,?_⟩;rcases S.par y (cz hp) with k | k
  ·exact .inl ⟨k,zR YY hp hu k⟩
  ·obtain⟨c,e⟩:=DD (n:=s.heap.objs.size+1) k;refine .inr ⟨.inl k,c,e,?_⟩;have q:=x.cell y c e;rw [zT YY hp hu (by show scope.names.lookup y≠_; rw [k]; decide)] at q;exact q
 ·exact e0.ck.fresh (B0 (x.above y c (hW h)))
 ·unfold start;show _=N.length;rw [aB,aj,ff];lia
theorem Qb{CX:JN}{P:bo}{w:World}{K:ag}{mg:Str->Option Value}{base:Heap}{k:Nat}{f:Addr}{name qual:Str}{params:Arguments}{body:List Stmt}{scope:Scope}{dV kV doc pm jJ ct oc:Value}{an od:Option Addr}
  {Hd:Array (Option Value)} {N ps:List Str} {sp:Sp} (lk:K.lookup f=some ⟨oc,od,.func (iH name qual params body scope dV kV doc pm an jJ ct),Hd⟩) (B5:Ce K jJ qual=true) (S:cQ N ps scope)
  (len:∀ vs H Q E,sp vs H Q E->vs.length=ps.length)
  (Dc:∀ (A:cx) (outer:List Env) (s:ak) (H:Hp) (vs:List V) (Q:VK) (E:XK),iC k (A.deeper (sr qual scope s.heap.objs.size f jJ))->sp vs H Q E ->
   ∃ t,NG (nB CX P w K mg base N qual scope f jJ A outer s H E) body t/\t { nx:=fun _ H'=>Q .cy H',rt:=Q } (start N vs) H) :
  gi P w K mg base CX (k+1) f (iH name qual params body scope dV kV doc pm an jJ ct) ps sp:=by
 refine⟨len,fun A outer s H args us vs Q E hr e0 hb r Ea=>?_⟩;have hl:=len _ _ _ _ Ea;have KX:K.In s.heap:=e0.mod.Ji.keeps fun b o e=>(e0.bs b o e).1;have lim:s.heap.NoLimit:=e0.mod.nolimit.keeps fun b o e=>(e0.bs b o e).1;have zx:∀ y∈ps.zip us,scope.names.lookup y.1=some .local\/(scope.names.lookup y.1=some .cell/\((cellsFrom (s.heap.objs.size+1) scope.names []).lookup y.1).isSome=true):=fun ⟨n,v⟩ hy=>by
  rcases S.par n (D3 hy).1 with q | q
  ·exact .inl q
  ·exact .inr ⟨q,Gy _ _ _ (.inl q)⟩
 refine codeAny_call_function hr.depth (KX _ _ lk) rfl S.co S.gen rfl (PySem.W.codeRec_of KX B5) (hb _ _ _ _ ?_);refine wpAny_newFunctionEnv_cells S.kind zx fun env he s1 x=>?_;subst he;refine⟨lim.keeps x.toInCall.keep,codeAny_func ?_⟩;obtain⟨t,ht,hq⟩:=Dc A outer s H vs Q E (hr.deeper _) Ea;have I:Inv (nB CX P w K mg base N qual scope f jJ A outer s H E) [] (start N vs) H s1:=Jm S hr.hd e0 hl r x;refine eA (ht [] s1 (start N vs) H _ I hq) (fun fl s' hs=>?_) fun e s' hs=>hs;have fin:∀ {iP:St} {H':Hp} {v:V} {u:Value},Inv (nB CX P w K mg base N qual scope f jJ A outer s H E) [] iP H' s'->RelV v u->Q v H'->CE outer P w H s Q u s' :=
  fun {iP H' v u} J rv q=>⟨v,H',J.os,J.bare,J.base,J.ck,rv,q⟩
 cases fl with
 | ret u =>
  obtain⟨v,iP,H',J,rv,q⟩:=hs;exact fin J rv q
 | next =>
  obtain⟨iP,H',J,q⟩:=hs;exact fin (v:=V.cy) (u:=dn) J rfl q
 | brk =>
  obtain⟨_,_,_,q⟩:=hs;exact bf q
 | cont =>
  obtain⟨_,_,_,q⟩:=hs;exact bf q
end L2
namespace HT
open PySem PyProof.Rows
noncomputable def lexLt:List Int->List Int->Bool
 | [],[]=>false
 | [],_ :: _=>true
 | _ :: _,[]=>false
 | x :: xs,y :: ys=>if x=y then lexLt xs ys else decide (x < y)
theorem Fp(x y:Int)(xs ys:List Int):lexLt (x :: xs) (y :: ys)=if x=y then lexLt xs ys else decide (x < y):=rfl
theorem yA:lexLt [] []=false:=rfl
theorem xr(y:Int)(ys:List Int):lexLt [] (y :: ys)=true:=rfl
theorem xt(x:Int)(xs:List Int):lexLt (x :: xs) []=false:=rfl
theorem MO(A:cx)(s:ak)(a:Int)(t:Tok)(c:Int)(u:Tok):∃ e,SeqAt.EqAt A s (.int a t) (.int c u) e/\(e=true↔a=c) :=
 ⟨(a == c),SeqAt.EqAt.int_int a t c u,by simp⟩
theorem wY(A:cx)(s:ak)(a:Int)(t:Tok)(c:Int)(u:Tok)(prog:bo)(w:World)(E:Value->ak->Prop)(Q:Value->ak->Prop)(h:Q (.bool (decide (a < c))) s) :
  wpAny (model prog w) A (pH .Lt (.int a t) (.int c u)) Q E s :=
 (PyProof.Rows.lt_int h:wpAny (model prog w) A (dA .Lt (.int a t) (.int c u)) Q E s)
section
open PySem.SeqAt
open PySem.AutoSeq1 (wpAny_loadPart')
open PySem.MeetsSeq PySem.MeetsSeq2 PySem.MeetsSeq3
theorem yt(l b:Addr)(items mL:Array Value)(n n2:Nat)(dd HI:Option Addr)(sl Cp:Array (Option Value))(ns ms:List Int)(hi:kF items.toList ns)(hj:kF mL.toList ms) :
  Meets (Builtin.«tuple.__lt__» ⟨[.ref l,.ref b],[]⟩)
   (fun _ R s=>s.heap.get? l=some { cls:=.type "tuple",dict:=dd,data:=.seq items n,slots:=sl }/\s.heap.get? b=some { cls:=.type "tuple",dict:=HI,data:=.seq mL n2,slots:=Cp } /\
    R (.ok (.ret (.bool (lexLt ns ms)))) s) :=
 .of_wp fun prog w A R s h=>by
  obtain⟨hp,g,d,tk,os⟩:=s; obtain⟨hl,hb,h⟩:=h;have f2:=oT;have z1:items.size=ns.length:=by rw [<-hi.length]; simp
  have z2:mL.size=ms.length:=by rw [<-hj.length]; simp
  wp_walk using bT hl,bT hb,wpAny_forIn_list _ (fun rest b s'=>b.1=none/\s'=⟨hp,g,d,tk,os⟩/\∃ (vs ws:List Value) (Sk Sm:List Int),rest=vs.zip ws /\
   kF vs Sk/\kF ws Sm/\Sk.length+mL.size=Sm.length+items.size/\R (.ok (.ret (.bool (lexLt Sk Sm)))) ⟨hp,g,d,tk,os⟩) _
  case turn =>
   rintro⟨y,x⟩ rest b s' ⟨yk,rfl,vs,ws,Sk,Sm,hz,Xk,VD,hlen,hR⟩;cases Xk with
   | nil=>rw [List.zip_nil_left] at hz; cases hz
   | cons a t Xj =>
    cases VD with
    | nil=>rw [List.zip_nil_right] at hz; cases hz
    | cons c u Xi =>
     rw [ye] at hz;injection hz with Xd hrest
     injection Xd with hy hx
     subst hy hx;rw [Fp] at hR;simp only [ah] at hlen;obtain⟨e,he,Uw⟩:=MO A.in1 ⟨hp,g,d,tk,os⟩ a t c u;refine ae (he prog w _ _ ?_);cases e with
     | true =>
      rw [if_pos (Uw.mp rfl)] at hR
      wp_walk
      exact⟨rfl,rfl,_,_,_,_,hrest,Xj,Xi,by lia,hR⟩
     | false =>
      rw [if_neg (fun q=>absurd (Uw.mpr q) eQ)] at hR;have Ui:=wY A.in1 ⟨hp,g,d,tk,os⟩ a t c u prog w
      wp_walk using Ui
      exact⟨_,rfl,by simpa using hR⟩
  case fin =>
   rintro⟨b1,b2⟩ s' ⟨yk,rfl,vs,ws,Sk,Sm,hz,Xk,VD,hlen,hR⟩;simp only at yk;subst yk;have hv:lexLt Sk Sm=decide (items.size < mL.size):=by
    cases Xk with
    | nil =>
     cases VD with
     | nil =>
      simp only [ar] at hlen;rw [yA];exact(decide_eq_false (by lia)).symm
     | cons c u hw =>
      simp only [ar,ah] at hlen;rw [xr];exact(decide_eq_true (by lia)).symm
    | cons a t hv =>
     cases VD with
     | nil =>
      simp only [ar,ah] at hlen;rw [xt];exact(decide_eq_false (by lia)).symm
     | cons c u hw =>
      rw [ye] at hz;cases hz
   rw [hv] at hR
   wp_walk
   exact⟨_,rfl,by simpa [sD] using hR⟩
  case h =>
   exact⟨rfl,rfl,items.toList,mL.toList,ns,ms,rfl,hi,hj,by lia,h⟩
end
section
variable {prog:bo} {w:World} {A:cx} {E:Value->ak->Prop} {s:ak}
theorem xk{l b:Addr}{items mL:Array Value}{ns ms:List Int}{Q:Value->ak->Prop}(hl:IsTup s.heap l items)(hb:IsTup s.heap b mL)(hi:kF items.toList ns)(hj:kF mL.toList ms)
  (hu:A.units < cLine) (h:Q (.bool (lexLt ns ms)) s):wpAny (model prog w) A (dA .Lt (.ref l) (.ref b)) Q E s:=by
 obtain⟨⟨cls,dd,data,sl⟩,ho,hc,n,hd⟩:=id hl;obtain⟨⟨M0,HI,data2,Cp⟩,zw,Bo,n2,hd2⟩:=id hb;simp only at hc hd Bo hd2;subst hc hd Bo hd2;exact vC (op:=.Lt) ⟨_,ho,rfl⟩ ⟨_,zw,rfl⟩ kS qU (pO _ _) (yt l b items mL n n2 dd HI sl Cp ns ms hi hj)
  ⟨ho,zw,show uc (lexLt ns ms)≠Value.notImplemented/\Q (.bool (lexLt ns ms)) s from⟨(fun x=>nomatch x),h⟩⟩ hu
theorem Po{t b:Addr}{vs ws:List Value}{Q:Value->ak->Prop}(ht:IsTup s.heap t vs.toArray)(hb:IsTup s.heap b ws.toArray)(hv:vs≠[])
  (h1:ws=[]->Q (.ref t) s) (h2:ws≠[]->Q (.ref s.heap.objs.size) { s with heap:=s.heap.push { cls:=.type "tuple",data:=.seq (vs++ws).toArray } })
  (hsz:vs.length+ws.length<=aT):wpAny (model prog w) A (gO .Add (.ref t) (.ref b)) Q E s:=by
 obtain⟨⟨cls,dd,data,sl⟩,ho,hc,n,hd⟩:=id ht;obtain⟨⟨M0,HI,data2,Cp⟩,zw,Bo,n2,hd2⟩:=id hb;simp only at hc hd Bo hd2;subst hc hd Bo hd2;have e:vs.toArray++ws.toArray=(vs++ws).toArray:=by simp
 by_cases hw:ws=[]
 ·exact concat_meets ⟨_,ho,rfl⟩ ⟨_,zw,rfl⟩ noFill_tuple_add seq_tuple_add Gz Eu (D1 _ _)
   (tuple_addW1 t b vs.toArray ws.toArray n n2 dd HI sl Cp (by simpa using hv) (by simp [hw])) ⟨ho,zw,h1 hw⟩
 ·refine concat_meets ⟨_,ho,rfl⟩ ⟨_,zw,rfl⟩ noFill_tuple_add seq_tuple_add Gz Eu (D1 _ _)
   (tuple_addW2 t b vs.toArray ws.toArray n n2 dd HI sl Cp (by simpa using hv) (by simpa using hw) (by rw [aJ,aJ]; exact hsz)) ⟨ho,zw,?_⟩
  rw [e];exact h2 hw
noncomputable def iY(n d:Nat):Option Int->Nat
 | none=>d
 | some v=>if v < 0 then (v+(n:Int)).toNat else min v.toNat n
theorem QE(n d:Nat)(hd:d<=n)(o:Option Int):iY n d o<=n:=by
 cases o with
 | none=>exact hd
 | some v =>
  show (if v < 0 then (v+(n:Int)).toNat else min v.toNat n)<=n;by_cases hv:v < 0
  ·rw [if_pos hv]; lia
  ·rw [if_neg hv]; exact Nat.min_le_right _ _
theorem HN(v:Int)(n d:Nat):(if v < 0 then max (v+(n:Int)) 0 else min v (n:Int))=((iY n d (some v):Nat):Int):=by
 show (if v < 0 then max (v+(n:Int)) 0 else min v (n:Int))=(((if v < 0 then (v+(n:Int)).toNat else min v.toNat n):Nat):Int);by_cases hv:v < 0
 ·simp only [if_pos hv]; lia
 ·simp only [if_neg hv]; lia
theorem Gm(lo hi:Option Int)(n:Nat):l7 lo hi 1 (n:Int)=(((iY n 0 lo:Nat):Int),((iY n n hi:Nat):Int)):=by
 have h1:¬ ((1:Int) < 0):=by lia
 unfold l7;simp only [h1,if_false];refine Prod.ext ?_ ?_
 ·cases lo with
  | none=>rfl
  | some v=>exact HN v n 0
 ·cases hi with
  | none=>rfl
  | some v=>exact HN v n n
theorem E1(i j:Nat):iJ (i:Int) (j:Int) 1=j - i:=by
 unfold iJ;have h1:(1:Int) > 0:=by lia
 simp only [h1,if_true,Int.ediv_one];split <;> lia
theorem wQ{v:Value}{o:Option Int}{Q:Option Int->ak->Prop}(p:IsPart v o)(h:Q o s):wpAny (model prog w) A (Builtin.Slice.slicePartIndex v) Q E s:=by
 cases p with
 | none=>exact slicePart_none h
 | int i t=>exact slicePart_int h
theorem uB{sl:Addr}{vl vu:Value}{lo hi:Option Int}{n:Nat}{Q:Int×Int×Nat->ak->Prop}(hs:s.heap.IsSliceOf sl vl vu .none)(pl:IsPart vl lo)(pu:IsPart vu hi)
  (h:Q (((iY n 0 lo:Nat):Int),1,iY n n hi - iY n 0 lo) s):wpAny (model prog w) A (vX (.ref sl) (pure (n:Int))) Q E s:=by
 obtain⟨os,Ul,X1,VN⟩:=id hs;unfold vX Builtin.Slice.sliceFields;refine ae (ae (wpAny_field Ul VN (x:=vl) rfl (ae (wpAny_field Ul VN (x:=vu) rfl (ae (wpAny_field Ul VN (x:=.none) rfl (aq ?_)))))));refine ae (slicePart_none ?_);show wpAny _ _ (if ((1:Int) == 0)=true then _ else _) _ _ s;rw [if_neg (by decide)];refine ae (wQ pl (ae (wQ pu (ae (aq ?_)))));show wpAny _ _ (match l7 lo hi 1 (n:Int) with | (lo,hi)=>pure (lo,(1:Int),iJ lo hi 1)) _ _ s;rw [Gm lo hi n];show wpAny _ _ (pure (((iY n 0 lo:Nat):Int),(1:Int),iJ ((iY n 0 lo:Nat):Int) ((iY n n hi:Nat):Int) 1)) _ _ s;rw [E1];exact aq h
theorem Ll(xs:Array Value)(i k:Nat):((cF k).filterMap fun (m:Nat)=>xs[((i:Int)+(m:Int) * 1).toNat]?).toArray=((xs.toList.drop i).take k).toArray:=by
 have e:(fun (m:Nat)=>xs[((i:Int)+(m:Int) * 1).toNat]?)=fun m=>xs[i+m]?:=by
  funext m;have:((i:Int)+(m:Int) * 1).toNat=i+m:=by lia
  rw [this]
 rw [e];have:=pick_run xs i k;rw [List.filterMap_map] at this;have e2:((fun x=>xs[x]?)∘fun x=>i+x)=fun m=>xs[i+m]?:=rfl;rw [e2] at this;rw [this]
theorem tO{t sl:Addr}{items:Array Value}{vl vu:Value}{lo hi:Option Int}{Q:Value->ak->Prop}(ht:IsTup s.heap t items)(hs:s.heap.IsSliceOf sl vl vu .none)(pl:IsPart vl lo)(pu:IsPart vu hi)
  (hw:¬ (iY items.size 0 lo=0/\iY items.size items.size hi=items.size))
  (h:Q (.ref s.heap.objs.size) { s with heap:=s.heap.push { cls:=.type "tuple",data:=.seq ((items.toList.drop (iY items.size 0 lo)).take (iY items.size items.size hi - iY items.size 0 lo)).toArray } })
  (hsz:items.size<=aT):wpAny (model prog w) A (getItem (.ref t) (.ref sl)) Q E s:=by
 have Hx:sizeOk (.seq ((items.toList.drop (iY items.size 0 lo)).take (iY items.size items.size hi - iY items.size 0 lo)).toArray):=by
  show ((items.toList.drop (iY items.size 0 lo)).take (iY items.size items.size hi - iY items.size 0 lo)).toArray.size<=aT;rw [aJ];exact bZ (bZ (List.length_take_le' _ _) (by rw [cK,bG]; exact Nat.sub_le _ _)) hsz
 have hj:iY items.size items.size hi<=items.size:=QE _ _ (aC _) hi;obtain⟨os,Ul,X1,VN⟩:=id hs;have hTs:s.TypeIs (.ref sl) "slice":=⟨os,Ul,X1⟩;unfold getItem
 try with_reducible refine cE ?_
 first | refine ae (aq ?_) | skip
 refine ae (wpAny_sequenceKey ht.typeIs (by decide) ?_);refine ae (gc (name:=cJ "__getitem__") ht.typeIs uf
  (eG uf ht.typeIs entry_tuple_getitem ?_ (args_tuple_getitem _ _)))
 show wpAny _ _ (Builtin.Tuple.tupleItemsOf (.ref t) >>= _) _ _ s;refine ae (tupleItemsOf_ ht ?_);refine ae (wpAny_typeOf hTs ?_);rw [if_pos (by decide)];refine ae (uB hs pl pu ?_);have Mh:¬ ((((iY items.size 0 lo:Nat):Int) == 0&&(1:Int) == 1&&(iY items.size items.size hi - iY items.size 0 lo) == items.size)=true):=by
  intro q;rw [aG,aG] at q;have q1:((iY items.size 0 lo:Nat):Int)=0:=eq_of_beq q.1.1;have q2:iY items.size items.size hi - iY items.size 0 lo=items.size:=eq_of_beq q.2;exact hw ⟨by lia,by lia⟩
 show wpAny _ _ (if (((iY items.size 0 lo:Nat):Int) == 0&&(1:Int) == 1&&(iY items.size items.size hi - iY items.size 0 lo) == items.size)=true then _ else _) _ _ s;rw [if_neg Mh,Ll]
 first
  | exact ae (m:=iW _) (di (aq ⟨_,rfl,aq h⟩) Hx)
  | exact ae (m:=iW _) (di (ae (aq (aq ⟨_,rfl,aq h⟩))) Hx)
  | exact ae (ae (m:=iW _) (di (aq (aq ⟨_,rfl,aq h⟩)) Hx))
  | exact ae (ae (m:=iW _) (di (aq ⟨_,rfl,aq h⟩) Hx))
end
end HT
namespace L2
open PySem PySem.Spec PyProof.Rows
noncomputable abbrev TO:=St->Hp->(Option Int->Hp->Prop)->Prop
theorem intsAre_of{ns:List Int}:∀ {us:List Value},Vals (ns.map V.int) us->kF us ns:=by
 induction ns with
 | nil=>intro us r; rw [br] at r; cases r; exact .nil
 | cons n ns ih =>
  intro us r;rw [aI] at r;cases r with
  | cons r1 r2 =>
   obtain⟨t,e⟩:=r1;subst e;exact .cons n t (ih r2)
section
variable {X:Cx} {e:Expr} {te:TE} {lo hi:Option Expr} {tl th:TO} {pos p2:Pos}
noncomputable def Yr(X:Cx)(r:V->Option Int->Option Int->Hp->VK->Prop):Prop :=
 ∀ (pins:List (Addr×Obj)) (s:ak) (σ:St) (H:Hp) (x:V) (v vl vu:Value) (lo hi:Option Int) (sl:Addr) (Q:VK),Inv X pins σ H s->RelV x v->s.heap.IsSliceOf sl vl vu .none->IsPart vl lo->IsPart vu hi->r x lo hi H Q ->
  ∃ T id,typeLookup (.type T) "__getitem__" = pure (some (.builtin id))/\s.TypeIs v T/\wpAny (model X.prog X.w) X.A (getItem v (.ref sl)) (EP X pins σ Q) X.xe s
noncomputable def DC(xs:List V)(lo hi:Option Int):List V:=(xs.drop (HT.iY xs.length 0 lo)).take (HT.iY xs.length xs.length hi - HT.iY xs.length 0 lo)
theorem vt(xs:List V)(lo hi:Option Int):(DC xs lo hi).length<=xs.length:=by
 unfold DC;rw [dG,cK];lia
noncomputable def Wu(K:ag):V->Option Int->Option Int->Hp->VK->Prop:=fun x lo hi H Q=>∃ a xs,x=.ref a/\x5 K H a xs /\
 ¬ (HT.iY xs.length 0 lo=0/\HT.iY xs.length xs.length hi=xs.length)/\∀ p,H p=none->Q (.ref p) (upd H p (.tup (DC xs lo hi)))
theorem QD:Yr X (Wu X.K):=by
 intro pins s σ H x v vl vu lo hi sl Q I rx hs pl pu h;obtain⟨a,xs,rfl,hx,hw,q⟩:=h;cases rx;obtain⟨a7,r,ht,hz⟩:=I.tuple hx;have hlen:a7.toArray.size=xs.length:=by rw [aJ]; exact r.length.symm
 refine⟨"tuple",_,PyProof.Rows.slot_tuple_getitem.lookup,ht.typeIs,?_⟩;refine HT.tO ht hs pl pu (by rw [hlen]; exact hw) ?_ (by rw [hlen]; exact hz);rw [hlen];refine⟨.ref s.heap.objs.size,_,I.laid (t':=s.toks) (o:=.tup (DC xs lo hi)) (fun b ob q=>ax _ q) (aC _) ?_,rfl,q _ (I.ck.fresh (aC _))⟩;exact⟨bZ (vt xs lo hi) hz,_,(r.drop (HT.iY xs.length 0 lo)).take (HT.iY xs.length xs.length hi - HT.iY xs.length 0 lo),IsTup.new _ _⟩
noncomputable def Ww(K:ag):R2:=fun x y H Q=>∃ a b ns ms,x=.ref a/\y=.ref b/\x5 K H a (ns.map V.int)/\x5 K H b (ms.map V.int)/\Q (.bl (HT.lexLt ns ms)) H
theorem QZ(hu:X.A.units < cLine):Ed X (dA .Lt) (Ww X.K):=by
 intro pins s σ H x y v u Q I rx ry h;obtain⟨a,b,ns,ms,rfl,rfl,ha,hb,q⟩:=h;cases rx;cases ry;obtain⟨a7,r1,p1,_⟩:=I.tuple ha;obtain⟨uN,r2,p2,_⟩:=I.tuple hb;have i1:kF a7.toArray.toList ns:=intsAre_of r1;have i2:kF uN.toArray.toList ms:=intsAre_of r2;exact HT.xk p1 p2 i1 i2 hu ⟨.bl (HT.lexLt ns ms),H,I,rfl,q⟩
noncomputable def Tr(K:ag):R2:=fun x y H Q=>∃ a b xs ys,x=.ref a/\y=.ref b/\x5 K H a xs/\x5 K H b ys/\xs≠[]/\xs.length+ys.length<=aT /\
 (ys=[]->Q (.ref a) H)/\(ys≠[]->∀ p,H p=none->Q (.ref p) (upd H p (.tup (xs++ys))))
theorem Vals.A8{xs:List V}{us:List Value}(r:Vals xs us):us=[]↔xs=[]:=by
 cases r with
 | nil=>simp
 | cons _ _=>simp
theorem OM:Ed X (gO .Add) (Tr X.K):=by
 intro pins s σ H x y v u Q I rx ry h;obtain⟨a,b,xs,ys,rfl,rfl,ha,hb,hx,hz,q1,q2⟩:=h;cases rx;cases ry;obtain⟨a7,r1,p1,_⟩:=I.tuple ha;obtain⟨uN,r2,p2,_⟩:=I.tuple hb;refine HT.Po p1 p2 (fun z=>hx (r1.A8.mp z)) (fun z=>⟨.ref a,H,I,rfl,q1 (r2.A8.mp z)⟩) (fun z=>?_) (by rw [<-r1.length,<-r2.length]; exact hz);refine⟨.ref s.heap.objs.size,_,I.laid (t':=s.toks) (o:=.tup (xs++ys)) (fun b ob q=>ax _ q) (aC _) ?_,rfl,q2 (fun w=>z (r2.A8.mpr w)) _ (I.ck.fresh (aC _))⟩;exact⟨by rw [aB]; exact hz,_,r1.append r2,IsTup.new _ _⟩
end
noncomputable def Hu(n:Nat)(i:Int):Option Nat:=if 0<=i then (if i < n then some i.toNat else none) else if -(n:Int)<=i then some (i+n).toNat else none
noncomputable def qu{α:Type}(xs:List α)(i:Int):Option α:=(Hu xs.length i).bind fun j=>xs[j]?
theorem Ht{n:Nat}{i:Int}{j:Nat}(h:Hu n i=some j):seqIndex? i n=some j/\j < n/\-(n:Int)<=i/\i < n:=by
 unfold Hu at h;by_cases h0:0<=i
 ·rw [if_pos h0] at h;by_cases h1:i < n
  ·rw [if_pos h1] at h;have e:i.toNat=j:=bp h;exact⟨by rw [seqIndex_of h0 h1,e],by lia,by lia,h1⟩
  ·rw [if_neg h1] at h; cases h
 ·rw [if_neg h0] at h;by_cases h1:-(n:Int)<=i
  ·rw [if_pos h1] at h;have e:(i+n).toNat=j:=bp h;exact⟨by rw [seqIndex_neg (by lia) h1,e],by lia,h1,by lia⟩
  ·rw [if_neg h1] at h; cases h
theorem HS{α:Type}{xs:List α}{i:Int}{v:α}(h:qu xs i=some v):∃ j,seqIndex? i xs.length=some j/\xs[j]?=some v/\j < xs.length/\-(xs.length:Int)<=i/\i < xs.length:=by
 unfold qu at h;cases e:Hu xs.length i with
 | none=>rw [e] at h; cases h
 | some j =>
  rw [e] at h;obtain⟨h1,h2,h3,h4⟩:=Ht e;exact⟨j,h1,h,h2,h3,h4⟩
noncomputable def Pw(b:Expr):Prop:=∀ o i,subscripted b false o i=operate [o,i] (getItem o i)
noncomputable def Yu(X:Cx)(r:R2):Prop :=
 ∀ (value slice:Expr) (pins:List (Addr×Obj)) (s:ak) (σ:St) (H:Hp) (x y:V) (v u:Value) (Q:VK),Inv X pins σ H s->RelV x v->RelV y u->r x y H Q ->
  subscripted slice false v u=operate [v,u] (getItem v u)->wpAny (model X.prog X.w) X.A (subscriptTail value slice v u) (EP X pins σ Q) X.xe s
noncomputable def MtR(X:Cx)(id:String)(r:V->List V->Hp->VK->Prop):Prop :=
 ∀ (pins:List (Addr×Obj)) (s:ak) (σ:St) (H:Hp) (x:V) (xs:List V) (v:Value) (us:List Value) (Q:VK),Inv X pins σ H s->RelV x v->Vals xs us->r x xs H Q ->
  wpAny (model X.prog X.w) X.A (call (.builtin id) (v :: us)) (EP X pins σ Q) X.xe s
section
variable {X:Cx} {a b:Expr} {ta tb:TE} {pos:Pos}
noncomputable def Wy(K:ag):R2:=fun x y H Q=>∃ p xs i v,x=.ref p/\y=.int i/\t7 K H p xs/\qu xs i=some v/\Q v H
noncomputable def Wx(K:ag):R2:=fun x y H Q=>∃ p xs i v,x=.ref p/\y=.int i/\x5 K H p xs/\qu xs i=some v/\Q v H
theorem Hs:Yu X (Wy X.K):=by
 intro value slice pins s σ H x y v u Q I rx ry h hs;obtain⟨p,xs,i,z,rfl,rfl,hq,he,q⟩:=h;cases rx;obtain⟨t,rfl⟩:=ry;obtain⟨a7,r,pl,hz⟩:=I.list hq;obtain⟨j,h1,h2,h3,h4,h5⟩:=HS he;obtain⟨w,ew,sN⟩:=r.get h2;have hl:=r.length;have hn:=xo;have fin:EP X pins σ Q w s:=⟨z,H,I,sN,q⟩;by_cases h0:0<=i
 ·have hj:i.toNat=j:=by
   rw [seqIndex_of h0 h5] at h1;exact bp h1
  exact item_listR pl.isList h0 (by lia) (by rw [hj]; simpa using ew) fin hs
 ·have hj:(i+(a7.toArray.size:Int)).toNat=j:=by
   rw [seqIndex_neg (by lia) h4] at h1;rw [aJ,<-hl];exact bp h1
  exact subscriptTail_builtinR (x:=w) pl.isList.typeIs slot_list_getitem.lookup
   (wpAny_getItem_list_neg (Q:=fun r s'=>r=w/\EP X pins σ Q r s') pl.isList (by lia) (by rw [aJ] <;> lia) (by lia) (by rw [hj]; simpa using ew) ⟨rfl,fin⟩) hs
theorem Rk:Yu X (Wx X.K):=by
 intro value slice pins s σ H x y v u Q I rx ry h hs;obtain⟨p,xs,i,z,rfl,rfl,hq,he,q⟩:=h;cases rx;obtain⟨t,rfl⟩:=ry;obtain⟨a7,r,pl,hz⟩:=I.tuple hq;obtain⟨j,h1,h2,h3,h4,h5⟩:=HS he;obtain⟨w,ew,sN⟩:=r.get h2;have hl:=r.length;have hn:=xo;have fin:EP X pins σ Q w s:=⟨z,H,I,sN,q⟩;exact subscriptTail_builtinR (x:=w) pl.typeIs slot_tuple_getitem.lookup
  (getItem_tuple (j:=j) (Q:=fun r s'=>r=w/\EP X pins σ Q r s') pl (by lia) (by lia) (by rw [aJ,<-hl]; exact h1) (by simpa using ew) ⟨rfl,fin⟩) hs
theorem Fg (a7:List Value) (n j:Nat) (u:Value):iD (·.setIfInBounds j u) { cls:=.type "list",data:=.seq a7.toArray n } = { cls:=.type "list",data:=.seq (a7.set j u).toArray n }:=by
 simp [iD]
theorem Inv.lst{pins:List (Addr×Obj)}{σ:St}{H:Hp}{s:ak}{p:Addr}{xs:List V}(I:Inv X pins σ H s)(h:H p=some (.lst xs)) :
  ∃ (a7:List Value) (n:Nat),Vals xs a7/\s.heap.get? p=some { cls:=.type "list",data:=.seq a7.toArray n }/\xs.length<=aT:=by
 obtain⟨z,a7,n,r,e⟩:=I.ck p _ h;exact⟨a7,n,r,e,z⟩
theorem Inv.Rb{pins:List (Addr×Obj)}{σ:St}{H:Hp}{s:ak}{p:Addr}{xs ys:List V}{a7 its':List Value}{n n':Nat}{f:Obj->Obj}(I:Inv X pins σ H s)(h:H p=some (.lst xs))
  (ho:s.heap.get? p=some { cls:=.type "list",data:=.seq a7.toArray n }) (hf:f { cls:=.type "list",data:=.seq a7.toArray n } = { cls:=.type "list",data:=.seq its'.toArray n' }) (r:Vals ys its') (hz:ys.length<=aT) (t:Nat) :
  Inv X pins σ (upd H p (.lst ys)) { s with heap:=s.heap.update p f,toks:=t }:=by
 have e:(s.heap.update p f).get? p=some { cls:=.type "list",data:=.seq its'.toArray n' }:=by
  rw [dE f ho (by rw [hf] <;> rfl),hf]
 refine I.write (x:=p) (e:=p) (by rw [h]; trivial) (.inl rfl) (fun b u hb q=>(cI _ _ (jZ hb)).trans q) ⟨_,e⟩ ?_;exact⟨hz,its',n',r,e⟩
noncomputable def Tp:V->V->V->Hp->(Hp->Prop)->Prop:=fun o i v H Q=>∃ p xs k j,o=.ref p/\i=.int k/\H p=some (.lst xs)/\Hu xs.length k=some j/\Q (upd H p (.lst (xs.set j v)))
theorem set_list:Ys X Tp:=by
 intro pins s σ H o i v ov iv u Q I ro ri rv h;obtain⟨p,xs,k,j,rfl,rfl,hp,hj,q⟩:=h;cases ro;obtain⟨t,rfl⟩:=ri;obtain⟨a7,n,r,ho,hz⟩:=I.lst hp;obtain⟨h1,h2,h3,h4⟩:=Ht hj;have hl:=r.length;have hn:=xo;have I':Inv X pins σ (upd H p (.lst (xs.set j v))) { s with heap:=s.heap.update p (iD (·.setIfInBounds j u)) } :=
  I.Rb hp ho (Fg a7 n j u) (r.set rv j) (by rw [cL]; exact hz) s.toks
 by_cases h0:0<=k
 ·have hk:k.toNat=j:=by
   rw [seqIndex_of h0 h4] at h1;exact bp h1
  exact PySem.W.ki_setAt ho h0 (by lia) (by rw [aJ,<-hl]; exact h4) (by rw [hk]; exact⟨_,I',q⟩)
 ·have hk:(k+(a7.toArray.size:Int)).toNat=j:=by
   rw [seqIndex_neg (by lia) h3] at h1;rw [aJ,<-hl];exact bp h1
  exact PySem.W.ki_setBack ho (by lia) (by rw [aJ,<-hl]; exact h3) (by lia) (by rw [hk]; exact⟨_,I',q⟩)
theorem AL(lo hi:Option Int)(n:Nat):(pG lo hi none n).1=((HT.iY n 0 lo:Nat):Int)/\(pG lo hi none n).2.1=((HT.iY n n hi:Nat):Int)/\(pG lo hi none n).2.2=1:=by
 refine⟨?_,?_,rfl⟩
 ·cases lo with
  | none=>simp [pG,HT.iY]
  | some i =>
   simp only [pG,HT.iY,Option.getD_none,show (1:Int) > 0 by decide,if_true];by_cases h:i < 0
   ·simp only [h,if_true] <;> lia
   ·simp only [h,if_false] <;> lia
 ·cases hi with
  | none=>simp [pG,HT.iY]
  | some i =>
   simp only [pG,HT.iY,Option.getD_none,show (1:Int) > 0 by decide,if_true];by_cases h:i < 0
   ·simp only [h,if_true] <;> lia
   ·simp only [h,if_false] <;> lia
theorem yw(a7:List Value)(lo hi:Option Int):slicePick a7.toArray lo hi none=((a7.drop (HT.iY a7.length 0 lo)).take (HT.iY a7.length a7.length hi - HT.iY a7.length 0 lo)).toArray:=by
 obtain⟨h1,h2,h3⟩:=AL lo hi a7.toArray.size;unfold slicePick;rw [h1,h2,h3];simp only [sliceRange_one,pick_run,aJ] <;> rfl
noncomputable def Wv(K:ag):V->Option Int->Option Int->Hp->VK->Prop:=fun x lo hi H Q=>∃ a xs,x=.ref a/\t7 K H a xs/\∀ p,H p=none->Q (.ref p) (upd H p (.lst (DC xs lo hi)))
theorem GQ:Yr X (Wv X.K):=by
 intro pins s σ H x v vl vu lo hi sl Q I rx hs pl pu h;obtain⟨a,xs,rfl,hx,q⟩:=h;cases rx;obtain⟨a7,r,ht,hz⟩:=I.list hx;have hlen:=r.length;refine⟨"list",_,slot_list_getitem.lookup,ht.isList.typeIs,?_⟩;refine wpAny_getItem_list_slice ht.isList hs pl pu .none (by simp) ?_ (by rw [aJ] <;> lia);rw [yw,<-hlen];refine⟨.ref s.heap.objs.size,_,I.laid (t':=s.toks) (o:=.lst (DC xs lo hi)) (fun b ob q=>ax _ q) (aC _) ?_,rfl,q _ (I.ck.fresh (aC _))⟩;exact⟨bZ (vt xs lo hi) hz,_,0,(r.drop (HT.iY xs.length 0 lo)).take (HT.iY xs.length xs.length hi - HT.iY xs.length 0 lo),bh _ rfl⟩
theorem BI:Qm X (.type "list") (fun xs H Q=>∃ p ys,xs=[.ref p]/\(t7 X.K H p ys\/x5 X.K H p ys)/\∀ l,H l=none->Q (.ref l) (upd H l (.lst ys))):=by
 intro pins s σ H xs us Q I r h;obtain⟨p,ys,rfl,hq,q⟩:=h;obtain⟨u,rfl,rx⟩:=vals1 r;cases rx;have fin:∀ (a7:List Value),Vals ys a7->ys.length<=aT->∀ (h':Heap) (c':Nat),(∀ b o',s.heap.get? b=some o'->h'.get? b=some o') ->
   h'.get? s.heap.objs.size=some { cls:=.type "list",dict:=none,data:=.seq a7.toArray c',slots:=#[] }->EP X pins σ Q (.ref s.heap.objs.size) { s with heap:=h' }:=fun a7 r' hz h' c' kp e =>
  ⟨.ref s.heap.objs.size,_,I.laid (t':=s.toks) kp (aC _) (show eZ X.prog X.w _ h' _ (.lst ys) from⟨hz,a7,c',r',e⟩),rfl,q _ (I.ck.fresh (aC _))⟩
 rcases hq with hq | hq
 ·obtain⟨a7,r',pl,hz⟩:=I.list hq;have hlen:=r'.length;obtain⟨o,ho,hc,n,hd⟩:=pl.isList;exact call_list_seq p (.inl rfl) ho hc hd (fun h' c' kp e=>fin a7 r' hz h' c' kp e) (by simp only [aJ] <;> lia)
 ·obtain⟨a7,r',pl,hz⟩:=I.tuple hq;have hlen:=r'.length;obtain⟨o,ho,hc,n,hd⟩:=pl;exact call_list_seq p (.inr rfl) ho hc hd (fun h' c' kp e=>fin a7 r' hz h' c' kp e) (by simp only [aJ] <;> lia)
noncomputable def tyV(K:ag)(T:String)(x:V)(H:Hp):Prop:=match x with
 | .str _=>T = "str"
 | .int _=>T = "int"
 | .ref p=>(T = "list"/\∃ xs,t7 K H p xs)\/(T = "tuple"/\∃ o,K.lookup p=some o/\o.cls=.type "tuple"/\o.dict=none) \/
   (T = "dict"/\((∃ aS,H p=some (.dK aS))\/∃ aS,H p=some (.dT aS)))\/(T = "set"/\∃ S n,H p=some (.set S n))
 | _=>False
theorem KH{pins:List (Addr×Obj)}{σ:St}{H:Hp}{s:ak}{T:String}{x:V}{v:Value}(I:Inv X pins σ H s)(r:RelV x v)(ty:tyV X.K T x H) :
  s.TypeIs v T/\∀ a,v=.ref a->∃ ob,s.heap.get? a=some ob/\ob.dict=none:=by
 cases x with
 | str z =>
  obtain⟨t,rfl⟩:=r;cases (show T = "str" from ty);exact⟨typeIs_str s z t,fun _ e=>nomatch e⟩
 | int i =>
  obtain⟨t,rfl⟩:=r;cases (show T = "int" from ty);exact⟨typeIs_int s i t,fun _ e=>nomatch e⟩
 | ref p =>
  cases r;rcases ty with ⟨rfl,xs,hq⟩ | ⟨rfl,o,hk,hc,hd⟩ | ⟨rfl,hk⟩ | ⟨rfl,S,n,hk⟩
  ·obtain⟨a7,_,pl,_⟩:=I.list hq;refine⟨pl.isList.typeIs,fun a e=>?_⟩;cases e;obtain⟨o,n,e,c,hd,_⟩:=pl;exact⟨o,e,hd⟩
  ·refine⟨⟨o,I.qg p o hk,hc⟩,fun a e=>?_⟩;cases e;exact⟨o,I.qg _ o hk,hd⟩
  ·have z:∃ o,s.heap.get? p=some o/\o.ExactDict:=by
    rcases hk with ⟨aS,hk⟩ | ⟨aS,hk⟩
    ·obtain⟨_,_,_,_,o,_,_,e,ex,_⟩:=I.ck p _ hk;exact⟨o,e,ex⟩
    ·obtain⟨_,_,_,_,o,_,_,e,ex,_⟩:=I.ck p _ hk;exact⟨o,e,ex⟩
   obtain⟨o,e,ex⟩:=z;refine⟨⟨o,e,ex.1⟩,fun a e2=>?_⟩;cases e2;exact⟨o,e,ex.2.1⟩
  ·obtain⟨o,_,_,_,e,ex,_⟩:=I.ck p _ hk;refine⟨⟨o,e,ex.1⟩,fun a e2=>?_⟩;cases e2;exact⟨o,e,ex.2.1⟩
 | _=>exact bf ty
variable {o e:Expr} {es:List Expr} {to:TE} {t:TA} {name:Str} {apos mO:Pos} {T id:String} {r:V->List V->Hp->VK->Prop}
/- xs.append(e),list.index on a TZ tuple .. are MtR facts of 06m -/
end
noncomputable def MtM(X:Cx)(id:String)(r:V->List V->Hp->VK->Prop):Prop :=
 ∀ (pins:List (Addr×Obj)) (s:ak) (σ:St) (H:Hp) (x:V) (xs:List V) (v:Value) (us:List Value) (Q:VK),Inv X pins σ H s->RelV x v->Vals xs us->r x xs H Q ->
  wpAny (model X.prog X.w) X.A (call (.builtin id) (v :: us)) (EP X pins σ Q) X.xe s
theorem Vals.one:∀ {x:V} {us:List Value},Vals [x] us->∃ u,us=[u]/\RelV x u:=by
 intro x us h;cases h with
 | cons r t=>cases t; exact⟨_,rfl,r⟩
section
variable {X:Cx} {pins:List (Addr×Obj)} {σ:St} {H:Hp} {s:ak} {l b:Addr} {xs ys zs:List V}
theorem Inv.Rf{a7 its':List Value}{n:Nat}{f:Array Value->Array Value}{t':Nat}(I:Inv X pins σ H s)(hH:H l=some (.lst xs))
  (e:s.heap.get? l=some { cls:=.type "list",data:=.seq a7.toArray n }) (hf:f a7.toArray=its'.toArray) (hv:Vals ys its') (hz:ys.length<=aT) :
  Inv X pins σ (upd H l (.lst ys)) { s with heap:=s.heap.update l (iD f),toks:=t' }:=by
 have q:=PySem.IsL.update e f;rw [hf] at q;refine I.write (x:=l) (e:=l) (by rw [hH]; exact trivial) (.inl rfl) (fun b' u hb hu=>(cI s.heap (iD f) (jZ hb)).trans hu) ⟨_,q⟩ ?_;exact⟨hz,its',_,hv,q⟩
theorem Inv.WZ{a7:List Value}{t':Nat}(I:Inv X pins σ H s)(hv:Vals ys a7)(hz:ys.length<=aT) :
  Inv X pins σ (upd H s.heap.objs.size (.lst ys)) { s with heap:=s.heap.push { cls:=.type "list",data:=.seq a7.toArray },toks:=t' } :=
 I.laid (fun _ _ q=>ax _ q) (aC _) ⟨hz,a7,0,hv,bh _ rfl⟩
theorem Inv.Rc (I:Inv X pins σ H s) (hH:H l=some (.lst xs)):xs.length<=aT/\∃ (a7:List Value) (n:Nat),Vals xs a7/\xs.length=a7.length/\s.heap.get? l=some { cls:=.type "list",data:=.seq a7.toArray n }:=by
 obtain⟨z,a7,n,r,e⟩:=I.ck l _ hH;exact⟨z,a7,n,r,r.length,e⟩
theorem LB{n:Nat}(h:n<=aT):i7 n=false:=by
 unfold i7;exact decide_eq_false (by lia)
end
section
variable {X:Cx}
noncomputable def Ou:V->List V->Hp->VK->Prop:=fun x vs H Q=>∃ l xs y,x=.ref l/\vs=[y]/\H l=some (.lst xs)/\xs.length < aT/\Q .cy (upd H l (.lst (xs++[y])))
theorem zq:MtM X "list.append" Ou:=by
 intro pins s σ H x vs v us Q I rx rv h;obtain⟨l,xs,y,rfl,rfl,hH,hz,q⟩:=h;cases rx;obtain⟨u,rfl,ru⟩:=rv.one;obtain⟨z,a7,n,r,hl,e⟩:=I.Rc hH;refine yc F.slot_list_append ⟨_,e,rfl⟩ F.entry_list_append (F.args_list_append_2 _ _) (PySem.list_append l a7.toArray n u (by rw [aJ]; lia)) ⟨e,?_⟩;refine⟨.cy,_,I.Rf (its':=a7++[u]) hH e (by simp) (r.append (.cons ru .nil)) ?_,rfl,q⟩;rw [aB,bV];lia
end
section
variable {κ:Type} [DecidableEq κ]
noncomputable def kX(aS:List (κ×V))(k:κ):Option V:=(aS.find? fun kv=>decide (kv.1=k)).map (·.2)
noncomputable def putK(aS:List (κ×V))(k:κ)(v:V):List (κ×V) :=
 if (aS.any fun kv=>decide (kv.1=k))=true then aS.map (fun kv=>if kv.1=k then (kv.1,v) else kv) else aS++[(k,v)]
theorem pQ{p:κ×V}{r:List (κ×V)}{k:κ}(e:p.1=k):kX (p :: r) k=some p.2:=by simp [kX,gW,e]
theorem pR{p:κ×V}{r:List (κ×V)}{k:κ}(e:¬ p.1=k):kX (p :: r) k=kX r k:=by simp [kX,gW,e]
theorem Ci(k:κ):∀ aS:List (κ×V),(aS.any fun kv=>decide (kv.1=k))=(kX aS k).isSome
 | []=>rfl
 | p :: r=>by
  rw [mQ];by_cases e:p.1=k
  ·simp only [pQ e,decide_eq_true e,Bool.true_or,Option.isSome_some]
  ·rw [pR e,decide_eq_false e,JU]; exact Ci k r
theorem vm(aS:List (κ×V))(k:κ)(v:V):(putK aS k v).length<=aS.length+1:=by
 unfold putK;split
 ·rw [aj]; lia
 ·rw [aB,ah,ar]; lia
theorem t8.nj{o:Option V}{u:Option Value}(r:t8 o u):o.isSome=u.isSome:=by
 cases o with
 | none=>cases u with
  | none=>rfl
  | some _=>exact(show False from r).elim
 | some _=>cases u with
  | none=>exact(show False from r).elim
  | some _=>rfl
theorem KV.val{aS:List (κ×V)}{vs:List (κ×Value)}(r:KV aS vs)(k:κ):t8 (kX aS k) (Kg vs k):=by
 unfold KV at r;induction r with
 | nil=>exact a8
 | @cons p q ps qs h t ih =>
  obtain⟨h1,h2⟩:=h;by_cases e:p.1=k
  ·have e':q.1=k:=h1.symm.trans e;have b:Kg (q :: qs) k=some q.2:=by simp [Kg,gW,e']
   rw [pQ e,b]; exact h2
  ·have e':¬ q.1=k:=fun z=>e (h1.trans z);have b:Kg (q :: qs) k=Kg qs k:=by simp [Kg,gW,e']
   rw [pR e,b]; exact ih
theorem KV.any{aS:List (κ×V)}{vs:List (κ×Value)}(r:KV aS vs)(k:κ):(aS.any fun kv=>decide (kv.1=k))=vs.any fun kv=>decide (kv.1=k):=by
 unfold KV at r;induction r with
 | nil=>rfl
 | cons h t ih=>rw [mQ,mQ,ih,h.1]
theorem KV.QM{aS:List (κ×V)}{vs:List (κ×Value)}(r:KV aS vs)(k:κ){y:V}{u:Value}(ry:RelV y u) :
  KV (aS.map fun kv=>if kv.1=k then (kv.1,y) else kv) (vs.map fun kv=>if kv.1=k then (kv.1,u) else kv):=by
 unfold KV at r ⊢;induction r with
 | nil=>exact .nil
 | @cons p q ps qs h t ih =>
  rw [aI,aI];refine .cons ?_ ih;obtain⟨h1,h2⟩:=h;by_cases e:p.1=k
  ·rw [if_pos e,if_pos (h1.symm.trans e)]; exact⟨h1,ry⟩
  ·rw [if_neg e,if_neg (fun z=>e (h1.trans z))]; exact⟨h1,h2⟩
theorem KV.put{aS:List (κ×V)}{vs:List (κ×Value)}(r:KV aS vs)(k:κ){y:V}{u:Value}(ry:RelV y u):KV (putK aS k y) (stored vs k u):=by
 unfold putK stored;rw [r.any k];by_cases e:(vs.any fun kv=>decide (kv.1=k))=true
 ·rw [if_pos e,if_pos e]; exact r.QM k ry
 ·rw [if_neg e,if_neg e]; exact Paired.snoc r ⟨rfl,ry⟩
theorem KV.length{aS:List (κ×V)}{vs:List (κ×Value)}(r:KV aS vs):aS.length=vs.length:=jY r
end
theorem C1{P:bo}{w:World}{k:Key}{u:Value}(r:RelV (kV k) u):(fK P w).is k u=true:=by
 cases k with
 | inl i=>obtain⟨t,e⟩:=(show ∃ t,u=pK i t from r); subst e; exact CP P w i t
 | inr x=>obtain⟨t,e⟩:=(show ∃ t,u=Km x t from r); subst e; exact CO P w x t
theorem zv{P:bo}{w:World}:∀ {ks:List Key} {us:List Value},Vals (ks.map kV) us->ItemsAre (fK P w) ks us
 | [],_,r=>by rw [br] at r; cases r; exact .nil
 | k :: ks,_,r=>by
  rw [aI] at r;cases r with
  | cons h t=>exact .cons (C1 h) (zv t)
noncomputable abbrev KT(H:Hp):List (List Key×V)->List (List Key×Addr×Value)->Prop:=Paired fun p q=>p.1=q.1/\H q.2.1=some (.tup (p.1.map kV))/\RelV p.2 q.2.2
theorem KT.val{H:Hp}{aS:List (List Key×V)}{xs:List (List Key×Addr×Value)}(r:KT H aS xs)(k:List Key):t8 (kX aS k) ((atKey xs k).map (·.2)):=by
 induction r with
 | nil=>exact a8
 | @cons p q ps qs h t ih =>
  obtain⟨h1,_,h2⟩:=h;by_cases e:p.1=k
  ·have e':q.1=k:=h1.symm.trans e;have b:atKey (q :: qs) k=some q.2:=by simp [atKey,gW,e']
   rw [pQ e,b]; exact h2
  ·have e':¬ q.1=k:=fun z=>e (h1.trans z);have b:atKey (q :: qs) k=atKey qs k:=by simp [atKey,gW,e']
   rw [pR e,b]; exact ih
theorem KT.QM{H:Hp}{aS:List (List Key×V)}{xs:List (List Key×Addr×Value)}(r:KT H aS xs)(k:List Key){y:V}{u:Value}(ry:RelV y u) :
  KT H (aS.map fun kv=>if kv.1=k then (kv.1,y) else kv) (xs.map (putAt k u)):=by
 induction r with
 | nil=>exact .nil
 | @cons p q ps qs h t ih =>
  rw [aI,aI];refine .cons ?_ ih;obtain⟨h1,h2,h3⟩:=h;unfold putAt;by_cases e:p.1=k
  ·rw [if_pos e,if_pos (h1.symm.trans e)]; exact⟨h1,h2,ry⟩
  ·rw [if_neg e,if_neg (fun z=>e (h1.trans z))]; exact⟨h1,h2,h3⟩
theorem KT.put{H:Hp}{aS:List (List Key×V)}{xs:List (List Key×Addr×Value)}(r:KT H aS xs)(k:List Key){b:Addr}{y:V}{u:Value}(hb:H b=some (.tup (k.map kV)))(ry:RelV y u) :
  KT H (putK aS k y) (storedH xs k b u):=by
 have e:(aS.any fun kv=>decide (kv.1=k))=(atKey xs k).isSome:=by
  rw [Ci,(r.val k).nj,kN]
 unfold putK storedH;rw [e];by_cases q:(atKey xs k).isSome=true
 ·rw [if_pos q,if_pos q]; exact r.QM k ry
 ·rw [if_neg q,if_neg q]; exact Paired.snoc r ⟨rfl,hb,ry⟩
theorem KT.keeps{H H':Hp}{aS:List (List Key×V)}{xs:List (List Key×Addr×Value)}(r:KT H aS xs)(ht:∀ b ys,H b=some (.tup ys)->H' b=some (.tup ys)):KT H' aS xs :=
 Paired.Q8 r fun _ _ z=>⟨z.1,ht _ _ z.2.1,z.2.2⟩
section
variable {P:bo} {w:World} {H:Hp} {h:Heap} {a:Addr}
theorem PQ{u:HO}(ok:pq P w H h)(e:Rd H a u):eZ P w H h a u:=e.ok ok
theorem vq{aS:List (Key×V)}(ok:pq P w H h)(e:Rd H a (.dK aS)):aS.length<=aT/\(a == fL)=false/\∃ vs,KV aS vs/\h.DictOf (fK P w) a vs :=
 show eZ P w H h a (.dK aS) from PQ ok e
theorem HD{aS:List (Key×V)}(ok:pq P w H h)(e:H a=some (.dK aS)):aS.length<=aT/\(a == fL)=false/\∃ vs,KV aS vs/\h.DictOf (fK P w) a vs:=vq ok (.inl e)
theorem xy{ks:List Key}(ok:pq P w H h)(e:H a=some (.tup (ks.map kV))):(Ca (fK P w)).is h ks a:=by
 obtain⟨_,a7,r,o,h1,h2,n,h3⟩:=(show eZ P w H h a (.tup (ks.map kV)) from ok a _ e);exact⟨o,a7.toArray,n,h1,h2,h3,by simpa using zv r⟩
theorem zI{aS:List (List Key×V)}(ok:pq P w H h)(e:Rd H a (.dT aS)):aS.length<=aT/\(a == fL)=false /\
  ∃ xs,KT H aS xs/\h.DictOfH (Ca (fK P w)) a xs:=by
 obtain⟨z,y,xs,r,o,es,ep,h1,h2,h3,h4,h5⟩:=(show eZ P w H h a (.dT aS) from PQ ok e);refine⟨z,y,xs,r,o,es,ep,h1,h2,h3,h4,fun x hx=>?_,h5⟩;have all:∀ {l:List (List Key×V)} {m:List (List Key×Addr×Value)},KT H l m->∀ x∈m,(Ca (fK P w)).is h x.1 x.2.1:=by
  intro l m q;induction q with
  | nil=>intro x hx; exact nomatch hx
  | @cons p q ps qs hq t ih =>
   intro x hx;rcases List.mem_cons.mp hx with e | hx
   ·subst e;exact xy ok (by rw [<-hq.1]; exact hq.2.1)
   ·exact ih x hx
 exact all r x hx
theorem Qc{aS:List (List Key×V)}(ok:pq P w H h)(e:H a=some (.dT aS)):aS.length<=aT/\(a == fL)=false /\
  ∃ xs,KT H aS xs/\h.DictOfH (Ca (fK P w)) a xs:=zI ok (.inl e)
end
noncomputable def x9(H:Hp)(a:Addr)(y:V)(r:Option V):Prop :=
 (∃ aS k,Rd H a (.dK aS)/\y=kV k/\r=kX aS k)\/∃ aS k b,Rd H a (.dT aS)/\y=.ref b/\H b=some (.tup (k.map kV))/\r=kX aS k
noncomputable def JM(H:Hp)(a:Addr)(y v:V)(H':Hp):Prop :=
 (∃ aS k,H a=some (.dK aS)/\y=kV k/\aS.length < aT/\H'=upd H a (.dK (putK aS k v))) \/
 ∃ aS k b,H a=some (.dT aS)/\y=.ref b/\H b=some (.tup (k.map kV))/\aS.length < aT/\H'=upd H a (.dT (putK aS k v))
theorem x9.k{H:Hp}{a:Addr}{aS:List (Key×V)}{k:Key}(e:H a=some (.dK aS)):x9 H a (kV k) (kX aS k):=.inl ⟨aS,k,.inl e,rfl,rfl⟩
theorem x9.t{H:Hp}{a b:Addr}{aS:List (List Key×V)}{k:List Key}(e:H a=some (.dT aS))(eb:H b=some (.tup (k.map kV))):x9 H a (.ref b) (kX aS k):=.inr ⟨aS,k,b,.inl e,rfl,eb,rfl⟩
theorem JM.k{H:Hp}{a:Addr}{aS:List (Key×V)}{k:Key}{v:V}(e:H a=some (.dK aS))(hl:aS.length < aT):JM H a (kV k) v (upd H a (.dK (putK aS k v))):=.inl ⟨aS,k,e,rfl,hl,rfl⟩
theorem JM.t{H:Hp}{a b:Addr}{aS:List (List Key×V)}{k:List Key}{v:V}(e:H a=some (.dT aS))(eb:H b=some (.tup (k.map kV)))(hl:aS.length < aT) :
  JM H a (.ref b) v (upd H a (.dT (putK aS k v))):=.inr ⟨aS,k,b,e,rfl,eb,hl,rfl⟩
section
variable {X:Cx} {pins:List (Addr×Obj)} {σ:St} {H:Hp} {s:ak} {a:Addr} {y v:V} {u r:Value} {o:Option V} {A:cx} {E:Value->ak->Prop}
theorem Inv.big(I:Inv X pins σ H s):fL < s.heap.objs.size:=by
 have h:aO < s.heap.objs.size:=(I.mod.glob.keeps I.bk).lt;exact NQ (by decide) h
theorem uU{Q:Value->ak->Prop}(hu:A.units+1 < cLine)(I:Inv X pins σ H s)(g:x9 H a y (some v))(ry:RelV y u)(h:∀ w' s',Inv X pins σ H s'->RelV v w'->Q w' s') :
  wpAny (model X.prog X.w) A (getItem (.ref a) u) Q E s:=by
 rcases g with ⟨aS,k,e,ey,l⟩ | ⟨aS,k,b,e,ey,eb,l⟩
 ·subst ey;obtain⟨z,hd,vs,rel,dd⟩:=vq I.ck e;obtain⟨w',hw,sN⟩:=t8.some_of (v:=v) (o:=Kg vs k) (by rw [l]; exact rel.val k);exact wpAny_getItem_of (C1 ry) dd.mapOf hw (h w' _ (I.tok _) sN)
 ·subst ey;cases (show u=dI b from ry);obtain⟨z,hd,xs,rel,dd⟩:=zI I.ck e;obtain⟨w',hw,sN⟩:=t8.some_of (v:=v) (o:=(atKey xs k).map (·.2)) (by rw [l]; exact rel.val k);obtain⟨p,hp,J7⟩:=Option.map_eq_some_iff.mp hw;refine wpAny_getItem_heap (rk hu) (xy I.ck eb) dd hp ?_;rw [J7];exact h w' _ (I.tok _) sN
theorem U2{Q:Value->ak->Prop}(hu:A.units+1 < cLine)(I:Inv X pins σ H s)(g:x9 H a y o)(ry:RelV y u)(h:∀ s',Inv X pins σ H s'->Q (.bool o.isSome) s') :
  wpAny (model X.prog X.w) A (dA .In u (.ref a)) Q E s:=by
 rcases g with ⟨aS,k,e,ey,l⟩ | ⟨aS,k,b,e,ey,eb,l⟩
 ·subst ey;obtain⟨z,hd,vs,rel,dd⟩:=vq I.ck e;refine wpAny_in_of (C1 ry) hd dd.mapOf ?_;rw [<-(rel.val k).nj,<-l];exact h _ (I.tok _)
 ·subst ey;cases (show u=dI b from ry);obtain⟨z,hd,xs,rel,dd⟩:=zI I.ck e;refine wpAny_in_heap (rk hu) (xy I.ck eb) hd dd ?_;have q:=(rel.val k).nj;rw [kN] at q;rw [<-q,<-l];exact h _ (I.tok _)
theorem HK{Q:Value->ak->Prop}(hu:A.units+1 < cLine)(I:Inv X pins σ H s)(g:x9 H a y o)(ry:RelV y u)(h:∀ s',Inv X pins σ H s'->Q (.bool (!o.isSome)) s') :
  wpAny (model X.prog X.w) A (dA .NotIn u (.ref a)) Q E s:=by
 rcases g with ⟨aS,k,e,ey,l⟩ | ⟨aS,k,b,e,ey,eb,l⟩
 ·subst ey;obtain⟨z,hd,vs,rel,dd⟩:=vq I.ck e;refine wpAny_notIn_of (C1 ry) hd dd.mapOf ?_;rw [<-(rel.val k).nj,<-l];exact h _ (I.tok _)
 ·subst ey;cases (show u=dI b from ry);obtain⟨z,hd,xs,rel,dd⟩:=zI I.ck e;refine wpAny_notIn_heap (rk hu) (xy I.ck eb) hd dd ?_;have q:=(rel.val k).nj;rw [kN] at q;rw [<-q,<-l];exact h _ (I.tok _)
theorem HJ{h':Heap}{t':Nat}{ob:HO}(I:Inv X pins σ H s)(mu:Vi (H a))(hs:lV a s.heap h')(he:∃ q,h'.get? a=some q)(new:eZ X.prog X.w (upd H a ob) h' a ob) :
  Inv X pins σ (upd H a ob) { s with heap:=h',toks:=t' } :=
 I.write (x:=a) (e:=a) mu (.inl rfl) (fun b q hb z=>(hs.2 b hb).trans z) he new
theorem RY{P:bo}{w:World}{H':Hp}{h':Heap}{aS:List (Key×V)}{vs:List (Key×Value)}(z:aS.length<=aT)(hd:(a == fL)=false)(rel:KV aS vs)(dd:h'.DictOf (fK P w) a vs) :
  eZ P w H' h' a (.dK aS):=⟨z,hd,vs,rel,dd⟩
theorem JB{H':Hp}{Q:Unit->ak->Prop}(hu:A.units+1 < cLine)(I:Inv X pins σ H s)(g:JM H a y v H')(ry:RelV y u)(rv:RelV v r)(h:∀ s',Inv X pins σ H' s'->Q () s') :
  wpAny (model X.prog X.w) A (setItem (.ref a) u r) Q E s:=by
 rcases g with ⟨aS,k,e,ey,l,eH⟩ | ⟨aS,k,b,e,ey,eb,l,eH⟩
 ·subst ey eH;obtain⟨z,hd,vs,rel,dd⟩:=HD I.ck e;have hz:vs.length<=aT:=by rw [<-rel.length]; exact z
  have hl:(putK aS k v).length<=aT:=by have:=vm aS k v; lia
  refine wpAny_setItem_pairs (hsz:=hz) (C1 ry) dd fun h' RZ hs=>h _ ?_;have he:∃ q,h'.get? a=some q:=let ⟨q,_,_,hq,_⟩:=RZ; ⟨q,hq⟩
  exact HJ I (by rw [e]; exact a8) hs he (RY hl hd (rel.put k rv) RZ)
 ·subst ey eH;cases (show u=dI b from ry);obtain⟨z,hd,xs,rel,dd⟩:=Qc I.ck e;have hz:xs.length<=aT:=by rw [<-jY rel]; exact z
  have hl:(putK aS k v).length<=aT:=by have:=vm aS k v; lia
  refine wpAny_setItem_heap (hsz:=hz) (rk hu) (xy I.ck eb) dd fun h' RZ hs=>h _ ?_;obtain⟨q,es,ep,hq,h2,h3,h4,_,h5⟩:=RZ;refine HJ I (by rw [e]; exact a8) hs ⟨q,hq⟩ ⟨hl,hd,_,(rel.put k eb rv).keeps fun c ys ec=>?_,q,es,ep,hq,h2,h3,h4,h5⟩;rw [bu (TX ec e (fun z=>nomatch z))];exact ec
end
section
variable {X:Cx} {pins:List (Addr×Obj)} {σ:St} {H:Hp} {s:ak} {a:Addr} {aS:List (Key×V)} {k:Key} {u:Value} {A:cx} {E:Value->ak->Prop}
theorem Qd {Q:Value->ak->Prop} (I:Inv X pins σ H s) (e:Rd H a (.dK aS)) (h:∀ t s',Inv X pins σ H s'->Q (.int aS.length t) s'):wpAny (model X.prog X.w) A (call (.builtin "len") [.ref a]) Q E s:=by
 obtain⟨z,hd,vs,rel,dd⟩:=vq I.ck e;refine call_len_dict hd dd (by rw [<-rel.length]; rw [bN] at z; lia) ?_;rw [<-rel.length];exact h _ _ (I.tok _)
theorem Ph{Q:Bool->ak->Prop}(I:Inv X pins σ H s)(e:Rd H a (.dK aS))(h:∀ s',Inv X pins σ H s'->Q (!aS.isEmpty) s'):wpAny (model X.prog X.w) A (truthy (.ref a)) Q E s:=by
 obtain⟨z,hd,vs,rel,dd⟩:=vq I.ck e;refine Ee hd dd (by rw [<-rel.length]; rw [bN] at z; lia) ?_;have q:aS.isEmpty=vs.isEmpty:=by cases rel <;> rfl
 rw [<-q];exact h _ (I.tok _)
end
theorem qp {X:Cx} {pins:List (Addr×Obj)} {σ:St} {H:Hp} {s:ak} {a:Addr} {y:V} {o:Option V} (I:Inv X pins σ H s) (g:x9 H a y o):s.TypeIs (.ref a) "dict":=by
 rcases g with ⟨aS,k,e,_,_⟩ | ⟨aS,k,b,e,_,_,_⟩
 ·obtain⟨_,_,vs,_,dd⟩:=vq I.ck e;exact dd.typeIs
 ·obtain⟨_,_,xs,_,dd⟩:=zI I.ck e;exact dd.typeIs
theorem MQ {P:bo} {w:World} {H:Hp} (h:Heap) (hb:fL < h.objs.size):eZ P w H (h.push { cls:=.type "dict",data:=.dict #[] }) h.objs.size (.dK []) :=
 ⟨bY _,beq_eq_false_iff_ne.mpr (jZ (bA hb)),[],.nil,Heap.DictOf.new h⟩
noncomputable def Qy:TE:=fun _ H Q=>∀ p,H p=none->Q (.ref p) (upd H p (.dK []))
section
variable {X:Cx} {pos:Pos}
theorem Lr:PE X (.Dict [] [] pos) Qy:=fun pins s σ H Q I h =>
 wpAny_Dict_empty ⟨.ref s.heap.objs.size,_,I.laid (a:=s.heap.objs.size) (o:=.dK []) (t':=s.toks) (fun _ _ q=>ax _ q) (aC _) (MQ s.heap I.big),rfl,h _ (I.ck.fresh (aC _))⟩
end
structure M1(X:Cx)(o:Expr)(m:Str)(apos:Pos)(e:Expr)(mO:Pos):Prop where
 base:um o m X.env (eval o X.env)=eval o X.env
 rZ:((gP mO (a9 [e] X.env)).all (fun x=>!x.1)&&(backToKw mO (zY [] X.env)).all (fun x=>x.1.isSome)
  && decide (([e]:List Expr).length+([]:List Kv).length+(if ([]:List Kv).isEmpty then 0 else 1) < 30))=true
 line:(apos.endLine == mO.line)=true
 trees:gP mO (a9 [e] X.env)=[(false,eval e X.env)]
structure M2(X:Cx)(o:Expr)(m:Str)(apos:Pos)(e f:Expr)(mO:Pos):Prop where
 base:um o m X.env (eval o X.env)=eval o X.env
 rZ:((gP mO (a9 [e,f] X.env)).all (fun x=>!x.1)&&(backToKw mO (zY [] X.env)).all (fun x=>x.1.isSome)
  && decide (([e,f]:List Expr).length+([]:List Kv).length+(if ([]:List Kv).isEmpty then 0 else 1) < 30))=true
 line:(apos.endLine == mO.line)=true
 trees:gP mO (a9 [e,f] X.env)=[(false,eval e X.env),(false,eval f X.env)]
end L2
namespace Z2
open PySem PySem.W PySem.Calls PyProof.Rows
theorem vN{P:Params}{h:Heap}:∀ (ns:List Int) (vs:List Value),WellAll P h vs (ns.map WData.int)->kF vs ns:=by
 intro ns;induction ns with
 | nil =>
  intro vs w;rw [br] at w;cases w;exact .nil
 | cons n ns ih =>
  intro vs w;rw [aI] at w;cases w with
  | cons a b =>
   cases a;exact .cons _ _ (ih _ b)
theorem IE{l:OpenLaw}{n:Nat}(hn:l.most=some n){P:Params}{h:Heap}{args:List WData}{vals:List Value}
  (Jo:l.row.toRowW.claim.pre args=true) (Xh:WellAll P h vals args) :
  ∃ a vs ns,vals=[dI a]/\args=[WData.list (ns.map WData.int)]/\h.get? a=some { cls:=.type "list",data:=.seq vs.toArray }/\kF vs ns/\ns.length<=n:=by
 have hsh:WShape.hasAll [] args [.list .int]=true:=(pre_splitW Jo).1;have hc:l.pre.holds [] { args:=args } = true:=(pre_splitW Jo).2;obtain⟨d,r,rfl,h1,h2⟩:=hasAllW_cons hsh;obtain rfl:=hasAllW_nil h2;obtain⟨xs,rfl,h3⟩:=hasW_list h1;obtain⟨ns,rfl⟩:=items_int h3;have hlen:ns.length<=n:=by
  unfold OpenLaw.pre at hc;have h4:(WTm.not (.lt (.lit (.int (n:Int))) (.len (.arg 0)))).holds [] { args:=[.list (ns.map .int)] } = true:=by
   have h4:=(holds_andW hc).1;rw [hn] at h4;exact h4
  have h5:=condW_of h4 (w_not (w_lt w_lit (w_len_list (w_arg rfl))));rw [aj] at h5;refine Nat.le_of_not_lt fun q=>?_;have q':(n:Int) < ((ns.length:Nat):Int):=by lia
  first
   | (rw [decide_eq_true q'] at h5; exact absurd h5 (by decide))
   | (simp at h5; lia)
 cases Xh with
 | cons w1 w2 =>
  cases w2;cases w1 with
  | list ho ql=>exact⟨_,_,ns,rfl,rfl,ho,vN ns _ ql,hlen⟩
theorem IT(l:OpenLaw)(args:List WData):l.row.toRowW.claim.post args (.bool true) args=true :=
 postW_of (r:=l.row.toRowW) (X:=(true == true))
  (show WShape.has [] (.bool true) .bool=true by first | rfl | decide | simp [WShape.has,WShape.arms,WShape.armsAll])
  (show (WTm.eq .res (.lit (.bool true))).value [] { args:=args,res:=some (.bool true),after:=args } = some (.bool (true == true)) from w_eq_bool (w_res rfl) w_lit) rfl
theorem DI{l:OpenLaw}{n:Nat}{q:bo}{loose:List Str}{XP:(Str->Option Value)->Heap->Prop}{YP:World->Heap->Prop}{d:DefRec}
  (hn:l.most=some n) (UG:d.params.defaults=[])
  (call:∀ (w:World) (gS eV:ak) (mg mb:Str->Option Value) (fa:Addr) (o:Obj) (pm cd doc:Value) (a:Addr) (vs:List Value) (ns:List Int),
   Ground q loose [] XP w gS mg mb eV.heap->YP w eV.heap ->
   eV.heap.get? fa=some o->o.data=.func (docDef d.name d.params d.body d.scope pm cd doc)->eV.heap.CodeRec cd d.name->mg d.name=some (.ref fa) ->
   eV.heap.get? a=some { cls:=.type "list",data:=.seq vs.toArray }->kF vs ns->ns.length<=n->eV.gens=#[] ->
   mF (model l.prog w) El (.call (.ref fa) ⟨[.ref a],[]⟩) (fun r s'=>r=.ok (.ret (.bool true))/\OldK eV.heap s'.heap/\s'.os=eV.os/\wH s'.gens) eV) :
  WalkO q loose XP YP l.row.toRowW d [] (fun f vs=>Gw f vs):=by
 intro w gS eV mg mb G Y fa o pm cd doc dV kV ho hd B5 hD Uo hg args vals as Jo abk hrd Xh Zj;obtain rfl:dV=.none:=Dflts.none hD UG;obtain rfl:kV=.none:=Dflts.noKw hD;obtain⟨a,vs,ns,rfl,rfl,Rx,hints,hlen⟩:=IE hn Jo Xh;refine enter_call (jl (call w gS eV mg mb fa o pm cd doc a vs ns G Y ho (fd_plain hd) B5 Uo Rx hints hlen hg) fun r s' hq=>?_);obtain⟨rfl,h2,h3,h4⟩:=hq;exact⟨.inl ⟨.bool true,.bool true,[],rfl,fun _=>rfl,.bool true,IT l _,fun _=>⟨List.Pairwise.nil,fun _ hm=>(nomatch hm)⟩⟩,h2,h3,h4⟩
end Z2
namespace L2
open PySem PySem.Spec PyProof.Rows
theorem y0:∀ {vs:List Value} {ns:List Int},kF vs ns->Vals (ns.map V.int) vs
 | _,_,.nil=>.nil
 | _,_,.cons n t h=>.cons ⟨t,rfl⟩ (y0 h)
noncomputable def Pz(H:Hp):Prop:=∀ b,H b=none\/∃ o xs,H b=some (.hZ o (.lst xs))
theorem LL{P:bo}{w:World}{K:ag}{mg mb:Str->Option Value}{CX:JN}{k:Nat}{fa a:Addr}{fd:aL}{x:Str}{sp:Sp}{eV:ak}{vs:List Value}{ns:List Int}
  (KX:K.In eV.heap) (Bm:eV.heap.Ns aO mg) (hb:eV.heap.Ns builtinsNs mb) (hbb:∀ x:Str,x≠"__name__"->mb x=dj x) (XG:eV.heap.NoLimit) (hg:eV.gens=#[])
  (ha:eV.heap.get? a=some { cls:=.type "list",data:=.seq vs.toArray }) (hi:kF vs ns) (hl:ns.length<=aT) (hr:iC k El)
  (F:∀ base:Heap,K.In base->base.Ns aO mg->gi P w K mg base CX k fa fd [x] sp) (UJ:∀ (s:ak) (u:Value),Kw s fd ⟨[u],[]⟩ [(x,u)])
  (Ea:∀ H:Hp,Pz H->t7 K H a (ns.map V.int)->sp [.ref a] H (fun v _=>v=.bl true) fun _ _ _=>False)
  (X7:∀ H e s',CX [] H eV (fun _ _ _=>False) e s'->False) :
  mF (model P w) El (.call (.ref fa) ⟨[.ref a],[]⟩) (fun r s'=>r=.ok (.ret (.bool true))/\OldK eV.heap s'.heap/\s'.os=eV.os/\wH s'.gens) eV:=by
 have rv:=y0 hi;have W0:=hi.length;have core:∀ H:Hp,Pz H->t7 K H a (ns.map V.int)->pq P w H eV.heap->(∀ b,H b≠none->b=a)->(H a≠none->K.lookup a=none) ->
   mF (model P w) El (.call (.ref fa) ⟨[.ref a],[]⟩) (fun r s'=>r=.ok (.ret (.bool true))/\OldK eV.heap s'.heap/\s'.os=eV.os/\wH s'.gens) eV:=by
  intro H hO hS ck hA hK;have HQ:∀ {b:Addr} {o:Obj},eV.heap.get? b=some o->H b=none->(Bn eV.heap H).get? b=some o:=fun e n=>Mi e n;have TR:∀ {b:Addr} {o:Obj} {es:Array lE} {ep:Nat},eV.heap.get? b=some o->o.data=.dict es ep->H b=none:=fun {b o es ep} e d=>by
   cases q:H b with
   | none=>rfl
   | some u =>
    have e':b=a:=hA b (by rw [q]; simp);subst e';rw [ha] at e; cases e;have d':Data.seq vs.toArray _=Data.dict es ep:=d;cases d'
  have Vx:∀ {b:Addr} {m:Str->Option Value},eV.heap.Ns b m->(Bn eV.heap H).Ns b m:=fun {b m} ⟨o,es,ep,e,d,r⟩=>⟨o,es,ep,HQ e (TR e d),d,r⟩;have ZG:K.In (Bn eV.heap H):=fun b o e=>HQ (KX b o e) (by
   cases q:H b with
   | none=>rfl
   | some u =>
    have e':b=a:=hA b (by rw [q]; simp);subst e';rw [hK (by rw [q]; simp)] at e; cases e)
  have hM:Mod K mg (Bn eV.heap H):=⟨ZG,Vx Bm,⟨mb,Vx hb,hbb⟩,let ⟨mc,h1,h2⟩:=XG; ⟨mc,Vx h1,h2⟩⟩;have e0:DU P w K mg (Bn eV.heap H) El [] eV H:=⟨rfl,hM,fun b o e=>OO e,Nat.le_of_eq (Jq _ _),trivial,fun b hb=>absurd (show b∈([]:List Addr) from hb) (by simp),ck,.of_eq hg⟩;refine jl ((F _ ZG (Vx Bm)).run El [] eV H ⟨[.ref a],[]⟩ [.ref a] [.ref a] _ _ hr e0 (UJ eV (.ref a)) (.cons rfl .nil) (Ea H hO hS)) fun r s' h=>?_;cases r with
  | error e=>exact(X7 H e s' h).elim
  | ok fl =>
   cases fl with
   | next=>exact bf h
   | brk=>exact bf h
   | cont=>exact bf h
   | ret u =>
    obtain⟨v,H',os,bare,un,FC,r',q⟩:=h;have q':v=.bl true:=q;subst q';obtain rfl:u=uc true:=r';refine⟨rfl,OldK.of_keep fun b o e=>?_,os,bare⟩;cases q:H b with
    | none=>exact un.keep b o e q (by intro z; exact absurd (show b∈([]:List Addr) from z) (by simp)) (by simp)
    | some u =>
     rcases hO b with z | ⟨ob,xs,z⟩
     ·rw [q] at z; cases z
     ·have z2:=un.oz b ob _ z;obtain⟨e1,_⟩:=ck b _ z;obtain⟨e2,_⟩:=FC b _ z2;rw [e] at e1; cases e1;exact e2
 cases hk:K.lookup a with
 | some o =>
  have e:=KX a o hk;rw [ha] at e;cases e;refine core (fun _=>none) (fun _=>.inl rfl) (.inr ⟨_,vs.toArray,_,hk,rfl,rfl,rfl,by rw [aJ,W0]; exact hl,by simpa using rv⟩) (fun b u z=>by have z':(none:Option HO)=some u:=z; cases z') (fun b z=>absurd rfl z) fun z=>absurd rfl z
 | none =>
  refine core (fun b=>if b=a then some (.hZ { cls:=.type "list",data:=.seq vs.toArray } (.lst (ns.map V.int))) else none) (fun b=>?_) (.inl (.inr ⟨{ cls:=.type "list",data:=.seq vs.toArray },if_pos rfl⟩)) (fun b u z=>?_) (fun b z=>?_) fun _=>hk
  ·by_cases hb:b=a
   ·exact .inr ⟨_,_,if_pos hb⟩
   ·exact .inl (if_neg hb)
  ·by_cases hb:b=a
   ·have z':=(if_pos hb).symm.trans z;cases z';subst hb;exact⟨ha,by rw [aj]; exact hl,vs,_,rv,ha⟩
   ·have z':=(if_neg hb).symm.trans z;cases z'
  ·by_cases hb:b=a
   ·exact hb
   ·exact absurd (if_neg hb) z
theorem NY{l:zZ}{n k:Nat}{q:bo}{loose:List Str}{XP:(Str->Option Value)->Heap->Prop}{YP:World->Heap->Prop}{d:DefRec}{K:Params->ag}{CX:World->JN}{sp:World->Sp}{x:Str}
  (hn:l.most=some n) (VJ:n<=aT) (UG:d.params.defaults=[]) (hr:iC k El)
  (hY:∀ (w:World) (h:Heap),YP w h->(K w.params).In h)
  (F:∀ (w:World) (mg:Str->Option Value) (fa:Addr) (h:Heap),(K w.params).In h->h.Ns aO mg->mg d.name=some (.ref fa) ->
   ∃ fd:aL,(∀ (s:ak) (u:Value),Kw s fd ⟨[u],[]⟩ [(x,u)]) /\
    ∀ base:Heap,(K w.params).In base->base.Ns aO mg->gi l.prog w (K w.params) mg base (CX w) k fa fd [x] (sp w))
  (Ea:∀ (w:World) (H:Hp) (a:Addr) (ns:List Int),ns.length<=n->Pz H->t7 (K w.params) H a (ns.map V.int)->sp w [.ref a] H (fun v _=>v=.bl true) fun _ _ _=>False)
  (X7:∀ (w:World) (H:Hp) (s:ak) (e:Value) (s':ak),CX w [] H s (fun _ _ _=>False) e s'->False) :
  PySem.W.WalkO q loose XP YP l.row.toRowW d [] (fun f vs=>Gw f vs):=by
 refine Z2.DI hn UG fun w gS eV mg mb fa o pm cd doc a vs ns G Y ho hd B5 Uo Rx hints hlen hg=>?_;have KX:=hY w _ Y;obtain⟨fd,hb,hF⟩:=F w mg fa _ KX G.T.g Uo;exact LL KX G.T.g G.T.b G.T.builtins G.T.nolimit hg Rx hints (bZ hlen VJ) hr hF hb (fun H hO hS=>Ea w H a ns hlen hO hS) fun H e s'=>X7 w H eV e s'
end L2
/- THE ac6 VY (shape; LID,My.* are YA):
   My.Adr: a structure of Wf addresses aad Z6 Y1 names (classes,SE); My.Txt K t: a structure (Prop) of Wf equations over K;
   My.We:{K} {implicit addresses ..} (e1:nsIn K aO "law" = some (some (.ref f))) (e2:K.lookup f=some ⟨oc,od,.func (fnOf "law" "law" params body scope dV kV doc pm an jJ ct),sl⟩) (e3:codeIn K jJ "law" = true) ..:∃ t,My.Txt K t
(Wf tactic k_is has no namespace: write k_is) -/
namespace L2
open PySem PySem.Spec PyProof.Rows
noncomputable def jA(s:Stmt):Arguments:=match s with
 | .FunctionDef _ a _ _ _ _ _ _ _ _=>a
 | _=>{ posonlyargs:=[],args:=[],vararg:=none,kwonlyargs:=[],kw_defaults:=[],kwarg:=none,defaults:=[] }
noncomputable def fU(s:Stmt):List Stmt:=match s with
 | .FunctionDef _ _ b _ _ _ _ _ _ _=>b
 | _=>[]
noncomputable def a5(s:Stmt):Scope:=match s with
 | .FunctionDef _ _ _ _ _ _ sc _ _ _=>sc
 | _=>{ kind:=.function,names:=[],isGenerator:=false,isCoroutine:=false }
noncomputable abbrev kr:JN:=fun _ _ _ _ _ _=>False
noncomputable abbrev E0:XK:=fun _ _ _=>False
theorem Tw{X:Cx}:Passes kr X E0:=fun _ _ _ _ _ _ _ h=>h.elim
structure rE(K:ag)(x qual:Str)(st:Stmt)(f:Addr)(fd:aL):Prop where
 ex:∃ (oc:Value) (od:Option Addr) (kV doc pm:Value) (an:Option Addr) (jJ ct:Value) (Hd:Array (Option Value)),
  fd=iH x qual (jA st) (fU st) (a5 st) .none kV doc pm an jJ ct/\K.lookup f=some ⟨oc,od,.func fd,Hd⟩/\Ce K jJ qual=true
 kp:gv K (.ref f)=true
section
variable {P:bo} {w:World} {K:ag} {mg:Str->Option Value} {base:Heap}
theorem rE.ok{x qual:Str}{st:Stmt}{f:Addr}{fd:aL}{N ps:List Str}{k:Nat}{sp:Sp}(F:rE K x qual st f fd)(S:cQ N ps (a5 st))(len:∀ vs H Q E,sp vs H Q E->vs.length=ps.length)
  (Dc:∀ (jJ:Value) (A:cx) (outer:List Env) (s:ak) (H:Hp) (vs:List V) (Q:VK) (E:XK),iC k (A.deeper (sr qual (a5 st) s.heap.objs.size f jJ))->sp vs H Q E ->
   ∃ t,NG (nB kr P w K mg base N qual (a5 st) f jJ A outer s H E).Q4 (fU st) t/\t { nx:=fun _ H'=>Q .cy H',rt:=Q } (start N vs) H):gi P w K mg base kr (k+1) f fd ps sp:=by
 obtain⟨oc,od,kV,doc,pm,an,jJ,ct,Hd,rfl,lk,B5⟩:=F.ex;refine Qb lk B5 S len fun A outer s H vs Q E hr Ea=>?_;obtain⟨t,h,q⟩:=Dc jJ A outer s H vs Q E hr Ea;exact⟨t,h.Q4,q⟩
theorem rE.binds{x qual:Str}{st:Stmt}{f:Addr}{fd:aL}{ps:List Str}(F:rE K x qual st f fd)
  (h:∀ (kV doc pm:Value) (an:Option Addr) (jJ ct:Value) (us:List Value),us.length=ps.length->bindArgs (iH x qual (jA st) (fU st) (a5 st) .none kV doc pm an jJ ct) ⟨us,[]⟩=pure (ps.zip us)):Binds K fd ps []:=by
 obtain⟨oc,od,kV,doc,pm,an,jJ,ct,Hd,rfl,lk,B5⟩:=F.ex;exact .all (h kV doc pm an jJ ct)
theorem MB{x qual:Str}{st:Stmt}{f:Addr}{oc:Value}{od an:Option Addr}{Hd:Array (Option Value)}{kV doc pm jJ ct:Value}(l:K.lookup f=some ⟨oc,od,.func (iH x qual (jA st) (fU st) (a5 st) .none kV doc pm an jJ ct),Hd⟩)
  (c:Ce K jJ qual=true) (k:gv K (.ref f)=true):rE K x qual st f (iH x qual (jA st) (fU st) (a5 st) .none kV doc pm an jJ ct):=⟨⟨oc,od,kV,doc,pm,an,jJ,ct,Hd,rfl,l,c⟩,k⟩
end
section
variable {X:Cx}
theorem pv (i:Nat) {x:Str} {pos:Pos} (hN:autoParam (X.N[i]?=some x) Ar._auto_1) (hv:autoParam (Vc X.env.scope x) Ao._auto_1) (hd:autoParam ((x == ("__debug__" : Str))=false) Ad._auto_1)
  (B5:autoParam ((x == ("__classdict__" : Str))=false) Ad._auto_1):PE X (.Name x pos) (EN i):=Lq hN hv hd B5
end
end L2
set_option autoImplicit false
section
namespace K2
open PySem (Str)
noncomputable abbrev PK:=List (List (List Int))
inductive D where
 | cy | bl (b:Bool) | int (i:Int) | str (x:Str) | tup (ds:List D) | eL (ds:List D) | sg (aS:List (D×D)) | ref (a:Nat) | exc (c:Str) | uj (c:Str) (ns:List Str) (ds:List D) | ze (aS:List (PK×D))
 deriving Inhabited
inductive GO where
 | lst (ds:List D)
 | kI (aS:List (D×D))
 | ins (c:Str) (fs:List (Str×D))
 | HE (aS:List (PK×D))
noncomputable abbrev Gp:=Nat->Option GO
noncomputable def dO(G:Gp)(a:Nat)(o:GO):Gp:=fun b=>if b=a then some o else G b
theorem bg{G:Gp}{a:Nat}{o:GO}:dO G a o a=some o:=by unfold dO; rw [if_pos rfl]
theorem dN{G:Gp}{a b:Nat}{o:GO}(h:b≠a):dO G a o b=G b:=by unfold dO; rw [if_neg h]
noncomputable abbrev SZ:Nat:=16777216
structure Ex where
 cls:Str
 rh:List (Str×D)
noncomputable abbrev kC:=Ex->Gp->Prop
noncomputable abbrev hV:=List (Option D)
noncomputable abbrev DK:=D->Gp->Prop
noncomputable abbrev fx:=kC->hV->Gp->DK->Prop
noncomputable abbrev wt:=kC->hV->Gp->(Bool->Gp->Prop)->Prop
noncomputable abbrev wu:=kC->hV->Gp->(List D->Gp->Prop)->Prop
structure kR where
 nx:hV->Gp->Prop
 rt:DK
 bk:hV->Gp->Prop
 ct:hV->Gp->Prop
noncomputable abbrev i6:=kC->kR->hV->Gp->Prop
noncomputable abbrev pD:=List D->Gp->DK->kC->Prop
noncomputable abbrev yn:=D->D->Gp->DK->Prop
noncomputable def Hu(n:Nat)(i:Int):Option Nat:=if 0<=i then (if i < n then some i.toNat else none) else if -(n:Int)<=i then some (i+n).toNat else none
noncomputable def qu{α:Type}(xs:List α)(i:Int):Option α:=(Hu xs.length i).bind fun j=>xs[j]?
noncomputable def iY(n d:Nat):Option Int->Nat
 | none=>d
 | some v=>if v < 0 then (v+(n:Int)).toNat else min v.toNat n
noncomputable def cut{α:Type}(xs:List α)(lo hi:Option Int):List α:=(xs.drop (iY xs.length 0 lo)).take (iY xs.length xs.length hi - iY xs.length 0 lo)
mutual
noncomputable def g4:D->D->Bool
 | .cy,.cy=>true
 | .bl a,.bl b=>a == b
 | .bl a,.int b=>(if a then 1 else 0) == b
 | .int a,.bl b=>a == (if b then 1 else 0)
 | .int a,.int b=>a == b
 | .str a,.str b=>a == b
 | .tup a,.tup b=>kl a b
 | .eL a,.eL b=>kl a b
 | _,_=>false
noncomputable def kl:List D->List D->Bool
 | [],[]=>true
 | a :: r,b :: t=>g4 a b&&kl r t
 | _,_=>false
end
mutual
noncomputable def nr:D->Bool
 | .ref _=>false
 | .exc _=>false
 | .uj _ _ _=>false
 | .sg _=>false
 | .ze _=>false
 | .str x=>x.cps.all (· < 0x110000)
 | .tup ds=>oV ds
 | .eL ds=>oV ds
 | _=>true
noncomputable def oV:List D->Bool
 | []=>true
 | d :: r=>nr d&&oV r
end
class inductive Sn (G:Gp):Nat->D->D->Prop
 | cy {n:Nat}:Sn G n .cy .cy
 | bl {n:Nat} (b:Bool):Sn G n (.bl b) (.bl b)
 | int {n:Nat} (i:Int):Sn G n (.int i) (.int i)
 | str {n:Nat} (x:Str) (h:x.cps.all (· < 0x110000)=true):Sn G n (.str x) (.str x)
 | Ck {n:Nat}:Sn G (n+1) (.tup []) (.tup [])
 | mT {n:Nat} {d s:D} {ds ss:List D}:Sn G n d s->Sn G (n+1) (.tup ds) (.tup ss)->Sn G (n+1) (.tup (d :: ds)) (.tup (s :: ss))
 | II {n:Nat}:Sn G (n+1) (.eL []) (.eL [])
 | zh {n:Nat} {d s:D} {ds ss:List D}:Sn G n d s->Sn G (n+1) (.eL ds) (.eL ss)->Sn G (n+1) (.eL (d :: ds)) (.eL (s :: ss))
 | ref {n:Nat} {a:Nat} {ds ss:List D}:G a=some (.lst ds)->Sn G n (.eL ds) (.eL ss)->Sn G n (.ref a) (.eL ss)
noncomputable abbrev SN:Nat:=8
theorem Sn.nr{G:Gp}{n:Nat}{d t:D}(h:Sn G n d t):K2.nr t=true:=by
 induction h with
 | cy=>rfl
 | bl b=>rfl
 | int i=>rfl
 | str x h=>exact h
 | Ck=>rfl
 | mT _ _ L7 L6 =>
  show (K2.nr _&&K2.oV _)=true;rw [L7];exact L6
 | II=>rfl
 | zh _ _ L7 L6 =>
  show (K2.nr _&&K2.oV _)=true;rw [L7];exact L6
 | ref _ _ ih=>exact ih
noncomputable def Tu(k:PK):D:=.tup (k.map fun r=>.tup (r.map fun t=>.tup (t.map D.int)))
noncomputable def fJ:D->Bool
 | .int _=>true
 | .str _=>true
 | _=>false
noncomputable def D7:D->Gp->Option Bool
 | .cy,_=>some false
 | .bl b,_=>some b
 | .int i,_=>some (i != 0)
 | .str x,_=>if x.length<=SZ then some ((x.length:Int) != 0) else none
 | .tup ds,_=>some (!ds.isEmpty)
 | .eL ds,_=>some (!ds.isEmpty)
 | .exc _,_=>none
 | .uj _ _ _,_=>none
 | .ze _,_=>none
 | .sg aS,_=>if (aS.all fun p=>fJ p.1)=true then some (!aS.isEmpty) else none
 | .ref a,G=>match G a with
  | some (.lst ds)=>some (!ds.isEmpty)
  | some (.kI aS)=>if (aS.all fun p=>fJ p.1)=true then some (!aS.isEmpty) else none
  | _=>none
noncomputable def ay(i:Nat):fx:=fun _ τ G Q=>match τ[i]? with
 | some (some d)=>Q d G
 | _=>False
noncomputable def dC(d:D):fx:=fun _ _ G Q=>Q d G
noncomputable def aU:wu:=fun _ _ G Q=>Q [] G
noncomputable def aw(a:fx)(r:wu):wu:=fun E τ G Q=>a E τ G fun x G1=>r E τ G1 fun xs G2=>Q (x :: xs) G2
noncomputable def eP(t:wu):fx:=fun E τ G Q=>t E τ G fun ds G1=>ds.length<=SZ/\Q (.tup ds) G1
noncomputable def i9(t:wu):fx:=fun E τ G Q=>t E τ G fun ds G1=>ds.length<=SZ/\∀ p,G1 p=none->Q (.ref p) (dO G1 p (.lst ds))
noncomputable def aQ(r:yn)(a b:fx):fx:=fun E τ G Q=>a E τ G fun x G1=>b E τ G1 fun y G2=>r x y G2 Q
noncomputable def ym(r:D->Gp->DK->Prop)(a:fx):fx:=fun E τ G Q=>a E τ G fun x G1=>r x G1 Q
noncomputable def kJ(G:Gp)(o:GO)(Q:DK):Prop:=∀ p,G p=none->Q (.ref p) (dO G p o)
noncomputable def MulOk(i j:Int):Prop:=(-(2 ^ 64) < i/\i < 2 ^ 64)\/(-(2 ^ 64) < j/\j < 2 ^ 64)
noncomputable def qc:D->Gp->Option (List D)
 | .eL ds,_=>some ds
 | .ref a,G=>match G a with
  | some (.lst ds)=>some ds
  | _=>none
 | _,_=>none
noncomputable def u3(x y:D)(G:Gp)(Q:DK):Prop:=match qc x G,qc y G with
 | some xs,some ys=>xs.length+ys.length<=SZ/\kJ G (.lst (xs++ys)) Q
 | _,_=>False
noncomputable def mI:yn
 | .int i,.int j,G,Q=>Q (.int (i+j)) G
 | .str a,.str b,G,Q=>a.length+b.length<=SZ/\Q (.str (a++b)) G
 | .tup a,.tup b,G,Q=>a≠[]/\a.length+b.length<=SZ/\Q (.tup (a++b)) G
 | x,y,G,Q=>u3 x y G Q
noncomputable def Oj:yn
 | .int i,.int j,G,Q=>Q (.int (i - j)) G
 | _,_,_,_=>False
noncomputable def EY:yn
 | .int i,.int j,G,Q=>MulOk i j/\Q (.int (i * j)) G
 | _,_,_,_=>False
noncomputable def ju:yn
 | .int i,.int j,G,Q=>0 < j/\Q (.int (i % j)) G
 | _,_,_,_=>False
noncomputable def wZ:yn
 | .int i,.int j,G,Q=>0 < j/\j < 2 ^ 30/\Q (.int (i / j)) G
 | _,_,_,_=>False
noncomputable def IM:D->Gp->DK->Prop
 | .int i,G,Q=>Q (.int (-i)) G
 | _,_,_=>False
noncomputable def yz(neg:Bool):yn:=fun x y G Q=>∃ a b,Sn G SN x a/\Sn G SN y b/\Q (.bl (if neg then !g4 a b else g4 a b)) G
noncomputable def lexLt:List Int->List Int->Bool
 | [],[]=>false
 | [],_ :: _=>true
 | _ :: _,[]=>false
 | x :: xs,y :: ys=>if x=y then lexLt xs ys else decide (x < y)
noncomputable def Vt:yn
 | .int i,.int j,G,Q=>Q (.bl (decide (i < j))) G
 | .tup a,.tup b,G,Q=>∃ xs ys,a=xs.map D.int/\b=ys.map D.int/\Q (.bl (lexLt xs ys)) G
 | _,_,_,_=>False
noncomputable def Nv:yn
 | .int i,.int j,G,Q=>Q (.bl (decide (i<=j))) G
 | _,_,_,_=>False
noncomputable def Tq:yn
 | .int i,.int j,G,Q=>Q (.bl (decide (i > j))) G
 | _,_,_,_=>False
noncomputable def rGe:yn
 | .int i,.int j,G,Q=>Q (.bl (decide (i>=j))) G
 | _,_,_,_=>False
noncomputable def vM(neg:Bool):D->Gp->DK->Prop:=fun x G Q=>match x with
 | .cy=>Q (.bl (!neg)) G
 | _=>Q (.bl neg) G
noncomputable def itemsOf:D->Gp->Option (List D)
 | .tup ds,_=>some ds
 | .eL ds,_=>some ds
 | .ref a,G=>match G a with
  | some (.lst ds)=>some ds
  | _=>none
 | _,_=>none
noncomputable def rY:D->Bool
 | .tup ds=>ds.all fJ
 | _=>false
noncomputable def iu(aS:List (D×D))(k:D):Bool:=(fJ k&&aS.all fun p=>fJ p.1)||(rY k&&aS.all fun p=>rY p.1)
noncomputable def look(aS:List (D×D))(k:D):Option D:=(aS.find? fun p=>g4 p.1 k).map (·.2)
noncomputable def put(aS:List (D×D))(k v:D):List (D×D) :=
 if (aS.any fun p=>g4 p.1 k)=true then aS.map (fun p=>if g4 p.1 k=true then (p.1,v) else p) else aS++[(k,v)]
noncomputable def rO(neg:Bool):yn:=fun x y G Q=>match y with
 | .ref a=>(match G a with
  | some (.kI aS)=>iu aS x=true/\Q (.bl (if neg then !(look aS x).isSome else (look aS x).isSome)) G
  | some (.lst ds)=>∃ s ss,Sn G SN x s/\Sn G SN (.eL ds) (.eL ss)/\Q (.bl (if neg then !ss.any (g4 · s) else ss.any (g4 · s))) G
  | _=>False)
 | .sg aS=>aS≠[]/\iu aS x=true/\Q (.bl (if neg then !(look aS x).isSome else (look aS x).isSome)) G
 | .tup ds=>∃ s ss,Sn G SN x s/\Sn G SN (.eL ds) (.eL ss)/\Q (.bl (if neg then !ss.any (g4 · s) else ss.any (g4 · s))) G
 | .eL ds=>∃ s ss,Sn G SN x s/\Sn G SN (.eL ds) (.eL ss)/\Q (.bl (if neg then !ss.any (g4 · s) else ss.any (g4 · s))) G
 | _=>False
noncomputable def kB:yn
 | .tup ds,.int i,G,Q=>(match qu ds i with
  | some d=>Q d G
  | none=>False)
 | .eL ds,.int i,G,Q=>(match qu ds i with
  | some d=>Q d G
  | none=>False)
 | .sg aS,k,G,Q=>iu aS k=true/\(match look aS k with
  | some d=>Q d G
  | none=>False)
 | .ref a,k,G,Q=>(match G a with
  | some (.lst ds)=>(match k with
   | .int i=>(match qu ds i with
    | some d=>Q d G
    | none=>False)
   | _=>False)
  | some (.kI aS)=>iu aS k=true/\(match look aS k with
   | some d=>Q d G
   | none=>False)
  | _=>False)
 | _,_,_,_=>False
noncomputable abbrev Vg:=kC->hV->Gp->(Option Int->Gp->Prop)->Prop
noncomputable def dr:Vg:=fun _ _ G Q=>Q none G
noncomputable def kn(t:fx):Vg:=fun E τ G Q=>t E τ G fun x G1=>match x with
 | .int i=>Q (some i) G1
 | _=>False
noncomputable def Lc:D->Option Int->Option Int->Gp->DK->Prop
 | .tup ds,lo,hi,G,Q=>¬ (iY ds.length 0 lo=0/\iY ds.length ds.length hi=ds.length)/\Q (.tup (cut ds lo hi)) G
 | .eL ds,lo,hi,G,Q=>kJ G (.lst (cut ds lo hi)) Q
 | .ref a,lo,hi,G,Q=>(match G a with
  | some (.lst ds)=>kJ G (.lst (cut ds lo hi)) Q
  | _=>False)
 | _,_,_,_,_=>False
noncomputable def tV(a:fx)(lo hi:Vg):fx:=fun E τ G Q=>a E τ G fun x G1=>lo E τ G1 fun l G2=>hi E τ G2 fun h G3=>Lc x l h G3 Q
noncomputable def ez(a:fx):wt:=fun E τ G Q=>a E τ G fun x G1=>match D7 x G1 with
 | some b=>Q b G1
 | none=>False
noncomputable def BG(a b:wt):wt:=fun E τ G Q=>a E τ G fun c G1=>if c=true then b E τ G1 Q else Q false G1
noncomputable def zK(a b:wt):wt:=fun E τ G Q=>a E τ G fun c G1=>if c=true then Q true G1 else b E τ G1 Q
noncomputable def jV(a:wt):wt:=fun E τ G Q=>a E τ G fun c G1=>Q (!c) G1
noncomputable def xW(a b:fx):fx:=fun E τ G Q=>a E τ G fun x G1=>match D7 x G1 with
 | some true=>b E τ G1 Q
 | some false=>Q x G1
 | none=>False
noncomputable def U3(a b:fx):fx:=fun E τ G Q=>a E τ G fun x G1=>match D7 x G1 with
 | some true=>Q x G1
 | some false=>b E τ G1 Q
 | none=>False
noncomputable def MX(a:fx):fx:=fun E τ G Q=>a E τ G fun x G1=>match D7 x G1 with
 | some c=>Q (.bl (!c)) G1
 | none=>False
noncomputable def cS(sp:pD)(t:wu):fx:=fun E τ G Q=>t E τ G fun ds G1=>sp ds G1 Q fun _ _=>False
noncomputable def jN(r:List D->Gp->DK->Prop)(t:wu):fx:=fun E τ G Q=>t E τ G fun ds G1=>r ds G1 Q
noncomputable def D6(x:D)(G:Gp):Prop:=match x with
 | .ref a=>(match G a with
  | some (.lst _)=>True
  | _=>False)
 | .eL _=>True
 | _=>False
noncomputable def tyC(x:D)(G:Gp):Prop:=match x with
 | .sg _=>True
 | .ref a=>(match G a with
  | some (.kI _)=>True
  | _=>False)
 | _=>False
noncomputable def tyS(x:D)(_:Gp):Prop:=match x with
 | .str _=>True
 | _=>False
noncomputable def B6(ty:D->Gp->Prop)(r:D->List D->Gp->DK->Prop)(o:fx)(t:wu):fx:=fun E τ G Q=>o E τ G fun x G1=>ty x G1/\t E τ G1 fun ds G2=>r x ds G2 Q
noncomputable def lenOf:D->Gp->Option Nat
 | .tup ds,_=>some ds.length
 | .eL ds,_=>some ds.length
 | .str x,_=>if x.length<=SZ then some x.length else none
 | .sg aS,_=>if (aS.all fun p=>fJ p.1)=true then some aS.length else none
 | .ref a,G=>match G a with
  | some (.lst ds)=>some ds.length
  | some (.kI aS)=>if (aS.all fun p=>fJ p.1)=true then some aS.length else none
  | _=>none
 | _,_=>none
noncomputable def ko(ds:List D)(G:Gp)(Q:DK):Prop:=match ds with
 | [x]=>(match lenOf x G with
  | some n=>Q (.int (n:Int)) G
  | none=>False)
 | _=>False
noncomputable def xZ(ds:List D)(G:Gp)(Q:DK):Prop:=match ds with
 | [x]=>(match itemsOf x G with
  | some xs=>kJ G (.lst xs) Q
  | none=>False)
 | _=>False
noncomputable def OX(C:String):D->Gp->Option Bool
 | .cy,_=>some false
 | .bl _,_=>some (C == "bool" || C == "int")
 | .int _,_=>some (C == "int")
 | .str _,_=>some (C == "str")
 | .tup _,_=>some (C == "tuple")
 | .eL _,_=>some (C == "list")
 | .sg _,_=>some (C == "dict")
 | .exc _,_=>none
 | .uj _ _ _,_=>none
 | .ze _,_=>none
 | .ref a,G=>match G a with
  | some (.lst _)=>some (C == "list")
  | some (.kI _)=>some (C == "dict")
  | _=>none
noncomputable def DB(C:String)(a:fx):fx:=fun E τ G Q=>a E τ G fun x G1=>match OX C x G1 with
 | some b=>Q (.bl b) G1
 | none=>False
noncomputable def R5(ds:List D)(G:Gp)(Q:DK):Prop:=match ds with
 | [x]=>∃ bs:List Bool,itemsOf x G=some (bs.map D.bl)/\Q (.bl (bs.all id)) G
 | _=>False
noncomputable def tm(x:D)(ds:List D)(G:Gp)(Q:DK):Prop:=match x,ds with
 | .ref a,[d]=>(match G a with
  | some (.lst xs)=>xs.length < SZ/\Q .cy (dO G a (.lst (xs++[d])))
  | _=>False)
 | _,_=>False
noncomputable def v7(x:D)(ds:List D)(G:Gp)(Q:DK):Prop:=match x,ds with
 | .ref a,[y]=>(match G a,qc y G with
  | some (.lst xs),some ys=>xs.length+ys.length<=SZ/\Q .cy (dO G a (.lst (xs++ys)))
  | _,_=>False)
 | _,_=>False
noncomputable def tj(x:D)(ds:List D)(G:Gp)(Q:DK):Prop:=match x,ds with
 | .ref a,[.int i,d]=>(match G a with
  | some (.lst xs)=>0<=i/\i<=xs.length/\xs.length < SZ/\Q .cy (dO G a (.lst (xs.take i.toNat++d :: xs.drop i.toNat)))
  | _=>False)
 | _,_=>False
noncomputable def Be(x:D)(ds:List D)(G:Gp)(Q:DK):Prop:=match ds with
 | [d]=>D6 x G/\∃ xs s ss,itemsOf x G=some xs/\Sn G SN d s/\Sn G SN (.eL xs) (.eL ss)/\(match ss.findIdx? (g4 · s) with
  | some k=>Q (.int (k:Int)) G
  | none=>False)
 | _=>False
noncomputable def CT(x:D)(ds:List D)(G:Gp)(Q:DK):Prop:=match x,ds with
 | .ref a,[k,d]=>(match G a with
  | some (.kI aS)=>iu aS k=true/\fJ k=true/\(match look aS k with
   | some v=>Q v G
   | none=>aS.length < SZ/\Q d (dO G a (.kI (put aS k d))))
  | _=>False)
 | _,_=>False
noncomputable def bR:i6:=fun _ K τ G=>K.nx τ G
noncomputable def bX(a b:i6):i6:=fun E K τ G=>a E { K with nx:=b E K } τ G
noncomputable def iF(a:fx):i6:=fun E K τ G=>a E τ G fun _ G1=>K.nx τ G1
noncomputable def cu(a:fx):i6:=fun E K τ G=>a E τ G K.rt
noncomputable def zJ:i6:=fun _ K _ G=>K.rt .cy G
noncomputable def dg(c:wt)(a b:i6):i6:=fun E K τ G=>c E τ G fun k G1=>if k=true then a E K τ G1 else b E K τ G1
noncomputable abbrev yM:=kC->D->hV->Gp->(hV->Gp->Prop)->Prop
noncomputable abbrev BQ:=kC->List D->hV->Gp->(hV->Gp->Prop)->Prop
noncomputable def bb(i:Nat):yM:=fun _ d τ G Q=>Q (τ.set i (some d)) G
noncomputable def Mw:BQ:=fun _ ds τ G Q=>match ds with
 | []=>Q τ G
 | _=>False
noncomputable def xG(t:yM)(r:BQ):BQ:=fun E ds τ G Q=>match ds with
 | d :: ds=>t E d τ G fun rM G1=>r E ds rM G1 Q
 | _=>False
noncomputable def O7(t:BQ):yM:=fun E d τ G Q=>match d with
 | .tup ds=>t E ds τ G Q
 | _=>False
noncomputable def Cq(o k d:D)(G:Gp)(Q:Gp->Prop):Prop:=match o with
 | .ref a=>(match G a with
  | some (.lst xs)=>(match k with
   | .int i=>(match Hu xs.length i with
    | some j=>Q (dO G a (.lst (xs.set j d)))
    | none=>False)
   | _=>False)
  | some (.kI aS)=>iu aS k=true/\aS.length < SZ/\Q (dO G a (.kI (put aS k d)))
  | _=>False)
 | _=>False
noncomputable def FE(o k:fx):yM:=fun E d τ G Q=>o E τ G fun x G1=>k E τ G1 fun y G2=>Cq x y d G2 fun G3=>Q τ G3
noncomputable def cW(a:fx)(g:yM):i6:=fun E K τ G=>a E τ G fun x G1=>g E x τ G1 K.nx
noncomputable abbrev Pt:=kC->hV->Gp->(List D->(Gp->Prop)->Gp->Prop)->Prop
noncomputable def pb(a:fx):Pt:=fun E τ G R=>a E τ G fun x G1=>match x with
 | .tup ds=>R ds (fun _=>True) G1
 | .eL ds=>R ds (fun _=>True) G1
 | .ref p=>(match G1 p with
  | some (.lst ds)=>R ds (fun G2=>G2 p=some (.lst ds)) G1
  | _=>False)
 | _=>False
noncomputable def kH(lo:Int)(n:Nat):List D:=(cF n).map fun (i:Nat)=>D.int (lo+(i:Int))
noncomputable def Hw(a:fx):Pt:=fun E τ G R=>a E τ G fun x G1=>match x with
 | .int n=>-(2 ^ 62)<=n/\n < 2 ^ 62/\R (kH 0 n.toNat) (fun _=>True) G1
 | _=>False
noncomputable def oY(g:yM)(body:i6)(ok:Gp->Prop):List D->i6
 | []=>fun _ K τ G=>ok G/\K.nx τ G
 | d :: r=>fun E K τ G=>ok G/\g E d τ G fun rM G1=>body E { K with nx:=oY g body ok r E K,ct:=oY g body ok r E K,bk:=K.nx } rM G1
noncomputable def jW(i:Pt)(g:yM)(body:i6):i6:=fun E K τ G=>i E τ G fun ds ok G1=>oY g body ok ds E K τ G1
noncomputable def Cg(c:wt)(body:i6):Nat->i6
 | 0=>fun _ _ _ _=>False
 | n+1=>fun E K τ G=>c E τ G fun k G1=>if k=true then body E { K with nx:=Cg c body n E K,ct:=Cg c body n E K,bk:=K.nx } τ G1 else K.nx τ G1
noncomputable def MW(c:wt)(body:i6):i6:=fun E K τ G=>∃ n,Cg c body n E K τ G
noncomputable def jX(g:yM)(c:Option wt)(e:fx)(ok:Gp->Prop):List D->kC->hV->Gp->List D->(List D->Gp->Prop)->Prop
 | [],_,_,G,acc,Q=>ok G/\Q acc G
 | d :: r,E,τ,G,acc,Q=>ok G/\g E d τ G fun rM G1=>match c with
  | none=>e E rM G1 fun x G2=>jX g c e ok r E rM G2 (acc++[x]) Q
  | some c=>c E rM G1 fun k G2=>if k=true then e E rM G2 fun x G3=>jX g (some c) e ok r E rM G3 (acc++[x]) Q else jX g (some c) e ok r E rM G2 acc Q
noncomputable def xY(m:Nat)(fr:List Nat)(τ:hV):hV:=bq m none++fr.map fun i=>(τ[i]?).getD none
noncomputable def iG(m:Nat)(fr:List Nat)(i:Pt)(g:yM)(c:Option wt)(e:fx):fx:=fun E τ G Q =>
 i E τ G fun ds ok G1=>ds.length<=SZ/\jX g c e ok ds (fun _ _=>False) (xY m fr τ) G1 [] fun xs G2=>kJ G2 (.lst xs) Q
noncomputable abbrev tI(ns:List Int):D:=.tup (ns.map D.int)
noncomputable def WW:List Int->Option Int
 | []=>none
 | a :: r=>some (r.foldl (fun m x=>if x < m then x else m) a)
noncomputable def WV:List (List Int)->Option (List Int)
 | []=>none
 | a :: r=>some (r.foldl (fun m x=>if lexLt x m=true then x else m) a)
noncomputable def M5(ds:List D)(G:Gp)(Q:DK):Prop:=match ds with
 | [x]=>(∃ ns m,itemsOf x G=some (ns.map D.int)/\WW ns=some m/\Q (.int m) G)\/∃ Vw m,itemsOf x G=some (Vw.map tI)/\WV Vw=some m/\Q (tI m) G
 | _=>False
noncomputable def xU:fx:=fun _ _ G Q=>kJ G (.kI []) Q
noncomputable def jE(G G':Gp):Prop:=∀ a o,G a=some o->G' a=some o
theorem jE.refl(G:Gp):jE G G:=fun _ _ h=>h
theorem jE.trans{G G1 G2:Gp}(a:jE G G1)(b:jE G1 G2):jE G G2:=fun c o h=>b c o (a c o h)
theorem jE.new{G:Gp}{p:Nat}{o:GO}(h:G p=none):jE G (dO G p o):=fun a ob e=>by
 by_cases ha:a=p
 ·subst ha; rw [h] at e; cases e
 ·rw [dN ha]; exact e
theorem jE.free{G G':Gp}{p:Nat}(l:jE G G')(h:G' p=none):G p=none:=by
 cases q:G p with
 | none=>rfl
 | some o=>rw [l p o q] at h; cases h
theorem jE.put{G G':Gp}{p:Nat}{o:GO}(l:jE G G')(h:G p=none):jE G (dO G' p o):=fun a ob e=>by
 by_cases ha:a=p
 ·subst ha; rw [h] at e; cases e
 ·rw [dN ha]; exact l a ob e
noncomputable def ends(Q:DK):kR:=⟨fun _ G=>Q .cy G,Q,fun _ _=>False,fun _ _=>False⟩
noncomputable def bP(n:Nat)(ds:List D):hV:=ds.map some++bq (n - ds.length) none
noncomputable def OZ(x:D)(G1:Gp)(R:List D->(Gp->Prop)->Gp->Prop):Prop:=match x with
 | .tup ds=>R ds (fun _=>True) G1
 | .eL ds=>R ds (fun _=>True) G1
 | .ref p=>(match G1 p with
  | some (.lst ds)=>R ds (fun G2=>G2 p=some (.lst ds)) G1
  | _=>False)
 | _=>False
noncomputable def Lw(x:D)(G1:Gp)(Q:Option Int->Gp->Prop):Prop:=match x with
 | .int i=>Q (some i) G1
 | _=>False
noncomputable def sH(x:D)(G1:Gp)(Q:Bool->Gp->Prop):Prop:=match D7 x G1 with
 | some b=>Q b G1
 | none=>False
noncomputable def PO(x:D)(G1:Gp)(R:List D->(Gp->Prop)->Gp->Prop):Prop:=match x with
 | .int n=>-(2 ^ 62)<=n/\n < 2 ^ 62/\R (kH 0 n.toNat) (fun _=>True) G1
 | _=>False
noncomputable def isAt(C:String)(x:D)(G1:Gp)(Q:DK):Prop:=match OX C x G1 with
 | some b=>Q (.bl b) G1
 | none=>False
theorem fH{i j:Int}{G:Gp}{Q:DK}:mI (.int i) (.int j) G Q=Q (.int (i+j)) G:=rfl
theorem mZ{a b:List D}{G:Gp}{Q:DK}:mI (.tup a) (.tup b) G Q=(a≠[]/\a.length+b.length<=SZ/\Q (.tup (a++b)) G):=rfl
theorem kb{i j:Int}{G:Gp}{Q:DK}:Oj (.int i) (.int j) G Q=Q (.int (i - j)) G:=rfl
theorem jt{i j:Int}{G:Gp}{Q:DK}:EY (.int i) (.int j) G Q=(MulOk i j/\Q (.int (i * j)) G):=rfl
theorem dB{i j:Int}{G:Gp}{Q:DK}:ju (.int i) (.int j) G Q=(0 < j/\Q (.int (i % j)) G):=rfl
theorem gY{i j:Int}{G:Gp}{Q:DK}:wZ (.int i) (.int j) G Q=(0 < j/\j < 2 ^ 30/\Q (.int (i / j)) G):=rfl
theorem kc{i:Int}{G:Gp}{Q:DK}:IM (.int i) G Q=Q (.int (-i)) G:=rfl
theorem nR{i j:Int}{G:Gp}{Q:DK}:Vt (.int i) (.int j) G Q=Q (.bl (decide (i < j))) G:=rfl
theorem nS{i j:Int}{G:Gp}{Q:DK}:Nv (.int i) (.int j) G Q=Q (.bl (decide (i<=j))) G:=rfl
theorem k6{i j:Int}{G:Gp}{Q:DK}:Tq (.int i) (.int j) G Q=Q (.bl (decide (i > j))) G:=rfl
theorem qG{i j:Int}{G:Gp}{Q:DK}:rGe (.int i) (.int j) G Q=Q (.bl (decide (i>=j))) G:=rfl
theorem Om{ds:List D}{i:Int}{d:D}{G:Gp}{Q:DK}(h:qu ds i=some d):kB (.eL ds) (.int i) G Q=Q d G:=by unfold kB; simp only [h]
theorem Oq{a:Nat}{ds:List D}{i:Int}{d:D}{G:Gp}{Q:DK}(h1:G a=some (.lst ds))(h:qu ds i=some d):kB (.ref a) (.int i) G Q=Q d G:=by unfold kB; simp only [h1,h]
theorem jr{ds:List D}{lo hi:Option Int}{G:Gp}{Q:DK}:Lc (.tup ds) lo hi G Q=(¬ (iY ds.length 0 lo=0/\iY ds.length ds.length hi=ds.length)/\Q (.tup (cut ds lo hi)) G):=rfl
theorem nQ{ds:List D}{lo hi:Option Int}{G:Gp}{Q:DK}:Lc (.eL ds) lo hi G Q=kJ G (.lst (cut ds lo hi)) Q:=rfl
theorem Ol{a:Nat}{ds:List D}{lo hi:Option Int}{G:Gp}{Q:DK}(h:G a=some (.lst ds)):Lc (.ref a) lo hi G Q=kJ G (.lst (cut ds lo hi)) Q:=by unfold Lc; simp only [h]
theorem lS{ds:List D}{G:Gp}{Q:DK}:ko [.eL ds] G Q=Q (.int (ds.length:Int)) G:=rfl
theorem lR{ds:List D}{G:Gp}{Q:DK}:ko [.tup ds] G Q=Q (.int (ds.length:Int)) G:=rfl
theorem M7{a:Nat}{ds:List D}{G:Gp}{Q:DK}(h:G a=some (.lst ds)):ko [.ref a] G Q=Q (.int (ds.length:Int)) G:=by unfold ko lenOf; simp only [h]
theorem e8{a:fx}{E:kC}{τ:hV}{G:Gp}{R:List D->(Gp->Prop)->Gp->Prop}:pb a E τ G R=a E τ G fun x G1=>OZ x G1 R:=by
 unfold pb OZ; rfl
theorem qO{ds:List D}{G:Gp}{R:List D->(Gp->Prop)->Gp->Prop}:OZ (.eL ds) G R=R ds (fun _=>True) G:=rfl
theorem oq{ds:List D}{G:Gp}{R:List D->(Gp->Prop)->Gp->Prop}:OZ (.tup ds) G R=R ds (fun _=>True) G:=rfl
theorem Bl{a:Nat}{ds:List D}{G:Gp}{R:List D->(Gp->Prop)->Gp->Prop}(h:G a=some (.lst ds)):OZ (.ref a) G R=R ds (fun G2=>G2 a=some (.lst ds)) G:=by unfold OZ; simp only [h]
theorem fV{t:fx}{E:kC}{τ:hV}{G:Gp}{Q:Option Int->Gp->Prop}:kn t E τ G Q=t E τ G fun x G1=>Lw x G1 Q:=rfl
theorem eS{i:Int}{G:Gp}{Q:Option Int->Gp->Prop}:Lw (.int i) G Q=Q (some i) G:=rfl
theorem cV{a:fx}{E:kC}{τ:hV}{G:Gp}{Q:Bool->Gp->Prop}:ez a E τ G Q=a E τ G fun x G1=>sH x G1 Q:=rfl
theorem aZ{b:Bool}{G:Gp}{Q:Bool->Gp->Prop}:sH (.bl b) G Q=Q b G:=rfl
theorem kh{a:fx}{E:kC}{τ:hV}{G:Gp}{R:List D->(Gp->Prop)->Gp->Prop}:Hw a E τ G R=a E τ G fun x G1=>PO x G1 R:=rfl
theorem jc{n:Int}{G:Gp}{R:List D->(Gp->Prop)->Gp->Prop}:PO (.int n) G R=(-(2 ^ 62)<=n/\n < 2 ^ 62/\R (kH 0 n.toNat) (fun _=>True) G):=rfl
theorem i4{C:String}{a:fx}{E:kC}{τ:hV}{G:Gp}{Q:DK}:DB C a E τ G Q=a E τ G fun x G1=>isAt C x G1 Q:=rfl
theorem lO {C:String} {i:Int} {G:Gp} {Q:DK}:isAt C (.int i) G Q=Q (.bl (C == "int")) G:=rfl
theorem lN {C:String} {ds:List D} {G:Gp} {Q:DK}:isAt C (.tup ds) G Q=Q (.bl (C == "tuple")) G:=rfl
theorem LW {C:String} {a:Nat} {ds:List D} {G:Gp} {Q:DK} (h:G a=some (.lst ds)):isAt C (.ref a) G Q=Q (.bl (C == "list")) G:=by unfold isAt OX; simp only [h]
theorem iS{a b:fx}{E:kC}{τ:hV}{G:Gp}{Q:DK}:xW a b E τ G Q=a E τ G fun x G1=>sH x G1 fun k G2=>if k=true then b E τ G2 Q else Q x G2:=by
 unfold xW sH;refine congrArg (a E τ G) ?_;funext x G1;cases D7 x G1 with
 | none=>rfl
 | some k=>cases k <;> simp
theorem qR{a b:fx}{E:kC}{τ:hV}{G:Gp}{Q:DK}:U3 a b E τ G Q=a E τ G fun x G1=>sH x G1 fun k G2=>if k=true then Q x G2 else b E τ G2 Q:=by
 unfold U3 sH;refine congrArg (a E τ G) ?_;funext x G1;cases D7 x G1 with
 | none=>rfl
 | some k=>cases k <;> simp
theorem lQ{a:fx}{E:kC}{τ:hV}{G:Gp}{Q:DK}:MX a E τ G Q=a E τ G fun x G1=>sH x G1 fun k G2=>Q (.bl (!k)) G2:=rfl
theorem lJ{a:Nat}{y:D}{G:Gp}{Q:DK}:mI (.ref a) y G Q=u3 (.ref a) y G Q:=by cases y <;> rfl
theorem lI{a:List D}{y:D}{G:Gp}{Q:DK}:mI (.eL a) y G Q=u3 (.eL a) y G Q:=by cases y <;> rfl
theorem mq{a:Nat}{lo hi:Option Int}{G:Gp}{Q:DK}:Lc (.ref a) lo hi G Q=(match G a with
  | some (.lst ds)=>kJ G (.lst (cut ds lo hi)) Q
  | _=>False):=rfl
theorem Oo{a:Nat}{k:D}{G:Gp}{Q:DK}:kB (.ref a) k G Q=(match G a with
  | some (.lst ds)=>(match k with
   | .int i=>(match qu ds i with
    | some d=>Q d G
    | none=>False)
   | _=>False)
  | some (.kI aS)=>iu aS k=true/\(match look aS k with
   | some d=>Q d G
   | none=>False)
  | _=>False):=by unfold kB; cases k <;> rfl
theorem eN{ds:List D}{i:Int}{G:Gp}{Q:DK}:kB (.tup ds) (.int i) G Q=(match qu ds i with
  | some d=>Q d G
  | none=>False):=rfl
theorem kf{ds:List D}{i:Int}{G:Gp}{Q:DK}:kB (.eL ds) (.int i) G Q=(match qu ds i with
  | some d=>Q d G
  | none=>False):=rfl
theorem lA{a:Nat}{G:Gp}{Q:DK}:xZ [.ref a] G Q=(match G a with
  | some (.lst ds)=>kJ G (.lst ds) Q
  | _=>False):=by
 unfold xZ itemsOf;cases h:G a with
 | none=>simp only [h]
 | some g=>cases g <;> simp only [h]
theorem gG{a:Nat}{d:D}{G:Gp}{Q:DK}:tm (.ref a) [d] G Q=(match G a with
  | some (.lst xs)=>xs.length < SZ/\Q .cy (dO G a (.lst (xs++[d])))
  | _=>False):=rfl
theorem ip{a:Nat}{y:D}{G:Gp}{Q:DK}:v7 (.ref a) [y] G Q=(match G a,qc y G with
  | some (.lst xs),some ys=>xs.length+ys.length<=SZ/\Q .cy (dO G a (.lst (xs++ys)))
  | _,_=>False):=rfl
theorem gF{a:Nat}{i:Int}{d:D}{G:Gp}{Q:DK}:tj (.ref a) [.int i,d] G Q=(match G a with
  | some (.lst xs)=>0<=i/\i<=xs.length/\xs.length < SZ/\Q .cy (dO G a (.lst (xs.take i.toNat++d :: xs.drop i.toNat)))
  | _=>False):=rfl
theorem fP{a:Nat}{k d:D}{G:Gp}{Q:DK}:CT (.ref a) [k,d] G Q=(match G a with
  | some (.kI aS)=>iu aS k=true/\fJ k=true/\(match look aS k with
   | some v=>Q v G
   | none=>aS.length < SZ/\Q d (dO G a (.kI (put aS k d))))
  | _=>False):=rfl
theorem qN {C:String} {b:Bool} {G:Gp} {Q:DK}:isAt C (.bl b) G Q=Q (.bl (C == "bool" || C == "int")) G:=rfl
theorem jm{a:Nat}{G:Gp}:D6 (.ref a) G=(match G a with
  | some (.lst _)=>True
  | _=>False):=rfl
theorem qF{a:Nat}{G:Gp}:tyC (.ref a) G=(match G a with
  | some (.kI _)=>True
  | _=>False):=rfl
theorem qE{ds:List D}{G:Gp}:D6 (.eL ds) G=True:=rfl
theorem AU{aS:List (D×D)}{k:D}{G:Gp}{Q:DK}:kB (.sg aS) k G Q=(iu aS k=true/\(match look aS k with
  | some d=>Q d G
  | none=>False)):=by unfold kB; cases k <;> rfl
theorem qB{x:Str}{G:Gp}:tyS (.str x) G=True:=rfl
noncomputable def yI(R:Nat->Bool)(G:Gp):Gp:=fun a=>if R a=true then none else G a
mutual
inductive Fz (G:Gp) (R:Nat->Bool):D->D->Prop
 | same (d:D):Fz G R d d
 | tup {ds ss:List D}:HW G R ds ss->Fz G R (.tup ds) (.tup ss)
 | eL {ds ss:List D}:HW G R ds ss->Fz G R (.eL ds) (.eL ss)
 | ref {a:Nat} {ds ss:List D}:G a=some (.lst ds)->R a=true->HW G R ds ss->Fz G R (.ref a) (.eL ss)
 | kI {a:Nat} {aS PZ:List (D×D)}:G a=some (.kI aS)->R a=true->Gu G R aS PZ->Fz G R (.ref a) (.sg PZ)
 | HE {a:Nat} {aS PZ:List (PK×D)}:G a=some (.HE aS)->R a=true->HW G R (aS.map fun p=>p.2) (PZ.map fun p=>p.2)->aS.map (fun p=>p.1)=PZ.map (fun p=>p.1)->Fz G R (.ref a) (.ze PZ)
inductive HW (G:Gp) (R:Nat->Bool):List D->List D->Prop
 | nil:HW G R [] []
 | cons {d s:D} {ds ss:List D}:Fz G R d s->HW G R ds ss->HW G R (d :: ds) (s :: ss)
inductive Gu (G:Gp) (R:Nat->Bool):List (D×D)->List (D×D)->Prop
 | nil:Gu G R [] []
 | cons {k d s:D} {ds ss:List (D×D)}:Fz G R d s->Gu G R ds ss->Gu G R ((k,d) :: ds) ((k,s) :: ss)
end
theorem Gu.same{G:Gp}{R:Nat->Bool}:∀ (aS:List (D×D)),Gu G R aS aS
 | []=>.nil
 | (k,v) :: r=>.cons (.same v) (Gu.same r)
noncomputable def Ng(G:Gp)(x:D)(Q:DK):Prop:=∃ (R:Nat->Bool) (t:D),Fz G R x t/\Q t (yI R G)
noncomputable def fu(e:fx):fx:=fun E τ G Q=>e E τ G fun x G1=>Ng G1 x Q
noncomputable def R0(i:Nat)(t:i6):i6:=fun E K τ G=>t E { K with nx:=fun rM G1=>match rM[i]? with
 | some (some d)=>Ng G1 d fun t G2=>K.nx (rM.set i (some t)) G2
 | _=>False } τ G
theorem HW.same{G:Gp}{R:Nat->Bool}:∀ (ds:List D),HW G R ds ds
 | []=>.nil
 | d :: ds=>.cons (.same d) (HW.same ds)
theorem xS{G G1:Gp}(l:jE G G1):yI (fun a=>(G a).isNone) G1=G:=by
 funext a;unfold yI;cases h:G a with
 | none=>simp [h]
 | some o=>simp [l a o h,h]
theorem JA{G G1:Gp}{p:Nat}{o:GO}(l:jE G G1)(hp:G p=none)(h1:G1 p=some o):yI (fun a=>(G a).isNone&&decide (a≠p)) G1=dO G p o:=by
 funext a;unfold yI dO;by_cases ha:a=p
 ·subst ha; simp [h1]
 ·cases h:G a with
  | none=>simp [ha,h]
  | some o=>simp [l a o h,ha,h]
theorem kP{G:Gp}{d:D}{Q:DK}(q:Q d G):Ng G d Q:=⟨fun _=>false,d,.same d,by
 have e:yI (fun _=>false) G=G:=by funext a; simp [yI]
 rw [e]; exact q⟩
theorem oy{G G1:Gp}{d:D}{Q:DK}(l:jE G G1)(q:Q d G):Ng G1 d Q:=⟨_,d,.same d,by rw [xS l]; exact q⟩
theorem MA{G G1:Gp}{p:Nat}{o:GO}{Q:DK}(l:jE G G1)(hp:G p=none)(h1:G1 p=some o)(q:Q (.ref p) (dO G p o)):Ng G1 (.ref p) Q :=
 ⟨_,.ref p,.same _,by rw [JA l hp h1]; exact q⟩
theorem Mx{G G1:Gp}{p:Nat}{ds ss:List D}{Q:DK}(l:jE G G1)(hp:G p=none)(h1:G1 p=some (.lst ds))(hs:HW G1 (fun a=>(G a).isNone) ds ss)(q:Q (.eL ss) G):Ng G1 (.ref p) Q :=
 ⟨_,.eL ss,.ref h1 (by simp [hp]) hs,by rw [xS l]; exact q⟩
theorem RO{G G1:Gp}{p:Nat}{aS:List (D×D)}{Q:DK}(l:jE G G1)(hp:G p=none)(h1:G1 p=some (.kI aS))(q:Q (.sg aS) G):Ng G1 (.ref p) Q :=
 ⟨fun a=>(G a).isNone,.sg aS,.kI h1 (by simp [hp]) (.same _),by rw [xS l]; exact q⟩
noncomputable def y8:pD:=fun ds G Q _=>∃ ns:List Int,ds=[.eL (ns.map D.int)]/\ns.length<=63/\(∀ a,G a=none)/\∀ G',Q (.bl true) G'
theorem iL{a b:i6}{E:kC}{K:kR}{τ:hV}{G:Gp}(P:hV->Gp->Prop)(h1:∀ N,(∀ τ G,P τ G->N τ G)->a E { K with nx:=N } τ G)(h2:∀ τ G,P τ G->b E K τ G):bX a b E K τ G:=h1 (b E K) h2
theorem dZ{a:fx}{g:yM}{b:i6}{E:kC}{K:kR}{τ:hV}{G:Gp}:bX (cW a g) b E K τ G=cW a g E { K with nx:=b E K } τ G:=rfl
theorem ka{a:fx}{b:i6}{E:kC}{K:kR}{τ:hV}{G:Gp}:bX (iF a) b E K τ G=iF a E { K with nx:=b E K } τ G:=rfl
theorem FG{g:yM}{body:i6}{ok:Gp->Prop}{ds:List D}{E:kC}{K:kR}{τ:hV}{G:Gp}(I:List D->hV->Gp->Prop)
  (h0:I [] τ G) (ck:∀ pre τ G,I pre τ G->ok G)
  (step:∀ (pre:List D) (d:D) (post:List D) τ G (N:hV->Gp->Prop),ds=pre++d :: post->I pre τ G->(∀ vJ G2,I (pre++[d]) vJ G2->N vJ G2) ->
   g E d τ G fun rM G1=>body E { K with nx:=N,ct:=N,bk:=K.nx } rM G1)
  (fin:∀ τ G,I ds τ G->K.nx τ G):oY g body ok ds E K τ G:=by
 have main:∀ (post pre:List D) τ G,ds=pre++post->I pre τ G->oY g body ok post E K τ G:=by
  intro post;induction post with
  | nil =>
   intro pre τ G e h;rw [bL] at e;subst e;exact⟨ck _ _ _ h,fin _ _ h⟩
  | cons d post ih =>
   intro pre τ G e h;refine⟨ck _ _ _ h,?_⟩;exact step pre d post τ G _ e h fun vJ G2 h2=>ih (pre++[d]) vJ G2 (by rw [e,cM]; rfl) h2
 exact main ds [] τ G rfl h0
theorem oC(a b:D)(r t:List D):kl (a :: r) (b :: t)=(g4 a b&&kl r t):=rfl
theorem sd(a b:Int):g4 (.int a) (.int b)=(a == b):=rfl
theorem FT(a b:List D):g4 (.tup a) (.tup b)=kl a b:=rfl
theorem Dx{α:Type} [DecidableEq α](a b:α)(as bs:List α):(decide (a=b)&&decide (as=bs))=decide (a :: as=b :: bs):=by
 by_cases h:a=b <;> by_cases h2:as=bs <;> simp [h,h2]
set_option genInjectivity true in structure T2 where
 a:Int
 b:Int
 deriving DecidableEq
set_option genInjectivity true in structure T3 where
 a:Int
 b:Int
 c:Int
 deriving DecidableEq
class Enc (α:Type) [DecidableEq α] where
 enc:α->D
 dep:Nat
 eqv:∀ a b,g4 (enc a) (enc b)=decide (a=b)
 sn:∀ (G:Gp) (n:Nat) (a:α),dep<=n->Sn G n (enc a) (enc a)
open Enc (enc)
noncomputable instance:Enc Int where
 enc:=D.int
 dep:=0
 eqv:=fun a b=>rfl
 sn:=fun G n a _=>.int a
noncomputable instance:Enc Bool where
 enc:=D.bl
 dep:=0
 eqv:=fun a b=>Nr a b
 sn:=fun G n a _=>.bl a
noncomputable instance:Enc T2 where
 enc:=fun t=>.tup [.int t.a,.int t.b]
 dep:=1
 eqv:=fun x y=>by
  cases x; cases y;rw [FT,oC,oC,sd,sd]; simp only [T2.mk.injEq]; rename_i a b c d; by_cases h:a=c <;> by_cases h2:b=d <;> simp [h,h2,show kl [] []=true from rfl]
 sn:=fun G n t h=>by
  obtain⟨m,rfl⟩:∃ m,n=m+1:=⟨n - 1,by lia⟩;exact .mT (.int _) (.mT (.int _) .Ck)
noncomputable instance:Enc T3 where
 enc:=fun t=>.tup [.int t.a,.int t.b,.int t.c]
 dep:=1
 eqv:=fun x y=>by
  cases x; cases y;rw [FT,oC,oC,oC,sd,sd,sd]; simp only [T3.mk.injEq]; rename_i a b e c d f; by_cases h:a=c <;> by_cases h2:b=d <;> by_cases h3:e=f <;> simp [h,h2,h3,show kl [] []=true from rfl]
 sn:=fun G n t h=>by
  obtain⟨m,rfl⟩:∃ m,n=m+1:=⟨n - 1,by lia⟩;exact .mT (.int _) (.mT (.int _) (.mT (.int _) .Ck))
noncomputable instance {α β:Type} [DecidableEq α] [DecidableEq β] [Enc α] [Enc β]:Enc (α×β) where
 enc:=fun t=>.tup [enc t.1,enc t.2]
 dep:=max (Enc.dep α) (Enc.dep β)+1
 eqv:=fun x y=>by
  cases x; cases y;rw [FT,oC,oC,Enc.eqv,Enc.eqv]; simp only [Prod.mk.injEq]; rename_i a b c d; by_cases h:a=c <;> by_cases h2:b=d <;> simp [h,h2,show kl [] []=true from rfl]
 sn:=fun G n t h=>by
  obtain⟨m,rfl⟩:∃ m,n=m+1:=⟨n - 1,by lia⟩;exact .mT (Enc.sn _ _ _ (by lia)) (.mT (Enc.sn _ _ _ (by lia)) .Ck)
theorem Dt{α:Type} [DecidableEq α] [Enc α]:∀ (a b:List α),kl (a.map enc) (b.map enc)=decide (a=b)
 | [],[]=>(decide_eq_true rfl).symm
 | [],b :: bs=>(decide_eq_false (fun z=>nomatch z)).symm
 | a :: as,[]=>(decide_eq_false (fun z=>nomatch z)).symm
 | a :: as,b :: bs=>by
  show (g4 (enc a) (enc b)&&kl (as.map enc) (bs.map enc))=_;rw [Enc.eqv,Dt as bs,Dx]
theorem pT{α:Type} [DecidableEq α] [Enc α](G:Gp)(n:Nat)(h:Enc.dep α<=n):∀ (xs:List α),Sn G (n+1) (.eL (xs.map enc)) (.eL (xs.map enc))
 | []=>.II
 | a :: as=>.zh (Enc.sn _ _ _ h) (pT G n h as)
noncomputable instance {α:Type} [DecidableEq α] [Enc α]:Enc (List α) where
 enc:=fun xs=>.eL (xs.map enc)
 dep:=Enc.dep α+1
 eqv:=fun a b=>by
  show kl _ _=_;exact Dt a b
 sn:=fun G n t h=>by
  obtain⟨m,rfl⟩:∃ m,n=m+1:=⟨n - 1,by lia⟩;exact pT G m (by lia) t
section
variable {α:Type} [DecidableEq α] [Enc α]
theorem BP(L:List α)(t:α):(L.map enc).any (g4 · (enc t))=decide (t∈L):=by
 induction L with
 | nil=>simp
 | cons a r ih =>
  simp only [aI,mQ,Enc.eqv,ih,rp];by_cases h:a=t
  ·simp [h]
  ·have h':¬ t=a:=fun z=>h z.symm;by_cases h2:t∈r <;> simp [h,h',h2]
end
section
variable {κ α:Type} [DecidableEq κ] [Enc κ] [DecidableEq α] [Enc α]
noncomputable def eO(l:List (κ×α)):List (D×D):=l.map fun p=>(enc p.1,enc p.2)
noncomputable def lh(l:List (κ×α))(k:κ):Option α:=(l.find? fun p=>p.1=k).map (·.2)
noncomputable def Gk(l:List (κ×α))(k:κ)(v:α):List (κ×α):=if (l.any fun p=>p.1=k)=true then l.map (fun p=>if p.1=k then (p.1,v) else p) else l++[(k,v)]
theorem qe(l:List (κ×α))(k:κ):look (eO l) (enc k)=(lh l k).map enc:=by
 unfold look lh eO;induction l with
 | nil=>rfl
 | cons p r ih =>
  rw [aI,gW,gW];simp only [Enc.eqv];by_cases h:p.1=k
  ·simp [h]
  ·simp only [h,decide_false]; exact ih
theorem Ow(l:List (κ×α))(k:κ)(v:α):put (eO l) (enc k) (enc v)=eO (Gk l k v):=by
 unfold put Gk;have e:((eO l).any fun p=>g4 p.1 (enc k))=l.any fun p=>decide (p.1=k):=by
  unfold eO; rw [List.any_map]; congr 1; funext p; exact Enc.eqv _ _
 rw [e];split
 ·unfold eO; rw [fN,fN];refine List.map_congr_left fun p _=>?_;simp only [Function.comp,Enc.eqv,decide_eq_true_eq];split <;> rfl
 ·unfold eO; rw [dD]; rfl
end
class qy (κ:Type) [DecidableEq κ] [Enc κ] where
 ok:(∀ k:κ,fJ (enc k)=true)\/∀ k:κ,rY (enc k)=true
noncomputable instance:qy Int:=⟨.inl fun _=>rfl⟩
noncomputable instance:qy T2:=⟨.inr fun _=>rfl⟩
noncomputable instance:qy T3:=⟨.inr fun _=>rfl⟩
theorem jS{κ α:Type} [DecidableEq κ] [Enc κ] [qy κ] [DecidableEq α] [Enc α](l:List (κ×α))(k:κ):iu (eO l) (enc k)=true:=by
 unfold iu eO;rcases qy.ok (κ:=κ) with h | h
 ·rw [nI]; left;rw [h k,Bool.true_and,z9,jI];intro p _; exact h p.1
 ·rw [nI]; right;rw [h k,Bool.true_and,z9,jI];intro p _; exact h p.1
end K2
end
section
namespace K2
open PySem (Str)
open Enc (enc)
mutual
noncomputable def ma:D->D->Bool
 | .int a,.int b=>decide (a < b)
 | .tup a,.tup b=>l8 a b
 | .eL a,.eL b=>l8 a b
 | _,_=>false
noncomputable def l8:List D->List D->Bool
 | [],[]=>false
 | [],_ :: _=>true
 | _ :: _,[]=>false
 | x :: xs,y :: ys=>if g4 x y=true then l8 xs ys else ma x y
end
theorem n8(x y:D)(xs ys:List D):l8 (x :: xs) (y :: ys)=if g4 x y=true then l8 xs ys else ma x y:=rfl
theorem LF(a b:Int):ma (.int a) (.int b)=decide (a < b):=rfl
inductive me where
 | int | tup (l:List me) | lst (s:me)
mutual
noncomputable def cD:me->D->Bool
 | .int,.int _=>true
 | .tup l,.tup ds=>e9 l ds
 | .lst s,.eL ds=>gz s ds
 | _,_=>false
noncomputable def e9:List me->List D->Bool
 | [],[]=>true
 | s :: l,d :: ds=>cD s d&&e9 l ds
 | _,_=>false
noncomputable def gz:me->List D->Bool
 | _,[]=>true
 | s,d :: ds=>cD s d&&gz s ds
end
theorem dc{a:D}(h:cD .int a=true):∃ i,a=.int i:=by cases a <;> first | exact⟨_,rfl⟩ | exact aY (show false=true from h)
theorem c9{l:List me}{a:D}(h:cD (.tup l) a=true):∃ x,a=.tup x:=by cases a <;> first | exact⟨_,rfl⟩ | exact aY (show false=true from h)
theorem da{l:me}{a:D}(h:cD (.lst l) a=true):∃ x,a=.eL x:=by cases a <;> first | exact⟨_,rfl⟩ | exact aY (show false=true from h)
mutual
noncomputable def Pg:me->Nat
 | .int=>0
 | .tup l=>MP l+1
 | .lst s=>Pg s+1
noncomputable def MP:List me->Nat
 | []=>0
 | s :: l=>max (Pg s) (MP l)
end
noncomputable def Ly(sh:me):Bool:=decide (Pg sh<=7)&&(match sh with
 | .tup []=>false
 | _=>true)
noncomputable def Nw(a b:D):Bool:=!ma b a
noncomputable def mj(ds:List D):List D:=ds.mergeSort Nw
noncomputable def wm(ds:List D)(G:Gp)(Q:DK):Prop:=match ds with
 | [x]=>∃ (sh:me) (xs:List D),D6 x G/\itemsOf x G=some xs/\xs.all (cD sh)=true/\Ly sh=true/\xs.length < 64/\kJ G (.lst (mj xs)) Q
 | _=>False
class bM (α:Type) [DecidableEq α] [Enc α] where
 lt:α->α->Bool
 vb:me
 FD:∀ a:α,cD vb (enc a)=true
 So:∀ a b:α,ma (enc a) (enc b)=lt a b
 LX:∀ a,lt a a=false
 trans:∀ a b c,lt a b=true->lt b c=true->lt a c=true
 N4:∀ a b,lt a b=false->lt b a=false->a=b
noncomputable instance:bM Int where
 lt:=fun a b=>decide (a < b)
 vb:=.int
 FD:=fun _=>rfl
 So:=fun a b=>rfl
 LX:=fun a=>by simp
 trans:=fun a b c h1 h2=>by simp at *; lia
 N4:=fun a b h1 h2=>by simp at *; lia
noncomputable def qZ{α:Type} [DecidableEq α](lt:α->α->Bool):List α->List α->Bool
 | [],[]=>false
 | [],_ :: _=>true
 | _ :: _,[]=>false
 | x :: xs,y :: ys=>if x=y then qZ lt xs ys else lt x y
theorem xq{α:Type} [DecidableEq α](lt:α->α->Bool)(x y:α)(xs ys:List α):qZ lt (x :: xs) (y :: ys)=if x=y then qZ lt xs ys else lt x y:=rfl
section
variable {α:Type} [DecidableEq α] {lt:α->α->Bool}
theorem tD:∀ x:List α,qZ lt x x=false
 | []=>rfl
 | a :: x=>by simp only [xq,if_true]; exact tD x
theorem tw(t:∀ a b,lt a b=false->lt b a=false->a=b):∀ (x y:List α),qZ lt x y=false->qZ lt y x=false->x=y
 | [],[],_,_=>rfl
 | [],_ :: _,h,_=>by cases h
 | _ :: _,[],_,h=>by cases h
 | a :: x,b :: y,h1,h2=>by
  simp only [xq] at h1 h2;by_cases e:a=b
  ·subst e;simp only [if_true] at h1 h2;rw [tw t x y h1 h2]
  ·rw [if_neg e] at h1;rw [if_neg (jZ e)] at h2;exact absurd (t a b h1 h2) e
theorem og(ir:∀ a,lt a a=false)(tr:∀ a b c,lt a b=true->lt b c=true->lt a c=true):∀ (x y z:List α),qZ lt x y=true->qZ lt y z=true->qZ lt x z=true
 | [],[],_,h,_=>by cases h
 | [],_ :: _,[],_,h=>by cases h
 | [],_ :: _,_ :: _,_,_=>rfl
 | _ :: _,[],_,h,_=>by cases h
 | _ :: _,_ :: _,[],_,h=>by cases h
 | a :: x,b :: y,c :: z,h1,h2=>by
  simp only [xq] at h1 h2 ⊢;by_cases e1:a=b
  ·subst e1;simp only [if_true] at h1;by_cases e2:a=c
   ·subst e2;simp only [if_true] at h2 ⊢;exact og ir tr x y z h1 h2
   ·rw [if_neg e2] at h2 ⊢; exact h2
  ·rw [if_neg e1] at h1;by_cases e2:b=c
   ·subst e2;rw [if_neg e1]; exact h1
   ·rw [if_neg e2] at h2;have h3:=tr _ _ _ h1 h2;rw [if_neg (by rintro rfl; rw [ir] at h3; cases h3)]; exact h3
end
theorem tu{α:Type} [DecidableEq α] [Enc α] [bM α]:∀ (x y:List α),l8 (x.map enc) (y.map enc)=qZ (bM.lt (α:=α)) x y
 | [],[]=>rfl
 | [],_ :: _=>rfl
 | _ :: _,[]=>rfl
 | a :: x,b :: y=>by simp only [aI,n8,xq,Enc.eqv,tu x y,bM.So,decide_eq_true_eq]
theorem zy{α:Type} [DecidableEq α] [Enc α] [bM α]:∀ (x:List α),gz (bM.vb α) (x.map enc)=true
 | []=>rfl
 | a :: x=>by simp only [aI,gz,bM.FD,zy x,Bool.and_self]
noncomputable instance {α:Type} [DecidableEq α] [Enc α] [bM α]:bM (List α) where
 lt:=qZ bM.lt
 vb:=.lst (bM.vb α)
 FD:=fun a=>zy a
 So:=fun a b=>tu a b
 LX:=tD
 trans:=og bM.LX bM.trans
 N4:=tw bM.N4
noncomputable def T2.l(t:T2):List Int:=[t.a,t.b]
noncomputable def T3.l(t:T3):List Int:=[t.a,t.b,t.c]
noncomputable instance:bM T2 where
 lt:=fun x y=>qZ (fun a b=>decide (a < b)) x.l y.l
 vb:=.tup [.int,.int]
 FD:=fun _=>rfl
 So:=fun a b=>tu a.l b.l
 LX:=fun a=>tD _
 trans:=fun a b c=>og (α:=Int) bM.LX bM.trans _ _ _
 N4:=fun ⟨a,b⟩ ⟨c,d⟩ h1 h2=>by
  have:=tw (α:=Int) bM.N4 _ _ h1 h2;simpa [T2.l] using this
noncomputable instance:bM T3 where
 lt:=fun x y=>qZ (fun a b=>decide (a < b)) x.l y.l
 vb:=.tup [.int,.int,.int]
 FD:=fun _=>rfl
 So:=fun a b=>tu a.l b.l
 LX:=fun a=>tD _
 trans:=fun a b c=>og (α:=Int) bM.LX bM.trans _ _ _
 N4:=fun ⟨a,b,e⟩ ⟨c,d,f⟩ h1 h2=>by
  have:=tw (α:=Int) bM.N4 _ _ h1 h2;simpa [T3.l] using this
section
variable {α:Type} [DecidableEq α] [Enc α] [bM α]
noncomputable def xw(a b:α):Bool:=!bM.lt b a
noncomputable def GL(xs:List α):List α:=xs.mergeSort xw
theorem y9(xs:List α):mj (xs.map enc)=(GL xs).map enc:=by
 unfold mj GL;symm;exact List.map_mergeSort fun a _ b _=>by unfold xw Nw; rw [bM.So]
theorem uL(a b c:α)(h1:xw a b=true)(h2:xw b c=true):xw a c=true:=by
 unfold xw at *;simp only [lr] at *;cases h:bM.lt c a with
 | false=>rfl
 | true =>
  by_cases e:a=b
  ·subst e; rw [h] at h2; cases h2
  ·have Jt:bM.lt a b=true:=by
    cases q:bM.lt a b with
    | true=>rfl
    | false=>exact absurd (bM.N4 _ _ q h1) e
   rw [bM.trans _ _ _ h Jt] at h2; cases h2
theorem Jg(a b:α):(xw a b||xw b a)=true:=by
 unfold xw;cases h:bM.lt b a with
 | false=>rfl
 | true =>
  cases h2:bM.lt a b with
  | false=>rfl
  | true=>have:=bM.trans _ _ _ h h2; rw [bM.LX] at this; cases this
theorem xu(a b:α)(h1:xw a b=true)(h2:xw b a=true):a=b:=by
 unfold xw at *;exact bM.N4 a b (by simpa using h2) (by simpa using h1)
theorem pS(xs:List α):(GL xs).Perm xs:=List.mergeSort_perm xs xw
theorem wN(xs:List α):(GL xs).Pairwise fun a b=>xw a b=true:=JS uL Jg xs
theorem yv:∀ {xs ys:List α},xs.Perm ys->xs.Pairwise (fun a b=>xw a b=true)->ys.Pairwise (fun a b=>xw a b=true)->xs=ys:=by
 intro xs ys hp h1 h2;exact B1 (fun a b _ _ h h'=>xu a b h h') h1 h2 hp
theorem QC{xs ys:List α}(h:xs.Perm ys):GL xs=GL ys:=yv (((pS xs).trans h).trans (pS ys).symm) (wN xs) (wN ys)
theorem Od{xs:List α}{x:α}:x∈GL xs↔x∈xs:=(pS xs).mem_iff
theorem GK(xs:List α):(GL xs).length=xs.length:=(pS xs).length_eq
end
end K2
end
section
namespace K2
open PySem (Str)
mutual
theorem jU:∀ (sh:me) (a:D),cD sh a=true->g4 a a=true
 | .int,.int i,_=>by show (i == i)=true; exact beq_self_eq_true i
 | .tup l,.tup xs,h=>by show kl xs xs=true; exact vo l xs h
 | .lst l,.eL xs,h=>by show kl xs xs=true; exact vp l xs h
theorem vo:∀ (l:List me) (xs:List D),e9 l xs=true->kl xs xs=true
 | [],[],_=>rfl
 | s :: l,x :: xs,h=>by
  have h:(cD s x&&e9 l xs)=true:=h;rw [aG] at h;show (g4 x x&&kl xs xs)=true;rw [jU s x h.1,vo l xs h.2]; rfl
theorem vp:∀ (s:me) (xs:List D),gz s xs=true->kl xs xs=true
 | _,[],_=>rfl
 | s,x :: xs,h=>by
  have h:(cD s x&&gz s xs)=true:=h;rw [aG] at h;show (g4 x x&&kl xs xs)=true;rw [jU s x h.1,vp s xs h.2]; rfl
end
theorem RU(s:me)(ih:∀ (a b:D),cD s a=true->cD s b=true->g4 a b=true->a=b):∀ (xs ys:List D),gz s xs=true->gz s ys=true->kl xs ys=true->xs=ys:=by
 intro xs;induction xs with
 | nil=>intro ys _ _ h; cases ys with
  | nil=>rfl
  | cons _ _=>cases h
 | cons x xs Ub =>
  intro ys h1 h2 h;cases ys with
  | nil=>cases h
  | cons y ys =>
   have h1:(cD s x&&gz s xs)=true:=h1;have h2:(cD s y&&gz s ys)=true:=h2;have h:(g4 x y&&kl xs ys)=true:=h;rw [aG] at h1 h2 h;rw [ih x y h1.1 h2.1 h.1,Ub ys h1.2 h2.2 h.2]
mutual
theorem o3:∀ (sh:me) (a b:D),cD sh a=true->cD sh b=true->g4 a b=true->a=b
 | .int,a,b,h1,h2,h=>by
  first | obtain⟨_,rfl⟩:=dc h1 | obtain⟨_,rfl⟩:=c9 h1 | obtain⟨_,rfl⟩:=da h1
  first | obtain⟨_,rfl⟩:=dc h2 | obtain⟨_,rfl⟩:=c9 h2 | obtain⟨_,rfl⟩:=da h2
  rw [sd] at h; rw [beq_iff_eq.mp h]
 | .tup l,a,b,h1,h2,h=>by
  first | obtain⟨_,rfl⟩:=dc h1 | obtain⟨_,rfl⟩:=c9 h1 | obtain⟨_,rfl⟩:=da h1
  first | obtain⟨_,rfl⟩:=dc h2 | obtain⟨_,rfl⟩:=c9 h2 | obtain⟨_,rfl⟩:=da h2
  rw [MN l _ _ h1 h2 h]
 | .lst l,a,b,h1,h2,h=>by
  first | obtain⟨_,rfl⟩:=dc h1 | obtain⟨_,rfl⟩:=c9 h1 | obtain⟨_,rfl⟩:=da h1
  first | obtain⟨_,rfl⟩:=dc h2 | obtain⟨_,rfl⟩:=c9 h2 | obtain⟨_,rfl⟩:=da h2
  rw [RU l (o3 l) _ _ h1 h2 h]
theorem MN:∀ (l:List me) (xs ys:List D),e9 l xs=true->e9 l ys=true->kl xs ys=true->xs=ys
 | [],xs,ys,h1,h2,_=>by
  cases xs with
  | nil=>cases ys with
   | nil=>rfl
   | cons _ _=>cases h2
  | cons _ _=>cases h1
 | s :: l,xs,ys,h1,h2,h=>by
  cases xs with
  | nil=>cases h1
  | cons x xs =>
   cases ys with
   | nil=>cases h2
   | cons y ys =>
    have h1:(cD s x&&e9 l xs)=true:=h1;have h2:(cD s y&&e9 l ys)=true:=h2;have h:(g4 x y&&kl xs ys)=true:=h;rw [aG] at h1 h2 h;rw [o3 s x y h1.1 h2.1 h.1,MN l xs ys h1.2 h2.2 h.2]
end
theorem LD(s:me)(ih:∀ (a b:D),cD s a=true->cD s b=true->ma a b=false->ma b a=false->a=b):∀ (xs ys:List D),gz s xs=true->gz s ys=true->l8 xs ys=false->l8 ys xs=false->xs=ys:=by
 intro xs;induction xs with
 | nil=>intro ys _ _ h _; cases ys with
  | nil=>rfl
  | cons _ _=>cases h
 | cons x xs Ub =>
  intro ys h1 h2 h3 h4;cases ys with
  | nil=>cases h4
  | cons y ys =>
   have h1:(cD s x&&gz s xs)=true:=h1;have h2:(cD s y&&gz s ys)=true:=h2;rw [aG] at h1 h2;simp only [n8] at h3 h4;by_cases e:g4 x y=true
   ·have Yd:=o3 s x y h1.1 h2.1 e;subst Yd;rw [if_pos e] at h3 h4;rw [Ub ys h1.2 h2.2 h3 h4]
   ·rw [if_neg e] at h3;by_cases e2:g4 y x=true
    ·have:=o3 s y x h2.1 h1.1 e2;subst this; exact absurd e2 e
    ·rw [if_neg e2] at h4;have:=ih x y h1.1 h2.1 h3 h4;subst this;exact absurd (jU s x h1.1) e
mutual
theorem v8:∀ (sh:me) (a b:D),cD sh a=true->cD sh b=true->ma a b=false->ma b a=false->a=b
 | .int,a,b,h1,h2,h3,h4=>by
  first | obtain⟨_,rfl⟩:=dc h1 | obtain⟨_,rfl⟩:=c9 h1 | obtain⟨_,rfl⟩:=da h1
  first | obtain⟨_,rfl⟩:=dc h2 | obtain⟨_,rfl⟩:=c9 h2 | obtain⟨_,rfl⟩:=da h2
  simp [LF] at h3 h4; congr 1; lia
 | .tup l,a,b,h1,h2,h3,h4=>by
  first | obtain⟨_,rfl⟩:=dc h1 | obtain⟨_,rfl⟩:=c9 h1 | obtain⟨_,rfl⟩:=da h1
  first | obtain⟨_,rfl⟩:=dc h2 | obtain⟨_,rfl⟩:=c9 h2 | obtain⟨_,rfl⟩:=da h2
  rw [CU l _ _ h1 h2 h3 h4]
 | .lst l,a,b,h1,h2,h3,h4=>by
  first | obtain⟨_,rfl⟩:=dc h1 | obtain⟨_,rfl⟩:=c9 h1 | obtain⟨_,rfl⟩:=da h1
  first | obtain⟨_,rfl⟩:=dc h2 | obtain⟨_,rfl⟩:=c9 h2 | obtain⟨_,rfl⟩:=da h2
  rw [LD l (v8 l) _ _ h1 h2 h3 h4]
theorem CU:∀ (l:List me) (xs ys:List D),e9 l xs=true->e9 l ys=true->l8 xs ys=false->l8 ys xs=false->xs=ys
 | [],xs,ys,h1,h2,_,_=>by
  cases xs with
  | nil=>cases ys with
   | nil=>rfl
   | cons _ _=>cases h2
  | cons _ _=>cases h1
 | s :: l,xs,ys,h1,h2,h3,h4=>by
  cases xs with
  | nil=>cases h1
  | cons x xs =>
   cases ys with
   | nil=>cases h2
   | cons y ys =>
    have h1:(cD s x&&e9 l xs)=true:=h1;have h2:(cD s y&&e9 l ys)=true:=h2;rw [aG] at h1 h2;simp only [n8] at h3 h4;by_cases e:g4 x y=true
    ·have Yd:=o3 s x y h1.1 h2.1 e;subst Yd;rw [if_pos e] at h3 h4;rw [CU l xs ys h1.2 h2.2 h3 h4]
    ·rw [if_neg e] at h3;by_cases e2:g4 y x=true
     ·have:=o3 s y x h2.1 h1.1 e2;subst this; exact absurd e2 e
     ·rw [if_neg e2] at h4;have:=v8 s x y h1.1 h2.1 h3 h4;subst this;exact absurd (jU s x h1.1) e
end
mutual
theorem Bf:∀ (sh:me) (a:D),cD sh a=true->ma a a=false
 | .int,.int i,_=>by rw [LF]; exact decide_eq_false (Int.lt_irrefl _)
 | .tup l,.tup xs,h=>by show l8 xs xs=false; exact CV l xs h
 | .lst l,.eL xs,h=>by show l8 xs xs=false; exact CW l xs h
theorem CV:∀ (l:List me) (xs:List D),e9 l xs=true->l8 xs xs=false
 | [],[],_=>rfl
 | s :: l,x :: xs,h=>by
  have h:(cD s x&&e9 l xs)=true:=h;rw [aG] at h;simp only [n8,jU s x h.1,if_true]; exact CV l xs h.2
theorem CW:∀ (s:me) (xs:List D),gz s xs=true->l8 xs xs=false
 | _,[],_=>rfl
 | s,x :: xs,h=>by
  have h:(cD s x&&gz s xs)=true:=h;rw [aG] at h;simp only [n8,jU s x h.1,if_true]; exact CW s xs h.2
end
theorem Fj(s:me)(ih:∀ (a b c:D),cD s a=true->cD s b=true->cD s c=true->ma a b=true->ma b c=true->ma a c=true):∀ (xs ys zs:List D),gz s xs=true->gz s ys=true->gz s zs=true->l8 xs ys=true->l8 ys zs=true->l8 xs zs=true:=by
 intro xs;induction xs with
 | nil =>
  intro ys zs _ _ _ h4 h5;cases ys with
  | nil=>cases h4
  | cons _ _=>cases zs with
   | nil=>cases h5
   | cons _ _=>rfl
 | cons x xs Ub =>
  intro ys zs h1 h2 h3 h4 h5;cases ys with
  | nil=>cases h4
  | cons y ys =>
   cases zs with
   | nil=>cases h5
   | cons z zs =>
    have h1:(cD s x&&gz s xs)=true:=h1;have h2:(cD s y&&gz s ys)=true:=h2;have h3:(cD s z&&gz s zs)=true:=h3;rw [aG] at h1 h2 h3;simp only [n8] at h4 h5 ⊢;by_cases e1:g4 x y=true
    ·have:=o3 s x y h1.1 h2.1 e1;subst this;rw [if_pos e1] at h4;by_cases e2:g4 x z=true
     ·rw [if_pos e2] at h5 ⊢;exact Ub ys zs h1.2 h2.2 h3.2 h4 h5
     ·rw [if_neg e2] at h5 ⊢; exact h5
    ·rw [if_neg e1] at h4;by_cases e2:g4 y z=true
     ·have:=o3 s y z h2.1 h3.1 e2;subst this;rw [if_neg e1]; exact h4
     ·rw [if_neg e2] at h5;have h6:=ih x y z h1.1 h2.1 h3.1 h4 h5;rw [if_neg (fun e3=>by
       have:=o3 s x z h1.1 h3.1 e3;subst this;rw [Bf s x h1.1] at h6; cases h6)]
      exact h6
mutual
theorem qL:∀ (sh:me) (a b c:D),cD sh a=true->cD sh b=true->cD sh c=true->ma a b=true->ma b c=true->ma a c=true
 | .int,a,b,c,h1,h2,h3,h4,h5=>by
  first | obtain⟨_,rfl⟩:=dc h1 | obtain⟨_,rfl⟩:=c9 h1 | obtain⟨_,rfl⟩:=da h1
  first | obtain⟨_,rfl⟩:=dc h2 | obtain⟨_,rfl⟩:=c9 h2 | obtain⟨_,rfl⟩:=da h2
  first | obtain⟨_,rfl⟩:=dc h3 | obtain⟨_,rfl⟩:=c9 h3 | obtain⟨_,rfl⟩:=da h3
  simp [LF] at *; lia
 | .tup l,a,b,c,h1,h2,h3,h4,h5=>by
  first | obtain⟨_,rfl⟩:=dc h1 | obtain⟨_,rfl⟩:=c9 h1 | obtain⟨_,rfl⟩:=da h1
  first | obtain⟨_,rfl⟩:=dc h2 | obtain⟨_,rfl⟩:=c9 h2 | obtain⟨_,rfl⟩:=da h2
  first | obtain⟨_,rfl⟩:=dc h3 | obtain⟨_,rfl⟩:=c9 h3 | obtain⟨_,rfl⟩:=da h3
  exact xl l _ _ _ h1 h2 h3 h4 h5
 | .lst l,a,b,c,h1,h2,h3,h4,h5=>by
  first | obtain⟨_,rfl⟩:=dc h1 | obtain⟨_,rfl⟩:=c9 h1 | obtain⟨_,rfl⟩:=da h1
  first | obtain⟨_,rfl⟩:=dc h2 | obtain⟨_,rfl⟩:=c9 h2 | obtain⟨_,rfl⟩:=da h2
  first | obtain⟨_,rfl⟩:=dc h3 | obtain⟨_,rfl⟩:=c9 h3 | obtain⟨_,rfl⟩:=da h3
  exact Fj l (qL l) _ _ _ h1 h2 h3 h4 h5
theorem xl:∀ (l:List me) (xs ys zs:List D),e9 l xs=true->e9 l ys=true->e9 l zs=true->l8 xs ys=true->l8 ys zs=true->l8 xs zs=true
 | [],xs,ys,zs,h1,h2,_,h,_=>by
  cases xs with
  | nil=>cases ys with
   | nil=>cases h
   | cons _ _=>cases h2
  | cons _ _=>cases h1
 | s :: l,xs,ys,zs,h1,h2,h3,h4,h5=>by
  cases xs with
  | nil=>cases h1
  | cons x xs =>
   cases ys with
   | nil=>cases h2
   | cons y ys =>
    cases zs with
    | nil=>cases h3
    | cons z zs =>
     have h1:(cD s x&&e9 l xs)=true:=h1;have h2:(cD s y&&e9 l ys)=true:=h2;have h3:(cD s z&&e9 l zs)=true:=h3;rw [aG] at h1 h2 h3;simp only [n8] at h4 h5 ⊢;by_cases e1:g4 x y=true
     ·have:=o3 s x y h1.1 h2.1 e1;subst this;rw [if_pos e1] at h4;by_cases e2:g4 x z=true
      ·rw [if_pos e2] at h5 ⊢;exact xl l xs ys zs h1.2 h2.2 h3.2 h4 h5
      ·rw [if_neg e2] at h5 ⊢; exact h5
     ·rw [if_neg e1] at h4;by_cases e2:g4 y z=true
      ·have:=o3 s y z h2.1 h3.1 e2;subst this;rw [if_neg e1]; exact h4
      ·rw [if_neg e2] at h5;have h6:=qL s x y z h1.1 h2.1 h3.1 h4 h5;rw [if_neg (fun e3=>by
        have:=o3 s x z h1.1 h3.1 e3;subst this;rw [Bf s x h1.1] at h6; cases h6)]
       exact h6
end
theorem uK(sh:me){a b:D}(h1:cD sh a=true)(h2:cD sh b=true)(h:ma a b=true):ma b a=false:=by
 cases q:ma b a with
 | false=>rfl
 | true=>have:=qL sh a b a h1 h2 h1 h q; rw [Bf sh a h1] at this; cases this
theorem rW(sh:me){a b c:D}(h1:cD sh a=true)(h2:cD sh b=true)(h3:cD sh c=true)(q1:ma b a=false)(q2:ma c b=false):ma c a=false:=by
 cases h:ma c a with
 | false=>rfl
 | true =>
  exfalso;cases q:ma a b with
  | false =>
   have:=v8 sh a b h1 h2 q q1;subst this; rw [h] at q2; cases q2
  | true=>rw [qL sh c a b h3 h1 h2 h q] at q2; cases q2
theorem kZ(sh:me){xs ys:List D}(hx:∀ x∈xs,cD sh x=true)(hp:ys.Perm xs)(hs:ys.Pairwise fun a b=>ma b a=false):mj xs=ys:=by
 have hy:∀ y∈ys,cD sh y=true:=fun y h=>hx y (hp.mem_iff.mp h);have p1:(mj xs).Perm xs:=List.mergeSort_perm xs Nw;have hz:∀ z∈mj xs,cD sh z=true:=fun z h=>hx z (p1.mem_iff.mp h);have s1:(mj xs).Pairwise fun a b=>ma b a=false:=by
  let S0:List { d:D // cD sh d=true }:=xs.attach.map fun x=>⟨x.1,hx x.1 x.2⟩
  have ex:xs=S0.map (·.1):=by
   simp only [S0,fN]
   conv=>lhs; rw [<-List.attach_map_subtype_val xs]
   rfl
  have e2:mj xs=(S0.mergeSort fun a b=>Nw a.1 b.1).map (·.1):=by
   unfold mj;rw [ex];exact(List.map_mergeSort (r:=fun (a b:{ d:D // cD sh d=true })=>Nw a.1 b.1) (s:=Nw) (f:=fun x=>x.1) (l:=S0) fun a _ b _=>rfl).symm
  rw [e2,lj]
  have:=JS (le:=fun (a b:{ d:D // cD sh d=true })=>Nw a.1 b.1) (fun a b c h1 h2=>by
   unfold Nw at *;simp only [lr] at *;exact rW sh a.2 b.2 c.2 h1 h2) (fun a b=>by
   unfold Nw;cases q:ma b.1 a.1 with
   | false=>rfl
   | true=>rw [uK sh b.2 a.2 q]; rfl) S0
  exact this.imp fun h=>by unfold Nw at h; simpa using h
 refine B1 (le:=fun a b=>ma b a=false) (fun a b ha hb h h'=>?_) s1 hs (p1.trans hp.symm);exact v8 sh a b (hz a ha) (hy b hb) h' h
end K2
end
section
namespace K2
open PySem (Str)
open Enc (enc)
noncomputable def mz(k:Nat):List D->List D
 | []=>[]
 | d :: r=>.tup [.int (k:Int),d] :: mz (k+1) r
theorem uS:∀ (ds:List D) (k i:Nat),(mz k ds)[i]?=(ds[i]?).map fun d=>D.tup [.int ((k+i:Nat):Int),d]
 | [],k,i=>by simp [mz]
 | d :: r,k,0=>by simp [mz]
 | d :: r,k,i+1=>by
  rw [mz,af,uS r (k+1) i,af];congr 1; funext x; congr 3; lia
theorem uR:∀ (ds:List D) (k:Nat),(mz k ds).length=ds.length
 | [],_=>rfl
 | d :: r,k=>by rw [mz,ah,ah,uR r]
noncomputable def tK(x:D)(G1:Gp)(R:List D->(Gp->Prop)->Gp->Prop):Prop:=match x with
 | .eL ds=>R (mz 0 ds) (fun _=>True) G1
 | .ref p=>(match G1 p with
  | some (.lst ds)=>R (mz 0 ds) (fun G2=>G2 p=some (.lst ds)) G1
  | _=>False)
 | _=>False
noncomputable def L9(a:fx):Pt:=fun E τ G R=>a E τ G fun x G1=>tK x G1 R
noncomputable def WA(P:D->Gp->Prop):List D->Gp->Prop
 | [x],G=>P x G
 | _,_=>False
noncomputable def Bk(x:D)(G1:Gp)(R:List D->(Gp->Prop)->Gp->Prop):Prop:=match x with
 | .sg aS=>R (aS.map (·.1)) (fun _=>True) G1
 | _=>False
noncomputable def Ma(a:fx):Pt:=fun E τ G R=>a E τ G fun x G1=>Bk x G1 R
noncomputable def IsL(G:Gp)(d:D)(ds:List D):Prop:=d=.eL ds\/∃ a,d=.ref a/\G a=some (.lst ds)
theorem IsL.enc{α:Type} [DecidableEq α] [Enc α]{G:Gp}(xs:List α):IsL G (enc xs) (xs.map enc):=.inl rfl
theorem IsL.ref{G:Gp}{a:Nat}{ds:List D}(h:G a=some (.lst ds)):IsL G (.ref a) ds:=.inr ⟨a,rfl,h⟩
theorem IsL.mono{G G':Gp}{d:D}{ds:List D}(h:IsL G d ds)(l:jE G G'):IsL G' d ds:=by
 rcases h with h | ⟨a,h,e⟩
 ·exact .inl h
 ·exact .inr ⟨a,h,l a _ e⟩
theorem Fv{G:Gp}{d:D}{ds:List D}{R:List D->(Gp->Prop)->Gp->Prop}(h:IsL G d ds)(k:∀ ok:Gp->Prop,(∀ G',jE G G'->ok G')->R ds ok G):OZ d G R:=by
 rcases h with rfl | ⟨a,rfl,e⟩
 ·exact k _ fun _ _=>trivial
 ·rw [Bl e]; exact k _ fun G' l=>l a _ e
theorem Hv {G:Gp} {d:D} {ds:List D} {C:String} {Q:DK} (h:IsL G d ds) (k:Q (.bl (C == "list")) G):isAt C d G Q:=by
 rcases h with rfl | ⟨a,rfl,e⟩
 ·exact k
 ·rw [LW e]; exact k
theorem xC{G:Gp}{d:D}{ds:List D}(h:IsL G d ds):itemsOf d G=some ds:=by
 rcases h with rfl | ⟨a,rfl,e⟩
 ·rfl
 ·unfold itemsOf; simp only [e]
theorem Qs{G:Gp}{d:D}{ds:List D}(h:IsL G d ds):D6 d G:=by
 rcases h with rfl | ⟨a,rfl,e⟩
 ·trivial
 ·unfold D6; simp only [e]
theorem uC{G:Gp}{d:D}{ds:List D}{lo hi:Option Int}{Q:DK}(h:IsL G d ds)(k:kJ G (.lst (cut ds lo hi)) Q):Lc d lo hi G Q:=by
 rcases h with rfl | ⟨a,rfl,e⟩
 ·exact k
 ·rw [Ol e]; exact k
theorem gk{G:Gp}{d:D}{ds:List D}{Q:DK}(h:IsL G d ds)(k:Q (.int (ds.length:Int)) G):ko [d] G Q:=by
 rcases h with rfl | ⟨a,rfl,e⟩
 ·exact k
 ·rw [M7 e]; exact k
theorem M6{G:Gp}{d:D}{ds:List D}{Q:DK}(h:IsL G d ds)(k:kJ G (.lst ds) Q):xZ [d] G Q:=by
 unfold xZ; simp only [xC h]; exact k
theorem Gh{α:Type} [DecidableEq α] [Enc α] [bM α]{G:Gp}{d:D}{xs:List α}{Q:DK}(h:IsL G d (xs.map enc))(hl:xs.length < 64)(k:kJ G (.lst ((GL xs).map enc)) Q)(ok:autoParam (Ly (bM.vb α)=true) Ad._auto_1):wm [d] G Q :=
 ⟨bM.vb α,xs.map enc,Qs h,xC h,by rw [z9,jI]; intro x _; exact bM.FD x,ok,by rw [aj]; exact hl,by rw [y9]; exact k⟩
theorem uE{G:Gp}{d x:D}{ds:List D}{i:Int}{Q:DK}(h:IsL G d ds)(e:qu ds i=some x)(k:Q x G):kB d (.int i) G Q:=by
 rcases h with rfl | ⟨a,rfl,e2⟩
 ·rw [Om e]; exact k
 ·rw [Oq e2 e]; exact k
theorem jw{G:Gp}{d:D}{ds:List D}(h:IsL G d ds):qc d G=some ds:=by
 rcases h with rfl | ⟨a,rfl,e⟩
 ·rfl
 ·unfold qc; simp only [e]
theorem xX{α:Type}(xs:List α)(i:Nat)(h:i<=xs.length):cut xs (some (i:Int)) none=xs.drop i:=by
 unfold cut iY;simp only;rw [if_neg (by lia),eI,Nat.min_eq_left h];exact Kr (by rw [cK]; lia)
theorem Gb{α:Type}(xs:List α)(i:Nat)(h:i<=xs.length):cut xs none (some (i:Int))=xs.take i:=by
 unfold cut iY;simp only;rw [if_neg (by lia),eI,Nat.min_eq_left h];simp
theorem oG{α β:Type}(f:α->β)(xs:List α)(lo hi:Option Int):cut (xs.map f) lo hi=(cut xs lo hi).map f:=by
 unfold cut; rw [aj,List.map_take,List.map_drop]
theorem oO{α:Type}(xs:List α){k:Int}(h0:0<=k)(h1:k < xs.length):qu xs k=some (xs[k.toNat]'(by lia)):=by
 unfold qu Hu;rw [if_pos h0,if_pos h1];show xs[k.toNat]?=_;exact ai (by lia)
noncomputable def Wj{α β:Type} [DecidableEq α] [Enc α] [DecidableEq β] [Enc β](pre:α->Prop)(f:α->β):pD:=fun ds G Q _=>∃ a:α,ds=[enc a]/\pre a/\Q (enc (f a)) G
noncomputable def Le:yn
 | .int i,.int j,G,Q=>(0<=j/\j<=1000000/\i.natAbs < 2 ^ 64)/\Q (.int (i ^ j.toNat)) G
 | _,_,_,_=>False
noncomputable def BN:Nat:=2 ^ 4000
noncomputable def CD:yn
 | .int i,.int j,G,Q=>(i.natAbs < BN/\j.natAbs < BN)/\Q (.int (i * j)) G
 | _,_,_,_=>False
theorem Ld{i j:Int}{G:Gp}{Q:DK}:Le (.int i) (.int j) G Q=((0<=j/\j<=1000000/\i.natAbs < 2 ^ 64)/\Q (.int (i ^ j.toNat)) G):=rfl
theorem uD{i j:Int}{G:Gp}{Q:DK}:CD (.int i) (.int j) G Q=((i.natAbs < BN/\j.natAbs < BN)/\Q (.int (i * j)) G):=rfl
noncomputable def Sr(i:Int):Str:=cJ (toString i)
noncomputable def Vv(x:Str):Prop:=x.cps.all (· < 0x110000)=true
theorem eE(s:String):Vv (cJ s):=by
 unfold Vv;rw [PySem.Str.ofString_eq_toList];simp only [List.all_toArray,z9,jI];intro c _;have:=c.valid;simp only [Function.comp,decide_eq_true_eq];have h2:c.toNat=c.val.toNat:=rfl;rcases this with h | h
 ·have:c.val.toNat < 55296:=h;lia
 ·have:c.val.toNat < 1114112:=h.2;lia
theorem Pk(x y:Str):(x++y).cps=x.cps++y.cps:=rfl
theorem LJ(x y:Str):(x++y).length=x.length+y.length:=by
 unfold PySem.Str.length;rw [Pk,Array.size_append]
theorem OW{i:Int}(h:i.natAbs < 10 ^ 100):(Sr i).length<=101:=by
 unfold Sr;cases i with
 | ofNat m =>
  have hm:m < 10 ^ 100:=by simpa using h
  have h1:((m:Int)) < (10:Int) ^ 100:=by exact_mod_cast hm
  exact bZ (ue (v:=Int.ofNat m) (pC m) (k:=100) (by decide) h1) (by decide)
 | negSucc m =>
  have hm:m+1 < 10 ^ 100:=by simpa using h
  have h1:(((m+1:Nat):Int)) < (10:Int) ^ 100:=by exact_mod_cast hm
  have h2:=ue (v:=((m+1:Nat):Int)) (pC _) (k:=100) (by decide) h1;have e:toString (Int.negSucc m) = "-"++toString (((m+1:Nat):Int)):=rfl;rw [e,vG,String.toList_append,aB];rw [vG] at h2;have h3 : "-".toList.length=1:=by decide
  lia
noncomputable def ME:D->Option Str
 | .int i=>if i.natAbs < 10 ^ 100 then some (Sr i) else none
 | .str x=>if x.length<=1000 then some x else none
 | _=>none
noncomputable abbrev Qk:=kC->hV->Gp->(List Str->Gp->Prop)->Prop
noncomputable def RR:Qk:=fun _ _ G Q=>Q [] G
noncomputable def Bz(c:Str)(r:Qk):Qk:=fun E τ G Q=>c.length<=1000/\r E τ G fun ys G1=>Q (c :: ys) G1
noncomputable def Pd(a:fx)(r:Qk):Qk:=fun E τ G Q=>a E τ G fun x G1=>∃ y,ME x=some y/\r E τ G1 fun ys G2=>Q (y :: ys) G2
noncomputable def MZ(t:Qk):fx:=fun E τ G Q=>t E τ G fun ys G1=>Q (.str (ys.foldl (·++·) Ep)) G1
theorem MD{d:D}{y:Str}(h:ME d=some y):y.length<=1000:=by
 unfold ME at h;split at h
 ·rename_i i;split at h
  ·rename_i hb;cases h;exact bZ (OW hb) (by decide)
  ·cases h
 ·split at h
  ·rename_i hb; cases h; exact hb
  ·cases h
 ·cases h
end K2
end
section
namespace K2
open PySem (Str)
noncomputable def DA(all sub:List Str)(a:fx):fx:=fun E τ G Q=>a E τ G fun x G1=>match x with
 | .cy=>Q (.bl false) G1
 | .exc c=>all.contains c=true/\Q (.bl (sub.contains c)) G1
 | .uj c _ _=>all.contains c=true/\Q (.bl (sub.contains c)) G1
 | _=>False
end K2
namespace K2
open PySem (Str)
noncomputable def xV(sp:pD)(t:wu):fx:=fun E τ G Q=>t E τ G fun ds G1=>sp ds G1 Q E
end K2
end
section
namespace K2
open PySem (Str)
open Enc (enc)
noncomputable def cInt(ds:List D)(G:Gp)(Q:DK):Prop:=match ds with
 | [.bl b]=>Q (.int (if b=true then 1 else 0)) G
 | _=>False
noncomputable def DH(ds:List D)(G:Gp)(Q:DK):Prop:=match ds with
 | [.ref a]=>(match G a with
  | some (.kI aS)=>aS.length<=1000/\Q (.int (aS.length:Int)) G
  | _=>False)
 | _=>False
noncomputable def MY(all:List Str)(a:fx):fx:=fun E τ G Q=>a E τ G fun x G1=>match x with
 | .exc c=>all.contains c=true/\Q (.bl true) G1
 | .uj c _ _=>all.contains c=true/\Q (.bl true) G1
 | _=>False
noncomputable def oF(r r':yn)(ta tb tc:fx):wt:=fun E τ G Q=>ta E τ G fun x G1=>tb E τ G1 fun y G2=>r x y G2 fun z G3=>∃ k,z=.bl k/\(if k=true then tc E τ G3 fun w G4=>r' y w G4 (fun z' G5=>∃ k',z'=.bl k'/\Q k' G5) else Q false G3)
noncomputable def h2(t:T2):Int:=PySem.reduceHash (PySem.Builtin.Tuple.tupleHashOf [PySem.hashInt t.a,PySem.hashInt t.b])
end K2
end
section
namespace K2
open Enc (enc)
noncomputable def Yl(lt:Nat->Nat->Bool):Nat->Nat
 | 0=>0
 | j+1=>if lt (j+1) (Yl lt j)=true then j+1 else Yl lt j
end K2
end
section
namespace K2
open PySem (Str)
noncomputable def only(a:Nat)(o:GO):Gp:=fun b=>if b=a then some o else none
noncomputable def UZ(all:List Str)(f:Str)(x:D)(G:Gp)(Q:DK):Prop:=match x with
 | .uj c ns ds=>all.contains c=true/\∃ d,(ns.zip ds).lookup f=some d/\Q d G
 | _=>False
noncomputable def uV(all:List Str)(f:Str)(te:fx):fx:=fun E τ G Q=>te E τ G fun x G1=>UZ all f x G1 Q
end K2
end
section
namespace K2
open Enc (enc)
noncomputable def uY(ds:List D)(G:Gp)(Q:DK):Prop:=match ds with
 | [x]=>∃ l:List Int,qc x G=some (l.map enc)/\l.length < 64/\∀ m:List Int,m.Nodup->(∀ y,y∈m↔y∈l)->kJ G (.lst ((GL m).map enc)) Q
 | _=>False
end K2
end
section
namespace K2
noncomputable def JZ(G2 G1:Gp):Gp:=fun a=>match G2 a with
 | some o=>some o
 | none=>G1 a
end K2
end
section
namespace K2
open PySem (Str)
noncomputable def UY(ex:Ex):D:=match ex.rh with
 | []=>.exc ex.cls
 | _ :: _=>.uj ex.cls (ex.rh.map (·.1)) (ex.rh.map (·.2))
noncomputable def hU(c:Str)(ns:List Str)(te:fx)(t:wu):i6:=fun E _ τ G=>t E τ G fun ds _=>ds.length=ns.length/\(∀ a,te (fun _ _=>False) (some (.ref a) :: ds.map some) (fun _=>none) fun _ _=>True)/\E ⟨c,ns.zip ds⟩ (fun _=>none)
noncomputable def HL(sp:pD)(t:wu)(j i:Nat)(cat:List Str)(th:i6):i6:=fun _ K τ G =>
 t (fun _ _=>False) τ G fun ds G1=>sp ds (fun _=>none) (fun d G2=>(∀ a o,G2 a=some o->G1 a=none)->K.nx (τ.set j (some d)) (JZ G2 G1)) fun ex _=>cat.contains ex.cls=true /\
  th (fun _ _=>False) ⟨fun mR G'=>K.nx (mR.set i none) G',fun _ _=>False,fun _ _=>False,fun _ _=>False⟩ (τ.set i (some (UY ex))) G1
end K2
end
section
namespace K2.S
open PySem PySem.SetTable
noncomputable def f5(m i:Nat):Nat:=(i * 5+1) % (m+1)
noncomputable def Nx(m:Nat):Nat->Nat->Nat
 | 0,i=>i
 | k+1,i=>Nx m k (f5 m i)
theorem v9(m:Nat):∀ (a b i:Nat),Nx m (a+b) i=Nx m b (Nx m a i)
 | 0,b,i=>by rw [uv]; rfl
 | a+1,b,i=>by rw [NP]; exact v9 m a b (f5 m i)
noncomputable def Mk(m:Nat):Prop:=m=7\/m=31\/m=127
noncomputable def Tz(m:Nat):Nat->Nat->List Nat
 | 0,_=>[]
 | k+1,i=>i :: Tz m k (f5 m i)
theorem A3(m:Nat):∀ (n i e:Nat),e∈Tz m n i->∃ k,k < n/\Nx m k i=e
 | 0,_,_,h=>by cases h
 | n+1,i,e,h=>by
  rcases List.mem_cons.mp h with rfl | h
  ·exact⟨0,j0 _,rfl⟩
  ·obtain⟨k,hk,q⟩:=A3 m n (f5 m i) e h;exact⟨k+1,Nat.succ_lt_succ hk,q⟩
theorem OI{m:Nat}(h:Mk m):(∀ e,e < m+1->e∈Tz m (m+1) 0)/\Nx m (m+1) 0=0:=by
 have key:∀ m,((cF (m+1)).all fun e=>(Tz m (m+1) 0).contains e)=true->Nx m (m+1) 0=0->(∀ e,e < m+1->e∈Tz m (m+1) 0)/\Nx m (m+1) 0=0:=fun m h1 h2 =>
  ⟨fun e he=>by simpa using (List.all_eq_true.mp h1) e (List.mem_range.mpr he),h2⟩
 rcases h with rfl | rfl | rfl
 ·exact key _ (by decide +kernel) (by decide +kernel)
 ·exact key _ (by decide +kernel) (by decide +kernel)
 ·exact key _ (by decide +kernel) (by decide +kernel)
theorem cover{m:Nat}(h:Mk m){i e:Nat}(hi:i < m+1)(he:e < m+1):∃ k,k < m+1/\Nx m k i=e:=by
 obtain⟨all,back⟩:=OI h;obtain⟨a,ha,qa⟩:=A3 m _ _ _ (all i hi);obtain⟨b,hb,qb⟩:=A3 m _ _ _ (all e he);by_cases c:a<=b
 ·refine⟨b - a,by lia,?_⟩;rw [<-qa,<-v9,show a+(b - a)=b by lia,qb]
 ·refine⟨m+1 - a+b,by lia,?_⟩;rw [<-qa,<-v9,show a+(m+1 - a+b)=(m+1)+b by lia,v9,back,qb]
noncomputable def lp(m:Nat):Nat->Nat×Nat->Nat×Nat
 | 0,x=>x
 | k+1,x=>lp m k (leap m x.1 x.2)
theorem LG(m:Nat):∀ (a b:Nat) (x:Nat×Nat),lp m (a+b) x=lp m b (lp m a x)
 | 0,b,i=>by rw [uv]; rfl
 | a+1,b,i=>by rw [NP]; exact LG m a b _
theorem Hi(m:Nat):∀ (k:Nat) (x:Nat×Nat),(lp m k x).2=x.2 / 32 ^ k
 | 0,x=>by rw [Nat.pow_zero,Nat.div_one]; rfl
 | k+1,x=>by
  show (lp m k _).2=_;rw [Hi m k];show x.2 / 32 / 32 ^ k=_;rw [Nat.div_div_eq_div_mul,Nat.pow_succ,Nat.mul_comm]
theorem Hh(m:Nat):∀ (k i:Nat),lp m k (i,0)=(Nx m k i,0)
 | 0,_=>rfl
 | k+1,i=>by
  show lp m k ((i * 5+1+0 / 32) % (m+1),0 / 32)=_;rw [Nat.zero_div,Nat.add_zero];exact Hh m k _
theorem PY(m:Nat):∀ (k:Nat) (x:Nat×Nat),x.1 < m+1->(lp m k x).1 < m+1
 | 0,_,h=>h
 | k+1,x,_=>PY m k _ (nH _ (j0 m))
theorem CY{m:Nat}(h:Mk m){x:Nat×Nat}(h1:x.1 < m+1)(h2:x.2 < 2 ^ 64){e:Nat}(he:e < m+1):∃ k,k < m+14/\(lp m k x).1=e:=by
 have z:(lp m 13 x).2=0:=by
  rw [Hi]; exact Nat.div_eq_of_lt (bw h2 (by decide))
 obtain⟨k,hk,q⟩:=cover h (PY m 13 x h1) he;refine⟨13+k,by lia,?_⟩;rw [LG,show lp m 13 x=((lp m 13 x).1,0) from by rw [<-z],Hh];exact q
noncomputable def D8(m:Nat)(p:Probe):Probe :=
 if p.more > 0 then { p with j:=p.j+1,more:=p.more - 1 } else
 { p with j:=(leap m p.i p.perturb).1,more:=runEnd m (leap m p.i p.perturb).1 - (leap m p.i p.perturb).1,i:=(leap m p.i p.perturb).1,perturb:=(leap m p.i p.perturb).2 }
noncomputable def fG(m:Nat):Nat->Probe->Probe
 | 0,p=>p
 | k+1,p=>fG m k (D8 m p)
theorem mU(m:Nat):∀ (a b:Nat) (p:Probe),fG m (a+b) p=fG m b (fG m a p)
 | 0,b,p=>by rw [uv]; rfl
 | a+1,b,p=>by rw [NP]; exact mU m a b _
theorem Iz(m k:Nat)(p:Probe):fG m (k+1) p=D8 m (fG m k p):=mU m k 1 p
noncomputable def JF(m:Nat)(x:Nat×Nat):Probe:={ j:=x.1,more:=runEnd m x.1 - x.1,i:=x.1,perturb:=x.2,dummy:=none }
theorem more_le(m i:Nat):runEnd m i - i<=9:=by unfold runEnd; split <;> lia
theorem sO(m:Nat):∀ (n:Nat) (p:Probe),p.more=n->p.dummy=none->fG m (n+1) p=JF m (leap m p.i p.perturb)
 | 0,p,h,hd=>by
  show D8 m p=_;unfold D8;rw [if_neg (by lia)];obtain⟨j,mo,i,pe,d⟩:=p;cases hd; rfl
 | n+1,p,h,hd=>by
  show fG m (n+1) (D8 m p)=_;have e:D8 m p={ p with j:=p.j+1,more:=p.more - 1 }:=by unfold D8; rw [if_pos (by lia)]
  rw [e];exact sO m n _ (by show p.more - 1=n; lia) hd
theorem U8(m:Nat):∀ (k:Nat) (x:Nat×Nat),∃ n,n<=10 * k/\fG m n (JF m x)=JF m (lp m k x)
 | 0,x=>⟨0,aC _,rfl⟩
 | k+1,x=>by
  obtain⟨n,hn,q⟩:=U8 m k (leap m x.1 x.2);refine⟨(runEnd m x.1 - x.1+1)+n,?_,?_⟩
  ·have:=more_le m x.1; lia
  ·rw [mU,sO m (runEnd m x.1 - x.1) (JF m x) rfl rfl]; exact q
structure Pb(m:Nat)(p:Probe):Prop where
 hi:p.i < m+1
 hp:p.perturb < 2 ^ 64
 hm:p.more<=9
 hd:p.dummy=none
theorem Pb.leap{m:Nat}{p:Probe}(h:Pb m p):(leap m p.i p.perturb).1 < m+1/\(leap m p.i p.perturb).2 < 2 ^ 64 :=
 ⟨nH _ (j0 m),kE (Nat.div_le_self _ _) h.hp⟩
theorem Pb.D8{m:Nat}{p:Probe}(h:Pb m p):Pb m (D8 m p):=by
 unfold S.D8;split
 ·exact⟨h.hi,h.hp,bZ (Nat.sub_le _ _) h.hm,h.hd⟩
 ·exact⟨h.leap.1,h.leap.2,more_le _ _,h.hd⟩
theorem Pb.cover{m:Nat}(hm:Mk m){p:Probe}(h:Pb m p){e:Nat}(he:e < m+1):∃ n,n < 10 * turns m/\(S.fG m n p).j=e:=by
 obtain⟨k,hk,q⟩:=CY hm h.leap.1 h.leap.2 he;obtain⟨n,hn,q2⟩:=U8 m k (SetTable.leap m p.i p.perturb);refine⟨p.more+1+n,?_,?_⟩
 ·have:=h.hm; unfold turns; lia
 ·rw [mU,sO m p.more p rfl h.hd,q2]; exact q
theorem Pb.start(t:gQ)(h:Int):Pb t.mask (t.probeStart h):=by
 refine⟨nH _ (j0 _),?_,more_le _ _,rfl⟩;show bits h < 2 ^ 64;unfold bits;have h1:0<=h % (2 ^ 64:Int):=g6 _ (by decide);have h2:h % (2 ^ 64:Int) < 2 ^ 64:=fC _ (by decide);lia
end K2.S
end
section
namespace K2.S
open PySem PySem.SetTable
noncomputable def Up(xs:Array Nat):Prop:=∀ a b,a < b->b < xs.size->xs.getD a 0 < xs.getD b 0
theorem Mu(xs:Array Nat){k:Nat}(h:k < xs.size)(a b:Nat):xs.getD k a=xs.getD k b:=by
 rw [aP,aP,bC h]; rfl
theorem Bp{xs:Array Nat}(up:Up xs)(j:Nat):∀ (fuel lo hi:Nat),hi - lo<=fuel->lo<=hi->hi<=xs.size->(∀ k,k < lo->xs.getD k 0 < j)->(∀ k,hi<=k->k < xs.size->j<=xs.getD k 0) ->
  below.go xs j fuel lo hi<=xs.size/\(∀ k,k < below.go xs j fuel lo hi->xs.getD k 0 < j)/\(∀ k,below.go xs j fuel lo hi<=k->k < xs.size->j<=xs.getD k 0)
 | 0,lo,hi,h1,h2,h3,h4,h5=>by
  have e:lo=hi:=by lia
  subst e;exact⟨h3,h4,h5⟩
 | fuel+1,lo,hi,h1,h2,h3,h4,h5=>by
  show (below.go xs j (fuel+1) lo hi)<=_/\_;unfold below.go;by_cases c:lo < hi
  ·rw [if_pos c];have hm:(lo+hi) / 2 < xs.size:=by lia
   dsimp only;rw [Mu xs hm j 0];by_cases q:xs.getD ((lo+hi) / 2) 0 < j
   ·rw [if_pos q];refine Bp up j fuel _ _ (by lia) (by lia) h3 (fun k hk=>?_) h5;by_cases e:k=(lo+hi) / 2
    ·rw [e]; exact q
    ·exact NQ (up _ _ (by lia) hm) q
   ·rw [if_neg q];refine Bp up j fuel _ _ (by lia) (by lia) (by lia) h4 fun k hk hs=>?_;by_cases e:k=(lo+hi) / 2
    ·rw [e]; lia
    ·have:=up ((lo+hi) / 2) k (by lia) hs; lia
  ·rw [if_neg c];exact⟨by lia,h4,fun k hk hs=>h5 k (by lia) hs⟩
theorem oN{xs:Array Nat}(up:Up xs)(j:Nat):below xs j<=xs.size/\(∀ k,k < below xs j->xs.getD k 0 < j)/\(∀ k,below xs j<=k->k < xs.size->j<=xs.getD k 0) :=
 Bp up j _ _ _ (by lia) (by lia) (by lia) (fun k h=>by lia) (fun k h1 h2=>by lia)
theorem below_at{xs:Array Nat}(up:Up xs){k:Nat}(hk:k < xs.size):below xs (xs.getD k 0)=k:=by
 obtain⟨h1,h2,h3⟩:=oN up (xs.getD k 0);by_cases a:below xs (xs.getD k 0) < k
 ·have:=h3 _ (aC _) (by lia);have:=up _ _ a hk;lia
 ·by_cases b:k < below xs (xs.getD k 0)
  ·have:=h2 _ b; lia
  ·lia
noncomputable def Full(xs:Array Nat)(j:Nat):Prop:=∃ k,k < xs.size/\xs.getD k 0=j
theorem Ms(xs:Array Nat){k:Nat}(h:k < xs.size):xs[k]?=some (xs.getD k 0):=by
 rw [aP,bC h]; rfl
theorem IC{t:gQ}(up:Up t.place){k:Nat}(hk:k < t.place.size):t.slot (t.place.getD k 0)=.live k:=by
 unfold slot;dsimp only;rw [below_at up hk,Ms _ hk];rw [if_pos (by simp)]
theorem EU{t:gQ}(up:Up t.place)(dm:t.dummies=#[]){j:Nat}(h:¬ Full t.place j):t.slot j=.empty:=by
 unfold slot;dsimp only;have n1:(t.place[below t.place j]? == some j)=false:=by
  rw [Bool.eq_false_iff];intro q;have q:=beq_iff_eq.mp q;obtain⟨lt,e⟩:=Array.getElem?_eq_some_iff.mp q;exact h ⟨_,lt,by rw [aP,q]; rfl⟩
 rw [n1,dm];rfl
theorem EV{t:gQ}(up:Up t.place)(dm:t.dummies=#[])(j:Nat):(¬ Full t.place j/\t.slot j=.empty)\/(∃ k,k < t.place.size/\t.place.getD k 0=j/\t.slot j=.live k):=by
 by_cases h:Full t.place j
 ·obtain⟨k,hk,e⟩:=h;exact .inr ⟨k,hk,e,e ▸ IC up hk⟩
 ·exact .inl ⟨h,EU up dm h⟩
theorem CJ{t:gQ}(up:Up t.place)(dm:t.dummies=#[])(hashAt:Nat->Int)(h:Int):∀ (fuel:Nat) (p:Probe),Pb t.mask p->(∃ n,n < fuel/\¬ Full t.place (fG t.mask n p).j) ->
    ∃ n met,probe.go t hashAt h fuel p=some met/\(∀ n',n' < n->∃ k,k < t.place.size/\t.place.getD k 0=(fG t.mask n' p).j/\hashAt k≠h) /\
      ((¬ Full t.place (fG t.mask n p).j/\met=.empty (fG t.mask n p).j none) \/
       (∃ k,k < t.place.size/\t.place.getD k 0=(fG t.mask n p).j/\hashAt k=h/\met=.candidate (fG t.mask n p).j k (fG t.mask (n+1) p)))
  | 0,_,_,⟨n,hn,_⟩=>absurd hn (cC _)
  | fuel+1,p,hp,⟨n,hn,hf⟩=>by
    rcases EV up dm p.j with ⟨nf,e⟩ | ⟨k,hk,ek,e⟩
    · refine⟨0,.empty p.j p.dummy,?_,fun n' z=>absurd z (cC _),.inl ⟨nf,by rw [hp.hd]; rfl⟩⟩
      unfold probe.go;rw [e]
    · by_cases q:hashAt k=h
      · refine⟨0,.candidate p.j k (t.advance p),?_,fun n' z=>absurd z (cC _),.inr ⟨k,hk,ek,q,rfl⟩⟩
        unfold probe.go;rw [e];dsimp only;rw [if_pos (beq_iff_eq.mpr q)]
      · have Zh:∃ m,n=m+1:=by
          cases n with
          | zero=>exact absurd ⟨k,hk,ek⟩ hf
          | succ m=>exact⟨m,rfl⟩
        obtain⟨m,rfl⟩:=Zh;obtain⟨n',met,g,all,fin⟩:=CJ up dm hashAt h fuel (D8 t.mask p) hp.D8 ⟨m,by lia,hf⟩;refine⟨n'+1,met,?_,fun WU z=>?_,fin⟩
        · unfold probe.go
          rw [e];dsimp only;rw [if_neg (fun z=>q (beq_iff_eq.mp z))];exact g
        · cases WU with
          | zero=>exact⟨k,hk,ek,q⟩
          | succ WU=>exact all WU (by lia)
end K2.S
end
section
namespace K2.S
open PySem PySem.SetTable
noncomputable abbrev En:=Array (Int×Value)
noncomputable def hk(es:En)(k:Nat):Int:=(es[k]?.map (·.1)).getD 0
structure NH(t:gQ)(es:En):Prop where
 ms:Mk t.mask
 dm:t.dummies=#[]
 sz:t.place.size=es.size
 up:Up t.place
 le:∀ k,k < t.place.size->t.place.getD k 0<=t.mask
 rZ:t.place.size<=t.mask
 way:∀ k,k < t.place.size->∃ n,(fG t.mask n (probeStart t (hk es k))).j=t.place.getD k 0/\∀ n',n' < n->Full t.place (fG t.mask n' (probeStart t (hk es k))).j
theorem L8{xs:Array Nat}(up:Up xs){m:Nat}(all:∀ e,e<=m->Full xs e):∀ e,e<=m->∀ k,k < xs.size->xs.getD k 0=e->e<=k
 | 0,_,_,_,_=>bY _
 | e+1,he,k,hk,q=>by
  obtain⟨k',Nz,q'⟩:=all e (by lia);have ih:=L8 up all e (by lia) k' Nz q';have:k' < k:=by
   by_cases c:k' < k
   ·exact c
   ·by_cases d:k=k'
    ·subst d; lia
    ·have:=up k k' (by lia) Nz; lia
  lia
theorem IA{xs:Array Nat}(up:Up xs){m:Nat}(rZ:xs.size<=m):∃ e,e<=m/\¬ Full xs e:=by
 apply cU;intro no;have all:∀ e,e<=m->Full xs e:=fun e he=>cU fun z=>no ⟨e,he,z⟩;obtain⟨k,hk,q⟩:=all m (aC _);have:=L8 up all m (aC _) k hk q;lia
theorem FI{t:gQ}{es:En}(O:NH t es)(p:Probe)(hp:Pb t.mask p):∃ N,N < 10 * turns t.mask/\¬ Full t.place (fG t.mask N p).j/\∀ n,n < N->Full t.place (fG t.mask n p).j:=by
 obtain⟨e,he,hf⟩:=IA O.up O.rZ;obtain⟨n0,hn,q⟩:=hp.cover O.ms (show e < t.mask+1 by lia);have:∀ n,n<=n0->(∃ N,N < 10 * turns t.mask/\¬ Full t.place (fG t.mask N p).j/\∀ n,n < N->Full t.place (fG t.mask n p).j)\/(∀ n',n' < n->Full t.place (fG t.mask n' p).j):=by
  intro n;induction n with
  | zero=>intro _; exact .inr fun n' z=>absurd z (cC _)
  | succ n ih =>
   intro Eb;rcases ih (by lia) with a | a
   ·exact .inl a
   ·by_cases c:Full t.place (fG t.mask n p).j
    ·refine .inr fun n' z=>?_;by_cases d:n'=n
     ·rw [d]; exact c
     ·exact a n' (by lia)
    ·exact .inl ⟨n,by lia,c,a⟩
 rcases this n0 (aC _) with a | a
 ·exact a
 ·exact⟨n0,hn,by rw [q]; exact hf,a⟩
theorem kg{α:Type}(xs:Array α)(p:Nat)(x:α)(hp:p<=xs.size):(insertAt xs p x).size=xs.size+1:=by
 rw [<-bG,toList_insertAt,aB,ah,dG,cK,bG]; lia
theorem tJ{α:Type}(xs:Array α)(p:Nat)(x:α)(hp:p<=xs.size)(k:Nat):(insertAt xs p x)[k]?=if k < p then xs[k]? else if k=p then some x else xs[k - 1]?:=by
 rw [<-cg,toList_insertAt];have hl:(xs.toList.take p).length=p:=by rw [dG,bG]; lia
 by_cases c:k < p
 ·rw [if_pos c,cq (by lia),qz c,cg]
 ·rw [if_neg c,bK (by lia),hl];by_cases d:k=p
  ·subst d; rw [if_pos rfl,pz]; rfl
  ·rw [if_neg d,show k - p=(k - p - 1)+1 by lia,af,List.getElem?_drop,show p+(k - p - 1)=k - 1 by lia,cg]
theorem iR(xs:Array Nat)(p x:Nat)(hp:p<=xs.size)(k:Nat):(insertAt xs p x).getD k 0=if k < p then xs.getD k 0 else if k=p then x else xs.getD (k - 1) 0:=by
 rw [aP,tJ xs p x hp];split
 ·rw [aP]
 ·split
  ·rfl
  ·rw [aP]
theorem IQ(t:gQ)(dm:t.dummies=#[])(j:Nat):t.put j=({ t with place:=insertAt t.place (below t.place j) j },below t.place j):=by
 unfold SetTable.put;dsimp only;rw [dm];have:has #[] j=false:=rfl;rw [this];cases t;cases dm;rfl
theorem De{xs:Array Nat}{p j:Nat}(hp:p<=xs.size){e:Nat}:Full (insertAt xs p j) e↔Full xs e\/e=j:=by
 constructor
 ·rintro⟨k,hk,q⟩;rw [kg xs p j hp] at hk;rw [iR xs p j hp] at q;by_cases c:k < p
  ·rw [if_pos c] at q; exact .inl ⟨k,by lia,q⟩
  ·rw [if_neg c] at q;by_cases d:k=p
   ·rw [if_pos d] at q; exact .inr q.symm
   ·rw [if_neg d] at q; exact .inl ⟨k - 1,by lia,q⟩
 ·rintro(⟨k,hk,q⟩ | q)
  ·by_cases c:k < p
   ·exact⟨k,by rw [kg xs p j hp]; lia,by rw [iR xs p j hp,if_pos c]; exact q⟩
   ·exact⟨k+1,by rw [kg xs p j hp]; lia,by rw [iR xs p j hp,if_neg (by lia),if_neg (by lia)]; exact q⟩
  ·exact⟨p,by rw [kg xs p j hp]; lia,by rw [iR xs p j hp,if_neg (by lia),if_pos rfl]; exact q.symm⟩
theorem NH.add{t:gQ}{es:En}(O:NH t es){h:Int}{x:Value}{N:Nat}(h1:¬ Full t.place (fG t.mask N (probeStart t h)).j)(h2:∀ n,n < N->Full t.place (fG t.mask n (probeStart t h)).j)
  (hj:(fG t.mask N (probeStart t h)).j<=t.mask) (room:t.place.size+1<=t.mask) {t':gQ} (e1:t'.mask=t.mask) (e2:t'.dummies=t.dummies)
  (e3:t'.place=insertAt t.place (below t.place (fG t.mask N (probeStart t h)).j) (fG t.mask N (probeStart t h)).j) :
  NH t' (insertAt es (below t.place (fG t.mask N (probeStart t h)).j) (h,x)):=by
 generalize ej:(fG t.mask N (probeStart t h)).j=j at *;obtain⟨b1,b2,b3⟩:=oN O.up j;generalize below t.place j=p at *;have Sa:p<=es.size:=by rw [<-O.sz]; exact b1
 have Ta:t'.place.size=t.place.size+1:=by rw [e3,kg _ _ _ b1]
 have vO:∀ h,probeStart t' h=probeStart t h:=fun h=>by unfold probeStart; rw [e1]
 have fl:∀ e,Full t.place e->Full t'.place e:=fun e z=>by rw [e3]; exact(De b1).mpr (.inl z)
 refine⟨by rw [e1]; exact O.ms,e2.trans O.dm,by rw [Ta,kg _ _ _ Sa,O.sz],?_,?_,by rw [Ta,e1]; exact room,?_⟩
 ·intro a b ab hb;rw [Ta] at hb;rw [e3,iR _ _ _ b1,iR _ _ _ b1];by_cases c1:a < p
  ·rw [if_pos c1];by_cases c2:b < p
   ·rw [if_pos c2]; exact O.up a b ab (by lia)
   ·rw [if_neg c2];by_cases c3:b=p
    ·rw [if_pos c3]; exact b2 a c1
    ·rw [if_neg c3];by_cases c4:a=b - 1
     ·lia
     ·exact O.up a (b - 1) (by lia) (by lia)
  ·rw [if_neg c1,if_neg (by lia:¬ b < p),if_neg (by lia:¬ b=p)];by_cases c3:a=p
   ·rw [if_pos c3];have:=b3 (b - 1) (by lia) (by lia);by_cases c5:t.place.getD (b - 1) 0=j
    ·exact absurd ⟨b - 1,by lia,c5⟩ h1
    ·lia
   ·rw [if_neg c3]; exact O.up (a - 1) (b - 1) (by lia) (by lia)
 ·intro k hk;rw [Ta] at hk;rw [e3,iR _ _ _ b1,e1];by_cases c1:k < p
  ·rw [if_pos c1]; exact O.le k (by lia)
  ·rw [if_neg c1];by_cases c2:k=p
   ·rw [if_pos c2]; exact hj
   ·rw [if_neg c2]; exact O.le (k - 1) (by lia)
 ·intro k hk;rw [Ta] at hk;have key:∀ k',k' < t.place.size->hk=hk->(insertAt es p (h,x))[k]?=es[k']?->t'.place.getD k 0=t.place.getD k' 0 ->
    ∃ n,(fG t'.mask n (probeStart t' (S.hk (insertAt es p (h,x)) k))).j=t'.place.getD k 0/\∀ n',n' < n->Full t'.place (fG t'.mask n' (probeStart t' (S.hk (insertAt es p (h,x)) k))).j:=by
   intro k' Nz _ ee ep;obtain⟨n,q1,q2⟩:=O.way k' Nz;have eh:S.hk (insertAt es p (h,x)) k=S.hk es k':=by unfold S.hk; rw [ee]
   rw [eh,vO,e1,ep];exact⟨n,q1,fun n' z=>fl _ (q2 n' z)⟩
  by_cases c1:k < p
  ·refine key k (by lia) rfl ?_ ?_
   ·rw [tJ _ _ _ Sa,if_pos c1]
   ·rw [e3,iR _ _ _ b1,if_pos c1]
  ·by_cases c2:k=p
   ·have eh:S.hk (insertAt es p (h,x)) k=h:=by unfold S.hk; rw [tJ _ _ _ Sa,if_neg c1,if_pos c2]; rfl
    rw [eh,vO,e1,e3,iR _ _ _ b1,if_neg c1,if_pos c2];refine⟨N,ej,fun n' z=>?_⟩;exact(De b1).mpr (.inl (h2 n' z))
   ·refine key (k - 1) (by lia) rfl ?_ ?_
    ·rw [tJ _ _ _ Sa,if_neg c1,if_neg c2]
    ·rw [e3,iR _ _ _ b1,if_neg c1,if_neg c2]
end K2.S
end
section
namespace K2.S
open PySem PySem.SetTable
theorem PM(m:Nat)(x:Nat×Nat):∀ n,n<=runEnd m x.1 - x.1->fG m n (JF m x)={ JF m x with j:=x.1+n,more:=runEnd m x.1 - x.1 - n }
 | 0,_=>rfl
 | n+1,h=>by
  rw [Iz,PM m x n (by lia)];unfold D8;dsimp only;rw [if_pos (by lia)];rfl
theorem AP{m i:Nat}(h:i < m+1){n:Nat}(hn:n<=runEnd m i - i):i+n < m+1:=by
 unfold runEnd at hn;split at hn <;> lia
noncomputable def ow(o:Array (Option Nat))(j:Nat):Option Nat:=o.getD j none
theorem OH{o:Array (Option Nat)}{j:Nat}(h:j < o.size):o.getD j (some 0)=ow o j:=by
 unfold ow; rw [aP,aP,bC h]; rfl
theorem PT{o:Array (Option Nat)}{j k:Nat}(h:ow o j=some k):j < o.size:=by
 apply cU;intro z;unfold ow at h;rw [aP,fZ (by lia)] at h;cases h
theorem zF{m:Nat}{o:Array (Option Nat)}(sz:o.size=m+1):∀ (fuel:Nat) (x:Nat×Nat),x.1 < m+1->(∃ k,k < fuel/\ow o (lp m k x).1=none) ->
  ∃ n j,layClean.free m o fuel x.1 x.2=some j/\(fG m n (JF m x)).j=j/\j < m+1/\ow o j=none/\∀ n',n' < n->(fG m n' (JF m x)).j < m+1/\ow o (fG m n' (JF m x)).j≠none
 | 0,_,_,⟨_,h,_⟩=>absurd h (cC _)
 | fuel+1,x,hx,⟨k,hk,q⟩=>by
  have pe:∀ n,n<=runEnd m x.1 - x.1->(o.getD (x.1+n) (some 0))=ow o (x.1+n):=fun n hn=>OH (by rw [sz]; exact AP hx hn);have pj:∀ n,n<=runEnd m x.1 - x.1->(fG m n (JF m x)).j=x.1+n:=fun n hn=>by rw [PM m x n hn]
  have hre:x.1<=runEnd m x.1:=by unfold runEnd; split <;> lia
  cases hf:(cF (runEnd m x.1+1 - x.1)).find? fun k=>(o.getD (x.1+k) (some 0)).isNone with
  | some n =>
   obtain⟨h1,h2,h3⟩:=List.find?_range_eq_some.mp hf;have hn:n<=runEnd m x.1 - x.1:=by have:=List.mem_range.mp h2; lia
   rw [pe n hn] at h1;refine⟨n,x.1+n,?_,pj n hn,AP hx hn,Option.isNone_iff_eq_none.mp h1,fun n' z=>?_⟩
   ·unfold layClean.free; rw [hf]
   ·have Eb:n'<=runEnd m x.1 - x.1:=by lia
    have:=h3 n' z;rw [pe n' Eb] at this;rw [pj n' Eb];refine⟨AP hx Eb,fun e=>?_⟩;rw [e] at this; cases this
  | none =>
   have h3:=List.find?_range_eq_none.mp hf;have all:∀ n',n'<=runEnd m x.1 - x.1->ow o (x.1+n')≠none:=fun n' Eb e=>by
    have:=h3 n' (by lia);rw [pe n' Eb,e] at this; cases this
   obtain⟨k,rfl⟩:∃ k',k=k'+1:=by
    cases k with
    | zero=>exact absurd q (all 0 (bY _))
    | succ k=>exact⟨k,rfl⟩
   obtain⟨n,j,g,gj,hj,gn,ga⟩:=zF sz fuel (leap m x.1 x.2) (nH _ (j0 m)) ⟨k,by lia,q⟩;refine⟨(runEnd m x.1 - x.1+1)+n,j,?_,?_,hj,gn,fun n' z=>?_⟩
   ·unfold layClean.free; rw [hf]; exact g
   ·rw [mU,sO m (runEnd m x.1 - x.1) (JF m x) rfl rfl]; exact gj
   ·by_cases c:n'<=runEnd m x.1 - x.1
    ·rw [pj n' c]; exact⟨AP hx c,all n' c⟩
    ·have e:n'=(runEnd m x.1 - x.1+1)+(n' - (runEnd m x.1 - x.1+1)):=by lia
     rw [e,mU,sO m (runEnd m x.1 - x.1) (JF m x) rfl rfl];exact ga _ (by lia)
theorem YR:∀ (L:Nat) (l:List Nat),l.Nodup->(∀ x∈l,x < L)->l.length<=L
 | 0,l,_,h=>by
  cases l with
  | nil=>exact aC _
  | cons a r=>exact absurd (h a bI) (cC _)
 | L+1,l,hn,h=>by
  have:=YR L (l.erase L) (hn.erase L) fun x hx=>by
   have:=(hn.mem_erase_iff).mp hx;have:=h x this.2;lia
  rw [List.length_erase] at this;split at this <;> lia
noncomputable def vO(m:Nat)(h:Int):Probe:=JF m (bits h % (m+1),bits h)
structure Lay(m:Nat)(hs:List Int)(o:Array (Option Nat)):Prop where
 sz:o.size=m+1
 lt:∀ j k,ow o j=some k->k < hs.length
 one:∀ k,k < hs.length->∃ j,ow o j=some k
 JZ:∀ j j' k,ow o j=some k->ow o j'=some k->j=j'
 way:∀ j k,ow o j=some k->∃ n,(fG m n (vO m (hs.getD k 0))).j=j/\∀ n',n' < n->ow o (fG m n' (vO m (hs.getD k 0))).j≠none
theorem Lay.nil(m:Nat):Lay m [] (Array.replicate (m+1) none):=by
 have no:∀ j,ow (Array.replicate (m+1) none) j=none:=fun j=>by
  unfold ow;rw [aP,Array.getElem?_replicate];split <;> rfl
 refine⟨Array.size_replicate,fun j k h=>?_,fun k h=>absurd h (cC _),fun j j' k h=>?_,fun j k h=>?_⟩ <;> (rw [no] at h; cases h)
theorem Lay.free{m:Nat}{hs:List Int}{o:Array (Option Nat)}(L:Lay m hs o)(rZ:hs.length<=m):∃ j,j < m+1/\ow o j=none:=by
 apply cU;intro no;have all:∀ j,j < m+1->ow o j≠none:=fun j hj e=>no ⟨j,hj,e⟩;have nd:((cF (m+1)).map fun j=>(ow o j).getD 0).Nodup:=by
  rw [oS,lj];refine yi (fun {a b} ha hb lX e=>?_) (List.nodup_iff_pairwise_ne.mp (List.nodup_range (n:=m+1)));obtain⟨x,hx⟩:=Option.ne_none_iff_exists'.mp (all a (List.mem_range.mp ha));obtain⟨y,hy⟩:=Option.ne_none_iff_exists'.mp (all b (List.mem_range.mp hb));rw [hx,hy] at e;have e:x=y:=e;subst e;exact lX (L.JZ a b x hx hy)
 have:=YR hs.length _ nd fun x hx=>by
  obtain⟨j,hj,rfl⟩:=List.mem_map.mp hx;obtain⟨k,e⟩:=Option.ne_none_iff_exists'.mp (all j (List.mem_range.mp hj));rw [e]; exact L.lt j k e
 rw [aj,gU] at this;lia
theorem E4{o:Array (Option Nat)}{j k:Nat}(hj:j < o.size)(i:Nat):ow (o.setIfInBounds j (some k)) i=if j=i then some k else ow o i:=by
 unfold ow;rw [aP,Array.getElem?_setIfInBounds];by_cases c:j=i
 ·rw [if_pos c,if_pos c,if_pos hj]; rfl
 ·rw [if_neg c,if_neg c,aP]
theorem Lay.step{m:Nat}(hm:Mk m){hs:List Int}{o:Array (Option Nat)}(L:Lay m hs o)(rZ:hs.length<=m)(h:Int) :
  ∃ j,layClean.free m o (turns m) (bits h % (m+1)) (bits h)=some j/\Lay m (hs++[h]) (o.setIfInBounds j (some hs.length)):=by
 obtain⟨e,he,hf⟩:=L.free rZ;have hb:bits h < 2 ^ 64:=by
  unfold bits;have h1:0<=h % (2 ^ 64:Int):=g6 _ (by decide);have h2:h % (2 ^ 64:Int) < 2 ^ 64:=fC _ (by decide);lia
 have hx:bits h % (m+1) < m+1:=nH _ (j0 m);obtain⟨k,hk,q⟩:=CY hm (x:=(bits h % (m+1),bits h)) hx hb he;obtain⟨n,j,g,gj,hj,gn,ga⟩:=zF L.sz (turns m) (bits h % (m+1),bits h) hx ⟨k,by unfold turns; lia,by rw [q]; exact hf⟩;have XH:j < o.size:=by rw [L.sz]; exact hj
 have old:∀ i k,ow o i=some k->ow (o.setIfInBounds j (some hs.length)) i=some k:=fun i k z=>by
  rw [E4 XH,if_neg (fun z2:j=i=>by rw [<-z2,gn] at z; cases z)]; exact z
 have inv:∀ i k,ow (o.setIfInBounds j (some hs.length)) i=some k->(i=j/\k=hs.length)\/(i≠j/\ow o i=some k/\k < hs.length):=fun i k z=>by
  rw [E4 XH] at z;by_cases c:j=i
  ·rw [if_pos c] at z; cases z; exact .inl ⟨c.symm,rfl⟩
  ·rw [if_neg c] at z; exact .inr ⟨fun z2=>c z2.symm,z,L.lt _ _ z⟩
 have nn:∀ i,ow o i≠none->ow (o.setIfInBounds j (some hs.length)) i≠none:=fun i z=>by
  obtain⟨k,e⟩:=Option.ne_none_iff_exists'.mp z;rw [old i k e]; exact fun z=>by cases z
 refine⟨j,g,⟨by rw [Array.size_setIfInBounds]; exact L.sz,fun i k z=>?_,fun k hk=>?_,fun i i' k z z'=>?_,fun i k z=>?_⟩⟩
 ·rw [aB,bV];rcases inv i k z with ⟨_,rfl⟩ | ⟨_,_,hk⟩ <;> lia
 ·rw [aB,bV] at hk;by_cases c:k=hs.length
  ·exact⟨j,by rw [E4 XH,if_pos rfl,c]⟩
  ·obtain⟨i,z⟩:=L.one k (by lia);exact⟨i,old i k z⟩
 ·rcases inv i k z with ⟨a,b⟩ | ⟨a,b,c⟩ <;> rcases inv i' k z' with ⟨a',b'⟩ | ⟨a',b',c'⟩
  ·rw [a,a']
  ·lia
  ·lia
  ·exact L.JZ i i' k b b'
 ·rcases inv i k z with ⟨a,b⟩ | ⟨a,b,c⟩
  ·have e:(hs++[h]).getD k 0=h:=by rw [b,aH,bK (aC _),pz]; rfl
   rw [e,a];exact⟨n,gj,fun n' z=>nn _ (ga n' z).2⟩
  ·have e:(hs++[h]).getD k 0=hs.getD k 0:=by rw [aH,cq c,<-aH]
   rw [e];obtain⟨n,q1,q2⟩:=L.way i k b;exact⟨n,q1,fun n' z=>nn _ (q2 n' z)⟩
theorem Hm{m:Nat}(hm:Mk m):∀ (hs:List Int) (J4:List Int) (o:Array (Option Nat)),Lay m J4 o->J4.length+hs.length<=m+1 ->
  ∃ o',hs.foldl (fun acc h=>do
   let (owner,k) ← acc
   let j ← layClean.free m owner (turns m) (bits h % (m+1)) (bits h)
   pure (owner.setIfInBounds j (some k),k+1)) (some (o,J4.length))=some (o',(J4++hs).length)/\Lay m (J4++hs) o'
 | [],J4,o,L,_=>⟨o,by rw [bL]; rfl,by rw [bL]; exact L⟩
 | h :: hs,J4,o,L,rZ=>by
  obtain⟨j,g,L'⟩:=L.step hm (by rw [ah] at rZ; lia) h;obtain⟨o',e,ZY⟩:=Hm hm hs (J4++[h]) _ L' (by rw [aB,bV]; rw [ah] at rZ; lia);rw [cM,iT] at e ZY;refine⟨o',?_,ZY⟩;rw [ug];rw [aB,bV] at e;rw [<-e];congr 1;show (do let j ← layClean.free m o (turns m) (bits h % (m+1)) (bits h); pure (o.setIfInBounds j (some J4.length),J4.length+1))=_;rw [g]; rfl
theorem C0{m:Nat}(hm:Mk m)(hs:Array Int)(rZ:hs.size<=m+1):∃ o,layClean m hs=some o/\Lay m hs.toList o:=by
 obtain⟨o,e,L⟩:=Hm hm hs.toList [] _ (Lay.nil m) (by rw [ar,bG]; lia);refine⟨o,?_,L⟩;unfold layClean;rw [<-Array.foldl_toList];rw [ar] at e;rw [e];rfl
end K2.S
end
section
namespace K2.S
open PySem PySem.SetTable
theorem MF(es:En):∀ (l:List Nat),(∀ k∈l,k < es.size)->l.filterMap (es[·]?)=l.map fun k=>es.getD k (0,.none)
 | [],_=>rfl
 | k :: l,h=>by
  have hk:k < es.size:=h k bI;have e:es[k]?=some (es.getD k (0,.none)):=by rw [aP,bC hk]; rfl
  rw [qA e,aI,MF es l fun x hx=>h x (aN _ hx)]
theorem LM{m:Nat}(hm:Mk m)(es:En)(rZ:es.size<=m)(finger moves:Nat)(led plain:Bool) :
  ∃ t' order,laid m finger moves led plain (es.map (·.1))=some (t',order)/\t'.mask=m/\t'.led=led/\t'.plain=plain/\(order.filterMap (es[·]?)).size=es.size /\
   List.Perm (order.filterMap (es[·]?)).toList es.toList/\NH t' (order.filterMap (es[·]?))/\order.toList.Perm (cF es.size):=by
 obtain⟨o,e,L⟩:=C0 hm (es.map (·.1)) (by rw [Array.size_map]; lia);have hl:(es.map (·.1)).toList.length=es.size:=by rw [bG,Array.size_map]
 generalize XF:((cF (m+1)).filterMap fun j=>(o.getD j none).map (j,·))=lv;have mem:∀ p:Nat×Nat,p∈lv↔ow o p.1=some p.2:=by
  rintro⟨j,k⟩;rw [<-XF,List.mem_filterMap];constructor
  ·rintro⟨a,_,q⟩;obtain⟨b,hb,q⟩:=Option.map_eq_some_iff.mp q;cases q; exact hb
  ·intro q;exact⟨j,List.mem_range.mpr (by have:=PT q; rw [L.sz] at this; exact this),Option.map_eq_some_iff.mpr ⟨k,q,rfl⟩⟩
 have asc:lv.Pairwise fun a b=>a.1 < b.1:=by
  rw [<-XF];refine List.Pairwise.filterMap _ (fun a a' r b hb b' yk=>?_) (List.pairwise_lt_range (n:=m+1));obtain⟨_,_,rfl⟩:=Option.map_eq_some_iff.mp hb;obtain⟨_,_,rfl⟩:=Option.map_eq_some_iff.mp yk;exact r
 have nd:(lv.map (·.2)).Nodup:=by
  rw [oS,lj];refine yi (fun {a b} ha hb r e=>?_) asc;have h1:=(mem a).mp ha;have h2:=(mem b).mp hb;rw [e] at h1;have:=L.JZ _ _ _ h1 h2;lia
 have pm:(lv.map (·.2)).Perm (cF es.size):=by
  refine(Ew nd List.nodup_range).mpr fun k=>?_;rw [List.mem_range,List.mem_map];constructor
  ·rintro⟨p,hp,rfl⟩;have:=L.lt _ _ ((mem p).mp hp);rw [hl] at this; exact this
  ·intro hk;obtain⟨j,q⟩:=L.one k (by rw [hl]; exact hk);exact⟨(j,k),(mem _).mpr q,rfl⟩
 have ll:lv.length=es.size:=by have:=pm.length_eq; rw [aj,gU] at this; exact this
 have Y8:∀ k∈lv.map (·.2),k < es.size:=fun k hk=>List.mem_range.mp (pm.mem_iff.mp hk);have es':((lv.map (·.2)).toArray.filterMap (es[·]?)).toList=lv.map fun p=>es.getD p.2 (0,.none):=by
  rw [JV,MF es _ Y8,fN]; rfl
 have YS:List.Perm ((lv.map (·.2)).toArray.filterMap (es[·]?)).toList es.toList:=by
  rw [JV];refine(pm.filterMap _).trans ?_;rw [filterMap_getElem?_range]
 have ges:∀ i,((lv.map (·.2)).toArray.filterMap (es[·]?))[i]?=lv[i]?.map fun p:Nat×Nat=>es.getD p.2 (0,.none):=fun i=>by
  rw [<-cg,es',bO]
 have YC:((lv.map (·.2)).toArray.filterMap (es[·]?)).size=es.size:=by
  rw [<-bG,YS.length_eq,bG]
 have UO:∀ i (hi:i < lv.length),(lv.map (·.1)).toArray.getD i 0=lv[i].1:=fun i hi=>by
  rw [aP,Np,bO,ai hi]; rfl
 have Si:(lv.map (·.1)).toArray.size=es.size:=by rw [aJ,aj,ll]
 have ful:∀ j,ow o j≠none->Full (lv.map (·.1)).toArray j:=fun j z=>by
  obtain⟨k,q⟩:=Option.ne_none_iff_exists'.mp z;obtain⟨i,hi,ei⟩:=eB ((mem (j,k)).mpr q);exact⟨i,by rw [Si,<-ll]; exact hi,by rw [UO i hi,ei]⟩
 refine⟨{ mask:=m,place:=(lv.map (·.1)).toArray,dummies:=#[],finger,led,moves,plain },(lv.map (·.2)).toArray,?_,rfl,rfl,rfl,YC,YS,?_,pm⟩
 ·unfold laid;rw [e];show some _=some _;rw [XF]
 ·refine⟨hm,rfl,by show (lv.map (·.1)).toArray.size=_; rw [Si,YC],?_,?_,by show (lv.map (·.1)).toArray.size<=m; rw [Si]; exact rZ,?_⟩
  ·intro a b ab hb;have hb:b < lv.length:=by rw [ll,<-Si]; exact hb
   show (lv.map (·.1)).toArray.getD a 0 < (lv.map (·.1)).toArray.getD b 0;rw [UO a (by lia),UO b hb];exact List.pairwise_iff_getElem.mp asc a b (by lia) hb ab
  ·intro k hk;have hk:k < lv.length:=by rw [ll,<-Si]; exact hk
   show (lv.map (·.1)).toArray.getD k 0<=m;rw [UO k hk];have:=PT ((mem _).mp (bB hk));rw [L.sz] at this; lia
  ·intro k hk;have hk:k < lv.length:=by rw [ll,<-Si]; exact hk
   have hi:=(mem _).mp (bB hk);have pf:=Y8 lv[k].2 (List.mem_map_of_mem (bB hk));have eh:S.hk ((lv.map (·.2)).toArray.filterMap (es[·]?)) k=(es.map (·.1)).toList.getD lv[k].2 0:=by
    unfold S.hk;rw [ges,ai hk,aH,cg,Array.getElem?_map,bC pf];show (es.getD lv[k].2 (0,.none)).1=(es[lv[k].2]).1;rw [aP,bC pf]; rfl
   rw [eh];obtain⟨n,q1,q2⟩:=L.way _ _ hi;refine⟨n,?_,fun n' z=>ful _ (q2 n' z)⟩;show _=(lv.map (·.1)).toArray.getD k 0;rw [UO k hk]; exact q1
end K2.S
end
section
namespace K2
open PySem PySem.Spec PyProof.Rows L2
noncomputable def SK(K:ag)(H:Hp)(a:Addr)(xs:List V):Prop :=
 (∃ o,H a=some (.hZ o (.lst xs))) \/
  ∃ (o:Obj) (a7:Array Value) (n:Nat),K.lookup a=some o/\o.cls=.type "list"/\o.dict=none/\o.data=.seq a7 n/\a7.size<=aT/\Vals xs a7.toList
theorem SK.sq{K:ag}{H:Hp}{a:Addr}{xs:List V}(h:SK K H a xs):t7 K H a xs:=by
 rcases h with ⟨o,h⟩ | h
 ·exact .inl (.inr ⟨o,h⟩)
 ·exact .inr h
noncomputable def eK:Key->D
 | .inl i=>.int i
 | .inr x=>.str x
noncomputable def ExcAt(K:ag)(H:Hp)(a:Addr)(c:Str):Prop:=∃ (o:Obj) (C:Addr),H a=some (.hZ o (.ext fun h=>h.get? a=some o))/\o.cls=.ref C/\bc K aO c=some (some (.ref C))
noncomputable def HX(K:ag)(H:Hp)(a:Addr)(c:Str)(ns:List Str)(vs:List V):Prop:=∃ (o:Obj) (C dx:Addr) (od:Obj) (fs:List (Str×V)),H a=some (.hZ o (.ext fun h=>h.get? a=some o))/\o.cls=.ref C/\bc K aO c=some (some (.ref C))/\o.dict=some dx/\H dx=some (.hZ od (.xd fs))/\Cd o=true/\fs.map (·.1)=ns/\fs.map (·.2)=vs
noncomputable def Xq(hs:List Int):Int:=reduceHash (Builtin.Tuple.tupleHashOf hs)
noncomputable def hP(k:PK):Int:=Xq (k.map fun r=>Xq (r.map fun t=>Xq (t.map hashInt)))
noncomputable def ZW(a:Addr)(xs:List (PK×Addr×Value))(h:Heap):Prop:=xs.length<=aT/\(a == fL)=false/\∃ (o:Obj) (es:Array lE) (ep:Nat),h.get? a=some o/\o.ExactDict/\o.data=.dict es ep/\es.toList=xs.map (fun x=>⟨hP x.1,.ref x.2.1,x.2.2⟩)/\(xs.map (·.1)).Nodup
noncomputable def Vh(aS:List (PK×D))(ks vs:List V)(xs:List (PK×Addr×Value)):Prop:=aS.map (fun p=>p.1)=xs.map (fun x=>x.1)/\ks=xs.map (fun x=>V.ref x.2.1)/\Vals vs (xs.map fun x=>x.2.2)
mutual
inductive cb (K:ag) (H:Hp):V->D->Prop
 | cy:cb K H .cy .cy
 | bl (b:Bool):cb K H (.bl b) (.bl b)
 | int (i:Int):cb K H (.int i) (.int i)
 | str (x:Str):cb K H (.str x) (.str x)
 | tup {a:Addr} {vs:List V} {ds:List D}:H a=some (.tup vs)->aR K H vs ds->cb K H (.ref a) (.tup ds)
 | eL {a:Addr} {vs:List V} {ds:List D}:SK K H a vs->aR K H vs ds->cb K H (.ref a) (.eL ds)
 | qY {a:Addr} {o:Obj} {kv:List (Key×V)} {aS:List (D×D)}:H a=some (.hZ o (.dK kv))->nJ K H kv aS->cb K H (.ref a) (.sg aS)
 | qX {a:Addr} {o:Obj} {kv:List (List Key×V)} {aS:List (D×D)}:H a=some (.hZ o (.dT kv))->oQ K H kv aS->cb K H (.ref a) (.sg aS)
 | ref (a:Addr):cb K H (.ref a) (.ref a)
 | exc {a:Addr} {c:Str}:ExcAt K H a c->cb K H (.ref a) (.exc c)
 | uj {a:Addr} {c:Str} {ns:List Str} {vs:List V} {ds:List D}:HX K H a c ns vs->aR K H vs ds->cb K H (.ref a) (.uj c ns ds)
 | ze {a:Addr} {o:Obj} {xs:List (PK×Addr×Value)} {ks vs:List V} {aS:List (PK×D)}:H a=some (.hZ o (.ext (ZW a xs)))->Vh aS ks vs xs->aR K H ks (aS.map fun p=>Tu p.1)->aR K H vs (aS.map fun p=>p.2)->cb K H (.ref a) (.ze aS)
inductive aR (K:ag) (H:Hp):List V->List D->Prop
 | nil:aR K H [] []
 | cons {v:V} {d:D} {vs:List V} {ds:List D}:cb K H v d->aR K H vs ds->aR K H (v :: vs) (d :: ds)
inductive nJ (K:ag) (H:Hp):List (Key×V)->List (D×D)->Prop
 | nil:nJ K H [] []
 | cons {k:Key} {v:V} {d:D} {r:List (Key×V)} {t:List (D×D)}:cb K H v d->nJ K H r t->nJ K H ((k,v) :: r) ((eK k,d) :: t)
inductive oQ (K:ag) (H:Hp):List (List Key×V)->List (D×D)->Prop
 | nil:oQ K H [] []
 | cons {k:List Key} {v:V} {d:D} {r:List (List Key×V)} {t:List (D×D)}:cb K H v d->oQ K H r t->oQ K H ((k,v) :: r) ((.tup (k.map eK),d) :: t)
end
structure Kp(H H':Hp):Prop where
 tup:∀ a xs,H a=some (.tup xs)->H' a=some (.tup xs)
 hZ:∀ a o u,H a=some (.hZ o u)->H' a=some (.hZ o u)
theorem Kp.refl(H:Hp):Kp H H:=⟨fun _ _ h=>h,fun _ _ _ h=>h⟩
theorem Kp.trans{H H1 H2:Hp}(a:Kp H H1)(b:Kp H1 H2):Kp H H2:=⟨fun c xs h=>b.tup c xs (a.tup c xs h),fun c o u h=>b.hZ c o u (a.hZ c o u h)⟩
theorem Kp.sqT{K:ag}{H H':Hp}{a:Addr}{xs:List V}(k:Kp H H')(h:x5 K H a xs):x5 K H' a xs:=by
 rcases h with (h | ⟨o,h⟩) | h
 ·exact .inl (.inl (k.tup _ _ h))
 ·exact .inl (.inr ⟨o,k.hZ _ _ _ h⟩)
 ·exact .inr h
theorem Kp.Sh{K:ag}{H H':Hp}{a:Addr}{xs:List V}(k:Kp H H')(h:SK K H a xs):SK K H' a xs:=by
 rcases h with ⟨o,h⟩ | h
 ·exact .inl ⟨o,k.hZ _ _ _ h⟩
 ·exact .inr h
theorem ExcAt.mono{K:ag}{H H':Hp}(k:Kp H H'){a:Addr}{c:Str}(h:ExcAt K H a c):ExcAt K H' a c :=
 let ⟨o,C,h1,h2,h3⟩:=h
 ⟨o,C,k.hZ _ _ _ h1,h2,h3⟩
theorem HX.mono{K:ag}{H H':Hp}(k:Kp H H'){a:Addr}{c:Str}{ns:List Str}{vs:List V}(h:HX K H a c ns vs):HX K H' a c ns vs :=
 let ⟨o,C,dx,od,fs,h1,h2,h3,h4,h5,h6⟩:=h
 ⟨o,C,dx,od,fs,k.hZ _ _ _ h1,h2,h3,h4,k.hZ _ _ _ h5,h6⟩
theorem aR.C4{K:ag}{H:Hp}{P:List V->List D->Prop}(h0:P [] [])(h1:∀ {v:V} {d:D} {vs:List V} {ds:List D},cb K H v d->aR K H vs ds->P vs ds->P (v :: vs) (d :: ds)){vs:List V}{ds:List D}(h:aR K H vs ds):P vs ds :=
 aR.rec (motive_1:=fun _ _ _=>True) (motive_2:=fun vs ds _=>P vs ds) (motive_3:=fun _ _ _=>True) (motive_4:=fun _ _ _=>True) trivial (fun _=>trivial) (fun _=>trivial) (fun _=>trivial) (fun _ _ _=>trivial) (fun _ _ _=>trivial) (fun _ _ _=>trivial) (fun _ _ _=>trivial) (fun _=>trivial) (fun _=>trivial) (fun _ _ _=>trivial) (fun _ _ _ _ _ _=>trivial) h0 (fun a b _ ih=>h1 a b ih) trivial (fun _ _ _ _=>trivial) trivial (fun _ _ _ _=>trivial) h
theorem cb.mono{K:ag}{H H':Hp}(k:Kp H H'):∀ {v:V} {d:D},cb K H v d->cb K H' v d:=fun h =>
 cb.rec (motive_1:=fun v d _=>cb K H' v d) (motive_2:=fun v d _=>aR K H' v d) (motive_3:=fun v d _=>nJ K H' v d) (motive_4:=fun v d _=>oQ K H' v d)
  .cy .bl .int .str (fun h _ r=>.tup (k.tup _ _ h) r) (fun h _ r=>.eL (k.Sh h) r) (fun h _ r=>.qY (k.hZ _ _ _ h) r) (fun h _ r=>.qX (k.hZ _ _ _ h) r) .ref (fun h=>.exc (h.mono k)) (fun h _ r=>.uj (h.mono k) r) (fun h z _ _ r1 r2=>.ze (k.hZ _ _ _ h) z r1 r2) .nil (fun _ _ a b=>.cons a b) .nil (fun _ _ a b=>.cons a b) .nil (fun _ _ a b=>.cons a b) h
theorem aR.mono{K:ag}{H H':Hp}(k:Kp H H'){v:List V}{d:List D}(h:aR K H v d):aR K H' v d :=
 aR.C4 (P:=fun v d=>aR K H' v d) .nil (fun r _ ih=>.cons (r.mono k) ih) h
theorem nJ.mono{K:ag}{H H':Hp}(k:Kp H H'){v:List (Key×V)}{d:List (D×D)}(h:nJ K H v d):nJ K H' v d :=
 nJ.rec (motive_1:=fun v d _=>cb K H' v d) (motive_2:=fun v d _=>aR K H' v d) (motive_3:=fun v d _=>nJ K H' v d) (motive_4:=fun v d _=>oQ K H' v d)
  .cy .bl .int .str (fun h _ r=>.tup (k.tup _ _ h) r) (fun h _ r=>.eL (k.Sh h) r) (fun h _ r=>.qY (k.hZ _ _ _ h) r) (fun h _ r=>.qX (k.hZ _ _ _ h) r) .ref (fun h=>.exc (h.mono k)) (fun h _ r=>.uj (h.mono k) r) (fun h z _ _ r1 r2=>.ze (k.hZ _ _ _ h) z r1 r2) .nil (fun _ _ a b=>.cons a b) .nil (fun _ _ a b=>.cons a b) .nil (fun _ _ a b=>.cons a b) h
theorem oQ.mono{K:ag}{H H':Hp}(k:Kp H H'){v:List (List Key×V)}{d:List (D×D)}(h:oQ K H v d):oQ K H' v d :=
 oQ.rec (motive_1:=fun v d _=>cb K H' v d) (motive_2:=fun v d _=>aR K H' v d) (motive_3:=fun v d _=>nJ K H' v d) (motive_4:=fun v d _=>oQ K H' v d)
  .cy .bl .int .str (fun h _ r=>.tup (k.tup _ _ h) r) (fun h _ r=>.eL (k.Sh h) r) (fun h _ r=>.qY (k.hZ _ _ _ h) r) (fun h _ r=>.qX (k.hZ _ _ _ h) r) .ref (fun h=>.exc (h.mono k)) (fun h _ r=>.uj (h.mono k) r) (fun h z _ _ r1 r2=>.ze (k.hZ _ _ _ h) z r1 r2) .nil (fun _ _ a b=>.cons a b) .nil (fun _ _ a b=>.cons a b) .nil (fun _ _ a b=>.cons a b) h
theorem aR.length{K:ag}{H:Hp}:∀ {vs:List V} {ds:List D},aR K H vs ds->vs.length=ds.length:=fun h =>
 aR.C4 (P:=fun vs ds=>vs.length=ds.length) rfl (fun _ _ ih=>congrArg (· + 1) ih) h
theorem aR.get{K:ag}{H:Hp}:∀ {vs:List V} {ds:List D} {i:Nat} {d:D},aR K H vs ds->ds[i]?=some d->∃ v,vs[i]?=some v/\cb K H v d:=by
 intro vs ds i d h;refine aR.C4 (P:=fun vs ds=>∀ (i:Nat) (d:D),ds[i]?=some d->∃ v,vs[i]?=some v/\cb K H v d) (fun i d e=>by cases e) (fun r _ ih i d e=>?_) h i d;cases i with
 | zero=>cases e; exact⟨_,rfl,r⟩
 | succ i=>exact ih i d e
theorem aR.append{K:ag}{H:Hp}:∀ {vs ws:List V} {ds es:List D},aR K H vs ds->aR K H ws es->aR K H (vs++ws) (ds++es):=fun {_ ws _ es} h s =>
 aR.C4 (P:=fun vs ds=>aR K H (vs++ws) (ds++es)) s (fun r _ ih=>.cons r ih) h
theorem aR.take{K:ag}{H:Hp}:∀ {vs:List V} {ds:List D} (n:Nat),aR K H vs ds->aR K H (vs.take n) (ds.take n):=fun {_ _} n h =>
 aR.C4 (P:=fun vs ds=>∀ n,aR K H (vs.take n) (ds.take n)) (fun n=>by rw [yf,yf]; exact .nil) (fun r _ ih n=>by
  cases n with
  | zero=>exact .nil
  | succ n=>exact .cons r (ih n)) h n
theorem aR.drop{K:ag}{H:Hp}:∀ {vs:List V} {ds:List D} (n:Nat),aR K H vs ds->aR K H (vs.drop n) (ds.drop n):=fun {_ _} n h =>
 aR.C4 (P:=fun vs ds=>∀ n,aR K H (vs.drop n) (ds.drop n)) (fun n=>by rw [yg,yg]; exact .nil) (fun r t ih n=>by
  cases n with
  | zero=>exact .cons r t
  | succ n=>exact ih n) h n
theorem aR.set{K:ag}{H:Hp}{v:V}{d:D}(r:cb K H v d):∀ {vs:List V} {ds:List D} (i:Nat),aR K H vs ds->aR K H (vs.set i v) (ds.set i d):=fun {_ _} i h =>
 aR.C4 (P:=fun vs ds=>∀ i,aR K H (vs.set i v) (ds.set i d)) (fun i=>by rw [z8,z8]; exact .nil) (fun q t ih i=>by
  cases i with
  | zero=>exact .cons r t
  | succ i=>exact .cons q (ih i)) h i
theorem aR.one{K:ag}{H:Hp}:∀ {vs:List V} {d:D},aR K H vs [d]->∃ v,vs=[v]/\cb K H v d:=by
 intro vs d h;cases h with
 | cons r t=>cases t; exact⟨_,rfl,r⟩
theorem aR.two{K:ag}{H:Hp}:∀ {vs:List V} {d e:D},aR K H vs [d,e]->∃ v u,vs=[v,u]/\cb K H v d/\cb K H u e:=by
 intro vs d e h;cases h with
 | cons r t =>
  obtain⟨u,rfl,q⟩:=aR.one t;exact⟨_,_,rfl,r,q⟩
theorem aR.zero{K:ag}{H:Hp}:∀ {vs:List V},aR K H vs []->vs=[]
 | _,.nil=>rfl
theorem aR.ints{K:ag}{H:Hp}:∀ {vs:List V} {ns:List Int},aR K H vs (ns.map D.int)->vs=ns.map V.int:=by
 intro vs ns;induction ns generalizing vs with
 | nil=>intro h; exact h.zero
 | cons n ns ih =>
  intro h;cases h with
  | cons r t =>
   cases r;rw [ih t]; rfl
theorem aR.A6{K:ag}{H:Hp}:∀ (ns:List Int),aR K H (ns.map V.int) (ns.map D.int)
 | []=>.nil
 | n :: ns=>.cons (.int n) (aR.A6 ns)
theorem nJ.ind{K:ag}{H:Hp}{motive:∀ (kv:List (Key×V)) (aS:List (D×D)),nJ K H kv aS->Prop}(nil:motive [] [] .nil)
  (cons:∀ {k:Key} {v:V} {d:D} {r:List (Key×V)} {t:List (D×D)} (re:cb K H v d) (rs:nJ K H r t),motive r t rs->motive ((k,v) :: r) ((eK k,d) :: t) (.cons re rs)):∀ {kv:List (Key×V)} {aS:List (D×D)} (h:nJ K H kv aS),motive kv aS h:=fun h =>
 nJ.rec (motive_1:=fun _ _ _=>True) (motive_2:=fun _ _ _=>True) (motive_3:=motive) (motive_4:=fun _ _ _=>True) trivial (fun _=>trivial) (fun _=>trivial) (fun _=>trivial) (fun _ _ _=>trivial) (fun _ _ _=>trivial) (fun _ _ _=>trivial) (fun _ _ _=>trivial) (fun _=>trivial) (fun _=>trivial) (fun _ _ _=>trivial) (fun _ _ _ _ _ _=>trivial) trivial (fun _ _ _ _=>trivial) nil (fun a b _ ih=>cons a b ih) trivial (fun _ _ _ _=>trivial) h
theorem oQ.ind{K:ag}{H:Hp}{motive:∀ (kv:List (List Key×V)) (aS:List (D×D)),oQ K H kv aS->Prop}(nil:motive [] [] .nil)
  (cons:∀ {k:List Key} {v:V} {d:D} {r:List (List Key×V)} {t:List (D×D)} (re:cb K H v d) (rs:oQ K H r t),motive r t rs->motive ((k,v) :: r) ((.tup (k.map eK),d) :: t) (.cons re rs)):∀ {kv:List (List Key×V)} {aS:List (D×D)} (h:oQ K H kv aS),motive kv aS h:=fun h =>
 oQ.rec (motive_1:=fun _ _ _=>True) (motive_2:=fun _ _ _=>True) (motive_3:=fun _ _ _=>True) (motive_4:=motive) trivial (fun _=>trivial) (fun _=>trivial) (fun _=>trivial) (fun _ _ _=>trivial) (fun _ _ _=>trivial) (fun _ _ _=>trivial) (fun _ _ _=>trivial) (fun _=>trivial) (fun _=>trivial) (fun _ _ _=>trivial) (fun _ _ _ _ _ _=>trivial) trivial (fun _ _ _ _=>trivial) trivial (fun _ _ _ _=>trivial) nil (fun a b _ ih=>cons a b ih) h
theorem nJ.length{K:ag}{H:Hp}:∀ {v:List (Key×V)} {d:List (D×D)},nJ K H v d->v.length=d.length:=fun h =>
 nJ.ind (motive:=fun v d _=>v.length=d.length) rfl (fun _ _ ih=>congrArg (· + 1) ih) h
theorem oQ.length{K:ag}{H:Hp}:∀ {v:List (List Key×V)} {d:List (D×D)},oQ K H v d->v.length=d.length:=fun h =>
 oQ.ind (motive:=fun v d _=>v.length=d.length) rfl (fun _ _ ih=>congrArg (· + 1) ih) h
noncomputable def Kc(K:ag)(H:Hp)(a:Addr):GO->Prop
 | .lst ds=>∃ vs,H a=some (.lst vs)/\aR K H vs ds
 | .kI aS=>(∃ kv,H a=some (.dK kv)/\nJ K H kv aS)\/∃ kv,H a=some (.dT kv)/\oQ K H kv aS
 | .ins c fs=>∃ C dx fv,H a=some (.ins C dx fv)/\bc K aO c=some (some (.ref C))/\fv.map (·.1)=fs.map (·.1)/\aR K H (fv.map (·.2)) (fs.map (·.2))
 | .HE aS=>∃ xs ks vs,H a=some (.ext (ZW a xs))/\Vh aS ks vs xs/\aR K H ks (aS.map fun p=>Tu p.1)/\aR K H vs (aS.map fun p=>p.2)
noncomputable def jK(K:ag)(H:Hp)(G:Gp):Prop:=∀ a g,G a=some g->Kc K H a g
theorem Kc.dk{K:ag}{H:Hp}{a:Addr}{kv:List (Key×V)}{aS:List (D×D)}(h:H a=some (.dK kv))(r:nJ K H kv aS):Kc K H a (.kI aS):=.inl ⟨kv,h,r⟩
theorem Kc.mono{K:ag}{H H':Hp}{a:Addr}{g:GO}(k:Kp H H')(e:H' a=H a)(h:Kc K H a g):Kc K H' a g:=by
 cases g with
 | lst ds=>obtain⟨vs,q,r⟩:=h; exact⟨vs,e.trans q,r.mono k⟩
 | ins c fs=>obtain⟨C,dx,fv,q,h1,h2,r⟩:=h; exact⟨C,dx,fv,e.trans q,h1,h2,r.mono k⟩
 | HE aS=>obtain⟨xs,ks,vs,q,h1,r1,r2⟩:=h; exact⟨xs,ks,vs,e.trans q,h1,r1.mono k,r2.mono k⟩
 | kI aS =>
  rcases h with ⟨kv,q,r⟩ | ⟨kv,q,r⟩
  ·exact .inl ⟨kv,e.trans q,r.mono k⟩
  ·exact .inr ⟨kv,e.trans q,r.mono k⟩
theorem Kc.tracked{K:ag}{H:Hp}{a:Addr}{g:GO}(h:Kc K H a g):H a≠none:=by
 cases g with
 | lst ds=>obtain⟨vs,q,r⟩:=h; rw [q]; simp
 | ins c fs=>obtain⟨C,dx,fv,q,_⟩:=h; rw [q]; simp
 | HE aS=>obtain⟨xs,ks,vs,q,_⟩:=h; rw [q]; simp
 | kI aS =>
  rcases h with ⟨kv,q,r⟩ | ⟨kv,q,r⟩
  ·rw [q]; simp
  ·rw [q]; simp
theorem jK.free{K:ag}{H:Hp}{G:Gp}{a:Addr}(h:jK K H G)(e:H a=none):G a=none:=by
 cases q:G a with
 | none=>rfl
 | some g=>exact absurd e (h a g q).tracked
theorem jK.PU{K:ag}{H:Hp}{G:Gp}{a:Addr}{xs:List V}(h:jK K H G)(e:H a=some (.tup xs)):G a=none:=by
 cases q:G a with
 | none=>rfl
 | some g =>
  have z:=h a g q;cases g with
  | lst ds=>obtain⟨vs,q,r⟩:=z; rw [e] at q; cases q
  | ins c fs=>obtain⟨C,dx,fv,q,_⟩:=z; rw [e] at q; cases q
  | HE aS=>obtain⟨xs,ks,vs,q,_⟩:=z; rw [e] at q; cases q
  | kI aS =>
   rcases z with ⟨kv,q,r⟩ | ⟨kv,q,r⟩
   ·rw [e] at q; cases q
   ·rw [e] at q; cases q
theorem jK.PV{K:ag}{H:Hp}{G:Gp}{a:Addr}{o:Obj}{u:HO}(h:jK K H G)(e:H a=some (.hZ o u)):G a=none:=by
 cases q:G a with
 | none=>rfl
 | some g =>
  have z:=h a g q;cases g with
  | lst ds=>obtain⟨vs,q,r⟩:=z; rw [e] at q; cases q
  | ins c fs=>obtain⟨C,dx,fv,q,_⟩:=z; rw [e] at q; cases q
  | HE aS=>obtain⟨xs,ks,vs,q,_⟩:=z; rw [e] at q; cases q
  | kI aS =>
   rcases z with ⟨kv,q,r⟩ | ⟨kv,q,r⟩
   ·rw [e] at q; cases q
   ·rw [e] at q; cases q
structure Mv(K:ag)(H:Hp)(G:Gp)(H':Hp)(G':Gp):Prop where
 keep:∀ a o,H a=some o->G a=none->H' a=some o/\G' a=none
 iK:∀ a,G a≠none->H' a≠none
 ab:jK K H' G'
theorem Mv.refl{K:ag}{H:Hp}{G:Gp}(h:jK K H G):Mv K H G H G:=⟨fun _ _ e n=>⟨e,n⟩,fun a n=>by
 cases q:G a with
 | none=>exact absurd q n
 | some g=>exact(h a g q).tracked,h⟩
theorem Mv.trans{K:ag}{H H1 H2:Hp}{G G1 G2:Gp}(a:Mv K H G H1 G1)(b:Mv K H1 G1 H2 G2):Mv K H G H2 G2 :=
 ⟨fun c o e n=>let ⟨e1,n1⟩:=a.keep c o e n; b.keep c o e1 n1,fun c n=>by
  have h1:=a.iK c n;cases q:G1 c with
  | some g=>exact b.iK c (by rw [q]; simp)
  | none =>
   cases q1:H1 c with
   | none=>exact absurd q1 h1
   | some o=>rw [(b.keep c o q1 q).1]; simp,b.ab⟩
theorem Mv.kp{K:ag}{H H':Hp}{G G':Gp}(m:Mv K H G H' G')(h:jK K H G):Kp H H' :=
 ⟨fun a xs e=>(m.keep a _ e (h.PU e)).1,fun a o u e=>(m.keep a _ e (h.PV e)).1⟩
theorem Kp.new{H:Hp}{p:Addr}{o:HO}(hp:H p=none):Kp H (upd H p o):=⟨fun a xs e=>by rw [bu (dW e hp)]; exact e,fun a ob u e=>by rw [bu (dW e hp)]; exact e⟩
theorem Kp.putL{H:Hp}{p:Addr}{xs:List V}{o:HO}(hp:H p=some (.lst xs)):Kp H (upd H p o) :=
 ⟨fun a ys e=>by rw [bu (by rintro rfl; rw [hp] at e; cases e)]; exact e,fun a ob u e=>by rw [bu (by rintro rfl; rw [hp] at e; cases e)]; exact e⟩
theorem Mv.new{K:ag}{H:Hp}{G:Gp}{p:Addr}{o:HO}{g:GO}(h:jK K H G)(hp:H p=none)(ho:Kc K (upd H p o) p g):Mv K H G (upd H p o) (dO G p g) where
 keep:=fun a ob e n=>by
  have ne:=dW e hp;exact⟨by rw [bu ne]; exact e,by rw [dN ne]; exact n⟩
 iK:=fun a n=>by
  have ne:a≠p:=by rintro rfl; exact n (h.free hp)
  rw [bu ne];exact(Mv.refl h).iK a n
 ab:=fun a g' e=>by
  by_cases ha:a=p
  ·subst ha; rw [bg] at e; cases e; exact ho
  ·rw [dN ha] at e;exact(h a g' e).mono (.new hp) (bu ha)
theorem Mv.NA{K:ag}{H:Hp}{G:Gp}{p:Addr}{o:HO}(h:jK K H G)(hp:H p=none):Mv K H G (upd H p o) G where
 keep:=fun a ob e n=>⟨by rw [bu (dW e hp)]; exact e,n⟩
 iK:=fun a n=>by
  have ne:a≠p:=by rintro rfl; exact n (h.free hp)
  rw [bu ne];exact(Mv.refl h).iK a n
 ab:=fun a g' e=>by
  have ne:a≠p:=by rintro rfl; rw [h.free hp] at e; cases e
  exact(h a g' e).mono (.new hp) (bu ne)
theorem Mv.put{K:ag}{H:Hp}{G:Gp}{p:Addr}{o:HO}{g g0:GO}(h:jK K H G)(hg:G p=some g0)(k:Kp H (upd H p o))(ho:Kc K (upd H p o) p g):Mv K H G (upd H p o) (dO G p g) where
 keep:=fun a ob e n=>by
  have ne:a≠p:=by rintro rfl; rw [hg] at n; cases n
  exact⟨by rw [bu ne]; exact e,by rw [dN ne]; exact n⟩
 iK:=fun a n=>by
  by_cases ha:a=p
  ·subst ha; rw [cj]; simp
  ·rw [bu ha]; exact(Mv.refl h).iK a n
 ab:=fun a g' e=>by
  by_cases ha:a=p
  ·subst ha; rw [bg] at e; cases e; exact ho
  ·rw [dN ha] at e;exact(h a g' e).mono k (bu ha)
theorem jK.lst{K:ag}{H:Hp}{G:Gp}{a:Addr}{ds:List D}(h:jK K H G)(e:G a=some (.lst ds)):∃ vs,H a=some (.lst vs)/\aR K H vs ds:=h a _ e
theorem Mv.Ba{K:ag}{H:Hp}{G:Gp}{p:Addr}{vs:List V}{ds:List D}(h:jK K H G)(hp:H p=none)(r:aR K H vs ds):Mv K H G (upd H p (.lst vs)) (dO G p (.lst ds)) :=
 .new h hp ⟨vs,cj,r.mono (.new hp)⟩
theorem Mv.putL{K:ag}{H:Hp}{G:Gp}{p:Addr}{Z7 vs:List V}{ds0 ds:List D}(h:jK K H G)(hg:G p=some (.lst ds0))(hp:H p=some (.lst Z7))(r:aR K H vs ds):Mv K H G (upd H p (.lst vs)) (dO G p (.lst ds)) :=
 .put h hg (.putL hp) ⟨vs,cj,r.mono (.putL hp)⟩
structure HZ(K:ag)(H:Hp)(σ:L2.St)(τ:hV):Prop where
 len:σ.length=τ.length
 at':∀ (i:Nat) (d:D),τ[i]?=some (some d)->∃ v,σ[i]?=some (some v)/\cb K H v d
theorem HZ.mono{K:ag}{H H':Hp}{σ:L2.St}{τ:hV}(k:Kp H H')(a:HZ K H σ τ):HZ K H' σ τ :=
 ⟨a.len,fun i d e=>let ⟨v,h1,h2⟩:=a.at' i d e; ⟨v,h1,h2.mono k⟩⟩
theorem HZ.set{K:ag}{H:Hp}{σ:L2.St}{τ:hV}{v:V}{d:D}(a:HZ K H σ τ)(i:Nat)(r:cb K H v d):HZ K H (σ.set i (some v)) (τ.set i (some d)):=by
 refine⟨by rw [cL,cL]; exact a.len,fun j e h=>?_⟩;by_cases hj:i=j
 ·subst hj;by_cases hi:i < τ.length
  ·rw [cZ hi] at h;cases h;exact⟨v,by rw [cZ (by rw [a.len]; exact hi)],r⟩
  ·rw [List.set_eq_of_length_le (by lia)] at h;rw [iU (by lia)] at h;cases h
 ·rw [dR hj] at h;obtain⟨w,h1,h2⟩:=a.at' j e h;exact⟨w,by rw [dR hj]; exact h1,h2⟩
structure I2(X:Cx)(pins:List (Addr×Obj))(σ:L2.St)(H:Hp)(τ:hV)(G:Gp)(s:ak):Prop where
 inv:Inv X pins σ H s
 st:HZ X.K H σ τ
 ab:jK X.K H G
theorem I2.mv{X:Cx}{pins:List (Addr×Obj)}{σ:L2.St}{H H':Hp}{τ:hV}{G G':Gp}{s s':ak}(I:I2 X pins σ H τ G s)(I':Inv X pins σ H' s')(m:Mv X.K H G H' G'):I2 X pins σ H' τ G' s' :=
 ⟨I',I.st.mono (m.kp I.ab),m.ab⟩
noncomputable def yb(P:bo)(w:World):JN:=fun outer H s E e s'=>∃ (a C t:Addr) (B:Heap) (H':Hp),e=.ref a/\s'.os=s.os/\wH s'.gens/\Un (oA outer) [] H H' s.heap s'.heap/\pq P w H' s'.heap /\
 (∀ b o,s'.heap.get? b=some o->b∉oA outer->(s.heap.get? b≠none\/H' b≠none)->B.get? b=some o)/\fY B outer a (.ref C) (.ref t) s'.heap/\H' a=none/\s.heap.get? a=none/\∃ oe,s'.heap.get? a=some oe/\E (.ref C) oe.dict H'
noncomputable def PB(K:ag)(H:Hp)(l:List (Str×D))(o:Option Addr):Prop:=l=[]\/∃ (dx:Addr) (od:Obj) (fs:List (Str×V)),o=some dx/\H dx=some (.hZ od (.xd fs))/\fs.map (·.1)=l.map (·.1)/\aR K H (fs.map (·.2)) (l.map (·.2))
theorem PB.mono{K:ag}{H H':Hp}{l:List (Str×D)}{o:Option Addr}(k:Kp H H')(h:PB K H l o):PB K H' l o :=
 h.imp id fun ⟨dx,od,fs,e,e1,e2,r⟩=>⟨dx,od,fs,e,k.2 _ _ _ e1,e2,r.mono k⟩
noncomputable def Ye(K:ag)(mg:Str->Option Value)(E:kC):XK:=fun cls o H=>∃ (ex:Ex) (C:Addr) (G:Gp),cls=.ref C/\mg ex.cls=some (.ref C)/\jK K H G/\E ex G/\PB K H ex.rh o
structure Lk(X:Cx)(E:kC):Prop where
 made:∀ (pins:List (Addr×Obj)) (σ:L2.St) (H:Hp) (s:ak) (h1:Heap) (a C:Addr) (args:List Value) (ex:Ex) (G:Gp),Inv X pins σ H s->jK X.K H G->PySem.Heap.MadeExcOf s.heap h1 a (.ref C) args->X.mg ex.cls=some (.ref C)->E ex G->ex.rh=[]->X.xe (.ref a) { s with heap:=h1 }
 LC:∀ (pins:List (Addr×Obj)) (σ:L2.St) (H:Hp) (s:ak) (a C t:Addr) (oe:Obj) (vs:Array Value) (ex:Ex) (G:Gp),Inv X pins σ H s->jK X.K H G->s.heap.get? a=some oe->oe.cls=.ref C->oe.data=.fields vs->vs[0]?=some (.ref t)->vs[1]?=some .none->H a=none->X.gS.heap.get? a=none->X.mg ex.cls=some (.ref C)->PB X.K H ex.rh oe.dict->E ex G->X.xe (.ref a) s
 pass:∀ (pins:List (Addr×Obj)) (σ:L2.St) (H:Hp) (s s':ak) (e:Value),Inv X pins σ H s->yb X.prog X.w X.stack H s (Ye X.K X.mg E) e s'->X.xe e s'
theorem Lk.none{X:Cx}{E:kC}(h:∀ ex G,¬ E ex G):Lk X E where
 made:=fun _ _ _ _ _ _ _ _ ex _ _ _ _ _ z _=>absurd z (h ex _)
 LC:=fun _ _ _ _ _ _ _ _ _ ex _ _ _ _ _ _ _ _ _ _ _ _ z=>absurd z (h ex _)
 pass:=fun _ _ _ _ _ _ _ hc=>by
  obtain⟨_,_,_,_,_,_,_,_,_,_,_,_,_,_,_,_,hz⟩:=hc;obtain⟨ex,_,_,_,_,_,z,_⟩:=hz;exact absurd z (h ex _)
inductive nF (X:Cx) (pins:List (Addr×Obj)) (σ:L2.St) (H:Hp) (G:Gp) (Q:DK) (u:Value) (s':ak):Prop
 | mk (v:V) (H':Hp) (d:D) (G':Gp) (i:Inv X pins σ H' s') (m:Mv X.K H G H' G') (r:RelV v u) (rd:cb X.K H' v d) (q:Q d G'):nF X pins σ H G Q u s'
inductive SI (X:Cx) (pins:List (Addr×Obj)) (σ:L2.St) (H:Hp) (G:Gp) (Q:Bool->Gp->Prop) (b:Bool) (s':ak):Prop
 | mk (H':Hp) (G':Gp) (i:Inv X pins σ H' s') (m:Mv X.K H G H' G') (q:Q b G'):SI X pins σ H G Q b s'
inductive Z3 (X:Cx) (pins:List (Addr×Obj)) (σ:L2.St) (H:Hp) (G:Gp) (Q:List D->Gp->Prop) (us:List Value) (s':ak):Prop
 | mk (vs:List V) (H':Hp) (ds:List D) (G':Gp) (i:Inv X pins σ H' s') (m:Mv X.K H G H' G') (r:Vals vs us) (rd:aR X.K H' vs ds) (q:Q ds G'):Z3 X pins σ H G Q us s'
inductive VZ (X:Cx) (pins:List (Addr×Obj)) (H:Hp) (G:Gp) (P:hV->Gp->Prop) (s':ak):Prop
 | mk (iP:L2.St) (H':Hp) (mR:hV) (G':Gp) (i:I2 X pins iP H' mR G' s') (m:Mv X.K H G H' G') (q:P mR G'):VZ X pins H G P s'
inductive ZU (X:Cx) (pins:List (Addr×Obj)) (H:Hp) (G:Gp) (P:D->Gp->Prop) (u:Value) (s':ak):Prop
 | mk (v:V) (iP:L2.St) (H':Hp) (d:D) (G':Gp) (i:Inv X pins iP H' s') (m:Mv X.K H G H' G') (r:RelV v u) (rd:cb X.K H' v d) (q:P d G'):ZU X pins H G P u s'
noncomputable def Pu(X:Cx)(pins:List (Addr×Obj))(H:Hp)(G:Gp)(D:kR)(f:Flow)(s':ak):Prop :=
 match f with
 | .next=>VZ X pins H G D.nx s'
 | .brk=>VZ X pins H G D.bk s'
 | .cont=>VZ X pins H G D.ct s'
 | .ret u=>ZU X pins H G D.rt u s'
noncomputable def gm(X:Cx)(e:Expr)(t:fx):Prop :=
 ∀ (E:kC) (pins:List (Addr×Obj)) (s:ak) (σ:L2.St) (H:Hp) (τ:hV) (G:Gp) (Q:DK),Lk X E->I2 X pins σ H τ G s->t E τ G Q->wpAny (model X.prog X.w) X.A (eval e X.env) (nF X pins σ H G Q) X.xe s
noncomputable def B7(X:Cx)(e:Expr)(t:wt):Prop :=
 ∀ (E:kC) (pins:List (Addr×Obj)) (s:ak) (σ:L2.St) (H:Hp) (τ:hV) (G:Gp) (Q:Bool->Gp->Prop),Lk X E->I2 X pins σ H τ G s->t E τ G Q->wpAny (model X.prog X.w) X.A (isTrue e X.env (eval e X.env)) (SI X pins σ H G Q) X.xe s
noncomputable def Gn(X:Cx)(e:Expr)(t:wt):Prop :=
 ∀ (wh:Sem Value) (E:kC) (pins:List (Addr×Obj)) (s:ak) (σ:L2.St) (H:Hp) (τ:hV) (G:Gp) (Q:Bool->Gp->Prop),Lk X E->I2 X pins σ H τ G s->t E τ G Q->wpAny (model X.prog X.w) X.A (isTrue e X.env wh) (SI X pins σ H G Q) X.xe s
noncomputable def BR(X:Cx)(es:List Expr)(t:wu):Prop :=
 ∀ (pos:Pos) (E:kC) (pins:List (Addr×Obj)) (s:ak) (σ:L2.St) (H:Hp) (τ:hV) (G:Gp) (Q:List D->Gp->Prop),Lk X E->I2 X pins σ H τ G s->t E τ G Q->wpAny (model X.prog X.w) X.A (rG (gP pos (a9 es X.env))) (Z3 X pins σ H G Q) X.xe s
noncomputable def B8(X:Cx)(st:Stmt)(t:i6):Prop :=
 ∀ (E:kC) (pins:List (Addr×Obj)) (s:ak) (σ:L2.St) (H:Hp) (τ:hV) (G:Gp) (D:kR),Lk X E->I2 X pins σ H τ G s->t E D τ G->wpAny (model X.prog X.w) X.A (exec st X.env) (Pu X pins H G D) X.xe s
noncomputable def rj(X:Cx)(st:List Stmt)(t:i6):Prop :=
 ∀ (E:kC) (pins:List (Addr×Obj)) (s:ak) (σ:L2.St) (H:Hp) (τ:hV) (G:Gp) (D:kR),Lk X E->I2 X pins σ H τ G s->t E D τ G->wpAny (model X.prog X.w) X.A (execs st X.env) (Pu X pins H G D) X.xe s
theorem Pu.trans{X:Cx}{pins:List (Addr×Obj)}{H H1:Hp}{G G1:Gp}{D:kR}{f:Flow}{s':ak}(m:Mv X.K H G H1 G1)(h:Pu X pins H1 G1 D f s'):Pu X pins H G D f s':=by
 cases f with
 | next=>obtain⟨iP,H',mR,G',I,m',q⟩:=h; exact⟨iP,H',mR,G',I,m.trans m',q⟩
 | brk=>obtain⟨iP,H',mR,G',I,m',q⟩:=h; exact⟨iP,H',mR,G',I,m.trans m',q⟩
 | cont=>obtain⟨iP,H',mR,G',I,m',q⟩:=h; exact⟨iP,H',mR,G',I,m.trans m',q⟩
 | ret u=>obtain⟨v,iP,H',d,G',I,m',r,rd,q⟩:=h; exact⟨v,iP,H',d,G',I,m.trans m',r,rd,q⟩
section
variable {X:Cx} {a b c:Expr} {ta tb tc:fx} {pos:Pos}
theorem jn{pins:List (Addr×Obj)}{σ:L2.St}{H:Hp}{τ:hV}{G:Gp}{s:ak}{E:kC}{R:DK}{Q:Value->ak->Prop}(ha:gm X a ta)(hE:Lk X E)(I:I2 X pins σ H τ G s)(h:ta E τ G R)
  (k:∀ v H1 d G1 u s1,I2 X pins σ H1 τ G1 s1->Mv X.K H G H1 G1->RelV v u->cb X.K H1 v d->R d G1->Q u s1):wpAny (model X.prog X.w) X.A (eval a X.env) Q X.xe s :=
 fy (ha E pins s σ H τ G R hE I h) (by rintro u s1 ⟨v,H1,d,G1,I1,m,r,rd,q⟩; exact k v H1 d G1 u s1 (I.mv I1 m) m r rd q)
theorem nF.trans{pins:List (Addr×Obj)}{σ:L2.St}{H H1:Hp}{G G1:Gp}{Q:DK}{u:Value}{s':ak}(m:Mv X.K H G H1 G1)(h:nF X pins σ H1 G1 Q u s'):nF X pins σ H G Q u s':=by
 obtain⟨v,H',d,G',I,m',r,rd,q⟩:=h;exact⟨v,H',d,G',I,m.trans m',r,rd,q⟩
theorem SI.trans{pins:List (Addr×Obj)}{σ:L2.St}{H H1:Hp}{G G1:Gp}{Q:Bool->Gp->Prop}{u:Bool}{s':ak}(m:Mv X.K H G H1 G1)(h:SI X pins σ H1 G1 Q u s'):SI X pins σ H G Q u s':=by
 obtain⟨H',G',I,m',r⟩:=h;exact⟨H',G',I,m.trans m',r⟩
theorem OE {i:Nat} {x:Str} (hN:X.N[i]?=some x) (hv:Vc X.env.scope x) (hd:autoParam ((x == ("__debug__" : Str))=false) Ad._auto_1) (B5:autoParam ((x == ("__classdict__" : Str))=false) Ad._auto_1):gm X (.Name x pos) (ay i):=by
 intro E pins s σ H τ G Q hE I h;unfold ay at h;split at h
 ·rename_i d e;obtain⟨v,h1,h2⟩:=I.st.at' i d e;exact fy (Lq hN hv hd B5 pins s σ H (fun v' H'=>v'=v/\H'=H) I.inv ⟨v,h1,rfl,rfl⟩) fun u s1 B4=>by
   obtain⟨v',H',I1,r,e1,e2⟩:=B4;subst e1; subst e2;exact⟨_,_,d,G,I1,.refl I.ab,r,h2,h⟩
 ·exact h.elim
theorem ng{e:Expr}{v:V}{d:D}(h:PE X e (tC v))(r:∀ K H,cb K H v d):gm X e (dC d):=by
 intro E pins s σ H τ G Q hE I hq;exact fy (h pins s σ H (fun v' H'=>v'=v/\H'=H) I.inv ⟨rfl,rfl⟩) fun u s1 hp1=>by
  obtain⟨v',H',I1,rr,e1,e2⟩:=hp1;subst e1; subst e2;exact⟨_,_,d,G,I1,.refl I.ab,rr,r _ _,hq⟩
theorem aA{i j}:gm X (.Constant (.int i) j pos) (dC (.int i)):=ng QS fun _ _=>.int i
noncomputable def mf(X:Cx)(f:Value->Value->Sem Value)(r:yn):Prop :=
 ∀ (pins:List (Addr×Obj)) (s:ak) (σ:L2.St) (H:Hp) (G:Gp) (x y:V) (dx dy:D) (v u:Value) (Q:DK),Inv X pins σ H s->jK X.K H G->RelV x v->RelV y u->cb X.K H x dx->cb X.K H y dy->r dx dy G Q ->
  wpAny (model X.prog X.w) X.A (f v u) (nF X pins σ H G Q) X.xe s
noncomputable def Vd(X:Cx)(f:Value->Sem Value)(r:D->Gp->DK->Prop):Prop :=
 ∀ (pins:List (Addr×Obj)) (s:ak) (σ:L2.St) (H:Hp) (G:Gp) (x:V) (dx:D) (v:Value) (Q:DK),Inv X pins σ H s->jK X.K H G->RelV x v->cb X.K H x dx->r dx G Q ->
  wpAny (model X.prog X.w) X.A (f v) (nF X pins σ H G Q) X.xe s
noncomputable def oR(X:Cx)(f:Value)(r:List D->Gp->DK->Prop):Prop :=
 ∀ (pins:List (Addr×Obj)) (s:ak) (σ:L2.St) (H:Hp) (G:Gp) (xs:List V) (ds:List D) (us:List Value) (Q:DK),Inv X pins σ H s->jK X.K H G->Vals xs us->aR X.K H xs ds->r ds G Q ->
  wpAny (model X.prog X.w) X.A (call f us) (nF X pins σ H G Q) X.xe s
noncomputable abbrev x6(K:ag)(H:Hp)(G:Gp)(Q:DK):VK:=fun v H'=>∃ d G',Mv K H G H' G'/\cb K H' v d/\Q d G'
theorem nF.of{pins:List (Addr×Obj)}{σ:L2.St}{H:Hp}{G:Gp}{Q:DK}{u:Value}{s':ak}(h:EP X pins σ (x6 X.K H G Q) u s'):nF X pins σ H G Q u s':=by
 obtain⟨v,H',I,r,d,G',m,rd,q⟩:=h;exact⟨v,H',d,G',I,m,r,rd,q⟩
theorem M9(ha:gm X a ta)(hb:gm X b tb){E:kC}{pins:List (Addr×Obj)}{s:ak}{σ:L2.St}{H:Hp}{τ:hV}{G:Gp}{R:D->D->Gp->Prop}(hE:Lk X E)(I:I2 X pins σ H τ G s)
  (h:ta E τ G fun x G1=>tb E τ G1 fun y G2=>R x y G2) {Q:Value->ak->Prop} {f:Value->Value->Sem Value}
  (hf:∀ v u s2 x y dx dy H2 G2,I2 X pins σ H2 τ G2 s2->Mv X.K H G H2 G2->RelV x v->RelV y u->cb X.K H2 x dx->cb X.K H2 y dy->R dx dy G2->wpAny (model X.prog X.w) X.A (f v u) Q X.xe s2) :
  wpAny (model X.prog X.w) X.A (eval a X.env) (fun v eV=>wpAny (model X.prog X.w) X.A (eval b X.env) (fun u iQ=>wpAny (model X.prog X.w) X.A (f v u) Q X.xe iQ) X.xe eV) X.xe s:=by
 refine jn ha hE I h fun x H1 dx G1 v s1 I1 m1 r1 jR q1=>?_;refine jn hb hE I1 q1 fun y H2 dy G2 u s2 iN m2 r2 AS q2=>?_;exact hf v u s2 x y dx dy H2 G2 iN (m1.trans m2) r1 r2 (jR.mono (m2.kp I1.ab)) AS q2
theorem bQ{op:Operator}{r:yn}(ho:mf X (gO op) r)(ha:gm X a ta)(hb:gm X b tb):gm X (.BinOp a op b pos) (aQ r ta tb):=by
 intro E pins s σ H τ G Q hE I h;exact wpAny_BinOp (M9 ha hb hE I h fun v u s2 x y dx dy H2 G2 iN m rx ry dX dY q=>fy (ho pins s2 σ H2 G2 x y dx dy v u Q iN.inv iN.ab rx ry dX dY q) fun _ _ z=>z.trans m)
theorem E3{op:UnaryOp}{r:D->Gp->DK->Prop}(ho:Vd X (unaryOp op) r)(ha:gm X a ta):gm X (.UnaryOp op a pos) (ym r ta):=by
 intro E pins s σ H τ G Q hE I h;exact UnaryOp_ (jn ha hE I h fun x H1 dx G1 v s1 I1 m1 r1 jR q1=>fy (ho pins s1 σ H1 G1 x dx v Q I1.inv I1.ab r1 jR q1) fun _ _ z=>z.trans m1)
theorem sX{op:CmpOp}{r:yn}(ho:mf X (dA op) r)(ha:gm X a ta)(hb:gm X b tb)(hm:behindInMarks op b=false):gm X (.Compare a [op] [b] pos) (aQ r ta tb):=by
 intro E pins s σ H τ G Q hE I h;exact wpAny_Compare1 (M9 ha hb hE I h fun v u s2 x y dx dy H2 G2 iN m rx ry dX dY q=>fy (ho pins s2 σ H2 G2 x y dx dy v u Q iN.inv iN.ab rx ry dX dY q) fun _ _ z=>z.trans m) hm
end
theorem S7{K:ag}{H:Hp}{G:Gp}{x:V}{d:D}{k:Bool}(ab:jK K H G)(r:cb K H x d)(e:D7 d G=some k):(∃ p,x=.ref p/\Rd H p (.dT [])/\k=false)\/(∃ p kv,x=.ref p/\Rd H p (.dK kv)/\k=!kv.isEmpty)\/Sb K x H k:=by
 have MR:∀ aS:List (D×D),(if (aS.all fun p=>fJ p.1)=true then some (!aS.isEmpty) else none)=some k->∀ p,((∃ kv,Rd H p (.dK kv)/\nJ K H kv aS)\/∃ kv,Rd H p (.dT kv)/\oQ K H kv aS) ->
   (∃ p',V.ref p=.ref p'/\Rd H p' (.dT [])/\k=false)\/(∃ p' kv,V.ref p=.ref p'/\Rd H p' (.dK kv)/\k=!kv.isEmpty)\/Sb K (.ref p) H k:=by
  intro aS e p z;by_cases ha:(aS.all fun p=>fJ p.1)=true
  ·rw [if_pos ha] at e;cases e;rcases z with ⟨kv,hv,rs⟩ | ⟨kv,hv,rs⟩
   ·right; left;refine⟨p,kv,rfl,hv,?_⟩;cases rs <;> rfl
   ·left;cases rs with
    | nil=>exact⟨p,rfl,hv,rfl⟩
    | cons _ _=>simp [fJ] at ha
  ·rw [if_neg ha] at e; cases e
 cases r with
 | cy=>right; right; cases e; rfl
 | bl b=>right; right; cases e; rfl
 | int i=>right; right; cases e; rfl
 | str y =>
  right; right;unfold D7 at e;dsimp only at e;by_cases h:y.length<=SZ
  ·rw [if_pos h] at e; cases e; exact⟨by rw [bN]; exact h,rfl⟩
  ·rw [if_neg h] at e; cases e
 | tup h rs =>
  right; right;cases e;refine .inr (.inl ⟨_,.of h,?_⟩);cases rs <;> rfl
 | eL h rs =>
  right; right;cases e;refine .inl ⟨_,h.sq,?_⟩;cases rs <;> rfl
 | qY h rs=>exact MR _ e _ (.inl ⟨_,.inr ⟨_,h⟩,rs⟩)
 | qX h rs=>exact MR _ e _ (.inr ⟨_,.inr ⟨_,h⟩,rs⟩)
 | exc h=>simp [D7] at e
 | uj h _=>simp [D7] at e
 | ze _ _ _ _=>simp [D7] at e
 | ref a =>
  unfold D7 at e;dsimp only at e;cases q:G a with
  | none=>rw [q] at e; cases e
  | some g =>
   rw [q] at e;have z:=ab a g q;cases g with
   | lst ds =>
    right; right;obtain⟨vs,hv,rs⟩:=z;cases e;refine .inl ⟨vs,.of hv,?_⟩;cases rs <;> rfl
   | ins _ _=>cases e
   | HE _=>cases e
   | kI aS =>
    refine MR aS e a ?_;rcases z with ⟨kv,hv,rs⟩ | ⟨kv,hv,rs⟩
    ·exact .inl ⟨kv,.inl hv,rs⟩
    ·exact .inr ⟨kv,.inl hv,rs⟩
section
variable {X:Cx} {a b c:Expr} {ta tb tc:fx} {pos:Pos}
noncomputable def Vf(X:Cx):Prop:=∀ (pins:List (Addr×Obj)) (s:ak) (σ:L2.St) (H:Hp) (G:Gp) (x:V) (d:D) (v:Value) (k:Bool) (Q:Bool->ak->Prop),Inv X pins σ H s->jK X.K H G->RelV x v->cb X.K H x d->D7 d G=some k ->
  (∀ s',Inv X pins σ H s'->Q k s')->wpAny (model X.prog X.w) X.A (truthy v) Q X.xe s
theorem KI:Vf X:=by
 intro pins s σ H G x d v k Q I ab rx rd e q;rcases S7 ab rd e with ⟨p,rfl,hv,hk⟩ | ⟨p,kv,rfl,hv,hk⟩ | h
 ·obtain⟨z,hS,xs,rel,o,es,ep,ho,hx,C9,hl,nd⟩:=hv.ok I.ck;have Ss:xs=[]:=by cases rel; rfl
  subst Ss;have he:es=#[]:=by simpa using hl
  subst he;cases rx;have dd:s.heap.DictOf (fK X.prog X.w) p []:=⟨o,#[],ep,ho,hx,C9,(fun _ h=>by simp at h),.nil,fM⟩;refine Ee hS dd (by simp) ?_;subst hk;exact q _ (I.tok _)
 ·cases rx;subst hk;exact Ph I hv q
 ·exact fy (Qu pins s σ H x v (fun k' H'=>k'=k/\H'=H) I rx ⟨k,h,rfl,rfl⟩) fun k' s' B4=>by
   obtain⟨H',I',e1,e2⟩:=B4;subst e1; subst e2; exact q s' I'
theorem fO(ha:gm X a ta)(he:autoParam (∀ whole,isTrue a X.env whole=(do let v ← whole; standAt a.pos; Ej [v] (truthy v))) Ai._auto_1):B7 X a (ez ta):=by
 intro E pins s σ H τ G Q hE I h;refine isTrue_plain (jn ha hE I h fun x H1 d G1 v s1 I1 m1 r1 jR q1=>?_) (he _)
 try dsimp only at q1
 split at q1
 ·rename_i k e;exact KI pins s1 σ H1 G1 x d v k _ I1.inv I1.ab r1 jR e fun s' I'=>⟨H1,G1,I',m1,q1⟩
 ·exact q1.elim
theorem cB{op:CmpOp}{r:yn}(ho:mf X (dA op) r)(ha:gm X a ta)(hb:gm X b tb)(hm:behindInMarks op b=false):B7 X (.Compare a [op] [b] pos) (ez (aQ r ta tb)):=by
 intro E pins s σ H τ G Q hE I h;refine wpAny_isTrue_Compare1 (jn ha hE I h fun x H1 dx G1 v s1 I1 m1 r1 jR q1=>jn hb hE I1 q1 fun y H2 dy G2 u s2 iN m2 r2 AS q2 =>
  fy (ho pins s2 σ H2 G2 x y dx dy v u _ iN.inv iN.ab r1 r2 (jR.mono (m2.kp I1.ab)) AS q2) ?_) hm
 rintro c s3 ⟨z,H3,dz,G3,I3,m3,r3,To,q3⟩
 try dsimp only at q3
 split at q3
 ·rename_i k e;exact KI pins s3 σ H3 G3 z dz c k _ I3 m3.ab r3 To e fun s' I'=>⟨H3,G3,I',(m1.trans m2).trans m3,q3⟩
 ·exact q3.elim
variable {tA tB:wt} {rest:List Expr}
theorem Gn.pt{e:Expr}{t:wt}(h:Gn X e t):B7 X e t:=fun E pins s σ H τ G Q hE I q=>h _ E pins s σ H τ G Q hE I q
theorem KN{pins:List (Addr×Obj)}{σ:L2.St}{H:Hp}{τ:hV}{G:Gp}{s:ak}{E:kC}{R:Bool->Gp->Prop}{Q:Bool->ak->Prop}(ha:B7 X a tA)(hE:Lk X E)(I:I2 X pins σ H τ G s)(h:tA E τ G R)
  (k:∀ c H1 G1 s1,I2 X pins σ H1 τ G1 s1->Mv X.K H G H1 G1->R c G1->Q c s1):wpAny (model X.prog X.w) X.A (isTrue a X.env (eval a X.env)) Q X.xe s :=
 fy (ha E pins s σ H τ G R hE I h) (by rintro c s1 ⟨H1,G1,I1,m,q⟩; exact k c H1 G1 s1 (I.mv I1 m) m q)
theorem Lf(ha:B7 X a tA):Gn X (.BoolOp .And [a] pos) tA:=by
 intro wh E pins s σ H τ G Q hE I h;refine isTrue_and (fy (ha E pins s σ H τ G Q hE I h) fun c s1 e=>?_);cases c with
 | true=>exact isTrue_and_nil e
 | false=>exact e
theorem qH(ha:B7 X a tA):Gn X (.BoolOp .Or [a] pos) tA:=by
 intro wh E pins s σ H τ G Q hE I h;refine isTrue_or (fy (ha E pins s σ H τ G Q hE I h) fun c s1 e=>?_);cases c with
 | false=>exact isTrue_or_nil e
 | true=>exact e
theorem Ov(ha:B7 X a tA)(hb:Gn X (.BoolOp .And (b :: rest) pos) tB):Gn X (.BoolOp .And (a :: b :: rest) pos) (BG tA tB):=by
 intro wh E pins s σ H τ G Q hE I h;refine isTrue_and (KN ha hE I h fun c H1 G1 s1 I1 m1 q1=>?_);cases c with
 | true=>exact fy (hb wh E pins s1 σ H1 τ G1 Q hE I1 (by simpa using q1)) fun _ _ z=>z.trans m1
 | false=>exact⟨H1,G1,I1.inv,m1,by simpa using q1⟩
theorem pY(ha:B7 X a tA)(hb:Gn X (.BoolOp .Or (b :: rest) pos) tB):Gn X (.BoolOp .Or (a :: b :: rest) pos) (zK tA tB):=by
 intro wh E pins s σ H τ G Q hE I h;refine isTrue_or (KN ha hE I h fun c H1 G1 s1 I1 m1 q1=>?_);cases c with
 | false=>exact fy (hb wh E pins s1 σ H1 τ G1 Q hE I1 (by simpa using q1)) fun _ _ z=>z.trans m1
 | true=>exact⟨H1,G1,I1.inv,m1,by simpa using q1⟩
theorem jv(ha:B7 X a tA):B7 X (.UnaryOp .Not a pos) (jV tA):=by
 intro E pins s σ H τ G Q hE I h;exact isTrue_not (fy (ha E pins s σ H τ G (fun c H1=>Q (!c) H1) hE I h) (by rintro c s' ⟨H',G',i,m,q⟩; exact⟨H',G',i,m,q⟩))
theorem AZ{op}{t:fx}(h:gm X a t):gm X (.BoolOp op [a] pos) t:=fun E pins s σ H τ G Q hE I hw=>BoolOp_one (h E pins s σ H τ G Q hE I hw)
theorem v3(ha:gm X a ta)(hb:gm X (.BoolOp .And (b :: rest) pos) tb):gm X (.BoolOp .And (a :: b :: rest) pos) (xW ta tb):=by
 intro E pins s σ H τ G Q hE I h;refine BoolOp_and (jn ha hE I h fun x H1 d G1 v s1 I1 m1 r1 jR q1=>?_)
 try dsimp only at q1
 split at q1
 ·rename_i e;exact KI pins s1 σ H1 G1 x d v true _ I1.inv I1.ab r1 jR e fun s' I'=>fy (hb E pins s' σ H1 τ G1 Q hE ⟨I',I1.st,I1.ab⟩ q1) fun _ _ z=>z.trans m1
 ·rename_i e;exact KI pins s1 σ H1 G1 x d v false _ I1.inv I1.ab r1 jR e fun s' I'=>⟨x,H1,d,G1,I',m1,r1,jR,q1⟩
 ·exact q1.elim
theorem OF(ha:gm X a ta):gm X (.UnaryOp .Not a pos) (MX ta):=by
 intro E pins s σ H τ G Q hE I h;refine UnaryOp_ (jn ha hE I h fun x H1 d G1 v s1 I1 m1 r1 jR q1=>?_)
 try dsimp only at q1
 split at q1
 ·rename_i k e;exact not_of (KI pins s1 σ H1 G1 x d v k _ I1.inv I1.ab r1 jR e fun s' I'=>⟨.bl (!k),H1,.bl (!k),G1,I',m1,rfl,.bl _,q1⟩)
 ·exact q1.elim
variable {e:Expr} {es:List Expr} {te:fx} {t:wu}
theorem aE:BR X [] aU:=fun _ _ _ _ _ H _ G Q _ I h=>kW ⟨[],H,[],G,I.inv,.refl I.ab,.nil,.nil,h⟩
theorem ao(ha:gm X e te)(hr:BR X es t)(hs:autoParam (a9 (e :: es) X.env=(false,eval e X.env) :: a9 es X.env) Ar._auto_1):BR X (e :: es) (aw te t):=by
 intro pos E pins s σ H τ G Q hE I h;rw [hs];show wpAny _ _ (rG ((false,eval e X.env) :: gP pos (a9 es X.env))) _ _ s;refine dS (jn ha hE I h fun x H1 d G1 u s1 I1 m1 r1 jR q1=>?_);exact fy (hr pos E pins s1 σ H1 τ G1 _ hE I1 q1) (by rintro us s2 ⟨xs,H2,ds,G2,iN,m2,r2,AS,q2⟩; exact⟨x :: xs,H2,d :: ds,G2,iN,m1.trans m2,.cons r1 r2,.cons (jR.mono (m2.kp I1.ab)) AS,q2⟩)
theorem wK{pins:List (Addr×Obj)}{σ:L2.St}{H:Hp}{τ:hV}{G:Gp}{s:ak}{E:kC}{R:List D->Gp->Prop}{Q:List Value->ak->Prop}(ha:BR X es t)(pos:Pos)(hE:Lk X E)(I:I2 X pins σ H τ G s)(h:t E τ G R)
  (k:∀ vs H1 ds G1 us s1,I2 X pins σ H1 τ G1 s1->Mv X.K H G H1 G1->Vals vs us->aR X.K H1 vs ds->R ds G1->Q us s1):wpAny (model X.prog X.w) X.A (rG (gP pos (a9 es X.env))) Q X.xe s :=
 fy (ha pos E pins s σ H τ G R hE I h) (by rintro us s1 ⟨vs,H1,ds,G1,I1,m,r,rd,q⟩; exact k vs H1 ds G1 us s1 (I.mv I1 m) m r rd q)
theorem cP{x1}(h:BR X es t):gm X (.Tuple es x1 pos) (eP t):=by
 intro E pins s σ H τ G Q hE I hq;refine wpAny_Tuple_spliced (wK h pos hE I hq ?_);rintro xs H1 ds G1 us s1 I1 m1 r rd ⟨z,q⟩;refine⟨by rw [<-r.length,rd.length,bN]; exact z,?_⟩;have hf:H1 s1.heap.objs.size=none:=I1.inv.ck.fresh (aC _);refine⟨.ref s1.heap.objs.size,upd H1 s1.heap.objs.size (.tup xs),.tup ds,G1,I1.inv.laid (t':=s1.toks) (fun b u e=>ax _ e) (aC _) ?_,m1.trans (.NA I1.ab hf),rfl,?_,q⟩
 ·exact⟨by rw [rd.length,bN]; exact z,us,r,⟨_,bh _ rfl,rfl,_,rfl⟩⟩
 ·exact .tup cj (rd.mono (.new hf))
theorem iZ(h:BR X es t):gm X (.List es pos) (i9 t):=by
 intro E pins s σ H τ G Q hE I hq;refine wpAny_List_spliced (wK h pos hE I hq ?_);rintro xs H1 ds G1 us s1 I1 m1 r rd ⟨z,q⟩;refine⟨by rw [<-r.length,rd.length,bN]; exact z,?_⟩;have hf:H1 s1.heap.objs.size=none:=I1.inv.ck.fresh (aC _);refine⟨.ref s1.heap.objs.size,upd H1 s1.heap.objs.size (.lst xs),.ref _,dO G1 s1.heap.objs.size (.lst ds),I1.inv.laid (t':=s1.toks) (fun b u e=>ax _ e) (aC _) ?_,m1.trans (.Ba I1.ab hf rd),rfl,.ref _,q _ (I1.ab.free hf)⟩;exact⟨by rw [rd.length,bN]; exact z,us,0,r,bh _ rfl⟩
noncomputable def gf(K:ag)(sp:pD):Sp:=fun vs H Q _=>∃ ds G Q2,aR K H vs ds/\jK K H G/\sp ds G Q2 (fun _ _=>False)/\∀ d G' v H',Q2 d G'->Mv K H G H' G'->cb K H' v d->Q v H'
variable {k:Nat} {f:Addr} {fd:aL} {ps:List Str} {sp:pD} {x:Str} {p:Pos} {r:List D->Gp->DK->Prop} {id:String}
theorem Lv(F:gi X.prog X.w X.K X.mg X.base kr k f fd ps (gf X.K sp))(hr:iC k X.A)(hg:Gl X x)(hm:X.mg x=some (.ref f))(hk:gv X.K (.ref f)=true)(hb:Binds X.K fd ps [])
  (ha:BR X (e :: es) t) (yC:autoParam ((x == ("__debug__" : Str))=false) Ad._auto_1) (he:autoParam (a9 (e :: es) X.env=(false,eval e X.env) :: a9 es X.env) Ar._auto_1) (vn:autoParam ((gP pos (a9 es X.env)).any (·.1)=false) Ar._auto_1) :
  gm X (.Call (.Name x p) (e :: es) [] pos) (fun E τ G Q=>cS (fun ds G1 Q1 _=>sp ds G1 Q1 fun _ _=>False) t E τ G Q):=by
 intro E pins s σ H τ G Q hE I h;refine du (mx I.inv hg hm ?_ yC);refine nG (h₀:=X.base) I.inv.ok.mod.Ji hk (wK ha pos hE I h fun vs H1 ds G1 us s1 I1 m1 r rd q=>⟨I1.inv.qg,?_⟩) he vn;refine fy (K6 F hr hb .nil Tw I1.inv r (Q:=x6 X.K H1 G1 Q) ?_) fun _ _ z=>(nF.of z).trans m1;rw [bL];exact⟨ds,G1,Q,rd,I1.ab,q,fun d G' v H' q' m' J2=>⟨d,G',m',J2,q'⟩⟩
theorem cN (hc:oR X (.builtin id) r) (hg:Gl X x) (hm:X.mg x=none) (hv:dj x=some (.builtin id)) (ha:BR X (e :: es) t) (hn:autoParam (x≠"__name__") Ad._auto_1) (yC:autoParam ((x == ("__debug__" : Str))=false) Ad._auto_1)
  (he:autoParam (a9 (e :: es) X.env=(false,eval e X.env) :: a9 es X.env) Ar._auto_1) (vn:autoParam ((gP pos (a9 es X.env)).any (·.1)=false) Ar._auto_1):gm X (.Call (.Name x p) (e :: es) [] pos) (jN r t):=by
 intro E pins s σ H τ G Q hE I h;refine du (lM I.inv hg hm hv ?_ hn yC);exact dF (wK ha pos hE I h fun vs H1 ds G1 us s1 I1 m1 r1 jR q1=>fy (hc pins s1 σ H1 G1 vs ds us Q I1.inv I1.ab r1 jR q1) fun _ _ z=>z.trans m1) he vn
variable {st:Stmt} {YE:List Stmt} {u v:i6}
theorem bF:rj X [] bR:=fun _ _ _ σ H τ G _ _ I h=>ji ⟨σ,H,τ,G,I,.refl I.ab,h⟩
theorem aF(h1:B8 X st u)(h2:rj X YE v):rj X (st :: YE) (bX u v):=by
 intro E pins s σ H τ G D hE I h;refine nK (fy (h1 E pins s σ H τ G { D with nx:=v E D } hE I h) fun f s1 q=>?_);cases f with
 | next =>
  obtain⟨iP,H',mR,G',I',m,q⟩:=q;exact fy (h2 E pins s1 iP H' mR G' D hE I' q) fun _ _ z=>z.trans m
 | ret v=>exact q
 | brk=>exact q
 | cont=>exact q
theorem aM(h1:B8 X st u):rj X [st] u:=by
 intro E pins s σ H τ G D hE I h;refine nK (fy (h1 E pins s σ H τ G D hE I h) fun f s1 q=>?_);cases f with
 | next=>exact ji q
 | ret v=>exact q
 | brk=>exact q
 | cont=>exact q
theorem bH(he:gm X e te):B8 X (.Return (some e) pos) (cu te):=by
 intro E pins s σ H τ G D hE I h;exact wpAny_Return_some (fy (he E pins s σ H τ G _ hE I h) (by rintro v s1 ⟨x,H1,d,G1,I1,m,r1,rd,q1⟩; exact⟨x,σ,H1,d,G1,I1,m,r1,rd,q1⟩))
theorem cG{sa sb:List Stmt}(hc:B7 X c tA)(ha:rj X sa u)(hb:rj X sb v):B8 X (.If c sa sb pos) (dg tA u v):=by
 intro E pins s σ H τ G D hE I h;refine wpAny_If (KN hc hE I h fun d H1 G1 s1 I1 m1 q1=>?_);cases d with
 | true=>exact fy (ha E pins s1 σ H1 τ G1 D hE I1 (by simpa using q1)) fun _ _ z=>z.trans m1
 | false=>exact fy (hb E pins s1 σ H1 τ G1 D hE I1 (by simpa using q1)) fun _ _ z=>z.trans m1
noncomputable def Kb(X:Cx)(target:Expr)(t:yM):Prop :=
 ∀ (E:kC) (pins:List (Addr×Obj)) (s:ak) (σ:L2.St) (H:Hp) (τ:hV) (G:Gp) (w:V) (d:D) (u:Value) (Q:hV->Gp->Prop),Lk X E->I2 X pins σ H τ G s->RelV w u->cb X.K H w d->t E d τ G Q ->
  wpAny (model X.prog X.w) X.A (Kl target X.env u) (fun _ s'=>∃ iP H' mR G',I2 X pins iP H' mR G' s'/\Mv X.K H G H' G'/\Q mR G') X.xe s
noncomputable def Py(X:Cx)(ts:List Expr)(t:BQ):Prop :=
 ∀ (E:kC) (pins:List (Addr×Obj)) (s:ak) (σ:L2.St) (H:Hp) (τ:hV) (G:Gp) (ws:List V) (ds:List D) (us:List Value) (Q:hV->Gp->Prop),Lk X E->I2 X pins σ H τ G s->Vals ws us->aR X.K H ws ds->t E ds τ G Q ->
  wpAny (model X.prog X.w) X.A (assignInOrder ((yd ts X.env).map (·.2)) us) (fun _ s'=>∃ iP H' mR G',I2 X pins iP H' mR G' s'/\Mv X.K H G H' G'/\Q mR G') X.xe s
theorem Lp{i:Nat}{x:Str}(hN:X.N.Nodup)(hi:X.N[i]?=some x)(hx:Loc X.env.scope x)(hf:autoParam (X.fn x=true\/X.env.scope.names.lookup x=some .local) Ao._auto_1):Kb X (.Name x pos) (bb i):=by
 intro E pins s σ H τ G w d u Q hE I r rd h;exact wpAny_assign_Name (wL I.inv hN hi hx r (fun s' I'=>⟨_,H,_,G,⟨I',I.st.set i rd,I.ab⟩,.refl I.ab,h⟩) hf)
theorem Lo:Py X [] Mw:=by
 intro E pins s σ H τ G ws ds us Q hE I r rd h;unfold Mw at h;split at h
 ·have e:=rd.zero;subst e;cases r;exact assignInOrder_nil ⟨σ,H,τ,G,I,.refl I.ab,h⟩
 ·exact h.elim
theorem zm{t:yM}{u:BQ}(h1:Kb X e t)(h2:Py X es u)
  (hs:autoParam ((yd (e :: es) X.env).map (·.2)=Kl e X.env :: (yd es X.env).map (·.2)) Ar._auto_1):Py X (e :: es) (xG t u):=by
 intro E pins s σ H τ G ws ds us Q hE I r rd h;unfold xG at h;split at h
 ·cases rd with
  | cons jR AS =>
   cases r with
   | cons r1 r2 =>
    rw [hs];refine assignInOrder_cons (fy (h1 E pins s σ H τ G _ _ _ _ hE I r1 jR h) ?_);rintro _ s1 ⟨Vn,H1,rM,G1,I1,m1,q1⟩;exact fy (h2 E pins s1 Vn H1 rM G1 _ _ _ Q hE I1 r2 (AS.mono (m1.kp I.ab)) q1) (by rintro _ _ ⟨Wb,H2,vJ,G2,iN,m2,q2⟩; exact⟨Wb,H2,vJ,G2,iN,m1.trans m2,q2⟩)
 ·exact h.elim
theorem OC{k:Nat}{t:BQ}{n:Nat}(hc:X.calm=true)(h:Py X es t)(hgl:∀ E ds τ G Q,t E ds τ G Q->ds.length=n)
  (hn:autoParam ((yd es X.env).length=n) Ar._auto_1) (vO:autoParam ((yd es X.env).findIdx? (·.1)=none) Ar._auto_1):Kb X (.Tuple es k pos) (O7 t):=by
 intro E pins s σ H τ G w d u Q hE I r rd hw;unfold O7 at hw;split at hw
 ·cases rd with
  | tup hq rs =>
   cases r;obtain⟨a7,rv,ht,hz⟩:=I.inv.tuple (.of hq);refine assign_Tuple_tuple (I.inv.ok.hd hc) ht (by rw [hn,aJ,<-rv.length,rs.length]; exact(hgl _ _ _ _ _ hw).symm) vO fun h' hx=>?_;have I1:Inv X pins σ H { s with heap:=h' }:=I.inv.kept (t':=s.toks) fun b o e=>hx b o (bA (aK e)) e;exact h E pins _ σ H τ G _ _ _ Q hE ⟨I1,I.st,I.ab⟩ (by simpa using rv) rs hw
 ·exact hw.elim
theorem Mq:∀ E ds τ G Q,Mw E ds τ G Q->ds.length=0:=by
 intro E ds τ G Q h;cases ds with
 | nil=>rfl
 | cons _ _=>exact h.elim
theorem Ju{t:yM}{u:BQ}{n:Nat}(h:∀ E ds τ G Q,u E ds τ G Q->ds.length=n)(hm:∀ E d τ G (Q Q':hV->Gp->Prop),t E d τ G Q->(∀ mR G',Q mR G'->Q' mR G')->t E d τ G Q')(hx:∀ E d τ G,¬ t E d τ G fun _ _=>False) :
  ∀ E ds τ G Q,xG t u E ds τ G Q->ds.length=n+1:=by
 intro E ds τ G Q q;cases ds with
 | nil=>exact q.elim
 | cons d ds =>
  by_cases hl:ds.length=n
  ·rw [ah,hl]
  ·exact absurd (hm E d τ G _ (fun _ _=>False) q fun mR G' z=>hl (h _ _ _ _ _ z)) (hx E d τ G)
theorem AW{tg:Expr}{g:yM}(he:gm X e te)(hg:Kb X tg g)(hs:autoParam (swapsWithSole [tg] e pos.line X.env=pure false) Ar._auto_1)(hw:autoParam (swappedStores [tg] e X.env=pure none) Ar._auto_1)
  (h1:autoParam ((yd [tg] X.env).map (·.2)=[Kl tg X.env]) Ar._auto_1):B8 X (.Assign [tg] e pos) (cW te g):=by
 intro E pins s σ H τ G D hE I h;refine wpAny_Assign_stores (jn he hE I h fun x H1 d G1 v s1 I1 m1 r1 jR q1=>?_) hs hw;rw [h1];exact fy (hg E pins s1 σ H1 τ G1 x d v _ hE I1 r1 jR q1) (by rintro _ s2 ⟨Wb,H2,vJ,G2,iN,m2,q2⟩; exact⟨Wb,H2,vJ,G2,iN,m1.trans m2,q2⟩)
theorem Oz{i:Nat}{x:Str}{pos':Pos}(hN:X.N.Nodup)(hi:X.N[i]?=some x)(hx:Loc X.env.scope x)(he:gm X e te)(hs:autoParam (pF e (some (.Name x pos')) pos.line X.env=pure false) Ar._auto_1)(hf:autoParam (X.fn x=true\/X.env.scope.names.lookup x=some .local) Ao._auto_1) :
  B8 X (.Assign [.Name x pos'] e pos) (cW te (bb i)):=by
 intro E pins s σ H τ G D hE I h;refine wpAny_Assign_Name (jn he hE I h fun y H1 d G1 v s1 I1 m1 r1 jR q1=>?_) hs;exact wL I1.inv hN hi hx r1 (fun s2 iN=>⟨_,H1,_,G1,⟨iN,I1.st.set i jR,I1.ab⟩,m1,q1⟩) hf
theorem lL(he:gm X e te)(hs:autoParam (pF e none pos.line X.env=pure false) Ar._auto_1):B8 X (.Expr e pos) (iF te):=by
 intro E pins s σ H τ G D hE I h;exact wpAny_Expr_any (jn he hE I h fun y H1 d G1 v s1 I1 m1 r1 jR q1=>⟨σ,H1,τ,G1,I1,m1,q1⟩) I.inv.quiet hs
end
noncomputable def Qj(K:ag)(J:It)(H':Hp)(ds:List D)(ok:Gp->Prop):Prop :=
 ∀ i H1 G1,Kp H' H1->jK K H1 G1->ok G1->(∀ d,ds[i]?=some d->J.go i H1/\∀ x H2,J.YB i H1 x H2->cb K H2 x d/\Mv K H1 G1 H2 G1)/\(ds.length<=i->J.stop i H1)
inductive Gq (X:Cx) (pins:List (Addr×Obj)) (σ:L2.St) (tg:Expr) (H:Hp) (G:Gp) (R:List D->(Gp->Prop)->Gp->Prop) (P0:Value) (s2:ak):Prop
 | mk (it:Addr) (fp:List Addr) (tn:Nat->Heap->Prop) (J:It) (H':Hp) (G':Gp) (ds:List D) (ok:Gp->Prop) (e:P0=.ref it) (i:Inv X pins σ H' s2) (m:Mv X.K H G H' G') (T:Turn X.prog X.w X.K tg J fp it tn) (t0:tn 0 s2.heap) (f:∀ b∈fp,px X pins H' b)
  (wk:Qj X.K J H' ds ok) (q:R ds ok G'):Gq X pins σ tg H G R P0 s2
noncomputable def Px(X:Cx)(tg iter:Expr)(wi:Pt):Prop :=
 ∀ (E:kC) (pins:List (Addr×Obj)) (s:ak) (σ:L2.St) (H:Hp) (τ:hV) (G:Gp) (R:List D->(Gp->Prop)->Gp->Prop),Lk X E->I2 X pins σ H τ G s->wi E τ G R ->
  wpAny (model X.prog X.w) X.A (eval iter X.env) (fun v s1=>wpAny (model X.prog X.w) X.A (yT v) (Gq X pins σ tg H G R) X.xe s1) X.xe s
section
variable {X:Cx} {tg:Expr} {a b:Expr} {ta tb:fx} {pos p:Pos}
theorem Hl{pins:List (Addr×Obj)}{σ:L2.St}{H H1:Hp}{G G1:Gp}{s1:ak}{l:Addr}{vs:List V}{ds:List D}{ok:Gp->Prop}{R:List D->(Gp->Prop)->Gp->Prop}(I1:Inv X pins σ H1 s1)(m:Mv X.K H G H1 G1)(hq:t7 X.K H1 l vs)
  (hk:∀ H2 G2,Kp H1 H2->jK X.K H2 G2->ok G2->∃ ws,t7 X.K H2 l ws/\aR X.K H2 ws ds) (q:R ds ok G1):wpAny (model X.prog X.w) X.A (yT (.ref l)) (Gq X pins σ tg H G R) X.xe s1:=by
 obtain⟨a7,rv,pl,hz⟩:=I1.list hq;refine sk pl.isList ?_;refine⟨s1.heap.objs.size,[s1.heap.objs.size],_,_,H1,G1,ds,ok,rfl,I1.kept (t':=s1.toks) fun b o e=>ax _ e,m,Ir l _,⟨_,bh _ rfl,rfl,rfl⟩,fun b hb=>?_,fun i H2 G2 k ab o=>?_,q⟩
 ·have e:b=s1.heap.objs.size:=by simpa using hb
  subst e;exact I1.Jw (aC _) (I1.ck.fresh (aC _))
 ·obtain⟨ws,hw,rd⟩:=hk H2 G2 k ab o;refine⟨fun d hd=>?_,fun hl=>⟨ws,hw,by rw [rd.length]; exact hl⟩⟩;obtain⟨v,hv,r⟩:=rd.get hd;refine⟨⟨ws,v,hw,hv⟩,?_⟩;rintro x H3 ⟨e,y⟩;subst e;have:=y ws hw;rw [hv] at this;cases this;exact⟨r,.refl ab⟩
theorem Qt{pins:List (Addr×Obj)}{σ:L2.St}{H H1:Hp}{G G1:Gp}{s1:ak}{l:Addr}{vs:List V}{ds:List D}{R:List D->(Gp->Prop)->Gp->Prop}(I1:Inv X pins σ H1 s1)(m:Mv X.K H G H1 G1)(hq:x5 X.K H1 l vs)(rd:aR X.K H1 vs ds)
  (q:R ds (fun _=>True) G1):wpAny (model X.prog X.w) X.A (yT (.ref l)) (Gq X pins σ tg H G R) X.xe s1:=by
 obtain⟨a7,rv,pl,hz⟩:=I1.tuple hq;refine B9 (show s1.heap.IsTuple l a7.toArray from pl) ?_;refine⟨s1.heap.objs.size,[s1.heap.objs.size],_,_,H1,G1,ds,_,rfl,I1.kept (t':=s1.toks) fun b o e=>ax _ e,m,EL l _,⟨_,bh _ rfl,rfl,rfl⟩,fun b hb=>?_,fun i H2 G2 k ab _=>?_,q⟩
 ·have e:b=s1.heap.objs.size:=by simpa using hb
  subst e;exact I1.Jw (aC _) (I1.ck.fresh (aC _))
 ·have hw:=k.sqT hq;have AS:=rd.mono k;refine⟨fun d hd=>?_,fun hl=>⟨vs,hw,by rw [rd.length]; exact hl⟩⟩;obtain⟨v,hv,r⟩:=AS.get hd;refine⟨⟨vs,v,hw,hv⟩,?_⟩;rintro x H3 ⟨e,y⟩;subst e;have:=y vs hw;rw [hv] at this;cases this;exact⟨r,.refl ab⟩
theorem gK(ha:gm X a ta):Px X tg a (pb ta):=by
 intro E pins s σ H τ G R hE I h;refine jn ha hE I h fun x H1 d G1 v s1 I1 m1 r1 jR q1=>?_;cases jR with
 | tup hq rs=>cases r1; exact Qt I1.inv m1 (.of hq) rs q1
 | eL hq rs=>cases r1; exact Hl I1.inv m1 hq.sq (fun H2 G2 k ab _=>⟨_,(k.Sh hq).sq,rs.mono k⟩) q1
 | ref p =>
  cases r1;dsimp only at q1;split at q1
  ·rename_i ds e;obtain⟨vs,hv,rs⟩:=I1.ab.lst e;refine Hl I1.inv m1 (.of hv) (fun H2 G2 k ab o=>?_) q1;obtain⟨ws,hw,sN⟩:=ab.lst o;exact⟨ws,.of hw,sN⟩
  ·exact q1.elim
 | qY _ _=>exact q1.elim
 | qX _ _=>exact q1.elim
 | cy=>exact q1.elim
 | bl _=>exact q1.elim
 | int _=>exact q1.elim
 | str _=>exact q1.elim
 | exc _=>exact q1.elim
 | uj _ _=>exact q1.elim
 | ze _ _ _ _=>exact q1.elim
theorem QK{pins:List (Addr×Obj)}{σ:L2.St}{H H1:Hp}{G G1:Gp}{s:ak}{R:List D->(Gp->Prop)->Gp->Prop}{lo hi:Int}{t u v:Tok}{tk:Nat}(I:Inv X pins σ H1 s)(m:Mv X.K H G H1 G1)(h1:-(2 ^ 62)<=lo)(h2:lo < 2 ^ 62)(h3:-(2 ^ 62)<=hi)(h4:hi < 2 ^ 62)
  (q:R (kH lo (hi - lo).toNat) (fun _=>True) G1):wpAny (model X.prog X.w) X.A (yT (.ref s.heap.objs.size)) (Gq X pins σ tg H G R) X.xe { s with heap:=s.heap.push { cls:=.type "range",data:=.fields #[.int lo t,.int hi u,.int 1 v] },toks:=tk }:=by
 refine fy (Lb (tg:=tg) I h1 h2 h3 h4 (R:=fun J H'=>J=Yv lo (hi - lo).toNat/\H'=H1) ⟨rfl,rfl⟩) ?_;rintro P0 s2 ⟨it,fp,tn,J,H',e,iN,T,st,fo,eJ,eH⟩;subst eJ; subst eH;refine⟨it,fp,tn,_,H',G1,_,_,e,iN,m,T,st,fo,fun i H2 G2 k ab _=>⟨fun d hd=>?_,fun hl=>?_⟩,q⟩
 ·unfold kH at hd;rw [bO] at hd;cases J8:(cF (hi - lo).toNat)[i]? with
  | none=>rw [J8] at hd; cases hd
  | some j =>
   rw [J8] at hd;obtain⟨pf,ej⟩:=List.getElem?_eq_some_iff.mp J8;rw [gU] at pf;rw [o6] at ej;subst ej;cases hd;refine⟨pf,?_⟩;rintro x H3 ⟨e1,e2⟩;subst e1; subst e2;exact⟨.int _,.refl ab⟩
 ·unfold kH at hl;rw [aj,gU] at hl;exact hl
theorem w4 (hg:Gl X "range") (hm:X.mg "range" = none) (ha:gm X a ta) (hs:autoParam (a9 [a] X.env=[(false,eval a X.env)]) Ar._auto_1):Px X tg (.Call (.Name "range" p) [a] [] pos) (Hw ta):=by
 intro E pins s σ H τ G R hE I h;have hA:BR X [a] (aw ta aU):=ao ha aE hs;refine Call_ (lM I.inv hg hm boot_range (ib (wK hA pos hE I (R:=fun ds G1=>match ds with | [.int n]=>-(2 ^ 62)<=n/\n < 2 ^ 62/\R (kH 0 n.toNat) (fun _=>True) G1 | _=>False) ?_ fun vs H1 ds G1 us s1 I1 m1 r1 jR q1=>?_) hs rfl))
 ·show ta E τ G _;have e:(fun (x:D) (G1:Gp)=>match [x] with | [.int n]=>-(2 ^ 62)<=n/\n < 2 ^ 62/\R (kH 0 n.toNat) (fun _=>True) G1 | _=>False)=fun x G1=>match x with | .int n=>-(2 ^ 62)<=n/\n < 2 ^ 62/\R (kH 0 n.toNat) (fun _=>True) G1 | _=>False:=by
   funext x G1; cases x <;> rfl
  exact e ▸ h
 ·split at q1
  ·rename_i n;obtain⟨w,rfl,IF⟩:=jR.one;cases IF;obtain⟨u,rfl,ru⟩:=r1.one;obtain⟨t,rfl⟩:=ru;obtain⟨q1,q2,q⟩:=q1;exact call_range_1 (QK I1.inv m1 (by lia) (by lia) q1 q2 (by simpa using q))
  ·exact q1.elim
theorem iA{iter:Expr}{body:List Stmt}{wi:Pt}{g:yM}{t:i6}(hp:PassesOwn (model X.prog X.w) X.A X.env X.xe)(hc:X.calm=true)(hi:Px X tg iter wi)(hg:Kb X tg g)(hb:rj X body t)
  (hs:autoParam (∀ x,mE iter X.env x=pure x) Ai._auto_1):B8 X (.For tg iter body [] pos) (jW wi g t):=by
 intro E pins s σ H τ G D hE I h;refine wpAny_For (fy (hi E pins s σ H τ G _ hE I h) fun v s1 h1=>fy h1 fun P0 s2 h2=>?_) hs;obtain⟨it,fp,tn,J,H2,G2,ds,ok,e,iN,m2,T,PF,f2,wk,q⟩:=h2;subst e;have Qz:∀ {H':Hp},(∀ b∈fp,H' b=none)->∀ b∈fp,px X pins H' b:=fun hn b hb=>⟨hn b hb,(f2 b hb).2⟩;refine codeAny_forLoop_any (fun n s'=>∃ i iP H' mR G',I2 X pins iP H' mR G' s'/\Mv X.K H G H' G'/\Kp H2 H'/\tn i s'.heap/\(∀ b∈fp,H' b=none)/\n=ds.length - i/\i<=ds.length/\oY g t ok (ds.drop i) E D mR G') ?_ ds.length
  ⟨0,σ,H2,τ,G2,I.mv iN m2,m2,.refl _,PF,fun b hb=>(f2 b hb).1,rfl,bY _,q⟩
 rintro n s3 ⟨i,NU,H3,Qn,G3,I3,m3,k3,Vs,ZK,rfl,hle,w3⟩;by_cases pf:i < ds.length
 ·rw [cX pf] at w3;obtain⟨TJ,w3⟩:=w3;obtain⟨go,yl⟩:=(wk i H3 G3 k3 I3.ab TJ).1 ds[i] (by simp [pf]);refine jh hp (fy (T.item X rfl rfl rfl hc i pins s3 NU H3 X.xe I3.inv (Qz ZK) Vs go) ?_);rintro r s4 ⟨u,hr,h4⟩;subst hr;refine jh hp (fy h4 ?_);rintro _ s5 ⟨x,H5,I5,r5,y5,Wi,fr5⟩;obtain⟨Wt,m5⟩:=yl x H5 y5;have I5':=I5.pinned (Qz fr5) (T.obj _ _ Wi);have J5:I2 X (pins++pZ fp s5.heap) NU H5 Qn G3 s5:=⟨I5',I3.st.mono (m5.kp I3.ab),m5.ab⟩;refine jh hp (fy (hg E _ s5 NU H5 Qn G3 x ds[i] u _ hE J5 r5 Wt w3) ?_);rintro _ s6 ⟨Z5,H6,Z4,G6,I6,m6,q6⟩;refine jh hp (fy (hb E _ s6 Z5 H6 Z4 G6 _ hE I6 q6) fun f s7 q7=>?_);have again:∀ {JY:L2.St} {H7:Hp} {JX:hV} {G7:Gp},I2 X (pins++pZ fp s5.heap) JY H7 JX G7 s7->Mv X.K H6 G6 H7 G7->oY g t ok (ds.drop (i+1)) E D JX G7 ->
    ∃ m,m < ds.length - i/\∃ i iP H' mR G',I2 X pins iP H' mR G' s7/\Mv X.K H G H' G'/\Kp H2 H'/\tn i s7.heap/\(∀ b∈fp,H' b=none)/\m=ds.length - i/\i<=ds.length/\oY g t ok (ds.drop i) E D mR G':=fun {JY H7 JX G7} I7 m7 n7=>by
   have mm:=m5.trans (m6.trans m7);refine⟨ds.length - (i+1),by lia,i+1,JY,H7,JX,G7,⟨I7.inv.sG,I7.st,I7.ab⟩,m3.trans mm,k3.trans (mm.kp I3.ab),T.keep _ _ _ Wi fun b hb o e=>(I7.inv.pin (b,o) (cO _ (cO _ (n6 hb e)))).1,fun b hb=>?_,rfl,pf,n7⟩;obtain⟨o,e,d⟩:=T.obj _ _ Wi b hb;exact(I7.inv.pin (b,o) (cO _ (cO _ (n6 hb e)))).2.1
  cases f with
  | next=>obtain⟨JY,H7,JX,G7,I7,m7,n7⟩:=q7; exact again I7 m7 n7
  | cont=>obtain⟨JY,H7,JX,G7,I7,m7,n7⟩:=q7; exact again I7 m7 n7
  | brk=>obtain⟨JY,H7,JX,G7,I7,m7,q7⟩:=q7; exact⟨JY,H7,JX,G7,⟨I7.inv.sG,I7.st,I7.ab⟩,m3.trans (m5.trans (m6.trans m7)),q7⟩
  | ret v=>obtain⟨x7,JY,H7,d7,G7,I7,m7,r7,rd7,q7⟩:=q7; exact⟨x7,JY,H7,d7,G7,I7.sG,m3.trans (m5.trans (m6.trans m7)),r7,rd7,q7⟩
 ·have hn:ds.length<=i:=by lia
  rw [kU hn] at w3;obtain⟨TJ,qn⟩:=w3;have stop:=(wk i H3 G3 k3 I3.ab TJ).2 hn;refine jh hp (fy (T.done X rfl rfl rfl hc i pins s3 NU H3 X.xe I3.inv (Qz ZK) Vs stop) ?_);rintro r s4 ⟨hr,I4⟩;subst hr;exact ji ⟨NU,H3,Qn,G3,⟨I4,I3.st,I3.ab⟩,m3,qn⟩
theorem IS{c:Expr}{body:List Stmt}{tc:wt}{t:i6}(hp:PassesOwn (model X.prog X.w) X.A X.env X.xe)(hc:B7 X c tc)(hb:rj X body t):B8 X (.While c body [] pos) (MW tc t):=by
 intro E pins s σ H τ G D hE I h;obtain⟨n0,w0⟩:=h;refine wpAny_While (codeAny_whileLoop (fun n s'=>∃ iP H' mR G',I2 X pins iP H' mR G' s'/\Mv X.K H G H' G'/\Cg tc t n E D mR G') ?_ n0 ⟨σ,H,τ,G,I,.refl I.ab,w0⟩);rintro n s1 ⟨Vn,H1,rM,G1,I1,m1,w1⟩;cases n with
 | zero=>exact w1.elim
 | succ n =>
  refine jh hp (KN hc hE I1 w1 fun b H2 G2 s2 iN m2 q2=>?_);cases b with
  | true =>
   rw [if_pos rfl] at q2 ⊢;refine jh hp (fy (hb E pins s2 Vn H2 rM G2 _ hE iN q2) fun f s3 q3=>?_);cases f with
   | next=>obtain⟨NU,H3,Qn,G3,I3,m3,n3⟩:=q3; exact⟨n,mH _,NU,H3,Qn,G3,I3,m1.trans (m2.trans m3),n3⟩
   | cont=>obtain⟨NU,H3,Qn,G3,I3,m3,n3⟩:=q3; exact⟨n,mH _,NU,H3,Qn,G3,I3,m1.trans (m2.trans m3),n3⟩
   | brk=>exact q3.trans (m1.trans m2)
   | ret v=>exact q3.trans (m1.trans m2)
  | false =>
   rw [if_neg eQ] at q2 ⊢;exact ji ⟨Vn,H2,rM,G2,iN,m1.trans m2,q2⟩
end
theorem AO(n d:Nat)(o:Option Int):HT.iY n d o=iY n d o:=by cases o <;> rfl
theorem aR.cut{K:ag}{H:Hp}{vs:List V}{ds:List D}(r:aR K H vs ds)(lo hi:Option Int):aR K H (DC vs lo hi) (K2.cut ds lo hi):=by
 unfold DC K2.cut;rw [AO,AO,r.length];exact(r.drop _).take _
theorem aR.qu{K:ag}{H:Hp}{vs:List V}{ds:List D}{i:Int}{d:D}(r:aR K H vs ds)(h:K2.qu ds i=some d):∃ v,L2.qu vs i=some v/\cb K H v d:=by
 unfold K2.qu at h;cases e:K2.Hu ds.length i with
 | none=>rw [e] at h; cases h
 | some j =>
  rw [e] at h;obtain⟨v,h1,h2⟩:=r.get (show ds[j]?=some d from h);refine⟨v,?_,h2⟩;show (L2.Hu vs.length i).bind _=_;have e':L2.Hu vs.length i=some j:=by rw [r.length]; exact e
  rw [e'];exact h1
section
variable {X:Cx} {a b c e:Expr} {ta tb tc te:fx} {pos p2:Pos}
theorem lT{pins:List (Addr×Obj)}{s:ak}{σ:L2.St}{H:Hp}{G:Gp}{x:V}{d:D}{v:Value}{zs:List D}(I:Inv X pins σ H s)(ab:jK X.K H G)(rx:RelV x v)(rd:cb X.K H x d)(hi:qc d G=some zs) :
  ∃ l vs a7,v=.ref l/\Vals vs a7/\aR X.K H vs zs/\s.heap.IsList l a7.toArray/\vs.length<=aT:=by
 cases rd with
 | eL hq rs =>
  cases hi;cases rx;obtain⟨a7,rv,pl,hz⟩:=I.list hq.sq;exact⟨_,_,a7,rfl,rv,rs,pl.isList,hz⟩
 | ref l =>
  unfold qc at hi;dsimp only at hi;cases hg:G l with
  | none=>rw [hg] at hi; cases hi
  | some gg =>
   rw [hg] at hi;cases gg with
   | lst ds =>
    cases hi;cases rx;obtain⟨vs,hv,rs⟩:=ab.lst hg;obtain⟨a7,rv,pl,hz⟩:=I.list (.of hv);exact⟨_,_,a7,rfl,rv,rs,pl.isList,hz⟩
   | ins _ _=>cases hi
   | HE _=>cases hi
   | kI _=>cases hi
 | _=>cases hi
theorem lz{pins:List (Addr×Obj)}{s:ak}{σ:L2.St}{H:Hp}(I:Inv X pins σ H s){m:Str->Option Value}(F0:Fr X.base X.env.locals s.heap m){h':Heap}(F:Fr X.base X.env.locals h' m)(N:News X.base X.env.locals h' (oP X.base s.heap X.env.locals)) :
  (∀ b o,b≠X.env.locals->s.heap.get? b=some o->h'.get? b=some o)/\∀ m',s.heap.Ns X.env.locals m'->h'.Ns X.env.locals m':=by
 refine⟨fun b o hb e=>?_,fun m' hm=>?_⟩
 ·cases q:X.base.get? b with
  | some u =>
   have:=I.bk b u q;rw [e] at this; cases this;exact F.keep b _ q
  | none=>exact(N (b,o) (mr hb q e)).1
 ·have e1:=hm.eq_nsMap;have e2:=F0.ns.eq_nsMap;rw [e1,<-e2]; exact F.ns
theorem lx{P:bo}{w:World}{H:Hp}{h:Heap}{a:Addr}:∀ {o:HO},eZ P w H h a o->∃ ob,h.get? a=some ob:=by
 intro o x;cases o with
 | lst _=>obtain⟨_,_,_,_,e⟩:=x; exact⟨_,e⟩
 | tup _=>obtain⟨_,_,_,ob,e,_⟩:=x; exact⟨ob,e⟩
 | dK _=>obtain⟨_,_,_,_,ob,_,_,e,_⟩:=x; exact⟨ob,e⟩
 | dT _=>obtain⟨_,_,_,_,ob,_,_,e,_⟩:=x; exact⟨ob,e⟩
 | set _ _=>obtain⟨ob,_,_,_,e,_⟩:=x; exact⟨ob,e⟩
 | ins _ _ _=>obtain⟨_,_,_,e,_⟩:=x; exact⟨_,e⟩
 | own _=>exact x
 | xd _=>obtain⟨_,⟨ob,_,_,e,_⟩,_⟩:=x; exact⟨ob,e⟩
 | met _ _=>exact⟨_,x⟩
 | Tn _ _=>obtain⟨_,_,_,e⟩:=x; exact⟨_,e⟩
 | hZ _ _=>exact⟨_,x.1⟩
 | N5 _=>obtain⟨_,e,_⟩:=x; exact⟨_,e⟩
 | ext _=>exact x.2.1
theorem we{P:bo}{w:World}{H:Hp}{h:Heap}{a:Addr}(ok:pq P w H h)(e:h.get? a=none):H a=none:=by
 cases q:H a with
 | none=>rfl
 | some o =>
  obtain⟨ob,z⟩:=lx (ok a o q);rw [e] at z; cases z
theorem Inv.Hn{pins:List (Addr×Obj)}{s:ak}{σ:L2.St}{H:Hp}(I:Inv X pins σ H s){h':Heap}{t':Nat}{a:Addr}{o:HO}(k:∀ b o,b≠X.env.locals->s.heap.get? b=some o->h'.get? b=some o)(ns:∀ m',s.heap.Ns X.env.locals m'->h'.Ns X.env.locals m')
  (hp:s.heap.get? a=none) (new:eZ X.prog X.w (upd H a o) h' a o):Inv X pins σ (upd H a o) { s with heap:=h',toks:=t' }:=by
 have hn:H a=none:=we I.ck hp;have ne:∀ b u,H b=some u->b≠a:=fun b u e=>dW e hn;have nL:∀ b u,H b=some u->b≠X.env.locals:=fun b u e=>dW e I.free;have ht:∀ b u,s.heap.get? b=some u->b≠a:=fun b u e z=>by subst z; rw [hp] at e; cases e
 have thL:∃ o',h'.get? X.env.locals=some o':=by
  obtain⟨m,hm,_⟩:=I.loc;obtain⟨o',_,_,ho,_⟩:=ns m hm;exact⟨o',ho⟩
 refine I.step (g':=s.gens) (d':=s.drawn) (ch:=[]) (fun b hb=>absurd hb (by simp)) (fun b o hL _ _ e _=>k b o hL e) (fun b o hL _ _ e _=>⟨o.slots,k b o hL e⟩) (fun b o _ e n=>by rw [bu (ht b o e)]; exact n)
  (fun b o _ e=>?_) (fun b xs e=>by rw [bu (ne _ _ e)]; exact e) (fun b o u e=>by rw [bu (ne _ _ e)]; exact e) (fun b ps e=>by rw [bu (ne _ _ e)]; exact e) (fun b ps e=>by rw [bu (ne _ _ e)]; exact e) ns (fun b u e=>?_) I.bare
 ·by_cases hb:b=X.env.locals
  ·rw [hb]; exact thL
  ·exact⟨o,k b o hb e⟩
 ·by_cases hb:b=a
  ·subst hb; rw [cj] at e; cases e; exact new
  ·rw [bu hb] at e;refine(I.ck b u e).iK (fun c v hc r=>k c v ?_ r) (fun c z=>by rw [bu (ne _ _ z)]; exact z) (fun c xs z=>by rw [bu (ne _ _ z)]; exact z);rcases hc with rfl | hc
   ·exact nL _ _ e
   ·exact nL _ _ hc
theorem iB:mf X (gO .Add) mI:=by
 intro pins s σ H G x y dx dy v u Q I ab rx ry dX dY q;have lists:u3 dx dy G Q->wpAny (model X.prog X.w) X.A (gO .Add v u) (nF X pins σ H G Q) X.xe s:=by
  intro q;unfold u3 at q;split at q
  ·rename_i xs ys e1 e2;obtain⟨hz,q⟩:=q;obtain⟨l,vs,a7,rfl,rv,rs,hl,_⟩:=lT I ab rx dX e1;obtain⟨b,ws,uN,rfl,PL,Og,hb,_⟩:=lT I ab ry dY e2;obtain⟨m,F0⟩:=I.fr;have hsz:a7.length+uN.length<=aT:=by rw [<-rv.length,<-PL.length,rs.length,Og.length,bN]; exact hz
   refine PyProof.Rows.add_lists F0 xg hl hb (fun h' F N=>?_) hsz;obtain⟨kk,ns⟩:=lz I F0 F fun p hp=>N p (aN _ hp);have hp:H s.heap.objs.size=none:=I.ck.fresh (aC _);refine⟨.ref s.heap.objs.size,upd H s.heap.objs.size (.lst (vs++ws)),.ref _,_,Inv.Hn (t':=s.toks) I kk ns (NS (aC _)) ?_,.Ba ab hp (rs.append Og),rfl,.ref _,q _ (ab.free hp)⟩;exact⟨by rw [aB,rv.length,PL.length]; exact hsz,a7++uN,0,rv.append PL,(N _ bI).1⟩
  ·exact q.elim
 cases dX with
 | int i =>
  cases dY with
  | int j=>exact fy (Q0 pins s σ H _ _ v u (x6 X.K H G Q) I rx ry ⟨i,j,rfl,rfl,_,_,.refl ab,.int _,q⟩) fun _ _ z=>.of z
  | _=>exact lists q
 | str i =>
  cases dY with
  | str j =>
   obtain⟨hz,q⟩:=q;exact fy (E5 pins s σ H _ _ v u (x6 X.K H G Q) I rx ry ⟨i,j,rfl,rfl,by rw [bN]; exact hz,_,_,.refl ab,.str _,q⟩) fun _ _ z=>.of z
  | _=>exact lists q
 | tup h1 r1 =>
  cases dY with
  | tup h2 r2 =>
   obtain⟨hn,hz,q⟩:=q;refine fy (OM pins s σ H _ _ v u (x6 X.K H G Q) I rx ry ⟨_,_,_,_,rfl,rfl,.of h1,.of h2,?_,?_,fun e=>?_,fun e p hp=>?_⟩) fun _ _ z=>.of z
   ·rintro rfl; cases r1; exact hn rfl
   ·rw [r1.length,r2.length,bN]; exact hz
   ·subst e;cases r2;rw [bL] at q;exact⟨_,_,.refl ab,.tup h1 r1,q⟩
   ·exact⟨_,_,.NA ab hp,.tup cj ((r1.append r2).mono (.new hp)),q⟩
  | _=>exact lists q
 | ref l=>exact lists (by rw [lJ] at q; exact q)
 | eL _ _=>exact lists (by rw [lI] at q; exact q)
 | _=>exact lists (by cases dY <;> exact q)
theorem He:mf X (gO .Sub) Oj:=by
 intro pins s σ H G x y dx dy v u Q I ab rx ry dX dY q;cases dX with
 | int i =>
  cases dY with
  | int j=>exact fy (QV pins s σ H _ _ v u (x6 X.K H G Q) I rx ry ⟨i,j,rfl,rfl,_,_,.refl ab,.int _,q⟩) fun _ _ z=>.of z
  | _=>exact bf q
 | _=>exact bf q
theorem sY:mf X (gO .Mult) EY:=by
 intro pins s σ H G x y dx dy v u Q I ab rx ry dX dY q;cases dX with
 | int i =>
  cases dY with
  | int j=>exact fy (QX pins s σ H _ _ v u (x6 X.K H G Q) I rx ry ⟨i,j,rfl,rfl,q.1,_,_,.refl ab,.int _,q.2⟩) fun _ _ z=>.of z
  | _=>exact bf q
 | _=>exact bf q
theorem dQ:mf X (gO .Mod) ju:=by
 intro pins s σ H G x y dx dy v u Q I ab rx ry dX dY q;cases dX with
 | int i =>
  cases dY with
  | int j=>exact fy (QY pins s σ H _ _ v u (x6 X.K H G Q) I rx ry ⟨i,j,rfl,rfl,q.1,_,_,.refl ab,.int _,q.2⟩) fun _ _ z=>.of z
  | _=>exact bf q
 | _=>exact bf q
theorem p6:mf X (gO .FloorDiv) wZ:=by
 intro pins s σ H G x y dx dy v u Q I ab rx ry dX dY q;cases dX with
 | int i =>
  cases dY with
  | int j=>exact fy (OL pins s σ H _ _ v u (x6 X.K H G Q) I rx ry ⟨i,j,rfl,rfl,⟨q.1,q.2.1⟩,_,_,.refl ab,.int _,q.2.2⟩) fun _ _ z=>.of z
  | _=>exact bf q
 | _=>exact bf q
theorem Lx(hu:X.A.units < cLine):mf X (dA .Lt) Vt:=by
 intro pins s σ H G x y dx dy v u Q I ab rx ry dX dY q;cases dX with
 | int i =>
  cases dY with
  | int j=>exact fy (TB pins s σ H _ _ v u (x6 X.K H G Q) I rx ry ⟨i,j,rfl,rfl,_,_,.refl ab,.bl _,q⟩) fun _ _ z=>.of z
  | _=>exact bf q
 | tup h1 r1 =>
  cases dY with
  | tup h2 r2 =>
   obtain⟨xs,ys,e1,e2,q⟩:=q;subst e1 e2;have z1:=r1.ints;have z2:=r2.ints;subst z1 z2;have el:∀ xs ys:List Int,HT.lexLt xs ys=K2.lexLt xs ys:=by
    intro xs;induction xs with
    | nil=>intro ys; cases ys <;> rfl
    | cons x xs ih=>intro ys; cases ys with
     | nil=>rfl
     | cons y ys=>unfold HT.lexLt K2.lexLt; rw [ih]
   exact fy (QZ hu pins s σ H _ _ v u (x6 X.K H G Q) I rx ry ⟨_,_,xs,ys,rfl,rfl,.of h1,.of h2,_,_,.refl ab,.bl _,by rw [el]; exact q⟩) fun _ _ z=>.of z
  | _=>exact bf q
 | _=>exact bf q
theorem uI:mf X (dA .LtE) Nv:=by
 intro pins s σ H G x y dx dy v u Q I ab rx ry dX dY q;cases dX with
 | int i =>
  cases dY with
  | int j=>exact fy (TC pins s σ H _ _ v u (x6 X.K H G Q) I rx ry ⟨i,j,rfl,rfl,_,_,.refl ab,.bl _,q⟩) fun _ _ z=>.of z
  | _=>exact bf q
 | _=>exact bf q
theorem E6:mf X (dA .Gt) Tq:=by
 intro pins s σ H G x y dx dy v u Q I ab rx ry dX dY q;cases dX with
 | int i =>
  cases dY with
  | int j=>exact fy (TF pins s σ H _ _ v u (x6 X.K H G Q) I rx ry ⟨i,j,rfl,rfl,_,_,.refl ab,.bl _,q⟩) fun _ _ z=>.of z
  | _=>exact bf q
 | _=>exact bf q
mutual
noncomputable def pd:D->PyData
 | .cy=>.none
 | .bl b=>.bool b
 | .int i=>.int i
 | .str x=>.str x
 | .tup ds=>.tuple (kO ds)
 | .eL ds=>.list (kO ds)
 | .sg _=>.none
 | .exc _=>.none
 | .uj _ _ _=>.none
 | .ze _=>.none
 | .ref _=>.none
noncomputable def kO:List D->List PyData
 | []=>[]
 | d :: r=>pd d :: kO r
end
mutual
theorem r8:∀ (s t:D),nr s=true->nr t=true->sx (pd s) (pd t)=g4 s t
 | .cy,t,_,ht=>by cases t <;> first | rfl | (exact aY (show false=true from ht))
 | .bl a,t,_,ht=>by cases t <;> first | rfl | (exact aY (show false=true from ht))
 | .int a,t,_,ht=>by cases t <;> first | rfl | (exact aY (show false=true from ht))
 | .str a,t,_,ht=>by cases t <;> first | rfl | (exact aY (show false=true from ht))
 | .tup a,t,hs,ht=>by
  cases t with
  | tup b=>exact BB a b hs ht
  | ref _=>exact aY (show false=true from ht)
  | exc _=>exact aY (show false=true from ht)
  | uj _ _ _=>exact aY (show false=true from ht)
  | ze _=>exact aY (show false=true from ht)
  | sg _=>exact aY (show false=true from ht)
  | _=>rfl
 | .eL a,t,hs,ht=>by
  cases t with
  | eL b=>exact BB a b hs ht
  | ref _=>exact aY (show false=true from ht)
  | exc _=>exact aY (show false=true from ht)
  | uj _ _ _=>exact aY (show false=true from ht)
  | ze _=>exact aY (show false=true from ht)
  | sg _=>exact aY (show false=true from ht)
  | _=>rfl
 | .ref _,_,hs,_=>aY (show false=true from hs)
 | .exc _,_,hs,_=>aY (show false=true from hs)
 | .uj _ _ _,_,hs,_=>aY (show false=true from hs)
 | .ze _,_,hs,_=>aY (show false=true from hs)
 | .sg _,_,hs,_=>aY (show false=true from hs)
theorem BB:∀ (s t:List D),oV s=true->oV t=true->PyData.eqvAll (kO s) (kO t)=kl s t
 | [],[],_,_=>rfl
 | [],_ :: _,_,_=>rfl
 | _ :: _,[],_,_=>rfl
 | a :: r,b :: t,hs,ht=>by
  have Fy:nr a=true/\oV r=true:=(jg).mp hs;have Su:nr b=true/\oV t=true:=(jg).mp ht;show (sx (pd a) (pd b)&&PyData.eqvAll (kO r) (kO t))=(g4 a b&&kl r t);rw [r8 a b Fy.1 Su.1,BB r t Fy.2 Su.2]
end
mutual
theorem jz:∀ (s:D),nr s=true->(pd s).canLay0=true
 | .cy,_=>rfl
 | .bl a,_=>rfl
 | .int a,_=>rfl
 | .str a,h=>h
 | .tup a,h=>tF a h
 | .eL a,h=>tF a h
 | .exc _,_=>rfl
 | .uj _ _ _,_=>rfl
 | .ze _,_=>rfl
 | .ref _,_=>rfl
 | .sg _,_=>rfl
theorem tF:∀ (s:List D),oV s=true->PyData.canLayAll0 (kO s)=true
 | [],_=>rfl
 | a :: r,h=>by
  have h':nr a=true/\oV r=true:=(jg).mp h;show ((pd a).canLay0&&PyData.canLayAll0 (kO r))=true;rw [jz a h'.1,tF r h'.2]; rfl
end
theorem xQ{G:Gp}{n:Nat}{d t:D}(h:Sn G n d t):(pd t).depth<=n:=by
 induction h with
 | cy=>exact bY _
 | bl b=>exact bY _
 | int i=>exact bY _
 | str x h=>exact bY _
 | Ck=>exact jL (bY _)
 | mT _ _ L7 L6 =>
  exact jL (Nat.max_le.mpr ⟨L7,sA L6⟩)
 | II=>exact jL (bY _)
 | zh _ _ L7 L6 =>
  exact jL (Nat.max_le.mpr ⟨L7,sA L6⟩)
 | ref _ _ ih=>exact ih
theorem gX{pins:List (Addr×Obj)}{σ:L2.St}{H:Hp}{s:ak}{G:Gp}(I:Inv X pins σ H s)(ab:jK X.K H G){n:Nat}{d t:D}(h:Sn G n d t) :
  (∀ v u,cb X.K H v d->RelV v u->∃ as,Reads s.heap u (pd t) as) /\
  (∀ ds ss,(d=.eL ds/\t=.eL ss)\/(d=.tup ds/\t=.tup ss)->∀ vs us,aR X.K H vs ds->Vals vs us->∃ as,gB s.heap us (kO ss) as):=by
 have PD:∀ {ds ss:List D},(∀ vs us,aR X.K H vs ds->Vals vs us->∃ as,gB s.heap us (kO ss) as)->∀ v u,cb X.K H v (.tup ds)->RelV v u->∃ as,Reads s.heap u (pd (.tup ss)) as:=by
  intro ds ss k v u r ru;cases r with
  | tup hq rs =>
   cases ru;obtain⟨a7,rv,⟨o,ho,hc,n,hd⟩,hz⟩:=I.tuple (.of hq);obtain⟨as,ra⟩:=k _ a7 rs rv;exact⟨as,.tuple ho hc hd (by simpa using ra)⟩
 have PN:∀ {ds ss:List D},(∀ vs us,aR X.K H vs ds->Vals vs us->∃ as,gB s.heap us (kO ss) as)->∀ v u,cb X.K H v (.eL ds)->RelV v u->∃ as,Reads s.heap u (pd (.eL ss)) as:=by
  intro ds ss k v u r ru;cases r with
  | eL hq rs =>
   cases ru;obtain⟨a7,rv,pl,hz⟩:=I.list hq.sq;obtain⟨o,ho,hc,n,hd⟩:=pl.isList;obtain⟨as,ra⟩:=k _ a7 rs rv;exact⟨_,.list ho hc hd (by simpa using ra)⟩
 induction h with
 | cy=>exact⟨fun v u r ru=>by cases r; cases ru; exact⟨_,.none⟩,fun ds ss e=>by rcases e with ⟨e,_⟩ | ⟨e,_⟩ <;> cases e⟩
 | bl b=>exact⟨fun v u r ru=>by cases r; cases ru; exact⟨_,.bool b⟩,fun ds ss e=>by rcases e with ⟨e,_⟩ | ⟨e,_⟩ <;> cases e⟩
 | int i=>exact⟨fun v u r ru=>by cases r; obtain⟨t,rfl⟩:=ru; exact⟨_,.int i t⟩,fun ds ss e=>by rcases e with ⟨e,_⟩ | ⟨e,_⟩ <;> cases e⟩
 | str x hx=>exact⟨fun v u r ru=>by cases r; obtain⟨t,rfl⟩:=ru; exact⟨_,.str x t⟩,fun ds ss e=>by rcases e with ⟨e,_⟩ | ⟨e,_⟩ <;> cases e⟩
 | Ck =>
  have k:∀ vs us,aR X.K H vs []->Vals vs us->∃ as,gB s.heap us (kO []) as:=fun vs us r ru=>by
   have e:=r.zero;subst e;cases ru;exact⟨_,.nil⟩
  refine⟨PD k,fun ds ss e=>?_⟩;rcases e with ⟨e,_⟩ | ⟨e,e2⟩
  ·cases e
  ·cases e; cases e2; exact k
 | mT h1 h2 L7 L6 =>
  have k2:=L6.2 _ _ (.inr ⟨rfl,rfl⟩);have k:∀ vs us,aR X.K H vs (_ :: _)->Vals vs us->∃ as,gB s.heap us (kO (_ :: _)) as:=fun vs us r ru=>by
   cases r with
   | cons r1 r2 =>
    cases ru with
    | cons u1 u2 =>
     obtain⟨as,ra⟩:=L7.1 _ _ r1 u1;obtain⟨bs,rb⟩:=k2 _ _ r2 u2;exact⟨_,.cons ra rb⟩
  refine⟨PD k,fun ds ss e=>?_⟩;rcases e with ⟨e,_⟩ | ⟨e,e2⟩
  ·cases e
  ·cases e; cases e2; exact k
 | II =>
  have k:∀ vs us,aR X.K H vs []->Vals vs us->∃ as,gB s.heap us (kO []) as:=fun vs us r ru=>by
   have e:=r.zero;subst e;cases ru;exact⟨_,.nil⟩
  refine⟨PN k,fun ds ss e=>?_⟩;rcases e with ⟨e,e2⟩ | ⟨e,_⟩
  ·cases e; cases e2; exact k
  ·cases e
 | zh h1 h2 L7 L6 =>
  have k2:=L6.2 _ _ (.inl ⟨rfl,rfl⟩);have k:∀ vs us,aR X.K H vs (_ :: _)->Vals vs us->∃ as,gB s.heap us (kO (_ :: _)) as:=fun vs us r ru=>by
   cases r with
   | cons r1 r2 =>
    cases ru with
    | cons u1 u2 =>
     obtain⟨as,ra⟩:=L7.1 _ _ r1 u1;obtain⟨bs,rb⟩:=k2 _ _ r2 u2;exact⟨_,.cons ra rb⟩
  refine⟨PN k,fun ds ss e=>?_⟩;rcases e with ⟨e,e2⟩ | ⟨e,_⟩
  ·cases e; cases e2; exact k
  ·cases e
 | ref hg h1 ih =>
  refine⟨fun v u r ru=>?_,fun ds ss e=>by rcases e with ⟨e,_⟩ | ⟨e,_⟩ <;> cases e⟩;cases r;cases ru;obtain⟨vs,hv,rs⟩:=ab.lst hg;obtain⟨a7,rv,pl,hz⟩:=I.list (.of hv);obtain⟨o,ho,hc,n,hd⟩:=pl.isList;obtain⟨as,ra⟩:=ih.2 _ _ (.inl ⟨rfl,rfl⟩) vs a7 rs rv;exact⟨_,.list ho hc hd (by simpa using ra)⟩
theorem mJ(hu:X.A.units+64 < cLine):mf X (dA .Eq) (yz false):=by
 intro pins s σ H G x y dx dy v u Q I ab rx ry dX dY q;obtain⟨a,b,sa,sb,q⟩:=q;obtain⟨as,ra⟩:=(gX I ab sa).1 x v dX rx;obtain⟨bs,rb⟩:=(gX I ab sb).1 y u dY ry;have d1:=xQ sa;refine SeqAt.compareEq_reads ra rb (jz _ sa.nr) (jz _ sb.nr) (by unfold SN at d1; lia) ?_;rw [r8 _ _ sa.nr sb.nr];exact⟨.bl _,H,.bl _,G,I,.refl ab,rfl,.bl _,q⟩
theorem rR(hu:X.A.units+64 < cLine):mf X (dA .NotEq) (yz true):=by
 intro pins s σ H G x y dx dy v u Q I ab rx ry dX dY q;obtain⟨a,b,sa,sb,q⟩:=q;obtain⟨as,ra⟩:=(gX I ab sa).1 x v dX rx;obtain⟨bs,rb⟩:=(gX I ab sb).1 y u dY ry;have d1:=xQ sa;refine SeqAt.compareNe_reads ra rb (jz _ sa.nr) (jz _ sb.nr) (by unfold SN at d1; lia) ?_;rw [r8 _ _ sa.nr sb.nr];exact⟨.bl _,H,.bl _,G,I,.refl ab,rfl,.bl _,q⟩
end
theorem tS(j k:Key):g4 (eK j) (eK k)=decide (j=k):=by
 cases j with
 | inl a=>cases k with
  | inl b=>rw [LQ]; rfl
  | inr b=>exact(decide_eq_false (fun z=>nomatch z)).symm
 | inr a=>cases k with
  | inl b=>exact(decide_eq_false (fun z=>nomatch z)).symm
  | inr b=>rw [LP]; exact(Nr a b)
theorem zH:∀ (js ks:List Key),kl (js.map eK) (ks.map eK)=decide (js=ks)
 | [],[]=>(decide_eq_true rfl).symm
 | [],_ :: _=>(decide_eq_false (fun z=>nomatch z)).symm
 | _ :: _,[]=>(decide_eq_false (fun z=>nomatch z)).symm
 | j :: js,k :: ks=>by
  show (g4 (eK j) (eK k)&&kl (js.map eK) (ks.map eK))=_;rw [tS,zH js ks,Dx]
theorem tR(js ks:List Key):g4 (.tup (js.map eK)) (.tup (ks.map eK))=decide (js=ks):=by
 exact zH js ks
section
variable {K:ag} {H:Hp}
theorem Bg{d:D}(h:fJ d=true):∃ k:Key,d=eK k:=by
 cases d with
 | int i=>exact⟨.inl i,rfl⟩
 | str x=>exact⟨.inr x,rfl⟩
 | _=>exact absurd h (by simp [fJ])
theorem Ho:∀ {ds:List D},ds.all fJ=true->∃ ks:List Key,ds=ks.map eK
 | [],_=>⟨[],rfl⟩
 | d :: r,h=>by
  rw [JT,aG] at h;obtain⟨k,rfl⟩:=Bg h.1;obtain⟨ks,rfl⟩:=Ho h.2;exact⟨k :: ks,rfl⟩
theorem Hq{d:D}(h:rY d=true):∃ ks:List Key,d=.tup (ks.map eK):=by
 cases d with
 | tup ds=>obtain⟨ks,rfl⟩:=Ho (ds:=ds) h; exact⟨ks,rfl⟩
 | _=>exact absurd h (by simp [rY])
theorem AR{v:V}{k:Key}(r:cb K H v (eK k)):v=kV k:=by
 cases k with
 | inl i=>cases r; rfl
 | inr x=>cases r; rfl
theorem Cz:∀ {vs:List V} {ks:List Key},aR K H vs (ks.map eK)->vs=ks.map kV
 | _,[],r=>r.zero
 | _,k :: ks,r=>by
  rw [aI] at r;cases r with
  | cons r1 r2=>rw [AR r1,Cz r2]; rfl
theorem CA{v:V}{ks:List Key}(r:cb K H v (.tup (ks.map eK))):∃ b,v=.ref b/\H b=some (.tup (ks.map kV)):=by
 cases r with
 | tup h rs=>have e:=Cz rs; subst e; exact⟨_,rfl,h⟩
theorem nJ.look{kv:List (Key×V)}{aS:List (D×D)}(r:nJ K H kv aS)(k:Key):(∃ v d,kX kv k=some v/\K2.look aS (eK k)=some d/\cb K H v d)\/(kX kv k=none/\K2.look aS (eK k)=none):=by
 induction r using nJ.ind with
 | nil=>exact .inr ⟨rfl,rfl⟩
 | @cons j v d r t rd rs ih =>
  by_cases e:j=k
  ·left;refine⟨v,d,pQ (p:=(j,v)) e,?_,rd⟩;unfold K2.look;rw [Kt (by show g4 (eK j) (eK k)=true; rw [tS]; exact decide_eq_true e)]; rfl
  ·have e1:kX ((j,v) :: r) k=kX r k:=pR (p:=(j,v)) e;have e2:K2.look ((eK j,d) :: t) (eK k)=K2.look t (eK k):=by
    unfold K2.look;rw [Ku (by show ¬ g4 (eK j) (eK k)=true; rw [tS]; simpa using e)]
   rw [e1,e2];exact ih
theorem oQ.look{kv:List (List Key×V)}{aS:List (D×D)}(r:oQ K H kv aS)(k:List Key):(∃ v d,kX kv k=some v/\K2.look aS (.tup (k.map eK))=some d/\cb K H v d)\/(kX kv k=none/\K2.look aS (.tup (k.map eK))=none):=by
 induction r using oQ.ind with
 | nil=>exact .inr ⟨rfl,rfl⟩
 | @cons j v d r t rd rs ih =>
  by_cases e:j=k
  ·left;refine⟨v,d,pQ (p:=(j,v)) e,?_,rd⟩;unfold K2.look;rw [Kt (by show g4 (.tup (j.map eK)) (.tup (k.map eK))=true; rw [tR]; exact decide_eq_true e)]; rfl
  ·have e1:kX ((j,v) :: r) k=kX r k:=pR (p:=(j,v)) e;have e2:K2.look ((.tup (j.map eK),d) :: t) (.tup (k.map eK))=K2.look t (.tup (k.map eK)):=by
    unfold K2.look;rw [Ku (by show ¬ g4 (.tup (j.map eK)) (.tup (k.map eK))=true; rw [tR]; simpa using e)]
   rw [e1,e2];exact ih
theorem nJ.any{kv:List (Key×V)}{aS:List (D×D)}(r:nJ K H kv aS)(k:Key):(kv.any fun p=>decide (p.1=k))=aS.any fun p=>g4 p.1 (eK k):=by
 induction r using nJ.ind with
 | nil=>rfl
 | @cons j v d r t rd rs ih=>simp only [mQ]; rw [ih,tS]
theorem oQ.any{kv:List (List Key×V)}{aS:List (D×D)}(r:oQ K H kv aS)(k:List Key):(kv.any fun p=>decide (p.1=k))=aS.any fun p=>g4 p.1 (.tup (k.map eK)):=by
 induction r using oQ.ind with
 | nil=>rfl
 | @cons j v d r t rd rs ih=>simp only [mQ]; rw [ih,tR]
theorem nJ.put{kv:List (Key×V)}{aS:List (D×D)}(r:nJ K H kv aS)(k:Key){v:V}{d:D}(rd:cb K H v d):nJ K H (putK kv k v) (K2.put aS (eK k) d):=by
 unfold putK K2.put;rw [r.any k];by_cases h:(aS.any fun p=>g4 p.1 (eK k))=true
 ·rw [if_pos h,if_pos h];clear h;induction r using nJ.ind with
  | nil=>exact .nil
  | @cons j w e r t re rs ih =>
   simp only [aI];rw [tS];by_cases e:j=k
   ·simp only [e,if_true,decide_true]; exact .cons rd ih
   ·simp only [e,if_false,decide_false,au]; exact .cons re ih
 ·rw [if_neg h,if_neg h];clear h;induction r using nJ.ind with
  | nil=>exact .cons rd .nil
  | cons re rs ih=>exact .cons re ih
theorem oQ.put{kv:List (List Key×V)}{aS:List (D×D)}(r:oQ K H kv aS)(k:List Key){v:V}{d:D}(rd:cb K H v d):oQ K H (putK kv k v) (K2.put aS (.tup (k.map eK)) d):=by
 unfold putK K2.put;rw [r.any k];by_cases h:(aS.any fun p=>g4 p.1 (.tup (k.map eK)))=true
 ·rw [if_pos h,if_pos h];clear h;induction r using oQ.ind with
  | nil=>exact .nil
  | @cons j w e r t re rs ih =>
   simp only [aI];rw [tR];by_cases e:j=k
   ·simp only [e,if_true,decide_true]; exact .cons rd ih
   ·simp only [e,if_false,decide_false,au]; exact .cons re ih
 ·rw [if_neg h,if_neg h];clear h;induction r using oQ.ind with
  | nil=>exact .cons rd .nil
  | cons re rs ih=>exact .cons re ih
end
theorem Kp.putD{H:Hp}{p:Addr}{o o':HO}(hp:H p=some o)(h:(∃ k,o=.dK k)\/∃ k,o=.dT k):Kp H (upd H p o') :=
 ⟨fun a ys e=>by rw [bu (by rintro rfl; rw [hp] at e; rcases h with ⟨_,rfl⟩ | ⟨_,rfl⟩ <;> cases e)]; exact e,fun a ob u e=>by rw [bu (by rintro rfl; rw [hp] at e; rcases h with ⟨_,rfl⟩ | ⟨_,rfl⟩ <;> cases e)]; exact e⟩
section
variable {X:Cx} {pins:List (Addr×Obj)} {σ:L2.St} {H:Hp} {s:ak} {G:Gp} {a:Addr} {aS:List (D×D)} {k:D} {y:V}
theorem toT(I:Inv X pins σ H s)(e:H a=some (.dK [])):Inv X pins σ (upd H a (.dT [])) s:=by
 obtain⟨z,hd,vs,rel,dd⟩:=HD I.ck e;have hv:vs=[]:=by cases rel; rfl
 subst hv;obtain⟨o,es,ep,ho,hx,C9,Zm,hl,nd⟩:=dd;have he:es=#[]:=by
  cases hq:es.toList with
  | nil=>simpa using hq
  | cons _ _=>rw [hq] at hl; cases hl
 subst he;exact I.write (h':=s.heap) (t':=s.toks) (x:=a) (e:=a) (by rw [e]; exact a8) (.inl rfl) (fun b u _ q=>q) ⟨o,ho⟩ ⟨bY _,hd,[],.nil,o,#[],ep,ho,hx,C9,rfl,fM⟩
theorem toK(I:Inv X pins σ H s)(e:H a=some (.dT [])):Inv X pins σ (upd H a (.dK [])) s:=by
 obtain⟨z,hd,xs,rel,o,es,ep,ho,hx,C9,hl,nd⟩:=I.ck a _ e;have hv:xs=[]:=by cases rel; rfl
 subst hv;have he:es=#[]:=by simpa using hl
 subst he;exact I.write (h':=s.heap) (t':=s.toks) (x:=a) (e:=a) (by rw [e]; exact a8) (.inl rfl) (fun b u _ q=>q) ⟨o,ho⟩ ⟨bY _,hd,[],.nil,o,#[],ep,ho,hx,C9,(fun _ h=>by simp at h),.nil,fM⟩
theorem Hg{o:HO}(ab:jK X.K H G)(hg:G a=some (.kI aS))(k:Kp H (upd H a o))(ho:Kc X.K (upd H a o) a (.kI aS)):Mv X.K H G (upd H a o) G:=by
 have m:=Mv.put ab hg k ho;have e:dO G a (.kI aS)=G:=by
  funext b; unfold dO; split
  ·rename_i z; rw [z,hg]
  ·rfl
 rw [e] at m;exact m
theorem HF(I:Inv X pins σ H s)(ab:jK X.K H G)(hg:G a=some (.kI aS))(hk:iu aS k=true)(ry:cb X.K H y k) :
  ∃ H',Inv X pins σ H' s/\Mv X.K H G H' G/\((∃ (kv:List (Key×V)) (kk:Key),H' a=some (.dK kv)/\nJ X.K H' kv aS/\k=eK kk/\y=kV kk)\/∃ (kv:List (List Key×V)) (kk:List Key) (b:Addr),H' a=some (.dT kv)/\oQ X.K H' kv aS/\k=.tup (kk.map eK)/\y=.ref b/\H' b=some (.tup (kk.map kV))):=by
 unfold iu at hk;rw [nI,aG,aG] at hk;rcases hk with ⟨h1,h2⟩ | ⟨h1,h2⟩
 ·obtain⟨kk,rfl⟩:=Bg h1;have ey:=AR ry;subst ey;rcases ab a _ hg with ⟨kv,hv,rs⟩ | ⟨kv,hv,rs⟩
  ·exact⟨H,I,.refl ab,.inl ⟨kv,kk,hv,rs,rfl,rfl⟩⟩
  ·cases rs with
   | nil =>
    refine⟨_,toK I hv,Hg ab hg (.putD hv (.inr ⟨_,rfl⟩)) (.inl ⟨[],cj,.nil⟩),.inl ⟨[],kk,cj,.nil,rfl,rfl⟩⟩
   | cons _ _=>simp [fJ] at h2
 ·obtain⟨kk,rfl⟩:=Hq h1;obtain⟨b,rfl,hb⟩:=CA ry;rcases ab a _ hg with ⟨kv,hv,rs⟩ | ⟨kv,hv,rs⟩
  ·cases rs with
   | nil =>
    have kp:Kp H (upd H a (.dT [])):=.putD hv (.inl ⟨_,rfl⟩);exact⟨_,toT I hv,Hg ab hg kp (.inr ⟨[],cj,.nil⟩),.inr ⟨[],kk,b,cj,.nil,rfl,rfl,kp.tup _ _ hb⟩⟩
   | @cons j _ _ _ _ _ _=>cases j <;> simp [eK,rY] at h2
  ·exact⟨H,I,.refl ab,.inr ⟨kv,kk,b,hv,rs,rfl,rfl,hb⟩⟩
theorem Dv(I:Inv X pins σ H s)(ab:jK X.K H G)(hg:G a=some (.kI aS))(hk:iu aS k=true)(ry:cb X.K H y k) :
  ∃ H' o,Inv X pins σ H' s/\Mv X.K H G H' G/\x9 H' a y o/\o.isSome=(look aS k).isSome/\∀ d,look aS k=some d->∃ v,o=some v/\cb X.K H' v d:=by
 obtain⟨H',I',m,h⟩:=HF I ab hg hk ry;rcases h with ⟨kv,kk,hv,rs,rfl,rfl⟩ | ⟨kv,kk,b,hv,rs,rfl,rfl,hb⟩
 ·refine⟨H',kX kv kk,I',m,.k hv,?_,fun d hd=>?_⟩
  ·rcases rs.look kk with ⟨v,d,e1,e2,_⟩ | ⟨e1,e2⟩ <;> rw [e1,e2] <;> rfl
  ·rcases rs.look kk with ⟨v,d',e1,e2,r⟩ | ⟨e1,e2⟩
   ·rw [e2] at hd; cases hd; exact⟨v,e1,r⟩
   ·rw [e2] at hd; cases hd
 ·refine⟨H',kX kv kk,I',m,.t hv hb,?_,fun d hd=>?_⟩
  ·rcases rs.look kk with ⟨v,d,e1,e2,_⟩ | ⟨e1,e2⟩ <;> rw [e1,e2] <;> rfl
  ·rcases rs.look kk with ⟨v,d',e1,e2,r⟩ | ⟨e1,e2⟩
   ·rw [e2] at hd; cases hd; exact⟨v,e1,r⟩
   ·rw [e2] at hd; cases hd
theorem AQ{x:V}(I:Inv X pins σ H s)(rd:cb X.K H x (.sg aS))(hk:iu aS k=true)(ry:cb X.K H y k) :
  ∃ a o,x=.ref a/\(aS=[]\/x9 H a y o)/\o.isSome=(look aS k).isSome/\∀ d,look aS k=some d->∃ v,o=some v/\cb X.K H v d:=by
 unfold iu at hk;rw [nI,aG,aG] at hk;cases rd with
 | qY h rs =>
  rename_i a ob kv;rcases hk with ⟨h1,h2⟩ | ⟨h1,h2⟩
  ·obtain⟨kk,rfl⟩:=Bg h1;have ey:=AR ry;subst ey;refine⟨a,kX kv kk,rfl,.inr (.inl ⟨kv,kk,.inr ⟨_,h⟩,rfl,rfl⟩),?_,fun d hd=>?_⟩
   ·rcases rs.look kk with ⟨v,d,e1,e2,_⟩ | ⟨e1,e2⟩ <;> rw [e1,e2] <;> rfl
   ·rcases rs.look kk with ⟨v,d',e1,e2,r⟩ | ⟨e1,e2⟩
    ·rw [e2] at hd; cases hd; exact⟨v,e1,r⟩
    ·rw [e2] at hd; cases hd
  ·cases rs with
   | nil=>exact⟨a,none,rfl,.inl rfl,rfl,fun d hd=>by cases hd⟩
   | cons _ _ =>
    rename_i kx _ _ _ _ _ _;rw [JT,aG] at h2;cases kx <;> exact absurd h2.1 (by simp [eK,rY])
 | qX h rs =>
  rename_i a ob kv;rcases hk with ⟨h1,h2⟩ | ⟨h1,h2⟩
  ·cases rs with
   | nil=>exact⟨a,none,rfl,.inl rfl,rfl,fun d hd=>by cases hd⟩
   | cons _ _ =>
    rw [JT,aG] at h2;exact absurd h2.1 (by simp [fJ])
  ·obtain⟨kk,rfl⟩:=Hq h1;obtain⟨b,rfl,hb⟩:=CA ry;refine⟨a,kX kv kk,rfl,.inr (.inr ⟨kv,kk,b,.inr ⟨_,h⟩,rfl,hb,rfl⟩),?_,fun d hd=>?_⟩
   ·rcases rs.look kk with ⟨v,d,e1,e2,_⟩ | ⟨e1,e2⟩ <;> rw [e1,e2] <;> rfl
   ·rcases rs.look kk with ⟨v,d',e1,e2,r⟩ | ⟨e1,e2⟩
    ·rw [e2] at hd; cases hd; exact⟨v,e1,r⟩
    ·rw [e2] at hd; cases hd
theorem MS{v:V}{d:D}(I:Inv X pins σ H s)(ab:jK X.K H G)(hg:G a=some (.kI aS))(hk:iu aS k=true)(hz:aS.length < SZ)(ry:cb X.K H y k)(rv:cb X.K H v d) :
  ∃ H' ZZ,Inv X pins σ H' s/\JM H' a y v ZZ/\Mv X.K H G ZZ (dO G a (.kI (put aS k d))):=by
 obtain⟨H',I',m,h⟩:=HF I ab hg hk ry;have YI:=rv.mono (m.kp ab);have sz:aT=16777216:=bN;rcases h with ⟨kv,kk,hv,rs,rfl,rfl⟩ | ⟨kv,kk,b,hv,rs,rfl,rfl,hb⟩
 ·have kp:Kp H' (upd H' a (.dK (putK kv kk v))):=.putD hv (.inl ⟨_,rfl⟩);exact⟨H',_,I',.k hv (by rw [rs.length,sz]; exact hz),m.trans (.put m.ab hg kp (.inl ⟨_,cj,(rs.put kk YI).mono kp⟩))⟩
 ·have kp:Kp H' (upd H' a (.dT (putK kv kk v))):=.putD hv (.inr ⟨_,rfl⟩);exact⟨H',_,I',.t hv hb (by rw [rs.length,sz]; exact hz),m.trans (.put m.ab hg kp (.inr ⟨_,cj,(rs.put kk YI).mono kp⟩))⟩
end
section
variable {X:Cx} {a b c e:Expr} {es:List Expr} {ta tb tc te:fx} {t:wu} {pos p p2 apos mO:Pos} {x:Str}
theorem nT{k:Bool}{j}:gm X (.Constant (.bool k) j pos) (dC (.bl k)):=ng Tv fun _ _=>.bl k
theorem qI{j}:gm X (.Constant .none j pos) (dC .cy):=ng QR fun _ _=>.cy
theorem fh{y:Str}{j}:gm X (.Constant (.str y) j pos) (dC (.str y)):=ng QQ fun _ _=>.str y
theorem AH:Vd X (unaryOp .USub) IM:=by
 intro pins s σ H G x dx v Q I ab rx dX q;cases dX with
 | int i=>exact fy (Qr pins s σ H _ v (x6 X.K H G Q) I rx ⟨i,rfl,_,_,.refl ab,.int _,q⟩) fun _ _ z=>.of z
 | _=>exact bf q
theorem c7(hu:X.A.units+64 < cLine)(ha:gm X a ta)(hb:gm X b tb)(hs:Pw b):gm X (.Subscript a b pos) (aQ kB ta tb):=by
 intro E pins s σ H τ G Q hE I h;refine Subscript_ (M9 ha hb hE I h fun v u s2 x y dx dy H2 G2 J m rx ry dX dY q=>?_);have fin:∀ {rb:R2},Yu X rb->rb x y H2 (x6 X.K H2 G2 Q)->wpAny (model X.prog X.w) X.A (subscriptTail a b v u) (nF X pins σ H G Q) X.xe s2:=fun hr hq =>
  fy (hr a b pins s2 σ H2 x y v u _ J.inv rx ry hq (hs _ _)) fun _ _ z=>(nF.of z).trans m
 cases dX with
 | tup hq rs =>
  cases dY with
  | int i =>
   rw [eN] at q;split at q
   ·rename_i d hd;obtain⟨w,hw,sN⟩:=rs.qu hd;exact fin Rk ⟨_,_,i,w,rfl,rfl,.of hq,hw,d,G2,.refl J.ab,sN,q⟩
   ·exact q.elim
  | _=>exact bf q
 | eL hq rs =>
  cases dY with
  | int i =>
   rw [kf] at q;split at q
   ·rename_i d hd;obtain⟨w,hw,sN⟩:=rs.qu hd;exact fin Hs ⟨_,_,i,w,rfl,rfl,hq.sq,hw,d,G2,.refl J.ab,sN,q⟩
   ·exact q.elim
  | _=>exact bf q
 | qY h rs =>
  rw [AU] at q;obtain⟨hk,q⟩:=q;split at q
  ·rename_i d hd;obtain⟨a',o,ea,g,_,hv⟩:=AQ J.inv (.qY h rs) hk dY;obtain⟨w,rfl,sN⟩:=hv d hd;cases ea;rcases g with rfl | g
   ·cases hd
   ·cases rx;exact tail_any (qp J.inv g) PySem.F.slot_dict_getitem.lookup (uU (by lia) J.inv g ry fun w' s3 I4 rv=>⟨w,H2,d,G2,I4,m,rv,sN,q⟩) (hs _ _)
  ·exact q.elim
 | qX h rs =>
  rw [AU] at q;obtain⟨hk,q⟩:=q;split at q
  ·rename_i d hd;obtain⟨a',o,ea,g,_,hv⟩:=AQ J.inv (.qX h rs) hk dY;obtain⟨w,rfl,sN⟩:=hv d hd;cases ea;rcases g with rfl | g
   ·cases hd
   ·cases rx;exact tail_any (qp J.inv g) PySem.F.slot_dict_getitem.lookup (uU (by lia) J.inv g ry fun w' s3 I4 rv=>⟨w,H2,d,G2,I4,m,rv,sN,q⟩) (hs _ _)
  ·exact q.elim
 | ref l =>
  rw [Oo] at q;split at q
  ·rename_i ds hl;obtain⟨vs,hv,rs⟩:=J.ab.lst hl;cases dY with
   | int i =>
    dsimp only at q;split at q
    ·rename_i d hd;obtain⟨w,hw,sN⟩:=rs.qu hd;exact fin Hs ⟨_,_,i,w,rfl,rfl,.of hv,hw,d,G2,.refl J.ab,sN,q⟩
    ·exact q.elim
   | _=>exact bf q
  ·rename_i aS hl;obtain⟨hk,q⟩:=q;split at q
   ·rename_i d hd;obtain⟨H3,o,I3,m3,g,_,hv⟩:=Dv J.inv J.ab hl hk dY;obtain⟨w,rfl,sN⟩:=hv d hd;cases rx;exact tail_any (qp I3 g) PySem.F.slot_dict_getitem.lookup (uU (by lia) I3 g ry fun w' s3 I4 rv=>⟨w,H3,d,G2,I4,m.trans m3,rv,sN,q⟩) (hs _ _)
   ·exact q.elim
  ·exact q.elim
 | _=>exact bf q
noncomputable def V0(X:Cx)(e:Option Expr)(t:Vg):Prop :=
 ∀ (E:kC) (pins:List (Addr×Obj)) (s:ak) (σ:L2.St) (H:Hp) (τ:hV) (G:Gp) (Q:Option Int->Gp->Prop),Lk X E->I2 X pins σ H τ G s->t E τ G Q ->
  wpAny (model X.prog X.w) X.A (evalPart e X.env) (fun u s'=>∃ o H' G',Inv X pins σ H' s'/\Mv X.K H G H' G'/\IsPart u o/\Q o G') X.xe s
theorem gT:V0 X none dr:=by
 intro E pins s σ H τ G Q hE I h;rw [evalPart_none];exact aq ⟨none,H,G,I.inv,.refl I.ab,.none,h⟩
theorem fT(h:gm X e te):V0 X (some e) (kn te):=by
 intro E pins s σ H τ G Q hE I hw;rw [evalPart_some];refine jn h hE I hw fun x H1 d G1 u s1 I1 m1 r1 jR q1=>?_;cases jR with
 | int i =>
  obtain⟨t,rfl⟩:=r1;exact⟨some i,H1,G1,I1.inv,m1,.int i t,q1⟩
 | _=>exact bf q1
theorem fA{lo hi:Option Expr}{tl th:Vg}(he:gm X a ta)(hl:V0 X lo tl)(hu:V0 X hi th):gm X (.Subscript a (.Slice lo hi none p2) pos) (tV ta tl th):=by
 intro E pins s σ H τ G Q hE I h;refine Subscript_ (jn he hE I h fun x H1 d G1 v s1 I1 m1 r1 jR q1=>?_);refine wpAny_Slice (fy (hl E pins s1 σ H1 τ G1 _ hE I1 q1) ?_);rintro vl s2 ⟨l,H2,G2,iN,m2,pl,q2⟩;refine fy (hu E pins s2 σ H2 τ G2 _ hE (I1.mv iN m2) q2) ?_;rintro vu s3 ⟨r,H3,G3,I3,m3,pu,q3⟩;rw [evalPart_none];refine aq ?_;have T4:=m2.trans m3;have mm:=m1.trans T4;have I4:Inv X pins σ H3 { s3 with heap:=s3.heap.push { cls:=.type "slice",data:=.fields #[vl,vu,.none] } }:=I3.kept (t':=s3.toks) fun b ob q=>ax _ q;have To:=jR.mono (T4.kp I1.ab);have Qi:=m3.ab;have key:∀ {rb:V->Option Int->Option Int->Hp->VK->Prop},Yr X rb->rb x l r H3 (x6 X.K H3 G3 Q)->wpAny (model X.prog X.w) X.A (subscriptTail a (.Slice lo hi none p2) v (.ref s3.heap.objs.size)) (nF X pins σ H G Q) X.xe { s3 with heap:=s3.heap.push { cls:=.type "slice",data:=.fields #[vl,vu,.none] } }:=fun hr hq=>by
  obtain⟨T,id,hT,ht,hg⟩:=hr pins { s3 with heap:=s3.heap.push { cls:=.type "slice",data:=.fields #[vl,vu,.none] } } σ H3 x v vl vu l r s3.heap.objs.size _ I4 r1 (Heap.IsSliceOf.new ..) pl pu hq;exact fy (tail_any (ops:=[.ref s3.heap.objs.size,v]) ht hT hg (by with_unfolding_all rfl)) fun _ _ z=>(nF.of z).trans mm
 cases To with
 | tup hq rs =>
  obtain⟨hw,q⟩:=q3;refine key QD ⟨_,_,rfl,.of hq,?_,fun p hp=>⟨_,G3,.NA Qi hp,.tup cj ((rs.cut l r).mono (.new hp)),q⟩⟩;rw [AO,AO,rs.length];exact hw
 | eL hq rs=>exact key GQ ⟨_,_,rfl,hq.sq,fun p hp=>⟨_,_,.Ba Qi hp (rs.cut l r),.ref _,q3 p (Qi.free hp)⟩⟩
 | ref g =>
  rw [mq] at q3;split at q3
  ·rename_i ds hg;obtain⟨vs,hv,rs⟩:=Qi.lst hg;exact key GQ ⟨_,_,rfl,.of hv,fun p hp=>⟨_,_,.Ba Qi hp (rs.cut l r),.ref _,q3 p (Qi.free hp)⟩⟩
  ·exact q3.elim
 | _=>exact bf q3
theorem OG(ss:List D)(s:D)(h1:oV ss=true)(h2:nr s=true):((kO ss).any fun y=>sx y (pd s))=ss.any (g4 · s):=by
 induction ss with
 | nil=>rfl
 | cons d r ih =>
  have h':nr d=true/\oV r=true:=(jg).mp h1;show (sx (pd d) (pd s)||(kO r).any _)=_;rw [ih h'.2,r8 d s h'.1 h2]; rfl
theorem HG{G:Gp}{n:Nat}{ds ss:List D}(h:Sn G (n+1) (.eL ds) (.eL ss)):bU (kO ss)<=n:=by
 exact sA (xQ h)
theorem Bj(hu:X.A.units+64 < cLine)(neg:Bool){pins:List (Addr×Obj)}{s:ak}{σ:L2.St}{H:Hp}{G:Gp}{x y:V}{dx t:D}{ds ss:List D}{v u:Value}{Q:DK}(I:Inv X pins σ H s)(ab:jK X.K H G)(rx:RelV x v)(dX:cb X.K H x dx)
  (hy:(∃ l vs a7,u=.ref l/\Vals vs a7/\aR X.K H vs ds/\(s.heap.IsList l a7.toArray\/s.heap.IsTuple l a7.toArray))) (s1:Sn G SN dx t) (s2:Sn G SN (.eL ds) (.eL ss))
  (q:Q (.bl (if neg then !ss.any (g4 · t) else ss.any (g4 · t))) G):wpAny (model X.prog X.w) X.A (dA (if neg then .NotIn else .In) v u) (nF X pins σ H G Q) X.xe s:=by
 obtain⟨l,vs,a7,rfl,rv,rs,hl⟩:=hy;obtain⟨as,ra⟩:=(gX I ab s1).1 x v dX rx;obtain⟨bs,rb⟩:=(gX I ab s2).2 ds ss (.inl ⟨rfl,rfl⟩) vs a7 rs rv;have d2:=HG (n:=7) s2;have n2:oV ss=true:=s2.nr;have xx:=tF _ n2;have e:=OG ss t n2 s1.nr;have B3:X.A.units+1+min (bU (kO ss)) (pd t).depth < cLine:=by lia
 have La:gB s.heap a7.toArray.toList (kO ss) bs:=by simpa using rb
 have fin:∀ k:Bool,k=(if neg then !ss.any (g4 · t) else ss.any (g4 · t))->nF X pins σ H G Q (.bool k) s:=fun k hk=>by subst hk; exact⟨.bl _,H,.bl _,G,I,.refl ab,rfl,.bl _,q⟩
 cases neg with
 | false =>
  rcases hl with hl | hl
  ·exact SeqAt.in_listAt _ hl (lY La ra xx (jz _ s1.nr) B3) (by rw [pL La xx,e]; exact fin _ rfl)
  ·exact SeqAt.in_tupleAt _ hl (lY La ra xx (jz _ s1.nr) B3) (by rw [pL La xx,e]; exact fin _ rfl)
 | true =>
  rcases hl with hl | hl
  ·exact SeqAt.notIn_listAt _ hl (lY La ra xx (jz _ s1.nr) B3) (by rw [pL La xx,e]; exact fin _ rfl)
  ·exact SeqAt.notIn_tupleAt _ hl (lY La ra xx (jz _ s1.nr) B3) (by rw [pL La xx,e]; exact fin _ rfl)
theorem LZ(hu:X.A.units+64 < cLine)(neg:Bool){pins:List (Addr×Obj)}{s:ak}{σ:L2.St}{H:Hp}{G:Gp}{x y:V}{dx:D}{aS:List (D×D)}{v u:Value}{Q:DK}(I:Inv X pins σ H s)(ab:jK X.K H G)(rx:RelV x v)(ry:RelV y u)(dY:cb X.K H y (.sg aS))(dX:cb X.K H x dx)
  (q:rO neg dx (.sg aS) G Q):wpAny (model X.prog X.w) X.A (dA (if neg then .NotIn else .In) v u) (nF X pins σ H G Q) X.xe s:=by
 obtain⟨lX,hk,q⟩:=q;have go:∀ (a:Addr) (o:Option V),y=.ref a->x9 H a x o->o.isSome=(look aS dx).isSome->wpAny (model X.prog X.w) X.A (dA (if neg then .NotIn else .In) v u) (nF X pins σ H G Q) X.xe s:=by
  intro a o ea g ho;subst ea;cases ry;cases neg with
  | false=>exact U2 (by lia) I g rx fun s3 I4=>⟨.bl _,H,.bl _,G,I4,.refl ab,rfl,.bl _,by rw [ho]; exact q⟩
  | true=>exact HK (by lia) I g rx fun s3 I4=>⟨.bl _,H,.bl _,G,I4,.refl ab,rfl,.bl _,by rw [ho]; exact q⟩
 obtain⟨a,o,ea,g,ho,_⟩:=AQ I dY hk dX;rcases g with rfl | g
 ·exact absurd rfl lX
 ·exact go a o ea g ho
theorem Hf(hu:X.A.units+64 < cLine)(neg:Bool):mf X (dA (if neg then .NotIn else .In)) (rO neg):=by
 intro pins s σ H G x y dx dy v u Q I ab rx ry dX dY q;cases dY with
 | tup hq rs =>
  obtain⟨t,ss,s1,s2,q⟩:=q;cases ry;obtain⟨a7,rv,pl,hz⟩:=I.tuple (.of hq);exact Bj hu neg (y:=x) I ab rx dX ⟨_,_,a7,rfl,rv,rs,.inr pl⟩ s1 s2 q
 | eL hq rs =>
  obtain⟨t,ss,s1,s2,q⟩:=q;cases ry;obtain⟨a7,rv,pl,hz⟩:=I.list hq.sq;exact Bj hu neg (y:=x) I ab rx dX ⟨_,_,a7,rfl,rv,rs,.inl pl.isList⟩ s1 s2 q
 | qY h rs=>exact LZ hu neg I ab rx ry (.qY h rs) dX q
 | qX h rs=>exact LZ hu neg I ab rx ry (.qX h rs) dX q
 | ref l =>
  unfold rO at q;dsimp only at q;split at q
  ·rename_i aS hl;obtain⟨hk,q⟩:=q;obtain⟨H3,o,I3,m3,g,ho,_⟩:=Dv I ab hl hk dX;cases ry;cases neg with
   | false=>exact U2 (by lia) I3 g rx fun s3 I4=>⟨.bl _,H3,.bl _,G,I4,m3,rfl,.bl _,by rw [ho]; exact q⟩
   | true=>exact HK (by lia) I3 g rx fun s3 I4=>⟨.bl _,H3,.bl _,G,I4,m3,rfl,.bl _,by rw [ho]; exact q⟩
  ·rename_i ds hl;obtain⟨t,ss,s1,s2,q⟩:=q;cases ry;obtain⟨vs,hv,rs⟩:=ab.lst hl;obtain⟨a7,rv,pl,hz⟩:=I.list (.of hv);exact Bj hu neg (y:=x) I ab rx dX ⟨_,_,a7,rfl,rv,rs,.inl pl.isList⟩ s1 s2 q
  ·exact q.elim
 | _=>exact bf q
theorem A5(hu:X.A.units+64 < cLine):mf X (dA .In) (rO false):=Hf hu false
theorem gw(hu:X.A.units+64 < cLine):mf X (dA .NotIn) (rO true):=Hf hu true
end
section
variable {X:Cx} {a b c e o:Expr} {es:List Expr} {ta tb tc te to:fx} {t:wu} {pos p p2 apos mO:Pos} {x name:Str} {id T:String}
theorem dH:oR X (.builtin "len") ko:=by
 intro pins s σ H G xs ds us Q I ab rx rd q;unfold ko at q;split at q
 ·rename_i x;obtain⟨v,rfl,r⟩:=rd.one;have NZ:∀ (n:Nat),Vj X.K v H n->Q (.int (n:Int)) G->wpAny (model X.prog X.w) X.A (call (.builtin "len") us) (nF X pins σ H G Q) X.xe s:=fun n hn hq =>
   fy (M4 pins s σ H [v] us (x6 X.K H G Q) I rx ⟨v,n,rfl,hn,_,_,.refl ab,.int _,hq⟩) fun _ _ z=>.of z
  have sz:aT=16777216:=bN;cases r with
  | tup hq rs=>exact NZ _ (.inr ⟨_,.of hq,by rw [rs.length]⟩) q
  | eL hq rs=>exact NZ _ (.inl ⟨_,hq.sq,by rw [rs.length]⟩) q
  | str y =>
   unfold lenOf at q;dsimp only at q;by_cases hz:y.length<=SZ
   ·rw [if_pos hz] at q; exact NZ _ ⟨by rw [sz]; exact hz,rfl⟩ q
   ·rw [if_neg hz] at q; exact q.elim
  | qY h rs =>
   rename_i l o kv aS;obtain⟨u,rfl,ru⟩:=rx.one;cases ru;unfold lenOf at q;dsimp only at q;by_cases ha:(aS.all fun p=>fJ p.1)=true
   ·rw [if_pos ha] at q;exact Qd I (.inr ⟨_,h⟩) fun t s' I'=>⟨.int kv.length,H,_,G,I',.refl ab,⟨t,rfl⟩,.int _,by rw [rs.length]; exact q⟩
   ·rw [if_neg ha] at q; exact q.elim
  | qX h rs =>
   rename_i l o kv aS;obtain⟨u,rfl,ru⟩:=rx.one;cases ru;unfold lenOf at q;dsimp only at q;by_cases ha:(aS.all fun p=>fJ p.1)=true
   ·rw [if_pos ha] at q;cases rs with
    | nil =>
     obtain⟨z,hS,xs,rel,ob,es,ep,ho,hx,C9,hl,nd⟩:=(I.ck l _ h).2;have Ss:xs=[]:=by cases rel; rfl
     subst Ss;have he:es=#[]:=by simpa using hl
     subst he;have dd:s.heap.DictOf (fK X.prog X.w) l []:=⟨ob,#[],ep,ho,hx,C9,(fun _ h=>by simp at h),.nil,fM⟩;refine call_len_dict hS dd (by simp) ?_;exact⟨.int 0,H,_,G,I.tok _,.refl ab,⟨_,rfl⟩,.int _,q⟩
    | cons _ _=>simp [fJ] at ha
   ·rw [if_neg ha] at q; exact q.elim
  | ref l =>
   unfold lenOf at q;dsimp only at q;cases hg:G l with
   | none=>rw [hg] at q; exact q.elim
   | some g =>
    rw [hg] at q;cases g with
    | lst ds =>
     obtain⟨vs,hv,rs⟩:=ab.lst hg;exact NZ _ (.inl ⟨_,.of hv,by rw [rs.length]⟩) q
    | ins _ _=>exact q.elim
    | HE _=>exact q.elim
    | kI aS =>
     obtain⟨u,rfl,ru⟩:=rx.one;cases ru;dsimp only at q;by_cases ha:(aS.all fun p=>fJ p.1)=true
     ·rw [if_pos ha] at q;rcases ab l _ hg with ⟨kv,hv,rs⟩ | ⟨kv,hv,rs⟩
      ·exact Qd I (.inl hv) fun t s' I'=>⟨.int kv.length,H,_,G,I',.refl ab,⟨t,rfl⟩,.int _,by rw [rs.length]; exact q⟩
      ·cases rs with
       | nil =>
        obtain⟨z,hd,vs,rel,dd⟩:=HD (toK I hv).ck cj;have hvs:vs=[]:=by cases rel; rfl
        subst hvs;refine call_len_dict hd dd (by simp) ?_;exact⟨.int 0,H,_,G,I.tok _,.refl ab,⟨_,rfl⟩,.int _,q⟩
       | cons _ _=>simp [fJ] at ha
     ·rw [if_neg ha] at q; exact q.elim
  | _=>exact bf q
 ·exact q.elim
theorem Gf:oR X (.type "list") xZ:=by
 intro pins s σ H G xs ds us Q I ab rx rd q;unfold xZ at q;split at q
 ·rename_i x;obtain⟨v,rfl,r⟩:=rd.one;have Wc:∀ (l:Addr) (ys:List V) (zs:List D),v=.ref l->(t7 X.K H l ys\/x5 X.K H l ys)->aR X.K H ys zs->kJ G (.lst zs) Q->wpAny (model X.prog X.w) X.A (call (.type "list") us) (nF X pins σ H G Q) X.xe s:=fun l ys zs e h rs hq=>by
   subst e;exact fy (BI pins s σ H _ us (x6 X.K H G Q) I rx ⟨l,ys,rfl,h,fun p hp=>⟨_,_,.Ba ab hp rs,.ref _,hq p (ab.free hp)⟩⟩) fun _ _ z=>.of z
  cases r with
  | tup hq rs=>exact Wc _ _ _ rfl (.inr (.of hq)) rs q
  | eL hq rs=>exact Wc _ _ _ rfl (.inl hq.sq) rs q
  | ref l =>
   unfold itemsOf at q;dsimp only at q;cases hg:G l with
   | none=>rw [hg] at q; exact q.elim
   | some g =>
    rw [hg] at q;cases g with
    | lst ds =>
     obtain⟨vs,hv,rs⟩:=ab.lst hg;exact Wc _ _ _ rfl (.inl (.of hv)) rs q
    | ins _ _=>exact q.elim
    | HE _=>exact q.elim
    | kI aS=>exact q.elim
  | _=>exact bf q
 ·exact q.elim
theorem rP {r:List D->Gp->DK->Prop} (hc:oR X (.type T) r) (hg:Gl X x) (hm:X.mg x=none) (hv:dj x=some (.type T)) (ha:BR X (e :: es) t) (hn:autoParam (x≠"__name__") Ad._auto_1) (yC:autoParam ((x == ("__debug__" : Str))=false) Ad._auto_1)
  (he:autoParam (a9 (e :: es) X.env=(false,eval e X.env) :: a9 es X.env) Ar._auto_1) (vn:autoParam ((gP pos (a9 es X.env)).any (·.1)=false) Ar._auto_1):gm X (.Call (.Name x p) (e :: es) [] pos) (jN r t):=by
 intro E pins s σ H τ G Q hE I h;refine du (lM I.inv hg hm hv ?_ hn yC);exact ib (wK ha pos hE I h fun vs H1 ds G1 us s1 I1 m1 r1 jR q1=>fy (hc pins s1 σ H1 G1 vs ds us Q I1.inv I1.ab r1 jR q1) fun _ _ z=>z.trans m1) he vn
theorem Rh (K:ag):∀ C∈["int","bool","list","tuple","dict","str"],∀ T∈["NoneType","bool","int","str","tuple","list","dict"],cf K (.type T) (.type C)=some (T == C||(T == "bool" && C == "int")):=by
 intro C hC T hT;simp only [rp,ef,or_false] at hC hT;rcases hC with rfl | rfl | rfl | rfl | rfl | rfl <;> rcases hT with rfl | rfl | rfl | rfl | rfl | rfl | rfl <;> kernel_rfl
theorem LV (C:String) (hC:C∈["int","bool","list","tuple","dict","str"]) {pins:List (Addr×Obj)} {s:ak} {σ:L2.St} {H:Hp} {G:Gp} {v:V} {d:D} {u:Value} {k:Bool} {Q:DK} (I:Inv X pins σ H s) (ab:jK X.K H G) (ru:RelV v u) (r:cb X.K H v d)
  (hk:OX C d G=some k) (q:Q (.bl k) G):wpAny (model X.prog X.w) X.A (call (.builtin "isinstance") [u,.type C]) (nF X pins σ H G Q) X.xe s:=by
 have fin:∀ tk,nF X pins σ H G Q (.bool k) { s with toks:=tk }:=fun tk=>⟨.bl k,H,.bl k,G,I.tok _,.refl ab,rfl,.bl k,q⟩;have hl:∀ T∈["NoneType","bool","int","str","tuple","list","dict"],k=(T == C||(T == "bool" && C == "int"))->cf X.K (.type T) (.type C)=some k:=fun T hT e=>by rw [Rh X.K C hC T hT,e]
 have tl:∀ {l:Addr} {o:Obj},s.heap.get? l=some o->o.cls=.type "list"->k=("list" == C||("list" == "bool" && C == "int"))->v=.ref l->wpAny (model X.prog X.w) X.A (call (.builtin "isinstance") [u,.type C]) (nF X pins σ H G Q) X.xe s:=fun ho hc e ev=>by
  subst ev;cases ru;exact dU PySem.W.kitx_list I.qg ⟨_,ho,hc⟩ (hl "list" (by decide) e) (fun z=>nomatch z) fin
 have td:∀ {l:Addr} {o:Obj},s.heap.get? l=some o->o.cls=.type "dict"->k=("dict" == C||("dict" == "bool" && C == "int"))->v=.ref l->wpAny (model X.prog X.w) X.A (call (.builtin "isinstance") [u,.type C]) (nF X pins σ H G Q) X.xe s:=fun ho hc e ev=>by
  subst ev;cases ru;exact dU PySem.W.kitx_dict I.qg ⟨_,ho,hc⟩ (hl "dict" (by decide) e) (fun z=>nomatch z) fin
 have mP:∀ P:String->Prop,(∀ C'∈["int","bool","list","tuple","dict","str"],P C')->P C:=fun P h=>h C hC;cases r with
 | cy =>
  cases ru;have e:k=("NoneType" == C||("NoneType" == "bool" && C == "int")):=by
   have:k=false:=(bp hk).symm;rw [this];exact mP (fun C=>false=("NoneType" == C||("NoneType" == "bool" && C == "int"))) (by decide)
  exact dU NO I.qg a8 (hl _ (by decide) e) (fun z=>nomatch z) fin
 | bl y =>
  cases ru;have e:k=("bool" == C||("bool" == "bool" && C == "int")):=by
   have:k=(C == "bool" || C == "int"):=(bp hk).symm;rw [this];exact mP (fun C=>(C == "bool" || C == "int")=("bool" == C||("bool" == "bool" && C == "int"))) (by decide)
  exact dU PySem.W.kitx_bool I.qg a8 (hl _ (by decide) e) (fun z=>nomatch z) fin
 | int y =>
  obtain⟨t,rfl⟩:=ru;have e:k=("int" == C||("int" == "bool" && C == "int")):=by
   have:k=(C == "int"):=(bp hk).symm;rw [this];exact mP (fun C=>(C == "int")=("int" == C||("int" == "bool" && C == "int"))) (by decide)
  exact dU PySem.W.kitx_int I.qg a8 (hl _ (by decide) e) (fun z=>nomatch z) fin
 | str y =>
  obtain⟨t,rfl⟩:=ru;have e:k=("str" == C||("str" == "bool" && C == "int")):=by
   have:k=(C == "str"):=(bp hk).symm;rw [this];exact mP (fun C=>(C == "str")=("str" == C||("str" == "bool" && C == "int"))) (by decide)
  exact dU PySem.W.kitx_str I.qg a8 (hl _ (by decide) e) (fun z=>nomatch z) fin
 | tup hq rs =>
  cases ru;have e:k=("tuple" == C||("tuple" == "bool" && C == "int")):=by
   have:k=(C == "tuple"):=(bp hk).symm;rw [this];exact mP (fun C=>(C == "tuple")=("tuple" == C||("tuple" == "bool" && C == "int"))) (by decide)
  obtain⟨a7,rv,⟨o,h1,h2,_⟩,hz⟩:=I.tuple (.of hq);exact dU PySem.W.kitx_tuple I.qg ⟨o,h1,h2⟩ (hl _ (by decide) e) (fun z=>nomatch z) fin
 | eL hq rs =>
  obtain⟨a7,rv,pl,hz⟩:=I.list hq.sq;obtain⟨o,h1,h2,_⟩:=pl.isList;refine tl h1 h2 ?_ rfl;have:k=(C == "list"):=(bp hk).symm;rw [this];exact mP (fun C=>(C == "list")=("list" == C||("list" == "bool" && C == "int"))) (by decide)
 | qY h rs =>
  have e:k=("dict" == C||("dict" == "bool" && C == "int")):=by
   have:k=(C == "dict"):=(bp hk).symm;rw [this];exact mP (fun C=>(C == "dict")=("dict" == C||("dict" == "bool" && C == "int"))) (by decide)
  obtain⟨_,_,vs,_,ob,_,_,h1,h2,_⟩:=vq I.ck (.inr ⟨_,h⟩);exact td h1 h2.1 e rfl
 | qX h rs =>
  have e:k=("dict" == C||("dict" == "bool" && C == "int")):=by
   have:k=(C == "dict"):=(bp hk).symm;rw [this];exact mP (fun C=>(C == "dict")=("dict" == C||("dict" == "bool" && C == "int"))) (by decide)
  obtain⟨_,_,ys,_,ob,_,_,h1,h2,_⟩:=zI I.ck (.inr ⟨_,h⟩);exact td h1 h2.1 e rfl
 | exc h=>simp [OX] at hk
 | uj h _=>simp [OX] at hk
 | ze _ _ _ _=>simp [OX] at hk
 | ref l =>
  unfold OX at hk;dsimp only at hk;cases hg:G l with
  | none=>rw [hg] at hk; cases hk
  | some g =>
   rw [hg] at hk;cases g with
   | lst ds =>
    obtain⟨vs,hv,rs⟩:=ab.lst hg;obtain⟨a7,rv,pl,hz⟩:=I.list (.of hv);obtain⟨o,h1,h2,_⟩:=pl.isList;refine tl h1 h2 ?_ rfl;have:k=(C == "list"):=(bp hk).symm;rw [this];exact mP (fun C=>(C == "list")=("list" == C||("list" == "bool" && C == "int"))) (by decide)
   | ins _ _=>cases hk
   | HE _=>cases hk
   | kI aS =>
    have e:k=("dict" == C||("dict" == "bool" && C == "int")):=by
     have:k=(C == "dict"):=(bp hk).symm;rw [this];exact mP (fun C=>(C == "dict")=("dict" == C||("dict" == "bool" && C == "int"))) (by decide)
    rcases ab l _ hg with ⟨kv,hv,rs⟩ | ⟨kv,hv,rs⟩
    ·obtain⟨_,_,vs,_,ob,_,_,h1,h2,_⟩:=HD I.ck hv;exact td h1 h2.1 e rfl
    ·obtain⟨_,_,ys,_,ob,_,_,h1,h2,_⟩:=Qc I.ck hv;exact td h1 h2.1 e rfl
theorem qJ (C:String) (hC:C∈["int","bool","list","tuple","dict","str"]) {y:Str} {py:Pos} (hg:Gl X "isinstance") (hm:X.mg "isinstance" = none) (Ux:Gl X y) (Uq:X.mg y=none) (hvC:dj y=some (.type C)) (ha:gm X a ta) (hn:autoParam (y≠"__name__") Ad._auto_1) (yC:autoParam ((y == ("__debug__" : Str))=false) Ad._auto_1)
  (he:autoParam (a9 [a,.Name y py] X.env=(false,eval a X.env) :: a9 [.Name y py] X.env) Ar._auto_1) (vn:autoParam ((gP pos (a9 [Expr.Name y py] X.env)).any (·.1)=false) Ar._auto_1) (RF:autoParam (a9 [.Name y py] X.env=[(false,eval (.Name y py) X.env)]) Ar._auto_1) :
  gm X (.Call (.Name "isinstance" p) [a,.Name y py] [] pos) (DB C ta):=by
 intro E pins s σ H τ G Q hE I h;refine du (lM I.inv hg hm kM ?_);refine dF ?_ he vn;rw [he];show wpAny _ _ (rG ((false,eval a X.env) :: gP pos (a9 [.Name y py] X.env))) _ _ s;refine dS (jn ha hE I h fun v H1 d G1 u s1 I1 m1 r1 jR q1=>?_);rw [RF];show wpAny _ _ (rG [(false,eval (.Name y py) X.env)]) _ _ s1;refine dS (lM I1.inv Ux Uq hvC (kW ?_) hn yC)
 try dsimp only at q1
 split at q1
 ·rename_i k hk;exact fy (LV C hC I1.inv I1.ab r1 jR hk q1) fun _ _ z=>z.trans m1
 ·exact q1.elim
end
section
variable {X:Cx} {a b c e o:Expr} {es:List Expr} {ta tb tc te to:fx} {t:wu} {pos p p2 apos mO:Pos} {x name:Str} {id T:String}
noncomputable def Nd(X:Cx)(id:String)(r:D->List D->Gp->DK->Prop):Prop :=
 ∀ (pins:List (Addr×Obj)) (s:ak) (σ:L2.St) (H:Hp) (G:Gp) (x:V) (d:D) (xs:List V) (ds:List D) (v:Value) (us:List Value) (Q:DK),Inv X pins σ H s->jK X.K H G->RelV x v->cb X.K H x d->Vals xs us->aR X.K H xs ds->r d ds G Q ->
  wpAny (model X.prog X.w) X.A (call (.builtin id) (v :: us)) (nF X pins σ H G Q) X.xe s
noncomputable def Ve(X:Cx)(T:String)(ty:D->Gp->Prop):Prop:=∀ (pins:List (Addr×Obj)) (s:ak) (σ:L2.St) (H:Hp) (G:Gp) (x:V) (d:D) (v:Value),Inv X pins σ H s->jK X.K H G->RelV x v->cb X.K H x d->ty d G ->
  s.TypeIs v T/\∀ a,v=.ref a->∃ ob,s.heap.get? a=some ob/\ob.dict=none
theorem mS:Ve X "list" D6:=by
 intro pins s σ H G x d v I ab r rd h;cases rd with
 | eL hq rs=>exact KH I r (.inl ⟨rfl,_,hq.sq⟩)
 | ref l =>
  unfold D6 at h;dsimp only at h;split at h
  ·rename_i ds hg;obtain⟨vs,hv,rs⟩:=ab.lst hg;exact KH I r (.inl ⟨rfl,vs,.of hv⟩)
  ·exact h.elim
 | _=>exact bf h
theorem uH {ty:D->Gp->Prop} {r:D->List D->Gp->DK->Prop} (pa:PlainAttrs T) (slot:Slot T name id) (hty:typeOf (.builtin id)=pure (.type "method_descriptor")) (ht:Ve X T ty) (hm:Nd X id r) (ho:gm X o to) (ha:BR X (e :: es) t)
  (Mo:autoParam (um o name X.env (eval o X.env)=eval o X.env) Ar._auto_1)
  (XU:autoParam (((gP mO (a9 (e :: es) X.env)).all (fun x=>!x.1)&&(backToKw mO (zY [] X.env)).all (fun x=>x.1.isSome)
   && decide ((e :: es).length+([]:List Kv).length+(if ([]:List Kv).isEmpty then 0 else 1) < 30))=true) Ar._auto_1)
  (Us:autoParam ((apos.endLine == mO.line)=true) Ar._auto_1) (hs:autoParam (a9 (e :: es) X.env=(false,eval e X.env) :: a9 es X.env) Ar._auto_1) (Ru:autoParam ((gP mO (a9 es X.env)).any (·.1)=false) Ar._auto_1) :
  gm X (.Call (.Attribute o name apos) (e :: es) [] mO) (B6 ty r to t):=by
 intro E pins s σ H τ G Q hE I h;refine wpAny_Call_method_late Mo XU Us rfl (jn ho hE I h ?_);rintro x H1 d G1 v s1 I1 m1 r1 jR ⟨hy,q1⟩;obtain⟨h1,h2⟩:=ht pins s1 σ H1 G1 x d v I1.inv I1.ab r1 jR hy;refine⟨T,id,pa,slot,hty,h1,h2,?_⟩;have hA:=ha mO E pins s1 σ H1 τ G1 _ hE I1 q1;rw [hs] at hA ⊢;refine Calls.callWith_builtin (by show (false||(gP mO (a9 es X.env)).any (·.1))=false; rw [Ru] <;> rfl) (Calls.evalArgs_plain ?_);exact fy hA (by rintro us s2 ⟨vs,H2,ds,G2,iN,m2,r2,AS,q2⟩; exact fy (hm pins s2 σ H2 G2 x d vs ds v us Q iN m2.ab r1 (jR.mono (m2.kp I1.ab)) r2 AS q2) fun _ _ z=>z.trans (m1.trans m2))
theorem xi:Nd X "list.append" tm:=by
 intro pins s σ H G x d xs ds v us Q I ab rx rd QG yy q;unfold tm at q;split at q
 ·rename_i l d';cases rd;obtain⟨w,rfl,sN⟩:=yy.one;split at q
  ·rename_i zs hg;obtain⟨hz,q⟩:=q;obtain⟨vs,hv,rs⟩:=ab.lst hg;exact fy (zq pins s σ H _ _ v us (x6 X.K H G Q) I rx QG ⟨l,vs,w,rfl,rfl,hv,by rw [rs.length,bN]; exact hz,_,_,.putL ab hg hv (rs.append (.cons sN .nil)),.cy,q⟩) fun _ _ z=>.of z
  ·exact q.elim
 ·exact q.elim
theorem FQ(l:Addr)(xs:Array Value)(n:Nat)(b:Addr)(ys:Array Value)(n2:Nat)(dd:Option Addr)(sl:Array (Option Value))(P4:¬(!xs.isEmpty&&i7 (xs.size+ys.size))=true)(hx:xs.size<=aT)(hxy:xs.size+ys.size<=aT+1) :
  Meets (Builtin.«list.extend» ⟨[.ref l,.ref b],[]⟩) (fun _ R s=>s.heap.get? l=some { cls:=.type "list",dict:=none,data:=.seq xs n,slots:=#[] }/\s.heap.get? b=some { cls:=.type "list",dict:=dd,data:=.seq ys n2,slots:=sl }/\R (.ok (.ret dn)) { s with heap:=s.heap.update l (iD fun x=>x++ys),toks:=s.toks }) :=
 .of_wp fun prog w A R s h=>by
  obtain⟨hp,g,d,tk,os⟩:=s;obtain⟨h1,h2,h3⟩:=h;have e1:=AutoSeq1.idx_int;have e2:=oT;have e3:=EC;have e4:=AutoSeq1.sub_tuple_list;have e5:=AutoSeq1.sub_list_tuple;have Xb:(xs++ys).size<=aT+1:=by rw [Array.size_append]; exact hxy
  wp_walk using (wz h1 rfl (hz:=hx) (_hz':=Xb)),bT h1,bT h2
  exact⟨_,rfl,h3⟩
theorem Fd:Nd X "list.extend" v7:=by
 intro pins s σ H G x d xs ds v us Q I ab rx rd QG yy q;unfold v7 at q;split at q
 ·rename_i l y;cases rd;obtain⟨w,rfl,sN⟩:=yy.one;obtain⟨u,rfl,ru⟩:=QG.one;split at q
  ·rename_i zs ys hg XQ;obtain⟨hz,q⟩:=q;obtain⟨vs,hv,rs⟩:=ab.lst hg;obtain⟨b,ws,uN,rfl,PL,Og,hb,_⟩:=lT I ab ru sN XQ;cases rx;obtain⟨z,a7,n,r,hl,e⟩:=I.Rc hv;obtain⟨⟨cl,dd,dt,sl⟩,ho,yD,n2,Zt⟩:=hb;simp only at yD Zt;subst yD Zt;have h1:=PL.length;have h2:=Og.length;have h3:=rs.length;have h4:=r.length;have h5:aT=16777216:=bN;have h6:SZ=16777216:=rfl;have hsz:a7.toArray.size+uN.toArray.size<=aT:=by rw [aJ,aJ]; lia
   have P4:¬ (!a7.toArray.isEmpty&&i7 (a7.toArray.size+uN.toArray.size))=true:=by
    rw [LB hsz,vI];exact eQ
   refine yc F.slot_list_extend ⟨_,e,rfl⟩ F.entry_list_extend (F.args_list_extend_2 _ _) (FQ l a7.toArray n b uN.toArray n2 dd sl P4 (by rw [aJ]; lia) (by lia)) ⟨e,ho,?_⟩;refine⟨.cy,_,.cy,_,I.Rf (its':=a7++uN) hv e (by simp) (r.append PL) ?_,.putL ab hg hv (rs.append Og),rfl,.cy,q⟩;rw [aB];lia
  ·exact q.elim
 ·exact q.elim
theorem Rm{a7:List Value}{u:Value}{k:Nat}(hk:k<=a7.length):(a7.toArray.extract 0 k).push u++a7.toArray.extract k=(a7.take k++u :: a7.drop k).toArray:=by
 simp [List.extract_eq_take_drop];rw [Kr (by rw [cK]; lia)]
theorem xh:Nd X "list.insert" tj:=by
 intro pins s σ H G x d xs ds v us Q I ab rx rd QG yy q;unfold tj at q;split at q
 ·rename_i l i d';cases rd;obtain⟨w,w2,rfl,IF,rw2⟩:=yy.two;cases IF;split at q
  ·rename_i zs hg;obtain⟨h0,h1,hz,q⟩:=q;obtain⟨vs,hv,rs⟩:=ab.lst hg;obtain⟨u1,u2,rfl,⟨t,rfl⟩,ru2⟩:=vals2 QG;cases rx;obtain⟨z,a7,n,r,hl,e⟩:=I.Rc hv;have sz:aT=16777216:=bN;have hlen:a7.length=zs.length:=by rw [<-hl,rs.length]
   have hs:SZ=16777216:=rfl;have XT:¬ (!Builtin.List.listFitsIndex i)=true:=by
    rw [fitsIndex_both (by lia) (by lia)];exact eQ
   refine yc F.slot_list_insert ⟨_,e,rfl⟩ F.entry_list_insert (F.args_list_insert_3 _ _ _)
    (AutoSeq1.list_insert_list_int_val_1 l a7.toArray n i t u2 XT (by rw [aJ]; lia)) ⟨e,?_⟩
   have hi:i.toNat<=a7.length:=by lia
   refine⟨.cy,_,.cy,_,I.Rf (its':=a7.take i.toNat++u2 :: a7.drop i.toNat) (ys:=vs.take i.toNat++w2 :: vs.drop i.toNat) hv e ?_ ((r.take _).append (.cons ru2 (r.drop _))) ?_,.putL ab hg hv ((rs.take _).append (.cons rw2 (rs.drop _))),rfl,.cy,q⟩
   ·dsimp only;have e1:(if i < 0 then (i+(a7.toArray.size:Int)).toNat else min i.toNat a7.toArray.size)=i.toNat:=by
     rw [if_neg (by lia),aJ]; lia
    rw [e1];exact Rm hi
   ·rw [aB,ah,dG,cK];lia
  ·exact q.elim
 ·exact q.elim
theorem IZ (hu : X.A.units + 64 < cLine) : Nd X "list.index" Be := by
  intro pins s σ H G x d xs ds v us Q I ab rx rd QG yy q;unfold Be at q;split at q
  · rename_i d'
    obtain⟨hy, zs, sn, ss, hi, s1, s2, q⟩ := q;obtain⟨w, rfl, sN⟩ := yy.one;obtain⟨u, rfl, ru⟩ := QG.one;have lists : ∃ l vs a7, v = .ref l ∧ Vals vs a7 ∧ aR X.K H vs zs ∧ s.heap.IsList l a7.toArray ∧ vs.length ≤ aT := by
      cases rd with
      | eL hq rs =>
        cases hi;cases rx;obtain⟨a7, rv, pl, hz⟩ := I.list hq.sq;exact⟨_, _, a7, rfl, rv, rs, pl.isList, hz⟩
      | ref l =>
        unfold itemsOf at hi;dsimp only at hi;cases hg : G l with
        | none => rw [hg] at hi; cases hi
        | some g =>
          rw [hg] at hi;cases g with
          | lst ds =>
            cases hi;cases rx;obtain⟨vs, hv, rs⟩ := ab.lst hg;obtain⟨a7, rv, pl, hz⟩ := I.list (.of hv);exact⟨_, _, a7, rfl, rv, rs, pl.isList, hz⟩
          | ins _ _ => cases hi
          | HE _ => cases hi
          | kI _ => cases hi
      | _ => exact bf hy
    obtain⟨l, vs, a7, rfl, rv, rs, hl, hz⟩ := lists;obtain⟨as, ra⟩ := (gX I ab s1).1 w u sN ru;obtain⟨bs, rb⟩ := (gX I ab s2).2 zs ss (.inl ⟨rfl, rfl⟩) vs a7 rs rv;have d2 := HG (n := 7) s2;have n2 : oV ss = true := s2.nr;have xx := tF _ n2;have B3 : X.A.units + 1 + min (bU (kO ss)) (pd sn).depth < cLine := by lia
    have La : gB s.heap a7.toArray.toList (kO ss) bs := by simpa using rb
    have mp := SeqAt.readsAll_map _ _ _ xx La;split at q
    · rename_i k hk
      obtain⟨pf, XJ, Mh⟩ := List.findIdx?_eq_some_iff_getElem.mp hk;have pdl : ∀ (zz : List D), (kO zz).length = zz.length := by
        intro zz;induction zz with
        | nil => rfl
        | cons a r ih => exact congrArg Nat.succ ih
      have hlen : a7.length = ss.length := by
        have := congrArg gE mp;rw [aj, pdl] at this;simpa using this
      have at_ : ∀ (m : Nat) (h1 : m < a7.toArray.size) (h2 : m < ss.length), sx (yW s.heap a7.toArray[m]) (pd sn) = g4 ss[m] sn := by
        intro m h1 h2;have e1 : (a7.toArray.toList.map (yW s.heap))[m]? = (kO ss)[m]? := by rw [mp]
        have pdg : ∀ (zz : List D) (m : Nat) (h : m < zz.length), (kO zz)[m]? = some (pd zz[m]) := by
          intro zz;induction zz with
          | nil => intro m h; simp at h
          | cons a r ih => intro m h; cases m with
            | zero => rfl
            | succ m => exact ih m (sy h)
        rw [pdg ss m h2] at e1;have h1' : m < a7.length := by simpa using h1
        have e2 : yW s.heap a7.toArray[m] = pd ss[m] := by
          simpa [h1'] using e1
        rw [e2];have nrm : nr ss[m] = true := by
          have : ∀ (zz : List D) (m : Nat) (h : m < zz.length), oV zz = true -> nr zz[m] = true := by
            intro zz;induction zz with
            | nil => intro m h; simp at h
            | cons a r ih => intro m h hn; have Eb : nr a = true ∧ oV r = true := (jg).mp hn
                             cases m with
                             | zero => exact Eb.1
                             | succ m => exact ih m (by simpa using h) Eb.2
          exact this ss m h2 n2
        exact r8 _ _ nrm s1.nr
      have sz : aT = 16777216 := bN;have hvl : vs.length = a7.length := rv.length;obtain⟨⟨cls, dd, data, sl⟩, ho, hc, n, hd⟩ := id hl;simp only at hc hd;subst hc hd;have Zn : k < a7.toArray.size := by rw [aJ]; lia
      refine yc Et ⟨_, ho, rfl⟩ PySem.F.entry_list_index (PySem.F.args_list_index_2 _ _)
        (SeqAt.list_indexAt l a7.toArray n dd sl u (fun y => sx (yW s.heap y) (pd sn)) k Zn (by lia) ?_ ?_) ⟨ho, lY La ra xx (jz _ s1.nr) B3, ?_⟩
      · rw [at_ k Zn pf]; exact XJ
      · intro m hm hmk
        have Ur : m < ss.length := by lia
        rw [at_ m hm Ur];simpa using Mh m hmk
      · exact⟨.int k, H, .int k, G, I.tok _, .refl ab, ⟨_, rfl⟩, .int _, q⟩
    · exact q.elim
  · exact q.elim
theorem Hb:gm X (.Dict [] [] pos) xU:=by
 intro E pins s σ H τ G Q hE I h;exact fy (Lr pins s σ H (x6 X.K H G Q) I.inv fun p hp=>⟨_,_,.new I.ab hp (.dk cj .nil),.ref _,h p (I.ab.free hp)⟩) fun _ _ z=>.of z
end
noncomputable def fR(env:Env):List (Str×rn)->List (Str×Addr)->List (Str×Addr)
 | [],acc=>acc
 | (n,k) :: r,acc=>if k=.free then fR env r ((n,(env.cells.lookup n).getD 0) :: acc) else fR env r acc
theorem se(env:Env)(f:Str×rn->List (Str×Addr)->Sem (ForInStep (List (Str×Addr))))(hf:∀ n k c,f (n,k) c=if (k == jM)=true then (cellOf env n >>= fun a=>pure (qW ((n,a) :: c))) else pure (qW c)) :
  ∀ (ns:List (Str×rn)) (acc:List (Str×Addr)),(∀ x∈ns,x.2=.free->∃ c,env.cells.lookup x.1=some c)->forIn ns acc f=(pure (fR env ns acc):Sem (List (Str×Addr)))
 | [],acc,_=>rfl
 | (n,k) :: r,acc,h=>by
  rw [List.forIn_cons,hf];have hr:∀ x∈r,x.2=.free->∃ c,env.cells.lookup x.1=some c:=fun x hx=>h x (aN _ hx);by_cases hk:k=.free
  ·subst hk;obtain⟨c,hc⟩:=h (n,.free) bI rfl;have ec:cellOf env n=pure c:=by unfold cellOf; rw [hc]
   rw [if_pos (by decide),ec,pure_bind,pure_bind];show forIn r ((n,c) :: acc) f=_;rw [se env f hf r _ hr];show _=(pure (fR env ((n,.free) :: r) acc):Sem (List (Str×Addr)));rw [fR,if_pos rfl,hc]; rfl
  ·rw [if_neg (by simpa using hk),pure_bind];show forIn r acc f=_;rw [se env f hf r _ hr];show _=(pure (fR env ((n,k) :: r) acc):Sem (List (Str×Addr)));rw [fR,if_neg hk]
theorem yL{env:Env}{scope:Scope}(h:∀ x∈scope.names,x.2=.free->∃ c,env.cells.lookup x.1=some c):closureFor scope env=pure (fR env scope.names []):=by
 unfold closureFor;dsimp only;rw [se env _ (fun n k c=>?_) scope.names [] h]
 ·rfl
 ·by_cases hk:(k == jM)=true
  ·simp only [hk,if_true]
  ·simp only [hk,if_false,au]
theorem sI{env:Env}{x:Str}{c:Addr}:∀ {ns:List (Str×rn)} {acc:List (Str×Addr)},(∀ y∈ns,y.2=.free->∃ c,env.cells.lookup y.1=some c)->(∀ y c,acc.lookup y=some c->env.cells.lookup y=some c)->(fR env ns acc).lookup x=some c->env.cells.lookup x=some c
 | [],_,_,ha,e=>ha _ _ e
 | (n,k) :: r,acc,h,ha,e=>by
  have hr:∀ y∈r,y.2=.free->∃ c,env.cells.lookup y.1=some c:=fun y hy=>h y (aN _ hy);unfold fR at e;by_cases hk:k=.free
  ·rw [if_pos hk] at e;refine sI hr (fun y c' q=>?_) e;rw [jH] at q;by_cases hy:(y == n)=true
   ·rw [hy] at q;have e1:y=n:=eq_of_beq hy;subst e1;obtain⟨c0,hc0⟩:=h (y,k) bI hk;rw [hc0] at q ⊢;exact q
   ·have Xf:(y == n)=false:=by simpa using hy
    rw [Xf] at q;exact ha y c' q
  ·rw [if_neg hk] at e;exact sI hr ha e
theorem nN{env:Env}{x:Str}:∀ {ns:List (Str×rn)} {acc:List (Str×Addr)},((x,jM)∈ns\/∃ c,acc.lookup x=some c)->∃ c,(fR env ns acc).lookup x=some c
 | [],_,h=>by rcases h with h | h; exact absurd h (by simp); exact h
 | (n,k) :: r,acc,h=>by
  unfold fR;have grow:∀ a,(∃ c,acc.lookup x=some c)->∃ c,((n,a) :: acc).lookup x=some c:=fun a B4=>by
   obtain⟨c,hc⟩:=B4;rw [jH];by_cases hy:(x == n)=true
   ·rw [hy]; exact⟨_,rfl⟩
   ·have Xf:(x == n)=false:=by simpa using hy
    rw [Xf]; exact⟨c,hc⟩
  by_cases hk:k=.free
  ·rw [if_pos hk];refine nN ?_;rcases h with h | h
   ·rcases List.mem_cons.mp h with e | h
    ·injection e with e1 e2
     subst e1;exact .inr ⟨(env.cells.lookup x).getD 0,by rw [jH]; simp⟩
    ·exact .inl h
   ·exact .inr (grow _ h)
  ·rw [if_neg hk];refine nN ?_;rcases h with h | h
   ·rcases List.mem_cons.mp h with e | h
    ·injection e with e1 e2
     exact absurd e2.symm hk
    ·exact .inl h
   ·exact .inr h
noncomputable abbrev dJ(X:Cx)(N:List Str)(scope:Scope)(C:Addr)(s:ak)(H:Hp)(fp:List Addr):Cx :=
 { X with env:=compEnvC scope (fR X.env scope.names []) C X.env,N:=N,gS:=s,JL:=H,outer:=X.stack,stack:=X.stack,ex:=fp,fn:=fun _=>false,pn:=[],xe:=fun _ _=>False }
theorem sQ{scope:Scope}{env:Env}{x:Str}(h:(Ef scope env).names.lookup x=some .cell\/(Ef scope env).names.lookup x=some .free)(oX:∀ y∈scope.names,y.2≠.cell):(x,jM)∈scope.names:=by
 have go:∀ k,(Ef scope env).names.lookup x=some k->k=.cell\/k=.free->(x,jM)∈scope.names:=by
  intro k hk hkk;have hm:=hW hk;unfold Ef at hm;dsimp only at hm;obtain⟨⟨n,j⟩,hj,e⟩:=List.mem_map.mp hm;dsimp only at e;by_cases hc:(j == jM&&env.scope.kind == .function&&env.kindOf n == some .cell)=true
  ·rw [if_pos hc] at e;rw [aG,aG] at hc;injection e with e1 e2
   have ej:j=.free:=eq_of_beq hc.1.1;rw [ej,e1] at hj;exact hj
  ·rw [if_neg hc] at e;injection e with e1 e2
   subst e1;rcases hkk with r | r
   ·exact absurd (e2.trans r) (oX _ hj)
   ·rw [e2.trans r] at hj; exact hj
 rcases h with h | h
 ·exact go _ h (.inl rfl)
 ·exact go _ h (.inr rfl)
section
variable {X:Cx} {N:List Str} {scope:Scope} {fp:List Addr} {pins:List (Addr×Obj)} {σ:L2.St} {H:Hp} {s:ak} {C:Addr}
theorem R1(I:Inv X pins σ H s)(oX:∀ y∈scope.names,y.2≠.cell)(zx:scope.kind=.function)(oW:∀ y∈scope.names,y.2=.free->X.env.kindOf y.1=some .cell)(hC:s.heap.objs.size<=C)(Uz:∀ b∈fp,px X pins H b/\b < s.heap.objs.size):(dJ X N scope C s H fp).Ok:=by
 have yD:∀ y∈scope.names,y.2=.free->∃ c,X.env.cells.lookup y.1=some c:=fun y hy hf=>I.ok.has _ (.inl (oW y hy hf));have Qw:∀ x c,(fR X.env scope.names []).lookup x=some c->X.env.cells.lookup x=some c:=fun x c e=>sI yD (fun y c q=>by simp at q) e;refine⟨I.ok.mod,zx,I.ok.glob,I.ok.blt,hC,fun x y c h1 h2=>I.ok.inj x y c (Qw x c h1) (Qw y c h2),fun x hx=>?_,fun x c h=>absurd h (by simp),I.ok.hd,I.ok.frames,.inl rfl,fun b hb=>?_,I.bs,bZ I.ok.J9 I.sz,fun b o e hb=>?_,fun b hb=>?_,I.stack,I.AJ⟩
 ·exact nN (.inl (sQ hx oX))
 ·obtain⟨⟨f0,f1,f2,f3,f4,f5⟩,pf⟩:=Uz b hb;exact⟨bA (bw pf hC),fun x c e=>f4 x c (Qw x c e)⟩
 ·obtain⟨⟨f0,f1,f2,f3,f4,f5⟩,pf⟩:=Uz b hb;rcases f3 with f3 | f3
  ·exact I.ok.IY b o e f3
  ·exact absurd (bw (aK e) (bZ I.ok.J9 f3)) (eR _)
 ·obtain⟨⟨f0,f1,f2,f3,f4,f5⟩,pf⟩:=Uz b hb;intro z;rcases List.mem_cons.mp (I.EO b z) with e | e
  ·exact f1 e
  ·exact f2 e
theorem Pl{rg:Heap}{m:Nat}{fr:List Nat}{tk:Nat}(I:Inv X pins σ H s)(ok:(dJ X N scope s.heap.objs.size s H fp).Ok)(RH:∀ y∈scope.names,y.2≠.cell)(oW:∀ y∈scope.names,y.2=.free->X.env.kindOf y.1=some .cell)(hN:N.length=m+fr.length)
  (XR:∀ j i x,fr[j]?=some i->N[m+j]?=some x->X.N[i]?=some x/\X.env.scope.names.lookup x=some .cell/\(Ef scope X.env).names.lookup x=some .cell) (Bm:∃ mm,rg.Ns s.heap.objs.size mm) (hk:∀ b o,s.heap.get? b=some o->rg.get? b=some o) :
  Inv (dJ X N scope s.heap.objs.size s H fp) [] (bq m none++fr.map fun i=>(σ[i]?).getD none) H { s with heap:=rg,toks:=tk }:=by
 have yD:∀ y∈scope.names,y.2=.free->∃ c,X.env.cells.lookup y.1=some c:=fun y hy hf=>I.ok.has _ (.inl (oW y hy hf));have Qw:∀ x c,(fR X.env scope.names []).lookup x=some c->X.env.cells.lookup x=some c:=fun x c e=>sI yD (fun y c q=>by simp at q) e;obtain⟨mm,Bm⟩:=Bm;refine⟨ok,rfl,I.bare,Un.kept hk,⟨mm,Bm,fun i x v h1 h2 h3=>?_⟩,fun x c e=>?_,I.ck.fresh (aC _),fun x c e=>?_,fun p hp=>absurd hp (by simp),I.ck.kept hk,?_⟩
 ·by_cases hi:i < m
  ·rw [cq (by simpa using hi),kz] at h2;split at h2 <;> cases h2
  ·obtain⟨j,rfl⟩:∃ j,i=m+j:=⟨i - m,by lia⟩;rw [bK (by simp),ff,rJ,bO] at h2;cases hj:fr[j]? with
   | none=>rw [hj] at h2; cases h2
   | some k =>
    rw [hj] at h2;have Mp:(σ[k]?).getD none=some v:=by simpa using h2
    have Nz:σ[k]?=some (some v):=by
     cases q:σ[k]? with
     | none=>rw [q] at Mp; cases Mp
     | some o=>rw [q] at Mp; simp at Mp; rw [Mp]
    obtain⟨e1,e2,e3⟩:=XR j k x hj h1;obtain⟨m0,Zh,Zl⟩:=I.loc;obtain⟨u,r,l⟩:=Zl k x v e1 Nz (.inr (.inl e2));refine⟨u,r,.inr ⟨.inl e3,?_⟩⟩;rcases l with ⟨l1,_⟩ | ⟨_,c,hc,oX⟩
    ·have:X.env.scope.names.lookup x=some .local:=l1;rw [e2] at this; cases this
    ·have hx:(x,jM)∈scope.names:=sQ (.inl e3) RH;obtain⟨c',O6⟩:=nN (env:=X.env) (x:=x) (ns:=scope.names) (acc:=[]) (.inl hx);have:=Qw x c' O6;rw [hc] at this;have ec:c=c':=bp this;subst ec;obtain⟨oc,Sy,hd⟩:=oX;exact⟨c,O6,oc,hk _ _ Sy,hd⟩
 ·obtain⟨v,oc,Sy,hd⟩:=I.cell x c (Qw x c e);exact⟨v,oc,hk _ _ Sy,hd⟩
 ·exact I.iE x c (Qw x c e)
 ·rw [aB,ff,aj];exact hN.symm
theorem BH{prog:bo}{w:World}{A:cx}{R:Result->ak->Prop}{s:ak}{elt target iter:Expr}{ifs:List Expr}{sc:Scope}{pos:Pos}{it acc:Value}{env:Env}(J:Nat->ak->Prop)
  (turn:∀ n s,J n s->wpAny (model prog w) A (rm it) (fun r eV=>match r with
   | none=>R (.ok .next) eV
   | some v=>wpAny (model prog w) A (wB target it v) (fun _ S9=>wpAny (model prog w) A (Kl target env v) (fun _ iQ =>
     wpAny (model prog w) A (forIn ifs true fun c r=>if r=true then do let ok ← isTrue c env (eval c env); pure (qW ok) else pure (qW r)) (fun k AI =>
      if k=true then wpAny (model prog w) A (eval elt env) (fun x Iy=>wpAny (model prog w) A (call (.builtin "list.append") [acc,x]) (fun _ KP=>∃ m,m < n/\J m KP) (fun _ _=>False) Iy) (fun _ _=>False) AI
      else ∃ m,m < n/\J m AI) (fun _ _=>False) iQ) (fun _ _=>False) S9) (fun _ _=>False) eV) (fun _ _=>False) s) (n:Nat) (h:J n s) :
  mF (model prog w) A (.compLoop (.ListComp elt [⟨target,iter,ifs,0⟩] sc pos) 0 it acc env) R s:=by
 have no:∀ {α:Type} {t:Sem α} {Q:α->ak->Prop} {E:Value->ak->Prop} {s:ak},wpAny (model prog w) A t Q (fun _ _=>False) s->wpAny (model prog w) A t Q E s:=fun h=>eA h (fun _ _ q=>q) fun _ _ z=>z.elim;refine codeAny_loop rfl J (fun n s hJ=>?_) n h;show wpAny _ A ((compTurn (.ListComp elt [⟨target,iter,ifs,0⟩] sc pos) 0 it acc env).onRaise (fun x=>do Kh x env; theTreesLotGoes x)) _ _ s;refine wpAny_noted ?_;rw [compTurn_list];refine ae (uk (ae (fy (no (turn n s hJ)) fun r eV rg=>?_)));cases r with
 | none=>exact aq rg
 | some v =>
  refine ae (fy (no rg) fun _ iQ Fw=>ae (fy (no Fw) fun _ AI Xa=>ae (fy (no Xa) fun k Iy Uc=>?_)));cases k with
  | false=>exact aq ⟨rfl,Uc⟩
  | true=>exact ae (ae (fy (no Uc) fun x KP W9=>ae (fy (no W9) fun _ aaf W8=>aq (aq ⟨rfl,W8⟩))))
noncomputable def CompEnd(X:Cx)(pins:List (Addr×Obj))(σ:L2.St)(H:Hp)(G:Gp)(Q:DK)(C Dd:Addr)(s':ak):Prop :=
 ∃ m H' G',Inv X pins σ H' s'/\s'.heap.Ns C m/\px X pins H' C/\Mv X.K H G H' G'/\Q (.ref Dd) G'
inductive Sd (Xc:Cx):List Expr->Option wt->Prop
 | none:Sd Xc [] none
 | some {c:Expr} {t:wt}:B7 Xc c t->Sd Xc [c] (some t)
theorem zL{τ:hV}{G G2:Gp}{H2:Hp}{s2:ak}{tg elt iter:Expr}{ifs:List Expr}{pos:Pos}{m:Nat}{fr:List Nat}{E:kC}{g:yM}{c:Option wt}{te:fx}{J:It}{tn:Nat->Heap->Prop}{it:Addr}{ds:List D}{ok:Gp->Prop}{Q:DK}{Rr:Value->Addr->Result->ak->Prop}{E0:Value->ak->Prop}
  (hc:X.calm=true) (oX:∀ y∈scope.names,y.2≠.cell) (zx:scope.kind=.function) (oW:∀ y∈scope.names,y.2=.free->X.env.kindOf y.1=some .cell) (hN:N.length=m+fr.length)
  (XR:∀ j i x,fr[j]?=some i->N[m+j]?=some x->X.N[i]?=some x/\X.env.scope.names.lookup x=some .cell/\(Ef scope X.env).names.lookup x=some .cell)
  (hg:∀ C s H fp,Kb (dJ X N scope C s H fp) tg g) (hi:∀ C s H fp,Sd (dJ X N scope C s H fp) ifs c) (he:∀ C s H fp,gm (dJ X N scope C s H fp) elt te)
  (I:I2 X pins σ H2 τ G2 s2) (m2:Mv X.K H G H2 G2) (T:Turn X.prog X.w X.K tg J fp it tn) (PF:tn 0 s2.heap) (f2:∀ b∈fp,px X pins H2 b) (wk:Qj X.K J H2 ds ok) (hz:ds.length<=SZ)
  (X6:∀ ex G,¬ E ex G) (q:jX g c te ok ds E (xY m fr τ) G2 [] fun xs G3=>kJ G3 (.lst xs) Q)
  (fin:∀ C s',CompEnd X pins σ H G Q C s2.heap.objs.size s'->Rr (.ref s2.heap.objs.size) C (.ok .next) s') :
  wpAny (model X.prog X.w) X.A (newList []) (fun acc AI=>wpAny (model X.prog X.w) X.A (newFunctionEnv scope X.env.globals (fR X.env scope.names []) [] X.env.qual none .none (some X.env)) (fun U6 Iy =>
   mF (model X.prog X.w) X.A (.compStart (.ListComp elt [⟨tg,iter,ifs,0⟩] scope pos) 0 (.ref it) acc { U6 with scope:=Ef scope X.env }) (Rr acc U6.locals) Iy) E0 AI) E0 s2:=by
 have sz:aT=16777216:=bN;have uP:H2 s2.heap.objs.size=none:=I.inv.ck.fresh (aC _);have RN:G2 s2.heap.objs.size=none:=I.ab.free uP;refine di (wpAny_newFunctionEnv oX (by intro y hy; simp at hy) (fun rg Mg Mb=>?_) zx);dsimp only at Mg Mb ⊢;have I3:Inv X pins σ (upd H2 s2.heap.objs.size (.lst [])) { s2 with heap:=s2.heap.push { cls:=.type "list",data:=.seq ([]:List Value).toArray },toks:=s2.toks }:=I.inv.WZ (ys:=[]) .nil (bY _);generalize Za:({ s2 with heap:=s2.heap.push { cls:=.type "list",data:=.seq ([]:List Value).toArray },toks:=s2.toks }:ak)=s3 at I3;generalize UL:upd H2 s2.heap.objs.size (.lst [])=H3 at I3;have ZO:∀ b,b≠s2.heap.objs.size->H3 b=H2 b:=fun b hb=>by rw [<-UL,bu hb]
 have C8:s3.heap=s2.heap.push { cls:=.type "list",data:=.seq ([]:List Value).toArray }:=by rw [<-Za]
 have Th:s3.heap.objs.size=s2.heap.objs.size+1:=by rw [C8,iy]
 have Mj:∀ b∈fp,b < s2.heap.objs.size:=fun b hb=>by
  obtain⟨o,e,_⟩:=T.obj _ _ PF b hb;exact aK e
 have Uy:∀ b∈fp,px X pins H3 b/\b < s3.heap.objs.size:=fun b hb=>by
  have VP:=Mj b hb;obtain⟨f0,f1⟩:=f2 b hb;exact⟨⟨by rw [ZO b (bA VP)]; exact f0,f1⟩,bw VP (by rw [Th]; exact jP _)⟩
 have Vu:(dJ X N scope s3.heap.objs.size s3 H3 fp).Ok:=R1 I3 oX zx oW (aC _) Uy;have P5:∀ b o,s3.heap.get? b=some o->rg.get? b=some o:=fun b o e=>by
  have hb:b < s3.heap.objs.size:=aK e;refine Mb.extBut b o ?_ (ax _ ?_)
  ·rw [<-C8]; exact bA hb
  ·rw [<-C8]; exact e
 have Xy:∃ mm,rg.Ns s3.heap.objs.size mm:=⟨_,by rw [C8]; exact Mg⟩;have I4:=Pl (tk:=s3.toks+([]:List (Str×Value)).length) I3 Vu oX oW hN XR Xy P5;have W5:Kp H2 H3:=by rw [<-UL]; exact .new uP
 have Qi:jK X.K H3 G2:=by rw [<-UL]; exact(Mv.NA I.ab uP).ab
 have mv3:Mv X.K H2 G2 H3 G2:=by rw [<-UL]; exact .NA I.ab uP
 have Vs:HZ X.K H3 (bq m none++fr.map fun i=>(σ[i]?).getD none) (xY m fr τ):=by
  refine⟨by unfold xY; rw [aB,aB,aj,aj,ff,ff],fun i d h2=>?_⟩;unfold xY at h2;by_cases hi:i < m
  ·rw [cq (by simpa using hi),kz] at h2;split at h2 <;> cases h2
  ·obtain⟨j,rfl⟩:∃ j,i=m+j:=⟨i - m,by lia⟩;rw [bK (by simp),ff,rJ,bO] at h2;rw [bK (by simp),ff,rJ,bO];cases hj:fr[j]? with
   | none=>rw [hj] at h2; cases h2
   | some k =>
    rw [hj] at h2;have Mp:(τ[k]?).getD none=some d:=by simpa using h2
    have Nz:τ[k]?=some (some d):=by
     cases qq:τ[k]? with
     | none=>rw [qq] at Mp; cases Mp
     | some o=>rw [qq] at Mp; simp at Mp; rw [Mp]
    obtain⟨v,e1,e2⟩:=I.st.at' k d Nz;exact⟨v,by simp [e1],e2.mono W5⟩
 have hD3:H3 s2.heap.objs.size=some (.lst []):=by rw [<-UL,cj]
 have Tf:tn 0 rg:=T.keep _ _ _ PF fun b hb o e=>P5 b o (by rw [C8]; exact ax _ e);have KS:∀ {Hc:Hp},(∀ b∈fp,Hc b=none)->∀ b∈fp,px (dJ X N scope s3.heap.objs.size s3 H3 fp) [] Hc b:=fun hn b hb =>
  ⟨hn b hb,(Vu.UX b hb).1,Vu.Jz b hb,.inl hb,fun x c e=>(Vu.UX b hb).2 x c e,fun p hp=>absurd hp (by simp)⟩
 have neD:∀ b∈fp,b≠s2.heap.objs.size:=fun b hb=>bA (Mj b hb);have loop:mF (model X.prog X.w) X.A (.compLoop (.ListComp elt [⟨tg,iter,ifs,0⟩] scope pos) 0 (.ref it) (.ref s2.heap.objs.size) (dJ X N scope s3.heap.objs.size s3 H3 fp).env) (Rr (.ref s2.heap.objs.size) s3.heap.objs.size)
   { s3 with heap:=rg,toks:=s3.toks+([]:List (Str×Value)).length }:=by
  refine BH (fun n s'=>∃ i Nt Hc Kx Gc sf t6,I2 (dJ X N scope s3.heap.objs.size s3 H3 fp) [] Nt Hc Kx Gc s'/\Gc s2.heap.objs.size=none/\Hc s2.heap.objs.size=some (.lst sf)/\aR X.K Hc sf t6/\t6.length<=i/\Mv X.K H2 G2 Hc Gc/\tn i s'.heap/\(∀ b∈fp,Hc b=none) /\
   n=ds.length - i/\i<=ds.length/\jX g c te ok (ds.drop i) E Kx Gc t6 fun xs G3=>kJ G3 (.lst xs) Q) ?_ ds.length
   ⟨0,_,H3,_,G2,[],[],⟨I4,Vs,Qi⟩,RN,hD3,.nil,aC _,mv3,Tf,fun b hb=>by rw [ZO b (neD b hb)]; exact(f2 b hb).1,rfl,bY _,q⟩
  rintro n s4 ⟨i,Nt,Hc,Kx,Gc,sf,t6,Ic,gD,hD,rA,hA,mc,YF,ZJ,rfl,hle,wq⟩;have Y2:Kp H2 Hc:=mc.kp I.ab;by_cases pf:i < ds.length
  ·rw [cX pf] at wq;obtain⟨WB,wq⟩:=wq;obtain⟨go,yl⟩:=(wk i Hc Gc Y2 Ic.ab WB).1 ds[i] (by simp [pf]);refine fy (T.item (dJ X N scope s3.heap.objs.size s3 H3 fp) rfl rfl rfl hc i [] s4 Nt Hc (fun _ _=>False) Ic.inv (KS ZJ) YF go) ?_;rintro r s5 ⟨u,hr,h5⟩;subst hr;refine fy h5 ?_;rintro _ s6 ⟨x,H6,I6,r6,y6,Wh,fr6⟩;obtain⟨rd6,m6⟩:=yl x H6 y6;have I6':=I6.pinned (KS fr6) (T.obj _ _ Wh);have J6:I2 (dJ X N scope s3.heap.objs.size s3 H3 fp) ([]++pZ fp s6.heap) Nt H6 Kx Gc s6:=⟨I6',Ic.st.mono (m6.kp Ic.ab),m6.ab⟩;have back:∀ {SQ:L2.St} {H9:Hp} {Sg:hV} {G9:Gp} {s9:ak} {aV:List V} {aD:List D},I2 (dJ X N scope s3.heap.objs.size s3 H3 fp) ([]++pZ fp s6.heap) SQ H9 Sg G9 s9->Mv X.K H2 G2 H9 G9->G9 s2.heap.objs.size=none->H9 s2.heap.objs.size=some (.lst aV)->aR X.K H9 aV aD->aD.length<=i+1 ->
     (jX g c te ok (ds.drop (i+1)) E Sg G9 aD fun xs G3=>kJ G3 (.lst xs) Q)->∃ mm,mm < ds.length - i/\∃ i Nt Hc Kx Gc sf t6,I2 (dJ X N scope s3.heap.objs.size s3 H3 fp) [] Nt Hc Kx Gc s9/\Gc s2.heap.objs.size=none/\Hc s2.heap.objs.size=some (.lst sf)/\aR X.K Hc sf t6/\t6.length<=i /\
      Mv X.K H2 G2 Hc Gc/\tn i s9.heap/\(∀ b∈fp,Hc b=none)/\mm=ds.length - i/\i<=ds.length/\jX g c te ok (ds.drop i) E Kx Gc t6 fun xs G3=>kJ G3 (.lst xs) Q:=fun {SQ H9 Sg G9 s9 aV aD} I9 m9 g9 h9 r9 l9 n9=>by
    refine⟨ds.length - (i+1),by lia,i+1,SQ,H9,Sg,G9,aV,aD,⟨I9.inv.sG,I9.st,I9.ab⟩,g9,h9,r9,l9,m9,T.keep _ _ _ Wh fun b hb o e=>(I9.inv.pin (b,o) (cO _ (cO _ (n6 hb e)))).1,fun b hb=>?_,rfl,pf,n9⟩;obtain⟨o,e,d⟩:=T.obj _ _ Wh b hb;exact(I9.inv.pin (b,o) (cO _ (cO _ (n6 hb e)))).2.1
   have mc6:=mc.trans m6;have hD6:=m6.keep _ _ hD gD;refine fy (hg _ _ _ _ E _ s6 Nt H6 Kx Gc x ds[i] u _ (Lk.none X6) J6 r6 rd6 wq) ?_;rintro _ s7 ⟨JY,H7,JX,G7,I7,m7,q7⟩;have VS:=m7.keep _ _ hD6.1 gD;have Y0:=mc6.trans m7;have YN:=rA.mono ((m6.trans m7).kp Ic.ab);have U0:∀ (H8:Hp) (G8:Gp) (s8:ak),I2 (dJ X N scope s3.heap.objs.size s3 H3 fp) ([]++pZ fp s6.heap) JY H8 JX G8 s8->Mv X.K H7 G7 H8 G8->(te E JX G8 fun y G9=>jX g c te ok (ds.drop (i+1)) E JX G9 (t6++[y]) fun xs G3=>kJ G3 (.lst xs) Q) ->
     wpAny (model X.prog X.w) X.A (eval elt (dJ X N scope s3.heap.objs.size s3 H3 fp).env) (fun y Iy=>wpAny (model X.prog X.w) X.A (call (.builtin "list.append") [.ref s2.heap.objs.size,y]) (fun _ KP=>∃ mm,mm < ds.length - i/\∃ i Nt Hc Kx Gc sf t6,I2 (dJ X N scope s3.heap.objs.size s3 H3 fp) [] Nt Hc Kx Gc KP/\Gc s2.heap.objs.size=none/\Hc s2.heap.objs.size=some (.lst sf)/\aR X.K Hc sf t6/\t6.length<=i /\
      Mv X.K H2 G2 Hc Gc/\tn i KP.heap/\(∀ b∈fp,Hc b=none)/\mm=ds.length - i/\i<=ds.length/\jX g c te ok (ds.drop i) E Kx Gc t6 fun xs G3=>kJ G3 (.lst xs) Q) (fun _ _=>False) Iy) (fun _ _=>False) s8:=fun H8 G8 s8 I8 m8 q8=>by
    refine jn (he _ _ _ _) (Lk.none X6) I8 q8 fun v H9 d9 G9 u9 s9 I9 m9 r9 rd9 q9=>?_;have WY:=m8.trans m9;have VR:=WY.keep _ _ VS.1 VS.2;have rA9:=YN.mono (WY.kp I7.ab);have YZ:=Y0.trans WY;refine fy (zq (X:=dJ X N scope s3.heap.objs.size s3 H3 fp) _ s9 JY H9 (.ref s2.heap.objs.size) [v] _ [u9] (fun _ H'=>H'=upd H9 s2.heap.objs.size (.lst (sf++[v]))) I9.inv rfl (.cons r9 .nil)
     ⟨_,sf,v,rfl,rfl,VR.1,by rw [rA.length,sz]; have:SZ=16777216:=rfl; lia,rfl⟩) ?_
    rintro _ s10 ⟨v10,H10,Yw,_,e10⟩;subst e10;have W4:Kp H9 (upd H9 s2.heap.objs.size (.lst (sf++[v]))):=.putL VR.1;have ZR:jK X.K (upd H9 s2.heap.objs.size (.lst (sf++[v]))) G9:=fun a g' e=>by
     have ne:a≠s2.heap.objs.size:=by rintro rfl; rw [VR.2] at e; cases e
     exact(I9.ab a g' e).mono W4 (bu ne)
    have mA:Mv X.K H2 G2 (upd H9 s2.heap.objs.size (.lst (sf++[v]))) G9:=⟨fun a o e n=>by
      have ne:a≠s2.heap.objs.size:=dW e uP;obtain⟨e1,e2⟩:=YZ.keep a o e n;exact⟨by rw [bu ne]; exact e1,e2⟩,fun a n=>by
      by_cases ha:a=s2.heap.objs.size
      ·rw [ha,cj]; simp
      ·rw [bu ha]; exact YZ.iK a n,ZR⟩
    exact back ⟨Yw,I9.st.mono W4,ZR⟩ mA VR.2 cj ((rA9.append (.cons rd9 .nil)).mono W4) (by rw [aB,bV]; lia) q9
   cases hi s3.heap.objs.size s3 H3 fp with
   | none =>
    refine wpAny_tests_nil ?_;rw [if_pos rfl];exact U0 H7 G7 s7 I7 (.refl I7.ab) q7
   | some UI =>
    refine wpAny_tests_one (KN UI (Lk.none X6) I7 q7 fun k H8 G8 s8 I8 m8 q8=>?_);cases k with
    | true =>
     rw [if_pos rfl] at q8 ⊢;exact U0 H8 G8 s8 I8 m8 q8
    | false =>
     rw [if_neg eQ] at q8 ⊢;have ZH:=m8.keep _ _ VS.1 VS.2;exact back I8 (Y0.trans m8) ZH.2 ZH.1 (YN.mono (m8.kp I7.ab)) (by lia) q8
  ·have hn:ds.length<=i:=by lia
   rw [kU hn] at wq;obtain⟨WB,qn⟩:=wq;have stop:=(wk i Hc Gc Y2 Ic.ab WB).2 hn;refine fy (T.done (dJ X N scope s3.heap.objs.size s3 H3 fp) rfl rfl rfl hc i [] s4 Nt Hc (fun _ _=>False) Ic.inv (KS ZJ) YF stop) ?_;rintro r s5 ⟨hr,I5⟩;subst hr;refine fin s3.heap.objs.size s5 ?_;obtain⟨mm,Xz,_⟩:=I5.loc;have hC5:Hc s3.heap.objs.size=none:=I5.free;have I6:Inv X pins σ Hc s5:=by
    obtain⟨h5,g5,d5,t5,o5⟩:=s5;have eo:o5=s3.os:=I5.os;subst eo;exact I3.call (h':=h5) (g':=g5) (d':=d5) (t':=t5) (ch:=fp) I5.base I5.ck I5.bare fun b hb=>by
     obtain⟨⟨f0,f1,f2',f3,f4,f5⟩,hl⟩:=Uy b hb;exact⟨f3,f1,f4,f5⟩
   have mvF:Mv X.K H2 G2 Hc (dO Gc s2.heap.objs.size (.lst t6)):=⟨fun a o e n=>by
     have ne:a≠s2.heap.objs.size:=dW e uP;obtain⟨e1,e2⟩:=mc.keep a o e n;exact⟨e1,by rw [dN ne]; exact e2⟩,mc.iK,fun a g' e=>by
     by_cases ha:a=s2.heap.objs.size
     ·subst ha;rw [bg] at e;cases e;exact⟨sf,hD,rA⟩
     ·rw [dN ha] at e;exact Ic.ab a g' e⟩
   exact⟨mm,Hc,_,I6,Xz,I3.Jw (aC _) hC5,m2.trans mvF,qn _ gD⟩
 have all:mF (model X.prog X.w) X.A (.compStart (.ListComp elt [⟨tg,iter,ifs,0⟩] scope pos) 0 (.ref it) (.ref s2.heap.objs.size) (dJ X N scope s3.heap.objs.size s3 H3 fp).env) (Rr (.ref s2.heap.objs.size) s3.heap.objs.size)
   { s3 with heap:=rg,toks:=s3.toks+([]:List (Str×Value)).length }:=codeAny_compStart_list loop (T.self _ 0 _ _ _ Tf loop)
 subst Za;exact all
end
section
variable {X:Cx} {N:List Str} {scope:Scope} {tg elt iter:Expr} {ifs:List Expr} {pos:Pos} {m:Nat} {fr:List Nat} {wi:Pt} {g:yM} {c:Option wt} {te:fx}
structure ya(X:Cx)(N:List Str)(scope:Scope)(m:Nat)(fr:List Nat):Prop where
 cell:∀ y∈scope.names,y.2≠.cell
 kind:scope.kind=.function
 names:∀ y∈scope.names,y.2=.local->scope.names.lookup y.1=some .local
 free:∀ y∈scope.names,y.2=.free->X.env.kindOf y.1=some .cell
 len:N.length=m+fr.length
 at':∀ j i x,fr[j]?=some i->N[m+j]?=some x->X.N[i]?=some x/\X.env.scope.names.lookup x=some .cell/\(Ef scope X.env).names.lookup x=some .cell
theorem ya.closed{X:Cx}{N:List Str}{scope:Scope}{m:Nat}{fr:List Nat}(k:ya X N scope m fr){pins:List (Addr×Obj)}{σ:L2.St}{H:Hp}{s:ak}(I:Inv X pins σ H s):closureFor scope X.env=pure (fR X.env scope.names []) :=
 yL fun y hy hf=>I.ok.has _ (.inl (k.free y hy hf))
theorem IU(hc:X.calm=true)(k:ya X N scope m fr)(hi:Px X tg iter wi)(hg:∀ C s H fp,Kb (dJ X N scope C s H fp) tg g)(RD:∀ C s H fp,Sd (dJ X N scope C s H fp) ifs c)(he:∀ C s H fp,gm (dJ X N scope C s H fp) elt te)
  (hs:autoParam (∀ x,mE iter X.env x=pure x) Ai._auto_1):gm X (.ListComp elt [⟨tg,iter,ifs,0⟩] scope pos) (iG m fr wi g c te):=by
 intro E pins s σ H τ G Q hE I h;rw [eval_ListComp];refine wpAny_comprehension_free (use:=none) rfl hs (k.closed I.inv) k.kind k.names (fy (hi E pins s σ H τ G _ hE I h) fun xv eV rg=>fy rg fun P0 iQ Fw=>?_);obtain⟨it,fp,tn,J,H2,G2,ds,ok,e,iN,m2,T,PF,f2,wk,hz,q⟩:=Fw;subst e;refine zL (Rr:=fun acc C=>compPost (model X.prog X.w) X.A X.xe none (nF X pins σ H G Q) acc C) hc k.cell k.kind k.free k.len k.at' hg RD he (I.mv iN m2) m2 T PF f2 wk hz (fun _ _ z=>z) q ?_;rintro C s' ⟨mm,H',G',I',Bm,X9,mv,q'⟩;refine⟨mm,Bm,fun h' Fy=>?_⟩;obtain⟨f0,f1,_,f3,f4,f5⟩:=X9;exact⟨.ref _,H',.ref _,G',I'.turned (t':=s'.toks) (fun b o hb e=>Fy.extBut b o hb e) f0 f1 f3 f4 f5,mv,rfl,.ref _,q'⟩
theorem CH{i:Nat}{y:Str}{py KY:Pos}(hN:X.N.Nodup)(Xe:X.N[i]?=some y)(hy:X.env.scope.names.lookup y=some .local)(hc:X.calm=true)(k:ya X N scope m fr)(hi:Px X tg iter wi)(hg:∀ C s H fp,Kb (dJ X N scope C s H fp) tg g)
  (RD:∀ C s H fp,Sd (dJ X N scope C s H fp) ifs c) (he:∀ C s H fp,gm (dJ X N scope C s H fp) elt te) (Ue:autoParam (pF (.ListComp elt [⟨tg,iter,ifs,0⟩] scope pos) (some (.Name y py)) KY.line X.env=pure true) Ar._auto_1)
  (hs:autoParam (∀ x,mE iter X.env x=pure x) Ai._auto_1):B8 X (.Assign [.Name y py] (.ListComp elt [⟨tg,iter,ifs,0⟩] scope pos) KY) (cW (iG m fr wi g c te) (bb i)):=by
 intro E pins s σ H τ G D hE I h;rw [exec_Assign_Name_used _ _ _ _ Ue];refine ae (uk (ae ?_));show wpAny _ X.A (do let _ ← comprehension (.ListComp elt [⟨tg,iter,ifs,0⟩] scope pos) scope X.env _ (newList []) false (eval iter X.env) (some (Kl (.Name y py) X.env))) _ _ s;refine ae (fy (wpAny_comprehension_free (use:=some (Kl (.Name y py) X.env)) (Q:=fun _ s'=>Pu X pins H G D .next s') rfl hs (k.closed I.inv) k.kind k.names (fy (hi E pins s σ H τ G _ hE I h) fun xv eV rg=>fy rg fun P0 iQ Fw=>?_)) fun _ s' hq=>aq (aq hq));obtain⟨it,fp,tn,J,H2,G2,ds,ok,e,iN,m2,T,PF,f2,wk,hz,q⟩:=Fw;subst e;refine zL (Rr:=fun acc C=>compPost (model X.prog X.w) X.A X.xe (some (Kl (.Name y py) X.env)) (fun _ s'=>Pu X pins H G D .next s') acc C) hc k.cell k.kind k.free k.len k.at' hg RD he (I.mv iN m2) m2 T PF f2 wk hz (fun _ _ z=>z) q ?_;rintro C s' ⟨mm,H',G',I',Bm,X9,mv,q'⟩;show wpAny (model X.prog X.w) X.A (Kl (.Name y py) X.env (.ref iQ.heap.objs.size)) _ X.xe s';obtain⟨f0,f1,_,f3,f4,f5⟩:=X9;refine wpAny_assign_Name (uA (v:=.ref iQ.heap.objs.size) I' hN Xe (.inl hy) rfl (?_) (.inr hy));rintro s3 I3 ⟨a,VE,ha⟩;have hCa:C≠a:=by
  rcases ha with rfl | ha
  ·exact f1
  ·exact fun e=>f4 y a ha e.symm
 refine⟨mm,Bm.sameBut VE hCa,fun h' Fy=>?_⟩;exact⟨_,H',_,G',⟨I3.turned (t':=s3.toks) (fun b o hb e=>Fy.extBut b o hb e) f0 f1 f3 f4 f5,(I.st.mono (mv.kp I.ab)).set i (.ref _),mv.ab⟩,mv,q'⟩
theorem zB{i:Nat}{u:BQ}{n:Nat}(h:∀ E ds τ G Q,u E ds τ G Q->ds.length=n):∀ E ds τ G Q,xG (bb i) u E ds τ G Q->ds.length=n+1 :=
 Ju h (fun _ _ _ _ _ _ q k=>k _ _ q) fun _ _ _ _ q=>q
theorem bS (i:Nat) {x:Str} {pos:Pos} (hN:autoParam (X.N[i]?=some x) Ar._auto_1) (hv:autoParam (Vc X.env.scope x) Ao._auto_1) (hd:autoParam ((x == ("__debug__" : Str))=false) Ad._auto_1)
  (B5:autoParam ((x == ("__classdict__" : Str))=false) Ad._auto_1):gm X (.Name x pos) (ay i):=OE hN hv hd B5
theorem range_all(bs:List Bool):(cF bs.length).all (fun i=>bs.getD i true)=bs.all id:=by
 rw [Bool.eq_iff_iff,jI,jI];constructor
 ·intro h b hb;obtain⟨i,hi,e⟩:=eB hb;have:=h i (List.mem_range.mpr hi);rw [aH,ai hi,e] at this;exact this
 ·intro h i hi;have J8:=List.mem_range.mp hi;rw [aH,ai J8];exact h _ (bB J8)
theorem wW{K:ag}{H:Hp}:∀ {vs:List V} {bs:List Bool} {a7:List Value},aR K H vs (bs.map D.bl)->Vals vs a7->a7=bs.map uc
 | _,[],_,r,h=>by rw [br] at r; rw [r.zero] at h; cases h; rfl
 | _,b :: bs,_,r,h=>by
  rw [aI] at r;cases r with
  | cons r1 r2 =>
   cases r1;cases h with
   | cons h1 h2 =>
    cases h1;rw [wW r2 h2]; rfl
theorem xn{pins:List (Addr×Obj)}{s:ak}{σ:L2.St}{H:Hp}{G:Gp}{x:V}{d:D}{v:Value}{zs:List D}(I:Inv X pins σ H s)(ab:jK X.K H G)(rx:RelV x v)(rd:cb X.K H x d)(hi:itemsOf d G=some zs) :
  ∃ l vs a7,v=.ref l/\Vals vs a7/\aR X.K H vs zs/\(s.heap.IsList l a7.toArray\/s.heap.IsTuple l a7.toArray)/\vs.length<=aT:=by
 cases rd with
 | eL hq rs =>
  cases hi;cases rx;obtain⟨a7,rv,pl,hz⟩:=I.list hq.sq;exact⟨_,_,a7,rfl,rv,rs,.inl pl.isList,hz⟩
 | tup hq rs =>
  cases hi;cases rx;obtain⟨a7,rv,pl,hz⟩:=I.tuple (.of hq);exact⟨_,_,a7,rfl,rv,rs,.inr pl,hz⟩
 | ref l =>
  unfold itemsOf at hi;dsimp only at hi;cases hg:G l with
  | none=>rw [hg] at hi; cases hi
  | some gg =>
   rw [hg] at hi;cases gg with
   | lst ds =>
    cases hi;cases rx;obtain⟨vs,hv,rs⟩:=ab.lst hg;obtain⟨a7,rv,pl,hz⟩:=I.list (.of hv);exact⟨_,_,a7,rfl,rv,rs,.inl pl.isList,hz⟩
   | ins _ _=>cases hi
   | HE _=>cases hi
   | kI _=>cases hi
 | _=>cases hi
theorem JE (hc:X.calm=true):oR X (.builtin "all") R5:=by
 intro pins s σ H G xs ds us Q I ab rx rd q;unfold R5 at q;split at q
 ·rename_i x;obtain⟨bs,hb,q⟩:=q;obtain⟨v,rfl,r⟩:=rd.one;obtain⟨u,rfl,ru⟩:=rx.one;obtain⟨l,vs,a7,rfl,rv,rs,hl,hz⟩:=xn I ab ru r hb;have ei:=wW rs rv;have hlen:a7.length=bs.length:=by rw [ei,aj]
  have lX:∀ {o:Obj},s.heap.get? l=some o->l≠s.heap.objs.size:=fun e=>bA (aK e);have tr:TruthOf X.prog X.w X.A.in1 (fun i v=>a7.toArray[i]?=some v) (fun i=>bs.getD i true):=fun i v s' Q' E' hv hq=>by
   subst ei;have Rq:(bs.map uc)[i]?=some v:=by simpa using hv
   rw [bO] at Rq;cases VO:bs[i]? with
   | none=>rw [VO] at Rq; cases Rq
   | some b =>
    rw [VO] at Rq;cases Rq;dsimp only at hq;rw [aH,VO] at hq;exact ig hq
  have fin:∀ h' tk,(∀ b o,b∉[s.heap.objs.size]->s.heap.get? b=some o->h'.get? b=some o)->nF X pins σ H G Q (.bool ((cF a7.toArray.size).all fun i=>bs.getD i true)) { s with heap:=h',toks:=tk }:=fun h' tk hk=>by
   rw [aJ,hlen,range_all];exact⟨.bl _,H,.bl _,G,I.kept fun b o e=>hk b o (by simpa using bA (aK e)) e,.refl ab,rfl,.bl _,q⟩
  rcases hl with hl | hl
  ·refine call_all_walk (sk hl ?_);obtain⟨o,ho,yD,n,hd⟩:=id hl;exact⟨s.heap.objs.size,_,_,_,_,_,_,rfl,Walks.list (A:=X.A.in1) (show X.A.in1.handled=none from I.ok.hd hc) _ l (lX ho) a7.toArray,⟨⟨_,bh _ rfl,rfl,rfl⟩,⟨o,ax _ ho,yD,n,hd⟩⟩,tr,fun h' tk hk=>fin h' tk fun b o hb e=>hk b o hb (ax _ e)⟩
  ·refine call_all_walk (B9 hl ?_);obtain⟨o,ho,yD,n,hd⟩:=id hl;exact⟨s.heap.objs.size,_,_,_,_,_,_,rfl,Walks.tuple (A:=X.A.in1) (show X.A.in1.handled=none from I.ok.hd hc) _ l (lX ho) a7.toArray,⟨⟨_,bh _ rfl,rfl,rfl⟩,⟨o,ax _ ho,yD,n,hd⟩⟩,tr,fun h' tk hk=>fin h' tk fun b o hb e=>hk b o hb (ax _ e)⟩
 ·exact q.elim
theorem Lg{body:List Stmt}{t2:i6}(h:rj X body t2){E:kC}(hE:Lk X E):NG X body (fun D σ H=>∃ (τ:hV) (G:Gp) (D2:kR),HZ X.K H σ τ/\jK X.K H G/\t2 E D2 τ G /\
  (∀ iP H' mR G',Mv X.K H G H' G'->D2.nx mR G'->D.nx iP H')/\(∀ v H' d G',Mv X.K H G H' G'->cb X.K H' v d->D2.rt d G'->D.rt v H')/\(∀ τ G,¬ D2.bk τ G)/\(∀ τ G,¬ D2.ct τ G)):=by
 rintro pins s σ H D I ⟨τ,G,D2,st,ab,q,k1,k2,k3,k4⟩;refine fy (h E pins s σ H τ G D2 hE ⟨I,st,ab⟩ q) fun f s1 z=>?_;cases f with
 | next=>obtain⟨iP,H',mR,G',J,mv,z⟩:=z; exact⟨iP,H',J.inv,k1 iP H' mR G' mv z⟩
 | brk=>obtain⟨iP,H',mR,G',J,mv,z⟩:=z; exact(k3 _ _ z).elim
 | cont=>obtain⟨iP,H',mR,G',J,mv,z⟩:=z; exact(k4 _ _ z).elim
 | ret u=>obtain⟨v,iP,H',d,G',J,mv,r,rd,z⟩:=z; exact⟨v,iP,H',J,r,k2 v H' d G' mv rd z⟩
theorem wM{K:ag}{H:Hp}{Nn:List Str}{vs:List V}{ds:List D}(r:aR K H vs ds):HZ K H (L2.start Nn vs) (bP Nn.length ds):=by
 unfold L2.start bP;refine⟨by simp [r.length],fun i d h=>?_⟩;by_cases hi:i < ds.length
 ·rw [cq (by simpa using hi),bO] at h;cases hd:ds[i]? with
  | none=>rw [hd] at h; cases h
  | some d' =>
   rw [hd] at h;have e:d'=d:=by simpa using h
   subst e;obtain⟨v,h1,h2⟩:=r.get hd;refine⟨v,?_,h2⟩;rw [cq (by simpa [r.length] using hi),bO,h1]; rfl
 ·rw [bK (by simpa using hi),kz] at h;split at h <;> cases h
theorem O9{P:bo}{w:World}{K:ag}{mg:Str->Option Value}{base:Heap}{x qual:Str}{st:Stmt}{f:Addr}{fd:aL}{Nn ps:List Str}{k:Nat}{sp:pD}{rd:i6}(F:rE K x qual st f fd)(S:cQ Nn ps (a5 st))(len:∀ ds G Q E,sp ds G Q E->ds.length=ps.length)
  (hr:∀ ds G Q,sp ds G Q (fun _ _=>False)->rd (fun _ _=>False) (ends Q) (bP Nn.length ds) G)
  (hb:∀ (jJ:Value) (A:cx) (outer:List Env) (s:ak) (H:Hp) (E:XK),iC k (A.deeper (sr qual (a5 st) s.heap.objs.size f jJ))->rj (nB kr P w K mg base Nn qual (a5 st) f jJ A outer s H E).Q4 (fU st) rd):gi P w K mg base kr (k+1) f fd ps (gf K sp):=by
 refine F.ok S ((by rintro vs H Q E ⟨ds,G,Q2,r,ab,q,_⟩; exact by rw [r.length]; exact len _ _ _ _ q)) ?_;rintro jJ A outer s H vs Q E C6 ⟨ds,G,Q2,r,ab,q,kk⟩;refine⟨_,Lg (hb jJ A outer s H E C6) (E:=fun _ _=>False) (Lk.none fun _ _ z=>z),?_⟩;exact⟨bP Nn.length ds,G,ends Q2,wM r,ab,hr ds G Q2 q,fun iP H' mR G' mv z=>kk _ _ _ _ z mv .cy,fun v H' d G' mv Oi z=>kk _ _ _ _ z mv Oi,fun _ _ z=>z,fun _ _ z=>z⟩
section
variable {prog:bo} {w:World} {A:cx} {R:Result->ak->Prop} {V1:Addr} {fq wr:List Addr} {n:Nat} {P:Nat->Value->Prop} {Sx:Nat->Heap->Prop}
theorem Q7(W:Walks prog w A.in1 V1 fq wr n P Sx)(bt:Nat->Nat->Bool)(T:Heap->Prop)(B:Addr)(hB:B∉fq)(hT:∀ h h',T h->(∀ b o,b∉wr->b≠B->h.get? b=some o->h'.get? b=some o)->T h')
  (cmp:∀ i j x y s (Q:Value->ak->Prop) (E:Value->ak->Prop),T s.heap->P i x->P j y->Q (.bool (bt i j)) s->wpAny (model prog w) A.in1 (pH .Lt x y) Q E s) :
  ∀ (k j:Nat) (s:ak) (best:Value) (cc:Nat),n - (j+1)=k->j+1<=n->Sx (j+1) s.heap->T s.heap->P (pJ bt j) best ->
  s.heap.get? B=some { cls:=.type "list",dict:=none,data:=.seq #[best,best] cc,slots:=#[] } ->
  (∀ v h' tk,P (pJ bt (n - 1)) v->(∀ b o,b∉wr->b≠B->s.heap.get? b=some o->h'.get? b=some o)->R (.ok (.ret v)) { s with heap:=h',toks:=tk }) ->
  mF (model prog w) A (.builtin "min.loop" ⟨[.ref V1,.none,.ref B],[]⟩) R s:=by
 have ZI:B∉wr:=fun z=>hB (W.sub _ z);have nm:(toString "min"++toString ".loop" : String) = "min.loop":=by decide
 intro k;induction k with
 | zero =>
  intro j s best cc hk hj hs ht hp hb hR;have ej:j+1=n:=by lia
  refine fE Ey ?_; rw [eM iI _];show wpAny _ A.in1 (seqItems? (.ref B) >>= _) _ _ s; refine ae (NJ hb rfl ?_);show wpAny _ A.in1 (tryCatch (rm (.ref V1)) _ >>= _) _ _ s; refine ae (yR (W.done s _ _ (ej ▸ hs) fun h' tk kept=>?_));have yk:=kept B _ ZI hb;show wpAny _ A.in1 (updateSeq B (fun _=>#[]) >>= _) _ _ _; refine ae ?_;refine wz yk rfl (ae (zX (aq ?_)));exact hR best _ tk (by rw [<-ej]; exact hp) fun b o z1 z2 e=>(cI _ _ (jZ z2)).trans (kept b o z1 e)
 | succ k ih =>
  intro j s best cc hk hj hs ht hp hb hR;have lt:j+1 < n:=by lia
  refine fE Ey ?_; rw [eM iI _];show wpAny _ A.in1 (seqItems? (.ref B) >>= _) _ _ s; refine ae (NJ hb rfl ?_);show wpAny _ A.in1 (tryCatch (rm (.ref V1)) _ >>= _) _ _ s; refine ae (yR (W.item (j+1) s _ _ lt hs fun v h' tk pv yu kept=>?_));have yk:=kept B _ ZI hb;have Su:T h':=hT _ _ ht fun b o z1 _ e=>kept b o z1 e;show wpAny _ A.in1 (tryCatch (Ej [v,v] (pH .Lt v best >>= _)) _ >>= _) _ _ _;refine ae (yR (cE (ae (cmp (j+1) (pJ bt j) v best _ _ _ Su pv hp ?_)))); refine ae (cE (ig ?_)); refine ae (zX (aq ?_));cases Zz:bt (j+1) (pJ bt j) with
  | true =>
   simp only [if_true]; refine ae ?_;refine wz yk rfl (ae (zX ?_)); rw [nm];refine aq ⟨jG iI _,ih (j+1) _ v _ (by lia) lt (W.frame _ _ _ yu fun b z o e=>?_) (hT _ _ Su fun b o _ z2 e=>?_) (by simp only [pJ,Zz,if_true]; exact pv) (dE _ yk rfl) fun v' UN KL Ts kk=>?_⟩
   ·exact(cI _ _ (fun z':B=b=>hB (by rw [z']; exact z))).trans e
   ·exact(cI _ _ (jZ z2)).trans e
   ·exact hR v' UN KL Ts fun b o z1 z2 e=>kk b o z1 z2 ((cI _ _ (jZ z2)).trans (kept b o z1 e))
  | false =>
   simp only [au,if_false]; refine ae (zX ?_); rw [nm];refine aq ⟨jG iI _,ih (j+1) _ best cc (by lia) lt yu Su (by simp only [pJ,Zz,au,if_false]; exact hp) yk fun v' UN KL Ts kk=>?_⟩;exact hR v' UN KL Ts fun b o z1 z2 e=>kk b o z1 z2 (kept b o z1 e)
end
theorem CQ{prog:bo}{w:World}{A:cx}{E:Value->ak->Prop}{s:ak}{x:Value}{Q:Value->ak->Prop}
  (h:wpAny (model prog w) A.in1 (yT x) (fun it iQ=>∃ (I:Addr) (fq wr:List Addr) (n:Nat) (P:Nat->Value->Prop) (Sx:Nat->Heap->Prop) (bt:Nat->Nat->Bool) (T:Heap->Prop),it=.ref I/\Walks prog w A.in1 I fq wr n P Sx/\Sx 0 iQ.heap/\(∀ b∈fq,b < iQ.heap.objs.size)/\0 < n/\T iQ.heap/\(∀ (h h':Heap) (B:Addr),iQ.heap.objs.size<=B->T h->(∀ b o,b∉wr->b≠B->h.get? b=some o->h'.get? b=some o)->T h') /\
   (∀ i j x y s (Q:Value->ak->Prop) (E:Value->ak->Prop),T s.heap->P i x->P j y->Q (.bool (bt i j)) s->wpAny (model prog w) A.in1 (pH .Lt x y) Q E s) /\
   ∀ v h' tk,P (pJ bt (n - 1)) v->(∀ b o,b∉wr->iQ.heap.get? b=some o->h'.get? b=some o)->Q v { iQ with heap:=h',toks:=tk }) E s) :
  wpAny (model prog w) A (call (.builtin "min") [x]) Q E s:=by
 have nm:(toString "min"++toString ".loop" : String) = "min.loop":=by decide
 refine call_function_tree F.kind_min F.plain_min F.entry_min (F.args_min1 _) ?_;show wpAny _ A.in1 (uh "min" ["key","default"] 0 ⟨[],[]⟩ >>= _) _ _ s; refine ae (Ke (show uh "min" ["key","default"] 0 ⟨[],[]⟩=pure [none,none] from rfl) ?_);refine ae (aq ?_); refine ae (eA h (fun it iQ Fw=>?_) fun _ _ e=>e);obtain⟨I,fq,wr,n,P,Sx,bt,T,rfl,W,vO,Uz,hn,ht,hT,cmp,hQ⟩:=Fw;refine ae (di ?_);have SD:iQ.heap.objs.size∉fq:=fun z=>eR _ (Uz _ z);have VQ:iQ.heap.objs.size∉wr:=fun z=>SD (W.sub _ z);rw [nm];generalize hh:iQ.heap.push { cls:=.type "list",data:=.seq ([]:List Value).toArray } = hp;have hb:hp.get? iQ.heap.objs.size=some { cls:=.type "list",dict:=none,data:=.seq #[] 0,slots:=#[] }:=by rw [<-hh]; exact bh _ rfl
 have old:∀ b o,iQ.heap.get? b=some o->hp.get? b=some o:=fun b o e=>by rw [<-hh]; exact ax _ e
 have PG:Sx 0 hp:=W.frame _ _ _ vO fun b _ o e=>old b o e;have ht0:T hp:=hT _ _ _ (aC _) ht fun b o _ _ e=>old b o e;refine aq ⟨jG iI _,?_⟩;refine fE Ey ?_; rw [eM iI _];show wpAny _ A.in1 (seqItems? (.ref iQ.heap.objs.size) >>= _) _ _ _; refine ae (NJ hb rfl ?_);show wpAny _ A.in1 (tryCatch (rm (.ref I)) _ >>= _) _ _ _; refine ae (yR (W.item 0 _ _ _ hn PG fun v h' tk pv yu kept=>?_));have yk:=kept _ _ VQ hb;show wpAny _ A.in1 (updateSeq iQ.heap.objs.size (fun _=>#[v,v]) >>= _) _ _ _; refine ae ?_;refine wz yk rfl ?_; rw [nm];refine aq ⟨jG iI _,Q7 W bt T _ SD (fun h h'=>hT h h' _ (aC _)) cmp _ 0 _ v _ rfl hn (W.frame _ _ _ yu fun b z o e=>?_) (hT _ _ _ (aC _) (hT _ _ _ (aC _) ht0 fun b o z1 _ e=>kept b o z1 e) fun b o _ z2 e=>?_) pv (dE _ yk rfl) fun v' UN KL Ts kk=>?_⟩
 ·exact(cI _ _ (fun z':iQ.heap.objs.size=b=>SD (by rw [z']; exact z))).trans e
 ·exact(cI _ _ (jZ z2)).trans e
 ·refine hQ v' UN KL Ts fun b o z1 e=>?_;have nb:b≠iQ.heap.objs.size:=bA (aK e);exact kk b o z1 nb ((cI _ _ (jZ nb)).trans (kept b o z1 (old b o e)))
theorem DM{α:Type}(lt:α->α->Bool)(l:List α)(a:α)(f:Nat->α)(hf:∀ i,i < l.length+1->f i=(a :: l).getD i a) :
  f (pJ (fun i j=>lt (f i) (f j)) l.length)=l.foldl (fun m x=>if lt x m=true then x else m) a:=by
 have key:∀ k,k<=l.length->f (pJ (fun i j=>lt (f i) (f j)) k)=(l.take k).foldl (fun m x=>if lt x m=true then x else m) a:=by
  intro k;induction k with
  | zero=>intro _; rw [pJ,hf 0 (by lia)]; rfl
  | succ k ih =>
   intro hk;have ih':=ih (by lia);rw [List.take_succ_eq_append_getElem (by lia),List.foldl_append,<-ih'];have e:f (k+1)=l[k]:=by
    rw [hf (k+1) (by lia),aH];simp [show k < l.length by lia]
   show f (if lt (f (k+1)) (f (pJ _ k))=true then k+1 else pJ _ k)=(if lt l[k] _=true then l[k] else _);rw [<-e];split <;> rfl
 rw [key l.length (aC _),List.take_length]
theorem JD (hc : X.calm = true) (hu : X.A.units + 64 < cLine) : oR X (.builtin "min") M5 := by
  intro pins s σ H G xs ds us Q I ab rx rd q;unfold M5 at q;split at q
  · rename_i x
    obtain⟨v, rfl, r⟩ := rd.one;obtain⟨u, rfl, ru⟩ := rx.one;have main : ∀ {α : Type} (zs : List α) (a : α) (enc : α -> D) (lt : α -> α -> Bool) (T : Heap -> Prop), itemsOf x G = some ((a :: zs).map enc) -> T s.heap -> (∀ (h h' : Heap) (B : Addr), s.heap.objs.size ≤ B -> T h -> (∀ b o, b < s.heap.objs.size -> b ≠ B -> h.get? b = some o -> h'.get? b = some o) -> T h') ->
        (∀ y z vy vz uy uz (s' : ak) (Q' : Value -> ak -> Prop) (E' : Value -> ak -> Prop), T s'.heap -> cb X.K H vy (enc y) -> RelV vy uy -> cb X.K H vz (enc z) -> RelV vz uz -> Q' (.bool (lt y z)) s' -> wpAny (model X.prog X.w) X.A.in1 (pH .Lt uy uz) Q' E' s') ->
        Q (enc (zs.foldl (fun m x => if lt x m = true then x else m) a)) G -> wpAny (model X.prog X.w) X.A (call (.builtin "min") [u]) (nF X pins σ H G Q) X.xe s := by
      intro α zs a enc lt T hi ht hT cmp hq;obtain⟨l, vs, a7, rfl, rv, rs, hl, hz⟩ := xn I ab ru r hi;have hlen : a7.length = zs.length + 1 := by rw [<-rv.length, rs.length, aj, ah]
      have lX : ∀ {o : Obj}, s.heap.get? l = some o -> l ≠ s.heap.objs.size := fun e => bA (aK e);have at_ : ∀ i uu, a7.toArray[i]? = some uu -> ∃ vv, RelV vv uu ∧ cb X.K H vv (enc ((a :: zs).getD i a)) := fun i uu e => by
        have e' : a7[i]? = some uu := by simpa using e
        have J8 : i < a7.length := (List.getElem?_eq_some_iff.mp e').1;have hd : ((a :: zs).map enc)[i]? = some (enc ((a :: zs).getD i a)) := by
          rw [bO, aH];cases h9 : (a :: zs)[i]? with
          | none => rw [List.getElem?_eq_none_iff] at h9; simp at h9; lia
          | some z => rfl
        obtain⟨vv, h1, h2⟩ := rs.get hd;obtain⟨uu', h3, h4⟩ := rv.get h1;rw [e'] at h3;cases h3;exact⟨vv, h4, h2⟩
      have U5 : ∀ i j p9 q9 s' (Q' : Value -> ak -> Prop) (E' : Value -> ak -> Prop), T s'.heap -> a7.toArray[i]? = some p9 -> a7.toArray[j]? = some q9 -> Q' (.bool (lt ((a :: zs).getD i a) ((a :: zs).getD j a))) s' -> wpAny (model X.prog X.w) X.A.in1 (pH .Lt p9 q9) Q' E' s' := fun i j p9 q9 s' Q' E' t' h1 h2 h3 => by
        obtain⟨v1, r1, d1⟩ := at_ i p9 h1;obtain⟨v2, r2, d2⟩ := at_ j q9 h2;exact cmp _ _ v1 v2 p9 q9 s' Q' E' t' d1 r1 d2 r2 h3
      have fin : ∀ vv h' tk, a7.toArray[pJ (fun i j => lt ((a :: zs).getD i a) ((a :: zs).getD j a)) (a7.toArray.size - 1)]? = some vv -> (∀ b o, b ∉ [s.heap.objs.size] -> s.heap.get? b = some o -> h'.get? b = some o) -> nF X pins σ H G Q vv { s with heap := h', toks := tk } := fun vv h' tk e hk => by
        obtain⟨v1, r1, d1⟩ := at_ _ vv e;have es : a7.toArray.size - 1 = zs.length := by rw [aJ]; lia
        rw [es, DM lt zs a (fun i => (a :: zs).getD i a) (fun i _ => rfl)] at d1;exact⟨v1, H, _, G, I.kept fun b o e => hk b o (by simpa using bA (aK e)) e, .refl ab, r1, d1, hq⟩
      have FA : 0 < a7.toArray.size := by rw [aJ]; lia
      have ZE : ∀ (oo : Obj), T (s.heap.push oo) := fun oo => hT _ _ (s.heap.objs.size + 1) (jP _) ht fun b o hb _ e => ax _ e;have ZF : ∀ (oo : Obj) (h h' : Heap) (B : Addr), (s.heap.push oo).objs.size ≤ B -> T h -> (∀ b o, b ∉ [s.heap.objs.size] -> b ≠ B -> h.get? b = some o -> h'.get? b = some o) -> T h' := fun oo h h' B hB t kk => hT h h' B (by rw [iy] at hB; exact Nat.le_of_succ_le hB) t fun b o hb hn e => kk b o (by simpa using bA hb) hn e;rcases hl with hl | hl
      · refine CQ (sk hl ?_)
        obtain⟨o, ho, yD, n, hd⟩ := id hl;exact⟨s.heap.objs.size, _, _, _, _, _, _, T, rfl, Walks.list (A := X.A.in1) (show X.A.in1.handled = none from I.ok.hd hc) _ l (lX ho) a7.toArray, ⟨⟨_, bh _ rfl, rfl, rfl⟩, ⟨o, ax _ ho, yD, n, hd⟩⟩,
          fun b hb => by rcases (by simpa using hb : b = s.heap.objs.size ∨ b = l) with rfl | rfl
                         · rw [iy]; exact mH _
                         · rw [iy]; exact lD (aK ho), FA, ZE _, ZF _, U5, fun vv h' tk e hk => fin vv h' tk e fun b o hb e => hk b o hb (ax _ e)⟩
      · refine CQ (B9 hl ?_)
        obtain⟨o, ho, yD, n, hd⟩ := id hl;exact⟨s.heap.objs.size, _, _, _, _, _, _, T, rfl, Walks.tuple (A := X.A.in1) (show X.A.in1.handled = none from I.ok.hd hc) _ l (lX ho) a7.toArray, ⟨⟨_, bh _ rfl, rfl, rfl⟩, ⟨o, ax _ ho, yD, n, hd⟩⟩,
          fun b hb => by rcases (by simpa using hb : b = s.heap.objs.size ∨ b = l) with rfl | rfl
                         · rw [iy]; exact mH _
                         · rw [iy]; exact lD (aK ho), FA, ZE _, ZF _, U5, fun vv h' tk e hk => fin vv h' tk e fun b o hb e => hk b o hb (ax _ e)⟩
    rcases q with ⟨ns, mm, hi, hm, q⟩ | ⟨Vw, mm, hi, hm, q⟩
    · cases ns with
      | nil => cases hm
      | cons a zs =>
        cases hm;have e : (fun m x : Int => if x < m then x else m) = fun m x => if decide (x < m) = true then x else m := by funext m x; simp
        rw [e] at q;refine main zs a D.int (fun x y => decide (x < y)) (fun _ => True) hi trivial (fun _ _ _ _ _ _ => trivial) (fun y z vy vz uy uz s' Q' E' _ d1 r1 d2 r2 hq => ?_) q;cases d1;cases d2;obtain⟨t1, rfl⟩ := r1;obtain⟨t2, rfl⟩ := r2;exact HT.wY X.A.in1 s' y t1 z t2 X.prog X.w E' Q' hq
    · cases Vw with
      | nil => cases hm
      | cons a zs =>
        cases hm;have el : ∀ xs ys : List Int, HT.lexLt xs ys = K2.lexLt xs ys := by
          intro xs;induction xs with
          | nil => intro ys; cases ys <;> rfl
          | cons x xs ih => intro ys; cases ys with
            | nil => rfl
            | cons y ys => unfold HT.lexLt K2.lexLt; rw [ih]
        refine main zs a tI K2.lexLt (fun h => ∀ b o, b < s.heap.objs.size -> s.heap.get? b = some o -> h.get? b = some o) hi (fun b o _ e => e) (fun h h' B hB t kk b o hb e => kk b o hb (bA (bw hb hB)) (t b o hb e)) (fun y z vy vz uy uz s' Q' E' t' d1 r1 d2 r2 hq => ?_) q;cases d1 with
        | tup h1 rs1 =>
          cases d2 with
          | tup h2 Og =>
            cases r1;cases r2;have z1 := rs1.ints;have z2 := Og.ints;subst z1 z2;obtain⟨T9, rv1, ⟨o1, Zf, hc1, n1, UH⟩, _⟩ := I.tuple (.of h1);obtain⟨uN, PL, ⟨o2, zw, Bo, n2, hd2⟩, _⟩ := I.tuple (.of h2);have p1 : IsTup s'.heap _ T9.toArray := ⟨o1, t' _ _ (aK Zf) Zf, hc1, n1, UH⟩;have p2 : IsTup s'.heap _ uN.toArray := ⟨o2, t' _ _ (aK zw) zw, Bo, n2, hd2⟩;rw [<-el] at hq;have i1 : kF T9.toArray.toList y := intsAre_of rv1;have i2 : kF uN.toArray.toList z := intsAre_of PL;exact(HT.xk p1 p2 i1 i2 (show X.A.units + 1 < cLine by lia) hq : wpAny (model X.prog X.w) X.A.in1 (dA .Lt _ _) Q' E' s')
  · exact q.elim
noncomputable def Ws(scope sc:Scope):List (Str×rn):=scope.names.map fun (n,k)=>if (k == .free&&sc.kind == .function&&sc.names.lookup n == some .cell) then (n,.cell) else (n,k)
noncomputable def wj(N:List Str)(scope:Scope)(m:Nat)(fr:List Nat)(sc:Scope)(XN:List Str):Bool :=
 scope.names.all (fun y=>decide (y.2≠.cell))&&decide (scope.kind=.function)&&scope.names.all (fun y=>!decide (y.2=.local)||decide (scope.names.lookup y.1=some .local)) &&
 scope.names.all (fun y=>!decide (y.2=.free)||decide (sc.names.lookup y.1=some .cell))&&decide (N.length=m+fr.length) &&
 (cF fr.length).all (fun j=>match fr[j]?,N[m+j]? with
  | some i,some x=>decide (XN[i]?=some x)&&decide (sc.names.lookup x=some .cell)&&decide ((Ws scope sc).lookup x=some .cell)
  | _,_=>false)
theorem zM{sc:Scope}{XN:List Str}(Ug:X.env.scope=sc)(UK:X.N=XN)(hb:wj N scope m fr sc XN=true):ya X N scope m fr:=by
 subst Ug UK;unfold wj at hb;simp only [aG] at hb;obtain⟨⟨⟨⟨⟨h1,h2⟩,h3⟩,h4⟩,h5⟩,h6⟩:=hb;refine⟨fun y hy=>of_decide_eq_true (List.all_eq_true.mp h1 y hy),of_decide_eq_true h2,fun y hy hl=>?_,fun y hy hl=>?_,of_decide_eq_true h5,fun j i x e1 e2=>?_⟩
 ·have:=List.all_eq_true.mp h3 y hy;simp only [hl,decide_true,aX,JU] at this;exact of_decide_eq_true this
 ·have:=List.all_eq_true.mp h4 y hy;simp only [hl,decide_true,aX,JU] at this;exact of_decide_eq_true this
 ·have hj:j < fr.length:=(List.getElem?_eq_some_iff.mp e1).1;have:=List.all_eq_true.mp h6 j (List.mem_range.mpr hj);rw [e1,e2] at this;simp only [aG] at this;exact⟨of_decide_eq_true this.1.1,of_decide_eq_true this.1.2,of_decide_eq_true this.2⟩
theorem sW(N:List Str){sc:Scope}{XN:List Str}(hi:Px X tg iter wi)(hg:∀ C s H fp,Kb (dJ X N scope C s H fp) tg g)(RD:∀ C s H fp,Sd (dJ X N scope C s H fp) ifs c)(he:∀ C s H fp,gm (dJ X N scope C s H fp) elt te)
  (Ug:autoParam (X.env.scope=sc) Ar._auto_1) (UK:autoParam (X.N=XN) Ar._auto_1) (hb:autoParam (wj N scope m fr sc XN=true) Ak._auto_1) (hc:autoParam (X.calm=true) Ar._auto_1) (hs:autoParam (∀ x,mE iter X.env x=pure x) Ai._auto_1):gm X (.ListComp elt [⟨tg,iter,ifs,0⟩] scope pos) (iG m fr wi g c te) :=
 IU hc (zM Ug UK hb) hi hg RD he hs
theorem CI(N:List Str){sc:Scope}{XN:List Str}{i:Nat}{y:Str}{py KY:Pos}(hN:X.N.Nodup)(Xe:X.N[i]?=some y)(hy:X.env.scope.names.lookup y=some .local)(hi:Px X tg iter wi)(hg:∀ C s H fp,Kb (dJ X N scope C s H fp) tg g)
  (RD:∀ C s H fp,Sd (dJ X N scope C s H fp) ifs c) (he:∀ C s H fp,gm (dJ X N scope C s H fp) elt te) (Ug:autoParam (X.env.scope=sc) Ar._auto_1) (UK:autoParam (X.N=XN) Ar._auto_1) (hb:autoParam (wj N scope m fr sc XN=true) Ak._auto_1) (hc:autoParam (X.calm=true) Ar._auto_1)
  (Ue:autoParam (pF (.ListComp elt [⟨tg,iter,ifs,0⟩] scope pos) (some (.Name y py)) KY.line X.env=pure true) Ar._auto_1) (hs:autoParam (∀ x,mE iter X.env x=pure x) Ai._auto_1) :
  B8 X (.Assign [.Name y py] (.ListComp elt [⟨tg,iter,ifs,0⟩] scope pos) KY) (cW (iG m fr wi g c te) (bb i)) :=
 CH hN Xe hy hc (zM Ug UK hb) hi hg RD he Ue hs
theorem Jh{K:ag}{H:Hp}{a:Addr}{ns:List Int}(hO:Pz H)(hS:t7 K H a (ns.map V.int))(hl:ns.length<=63):gf K y8 [.ref a] H (fun v _=>v=.bl true) fun _ _ _=>False:=by
 have hF:SK K H a (ns.map V.int):=by
  rcases hS with (h | ⟨o,h⟩) | h
  ·rcases hO a with z | ⟨o,xs,z⟩
   ·rw [z] at h; cases h
   ·rw [z] at h; cases h
  ·exact .inl ⟨o,h⟩
  ·exact .inr h
 refine⟨[.eL (ns.map D.int)],fun _=>none,fun d _=>d=.bl true,.cons (.eL hF (aR.A6 ns)) .nil,fun a g e=>(by cases e),⟨ns,rfl,hl,fun _=>rfl,fun _=>rfl⟩,fun d G' v H' e mv r=>?_⟩;subst e;cases r;rfl
theorem LK{l:zZ}{q:bo}{loose:List Str}{XP:(Str->Option Value)->Heap->Prop}{YP:World->Heap->Prop}{d:DefRec}{K:Params->ag}{k:Nat}{x:Str}(hn:l.most=some 63)(UG:d.params.defaults=[])(hr:iC k El)
  (hY:∀ (w:World) (h:Heap),YP w h->(K w.params).In h)
  (F:∀ (w:World) (mg:Str->Option Value) (fa:Addr) (h:Heap),(K w.params).In h->h.Ns aO mg->mg d.name=some (.ref fa) ->
   ∃ fd:aL,(∀ (s:ak) (u:Value),Kw s fd ⟨[u],[]⟩ [(x,u)])/\∀ base:Heap,(K w.params).In base->base.Ns aO mg->gi l.prog w (K w.params) mg base kr k fa fd [x] (gf (K w.params) y8)) :
  PySem.W.WalkO q loose XP YP l.row.toRowW d [] (fun f vs=>Gw f vs) :=
 L2.NY (n:=63) (k:=k) (x:=x) (CX:=fun _=>kr) (sp:=fun w=>gf (K w.params) y8) hn (by decide) UG hr hY F (fun _ _ _ _ hl hO hS=>Jh hO hS hl) fun _ _ _ _ _ z=>z
end
noncomputable def M3:HO->Bool
 | .lst _=>true
 | .dK _=>true
 | .dT _=>true
 | .ext _=>true
 | _=>false
noncomputable def ny(h:Heap)(S:Addr->Bool)(H:Hp):Hp:=fun a=>match H a with
 | some u=>if (M3 u&&S a)=true then (match h.get? a with
  | some o=>some (.hZ o u)
  | none=>some u) else some u
 | none=>none
section
variable {h:Heap} {S:Addr->Bool} {H:Hp} {a:Addr}
theorem FF(n:∀ u,H a=some u->M3 u=false):ny h S H a=H a:=by
 unfold ny;cases e:H a with
 | none=>rfl
 | some u=>simp only [n u e,vH,au,if_false]
theorem xH(hs:S a=false):ny h S H a=H a:=by
 unfold ny;cases e:H a with
 | none=>rfl
 | some u=>simp only [hs,vI,au,if_false]
theorem tQ{u:HO}{o:Obj}(hs:S a=true)(e:H a=some u)(hu:M3 u=true)(ho:h.get? a=some o):ny h S H a=some (.hZ o u):=by
 unfold ny;simp only [e,hs,hu,Bool.and_self,if_true,ho]
theorem nv(e:H a=none):ny h S H a=none:=by unfold ny; rw [e]
theorem k7{u:HO}(e:H a=some u)(hu:M3 u=false):ny h S H a=some u:=by rw [FF (fun v z=>by rw [e] at z; cases z; exact hu)]; exact e
theorem qP:Kp H (ny h S H):=⟨fun a xs e=>k7 e rfl,fun a o u e=>k7 e rfl⟩
end
section
variable {X:Cx} {pins:List (Addr×Obj)} {σ:L2.St} {H:Hp} {s:ak} {G:Gp}
theorem Inv.freeze(I : Inv X pins σ H s)(S : Addr -> Bool) : Inv X pins σ (ny s.heap S H) s where
  ok := I.ok
  os := I.os
  bare := I.bare
  base := { keep := I.base.keep, slot := I.base.slot, there := I.base.there
            free := fun b o q n hx => nv (I.base.free b o q n hx)
            o8 := fun b xs q => k7 (I.base.o8 b xs q) rfl
            oz := fun b o u q => k7 (I.base.oz b o u q) rfl
            rN := fun b ps q => k7 (I.base.rN b ps q) rfl
            rQ := fun b x q => k7 (I.base.rQ b x q) rfl }
  loc := I.loc
  cell := I.cell
  free := nv I.free
  iE := fun x c e => nv (I.iE x c e)
  pin := fun p hp => let ⟨h1, h2, h3⟩ := I.pin p hp; ⟨h1, nv h2, h3⟩
  ck := fun a o q => by
    have st : ∀ u, H a = some u -> eZ X.prog X.w (ny s.heap S H) s.heap a u := fun u e =>
      (I.ck a u e).iK (fun b v _ r => r) (fun b r => k7 r rfl) (fun b xs r => k7 r rfl)
    cases e : H a with
    | none => rw [nv e] at q; cases q
    | some u =>
      by_cases hc : M3 u = true
      · by_cases hs : S a = true
        · obtain⟨ob, ho⟩ := lx (I.ck a _ e)
          rw [tQ hs e hc ho] at q;cases q;exact⟨ho, st _ e⟩
        · rw [xH (by simpa using hs), e] at q
          cases q;exact st _ e
      · rw [k7 e (by simpa using hc)] at q
        cases q;exact st _ e
  len := I.len
noncomputable def mW(R:Nat->Bool)(G:Gp):Addr->Bool:=fun a=>R a&&(G a).isSome
theorem zE(I:Inv X pins σ H s)(ab:jK X.K H G)(R:Nat->Bool):Mv X.K H G (ny s.heap (mW R G) H) (yI R G) where
 keep:=fun a o e n=>by
  refine⟨by rw [xH (by simp [mW,n])]; exact e,?_⟩;unfold yI; split
  ·rfl
  ·exact n
 iK:=fun a n=>by
  cases q:G a with
  | none=>exact absurd q n
  | some g =>
   have t:=(ab a g q).tracked;cases e:H a with
   | none=>exact absurd e t
   | some u =>
    unfold ny;rw [e];dsimp only;split
    ·split <;> simp
    ·simp
 ab:=fun a g e=>by
  unfold yI at e;split at e
  ·cases e
  ·rename_i hr;exact(ab a g e).mono qP (xH (by simp [mW,hr]))
theorem Mz(I:Inv X pins σ H s)(ab:jK X.K H G){R:Nat->Bool}:∀ {d t:D} {v:V},Fz G R d t->cb X.K H v d->cb X.K (ny s.heap (mW R G) H) v t:=by
 intro d t v h;revert v;refine Fz.rec (motive_1:=fun d t _=>∀ {v:V},cb X.K H v d->cb X.K (ny s.heap (mW R G) H) v t)
  (motive_2:=fun ds ts _=>∀ {vs:List V},aR X.K H vs ds->aR X.K (ny s.heap (mW R G) H) vs ts)
  (motive_3:=fun ds ts _=>(∀ {vs:List (Key×V)},nJ X.K H vs ds->nJ X.K (ny s.heap (mW R G) H) vs ts)/\∀ {vs:List (List Key×V)},oQ X.K H vs ds->oQ X.K (ny s.heap (mW R G) H) vs ts)
  ?_ ?_ ?_ ?_ ?_ ?_ ?_ ?_ ?_ ?_ h
 ·intro d v r; exact r.mono qP
 ·intro ds ss _ ih v r;cases r with
  | tup h rs=>exact .tup (qP.tup _ _ h) (ih rs)
 ·intro ds ss _ ih v r;cases r with
  | eL h rs=>exact .eL (qP.Sh h) (ih rs)
 ·intro a ds ss g hr _ ih v r;cases r;obtain⟨vs,hv,rs⟩:=ab a _ g;obtain⟨ob,ho⟩:=lx (I.ck a _ hv);exact .eL (.inl ⟨_,tQ (by simp [mW,hr,g]) hv rfl ho⟩) (ih rs)
 ·intro a ds ss g hr _ ih v r;cases r;rcases ab a _ g with ⟨kv,hv,rs⟩ | ⟨kv,hv,rs⟩
  ·obtain⟨ob,ho⟩:=lx (I.ck a _ hv);exact .qY (tQ (by simp [mW,hr,g]) hv rfl ho) (ih.1 rs)
  ·obtain⟨ob,ho⟩:=lx (I.ck a _ hv);exact .qX (tQ (by simp [mW,hr,g]) hv rfl ho) (ih.2 rs)
 ·intro a aS PZ g hr _ ek ih v r;cases r;obtain⟨xs,ks,vs,hv,rel,r1,r2⟩:=ab a _ g;obtain⟨ob,ho⟩:=lx (I.ck a _ hv);have e2:(PZ.map fun p=>Tu p.1)=aS.map fun p=>Tu p.1:=by
   have:=congrArg (List.map Tu) ek;rw [fN,fN] at this;exact this.symm
  exact .ze (tQ (by simp [mW,hr,g]) hv rfl ho) ⟨ek.symm.trans rel.1,rel.2⟩ (by rw [e2]; exact r1.mono qP) (ih r2)
 ·intro vs r; cases r; exact .nil
 ·intro d s ds ss _ _ i1 i2 vs r;cases r with
  | cons r rs=>exact .cons (i1 r) (i2 rs)
 ·exact⟨fun r=>by cases r; exact .nil,fun r=>by cases r; exact .nil⟩
 ·intro k d s ds ss _ _ i1 i2;exact⟨fun r=>by cases r with | cons r rs=>exact .cons (i1 r) (i2.1 rs),fun r=>by cases r with | cons r rs=>exact .cons (i1 r) (i2.2 rs)⟩
variable {e:Expr} {te:fx} {st:Stmt} {t:i6}
theorem bW(he:gm X e te):gm X e (fu te):=by
 intro E pins s σ H τ G Q hE I h;refine fy (he E pins s σ H τ G _ hE I h) ?_;rintro u s1 ⟨v,H1,d,G1,I1,m,r,rd,R,t,hf,q⟩;exact⟨v,_,t,_,Inv.freeze I1 _,m.trans (zE I1 m.ab R),r,Mz I1 m.ab hf rd,q⟩
theorem OA{i:Nat}(h1:B8 X st t):B8 X st (R0 i t):=by
 intro E pins s σ H τ G D hE I h;refine fy (h1 E pins s σ H τ G _ hE I h) fun f s1 z=>?_;cases f with
 | next =>
  obtain⟨iP,H',mR,G',I',m,q⟩:=z;simp only at q;split at q
  ·rename_i d hd;obtain⟨R,t,hf,q⟩:=q;obtain⟨v,hv,rv⟩:=I'.st.at' i d hd;have a1:=(I'.st.mono (H':=ny s1.heap (mW R G') H') qP).set i (Mz I'.inv I'.ab hf rv);have es:iP.set i (some v)=iP:=by
    have hi:i < iP.length:=(List.getElem?_eq_some_iff.mp hv).1;have e2:=(List.getElem?_eq_some_iff.mp hv).2;rw [<-e2]; exact List.set_getElem_self hi
   rw [es] at a1;have m2:=zE I'.inv I'.ab R;exact⟨iP,_,_,_,⟨Inv.freeze I'.inv _,a1,m2.ab⟩,m.trans m2,q⟩
  ·exact q.elim
 | ret v=>exact z
 | brk=>exact z
 | cont=>exact z
end
theorem gN:dj "len" = some (.builtin "len"):=by decide +kernel
theorem R7:dj "min" = some (.builtin "min"):=by decide +kernel
theorem R8:dj "all" = some (.builtin "all"):=by decide +kernel
theorem zP:dj "sorted" = some (.builtin "sorted"):=by decide +kernel
theorem BL:dj "list" = some (.type "list"):=by decide +kernel
theorem M8:dj "tuple" = some (.type "tuple"):=by decide +kernel
theorem Gj:dj "int" = some (.type "int"):=by decide +kernel
theorem Pq:dj "bool" = some (.type "bool"):=by decide +kernel
theorem R6:dj "str" = some (.type "str"):=by decide +kernel
section
variable {X:Cx} {a b c e o:Expr} {es:List Expr} {ta tb tc te to:fx} {t:wu} {pos p p2 apos mO:Pos} {x name:Str} {id T:String} {k:Nat} {f:Addr} {fd:aL} {ps:List Str} {sp:pD}
theorem cR(F:gi X.prog X.w X.K X.mg X.base kr k f fd ps (gf X.K sp))(hr:iC k X.A)(hg:Gl X x)(hm:X.mg x=some (.ref f))(hk:gv X.K (.ref f)=true)(hb:Binds X.K fd ps [])
  (ha:BR X (e :: es) t) (yC:autoParam ((x == ("__debug__" : Str))=false) Ad._auto_1) (he:autoParam (a9 (e :: es) X.env=(false,eval e X.env) :: a9 es X.env) Ar._auto_1) (vn:autoParam ((gP pos (a9 es X.env)).any (·.1)=false) Ar._auto_1) :
  gm X (.Call (.Name x p) (e :: es) [] pos) (cS sp t):=Lv F hr hg hm hk hb ha yC he vn
end
end K2
end
section
namespace L2
open PySem PySem.Spec PyProof.Rows
section
variable {X:Cx} {pins:List (Addr×Obj)} {σ:St} {H:Hp} {s:ak} {h':Heap}
theorem Inv.GF{t':Nat}{fp:List Addr}(I:Inv X pins σ H s)(hf:∀ b∈fp,px X pins H b)(k:∀ b o,b∉fp->s.heap.get? b=some o->h'.get? b=some o):Inv X pins σ H { s with heap:=h',toks:=t' }:=by
 have nt:∀ b u,H b=some u->b∉fp:=fun b u e z=>by rw [(hf b z).1] at e; cases e
 refine I.step (g':=s.gens) (d':=s.drawn) (ch:=fp) (fun b hb=>?_) (fun b o _ _ hc e _=>k b o hc e) (fun b o _ _ hc e _=>⟨o.slots,k b o hc e⟩) (fun _ _ _ _ n=>n)
  (fun b o hc e=>⟨o,k b o hc e⟩) (fun _ _ e=>e) (fun _ _ _ e=>e) (fun _ _ e=>e) (fun _ _ e=>e) (fun m hm=>?_) (fun b u e=>?_) I.bare
 ·obtain⟨f0,f1,f2,f3,f4,f5⟩:=hf b hb;exact⟨f3,f1,f4,f5⟩
 ·obtain⟨o,es,ep,ho,r⟩:=hm;exact⟨o,es,ep,k _ _ (fun z=>(hf _ z).2.1 rfl) ho,r⟩
 ·refine(I.ck b u e).iK (fun c v hc r=>k c v ?_ r) (fun _ z=>z) (fun _ _ z=>z);rcases hc with rfl | hc
  ·exact nt _ _ e
  ·exact nt _ _ hc
theorem Inv.N0{t':Nat}{fp:List Addr}{T:Addr}{vs:List V}(I:Inv X pins σ H s)(hf:∀ b∈fp,px X pins H b)(k:∀ b o,b∉fp->s.heap.get? b=some o->h'.get? b=some o)(hT:s.heap.objs.size<=T)
  (new:eZ X.prog X.w (upd H T (.tup vs)) h' T (.tup vs)):Inv X pins σ (upd H T (.tup vs)) { s with heap:=h',toks:=t' }:=by
 have hn:H T=none:=I.ck.fresh hT;have ht:∀ b o,s.heap.get? b=some o->b≠T:=fun b o e z=>by subst z; exact absurd (aK e) (Nat.not_lt.mpr hT)
 have nt:∀ b u,H b=some u->b∉fp:=fun b u e z=>by rw [(hf b z).1] at e; cases e
 have ne:∀ b u,H b=some u->b≠T:=fun b u e=>dW e hn;refine I.step (g':=s.gens) (d':=s.drawn) (ch:=fp) (fun b hb=>?_) (fun b o _ _ hc e _=>k b o hc e) (fun b o _ _ hc e _=>⟨o.slots,k b o hc e⟩) (fun b o _ e n=>by rw [bu (ht b o e)]; exact n)
  (fun b o hc e=>⟨o,k b o hc e⟩) (fun b xs e=>by rw [bu (ne _ _ e)]; exact e) (fun b o u e=>by rw [bu (ne _ _ e)]; exact e) (fun b ps e=>by rw [bu (ne _ _ e)]; exact e) (fun b ps e=>by rw [bu (ne _ _ e)]; exact e) (fun m hm=>?_) (fun b u e=>?_) I.bare
 ·obtain⟨f0,f1,f2,f3,f4,f5⟩:=hf b hb;exact⟨f3,f1,f4,f5⟩
 ·obtain⟨o,es,ep,ho,r⟩:=hm;exact⟨o,es,ep,k _ _ (fun z=>(hf _ z).2.1 rfl) ho,r⟩
 ·by_cases hb:b=T
  ·subst hb; rw [cj] at e; cases e; exact new
  ·rw [bu hb] at e;refine(I.ck b u e).iK (fun c v hc r=>k c v ?_ r) (fun c z=>by rw [bu (ne _ _ z)]; exact z) (fun c xs z=>by rw [bu (ne _ _ z)]; exact z);rcases hc with rfl | hc
   ·exact nt _ _ e
   ·exact nt _ _ hc
theorem px.upd{b T:Addr}{o:HO}(h:px X pins H b)(hb:b≠T):px X pins (L2.upd H T o) b:=by
 obtain⟨f0,r⟩:=h;exact⟨by rw [bu hb]; exact f0,r⟩
end
noncomputable def Ite(K:ag)(a:Addr):It :=
  ⟨fun i H=>∃ xs x,t7 K H a xs/\xs[i]?=some x,
   fun i H v H'=>∃ T y,v=.ref T/\H T=none/\H'=upd H T (.tup [.int i,y])/\∀ xs,t7 K H a xs->xs[i]?=some y,
   fun i H=>∃ xs,t7 K H a xs/\xs.length<=i⟩
theorem Iv{P:bo}{w:World}{K:ag}{elts:List Expr}{kk:Nat}{pos:Pos}(a e it:Addr)(lX:e≠it) :
  Turn P w K (.Tuple elts kk pos) (Ite K a) [e,it] e (fun i h=>(∃ old,IsEnum h e it i old)/\h.IsListIter it a i) where
 mem:=by simp
 obj:=fun i h B4 b hb=>by
  obtain⟨⟨old,he⟩,hit⟩:=B4;rcases List.mem_cons.mp hb with rfl | hb
  ·exact⟨_,he,fun v z=>by cases z⟩
  ·have e:b=it:=by simpa using hb
   subst e;obtain⟨o,e,c,d⟩:=hit;exact⟨o,e,fun v z=>by rw [d] at z; cases z⟩
 keep:=(by rintro i h h' ⟨⟨old,he⟩,hit⟩ k; exact⟨⟨old,k e (by simp) _ he⟩,hit.at fun o q=>k it (by simp) o q⟩)
 item:=by
  intro X hP hw hK hc i pins s σ H E I hf st hg;obtain⟨⟨old,he⟩,hit⟩:=st;subst hP hw hK;obtain⟨xs,x,hq,hx⟩:=hg;obtain⟨a7,rv,p,hz⟩:=I.list hq;obtain⟨u,hu,ru⟩:=rv.get hx;have hTn:H s.heap.objs.size=none:=I.ck.fresh (aC _);have heT:e≠s.heap.objs.size:=bA (aK he);have hiT:it≠s.heap.objs.size:=by obtain⟨o,q,_⟩:=hit; exact bA (aK q)
  refine wpAny_pyNext_enum_item he hit p.isList (x:=u) (by simpa using hu) lX fun h' ho XI hT hsz kk=>?_;refine⟨_,rfl,?_⟩;have I1:Inv X pins σ (upd H s.heap.objs.size (.tup [.int i,x])) { s with heap:=h',toks:=s.toks+1 } :=
   I.N0 (fp:=[e,it]) hf (fun b o hb q=>kk b o (fun z=>hb (by simp [z])) (fun z=>hb (by simp [z])) q) (aC _)
    ⟨by show 2<=aT; decide,[.int i s.toks,u],.cons ⟨_,rfl⟩ (.cons ru .nil),⟨_,hT,rfl,_,rfl⟩⟩
  refine wpAny_letOwnedTupleGo_enum (s:={ s with heap:=h',toks:=s.toks+1 }) ho fun h2 RF O0=>?_;have f1:∀ b∈[e,it],px X pins (upd H s.heap.objs.size (.tup [.int i,x])) b:=fun b hb=>(hf b hb).upd (by
   rcases List.mem_cons.mp hb with rfl | hb
   ·exact heT
   ·rw [List.mem_singleton.mp hb]; exact hiT)
  have I2:Inv X pins σ (upd H s.heap.objs.size (.tup [.int i,x])) { s with heap:=h2,toks:=s.toks+1 } :=
   Inv.GF (s:={ s with heap:=h',toks:=s.toks+1 }) (t':=s.toks+1) (fp:=[e,it]) I1 f1 fun b o hb q=>(O0.2 b (fun z=>hb (by simp [z]))).trans q
  refine⟨.ref s.heap.objs.size,_,I2,rfl,⟨_,x,rfl,hTn,rfl,fun ys hy=>by rw [I.CZ hy hq]; exact hx⟩,⟨⟨u,?_⟩,?_⟩,fun b hb=>(f1 b hb).1⟩
  ·simpa using RF
  ·exact XI.at fun o q=>(O0.2 it (jZ lX)).trans q
 done:=by
  intro X hP hw hK hc i pins s σ H E I hf st hg;obtain⟨⟨old,he⟩,hit⟩:=st;subst hP hw hK;obtain⟨xs,hq,hx⟩:=hg;obtain⟨a7,rv,p,hz⟩:=I.list hq;have hl:=rv.length;refine wpAny_pyNext_enum_end (I.ok.hd hc) he hit p.isList (by simp; lia) fun h' eb=>⟨rfl,?_⟩;exact I.GF (t':=s.toks) (fp:=[e,it]) hf fun b o hb q=>eb b o (fun z=>hb (by simp [z])) q
 self:=(by rintro A i s Q E ⟨⟨old,he⟩,_⟩ h; exact wpAny_pyIter_enum he h)
end L2
namespace K2
open PySem PySem.Spec PyProof.Rows L2
section
variable {X:Cx} {elts:List Expr} {kk:Nat} {S8:Pos} {a b:Expr} {ta tb:fx} {pos p:Pos}
theorem HC{pins:List (Addr×Obj)}{σ:L2.St}{H H1:Hp}{G G1:Gp}{s1:ak}{l:Addr}{vs:List V}{ds:List D}{ok:Gp->Prop}{R:List D->(Gp->Prop)->Gp->Prop}(I1:Inv X pins σ H1 s1)(m:Mv X.K H G H1 G1)(hq:t7 X.K H1 l vs)
  (hk:∀ H2 G2,Kp H1 H2->jK X.K H2 G2->ok G2->∃ ws,t7 X.K H2 l ws/\aR X.K H2 ws ds) (q:R (mz 0 ds) ok G1) :
  wpAny (model X.prog X.w) X.A (call (.type "enumerate") [.ref l]) (fun v s2=>wpAny (model X.prog X.w) X.A (yT v) (Gq X pins σ (.Tuple elts kk S8) H G R) X.xe s2) X.xe s1:=by
 obtain⟨a7,rv,pl,hz⟩:=I1.list hq;refine call_enumerate_list pl.isList fun h' he hit hsz kp=>?_;refine wpAny_pyIter_enum he ?_;refine⟨_,[s1.heap.objs.size+1,s1.heap.objs.size],_,_,H1,G1,mz 0 ds,ok,rfl,I1.kept (t':=s1.toks) kp,m,Iv l _ _ (Nat.succ_ne_self _),⟨⟨_,he⟩,hit⟩,fun b hb=>?_,fun i H2 G2 k ab o=>?_,q⟩
 ·have yk:s1.heap.objs.size<=b:=by
   rcases List.mem_cons.mp hb with rfl | hb
   ·lia
   ·rw [List.mem_singleton.mp hb]; exact aC _
  exact I1.Jw yk (I1.ck.fresh yk)
 ·obtain⟨ws,hw,rd⟩:=hk H2 G2 k ab o;refine⟨fun d hd=>?_,fun hl=>⟨ws,hw,by rw [rd.length,<-uR ds 0]; exact hl⟩⟩;rw [uS] at hd;cases X0:ds[i]? with
  | none=>rw [X0] at hd; cases hd
  | some d' =>
   rw [X0] at hd;obtain⟨v,hv,r⟩:=rd.get X0;refine⟨⟨ws,v,hw,hv⟩,?_⟩;rintro x H3 ⟨T,y,ex,hT,e3,hy⟩;subst ex e3;have:=hy ws hw;rw [hv] at this;cases this;have ed:D.tup [.int ((0+i:Nat):Int),d']=d:=by simpa using hd
   subst ed;refine⟨.tup cj (.cons (by rw [uv]; exact .int _) (.cons (r.mono (.new hT)) .nil)),.NA ab hT⟩
theorem BM:dj "enumerate" = some (.type "enumerate"):=by decide +kernel
theorem Lm (hg:Gl X "enumerate") (hm:X.mg "enumerate" = none) (ha:gm X a ta) (hs:autoParam (a9 [a] X.env=[(false,eval a X.env)]) Ar._auto_1):Px X (.Tuple elts kk S8) (.Call (.Name "enumerate" p) [a] [] pos) (L9 ta):=by
 intro E pins s σ H τ G R hE I h;have hA:BR X [a] (aw ta aU):=ao ha aE hs;refine Call_ (lM I.inv hg hm BM (ib (wK hA pos hE I (R:=WA fun x G1=>tK x G1 R) h fun vs H1 ds G1 us s1 I1 m1 r1 jR q1=>?_) hs rfl))
 match ds,q1 with
 | [x],q1 =>
  change tK x G1 R at q1;obtain⟨w,rfl,IF⟩:=jR.one;obtain⟨u,rfl,ru⟩:=r1.one;cases IF with
  | eL hq rs=>cases ru; exact HC I1.inv m1 hq.sq (fun H2 G2 k ab _=>⟨_,(k.Sh hq).sq,rs.mono k⟩) q1
  | ref p =>
   cases ru;unfold tK at q1;dsimp only at q1;split at q1
   ·rename_i ds e;obtain⟨vs,hv,rs⟩:=I1.ab.lst e;refine HC I1.inv m1 (.of hv) (fun H2 G2 k ab o=>?_) q1;obtain⟨ws,hw,sN⟩:=ab.lst o;exact⟨ws,.of hw,sN⟩
   ·exact q1.elim
  | tup _ _=>exact q1.elim
  | qY _ _=>exact q1.elim
  | qX _ _=>exact q1.elim
  | cy=>exact q1.elim
  | bl _=>exact q1.elim
  | int _=>exact q1.elim
  | str _=>exact q1.elim
  | exc _=>exact q1.elim
  | uj _ _=>exact q1.elim
  | ze _ _ _ _=>exact q1.elim
 | [],q1=>exact q1.elim
 | _ :: _ :: _,q1=>exact q1.elim
end
end K2
end
section
namespace K2
open PySem PySem.Spec PyProof.Rows L2
section
variable {X:Cx} {o i a b:Expr} {to ti ta tb:fx} {pos p:Pos}
theorem AY(hu:X.A.units+64 < cLine)(ho:gm X o to)(hi:gm X i ti)
  (ha:autoParam (∀ v,Kl (.Subscript o i pos) X.env v=(do
   let ov ← Ej [v] (eval o X.env)
   let iv ← Ej [v,ov] (eval i X.env)
   standAt pos
   Ej [v,ov,iv] (setItem ov iv v)
   release [v,ov,iv] [])) Ai._auto_1):Kb X (.Subscript o i pos) (FE to ti):=by
 intro E pins s σ H τ G w d u Q hE I r rd h;rw [ha];refine ae (cE (jn ho hE I h fun x H1 dx G1 ov s1 I1 m1 r1 jR q1=>?_));refine ae (cE (jn hi hE I1 q1 fun y H2 dy G2 iv s2 iN m2 r2 AS q2=>?_));refine ae (uk (ae (cE ?_)));have VB:=m1.trans m2;have J2:=rd.mono (VB.kp I.ab);have yu:=I.st.mono (VB.kp I.ab);have rx':=jR.mono (m2.kp I1.ab);unfold Cq at q2;split at q2
 ·rename_i l;cases rx';cases r1;split at q2
  ·rename_i xs hg;obtain⟨vs,hv,rs⟩:=iN.ab.lst hg;split at q2
   ·rename_i k;cases AS;split at q2
    ·rename_i j hj;have m3:Mv X.K H2 G2 (upd H2 l (.lst (vs.set j w))) (dO G2 l (.lst (xs.set j d))):=.putL iN.ab hg hv (rs.set J2 j);refine fy (set_list pins s2 σ H2 (.ref l) (.int k) w _ _ _ (fun H3=>H3=upd H2 l (.lst (vs.set j w))) iN.inv rfl r2 r ⟨l,vs,k,j,rfl,rfl,hv,?_,rfl⟩) ?_
     ·rw [rs.length]; exact hj
     ·rintro _ s3 ⟨H3,I3,e3⟩;subst e3;exact wpAny_release ⟨σ,_,τ,_,⟨I3,yu.mono (m3.kp iN.ab),m3.ab⟩,VB.trans m3,q2⟩
    ·exact q2.elim
   ·exact q2.elim
  ·rename_i aS hg;obtain⟨hk,hz,q⟩:=q2;obtain⟨H3,H4,I3,dp,m3⟩:=MS iN.inv iN.ab hg hk hz AS J2;exact JB (by lia) I3 dp r2 r fun s4 I4=>wpAny_release ⟨σ,H4,τ,_,⟨I4,yu.mono (m3.kp iN.ab),m3.ab⟩,VB.trans m3,q⟩
  ·exact q2.elim
 ·exact q2.elim
end
end K2
end
section
namespace L2
open PySem PySem.Spec PyProof.Rows
structure ZS(z TI TO i1 i2 a b:Addr)(i:Nat)(h:Heap):Prop where
 hz:IsZip h z TI TO .none
 hI:IsPair h TI (.ref i1) (.ref i2)
 hO:∃ x y,IsPair h TO x y
 h1:h.IsListIter i1 a i
 h2:h.IsListIter i2 b i
end L2
end
section
namespace K2
open PySem PySem.W PyProof.Rows
noncomputable def g7{α:Type}(lt:Nat->Nat->Bool):KasT α->α
 | .ret a=>a
 | .ask i j k=>g7 lt (k (lt i j))
theorem lu{α β:Type}(lt:Nat->Nat->Bool)(f:α->KasT β):∀ t:KasT α,g7 lt (t.bind f)=g7 lt (f (g7 lt t))
 | .ret _=>rfl
 | .ask i j k=>lu lt f (k (lt i j))
noncomputable abbrev gA(p:Array Nat)(k:Nat):Nat:=p.getD k 0
theorem zC(p:Array Nat)(k:Nat):gA p k=(p[k]?).getD 0:=by
 unfold gA; rw [aP]
structure HV(lt:Nat->Nat->Bool):Prop where
 asymm:∀ i j,lt i j=true->lt j i=false
 trans:∀ i j k,lt j i=false->lt k j=false->lt k i=false
theorem HV.refl{lt:Nat->Nat->Bool}(w:HV lt)(i:Nat):lt i i=false:=by
 cases h:lt i i with
 | false=>rfl
 | true=>rw [w.asymm _ _ h] at h; cases h
noncomputable def Up(lt:Nat->Nat->Bool)(p:Array Nat)(m:Nat):Prop:=∀ i j,i<=j->j < m->lt (gA p j) (gA p i)=false
noncomputable def Dn(lt:Nat->Nat->Bool)(p:Array Nat)(m:Nat):Prop:=∀ i j,i<=j->j < m->lt (gA p i) (gA p j)=false
section
variable {lt:Nat->Nat->Bool}
theorem Up.more(w:HV lt){p:Array Nat}{n m:Nat}(h1:1<=n)(h:Up lt p n)(hs:∀ k,n<=k->k < m->lt (gA p k) (gA p (k - 1))=false):Up lt p m:=by
 intro i j Hy hjm;induction j with
 | zero =>
  have:i=0:=by lia
  subst this; exact w.refl _
 | succ j ih =>
  by_cases hj:j+1 < n
  ·exact h i (j+1) Hy hj
  ·by_cases e:i=j+1
   ·subst e; exact w.refl _
   ·have h1:=ih (by lia) (by lia);have h2:=hs (j+1) (by lia) hjm;exact w.trans _ _ _ h1 h2
theorem GR(p:Array Nat):∀ (f n:Nat),n<=g7 lt (pI p f n)/\g7 lt (pI p f n)<=n+f/\(∀ k,n<=k->k < g7 lt (pI p f n)->lt (gA p k) (gA p (k - 1))=false) /\
  (g7 lt (pI p f n) < n+f->lt (gA p (g7 lt (pI p f n))) (gA p (g7 lt (pI p f n) - 1))=true):=by
 intro f;induction f with
 | zero=>intro n; exact⟨aC _,aC _,fun k h1 h2=>absurd (show k < n from h2) (by lia),fun h=>absurd (show n < n+0 from h) (by lia)⟩
 | succ f ih =>
  intro n;have e:g7 lt (pI p (f+1) n)=if lt (gA p n) (gA p (n - 1))=true then n else g7 lt (pI p f (n+1)):=by
   show g7 lt (if lt (gA p n) (gA p (n - 1))=true then uw n else pI p f (n+1))=_;split <;> rfl
  rw [e];by_cases c:lt (gA p n) (gA p (n - 1))=true
  ·rw [if_pos c];exact⟨aC _,by lia,fun k h1 h2=>absurd h2 (by lia),fun _=>c⟩
  ·rw [if_neg c];obtain⟨h1,h2,h3,h4⟩:=ih (n+1);refine⟨by lia,by lia,fun k k1 k2=>?_,fun h=>h4 (by lia)⟩;by_cases e:k=n
   ·subst e; simpa using c
   ·exact h3 k (by lia) k2
theorem gZ{p:Array Nat}{i j:Nat}(hj:j<=p.size)(k:Nat):gA (gu p i j) k=if i<=k/\k < j then gA p (i+j - 1 - k) else gA p k:=by
 rw [zC,gu,getElem?_mirror_all hj];split <;> rw [zC]
theorem lG(p:Array Nat)(i j:Nat):(gu p i j).size=p.size:=mirror_size _ _ _ _
theorem jo(p:Array Nat)(i j:Nat):(gu p i j).Perm p:=mirror_perm _ _ _ _
theorem Dn.rev{p:Array Nat}{a n:Nat}(w:HV lt)(hn:n<=p.size)(h:Dn lt p n)(he:∀ k,a<=k->k < n->lt (gA p (n - 1)) (gA p k)=false):Dn lt (gu p a n) n:=by
 intro i j Hy Ut;rw [gZ hn,gZ hn];by_cases hi:a<=i
 ·rw [if_pos ⟨hi,by lia⟩,if_pos ⟨by lia,Ut⟩];exact w.trans _ _ _ (he (a+n - 1 - j) (by lia) (by lia)) (h (a+n - 1 - i) (n - 1) (by lia) (by lia))
 ·rw [if_neg (by lia)];by_cases hj:a<=j
  ·rw [if_pos ⟨hj,Ut⟩];exact h i (a+n - 1 - j) (by lia) (by lia)
  ·rw [if_neg (by lia)];exact h i j Hy Ut
noncomputable def Z1(lt:Nat->Nat->Bool)(p:Array Nat)(n q:Nat):Prop:=q+1<=n/\∀ k,n - (q+1)<=k->k < n->lt (gA p (n - 1)) (gA p k)=false
theorem Dn.one(w:HV lt){p:Array Nat}{n:Nat}(h1:1<=n)(h:Dn lt p n)(hc:lt (gA p (n - 1)) (gA p n)=false):Dn lt p (n+1):=by
 intro i j Hy hj;by_cases e:j=n
 ·subst e;by_cases e2:i=j
  ·subst e2; exact w.refl _
  ·exact w.trans _ _ _ hc (h i (j - 1) (by lia) (by lia))
 ·exact h i j Hy (by lia)
theorem K7(w:HV lt):∀ (f:Nat) (p:Array Nat) (n q:Nat),n+f<=p.size->Dn lt p n->Z1 lt p n q->∃ p' n' q',g7 lt (ky f p n q)=(p',n',q')/\p'.Perm p/\p'.size=p.size/\n<=n'/\n'<=n+f/\Dn lt p' n'/\Z1 lt p' n' q':=by
 intro f;induction f with
 | zero=>intro p n q _ hd he; exact⟨p,n,q,rfl,lW _,rfl,aC _,aC _,hd,he⟩
 | succ f ih =>
  intro p n q hs hd he;have h1:1<=n:=by have:=he.1; lia
  have e:g7 lt (ky (f+1) p n q)=if lt (gA p n) (gA p (n - 1))=true then (if q > 0 then g7 lt (ky f (gu p (n - (q+1)) n) (n+1) 0) else g7 lt (ky f p (n+1) 0))
    else if lt (gA p (n - 1)) (gA p n)=true then (p,n,q) else g7 lt (ky f p (n+1) (q+1)):=by
   show g7 lt (if lt (gA p n) (gA p (n - 1))=true then (if q > 0 then ky f (gu p (n - (q+1)) n) (n+1) 0 else ky f p (n+1) 0) else .ask (gA p (n - 1)) (gA p n) fun d=>if d=true then .ret (p,n,q) else ky f p (n+1) (q+1))=_;split
   ·split <;> rfl
   ·show g7 lt (if lt (gA p (n - 1)) (gA p n)=true then uw (p,n,q) else ky f p (n+1) (q+1))=_;split <;> rfl
  rw [e];by_cases c:lt (gA p n) (gA p (n - 1))=true
  ·rw [if_pos c];have ca:=w.asymm _ _ c;by_cases hq:q > 0
   ·rw [if_pos hq];have d1:Dn lt (gu p (n - (q+1)) n) n:=hd.rev w (by lia) he.2;have en:gA (gu p (n - (q+1)) n) n=gA p n:=by rw [gZ (by lia),if_neg (by lia)]
    have ca':lt (gA (gu p (n - (q+1)) n) (n - 1)) (gA (gu p (n - (q+1)) n) n)=false:=by
     rw [en,gZ (by lia)];split
     ·-- an item of Wf Vr is above p n
      exact w.trans _ _ _ ca (hd _ (n - 1) (by lia) (by lia))
     ·exact ca
    obtain⟨p',n',q',z,h2,h3,h4,h5,h6,h7⟩:=ih (gu p (n - (q+1)) n) (n+1) 0 (by rw [lG]; lia) (d1.one w h1 ca') ⟨by lia,fun k k1 k2=>by
     have:k=n:=by lia
     subst this; exact w.refl _⟩
    exact⟨p',n',q',z,h2.trans (jo _ _ _),h3.trans (lG _ _ _),by lia,by lia,h6,h7⟩
   ·rw [if_neg hq];obtain⟨p',n',q',z,h2,h3,h4,h5,h6,h7⟩:=ih p (n+1) 0 (by lia) (hd.one w h1 ca) ⟨by lia,fun k k1 k2=>by
     have:k=n:=by lia
     subst this; exact w.refl _⟩
    exact⟨p',n',q',z,h2,h3,by lia,by lia,h6,h7⟩
  ·rw [if_neg c];have c':lt (gA p n) (gA p (n - 1))=false:=by simpa using c
   by_cases d:lt (gA p (n - 1)) (gA p n)=true
   ·rw [if_pos d];exact⟨p,n,q,rfl,lW _,rfl,aC _,by lia,hd,he⟩
   ·rw [if_neg d];have d':lt (gA p (n - 1)) (gA p n)=false:=by simpa using d
    obtain⟨p',n',q',z,h2,h3,h4,h5,h6,h7⟩:=ih p (n+1) (q+1) (by lia) (hd.one w h1 d') ⟨by have:=he.1; lia,fun k k1 k2=>by
     rw [Nat.add_sub_cancel];by_cases e:k=n
     ·subst e; exact w.refl _
     ·exact w.trans _ _ _ (he.2 k (by lia) (by lia)) c'⟩
    exact⟨p',n',q',z,h2,h3,by lia,by lia,h6,h7⟩
theorem Dn.up{p:Array Nat}{n:Nat}(hn:n<=p.size)(h:Dn lt p n):Up lt (gu p 0 n) n:=by
 intro i j Hy Ut;rw [gZ hn,gZ hn,if_pos ⟨by lia,Ut⟩,if_pos ⟨by lia,by lia⟩];exact h _ _ (by lia) (by lia)
theorem Cv(w:HV lt){p:Array Nat}{n nrem:Nat}(h1:1<=n)(hn:n<=nrem)(hs:nrem<=p.size)(h:Dn lt p n):∃ p' m,g7 lt (Ki n nrem p)=(m,p')/\p'.Perm p/\p'.size=p.size/\n<=m/\m<=nrem/\Up lt p' m:=by
 obtain⟨a1,a2,a3,_⟩:=GR (lt:=lt) (gu p 0 n) (nrem - n) n;refine⟨gu p 0 n,g7 lt (pI (gu p 0 n) (nrem - n) n),by rw [Ki,lu]; rfl,jo _ _ _,lG _ _ _,a1,by lia,?_⟩;exact(h.up (by lia)).more w h1 a3
theorem sP(w:HV lt){p:Array Nat}{n nrem:Nat}(h1:1<=n)(hn:n < nrem)(hs:nrem<=p.size)(h:Dn lt p n)(hc:lt (gA p (n - 1)) (gA p n)=false) :
  ∃ p' m,g7 lt (wC n nrem p)=(m,p')/\p'.Perm p/\p'.size=p.size/\n<=m/\m<=nrem/\Up lt p' m:=by
 obtain⟨p1,n1,q1,z,z2,z3,z4,z5,z6,z7⟩:=K7 w (nrem - (n+1)) p (n+1) 0 (by lia) (h.one w h1 hc) ⟨by lia,fun k k1 k2=>by
  have:k=n:=by lia
  subst this; exact w.refl _⟩
 rw [wC,lu,z];show ∃ p' m,g7 lt (if q1 > 0 then Ki n1 nrem (gu p1 (n1 - (q1+1)) n1) else Ki n1 nrem p1)=(m,p')/\_;by_cases hq:q1 > 0
 ·rw [if_pos hq];obtain⟨p',m,y1,y2,y3,y4,y5,y6⟩:=Cv (nrem:=nrem) w (p:=gu p1 (n1 - (q1+1)) n1) (by lia) (by lia) (by rw [lG]; lia) (z6.rev w (by lia) z7.2);exact⟨p',m,y1,(y2.trans (jo _ _ _)).trans z2,(y3.trans (lG _ _ _)).trans z3,by lia,y5,y6⟩
 ·rw [if_neg hq];obtain⟨p',m,y1,y2,y3,y4,y5,y6⟩:=Cv (nrem:=nrem) w (p:=p1) (by lia) (by lia) (by lia) z6;exact⟨p',m,y1,y2.trans z2,y3.trans z3,by lia,y5,y6⟩
theorem IH(w:HV lt){p:Array Nat}{nrem:Nat}(h1:1<=nrem)(hs:nrem<=p.size):∃ p' m,g7 lt (kas_count nrem p)=(m,p')/\p'.Perm p/\p'.size=p.size/\1<=m/\m<=nrem/\Up lt p' m:=by
 obtain⟨a1,a2,a3,a4⟩:=GR (lt:=lt) p (nrem - 1) 1;rw [kas_count,lu];generalize g7 lt (pI p (nrem - 1) 1)=n at a1 a2 a3 a4;have u1:Up lt p 1:=fun i j Hy hj=>by
  have:i=j:=by lia
  subst this; exact w.refl _
 have up:Up lt p n:=u1.more w (aC _) a3;by_cases e:n=nrem
 ·subst e;rw [if_pos (by simp)];exact⟨p,n,rfl,lW _,rfl,a1,aC _,up⟩
 ·rw [if_neg (by simpa using e)];have hb:=a4 (by lia);by_cases h2:n > 1
  ·rw [if_pos h2];show ∃ p' m,g7 lt (if lt (gA p 0) (gA p (n - 1))=true then uw (n,p) else wC n nrem (gu p 0 n))=(m,p')/\_;by_cases c:lt (gA p 0) (gA p (n - 1))=true
   ·rw [if_pos c];exact⟨p,n,rfl,lW _,rfl,a1,by lia,up⟩
   ·rw [if_neg c];have c':lt (gA p 0) (gA p (n - 1))=false:=by simpa using c
    have all:∀ i j,i < n->j < n->lt (gA p i) (gA p j)=false:=fun i j hi hj =>
     w.trans _ _ _ (w.trans _ _ _ (up j (n - 1) (by lia) (by lia)) c') (up 0 i (by lia) hi)
    have d1:Dn lt (gu p 0 n) n:=fun i j Hy hj=>by
     rw [gZ (by lia),gZ (by lia),if_pos ⟨by lia,by lia⟩,if_pos ⟨by lia,hj⟩];exact all _ _ (by lia) (by lia)
    have hl:lt (gA (gu p 0 n) (n - 1)) (gA (gu p 0 n) n)=false:=by
     rw [gZ (by lia),gZ (by lia),if_pos ⟨by lia,by lia⟩,if_neg (by lia)];exact w.trans _ _ _ (w.asymm _ _ hb) (all _ _ (by lia) (by lia))
    obtain⟨p',m,y1,y2,y3,y4,y5,y6⟩:=sP (nrem:=nrem) w (p:=gu p 0 n) a1 (by lia) (by rw [lG]; lia) d1 hl;exact⟨p',m,y1,y2.trans (jo _ _ _),y3.trans (lG _ _ _),by lia,y5,y6⟩
  ·rw [if_neg h2];have e1:n=1:=by lia
   subst e1;have d1:Dn lt p 1:=fun i j Hy hj=>by
    have:i=j:=by lia
    subst this; exact w.refl _
   obtain⟨p',m,y1,y2,y3,y4,y5,y6⟩:=sP (nrem:=nrem) w (p:=p) (aC _) (by lia) hs d1 (w.asymm _ _ hb);exact⟨p',m,y1,y2,y3,by lia,y5,y6⟩
theorem IG(w:HV lt){p:Array Nat}{k:Nat}:∀ (f l r:Nat),l<=r->r<=k->r - l<=f->Up lt p k->(∀ i,i < l->lt (gA p k) (gA p i)=false)->(∀ i,r<=i->i < k->lt (gA p k) (gA p i)=true) ->
  ∃ m,g7 lt (jj p k f l r)=m/\m<=k/\(∀ i,i < m->lt (gA p k) (gA p i)=false)/\(∀ i,m<=i->i < k->lt (gA p k) (gA p i)=true):=by
 intro f;induction f with
 | zero =>
  intro l r hlr VF hf up h1 h2;have:l=r:=by lia
  subst this;exact⟨l,rfl,VF,h1,h2⟩
 | succ f ih =>
  intro l r hlr VF hf up h1 h2;have e:g7 lt (jj p k (f+1) l r)=if l>=r then l else if lt (gA p k) (gA p ((l+r) / 2))=true then g7 lt (jj p k f l ((l+r) / 2)) else g7 lt (jj p k f ((l+r) / 2+1) r):=by
   show g7 lt (if l>=r then uw l else .ask (gA p k) (gA p ((l+r) / 2)) fun c=>if c=true then jj p k f l ((l+r) / 2) else jj p k f ((l+r) / 2+1) r)=_;split
   ·rfl
   ·show g7 lt (if lt (gA p k) (gA p ((l+r) / 2))=true then jj p k f l ((l+r) / 2) else jj p k f ((l+r) / 2+1) r)=_;split <;> rfl
  rw [e];by_cases c:l>=r
  ·rw [if_pos c];have:l=r:=by lia
   subst this;exact⟨l,rfl,VF,h1,h2⟩
  ·rw [if_neg c];by_cases d:lt (gA p k) (gA p ((l+r) / 2))=true
   ·rw [if_pos d];refine ih l ((l+r) / 2) (by lia) (by lia) (by lia) up h1 fun i i1 i2=>?_;cases q:lt (gA p k) (gA p i) with
    | true=>rfl
    | false=>rw [w.trans _ _ _ (up ((l+r) / 2) i i1 i2) q] at d; cases d
   ·rw [if_neg d];refine ih ((l+r) / 2+1) r (by lia) VF (by lia) up (fun i hi=>?_) h2;exact w.trans _ _ _ (up i ((l+r) / 2) (by lia) (by lia)) (by simpa using d)
theorem zD{p:Array Nat}{src d:Nat}(hs:src < p.size)(hd:d<=src)(k:Nat):gA (bubble p src d) k=if k=src - d then gA p src else if src - d < k/\k<=src then gA p (k - 1) else gA p k:=by
 rw [zC,getElem?_bubble hs d hd,zC p src,zC p (k - 1),zC p k];by_cases h1:k=src - d
 ·rw [if_pos h1,if_pos h1]
 ·rw [if_neg h1,if_neg h1];by_cases h2:src - d < k/\k<=src
  ·rw [if_pos h2,if_pos h2]
  ·rw [if_neg h2,if_neg h2]
theorem Of(w:HV lt):∀ (f:Nat) (p:Array Nat) (k:Nat),k+f<=p.size->Up lt p k->∃ p',g7 lt (kas_bin f p k)=p'/\p'.Perm p/\p'.size=p.size/\Up lt p' (k+f):=by
 intro f;induction f with
 | zero=>intro p k _ up; exact⟨p,rfl,lW _,rfl,up⟩
 | succ f ih =>
  intro p k hs up;obtain⟨m,e,hm,h1,h2⟩:=IG w k 0 k (bY _) (aC _) (aC _) up (fun i hi=>absurd hi (by lia)) (fun i i1 i2=>absurd i1 (by lia));have Z8:Up lt (bubble p k (k - m)) (k+1):=by
   intro i j Hy hj;rw [zD (by lia) (by lia),zD (by lia) (by lia)];have ek:k - (k - m)=m:=by lia
   rw [ek];by_cases j1:j=m
   ·rw [if_pos j1];by_cases i1:i=m
    ·rw [if_pos i1]; exact w.refl _
    ·rw [if_neg i1,if_neg (by lia)]; exact h1 i (by lia)
   ·rw [if_neg j1];by_cases j2:m < j/\j<=k
    ·rw [if_pos j2];by_cases i1:i=m
     ·rw [if_pos i1]; exact w.asymm _ _ (h2 (j - 1) (by lia) (by lia))
     ·rw [if_neg i1];by_cases i2:m < i/\i<=k
      ·rw [if_pos i2]; exact up _ _ (by lia) (by lia)
      ·rw [if_neg i2]; exact up _ _ (by lia) (by lia)
    ·rw [if_neg j2,if_neg (by lia),if_neg (by lia)]; exact up _ _ Hy (by lia)
  obtain⟨p',z,z1,z2,z3⟩:=ih (bubble p k (k - m)) (k+1) (by rw [bubble_size]; lia) Z8;refine⟨p',?_,z1.trans (bubble_perm _ _ _),z2.trans (bubble_size _ _ _),by rw [show k+(f+1)=k+1+f by lia]; exact z3⟩;rw [kas_bin,lu,e]; exact z
theorem Cw(w:HV lt){n:Nat}(h1:1<=n):∃ p,g7 lt (kas_sort n)=p/\p.toList.Perm (cF n)/\p.size=n/\Up lt p n:=by
 obtain⟨p,m,z,z1,z2,z3,z4,z5⟩:=IH w (p:=(cF n).toArray) h1 (by simp);have zs:p.size=n:=by rw [z2]; simp
 have zp:p.toList.Perm (cF n):=by simpa using z1.toList
 rw [kas_sort,lu,z];show ∃ q,g7 lt (if m < n then kas_bin (n - max m 1) p (max m 1) else .ret p)=q/\_;by_cases c:m < n
 ·rw [if_pos c];have em:max m 1=m:=by lia
  rw [em];obtain⟨p',y,y1,y2,y3⟩:=Of w (n - m) p m (by lia) z5;exact⟨p',y,(by simpa using y1.toList:p'.toList.Perm p.toList).trans zp,y2.trans zs,by rw [show n=m+(n - m) by lia]; exact y3⟩
 ·rw [if_neg c];have:m=n:=by lia
  subst this;exact⟨p,rfl,zp,zs,z5⟩
end
end K2
end
section
namespace K2
open PySem PySem.Spec PyProof.Rows L2
open PySem.AutoSeq1 (wpAny_loadPart')
open PySem.MeetsSeq PySem.MeetsSeq2 PySem.MeetsSeq3 PySem.SeqAt
noncomputable def x8(A:cx)(s:ak)(y x:Value)(b:Bool):Prop :=
 ∀ (prog:bo) (w:World) (E:Value->ak->Prop) (Q:Value->ak->Prop),Q (.bool b) s->wpAny (model prog w) A (pH .Lt y x) Q E s
noncomputable def rf(e l:Nat->Bool)(n m:Nat):Nat->Nat->Bool
 | 0,_=>decide (n < m)
 | f+1,i=>if e i=true then rf e l n m f (i+1) else l i
theorem OS(l b:Addr)(xs ys:Array Value)(n m:Nat)(dd de:Option Addr)(sl sm:Array (Option Value))(e lt:Nat->Bool)(k:Nat) :
  ∀ i:Nat,i<=min xs.size ys.size->min xs.size ys.size - i=k->Meets (Builtin.«list.__eq__.loop» ⟨[.ref l,.ref b,u7 i,u7 0],[]⟩)
   (fun A R s=>s.heap.get? l=some { cls:=.type "list",dict:=dd,data:=.seq xs n,slots:=sl }/\s.heap.get? b=some { cls:=.type "list",dict:=de,data:=.seq ys m,slots:=sm } /\
    (∀ j (h1:j < xs.size) (h2:j < ys.size),EqAt A.in1 s xs[j] ys[j] (e j)/\x8 A.in1 s xs[j] ys[j] (lt j)) /\
    R (.ok (.ret (.bool (rf e lt xs.size ys.size k i)))) s):=by
 induction k with
 | zero =>
  intro i hi hk prog w A R s h;obtain⟨hp,g,d,tk,os⟩:=s;obtain⟨hl,hb,he,h⟩:=h
  wp_walk using bT hl,bT hb
  by_cases c:xs.size<=ys.size
  ·have h1:xs[((i:Nat):Int).toNat]?=none:=by simp; lia
   rw [h1]
   wp_walk using bT hl,bT hb
   exact h
  ·have h2:ys[((i:Nat):Int).toNat]?=none:=by simp; lia
   rw [h2];cases q:xs[((i:Nat):Int).toNat]? with
   | none =>
    wp_walk using bT hl,bT hb
    exact h
   | some v =>
    wp_walk using bT hl,bT hb
    exact h
 | succ k ih =>
  intro i hi hk prog w A R s h;obtain⟨hp,g,d,tk,os⟩:=s;obtain⟨hl,hb,he,h⟩:=h
  wp_walk using bT hl,bT hb
  have l1:i < xs.size:=by lia
  have l2:i < ys.size:=by lia
  have h1:xs[((i:Nat):Int).toNat]?=some xs[i]:=by simp [l1]
  have h2:ys[((i:Nat):Int).toNat]?=some ys[i]:=by simp [l2]
  have hc:((i:Int)+1)=((i+1:Nat):Int):=by push_cast; rfl
  rw [h1,h2];refine ae ((he i l1 l2).1 prog w _ _ ?_);cases q:e i with
  | true =>
   rw [rf,q,if_pos rfl] at h
   wp_walk
   rw [hc];exact⟨jG plain_eq_loop _,fE entry_eq_loop (by
    rw [eM plain_eq_loop _];exact ih (i+1) (by lia) (by lia) prog w A R _ ⟨hl,hb,he,h⟩)⟩
  | false =>
   rw [rf,q,if_neg (by simp)] at h
   wp_walk using bT hl,bT hb
   rw [h1,h2];have Ui:=(he i l1 l2).2 prog w
   wp_walk using Ui
   exact h
theorem zr(l b:Addr)(xs ys:Array Value)(n m:Nat)(dd de:Option Addr)(sl sm:Array (Option Value))(e lt:Nat->Bool) :
  Meets (Builtin.«list.__lt__» ⟨[.ref l,.ref b],[]⟩)
   (fun A R s=>s.heap.get? l=some { cls:=.type "list",dict:=dd,data:=.seq xs n,slots:=sl }/\s.heap.get? b=some { cls:=.type "list",dict:=de,data:=.seq ys m,slots:=sm } /\
    (∀ j (h1:j < xs.size) (h2:j < ys.size),EqAt A.in1 s xs[j] ys[j] (e j)/\x8 A.in1 s xs[j] ys[j] (lt j)) /\
    R (.ok (.ret (.bool (rf e lt xs.size ys.size (min xs.size ys.size) 0)))) s):=by
 intro prog w A R s h;obtain⟨hp,g,d,tk,os⟩:=s;obtain⟨hl,hb,he,h⟩:=h;have f3:=EC
 wp_walk using bT hl,bT hb
 exact⟨jG plain_eq_loop _,fE entry_eq_loop (by
  rw [eM plain_eq_loop _];exact OS l b xs ys n m dd de sl sm e lt _ 0 (bY _) rfl prog w A R _ ⟨hl,hb,he,h⟩)⟩
theorem wJ(l b:Addr)(xs ys:Array Value)(n m:Nat)(dd de:Option Addr)(sl sm:Array (Option Value))(e lt:Nat->Bool) :
  Meets (Builtin.«tuple.__lt__» ⟨[.ref l,.ref b],[]⟩)
   (fun A R s=>s.heap.get? l=some { cls:=.type "tuple",dict:=dd,data:=.seq xs n,slots:=sl }/\s.heap.get? b=some { cls:=.type "tuple",dict:=de,data:=.seq ys m,slots:=sm } /\
    (∀ j (h1:j < xs.size) (h2:j < ys.size),EqAt A.in1 s xs[j] ys[j] (e j)/\x8 A.in1 s xs[j] ys[j] (lt j)) /\
    R (.ok (.ret (.bool (rf e lt xs.size ys.size (min xs.size ys.size) 0)))) s) :=
 .of_wp fun prog w A R s h=>by
  obtain⟨hp,g,d,tk,os⟩:=s;obtain⟨hl,hb,he,h⟩:=h;have f2:=oT;have zl:(xs.toList.zip ys.toList).length=min xs.size ys.size:=by simp
  wp_walk using bT hl,bT hb,wpAny_forIn_list _ (fun rest c s'=>c.1=none/\s'=⟨hp,g,d,tk,os⟩/\∃ i,i<=min xs.size ys.size/\rest=(xs.toList.zip ys.toList).drop i /\
   R (.ok (.ret (.bool (rf e lt xs.size ys.size (min xs.size ys.size - i) i)))) ⟨hp,g,d,tk,os⟩) _
  case turn =>
   rintro⟨y,x⟩ rest c s' ⟨hc,rfl,i,hi,hz,hR⟩;have il:i < min xs.size ys.size:=by
    have:=congrArg gE hz;rw [cK,zl,ah] at this;lia
   have l1:i < xs.size:=by lia
   have l2:i < ys.size:=by lia
   rw [cX (by rw [zl]; exact il)] at hz;injection hz with Xd hrest
   have ey:y=xs[i]/\x=ys[i]:=by simpa using Xd
   obtain⟨rfl,rfl⟩:=ey;obtain⟨k,ek⟩:∃ k,min xs.size ys.size - i=k+1:=⟨min xs.size ys.size - i - 1,by lia⟩;rw [ek,rf] at hR;refine ae ((he i l1 l2).1 prog w _ _ ?_);cases q:e i with
   | true =>
    rw [q,if_pos rfl] at hR
    wp_walk
    exact⟨rfl,rfl,i+1,by lia,hrest,by rw [show min xs.size ys.size - (i+1)=k by lia]; exact hR⟩
   | false =>
    rw [q,if_neg (by simp)] at hR;have Ui:=(he i l1 l2).2 prog w
    wp_walk using Ui
    exact⟨_,rfl,by simpa using hR⟩
  case fin =>
   rintro⟨c1,c2⟩ s' ⟨hc,rfl,i,hi,hz,hR⟩;simp only at hc;subst hc;have il:min xs.size ys.size - i=0:=by
    have:=congrArg gE hz;rw [cK,zl,ar] at this;lia
   rw [il,rf] at hR
   wp_walk
   exact⟨_,rfl,by simpa [sD] using hR⟩
  case h =>
   exact⟨rfl,rfl,0,bY _,rfl,by simpa using h⟩
theorem Jc{A:cx}{s:ak}{l b:Addr}{xs ys:Array Value}{e lt:Nat->Bool}(hl:s.heap.IsList l xs)(hb:s.heap.IsList b ys)(hu:A.units < cLine)
  (he:∀ j (h1:j < xs.size) (h2:j < ys.size),EqAt A.in1 s xs[j] ys[j] (e j)/\x8 A.in1 s xs[j] ys[j] (lt j)):x8 A s (.ref l) (.ref b) (rf e lt xs.size ys.size (min xs.size ys.size) 0):=by
 intro prog w E Q hq;obtain⟨⟨cls,dd,data,sl⟩,ho,hc,n,hd⟩:=id hl;obtain⟨⟨M0,HI,data2,Cp⟩,zw,Bo,n2,hd2⟩:=id hb;simp only at hc hd Bo hd2;subst hc hd Bo hd2;exact vC (op:=.Lt) ⟨_,ho,rfl⟩ ⟨_,zw,rfl⟩ sv Ig (GA _ _) (zr l b xs ys n n2 dd HI sl Cp e lt)
  ⟨ho,zw,he,(fun x=>nomatch x),hq⟩ hu
theorem Fm{A:cx}{s:ak}{l b:Addr}{xs ys:Array Value}{e lt:Nat->Bool}(hl:s.heap.IsTuple l xs)(hb:s.heap.IsTuple b ys)(hu:A.units < cLine)
  (he:∀ j (h1:j < xs.size) (h2:j < ys.size),EqAt A.in1 s xs[j] ys[j] (e j)/\x8 A.in1 s xs[j] ys[j] (lt j)):x8 A s (.ref l) (.ref b) (rf e lt xs.size ys.size (min xs.size ys.size) 0):=by
 intro prog w E Q hq;obtain⟨⟨cls,dd,data,sl⟩,ho,hc,n,hd⟩:=id hl;obtain⟨⟨M0,HI,data2,Cp⟩,zw,Bo,n2,hd2⟩:=id hb;simp only at hc hd Bo hd2;subst hc hd Bo hd2;exact vC (op:=.Lt) ⟨_,ho,rfl⟩ ⟨_,zw,rfl⟩ kS qU (pO _ _) (wJ l b xs ys n n2 dd HI sl Cp e lt)
  ⟨ho,zw,he,(fun x=>nomatch x),hq⟩ hu
theorem ni(xs ys:List D):∀ (k i:Nat),i<=min xs.length ys.length->min xs.length ys.length - i=k ->
  rf (fun j=>g4 (xs.getD j .cy) (ys.getD j .cy)) (fun j=>ma (xs.getD j .cy) (ys.getD j .cy)) xs.length ys.length k i=l8 (xs.drop i) (ys.drop i)
 | 0,i,hi,hk=>by
  rw [rf];by_cases c:xs.length<=ys.length
  ·have e1:xs.drop i=[]:=kU (by lia);rw [e1];cases q:ys.drop i with
   | nil =>
    have:=congrArg gE q;rw [cK,ar] at this;exact decide_eq_false (by lia)
   | cons y r =>
    have:=congrArg gE q;rw [cK,ah] at this;exact decide_eq_true (by lia)
  ·have e1:ys.drop i=[]:=kU (by lia);rw [e1];cases q:xs.drop i with
   | nil =>
    have:=congrArg gE q;rw [cK,ar] at this;exact decide_eq_false (by lia)
   | cons y r=>exact decide_eq_false (by lia)
 | k+1,i,hi,hk=>by
  have l1:i < xs.length:=by lia
  have l2:i < ys.length:=by lia
  rw [rf,cX l1,cX l2,n8,ni xs ys k (i+1) (by lia) (by lia)];have g1:xs.getD i .cy=xs[i]:=by rw [aH,ai l1]; rfl
  have g2:ys.getD i .cy=ys[i]:=by rw [aH,ai l2]; rfl
  rw [g1,g2]
theorem jq{h:Heap}:∀ {ds:List D} {vs:List Value} {as:List Addr},gB h vs (kO ds) as->∀ j (hj:j < vs.length),∃ bs,Reads h vs[j] (pd (ds.getD j .cy)) bs
 | [],vs,as,r,j,hj=>by cases r; exact absurd hj (cC _)
 | d :: ds,_,_,.cons (v:=v) (vs:=vs) r1 r2,j,hj=>by
  cases j with
  | zero=>exact⟨_,r1⟩
  | succ j=>exact jq r2 j (by simpa using hj)
theorem readsAll_len{h:Heap}:∀ {ds:List D} {vs:List Value} {as:List Addr},gB h vs (kO ds) as->vs.length=ds.length
 | [],_,_,r=>by cases r; rfl
 | d :: ds,_,_,.cons r1 r2=>by rw [ah,ah,readsAll_len r2]
theorem nX:∀ {ds:List D},oV ds=true->∀ j,nr (ds.getD j .cy)=true
 | [],_,j=>by rw [List.getD_nil]; rfl
 | d :: ds,h,0=>by
  have h:(nr d&&oV ds)=true:=h;rw [aG] at h; simpa using h.1
 | d :: ds,h,j+1=>by
  have h:(nr d&&oV ds)=true:=h;rw [aG] at h; simpa using nX h.2 j
theorem km:∀ (ds:List D) (j:Nat),(pd (ds.getD j .cy)).depth<=bU (kO ds)
 | [],j=>by rw [List.getD_nil]; exact aC _
 | d :: ds,0=>by
  show (pd d).depth<=bU (pd d :: kO ds);simp only [bU]; lia
 | d :: ds,j+1=>by
  have:=km ds j;show (pd (ds.getD j .cy)).depth<=bU (pd d :: kO ds);simp only [bU]; lia
theorem qi:∀ {l:List me} {ds:List D},e9 l ds=true->∀ j,j < ds.length->∃ s∈l,cD s (ds.getD j .cy)=true/\l[j]?=some s
 | [],[],_,j,hj=>absurd hj (cC _)
 | [],_ :: _,h,_,_=>by cases h
 | _ :: _,[],h,_,_=>by cases h
 | s :: l,d :: ds,h,0,_=>by
  have h:(cD s d&&e9 l ds)=true:=h;rw [aG] at h;exact⟨s,by simp,by simpa using h.1,by simp⟩
 | s :: l,d :: ds,h,j+1,hj=>by
  have h:(cD s d&&e9 l ds)=true:=h;rw [aG] at h;obtain⟨s',h1,h2,h3⟩:=qi h.2 j (by simpa using hj);exact⟨s',aN _ h1,by simpa using h2,by simpa using h3⟩
theorem qj:∀ {s:me} {ds:List D},gz s ds=true->∀ j,j < ds.length->cD s (ds.getD j .cy)=true
 | s,[],_,j,hj=>absurd hj (cC _)
 | s,d :: ds,h,0,_=>by
  have h:(cD s d&&gz s ds)=true:=h;rw [aG] at h; simpa using h.1
 | s,d :: ds,h,j+1,hj=>by
  have h:(cD s d&&gz s ds)=true:=h;rw [aG] at h; simpa using qj h.2 j (by simpa using hj)
theorem BD{A:cx}{s:ak}{xs ys:List D}{vs ws:Array Value}{as bs:List Addr}(r1:gB s.heap vs.toList (kO xs) as)(r2:gB s.heap ws.toList (kO ys) bs)(n1:oV xs=true)(n2:oV ys=true)
  (hu:A.units+bU (kO xs) < cLine) (j:Nat) (h1:j < vs.size) (h2:j < ws.size):EqAt A s vs[j] ws[j] (g4 (xs.getD j .cy) (ys.getD j .cy)):=by
 obtain⟨Vb,q1⟩:=jq r1 j (by simpa using h1);obtain⟨Qg,q2⟩:=jq r2 j (by simpa using h2);have m1:=nX n1 j;have m2:=nX n2 j;have dp:=km xs j;have:=eqAt_reads (pd (xs.getD j .cy)) (pd (ys.getD j .cy)) A s _ _ _ _ q1 q2 (jz _ m1) (jz _ m2) (by lia);rw [r8 _ _ m1 m2] at this;simpa using this
theorem xm:∀ (n:Nat) (sh:me) (a b:D) (A:cx) (s:ak) (u v:Value) (as bs:List Addr),(pd a).depth<=n->cD sh a=true->cD sh b=true->nr a=true->nr b=true->Reads s.heap u (pd a) as->Reads s.heap v (pd b) bs->A.units+n < cLine->x8 A s u v (ma a b):=by
 intro n;induction n using Nat.strongRecOn with
 | _ n ih =>
 intro sh a b A s u v as bs hn h1 h2 n1 n2 r1 r2 hu;cases sh with
 | int =>
  first | obtain⟨_,rfl⟩:=dc h1 | obtain⟨_,rfl⟩:=c9 h1 | obtain⟨_,rfl⟩:=da h1
  first | obtain⟨_,rfl⟩:=dc h2 | obtain⟨_,rfl⟩:=c9 h2 | obtain⟨_,rfl⟩:=da h2
  cases r1; cases r2;intro prog w E Q hq;exact HT.wY A s _ _ _ _ prog w E Q hq
 | tup l =>
  first | obtain⟨_,rfl⟩:=dc h1 | obtain⟨_,rfl⟩:=c9 h1 | obtain⟨_,rfl⟩:=da h1
  first | obtain⟨_,rfl⟩:=dc h2 | obtain⟨_,rfl⟩:=c9 h2 | obtain⟨_,rfl⟩:=da h2
  rename_i xs ys;have n1:oV xs=true:=n1;have n2:oV ys=true:=n2;cases r1 with
  | tuple k1 k2 k3 k4 =>
   cases r2 with
   | tuple m1 m2 m3 m4 =>
    rename_i p o vs c p' o' ws c';have hd:(pd (.tup xs)).depth=bU (kO xs)+1:=rfl;obtain⟨n',rfl⟩:∃ n',n=n'+1:=⟨n - 1,by lia⟩;have z1:=readsAll_len k4;have z2:=readsAll_len m4;have e1:vs.size=xs.length:=by simpa using z1
    have e2:ws.size=ys.length:=by simpa using z2
    have base:=Fm (A:=A) (s:=s) (e:=fun j=>g4 (xs.getD j .cy) (ys.getD j .cy)) (lt:=fun j=>ma (xs.getD j .cy) (ys.getD j .cy)) ⟨_,k1,k2,_,k3⟩ ⟨_,m1,m2,_,m3⟩ (by lia) (fun j j1 j2=>by
     refine⟨BD k4 m4 n1 n2 (by show A.units+1+_ < _; lia) j j1 j2,?_⟩;obtain⟨Vb,q1⟩:=jq k4 j (by simpa using j1);obtain⟨Qg,q2⟩:=jq m4 j (by simpa using j2);obtain⟨sj,hsj,g1,g2⟩:=qi (l:=l) (ds:=xs) h1 j (by lia);obtain⟨sj',Xp,X8,UR⟩:=qi (l:=l) (ds:=ys) h2 j (by lia);rw [g2] at UR; cases UR;have dp:=km xs j;have:=ih n' (by lia) sj (xs.getD j .cy) (ys.getD j .cy) A.in1 s _ _ _ _ (by lia) g1 X8 (nX n1 j) (nX n2 j) q1 q2 (by show A.units+1+n' < cLine; lia);simpa using this)
    have fin:=ni xs ys (min xs.length ys.length) 0 (bY _) rfl;rw [e1,e2,fin] at base;exact base
 | lst l =>
  first | obtain⟨_,rfl⟩:=dc h1 | obtain⟨_,rfl⟩:=c9 h1 | obtain⟨_,rfl⟩:=da h1
  first | obtain⟨_,rfl⟩:=dc h2 | obtain⟨_,rfl⟩:=c9 h2 | obtain⟨_,rfl⟩:=da h2
  rename_i xs ys;have n1:oV xs=true:=n1;have n2:oV ys=true:=n2;cases r1 with
  | list k1 k2 k3 k4 =>
   cases r2 with
   | list m1 m2 m3 m4 =>
    rename_i p o vs c p' Vb o' ws c' Qg;have hd:(pd (.eL xs)).depth=bU (kO xs)+1:=rfl;obtain⟨n',rfl⟩:∃ n',n=n'+1:=⟨n - 1,by lia⟩;have z1:=readsAll_len k4;have z2:=readsAll_len m4;have e1:vs.size=xs.length:=by simpa using z1
    have e2:ws.size=ys.length:=by simpa using z2
    have base:=Jc (A:=A) (s:=s) (e:=fun j=>g4 (xs.getD j .cy) (ys.getD j .cy)) (lt:=fun j=>ma (xs.getD j .cy) (ys.getD j .cy)) ⟨_,k1,k2,_,k3⟩ ⟨_,m1,m2,_,m3⟩ (by lia) (fun j j1 j2=>by
     refine⟨BD k4 m4 n1 n2 (by show A.units+1+_ < _; lia) j j1 j2,?_⟩;obtain⟨Vb,q1⟩:=jq k4 j (by simpa using j1);obtain⟨Qg,q2⟩:=jq m4 j (by simpa using j2);have dp:=km xs j;have:=ih n' (by lia) l (xs.getD j .cy) (ys.getD j .cy) A.in1 s _ _ _ _ (by lia) (qj (s:=l) (ds:=xs) h1 j (by lia)) (qj (s:=l) (ds:=ys) h2 j (by lia)) (nX n1 j) (nX n2 j) q1 q2 (by show A.units+1+n' < cLine; lia);simpa using this)
    have fin:=ni xs ys (min xs.length ys.length) 0 (bY _) rfl;rw [e1,e2,fin] at base;exact base
end K2
end
section
namespace K2
open PySem PySem.Spec PyProof.Rows L2 PySem.W
section
variable {prog:bo} {w:World} {A:cx} {E:Value->ak->Prop} {s:ak}
theorem Co {at':Addr} {a7:List Value} {n:Nat} {P:PySem.Fin->ak->Prop} (Ec:s.heap.get? at'=some (u6 "list" a7.toArray n)) (rZ:a7.length < 2)
  (done:P (.done (.ret .none)) { s with heap:=sortedHeap s.heap at' a7 a7.toArray }):wpAny (model prog w) A (Builtin.«list.sort» ⟨[.ref at'],[]⟩) P E s:=by
 rw [list_sort_plain];have lt':at' < s.heap.objs.size:=aK Ec;refine ae (listItems_at Ec rfl (ae (listUpdate_at Ec rfl ?_)));obtain⟨c,hc⟩:∃ c,(s.heap.update at' (iD fun _=>#[])).get? at'=some (u6 "list" #[] c):=⟨_,get?_update_seq Ec (fun _=>#[])⟩;refine ae (seqEpoch_at hc rfl (ae (wpAny_newTuple (ae (wpAny_newList (cE ?_))))));have h6:(((s.heap.update at' (iD fun _=>#[])).push (u6 "tuple" a7.toArray 0)).push (u6 "list" #[] 0)).get? at'=some (u6 "list" #[] c):=by
  rw [yY _ _ _ (by rw [size_push',rK]; exact bA (lD lt')),yY _ _ _ (by rw [rK]; exact bA lt')];exact hc
 show wpAny (model prog w) A _ P E { s with heap:=((s.heap.update at' (iD fun _=>#[])).push (u6 "tuple" a7.toArray 0)).push (u6 "list" #[] 0) };dsimp only;have YD:a7.toArray.size < 2:=by simpa using rZ
 rw [if_pos YD,if_pos YD];refine ae (aq ?_);rw [StateT.run_pure];refine ae (aq ?_);dsimp only;have es:(a7.toArray.zip a7.toArray).map (·.2)=a7.toArray:=by
  apply Array.toList_inj.mp;simp [List.map_snd_zip]
 refine ae (seqEpoch_at h6 rfl (ae (listUpdate_at h6 rfl ?_ (hsz2:=by rw [show (arrOf (SortSt.mk' general' (a7.toArray.zip a7.toArray) #[] 7 none)).map (·.2)=a7.toArray from es,bN]; simp; lia))));simp only [bne_self_eq_false,au,if_false];refine aq ?_;rw [show (arrOf (SortSt.mk' general' (a7.toArray.zip a7.toArray) #[] 7 none)).map (·.2)=a7.toArray from es];exact done
theorem ET{l:Addr}{a7:List Value}{Q:Value->ak->Prop}(hl:s.heap.IsList l a7.toArray)(rZ:a7.length < 2)
  (done:Q (.ref (s.heap.objs.size+1)) { s with heap:=sortedAll s.heap a7 a7.toArray }):wpAny (model prog w) A (call (.builtin "sorted") [.ref l]) Q E s:=by
 refine EA kind_sorted plain_sorted entry_sorted (args_sorted1 _) ?_;unfold Builtin.«sorted»;refine ae (m:=checkCount "sorted" 1 1 _) (aq (ae (collect_list hl (ae (wpAny_newList ?_)))));have e1:((s.heap.push (u6 "list" #[] 0)).update s.heap.objs.size (iD (·++a7.toArray))).objs.size=s.heap.objs.size+1:=by rw [rK,size_push']
 have e2:(((s.heap.push (u6 "list" #[] 0)).update s.heap.objs.size (iD (·++a7.toArray))).push (u6 "list" a7.toArray 0)).get? (s.heap.objs.size+1)=some (u6 "list" a7.toArray 0):=by
  rw [<-e1]; exact bh _ rfl
 show wpAny _ _ _ _ _ { s with heap:=((s.heap.push (u6 "list" #[] 0)).update s.heap.objs.size (iD (·++a7.toArray))).push (u6 "list" a7.toArray 0) };rw [e1];refine ae (cE (eG slot_list_sort ⟨_,e2,rfl⟩ entry_list_sort (Co e2 rZ ⟨_,rfl,?_⟩) (args_list_sort _)));exact aq ⟨_,rfl,done⟩
end
section
open PySem.SeqAt
noncomputable def Nc(A:cx)(s:ak)(y x:Value)(b:Bool):Prop :=
 ∀ (prog:bo) (w:World) (E:Value->ak->Prop) (Q:Bool->ak->Prop),Q b s->wpAny (model prog w) A (oneLt' true y x) Q E s
theorem E7{A:cx}{s:ak}{l b:Addr}{xs ys:Array Value}{e lt:Nat->Bool}(hl:s.heap.IsList l xs)(hb:s.heap.IsList b ys)(hu:A.units < cLine)
  (he:∀ j (h1:j < xs.size) (h2:j < ys.size),EqAt A.in1 s xs[j] ys[j] (e j)/\x8 A.in1 s xs[j] ys[j] (lt j)):Nc A s (.ref l) (.ref b) (rf e lt xs.size ys.size (min xs.size ys.size) 0):=by
 intro prog w E Q hq;obtain⟨⟨cls,dd,data,sl⟩,ho,hc,n,hd⟩:=id hl;obtain⟨⟨M0,HI,data2,Cp⟩,zw,Bo,n2,hd2⟩:=id hb;simp only at hc hd Bo hd2;subst hc hd Bo hd2;rw [oneLt'_eq];simp only [if_true];refine ae (wpAny_cRoomFor hu (ae (Gv (T:="list") ⟨_,ho,rfl⟩ sv ?_)));exact yc sv ⟨_,ho,rfl⟩ Ig (GA _ _) (zr l b xs ys n n2 dd HI sl Cp e lt) ⟨ho,zw,he,ig hq⟩
theorem CN{A:cx}{s:ak}{l b:Addr}{xs ys:Array Value}{e lt:Nat->Bool}(hl:s.heap.IsTuple l xs)(hb:s.heap.IsTuple b ys)(hu:A.units < cLine)
  (he:∀ j (h1:j < xs.size) (h2:j < ys.size),EqAt A.in1 s xs[j] ys[j] (e j)/\x8 A.in1 s xs[j] ys[j] (lt j)):Nc A s (.ref l) (.ref b) (rf e lt xs.size ys.size (min xs.size ys.size) 0):=by
 intro prog w E Q hq;obtain⟨⟨cls,dd,data,sl⟩,ho,hc,n,hd⟩:=id hl;obtain⟨⟨M0,HI,data2,Cp⟩,zw,Bo,n2,hd2⟩:=id hb;simp only at hc hd Bo hd2;subst hc hd Bo hd2;rw [oneLt'_eq];simp only [if_true];refine ae (wpAny_cRoomFor hu (ae (Gv (T:="tuple") ⟨_,ho,rfl⟩ kS ?_)));exact yc kS ⟨_,ho,rfl⟩ qU (pO _ _) (wJ l b xs ys n n2 dd HI sl Cp e lt) ⟨ho,zw,he,ig hq⟩
theorem C3{n:Nat}{A:cx}{s:ak}{xs ys:List D}{vs ws:Array Value}{as bs:List Addr}(r1:gB s.heap vs.toList (kO xs) as)(r2:gB s.heap ws.toList (kO ys) bs)(n1:oV xs=true)(n2:oV ys=true)(hd:bU (kO xs)<=n)
  (hu:A.units+n < cLine) (hs:∀ j,j < xs.length->j < ys.length->∃ sh,cD sh (xs.getD j .cy)=true/\cD sh (ys.getD j .cy)=true) (j:Nat) (h1:j < vs.size) (h2:j < ws.size) :
  EqAt A s vs[j] ws[j] (g4 (xs.getD j .cy) (ys.getD j .cy))/\x8 A s vs[j] ws[j] (ma (xs.getD j .cy) (ys.getD j .cy)):=by
 have z1:=readsAll_len r1;have z2:=readsAll_len r2;have e1:vs.size=xs.length:=by simpa using z1
 have e2:ws.size=ys.length:=by simpa using z2
 refine⟨BD r1 r2 n1 n2 (by lia) j h1 h2,?_⟩;obtain⟨Vb,q1⟩:=jq r1 j (by simpa using h1);obtain⟨Qg,q2⟩:=jq r2 j (by simpa using h2);obtain⟨sh,g1,g2⟩:=hs j (by lia) (by lia);have dp:=km xs j;have:=xm n sh (xs.getD j .cy) (ys.getD j .cy) A s _ _ _ _ (by lia) g1 g2 (nX n1 j) (nX n2 j) q1 q2 hu;simpa using this
theorem p7{n:Nat}{sh:me}{a b:D}{A:cx}{s:ak}{u v:Value}{as bs:List Addr}(hn:(pd a).depth<=n)(h1:cD sh a=true)(h2:cD sh b=true)(n1:nr a=true)(n2:nr b=true)(r1:Reads s.heap u (pd a) as)(r2:Reads s.heap v (pd b) bs)
  (hu:A.units+n < cLine):Nc A s u v (ma a b):=by
 cases sh with
 | int =>
  first | obtain⟨_,rfl⟩:=dc h1 | obtain⟨_,rfl⟩:=c9 h1 | obtain⟨_,rfl⟩:=da h1
  first | obtain⟨_,rfl⟩:=dc h2 | obtain⟨_,rfl⟩:=c9 h2 | obtain⟨_,rfl⟩:=da h2
  cases r1; cases r2;intro prog w E Q hq;exact oneLt_int hq
 | tup l =>
  first | obtain⟨_,rfl⟩:=dc h1 | obtain⟨_,rfl⟩:=c9 h1 | obtain⟨_,rfl⟩:=da h1
  first | obtain⟨_,rfl⟩:=dc h2 | obtain⟨_,rfl⟩:=c9 h2 | obtain⟨_,rfl⟩:=da h2
  rename_i xs ys;have n1:oV xs=true:=n1;have n2:oV ys=true:=n2;cases r1 with
  | tuple k1 k2 k3 k4 =>
   cases r2 with
   | tuple m1 m2 m3 m4 =>
    rename_i p o vs c p' o' ws c';have hd:(pd (.tup xs)).depth=bU (kO xs)+1:=rfl;obtain⟨n',rfl⟩:∃ n',n=n'+1:=⟨n - 1,by lia⟩;have z1:=readsAll_len k4;have z2:=readsAll_len m4;have e1:vs.size=xs.length:=by simpa using z1
    have e2:ws.size=ys.length:=by simpa using z2
    have base:=CN (A:=A) (s:=s) ⟨_,k1,k2,_,k3⟩ ⟨_,m1,m2,_,m3⟩ (by lia) (C3 (A:=A.in1) (n:=n') k4 m4 n1 n2 (by lia) (by show A.units+1+n' < cLine; lia) fun j j1 j2=>by
     obtain⟨sj,hsj,g1,g2⟩:=qi (l:=l) (ds:=xs) h1 j j1;obtain⟨sj',Xp,X8,UR⟩:=qi (l:=l) (ds:=ys) h2 j j2;rw [g2] at UR; cases UR;exact⟨sj,g1,X8⟩)
    have fin:=ni xs ys (min xs.length ys.length) 0 (bY _) rfl;rw [e1,e2,fin] at base;exact base
 | lst l =>
  first | obtain⟨_,rfl⟩:=dc h1 | obtain⟨_,rfl⟩:=c9 h1 | obtain⟨_,rfl⟩:=da h1
  first | obtain⟨_,rfl⟩:=dc h2 | obtain⟨_,rfl⟩:=c9 h2 | obtain⟨_,rfl⟩:=da h2
  rename_i xs ys;have n1:oV xs=true:=n1;have n2:oV ys=true:=n2;cases r1 with
  | list k1 k2 k3 k4 =>
   cases r2 with
   | list m1 m2 m3 m4 =>
    rename_i p o vs c p' Vb o' ws c' Qg;have hd:(pd (.eL xs)).depth=bU (kO xs)+1:=rfl;obtain⟨n',rfl⟩:∃ n',n=n'+1:=⟨n - 1,by lia⟩;have z1:=readsAll_len k4;have z2:=readsAll_len m4;have e1:vs.size=xs.length:=by simpa using z1
    have e2:ws.size=ys.length:=by simpa using z2
    have base:=E7 (A:=A) (s:=s) ⟨_,k1,k2,_,k3⟩ ⟨_,m1,m2,_,m3⟩ (by lia) (C3 (A:=A.in1) (n:=n') k4 m4 n1 n2 (by lia) (by show A.units+1+n' < cLine; lia) fun j j1 j2=>⟨l,qj (s:=l) (ds:=xs) h1 j j1,qj (s:=l) (ds:=ys) h2 j j2⟩);have fin:=ni xs ys (min xs.length ys.length) 0 (bY _) rfl;rw [e1,e2,fin] at base;exact base
theorem Bh{prog:bo}{w:World}{A:cx}{s:ak}{b fin:Bool}{Q:Bool->ak->Prop}{n:Nat}(hu:A.units+n < cLine):∀ (l:List me) (xs ys:List D) (vs ws:List Value) (as bs:List Addr) (i:Nat),e9 l xs=true->e9 l ys=true->oV xs=true->oV ys=true ->
  gB s.heap vs (kO xs) as->gB s.heap ws (kO ys) bs->bU (kO xs)<=n->fin=false->Q (l8 xs ys) s->KatLex prog w A b fin Q (vs.zip ws) i s:=by
 intro l xs;induction xs generalizing l with
 | nil =>
  intro ys vs ws as bs i h1 h2 n1 n2 r1 r2 hd hf hq;cases r1;cases l with
  | nil =>
   cases ys with
   | nil=>cases r2; subst hf; exact hq
   | cons _ _=>cases h2
  | cons _ _=>cases h1
 | cons x xs ih =>
  intro ys vs ws as bs i h1 h2 n1 n2 r1 r2 hd hf hq;cases l with
  | nil=>cases h1
  | cons sh l =>
  cases ys with
  | nil=>cases h2
  | cons y ys =>
  cases r1 with
  | @cons v vs _ _ _ _ a1 a2 =>
  cases r2 with
  | @cons u ws _ _ _ _ b1 b2 =>
  have h1:(cD sh x&&e9 l xs)=true:=h1;have h2:(cD sh y&&e9 l ys)=true:=h2;have n1:(nr x&&oV xs)=true:=n1;have n2:(nr y&&oV ys)=true:=n2;rw [aG] at h1 h2 n1 n2;have UH:(pd x).depth<=n/\bU (kO xs)<=n:=by
   have hd:bU (pd x :: kO xs)<=n:=hd;simp only [bU] at hd;lia
  show KatLex prog w A b fin Q ((v,u) :: vs.zip ws) i s;have eq:=eqAt_reads (pd x) (pd y) A s _ _ _ _ a1 b1 (jz _ n1.1) (jz _ n2.1) (by lia);rw [r8 _ _ n1.1 n2.1] at eq;refine kat_cons (eq prog w _ _ ?_);rw [n8] at hq;cases q:g4 x y with
  | true =>
   rw [q,if_pos rfl] at hq;exact kat_yes (ih l ys vs ws _ _ (i+1) h1.2 h2.2 n1.2 n2.2 a2 b2 UH.2 hf hq)
  | false =>
   rw [q,if_neg (by simp)] at hq;refine kat_no ?_;cases c:(b&&i == 0) with
   | true=>exact p7 UH.1 h1.1 h2.1 n1.1 n2.1 a1 b1 hu prog w _ Q hq
   | false=>exact kat_one v u (xm n sh x y A s _ _ _ _ UH.1 h1.1 h2.1 n1.1 n2.1 a1 b1 hu prog w _ _ hq)
end
noncomputable def ku{α:Type}(n:Nat)(P:α->Prop):KasT α->Prop
 | .ret a=>P a
 | .ask i j k=>i < n/\j < n/\∀ b,ku n P (k b)
theorem ku.bind{α β:Type}{n:Nat}{P:α->Prop}{P':β->Prop}{f:α->KasT β}:∀ {t:KasT α},ku n P t->(∀ a,P a->ku n P' (f a))->ku n P' (t.bind f)
 | .ret a,q,h=>h a q
 | .ask i j k,⟨q1,q2,q3⟩,h=>⟨q1,q2,fun b=>ku.bind (q3 b) h⟩
theorem xB{α:Type}{n:Nat}{lt:Nat->Nat->Bool}{cmp:Nat->Nat->(Bool->ak->Prop)->ak->Prop}{s:ak}{Q:α->ak->Prop}(hc:∀ i j,i < n->j < n->∀ C:Bool->ak->Prop,C (lt i j) s->cmp i j C s) :
  ∀ (t:KasT α),ku n (fun _=>True) t->Q (g7 lt t) s->t.kasWp cmp Q s
 | .ret a,_,q=>q
 | .ask i j k,⟨h1,h2,h3⟩,q=>hc i j h1 h2 _ (xB hc (k (lt i j)) (h3 _) q)
noncomputable def Bd(n:Nat)(p:Array Nat):Prop:=0 < n/\∀ x∈p,x < n
theorem Bd.at{n:Nat}{p:Array Nat}(h:Bd n p)(k:Nat):p.getD k 0 < n:=by
 by_cases hk:k < p.size
 ·have:p.getD k 0=p[k]:=by simp [pP,hk]
  rw [this]; exact h.2 _ (Array.getElem_mem hk)
 ·have:p.getD k 0=0:=by simp [pP,hk]
  rw [this]; exact h.1
theorem Bd.perm{n:Nat}{p q:Array Nat}(h:Bd n p)(hp:q.Perm p):Bd n q:=⟨h.1,fun x hx=>h.2 x (hp.mem_iff.mp hx)⟩
theorem BO{n:Nat}{p:Array Nat}(h:Bd n p):∀ (f k:Nat),ku n (fun _=>True) (pI p f k)
 | 0,k=>trivial
 | f+1,k=>⟨h.at _,h.at _,fun b=>by
  show ku n _ (if b=true then uw k else pI p f (k+1));split
  ·trivial
  ·exact BO h f (k+1)⟩
theorem t4{n:Nat}:∀ (f:Nat) (p:Array Nat) (k q:Nat),Bd n p->ku n (fun r=>Bd n r.1) (ky f p k q)
 | 0,p,k,q,h=>h
 | f+1,p,k,q,h=>⟨h.at _,h.at _,fun b=>by
  show ku n _ (if b=true then (if q > 0 then ky f (gu p (k - (q+1)) k) (k+1) 0 else ky f p (k+1) 0) else .ask (p.getD (k - 1) 0) (p.getD k 0) fun d=>if d=true then .ret (p,k,q) else ky f p (k+1) (q+1));split
  ·split
   ·exact t4 f _ _ _ (h.perm (jo _ _ _))
   ·exact t4 f _ _ _ h
  ·refine⟨h.at _,h.at _,fun d=>?_⟩;show ku n _ (if d=true then uw (p,k,q) else ky f p (k+1) (q+1));split
   ·exact h
   ·exact t4 f _ _ _ h⟩
theorem DJ{n:Nat}{p:Array Nat}(h:Bd n p)(k m:Nat):ku n (fun r=>Bd n r.2) (Ki k m p) :=
 ku.bind (BO (h.perm (jo _ _ _)) _ _) fun _ _=>h.perm (jo _ _ _)
theorem tZ{n:Nat}{p:Array Nat}(h:Bd n p)(k m:Nat):ku n (fun r=>Bd n r.2) (wC k m p) :=
 ku.bind (t4 _ _ _ _ h) fun r hr=>by
  split
  ·exact DJ (hr.perm (jo _ _ _)) _ _
  ·exact DJ hr _ _
theorem JH{n:Nat}{p:Array Nat}(h:Bd n p)(m:Nat):ku n (fun r=>Bd n r.2) (kas_count m p) :=
 ku.bind (BO h _ _) fun k _=>by
  split
  ·exact h
  ·split
   ·refine⟨h.at _,h.at _,fun b=>?_⟩;show ku n _ (if b=true then uw (k,p) else wC k m (gu p 0 k));split
    ·exact h
    ·exact tZ (h.perm (jo _ _ _)) _ _
   ·exact tZ h _ _
theorem uZ{n:Nat}{p:Array Nat}(h:Bd n p)(k:Nat):∀ (f l r:Nat),ku n (fun _=>True) (jj p k f l r)
 | 0,l,r=>trivial
 | f+1,l,r=>by
  show ku n _ (if l>=r then uw l else .ask (p.getD k 0) (p.getD ((l+r) / 2) 0) fun c=>if c=true then jj p k f l ((l+r) / 2) else jj p k f ((l+r) / 2+1) r);split
  ·trivial
  ·refine⟨h.at _,h.at _,fun b=>?_⟩;show ku n _ (if b=true then jj p k f l ((l+r) / 2) else jj p k f ((l+r) / 2+1) r);split
   ·exact uZ h k f _ _
   ·exact uZ h k f _ _
theorem HU{n:Nat}:∀ (f:Nat) (p:Array Nat) (k:Nat),Bd n p->ku n (fun _=>True) (kas_bin f p k)
 | 0,p,k,h=>trivial
 | f+1,p,k,h=>ku.bind (uZ h k _ _ _) fun l _=>HU f _ _ (h.perm (bubble_perm _ _ _))
theorem DL{n:Nat}(h:0 < n):ku n (fun _=>True) (kas_sort n) :=
 ku.bind (JH ⟨h,fun x hx=>by simpa using hx⟩ n) fun r hr=>by
  split
  ·exact HU _ _ _ hr
  ·trivial
mutual
theorem pV{h h':Heap}(hk:∀ b o vs n,o.data=.seq vs n->h.get? b=some o->h'.get? b=some o):∀ (d:D) {v:Value} {as:List Addr},nr d=true->Reads h v (pd d) as->Reads h' v (pd d) as
 | .cy,_,_,_,r=>by cases r; exact .none
 | .bl b,_,_,_,r=>by cases r; exact .bool b
 | .int i,_,_,_,r=>by cases r; exact .int i _
 | .str x,_,_,_,r=>by cases r; exact .str x _
 | .tup ds,_,_,n,r=>by
  cases r with
  | tuple h1 h2 h3 h4=>exact .tuple (hk _ _ _ _ h3 h1) h2 h3 (lH hk ds n h4)
 | .eL ds,_,_,n,r=>by
  cases r with
  | list h1 h2 h3 h4=>exact .list (hk _ _ _ _ h3 h1) h2 h3 (lH hk ds n h4)
 | .sg _,_,_,n,_=>by cases n
 | .ref _,_,_,n,_=>by cases n
 | .exc _,_,_,n,_=>by cases n
theorem lH{h h':Heap}(hk:∀ b o vs n,o.data=.seq vs n->h.get? b=some o->h'.get? b=some o):∀ (ds:List D) {vs:List Value} {as:List Addr},oV ds=true->gB h vs (kO ds) as->gB h' vs (kO ds) as
 | [],_,_,_,r=>by cases r; exact .nil
 | d :: ds,_,_,n,r=>by
  have n:(nr d&&oV ds)=true:=n;rw [aG] at n;cases r with
  | cons r1 r2=>exact .cons (pV hk d n.1 r1) (lH hk ds n.2 r2)
end
mutual
theorem AK(G:Gp):∀ (sh:me) (d:D) (n:Nat),cD sh d=true->Pg sh<=n->Sn G n d d
 | .int,.int i,n,_,_=>.int i
 | .tup l,.tup ds,n,h,hn=>by
  have hn:MP l+1<=n:=hn;obtain⟨m,rfl⟩:∃ m,n=m+1:=⟨n - 1,by lia⟩;exact GN G l ds m h (by lia)
 | .lst s,.eL ds,n,h,hn=>by
  have hn:Pg s+1<=n:=hn;obtain⟨m,rfl⟩:∃ m,n=m+1:=⟨n - 1,by lia⟩;exact GP G s ds m h (by lia)
theorem GN(G:Gp):∀ (l:List me) (ds:List D) (m:Nat),e9 l ds=true->MP l<=m->Sn G (m+1) (.tup ds) (.tup ds)
 | [],[],m,_,_=>.Ck
 | s :: l,d :: ds,m,h,hm=>by
  have h:(cD s d&&e9 l ds)=true:=h;have hm:max (Pg s) (MP l)<=m:=hm;rw [aG] at h;exact .mT (AK G s d m h.1 (by lia)) (GN G l ds m h.2 (by lia))
theorem GP(G:Gp):∀ (s:me) (ds:List D) (m:Nat),gz s ds=true->Pg s<=m->Sn G (m+1) (.eL ds) (.eL ds)
 | s,[],m,_,_=>.II
 | s,d :: ds,m,h,hm=>by
  have h:(cD s d&&gz s ds)=true:=h;rw [aG] at h;exact .zh (AK G s d m h.1 hm) (GP G s ds m h.2 hm)
end
theorem getD_at{α:Type}(xs:List α)(d:α){i:Nat}(h:i < xs.length):xs.getD i d=xs[i]:=by
 rw [aH,ai h]; rfl
theorem p8{α:Type}(xs:List α)(d:α):(cF xs.length).map (fun i=>xs.getD i d)=xs:=by
 refine List.ext_getElem (by simp) fun i h1 h2=>?_;rw [eT,o6];exact getD_at _ _ h2
theorem va{h:Heap}{s1:me}{l:List me}:∀ (zs:List D) (vs:List Value),(∀ z∈zs,cD (.tup (s1 :: l)) z=true)->(∀ i,i < vs.length->∃ as,Reads h (vs.getD i .none) (pd (zs.getD i .cy)) as)->vs.length=zs.length ->
  ∃ fs,KatTups h vs fs/\fs.length=vs.length/\∀ f∈fs,∃ d as,cD s1 d=true/\Reads h f (pd d) as:=by
 intro zs;induction zs with
 | nil =>
  intro vs _ _ h;have:vs=[]:=List.length_eq_zero_iff.mp h;subst this;exact⟨[],trivial,rfl,fun _ h=>by cases h⟩
 | cons z zs ih =>
 intro vs hs hr hl;cases vs with
 | nil=>cases hl
 | cons v vs =>
  obtain⟨fs,h1,h2,h3⟩:=ih vs (fun z hz=>hs z (aN _ hz)) (fun i hi=>by
   obtain⟨as,r⟩:=hr (i+1) (by simpa using hi);exact⟨as,by simpa using r⟩) (by simpa using hl)
  obtain⟨as,r⟩:=hr 0 (by simp);have hz:=hs z (by simp);simp only [List.getD_cons_zero] at r;cases z <;> first | (cases hz; done) | skip
  rename_i ds;cases ds with
  | nil=>cases hz
  | cons d ds =>
   have hz:(cD s1 d&&e9 l ds)=true:=hz;rw [aG] at hz;cases r with
   | tuple k1 k2 k3 k4 =>
    rename_i p o ws c;have k5:gB h ws.toList (pd d :: kO ds) as:=k4;cases q:ws.toList with
    | nil=>rw [q] at k5; cases k5
    | cons f rest =>
     rw [q] at k5;cases k5 with
     | cons r1 r2 =>
      have hf:ws[0]?=some f:=by
       have:ws.toList[0]?=some f:=by rw [q]; rfl
       simpa using this
      refine⟨f :: fs,.cons k1 k2 k3 hf h1,by simp [h2],fun g hg=>?_⟩;rcases List.mem_cons.mp hg with rfl | hg
      ·exact⟨d,_,hz.1,r1⟩
      ·exact h3 g hg
noncomputable def Cj:me->Value
 | .int=>.type "int"
 | .tup _=>.type "tuple"
 | .lst _=>.type "list"
theorem qM{M:Model}{h:Heap}{sh:me}{d:D}{v:Value}{as:List Addr}(hs:cD sh d=true)(r:Reads h v (pd d) as):Looks M h (typeOf v) (Cj sh):=by
 cases sh with
 | int =>
  cases d <;> first | (cases hs; done) | skip
  cases r;exact .now
 | tup l =>
  cases d <;> first | (cases hs; done) | skip
  cases r with
  | tuple k1 k2 k3 k4 =>
   rename_i p o ws c;have:Looks M h (typeOf (.ref p)) o.cls:=(Looks.ld k1).andThen .now;rw [k2] at this; exact this
 | lst l =>
  cases d <;> first | (cases hs; done) | skip
  cases r with
  | list k1 k2 k3 k4 =>
   rename_i p o ws c as;have:Looks M h (typeOf (.ref p)) o.cls:=(Looks.ld k1).andThen .now;rw [k2] at this; exact this
theorem zt{prog:bo}{w:World}{A:cx}{s:ak}{E:Value->ak->Prop}{Q:Bool->ak->Prop}{n:Nat}{b:Bool}{l:List me}{a c:D}{u v:Value}{as bs:List Addr}(hn:(pd a).depth<=n+1)(h1:cD (.tup l) a=true)(h2:cD (.tup l) c=true)(n1:nr a=true)(n2:nr c=true)
  (r1:Reads s.heap u (pd a) as) (r2:Reads s.heap v (pd c) bs) (hu:A.units+n < cLine) (hq:Q (ma a c) s):wpAny (model prog w) A (keyLt' (tuples' b) u v) Q E s:=by
 first | obtain⟨_,rfl⟩:=dc h1 | obtain⟨_,rfl⟩:=c9 h1 | obtain⟨_,rfl⟩:=da h1
 first | obtain⟨_,rfl⟩:=dc h2 | obtain⟨_,rfl⟩:=c9 h2 | obtain⟨_,rfl⟩:=da h2
 rename_i xs ys;cases r1 with
 | tuple k1 k2 k3 k4 =>
  cases r2 with
  | tuple m1 m2 m3 m4 =>
   rename_i p o vs c p' o' ws c';have z1:=readsAll_len k4;have z2:=readsAll_len m4;have e1:vs.size=xs.length:=by simpa using z1
   have e2:ws.size=ys.length:=by simpa using z2
   have el:∀ (l:List me) (xs ys:List D),e9 l xs=true->e9 l ys=true->xs.length=ys.length:=by
    intro l;induction l with
    | nil =>
     intro xs ys h1 h2;cases xs with
     | nil=>cases ys with
      | nil=>rfl
      | cons _ _=>cases h2
     | cons _ _=>cases h1
    | cons s l ih =>
     intro xs ys h1 h2;cases xs with
     | nil=>cases h1
     | cons x xs =>
      cases ys with
      | nil=>cases h2
      | cons y ys =>
       have h1:(cD s x&&e9 l xs)=true:=h1;have h2:(cD s y&&e9 l ys)=true:=h2;rw [aG] at h1 h2;rw [ah,ah,ih xs ys h1.2 h2.2]
   have hd:(pd (.tup xs)).depth=bU (kO xs)+1:=rfl;refine kat_lt k1 k3 m1 m3 (Bh (n:=n) hu l xs ys _ _ _ _ 0 h1 h2 n1 n2 k4 m4 (by lia) (decide_eq_false (by rw [e1,e2,el l xs ys h1 h2]; lia)) hq)
section
variable {X:Cx}
theorem Jd{x:D}{G:Gp}{zs:List D}(ty:D6 x G)(hi:itemsOf x G=some zs):qc x G=some zs:=by
 cases x <;> first | exact ty.elim | exact hi
theorem BJ (hc:X.calm=true) (hu:X.A.units+64 < cLine):oR X (.builtin "sorted") wm:=by
 intro pins s σ H G xs ds us Q I ab rx rd q;unfold wm at q;split at q
 ·rename_i x;obtain⟨sh,zs,ty,hi,ql,ck,h64,q⟩:=q;obtain⟨w1,rfl,IF⟩:=rd.one;obtain⟨u,rfl,ru⟩:=rx.one;obtain⟨l,vs,a7,rfl,rv,rs,hl,_⟩:=lT I ab ru IF (Jd ty hi);have RB:=rv.length;have RA:=rs.length;have hsz:aT=16777216:=bN;have hz:∀ z∈zs,cD sh z=true:=fun z h=>List.all_eq_true.mp ql z h;by_cases rZ:a7.length < 2
  ·refine ET hl rZ ?_;obtain⟨e,he⟩:=sortedAll_at s.heap a7 a7.toArray;have hp:H (s.heap.objs.size+1)=none:=I.ck.fresh (jP _);have es:mj zs=zs:=kZ sh hz (.refl _) (by
    match zs,RA,rZ with
    | [],_,_=>exact .nil
    | [z],_,_=>exact JR _ _
    | _ :: _ :: _,h,f=>exact absurd f (by rw [<-RB,h]; simp))
   rw [es] at q;refine⟨.ref (s.heap.objs.size+1),upd H (s.heap.objs.size+1) (.lst vs),.ref _,_,I.laid (t':=s.toks) (fun b o e=>sortedAll_old e) (jP _) ?_,.Ba ab hp rs,rfl,.ref _,q _ (ab.free hp)⟩;exact⟨by lia,a7,e,rv,he⟩
  ·obtain⟨m,F0⟩:=I.fr;have nz:0 < zs.length:=by lia
   have nL:∀ b o vs n,o.data=.seq vs n->s.heap.get? b=some o->b≠X.env.locals:=fun b o vs n e1 e2 z=>by
    obtain⟨o',es,ep,Jp,C9,_⟩:=F0.ns;rw [z,Jp] at e2; cases e2; rw [C9] at e1; cases e1
   unfold Ly at ck;rw [aG] at ck;have XZ:Pg sh<=7:=of_decide_eq_true ck.1;have sn:∀ z∈zs,Sn G 7 z z:=fun z h=>AK G sh z 7 (hz z h) XZ;refine kat_sorted F0 xg hl (by lia) (by lia) fun Dd e1 h' F N pf=>?_;obtain⟨kk,ns⟩:=lz I F0 F fun p hp=>N p (aN _ hp);have yy:∀ i,i < a7.length->∃ as,Reads h' (a7.getD i .none) (pd (zs.getD i .cy)) as:=fun i hi=>by
    have i1:i < zs.length:=by lia
    have i2:i < vs.length:=by lia
    have g1:zs.getD i .cy=zs[i]:=getD_at _ _ i1;have g2:a7.getD i .none=a7[i]:=getD_at _ _ hi;obtain⟨v,hv,Oi⟩:=rs.get (ai i1);obtain⟨u,B3,QH⟩:=rv.get hv;rw [ai hi] at B3;cases B3;obtain⟨as,r⟩:=(gX I ab (sn _ (bB i1))).1 v _ Oi QH;rw [g1,g2];exact⟨as,pV (fun b o vs n e1 e2=>kk b o (nL b o vs n e1 e2) e2) _ (sn _ (bB i1)).nr r⟩
   have vb:∀ i,i < zs.length->cD sh (zs.getD i .cy)=true:=fun i hi=>by rw [getD_at _ _ hi]; exact hz _ (bB hi)
   have OP:∀ i,i < zs.length->nr (zs.getD i .cy)=true:=fun i hi=>by rw [getD_at _ _ hi]; exact(sn _ (bB hi)).nr
   have U1:∀ i,i < zs.length->(pd (zs.getD i .cy)).depth<=7:=fun i hi=>by rw [getD_at _ _ hi]; exact xQ (sn _ (bB hi))
   let zz:Nat->D:=fun i=>if i < zs.length then zs.getD i .cy else zs.getD 0 .cy
   have Ky:∀ i,cD sh (zz i)=true:=fun i=>by
    show cD sh (if i < zs.length then zs.getD i .cy else zs.getD 0 .cy)=true;split
    ·exact vb i (by assumption)
    ·exact vb 0 nz
   let lt:Nat->Nat->Bool:=fun i j=>ma (zz i) (zz j)
   have Wg:HV lt:=⟨fun i j h=>uK sh (Ky i) (Ky j) h,fun i j k h1 h2=>rW sh (Ky i) (Ky j) (Ky k) h1 h2⟩;have T5:∀ i j,i < zs.length->j < zs.length->lt i j=ma (zs.getD i .cy) (zs.getD j .cy):=fun i j hi hj=>by
    show ma (if i < zs.length then _ else _) (if j < zs.length then _ else _)=_;rw [if_pos hi,if_pos hj]
   obtain⟨p,ep,qh,Tt,Xl⟩:=Cw Wg (n:=a7.length) (by lia);have UM:X.A.in1.in1.units=X.A.units+2:=rfl;have ask:∀ κ:SortKind,(∀ i j,i < a7.length->j < a7.length->∀ C:Bool->ak->Prop,C (ma (zs.getD i .cy) (zs.getD j .cy)) { s with heap:=h' }->kas_ask X.prog X.w X.A.in1.in1 κ a7 i j C { s with heap:=h' }) ->
     (kas_sort a7.length).kasWp (kas_ask X.prog X.w X.A.in1.in1 κ a7) (fun p QF=>KasFin X.base X.env.locals m Dd e1 (p.toList.map fun i=>a7.getD i dn) (fun s3=>nF X pins σ H G Q (.ref Dd) s3) QF) { s with heap:=h' }:=by
    intro κ hk;refine xB (lt:=lt) (n:=a7.length) (fun i j i1 i2 C hC=>hk i j i1 i2 C (by rw [<-T5 i j (by lia) (by lia)]; exact hC)) _ (DL (by lia)) ?_;rw [ep];refine KasFin.intro (g:=fun o=>(Dd,o) :: oP X.base s.heap X.env.locals) F N (.head (fun q hq z=>absurd (pf q hq) (by rw [z]; exact eR _))) fun h2 c F2 N2=>?_;obtain⟨k2,WR⟩:=lz I F0 F2 fun p hp=>N2 p (aN _ hp);have hD:s.heap.get? Dd=none:=by
     have nD:=N _ bI;cases qd:s.heap.get? Dd with
     | none=>rfl
     | some o=>exact absurd (pf _ (mr nD.2.1 nD.2.2 qd)) (eR _)
    have hp:H Dd=none:=we I.ck hD;have Wo:Vals (p.toList.map fun i=>vs.getD i .cy) (p.toList.map fun i=>a7.getD i dn):=by
     have:∀ (ps:List Nat),(∀ i∈ps,i < a7.length)->Vals (ps.map fun i=>vs.getD i .cy) (ps.map fun i=>a7.getD i dn):=by
      intro ps;induction ps with
      | nil=>intro _; exact .nil
      | cons i ps ih =>
       intro hh;have hi:=hh i (by simp);refine .cons ?_ (ih fun j hj=>hh j (aN _ hj));have i2:i < vs.length:=by lia
       obtain⟨u,B3,QH⟩:=rv.get (ai i2);rw [ai hi] at B3;cases B3;show RelV (vs.getD i .cy) (a7.getD i .none);rw [getD_at _ _ i2,getD_at _ _ hi]; exact QH
     exact this _ fun i hi=>by simpa using qh.mem_iff.mp hi
    have Wq:aR X.K H (p.toList.map fun i=>vs.getD i .cy) (p.toList.map fun i=>zs.getD i .cy):=by
     have:∀ (ps:List Nat),(∀ i∈ps,i < a7.length)->aR X.K H (ps.map fun i=>vs.getD i .cy) (ps.map fun i=>zs.getD i .cy):=by
      intro ps;induction ps with
      | nil=>intro _; exact .nil
      | cons i ps ih =>
       intro hh;have hi:=hh i (by simp);refine .cons ?_ (ih fun j hj=>hh j (aN _ hj));have i2:i < vs.length:=by lia
       have i1:i < zs.length:=by lia
       obtain⟨v,hv,r⟩:=rs.get (ai i1);rw [ai i2] at hv;cases hv;show cb X.K H (vs.getD i .cy) (zs.getD i .cy);rw [getD_at _ _ i2,getD_at _ _ i1]; exact r
     exact this _ fun i hi=>by simpa using qh.mem_iff.mp hi
    have es:mj zs=p.toList.map fun i=>zs.getD i .cy:=by
     refine kZ sh hz ?_ ?_
     ·have h1:(p.toList.map fun i=>zs.getD i .cy).Perm ((cF zs.length).map fun i=>zs.getD i .cy):=by
       have:a7.length=zs.length:=by lia
       rw [<-this];exact qh.map _
      rw [p8] at h1;exact h1
     ·rw [lj,pA];intro i j hi hj Hy;have g1:gA p i=p.toList[i]:=by
       have:i < p.size:=by simpa using hi
       simp [gA,pP,this]
      have g2:gA p j=p.toList[j]:=by
       have:j < p.size:=by simpa using hj
       simp [gA,pP,this]
      have bi:p.toList[i] < a7.length:=by simpa using qh.mem_iff.mp (bB hi)
      have bj:p.toList[j] < a7.length:=by simpa using qh.mem_iff.mp (bB hj)
      have:=Xl i j (by lia) (by have:j < p.toList.length:=hj; rw [bG,Tt] at this; exact this);rw [g1,g2,T5 _ _ (by lia) (by lia)] at this;exact this
    rw [es] at q;have ln:(p.toList.map fun i=>vs.getD i .cy).length<=aT:=by rw [aj,bG,Tt]; lia
    refine⟨.ref Dd,upd H Dd (.lst (p.toList.map fun i=>vs.getD i .cy)),.ref _,_,Inv.Hn (t':=s.toks) I k2 WR hD ?_,.Ba ab hp Wq,rfl,.ref _,q _ (ab.free hp)⟩;exact⟨ln,_,c,Wo,(N2 _ bI).1⟩
   have gen:∀ i j,i < a7.length->j < a7.length->∀ C:Bool->ak->Prop,C (ma (zs.getD i .cy) (zs.getD j .cy)) { s with heap:=h' }->wpAny (model X.prog X.w) X.A.in1.in1 (keyLt' JP (a7.getD i dn) (a7.getD j dn)) C (fun _ _=>False) { s with heap:=h' }:=by
    intro i j hi hj C hC;obtain⟨as,r1⟩:=yy i hi;obtain⟨bs,r2⟩:=yy j hj;rw [keyLt'_oneType];exact p7 (s:={ s with heap:=h' }) (n:=7) (U1 i (by lia)) (vb i (by lia)) (vb j (by lia)) (OP i (by lia)) (OP j (by lia)) r1 r2 (by rw [UM]; lia) X.prog X.w _ C hC
   have lk:∀ v∈a7,Looks (model X.prog X.w) h' (typeOf v) (Cj sh):=fun v hv=>by
    obtain⟨i,hi,rfl⟩:=eB hv;obtain⟨as,r⟩:=yy i hi;rw [getD_at _ _ hi] at r;exact qM (vb i (by lia)) r
   cases sh with
   | int=>exact kas_kind (s:={ s with heap:=h' }) (T:=.type "int") (by lia) lk rfl rfl (ask JP gen)
   | lst ss=>exact kas_kind (s:={ s with heap:=h' }) (T:=.type "list") (by lia) lk rfl rfl (ask JP gen)
   | tup ss =>
    cases ss with
    | nil=>exact absurd ck.2 (by simp)
    | cons s1 ss =>
     obtain⟨fs,t1,t2,t3⟩:=va (h:=h') zs a7 hz yy (by lia);refine kat_kind (s:={ s with heap:=h' }) (T:=Cj s1) t1 (by lia) (fun f hf=>?_) (by cases s1 <;> rfl) (ask _ fun i j hi hj C hC=>?_)
     ·obtain⟨d,as,h1,h2⟩:=t3 f hf;exact qM h1 h2
     ·obtain⟨as,r1⟩:=yy i hi;obtain⟨bs,r2⟩:=yy j hj;exact zt (s:={ s with heap:=h' }) (n:=7) (by have:=U1 i (by lia); lia) (vb i (by lia)) (vb j (by lia)) (OP i (by lia)) (OP j (by lia)) r1 r2 (by rw [UM]; lia) hC
 ·exact q.elim
end
end K2
end
section
namespace L2
open PySem PySem.Spec PyProof.Rows
section
variable {prog:bo} {w:World} {A:cx} {E:Value->ak->Prop} {s:ak}
theorem Ft{d:Addr}{od:Obj}{es:Array lE}{c:Nat}{Q:Value->ak->Prop}(ns:(d == fL)=false)(Mf:s.heap.get? d=some od)(ex:od.ExactDict)(dd:od.data=.dict es c)
  (hQ:Q (.ref s.heap.objs.size) { s with heap:=s.heap.push { cls:=.type "dict_keyiterator",data:=.fields #[.ref d,.int 0 0,.int es.size 0,.int c 0] } }):wpAny (model prog w) A (yT (.ref d)) Q E s:=by
 have ty:s.TypeIs (.ref d) "dict":=⟨od,Mf,ex.1⟩;refine si ty F.slot_dict_iter (eG F.slot_dict_iter ty F.entry_dict_iter ?_ (F.args_dict_iter_1 _));unfold Builtin.«dict.__iter__» Builtin.Dict.dictSlotNone;refine ae (ae (wpAny_notOrdered_dict ty (show wpAny _ _ (pure (dI d)) _ _ s from aq ?_)));show wpAny _ _ (B2 d >>= _) _ _ s;unfold B2;rw [if_neg (fun z=>by rw [ns] at z; cases z)];refine ae (aq (ae (so Mf dd (ae (Kf Mf dd ?_)))));refine ae (di (aq ⟨_,rfl,"dict_keyiterator",_,⟨_,bh _ rfl,rfl⟩,F.slot_dict_keyiterator_next.lookup,?_⟩));simpa [u7] using hQ
theorem Jj{it d:Addr}{od:Obj}{es:Array lE}{i c:Nat}{Q:Option Value->ak->Prop}(ki:s.heap.IsKeyIter it d i es.size c)(Mf:s.heap.get? d=some od)(dd:od.data=.dict es c)(hi:i < es.size)
  (hQ:∀ h',h'.IsKeyIter it d (i+1) es.size c->lV it s.heap h'->Q (some es[i].key) { s with heap:=h' }):wpAny (model prog w) A (rm (.ref it)) Q E s:=by
 obtain⟨o,ho,hc,hf⟩:=id ki;unfold rm;refine ae (lC (gc (name:=cJ "__next__") ki.typeIs iV (eG iV ki.typeIs Ez ?_ (D4 _))));refine ae (aq (ae (ae ?_)))
 first | refine ae (iO ki.typeIs (aq ?_)) | refine ae (kL ki.typeIs (aq ?_))
 refine ae (yS ho hf ?_);have QT:rL "dict_keyiterator" = false:=by decide
 rw [QT];show wpAny _ _ (if (dI d == dn)=true then _ else _) _ _ s;rw [if_neg (fun z=>by cases z)];refine ae (aq (ae (so Mf dd ?_)));rw [if_neg (by simp)];refine ae (aq (ae (Kf Mf dd ?_)));rw [if_neg (by simp)];refine aq ?_;dsimp only;rw [if_neg (show ¬ ((i:Int) < 0) from Int.not_lt.mpr (pC i)),eI,bC hi];dsimp only;refine ae ?_
 first | refine ae (iO ki.typeIs (aq ?_)) | refine ae (kL ki.typeIs (aq ?_))
 refine ae (wpAny_isOneOf_keyiter ki.typeIs ?_);show wpAny _ _ (Cb (.ref it) 1 (u7 ((i:Int)+1)) >>= _) _ _ s;refine ae (rF ho hf (by simp) ?_);have Y4:(s.heap.update it (rH (·.setIfInBounds 1 (u7 ((i:Int)+1))))).IsKeyIter it d (i+1) es.size c :=
  ⟨_,dE _ ho (ur (fB hf _)),(z0 ..).trans hc,by rw [fB hf]; simp [u7]⟩
 refine ae (cE (ae (wpAny_isOneOf_keyiter (s:={ s with heap:=s.heap.update it (rH (·.setIfInBounds 1 (u7 ((i:Int)+1)))) }) Y4.typeIs ?_)));show wpAny _ _ (pure es[i].key) _ _ _;exact aq (aq ⟨_,rfl,aq (hQ _ Y4 (fD ..))⟩)
theorem LO{it d:Addr}{od:Obj}{es:Array lE}{i c:Nat}{Q:Option Value->ak->Prop}(calm:A.handled=none)(ki:s.heap.IsKeyIter it d i es.size c)(Mf:s.heap.get? d=some od)(dd:od.data=.dict es c)(hi:es.size<=i)
  (hQ:∀ h',Heap.ExtBut it s.heap h'->Q none { s with heap:=h' }):wpAny (model prog w) A (rm (.ref it)) Q E s:=by
 obtain⟨o,ho,hc,hf⟩:=id ki;unfold rm;refine ae (lC (gc (name:=cJ "__next__") ki.typeIs iV (eG iV ki.typeIs Ez ?_ (D4 _))));refine ae (aq (ae (ae ?_)))
 first | refine ae (iO ki.typeIs (aq ?_)) | refine ae (kL ki.typeIs (aq ?_))
 refine ae (yS ho hf ?_);have QT:rL "dict_keyiterator" = false:=by decide
 rw [QT];show wpAny _ _ (if (dI d == dn)=true then _ else _) _ _ s;rw [if_neg (fun z=>by cases z)];refine ae (aq (ae (so Mf dd ?_)));rw [if_neg (by simp)];refine ae (aq (ae (Kf Mf dd ?_)));rw [if_neg (by simp)];refine aq ?_;dsimp only;rw [if_neg (show ¬ ((i:Int) < 0) from Int.not_lt.mpr (pC i)),eI,fZ hi];dsimp only;refine ae ?_
 first | refine ae (iO ki.typeIs (aq ?_)) | refine ae (kL ki.typeIs (aq ?_))
 show wpAny _ _ (Cb (.ref it) 0 .none >>= _) _ _ s;refine ae (rF ho hf (by simp) ?_);show wpAny _ _ (newExc (.type "StopIteration") [] >>= _) _ _ _;refine ae ?_;simp only [newExc,newTuple];refine ae (di (ae (m:=yU _ _) (Ke (a:=dn) (by first | rfl | (simp only [yU]; rfl)) (di ?_ (by size_fits)))) (by size_fits));simp only [raiseNew];refine ae (wpAny_handled ?_);rw [show A.in1.handled=none from calm];refine ae (aq (wpAny_throw ?_));refine ae (H0 (T:="StopIteration") (b:=true) ⟨_,bh _ rfl,rfl⟩ isSubtype_stop (?_));exact aq (hQ _ (((fD ..).extBut.push _).push _))
end
noncomputable def Itk(a:Addr)(o:Obj)(es:Array lE)(ks:List V):It :=
 ⟨fun i H=>(∃ u,H a=some (.hZ o u))/\i < es.size,fun i H v H'=>H'=H/\ks[i]?=some v,fun i H=>(∃ u,H a=some (.hZ o u))/\es.size<=i⟩
theorem Iu{P:bo}{w:World}{K:ag}{tg:Expr}(a it:Addr)(o:Obj)(es:Array lE)(c:Nat)(ks:List V)(dd:o.data=.dict es c)(hk:∀ i (h:i < es.size),∃ v,ks[i]?=some v/\RelV v es[i].key) :
  Turn P w K tg (Itk a o es ks) [it] it (fun i h=>h.IsKeyIter it a i es.size c) where
 mem:=by simp
 obj:=fun i h st b hb=>by
  have e:b=it:=by simpa using hb
  subst e;obtain⟨o',q,_,d⟩:=st;exact⟨o',q,fun v z=>by rw [d] at z; cases z⟩
 keep:=(by rintro i h h' ⟨o',q,r⟩ k; exact⟨o',k it (by simp) o' q,r⟩)
 item:=by
  intro X hP hw hK hc i pins s σ H E I hf st hg;subst hP hw hK;obtain⟨⟨u,hu⟩,hi⟩:=hg;obtain⟨f0,f1,f2,f3,f4,f5⟩:=hf it (by simp);obtain⟨v,hv,rv⟩:=hk i hi;refine Jj st (I.ck a _ hu).1 dd hi fun h' yu sb=>?_;have I1:Inv X pins σ H { s with heap:=h' }:=I.turned (t':=s.toks) (fun b o hb e=>(sb.2 b hb).trans e) f0 f1 f3 f4 f5;obtain⟨o',e,cl,d'⟩:=id yu;exact⟨_,rfl,Hz (s:={ s with heap:=h' }) e cl d' (by decide) ⟨v,H,I1,rv,⟨rfl,hv⟩,yu,fun b hb=>(hf b hb).1⟩⟩
 done:=by
  intro X hP hw hK hc i pins s σ H E I hf st hg;subst hP hw hK;obtain⟨⟨u,hu⟩,hi⟩:=hg;obtain⟨f0,f1,f2,f3,f4,f5⟩:=hf it (by simp);exact LO (I.ok.hd hc) st (I.ck a _ hu).1 dd hi fun h' eb=>⟨rfl,I.turned (t':=s.toks) (fun b o hb e=>eb b o hb e) f0 f1 f3 f4 f5⟩
 self:=fun A i s Q E st h=>by
  refine si st.typeIs GB (eG GB st.typeIs F.entry_dict_keyiterator_iter ?_ (F.args_dict_keyiterator_iter_1 _));show wpAny _ _ (ret (.ref it)) _ _ s;exact aq ⟨_,rfl,"dict_keyiterator",_,st.typeIs,F.slot_dict_keyiterator_next.lookup,h⟩
end L2
namespace K2
open PySem PySem.Spec PyProof.Rows L2
section
variable {X:Cx} {tg a:Expr} {ta:fx} {pos p:Pos}
theorem IV{α β:Type}{F:α->β->Prop}:∀ {l:List α} {m:List β},Paired F l m->∀ i (h1:i < l.length) (h2:i < m.length),F l[i] m[i]:=by
 intro l m h;induction h with
 | nil=>intro i h1; exact absurd h1 (cC i)
 | cons h t ih =>
  intro i h1 h2;cases i with
  | zero=>exact h
  | succ i=>exact ih i (sy h1) (sy h2)
theorem LU{P:bo}{w:World}{k:Key}{u:Value}(h:(fK P w).is k u=true):RelV (kV k) u:=by
 rcases ft h with ⟨i,t,rfl,rfl⟩ | ⟨x,t,rfl,rfl⟩
 ·exact⟨t,rfl⟩
 ·exact⟨t,rfl⟩
theorem nJ.keys{K:ag}{H:Hp}:∀ {kv:List (Key×V)} {aS:List (D×D)},nJ K H kv aS->aS.map (·.1)=kv.map fun p=>eK p.1:=fun h =>
 nJ.ind (motive:=fun kv aS _=>aS.map (·.1)=kv.map fun p=>eK p.1) rfl (fun _ _ ih=>congrArg (_ :: ·) ih) h
theorem oQ.keys{K:ag}{H:Hp}:∀ {kv:List (List Key×V)} {aS:List (D×D)},oQ K H kv aS->aS.map (·.1)=kv.map fun p=>D.tup (p.1.map eK):=fun h =>
 oQ.ind (motive:=fun kv aS _=>aS.map (·.1)=kv.map fun p=>D.tup (p.1.map eK)) rfl (fun _ _ ih=>congrArg (_ :: ·) ih) h
theorem CB{K:ag}{H:Hp}(k:Key):cb K H (kV k) (eK k):=by
 cases k with
 | inl i=>exact .int i
 | inr x=>exact .str x
theorem zf{K:ag}{H:Hp}:∀ (ks:List Key),aR K H (ks.map kV) (ks.map eK)
 | []=>.nil
 | k :: ks=>.cons (CB k) (zf ks)
theorem Ln(ha:gm X a ta):Px X tg a (Ma ta):=by
 intro E pins s σ H τ G R hE I h;refine jn ha hE I h fun x H1 d G1 v s1 I1 m1 r1 jR q1=>?_;unfold Bk at q1;have go:∀ (l:Addr) (o:Obj) (u:HO) (aS:List (D×D)) (es:Array lE) (c:Nat) (ks:List V),(l == fL)=false->H1 l=some (.hZ o u)->o.ExactDict->o.data=.dict es c->(∀ i (h:i < es.size),∃ v,ks[i]?=some v/\RelV v es[i].key)->ks.length=es.size ->
   aR X.K H1 ks (aS.map (·.1))->R (aS.map (·.1)) (fun _=>True) G1->wpAny (model X.prog X.w) X.A (yT (.ref l)) (Gq X pins σ tg H G R) X.xe s1:=by
  intro l o u aS es c ks ns hl ex dd hk hlen rs q;refine Ft ns (I1.inv.ck l _ hl).1 ex dd ?_;refine⟨s1.heap.objs.size,[s1.heap.objs.size],_,_,H1,G1,aS.map (·.1),_,rfl,I1.inv.kept (t':=s1.toks) fun b o e=>ax _ e,m1,Iu l _ o es c ks dd hk,⟨_,bh _ rfl,rfl,rfl⟩,fun b hb=>?_,fun i H2 G2 k ab _=>?_,q⟩
  ·have e:b=s1.heap.objs.size:=by simpa using hb
   subst e;exact I1.inv.Jw (aC _) (I1.inv.ck.fresh (aC _))
  ·have RA:=k.hZ _ _ _ hl;have Og:=rs.mono k;refine⟨fun d hd=>?_,fun hle=>⟨⟨u,RA⟩,by rw [<-hlen,rs.length]; exact hle⟩⟩;obtain⟨v,hv,r⟩:=Og.get hd;have hi:i < es.size:=by rw [<-hlen]; exact(List.getElem?_eq_some_iff.mp hv).1
   refine⟨⟨⟨u,RA⟩,hi⟩,?_⟩;rintro x H3 ⟨e,y⟩;subst e;rw [hv] at y;cases y;exact⟨r,.refl ab⟩
 cases jR with
 | qY hq rs =>
  rename_i l o kv aS;cases r1;obtain⟨z,ns,vs,rel,ob,es,ep,ho,ex,dd,Zm,hp,nd⟩:=(I1.inv.ck l _ hq).2;have eo:ob=o:=by have:=(I1.inv.ck l _ hq).1; rw [ho] at this; exact bp this
  subst eo;have l1:es.size=vs.length:=by simpa using hp.length
  have l2:kv.length=vs.length:=jY rel;refine go l ob _ aS es ep (kv.map fun p=>kV p.1) ns hq ex dd (fun i hi=>?_) (by rw [aj]; lia) ?_ q1
  ·have i2:i < vs.length:=by lia
   have i3:i < kv.length:=by lia
   have g1:=(hp.get? (e:=es[i]) (k:=vs[i].1) (v:=vs[i].2) (by rw [ai (by simpa using hi)]; simp) (by rw [ai i2])).1;refine⟨kV kv[i].1,by simp [i3],?_⟩;have ek:kv[i].1=vs[i].1:=(IV rel i i3 i2).1;rw [ek];exact LU g1
  ·rw [rs.keys];have:∀ (l:List (Key×V)),aR X.K H1 (l.map fun p=>kV p.1) (l.map fun p=>eK p.1):=by
    intro l;induction l with
    | nil=>exact .nil
    | cons p l ih=>exact .cons (CB p.1) ih
   exact this kv
 | qX hq rs =>
  rename_i l o kv aS;cases r1;obtain⟨z,ns,xs,rel,ob,es,ep,ho,ex,dd,hl,nd⟩:=(I1.inv.ck l _ hq).2;have eo:ob=o:=by have:=(I1.inv.ck l _ hq).1; rw [ho] at this; exact bp this
  subst eo;have l1:=congrArg gE hl;rw [aj,bG] at l1;refine go l ob _ aS es ep (xs.map fun q=>V.ref q.2.1) ns hq ex dd (fun i hi=>?_) (by rw [aj]; lia) ?_ q1
  ·have i2:i < xs.length:=by lia
   refine⟨.ref xs[i].2.1,by simp [i2],?_⟩;have:es[i]=entryOfKey (Ca (fK X.prog X.w)) xs[i]:=by
    have:=congrArg (fun l=>l[i]?) hl;simp only [bO,ai i2] at this;simpa [hi] using this
   rw [this];rfl
  ·rw [rs.keys];have:∀ (kv:List (List Key×V)) (xs:List (List Key×Addr×Value)),Paired (fun (p:List Key×V) (q:List Key×Addr×Value)=>p.1=q.1/\H1 q.2.1=some (.tup (p.1.map kV))/\RelV p.2 q.2.2) kv xs->aR X.K H1 (xs.map fun q=>V.ref q.2.1) (kv.map fun p=>D.tup (p.1.map eK)):=by
    intro kv xs r;induction r with
    | nil=>exact .nil
    | cons h _ ih=>exact .cons (.tup h.2.1 (zf _)) ih
   exact this kv xs rel
 | _=>exact q1.elim
end
end K2
end
section
namespace K2
open PySem PySem.Spec PyProof.Rows L2 PySem.W
section
variable {X:Cx}
theorem GD:∀ (ks:List V) (us:List Value),ks.length=us.length->(∀ i (h1:i < ks.length) (h2:i < us.length),RelV ks[i] us[i])->Vals ks us
 | [],[],_,_=>.nil
 | [],_ :: _,h,_=>by cases h
 | _ :: _,[],h,_=>by cases h
 | k :: ks,u :: us,h,hr=>.cons (hr 0 (by simp) (by simp)) (GD ks us (by simpa using h) fun i h1 h2=>hr (i+1) (by simpa using h1) (by simpa using h2))
end
end K2
end
section
namespace L2
open PySem PySem.Spec PyProof.Rows
section
variable {X:Cx}
noncomputable def Nm(i j:Int):Prop:=i.natAbs < 2 ^ 4000/\j.natAbs < 2 ^ 4000
theorem Nm.ok{i j:Int}(h:Nm i j):IntMulOk i j:=by
 have h1:=intBits_le h.1;have h2:=intBits_le h.2;unfold IntMulOk;intro z;rw [aG] at z;have z2:((EB i+EB j:Nat):Int) > (bitsLine:Int):=of_decide_eq_true z.2;have hb:8000<=bitsLine:=by decide
 lia
theorem OJ:Ed X (gO .Mult) (rI Nm fun i j=>.int (i * j)):=TH fun _ _ _ _ _ _ _ hc q=>mul_int q hc.ok
end
end L2
namespace K2
open PySem PySem.Spec PyProof.Rows L2
section
variable {X:Cx}
theorem A4:mf X (gO .Pow) Le:=by
 intro pins s σ H G x y dx dy v u Q I ab rx ry dX dY q;cases dX with
 | int i =>
  cases dY with
  | int j=>exact fy (QW pins s σ H _ _ v u (x6 X.K H G Q) I rx ry ⟨i,j,rfl,rfl,q.1,_,_,.refl ab,.int _,q.2⟩) fun _ _ z=>.of z
  | _=>exact bf q
 | _=>exact bf q
theorem w8:mf X (gO .Mult) CD:=by
 intro pins s σ H G x y dx dy v u Q I ab rx ry dX dY q;cases dX with
 | int i =>
  cases dY with
  | int j=>exact fy (OJ pins s σ H _ _ v u (x6 X.K H G Q) I rx ry ⟨i,j,rfl,rfl,q.1,_,_,.refl ab,.int _,q.2⟩) fun _ _ z=>.of z
  | _=>exact bf q
 | _=>exact bf q
end
end K2
end
section
namespace K2
open PySem PySem.Spec PyProof.Rows L2 PySem.W
section
variable {X:Cx}
theorem IB{i:Int}(h:i.natAbs < 10 ^ 100):i.natAbs.log2 < 1920:=by
 by_cases z:i.natAbs=0
 ·rw [z]; decide
 ·rw [Nat.log2_lt z];exact bw h (by decide)
noncomputable def SM(X:Cx)(es:List Expr)(t:Qk):Prop :=
 ∀ (E:kC) (pins:List (Addr×Obj)) (s:ak) (σ:L2.St) (H:Hp) (τ:hV) (G:Gp) (Q:DK) (acc:Str),Lk X E->I2 X pins σ H τ G s->acc.length+1000 * es.length<=100000->t E τ G (fun ys G1=>Q (.str (ys.foldl (·++·) acc)) G1) ->
  wpAny (model X.prog X.w) X.A (joinParts acc (evalEach es X.env)) (nF X pins σ H G Q) X.xe s
theorem OB:SM X [] RR:=by
 intro E pins s σ H τ G Q acc hE I hz h;have sz:aT=16777216:=bN;exact wpAny_mkStr ⟨.str _,H,.str _,G,I.inv.tok _,.refl I.ab,⟨_,rfl⟩,.str _,h⟩ (by simp only [ar] at hz; lia)
variable {es:List Expr} {t:Qk} {e v1 v2:Expr} {te:fx} {pos:Pos} {c:Str} {k:Nat}
theorem GH{x:Str}{acc:Str}{n:Nat}(hz:acc.length+1000 * (n+1)<=100000)(hx:x.length<=1000):(acc++x).length<=aT/\(acc++x).length+1000 * n<=100000:=by
 have sz:aT=16777216:=bN;rw [LJ]; lia
theorem zj(yD:c.length<=1000)(hr:SM X es t):SM X (.Constant (.str c) k pos :: es) (Bz c t):=by
 intro E pins s σ H τ G Q acc hE I hz h;rw [ah] at hz;obtain⟨_,h⟩:=h;obtain⟨z1,z2⟩:=GH hz yD;refine joinParts_cons (jn (R:=fun x G1=>x=.str c/\t E τ G1 fun ys G1=>Q (.str ((c :: ys).foldl (·++·) acc)) G1) (fh (y:=c) (j:=k) (pos:=pos)) hE I ⟨rfl,h⟩ fun v H1 d G1 u s1 I1 m r rd q=>?_);obtain⟨rfl,q⟩:=q;cases rd;obtain⟨t',rfl⟩:=r;exact⟨z1,fy (hr E pins s1 σ H1 τ G1 Q (acc++c) hE I1 z2 q) fun _ _ z=>nF.trans m z⟩
theorem GZ(he:gm X e te)(hr:SM X es t):SM X (.FormattedValue e (-1) none pos :: es) (Pd te t):=by
 intro E pins s σ H τ G Q acc hE I hz h;rw [ah] at hz;refine joinParts_cons (FormattedValue_plain (jn he hE I h fun v H1 d G1 u s1 I1 m r rd q=>?_));obtain⟨y,hy,q⟩:=q;obtain⟨z1,z2⟩:=GH hz (MD hy);cases rd with
 | int i =>
  unfold ME at hy;dsimp only at hy;split at hy
  ·rename_i hb;cases hy;obtain⟨t',rfl⟩:=r;refine wpAny_formatField_int (IB hb) ?_;have iN:I2 X pins σ H1 τ G1 { s1 with toks:=s1.toks+1+1 }:=⟨I1.inv.tok _,I1.st,I1.ab⟩;exact⟨z1,fy (hr E pins _ σ H1 τ G1 Q (acc++Sr i) hE iN z2 q) fun _ _ z=>nF.trans m z⟩
  ·cases hy
 | str x =>
  unfold ME at hy;dsimp only at hy;split at hy
  ·rename_i hb;cases hy;obtain⟨t',rfl⟩:=r;have sz:aT=16777216:=bN;refine formatField_str (fun t2 tk=>?_) (by lia);have iN:I2 X pins σ H1 τ G1 { s1 with toks:=tk }:=⟨I1.inv.tok _,I1.st,I1.ab⟩;exact⟨z1,fy (hr E pins _ σ H1 τ G1 Q (acc++_) hE iN z2 q) fun _ _ z=>nF.trans m z⟩
  ·cases hy
 | _=>cases hy
theorem Lu(h:SM X (v1 :: v2 :: es) t)(hn:autoParam (1000 * (v1 :: v2 :: es).length<=100000) Ad._auto_1):gm X (.JoinedStr (v1 :: v2 :: es) pos) (MZ t):=by
 intro E pins s σ H τ G Q hE I q;refine JoinedStr_many ?_;exact h E pins s σ H τ G Q Ep hE I (by show (Ep).length+_<=_; have:(Ep).length=0:=rfl; lia) q
variable {a:Expr} {ta:fx} {p p2 AX:Pos}
theorem ES{pins:List (Addr×Obj)}{σ:L2.St}{H:Hp}{G:Gp}{s:ak}{Q:DK}{T:String}{r d:Addr}{n:Nat}{P:Nat->Value->Prop}{OK:Heap->Prop}(hc:X.calm=true)(hu:X.A.units+64 < cLine)(I:Inv X pins σ H s)(ab:jK X.K H G)
  (K:PySem.W.KdlSrc X.prog X.w T r d n P OK) (Xv:OK s.heap) {vs:List V} {zs:List D} (hlen:vs.length=n) (hP:∀ i u (h:i < vs.length),P i u->RelV vs[i] u) (rs:aR X.K H vs zs) (sh:me) (hz:∀ z∈zs,cD sh z=true) (ck:Ly sh=true) (h64:zs.length < 64)
  (q:kJ G (.lst (mj zs)) Q):wpAny (model X.prog X.w) X.A (call (.builtin "sorted") [.ref r]) (nF X pins σ H G Q) X.xe s:=by
 have RA:=rs.length;have hsz:aT=16777216:=bN;obtain⟨m,F0⟩:=I.fr;have nL:∀ b o vs n,o.data=.seq vs n->s.heap.get? b=some o->b≠X.env.locals:=fun b o vs n e1 e2 z=>by
  obtain⟨o',es,ep,Jp,C9,_⟩:=F0.ns;rw [z,Jp] at e2; cases e2; rw [C9] at e1; cases e1
 unfold Ly at ck;rw [aG] at ck;have XZ:Pg sh<=7:=of_decide_eq_true ck.1;have sn:∀ z∈zs,Sn G 7 z z:=fun z h=>AK G sh z 7 (hz z h) XZ;refine kdu_sorted K (I.ok.hd hc) F0 xg Xv (by lia) fun Dd h0 tk a7 F1 N1 pf Zl hP'=>?_;have RB:vs.length=a7.length:=by lia
 have rv:Vals vs a7:=GD vs a7 RB fun i h1 h2=>hP i a7[i] h1 (hP' i a7[i] (ai h2));by_cases rZ:a7.length < 2
 ·have e2:h0.get? Dd=some (u6 "list" a7.toArray 0):=(N1 _ bI).1;refine eG slot_list_sort ⟨_,e2,rfl⟩ entry_list_sort (Co (s:={ s with heap:=h0,toks:=tk }) e2 rZ ⟨_,rfl,?_⟩) (args_list_sort _);obtain⟨kk,ns⟩:=lz I F0 F1 fun p hp=>N1 p (aN _ hp);have hD:s.heap.get? Dd=none:=by
   have nD:=N1 _ bI;cases qd:s.heap.get? Dd with
   | none=>rfl
   | some o=>exact absurd (pf _ (mr nD.2.1 nD.2.2 qd)) (eR _)
  have hp:H Dd=none:=we I.ck hD;have hDL:Dd≠X.env.locals:=(N1 _ bI).2.1;obtain⟨e3,h3⟩:=sortedHeap_at (out:=a7.toArray) e2;have es:mj zs=zs:=kZ sh hz (.refl _) (by
   match zs,RA,rZ with
   | [],_,_=>exact .nil
   | [z],_,_=>exact JR _ _
   | _ :: _ :: _,h,f=>exact absurd f (by rw [<-RB,h]; simp))
  rw [es] at q;refine⟨.ref Dd,upd H Dd (.lst vs),.ref _,_,Inv.Hn (t':=tk) I (fun b o hb e=>?_) (fun m' hm=>?_) hD ⟨by lia,a7,e3,rv,h3⟩,.Ba ab hp rs,rfl,.ref _,q _ (ab.free hp)⟩
  ·have VP:b≠Dd:=fun z=>by rw [z,hD] at e; cases e
   have e4:=kk b o hb e;rw [sortedHeap_old VP (aK e4)]; exact e4
  ·obtain⟨o,es,ep,ho,r⟩:=ns m' hm;exact⟨o,es,ep,by rw [sortedHeap_old (jZ hDL) (aK ho)]; exact ho,r⟩
 have nz:0 < zs.length:=by lia
 refine kat_lsort (vs:=a7) F1 N1 (.head fun q hq z=>absurd (pf q hq) (by rw [z]; exact eR _)) (by simp) (by lia) (by lia) fun e1 h' F N=>?_;obtain⟨kk,ns⟩:=lz I F0 F fun p hp=>N p (aN _ hp);have yy:∀ i,i < a7.length->∃ as,Reads h' (a7.getD i .none) (pd (zs.getD i .cy)) as:=fun i hi=>by
  have i1:i < zs.length:=by lia
  have i2:i < vs.length:=by lia
  have g1:zs.getD i .cy=zs[i]:=getD_at _ _ i1;have g2:a7.getD i .none=a7[i]:=getD_at _ _ hi;obtain⟨v,hv,Oi⟩:=rs.get (ai i1);obtain⟨u,B3,QH⟩:=rv.get hv;rw [ai hi] at B3;cases B3;obtain⟨as,r⟩:=(gX I ab (sn _ (bB i1))).1 v _ Oi QH;rw [g1,g2];exact⟨as,pV (fun b o vs n e1 e2=>kk b o (nL b o vs n e1 e2) e2) _ (sn _ (bB i1)).nr r⟩
 have vb:∀ i,i < zs.length->cD sh (zs.getD i .cy)=true:=fun i hi=>by rw [getD_at _ _ hi]; exact hz _ (bB hi)
 have OP:∀ i,i < zs.length->nr (zs.getD i .cy)=true:=fun i hi=>by rw [getD_at _ _ hi]; exact(sn _ (bB hi)).nr
 have U1:∀ i,i < zs.length->(pd (zs.getD i .cy)).depth<=7:=fun i hi=>by rw [getD_at _ _ hi]; exact xQ (sn _ (bB hi))
 let zz:Nat->D:=fun i=>if i < zs.length then zs.getD i .cy else zs.getD 0 .cy
 have Ky:∀ i,cD sh (zz i)=true:=fun i=>by
  show cD sh (if i < zs.length then zs.getD i .cy else zs.getD 0 .cy)=true;split
  ·exact vb i (by assumption)
  ·exact vb 0 nz
 let lt:Nat->Nat->Bool:=fun i j=>ma (zz i) (zz j)
 have Wg:HV lt:=⟨fun i j h=>uK sh (Ky i) (Ky j) h,fun i j k h1 h2=>rW sh (Ky i) (Ky j) (Ky k) h1 h2⟩;have T5:∀ i j,i < zs.length->j < zs.length->lt i j=ma (zs.getD i .cy) (zs.getD j .cy):=fun i j hi hj=>by
  show ma (if i < zs.length then _ else _) (if j < zs.length then _ else _)=_;rw [if_pos hi,if_pos hj]
 obtain⟨p,ep,qh,Tt,Xl⟩:=Cw Wg (n:=a7.length) (by lia);have UM:X.A.in1.in1.units=X.A.units+2:=rfl;have ask:∀ κ:SortKind,(∀ i j,i < a7.length->j < a7.length->∀ C:Bool->ak->Prop,C (ma (zs.getD i .cy) (zs.getD j .cy)) { s with heap:=h',toks:=tk }->kas_ask X.prog X.w X.A.in1.in1 κ a7 i j C { s with heap:=h',toks:=tk }) ->
   (kas_sort a7.length).kasWp (kas_ask X.prog X.w X.A.in1.in1 κ a7) (fun p QF=>KasFin X.base X.env.locals m Dd e1 (p.toList.map fun i=>a7.getD i dn) (fun s3=>nF X pins σ H G Q (.ref Dd) s3) QF) { s with heap:=h',toks:=tk }:=by
  intro κ hk;refine xB (lt:=lt) (n:=a7.length) (fun i j i1 i2 C hC=>hk i j i1 i2 C (by rw [<-T5 i j (by lia) (by lia)]; exact hC)) _ (DL (by lia)) ?_;rw [ep];refine KasFin.intro (g:=fun o=>(Dd,o) :: oP X.base s.heap X.env.locals) F N (.head (fun q hq z=>absurd (pf q hq) (by rw [z]; exact eR _))) fun h2 c F2 N2=>?_;obtain⟨k2,WR⟩:=lz I F0 F2 fun p hp=>N2 p (aN _ hp);have hD:s.heap.get? Dd=none:=by
   have nD:=N _ bI;cases qd:s.heap.get? Dd with
   | none=>rfl
   | some o=>exact absurd (pf _ (mr nD.2.1 nD.2.2 qd)) (eR _)
  have hp:H Dd=none:=we I.ck hD;have Wo:Vals (p.toList.map fun i=>vs.getD i .cy) (p.toList.map fun i=>a7.getD i dn):=by
   have:∀ (ps:List Nat),(∀ i∈ps,i < a7.length)->Vals (ps.map fun i=>vs.getD i .cy) (ps.map fun i=>a7.getD i dn):=by
    intro ps;induction ps with
    | nil=>intro _; exact .nil
    | cons i ps ih =>
     intro hh;have hi:=hh i (by simp);refine .cons ?_ (ih fun j hj=>hh j (aN _ hj));have i2:i < vs.length:=by lia
     obtain⟨u,B3,QH⟩:=rv.get (ai i2);rw [ai hi] at B3;cases B3;show RelV (vs.getD i .cy) (a7.getD i .none);rw [getD_at _ _ i2,getD_at _ _ hi]; exact QH
   exact this _ fun i hi=>by simpa using qh.mem_iff.mp hi
  have Wq:aR X.K H (p.toList.map fun i=>vs.getD i .cy) (p.toList.map fun i=>zs.getD i .cy):=by
   have:∀ (ps:List Nat),(∀ i∈ps,i < a7.length)->aR X.K H (ps.map fun i=>vs.getD i .cy) (ps.map fun i=>zs.getD i .cy):=by
    intro ps;induction ps with
    | nil=>intro _; exact .nil
    | cons i ps ih =>
     intro hh;have hi:=hh i (by simp);refine .cons ?_ (ih fun j hj=>hh j (aN _ hj));have i2:i < vs.length:=by lia
     have i1:i < zs.length:=by lia
     obtain⟨v,hv,r⟩:=rs.get (ai i1);rw [ai i2] at hv;cases hv;show cb X.K H (vs.getD i .cy) (zs.getD i .cy);rw [getD_at _ _ i2,getD_at _ _ i1]; exact r
   exact this _ fun i hi=>by simpa using qh.mem_iff.mp hi
  have es:mj zs=p.toList.map fun i=>zs.getD i .cy:=by
   refine kZ sh hz ?_ ?_
   ·have h1:(p.toList.map fun i=>zs.getD i .cy).Perm ((cF zs.length).map fun i=>zs.getD i .cy):=by
     have:a7.length=zs.length:=by lia
     rw [<-this];exact qh.map _
    rw [p8] at h1;exact h1
   ·rw [lj,pA];intro i j hi hj Hy;have g1:gA p i=p.toList[i]:=by
     have:i < p.size:=by simpa using hi
     simp [gA,pP,this]
    have g2:gA p j=p.toList[j]:=by
     have:j < p.size:=by simpa using hj
     simp [gA,pP,this]
    have bi:p.toList[i] < a7.length:=by simpa using qh.mem_iff.mp (bB hi)
    have bj:p.toList[j] < a7.length:=by simpa using qh.mem_iff.mp (bB hj)
    have:=Xl i j (by lia) (by have:j < p.toList.length:=hj; rw [bG,Tt] at this; exact this);rw [g1,g2,T5 _ _ (by lia) (by lia)] at this;exact this
  rw [es] at q;have ln:(p.toList.map fun i=>vs.getD i .cy).length<=aT:=by rw [aj,bG,Tt]; lia
  refine⟨.ref Dd,upd H Dd (.lst (p.toList.map fun i=>vs.getD i .cy)),.ref _,_,Inv.Hn (t':=tk) I k2 WR hD ?_,.Ba ab hp Wq,rfl,.ref _,q _ (ab.free hp)⟩;exact⟨ln,_,c,Wo,(N2 _ bI).1⟩
 have gen:∀ i j,i < a7.length->j < a7.length->∀ C:Bool->ak->Prop,C (ma (zs.getD i .cy) (zs.getD j .cy)) { s with heap:=h',toks:=tk }->wpAny (model X.prog X.w) X.A.in1.in1 (keyLt' JP (a7.getD i dn) (a7.getD j dn)) C (fun _ _=>False) { s with heap:=h',toks:=tk }:=by
  intro i j hi hj C hC;obtain⟨as,r1⟩:=yy i hi;obtain⟨bs,r2⟩:=yy j hj;rw [keyLt'_oneType];exact p7 (s:={ s with heap:=h',toks:=tk }) (n:=7) (U1 i (by lia)) (vb i (by lia)) (vb j (by lia)) (OP i (by lia)) (OP j (by lia)) r1 r2 (by rw [UM]; lia) X.prog X.w _ C hC
 have lk:∀ v∈a7,Looks (model X.prog X.w) h' (typeOf v) (Cj sh):=fun v hv=>by
  obtain⟨i,hi,rfl⟩:=eB hv;obtain⟨as,r⟩:=yy i hi;rw [getD_at _ _ hi] at r;exact qM (vb i (by lia)) r
 cases sh with
 | int=>exact kas_kind (s:={ s with heap:=h',toks:=tk }) (T:=.type "int") (by lia) lk rfl rfl (ask JP gen)
 | lst ss=>exact kas_kind (s:={ s with heap:=h',toks:=tk }) (T:=.type "list") (by lia) lk rfl rfl (ask JP gen)
 | tup ss =>
  cases ss with
  | nil=>exact absurd ck.2 (by simp)
  | cons s1 ss =>
   obtain⟨fs,t1,t2,t3⟩:=va (h:=h') zs a7 hz yy (by lia);refine kat_kind (s:={ s with heap:=h',toks:=tk }) (T:=Cj s1) t1 (by lia) (fun f hf=>?_) (by cases s1 <;> rfl) (ask _ fun i j hi hj C hC=>?_)
   ·obtain⟨d,as,h1,h2⟩:=t3 f hf;exact qM h1 h2
   ·obtain⟨as,r1⟩:=yy i hi;obtain⟨bs,r2⟩:=yy j hj;exact zt (s:={ s with heap:=h',toks:=tk }) (n:=7) (by have:=U1 i (by lia); lia) (vb i (by lia)) (vb j (by lia)) (OP i (by lia)) (OP j (by lia)) r1 r2 (by rw [UM]; lia) hC
end
end K2
end
section
namespace L2
open PySem PySem.Spec PyProof.Rows PySem.W
section
variable {prog:bo} {w:World} {A:cx} {E:Value->ak->Prop} {s:ak}
theorem Ff(d:Addr)(hd:(d == fL)=false):MeetsIn prog w (Builtin.«dict.__len__» ⟨[.ref d],[]⟩) (fun _ R s=>∃ o es ep,(s.heap.get? d=some o/\o.data=.dict es ep)/\R (.ok (.ret (.int es.size s.toks))) { s with toks:=s.toks+1 }) :=
 .of_wp fun A R s B4=>by
  obtain⟨o,es,ep,⟨ho,dd⟩,h⟩:=B4;show wpAny _ _ (dictSize d >>= _) _ _ s;unfold dictSize;refine ae (ae (so ho dd (aq (show wpAny _ _ (Builtin.Dict.pendingCount d >>= _) _ _ s from ?_))));refine ae (wpAny_pendingCount_other hd (wpAny_ret_mkInt ?_));rw [Nat.add_zero]; exact h
theorem zN{d:Addr}{o:Obj}{es:Array lE}{ep:Nat}{Q:Value->ak->Prop}(hd:(d == fL)=false)(ho:s.heap.get? d=some o)(ex:o.ExactDict)(dd:o.data=.dict es ep)(hz:es.size<=1000)
  (h:∀ t tk,Q (.int es.size t) { s with toks:=tk }):wpAny (model prog w) A (call (.builtin "len") [.ref d]) Q E s:=by
 have ty:s.TypeIs (.ref d) "dict":=⟨o,ho,ex.1⟩;refine EA kind_len plain_len entry_len (args_len1 _) ?_;unfold Builtin.«len»;refine ae (m:=oneArg "len" _) (aq (ae (m:=callSpecial? (.ref d) (cJ "__len__")) ?_));refine gc (name:=cJ "__len__") ty F.slot_dict_len (call_meetsIn F.slot_dict_len ty F.entry_dict_len (F.args_dict_len_1 _) (Ff d hd) ⟨o,es,ep,⟨ho,dd⟩,?_⟩);show wpAny _ _ _ _ _ { s with toks:=s.toks+1 };refine ae (cE (aq (ae (zX ?_))));have n1:¬ ((es.size:Nat):Int) < 0:=by lia
 have n2:¬ ((es.size:Nat):Int)>=2 ^ 63:=by lia
 show wpAny _ _ (if ((es.size:Nat):Int) < 0 then _ else _) _ _ _;rw [if_neg n1];show wpAny _ _ (if ((es.size:Nat):Int)>=2 ^ 63 then _ else _) _ _ _;rw [if_neg n2];exact ae (wpAny_mkInt (aq ⟨_,rfl,h _ _⟩))
end
end L2
namespace K2
open PySem PySem.Spec PyProof.Rows L2 PySem.W
section
variable {X:Cx}
theorem zO:oR X (.type "int") cInt:=by
 intro pins s σ H G xs ds us Q I ab rx rd q;unfold cInt at q;split at q
 ·rename_i b;obtain⟨w1,rfl,IF⟩:=rd.one;obtain⟨u,rfl,ru⟩:=rx.one;cases IF;cases ru;refine call_int_bool ?_;exact⟨.int _,H,.int _,G,I.tok _,.refl ab,⟨_,rfl⟩,.int _,q⟩
 ·exact q.elim
theorem Gg:oR X (.builtin "len") DH:=by
 intro pins s σ H G xs ds us Q I ab rx rd q;unfold DH at q;split at q
 ·rename_i a;split at q
  ·rename_i aS hg;obtain⟨hz,q⟩:=q;obtain⟨w1,rfl,IF⟩:=rd.one;obtain⟨u,rfl,ru⟩:=rx.one;cases IF;cases ru;rcases ab a _ hg with ⟨kv,hq,rs⟩ | ⟨kv,hq,rs⟩
   ·obtain⟨z,hm,vs,rel,ob,es,ep,ho,ex,dd,Zm,hp,nd⟩:=I.ck a _ hq;have l1:es.size=vs.length:=by simpa using hp.length
    have l2:kv.length=vs.length:=jY rel;have l3:=rs.length;have e:es.size=aS.length:=by lia
    refine zN hm ho ex dd (by lia) fun t tk=>?_;rw [e];exact⟨.int _,H,.int _,G,I.tok _,.refl ab,⟨_,rfl⟩,.int _,q⟩
   ·obtain⟨z,hm,ys,rel,ob,es,ep,ho,ex,dd,hl,nd⟩:=I.ck a _ hq;have l1:=congrArg gE hl;rw [aj,bG] at l1;have l2:=jY rel;have l3:=rs.length;have e:es.size=aS.length:=by lia
    refine zN hm ho ex dd (by lia) fun t tk=>?_;rw [e];exact⟨.int _,H,.int _,G,I.tok _,.refl ab,⟨_,rfl⟩,.int _,q⟩
  ·exact q.elim
 ·exact q.elim
variable {a:Expr} {ta:fx} {pos p AX p2:Pos}
end
end K2
end
section
namespace K2
open PySem PySem.Spec PyProof.Rows L2
section
variable {X:Cx}
noncomputable def IP(neg:Bool):yn:=fun x y G Q=>match y with
 | .cy=>vM neg x G Q
 | _=>False
theorem PW{H:Hp}{x:V}{dx:D}{v:Value}(r:RelV x v)(rd:cb X.K H x dx)(h:dx≠.cy):v≠.none:=by
 intro z;subst z;cases rd with
 | cy=>exact h rfl
 | bl b=>cases r
 | int i=>obtain⟨t,e⟩:=r; cases e
 | str x=>obtain⟨t,e⟩:=r; cases e
 | _=>cases r
theorem GV{neg:Bool}{x:D}{G:Gp}{Q:DK}(h:x≠.cy)(q:vM neg x G Q):Q (.bl neg) G:=by
 cases x with
 | cy=>exact absurd rfl h
 | _=>exact q
theorem ON:mf X (dA .Is) (IP false):=by
 intro pins s σ H G x y dx dy v u Q I ab rx ry dX dY q;unfold IP at q;split at q
 ·cases dY;cases ry;by_cases h:dx=.cy
  ·subst h;cases dX;cases rx;exact is_none_none ⟨.bl true,H,.bl true,G,I,.refl ab,rfl,.bl _,q⟩
  ·exact is_none_ne (PW rx dX h) ⟨.bl false,H,.bl false,G,I,.refl ab,rfl,.bl _,GV h q⟩
 ·exact q.elim
theorem IW:mf X (dA .IsNot) (IP true):=by
 intro pins s σ H G x y dx dy v u Q I ab rx ry dX dY q;unfold IP at q;split at q
 ·cases dY;cases ry;by_cases h:dx=.cy
  ·subst h;cases dX;cases rx;exact isnot_none_none ⟨.bl false,H,.bl false,G,I,.refl ab,rfl,.bl _,q⟩
  ·exact isnot_none_ne (PW rx dX h) ⟨.bl true,H,.bl true,G,I,.refl ab,rfl,.bl _,GV h q⟩
 ·exact q.elim
variable {a:Expr} {ta:fx} {pos p:Pos}
end
section
variable {K:ag} {h:Heap} {C:Addr} {kK:List Value} {newId:String}
theorem RS{P:Prop}{m:List Value}{sl:List (Option Value)}{f:Addr->List Value->Option Value->Option Value->Option Value->Option Value->String->Option Value->Bool}
  (q:PySem.W.excIn.match_1 (fun _ _=>Bool) m sl f (fun _ _=>false)=true)
  (k:∀ C' bm k0 k1 k2 k3 n k5,m=.ref C' :: bm->sl=[k0,k1,k2,k3,some (.builtin n),k5]->f C' bm k0 k1 k2 k3 n k5=true->P):P:=by
 have no:false=true->P:=fun z=>aY z;cases m with
 | nil=>exact no q
 | cons v bm =>
  cases v with
  | ref C' =>
   obtain _ | ⟨k0,_ | ⟨k1,_ | ⟨k2,_ | ⟨k3,_ | ⟨_ | w,sl⟩⟩⟩⟩⟩:=sl
   iterate 6 exact no q
   cases w with
   | builtin n =>
    obtain _ | ⟨k5,_ | _⟩:=sl
    ·exact no q
    ·exact k C' bm k0 k1 k2 k3 n k5 rfl rfl q
    ·exact no q
   | _=>exact no q
  | _=>exact no q
inductive Nj (h:Heap) (C:Addr) (kK:List Value) (newId:String):Prop
 | mk (bm N nm qn bs md sn sub ab col dd k0 k1 k2 k3 k5 mN) (o:h.get? C=some (jk nm qn C N bs bm md sn sub ab col dd k0 k1 k2 k3 k5 newId)) (n:h.Ns N mN) (i:mN "__init__" = none) (t:OwnTail h kK bm):Nj h C kK newId
theorem Pe(Y:K.In h)(q:pM K C kK newId=true):Nj h C kK newId:=by
 unfold pM at q;split at q
 rotate_left
 ·cases q
 rename_i dd cd sl ho;refine RS q fun C' bm k0 k1 k2 k3 n k5 hm hs q=>?_;obtain⟨nm,bs,mro,ns,qn,hd,sn,sub,ab,col,del⟩:=cd;obtain⟨sl⟩:=sl;subst hm hs;have q:(C' == C&&n == newId&&!del&&Cc K kK bm&&PySem.W.nsOkIn K ns&&bc K ns "__init__" == some none)=true:=q;simp only [aG,beq_iff_eq,lr] at q;obtain⟨⟨⟨⟨⟨e1,e2⟩,e3⟩,e4⟩,e5⟩,e6⟩:=q;subst e1 e2 e3;exact⟨bm,_,_,_,_,_,_,_,_,_,dd,k0,k1,k2,k3,k5,_,Y _ _ ho,.of_isNs (vF Y e5),PySem.W.nsMap_none_of_in Y e5 e6,vD Y e4⟩
noncomputable def zG(K:ag)(C:Addr)(kK:List Value)(newId:String):Bool:=match K.lookup C with
 | some ⟨.type "type",_,.cls cd,sl⟩=>(match cd.mro,sl.toList with
  | .ref C' :: bm,[_,_,_,_,some (.builtin n),_]=>C' == C&&n == newId&&!cd.hasDel&&Cc K kK bm
  | _,_=>false)
 | _=>false
inductive Nh (h:Heap) (C:Addr) (kK:List Value) (newId:String):Prop
 | mk (bm N nm qn bs md sn sub ab col dd k0 k1 k2 k3 k5) (o:h.get? C=some (jk nm qn C N bs bm md sn sub ab col dd k0 k1 k2 k3 k5 newId)) (t:OwnTail h kK bm):Nh h C kK newId
theorem HA(Y:K.In h)(q:pM K C kK newId=true\/zG K C kK newId=true):Nh h C kK newId:=by
 rcases q with q | q
 ·obtain⟨_,_,_,_,_,_,_,_,_,_,_,_,_,_,_,_,_,o,_,_,t⟩:=Pe Y q;exact⟨_,_,_,_,_,_,_,_,_,_,_,_,_,_,_,_,o,t⟩
 unfold zG at q;split at q
 rotate_left
 ·cases q
 rename_i dd cd sl ho;split at q
 rotate_left
 ·cases q
 rename_i C' bm k0 k1 k2 k3 n k5 hm hs;obtain⟨nm,bs,mro,ns,qn,hd,sn,sub,ab,col,del⟩:=cd;obtain⟨sl⟩:=sl;have hm:mro=_:=hm;have hs:sl=_:=hs;subst hm hs;simp only [aG,beq_iff_eq,lr] at q;obtain⟨⟨⟨e1,e2⟩,e3⟩,e4⟩:=q;subst e1 e2;have e3:del=false:=e3;subst e3;exact⟨bm,_,_,_,_,_,_,_,_,_,dd,k0,k1,k2,k3,k5,Y _ _ ho,vD Y e4⟩
end
noncomputable def Kd{α:Type}:Sem α->Prop
 | .pure _=>True
 | .raise _=>True
 | .unsupported _=>True
 | .finish _=>True
 | .rule _ k=>Kd (k ())
 | .at _ k=>Kd (k ())
 | .load _ _ k=>∀ o,Kd (k o)
 | .update _ _ f k=>(∀ o,(f o).dict=o.dict)/\Kd (k ())
 | .alloc _ k=>∀ a,Kd (k a)
 | .stack k=>∀ l,Kd (k l)
 | _=>False
noncomputable def Vm(h h':Heap):Prop:=∀ (b:Nat) (d:Option Addr),(h.objs[b]?).map Obj.dict=some d->(h'.objs[b]?).map Obj.dict=some d
section
variable {α β:Type} {M:Model} {Γ:PySem.Ctx} {p:Pos} {s:ak}
theorem S3{Q:α->Pos->ak->Prop}{E:Value->Pos->ak->Prop}(h0:Heap):∀ (t:Sem α) (p:Pos) (s:ak),Vm h0 s.heap->Kd t->Sem.wp M Γ t Q E p s->Sem.wp M Γ t (fun a p' s'=>Q a p' s'/\Vm h0 s'.heap) E p s:=by
 intro t;induction t with
 | pure a=>intro p s k _ h; exact⟨h,k⟩
 | raise e=>intro p s k _ h; exact h
 | unsupported e=>intro p s k _ h; exact h
 | finish e=>intro p s k _ h; exact h
 | rule _ k ih=>intro p s d q h; exact ih _ _ _ d q h
 | «at» _ k ih=>intro p s d q h; exact ih _ _ _ d q h
 | load a _ k ih=>intro p s d q h; obtain⟨o,e,h⟩:=h; exact⟨o,e,ih _ _ _ d (q o) h⟩
 | update a _ f k ih =>
  intro p s d q h;refine⟨h.1,ih _ _ _ (fun b x e=>?_) q.2 h.2⟩;have e1:=d b x e;show ((s.heap.objs.modify a f)[b]?).map Obj.dict=some x;rw [Array.getElem?_modify];by_cases z:a=b
  ·rw [if_pos z];cases w:s.heap.objs[b]? with
   | none=>rw [w] at e1; exact e1
   | some o=>rw [w] at e1; exact(congrArg some (q.1 o)).trans e1
  ·rw [if_neg z]; exact e1
 | alloc o k ih =>
  intro p s d q h;refine ih _ _ _ (fun b x e=>?_) (q _) h;have e1:=d b x e;show ((s.heap.objs.push o)[b]?).map Obj.dict=some x;rw [Array.getElem?_push];by_cases z:b=s.heap.objs.size
  ·rw [z,fZ (aC _)] at e1; cases e1
  ·rw [if_neg z]; exact e1
 | stack k ih=>intro p s d q h; exact ih _ _ _ d (q _) h
 | _=>intro p s _ q _; exact q.elim
theorem fk{m:Sem α}{f:α->Sem β}(h:Kd m)(k:∀ a,Kd (f a)):Kd (m >>= f):=by
 show Kd (Sem.bind m f);induction m with
 | pure a=>exact k a
 | raise e=>exact a8
 | unsupported w=>exact a8
 | finish e=>exact a8
 | rule _ g ih=>exact ih _ h
 | «at» _ g ih=>exact ih _ h
 | load a _ g ih=>exact fun o=>ih _ (h o)
 | update a _ f g ih=>exact⟨h.1,ih _ h.2⟩
 | alloc o g ih=>exact fun o=>ih _ (h o)
 | stack g ih=>exact fun o=>ih _ (h o)
 | _=>exact h.elim
theorem x3{A:cx}{t:Sem α}{Q:α->ak->Prop}{E:Value->ak->Prop}(h:wpAny M A t Q E s)(k:Kd t):wpAny M A t (fun a s'=>Q a s'/\Vm s.heap s'.heap) E s :=
 fun Γ p hΓ=>S3 s.heap t p s (fun _ _ e=>e) k (h Γ p hΓ)
theorem Vm.at{h h':Heap}{a:Addr}{o o':Obj}(d:Vm h h')(e:h.get? a=some o)(e':h'.get? a=some o'):o'.dict=o.dict:=by
 have raw:∀ {h:Heap} {o:Obj},h.get? a=some o->h.objs[a]?=some o:=fun {h o} e=>by
  unfold Heap.get? at e;split at e
  ·cases e
  ·exact e
 have:=d a o.dict (by rw [raw e]; rfl);rw [raw e'] at this;exact bp this
theorem OR(f:Array Value->Array Value)(o:Obj):(o.mapFields f).dict=o.dict:=by
 unfold rH; split <;> rfl
theorem tH(v:Value)(i:Nat):Kd (field v i):=by
 unfold field fieldsOf;refine fk ?_ fun a=>?_
 ·cases v with
  | ref a =>
   refine fk (fun o=>a8) fun o=>?_;split <;> exact a8
  | _=>exact a8
 ·split <;> exact a8
theorem qf(v:Value)(i:Nat)(x:Value):Kd (Cb v i x):=by
 unfold Cb updateField;cases v with
 | ref a =>
  refine fk (fun o=>a8) fun o=>?_;split
  ·split
   ·exact⟨OR _,a8⟩
   ·exact a8
  ·exact a8
 | _=>exact a8
theorem om(e:Value)(f:Option Addr):Kd (setFlight e f):=by
 unfold setFlight;refine fk (tH _ _) fun tb=>?_;split
 ·exact qf _ _ _
 ·exact a8
theorem LR{f:List (Code×Pos)->Sem α}(k:∀ l,Kd (f l)):Kd (stack >>= f):=fun l=>k l
theorem LS:∀ l:List Env,Kd (readyFrames l):=by
 intro l;induction l with
 | nil=>exact a8
 | cons env outer ih =>
  unfold readyFrames;split
  rotate_left
  ·exact a8
  refine fk (fun o=>a8) fun o=>?_;split
  ·exact a8
  refine fk ?_ fun im=>fk ?_ fun bk=>⟨fun o=>rfl,ih⟩
  ·unfold behindIsImport;split
   ·exact a8
   show Kd (if _ then _ else _);split
   ·exact a8
   exact fk (tH _ _) fun _=>a8
  ·unfold keptBack;split
   ·split
    ·exact a8
    ·unfold underTheClaimsCaller;exact fk (fun l=>a8) fun _=>a8
   ·exact a8
theorem Hr(e:Value)(env:Env):Kd (Kh e env):=by
 unfold Kh;split
 rotate_left
 ·exact a8
 have go:∀ (head:Value) (f:Addr),Kd (do Cb e 1 (← GC head (← PySem.frameOf env) .none (u7 f) .none (← entryPlaceOf f (head != .none)))):=fun head f=>by
  refine fk ?_ fun fr=>fk ?_ fun pl=>fk ?_ fun b=>qf _ _ _
  ·unfold PySem.frameOf frameEnvs;refine fk (fun l=>a8) fun l=>fk ?_ fun r=>?_
   ·cases hl:List.dropWhile (fun x=>x.frame != env.frame) l with
    | nil=>exact a8
    | cons env outer=>exact fk (LS _) fun _=>a8
   ·split <;> exact a8
  ·unfold entryPlaceOf;refine LR fun l=>?_;split <;> exact a8
  ·unfold GC newFields newObj;generalize ([head,fr,dn,u7 f,dn]++_:List Value).toArray=xs;dsimp only;split
   ·exact a8
   ·exact fun a=>a8
 refine fk (tH _ _) fun head=>?_;split
 ·refine fk (tH _ _) fun x=>?_;split
  ·exact a8
  ·exact fk (qf _ _ _) fun _=>go _ _
 ·exact go _ _
theorem xA(env:Env)(e:Value):Kd (leaving env e):=fk (Hr _ _) fun _=>om _ _
end
theorem _root_.Internal.L2.eZ.there{P:bo}{w:World}{H:Hp}{h:Heap}{a:Addr}{o:HO}(x:eZ P w H h a o):∃ ob,h.get? a=some ob:=by
 cases o with
 | lst xs=>obtain⟨_,_,_,_,e⟩:=x; exact⟨_,e⟩
 | tup xs=>obtain⟨_,_,_,ob,e,_⟩:=x; exact⟨_,e⟩
 | dK aS=>obtain⟨_,_,_,_,o,_,_,e,_⟩:=x; exact⟨_,e⟩
 | dT aS=>obtain⟨_,_,_,_,o,_,_,e,_⟩:=x; exact⟨_,e⟩
 | set S n=>obtain⟨o,_,_,_,e,_⟩:=x; exact⟨_,e⟩
 | ins C dx fs=>obtain⟨_,_,_,e,_⟩:=x; exact⟨_,e⟩
 | own y=>exact x
 | xd fs=>obtain⟨_,⟨_,_,_,e,_⟩,_⟩:=x; exact⟨_,e⟩
 | Tn lo hi=>obtain⟨_,_,_,e⟩:=x; exact⟨_,e⟩
 | hZ ob u=>obtain⟨e,_⟩:=x; exact⟨_,e⟩
 | N5 ps=>obtain⟨_,e,_⟩:=x; exact⟨_,e⟩
 | met f y=>exact⟨_,x⟩
 | ext φ=>obtain⟨_,e,_⟩:=x; exact e
theorem A2{X:Cx}{pins:List (Addr×Obj)}{σ:L2.St}{H1:Hp}{s1:ak}{h1 h' B:Heap}(I:Inv X pins σ H1 s1)(vO:X.stack=X.env :: X.outer)(Ny:X.env.frame=some X.env.locals)(hex:X.ex=[])
  (T8:∀ b o,s1.heap.get? b=some o->h1.get? b=some o) (hB:∀ b o,s1.heap.get? b=some o->b∉oA X.stack->(X.gS.heap.get? b≠none\/H1 b≠none)->B.get? b=some o) (iK:B.StaysIn h') (up:h1.UpToSlots h') :
  Un (oA X.outer) [] X.JL H1 X.gS.heap h'/\pq X.prog X.w H1 h'/\∀ b o,h'.get? b=some o->b∉oA X.outer->(X.gS.heap.get? b≠none\/H1 b≠none)->B.get? b=some o:=by
 have ZN:oA X.stack=X.env.locals :: oA X.outer:=by rw [vO]; unfold oA; rw [qA Ny]
 have LA:∀ b,b∉oA X.outer->b≠X.env.locals->b∉oA X.stack:=fun b h1 h2 h3=>by
  rw [ZN] at h3;rcases List.mem_cons.mp h3 with e | e
  ·exact h2 e
  ·exact h1 e
 have old:∀ b o,X.gS.heap.get? b=some o->b≠X.env.locals:=fun b o q=>bA (bw (aK q) I.ok.above);have tr:∀ b u,H1 b=some u->b∉oA X.stack:=fun b u q hb=>by rw [I.AJ b hb] at q; cases q
 have nx:∀ b:Addr,b∉X.ex:=fun b=>by rw [hex]; exact ef
 have frame:∀ b o,b∈oA X.outer->s1.heap.get? b=some o->∃ sl,h'.get? b=some { o with slots:=sl }:=fun b o hb e=>by
  obtain⟨_,o2,e2,nf⟩:=I.stack.mem (show b∈oA X.stack by rw [ZN]; exact .tail _ hb);rw [e] at e2; cases e2;exact up b o (T8 b o e) nf
 have go:∀ b o,s1.heap.get? b=some o->b∉oA X.stack->(X.gS.heap.get? b≠none\/H1 b≠none)->h'.get? b=some o:=fun b o e n c=>iK b o (hB b o e n c);refine⟨⟨fun b o q n hb _=>?_,fun b o q n hb _=>?_,fun b o q n _=>I.base.free b o q n (nx b),fun b o q _=>?_,I.base.o8,I.base.oz,I.base.rN,I.base.rQ⟩,fun a o q=>?_,fun b o e hb hc=>?_⟩
 ·exact go b o (I.base.keep b o q n hb (nx b)) (LA b hb (old b o q)) (.inl (by rw [q]; simp))
 ·obtain⟨sl,e⟩:=I.base.slot b o q n hb (nx b);obtain⟨Cp,e2⟩:=frame b _ hb e;exact⟨Cp,e2⟩
 ·obtain⟨o',e⟩:=I.base.there b o q (nx b);by_cases hb:b∈oA X.outer
  ·obtain⟨Cp,e2⟩:=frame b _ hb e; exact⟨_,e2⟩
  ·exact⟨o',go b o' e (LA b hb (old b o q)) (.inl (by rw [q]; simp))⟩
 ·refine(I.ck a o q).iK (fun b u hb e=>?_) (fun b r=>r) (fun b xs r=>r);rcases hb with rfl | hb
  ·exact go b u e (tr b _ q) (.inr (by rw [q]; simp))
  ·exact go b u e (tr b _ hb) (.inr (by rw [hb]; simp))
 ·have n:b∉oA X.stack:=by
   rcases hc with hc | hc
   ·cases q:X.gS.heap.get? b with
    | none=>exact absurd q hc
    | some o0=>exact LA b hb (old b o0 q)
   ·cases q:H1 b with
    | none=>exact absurd q hc
    | some u=>exact tr b u q
  have:∃ o1,s1.heap.get? b=some o1:=by
   rcases hc with hc | hc
   ·cases q:X.gS.heap.get? b with
    | none=>exact absurd q hc
    | some o0=>exact I.base.there b o0 q (nx b)
   ·cases q:H1 b with
    | none=>exact absurd q hc
    | some u=>exact(I.ck b u q).there
  obtain⟨o1,e1⟩:=this;have e2:=go b o1 e1 n hc;rw [e] at e2; cases e2;exact hB b o e1 n hc
section
variable {P:bo} {w:World} {K:ag} {mg:Str->Option Value} {base:Heap} {N:List Str} {qual:Str} {scope:Scope} {f:Addr} {cd:Value} {A:cx} {outer:List Env} {s:ak} {H:Hp} {Ek:XK} {E2:kC}
theorem T6(ke:∀ ex C H' G' o,E2 ex G'->jK K H' G'->mg ex.cls=some (.ref C)->PB K H' ex.rh o->Ek (.ref C) o H'):Lk (nB (yb P w) P w K mg base N qual scope f cd A outer s H Ek) E2 where
 made:=fun pins σ H1 s1 h1 a C args ex G1 I Jt hx hm hE hf=>by
  show wpAny (model P w) _ (leaving _ (.ref a)) _ _ _;refine wpAny_leaves_madeW (h:=s1.heap) (base:=jO s1.heap (oA (nB (yb P w) P w K mg base N qual scope f cd A outer s H Ek).stack)) I.ok.frames rfl (fun b o q=>vE _ q)
   (Gx I.stack fun env he b hb=>List.mem_filterMap.mpr ⟨env,he,hb⟩) hx fun h' t fl tup tn up=>?_
  obtain⟨un,ck,hB⟩:=A2 I rfl rfl rfl hx.keeps (fun b o e n _=>uq _ e n) fl.1 up;obtain⟨oe,he,_⟩:=fl.there;refine⟨a,C,t,_,H1,rfl,I.os,I.bare,un,ck,hB,fl,?_,?_,oe,he,ke ex C H1 G1 _ hE Jt hm (.inl hf)⟩
  ·cases q:H1 a with
   | none=>rfl
   | some u =>
    obtain⟨o,e⟩:=(I.ck a u q).there;have:=hx.new;rw [e] at this; cases this
  ·cases q:s.heap.get? a with
   | none=>rfl
   | some o =>
    obtain⟨o',e⟩:=I.base.there a o q ef;have:=hx.new;rw [e] at this; cases this
 LC:=fun pins σ H1 s1 a C t oe vs ex G1 I Jt he hc hd h0 h1 ha hs hm hf hE=>by
  show wpAny (model P w) _ (leaving _ (.ref a)) _ _ _;have nfr:∀ b,b∈oA (nB (yb P w) P w K mg base N qual scope f cd A outer s H Ek).stack->b≠a:=fun b hb z=>by
   obtain⟨_,o2,e2,nf⟩:=I.stack.mem hb;rw [z,he] at e2; cases e2; exact nf vs hd
  have hB0:∀ b o,s1.heap.get? b=some o->b∉oA (nB (yb P w) P w K mg base N qual scope f cd A outer s H Ek).stack->b≠a->(jO s1.heap (a :: oA (nB (yb P w) P w K mg base N qual scope f cd A outer s H Ek).stack)).get? b=some o:=fun b o e n z=>uq _ e fun hm=>(List.mem_cons.mp hm).elim z n;have Zq:(jO s1.heap (a :: oA (nB (yb P w) P w K mg base N qual scope f cd A outer s H Ek).stack)).get? a=none:=JQ _ (.head _)
  refine eA (x3 (wpAny_leaving_firstW (Q:=fun _ s2=>∃ h',PySem.Heap.LeftW (jO s1.heap (a :: oA (nB (yb P w) P w K mg base N qual scope f cd A outer s H Ek).stack)) (sr qual scope s.heap.objs.size f cd :: outer) a oe.cls (.ref t) s1.heap h'/\s2={ s1 with heap:=h' }) (a0:=.ref t) (base:=jO s1.heap (a :: oA (nB (yb P w) P w K mg base N qual scope f cd A outer s H Ek).stack)) I.ok.frames
   (Gx I.stack fun env he b hb=>List.mem_cons.mpr (.inr (List.mem_filterMap.mpr ⟨env,he,hb⟩))) rfl he (fun b o q=>vE _ q) Zq hd h1 h0 fun h' hL=>⟨h',hL,rfl⟩) (xA _ _)) ?_ (fun _ _ z=>z)
  rintro _ s2 ⟨⟨h',⟨k1,⟨_,_,k2⟩,k3,up⟩,rfl⟩,dk⟩;have fl:fY _ outer a (.ref C) (.ref t) h':=⟨k1,Zq,k2,by rw [<-hc]; exact k3⟩;obtain⟨WO,UD,_⟩:=fl.there;have dk:=dk.at he UD;obtain⟨un,ck,hB⟩:=A2 I rfl rfl rfl (fun _ _ e=>e) (fun b o e n c=>hB0 b o e n (fun z=>by subst z; exact c.elim (fun c=>c hs) (fun c=>c ha))) k1 up;exact⟨a,C,t,_,H1,rfl,I.os,I.bare,un,ck,hB,fl,ha,hs,WO,UD,ke ex C H1 G1 _ hE Jt hm (by rw [dk]; exact hf)⟩
 pass:=fun pins σ H1 s1 s' e I B4=>by
  obtain⟨a,C,t,B,H',e1,os,bare,un,ck,hB,fl,ha,hs,oe,he,ex,C',G2,e2,hm,Jt,hE,hf⟩:=B4;subst e1; cases e2;show wpAny (model P w) _ (leaving _ (.ref a)) _ _ _;have I':Inv (nB (yb P w) P w K mg base N qual scope f cd A outer s H Ek) pins σ H' s':=by
   obtain⟨hh,g,d,t,Tx⟩:=s';obtain rfl:Tx=s1.os:=os;exact I.call (h':=hh) (g':=g) (d':=d) (t':=t) (ch:=[]) un ck bare (fun b z=>absurd z (by simp))
  refine eA (x3 (wpAny_leaves_onW (Q:=fun _ s2=>∃ h',fY B outer a (.ref C) (.ref t) h'/\s'.heap.UpToSlots h'/\s2={ s' with heap:=h' }) I.ok.frames rfl fl fun h' UU up=>⟨h',UU,up,rfl⟩) (xA _ _)) ?_ (fun _ _ z=>z);rintro _ s2 ⟨⟨h',UU,up,rfl⟩,dk⟩;obtain⟨WO,UD,_⟩:=UU.there;have dk:=dk.at he UD;obtain⟨S5,FC,hB'⟩:=A2 I' rfl rfl rfl (fun _ _ e=>e) (fun b o e n c=>hB b o e n (c.imp (fun z=>by
   cases q:s.heap.get? b with
   | none=>exact absurd q z
   | some o0=>obtain⟨o1,e1⟩:=I.base.there b o0 q ef; rw [e1]; simp) id)) UU.1 up
  refine⟨a,C,t,B,H',rfl,I'.os,I'.bare,S5,FC,hB',UU,ha,?_,WO,UD,ke ex C H' G2 _ hE Jt hm (by rw [dk]; exact hf)⟩;cases q:s.heap.get? a with
  | none=>rfl
  | some o=>obtain⟨o1,e1⟩:=I.base.there a o q ef; rw [e1] at hs; cases hs
end
noncomputable def oU(K:ag)(mg:Str->Option Value)(sp:pD):Sp:=fun vs H Q E=>∃ ds G Q2 E2,aR K H vs ds/\jK K H G/\sp ds G Q2 E2/\(∀ d G' v H',Q2 d G'->Mv K H G H' G'->cb K H' v d->Q v H') /\
 ∀ (ex:Ex) (C:Addr) (H':Hp) (G':Gp) (o:Option Addr),E2 ex G'->jK K H' G'->mg ex.cls=some (.ref C)->PB K H' ex.rh o->E (.ref C) o H'
theorem O8{P:bo}{w:World}{K:ag}{mg:Str->Option Value}{base:Heap}{x qual:Str}{st:Stmt}{f:Addr}{fd:aL}{Nn ps:List Str}{k:Nat}{sp:pD}{rd:i6}(F:rE K x qual st f fd)(S:cQ Nn ps (a5 st))(len:∀ ds G Q E,sp ds G Q E->ds.length=ps.length)
  (hr:∀ ds G Q E,sp ds G Q E->rd E (ends Q) (bP Nn.length ds) G)
  (hb:∀ (jJ:Value) (A:cx) (outer:List Env) (s:ak) (H:Hp) (E:XK),iC k (A.deeper (sr qual (a5 st) s.heap.objs.size f jJ))->rj (nB (yb P w) P w K mg base Nn qual (a5 st) f jJ A outer s H E) (fU st) rd):gi P w K mg base (yb P w) (k+1) f fd ps (oU K mg sp):=by
 obtain⟨oc,od,kV,doc,pm,an,jJ,ct,Hd,rfl,lk,B5⟩:=F.ex;refine Qb lk B5 S ((by rintro vs H Q E ⟨ds,G,Q2,E2,r,ab,q,_⟩; exact by rw [r.length]; exact len _ _ _ _ q)) ?_;rintro A outer s H vs Q E C6 ⟨ds,G,Q2,E2,r,ab,q,kk,ke⟩;refine⟨_,Lg (hb jJ A outer s H E C6) (T6 ke),?_⟩;exact⟨bP Nn.length ds,G,ends Q2,wM r,ab,hr ds G Q2 E2 q,fun iP H' mR G' mv z=>kk _ _ _ _ z mv .cy,fun v H' d G' mv Oi z=>kk _ _ _ _ z mv Oi,fun _ _ z=>z,fun _ _ z=>z⟩
noncomputable def LN:HO->Bool
 | .tup _=>true
 | .hZ _ (.lst _)=>true
 | .hZ _ (.dK _)=>true
 | .hZ _ (.dT _)=>true
 | .hZ _ (.ext _)=>true
 | .hZ _ (.xd _)=>true
 | _=>false
noncomputable def hr(H:Hp):Hp:=fun b=>(H b).bind fun o=>if LN o=true then some o else none
noncomputable def hj(H1 H':Hp):Hp:=fun b=>match H1 b with
 | some o=>some o
 | none=>H' b
section
variable {P:bo} {w:World} {K:ag} {H H1 H':Hp} {h h':Heap} {b:Addr} {o:HO} {fs:List Addr}
theorem O1(q:hr H b=some o):H b=some o/\LN o=true:=by
 unfold hr at q;cases e:H b with
 | none=>rw [e] at q; cases q
 | some u =>
  rw [e] at q;simp only [yX] at q;by_cases k:LN u=true
  ·rw [if_pos k] at q; cases q; exact⟨rfl,k⟩
  ·rw [if_neg k] at q; cases q
theorem nk(q:H b=some o)(k:LN o=true):hr H b=some o:=by unfold hr; rw [q,yX,if_pos k]
theorem tM(q:H b=none):hr H b=none:=by unfold hr; rw [q]; rfl
theorem Md(q:H b=some o)(k:LN o=false):hr H b=none:=by unfold hr; rw [q,yX,if_neg (by rw [k]; exact eQ)]
theorem Rv(x:pq P w H h):pq P w (hr H) h:=fun a o q=>by
 obtain⟨e,k⟩:=O1 q;have y:=x a o e;cases o with
 | tup xs=>exact y
 | hZ ob u =>
  cases u with
  | lst _=>exact y
  | dK _=>exact y
  | ext _=>exact y
  | xd _=>exact y
  | dT aS =>
   obtain⟨e1,z,n,xs,r,rest⟩:=y;exact⟨e1,z,n,xs,L2.Paired.Q8 r (fun p q z=>⟨z.1,nk z.2.1 rfl,z.2.2⟩),rest⟩
  | _=>exact aY (show false=true from k)
 | _=>exact aY (show false=true from k)
theorem my(q:H1 b=some o):hj H1 H' b=some o:=by unfold hj; rw [q]
theorem ot(q:H1 b=none):hj H1 H' b=H' b:=by unfold hj; rw [q]
theorem join(un:Un fs [] (hr H1) H' h h')(k1:pq P w H1 h)(k2:pq P w H' h')(fr:∀ b∈fs,H1 b=none) :
  Un fs [] H1 (hj H1 H') h h'/\pq P w (hj H1 H') h'/\Kp H' (hj H1 H')/\∀ b u,(∀ o,H1 b=some o->LN o=false\/∃ ob v,o=.hZ ob v)->H1 b≠none->h.get? b=some u->h'.get? b=some u:=by
 have nx:∀ c:Addr,c∉([]:List Addr):=fun c=>ef;have TQ:∀ c u,H1 c=some u->c∉fs:=fun c u q z=>by rw [fr c z] at q; cases q
 have Qh:∀ c u v,H1 c=some u->H' c=some v->u=v/\LN u=true:=fun c u v q q'=>by
  cases k:LN u with
  | false =>
   obtain⟨ob,e⟩:=(k1 c u q).there;have:=un.free c ob e (Md q k) (nx c);rw [this] at q'; cases q'
  | true =>
   have r:=nk q k;cases u with
   | tup xs=>have:=un.o8 c xs r; rw [q'] at this; cases this; exact⟨rfl,rfl⟩
   | hZ ob x=>have:=un.oz c ob x r; rw [q'] at this; cases this; exact⟨rfl,rfl⟩
   | _=>exact aY (show false=true from k)
 have same:∀ b u,(∀ o,H1 b=some o->LN o=false\/∃ ob v,o=.hZ ob v)->H1 b≠none->h.get? b=some u->h'.get? b=some u:=fun b u hh hn e=>by
  cases q:H1 b with
  | none=>exact absurd q hn
  | some o =>
   cases k:LN o with
   | false=>exact un.keep b u e (Md q k) (TQ b o q) (nx b)
   | true =>
    rcases hh o q with z | ⟨ob,v,rfl⟩
    ·rw [z] at k; cases k
    ·have h1:=(k2 b _ (un.oz b ob v (nk q k))).1;have h2:=(k1 b _ q).1;rw [h2] at e; cases e;exact h1
 refine⟨⟨fun c u e n hc hx=>un.keep c u e (tM n) hc hx,fun c u e n hc hx=>un.slot c u e (tM n) hc hx,fun c u e n hx=>?_,fun c u e hx=>un.there c u e hx,fun c xs q=>my q,fun c ob u q=>my q,fun c ps q=>my q,fun c x q=>my q⟩,fun c o q=>?_,⟨fun c xs q=>?_,fun c ob u q=>?_⟩,same⟩
 ·rw [ot n]; exact un.free c u e (tM n) hx
 ·cases q1:H1 c with
  | some o1 =>
   rw [my q1] at q; cases q;by_cases ht:∃ xs,o=.tup xs
   ·obtain⟨xs,rfl⟩:=ht;exact k2 c _ (un.o8 c xs (nk q1 rfl))
   ·refine(k1 c o q1).iK (fun d u hd e=>?_) (fun d r=>my r) (fun d xs r=>my r);rcases hd with rfl | hd
    ·refine same d u (fun o' e'=>?_) (by rw [q1]; simp) e;rw [q1] at e'; cases e';cases o with
     | tup xs=>exact absurd ⟨xs,rfl⟩ ht
     | hZ ob v=>exact .inr ⟨ob,v,rfl⟩
     | _=>exact .inl rfl
    ·refine same d u (fun o' e'=>?_) (by rw [hd]; simp) e;rw [hd] at e'; cases e';exact .inl rfl
  | none =>
   rw [ot q1] at q;refine(k2 c o q).iK (fun d u _ e=>e) (fun d r=>?_) (fun d xs r=>?_)
   ·cases q2:H1 d with
    | none=>rw [ot q2]; exact r
    | some u=>obtain⟨rfl,k⟩:=Qh d u _ q2 r; exact aY (show false=true from k)
   ·cases q2:H1 d with
    | none=>rw [ot q2]; exact r
    | some u=>obtain⟨rfl,k⟩:=Qh d u _ q2 r; exact my q2
 ·cases q2:H1 c with
  | none=>rw [ot q2]; exact q
  | some u=>obtain⟨rfl,k⟩:=Qh c u _ q2 q; exact my q2
 ·cases q2:H1 c with
  | none=>rw [ot q2]; exact q
  | some v=>obtain⟨rfl,k⟩:=Qh c v _ q2 q; exact my q2
end
theorem cb.hr{K:ag}{H:Hp}{v:V}{d:D}(h:cb K H v d):cb K (K2.hr H) v d :=
 cb.rec (motive_1:=fun v d _=>cb K (K2.hr H) v d) (motive_2:=fun v d _=>aR K (K2.hr H) v d) (motive_3:=fun v d _=>nJ K (K2.hr H) v d) (motive_4:=fun v d _=>oQ K (K2.hr H) v d)
  .cy .bl .int .str (fun h _ r=>.tup (nk h rfl) r) (fun h _ r=>.eL (h.imp (fun q=>q.elim fun o q=>⟨o,nk q rfl⟩) id) r) (fun h _ r=>.qY (nk h rfl) r) (fun h _ r=>.qX (nk h rfl) r) .ref (fun h=>.exc (by obtain⟨o,C,h1,h2,h3⟩:=h; exact⟨o,C,nk h1 rfl,h2,h3⟩)) (fun h _ r=>.uj (by obtain⟨o,C,dx,od,fs,h1,h2,h3,h4,h5,h6⟩:=h; exact⟨o,C,dx,od,fs,nk h1 rfl,h2,h3,h4,nk h5 rfl,h6⟩) r) (fun h z _ _ r1 r2=>.ze (nk h rfl) z r1 r2) .nil (fun _ _ a b=>.cons a b) .nil (fun _ _ a b=>.cons a b) .nil (fun _ _ a b=>.cons a b) h
theorem aR.hr{K:ag}{H:Hp}{v:List V}{d:List D}(h:aR K H v d):aR K (K2.hr H) v d :=
 aR.C4 (P:=fun v d=>aR K (K2.hr H) v d) .nil (fun r _ ih=>.cons r.hr ih) h
section
variable {M:Model} {A:cx} {E:Value->ak->Prop}
variable {nm q YV q':Str} {C N D N':Addr} {bs bm Qg VW:List Value} {md P8:Bool} {sn YG:List Str} {sub Tb:List Value} {ab Ka:Bool} {col U4:Option Bool} {dd RZ:Option Addr} {k0 k1 k2 k3 k5 Y7 Sq VC Y6 Y5:Option Value} {newId Q6:String}
theorem Jb{h:Heap}{g:Array yj}{d:Drawn}{t:Nat}{os:OsState}{e:Addr}{oe:Obj}{Q:Bool->ak->Prop}
  (hC:h.get? C=some (jk nm q C N bs bm md sn sub ab col dd k0 k1 k2 k3 k5 newId)) (hD:h.get? D=some (jk YV q' D N' Qg VW P8 YG Tb Ka U4 RZ Y7 Sq VC Y6 Y5 Q6))
  (he:h.get? e=some oe) (Mm:oe.cls=.ref C) (Mo:VW.contains (.type "BaseException")=true)
  (hq:Q ((dI C :: bm).contains (.ref D)) ⟨h,g,d,t,os⟩):wpAny M A (excMatches (.ref e) (.ref D)) Q E ⟨h,g,d,t,os⟩:=by
 have X3:(dI D :: VW).contains (.type "BaseException")=true:=by rw [yh,Mo,Bool.or_true]
 have f:=tc_notTuple;generalize hb:(dI C :: bm).contains (.ref D)=r at hq;unfold excMatches
 repeat (first | (with_reducible refine ij he ?_; rw [Mm]) | with_reducible refine ij hD ?_ | (with_reducible refine pE hD ?_; rw [X3]) | (with_reducible refine pE hC ?_; rw [hb]) | wp_step)
 cases r
 ·wp_walk; exact hq
 ·wp_walk; exact hq
end
section
variable {X:Cx} {pins:List (Addr×Obj)} {σ:L2.St} {H1:Hp} {G1:Gp} {s1:ak} {k:Nat} {f:Addr} {fd:aL} {ps:List Str} {sp:pD}
theorem PX{H':Hp}(ab:jK X.K H1 G1):Mv X.K H1 G1 (hj H1 H') G1:=by
 have kp:Kp H1 (hj H1 H'):=⟨fun a xs e=>my e,fun a o u e=>my e⟩;have Ka:jK X.K (hj H1 H') G1:=fun a g e=>(ab a g e).mono kp (by
  cases q:H1 a with
  | none=>exact absurd q (ab a g e).tracked
  | some o=>exact my q)
 exact⟨fun a o e n=>⟨my e,n⟩,fun a n=>by
  cases q:G1 a with
  | none=>exact absurd q n
  | some g=>exact(Ka a g q).tracked,Ka⟩
theorem K1{us:List Value}{vs:List V}{ds:List D}{Q2:DK}{E2:kC}(F:gi X.prog X.w X.K X.mg X.base (yb X.prog X.w) k f fd ps (oU X.K X.mg sp))(hr:iC k X.A)(hb:Binds X.K fd ps [])(I:Inv X pins σ H1 s1)(ab:jK X.K H1 G1)(r:Vals vs us)(rd:aR X.K H1 vs ds)
  (h:sp ds (fun _=>none) Q2 E2):wpAny (model X.prog X.w) X.A (call (.ref f) us)
   (fun u s'=>∃ v d G' Hj,Inv X pins σ Hj s'/\Mv X.K H1 G1 Hj G1/\RelV v u/\cb X.K Hj v d/\Q2 d G'/\(∀ b g,G' b=some g->H1 b=none/\Kc X.K Hj b g))
   (fun e s'=>∃ (a C t:Addr) (B:Heap) (ex:Ex) (Hj:Hp),e=.ref a/\Inv X pins σ Hj s'/\Mv X.K H1 G1 Hj G1/\fY B X.stack a (.ref C) (.ref t) s'.heap /\
    (∀ b o,s'.heap.get? b=some o->b∉oA X.stack->(s1.heap.get? b≠none\/Hj b≠none)->B.get? b=some o)/\Hj a=none/\s1.heap.get? a=none/\(∃ oe,s'.heap.get? a=some oe/\PB X.K Hj ex.rh oe.dict)/\X.mg ex.cls=some (.ref C)/\∃ G',E2 ex G') s1:=by
 have Ea:oU X.K X.mg sp vs (K2.hr H1) (fun v H'=>∃ d G',cb X.K H' v d/\Q2 d G'/\jK X.K H' G') (Ye X.K X.mg E2) :=
  ⟨ds,fun _=>none,Q2,E2,rd.hr,(fun _ _ z=>by cases z),h,fun d G' v H' q m J2=>⟨d,G',J2,q,m.ab⟩,fun ex C H' G' o q Ka hm hf=>⟨ex,C,G',rfl,hm,Ka,q,hf⟩⟩
 have hl:us.length=ps.length:=by rw [<-r.length]; exact F.len _ _ _ _ Ea
 have e0:=I.RV;have e1:DU X.prog X.w X.K X.mg X.base X.A X.stack s1 (K2.hr H1):=⟨e0.frames,e0.mod,fun b o q=>⟨(e0.bs b o q).1,tM (e0.bs b o q).2⟩,e0.J9,e0.tP,fun b z=>tM (e0.MC b z),Rv e0.ck,e0.bare⟩;have Zy:=hb s1 us I.qg (by rw [bL]; exact hl);rw [bL] at Zy;refine mD (jl (F.run X.A X.stack s1 (K2.hr H1) ⟨us,[]⟩ us vs _ _ hr e1 Zy r Ea) fun res s' hq=>?_);cases res with
 | error e =>
  obtain⟨a,C,t,B,H',rfl,os,bare,un,ck,hB,fl,ha,hs,oe,he,ex,C',G2,ec,hm,_,hE,hf⟩:=hq;cases ec;obtain⟨S5,FC,W6,_⟩:=join un I.ck ck e0.MC;have h1a:H1 a=none:=by
   cases q:H1 a with
   | none=>rfl
   | some u=>obtain⟨o,e⟩:=(I.ck a u q).there; rw [e] at hs; cases hs
  refine⟨a,C,t,B,ex,hj H1 H',rfl,I.Qe (ch:=[]) os S5 FC bare (fun b z=>absurd z (by simp)),PX ab,fl,fun b o e n c=>hB b o e n ?_,by rw [ot h1a]; exact ha,hs,⟨oe,he,hf.mono W6⟩,hm,G2,hE⟩;rcases c with c | c
  ·exact .inl c
  ·cases q:H1 b with
   | none=>rw [ot q] at c; exact .inr c
   | some u=>obtain⟨o1,e1⟩:=(I.ck b u q).there; exact .inl (by rw [e1]; simp)
 | ok fl =>
  cases fl with
  | ret u =>
   obtain⟨v,H',os,bare,un,ck,rv,d,G',J2,q,VX⟩:=hq;obtain⟨S5,FC,kp,_⟩:=join un I.ck ck e0.MC;refine⟨v,d,G',hj H1 H',I.Qe (ch:=[]) os S5 FC bare (fun b z=>absurd z (by simp)),PX ab,rv,J2.mono kp,q,fun b g e=>?_⟩;have h1:H1 b=none:=by
    cases q1:H1 b with
    | none=>rfl
    | some u =>
     exfalso;have t:=(VX b g e).tracked;cases k:LN u with
     | false =>
      obtain⟨ob,eo⟩:=(I.ck b u q1).there;exact t (un.free b ob eo (Md q1 k) ef)
     | true =>
      have r:=nk q1 k;cases u with
      | tup xs=>have:=VX.PU (un.o8 b xs r); rw [e] at this; cases this
      | hZ ob x=>have:=VX.PV (un.oz b ob x r); rw [e] at this; cases this
      | _=>exact aY (show false=true from k)
   exact⟨h1,(VX b g e).mono kp (ot h1)⟩
  | next=>exact bf hq
  | brk=>exact bf hq
  | cont=>exact bf hq
end
section
variable {X:Cx} {pins:List (Addr×Obj)} {σ:L2.St} {H H1:Hp} {s s1:ak} {h6 B:Heap} {a:Addr} {o:Obj} {u:HO}
theorem HP{h h':Heap}{c:Addr}{v:Option Value}(up:h.UpToSlots h')(z:h.IsCell c v):h'.IsCell c v:=by
 obtain⟨o,ho,hd⟩:=z;obtain⟨sl,e⟩:=up c o ho (fun vs q=>by rw [hd] at q; cases q);exact⟨_,e,hd⟩
theorem Lj(I:Inv X pins σ H s)(vO:X.stack=X.env :: X.outer)(Ny:X.env.frame=some X.env.locals){p:Addr×Obj}(hp:p∈X.pn++pins):p.1∉oA X.stack:=fun z=>by
 obtain⟨_,_,h3,h4,_⟩:=I.pin p hp;rw [vO] at z; unfold oA at z; rw [qA Ny] at z;rcases List.mem_cons.mp z with e | e
 ·exact h3 e
 ·exact h4 e
theorem zV(I : Inv X pins σ H s)(I1 : Inv X pins σ H1 s1)(vO : X.stack = X.env :: X.outer)(Ny : X.env.frame = some X.env.locals)(hex : X.ex = [])
    (hB : ∀ b o, s.heap.get? b = some o -> b ∉ oA X.stack -> (s1.heap.get? b ≠ none ∨ H b ≠ none) -> B.get? b = some o) (iK : B.StaysIn h6) (up : s.heap.UpToSlots h6) (tk : Nat) : Inv X pins σ H { s with heap := h6, toks := tk } := by
  have z := A2 I vO Ny hex (fun _ _ e => e) (fun b o e n c => hB b o e n (c.imp (fun c => by
    cases q : X.gS.heap.get? b with
    | none => exact absurd q c
    | some o0 => obtain⟨o1, e1⟩ := I1.base.there b o0 q (by rw [hex]; exact ef); rw [e1]; simp) id)) iK up
  exact { ok := I.ok, os := I.os, bare := I.bare
          base := by rw [hex]; exact z.1
          loc := by
            obtain⟨m, hn, hl⟩ := I.loc;exact⟨m, up.ns hn, fun i x v e1 e2 e3 => let ⟨u, r, q⟩ := hl i x v e1 e2 e3; ⟨u, r, q.imp id fun ⟨k, c, e, y⟩ => ⟨k, c, e, HP up y⟩⟩⟩
          cell := fun x c e => let ⟨v, y⟩ := I.cell x c e; ⟨v, HP up y⟩
          free := I.free, iE := I.iE
          pin := fun p hp => by
            obtain⟨h1, h2⟩ := I.pin p hp;exact⟨iK _ _ (hB p.1 p.2 h1 (Lj I vO Ny hp) (.inl (by rw [(I1.pin p hp).1]; simp))), h2⟩
          ck := z.2.1
          len := I.len }
theorem JK(I : Inv X pins σ H s)(ha : H a = none)(hn : X.gS.heap.get? a = none)(nl : a ≠ X.env.locals)(nc : ∀ x c, X.env.cells.lookup x = some c -> c ≠ a)(np : ∀ p ∈ X.pn ++ pins, p.1 ≠ a)(new : eZ X.prog X.w (upd H a u) s.heap a u) :
    Inv X pins σ (upd H a u) s := by
  have ne : ∀ b v, H b = some v -> b ≠ a := fun b v q e => by rw [e, ha] at q; cases q
  exact { ok := I.ok, os := I.os, bare := I.bare
          base := ⟨I.base.keep, I.base.slot, fun b o q n hx => by
            have : b ≠ a := fun e => by rw [e, hn] at q; cases q
            rw [bu this]; exact I.base.free b o q n hx, I.base.there, fun b xs q => by have r := I.base.o8 b xs q; rw [bu (ne _ _ r)]; exact r, fun b o v q => by have r := I.base.oz b o v q; rw [bu (ne _ _ r)]; exact r,
            fun b ps q => by have r := I.base.rN b ps q; rw [bu (ne _ _ r)]; exact r,
            fun b x q => by have r := I.base.rQ b x q; rw [bu (ne _ _ r)]; exact r⟩
          loc := I.loc, cell := I.cell
          free := by rw [bu (jZ nl)]; exact I.free
          iE := fun x c e => by rw [bu (nc x c e)]; exact I.iE x c e
          pin := fun p hp => by obtain⟨h1, h2, h3⟩ := I.pin p hp; exact⟨h1, by rw [bu (np p hp)]; exact h2, h3⟩
          ck := fun b v q => by
            by_cases e : b = a
            · subst e; rw [cj] at q; cases q; exact new
            · rw [bu e] at q
              exact(I.ck b v q).iK (fun _ _ _ y => y) (fun c r => by rw [bu (ne _ _ r)]; exact r) (fun c xs r => by rw [bu (ne _ _ r)]; exact r)
          len := I.len }
noncomputable abbrev marked(X:Cx)(v:Value):Cx:={ X with A:=X.A.mark (some v),calm:=false,xe:=fun _ _=>False }
theorem PA{v:Value}(ok:X.Ok):(marked X v).Ok :=
 ⟨ok.mod,ok.kind,ok.glob,ok.blt,ok.above,ok.inj,ok.has,ok.SG,fun z=>(by cases z),ok.frames,ok.Te,ok.UX,ok.bs,ok.J9,ok.IY,ok.Jz,ok.tP,ok.MC⟩
theorem DR{v:Value}(I:Inv X pins σ H s):Inv (marked X v) pins σ H s:=⟨PA I.ok,I.os,I.bare,I.base,I.loc,I.cell,I.free,I.iE,I.pin,I.ck,I.len⟩
theorem Gs{v:Value}(ok:X.Ok)(I:Inv (marked X v) pins σ H s):Inv X pins σ H s:=⟨ok,I.os,I.bare,I.base,I.loc,I.cell,I.free,I.iE,I.pin,I.ck,I.len⟩
theorem Qq{M : Model}{A : cx}{E : Value -> ak -> Prop}{i : Nat}{n : Str}{pos : Pos}{Q : Unit -> ak -> Prop}(I : Inv X pins σ H s)(hN : X.N.Nodup)(hi : X.N[i]? = some n)(hk : X.env.scope.names.lookup n = some .local)
    (h : ∀ s', Inv X pins (σ.set i none) H s' -> Q () s') : wpAny M A (do bindName X.env n .none; unbindBehindTheSuite X.env n pos) Q E s := by
  obtain⟨m, hn, hl⟩ := id I.loc;have Mm : (X.env.scope.kind == .class || (X.env.scope.kind == .module && X.env.locals != X.env.globals)) = false := by rw [I.ok.kind]; rfl
  obtain⟨oL, _, _, VH, _⟩ := id hn;refine wpAny_nameGoes_keeps hk hn Mm fun h' v Eb hs => h _ ?_;have low : ∀ b o, X.gS.heap.get? b = some o -> b ≠ X.env.locals := fun b o e => bA (bw (aK e) I.ok.above)
  exact { ok := I.ok, os := I.os, bare := I.bare
          base := ⟨fun b o e n hb hx => (hs.2 b (low b o e)).trans (I.base.keep b o e n hb hx), fun b o e n hb hx => by
              obtain⟨sl, e1⟩ := I.base.slot b o e n hb hx;exact⟨sl, (hs.2 b (low b o e)).trans e1⟩, I.base.free, fun b o e hx => by
              obtain⟨o', e1⟩ := I.base.there b o e hx;exact⟨o', (hs.2 b (low b o e)).trans e1⟩, I.base.o8, I.base.oz, I.base.rN, I.base.rQ⟩
          loc := ⟨_, Eb, fun j y v' e1 e2 e3 => by
            by_cases hj : j = i
            · subst hj
              by_cases pf : j < σ.length
              · rw [cZ pf] at e2; cases e2
              · rw [iU (by rw [cL]; lia)] at e2; cases e2
            · rw [dR (jZ hj)] at e2
              obtain⟨u', r', q⟩ := hl j y v' e1 e2 e3;refine⟨u', r', ?_⟩;rcases q with ⟨k, e⟩ | ⟨k, c, e, z⟩
              · refine .inl ⟨k, ?_⟩
                have : y ≠ n := fun e => hj (xc hN e1 (e ▸ hi));simp [this, e]
              · exact .inr ⟨k, c, e, z.sameBut hs (I.Pm y c e)⟩⟩
          cell := fun y c e => by
            obtain⟨w', z⟩ := I.cell y c e;exact⟨w', z.sameBut hs (I.Pm y c e)⟩
          free := I.free, iE := I.iE
          pin := fun p hp => by
            obtain⟨h1, h2, h3, h4⟩ := I.pin p hp;exact⟨(hs.2 p.1 h3).trans h1, h2, h3, h4⟩
          ck := fun b ob e => by
            refine(I.ck b ob e).iK (fun c w' hc q => (hs.2 c ?_).trans q) (fun _ q => q) fun _ _ q => q;rintro rfl;rcases hc with rfl | hc
            · rw [I.free] at e; cases e
            · rw [I.free] at hc; cases hc
          len := by rw [cL]; exact I.len }
end
theorem JO{K:ag}{H:Hp}{σ:L2.St}{τ:hV}(a:HZ K H σ τ)(i:Nat):HZ K H (σ.set i none) (τ.set i none):=by
 refine⟨by rw [cL,cL]; exact a.len,fun j e h=>?_⟩;by_cases hj:i=j
 ·subst hj;by_cases hi:i < τ.length
  ·rw [cZ hi] at h; cases h
  ·rw [iU (by rw [cL]; lia)] at h; cases h
 ·rw [dR hj] at h;obtain⟨w,h1,h2⟩:=a.at' j e h;exact⟨w,by rw [dR hj]; exact h1,h2⟩
noncomputable def subIn(K:ag)(C:Addr)(v:Value):Bool:=match K.lookup C with
 | some ⟨_,_,.cls cd,_⟩=>cd.mro.contains v
 | _=>false
theorem N7{K:ag}{h:Heap}{C N:Addr}{nm q:Str}{bs bm:List Value}{md:Bool}{sn:List Str}{sub:List Value}{ab:Bool}{col:Option Bool}{dd:Option Addr}{k0 k1 k2 k3 k5:Option Value}{newId:String}{v:Value}
  (Y:K.In h) (hC:h.get? C=some (jk nm q C N bs bm md sn sub ab col dd k0 k1 k2 k3 k5 newId)) (e:subIn K C v=true):(dI C :: bm).contains v=true:=by
 unfold subIn at e;split at e
 ·rename_i ho;have:=Y _ _ ho;rw [hC] at this;cases this;exact e
 ·cases e
section
variable {X:Cx} {x cn n:Str} {D f:Addr} {fd:aL} {ps:List Str} {k i:Nat} {sp:pD} {U7:List Value} {newD:String} {cat:List Str} {e:Expr} {es:List Expr} {p np pos ep FA tp:Pos} {PG:Stmt} {y7:List Stmt} {t:wu} {th:i6}
structure HY(X:Cx):Prop where
 st:X.stack=X.env :: X.outer
 fr:X.env.frame=some X.env.locals
 ex:X.ex=[]
structure Clause(X:Cx)(i:Nat)(n cn:Str)(D:Addr)(cat:List Str):Prop where
 nd:X.N.Nodup
 Qh:X.N[i]?=some n
 loc:X.env.scope.names.lookup n=some .local
 gl:Gl X cn
 mg:X.mg cn=some (.ref D)
 cls:∃ U7 newD,(pM X.K D U7 newD=true\/zG X.K D U7 newD=true)/\U7.contains (.type "BaseException")=true
 cat:∀ c,cat.contains c=true->∃ C kK newId,bc X.K aO c=some (some (.ref C))/\(pM X.K C kK newId=true\/zG X.K C kK newId=true)/\subIn X.K C (.ref D)=true
theorem DE{pins:List (Addr×Obj)}{σ:L2.St}{H H1 Hj:Hp}{τ:hV}{G G1:Gp}{s1 s':ak}{Dn:kR}{a C t0:Addr}{B:Heap}{ex:Ex}(A0:HY X)(L:Clause X i n cn D cat)(Xn:∀ v,rj (marked X v) (PG :: y7) th)(J1:Inv X pins σ H1 s1)(st1:HZ X.K H1 σ τ)(ab1:jK X.K H1 G1)(m1:Mv X.K H G H1 G1)
  (I':Inv X pins σ Hj s') (mv:Mv X.K H1 G1 Hj G1) (fl:fY B X.stack a (.ref C) (.ref t0) s'.heap) (hB:∀ b o,s'.heap.get? b=some o->b∉oA X.stack->(s1.heap.get? b≠none\/Hj b≠none)->B.get? b=some o)
  (SA:Hj a=none) (Fy:s1.heap.get? a=none) (XW:∃ oe,s'.heap.get? a=some oe/\PB X.K Hj ex.rh oe.dict) (Rz:X.mg ex.cls=some (.ref C)) (O6:cat.contains ex.cls=true) {dv:K2.D} (hdv:dv=.exc ex.cls\/ex.rh≠[]/\dv=.uj ex.cls (ex.rh.map (·.1)) (ex.rh.map (·.2)))
  (q':th (fun _ _=>False) ⟨fun mR G'=>Dn.nx (mR.set i none) G',fun _ _=>False,fun _ _=>False,fun _ _=>False⟩ (τ.set i (some dv)) G1) (RG:(cn == ("__debug__" : Str))=false) :
  wpAny (model X.prog X.w) X.A (Kh (.ref a) X.env) (fun _ iQ=>wpAny (model X.prog X.w) X.A (setFlight (.ref a) none) (fun _ AI=>wpAny (model X.prog X.w) X.A (handleBy (.ref a) X.env [.ExceptHandler (some (.Name cn np)) (some n) (PG :: y7) FA]) (Pu X pins H G Dn) X.xe AI) X.xe iQ) X.xe s':=by
 obtain⟨vO,Ny,hex⟩:=A0;obtain⟨hN,hi,hl,hgD,hmD,⟨U7,newD,qD,bD⟩,X2⟩:=L;obtain⟨C',kK,newId,Bm,qC,Jn⟩:=X2 ex.cls O6;have eC:C'=C:=by
  have:=gh J1.ok.mod.Ji J1.ok.mod.glob Bm;rw [Rz] at this; cases this; rfl
 subst eC;rw [vO] at fl;obtain⟨o0,P7,hfo⟩:=XW;refine eA (x3 (wpAny_looks_onW (Q:=fun _ s2=>∃ h4,PySem.Heap.HeldW B (X.env :: X.outer) a (.ref C') (.ref t0) X.env.locals h4/\s'.heap.UpToSlots h4/\s2={ s' with heap:=h4 }) (L:=X.env.locals) (by rw [<-vO]; exact J1.ok.frames) Ny fl fun h4 held Vp=>⟨h4,held,Vp,rfl⟩) (Hr _ _)) ?_ (fun _ _ z=>z);rintro _ s2 ⟨⟨h4,held,Vp,rfl⟩,dk4⟩;refine eA (x3 (wpAny_landsW (Q:=fun _ s2=>∃ h5,fY B (X.env :: X.outer) a (.ref C') (.ref t0) h5/\h4.UpToSlots h5/\s2={ s' with heap:=h5 }) held fun h5 UT Vo=>⟨h5,UT,Vo,rfl⟩) (om _ _)) ?_ (fun _ _ z=>z);rintro _ s2 ⟨⟨h5,UT,Vo,rfl⟩,dk5⟩;have I5:Inv X pins σ Hj { s' with heap:=h5 }:=zV I' J1 vO Ny hex hB UT.1 (Vp.trans Vo) _;refine wpAny_handleBy_cons (codeAny_handlers_test ?_) (by intro z; cases z);refine mx (X:=marked X (.ref a)) (DR I5) hgD hmD ?_ RG;obtain⟨bm,N,nm,qn,bs,md,sn,sub,ab,col,dd,k0,k1,k2,k3,k5,hC,T⟩:=HA I5.qg qC;obtain⟨VW,N',YV,qn',Qg,P8,YG,Tb,Ka,U4,RZ,Y7,Sq,VC,Y6,Y5,hD,T'⟩:=HA I5.qg qD;obtain⟨oe,XY,hce⟩:=UT.there;refine Jb hC hD XY hce (T'.hasType bD) ?_;rw [N7 I5.qg hC Jn];refine codeAny_handlers_suite_as ?_;refine eA (x3 (lands_againW (Q:=fun _ s2=>∃ h6,fY B (X.env :: X.outer) a (.ref C') (.ref t0) h6/\h5.UpToSlots h6/\s2={ s' with heap:=h6 }) UT fun h6 VT Wd=>⟨h6,VT,Wd,rfl⟩) (om _ _)) ?_ (fun _ _ z=>z);rintro _ s2 ⟨⟨h6,VT,Wd,rfl⟩,dk6⟩;have I6:Inv X pins σ Hj { s' with heap:=h6 }:=zV I' J1 vO Ny hex hB VT.1 ((Vp.trans Vo).trans Wd) _;obtain⟨Lz,vs6,VM,Zx,hd6,_⟩:=VT.first
 obtain⟨oe4,Zs,_⟩:=held.there;have UE:Lz.dict=o0.dict:=(dk6.at XY VM).trans ((dk5.at Zs XY).trans (dk4.at P7 Zs));have nl:a≠X.env.locals:=fun z=>by
  obtain⟨m,⟨oL,_,_,VH,_⟩,_⟩:=J1.loc;rw [z,VH] at Fy; cases Fy
 have nc:∀ y c,X.env.cells.lookup y=some c->c≠a:=fun y c ec z=>by
  obtain⟨v,o,ho,_⟩:=J1.cell y c ec;rw [z,Fy] at ho; cases ho
 have npn:∀ q∈X.pn++pins,q.1≠a:=fun q hq z=>by
  have:=(J1.pin q hq).1;rw [z,Fy] at this; cases this
 have hn:X.gS.heap.get? a=none:=by
  cases q0:X.gS.heap.get? a with
  | none=>rfl
  | some o=>obtain⟨o1,e1⟩:=J1.base.there a o q0 (by rw [hex]; exact ef); rw [e1] at Fy; cases Fy
 have I7:=JK (u:=.hZ Lz (.ext fun h=>h.get? a=some Lz)) I6 SA hn nl nc npn ⟨VM,VM,⟨_,VM⟩,fun h1 h2 q k=>k _ q⟩;have VA:Mv X.K Hj G1 (upd Hj a (.hZ Lz (.ext fun h=>h.get? a=some Lz))) G1:=.NA mv.ab SA;have kp7:Kp H1 (upd Hj a (.hZ Lz (.ext fun h=>h.get? a=some Lz))):=(mv.trans VA).kp ab1;have Oi:cb X.K (upd Hj a (.hZ Lz (.ext fun h=>h.get? a=some Lz))) (.ref a) dv:=by
  rcases hdv with rfl | ⟨lX,rfl⟩
  ·exact .exc ⟨Lz,C',cj,Zx,Bm⟩
  ·rcases hfo with z | ⟨dx,od,fs,e1,e2,e3,e4⟩
   ·exact absurd z lX
   ·have kT:=VA.kp mv.ab;exact .uj ⟨Lz,C',dx,od,fs,cj,Zx,Bm,UE.trans e1,kT.hZ _ _ _ e2,by unfold Cd; rw [hd6],e3,rfl⟩ (e4.mono kT)
 refine uA (v:=.ref a) I7 hN hi (.inl hl) rfl (fun s8 I8 _=>?_) (.inr hl);refine eA (Xn (.ref a) (fun _ _=>False) pins s8 _ _ (τ.set i (some dv)) G1 _ (Lk.none fun _ _ z=>z)
  ⟨DR I8,(st1.mono kp7).set i Oi,VA.ab⟩ q') (fun fw s9 q9=>?_) (fun _ _ z=>z.elim)
 cases fw with
 | next =>
  obtain⟨SQ,H9,Sg,G9,I9,m9,q9⟩:=q9;exact Qq (Gs J1.ok I9.inv) hN hi hl fun s10 Yw=>⟨SQ.set i none,H9,Sg.set i none,G9,⟨Yw,JO I9.st i,I9.ab⟩,m1.trans (mv.trans (VA.trans m9)),q9⟩
 | brk=>obtain⟨_,_,_,_,_,_,z⟩:=q9; exact z.elim
 | cont=>obtain⟨_,_,_,_,_,_,z⟩:=q9; exact z.elim
 | ret u=>obtain⟨_,_,_,_,_,_,_,_,_,z⟩:=q9; exact z.elim
theorem uG(F:gi X.prog X.w X.K X.mg X.base (yb X.prog X.w) k f fd ps (oU X.K X.mg sp))(hr:iC k X.A)(hg:Gl X x)(hm:X.mg x=some (.ref f))(hk:gv X.K (.ref f)=true)(hb:Binds X.K fd ps [])
  (ha:BR X (e :: es) t) (yC:autoParam ((x == ("__debug__" : Str))=false) Ad._auto_1) (he:autoParam (a9 (e :: es) X.env=(false,eval e X.env) :: a9 es X.env) Ar._auto_1) (vn:autoParam ((gP pos (a9 es X.env)).any (·.1)=false) Ar._auto_1) :
  gm X (.Call (.Name x p) (e :: es) [] pos) (xV sp t):=by
 intro E pins s σ H τ G Q hE I h;refine du (mx I.inv hg hm ?_ yC);refine nG (h₀:=X.base) I.inv.ok.mod.Ji hk (wK ha pos hE I h fun vs H1 ds G1 us s1 I1 m1 r rd q=>⟨I1.inv.qg,?_⟩) he vn;refine fy (K6 (E:=Ye X.K X.mg E) F hr hb .nil (fun pins σ H s e s' I hq=>hE.pass pins σ H s s' e I hq) I1.inv r (Q:=x6 X.K H1 G1 Q) ?_) fun _ _ z=>(nF.of z).trans m1;rw [bL];exact⟨ds,G1,Q,E,rd,I1.ab,q,fun d G' v H' q' m' J2=>⟨d,G',m',J2,q'⟩,fun ex C H' G' o q' Ka Rz hf=>⟨ex,C,G',rfl,Rz,Ka,q',hf⟩⟩
end
end K2
end
section
namespace K2
open PySem PySem.Spec PyProof.Rows L2 PySem.W PySem.Calls PySem.Builtin PySem.Builtin.Getset_descriptor
section
variable {prog:bo} {w:World} {A:cx} {E:Value->ak->Prop} {s:ak} {K:ag} {a C:Addr} {ox:Obj}
theorem Pf {Q:Option Value->ak->Prop} {B:String} {kK:List Value} (FB:ux B kK) (X:K.In s.heap) (hx:s.heap.get? a=some ox) (hc:ox.cls=.ref C) (P6:yV K (.ref C) "__getattribute__" = some (some (.builtin "BaseException.__getattribute__"))) (XM:yV K (.ref C) "__getattr__" = some none)
  (hA:yV K (.ref C) "__class__" = some (some (.builtin "object.__class__"))) (hG:specialIn K (.builtin "object.__class__") "__get__" = some (some (.builtin "getset_descriptor.__get__"))) (hT:takesIn K (.builtin "object.__class__")=some true) (hm:mroIn K C (.type "object")=some true) (XE:mroIn K C (.type "BaseException")=some true)
  (h:Q (some (.ref C)) { s with toks:=s.toks+1 }):wpAny (model prog w) A (getAttr? (.ref a) "__class__") Q E s:=by
 obtain⟨hh,g,d,t,os⟩:=s;have L0:Looks (model prog w) hh (typeOf (.ref a)) (.ref C):=hc ▸ (Looks.ld hx).andThen .now;have L1:=looks_findIn (M:=model prog w) X P6;have L2:=looks_findIn (M:=model prog w) X XM;have L5:=looks_mroIn (M:=model prog w) X hm;have L3:Looks (model prog w) hh (Builtin.ObjectAttr.find (.ref a) (.ref C) "__class__") (.bind (.builtin "getset_descriptor.__get__") (.builtin "object.__class__")):=by
  refine(looks_findIn X hA).andThen ((looks_specialIn X hG:Looks (model prog w) hh (Builtin.ObjectAttr.getOf (some (.builtin "object.__class__"))) _).andThen ?_);refine((looks_takesIn X hT).andThen .now:Looks (model prog w) hh (Builtin.ObjectAttr.dataDescriptor? (some (.builtin "object.__class__")) (some (.builtin "getset_descriptor.__get__"))) (some (.builtin "getset_descriptor.__get__",.builtin "object.__class__"))).andThen ?_;exact Looks.tag .now
 have L4:=looks_mroIn (M:=model prog w) X XE;have Xg:(qT "BaseException.__getattribute__" == qT "object.__getattribute__")=false:=by decide +kernel
 unfold getAttr? getAttrBy? getAttrBy;refine ae (wpAny_mkText (ae (lC (cE (ae (L0.at (ae (L1.at ?_))))))));dsimp only;rw [if_neg (by rw [Xg]; simp)];unfold getAttrByItsOwn hookBefore callGetattribute;have f3:=FB.ga.bind (.ref a);have fin:mF (model prog w) A (.call (.builtin "BaseException.__getattribute__") ⟨[.ref a,.str "__class__" t],[]⟩) (fun r s'=>r=.ok (.ret (.ref C))/\s'=⟨hh,g,d,t+1,os⟩) ⟨hh,g,d,t+1,os⟩:=by
  refine h8 FB.ga.plain F.entry_bexc_ga ?_;have hk:builtinKind "BaseException.__getattribute__" = some .slot:=by decide +kernel
  have Fx:splitId "BaseException.__getattribute__" = some ("BaseException","__getattribute__"):=by decide +kernel
  have ha:=F.args_bexc_ga (.ref a) (.str "__class__" t);have LI:Looks (model prog w) hh (Eh (.ref a) (.type "BaseException")) true:=L0.andThen L4;simp only [Ib,hk,Fx];refine ae (LI.at ?_);simp only [aX,au,if_false];have body:wpAny (model prog w) A.in1 (Builtin.«object.__getattribute__» ⟨[.ref a,.str "__class__" t],[]⟩)
    (fun fin s'=>fin=.done (.ret (.ref C))/\s'=⟨hh,g,d,t+1,os⟩) (fun _ _=>False) ⟨hh,g,d,t+1,os⟩:=by
   unfold Builtin.«object.__getattribute__»;refine ae (aq ?_);refine ae (aq ?_);refine ae (L0.at (ae (L3.at ?_)));show wpAny _ _ (Builtin.ObjectAttr.bindTo (.builtin "getset_descriptor.__get__") (.builtin "object.__class__") (.ref a) (.ref C)) _ _ _;show wpAny _ _ (do let v ← Ej [.builtin "object.__class__"] (call (.builtin "getset_descriptor.__get__") [.builtin "object.__class__",.ref a,.ref C]); ret v) _ _ _;refine ae (cE (mD ?_));refine h8 KF.slot_gs.plain KF.entry_gs (KF.slot_gs.check _ _ _ _ _ _ _ _ KF.type_class (KF.args_gs _ _ _) ?_);unfold Builtin.«getset_descriptor.__get__» descrGet;rw [dga_obj];refine ae (aq ?_);unfold descrGetter descrCheckInstance descrNameAndClass Eh;simp only [KF.owner_class]
   repeat lk
   refine⟨o7 _ (by decide +kernel),fE KF.entry_class ?_⟩;unfold Builtin.«object.__class__» shownTypeOf
   repeat lk
   exact⟨rfl,rfl⟩
  have go:∀ z:Sem Unit,z=pure ()->∀ (P:Unit->ak->Prop) (E':Value->ak->Prop) s',P () s'->wpAny (model prog w) A.in1 z P E' s':=fun z e P E' s' hp=>by rw [e]; exact aq hp
  refine go _ ha _ _ _ (eA body ?_ (fun _ _ z=>z.elim));rintro fin s' ⟨e1,e2⟩;subst e1; exact⟨rfl,e2⟩
 refine ae (L2.at (ae (lC (cE ?_))));simp only [vH,au,if_false];unfold boundAndCalled;rw [f3];refine ae (aq (mD (jl fin ?_)));rintro r s' ⟨e1,e2⟩;subst e1; subst e2;exact aq (aq h)
structure o4(K:ag)(C:Addr):Prop where
 ga:yV K (.ref C) "__getattribute__" = some (some (.builtin "BaseException.__getattribute__"))
 gn:yV K (.ref C) "__getattr__" = some none
 Qh:yV K (.ref C) "__class__" = some (some (.builtin "object.__class__"))
 sp:specialIn K (.builtin "object.__class__") "__get__" = some (some (.builtin "getset_descriptor.__get__"))
 tk:takesIn K (.builtin "object.__class__")=some true
 mo:mroIn K C (.type "object")=some true
 mb:mroIn K C (.type "BaseException")=some true
 is:(clsIn K C).isSome=true
theorem tG{B:String}{kK:List Value}(FB:ux B kK)(Z:o4 K C):KitX K (.ref a) (.ref C) (fun h=>∃ o,h.get? a=some o/\o.cls=.ref C) where
 ty:=by rintro M h _ ⟨o,hx,hc⟩; exact hc ▸ (Looks.ld hx).andThen .now
 it:=fun M h X _=>by
  have Mn:=Z.is;unfold clsIn at Mn;split at Mn
  ·rename_i ho;intro A' Q' E' s' k q;unfold isType loadHead;exact ae (NK (k _ _ (X _ _ ho)) (aq q))
  ·cases Mn
 ne:=fun h tp dd a7 n sl X htp=>by
  have Mn:=Z.is;refine Bool.eq_false_iff.mpr fun q=>?_;have e:C=tp:=Value.ref.inj (beq_iff_eq.mp q);subst e;unfold clsIn at Mn;split at Mn
  ·rename_i ho;have z:=(X _ _ ho).symm.trans htp;cases z
  ·cases Mn
 ca:=fun X ⟨o,hx,hc⟩ k=>Pf FB X hx hc Z.ga Z.gn Z.Qh Z.sp Z.tk Z.mo Z.mb k
end
end K2
end
section
namespace K2
open PySem PySem.Spec PyProof.Rows L2
theorem la{P:Str->Prop}:∀ c,([]:List Str).contains c=true->P c:=fun c h=>by simp at h
theorem jC{l:List Str}{P:Str->Prop}{x:Str}(h:P x)(t:∀ c,l.contains c=true->P c):∀ c,(x :: l).contains c=true->P c:=fun c hc=>by
 rw [yh,nI] at hc;rcases hc with hc | hc
 ·rw [beq_iff_eq.mp hc]; exact h
 ·exact t c hc
section
variable {X:Cx} {a:Expr} {ta:fx} {p pos:Pos} {B:String} {kK:List Value} {all sub:List Str}
theorem w6 {y:Str} {py:Pos} {C:Addr} (FB:ux B kK) (hg:Gl X "isinstance") (hm:X.mg "isinstance" = none) (Ux:Gl X y) (Uq:X.mg y=some (.ref C)) (XA:cf X.K (.type "NoneType") (.ref C)=some false)
  (Ml:∀ c,all.contains c=true->∃ C',bc X.K aO c=some (some (.ref C'))/\cf X.K (.ref C') (.ref C)=some (sub.contains c)/\o4 X.K C') (ha:gm X a ta) (yC:autoParam ((y == ("__debug__" : Str))=false) Ad._auto_1)
  (he:autoParam (a9 [a,.Name y py] X.env=(false,eval a X.env) :: a9 [.Name y py] X.env) Ar._auto_1) (vn:autoParam ((gP pos (a9 [Expr.Name y py] X.env)).any (·.1)=false) Ar._auto_1) (RF:autoParam (a9 [.Name y py] X.env=[(false,eval (.Name y py) X.env)]) Ar._auto_1) :
  gm X (.Call (.Name "isinstance" p) [a,.Name y py] [] pos) (DA all sub ta):=by
 intro E pins s σ H τ G Q hE I h;refine du (lM I.inv hg hm kM ?_);refine dF ?_ he vn;rw [he];show wpAny _ _ (rG ((false,eval a X.env) :: gP pos (a9 [.Name y py] X.env))) _ _ s;refine dS (jn ha hE I h fun v H1 d G1 u s1 I1 m1 r1 jR q1=>?_);rw [RF];show wpAny _ _ (rG [(false,eval (.Name y py) X.env)]) _ _ s1;refine dS (mx I1.inv Ux Uq (kW ?_) yC);have fin:∀ b tk,Q (.bl b) G1->nF X pins σ H G Q (.bool b) { s1 with toks:=tk }:=fun b tk q =>
  ⟨.bl b,H1,.bl b,G1,I1.inv.tok _,m1,rfl,.bl b,q⟩
 cases jR with
 | cy =>
  cases r1;exact dU NO I1.inv.qg a8 XA (fun z=>nomatch z) fun tk=>fin false tk q1
 | exc h0 =>
  cases r1;obtain⟨o,C',e1,e2,e3⟩:=h0;obtain⟨ql,q2⟩:=q1;obtain⟨C2,e4,k1,k2⟩:=Ml _ ql;rw [e3] at e4;cases e4;exact dU (tG FB k2) I1.inv.qg ⟨o,(I1.inv.ck _ _ e1).1,e2⟩ k1 (fun z=>nomatch z) fun tk=>fin _ tk q2
 | uj h0 _ =>
  cases r1;obtain⟨o,C',_,_,_,e1,e2,e3,_⟩:=h0;obtain⟨ql,q2⟩:=q1;obtain⟨C2,e4,k1,k2⟩:=Ml _ ql;rw [e3] at e4;cases e4;exact dU (tG FB k2) I1.inv.qg ⟨o,(I1.inv.ck _ _ e1).1,e2⟩ k1 (fun z=>nomatch z) fun tk=>fin _ tk q2
 | _=>exact q1.elim
end
section
variable {X:Cx} {a:Expr} {ta:fx} {p pos:Pos} {B:String} {kK:List Value} {all:List Str}
theorem vU:dj "ValueError" = some (.type "ValueError"):=by first | rfl | decide +kernel
theorem Ls {py:Pos} (FB:ux B kK) (hg:Gl X "isinstance") (hm:X.mg "isinstance" = none) (Ux:Gl X "ValueError") (Uq:X.mg "ValueError" = none)
  (Ml:∀ c,all.contains c=true->∃ C',bc X.K aO c=some (some (.ref C'))/\cf X.K (.ref C') (.type "ValueError")=some true/\o4 X.K C') (ha:gm X a ta)
  (he:autoParam (a9 [a,.Name "ValueError" py] X.env=(false,eval a X.env) :: a9 [.Name "ValueError" py] X.env) Ar._auto_1) (vn:autoParam ((gP pos (a9 [Expr.Name "ValueError" py] X.env)).any (·.1)=false) Ar._auto_1) (RF:autoParam (a9 [.Name "ValueError" py] X.env=[(false,eval (.Name "ValueError" py) X.env)]) Ar._auto_1) :
  gm X (.Call (.Name "isinstance" p) [a,.Name "ValueError" py] [] pos) (MY all ta):=by
 intro E pins s σ H τ G Q hE I h;refine du (lM I.inv hg hm kM (dF ?_ he vn));rw [he];show wpAny _ _ (rG ((false,eval a X.env) :: gP pos (a9 [.Name "ValueError" py] X.env))) _ _ s;refine dS (jn ha hE I h fun v H1 d G1 u s1 I1 m1 r1 jR q1=>?_);rw [RF];show wpAny _ _ (rG [(false,eval (.Name "ValueError" py) X.env)]) _ _ s1;refine dS (lM I1.inv Ux Uq vU (kW ?_));have fin:∀ b tk,Q (.bl b) G1->nF X pins σ H G Q (.bool b) { s1 with toks:=tk }:=fun b tk q =>
  ⟨.bl b,H1,.bl b,G1,I1.inv.tok _,m1,rfl,.bl b,q⟩
 cases jR with
 | exc h0 =>
  cases r1;obtain⟨o,C',e1,e2,e3⟩:=h0;obtain⟨ql,q2⟩:=q1;obtain⟨C2,e4,k1,k2⟩:=Ml _ ql;rw [e3] at e4;cases e4;exact dU (tG FB k2) I1.inv.qg ⟨o,(I1.inv.ck _ _ e1).1,e2⟩ k1 (fun z=>nomatch z) fun tk=>fin _ tk q2
 | uj h0 _ =>
  cases r1;obtain⟨o,C',_,_,_,e1,e2,e3,_⟩:=h0;obtain⟨ql,q2⟩:=q1;obtain⟨C2,e4,k1,k2⟩:=Ml _ ql;rw [e3] at e4;cases e4;exact dU (tG FB k2) I1.inv.qg ⟨o,(I1.inv.ck _ _ e1).1,e2⟩ k1 (fun z=>nomatch z) fun tk=>fin _ tk q2
 | _=>exact q1.elim
end
section
variable {X:Cx} {e:Expr} {te:fx} {pos:Pos}
theorem sV{i:Nat}{x:Str}{pos':Pos}(hN:X.N.Nodup)(hi:X.N[i]?=some x)(he:gm X e te)(hx:autoParam (Loc X.env.scope x) Ao._auto_1)(hs:autoParam (pF e (some (.Name x pos')) pos.line X.env=pure false) Ar._auto_1)(hf:autoParam (X.fn x=true\/X.env.scope.names.lookup x=some .local) Ao._auto_1) :
  B8 X (.Assign [.Name x pos'] e pos) (cW te (bb i)):=Oz hN hi hx he hs hf
theorem zo{i:Nat}{x:Str}(hN:X.N.Nodup)(hi:X.N[i]?=some x)(hx:autoParam (Loc X.env.scope x) Ao._auto_1)(hf:autoParam (X.fn x=true\/X.env.scope.names.lookup x=some .local) Ao._auto_1):Kb X (.Name x pos) (bb i):=Lp hN hi hx hf
theorem Dh{P:bo}{w:World}{K:ag}{mg:Str->Option Value}{base:Heap}{x qual:Str}{st:Stmt}{f:Addr}{fd:aL}{Nn ps:List Str}{k:Nat}{sp:pD}{rd:i6}(F:rE K x qual st f fd)(S:cQ Nn ps (a5 st))
  (hr:∀ ds G Q,sp ds G Q (fun _ _=>False)->rd (fun _ _=>False) (ends Q) (bP Nn.length ds) G)
  (hb:∀ (jJ:Value) (A:cx) (outer:List Env) (s:ak) (H:Hp) (E:XK),iC k (A.deeper (sr qual (a5 st) s.heap.objs.size f jJ))->rj (nB kr P w K mg base Nn qual (a5 st) f jJ A outer s H E).Q4 (fU st) rd)
  (len:autoParam (∀ ds G Q E,sp ds G Q E->ds.length=ps.length) Al._auto_1):gi P w K mg base kr (k+1) f fd ps (gf K sp):=O9 F S len hr hb
theorem Yb{P:bo}{w:World}{K:ag}{mg:Str->Option Value}{base:Heap}{x qual:Str}{st:Stmt}{f:Addr}{fd:aL}{Nn ps:List Str}{k:Nat}{sp:pD}{rd:i6}(F:rE K x qual st f fd)(S:cQ Nn ps (a5 st))
  (hr:∀ ds G Q E,sp ds G Q E->rd E (ends Q) (bP Nn.length ds) G)
  (hb:∀ (jJ:Value) (A:cx) (outer:List Env) (s:ak) (H:Hp) (E:XK),iC k (A.deeper (sr qual (a5 st) s.heap.objs.size f jJ))->rj (nB (yb P w) P w K mg base Nn qual (a5 st) f jJ A outer s H E) (fU st) rd)
  (len:autoParam (∀ ds G Q E,sp ds G Q E->ds.length=ps.length) Al._auto_1):gi P w K mg base (yb P w) (k+1) f fd ps (oU K mg sp):=O8 F S len hr hb
theorem yx{N ps:List Str}{sc:Scope}(h1:autoParam (sc.kind=.function) Ar._auto_1)(h2:autoParam (sc.isCoroutine=false) Ar._auto_1)(h3:autoParam (sc.isGenerator=false) Ar._auto_1)(h4:autoParam N.Nodup Ak._auto_1)(h5:autoParam (N.take ps.length=ps) Ar._auto_1)
  (h6:autoParam (∀ x∈ps,sc.names.lookup x=some .local\/sc.names.lookup x=some .cell) Ak._auto_1) (h7:autoParam (∀ y∈sc.names,y.2≠.free) Ak._auto_1):cQ N ps sc:=⟨h1,h2,h3,h4,h5,h6,h7⟩
end
section
variable {X:Cx} {a b c:Expr} {ta tb tc:fx} {pos:Pos}
theorem A1 {x:Str} {i:Int} {t:Tok} {p:Pos} (hg:Gl X x) (hm:X.mg x=some (.int i t)) (hd:autoParam ((x == ("__debug__" : Str))=false) Ad._auto_1):gm X (.Name x p) (dC (.int i)):=ng (OD (v:=.int i) hg hm ⟨t,rfl⟩ hd) fun _ _=>.int i
theorem uF{op Wz:CmpOp}{r r':yn}(ho:mf X (dA op) r)(Jp:mf X (dA Wz) r')(ha:gm X a ta)(hb:gm X b tb)(hc:gm X c tc)
  (hm:autoParam (lastMarks [op,Wz] [b,c]=false) Aw._auto_1):B7 X (.Compare a [op,Wz] [b,c] pos) (oF r r' ta tb tc):=by
 intro E pins s σ H τ G Q hE I h;refine isTrue_chain (jn ha hE I h fun x H1 dx G1 v s1 I1 m1 r1 jR q1=>test_link (jn hb hE I1 q1 fun y H2 dy G2 u s2 iN m2 r2 AS q2=>?_)) hm;refine fy (ho pins s2 σ H2 G2 x y dx dy v u _ iN.inv iN.ab r1 r2 (jR.mono (m2.kp I1.ab)) AS q2) fun d s3 z=>?_;obtain⟨z,H3,dz,G3,I3,m3,r3,To,k,e,q3⟩:=z;subst e;cases To;cases r3;have T4:=(m1.trans m2).trans m3;refine ig ?_;cases k with
 | false=>exact ite_ff ⟨H3,G3,I3,T4,q3⟩
 | true =>
  have J3:I2 X pins σ H3 τ G3 s3:=iN.mv I3 m3;refine ite_tt (test_last (jn hc hE J3 q3 fun w' H4 dw G4 u4 s4 I4 m4 r4 rd4 q4=>?_));refine fy (Jp pins s4 σ H4 G4 y w' dy dw u u4 _ I4.inv I4.ab r2 r4 ((AS.mono (m3.kp iN.ab)).mono (m4.kp J3.ab)) rd4 q4) fun d' s5 z=>?_;obtain⟨z2,H5,dz2,G5,I5,m5,r5,Wt,k2,e2,q5⟩:=z;subst e2;cases Wt;cases r5;exact ig ⟨H5,G5,I5,(T4.trans m4).trans m5,q5⟩
end
theorem tE{α:Type}{us:List α}(h:us.length=1):∃ a,us=[a]:=List.length_eq_one_iff.mp h
theorem T7{α:Type}{us:List α}{n:Nat}(h:us.length=n+1):∃ a t,us=a :: t/\t.length=n:=by
 cases us with
 | nil=>cases h
 | cons a t=>exact⟨a,t,rfl,Nat.succ.inj h⟩
theorem Fq{α:Type}{us:List α}(h:us.length=2):∃ a b,us=[a,b]:=by
 obtain⟨a,t,rfl,h2⟩:=T7 h; obtain⟨b,rfl⟩:=tE h2; exact⟨a,b,rfl⟩
theorem W2{α:Type}{us:List α}(h:us.length=3):∃ a b c,us=[a,b,c]:=by
 obtain⟨a,t,rfl,h2⟩:=T7 h; obtain⟨b,c,rfl⟩:=Fq h2; exact⟨a,b,c,rfl⟩
end K2
end
section
namespace K2.S
open PySem PySem.Spec PyProof.Rows L2 PySem.SetTable
section
variable {prog:bo} {w:World} {A:cx} {E:Value->ak->Prop} {s:ak}
theorem KC{a:Addr}{o:Obj}{es:En}{ep:Nat}{t:gQ}{Q:(En×Nat×gQ)->ak->Prop}(ho:s.heap.get? a=some o)(hd:o.data=.set es ep t)(O:NH t es)(h:Q (es,ep,t) s) :
  wpAny (model prog w) A (setState a) Q E s :=
 mC ho hd (by unfold SetTable.fits DV; rw [O.sz,O.dm]; have:=O.rZ; have:=O.sz; simp; lia) h
end
end K2.S
end
section
namespace K2.S
open PySem PySem.Spec PyProof.Rows L2 PySem.SetTable
section
variable {B:Addr->Prop} {prog:bo} {w:World} {A:cx} {E:Value->ak->Prop} {s:ak}
theorem KQ{m n:Nat}(hm:Mk m)(h1:¬ n * 5>=m * 3)(h2:(n+1) * 5>=m * 3)(h3:n < 76):Mk (sizeAbove (grown (n+1)) - 1)/\n+1<=sizeAbove (grown (n+1)) - 1/\¬ (n+1) * 5>=(sizeAbove (grown (n+1)) - 1) * 3/\sizeAbove (grown (n+1))<=128:=by
 rcases hm with rfl | rfl | rfl
 ·have:n=4:=by lia
  subst this;exact⟨.inr (.inl (by decide)),by decide,by decide,by decide⟩
 ·have:n=18:=by lia
  subst this;exact⟨.inr (.inr (by decide)),by decide,by decide,by decide⟩
 ·lia
end
end K2.S
end
section
namespace K2.S
open PySem PySem.Spec PyProof.Rows L2 PySem.SetTable
section
variable {B:Addr->Prop} {prog:bo} {w:World} {A:cx} {E:Value->ak->Prop} {s:ak}
theorem K5{m i:Nat}(h:i < m+1):i+(runEnd m i - i)<=m:=by
 unfold runEnd; split <;> lia
theorem Tc{m:Nat}{p:Probe}(h:p.j+p.more<=m):(D8 m p).j+(D8 m p).more<=m:=by
 unfold D8;by_cases c:p.more > 0
 ·rw [if_pos c]; dsimp only; lia
 ·rw [if_neg c]; exact K5 (nH _ (j0 m))
theorem KR{m:Nat}:∀ (n:Nat) {p:Probe},p.j+p.more<=m->(fG m n p).j+(fG m n p).more<=m
 | 0,_,h=>h
 | n+1,_,h=>KR n (Tc h)
theorem GX{h:Heap}{a:Addr}{o:Obj}{es:En}{ep:Nat}{t:gQ}(ho:h.get? a=some o)(hd:o.data=.set es ep t)(es':En)(t':gQ) :
  (h.update a (Obj.putSet es' t')).get? a=some { o with data:=.set es' (ep+1) t' }:=by
 have:=dE (Obj.putSet es' t') ho (by rw [putSet_of es' t' hd]; rfl);rw [putSet_of es' t' hd] at this; exact this
theorem Bq(t:gQ)(dm:t.dummies=#[]):t.tooFull=decide (t.place.size * 5>=t.mask * 3):=by
 unfold SetTable.tooFull DV; rw [dm]; rfl
end
end K2.S
end
section
namespace K2.S
open PySem PySem.Spec PyProof.Rows L2 PySem.SetTable
section
variable {B:Addr->Prop} {prog:bo} {w:World} {A:cx} {E:Value->ak->Prop} {s:ak}
noncomputable def Gi (w:World):Bool:=w.params.followText "set-order"
noncomputable def wR (w:World):Obj:={ cls:=.type "set",dict:=none,data:=.set #[] 0 (.fresh 0 0 (!Gi w)) }
theorem Td (x:Value) {Q:Value->ak->Prop} (h:Q (.ref s.heap.objs.size) { s with heap:=s.heap.push (wR w) }):mF (model prog w) A (.call (.builtin "set.__new__") ⟨[.type "set",x],[]⟩) (wants Q E) s:=by
 refine Kk (show wpAny _ A.in1 (do Ib "set.__new__" ⟨[.type "set",x],[]⟩; again (.builtin "set.__new__" ⟨[.type "set",x],[]⟩)) _ _ s from ?_);refine ae (Ke (F.newCall_set_1 x) (aq ⟨jG F.plain_set_new _,fE F.entry_set_new ?_⟩));rw [eM F.plain_set_new _];unfold Builtin.«set.__new__» Builtin.Frozenset.newClass;have Jn:=sub_set_self;obtain⟨hp,g,d,tk,os⟩:=s;dsimp only at h ⊢
 wp_walk
 refine Ia (aq ?_);dsimp only;simp only [newObj];refine ae (wpAny_alloc (aq (aq h)))
variable {R:Result->ak->Prop} {I:Addr} {fp wr:List Addr} {G:Array yj->Array yj->Prop} {n:Nat} {P:Nat->Value->Prop} {St:Nat->ak->Prop}
end
end K2.S
end
section
namespace K2.S
open PySem PySem.Spec PyProof.Rows L2 PySem.SetTable
section
variable {prog:bo} {w:World} {A:cx} {E:Value->ak->Prop} {s:ak}
noncomputable abbrev IK(prog:bo)(w:World):=intKind prog w
noncomputable def Nk(prog:bo)(w:World)(es:En)(ks:List Int):Prop :=
 ks.length=es.size/\∀ (i:Nat) (e:Int×Value),es[i]?=some e->∃ (k:Int) (t:Tok),ks[i]?=some k/\e.2=.int k t/\e.1=(IK prog w).hash k
theorem Nk.elems{es:En}{ks:List Int}(M:Nk prog w es ks):ElemsOf (IK prog w) es.toList:=fun e he=>by
 obtain⟨i,hi,ei⟩:=eB he;obtain⟨k,t,_,q2,q3⟩:=M.2 i e (by rw [<-cg,ai hi,ei]);exact⟨⟨k,by rw [q2]; exact Ei _ _ _ _,q3⟩,by rw [q2]; rfl⟩
theorem Nk.ins{es:En}{ks:List Int}(M:Nk prog w es ks){k:Int}{t:Tok}{p:Nat}(hp:p<=es.size) :
  Nk prog w (insertAt es p ((IK prog w).hash k,.int k t)) (ks.take p++k :: ks.drop p):=by
 have lk:(ks.take p).length=p:=by rw [dG,M.1]; lia
 refine⟨by rw [aB,ah,lk,cK,kg _ _ _ hp,M.1]; lia,fun i e he=>?_⟩;rw [tJ _ _ _ hp] at he;by_cases c:i < p
 ·rw [if_pos c] at he;obtain⟨k',b',q⟩:=M.2 i e he;exact⟨k',b',by rw [cq (by lia),qz c]; exact q.1,q.2⟩
 ·rw [if_neg c] at he;by_cases d:i=p
  ·rw [if_pos d] at he;cases he;exact⟨k,t,by rw [bK (by lia),lk,d,pz]; rfl,rfl,rfl⟩
  ·rw [if_neg d] at he;obtain⟨k',b',q⟩:=M.2 (i - 1) e he;exact⟨k',b',by rw [bK (by lia),lk,show i - p=(i - p - 1)+1 by lia,af,List.getElem?_drop,show p+(i - p - 1)=i - 1 by lia]; exact q.1,q.2⟩
noncomputable def intOf:Value->Int
 | .int k _=>k
 | _=>0
theorem Nk.eq{es:En}{ks:List Int}(M:Nk prog w es ks):ks=es.toList.map fun e=>intOf e.2:=by
 refine List.ext_getElem? fun i=>?_;rw [bO];by_cases hi:i < es.size
 ·obtain⟨k,b,q1,q2,q3⟩:=M.2 i _ (bC hi);rw [q1,cg,bC hi,BZ,q2]; rfl
 ·rw [iU (by rw [M.1]; lia),cg,fZ (by lia)]; rfl
theorem Nk.perm{es es':En}{ks:List Int}(M:Nk prog w es ks)(p:List.Perm es'.toList es.toList):∃ Fs,Nk prog w es' Fs/\Fs.Perm ks:=by
 refine⟨es'.toList.map fun e=>intOf e.2,⟨by rw [aj,bG],fun i e he=>?_⟩,by rw [M.eq]; exact p.map _⟩;have hm:e∈es'.toList:=cz (by rw [cg]; exact he);obtain⟨j,hj,ej⟩:=eB (p.mem_iff.mp hm);obtain⟨k,t,_,q2,q3⟩:=M.2 j e (by rw [<-cg,ai hj,ej]);exact⟨k,t,by rw [bO,cg,he,BZ,q2]; rfl,q2,q3⟩
noncomputable def NF(prog:bo)(w:World)(h:Heap)(a:Addr)(led:Bool)(ks:List Int):Prop :=
 ∃ o es ep t,h.get? a=some o/\o.ExactSet/\o.data=.set es ep t/\NH t es/\t.tooFull=false/\t.led=led/\t.plain=true/\Nk prog w es ks
theorem NF.keeps{h h':Heap}{a:Addr}{led:Bool}{ks:List Int}(x:NF prog w h a led ks)(k:∀ o,h.get? a=some o->h'.get? a=some o):NF prog w h' a led ks :=
 let ⟨o,es,ep,t,e,r⟩:=x; ⟨o,es,ep,t,k o e,r⟩
theorem v5{t:gQ}{es:En}(O:NH t es):t.fits es.size=true:=by
 unfold SetTable.fits DV; rw [O.sz,O.dm]; have:=O.rZ; have:=O.sz; simp; lia
theorem Jv{t:gQ}{es:En}(O:NH t es)(h:Int){N:Nat}(hN:N < 10 * turns t.mask)(h1:¬ Full t.place (fG t.mask N (probeStart t h)).j)(h2:∀ n,n < N->Full t.place (fG t.mask n (probeStart t h)).j) :
  t.freeSlot h=some ((fG t.mask N (probeStart t h)).j,false):=by
 obtain⟨n,met,g,ba,fin⟩:=CJ O.up O.dm (fun _=>h+1) h (10 * turns t.mask) _ (Pb.start t h) ⟨N,hN,h1⟩;rcases fin with ⟨nf,rfl⟩ | ⟨k,_,_,e,_⟩
 ·have:n=N:=by
   rcases Nat.lt_trichotomy n N with c | c | c
   ·exact absurd (h2 n c) nf
   ·exact c
   ·obtain⟨k,hk,e,_⟩:=ba N c;exact absurd ⟨k,hk,e⟩ h1
  subst this;unfold SetTable.freeSlot SetTable.probe;rw [g]; rfl
 ·lia
theorem NX{a:Addr}{led:Bool}{ks:List Int}{k:Int}{tk:Tok}(hS:NF prog w s.heap a led ks)(rZ:ks.length < 76){Q:Bool->ak->Prop}
  (h:∀ h' Fs r,(k∈ks->Fs=ks)->(k∉ks->Fs.Perm (k :: ks))->lV a s.heap h'->NF prog w h' a led Fs->Q r { s with heap:=h' }) :
  wpAny (model prog w) A (setAddHashed a (.int k tk) ((IK prog w).hash k)) Q E s:=by
 obtain⟨o,es,ep,t,ho,hex,hd,O,nf,hl,Uk,M⟩:=hS;have hsz:es.size < 76:=by rw [<-M.1]; exact rZ
 have Zr:=M.elems;have hb:es.size < scanBound:=by unfold scanBound; lia
 have RC:(IK prog w).is k (.int k tk)=true:=Ei _ _ _ _;obtain⟨N,hN,h1,h2⟩:=FI O _ (Pb.start t ((IK prog w).hash k));unfold setAddHashed setAddHashedIn;refine cE (ae (KC ho hd O ?_));dsimp only;rw [byScan_of (x:=.int k tk) rfl hb Zr,if_pos rfl];unfold setAddByScan;refine ae (ae (wpAny_rule (ae (wpAny_setScan_of RC ho hd (v5 O) Zr ?_))));cases hr:List.findIdx? (fun e=>(IK prog w).is k e.2) es.toList with
 | some j =>
  obtain⟨hj,Zd,_⟩:=List.findIdx?_eq_some_iff_getElem.mp hr;obtain⟨k',t',q1,q2,_⟩:=M.2 j _ (by rw [<-cg,ai hj]);rw [q2] at Zd;have ek:k'=k:=(IK prog w).inj _ _ _ (Ei _ _ _ _) Zd;subst ek;refine aq (aq ?_);have e:s={ s with heap:=s.heap }:=by cases s; rfl
  rw [e];exact h s.heap ks _ (fun _=>rfl) (fun z=>absurd (cz q1) z) (Heap.SameBut.refl a s.heap) ⟨o,es,ep,t,ho,hex,hd,O,nf,hl,Uk,M⟩
 | none =>
  have hk:k∉ks:=fun hk=>by
   obtain⟨i,hi,ei⟩:=eB hk;have J8:i < es.size:=by rw [<-M.1]; exact hi
   obtain⟨k',t',q1,q2,_⟩:=M.2 i _ (bC J8);rw [ai hi,ei] at q1;cases q1;have:=List.findIdx?_eq_none_iff.mp hr _ (Array.getElem_mem_toList J8);rw [q2,Ei] at this; cases this
  dsimp only;obtain⟨j,ej⟩:∃ j,(fG t.mask N (probeStart t ((IK prog w).hash k))).j=j:=⟨_,rfl⟩;have hj:j<=t.mask:=by
   rw [<-ej];exact bZ (Nat.le_add_right _ _) (KR N (K5 (nH _ (j0 t.mask))))
  have nf':¬ t.place.size * 5>=t.mask * 3:=by rw [Bq t O.dm] at nf; exact of_decide_eq_false nf
  have room:t.place.size+1<=t.mask:=by rcases O.ms with e | e | e <;> lia
  have Sa:below t.place j<=es.size:=by rw [<-O.sz]; exact(oN O.up j).1
  have O':NH { t with place:=insertAt t.place (below t.place j) j } (insertAt es (below t.place j) ((IK prog w).hash k,.int k tk)):=by
   have:=O.add (x:=.int k tk) (t':={ t with place:=insertAt t.place (below t.place j) j }) h1 h2 (by rw [ej]; exact hj) room rfl rfl (by rw [ej]);rw [ej] at this; exact this
  have ln:layNew t es ((IK prog w).hash k) (.int k tk)=(insertAt es (below t.place j) ((IK prog w).hash k,.int k tk),{ t with place:=insertAt t.place (below t.place j) j },false,false):=by
   unfold layNew;rw [Jv O _ hN h1 h2,ej];dsimp only;rw [IQ t O.dm];dsimp only;have:=v5 O';unfold SetTable.orStandIn;rw [this,if_pos rfl]; rfl
  rw [ln];dsimp only;refine ae (aq ?_);rw [if_pos Uk];refine ae ?_;rw [hashByValue_scannable 8 (x:=.int k tk) rfl];refine aq ?_;rw [show plainKind (.int k tk)=true from rfl,if_pos rfl];obtain⟨t',et⟩:∃ t':gQ,{ t with place:=insertAt t.place (below t.place j) j } = t':=⟨_,rfl⟩;have e1:t'.mask=t.mask:=by rw [<-et]
  have e4:t'.led=led:=by rw [<-et]; exact hl
  have e5:t'.plain=true:=by rw [<-et]; exact Uk
  rw [et] at O' ⊢;have M':=M.ins (k:=k) (t:=tk) Sa;have zs:(insertAt es (below t.place j) ((IK prog w).hash k,pK k tk)).size=es.size+1:=kg _ _ _ Sa;generalize insertAt es (below t.place j) ((IK prog w).hash k,pK k tk)=es' at O' M' zs ⊢;have pk:(ks.take (below t.place j)++k :: ks.drop (below t.place j)).Perm (k :: ks):=by
   refine List.perm_middle.trans ?_;rw [lU]
  have g1:=GX ho hd es' t';have YH:=fD s.heap a (Obj.putSet es' t');refine ae (wpAny_storeSet_of ho hd ?_ (by rw [zs,bN]; lia));cases tf:t'.tooFull with
  | false =>
   rw [if_neg (by intro z; cases z)];exact aq (aq (h _ _ true (fun z=>absurd z hk) (fun _=>pk) YH ⟨_,_,_,_,g1,hex,rfl,O',tf,e4,e5,M'⟩))
  | true =>
   rw [if_pos (show (!false&&true)=true from rfl)];rw [Bq t' O'.dm,O'.sz,zs,e1] at tf;obtain⟨m1,m2,m3,m4⟩:=KQ O.ms (n:=es.size) (by rw [<-O.sz]; exact nf') (of_decide_eq_true tf) hsz;obtain⟨t2,order,el,l1,l2,l3,l4,l5,O2,l6⟩:=LM m1 es' (by rw [zs]; exact m2) t'.finger (t'.movedTo (sizeAbove (grown (es.size+1)) - 1)) t'.led t'.plain;have er:t'.relaid (es'.map (·.1)) (grown es'.size)=some (t2,order):=by rw [zs]; exact el
   have ra:relayAll t' es' (grown es'.size)=(order.filterMap (es'[·]?),t2,false):=by
    unfold relayAll;rw [er];dsimp only;have c:coversAll order es'.size=true:=by unfold coversAll; exact List.isPerm_iff.mpr l6
    rw [c,v5 O2,if_pos (show (true&&true)=true from rfl)]
   rw [ra];dsimp only;refine ae (aq ?_);obtain⟨W3,M2,pm⟩:=M'.perm l5;refine ae (wpAny_storeSet_of g1 rfl ?_ (by rw [l4,zs,bN]; lia));have g2:=GX g1 rfl (order.filterMap (es'[·]?)) t2;refine aq (aq (h _ W3 true (fun z=>absurd z hk) (fun _=>pm.trans pk) (YH.trans (fD _ a _)) ⟨_,_,_,_,g2,hex,rfl,O2,?_,by rw [l2]; exact e4,by rw [l3]; exact e5,M2⟩));rw [Bq t2 O2.dm,O2.sz,l4,zs,l1];exact decide_eq_false m3
end
end K2.S
end
section
namespace K2.S
open PySem PySem.Spec PyProof.Rows L2 PySem.SetTable
section
variable {prog:bo} {w:World} {A:cx} {E:Value->ak->Prop} {s:ak}
theorem KZ{h:Heap}{a:Addr}(e:h.get? a=some (wR w)):NF prog w h a (!Gi w) []:=by
 refine⟨_,#[],0,.fresh 0 0 (!Gi w),e,⟨rfl,rfl,rfl⟩,rfl,⟨.inl rfl,rfl,rfl,fun a b _ z=>absurd z (cC _),fun k z=>absurd z (cC _),bY _,fun k z=>absurd z (cC _)⟩,rfl,rfl,rfl,rfl,fun i e he=>?_⟩;cases he
variable {R:Result->ak->Prop} {I:Addr} {fp wr:List Addr} {G:Array yj->Array yj->Prop} {n:Nat} {P:Nat->Value->Prop} {St:Nat->ak->Prop}
theorem N8{b:Bool}(W:WalksS prog w A.in1 I fp wr G n P St)(S:Addr)(SD:S∉fp)(val:Nat->Int)(rZ:n<=76)(Rp:∀ i v,P i v->∃ t,v=.int (val i) t) :
  ∀ (k i:Nat) (s:ak) (ks:List Int),n - i=k->i<=n->ks.length<=i->ks.Nodup->St i s->NF prog w s.heap S b ks ->
   (∀ s' Fs,Moved (S :: wr) G s s'->Fs.Nodup->(∀ x,x∈Fs↔x∈ks\/∃ m,i<=m/\m < n/\val m=x)->NF prog w s'.heap S b Fs->R (.ok (.ret .none)) s') ->
   mF (model prog w) A (.builtin "set.update.loop" ⟨[.ref S,.ref I],[]⟩) R s:=by
 have VQ:S∉wr:=fun h=>SD (W.sub _ h);have Jn:∀ c∈wr,c∈S :: wr:=fun c hc=>aN _ hc;intro k;induction k with
 | zero =>
  intro i s ks hk hi hl nd vO hS hR;have Uv:i=n:=by lia
  subst Uv;refine fE NT ?_;rw [eM sC _];show wpAny _ A.in1 (rm (.ref I) >>= _) _ _ s;refine ae (W.done s _ _ vO fun s' hm=>(show wpAny _ A.in1 (ret dn) _ _ s' from aq (hR s' ks (hm.mono Jn) nd (fun j=>?_) (hS.keeps fun o e=>hm.heap S o VQ e))));exact⟨.inl,fun h=>h.elim id fun ⟨m,h1,h2,_⟩=>absurd h1 (by lia)⟩
 | succ k ih =>
  intro i s ks hk hi hl nd vO hS hR;have pf:i < n:=by lia
  refine fE NT ?_;rw [eM sC _];show wpAny _ A.in1 (rm (.ref I) >>= _) _ _ s;refine ae (W.item i s _ _ pf vO fun v s' hP Xo hm=>?_);obtain⟨t,rfl⟩:=Rp i v hP;show wpAny _ A.in1 (Ej [pK (val i) t] (setAdd S (.int (val i) t)) >>= _) _ _ s';refine ae (cE ?_);unfold setAdd;refine cE (ae ((intKind prog w).pyHash (k:=val i) (Ei _ _ _ _) ?_));refine NX (s:={ s' with toks:=s'.toks+1 }) (hS.keeps fun o e=>hm.heap S o VQ e) (by lia) fun h' Fs r Uv Mh VE hS2=>?_;have q1:Fs.Nodup/\Fs.length<=ks.length+1/\∀ x,x∈Fs↔x∈ks\/x=val i:=by
   by_cases c:val i∈ks
   ·rw [Uv c]; exact⟨nd,jP _,fun x=>⟨.inl,fun z=>z.elim id fun e=>e ▸ c⟩⟩
   ·have p:=Mh c;exact⟨p.nodup_iff.mpr (List.nodup_cons.mpr ⟨c,nd⟩),Nat.le_of_eq p.length_eq,fun x=>by rw [p.mem_iff,rp]; exact Or.comm⟩
  refine aq ⟨jG sC _,ih (i+1) _ Fs (by lia) pf (by lia) q1.1 (W.frame _ s' _ _ Xo (jP _) fun c hc o e=>?_) hS2 fun s2 W3 Ur nd2 hq2 hS3=>?_⟩
  ·rw [VE.2 c (fun z:c=S=>SD (by rw [<-z]; exact hc))]; exact e
  ·refine hR s2 W3 (Moved.trans W.gtrans ((hm.mono Jn).then_heap (jP _) fun c o hc e=>?_) Ur) nd2 (fun x=>?_) hS3
   ·rw [VE.2 c (fun z:c=S=>hc (by rw [z]; exact bI))]; exact e
   ·rw [hq2 x,q1.2.2 x];constructor
    ·rintro((z | z) | ⟨m,a,b,c⟩)
     ·exact .inl z
     ·exact .inr ⟨i,aC _,pf,z.symm⟩
     ·exact .inr ⟨m,by lia,b,c⟩
    ·rintro(z | ⟨m,a,b,c⟩)
     ·exact .inl (.inl z)
     ·by_cases e:m=i
      ·subst e; exact .inl (.inr c.symm)
      ·exact .inr ⟨m,by lia,b,c⟩
set_option maxRecDepth 100000 in
theorem N9{l:Addr}{items:Array Value}{Q:Value->ak->Prop}(hh:A.handled=none)(hu:A.units+64 < cLine)(hl:s.heap.IsList l items)(val:Nat->Int)(rZ:items.size<=76)(Rp:∀ (i:Nat) (v:Value),items[i]?=some v->∃ t,v=.int (val i) t)
  (h:∀ (h':Heap) (tk:Nat) (ks:List Int),NF prog w h' s.heap.objs.size (!Gi w) ks->ks.Nodup->(∀ x,x∈ks↔∃ m,m < items.size/\val m=x)->(∀ c o,c < s.heap.objs.size->s.heap.get? c=some o->h'.get? c=some o)->Q (.ref s.heap.objs.size) { s with heap:=h',toks:=tk }) :
  wpAny (model prog w) A (call (.type "set") [.ref l]) Q E s:=by
 obtain⟨c,tl,abf⟩:=F.called_set.mro;have Zi:=F.called_set.made;have Jn:=F.called_set.sub;refine mD (Kk (show wpAny _ _ (callAny (.type "set") _) _ _ _ from ?_));refine aq ⟨o7 _ (by decide +kernel),fE F.entry_type_call ?_⟩;rw [Around.under_plain (weight_type_call_type "set" [.ref l] []) rfl];have h1:=F.called_set.notType;have h2:=F.called_set.canCreate;have hct:=F.typeCall_set_1 (.ref l)
 repeat (any_goals (first | assumption | wp_step))
 refine jl (Td (.ref l) (E:=E) (Q:=fun obj eV=>obj=.ref s.heap.objs.size/\eV={ s with heap:=s.heap.push (wR w) }) ⟨rfl,rfl⟩) fun r s1 hr=>?_;cases r with
 | error e=>exact hr
 | ok fl =>
  cases fl with
  | ret obj =>
   obtain⟨rfl,rfl⟩:=hr;have hS:(s.heap.push (wR w)).get? s.heap.objs.size=some (wR w):=bh _ rfl;have hT:Shared.TypeIs { s with heap:=s.heap.push (wR w) } (.ref s.heap.objs.size) "set":=⟨_,hS,rfl⟩;have hli:=F.called_set.init.lookup;have VO:=F.called_set.init.bind (.ref s.heap.objs.size)
   repeat (any_goals (first | assumption | wp_step))
   refine jl (h8 (R:=wants (fun r iQ=>r=.none/\∃ h' tk ks,iQ={ s with heap:=h',toks:=tk }/\NF prog w h' s.heap.objs.size (!Gi w) ks/\ks.Nodup/\(∀ x,x∈ks↔∃ m,m < items.size/\val m=x) /\
     (∀ c o,c < s.heap.objs.size->s.heap.get? c=some o->h'.get? c=some o)) E) F.called_set.init.plain F.entry_set_init (check_set_init_1 hT ?_)) fun Wn iQ Mc=>?_
   ·obtain⟨⟨aaK,TL,YU,QU⟩,Ze,yD,nl,Zu⟩:=hl;simp only at yD Zu;subst yD Zu;have Xu:(s.heap.push (wR w)).get? l=some { cls:=.type "list",dict:=TL,data:=.seq items nl,slots:=QU }:=ax _ Ze;have aa5:=F.sub_list_set;have aa6:=F.sub_list_frozenset;have lX:(yp "list" == yp "dict")=false:=by decide
    have RB:(s.heap.push (wR w)).IsList l items:=⟨_,Xu,rfl,nl,rfl⟩;unfold wR at *;unfold Builtin.«set.__init__» noKeywords Builtin.Frozenset.updateFrom;generalize hPI:yT=PI
    wp_walk
    subst hPI;refine sk RB (ae (wpAny_runValue ?_));have Zk:l < s.heap.objs.size:=aK Ze;have hh3:A.in1.in1.in1.handled=none:=by simp [hh]
    have hsz:(s.heap.push (wR w)).objs.size=s.heap.objs.size+1:=iy _ _;unfold wR at hsz;refine N8 (b:=!Gi w) ((Walks.list hh3 _ l (by rw [hsz]; exact bA (lD Zk)) items).toS) s.heap.objs.size (by rw [hsz]; simp only [rp,ef,or_false,not_or]; exact⟨bA (mH _),Nat.ne_of_gt Zk⟩)
     val rZ (fun i v hP=>Rp i v hP) (items.size - 0) 0 _ [] (by lia) (bY _) (aC _) fM ⟨⟨_,bh _ rfl,rfl,rfl⟩,RB.push _⟩
     ?hS0 ?hR
    case hS0=>exact KZ (ax _ hS)
    case hR =>
     intro s' ks hm nd hq X5;obtain⟨h',g',d',J0,Tx⟩:=s';cases (show g'=s.gens from hm.gens);cases (show d'=s.drawn from hm.drawn);cases (show Tx=s.os from hm.os);refine aq (show wpAny _ _ (ret dn) _ _ _ from aq ⟨rfl,h',J0,ks,rfl,X5,nd,fun x=>(hq x).trans ⟨fun z=>z.elim (fun q=>by cases q) fun ⟨m,_,b,c⟩=>⟨m,b,c⟩,fun ⟨m,b,c⟩=>.inr ⟨m,bY _,b,c⟩⟩,fun c o hc e=>hm.heap c o (fun z=>?_) (ax _ (ax _ e))⟩);rcases List.mem_cons.mp z with z | z
     ·exact absurd z (bA hc)
     ·rw [hsz] at z; exact absurd (List.mem_singleton.mp z) (bA (lD hc))
   ·cases Wn with
    | error e=>exact Mc
    | ok US =>
     cases US with
     | ret r =>
      obtain⟨rfl,h',tk,ks,rfl,X5,nd,hq,Nz⟩:=Mc
      repeat (any_goals (first | assumption | wp_step))
      exact h _ _ ks X5 nd hq Nz
     | _=>exact Mc.elim
  | _=>exact hr.elim
end
end K2.S
end
section
namespace K2
open PySem PySem.Spec PyProof.Rows L2 PySem.W
section
variable {X:Cx} {a:Expr} {ta:wu} {pos p AX p2:Pos}
theorem Pp:dj "set" = some (.type "set"):=by first | rfl | decide +kernel
noncomputable def tk(k:List Key):D:=.tup (k.map eK)
end
end K2
end
section
namespace K2.S
open PySem PySem.Spec PyProof.Rows L2 PySem.SetTable
namespace F5
theorem slot_next:Slot "set_iterator" "__next__" "set_iterator.__next__" :=
 .of (owner:="set_iterator") (n:="__next__") (by rw [typeLookup_type,builtinLookup_eq_fast]; kernel_rfl) (by decide +kernel) (by decide +kernel) (by decide +kernel) (by first | exact .inl (by decide +kernel) | exact .inr (by decide +kernel)) (by rw [NL]; kernel_rfl)
theorem entry_next:entryFor table "set_iterator.__next__" = some Builtin.«set_iterator.__next__»:=entryFor_of_tree (by kernel_rfl)
theorem za:Slot "set_iterator" "__iter__" "set_iterator.__iter__" :=
 .of (owner:="set_iterator") (n:="__iter__") (by rw [typeLookup_type,builtinLookup_eq_fast]; kernel_rfl) (by decide +kernel) (by decide +kernel) (by decide +kernel) (by first | exact .inl (by decide +kernel) | exact .inr (by decide +kernel)) (by rw [NL]; kernel_rfl)
theorem FU:entryFor table "set_iterator.__iter__" = some Builtin.«dict_keyiterator.__iter__»:=entryFor_alias (id':="dict_keyiterator.__iter__") (by kernel_rfl) rfl (by decide +kernel) (by kernel_rfl)
theorem Du:entryFor table "set.__iter__" = some Builtin.«frozenset.__iter__»:=entryFor_alias (id':="frozenset.__iter__") (by kernel_rfl) rfl (by decide +kernel) (by kernel_rfl)
theorem own:Manifest.owners.lookup (String.ofList ['r','o','t','a','r','e','t','i','_','t','e','s'].reverse)=some Manifest.sig_set_iterator:=by kernel_rfl
theorem args_next (a:Value):argsOk "set_iterator.__next__" ⟨[a],[]⟩:=by
 unfold argsOk; rw [signature?_of (id:="set_iterator.__next__") (n:=['_','_','t','x','e','n','_','_']) (o:=['r','o','t','a','r','e','t','i','_','t','e','s']) (by kernel_rfl) own]; kernel_rfl
theorem JI (a:Value):argsOk "set_iterator.__iter__" ⟨[a],[]⟩:=by
 unfold argsOk; rw [signature?_of (id:="set_iterator.__iter__") (n:=['_','_','r','e','t','i','_','_']) (o:=['r','o','t','a','r','e','t','i','_','t','e','s']) (by kernel_rfl) own]; kernel_rfl
end F5
noncomputable def ER(pl:Array Nat)(i:Nat):Nat:=if i=0 then 0 else pl.getD (i - 1) 0+1
theorem Na{xs:Array Nat}(up:Up xs){i:Nat}(h:i<=xs.size):below xs (ER xs i)=i:=by
 obtain⟨h1,h2,h3⟩:=oN up (ER xs i);unfold ER at h1 h2 h3 ⊢;by_cases c:i=0
 ·rw [if_pos c] at h1 h2 h3 ⊢;apply cU;intro z;have:=h2 0 (by lia);lia
 ·rw [if_neg c] at h1 h2 h3 ⊢;apply cU;intro z;by_cases q:below xs (xs.getD (i - 1) 0+1) < i
  ·have:=h3 (i - 1) (by lia) (by lia); lia
  ·have a1:=h2 i (by lia);have a2:=up (i - 1) i (by lia) (by lia);lia
section
variable {prog:bo} {w:World} {A:cx} {E:Value->ak->Prop} {s:ak}
noncomputable abbrev tb(w:World)(mk:Nat)(pl dm:Array Nat)(fg mv:Nat):gQ:={ mask:=mk,place:=pl,dummies:=dm,finger:=fg,led:=!Gi w,moves:=mv,plain:=true }
structure Wk(w:World)(o:Obj)(es:En)(ep:Nat)(mk:Nat)(pl dm:Array Nat)(fg mv:Nat):Prop where
 ex:o.ExactSet
 dd:o.data=.set es ep (tb w mk pl dm fg mv)
 fit:(tb w mk pl dm fg mv).fits es.size=true
 sz:pl.size=es.size
 up:Up pl
noncomputable def ord(w:World)(a:Addr)(ep:Nat)(es:En):En:=if Gi w=true then pickOrder (w.params.setOrder a ep) es else es
noncomputable def slt(w:World)(pl:Array Nat)(i:Nat):Nat:=if Gi w=true then 0 else ER pl i
noncomputable abbrev Wm (a:Addr) (sl i n ep:Nat):Obj:={ cls:=.type "set_iterator",data:=.fields #[.int sl 0,.int i 0,.ref a,.int n 0,.int ep 0] }
noncomputable def SJ (h:Heap) (it a:Addr) (sl i n ep:Nat):Prop:=∃ o,h.get? it=some o/\o.cls=.type "set_iterator"/\o.data=.fields #[.int sl 0,.int i 0,.ref a,.int n 0,.int ep 0]
theorem SJ.ty {it a:Addr} {sl i n ep:Nat} (x:SJ s.heap it a sl i n ep):s.TypeIs (.ref it) "set_iterator":=by
 obtain⟨o,h,c,_⟩:=x;exact⟨o,h,c⟩
theorem BK{Q:Bool->ak->Prop}(h:Q (Gi w) s):wpAny (model prog w) A setsByText Q E s:=by
 unfold setsByText;exact ae (Ia (aq h))
variable {es:En} {mk fg mv:Nat} {pl dm:Array Nat} {a it:Addr} {o:Obj} {ep:Nat}
theorem KW{Q:Value->ak->Prop}(ho:s.heap.get? a=some o)(W:Wk w o es ep mk pl dm fg mv)
  (hQ:Q (.ref s.heap.objs.size) { s with heap:=s.heap.push (Wm a 0 0 es.size ep) }):wpAny (model prog w) A (yT (.ref a)) Q E s:=by
 have ty:s.TypeIs (.ref a) "set":=⟨o,ho,W.ex.1⟩;refine si ty Ie (eG Ie ty F5.Du ?_ (PySem.F.args_set_iter_1 _));unfold Builtin.«frozenset.__iter__» Builtin.Frozenset.slot0 slotArgs;simp only [List.isEmpty_nil,aX,au,↓reduceIte,bind_assoc,ar,bne_self_eq_false];unfold Builtin.Frozenset.addrOf Builtin.Frozenset.sizeOf;refine ae (aq ?_)
 try dsimp only
 refine ae (aq (ae (ae (zW ho W.dd W.fit (aq ?_)))));refine ae ?_;unfold setDrawn;refine ae (mC ho W.dd W.fit ?_);dsimp only;refine ae (BK (aq ?_));split
 ·rename_i z;exact absurd z (by cases Gi w <;> exact eQ)
 ·refine ae (aq ?_);unfold setEpoch;refine ae (ae (mC ho W.dd W.fit (aq ?_)));unfold newFields;refine ae (di (aq ⟨_,rfl,"set_iterator",_,⟨_,bh _ rfl,rfl⟩,F5.slot_next.lookup,?_⟩) (by size_fits));exact hQ
theorem Oa(hb:Gi w=true)(ho:s.heap.get? a=some o)(W:Wk w o es ep mk pl dm fg mv):wpAny (model prog w) A (setWalk a) (fun r s'=>r=pickOrder (w.params.setOrder a ep) es/\s'=s) (fun _ _=>False) s:=by
 unfold setWalk;refine ae (mC ho W.dd W.fit ?_);dsimp only;refine ae (BK ?_);rw [hb,if_pos rfl];exact ae (Ia (aq ⟨rfl,rfl⟩))
theorem GJ{i:Nat}(hi:i<=es.size)(ho:s.heap.get? a=some o)(W:Wk w o es ep mk pl dm fg mv):wpAny (model prog w) A (setNext a (slt w pl i) i ep) (fun r s'=>r=((ord w a ep es)[i]?).map (fun e=>(e.2,slt w pl (i+1)))/\s'=s) (fun _ _=>False) s:=by
 unfold setNext;refine ae (mC ho W.dd W.fit ?_);dsimp only;refine ae (BK ?_);cases hb:Gi w with
 | true =>
  rw [if_pos rfl,if_neg (by simp)];refine ae (eA (Oa hb ho W) (fun r s' z=>?_) fun _ _ z=>z);obtain⟨rfl,rfl⟩:=z;refine aq ⟨?_,rfl⟩;unfold ord slt;rw [hb]; rfl
 | false =>
  rw [if_neg (by simp)];have sl:slt w pl i=ER pl i:=by unfold slt; rw [hb]; rfl
  have sl1:slt w pl (i+1)=pl.getD i 0+1:=by unfold slt; rw [hb]; rfl
  have bl:BX pl (ER pl i)=i:=Na W.up (by rw [W.sz]; exact hi);split
  ·rename_i z;exact absurd z eQ
  ·refine ae (show wpAny (model prog w) A (if (!(!Gi w)&&!es.isEmpty)=true then unsupported "set:maker-not-led" else pure ()) _ _ s from ?_);rw [if_neg (by rw [hb]; simp)];refine aq (aq ⟨?_,rfl⟩);show (match es[BX pl (slt w pl i)]?,pl[BX pl (slt w pl i)]? with
    | some (_,x),some j=>some (x,j+1)
    | _,_=>none)=_
   rw [sl,bl,sl1];unfold ord;rw [hb,if_neg (by simp)];by_cases c:i < es.size
   ·have hp:i < pl.size:=by rw [W.sz]; exact c
    rw [bC c,bC hp];simp [pP,hp]
   ·rw [fZ (by lia)]; rfl
theorem Ob{i:Nat}{Q:Option Value->ak->Prop}(ki:SJ s.heap it a (slt w pl i) i es.size ep)(ho:s.heap.get? a=some o)(W:Wk w o es ep mk pl dm fg mv)(hi:i<=es.size){e:Int×Value}(he:(ord w a ep es)[i]?=some e)
  (hQ:∀ h',SJ h' it a (slt w pl (i+1)) (i+1) es.size ep->lV it s.heap h'->Q (some e.2) { s with heap:=h' }):wpAny (model prog w) A (rm (.ref it)) Q E s:=by
 obtain⟨oi,Sw,Zv,O5⟩:=id ki;unfold rm;refine ae (lC (gc (name:=cJ "__next__") ki.ty F5.slot_next (eG F5.slot_next ki.ty F5.entry_next ?_ (F5.args_next _))));unfold Builtin.«set_iterator.__next__» slotArgs;refine ae (aq ?_);refine ae (yS Sw O5 ?_);show wpAny _ _ (setEntries a >>= _) _ _ s;refine ae (zW ho W.dd W.fit ?_);rw [if_neg (by simp)];show wpAny _ _ (setNext a (qV (slt w pl i:Int)) (qV (i:Int)) (qV (ep:Int)) >>= _) _ _ s;rw [eI,eI,eI];refine ae (eA (GJ hi ho W) (fun r s' z=>?_) fun _ _ z=>z.elim);obtain⟨rfl,rfl⟩:=z;rw [he];show wpAny _ _ (Cb (.ref it) 0 (u7 (slt w pl (i+1):Int)) >>= _) _ _ _;refine ae (rF Sw O5 (by simp) ?_);have g1:=dE (rH (·.setIfInBounds 0 (u7 (slt w pl (i+1):Int)))) Sw (ur (fB O5 _));refine ae (rF g1 (fB O5 _) (by simp) ?_);have g2:=dE (rH (·.setIfInBounds 1 (u7 ((i:Int)+1)))) g1 (ur (fB (fB O5 _) _));refine aq ⟨_,rfl,aq (hQ _ ⟨_,g2,?_,?_⟩ ((fD ..).trans (fD ..)))⟩
 ·rw [z0,z0]; exact Zv
 ·rw [fB (fB O5 _)]; simp [u7]
theorem QB{Q:Option Value->ak->Prop}(calm:A.handled=none)(ki:SJ s.heap it a (slt w pl es.size) es.size es.size ep)(ho:s.heap.get? a=some o)(W:Wk w o es ep mk pl dm fg mv)(hl:(ord w a ep es).size=es.size)
  (hQ:∀ h',Heap.ExtBut it s.heap h'->Q none { s with heap:=h' }):wpAny (model prog w) A (rm (.ref it)) Q E s:=by
 obtain⟨oi,Sw,Zv,O5⟩:=id ki;unfold rm;refine ae (lC (gc (name:=cJ "__next__") ki.ty F5.slot_next (eG F5.slot_next ki.ty F5.entry_next ?_ (F5.args_next _))));unfold Builtin.«set_iterator.__next__» slotArgs;refine ae (aq (ae (yS Sw O5 ?_)));show wpAny _ _ (setEntries a >>= _) _ _ s;refine ae (zW ho W.dd W.fit ?_);rw [if_neg (by simp)];show wpAny _ _ (setNext a (qV (slt w pl es.size:Int)) (qV (es.size:Int)) (qV (ep:Int)) >>= _) _ _ s;rw [eI,eI,eI];refine ae (eA (GJ (aC _) ho W) (fun r s' z=>?_) fun _ _ z=>z.elim);obtain⟨rfl,rfl⟩:=z;rw [fZ (by lia)];show wpAny _ _ (Cb (.ref it) 2 .none >>= _) _ _ _;refine ae (rF Sw O5 (by simp) ?_);show wpAny _ _ (newExc (.type "StopIteration") [] >>= _) _ _ _;refine ae ?_;simp only [newExc,newTuple];refine ae (di (ae (m:=yU _ _) (Ke (a:=dn) (by first | rfl | (simp only [yU]; rfl)) (di ?_ (by size_fits)))) (by size_fits));unfold raiseNew;refine ae (wpAny_handled ?_);rw [show A.in1.handled=none from calm];refine ae (aq (wpAny_throw ?_));refine ae (H0 (T:="StopIteration") (b:=true) ⟨_,bh _ rfl,rfl⟩ isSubtype_stop (?_));exact aq (hQ _ (((fD ..).extBut.push _).push _))
theorem Mt{α:Type}:∀ (l:List α) (i:Nat) (h:i < l.length),(l[i] :: l.eraseIdx i).Perm l
 | x :: r,0,_=>.refl _
 | x :: r,i+1,h=>by
  rw [List.getElem_cons_succ,List.eraseIdx_cons_succ];exact(List.Perm.swap _ _ _).trans (.cons _ (Mt r i (by simpa using h)))
theorem zk{α:Type}(next:Nat->Nat):∀ (f k:Nat) (l:List α) (out:Array α),l.length<=f->(pickOrder.go next f k l out).toList.Perm (out.toList++l)
 | 0,k,l,out,h=>by
  have:l=[]:=List.length_eq_zero_iff.mp (by lia);subst this;rw [bL]; exact .refl _
 | f+1,k,l,out,h=>by
  unfold pickOrder.go;cases l with
  | nil=>simp
  | cons x r =>
   have hi:next k % (x :: r).length < (x :: r).length:=nH _ (by simp);rw [ai hi];dsimp only;refine(zk next f (k+1) _ _ (by rw [List.length_eraseIdx_of_lt hi]; simp at h ⊢; lia)).trans ?_;rw [Array.toList_push,cM];exact .append_left _ (Mt _ _ hi)
theorem CM(w:World)(a:Addr)(ep:Nat)(es:En):(ord w a ep es).toList.Perm es.toList:=by
 unfold ord;split
 ·unfold pickOrder;have:=zk (w.params.setOrder a ep) es.size 0 es.toList #[] (by simp);simpa using this
 ·exact .refl _
theorem w7(w:World)(a:Addr)(ep:Nat)(es:En):(ord w a ep es).size=es.size:=by have:=(CM w a ep es).length_eq; simpa using this
theorem KU(hh:A.handled=none)(lX:a≠it)(W:Wk w o es ep mk pl dm fg mv) :
  PySem.Walks prog w A it [it,a] [it] es.size (fun i v=>∃ e,(ord w a ep es)[i]?=some e/\v=e.2) (fun i h=>SJ h it a (slt w pl i) i es.size ep/\h.get? a=some o) where
 sub:=fun c hc=>by simp at hc; simp [hc]
 frame:=fun i h h' st hk=>⟨let ⟨o,e,r⟩:=st.1; ⟨o,hk it (by simp) o e,r⟩,hk a (by simp) o st.2⟩
 item:=fun i s Q E hi st hQ=>by
  have J8:i < (ord w a ep es).size:=by rw [w7]; exact hi
  have he:(ord w a ep es)[i]?=some (ord w a ep es)[i]:=bC J8;exact Ob st.1 st.2 W (B0 hi) he fun h' yu sb=>hQ _ h' s.toks ⟨_,he,rfl⟩ ⟨yu,(sb.2 a lX).trans st.2⟩ fun c o hc e=>(sb.2 c (by simpa using hc)).trans e
 done:=fun s Q E st hQ=>QB hh st.1 st.2 W (w7 ..) fun h' eb=>hQ h' s.toks fun c o hc e=>eb c o (by simpa using hc) e
 self:=fun i s Q E st hQ=>by
  refine si st.1.ty F5.za (eG F5.za st.1.ty F5.FU ?_ (F5.JI _));show wpAny _ _ (ret (.ref it)) _ _ s;exact aq ⟨_,rfl,"set_iterator",_,st.1.ty,F5.slot_next.lookup,hQ⟩
theorem Oc {r:Addr} {Q:Bool->ak->Prop} (hT:s.TypeIs (.ref r) "set") (h:Q false s):wpAny (model prog w) A (vY (.ref r)) Q E s:=by
 unfold vY;refine ae (wpAny_specialOf hT PySem.F.slot_set_len.lookup ?_);generalize NA:("set.__len__" : String)=id0
 wp_delta
 rw [show splitId id0=some ("set","__len__") from by subst NA; decide +kernel];subst NA;refine ae (H0 (T:="set") (b:=true) hT (by rw [NL]; kernel_rfl) (wpAny_ite_split (fun Jt=>absurd Jt (by decide)) fun _=>?_));exact wpAny_ite_split (fun _=>ae (wpAny_typeOf hT (aq h))) fun Jt=>absurd (by decide +kernel) Jt
theorem QA(W:Wk w o es ep mk pl dm fg mv) :
  PySem.W.KdlSrc prog w "set" a a es.size (fun i v=>∃ e,(ord w a ep es)[i]?=some e/\v=e.2) (fun h=>h.get? a=some o) where
 type:=fun s ck=>⟨o,ck,W.ex.1⟩
 there:=fun h ck=>⟨aK ck,aK ck⟩
 keep:=fun h h' ck hk=>hk a (.inl rfl) o ck
 notList:=by decide
 notTuple:=by decide
 hint:=fun A E s Q ck hq=>Oc ⟨o,ck,W.ex.1⟩ hq
 iter:=fun A s hh ck=>⟨_,_,(fun E Q hq=>KW ck W hq),KU hh (bA (aK ck)) W,⟨⟨_,bh _ rfl,rfl,by unfold slt ER; simp⟩,ax _ ck⟩⟩
end
end K2.S
end
section
namespace K2
open PySem PySem.Spec PyProof.Rows L2
noncomputable def Ua:List Value->List Int->Bool
 | [],[]=>true
 | v :: vs,n :: ns=>NM n v&&Ua vs ns
 | _,_=>false
noncomputable def S6(K:ag)(a:Addr)(ns:List Int):Bool:=match K.lookup a with
 | some o=>o.cls == .type "tuple" && (match o.data with | .seq a7 _=>Ua a7.toList ns | _=>false)
 | none=>false
section
variable {X:Cx}
theorem GY{a:Expr}{ta:fx}{p pos:Pos}{j}(ha:gm X a ta):B7 X (.Compare a [.Is] [.Constant .none j p] pos) (ez (ym (vM false) ta)) :=
 show B7 X _ (ez (aQ (IP false) ta (dC .cy))) from cB ON ha qI (fj _)
theorem zi{a:Expr}{ta:fx}{p pos:Pos}{j}(ha:gm X a ta):B7 X (.Compare a [.IsNot] [.Constant .none j p] pos) (ez (ym (vM true) ta)) :=
 show B7 X _ (ez (aQ (IP true) ta (dC .cy))) from cB IW ha qI (fj _)
end
end K2
end
section
namespace K2
open PySem PySem.Spec PyProof.Rows L2 PySem.W
open Enc (enc)
section
variable {X:Cx}
theorem LY{K:ag}{H:Hp}:∀ {ns:List Int} {vs:List V} {a7:List Value},aR K H vs (ns.map enc)->Vals vs a7->kF a7 ns:=by
 intro ns;induction ns with
 | nil=>intro vs a7 r v; cases r; cases v; exact .nil
 | cons n ns ih =>
  intro vs a7 r v;cases r with
  | cons r1 r2 =>
   cases r1;cases v with
   | cons v1 v2=>obtain⟨t,rfl⟩:=(show ∃ t,_=pK n t from v1); exact .cons _ _ (ih r2 v2)
end
end K2
end
section
namespace K2
open PySem PySem.Spec PyProof.Rows L2
noncomputable def Yh(w:World)(p:Str×Tok×Addr):lE:=⟨hashStr w p.1,.str p.1 p.2.1,.ref p.2.2⟩
noncomputable def ZV(K:ag):List (Str×Tok×Addr)->List (Str×Int×Int)->Prop
 | [],[]=>True
 | e :: es,p :: ps=>(e.1=p.1/\S6 K e.2.2 [p.2.1,p.2.2]=true)/\ZV K es ps
 | _,_=>False
structure ac1(w:World)(K:ag)(g:Addr)(es:List (Str×Tok×Addr))(kv:List (Str×Int×Int)):Prop where
 at_:∃ n,K.lookup g=some { cls:=.type "dict",dict:=none,data:=.dict (es.map (Yh w)).toArray n,slots:=#[] }
 ns:(g == fL)=false
 nd:(es.map (·.1)).Nodup
 vals:ZV K es kv
end K2
end
section
namespace K2
open PySem PySem.Spec PyProof.Rows L2 PySem.W
open Enc (enc)
section
variable {X:Cx} {a:Expr} {ta:wu} {pos p AX p2:Pos}
theorem w5 (hc:X.calm=true) (hu:X.A.units+64 < cLine) (hg:Gl X "sorted") (hm:X.mg "sorted" = none) (XQ:Gl X "set") (Ur:X.mg "set" = none) (ha:BR X [a] ta) (hs:autoParam (a9 [a] X.env=(false,eval a X.env) :: a9 [] X.env) Ar._auto_1)
  (O0:autoParam (a9 [.Call (.Name "set" p2) [a] [] AX] X.env=(false,eval (.Call (.Name "set" p2) [a] [] AX) X.env) :: a9 [] X.env) Ar._auto_1) (vn:autoParam ((gP pos (a9 [] X.env)).any (·.1)=false) Ar._auto_1) (Xr:autoParam ((gP AX (a9 [] X.env)).any (·.1)=false) Ar._auto_1) :
  gm X (.Call (.Name "sorted" p) [.Call (.Name "set" p2) [a] [] AX] [] pos) (jN uY ta):=by
 intro E pins s σ H τ G Q hE I h;refine du (lM I.inv hg hm zP (dF ?_ O0 vn));rw [O0];show wpAny _ _ (rG ((false,eval (.Call (.Name "set" p2) [a] [] AX) X.env) :: gP pos (a9 [] X.env))) _ _ s;refine dS (du (lM I.inv XQ Ur Pp (ib (wK ha AX hE I h fun vs H1 ds G1 us s1 I1 m1 r1 jR q1=>?_) hs Xr)));unfold uY at q1;split at q1
 ·rename_i x;obtain⟨nl,Zj,hlen,q⟩:=q1;obtain⟨w1,rfl,IF⟩:=jR.one;obtain⟨u,rfl,ru⟩:=r1.one;obtain⟨l,vs,a7,rfl,rv,rs,hL,hz⟩:=lT I1.inv I1.ab ru IF Zj;have ia:=LY rs rv;have li:a7.length=nl.length:=by rw [<-rv.length,rs.length,aj]
  have at_:∀ (i:Nat) (v:Value),a7.toArray[i]?=some v->∃ t,v=.int (nl.getD i 0) t:=fun i v hv=>by
   have hv:a7[i]?=some v:=by rw [Np] at hv; exact hv
   have hi:i < nl.length:=by have:=(List.getElem?_eq_some_iff.mp hv).1; lia
   have hd:(nl.map (enc:Int->D))[i]?=some (.int (nl.getD i 0)):=by rw [bO,aH,ai hi]; rfl
   obtain⟨vv,h1,h2⟩:=rs.get hd;obtain⟨uu,h3,h4⟩:=rv.get h1;rw [hv] at h3;cases h3;cases h2;exact h4
  refine S.N9 (I1.inv.ok.hd hc) hu hL (fun i=>nl.getD i 0) (by rw [aJ,li]; lia) at_ fun h' J0 ks S' nd hq kp=>?_;rw [(show gP pos (a9 [] X.env)=[] from rfl)];refine aq ?_;obtain⟨o,es,ep,t,ho,hex,hd,O,tf,hld,Uk,M⟩:=S';have UA:=S.v5 O;obtain⟨mk,pl,dmm,fg,ld,mv,pln⟩:=t;have e1:ld=!S.Gi X.w:=hld;have e2:pln=true:=Uk;subst e1 e2;have W:S.Wk X.w o es ep mk pl dmm fg mv:=⟨hex,hd,UA,O.sz,O.up⟩;obtain⟨m,M2,YQ⟩:=M.perm (es':=S.ord X.w s1.heap.objs.size ep es) (S.CM ..);have Vz:m.Nodup:=YQ.nodup_iff.mpr nd;have mm:∀ y,y∈m↔y∈nl:=fun y=>by
   rw [YQ.mem_iff,hq y];constructor
   ·rintro⟨i,hi,e⟩;rw [aJ,li] at hi;have e:nl.getD i 0=y:=e;rw [aH,ai hi] at e;exact e ▸ bB hi
   ·intro hy;obtain⟨i,hi,e⟩:=eB hy;refine⟨i,by rw [aJ,li]; exact hi,?_⟩;show nl.getD i 0=y;rw [aH,ai hi]; exact e
  have W6:∀ b u,s1.heap.get? b=some u->h'.get? b=some u:=fun b u e=>kp b u (aK e) e;have I3:=I1.inv.kept (t':=J0) W6;have I4:=I1.mv I3 (.refl I1.ab);have ml:m.length=es.size:=by have:=M2.1; rw [S.w7] at this; exact this
  refine eA (ES hc hu I4.inv I4.ab (S.QA W) ho (vs:=m.map V.int) (zs:=m.map enc) (by rw [aj]; exact ml) (fun i u hi hP=>?_) (aR.A6 m) (bM.vb Int) (fun z Xb=>?_) (by decide) ?_ ?_) (fun r s' ⟨v,H2,d,G2,I2,m2,r2,AS,q2⟩=>⟨v,H2,d,G2,I2,m1.trans m2,r2,AS,q2⟩) fun _ _ z=>z
  ·obtain⟨e,he,rfl⟩:=hP;obtain⟨k,t,q1,q2,_⟩:=M2.2 i e he;rw [eT,q2];rw [aj] at hi;rw [ai hi] at q1;cases q1;exact⟨t,rfl⟩
  ·obtain⟨y,_,rfl⟩:=List.mem_map.mp Xb;exact bM.FD y
  ·rw [aj];exact kE (List.Nodup.length_le_of_subset Vz fun y hy=>(mm y).mp hy) hlen
  ·rw [y9];exact q m Vz mm
 ·exact q1.elim
end
end K2
end
section
namespace K2
open PySem PySem.Spec PyProof.Rows L2 PySem.Builtin PySem.Builtin.ObjectAttr PySem.Calls
noncomputable abbrev oZ(C t:Addr):Obj:={ cls:=.ref C,data:=.fields #[.ref t,.none,.none,.none,.bool false,.none] }
section
variable {prog:bo} {w:World} {A:cx} {E:Value->ak->Prop} {h:Heap} {g:Array yj} {d:Drawn} {t:Nat} {os:OsState}
variable {nm q:Str} {C N:Addr} {bs bm kK:List Value} {md:Bool} {sn:List Str} {sub:List Value} {ab:Bool} {col:Option Bool} {dd:Option Addr} {k0 k1 k2 k3 k5:Option Value} {B newId lP:String}
theorem Cm(F:wG B newId lP kK)(T:OwnTail h kK bm){mN:Str->Option Value}{rest:List Value}{fI:Addr}{oI:Obj}{Q:Fin->ak->Prop}
  (hC:h.get? C=some (jk nm q C N bs bm md sn sub ab col dd k0 k1 k2 k3 k5 newId)) (hn:h.Ns N mN) (hi:mN "__init__" = some (.ref fI))
  (UC:h.get? fI=some oI) (UB:oI.cls=.type "function")
  (hq:∀ h' e t0,(∀ b o,h.get? b=some o->h'.get? b=some o)->h.objs.size<=e->h'.get? e=some (oZ C t0) ->
   wpAny (model prog w) A (call (.ref fI) (.ref e :: rest)) (fun r s'=>r=.none/\Q (.done (.ret (.ref e))) s') E ⟨h',g,d,t,os⟩) (hrest:rest.length<=aT) :
  wpAny (model prog w) A (Builtin.«type.__call__» ⟨.ref C :: rest,[]⟩) Q E ⟨h,g,d,t,os⟩:=by
 repeat (first | with_reducible refine ij hC ?_ | with_reducible refine wpAny_madeBy_exc hC ?_ | wp_step)
 refine codeAny_call_builtin_code (o7 _ F.quiet) (wpAny_check_new_subT F T hC ?_);refine codeAny_exc_new_subT F T hC ?_ hrest;show wpAny _ _ _ _ _ _;have kp:∀ b o,h.get? b=some o->((h.push { cls:=.type "tuple",data:=.seq rest.toArray }).push { cls:=.ref C,data:=.fields #[.ref h.objs.size,.none,.none,.none,.bool false,.none] }).get? b=some o :=
  fun b o e=>ax _ (ax _ e)
 have Qa:=kp _ _ hC;have RE:=kp _ _ UC;have Um:=hn.keeps kp;have Yo:=T.keeps kp
 have yB:((h.push { cls:=.type "tuple",data:=.seq rest.toArray }).push
   { cls:=.ref C,data:=.fields #[.ref h.objs.size,.none,.none,.none,.bool false,.none] }).get? (h.objs.size+1)=some
   { cls:=.ref C,data:=.fields #[.ref h.objs.size,.none,.none,.none,.bool false,.none] }:=by heap_get
 have hcC:(dI C :: bm).contains (.ref C)=true:=by simp
 unfold Eh
 repeat (first | with_reducible refine ij yB ?_ | (with_reducible refine pE Qa ?_; rw [hcC]) | wp_step)
 show wpAny _ _ (typeLookup (.ref C) _) _ _ _;refine wpAny_typeLookup_tail Qa Um Yo F.mroIs F.init.lookup ?_;rw [hi];refine cE (ae ?_);unfold bindSpecial;refine ae (wpAny_typeOf (T:="function") ⟨_,RE,UB⟩ ?_);rw [if_pos (by decide)];refine aq (ae (eA (hq _ (h.objs.size+1) _ kp (jP _) yB) (fun r s' hr=>?_) fun _ _ x=>x));obtain⟨rfl,hQ⟩:=hr
 wp_walk
 exact hQ
theorem Ge(F:wG B newId lP kK)(T:OwnTail h kK bm){mN:Str->Option Value}{rest:List Value}{fI:Addr}{oI:Obj}{Q:Value->ak->Prop}
  (hC:h.get? C=some (jk nm q C N bs bm md sn sub ab col dd k0 k1 k2 k3 k5 newId)) (hn:h.Ns N mN) (hi:mN "__init__" = some (.ref fI))
  (UC:h.get? fI=some oI) (UB:oI.cls=.type "function")
  (hq:∀ h' e t0,(∀ b o,h.get? b=some o->h'.get? b=some o)->h.objs.size<=e->h'.get? e=some (oZ C t0) ->
   wpAny (model prog w) (A.under (.builtin "type.__call__" ⟨.ref C :: rest,[]⟩)) (call (.ref fI) (.ref e :: rest)) (fun r s'=>r=.none/\Q (.ref e) s') E ⟨h',g,d,t,os⟩) (hrest:rest.length<=aT) :
  wpAny (model prog w) A (call (.ref C) rest) Q E ⟨h,g,d,t,os⟩:=by
 have f1:=tc_lookup;have f2:=tc_bind (.ref C);have hT:(⟨h,g,d,t,os⟩:ak).TypeIs (.ref C) "type":=⟨_,hC,rfl⟩;refine mD (Kk ?_);show wpAny _ _ (callAny (.ref C) _) _ _ _
 repeat (any_goals (first | assumption | with_reducible refine ij hC ?_ | wp_step))
 refine⟨rfl,?_⟩;refine codeAny_call_builtin_at (o7 _ (by decide +kernel)) entry_typeCall (wpAny_check_type_call_sub hC (Cm (hrest:=hrest) F T hC hn hi UC UB fun h' e t0 k1 k2 k3=>?_));exact hq h' e t0 k1 k2 k3
theorem JG(F:wG B newId lP kK)(T:OwnTail h kK bm){e t0:Addr}{rest:List Value}{Q:Value->ak->Prop}
  (hC:h.get? C=some (jk nm q C N bs bm md sn sub ab col dd k0 k1 k2 k3 k5 newId)) (he:h.get? e=some (oZ C t0)) (hrest:rest.length<=aT)
  (hq:∀ h' t1,h'.get? e=some (oZ C t1)->(∀ b o,b≠e->h.get? b=some o->h'.get? b=some o)->h.objs.size<=h'.objs.size->Q .none ⟨h',g,d,t,os⟩) :
  wpAny (model prog w) A (call (.builtin lP) (.ref e :: rest)) Q E ⟨h,g,d,t,os⟩:=by
 refine mD (h8 F.init.plain F.initEntry (wpAny_check_init_subT F T hC he rfl ?_));have he1:(h.push { cls:=.type "tuple",data:=.seq rest.toArray }).get? e=some (oZ C t0):=ax _ he
 wp_walk
 refine hq _ h.objs.size (dE _ he1 rfl) (fun b o hb e=>?_) ?_
 ·rw [cI _ _ hb.symm]; exact ax _ e
 ·rw [rK,iy]; exact jP _
end
section
variable {prog:bo} {w:World} {A:cx} {E:Value->ak->Prop} {s:ak} {K:ag} {x C:Addr} {ox:Obj} {v:Value} {name:Str} {R:Result->ak->Prop}
noncomputable def Qv:List Value->List Value
 | .ref _ :: l=>Qv l
 | l=>l
theorem IJ(self:Value)(S4:Str):∀ l,refuseLoop self S4 l=refuseLoop self S4 (Qv l):=by
 intro l;induction l with
 | nil=>rfl
 | cons a l ih =>
  cases a with
  | ref C=>rw [refuseLoop_ref,ih]; rfl
  | _=>rfl
noncomputable def FR (K:ag) (C:Addr):Bool:=(pN K C).any fun cd=>Qv cd.mro == [.type "ValueError",.type "Exception",.type "BaseException",.type "object"]
theorem HB {od:Option Obj} {tk:Tok} (X:K.In s.heap) (I:ud s.heap x ox C od) (hp:FR K C=true) (hm:e7 K C (.type "object")=some true) (ht:bz K (.ref C) name=some none)
  (h:∀ b,wpAny (model prog w) A.in1 (storeInOwnDict (.ref x) (.ref C) (.str name tk) name v b)
   (fun fin s'=>match fin with | .done f=>R (.ok f) s' | .again c'=>c'.quiet=true/\mF (model prog w) A c' R s') (fun e s'=>R (.error e) s') s) :
  mF (model prog w) A (.call (.builtin "object.__setattr__") ⟨[.ref x,.str name tk,v],[]⟩) R s:=by
 have SF:=PySem.F.store_object;obtain⟨cd,hc,ho⟩:=yr hp;have sub:Es (model prog w) s.heap (Eh (.ref x) (.type "object")) true:=I.type.andThen (Ko X hm);refine h8 SF.slot.plain SF.entry (@PySem.W.check_slot (model prog w) _ _ s "object.__setattr__" "object" "__setattr__" (.ref x) [.str name tk,v] [] _ SF.kind SF.split sub (SF.args (.ref x) (.str name tk) v) ?_);have Rz:Es (model prog w) s.heap (mroOf (.ref C)) cd.mro:=(uo X hc).andThen .now;rw [PySem.W.osa_eq,refuse_eq];refine ae (ae (I.type.here (ae (Rz.here ?_))));rw [IJ,beq_iff_eq.mp ho,PySem.F.store_ValueError.passes];refine aq (ae (I.type.here (ae ((su X ht).here (ae (aq ?_))))));exact h _
noncomputable abbrev i8(C t dx:Addr):Obj:={ cls:=.ref C,dict:=some dx,data:=.fields #[.ref t,.none,.none,.none,.bool false,.none] }
structure DS(K:ag)(C:Addr):Prop where
 ov:FR K C=true
 mo:e7 K C (.type "object")=some true
 sa:bz K (.ref C) "__setattr__" = some (some (.builtin "object.__setattr__"))
 hd:kD K C=true
theorem ML{t0 : Addr}{Q : Unit -> ak -> Prop}(X : K.In s.heap)(hx : s.heap.get? x = some (oZ C t0))(Z : DS K C)(ht : bz K (.ref C) name = some none)
    (h : ∀ h' J0, h'.get? x = some (i8 C t0 s.heap.objs.size) -> h'.Ns1 s.heap.objs.size (fun y => if y = name then some v else none) -> (∀ b o, b ≠ x -> s.heap.get? b = some o -> h'.get? b = some o) -> Q () { s with heap := h', toks := J0 }) :
    wpAny (model prog w) A (setAttr (.ref x) name v) Q E s := by
  have J : ud s.heap x (oZ C t0) C none := ⟨hx, rfl, rfl, trivial⟩;refine NN X J Z.sa (HB (s := { s with toks := s.toks + 1 }) X J Z.ov Z.mo ht fun b => ?_);obtain⟨cd, hc, C9⟩ := yr Z.hd;refine ae (aq (ae (ae (NK (s := { s with toks := s.toks + 1 }) hx ?_))));refine ae (DW (s := { s with toks := s.toks + 1 }) (uo X hc) ?_);rw [C9];obtain⟨h0, g, d, t, os⟩ := s;have P1 : (h0.push { cls := .type "dict", data := .dict #[] }).get? x = some (oZ C t0) := ax _ hx;have Ss : x ≠ h0.objs.size := bA (aK hx);show wpAny _ _ (do
                let d ← alloc { cls := yp "dict", data := Data.dict #[] }
                update x fun o => { cls := o.cls, dict := some d, data := o.data, slots := o.slots }
                dictMade (dI C) x d) _ _ _
  refine ae (wpAny_alloc' (ae (wpAny_update' P1 (aq ?_))));have hgd : ((h0.push { cls := .type "dict", data := .dict #[] }).update x fun o => { cls := o.cls, dict := some h0.objs.size, data := o.data, slots := o.slots }).get? h0.objs.size
      = some { cls := .type "dict", data := .dict #[] } :=
    (Heap.get?_update_ne _ _ _ _ Ss.symm).trans (Heap.get?_push_at rfl rfl)
  have VI : ((h0.push { cls := .type "dict", data := .dict #[] }).update x fun o => { cls := o.cls, dict := some h0.objs.size, data := o.data, slots := o.slots }).Ns h0.objs.size (fun _ => none) :=
    ⟨_, #[], _, hgd, rfl, fun e he => absurd he (by simp), fun _ => rfl⟩
  show wpAny _ _ (storeInDict h0.objs.size _ name v) _ _ _;unfold storeInDict newKeyGuard;refine ae (aq (ae (wpAny_nsSet1 (Heap.Ns1.of_empty VI) fun h' Eb hs => ?_)));obtain⟨oD, esD, epD, Xx, RG, Mn⟩ := Eb.count (Within.cons name v Within.nil);refine ae (wpAny_lookBehind Xx (by rw [RG]; exact pastItsLine_dict (bZ Mn (by rw [ah, ar, bN]; lia))) (aq ?_));exact h h' _ ((hs.2 x Ss).trans (dE _ P1 rfl)) Eb fun b ob hbx hb =>
    (hs.2 b (bA (aK hb))).trans ((Heap.get?_update_ne _ _ _ _ hbx).trans (ax _ hb))
theorem MK{t0 dx:Addr}{mA:Str->Option Value}{ns:List Str}{Q:Unit->ak->Prop}(X:K.In s.heap)(hx:s.heap.get? x=some (i8 C t0 dx))(lX:dx≠x)(hA:s.heap.Ns1 dx mA)(hw:Within mA ns)(hsz:ns.length<=1000)(Z:DS K C)(ht:bz K (.ref C) name=some none)
  (h:∀ h' J0,h'.Ns1 dx (fun y=>if y=name then some v else mA y)->lV dx s.heap h'->Q () { s with heap:=h',toks:=J0 }) :
  wpAny (model prog w) A (setAttr (.ref x) name v) Q E s:=by
 obtain⟨od,es,ep,Mf,hh1⟩:=id hA;have J:ud s.heap x (i8 C t0 dx) C (some od):=⟨hx,rfl,rfl,Mf⟩;refine NN X J Z.sa (HB (s:={ s with toks:=s.toks+1 }) X J Z.ov Z.mo ht fun b=>?_);obtain⟨cd,hc,C9⟩:=yr Z.hd;refine ae (aq (ae (ae (NK (s:={ s with toks:=s.toks+1 }) hx ?_))));refine ae (DW (s:={ s with toks:=s.toks+1 }) (uo X hc) ?_);rw [C9];refine aq (a:=some dx) (ae (aq (ae ?_)));refine wpAny_nsSet1 (s:={ s with toks:=s.toks+1 }) hA fun h' VJ O0=>?_;obtain⟨oD,esD,epD,Xx,RG,Mn⟩:=VJ.count (PySem.Within.cons name v hw);refine ae (wpAny_lookBehind Xx (by rw [RG]; exact pastItsLine_dict (bZ Mn (by rw [ah,bN]; lia))) ?_);exact aq (h _ _ VJ O0)
theorem MM{B:String}{kK:List Value}{dx:Addr}{mA:Str->Option Value}{expr:Bool}{Q:Value->ak->Prop}(FB:ux B kK)(X:K.In s.heap)(hx:s.heap.get? x=some ox)(yD:ox.cls=.ref C)(hnc:Cd ox=true)(NC:ox.dict=some dx)(hA:s.heap.Ns1 dx mA)
  (P6:bz K (.ref C) "__getattribute__" = some (some (.builtin "BaseException.__getattribute__"))) (XM:bz K (.ref C) "__getattr__" = some none) (XE:e7 K C (.type "BaseException")=some true) (hh:kD K C=true)
  (ha:bz K (.ref C) name=some none) (hv:mA name=some v) (Rq:yq v=true) (h:Q v { s with toks:=s.toks+1 }):wpAny (model prog w) A (getAttr (.ref x) name expr) Q E s:=by
 obtain⟨od,ho,hl⟩:=Je hA;have J:ud s.heap x ox C (some od):=⟨hx,yD,hnc,by rw [NC]; exact ho⟩;have hf:=PySem.W.findObj_own hh ha rfl (by rw [hl,hv]);obtain⟨h0,g,d,t,os⟩:=s;have L0:=J.type (M:=model prog w);have L1:=su (M:=model prog w) X P6;have L2:=su (M:=model prog w) X XM;have L3:=PySem.W.looks_find (M:=model prog w) X J hf;have L4:=Ko (M:=model prog w) X XE;have Xg:(qT "BaseException.__getattribute__" == qT "object.__getattribute__")=false:=by decide +kernel
 unfold getAttr getAttrBy;refine ae (wpAny_mkText (cE (ae (L0.at (ae (L1.at ?_))))));dsimp only;rw [if_neg (by rw [Xg]; simp)];unfold getAttrByItsOwn hookBefore callGetattribute;have f3:=FB.ga.bind (.ref x);have fin:mF (model prog w) A (.call (.builtin "BaseException.__getattribute__") ⟨[.ref x,.str name t],[]⟩) (fun r s'=>r=.ok (.ret v)/\s'=⟨h0,g,d,t+1,os⟩) ⟨h0,g,d,t+1,os⟩:=by
  refine h8 FB.ga.plain F.entry_bexc_ga ?_;have hk:builtinKind "BaseException.__getattribute__" = some .slot:=by decide +kernel
  have Fx:splitId "BaseException.__getattribute__" = some ("BaseException","__getattribute__"):=by decide +kernel
  have ha:=F.args_bexc_ga (.ref x) (.str name t);have LI:Es (model prog w) h0 (Eh (.ref x) (.type "BaseException")) true:=L0.andThen L4;simp only [Ib,hk,Fx];refine ae (LI.at ?_);simp only [aX,au,if_false];have body:wpAny (model prog w) A.in1 (Builtin.«object.__getattribute__» ⟨[.ref x,.str name t],[]⟩)
    (fun fin s'=>fin=.done (.ret v)/\s'=⟨h0,g,d,t+1,os⟩) (fun _ _=>False) ⟨h0,g,d,t+1,os⟩:=by
   unfold Builtin.«object.__getattribute__»;refine ae (aq ?_);refine ae (aq ?_);refine ae (L0.at (ae (L3.at ?_)));exact aq ⟨rfl,rfl⟩
  have go:∀ z:Sem Unit,z=pure ()->∀ (P:Unit->ak->Prop) (E':Value->ak->Prop) s',P () s'->wpAny (model prog w) A.in1 z P E' s':=fun z e P E' s' hp=>by rw [e]; exact aq hp
  refine go _ ha _ _ _ (eA body ?_ (fun _ _ z=>z.elim));rintro fin s' ⟨e1,e2⟩;subst e1; exact⟨rfl,e2⟩
 refine ae (L2.at (ae (lC (cE ?_))));rw [show (expr&&onTheHeap (qT "BaseException.__getattribute__"))=false from vI _,if_neg (by decide)];unfold boundAndCalled;rw [f3];refine ae (aq (mD (jl fin ?_)));rintro r s' ⟨e1,e2⟩;subst e1; subst e2;show wpAny _ _ (handedOut v) _ _ _;rw [PySem.W.handedOut_of Rq];exact aq h
end
noncomputable def xO(K:ag)(C f:Addr)(kK:List Value)(newId:String):Bool:=match K.lookup C with
 | some ⟨.type "type",_,.cls cd,sl⟩=>(match cd.mro,sl.toList with
  | .ref C' :: bm,[_,_,_,_,some (.builtin n),_]=>C' == C&&n == newId&&!cd.hasDel&&Cc K kK bm&&PySem.W.nsOkIn K cd.ns&&bc K cd.ns "__init__" == some (some (.ref f))
  | _,_=>false)
 | _=>false
inductive Ni (h:Heap) (C f:Addr) (kK:List Value) (newId:String):Prop
 | mk (bm N nm qn bs md sn sub ab col dd k0 k1 k2 k3 k5 mN) (o:h.get? C=some (jk nm qn C N bs bm md sn sub ab col dd k0 k1 k2 k3 k5 newId)) (n:h.Ns N mN) (i:mN "__init__" = some (.ref f)) (t:OwnTail h kK bm):Ni h C f kK newId
section
variable {K:ag} {h:Heap} {C f:Addr} {kK:List Value} {newId:String}
theorem TM{N:Addr}{mg:Str->Option Value}{n:Str}{v:Value}(X:K.In h)(G:h.Ns N mg)(e:bc K N n=some (some v)):mg n=some v:=by
 obtain⟨o,es,ep,ho,hd,_,hf⟩:=G;unfold bc at e;split at e
 ·rename_i c d es' n' sl q;have:=X _ _ q;rw [ho] at this;cases this;cases hd;split at e
  ·rename_i en he;cases e;rw [<-hf];unfold nsFind findBy;rw [<-Array.find?_toList,he];rfl
  ·split at e <;> cases e
 ·cases e
theorem BA(Y:K.In h)(q:xO K C f kK newId=true):Ni h C f kK newId:=by
 unfold xO at q;split at q
 rotate_left
 ·cases q
 rename_i dd cd sl ho;split at q
 rotate_left
 ·cases q
 rename_i C' bm k0 k1 k2 k3 n k5 hm hs;obtain⟨nm,bs,mro,ns,qn,hd,sn,sub,ab,col,del⟩:=cd;obtain⟨sl⟩:=sl;have hm:mro=_:=hm;have hs:sl=_:=hs;subst hm hs;simp only [aG,beq_iff_eq,lr] at q;obtain⟨⟨⟨⟨⟨e1,e2⟩,e3⟩,e4⟩,e5⟩,e6⟩:=q;subst e1 e2;have e3:del=false:=e3;subst e3;exact⟨bm,_,_,_,_,_,_,_,_,_,dd,k0,k1,k2,k3,k5,_,Y _ _ ho,.of_isNs (vF Y e5),TM Y (.of_isNs (vF Y e5)) e6,vD Y e4⟩
end
noncomputable def XO(C t a:Addr):HO:=.ext fun h=>h.get? a=some (oZ C t)
noncomputable def XD(C t dx a:Addr):HO:=.ext fun h=>h.get? a=some (i8 C t dx)
noncomputable def XN(fs:List (Str×V))(dx:Addr):HO:=.ext fun h=>∃ mA,h.Ns1 dx mA/\(∀ f,t8 (fs.lookup f) (mA f))/\Kn mA (fs.map (·.1))
noncomputable def PJ(K:ag)(C:Addr)(te:fx):TS:=fun D σ H=>∃ a t0 τ,σ[0]?=some (some (.ref a))/\H a=some (XO C t0 a)/\HZ K H σ τ/\te (fun _ _=>False) τ (fun _=>none) (fun _ _=>True) /\
 ∀ H' t1,(∀ b u,b≠a->H b=some u->H' b=some u)->H' a=some (XO C t1 a)->D.nx σ H'
noncomputable def Tj(C:Addr)(f:Str)(i:Nat):TS:=fun D σ H=>∃ a t v,σ[0]?=some (some (.ref a))/\σ[i]?=some (some v)/\H a=some (XO C t a)/\∀ dx,H dx=none->D.nx σ (upd (upd H dx (XN [(f,v)] dx)) a (XD C t dx a))
noncomputable def Ti(C:Addr)(f:Str)(i:Nat):TS:=fun D σ H=>∃ a t dx v fs,σ[0]?=some (some (.ref a))/\σ[i]?=some (some v)/\H a=some (XD C t dx a)/\dx≠a/\H dx=some (XN fs dx)/\fs.length < 1000 /\
 ∀ od,D.nx σ (upd (upd H dx (.hZ od (.xd (CF f v fs)))) a (.hZ (i8 C t dx) (.ext fun h=>h.get? a=some (i8 C t dx))))
section
variable {X:Cx} {C BC:Addr} {f:Str} {i:Nat} {pos pos':Pos} {B newId lP:String} {kK:List Value} {mc:Value}
theorem PC{P:bo}{w:World}{H:Hp}{h:Heap}{a t:Addr}(e:h.get? a=some (oZ C t)):eZ P w H h a (XO C t a):=⟨e,⟨_,e⟩,fun _ _ h1 k=>k _ h1⟩
theorem S2{P:bo}{w:World}{H:Hp}{h:Heap}{a t dx:Addr}(e:h.get? a=some (i8 C t dx)):eZ P w H h a (XD C t dx a):=⟨e,⟨_,e⟩,fun _ _ h1 k=>k _ h1⟩
theorem S1{P:bo}{w:World}{H:Hp}{h:Heap}{dx:Addr}{fs:List (Str×V)}{mA:Str->Option Value}(e:h.Ns1 dx mA)(r:∀ f,t8 (fs.lookup f) (mA f))(wi:Kn mA (fs.map (·.1))):eZ P w H h dx (XN fs dx) :=
 ⟨⟨mA,e,r,wi⟩,let ⟨o,_,_,q,_⟩:=e; ⟨o,q⟩,fun _ _ h1 k=>let ⟨m,⟨o,es,ep,q,c⟩,r⟩:=h1; ⟨m,⟨o,es,ep,k _ q,c⟩,r⟩⟩
theorem Oy {pl:Sem Bool} {x:Str} {e:Expr} {te:fx} {np D9 ap cp ep:Pos} {s0:Str} (hg:Gl X x) (hm:X.mg x=some (.ref BC)) (Ea:gI X.K (.ref BC) "__getattribute__" = some (some (.builtin "type.__getattribute__"))) (hr:PySem.W.readsIn X.K BC mc=true)
  (hf:PySem.W.findCls X.K (.ref BC) mc "__init__" = some (.val (.builtin lP))) (F:wG B newId lP kK) (q:xO X.K C i kK newId=true) (h0:PE X (.Name s0 D9) (EN 0)) (he:gm X e te)
  (yC:autoParam ((x == ("__debug__" : Str))=false) Ad._auto_1) (hs:autoParam (a9 [.Name s0 D9,e] X.env=(false,eval (.Name s0 D9) X.env) :: a9 [e] X.env) Ar._auto_1) (hs1:autoParam (a9 [e] X.env=[(false,eval e X.env)]) Ar._auto_1) (vn:autoParam ((gP cp (a9 [e] X.env)).any (·.1)=false) Ar._auto_1)
  (hev:autoParam (eval (.Call (.Attribute (.Name x np) "__init__" ap) [.Name s0 D9,e] [] cp) X.env=(do
   let ov ← eval (.Name x np) X.env
   standAt ap.atName
   let (f,first) ← Ej [ov] (getMethod ov "__init__" pl)
   callWith cp f first (gP cp (a9 [.Name s0 D9,e] X.env)) (backToKw cp (zY [] X.env)))) Ar._auto_1)
  (hkw:autoParam (backToKw cp (zY [] X.env)=[]) Ar._auto_1) (Uv:autoParam (yq (.builtin lP)=true) Ar._auto_1) (Ue:autoParam (pF (.Call (.Attribute (.Name x np) "__init__" ap) [.Name s0 D9,e] [] cp) none ep.line X.env=pure false) Ar._auto_1) :
  PS X (.Expr (.Call (.Attribute (.Name x np) "__init__" ap) [.Name s0 D9,e] [] cp) ep) (PJ X.K C te):=by
 rintro pins s σ H D I ⟨a,t0,τ,Ud,ha,Jt,ht,hq⟩;refine wpAny_Expr_any ?_ I.quiet Ue;refine PySem.W.methodCall_KW (pl:=pl) (mx I hg hm ?_ yC) hev;refine PySem.W.method_cls I.qg Ea (PySem.W.cls_value I.qg hr hf Uv ?_);rw [hkw];have I:=I.tok (s.toks+1);refine dF ?_ hs vn;rw [hs];show wpAny _ _ (rG ((false,eval (.Name s0 D9) X.env) :: gP cp (a9 [e] X.env))) _ _ _;refine dS (fy (h0 pins _ σ H (fun v H'=>v=.ref a/\H'=H) I ⟨_,Ud,rfl,rfl⟩) ?_);rintro u s1 ⟨v,H1,I1,r1,rfl,rfl⟩;cases (show u=dI a from r1);rw [hs1];show wpAny _ _ (rG [(false,eval e X.env)]) _ _ s1;refine dS (fy (he (fun _ _=>False) pins s1 σ H1 τ (fun _=>none) _ (Lk.none fun _ _ z=>z) ⟨I1,Jt,fun _ _ z=>nomatch z⟩ ht) ?_);rintro u2 s2 ⟨v2,H2,d2,G2,iN,m2,r2,_,_⟩;refine kW ?_;have ZD:H2 a=some (XO C t0 a):=(m2.keep a _ ha rfl).1;have yB:s2.heap.get? a=some (oZ C t0):=(show eZ X.prog X.w H2 s2.heap a (XO C t0 a) from iN.ck a _ ZD).1;obtain⟨tl,N,nm,qn,bs,md,sn,sub,ab,col,dd,k0,k1,k2,k3,k5,mN,hC,hN,XB,T⟩:=BA iN.qg q;obtain⟨hh,g,d,t,os⟩:=s2;refine JG F T hC yB (by rw [ah,ar,bN]; lia) fun h' t1 e1 e2 e3=>?_;refine⟨σ,upd H2 a (XO C t1 a),iN.write (t':=t) (x:=a) (e:=a) (by rw [ZD]; exact a8) (.inl rfl) (fun b o hb z=>e2 b o hb z) ⟨_,e1⟩ (PC e1),hq _ t1 (fun b u hb z=>?_) cj⟩;rw [bu hb];exact(m2.keep b _ z rfl).1
theorem QP{s0 p0:Str}{D9 pp:Pos}(Z:DS X.K C)(hn:bz X.K (.ref C) f=some none)(h0:PE X (.Name s0 D9) (EN 0))(hv:PE X (.Name p0 pp) (EN i))(hs:autoParam (pF (.Name p0 pp) (some (.Attribute (.Name s0 D9) f pos')) pos.line X.env=pure false) Ar._auto_1) :
  PS X (.Assign [.Attribute (.Name s0 D9) f pos'] (.Name p0 pp) pos) (Tj C f i):=by
 rintro pins s σ H D I ⟨a,t,v,Ud,hi,ha,hq⟩;refine Eg (fy (hv pins s σ H (fun v' H'=>v'=v/\H'=H) I ⟨_,hi,rfl,rfl⟩) ?_) hs;rintro u s1 ⟨v,H1,I1,r1,rfl,rfl⟩;refine fy (h0 pins s1 σ H1 (fun v' H'=>v'=.ref a/\H'=H1) I1 ⟨_,Ud,rfl,rfl⟩) ?_;rintro u0 s2 ⟨_,H2,iN,r2,rfl,rfl⟩;cases (show u0=dI a from r2);have yB:s2.heap.get? a=some (oZ C t):=(show eZ X.prog X.w H2 s2.heap a (XO C t a) from iN.ck a _ ha).1;refine ML iN.qg yB Z hn fun h' J0 e1 e2 e3=>?_;have hd:H2 s2.heap.objs.size=none:=iN.ck.fresh (aC _);have lX:s2.heap.objs.size≠a:=(bA (aK yB)).symm;refine⟨σ,_,?_,hq _ hd⟩;obtain⟨od,es,ep,ho,Bm⟩:=id e2;have h1:(s2.heap.push od).get? s2.heap.objs.size=some od:=Heap.get?_push_at rfl (Heap.get?_some_iff.mp ho).2;have I3:=iN.laid (t':=s2.toks) (a:=s2.heap.objs.size) (o:=XN [(f,v)] s2.heap.objs.size) (h':=s2.heap.push od) (fun b u q=>ax _ q) (aC _)
  (S1 (mA:=fun y=>if y=f then some u else none) ⟨od,es,ep,h1,Bm⟩ (fun g=>by
   rw [jH];by_cases hg:g=f
   ·rw [if_pos hg,beq_iff_eq.mpr hg]; exact r1
   ·rw [if_neg hg,beq_eq_false_iff_ne.mpr hg]; exact a8) (fun y hy=>by
   by_cases hg:y=f
   ·rw [hg]; exact bI
   ·exact absurd (if_neg hg) hy))
 refine I3.write (t':=J0) (x:=a) (e:=a) (o:=XD C t s2.heap.objs.size a) (h':=h') (by rw [bu lX.symm,ha]; exact a8) (.inl rfl) (fun b o hb z=>?_) ⟨_,e1⟩ (S2 e1);by_cases ZA:b=s2.heap.objs.size
 ·subst ZA; rw [h1] at z; cases z; exact ho
 ·exact e3 b o hb (by rw [yY _ _ _ ZA] at z; exact z)
theorem QO{s0 p0:Str}{D9 pp:Pos}(Z:DS X.K C)(hn:bz X.K (.ref C) f=some none)(h0:PE X (.Name s0 D9) (EN 0))(hv:PE X (.Name p0 pp) (EN i))(hs:autoParam (pF (.Name p0 pp) (some (.Attribute (.Name s0 D9) f pos')) pos.line X.env=pure false) Ar._auto_1) :
  PS X (.Assign [.Attribute (.Name s0 D9) f pos'] (.Name p0 pp) pos) (Ti C f i):=by
 rintro pins s σ H D I ⟨a,t,dx,v,fs,Ud,hi,ha,lX,NC,NB,hq⟩;refine Eg (fy (hv pins s σ H (fun v' H'=>v'=v/\H'=H) I ⟨_,hi,rfl,rfl⟩) ?_) hs;rintro u s1 ⟨v,H1,I1,r1,rfl,rfl⟩;refine fy (h0 pins s1 σ H1 (fun v' H'=>v'=.ref a/\H'=H1) I1 ⟨_,Ud,rfl,rfl⟩) ?_;rintro u0 s2 ⟨_,H2,iN,r2,rfl,rfl⟩;cases (show u0=dI a from r2);have yB:s2.heap.get? a=some (i8 C t dx):=(show eZ X.prog X.w H2 s2.heap a (XD C t dx a) from iN.ck a _ ha).1;obtain⟨mA,hA,rA,wA⟩:=(show eZ X.prog X.w H2 s2.heap dx (XN fs dx) from iN.ck dx _ NC).1;refine MK iN.qg yB lX hA wA (by rw [aj]; lia) Z hn fun h' J0 e1 e2=>?_;obtain⟨od,es,ep,ho,Bm⟩:=id e1;refine⟨σ,_,?_,hq od⟩;have I3:=iN.write (t':=J0) (x:=dx) (e:=dx) (o:=.hZ od (.xd (CF f v fs))) (h':=h') (by rw [NC]; exact a8) (.inl rfl) (fun b o hb z=>(e2.2 b hb).trans z) ⟨_,ho⟩
  ⟨ho,_,e1,fun g=>by
   show t8 ((CF f v fs).lookup g) (if g=f then some u else mA g);rw [vk];by_cases q:g=f
   ·rw [if_pos q,if_pos q]; exact r1
   ·rw [if_neg q,if_neg q]; exact rA g⟩
 have P6:h'.get? a=some (i8 C t dx):=(e2.2 a lX.symm).trans yB;exact I3.write (t':=J0) (x:=a) (e:=a) (h':=h') (by rw [bu lX.symm,ha]; exact a8) (.inl rfl) (fun _ _ _ z=>z) ⟨_,P6⟩ ⟨P6,P6,⟨_,P6⟩,fun _ _ z k=>k _ z⟩
end
noncomputable def Sj(K:ag)(C:Addr)(f g:Str)(te:fx):Sp:=fun vs H Q _=>∃ a x y t0 d1 d2,vs=[.ref a,x,y]/\H a=some (XO C t0 a)/\cb K H x d1/\cb K H y d2/\te (fun _ _=>False) [some (.ref a),some d1,some d2] (fun _=>none) (fun _ _=>True) /\
 ∀ H' t dx od,(∀ b u,b≠a->H b=some u->H' b=some u)->H' a=some (.hZ (i8 C t dx) (.ext fun h=>h.get? a=some (i8 C t dx)))->H' dx=some (.hZ od (.xd [(f,x),(g,y)]))->Q .cy H'
section
variable {P:bo} {w:World} {K:ag} {mg:Str->Option Value} {base:Heap}
theorem OY{x qual s0 p1 p2 f g:Str}{st:Stmt}{fa C:Addr}{fd:aL}{k:Nat}{te:fx}(hfg:f≠g)(F:rE K x qual st fa fd)(S:cQ [s0,p1,p2] [s0,p1,p2] (a5 st))
  (Dc:∀ (jJ:Value) (A:cx) (outer:List Env) (s:ak) (H:Hp) (E:XK),iC k (A.deeper (sr qual (a5 st) s.heap.objs.size fa jJ)) ->
   NG (nB kr P w K mg base [s0,p1,p2] qual (a5 st) fa jJ A outer s H E).Q4 (fU st) (Qx (PJ K C te) (Qx (Tj C f 1) (Ti C g 2)))) :
  gi P w K mg base kr (k+1) fa fd [s0,p1,p2] (Sj K C f g te):=by
 refine F.ok S (by rintro vs H Q E ⟨a,x,y,t0,d1,d2,rfl,_⟩; rfl) ?_;rintro jJ A outer s H vs Q E C6 ⟨a,x,y,t0,d1,d2,rfl,ha,r1,r2,ht,hq⟩;refine⟨_,Dc jJ A outer s H E C6,a,t0,[some (.ref a),some d1,some d2],rfl,ha,?_,ht,fun H1 t1 k1 h1=>⟨a,t1,x,rfl,rfl,h1,fun dx NC=>?_⟩⟩
 ·exact wM (Nn:=[s0,p1,p2]) (vs:=[.ref a,x,y]) (ds:=[.ref a,d1,d2]) (.cons (.ref a) (.cons r1 (.cons r2 .nil)))
 ·have lX:dx≠a:=fun e=>by rw [e,h1] at NC; cases NC
  refine⟨a,t1,dx,y,[(f,x)],rfl,rfl,cj,lX,by rw [bu lX,cj],Nat.lt_of_sub_eq_succ rfl,fun od=>hq _ t1 dx od (fun b u hb z=>?_) cj ?_⟩
  ·have z1:=k1 b u hb z;have ZC:b≠dx:=fun e=>by rw [e,NC] at z1; cases z1
   rw [bu hb,bu ZC,bu hb,bu ZC]; exact z1
  ·rw [bu lX,cj];unfold CF;rw [if_neg hfg];rfl
end
section
variable {X:Cx} {x:Str} {C:Addr} {kK:List Value} {B newId lP:String} {e:Expr} {es:List Expr} {p pos:Pos} {t:wu}
theorem Mv.TV{K:ag}{H H':Hp}{G:Gp}{a:Addr}(ab:jK K H G)(hn:H a=none)(k:∀ b u,b≠a->H b=some u->H' b=some u):Mv K H G H' G:=by
 have k':∀ b u,H b=some u->H' b=some u:=fun b u q=>k b u (fun e=>by rw [e,hn] at q; cases q) q;have kp:Kp H H':=⟨fun b xs q=>k' b _ q,fun b o u q=>k' b _ q⟩;have Ka:jK K H' G:=fun b g q=>by
  have z:=ab b g q;cases hb:H b with
  | none=>exact absurd hb z.tracked
  | some u=>exact z.mono kp ((k' b u hb).trans hb.symm)
 exact⟨fun b o q n=>⟨k' b o q,n⟩,fun b n=>by
  cases hb:G b with
  | none=>exact absurd hb n
  | some g=>exact(Ka b g hb).tracked,Ka⟩
structure DT(K:ag)(c f:Str):Prop where
 ex:∃ C,bc K aO c=some (some (.ref C))/\o4 K C/\kD K C=true/\bz K (.ref C) f=some none
theorem Kz{K:ag}{H:Hp}{f:Str}{d:D}:∀ {fs:List (Str×V)} {ds:List D},aR K H (fs.map (·.2)) ds->((fs.map (·.1)).zip ds).lookup f=some d->∃ v,fs.lookup f=some v/\cb K H v d:=by
 intro fs;induction fs with
 | nil=>intro ds _ h; cases h
 | cons q fs ih =>
  intro ds r h;cases r with
  | cons r1 r2 =>
   obtain⟨qk,qv⟩:=q;rw [aI,ye,jH] at h;rw [jH];cases hb:f == qk with
   | true=>rw [show (f == (qk,qv).1)=true from hb] at h; cases h; exact⟨qv,rfl,r1⟩
   | false=>rw [show (f == (qk,qv).1)=false from hb] at h; exact ih r2 h
theorem qK{all:List Str}{f:Str}{te:fx}(FB:ux B kK)(cl:∀ c,all.contains c=true->DT X.K c f)(he:gm X e te)(hb:autoParam (um e f X.env (eval e X.env)=eval e X.env) Ar._auto_1):gm X (.Attribute e f pos) (uV all f te):=by
 intro E pins s σ H τ G Q hE I h;refine Pr hb (jn he hE I h fun x H1 d G1 u s1 I1 m1 r1 jR q1=>?_);cases jR with
 | uj h0 rs =>
  obtain⟨hc,d',hl,q⟩:=q1;obtain⟨⟨C',e4,z,hd,hf⟩⟩:=cl _ hc;obtain⟨o,C,dx,od,fs,h1,h2,h3,h4,h5,h6,rfl,rfl⟩:=h0;rw [h3] at e4;cases e4;cases r1;obtain⟨v,hv,rv⟩:=Kz rs hl;obtain⟨ho,mA,hA,hr⟩:=(show eZ X.prog X.w H1 s1.heap dx (.hZ od (.xd fs)) from I1.inv.ck dx _ h5);obtain⟨u,hu,ru⟩:=t8.some_of (v:=v) (o:=mA f) (by rw [<-hv]; exact hr f);exact MM FB I1.inv.qg (I1.inv.ck _ _ h1).1 h2 h6 h4 hA z.ga z.gn z.mb hd hf hu (Js ru) ⟨v,H1,d',G1,I1.inv.tok _,m1,ru,rv,q⟩
 | _=>exact q1.elim
end
end K2
end
section
namespace K2
open PySem PySem.W PySem.Spec PyProof.Rows L2
noncomputable abbrev Yn:List Value:=[.type "ValueError",.type "Exception",.type "BaseException",.type "object"]
structure PEx(K:Frag)(cn:Str)(C:Addr):Prop where
 ns:nsIn K aO cn=some (some (.ref C))
 kp:keepIn K (.ref C)=true
 ex:excIn K C [.type "ValueError",.type "Exception",.type "BaseException",.type "object"] "ValueError.__new__" = true
structure Yx(K:Frag)(cn:Str)(C:Addr):Prop where
 ns:nsIn K aO cn=some (some (.ref C))
 sp:specialIn K (.ref C) "__getattribute__" = some (some (.builtin "type.__getattribute__"))
 rd:readsIn K C (.type "type")=true
 fc:findCls K (.ref C) (.type "type") "__init__" = some (.val (.builtin "ValueError.__init__"))
theorem RX {K:Frag} {cn:Str} {C:Addr} (a:autoParam (nsIn K aO cn=some (some (.ref C))) Aq._auto_1) (k:autoParam (specialIn K (.ref C) "__getattribute__" = some (some (.builtin "type.__getattribute__"))) Aq._auto_1) (r:autoParam (readsIn K C (.type "type")=true) Aq._auto_1) (e:autoParam (findCls K (.ref C) (.type "type") "__init__" = some (.val (.builtin "ValueError.__init__"))) Aq._auto_1):Yx K cn C:=⟨a,k,r,e⟩
structure Vl(K:Frag)(C:Addr)(cn q f g:Str)(st:Stmt)(fa:Addr)(fd:aL):Prop where
 ns:nsIn K aO cn=some (some (.ref C))
 kp:keepIn K (.ref C)=true
 ex:xO K C fa Yn "ValueError.__new__" = true
 fn:isFn K (.ref fa)=true
 F:L2.rE K "__init__" q st fa fd
 Z:DS K C
 n1:yV K (.ref C) f=some none
 n2:yV K (.ref C) g=some none
theorem RW {K:Frag} {C:Addr} {cn q f g:Str} {st:Stmt} {fa:Addr} {oc:Value} {od an:Option Addr} {Hd:Array (Option Value)} {kV doc pm jJ ct:Value} (a:autoParam (nsIn K aO cn=some (some (.ref C))) Aq._auto_1) (fi:autoParam (yV K (.ref C) "__init__" = some (some (.ref fa))) Aq._auto_1) (k:autoParam (keepIn K (.ref C)=true) Aq._auto_1)
  (l:autoParam (K.lookup fa=some ⟨oc,od,.func (fnOf "__init__" q (L2.jA st) (L2.fU st) (L2.a5 st) .none kV doc pm an jJ ct),Hd⟩) Aq._auto_1) (e:autoParam (xO K C fa Yn "ValueError.__new__" = true) Ac._auto_1) (fn:autoParam (isFn K (.ref fa)=true) Aq._auto_1) (c:autoParam (codeIn K jJ q=true) Aq._auto_1) (k2:autoParam (keepIn K (.ref fa)=true) Aq._auto_1)
  (ov:autoParam (FR K C=true) Ac._auto_1) (mo:autoParam (mroIn K C (.type "object")=some true) Aq._auto_1) (sa:autoParam (yV K (.ref C) "__setattr__" = some (some (.builtin "object.__setattr__"))) Aq._auto_1) (hd:autoParam (hasDictIn K C=true) Aq._auto_1) (n1:autoParam (yV K (.ref C) f=some none) Aq._auto_1) (n2:autoParam (yV K (.ref C) g=some none) Aq._auto_1) :
  Vl K C cn q f g st fa (fnOf "__init__" q (L2.jA st) (L2.fU st) (L2.a5 st) .none kV doc pm an jJ ct):=⟨a,k,e,fn,L2.MB l c k2,⟨ov,mo,sa,hd⟩,n1,n2⟩
structure Nl(P:bo)(w:World)(K:Frag)(mg:Str->Option Value)(base:Heap)(k:Nat)(fa:Addr)(fd:aL)(C:Addr)(cn:Str)(ps:List Str)(f g:Str)(te:fx):Prop where
 ok:L2.gi P w K mg base kr k fa fd ps (Sj K C f g te)
 bi:L2.Binds K fd ps []
 ns:nsIn K aO cn=some (some (.ref C))
 mg:mg cn=some (.ref C)
 kp:keepIn K (.ref C)=true
 ex:xO K C fa Yn "ValueError.__new__" = true
 fn:isFn K (.ref fa)=true
theorem Vl.Yk{P:bo}{w:World}{K:Frag}{mg:Str->Option Value}{base h:Heap}{k:Nat}{fa:Addr}{fd:aL}{C:Addr}{cn q:Str}{st:Stmt}{ps:List Str}{f g:Str}{te:fx}(z:Vl K C cn q f g st fa fd)(X:K.In h)(G:h.Ns aO mg)(ok:L2.gi P w K mg base kr k fa fd ps (Sj K C f g te))(bi:L2.Binds K fd ps []) :
  Nl P w K mg base k fa fd C cn ps f g te:=⟨ok,bi,z.ns,mg_of X G z.ns,z.kp,z.ex,z.fn⟩
theorem Pc {K:Frag} {f:Addr} (h:isFn K (.ref f)=true):∃ o,K.lookup f=some o/\o.cls=.type "function":=by
 have h:=beq_iff_eq.mp h;have h:(K.lookup f).map (·.cls)=some (.type "function"):=h;cases e:K.lookup f with
 | none=>rw [e] at h; cases h
 | some o=>rw [e] at h; exact⟨o,rfl,bp h⟩
end K2
end
section
namespace K2
open PySem PySem.Spec PyProof.Rows L2 PySem.Builtin PySem.Builtin.ObjectAttr PySem.Calls
noncomputable def del(H:Hp)(a:Addr):Hp:=fun b=>if b=a then none else H b
theorem mM{H:Hp}{a b:Addr}(h:b≠a):del H a b=H b:=if_neg h
theorem xR{H:Hp}{a:Addr}:del H a a=none:=if_pos rfl
theorem MT{H:Hp}{a b:Addr}{u:HO}(h:del H a b=some u):b≠a/\H b=some u:=by
 by_cases e:b=a
 ·subst e; rw [xR] at h; cases h
 ·rw [mM e] at h; exact⟨e,h⟩
section
variable {X:Cx} {pins:List (Addr×Obj)} {σ:L2.St} {H H1:Hp} {s s1:ak} {a:Addr} {o:Obj} {u:HO}
theorem tU{b:Addr}(h:H b=none):del H a b=none:=by
 by_cases e:b=a
 ·subst e; exact xR
 ·rw [mM e]; exact h
theorem Nf(I : Inv X pins σ H s)(I1 : Inv X pins σ H1 s1)(h1 : H1 a = none)(ha : H a = some (.hZ o u)) : Inv X pins σ (del H a) s := by
  have ne : ∀ {b : Addr} {v : HO}, H1 b = some v -> b ≠ a := fun {b v} q e => by rw [e, h1] at q; cases q
  exact { ok := I.ok, os := I.os, bare := I.bare
          base := ⟨I.base.keep, I.base.slot, fun b o q n hx => tU (I.base.free b o q n hx), I.base.there,
            fun b xs q => by rw [mM (ne (I1.base.o8 b xs q))]; exact I.base.o8 b xs q, fun b o v q => by rw [mM (ne (I1.base.oz b o v q))]; exact I.base.oz b o v q,
            fun b ps q => by rw [mM (ne (I1.base.rN b ps q))]; exact I.base.rN b ps q, fun b x q => by rw [mM (ne (I1.base.rQ b x q))]; exact I.base.rQ b x q⟩
          loc := I.loc, cell := I.cell
          free := tU I.free
          iE := fun x c e => tU (I.iE x c e)
          pin := fun p hp => by obtain⟨h1, h2, h3⟩ := I.pin p hp; exact⟨h1, tU h2, h3⟩
          ck := fun b v q => by
            obtain⟨_, q⟩ := MT q;exact(I.ck b v q).iK (fun _ _ _ y => y) (fun c r => by rw [mM (fun z => by rw [z, ha] at r; cases r)]; exact r) (fun c xs r => by rw [mM (fun z => by rw [z, ha] at r; cases r)]; exact r)
          len := I.len }
end
section
variable {M:Model} {A:cx} {E:Value->ak->Prop} {env:Env}
variable {nm q:Str} {C N:Addr} {bs bm:List Value} {md:Bool} {sn:List Str} {sub:List Value} {ab:Bool} {col:Option Bool} {dd:Option Addr} {k0 k1 k2 k3 k5:Option Value} {newId:String}
theorem IL{s:ak}{x:Sem Value}{Q:Flow->ak->Prop}(hh:A.handled=none)
  (h:wpAny M A x (fun v s1=>∃ e t dx C nm q N bs bm md sn sub ab col dd k0 k1 k2 k3 k5 newId,v=.ref e/\bm.contains (.type "BaseException")=true/\s1.heap.get? C=some (jk nm q C N bs bm md sn sub ab col dd k0 k1 k2 k3 k5 newId) /\
   s1.heap.get? e=some (i8 C t dx)/\E (.ref e) s1) E s):wpAny M A (raiseStmt env (some x) none) Q E s:=by
 unfold raiseStmt;refine ae (eA h (fun v s1 h1=>?_) fun _ _ x=>x);obtain⟨e,t,dx,C,nm,q,N,bs,bm,md,sn,sub,ab,col,dd,k0,k1,k2,k3,k5,newId,rfl,hb,hC,he,hE⟩:=h1;have X3:(dI C :: bm).contains (.type "BaseException")=true:=by rw [yh,hb,Bool.or_true]
 obtain⟨hp,g,d,tk,os⟩:=s1
 repeat (first | with_reducible refine ij he ?_ | with_reducible refine ij hC ?_ | (with_reducible refine pE hC ?_; rw [X3]) | wp_step)
 exact wpAny_raiseNew_none hh hE
end
section
variable {X:Cx} {x:Str} {C:Addr} {kK:List Value} {B newId lP:String} {e:Expr} {es:List Expr} {p pos QI:Pos} {t:wu}
theorem EZ{fI:Addr}{f g:Str}{fd:aL}{ps:List Str}{k:Nat}{te:fx}{oI:Obj}(A0:HY X)(hc:X.calm=true)(hk:gv X.K (.ref C)=true)(Bm:bc X.K aO x=some (some (.ref C)))(q:xO X.K C fI kK newId=true)(FB:wG B newId lP kK)
  (UC:X.K.lookup fI=some oI) (UB:oI.cls=.type "function") (F:gi X.prog X.w X.K X.mg X.base kr k fI fd ps (Sj X.K C f g te)) (hr:iC (k+1) X.A) (hb:Binds X.K fd ps []) (hg:Gl X x) (hm:X.mg x=some (.ref C)) (ha:BR X (e :: es) t)
  (yC:autoParam ((x == ("__debug__" : Str))=false) Ad._auto_1) (he:autoParam (a9 (e :: es) X.env=(false,eval e X.env) :: a9 es X.env) Ar._auto_1) (vn:autoParam ((gP pos (a9 es X.env)).any (·.1)=false) Ar._auto_1) :
  B8 X (.Raise (some (.Call (.Name x p) (e :: es) [] pos)) none QI) (hU x [f,g] te t):=by
 intro E pins s σ H τ G Dn hE I h;rw [arm_exec_Raise];refine ae (uk (IL (I.inv.ok.hd hc) (ae ?_)));refine du (mx I.inv hg hm ?_ yC);refine nG (h₀:=X.base) I.inv.ok.mod.Ji hk (wK ha pos hE I h fun vs H1 ds G1 us s1 I1 m1 r rd z=>⟨I1.inv.qg,?_⟩) he vn;obtain⟨hlen,ht,hQ⟩:=z;obtain⟨d1,d2,rfl⟩:∃ d1 d2,ds=[d1,d2]:=by
  match ds,hlen with
  | [d1,d2],_=>exact⟨d1,d2,rfl⟩
 cases rd with
 | @cons v1 _ vs1 _ r1 rd =>
 cases rd with
 | @cons v2 _ vs2 _ r2 rd =>
 cases rd;obtain⟨tl,N,nm,qn,bs,md,sn,sub,ab,col,dd,k0,k1,k2,k3,k5,mN,hC,hN,XB,T⟩:=BA I1.inv.qg q;have XX:=I1.inv.qg _ _ UC;have J1:=I1.inv;obtain⟨hh,g0,d,tt,os⟩:=s1;refine Ge FB T hC hN XB XX UB (fun h' a t0 kp sz e1=>?_) (by rw [aW,<-r.length,bN]; exact lZ rfl);have hn:=I1.inv.ck.fresh (a:=a) sz;have I2:=I1.inv.laid (t':=tt) (a:=a) (o:=XO C t0 a) (h':=h') kp sz (PC e1);have m2:Mv X.K H1 G1 (upd H1 a (XO C t0 a)) G1:=Mv.TV I1.ab hn fun b u hb q=>by rw [bu hb]; exact q
 have Y3:=m2.kp I1.ab;rw [aW];have rr:Vals (.ref a :: [v1,v2]) (.ref a :: us):=.cons rfl r;have Ea:Sj X.K C f g te (.ref a :: [v1,v2]) (upd H1 a (XO C t0 a)) (fun v H'=>v=.cy/\∃ t dx od,(∀ b u,b≠a->(upd H1 a (XO C t0 a)) b=some u->H' b=some u)/\H' a=some (.hZ (i8 C t dx) (.ext fun h=>h.get? a=some (i8 C t dx)))/\H' dx=some (.hZ od (.xd [(f,v1),(g,v2)]))) E0 :=
  ⟨a,v1,v2,t0,d1,d2,rfl,cj,r1.mono Y3,r2.mono Y3,ht a,fun H' t dx od h1 h2 h3=>⟨rfl,t,dx,od,h1,h2,h3⟩⟩
 have hl:(dI a :: us).length=ps.length:=by rw [<-rr.length]; exact F.len _ _ _ _ Ea
 refine mD (jl (F.run _ X.stack _ _ ⟨dI a :: us,[]⟩ (dI a :: us) _ _ E0 (hr.make C us []) (I2.RV.make C us []) (by have:=hb _ (dI a :: us) I2.qg (by rw [bL]; exact hl); rw [bL] at this; exact this) rr Ea) fun r s' Uj=>?_);cases r with
 | error e=>exact Uj.elim
 | ok fl =>
  cases fl with
  | ret u =>
   obtain⟨v,H',I3,rv,ev,t,dx,od,h1,h2,h3⟩:=I2.after Uj;subst ev;have m3:Mv X.K H1 G1 H' G1:=Mv.TV I1.ab hn fun b u hb q=>h1 b u hb (by rw [bu hb]; exact q);have kd:Kp H1 (del H' a):=by
    have kq:∀ b u,H1 b=some u->del H' a b=some u:=fun b u q=>by
     have hb:b≠a:=fun e=>by rw [e,hn] at q; cases q
     rw [mM hb]; exact h1 b u hb (by rw [bu hb]; exact q)
    exact⟨fun b xs q=>kq b _ q,fun b o u q=>kq b _ q⟩
   refine⟨rv,ae (uk (aq ?_))⟩;obtain⟨tl,N,nm,qn,bs,md,sn,sub,ab,col,dd,k0,k1,k2,k3,k5,mN,hC,hN,XB,T⟩:=BA I3.qg q;have NC:dx≠a:=fun z=>by rw [z,h2] at h3; cases h3
   have J4:X.gS.heap.get? a=none:=by
    cases q0:X.gS.heap.get? a with
    | none=>rfl
    | some o =>
     obtain⟨o1,e1⟩:=J1.base.there a o q0 (by rw [A0.ex]; exact ef);have:=aK e1;exact absurd sz (Nat.not_le.mpr this)
   exact⟨a,t,dx,C,nm,qn,N,bs,tl,md,sn,sub,ab,col,dd,k0,k1,k2,k3,k5,newId,rfl,T.hasType FB.hasBase,hC,(I3.ck a _ h2).1,
    hE.LC pins σ (del H' a) _ a C t (i8 C t dx) _ ⟨x,[(f,d1),(g,d2)]⟩ (fun _=>none) (Nf I3 J1 hn h2) (fun _ _ z=>by cases z) (I3.ck a _ h2).1 rfl rfl rfl rfl xR J4 hm
     (.inr ⟨dx,od,[(f,v1),(g,v2)],rfl,by rw [mM NC]; exact h3,rfl,.cons (r1.mono kd) (.cons (r2.mono kd) .nil)⟩) hQ⟩
  | next=>exact bf Uj
  | brk=>exact bf Uj
  | cont=>exact bf Uj
end
section
variable {X:Cx} {x cn n:Str} {D f:Addr} {fd:aL} {ps:List Str} {k i:Nat} {sp:pD} {cat:List Str} {e:Expr} {es:List Expr} {p np pos ep FA tp:Pos} {PG:Stmt} {y7:List Stmt} {t:wu} {th:i6}
theorem RT(ex:Ex):UY ex=.exc ex.cls\/ex.rh≠[]/\UY ex=.uj ex.cls (ex.rh.map (·.1)) (ex.rh.map (·.2)):=by
 obtain⟨c,fl⟩:=ex;cases fl with
 | nil=>exact .inl rfl
 | cons a l=>exact .inr ⟨by simp,rfl⟩
theorem Lh{y:Str}{j:Nat}{py:Pos}(A0:HY X)(L:Clause X i n cn D cat)(hj:X.N[j]?=some y)(hy:Loc X.env.scope y)
  (F:gi X.prog X.w X.K X.mg X.base (yb X.prog X.w) k f fd ps (oU X.K X.mg sp)) (hr:iC k X.A) (hg:Gl X x) (hm:X.mg x=some (.ref f)) (hk:gv X.K (.ref f)=true) (hb:Binds X.K fd ps [])
  (ha:∀ EX,BR (X.sF EX) (e :: es) t) (Xn:∀ v,rj (marked X v) (PG :: y7) th)
  (yC:autoParam ((x == ("__debug__" : Str))=false) Ad._auto_1) (RG:autoParam ((cn == ("__debug__" : Str))=false) Ad._auto_1) (he:autoParam (a9 (e :: es) X.env=(false,eval e X.env) :: a9 es X.env) Ar._auto_1) (vn:autoParam ((gP pos (a9 es X.env)).any (·.1)=false) Ar._auto_1)
  (hs:autoParam (pF (.Call (.Name x p) (e :: es) [] pos) (some (.Name y py)) ep.line X.env=pure false) Ar._auto_1) (hf:autoParam (X.fn y=true\/X.env.scope.names.lookup y=some .local) Ao._auto_1) :
  B8 X (.Try [.Assign [.Name y py] (.Call (.Name x p) (e :: es) [] pos) ep] [.ExceptHandler (some (.Name cn np)) (some n) (PG :: y7) FA] [] [] tp) (HL sp t j i cat th):=by
 intro E pins s σ H τ G Dn hE I h;refine wpAny_Try_except ?_;refine nK (wpAny_Assign_Name ?_ hs);generalize hEX:(fun (e:Value) (eV:ak)=>wpAny (model X.prog X.w) X.A (Kh e X.env) (fun _ iQ=>wpAny (model X.prog X.w) X.A (setFlight e none) (fun _ AI=>wpAny (model X.prog X.w) X.A (handleBy e X.env [.ExceptHandler (some (.Name cn np)) (some n) (PG :: y7) FA]) (Pu X pins H G Dn) X.xe AI) X.xe iQ) X.xe eV)=EX;refine du (mx I.inv hg hm ?_ yC);have I0:I2 (X.sF EX) pins σ H τ G s:=⟨I.inv.sF EX,I.st,I.ab⟩;refine nG (h₀:=X.base) I.inv.ok.mod.Ji hk (wK (X:=X.sF EX) (ha EX) pos (Lk.none fun _ _ z=>z) I0 h fun vs H1 ds G1 us s1 I1 m1 r rd q=>⟨I1.inv.qg,?_⟩) he vn;have J1:Inv X pins σ H1 s1:=I1.inv.nM;refine eA (K1 F hr hb J1 I1.ab r rd q) ?_ ?_
 ·rintro u s' ⟨v,d,G',Hj,I',mv,rv,J2,q',hn⟩;have fg:∀ a o,G' a=some o->G1 a=none:=fun a o e=>I1.ab.free (hn a o e).1;have mu:Mv X.K H1 G1 Hj (JZ G' G1):=by
   refine⟨fun a o e n=>⟨(mv.keep a o e n).1,?_⟩,mv.iK,fun a g eg=>?_⟩
   ·unfold JZ;cases eg:G' a with
    | none=>exact n
    | some g=>have:=(hn a g eg).1; rw [e] at this; cases this
   ·unfold JZ at eg;cases Yi:G' a with
    | none=>rw [Yi] at eg; exact mv.ab a g eg
    | some g'=>rw [Yi] at eg; cases eg; exact(hn a _ Yi).2
  exact wL I' L.nd hj hy rv (fun s2 iN=>ji (ji ⟨_,Hj,_,_,⟨iN,(I1.st.mono (mv.kp I1.ab)).set j J2,mu.ab⟩,m1.trans mu,q' fg⟩)) hf
 ·rintro ev s' ⟨a,C,t0,B,ex,Hj,ea,I',mv,fl,hB,SA,Fy,XW,Rz,_,O6,q'⟩;subst ea; subst hEX;exact DE A0 L Xn J1 I1.st I1.ab m1 I' mv fl hB SA Fy XW Rz O6 (RT ex) q' RG
end
end K2
namespace K2
open PySem PySem.W PySem.Spec PyProof.Rows L2
section
variable {X:Cx} {x:Str} {C:Addr} {e:Expr} {es:List Expr} {p pos QI:Pos} {t:wu}
theorem lK{fI:Addr}{f g:Str}{fd:aL}{ps:List Str}{k:Nat}{te:fx}(A0:HY X)(hc:X.calm=true)(z:Nl X.prog X.w X.K X.mg X.base k fI fd C x ps f g te)(hr:iC (k+1) X.A)(hg:Gl X x)(ha:BR X (e :: es) t)
  (yC:autoParam ((x == ("__debug__" : Str))=false) Ad._auto_1) (he:autoParam (a9 (e :: es) X.env=(false,eval e X.env) :: a9 es X.env) Ar._auto_1) (vn:autoParam ((gP pos (a9 es X.env)).any (·.1)=false) Ar._auto_1) :
  B8 X (.Raise (some (.Call (.Name x p) (e :: es) [] pos)) none QI) (hU x [f,g] te t):=by
 obtain⟨o,h1,h2⟩:=Pc z.fn;exact EZ A0 hc z.kp z.ns z.ex BY h1 h2 z.ok hr z.bi hg z.mg ha yC he vn
end
end K2
end
section
namespace K2
open PySem PySem.W PySem.Spec PyProof.Rows PySem.Calls
theorem Jf{p q:bo}{loose:List Str}{Xt:ak->Bool}{α:Type}{Yf:ak->α}{Ya:World->α}{N:Nat}(e:opening p=plainProg p.main.scope.names)(hN:Nat.ble 600 N=true)(f:∀ s,fenceModules? p s=some s)
  (h:∀ (w:World) (os:OsState),(topFrom treeTable p w N ⟨boot_heap w.params,Array.mk [],boot_drawn,boot_toks,os⟩).map (fun s=>(openSeen q loose (Kj p.main.body) Xt true s,Yf s))=some (openGood q loose,Ya w)):LeftO p q loose Xt Yf Ya N:=fun w=>by
 obtain⟨⟨h',gs,d,k,os⟩,e1,e2⟩:=Option.map_eq_some_iff.mp (boot_open e hN f w);obtain⟨rfl,rfl,rfl,rfl⟩:h'=boot_heap w.params/\gs=Array.mk []/\d=boot_drawn/\k=boot_toks:=by simpa using e2
 unfold openEnds;rw [e1];exact h w os
noncomputable abbrev GG(l:OpenLaw)(q:bo):Bool:=chainsOk q&&opensWell l.row.prog&&(frees l.row.toRowW&&l.row.within.isEmpty)
noncomputable abbrev SY(l:OpenLaw)(q:bo)(s:ak):Bool:=xlAt q [] s&&recOk l.row.records s
theorem Jr{l:OpenLaw}{q:bo}{loose:List Str}{K:Params->Frag}{as:List Addr}{d:DefRec}{N:Nat}(ok:l.wellSaid=true)(e:opening l.row.prog=plainProg l.row.prog.main.scope.names)(hN:Nat.ble 600 N=true)(f:∀ s,fenceModules? l.row.prog s=some s)(hK:∀ P,as=(K P).map (·.1))
  (h:∀ (w:World) (os:OsState),(topFrom treeTable l.row.prog w N ⟨boot_heap w.params,Array.mk [],boot_drawn,boot_toks,os⟩).map (fun s=>(openSeen q loose (Kj l.row.prog.main.body) (SY l q) true s,as.map s.heap.get?))=some (openGood q loose,(K w.params).map fun p=>some p.2))
  (hd:defOf q l.row.name=some (d,[])) (hp:l.row.prog.theDef l.row.name=some (d.params,d.body,d.scope)) (hk:kwWritten? d.params.kwonlyargs d.params.kw_defaults=some []) (hr:(!l.row.writes||l.row.records.isEmpty)=true) (ht:GG l q=true) (hb:l.row.prog.bare) (hw:l.row.toRowW.promised)
  (c:WalkO q loose (XL q []) (InK K) l.row.toRowW d [] fun f vs=>Gw f vs):l.Holds :=
 holds_law ok fun k1=>holds_open (Jf (Yf:=Hook.obs (kHook K as hK)) (Ya:=Hook.val (kHook K as hK)) e hN f h) (Hook.of (kHook K as hK)) (Hook.keeps (kHook K as hK)) (fun s x=>xl_of s (Bool.and_eq_true_iff.mp x).1) XL.keeps hd hp hk (fun s x=>recFacts_of (Bool.and_eq_true_iff.mp x).2) hr k1 ht hb hw c
structure At(K:Frag)(x:Str)(st:Stmt)(f:Addr)(fd:aL):Prop where
 a:nsIn K aO x=some (some (.ref f))
 F:L2.rE K x x st f fd
theorem At.mg{K:Frag}{h:Heap}{mg:Str->Option Value}{x:Str}{st:Stmt}{f:Addr}{fd:aL}(z:At K x st f fd)(X:K.In h)(G:h.Ns aO mg):mg x=some (.ref f):=mg_of X G z.a
theorem je{K:Frag}{x:Str}{st:Stmt}{f:Addr}{oc:Value}{od an:Option Addr}{Hd:Array (Option Value)}{kV doc pm jJ ct:Value}(a:autoParam (nsIn K aO x=some (some (.ref f))) Aq._auto_1)(l:autoParam (K.lookup f=some ⟨oc,od,.func (fnOf x x (L2.jA st) (L2.fU st) (L2.a5 st) .none kV doc pm an jJ ct),Hd⟩) Aq._auto_1)
  (c:autoParam (codeIn K jJ x=true) Aq._auto_1) (k:autoParam (keepIn K (.ref f)=true) Aq._auto_1):At K x st f (fnOf x x (L2.jA st) (L2.fU st) (L2.a5 st) .none kV doc pm an jJ ct):=⟨a,L2.MB l c k⟩
structure yQ(P:bo)(w:World)(K:Frag)(mg:Str->Option Value)(base:Heap)(CX:L2.JN)(k:Nat)(f:Addr)(fd:aL)(x:Str)(ps:List Str)(sp:L2.Sp):Prop where
 ok:L2.gi P w K mg base CX k f fd ps sp
 mg:mg x=some (.ref f)
 kp:keepIn K (.ref f)=true
 bi:L2.Binds K fd ps []
end K2
end
section
namespace K2
namespace vB
noncomputable def ab(c:Int):Int:=if c < 0 then -c else c
variable {α:Type}
noncomputable def YJ(f:Int->Int)(r:Int->List α):Nat->Int->List Int->List α->List α×List Int
 | 0,_,KJ,ps=>(ps,KJ)
 | k+1,p,KJ,ps=>if p∈KJ then (ps,KJ) else YJ f r k (f p) (KJ++[p]) (ps++r p)
noncomputable def cls(f:Int->Int)(r:Int->List α):List Int->List (List α)->List Int->List (List α)
 | [],rows,_=>rows
 | t :: ts,rows,met=>if t∈met then cls f r ts rows met else
  let s:=YJ f r 4 t [] []
  cls f r ts (rows++[s.1]) (met++s.2)
end vB
end K2
end
section
namespace K2
open PySem (Str)
open Enc (enc)
theorem ou{α:Type} [DecidableEq α] [Enc α]{G G1:Gp}{p:Nat}{xs:List α}{Q:DK}(l:jE G G1)(hp:G p=none)(h1:G1 p=some (.lst (xs.map enc)))(q:Q (enc xs) G):Ng G1 (.ref p) Q :=
 Mx l hp h1 (HW.same _) q
theorem k8{α:Type}{f:α->D}{g:yM}{body:i6}{ok:Gp->Prop}{xs:List α}{E:kC}{K:kR}{τ:hV}{G:Gp}(I:List α->hV->Gp->Prop)
  (h0:I [] τ G) (ck:∀ pre τ G,I pre τ G->ok G)
  (step:∀ (pre:List α) (x:α) (post:List α) τ G (N:hV->Gp->Prop),xs=pre++x :: post->I pre τ G->(∀ vJ G2,I (pre++[x]) vJ G2->N vJ G2) ->
   g E (f x) τ G fun rM G1=>body E { K with nx:=N,ct:=N,bk:=K.nx } rM G1)
  (fin:∀ τ G,I xs τ G->K.nx τ G):oY g body ok (xs.map f) E K τ G:=by
 have main:∀ (post pre:List α) τ G,xs=pre++post->I pre τ G->oY g body ok (post.map f) E K τ G:=by
  intro post;induction post with
  | nil =>
   intro pre τ G e h;rw [bL] at e;subst e;exact⟨ck _ _ _ h,fin _ _ h⟩
  | cons d post ih =>
   intro pre τ G e h;refine⟨ck _ _ _ h,?_⟩;exact step pre d post τ G _ e h fun vJ G2 h2=>ih (pre++[d]) vJ G2 (by rw [e,cM]; rfl) h2
 exact main xs [] τ G rfl h0
theorem nC{α:Type}{f:α->D}{g:yM}{c:Option wt}{e:fx}{ok:Gp->Prop}{xs:List α}{E:kC}{τ:hV}{G:Gp}{Q:List D->Gp->Prop}(I:List α->List D->hV->Gp->Prop)
  (h0:I [] [] τ G) (ck:∀ pre acc τ G,I pre acc τ G->ok G)
  (step:∀ (pre:List α) (x:α) (post:List α) (acc:List D) τ G (N:hV->List D->Gp->Prop),xs=pre++x :: post->I pre acc τ G->(∀ vJ JJ G2,I (pre++[x]) JJ vJ G2->N vJ JJ G2) ->
   g E (f x) τ G fun rM G1=>match c with
    | none=>e E rM G1 fun x G2=>N rM (acc++[x]) G2
    | some c=>c E rM G1 fun k G2=>if k=true then e E rM G2 fun x G3=>N rM (acc++[x]) G3 else N rM acc G2)
  (fin:∀ acc τ G,I xs acc τ G->Q acc G):jX g c e ok (xs.map f) E τ G [] Q:=by
 have main:∀ (post pre:List α) (acc:List D) τ G,xs=pre++post->I pre acc τ G->jX g c e ok (post.map f) E τ G acc Q:=by
  intro post;induction post with
  | nil =>
   intro pre acc τ G e h;rw [bL] at e;subst e;exact⟨ck _ _ _ _ h,fin _ _ _ h⟩
  | cons d post ih =>
   intro pre acc τ G e' h;refine⟨ck _ _ _ _ h,?_⟩;have:=step pre d post acc τ G (fun vJ JJ G2=>jX g c e ok (post.map f) E vJ G2 JJ Q) e' h fun vJ JJ G2 h2=>ih (pre++[d]) JJ vJ G2 (by rw [e',cM]; rfl) h2;cases c with
   | none=>exact this
   | some c=>exact this
 exact main xs [] [] τ G rfl h0
theorem wa{α:Type} [DecidableEq α] [Enc α]{xs:List α}{G:Gp}{R:List D->(Gp->Prop)->Gp->Prop}(h:R (xs.map enc) (fun _=>True) G):OZ (enc xs) G R:=h
theorem C5{α:Type} [DecidableEq α] [Enc α]{xs:List α}{G:Gp}{R:List D->(Gp->Prop)->Gp->Prop}(h:R (mz 0 (xs.map enc)) (fun _=>True) G):tK (enc xs) G R:=h
theorem Nu{n:Nat}(h:n<=1000):n<=SZ:=by unfold SZ; lia
theorem N6{n:Nat}(h:n<=1000):n < SZ:=by unfold SZ; lia
noncomputable abbrev Rows:=List (List T3)
noncomputable def T3.s(p:T3):T2:=⟨p.a,p.b⟩
structure Dr(rows:Rows):Prop where
 nd:(rows.flatten.map T3.s).Nodup
 way:∀ p∈rows.flatten,p.b=0\/p.b=1
 hand:∀ p∈rows.flatten,p.c=1\/p.c=-1
 T1:∀ p∈rows.flatten,(⟨p.a,1 - p.b,p.c⟩:T3)∈rows.flatten
 rZ:rows.flatten.length<=24
 str:rows.length<=3
namespace P
noncomputable def ik:pD:=Wj (fun rows:Rows=>rows.flatten.length<=1000) fun rows=>rows.flatten
noncomputable def pX:i6 :=
 (bX (cW (i9 aU) (bb 1))
 (bX (jW (pb (ay 0)) (bb 2) (iF (B6 D6 v7 (ay 1) (aw (ay 2) aU))))
 (cu (fu (ay 1)))))
theorem qx(ds:List D)(G:Gp)(Q:DK)(h:ik ds G Q fun _ _=>False):pX (fun _ _=>False) (ends Q) (bP 3 ds) G:=by
 obtain⟨rows,rfl,hl,q⟩:=h;unfold pX;simp only [ends,bP,aI,br,ah,ar,bq,a6,aW,dZ,cW,i9,aU,bb,az,av];refine⟨by decide,fun p hp=>?_⟩;refine iL (fun τ G'=>(∃ b,τ=[some (enc rows),some (.ref p),b])/\jE G G'/\G' p=some (.lst (rows.flatten.map enc))) ?_ ?_
 ·intro N hN;simp only [jW,e8,ay,aa];refine wa ?_;refine k8 (xs:=rows) (fun pre τ G'=>(∃ b,τ=[some (enc rows),some (.ref p),b])/\jE G G'/\G' p=some (.lst (pre.flatten.map enc))) ⟨⟨_,rfl⟩,.new hp,bg⟩ (fun _ _ _ _=>trivial) ?_ ?_
  ·rintro pre r post τ G' N2 e ⟨⟨b,rfl⟩,l,gp⟩ zA;have hlen:pre.flatten.length+r.length<=rows.flatten.length:=by
    rw [e]; simp only [ie,cA,aB]; lia
   simp only [bb,iF,B6,ay,az,av,af,aa,jm,gp,aw,aU,ip,jw (IsL.enc r),true_and];refine⟨Nu (by simp only [aj]; lia),?_⟩;refine zA _ _ ⟨⟨_,rfl⟩,l.put hp,?_⟩;rw [bg]; simp
  ·rintro τ G' ⟨⟨b,rfl⟩,l,gp⟩;exact hN _ _ ⟨⟨_,rfl⟩,l,gp⟩
 ·rintro _ G' ⟨⟨b,rfl⟩,l,gp⟩;simp only [cu,fu,ay,af,aa];exact ou l hp gp q
theorem uT(p:T3):(enc p:D)=.tup [.int p.a,.int p.b,.int p.c]:=rfl
theorem SH{a:D}{r:List D}:qu (a :: r) 0=some a:=by
 rw [oO _ (by lia) (by simp)]; rfl
theorem Qh{a b:D}{r:List D}:qu (a :: b :: r) 1=some b:=by
 rw [oO _ (by lia) (by simp; lia)]; rfl
theorem at2{a b c:D}{r:List D}:qu (a :: b :: c :: r) 2=some c:=by
 rw [oO _ (by lia) (by simp; lia)]; rfl
noncomputable def names(rows:Rows):List Int:=GL ((rows.flatten.filter fun p=>p.b == 0).map (·.a))
theorem Pj{a b c:D}:cut [a,b,c] none (some 2)=[a,b]:=rfl
theorem zb{κ α:Type} [DecidableEq κ] [Enc κ] [qy κ] [DecidableEq α] [Enc α]{a:Nat}{l:List (κ×α)}{k:κ}{v:α}{G:Gp}{Q:Gp->Prop}(h:G a=some (.kI (eO l)))(hl:l.length<=1000)(q:Q (dO G a (.kI (eO (Gk l k v))))):Cq (.ref a) (enc k) (enc v) G Q:=by
 unfold Cq;simp only [h];refine⟨jS l k,?_,by rw [Ow]; exact q⟩;unfold eO; rw [aj]; exact N6 hl
noncomputable def lft(s:T2):T3:=⟨s.a,s.b,0⟩
end P
class inductive Cn {α:Type} (ps:List (α×α)):α->α->Prop
 | refl (x:α):Cn ps x x
 | pair {x y:α}:(x,y)∈ps->Cn ps x y
 | symm {x y:α}:Cn ps x y->Cn ps y x
 | trans {x y z:α}:Cn ps x y->Cn ps y z->Cn ps x z
theorem GW{α:Type} [DecidableEq α] [Enc α]{neg:Bool}{x:α}{xs:List α}{G:Gp}{Q:DK}(hd:Enc.dep α<=7)(q:Q (.bl (if neg then !decide (x∈xs) else decide (x∈xs))) G):rO neg (enc x) (enc xs) G Q:=by
 refine⟨enc x,xs.map enc,Enc.sn _ _ _ (by unfold SN; lia),pT G 7 hd xs,?_⟩;rw [BP]; exact q
class BV (α:Type) [DecidableEq α] [Enc α] [bM α] where
 mn:∀ {x:D} {G:Gp} {xs:List α} {Q:DK},itemsOf x G=some (xs.map enc)->xs≠[]->(∀ m∈xs,(∀ y∈xs,xw m y=true)->Q (enc m) G)->M5 [x] G Q
theorem jT{α:Type} [DecidableEq α] [Enc α] [bM α]:∀ (r:List α) (a:α),r.foldl (fun m x=>if bM.lt x m=true then x else m) a∈a :: r/\∀ y∈a :: r,xw (r.foldl (fun m x=>if bM.lt x m=true then x else m) a) y=true
 | [],a=>⟨by simp,fun y hy=>by rw [List.mem_singleton.mp hy]; unfold xw; rw [List.foldl_nil,bM.LX]; rfl⟩
 | b :: r,a=>by
  rw [ug];by_cases c:bM.lt b a=true
  ·rw [if_pos c];obtain⟨h1,h2⟩:=jT r b;refine⟨aN _ h1,fun y hy=>?_⟩;rcases List.mem_cons.mp hy with rfl | hy
   ·refine uL _ _ _ (h2 b (by simp)) ?_;unfold xw;cases q:bM.lt y b with
    | false=>rfl
    | true=>have:=bM.trans _ _ _ q c; rw [bM.LX] at this; cases this
   ·exact h2 y hy
  ·rw [if_neg c];obtain⟨h1,h2⟩:=jT r a;refine⟨?_,fun y hy=>?_⟩
   ·rcases List.mem_cons.mp h1 with h | h
    ·rw [h]; simp
    ·exact aN _ (aN _ h)
   ·rcases List.mem_cons.mp hy with rfl | hy
    ·exact h2 y (by simp)
    ·rcases List.mem_cons.mp hy with rfl | hy
     ·refine uL _ _ _ (h2 a (by simp)) ?_;unfold xw; simpa using c
     ·exact h2 y (aN _ hy)
noncomputable instance:BV Int where
 mn:=by
  intro x G xs Q hi lX k;cases xs with
  | nil=>exact absurd rfl lX
  | cons a r =>
   obtain⟨h1,h2⟩:=jT r a;refine .inl ⟨a :: r,_,hi,rfl,?_⟩;have:(fun (m x:Int)=>if x < m then x else m)=fun m x=>if bM.lt x m=true then x else m:=by
    funext m x;show (if x < m then x else m)=if decide (x < m)=true then x else m
    simp
   show Q (enc (r.foldl (fun m x=>if x < m then x else m) a)) G;rw [this];exact k _ h1 h2
theorem xp:∀ (x y:List Int),qZ (fun a b=>decide (a < b)) x y=lexLt x y
 | [],[]=>rfl
 | [],_ :: _=>rfl
 | _ :: _,[]=>rfl
 | a :: x,b :: y=>by simp only [xq,lexLt,xp x y]
noncomputable instance:BV T3 where
 mn:=by
  intro x G xs Q hi lX k;cases xs with
  | nil=>exact absurd rfl lX
  | cons a r =>
   obtain⟨h1,h2⟩:=jT r a;have ei:itemsOf x G=some (((a :: r).map T3.l).map tI):=by rw [hi,fN]; rfl
   refine .inr ⟨(a :: r).map T3.l,_,ei,rfl,?_⟩;have:∀ (r:List T3) (a:T3),(r.map T3.l).foldl (fun m x=>if lexLt x m=true then x else m) a.l=(r.foldl (fun m x=>if bM.lt x m=true then x else m) a).l:=by
    intro r;induction r with
    | nil=>intro a; rfl
    | cons b r ih =>
     intro a;rw [aI,ug,ug];have e:(if lexLt b.l a.l=true then b.l else a.l)=(if bM.lt b a=true then b else a).l:=by
      have:bM.lt b a=lexLt b.l a.l:=xp _ _;rw [this];split <;> rfl
     rw [e]; exact ih _
   rw [this r a];exact k _ h1 h2
namespace P
section
variable {α:Type} [DecidableEq α] [Enc α] [bM α] [qy α] [BV α]
structure GI(ms:List α)(ps:List (α×α))(l:List (α×List α)):Prop where
 len:l.length<=64
 at':∀ m∈ms,∃ g,lh l m=some g/\g.Nodup/\∀ x,x∈g↔Cn ps m x
end
end P
namespace P
theorem CS{κ β:Type} [DecidableEq κ]{l:List (κ×β)}{k:κ}{v:β}(h:lh l k=some v):(k,v)∈l:=by
 unfold lh at h;cases q:l.find? (fun p=>decide (p.1=k)) with
 | none=>rw [q] at h; cases h
 | some p =>
  rw [q] at h;have h1:=List.find?_some q;have h2:=List.mem_of_find?_eq_some q;simp at h h1;rw [<-h,<-h1]; exact h2
variable {rows:Rows}
end P
namespace P
variable {rows:Rows}
end P
namespace yo
open K2.P
noncomputable def vi:i6 :=
 (bX (dg (ez (aQ Vt (ay 1) (jN ko (aw (ay 0) aU)))) (cu (fu (aQ kB (ay 0) (ay 1)))) bR)
 (cu (fu (dC (.int 0)))))
noncomputable def kQ(ns:List Int)(k:Int):Int:=ns.getD k.toNat 0
noncomputable def c6:pD:=fun ds G Q _=>∃ (ns:List Int) (k:Int),ds=[.eL (ns.map D.int),.int k]/\0<=k/\Q (.int (kQ ns k)) G
theorem vA(ds:List D)(G:Gp)(Q:DK)(h:c6 ds G Q fun _ _=>False):vi (fun _ _=>False) (ends Q) (bP 2 ds) G:=by
 obtain⟨ns,k,rfl,h0,q⟩:=h;unfold vi;simp only [bX,dg,bP,aI,br,ah,ar,a6,aW,cu,fu,aQ,ay,aa,af,ends,kf,bR,dC,cV,jN,aw,aU,lS,nR,aZ];split
 ·rename_i h;have h1:k < (ns.map D.int).length:=by simpa using h
  rw [oO _ h0 h1];simp only [eT];rw [aj] at h1;have e:kQ ns k=ns[k.toNat]:=by unfold kQ; rw [aH,ai (by lia)]; rfl
  rw [<-e]; exact kP q
 ·rename_i h;have h1:¬ k < (ns.map D.int).length:=by simpa using h
  rw [aj] at h1;have e:kQ ns k=0:=by unfold kQ; rw [aH,iU (by lia)]; rfl
  rw [<-e]; exact kP q
noncomputable def sR:i6 :=
 (cu (fu (xW (DB "int" (ay 0)) (MX (DB "bool" (ay 0))))))
noncomputable def dq:pD:=fun ds G Q _=>∃ i:Int,ds=[.int i]/\Q (.bl true) G
theorem t9(ds:List D)(G:Gp)(Q:DK)(h:dq ds G Q fun _ _=>False):sR (fun _ _=>False) (ends Q) (bP 1 ds) G:=by
 obtain⟨i,rfl,q⟩:=h;unfold sR;simp only [cu,fu,bP,aI,br,ah,ar,a6,aW,ends,iS,lQ,i4,ay,aa,lO,aZ];simpa using kP q
structure HR(G G':Gp)(p0:Nat)(as:List Nat)(rs:Rows):Prop where
 le:jE G G'
 fp:G p0=none
 gp:G' p0=some (.lst (as.map D.ref))
 np:p0∉as
 nd:as.Nodup
 fr:∀ a∈as,G a=none
 len:as.length=rs.length
 at':∀ (i a:Nat) (r:List T3),as[i]?=some a->rs[i]?=some r->G' a=some (.lst (r.map enc))
theorem HR.put{G G':Gp}{p0:Nat}{as:List Nat}{rs:Rows}(h:HR G G' p0 as rs){j a:Nat}{r':List T3}(ha:as[j]?=some a):HR G (dO G' a (.lst (r'.map enc))) p0 as (rs.set j r'):=by
 have hm:a∈as:=cz ha;have hj:j < as.length:=(List.getElem?_eq_some_iff.mp ha).1;refine⟨h.le.put (h.fr a hm),h.fp,?_,h.np,h.nd,h.fr,by rw [cL]; exact h.len,fun i b r hb hr=>?_⟩
 ·rw [dN (by rintro rfl; exact h.np hm)]; exact h.gp
 ·by_cases e:i=j
  ·subst e;rw [ha] at hb; cases hb;rw [cZ (by have:=h.len; lia)] at hr;cases hr;exact bg
  ·have:b≠a:=by
    rintro rfl;have h1:=List.getElem?_eq_some_iff.mp hb;have h2:=List.getElem?_eq_some_iff.mp ha;have pw:=List.pairwise_iff_getElem.mp h.nd;rcases Nat.lt_trichotomy i j with lt | eq | gt
    ·exact pw i j h1.1 h2.1 lt (h1.2.trans h2.2.symm)
    ·exact e eq
    ·exact pw j i h2.1 h1.1 gt (h2.2.trans h1.2.symm)
   rw [dN this];rw [dR (fun z=>e z.symm)] at hr;exact h.at' i b r hb hr
theorem HR.fz{G G':Gp}{p0:Nat}{as:List Nat}{rs:Rows}(h:HR G G' p0 as rs){Q:DK}(q:Q (enc rs) G):Ng G' (.ref p0) Q:=by
 refine Mx h.le h.fp h.gp (ss:=rs.map enc) ?_ q;have:∀ (as:List Nat) (rs:Rows),as.length=rs.length->(∀ a∈as,G a=none)->(∀ (i a:Nat) (r:List T3),as[i]?=some a->rs[i]?=some r->G' a=some (.lst (r.map enc)))->HW G' (fun a=>(G a).isNone) (as.map D.ref) (rs.map enc):=by
  intro as;induction as with
  | nil=>intro rs hl _ _; cases rs with
   | nil=>exact .nil
   | cons _ _=>cases hl
  | cons a as ih =>
   intro rs hl hf Ec;cases rs with
   | nil=>cases hl
   | cons r rs =>
    refine .cons (.ref (Ec 0 a r rfl rfl) (by simp [hf a (by simp)]) (HW.same _)) ?_;exact ih rs (by simpa using hl) (fun b hb=>hf b (aN _ hb)) fun i b s h1 h2=>Ec (i+1) b s h1 h2
 exact this as rs h.len h.fr h.at'
theorem sJ{x:T3}{r r':List T3}(hr:r'.Perm (x :: r)):∀ (rs:Rows) (j:Nat),rs[j]?=some r->(rs.set j r').flatten.Perm (x :: rs.flatten)
 | [],j,h=>by cases h
 | s :: rs,0,h=>by
  cases h;rw [av,cA,cA];exact hr.append_right _
 | s :: rs,j+1,h=>by
  rw [az,cA,cA];exact((sJ hr rs j h).append_left s).trans List.perm_middle
structure MI(st:Int)(n:Nat)(name:Int)(L:List T3):Prop where
 off:∃ off:Int,0<=off/\off<=83 * n/\name=(st+off) % 999/\∀ p∈L,∃ o:Int,0 < o/\o<=off/\p.a=(st+o) % 999+1
 nd:(L.map T3.s).Nodup
 way:∀ p∈L,p.b=0\/p.b=1
 hand:∀ p∈L,p.c=1\/p.c=-1
 T1:∀ p∈L,(⟨p.a,1 - p.b,p.c⟩:T3)∈L
 len:L.length=2 * n
theorem tL{G G2:Gp}{d:D}{ds:List D}{R:List D->(Gp->Prop)->Gp->Prop}(h:IsL G d ds)(l:jE G G2)(k:∀ ok:Gp->Prop,(∀ G',jE G G'->ok G')->R ds ok G2):OZ d G2 R:=by
 rcases h with rfl | ⟨a,rfl,e⟩
 ·exact k _ fun _ _=>trivial
 ·rw [Bl (l a _ e)]; exact k _ fun G' l=>l a _ e
theorem iq{r:List T3}:∀ {rs:Rows},r∈rs->r.length<=rs.flatten.length
 | a :: rs,h=>by
  rw [cA,aB];rcases List.mem_cons.mp h with rfl | h
  ·lia
  ·have:=iq h; lia
theorem KO(x:T3)(r:List T3)(i:Nat):(r.take i++x :: r.drop i).Perm (x :: r):=by
 refine List.perm_middle.trans (.cons _ ?_);rw [lU]
end yo
namespace vB
open K2.P
theorem j5{α:Type} [DecidableEq α] [Enc α]{neg:Bool}{x:α}{xs:List α}{G:Gp}{Q:DK}(hd:Enc.dep α<=7)(q:Q (.bl (if neg then !decide (x∈xs) else decide (x∈xs))) G):rO neg (enc x) (.tup (xs.map enc)) G Q:=by
 refine⟨enc x,xs.map enc,Enc.sn _ _ _ (by unfold SN; lia),pT G 7 hd xs,?_⟩;rw [BP]; exact q
end vB
namespace vB
open K2.P
noncomputable def Ok(n:Int)(cs:List Int):Prop:=n<=3/\cs.length<=40/\∀ c∈cs,1<=ab c/\ab c < n
end vB
namespace vB
open K2.P
noncomputable def Good(n:Int)(cs:List Int):Prop:=(1<=n/\n<=3)/\cs.length<=12/\∀ c∈cs,1<=ab c/\ab c < n
noncomputable instance (n:Int) (cs:List Int):Decidable (Good n cs):=by unfold Good; exact inferInstance
end vB
namespace vB
open K2.P
noncomputable def hX:List T3->T3
 | []=>⟨0,0,0⟩
 | a :: r=>r.foldl (fun m x=>if bM.lt x m=true then x else m) a
theorem jx{r:List T3}(h:r≠[]):hX r∈r:=by
 cases r with
 | nil=>exact absurd rfl h
 | cons a r=>exact(jT r a).1
theorem mw{r:List T3}{y:T3}(hy:y∈r):xw (hX r) y=true:=by
 cases r with
 | nil=>cases hy
 | cons a r=>exact(jT r a).2 y hy
noncomputable def eD(r:List T3):List T3:=r.drop (r.idxOf (hX r))++r.take (r.idxOf (hX r))
theorem DG{x:D}{G:Gp}{r:List T3}{Q:DK}(hi:itemsOf x G=some (r.map enc))(lX:r≠[])(q:Q (enc (hX r)) G):M5 [x] G Q :=
 BV.mn hi lX fun m hm hl=>by
  have:m=hX r:=xu _ _ (hl _ (jx lX)) (mw hm);rw [this]; exact q
theorem xj{x:D}{G:Gp}{r:List T3}{Q:DK}(ht:D6 x G)(hi:itemsOf x G=some (r.map enc))(lX:r≠[])(q:Q (.int ((r.idxOf (hX r):Nat):Int)) G):Be x [enc (hX r)] G Q:=by
 refine⟨ht,r.map enc,enc (hX r),r.map enc,hi,Enc.sn G 8 _ (by decide),pT G 7 (by decide) r,?_⟩;have e:(r.map enc).findIdx? (g4 · (enc (hX r)))=some (r.idxOf (hX r)):=by
  have hf:(fun y:T3=>g4 (enc y) (enc (hX r)))=fun y=>y == hX r:=by
   funext y;rw [Enc.eqv];by_cases h:y=hX r <;> simp [h]
  rw [List.findIdx?_map];show List.findIdx? (fun y=>g4 (enc y) (enc (hX r))) r=_;rw [hf];have hm:=jx lX;rw [List.idxOf];rw [List.findIdx?_eq_some_iff_findIdx_eq];exact⟨List.findIdx_lt_length.mpr ⟨_,hm,by simp⟩,rfl⟩
 rw [e]; exact q
end vB
namespace P
variable {rows:Rows}
end P
namespace K3
open K2.P K2.yo
inductive Rl (G:Gp):List D->Rows->Prop
 | nil:Rl G [] []
 | cons {x:D} {r:List T3} {xs:List D} {rs:Rows}:IsL G x (r.map enc)->Rl G xs rs->Rl G (x :: xs) (r :: rs)
noncomputable def yP(G:Gp)(d:D)(rows:Rows):Prop:=∃ ds,IsL G d ds/\Rl G ds rows
theorem Rl.enc{G:Gp}:∀ (rows:Rows),Rl G (rows.map Enc.enc) rows
 | []=>.nil
 | r :: rs=>.cons (IsL.enc r) (Rl.enc rs)
theorem yP.enc{G:Gp}(rows:Rows):yP G (Enc.enc rows) rows:=⟨_,IsL.enc rows,Rl.enc rows⟩
theorem GS{G':Gp}:∀ (as:List Nat) (rs:Rows),as.length=rs.length->(∀ (i a:Nat) (r:List T3),as[i]?=some a->rs[i]?=some r->G' a=some (.lst (r.map enc)))->Rl G' (as.map D.ref) rs
 | [],[],_,_=>.nil
 | [],_ :: _,h,_=>by cases h
 | _ :: _,[],h,_=>by cases h
 | a :: as,r :: rs,h,Ec=>.cons (IsL.ref (Ec 0 a r rfl rfl)) (GS as rs (by simpa using h) fun i b s h1 h2=>Ec (i+1) b s h1 h2)
theorem HR.rw{G G':Gp}{p0:Nat}{as:List Nat}{rs:Rows}(h:HR G G' p0 as rs):yP G' (.ref p0) rs:=⟨_,IsL.ref h.gp,GS as rs h.len h.at'⟩
theorem RP{g:yM}{body:i6}{ok:Gp->Prop}{ds:List D}{rows:Rows}{E:kC}{K:kR}{τ:hV}{G G0:Gp}(rl:Rl G0 ds rows)(I:Rows->hV->Gp->Prop)
  (h0:I [] τ G) (ck:∀ pre τ G,I pre τ G->ok G)
  (step:∀ (pre:Rows) (r:List T3) (post:Rows) (x:D) τ G (N:hV->Gp->Prop),rows=pre++r :: post->IsL G0 x (r.map enc)->I pre τ G->(∀ vJ G2,I (pre++[r]) vJ G2->N vJ G2) ->
   g E x τ G fun rM G1=>body E { K with nx:=N,ct:=N,bk:=K.nx } rM G1)
  (fin:∀ τ G,I rows τ G->K.nx τ G):oY g body ok ds E K τ G:=by
 have main:∀ (post pre:Rows) (ds:List D) τ G,Rl G0 ds post->rows=pre++post->I pre τ G->oY g body ok ds E K τ G:=by
  intro post;induction post with
  | nil =>
   intro pre ds τ G rl e h;cases rl;rw [bL] at e;subst e;exact⟨ck _ _ _ h,fin _ _ h⟩
  | cons r post ih =>
   intro pre ds τ G rl e h;cases rl with
   | cons hx rl =>
    refine⟨ck _ _ _ h,?_⟩;exact step pre r post _ τ G _ e hx h fun vJ G2 h2=>ih (pre++[r]) _ vJ G2 rl (by rw [e,cM]; rfl) h2
 exact main rows [] ds τ G rl rfl h0
noncomputable def used(u:List Int)(n:Int):List Int:=if n∈u then u else u++[n]
noncomputable def vr(u:List Int)(ns:List Int):List Int:=ns.foldl used u
theorem KD(u:List Int)(n:Int):(used u n).length<=u.length+1:=by unfold used; split <;> simp
theorem qQ:∀ (ns u:List Int),(vr u ns).length<=u.length+ns.length
 | [],u=>by simp [vr]
 | n :: ns,u=>by
  have:=qQ ns (used u n);have h2:=KD u n;show (vr (used u n) ns).length<=_;rw [ah]; lia
theorem HH(u a b:List Int):vr u (a++b)=vr (vr u a) b:=by unfold vr; rw [List.foldl_append]
theorem MU:∀ (ns u:List Int),u.Nodup->(vr u ns).Nodup
 | [],u,h=>h
 | n :: ns,u,h=>by
  refine MU ns (used u n) ?_;unfold used;split
  ·exact h
  ·rename_i hn;rw [lq];refine⟨h,by simp,fun a ha b hb e=>?_⟩;rw [gC] at hb;subst hb e;exact hn ha
theorem wg:∀ (ns u:List Int) (x:Int),x∈vr u ns↔x∈u\/x∈ns
 | [],u,x=>by simp [vr]
 | n :: ns,u,x=>by
  show x∈vr (used u n) ns↔_;rw [wg ns];unfold used;split
  ·rename_i hn;constructor
   ·rintro(h | h)
    ·exact .inl h
    ·exact .inr (aN _ h)
   ·rintro(h | h)
    ·exact .inl h
    ·rcases List.mem_cons.mp h with rfl | h
     ·exact .inl hn
     ·exact .inr h
  ·rw [List.mem_append,gC,rp,or_assoc]
noncomputable def jy(rows:Rows):List Int:=GL (vr [] (rows.flatten.map (·.a)))
theorem Ot{α:Type} [DecidableEq α] [Enc α]{neg:Bool}{x:α}{xs:List α}{a:Nat}{G:Gp}{Q:DK}(hd:Enc.dep α<=7)(h:G a=some (.lst (xs.map enc)))(q:Q (.bl (if neg then !decide (x∈xs) else decide (x∈xs))) G):rO neg (enc x) (.ref a) G Q:=by
 unfold rO;simp only [h];refine⟨_,_,Enc.sn G 8 x (by lia),pT G 7 hd xs,?_⟩;rw [BP]; exact q
theorem Rn{c:wt}{a b:i6}{E:kC}{K:kR}{τ:hV}{G:Gp}:dg c a b E K τ G=c E τ G fun k G1=>if k=true then a E K τ G1 else b E K τ G1:=rfl
noncomputable def dP:pD:=fun ds G Q _=>∃ (d:D) (rows:Rows),ds=[d]/\yP G d rows/\rows.flatten.length < 64/\Q (enc (jy rows)) G
noncomputable def sT:i6 :=
 (bX (cW (i9 aU) (bb 1))
 (bX (jW (pb (ay 0)) (bb 2) (jW (pb (ay 2)) (bb 3) (dg (ez (aQ (rO true) (aQ kB (ay 3) (dC (.int 0))) (ay 1))) (iF (B6 D6 tm (ay 1) (aw (aQ kB (ay 3) (dC (.int 0))) aU))) bR)))
 (cu (fu (jN wm (aw (ay 1) aU))))))
theorem ub(ds:List D)(G:Gp)(Q:DK)(h:dP ds G Q fun _ _=>False):sT (fun _ _=>False) (ends Q) (bP 4 ds) G:=by
 obtain⟨d,rows,rfl,⟨ds,hd,rl⟩,hl,q⟩:=h;unfold sT;simp only [ends,bP,aI,br,ah,ar,bq,a6,aW,dZ,cW,i9,aU,bb,az,av];refine⟨by decide,fun p hp=>?_⟩;refine iL (fun τ G'=>(∃ a b,τ=[some d,some (.ref p),a,b])/\jE G G'/\G' p=some (.lst ((vr [] (rows.flatten.map (·.a))).map enc))) ?_ ?_
 ·intro N hN;simp only [jW,e8,ay,aa];refine tL hd (jE.new hp) fun ok ck=>?_;refine RP rl (fun pre τ G'=>(∃ a b,τ=[some d,some (.ref p),a,b])/\jE G G'/\G' p=some (.lst ((vr [] (pre.flatten.map (·.a))).map enc))) ⟨⟨_,_,rfl⟩,.new hp,bg⟩ (fun _ _ _ h=>ck _ h.2.1) ?_ ?_
  ·rintro pre r post x τ G' N2 e hx ⟨⟨a,b,rfl⟩,l,gp⟩ zA;have hlen:pre.flatten.length+r.length<=rows.flatten.length:=by
    rw [e]; simp only [ie,cA,aB]; lia
   simp only [bb,jW,az,av,e8,ay,af,aa];refine tL hx l fun WD Rw=>?_;refine k8 (xs:=r) (fun pp τ G'=>(∃ a b,τ=[some d,some (.ref p),a,b])/\jE G G'/\G' p=some (.lst ((vr (vr [] (pre.flatten.map (·.a))) (pp.map (·.a))).map enc))) ⟨⟨_,_,rfl⟩,l,gp⟩ (fun _ _ _ h=>Rw _ h.2.1) ?_ ?_
   ·rintro pp t pt τ G4 N3 e4 ⟨⟨a,b,rfl⟩,l4,UP⟩ P9;have hpp:pp.length < r.length:=by have:=congrArg gE e4; simp at this; lia
    have hz:=qQ (pp.map (·.a)) (vr [] (pre.flatten.map (·.a)));have Y9:=qQ (pre.flatten.map (·.a)) [];rw [aj] at hz Y9;rw [ar] at Y9;simp only [bb,uT,az,av,Rn,iF,B6,ay,af,aa,jm,aw,aQ,dC,aU,gG,eN,SH,bR,cV];refine Ot (x:=t.a) (xs:=vr (vr [] (pre.flatten.map (·.a))) (pp.map (·.a))) (by decide) UP ?_;simp only [if_true,aZ];have eu:vr (vr [] (pre.flatten.map (·.a))) ((pp++[t]).map (·.a))=used (vr (vr [] (pre.flatten.map (·.a))) (pp.map (·.a))) t.a:=by
     rw [dD,HH]; rfl
    by_cases hm:t.a∈vr (vr [] (pre.flatten.map (·.a))) (pp.map (·.a))
    ·simp only [hm,decide_true,aX,au,if_false];refine P9 _ _ ⟨⟨_,_,rfl⟩,l4,?_⟩;rw [eu]; unfold used; rw [if_pos hm]; exact UP
    ·simp only [hm,decide_false,bE,if_true,UP];refine⟨trivial,N6 (by rw [aj]; lia),P9 _ _ ⟨⟨_,_,rfl⟩,l4.put hp,?_⟩⟩;rw [bg,eu]; unfold used; rw [if_neg hm,dD]; rfl
   ·rintro τ G4 ⟨⟨a,b,rfl⟩,l4,UP⟩;refine zA _ _ ⟨⟨_,_,rfl⟩,l4,?_⟩;have:(pre++[r]).flatten.map (·.a)=pre.flatten.map (·.a)++r.map (·.a):=by simp
    rw [this,HH]; exact UP
  ·rintro τ G' ⟨⟨a,b,rfl⟩,l,gp⟩;exact hN _ _ ⟨⟨_,_,rfl⟩,l,gp⟩
 ·rintro _ G' ⟨⟨a,b,rfl⟩,l,gp⟩;simp only [cu,fu,jN,aw,ay,af,aa,aU];have hz:=qQ (rows.flatten.map (·.a)) [];rw [aj,ar] at hz;refine Gh (IsL.ref gp) (by lia) fun p2 J7=>?_;exact ou (l.trans (.new J7)) (l.free J7) bg q
end K3
namespace K3
open K2.P K2.yo
noncomputable def Yc(n:Int):Int:=n % 999+1
noncomputable def fit(n:Int):Nat->Int
 | 0=>n
 | k+1=>Yc (fit n k)
theorem xM{n:Int}(h1:1<=n)(h2:n<=999):∀ k:Nat,fit n k=(n - 1+k) % 999+1
 | 0=>by show n=_; lia
 | k+1=>by
  show Yc (fit n k)=_;rw [xM h1 h2 k];unfold Yc;lia
theorem rD:∀ (xs ys:List Int),xs.Nodup->(∀ x∈xs,x∈ys)->xs.length<=ys.length
 | [],_,_,_=>bY _
 | x :: xs,ys,hn,h=>by
  rw [List.nodup_cons] at hn;have:=rD xs (ys.erase x) hn.2 fun y hy=>(List.mem_erase_of_ne (show y≠x from fun z=>hn.1 (by rw [<-z]; exact hy))).mpr (h y (aN _ hy));have hx:=h x (by simp);rw [List.length_erase_of_mem hx] at this;have:=List.length_pos_of_mem hx;rw [ah]; lia
theorem MH{n:Int}{ns:List Int}(h1:1<=n)(h2:n<=999)(hl:ns.length<=500):∃ k,k<=ns.length/\fit n k∉ns:=by
 apply cU;intro Mh;have ql:∀ k,k<=ns.length->fit n k∈ns:=fun k hk=>cU fun z=>Mh ⟨k,hk,z⟩;have nd:((cF (ns.length+1)).map fun k=>fit n k).Nodup:=by
  refine List.pairwise_iff_getElem.mpr fun i j hi hj Hy=>?_;simp only [aj,gU] at hi hj;rw [eT,eT,o6,o6,xM h1 h2,xM h1 h2];lia
 have:=rD _ ns nd fun x hx=>by
  obtain⟨k,hk,rfl⟩:=List.mem_map.mp hx;exact ql k (by have:=List.mem_range.mp hk; lia)
 simp at this;lia
theorem Fo(rows:Rows):(jy rows).length<=rows.flatten.length:=by
 unfold jy;rw [GK];have:=qQ (rows.flatten.map (·.a)) [];rw [aj,ar] at this;lia
theorem Fn{rows:Rows}{n:Int}:n∈jy rows↔n∈rows.flatten.map (·.a):=by
 unfold jy;rw [(pS _).mem_iff,wg];simp
noncomputable def ja:pD:=fun ds G Q _=>∃ (d:D) (rows:Rows) (c:Int),ds=[d,.int c]/\yP G d rows/\rows.flatten.length < 64/\∀ m:Int,m∉rows.flatten.map (·.a)->1<=m->m<=999->Q (.int m) G
noncomputable def vh:i6 :=
 (bX (cW (aQ mI (dC (.int 1)) (aQ ju (aQ ju (aQ EY (ay 1) (dC (.int 48271))) (dC (.int 1000003))) (dC (.int 999)))) (bb 2))
 (bX (MW (ez (aQ (rO false) (ay 2) (cS dP (aw (ay 0) aU)))) (cW (aQ mI (aQ ju (ay 2) (dC (.int 999))) (dC (.int 1))) (bb 2)))
 (cu (fu (ay 2)))))
theorem vx(ds:List D)(G:Gp)(Q:DK)(h:ja ds G Q fun _ _=>False):vh (fun _ _=>False) (ends Q) (bP 3 ds) G:=by
 obtain⟨d,rows,c,rfl,hd,hl,q⟩:=h;unfold vh;simp only [ends,bP,aI,br,ah,ar,bq,a6,aW,dZ,cW,aQ,dC,ay,af,aa,bb,az,av,jt,dB,fH];refine⟨.inr ⟨by decide,by decide⟩,by decide,by decide,?_⟩;have b1:1<=1+c * 48271 % 1000003 % 999:=by lia
 have b2:1+c * 48271 % 1000003 % 999<=999:=by lia
 generalize 1+c * 48271 % 1000003 % 999=n at *;have RA:=Fo rows;refine iL (fun τ G'=>G=G'/\∃ m:Int,(m∉jy rows/\1<=m/\m<=999)/\τ=[some d,some (.int c),some (.int m)]) ?_ ?_
 ·intro N hN;obtain⟨k,hk,oW⟩:=MH (ns:=jy rows) b1 b2 (by lia);have main:∀ (j:Nat),j<=k->Cg (ez (aQ (rO false) (ay 2) (cS dP (aw (ay 0) aU)))) (cW (aQ mI (aQ ju (ay 2) (dC (.int 999))) (dC (.int 1))) (bb 2)) (j+1) (fun _ _=>False) { ends Q with nx:=N } [some d,some (.int c),some (.int (fit n (k - j)))] G:=by
   intro j;induction j with
   | zero =>
    intro _;show Cg _ _ (0+1) _ _ _ _;rw [Cg];simp only [cW,aQ,ay,af,aa,dC,bb,ends,az,av,dB,fH,cV,cS,aw,aU];refine⟨d,rows,rfl,hd,hl,?_⟩;refine GW (x:=fit n (k - 0)) (by decide) ?_;simp only [au,Nat.sub_zero,oW,decide_false,bE,if_false,aZ];have:=xM b1 b2 k;exact hN _ _ ⟨rfl,_,⟨oW,by lia,by lia⟩,rfl⟩
   | succ j ih =>
    intro hj;rw [Cg];simp only [cW,aQ,ay,af,aa,dC,bb,ends,az,av,dB,fH,cV,cS,aw,aU];refine⟨d,rows,rfl,hd,hl,?_⟩;refine GW (x:=fit n (k - (j+1))) (by decide) ?_;have hb:=xM b1 b2 (k - (j+1));by_cases hm:fit n (k - (j+1))∈jy rows
    ·simp only [au,hm,decide_true,aX,if_false,aZ,if_true];refine⟨by decide,?_⟩;have e:fit n (k - (j+1)) % 999+1=fit n (k - j):=by
      rw [show k - j=(k - (j+1))+1 by lia]; rfl
     rw [e];exact ih (by lia)
    ·simp only [au,hm,decide_false,bE,if_false,aZ];exact hN _ _ ⟨rfl,_,⟨hm,by lia,by lia⟩,rfl⟩
  have:=main k (aC _);rw [pz] at this;exact⟨k+1,this⟩
 ·rintro _ _ ⟨rfl,m,⟨m1,m2,m3⟩,rfl⟩;simp only [cu,fu,ay,af,aa];exact kP (q m (fun z=>m1 (Fn.mpr z)) m2 m3)
noncomputable def ins(r:List T3)(k:Nat)(p:T3):List T3:=r.take k++p :: r.drop k
theorem xE(r:List T3)(k:Nat)(p:T3):(ins r k p).Perm (p :: r):=KO p r k
theorem Bi(r:List T3)(k:Nat)(p:T3):(r.map enc).take k++enc p :: (r.map enc).drop k=(ins r k p).map (enc:T3->D):=by
 unfold ins; rw [dD,aI,List.map_take,List.map_drop]
structure DF(L:List T3):Prop where
 nd:(L.map T3.s).Nodup
 way:∀ p∈L,p.b=0\/p.b=1
 hand:∀ p∈L,p.c=1\/p.c=-1
 T1:∀ p∈L,(⟨p.a,1 - p.b,p.c⟩:T3)∈L
theorem HR.at_{G G':Gp}{p0:Nat}{as:List Nat}{rs:Rows}(h:HR G G' p0 as rs){j:Int}(j1:0<=j)(j2:j < rs.length):∃ a r,as[j.toNat]?=some a/\rs[j.toNat]?=some r/\G' a=some (.lst (r.map enc))/\qu (as.map D.ref) j=some (.ref a):=by
 have hj:j.toNat < as.length:=by have:=h.len; lia
 refine⟨as[j.toNat],rs[j.toNat]'(by lia),ai hj,ai _,h.at' _ _ _ (ai hj) (ai _),?_⟩;rw [oO _ j1 (by rw [aj]; have:=h.len; lia),eT]
end K3
namespace wx
open K2.P
open K2.vB (eD hX)
noncomputable abbrev Cs:=List Rows
noncomputable def ap1(a:Rows)(x:List T3):Rows:=a++[x]
noncomputable def pk1(m:List (List T3))(a:Rows):Cs:=m.map (ap1 a)
noncomputable def pick(ls:List (List (List T3))):Cs:=ls.foldl (fun acc m=>acc.flatMap (pk1 m)) [[]]
end wx
namespace wx
open K2.P
open K2.vB (eD hX)
noncomputable abbrev M:=List (Int×Int)
noncomputable def YK(m:M)(t:T3):T3:=⟨(lh m t.a).getD 0,t.b,t.c⟩
noncomputable def YL(m:M)(r:List T3):List T3:=r.map (YK m)
noncomputable def K8(r:List T3)(k:Nat):List T3:=r.drop k++r.take k
noncomputable def U9(r:List T3):List (List T3):=(cF (max 1 r.length)).map (K8 r)
theorem QJ{r:List T3}{k:Nat}{G:Gp}{Q:DK}{d:D}(hd:IsL G d (r.map enc))(hk:k<=r.length)(hl:r.length<=1000)(q:Q (enc (K8 r k)) G) :
  Lc d (some (k:Int)) none G fun x G1=>Lc d none (some (k:Int)) G1 fun y G2=>mI x y G2 fun z G3=>Ng G3 z Q:=by
 refine uC hd ?_;rw [oG,xX r k hk];intro p hp;refine uC (hd.mono (.new hp)) ?_;rw [oG,Gb r k hk];intro p2 J7;have Ry:p≠p2:=fun z=>by rw [<-z,bg] at J7; cases J7
 have g1:dO (dO G p (.lst ((r.drop k).map enc))) p2 (.lst ((r.take k).map enc)) p=some (.lst ((r.drop k).map enc)):=by rw [dN Ry,bg]
 have gl:jE G (dO (dO G p (.lst ((r.drop k).map enc))) p2 (.lst ((r.take k).map enc))):=(jE.new hp).trans (.new J7);show u3 _ _ _ _;unfold u3;rw [jw (IsL.ref (ds:=(r.drop k).map enc) g1),jw (IsL.ref (ds:=(r.take k).map enc) bg)];refine⟨Nu (by simp; lia),fun p3 Me=>?_⟩;refine ou (xs:=K8 r k) (gl.trans (.new Me)) (gl.free Me) ?_ q;rw [bg];unfold K8;rw [dD]
noncomputable def WX(m:M)(n:Int):M:=if (lh m n).isSome=true then m else Gk m n ((m.length:Int)+1)
noncomputable def met(L:List T3):M:=L.foldl (fun m t=>WX m t.a) []
end wx
namespace wx
open K2.P
open K2.vB (eD hX jx mw)
structure Gd(m:M):Prop where
 nd:(m.map (·.1)).Nodup
 vs:m.map (·.2)=(cF m.length).map fun i:Nat=>(i:Int)+1
theorem Oe{r a b:List T3}{x:T3}(hx:x=hX r)(e:r=a++x :: b)(hn:x∉a):eD r=x :: b++a:=by
 have hi:r.idxOf (hX r)=a.length:=by
  rw [<-hx,e,List.idxOf_append,if_neg hn,List.idxOf_cons_self]; simp
 unfold eD;rw [hi,e,List.drop_left,List.take_left]
inductive Ro:Rows->Rows->Prop
 | nil:Ro [] []
 | cons {r x:List T3} {rs xs:Rows}:(∃ k,k<=r.length/\x=K8 r k)->Ro rs xs->Ro (r :: rs) (x :: xs)
noncomputable def VV(rows:Rows):Cs:=pick (rows.map U9)
noncomputable def sm(rows:Rows):Rows:=(rows.map (YL (met rows.flatten))).map eD
noncomputable def bi(rows:Rows):Nat:=Yl (fun i j=>bM.lt (sm ((VV rows).getD i [])) (sm ((VV rows).getD j []))) ((VV rows).length - 1)
end wx
namespace wx
open K2.P
open K2.vB (eD hX jx mw)
noncomputable def tp(c:Rows):D:=.tup [enc (sm c),.sg (eO (met c.flatten))]
structure Sz(rows:Rows):Prop where
 n:rows.length<=3
 f:rows.flatten.length<=24
end wx
namespace yo
open K2.P
variable {rows:Rows}
end yo
namespace yo
open K2.P
variable {rows:Rows}
noncomputable def z3:T3:=⟨0,0,0⟩
theorem Nb{r:List T3}{k:Nat}(h:k < r.length):qu (r.map (enc:T3->D)) (0+(k:Int))=some (enc (r.getD k z3)):=by
 rw [oO _ (by lia) (by rw [aj]; lia),eT];congr 2;rw [aH,ai h];show r[(0+(k:Int)).toNat]=r[k];congr 1; lia
end yo
namespace wx
open K2.P
open K2.vB (eD hX jx mw)
open K2.yo (dq c6 z3 Nb)
noncomputable def OU(x y:T3):Bool:=lexLt [x.a,x.b] [y.a,y.b]
theorem tv{x y:T3}:OU x y=true↔x.a < y.a\/(x.a=y.a/\x.b < y.b):=by
 unfold OU;simp only [lexLt];by_cases h:x.a=y.a
 ·rw [if_pos h];by_cases h2:x.b=y.b
  ·rw [if_pos h2]; simp; lia
  ·rw [if_neg h2]; simp; lia
 ·rw [if_neg h]; simp; lia
theorem OT{x y:T3}:bM.lt x y=true↔x.a < y.a\/(x.a=y.a/\(x.b < y.b\/(x.b=y.b/\x.c < y.c))):=by
 show qZ (fun a b:Int=>decide (a < b)) [x.a,x.b,x.c] [y.a,y.b,y.c]=true↔_;simp only [qZ];by_cases h:x.a=y.a
 ·by_cases h2:x.b=y.b
  ·by_cases h3:x.c=y.c
   ·simp [h,h2,h3]
   ·simp [h,h2,h3]
  ·simp [h,h2]
 ·simp [h]
theorem Va{r:List T3}{k:Nat}(h:k < r.length):qu (r.map (enc:T3->D)) (k:Int)=some (enc (r.getD k z3)):=by
 have:=Nb h;rw [Int.zero_add] at this; exact this
theorem getD_mem{r:List T3}{k:Nat}(h:k < r.length):r.getD k z3∈r:=by
 rw [aH,ai h]; exact bB h
theorem ID{r:List T3}(nd:(r.map T3.s).Nodup){b:Nat}(hb:b < r.length)(h:∀ k,k < r.length->OU (r.getD k z3) (r.getD b z3)=false):K8 r b=eD r:=by
 have lX:r≠[]:=fun z=>by rw [z] at hb; exact absurd hb (cC _)
 have hx:r.getD b z3=hX r:=by
  refine xu _ _ ?_ (mw (getD_mem hb));unfold xw;cases hz:bM.lt (hX r) (r.getD b z3) with
  | false=>rfl
  | true =>
   exfalso;obtain⟨j,hj,ej⟩:=eB (jx lX);have h1:=h j hj;have e1:r.getD j z3=hX r:=by rw [aH,ai hj]; exact ej
   rw [e1] at h1;have h2:=OT.mp hz;have h3:¬ ((hX r).a < (r.getD b z3).a\/((hX r).a=(r.getD b z3).a/\(hX r).b < (r.getD b z3).b)):=fun z=>by rw [tv.mpr z] at h1; cases h1
   have es:(hX r).s=(r.getD b z3).s:=by
    unfold T3.s;have h4:(hX r).a=(r.getD b z3).a:=by lia
    have h5:(hX r).b=(r.getD b z3).b:=by lia
    rw [h4,h5]
   have ejb:j=b:=by
    by_cases Zo:j=b
    ·exact Zo
    ·exfalso;have pw:=List.pairwise_iff_getElem.mp nd;have g:∀ k (hk:k < r.length),(r.map T3.s)[k]'(by rw [aj]; exact hk)=(r.getD k z3).s:=fun k hk=>by
      rw [eT,aH,ai hk]; rfl
     rcases Nat.lt_or_gt_of_ne Zo with q | q
     ·refine pw j b (by rw [aj]; exact hj) (by rw [aj]; exact hb) q ?_;rw [g j hj,g b hb,e1]; exact es
     ·refine pw b j (by rw [aj]; exact hb) (by rw [aj]; exact hj) q ?_;rw [g j hj,g b hb,e1]; exact es.symm
   subst ejb;rw [e1,bM.LX] at hz;cases hz
 have ndr:r.Nodup:=by
  refine List.Pairwise.imp ?_ (List.pairwise_map.mp nd);intro a b h e;exact h (congrArg _ e)
 have e:r=r.take b++r.getD b z3 :: r.drop (b+1):=by
  conv=>lhs; rw [<-lU b r]
  rw [cX hb,aH,ai hb]; rfl
 have hn:r.getD b z3∉r.take b:=fun z=>by
  have VI:=ndr;rw [e,lq] at VI;exact VI.2.2 _ z _ bI rfl
 rw [Oe hx e hn];unfold K8;rw [cX hb];congr 1;rw [aH,ai hb]; rfl
noncomputable def vf:i6 :=
 (bX (cW (dC (.int 0)) (bb 1))
 (bX (jW (Hw (jN ko (aw (ay 0) aU))) (bb 2) (dg (ez (aQ Vt (tV (aQ kB (ay 0) (ay 2)) dr (kn (dC (.int 2)))) (tV (aQ kB (ay 0) (ay 1)) dr (kn (dC (.int 2)))))) (cW (ay 2) (bb 1)) bR))
 (cu (fu (aQ mI (tV (ay 0) (kn (ay 1)) dr) (tV (ay 0) dr (kn (ay 1))))))))
noncomputable def j8:pD:=fun ds G Q _=>∃ r:List T3,ds=[enc r]/\(r.length<=1000/\(r.map T3.s).Nodup)/\Q (enc (eD r)) G
theorem vw(ds:List D)(G:Gp)(Q:DK)(h:j8 ds G Q fun _ _=>False):vf (fun _ _=>False) (ends Q) (bP 3 ds) G:=by
 obtain⟨r,rfl,⟨hl,nd⟩,q⟩:=h;unfold vf;simp only [ends,bP,aI,br,ah,ar,bq,a6,aW,dZ,cW,dC,bb,az,av];refine iL (fun τ G'=>G=G'/\∃ (b:Nat) (x:Option D),τ=[some (enc r),some (.int b),x]/\b<=r.length/\K8 r b=eD r) ?_ ?_
 ·intro N hN;simp only [jW,kh,jN,aw,ay,aa,aU];refine gk (IsL.enc r) ?_;simp only [aj,jc];refine⟨by lia,by lia,?_⟩;unfold kH;refine k8 (xs:=cF (r.length:Int).toNat) (f:=fun i:Nat=>D.int (0+(i:Int))) (fun ks τ G'=>G=G'/\∃ (b:Nat) (x:Option D),τ=[some (enc r),some (.int b),x]/\(b < r.length\/(r=[]/\b=0))/\∀ k∈ks,OU (r.getD k z3) (r.getD b z3)=false) ⟨rfl,0,_,rfl,by cases r <;> simp,by simp⟩ (fun _ _ _ _=>trivial) ?_ ?_
  ·rintro ks k post τ G' N2 e ⟨rfl,b,x,rfl,hb,VL⟩ zA;have hk:k < r.length:=by
    have:k∈cF (r.length:Int).toNat:=by rw [e]; simp
    have:=List.mem_range.mp this; lia
   have hb:b < r.length:=hb.resolve_right fun z=>by rw [z.1] at hk; exact absurd hk (cC _)
   simp only [bb,dg,Int.zero_add,az,av,cW,ay,af,aa,bR,cV,aQ,tV,dr,fV,dC,eS];refine uE (IsL.enc r) (Va hk) ?_;simp only [uT,jr,ah,ar,Pj];refine⟨by decide,?_⟩;refine uE (IsL.enc r) (Va hb) ?_;simp only [uT,jr,ah,ar,Pj];refine⟨by decide,?_⟩;refine⟨[(r.getD k z3).a,(r.getD k z3).b],[(r.getD b z3).a,(r.getD b z3).b],rfl,rfl,?_⟩;simp only [aZ];show if OU (r.getD k z3) (r.getD b z3)=true then _ else _
   cases hc:OU (r.getD k z3) (r.getD b z3) with
   | true =>
    simp only [if_true];refine zA _ _ ⟨rfl,k,_,rfl,.inl hk,fun j hj=>?_⟩;rcases List.mem_append.mp hj with hj | hj
    ·cases hz:OU (r.getD j z3) (r.getD k z3) with
     | false=>rfl
     | true =>
      have h1:=tv.mp hz;have h2:=tv.mp hc;have h3:OU (r.getD j z3) (r.getD b z3)=true:=tv.mpr (by lia);rw [VL j hj] at h3; cases h3
    ·obtain rfl:=List.mem_singleton.mp hj;cases hz:OU (r.getD j z3) (r.getD j z3) with
     | false=>rfl
     | true=>have:=tv.mp hz; lia
   | false =>
    simp only [au,if_false];refine zA _ _ ⟨rfl,b,_,rfl,.inl hb,fun j hj=>?_⟩;rcases List.mem_append.mp hj with hj | hj
    ·exact VL j hj
    ·obtain rfl:=List.mem_singleton.mp hj;exact hc
  ·rintro τ G' ⟨rfl,b,x,rfl,hb,VL⟩;refine hN _ _ ⟨rfl,b,x,rfl,?_⟩;rcases hb with hb | ⟨rfl,rfl⟩
   ·exact⟨by lia,ID nd hb fun k hk=>VL k (List.mem_range.mpr (by lia))⟩
   ·exact⟨aC _,rfl⟩
 ·rintro _ _ ⟨rfl,b,x,rfl,hb,e⟩;simp only [cu,fu,aQ,tV,ay,aa,dr,fV,af,eS];refine QJ (IsL.enc r) hb hl ?_;rw [e]; exact q
noncomputable def sS:i6 :=
 (cu (fu (iG 1 [] (pb (ay 0)) (bb 0) none (cS j8 (aw (ay 0) aU)))))
noncomputable def fS:pD:=fun ds G Q _=>∃ rows:Rows,ds=[enc rows]/\(rows.length<=1000/\∀ r∈rows,r.length<=1000/\(r.map T3.s).Nodup)/\Q (enc (rows.map eD)) G
theorem ua(ds:List D)(G:Gp)(Q:DK)(h:fS ds G Q fun _ _=>False):sS (fun _ _=>False) (ends Q) (bP 1 ds) G:=by
 obtain⟨rows,rfl,⟨hl,hr⟩,q⟩:=h;unfold sS;simp only [cu,fu,iG,bP,aI,br,ah,ar,a6,aW,ends,e8,ay,aa];refine wa ⟨Nu (by rw [aj]; exact hl),?_⟩;refine nC (xs:=rows) (fun pre acc τ G'=>G=G'/\acc=(pre.map eD).map enc/\∃ x,τ=[x]) ⟨rfl,rfl,_,rfl⟩ (fun _ _ _ _ _=>trivial) ?_ ?_
 ·rintro pre r post acc τ G' N e ⟨rfl,rfl,x,rfl⟩ hN;simp only [bb,cS,aw,ay,av,aa,aU];refine⟨r,rfl,hr r (by rw [e]; simp),hN _ _ _ ⟨rfl,by simp,_,rfl⟩⟩
 ·rintro acc τ G' ⟨rfl,rfl,x,rfl⟩ p hp;exact ou (xs:=rows.map eD) (.new hp) hp bg q
end wx
namespace wx
open K2.P
open K2.vB (eD hX jx mw)
open K2.yo (dq c6 z3 kQ HR HR.fz)
open K2.K3 (DF)
theorem Oh{r:List T3}{k:Nat}{G:Gp}{Q:DK}{d:D}(hd:IsL G d (r.map enc))(hk:k<=r.length)(hl:r.length<=1000)(q:∀ p G1,jE G G1->G p=none->G1 p=some (.lst ((K8 r k).map enc))->Q (.ref p) G1) :
  Lc d (some (k:Int)) none G fun x G1=>Lc d none (some (k:Int)) G1 fun y G2=>mI x y G2 Q:=by
 refine uC hd ?_;rw [oG,xX r k hk];intro p hp;refine uC (hd.mono (.new hp)) ?_;rw [oG,Gb r k hk];intro p2 J7;have Ry:p≠p2:=fun z=>by rw [<-z,bg] at J7; cases J7
 have g1:dO (dO G p (.lst ((r.drop k).map enc))) p2 (.lst ((r.take k).map enc)) p=some (.lst ((r.drop k).map enc)):=by rw [dN Ry,bg]
 have gl:jE G (dO (dO G p (.lst ((r.drop k).map enc))) p2 (.lst ((r.take k).map enc))):=(jE.new hp).trans (.new J7);show u3 _ _ _ _;unfold u3;rw [jw (IsL.ref (ds:=(r.drop k).map enc) g1),jw (IsL.ref (ds:=(r.take k).map enc) bg)];refine⟨Nu (by simp; lia),fun p3 Me=>?_⟩;refine q _ _ (gl.trans (.new Me)) (gl.free Me) ?_;rw [bg];unfold K8;rw [dD]
end wx
namespace wx
open K2.P
open K2.vB (eD hX jx mw)
open K2.yo (dq c6 z3 kQ HR HR.fz)
open K2.K3 (DF jy dP)
theorem Mr{G G1:Gp}{p:Nat}{o:GO}(l:jE G G1):jE (dO G p o) (dO G1 p o):=fun a ob e=>by
 by_cases ha:a=p
 ·subst ha; rw [bg] at e ⊢; exact e
 ·rw [dN ha] at e ⊢; exact l a ob e
theorem wb{G G1:Gp}{p0 p1:Nat}{as:List Nat}{rs:Rows}{o:GO}(h:HR G G1 p0 as rs)(f:G1 p1=none):HR (dO G p1 o) (dO G1 p1 o) p0 as rs:=by
 have n0:p0≠p1:=by rintro rfl; rw [h.gp] at f; cases f
 have na:∀ a∈as,a≠p1:=fun a ha=>by
  rintro rfl;obtain⟨i,hi⟩:=gR ha;have h1:i < rs.length:=by rw [<-h.len]; exact(List.getElem?_eq_some_iff.mp hi).1
  rw [h.at' i a rs[i] hi (ai h1)] at f; cases f
 exact⟨Mr h.le,by rw [dN n0]; exact h.fp,by rw [dN n0]; exact h.gp,h.np,h.nd,fun a ha=>by rw [dN (na a ha)]; exact h.fr a ha,h.len,fun i a r h1 h2=>by
  rw [dN (na a (cz h1))]; exact h.at' i a r h1 h2⟩
theorem wc{G B G1:Gp}{p0:Nat}{as:List Nat}{rs:Rows}(l:jE G B)(h:HR B G1 p0 as rs):HR G G1 p0 as rs :=
 ⟨l.trans h.le,l.free h.fp,h.gp,h.np,h.nd,fun a ha=>l.free (h.fr a ha),h.len,h.at'⟩
end wx
namespace wx
open K2.P
open K2.vB (eD hX jx mw)
open K2.yo (dq)
open K2.K3 (DF jy dP)
variable {rows c:Rows}
end wx
namespace Ql
open K2.P
open K2.wx (M met YL YK K8 U9 VV sm bi Sz Ro)
open K2.vB (eD hX DG xj)
open K2.yo (HR HR.fz)
open K2.K3 (Rl GS)
theorem O4{G G1 G2:Gp}{p:Nat}{as:List Nat}{rs:Rows}(h:HR G G1 p as rs)(l:jE G1 G2):HR G G2 p as rs :=
 ⟨h.le.trans l,h.fp,l _ _ h.gp,h.np,h.nd,h.fr,h.len,fun i a r h1 h2=>l _ _ (h.at' i a r h1 h2)⟩
theorem Tg{G:Gp}:∀ {ds:List D} {rs:Rows},Rl G ds rs->Sn G 8 (.eL ds) (.eL (rs.map enc)):=by
 intro ds rs h;induction h with
 | nil=>exact .II
 | cons hx _ ih =>
  refine .zh ?_ ih;rcases hx with rfl | ⟨a,rfl,e⟩
  ·exact pT G 6 (by decide) _
  ·exact .ref e (pT G 6 (by decide) _)
theorem wO{G G1:Gp}{p:Nat}{as:List Nat}{rs:Rows}(h:HR G G1 p as rs):Sn G1 8 (.ref p) (enc rs):=.ref h.gp (Tg (GS as rs h.len h.at'))
noncomputable def zg:i6 :=
 (bX (dg (jV (ez (ay 0))) (cu (fu (i9 aU))) bR)
 (bX (cW (B6 D6 Be (ay 0) (aw (jN M5 (aw (ay 0) aU)) aU)) (bb 1))
 (cu (fu (aQ mI (tV (ay 0) (kn (ay 1)) dr) (tV (ay 0) dr (kn (ay 1))))))))
noncomputable def mV:pD:=fun ds G Q _=>∃ r:List T3,ds=[enc r]/\r.length<=1000/\∀ p,G p=none->Q (.ref p) (dO G p (.lst ((eD r).map enc)))
theorem zU(ds:List D)(G:Gp)(Q:DK)(h:mV ds G Q fun _ _=>False):zg (fun _ _=>False) (ends Q) (bP 2 ds) G:=by
 obtain⟨r,rfl,hl,q⟩:=h;unfold zg;refine iL (fun τ G'=>G=G'/\r≠[]/\τ=[some (enc r),none]) ?_ ?_
 ·intro N hN;simp only [dg,jV,bP,aI,br,ah,ar,bq,a6,aW,cu,fu,i9,aU,ends,bR,cV,ay,aa];cases r with
  | nil=>exact⟨by decide,fun p hp=>MA (.new hp) hp bg (q p hp)⟩
  | cons a t=>exact hN _ _ ⟨rfl,by simp,rfl⟩
 ·rintro _ _ ⟨rfl,lX,rfl⟩;simp only [ends,dZ,cW,B6,ay,aa,aw,jN,aU,bb,cu,fu,aQ,tV,az,av,dr,fV,af];refine⟨trivial,DG rfl lX (xj trivial rfl lX ?_)⟩;have hkl:r.idxOf (hX r)<=r.length:=List.idxOf_le_length;refine wx.Oh (IsL.enc r) hkl hl fun p G1 l f g=>?_;exact MA l f g (q p f)
noncomputable def pW:i6 :=
 (cu (fu (iG 1 [] (pb (ay 0)) (bb 0) none (cS mV (aw (ay 0) aU)))))
noncomputable def eW:pD:=fun ds G Q _=>∃ rows:Rows,ds=[enc rows]/\(rows.length<=1000/\∀ r∈rows,r.length<=1000)/\∀ p as G',HR G G' p as (rows.map eD)->Q (.ref p) G'
theorem qw(ds:List D)(G:Gp)(Q:DK)(h:eW ds G Q fun _ _=>False):pW (fun _ _=>False) (ends Q) (bP 1 ds) G:=by
 obtain⟨rows,rfl,⟨hl,hr⟩,q⟩:=h;unfold pW;simp only [cu,fu,iG,bP,aI,br,ah,ar,a6,aW,ends,e8,ay,aa];refine wa ⟨Nu (by rw [aj]; exact hl),?_⟩;refine nC (xs:=rows) (fun pre acc τ G'=>(∃ a,τ=[a])/\∃ bs:List Nat,acc=bs.map D.ref/\bs.length=pre.length/\bs.Nodup/\(∀ a∈bs,G a=none)/\jE G G'/\∀ (i a:Nat) (r:List T3),bs[i]?=some a->pre[i]?=some r->G' a=some (.lst ((eD r).map enc))) ⟨⟨_,rfl⟩,[],rfl,rfl,fM,(fun a h=>by cases h),.refl _,fun i a r h=>by simp at h⟩ (fun _ _ _ _ _=>trivial) ?_ ?_
 ·rintro pre r post acc τ G' N e ⟨⟨a,rfl⟩,bs,rfl,hl,nd,fr,le,Ec⟩ hN;simp only [bb,cS,aw,ay,av,aa,aU];refine⟨r,rfl,hr r (by rw [e]; simp),fun p hp=>?_⟩;have Zg:p∉bs:=fun z=>by
   obtain⟨i,hi⟩:=gR z;have h1:i < pre.length:=by rw [<-hl]; exact(List.getElem?_eq_some_iff.mp hi).1
   rw [Ec i p pre[i] hi (ai h1)] at hp; cases hp
  refine hN _ _ _ ⟨⟨_,rfl⟩,bs++[p],by simp,by simp [hl],?_,?_,le.trans (.new hp),?_⟩
  ·rw [lq];refine⟨nd,by simp,fun a h b hb e=>?_⟩;rw [gC] at hb;subst hb e;exact Zg h
  ·intro a h0;rcases List.mem_append.mp h0 with h | h
   ·exact fr a h
   ·rw [gC] at h; subst h; exact le.free hp
  ·intro i b s h1 h2;by_cases hi:i < bs.length
   ·rw [cq hi] at h1;rw [cq (by lia)] at h2;have:b≠p:=by rintro rfl; exact Zg (cz h1)
    rw [dN this];exact Ec i b s h1 h2
   ·rw [bK (by lia)] at h1 h2;have i0:i - bs.length=0:=by have:=(List.getElem?_eq_some_iff.mp h1).1; simp at this; lia
    rw [i0] at h1;rw [<-hl,i0] at h2;simp at h1 h2;subst h1 h2;exact bg
 ·rintro acc τ G5 ⟨⟨a',rfl⟩,bs,rfl,hl,nd,fr,le,Ec⟩ p3 Me;refine kP (q p3 bs _ ⟨le.trans (.new Me),le.free Me,bg,fun z=>?_,nd,fr,by rw [aj]; exact hl,fun i b r h1 h2=>?_⟩)
  ·obtain⟨i,hi⟩:=gR z;have h1:i < rows.length:=by rw [<-hl]; exact(List.getElem?_eq_some_iff.mp hi).1
   rw [Ec i p3 rows[i] hi (ai h1)] at Me; cases Me
  ·rw [bO] at h2;obtain⟨r',hr',rfl⟩:=Option.map_eq_some_iff.mp h2;exact(jE.new Me) _ _ (Ec i b r' h1 hr')
end Ql
end K2
end
section
namespace K2
open PySem (Str)
namespace K4
noncomputable def wy (b:Int):Str:=if b=0 then "o" else "u"
noncomputable def hd (c:Int):Str:=if c=1 then "+" else "-"
noncomputable def wd(p:T3):Str:=(Sr p.a++wy p.b)++hd p.c
structure Vk(p:T3):Prop where
 n1:1<=p.a
 n2:p.a<=999
 b:p.b=0\/p.b=1
 c:p.c=1\/p.c=-1
end K4
end K2
end
section
namespace K2
open PySem (Str)
open Enc (enc)
namespace K4
open K2.P
open K2.vB (eD)
open K2.yo (HR HR.fz)
open K2.wx (Sz)
open K2.Ql (eW wO)
noncomputable def ln (r:List T3):Str:=if r=[] then "." else Str.join " " (r.map wd)
noncomputable def tx (rows:Rows):Str:=Str.join "\n" (rows.map ln)
structure Dw(rows:Rows):Prop where
 sz:Sz rows
 one:1<=rows.length
 df:K3.DF rows.flatten
 nb:∀ p∈rows.flatten,1<=p.a/\p.a<=999
theorem EW(r:List T3):(eD r).Perm r:=by
 unfold eD;exact List.perm_append_comm.trans (by rw [lU])
theorem xP{xs pre post:List D}{d:D}(h:mz 0 xs=pre++d :: post):∃ x,xs[pre.length]?=some x/\d=.tup [.int pre.length,x]:=by
 have this:(mz 0 xs)[pre.length]?=(pre++d :: post)[pre.length]?:=by rw [h]
 rw [uS,bK (aC _),pz,aa] at this;obtain⟨x,hx,e⟩:=Option.map_eq_some_iff.mp this;exact⟨x,hx,by rw [<-e,uv]⟩
end K4
namespace K3
open K2.P K2.yo
theorem nE{κ β:Type} [DecidableEq κ]{l:List (κ×β)}{k:κ}(h:k∉l.map (·.1)):lh l k=none:=by
 cases e:lh l k with
 | none=>rfl
 | some v=>exact absurd (List.mem_map.mpr ⟨_,CS e,rfl⟩) h
theorem DN{κ β:Type} [DecidableEq κ]{l:List (κ×β)}{k:κ}:(lh l k).isSome=decide (k∈l.map (·.1)):=by
 by_cases h:k∈l.map (·.1)
 ·simp only [h,decide_true];obtain⟨p,hp,rfl⟩:=List.mem_map.mp h;unfold lh;rw [kN,List.find?_isSome];exact⟨p,hp,by simp⟩
 ·rw [nE h]; simp [h]
theorem vZ{κ α:Type} [DecidableEq κ] [Enc κ] [qy κ] [DecidableEq α] [Enc α]{neg:Bool}{l:List (κ×α)}{k:κ}{G:Gp}{Q:DK}(hl:l≠[])(q:Q (.bl (if neg then !decide (k∈l.map (·.1)) else decide (k∈l.map (·.1)))) G):rO neg (enc k) (.sg (eO l)) G Q:=by
 refine⟨fun z=>hl ?_,jS l k,?_⟩
 ·unfold eO at z; exact List.map_eq_nil_iff.mp z
 ·rw [qe,kN,DN]; exact q
end K3
namespace K4
open K2.P
open K2.vB (eD j5)
open K2.yo (HR HR.fz)
open K2.wx (Sz)
open K2.Ql (eW wO)
open K2.K3 (vZ DF)
noncomputable abbrev HM:=List (T2×Int)
noncomputable def nu(L:List T3):HM:=L.map fun t=>(t.s,t.c)
theorem x2{κ α:Type} [DecidableEq κ](l:List (κ×α))(k:κ)(v:α)(h:k∉l.map (·.1)):Gk l k v=l++[(k,v)]:=by
 unfold Gk;rw [if_neg];intro z;obtain⟨p,hp,e⟩:=List.any_eq_true.mp z;exact h (List.mem_map.mpr ⟨p,hp,of_decide_eq_true e⟩)
theorem nE{κ α:Type} [DecidableEq κ](l:List (κ×α))(k:κ)(h:k∉l.map (·.1)):lh l k=none:=by
 unfold lh;rw [List.find?_eq_none.mpr fun p hp z=>h (List.mem_map.mpr ⟨p,hp,of_decide_eq_true z⟩)];rfl
theorem kj(L:List T3):(nu L).map (·.1)=L.map T3.s:=by unfold nu; rw [fN]; rfl
theorem P2{G G1 G2:Gp}{p:Nat}{as:List Nat}{rs:Rows}(l:jE G G1)(h:HR G1 G2 p as rs):HR G G2 p as rs :=
 ⟨l.trans h.le,l.free h.fp,h.gp,h.np,h.nd,fun a ha=>l.free (h.fr a ha),h.len,h.at'⟩
end K4
namespace K4
open K2.P
open K2.vB (eD)
open K2.wx (Sz wb wc fS)
open K2.Ql (wO)
open K2.yo (HR HR.fz c6 dq kQ tL)
open K2.K3 (DF)
noncomputable def jd:i6 :=
 (bX (dg (jV (ez (DB "list" (ay 0)))) (cu (fu (dC (.bl false)))) bR)
 (bX (jW (pb (ay 0)) (bb 1) (bX (dg (jV (ez (DB "list" (ay 1)))) (cu (fu (dC (.bl false)))) bR)
 (jW (pb (ay 1)) (bb 2) (bX (dg (zK (jV (ez (DB "tuple" (ay 2)))) (ez (aQ (yz true) (jN ko (aw (ay 2) aU)) (dC (.int 3))))) (cu (fu (dC (.bl false)))) bR)
 (dg (jV (ez (jN R5 (aw (iG 1 [] (pb (ay 2)) (bb 0) none (cS dq (aw (ay 0) aU))) aU)))) (cu (fu (dC (.bl false)))) bR)))))
 (cu (fu (dC (.bl true))))))
noncomputable def cY:pD:=fun ds G Q _=>∃ (G0:Gp) (p:Nat) (as:List Nat) (rows:Rows),ds=[.ref p]/\HR G0 G p as rows/\Q (.bl true) G
theorem jf(ds:List D)(G:Gp)(Q:DK)(h:cY ds G Q fun _ _=>False):jd (fun _ _=>False) (ends Q) (bP 3 ds) G:=by
 obtain⟨G0,p,as,rows,rfl,hr,q⟩:=h;unfold jd;simp only [bX,dg,jV,↓cV,↓i4,ay,bP,↓aI,↓br,↓ah,↓ar,bq,↓a6,↓aW,↓aa,cu,fu,dC,ends,bR,jW,↓e8];refine Hv (IsL.ref hr.gp) ?_;simp only [↓aZ,beq_self_eq_true,↓aX,↓au,↓if_false];refine Fv (IsL.ref hr.gp) fun ok ck=>?_;refine FG (fun pre τ G'=>jE G G'/\∃ b c,τ=[some (.ref p),b,c]) ⟨.refl G,_,_,rfl⟩ (fun _ _ _ h=>ck _ h.1) ?_ ?_
 ·rintro pre d post τ G1 N e ⟨l1,b,c,rfl⟩ hN;obtain⟨a,ha,rfl⟩:∃ a,as[pre.length]?=some a/\D.ref a=d:=by
   have:(as.map D.ref)[pre.length]?=some d:=by rw [e,bK (aC _),pz]; rfl
   rw [bO] at this;exact Option.map_eq_some_iff.mp this
  have pf:pre.length < rows.length:=by rw [<-hr.len]; exact(List.getElem?_eq_some_iff.mp ha).1
  have ga:=l1 _ _ (hr.at' pre.length a rows[pre.length] ha (ai pf));generalize rows[pre.length]=r at ga;simp only [bb,bX,dg,jV,↓cV,↓i4,ay,↓az,↓av,↓af,↓aa,cu,fu,dC,bR,jW,↓e8];refine Hv (IsL.ref ga) ?_;simp only [↓aZ,beq_self_eq_true,↓aX,↓au,↓if_false];refine Fv (IsL.ref ga) fun WD Rw=>?_;refine k8 (xs:=r) (fun pre τ G'=>jE G1 G'/\∃ b c,τ=[some (.ref p),b,c]) ⟨.refl _,_,_,rfl⟩ (fun _ _ _ h=>Rw _ h.1) ?_ ?_
  ·rintro CK t CL τ G2 N2 e2 ⟨l2,b,c,rfl⟩ zA;simp only [bb,bX,dg,zK,jV,↓cV,↓i4,ay,↓az,↓av,uT,↓af,↓aa,↓lN,↓aZ,beq_self_eq_true,↓aX,↓au,cu,fu,dC,bR,jN,aw,iG,↓e8,↓oq,↓ah,↓ar,aU,↓if_true,aQ,↓lR,↓if_false];refine⟨_,_,.int _,.int _,?_⟩;simp only [↓aZ,sd,↓if_true];refine⟨by decide,?_⟩;refine nC (xs:=[t.a,t.b,t.c]) (fun pre acc τ G'=>G2=G'/\acc=bq pre.length (D.bl true)/\∃ a,τ=[a]) ⟨rfl,rfl,_,rfl⟩ (fun _ _ _ _ _=>trivial) ?_ ?_
   ·rintro aaz i YO acc τ G3 N3 e3 ⟨rfl,rfl,a,rfl⟩ P9;simp only [bb,cS,aw,ay,↓av,↓aa,aU];refine⟨i,rfl,P9 _ _ _ ⟨rfl,?_,_,rfl⟩⟩;simp [List.replicate_succ']
   ·rintro acc τ G3 ⟨rfl,rfl,a,rfl⟩ p2 hp;refine⟨bq 3 true,?_,?_⟩
    ·unfold itemsOf; simp only [bg]; rfl
    ·simp only [↓aZ,bq,↓ah,↓ar];exact zA _ _ ⟨l2.trans (.new hp),_,_,rfl⟩
  ·rintro τ G2 ⟨l2,b,c,rfl⟩;exact hN _ _ ⟨l1.trans l2,_,_,rfl⟩
 ·rintro τ G1 ⟨l1,b,c,rfl⟩;simp only [cu,fu,dC];exact oy l1 q
end K4
namespace NI
open K2.P
open K2.vB (eD j5)
open K2.yo (HR HR.fz iq)
open K2.Ql (eW wO)
open K2.K3 (vZ jy)
open K2.K4 (HM nu kj x2 nE Vk xP P2)
noncomputable def Er (w:Str) (n:Int):Ex:=⟨"NoDrawing",[("word",.str w),("place",.int n)]⟩
noncomputable def bJ:fx :=
 (MZ (Bz "no drawing: " (Pd (ay 1) (Bz ", " (Pd (ay 2) RR)))))
theorem uO(a:Nat){w:Str}{n:Int}(hw:w.length<=1000)(hn:n.natAbs < 10 ^ 100):bJ (fun _ _=>False) [some (.ref a),some (.str w),some (.int n)] (fun _=>none) fun _ _=>True:=by
 unfold bJ;simp only [MZ,Bz,Pd,ay,↓af,↓aa,RR,↓and_true];exact⟨by decide,w,if_pos hw,by decide,Sr n,if_pos hn⟩
noncomputable def Bw (p:T3) (ms:List T2):Option Str:=if ¬ (1<=p.a/\p.a<=999) then some "name" else if ¬ (p.b=0\/p.b=1) then some "way" else if ¬ (p.c=1\/p.c=-1) then some "hand" else if p.s∈ms then some "twice" else none
theorem Bv {p:T3} {ms:List T2} {w:Str} (h:Bw p ms=some w):w.length<=1000/\w≠""/\w.cps.all (· < 0x110000)=true:=by
 unfold Bw at h;split at h
 ·cases h; exact⟨by decide,by decide,eE _⟩
 split at h
 ·cases h; exact⟨by decide,by decide,eE _⟩
 split at h
 ·cases h; exact⟨by decide,by decide,eE _⟩
 split at h
 ·cases h; exact⟨by decide,by decide,eE _⟩
 ·cases h
theorem xK{p:T3}{ms:List T2}(h:Bw p ms=none):Vk p/\p.s∉ms:=by
 unfold Bw at h;split at h
 ·cases h
 rename_i h1;split at h
 ·cases h
 rename_i h2;split at h
 ·cases h
 rename_i h3;split at h
 ·cases h
 rename_i h4;have h1:=Classical.not_not.mp h1;exact⟨⟨h1.1,h1.2,Classical.not_not.mp h2,Classical.not_not.mp h3⟩,h4⟩
noncomputable def wD(d0:D):Option Str->D
 | none=>d0
 | some w=>.str w
noncomputable def YM(d0:D):i6 :=
 (bX (dg (jV (oF Nv Nv (dC (.int 1)) (aQ kB (ay 0) (dC (.int 0))) (dC (.int 999)))) (cu (fu (dC (.str "name")))) bR)
 (bX (dg (ez (aQ (rO true) (aQ kB (ay 0) (dC (.int 1))) (eP (aw (dC (.int 0)) (aw (dC (.int 1)) aU))))) (cu (fu (dC (.str "way")))) bR)
 (bX (dg (ez (aQ (rO true) (aQ kB (ay 0) (dC (.int 2))) (eP (aw (dC (.int 1)) (aw (ym IM (dC (.int 1))) aU))))) (cu (fu (dC (.str "hand")))) bR)
 (bX (dg (ez (aQ (rO false) (tV (ay 0) dr (kn (dC (.int 2)))) (ay 1))) (cu (fu (dC (.str "twice")))) bR)
 (cu (fu (dC d0)))))))
noncomputable def Wl(d0:D):pD:=fun ds G Q _=>∃ (p:T3) (m:HM) (q:Nat),ds=[enc p,.ref q]/\G q=some (.kI (eO m))/\Q (wD d0 (Bw p (m.map (·.1)))) G
theorem AV{m:HM}{k:T2}{neg:Bool}{q:Nat}{G:Gp}{Q:DK}(gr:G q=some (.kI (eO m)))(h:Q (.bl (if neg then !decide (k∈m.map (·.1)) else decide (k∈m.map (·.1)))) G):rO neg (enc k) (.ref q) G Q:=by
 unfold rO;simp only [gr];refine⟨jS m _,?_⟩;rw [qe];have e:((lh m k).map enc:Option D).isSome=decide (k∈m.map (·.1)):=by
  by_cases z:k∈m.map (·.1)
  ·rw [decide_eq_true z];cases q:lh m k with
   | some v=>rfl
   | none =>
    unfold lh at q;rw [Ih] at q;obtain⟨p,hp,e⟩:=List.mem_map.mp z;have:=(List.find?_eq_none.mp q) p hp;exact absurd (decide_eq_true e) this
  ·rw [decide_eq_false z,nE _ _ z]; rfl
 rw [e];exact h
theorem ZX(d0:D)(ds:List D)(G:Gp)(Q:DK)(h:Wl d0 ds G Q fun _ _=>False):YM d0 (fun _ _=>False) (ends Q) (bP 2 ds) G:=by
 obtain⟨p,m,r,rfl,gr,q⟩:=h;obtain⟨a,b,c⟩:=p;have e:(enc (⟨a,b,c⟩:T3):D)=.tup [.int a,.int b,.int c]:=rfl;rw [e];unfold YM;have a0:qu [D.int a,D.int b,D.int c] 0=some (.int a):=rfl;have a1:qu [D.int a,D.int b,D.int c] 1=some (.int b):=rfl;have a2:qu [D.int a,D.int b,D.int c] 2=some (.int c):=rfl;simp only [bX,dg,jV,oF,dC,aQ,ay,bP,↓aI,↓br,↓ah,↓ar,↓a6,↓aW,↓aa,↓eN,↓a0,↓nS,cu,fu,ends,bR,↓cV,↓a1,eP,aw,aU,↓a2,ym,↓kc,tV,dr,↓fV,↓eS,↓jr,↓af,↓bE,↓if_true];unfold Bw at q;refine⟨_,rfl,?_⟩;by_cases h1:1<=a
 rotate_left
 ·rw [if_neg (by simpa using h1)];rw [if_pos (fun z=>h1 z.1)] at q;exact kP q
 rw [if_pos (decide_eq_true h1)];refine⟨_,rfl,?_⟩;by_cases h2:a<=999
 rotate_left
 ·rw [if_pos (by simpa using h2)];rw [if_pos (fun z=>h2 z.2)] at q;exact kP q
 rw [if_neg (by simpa using h2)];rw [if_neg (fun z=>z ⟨h1,h2⟩)] at q;refine⟨by decide,j5 (x:=b) (xs:=[0,1]) (by decide) ?_⟩;by_cases hb:b=0\/b=1
 rotate_left
 ·rw [decide_eq_false (by simpa using hb)];simp only [↓aZ,↓bE,↓if_true];rw [if_pos hb] at q;exact kP q
 rw [decide_eq_true (by simpa using hb)];simp only [↓aZ,↓aX,↓if_true,↓au,↓if_false];rw [if_neg (fun z=>z hb)] at q;refine⟨by decide,j5 (x:=c) (xs:=[1,-1]) (by decide) ?_⟩;by_cases hc:c=1\/c=-1
 rotate_left
 ·rw [decide_eq_false (by simpa using hc)];simp only [↓aZ,↓bE,↓if_true];rw [if_pos hc] at q;exact kP q
 rw [decide_eq_true (by simpa using hc)];simp only [↓aZ,↓aX,↓if_true,↓au,↓if_false];rw [if_neg (fun z=>z hc)] at q;refine⟨by decide,?_⟩;have e3:(.tup (cut [D.int a,D.int b,D.int c] none (some 2)):D)=enc (⟨a,b⟩:T2):=rfl;rw [e3];refine AV gr ?_;by_cases hm:(⟨a,b⟩:T2)∈m.map (·.1)
 ·rw [decide_eq_true hm];simp only [↓aZ,↓au,↓aX,↓if_false,↓if_true];rw [if_pos (show T3.s ⟨a,b,c⟩∈_ from hm)] at q;exact kP q
 ·rw [decide_eq_false hm];simp only [↓aZ,↓au,↓bE,↓if_false];rw [if_neg (show ¬ T3.s ⟨a,b,c⟩∈_ from hm)] at q;exact kP q
noncomputable def CC:i6 :=
 (bX (dg (jV (oF Nv Nv (dC (.int 1)) (aQ kB (ay 0) (dC (.int 0))) (dC (.int 999)))) (cu (fu (dC (.str "name")))) bR)
 (bX (dg (ez (aQ (rO true) (aQ kB (ay 0) (dC (.int 1))) (eP (aw (dC (.int 0)) (aw (dC (.int 1)) aU))))) (cu (fu (dC (.str "way")))) bR)
 (bX (dg (ez (aQ (rO true) (aQ kB (ay 0) (dC (.int 2))) (eP (aw (dC (.int 1)) (aw (ym IM (dC (.int 1))) aU))))) (cu (fu (dC (.str "hand")))) bR)
 (bX (dg (ez (aQ (rO false) (tV (ay 0) dr (kn (dC (.int 2)))) (ay 1))) (cu (fu (dC (.str "twice")))) bR)
 (cu (fu (dC .cy)))))))
noncomputable def mi:pD:=Wl .cy
theorem DP(ds:List D)(G:Gp)(Q:DK)(h:mi ds G Q fun _ _=>False):CC (fun _ _=>False) (ends Q) (bP 2 ds) G:=ZX .cy ds G Q h
noncomputable def vL:i6 :=
 (bX (dg (jV (oF Nv Nv (dC (.int 1)) (aQ kB (ay 0) (dC (.int 0))) (dC (.int 999)))) (cu (fu (dC (.str "name")))) bR)
 (bX (dg (ez (aQ (rO true) (aQ kB (ay 0) (dC (.int 1))) (eP (aw (dC (.int 0)) (aw (dC (.int 1)) aU))))) (cu (fu (dC (.str "way")))) bR)
 (bX (dg (ez (aQ (rO true) (aQ kB (ay 0) (dC (.int 2))) (eP (aw (dC (.int 1)) (aw (ym IM (dC (.int 1))) aU))))) (cu (fu (dC (.str "hand")))) bR)
 (bX (dg (ez (aQ (rO false) (tV (ay 0) dr (kn (dC (.int 2)))) (ay 1))) (cu (fu (dC (.str "twice")))) bR)
 (cu (fu (dC (.str ""))))))))
noncomputable def iX:pD:=Wl (.str "")
theorem vV (ds:List D) (G:Gp) (Q:DK) (h:iX ds G Q fun _ _=>False):vL (fun _ _=>False) (ends Q) (bP 2 ds) G:=ZX (.str "") ds G Q h
noncomputable def fst:List T3->List T3->Option (Str×Int)
 | _,[]=>none
 | pre,p :: r=>match Bw p (pre.map T3.s) with
  | some w=>some (w,(pre.length:Int))
  | none=>fst (pre++[p]) r
theorem Dg(pre r:List T3)(p:T3):fst pre (p :: r)=match Bw p (pre.map T3.s) with | some w=>some (w,(pre.length:Int)) | none=>fst (pre++[p]) r:=rfl
theorem Pa:∀ (r pre:List T3) {w:Str} {n:Int},fst pre r=some (w,n)->w.length<=1000/\w.cps.all (· < 0x110000)=true/\0<=n/\n<=pre.length+r.length:=by
 intro r;induction r with
 | nil=>intro pre w n h; cases h
 | cons p r ih =>
  intro pre w n h;unfold fst at h;cases e:Bw p (pre.map T3.s) with
  | some w' =>
   rw [e] at h;cases h;have:=Bv e;exact⟨this.1,this.2.2,by lia,by rw [ah]; lia⟩
  | none =>
   rw [e] at h;have:=ih _ h;rw [aB,bV] at this;rw [ah];exact⟨this.1,this.2.1,this.2.2.1,by lia⟩
theorem Df:∀ (r pre:List T3),fst pre r=none->(pre.map T3.s).Nodup->((pre++r).map T3.s).Nodup/\∀ p∈r,Vk p:=by
 intro r;induction r with
 | nil=>intro pre _ h; rw [bL]; exact⟨h,fun p hp=>by cases hp⟩
 | cons p r ih =>
  intro pre h hn;unfold fst at h;cases e:Bw p (pre.map T3.s) with
  | some w=>rw [e] at h; cases h
  | none =>
   rw [e] at h;obtain⟨g,hp⟩:=xK e;have n2:((pre++[p]).map T3.s).Nodup:=by
    rw [dD,lq];refine⟨hn,by simp,fun x hx y hy z=>?_⟩;rw [List.map_singleton,gC] at hy;exact hp (by rw [<-hy,<-z]; exact hx)
   obtain⟨h1,h2⟩:=ih _ h n2;rw [cM] at h1;exact⟨h1,fun x hx=>(List.mem_cons.mp hx).elim (fun z=>by rw [z]; exact g) (h2 x)⟩
theorem C7{pre:List T3}{t:T3}(h:t.s∉pre.map T3.s):Gk (nu pre) t.s t.c=nu (pre++[t]):=by
 rw [x2 _ _ _ (by rw [kj]; exact h)];unfold nu;rw [dD]; rfl
noncomputable def rC:i6 :=
 (bX (cW xU (bb 1))
 (bX (jW (L9 (cS ik (aw (ay 0) aU))) (O7 (xG (bb 2) (xG (bb 3) Mw))) (bX (cW (cS mi (aw (ay 3) (aw (ay 1) aU))) (bb 4))
 (bX (dg (ez (ym (vM true) (ay 4))) (hU "NoDrawing" ["word","place"] bJ (aw (ay 4) (aw (ay 2) aU))) bR)
 (cW (aQ kB (ay 3) (dC (.int 2))) (FE (ay 1) (tV (ay 3) dr (kn (dC (.int 2)))))))))
 (cu (fu (ay 1)))))
noncomputable def j4:pD:=fun ds G Q E=>∃ rows:Rows,ds=[enc rows]/\rows.flatten.length<=1000/\match fst [] rows.flatten with
 | none=>Q (.sg (eO (nu rows.flatten))) G
 | some (w,n)=>E (Er w n) (fun _=>none)
theorem yO(ds:List D)(G:Gp)(Q:DK)(E:kC)(h:j4 ds G Q E):rC E (ends Q) (bP 5 ds) G:=by
 obtain⟨rows,rfl,hF,q⟩:=h;unfold rC;simp only [↓dZ,cW,xU,kJ,bb,ends,bP,↓aI,↓br,↓ah,↓ar,bq,↓a6,↓aW,↓az,↓av];intro d hd;refine iL (fun τ G'=>(∃ a b c,τ=[some (enc rows),some (.ref d),a,b,c])/\jE G G'/\G' d=some (.kI (eO (nu rows.flatten)))/\fst [] rows.flatten=none) ?_ ?_
 ·intro N hN;simp only [jW,L9,cS,aw,ay,↓aa,aU];refine⟨rows,rfl,hF,?_⟩;refine C5 ?_;refine FG (fun pre τ G'=>(∃ a b c,τ=[some (enc rows),some (.ref d),a,b,c])/\jE G G'/\G' d=some (.kI (eO (nu (rows.flatten.take pre.length))))/\fst (rows.flatten.take pre.length) (rows.flatten.drop pre.length)=fst [] rows.flatten) ⟨⟨_,_,_,rfl⟩,.new hd,bg,rfl⟩ (fun _ _ _ _=>trivial) ?_ ?_
  ·rintro pre x post τ G' N2 e ⟨⟨a,b,c,rfl⟩,l,gd,hf⟩ zA;obtain⟨y,hy,rfl⟩:=xP e;rw [bO] at hy;obtain⟨t,ht,rfl⟩:=Option.map_eq_some_iff.mp hy;have pf:pre.length < rows.flatten.length:=(List.getElem?_eq_some_iff.mp ht).1;have hl:(rows.flatten.take pre.length).length=pre.length:=by rw [dG]; lia
   rw [cX pf,(List.getElem?_eq_some_iff.mp ht).2] at hf;rw [Dg] at hf;have keys:=kj (rows.flatten.take pre.length);simp only [O7,xG,bb,Mw,↓dZ,cW,cS,aw,ay,↓az,↓av,↓af,↓aa,aU,bX,dg,↓cV,ym,bR,aQ,dC];refine⟨t,_,d,rfl,gd,?_⟩;rw [keys];cases NB:Bw t ((rows.flatten.take pre.length).map T3.s) with
   | some w =>
    rw [NB,hl] at hf;rw [<-hf] at q;unfold wD;simp only [vM,↓aZ,hU,aw,ay,↓af,↓aa,aU,↓ah,↓ar,↓aI,↓br,↓true_and,↓if_true];have fl:=Bv NB;exact⟨fun a=>uO a fl.1 (by lia),q⟩
   | none =>
    rw [NB] at hf;obtain⟨gp,Mh⟩:=xK NB;unfold wD;simp only [vM,↓aZ,↓aX,↓au,uT,FE,ay,↓af,↓aa,tV,dr,↓fV,dC,↓eS,↓jr,↓ah,↓ar,Pj,↓eN,at2,↓if_false];refine⟨by decide,P.zb (k:=t.s) (v:=t.c) gd (by unfold nu; rw [aj,dG]; lia) ?_⟩;have et:rows.flatten.take (pre.length+1)=rows.flatten.take pre.length++[t]:=by rw [List.take_succ,ht]; rfl
    refine zA _ _ ⟨⟨_,_,_,rfl⟩,l.put hd,?_,?_⟩
    ·rw [bg,C7 Mh,aB,bV,et]
    ·rw [aB,bV,et]; exact hf
  ·rintro τ G' ⟨⟨a,b,c,rfl⟩,l,gd,hf⟩;rw [uR,aj] at gd hf;rw [List.take_length] at gd hf;rw [List.drop_length] at hf;exact hN _ _ ⟨⟨_,_,_,rfl⟩,l,gd,hf.symm⟩
 rintro _ G' ⟨⟨a,b,c,rfl⟩,l,gd,hf⟩;rw [hf] at q;simp only [cu,fu,ay,↓af,↓aa];exact RO l hd gd q
noncomputable def ui(L:List T3):List Int:=GL (K3.vr [] (L.map (·.a)))
theorem OV{L:List T3}{n:Int}:n∈ui L↔n∈L.map (·.a):=by
 unfold ui;rw [Od,K3.wg];simp
theorem Hk(L:List T3):(ui L).length<=L.length:=by
 unfold ui;rw [GK];have:=K3.qQ (L.map (·.a)) [];rw [aj,ar] at this;lia
theorem Rg{L:List T3}{m:List Int}(nd:m.Nodup)(h:∀ y,y∈m↔y∈L.map (·.a)):GL m=ui L:=by
 unfold ui;refine QC ((Ew nd (K3.MU _ _ fM)).mpr fun y=>?_);rw [h y,K3.wg];simp
noncomputable def nf(L:List T3):List Int->Option (Str×Int)
 | []=>none
 | n :: r=>if ¬ ((⟨n,0⟩:T2)∈L.map T3.s/\(⟨n,1⟩:T2)∈L.map T3.s) then some ("lone",n) else if ¬ lh (nu L) (⟨n,0⟩:T2)=lh (nu L) (⟨n,1⟩:T2) then some ("hands",n) else nf L r
theorem A9 (L:List T3) (n:Int) (r:List Int):nf L (n :: r)=(if ¬ ((⟨n,0⟩:T2)∈L.map T3.s/\(⟨n,1⟩:T2)∈L.map T3.s) then some (("lone" : Str),n) else if ¬ lh (nu L) (⟨n,0⟩:T2)=lh (nu L) (⟨n,1⟩:T2) then some (("hands" : Str),n) else nf L r):=rfl
noncomputable def OQ(L:List T3):Option (Str×Int):=match nf L (ui L) with
 | some z=>some z
 | none=>if 12 < (ui L).length then some ("many",((ui L).length:Int)) else none
theorem wo{L:List T3}{k:T2}(h:k∈L.map T3.s):∃ c:Int,lh (nu L) k=some c:=by
 cases e:lh (nu L) k with
 | some c=>exact⟨c,rfl⟩
 | none =>
  unfold lh at e;rw [Ih] at e;rw [<-kj] at h;obtain⟨p,hp,e2⟩:=List.mem_map.mp h;exact absurd (decide_eq_true e2) ((List.find?_eq_none.mp e) p hp)
noncomputable def mY:i6 :=
 (bX (cW (jN uY (aw (iG 1 [] (Ma (ay 0)) (bb 0) none (aQ kB (ay 0) (dC (.int 0)))) aU)) (bb 1))
 (bX (jW (pb (ay 1)) (bb 2) (bX (dg (zK (ez (aQ (rO true) (eP (aw (ay 2) (aw (dC (.int 0)) aU))) (ay 0))) (ez (aQ (rO true) (eP (aw (ay 2) (aw (dC (.int 1)) aU))) (ay 0)))) (hU "NoDrawing" ["word","place"] bJ (aw (dC (.str "lone")) (aw (ay 2) aU))) bR)
 (dg (ez (aQ (yz true) (aQ kB (ay 0) (eP (aw (ay 2) (aw (dC (.int 0)) aU)))) (aQ kB (ay 0) (eP (aw (ay 2) (aw (dC (.int 1)) aU)))))) (hU "NoDrawing" ["word","place"] bJ (aw (dC (.str "hands")) (aw (ay 2) aU))) bR)))
 (dg (ez (aQ Tq (jN ko (aw (ay 1) aU)) (dC (.int 12)))) (hU "NoDrawing" ["word","place"] bJ (aw (dC (.str "many")) (aw (jN ko (aw (ay 1) aU)) aU))) bR)))
noncomputable def iz:pD:=fun ds G Q E=>∃ L:List T3,ds=[.sg (eO (nu L))]/\L.length<=60/\(∀ p∈L,Vk p)/\match OQ L with
 | none=>∀ G',jE G G'->Q .cy G'
 | some (w,n)=>E (Er w n) (fun _=>none)
theorem u5(ds:List D)(G:Gp)(Q:DK)(E:kC)(h:iz ds G Q E):mY E (ends Q) (bP 3 ds) G:=by
 obtain⟨L,rfl,hF,gp,q⟩:=h;unfold mY;refine iL (fun τ G'=>jE G G'/\∃ (b:Nat),G b=none/\G' b=some (.lst ((ui L).map enc))/\τ=[some (.sg (eO (nu L))),some (.ref b),none]) ?_ ?_
 ·intro N hN;simp only [cW,jN,aw,iG,Ma,ay,bP,↓aI,↓br,↓ah,↓ar,bq,↓a6,↓aW,↓aa,Bk,aU,bb,↓az,↓av];refine⟨Nu (by rw [aj]; unfold eO nu; rw [aj,aj]; lia),?_⟩;have ek:(eO (nu L)).map (·.1)=(L.map T3.s).map enc:=by unfold eO nu; rw [fN,fN,fN]; rfl
  rw [ek];refine nC (xs:=L.map T3.s) (fun pre acc τ G'=>G'=G/\(∃ a,τ=[a])/\acc=(pre.map (·.a)).map D.int) ⟨rfl,⟨_,rfl⟩,rfl⟩ (fun _ _ _ _ _=>trivial) ?_ ?_
  ·rintro pre t post acc τ G' N2 e ⟨rfl,⟨a,rfl⟩,rfl⟩ zA;have e2:(enc t:D)=.tup [.int t.a,.int t.b]:=rfl;rw [e2];simp only [bb,aQ,ay,↓av,↓aa,dC,↓eN,↓SH];exact zA _ _ _ ⟨rfl,⟨_,rfl⟩,by rw [dD,dD]; rfl⟩
  ·rintro acc τ G' ⟨rfl,⟨a,rfl⟩,rfl⟩ p hp;refine⟨(L.map T3.s).map (·.a),by unfold qc; simp only [bg]; rfl,by rw [aj,aj]; lia,fun m Vz hm b hb=>?_⟩;have hbp:b≠p:=fun z=>by rw [z,bg] at hb; cases hb
   refine hN _ _ ⟨(jE.new hp).trans (.new hb),b,by rw [dN hbp] at hb; exact hb,?_,rfl⟩;rw [bg,Rg (L:=L) Vz fun y=>by rw [hm y,fN]; rfl]
 rintro _ G1 ⟨l1,b,hb,g1,rfl⟩;refine iL (fun τ G'=>G'=G1/\nf L (ui L)=none/\∃ a,τ=[some (.sg (eO (nu L))),some (.ref b),a]) ?_ ?_
 ·intro N hN;simp only [jW,↓e8,ay,↓af,↓aa,ends];refine Fv (IsL.ref g1) fun ok ck=>?_;refine k8 (xs:=ui L) (fun pre τ G'=>G'=G1/\(∀ post,ui L=pre++post->nf L post=nf L (ui L))/\∃ a,τ=[some (.sg (eO (nu L))),some (.ref b),a]) ⟨rfl,fun post e=>by rw [aW] at e; rw [<-e],_,rfl⟩ (fun _ _ _ h=>by rw [h.1]; exact ck _ (.refl _)) ?_ ?_
  ·rintro pre n post τ G' N2 e ⟨rfl,hf,a,rfl⟩ zA;have hn:n∈L.map (·.a):=OV.mp (by rw [e]; simp);have hf:=hf _ e;obtain⟨p,hp,ep⟩:=List.mem_map.mp hn;have gn:=gp p hp;have X4:n.natAbs < 10 ^ 100:=by have:=gn.n1; have:=gn.n2; rw [<-ep]; exact kE (show _<=1000 by lia) (by decide)
   have lX:nu L≠[]:=fun z=>by unfold nu at z; rw [List.map_eq_nil_iff] at z; rw [z] at hp; cases hp
   have Ji:∀ w:Int,decide ((⟨n,w⟩:T2)∈(nu L).map (·.1))=decide ((⟨n,w⟩:T2)∈L.map T3.s):=fun w=>by rw [kj]
   have en:(enc n:D)=.int n:=rfl;rw [A9] at hf;rw [en];simp only [bb,bX,dg,zK,↓cV,aQ,eP,aw,ay,↓az,↓av,↓af,↓aa,dC,aU,↓ah,↓ar,bR,↓if_true];refine⟨by decide,vZ (k:=(⟨n,0⟩:T2)) lX ?_⟩;have LH:¬ ((⟨n,0⟩:T2)∈L.map T3.s/\(⟨n,1⟩:T2)∈L.map T3.s)->E (Er "lone" n) (fun _=>none):=fun z=>by
    rw [if_pos z] at hf;unfold OQ at q;rw [<-hf] at q;exact q
   have k0:=Ji 0;have k1:=Ji 1;by_cases h0:(⟨n,0⟩:T2)∈L.map T3.s
   rotate_left
   ·rw [k0,decide_eq_false h0];simp only [↓aZ,↓bE,↓if_true,hU,aw,dC,ay,↓af,↓aa,aU,↓ah,↓ar,↓aI,↓br,↓true_and];exact⟨fun a=>uO a (by decide) X4,LH fun z=>h0 z.1⟩
   rw [k0,decide_eq_true h0];simp only [↓aZ,↓aX,↓if_true,↓au,↓if_false];refine⟨by decide,vZ (k:=(⟨n,1⟩:T2)) lX ?_⟩;by_cases h1:(⟨n,1⟩:T2)∈L.map T3.s
   rotate_left
   ·rw [k1,decide_eq_false h1];simp only [↓aZ,↓bE,↓if_true,hU,aw,dC,ay,↓af,↓aa,aU,↓ah,↓ar,↓aI,↓br,↓true_and];exact⟨fun a=>uO a (by decide) X4,LH fun z=>h1 z.2⟩
   rw [k1,decide_eq_true h1];rw [if_neg (fun z=>z ⟨h0,h1⟩)] at hf;simp only [↓aZ,↓aX,↓if_true,↓au,↓AU,↓if_false];obtain⟨c0,e0⟩:=wo h0;obtain⟨c1,e1⟩:=wo h1;have l0:look (eO (nu L)) (.tup [.int n,.int 0])=some (.int c0):=(qe (nu L) (⟨n,0⟩:T2)).trans (by rw [e0]; rfl);have l1:look (eO (nu L)) (.tup [.int n,.int 1])=some (.int c1):=(qe (nu L) (⟨n,1⟩:T2)).trans (by rw [e1]; rfl);rw [l0,l1];refine⟨by decide,jS (nu L) (⟨n,0⟩:T2),by decide,jS (nu L) (⟨n,1⟩:T2),_,_,.int _,.int _,?_⟩;rw [e0,e1] at hf;by_cases hc:c0=c1
   ·have:g4 (.int c0) (.int c1)=true:=by rw [hc]; exact beq_self_eq_true c1
    rw [this];simp only [↓aZ,↓aX,↓if_true,↓au,↓if_false];rw [if_neg (fun z=>z (by rw [hc]))] at hf;exact zA _ _ ⟨rfl,fun Li e'=>by
     rw [e,cM] at e';have:=kA e';rw [iT] at this;cases this;exact hf,_,rfl⟩
   ·have:g4 (.int c0) (.int c1)=false:=beq_eq_false_iff_ne.mpr hc;rw [this];simp only [↓aZ,↓bE,↓if_true,hU,aw,dC,ay,↓af,↓aa,aU,↓ah,↓ar,↓aI,↓br,↓true_and];rw [if_pos (fun z=>hc (bp z))] at hf;unfold OQ at q;rw [<-hf] at q;exact⟨fun a=>uO a (by decide) X4,q⟩
  ·rintro τ G' ⟨rfl,hf,a,rfl⟩;exact hN _ _ ⟨rfl,(hf [] (by rw [bL])).symm,a,rfl⟩
 rintro _ G1 ⟨rfl,XC,a,rfl⟩;unfold OQ at q;rw [XC] at q;have hle:=Hk L;simp only [dg,↓cV,aQ,jN,aw,ay,↓af,↓aa,aU,dC,ends,bR];refine gk (IsL.ref g1) ?_;rw [aj];simp only [↓k6,↓aZ];by_cases RM:12 < (ui L).length
 ·rw [if_pos (decide_eq_true (by lia))];rw [if_pos RM] at q;simp only [hU,aw,dC,jN,ay,↓af,↓aa,aU,↓ah,↓ar,↓aI,↓br,↓true_and];refine gk (IsL.ref g1) ?_;rw [aj];exact⟨fun a=>uO a (by decide) (kE (show _<=1000 by lia) (by decide)),q⟩
 ·rw [if_neg (fun z=>RM (by have:=of_decide_eq_true z; lia))];rw [if_neg RM] at q;exact q _ l1
noncomputable def Pn (rows:Rows):Option (Str×Int):=if ¬ (1<=rows.length/\rows.length<=3) then some ("strings",(rows.length:Int)) else match fst [] rows.flatten with
 | some z=>some z
 | none=>OQ rows.flatten
noncomputable def vj:i6 :=
 (bX (dg (jV (oF Nv Nv (dC (.int 1)) (jN ko (aw (ay 0) aU)) (dC (.int 3)))) (hU "NoDrawing" ["word","place"] bJ (aw (dC (.str "strings")) (aw (jN ko (aw (ay 0) aU)) aU))) bR)
 (bX (iF (xV iz (aw (xV j4 (aw (ay 0) aU)) aU)))
 (cu (fu (cS eW (aw (ay 0) aU))))))
noncomputable def j9:pD:=fun ds G Q E=>∃ rows:Rows,ds=[enc rows]/\(rows.length<=10/\rows.flatten.length<=60)/\match Pn rows with
 | none=>∀ p as G',HR G G' p as (rows.map eD)->Q (.ref p) G'
 | some (w,n)=>E (Er w n) (fun _=>none)
theorem DQ(ds:List D)(G:Gp)(Q:DK)(E:kC)(h:j9 ds G Q E):vj E (ends Q) (bP 1 ds) G:=by
 obtain⟨rows,rfl,⟨h10,h70⟩,q⟩:=h;unfold vj;unfold Pn at q;simp only [bX,dg,jV,oF,dC,jN,aw,ay,bP,↓aI,↓br,↓ah,↓ar,↓a6,↓aW,↓aa,aU,ends,bR,↓ka,iF,cu,fu,cS,↓bE,↓if_true];refine gk (IsL.enc rows) ?_;rw [aj];refine⟨_,rfl,?_⟩;have str:¬ (1<=rows.length/\rows.length<=3)->hU "NoDrawing" ["word","place"] bJ (aw (dC (.str "strings")) (aw (jN ko (aw (ay 0) aU)) aU)) E (ends Q) (bP 1 [enc rows]) G:=fun z=>by
  rw [if_pos z] at q;simp only [hU,aw,dC,jN,ay,bP,↓aI,↓br,↓ah,↓ar,↓a6,↓aW,↓aa,aU,↓true_and];refine gk (IsL.enc rows) ?_;rw [aj];exact⟨fun a=>uO a (by decide) (kE (show _<=1000 by lia) (by decide)),q⟩
 by_cases h1:(1:Int)<=rows.length
 rotate_left
 ·rw [if_neg (by simpa using h1)];exact str (fun z=>h1 (by lia))
 rw [if_pos (decide_eq_true h1)];refine⟨_,rfl,?_⟩;by_cases h3:(rows.length:Int)<=3
 rotate_left
 ·rw [if_pos (by simpa using h3)];exact str (fun z=>h3 (by lia))
 rw [if_neg (by simpa using h3)];rw [if_neg (fun z=>z ⟨by lia,by lia⟩)] at q;refine⟨rows,rfl,by lia,?_⟩;cases hf:fst [] rows.flatten with
 | some z =>
  obtain⟨w,n⟩:=z;rw [hf] at q;exact q
 | none =>
  rw [hf] at q;refine⟨rows.flatten,rfl,by lia,(Df _ _ hf fM).2,?_⟩;cases hn:OQ rows.flatten with
  | some z=>rw [hn] at q; exact q
  | none =>
   rw [hn] at q;refine fun G1 l1=>?_;simp only [↓fu,↓bP,↓ends,↓cV,↓aQ,↓ym,↓ay,↓jN,↓B6,↓aw,↓aU,↓cu,↓zJ,↓iF,↓cW,↓bb,↓dC,↓bR,↓eP,↓i9,↓xU,↓i4,↓BG,↓zK,↓jV,↓iS,↓qR,↓lQ,↓tV,↓fV,↓dr,↓e8,↓kh,↓cS,↓iG,↓fH,↓mZ,↓lJ,↓lI,↓kb,↓jt,↓dB,↓gY,↓kc,↓nR,↓nS,↓k6,↓qG,↓eN,↓kf,↓jr,↓nQ,↓mq,↓lS,↓lR,↓lA,↓gG,↓ip,↓gF,↓fP,↓jm,↓qF,↓qE,↓qB,↓true_and,↓and_true,↓qO,↓oq,↓eS,↓aZ,↓jc,↓lO,↓qN,↓lN,↓aI,↓br,↓a6,↓aW,↓aa,↓af,↓av,↓az,↓ah,↓ar,↓bq,↓if_true,↓if_false,↓aX,↓bE,↓au,↓dZ,↓ka];exact⟨rows,rfl,⟨by lia,fun r hr=>bZ (iq hr) (by lia)⟩,fun p as G2 hr=>kP (q p as G2 (P2 l1 hr))⟩
end NI
namespace NI
open K2.P
open K2.vB (eD j5)
open K2.yo (HR HR.fz iq c6 kQ)
open K2.K3 (jy yP yP.enc dP)
open K2.K4 (HM nu kj x2 nE Vk)
noncomputable def Yj:Option (Str×Int)->D
 | none=>.cy
 | some (w,n)=>.tup [.str w,.int n]
theorem GU{m:HM}{k:T2}{c:Int}{q:Nat}{G:Gp}{Q:DK}(gr:G q=some (.kI (eO m)))(e:lh m k=some c)(h:Q (.int c) G):kB (.ref q) (enc k) G Q:=by
 unfold kB;simp only [gr];refine⟨jS m _,?_⟩;rw [qe,e];exact h
noncomputable def wX:i6 :=
 (bX (dg (ez (aQ (rO true) (jN ko (aw (ay 0) aU)) (eP (aw (dC (.int 1)) (aw (dC (.int 2)) (aw (dC (.int 3)) aU)))))) (cu (fu (eP (aw (dC (.str "strings")) (aw (jN ko (aw (ay 0) aU)) aU))))) bR)
 (bX (cW xU (bb 1))
 (bX (jW (pb (ay 0)) (bb 2) (jW (pb (ay 2)) (bb 3) (bX (cW (cS iX (aw (ay 3) (aw (ay 1) aU))) (bb 4))
 (bX (dg (ez (aQ (yz true) (ay 4) (dC (.str "")))) (cu (fu (eP (aw (ay 4) (aw (jN DH (aw (ay 1) aU)) aU))))) bR)
 (cW (aQ kB (ay 3) (dC (.int 2))) (FE (ay 1) (tV (ay 3) dr (kn (dC (.int 2))))))))))
 (bX (cW (cS dP (aw (ay 0) aU)) (bb 5))
 (bX (jW (pb (ay 5)) (bb 6) (bX (dg (zK (ez (aQ (rO true) (eP (aw (ay 6) (aw (dC (.int 0)) aU))) (ay 1))) (ez (aQ (rO true) (eP (aw (ay 6) (aw (dC (.int 1)) aU))) (ay 1)))) (cu (fu (eP (aw (dC (.str "lone")) (aw (ay 6) aU))))) bR)
 (dg (ez (aQ (yz true) (aQ kB (ay 1) (eP (aw (ay 6) (aw (dC (.int 0)) aU)))) (aQ kB (ay 1) (eP (aw (ay 6) (aw (dC (.int 1)) aU)))))) (cu (fu (eP (aw (dC (.str "hands")) (aw (ay 6) aU))))) bR)))
 (bX (dg (ez (aQ Tq (jN ko (aw (ay 5) aU)) (dC (.int 12)))) (cu (fu (eP (aw (dC (.str "many")) (aw (jN ko (aw (ay 5) aU)) aU))))) bR)
 (cu (fu (dC .cy)))))))))
noncomputable def nO:pD:=fun ds G Q _=>∃ rows:Rows,ds=[enc rows]/\(rows.length<=10/\rows.flatten.length<=60)/\Q (Yj (Pn rows)) G
theorem Gr(ds:List D)(G:Gp)(Q:DK)(h:nO ds G Q fun _ _=>False):wX (fun _ _=>False) (ends Q) (bP 7 ds) G:=by
 obtain⟨rows,rfl,⟨h10,h60⟩,q⟩:=h;unfold wX;unfold Pn at q;simp only [bX,dg,↓cV,aQ,jN,aw,ay,bP,↓aI,↓br,↓ah,↓ar,bq,↓a6,↓aW,↓aa,aU,eP,dC,cu,fu,ends,bR,↓dZ,cW,xU,bb,↓az,↓av];refine gk (IsL.enc rows) ?_;rw [aj];refine⟨by decide,j5 (x:=(rows.length:Int)) (xs:=[1,2,3]) (by decide) ?_⟩;by_cases h1:1<=rows.length/\rows.length<=3
 rotate_left
 ·rw [decide_eq_false (by simp; lia)];rw [if_pos h1] at q;simp only [↓aZ,↓bE,↓if_true];refine gk (IsL.enc rows) ?_;rw [aj];exact⟨by decide,kP q⟩
 rw [decide_eq_true (by simp; lia)];rw [if_neg (fun z=>z h1)] at q;simp only [↓aZ,↓aX,↓if_true,↓au,kJ,↓if_false];intro d hd;have cl:∀ {G':Gp} {L:List T3} {R:DK},G' d=some (.kI (eO (nu L)))->L.length<=1000->R (.int (L.length:Int)) G'->DH [.ref d] G' R:=fun {G' L R} h z r=>by
  unfold DH;simp only [h];have e:(eO (nu L)).length=L.length:=by unfold eO nu; rw [aj,aj]
  rw [e];exact⟨z,r⟩
 refine iL (fun τ G'=>(∃ a b c,τ=[some (enc rows),some (.ref d),a,b,c,none,none])/\jE G G'/\G' d=some (.kI (eO (nu rows.flatten)))/\fst [] rows.flatten=none) ?_ ?_
 ·intro N hN;simp only [↓fu,↓bP,↓ends,↓cV,↓aQ,↓ym,↓ay,↓jN,↓B6,↓aw,↓aU,↓cu,↓zJ,↓iF,↓cW,↓bb,↓dC,↓bR,↓eP,↓i9,↓xU,↓i4,↓BG,↓zK,↓jV,↓iS,↓qR,↓lQ,↓tV,↓fV,↓dr,↓e8,↓kh,↓cS,↓iG,↓fH,↓mZ,↓lJ,↓lI,↓kb,↓jt,↓dB,↓gY,↓kc,↓nR,↓nS,↓k6,↓qG,↓eN,↓kf,↓jr,↓nQ,↓mq,↓lS,↓lR,↓lA,↓gG,↓ip,↓gF,↓fP,↓jm,↓qF,↓qE,↓qB,↓true_and,↓and_true,↓qO,↓oq,↓eS,↓aZ,↓jc,↓lO,↓qN,↓lN,↓aI,↓br,↓a6,↓aW,↓aa,↓af,↓av,↓az,↓ah,↓ar,↓bq,↓if_true,↓if_false,↓aX,↓bE,↓au,↓dZ,↓ka,↓jW];refine k8 (xs:=rows) (fun pre τ G'=>(∃ a b c,τ=[some (enc rows),some (.ref d),a,b,c,none,none])/\jE G G'/\G' d=some (.kI (eO (nu pre.flatten)))/\∀ post,rows=pre++post->fst pre.flatten post.flatten=fst [] rows.flatten) ⟨⟨_,_,_,rfl⟩,.new hd,bg,fun post e=>by rw [e]; rfl⟩ (fun _ _ _ _=>trivial) ?_ ?_
  ·rintro pre r post τ G' N2 e ⟨⟨a,b,c,rfl⟩,l,gd,hf⟩ zA;have hf:=hf _ e;simp only [bb,jW,↓e8,ay,↓az,↓av,↓af,↓aa];refine k8 (xs:=r) (fun CK τ G2=>(∃ a b c,τ=[some (enc rows),some (.ref d),a,b,c,none,none])/\jE G G2/\G2 d=some (.kI (eO (nu (pre.flatten++CK))))/\∀ CL,r=CK++CL->fst (pre.flatten++CK) (CL++post.flatten)=fst [] rows.flatten) ⟨⟨_,_,_,rfl⟩,l,by rw [bL]; exact gd,fun CL e2=>by rw [bL,<-hf,cA,e2]; rfl⟩ (fun _ _ _ _=>trivial) ?_ ?_
   ·rintro CK t CL τ G2 N3 e2 ⟨⟨a,b,c,rfl⟩,l2,UQ,xF⟩ P9;have xF:=xF _ e2;rw [a6,Dg] at xF;simp only [bb,↓dZ,cW,cS,aw,ay,↓az,↓av,↓af,↓aa,aU,bX,dg,↓cV,aQ,dC,cu,fu,eP,jN,↓ah,↓ar,bR];refine⟨t,_,d,rfl,UQ,?_⟩;rw [kj];cases NB:Bw t ((pre.flatten++CK).map T3.s) with
    | some w =>
     rw [NB] at xF;rw [<-xF] at q;have fl:=Bv NB;unfold wD;simp only [↓fu,↓bP,↓ends,↓cV,↓aQ,↓ym,↓ay,↓jN,↓B6,↓aw,↓aU,↓cu,↓zJ,↓iF,↓cW,↓bb,↓dC,↓bR,↓eP,↓i9,↓xU,↓i4,↓BG,↓zK,↓jV,↓iS,↓qR,↓lQ,↓tV,↓fV,↓dr,↓e8,↓kh,↓cS,↓iG,↓fH,↓mZ,↓lJ,↓lI,↓kb,↓jt,↓dB,↓gY,↓kc,↓nR,↓nS,↓k6,↓qG,↓eN,↓kf,↓jr,↓nQ,↓mq,↓lS,↓lR,↓lA,↓gG,↓ip,↓gF,↓fP,↓jm,↓qF,↓qE,↓qB,↓true_and,↓and_true,↓qO,↓oq,↓eS,↓aZ,↓jc,↓lO,↓qN,↓lN,↓aI,↓br,↓a6,↓aW,↓aa,↓af,↓av,↓az,↓ah,↓ar,↓bq,↓if_true,↓if_false,↓aX,↓bE,↓au,↓dZ,↓ka,↓bX,↓dg];refine⟨_,_,.str _ fl.2.2,.str _ (eE _),?_⟩;have:g4 (.str w) (.str "")=false:=beq_eq_false_iff_ne.mpr fl.2.1;rw [this];simp only [↓aZ,↓bE,↓if_true];have hle:(pre.flatten++CK).length<=60:=by
      have:=congrArg (fun z:Rows=>z.flatten.length) e;simp only [ie,cA,aB,e2,ah] at this;rw [aB];lia
     refine cl UQ (by lia) ?_;exact⟨by decide,oy l2 q⟩
    | none =>
     rw [NB] at xF;obtain⟨gp,Mh⟩:=xK NB;unfold wD;simp only [↓fu,↓bP,↓ends,↓cV,↓aQ,↓ym,↓ay,↓jN,↓B6,↓aw,↓aU,↓cu,↓zJ,↓iF,↓cW,↓bb,↓dC,↓bR,↓eP,↓i9,↓xU,↓i4,↓BG,↓zK,↓jV,↓iS,↓qR,↓lQ,↓tV,↓fV,↓dr,↓e8,↓kh,↓cS,↓iG,↓fH,↓mZ,↓lJ,↓lI,↓kb,↓jt,↓dB,↓gY,↓kc,↓nR,↓nS,↓k6,↓qG,↓eN,↓kf,↓jr,↓nQ,↓mq,↓lS,↓lR,↓lA,↓gG,↓ip,↓gF,↓fP,↓jm,↓qF,↓qE,↓qB,↓true_and,↓and_true,↓qO,↓oq,↓eS,↓aZ,↓jc,↓lO,↓qN,↓lN,↓aI,↓br,↓a6,↓aW,↓aa,↓af,↓av,↓az,↓ah,↓ar,↓bq,↓if_true,↓if_false,↓aX,↓bE,↓au,↓dZ,↓ka,↓bX,↓dg];refine⟨_,_,.str _ (eE _),.str _ (eE _),?_⟩;have:g4 (.str "") (.str "")=true:=beq_self_eq_true _;rw [this];have hle:(pre.flatten++CK).length<=60:=by
      have:=congrArg (fun z:Rows=>z.flatten.length) e;simp only [ie,cA,aB,e2,ah] at this;rw [aB];lia
     simp only [↓aZ,↓aX,↓if_true,↓au,uT,FE,ay,↓af,↓aa,tV,dr,↓fV,dC,↓eS,↓jr,↓ah,↓ar,Pj,↓eN,at2,↓if_false];refine⟨by decide,P.zb (k:=t.s) (v:=t.c) UQ (by unfold nu; rw [aj]; lia) ?_⟩;refine P9 _ _ ⟨⟨_,_,_,rfl⟩,l2.put hd,?_,fun Li e'=>?_⟩
     ·rw [bg,C7 Mh,cM]
     ·rw [e2,cM] at e';have:=kA e';rw [iT] at this;cases this;rw [<-cM];exact xF
   ·rintro τ G2 ⟨⟨a,b,c,rfl⟩,l2,UQ,xF⟩;refine zA _ _ ⟨⟨_,_,_,rfl⟩,l2,by rw [ie,Ks]; exact UQ,fun Li e'=>?_⟩;rw [e,cM] at e';have:=kA e';rw [iT] at this;cases this;rw [ie,Ks,<-xF [] (by rw [bL]),aW]
  ·rintro τ G' ⟨⟨a,b,c,rfl⟩,l,gd,hf⟩;exact hN _ _ ⟨⟨_,_,_,rfl⟩,l,gd,(hf [] (by rw [bL])).symm⟩
 rintro _ G1 ⟨⟨a,b,c,rfl⟩,l1,g1,hf⟩;rw [hf] at q;simp only [↓dZ,cW,cS,aw,ay,↓aa,aU,bb,↓az,↓av];refine⟨_,rows,rfl,yP.enc rows,by lia,?_⟩;have hlen:=Hk rows.flatten;have eln:jy rows=ui rows.flatten:=rfl;rw [eln];unfold OQ at q;refine iL (fun τ G'=>G'=G1/\nf rows.flatten (ui rows.flatten)=none/\∃ a b c e,τ=[some (enc rows),some (.ref d),a,b,c,some (enc (ui rows.flatten)),e]) ?_ ?_
 ·intro N hN;simp only [jW,↓e8,ay,↓af,↓aa];refine k8 (xs:=ui rows.flatten) (fun pre τ G'=>G'=G1/\(∀ post,ui rows.flatten=pre++post->nf rows.flatten post=nf rows.flatten (ui rows.flatten))/\∃ a b c e,τ=[some (enc rows),some (.ref d),a,b,c,some (enc (ui rows.flatten)),e]) ⟨rfl,fun post e=>by rw [aW] at e; rw [<-e],_,_,_,_,rfl⟩ (fun _ _ _ _=>trivial) ?_ ?_
  ·rintro pre n post τ G' N2 e ⟨rfl,xF,a,b,c,e0,rfl⟩ zA;have xF:=xF _ e;have Ji:∀ w:Int,decide ((⟨n,w⟩:T2)∈(nu rows.flatten).map (·.1))=decide ((⟨n,w⟩:T2)∈rows.flatten.map T3.s):=fun w=>by rw [kj]
   have en:(enc n:D)=.int n:=rfl;rw [A9] at xF;rw [en];simp only [bb,bX,dg,zK,↓cV,aQ,eP,aw,ay,↓az,↓av,↓af,↓aa,dC,aU,↓ah,↓ar,cu,fu,bR,↓if_true];refine⟨by decide,AV (k:=(⟨n,0⟩:T2)) g1 ?_⟩;have LH:¬ ((⟨n,0⟩:T2)∈rows.flatten.map T3.s/\(⟨n,1⟩:T2)∈rows.flatten.map T3.s)->Q (.tup [.str "lone",.int n]) G:=fun z=>by
    rw [if_pos z] at xF;rw [<-xF] at q;exact q
   have k0:=Ji 0;have k1:=Ji 1;by_cases h0:(⟨n,0⟩:T2)∈rows.flatten.map T3.s
   rotate_left
   ·rw [k0,decide_eq_false h0];simp only [↓aZ,↓bE,↓if_true];exact⟨by decide,oy l1 (LH fun z=>h0 z.1)⟩
   rw [k0,decide_eq_true h0];simp only [↓aZ,↓aX,↓if_true,↓au,↓if_false];refine⟨by decide,AV (k:=(⟨n,1⟩:T2)) g1 ?_⟩;by_cases h1:(⟨n,1⟩:T2)∈rows.flatten.map T3.s
   rotate_left
   ·rw [k1,decide_eq_false h1];simp only [↓aZ,↓bE,↓if_true];exact⟨by decide,oy l1 (LH fun z=>h1 z.2)⟩
   rw [k1,decide_eq_true h1];rw [if_neg (fun z=>z ⟨h0,h1⟩)] at xF;simp only [↓aZ,↓aX,↓if_true,↓au,↓if_false];obtain⟨c0,e0⟩:=wo h0;obtain⟨c1,e1⟩:=wo h1;refine⟨by decide,GU (k:=(⟨n,0⟩:T2)) g1 e0 ?_⟩;refine⟨by decide,GU (k:=(⟨n,1⟩:T2)) g1 e1 ?_⟩;refine⟨_,_,.int _,.int _,?_⟩;rw [e0,e1] at xF;by_cases hc:c0=c1
   ·have:g4 (.int c0) (.int c1)=true:=by rw [hc]; exact beq_self_eq_true c1
    rw [this];simp only [↓aZ,↓aX,↓if_true,↓au,↓if_false];rw [if_neg (fun z=>z (by rw [hc]))] at xF;exact zA _ _ ⟨rfl,fun Li e'=>by
     rw [e,cM] at e';have:=kA e';rw [iT] at this;cases this;exact xF,_,_,_,_,rfl⟩
   ·have:g4 (.int c0) (.int c1)=false:=beq_eq_false_iff_ne.mpr hc;rw [this];simp only [↓aZ,↓bE,↓if_true];rw [if_pos (fun z=>hc (bp z))] at xF;rw [<-xF] at q;exact⟨by decide,oy l1 q⟩
  ·rintro τ G' ⟨rfl,xF,a,b,c,e,rfl⟩;exact hN _ _ ⟨rfl,(xF [] (by rw [bL])).symm,_,_,_,_,rfl⟩
 rintro _ G1 ⟨rfl,XC,a,b,c,e,rfl⟩;rw [XC] at q;simp only [bX,dg,↓cV,aQ,jN,aw,ay,↓af,↓aa,aU,dC,cu,fu,eP,↓ah,↓ar,bR];refine gk (IsL.enc (ui rows.flatten)) ?_;rw [aj];simp only [↓k6,↓aZ];by_cases RM:12 < (ui rows.flatten).length
 ·rw [if_pos (decide_eq_true (by lia))];rw [if_pos RM] at q;refine gk (IsL.enc (ui rows.flatten)) ?_;rw [aj];exact⟨by decide,oy l1 q⟩
 ·rw [if_neg (fun z=>RM (by have:=of_decide_eq_true z; lia))];rw [if_neg RM] at q;exact oy l1 q
end NI
namespace NI
open K2.P
open K2.vB (eD j5)
open K2.yo (HR HR.fz HR.put iq sJ c6 kQ)
open K2.K3 (jy yP yP.enc dP ja HR.at_ HR.rw ins xE Bi)
open K2.wx (wb wc)
noncomputable def kY:pD:=fun ds G Q _=>∃ (G0:Gp) (p0:Nat) (as:List Nat) (rows:Rows) (c:Int),ds=[.ref p0,.int c]/\HR G0 G p0 as rows/\(1<=rows.length/\rows.length<=5/\rows.flatten.length<=40) /\
 ∀ (Cy:Rows) (m hd:Int) (G':Gp),Cy.length=rows.length->Cy.flatten.Perm (⟨m,1,hd⟩ :: ⟨m,0,hd⟩ :: rows.flatten)->m∉rows.flatten.map (·.a)->(hd=1\/hd=-1)->HR G0 G' p0 as Cy->Q .cy G'
noncomputable def sU:i6 :=
 (bX (cW (cS ja (aw (ay 0) (aw (ay 1) aU))) (bb 2))
 (bX (cW (aQ Oj (aQ EY (dC (.int 2)) (aQ ju (ay 1) (dC (.int 2)))) (dC (.int 1))) (bb 3))
 (bX (cW (aQ kB (ay 0) (aQ ju (aQ wZ (ay 1) (dC (.int 2))) (jN ko (aw (ay 0) aU)))) (bb 4))
 (bX (iF (B6 D6 tj (ay 4) (aw (aQ ju (aQ ju (aQ EY (ay 1) (dC (.int 69621))) (dC (.int 999983))) (aQ mI (jN ko (aw (ay 4) aU)) (dC (.int 1)))) (aw (eP (aw (ay 2) (aw (dC (.int 0)) (aw (ay 3) aU)))) aU))))
 (bX (cW (aQ kB (ay 0) (aQ ju (aQ wZ (ay 1) (dC (.int 6))) (jN ko (aw (ay 0) aU)))) (bb 5))
 (iF (B6 D6 tj (ay 5) (aw (aQ ju (aQ ju (aQ EY (ay 1) (dC (.int 40692))) (dC (.int 999979))) (aQ mI (jN ko (aw (ay 5) aU)) (dC (.int 1)))) (aw (eP (aw (ay 2) (aw (dC (.int 1)) (aw (ay 3) aU)))) aU)))))))))
theorem BS(ds:List D)(G:Gp)(Q:DK)(h:kY ds G Q fun _ _=>False):sU (fun _ _=>False) (ends Q) (bP 6 ds) G:=by
 obtain⟨G0,p0,as,rows,c,rfl,hr,⟨n1,n3,hf⟩,q⟩:=h;unfold sU;simp only [ends,bP,aI,br,ah,ar,bq,a6,aW,dZ,cW,cS,aw,ay,aa,af,aU,bb,az,av,aQ,dC,jN,ka,iF,B6,eP,jt,dB,gY,kb];refine⟨_,rows,c,rfl,HR.rw hr,by lia,fun m hm m1 m2=>?_⟩;simp only [fu,bP,ends,cV,aQ,ym,ay,jN,B6,aw,aU,cu,zJ,iF,cW,bb,dC,bR,eP,i9,xU,i4,BG,zK,jV,iS,qR,lQ,tV,fV,dr,e8,kh,cS,iG,fH,mZ,lJ,lI,kb,jt,dB,gY,kc,nR,nS,k6,qG,eN,kf,jr,nQ,mq,lS,lR,lA,gG,ip,gF,fP,jm,qF,qE,qB,true_and,and_true,qO,oq,eS,aZ,jc,lO,qN,lN,aI,br,a6,aW,aa,af,av,az,ah,ar,bq,if_true,if_false,aX,bE,au,dZ,ka];refine⟨by decide,.inl ⟨by decide,by decide⟩,by decide,by decide,?_⟩;have hh:2 * (c % 2) - 1=1\/2 * (c % 2) - 1=-1:=by lia
 generalize 2 * (c % 2) - 1=hd at *;refine gk (IsL.ref hr.gp) ?_;rw [aj,hr.len];simp only [dB];refine⟨by lia,?_⟩;have i1:0<=c / 2 % (rows.length:Int):=g6 _ (by lia);have i2:c / 2 % (rows.length:Int) < rows.length:=fC _ (by lia);generalize c / 2 % (rows.length:Int)=i at *;obtain⟨a,r,ea,er,ga,xa⟩:=HR.at_ hr i1 i2;refine uE (IsL.ref hr.gp) xa ?_;have rl:r.length<=40:=bZ (iq (cz er)) hf;simp only [jm,ga,true_and];refine⟨.inr ⟨by decide,by decide⟩,by decide,?_⟩;refine gk (IsL.ref ga) ?_;rw [aj];simp only [fH,dB,gF];refine⟨by lia,by decide,?_⟩;have k1:0<=c * 69621 % 999983 % ((r.length:Int)+1):=g6 _ (by lia);have k2:c * 69621 % 999983 % ((r.length:Int)+1) < (r.length:Int)+1:=fC _ (by lia);generalize c * 69621 % 999983 % ((r.length:Int)+1)=k at *;simp only [ga];refine⟨k1,by rw [aj]; lia,N6 (by rw [aj]; lia),?_⟩;rw [show (D.tup [.int m,.int 0,.int hd])=enc (⟨m,0,hd⟩:T3) from rfl,Bi];have h2:=hr.put (r':=ins r k.toNat ⟨m,0,hd⟩) ea;have p2:=sJ (xE r k.toNat ⟨m,0,hd⟩) rows _ er;generalize dO G a (.lst ((ins r k.toNat ⟨m,0,hd⟩).map enc))=G2 at *;generalize O0:rows.set i.toNat (ins r k.toNat ⟨m,0,hd⟩)=zd at *;have e2:zd.length=rows.length:=by rw [<-O0,cL]
 refine⟨by decide,by decide,?_⟩;refine gk (IsL.ref h2.gp) ?_;rw [aj,h2.len];simp only [dB];refine⟨by lia,?_⟩;have j1:0<=c / 6 % (zd.length:Int):=g6 _ (by lia);have j2:c / 6 % (zd.length:Int) < zd.length:=fC _ (by lia);generalize c / 6 % (zd.length:Int)=j at *;obtain⟨b,r',eb,ZL,gb,xb⟩:=HR.at_ h2 j1 j2;refine uE (IsL.ref h2.gp) xb ?_;have rl':r'.length<=41:=by
  have:=iq (cz ZL);have h3:=p2.length_eq;rw [ah] at h3; lia
 simp only [jm,gb,true_and];refine⟨.inr ⟨by decide,by decide⟩,by decide,?_⟩;refine gk (IsL.ref gb) ?_;rw [aj];simp only [fH,dB,gF];refine⟨by lia,by decide,?_⟩;have Sq:0<=c * 40692 % 999979 % ((r'.length:Int)+1):=g6 _ (by lia);have VC:c * 40692 % 999979 % ((r'.length:Int)+1) < (r'.length:Int)+1:=fC _ (by lia);generalize c * 40692 % 999979 % ((r'.length:Int)+1)=k' at *;simp only [gb];refine⟨Sq,by rw [aj]; lia,N6 (by rw [aj]; lia),?_⟩;rw [show (D.tup [.int m,.int 1,.int hd])=enc (⟨m,1,hd⟩:T3) from rfl,Bi];refine q _ m hd _ ?_ ?_ hm hh (h2.put (r':=ins r' k'.toNat ⟨m,1,hd⟩) eb)
 ·rw [cL]; exact e2
 ·exact(sJ (xE r' k'.toNat ⟨m,1,hd⟩) zd _ ZL).trans (.cons _ p2)
theorem m8{k c:Int}{d0 g:Option D}{A B:i6}{K:kR}{G:Gp}(h1:∀ N,A (fun _ _=>False) { K with nx:=N } [d0,some (.int c),g] G)(h2:B (fun _ _=>False) K [d0,some (.int c),g] G) :
  bX (dg (ez (aQ (yz false) (aQ ju (ay 1) (dC (.int 8))) (dC (.int k)))) A bR) B (fun _ _=>False) K [d0,some (.int c),g] G:=by
 simp only [bX,dg,↓cV,aQ,ay,↓af,↓aa,dC,↓dB,bR];refine⟨by decide,_,_,.int _,.int _,?_⟩;cases g4 (.int (c % 8)) (.int k)
 ·simp only [↓aZ,↓au,↓bE,↓if_false];exact h2
 ·simp only [↓aZ,↓au,↓aX,↓if_false,↓if_true];exact h1 _
noncomputable def rB:i6 :=
 (bX (cW (aQ Oj (aQ ju (aQ wZ (ay 1) (dC (.int 8))) (aQ mI (aQ mI (aQ Le (dC (.int 10)) (dC (.int 30))) (aQ Le (dC (.int 10)) (dC (.int 20)))) (dC (.int 1)))) (aQ Le (dC (.int 10)) (dC (.int 20)))) (bb 2))
 (bX (dg (ez (aQ (yz false) (aQ ju (ay 1) (dC (.int 8))) (dC (.int 0)))) (cu (fu (i9 (aw (eP (aw (dC (.int 0)) (aw (aQ kB (ay 0) (dC (.int 1))) (aw (aQ kB (ay 0) (dC (.int 2))) aU)))) aU)))) bR)
 (bX (dg (ez (aQ (yz false) (aQ ju (ay 1) (dC (.int 8))) (dC (.int 1)))) (cu (fu (i9 (aw (eP (aw (dC (.int 1000)) (aw (aQ kB (ay 0) (dC (.int 1))) (aw (aQ kB (ay 0) (dC (.int 2))) aU)))) aU)))) bR)
 (bX (dg (ez (aQ (yz false) (aQ ju (ay 1) (dC (.int 8))) (dC (.int 2)))) (cu (fu (i9 (aw (eP (aw (ay 2) (aw (aQ kB (ay 0) (dC (.int 1))) (aw (aQ kB (ay 0) (dC (.int 2))) aU)))) aU)))) bR)
 (bX (dg (ez (aQ (yz false) (aQ ju (ay 1) (dC (.int 8))) (dC (.int 3)))) (cu (fu (i9 (aw (eP (aw (aQ kB (ay 0) (dC (.int 0))) (aw (aQ mI (ay 2) (aQ CD (dC (.int 2)) (jN cInt (aw (aQ (rO false) (ay 2) (eP (aw (dC (.int 0)) (aw (dC (.int 1)) aU)))) aU)))) (aw (aQ kB (ay 0) (dC (.int 2))) aU)))) aU)))) bR)
 (bX (dg (ez (aQ (yz false) (aQ ju (ay 1) (dC (.int 8))) (dC (.int 4)))) (cu (fu (i9 (aw (eP (aw (aQ kB (ay 0) (dC (.int 0))) (aw (aQ kB (ay 0) (dC (.int 1))) (aw (aQ CD (ay 2) (jN cInt (aw (aQ (yz true) (aQ CD (ay 2) (ay 2)) (dC (.int 1))) aU))) aU)))) aU)))) bR)
 (bX (dg (ez (aQ (yz false) (aQ ju (ay 1) (dC (.int 8))) (dC (.int 5)))) (cu (fu (i9 (aw (ay 0) (aw (ay 0) aU))))) bR)
 (bX (dg (ez (aQ (yz false) (aQ ju (ay 1) (dC (.int 8))) (dC (.int 6)))) (cu (fu (i9 aU))) bR)
 (cu (fu (i9 (aw (eP (aw (aQ kB (ay 0) (dC (.int 0))) (aw (aQ kB (ay 0) (dC (.int 1))) (aw (ym IM (aQ kB (ay 0) (dC (.int 2)))) aU)))) aU))))))))))))
noncomputable def j3:pD:=fun ds G Q _=>∃ (t:T3) (c:Int),ds=[enc t,.int c]/\∀ L:List T3,L.length<=2->Q (enc L) G
theorem R9{g:Int}(h:g.natAbs < 10 ^ 31):g.natAbs < BN:=NQ h (by unfold BN; decide +kernel)
theorem yN(ds:List D)(G:Gp)(Q:DK)(h:j3 ds G Q fun _ _=>False):rB (fun _ _=>False) (ends Q) (bP 3 ds) G:=by
 obtain⟨t,c,rfl,q⟩:=h;unfold rB;have e:(enc t:D)=.tup [.int t.a,.int t.b,.int t.c]:=rfl;have a0:qu [D.int t.a,D.int t.b,D.int t.c] 0=some (.int t.a):=rfl;have a1:qu [D.int t.a,D.int t.b,D.int t.c] 1=some (.int t.b):=rfl;have a2:qu [D.int t.a,D.int t.b,D.int t.c] 2=some (.int t.c):=rfl;have s30:qV 30=30:=rfl;have s20:qV 20=20:=rfl;simp only [↓dZ,cW,aQ,ay,bP,↓aI,↓br,↓ah,↓ar,bq,↓a6,↓aW,↓af,↓aa,dC,↓gY,↓Ld,↓fH,↓dB,s30,s20,↓kb,bb,ends,↓az,↓av];refine⟨by decide,by decide,by decide,by decide,by decide,by decide,?_⟩;have hg:(c / 8 % (10 ^ 30+10 ^ 20+1) - 10 ^ 20:Int).natAbs < 10 ^ 31:=by lia
 generalize (c / 8 % (10 ^ 30+10 ^ 20+1) - 10 ^ 20:Int)=g at *;have gb:=R9 hg;have one:∀ (x y z:Int) (p:Nat),G p=none->Ng (dO G p (.lst [.tup [.int x,.int y,.int z]])) (.ref p) Q:=fun x y z p hp=>ou (xs:=[(⟨x,y,z⟩:T3)]) (.new hp) hp bg (q _ (lZ rfl));rw [e];refine m8 (fun N=>?_) ?_
 ·simp only [cu,fu,i9,aw,eP,dC,aQ,ay,↓aa,↓eN,↓a1,↓a2,aU,↓ah,↓ar];exact⟨by decide,by decide,fun p hp=>one _ _ _ p hp⟩
 refine m8 (fun N=>?_) ?_
 ·simp only [cu,fu,i9,aw,eP,dC,aQ,ay,↓aa,↓eN,↓a1,↓a2,aU,↓ah,↓ar];exact⟨by decide,by decide,fun p hp=>one _ _ _ p hp⟩
 refine m8 (fun N=>?_) ?_
 ·simp only [cu,fu,i9,aw,eP,ay,↓af,↓aa,aQ,dC,↓eN,↓a1,↓a2,aU,↓ah,↓ar];exact⟨by decide,by decide,fun p hp=>one _ _ _ p hp⟩
 refine m8 (fun N=>?_) ?_
 ·simp only [cu,fu,i9,aw,eP,aQ,ay,↓aa,dC,↓eN,↓a0,↓af,jN,aU,↓ah,↓ar,↓a2];refine⟨by decide,j5 (x:=g) (xs:=[0,1]) (by decide) ?_⟩;generalize decide (g∈[(0:Int),1])=z;simp only [cInt,↓uD,↓au,↓if_false,↓fH];refine⟨⟨by unfold BN; decide +kernel,by cases z <;> (unfold BN; decide +kernel)⟩,?_⟩;exact⟨by decide,by decide,fun p hp=>one _ _ _ p hp⟩
 refine m8 (fun N=>?_) ?_
 ·simp only [cu,fu,i9,aw,eP,aQ,ay,↓aa,dC,↓eN,↓a0,↓a1,↓af,jN,↓uD,aU,↓ah,↓ar];refine⟨⟨gb,gb⟩,_,_,.int _,.int _,?_⟩;generalize g4 (.int (g * g)) (.int 1)=z;simp only [cInt,↓uD,↓if_true];refine⟨⟨gb,by cases z <;> (unfold BN; decide +kernel)⟩,?_⟩;exact⟨by decide,by decide,fun p hp=>one _ _ _ p hp⟩
 refine m8 (fun N=>?_) ?_
 ·simp only [cu,fu,i9,aw,ay,↓aa,aU,↓ah,↓ar];exact⟨by decide,fun p hp=>ou (xs:=[t,t]) (.new hp) hp bg (q _ (lZ rfl))⟩
 refine m8 (fun N=>?_) ?_
 ·simp only [cu,fu,i9,aU,↓ar];exact⟨by decide,fun p hp=>ou (xs:=([]:List T3)) (.new hp) hp bg (q _ (lZ rfl))⟩
 simp only [cu,fu,i9,aw,eP,aQ,ay,↓aa,dC,↓eN,↓a0,↓a1,ym,↓a2,↓kc,aU,↓ah,↓ar];exact⟨by decide,by decide,fun p hp=>one _ _ _ p hp⟩
end NI
namespace NI
open K2.P
open K2.vB (eD j5)
open K2.yo (HR HR.fz HR.put iq c6 kQ tL)
open K2.K3 (HR.at_)
open K2.wx (wb wc)
theorem MG:∀ (rows:Rows) (i:Nat) (r r':List T3),rows[i]?=some r->(rows.set i r').flatten.length+r.length=rows.flatten.length+r'.length:=by
 intro rows;induction rows with
 | nil=>intro i r r' h; cases h
 | cons x rows ih =>
  intro i r r' h;cases i with
  | zero =>
   cases h;rw [av,cA,cA,aB,aB];lia
  | succ i =>
   have:=ih i r r' h;rw [az,cA,cA,aB,aB];lia
theorem O3{G G':Gp}{p0 q:Nat}{as:List Nat}{rs:Rows}{r':List T3}{j:Nat}(h:HR G G' p0 as rs)(hq:G q=none)(gq:G' q=some (.lst (r'.map enc)))(nq:q∉as)(q0:q≠p0)(hj:j < as.length):HR G (dO G' p0 (.lst ((as.map D.ref).set j (.ref q)))) p0 (as.set j q) (rs.set j r'):=by
 refine⟨h.le.put h.fp,h.fp,?_,fun z=>?_,?_,fun a ha=>?_,by rw [cL,cL]; exact h.len,fun i b r hb hr=>?_⟩
 ·rw [bg,List.map_set]
 ·rcases pB z with z | z
  ·exact h.np z
  ·exact q0 z.symm
 ·rw [oS,pA];intro i k hi hk hik;rw [cL] at hi hk;have nd:=List.pairwise_iff_getElem.mp (List.nodup_iff_pairwise_ne.mp h.nd) i k hi hk hik;rw [List.getElem_set,List.getElem_set];split
  ·split
   ·lia
   ·intro z; exact nq (by rw [z]; exact bB _)
  ·split
   ·intro z; exact nq (by rw [<-z]; exact bB _)
   ·exact nd
 ·rcases pB ha with ha | rfl
  ·exact h.fr a ha
  ·exact hq
 ·have yk:b≠p0:=fun z=>by
   have:=cz hb;rw [z] at this;rcases pB this with y | y
   ·exact h.np y
   ·exact q0 y.symm
  rw [dN yk];by_cases e:j=i
  ·subst e;rw [cZ hj] at hb;rw [cZ (by rw [<-h.len]; exact hj)] at hr;cases hb; cases hr;exact gq
  ·rw [dR e] at hb hr;exact h.at' i b r hb hr
noncomputable def vg:i6 :=
 (bX (cW (aQ ju (cS c6 (aw (ay 0) (aw (dC (.int 0)) aU))) (dC (.int 12))) (bb 1))
 (bX (dg (ez (aQ (rO true) (ay 1) (eP (aw (dC (.int 0)) (aw (dC (.int 4)) (aw (dC (.int 5)) aU)))))) (cW (aQ mI (dC (.int 1)) (aQ ju (ay 1) (dC (.int 3)))) (bb 1)) bR)
 (bX (cW (iG 1 [] (Hw (ay 1)) (bb 0) none (i9 aU)) (bb 2))
 (bX (dg (ez (ay 2)) (bX (jW (pb (tV (ay 0) (kn (dC (.int 3))) (kn (dC (.int 17))))) (bb 3) (iF (cS kY (aw (ay 2) (aw (ay 3) aU)))))
 (bX (cW (cS c6 (aw (ay 0) (aw (dC (.int 1)) aU))) (bb 3))
 (bX (cW (aQ kB (ay 2) (aQ ju (aQ wZ (ay 3) (dC (.int 4))) (jN ko (aw (ay 2) aU)))) (bb 4))
 (dg (BG (ez (aQ Tq (aQ ju (ay 3) (dC (.int 4))) (dC (.int 0)))) (ez (ay 4))) (bX (cW (aQ ju (aQ ju (aQ EY (ay 3) (dC (.int 69621))) (dC (.int 999983))) (jN ko (aw (ay 4) aU))) (bb 5))
 (bX (cW (aQ mI (aQ mI (tV (ay 4) dr (kn (ay 5))) (cS j3 (aw (aQ kB (ay 4) (ay 5)) (aw (cS c6 (aw (ay 0) (aw (dC (.int 2)) aU))) aU)))) (tV (ay 4) (kn (aQ mI (ay 5) (dC (.int 1)))) dr)) (bb 6))
 (cW (ay 6) (FE (ay 2) (aQ ju (aQ wZ (ay 3) (dC (.int 4))) (jN ko (aw (ay 2) aU))))))) bR)))) bR)
 (cu (fu (ay 2)))))))
noncomputable def mh:pD:=fun ds G Q _=>∃ ns:List Int,ds=[.eL (ns.map D.int)]/\∀ (rows:Rows) (p:Nat) (as:List Nat) (G':Gp),rows.length<=5->rows.flatten.length<=30->HR G G' p as rows->Q (.ref p) G'
theorem DO(ds:List D)(G:Gp)(Q:DK)(h:mh ds G Q fun _ _=>False):vg (fun _ _=>False) (ends Q) (bP 7 ds) G:=by
 obtain⟨ns,rfl,q⟩:=h;unfold vg;simp only [↓dZ,cW,aQ,cS,aw,ay,bP,↓aI,↓br,↓ah,↓ar,bq,↓a6,↓aW,↓aa,dC,aU,bb,ends,↓az,↓av];refine⟨ns,0,rfl,by decide,?_⟩;simp only [↓dB];refine⟨by decide,?_⟩;have m1:0<=kQ ns 0 % 12:=by lia
 have m2:kQ ns 0 % 12 < 12:=by lia
 generalize kQ ns 0 % 12=m at *;refine iL (fun τ G'=>G=G'/\∃ k:Int,(0<=k/\k<=5)/\τ=[some (.eL (ns.map D.int)),some (.int k),none,none,none,none,none]) ?_ ?_
 ·intro N hN;simp only [dg,↓cV,aQ,ay,↓af,↓aa,eP,aw,dC,aU,↓ah,↓ar,cW,↓dB,↓fH,bb,↓az,↓av,bR];refine⟨by decide,j5 (x:=m) (xs:=[0,4,5]) (by decide) ?_⟩;by_cases hm:m∈[(0:Int),4,5]
  ·rw [decide_eq_true hm];simp only [↓aZ,↓aX,↓if_true,↓au,↓if_false];exact hN _ _ ⟨rfl,m,⟨m1,by simp at hm; lia⟩,rfl⟩
  ·rw [decide_eq_false hm];simp only [↓aZ,↓bE,↓if_true];exact⟨by decide,hN _ _ ⟨rfl,_,⟨by lia,by lia⟩,rfl⟩⟩
 rintro _ _ ⟨rfl,k,⟨k1,k3⟩,rfl⟩;simp only [↓dZ,cW,iG,↓kh,ay,↓af,↓aa,↓jc,bb,↓az,↓av];refine⟨by lia,by lia,Nu (by unfold kH; rw [aj,gU]; lia),?_⟩;unfold kH;refine nC (xs:=cF k.toNat) (fun pre acc τ G'=>(∃ a,τ=[a])/\∃ as:List Nat,acc=as.map D.ref/\as.length=pre.length/\as.Nodup/\(∀ a∈as,G a=none/\G' a=some (.lst []))/\jE G G') ⟨⟨_,rfl⟩,[],rfl,rfl,fM,(fun a h=>by cases h),.refl G⟩ (fun _ _ _ _ _=>trivial) ?_ ?_
 ·rintro pre x post acc τ G' N e ⟨⟨a,rfl⟩,as,rfl,hl,hn,ha,le⟩ hN;simp only [bb,i9,aU,↓ar,↓av];refine⟨by decide,fun p hp=>?_⟩;refine hN _ _ _ ⟨⟨_,rfl⟩,as++[p],by simp,by simp [hl],?_,?_,le.trans (.new hp)⟩
  ·rw [lq];refine⟨hn,by simp,fun a h b hb e=>?_⟩;rw [gC] at hb;subst hb e;rw [(ha a h).2] at hp; cases hp
  ·intro a h0;rcases List.mem_append.mp h0 with h | h
   ·refine⟨(ha a h).1,?_⟩;rw [dN (fun z=>by rw [<-z,(ha a h).2] at hp; cases hp)];exact(ha a h).2
   ·rw [gC] at h;subst h;exact⟨le.free hp,bg⟩
 rintro acc τ G1 ⟨⟨a,rfl⟩,as,rfl,hl,hn,ha,le⟩ p0 B4;rw [gU] at hl;have VG:HR G (dO G1 p0 (.lst (as.map D.ref))) p0 as (bq as.length []):=by
  refine⟨le.trans (.new B4),le.free B4,bg,fun z=>?_,hn,fun a h=>(ha a h).1,by simp,fun i b r hb hr=>?_⟩
  ·rw [(ha p0 z).2] at B4; cases B4
  ·have yk:=cz hb;have:r=[]:=List.eq_of_mem_replicate (cz hr);subst this;rw [dN (by rintro rfl; rw [(ha b yk).2] at B4; cases B4)];exact(ha b yk).2
 generalize dO G1 p0 (.lst (as.map D.ref))=G2 at *;refine iL (fun τ G'=>∃ (a b c d e:Option D) (rows:Rows) (as:List Nat),τ=[some (.eL (ns.map D.int)),a,some (.ref p0),b,c,d,e]/\rows.length<=5/\rows.flatten.length<=30/\HR G G' p0 as rows) ?_ ?_
 rotate_left
 ·rintro _ G3 ⟨a,b,c,d,e,rows,ZQ,rfl,r1,r2,hr⟩;simp only [cu,fu,ay,↓af,↓aa];exact kP (q rows p0 ZQ G3 r1 r2 hr)
 intro N hN;simp only [dg,↓cV,ay,↓af,↓aa,sH,D7,↓VG.gp,bR];have rep:(bq as.length ([]:List T3)).length=as.length:=by simp
 have Wr:(bq as.length ([]:List T3)).flatten.length=0:=by simp
 cases as with
 | nil=>exact hN _ _ ⟨_,_,_,_,_,_,[],rfl,by rw [rep]; decide,by rw [Wr]; decide,VG⟩
 | cons a0 SH =>
 rw [if_pos (show (!((a0 :: SH).map D.ref).isEmpty)=true from rfl)];have hk1:1<=(a0 :: SH).length:=jL (bY _);generalize a0 :: SH=as at *;refine iL (fun τ G'=>∃ (b:Option D) (rows:Rows),τ=[some (.eL (ns.map D.int)),some (.int k),some (.ref p0),b,none,none,none]/\rows.length=as.length/\rows.flatten.length<=28/\HR G G' p0 as rows) ?_ ?_
 ·intro N2 zA;simp only [jW,↓e8,tV,ay,↓aa,↓fV,dC,↓eS,↓nQ];intro p1 f1;have ec:cut (ns.map D.int) (some 3) (some 17)=(cut ns (some 3) (some 17)).map D.int:=oG _ _ _ _;have X1:(cut ns (some 3) (some 17)).length<=14:=by
   unfold cut iY;simp only;rw [dG];have h1:min (17:Int).toNat ns.length<=17:=Nat.min_le_left _ _;simp;lia
  rw [ec];generalize cut ns (some 3) (some 17)=cs at *;have Zc:=wb (o:=.lst (cs.map D.int)) VG f1;have b1:(dO G p1 (.lst (cs.map D.int))) p1=some (.lst (cs.map D.int)):=bg;have lB:jE G (dO G p1 (.lst (cs.map D.int))):=.new (VG.le.free f1);generalize dO G2 p1 (.lst (cs.map D.int))=G3 at *;generalize dO G p1 (.lst (cs.map D.int))=B at *;refine tL (IsL.ref b1) Zc.le fun ok ck=>?_;refine k8 (xs:=cs) (fun pre τ G'=>(∃ a,τ=[some (.eL (ns.map D.int)),some (.int k),some (.ref p0),a,none,none,none])/\∃ rows:Rows,HR B G' p0 as rows/\rows.flatten.length=2 * pre.length/\rows.length=as.length) ⟨⟨_,rfl⟩,_,Zc,by simp,by simp⟩ (fun _ _ _ h=>by obtain⟨_,_,h,_⟩:=h; exact ck _ h.le) ?_ ?_
  ·rintro pre c post τ G' N3 e ⟨⟨a,rfl⟩,rows,hr,fl,QL⟩ P9;have Jo:pre.length < 14:=by have:=congrArg gE e; simp at this; lia
   simp only [bb,iF,cS,aw,ay,↓az,↓av,↓af,↓aa,aU];refine⟨B,p0,as,rows,c,rfl,hr,⟨by lia,by lia,by lia⟩,fun Cy m hd G4 h1 h2 h3 h4 h5=>?_⟩;refine P9 _ _ ⟨⟨_,rfl⟩,Cy,h5,?_,by lia⟩;have:=h2.length_eq;rw [ah,ah] at this;rw [aB,bV]; lia
  ·rintro τ G' ⟨⟨a,rfl⟩,rows,hr,fl,QL⟩;exact zA _ _ ⟨a,rows,rfl,QL,by lia,wc lB hr⟩
 rintro _ G3 ⟨b,rows,rfl,QL,rfl',hr⟩;simp only [↓dZ,cW,cS,aw,ay,↓aa,dC,aU,bb,aQ,↓az,↓av,↓af,jN];refine⟨ns,1,rfl,by decide,?_⟩;simp only [↓gY];generalize kQ ns 1=c;refine⟨by decide,by decide,?_⟩;refine gk (IsL.ref hr.gp) ?_;rw [aj,hr.len];simp only [↓dB];refine⟨by lia,?_⟩;have i1:0<=c / 4 % (rows.length:Int):=g6 _ (by lia);have i2:c / 4 % (rows.length:Int) < rows.length:=fC _ (by lia);generalize hi:c / 4 % (rows.length:Int)=i at *;obtain⟨a,r,ea,er,ga,xa⟩:=HR.at_ hr i1 i2;refine uE (IsL.ref hr.gp) xa ?_;have rl:r.length<=28:=bZ (iq (cz er)) rfl';have same:N [some (.eL (ns.map D.int)),some (.int k),some (.ref p0),some (.int c),some (.ref a),none,none] G3:=hN _ _ ⟨_,_,_,_,_,rows,as,rfl,by lia,by lia,hr⟩;simp only [dg,BG,↓cV,aQ,ay,↓af,↓aa,dC,↓dB,↓k6,↓aZ,↓dZ,cW,↓jt,jN,aw,aU,bb,tV,↓az,↓av,dr,↓fV,↓mq,cS,bR,↓au,↓if_false];refine⟨by decide,?_⟩;by_cases hc:c % 4 > 0
 rotate_left
 ·rw [decide_eq_false hc];simp only [↓au,↓if_false];exact same
 rw [decide_eq_true hc];simp only [sH,D7,↓ga,↓if_true];cases Zb:r with
 | nil=>exact same
 | cons t0 r0 =>
 have lX:1<=r.length:=by rw [Zb]; exact jL (bY _)
 rw [if_pos (show (!((t0 :: r0).map (enc:T3->D)).isEmpty)=true from rfl)];clear Zb;refine⟨.inr ⟨by decide,by decide⟩,by decide,?_⟩;refine gk (IsL.ref ga) ?_;rw [aj];simp only [↓dB,↓eS,↓fH];refine⟨by lia,?_⟩;have Sq:0<=c * 69621 % 999983 % (r.length:Int):=g6 _ (by lia);have VC:c * 69621 % 999983 % (r.length:Int) < r.length:=fC _ (by lia);generalize c * 69621 % 999983 % (r.length:Int)=j at *;obtain⟨j,rfl⟩:=Int.eq_ofNat_of_zero_le Sq;have hj:j < r.length:=by lia
 refine uC (IsL.ref ga) ?_;rw [oG,Gb r j (by lia)];intro p2 f2;have l2:jE G3 (dO G3 p2 (.lst ((r.take j).map enc))):=.new f2;have g2:(dO G3 p2 (.lst ((r.take j).map enc))) p2=some (.lst ((r.take j).map enc)):=bg;generalize dO G3 p2 (.lst ((r.take j).map enc))=G4 at *;have ga4:=l2 _ _ ga;refine uE (x:=enc r[j]) (IsL.ref ga4) (by rw [oO _ (by lia) (by rw [aj]; lia),eT]; rfl) ?_;refine⟨ns,2,rfl,by decide,?_⟩;refine⟨r[j],kQ ns 2,rfl,fun L hL=>?_⟩;show u3 _ _ _ _;unfold u3;rw [jw (IsL.ref g2),jw (IsL.enc L)];refine⟨Nu (by rw [aj,aj,dG]; lia),fun p3 f3=>?_⟩;have l3:=l2.trans (jE.new (p:=p3) (o:=.lst ((r.take j).map enc++L.map enc)) f3);have g3:(dO G4 p3 (.lst ((r.take j).map enc++L.map enc))) p3=some (.lst ((r.take j).map enc++L.map enc)):=bg;have f3':=l2.free f3;generalize dO G4 p3 (.lst ((r.take j).map enc++L.map enc))=G5 at *;have ga5:=l3 _ _ ga;refine uC (IsL.ref ga5) ?_;rw [show ((j:Int)+1)=((j+1:Nat):Int) from rfl,oG,xX r (j+1) (by lia)];intro p4 f4;have Xs:p3≠p4:=fun z=>by rw [<-z,g3] at f4; cases f4
 have l4:=l3.trans (jE.new (p:=p4) (o:=.lst ((r.drop (j+1)).map enc)) f4);show u3 _ _ _ _;unfold u3;rw [jw (IsL.ref (ds:=(r.take j).map enc++L.map enc) (by rw [dN Xs]; exact g3)),jw (IsL.ref bg)];have hsz:(r.take j++L++r.drop (j+1)).length<=r.length+1:=by
  rw [aB,aB,dG,cK]; lia
 refine⟨Nu (by rw [aB,aj,aj,aj,dG,cK]; lia),fun p5 f5=>?_⟩;have em:(r.take j).map enc++L.map enc++(r.drop (j+1)).map enc=(r.take j++L++r.drop (j+1)).map (enc:T3->D):=by rw [dD,dD]
 rw [em];generalize r.take j++L++r.drop (j+1)=r' at *;have UW:=l4.free f5;have l5:=l4.trans (jE.new (p:=p5) (o:=.lst (r'.map enc)) f5);have g5:(dO (dO G5 p4 (.lst ((r.drop (j+1)).map enc))) p5 (.lst (r'.map enc))) p5=some (.lst (r'.map enc)):=bg;generalize dO (dO G5 p4 (.lst ((r.drop (j+1)).map enc))) p5 (.lst (r'.map enc))=G6 at *;have Sv:HR G G6 p0 as rows:=Ql.O4 hr l5;simp only [FE,ay,↓af,↓aa,aQ,dC,↓gY,jN,aw,aU];refine⟨by decide,by decide,?_⟩;refine gk (IsL.ref Sv.gp) ?_;rw [aj,Sv.len];simp only [↓dB,hi];refine⟨by lia,?_⟩;unfold Cq;simp only [Sv.gp];have hix:Hu (as.map D.ref).length i=some i.toNat:=by unfold Hu; rw [if_pos i1,if_pos (by rw [aj,Sv.len]; exact i2)]
 rw [hix];have q5:p5≠p0:=fun z=>by rw [z,hr.gp] at UW; cases UW
 have n5:p5∉as:=fun z=>by
  obtain⟨j',Zp⟩:=gR z;have h1:j' < rows.length:=by rw [<-hr.len]; exact(List.getElem?_eq_some_iff.mp Zp).1
  rw [hr.at' j' p5 rows[j'] Zp (ai h1)] at UW; cases UW
 have hf:=MG rows i.toNat r r' er;exact hN _ _ ⟨_,_,_,_,_,rows.set i.toNat r',_,rfl,by rw [cL]; lia,by lia,O3 Sv (hr.le.free UW) g5 n5 q5 (by rw [Sv.len]; lia)⟩
end NI
namespace NI
open K2.P
open K2.vB (eD)
open K2.yo (HR HR.fz iq c6 dq)
open K2.wx (fS)
open K2.Ql (wO)
open K2.K4 (cY)
theorem TU{L:List T3}:∀ (l:List Int) {w:Str} {n:Int},nf L l=some (w,n)->Vv w:=by
 intro l;induction l with
 | nil=>intro w n h; cases h
 | cons a l ih =>
  intro w n h;rw [A9] at h;split at h
  ·cases h; exact eE _
  split at h
  ·cases h; exact eE _
  ·exact ih h
theorem R3{rows:Rows}{w:Str}{n:Int}(h:Pn rows=some (w,n)):Vv w:=by
 unfold Pn at h;split at h
 ·cases h; exact eE _
 cases hf:fst [] rows.flatten with
 | some z=>rw [hf] at h; cases h; exact(Pa _ _ hf).2.1
 | none =>
  rw [hf] at h;have h:OQ rows.flatten=some (w,n):=h;unfold OQ at h;cases hn:nf rows.flatten (ui rows.flatten) with
  | some z=>rw [hn] at h; cases h; exact TU _ hn
  | none =>
   rw [hn] at h;have h:(if 12 < (ui rows.flatten).length then some (("many" : Str),((ui rows.flatten).length:Int)) else none)=some (w,n):=h;split at h
   ·cases h; exact eE _
   ·cases h
theorem R4{rows:Rows}(h:Pn rows=none):(rows.flatten.map T3.s).Nodup:=by
 unfold Pn at h;split at h
 ·cases h
 cases hf:fst [] rows.flatten with
 | some z=>rw [hf] at h; cases h
 | none=>exact(Df _ [] hf fM).1
theorem Rt{G G2:Gp}{p:Nat}{as:List Nat}{rs:Rows}(h:HR (fun _=>none) G2 p as rs)(d:∀ a o,G2 a=some o->G a=none):HR G (JZ G2 G) p as rs:=by
 have u:∀ {a:Nat} {o:GO},G2 a=some o->JZ G2 G a=some o:=fun {a o} e=>by unfold JZ; rw [e]
 have ga:∀ a∈as,∃ o,G2 a=some o:=fun a ha=>by
  obtain⟨i,hi⟩:=gR ha;have h1:i < rs.length:=by rw [<-h.len]; exact(List.getElem?_eq_some_iff.mp hi).1
  exact⟨_,h.at' i a rs[i] hi (ai h1)⟩
 refine⟨fun a o e=>?_,d _ _ h.gp,u h.gp,h.np,h.nd,fun a ha=>(ga a ha).elim fun o e=>d _ _ e,h.len,fun i a r h1 h2=>u (h.at' i a r h1 h2)⟩;unfold JZ;cases e2:G2 a with
 | none=>exact e
 | some o'=>rw [d a o' e2] at e; cases e
noncomputable def K9:i6 :=
 (bX (cW (fu (cS mh (aw (ay 0) aU))) (bb 1))
 (bX (R0 2 (cW (iG 1 [] (pb (ay 1)) (bb 0) none (fu (jN xZ (aw (ay 0) aU)))) (bb 2)))
 (bX (cW (cS nO (aw (ay 1) aU)) (bb 3))
 (bX (cW (dC .cy) (bb 4))
 (bX (cW (dC .cy) (bb 5))
 (bX (HL j9 (aw (ay 2) aU) 5 6 ["NoDrawing"] (cW (ay 6) (bb 4)))
 (bX (dg (ez (aQ (yz true) (ay 2) (ay 1))) (cu (fu (dC (.bl false)))) bR)
 (bX (dg (ez (ym (vM false) (ay 3))) (bX (dg (zK (ez (ym (vM true) (ay 4))) (zK (jV (ez (cS cY (aw (ay 5) aU)))) (ez (aQ (yz true) (ay 5) (cS fS (aw (ay 1) aU)))))) (cu (fu (dC (.bl false)))) bR)
 (bX (jW (pb (ay 5)) (bb 7) (iF (B6 D6 tm (ay 7) (aw (eP (aw (dC (.int 1)) (aw (dC (.int 0)) (aw (dC (.int 1)) aU)))) aU))))
 (cu (fu (xW (aQ (yz false) (ay 2) (ay 1)) (aQ (yz false) (xV j9 (aw (ay 2) aU)) (cS fS (aw (ay 1) aU)))))))) bR)
 (bX (dg (zK (ez (ym (vM false) (ay 4))) (zK (jV (ez (DA ["NoDrawing"] ["NoDrawing"] (ay 4)))) (jV (ez (MY ["NoDrawing"] (ay 4)))))) (cu (fu (dC (.bl false)))) bR)
 (bX (dg (zK (ez (DA ["NoDrawing"] [] (ay 4))) (ez (DA ["NoDrawing"] [] (ay 4)))) (cu (fu (dC (.bl false)))) bR)
 (cu (fu (xW (DB "str" (uV ["NoDrawing"] "word" (ay 4))) (xW (cS dq (aw (uV ["NoDrawing"] "place" (ay 4)) aU)) (aQ (yz false) (eP (aw (uV ["NoDrawing"] "word" (ay 4)) (aw (uV ["NoDrawing"] "place" (ay 4)) aU))) (ay 3))))))))))))))))
theorem Se(ds:List D)(G:Gp)(Q:DK)(h:y8 ds G Q fun _ _=>False):K9 (fun _ _=>False) (ends Q) (bP 8 ds) G:=by
 obtain⟨ns,rfl,Bm,hG,q⟩:=h;unfold K9;simp only [↓dZ,cW,fu,cS,aw,ay,bP,↓aI,↓br,↓ah,↓ar,bq,↓a6,↓aW,↓aa,aU,bb,ends,↓az,↓av];refine⟨ns,rfl,fun rows p as G1 r1 r2 hr=>hr.fz ?_⟩;have Uh:∀ r∈rows,r.length<=30:=fun r hr=>bZ (iq hr) r2;refine iL (fun τ G'=>G'=G/\τ=[some (.eL (ns.map D.int)),some (enc rows),some (enc rows),none,none,none,none,none]) ?_ ?_
 ·intro N hN;simp only [R0,cW,iG,↓e8,ay,↓af,↓aa,bb,↓az,↓av];refine wa ⟨Nu (by rw [aj]; lia),?_⟩;refine nC (xs:=rows) (fun pre acc τ G'=>G=G'/\(∃ a,τ=[a])/\acc=pre.map enc) ⟨rfl,⟨_,rfl⟩,rfl⟩ (fun _ _ _ _ _=>trivial) ?_ ?_
  ·rintro pre r post acc τ G' N e ⟨rfl,⟨a,rfl⟩,rfl⟩ hN;simp only [bb,fu,jN,aw,ay,↓av,↓aa,aU];refine M6 (IsL.enc r) fun p hp=>ou (xs:=r) (.new hp) hp bg (hN _ _ _ ⟨rfl,⟨_,rfl⟩,?_⟩);rw [dD]; rfl
  ·rintro acc τ G' ⟨rfl,⟨a,rfl⟩,rfl⟩ p hp;exact ou (xs:=rows) (.new hp) hp bg (hN _ _ ⟨rfl,rfl⟩)
 rintro _ G ⟨rfl,rfl⟩;simp only [↓dZ,cW,cS,aw,ay,↓af,↓aa,aU,bb,dC,↓az,↓av];refine⟨rows,rfl,⟨by lia,by lia⟩,?_⟩;simp only [↓fu,↓bP,↓ends,↓cV,↓aQ,↓ym,↓ay,↓jN,↓B6,↓aw,↓aU,↓cu,↓zJ,↓iF,↓cW,↓bb,↓dC,↓bR,↓eP,↓i9,↓xU,↓i4,↓BG,↓zK,↓jV,↓iS,↓qR,↓lQ,↓tV,↓fV,↓dr,↓e8,↓kh,↓cS,↓iG,↓fH,↓mZ,↓lJ,↓lI,↓kb,↓jt,↓dB,↓gY,↓kc,↓nR,↓nS,↓k6,↓qG,↓eN,↓kf,↓jr,↓nQ,↓mq,↓lS,↓lR,↓lA,↓gG,↓ip,↓gF,↓fP,↓jm,↓qF,↓qE,↓qB,↓true_and,↓and_true,↓qO,↓oq,↓eS,↓aZ,↓jc,↓lO,↓qN,↓lN,↓aI,↓br,↓a6,↓aW,↓aa,↓af,↓av,↓az,↓ah,↓ar,↓bq,↓if_true,↓if_false,↓aX,↓bE,↓au,↓dZ,↓ka];have ZM:∀ (G':Gp) (R:DK),R (.bl false) G'->yz true (enc rows) (enc rows) G' R:=fun G' R h=>by
  refine⟨_,_,Enc.sn G' 8 rows (by decide),Enc.sn G' 8 rows (by decide),?_⟩;rw [Enc.eqv,decide_eq_true rfl];exact h
 cases hc:Pn rows with
 | none =>
  have nd:=R4 hc;have PH:(rows.length<=1000/\∀ r∈rows,r.length<=1000/\(r.map T3.s).Nodup):=⟨by lia,fun r hr=>⟨bZ (Uh r hr) (by decide),nd.sublist ((List.sublist_flatten_of_mem hr).map _)⟩⟩;refine iL (fun τ G'=>∃ p as,HR G G' p as (rows.map eD)/\τ=[some (.eL (ns.map D.int)),some (enc rows),some (enc rows),some .cy,some .cy,some (.ref p),none,none]) ?_ ?_
  ·intro N hN;unfold HL;simp only [aw,ay,↓af,↓aa,aU,↓az,↓av,cW,bb];refine⟨rows,rfl,⟨by lia,by lia⟩,?_⟩;rw [hc];exact fun p as G2 hr d=>hN _ _ ⟨p,as,Rt hr d,rfl⟩
  rintro _ G2 ⟨p,as,hr,rfl⟩;simp only [bX,dg,↓cV,aQ,ay,↓af,↓aa,cu,fu,dC,bR,ym,zK,↓if_true,jV,cS,aw,aU,↓iS,↓i4,eP,↓ah,↓ar];refine ZM _ _ ?_;simp only [↓aZ,↓au,vM,↓bE,↓aX,↓if_false,↓if_true];have sl:∀ i,i < (rows.map eD).length->((rows.map eD)[i]?.getD []).length<=30:=fun i hi=>by
   rw [ai hi,eT];show (eD _).length<=30;rw [(K2.K4.EW _).length_eq];exact Uh _ (bB _)
  refine⟨G,p,as,_,rfl,hr,?_⟩;simp only [↓aZ,↓aX,↓au,↓if_false];refine⟨rows,rfl,PH,?_⟩;refine⟨_,_,wO hr,Enc.sn _ 8 (rows.map eD) (by decide),?_⟩;rw [Enc.eqv,decide_eq_true rfl];simp only [↓aZ,↓aX,↓if_true,↓au,jW,↓e8,ay,↓af,↓aa,↓if_false];rw [Bl hr.gp];refine FG (fun pre τ G'=>G' p=some (.lst (as.map D.ref))/\(∀ a∈as,∃ xs,G' a=some (.lst xs)/\xs.length<=30+pre.length)/\∃ b,τ=[some (.eL (ns.map D.int)),some (enc rows),some (enc rows),some .cy,some .cy,some (.ref p),none,b]) ⟨hr.gp,fun a ha=>?_,_,rfl⟩ (fun _ _ _ h=>h.1) ?_ ?_
  ·obtain⟨i,hi⟩:=gR ha;have h1:i < (rows.map eD).length:=by rw [<-hr.len]; exact(List.getElem?_eq_some_iff.mp hi).1
   have:=sl i h1;rw [ai h1] at this;exact⟨_,hr.at' i a _ hi (ai h1),by rw [aj]; exact this⟩
  ·rintro pre d post τ G' N e ⟨gp,ql,b,rfl⟩ hN;have hd:d∈as.map D.ref:=by rw [e]; simp
   obtain⟨a,ha,rfl⟩:=List.mem_map.mp hd;have Jo:pre.length < as.length:=by have:=congrArg gE e; simp at this; lia
   have has:as.length<=5:=by rw [hr.len,aj]; exact r1
   obtain⟨xs,gx,hx⟩:=ql a ha;have hap:p≠a:=fun z=>hr.np (by rw [z]; exact ha);simp only [bb,iF,B6,ay,↓az,↓av,↓af,↓aa,↓jm,↓gx,aw,eP,dC,aU,↓ah,↓ar,↓gG,↓true_and];refine⟨by decide,by show _ < 16777216; lia,hN _ _ ⟨by rw [dN hap]; exact gp,fun a' SA=>?_,_,rfl⟩⟩;by_cases z:a'=a
   ·subst z;exact⟨_,bg,by rw [aB,aB,bV,bV]; lia⟩
   ·obtain⟨ys,gy,hy⟩:=ql a' SA;exact⟨ys,by rw [dN z]; exact gy,by rw [aB,bV]; lia⟩
  rintro τ G' ⟨gp,ql,b,rfl⟩;simp only [cu,fu,↓iS,aQ,ay,↓af,↓aa,cS,aw,aU];refine⟨_,_,Enc.sn G' 8 rows (by decide),Enc.sn G' 8 rows (by decide),?_⟩;rw [Enc.eqv,decide_eq_true rfl];simp only [↓aZ,↓au,↓aX,↓if_false,xV,aw,ay,↓af,↓aa,aU,↓if_true];refine⟨rows,rfl,⟨by lia,by lia⟩,?_⟩;rw [hc];intro p2 ZQ G3 hr2;refine⟨rows,rfl,PH,?_⟩;refine⟨_,_,wO hr2,Enc.sn _ 8 (rows.map eD) (by decide),?_⟩;rw [Enc.eqv,decide_eq_true rfl];simp only [↓au,↓aX,↓if_false];exact kP (q _)
 | some z =>
  obtain⟨w,n⟩:=z;have ok:=R3 hc;refine iL (fun τ G'=>G'=G/\τ=[some (.eL (ns.map D.int)),some (enc rows),some (enc rows),some (.tup [.str w,.int n]),some (UY (Er w n)),some .cy,none,none]) ?_ ?_
  ·intro N hN;unfold HL;simp only [aw,ay,↓af,↓aa,aU,↓az,↓av,cW,bb];refine⟨rows,rfl,⟨by lia,by lia⟩,?_⟩;rw [hc];exact⟨(by decide:(["NoDrawing"]:List Str).contains "NoDrawing" = true),hN _ _ ⟨rfl,rfl⟩⟩
  rintro _ G2 ⟨rfl,rfl⟩;unfold UY Er;simp only [bX,dg,↓cV,aQ,ay,↓af,↓aa,cu,fu,dC,bR,ym,zK,↓aI,↓br,↓if_true,jV,cS,aw,aU,↓iS,↓i4,eP,↓ah,↓ar];refine ZM _ _ ?_;simp only [↓aZ,↓au,vM,↓if_true,DA,ay,↓af,↓aa,MY,↓aX,uV,UZ,↓if_false];have c1:([cJ "NoDrawing"]:List Str).contains (cJ "NoDrawing")=true:=by decide
  have c0:([]:List Str).contains (cJ "NoDrawing")=false:=rfl;have lw:ic (cJ "word") ([cJ "word",cJ "place"].zip [D.str w,D.int n])=some (.str w):=by simp [List.zip,ic]
  have lp:ic (cJ "place") ([cJ "word",cJ "place"].zip [D.str w,D.int n])=some (.int n):=by
   have:(cJ "place" == cJ "word")=false:=by decide
   simp [List.zip,ic,this]
  simp only [c1,c0,aX,au,if_false,true_and,lw,lp];refine⟨_,rfl,?_⟩;simp only [isAt,OX,↓aZ];refine⟨_,rfl,n,rfl,?_⟩;simp only [↓aZ,↓if_true];refine⟨_,rfl,_,rfl,by decide,?_⟩;have sn:Sn G2 8 (.tup [.str w,.int n]) (.tup [.str w,.int n]):=.mT (.str w ok) (.mT (.int n) .Ck);refine⟨_,_,sn,sn,?_⟩;have e:g4 (.tup [.str w,.int n]) (.tup [.str w,.int n])=true:=by
   show (w == w&&(n == n&&true))=true;simp
  rw [e];exact kP (q _)
end NI
end K2
end
namespace Fin
open PySem PySem.Spec PyProof.Rows L2 K2
open K2.NI
open K2.yo (c6 vA dq t9)
open K2.K3 (dP ub ja vx)
open K2.K4 (cY jf)
open K2.Ql (mV zU eW qw)
open K2.wx (j8 vw fS ua)
open K2.P (ik qx)
noncomputable def top(i:Nat):Stmt:=PySem.Challenge.pw_knotwise_k02_rows_checked.main.body.getD i (.Pass ⟨0,0,0,0⟩)
noncomputable def Sl(i j:Nat):Stmt:=match top i with | .ClassDef _ _ _ b _ _ _ _ _ _ _=>b.getD j (.Pass ⟨0,0,0,0⟩) | s=>s
section
variable {P:bo} {w:World} {K:ag} {mg:Str->Option Value} {base:Heap}
seal rj B8 gm BR
theorem Cr:cQ ["_law_script","_law_k"] ["_law_script","_law_k"] (a5 (top 17)):=yx
theorem Dl {f:Addr} {fd:aL} (F:rE K "_law_cell" "_law_cell" (top 17) f fd) (c8:mg "len" = none):gi P w K mg base kr 1 f fd ["_law_script","_law_k"] (gf K c6) :=
 Dh F Cr vA fun _ _ _ _ _ _ hr=>have hu:=hr.units; have Xm:=hr.KG; (aF (cG (cB (Lx Xm) (bS 1) (cN dH rfl c8 gN (ao (bS 0) aE)) (fj _)) (aM (bH (bW (c7 hu (bS 0) (bS 1) (fun _ _=>rfl))))) bF)
 (aM (bH (bW aA))))
theorem sL:cQ ["_law_rows_here","_law_used","_law_row","_law_passing"] ["_law_rows_here"] (a5 (top 22)):=yx
theorem Bt {f:Addr} {fd:aL} (F:rE K "_law_names" "_law_names" (top 22) f fd) (ly:mg "sorted" = none):gi P w K mg base kr 1 f fd ["_law_rows_here"] (gf K dP) :=
 Dh F sL ub fun _ _ _ _ _ _ hr=>have nd:=sL.nd; have hu:=hr.units; (aF (sV (i:=1) nd rfl (iZ aE))
 (aF (iA dM rfl (gK (bS 0)) (zo (i:=2) nd rfl) (aM (iA dM rfl (gK (bS 2)) (zo (i:=3) nd rfl) (aM (cG (cB (gw hu) (c7 hu (bS 3) aA (fun _ _=>rfl)) (bS 1) (by with_unfolding_all rfl)) (aM (lL (uH fF D0 DY mS xi (bS 1) (ao (c7 hu (bS 3) aA (fun _ _=>rfl)) aE)))) bF)))))
 (aM (bH (bW (cN (BJ rfl hu) rfl ly zP (ao (bS 1) aE)))))))
theorem ve:cQ ["_law_rows_here","_law_cell_here","_law_name_here"] ["_law_rows_here","_law_cell_here"] (a5 (top 23)):=yx
theorem Dk {f:Addr} {fd:aL} (F:rE K "_law_name" "_law_name" (top 23) f fd) {qo:Addr} {qt:aL} (fX:yQ P w K mg base kr 1 qo qt "_law_names" ["_law_rows_here"] (gf K dP)):gi P w K mg base kr 2 f fd ["_law_rows_here","_law_cell_here"] (gf K ja) :=
 Dh F ve vx fun _ _ _ _ _ _ hr=>have nd:=ve.nd; have hu:=hr.units; (aF (sV (i:=2) nd rfl (bQ iB aA (bQ dQ (bQ dQ (bQ sY (bS 1) aA) aA) aA)))
 (aF (IS dM (cB (A5 hu) (bS 2) (cR fX.ok (hr.mono (by decide)) rfl fX.mg fX.kp fX.bi (ao (bS 0) aE)) (by with_unfolding_all rfl)) (aM (sV (i:=2) nd rfl (bQ iB (bQ dQ (bS 2) aA) aA))))
 (aM (bH (bW (bS 2))))))
theorem sM:cQ ["_law_rows_here","_law_cell_here","_law_name_here","_law_hand","_law_over","_law_under"] ["_law_rows_here","_law_cell_here"] (a5 (top 24)):=yx
theorem Bu {f:Addr} {fd:aL} (F:rE K "_law_cross" "_law_cross" (top 24) f fd) (c8:mg "len" = none) {FL:Addr} {FX:aL} (oK:yQ P w K mg base kr 2 FL FX "_law_name" ["_law_rows_here","_law_cell_here"] (gf K ja)):gi P w K mg base kr 3 f fd ["_law_rows_here","_law_cell_here"] (gf K kY) :=
 Dh F sM BS fun _ _ _ _ _ _ hr=>have nd:=sM.nd; have hu:=hr.units; (aF (sV (i:=2) nd rfl (cR oK.ok (hr.mono (by decide)) rfl oK.mg oK.kp oK.bi (ao (bS 0) (ao (bS 1) aE))))
 (aF (sV (i:=3) nd rfl (bQ He (bQ sY aA (bQ dQ (bS 1) aA)) aA))
 (aF (sV (i:=4) nd rfl (c7 hu (bS 0) (bQ dQ (bQ p6 (bS 1) aA) (cN dH rfl c8 gN (ao (bS 0) aE))) (fun _ _=>rfl)))
 (aF (lL (uH fF DZ DX mS xh (bS 4) (ao (bQ dQ (bQ dQ (bQ sY (bS 1) aA) aA) (bQ iB (cN dH rfl c8 gN (ao (bS 4) aE)) aA)) (ao (cP (ao (bS 2) (ao aA (ao (bS 3) aE)))) aE))))
 (aF (sV (i:=5) nd rfl (c7 hu (bS 0) (bQ dQ (bQ p6 (bS 1) aA) (cN dH rfl c8 gN (ao (bS 0) aE))) (fun _ _=>rfl)))
 (aM (lL (uH fF DZ DX mS xh (bS 5) (ao (bQ dQ (bQ dQ (bQ sY (bS 1) aA) aA) (bQ iB (cN dH rfl c8 gN (ao (bS 5) aE)) aA)) (ao (cP (ao (bS 2) (ao aA (ao (bS 3) aE)))) aE))))))))))
theorem rq:cQ ["_law_passing","_law_cell_here","_law_great"] ["_law_passing","_law_cell_here"] (a5 (top 25)):=yx
theorem yE {f:Addr} {fd:aL} (F:rE K "_law_spoilt" "_law_spoilt" (top 25) f fd) (rT:mg "int" = none):gi P w K mg base kr 1 f fd ["_law_passing","_law_cell_here"] (gf K j3) :=
 Dh F rq yN fun _ _ _ _ _ _ hr=>have nd:=rq.nd; have hu:=hr.units; (aF (sV (i:=2) nd rfl (bQ He (bQ dQ (bQ p6 (bS 1) aA) (bQ iB (bQ iB (bQ A4 aA aA) (bQ A4 aA aA)) aA)) (bQ A4 aA aA)))
 (aF (cG (cB (mJ hu) (bQ dQ (bS 1) aA) aA (fj _)) (aM (bH (bW (iZ (ao (cP (ao aA (ao (c7 hu (bS 0) aA (fun _ _=>rfl)) (ao (c7 hu (bS 0) aA (fun _ _=>rfl)) aE)))) aE))))) bF)
 (aF (cG (cB (mJ hu) (bQ dQ (bS 1) aA) aA (fj _)) (aM (bH (bW (iZ (ao (cP (ao aA (ao (c7 hu (bS 0) aA (fun _ _=>rfl)) (ao (c7 hu (bS 0) aA (fun _ _=>rfl)) aE)))) aE))))) bF)
 (aF (cG (cB (mJ hu) (bQ dQ (bS 1) aA) aA (fj _)) (aM (bH (bW (iZ (ao (cP (ao (bS 2) (ao (c7 hu (bS 0) aA (fun _ _=>rfl)) (ao (c7 hu (bS 0) aA (fun _ _=>rfl)) aE)))) aE))))) bF)
 (aF (cG (cB (mJ hu) (bQ dQ (bS 1) aA) aA (fj _)) (aM (bH (bW (iZ (ao (cP (ao (c7 hu (bS 0) aA (fun _ _=>rfl)) (ao (bQ iB (bS 2) (bQ w8 aA (rP zO rfl rT Gj (ao (sX (A5 hu) (bS 2) (cP (ao aA (ao aA aE))) (by with_unfolding_all rfl)) aE)))) (ao (c7 hu (bS 0) aA (fun _ _=>rfl)) aE)))) aE))))) bF)
 (aF (cG (cB (mJ hu) (bQ dQ (bS 1) aA) aA (fj _)) (aM (bH (bW (iZ (ao (cP (ao (c7 hu (bS 0) aA (fun _ _=>rfl)) (ao (c7 hu (bS 0) aA (fun _ _=>rfl)) (ao (bQ w8 (bS 2) (rP zO rfl rT Gj (ao (sX (rR hu) (bQ w8 (bS 2) (bS 2)) aA (fj _)) aE))) aE)))) aE))))) bF)
 (aF (cG (cB (mJ hu) (bQ dQ (bS 1) aA) aA (fj _)) (aM (bH (bW (iZ (ao (bS 0) (ao (bS 0) aE)))))) bF)
 (aF (cG (cB (mJ hu) (bQ dQ (bS 1) aA) aA (fj _)) (aM (bH (bW (iZ aE)))) bF)
 (aM (bH (bW (iZ (ao (cP (ao (c7 hu (bS 0) aA (fun _ _=>rfl)) (ao (c7 hu (bS 0) aA (fun _ _=>rfl)) (ao (E3 AH (c7 hu (bS 0) aA (fun _ _=>rfl))) aE)))) aE)))))))))))))
theorem vd:cQ ["_law_script","_law_many","_law_rows_here","_law_cell_here","_law_row","_law_at","_law_fresh"] ["_law_script"] (a5 (top 26)):=yx
theorem Dj {f:Addr} {fd:aL} (F:rE K "_law_rows" "_law_rows" (top 26) f fd) (c8:mg "len" = none) (nh:mg "range" = none) {FN:Addr} {FY:aL} (fb:yQ P w K mg base kr 1 FN FY "_law_cell" ["_law_script","_law_k"] (gf K c6)) {Ds:Addr} {Dz:aL} (mB:yQ P w K mg base kr 3 Ds Dz "_law_cross" ["_law_rows_here","_law_cell_here"] (gf K kY)) {Bx:Addr} {BE:aL} (lb:yQ P w K mg base kr 1 Bx BE "_law_spoilt" ["_law_passing","_law_cell_here"] (gf K j3)):gi P w K mg base kr 4 f fd ["_law_script"] (gf K mh) :=
 Dh F vd DO fun _ _ _ _ _ _ hr=>have nd:=vd.nd; have hu:=hr.units; (aF (sV (i:=1) nd rfl (bQ dQ (cR fb.ok (hr.mono (by decide)) rfl fb.mg fb.kp fb.bi (ao (bS 0) (ao aA aE))) aA))
 (aF (cG (cB (gw hu) (bS 1) (cP (ao aA (ao aA (ao aA aE)))) (by with_unfolding_all rfl)) (aM (sV (i:=1) nd rfl (bQ iB aA (bQ dQ (bS 1) aA)))) bF)
 (aF (CI ["_law_k"] (sc:=a5 (top 26)) (XN:=["_law_script","_law_many","_law_rows_here","_law_cell_here","_law_row","_law_at","_law_fresh"]) (i:=2) nd rfl rfl (w4 rfl nh (bS 1)) (fun _ _ _ _=>(zo (i:=0) (show (["_law_k"]:List Str).Nodup by decide +kernel) rfl)) (fun _ _ _ _=>.none) (fun _ _ _ _=>(iZ aE)))
 (aF (cG (fO (bS 2)) (aF (iA dM rfl (gK (fA (bS 0) (fT aA) (fT aA))) (zo (i:=3) nd rfl) (aM (lL (cR mB.ok (hr.mono (by decide)) rfl mB.mg mB.kp mB.bi (ao (bS 2) (ao (bS 3) aE))))))
 (aF (sV (i:=3) nd rfl (cR fb.ok (hr.mono (by decide)) rfl fb.mg fb.kp fb.bi (ao (bS 0) (ao aA aE))))
 (aF (sV (i:=4) nd rfl (c7 hu (bS 2) (bQ dQ (bQ p6 (bS 3) aA) (cN dH rfl c8 gN (ao (bS 2) aE))) (fun _ _=>rfl)))
 (aM (cG (Gn.pt (Ov (cB E6 (bQ dQ (bS 3) aA) aA (fj _)) (Lf (fO (bS 4))))) (aF (sV (i:=5) nd rfl (bQ dQ (bQ dQ (bQ sY (bS 3) aA) aA) (cN dH rfl c8 gN (ao (bS 4) aE))))
 (aF (sV (i:=6) nd rfl (bQ iB (bQ iB (fA (bS 4) gT (fT (bS 5))) (cR lb.ok (hr.mono (by decide)) rfl lb.mg lb.kp lb.bi (ao (c7 hu (bS 4) (bS 5) (fun _ _=>rfl)) (ao (cR fb.ok (hr.mono (by decide)) rfl fb.mg fb.kp fb.bi (ao (bS 0) (ao aA aE))) aE)))) (fA (bS 4) (fT (bQ iB (bS 5) aA)) gT)))
 (aM (AW (bS 6) (AY hu (bS 2) (bQ dQ (bQ p6 (bS 3) aA) (cN dH rfl c8 gN (ao (bS 2) aE)))))))) bF))))) bF)
 (aM (bH (bW (bS 2))))))))
theorem vK:cQ ["_law_passing","_law_met"] ["_law_passing","_law_met"] (a5 (top 27)):=yx
theorem vP {f:Addr} {fd:aL} (F:rE K "_law_fault_of" "_law_fault_of" (top 27) f fd):gi P w K mg base kr 1 f fd ["_law_passing","_law_met"] (gf K iX) :=
 Dh F vK vV fun _ _ _ _ _ _ hr=>have hu:=hr.units; (aF (cG (jv (uF uI uI aA (c7 hu (bS 0) aA (fun _ _=>rfl)) aA)) (aM (bH (bW fh))) bF)
 (aF (cG (cB (gw hu) (c7 hu (bS 0) aA (fun _ _=>rfl)) (cP (ao aA (ao aA aE))) (by with_unfolding_all rfl)) (aM (bH (bW fh))) bF)
 (aF (cG (cB (gw hu) (c7 hu (bS 0) aA (fun _ _=>rfl)) (cP (ao aA (ao (E3 AH aA) aE))) (by with_unfolding_all rfl)) (aM (bH (bW fh))) bF)
 (aF (cG (cB (A5 hu) (fA (bS 0) gT (fT aA)) (bS 1) (by with_unfolding_all rfl)) (aM (bH (bW fh))) bF)
 (aM (bH (bW fh)))))))
theorem wV:cQ ["_law_rows_here","_law_met","_law_row","_law_passing","_law_word","_law_names_here","_law_name_here"] ["_law_rows_here"] (a5 (top 28)):=yx
theorem FH {f:Addr} {fd:aL} (F:rE K "_law_due" "_law_due" (top 28) f fd) (c8:mg "len" = none) {xN:Addr} {xT:aL} (jD:yQ P w K mg base kr 1 xN xT "_law_fault_of" ["_law_passing","_law_met"] (gf K iX)) {qo:Addr} {qt:aL} (fX:yQ P w K mg base kr 1 qo qt "_law_names" ["_law_rows_here"] (gf K dP)):gi P w K mg base kr 2 f fd ["_law_rows_here"] (gf K nO) :=
 Dh F wV Gr fun _ _ _ _ _ _ hr=>have nd:=wV.nd; have hu:=hr.units; (aF (cG (cB (gw hu) (cN dH rfl c8 gN (ao (bS 0) aE)) (cP (ao aA (ao aA (ao aA aE)))) (by with_unfolding_all rfl)) (aM (bH (bW (cP (ao fh (ao (cN dH rfl c8 gN (ao (bS 0) aE)) aE)))))) bF)
 (aF (sV (i:=1) nd rfl Hb)
 (aF (iA dM rfl (gK (bS 0)) (zo (i:=2) nd rfl) (aM (iA dM rfl (gK (bS 2)) (zo (i:=3) nd rfl) (aF (sV (i:=4) nd rfl (cR jD.ok (hr.mono (by decide)) rfl jD.mg jD.kp jD.bi (ao (bS 3) (ao (bS 1) aE))))
 (aF (cG (cB (rR hu) (bS 4) fh (fj _)) (aM (bH (bW (cP (ao (bS 4) (ao (cN Gg rfl c8 gN (ao (bS 1) aE)) aE)))))) bF)
 (aM (AW (c7 hu (bS 3) aA (fun _ _=>rfl)) (AY hu (bS 1) (fA (bS 3) gT (fT aA))))))))))
 (aF (sV (i:=5) nd rfl (cR fX.ok (hr.mono (by decide)) rfl fX.mg fX.kp fX.bi (ao (bS 0) aE)))
 (aF (iA dM rfl (gK (bS 5)) (zo (i:=6) nd rfl) (aF (cG (Gn.pt (pY (cB (gw hu) (cP (ao (bS 6) (ao aA aE))) (bS 1) (by with_unfolding_all rfl)) (qH (cB (gw hu) (cP (ao (bS 6) (ao aA aE))) (bS 1) (by with_unfolding_all rfl))))) (aM (bH (bW (cP (ao fh (ao (bS 6) aE)))))) bF)
 (aM (cG (cB (rR hu) (c7 hu (bS 1) (cP (ao (bS 6) (ao aA aE))) (fun _ _=>rfl)) (c7 hu (bS 1) (cP (ao (bS 6) (ao aA aE))) (fun _ _=>rfl)) (fj _)) (aM (bH (bW (cP (ao fh (ao (bS 6) aE)))))) bF))))
 (aF (cG (cB E6 (cN dH rfl c8 gN (ao (bS 5) aE)) aA (fj _)) (aM (bH (bW (cP (ao fh (ao (cN dH rfl c8 gN (ao (bS 5) aE)) aE)))))) bF)
 (aM (bH (bW qI)))))))))
theorem o9:cQ ["self","word","place"] ["self","word","place"] (a5 (Sl 2 0)):=yx
theorem ph {f C B:Addr} {fd:aL} (z:Vl K C "NoDrawing" "NoDrawing.__init__" "word" "place" (Sl 2 0) f fd) (b:Yx K "KnotError" B) (mb:mg "KnotError" = some (.ref B)):gi P w K mg base kr 1 f fd ["self","word","place"] (Sj K C "word" "place" bJ) :=
 OY (by decide) z.F o9 fun _ _ _ _ _ _ hr=>CG (Oy rfl mb b.sp b.rd b.fc BY z.ex (pv 0) (Lu (zj (by decide +kernel) (GZ (bS 1) (zj (by decide +kernel) (GZ (bS 2) OB)))))) (CG (QP z.Z z.n1 (pv 0) (pv 1)) (Ox (QO z.Z z.n2 (pv 0) (pv 2))))
theorem mX:cQ ["hands","names","name"] ["hands"] (a5 (top 15)):=yx
theorem uQ {f:Addr} {fd:aL} (F:rE K "refuse_names" "refuse_names" (top 15) f fd) (c8:mg "len" = none) (E9:mg "set" = none) (ly:mg "sorted" = none) {jQ:Tok} (tX:mg "MOST_CROSSINGS" = some (.int 12 jQ)) {jF:Addr} {eX:Addr} {eY:aL} (dh:Nl P w K mg base 1 eX eY jF "NoDrawing" ["self","word","place"] "word" "place" bJ):gi P w K mg base (yb P w) 3 f fd ["hands"] (oU K mg iz) :=
 Yb F mX u5 fun _ _ _ _ _ _ hr=>have nd:=mX.nd; have hu:=hr.units; (aF (sV (i:=1) nd rfl (w5 rfl hu rfl ly rfl E9 (ao (sW ["spot"] (sc:=a5 (top 15)) (XN:=["hands","names","name"]) (Ln (bS 0)) (fun _ _ _ _=>(zo (i:=0) (show (["spot"]:List Str).Nodup by decide +kernel) rfl)) (fun _ _ _ _=>.none) (fun _ _ _ _=>(c7 hu (bS 0) aA (fun _ _=>rfl)))) aE)))
 (aF (iA Kq rfl (gK (bS 1)) (zo (i:=2) nd rfl) (aF (cG (Gn.pt (pY (cB (gw hu) (cP (ao (bS 2) (ao aA aE))) (bS 0) (by with_unfolding_all rfl)) (qH (cB (gw hu) (cP (ao (bS 2) (ao aA aE))) (bS 0) (by with_unfolding_all rfl))))) (aM (lK ⟨rfl,rfl,rfl⟩ rfl dh (hr.mono (by decide)) rfl (ao fh (ao (bS 2) aE)))) bF)
 (aM (cG (cB (rR hu) (c7 hu (bS 0) (cP (ao (bS 2) (ao aA aE))) (fun _ _=>rfl)) (c7 hu (bS 0) (cP (ao (bS 2) (ao aA aE))) (fun _ _=>rfl)) (fj _)) (aM (lK ⟨rfl,rfl,rfl⟩ rfl dh (hr.mono (by decide)) rfl (ao fh (ao (bS 2) aE)))) bF))))
 (aM (cG (cB E6 (cN dH rfl c8 gN (ao (bS 1) aE)) (A1 rfl tX) (fj _)) (aM (lK ⟨rfl,rfl,rfl⟩ rfl dh (hr.mono (by decide)) rfl (ao fh (ao (cN dH rfl c8 gN (ao (bS 1) aE)) aE)))) bF))))
theorem pU:cQ ["rows","passings","row"] ["rows"] (a5 (top 9)):=yx
theorem xJ {f:Addr} {fd:aL} (F:rE K "passings_of" "passings_of" (top 9) f fd):gi P w K mg base kr 1 f fd ["rows"] (gf K ik) :=
 Dh F pU qx fun _ _ _ _ _ _ hr=>have nd:=pU.nd; (aF (sV (i:=1) nd rfl (iZ aE))
 (aF (iA dM rfl (gK (bS 0)) (zo (i:=2) nd rfl) (aM (lL (uH fF PySem.F.slot_list_extend PySem.F.type_list_extend mS Fd (bS 1) (ao (bS 2) aE)))))
 (aM (bH (bW (bS 1))))))
theorem Ct:cQ ["passing","hands"] ["passing","hands"] (a5 (top 14)):=yx
theorem Dm {f:Addr} {fd:aL} (F:rE K "fault_of" "fault_of" (top 14) f fd) {kG:Tok} (uX:mg "GREATEST_NAME" = some (.int 999 kG)):gi P w K mg base kr 1 f fd ["passing","hands"] (gf K mi) :=
 Dh F Ct DP fun _ _ _ _ _ _ hr=>have hu:=hr.units; (aF (cG (jv (uF uI uI aA (c7 hu (bS 0) aA (fun _ _=>rfl)) (A1 rfl uX))) (aM (bH (bW fh))) bF)
 (aF (cG (cB (gw hu) (c7 hu (bS 0) aA (fun _ _=>rfl)) (cP (ao aA (ao aA aE))) (by with_unfolding_all rfl)) (aM (bH (bW fh))) bF)
 (aF (cG (cB (gw hu) (c7 hu (bS 0) aA (fun _ _=>rfl)) (cP (ao aA (ao (E3 AH aA) aE))) (by with_unfolding_all rfl)) (aM (bH (bW fh))) bF)
 (aF (cG (cB (A5 hu) (fA (bS 0) gT (fT aA)) (bS 1) (by with_unfolding_all rfl)) (aM (bH (bW fh))) bF)
 (aM (bH (bW qI)))))))
theorem rz:cQ ["rows","hands","place","passing","word"] ["rows"] (a5 (top 13)):=yx
theorem yF {f:Addr} {fd:aL} (F:rE K "hands_met" "hands_met" (top 13) f fd) (nZ:mg "enumerate" = none) {yH:Addr} {yK:aL} (j7:yQ P w K mg base kr 1 yH yK "passings_of" ["rows"] (gf K ik)) {FO:Addr} {FZ:aL} (oM:yQ P w K mg base kr 1 FO FZ "fault_of" ["passing","hands"] (gf K mi)) {jF:Addr} {eX:Addr} {eY:aL} (dh:Nl P w K mg base 1 eX eY jF "NoDrawing" ["self","word","place"] "word" "place" bJ):gi P w K mg base (yb P w) 3 f fd ["rows"] (oU K mg j4) :=
 Yb F rz yO fun _ _ _ _ _ _ hr=>have nd:=rz.nd; have hu:=hr.units; (aF (sV (i:=1) nd rfl Hb)
 (aF (iA Kq rfl (Lm rfl nZ (cR j7.ok (hr.mono (by decide)) rfl j7.mg j7.kp j7.bi (ao (bS 0) aE))) (OC rfl (zm (zo (i:=2) nd rfl) (zm (zo (i:=3) nd rfl) Lo)) (zB (zB Mq))) (aF (sV (i:=4) nd rfl (cR oM.ok (hr.mono (by decide)) rfl oM.mg oM.kp oM.bi (ao (bS 3) (ao (bS 1) aE))))
 (aF (cG (zi (bS 4)) (aM (lK ⟨rfl,rfl,rfl⟩ rfl dh (hr.mono (by decide)) rfl (ao (bS 4) (ao (bS 2) aE)))) bF)
 (aM (AW (c7 hu (bS 3) aA (fun _ _=>rfl)) (AY hu (bS 1) (fA (bS 3) gT (fT aA))))))))
 (aM (bH (bW (bS 1))))))
theorem zc:cQ ["row","start"] ["row"] (a5 (top 10)):=yx
theorem Jx {f:Addr} {fd:aL} (F:rE K "seated" "seated" (top 10) f fd) (Fb:mg "min" = none):gi P w K mg base kr 1 f fd ["row"] (gf K mV) :=
 Dh F zc zU fun _ _ _ _ _ _ hr=>have nd:=zc.nd; have hu:=hr.units; (aF (cG (jv (fO (bS 0))) (aM (bH (bW (iZ aE)))) bF)
 (aF (sV (i:=1) nd rfl (uH fF Et PySem.F.type_list_index mS (IZ hu) (bS 0) (ao (cN (JD rfl hu) rfl Fb R7 (ao (bS 0) aE)) aE)))
 (aM (bH (bW (bQ iB (fA (bS 0) (fT (bS 1)) gT) (fA (bS 0) gT (fT (bS 1)))))))))
theorem wU:cQ ["rows"] ["rows"] (a5 (top 11)):=yx
theorem xI {f:Addr} {fd:aL} (F:rE K "seated_rows" "seated_rows" (top 11) f fd) {MJ:Addr} {MV:aL} (tY:yQ P w K mg base kr 1 MJ MV "seated" ["row"] (gf K mV)):gi P w K mg base kr 2 f fd ["rows"] (gf K eW) :=
 Dh F wU qw fun _ _ _ _ _ _ hr=>(aM (bH (bW (sW ["row"] (sc:=a5 (top 11)) (XN:=["rows"]) (gK (bS 0)) (fun _ _ _ _=>(zo (i:=0) (show (["row"]:List Str).Nodup by decide +kernel) rfl)) (fun _ _ _ _=>.none) (fun _ _ _ _=>(cR tY.ok (hr.mono (by decide)) rfl tY.mg tY.kp tY.bi (ao (bS 0) aE)))))))
theorem Cu:cQ ["rows"] ["rows"] (a5 (top 12)):=yx
theorem Dp {f:Addr} {fd:aL} (F:rE K "checked" "checked" (top 12) f fd) (c8:mg "len" = none) {lF:Tok} (vT:mg "MOST_STRINGS" = some (.int 3 lF)) {jF:Addr} {eX:Addr} {eY:aL} (dh:Nl P w K mg base 1 eX eY jF "NoDrawing" ["self","word","place"] "word" "place" bJ) {vQ:Addr} {vR:aL} (i5:yQ P w K mg base (yb P w) 3 vQ vR "refuse_names" ["hands"] (oU K mg iz)) {By:Addr} {BF:aL} (lg:yQ P w K mg base (yb P w) 3 By BF "hands_met" ["rows"] (oU K mg j4)) {yG:Addr} {yJ:aL} (j6:yQ P w K mg base kr 2 yG yJ "seated_rows" ["rows"] (gf K eW)):gi P w K mg base (yb P w) 4 f fd ["rows"] (oU K mg j9) :=
 Yb F Cu DQ fun _ _ _ _ _ _ hr=>(aF (cG (jv (uF uI uI aA (cN dH rfl c8 gN (ao (bS 0) aE)) (A1 rfl vT))) (aM (lK ⟨rfl,rfl,rfl⟩ rfl dh (hr.mono (by decide)) rfl (ao fh (ao (cN dH rfl c8 gN (ao (bS 0) aE)) aE)))) bF)
 (aF (lL (uG i5.ok (hr.mono (by decide)) rfl i5.mg i5.kp i5.bi (ao (uG lg.ok (hr.mono (by decide)) rfl lg.mg lg.kp lg.bi (ao (bS 0) aE)) aE)))
 (aM (bH (bW (cR j6.ok (hr.mono (by decide)) rfl j6.mg j6.kp j6.bi (ao (bS 0) aE)))))))
theorem AM:cQ ["_law_found"] ["_law_found"] (a5 (top 18)):=yx
theorem Br {f:Addr} {fd:aL} (F:rE K "_law_whole" "_law_whole" (top 18) f fd) (A7:mg "bool" = none) (rT:mg "int" = none) (cw:mg "isinstance" = none):gi P w K mg base kr 1 f fd ["_law_found"] (gf K dq) :=
 Dh F AM t9 fun _ _ _ _ _ _ hr=>(aM (bH (bW (v3 (qJ "int" (by decide) rfl cw rfl rT Gj (bS 0)) (AZ (OF (qJ "bool" (by decide) rfl cw rfl A7 Pq (bS 0))))))))
theorem jb:cQ ["_law_found","_law_row","_law_passing"] ["_law_found"] (a5 (top 19)):=yx
theorem nA {f:Addr} {fd:aL} (F:rE K "_law_rows_of_passings" "_law_rows_of_passings" (top 19) f fd) (Fc:mg "all" = none) (cw:mg "isinstance" = none) (c8:mg "len" = none) (nY:mg "list" = none) (xf:mg "tuple" = none) {qm:Addr} {qr:aL} (fW:yQ P w K mg base kr 1 qm qr "_law_whole" ["_law_found"] (gf K dq)):gi P w K mg base kr 2 f fd ["_law_found"] (gf K cY) :=
 Dh F jb jf fun _ _ _ _ _ _ hr=>have nd:=jb.nd; have hu:=hr.units; (aF (cG (jv (fO (qJ "list" (by decide) rfl cw rfl nY BL (bS 0)))) (aM (bH (bW nT))) bF)
 (aF (iA dM rfl (gK (bS 0)) (zo (i:=1) nd rfl) (aF (cG (jv (fO (qJ "list" (by decide) rfl cw rfl nY BL (bS 1)))) (aM (bH (bW nT))) bF)
 (aM (iA dM rfl (gK (bS 1)) (zo (i:=2) nd rfl) (aF (cG (Gn.pt (pY (jv (fO (qJ "tuple" (by decide) rfl cw rfl xf M8 (bS 2)))) (qH (cB (rR hu) (cN dH rfl c8 gN (ao (bS 2) aE)) aA (fj _))))) (aM (bH (bW nT))) bF)
 (aM (cG (jv (fO (cN (JE rfl) rfl Fc R8 (ao (sW ["_law_number"] (sc:=a5 (top 19)) (XN:=["_law_found","_law_row","_law_passing"]) (gK (bS 2)) (fun _ _ _ _=>(zo (i:=0) (show (["_law_number"]:List Str).Nodup by decide +kernel) rfl)) (fun _ _ _ _=>.none) (fun _ _ _ _=>(cR fW.ok (hr.mono (by decide)) rfl fW.mg fW.kp fW.bi (ao (bS 0) aE)))) aE)))) (aM (bH (bW nT))) bF)))))))
 (aM (bH (bW nT)))))
theorem vc:cQ ["_law_row","_law_best","_law_k"] ["_law_row"] (a5 (top 20)):=yx
theorem Di {f:Addr} {fd:aL} (F:rE K "_law_seat" "_law_seat" (top 20) f fd) (c8:mg "len" = none) (nh:mg "range" = none):gi P w K mg base kr 1 f fd ["_law_row"] (gf K j8) :=
 Dh F vc vw fun _ _ _ _ _ _ hr=>have nd:=vc.nd; have hu:=hr.units; have Xm:=hr.KG; (aF (sV (i:=1) nd rfl aA)
 (aF (iA dM rfl (w4 rfl nh (cN dH rfl c8 gN (ao (bS 0) aE))) (zo (i:=2) nd rfl) (aM (cG (cB (Lx Xm) (fA (c7 hu (bS 0) (bS 2) (fun _ _=>rfl)) gT (fT aA)) (fA (c7 hu (bS 0) (bS 1) (fun _ _=>rfl)) gT (fT aA)) (fj _)) (aM (sV (i:=1) nd rfl (bS 2))) bF)))
 (aM (bH (bW (bQ iB (fA (bS 0) (fT (bS 1)) gT) (fA (bS 0) gT (fT (bS 1)))))))))
theorem AN:cQ ["_law_rows_here"] ["_law_rows_here"] (a5 (top 21)):=yx
theorem Bs {f:Addr} {fd:aL} (F:rE K "_law_seats" "_law_seats" (top 21) f fd) {FJ:Addr} {FV:aL} (oH:yQ P w K mg base kr 1 FJ FV "_law_seat" ["_law_row"] (gf K j8)):gi P w K mg base kr 2 f fd ["_law_rows_here"] (gf K fS) :=
 Dh F AN ua fun _ _ _ _ _ _ hr=>(aM (bH (bW (sW ["_law_row"] (sc:=a5 (top 21)) (XN:=["_law_rows_here"]) (gK (bS 0)) (fun _ _ _ _=>(zo (i:=0) (show (["_law_row"]:List Str).Nodup by decide +kernel) rfl)) (fun _ _ _ _=>.none) (fun _ _ _ _=>(cR oH.ok (hr.mono (by decide)) rfl oH.mg oH.kp oH.bi (ao (bS 0) aE)))))))
theorem K0:cQ ["_law_script","_law_rows_here","_law_handed","_law_due_here","_law_error","_law_found","e","_law_row"] ["_law_script"] (a5 (top 29)):=yx
theorem RQ {f:Addr} {fd:aL} (F:rE K "law" "law" (top 29) f fd) (mK:mg "ValueError" = none) (cw:mg "isinstance" = none) (nY:mg "list" = none) (E8:mg "str" = none) {bx:Addr} (eU:bc K aO "NoDrawing" = some (some (.ref bx))) (Bb:mg "NoDrawing" = some (.ref bx)) (k9:zG K bx [.type "ValueError",.type "Exception",.type "BaseException",.type "object"] "ValueError.__new__" = true) (fQ:o4 K bx) {cT:Addr} (nW:bc K aO "KnotError" = some (some (.ref cT))) (Bc:mg "KnotError" = some (.ref cT)) (sE:o4 K cT) {fe:Addr} (uJ:bc K aO "NoText" = some (some (.ref fe))) (Ja:mg "NoText" = some (.ref fe)) (yZ:o4 K fe) {eF:Addr} (rS:bc K aO "TooMany" = some (some (.ref eF))) (Fe:mg "TooMany" = some (.ref eF)) (wI:o4 K eF) (g8:DT K "NoDrawing" "word") (gM:DT K "NoDrawing" "place") (oj:cf K (.type "NoneType") (.ref cT)=some false) (uM:cf K (.type "NoneType") (.ref fe)=some false) (rX:cf K (.type "NoneType") (.ref eF)=some false) (gL:cf K (.ref bx) (.ref cT)=some true) (iM:cf K (.ref bx) (.ref fe)=some false) (iw:cf K (.ref bx) (.ref eF)=some false) (gJ:subIn K bx (.ref bx)=true) (oh:cf K (.ref bx) (.type "ValueError")=some true) {FK:Addr} {FW:aL} (oJ:yQ P w K mg base kr 4 FK FW "_law_rows" ["_law_script"] (gf K mh)) {Jy:Addr} {JC:aL} (qS:yQ P w K mg base kr 2 Jy JC "_law_due" ["_law_rows_here"] (gf K nO)) {FP:Addr} {Ga:aL} (ix:yQ P w K mg base (yb P w) 4 FP Ga "checked" ["rows"] (oU K mg j9)) {oB:Addr} {oE:aL} (fm:yQ P w K mg base kr 2 oB oE "_law_rows_of_passings" ["_law_found"] (gf K cY)) {Dq:Addr} {Dy:aL} (gH:yQ P w K mg base kr 2 Dq Dy "_law_seats" ["_law_rows_here"] (gf K fS)) {qm:Addr} {qr:aL} (fW:yQ P w K mg base kr 1 qm qr "_law_whole" ["_law_found"] (gf K dq)):gi P w K mg base kr 5 f fd ["_law_script"] (gf K K2.y8) :=
 Dh F K0 Se fun _ _ _ _ _ _ hr=>have nd:=K0.nd; have hu:=hr.units; (aF (sV (i:=1) nd rfl (bW (cR oJ.ok (hr.mono (by decide)) rfl oJ.mg oJ.kp oJ.bi (ao (bS 0) aE))))
 (aF (OA (CI ["_law_row"] (sc:=a5 (top 29)) (XN:=["_law_script","_law_rows_here","_law_handed","_law_due_here","_law_error","_law_found","e","_law_row"]) (i:=2) nd rfl rfl (gK (bS 1)) (fun _ _ _ _=>(zo (i:=0) (show (["_law_row"]:List Str).Nodup by decide +kernel) rfl)) (fun _ _ _ _=>.none) (fun _ _ _ _=>(bW (rP Gf rfl nY BL (ao (bS 0) aE))))))
 (aF (sV (i:=3) nd rfl (cR qS.ok (hr.mono (by decide)) rfl qS.mg qS.kp qS.bi (ao (bS 1) aE)))
 (aF (sV (i:=4) nd rfl qI)
 (aF (sV (i:=5) nd rfl qI)
 (aF (Lh (j:=5) ⟨rfl,rfl,rfl⟩ ⟨nd,rfl,rfl,rfl,Bb,⟨_,_,(.inr k9),rfl⟩,(jC ⟨_,_,_,eU,(.inr k9),gJ⟩ la)⟩ rfl (by first | exact Or.inl rfl | exact Or.inr rfl) ix.ok (hr.mono (by decide)) rfl ix.mg ix.kp ix.bi (fun EX=>(ao (bS 2) aE)) (fun v=>(aM (sV (i:=4) nd rfl (bS 6)))))
 (aF (cG (cB (rR hu) (bS 2) (bS 1) (fj _)) (aM (bH (bW nT))) bF)
 (aF (cG (GY (bS 3)) (aF (cG (Gn.pt (pY (zi (bS 4)) (pY (jv (fO (cR fm.ok (hr.mono (by decide)) rfl fm.mg fm.kp fm.bi (ao (bS 5) aE)))) (qH (cB (rR hu) (bS 5) (cR gH.ok (hr.mono (by decide)) rfl gH.mg gH.kp gH.bi (ao (bS 1) aE)) (fj _)))))) (aM (bH (bW nT))) bF)
 (aF (iA dM rfl (gK (bS 5)) (zo (i:=7) nd rfl) (aM (lL (uH fF D0 DY mS xi (bS 7) (ao (cP (ao aA (ao aA (ao aA aE)))) aE)))))
 (aM (bH (bW (v3 (sX (mJ hu) (bS 2) (bS 1) (fj _)) (AZ (sX (mJ hu) (uG ix.ok (hr.mono (by decide)) rfl ix.mg ix.kp ix.bi (ao (bS 2) aE)) (cR gH.ok (hr.mono (by decide)) rfl gH.mg gH.kp gH.bi (ao (bS 1) aE)) (fj _))))))))) bF)
 (aF (cG (Gn.pt (pY (GY (bS 4)) (pY (jv (fO (w6 cH rfl cw rfl Bc oj (jC ⟨_,eU,gL,fQ⟩ la) (bS 4)))) (qH (jv (fO (Ls cH rfl cw rfl mK (jC ⟨_,eU,oh,fQ⟩ la) (bS 4)))))))) (aM (bH (bW nT))) bF)
 (aF (cG (Gn.pt (pY (fO (w6 cH rfl cw rfl Ja uM (jC ⟨_,eU,iM,fQ⟩ la) (bS 4))) (qH (fO (w6 cH rfl cw rfl Fe rX (jC ⟨_,eU,iw,fQ⟩ la) (bS 4)))))) (aM (bH (bW nT))) bF)
 (aM (bH (bW (v3 (qJ "str" (by decide) rfl cw rfl E8 R6 (qK cH (jC g8 la) (bS 4))) (v3 (cR fW.ok (hr.mono (by decide)) rfl fW.mg fW.kp fW.bi (ao (qK cH (jC gM la) (bS 4)) aE)) (AZ (sX (mJ hu) (cP (ao (qK cH (jC g8 la) (bS 4)) (ao (qK cH (jC gM la) (bS 4)) aE))) (bS 3) (fj _))))))))))))))))))
end
theorem all_mk {l:zZ} {w:World} {K:ag} {h:Heap} {mg:Str->Option Value} {fa:Addr} (X:K.In h) (G:h.Ns aO mg) (hfa:mg "law" = some (.ref fa))
  {f0:Addr} {d0:aL} (F0:At K "_law_cell" (top 17) f0 d0)
  {f1:Addr} {d1:aL} (F1:At K "_law_names" (top 22) f1 d1)
  {f2:Addr} {d2:aL} (F2:At K "_law_name" (top 23) f2 d2)
  {f3:Addr} {d3:aL} (F3:At K "_law_cross" (top 24) f3 d3)
  {f4:Addr} {d4:aL} (F4:At K "_law_spoilt" (top 25) f4 d4)
  {f5:Addr} {d5:aL} (F5:At K "_law_rows" (top 26) f5 d5)
  {f6:Addr} {d6:aL} (F6:At K "_law_fault_of" (top 27) f6 d6)
  {f7:Addr} {d7:aL} (F7:At K "_law_due" (top 28) f7 d7)
  {BU f8:Addr} {d8:aL} (F8:Vl K BU "NoDrawing" "NoDrawing.__init__" "word" "place" (Sl 2 0) f8 d8)
  {f9:Addr} {d9:aL} (F9:At K "refuse_names" (top 15) f9 d9)
  {f10:Addr} {d10:aL} (Wa:At K "passings_of" (top 9) f10 d10)
  {f11:Addr} {d11:aL} (V9:At K "fault_of" (top 14) f11 d11)
  {f12:Addr} {d12:aL} (V8:At K "hands_met" (top 13) f12 d12)
  {f13:Addr} {d13:aL} (V7:At K "seated" (top 10) f13 d13)
  {f14:Addr} {d14:aL} (V6:At K "seated_rows" (top 11) f14 d14)
  {f15:Addr} {d15:aL} (V5:At K "checked" (top 12) f15 d15)
  {f16:Addr} {d16:aL} (SO:At K "_law_whole" (top 18) f16 d16)
  {f17:Addr} {d17:aL} (V4:At K "_law_rows_of_passings" (top 19) f17 d17)
  {f18:Addr} {d18:aL} (V3:At K "_law_seat" (top 20) f18 d18)
  {f19:Addr} {d19:aL} (V2:At K "_law_seats" (top 21) f19 d19)
  {f20:Addr} {d20:aL} (Z0:At K "law" (top 29) f20 d20)
  (SV:autoParam (bc K aO "len" = some none) Aq._auto_1) (KA:autoParam (bc K aO "sorted" = some none) Aq._auto_1) (SW:autoParam (bc K aO "int" = some none) Aq._auto_1) (NW:autoParam (bc K aO "range" = some none) Aq._auto_1) (SS:autoParam (bc K aO "set" = some none) Aq._auto_1) (Cf:autoParam (bc K aO "enumerate" = some none) Aq._auto_1) (SU:autoParam (bc K aO "min" = some none) Aq._auto_1) (Qp:autoParam (bc K aO "bool" = some none) Aq._auto_1) (Aa:autoParam (bc K aO "isinstance" = some none) Aq._auto_1) (SX:autoParam (bc K aO "all" = some none) Aq._auto_1) (Qo:autoParam (bc K aO "list" = some none) Aq._auto_1) (NV:autoParam (bc K aO "tuple" = some none) Aq._auto_1) (Ag:autoParam (bc K aO "ValueError" = some none) Aq._auto_1) (SR:autoParam (bc K aO "str" = some none) Aq._auto_1) {BW:Addr} (tT:autoParam (Yx K "KnotError" BW) Ab._auto_1) {bx:Addr} (eU:autoParam (bc K aO "NoDrawing" = some (some (.ref bx))) Aq._auto_1) (k9:autoParam (zG K bx [.type "ValueError",.type "Exception",.type "BaseException",.type "object"] "ValueError.__new__" = true) Ac._auto_1) (AF:autoParam (bz K (.ref bx) "__getattribute__" = some (some (.builtin "BaseException.__getattribute__"))) Af._auto_1) (AD:autoParam (bz K (.ref bx) "__getattr__" = some none) Af._auto_1) (AA:autoParam (bz K (.ref bx) "__class__" = some (some (.builtin "object.__class__"))) Af._auto_1) (Ax:autoParam (gI K (.builtin "object.__class__") "__get__" = some (some (.builtin "getset_descriptor.__get__"))) Af._auto_1) (Au:autoParam (mG K (.builtin "object.__class__")=some true) Af._auto_1) (Ap:autoParam (e7 K bx (.type "object")=some true) Af._auto_1) (Am:autoParam (e7 K bx (.type "BaseException")=some true) Af._auto_1) (Ah:autoParam ((pN K bx).isSome=true) Af._auto_1) {cT:Addr} (nW:autoParam (bc K aO "KnotError" = some (some (.ref cT))) Aq._auto_1) (AG:autoParam (bz K (.ref cT) "__getattribute__" = some (some (.builtin "BaseException.__getattribute__"))) Af._auto_1) (AE:autoParam (bz K (.ref cT) "__getattr__" = some none) Af._auto_1) (AB:autoParam (bz K (.ref cT) "__class__" = some (some (.builtin "object.__class__"))) Af._auto_1) (Ay:autoParam (gI K (.builtin "object.__class__") "__get__" = some (some (.builtin "getset_descriptor.__get__"))) Af._auto_1) (Av:autoParam (mG K (.builtin "object.__class__")=some true) Af._auto_1) (As:autoParam (e7 K cT (.type "object")=some true) Af._auto_1) (An:autoParam (e7 K cT (.type "BaseException")=some true) Af._auto_1) (Aj:autoParam ((pN K cT).isSome=true) Af._auto_1) {fe:Addr} (uJ:autoParam (bc K aO "NoText" = some (some (.ref fe))) Aq._auto_1) (Iq:autoParam (bz K (.ref fe) "__getattribute__" = some (some (.builtin "BaseException.__getattribute__"))) Af._auto_1) (Ip:autoParam (bz K (.ref fe) "__getattr__" = some none) Af._auto_1) (Io:autoParam (bz K (.ref fe) "__class__" = some (some (.builtin "object.__class__"))) Af._auto_1) (Im:autoParam (gI K (.builtin "object.__class__") "__get__" = some (some (.builtin "getset_descriptor.__get__"))) Af._auto_1) (Il:autoParam (mG K (.builtin "object.__class__")=some true) Af._auto_1) (Ik:autoParam (e7 K fe (.type "object")=some true) Af._auto_1) (Ij:autoParam (e7 K fe (.type "BaseException")=some true) Af._auto_1) (Ii:autoParam ((pN K fe).isSome=true) Af._auto_1) {eF:Addr} (rS:autoParam (bc K aO "TooMany" = some (some (.ref eF))) Aq._auto_1) (EK:autoParam (bz K (.ref eF) "__getattribute__" = some (some (.builtin "BaseException.__getattribute__"))) Af._auto_1) (EJ:autoParam (bz K (.ref eF) "__getattr__" = some none) Af._auto_1) (EI:autoParam (bz K (.ref eF) "__class__" = some (some (.builtin "object.__class__"))) Af._auto_1) (EH:autoParam (gI K (.builtin "object.__class__") "__get__" = some (some (.builtin "getset_descriptor.__get__"))) Af._auto_1) (EG:autoParam (mG K (.builtin "object.__class__")=some true) Af._auto_1) (EF:autoParam (e7 K eF (.type "object")=some true) Af._auto_1) (EE:autoParam (e7 K eF (.type "BaseException")=some true) Af._auto_1) (ED:autoParam ((pN K eF).isSome=true) Af._auto_1) (tN:autoParam (kD K bx=true) Aq._auto_1) (sZ:autoParam (bz K (.ref bx) "word" = some none) Aq._auto_1) (rV:autoParam (bz K (.ref bx) "place" = some none) Aq._auto_1) (oj:autoParam (cf K (.type "NoneType") (.ref cT)=some false) Az._auto_1) (uM:autoParam (cf K (.type "NoneType") (.ref fe)=some false) Az._auto_1) (rX:autoParam (cf K (.type "NoneType") (.ref eF)=some false) Az._auto_1) (gL:autoParam (cf K (.ref bx) (.ref cT)=some true) Az._auto_1) (iM:autoParam (cf K (.ref bx) (.ref fe)=some false) Az._auto_1) (iw:autoParam (cf K (.ref bx) (.ref eF)=some false) Az._auto_1) (oh:autoParam (cf K (.ref bx) (.type "ValueError")=some true) Az._auto_1) {nV:Value} {nU:Option Addr} {jB:ClassData} {nP:Array (Option Value)} (oa:autoParam (K.lookup bx=some ⟨nV,nU,.cls jB,nP⟩) Aq._auto_1) (n4:autoParam (jB.mro.contains (.ref bx)=true) Ae._auto_1) {jQ:Tok} (tW:autoParam (bc K aO "MOST_CROSSINGS" = some (some (.int 12 jQ))) Aq._auto_1) {kG:Tok} (uW:autoParam (bc K aO "GREATEST_NAME" = some (some (.int 999 kG))) Aq._auto_1) {lF:Tok} (vS:autoParam (bc K aO "MOST_STRINGS" = some (some (.int 3 lF))) Aq._auto_1) :
  ∃ fd:aL,(∀ (s:ak) (v:Value),Kw s fd ⟨[v],[]⟩ [("_law_script",v)])/\∀ base:Heap,K.In base->base.Ns aO mg->gi l.prog w K mg base kr 5 fa fd ["_law_script"] (gf K K2.y8):=by
 have e:=hfa.symm.trans (gh X G Z0.a);cases e;have b0:=F0.F.binds (ps:=["_law_script","_law_k"]) fun _ _ _ _ _ _ us hl=>by obtain⟨_,_,rfl⟩:=Fq hl; rfl
 have b1:=F1.F.binds (ps:=["_law_rows_here"]) fun _ _ _ _ _ _ us hl=>by obtain⟨_,rfl⟩:=tE hl; rfl
 have b2:=F2.F.binds (ps:=["_law_rows_here","_law_cell_here"]) fun _ _ _ _ _ _ us hl=>by obtain⟨_,_,rfl⟩:=Fq hl; rfl
 have b3:=F3.F.binds (ps:=["_law_rows_here","_law_cell_here"]) fun _ _ _ _ _ _ us hl=>by obtain⟨_,_,rfl⟩:=Fq hl; rfl
 have b4:=F4.F.binds (ps:=["_law_passing","_law_cell_here"]) fun _ _ _ _ _ _ us hl=>by obtain⟨_,_,rfl⟩:=Fq hl; rfl
 have b5:=F5.F.binds (ps:=["_law_script"]) fun _ _ _ _ _ _ us hl=>by obtain⟨_,rfl⟩:=tE hl; rfl
 have b6:=F6.F.binds (ps:=["_law_passing","_law_met"]) fun _ _ _ _ _ _ us hl=>by obtain⟨_,_,rfl⟩:=Fq hl; rfl
 have b7:=F7.F.binds (ps:=["_law_rows_here"]) fun _ _ _ _ _ _ us hl=>by obtain⟨_,rfl⟩:=tE hl; rfl
 have b8:=F8.F.binds (ps:=["self","word","place"]) fun _ _ _ _ _ _ us hl=>by obtain⟨_,_,_,rfl⟩:=W2 hl; rfl
 have b9:=F9.F.binds (ps:=["hands"]) fun _ _ _ _ _ _ us hl=>by obtain⟨_,rfl⟩:=tE hl; rfl
 have b10:=Wa.F.binds (ps:=["rows"]) fun _ _ _ _ _ _ us hl=>by obtain⟨_,rfl⟩:=tE hl; rfl
 have b11:=V9.F.binds (ps:=["passing","hands"]) fun _ _ _ _ _ _ us hl=>by obtain⟨_,_,rfl⟩:=Fq hl; rfl
 have b12:=V8.F.binds (ps:=["rows"]) fun _ _ _ _ _ _ us hl=>by obtain⟨_,rfl⟩:=tE hl; rfl
 have b13:=V7.F.binds (ps:=["row"]) fun _ _ _ _ _ _ us hl=>by obtain⟨_,rfl⟩:=tE hl; rfl
 have b14:=V6.F.binds (ps:=["rows"]) fun _ _ _ _ _ _ us hl=>by obtain⟨_,rfl⟩:=tE hl; rfl
 have b15:=V5.F.binds (ps:=["rows"]) fun _ _ _ _ _ _ us hl=>by obtain⟨_,rfl⟩:=tE hl; rfl
 have ZP:=SO.F.binds (ps:=["_law_found"]) fun _ _ _ _ _ _ us hl=>by obtain⟨_,rfl⟩:=tE hl; rfl
 have b17:=V4.F.binds (ps:=["_law_found"]) fun _ _ _ _ _ _ us hl=>by obtain⟨_,rfl⟩:=tE hl; rfl
 have b18:=V3.F.binds (ps:=["_law_row"]) fun _ _ _ _ _ _ us hl=>by obtain⟨_,rfl⟩:=tE hl; rfl
 have b19:=V2.F.binds (ps:=["_law_rows_here"]) fun _ _ _ _ _ _ us hl=>by obtain⟨_,rfl⟩:=tE hl; rfl
 have c8:=cm X G SV;have ly:=cm X G KA;have rT:=cm X G SW;have nh:=cm X G NW;have E9:=cm X G SS;have nZ:=cm X G Cf;have Fb:=cm X G SU;have A7:=cm X G Qp;have cw:=cm X G Aa;have Fc:=cm X G SX;have nY:=cm X G Qo;have xf:=cm X G NV;have mK:=cm X G Ag;have E8:=cm X G SR;have fQ:o4 K bx:=⟨AF,AD,AA,Ax,Au,Ap,Am,Ah⟩;have sE:o4 K cT:=⟨AG,AE,AB,Ay,Av,As,An,Aj⟩;have yZ:o4 K fe:=⟨Iq,Ip,Io,Im,Il,Ik,Ij,Ii⟩;have wI:o4 K eF:=⟨EK,EJ,EI,EH,EG,EF,EE,ED⟩;have g8:DT K "NoDrawing" "word":=⟨⟨bx,eU,fQ,tN,sZ⟩⟩;have gM:DT K "NoDrawing" "place":=⟨⟨bx,eU,fQ,tN,rV⟩⟩;have gJ:subIn K bx (.ref bx)=true:=by unfold subIn; rw [oa]; exact n4
 obtain⟨Fa,Fl⟩:=Z0;obtain⟨oc,od,kV,doc,pm,an,jJ,ct,Hd,rfl,lk,B5⟩:=Fl.ex;refine⟨iH "law" "law" (jA (top 29)) (fU (top 29)) (a5 (top 29)) .none kV doc pm an jJ ct,fun s v=>.of_eq rfl,fun base _ _=>?_⟩;have ok0:=Dl (P:=l.prog) (w:=w) (mg:=mg) (base:=base) F0.F c8;have YT:=Bt (P:=l.prog) (w:=w) (mg:=mg) (base:=base) F1.F ly;have WD:=Dk (P:=l.prog) (w:=w) (mg:=mg) (base:=base) F2.F ⟨YT,F1.mg X G,F1.F.kp,b1⟩;have TJ:=Bu (P:=l.prog) (w:=w) (mg:=mg) (base:=base) F3.F c8 ⟨WD,F2.mg X G,F2.F.kp,b2⟩;have ok4:=yE (P:=l.prog) (w:=w) (mg:=mg) (base:=base) F4.F rT;have ok5:=Dj (P:=l.prog) (w:=w) (mg:=mg) (base:=base) F5.F c8 nh ⟨ok0,F0.mg X G,F0.F.kp,b0⟩ ⟨TJ,F3.mg X G,F3.F.kp,b3⟩ ⟨ok4,F4.mg X G,F4.F.kp,b4⟩;have ok6:=vP (P:=l.prog) (w:=w) (mg:=mg) (base:=base) F6.F;have ok7:=FH (P:=l.prog) (w:=w) (mg:=mg) (base:=base) F7.F c8 ⟨ok6,F6.mg X G,F6.F.kp,b6⟩ ⟨YT,F1.mg X G,F1.F.kp,b1⟩;have WC:=ph (P:=l.prog) (w:=w) (mg:=mg) (base:=base) F8 tT (gh X G tT.ns);have ok9:=uQ (P:=l.prog) (w:=w) (mg:=mg) (base:=base) F9.F c8 E9 ly (gh X G tW) (F8.Yk X G WC b8);have WN:=xJ (P:=l.prog) (w:=w) (mg:=mg) (base:=base) Wa.F;have WM:=Dm (P:=l.prog) (w:=w) (mg:=mg) (base:=base) V9.F (gh X G uW);have WL:=yF (P:=l.prog) (w:=w) (mg:=mg) (base:=base) V8.F nZ ⟨WN,Wa.mg X G,Wa.F.kp,b10⟩ ⟨WM,V9.mg X G,V9.F.kp,b11⟩ (F8.Yk X G WC b8);have WK:=Jx (P:=l.prog) (w:=w) (mg:=mg) (base:=base) V7.F Fb;have WJ:=xI (P:=l.prog) (w:=w) (mg:=mg) (base:=base) V6.F ⟨WK,V7.mg X G,V7.F.kp,b13⟩;have WI:=Dp (P:=l.prog) (w:=w) (mg:=mg) (base:=base) V5.F c8 (gh X G vS) (F8.Yk X G WC b8) ⟨ok9,F9.mg X G,F9.F.kp,b9⟩ ⟨WL,V8.mg X G,V8.F.kp,b12⟩ ⟨WJ,V6.mg X G,V6.F.kp,b14⟩;have TK:=Br (P:=l.prog) (w:=w) (mg:=mg) (base:=base) SO.F A7 rT cw;have WH:=nA (P:=l.prog) (w:=w) (mg:=mg) (base:=base) V4.F Fc cw c8 nY xf ⟨TK,SO.mg X G,SO.F.kp,ZP⟩;have WG:=Di (P:=l.prog) (w:=w) (mg:=mg) (base:=base) V3.F c8 nh;have WE:=Bs (P:=l.prog) (w:=w) (mg:=mg) (base:=base) V2.F ⟨WG,V3.mg X G,V3.F.kp,b18⟩;exact RQ Fl mK cw nY E8 eU (gh X G eU) k9 fQ nW (gh X G nW) sE uJ (gh X G uJ) yZ rS (gh X G rS) wI g8 gM oj uM rX gL iM iw gJ oh ⟨ok5,F5.mg X G,F5.F.kp,b5⟩ ⟨ok7,F7.mg X G,F7.F.kp,b7⟩ ⟨WI,V5.mg X G,V5.F.kp,b15⟩ ⟨WH,V4.mg X G,V4.F.kp,b17⟩ ⟨WE,V2.mg X G,V2.F.kp,b19⟩ ⟨TK,SO.mg X G,SO.F.kp,ZP⟩
section
open PySem.W PySem.Calls
noncomputable def hC (n:Str) (t:Nat) (l:List Value):Obj:=⟨.type "code",none,.fields (.str n t :: .str n (t+1) :: .str "/claim/cut.py" (t+2) :: l).toArray,#[]⟩
noncomputable def hI(n:Int):Value:=.int n 0
noncomputable def hR(n:Nat):Value:=.ref n
noncomputable def hN:Value:=.none
noncomputable def hT:Value:=.bool true
noncomputable def hS (n:Nat):Value:=.str "/claim/cut.py" n
noncomputable def hD(n:Str)(t:Nat)(l a:Int)(r:Nat)(x y z:Value)(u:Nat):Obj:=hC n t [hI l,hI a,hI 0,hI 0,hI 3,hR r,hT,hI 181,hR (r+1),hN,x,y,z,hI (u - 1),hI l,hS u]
noncomputable abbrev hF (i:Nat) (n:Str) (m c:Value):Obj:=⟨.type "function",none,.func (iH n n (jA (top i)) (fU (top i)) (a5 (top i)) .none .none .none m none c .none),#[]⟩
noncomputable abbrev hM (i j:Nat) (n q:Str) (m c:Value):Obj:=⟨.type "function",none,.func (iH n q (jA (Sl i j)) (fU (Sl i j)) (a5 (Sl i j)) .none .none .none m none c .none),#[]⟩
noncomputable abbrev hE(P:Params)(s:Str)(t:Nat)(v:Value):lE:=⟨PyData.keyHash P s,.str s t,v⟩
noncomputable def hQ:bo:=PySem.W.view PySem.Challenge.pw_knotwise_k02_rows_checked [1,2,3,4,6,7,8,9,10,11,12,13,14,15,17,18,19,20,21,22,23,24,25,26,27,28,29]
noncomputable def hK(P:Params):ag:=(nat_lit 2,⟨.none,none,(.dict #[] 0),#[]⟩) ::
(nat_lit 3,⟨(.type "dict"),none,(.dict #[hE P "__name__" 165 (.str "law_knotwise_k02_rows_checked" 340),hE P "__doc__" 166 .none,hE P "__package__" 167 .none,hE P "__loader__" 168 (.builtin "__main__.__loader__#opaque"),hE P "__spec__" 169 .none,hE P "__annotations__" 170 (.ref 6),hE P "__builtins__" 171 (.ref 4),hE P "__file__" 173 (.str "/claim/cut.py" 172),hE P "__cached__" 174 .none,hE P "KnotError" 206 (.ref 24),hE P "NoDrawing" 233 (.ref 44),hE P "NoText" 260 (.ref 63),hE P "TooMany" 276 (.ref 75),hE P "MOST_STRINGS" 280 (.int 3 279),hE P "MOST_CROSSINGS" 282 (.int 12 281),hE P "GREATEST_NAME" 284 (.int 999 283),hE P "passings_of" 293 (.ref 84),hE P "seated" 301 (.ref 91),hE P "seated_rows" 307 (.ref 96),hE P "checked" 314 (.ref 103),hE P "hands_met" 325 (.ref 110),hE P "fault_of" 333 (.ref 117),hE P "refuse_names" 339 (.ref 122),hE P "_law_cell" 349 (.ref 129),hE P "_law_whole" 356 (.ref 136),hE P "_law_rows_of_passings" 362 (.ref 141),hE P "_law_seat" 371 (.ref 148),hE P "_law_seats" 377 (.ref 153),hE P "_law_names" 387 (.ref 160),hE P "_law_name" 396 (.ref 167),hE P "_law_cross" 408 (.ref 174),hE P "_law_spoilt" 417 (.ref 181),hE P "_law_rows" 423 (.ref 186),hE P "_law_fault_of" 431 (.ref 193),hE P "_law_due" 444 (.ref 200),hE P "law" 450 (.ref 205)] 36),#[]⟩) ::
(nat_lit 15,⟨(.type "tuple"),none,(.seq #[(.type "ValueError")] 0),#[]⟩) ::
(nat_lit 22,⟨(.type "tuple"),none,(.seq #[] 0),#[]⟩) ::
(nat_lit 23,⟨(.type "dict"),none,(.dict #[hE P "__module__" 196 (.str "knotwise.errors" 187),hE P "__firstlineno__" 200 (.int 2 199),hE P "__static_attributes__" 201 (.ref 22),hE P "__weakref__" 203 (.ref 25),hE P "__doc__" 204 .none] 3),#[]⟩) ::
(nat_lit 24,⟨(.type "type"),none,(.cls ⟨"KnotError",[(.type "ValueError")],[(.ref 24),(.type "ValueError"),(.type "Exception"),(.type "BaseException"),(.type "object")],23,"KnotError",.true,[],[(.ref 44),(.ref 63),(.ref 75)],.false,none,.false⟩),#[(some (.ref 15)),none,(some (.str "KnotError" 189)),(some (.str "KnotError" 197)),(some (.builtin "ValueError.__new__")),(some (.bool .true))]⟩) ::
(nat_lit 25,⟨(.type "getset_descriptor"),none,(.fields #[(.str "__weakref__" 202),(.ref 24),(.builtin "ExceptionGroup.__weakref__"),.none]),#[]⟩) ::
(nat_lit 28,⟨(.type "tuple"),none,(.seq #[(.ref 24)] 0),#[]⟩) ::
(nat_lit 40,⟨(.type "code"),none,(.fields #[(.str "__init__" 219),(.str "NoDrawing.__init__" 220),(.str "/claim/cut.py" 221),(.int 6 0),(.int 3 0),(.int 0 0),(.int 0 0),(.int 3 0),(.ref 35),(.bool .true),(.int 181 0),(.ref 36),.none,(.ref 37),(.ref 38),(.ref 39),(.int 225 0),(.int 6 0),(.str "/claim/cut.py" 226)]),#[]⟩) ::
(nat_lit 41,hM 2 0 "__init__" "NoDrawing.__init__" (.str "knotwise.errors" 187) (.ref 40)) ::
(nat_lit 42,⟨(.type "tuple"),none,(.seq #[(.str "place" 228),(.str "word" 229)] 0),#[]⟩) ::
(nat_lit 43,⟨(.type "dict"),none,(.dict #[hE P "__module__" 214 (.str "knotwise.errors" 187),hE P "__firstlineno__" 218 (.int 4 217),hE P "__init__" 227 (.ref 41),hE P "__static_attributes__" 230 (.ref 42),hE P "__doc__" 231 .none] 2),#[]⟩) ::
(nat_lit 44,⟨(.type "type"),none,(.cls ⟨"NoDrawing",[(.ref 24)],[(.ref 44),(.ref 24),(.type "ValueError"),(.type "Exception"),(.type "BaseException"),(.type "object")],43,"NoDrawing",.true,[],[],.false,none,.false⟩),#[(some (.ref 28)),none,(some (.str "NoDrawing" 207)),(some (.str "NoDrawing" 215)),(some (.builtin "ValueError.__new__")),(some (.bool .true))]⟩) ::
(nat_lit 47,⟨(.type "tuple"),none,(.seq #[(.ref 24)] 0),#[]⟩) ::
(nat_lit 59,⟨(.type "code"),none,(.fields #[(.str "__init__" 246),(.str "NoText.__init__" 247),(.str "/claim/cut.py" 248),(.int 12 0),(.int 3 0),(.int 0 0),(.int 0 0),(.int 3 0),(.ref 54),(.bool .true),(.int 181 0),(.ref 55),.none,(.ref 56),(.ref 57),(.ref 58),(.int 252 0),(.int 12 0),(.str "/claim/cut.py" 253)]),#[]⟩) ::
(nat_lit 60,hM 3 0 "__init__" "NoText.__init__" (.str "knotwise.errors" 187) (.ref 59)) ::
(nat_lit 61,⟨(.type "tuple"),none,(.seq #[(.str "at" 255),(.str "line" 256)] 0),#[]⟩) ::
(nat_lit 62,⟨(.type "dict"),none,(.dict #[hE P "__module__" 241 (.str "knotwise.errors" 187),hE P "__firstlineno__" 245 (.int 10 244),hE P "__init__" 254 (.ref 60),hE P "__static_attributes__" 257 (.ref 61),hE P "__doc__" 258 .none] 2),#[]⟩) ::
(nat_lit 63,⟨(.type "type"),none,(.cls ⟨"NoText",[(.ref 24)],[(.ref 63),(.ref 24),(.type "ValueError"),(.type "Exception"),(.type "BaseException"),(.type "object")],62,"NoText",.true,[],[],.false,none,.false⟩),#[(some (.ref 47)),none,(some (.str "NoText" 234)),(some (.str "NoText" 242)),(some (.builtin "ValueError.__new__")),(some (.bool .true))]⟩) ::
(nat_lit 66,⟨(.type "tuple"),none,(.seq #[(.ref 24)] 0),#[]⟩) ::
(nat_lit 73,⟨(.type "tuple"),none,(.seq #[] 0),#[]⟩) ::
(nat_lit 74,⟨(.type "dict"),none,(.dict #[hE P "__module__" 268 (.str "knotwise.errors" 187),hE P "__firstlineno__" 272 (.int 16 271),hE P "__static_attributes__" 273 (.ref 73),hE P "__doc__" 274 .none] 2),#[]⟩) ::
(nat_lit 75,⟨(.type "type"),none,(.cls ⟨"TooMany",[(.ref 24)],[(.ref 75),(.ref 24),(.type "ValueError"),(.type "Exception"),(.type "BaseException"),(.type "object")],74,"TooMany",.true,[],[],.false,none,.false⟩),#[(some (.ref 66)),none,(some (.str "TooMany" 261)),(some (.str "TooMany" 269)),(some (.builtin "ValueError.__new__")),(some (.bool .true))]⟩) ::
(nat_lit 83,hD "passings_of" 285 22 1 78 (hR 80) (hR 81) (hR 82) 292) ::
(nat_lit 84,hF 9 "passings_of" (.str "knotwise.drawings" 277) (.ref 83)) ::
(nat_lit 90,hD "seated" 294 27 1 85 (hR 87) (hR 88) (hR 89) 300) ::
(nat_lit 91,hF 10 "seated" (.str "knotwise.drawings" 277) (.ref 90)) ::
(nat_lit 95,hD "seated_rows" 302 32 1 92 hN hN (hR 94) 306) ::
(nat_lit 96,hF 11 "seated_rows" (.str "knotwise.drawings" 277) (.ref 95)) ::
(nat_lit 102,hD "checked" 308 34 1 97 (hR 99) (hR 100) (hR 101) 313) ::
(nat_lit 103,hF 12 "checked" (.str "knotwise.drawings" 277) (.ref 102)) ::
(nat_lit 109,hD "hands_met" 315 39 1 104 (hR 106) (hR 107) (hR 108) 324) ::
(nat_lit 110,hF 13 "hands_met" (.str "knotwise.drawings" 277) (.ref 109)) ::
(nat_lit 116,hD "fault_of" 326 47 2 111 (hR 113) (hR 114) (hR 115) 332) ::
(nat_lit 117,hF 14 "fault_of" (.str "knotwise.drawings" 277) (.ref 116)) ::
(nat_lit 121,hD "refuse_names" 334 57 1 118 hN hN (hR 120) 338) ::
(nat_lit 122,hF 15 "refuse_names" (.str "knotwise.drawings" 277) (.ref 121)) ::
(nat_lit 128,hD "_law_cell" 342 67 2 123 (hR 125) (hR 126) (hR 127) 348) ::
(nat_lit 129,hF 17 "_law_cell" (.str "law_knotwise_k02_rows_checked" 340) (.ref 128)) ::
(nat_lit 135,hD "_law_whole" 350 71 1 130 (hR 132) (hR 133) (hR 134) 355) ::
(nat_lit 136,hF 18 "_law_whole" (.str "law_knotwise_k02_rows_checked" 340) (.ref 135)) ::
(nat_lit 140,hD "_law_rows_of_passings" 357 73 1 137 hN hN (hR 139) 361) ::
(nat_lit 141,hF 19 "_law_rows_of_passings" (.str "law_knotwise_k02_rows_checked" 340) (.ref 140)) ::
(nat_lit 147,hD "_law_seat" 363 85 1 142 (hR 144) (hR 145) (hR 146) 370) ::
(nat_lit 148,hF 20 "_law_seat" (.str "law_knotwise_k02_rows_checked" 340) (.ref 147)) ::
(nat_lit 152,hD "_law_seats" 372 91 1 149 hN hN (hR 151) 376) ::
(nat_lit 153,hF 21 "_law_seats" (.str "law_knotwise_k02_rows_checked" 340) (.ref 152)) ::
(nat_lit 159,hD "_law_names" 378 93 1 154 (hR 156) (hR 157) (hR 158) 386) ::
(nat_lit 160,hF 22 "_law_names" (.str "law_knotwise_k02_rows_checked" 340) (.ref 159)) ::
(nat_lit 166,hD "_law_name" 388 100 2 161 (hR 163) (hR 164) (hR 165) 395) ::
(nat_lit 167,hF 23 "_law_name" (.str "law_knotwise_k02_rows_checked" 340) (.ref 166)) ::
(nat_lit 173,hD "_law_cross" 397 105 2 168 (hR 170) (hR 171) (hR 172) 407) ::
(nat_lit 174,hF 24 "_law_cross" (.str "law_knotwise_k02_rows_checked" 340) (.ref 173)) ::
(nat_lit 180,hD "_law_spoilt" 409 112 2 175 (hR 177) (hR 178) (hR 179) 416) ::
(nat_lit 181,hF 25 "_law_spoilt" (.str "law_knotwise_k02_rows_checked" 340) (.ref 180)) ::
(nat_lit 185,hD "_law_rows" 418 129 1 182 hN hN (hR 184) 422) ::
(nat_lit 186,hF 26 "_law_rows" (.str "law_knotwise_k02_rows_checked" 340) (.ref 185)) ::
(nat_lit 192,hD "_law_fault_of" 424 144 2 187 (hR 189) (hR 190) (hR 191) 430) ::
(nat_lit 193,hF 27 "_law_fault_of" (.str "law_knotwise_k02_rows_checked" 340) (.ref 192)) ::
(nat_lit 199,hD "_law_due" 432 154 1 194 (hR 196) (hR 197) (hR 198) 443) ::
(nat_lit 200,hF 28 "_law_due" (.str "law_knotwise_k02_rows_checked" 340) (.ref 199)) ::
(nat_lit 204,hD "law" 445 173 1 201 hN hN (hR 203) 449) ::
(nat_lit 205,hF 29 "law" (.str "law_knotwise_k02_rows_checked" 340) (.ref 204)) :: []
noncomputable def hA:List Addr:=[2,3,15,22,23,24,25,28,40,41,42,43,44,47,59,60,61,62,63,66,73,74,75,83,84,90,91,95,96,102,103,109,110,116,117,121,122,128,129,135,136,140,141,147,148,152,153,159,160,166,167,173,174,180,181,185,186,192,193,199,200,204,205]
noncomputable def hL:List Str:=[]
theorem RL(w:World)(os:OsState):(topFrom treeTable (PySem.Challenge.rw_knotwise_k02_rows_checked).row.prog w 3204 ⟨boot_heap w.params,Array.mk [],boot_drawn,boot_toks,os⟩).map (fun s=>(openSeen hQ hL (Kj (PySem.Challenge.rw_knotwise_k02_rows_checked).row.prog.main.body) (SY PySem.Challenge.rw_knotwise_k02_rows_checked hQ) true s,hA.map s.heap.get?))=some (openGood hQ hL,(hK w.params).map fun p=>some p.2):=by kernel_rfl
theorem RK:(PySem.Challenge.rw_knotwise_k02_rows_checked).wellSaid=true:=by kernel_rfl
theorem RJ:GG PySem.Challenge.rw_knotwise_k02_rows_checked hQ=true:=by kernel_rfl
end
end Fin
end Internal
open Internal
open PySem PySem.W PyProof.Rows
set_option maxRecDepth 100000 in
set_option maxHeartbeats 0 in
theorem PySem.Challenge.cw_knotwise_k02_rows_checked_holds : PySem.Challenge.rw_knotwise_k02_rows_checked.Holds := by
 w_on
 refine K2.Jr (q:=Fin.hQ) (K:=Fin.hK) (as:=Fin.hA) (N:=3204) Fin.RK (by kernel_rfl) (by kernel_rfl) (fun _=>by kernel_rfl) (fun _=>by kernel_rfl) Fin.RL (by rfl) (by rfl) (by rfl) (by rfl) Fin.RJ ⟨rfl,rfl,rfl,rfl,rfl,by decide +kernel⟩ ?hw ?hc
 (case hw=>w_witness2)
 k_fill
 refine K2.LK (l:=PySem.Challenge.rw_knotwise_k02_rows_checked) (k:=5) (x:="_law_script") rfl rfl ⟨rfl,by decide,by decide⟩ (fun w h Y=>Y) ?F
 case F =>
  intro w mg fa h KX G Uo;exact Fin.all_mk KX G Uo K2.je K2.je K2.je K2.je K2.je K2.je K2.je K2.je K2.RW K2.je K2.je K2.je K2.je K2.je K2.je K2.je K2.je K2.je K2.je K2.je K2.je
