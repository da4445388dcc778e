import PyProof.Rows.All
import Wide.All
import OpenK.AllK
import Wide.FinOn
import Lean
import PyProof.EqAt
import PyProof.EqKinds
import PyProof.TupleCall
import PySem.Challenge.RW_knotwise_k43_whole_opened_is_all_choices
open Array renaming length_toList -> cT, getElem?_eq_getElem -> ij, mk -> mS, getElem?_eq_none -> vr, forIn_toList -> Aa, getD -> Lb
open Array.Perm renaming refl -> ou
open Bool renaming false_eq_true -> au, and_eq_true -> aJ, noConfusion -> ba, not_true -> bg, not_false -> cL, false_ne_true -> eS, or_eq_true -> iT, not_eq_true' -> kA, and_eq_true_iff -> pI, false_and -> zh, and_false -> La, true_and -> OT, false_or -> OU, beq_eq_decide_eq -> S7
open Classical renaming byContradiction -> fK
open False renaming elim -> bI
open ForInStep renaming yield -> uT
open Function renaming comp_def -> S4
open Int renaming toNat_natCast -> ff, emod_lt_of_pos -> ig, emod_nonneg -> kd, add_zero -> lF, natCast_nonneg -> sd, eq_ofNat_of_zero_le -> vq, zero_add -> xT
open List renaming getElem?_cons_zero -> aa, getElem?_cons_succ -> ae, set_cons_zero -> ah, set_cons_succ -> ai, length_cons -> aj, length_map -> ar, map_cons -> aw, length_nil -> ax, getElem?_eq_getElem -> aA, length_append -> aB, cons_append -> aH, mem_cons_of_mem -> aI, nil_append -> aL, replicate -> aP, map_nil -> aR, map_append -> aU, nodup_cons -> aW, size_toArray -> bp, map_map -> bw, getElem?_map -> bx, mem_cons -> bA, mem_map_of_mem -> bE, mem_singleton -> bF, not_mem_nil -> bN, nodup_nil -> bR, length_singleton -> bU, length_set -> bX, nodup_append -> bY, find?_cons_of_neg -> cg, mem_cons_self -> cw, find?_cons_of_pos -> cx, getElem?_append_right -> cy, getD_eq_getElem?_getD -> cA, append_nil -> cI, mem_append_right -> cK, length_drop -> cP, filter_cons -> cR, length -> cU, flatMap_cons -> cZ, append_assoc -> c9, getElem?_append_left -> dc, getElem?_set_self -> dn, getElem?_set_ne -> dq, mem_append_left -> dI, map_congr_left -> d8, foldl_cons -> ef, find?_cons -> eu, length_take -> eB, range -> eV, getElem_mem -> eW, length_filter_le -> fc, find?_eq_none -> fC, mem_of_getElem? -> fD, foldl_append -> fO, mem_of_find?_eq_some -> fU, length_replicate -> fX, getElem?_eq_none -> fY, getElem_map -> gm, flatten_cons -> gF, filter_append -> hZ, drop_eq_getElem_cons -> ip, pairwise_map -> iR, flatten_append -> jm, all_eq_true -> jG, filter_sublist -> k9, length_erase_of_mem -> lj, length_zip -> lY, getElem?_replicate -> lZ, find?_some -> l0, any_cons -> ma, length_pos_of_mem -> mD, drop_eq_nil_of_le -> mE, reverse_cons -> mQ, take_append_drop -> oq, all_map -> ot, getElem_zip -> oH, getElem?_of_mem -> pG, mem_append -> qx, map_id -> qy, zip_cons_cons -> rQ, getElem_range -> rR, mem_or_eq_of_mem_set -> r8, length_range -> ua, find?_isSome -> ub, find?_append -> uc, filterMap_cons_some -> ud, perm_append_comm -> xE, mem_map -> xF, filter_nil -> xG, mem_erase_of_ne -> yB, filterMap_cons -> zu, take_nil -> B5, drop_nil -> B6, all_cons -> B7, set_nil -> DS, lookup_cons -> Fj, of_mem_zip -> IF, perm_ext_iff_of_nodup -> Jh, pairwise_singleton -> ON, pairwise_mergeSort -> OO, filter_cons_of_pos -> OP, filter_cons_of_neg -> OQ, eraseIdx_cons_zero -> OR, eraseIdx_cons_succ -> OS, take_of_length_le -> Pc, set_getElem_self -> S3, pairwise_append -> TB
open List.Perm renaming swap -> mf, cons -> DT, eq_of_pairwise -> Fm, trans -> TF
open List.Sublist renaming map -> me, nodup -> oA
open Nat renaming le_refl -> aG, le_trans -> bh, ne_of_lt -> br, lt_of_lt_of_le -> bu, zero_le -> cm, pow_le_pow_right -> dM, lt_of_le_of_lt -> dS, not_lt_zero -> gL, lt_irrefl -> ie, mul_le_mul_right -> iQ, ne_of_gt -> oz, add_assoc -> pY, add_sub_cancel_left -> vp, succ_le_succ -> vR, lt_succ_self -> vS, le_add_right -> vT, le_of_succ_le_succ -> vY, pow_succ -> xQ, le_of_lt -> xR, zero_add -> Fi, le_succ -> Jf, le_antisymm -> Jg, lt_of_succ_lt_succ -> S2, le_of_ble_eq_true -> Tx, add_zero -> Tz
open Ne renaming symm -> dD
open Option renaming isSome_map -> eY, getD_some -> oo, map_some -> pU, getD_none -> uR, bind_some -> uS, map_map -> xP
open Option.some renaming inj -> aX, injEq -> MR
open Prod renaming ext -> OM
open Prod.mk renaming injEq -> sF
open PyProof.Rows renaming callWith_type1 -> dJ, callWith_builtin1 -> ic, IntsAre -> jT, boot_isinstance -> mn, slot_tuple_getitem -> xD, seqObj -> yA, envOfC -> zY, AllBare -> Ab
open PySem renaming wpAny_bind -> ag, Shared -> ay, wpAny_pure -> az, starEach -> aZ, sizeLine -> bc, Program -> bC, mainGlobals -> bK, wpAny_loadPart' -> bV, wpAny_holding -> ck, sysModules -> cu, wpAny_newObj_type -> cG, Around -> cH, compareOp -> cS, wpAny_call_entry -> cV, sizeLine_eq -> cX, bootBuiltins -> df, wpAny_dictEntries -> dQ, wpAny_Call_Name_kw -> d6, foldedSetIterable -> eQ, DictEntry -> ft, FuncData -> fV, plainId_quiet -> gK, wpAny_mono -> gP, tupleKind -> gS, codeAny_builtin -> gU, backTo -> ik, wpAny_isInstance -> iF, wpAny_forIn_list -> iG, tupleKind_room_in1 -> iH, ReadsAll -> iI, wpAny_seqItems -> iX, wpAny_field -> iY, mem_of_lookup -> jh, wpAny_updateSeq -> jr, wpAny_truthy_bool -> jt, wpAny_dictEpoch -> ju, wpAny_typeNameOfWhole_itemiter -> jO, wpAny_letGo -> jQ, wpAny_callSpecial?_slot -> jR, binaryOp -> jS, wpAny_typeNameOfWhole_keyiter -> j0, wpAny_tryCatch -> j5, Paired -> kz, wpAny_passesOwn -> kG, wpAny_notOrdered_dict -> kH, treeTable -> kI, wpAny_typeNameOf_itemiter -> lL, wpAny_typeNameOf_keyiter -> mj, wpAny_specialOf -> mX, wpAny_setField_rec -> mY, wpAny_execs_nil -> mZ, swapsWith -> ng, importedModules -> nh, OsState -> ni, wpAny_isOneOf_itemiter -> oF, richCompare_meets_room -> oG, wpAny_pyIter_slot -> pD, richCompare -> pE, valueAt -> pF, IsItemIter -> pH, wpAny_fieldsOf -> pT, noteFrame -> pV, Params -> pW, holding -> qE, wpAny_attempt -> rO, wpAny_richCompare_same_room -> sf, sliceBounds -> sg, rawInt -> si, pyNext -> sk, pairTrees_cons_walk -> sr, NameKind -> u4, wpAny_setField -> vm, spliced -> vn, assignEach -> vV, wpAny_Call_method0_late -> xK, codeAny -> xM, attributeBase -> xN, evalArgs_none -> zf, size_of_entries -> zT, setFlight -> zU, letOwnedTupleGo -> zV, isSubtype_tuple_tuple -> zX, codeAny_mono -> zZ, call_meetsIn -> z8, HeapKind -> B8, firstArgMember -> CL, assign -> CM, excClassObj -> DQ, wpAny_tupleItemsOf -> FC, wpAny_standAt -> FD, wpAny_pyIter_tuple -> FE, setField -> FF, seqItems? -> FG, pairTrees_nil_walk -> FH, wpAny_truthy_dict -> IV, storedH -> IW, relabel -> IX, isInstance -> IY, intKind -> IZ, callerA -> Ja, wpAny_callSpecialIfBound?_slot -> KY, pyIter -> KZ, call -> K3, wpAny_execs_cons -> ML, bindArgs -> OI, wpAny_of_eq -> O5, wpAny_letOwnedTupleGo_items -> O6, valueAt -> O7, updateSeq -> O8, eqIsQuiet -> Pb
open PySem.Around renaming under_plainId -> fu
open PySem.AutoSeq1 renaming sub_tuple_tuple -> kK, sub_list_list -> Jm
open PySem.Builtin.Builtins renaming bindParams -> iS
open PySem.Builtin.Dict renaming showsAll -> jq, dictSlotArgs -> jZ, samePairs -> DV, takeOut -> FO
open PySem.Builtin.Dict_items renaming ownsTuple -> fM, ownedTupleIsFree -> jH, ownedTupleFields -> rG, pairFromOwner -> sG
open PySem.Builtin.Int renaming intBits -> Jl
open PySem.Builtin.List renaming listTooLong -> kg, listExtendWith -> mR, listSameRef -> Cg, listItems -> DU
open PySem.Builtin.Slice renaming slicePlaces -> jY, sliceAdjust -> oB, sliceApplied -> zw
open PySem.Builtin.Tuple renaming tupleHashOf -> eF, tupleExact -> j8, tupleCompareSizes -> k6, tupleItemsOf -> zv
open PySem.Calls renaming spliced_cons -> eN, spliced_nil -> iJ, callWith_builtin -> mr, Name_function_global -> II, evalArgs_plain -> S6
open PySem.Challenge renaming rw_knotwise_k43_whole_opened_is_all_choices -> aT
open PySem.EntryCells renaming newEntry -> K9
open PySem.Expr renaming Name -> S5
open PySem.F renaming slot_dict_items -> gr, plainAttrs_dict -> gu, slot_dict_itemiterator_next -> jU, slot_dict_itemiterator_iter -> jV, plain_min_loop -> jW, plain_max_loop -> jX, slot_dict_keyiterator_next -> j7, slot_tuple_lt -> mB, slot_dict_get -> mC, args_dict_items_1 -> qG, entry_dict_items -> rP, type_dict_items -> sD, args_tuple_lt_2 -> sE, entry_tuple_lt -> uQ, slot_list_lt -> vX, args_dict_itemiterator_next_1 -> FK, args_dict_itemiterator_iter_1 -> FN, args_tuple_add_2 -> IE, entry_dict_itemiterator_next -> IG, args_dict_keyiterator_next_1 -> IH, plainAttrs_list -> Jc, entry_tuple_add -> Jd, args_dict_get_3 -> Je, entry_min_loop -> Ji, entry_max_loop -> Jj, entry_dict_keyiterator_next -> Jk, slot_tuple_add -> K5, entry_dict_get -> K6, args_list_lt_2 -> K7, slot_dict_keyiterator_iter -> K8, type_dict_get -> MN, sub_dict_dict -> MO, slot_dict_pop -> MP, entry_list_lt -> MQ, slot_dict_ne -> OJ, slot_dict_eq -> OL
open PySem.Heap renaming get?_push_of_some -> aF, lt_size -> aO, get?_push_size -> aS, get?_update_other -> bQ, get?_update_self -> eA, SameBut -> fI, size_push -> nj, FlyingW -> xC, HeldW -> zt, size_update -> Fo, get?_none_of_le -> TG
open PySem.Heap.SameBut renaming update -> j6
open PySem.NameKind renaming free -> k8
open PySem.Obj renaming mapSeq -> dZ, data_mapFields -> rZ, mapFields -> vo, isFreed_of_fields -> Tw
open PySem.Paired renaming length -> gz, snoc -> S1
open PySem.PassesOwn renaming never -> Tv
open PySem.PyData renaming depthAll -> cF, eqv -> B4
open PySem.SeqAt renaming any_by_data -> sC, items_eqAt -> u3
open PySem.Shared renaming TypeIs -> K1
open PySem.Str renaming ofString -> rY
open PySem.Value renaming ref -> dg, none -> dG, int -> eZ, isInt -> uP, bool -> K0, builtin -> MM, notImplemented -> SY
open PySem.W renaming Frag -> aq, hideAll_get -> dw, hideAll -> dU, kia_one -> fj, boot_heap -> gG, kas_rev -> gT, kas_place -> kJ, fnOf -> kY, boot_drawn -> kZ, of_hideAll -> lg, excIn -> lh, kas_desc -> lX, nsIn -> mz, keepIn -> qF, kas_asc -> su, SharedT -> sx, topFrame -> u0, boot_toks -> vU, hideAll_none -> vW, kitOne -> xB, callWith_K -> zg, kas_descPart -> zW, methodObj -> z9, OpenLaw -> DR, tailIn -> FI, codeIn -> FJ, cellsFrom_some -> K4, openGood -> OH, kas_tail3 -> O9, findIn -> Pa, tail_of_in -> S0, kitx_none -> Tt, kitx_dict -> Tu
open PySem.W.KasT renaming ret -> xS
open Sum renaming inl -> xO, inr -> Jb
open True renaming intro -> bB
set_option hygiene false
set_option compiler.extract_closed false
local macro_rules
|`(@W)=>`(.inl rfl)
|`(@E)=>`(‹_›)
|`(@d)=>`(by decide)
|`(@k)=>`((·.1))
|`(@ba)=>`(by kernel_rfl)
|`(@y)=>`(List Str)
|`(@s)=>`(List Value)
|`(@ad)=>`(.type "tuple")
|`(@aN)=>`(.type "dict")
|`(@bj)=>`(.type "BaseException")
local macro_rules
|`(@aM)=>`((.str "law_knotwise_k43_whole_opened_is_all_choices" 419))
|`(@bt)=>`(.str "knotwise.polys" 270)
|`(@br)=>`((.str "knotwise.brackets" 339))
|`(@ay)=>`(List Addr)
|`(@w)=>`(List V)
|`(@K)=>`(some u)
|`(@A)=>`(.int i)
|`(@aE)=>`(List (Key×V))
|`(@a4)=>`(List (List Key×V))
|`(@g)=>`(some o)
local macro_rules
|`(@ak)=>`(h.get? a)
|`(@Q)=>`(.type "list")
|`(@aO)=>`(Addr×Value)
|`(@v)=>`(List α)
|`(@ap)=>`(h.get? b)
|`(@ag)=>`(h'.get? b)
|`(@t)=>`(List (Addr×Obj))
|`(@aK)=>`(Str->Option Value)
|`(@aG)=>`(List Env)
|`(@X)=>`(ay->Prop)
local macro_rules
|`(@C)=>`(Value->@X)
|`(@bo)=>`(sc.names.lookup x)
|`(@aH)=>`(some .local)
|`(@aL)=>`(some .cell)
|`(@bg)=>`(X.env.cells.lookup x=some c)
|`(@aI)=>`(X.calm=true)
|`(@bh)=>`(b≠X.env.locals)
|`(@bp)=>`(X.ji.heap.get? b)
|`(@Y)=>`(some v)
|`(@m)=>`(Inv X pins σ H s)
local macro_rules
|`(@a2)=>`(s.heap.get? b)
|`(@T)=>`(@a2=@g)
|`(@aJ)=>`(ow X.stack)
|`(@G)=>`(by simp)
|`(@i)=>`((@G))
|`(@bf)=>`(by simpa using hb)
|`(@bs)=>`(X.env.scope.names.lookup x)
|`(@an)=>`({s with heap:=h'})
|`(@j)=>`(λ_ _=>False)
|`(@o)=>`((model X.prog X.w))
local macro_rules
|`(@a1)=>`(autoParam ((x == ("__debug__":Str))=false) Ad._auto_1)
|`(@ao)=>`(I.tok _)
|`(@I)=>`(⟨_,rfl⟩)
|`(@az)=>`(List Expr)
|`(@a6)=>`(Array Value)
|`(@S)=>`(.ref a)
|`(@r)=>`((@S))
|`(@aS)=>`(⟨rfl,rfl⟩)
|`(@as)=>`(.ref s.heap.objs.size)
|`(@au)=>`(aS _ rfl)
local macro_rules
|`(@D)=>`((aG _))
|`(@f)=>`(by lia)
|`(@c)=>`((@f))
|`(@bb)=>`(cM X.prog X.w)
|`(@P)=>`(.int _)
|`(@a_)=>`(by simpa using h2)
|`(@bq)=>`(s.heap.objs.size+1)
|`(@u)=>`(List Int)
|`(@J)=>`((model prog w))
|`(@aP)=>`(Option Int)
local macro_rules
|`(@bn)=>`(j9 items.size 0 lo)
|`(@bu)=>`(j9 items.size items.size hi)
|`(@a0)=>`(DecidableEq κ)
|`(@a3)=>`(λz=>nomatch z)
|`(@e)=>`(List D)
|`(@af)=>`(List (D×D))
|`(@l)=>`(Gp->Prop)
|`(@aD)=>`(Option D)
|`(@ax)=>`(C == "int")
|`(@O)=>`(some d)
local macro_rules
|`(@aw)=>`((λ_=>True))
|`(@H)=>`(dH G G')
|`(@aQ)=>`(ns.map D.int)
|`(@U)=>`(DecidableEq α)
|`(@aC)=>`(List (Int×Int))
|`(@bc)=>`(by simpa using h)
|`(@R)=>`((.ref C))
|`(@aU)=>`(bo K H vs ds)
|`(@aj)=>`((λ_ _ _ _=>trivial))
|`(@ah)=>`(.new hp)
local macro_rules
|`(@aA)=>`(kc X.K H G)
|`(@bi)=>`(I2 X pins σ H τ G s)
|`(@ar)=>`(l.map @k)
|`(@aZ)=>`((uN X pins σ H G Q))
|`(@aX)=>`((aZ es X.env))
|`(@bk)=>`((aZ (e::es) X.env=(false,eval e X.env)::aZ es X.env))
|`(@V)=>`(.refl ab)
|`(@av)=>`(X.A.units+64<cLine)
|`(@ae)=>`(.Name y py)
|`(@aV)=>`((cc X N scope C s H fp))
local macro_rules
|`(@a7)=>`((.ListComp elt [⟨tg,iter,ifs,0⟩] scope pos))
|`(@a8)=>`(cc X N scope s3.heap.objs.size s3 H3 fp)
|`(@N)=>`((ends Q))
|`(@a5)=>`(by decide +kernel)
|`(@bl)=>`(by simpa using e)
|`(@bd)=>`(min xs.size ys.size)
|`(@a9)=>`(zs.getD i .eX)
|`(@be)=>`(s1.heap.get? b)
|`(@bm)=>`((.builtin "object.__class__"))
|`(@bv)=>`(.builtin "getset_descriptor.__get__")
local macro_rules
|`(@bw)=>`(b≠s.heap.objs.size)
|`(@aF)=>`(by rw[e];simp)
|`(@Z)=>`(List T3)
|`(@n)=>`((ak 0))
|`(@p)=>`((ak 1))
|`(@q)=>`((ak 2))
|`(@al)=>`(some (enc rows))
|`(@am)=>`(some (.ref p))
|`(@L)=>`((dC (.int 0)))
|`(@ac)=>`((dC (.int 2)))
local macro_rules
|`(@aW)=>`(List (T3×T3))
|`(@aY)=>`(pairsOf rows)
|`(@B)=>`((dC (.int 1)))
|`(@F)=>`((ak 4))
|`(@z)=>`((ak 3))
|`(@aB)=>`(names rows)
|`(@aR)=>`(⟨_,_,rfl⟩)
|`(@aT)=>`(i8 rows.flatten)
|`(@ab)=>`((fr rows))
|`(@M)=>`((jc c))
local macro_rules
|`(@aq)=>`(lo rows)
|`(@ai)=>`((handOf rows))
|`(@aa)=>`(λ_ _ _ _ _ _ _=>gR)
local macro_rules
|`(tactic|ext i)=>`(tactic|(intro X hP hw hK hc i pins s σ H E I hf st hg))
|`(tactic|ext j)=>`(tactic|(first |obtain⟨_,rfl⟩:=dP h1 |obtain⟨_,rfl⟩:=dN h1 |obtain⟨_,rfl⟩:=dO h1))
|`(tactic|ext k)=>`(tactic|(first |obtain⟨_,rfl⟩:=dP h2 |obtain⟨_,rfl⟩:=dN h2 |obtain⟨_,rfl⟩:=dO h2))
|`(tactic|ext f)=>`(tactic|(simpa using this))
|`(tactic|ext d)=>`(tactic|(intro E pins s σ H τ G Q hE I h))
|`(tactic|ext c)=>`(tactic|(exact q1.elim))
|`(tactic|ext g)=>`(tactic|(intro pins s σ H G x y dx dy v u Q I ab rx ry dX dY q))
|`(tactic|ext e)=>`(tactic|(.exact q.elim))
|`(tactic|ext l)=>`(tactic|(exact ba (show false=true from ht)))
set_option Elab.async false
set_option linter.all false
set_option maxRecDepth 100000
set_option maxHeartbeats 4000000
set_option genSizeOf false
set_option genInjectivity false
set_option compiler.extract_closed false
namespace Internal
noncomputable section
theorem Ac(h:0=0:=by kernel_rfl):0=0:=h
theorem Ad(h:0=0:=by decide):0=0:=h
theorem Ae(h:0=0:=by first |rfl |decide):0=0:=h
theorem Af(h:0=0:=by first |k_is |rfl):0=0:=h
theorem Ai(h:0=0:=by intro _;rfl):0=0:=h
theorem Ak(h:0=0:=by decide +kernel):0=0:=h
theorem An(h:0=0:=by exact Tx rfl):0=0:=h
theorem Ao(h:0=0:=by first |exact @W |exact .inr rfl |exact .inr (@W) |exact .inr (.inr rfl) |assumption):0=0:=h
theorem Aq(h:0=0:=by k_is):0=0:=h
theorem Ar(h:0=0:=by rfl):0=0:=h
theorem Aua(h:0=0:=by intro _ _;rfl):0=0:=h
theorem Aub(h:0=0:=by exact scm):0=0:=h
theorem Auc(h:0=0:=by intro _ _ _ _ _ _ us hl;rcases us with _ |⟨_,_ |⟨_,_ |⟨_,_ |⟨_,_ |⟨_,_⟩⟩⟩⟩⟩<;>first |rfl |(simp at hl;done)):0=0:=h
theorem Aud(h:0=0:=by intro ds G Q E h;iterate 14 (first |done |(obtain⟨e,_⟩:=h;(subst e);rfl) |(obtain⟨_,h⟩:=h))):0=0:=h
theorem ZM(h:0=0:=by intro _;kernel_rfl):0=0:=h
theorem O3(h:0=0:=by exact K2.IS):0=0:=h
theorem Aug(h:0=0:=by exact K2.qJ):0=0:=h
theorem Auh(h:0=0:=by exact⟨rfl,rfl,rfl⟩):0=0:=h
theorem Aui(h:0=0:=by(repeat intro _);show _=_;kernel_rfl):0=0:=h
theorem Auj(h:0=0:=by repeat' first |(show dE _ _ _;first |(show dE _ _ (ak _);exact pvK) |(show dE _ _ (dC _);first |exact UL |exact XX |exact UQ @E @E |exact UE) |(show dE _ _ (aN _ _ _);first |refine XQ ?_ ?_ ?_ |refine XR @E ?_ ?_ (λ_ _=>rfl) |refine UJ @E ?_ ?_ |refine LA ?_ ?_ ?_ (QB _) |refine LA ?_ ?_ ?_ (by with_unfolding_all rfl)) |refine XT ?_ |(show dE _ _ (bb _ _);refine adm @E @E ?_) |refine UD ?_ |refine UI ?_ |exact UN |(show dE _ _ (jJ pR _);refine pbK Oo Zb @E @E ?_) |refine Np ?_ ?_ ?_ |(show dE _ _ (oY _ ka _ _);refine pmK Jc PySem.F.slot_list_append PySem.F.type_list_append FV JV ?_ ?_) |refine XM ?_ ?_ |(show dE _ _ (gO _ _ _ _ _ _);refine XU @E ?_ (λ_ _ _ _ _=>?_) (λ_ _ _ _=>?_) λ_ _ _ _=>?_) |(show dE _ _ (oY _ zo _ _);refine pmK gu mC MN v8 Vc ?_ ?_) |exact UM |(show dE _ _ (HM _ _);first |refine zC _ (@d) IS ?_ IS ?_ Ss ?_ |refine zC _ (@d) IS ?_ IS ?_ VO ?_ |refine zC _ (@d) IS ?_ IS ?_ Ig ?_ |refine zC _ (@d) IS ?_ IS ?_ zM ?_) |(show dE _ _ (jJ vi _);refine ptK KG zM @E @E ?_) |(show dE _ _ (jJ rN _);refine ptK KD E3 @E @E ?_) |(show dE _ _ (jJ pQ _);refine ptK (HZ rfl) E3 @E @E ?_) |(show dE _ _ (jJ cInt _);refine ptK Oq Ss @E @E ?_) |(show dE _ _ (jJ H0 _);refine ptK HY Ig @E @E ?_) |(show dE _ _ (jJ rz _);refine pbK (EY rfl @E) Ou @E @E ?_) |refine Qk ?_ ?_ |(show dE _ _ (oY _ A5 _ _);refine pmK gu mC MN TM (QJ @E) ?_ ?_) |(show dE _ _ (oY _ A4 _ _);refine pmK gu MP PySem.F.type_dict_pop v8 (QI @E) ?_ ?_) |(show dE _ _ (yZ _);exact UO @E @E @E) |(show dE _ _ (BI _ _ _);refine UK @E @E @E ?_) |(show dE _ _ (HJ _);refine Qf rfl IS ?_ IS ?_ ?_) |(show dE _ _ (jJ Ms _);refine pbK (Kz rfl @E) Sr @E @E ?_) |(show dE _ _ (jJ Mt _);refine pbK (KC rfl @E) Za @E @E ?_) |refine Qj ?_ ?_ ?_ ?_ |(show dE _ _ (oY _ uA _ _);refine pmK Jc PySem.F.slot_list_extend PySem.F.type_list_extend FV JU ?_ ?_) |refine XS ?_ ?_ ?_ |refine Qi @E ?_ ?_ |refine UH ?_ |refine UR ?_ ?_ |(show dE _ _ (yt _ _);refine adl @E @E ?_) |(show dE _ _ (jJ Ia _);refine pbK (KA rfl @E) Sr @E @E ?_) |(show dE _ _ (HK _);refine Qg IS ?_ IS ?_ zM ?_) |refine UG ?_) |(show xx _ _ _;first |(show xx _ _ (ao _ _);refine paK ?_ ?_) |exact zD) |(show mO _ _ _;first |refine Nd ?_ ?_ |exact PU |refine PT ?_) |(show uX _ _ _;first |(show uX _ _ (aQ _ _);first |refine Xz @E @E ?_ (λ_ _ _ _ _=>?_) (λ_ _ _ _=>?_) λ_ _ _ _=>?_ |refine Ul ⟨rfl,rfl,rfl⟩ @E @E ?_ (λ_ _ _ _ _=>?_) (λ_ _ _ _=>?_) λ_ _ _ _=>?_ |refine psK @E ?_ |refine pqK ?_ ?_) |refine Um ?_ |(show uX _ _ (cq _ _ _);first |refine pfK Tv ?_ ?_ ?_ |refine pfK PassesOwn.leaving ?_ ?_ ?_) |refine XB ?_ ?_ ?_ |(show uX _ _ (iO _);refine pxK ?_) |exact Nh |refine Uo ?_ |refine Nf Tv ?_ ?_ |(show uX _ _ (yr _ _);refine XA @E @E ?_) |(show uX _ _ (DC _ _ _ _ _);refine Xy @E @E @E @E @E (λ_=>?_) λ_=>?_)) |(show yz _ _ _;first |(show yz _ _ (aE _);exact pgK @E) |(show yz _ _ (eU _ _);refine pyK @E ?_ ?_) |(show yz _ _ (hV _);refine Uz rfl ?_ ?_) |(show yz _ _ (tM _ _);refine Qc @E ?_ ?_)) |(show ku _ _ _;first |exact U7 |exact U3 |(show ku _ _ (Cq _);first |exact Qv @E |exact Qr @E) |exact U2 |exact Qt |(show ku _ _ (zk _);first |exact UZ @E |exact U5 @E) |exact UY |exact Qs |(show ku _ _ (Cp _);first |exact Nw @E |exact X5 @E) |exact X4 @E |(show ku _ _ (AJ _);first |exact JP @E |exact U4 @E) |exact X6 |exact U0 @E) |(show xJ _ _ _ _;first |refine Uy ?_ |refine Qa ?_ |(show xJ _ _ _ (qm _);refine JI IS ?_ ?_) |(show xJ _ _ _ (i7 _);refine Nl ?_) |refine Nk ?_ |(show xJ _ _ _ (Ka _ _);refine Ux IS ?_ ?_ ?_) |(show xJ _ _ _ (qV _);refine JL ?_) |(show xJ _ _ _ (Hh _);refine P9 IS ?_ ?_) |(show xJ _ _ _ (w6 _);refine JJ ?_)) |(show Fy _ _ _;first |(show Fy _ _ (gy _);first |refine Lr ?_ ?_ ?_ (QB _) |refine Lr ?_ ?_ ?_ (by with_unfolding_all rfl) |refine pzK ?_) |refine Ui ?_ |refine SE.pt ?_) |(show KN _ _ _;first |(show KN _ _ (cY _ _);refine Nm ?_ ?_) |exact Qb) |(show PO2 _ _ _;first |refine P5 ?_ |exact P6) |(show SE _ _ _;first |refine Xx ?_ ?_ |refine Ug ?_ ?_ |refine Ue ?_ |refine PO ?_) |exact TL |refine Oa ?_ |(show _=none;exact noX @E @E) |exact RR |exact .none |refine .some ?_):0=0:=h
theorem Ax(h:0=0:=by k_exc):0=0:=h
namespace L2
open PySem PySem.Spec PyProof.Rows
noncomputable def jg(s:Stmt):Arguments:=match s with
 |.FunctionDef _ a _ _ _ _ _ _ _ _=>a
 |_=>{posonlyargs:=[],args:=[],vararg:=none,kwonlyargs:=[],kw_defaults:=[],kwarg:=none,defaults:=[]}
noncomputable def fk(s:Stmt):List Stmt:=match s with
 |.FunctionDef _ _ b _ _ _ _ _ _ _=>b
 |_=>[]
noncomputable def cf(s:Stmt):Scope:=match s with
 |.FunctionDef _ _ _ _ _ _ sc _ _ _=>sc
 |_=>{kind:=.function,names:=[],isGenerator:=false,isCoroutine:=false}
end L2
namespace K2
open PySem PySem.W PySem.Spec PyProof.Rows PySem.Calls
theorem NI(e:opening p=plainProg p.main.scope.names)(hN:Nat.ble 600 N=true)(f:∀s,fenceModules? p s=some s)
  (h:∀(w:World) (os:ni),(topFrom kI p w N ⟨gG w.params,mS [],kZ,vU,os⟩).map (λs=>(openSeen q loose (nh p.main.body) Xt true s,Yf s))=some (OH q loose,Ya w)):LeftO p q loose Xt Yf Ya N:=λw=>by
 obtain⟨⟨h',gs,d,k,os⟩,e1,e2⟩:=Option.map_eq_some_iff.mp (boot_open e hN f w);obtain⟨rfl,rfl,rfl,rfl⟩:h'=gG w.params/\gs=mS []/\d=kZ/\k=vU:=by simpa using e2
 unfold openEnds;rw[e1];exact h w os
noncomputable abbrev Ld(l:OpenLaw)(q:bC):Bool:=chainsOk q&&opensWell l.row.prog&&(frees l.row.toRowW&&l.row.within.isEmpty)
noncomputable abbrev Pe(l:OpenLaw)(q:bC)(s:ay):Bool:=xlAt q [] s&&recOk l.row.records s
theorem N5{K:pW->Frag}(ok:l.wellSaid=true)(e:opening l.row.prog=plainProg l.row.prog.main.scope.names)(hN:Nat.ble 600 N=true)(f:∀s,fenceModules? l.row.prog s=some s)(hK:∀P,as=(K P).map @k)
  (h:∀(w:World) (os:ni),(topFrom kI l.row.prog w N ⟨gG w.params,mS [],kZ,vU,os⟩).map (λs=>(openSeen q loose (nh l.row.prog.main.body) (Pe l q) true s,as.map s.heap.get?))=some (OH q loose,(K w.params).map λp=>some p.2))
  (hd:defOf q l.row.name=some (d,[])) (hp:l.row.prog.theDef l.row.name=some (d.params,d.body,d.scope)) (hk:kwWritten? d.params.kwonlyargs d.params.kw_defaults=some []) (hr:(!l.row.writes||l.row.records.isEmpty)=true) (ht:Ld l q=true) (hb:l.row.prog.bare) (hw:l.row.toRowW.promised)
  (c:WalkO q loose (XL q []) (InK K) l.row.toRowW d [] λf vs=>K3 f vs):l.Holds :=
 holds_law ok λk1=>holds_open (NI (Yf:=Hook.obs (kHook K as hK)) (Ya:=Hook.val (kHook K as hK)) e hN f h) (Hook.of (kHook K as hK)) (Hook.keeps (kHook K as hK)) (λs x=>xl_of s (Bool.and_eq_true_iff.mp x).1) XL.keeps hd hp hk (λs x=>recFacts_of (Bool.and_eq_true_iff.mp x).2) hr k1 ht hb hw c
noncomputable def v9(tb:String->Option Builtin)(p:bC)(w:World)(qh:Nat)(ann:Option Value):Nat->sx->Thread->Option sx
 |0,_,_=>none
 | n+1,s,t=>match through t with
  |true=>some s
  | false=>match stepOk qh ann t with
   |false=>none
   |true=>match stepT (denote tb) p w s t with
    |some (s',t')=>v9 tb p w qh ann n s' t'
    |none=>none
theorem T4:∀{n:Nat} {s s':sx} {t:Thread},v9 tb p w qh ann n s t=some s'->topRun tb p w qh ann n s.abs t=some s'.abs:=by
 intro n;induction n with
 |zero=>intro s s' t h;cases h
 | succ n ih=>
  intro s s' t h;unfold v9 at h;unfold topRun;cases ht:through t with
  |true=>rw[ht] at h;cases h;rfl
  | false=>
   rw[ht] at h;cases hk:stepOk qh ann t with
   |false=>rw[hk] at h;cases h
   | true=>
    rw[hk] at h;cases hs:stepT (denote tb) p w s t with
    |none=>rw[hs] at h;cases h
    |some r=>
     obtain⟨uU,acZ⟩:=r;rw[hs] at h;rw[stepT_spec hs];exact ih h
noncomputable def bt(l:List Obj):BT:=(l.foldl (λ(p:BT×Nat) o=>(p.1.ins p.2 o,p.2+1)) (BT.nil,0)).1
noncomputable def Sw(P:pW)(os:ni):sx:=⟨bt (gG P).objs.toList,(gG P).objs.size,(gG P).life,mS [],kZ,vU,os⟩
theorem Ov(P)(os):(Sw P os).abs=⟨gG P,mS [],kZ,vU,os⟩:=@ba
noncomputable abbrev LO{α:Type}(p q)(loose)(Xt)(Yf:ay->α)(P)(s):=((staticsOk (nh p.main.body) (gG P) s.heap&&namesBound p s.heap&&gensDone s&&laidKept (gG P) s.heap),openSeen q loose (nh p.main.body) Xt true s,Yf s)
noncomputable def goB(tb:String->Option Builtin)(p:bC)(w:World)(qh:Nat)(ann:Option Value):Nat->sx->Thread->Option (sx×Thread)
 |0,s,t=>some (s,t)
 | n+1,s,t=>match through t with
  |true=>none
  | false=>match stepOk qh ann t with
   |false=>none
   |true=>match stepT (denote tb) p w s t with
    |some (s',t')=>goB tb p w qh ann n s' t'
    |none=>none
section
variable {tb:String->Option Builtin} {p:bC} {w:World} {qh:Nat} {ann:Option Value} {b:List Stmt} {env:Env} {c:Code} {q pos p':Pos}
theorem YN:∀{n:Nat} {s s':sx} {t t':Thread},goB tb p w qh ann n s t=some (s',t')->topGo tb p w qh ann n s.abs t=some (s'.abs,t'):=by
 intro n;induction n with
 |zero=>intro s s' t t' h;cases h;rfl
 | succ n ih=>
  intro s s' t t' h;unfold goB at h;unfold topGo;cases ht:through t with
  |true=>rw[ht] at h;cases h
  | false=>
   rw[ht] at h;cases hk:stepOk qh ann t with
   |false=>rw[hk] at h;cases h
   | true=>
    rw[hk] at h;cases hs:stepT (denote tb) p w s t with
    |none=>rw[hs] at h;cases h
    |some r=>
     obtain⟨uU,acZ⟩:=r;rw[hs] at h;rw[stepT_spec hs];exact ih h
theorem Oi(h1:goB tb p w qh ann nA s0 (topStub p)=some (sA,⟨denote tb (.body b env),c,pos,[u0 q]⟩))(h2:segRunT tb p w qh ann 1 nB sA (blockOf b env c pos [u0 q])=some (.next,sB,c,p'))
  (k:topRun tb p w qh ann N sB.abs (restOf b env c p' [u0 q])=some r):topRun tb p w qh ann (nA+(nB+N)) s0.abs (topStub p)=some r:=go_top (YN h1) (piece_block (segRun_of h2) k)
theorem Sb(k)(h:segRunT tb p w qh ann 1 n s (piecesOf (b.take k) env c pos [u0 q])=some (.next,s',c,p'))
  (hk:topRun tb p w qh ann N s'.abs (restOf (b.drop k) env c p' [u0 q])=some r):topRun tb p w qh ann (n+N) s.abs (restOf b env c pos [u0 q])=some r:=by
 have:=piece_app (segRun_of h) hk
 rwa[oq] at this
end
theorem QQ{σ α β γ:Type}{o:Option σ}{F:σ->α×β×γ}{a:α}{b:β}{c:γ}(h1:o.map (λs=>((F s).1,(F s).2.2))=some (a,c))(h2:o.map (λs=>(F s).2.1)=some b):o.map F=some (a,b,c):=by
 cases o with
 |none=>cases h1
 |some s=>
  have e1:=aX h1;have e2:(F s).2.1=b:=aX h2;show some ((F s).1,(F s).2.1,(F s).2.2)=_;rw[e2,show(F s).1=a from congrArg @k e1,show(F s).2.2=c from congrArg (·.2) e1]
theorem TN{p q:bC}{loose:@y}{Xt:ay->Bool}{α:Type}{Yf:ay->α}{Ya:World->α}{N M:Nat}{w:World}{os:ni}{Vb:Nat}{ann:Option Value}{sL:sx}{tL:Thread}
  (hz:((gG w.params).isNs bK,(gG w.params).objs.size,(gG w.params).nsMap bK "__annotations__")=(true,Vb,ann))
  (h:(v9 kI p w Vb ann M sL tL).map (λs=>LO p q loose Xt Yf w.params s.abs)=some (true,OH q loose,Ya w))
  (k:∀r,topRun kI p w Vb ann M sL.abs tL=some r->topRun kI p w Vb ann N (Sw w.params os).abs (topStub p)=some r):
  (topFrom kI p w N ⟨gG w.params,mS [],kZ,vU,os⟩).map (λs=>(openSeen q loose (nh p.main.body) Xt true s,Yf s))=some (OH q loose,Ya w):=by
 obtain⟨s,e1,e2⟩:=Option.map_eq_some_iff.mp h;have r:=k _ (T4 e1);rw[Ov] at r;obtain⟨z1,z2,z3⟩:_/\_/\_:=by simpa only[sF] using hz
 obtain⟨l1,l2,l3⟩:_/\_/\_:=by simpa only[sF] using e2
 have t:topFrom kI p w N ⟨gG w.params,mS [],kZ,vU,os⟩=some s.abs:=by
  unfold topFrom;dsimp only;have g:((mS []:Array GenState).size == 0)=true:=rfl;rw[z1,z2,z3,g,OT,r];dsimp only[uS];rw[l1]
 rw[t];exact congrArg some (OM l2 l3)
end K2
namespace Fin
open PySem PySem.Spec PyProof.Rows L2 K2
noncomputable def top(i:Nat):Stmt:=PySem.Challenge.pw_knotwise_k43_whole_opened_is_all_choices.main.body.getD i (.Pass ⟨0,0,0,0⟩)
noncomputable section
open PySem.W PySem.Calls
noncomputable def hC (n:Str) (t:Nat) (l:@s):Obj:=⟨.type "code",none,.fields (.str n t::.str n (t+1)::.str "/claim/cut.py" (t+2)::l).toArray,#[]⟩
noncomputable def hI(n:Int):Value:=.int n 0
noncomputable def hR(n:Nat):Value:=.ref n
noncomputable def hN:Value:=.none
noncomputable def hT:Value:=.bool true
noncomputable def hS (n:Nat):Value:=.str "/claim/cut.py" n
noncomputable def hD(n:Str)(t:Nat)(l a:Int)(r:Nat)(x y z:Value)(u:Nat):Obj:=hC n t [hI l,hI a,hI 0,hI 0,hI 3,hR r,hT,hI 181,hR (r+1),hN,x,y,z,hI (u-1),hI l,hS u]
noncomputable abbrev hF (i:Nat) (n:Str) (m c:Value):Obj:=⟨.type "function",none,.func (kY n n (jg (top i)) (fk (top i)) (cf (top i)) .none .none .none m none c .none),#[]⟩
noncomputable abbrev hE(P:pW)(s:Str)(t:Nat)(v:Value):ft:=⟨PyData.keyHash P s,.str s t,v⟩
noncomputable def hQ:bC:=PySem.W.view PySem.Challenge.pw_knotwise_k43_whole_opened_is_all_choices [1,2,3,5,6,7,9,10,11,12,13,14,16,17,18,19,20,21,22,23,24,25,27,28,29,30,31,32,33,34,35,36,37,38,39,40,41,42,43,44,45,46,47,48,49,50]
noncomputable def o0:Obj:=⟨(@ad),none,(.seq #[] 0),#[]⟩
def o1 (P:pW):Obj:=⟨(@aN),none,(.dict #[hE P "__module__" 196 (.str "knotwise.errors" 187),hE P "__firstlineno__" 200 (.int 2 199),hE P "__static_attributes__" 201 (.ref 22),hE P "__weakref__" 203 (.ref 25),hE P "__doc__" 204 .none] 3),#[]⟩
noncomputable def o2:Obj:=⟨(.type "type"),none,(.cls ⟨"KnotError",[(.type "ValueError")],[(.ref 24),(.type "ValueError"),(.type "Exception"),(@bj),(.type "object")],23,"KnotError",.true,[],[(.ref 37),(.ref 49)],.false,none,.false⟩),#[(some (.ref 15)),none,(some (.str "KnotError" 189)),(some (.str "KnotError" 197)),(some (.builtin "ValueError.__new__")),(some (.bool .true))]⟩
noncomputable def o3:Obj:=⟨(.type "getset_descriptor"),none,(.fields #[(.str "__weakref__" 202),(.ref 24),(.builtin "ExceptionGroup.__weakref__"),.none]),#[]⟩
noncomputable def o4:Obj:=⟨(@ad),none,(.seq #[(.ref 24)] 0),#[]⟩
def o5 (P:pW):Obj:=⟨(@aN),none,(.dict #[hE P "__module__" 214 (.str "knotwise.errors" 187),hE P "__firstlineno__" 218 (.int 4 217),hE P "__static_attributes__" 219 (.ref 35),hE P "__doc__" 220 .none] 2),#[]⟩
noncomputable def o6:Obj:=⟨(.type "type"),none,(.cls ⟨"NoName",[(.ref 24)],[(.ref 37),(.ref 24),(.type "ValueError"),(.type "Exception"),(@bj),(.type "object")],36,"NoName",.true,[],[],.false,none,.false⟩),#[(some (.ref 28)),none,(some (.str "NoName" 207)),(some (.str "NoName" 215)),(some (.builtin "ValueError.__new__")),(some (.bool .true))]⟩
def o7 (P:pW):Obj:=⟨(@aN),none,(.dict #[hE P "__module__" 230 (.str "knotwise.errors" 187),hE P "__firstlineno__" 234 (.int 6 233),hE P "__static_attributes__" 235 (.ref 47),hE P "__doc__" 236 .none] 2),#[]⟩
noncomputable def o8:Obj:=⟨(.type "type"),none,(.cls ⟨"NoSpot",[(.ref 24)],[(.ref 49),(.ref 24),(.type "ValueError"),(.type "Exception"),(@bj),(.type "object")],48,"NoSpot",.true,[],[],.false,none,.false⟩),#[(some (.ref 40)),none,(some (.str "NoSpot" 223)),(some (.str "NoSpot" 231)),(some (.builtin "ValueError.__new__")),(some (.bool .true))]⟩
noncomputable def o9:Obj:=⟨(@aN),none,(.dict #[⟨2,(.int 2 272),(.int (-1) 274)⟩,⟨(-2),(.int (-2) 276),(.int (-1) 278)⟩] 2),#[]⟩
noncomputable def o10:Obj:=⟨(.type "builtin_function_or_method"),none,(.fields #[(.builtin "type.__prepare__"),(.type "type")]),#[]⟩
noncomputable def OX:Obj:=⟨.none,none,(.fields #[]),#[]⟩
noncomputable def hK(P:pW):aq:=(nat_lit 2,⟨.none,none,(.dict #[] 0),#[]⟩) ::
(nat_lit 3,⟨(@aN),none,(.dict #[hE P "__name__" 165 @aM,hE P "__doc__" 166 .none,hE P "__package__" 167 .none,hE P "__loader__" 168 (.builtin "__main__.__loader__#opaque"),hE P "__spec__" 169 .none,hE P "__annotations__" 170 (.ref 6),hE P "__builtins__" 171 (.ref 4),hE P "__file__" 173 (.str "/claim/cut.py" 172),hE P "__cached__" 174 .none,hE P "KnotError" 206 (.ref 24),hE P "NoName" 222 (.ref 37),hE P "NoSpot" 238 (.ref 49),hE P "passings_of" 249 (.ref 58),hE P "hand_of" 258 (.ref 65),hE P "next_of" 269 (.ref 72),hE P "LOOP" 281 (.ref 73),hE P "without_noughts" 291 (.ref 80),hE P "added" 302 (.ref 87),hE P "times" 316 (.ref 94),hE P "shifted" 328 (.ref 101),hE P "raised" 338 (.ref 108),hE P "ALONG" 342 (.int 0 341),hE P "AGAINST" 344 (.int 1 343),hE P "joints" 352 (.ref 115),hE P "power_at" 360 (.ref 122),hE P "plan_of" 366 (.ref 127),hE P "whole_plan" 372 (.ref 132),hE P "far_ends" 382 (.ref 139),hE P "joined_plan" 396 (.ref 146),hE P "opened_at" 412 (.ref 153),hE P "opened" 418 (.ref 158),hE P "_law_cell_at" 428 (.ref 165),hE P "_law_whole" 435 (.ref 172),hE P "_law_pick" 444 (.ref 179),hE P "_law_poly" 452 (.ref 186),hE P "_law_pared" 461 (.ref 193),hE P "_law_sum" 471 (.ref 200),hE P "_law_product" 482 (.ref 207),hE P "_law_moved" 493 (.ref 214),hE P "_law_copy" 499 (.ref 219),hE P "_law_free" 507 (.ref 226),hE P "_law_put" 518 (.ref 233),hE P "_law_digits" 531 (.ref 240),hE P "_law_drawing" 537 (.ref 245),hE P "_law_hands" 547 (.ref 252),hE P "_law_loops" 556 (.ref 259),hE P "_law_across" 568 (.ref 266),hE P "_law_sewn" 579 (.ref 273),hE P "_law_gone_along" 585 (.ref 278),hE P "_law_opened" 605 (.ref 285),hE P "_law_laid" 618 (.ref 292),hE P "_law_some" 631 (.ref 299),hE P "_law_plan" 641 (.ref 306),hE P "_law_refused" 651 (.ref 313),hE P "law" 669 (.ref 320)] 55),#[]⟩) ::
(nat_lit 15,⟨(@ad),none,(.seq #[(.type "ValueError")] 0),#[]⟩) ::
(nat_lit 22,o0) ::
(nat_lit 23,o1 P) ::
(nat_lit 24,o2) ::
(nat_lit 25,o3) ::
(nat_lit 28,o4) ::
(nat_lit 35,o0) ::
(nat_lit 36,o5 P) ::
(nat_lit 37,o6) ::
(nat_lit 40,o4) ::
(nat_lit 47,o0) ::
(nat_lit 48,o7 P) ::
(nat_lit 49,o8) ::
(nat_lit 57,hD "passings_of" 241 9 1 52 (hR 54) (hR 55) (hR 56) 248) ::
(nat_lit 58,hF 5 "passings_of" (.str "knotwise.drawings" 239) (.ref 57)) ::
(nat_lit 64,hD "hand_of" 250 14 2 59 (hR 61) (hR 62) (hR 63) 257) ::
(nat_lit 65,hF 6 "hand_of" (.str "knotwise.drawings" 239) (.ref 64)) ::
(nat_lit 71,hD "next_of" 259 19 1 66 (hR 68) (hR 69) (hR 70) 268) ::
(nat_lit 72,hF 7 "next_of" (.str "knotwise.drawings" 239) (.ref 71)) ::
(nat_lit 73,o9) ::
(nat_lit 79,hD "without_noughts" 282 27 1 74 (hR 76) (hR 77) (hR 78) 290) ::
(nat_lit 80,hF 10 "without_noughts" (@bt) (.ref 79)) ::
(nat_lit 86,hD "added" 292 33 2 81 (hR 83) (hR 84) (hR 85) 301) ::
(nat_lit 87,hF 11 "added" (@bt) (.ref 86)) ::
(nat_lit 93,hD "times" 303 38 2 88 (hR 90) (hR 91) (hR 92) 315) ::
(nat_lit 94,hF 12 "times" (@bt) (.ref 93)) ::
(nat_lit 100,hD "shifted" 317 45 3 95 (hR 97) (hR 98) (hR 99) 327) ::
(nat_lit 101,hF 13 "shifted" (@bt) (.ref 100)) ::
(nat_lit 107,hD "raised" 329 50 2 102 (hR 104) (hR 105) (hR 106) 337) ::
(nat_lit 108,hF 14 "raised" (@bt) (.ref 107)) ::
(nat_lit 114,hD "joints" 345 58 2 109 (hR 111) (hR 112) (hR 113) 351) ::
(nat_lit 115,hF 18 "joints" @br (.ref 114)) ::
(nat_lit 121,hD "power_at" 353 62 2 116 (hR 118) (hR 119) (hR 120) 359) ::
(nat_lit 122,hF 19 "power_at" @br (.ref 121)) ::
(nat_lit 126,hD "plan_of" 361 64 1 123 hN hN (hR 125) 365) ::
(nat_lit 127,hF 20 "plan_of" @br (.ref 126)) ::
(nat_lit 131,hD "whole_plan" 367 66 1 128 hN hN (hR 130) 371) ::
(nat_lit 132,hF 21 "whole_plan" @br (.ref 131)) ::
(nat_lit 138,hD "far_ends" 373 69 1 133 (hR 135) (hR 136) (hR 137) 381) ::
(nat_lit 139,hF 22 "far_ends" @br (.ref 138)) ::
(nat_lit 145,hD "joined_plan" 383 75 2 140 (hR 142) (hR 143) (hR 144) 395) ::
(nat_lit 146,hF 23 "joined_plan" @br (.ref 145)) ::
(nat_lit 152,hD "opened_at" 397 87 3 147 (hR 149) (hR 150) (hR 151) 411) ::
(nat_lit 153,hF 24 "opened_at" @br (.ref 152)) ::
(nat_lit 157,hD "opened" 413 99 2 154 hN hN (hR 156) 417) ::
(nat_lit 158,hF 25 "opened" @br (.ref 157)) ::
(nat_lit 164,hD "_law_cell_at" 421 107 2 159 (hR 161) (hR 162) (hR 163) 427) ::
(nat_lit 165,hF 27 "_law_cell_at" @aM (.ref 164)) ::
(nat_lit 171,hD "_law_whole" 429 111 1 166 (hR 168) (hR 169) (hR 170) 434) ::
(nat_lit 172,hF 28 "_law_whole" @aM (.ref 171)) ::
(nat_lit 178,hD "_law_pick" 436 113 3 173 (hR 175) (hR 176) (hR 177) 443) ::
(nat_lit 179,hF 29 "_law_pick" @aM (.ref 178)) ::
(nat_lit 185,hD "_law_poly" 445 115 1 180 (hR 182) (hR 183) (hR 184) 451) ::
(nat_lit 186,hF 30 "_law_poly" @aM (.ref 185)) ::
(nat_lit 192,hD "_law_pared" 453 122 1 187 (hR 189) (hR 190) (hR 191) 460) ::
(nat_lit 193,hF 31 "_law_pared" @aM (.ref 192)) ::
(nat_lit 199,hD "_law_sum" 462 128 2 194 (hR 196) (hR 197) (hR 198) 470) ::
(nat_lit 200,hF 32 "_law_sum" @aM (.ref 199)) ::
(nat_lit 206,hD "_law_product" 472 133 2 201 (hR 203) (hR 204) (hR 205) 481) ::
(nat_lit 207,hF 33 "_law_product" @aM (.ref 206)) ::
(nat_lit 213,hD "_law_moved" 483 139 3 208 (hR 210) (hR 211) (hR 212) 492) ::
(nat_lit 214,hF 34 "_law_moved" @aM (.ref 213)) ::
(nat_lit 218,hD "_law_copy" 494 144 1 215 hN hN (hR 217) 498) ::
(nat_lit 219,hF 35 "_law_copy" @aM (.ref 218)) ::
(nat_lit 225,hD "_law_free" 500 146 2 220 (hR 222) (hR 223) (hR 224) 506) ::
(nat_lit 226,hF 36 "_law_free" @aM (.ref 225)) ::
(nat_lit 232,hD "_law_put" 508 150 4 227 (hR 229) (hR 230) (hR 231) 517) ::
(nat_lit 233,hF 37 "_law_put" @aM (.ref 232)) ::
(nat_lit 239,hD "_law_digits" 519 155 2 234 (hR 236) (hR 237) (hR 238) 530) ::
(nat_lit 240,hF 38 "_law_digits" @aM (.ref 239)) ::
(nat_lit 244,hD "_law_drawing" 532 166 3 241 hN hN (hR 243) 536) ::
(nat_lit 245,hF 39 "_law_drawing" @aM (.ref 244)) ::
(nat_lit 251,hD "_law_hands" 538 176 1 246 (hR 248) (hR 249) (hR 250) 546) ::
(nat_lit 252,hF 40 "_law_hands" @aM (.ref 251)) ::
(nat_lit 258,hD "_law_loops" 548 182 1 253 (hR 255) (hR 256) (hR 257) 555) ::
(nat_lit 259,hF 41 "_law_loops" @aM (.ref 258)) ::
(nat_lit 265,hD "_law_across" 557 187 1 260 (hR 262) (hR 263) (hR 264) 567) ::
(nat_lit 266,hF 42 "_law_across" @aM (.ref 265)) ::
(nat_lit 272,hD "_law_sewn" 569 196 1 267 (hR 269) (hR 270) (hR 271) 578) ::
(nat_lit 273,hF 43 "_law_sewn" @aM (.ref 272)) ::
(nat_lit 277,hD "_law_gone_along" 580 206 2 274 hN hN (hR 276) 584) ::
(nat_lit 278,hF 44 "_law_gone_along" @aM (.ref 277)) ::
(nat_lit 284,hD "_law_opened" 586 229 2 279 (hR 281) (hR 282) (hR 283) 604) ::
(nat_lit 285,hF 45 "_law_opened" @aM (.ref 284)) ::
(nat_lit 291,hD "_law_laid" 606 249 3 286 (hR 288) (hR 289) (hR 290) 617) ::
(nat_lit 292,hF 46 "_law_laid" @aM (.ref 291)) ::
(nat_lit 298,hD "_law_some" 619 259 2 293 (hR 295) (hR 296) (hR 297) 630) ::
(nat_lit 299,hF 47 "_law_some" @aM (.ref 298)) ::
(nat_lit 305,hD "_law_plan" 632 272 1 300 (hR 302) (hR 303) (hR 304) 640) ::
(nat_lit 306,hF 48 "_law_plan" @aM (.ref 305)) ::
(nat_lit 312,hD "_law_refused" 642 281 2 307 (hR 309) (hR 310) (hR 311) 650) ::
(nat_lit 313,hF 49 "_law_refused" @aM (.ref 312)) ::
(nat_lit 319,hD "law" 652 288 1 314 (hR 316) (hR 317) (hR 318) 668) ::
(nat_lit 320,hF 50 "law" @aM (.ref 319))::[]
noncomputable def hA:@ay:=[2,3,15,22,23,24,25,28,35,36,37,40,47,48,49,57,58,64,65,71,72,73,79,80,86,87,93,94,100,101,107,108,114,115,121,122,126,127,131,132,138,139,145,146,152,153,157,158,164,165,171,172,178,179,185,186,192,193,199,200,206,207,213,214,218,219,225,226,232,233,239,240,244,245,251,252,258,259,265,266,272,273,277,278,284,285,291,292,298,299,305,306,312,313,319,320]
noncomputable abbrev hG(st:Stmt)(n q:Str)(g b:Addr):Obj:=⟨.none,none,.func ⟨n,q,jg st,.stmts (fk st),cf st,g,[],.none,.none,.none,.none,none,.none,.none,b⟩,#[]⟩
noncomputable def cE:Env:={scope:=PySem.Challenge.rw_knotwise_k43_whole_opened_is_all_choices.row.prog.main.scope,locals:=mainNs,globals:=mainNs,cells:=[],code:=(.ref 13),frame:=some 14}
noncomputable def cB:List Stmt:=behindTheImports PySem.Challenge.rw_knotwise_k43_whole_opened_is_all_choices.row.prog
def cC:Code:=.body cB cE
noncomputable def cQ:Pos:=⟨0,0,0,0⟩
noncomputable def cr0(P:pW)(t:List Obj):List Obj:=boot_o_4 P ::
boot_o_5 P ::
boot_o_6 P ::
boot_o_7 P ::
boot_o_8 P ::
boot_o_9 P ::
boot_o_10 P ::
o0::t
noncomputable def cr1 (P:pW) (t:List Obj):List Obj:=hC "<module>" 182 [hI 1,hI 0,hI 0,hI 0,hI 0,hR 11,(.bool .false),hI 181,hR 12,hN,hN,hN,hN,hI 185,hI 1,hS 186] ::
⟨(.type "frame"),none,.plain,#[(some (.ref 13)),(some (.ref 3)),(some (.ref 3)),none,(some (.str "__main__" 164)),none,(some (.ref 0))]⟩::t
noncomputable def cL0(P:pW):List Obj:=boot_o_0 P ::
boot_o_1 P ::
boot_o_2 P ::
boot_o_3 P ::
cr0 P (⟨.none,none,(.fields #[]),#[]⟩ ::
cr1 P ([]))
noncomputable def cS0(w:World)(os:ni):sx:=⟨K2.bt (cL0 w.params),15,{},mS [],kZ,187,os⟩
noncomputable def cL1(P:pW):List Obj:=boot_o_0 P ::
boot_o_1 P ::
boot_o_2 P ::
boot_o_3 P ::
cr0 P (⟨.none,none,(.fields #[]),#[]⟩ ::
cr1 P ([]))
noncomputable def cS1(w:World)(os:ni):sx:=⟨K2.bt (cL1 w.params),15,{},mS [],kZ,187,os⟩
noncomputable def cL2(P:pW):List Obj:=boot_o_0 P ::
boot_o_1 P ::
boot_o_2 P ::
⟨(@aN),none,(.dict #[hE P "__name__" 165 @br,hE P "__doc__" 166 .none,hE P "__package__" 167 .none,hE P "__loader__" 168 (.builtin "__main__.__loader__#opaque"),hE P "__spec__" 169 .none,hE P "__annotations__" 170 (.ref 6),hE P "__builtins__" 171 (.ref 4),hE P "__file__" 173 (.str "/claim/cut.py" 172),hE P "__cached__" 174 .none,hE P "KnotError" 206 (.ref 24),hE P "NoName" 222 (.ref 37),hE P "NoSpot" 238 (.ref 49),hE P "passings_of" 249 (.ref 58),hE P "hand_of" 258 (.ref 65),hE P "next_of" 269 (.ref 72),hE P "LOOP" 281 (.ref 73),hE P "without_noughts" 291 (.ref 80),hE P "added" 302 (.ref 87),hE P "times" 316 (.ref 94),hE P "shifted" 328 (.ref 101),hE P "raised" 338 (.ref 108),hE P "ALONG" 342 (.int 0 341),hE P "AGAINST" 344 (.int 1 343),hE P "joints" 352 (.ref 115)] 24),#[]⟩ ::
cr0 P (⟨.none,none,(.fields #[(.int 2 0),(.int 0 0),(.ref 20),(.int 4 0),(.int 0 0),(.ref 33),(.int 6 0),(.int 0 0),(.ref 45),(.int 9 0),(.int 0 0),(.ref 57),(.int 14 0),(.int 0 0),(.ref 64),(.int 19 0),(.int 0 0),(.ref 71),(.int 27 0),(.int 0 0),(.ref 79),(.int 33 0),(.int 0 0),(.ref 86),(.int 38 0),(.int 0 0),(.ref 93),(.int 45 0),(.int 0 0),(.ref 100),(.int 50 0),(.int 0 0),(.ref 107),(.int 58 0),(.int 0 0),(.ref 114)]),#[]⟩ ::
cr1 P (⟨(@ad),none,(.seq #[(.type "ValueError")] 0),#[]⟩ ::
o10 ::
⟨(@aN),none,(.dict #[hE P "__module__" 196 (.str "knotwise.errors" 187),hE P "__qualname__" 198 (.str "KnotError" 197),hE P "__firstlineno__" 200 (.int 2 199),hE P "__static_attributes__" 201 (.ref 22)] 4),#[]⟩ ::
o0 ::
OX ::
hC "KnotError" 191 [hI 2,hI 0,hI 0,hI 0,hI 0,hR 18,(.bool .false),hI 181,hR 19,hN,hN,hN,hN,hI 194,hI 2,hS 195] ::
⟨(.type "frame"),none,.plain,#[(some (.ref 20)),(some (.ref 3)),(some (.ref 17)),none,(some (.str "knotwise.errors" 187)),none,(some (.ref 0))]⟩ ::
o0 ::
o1 P ::
o2 ::
o3 ::
⟨(.type "super"),none,(.fields #[(.ref 24),(.ref 24),(.ref 24)]),#[]⟩ ::
⟨(.type "builtin_function_or_method"),none,(.fields #[(.builtin "object.__init_subclass__"),(.ref 24)]),#[]⟩ ::
o4 ::
o10 ::
⟨(@aN),none,(.dict #[hE P "__module__" 214 (.str "knotwise.errors" 187),hE P "__qualname__" 216 (.str "NoName" 215),hE P "__firstlineno__" 218 (.int 4 217),hE P "__static_attributes__" 219 (.ref 35)] 4),#[]⟩ ::
o0 ::
OX ::
hC "NoName" 209 [hI 4,hI 0,hI 0,hI 0,hI 0,hR 31,(.bool .false),hI 181,hR 32,hN,hN,hN,hN,hI 212,hI 4,hS 213] ::
⟨(.type "frame"),none,.plain,#[(some (.ref 33)),(some (.ref 3)),(some (.ref 30)),none,(some (.str "knotwise.errors" 187)),none,(some (.ref 0))]⟩ ::
o0 ::
o5 P ::
o6 ::
⟨(.type "super"),none,(.fields #[(.ref 37),(.ref 37),(.ref 37)]),#[]⟩ ::
⟨(.type "builtin_function_or_method"),none,(.fields #[(.builtin "object.__init_subclass__"),(.ref 37)]),#[]⟩ ::
o4 ::
o10 ::
⟨(@aN),none,(.dict #[hE P "__module__" 230 (.str "knotwise.errors" 187),hE P "__qualname__" 232 (.str "NoSpot" 231),hE P "__firstlineno__" 234 (.int 6 233),hE P "__static_attributes__" 235 (.ref 47)] 4),#[]⟩ ::
o0 ::
OX ::
hC "NoSpot" 225 [hI 6,hI 0,hI 0,hI 0,hI 0,hR 43,(.bool .false),hI 181,hR 44,hN,hN,hN,hN,hI 228,hI 6,hS 229] ::
⟨(.type "frame"),none,.plain,#[(some (.ref 45)),(some (.ref 3)),(some (.ref 42)),none,(some (.str "knotwise.errors" 187)),none,(some (.ref 0))]⟩ ::
o0 ::
o7 P ::
o8 ::
⟨(.type "super"),none,(.fields #[(.ref 49),(.ref 49),(.ref 49)]),#[]⟩ ::
⟨(.type "builtin_function_or_method"),none,(.fields #[(.builtin "object.__init_subclass__"),(.ref 49)]),#[]⟩ ::
o0 ::
OX ::
⟨(@ad),none,(.seq #[(.str "rows" 244),(.str "passings" 245),(.str "row" 246)] 0),#[]⟩ ::
o0 ::
hG (top 5) "passings_of" "passings_of" 0 0 ::
hD "passings_of" 241 9 1 52 (hR 54) (hR 55) (hR 56) 248 ::
hF 5 "passings_of" (.str "knotwise.drawings" 239) (.ref 57) ::
o0 ::
OX ::
⟨(@ad),none,(.seq #[(.str "drawing" 253),(.str "name" 254),(.str "passing" 255)] 0),#[]⟩ ::
o0 ::
hG (top 6) "hand_of" "hand_of" 0 0 ::
hD "hand_of" 250 14 2 59 (hR 61) (hR 62) (hR 63) 257 ::
hF 6 "hand_of" (.str "knotwise.drawings" 239) (.ref 64) ::
o0 ::
OX ::
⟨(@ad),none,(.seq #[(.str "drawing" 262),(.str "behind" 263),(.str "row" 264),(.str "passing" 265),(.str "follower" 266)] 0),#[]⟩ ::
o0 ::
hG (top 7) "next_of" "next_of" 0 0 ::
hD "next_of" 259 19 1 66 (hR 68) (hR 69) (hR 70) 268 ::
hF 7 "next_of" (.str "knotwise.drawings" 239) (.ref 71) ::
o9 ::
o0 ::
OX ::
⟨(@ad),none,(.seq #[(.str "sums" 285),(.str "kept" 286),(.str "power" 287),(.str "number" 288)] 0),#[]⟩ ::
o0 ::
hG (top 10) "without_noughts" "without_noughts" 0 0 ::
hD "without_noughts" 282 27 1 74 (hR 76) (hR 77) (hR 78) 290 ::
hF 10 "without_noughts" (@bt) (.ref 79) ::
o0 ::
OX ::
⟨(@ad),none,(.seq #[(.str "one" 295),(.str "other" 296),(.str "sums" 297),(.str "power" 298),(.str "number" 299)] 0),#[]⟩ ::
o0 ::
hG (top 11) "added" "added" 0 0 ::
hD "added" 292 33 2 81 (hR 83) (hR 84) (hR 85) 301 ::
hF 11 "added" (@bt) (.ref 86) ::
o0 ::
OX ::
⟨(@ad),none,(.seq #[(.str "one" 306),(.str "other" 307),(.str "sums" 308),(.str "power" 309),(.str "number" 310),(.str "other_power" 311),(.str "other_number" 312),(.str "both" 313)] 0),#[]⟩ ::
o0 ::
hG (top 12) "times" "times" 0 0 ::
hD "times" 303 38 2 88 (hR 90) (hR 91) (hR 92) 315 ::
hF 12 "times" (@bt) (.ref 93) ::
o0 ::
OX ::
⟨(@ad),none,(.seq #[(.str "one" 320),(.str "by" 321),(.str "factor" 322),(.str "sums" 323),(.str "power" 324),(.str "number" 325)] 0),#[]⟩ ::
o0 ::
hG (top 13) "shifted" "shifted" 0 0 ::
hD "shifted" 317 45 3 95 (hR 97) (hR 98) (hR 99) 327 ::
hF 13 "shifted" (@bt) (.ref 100) ::
o0 ::
OX ::
⟨(@ad),none,(.seq #[(.str "one" 332),(.str "count" 333),(.str "product" 334),(.str "step" 335)] 0),#[]⟩ ::
o0 ::
hG (top 14) "raised" "raised" 0 0 ::
hD "raised" 329 50 2 102 (hR 104) (hR 105) (hR 106) 337 ::
hF 14 "raised" (@bt) (.ref 107) ::
o0 ::
OX ::
⟨(@ad),none,(.seq #[(.str "name" 348),(.str "split" 349)] 0),#[]⟩ ::
o0 ::
hG (top 18) "joints" "joints" 0 0 ::
hD "joints" 345 58 2 109 (hR 111) (hR 112) (hR 113) 351 ::
hF 18 "joints" @br (.ref 114) ::
[]))
noncomputable def cS2(w:World)(os:ni):sx:=⟨K2.bt (cL2 w.params),116,{},mS [],kZ,353,os⟩
noncomputable def hL:@y:=["LOOP"]
noncomputable abbrev WG(w)(os):=K2.v9 kI PySem.Challenge.rw_knotwise_k43_whole_opened_is_all_choices.row.prog w 11 (some (.ref 6)) 996 (cS2 w os) (restOf (cB.drop 19) cE cC ⟨58,0,61,71⟩ [u0 cQ])
abbrev RN(w:World):Prop:=∀os:ni,(WG w os).map (λs=>(K2.LO PySem.Challenge.rw_knotwise_k43_whole_opened_is_all_choices.row.prog hQ hL (K2.Pe aT hQ) (λs=>hA.map s.heap.get?) w.params s.abs).2.1)=some (OH hQ hL)
theorem abi (w:World):RN (w.withFollow "special-get-raises" false):=λos=>@ba
theorem abh (w:World):RN (w.withFollow "special-get-raises" true):=λos=>@ba
theorem aex (w):RN w:=byRow2 "special-get-raises" abi abh w
abbrev RO(w:World):Prop:=∀os:ni,(WG w os).map (λs=>((K2.LO PySem.Challenge.rw_knotwise_k43_whole_opened_is_all_choices.row.prog hQ hL (K2.Pe aT hQ) (λs=>hA.map s.heap.get?) w.params s.abs).1,(K2.LO PySem.Challenge.rw_knotwise_k43_whole_opened_is_all_choices.row.prog hQ hL (K2.Pe aT hQ) (λs=>hA.map s.heap.get?) w.params s.abs).2.2))=some (true,(hK w.params).map λp=>some p.2)
theorem abk (w:World):RO (w.withFollow "special-get-raises" false):=λos=>@ba
theorem abj (w:World):RO (w.withFollow "special-get-raises" true):=λos=>@ba
theorem aey (w):RO w:=byRow2 "special-get-raises" abk abj w
theorem h_z (P):((gG P).isNs bK,(gG P).objs.size,(gG P).nsMap bK "__annotations__")=(true,11,(some (.ref 6))):=@ba
theorem abe(w)(os):K2.goB kI PySem.Challenge.rw_knotwise_k43_whole_opened_is_all_choices.row.prog w 11 (some (.ref 6)) 12 (K2.Sw w.params os) (topStub PySem.Challenge.rw_knotwise_k43_whole_opened_is_all_choices.row.prog)=some (cS0 w os,⟨denote kI cC,cC,⟨0,0,0,0⟩,[u0 cQ]⟩):=@ba
theorem abl(w)(os):segRunT kI PySem.Challenge.rw_knotwise_k43_whole_opened_is_all_choices.row.prog w 11 (some (.ref 6)) 1 1 (cS0 w os) (blockOf cB cE cC ⟨0,0,0,0⟩ [u0 cQ])=some (.next,cS1 w os,cC,⟨0,0,0,0⟩):=@ba
abbrev RM(w:World):Prop:=∀os:ni,segRunT kI PySem.Challenge.rw_knotwise_k43_whole_opened_is_all_choices.row.prog w 11 (some (.ref 6)) 1 1010 (cS1 w os) (piecesOf (cB.take 19) cE cC ⟨0,0,0,0⟩ [u0 cQ])=some (.next,cS2 w os,cC,⟨58,0,61,71⟩)
theorem abg (w:World):RM (w.withFollow "special-get-raises" false):=λos=>@ba
theorem abf (w:World):RM (w.withFollow "special-get-raises" true):=λos=>@ba
theorem aew (w):RM w:=byRow2 "special-get-raises" abg abf w
theorem YL(w)(os):(topFrom kI (aT).row.prog w (12+(1+(1010+996))) ⟨gG w.params,mS [],kZ,vU,os⟩).map (λs=>(openSeen hQ hL (nh (aT).row.prog.main.body) (K2.Pe aT hQ) true s,hA.map s.heap.get?))=some (OH hQ hL,(hK w.params).map λp=>some p.2) :=
 K2.TN (Yf:=λs=>hA.map s.heap.get?) (Ya:=λw=>(hK w.params).map λp=>some p.2) (h_z w.params) (K2.QQ (aey w os) (aex w os)) λ_ k=>K2.Oi (abe w os) (abl w os) <| K2.Sb 19 (aew w os) <| k
theorem YK:(aT).wellSaid=true:=@ba
theorem YJ:K2.Ld aT hQ=true:=@ba
end
end Fin
namespace L2
open PySem PySem.Spec PyProof.Rows
abbrev Key:=Sum Int Str
noncomputable def De:Key->Value->Bool
 |.inl k,v=>uP k v
 |.inr x,v=>Value.isStrOf x v
noncomputable def adO(w:World):Key->Int
 |.inl k=>hashInt k
 |.inr x=>hashStr w x
theorem fi:∀{k:Key} {v:Value},De k v=true->(∃i t,k=xO i/\v=eZ i t)\/(∃x t,k=Jb x/\v=Value.str x t)
 |.inl i,v,h=>by
  obtain⟨t,e⟩:=Value.isInt_shape (k:=i) (v:=v) h;exact .inl ⟨i,t,rfl,e⟩
 |.inr x,v,h=>by
  obtain⟨t,e⟩:=Value.isStrOf_shape (x:=x) (v:=v) h;exact .inr ⟨x,t,rfl,e⟩
theorem NP(i)(t):De (.inl i) (.int i t)=true:=by simp[De,uP]
theorem NO(x)(t):De (.inr x) (.str x t)=true:=by simp[De,Value.isStrOf]
theorem QZ(a b):decide ((xO a:Key)=xO b)=(a == b):=by
 by_cases e:a=b
 .subst e;simp
 .have h:¬ (xO a:Key)=xO b:=λq=>e (Sum.inl.inj q);rw[decide_eq_false h];exact(beq_eq_false_iff_ne.mpr e).symm
theorem QY(a b):decide ((Jb a:Key)=Jb b)=decide (a=b):=by
 by_cases e:a=b
 .subst e;simp
 .have h:¬ (Jb a:Key)=Jb b:=λq=>e (Sum.inr.inj q);rw[decide_eq_false h,decide_eq_false e]
theorem Yl(a)(b):decide ((xO a:Key)=Jb b)=false:=decide_eq_false (λq=>nomatch q)
theorem Yk(a)(b):decide ((Jb a:Key)=xO b)=false:=decide_eq_false (λq=>nomatch q)
def cM(prog)(w):PySem.KeyKind prog w Key where
 is:=De
 hash:=adO w
 inj:=λv a b ha hb=>by
  rcases fi ha with ⟨i,t,rfl,rfl⟩ |⟨x,t,rfl,rfl⟩
  .rcases fi hb with ⟨j,u,rfl,e⟩ |⟨y,u,rfl,e⟩
   .injection e with e1 _;rw[e1]
   .exact nomatch e
  .rcases fi hb with ⟨j,u,rfl,e⟩ |⟨y,u,rfl,e⟩
   .exact nomatch e
   .injection e with e1 _;rw[e1]
 byValue:=λk v h=>by
  rcases fi h with ⟨i,t,rfl,rfl⟩ |⟨x,t,rfl,rfl⟩<;>rfl
 pyHash:=λhv h=>by
  rcases fi hv with ⟨i,t,rfl,rfl⟩ |⟨x,t,rfl,rfl⟩
  .exact wpAny_pyHash_int h
  .exact wpAny_pyHash_str h
 eqBool:=λhu hv h=>by
  rcases fi hu with ⟨i,t,rfl,rfl⟩ |⟨x,t,rfl,rfl⟩
  .rcases fi hv with ⟨j,u,rfl,rfl⟩ |⟨y,u,rfl,rfl⟩
   .rw[QZ] at h;exact wpAny_eqBool_int h
   .rw[Yl] at h;exact SeqAt.EqAt.int_str i t y u _ _ _ _ h
  .rcases fi hv with ⟨j,u,rfl,rfl⟩ |⟨y,u,rfl,rfl⟩
   .rw[Yk] at h;exact SeqAt.EqAt.str_int x t j u _ _ _ _ h
   .rw[QY] at h;exact wpAny_eqBool_str h
 «strs»:=λk x t v h=>by
  rcases fi h with ⟨i,u,rfl,e⟩ |⟨y,u,rfl,e⟩
  .exact nomatch e
  .injection e with e1 _
   subst e1;cases v<;>rfl
theorem GH(prog)(w)(i)(t):(cM prog w).is (.inl i) (.int i t)=true:=NP i t
theorem GG(prog)(w)(x)(t):(cM prog w).is (.inr x) (.str x t)=true:=NO x t
inductive V where
 |eX |bl (b:Bool) |int (i:Int) |str (x:Str) |Y8 (b:Array UInt8) |flt (b:UInt64) |ref (a:Addr) |ty (n:String)
def RelV:V->Value->Prop
 |.eX,u=>u=dG
 |.bl b,u=>u=K0 b
 |.int i,u=>∃t,u=eZ i t
 |.str x,u=>∃t,u=Value.str x t
 |.Y8 b,u=>∃t,u=Value.bytes b t
 |.flt b,u=>∃t,u=Value.float b t
 |.ref a,u=>u=dg a
 |.ty n,u=>u=Value.type n
abbrev Vals:@w->@s->Prop:=kz RelV
theorem Vals.length(r:Vals xs us):xs.length=us.length:=gz r
theorem Vals.get:∀{xs:@w} {us:@s} {i:Nat} {x:V},Vals xs us->xs[i]?=some x->∃u,us[i]?=@K/\RelV x u:=by
 intro xs us i x h;induction h generalizing i with
 |nil=>intro e;cases e
 |cons r t ih=>
  intro e;cases i with
  |zero=>cases e;exact⟨_,rfl,r⟩
  |succ i=>exact ih e
theorem Vals.set(r:RelV x u):∀{xs:@w} {us:@s} (i:Nat),Vals xs us->Vals (xs.set i x) (us.set i u):=by
 intro xs us i h;induction h generalizing i with
 |nil=>rw[DS,DS];exact .nil
 |cons q t ih=>
  cases i with
  |zero=>exact .cons r t
  |succ i=>exact .cons q (ih i)
theorem Vals.append:∀{xs ys:@w} {us ws:@s},Vals xs us->Vals ys ws->Vals (xs++ys) (us++ws):=by
 intro xs ys us ws h s;induction h with
 |nil=>exact s
 |cons r t ih=>exact .cons r ih
theorem Vals.take:∀{xs:@w} {us:@s} (n:Nat),Vals xs us->Vals (xs.take n) (us.take n):=by
 intro xs us n h;induction h generalizing n with
 |nil=>rw[B5,B5];exact .nil
 |cons r t ih=>
  cases n with
  |zero=>exact .nil
  |succ n=>exact .cons r (ih n)
theorem Vals.drop:∀{xs:@w} {us:@s} (n:Nat),Vals xs us->Vals (xs.drop n) (us.drop n):=by
 intro xs us n h;induction h generalizing n with
 |nil=>rw[B6,B6];exact .nil
 |cons r t ih=>
  cases n with
  |zero=>exact .cons r t
  |succ n=>exact ih n
def xw:Option V->Option Value->Prop
 |some v,some u=>RelV v u
 |none,none=>True
 |_,_=>False
def KV:List (κ×V)->List (κ×Value)->Prop:=kz λ(p:κ×V) (q:κ×Value)=>p.1=q.1/\RelV p.2 q.2
noncomputable def kV:Key->V
 |.inl i=>@A
 |.inr x=>.str x
inductive HO where
 |lst (xs:@w)
 |tup (xs:@w)
 |dK (kvs:@aE) |dT (kvs:@a4)
 |set (S:Int->Bool) (n:Nat)
 |ins (C dx:Addr) (fs:List (Str×V))
 |own (x:Addr)
 |xd (fs:List (Str×V))
 |met (f x:Addr)
 |Z4 (lo hi:Int)
 |i9 (o:Obj) (u:HO)
 |TR (q:Str)
 |ext (φ:Heap->Prop)
abbrev Hp:=Addr->Option HO
noncomputable def upd(H:Hp)(a:Addr)(o:HO):Hp:=λb=>if b=a then @g else H b
theorem bM:upd H a o a=@g:=by unfold upd;rw[if_pos rfl]
theorem bH(h:b≠a):upd H a o b=H b:=by unfold upd;rw[if_neg h]
theorem Wk{H:Hp}{a b:Addr}{o u:HO}(h:H a=@g)(h':H b=@K)(d:o≠u):a≠b:=by
 intro e;subst e;rw[h] at h';exact d (aX h')
theorem eD{H:Hp}{a b:Addr}{o:HO}(h:H a=@g)(h':H b=none):a≠b:=by
 intro e;subst e;rw[h] at h';cases h'
section
variable (P:bC) (w:World)
def fQ(H:Hp)(h:Heap)(a:Addr):HO->Prop
 |.lst xs=>xs.length<=bc/\∃(bT:@s) (n:Nat),Vals xs bT/\@ak=some {cls:=@Q,data:=.seq bT.toArray n}
 |.tup xs=>xs.length<=bc/\∃bT:@s,Vals xs bT/\IsTup h a bT.toArray
 |.dK kvs=>kvs.length<=bc/\(a == cu)=false/\∃vs,KV kvs vs/\h.DictOf (cM P w) a vs
 | .dT kvs=>kvs.length<=bc/\(a == cu)=false/\∃xs:List (List Key×@aO),
   kz (λ(p:List Key×V) (q:List Key×@aO)=>p.1=q.1/\H q.2.1=some (.tup (p.1.map kV))/\RelV p.2 q.2.2) kvs xs /\
   ∃o es ep,@ak=@g/\o.ExactDict/\o.data=.dict es ep/\es.toList=xs.map (entryOfKey (gS (cM P w)))/\(xs.map @k).Nodup
 |.set S n=>h.SetOf (IZ P w) a S n
 | .ins C dx fs=>H dx=some (.own a)/\fs.length<=1000/\dx≠a/\@ak=some (PySem.W.instObj C dx) /\
   ∃mA,h.Ns1 dx mA/\(∀f,xw (fs.lookup f) (mA f))/\PySem.Within mA (fs.map @k)
 |.own _=>∃o,@ak=@g
 |.xd fs=>∃mA,h.Ns1 a mA/\∀f,xw (fs.lookup f) (mA f)
 |.Z4 lo hi=>∃t u v,@ak=some {cls:=.type "range",data:=.fields #[.int lo t,.int hi u,.int 1 v]}
 |.i9 o u=>@ak=@g/\fQ H h a u
 |.TR q=>∃ps,@ak=some {cls:=.none,data:=.fields ps}/\TriplesOk ps.toList/\∀pos cv,codeAmong pos ps.toList=some cv->∃c',cv=.ref c'/\H c'=some (.own a)/\h.CodeRec (.ref c') q
 |.met f x=>@ak=some (z9 (.ref f) (.ref x))
 |.ext φ=>φ h/\(∃o,@ak=@g)/\∀h1 h2:Heap,φ h1->(∀o,h1.get? a=@g->h2.get? a=@g)->φ h2
def oD(H:Hp)(h:Heap):Prop:=∀a o,H a=@g->fQ P w H h a o
end
section
variable {P:bC} {w:World} {H H':Hp} {h h':Heap} {a:Addr} {o:HO}
theorem fQ.lt(x:fQ P w H h a o):a<h.objs.size:=by
 cases o with
 |lst xs=>obtain⟨_,_,_,_,e⟩:=x;exact aO e
 |tup xs=>obtain⟨_,_,_,p⟩:=x;exact p.lt
 |dK kvs=>obtain⟨_,_,_,_,o,_,_,e,_⟩:=x;exact aO e
 |dT kvs=>obtain⟨_,_,_,_,o,_,_,e,_⟩:=x;exact aO e
 |set S n=>obtain⟨o,_,_,_,e,_⟩:=x;exact aO e
 |ins C dx fs=>obtain⟨_,_,_,e,_⟩:=x;exact aO e
 |own y=>obtain⟨_,e⟩:=x;exact aO e
 |xd fs=>obtain⟨_,⟨_,_,_,e,_⟩,_⟩:=x;exact aO e
 |Z4 lo hi=>obtain⟨_,_,_,e⟩:=x;exact aO e
 |i9 ob u=>obtain⟨e,_⟩:=x;exact aO e
 |TR q=>obtain⟨_,e,_⟩:=x;exact aO e
 |met f y=>exact aO (show @ak=some _ from x)
 |ext φ=>obtain⟨_,⟨_,e⟩,_⟩:=x;exact aO e
theorem Paired.Ve:∀{l₁:@v} {l₂:List β},kz F l₁ l₂->(∀a b,F a b->G a b)->kz G l₁ l₂:=by
 intro l₁ l₂ h f;induction h with
 |nil=>exact .nil
 |cons r t ih=>exact .cons (f _ _ r) ih
theorem fQ.jj(x:fQ P w H h a o)(k:∀b u,(b=a\/H b=some (.own a))->@ap=@K->@ag=@K)
  (ho:∀b,H b=some (.own a)->H' b=some (.own a)) (ht:∀b xs,H b=some (.tup xs)->H' b=some (.tup xs)):fQ P w H' h' a o:=by
 induction o with
 |lst xs=>obtain⟨z,bT,n,r,e⟩:=x;exact⟨z,bT,n,r,k _ _ (@W) e⟩
 |tup xs=>obtain⟨z,bT,r,ob,e,c⟩:=x;exact⟨z,bT,r,ob,k _ _ (@W) e,c⟩
 |dK kvs=>obtain⟨z,y,vs,r,ob,es,ep,e,c⟩:=x;exact⟨z,y,vs,r,ob,es,ep,k _ _ (@W) e,c⟩
 |dT kvs=>
  obtain⟨z,y,xs,r,ob,es,ep,e,c⟩:=x;exact⟨z,y,xs,Paired.Ve r λp q z=>⟨z.1,ht _ _ z.2.1,z.2.2⟩,ob,es,ep,k _ _ (@W) e,c⟩
 |set S n=>obtain⟨ob,es,ep,t,e,c⟩:=x;exact⟨ob,es,ep,t,k _ _ (@W) e,c⟩
 |ins C dx fs=>
  obtain⟨d,z,ne,e,mA,⟨od,es,ep,e2,c⟩,r⟩:=x;exact⟨ho _ d,z,ne,k _ _ (@W) e,mA,⟨od,es,ep,k _ _ (.inr d) e2,c⟩,r⟩
 |own y=>obtain⟨ob,e⟩:=x;exact⟨ob,k _ _ (@W) e⟩
 |xd fs=>obtain⟨mA,⟨od,es,ep,e,c⟩,r⟩:=x;exact⟨mA,⟨od,es,ep,k _ _ (@W) e,c⟩,r⟩
 |Z4 lo hi=>obtain⟨t,u,v,e⟩:=x;exact⟨t,u,v,k _ _ (@W) e⟩
 |i9 ob u ih=>obtain⟨e,q⟩:=x;exact⟨k _ _ (@W) e,ih q⟩
 |TR q=>
  obtain⟨ps,e,t,z⟩:=x;refine⟨ps,k _ _ (@W) e,t,λpos cv y=>?_⟩;obtain⟨c',e1,e2,c2,oc,vs,tq,e3,e4,r⟩:=z pos cv y;cases e3;exact⟨c',e1,ho _ e2,c',oc,vs,tq,rfl,k _ _ (.inr e2) e4,r⟩
 |met f y=>
  have e:@ak=some (z9 (.ref f) (.ref y)):=x;show h'.get? a=some (z9 (.ref f) (.ref y));exact k a _ (@W) e
 |ext φ=>obtain⟨p,⟨o,e⟩,st⟩:=x;exact⟨st _ _ p λo q=>k _ _ (@W) q,⟨o,k _ _ (@W) e⟩,st⟩
theorem oD.lt(x:oD P w H h)(e:H a=@g):a<h.objs.size:=(x a o e).lt
theorem oD.fresh(x:oD P w H h)(e:h.objs.size<=a):H a=none:=by
 cases q:H a with
 |none=>rfl
 |some u=>exact absurd (bu (x.lt q) e) (ie _)
theorem oD.kept(x:oD P w H h)(k:∀b u,@ap=@K->@ag=@K):oD P w H h':=λa o e=>
 (x a o e).jj (λb u _ q=>k b u q) (λ_ q=>q) λ_ _ q=>q
theorem oD.laid(x:oD P w H h)(k:∀b u,@ap=@K->@ag=@K)(hp:h.objs.size<=a)(new:fQ P w (upd H a o) h' a o):oD P w (upd H a o) h':=λb u e=>by
 have hn:=x.fresh hp;by_cases hb:b=a
 .subst hb;rw[bM] at e;cases e;exact new
 .rw[bH hb] at e;exact(x b u e).jj (λc v _ q=>k c v q) (λc q=>by rw[bH (eD q hn)];exact q) λc xs q=>by rw[bH (eD q hn)];exact q
end
def Rd(H:Hp)(a:Addr)(u:HO):Prop:=H a=@K\/∃o,H a=some (.i9 o u)
theorem Rd.ok(r:Rd H a u)(x:oD P w H h):fQ P w H h a u:=by
 rcases r with r |⟨o,r⟩
 .exact x a u r
 .obtain⟨_,q⟩:=x a _ r;exact q
def Mut:Option HO->Prop
 |some (.lst _)=>True
 |some (.dK _)=>True
 |some (.dT _)=>True
 |some (.set _ _)=>True
 |some (.ins _ _ _)=>True
 |some (.ext _)=>True
 |_=>False
section
variable {P:bC} {w:World} {H:Hp} {h h':Heap} {x e:Addr} {o':HO}
theorem oD.write(ok:oD P w H h)(mu:Mut (H x))(he:e=x\/H e=some (.own x))(k:∀b u,b≠e->@ap=@K->@ag=@K)(Ti:∃u,h'.get? e=@K)
  (new:fQ P w (upd H x o') h' x o'):oD P w (upd H x o') h':=λb u q=>by
 have aar:∀c y,H c=some (.own y)->c≠x:=λc y r z=>by subst z;rw[r] at mu;exact mu
 have adv:∀c xs,H c=some (.tup xs)->c≠x:=λc xs r z=>by subst z;rw[r] at mu;exact mu
 by_cases hb:b=x
 .subst hb;rw[bM] at q;cases q;exact new
 .rw[bH hb] at q;by_cases YI:b=e
  .have q':H b=some (.own x):=by
    rcases he with z |z
    .exact absurd (YI.trans z) hb
    .rw[YI];exact z
   rw[q] at q';cases q';obtain⟨v,hv⟩:=Ti;exact⟨v,by rw[YI];exact hv⟩
  .refine(ok b u q).jj (λc v hc r=>k c v ?_ r) (λc r=>by rw[bH (aar c b r)];exact r) λc xs r=>by rw[bH (adv c xs r)];exact r
   rcases hc with rfl |hc
   .exact YI
   .rintro rfl;rcases he with z |z
    .exact aar c b hc z
    .rw[hc] at z;cases z;exact hb rfl
end
structure Un(fs ex:@ay)(H H':Hp)(h h':Heap):Prop where
 keep:∀b o,@ap=@g->H b=none->b∉fs->b∉ex->@ag=@g
 slot:∀b o,@ap=@g->H b=none->b∈fs->b∉ex->∃sl,@ag=some {o with slots:=sl}
 free:∀b o,@ap=@g->H b=none->b∉ex->H' b=none
 there:∀b o,@ap=@g->b∉ex->∃o',@ag=some o'
 rS:∀b xs,H b=some (.tup xs)->H' b=some (.tup xs)
 qY:∀b o u,H b=some (.i9 o u)->H' b=some (.i9 o u)
 vv:∀b q,H b=some (.TR q)->H' b=some (.TR q)
 vB:∀b x,H b=some (.own x)->H' b=some (.own x)
section
variable {fs fs' ex ex':@ay} {H H1 H2:Hp} {h h1 h2 h':Heap} {a x e:Addr} {o:HO}
theorem Un.any(u:Un fs ex H H1 h h1)(q:@ap=some ob)(n:H b=none)(hx:b∉ex):∃sl,h1.get? b=some {ob with slots:=sl}:=by
 by_cases hb:b∈fs
 .exact u.slot b ob q n hb hx
 .exact⟨ob.slots,u.keep b ob q n hb hx⟩
theorem Un.kept(k:∀b u,@ap=@K->@ag=@K):Un fs ex H H h h' :=
 ⟨λb ob q _ _ _=>k b ob q,λb ob q _ _ _=>⟨ob.slots,k b ob q⟩,λ_ _ _ n _=>n,λb ob q _=>⟨ob,k b ob q⟩,λ_ _ q=>q,λ_ _ _ q=>q,λ_ _ q=>q,λ_ _ q=>q⟩
theorem Un.refl:Un fs ex H H h h:=Un.kept λ_ _ q=>q
theorem Un.laid(k:∀b u,@ap=@K->@ag=@K)(hp:h.objs.size<=a)(hn:H a=none):Un fs ex H (upd H a o) h h' where
 keep:=λb u q _ _ _=>k b u q
 slot:=λb u q _ _ _=>⟨u.slots,k b u q⟩
 free:=λb u q n _=>by rw[bH (br (bu (aO q) hp))];exact n
 there:=λb u q _=>⟨u,k b u q⟩
 rS:=λb xs q=>by rw[bH (eD q hn)];exact q
 qY:=λb u xs q=>by rw[bH (eD q hn)];exact q
 vv:=λb ps q=>by rw[bH (eD q hn)];exact q
 vB:=λb ps q=>by rw[bH (eD q hn)];exact q
theorem Un.write(mu:Mut (H x))(he:e=x\/H e=some (.own x))(k:∀b u,b≠e->@ap=@K->@ag=@K)(Ti:∃u,h'.get? e=@K):Un fs ex H (upd H x o) h h':=by
 have hx:∀b,H b=none->b≠x:=λb n z=>by subst z;rw[n] at mu;exact mu
 have hb:∀b,H b=none->b≠e:=λb n z=>by
  subst z;rcases he with r |r
  .exact hx b n r
  .rw[n] at r;cases r
 have hm:∀b u,H b=@K->¬ Mut (@K)->b≠x:=λb u q nm z=>by subst z;rw[q] at mu;exact nm mu
 refine⟨λb u q n _ _=>k b u (hb b n) q,λb u q n _ _=>⟨u.slots,k b u (hb b n) q⟩,λb u q n _=>by rw[bH (hx b n)];exact n,λb u q _=>?_,
  λb xs q=>by rw[bH (hm b _ q λz=>z)];exact q,λb u xs q=>by rw[bH (hm b _ q λz=>z)];exact q,λb ps q=>by rw[bH (hm b _ q λz=>z)];exact q,λb ps q=>by rw[bH (hm b _ q λz=>z)];exact q⟩
 by_cases YI:b=e
 .subst YI;exact Ti
 .exact⟨u,k b u YI q⟩
end
noncomputable def trk(h:Heap)(H:Hp):@ay:=(eV h.objs.size).filter λa=>(H a).isSome
def EA(h:Heap)(H:Hp):Heap:=dU h (trk h H)
theorem N1(h)(H):(EA h H).objs.size=h.objs.size:=PySem.W.hideAll_size _ _
theorem RE{h:Heap}{H:Hp}{b:Addr}{o:Obj}(e:@ap=@g)(n:H b=none):(EA h H).get? b=@g :=
 dw _ e λhm=>by
  have q:(H b).isSome=true:=(List.mem_filter.mp hm).2;rw[n] at q;simp at q
theorem U8(e:(EA h H).get? b=@g):@ap=@g/\H b=none:=by
 have e':@ap=@g:=lg (trk h H) e;refine⟨e',?_⟩;cases q:H b with
 |none=>rfl
 |some x=>
  have hm:b∈trk h H:=List.mem_filter.mpr ⟨List.mem_range.mpr (aO e'),by simp[q]⟩;have z:(EA h H).get? b=none:=vW (trk h H) hm;rw[z] at e;cases e
noncomputable def uM(g h:Heap)(L:Addr):@t:=(eV h.objs.size).filterMap λa=>if a=L\/(g.get? a).isSome=true then none else(@ak).map λo=>(a,o)
theorem yR(h1:a≠L)(h2:g.get? a=none)(h3:@ak=@g):(a,o)∈uM g h L :=
 List.mem_filterMap.mpr ⟨a,List.mem_range.mpr (aO h3),by simp[h1,h2,h3]⟩
theorem AW(hp:p∈uM g h L):p.1≠L/\g.get? p.1=none/\h.get? p.1=some p.2:=by
 obtain⟨b,_,e⟩:=List.mem_filterMap.mp hp;split at e
 .cases e
 .rename_i hn;cases q:@ap with
  |none=>rw[q] at e;simp at e
  |some u=>
   rw[q] at e;simp only[pU,MR] at e;subst e;refine⟨λz=>hn (.inl z),?_,q⟩;show g.get? b=none;cases r:g.get? b with
   |none=>rfl
   |some v=>exact(hn (.inr (by simp[r]))).elim
def rest(g h:Heap)(L d:Addr):@t:=(uM g h L).filter λp=>decide (p.1≠d)
theorem GD:News g L h (uM g h L):=λp hp=>let ⟨a,b,c⟩:=AW hp;⟨c,a,b⟩
structure Mod(K:aq)(mg:@aK)(base:Heap):Prop where
 Wt:K.In base
 glob:base.Ns bK mg
 blt:∃mb,base.Ns builtinsNs mb/\∀x:Str,x≠"__name__"->mb x=df x
 nolimit:base.NoLimit
structure Cx where
 prog:bC
 w:World
 K:aq
 mg:@aK
 base:Heap
 A:cH
 N:@y
 ji:ay
 OD:Hp
 env:Env
 outer:@aG
 stack:@aG
 ex:@ay
 fn:Str->Bool
 calm:Bool
 pn:@t
 xe:@C
noncomputable def ow(l:@aG):@ay:=l.filterMap (·.frame)
abbrev Cx.fs(X:Cx):@ay:=ow X.outer
def Vis(sc:Scope)(x:Str):Prop:=@bo=@aH\/@bo=@aL\/@bo=some .free
def Loc(sc:Scope)(x:Str):Prop:=@bo=@aH\/@bo=@aL
def Look(env:Env)(h:Heap)(m:@aK)(x:Str)(u:Value):Prop :=
 (env.kindOf x=@aH/\m x=@K)\/((env.kindOf x=@aL\/env.kindOf x=some .free)/\∃c,env.cells.lookup x=some c/\h.IsCell c (@K))
structure Cx.Ok(X:Cx):Prop where
 mod:Mod X.K X.mg X.base
 kind:X.env.scope.kind=.function
 glob:X.env.globals=bK
 blt:X.env.builtins=builtinsNs
 above:X.ji.heap.objs.size<=X.env.locals
 inj:∀x y c,@bg->X.env.cells.lookup y=some c->x=y
 has:∀x,(X.env.kindOf x=@aL\/X.env.kindOf x=some .free)->∃c,@bg
 ZD:∀x c,X.fn x=true->@bg->X.ji.heap.objs.size<=c
 hd:@aI->X.A.handled=none
 frames:X.A.frames=some X.stack
 ZZ:X.stack=X.outer\/(X.stack=X.env::X.outer/\X.env.frame=some X.env.locals)
 exf:∀b∈X.ex,@bh/\∀x c,@bg->c≠b
 bs:∀b o,X.base.get? b=@g->@bp=@g/\X.OD b=none
 Sv:X.base.objs.size<=X.ji.heap.objs.size
 JR:∀b o,X.base.get? b=@g->b∉X.ex
 Oe:∀b∈X.ex,b∉X.fs
 yg:X.ji.heap.FunFrames X.base X.outer
 Tn:∀b∈X.fs,X.OD b=none
structure Inv(X:Cx)(pins:@t)(σ:List (Option V))(H:Hp)(s:ay):Prop where
 ok:X.Ok
 os:s.os=X.ji.os
 bare:Ab s.gens
 base:Un X.fs X.ex X.OD H X.ji.heap s.heap
 loc:∃m,s.heap.Ns X.env.locals m/\∀(i:Nat) (x:Str) (v:V),X.N[i]?=some x->σ[i]?=some (@Y)->Vis X.env.scope x->∃u,RelV v u/\Look X.env s.heap m x u
 cell:∀x c,@bg->∃v,s.heap.IsCell c v
 free:H X.env.locals=none
 jP:∀x c,@bg->H c=none
 pin:∀p∈X.pn++pins,s.heap.get? p.1=some p.2/\H p.1=none/\p.1≠X.env.locals/\p.1∉X.fs/\∀v,p.2.data≠.cell v
 bP:oD X.prog X.w H s.heap
 len:σ.length=X.N.length
section
variable {X:Cx} {pins:@t} {σ:List (Option V)} {H H':Hp} {s:ay} {h':Heap}
theorem Cx.Ok.adx(ok:X.Ok)(e:X.base.get? b=@g):b∉X.fs:=λhb=>by
 have:=(ok.yg.mem hb).1;rw[e] at this;cases this
theorem Inv.bs(I:@m):∀b o,X.base.get? b=@g->@T/\H b=none:=λb o e=>
 ⟨I.base.keep b o (I.ok.bs b o e).1 (I.ok.bs b o e).2 (I.ok.adx e) (I.ok.JR b o e),I.base.free b o (I.ok.bs b o e).1 (I.ok.bs b o e).2 (I.ok.JR b o e)⟩
theorem Inv.bk(I:@m):∀b o,X.base.get? b=@g->@T:=λb o e=>(I.bs b o e).1
theorem Inv.mod(I:@m):Mod X.K X.mg X.base:=I.ok.mod
theorem Inv.zG(I:@m):X.K.In s.heap:=I.ok.mod.Wt.keeps I.bk
theorem Inv.fr(I:@m):∃m,Fr X.base X.env.locals s.heap m :=
 let ⟨m,hn,_⟩:=I.loc
 ⟨m,hn,I.bk,bh I.ok.Sv I.ok.above⟩
theorem Inv.lt(I:@m):X.env.locals<s.heap.objs.size:=let ⟨_,hn,_⟩:=I.loc;hn.lt
theorem Inv.sz(I:@m):X.ji.heap.objs.size<=s.heap.objs.size:=bh I.ok.above (xR I.lt)
theorem Inv.adw(I:@m)(h:s.heap.objs.size<=a):a∉X.fs:=λhb=>by
 obtain⟨_,o,ho,_⟩:=I.ok.yg.mem hb;exact absurd (bu (aO ho) (bh I.sz h)) (ie _)
theorem Inv.VM(I:@m):∀x c,@bg->c≠X.env.locals:=λx c e z=>by
 obtain⟨v,o,ho,hd⟩:=I.cell x c e;obtain⟨m,⟨o',es,ep,Dj,Cb,_⟩,_⟩:=I.loc;rw[z,Dj] at ho;cases ho;rw[Cb] at hd;cases hd
theorem Inv.yg(I:@m):s.heap.FunFrames X.base X.outer:=by
 have all:∀(l:@aG),(∀b∈ow l,b∈X.fs)->X.ji.heap.FunFrames X.base l->s.heap.FunFrames X.base l:=by
  intro l;induction l with
  |nil=>intro _ _;trivial
  |cons env r ih=>
   intro hs hl;obtain⟨hk,⟨L,o,hf,hn,ho,hd⟩,hr⟩:=hl;have hL:L∈X.fs:=hs L (by unfold ow;rw[zu,hf];exact cw);obtain⟨sl,e⟩:=I.base.slot L o ho (I.ok.Tn L hL) hL λz=>I.ok.Oe L z hL;exact⟨hk,⟨L,_,hf,hn,e,hd⟩,ih (λb hb=>hs b (by unfold ow;rw[zu,hf];exact aI _ hb)) hr⟩
 exact all X.outer (λ_ hb=>hb) I.ok.yg
theorem Inv.stack(I:@m):s.heap.FunFrames X.base X.stack:=by
 rcases I.ok.ZZ with e |⟨e,hf⟩
 .rw[e];exact I.yg
 .rw[e];obtain⟨m,hn,_⟩:=I.loc;refine .cons (by rw[I.ok.kind];decide) hf hn ?_ I.yg;exact TG (bh I.ok.Sv I.ok.above)
theorem Inv.Jt(I:@m):∀b∈@aJ,b∈X.env.locals::X.fs:=λb hb=>by
 rcases I.ok.ZZ with e |⟨e,hf⟩
 .rw[e] at hb;exact aI _ hb
 .rw[e] at hb;unfold ow at hb;rw[zu,hf] at hb;exact hb
theorem Inv.zy(I:@m):∀b∈@aJ,H b=none:=λb hb=>by
 rcases List.mem_cons.mp (I.Jt b hb) with e |hb
 .rw[e];exact I.free
 .obtain⟨_,o,ho,_⟩:=I.ok.yg.mem hb;exact I.base.free b o ho (I.ok.Tn b hb) λz=>I.ok.Oe b z hb
theorem Inv.step{ch:@ay}(I:@m)
  (Tj:∀b∈ch,(b∈X.ex\/X.ji.heap.objs.size<=b)/\@bh/\(∀x c,@bg->c≠b)/\∀p∈X.pn++pins,p.1≠b)
  (keep:∀b o,@bh->b∉X.fs->b∉ch->@T->H b=none->@ag=@g)
  (slot:∀b o,@bh->b∈X.fs->b∉ch->@T->H b=none->∃sl,@ag=some {o with slots:=sl}) (free:∀b o,b∉ch->@T->H b=none->H' b=none)
  (there:∀b o,b∉ch->@T->∃o',@ag=some o')
  (rS:∀b xs,H b=some (.tup xs)->H' b=some (.tup xs)) (qY:∀b o u,H b=some (.i9 o u)->H' b=some (.i9 o u)) (vv:∀b q,H b=some (.TR q)->H' b=some (.TR q)) (vB:∀b x,H b=some (.own x)->H' b=some (.own x))
  (ns:∀m,s.heap.Ns X.env.locals m->h'.Ns X.env.locals m) (bP:oD X.prog X.w H' h') (hg:Ab g'):
  Inv X pins σ H' {s with heap:=h',gens:=g',drawn:=d',toks:=t'}:=by
 have neL:∀b o,@bp=@g->@bh:=λb o e=>br (bu (aO e) I.ok.above);have neC:∀b o,@bp=@g->b∉X.ex->b∉ch:=λb o e hx hb=>by
  rcases(Tj b hb).1 with z |z
  .exact hx z
  .exact absurd (bu (aO e) z) (ie _)
 have cellK:∀x c,@bg->∀v,s.heap.IsCell c v->h'.IsCell c v:=λx c e v ⟨o,ho,hd⟩=>by
  have nch:c∉ch:=λz=>(Tj c z).2.2.1 x c e rfl;by_cases hc:c∈X.fs
  .obtain⟨sl,q⟩:=slot c o (I.VM x c e) hc nch ho (I.jP x c e);exact⟨_,q,hd⟩
  .exact⟨o,keep c o (I.VM x c e) hc nch ho (I.jP x c e),hd⟩
 refine⟨I.ok,I.os,hg,⟨λb o e n hb hx=>?_,λb o e n hb hx=>?_,λb o e n hx=>?_,λb o e hx=>?_,λb xs e=>rS b xs (I.base.rS b xs e),λb o xs e=>qY b o xs (I.base.qY b o xs e),λb ps e=>?_,λb x e=>vB b x (I.base.vB b x e)⟩,?_,λx c e=>?_,?_,λx c e=>?_,λp hp=>?_,bP,I.len⟩
 .exact keep b o (neL b o e) hb (neC b o e hx) (I.base.keep b o e n hb hx) (I.base.free b o e n hx)
 .obtain⟨sl,e1⟩:=I.base.slot b o e n hb hx;obtain⟨sl',e2⟩:=slot b _ (neL b o e) hb (neC b o e hx) e1 (I.base.free b o e n hx);exact⟨sl',e2⟩
 .obtain⟨o',e1⟩:=I.base.there b o e hx;exact free b o' (neC b o e hx) e1 (I.base.free b o e n hx)
 .obtain⟨o',e1⟩:=I.base.there b o e hx;exact there b o' (neC b o e hx) e1
 .exact vv b _ (I.base.vv b ps e)
 .obtain⟨m,hn,hl⟩:=I.loc;refine⟨m,ns m hn,λi x v e1 e2 e3=>?_⟩;obtain⟨u,r,l⟩:=hl i x v e1 e2 e3;refine⟨u,r,?_⟩;rcases l with l |⟨k,c,e,z⟩
  .exact .inl l
  .exact .inr ⟨k,c,e,cellK x c e _ z⟩
 .obtain⟨v,z⟩:=I.cell x c e;exact⟨v,cellK x c e v z⟩
 .obtain⟨m,⟨o,_,_,ho,_⟩,_⟩:=I.loc;exact free _ o (λz=>(Tj _ z).2.1 rfl) ho I.free
 .obtain⟨v,o,ho,hd⟩:=I.cell x c e;exact free c o (λz=>(Tj c z).2.2.1 x c e rfl) ho (I.jP x c e)
 .obtain⟨e,n,ne,nf,d⟩:=I.pin p hp;have nch:p.1∉ch:=λz=>(Tj p.1 z).2.2.2 p hp rfl;exact⟨keep p.1 p.2 ne nf nch e n,free p.1 p.2 nch e n,ne,nf,d⟩
theorem Inv.un(I:@m)(u:Un X.fs [] H H' s.heap h')(bP:oD X.prog X.w H' h'):Inv X pins σ H' {s with heap:=h',toks:=t'}:=by
 obtain⟨m,⟨o,es,ep,ho,r⟩,_⟩:=id I.loc;obtain⟨sl,hL⟩:=u.any ho I.free @i;exact I.step (g':=s.gens) (d':=s.drawn) (ch:=[]) (λ_ z=>nomatch z) (λb o _ hb _ e n=>u.keep b o e n hb @i) (λb o _ hb _ e n=>u.slot b o e n hb @i) (λb o _ e n=>u.free b o e n @i) (λb o _ e=>u.there b o e @i) u.rS u.qY u.vv u.vB (λm' hm=>by
  obtain⟨o',es',ep',Dj,r'⟩:=hm;rw[ho] at Dj;cases Dj;exact⟨_,es',ep',hL,r'⟩) bP I.bare
theorem Inv.call(I:@m)(u:Un (@aJ) ch H H' s.heap h')(bP:oD X.prog X.w H' h')(hg:Ab g')
  (Tj:∀b∈ch,(b∈X.ex\/X.ji.heap.objs.size<=b)/\@bh/\(∀x c,@bg->c≠b)/\∀p∈X.pn++pins,p.1≠b):
  Inv X pins σ H' {s with heap:=h',gens:=g',drawn:=d',toks:=t'}:=by
 obtain⟨m,⟨o,es,ep,ho,r⟩,_⟩:=id I.loc;obtain⟨sl,hL⟩:=u.any ho I.free λz=>(Tj _ z).2.1 rfl;exact I.step (ch:=ch) Tj (λb o hL hb hc e n=>u.keep b o e n (λz=>(List.mem_cons.mp (I.Jt b z)).elim hL hb) hc) (λb o _ _ hc e n=>u.any e n hc) (λb o hc e n=>u.free b o e n hc) (λb o hc e=>u.there b o e hc) u.rS u.qY u.vv u.vB (λm' hm=>by
  obtain⟨o',es',ep',Dj,r'⟩:=hm;rw[ho] at Dj;cases Dj;exact⟨_,es',ep',hL,r'⟩) bP hg
theorem Inv.turned(I:@m)(k:∀b o,b≠it->@T->@ag=@g)(hn:H it=none)(hL:it≠X.env.locals)
  (h1:it∈X.ex\/X.ji.heap.objs.size<=it) (h2:∀x c,@bg->c≠it) (h3:∀p∈X.pn++pins,p.1≠it):Inv X pins σ H {s with heap:=h',toks:=t'}:=by
 have nit:∀b u,H b=@K->b≠it:=λb u e z=>by rw[z,hn] at e;cases e
 refine I.step (g':=s.gens) (d':=s.drawn) (ch:=[it]) (λb hb=>?_) (λb o _ _ hc e _=>k b o (λz=>hc (by simp[z])) e) (λb o _ _ hc e _=>⟨o.slots,k b o (λz=>hc (by simp[z])) e⟩) (λ_ _ _ _ n=>n)
  (λb o hc e=>⟨o,k b o (λz=>hc (by simp[z])) e⟩) (λ_ _ e=>e) (λ_ _ _ e=>e) (λ_ _ e=>e) (λ_ _ e=>e) (λm hm=>?_) (λb u e=>?_) I.bare
 .have e:b=it:=@bf
  subst e;exact⟨h1,hL,h2,h3⟩
 .obtain⟨o,es,ep,ho,r⟩:=hm;exact⟨o,es,ep,k _ o (dD hL) ho,r⟩
 .refine(I.bP b u e).jj (λc v hc q=>k c v ?_ q) (λ_ q=>q) λ_ _ q=>q;rcases hc with z |z
  .rw[z];exact nit b u e
  .exact nit c _ z
theorem Inv.tok(I:@m)(t):Inv X pins σ H {s with toks:=t}:=I.un (h':=s.heap) (t':=t) Un.refl I.bP
theorem Inv.kept(I:@m)(k:∀b u,@a2=@K->@ag=@K):Inv X pins σ H {s with heap:=h',toks:=t'}:=I.un (Un.kept k) (I.bP.kept k)
theorem Inv.laid(I:@m)(k:∀b u,@a2=@K->@ag=@K)(hp:s.heap.objs.size<=a)(new:fQ X.prog X.w (upd H a o) h' a o):
  Inv X pins σ (upd H a o) {s with heap:=h',toks:=t'}:=I.un (Un.laid k hp (I.bP.fresh hp)) (I.bP.laid k hp new)
theorem Inv.write(I:@m)(mu:Mut (H x))(he:e=x\/H e=some (.own x))(k:∀b u,b≠e->@a2=@K->@ag=@K)(Ti:∃u,h'.get? e=@K)
  (new:fQ X.prog X.w (upd H x o) h' x o):Inv X pins σ (upd H x o) {s with heap:=h',toks:=t'}:=I.un (Un.write mu he k Ti) (I.bP.write mu he k Ti new)
theorem Inv.Lz(I:@m)(h:∀p∈Wf,s.heap.get? p.1=some p.2/\H p.1=none/\p.1≠X.env.locals/\p.1∉X.fs/\∀v,p.2.data≠.cell v):Inv X Wf σ H s :=
 ⟨I.ok,I.os,I.bare,I.base,I.loc,I.cell,I.free,I.jP,λp hp=>(List.mem_append.mp hp).elim (λz=>I.pin p (dI _ z)) (h p),I.bP,I.len⟩
theorem A1{N:@y}(hN:N.Nodup){j:Nat}(a:N[i]?=some x)(b:N[j]?=some x):i=j:=by
 obtain⟨h1,e1⟩:=List.getElem?_eq_some_iff.mp a;obtain⟨h2,e2⟩:=List.getElem?_eq_some_iff.mp b;exact(List.getElem_inj hN).mp (e1.trans e2.symm)
theorem xW{M:Model}{A:cH}{E:@C}{i:Nat}{x:Str}{v:V}{u:Value}{Q:Unit->@X}(I:@m)(hN:X.N.Nodup)(hi:X.N[i]?=some x)(hx:Loc X.env.scope x)(r:RelV v u)
  (h:∀s',Inv X pins (σ.set i (@Y)) H s'->(∃a,fI a s.heap s'.heap/\(a=X.env.locals\/X.env.cells.lookup x=some a))->Q () s') (hf:autoParam (X.fn x=true\/@bs=@aH) Ao._auto_1):wpAny M A (storeName X.env x u) Q E s:=by
 obtain⟨m,hn,hl⟩:=id I.loc;have Cu:(X.env.scope.kind == .class||(X.env.scope.kind == .module&&X.env.locals != X.env.globals))=false:=by rw[I.ok.kind];rfl
 have aa1:i<σ.length:=by rw[I.len];exact(List.getElem?_eq_some_iff.mp hi).1
 have VM:=I.VM;have tracked:∀{a:Addr} {h':Heap},(∃o,s.heap.get? a=@g/\H a=none)->fI a s.heap h'->oD X.prog X.w H h':=λ{a h'} ha hs b ob e=>by
  obtain⟨_,_,rJ⟩:=ha;refine(I.bP b ob e).jj (λc w' hc q=>(hs.2 c ?_).trans q) (λ_ q=>q) λ_ _ q=>q;rintro rfl;rcases hc with rfl |hc
  .rw[rJ] at e;cases e
  .rw[rJ] at hc;cases hc
 rcases hx with hk |hk
 .refine wpAny_storeName_local hk hn (λh' hn' hs=>?_) Cu;obtain⟨oL,_,_,hoL,_⟩:=id hn;refine h _ ⟨I.ok,I.os,I.bare,⟨λb o e n hb hx=>?_,λb o e n hb hx=>?_,I.base.free,λb o e hx=>?_,I.base.rS,I.base.qY,I.base.vv,I.base.vB⟩,⟨_,hn',λj y v' e1 e2 e3=>?_⟩,λy c e=>?_,I.free,I.jP,λp hp=>?_,tracked ⟨oL,hoL,I.free⟩ hs,by simpa using I.len⟩ ⟨_,hs,@W⟩
  .exact(hs.2 b (br (bu (aO e) I.ok.above))).trans (I.base.keep b o e n hb hx)
  .obtain⟨sl,e1⟩:=I.base.slot b o e n hb hx;exact⟨sl,(hs.2 b (br (bu (aO e) I.ok.above))).trans e1⟩
  .obtain⟨o',e1⟩:=I.base.there b o e hx;exact⟨o',(hs.2 b (br (bu (aO e) I.ok.above))).trans e1⟩
  .by_cases hj:j=i
   .subst hj;rw[hi] at e1;cases e1;rw[dn aa1] at e2;cases e2;exact⟨u,r,.inl ⟨hk,@G⟩⟩
   .rw[dq (dD hj)] at e2;obtain⟨u',r',q⟩:=hl j y v' e1 e2 e3;refine⟨u',r',?_⟩;rcases q with ⟨k,e⟩ |⟨k,c,e,z⟩
    .refine .inl ⟨k,?_⟩;have:y≠x:=λe=>hj (A1 hN e1 (e ▸ hi));simp[this,e]
    .exact .inr ⟨k,c,e,z.sameBut hs (VM y c e)⟩
  .obtain⟨w',z⟩:=I.cell y c e;exact⟨w',z.sameBut hs (VM y c e)⟩
  .obtain⟨e,n,ne,nf,d⟩:=I.pin p hp;exact⟨(hs.2 p.1 ne).trans e,n,ne,nf,d⟩
 .have hfn:X.fn x=true:=by
   rcases hf with z |z
   .exact z
   .rw[z] at hk;cases hk
  obtain⟨c,hc⟩:=I.ok.has x (.inl hk);obtain⟨w',z⟩:=I.cell x c hc;refine wpAny_storeName_cell I.ok.kind hk hc z (λh' L7 hs=>?_);obtain⟨oc,Tf,aea⟩:=id z;refine h @an ⟨I.ok,I.os,I.bare,⟨λb o e n hb hx=>?_,λb o e n hb hx=>?_,I.base.free,λb o e hx=>?_,I.base.rS,I.base.qY,I.base.vv,I.base.vB⟩,⟨m,hn.sameBut hs (dD (VM x c hc)),λj y v' e1 e2 e3=>?_⟩,λy c' e=>?_,I.free,I.jP,λp hp=>?_,tracked ⟨oc,Tf,I.jP x c hc⟩ hs,by simpa using I.len⟩ ⟨c,hs,.inr hc⟩
  .exact(hs.2 b (br (bu (aO e) (I.ok.ZD x c hfn hc)))).trans (I.base.keep b o e n hb hx)
  .obtain⟨sl,e1⟩:=I.base.slot b o e n hb hx;exact⟨sl,(hs.2 b (br (bu (aO e) (I.ok.ZD x c hfn hc)))).trans e1⟩
  .obtain⟨o',e1⟩:=I.base.there b o e hx;exact⟨o',(hs.2 b (br (bu (aO e) (I.ok.ZD x c hfn hc)))).trans e1⟩
  .by_cases hj:j=i
   .subst hj;rw[hi] at e1;cases e1;rw[dn aa1] at e2;cases e2;exact⟨u,r,.inr ⟨.inl hk,c,hc,L7⟩⟩
   .rw[dq (dD hj)] at e2;obtain⟨u',r',q⟩:=hl j y v' e1 e2 e3;refine⟨u',r',?_⟩;rcases q with q |⟨k,c',e,z'⟩
    .exact .inl q
    .refine .inr ⟨k,c',e,z'.sameBut hs ?_⟩;rintro rfl;exact hj (A1 hN e1 (I.ok.inj _ _ _ e hc ▸ hi))
  .by_cases hcc:c'=c
   .subst hcc;exact⟨_,L7⟩
   .obtain⟨w2,z2⟩:=I.cell y c' e;exact⟨w2,z2.sameBut hs hcc⟩
  .obtain⟨e,n,ne,nf,d⟩:=I.pin p hp;refine⟨(hs.2 p.1 ?_).trans e,n,ne,nf,d⟩;intro q;rw[q,Tf] at e;have q':oc=p.2:=aX e;exact d w' (by rw[<-q'];exact aea)
theorem FY{M:Model}{A:cH}{E:@C}{i:Nat}{x:Str}{v:V}{u:Value}{Q:Unit->@X}(I:@m)(hN:X.N.Nodup)(hi:X.N[i]?=some x)(hx:Loc X.env.scope x)(r:RelV v u)
  (h:∀s',Inv X pins (σ.set i (@Y)) H s'->Q () s') (hf:autoParam (X.fn x=true\/@bs=@aH) Ao._auto_1):wpAny M A (storeName X.env x u) Q E s :=
 xW I hN hi hx r (λs' I' _=>h s' I') hf
theorem Inv.Sm(I:@m)(ho:s'.os=s.os)(u:Un (@aJ) ch H H' s.heap s'.heap)(bP:oD X.prog X.w H' s'.heap)(hg:Ab s'.gens)
  (Tj:∀b∈ch,(b∈X.ex\/X.ji.heap.objs.size<=b)/\@bh/\(∀x c,@bg->c≠b)/\∀p∈X.pn++pins,p.1≠b):Inv X pins σ H' s':=by
 obtain⟨h',g',d',t',o'⟩:=s';have e:o'=s.os:=ho;subst e;exact I.call (g':=g') (t':=t') (d':=d') u bP hg Tj
end
abbrev XK:=Value->Option Addr->Hp->Prop
abbrev St:=List (Option V)
abbrev VK:=V->Hp->Prop
abbrev TE:=St->Hp->VK->Prop
abbrev TT:=St->Hp->(Bool->Hp->Prop)->Prop
abbrev TA:=St->Hp->(@w->Hp->Prop)->Prop
structure Ends where
 nx:St->Hp->Prop
 rt:VK
 bk:St->Hp->Prop:=@j
 ct:St->Hp->Prop:=@j
abbrev TS:=Ends->St->Hp->Prop
def EP(X:Cx)(pins:@t)(σ:St)(Q:VK)(u:Value)(s':ay):Prop:=∃v H',Inv X pins σ H' s'/\RelV v u/\Q v H'
def TP(X:Cx)(pins:@t)(σ:St)(Q:Bool->Hp->Prop)(b:Bool)(s':ay):Prop:=∃H',Inv X pins σ H' s'/\Q b H'
def SP(X:Cx)(pins:@t)(D:Ends)(f:Flow)(s':ay):Prop :=
 match f with
 |.next=>∃kh H',Inv X pins kh H' s'/\D.nx kh H'
 |.brk=>∃kh H',Inv X pins kh H' s'/\D.bk kh H'
 |.cont=>∃kh H',Inv X pins kh H' s'/\D.ct kh H'
 |.ret u=>∃v kh H',Inv X pins kh H' s'/\RelV v u/\D.rt v H'
def PE(X:Cx)(e:Expr)(t:TE):Prop :=
 ∀(pins:@t) (s:ay) (σ:St) (H:Hp) (Q:VK),@m->t σ H Q->wpAny @o X.A (eval e X.env) (EP X pins σ Q) X.xe s
def ZI(X:Cx)(st:List Stmt)(t:TS):Prop :=
 ∀(pins:@t) (s:ay) (σ:St) (H:Hp) (D:Ends),@m->t D σ H->wpAny @o X.A (execs st X.env) (SP X pins D) X.xe s
theorem gQ(h:wpAny M A t Q E s)(hQ:∀a s,Q a s->Q' a s):wpAny M A t Q' E s:=gP h hQ λ_ _ x=>x
section
variable {X:Cx}
def ac2(i:Nat):TE:=λσ H Q=>∃v,σ[i]?=some (@Y)/\Q v H
def tC(v:V):TE:=λ_ H Q=>Q v H
theorem XH    (hN:X.N[i]?=some x) (hv:Vis X.env.scope x) (hd:@a1) (L6:autoParam ((x == ("__classdict__":Str))=false) Ad._auto_1):PE X (.Name x pos) (ac2 i):=by
 intro pins s σ H Q I h;obtain⟨v,e,h⟩:=h;obtain⟨m,hn,hl⟩:=I.loc;obtain⟨u,r,l⟩:=hl i x v hN e hv;have fin:EP X pins σ Q u s:=⟨v,H,I,r,h⟩;rcases l with ⟨hk,hm⟩ |⟨hk,c,hc,rK⟩
 .exact wpAny_Name (wpAny_loadName_local I.ok.kind hk hn hm fin) hd
 .rcases hk with hk |hk
  .exact wpAny_Name (wpAny_loadName_cell I.ok.kind hk hc rK fin) hd
  .exact wpAny_Name (wpAny_loadName_free I.ok.kind hk hc rK fin L6) hd
theorem XJ{i j pos}:PE X (.Constant (@A) j pos) (tC (@A)):=λ_ _ _ H _ I h=>wpAny_Constant_int ⟨@A,H,@ao,@I,h⟩
theorem aai{b j pos}:PE X (.Constant (.bool b) j pos) (tC (.bl b)):=λ_ _ _ H _ I h=>Constant_bool ⟨.bl b,H,I,rfl,h⟩
theorem XI{x j pos}:PE X (.Constant (.str x) j pos) (tC (.str x)):=λ_ _ _ H _ I h=>Calls.Constant_str ⟨.str x,H,@ao,@I,h⟩
def Gl(X:Cx)(x:Str):Prop:=X.env.kindOf x=some .globalImplicit
theorem oS{E:@C}{pins:@t}{s:ay}{σ:St}{H:Hp}{x:Str}{u:Value}{pos:Pos}{Q:@C}(I:@m)(hg:Gl X x)(hm:X.mg x=@K)(h:Q u s)
  (hd:@a1):wpAny @o X.A (eval (.Name x pos) X.env) Q E s :=
 II I.ok.kind hg (Calls.loadGlobal_global (by rw[I.ok.glob];exact I.mod.glob.keeps I.bk) hm h) hd
theorem lz{E:@C}{pins:@t}{s:ay}{σ:St}{H:Hp}{x:Str}{u:Value}{pos:Pos}{Q:@C}(I:@m)(hg:Gl X x)(hm:X.mg x=none)(hv:df x=@K)(h:Q u s)
  (hn:autoParam (x≠"__name__") Ad._auto_1) (hd:@a1):wpAny @o X.A (eval (.Name x pos) X.env) Q E s:=by
 obtain⟨mb,h1,h2⟩:=I.mod.blt;exact II I.ok.kind hg (Calls.loadGlobal_builtin (by rw[I.ok.glob];exact I.mod.glob.keeps I.bk) hm (by rw[I.ok.blt];exact h1.keeps I.bk) ((h2 x hn).trans hv) h) hd
theorem UB     (hg:Gl X x) (hm:X.mg x=@K) (r:RelV v u) (hd:@a1):PE X (.Name x pos) (tC v) :=
 λ_ _ _ H _ I h=>oS I hg hm ⟨v,H,I,r,h⟩ hd
variable {a b:Expr} {ta tb:TE} {pos:Pos}
def tB(t:TE):TT:=λσ H Q=>t σ H λx H1=>∃c,x=.bl c/\Q c H1
variable {tA tB':TT} {rest:@az}
end
def qB(K:aq)(H:Hp)(a:Addr)(xs:@w):Prop :=
 Rd H a (.lst xs) \/
  ∃(o:Obj) (bT:@a6) (n:Nat),K.lookup a=@g/\o.cls=@Q/\o.dict=none/\o.data=.seq bT n/\bT.size<=bc/\Vals xs bT.toList
def zO(K:aq)(H:Hp)(a:Addr)(xs:@w):Prop :=
 Rd H a (.tup xs) \/
  ∃(o:Obj) (bT:@a6) (n:Nat),K.lookup a=@g/\o.cls=@ad/\o.data=.seq bT n/\bT.size<=bc/\Vals xs bT.toList
noncomputable def ae6:Value->Option V
 |.none=>some .eX
 |.bool b=>some (.bl b)
 |.int i _=>some (@A)
 |.str x _=>some (.str x)
 |.bytes b _=>some (.Y8 b)
 |.float b _=>some (.flt b)
 |.ref a=>some @r
 |.type n=>some (.ty n)
 |_=>none
theorem RelV.abs(r:RelV x u):ae6 u=some x:=by
 cases x with
 |eX=>cases r;rfl
 |bl _=>cases r;rfl
 |int _=>obtain⟨t,rfl⟩:=r;rfl
 |str _=>obtain⟨t,rfl⟩:=r;rfl
 |Y8 _=>obtain⟨t,rfl⟩:=r;rfl
 |flt _=>obtain⟨t,rfl⟩:=r;rfl
 |ref _=>cases r;rfl
 |ty _=>cases r;rfl
theorem RelV.inj(r:RelV x u)(q:RelV y u):x=y:=aX (r.abs.symm.trans q.abs)
theorem Vals.inj:∀{xs ys:@w} {us:@s},Vals xs us->Vals ys us->xs=ys:=by
 intro xs ys us h;induction h generalizing ys with
 |nil=>intro k;cases k;rfl
 |cons r t ih=>
  intro k;cases k with
  |cons r' t'=>rw[r.inj r',ih t']
section
variable {X:Cx} {pins:@t} {σ:St} {H:Hp} {s:ay} {a:Addr} {xs ys:@w}
theorem qB.of{K:aq}(h:H a=some (.lst xs)):qB K H a xs:=.inl (.inl h)
theorem zO.of{K:aq}(h:H a=some (.tup xs)):zO K H a xs:=.inl (.inl h)
theorem Inv.list(I:@m)(h:qB X.K H a xs):∃bT:@s,Vals xs bT/\PlainL s.heap a bT.toArray/\xs.length<=bc:=by
 rcases h with h |⟨o,bT,n,hk,hc,hd,hs,hz,r⟩
 .obtain⟨z,bT,n,r,e⟩:=h.ok I.bP;exact⟨bT,r,⟨_,n,e,rfl,rfl,rfl⟩,z⟩
 .refine⟨bT.toList,r,⟨o,n,I.zG a o hk,hc,hd,by simpa using hs⟩,?_⟩;have e:=r.length;simp only[cT] at e;lia
theorem Inv.tuple(I:@m)(h:zO X.K H a xs):∃bT:@s,Vals xs bT/\IsTup s.heap a bT.toArray/\xs.length<=bc:=by
 rcases h with h |⟨o,bT,n,hk,hc,hs,hz,r⟩
 .obtain⟨z,bT,r,p⟩:=h.ok I.bP;exact⟨bT,r,p,z⟩
 .refine⟨bT.toList,r,⟨o,I.zG a o hk,hc,n,by simpa using hs⟩,?_⟩;have e:=r.length;simp only[cT] at e;lia
theorem Inv.wR(I:@m)(h:qB X.K H a xs)(h':qB X.K H a ys):xs=ys:=by
 obtain⟨bT,r,⟨o,n,e,_,_,d⟩,_⟩:=I.list h;obtain⟨its',r',⟨o',n',e',_,_,d'⟩,_⟩:=I.list h';rw[e] at e';cases e';rw[d] at d';injection d' with d1 _
 have:bT=its':=by simpa using congrArg Array.toList d1
 subst this;exact r.inj r'
theorem Inv.MW(I:@m)(h:zO X.K H a xs)(h':zO X.K H a ys):xs=ys:=by
 obtain⟨bT,r,⟨o,e,_,n,d⟩,_⟩:=I.tuple h;obtain⟨its',r',⟨o',e',_,n',d'⟩,_⟩:=I.tuple h';rw[e] at e';cases e';rw[d] at d';injection d' with d1 _
 have:bT=its':=by simpa using congrArg Array.toList d1
 subst this;exact r.inj r'
end
noncomputable abbrev Cx.vt(X:Cx)(E:@C):Cx:={X with xe:=E}
abbrev Cx.X8(X:Cx):Cx:=X.vt @j
theorem Cx.Ok.vt{X:Cx}(ok:X.Ok)(E):(X.vt E).Ok :=
 ⟨ok.mod,ok.kind,ok.glob,ok.blt,ok.above,ok.inj,ok.has,ok.ZD,ok.hd,ok.frames,ok.ZZ,ok.exf,ok.bs,ok.Sv,ok.JR,ok.Oe,ok.yg,ok.Tn⟩
theorem Cx.Ok.qK{X:Cx}(ok:(X.vt E).Ok):X.Ok :=
 ⟨ok.mod,ok.kind,ok.glob,ok.blt,ok.above,ok.inj,ok.has,ok.ZD,ok.hd,ok.frames,ok.ZZ,ok.exf,ok.bs,ok.Sv,ok.JR,ok.Oe,ok.yg,ok.Tn⟩
section
variable {X:Cx} {pins:@t} {σ:St} {H:Hp} {s:ay} {E:@C}
theorem Inv.vt(I:@m)(E):Inv (X.vt E) pins σ H s:=⟨I.ok.vt E,I.os,I.bare,I.base,I.loc,I.cell,I.free,I.jP,I.pin,I.bP,I.len⟩
theorem Inv.qK(I:Inv (X.vt E) pins σ H s):@m:=⟨I.ok.qK,I.os,I.bare,I.base,I.loc,I.cell,I.free,I.jP,I.pin,I.bP,I.len⟩
theorem SP.qK(h:SP (X.vt E) pins D f s'):SP X pins D f s':=by
 cases f with
 |next=>obtain⟨kh,H',I,q⟩:=h;exact⟨kh,H',I.qK,q⟩
 |brk=>obtain⟨kh,H',I,q⟩:=h;exact⟨kh,H',I.qK,q⟩
 |cont=>obtain⟨kh,H',I,q⟩:=h;exact⟨kh,H',I.qK,q⟩
 |ret u=>obtain⟨v,kh,H',I,r,q⟩:=h;exact⟨v,kh,H',I.qK,r,q⟩
theorem ZI.X8{st:List Stmt}(h:ZI X.X8 st t):ZI X st t:=λpins s σ H D I hw=>
 gP (h pins s σ H D (I.vt _) hw) (λ_ _ q=>q.qK) λ_ _ z=>bI z
end
section
variable {X:Cx} {st:Stmt} {rest:List Stmt} {t u:TS} {e:Expr} {te:TE} {pos:Pos}
theorem Inv.quiet(I:@m):interactive X.env=false:=by simp[interactive,I.ok.kind]
end
abbrev afa:=V->V->V->Hp->(Hp->Prop)->Prop
def afc(X:Cx)(t:afa):Prop :=
 ∀(pins:@t) (s:ay) (σ:St) (H:Hp) (o i v:V) (ov iv u:Value) (Q:Hp->Prop),@m->RelV o ov->RelV i iv->RelV v u->t o i v H Q ->
  wpAny @o X.A (setItem ov iv u) (λ_ s'=>∃H',Inv X pins σ H' s'/\Q H') X.xe s
structure It where
 go:Nat->Hp->Prop
 yld:Nat->Hp->V->Hp->Prop
 stop:Nat->Hp->Prop
def lE(X:Cx)(pins:@t)(H:Hp)(b:Addr):Prop :=
 H b=none/\@bh/\b∉X.fs/\(b∈X.ex\/X.ji.heap.objs.size<=b)/\(∀x c,@bg->c≠b)/\∀p∈X.pn++pins,p.1≠b
theorem Inv.Bp{X:Cx}{pins:@t}{σ:St}{H H':Hp}{s:ay}{b:Addr}(I:@m)(hb:s.heap.objs.size<=b)(hn:H' b=none):lE X pins H' b:=by
 refine⟨hn,oz (bu I.lt hb),I.adw hb,.inr (bh I.sz hb),λx c e z=>?_,λp hp z=>?_⟩
 .obtain⟨v,q⟩:=I.cell x c e;exact absurd (bu q.lt (by rw[z];exact hb)) (ie _)
 .exact absurd (bu (aO (I.pin p hp).1) (by rw[z];exact hb)) (ie _)
structure Turn(P:bC)(w:World)(K:aq)(tg:Expr)(J:It)(fp:@ay)(it:Addr)(tn:Nat->Heap->Prop):Prop where
 mem:it∈fp
 obj:∀i h,tn i h->∀b∈fp,∃o,@ap=@g/\∀v,o.data≠.cell v
 keep:∀i h h',tn i h->(∀b∈fp,∀o,@ap=@g->@ag=@g)->tn i h'
 item:∀(X:Cx),X.prog=P->X.w=w->X.K=K->@aI->∀(i:Nat) (pins:@t) (s:ay) (σ:St) (H:Hp) (E:@C),@m->(∀b∈fp,lE X pins H b)->tn i s.heap->J.go i H ->
  wpAny (model P w) X.A (sk (.ref it)) (λr s1=>∃u,r=@K /\
   wpAny (model P w) X.A (zV tg (.ref it) u) (λ_ s2=>∃x H',Inv X pins σ H' s2/\RelV x u/\J.yld i H x H'/\tn (i+1) s2.heap/\∀b∈fp,H' b=none) E s1) E s
 done:∀(X:Cx),X.prog=P->X.w=w->X.K=K->@aI->∀(i:Nat) (pins:@t) (s:ay) (σ:St) (H:Hp) (E:@C),@m->(∀b∈fp,lE X pins H b)->tn i s.heap->J.stop i H ->
  wpAny (model P w) X.A (sk (.ref it)) (λr s1=>r=none/\Inv X pins σ H s1) E s
 self:∀(A:cH) (i:Nat) (s:ay) (Q:@C) (E:@C),tn i s.heap->Q (.ref it) s->wpAny (model P w) A (KZ (.ref it)) Q E s
abbrev TI:=St->Hp->(It->Hp->Prop)->Prop
def PIE(X:Cx)(pins:@t)(σ:St)(tg:Expr)(R:It->Hp->Prop)(Wv:Value)(s2:ay):Prop :=
 ∃(it:Addr) (fp:@ay) (tn:Nat->Heap->Prop) (J:It) (H':Hp),Wv=.ref it/\Inv X pins σ H' s2/\Turn X.prog X.w X.K tg J fp it tn/\tn 0 s2.heap/\(∀b∈fp,lE X pins H' b)/\R J H'
theorem Ma{M:Model}{A:cH}{E:@C}{s:ay}{tg:Expr}{it:Addr}{u:Value}{o:Obj}{n:String}{vs:@a6}{Q:Unit->@X}(ho:s.heap.get? it=@g)(hc:o.cls=.type n)(hd:o.data=.fields vs)
    (hn:["enumerate","zip","dict_itemiterator","dict_reverseitemiterator","odict_iterator","itertools.zip_longest","itertools.pairwise"].contains n=false) (hQ:Q () s):wpAny M A (zV tg (.ref it) u) Q E s:=by
  unfold zV;cases tg<;>first
    |exact az hQ
    |(cases u<;>first
        |exact az hQ
        | (refine ag (wpAny_load ho ?_)
           rw[hc,hd];show wpAny M A (if(["enumerate","zip","dict_itemiterator","dict_reverseitemiterator","odict_iterator","itertools.zip_longest","itertools.pairwise"].contains n&&vs[0]? == some (si _))=true then _ else _) Q E s;rw[if_neg (by intro h;rw[hn,zh] at h;cases h)];exact az hQ))
noncomputable def Itl(K:aq)(a:Addr):It :=
 ⟨λi H=>∃xs x,qB K H a xs/\xs[i]?=some x,λi H x H'=>H'=H/\∀xs,qB K H a xs->xs[i]?=some x,λi H=>∃xs,qB K H a xs/\xs.length<=i⟩
noncomputable def Itt(K:aq)(a:Addr):It :=
 ⟨λi H=>∃xs x,zO K H a xs/\xs[i]?=some x,λi H x H'=>H'=H/\∀xs,zO K H a xs->xs[i]?=some x,λi H=>∃xs,zO K H a xs/\xs.length<=i⟩
noncomputable def Itr(lo:Int)(n:Nat):It:=⟨λi _=>i<n,λi H x H'=>H'=H/\x=.int (lo+i),λi _=>n<=i⟩
theorem MU{K:aq}(a it):Turn P w K tg (Itl K a) [it] it (λi h=>h.IsListIter it a i) where
 mem:=@G
 obj:=λi h st b hb=>by
  have e:b=it:=@bf
  subst e;obtain⟨o,e,c,d⟩:=st;exact⟨o,e,λv z=>by rw[d] at z;cases z⟩
 keep:=λi h h' st k=>st.at λo e=>k it @i o e
 item:=by
  ext i;subst hP hw hK;obtain⟨xs,x,hq,hx⟩:=hg;obtain⟨bT,rv,p,hz⟩:=I.list hq;obtain⟨u,hu,ru⟩:=rv.get hx;obtain⟨f0,f1,f2,f3,f4,f5⟩:=hf it @i;refine wpAny_pyNext_list_item st p.isList (x:=u) (by simpa using hu) λh' Fp sb=>?_;have I1:Inv X pins σ H @an:=I.turned (t':=s.toks) (λb o hb e=>(sb.2 b hb).trans e) f0 f1 f3 f4 f5;obtain⟨o,e,c,d⟩:=id Fp;exact⟨u,rfl,Ma (s:=@an) e c d (@d) ⟨x,H,I1,ru,⟨rfl,λys hy=>by rw[I.wR hy hq];exact hx⟩,Fp,λb hb=>(hf b hb).1⟩⟩
 done:=by
  ext i;subst hP hw hK;obtain⟨xs,hq,hx⟩:=hg;obtain⟨bT,rv,p,hz⟩:=I.list hq;obtain⟨f0,f1,f2,f3,f4,f5⟩:=hf it @i;have hl:=rv.length;exact wpAny_pyNext_list_end (I.ok.hd hc) st p.isList (by simp;lia) λh' eb=>⟨rfl,I.turned (t':=s.toks) (λb o hb e=>eb b o hb e) f0 f1 f3 f4 f5⟩
 self:=λ_ _ _ _ _ st h=>wpAny_pyIter_listiter st h
theorem Jp{K:aq}(a it):Turn P w K tg (Itt K a) [it] it (λi h=>h.IsTupleIter it a i) where
 mem:=@G
 obj:=λi h st b hb=>by
  have e:b=it:=@bf
  subst e;obtain⟨o,e,c,d⟩:=st;exact⟨o,e,λv z=>by rw[d] at z;cases z⟩
 keep:=λi h h' st k=>st.at λo e=>k it @i o e
 item:=by
  ext i;subst hP hw hK;obtain⟨xs,x,hq,hx⟩:=hg;obtain⟨bT,rv,p,hz⟩:=I.tuple hq;obtain⟨u,hu,ru⟩:=rv.get hx;obtain⟨f0,f1,f2,f3,f4,f5⟩:=hf it @i;refine wpAny_pyNext_tuple_item st (show s.heap.IsTuple a bT.toArray from p) (x:=u) (by simpa using hu) λh' Fp sb=>?_;have I1:Inv X pins σ H @an:=I.turned (t':=s.toks) (λb o hb e=>(sb.2 b hb).trans e) f0 f1 f3 f4 f5;obtain⟨o,e,c,d⟩:=id Fp;exact⟨u,rfl,Ma (s:=@an) e c d (@d) ⟨x,H,I1,ru,⟨rfl,λys hy=>by rw[I.MW hy hq];exact hx⟩,Fp,λb hb=>(hf b hb).1⟩⟩
 done:=by
  ext i;subst hP hw hK;obtain⟨xs,hq,hx⟩:=hg;obtain⟨bT,rv,p,hz⟩:=I.tuple hq;obtain⟨f0,f1,f2,f3,f4,f5⟩:=hf it @i;have hl:=rv.length;exact wpAny_pyNext_tuple_end (I.ok.hd hc) st (show s.heap.IsTuple a bT.toArray from p) (by simp;lia) λh' eb=>⟨rfl,I.turned (t':=s.toks) (λb o hb e=>eb b o hb e) f0 f1 f3 f4 f5⟩
 self:=λ_ _ _ _ _ st h=>wpAny_pyIter_tupleiter st h
theorem Jq{K:aq}(it)(lo)(n):Turn P w K tg (Itr lo n) [it] it (λi h=>IsRangeIter h it (lo+(i:Nat)*1) ((n:Int)-(i:Nat)) 1) where
 mem:=@G
 obj:=λi h st b hb=>by
  have e:b=it:=@bf
  subst e;exact⟨_,st,λv z=>by
   have z':Data.fields _=Data.cell v:=z;cases z'⟩
 keep:=λi h h' st k=>k it @i _ st
 item:=by
  ext i;subst hP hw hK;obtain⟨f0,f1,f2,f3,f4,f5⟩:=hf it @i;have W:=Walks.range (prog:=X.prog) (w:=X.w) (I.ok.hd hc) it lo 1 n;refine W.item i s _ _ hg st λv h' tk hv Fp kk=>?_;obtain⟨t,rfl⟩:=hv;have I1:Inv X pins σ H {s with heap:=h',toks:=tk}:=I.turned (λb o hb e=>kk b o (@bf) e) f0 f1 f3 f4 f5;refine⟨_,rfl,Ma (s:={s with heap:=h',toks:=tk}) (n:="range_iterator") Fp rfl rfl (@d) ⟨.int (lo+i),H,I1,⟨t,?_⟩,@aS,Fp,λb hb=>(hf b hb).1⟩⟩;rw[Int.mul_one]
 done:=by
  ext i;subst hP hw hK;obtain⟨f0,f1,f2,f3,f4,f5⟩:=hf it @i;exact wpAny_pyNext_range_end (I.ok.hd hc) st (by have:n<=i:=hg;lia) λh' eb=>⟨rfl,I.turned (t':=s.toks) (λb o hb e=>eb b o hb e) f0 f1 f3 f4 f5⟩
 self:=λ_ _ _ _ _ st h=>wpAny_pyIter_rangeiter st h
section
variable {X:Cx} {tg:Expr}
theorem PM{pins:@t}{σ:St}{H:Hp}{s:ay}{R:It->Hp->Prop}{E:@C}{lo hi:Int}{t u v:Tok}{tk:Nat}(I:@m)(h1:-(2 ^ 62)<=lo)(h2:lo<2 ^ 62)(h3:-(2 ^ 62)<=hi)(h4:hi<2 ^ 62)
  (q:R (Itr lo (hi-lo).toNat) H):wpAny @o X.A (KZ (@as)) (PIE X pins σ tg R) E {s with heap:=s.heap.push {cls:=.type "range",data:=.fields #[.int lo t,.int hi u,.int 1 v]},toks:=tk}:=by
 refine wpAny_pyIter_range (IsRange.new ..) (small_one h1 h2 h3 h4) ?_;have I1:Inv X pins σ H {s with heap:=s.heap.push {cls:=.type "range",data:=.fields #[.int lo t,.int hi u,.int 1 v]},toks:=tk}:=I.kept λb o e=>aF _ e
 refine⟨(s.heap.push {cls:=.type "range",data:=.fields #[.int lo t,.int hi u,.int 1 v]}).objs.size,[(s.heap.push {cls:=.type "range",data:=.fields #[.int lo t,.int hi u,.int 1 v]}).objs.size],_,_,H,rfl,
  I1.kept (t':=tk) λb o e=>aF _ e,Jq _ lo (hi-lo).toNat,?_,λb hb=>?_,q⟩
 .have e1:lo+((0:Nat):Int)*1=lo:=@G
  have e2:(((hi-lo).toNat:Nat):Int)-((0:Nat):Int)=Builtin.Range.rangeSize lo hi 1:=by rw[rangeSize_one];split<;>lia
  show IsRangeIter _ _ (lo+((0:Nat):Int)*1) ((((hi-lo).toNat:Nat):Int)-((0:Nat):Int)) 1;rw[e1,e2];exact @au
 .have e:b=(s.heap.push {cls:=.type "range",data:=.fields #[.int lo t,.int hi u,.int 1 v]}).objs.size:=@bf
  subst e;exact I1.Bp @D (I1.bP.fresh @D)
noncomputable def tj(fp:@ay)(h:Heap):@t:=fp.filterMap λb=>(@ap).map λo=>(b,o)
theorem qR(hb:b∈fp)(e:@ap=@g):(b,o)∈tj fp h:=List.mem_filterMap.mpr ⟨b,hb,by rw[e];rfl⟩
theorem Nx(hp:p∈tj fp h):p.1∈fp/\h.get? p.1=some p.2:=by
 obtain⟨b,hb,e⟩:=List.mem_filterMap.mp hp;cases q:@ap with
 |none=>rw[q] at e;cases e
 |some o=>
  rw[q] at e;have e':(b,o)=p:=aX e;subst e';exact⟨hb,q⟩
theorem Inv.pinned(I:@m)(hf:∀b∈fp,lE X pins H b)(ho:∀b∈fp,∃o,@T/\∀v,o.data≠.cell v):Inv X (pins++tj fp s.heap) σ H s :=
 I.Lz λp hp=>(List.mem_append.mp hp).elim (λz=>I.pin p (cK _ z)) λz=>by
  obtain⟨hb,e⟩:=Nx z;obtain⟨f0,f1,f2,_⟩:=hf p.1 hb;obtain⟨o,e',d⟩:=ho p.1 hb;rw[e] at e';cases e';exact⟨e,f0,f1,f2,d⟩
theorem Inv.v3(I:Inv X (pins++pl) σ H s):@m:=I.Lz λp hp=>I.pin p (cK _ (dI _ hp))
end
abbrev R2:=V->V->Hp->VK->Prop
def MC(X:Cx)(f:Value->Value->Sem Value)(r:R2):Prop :=
 ∀(pins:@t) (s:ay) (σ:St) (H:Hp) (x y:V) (v u:Value) (Q:VK),@m->RelV x v->RelV y u->r x y H Q ->
  wpAny @o X.A (f v u) (EP X pins σ Q) X.xe s
def UnR(X:Cx)(f:Value->Sem Value)(r:V->Hp->VK->Prop):Prop :=
 ∀(pins:@t) (s:ay) (σ:St) (H:Hp) (x:V) (v:Value) (Q:VK),@m->RelV x v->r x H Q ->
  wpAny @o X.A (f v) (EP X pins σ Q) X.xe s
def SW(X:Cx)(f:Value)(r:@w->Hp->VK->Prop):Prop :=
 ∀(pins:@t) (s:ay) (σ:St) (H:Hp) (xs:@w) (us:@s) (Q:VK),@m->Vals xs us->r xs H Q ->
  wpAny @o X.A (call f us) (EP X pins σ Q) X.xe s
def ae9(X:Cx)(r:V->Hp->(Bool->Hp->Prop)->Prop):Prop :=
 ∀(pins:@t) (s:ay) (σ:St) (H:Hp) (x:V) (v:Value) (Q:Bool->Hp->Prop),@m->RelV x v->r x H Q ->
  wpAny @o X.A (truthy v) (TP X pins σ Q) X.xe s
def rI(C:Int->Int->Prop)(g:Int->Int->V):R2:=λx y H Q=>∃i j,x=@A/\y=.int j/\C i j/\Q (g i j) H
def Zp(g:Int->Int->V):R2:=λx y H Q=>∃i j,x=@A/\y=.int j/\Q (g i j) H
def rU(g:Int->V):V->Hp->VK->Prop:=λx H Q=>∃i,x=@A/\Q (g i) H
section
variable {X:Cx} {a b c:Expr} {ta tb tc:TE} {pos:Pos}
theorem opI{f:Value->Value->Sem Value}{C:Int->Int->Prop}{g:Int->Int->Int}
  (rule:∀(i j:Int) (t u:Tok) (s:ay) (Q:@C) (E:@C),C i j->Q (.int (g i j) s.toks) {s with toks:=s.toks+1}->wpAny @o X.A (f (.int i t) (.int j u)) Q E s):
  MC X f (rI C λi j=>.int (g i j)):=by
 intro pins s σ H x y v u Q I rx ry h;obtain⟨i,j,rfl,rfl,hc,q⟩:=h;obtain⟨t,rfl⟩:=rx;obtain⟨t',rfl⟩:=ry;exact rule i j t t' s _ _ hc ⟨.int (g i j),H,@ao,@I,q⟩
theorem aan{f:Value->Value->Sem Value}{g:Int->Int->Int}
  (rule:∀(i j:Int) (t u:Tok) (s:ay) (Q:@C) (E:@C),Q (.int (g i j) s.toks) {s with toks:=s.toks+1}->wpAny @o X.A (f (.int i t) (.int j u)) Q E s):
  MC X f (Zp λi j=>.int (g i j)):=by
 intro pins s σ H x y v u Q I rx ry h;obtain⟨i,j,rfl,rfl,q⟩:=h;obtain⟨t,rfl⟩:=rx;obtain⟨t',rfl⟩:=ry;exact rule i j t t' s _ _ ⟨.int (g i j),H,@ao,@I,q⟩
theorem aao{f:Value->Value->Sem Value}{g:Int->Int->Bool}
  (rule:∀(i j:Int) (t u:Tok) (s:ay) (Q:@C) (E:@C),Q (.bool (g i j)) s->wpAny @o X.A (f (.int i t) (.int j u)) Q E s):
  MC X f (Zp λi j=>.bl (g i j)):=by
 intro pins s σ H x y v u Q I rx ry h;obtain⟨i,j,rfl,rfl,q⟩:=h;obtain⟨t,rfl⟩:=rx;obtain⟨t',rfl⟩:=ry;exact rule i j t t' s _ _ ⟨.bl (g i j),H,I,rfl,q⟩
def afn(i j:Int):Prop:=0<j/\j<1073741824
def Zj(i j:Int):Prop:=(-(2 ^ 64)<i/\i<2 ^ 64)\/(-(2 ^ 64)<j/\j<2 ^ 64)
theorem Zj.ok(h:Zj i j):IntMulOk i j:=by
 rcases h with ⟨h1,h2⟩ |⟨h1,h2⟩
 .exact .of_left (intBits_le_64 h1 h2)
 .exact .of_right (intBits_le_64 h1 h2)
theorem X3:MC X (jS .Add) (Zp λi j=>.int (i+j)):=aan λ_ _ _ _ _ _ _ q=>add_int q
theorem XZ:MC X (jS .Sub) (Zp λi j=>.int (i-j)):=aan λ_ _ _ _ _ _ _ q=>sub_int q
theorem X0:MC X (jS .Mult) (rI Zj λi j=>.int (i*j)):=opI λ_ _ _ _ _ _ _ hc q=>mul_int q hc.ok
theorem UW:MC X (jS .FloorDiv) (rI afn λi j=>.int (i / j)):=opI λi j _ _ _ _ _ hc q=>by
 have h1:(0:Int)<j:=hc.1;have h2:j<1073741824:=hc.2;exact floordiv_int @c (by rw[Int.fdiv_eq_ediv_of_nonneg i @c];exact q) (.inl (PyProof.noPylong_small @c))
theorem X1:MC X (jS .Mod) (rI (λ_ j=>0<j) λi j=>.int (i % j)):=opI λi j _ _ _ _ _ hc q=>by
 have h1:(0:Int)<j:=hc;exact mod_int' @c (by rw[Int.fmod_eq_emod_of_nonneg i @c];exact q)
theorem unI{f:Value->Sem Value}{g:Int->Int}
  (rule:∀(i:Int) (t:Tok) (s:ay) (Q:@C) (E:@C),Q (.int (g i) s.toks) {s with toks:=s.toks+1}->wpAny @o X.A (f (.int i t)) Q E s):
  UnR X f (rU λi=>.int (g i)):=by
 intro pins s σ H x v Q I rx h;obtain⟨i,rfl,q⟩:=h;obtain⟨t,rfl⟩:=rx;exact rule i t s _ _ ⟨.int (g i),H,@ao,@I,q⟩
theorem W7:UnR X (unaryOp .USub) (rU λi=>.int (-i)):=unI λ_ _ _ _ _ q=>neg_int q
end
section
variable {X:Cx} {a b c:Expr} {ta tb tc:TE} {pos:Pos}
theorem aal:MC X (cS .Lt) (Zp λi j=>.bl (decide (i<j))):=aao λ_ _ _ _ _ _ _ q=>lt_int q
theorem aam:MC X (cS .Gt) (Zp λi j=>.bl (decide (j<i))):=aao λ_ _ _ _ _ _ _ q=>gt_int q
theorem QB(b)(h:autoParam (op≠.In) Ad._auto_1)(h2:autoParam (op≠.NotIn) Ad._auto_1):behindInMarks op b=false:=by
 have e1:(op == CmpOp.In)=false:=by cases op<;>first |rfl |exact absurd rfl h
 have e2:(op == CmpOp.NotIn)=false:=by cases op<;>first |rfl |exact absurd rfl h2
 cases b with
 |Set es k _=>
  show(k == 0&&(op == .In||op == .NotIn)&&es.all (constantsAlone 8))=false;rw[e1,e2,Bool.or_false,La,zh]
 |_=>rfl
def Zf(K:aq)(x:V)(H:Hp)(k:Bool):Prop :=
 match x with
 |.eX=>k=false
 |.bl b=>k=b
 |.int i=>k=(i != 0)
 |.str y=>y.length<=bc/\k=((y.length:Int) != 0)
 |.Y8 y=>y.size<=bc/\k=((y.size:Int) != 0)
 |.ref p=>(∃xs,qB K H p xs/\k=!xs.isEmpty)\/(∃xs,zO K H p xs/\k=!xs.isEmpty)\/∃kvs,H p=some (.dK kvs)/\k=!kvs.isEmpty
 |_=>False
theorem J8(r:KV kvs vs):(!vs.isEmpty)=!kvs.isEmpty:=by
 cases r<;>rfl
theorem Bh(r:Vals xs bT):(!bT.toArray.isEmpty)=!xs.isEmpty:=by
 cases r<;>simp
theorem Ba:(bc:Nat)<2 ^ 63:=by rw[cX];decide
theorem Xa:ae9 X (λx H Q=>∃k,Zf X.K x H k/\Q k H):=by
 intro pins s σ H x v Q I rx h;obtain⟨k,e,q⟩:=h;have hl:=Ba;have hs:bc=16777216:=cX;cases x with
 |eX=>
  cases rx;have e':k=false:=e;subst e';exact truthy_none ⟨H,I,q⟩
 |bl b=>
  cases rx;have e':k=b:=e;subst e';exact jt ⟨H,I,q⟩
 |int i=>
  obtain⟨t,rfl⟩:=rx;have e':k=(i != 0):=e;subst e';exact PySem.P.truthy_int ⟨H,I,q⟩
 |str y=>
  obtain⟨t,rfl⟩:=rx;obtain⟨hy,e'⟩:y.length<=bc/\k=((y.length:Int) != 0):=e;subst e';exact PySem.P.truthy_str @c ⟨H,@ao,q⟩
 |Y8 y=>
  obtain⟨t,rfl⟩:=rx;obtain⟨hy,e'⟩:y.size<=bc/\k=((y.size:Int) != 0):=e;subst e';exact PySem.W.truthy_bytes @c ⟨H,@ao,q⟩
 |ref p=>
  cases rx;have e':(∃xs,qB X.K H p xs/\k=!xs.isEmpty)\/(∃xs,zO X.K H p xs/\k=!xs.isEmpty)\/∃kvs,H p=some (.dK kvs)/\k=!kvs.isEmpty:=e;rcases e' with ⟨xs,hx,e'⟩ |⟨xs,hx,e'⟩ |⟨kvs,hx,e'⟩
  .subst e';obtain⟨bT,r,pl,hz⟩:=I.list hx;have hlen:=r.length;exact wpAny_truthy_list pl.isList (by simp only[bp];lia) ⟨H,@ao,by rw[Bh r];exact q⟩
  .subst e';obtain⟨bT,r,pl,hz⟩:=I.tuple hx;have hlen:=r.length;exact truthy_tuple pl (by simp only[bp];lia) ⟨H,@ao,by rw[Bh r];exact q⟩
  .subst e';obtain⟨hz,hS,vs,r,m⟩:kvs.length<=bc/\(p == cu)=false/\∃vs,KV kvs vs/\s.heap.DictOf (@bb) p vs:=I.bP p _ hx;have hlen:kvs.length=vs.length:=gz r;exact IV hS m @c ⟨H,@ao,by rw[J8 r];exact q⟩
 |_=>exact(show False from e).elim
theorem JO:MC X (jS .Add) (λx y H Q=>∃i j,x=.str i/\y=.str j/\i.length+j.length<=bc/\Q (.str (i++j)) H):=by
 intro pins s σ H x y v u Q I rx ry h;obtain⟨i,j,rfl,rfl,hz,q⟩:=h;obtain⟨t,rfl⟩:=rx;obtain⟨t',rfl⟩:=ry;exact add_str (λt' tk=>⟨.str (i++j),H,@ao,@I,q⟩) hz
theorem vals1(r:Vals [x] us):∃u,us=[u]/\RelV x u:=by
 cases r with
 |cons r1 r2=>cases r2;exact⟨_,rfl,r1⟩
theorem vals2(r:Vals [x,y] us):∃u w',us=[u,w']/\RelV x u/\RelV y w':=by
 cases r with
 |cons r1 r2=>
  cases r2 with
  |cons r3 r4=>cases r4;exact⟨_,_,rfl,r1,r3⟩
def abS(K:aq)(x:V)(H:Hp)(n:Nat):Prop :=
 match x with
 |.str y=>y.length<=bc/\n=y.length
 |.Y8 y=>y.size<=bc/\n=y.size
 |.ref p=>(∃xs,qB K H p xs/\n=xs.length)\/∃xs,zO K H p xs/\n=xs.length
 |_=>False
theorem Sl:SW X (.builtin "len") (λxs H Q=>∃x n,xs=[x]/\abS X.K x H n/\Q (.int n) H):=by
 intro pins s σ H xs us Q I r h;obtain⟨x,n,rfl,e,q⟩:=h;obtain⟨u,rfl,rx⟩:=vals1 r;have hl:=Ba;have hs:bc=16777216:=cX;cases x with
 |str y=>
  obtain⟨t,rfl⟩:=rx;obtain⟨hy,e'⟩:y.length<=bc/\n=y.length:=e;subst e';exact len_str @c ⟨@P,H,@ao,@I,q⟩
 |Y8 y=>
  obtain⟨t,rfl⟩:=rx;obtain⟨hy,e'⟩:y.size<=bc/\n=y.size:=e;subst e';exact PySem.W.len_bytes @c ⟨@P,H,@ao,@I,q⟩
 |ref p=>
  cases rx;have e':(∃xs,qB X.K H p xs/\n=xs.length)\/∃xs,zO X.K H p xs/\n=xs.length:=e;rcases e' with ⟨xs,hx,e'⟩ |⟨xs,hx,e'⟩
  .subst e';obtain⟨bT,r',pl,hz⟩:=I.list hx;have hlen:=r'.length;exact Calls.call_len_list pl.isList (by simp only[bp];lia) ⟨.int xs.length,H,@ao,⟨_,by simp only[bp];rw[hlen]⟩,q⟩
  .subst e';obtain⟨bT,r',pl,hz⟩:=I.tuple hx;have hlen:=r'.length;exact len_tuple pl (by simp only[bp];lia) ⟨.int xs.length,H,@ao,⟨_,by simp only[bp];rw[hlen]⟩,q⟩
 |_=>exact(show False from e).elim
end
theorem xw.some_of(r:xw (@Y) o):∃u,o=@K/\RelV v u:=by
 cases o with
 |none=>exact(show False from r).elim
 |some u=>exact⟨u,rfl,r⟩
structure j4(k:Nat)(A:cH):Prop where
 hd:A.handled=none
 dp:A.depth+3*k+5<recursionLimit
 un:A.units+16*k+200<cLine
theorem j4.mono(r:j4 k A)(h:j<=k):j4 j A:=⟨r.hd,by have:=r.dp;lia,by have:=r.un;lia⟩
theorem j4.deeper(r:j4 (k+1) A)(env):j4 k (A.deeper env) :=
 ⟨r.hd,by have:=r.dp;show A.depth+1+3*k+5<_;lia,by have:=r.un;show A.units+3+16*k+200<_;lia⟩
theorem j4.depth(r:j4 k A):A.depth<recursionLimit:=by have:=r.dp;lia
theorem j4.units(r:j4 k A):A.units+64<cLine:=by have:=r.un;lia
theorem j4.Jo(r:j4 k A):A.units<cLine:=by have:=r.un;lia
abbrev Sp:=@w->Hp->VK->XK->Prop
abbrev MI:=@aG->Hp->ay->XK->@C
structure SV(P:bC)(w:World)(K:aq)(mg:@aK)(base:Heap)(A:cH)(outer:@aG)(s:ay)(H:Hp):Prop where
 frames:A.frames=some outer
 mod:Mod K mg base
 bs:∀b o,base.get? b=@g->@T/\H b=none
 Sv:base.objs.size<=s.heap.objs.size
 yg:s.heap.FunFrames base outer
 Tn:∀b∈ow outer,H b=none
 bP:oD P w H s.heap
 bare:Ab s.gens
def CE(outer:@aG)(P:bC)(w:World)(H:Hp)(s:ay)(Q:VK)(u:Value)(s':ay):Prop :=
 ∃v H',s'.os=s.os/\Ab s'.gens/\Un (ow outer) [] H H' s.heap s'.heap/\oD P w H' s'.heap/\RelV v u/\Q v H'
def CR(CX:MI)(outer:@aG)(P:bC)(w:World)(H:Hp)(s:ay)(Q:VK)(E:XK)(r:Result)(s':ay):Prop :=
 match r with
 |.ok (.ret u)=>CE outer P w H s Q u s'
 |.ok _=>False
 |.error e=>CX outer H s E e s'
structure rX(P:bC)(w:World)(K:aq)(mg:@aK)(base:Heap)(CX:MI)(k:Nat)(f:Addr)(fd:fV)(ps:@y)(sp:Sp):Prop where
 len:∀vs H Q E,sp vs H Q E->vs.length=ps.length
 run:∀(A:cH) (outer:@aG) (s:ay) (H:Hp) (args:Args) (us:@s) (vs:@w) (Q:VK) (E:XK),j4 k A->SV P w K mg base A outer s H->BindsTo s fd args (ps.zip us)->Vals vs us->sp vs H Q E ->
  xM (model P w) A (.call (.ref f) args) (CR CX outer P w H s Q E) s
section
variable {X:Cx} {pins:@t} {σ:St} {H:Hp} {s s':ay}
theorem Inv.abD(I:@m):SV X.prog X.w X.K X.mg X.base X.A X.stack s H :=
 ⟨I.ok.frames,I.ok.mod,I.bs,bh I.ok.Sv I.sz,I.stack,I.zy,I.bP,I.bare⟩
theorem Inv.after(I:@m)(h:CE X.stack X.prog X.w H s Q u s'):EP X pins σ Q u s':=by
 obtain⟨v,H',os,bare,un,bP,r,q⟩:=h;obtain⟨hh,g,d,t,os'⟩:=s';obtain rfl:os'=s.os:=os;exact⟨v,H',I.call (h':=hh) (g':=g) (d':=d) (t':=t) (ch:=[]) un bP bare (λb z=>absurd z @i),r,q⟩
end
def Binds(K:aq)(fd:fV)(ps:@y)(ds:@s):Prop :=
 ∀(s:ay) (us:@s),K.In s.heap->(us++ds).length=ps.length->BindsTo s fd ⟨us,[]⟩ (ps.zip (us++ds))
theorem Binds.all{K:aq}(h:∀us:@s,us.length=ps.length->OI fd ⟨us,[]⟩=pure (ps.zip us)):Binds K fd ps []:=λs us _ hl=>by
 rw[cI] at hl ⊢;exact .of_eq (h us hl)
def Passes(CX:MI)(X:Cx)(E:XK):Prop:=∀(pins:@t) (σ:St) (H:Hp) (s:ay) (e:Value) (s':ay),@m->CX X.stack H s E e s'->X.xe e s'
section
variable {X:Cx} {CX:MI} {k:Nat} {f C:Addr} {fd:fV} {ps:@y} {sp:Sp} {dvs:@w} {ds:@s} {E:XK} {x m:Str} {p pos apos:Pos} {e o:Expr} {es:@az} {ta:TE} {t:TA}
theorem PG(F:rX X.prog X.w X.K X.mg X.base CX k f fd ps sp)(hr:j4 k X.A)(hb:Binds X.K fd ps ds)(hd:Vals dvs ds)(hx:Passes CX X E)
  (I:@m) (r:Vals vs us) (h:sp (vs++dvs) H Q E):wpAny @o X.A (call (.ref f) us) (EP X pins σ Q) X.xe s:=by
 have r2:Vals (vs++dvs) (us++ds):=r.append hd;have hl:(us++ds).length=ps.length:=by rw[<-r2.length];exact F.len _ _ _ _ h
 refine wpAny_call (zZ (F.run X.A X.stack s H ⟨us,[]⟩ (us++ds) (vs++dvs) Q E hr I.abD (hb s us I.zG hl) r2 h) λr s' hq=>?_);cases r with
 |error e=>exact hx pins σ H s e s' I hq
 |ok fl=>
  cases fl with
  |ret u=>exact I.after hq
  |next=>exact bI hq
  |brk=>exact bI hq
  |cont=>exact bI hq
end
structure kb(N P:@y)(sc:Scope):Prop where
 kind:sc.kind=.function
 co:sc.isCoroutine=false
 gen:sc.isGenerator=false
 nd:N.Nodup
 pre:N.take P.length=P
 par:∀x∈P,@bo=@aH\/@bo=@aL
 X9:∀y∈sc.names,y.2≠.free
theorem DG{kindOf:Str->Option u4}:∀{binds:List (Str×Value)} {m:@aK},(∀v,(x,v)∉binds)->bindL kindOf binds m x=m x
 |[],_,_=>rfl
 | (n,v)::r,m,h=>by
  unfold bindL;rw[DG λw hw=>h w (aI _ hw)];split
  .have:x≠n:=by rintro rfl;exact h v cw
   simp[this]
  .rfl
theorem DI{kindOf:Str->Option u4}:∀{binds:List (Str×Value)} {m:@aK},(∀v,(x,v)∉binds)->bindC kindOf binds m x=m x
 |[],_,_=>rfl
 | (n,v)::r,m,h=>by
  unfold bindC;rw[DI λw hw=>h w (aI _ hw)];split
  .rfl
  .have:x≠n:=by rintro rfl;exact h v cw
   simp[this]
theorem DH{kindOf:Str->Option u4}{x:Str}{v:Value}:∀{P:@y} {vs:@s} {i:Nat} {m:@aK},P.Nodup->P[i]?=some x->vs[i]?=@Y->kindOf x=@aH ->
  bindL kindOf (P.zip vs) m x=@Y
 |[],_,_,_,_,h,_,_=>by simp at h
 |_::_,[],_,_,_,_,h,_=>by simp at h
 |p::P,w::vs,0,m,nd,h1,h2,hk=>by
  simp at h1 h2;subst h1;subst h2;show bindL kindOf ((p,w)::P.zip vs) m p=_;unfold bindL;rw[DG λv hv=>(List.nodup_cons.mp nd).1 (IF hv).1,if_pos hk];simp
 |p::P,w::vs,i+1,m,nd,h1,h2,hk=>by
  show bindL kindOf ((p,w)::P.zip vs) m x=_;unfold bindL;exact DH (i:=i) (List.nodup_cons.mp nd).2 (by simpa using h1) (@a_) hk
theorem DJ{kindOf:Str->Option u4}{x:Str}{v:Value}:∀{P:@y} {vs:@s} {i:Nat} {m:@aK},P.Nodup->P[i]?=some x->vs[i]?=@Y->kindOf x≠@aH ->
  bindC kindOf (P.zip vs) m x=@Y
 |[],_,_,_,_,h,_,_=>by simp at h
 |_::_,[],_,_,_,_,h,_=>by simp at h
 |p::P,w::vs,0,m,nd,h1,h2,hk=>by
  simp at h1 h2;subst h1;subst h2;show bindC kindOf ((p,w)::P.zip vs) m p=_;unfold bindC;rw[DI λv hv=>(List.nodup_cons.mp nd).1 (IF hv).1,if_neg hk];simp
 |p::P,w::vs,i+1,m,nd,h1,h2,hk=>by
  show bindC kindOf ((p,w)::P.zip vs) m x=_;unfold bindC;exact DJ (i:=i) (List.nodup_cons.mp nd).2 (by simpa using h1) (@a_) hk
noncomputable def start(N:@y)(vs:@w):St:=vs.map some++aP (N.length-vs.length) none
noncomputable def xq(CX:MI)(P:bC)(w:World)(K:aq)(mg:@aK)(base:Heap)(N:@y)(qual:Str)(scope:Scope)(f:Addr)(cd:Value)(A:cH)(outer:@aG)(s:ay)(H:Hp)(E:XK):Cx where
 prog:=P
 w:=w
 K:=K
 mg:=mg
 base:=base
 A:=A.deeper (zY qual scope s.heap.objs.size f cd)
 N:=N
 ji:=s
 OD:=H
 env:=zY qual scope s.heap.objs.size f cd
 outer:=outer
 stack:=zY qual scope s.heap.objs.size f cd::outer
 ex:=[]
 calm:=true
 fn:=λ_=>true
 pn:=[]
 xe:=λe s'=>wpAny (model P w) (A.deeper (zY qual scope s.heap.objs.size f cd)) (leaving (zY qual scope s.heap.objs.size f cd) e) (λ_ Xo=>CX outer H s E e Xo) (λe' Xo=>CX outer H s E e' Xo) s'
theorem HV{sc:Scope}(h:@bo=@aL):∃c,(cellsFrom n sc.names []).lookup x=some c:=by
 have q:=K4 sc.names n [] (.inl h);exact Option.isSome_iff_exists.mp q
theorem NS{K:aq}
  (S:kb N ps scope) (hd:A.handled=none) (e0:SV P w K mg base A outer s H) (hl:vs.length=ps.length) (r:Vals vs us)
  (x:InCallC s s.heap.objs.size (bindL (zY qual scope s.heap.objs.size f cd).kindOf (ps.zip us) λ_=>none) (cellsFrom (@bq) scope.names []) (bindC (zY qual scope s.heap.objs.size f cd).kindOf (ps.zip us) λ_=>none) s1):
  Inv (xq CX P w K mg base N qual scope f cd A outer s H E) [] (start N vs) H s1:=by
 have qA:ps.length<=N.length:=by have:=congrArg cU S.pre;rw[eB] at this;lia
 obtain⟨h1,tk,rfl,hk⟩:=x.done;have noA:∀b:Addr,b∉(xq CX P w K mg base N qual scope f cd A outer s H E).ex:=λb z=>absurd (show b∈([]:@ay) from z) @i;refine⟨⟨e0.mod,S.kind,rfl,rfl,aG _,λy z c h1 h2=>?_,λy hy=>?_,λy c _ h=>?_,λ_=>hd,Around.frames_deeper e0.frames,.inr @aS,λb z=>absurd z (noA b),e0.bs,e0.Sv,λb _ _=>noA b,λb z=>absurd z (noA b),e0.yg,e0.Tn⟩,
  rfl,e0.bare,Un.kept hk,⟨_,x.toInCall.ns,λi y v h1 h2 h3=>?_⟩,λy c h=>⟨_,x.cell y c h⟩,e0.bP.fresh @D,λy c h=>?_,λp hp=>absurd (show p∈([]:@t) from hp) @i,e0.bP.kept hk,?_⟩
 .exact name_of_addr x.apart (jh h1) (jh h2)
 .have hy:scope.names.lookup y=@aL\/scope.names.lookup y=some .free:=hy;rcases hy with hy |hy
  .exact HV hy
  .exact absurd rfl (S.X9 _ (jh hy))
 .exact xR (x.above y c (jh h))
 .have hi:i<vs.length:=by
   unfold start at h2;by_cases hi:i<vs.length
   .exact hi
   .rw[cy (by simpa using hi)] at h2;rw[lZ] at h2;split at h2<;>cases h2
  have ha:vs[i]?=@Y:=by
   unfold start at h2;rw[dc (by simpa using hi),bx] at h2;cases e:vs[i]? with
   |none=>rw[e] at h2;cases h2
   |some a=>rw[e] at h2;cases h2;rfl
  obtain⟨u,hu,rv⟩:=r.get ha;have hp:ps[i]?=some y:=by
   rw[<-S.pre,List.getElem?_take_of_lt @c];exact h1
  have ndP:ps.Nodup:=by rw[<-S.pre];exact S.nd.sublist (List.take_sublist _ _)
  refine⟨u,rv,?_⟩;rcases S.par y (fD hp) with k |k
  .exact .inl ⟨k,DH ndP hp hu k⟩
  .obtain⟨c,e⟩:=HV (n:=@bq) k;refine .inr ⟨.inl k,c,e,?_⟩;have q:=x.cell y c e;rw[DJ ndP hp hu (by show scope.names.lookup y≠_;rw[k];decide)] at q;exact q
 .exact e0.bP.fresh (xR (x.above y c (jh h)))
 .unfold start;show _=N.length;rw[aB,ar,fX];lia
theorem WK{K:aq}{kV:Value}
     (lk:K.lookup f=some ⟨oc,od,.func (kY name qual params body scope dV kV doc pm an ib ct),LD⟩) (L6:FJ K ib qual=true) (S:kb N ps scope)
  (len:∀vs H Q E,sp vs H Q E->vs.length=ps.length)
  (RJ:∀(A:cH) (outer:@aG) (s:ay) (H:Hp) (vs:@w) (Q:VK) (E:XK),j4 k (A.deeper (zY qual scope s.heap.objs.size f ib))->sp vs H Q E ->
   ∃t,ZI (xq CX P w K mg base N qual scope f ib A outer s H E) body t/\t {nx:=λ_ H'=>Q .eX H',rt:=Q} (start N vs) H):
  rX P w K mg base CX (k+1) f (kY name qual params body scope dV kV doc pm an ib ct) ps sp:=by
 refine⟨len,λA outer s H args us vs Q E hr e0 hb r Rq=>?_⟩;have hl:=len _ _ _ _ Rq;have KX:K.In s.heap:=e0.mod.Wt.keeps λb o e=>(e0.bs b o e).1;have lim:s.heap.NoLimit:=e0.mod.nolimit.keeps λb o e=>(e0.bs b o e).1;have Dk:∀y∈ps.zip us,scope.names.lookup y.1=@aH\/(scope.names.lookup y.1=@aL/\((cellsFrom (@bq) scope.names []).lookup y.1).isSome=true):=λ⟨n,v⟩ hy=>by
  rcases S.par n (IF hy).1 with q |q
  .exact .inl q
  .exact .inr ⟨q,K4 _ _ _ (.inl q)⟩
 refine codeAny_call_function hr.depth (KX _ _ lk) rfl S.co S.gen rfl (PySem.W.codeRec_of KX L6) (hb _ _ _ _ ?_);refine wpAny_newFunctionEnv_cells S.kind Dk λenv he s1 x=>?_;subst he;refine⟨lim.keeps x.toInCall.keep,codeAny_func ?_⟩;obtain⟨t,ht,hq⟩:=RJ A outer s H vs Q E (hr.deeper _) Rq;have I:Inv (xq CX P w K mg base N qual scope f ib A outer s H E) [] (start N vs) H s1:=NS S hr.hd e0 hl r x;refine gP (ht [] s1 (start N vs) H _ I hq) (λfl s' hs=>?_) λe s' hs=>hs;have fin:∀{kh:St} {H':Hp} {v:V} {u:Value},Inv (xq CX P w K mg base N qual scope f ib A outer s H E) [] kh H' s'->RelV v u->Q v H'->CE outer P w H s Q u s' :=
  λ{kh H' v u} J rv q=>⟨v,H',J.os,J.bare,J.base,J.bP,rv,q⟩
 cases fl with
 |ret u=>
  obtain⟨v,kh,H',J,rv,q⟩:=hs;exact fin J rv q
 |next=>
  obtain⟨kh,H',J,q⟩:=hs;exact fin (v:=V.eX) (u:=dG) J rfl q
 |brk=>
  obtain⟨_,_,_,q⟩:=hs;exact bI q
 |cont=>
  obtain⟨_,_,_,q⟩:=hs;exact bI q
end L2
namespace HT
open PySem PyProof.Rows
noncomputable def lexLt:@u->@u->Bool
 |[],[]=>false
 |[],_::_=>true
 |_::_,[]=>false
 |x::xs,y::ys=>if x=y then lexLt xs ys else decide (x<y)
theorem Bc(x y)(xs ys):lexLt (x::xs) (y::ys)=if x=y then lexLt xs ys else decide (x<y):=rfl
theorem vg:lexLt [] []=false:=rfl
theorem tE(y)(ys):lexLt [] (y::ys)=true:=rfl
theorem tF(x)(xs):lexLt (x::xs) []=false:=rfl
theorem HC(A)(s)(a)(t)(c)(u):∃e,SeqAt.EqAt A s (.int a t) (.int c u) e/\(e=true↔a=c) :=
 ⟨(a == c),SeqAt.EqAt.int_int a t c u,@G⟩
theorem Gk(A)(s)(a)(t)(c)(u)(prog)(w)(E)(Q)(h:Q (.bool (decide (a<c))) s):
  wpAny @J A (pE .Lt (.int a t) (.int c u)) Q E s :=
 (PyProof.Rows.lt_int h:wpAny @J A (cS .Lt (.int a t) (.int c u)) Q E s)
section
open PySem.SeqAt
open PySem.AutoSeq1 (wpAny_loadPart')
open PySem.MeetsSeq PySem.MeetsSeq2 PySem.MeetsSeq3
theorem Ci(l b)(items gZ)(n n2)(dd zJ)(sl zA)(ns ms)(hi:jT items.toList ns)(hj:jT gZ.toList ms):
  Meets (Builtin.«tuple.__lt__» ⟨[.ref l,.ref b],[]⟩)
   (λ_ R s=>s.heap.get? l=some {cls:=@ad,dict:=dd,data:=.seq items n,slots:=sl}/\@a2=some {cls:=@ad,dict:=zJ,data:=.seq gZ n2,slots:=zA} /\
    R (.ok (.ret (.bool (lexLt ns ms)))) s) :=
 .of_wp λprog w A R s h=>by
  obtain⟨hp,g,d,tk,os⟩:=s;obtain⟨hl,hb,h⟩:=h;have f2:=kK;have z1:items.size=ns.length:=by rw[<-hi.length];simp
  have z2:gZ.size=ms.length:=by rw[<-hj.length];simp
  wp_walk using bV hl,bV hb,iG _ (λrest b s'=>b.1=none/\s'=⟨hp,g,d,tk,os⟩/\∃(vs ws:@s) (Zq Zs:@u),rest=vs.zip ws /\
   jT vs Zq/\jT ws Zs/\Zq.length+gZ.size=Zs.length+items.size/\R (.ok (.ret (.bool (lexLt Zq Zs)))) ⟨hp,g,d,tk,os⟩) _
  case turn=>
   rintro⟨y,x⟩ rest b s' ⟨N7,rfl,vs,ws,Zq,Zs,hz,hvi,hwi,hlen,hR⟩;cases hvi with
   |nil=>rw[List.zip_nil_left] at hz;cases hz
   | cons a t ad1=>
    cases hwi with
    |nil=>rw[List.zip_nil_right] at hz;cases hz
    | cons c u adZ=>
     rw[rQ] at hz;injection hz with hyx Rv
     injection hyx with hy hx
     subst hy hx;rw[Bc] at hR;simp only[aj] at hlen;obtain⟨e,he,RD⟩:=HC A.in1 ⟨hp,g,d,tk,os⟩ a t c u;refine ag (he prog w _ _ ?_);cases e with
     |true=>
      rw[if_pos (RD.mp rfl)] at hR
      wp_walk
      exact⟨rfl,rfl,_,_,_,_,Rv,ad1,adZ,@f,hR⟩
     |false=>
      rw[if_neg (λq=>absurd (RD.mpr q) eS)] at hR;have Ys:=Gk A.in1 ⟨hp,g,d,tk,os⟩ a t c u prog w
      wp_walk using Ys
      exact⟨_,rfl,by simpa using hR⟩
  case fin=>
   rintro⟨b1,b2⟩ s' ⟨N7,rfl,vs,ws,Zq,Zs,hz,hvi,hwi,hlen,hR⟩;simp only at N7;subst N7;have hv:lexLt Zq Zs=decide (items.size<gZ.size):=by
    cases hvi with
    | nil=>
     cases hwi with
     |nil=>
      simp only[ax] at hlen;rw[vg];exact(decide_eq_false @c).symm
     |cons c u hw=>
      simp only[ax,aj] at hlen;rw[tE];exact(decide_eq_true @c).symm
    | cons a t hv=>
     cases hwi with
     |nil=>
      simp only[ax,aj] at hlen;rw[tF];exact(decide_eq_false @c).symm
     |cons c u hw=>
      rw[rQ] at hz;cases hz
   rw[hv] at hR
   wp_walk
   exact⟨_,rfl,by simpa[k6] using hR⟩
  case h=>
   exact⟨rfl,rfl,items.toList,gZ.toList,ns,ms,rfl,hi,hj,@f,h⟩
end
section
variable {prog:bC} {w:World} {A:cH} {E:@C} {s:ay}
theorem A6{l b:Addr}{items gZ:@a6}{ns ms:@u}{Q:@C}(hl:IsTup s.heap l items)(hb:IsTup s.heap b gZ)(hi:jT items.toList ns)(hj:jT gZ.toList ms)
  (hu:A.units<cLine) (h:Q (.bool (lexLt ns ms)) s):wpAny @J A (cS .Lt (.ref l) (.ref b)) Q E s:=by
 obtain⟨⟨cls,dd,data,sl⟩,ho,hc,n,hd⟩:=id hl;obtain⟨⟨Ol,zJ,data2,zA⟩,Di,Cc,n2,hd2⟩:=id hb;simp only at hc hd Cc hd2;subst hc hd Cc hd2;exact oG (op:=.Lt) ⟨_,ho,rfl⟩ ⟨_,Di,rfl⟩ mB uQ (sE _ _) (Ci l b items gZ n n2 dd zJ sl zA ns ms hi hj)
  ⟨ho,Di,show K0 (lexLt ns ms)≠SY/\Q (.bool (lexLt ns ms)) s from⟨(λx=>nomatch x),h⟩⟩ hu
theorem VN{t b:Addr}{vs ws:@s}{Q:@C}(ht:IsTup s.heap t vs.toArray)(hb:IsTup s.heap b ws.toArray)(hv:vs≠[])
  (h1:ws=[]->Q (.ref t) s) (h2:ws≠[]->Q (@as) {s with heap:=s.heap.push {cls:=@ad,data:=.seq (vs++ws).toArray}})
  (hsz:vs.length+ws.length<=bc):wpAny @J A (jS .Add (.ref t) (.ref b)) Q E s:=by
 obtain⟨⟨cls,dd,data,sl⟩,ho,hc,n,hd⟩:=id ht;obtain⟨⟨Ol,zJ,data2,zA⟩,Di,Cc,n2,hd2⟩:=id hb;simp only at hc hd Cc hd2;subst hc hd Cc hd2;have e:vs.toArray++ws.toArray=(vs++ws).toArray:=@G
 by_cases hw:ws=[]
 .exact concat_meets ⟨_,ho,rfl⟩ ⟨_,Di,rfl⟩ noFill_tuple_add seq_tuple_add K5 Jd (IE _ _)
   (tuple_addW1 t b vs.toArray ws.toArray n n2 dd zJ sl zA (by simpa using hv) (by simp[hw])) ⟨ho,Di,h1 hw⟩
 .refine concat_meets ⟨_,ho,rfl⟩ ⟨_,Di,rfl⟩ noFill_tuple_add seq_tuple_add K5 Jd (IE _ _)
   (tuple_addW2 t b vs.toArray ws.toArray n n2 dd zJ sl zA (by simpa using hv) (by simpa using hw) (by rw[bp,bp];exact hsz)) ⟨ho,Di,?_⟩
  rw[e];exact h2 hw
noncomputable def j9(n d:Nat):@aP->Nat
 |none=>d
 |some v=>if v<0 then(v+(n:Int)).toNat else min v.toNat n
theorem Xn(n d)(hd:d<=n)(o):j9 n d o<=n:=by
 cases o with
 |none=>exact hd
 |some v=>
  show(if v<0 then(v+(n:Int)).toNat else min v.toNat n)<=n;by_cases hv:v<0
  .rw[if_pos hv];lia
  .rw[if_neg hv];exact Nat.min_le_right _ _
theorem Mp(v)(n d:Nat):(if v<0 then max (v+(n:Int)) 0 else min v (n:Int))=((j9 n d (@Y):Nat):Int):=by
 show(if v<0 then max (v+(n:Int)) 0 else min v (n:Int))=(((if v<0 then(v+(n:Int)).toNat else min v.toNat n):Nat):Int);by_cases hv:v<0
 .simp only[if_pos hv];lia
 .simp only[if_neg hv];lia
theorem KJ(lo hi)(n:Nat):oB lo hi 1 (n:Int)=(((j9 n 0 lo:Nat):Int),((j9 n n hi:Nat):Int)):=by
 have h1:¬ ((1:Int)<0):=@f
 unfold oB;simp only[h1,if_false];refine OM ?_ ?_
 .cases lo with
  |none=>rfl
  |some v=>exact Mp v n 0
 .cases hi with
  |none=>rfl
  |some v=>exact Mp v n n
theorem JG(i j:Nat):jY (i:Int) (j:Int) 1=j-i:=by
 unfold jY;have h1:(1:Int)>0:=@f
 simp only[h1,if_true,Int.ediv_one];split<;>lia
theorem Au{v:Value}{o:@aP}{Q:@aP->@X}(p:IsPart v o)(h:Q o s):wpAny @J A (Builtin.Slice.slicePartIndex v) Q E s:=by
 cases p with
 |none=>exact slicePart_none h
 |int i t=>exact slicePart_int h
theorem xY{sl:Addr}{vl vu:Value}{lo hi:@aP}{n:Nat}{Q:Int×Int×Nat->@X}(hs:s.heap.IsSliceOf sl vl vu .none)(pl:IsPart vl lo)(pu:IsPart vu hi)
  (h:Q (((j9 n 0 lo:Nat):Int),1,j9 n n hi-j9 n 0 lo) s):wpAny @J A (zw (.ref sl) (pure (n:Int))) Q E s:=by
 obtain⟨os,hos,hcs,hds⟩:=id hs;unfold zw Builtin.Slice.sliceFields;refine ag (ag (iY hos hds (x:=vl) rfl (ag (iY hos hds (x:=vu) rfl (ag (iY hos hds (x:=.none) rfl (az ?_)))))));refine ag (slicePart_none ?_);show wpAny _ _ (if((1:Int) == 0)=true then _ else _) _ _ s;rw[if_neg (@d)];refine ag (Au pl (ag (Au pu (ag (az ?_)))));show wpAny _ _ (match oB lo hi 1 (n:Int) with |(lo,hi)=>pure (lo,(1:Int),jY lo hi 1)) _ _ s;rw[KJ lo hi n];show wpAny _ _ (pure (((j9 n 0 lo:Nat):Int),(1:Int),jY ((j9 n 0 lo:Nat):Int) ((j9 n n hi:Nat):Int) 1)) _ _ s;rw[JG];exact az h
theorem P8(xs:@a6)(i k:Nat):((eV k).filterMap λ(m:Nat)=>xs[((i:Int)+(m:Int)*1).toNat]?).toArray=((xs.toList.drop i).take k).toArray:=by
 have e:(λ(m:Nat)=>xs[((i:Int)+(m:Int)*1).toNat]?)=λm=>xs[i+m]?:=by
  funext m;have:((i:Int)+(m:Int)*1).toNat=i+m:=@f
  rw[this]
 rw[e];have:=pick_run xs i k;rw[List.filterMap_map] at this;have e2:((λx=>xs[x]?)∘λx=>i+x)=λm=>xs[i+m]?:=rfl;rw[e2] at this;rw[this]
theorem xc{t sl:Addr}{items:@a6}{vl vu:Value}{lo hi:@aP}{Q:@C}(ht:IsTup s.heap t items)(hs:s.heap.IsSliceOf sl vl vu .none)(pl:IsPart vl lo)(pu:IsPart vu hi)
  (hw:¬ (@bn=0/\@bu=items.size))
  (h:Q (@as) {s with heap:=s.heap.push {cls:=@ad,data:=.seq ((items.toList.drop (@bn)).take (@bu-@bn)).toArray}})
  (hsz:items.size<=bc):wpAny @J A (getItem (.ref t) (.ref sl)) Q E s:=by
 have LY:sizeOk (.seq ((items.toList.drop (@bn)).take (@bu-@bn)).toArray):=by
  show((items.toList.drop (@bn)).take (@bu-@bn)).toArray.size<=bc;rw[bp];exact bh (bh (List.length_take_le' _ _) (by rw[cP,cT];exact Nat.sub_le _ _)) hsz
 have hj:@bu<=items.size:=Xn _ _ @D hi;obtain⟨os,hos,hcs,hds⟩:=id hs;have hTs:s.TypeIs (.ref sl) "slice":=⟨os,hos,hcs⟩;unfold getItem
 try with_reducible refine ck ?_
 first |refine ag (az ?_) |skip
 refine ag (wpAny_sequenceKey ht.typeIs (@d) ?_);refine ag (jR (name:=rY "__getitem__") ht.typeIs xD
  (cV xD ht.typeIs entry_tuple_getitem ?_ (args_tuple_getitem _ _)))
 show wpAny _ _ (zv (.ref t) >>= _) _ _ s;refine ag (tupleItemsOf_ ht ?_);refine ag (wpAny_typeOf hTs ?_);rw[if_pos (@d)];refine ag (xY hs pl pu ?_);have hno:¬ ((((@bn:Nat):Int) == 0&&(1:Int) == 1&&(@bu-@bn) == items.size)=true):=by
  intro q;rw[aJ,aJ] at q;have q1:((@bn:Nat):Int)=0:=eq_of_beq q.1.1;have q2:@bu-@bn=items.size:=eq_of_beq q.2;exact hw ⟨@f,@f⟩
 show wpAny _ _ (if(((@bn:Nat):Int) == 0&&(1:Int) == 1&&(@bu-@bn) == items.size)=true then _ else _) _ _ s;rw[if_neg hno,P8]
 first
  |exact ag (m:=j8 _) (cG (az ⟨_,rfl,az h⟩) LY)
  |exact ag (m:=j8 _) (cG (ag (az (az ⟨_,rfl,az h⟩))) LY)
  |exact ag (ag (m:=j8 _) (cG (az (az ⟨_,rfl,az h⟩)) LY))
  |exact ag (ag (m:=j8 _) (cG (az ⟨_,rfl,az h⟩) LY))
end
end HT
namespace L2
open PySem PySem.Spec PyProof.Rows
abbrev TO:=St->Hp->(@aP->Hp->Prop)->Prop
theorem intsAre_of:∀{us:@s},Vals (ns.map V.int) us->jT us ns:=by
 induction ns with
 |nil=>intro us r;rw[aR] at r;cases r;exact .nil
 | cons n ns ih=>
  intro us r;rw[aw] at r;cases r with
  |cons r1 r2=>
   obtain⟨t,e⟩:=r1;subst e;exact .cons n t (ih r2)
section
variable {X:Cx} {e:Expr} {te:TE} {lo hi:Option Expr} {tl th:TO} {pos p2:Pos}
def SlR(X:Cx)(r:V->@aP->@aP->Hp->VK->Prop):Prop :=
 ∀(pins:@t) (s:ay) (σ:St) (H:Hp) (x:V) (v vl vu:Value) (lo hi:@aP) (sl:Addr) (Q:VK),@m->RelV x v->s.heap.IsSliceOf sl vl vu .none->IsPart vl lo->IsPart vu hi->r x lo hi H Q ->
  ∃T id,typeLookup (.type T) "__getitem__"=pure (some (.builtin id))/\s.TypeIs v T/\wpAny @o X.A (getItem v (.ref sl)) (EP X pins σ Q) X.xe s
def HQ(xs:@w)(lo hi:@aP):@w:=(xs.drop (HT.j9 xs.length 0 lo)).take (HT.j9 xs.length xs.length hi-HT.j9 xs.length 0 lo)
theorem y0(xs)(lo hi):(HQ xs lo hi).length<=xs.length:=by
 unfold HQ;rw[eB,cP];lia
def ade(K:aq):V->@aP->@aP->Hp->VK->Prop:=λx lo hi H Q=>∃a xs,x=@S/\zO K H a xs /\
 ¬ (HT.j9 xs.length 0 lo=0/\HT.j9 xs.length xs.length hi=xs.length)/\∀p,H p=none->Q (.ref p) (upd H p (.tup (HQ xs lo hi)))
theorem Xl:SlR X (ade X.K):=by
 intro pins s σ H x v vl vu lo hi sl Q I rx hs pl pu h;obtain⟨a,xs,rfl,hx,hw,q⟩:=h;cases rx;obtain⟨bT,r,ht,hz⟩:=I.tuple hx;have hlen:bT.toArray.size=xs.length:=by rw[bp];exact r.length.symm
 refine⟨"tuple",_,PyProof.Rows.slot_tuple_getitem.lookup,ht.typeIs,?_⟩;refine HT.xc ht hs pl pu (by rw[hlen];exact hw) ?_ (by rw[hlen];exact hz);rw[hlen];refine⟨@as,_,I.laid (t':=s.toks) (o:=.tup (HQ xs lo hi)) (λb ob q=>aF _ q) @D ?_,rfl,q _ (I.bP.fresh @D)⟩;exact⟨bh (y0 xs lo hi) hz,_,(r.drop (HT.j9 xs.length 0 lo)).take (HT.j9 xs.length xs.length hi-HT.j9 xs.length 0 lo),IsTup.new _ _⟩
def adh(K:aq):R2:=λx y H Q=>∃a b ns ms,x=@S/\y=.ref b/\zO K H a (ns.map V.int)/\zO K H b (ms.map V.int)/\Q (.bl (HT.lexLt ns ms)) H
theorem X2(hu:X.A.units<cLine):MC X (cS .Lt) (adh X.K):=by
 intro pins s σ H x y v u Q I rx ry h;obtain⟨a,b,ns,ms,rfl,rfl,ha,hb,q⟩:=h;cases rx;cases ry;obtain⟨bT,r1,p1,_⟩:=I.tuple ha;obtain⟨vE,r2,p2,_⟩:=I.tuple hb;have i1:jT bT.toArray.toList ns:=intsAre_of r1;have i2:jT vE.toArray.toList ms:=intsAre_of r2;exact HT.A6 p1 p2 i1 i2 hu ⟨.bl (HT.lexLt ns ms),H,I,rfl,q⟩
def aaa(K:aq):R2:=λx y H Q=>∃a b xs ys,x=@S/\y=.ref b/\zO K H a xs/\zO K H b ys/\xs≠[]/\xs.length+ys.length<=bc /\
 (ys=[]->Q @r H)/\(ys≠[]->∀p,H p=none->Q (.ref p) (upd H p (.tup (xs++ys))))
theorem Vals.Ej(r:Vals xs us):us=[]↔xs=[]:=by
 cases r with
 |nil=>simp
 |cons _ _=>simp
theorem UX:MC X (jS .Add) (aaa X.K):=by
 intro pins s σ H x y v u Q I rx ry h;obtain⟨a,b,xs,ys,rfl,rfl,ha,hb,hx,hz,q1,q2⟩:=h;cases rx;cases ry;obtain⟨bT,r1,p1,_⟩:=I.tuple ha;obtain⟨vE,r2,p2,_⟩:=I.tuple hb;refine HT.VN p1 p2 (λz=>hx (r1.Ej.mp z)) (λz=>⟨@S,H,I,rfl,q1 (r2.Ej.mp z)⟩) (λz=>?_) (by rw[<-r1.length,<-r2.length];exact hz);refine⟨@as,_,I.laid (t':=s.toks) (o:=.tup (xs++ys)) (λb ob q=>aF _ q) @D ?_,rfl,q2 (λw=>z (r2.Ej.mpr w)) _ (I.bP.fresh @D)⟩;exact⟨by rw[aB];exact hz,_,r1.append r2,IsTup.new _ _⟩
end
noncomputable def J4(n:Nat)(i:Int):Option Nat:=if 0<=i then(if i<n then some i.toNat else none) else if -(n:Int)<=i then some (i+n).toNat else none
def rD{α:Type}(xs:@v)(i:Int):Option α:=(J4 xs.length i).bind λj=>xs[j]?
theorem LX(h:J4 n i=some j):seqIndex? i n=some j/\j<n/\-(n:Int)<=i/\i<n:=by
 unfold J4 at h;by_cases h0:0<=i
 .rw[if_pos h0] at h;by_cases h1:i<n
  .rw[if_pos h1] at h;have e:i.toNat=j:=aX h;exact⟨by rw[seqIndex_of h0 h1,e],@f,@f,h1⟩
  .rw[if_neg h1] at h;cases h
 .rw[if_neg h0] at h;by_cases h1:-(n:Int)<=i
  .rw[if_pos h1] at h;have e:(i+n).toNat=j:=aX h;exact⟨by rw[seqIndex_neg @c h1,e],@f,h1,@f⟩
  .rw[if_neg h1] at h;cases h
theorem Mz(h:rD xs i=@Y):∃j,seqIndex? i xs.length=some j/\xs[j]?=@Y/\j<xs.length/\-(xs.length:Int)<=i/\i<xs.length:=by
 unfold rD at h;cases e:J4 xs.length i with
 |none=>rw[e] at h;cases h
 |some j=>
  rw[e] at h;obtain⟨h1,h2,h3,h4⟩:=LX e;exact⟨j,h1,h,h2,h3,h4⟩
def MB(b:Expr):Prop:=∀o i,subscripted b false o i=operate [o,i] (getItem o i)
def IxR(X:Cx)(r:R2):Prop :=
 ∀(value slice:Expr) (pins:@t) (s:ay) (σ:St) (H:Hp) (x y:V) (v u:Value) (Q:VK),@m->RelV x v->RelV y u->r x y H Q ->
  subscripted slice false v u=operate [v,u] (getItem v u)->wpAny @o X.A (subscriptTail value slice v u) (EP X pins σ Q) X.xe s
def MtR(X:Cx)(id:String)(r:V->@w->Hp->VK->Prop):Prop :=
 ∀(pins:@t) (s:ay) (σ:St) (H:Hp) (x:V) (xs:@w) (v:Value) (us:@s) (Q:VK),@m->RelV x v->Vals xs us->r x xs H Q ->
  wpAny @o X.A (call (.builtin id) (v::us)) (EP X pins σ Q) X.xe s
section
variable {X:Cx} {a b:Expr} {ta tb:TE} {pos:Pos}
def adj(K:aq):R2:=λx y H Q=>∃p xs i v,x=.ref p/\y=@A/\qB K H p xs/\rD xs i=@Y/\Q v H
def adi(K:aq):R2:=λx y H Q=>∃p xs i v,x=.ref p/\y=@A/\zO K H p xs/\rD xs i=@Y/\Q v H
theorem LW:IxR X (adj X.K):=by
 intro value slice pins s σ H x y v u Q I rx ry h hs;obtain⟨p,xs,i,z,rfl,rfl,hq,he,q⟩:=h;cases rx;obtain⟨t,rfl⟩:=ry;obtain⟨bT,r,pl,hz⟩:=I.list hq;obtain⟨j,h1,h2,h3,h4,h5⟩:=Mz he;obtain⟨w,ew,rH⟩:=r.get h2;have hl:=r.length;have hn:=Ba;have fin:EP X pins σ Q w s:=⟨z,H,I,rH,q⟩;by_cases h0:0<=i
 .have hj:i.toNat=j:=by
   rw[seqIndex_of h0 h5] at h1;exact aX h1
  exact item_listR pl.isList h0 @c (by rw[hj];simpa using ew) fin hs
 .have hj:(i+(bT.toArray.size:Int)).toNat=j:=by
   rw[seqIndex_neg @c h4] at h1;rw[bp,<-hl];exact aX h1
  exact subscriptTail_builtinR (x:=w) pl.isList.typeIs slot_list_getitem.lookup
   (wpAny_getItem_list_neg (Q:=λr s'=>r=w/\EP X pins σ Q r s') pl.isList @c (by rw[bp]<;>lia) @c (by rw[hj];simpa using ew) ⟨rfl,fin⟩) hs
theorem Yo:IxR X (adi X.K):=by
 intro value slice pins s σ H x y v u Q I rx ry h hs;obtain⟨p,xs,i,z,rfl,rfl,hq,he,q⟩:=h;cases rx;obtain⟨t,rfl⟩:=ry;obtain⟨bT,r,pl,hz⟩:=I.tuple hq;obtain⟨j,h1,h2,h3,h4,h5⟩:=Mz he;obtain⟨w,ew,rH⟩:=r.get h2;have hl:=r.length;have hn:=Ba;have fin:EP X pins σ Q w s:=⟨z,H,I,rH,q⟩;exact subscriptTail_builtinR (x:=w) pl.typeIs slot_tuple_getitem.lookup
  (getItem_tuple (j:=j) (Q:=λr s'=>r=w/\EP X pins σ Q r s') pl @c @c (by rw[bp,<-hl];exact h1) (by simpa using ew) ⟨rfl,fin⟩) hs
theorem JX (bT:@s) (n j) (u):dZ (·.setIfInBounds j u) {cls:=@Q,data:=.seq bT.toArray n}={cls:=@Q,data:=.seq (bT.set j u).toArray n}:=by
 simp[dZ]
theorem Inv.lst(I:@m)(h:H p=some (.lst xs)):
  ∃(bT:@s) (n:Nat),Vals xs bT/\s.heap.get? p=some {cls:=@Q,data:=.seq bT.toArray n}/\xs.length<=bc:=by
 obtain⟨z,bT,n,r,e⟩:=I.bP p _ h;exact⟨bT,n,r,e,z⟩
theorem Inv.Ye{pins:@t}{σ:St}{H:Hp}{s:ay}{p:Addr}{xs ys:@w}{bT its':@s}{n n':Nat}{f:Obj->Obj}(I:@m)(h:H p=some (.lst xs))
  (ho:s.heap.get? p=some {cls:=@Q,data:=.seq bT.toArray n}) (hf:f {cls:=@Q,data:=.seq bT.toArray n}={cls:=@Q,data:=.seq its'.toArray n'}) (r:Vals ys its') (hz:ys.length<=bc) (t:Nat):
  Inv X pins σ (upd H p (.lst ys)) {s with heap:=s.heap.update p f,toks:=t}:=by
 have e:(s.heap.update p f).get? p=some {cls:=@Q,data:=.seq its'.toArray n'}:=by
  rw[eA f ho (by rw[hf]<;>rfl),hf]
 refine I.write (x:=p) (e:=p) (by rw[h];trivial) (@W) (λb u hb q=>(bQ _ _ (dD hb)).trans q) ⟨_,e⟩ ?_;exact⟨hz,its',n',r,e⟩
def Z8:V->V->V->Hp->(Hp->Prop)->Prop:=λo i v H Q=>∃p xs k j,o=.ref p/\i=.int k/\H p=some (.lst xs)/\J4 xs.length k=some j/\Q (upd H p (.lst (xs.set j v)))
theorem set_list:afc X Z8:=by
 intro pins s σ H o i v ov iv u Q I ro ri rv h;obtain⟨p,xs,k,j,rfl,rfl,hp,hj,q⟩:=h;cases ro;obtain⟨t,rfl⟩:=ri;obtain⟨bT,n,r,ho,hz⟩:=I.lst hp;obtain⟨h1,h2,h3,h4⟩:=LX hj;have hl:=r.length;have hn:=Ba;have I':Inv X pins σ (upd H p (.lst (xs.set j v))) {s with heap:=s.heap.update p (dZ (·.setIfInBounds j u))} :=
  I.Ye hp ho (JX bT n j u) (r.set rv j) (by rw[bX];exact hz) s.toks
 by_cases h0:0<=k
 .have hk:k.toNat=j:=by
   rw[seqIndex_of h0 h4] at h1;exact aX h1
  exact PySem.W.ki_setAt ho h0 @c (by rw[bp,<-hl];exact h4) (by rw[hk];exact⟨_,I',q⟩)
 .have hk:(k+(bT.toArray.size:Int)).toNat=j:=by
   rw[seqIndex_neg @c h3] at h1;rw[bp,<-hl];exact aX h1
  exact PySem.W.ki_setBack ho @c (by rw[bp,<-hl];exact h3) @c (by rw[hk];exact⟨_,I',q⟩)
theorem D4(lo hi)(n):(sg lo hi none n).1=((HT.j9 n 0 lo:Nat):Int)/\(sg lo hi none n).2.1=((HT.j9 n n hi:Nat):Int)/\(sg lo hi none n).2.2=1:=by
 refine⟨?_,?_,rfl⟩
 .cases lo with
  |none=>simp[sg,HT.j9]
  |some i=>
   simp only[sg,HT.j9,uR,show(1:Int)>0 by decide,if_true];by_cases h:i<0
   .simp only[h,if_true]<;>lia
   .simp only[h,if_false]<;>lia
 .cases hi with
  |none=>simp[sg,HT.j9]
  |some i=>
   simp only[sg,HT.j9,uR,show(1:Int)>0 by decide,if_true];by_cases h:i<0
   .simp only[h,if_true]<;>lia
   .simp only[h,if_false]<;>lia
theorem Cm(bT:@s)(lo hi):slicePick bT.toArray lo hi none=((bT.drop (HT.j9 bT.length 0 lo)).take (HT.j9 bT.length bT.length hi-HT.j9 bT.length 0 lo)).toArray:=by
 obtain⟨h1,h2,h3⟩:=D4 lo hi bT.toArray.size;unfold slicePick;rw[h1,h2,h3];simp only[sliceRange_one,pick_run,bp]<;>rfl
def adf(K:aq):V->@aP->@aP->Hp->VK->Prop:=λx lo hi H Q=>∃a xs,x=@S/\qB K H a xs/\∀p,H p=none->Q (.ref p) (upd H p (.lst (HQ xs lo hi)))
theorem Ln:SlR X (adf X.K):=by
 intro pins s σ H x v vl vu lo hi sl Q I rx hs pl pu h;obtain⟨a,xs,rfl,hx,q⟩:=h;cases rx;obtain⟨bT,r,ht,hz⟩:=I.list hx;have hlen:=r.length;refine⟨"list",_,slot_list_getitem.lookup,ht.isList.typeIs,?_⟩;refine wpAny_getItem_list_slice ht.isList hs pl pu .none @i ?_ (by rw[bp]<;>lia);rw[Cm,<-hlen];refine⟨@as,_,I.laid (t':=s.toks) (o:=.lst (HQ xs lo hi)) (λb ob q=>aF _ q) @D ?_,rfl,q _ (I.bP.fresh @D)⟩;exact⟨bh (y0 xs lo hi) hz,_,0,(r.drop (HT.j9 xs.length 0 lo)).take (HT.j9 xs.length xs.length hi-HT.j9 xs.length 0 lo),@au⟩
noncomputable def eqV:V->V->Bool
 |.eX,.eX=>true
 |.bl a,.bl b=>a == b
 |.bl a,.int b=>(if a then 1 else 0) == b
 |.int a,.bl b=>a == (if b then 1 else 0)
 |.int a,.int b=>a == b
 |.str a,.str b=>a == b
 |_,_=>false
def Zu(x:V)(xs:@w):Bool:=xs.any λy=>eqV y x
theorem EW:SW X (@Q) (λxs H Q=>∃p ys,xs=[.ref p]/\(qB X.K H p ys\/zO X.K H p ys)/\∀l,H l=none->Q (.ref l) (upd H l (.lst ys))):=by
 intro pins s σ H xs us Q I r h;obtain⟨p,ys,rfl,hq,q⟩:=h;obtain⟨u,rfl,rx⟩:=vals1 r;cases rx;have fin:∀(bT:@s),Vals ys bT->ys.length<=bc->∀(h':Heap) (c':Nat),(∀b o',@a2=some o'->@ag=some o') ->
   h'.get? s.heap.objs.size=some {cls:=@Q,dict:=none,data:=.seq bT.toArray c',slots:=#[]}->EP X pins σ Q (@as) @an:=λbT r' hz h' c' kp e=>
  ⟨@as,_,I.laid (t':=s.toks) kp @D (show fQ X.prog X.w _ h' _ (.lst ys) from⟨hz,bT,c',r',e⟩),rfl,q _ (I.bP.fresh @D)⟩
 rcases hq with hq |hq
 .obtain⟨bT,r',pl,hz⟩:=I.list hq;have hlen:=r'.length;obtain⟨o,ho,hc,n,hd⟩:=pl.isList;exact call_list_seq p (@W) ho hc hd (λh' c' kp e=>fin bT r' hz h' c' kp e) (by simp only[bp]<;>lia)
 .obtain⟨bT,r',pl,hz⟩:=I.tuple hq;have hlen:=r'.length;obtain⟨o,ho,hc,n,hd⟩:=pl;exact call_list_seq p (.inr rfl) ho hc hd (λh' c' kp e=>fin bT r' hz h' c' kp e) (by simp only[bp]<;>lia)
theorem CF:SW X (@ad) (λxs H Q=>∃p ys,xs=[.ref p]/\((qB X.K H p ys/\∀l,H l=none->Q (.ref l) (upd H l (.tup ys)))\/(zO X.K H p ys/\Q (.ref p) H))):=by
 intro pins s σ H xs us Q I r h;obtain⟨p,ys,rfl,h⟩:=h;obtain⟨u,rfl,rx⟩:=vals1 r;cases rx;rcases h with ⟨hq,q⟩ |⟨hq,q⟩
 .obtain⟨bT,r',pl,hz⟩:=I.list hq;have hlen:=r'.length;refine call_tuple_list pl.isList (λh' kp=>?_) (by simp only[bp]<;>lia);have I1:Inv X pins σ H @an:=I.kept (t':=s.toks) kp;have I2:Inv X pins σ (upd H h'.objs.size (.tup ys)) {s with heap:=h'.push {cls:=@ad,data:=.seq bT.toArray}} :=
   I1.laid (t':=s.toks) (λb o e=>aF _ e) @D (show fQ X.prog X.w _ _ _ (.tup ys) from⟨hz,bT,r',IsTup.new _ _⟩)
  exact⟨.ref h'.objs.size,_,I2,rfl,q _ (I1.bP.fresh @D)⟩
 .obtain⟨bT,r',pl,hz⟩:=I.tuple hq;exact call_tuple_same pl ⟨.ref p,H,I,rfl,q⟩
def tyV(K:aq)(T:String)(x:V)(H:Hp):Prop:=match x with
 |.str _=>T="str"
 |.int _=>T="int"
 | .ref p=>(T="list"/\∃xs,qB K H p xs)\/(T="tuple"/\∃o,K.lookup p=@g/\o.cls=@ad/\o.dict=none) \/
   (T="dict"/\((∃kvs,H p=some (.dK kvs))\/∃kvs,H p=some (.dT kvs)))\/(T="set"/\∃S n,H p=some (.set S n))
 |_=>False
theorem DY(I:@m)(r:RelV x v)(ty:tyV X.K T x H):
  s.TypeIs v T/\∀a,v=@S->∃ob,s.heap.get? a=some ob/\ob.dict=none:=by
 cases x with
 |str z=>
  obtain⟨t,rfl⟩:=r;cases(show T="str" from ty);exact⟨typeIs_str s z t,λ_ e=>nomatch e⟩
 |int i=>
  obtain⟨t,rfl⟩:=r;cases(show T="int" from ty);exact⟨typeIs_int s i t,λ_ e=>nomatch e⟩
 | ref p=>
  cases r;rcases ty with ⟨rfl,xs,hq⟩ |⟨rfl,o,hk,hc,hd⟩ |⟨rfl,hk⟩ |⟨rfl,S,n,hk⟩
  .obtain⟨bT,_,pl,_⟩:=I.list hq;refine⟨pl.isList.typeIs,λa e=>?_⟩;cases e;obtain⟨o,n,e,c,hd,_⟩:=pl;exact⟨o,e,hd⟩
  .refine⟨⟨o,I.zG p o hk,hc⟩,λa e=>?_⟩;cases e;exact⟨o,I.zG _ o hk,hd⟩
  .have z:∃o,s.heap.get? p=@g/\o.ExactDict:=by
    rcases hk with ⟨kvs,hk⟩ |⟨kvs,hk⟩
    .obtain⟨_,_,_,_,o,_,_,e,ex,_⟩:=I.bP p _ hk;exact⟨o,e,ex⟩
    .obtain⟨_,_,_,_,o,_,_,e,ex,_⟩:=I.bP p _ hk;exact⟨o,e,ex⟩
   obtain⟨o,e,ex⟩:=z;refine⟨⟨o,e,ex.1⟩,λa e2=>?_⟩;cases e2;exact⟨o,e,ex.2.1⟩
  .obtain⟨o,_,_,_,e,ex,_⟩:=I.bP p _ hk;refine⟨⟨o,e,ex.1⟩,λa e2=>?_⟩;cases e2;exact⟨o,e,ex.2.1⟩
 |_=>exact bI ty
variable {o e:Expr} {es:@az} {to:TE} {t:TA} {name:Str} {apos jE:Pos} {T id:String} {r:V->@w->Hp->VK->Prop}
/- xs.append(e),list.index on a aaw tuple .. are MtR facts of 06m -/
end
def MtM(X:Cx)(id:String)(r:V->@w->Hp->VK->Prop):Prop :=
 ∀(pins:@t) (s:ay) (σ:St) (H:Hp) (x:V) (xs:@w) (v:Value) (us:@s) (Q:VK),@m->RelV x v->Vals xs us->r x xs H Q ->
  wpAny @o X.A (call (.builtin id) (v::us)) (EP X pins σ Q) X.xe s
theorem Vals.one:∀{x:V} {us:@s},Vals [x] us->∃u,us=[u]/\RelV x u:=by
 intro x us h;cases h with
 |cons r t=>cases t;exact⟨_,rfl,r⟩
section
variable {X:Cx} {pins:@t} {σ:St} {H:Hp} {s:ay} {l b:Addr} {xs ys zs:@w}
theorem Inv.aay{bT its':@s}{n:Nat}{f:@a6->@a6}{t':Nat}(I:@m)(hH:H l=some (.lst xs))
  (e:s.heap.get? l=some {cls:=@Q,data:=.seq bT.toArray n}) (hf:f bT.toArray=its'.toArray) (hv:Vals ys its') (hz:ys.length<=bc):
  Inv X pins σ (upd H l (.lst ys)) {s with heap:=s.heap.update l (dZ f),toks:=t'}:=by
 have q:=PySem.IsL.update e f;rw[hf] at q;refine I.write (x:=l) (e:=l) (by rw[hH];exact trivial) (@W) (λb' u hb hu=>(bQ s.heap (dZ f) (dD hb)).trans hu) ⟨_,q⟩ ?_;exact⟨hz,its',_,hv,q⟩
theorem Inv.adH(I:@m)(hv:Vals ys bT)(hz:ys.length<=bc):
  Inv X pins σ (upd H s.heap.objs.size (.lst ys)) {s with heap:=s.heap.push {cls:=@Q,data:=.seq bT.toArray},toks:=t'} :=
 I.laid (λ_ _ q=>aF _ q) @D ⟨hz,bT,0,hv,@au⟩
theorem Inv.aax (I:@m) (hH:H l=some (.lst xs)):xs.length<=bc/\∃(bT:@s) (n:Nat),Vals xs bT/\xs.length=bT.length/\s.heap.get? l=some {cls:=@Q,data:=.seq bT.toArray n}:=by
 obtain⟨z,bT,n,r,e⟩:=I.bP l _ hH;exact⟨z,bT,n,r,r.length,e⟩
theorem QA(h:n<=bc):kg n=false:=by
 unfold kg;exact decide_eq_false @c
end
section
variable {X:Cx}
def Ud:V->@w->Hp->VK->Prop:=λx vs H Q=>∃l xs y,x=.ref l/\vs=[y]/\H l=some (.lst xs)/\xs.length<bc/\Q .eX (upd H l (.lst (xs++[y])))
theorem C4:MtM X "list.append" Ud:=by
 intro pins s σ H x vs v us Q I rx rv h;obtain⟨l,xs,y,rfl,rfl,hH,hz,q⟩:=h;cases rx;obtain⟨u,rfl,ru⟩:=rv.one;obtain⟨z,bT,n,r,hl,e⟩:=I.aax hH;refine call_meets F.slot_list_append ⟨_,e,rfl⟩ F.entry_list_append (F.args_list_append_2 _ _) (PySem.list_append l bT.toArray n u (by rw[bp];lia)) ⟨e,?_⟩;refine⟨.eX,_,I.aay (its':=bT++[u]) hH e @i (r.append (.cons ru .nil)) ?_,rfl,q⟩;rw[aB,bU];lia
end
section
variable {κ:Type} [@a0]
noncomputable def mF(kvs:List (κ×V))(k:κ):Option V:=(kvs.find? λkv=>decide (kv.1=k)).map (·.2)
noncomputable def putK(kvs:List (κ×V))(k:κ)(v:V):List (κ×V) :=
 if(kvs.any λkv=>decide (kv.1=k))=true then kvs.map (λkv=>if kv.1=k then(kv.1,v) else kv) else kvs++[(k,v)]
theorem sH{k:κ}(e:p.1=k):mF (p::r) k=some p.2:=by simp[mF,eu,e]
theorem sI{k:κ}(e:¬ p.1=k):mF (p::r) k=mF r k:=by simp[mF,eu,e]
theorem FU(k):∀kvs:List (κ×V),(kvs.any λkv=>decide (kv.1=k))=(mF kvs k).isSome
 |[]=>rfl
 |p::r=>by
  rw[ma];by_cases e:p.1=k
  .simp only[sH e,decide_eq_true e,Bool.true_or,Option.isSome_some]
  .rw[sI e,decide_eq_false e,OU];exact FU k r
theorem yS(kvs)(k:κ)(v):(putK kvs k v).length<=kvs.length+1:=by
 unfold putK;split
 .rw[ar];lia
 .rw[aB,aj,ax];lia
theorem xw.qj(r:xw o u):o.isSome=u.isSome:=by
 cases o with
 |none=>cases u with
  |none=>rfl
  |some _=>exact(show False from r).elim
 |some _=>cases u with
  |none=>exact(show False from r).elim
  |some _=>rfl
theorem xw.getD(r:xw o u)(rd:RelV d d'):RelV (o.getD d) (u.getD d'):=by
 cases o with
 |none=>cases u with
  |none=>exact rd
  |some _=>exact(show False from r).elim
 |some _=>cases u with
  |none=>exact(show False from r).elim
  |some _=>exact r
theorem KV.val(r:KV kvs vs)(k:κ):xw (mF kvs k) (O7 vs k):=by
 unfold KV at r;induction r with
 |nil=>exact bB
 | @cons p q ps qs h t ih=>
  obtain⟨h1,h2⟩:=h;by_cases e:p.1=k
  .have e':q.1=k:=h1.symm.trans e;have b:O7 (q::qs) k=some q.2:=by simp[O7,eu,e']
   rw[sH e,b];exact h2
  .have e':¬ q.1=k:=λz=>e (h1.trans z);have b:O7 (q::qs) k=O7 qs k:=by simp[O7,eu,e']
   rw[sI e,b];exact ih
theorem KV.any(r:KV kvs vs)(k:κ):(kvs.any λkv=>decide (kv.1=k))=vs.any λkv=>decide (kv.1=k):=by
 unfold KV at r;induction r with
 |nil=>rfl
 |cons h t ih=>rw[ma,ma,ih,h.1]
theorem KV.PI(r:KV kvs vs)(k:κ)(ry:RelV y u):
  KV (kvs.map λkv=>if kv.1=k then(kv.1,y) else kv) (vs.map λkv=>if kv.1=k then(kv.1,u) else kv):=by
 unfold KV at r ⊢;induction r with
 |nil=>exact .nil
 |@cons p q ps qs h t ih=>
  rw[aw,aw];refine .cons ?_ ih;obtain⟨h1,h2⟩:=h;by_cases e:p.1=k
  .rw[if_pos e,if_pos (h1.symm.trans e)];exact⟨h1,ry⟩
  .rw[if_neg e,if_neg (λz=>e (h1.trans z))];exact⟨h1,h2⟩
theorem KV.put(r:KV kvs vs)(k:κ)(ry:RelV y u):KV (putK kvs k y) (stored vs k u):=by
 unfold putK stored;rw[r.any k];by_cases e:(vs.any λkv=>decide (kv.1=k))=true
 .rw[if_pos e,if_pos e];exact r.PI k ry
 .rw[if_neg e,if_neg e];exact S1 r ⟨rfl,ry⟩
theorem KV.length{vs:List (κ×Value)}(r:KV kvs vs):kvs.length=vs.length:=gz r
end
theorem Bf(r:RelV (kV k) u):(cM P w).is k u=true:=by
 cases k with
 |inl i=>obtain⟨t,e⟩:=(show ∃t,u=eZ i t from r);subst e;exact GH P w i t
 |inr x=>obtain⟨t,e⟩:=(show ∃t,u=Value.str x t from r);subst e;exact GG P w x t
theorem Df:∀{ks:List Key} {us:@s},Vals (ks.map kV) us->ItemsAre (cM P w) ks us
 |[],_,r=>by rw[aR] at r;cases r;exact .nil
 |k::ks,_,r=>by
  rw[aw] at r;cases r with
  |cons h t=>exact .cons (Bf h) (Df t)
abbrev KT(H:Hp):@a4->List (List Key×@aO)->Prop:=kz λp q=>p.1=q.1/\H q.2.1=some (.tup (p.1.map kV))/\RelV p.2 q.2.2
theorem KT.val(r:KT H kvs xs)(k):xw (mF kvs k) ((atKey xs k).map (·.2)):=by
 induction r with
 |nil=>exact bB
 | @cons p q ps qs h t ih=>
  obtain⟨h1,_,h2⟩:=h;by_cases e:p.1=k
  .have e':q.1=k:=h1.symm.trans e;have b:atKey (q::qs) k=some q.2:=by simp[atKey,eu,e']
   rw[sH e,b];exact h2
  .have e':¬ q.1=k:=λz=>e (h1.trans z);have b:atKey (q::qs) k=atKey qs k:=by simp[atKey,eu,e']
   rw[sI e,b];exact ih
theorem KT.PI(r:KT H kvs xs)(k)(ry:RelV y u):
  KT H (kvs.map λkv=>if kv.1=k then(kv.1,y) else kv) (xs.map (putAt k u)):=by
 induction r with
 |nil=>exact .nil
 |@cons p q ps qs h t ih=>
  rw[aw,aw];refine .cons ?_ ih;obtain⟨h1,h2,h3⟩:=h;unfold putAt;by_cases e:p.1=k
  .rw[if_pos e,if_pos (h1.symm.trans e)];exact⟨h1,h2,ry⟩
  .rw[if_neg e,if_neg (λz=>e (h1.trans z))];exact⟨h1,h2,h3⟩
theorem KT.put(r:KT H kvs xs)(k)(hb:H b=some (.tup (k.map kV)))(ry:RelV y u):
  KT H (putK kvs k y) (IW xs k b u):=by
 have e:(kvs.any λkv=>decide (kv.1=k))=(atKey xs k).isSome:=by
  rw[FU,(r.val k).qj,eY]
 unfold putK IW;rw[e];by_cases q:(atKey xs k).isSome=true
 .rw[if_pos q,if_pos q];exact r.PI k ry
 .rw[if_neg q,if_neg q];exact S1 r ⟨rfl,hb,ry⟩
theorem KT.keeps(r:KT H kvs xs)(ht:∀b ys,H b=some (.tup ys)->H' b=some (.tup ys)):KT H' kvs xs :=
 Paired.Ve r λ_ _ z=>⟨z.1,ht _ _ z.2.1,z.2.2⟩
section
variable {P:bC} {w:World} {H:Hp} {h:Heap} {a:Addr}
theorem Wc(ok:oD P w H h)(e:Rd H a u):fQ P w H h a u:=e.ok ok
theorem vh(ok:oD P w H h)(e:Rd H a (.dK kvs)):kvs.length<=bc/\(a == cu)=false/\∃vs,KV kvs vs/\h.DictOf (cM P w) a vs :=
 show fQ P w H h a (.dK kvs) from Wc ok e
theorem BE(ok:oD P w H h)(e:H a=some (.dK kvs)):kvs.length<=bc/\(a == cu)=false/\∃vs,KV kvs vs/\h.DictOf (cM P w) a vs:=vh ok (.inl e)
theorem kn(ok:oD P w H h)(e:H a=some (.tup (ks.map kV))):(gS (cM P w)).is h ks a:=by
 obtain⟨_,bT,r,o,h1,h2,n,h3⟩:=(show fQ P w H h a (.tup (ks.map kV)) from ok a _ e);exact⟨o,bT.toArray,n,h1,h2,h3,by simpa using Df r⟩
theorem BD(ok:oD P w H h)(e:Rd H a (.dT kvs)):kvs.length<=bc/\(a == cu)=false /\
  ∃xs,KT H kvs xs/\h.DictOfH (gS (cM P w)) a xs:=by
 obtain⟨z,y,xs,r,o,es,ep,h1,h2,h3,h4,h5⟩:=(show fQ P w H h a (.dT kvs) from Wc ok e);refine⟨z,y,xs,r,o,es,ep,h1,h2,h3,h4,λx hx=>?_,h5⟩;have all:∀{l:@a4} {m:List (List Key×@aO)},KT H l m->∀x∈m,(gS (cM P w)).is h x.1 x.2.1:=by
  intro l m q;induction q with
  |nil=>intro x hx;exact nomatch hx
  |@cons p q ps qs hq t ih=>
   intro x hx;rcases List.mem_cons.mp hx with e |hx
   .subst e;exact kn ok (by rw[<-hq.1];exact hq.2.1)
   .exact ih x hx
 exact all r x hx
theorem R5(ok:oD P w H h)(e:H a=some (.dT kvs)):kvs.length<=bc/\(a == cu)=false /\
  ∃xs,KT H kvs xs/\h.DictOfH (gS (cM P w)) a xs:=BD ok (.inl e)
end
def B2(H:Hp)(a:Addr)(y:V)(r:Option V):Prop :=
 (∃kvs k,Rd H a (.dK kvs)/\y=kV k/\r=mF kvs k)\/∃kvs k b,Rd H a (.dT kvs)/\y=.ref b/\H b=some (.tup (k.map kV))/\r=mF kvs k
def OF(H:Hp)(a:Addr)(y v:V)(H':Hp):Prop :=
 (∃kvs k,H a=some (.dK kvs)/\y=kV k/\kvs.length<bc/\H'=upd H a (.dK (putK kvs k v))) \/
 ∃kvs k b,H a=some (.dT kvs)/\y=.ref b/\H b=some (.tup (k.map kV))/\kvs.length<bc/\H'=upd H a (.dT (putK kvs k v))
theorem B2.k{H:Hp}{a:Addr}{kvs:@aE}{k:Key}(e:H a=some (.dK kvs)):B2 H a (kV k) (mF kvs k):=.inl ⟨kvs,k,.inl e,rfl,rfl⟩
theorem B2.t{H:Hp}{a b:Addr}{kvs:@a4}{k:List Key}(e:H a=some (.dT kvs))(eb:H b=some (.tup (k.map kV))):B2 H a (.ref b) (mF kvs k):=.inr ⟨kvs,k,b,.inl e,rfl,eb,rfl⟩
theorem OF.k{H:Hp}{a:Addr}{kvs:@aE}{k:Key}{v:V}(e:H a=some (.dK kvs))(hl:kvs.length<bc):OF H a (kV k) v (upd H a (.dK (putK kvs k v))):=.inl ⟨kvs,k,e,rfl,hl,rfl⟩
theorem OF.t{H:Hp}{a b:Addr}{kvs:@a4}{k:List Key}{v:V}(e:H a=some (.dT kvs))(eb:H b=some (.tup (k.map kV)))(hl:kvs.length<bc):
  OF H a (.ref b) v (upd H a (.dT (putK kvs k v))):=.inr ⟨kvs,k,b,e,rfl,eb,hl,rfl⟩
section
variable {X:Cx} {pins:@t} {σ:St} {H:Hp} {s:ay} {a:Addr} {y v:V} {u r:Value} {o:Option V} {A:cH} {E:@C}
theorem Inv.big(I:@m):cu<s.heap.objs.size:=by
 have h:bK<s.heap.objs.size:=(I.mod.glob.keeps I.bk).lt;exact Nat.lt_trans (@d) h
theorem yq(hu:A.units+1<cLine)(I:@m)(g:B2 H a y (@Y))(ry:RelV y u)(h:∀w' s',Inv X pins σ H s'->RelV v w'->Q w' s'):
  wpAny @o A (getItem @r u) Q E s:=by
 rcases g with ⟨kvs,k,e,ey,l⟩ |⟨kvs,k,b,e,ey,eb,l⟩
 .subst ey;obtain⟨z,hd,vs,rel,dd⟩:=vh I.bP e;obtain⟨w',hw,rH⟩:=xw.some_of (v:=v) (o:=O7 vs k) (by rw[l];exact rel.val k);exact wpAny_getItem_of (Bf ry) dd.mapOf hw (h w' _ (@ao) rH)
 .subst ey;cases(show u=dg b from ry);obtain⟨z,hd,xs,rel,dd⟩:=BD I.bP e;obtain⟨w',hw,rH⟩:=xw.some_of (v:=v) (o:=(atKey xs k).map (·.2)) (by rw[l];exact rel.val k);obtain⟨p,hp,mK⟩:=Option.map_eq_some_iff.mp hw;refine wpAny_getItem_heap (iH hu) (kn I.bP eb) dd hp ?_;rw[mK];exact h w' _ (@ao) rH
theorem abF{Q:@C}(hu:A.units+1<cLine)(I:@m)(g:B2 H a y o)(ry:RelV y u)(h:∀s',Inv X pins σ H s'->Q (.bool o.isSome) s'):
  wpAny @o A (cS .In u @r) Q E s:=by
 rcases g with ⟨kvs,k,e,ey,l⟩ |⟨kvs,k,b,e,ey,eb,l⟩
 .subst ey;obtain⟨z,hd,vs,rel,dd⟩:=vh I.bP e;refine wpAny_in_of (Bf ry) hd dd.mapOf ?_;rw[<-(rel.val k).qj,<-l];exact h _ (@ao)
 .subst ey;cases(show u=dg b from ry);obtain⟨z,hd,xs,rel,dd⟩:=BD I.bP e;refine wpAny_in_heap (iH hu) (kn I.bP eb) hd dd ?_;have q:=(rel.val k).qj;rw[eY] at q;rw[<-q,<-l];exact h _ (@ao)
theorem Ml{Q:@C}(hu:A.units+1<cLine)(I:@m)(g:B2 H a y o)(ry:RelV y u)(h:∀s',Inv X pins σ H s'->Q (.bool (!o.isSome)) s'):
  wpAny @o A (cS .NotIn u @r) Q E s:=by
 rcases g with ⟨kvs,k,e,ey,l⟩ |⟨kvs,k,b,e,ey,eb,l⟩
 .subst ey;obtain⟨z,hd,vs,rel,dd⟩:=vh I.bP e;refine wpAny_notIn_of (Bf ry) hd dd.mapOf ?_;rw[<-(rel.val k).qj,<-l];exact h _ (@ao)
 .subst ey;cases(show u=dg b from ry);obtain⟨z,hd,xs,rel,dd⟩:=BD I.bP e;refine wpAny_notIn_heap (iH hu) (kn I.bP eb) hd dd ?_;have q:=(rel.val k).qj;rw[eY] at q;rw[<-q,<-l];exact h _ (@ao)
theorem rm(I:@m)(mu:Mut (H a))(hs:fI a s.heap h')(he:∃q,h'.get? a=some q)(new:fQ X.prog X.w (upd H a ob) h' a ob):
  Inv X pins σ (upd H a ob) {s with heap:=h',toks:=t'} :=
 I.write (x:=a) (e:=a) mu (@W) (λb q hb z=>(hs.2 b hb).trans z) he new
theorem BF(z:kvs.length<=bc)(hd:(a == cu)=false)(rel:KV kvs vs)(dd:h'.DictOf (cM P w) a vs):
  fQ P w H' h' a (.dK kvs):=⟨z,hd,vs,rel,dd⟩
theorem Oh{H':Hp}{Q:Unit->@X}(hu:A.units+1<cLine)(I:@m)(g:OF H a y v H')(ry:RelV y u)(rv:RelV v r)(h:∀s',Inv X pins σ H' s'->Q () s'):
  wpAny @o A (setItem @r u r) Q E s:=by
 rcases g with ⟨kvs,k,e,ey,l,eH⟩ |⟨kvs,k,b,e,ey,eb,l,eH⟩
 .subst ey eH;obtain⟨z,hd,vs,rel,dd⟩:=BE I.bP e;have hz:vs.length<=bc:=by rw[<-rel.length];exact z
  have hl:(putK kvs k v).length<=bc:=by have:=yS kvs k v;lia
  refine wpAny_setItem_pairs (hsz:=hz) (Bf ry) dd λh' xn hs=>h _ ?_;have he:∃q,h'.get? a=some q:=let ⟨q,_,_,hq,_⟩:=xn;⟨q,hq⟩
  exact rm I (by rw[e];exact bB) hs he (BF hl hd (rel.put k rv) xn)
 .subst ey eH;cases(show u=dg b from ry);obtain⟨z,hd,xs,rel,dd⟩:=R5 I.bP e;have hz:xs.length<=bc:=by rw[<-gz rel];exact z
  have hl:(putK kvs k v).length<=bc:=by have:=yS kvs k v;lia
  refine wpAny_setItem_heap (hsz:=hz) (iH hu) (kn I.bP eb) dd λh' xn hs=>h _ ?_;obtain⟨q,es,ep,hq,h2,h3,h4,_,h5⟩:=xn;refine rm I (by rw[e];exact bB) hs ⟨q,hq⟩ ⟨hl,hd,_,(rel.put k eb rv).keeps λc ys ec=>?_,q,es,ep,hq,h2,h3,h4,h5⟩;rw[bH (Wk ec e (@a3))];exact ec
end
section
variable {X:Cx} {pins:@t} {σ:St} {H:Hp} {s:ay} {a:Addr} {kvs:@aE} {k:Key} {u:Value} {A:cH} {E:@C}
theorem WO {Q:@C} (I:@m) (e:Rd H a (.dK kvs)) (h:∀t s',Inv X pins σ H s'->Q (.int kvs.length t) s'):wpAny @o A (call (.builtin "len") [@S]) Q E s:=by
 obtain⟨z,hd,vs,rel,dd⟩:=vh I.bP e;refine call_len_dict hd dd (by rw[<-rel.length];rw[cX] at z;lia) ?_;rw[<-rel.length];exact h _ _ (@ao)
theorem VI{Q:Bool->@X}(I:@m)(e:Rd H a (.dK kvs))(h:∀s',Inv X pins σ H s'->Q (!kvs.isEmpty) s'):wpAny @o A (truthy @r) Q E s:=by
 obtain⟨z,hd,vs,rel,dd⟩:=vh I.bP e;refine IV hd dd (by rw[<-rel.length];rw[cX] at z;lia) ?_;have q:kvs.isEmpty=vs.isEmpty:=by cases rel<;>rfl
 rw[<-q];exact h _ (@ao)
end
theorem tT         (I:@m) (g:B2 H a y o):s.TypeIs @r "dict":=by
 rcases g with ⟨kvs,k,e,_,_⟩ |⟨kvs,k,b,e,_,_,_⟩
 .obtain⟨_,_,vs,_,dd⟩:=vh I.bP e;exact dd.typeIs
 .obtain⟨_,_,xs,_,dd⟩:=BD I.bP e;exact dd.typeIs
theorem BG    (h:Heap) (hb:cu<h.objs.size):fQ P w H (h.push {cls:=@aN,data:=.dict #[]}) h.objs.size (.dK []) :=
 ⟨cm _,beq_eq_false_iff_ne.mpr (dD (br hb)),[],.nil,Heap.DictOf.new h⟩
def Xf:TE:=λ_ H Q=>∀p,H p=none->Q (.ref p) (upd H p (.dK []))
section
variable {X:Cx} {pos:Pos}
theorem Qe:PE X (.Dict [] [] pos) Xf:=λpins s σ H Q I h=>
 wpAny_Dict_empty ⟨@as,_,I.laid (a:=s.heap.objs.size) (o:=.dK []) (t':=s.toks) (λ_ _ q=>aF _ q) @D (BG s.heap I.big),rfl,h _ (I.bP.fresh @D)⟩
end
abbrev VV:List (V×V)->List (Value×Value)->Prop:=kz λp q=>RelV p.1 q.1/\RelV p.2 q.2
def A2(kvs more:@aE):@aE:=more.foldl (λacc kv=>putK acc kv.1 kv.2) kvs
theorem KV.merge:∀{more:@aE} {rs:List (Key×Value)} {kvs:@aE} {vs:List (Key×Value)},KV more rs->KV kvs vs->KV (A2 kvs more) (merged vs rs):=by
 intro more rs kvs vs r;unfold KV at r;induction r generalizing kvs vs with
 |nil=>intro q;exact q
 | @cons p q ps qs h t ih=>
  intro r0;have e:KV (putK kvs p.1 p.2) (stored vs q.1 q.2):=by
   have:=r0.put p.1 h.2;rw[<-h.1];exact this
  exact ih e
theorem vM:∀{kvs:@aE} {ws:List (Value×Value)},VV (kvs.map λkv=>(kV kv.1,kv.2)) ws->∃rs,Carries (cM P w) ws rs/\KV kvs rs
 |[],_,r=>by rw[aR] at r;cases r;exact⟨[],bB,.nil⟩
 | p::kvs,_,r=>by
  rw[aw] at r;cases r with
  |@cons a b as bs h t=>
   obtain⟨rs,c,q⟩:=vM (P:=P) (w:=w) t;obtain⟨b1,b2⟩:=b;exact⟨(p.1,b2)::rs,⟨Bf h.1,rfl,c⟩,.cons ⟨rfl,h.2⟩ q⟩
def IsD(H:Hp)(a:Addr):Prop:=(∃kvs,Rd H a (.dK kvs))\/∃kvs,Rd H a (.dT kvs)
theorem Rf(I:@m)(d:IsD H a):
  s.TypeIs @r "dict"/\(∀b,dg a=.ref b->∃ob,@a2=some ob/\ob.dict=none)/\(a == cu)=false:=by
 rcases d with ⟨kvs,e⟩ |⟨kvs,e⟩
 .obtain⟨_,hd,vs,_,dd⟩:=vh I.bP e;refine⟨dd.typeIs,λb q=>?_,hd⟩;cases q;obtain⟨ob,_,_,h1,h2,_⟩:=dd;exact⟨ob,h1,h2.2.1⟩
 .obtain⟨_,hd,xs,_,dd⟩:=BD I.bP e;refine⟨dd.typeIs,λb q=>?_,hd⟩;cases q;obtain⟨ob,_,_,h1,h2,_⟩:=dd;exact⟨ob,h1,h2.2.1⟩
end L2
namespace Att
open PySem PySem.W PySem.Calls PyProof.Rows
theorem zq:∀(ns:@u) (vs:@s),WellAll P h vs (ns.map WData.int)->jT vs ns:=by
 intro ns;induction ns with
 |nil=>
  intro vs w;rw[aR] at w;cases w;exact .nil
 | cons n ns ih=>
  intro vs w;rw[aw] at w;cases w with
  |cons a b=>
   cases a;exact .cons _ _ (ih _ b)
theorem M4{l:OpenLaw}(hn:l.most=some n)
  (tH:l.row.toRowW.claim.pre args=true) (hwl:WellAll P h vals args):
  ∃a vs ns,vals=[dg a]/\args=[WData.list (ns.map WData.int)]/\@ak=some {cls:=@Q,data:=.seq vs.toArray}/\jT vs ns/\ns.length<=n:=by
 have hsh:WShape.hasAll [] args [.list .int]=true:=(pre_splitW tH).1;have hc:l.pre.holds [] {args:=args}=true:=(pre_splitW tH).2;obtain⟨d,r,rfl,h1,h2⟩:=hasAllW_cons hsh;obtain rfl:=hasAllW_nil h2;obtain⟨xs,rfl,h3⟩:=hasW_list h1;obtain⟨ns,rfl⟩:=items_int h3;have hlen:ns.length<=n:=by
  unfold OpenLaw.pre at hc;have h4:(WTm.not (.lt (.lit (.int (n:Int))) (.len (.arg 0)))).holds [] {args:=[.list (ns.map .int)]}=true:=by
   have h4:=(holds_andW hc).1;rw[hn] at h4;exact h4
  have h5:=condW_of h4 (w_not (w_lt w_lit (w_len_list (w_arg rfl))));rw[ar] at h5;refine Nat.le_of_not_lt λq=>?_;have q':(n:Int)<((ns.length:Nat):Int):=@f
  first
   |(rw[decide_eq_true q'] at h5;exact absurd h5 (@d))
   |(simp at h5;lia)
 cases hwl with
 |cons w1 w2=>
  cases w2;cases w1 with
  |list ho xb=>exact⟨_,_,ns,rfl,rfl,ho,zq ns _ xb,hlen⟩
theorem Ni(l:OpenLaw)(args):l.row.toRowW.claim.post args (.bool true) args=true :=
 postW_of (r:=l.row.toRowW) (X:=(true == true))
  (show WShape.has [] (.bool true) .bool=true by first |rfl |decide |simp[WShape.has,WShape.arms,WShape.armsAll])
  (show(WTm.eq .res (.lit (.bool true))).value [] {args:=args,res:=some (.bool true),after:=args}=some (.bool (true == true)) from w_eq_bool (w_res rfl) w_lit) rfl
theorem Ii{l:OpenLaw}{n:Nat}{q:bC}{loose:@y}{XP:(@aK)->Heap->Prop}{YP:World->Heap->Prop}{d:DefRec}
  (hn:l.most=some n) (hdf:d.params.defaults=[])
  (call:∀(w:World) (ji fN:ay) (mg mb:@aK) (fa:Addr) (o:Obj) (pm cd doc:Value) (a:Addr) (vs:@s) (ns:@u),
   Ground q loose [] XP w ji mg mb fN.heap->YP w fN.heap ->
   fN.heap.get? fa=@g->o.data=.func (docDef d.name d.params d.body d.scope pm cd doc)->fN.heap.CodeRec cd d.name->mg d.name=some (.ref fa) ->
   fN.heap.get? a=some {cls:=@Q,data:=.seq vs.toArray}->jT vs ns->ns.length<=n->fN.gens=#[] ->
   xM (model l.prog w) Ja (.call (.ref fa) ⟨[@S],[]⟩) (λr s'=>r=.ok (.ret (.bool true))/\OldK fN.heap s'.heap/\s'.os=fN.os/\Ab s'.gens) fN):
  WalkO q loose XP YP l.row.toRowW d [] (λf vs=>K3 f vs):=by
 intro w ji fN mg mb G Y fa o pm cd doc dV kV ho hd L6 hD hmg hg args vals as tH aiT hrd hwl hlo;obtain rfl:dV=.none:=Dflts.none hD hdf;obtain rfl:kV=.none:=Dflts.noKw hD;obtain⟨a,vs,ns,rfl,rfl,Yw,hints,hlen⟩:=M4 hn tH hwl;refine enter_call (zZ (call w ji fN mg mb fa o pm cd doc a vs ns G Y ho (fd_plain hd) L6 hmg Yw hints hlen hg) λr s' hq=>?_);obtain⟨rfl,h2,h3,h4⟩:=hq;exact⟨.inl ⟨.bool true,.bool true,[],rfl,λ_=>rfl,.bool true,Ni l _,λ_=>⟨List.Pairwise.nil,λ_ hm=>(nomatch hm)⟩⟩,h2,h3,h4⟩
end Att
namespace L2
open PySem PySem.Spec PyProof.Rows
theorem CN:∀{vs:@s} {ns:@u},jT vs ns->Vals (ns.map V.int) vs
 |_,_,.nil=>.nil
 |_,_,.cons n t h=>.cons ⟨t,rfl⟩ (CN h)
def V2(H:Hp):Prop:=∀b,H b=none\/∃o xs,H b=some (.i9 o (.lst xs))
theorem QV{K:aq}
  (KX:K.In fN.heap) (LZ:fN.heap.Ns bK mg) (hb:fN.heap.Ns builtinsNs mb) (hbb:∀x:Str,x≠"__name__"->mb x=df x) (aeg:fN.heap.NoLimit) (hg:fN.gens=#[])
  (ha:fN.heap.get? a=some {cls:=@Q,data:=.seq vs.toArray}) (hi:jT vs ns) (hl:ns.length<=bc) (hr:j4 k Ja)
  (F:∀base:Heap,K.In base->base.Ns bK mg->rX P w K mg base CX k fa fd [x] sp) (abd:∀(s:ay) (u:Value),BindsTo s fd ⟨[u],[]⟩ [(x,u)])
  (Rq:∀H:Hp,V2 H->qB K H a (ns.map V.int)->sp [@S] H (λv _=>v=.bl true) λ_ _ _=>False)
  (hCX:∀H e s',CX [] H fN (λ_ _ _=>False) e s'->False):
  xM (model P w) Ja (.call (.ref fa) ⟨[@S],[]⟩) (λr s'=>r=.ok (.ret (.bool true))/\OldK fN.heap s'.heap/\s'.os=fN.os/\Ab s'.gens) fN:=by
 have rv:=CN hi;have adI:=hi.length;have core:∀H:Hp,V2 H->qB K H a (ns.map V.int)->oD P w H fN.heap->(∀b,H b≠none->b=a)->(H a≠none->K.lookup a=none) ->
   xM (model P w) Ja (.call (.ref fa) ⟨[@S],[]⟩) (λr s'=>r=.ok (.ret (.bool true))/\OldK fN.heap s'.heap/\s'.os=fN.os/\Ab s'.gens) fN:=by
  intro H hO hS bP hA hK;have Mx:∀{b:Addr} {o:Obj},fN.heap.get? b=@g->H b=none->(EA fN.heap H).get? b=@g:=λe n=>RE e n;have noA:∀{b:Addr} {o:Obj} {es:Array ft} {ep:Nat},fN.heap.get? b=@g->o.data=.dict es ep->H b=none:=λ{b o es ep} e d=>by
   cases q:H b with
   |none=>rfl
   |some u=>
    have e':b=a:=hA b (by rw[q];simp);subst e';rw[ha] at e;cases e;have d':Data.seq vs.toArray _=Data.dict es ep:=d;cases d'
  have nsK:∀{b:Addr} {m:@aK},fN.heap.Ns b m->(EA fN.heap H).Ns b m:=λ{b m} ⟨o,es,ep,e,d,r⟩=>⟨o,es,ep,Mx e (noA e d),d,r⟩;have hKb:K.In (EA fN.heap H):=λb o e=>Mx (KX b o e) (by
   cases q:H b with
   |none=>rfl
   |some u=>
    have e':b=a:=hA b (by rw[q];simp);subst e';rw[hK (by rw[q];simp)] at e;cases e)
  have hM:Mod K mg (EA fN.heap H):=⟨hKb,nsK LZ,⟨mb,nsK hb,hbb⟩,let ⟨mc,h1,h2⟩:=aeg;⟨mc,nsK h1,h2⟩⟩;have e0:SV P w K mg (EA fN.heap H) Ja [] fN H:=⟨rfl,hM,λb o e=>U8 e,Nat.le_of_eq (N1 _ _),trivial,λb hb=>absurd (show b∈([]:@ay) from hb) @i,bP,.of_eq hg⟩;refine zZ ((F _ hKb (nsK LZ)).run Ja [] fN H ⟨[@S],[]⟩ [@S] [@S] _ _ hr e0 (abd fN @r) (.cons rfl .nil) (Rq H hO hS)) λr s' h=>?_;cases r with
  |error e=>exact(hCX H e s' h).elim
  | ok fl=>
   cases fl with
   |next=>exact bI h
   |brk=>exact bI h
   |cont=>exact bI h
   | ret u=>
    obtain⟨v,H',os,bare,un,Ke,r',q⟩:=h;have q':v=.bl true:=q;subst q';obtain rfl:u=K0 true:=r';refine⟨rfl,OldK.of_keep λb o e=>?_,os,bare⟩;cases q:H b with
    |none=>exact un.keep b o e q (by intro z;exact absurd (show b∈([]:@ay) from z) @i) @i
    |some u=>
     rcases hO b with z |⟨ob,xs,z⟩
     .rw[q] at z;cases z
     .have z2:=un.qY b ob _ z;obtain⟨e1,_⟩:=bP b _ z;obtain⟨e2,_⟩:=Ke b _ z2;rw[e] at e1;cases e1;exact e2
 cases hk:K.lookup a with
 |some o=>
  have e:=KX a o hk;rw[ha] at e;cases e;refine core (λ_=>none) (λ_=>@W) (.inr ⟨_,vs.toArray,_,hk,rfl,rfl,rfl,by rw[bp,adI];exact hl,by simpa using rv⟩) (λb u z=>by have z':(none:Option HO)=@K:=z;cases z') (λb z=>absurd rfl z) λz=>absurd rfl z
 | none=>
  refine core (λb=>if b=a then some (.i9 {cls:=@Q,data:=.seq vs.toArray} (.lst (ns.map V.int))) else none) (λb=>?_) (.inl (.inr ⟨{cls:=@Q,data:=.seq vs.toArray},if_pos rfl⟩)) (λb u z=>?_) (λb z=>?_) λ_=>hk
  .by_cases hb:b=a
   .exact .inr ⟨_,_,if_pos hb⟩
   .exact .inl (if_neg hb)
  .by_cases hb:b=a
   .have z':=(if_pos hb).symm.trans z;cases z';subst hb;exact⟨ha,by rw[ar];exact hl,vs,_,rv,ha⟩
   .have z':=(if_neg hb).symm.trans z;cases z'
  .by_cases hb:b=a
   .exact hb
   .exact absurd (if_neg hb) z
theorem TJ{l:DR}{n k:Nat}{q:bC}{loose:@y}{XP:(@aK)->Heap->Prop}{YP:World->Heap->Prop}{d:DefRec}{K:pW->aq}{CX:World->MI}{sp:World->Sp}{x:Str}
  (hn:l.most=some n) (hn2:n<=bc) (hdf:d.params.defaults=[]) (hr:j4 k Ja)
  (hY:∀(w:World) (h:Heap),YP w h->(K w.params).In h)
  (F:∀(w:World) (mg:@aK) (fa:Addr) (h:Heap),(K w.params).In h->h.Ns bK mg->mg d.name=some (.ref fa) ->
   ∃fd:fV,(∀(s:ay) (u:Value),BindsTo s fd ⟨[u],[]⟩ [(x,u)]) /\
    ∀base:Heap,(K w.params).In base->base.Ns bK mg->rX l.prog w (K w.params) mg base (CX w) k fa fd [x] (sp w))
  (Rq:∀(w:World) (H:Hp) (a:Addr) (ns:@u),ns.length<=n->V2 H->qB (K w.params) H a (ns.map V.int)->sp w [@S] H (λv _=>v=.bl true) λ_ _ _=>False)
  (hCX:∀(w:World) (H:Hp) (s:ay) (e:Value) (s':ay),CX w [] H s (λ_ _ _=>False) e s'->False):
  PySem.W.WalkO q loose XP YP l.row.toRowW d [] (λf vs=>K3 f vs):=by
 refine Att.Ii hn hdf λw ji fN mg mb fa o pm cd doc a vs ns G Y ho hd L6 hmg Yw hints hlen hg=>?_;have KX:=hY w _ Y;obtain⟨fd,hb,hF⟩:=F w mg fa _ KX G.T.g hmg;exact QV KX G.T.g G.T.b G.T.builtins G.T.nolimit hg Yw hints (bh hlen hn2) hr hF hb (λH hO hS=>Rq w H a ns hlen hO hS) λH e s'=>hCX w H fN e s'
end L2
/- THE aj8 acM (shape;LID,My.* are afo):
   My.Adr:a structure of the addresses aho ahi af0 names (classes,ZA);My.Txt K t:a structure (Prop) of the equations over K;
   My.ac0:{K} {implicit addresses ..} (e1:nsIn K bK "law"=some (some (.ref f))) (e2:K.lookup f=some ⟨oc,od,.func (fnOf "law" "law" params body scope dV kV doc pm an ib ct),sl⟩) (e3:codeIn K ib "law"=true) ..:∃t,My.Txt K t
(the tactic k_is has no namespace:write k_is) -/
namespace L2
open PySem PySem.Spec PyProof.Rows
abbrev MJ:MI:=λ_ _ _ _ _ _=>False
abbrev E0:XK:=λ_ _ _=>False
theorem aak:Passes MJ X E0:=λ_ _ _ _ _ _ _ h=>h.elim
structure Ts(K:aq)(x qual:Str)(st:Stmt)(f:Addr)(fd:fV):Prop where
 ex:∃(oc:Value) (od:Option Addr) (kV doc pm:Value) (an:Option Addr) (ib ct:Value) (LD:Array (Option Value)),
  fd=kY x qual (jg st) (fk st) (cf st) .none kV doc pm an ib ct/\K.lookup f=some ⟨oc,od,.func fd,LD⟩/\FJ K ib qual=true
 kp:qF K (.ref f)=true
section
variable {P:bC} {w:World} {K:aq} {mg:@aK} {base:Heap}
theorem Ts.ok{st:Stmt}(F:Ts K x qual st f fd)(S:kb N ps (cf st))(len:∀vs H Q E,sp vs H Q E->vs.length=ps.length)
  (RJ:∀(ib:Value) (A:cH) (outer:@aG) (s:ay) (H:Hp) (vs:@w) (Q:VK) (E:XK),j4 k (A.deeper (zY qual (cf st) s.heap.objs.size f ib))->sp vs H Q E ->
   ∃t,ZI (xq MJ P w K mg base N qual (cf st) f ib A outer s H E).X8 (fk st) t/\t {nx:=λ_ H'=>Q .eX H',rt:=Q} (start N vs) H):rX P w K mg base MJ (k+1) f fd ps sp:=by
 obtain⟨oc,od,kV,doc,pm,an,ib,ct,LD,rfl,lk,L6⟩:=F.ex;refine WK lk L6 S len λA outer s H vs Q E hr Rq=>?_;obtain⟨t,h,q⟩:=RJ ib A outer s H vs Q E hr Rq;exact⟨t,h.X8,q⟩
theorem Ts.binds{st:Stmt}(F:Ts K x qual st f fd)
  (h:∀(kV doc pm:Value) (an:Option Addr) (ib ct:Value) (us:@s),us.length=ps.length->OI (kY x qual (jg st) (fk st) (cf st) .none kV doc pm an ib ct) ⟨us,[]⟩=pure (ps.zip us)):Binds K fd ps []:=by
 obtain⟨oc,od,kV,doc,pm,an,ib,ct,LD,rfl,lk,L6⟩:=F.ex;exact .all (h kV doc pm an ib ct)
theorem YU{st:Stmt}{kV:Value}(l:K.lookup f=some ⟨oc,od,.func (kY x qual (jg st) (fk st) (cf st) .none kV doc pm an ib ct),LD⟩)
  (c:FJ K ib qual=true) (k:qF K (.ref f)=true):Ts K x qual st f (kY x qual (jg st) (fk st) (cf st) .none kV doc pm an ib ct):=⟨⟨oc,od,kV,doc,pm,an,ib,ct,LD,rfl,l,c⟩,k⟩
end
end L2
section
namespace K2
open PySem (Str)
abbrev PK:=List (List (@u))
inductive D where
 |eX |bl (b:Bool) |int (i:Int) |str (x:Str) |tup (ds:@e) |dF (ds:@e) |fZ (kvs:@af) |ref (a:Nat) |exc (c:Str) |BA (c:Str) (ns:@y) (ds:@e) |kF (kvs:List (PK×D))
 deriving Inhabited
inductive GO where
 |lst (ds:@e)
 |eG (kvs:@af)
 |ins (c:Str) (fs:List (Str×D))
 |se (kvs:List (PK×D))
abbrev Gp:=Nat->Option GO
noncomputable def di(G:Gp)(a:Nat)(o:GO):Gp:=λb=>if b=a then @g else G b
theorem av:di G a o a=@g:=by unfold di;rw[if_pos rfl]
theorem bO(h:b≠a):di G a o b=G b:=by unfold di;rw[if_neg h]
noncomputable abbrev SZ:Nat:=16777216
structure Ex where
 cls:Str
 yi:List (Str×D)
abbrev k7:=Ex->@l
abbrev iE:=List (@aD)
abbrev DK:=D->@l
abbrev fB:=k7->iE->Gp->DK->Prop
abbrev yy:=k7->iE->Gp->(Bool->@l)->Prop
abbrev Cd:=k7->iE->Gp->(@e->@l)->Prop
structure mx where
 nx:iE->@l
 rt:DK
 bk:iE->@l
 ct:iE->@l
abbrev gj:=k7->mx->iE->@l
abbrev jl:=@e->Gp->DK->k7->Prop
abbrev zP:=D->D->Gp->DK->Prop
noncomputable def J4(n:Nat)(i:Int):Option Nat:=if 0<=i then(if i<n then some i.toNat else none) else if -(n:Int)<=i then some (i+n).toNat else none
def rD{α:Type}(xs:@v)(i:Int):Option α:=(J4 xs.length i).bind λj=>xs[j]?
noncomputable def j9(n d:Nat):@aP->Nat
 |none=>d
 |some v=>if v<0 then(v+(n:Int)).toNat else min v.toNat n
def cut{α:Type}(xs:@v)(lo hi:@aP):@v:=(xs.drop (j9 xs.length 0 lo)).take (j9 xs.length xs.length hi-j9 xs.length 0 lo)
mutual
noncomputable def jC:D->D->Bool
 |.eX,.eX=>true
 |.bl a,.bl b=>a == b
 |.bl a,.int b=>(if a then 1 else 0) == b
 |.int a,.bl b=>a == (if b then 1 else 0)
 |.int a,.int b=>a == b
 |.str a,.str b=>a == b
 |.tup a,.tup b=>lT a b
 |.dF a,.dF b=>lT a b
 |_,_=>false
noncomputable def lT:@e->@e->Bool
 |[],[]=>true
 |a::r,b::t=>jC a b&&lT r t
 |_,_=>false
end
mutual
noncomputable def nr:D->Bool
 |.ref _=>false
 |.exc _=>false
 |.BA _ _ _=>false
 |.fZ _=>false
 |.kF _=>false
 |.str x=>x.cps.all (·<0x110000)
 |.tup ds=>tu ds
 |.dF ds=>tu ds
 |_=>true
noncomputable def tu:@e->Bool
 |[]=>true
 |d::r=>nr d&&tu r
end
class inductive Sn (G:Gp):Nat->D->D->Prop
 |eX {n:Nat}:Sn G n .eX .eX
 |bl {n:Nat} (b:Bool):Sn G n (.bl b) (.bl b)
 |int {n:Nat} (i:Int):Sn G n (@A) (@A)
 |str {n:Nat} (x:Str) (h:x.cps.all (·<0x110000)=true):Sn G n (.str x) (.str x)
 |Js {n:Nat}:Sn G (n+1) (.tup []) (.tup [])
 |sM {n:Nat} {d s:D} {ds ss:@e}:Sn G n d s->Sn G (n+1) (.tup ds) (.tup ss)->Sn G (n+1) (.tup (d::ds)) (.tup (s::ss))
 |Gb {n:Nat}:Sn G (n+1) (.dF []) (.dF [])
 |vd {n:Nat} {d s:D} {ds ss:@e}:Sn G n d s->Sn G (n+1) (.dF ds) (.dF ss)->Sn G (n+1) (.dF (d::ds)) (.dF (s::ss))
 |ref {n:Nat} {a:Nat} {ds ss:@e}:G a=some (.lst ds)->Sn G n (.dF ds) (.dF ss)->Sn G n @r (.dF ss)
noncomputable abbrev SN:Nat:=8
theorem Sn.nr(h:Sn G n d t):K2.nr t=true:=by
 induction h with
 |eX=>rfl
 |bl b=>rfl
 |int i=>rfl
 |str x h=>exact h
 |Js=>rfl
 |sM _ _ Rn Rm=>
  show(K2.nr _&&K2.tu _)=true;rw[Rn];exact Rm
 |Gb=>rfl
 |vd _ _ Rn Rm=>
  show(K2.nr _&&K2.tu _)=true;rw[Rn];exact Rm
 |ref _ _ ih=>exact ih
noncomputable def lb(k:PK):D:=.tup (k.map λr=>.tup (r.map λt=>.tup (t.map D.int)))
noncomputable def eT:D->Bool
 |.int _=>true
 |.str _=>true
 |_=>false
def IK:D->Gp->Option Bool
 |.eX,_=>some false
 |.bl b,_=>some b
 |.int i,_=>some (i != 0)
 |.str x,_=>if x.length<=SZ then some ((x.length:Int) != 0) else none
 |.tup ds,_=>some (!ds.isEmpty)
 |.dF ds,_=>some (!ds.isEmpty)
 |.exc _,_=>none
 |.BA _ _ _,_=>none
 |.kF _,_=>none
 |.fZ kvs,_=>if(kvs.all λp=>eT p.1)=true then some (!kvs.isEmpty) else none
 |.ref a,G=>match G a with
  |some (.lst ds)=>some (!ds.isEmpty)
  |some (.eG kvs)=>if(kvs.all λp=>eT p.1)=true then some (!kvs.isEmpty) else none
  |_=>none
def ak(i:Nat):fB:=λ_ τ G Q=>match τ[i]? with
 |some (some d)=>Q d G
 |_=>False
def dC(d:D):fB:=λ_ _ G Q=>Q d G
def aM:Cd:=λ_ _ G Q=>Q [] G
def ao(a:fB)(r:Cd):Cd:=λE τ G Q=>a E τ G λx G1=>r E τ G1 λxs G2=>Q (x::xs) G2
def eM(t:Cd):fB:=λE τ G Q=>t E τ G λds G1=>ds.length<=SZ/\Q (.tup ds) G1
def fA(t:Cd):fB:=λE τ G Q=>t E τ G λds G1=>ds.length<=SZ/\∀p,G1 p=none->Q (.ref p) (di G1 p (.lst ds))
def aN(r:zP)(a b:fB):fB:=λE τ G Q=>a E τ G λx G1=>b E τ G1 λy G2=>r x y G2 Q
def ES(r:D->Gp->DK->Prop)(a:fB):fB:=λE τ G Q=>a E τ G λx G1=>r x G1 Q
def fy(G:Gp)(o:GO)(Q:DK):Prop:=∀p,G p=none->Q (.ref p) (di G p o)
def MulOk(i j:Int):Prop:=(-(2 ^ 64)<i/\i<2 ^ 64)\/(-(2 ^ 64)<j/\j<2 ^ 64)
noncomputable def oQ:D->Gp->Option (@e)
 |.dF ds,_=>some ds
 |.ref a,G=>match G a with
  |some (.lst ds)=>some ds
  |_=>none
 |_,_=>none
def zr(x y:D)(G:Gp)(Q:DK):Prop:=match oQ x G,oQ y G with
 |some xs,some ys=>xs.length+ys.length<=SZ/\fy G (.lst (xs++ys)) Q
 |_,_=>False
def fx:zP
 |.int i,.int j,G,Q=>Q (.int (i+j)) G
 |.str a,.str b,G,Q=>a.length+b.length<=SZ/\Q (.str (a++b)) G
 |.tup a,.tup b,G,Q=>a≠[]/\a.length+b.length<=SZ/\Q (.tup (a++b)) G
 |x,y,G,Q=>zr x y G Q
def D8:zP
 |.int i,.int j,G,Q=>Q (.int (i-j)) G
 |_,_,_,_=>False
def wB:zP
 |.int i,.int j,G,Q=>MulOk i j/\Q (.int (i*j)) G
 |_,_,_,_=>False
def pN:zP
 |.int i,.int j,G,Q=>0<j/\Q (.int (i % j)) G
 |_,_,_,_=>False
def ve:zP
 |.int i,.int j,G,Q=>0<j/\j<2 ^ 30/\Q (.int (i / j)) G
 |_,_,_,_=>False
def zj:D->Gp->DK->Prop
 |.int i,G,Q=>Q (.int (-i)) G
 |_,_,_=>False
def Cq(neg:Bool):zP:=λx y G Q=>∃a b,Sn G SN x a/\Sn G SN y b/\Q (.bl (if neg then !jC a b else jC a b)) G
noncomputable def lexLt:@u->@u->Bool
 |[],[]=>false
 |[],_::_=>true
 |_::_,[]=>false
 |x::xs,y::ys=>if x=y then lexLt xs ys else decide (x<y)
def Z9:zP
 |.int i,.int j,G,Q=>Q (.bl (decide (i<j))) G
 |.tup a,.tup b,G,Q=>∃xs ys,a=xs.map D.int/\b=ys.map D.int/\Q (.bl (lexLt xs ys)) G
 |_,_,_,_=>False
def rLe:zP
 |.int i,.int j,G,Q=>Q (.bl (decide (i<=j))) G
 |_,_,_,_=>False
def rGt:zP
 |.int i,.int j,G,Q=>Q (.bl (decide (i>j))) G
 |_,_,_,_=>False
def rGe:zP
 |.int i,.int j,G,Q=>Q (.bl (decide (i>=j))) G
 |_,_,_,_=>False
noncomputable def itemsOf:D->Gp->Option (@e)
 |.tup ds,_=>some ds
 |.dF ds,_=>some ds
 |.ref a,G=>match G a with
  |some (.lst ds)=>some ds
  |_=>none
 |_,_=>none
def lB:D->Bool
 |.tup ds=>ds.all eT
 |_=>false
def iC(kvs:@af)(k:D):Bool:=(eT k&&kvs.all λp=>eT p.1)||(lB k&&kvs.all λp=>lB p.1)
def look(kvs:@af)(k:D):@aD:=(kvs.find? λp=>jC p.1 k).map (·.2)
def put(kvs:@af)(k v:D):@af :=
 if(kvs.any λp=>jC p.1 k)=true then kvs.map (λp=>if jC p.1 k=true then(p.1,v) else p) else kvs++[(k,v)]
def Cp(neg:Bool):zP:=λx y G Q=>match y with
 |.ref a=>(match G a with
  |some (.eG kvs)=>iC kvs x=true/\Q (.bl (if neg then !(look kvs x).isSome else(look kvs x).isSome)) G
  |some (.lst ds)=>∃s ss,Sn G SN x s/\Sn G SN (.dF ds) (.dF ss)/\Q (.bl (if neg then !ss.any (jC · s) else ss.any (jC · s))) G
  |_=>False)
 |.fZ kvs=>kvs≠[]/\iC kvs x=true/\Q (.bl (if neg then !(look kvs x).isSome else(look kvs x).isSome)) G
 |.tup ds=>∃s ss,Sn G SN x s/\Sn G SN (.dF ds) (.dF ss)/\Q (.bl (if neg then !ss.any (jC · s) else ss.any (jC · s))) G
 |.dF ds=>∃s ss,Sn G SN x s/\Sn G SN (.dF ds) (.dF ss)/\Q (.bl (if neg then !ss.any (jC · s) else ss.any (jC · s))) G
 |_=>False
def gq:zP
 |.tup ds,.int i,G,Q=>(match rD ds i with
  |some d=>Q d G
  |none=>False)
 |.dF ds,.int i,G,Q=>(match rD ds i with
  |some d=>Q d G
  |none=>False)
 |.fZ kvs,k,G,Q=>iC kvs k=true/\(match look kvs k with
  |some d=>Q d G
  |none=>False)
 | .ref a,k,G,Q=>(match G a with
  | some (.lst ds)=>(match k with
   |.int i=>(match rD ds i with
    |some d=>Q d G
    |none=>False)
   |_=>False)
  |some (.eG kvs)=>iC kvs k=true/\(match look kvs k with
   |some d=>Q d G
   |none=>False)
  |_=>False)
 |_,_,_,_=>False
abbrev TO2:=k7->iE->Gp->(@aP->@l)->Prop
def fm:TO2:=λ_ _ G Q=>Q none G
def nV(t:fB):TO2:=λE τ G Q=>t E τ G λx G1=>match x with
 |.int i=>Q (some i) G1
 |_=>False
def T7:D->@aP->@aP->Gp->DK->Prop
 |.tup ds,lo,hi,G,Q=>¬ (j9 ds.length 0 lo=0/\j9 ds.length ds.length hi=ds.length)/\Q (.tup (cut ds lo hi)) G
 |.dF ds,lo,hi,G,Q=>fy G (.lst (cut ds lo hi)) Q
 |.ref a,lo,hi,G,Q=>(match G a with
  |some (.lst ds)=>fy G (.lst (cut ds lo hi)) Q
  |_=>False)
 |_,_,_,_,_=>False
def zK(a:fB)(lo hi:TO2):fB:=λE τ G Q=>a E τ G λx G1=>lo E τ G1 λl G2=>hi E τ G2 λh G3=>T7 x l h G3 Q
def gy(a:fB):yy:=λE τ G Q=>a E τ G λx G1=>match IK x G1 with
 |some b=>Q b G1
 |none=>False
def EU(a b:yy):yy:=λE τ G Q=>a E τ G λc G1=>if c=true then b E τ G1 Q else Q false G1
def IT(a b:yy):yy:=λE τ G Q=>a E τ G λc G1=>if c=true then Q true G1 else b E τ G1 Q
def nW(a:yy):yy:=λE τ G Q=>a E τ G λc G1=>Q (!c) G1
def HP(a b:fB):fB:=λE τ G Q=>a E τ G λx G1=>match IK x G1 with
 |some true=>b E τ G1 Q
 |some false=>Q x G1
 |none=>False
def abG(a b:fB):fB:=λE τ G Q=>a E τ G λx G1=>match IK x G1 with
 |some true=>Q x G1
 |some false=>b E τ G1 Q
 |none=>False
def Mm(a:fB):fB:=λE τ G Q=>a E τ G λx G1=>match IK x G1 with
 |some c=>Q (.bl (!c)) G1
 |none=>False
def dIf(c:yy)(a b:fB):fB:=λE τ G Q=>c E τ G λk G1=>if k=true then a E τ G1 Q else b E τ G1 Q
def bb(sp:jl)(t:Cd):fB:=λE τ G Q=>t E τ G λds G1=>sp ds G1 Q @j
def jJ(r:@e->Gp->DK->Prop)(t:Cd):fB:=λE τ G Q=>t E τ G λds G1=>r ds G1 Q
def IJ(x:D)(G:Gp):Prop:=match x with
 |.ref a=>(match G a with
  |some (.lst _)=>True
  |_=>False)
 |.dF _=>True
 |_=>False
def MT(x:D)(G:Gp):Prop:=match x with
 |.fZ _=>True
 |.ref a=>(match G a with
  |some (.eG _)=>True
  |_=>False)
 |_=>False
def tyS(x:D)(_:Gp):Prop:=match x with
 |.str _=>True
 |_=>False
def oY(ty:D->@l)(r:D->@e->Gp->DK->Prop)(o:fB)(t:Cd):fB:=λE τ G Q=>o E τ G λx G1=>ty x G1/\t E τ G1 λds G2=>r x ds G2 Q
def lenOf:D->Gp->Option Nat
 |.tup ds,_=>some ds.length
 |.dF ds,_=>some ds.length
 |.str x,_=>if x.length<=SZ then some x.length else none
 |.fZ kvs,_=>if(kvs.all λp=>eT p.1)=true then some kvs.length else none
 |.ref a,G=>match G a with
  |some (.lst ds)=>some ds.length
  |some (.eG kvs)=>if(kvs.all λp=>eT p.1)=true then some kvs.length else none
  |_=>none
 |_,_=>none
def pR(ds:@e)(G:Gp)(Q:DK):Prop:=match ds with
 |[x]=>(match lenOf x G with
  |some n=>Q (.int (n:Int)) G
  |none=>False)
 |_=>False
def rN(ds:@e)(G:Gp)(Q:DK):Prop:=match ds with
 |[x]=>(match itemsOf x G with
  |some xs=>fy G (.lst xs) Q
  |none=>False)
 |_=>False
noncomputable def Ww(C:String):D->Gp->Option Bool
 |.eX,_=>some false
 |.bl _,_=>some (C == "bool" || @ax)
 |.int _,_=>some (@ax)
 |.str _,_=>some (C == "str")
 |.tup _,_=>some (C == "tuple")
 |.dF _,_=>some (C == "list")
 |.fZ _,_=>some (C == "dict")
 |.exc _,_=>none
 |.BA _ _ _,_=>none
 |.kF _,_=>none
 |.ref a,G=>match G a with
  |some (.lst _)=>some (C == "list")
  |some (.eG _)=>some (C == "dict")
  |_=>none
def HM(C:String)(a:fB):fB:=λE τ G Q=>a E τ G λx G1=>match Ww C x G1 with
 |some b=>Q (.bl b) G1
 |none=>False
def ka(x:D)(ds:@e)(G:Gp)(Q:DK):Prop:=match x,ds with
 |.ref a,[d]=>(match G a with
  |some (.lst xs)=>xs.length<SZ/\Q .eX (di G a (.lst (xs++[d])))
  |_=>False)
 |_,_=>False
def uA(x:D)(ds:@e)(G:Gp)(Q:DK):Prop:=match x,ds with
 |.ref a,[y]=>(match G a,oQ y G with
  |some (.lst xs),some ys=>xs.length+ys.length<=SZ/\Q .eX (di G a (.lst (xs++ys)))
  |_,_=>False)
 |_,_=>False
def Vf(x:D)(ds:@e)(G:Gp)(Q:DK):Prop:=match x,ds with
 |.ref a,[.int i,d]=>(match G a with
  |some (.lst xs)=>0<=i/\i<=xs.length/\xs.length<SZ/\Q .eX (di G a (.lst (xs.take i.toNat++d::xs.drop i.toNat)))
  |_=>False)
 |_,_=>False
def GI(x:D)(ds:@e)(G:Gp)(Q:DK):Prop:=match x,ds with
 | .ref a,[k,d]=>(match G a with
  |some (.eG kvs)=>iC kvs k=true/\eT k=true/\(match look kvs k with
   |some v=>Q v G
   |none=>kvs.length<SZ/\Q d (di G a (.eG (put kvs k d))))
  |_=>False)
 |_,_=>False
def dj:gj:=λ_ K τ G=>K.nx τ G
def bz(a b:gj):gj:=λE K τ G=>a E {K with nx:=b E K} τ G
def iO(a:fB):gj:=λE K τ G=>a E τ G λ_ G1=>K.nx τ G1
def cb(a:fB):gj:=λE K τ G=>a E τ G K.rt
def HI:gj:=λ_ K _ G=>K.rt .eX G
def fT(c:yy)(a b:gj):gj:=λE K τ G=>c E τ G λk G1=>if k=true then a E K τ G1 else b E K τ G1
def vJ:gj:=λ_ _ _ _=>False
abbrev y8:=k7->D->iE->Gp->(iE->@l)->Prop
abbrev Fd:=k7->@e->iE->Gp->(iE->@l)->Prop
def aE(i:Nat):y8:=λ_ d τ G Q=>Q (τ.set i (@O)) G
def hW:Fd:=λ_ ds τ G Q=>match ds with
 |[]=>Q τ G
 |_=>False
def cY(t:y8)(r:Fd):Fd:=λE ds τ G Q=>match ds with
 |d::ds=>t E d τ G λqH G1=>r E ds qH G1 Q
 |_=>False
def hV(t:Fd):y8:=λE d τ G Q=>match d with
 |.tup ds=>t E ds τ G Q
 |_=>False
def Ay(o k d:D)(G:Gp)(Q:@l):Prop:=match o with
 | .ref a=>(match G a with
  | some (.lst xs)=>(match k with
   |.int i=>(match J4 xs.length i with
    |some j=>Q (di G a (.lst (xs.set j d)))
    |none=>False)
   |_=>False)
  |some (.eG kvs)=>iC kvs k=true/\kvs.length<SZ/\Q (di G a (.eG (put kvs k d)))
  |_=>False)
 |_=>False
def eU(o k:fB):y8:=λE d τ G Q=>o E τ G λx G1=>k E τ G1 λy G2=>Ay x y d G2 λG3=>Q τ G3
def aQ(a:fB)(g:y8):gj:=λE K τ G=>a E τ G λx G1=>g E x τ G1 K.nx
abbrev Fx:=k7->iE->Gp->(@e->(@l)->@l)->Prop
def ko(a:fB):Fx:=λE τ G R=>a E τ G λx G1=>match x with
 |.tup ds=>R ds @aw G1
 |.dF ds=>R ds @aw G1
 |.ref p=>(match G1 p with
  |some (.lst ds)=>R ds (λG2=>G2 p=some (.lst ds)) G1
  |_=>False)
 |_=>False
noncomputable def gC(lo:Int)(n:Nat):@e:=(eV n).map λ(i:Nat)=>D.int (lo+(i:Int))
def qm(a:fB):Fx:=λE τ G R=>a E τ G λx G1=>match x with
 |.int n=>-(2 ^ 62)<=n/\n<2 ^ 62/\R (gC 0 n.toNat) @aw G1
 |_=>False
def qt(g:y8)(body:gj)(ok:@l):@e->gj
 |[]=>λ_ K τ G=>ok G/\K.nx τ G
 |d::r=>λE K τ G=>ok G/\g E d τ G λqH G1=>body E {K with nx:=qt g body ok r E K,ct:=qt g body ok r E K,bk:=K.nx} qH G1
def cq(i:Fx)(g:y8)(body:gj):gj:=λE K τ G=>i E τ G λds ok G1=>qt g body ok ds E K τ G1
def vZ(c:yy)(body:gj):Nat->gj
 |0=>λ_ _ _ _=>False
 |n+1=>λE K τ G=>c E τ G λk G1=>if k=true then body E {K with nx:=vZ c body n E K,ct:=vZ c body n E K,bk:=K.nx} τ G1 else K.nx τ G1
def BH(c:yy)(body:gj):gj:=λE K τ G=>∃n,vZ c body n E K τ G
def iD(g:y8)(c:Option yy)(e:fB)(ok:@l):@e->k7->iE->Gp->@e->(@e->@l)->Prop
 |[],_,_,G,acc,Q=>ok G/\Q acc G
 |d::r,E,τ,G,acc,Q=>ok G/\g E d τ G λqH G1=>match c with
  |none=>e E qH G1 λx G2=>iD g c e ok r E qH G2 (acc++[x]) Q
  |some c=>c E qH G1 λk G2=>if k=true then e E qH G2 λx G3=>iD g (some c) e ok r E qH G3 (acc++[x]) Q else iD g (some c) e ok r E qH G2 acc Q
noncomputable def tW(m:Nat)(fr:List Nat)(τ:iE):iE:=aP m none++fr.map λi=>(τ[i]?).getD none
def gO(m:Nat)(fr:List Nat)(i:Fx)(g:y8)(c:Option yy)(e:fB):fB:=λE τ G Q=>
 i E τ G λds ok G1=>ds.length<=SZ/\iD g c e ok ds (@j) (tW m fr τ) G1 [] λxs G2=>fy G2 (.lst xs) Q
def hX:fB:=λ_ _ G Q=>fy G (.eG []) Q
def dH(G G':Gp):Prop:=∀a o,G a=@g->G' a=@g
theorem dH.refl(G):dH G G:=λ_ _ h=>h
theorem dH.trans(a:dH G G1)(b:dH G1 G2):dH G G2:=λc o h=>b c o (a c o h)
theorem dH.new{G:Gp}{p:Nat}{o:GO}(h:G p=none):dH G (di G p o):=λa ob e=>by
 by_cases ha:a=p
 .subst ha;rw[h] at e;cases e
 .rw[bO ha];exact e
theorem dH.free(l:@H)(h:G' p=none):G p=none:=by
 cases q:G p with
 |none=>rfl
 |some o=>rw[l p o q] at h;cases h
theorem dH.put(l:@H)(h:G p=none):dH G (di G' p o):=λa ob e=>by
 by_cases ha:a=p
 .subst ha;rw[h] at e;cases e
 .rw[bO ha];exact l a ob e
noncomputable def ends(Q:DK):mx:=⟨λ_ G=>Q .eX G,Q,@j,@j⟩
noncomputable def aY(n:Nat)(ds:@e):iE:=ds.map some++aP (n-ds.length) none
def Te(x:D)(G1:Gp)(R:@e->(@l)->@l):Prop:=match x with
 |.tup ds=>R ds @aw G1
 |.dF ds=>R ds @aw G1
 |.ref p=>(match G1 p with
  |some (.lst ds)=>R ds (λG2=>G2 p=some (.lst ds)) G1
  |_=>False)
 |_=>False
def Qo(x:D)(G1:Gp)(Q:@aP->@l):Prop:=match x with
 |.int i=>Q (some i) G1
 |_=>False
def sJ(x:D)(G1:Gp)(Q:Bool->@l):Prop:=match IK x G1 with
 |some b=>Q b G1
 |none=>False
def Wa(x:D)(G1:Gp)(R:@e->(@l)->@l):Prop:=match x with
 |.int n=>-(2 ^ 62)<=n/\n<2 ^ 62/\R (gC 0 n.toNat) @aw G1
 |_=>False
def isAt(C:String)(x:D)(G1:Gp)(Q:DK):Prop:=match Ww C x G1 with
 |some b=>Q (.bl b) G1
 |none=>False
theorem cJ:fx (@A) (.int j) G Q=Q (.int (i+j)) G:=rfl
theorem qa:fx (.tup a) (.tup b) G Q=(a≠[]/\a.length+b.length<=SZ/\Q (.tup (a++b)) G):=rfl
theorem j3:D8 (@A) (.int j) G Q=Q (.int (i-j)) G:=rfl
theorem jy:wB (@A) (.int j) G Q=(MulOk i j/\Q (.int (i*j)) G):=rfl
theorem fL:pN (@A) (.int j) G Q=(0<j/\Q (.int (i % j)) G):=rfl
theorem gY:ve (@A) (.int j) G Q=(0<j/\j<2 ^ 30/\Q (.int (i / j)) G):=rfl
theorem lN:zj (@A) G Q=Q (.int (-i)) G:=rfl
theorem um:Z9 (@A) (.int j) G Q=Q (.bl (decide (i<j))) G:=rfl
theorem wC:rLe (@A) (.int j) G Q=Q (.bl (decide (i<=j))) G:=rfl
theorem uq:rGt (@A) (.int j) G Q=Q (.bl (decide (i>j))) G:=rfl
theorem wF:rGe (@A) (.int j) G Q=Q (.bl (decide (i>=j))) G:=rfl
theorem T8(h:rD ds i=@O):gq (.dF ds) (@A) G Q=Q d G:=by unfold gq;simp only[h]
theorem T9{a:Nat}{ds:@e}{i:Int}{d:D}{G:Gp}{Q:DK}(h1:G a=some (.lst ds))(h:rD ds i=@O):gq @r (@A) G Q=Q d G:=by unfold gq;simp only[h1,h]
theorem ui:T7 (.tup ds) lo hi G Q=(¬ (j9 ds.length 0 lo=0/\j9 ds.length ds.length hi=ds.length)/\Q (.tup (cut ds lo hi)) G):=rfl
theorem uj:T7 (.dF ds) lo hi G Q=fy G (.lst (cut ds lo hi)) Q:=rfl
theorem T6{a:Nat}{ds:@e}{lo hi:@aP}{G:Gp}{Q:DK}(h:G a=some (.lst ds)):T7 @r lo hi G Q=fy G (.lst (cut ds lo hi)) Q:=by unfold T7;simp only[h]
theorem nY:pR [.dF ds] G Q=Q (.int (ds.length:Int)) G:=rfl
theorem tX:pR [.tup ds] G Q=Q (.int (ds.length:Int)) G:=rfl
theorem Ie{a:Nat}{ds:@e}{G:Gp}{Q:DK}(h:G a=some (.lst ds)):pR [@S] G Q=Q (.int (ds.length:Int)) G:=by unfold pR lenOf;simp only[h]
theorem dW:ko a E τ G R=a E τ G λx G1=>Te x G1 R:=by
 unfold ko Te;rfl
theorem oV:Te (.dF ds) G R=R ds @aw G:=rfl
theorem oU:Te (.tup ds) G R=R ds @aw G:=rfl
theorem Ey{a:Nat}{ds:@e}{G:Gp}{R:@e->(@l)->@l}(h:G a=some (.lst ds)):Te @r G R=R ds (λG2=>G2 a=some (.lst ds)) G:=by unfold Te;simp only[h]
theorem jD:nV t E τ G Q=t E τ G λx G1=>Qo x G1 Q:=rfl
theorem gw:Qo (@A) G Q=Q (some i) G:=rfl
theorem cD:gy a E τ G Q=a E τ G λx G1=>sJ x G1 Q:=rfl
theorem bJ:sJ (.bl b) G Q=Q b G:=rfl
theorem jB:qm a E τ G R=a E τ G λx G1=>Wa x G1 R:=rfl
theorem gX:Wa (.int n) G R=(-(2 ^ 62)<=n/\n<2 ^ 62/\R (gC 0 n.toNat) @aw G):=rfl
theorem oZ:HM C a E τ G Q=a E τ G λx G1=>isAt C x G1 Q:=rfl
theorem ql    :isAt C (@A) G Q=Q (.bl (@ax)) G:=rfl
theorem qk    :isAt C (.tup ds) G Q=Q (.bl (C == "tuple")) G:=rfl
theorem qv:HP a b E τ G Q=a E τ G λx G1=>sJ x G1 λk G2=>if k=true then b E τ G2 Q else Q x G2:=by
 unfold HP sJ;refine congrArg (a E τ G) ?_;funext x G1;cases IK x G1 with
 |none=>rfl
 |some k=>cases k<;>simp
theorem xp:abG a b E τ G Q=a E τ G λx G1=>sJ x G1 λk G2=>if k=true then Q x G2 else b E τ G2 Q:=by
 unfold abG sJ;refine congrArg (a E τ G) ?_;funext x G1;cases IK x G1 with
 |none=>rfl
 |some k=>cases k<;>simp
theorem qu:Mm a E τ G Q=a E τ G λx G1=>sJ x G1 λk G2=>Q (.bl (!k)) G2:=rfl
theorem lO:fx @r y G Q=zr @r y G Q:=by cases y<;>rfl
theorem nI:fx (.dF a) y G Q=zr (.dF a) y G Q:=by cases y<;>rfl
theorem uk:T7 @r lo hi G Q=(match G a with
  |some (.lst ds)=>fy G (.lst (cut ds lo hi)) Q
  |_=>False):=rfl
theorem D9:gq @r k G Q=(match G a with
  | some (.lst ds)=>(match k with
   |.int i=>(match rD ds i with
    |some d=>Q d G
    |none=>False)
   |_=>False)
  |some (.eG kvs)=>iC kvs k=true/\(match look kvs k with
   |some d=>Q d G
   |none=>False)
  |_=>False):=by unfold gq;cases k<;>rfl
theorem iM:gq (.tup ds) (@A) G Q=(match rD ds i with
  |some d=>Q d G
  |none=>False):=rfl
theorem jz:gq (.dF ds) (@A) G Q=(match rD ds i with
  |some d=>Q d G
  |none=>False):=rfl
theorem qw:rN [@S] G Q=(match G a with
  |some (.lst ds)=>fy G (.lst ds) Q
  |_=>False):=by
 unfold rN itemsOf;cases h:G a with
 |none=>simp only[h]
 |some g=>cases g<;>simp only[h]
theorem gi:ka @r [d] G Q=(match G a with
  |some (.lst xs)=>xs.length<SZ/\Q .eX (di G a (.lst (xs++[d])))
  |_=>False):=rfl
theorem kC:uA @r [y] G Q=(match G a,oQ y G with
  |some (.lst xs),some ys=>xs.length+ys.length<=SZ/\Q .eX (di G a (.lst (xs++ys)))
  |_,_=>False):=rfl
theorem lP:Vf @r [@A,d] G Q=(match G a with
  |some (.lst xs)=>0<=i/\i<=xs.length/\xs.length<SZ/\Q .eX (di G a (.lst (xs.take i.toNat++d::xs.drop i.toNat)))
  |_=>False):=rfl
theorem iN:GI @r [k,d] G Q=(match G a with
  |some (.eG kvs)=>iC kvs k=true/\eT k=true/\(match look kvs k with
   |some v=>Q v G
   |none=>kvs.length<SZ/\Q d (di G a (.eG (put kvs k d))))
  |_=>False):=rfl
theorem Rg:isAt C (.ref p) G Q=(match G p with
  |some (.lst _)=>Q (.bl (C == "list")) G
  |some (.eG _)=>Q (.bl (C == "dict")) G
  |_=>False):=by
 unfold isAt Ww;cases h:G p with
 |none=>simp only[h]
 |some g=>cases g<;>simp only[h]
theorem w4    :isAt C (.bl b) G Q=Q (.bl (C == "bool" || @ax)) G:=rfl
theorem kL:IJ @r G=(match G a with
  |some (.lst _)=>True
  |_=>False):=rfl
theorem lG:MT @r G=(match G a with
  |some (.eG _)=>True
  |_=>False):=rfl
theorem v7:IJ (.dF ds) G=True:=rfl
theorem uo:gq (.fZ kvs) k G Q=(iC kvs k=true/\(match look kvs k with
  |some d=>Q d G
  |none=>False)):=by unfold gq;cases k<;>rfl
theorem v5:tyS (.str x) G=True:=rfl
noncomputable def CB(R:Nat->Bool)(G:Gp):Gp:=λa=>if R a=true then none else G a
mutual
inductive Fz (G:Gp) (R:Nat->Bool):D->D->Prop
 |same (d:D):Fz G R d d
 |tup {ds ss:@e}:FA G R ds ss->Fz G R (.tup ds) (.tup ss)
 |dF {ds ss:@e}:FA G R ds ss->Fz G R (.dF ds) (.dF ss)
 |ref {a:Nat} {ds ss:@e}:G a=some (.lst ds)->R a=true->FA G R ds ss->Fz G R @r (.dF ss)
 |eG {a:Nat} {kvs Wr:@af}:G a=some (.eG kvs)->R a=true->ID G R kvs Wr->Fz G R @r (.fZ Wr)
 |se {a:Nat} {kvs Wr:List (PK×D)}:G a=some (.se kvs)->R a=true->FA G R (kvs.map λp=>p.2) (Wr.map λp=>p.2)->kvs.map (λp=>p.1)=Wr.map (λp=>p.1)->Fz G R @r (.kF Wr)
inductive FA (G:Gp) (R:Nat->Bool):@e->@e->Prop
 |nil:FA G R [] []
 |cons {d s:D} {ds ss:@e}:Fz G R d s->FA G R ds ss->FA G R (d::ds) (s::ss)
inductive ID (G:Gp) (R:Nat->Bool):@af->@af->Prop
 |nil:ID G R [] []
 |cons {k d s:D} {ds ss:@af}:Fz G R d s->ID G R ds ss->ID G R ((k,d)::ds) ((k,s)::ss)
end
theorem ID.same:∀(kvs:@af),ID G R kvs kvs
 |[]=>.nil
 |(k,v)::r=>.cons (.same v) (ID.same r)
def OE(G:Gp)(x:D)(Q:DK):Prop:=∃(R:Nat->Bool) (t:D),Fz G R x t/\Q t (CB R G)
def bZ(e:fB):fB:=λE τ G Q=>e E τ G λx G1=>OE G1 x Q
def BJ(i:Nat)(t:gj):gj:=λE K τ G=>t E {K with nx:=λqH G1=>match qH[i]? with
 |some (some d)=>OE G1 d λt G2=>K.nx (qH.set i (some t)) G2
 |_=>False} τ G
theorem FA.same:∀(ds:@e),FA G R ds ds
 |[]=>.nil
 |d::ds=>.cons (.same d) (FA.same ds)
theorem tV(l:dH G G1):CB (λa=>(G a).isNone) G1=G:=by
 funext a;unfold CB;cases h:G a with
 |none=>simp[h]
 |some o=>simp[l a o h,h]
theorem Og(l:dH G G1)(hp:G p=none)(h1:G1 p=@g):CB (λa=>(G a).isNone&&decide (a≠p)) G1=di G p o:=by
 funext a;unfold CB di;by_cases ha:a=p
 .subst ha;simp[h1]
 .cases h:G a with
  |none=>simp[ha,h]
  |some o=>simp[l a o h,ha,h]
theorem cO{G:Gp}{d:D}{Q:DK}(q:Q d G):OE G d Q:=⟨λ_=>false,d,.same d,by
 have e:CB (λ_=>false) G=G:=by funext a;simp[CB]
 rw[e];exact q⟩
theorem qX{G G1:Gp}{d:D}{Q:DK}(l:dH G G1)(q:Q d G):OE G1 d Q:=⟨_,d,.same d,by rw[tV l];exact q⟩
theorem RU{G G1:Gp}{p:Nat}{o:GO}{Q:DK}(l:dH G G1)(hp:G p=none)(h1:G1 p=@g)(q:Q (.ref p) (di G p o)):OE G1 (.ref p) Q :=
 ⟨_,.ref p,.same _,by rw[Og l hp h1];exact q⟩
theorem Bm{G G1:Gp}{p:Nat}{ds ss:@e}{Q:DK}(l:dH G G1)(hp:G p=none)(h1:G1 p=some (.lst ds))(hs:FA G1 (λa=>(G a).isNone) ds ss)(q:Q (.dF ss) G):OE G1 (.ref p) Q :=
 ⟨_,.dF ss,.ref h1 (by simp[hp]) hs,by rw[tV l];exact q⟩
theorem fH{G G1:Gp}{p:Nat}{kvs:@af}{Q:DK}(l:dH G G1)(hp:G p=none)(h1:G1 p=some (.eG kvs))(q:Q (.fZ kvs) G):OE G1 (.ref p) Q :=
 ⟨λa=>(G a).isNone,.fZ kvs,.eG h1 (by simp[hp]) (.same _),by rw[tV l];exact q⟩
def CS:jl:=λds G Q _=>∃ns:@u,ds=[.dF (@aQ)]/\ns.length<=63/\(∀a,G a=none)/\∀G',Q (.bl true) G'
theorem dB{a b:gj}{E:k7}{K:mx}{τ:iE}{G:Gp}(P:iE->@l)(h1:∀N,(∀τ G,P τ G->N τ G)->a E {K with nx:=N} τ G)(h2:∀τ G,P τ G->b E K τ G):bz a b E K τ G:=h1 (b E K) h2
theorem kN:bz a b E K τ G=a E {K with nx:=b E K} τ G:=rfl
theorem bG:bz (aQ a g) b E K τ G=aQ a g E {K with nx:=b E K} τ G:=rfl
theorem ny:bz (iO a) b E K τ G=iO a E {K with nx:=b E K} τ G:=rfl
theorem RW{g:y8}{body:gj}{ok:@l}{ds:@e}{E:k7}{K:mx}{τ:iE}{G:Gp}(I:@e->iE->@l)
  (h0:I [] τ G) (bP:∀pre τ G,I pre τ G->ok G)
  (step:∀(pre:@e) (d:D) (post:@e) τ G (N:iE->@l),ds=pre++d::post->I pre τ G->(∀xU G2,I (pre++[d]) xU G2->N xU G2) ->
   g E d τ G λqH G1=>body E {K with nx:=N,ct:=N,bk:=K.nx} qH G1)
  (fin:∀τ G,I ds τ G->K.nx τ G):qt g body ok ds E K τ G:=by
 have main:∀(post pre:@e) τ G,ds=pre++post->I pre τ G->qt g body ok post E K τ G:=by
  intro post;induction post with
  |nil=>
   intro pre τ G e h;rw[cI] at e;subst e;exact⟨bP _ _ _ h,fin _ _ h⟩
  |cons d post ih=>
   intro pre τ G e h;refine⟨bP _ _ _ h,?_⟩;exact step pre d post τ G _ e h λxU G2 h2=>ih (pre++[d]) xU G2 (by rw[e,c9];rfl) h2
 exact main ds [] τ G rfl h0
theorem VJ{g:y8}{c:Option yy}{e:fB}{ok:@l}{ds:@e}{E:k7}{τ:iE}{G:Gp}{Q:@e->@l}(I:@e->@e->iE->@l)
  (h0:I [] [] τ G) (bP:∀pre acc τ G,I pre acc τ G->ok G)
  (step:∀(pre:@e) (d:D) (post acc:@e) τ G (N:iE->@e->@l),ds=pre++d::post->I pre acc τ G->(∀xU yx G2,I (pre++[d]) yx xU G2->N xU yx G2) ->
   g E d τ G λqH G1=>match c with
    |none=>e E qH G1 λx G2=>N qH (acc++[x]) G2
    |some c=>c E qH G1 λk G2=>if k=true then e E qH G2 λx G3=>N qH (acc++[x]) G3 else N qH acc G2)
  (fin:∀acc τ G,I ds acc τ G->Q acc G):iD g c e ok ds E τ G [] Q:=by
 have main:∀(post pre acc:@e) τ G,ds=pre++post->I pre acc τ G->iD g c e ok post E τ G acc Q:=by
  intro post;induction post with
  |nil=>
   intro pre acc τ G e h;rw[cI] at e;subst e;exact⟨bP _ _ _ _ h,fin _ _ _ h⟩
  |cons d post ih=>
   intro pre acc τ G e' h;refine⟨bP _ _ _ _ h,?_⟩;have:=step pre d post acc τ G (λxU yx G2=>iD g c e ok post E xU G2 yx Q) e' h λxU yx G2 h2=>ih (pre++[d]) yx xU G2 (by rw[e',c9];rfl) h2;cases c with
   |none=>exact this
   |some c=>exact this
 exact main ds [] [] τ G rfl h0
theorem Sn.rI:∀(ns:@u),Sn G (n+1) (.dF (@aQ)) (.dF (@aQ))
 |[]=>.Gb
 |i::ns=>.vd (@A) (Sn.rI ns)
theorem rj(a b)(r t):lT (a::r) (b::t)=(jC a b&&lT r t):=rfl
theorem kr(a b):jC (.int a) (.int b)=(a == b):=rfl
theorem Kt(a b):jC (.tup a) (.tup b)=lT a b:=rfl
theorem HH{α:Type} [@U](a b)(as bs:@v):(decide (a=b)&&decide (as=bs))=decide (a::as=b::bs):=by
 by_cases h:a=b<;>by_cases h2:as=bs<;>simp[h,h2]
set_option genInjectivity true in structure T2 where
 a:Int
 b:Int
 deriving DecidableEq
set_option genInjectivity true in structure T3 where
 a:Int
 b:Int
 c:Int
 deriving DecidableEq
class Enc (α:Type) [@U] where
 enc:α->D
 dep:Nat
 eqv:∀a b,jC (enc a) (enc b)=decide (a=b)
 sn:∀(G:Gp) (n:Nat) (a:α),dep<=n->Sn G n (enc a) (enc a)
open Enc (enc)
instance:Enc Int where
 enc:=D.int
 dep:=0
 eqv:=λa b=>rfl
 sn:=λG n a _=>.int a
instance:Enc Bool where
 enc:=D.bl
 dep:=0
 eqv:=λa b=>S7 a b
 sn:=λG n a _=>.bl a
instance:Enc T2 where
 enc:=λt=>.tup [.int t.a,.int t.b]
 dep:=1
 eqv:=λx y=>by
  cases x;cases y;rw[Kt,rj,rj,kr,kr];simp only[T2.mk.injEq];rename_i a b c d;by_cases h:a=c<;>by_cases h2:b=d<;>simp[h,h2,show lT [] []=true from rfl]
 sn:=λG n t h=>by
  obtain⟨m,rfl⟩:∃m,n=m+1:=⟨n-1,@f⟩;exact .sM (@P) (.sM (@P) .Js)
instance:Enc T3 where
 enc:=λt=>.tup [.int t.a,.int t.b,.int t.c]
 dep:=1
 eqv:=λx y=>by
  cases x;cases y;rw[Kt,rj,rj,rj,kr,kr,kr];simp only[T3.mk.injEq];rename_i a b e c d f;by_cases h:a=c<;>by_cases h2:b=d<;>by_cases h3:e=f<;>simp[h,h2,h3,show lT [] []=true from rfl]
 sn:=λG n t h=>by
  obtain⟨m,rfl⟩:∃m,n=m+1:=⟨n-1,@f⟩;exact .sM (@P) (.sM (@P) (.sM (@P) .Js))
instance {α β:Type} [@U] [DecidableEq β] [Enc α] [Enc β]:Enc (α×β) where
 enc:=λt=>.tup [enc t.1,enc t.2]
 dep:=max (Enc.dep α) (Enc.dep β)+1
 eqv:=λx y=>by
  cases x;cases y;rw[Kt,rj,rj,Enc.eqv,Enc.eqv];simp only[sF];rename_i a b c d;by_cases h:a=c<;>by_cases h2:b=d<;>simp[h,h2,show lT [] []=true from rfl]
 sn:=λG n t h=>by
  obtain⟨m,rfl⟩:∃m,n=m+1:=⟨n-1,@f⟩;exact .sM (Enc.sn _ _ _ @c) (.sM (Enc.sn _ _ _ @c) .Js)
theorem HB [@U] [Enc α]:∀(a b:@v),lT (a.map enc) (b.map enc)=decide (a=b)
 |[],[]=>(decide_eq_true rfl).symm
 |[],b::bs=>(decide_eq_false (@a3)).symm
 |a::as,[]=>(decide_eq_false (@a3)).symm
 |a::as,b::bs=>by
  show(jC (enc a) (enc b)&&lT (as.map enc) (bs.map enc))=_;rw[Enc.eqv,HB as bs,HH]
theorem Jw [@U] [Enc α](G)(n)(h:Enc.dep α<=n):∀(xs:@v),Sn G (n+1) (.dF (xs.map enc)) (.dF (xs.map enc))
 |[]=>.Gb
 |a::as=>.vd (Enc.sn _ _ _ h) (Jw G n h as)
instance {α:Type} [@U] [Enc α]:Enc (@v) where
 enc:=λxs=>.dF (xs.map enc)
 dep:=Enc.dep α+1
 eqv:=λa b=>by
  show lT _ _=_;exact HB a b
 sn:=λG n t h=>by
  obtain⟨m,rfl⟩:∃m,n=m+1:=⟨n-1,@f⟩;exact Jw G m @c t
section
variable {α:Type} [@U] [Enc α]
theorem VR(L:@v)(t):(L.map enc).any (jC · (enc t))=decide (t∈L):=by
 induction L with
 |nil=>simp
 |cons a r ih=>
  simp only[aw,ma,Enc.eqv,ih,bA];by_cases h:a=t
  .simp[h]
  .have h':¬ t=a:=λz=>h z.symm;by_cases h2:t∈r<;>simp[h,h',h2]
end
section
variable {κ α:Type} [@a0] [Enc κ] [@U] [Enc α]
noncomputable def aK(l:List (κ×α)):@af:=l.map λp=>(enc p.1,enc p.2)
noncomputable def bL(l:List (κ×α))(k:κ):Option α:=(l.find? λp=>p.1=k).map (·.2)
noncomputable def du(l:List (κ×α))(k:κ)(v:α):List (κ×α):=if(l.any λp=>p.1=k)=true then l.map (λp=>if p.1=k then(p.1,v) else p) else l++[(k,v)]
theorem kS(l:List (κ×α))(k):look (aK l) (enc k)=(bL l k).map enc:=by
 unfold look bL aK;induction l with
 |nil=>rfl
 |cons p r ih=>
  rw[aw,eu,eu];simp only[Enc.eqv];by_cases h:p.1=k
  .simp[h]
  .simp only[h,decide_false];exact ih
theorem Lq(l)(k:κ)(v:α):put (aK l) (enc k) (enc v)=aK (du l k v):=by
 unfold put du;have e:((aK l).any λp=>jC p.1 (enc k))=l.any λp=>decide (p.1=k):=by
  unfold aK;rw[List.any_map];congr 1;funext p;exact Enc.eqv _ _
 rw[e];split
 .unfold aK;rw[bw,bw];refine d8 λp _=>?_;simp only[Function.comp,Enc.eqv,decide_eq_true_eq];split<;>rfl
 .unfold aK;rw[aU];rfl
theorem mW(l)(k j:κ)(v:α):bL (du l k v) j=if k=j then @Y else bL l j:=by
 unfold du;split
 .rename_i h;unfold bL;induction l with
  |nil=>simp at h
  | cons p r ih=>
   rw[aw,eu,eu];by_cases h1:p.1=k
   .rw [if_pos h1];by_cases h2:k=j
    .simp[h1,h2]
    .have:¬ p.1=j:=λz=>h2 (h1.symm.trans z);simp only[this,decide_false,h2,if_false];by_cases h3:(r.any λp=>decide (p.1=k))=true
     .have:=ih h3;rw[if_neg h2] at this;exact this
     .congr 1;have:r.map (λp=>if p.1=k then(p.1,v) else p)=r:=by
       conv=>rhs;rw[<-qy r]
       refine d8 λq hq=>?_;rw[if_neg];rfl;intro z;exact h3 (List.any_eq_true.mpr ⟨q,hq,by simpa using z⟩)
      rw[this]
   .rw[if_neg h1];have h3:(r.any λp=>decide (p.1=k))=true:=by simpa[h1] using h
    by_cases h2:p.1=j
    .have:¬ k=j:=λz=>h1 (h2.trans z.symm);simp[h2,this]
    .simp only[h2,decide_false];exact ih h3
 .rename_i h;unfold bL;rw[uc];by_cases h2:k=j
  .subst h2;have:l.find? (λp=>decide (p.1=k))=none:=by
    rw[fC];intro p hp z;exact h (List.any_eq_true.mpr ⟨p,hp,z⟩)
   rw[this];simp
  .simp[h2]
theorem og(l)(k:κ)(v:α):(du l k v).length<=l.length+1:=by
 unfold du;split<;>simp
end
class t9 (κ:Type) [@a0] [Enc κ] where
 ok:(∀k:κ,eT (enc k)=true)\/∀k:κ,lB (enc k)=true
instance:t9 Int:=⟨.inl λ_=>rfl⟩
instance:t9 T2:=⟨.inr λ_=>rfl⟩
instance:t9 T3:=⟨.inr λ_=>rfl⟩
theorem gN [@a0] [Enc κ] [t9 κ] [@U] [Enc α](l:List (κ×α))(k:κ):iC (aK l) (enc k)=true:=by
 unfold iC aK;rcases t9.ok (κ:=κ) with h |h
 .rw[iT];left;rw[h k,OT,ot,jG];intro p _;exact h p.1
 .rw[iT];right;rw[h k,OT,ot,jG];intro p _;exact h p.1
end K2
end
section
namespace K2
open PySem (Str)
open Enc (enc)
mutual
noncomputable def qz:D->D->Bool
 |.int a,.int b=>decide (a<b)
 |.tup a,.tup b=>mI a b
 |.dF a,.dF b=>mI a b
 |_,_=>false
noncomputable def mI:@e->@e->Bool
 |[],[]=>false
 |[],_::_=>true
 |_::_,[]=>false
 |x::xs,y::ys=>if jC x y=true then mI xs ys else qz x y
end
theorem nN(x y)(xs ys):mI (x::xs) (y::ys)=if jC x y=true then mI xs ys else qz x y:=rfl
theorem QN(a b):qz (.int a) (.int b)=decide (a<b):=rfl
inductive pA where
 |int |tup (l:List pA) |lst (s:pA)
mutual
noncomputable def dh:pA->D->Bool
 |.int,.int _=>true
 |.tup l,.tup ds=>fP l ds
 |.lst s,.dF ds=>hU s ds
 |_,_=>false
noncomputable def fP:List pA->@e->Bool
 |[],[]=>true
 |s::l,d::ds=>dh s d&&fP l ds
 |_,_=>false
noncomputable def hU:pA->@e->Bool
 |_,[]=>true
 |s,d::ds=>dh s d&&hU s ds
end
theorem dP(h:dh .int a=true):∃i,a=@A:=by cases a<;>first |exact⟨_,rfl⟩ |exact ba (show false=true from h)
theorem dN(h:dh (.tup l) a=true):∃x,a=.tup x:=by cases a<;>first |exact⟨_,rfl⟩ |exact ba (show false=true from h)
theorem dO(h:dh (.lst l) a=true):∃x,a=.dF x:=by cases a<;>first |exact⟨_,rfl⟩ |exact ba (show false=true from h)
mutual
noncomputable def WM:pA->Nat
 |.int=>0
 |.tup l=>R6 l+1
 |.lst s=>WM s+1
noncomputable def R6:List pA->Nat
 |[]=>0
 |s::l=>max (WM s) (R6 l)
end
def X7(sh:pA):Bool:=decide (WM sh<=7)&&(match sh with
 |.tup []=>false
 |_=>true)
def Td(a b:D):Bool:=!qz b a
def sU(ds:@e):@e:=ds.mergeSort Td
def rz(ds:@e)(G:Gp)(Q:DK):Prop:=match ds with
 |[x]=>∃(sh:pA) (xs:@e),IJ x G/\itemsOf x G=some xs/\xs.all (dh sh)=true/\X7 sh=true/\xs.length<64/\fy G (.lst (sU xs)) Q
 |_=>False
class bq (α:Type) [@U] [Enc α] where
 lt:α->α->Bool
 CT:pA
 EB:∀a:α,dh CT (enc a)=true
 Vh:∀a b:α,qz (enc a) (enc b)=lt a b
 J9:∀a,lt a a=false
 trans:∀a b c,lt a b=true->lt b c=true->lt a c=true
 IL:∀a b,lt a b=false->lt b a=false->a=b
instance:bq Int where
 lt:=λa b=>decide (a<b)
 CT:=.int
 EB:=λ_=>rfl
 Vh:=λa b=>rfl
 J9:=λa=>@G
 trans:=λa b c h1 h2=>by simp at *;lia
 IL:=λa b h1 h2=>by simp at *;lia
noncomputable def wW{α:Type} [@U](lt:α->α->Bool):@v->@v->Bool
 |[],[]=>false
 |[],_::_=>true
 |_::_,[]=>false
 |x::xs,y::ys=>if x=y then wW lt xs ys else lt x y
theorem Bb [@U](lt)(x y)(xs ys:@v):wW lt (x::xs) (y::ys)=if x=y then wW lt xs ys else lt x y:=rfl
section
variable {α:Type} [@U] {lt:α->α->Bool}
theorem wV:∀x:@v,wW lt x x=false
 |[]=>rfl
 |a::x=>by simp only[Bb,if_true];exact wV x
theorem wU(t:∀a b,lt a b=false->lt b a=false->a=b):∀(x y:@v),wW lt x y=false->wW lt y x=false->x=y
 |[],[],_,_=>rfl
 |[],_::_,h,_=>by cases h
 |_::_,[],_,h=>by cases h
 |a::x,b::y,h1,h2=>by
  simp only[Bb] at h1 h2;by_cases e:a=b
  .subst e;simp only[if_true] at h1 h2;rw[wU t x y h1 h2]
  .rw[if_neg e] at h1;rw[if_neg (dD e)] at h2;exact absurd (t a b h1 h2) e
theorem qS(ir:∀a,lt a a=false)(tr:∀a b c,lt a b=true->lt b c=true->lt a c=true):∀(x y z:@v),wW lt x y=true->wW lt y z=true->wW lt x z=true
 |[],[],_,h,_=>by cases h
 |[],_::_,[],_,h=>by cases h
 |[],_::_,_::_,_,_=>rfl
 |_::_,[],_,h,_=>by cases h
 |_::_,_::_,[],_,h=>by cases h
 | a::x,b::y,c::z,h1,h2=>by
  simp only[Bb] at h1 h2 ⊢;by_cases e1:a=b
  .subst e1;simp only[if_true] at h1;by_cases e2:a=c
   .subst e2;simp only[if_true] at h2 ⊢;exact qS ir tr x y z h1 h2
   .rw[if_neg e2] at h2 ⊢;exact h2
  .rw[if_neg e1] at h1;by_cases e2:b=c
   .subst e2;rw[if_neg e1];exact h1
   .rw[if_neg e2] at h2;have h3:=tr _ _ _ h1 h2;rw[if_neg (by rintro rfl;rw[ir] at h3;cases h3)];exact h3
end
theorem wO [@U] [Enc α] [bq α]:∀(x y:@v),mI (x.map enc) (y.map enc)=wW (bq.lt (α:=α)) x y
 |[],[]=>rfl
 |[],_::_=>rfl
 |_::_,[]=>rfl
 |a::x,b::y=>by simp only[aw,nN,Bb,Enc.eqv,wO x y,bq.Vh,decide_eq_true_eq]
theorem Dl [@U] [Enc α] [bq α]:∀(x:@v),hU (bq.CT α) (x.map enc)=true
 |[]=>rfl
 |a::x=>by simp only[aw,hU,bq.EB,Dl x,Bool.and_self]
instance {α:Type} [@U] [Enc α] [bq α]:bq (@v) where
 lt:=wW bq.lt
 CT:=.lst (bq.CT α)
 EB:=λa=>Dl a
 Vh:=λa b=>wO a b
 J9:=wV
 trans:=qS bq.J9 bq.trans
 IL:=wU bq.IL
noncomputable def T2.l(t:T2):@u:=[t.a,t.b]
noncomputable def T3.l(t:T3):@u:=[t.a,t.b,t.c]
instance:bq T2 where
 lt:=λx y=>wW (λa b=>decide (a<b)) x.l y.l
 CT:=.tup [.int,.int]
 EB:=λ_=>rfl
 Vh:=λa b=>wO a.l b.l
 J9:=λa=>wV _
 trans:=λa b c=>qS (α:=Int) bq.J9 bq.trans _ _ _
 IL:=λ⟨a,b⟩ ⟨c,d⟩ h1 h2=>by
  have:=wU (α:=Int) bq.IL _ _ h1 h2;simpa[T2.l] using this
instance:bq T3 where
 lt:=λx y=>wW (λa b=>decide (a<b)) x.l y.l
 CT:=.tup [.int,.int,.int]
 EB:=λ_=>rfl
 Vh:=λa b=>wO a.l b.l
 J9:=λa=>wV _
 trans:=λa b c=>qS (α:=Int) bq.J9 bq.trans _ _ _
 IL:=λ⟨a,b,e⟩ ⟨c,d,f⟩ h1 h2=>by
  have:=wU (α:=Int) bq.IL _ _ h1 h2;simpa[T3.l] using this
section
variable {α:Type} [@U] [Enc α] [bq α]
noncomputable def IQ(a b:α):Bool:=!bq.lt b a
def F1(xs:@v):@v:=xs.mergeSort IQ
theorem M1(xs:@v):sU (xs.map enc)=(F1 xs).map enc:=by
 unfold sU F1;symm;exact List.map_mergeSort λa _ b _=>by unfold IQ Td;rw[bq.Vh]
theorem NJ(a b c:α)(h1:IQ a b=true)(h2:IQ b c=true):IQ a c=true:=by
 unfold IQ at *;simp only[kA] at *;cases h:bq.lt c a with
 |false=>rfl
 | true=>
  by_cases e:a=b
  .subst e;rw[h] at h2;cases h2
  .have N8:bq.lt a b=true:=by
    cases q:bq.lt a b with
    |true=>rfl
    |false=>exact absurd (bq.IL _ _ q h1) e
   rw[bq.trans _ _ _ h N8] at h2;cases h2
theorem NK(a b:α):(IQ a b||IQ b a)=true:=by
 unfold IQ;cases h:bq.lt b a with
 |false=>rfl
 |true=>
  cases h2:bq.lt a b with
  |false=>rfl
  |true=>have:=bq.trans _ _ _ h h2;rw[bq.J9] at this;cases this
theorem QT(a b:α)(h1:IQ a b=true)(h2:IQ b a=true):a=b:=by
 unfold IQ at *;exact bq.IL a b (@a_) (by simpa using h1)
theorem nk(xs:@v):(F1 xs).Perm xs:=List.mergeSort_perm xs IQ
theorem As(xs:@v):(F1 xs).Pairwise λa b=>IQ a b=true:=OO NJ NK xs
theorem Ck:∀{xs ys:@v},xs.Perm ys->xs.Pairwise (λa b=>IQ a b=true)->ys.Pairwise (λa b=>IQ a b=true)->xs=ys:=by
 intro xs ys hp h1 h2;exact Fm (λa b _ _ h h'=>QT a b h h') h1 h2 hp
theorem Py{ys:@v}(h:xs.Perm ys):F1 xs=F1 ys:=Ck (((nk xs).trans h).trans (nk ys).symm) (As xs) (As ys)
theorem Li{x:α}:x∈F1 xs↔x∈xs:=(nk xs).mem_iff
theorem M0{xs:@v}(h:xs.Nodup):(F1 xs).Nodup:=(nk xs).nodup_iff.mpr h
end
end K2
end
section
namespace K2
open PySem (Str)
mutual
theorem lD:∀(sh:pA) (a:D),dh sh a=true->jC a a=true
 |.int,.int i,_=>by show(i == i)=true;exact beq_self_eq_true i
 |.tup l,.tup xs,h=>by show lT xs xs=true;exact yX l xs h
 |.lst l,.dF xs,h=>by show lT xs xs=true;exact yY l xs h
theorem yX:∀(l:List pA) (xs:@e),fP l xs=true->lT xs xs=true
 |[],[],_=>rfl
 |s::l,x::xs,h=>by
  have h:(dh s x&&fP l xs)=true:=h;rw[aJ] at h;show(jC x x&&lT xs xs)=true;rw[lD s x h.1,yX l xs h.2];rfl
theorem yY:∀(s:pA) (xs:@e),hU s xs=true->lT xs xs=true
 |_,[],_=>rfl
 |s,x::xs,h=>by
  have h:(dh s x&&hU s xs)=true:=h;rw[aJ] at h;show(jC x x&&lT xs xs)=true;rw[lD s x h.1,yY s xs h.2];rfl
end
theorem Y0(s)(ih:∀(a b:D),dh s a=true->dh s b=true->jC a b=true->a=b):∀(xs ys:@e),hU s xs=true->hU s ys=true->lT xs ys=true->xs=ys:=by
 intro xs;induction xs with
 |nil=>intro ys _ _ h;cases ys with
  |nil=>rfl
  |cons _ _=>cases h
 | cons x xs ihx=>
  intro ys h1 h2 h;cases ys with
  |nil=>cases h
  |cons y ys=>
   have h1:(dh s x&&hU s xs)=true:=h1;have h2:(dh s y&&hU s ys)=true:=h2;have h:(jC x y&&lT xs ys)=true:=h;rw[aJ] at h1 h2 h;rw[ih x y h1.1 h2.1 h.1,ihx ys h1.2 h2.2 h.2]
mutual
theorem rL:∀(sh:pA) (a b:D),dh sh a=true->dh sh b=true->jC a b=true->a=b
 |.int,a,b,h1,h2,h=>by
  ext j
  ext k
  rw[kr] at h;rw[beq_iff_eq.mp h]
 |.tup l,a,b,h1,h2,h=>by
  ext j
  ext k
  rw[R3 l _ _ h1 h2 h]
 |.lst l,a,b,h1,h2,h=>by
  ext j
  ext k
  rw[Y0 l (rL l) _ _ h1 h2 h]
theorem R3:∀(l:List pA) (xs ys:@e),fP l xs=true->fP l ys=true->lT xs ys=true->xs=ys
 | [],xs,ys,h1,h2,_=>by
  cases xs with
  |nil=>cases ys with
   |nil=>rfl
   |cons _ _=>cases h2
  |cons _ _=>cases h1
 | s::l,xs,ys,h1,h2,h=>by
  cases xs with
  |nil=>cases h1
  | cons x xs=>
   cases ys with
   |nil=>cases h2
   |cons y ys=>
    have h1:(dh s x&&fP l xs)=true:=h1;have h2:(dh s y&&fP l ys)=true:=h2;have h:(jC x y&&lT xs ys)=true:=h;rw[aJ] at h1 h2 h;rw[rL s x y h1.1 h2.1 h.1,R3 l xs ys h1.2 h2.2 h.2]
end
theorem QM(s)(ih:∀(a b:D),dh s a=true->dh s b=true->qz a b=false->qz b a=false->a=b):∀(xs ys:@e),hU s xs=true->hU s ys=true->mI xs ys=false->mI ys xs=false->xs=ys:=by
 intro xs;induction xs with
 |nil=>intro ys _ _ h _;cases ys with
  |nil=>rfl
  |cons _ _=>cases h
 | cons x xs ihx=>
  intro ys h1 h2 h3 h4;cases ys with
  |nil=>cases h4
  | cons y ys=>
   have h1:(dh s x&&hU s xs)=true:=h1;have h2:(dh s y&&hU s ys)=true:=h2;rw[aJ] at h1 h2;simp only[nN] at h3 h4;by_cases e:jC x y=true
   .have exy:=rL s x y h1.1 h2.1 e;subst exy;rw[if_pos e] at h3 h4;rw[ihx ys h1.2 h2.2 h3 h4]
   .rw[if_neg e] at h3;by_cases e2:jC y x=true
    .have:=rL s y x h2.1 h1.1 e2;subst this;exact absurd e2 e
    .rw[if_neg e2] at h4;have:=ih x y h1.1 h2.1 h3 h4;subst this;exact absurd (lD s x h1.1) e
mutual
theorem zE:∀(sh:pA) (a b:D),dh sh a=true->dh sh b=true->qz a b=false->qz b a=false->a=b
 |.int,a,b,h1,h2,h3,h4=>by
  ext j
  ext k
  simp[QN] at h3 h4;congr 1;lia
 |.tup l,a,b,h1,h2,h3,h4=>by
  ext j
  ext k
  rw[GK l _ _ h1 h2 h3 h4]
 |.lst l,a,b,h1,h2,h3,h4=>by
  ext j
  ext k
  rw[QM l (zE l) _ _ h1 h2 h3 h4]
theorem GK:∀(l:List pA) (xs ys:@e),fP l xs=true->fP l ys=true->mI xs ys=false->mI ys xs=false->xs=ys
 | [],xs,ys,h1,h2,_,_=>by
  cases xs with
  |nil=>cases ys with
   |nil=>rfl
   |cons _ _=>cases h2
  |cons _ _=>cases h1
 | s :: l,xs,ys,h1,h2,h3,h4=>by
  cases xs with
  |nil=>cases h1
  | cons x xs=>
   cases ys with
   |nil=>cases h2
   | cons y ys=>
    have h1:(dh s x&&fP l xs)=true:=h1;have h2:(dh s y&&fP l ys)=true:=h2;rw[aJ] at h1 h2;simp only[nN] at h3 h4;by_cases e:jC x y=true
    .have exy:=rL s x y h1.1 h2.1 e;subst exy;rw[if_pos e] at h3 h4;rw[GK l xs ys h1.2 h2.2 h3 h4]
    .rw[if_neg e] at h3;by_cases e2:jC y x=true
     .have:=rL s y x h2.1 h1.1 e2;subst this;exact absurd e2 e
     .rw[if_neg e2] at h4;have:=zE s x y h1.1 h2.1 h3 h4;subst this;exact absurd (lD s x h1.1) e
end
mutual
theorem En:∀(sh:pA) (a:D),dh sh a=true->qz a a=false
 |.int,.int i,_=>by rw[QN];exact decide_eq_false (Int.lt_irrefl _)
 |.tup l,.tup xs,h=>by show mI xs xs=false;exact GL l xs h
 |.lst l,.dF xs,h=>by show mI xs xs=false;exact GN l xs h
theorem GL:∀(l:List pA) (xs:@e),fP l xs=true->mI xs xs=false
 |[],[],_=>rfl
 |s::l,x::xs,h=>by
  have h:(dh s x&&fP l xs)=true:=h;rw[aJ] at h;simp only[nN,lD s x h.1,if_true];exact GL l xs h.2
theorem GN:∀(s:pA) (xs:@e),hU s xs=true->mI xs xs=false
 |_,[],_=>rfl
 |s,x::xs,h=>by
  have h:(dh s x&&hU s xs)=true:=h;rw[aJ] at h;simp only[nN,lD s x h.1,if_true];exact GN s xs h.2
end
theorem JY(s)(ih:∀(a b c:D),dh s a=true->dh s b=true->dh s c=true->qz a b=true->qz b c=true->qz a c=true):∀(xs ys zs:@e),hU s xs=true->hU s ys=true->hU s zs=true->mI xs ys=true->mI ys zs=true->mI xs zs=true:=by
 intro xs;induction xs with
 | nil=>
  intro ys zs _ _ _ h4 h5;cases ys with
  |nil=>cases h4
  |cons _ _=>cases zs with
   |nil=>cases h5
   |cons _ _=>rfl
 | cons x xs ihx=>
  intro ys zs h1 h2 h3 h4 h5;cases ys with
  |nil=>cases h4
  | cons y ys=>
   cases zs with
   |nil=>cases h5
   | cons z zs=>
    have h1:(dh s x&&hU s xs)=true:=h1;have h2:(dh s y&&hU s ys)=true:=h2;have h3:(dh s z&&hU s zs)=true:=h3;rw[aJ] at h1 h2 h3;simp only[nN] at h4 h5 ⊢;by_cases e1:jC x y=true
    .have:=rL s x y h1.1 h2.1 e1;subst this;rw[if_pos e1] at h4;by_cases e2:jC x z=true
     .rw[if_pos e2] at h5 ⊢;exact ihx ys zs h1.2 h2.2 h3.2 h4 h5
     .rw[if_neg e2] at h5 ⊢;exact h5
    .rw[if_neg e1] at h4;by_cases e2:jC y z=true
     .have:=rL s y z h2.1 h3.1 e2;subst this;rw[if_neg e1];exact h4
     .rw[if_neg e2] at h5;have h6:=ih x y z h1.1 h2.1 h3.1 h4 h5;rw[if_neg (λe3=>by
       have:=rL s x z h1.1 h3.1 e3;subst this;rw[En s x h1.1] at h6;cases h6)]
      exact h6
mutual
theorem uB:∀(sh:pA) (a b c:D),dh sh a=true->dh sh b=true->dh sh c=true->qz a b=true->qz b c=true->qz a c=true
 |.int,a,b,c,h1,h2,h3,h4,h5=>by
  ext j
  ext k
  first |obtain⟨_,rfl⟩:=dP h3 |obtain⟨_,rfl⟩:=dN h3 |obtain⟨_,rfl⟩:=dO h3
  simp[QN] at *;lia
 |.tup l,a,b,c,h1,h2,h3,h4,h5=>by
  ext j
  ext k
  first |obtain⟨_,rfl⟩:=dP h3 |obtain⟨_,rfl⟩:=dN h3 |obtain⟨_,rfl⟩:=dO h3
  exact A7 l _ _ _ h1 h2 h3 h4 h5
 |.lst l,a,b,c,h1,h2,h3,h4,h5=>by
  ext j
  ext k
  first |obtain⟨_,rfl⟩:=dP h3 |obtain⟨_,rfl⟩:=dN h3 |obtain⟨_,rfl⟩:=dO h3
  exact JY l (uB l) _ _ _ h1 h2 h3 h4 h5
theorem A7:∀(l:List pA) (xs ys zs:@e),fP l xs=true->fP l ys=true->fP l zs=true->mI xs ys=true->mI ys zs=true->mI xs zs=true
 | [],xs,ys,zs,h1,h2,_,h,_=>by
  cases xs with
  |nil=>cases ys with
   |nil=>cases h
   |cons _ _=>cases h2
  |cons _ _=>cases h1
 | s :: l,xs,ys,zs,h1,h2,h3,h4,h5=>by
  cases xs with
  |nil=>cases h1
  | cons x xs=>
   cases ys with
   |nil=>cases h2
   | cons y ys=>
    cases zs with
    |nil=>cases h3
    | cons z zs=>
     have h1:(dh s x&&fP l xs)=true:=h1;have h2:(dh s y&&fP l ys)=true:=h2;have h3:(dh s z&&fP l zs)=true:=h3;rw[aJ] at h1 h2 h3;simp only[nN] at h4 h5 ⊢;by_cases e1:jC x y=true
     .have:=rL s x y h1.1 h2.1 e1;subst this;rw[if_pos e1] at h4;by_cases e2:jC x z=true
      .rw[if_pos e2] at h5 ⊢;exact A7 l xs ys zs h1.2 h2.2 h3.2 h4 h5
      .rw[if_neg e2] at h5 ⊢;exact h5
     .rw[if_neg e1] at h4;by_cases e2:jC y z=true
      .have:=rL s y z h2.1 h3.1 e2;subst this;rw[if_neg e1];exact h4
      .rw[if_neg e2] at h5;have h6:=uB s x y z h1.1 h2.1 h3.1 h4 h5;rw[if_neg (λe3=>by
        have:=rL s x z h1.1 h3.1 e3;subst this;rw[En s x h1.1] at h6;cases h6)]
       exact h6
end
theorem C6(sh)(h1:dh sh a=true)(h2:dh sh b=true)(h:qz a b=true):qz b a=false:=by
 cases q:qz b a with
 |false=>rfl
 |true=>have:=uB sh a b a h1 h2 h1 h q;rw[En sh a h1] at this;cases this
theorem A8(sh)(h1:dh sh a=true)(h2:dh sh b=true)(h3:dh sh c=true)(q1:qz b a=false)(q2:qz c b=false):qz c a=false:=by
 cases h:qz c a with
 |false=>rfl
 | true=>
  exfalso;cases q:qz a b with
  |false=>
   have:=zE sh a b h1 h2 q q1;subst this;rw[h] at q2;cases q2
  |true=>rw[uB sh c a b h3 h1 h2 h q] at q2;cases q2
theorem wd(sh)(hx:∀x∈xs,dh sh x=true)(hp:ys.Perm xs)(hs:ys.Pairwise λa b=>qz b a=false):sU xs=ys:=by
 have hy:∀y∈ys,dh sh y=true:=λy h=>hx y (hp.mem_iff.mp h);have p1:(sU xs).Perm xs:=List.mergeSort_perm xs Td;have hz:∀z∈sU xs,dh sh z=true:=λz h=>hx z (p1.mem_iff.mp h);have s1:(sU xs).Pairwise λa b=>qz b a=false:=by
  let Pf:List {d:D // dh sh d=true}:=xs.attach.map λx=>⟨x.1,hx x.1 x.2⟩
  have ex:xs=Pf.map @k:=by
   simp only[Pf,bw]
   conv=>lhs;rw[<-List.attach_map_subtype_val xs]
   rfl
  have e2:sU xs=(Pf.mergeSort λa b=>Td a.1 b.1).map @k:=by
   unfold sU;rw[ex];exact(List.map_mergeSort (r:=λ(a b:{d:D // dh sh d=true})=>Td a.1 b.1) (s:=Td) (f:=λx=>x.1) (l:=Pf) λa _ b _=>rfl).symm
  rw[e2,iR]
  have:=OO (le:=λ(a b:{d:D // dh sh d=true})=>Td a.1 b.1) (λa b c h1 h2=>by
   unfold Td at *;simp only[kA] at *;exact A8 sh a.2 b.2 c.2 h1 h2) (λa b=>by
   unfold Td;cases q:qz b.1 a.1 with
   |false=>rfl
   |true=>rw[C6 sh b.2 a.2 q];rfl) Pf
  exact this.imp λh=>by unfold Td at h;simpa using h
 refine Fm (le:=λa b=>qz b a=false) (λa b ha hb h h'=>?_) s1 hs (p1.trans hp.symm);exact zE sh a b (hz a ha) (hy b hb) h' h
end K2
end
section
namespace K2
open PySem (Str)
open Enc (enc)
noncomputable def nR(k:Nat):@e->@e
 |[]=>[]
 |d::r=>.tup [.int (k:Int),d]::nR (k+1) r
theorem Dy:∀(ds:@e) (k i:Nat),(nR k ds)[i]?=(ds[i]?).map λd=>D.tup [.int ((k+i:Nat):Int),d]
 |[],k,i=>by simp[nR]
 |d::r,k,0=>by simp[nR]
 |d::r,k,i+1=>by
  rw[nR,ae,Dy r (k+1) i,ae];congr 1;funext x;congr 3;lia
theorem Dx:∀(ds:@e) (k:Nat),(nR k ds).length=ds.length
 |[],_=>rfl
 |d::r,k=>by rw[nR,aj,aj,Dx r]
def w7(x:D)(G1:Gp)(R:@e->(@l)->@l):Prop:=match x with
 |.dF ds=>R (nR 0 ds) @aw G1
 |.ref p=>(match G1 p with
  |some (.lst ds)=>R (nR 0 ds) (λG2=>G2 p=some (.lst ds)) G1
  |_=>False)
 |_=>False
def Hh(a:fB):Fx:=λE τ G R=>a E τ G λx G1=>w7 x G1 R
def adp(P:D->@l):@e->@l
 |[x],G=>P x G
 |_,_=>False
def ado(P:D->D->@l):@e->@l
 |[x,y],G=>P x y G
 |_,_=>False
noncomputable def qI:@e->@e->@e
 |x::xs,y::ys=>.tup [x,y]::qI xs ys
 |_,_=>[]
theorem FQ:∀(xs ys:@e) (i:Nat),(qI xs ys)[i]?=(xs[i]?).bind λx=>(ys[i]?).map λy=>D.tup [x,y]
 |[],ys,i=>by simp[qI]
 |x::xs,[],i=>by cases h:(x::xs)[i]?<;>simp[qI]
 |x::xs,y::ys,0=>by simp[qI]
 |x::xs,y::ys,i+1=>by rw[qI,ae,FQ xs ys i,ae,ae]
theorem FP:∀(xs ys:@e),(qI xs ys).length=min xs.length ys.length
 |[],ys=>by simp[qI]
 |x::xs,[]=>by simp[qI]
 |x::xs,y::ys=>by rw[qI,aj,FP xs ys,aj,aj];lia
noncomputable def wQ(x:D)(G:Gp):Option (@e×(@l)):=match x with
 |.dF ds=>some (ds,λ_=>True)
 |.ref p=>(match G p with
  |some (.lst ds)=>some (ds,λG2=>G2 p=some (.lst ds))
  |_=>none)
 |_=>none
def vG(x y:D)(G1:Gp)(R:@e->(@l)->@l):Prop:=match wQ x G1,wQ y G1 with
 |some (xs,k1),some (ys,k2)=>R (qI xs ys) (λG2=>k1 G2/\k2 G2) G1
 |_,_=>False
def Ka(a b:fB):Fx:=λE τ G R=>a E τ G λx G1=>b E τ G1 λy G2=>vG x y G2 R
def uE(x:D)(G1:Gp)(R:@e->(@l)->@l):Prop:=match x with
 |.fZ kvs=>R (kvs.map @k) @aw G1
 |_=>False
def gx(a:fB):Fx:=λE τ G R=>a E τ G λx G1=>uE x G1 R
def IsL(G:Gp)(d:D)(ds:@e):Prop:=d=.dF ds\/∃a,d=@S/\G a=some (.lst ds)
theorem IsL.dF:IsL G (.dF ds) ds:=@W
theorem IsL.enc [@U] [Enc α](xs:@v):IsL G (enc xs) (xs.map enc):=@W
theorem IsL.ref{G:Gp}{a:Nat}{ds:@e}(h:G a=some (.lst ds)):IsL G @r ds:=.inr ⟨a,rfl,h⟩
theorem Yp{G:Gp}{d:D}{ds:@e}{R:@e->(@l)->@l}(h:IsL G d ds)(k:∀ok:@l,(∀G',@H->ok G')->R ds ok G):Te d G R:=by
 rcases h with rfl |⟨a,rfl,e⟩
 .exact k _ λ_ _=>trivial
 .rw[Ey e];exact k _ λG' l=>l a _ e
theorem GQ(h:IsL G d ds):∃ok:@l,wQ d G=some (ds,ok)/\∀G',@H->ok G':=by
 rcases h with rfl |⟨a,rfl,e⟩
 .exact⟨_,rfl,λ_ _=>trivial⟩
 .unfold wQ;simp only[e];exact⟨_,rfl,λG' l=>l a _ e⟩
theorem NU{G:Gp}{d d':D}{ds ds':@e}{R:@e->(@l)->@l}(h:IsL G d ds)(h':IsL G d' ds')(k:∀ok:@l,(∀G',@H->ok G')->R (qI ds ds') ok G):vG d d' G R:=by
 obtain⟨k1,e1,h1⟩:=GQ h;obtain⟨k2,e2,h2⟩:=GQ h';unfold vG;simp only[e1,e2];exact k _ λG' l=>⟨h1 G' l,h2 G' l⟩
theorem vF(h:IsL G d ds):itemsOf d G=some ds:=by
 rcases h with rfl |⟨a,rfl,e⟩
 .rfl
 .unfold itemsOf;simp only[e]
theorem W8(h:IsL G d ds):IJ d G:=by
 rcases h with rfl |⟨a,rfl,e⟩
 .trivial
 .unfold IJ;simp only[e]
theorem xZ(h:IsL G d ds)(k:fy G (.lst (cut ds lo hi)) Q):T7 d lo hi G Q:=by
 rcases h with rfl |⟨a,rfl,e⟩
 .exact k
 .rw[T6 e];exact k
theorem rB{G:Gp}{d:D}{ds:@e}{Q:DK}(h:IsL G d ds)(k:Q (.int (ds.length:Int)) G):pR [d] G Q:=by
 rcases h with rfl |⟨a,rfl,e⟩
 .exact k
 .rw[Ie e];exact k
theorem Ib(h:IsL G d ds)(k:fy G (.lst ds) Q):rN [d] G Q:=by
 unfold rN;simp only[vF h];exact k
theorem BL [@U] [Enc α] [bq α]{xs:@v}(h:IsL G d (xs.map enc))(hl:xs.length<64)(k:fy G (.lst ((F1 xs).map enc)) Q)(ok:autoParam (X7 (bq.CT α)=true) Ad._auto_1):rz [d] G Q :=
 ⟨bq.CT α,xs.map enc,W8 h,vF h,by rw[ot,jG];intro x _;exact bq.EB x,ok,by rw[ar];exact hl,by rw[M1];exact k⟩
theorem nH{G:Gp}{d x:D}{ds:@e}{i:Int}{Q:DK}(h:IsL G d ds)(e:rD ds i=some x)(k:Q x G):gq d (@A) G Q:=by
 rcases h with rfl |⟨a,rfl,e2⟩
 .rw[T8 e];exact k
 .rw[T9 e2 e];exact k
theorem kR(h:IsL G d ds):oQ d G=some ds:=by
 rcases h with rfl |⟨a,rfl,e⟩
 .rfl
 .unfold oQ;simp only[e]
theorem VY(h:IsL G d ds)(h':IsL G e es)(hz:ds.length+es.length<=SZ)(k:fy G (.lst (ds++es)) Q):zr d e G Q:=by
 unfold zr;simp only[kR h,kR h'];exact⟨hz,k⟩
theorem Ec(h:IsL G d ds)(h':IsL G e es)(hz:ds.length+es.length<=SZ)(k:fy G (.lst (ds++es)) Q):fx d e G Q:=by
 have:=VY h h' hz k;rcases h with rfl |⟨a,rfl,_⟩
 .rw[nI];exact this
 .rw[lO];exact this
theorem BK(xs:@v)(i)(h:i<=xs.length):cut xs (some (i:Int)) none=xs.drop i:=by
 unfold cut j9;simp only;rw[if_neg @c,ff,Nat.min_eq_left h];exact Pc (by rw[cP];lia)
theorem Kv(xs:@v)(i)(h:i<=xs.length):cut xs none (some (i:Int))=xs.take i:=by
 unfold cut j9;simp only;rw[if_neg @c,ff,Nat.min_eq_left h];simp
theorem rn(f:α->β)(xs)(lo hi):cut (xs.map f) lo hi=(cut xs lo hi).map f:=by
 unfold cut;rw[ar,List.map_take,List.map_drop]
theorem rC(xs:@v){k:Int}(h0:0<=k)(h1:k<xs.length):rD xs k=some (xs[k.toNat]'(@f)):=by
 unfold rD J4;rw[if_pos h0,if_pos h1];show xs[k.toNat]?=_;exact aA @c
theorem AI(h:gC 0 n=pre++d::post):d=.int (pre.length:Int)/\pre.length<n:=by
 have hl:pre.length<n:=by
  have:=congrArg cU h;simp[gC] at this;lia
 have:=congrArg (λl=>l[pre.length]?) h;simp only[gC,bx,List.getElem?_range hl] at this;rw[cy @D] at this;simp at this;exact⟨this.symm,hl⟩
def ac6 [@U] [Enc α] [DecidableEq β] [Enc β](pre:α->Prop)(f:α->β):jl:=λds G Q _=>∃a:α,ds=[enc a]/\pre a/\Q (enc (f a)) G
def ac5 [@U] [Enc α] [DecidableEq β] [Enc β] [DecidableEq γ] [Enc γ](pre:α->β->Prop)(f:α->β->γ):jl:=λds G Q _=>∃(a:α) (b:β),ds=[enc a,enc b]/\pre a b/\Q (enc (f a b)) G
def adg:zP
 |.int i,.int j,G,Q=>(0<=j/\j<=1000000/\i.natAbs<2 ^ 64)/\Q (.int (i ^ j.toNat)) G
 |_,_,_,_=>False
noncomputable def mM:Nat:=2 ^ 4000
def wA:zP
 |.int i,.int j,G,Q=>(i.natAbs<mM/\j.natAbs<mM)/\Q (.int (i*j)) G
 |_,_,_,_=>False
theorem tf:adg (@A) (.int j) G Q=((0<=j/\j<=1000000/\i.natAbs<2 ^ 64)/\Q (.int (i ^ j.toNat)) G):=rfl
theorem lu:wA (@A) (.int j) G Q=((i.natAbs<mM/\j.natAbs<mM)/\Q (.int (i*j)) G):=rfl
noncomputable def xm:D->Gp->Option (@af)
 |.fZ kvs,_=>some kvs
 |.ref a,G=>match G a with
  |some (.eG kvs)=>some kvs
  |_=>none
 |_,_=>none
def wX(kvs:@af):Bool:=kvs.all λp=>eT p.1
def vi(ds:@e)(G:Gp)(Q:DK):Prop:=match ds with
 |[x]=>∃kvs,xm x G=some kvs/\wX kvs=true/\kvs.length<=SZ/\fy G (.eG kvs) Q
 |_=>False
def zo(x:D)(ds:@e)(G:Gp)(Q:DK):Prop:=match ds with
 |[k,d]=>∃kvs,xm x G=some kvs/\wX kvs=true/\eT k=true/\Q ((look kvs k).getD d) G
 |_=>False
def Hf(x:D)(G1:Gp)(R:@e->(@l)->@l):Prop:=match x with
 |.fZ kvs=>wX kvs=true/\R (kvs.map λp=>.tup [p.1,p.2]) @aw G1
 |_=>False
def i7(a:fB):Fx:=λE τ G R=>a E τ G λx G1=>Hf x G1 R
def rM(k v:fB):fB:=λE τ G Q=>k E τ G λx G1=>v E τ G1 λy G2=>eT x=true/\fy G2 (.eG [(x,y)]) Q
def uW(l m:@aC):Bool:=l.length == m.length&&l.all λp=>bL m p.1 == some p.2
def Xw(neg:Bool):zP:=λx y G Q=>∃l m:@aC,xm x G=some (aK l)/\xm y G=some (aK m)/\Q (.bl (if neg then !uW l m else uW l m)) G
def zk(neg:Bool):zP:=λx y G Q=>Cq neg x y G Q\/Xw neg x y G Q
def zR [@a0] [Enc κ] [@U] [Enc α](G:Gp)(d:D)(l:List (κ×α)):Prop:=xm d G=some (aK l)
section
variable {κ α:Type} [@a0] [Enc κ] [@U] [Enc α] {l:List (κ×α)} {G G':Gp} {d:D}
theorem zR.ref{a:Nat}(h:G a=some (.eG (aK l))):zR G @r l:=by unfold zR xm;simp only[h]
theorem zR.fZ:zR G (.fZ (aK l)) l:=rfl
theorem zR.inv(h:zR G d l):d=.fZ (aK l)\/∃a,d=@S/\G a=some (.eG (aK l)):=by
 unfold zR xm at h;split at h
 .exact .inl (by rw[aX h])
 .rename_i a;split at h
  .rename_i kvs e;exact .inr ⟨a,rfl,by rw[e,aX h]⟩
  .cases h
 .cases h
def WY(_:Gp)(d:D)(l:List (κ×α)):Prop:=d=.fZ (aK l)
theorem WY.p(h:WY G d l):zR G' d l:=by unfold WY at h;rw[h];exact .fZ
theorem jM [DecidableEq β] [Enc β](l:List (Int×β)):wX (aK l)=true:=by
 unfold wX aK;rw[ot,jG];intro p _;rfl
theorem DA(l:List (κ×α)):(aK l).length=l.length:=by unfold aK;rw[ar]
theorem DZ(h:zR G d l):MT d G:=by
 rcases h.inv with rfl |⟨a,rfl,e⟩
 .trivial
 .unfold MT;simp only[e]
theorem Rh {C:String} {Q:DK} (h:zR G d l) (k:Q (.bl (C == "dict")) G):isAt C d G Q:=by
 rcases h.inv with rfl |⟨a,rfl,e⟩
 .exact k
 .rw[Rg];simp only[e];exact k
end
section
variable {α:Type} [@U] [Enc α] {l:List (Int×α)} {G:Gp} {d:D}
theorem BM(h:zR G d l)(hs:l.length<=SZ)(k:fy G (.eG (aK l)) Q):vi [d] G Q:=⟨_,h,jM l,by rw[DA];exact hs,k⟩
theorem Vg{Q:DK}{i:Int}{e:α}(h:zR G d l)(k:Q (enc ((bL l i).getD e)) G):zo d [@A,enc e] G Q:=by
 refine⟨_,h,jM l,rfl,?_⟩;have:(look (aK l) (@A)).getD (enc e)=enc ((bL l i).getD e):=by
  rw[show(D.int i)=enc i from rfl,kS];cases bL l i<;>rfl
 rw[this];exact k
theorem lQ{G0:Gp}{R:@e->(@l)->@l}(h:WY G0 d l)(le0:dH G0 G)(k:∀ok:@l,(∀G',dH G0 G'->ok G')->R (l.map λp=>.tup [.int p.1,enc p.2]) ok G):Hf d G R:=by
 unfold WY at h;rw[h];refine⟨jM l,?_⟩;have:(aK l).map (λp=>D.tup [p.1,p.2])=l.map λp=>.tup [.int p.1,enc p.2]:=by unfold aK;rw[bw];rfl
 rw[this];exact k _ λG' le=>trivial
theorem lC{G0:Gp}{R:@e->(@l)->@l}(h:WY G0 d l)(le0:dH G0 G)(k:∀ok:@l,(∀G',dH G0 G'->ok G')->R (l.map λp=>.int p.1) ok G):uE d G R:=by
 unfold WY at h;rw[h];show R ((aK l).map @k) _ G;have:(aK l).map @k=l.map λp=>D.int p.1:=by unfold aK;rw[bw];rfl
 rw[this];exact k _ λG' le=>trivial
theorem wD{i:Int}{v:α}{Q:DK}(h:zR G d l)(e:bL l i=@Y)(k:Q (enc v) G):gq d (@A) G Q:=by
 have hk:iC (aK l) (@A)=true:=gN l i;have hl:look (aK l) (@A)=some (enc v):=by rw[show(D.int i)=enc i from rfl,kS,e];rfl
 rcases h.inv with rfl |⟨a,rfl,e⟩
 .rw[uo,hl];exact⟨hk,k⟩
 .rw[D9,e];simp only[hl];exact⟨hk,k⟩
theorem cW{a:Nat}{i:Int}{v:α}{Q:@l}(h:G a=some (.eG (aK l)))(hs:l.length<SZ)(k:Q (di G a (.eG (aK (du l i v))))):Ay @r (@A) (enc v) G Q:=by
 unfold Ay;simp only[h];refine⟨gN l i,by rw[DA];exact hs,?_⟩;rw[show(D.int i)=enc i from rfl,Lq];exact k
end
theorem AK{neg:Bool}{G:Gp}{i j:Int}{Q:DK}(k:Q (.bl (if neg then !decide (i=j) else decide (i=j))) G):zk neg (@A) (.int j) G Q:=.inl ⟨_,_,@P,@P,by
 have:jC (@A) (.int j)=decide (i=j):=Enc.eqv i j;rw[this];exact k⟩
abbrev TF2:=k7->iE->Gp->(@y->@l)->Prop
def HJ(a:fB):fB:=λE τ G Q=>a E τ G λx G1=>∃ds,oQ x G1=some ds/\fy G1 (.lst ds.reverse) Q
end K2
end
section
namespace K2
def yr(x:PySem.Str)(t:Cd):gj:=λE _ τ G=>t E τ G λds _=>ds.length<=SZ/\E ⟨x,[]⟩ (λ_=>none)
end K2
namespace K2
open PySem (Str)
def DC(sp:jl)(t:Cd)(i:Nat)(cat:@y)(th:gj):gj:=λ_ K τ G=>
 t (@j) τ G λds G1=>sp ds (λ_=>none) (λ_ _=>K.nx τ G1) λex _=>cat.contains ex.cls=true /\
  th (@j) ⟨λoI G'=>K.nx (oI.set i none) G',@j,@j,@j⟩ (τ.set i (some (.exc ex.cls))) G1
end K2
namespace K2
open PySem (Str)
def BI(all sub:@y)(a:fB):fB:=λE τ G Q=>a E τ G λx G1=>match x with
 |.eX=>Q (.bl false) G1
 |.exc c=>all.contains c=true/\Q (.bl (sub.contains c)) G1
 |.BA c _ _=>all.contains c=true/\Q (.bl (sub.contains c)) G1
 |_=>False
end K2
namespace K2
open PySem (Str)
def yt(sp:jl)(t:Cd):fB:=λE τ G Q=>t E τ G λds G1=>sp ds G1 Q E
end K2
end
section
namespace K2
open PySem (Str)
open Enc (enc)
def pQ(ds:@e)(G:Gp)(Q:DK):Prop:=match ds with
 |[.ref a]=>(match G a with
  |some (.eG kvs)=>kvs.length<=1000/\fy G (.lst (kvs.map @k)) Q
  |_=>False)
 |_=>False
def cInt(ds:@e)(G:Gp)(Q:DK):Prop:=match ds with
 |[.bl b]=>Q (.int (if b=true then 1 else 0)) G
 |_=>False
end K2
end
section
namespace K2
open PySem (Str)
def HN(k v k2 v2:fB):fB:=λE τ G Q=>k E τ G λx G1=>v E τ G1 λy G2=>k2 E τ G2 λx2 G3=>v2 E τ G3 λy2 G4=>(eT x=true/\eT x2=true/\jC x x2=false)/\fy G4 (.eG [(x,y),(x2,y2)]) Q
def NV(x:D)(G1:Gp)(R:@e->(@l)->@l):Prop:=match x with
 |.fZ kvs=>(kvs.all λp=>lB p.1)=true/\R (kvs.map λp=>.tup [p.1,p.2]) @aw G1
 |_=>False
def w6(a:fB):Fx:=λE τ G R=>a E τ G λx G1=>NV x G1 R
def yZ(kv:@aC):fB:=λ_ _ G Q=>fy G (.eG (aK kv)) Q
end K2
end
section
namespace K2
open PySem (Str)
open Enc (enc)
noncomputable def h2(t:T2):Int:=PySem.reduceHash (PySem.Builtin.Tuple.tupleHashOf [PySem.hashInt t.a,PySem.hashInt t.b])
end K2
end
section
namespace K2
open PySem (Str)
def H0(ds:@e)(G:Gp)(Q:DK):Prop:=match ds with
 |[x]=>(match oQ x G with
  |some xs=>Q (.tup xs) G
  |none=>False)
 |_=>False
noncomputable def only(a:Nat)(o:GO):Gp:=λb=>if b=a then @g else none
noncomputable def oR(kvs:List (PK×D))(k:PK):@aD:=(kvs.find? λp=>decide (p.1=k)).map (·.2)
noncomputable def Na(kvs:List (PK×D))(k:PK)(v:D):List (PK×D) :=
 if(kvs.any λp=>decide (p.1=k))=true then kvs.map (λp=>if p.1=k then(p.1,v) else p) else kvs++[(k,v)]
def tyP(x:D)(G:Gp):Prop:=match x with
 |.ref a=>(match G a with
  |some (.se _)=>True
  |_=>False)
 |.kF _=>True
 |_=>False
def A5(x:D)(ds:@e)(G:Gp)(Q:DK):Prop:=match x,ds with
 |.ref a,[k,d]=>∃kvs pk,G a=some (.se kvs)/\k=lb pk/\Q ((oR kvs pk).getD d) G
 |.kF kvs,[k,d]=>∃pk,k=lb pk/\Q ((oR kvs pk).getD d) G
 |_,_=>False
def Jy(o k d:D)(G:Gp)(Q:@l):Prop:=match o with
 |.ref a=>∃kvs pk,G a=some (.se kvs)/\k=lb pk/\kvs.length<SZ/\Q (di G a (.se (Na kvs pk d)))
 |_=>False
def tM(o k:fB):y8:=λE d τ G Q=>o E τ G λx G1=>k E τ G1 λy G2=>Jy x y d G2 λG3=>Q τ G3
def CC:fB:=λ_ _ G Q=>fy G (.se []) Q
def Mn(k v:fB):fB:=λE τ G Q=>k E τ G λx G1=>v E τ G1 λy G2=>∃pk,x=lb pk/\fy G2 (.se [(pk,y)]) Q
def NW(x:D)(G1:Gp)(R:@e->(@l)->@l):Prop:=match x with
 |.kF kvs=>R (kvs.map λp=>.tup [lb p.1,p.2]) @aw G1
 |_=>False
def qV(a:fB):Fx:=λE τ G R=>a E τ G λx G1=>NW x G1 R
def A4(x:D)(ds:@e)(G:Gp)(Q:DK):Prop:=match x,ds with
 |.ref a,[k]=>∃kvs d,G a=some (.eG kvs)/\(lB k=true/\(kvs.all λp=>lB p.1)=true/\look kvs k=@O)/\Q d (di G a (.eG (kvs.filter λp=>!jC p.1 k)))
 |_,_=>False
def ET(m:Nat)(fr:List Nat)(i:Fx)(g:y8)(c:Option yy)(e:fB):fB:=λE τ G Q=>
 i E τ G λds ok G1=>ds.length<=SZ/\iD g c e ok ds E (tW m fr τ) G1 [] λxs G2=>fy G2 (.lst xs) Q
end K2
end
local macro_rules | `(tactic|simp! $[[$a,*]]? $[$l:location]?)=>match a with |some a=>`(tactic|simp only[↓aa,↓ah,↓ae,↓ai,↓K2.bG,↓ax,↓aj,↓K2.cD,↓aw,↓aR,↓aH,↓aL,↓K2.dW,↓K2.bJ,↓K2.cJ,↓K2.fL,↓if_false,↓au,↓K2.gY,↓if_true,↓K2.gi,↓K2.kL,↓bg,↓K2.jD,↓K2.j3,↓K2.oU,↓K2.jy,↓K2.iM,↓true_and,↓K2.gw,↓K2.ny,↓K2.oZ,↓K2.lN,↓K2.jz,↓K2.uj,↓K2.lG,↓K2.oV,↓K2.qk,↓K2.bZ,↓K2.aY,↓K2.ends,↓K2.aN,↓K2.ES,↓K2.ak,↓K2.jJ,↓K2.oY,↓K2.ao,↓K2.aM,↓K2.cb,↓K2.HI,↓K2.iO,↓K2.aQ,↓K2.aE,↓K2.dC,↓K2.dj,↓K2.eM,↓K2.fA,↓K2.hX,↓K2.EU,↓K2.IT,↓K2.nW,↓K2.qv,↓K2.xp,↓K2.qu,↓K2.zK,↓K2.fm,↓K2.jB,↓K2.bb,↓K2.gO,↓K2.qa,↓K2.lO,↓K2.nI,↓K2.um,↓K2.wC,↓K2.uq,↓K2.wF,↓K2.ui,↓K2.uk,↓K2.nY,↓K2.tX,↓K2.qw,↓K2.kC,↓K2.lP,↓K2.iN,↓K2.v7,↓K2.v5,↓and_true,↓K2.gX,↓K2.ql,↓K2.w4,↓aP,↓cL,↓K2.eU,↓K2.i7,↓K2.gx,↓K2.tf,↓K2.lu,↓K2.rM,↓K2.hV,↓K2.cY,↓K2.hW,↓K2.kN,$a,*] $[$l:location]?) |none=>`(tactic|simp only[↓aa,↓ah,↓ae,↓ai,↓K2.bG,↓ax,↓aj,↓K2.cD,↓aw,↓aR,↓aH,↓aL,↓K2.dW,↓K2.bJ,↓K2.cJ,↓K2.fL,↓if_false,↓au,↓K2.gY,↓if_true,↓K2.gi,↓K2.kL,↓bg,↓K2.jD,↓K2.j3,↓K2.oU,↓K2.jy,↓K2.iM,↓true_and,↓K2.gw,↓K2.ny,↓K2.oZ,↓K2.lN,↓K2.jz,↓K2.uj,↓K2.lG,↓K2.oV,↓K2.qk,↓K2.bZ,↓K2.aY,↓K2.ends,↓K2.aN,↓K2.ES,↓K2.ak,↓K2.jJ,↓K2.oY,↓K2.ao,↓K2.aM,↓K2.cb,↓K2.HI,↓K2.iO,↓K2.aQ,↓K2.aE,↓K2.dC,↓K2.dj,↓K2.eM,↓K2.fA,↓K2.hX,↓K2.EU,↓K2.IT,↓K2.nW,↓K2.qv,↓K2.xp,↓K2.qu,↓K2.zK,↓K2.fm,↓K2.jB,↓K2.bb,↓K2.gO,↓K2.qa,↓K2.lO,↓K2.nI,↓K2.um,↓K2.wC,↓K2.uq,↓K2.wF,↓K2.ui,↓K2.uk,↓K2.nY,↓K2.tX,↓K2.qw,↓K2.kC,↓K2.lP,↓K2.iN,↓K2.v7,↓K2.v5,↓and_true,↓K2.gX,↓K2.ql,↓K2.w4,↓aP,↓cL,↓K2.eU,↓K2.i7,↓K2.gx,↓K2.tf,↓K2.lu,↓K2.rM,↓K2.hV,↓K2.cY,↓K2.hW,↓K2.kN] $[$l:location]?)
section
namespace K2
mutual
noncomputable def noD:D->Bool
 |.eX=>true
 |.bl _=>true
 |.int _=>true
 |.str _=>true
 |.tup ds=>Yb ds
 |.dF ds=>Yb ds
 |_=>false
noncomputable def Yb:@e->Bool
 |[]=>true
 |d::r=>noD d&&Yb r
end
def HK(a:fB):fB:=λE τ G Q=>a E τ G λx G1=>match x with
 |.kF _=>Q (.bl true) G1
 |_=>False
end K2
end
section
namespace K2
open Enc (enc)
def Ms(ds:@e)(G:Gp)(Q:DK):Prop:=∃s t:T3,ds=[enc s,enc t]/\Q (enc (if bq.lt t s=true then t else s)) G
def Mt(ds:@e)(G:Gp)(Q:DK):Prop:=∃s t:T3,ds=[enc s,enc t]/\Q (enc (if bq.lt s t=true then t else s)) G
def AJ(neg:Bool):zP:=λx y G Q=>match y with
 |.fZ []=>(∃t:T3,x=enc t)/\Q (.bl neg) G
 |y=>Cp neg x y G Q
theorem Eb{α:Type} [@U] [Enc α]{neg:Bool}{x:T3}{l:List (T3×α)}{G:Gp}{Q:DK}(q:Q (.bl (if neg then !(bL l x).isSome else(bL l x).isSome)) G):AJ neg (enc x) (.fZ (aK l)) G Q:=by
 cases l with
 |nil=>
  refine⟨⟨x,rfl⟩,?_⟩;cases neg<;>exact q
 |cons p r=>
  refine⟨List.cons_ne_nil _ _,gN (p::r) x,?_⟩;have e:(look (aK (p::r)) (enc x)).isSome=(bL (p::r) x).isSome:=by rw[kS,eY]
  show Q (.bl (if neg then !(look (aK (p::r)) (enc x)).isSome else(look (aK (p::r)) (enc x)).isSome)) G;rw[e];exact q
end K2
end
section
namespace K2
open PySem (Str)
def He(x:D)(G1:Gp)(R:@e->(@l)->@l):Prop:=match x with
 |.kF kvs=>R (kvs.map λp=>lb p.1) @aw G1
 |_=>False
def ye(a:fB):Fx:=λE τ G R=>a E τ G λx G1=>He x G1 R
def M9:zP:=λx y G Q=>match x with
 |.kF kvs=>∃pk d,y=lb pk/\oR kvs pk=@O/\Q d G
 |_=>False
abbrev Sui:=List (PK×@aC)
def tS(S:Sui):List (PK×D):=S.map λp=>(p.1,D.fZ (aK p.2))
def Of(A B:Sui):Bool:=A.length == B.length&&A.all λp=>match bL B p.1 with
 |some m=>uW p.2 m
 |none=>false
def Uc(neg:Bool):zP:=λx y G Q=>∃A B:Sui,x=.kF (tS A)/\y=.kF (tS B)/\Of A B=true/\Q (.bl (!neg)) G
end K2
end
section
namespace K2
def Ia(ds:@e)(G:Gp)(Q:DK):Prop:=match ds with
 |[.int a,.int b]=>Q (.int (if b<a then b else a)) G
 |_=>False
end K2
end
section
namespace K2
open PySem
section
variable {prog:bC} {w:World} {K:Type} [DecidableEq K] (knd:B8 prog w K)
inductive uY (h:Heap):List K->@s->Prop
 |nil:uY h [] []
 |cons {k:K} {b:Addr} {ks:List K} {vs:@s}:knd.is h k b->uY h ks vs->uY h (k::ks) (.ref b::vs)
def uZ (h:Heap) (ks:List K) (a:Addr):Prop:=∃o items n,@ak=@g/\o.cls=@ad/\o.data=.seq items n/\uY knd h ks items.toList
variable {knd}
theorem uY.inj(hx:uY knd h x vs)(hy:uY knd h y vs):x=y:=by
 induction hx generalizing y with
 |nil=>cases hy;rfl
 |cons h1 _ ih=>
  cases hy with
  |cons h2 t2=>rw[knd.inj h1 h2,ih t2]
theorem uY.keeps{es ep}(x:uY knd h ks vs)(ho:h.get? d=@g)(hd:o.data=.dict es ep)(hs:fI d h h'):uY knd h' ks vs:=by
 induction x with
 |nil=>exact .nil
 |cons h1 _ ih=>exact .cons (knd.keeps h1 ho hd hs) ih
theorem uZ.typeIs {s:ay}   (x:uZ knd s.heap ks a):s.TypeIs @r "tuple":=let ⟨o,_,_,ho,hc,_⟩:=x;⟨o,ho,hc⟩
theorem uZ.inj(hx:uZ knd h x a)(hy:uZ knd h y a):x=y:=by
 obtain⟨o,items,n,ho,_,hd,hi⟩:=hx;obtain⟨o',adP,n',Dj,_,Cb,Yz⟩:=hy;obtain rfl:o=o':=aX (ho.symm.trans Dj);rw[hd] at Cb;injection Cb with h1 _
 subst h1;exact hi.inj Yz
theorem uZ.keeps{es ep}(x:uZ knd h ks a)(ho:h.get? d=@g)(hd:o.data=.dict es ep)(hs:fI d h h'):uZ knd h' ks a:=by
 obtain⟨o',items,n,Dj,hc,Cb,hi⟩:=x;have zH:a≠d:=by
  rintro rfl;obtain rfl:o'=o:=aX (Dj.symm.trans ho);rw[hd] at Cb;exact nomatch Cb
 exact⟨o',items,n,(hs.2 a zH).trans Dj,hc,Cb,hi.keeps ho hd hs⟩
noncomputable def Ei(knd:B8 prog w K)(ks:List K):Int:=reduceHash (eF (ks.map knd.hash))
noncomputable def lK(knd:B8 prog w K):List K->Nat
 |[]=>0
 |k::ks=>knd.draws k+lK knd ks
theorem wL(ks)(k):lK knd (ks++[k])=lK knd ks+knd.draws k:=by
 induction ks with
 |nil=>simp[lK]
 |cons a r ih=>rw[aH,lK,lK,ih,pY]
variable {A:cH} {E:@C} {s:ay}
theorem L8{ks:List K}{a:Addr}{Q:Int->@X}(hu:A.units<cLine/\knd.room A.in1)(hk:uZ knd s.heap ks a)(h:Q (Ei knd ks) {s with toks:=s.toks+(lK knd ks+1)}):
  wpAny @J A (pyHash @r) Q E s:=by
 have hT:=hk.typeIs;obtain⟨o,items,n,ho,_,hd,hi⟩:=hk;unfold pyHash
 first |unfold pyHashByItsType |skip
 first |refine ag (wpAny_cRoomFor_or (.inr hu.1) ?_) |skip
 refine ag (mX hT F.slot_tuple_hash.lookup ?_);show wpAny _ _ (if(some (MM "tuple.__hash__") == some dG)=true then _ else _) Q E s;rw[if_neg (by rw[beq_builtin_none];exact eS)];refine ag (mX hT F.slot_tuple_hash.lookup ?_);show wpAny _ _ (callSpecialIfBoundUnlessNone? @r "__hash__" _ >>= _) Q E s;refine ag (wpAny_callSpecialIfBoundUnlessNone?_slot hT F.slot_tuple_hash (cV F.slot_tuple_hash hT F.entry_tuple_hash ?_ (F.args_tuple_hash_1 _)));show wpAny _ _ (zv @r >>= _) _ _ s;refine ag (FC ho hd ?_);refine ag ?_;rw[<-Aa];refine iG _
  (λrest (b:Array Int) s'=>∃done left,ks=done++left/\uY knd s.heap left rest/\b.toList=done.map knd.hash/\s'={s with toks:=s.toks+lK knd done})
  _ ?_ ?_ _ _ ⟨[],ks,rfl,hi,rfl,rfl⟩
 .rintro x rest b s' ⟨done,left,rfl,hl,hb,rfl⟩;cases hl with
  | @cons k _ ks' _ h1 hl'=>
   refine ag (knd.pyHash hu.2 h1 ?_)
   first
    |exact az ⟨done++[k],ks',@G,hl',by simp[hb],by simp[wL,pY]⟩
    |exact ag (az (az ⟨done++[k],ks',@G,hl',by simp[hb],by simp[wL,pY]⟩))
 .rintro b s' ⟨done,left,rfl,hl,hb,rfl⟩;cases hl;rw[cI] at h;show wpAny _ _ (retInt (eF b.toList)) _ _ _;rw[hb];refine wpAny_ret_mkInt ?_;show wpAny _ _ (if(decide (-(2:Int) ^ 63<=eF (done.map knd.hash))&&decide (eF (done.map knd.hash)<2 ^ 63))=true then _ else _) Q E _;unfold Ei reduceHash at h;by_cases hr:(decide (-(2:Int) ^ 63<=eF (done.map knd.hash))&&decide (eF (done.map knd.hash)<2 ^ 63))=true
  .rw[if_pos hr];rw[if_pos hr] at h;exact az (by simpa[pY] using h)
  .rw[if_neg hr];rw[if_neg hr] at h;exact ag (wpAny_rule (az (by simpa[pY] using h)))
theorem Ks{x y:List K}{a b:Addr}{P:Fin->@X}(hu:knd.room A)(hx:uZ knd s.heap x a)(hy:uZ knd s.heap y b)(h:P (.done (.ret (.bool (decide (x=y))))) s):
  wpAny @J A (Builtin.«tuple.__eq__» ⟨[@S,.ref b],[]⟩) P E s:=by
 have hTb:=hy.typeIs;obtain⟨oa,xs,na,Zw,_,Zx,hia⟩:=hx;obtain⟨ob,ys,nb,hob,_,pO,hib⟩:=hy;show wpAny _ _ (IY (.ref b) (@ad) >>= _) _ _ s;refine ag (iF hTb zX ?_);simp only[bg,au,if_false];refine ag (FC Zw Zx ?_);refine ag (FC hob pO ?_);refine ag ?_;refine iG _
  (λrest r s'=>r.1=none/\s'=s/\∃x' y' Pf ZP,rest=List.zip Pf ZP/\uY knd s.heap x' Pf/\uY knd s.heap y' ZP/\decide (x'=y')=decide (x=y)/\(Pf.length == ZP.length)=(xs.size == ys.size))
  _ ?_ ?_ _ _ ⟨rfl,rfl,x,y,xs.toList,ys.toList,rfl,hia,hib,rfl,@G⟩
 .rintro⟨u,v⟩ rest r s' ⟨hr,rfl,x',y',Pf,ZP,hz,hx',Wx,Vw,hlen⟩;cases hx' with
  |nil=>simp at hz
  | @cons k1 u' x'' acU h1 adW=>
   cases Wx with
   |nil=>simp at hz
   | @cons k2 v' y'' acT h2 adU=>
    simp only[rQ,List.cons.injEq,sF] at hz;obtain⟨⟨rfl,rfl⟩,rfl⟩:=hz;refine ag (knd.eqBool hu h1 h2 ?_);by_cases hk:k1=k2
    .subst hk;rw[decide_eq_true rfl];simp only[bg,au,if_false];refine az ⟨rfl,rfl,x'',y'',acU,acT,rfl,adW,adU,?_,by simpa using hlen⟩;rw[<-Vw];by_cases Rp:x''=y''
     .simp[Rp]
     .simp[Rp]
    .rw[decide_eq_false hk];simp only[cL,if_true];have hf:decide (x=y)=false:=by rw[<-Vw];simp[hk]
     rw[hf] at h;exact ag (az (az (az h)))
 .rintro⟨r1,r2⟩ s' ⟨hr,rfl,x',y',Pf,ZP,hz,hx',Wx,Vw,hlen⟩;simp only at hr;subst hr;refine az ?_;have aep:(xs.size == ys.size)=decide (x=y):=by
   rw[<-Vw,<-hlen];cases hx' with
   |nil=>
    cases Wx with
    |nil=>simp
    |cons _ _=>simp
   |cons _ _=>
    cases Wx with
    |nil=>simp
    |cons _ _=>simp at hz
  show P (.done (.ret (.bool (xs.size == ys.size)))) s';rw[aep];exact h
theorem Dw{x y:List K}{a b:Addr}{Q:Bool->@X}(hu:A.units<cLine/\knd.room A.in1)(hx:uZ knd s.heap x a)(hy:uZ knd s.heap y b)(h:Q (decide (x=y)) s):
  wpAny @J A (eqBool @r (.ref b)) Q E s:=by
 unfold eqBool
 try with_reducible refine ck ?_
 show wpAny _ _ (if(dg a == dg b)=true then _ else _) Q E s;by_cases N8:(dg a == dg b)=true
 .rw[if_pos N8];have e:a=b:=by have:=eq_of_beq N8;injection this
  subst e;obtain rfl:=hx.inj hy;exact ag (wpAny_rule (az (@bc)))
 .rw[if_neg N8];exact ag (sf (op:=.Eq) hx.typeIs hy.typeIs F.slot_tuple_eq
   (cV F.slot_tuple_eq hx.typeIs F.entry_tuple_eq (Ks hu.2 hx hy ⟨_,rfl,(λe=>nomatch e),jt h⟩) (F.args_tuple_eq_2 _ _)) hu.1)
theorem AM{ks:List K}{a:Addr}{Q:Bool->@X}(n:Nat)(hq:∀(k:K) (b:Addr) (Q:Bool->@X),knd.is s.heap k b->Q true s->wpAny @J A (Pb n (.ref b)) Q E s)(hk:uZ knd s.heap ks a)(h:Q true s):wpAny @J A (Pb (n+1) @r) Q E s:=by
 have hT:=hk.typeIs;obtain⟨o,items,n',ho,_,hd,hi⟩:=hk;unfold Pb;refine ag (mX hT F.slot_tuple_eq.lookup ?_);show wpAny _ _ (IY @r (@ad) >>= _) _ _ s;refine ag (iF hT zX ?_);simp only[bg,au,if_false];refine ag (iX ho hd ?_);refine ag ?_;show wpAny _ _ (forIn items _ _) _ _ s;rw[<-Aa];refine iG _ (λrest r s'=>r.1=none/\s'=s/\∃l,uY knd s.heap l rest) _ ?_ ?_ _ _ ⟨rfl,rfl,_,hi⟩
 .rintro v rest r s' ⟨hr,rfl,l,xb⟩;cases xb with
  |cons h1 h2=>
   refine ag (hq _ _ _ h1 ?_);simp only[bg,au,if_false];exact az ⟨rfl,rfl,_,h2⟩
 .rintro⟨r1,r2⟩ s' ⟨hr,rfl,_⟩;simp only at hr;subst hr;exact az h
end
theorem Lp{prog:bC}{w:World}{K:Type} [DecidableEq K]{knd:KeyKind prog w K}{A:cH}{E:@C}{s:ay}{ks:List K}{a:Addr}{Q:Bool->@X}(n:Nat)(hk:IsTupleKey knd s.heap ks a)(h:Q true s):wpAny @J A (Pb (n+1) @r) Q E s:=by
 have hT:=hk.typeIs;obtain⟨o,items,n',ho,_,hd,hi⟩:=hk;unfold Pb;refine ag (mX hT F.slot_tuple_eq.lookup ?_);show wpAny _ _ (IY @r (@ad) >>= _) _ _ s;refine ag (iF hT zX ?_);simp only[bg,au,if_false];refine ag (iX ho hd ?_);refine ag ?_;show wpAny _ _ (forIn items _ _) _ _ s;rw[<-Aa];refine iG _ (λrest r s'=>r.1=none/\s'=s/\∀v∈rest,carriedByValue v=true) _ ?_ ?_ _ _ ⟨rfl,rfl,hi.byValue⟩
 .rintro v rest r s' ⟨hr,rfl,xb⟩;rw[eqIsQuiet_byValue _ (xb v cw)];refine ag (az ?_);simp only[bg,au,if_false];exact az ⟨rfl,rfl,λu Kb=>xb u (aI _ Kb)⟩
 .rintro⟨r1,r2⟩ s' ⟨hr,rfl,_⟩;simp only at hr;subst hr;exact az h
section
variable {prog:bC} {w:World}
def Zr [DecidableEq K](knd:KeyKind prog w K):B8 prog w (List (List K)) where
 is:=uZ (gS knd)
 hash:=Ei (gS knd)
 draws:=λks=>lK (gS knd) ks+1
 room:=λA=>A.units<cLine/\(gS knd).room A.in1
 inj:=λhx hy=>hx.inj hy
 keeps:=λx ho hd hs=>x.keeps ho hd hs
 pyHash:=λhu hk h=>L8 hu hk h
 eqBool:=λhu hx hy h=>Dw hu hx hy h
 quiet:=λhk h=>AM 7 (λ_ _ _ h1 h2=>Lp 6 h1 h2) hk h
def nk3 [DecidableEq K](knd:KeyKind prog w K):B8 prog w (List (List (List K))) where
 is:=uZ (Zr knd)
 hash:=Ei (Zr knd)
 draws:=λks=>lK (Zr knd) ks+1
 room:=λA=>A.units<cLine/\(Zr knd).room A.in1
 inj:=λhx hy=>hx.inj hy
 keeps:=λx ho hd hs=>x.keeps ho hd hs
 pyHash:=λhu hk h=>L8 hu hk h
 eqBool:=λhu hx hy h=>Dw hu hx hy h
 quiet:=λhk h=>AM 7 (λ_ _ _ h1 h2=>AM 6 (λ_ _ _ h3 h4=>Lp 5 h3 h4) h1 h2) hk h
theorem Nz [DecidableEq K]{knd:KeyKind prog w K}(hu:A.units+8<cLine):(nk3 knd).room A:=by
 refine⟨?_,?_,?_⟩
 .lia
 .show A.units+1<cLine;lia
 .show A.units+1+1<cLine;lia
theorem tx [DecidableEq K]{knd:KeyKind prog w K}{A:cH}(hu:A.units+8<cLine):(nk3 knd).room A.in1:=by
 refine⟨?_,?_,?_⟩
 .show A.units+1<cLine;lia
 .show A.units+1+1<cLine;lia
 .show A.units+1+1+1<cLine;lia
end
section
variable {K:Type} [DecidableEq K]
noncomputable def W2(xs:List (K×@aO))(k:K):List (K×@aO):=xs.filter λx=>decide (x.1≠k)
theorem MS(hn:(xs.map @k).Nodup):∀{j:Nat} {k:K} {p:@aO},xs[j]?=some (k,p)->xs.eraseIdx j=W2 xs k:=by
 induction xs with
 |nil=>intro j k p h;simp at h
 | cons x r ih=>
  intro j k p h;rw[aw,aW] at hn;cases j with
  |zero=>
   simp only[aa,MR] at h;subst h;unfold W2;rw[OR,OQ @i];symm;refine List.filter_eq_self.mpr λy hy=>?_;have:y.1≠k:=λz=>hn.1 (List.mem_map.mpr ⟨y,hy,z⟩);ext f
  |succ j=>
   simp only[ae] at h;have:x.1≠k:=λz=>hn.1 (by rw[z];exact List.mem_map.mpr ⟨_,fD h,rfl⟩);unfold W2;rw[OS,OP (by ext f),ih hn.2 h];rfl
theorem C5{α β:Type}(f:α->β):∀(l:@v) (j:Nat),(l.eraseIdx j).map f=(l.map f).eraseIdx j
 |[],_=>rfl
 |_::_,0=>rfl
 |a::l,j+1=>congrArg (f a::·) (C5 f l j)
end
section
variable {prog:bC} {w:World} {K:Type} [DecidableEq K] {knd:B8 prog w K} {A:cH} {E:@C} {s:ay}
theorem D1{d a:Addr}{xs:List (K×@aO)}{k:K}{p:@aO}{Q:Option ft->@X}(hu:knd.room A)(Vt:knd.is s.heap k a)(hm:s.heap.DictOfH knd d xs)(hp:atKey xs k=some p)(hsz:xs.length<=bc)
  (hQ:∀e:ft,e.val=p.2->∀h',h'.DictOfH knd d (W2 xs k)->fI d s.heap h'->Q (some e) {s with heap:=h',toks:=s.toks+knd.draws k}):
  wpAny @J A (FO d @r) Q E s:=by
 obtain⟨o,es,ep,ho,hc,hd,he,his,hn⟩:=hm;unfold FO
 try with_reducible refine ck ?_
 refine ag (knd.pyHash hu Vt (ag (wpAny_dictFind_heap (s:={s with toks:=s.toks+knd.draws k}) hu Vt ho hd he his hn ?_ ?_)))
 .intro hno;rw[atKey_none_of_get hno] at hp;cases hp
 .intro j q hj;rw[atKey_of_get hn hj] at hp;cases hp;refine ag (dQ (s:={s with toks:=s.toks+knd.draws k}) ho hd ?_);rw[entry_at he j,hj]
  refine ag (wpAny_updateDictKeys (hz:=by have e:=zT he;lia) (s:={s with toks:=s.toks+knd.draws k}) ho hd (az (hQ _ rfl _ ⟨_,_,ep+1,eA _ ho (Obj.isFreed_of_dict (Obj.data_mapDictKeys hd _)),
   hc.mapDictKeys _,Obj.data_mapDictKeys hd _,?_,?_,?_⟩ (j6 ..))))
  .rw[<-MS hn hj,C5,<-he];obtain⟨l⟩:=es;simp
  .intro x hx;exact knd.keeps (his x (List.mem_filter.mp hx).1) ho hd (j6 ..)
  .exact oA (me _ k9) hn
theorem P4{d a:Addr}{xs:List (K×@aO)}{k:K}{p:@aO}{Q:@C}(hu:knd.room A.in1)(Vt:knd.is s.heap k a)(hm:s.heap.DictOfH knd d xs)(hp:atKey xs k=some p)(hsz:xs.length<=bc)
  (hQ:∀h',h'.DictOfH knd d (W2 xs k)->fI d s.heap h'->Q p.2 {s with heap:=h',toks:=s.toks+knd.draws k}):
  wpAny @J A (call (.builtin "dict.pop") [.ref d,@S]) Q E s:=by
 have hT:s.TypeIs (.ref d) "dict":=by obtain⟨o,es,ep,ho,hc,_⟩:=hm;exact⟨o,ho,hc.1⟩
 refine cV MP hT PySem.F.entry_dict_pop ?_ (PySem.F.args_dict_pop_2 _ _);unfold Builtin.«dict.pop»;refine ag ?_;unfold Builtin.Dict.keyAndDefault;refine ag (kH hT ?_);show wpAny _ _ (pure (d,dg a,none)) _ _ s;refine az ?_;have RB:=hm;obtain⟨o,es,ep,ho,hc,hd,he,his,hn⟩:=RB;have zH:es.isEmpty=false:=by
  have:xs≠[]:=by rintro rfl;cases hp
  have h2:=zT he;have h3:0<xs.length:=List.length_pos_iff.mpr this;rw[Array.isEmpty_eq_false_iff];rintro rfl;simp at h2;lia
 simp only[keyPart,Option.isSome_none,au,if_false];refine ag (dQ ho hd (ag (az ?_)));rw[zH,if_neg eS];refine ag (D1 hu Vt hm hp hsz λe hv h' RB Ez=>?_);simp only[Option.isNone_some,au,if_false];exact ag (jQ (az ⟨e.val,rfl,by rw[hv];exact hQ h' RB Ez⟩))
end
end K2
end
section
namespace K2
open PySem PySem.Spec PyProof.Rows L2
def ZH(K:aq)(H:Hp)(a:Addr)(xs:@w):Prop :=
 (∃o,H a=some (.i9 o (.lst xs))) \/
  ∃(o:Obj) (bT:@a6) (n:Nat),K.lookup a=@g/\o.cls=@Q/\o.dict=none/\o.data=.seq bT n/\bT.size<=bc/\Vals xs bT.toList
theorem ZH.sq{K:aq}(h:ZH K H a xs):qB K H a xs:=by
 rcases h with ⟨o,h⟩ |h
 .exact .inl (.inr ⟨o,h⟩)
 .exact .inr h
noncomputable def eL:Key->D
 |.inl i=>@A
 |.inr x=>.str x
def ExcAt(K:aq)(H:Hp)(a:Addr)(c:Str):Prop:=∃(o:Obj) (C:Addr),H a=some (.i9 o (.ext λh=>@ak=@g))/\o.cls=.ref C/\mz K bK c=some (some @R)
def MH(K:aq)(H:Hp)(a:Addr)(c:Str)(ns:@y)(vs:@w):Prop:=∃(o:Obj) (C dx:Addr) (od:Obj) (fs:List (Str×V)),H a=some (.i9 o (.ext λh=>@ak=@g))/\o.cls=.ref C/\mz K bK c=some (some @R)/\o.dict=some dx/\H dx=some (.i9 od (.xd fs))/\PySem.W.notCls o=true/\fs.map @k=ns/\fs.map (·.2)=vs
noncomputable def hsT(hs:@u):Int:=reduceHash (eF hs)
def hP(k:PK):Int:=hsT (k.map λr=>hsT (r.map λt=>hsT (t.map hashInt)))
def KO(a:Addr)(xs:List (PK×@aO))(h:Heap):Prop:=xs.length<=bc/\(a == cu)=false/\∃(o:Obj) (es:Array ft) (ep:Nat),@ak=@g/\o.ExactDict/\o.data=.dict es ep/\es.toList=xs.map (λx=>⟨hP x.1,.ref x.2.1,x.2.2⟩)/\(xs.map @k).Nodup
def V1(kvs:List (PK×D))(ks vs:@w)(xs:List (PK×@aO)):Prop:=kvs.map (λp=>p.1)=xs.map (λx=>x.1)/\ks=xs.map (λx=>V.ref x.2.1)/\Vals vs (xs.map λx=>x.2.2)
mutual
inductive bW (K:aq) (H:Hp):V->D->Prop
 |eX:bW K H .eX .eX
 |bl (b:Bool):bW K H (.bl b) (.bl b)
 |int (i:Int):bW K H (@A) (@A)
 |str (x:Str):bW K H (.str x) (.str x)
 |tup {a:Addr} {vs:@w} {ds:@e}:H a=some (.tup vs)->@aU->bW K H @r (.tup ds)
 |dF {a:Addr} {vs:@w} {ds:@e}:ZH K H a vs->@aU->bW K H @r (.dF ds)
 |pM {a:Addr} {o:Obj} {kv:@aE} {kvs:@af}:H a=some (.i9 o (.dK kv))->mP K H kv kvs->bW K H @r (.fZ kvs)
 |pL {a:Addr} {o:Obj} {kv:@a4} {kvs:@af}:H a=some (.i9 o (.dT kv))->my K H kv kvs->bW K H @r (.fZ kvs)
 |ref (a:Addr):bW K H @r @r
 |exc {a:Addr} {c:Str}:ExcAt K H a c->bW K H @r (.exc c)
 |BA {a:Addr} {c:Str} {ns:@y} {vs:@w} {ds:@e}:MH K H a c ns vs->@aU->bW K H @r (.BA c ns ds)
 |kF {a:Addr} {o:Obj} {xs:List (PK×@aO)} {ks vs:@w} {kvs:List (PK×D)}:H a=some (.i9 o (.ext (KO a xs)))->V1 kvs ks vs xs->bo K H ks (kvs.map λp=>lb p.1)->bo K H vs (kvs.map λp=>p.2)->bW K H @r (.kF kvs)
inductive bo (K:aq) (H:Hp):@w->@e->Prop
 |nil:bo K H [] []
 |cons {v:V} {d:D} {vs:@w} {ds:@e}:bW K H v d->@aU->bo K H (v::vs) (d::ds)
inductive mP (K:aq) (H:Hp):@aE->@af->Prop
 |nil:mP K H [] []
 |cons {k:Key} {v:V} {d:D} {r:@aE} {t:@af}:bW K H v d->mP K H r t->mP K H ((k,v)::r) ((eL k,d)::t)
inductive my (K:aq) (H:Hp):@a4->@af->Prop
 |nil:my K H [] []
 |cons {k:List Key} {v:V} {d:D} {r:@a4} {t:@af}:bW K H v d->my K H r t->my K H ((k,v)::r) ((.tup (k.map eL),d)::t)
end
structure Kp(H H':Hp):Prop where
 tup:∀a xs,H a=some (.tup xs)->H' a=some (.tup xs)
 i9:∀a o u,H a=some (.i9 o u)->H' a=some (.i9 o u)
theorem Kp.refl(H):Kp H H:=⟨λ_ _ h=>h,λ_ _ _ h=>h⟩
theorem Kp.trans(a:Kp H H1)(b:Kp H1 H2):Kp H H2:=⟨λc xs h=>b.tup c xs (a.tup c xs h),λc o u h=>b.i9 c o u (a.i9 c o u h)⟩
theorem Kp.sqT{K:aq}(k:Kp H H')(h:zO K H a xs):zO K H' a xs:=by
 rcases h with(h |⟨o,h⟩) |h
 .exact .inl (.inl (k.tup _ _ h))
 .exact .inl (.inr ⟨o,k.i9 _ _ _ h⟩)
 .exact .inr h
theorem Kp.Xi{K:aq}(k:Kp H H')(h:ZH K H a xs):ZH K H' a xs:=by
 rcases h with ⟨o,h⟩ |h
 .exact .inl ⟨o,k.i9 _ _ _ h⟩
 .exact .inr h
theorem ExcAt.mono{K:aq}(k:Kp H H')(h:ExcAt K H a c):ExcAt K H' a c :=
 let ⟨o,C,h1,h2,h3⟩:=h
 ⟨o,C,k.i9 _ _ _ h1,h2,h3⟩
theorem MH.mono{K:aq}(k:Kp H H')(h:MH K H a c ns vs):MH K H' a c ns vs :=
 let ⟨o,C,dx,od,fs,h1,h2,h3,h4,h5,h6⟩:=h
 ⟨o,C,dx,od,fs,k.i9 _ _ _ h1,h2,h3,h4,k.i9 _ _ _ h5,h6⟩
theorem bo.Hd{K:aq}{H:Hp}{P:@w->@e->Prop}(h0:P [] [])(h1:∀{v:V} {d:D} {vs:@w} {ds:@e},bW K H v d->@aU->P vs ds->P (v::vs) (d::ds)){vs:@w}{ds:@e}(h:@aU):P vs ds :=
 bo.rec (motive_1:=λ_ _ _=>True) (motive_2:=λvs ds _=>P vs ds) (motive_3:=λ_ _ _=>True) (motive_4:=λ_ _ _=>True) trivial (λ_=>trivial) (λ_=>trivial) (λ_=>trivial) (λ_ _ _=>trivial) (λ_ _ _=>trivial) (λ_ _ _=>trivial) (λ_ _ _=>trivial) (λ_=>trivial) (λ_=>trivial) (λ_ _ _=>trivial) (λ_ _ _ _ _ _=>trivial) h0 (λa b _ ih=>h1 a b ih) trivial @aj trivial @aj h
theorem bW.mono{K:aq}(k:Kp H H'):∀{v:V} {d:D},bW K H v d->bW K H' v d:=λh=>
 bW.rec (motive_1:=λv d _=>bW K H' v d) (motive_2:=λv d _=>bo K H' v d) (motive_3:=λv d _=>mP K H' v d) (motive_4:=λv d _=>my K H' v d)
  .eX .bl .int .str (λh _ r=>.tup (k.tup _ _ h) r) (λh _ r=>.dF (k.Xi h) r) (λh _ r=>.pM (k.i9 _ _ _ h) r) (λh _ r=>.pL (k.i9 _ _ _ h) r) .ref (λh=>.exc (h.mono k)) (λh _ r=>.BA (h.mono k) r) (λh z _ _ r1 r2=>.kF (k.i9 _ _ _ h) z r1 r2) .nil (λ_ _ a b=>.cons a b) .nil (λ_ _ a b=>.cons a b) .nil (λ_ _ a b=>.cons a b) h
theorem bo.mono{K:aq}(k:Kp H H')(h:bo K H v d):bo K H' v d :=
 bo.Hd (P:=λv d=>bo K H' v d) .nil (λr _ ih=>.cons (r.mono k) ih) h
theorem mP.mono{K:aq}(k:Kp H H')(h:mP K H v d):mP K H' v d :=
 mP.rec (motive_1:=λv d _=>bW K H' v d) (motive_2:=λv d _=>bo K H' v d) (motive_3:=λv d _=>mP K H' v d) (motive_4:=λv d _=>my K H' v d)
  .eX .bl .int .str (λh _ r=>.tup (k.tup _ _ h) r) (λh _ r=>.dF (k.Xi h) r) (λh _ r=>.pM (k.i9 _ _ _ h) r) (λh _ r=>.pL (k.i9 _ _ _ h) r) .ref (λh=>.exc (h.mono k)) (λh _ r=>.BA (h.mono k) r) (λh z _ _ r1 r2=>.kF (k.i9 _ _ _ h) z r1 r2) .nil (λ_ _ a b=>.cons a b) .nil (λ_ _ a b=>.cons a b) .nil (λ_ _ a b=>.cons a b) h
theorem my.mono{K:aq}(k:Kp H H')(h:my K H v d):my K H' v d :=
 my.rec (motive_1:=λv d _=>bW K H' v d) (motive_2:=λv d _=>bo K H' v d) (motive_3:=λv d _=>mP K H' v d) (motive_4:=λv d _=>my K H' v d)
  .eX .bl .int .str (λh _ r=>.tup (k.tup _ _ h) r) (λh _ r=>.dF (k.Xi h) r) (λh _ r=>.pM (k.i9 _ _ _ h) r) (λh _ r=>.pL (k.i9 _ _ _ h) r) .ref (λh=>.exc (h.mono k)) (λh _ r=>.BA (h.mono k) r) (λh z _ _ r1 r2=>.kF (k.i9 _ _ _ h) z r1 r2) .nil (λ_ _ a b=>.cons a b) .nil (λ_ _ a b=>.cons a b) .nil (λ_ _ a b=>.cons a b) h
theorem bo.length{K:aq}:∀{vs:@w} {ds:@e},@aU->vs.length=ds.length:=λh=>
 bo.Hd (P:=λvs ds=>vs.length=ds.length) rfl (λ_ _ ih=>congrArg (· + 1) ih) h
theorem bo.get{K:aq}:∀{vs:@w} {ds:@e} {i:Nat} {d:D},@aU->ds[i]?=@O->∃v,vs[i]?=@Y/\bW K H v d:=by
 intro vs ds i d h;refine bo.Hd (P:=λvs ds=>∀(i:Nat) (d:D),ds[i]?=@O->∃v,vs[i]?=@Y/\bW K H v d) (λi d e=>by cases e) (λr _ ih i d e=>?_) h i d;cases i with
 |zero=>cases e;exact⟨_,rfl,r⟩
 |succ i=>exact ih i d e
theorem bo.append{K:aq}:∀{vs ws:@w} {ds es:@e},@aU->bo K H ws es->bo K H (vs++ws) (ds++es):=λ{_ ws _ es} h s=>
 bo.Hd (P:=λvs ds=>bo K H (vs++ws) (ds++es)) s (λr _ ih=>.cons r ih) h
theorem bo.take{K:aq}:∀{vs:@w} {ds:@e} (n:Nat),@aU->bo K H (vs.take n) (ds.take n):=λ{_ _} n h=>
 bo.Hd (P:=λvs ds=>∀n,bo K H (vs.take n) (ds.take n)) (λn=>by rw[B5,B5];exact .nil) (λr _ ih n=>by
  cases n with
  |zero=>exact .nil
  |succ n=>exact .cons r (ih n)) h n
theorem bo.drop{K:aq}:∀{vs:@w} {ds:@e} (n:Nat),@aU->bo K H (vs.drop n) (ds.drop n):=λ{_ _} n h=>
 bo.Hd (P:=λvs ds=>∀n,bo K H (vs.drop n) (ds.drop n)) (λn=>by rw[B6,B6];exact .nil) (λr t ih n=>by
  cases n with
  |zero=>exact .cons r t
  |succ n=>exact ih n) h n
theorem bo.set{K:aq}(r:bW K H v d):∀{vs:@w} {ds:@e} (i:Nat),@aU->bo K H (vs.set i v) (ds.set i d):=λ{_ _} i h=>
 bo.Hd (P:=λvs ds=>∀i,bo K H (vs.set i v) (ds.set i d)) (λi=>by rw[DS,DS];exact .nil) (λq t ih i=>by
  cases i with
  |zero=>exact .cons r t
  |succ i=>exact .cons q (ih i)) h i
theorem bo.one{K:aq}:∀{vs:@w} {d:D},bo K H vs [d]->∃v,vs=[v]/\bW K H v d:=by
 intro vs d h;cases h with
 |cons r t=>cases t;exact⟨_,rfl,r⟩
theorem bo.two{K:aq}:∀{vs:@w} {d e:D},bo K H vs [d,e]->∃v u,vs=[v,u]/\bW K H v d/\bW K H u e:=by
 intro vs d e h;cases h with
 |cons r t=>
  obtain⟨u,rfl,q⟩:=bo.one t;exact⟨_,_,rfl,r,q⟩
theorem bo.zero{K:aq}:∀{vs:@w},bo K H vs []->vs=[]
 |_,.nil=>rfl
theorem bo.ints{K:aq}:∀{vs:@w} {ns:@u},bo K H vs (@aQ)->vs=ns.map V.int:=by
 intro vs ns;induction ns generalizing vs with
 |nil=>intro h;exact h.zero
 | cons n ns ih=>
  intro h;cases h with
  |cons r t=>
   cases r;rw[ih t];rfl
theorem bo.LG{K:aq}:∀(ns:@u),bo K H (ns.map V.int) (@aQ)
 |[]=>.nil
 |n::ns=>.cons (.int n) (bo.LG ns)
theorem mP.ind{K:aq}{H:Hp}{motive:∀(kv:@aE) (kvs:@af),mP K H kv kvs->Prop}(nil:motive [] [] .nil)
  (cons:∀{k:Key} {v:V} {d:D} {r:@aE} {t:@af} (re:bW K H v d) (rs:mP K H r t),motive r t rs->motive ((k,v)::r) ((eL k,d)::t) (.cons re rs)):∀{kv:@aE} {kvs:@af} (h:mP K H kv kvs),motive kv kvs h:=λh=>
 mP.rec (motive_1:=λ_ _ _=>True) (motive_2:=λ_ _ _=>True) (motive_3:=motive) (motive_4:=λ_ _ _=>True) trivial (λ_=>trivial) (λ_=>trivial) (λ_=>trivial) (λ_ _ _=>trivial) (λ_ _ _=>trivial) (λ_ _ _=>trivial) (λ_ _ _=>trivial) (λ_=>trivial) (λ_=>trivial) (λ_ _ _=>trivial) (λ_ _ _ _ _ _=>trivial) trivial @aj nil (λa b _ ih=>cons a b ih) trivial @aj h
theorem my.ind{K:aq}{H:Hp}{motive:∀(kv:@a4) (kvs:@af),my K H kv kvs->Prop}(nil:motive [] [] .nil)
  (cons:∀{k:List Key} {v:V} {d:D} {r:@a4} {t:@af} (re:bW K H v d) (rs:my K H r t),motive r t rs->motive ((k,v)::r) ((.tup (k.map eL),d)::t) (.cons re rs)):∀{kv:@a4} {kvs:@af} (h:my K H kv kvs),motive kv kvs h:=λh=>
 my.rec (motive_1:=λ_ _ _=>True) (motive_2:=λ_ _ _=>True) (motive_3:=λ_ _ _=>True) (motive_4:=motive) trivial (λ_=>trivial) (λ_=>trivial) (λ_=>trivial) (λ_ _ _=>trivial) (λ_ _ _=>trivial) (λ_ _ _=>trivial) (λ_ _ _=>trivial) (λ_=>trivial) (λ_=>trivial) (λ_ _ _=>trivial) (λ_ _ _ _ _ _=>trivial) trivial @aj trivial @aj nil (λa b _ ih=>cons a b ih) h
theorem mP.length{K:aq}:∀{v:@aE} {d:@af},mP K H v d->v.length=d.length:=λh=>
 mP.ind (motive:=λv d _=>v.length=d.length) rfl (λ_ _ ih=>congrArg (· + 1) ih) h
theorem my.length{K:aq}:∀{v:@a4} {d:@af},my K H v d->v.length=d.length:=λh=>
 my.ind (motive:=λv d _=>v.length=d.length) rfl (λ_ _ ih=>congrArg (· + 1) ih) h
def KW(K:aq)(H:Hp)(a:Addr):GO->Prop
 |.lst ds=>∃vs,H a=some (.lst vs)/\@aU
 |.eG kvs=>(∃kv,H a=some (.dK kv)/\mP K H kv kvs)\/∃kv,H a=some (.dT kv)/\my K H kv kvs
 |.ins c fs=>∃C dx fv,H a=some (.ins C dx fv)/\mz K bK c=some (some @R)/\fv.map @k=fs.map @k/\bo K H (fv.map (·.2)) (fs.map (·.2))
 |.se kvs=>∃xs ks vs,H a=some (.ext (KO a xs))/\V1 kvs ks vs xs/\bo K H ks (kvs.map λp=>lb p.1)/\bo K H vs (kvs.map λp=>p.2)
def kc(K:aq)(H:Hp)(G:Gp):Prop:=∀a g,G a=some g->KW K H a g
theorem KW.dk{K:aq}{H:Hp}{a:Addr}{kv:@aE}{kvs:@af}(h:H a=some (.dK kv))(r:mP K H kv kvs):KW K H a (.eG kvs):=.inl ⟨kv,h,r⟩
theorem KW.dt{K:aq}{H:Hp}{a:Addr}{kv:@a4}{kvs:@af}(h:H a=some (.dT kv))(r:my K H kv kvs):KW K H a (.eG kvs):=.inr ⟨kv,h,r⟩
theorem KW.mono{K:aq}(k:Kp H H')(e:H' a=H a)(h:KW K H a g):KW K H' a g:=by
 cases g with
 |lst ds=>obtain⟨vs,q,r⟩:=h;exact⟨vs,e.trans q,r.mono k⟩
 |ins c fs=>obtain⟨C,dx,fv,q,h1,h2,r⟩:=h;exact⟨C,dx,fv,e.trans q,h1,h2,r.mono k⟩
 |se kvs=>obtain⟨xs,ks,vs,q,h1,r1,r2⟩:=h;exact⟨xs,ks,vs,e.trans q,h1,r1.mono k,r2.mono k⟩
 |eG kvs=>
  rcases h with ⟨kv,q,r⟩ |⟨kv,q,r⟩
  .exact .inl ⟨kv,e.trans q,r.mono k⟩
  .exact .inr ⟨kv,e.trans q,r.mono k⟩
theorem KW.tracked{K:aq}(h:KW K H a g):H a≠none:=by
 cases g with
 |lst ds=>obtain⟨vs,q,r⟩:=h;rw[q];simp
 |ins c fs=>obtain⟨C,dx,fv,q,_⟩:=h;rw[q];simp
 |se kvs=>obtain⟨xs,ks,vs,q,_⟩:=h;rw[q];simp
 |eG kvs=>
  rcases h with ⟨kv,q,r⟩ |⟨kv,q,r⟩
  .rw[q];simp
  .rw[q];simp
theorem kc.free{K:aq}(h:kc K H G)(e:H a=none):G a=none:=by
 cases q:G a with
 |none=>rfl
 |some g=>exact absurd e (h a g q).tracked
theorem kc.Wg{K:aq}(h:kc K H G)(e:H a=some (.tup xs)):G a=none:=by
 cases q:G a with
 |none=>rfl
 | some g=>
  have z:=h a g q;cases g with
  |lst ds=>obtain⟨vs,q,r⟩:=z;rw[e] at q;cases q
  |ins c fs=>obtain⟨C,dx,fv,q,_⟩:=z;rw[e] at q;cases q
  |se kvs=>obtain⟨xs,ks,vs,q,_⟩:=z;rw[e] at q;cases q
  |eG kvs=>
   rcases z with ⟨kv,q,r⟩ |⟨kv,q,r⟩
   .rw[e] at q;cases q
   .rw[e] at q;cases q
theorem kc.Wh{K:aq}(h:kc K H G)(e:H a=some (.i9 o u)):G a=none:=by
 cases q:G a with
 |none=>rfl
 | some g=>
  have z:=h a g q;cases g with
  |lst ds=>obtain⟨vs,q,r⟩:=z;rw[e] at q;cases q
  |ins c fs=>obtain⟨C,dx,fv,q,_⟩:=z;rw[e] at q;cases q
  |se kvs=>obtain⟨xs,ks,vs,q,_⟩:=z;rw[e] at q;cases q
  |eG kvs=>
   rcases z with ⟨kv,q,r⟩ |⟨kv,q,r⟩
   .rw[e] at q;cases q
   .rw[e] at q;cases q
structure Mv(K:aq)(H:Hp)(G:Gp)(H':Hp)(G':Gp):Prop where
 keep:∀a o,H a=@g->G a=none->H' a=@g/\G' a=none
 jj:∀a,G a≠none->H' a≠none
 ab:kc K H' G'
theorem Mv.refl{K:aq}(h:kc K H G):Mv K H G H G:=⟨λ_ _ e n=>⟨e,n⟩,λa n=>by
 cases q:G a with
 |none=>exact absurd q n
 |some g=>exact(h a g q).tracked,h⟩
theorem Mv.trans{K:aq}(a:Mv K H G H1 G1)(b:Mv K H1 G1 H2 G2):Mv K H G H2 G2 :=
 ⟨λc o e n=>let ⟨e1,n1⟩:=a.keep c o e n;b.keep c o e1 n1,λc n=>by
  have h1:=a.jj c n;cases q:G1 c with
  |some g=>exact b.jj c (by rw[q];simp)
  |none=>
   cases q1:H1 c with
   |none=>exact absurd q1 h1
   |some o=>rw[(b.keep c o q1 q).1];simp,b.ab⟩
theorem Mv.kp{K:aq}(m:Mv K H G H' G')(h:kc K H G):Kp H H' :=
 ⟨λa xs e=>(m.keep a _ e (h.Wg e)).1,λa o u e=>(m.keep a _ e (h.Wh e)).1⟩
theorem Kp.new{H:Hp}{p:Addr}{o:HO}(hp:H p=none):Kp H (upd H p o):=⟨λa xs e=>by rw[bH (eD e hp)];exact e,λa ob u e=>by rw[bH (eD e hp)];exact e⟩
theorem Kp.putL{H:Hp}{p:Addr}{xs:@w}{o:HO}(hp:H p=some (.lst xs)):Kp H (upd H p o) :=
 ⟨λa ys e=>by rw[bH (by rintro rfl;rw[hp] at e;cases e)];exact e,λa ob u e=>by rw[bH (by rintro rfl;rw[hp] at e;cases e)];exact e⟩
theorem Mv.new{K:aq}(h:kc K H G)(hp:H p=none)(ho:KW K (upd H p o) p g):Mv K H G (upd H p o) (di G p g) where
 keep:=λa ob e n=>by
  have ne:=eD e hp;exact⟨by rw[bH ne];exact e,by rw[bO ne];exact n⟩
 jj:=λa n=>by
  have ne:a≠p:=by rintro rfl;exact n (h.free hp)
  rw[bH ne];exact(Mv.refl h).jj a n
 ab:=λa g' e=>by
  by_cases ha:a=p
  .subst ha;rw[av] at e;cases e;exact ho
  .rw[bO ha] at e;exact(h a g' e).mono (@ah) (bH ha)
theorem Mv.Ft{K:aq}(h:kc K H G)(hp:H p=none):Mv K H G (upd H p o) G where
 keep:=λa ob e n=>⟨by rw[bH (eD e hp)];exact e,n⟩
 jj:=λa n=>by
  have ne:a≠p:=by rintro rfl;exact n (h.free hp)
  rw[bH ne];exact(Mv.refl h).jj a n
 ab:=λa g' e=>by
  have ne:a≠p:=by rintro rfl;rw[h.free hp] at e;cases e
  exact(h a g' e).mono (@ah) (bH ne)
theorem Mv.put{K:aq}(h:kc K H G)(hg:G p=some g0)(k:Kp H (upd H p o))(ho:KW K (upd H p o) p g):Mv K H G (upd H p o) (di G p g) where
 keep:=λa ob e n=>by
  have ne:a≠p:=by rintro rfl;rw[hg] at n;cases n
  exact⟨by rw[bH ne];exact e,by rw[bO ne];exact n⟩
 jj:=λa n=>by
  by_cases ha:a=p
  .subst ha;rw[bM];simp
  .rw[bH ha];exact(Mv.refl h).jj a n
 ab:=λa g' e=>by
  by_cases ha:a=p
  .subst ha;rw[av] at e;cases e;exact ho
  .rw[bO ha] at e;exact(h a g' e).mono k (bH ha)
theorem kc.lst{K:aq}(h:kc K H G)(e:G a=some (.lst ds)):∃vs,H a=some (.lst vs)/\@aU:=h a _ e
theorem Mv.El{K:aq}(h:kc K H G)(hp:H p=none)(r:@aU):Mv K H G (upd H p (.lst vs)) (di G p (.lst ds)) :=
 .new h hp ⟨vs,bM,r.mono (@ah)⟩
theorem Mv.putL{K:aq}(h:kc K H G)(hg:G p=some (.lst ds0))(hp:H p=some (.lst vs0))(r:@aU):Mv K H G (upd H p (.lst vs)) (di G p (.lst ds)) :=
 .put h hg (.putL hp) ⟨vs,bM,r.mono (.putL hp)⟩
structure MK(K:aq)(H:Hp)(σ:L2.St)(τ:iE):Prop where
 len:σ.length=τ.length
 at':∀(i:Nat) (d:D),τ[i]?=some (@O)->∃v,σ[i]?=some (@Y)/\bW K H v d
theorem MK.mono{K:aq}(k:Kp H H')(a:MK K H σ τ):MK K H' σ τ :=
 ⟨a.len,λi d e=>let ⟨v,h1,h2⟩:=a.at' i d e;⟨v,h1,h2.mono k⟩⟩
theorem MK.set{K:aq}(a:MK K H σ τ)(i)(r:bW K H v d):MK K H (σ.set i (@Y)) (τ.set i (@O)):=by
 refine⟨by rw[bX,bX];exact a.len,λj e h=>?_⟩;by_cases hj:i=j
 .subst hj;by_cases hi:i<τ.length
  .rw[dn hi] at h;cases h;exact⟨v,by rw[dn (by rw[a.len];exact hi)],r⟩
  .rw[List.set_eq_of_length_le @c] at h;rw[fY @c] at h;cases h
 .rw[dq hj] at h;obtain⟨w,h1,h2⟩:=a.at' j e h;exact⟨w,by rw[dq hj];exact h1,h2⟩
structure I2(X:Cx)(pins:@t)(σ:L2.St)(H:Hp)(τ:iE)(G:Gp)(s:ay):Prop where
 inv:@m
 st:MK X.K H σ τ
 ab:@aA
theorem I2.mv(I:@bi)(I':Inv X pins σ H' s')(m:Mv X.K H G H' G'):I2 X pins σ H' τ G' s' :=
 ⟨I',I.st.mono (m.kp I.ab),m.ab⟩
def B1(B:Heap)(l:@aG)(e:Addr)(cls a0:Value)(h:Heap):Prop :=
 B.StaysIn h/\B.get? e=none/\h.FunFrames B l/\((∃fl,h.TracedAtW B e cls a0 fl)\/∃oe vs,h.get? e=some oe/\oe.cls=cls/\oe.data=.fields vs/\vs[0]?=some a0/\vs[1]?=some .none)
def O2(P:bC)(w:World):MI:=λouter H s E e s'=>∃(a C t:Addr) (B:Heap) (H':Hp),e=@S/\s'.os=s.os/\Ab s'.gens/\Un (ow outer) [] H H' s.heap s'.heap/\oD P w H' s'.heap /\
 (∀b o,s'.heap.get? b=@g->b∉ow outer->(@a2≠none\/H' b≠none)->B.get? b=@g)/\B1 B outer a @R (.ref t) s'.heap/\H' a=none/\s.heap.get? a=none/\∃oe,s'.heap.get? a=some oe/\E @R oe.dict H'
def V4(K:aq)(H:Hp)(l:List (Str×D))(o:Option Addr):Prop:=l=[]\/∃(dx:Addr) (od:Obj) (fs:List (Str×V)),o=some dx/\H dx=some (.i9 od (.xd fs))/\fs.map @k=@ar/\bo K H (fs.map (·.2)) (l.map (·.2))
theorem V4.mono{K:aq}(k:Kp H H')(h:V4 K H l o):V4 K H' l o :=
 h.imp id λ⟨dx,od,fs,e,e1,e2,r⟩=>⟨dx,od,fs,e,k.2 _ _ _ e1,e2,r.mono k⟩
def exK(K:aq)(mg:@aK)(E:k7):XK:=λcls o H=>∃(ex:Ex) (C:Addr) (G:Gp),cls=.ref C/\mg ex.cls=some @R/\kc K H G/\E ex G/\V4 K H ex.yi o
structure Lk(X:Cx)(E:k7):Prop where
 pass:∀(pins:@t) (σ:L2.St) (H:Hp) (s s':ay) (e:Value),@m->O2 X.prog X.w X.stack H s (exK X.K X.mg E) e s'->X.xe e s'
theorem Lk.none(h:∀ex G,¬ E ex G):Lk X E where
 pass:=λ_ _ _ _ _ _ _ hc=>by
  obtain⟨_,_,_,_,_,_,_,_,_,_,_,_,_,_,_,_,hz⟩:=hc;obtain⟨ex,_,_,_,_,_,z,_⟩:=hz;exact absurd z (h ex _)
inductive uN (X:Cx) (pins:@t) (σ:L2.St) (H:Hp) (G:Gp) (Q:DK) (u:Value) (s':ay):Prop
 |mk (v:V) (H':Hp) (d:D) (G':Gp) (i:Inv X pins σ H' s') (m:Mv X.K H G H' G') (r:RelV v u) (rd:bW X.K H' v d) (q:Q d G'):uN X pins σ H G Q u s'
inductive ZG (X:Cx) (pins:@t) (σ:L2.St) (H:Hp) (G:Gp) (Q:Bool->@l) (b:Bool) (s':ay):Prop
 |mk (H':Hp) (G':Gp) (i:Inv X pins σ H' s') (m:Mv X.K H G H' G') (q:Q b G'):ZG X pins σ H G Q b s'
inductive AP2 (X:Cx) (pins:@t) (σ:L2.St) (H:Hp) (G:Gp) (Q:@e->@l) (us:@s) (s':ay):Prop
 |mk (vs:@w) (H':Hp) (ds:@e) (G':Gp) (i:Inv X pins σ H' s') (m:Mv X.K H G H' G') (r:Vals vs us) (rd:bo X.K H' vs ds) (q:Q ds G'):AP2 X pins σ H G Q us s'
inductive SPn (X:Cx) (pins:@t) (H:Hp) (G:Gp) (P:iE->@l) (s':ay):Prop
 |mk (kh:L2.St) (H':Hp) (oI:iE) (G':Gp) (i:I2 X pins kh H' oI G' s') (m:Mv X.K H G H' G') (q:P oI G'):SPn X pins H G P s'
inductive SPr (X:Cx) (pins:@t) (H:Hp) (G:Gp) (P:D->@l) (u:Value) (s':ay):Prop
 |mk (v:V) (kh:L2.St) (H':Hp) (d:D) (G':Gp) (i:Inv X pins kh H' s') (m:Mv X.K H G H' G') (r:RelV v u) (rd:bW X.K H' v d) (q:P d G'):SPr X pins H G P u s'
def Tp(X:Cx)(pins:@t)(H:Hp)(G:Gp)(D:mx)(f:Flow)(s':ay):Prop :=
 match f with
 |.next=>SPn X pins H G D.nx s'
 |.brk=>SPn X pins H G D.bk s'
 |.cont=>SPn X pins H G D.ct s'
 |.ret u=>SPr X pins H G D.rt u s'
def dE(X:Cx)(e:Expr)(t:fB):Prop :=
 ∀(E:k7) (pins:@t) (s:ay) (σ:L2.St) (H:Hp) (τ:iE) (G:Gp) (Q:DK),Lk X E->@bi->t E τ G Q->wpAny @o X.A (eval e X.env) @aZ X.xe s
def Fy(X:Cx)(e:Expr)(t:yy):Prop :=
 ∀(E:k7) (pins:@t) (s:ay) (σ:L2.St) (H:Hp) (τ:iE) (G:Gp) (Q:Bool->@l),Lk X E->@bi->t E τ G Q->wpAny @o X.A (isTrue e X.env (eval e X.env)) (ZG X pins σ H G Q) X.xe s
def SE(X:Cx)(e:Expr)(t:yy):Prop :=
 ∀(wh:Sem Value) (E:k7) (pins:@t) (s:ay) (σ:L2.St) (H:Hp) (τ:iE) (G:Gp) (Q:Bool->@l),Lk X E->@bi->t E τ G Q->wpAny @o X.A (isTrue e X.env wh) (ZG X pins σ H G Q) X.xe s
def xx(X:Cx)(es:@az)(t:Cd):Prop :=
 ∀(pos:Pos) (E:k7) (pins:@t) (s:ay) (σ:L2.St) (H:Hp) (τ:iE) (G:Gp) (Q:@e->@l),Lk X E->@bi->t E τ G Q->wpAny @o X.A (vn (ik pos @aX)) (AP2 X pins σ H G Q) X.xe s
def uX(X:Cx)(st:Stmt)(t:gj):Prop :=
 ∀(E:k7) (pins:@t) (s:ay) (σ:L2.St) (H:Hp) (τ:iE) (G:Gp) (D:mx),Lk X E->@bi->t E D τ G->wpAny @o X.A (exec st X.env) (Tp X pins H G D) X.xe s
def mO(X:Cx)(st:List Stmt)(t:gj):Prop :=
 ∀(E:k7) (pins:@t) (s:ay) (σ:L2.St) (H:Hp) (τ:iE) (G:Gp) (D:mx),Lk X E->@bi->t E D τ G->wpAny @o X.A (execs st X.env) (Tp X pins H G D) X.xe s
theorem Tp.trans{D:mx}(m:Mv X.K H G H1 G1)(h:Tp X pins H1 G1 D f s'):Tp X pins H G D f s':=by
 cases f with
 |next=>obtain⟨kh,H',oI,G',I,m',q⟩:=h;exact⟨kh,H',oI,G',I,m.trans m',q⟩
 |brk=>obtain⟨kh,H',oI,G',I,m',q⟩:=h;exact⟨kh,H',oI,G',I,m.trans m',q⟩
 |cont=>obtain⟨kh,H',oI,G',I,m',q⟩:=h;exact⟨kh,H',oI,G',I,m.trans m',q⟩
 |ret u=>obtain⟨v,kh,H',d,G',I,m',r,rd,q⟩:=h;exact⟨v,kh,H',d,G',I,m.trans m',r,rd,q⟩
section
variable {X:Cx} {a b c:Expr} {ta tb tc:fB} {pos:Pos}
theorem iK(ha:dE X a ta)(hE:Lk X E)(I:@bi)(h:ta E τ G R)
  (k:∀v H1 d G1 u s1,I2 X pins σ H1 τ G1 s1->Mv X.K H G H1 G1->RelV v u->bW X.K H1 v d->R d G1->Q u s1):wpAny @o X.A (eval a X.env) Q X.xe s :=
 gQ (ha E pins s σ H τ G R hE I h) (by rintro u s1 ⟨v,H1,d,G1,I1,m,r,rd,q⟩;exact k v H1 d G1 u s1 (I.mv I1 m) m r rd q)
theorem uN.trans(m:Mv X.K H G H1 G1)(h:uN X pins σ H1 G1 Q u s'):uN X pins σ H G Q u s':=by
 obtain⟨v,H',d,G',I,m',r,rd,q⟩:=h;exact⟨v,H',d,G',I,m.trans m',r,rd,q⟩
theorem ZG.trans(m:Mv X.K H G H1 G1)(h:ZG X pins σ H1 G1 Q u s'):ZG X pins σ H G Q u s':=by
 obtain⟨H',G',I,m',r⟩:=h;exact⟨H',G',I,m.trans m',r⟩
theorem UC   (hN:X.N[i]?=some x) (hv:Vis X.env.scope x) (hd:@a1) (L6:autoParam ((x == ("__classdict__":Str))=false) Ad._auto_1):dE X (.Name x pos) (ak i):=by
 ext d;unfold ak at h;split at h
 .rename_i d e;obtain⟨v,h1,h2⟩:=I.st.at' i d e;exact gQ (XH hN hv hd L6 pins s σ H (λv' H'=>v'=v/\H'=H) I.inv ⟨v,h1,rfl,rfl⟩) λu s1 Ct=>by
   obtain⟨v',H',I1,r,e1,e2⟩:=Ct;subst e1;subst e2;exact⟨_,_,d,G,I1,.refl I.ab,r,h2,h⟩
 .exact h.elim
theorem uu(h:PE X e (tC v))(r:∀K H,bW K H v d):dE X e (dC d):=by
 intro E pins s σ H τ G Q hE I hq;exact gQ (h pins s σ H (λv' H'=>v'=v/\H'=H) I.inv @aS) λu s1 Zv=>by
  obtain⟨v',H',I1,rr,e1,e2⟩:=Zv;subst e1;subst e2;exact⟨_,_,d,G,I1,.refl I.ab,rr,r _ _,hq⟩
theorem UL{i j}:dE X (.Constant (@A) j pos) (dC (@A)):=uu XJ λ_ _=>@A
def ku(X:Cx)(f:Value->Value->Sem Value)(r:zP):Prop :=
 ∀(pins:@t) (s:ay) (σ:L2.St) (H:Hp) (G:Gp) (x y:V) (dx dy:D) (v u:Value) (Q:DK),@m->@aA->RelV x v->RelV y u->bW X.K H x dx->bW X.K H y dy->r dx dy G Q ->
  wpAny @o X.A (f v u) @aZ X.xe s
def Ze(X:Cx)(f:Value->Sem Value)(r:D->Gp->DK->Prop):Prop :=
 ∀(pins:@t) (s:ay) (σ:L2.St) (H:Hp) (G:Gp) (x:V) (dx:D) (v:Value) (Q:DK),@m->@aA->RelV x v->bW X.K H x dx->r dx G Q ->
  wpAny @o X.A (f v) @aZ X.xe s
def ky(X:Cx)(f:Value)(r:@e->Gp->DK->Prop):Prop :=
 ∀(pins:@t) (s:ay) (σ:L2.St) (H:Hp) (G:Gp) (xs:@w) (ds:@e) (us:@s) (Q:DK),@m->@aA->Vals xs us->bo X.K H xs ds->r ds G Q ->
  wpAny @o X.A (call f us) @aZ X.xe s
abbrev Ce(K:aq)(H:Hp)(G:Gp)(Q:DK):VK:=λv H'=>∃d G',Mv K H G H' G'/\bW K H' v d/\Q d G'
theorem uN.of(h:EP X pins σ (Ce X.K H G Q) u s'):uN X pins σ H G Q u s':=by
 obtain⟨v,H',I,r,d,G',m,rd,q⟩:=h;exact⟨v,H',d,G',I,m,r,rd,q⟩
theorem Mu(ha:dE X a ta)(hb:dE X b tb){R:D->D->@l}(hE:Lk X E)(I:@bi)
  (h:ta E τ G λx G1=>tb E τ G1 λy G2=>R x y G2)  {f:Value->Value->Sem Value}
  (hf:∀v u s2 x y dx dy H2 G2,I2 X pins σ H2 τ G2 s2->Mv X.K H G H2 G2->RelV x v->RelV y u->bW X.K H2 x dx->bW X.K H2 y dy->R dx dy G2->wpAny @o X.A (f v u) Q X.xe s2):
  wpAny @o X.A (eval a X.env) (λv fN=>wpAny @o X.A (eval b X.env) (λu uU=>wpAny @o X.A (f v u) Q X.xe uU) X.xe fN) X.xe s:=by
 refine iK ha hE I h λx H1 dx G1 v s1 I1 m1 r1 ja q1=>?_;refine iK hb hE I1 q1 λy H2 dy G2 u s2 oy m2 r2 zi q2=>?_;exact hf v u s2 x y dx dy H2 G2 oy (m1.trans m2) r1 r2 (ja.mono (m2.kp I1.ab)) zi q2
theorem XQ(ho:ku X (jS op) r)(ha:dE X a ta)(hb:dE X b tb):dE X (.BinOp a op b pos) (aN r ta tb):=by
 ext d;exact wpAny_BinOp (Mu ha hb hE I h λv u s2 x y dx dy H2 G2 oy m rx ry dX dY q=>gQ (ho pins s2 σ H2 G2 x y dx dy v u Q oy.inv oy.ab rx ry dX dY q) λ_ _ z=>z.trans m)
theorem XM(ho:Ze X (unaryOp op) r)(ha:dE X a ta):dE X (.UnaryOp op a pos) (ES r ta):=by
 ext d;exact UnaryOp_ (iK ha hE I h λx H1 dx G1 v s1 I1 m1 r1 ja q1=>gQ (ho pins s1 σ H1 G1 x dx v Q I1.inv I1.ab r1 ja q1) λ_ _ z=>z.trans m1)
theorem LA(ho:ku X (cS op) r)(ha:dE X a ta)(hb:dE X b tb)(hm:behindInMarks op b=false):dE X (.Compare a [op] [b] pos) (aN r ta tb):=by
 ext d;exact wpAny_Compare1 (Mu ha hb hE I h λv u s2 x y dx dy H2 G2 oy m rx ry dX dY q=>gQ (ho pins s2 σ H2 G2 x y dx dy v u Q oy.inv oy.ab rx ry dX dY q) λ_ _ z=>z.trans m) hm
end
theorem ZT{K:aq}(ab:kc K H G)(r:bW K H x d)(e:IK d G=some k):(∃p,x=.ref p/\Rd H p (.dT [])/\k=false)\/(∃p kv,x=.ref p/\Rd H p (.dK kv)/\k=!kv.isEmpty)\/Zf K x H k:=by
 have R7:∀kvs:@af,(if(kvs.all λp=>eT p.1)=true then some (!kvs.isEmpty) else none)=some k->∀p,((∃kv,Rd H p (.dK kv)/\mP K H kv kvs)\/∃kv,Rd H p (.dT kv)/\my K H kv kvs) ->
   (∃p',V.ref p=.ref p'/\Rd H p' (.dT [])/\k=false)\/(∃p' kv,V.ref p=.ref p'/\Rd H p' (.dK kv)/\k=!kv.isEmpty)\/Zf K (.ref p) H k:=by
  intro kvs e p z;by_cases ha:(kvs.all λp=>eT p.1)=true
  .rw[if_pos ha] at e;cases e;rcases z with ⟨kv,hv,rs⟩ |⟨kv,hv,rs⟩
   .right;left;refine⟨p,kv,rfl,hv,?_⟩;cases rs<;>rfl
   .left;cases rs with
    |nil=>exact⟨p,rfl,hv,rfl⟩
    |cons _ _=>simp[eT] at ha
  .rw[if_neg ha] at e;cases e
 cases r with
 |eX=>right;right;cases e;rfl
 |bl b=>right;right;cases e;rfl
 |int i=>right;right;cases e;rfl
 |str y=>
  right;right;unfold IK at e;dsimp only at e;by_cases h:y.length<=SZ
  .rw[if_pos h] at e;cases e;exact⟨by rw[cX];exact h,rfl⟩
  .rw[if_neg h] at e;cases e
 |tup h rs=>
  right;right;cases e;refine .inr (.inl ⟨_,.of h,?_⟩);cases rs<;>rfl
 |dF h rs=>
  right;right;cases e;refine .inl ⟨_,h.sq,?_⟩;cases rs<;>rfl
 |pM h rs=>exact R7 _ e _ (.inl ⟨_,.inr ⟨_,h⟩,rs⟩)
 |pL h rs=>exact R7 _ e _ (.inr ⟨_,.inr ⟨_,h⟩,rs⟩)
 |exc h=>simp[IK] at e
 |BA h _=>simp[IK] at e
 |kF _ _ _ _=>simp[IK] at e
 | ref a=>
  unfold IK at e;dsimp only at e;cases q:G a with
  |none=>rw[q] at e;cases e
  | some g=>
   rw[q] at e;have z:=ab a g q;cases g with
   |lst ds=>
    right;right;obtain⟨vs,hv,rs⟩:=z;cases e;refine .inl ⟨vs,.of hv,?_⟩;cases rs<;>rfl
   |ins _ _=>cases e
   |se _=>cases e
   |eG kvs=>
    refine R7 kvs e a ?_;rcases z with ⟨kv,hv,rs⟩ |⟨kv,hv,rs⟩
    .exact .inl ⟨kv,.inl hv,rs⟩
    .exact .inr ⟨kv,.inl hv,rs⟩
section
variable {X:Cx} {a b c:Expr} {ta tb tc:fB} {pos:Pos}
def abM(X:Cx):Prop:=∀(pins:@t) (s:ay) (σ:L2.St) (H:Hp) (G:Gp) (x:V) (d:D) (v:Value) (k:Bool) (Q:Bool->@X),@m->@aA->RelV x v->bW X.K H x d->IK d G=some k ->
  (∀s',Inv X pins σ H s'->Q k s')->wpAny @o X.A (truthy v) Q X.xe s
theorem Pq:abM X:=by
 intro pins s σ H G x d v k Q I ab rx rd e q;rcases ZT ab rd e with ⟨p,rfl,hv,hk⟩ |⟨p,kv,rfl,hv,hk⟩ |h
 .obtain⟨z,hS,xs,rel,o,es,ep,ho,hx,Cb,hl,nd⟩:=hv.ok I.bP;have hxs:xs=[]:=by cases rel;rfl
  subst hxs;have he:es=#[]:=by simpa using hl
  subst he;cases rx;have dd:s.heap.DictOf (@bb) p []:=⟨o,#[],ep,ho,hx,Cb,(λ_ h=>by simp at h),.nil,bR⟩;refine IV hS dd @i ?_;subst hk;exact q _ (@ao)
 .cases rx;subst hk;exact VI I hv q
 .exact gQ (Xa pins s σ H x v (λk' H'=>k'=k/\H'=H) I rx ⟨k,h,rfl,rfl⟩) λk' s' Ct=>by
   obtain⟨H',I',e1,e2⟩:=Ct;subst e1;subst e2;exact q s' I'
theorem Nb(ha:dE X a ta)(he:autoParam (∀whole,isTrue a X.env whole=(do let v ← whole;standAt a.pos;qE [v] (truthy v))) Ai._auto_1):Fy X a (gy ta):=by
 ext d;refine isTrue_plain (iK ha hE I h λx H1 d G1 v s1 I1 m1 r1 ja q1=>?_) (he _)
 try dsimp only at q1
 split at q1
 .rename_i k e;exact Pq pins s1 σ H1 G1 x d v k _ I1.inv I1.ab r1 ja e λs' I'=>⟨H1,G1,I',m1,q1⟩
 .exact q1.elim
theorem Lr(ho:ku X (cS op) r)(ha:dE X a ta)(hb:dE X b tb)(hm:behindInMarks op b=false):Fy X (.Compare a [op] [b] pos) (gy (aN r ta tb)):=by
 ext d;refine wpAny_isTrue_Compare1 (iK ha hE I h λx H1 dx G1 v s1 I1 m1 r1 ja q1=>iK hb hE I1 q1 λy H2 dy G2 u s2 oy m2 r2 zi q2=>
  gQ (ho pins s2 σ H2 G2 x y dx dy v u _ oy.inv oy.ab r1 r2 (ja.mono (m2.kp I1.ab)) zi q2) ?_) hm
 rintro c s3 ⟨z,H3,dz,G3,I3,m3,r3,Z6,q3⟩
 try dsimp only at q3
 split at q3
 .rename_i k e;exact Pq pins s3 σ H3 G3 z dz c k _ I3 m3.ab r3 Z6 e λs' I'=>⟨H3,G3,I',(m1.trans m2).trans m3,q3⟩
 .exact q3.elim
variable {tA tB:yy} {rest:@az}
theorem SE.pt(h:SE X e t):Fy X e t:=λE pins s σ H τ G Q hE I q=>h _ E pins s σ H τ G Q hE I q
theorem MY(ha:Fy X a tA)(hE:Lk X E)(I:@bi)(h:tA E τ G R)
  (k:∀c H1 G1 s1,I2 X pins σ H1 τ G1 s1->Mv X.K H G H1 G1->R c G1->Q c s1):wpAny @o X.A (isTrue a X.env (eval a X.env)) Q X.xe s :=
 gQ (ha E pins s σ H τ G R hE I h) (by rintro c s1 ⟨H1,G1,I1,m,q⟩;exact k c H1 G1 s1 (I.mv I1 m) m q)
theorem PO(ha:Fy X a tA):SE X (.BoolOp .And [a] pos) tA:=by
 intro wh E pins s σ H τ G Q hE I h;refine isTrue_and (gQ (ha E pins s σ H τ G Q hE I h) λc s1 e=>?_);cases c with
 |true=>exact isTrue_and_nil e
 |false=>exact e
theorem Ue(ha:Fy X a tA):SE X (.BoolOp .Or [a] pos) tA:=by
 intro wh E pins s σ H τ G Q hE I h;refine isTrue_or (gQ (ha E pins s σ H τ G Q hE I h) λc s1 e=>?_);cases c with
 |false=>exact isTrue_or_nil e
 |true=>exact e
theorem Ug(ha:Fy X a tA)(hb:SE X (.BoolOp .And (b::rest) pos) tB):SE X (.BoolOp .And (a::b::rest) pos) (EU tA tB):=by
 intro wh E pins s σ H τ G Q hE I h;refine isTrue_and (MY ha hE I h λc H1 G1 s1 I1 m1 q1=>?_);cases c with
 |true=>exact gQ (hb wh E pins s1 σ H1 τ G1 Q hE I1 (by simpa using q1)) λ_ _ z=>z.trans m1
 |false=>exact⟨H1,G1,I1.inv,m1,by simpa using q1⟩
theorem Xx(ha:Fy X a tA)(hb:SE X (.BoolOp .Or (b::rest) pos) tB):SE X (.BoolOp .Or (a::b::rest) pos) (IT tA tB):=by
 intro wh E pins s σ H τ G Q hE I h;refine isTrue_or (MY ha hE I h λc H1 G1 s1 I1 m1 q1=>?_);cases c with
 |false=>exact gQ (hb wh E pins s1 σ H1 τ G1 Q hE I1 (by simpa using q1)) λ_ _ z=>z.trans m1
 |true=>exact⟨H1,G1,I1.inv,m1,by simpa using q1⟩
theorem Ui(ha:Fy X a tA):Fy X (.UnaryOp .Not a pos) (nW tA):=by
 ext d;exact isTrue_not (gQ (ha E pins s σ H τ G (λc H1=>Q (!c) H1) hE I h) (by rintro c s' ⟨H',G',i,m,q⟩;exact⟨H',G',i,m,q⟩))
theorem UG{op}(h:dE X a t):dE X (.BoolOp op [a] pos) t:=λE pins s σ H τ G Q hE I hw=>BoolOp_one (h E pins s σ H τ G Q hE I hw)
theorem UR(ha:dE X a ta)(hb:dE X (.BoolOp .And (b::rest) pos) tb):dE X (.BoolOp .And (a::b::rest) pos) (HP ta tb):=by
 ext d;refine BoolOp_and (iK ha hE I h λx H1 d G1 v s1 I1 m1 r1 ja q1=>?_)
 try dsimp only at q1
 split at q1
 .rename_i e;exact Pq pins s1 σ H1 G1 x d v true _ I1.inv I1.ab r1 ja e λs' I'=>gQ (hb E pins s' σ H1 τ G1 Q hE ⟨I',I1.st,I1.ab⟩ q1) λ_ _ z=>z.trans m1
 .rename_i e;exact Pq pins s1 σ H1 G1 x d v false _ I1.inv I1.ab r1 ja e λs' I'=>⟨x,H1,d,G1,I',m1,r1,ja,q1⟩
 .exact q1.elim
theorem UH(ha:dE X a ta):dE X (.UnaryOp .Not a pos) (Mm ta):=by
 ext d;refine UnaryOp_ (iK ha hE I h λx H1 d G1 v s1 I1 m1 r1 ja q1=>?_)
 try dsimp only at q1
 split at q1
 .rename_i k e;exact not_of (Pq pins s1 σ H1 G1 x d v k _ I1.inv I1.ab r1 ja e λs' I'=>⟨.bl (!k),H1,.bl (!k),G1,I',m1,rfl,.bl _,q1⟩)
 .exact q1.elim
theorem XS(hc:Fy X c tA)(ha:dE X a ta)(hb:dE X b tb):dE X (.IfExp c a b pos) (dIf tA ta tb):=by
 ext d;refine wpAny_IfExp (MY hc hE I h λd H1 G1 s1 I1 m1 q1=>?_);cases d with
 |true=>exact gQ (ha E pins s1 σ H1 τ G1 Q hE I1 (by simpa using q1)) λ_ _ z=>z.trans m1
 |false=>exact gQ (hb E pins s1 σ H1 τ G1 Q hE I1 (by simpa using q1)) λ_ _ z=>z.trans m1
variable {e:Expr} {es:@az} {te:fB} {t:Cd}
theorem zD:xx X [] aM:=λ_ _ _ _ _ H _ G Q _ I h=>iJ ⟨[],H,[],G,I.inv,.refl I.ab,.nil,.nil,h⟩
theorem tm(ha:dE X e te)(hr:xx X es t)(hs:autoParam @bk Ar._auto_1):xx X (e::es) (ao te t):=by
 intro pos E pins s σ H τ G Q hE I h;rw[hs];show wpAny _ _ (vn ((false,eval e X.env)::ik pos @aX)) _ _ s;refine eN (iK ha hE I h λx H1 d G1 u s1 I1 m1 r1 ja q1=>?_);exact gQ (hr pos E pins s1 σ H1 τ G1 _ hE I1 q1) (by rintro us s2 ⟨xs,H2,ds,G2,oy,m2,r2,zi,q2⟩;exact⟨x::xs,H2,d::ds,G2,oy,m1.trans m2,.cons r1 r2,.cons (ja.mono (m2.kp I1.ab)) zi,q2⟩)
theorem Am(ha:xx X es t)(pos)(hE:Lk X E)(I:@bi)(h:t E τ G R)
  (k:∀vs H1 ds G1 us s1,I2 X pins σ H1 τ G1 s1->Mv X.K H G H1 G1->Vals vs us->bo X.K H1 vs ds->R ds G1->Q us s1):wpAny @o X.A (vn (ik pos @aX)) Q X.xe s :=
 gQ (ha pos E pins s σ H τ G R hE I h) (by rintro us s1 ⟨vs,H1,ds,G1,I1,m,r,rd,q⟩;exact k vs H1 ds G1 us s1 (I.mv I1 m) m r rd q)
theorem UD{x1}(h:xx X es t):dE X (.Tuple es x1 pos) (eM t):=by
 intro E pins s σ H τ G Q hE I hq;refine wpAny_Tuple_spliced (Am h pos hE I hq ?_);rintro xs H1 ds G1 us s1 I1 m1 r rd ⟨z,q⟩;refine⟨by rw[<-r.length,rd.length,cX];exact z,?_⟩;have hf:H1 s1.heap.objs.size=none:=I1.inv.bP.fresh @D;refine⟨.ref s1.heap.objs.size,upd H1 s1.heap.objs.size (.tup xs),.tup ds,G1,I1.inv.laid (t':=s1.toks) (λb u e=>aF _ e) @D ?_,m1.trans (.Ft I1.ab hf),rfl,?_,q⟩
 .exact⟨by rw[rd.length,cX];exact z,us,r,⟨_,@au,rfl,_,rfl⟩⟩
 .exact .tup bM (rd.mono (.new hf))
theorem UI(h:xx X es t):dE X (.List es pos) (fA t):=by
 intro E pins s σ H τ G Q hE I hq;refine wpAny_List_spliced (Am h pos hE I hq ?_);rintro xs H1 ds G1 us s1 I1 m1 r rd ⟨z,q⟩;refine⟨by rw[<-r.length,rd.length,cX];exact z,?_⟩;have hf:H1 s1.heap.objs.size=none:=I1.inv.bP.fresh @D;refine⟨.ref s1.heap.objs.size,upd H1 s1.heap.objs.size (.lst xs),.ref _,di G1 s1.heap.objs.size (.lst ds),I1.inv.laid (t':=s1.toks) (λb u e=>aF _ e) @D ?_,m1.trans (.El I1.ab hf rd),rfl,.ref _,q _ (I1.ab.free hf)⟩;exact⟨by rw[rd.length,cX];exact z,us,0,r,@au⟩
def D3(K:aq)(sp:jl):Sp:=λvs H Q _=>∃ds G Q2,@aU/\kc K H G/\sp ds G Q2 (@j)/\∀d G' v H',Q2 d G'->Mv K H G H' G'->bW K H' v d->Q v H'
variable {k:Nat} {f:Addr} {fd:fV} {ps:@y} {sp:jl} {x:Str} {p:Pos} {r:@e->Gp->DK->Prop} {id:String}
theorem Qm(F:rX X.prog X.w X.K X.mg X.base MJ k f fd ps (D3 X.K sp))(hr:j4 k X.A)(hg:Gl X x)(hm:X.mg x=some (.ref f))(hk:qF X.K (.ref f)=true)(hb:Binds X.K fd ps [])
  (ha:xx X (e::es) t) (pO:@a1) (he:autoParam @bk Ar._auto_1) (qA:autoParam ((ik pos @aX).any @k=false) Ar._auto_1):
  dE X (.Call (.Name x p) (e::es) [] pos) (λE τ G Q=>bb (λds G1 Q1 _=>sp ds G1 Q1 @j) t E τ G Q):=by
 ext d;refine d6 (oS I.inv hg hm ?_ pO);refine zg (h₀:=X.base) I.inv.ok.mod.Wt hk (Am ha pos hE I h λvs H1 ds G1 us s1 I1 m1 r rd q=>⟨I1.inv.zG,?_⟩) he qA;refine gQ (PG F hr hb .nil aak I1.inv r (Q:=Ce X.K H1 G1 Q) ?_) λ_ _ z=>(uN.of z).trans m1;rw[cI];exact⟨ds,G1,Q,rd,I1.ab,q,λd G' v H' q' m' M8=>⟨d,G',m',M8,q'⟩⟩
theorem Nv (hc:ky X (.builtin id) r) (hg:Gl X x) (hm:X.mg x=none) (hv:df x=some (.builtin id)) (ha:xx X (e::es) t) (hn:autoParam (x≠"__name__") Ad._auto_1) (pO:@a1)
  (he:autoParam @bk Ar._auto_1) (qA:autoParam ((ik pos @aX).any @k=false) Ar._auto_1):dE X (.Call (.Name x p) (e::es) [] pos) (jJ r t):=by
 ext d;refine d6 (lz I.inv hg hm hv ?_ hn pO);exact ic (Am ha pos hE I h λvs H1 ds G1 us s1 I1 m1 r1 ja q1=>gQ (hc pins s1 σ H1 G1 vs ds us Q I1.inv I1.ab r1 ja q1) λ_ _ z=>z.trans m1) he qA
variable {st:Stmt} {sts:List Stmt} {u v:gj}
theorem PU:mO X [] dj:=λ_ _ _ σ H τ G _ _ I h=>mZ ⟨σ,H,τ,G,I,.refl I.ab,h⟩
theorem Nd(h1:uX X st u)(h2:mO X sts v):mO X (st::sts) (bz u v):=by
 intro E pins s σ H τ G D hE I h;refine ML (gQ (h1 E pins s σ H τ G {D with nx:=v E D} hE I h) λf s1 q=>?_);cases f with
 |next=>
  obtain⟨kh,H',oI,G',I',m,q⟩:=q;exact gQ (h2 E pins s1 kh H' oI G' D hE I' q) λ_ _ z=>z.trans m
 |ret v=>exact q
 |brk=>exact q
 |cont=>exact q
theorem PT(h1:uX X st u):mO X [st] u:=by
 intro E pins s σ H τ G D hE I h;refine ML (gQ (h1 E pins s σ H τ G D hE I h) λf s1 q=>?_);cases f with
 |next=>exact mZ q
 |ret v=>exact q
 |brk=>exact q
 |cont=>exact q
theorem Um(he:dE X e te):uX X (.Return (some e) pos) (cb te):=by
 intro E pins s σ H τ G D hE I h;exact wpAny_Return_some (gQ (he E pins s σ H τ G _ hE I h) (by rintro v s1 ⟨x,H1,d,G1,I1,m,r1,rd,q1⟩;exact⟨x,σ,H1,d,G1,I1,m,r1,rd,q1⟩))
theorem XB(hc:Fy X c tA)(ha:mO X sa u)(hb:mO X sb v):uX X (.If c sa sb pos) (fT tA u v):=by
 intro E pins s σ H τ G D hE I h;refine wpAny_If (MY hc hE I h λd H1 G1 s1 I1 m1 q1=>?_);cases d with
 |true=>exact gQ (ha E pins s1 σ H1 τ G1 D hE I1 (by simpa using q1)) λ_ _ z=>z.trans m1
 |false=>exact gQ (hb E pins s1 σ H1 τ G1 D hE I1 (by simpa using q1)) λ_ _ z=>z.trans m1
def yz(X:Cx)(target:Expr)(t:y8):Prop :=
 ∀(E:k7) (pins:@t) (s:ay) (σ:L2.St) (H:Hp) (τ:iE) (G:Gp) (w:V) (d:D) (u:Value) (Q:iE->@l),Lk X E->@bi->RelV w u->bW X.K H w d->t E d τ G Q ->
  wpAny @o X.A (CM target X.env u) (λ_ s'=>∃kh H' oI G',I2 X pins kh H' oI G' s'/\Mv X.K H G H' G'/\Q oI G') X.xe s
def KN(X:Cx)(ts:@az)(t:Fd):Prop :=
 ∀(E:k7) (pins:@t) (s:ay) (σ:L2.St) (H:Hp) (τ:iE) (G:Gp) (ws:@w) (ds:@e) (us:@s) (Q:iE->@l),Lk X E->@bi->Vals ws us->bo X.K H ws ds->t E ds τ G Q ->
  wpAny @o X.A (assignInOrder ((vV ts X.env).map (·.2)) us) (λ_ s'=>∃kh H' oI G',I2 X pins kh H' oI G' s'/\Mv X.K H G H' G'/\Q oI G') X.xe s
theorem Qd(hN:X.N.Nodup)(hi:X.N[i]?=some x)(hx:Loc X.env.scope x)(hf:autoParam (X.fn x=true\/@bs=@aH) Ao._auto_1):yz X (.Name x pos) (aE i):=by
 intro E pins s σ H τ G w d u Q hE I r rd h;exact wpAny_assign_Name (FY I.inv hN hi hx r (λs' I'=>⟨_,H,_,G,⟨I',I.st.set i rd,I.ab⟩,.refl I.ab,h⟩) hf)
theorem Qb:KN X [] hW:=by
 intro E pins s σ H τ G ws ds us Q hE I r rd h;unfold hW at h;split at h
 .have e:=rd.zero;subst e;cases r;exact assignInOrder_nil ⟨σ,H,τ,G,I,.refl I.ab,h⟩
 .exact h.elim
theorem Nm{t:y8}{u:Fd}(h1:yz X e t)(h2:KN X es u)
  (hs:autoParam ((vV (e::es) X.env).map (·.2)=CM e X.env::(vV es X.env).map (·.2)) Ar._auto_1):KN X (e::es) (cY t u):=by
 intro E pins s σ H τ G ws ds us Q hE I r rd h;unfold cY at h;split at h
 .cases rd with
  | cons ja zi=>
   cases r with
   |cons r1 r2=>
    rw[hs];refine assignInOrder_cons (gQ (h1 E pins s σ H τ G _ _ _ _ hE I r1 ja h) ?_);rintro _ s1 ⟨Zl,H1,qH,G1,I1,m1,q1⟩;exact gQ (h2 E pins s1 Zl H1 qH G1 _ _ _ Q hE I1 r2 (zi.mono (m1.kp I.ab)) q1) (by rintro _ _ ⟨σ2,H2,xU,G2,oy,m2,q2⟩;exact⟨σ2,H2,xU,G2,oy,m1.trans m2,q2⟩)
 .exact h.elim
theorem Uz{t:Fd}(hc:@aI)(h:KN X es t)(hgl:∀E ds τ G Q,t E ds τ G Q->ds.length=n)
  (hn:autoParam ((vV es X.env).length=n) Ar._auto_1) (Hi:autoParam ((vV es X.env).findIdx? @k=none) Ar._auto_1):yz X (.Tuple es k pos) (hV t):=by
 intro E pins s σ H τ G w d u Q hE I r rd hw;unfold hV at hw;split at hw
 .cases rd with
  |tup hq rs=>
   cases r;obtain⟨bT,rv,ht,hz⟩:=I.inv.tuple (.of hq);refine assign_Tuple_tuple (I.inv.ok.hd hc) ht (by rw[hn,bp,<-rv.length,rs.length];exact(hgl _ _ _ _ _ hw).symm) Hi λh' hx=>?_;have I1:Inv X pins σ H @an:=I.inv.kept (t':=s.toks) λb o e=>hx b o (br (aO e)) e;exact h E pins _ σ H τ G _ _ _ Q hE ⟨I1,I.st,I.ab⟩ (by simpa using rv) rs hw
 .exact hw.elim
theorem RR:∀E ds τ G Q,hW E ds τ G Q->ds.length=0:=by
 intro E ds τ G Q h;cases ds with
 |nil=>rfl
 |cons _ _=>exact h.elim
theorem Ob{t:y8}{u:Fd}(h:∀E ds τ G Q,u E ds τ G Q->ds.length=n)(hm:∀E d τ G (Q Q':iE->@l),t E d τ G Q->(∀oI G',Q oI G'->Q' oI G')->t E d τ G Q')(hx:∀E d τ G,¬ t E d τ G @j):
  ∀E ds τ G Q,cY t u E ds τ G Q->ds.length=n+1:=by
 intro E ds τ G Q q;cases ds with
 |nil=>exact q.elim
 |cons d ds=>
  by_cases hl:ds.length=n
  .rw[aj,hl]
  .exact absurd (hm E d τ G _ (@j) q λoI G' z=>hl (h _ _ _ _ _ z)) (hx E d τ G)
theorem Ur(he:dE X e te)(hg:yz X tg g)(hs:autoParam (swapsWithSole [tg] e pos.line X.env=pure false) Ar._auto_1)(hw:autoParam (swappedStores [tg] e X.env=pure none) Ar._auto_1)
  (h1:autoParam ((vV [tg] X.env).map (·.2)=[CM tg X.env]) Ar._auto_1):uX X (.Assign [tg] e pos) (aQ te g):=by
 intro E pins s σ H τ G D hE I h;refine wpAny_Assign_stores (iK he hE I h λx H1 d G1 v s1 I1 m1 r1 ja q1=>?_) hs hw;rw[h1];exact gQ (hg E pins s1 σ H1 τ G1 x d v _ hE I1 r1 ja q1) (by rintro _ s2 ⟨σ2,H2,xU,G2,oy,m2,q2⟩;exact⟨σ2,H2,xU,G2,oy,m1.trans m2,q2⟩)
theorem Uk(hN:X.N.Nodup)(hi:X.N[i]?=some x)(hx:Loc X.env.scope x)(he:dE X e te)(hs:autoParam (ng e (some (.Name x pos')) pos.line X.env=pure false) Ar._auto_1)(hf:autoParam (X.fn x=true\/@bs=@aH) Ao._auto_1):
  uX X (.Assign [.Name x pos'] e pos) (aQ te (aE i)):=by
 intro E pins s σ H τ G D hE I h;refine wpAny_Assign_Name (iK he hE I h λy H1 d G1 v s1 I1 m1 r1 ja q1=>?_) hs;exact FY I1.inv hN hi hx r1 (λs2 oy=>⟨_,H1,_,G1,⟨oy,I1.st.set i ja,I1.ab⟩,m1,q1⟩) hf
theorem PW(he:dE X e te)(hs:autoParam (ng e none pos.line X.env=pure false) Ar._auto_1):uX X (.Expr e pos) (iO te):=by
 intro E pins s σ H τ G D hE I h;exact wpAny_Expr_any (iK he hE I h λy H1 d G1 v s1 I1 m1 r1 ja q1=>⟨σ,H1,τ,G1,I1,m1,q1⟩) I.inv.quiet hs
end
def WW(K:aq)(J:It)(H':Hp)(ds:@e)(ok:@l):Prop :=
 ∀i H1 G1,Kp H' H1->kc K H1 G1->ok G1->(∀d,ds[i]?=@O->J.go i H1/\∀x H2,J.yld i H1 x H2->bW K H2 x d/\Mv K H1 G1 H2 G1)/\(ds.length<=i->J.stop i H1)
inductive KL (X:Cx) (pins:@t) (σ:L2.St) (tg:Expr) (H:Hp) (G:Gp) (R:@e->(@l)->@l) (Wv:Value) (s2:ay):Prop
 |mk (it:Addr) (fp:@ay) (tn:Nat->Heap->Prop) (J:It) (H':Hp) (G':Gp) (ds:@e) (ok:@l) (e:Wv=.ref it) (i:Inv X pins σ H' s2) (m:Mv X.K H G H' G') (T:Turn X.prog X.w X.K tg J fp it tn) (t0:tn 0 s2.heap) (f:∀b∈fp,lE X pins H' b)
  (wk:WW X.K J H' ds ok) (q:R ds ok G'):KL X pins σ tg H G R Wv s2
def xJ(X:Cx)(tg iter:Expr)(wi:Fx):Prop :=
 ∀(E:k7) (pins:@t) (s:ay) (σ:L2.St) (H:Hp) (τ:iE) (G:Gp) (R:@e->(@l)->@l),Lk X E->@bi->wi E τ G R ->
  wpAny @o X.A (eval iter X.env) (λv s1=>wpAny @o X.A (KZ v) (KL X pins σ tg H G R) X.xe s1) X.xe s
section
variable {X:Cx} {tg:Expr} {a b:Expr} {ta tb:fB} {pos p:Pos}
theorem LQ{pins:@t}{σ:L2.St}{H H1:Hp}{G G1:Gp}{s1:ay}{l:Addr}{vs:@w}{ds:@e}{ok:@l}{R:@e->(@l)->@l}(I1:Inv X pins σ H1 s1)(m:Mv X.K H G H1 G1)(hq:qB X.K H1 l vs)
  (hk:∀H2 G2,Kp H1 H2->kc X.K H2 G2->ok G2->∃ws,qB X.K H2 l ws/\bo X.K H2 ws ds) (q:R ds ok G1):wpAny @o X.A (KZ (.ref l)) (KL X pins σ tg H G R) X.xe s1:=by
 obtain⟨bT,rv,pl,hz⟩:=I1.list hq;refine wpAny_pyIter_list pl.isList ?_;refine⟨s1.heap.objs.size,[s1.heap.objs.size],_,_,H1,G1,ds,ok,rfl,I1.kept (t':=s1.toks) λb o e=>aF _ e,m,MU l _,⟨_,@au,rfl,rfl⟩,λb hb=>?_,λi H2 G2 k ab o=>?_,q⟩
 .have e:b=s1.heap.objs.size:=@bf
  subst e;exact I1.Bp @D (I1.bP.fresh @D)
 .obtain⟨ws,hw,rd⟩:=hk H2 G2 k ab o;refine⟨λd hd=>?_,λhl=>⟨ws,hw,by rw[rd.length];exact hl⟩⟩;obtain⟨v,hv,r⟩:=rd.get hd;refine⟨⟨ws,v,hw,hv⟩,?_⟩;rintro x H3 ⟨e,y⟩;subst e;have:=y ws hw;rw[hv] at this;cases this;exact⟨r,@V⟩
theorem W9{pins:@t}{σ:L2.St}{H H1:Hp}{G G1:Gp}{s1:ay}{l:Addr}{vs:@w}{ds:@e}{R:@e->(@l)->@l}(I1:Inv X pins σ H1 s1)(m:Mv X.K H G H1 G1)(hq:zO X.K H1 l vs)(rd:bo X.K H1 vs ds)
  (q:R ds @aw G1):wpAny @o X.A (KZ (.ref l)) (KL X pins σ tg H G R) X.xe s1:=by
 obtain⟨bT,rv,pl,hz⟩:=I1.tuple hq;refine FE (show s1.heap.IsTuple l bT.toArray from pl) ?_;refine⟨s1.heap.objs.size,[s1.heap.objs.size],_,_,H1,G1,ds,_,rfl,I1.kept (t':=s1.toks) λb o e=>aF _ e,m,Jp l _,⟨_,@au,rfl,rfl⟩,λb hb=>?_,λi H2 G2 k ab _=>?_,q⟩
 .have e:b=s1.heap.objs.size:=@bf
  subst e;exact I1.Bp @D (I1.bP.fresh @D)
 .have hw:=k.sqT hq;have zi:=rd.mono k;refine⟨λd hd=>?_,λhl=>⟨vs,hw,by rw[rd.length];exact hl⟩⟩;obtain⟨v,hv,r⟩:=zi.get hd;refine⟨⟨vs,v,hw,hv⟩,?_⟩;rintro x H3 ⟨e,y⟩;subst e;have:=y vs hw;rw[hv] at this;cases this;exact⟨r,@V⟩
theorem Uy(ha:dE X a ta):xJ X tg a (ko ta):=by
 intro E pins s σ H τ G R hE I h;refine iK ha hE I h λx H1 d G1 v s1 I1 m1 r1 ja q1=>?_;cases ja with
 |tup hq rs=>cases r1;exact W9 I1.inv m1 (.of hq) rs q1
 |dF hq rs=>cases r1;exact LQ I1.inv m1 hq.sq (λH2 G2 k ab _=>⟨_,(k.Xi hq).sq,rs.mono k⟩) q1
 |ref p=>
  cases r1;dsimp only at q1;split at q1
  .rename_i ds e;obtain⟨vs,hv,rs⟩:=I1.ab.lst e;refine LQ I1.inv m1 (.of hv) (λH2 G2 k ab o=>?_) q1;obtain⟨ws,hw,rH⟩:=ab.lst o;exact⟨ws,.of hw,rH⟩
  .exact q1.elim
 |pM _ _=>ext c
 |pL _ _=>ext c
 |eX=>ext c
 |bl _=>ext c
 |int _=>ext c
 |str _=>ext c
 |exc _=>ext c
 |BA _ _=>ext c
 |kF _ _ _ _=>ext c
theorem Xq{pins:@t}{σ:L2.St}{H H1:Hp}{G G1:Gp}{s:ay}{R:@e->(@l)->@l}{lo hi:Int}{t u v:Tok}{tk:Nat}(I:Inv X pins σ H1 s)(m:Mv X.K H G H1 G1)(h1:-(2 ^ 62)<=lo)(h2:lo<2 ^ 62)(h3:-(2 ^ 62)<=hi)(h4:hi<2 ^ 62)
  (q:R (gC lo (hi-lo).toNat) @aw G1):wpAny @o X.A (KZ (@as)) (KL X pins σ tg H G R) X.xe {s with heap:=s.heap.push {cls:=.type "range",data:=.fields #[.int lo t,.int hi u,.int 1 v]},toks:=tk}:=by
 refine gQ (PM (tg:=tg) I h1 h2 h3 h4 (R:=λJ H'=>J=Itr lo (hi-lo).toNat/\H'=H1) @aS) ?_;rintro Wv s2 ⟨it,fp,tn,J,H',e,oy,T,st,fo,eJ,eH⟩;subst eJ;subst eH;refine⟨it,fp,tn,_,H',G1,_,_,e,oy,m,T,st,fo,λi H2 G2 k ab _=>⟨λd hd=>?_,λhl=>?_⟩,q⟩
 .unfold gC at hd;rw[bx] at hd;cases Yz:(eV (hi-lo).toNat)[i]? with
  |none=>rw[Yz] at hd;cases hd
  |some j=>
   rw[Yz] at hd;obtain⟨yf,ej⟩:=List.getElem?_eq_some_iff.mp Yz;rw[ua] at yf;rw[rR] at ej;subst ej;cases hd;refine⟨yf,?_⟩;rintro x H3 ⟨e1,e2⟩;subst e1;subst e2;exact⟨@P,@V⟩
 .unfold gC at hl;rw[ar,ua] at hl;exact hl
theorem JI (hg:Gl X "range") (hm:X.mg "range"=none) (ha:dE X a ta) (hs:autoParam (aZ [a] X.env=[(false,eval a X.env)]) Ar._auto_1):xJ X tg (.Call (.Name "range" p) [a] [] pos) (qm ta):=by
 intro E pins s σ H τ G R hE I h;have hA:xx X [a] (ao ta aM):=tm ha zD hs;refine Call_ (lz I.inv hg hm boot_range (dJ (Am hA pos hE I (R:=λds G1=>match ds with |[.int n]=>-(2 ^ 62)<=n/\n<2 ^ 62/\R (gC 0 n.toNat) @aw G1 |_=>False) ?_ λvs H1 ds G1 us s1 I1 m1 r1 ja q1=>?_) hs rfl))
 .show ta E τ G _;have e:(λ(x:D) (G1:Gp)=>match [x] with |[.int n]=>-(2 ^ 62)<=n/\n<2 ^ 62/\R (gC 0 n.toNat) @aw G1 |_=>False)=λx G1=>match x with |.int n=>-(2 ^ 62)<=n/\n<2 ^ 62/\R (gC 0 n.toNat) @aw G1 |_=>False:=by
   funext x G1;cases x<;>rfl
  exact e ▸ h
 .split at q1
  .rename_i n;obtain⟨w,rfl,wg⟩:=ja.one;cases wg;obtain⟨u,rfl,ru⟩:=r1.one;obtain⟨t,rfl⟩:=ru;obtain⟨q1,q2,q⟩:=q1;exact call_range_1 (Xq I1.inv m1 @c @c q1 q2 (by simpa using q))
  .exact q1.elim
theorem Uq(hp:PassesOwn @o X.A X.env X.xe)(hc:@aI)(hi:xJ X tg iter wi)(hg:yz X tg g)(hb:mO X body t)
  (hs:autoParam (∀x,eQ iter X.env x=pure x) Ai._auto_1):uX X (.For tg iter body [] pos) (cq wi g t):=by
 intro E pins s σ H τ G D hE I h;refine wpAny_For (gQ (hi E pins s σ H τ G _ hE I h) λv s1 h1=>gQ h1 λWv s2 h2=>?_) hs;obtain⟨it,fp,tn,J,H2,G2,ds,ok,e,oy,m2,T,IM,f2,wk,q⟩:=h2;subst e;have Xg:∀{H':Hp},(∀b∈fp,H' b=none)->∀b∈fp,lE X pins H' b:=λhn b hb=>⟨hn b hb,(f2 b hb).2⟩;refine codeAny_forLoop_any (λn s'=>∃i kh H' oI G',I2 X pins kh H' oI G' s'/\Mv X.K H G H' G'/\Kp H2 H'/\tn i s'.heap/\(∀b∈fp,H' b=none)/\n=ds.length-i/\i<=ds.length/\qt g t ok (ds.drop i) E D oI G') ?_ ds.length
  ⟨0,σ,H2,τ,G2,I.mv oy m2,m2,.refl _,IM,λb hb=>(f2 b hb).1,rfl,cm _,q⟩
 rintro n s3 ⟨i,TH,H3,WZ,G3,I3,m3,k3,st3,fr3,rfl,hle,w3⟩;by_cases yf:i<ds.length
 .rw[ip yf] at w3;obtain⟨ok3,w3⟩:=w3;obtain⟨go,yl⟩:=(wk i H3 G3 k3 I3.ab ok3).1 ds[i] (by simp[yf]);refine kG hp (gQ (T.item X rfl rfl rfl hc i pins s3 TH H3 X.xe I3.inv (Xg fr3) st3 go) ?_);rintro r s4 ⟨u,hr,h4⟩;subst hr;refine kG hp (gQ h4 ?_);rintro _ s5 ⟨x,H5,I5,r5,y5,st5,fr5⟩;obtain⟨rd5,m5⟩:=yl x H5 y5;have I5':=I5.pinned (Xg fr5) (T.obj _ _ st5);have J5:I2 X (pins++tj fp s5.heap) TH H5 WZ G3 s5:=⟨I5',I3.st.mono (m5.kp I3.ab),m5.ab⟩;refine kG hp (gQ (hg E _ s5 TH H5 WZ G3 x ds[i] u _ hE J5 r5 rd5 w3) ?_);rintro _ s6 ⟨σ6,H6,τ6,G6,I6,m6,q6⟩;refine kG hp (gQ (hb E _ s6 σ6 H6 τ6 G6 _ hE I6 q6) λf s7 q7=>?_);have again:∀{OW:L2.St} {H7:Hp} {OV:iE} {G7:Gp},I2 X (pins++tj fp s5.heap) OW H7 OV G7 s7->Mv X.K H6 G6 H7 G7->qt g t ok (ds.drop (i+1)) E D OV G7 ->
    ∃m,m<ds.length-i/\∃i kh H' oI G',I2 X pins kh H' oI G' s7/\Mv X.K H G H' G'/\Kp H2 H'/\tn i s7.heap/\(∀b∈fp,H' b=none)/\m=ds.length-i/\i<=ds.length/\qt g t ok (ds.drop i) E D oI G':=λ{OW H7 OV G7} I7 m7 n7=>by
   have mm:=m5.trans (m6.trans m7);refine⟨ds.length-(i+1),@f,i+1,OW,H7,OV,G7,⟨I7.inv.v3,I7.st,I7.ab⟩,m3.trans mm,k3.trans (mm.kp I3.ab),T.keep _ _ _ st5 λb hb o e=>(I7.inv.pin (b,o) (cK _ (cK _ (qR hb e)))).1,λb hb=>?_,rfl,yf,n7⟩;obtain⟨o,e,d⟩:=T.obj _ _ st5 b hb;exact(I7.inv.pin (b,o) (cK _ (cK _ (qR hb e)))).2.1
  cases f with
  |next=>obtain⟨OW,H7,OV,G7,I7,m7,n7⟩:=q7;exact again I7 m7 n7
  |cont=>obtain⟨OW,H7,OV,G7,I7,m7,n7⟩:=q7;exact again I7 m7 n7
  |brk=>obtain⟨OW,H7,OV,G7,I7,m7,q7⟩:=q7;exact⟨OW,H7,OV,G7,⟨I7.inv.v3,I7.st,I7.ab⟩,m3.trans (m5.trans (m6.trans m7)),q7⟩
  |ret v=>obtain⟨x7,OW,H7,d7,G7,I7,m7,r7,rd7,q7⟩:=q7;exact⟨x7,OW,H7,d7,G7,I7.v3,m3.trans (m5.trans (m6.trans m7)),r7,rd7,q7⟩
 .have hn:ds.length<=i:=@f
  rw[mE hn] at w3;obtain⟨ok3,qn⟩:=w3;have stop:=(wk i H3 G3 k3 I3.ab ok3).2 hn;refine kG hp (gQ (T.done X rfl rfl rfl hc i pins s3 TH H3 X.xe I3.inv (Xg fr3) st3 stop) ?_);rintro r s4 ⟨hr,I4⟩;subst hr;exact mZ ⟨TH,H3,WZ,G3,⟨I4,I3.st,I3.ab⟩,m3,qn⟩
theorem Nf(hp:PassesOwn @o X.A X.env X.xe)(hc:Fy X c tc)(hb:mO X body t):uX X (.While c body [] pos) (BH tc t):=by
 intro E pins s σ H τ G D hE I h;obtain⟨n0,w0⟩:=h;refine wpAny_While (codeAny_whileLoop (λn s'=>∃kh H' oI G',I2 X pins kh H' oI G' s'/\Mv X.K H G H' G'/\vZ tc t n E D oI G') ?_ n0 ⟨σ,H,τ,G,I,.refl I.ab,w0⟩);rintro n s1 ⟨Zl,H1,qH,G1,I1,m1,w1⟩;cases n with
 |zero=>exact w1.elim
 | succ n=>
  refine kG hp (MY hc hE I1 w1 λb H2 G2 s2 oy m2 q2=>?_);cases b with
  |true=>
   rw[if_pos rfl] at q2 ⊢;refine kG hp (gQ (hb E pins s2 Zl H2 qH G2 _ hE oy q2) λf s3 q3=>?_);cases f with
   |next=>obtain⟨TH,H3,WZ,G3,I3,m3,n3⟩:=q3;exact⟨n,vS _,TH,H3,WZ,G3,I3,m1.trans (m2.trans m3),n3⟩
   |cont=>obtain⟨TH,H3,WZ,G3,I3,m3,n3⟩:=q3;exact⟨n,vS _,TH,H3,WZ,G3,I3,m1.trans (m2.trans m3),n3⟩
   |brk=>exact q3.trans (m1.trans m2)
   |ret v=>exact q3.trans (m1.trans m2)
  |false=>
   rw[if_neg eS] at q2 ⊢;exact mZ ⟨Zl,H2,qH,G2,oy,m1.trans m2,q2⟩
end
theorem D5(n d)(o):HT.j9 n d o=j9 n d o:=by cases o<;>rfl
theorem bo.cut{K:aq}(r:@aU)(lo hi):bo K H (HQ vs lo hi) (K2.cut ds lo hi):=by
 unfold HQ K2.cut;rw[D5,D5,r.length];exact(r.drop _).take _
theorem bo.rD{K:aq}(r:@aU)(h:K2.rD ds i=@O):∃v,L2.rD vs i=@Y/\bW K H v d:=by
 unfold K2.rD at h;cases e:K2.J4 ds.length i with
 |none=>rw[e] at h;cases h
 |some j=>
  rw[e] at h;obtain⟨v,h1,h2⟩:=r.get (show ds[j]?=@O from h);refine⟨v,?_,h2⟩;show(L2.J4 vs.length i).bind _=_;have e':L2.J4 vs.length i=some j:=by rw[r.length];exact e
  rw[e'];exact h1
section
variable {X:Cx} {a b c e:Expr} {ta tb tc te:fB} {pos p2:Pos}
theorem oh(I:@m)(ab:@aA)(rx:RelV x v)(rd:bW X.K H x d)(hi:oQ d G=some zs):
  ∃l vs bT,v=.ref l/\Vals vs bT/\bo X.K H vs zs/\s.heap.IsList l bT.toArray/\vs.length<=bc:=by
 cases rd with
 |dF hq rs=>
  cases hi;cases rx;obtain⟨bT,rv,pl,hz⟩:=I.list hq.sq;exact⟨_,_,bT,rfl,rv,rs,pl.isList,hz⟩
 | ref l=>
  unfold oQ at hi;dsimp only at hi;cases hg:G l with
  |none=>rw[hg] at hi;cases hi
  | some gg=>
   rw[hg] at hi;cases gg with
   |lst ds=>
    cases hi;cases rx;obtain⟨vs,hv,rs⟩:=ab.lst hg;obtain⟨bT,rv,pl,hz⟩:=I.list (.of hv);exact⟨_,_,bT,rfl,rv,rs,pl.isList,hz⟩
   |ins _ _=>cases hi
   |se _=>cases hi
   |eG _=>cases hi
 |_=>cases hi
theorem yb(I:@m)(F0:Fr X.base X.env.locals s.heap m)(F:Fr X.base X.env.locals h' m)(N:News X.base X.env.locals h' (uM X.base s.heap X.env.locals)):
  (∀b o,@bh->@T->@ag=@g)/\∀m',s.heap.Ns X.env.locals m'->h'.Ns X.env.locals m':=by
 refine⟨λb o hb e=>?_,λm' hm=>?_⟩
 .cases q:X.base.get? b with
  |some u=>
   have:=I.bk b u q;rw[e] at this;cases this;exact F.keep b _ q
  |none=>exact(N (b,o) (yR hb q e)).1
 .have e1:=hm.eq_nsMap;have e2:=F0.ns.eq_nsMap;rw[e1,<-e2];exact F.ns
theorem mV{a:Addr}:∀{o:HO},fQ P w H h a o->∃ob,@ak=some ob:=by
 intro o x;cases o with
 |lst _=>obtain⟨_,_,_,_,e⟩:=x;exact⟨_,e⟩
 |tup _=>obtain⟨_,_,_,ob,e,_⟩:=x;exact⟨ob,e⟩
 |dK _=>obtain⟨_,_,_,_,ob,_,_,e,_⟩:=x;exact⟨ob,e⟩
 |dT _=>obtain⟨_,_,_,_,ob,_,_,e,_⟩:=x;exact⟨ob,e⟩
 |set _ _=>obtain⟨ob,_,_,_,e,_⟩:=x;exact⟨ob,e⟩
 |ins _ _ _=>obtain⟨_,_,_,e,_⟩:=x;exact⟨_,e⟩
 |own _=>exact x
 |xd _=>obtain⟨_,⟨ob,_,_,e,_⟩,_⟩:=x;exact⟨ob,e⟩
 |met _ _=>exact⟨_,x⟩
 |Z4 _ _=>obtain⟨_,_,_,e⟩:=x;exact⟨_,e⟩
 |i9 _ _=>exact⟨_,x.1⟩
 |TR _=>obtain⟨_,e,_⟩:=x;exact⟨_,e⟩
 |ext _=>exact x.2.1
theorem Md{a:Addr}(ok:oD P w H h)(e:@ak=none):H a=none:=by
 cases q:H a with
 |none=>rfl
 |some o=>
  obtain⟨ob,z⟩:=mV (ok a o q);rw[e] at z;cases z
theorem Inv.Wq(I:@m){a:Addr}(k:∀b o,@bh->@T->@ag=@g)(ns:∀m',s.heap.Ns X.env.locals m'->h'.Ns X.env.locals m')
  (hp:s.heap.get? a=none) (new:fQ X.prog X.w (upd H a o) h' a o):Inv X pins σ (upd H a o) {s with heap:=h',toks:=t'}:=by
 have hn:H a=none:=Md I.bP hp;have ne:∀b u,H b=@K->b≠a:=λb u e=>eD e hn;have nL:∀b u,H b=@K->@bh:=λb u e=>eD e I.free;have ht:∀b u,@a2=@K->b≠a:=λb u e z=>by subst z;rw[hp] at e;cases e
 have thL:∃o',h'.get? X.env.locals=some o':=by
  obtain⟨m,hm,_⟩:=I.loc;obtain⟨o',_,_,ho,_⟩:=ns m hm;exact⟨o',ho⟩
 refine I.step (g':=s.gens) (d':=s.drawn) (ch:=[]) (λb hb=>absurd hb @i) (λb o hL _ _ e _=>k b o hL e) (λb o hL _ _ e _=>⟨o.slots,k b o hL e⟩) (λb o _ e n=>by rw[bH (ht b o e)];exact n)
  (λb o _ e=>?_) (λb xs e=>by rw[bH (ne _ _ e)];exact e) (λb o u e=>by rw[bH (ne _ _ e)];exact e) (λb ps e=>by rw[bH (ne _ _ e)];exact e) (λb ps e=>by rw[bH (ne _ _ e)];exact e) ns (λb u e=>?_) I.bare
 .by_cases hb:b=X.env.locals
  .rw[hb];exact thL
  .exact⟨o,k b o hb e⟩
 .by_cases hb:b=a
  .subst hb;rw[bM] at e;cases e;exact new
  .rw[bH hb] at e;refine(I.bP b u e).jj (λc v hc r=>k c v ?_ r) (λc z=>by rw[bH (ne _ _ z)];exact z) (λc xs z=>by rw[bH (ne _ _ z)];exact z);rcases hc with rfl |hc
   .exact nL _ _ e
   .exact nL _ _ hc
theorem U7:ku X (jS .Add) fx:=by
 ext g;have lists:zr dx dy G Q->wpAny @o X.A (jS .Add v u) @aZ X.xe s:=by
  intro q;unfold zr at q;split at q
  .rename_i xs ys e1 e2;obtain⟨hz,q⟩:=q;obtain⟨l,vs,bT,rfl,rv,rs,hl,_⟩:=oh I ab rx dX e1;obtain⟨b,ws,vE,rfl,PC,Fq,hb,_⟩:=oh I ab ry dY e2;obtain⟨m,F0⟩:=I.fr;have hsz:bT.length+vE.length<=bc:=by rw[<-rv.length,<-PC.length,rs.length,Fq.length,cX];exact hz
   refine PyProof.Rows.add_lists F0 GD hl hb (λh' F N=>?_) hsz;obtain⟨kk,ns⟩:=yb I F0 F λp hp=>N p (aI _ hp);have hp:H s.heap.objs.size=none:=I.bP.fresh @D;refine⟨@as,upd H s.heap.objs.size (.lst (vs++ws)),.ref _,_,Inv.Wq (t':=s.toks) I kk ns (TG @D) ?_,.El ab hp (rs.append Fq),rfl,.ref _,q _ (ab.free hp)⟩;exact⟨by rw[aB,rv.length,PC.length];exact hsz,bT++vE,0,rv.append PC,(N _ cw).1⟩
  ext e
 cases dX with
 |int i=>
  cases dY with
  |int j=>exact gQ (X3 pins s σ H _ _ v u (Ce X.K H G Q) I rx ry ⟨i,j,rfl,rfl,_,_,@V,@P,q⟩) λ_ _ z=>.of z
  |_=>exact lists q
 | str i=>
  cases dY with
  |str j=>
   obtain⟨hz,q⟩:=q;exact gQ (JO pins s σ H _ _ v u (Ce X.K H G Q) I rx ry ⟨i,j,rfl,rfl,by rw[cX];exact hz,_,_,@V,.str _,q⟩) λ_ _ z=>.of z
  |_=>exact lists q
 | tup h1 r1=>
  cases dY with
  |tup h2 r2=>
   obtain⟨hn,hz,q⟩:=q;refine gQ (UX pins s σ H _ _ v u (Ce X.K H G Q) I rx ry ⟨_,_,_,_,rfl,rfl,.of h1,.of h2,?_,?_,λe=>?_,λe p hp=>?_⟩) λ_ _ z=>.of z
   .rintro rfl;cases r1;exact hn rfl
   .rw[r1.length,r2.length,cX];exact hz
   .subst e;cases r2;rw[cI] at q;exact⟨_,_,@V,.tup h1 r1,q⟩
   .exact⟨_,_,.Ft ab hp,.tup bM ((r1.append r2).mono (@ah)),q⟩
  |_=>exact lists q
 |ref l=>exact lists (by rw[lO] at q;exact q)
 |dF _ _=>exact lists (by rw[nI] at q;exact q)
 |_=>exact lists (by cases dY<;>exact q)
theorem UY:ku X (jS .Sub) D8:=by
 ext g;cases dX with
 |int i=>
  cases dY with
  |int j=>exact gQ (XZ pins s σ H _ _ v u (Ce X.K H G Q) I rx ry ⟨i,j,rfl,rfl,_,_,@V,@P,q⟩) λ_ _ z=>.of z
  |_=>exact bI q
 |_=>exact bI q
theorem U2:ku X (jS .Mult) wB:=by
 ext g;cases dX with
 |int i=>
  cases dY with
  |int j=>exact gQ (X0 pins s σ H _ _ v u (Ce X.K H G Q) I rx ry ⟨i,j,rfl,rfl,q.1,_,_,@V,@P,q.2⟩) λ_ _ z=>.of z
  |_=>exact bI q
 |_=>exact bI q
theorem U3:ku X (jS .Mod) pN:=by
 ext g;cases dX with
 |int i=>
  cases dY with
  |int j=>exact gQ (X1 pins s σ H _ _ v u (Ce X.K H G Q) I rx ry ⟨i,j,rfl,rfl,q.1,_,_,@V,@P,q.2⟩) λ_ _ z=>.of z
  |_=>exact bI q
 |_=>exact bI q
theorem Qt:ku X (jS .FloorDiv) ve:=by
 ext g;cases dX with
 |int i=>
  cases dY with
  |int j=>exact gQ (UW pins s σ H _ _ v u (Ce X.K H G Q) I rx ry ⟨i,j,rfl,rfl,⟨q.1,q.2.1⟩,_,_,@V,@P,q.2.2⟩) λ_ _ z=>.of z
  |_=>exact bI q
 |_=>exact bI q
theorem X4(hu:X.A.units<cLine):ku X (cS .Lt) Z9:=by
 ext g;cases dX with
 |int i=>
  cases dY with
  |int j=>exact gQ (aal pins s σ H _ _ v u (Ce X.K H G Q) I rx ry ⟨i,j,rfl,rfl,_,_,@V,.bl _,q⟩) λ_ _ z=>.of z
  |_=>exact bI q
 | tup h1 r1=>
  cases dY with
  | tup h2 r2=>
   obtain⟨xs,ys,e1,e2,q⟩:=q;subst e1 e2;have z1:=r1.ints;have z2:=r2.ints;subst z1 z2;have el:∀xs ys:@u,HT.lexLt xs ys=K2.lexLt xs ys:=by
    intro xs;induction xs with
    |nil=>intro ys;cases ys<;>rfl
    |cons x xs ih=>intro ys;cases ys with
     |nil=>rfl
     |cons y ys=>unfold HT.lexLt K2.lexLt;rw[ih]
   exact gQ (X2 hu pins s σ H _ _ v u (Ce X.K H G Q) I rx ry ⟨_,_,xs,ys,rfl,rfl,.of h1,.of h2,_,_,@V,.bl _,by rw[el];exact q⟩) λ_ _ z=>.of z
  |_=>exact bI q
 |_=>exact bI q
theorem X6:ku X (cS .Gt) rGt:=by
 ext g;cases dX with
 |int i=>
  cases dY with
  |int j=>exact gQ (aam pins s σ H _ _ v u (Ce X.K H G Q) I rx ry ⟨i,j,rfl,rfl,_,_,@V,.bl _,q⟩) λ_ _ z=>.of z
  |_=>exact bI q
 |_=>exact bI q
mutual
noncomputable def pd:D->PyData
 |.eX=>.none
 |.bl b=>.bool b
 |.int i=>@A
 |.str x=>.str x
 |.tup ds=>.tuple (oC ds)
 |.dF ds=>.list (oC ds)
 |.fZ _=>.none
 |.exc _=>.none
 |.BA _ _ _=>.none
 |.kF _=>.none
 |.ref _=>.none
noncomputable def oC:@e->List PyData
 |[]=>[]
 |d::r=>pd d::oC r
end
mutual
theorem yn:∀(s t:D),nr s=true->nr t=true->B4 (pd s) (pd t)=jC s t
 |.eX,t,_,ht=>by cases t<;>first |rfl |(ext l)
 |.bl a,t,_,ht=>by cases t<;>first |rfl |(ext l)
 |.int a,t,_,ht=>by cases t<;>first |rfl |(ext l)
 |.str a,t,_,ht=>by cases t<;>first |rfl |(ext l)
 |.tup a,t,hs,ht=>by
  cases t with
  |tup b=>exact EI a b hs ht
  |ref _=>ext l
  |exc _=>ext l
  |BA _ _ _=>ext l
  |kF _=>ext l
  |fZ _=>ext l
  |_=>rfl
 |.dF a,t,hs,ht=>by
  cases t with
  |dF b=>exact EI a b hs ht
  |ref _=>ext l
  |exc _=>ext l
  |BA _ _ _=>ext l
  |kF _=>ext l
  |fZ _=>ext l
  |_=>rfl
 |.ref _,_,hs,_=>ba (show false=true from hs)
 |.exc _,_,hs,_=>ba (show false=true from hs)
 |.BA _ _ _,_,hs,_=>ba (show false=true from hs)
 |.kF _,_,hs,_=>ba (show false=true from hs)
 |.fZ _,_,hs,_=>ba (show false=true from hs)
theorem EI:∀(s t:@e),tu s=true->tu t=true->PyData.eqvAll (oC s) (oC t)=lT s t
 |[],[],_,_=>rfl
 |[],_::_,_,_=>rfl
 |_::_,[],_,_=>rfl
 |a::r,b::t,hs,ht=>by
  have Ez:nr a=true/\tu r=true:=(pI).mp hs;have ht':nr b=true/\tu t=true:=(pI).mp ht;show(B4 (pd a) (pd b)&&PyData.eqvAll (oC r) (oC t))=(jC a b&&lT r t);rw[yn a b Ez.1 ht'.1,EI r t Ez.2 ht'.2]
end
mutual
theorem lA:∀(s:D),nr s=true->(pd s).canLay0=true
 |.eX,_=>rfl
 |.bl a,_=>rfl
 |.int a,_=>rfl
 |.str a,h=>h
 |.tup a,h=>zF a h
 |.dF a,h=>zF a h
 |.exc _,_=>rfl
 |.BA _ _ _,_=>rfl
 |.kF _,_=>rfl
 |.ref _,_=>rfl
 |.fZ _,_=>rfl
theorem zF:∀(s:@e),tu s=true->PyData.canLayAll0 (oC s)=true
 |[],_=>rfl
 |a::r,h=>by
  have h':nr a=true/\tu r=true:=(pI).mp h;show((pd a).canLay0&&PyData.canLayAll0 (oC r))=true;rw[lA a h'.1,zF r h'.2];rfl
end
theorem ER(h:Sn G n d t):(pd t).depth<=n:=by
 induction h with
 |eX=>exact cm _
 |bl b=>exact cm _
 |int i=>exact cm _
 |str x h=>exact cm _
 |Js=>exact vR (cm _)
 |sM _ _ Rn Rm=>
  exact vR (Nat.max_le.mpr ⟨Rn,vY Rm⟩)
 |Gb=>exact vR (cm _)
 |vd _ _ Rn Rm=>
  exact vR (Nat.max_le.mpr ⟨Rn,vY Rm⟩)
 |ref _ _ ih=>exact ih
theorem lq(I:@m)(ab:@aA)(h:Sn G n d t):
  (∀v u,bW X.K H v d->RelV v u->∃as,Reads s.heap u (pd t) as) /\
  (∀ds ss,(d=.dF ds/\t=.dF ss)\/(d=.tup ds/\t=.tup ss)->∀vs us,bo X.K H vs ds->Vals vs us->∃as,iI s.heap us (oC ss) as):=by
 have V6:∀{ds ss:@e},(∀vs us,bo X.K H vs ds->Vals vs us->∃as,iI s.heap us (oC ss) as)->∀v u,bW X.K H v (.tup ds)->RelV v u->∃as,Reads s.heap u (pd (.tup ss)) as:=by
  intro ds ss k v u r ru;cases r with
  |tup hq rs=>
   cases ru;obtain⟨bT,rv,⟨o,ho,hc,n,hd⟩,hz⟩:=I.tuple (.of hq);obtain⟨as,ra⟩:=k _ bT rs rv;exact⟨as,.tuple ho hc hd (by simpa using ra)⟩
 have V9:∀{ds ss:@e},(∀vs us,bo X.K H vs ds->Vals vs us->∃as,iI s.heap us (oC ss) as)->∀v u,bW X.K H v (.dF ds)->RelV v u->∃as,Reads s.heap u (pd (.dF ss)) as:=by
  intro ds ss k v u r ru;cases r with
  |dF hq rs=>
   cases ru;obtain⟨bT,rv,pl,hz⟩:=I.list hq.sq;obtain⟨o,ho,hc,n,hd⟩:=pl.isList;obtain⟨as,ra⟩:=k _ bT rs rv;exact⟨_,.list ho hc hd (by simpa using ra)⟩
 induction h with
 |eX=>exact⟨λv u r ru=>by cases r;cases ru;exact⟨_,.none⟩,λds ss e=>by rcases e with ⟨e,_⟩ |⟨e,_⟩<;>cases e⟩
 |bl b=>exact⟨λv u r ru=>by cases r;cases ru;exact⟨_,.bool b⟩,λds ss e=>by rcases e with ⟨e,_⟩ |⟨e,_⟩<;>cases e⟩
 |int i=>exact⟨λv u r ru=>by cases r;obtain⟨t,rfl⟩:=ru;exact⟨_,.int i t⟩,λds ss e=>by rcases e with ⟨e,_⟩ |⟨e,_⟩<;>cases e⟩
 |str x hx=>exact⟨λv u r ru=>by cases r;obtain⟨t,rfl⟩:=ru;exact⟨_,.str x t⟩,λds ss e=>by rcases e with ⟨e,_⟩ |⟨e,_⟩<;>cases e⟩
 | Js=>
  have k:∀vs us,bo X.K H vs []->Vals vs us->∃as,iI s.heap us (oC []) as:=λvs us r ru=>by
   have e:=r.zero;subst e;cases ru;exact⟨_,.nil⟩
  refine⟨V6 k,λds ss e=>?_⟩;rcases e with ⟨e,_⟩ |⟨e,e2⟩
  .cases e
  .cases e;cases e2;exact k
 | sM h1 h2 Rn Rm=>
  have k2:=Rm.2 _ _ (.inr @aS);have k:∀vs us,bo X.K H vs (_::_)->Vals vs us->∃as,iI s.heap us (oC (_::_)) as:=λvs us r ru=>by
   cases r with
   | cons r1 r2=>
    cases ru with
    |cons u1 u2=>
     obtain⟨as,ra⟩:=Rn.1 _ _ r1 u1;obtain⟨bs,rb⟩:=k2 _ _ r2 u2;exact⟨_,.cons ra rb⟩
  refine⟨V6 k,λds ss e=>?_⟩;rcases e with ⟨e,_⟩ |⟨e,e2⟩
  .cases e
  .cases e;cases e2;exact k
 | Gb=>
  have k:∀vs us,bo X.K H vs []->Vals vs us->∃as,iI s.heap us (oC []) as:=λvs us r ru=>by
   have e:=r.zero;subst e;cases ru;exact⟨_,.nil⟩
  refine⟨V9 k,λds ss e=>?_⟩;rcases e with ⟨e,e2⟩ |⟨e,_⟩
  .cases e;cases e2;exact k
  .cases e
 | vd h1 h2 Rn Rm=>
  have k2:=Rm.2 _ _ (.inl @aS);have k:∀vs us,bo X.K H vs (_::_)->Vals vs us->∃as,iI s.heap us (oC (_::_)) as:=λvs us r ru=>by
   cases r with
   | cons r1 r2=>
    cases ru with
    |cons u1 u2=>
     obtain⟨as,ra⟩:=Rn.1 _ _ r1 u1;obtain⟨bs,rb⟩:=k2 _ _ r2 u2;exact⟨_,.cons ra rb⟩
  refine⟨V9 k,λds ss e=>?_⟩;rcases e with ⟨e,e2⟩ |⟨e,_⟩
  .cases e;cases e2;exact k
  .cases e
 |ref hg h1 ih=>
  refine⟨λv u r ru=>?_,λds ss e=>by rcases e with ⟨e,_⟩ |⟨e,_⟩<;>cases e⟩;cases r;cases ru;obtain⟨vs,hv,rs⟩:=ab.lst hg;obtain⟨bT,rv,pl,hz⟩:=I.list (.of hv);obtain⟨o,ho,hc,n,hd⟩:=pl.isList;obtain⟨as,ra⟩:=ih.2 _ _ (.inl @aS) vs bT rs rv;exact⟨_,.list ho hc hd (by simpa using ra)⟩
theorem Qv(hu:@av):ku X (cS .Eq) (Cq false):=by
 ext g;obtain⟨a,b,sa,sb,q⟩:=q;obtain⟨as,ra⟩:=(lq I ab sa).1 x v dX rx;obtain⟨bs,rb⟩:=(lq I ab sb).1 y u dY ry;have d1:=ER sa;refine SeqAt.compareEq_reads ra rb (lA _ sa.nr) (lA _ sb.nr) (by unfold SN at d1;lia) ?_;rw[yn _ _ sa.nr sb.nr];exact⟨.bl _,H,.bl _,G,I,@V,rfl,.bl _,q⟩
theorem Qr(hu:@av):ku X (cS .NotEq) (Cq true):=by
 ext g;obtain⟨a,b,sa,sb,q⟩:=q;obtain⟨as,ra⟩:=(lq I ab sa).1 x v dX rx;obtain⟨bs,rb⟩:=(lq I ab sb).1 y u dY ry;have d1:=ER sa;refine SeqAt.compareNe_reads ra rb (lA _ sa.nr) (lA _ sb.nr) (by unfold SN at d1;lia) ?_;rw[yn _ _ sa.nr sb.nr];exact⟨.bl _,H,.bl _,G,I,@V,rfl,.bl _,q⟩
end
theorem uK(j k):jC (eL j) (eL k)=decide (j=k):=by
 cases j with
 |inl a=>cases k with
  |inl b=>rw[QZ];rfl
  |inr b=>exact(decide_eq_false (@a3)).symm
 |inr a=>cases k with
  |inl b=>exact(decide_eq_false (@a3)).symm
  |inr b=>rw[QY];exact(S7 a b)
theorem Dv:∀(js ks:List Key),lT (js.map eL) (ks.map eL)=decide (js=ks)
 |[],[]=>(decide_eq_true rfl).symm
 |[],_::_=>(decide_eq_false (@a3)).symm
 |_::_,[]=>(decide_eq_false (@a3)).symm
 |j::js,k::ks=>by
  show(jC (eL j) (eL k)&&lT (js.map eL) (ks.map eL))=_;rw[uK,Dv js ks,HH]
theorem tQ(js ks:List Key):jC (.tup (js.map eL)) (.tup (ks.map eL))=decide (js=ks):=by
 exact Dv js ks
section
variable {K:aq} {H:Hp}
theorem qU(h:eT d=true):∃k:Key,d=eL k:=by
 cases d with
 |int i=>exact⟨.inl i,rfl⟩
 |str x=>exact⟨.inr x,rfl⟩
 |_=>exact absurd h (by simp[eT])
theorem LR:∀{ds:@e},ds.all eT=true->∃ks:List Key,ds=ks.map eL
 |[],_=>⟨[],rfl⟩
 |d::r,h=>by
  rw[B7,aJ] at h;obtain⟨k,rfl⟩:=qU h.1;obtain⟨ks,rfl⟩:=LR h.2;exact⟨k::ks,rfl⟩
theorem LS(h:lB d=true):∃ks:List Key,d=.tup (ks.map eL):=by
 cases d with
 |tup ds=>obtain⟨ks,rfl⟩:=LR (ds:=ds) h;exact⟨ks,rfl⟩
 |_=>exact absurd h (by simp[lB])
theorem qO(r:bW K H v (eL k)):v=kV k:=by
 cases k with
 |inl i=>cases r;rfl
 |inr x=>cases r;rfl
theorem Gf:∀{vs:@w} {ks:List Key},bo K H vs (ks.map eL)->vs=ks.map kV
 |_,[],r=>r.zero
 |_,k::ks,r=>by
  rw[aw] at r;cases r with
  |cons r1 r2=>rw[qO r1,Gf r2];rfl
theorem Az{ks:List Key}(r:bW K H v (.tup (ks.map eL))):∃b,v=.ref b/\H b=some (.tup (ks.map kV)):=by
 cases r with
 |tup h rs=>have e:=Gf rs;subst e;exact⟨_,rfl,h⟩
theorem mP.look(r:mP K H kv kvs)(k):(∃v d,mF kv k=@Y/\K2.look kvs (eL k)=@O/\bW K H v d)\/(mF kv k=none/\K2.look kvs (eL k)=none):=by
 induction r using mP.ind with
 |nil=>exact .inr @aS
 | @cons j v d r t rd rs ih=>
  by_cases e:j=k
  .left;refine⟨v,d,sH (p:=(j,v)) e,?_,rd⟩;unfold K2.look;rw[cx (by show jC (eL j) (eL k)=true;rw[uK];exact decide_eq_true e)];rfl
  .have e1:mF ((j,v)::r) k=mF r k:=sI (p:=(j,v)) e;have e2:K2.look ((eL j,d)::t) (eL k)=K2.look t (eL k):=by
    unfold K2.look;rw[cg (by show ¬ jC (eL j) (eL k)=true;rw[uK];simpa using e)]
   rw[e1,e2];exact ih
theorem my.look(r:my K H kv kvs)(k):(∃v d,mF kv k=@Y/\K2.look kvs (.tup (k.map eL))=@O/\bW K H v d)\/(mF kv k=none/\K2.look kvs (.tup (k.map eL))=none):=by
 induction r using my.ind with
 |nil=>exact .inr @aS
 | @cons j v d r t rd rs ih=>
  by_cases e:j=k
  .left;refine⟨v,d,sH (p:=(j,v)) e,?_,rd⟩;unfold K2.look;rw[cx (by show jC (.tup (j.map eL)) (.tup (k.map eL))=true;rw[tQ];exact decide_eq_true e)];rfl
  .have e1:mF ((j,v)::r) k=mF r k:=sI (p:=(j,v)) e;have e2:K2.look ((.tup (j.map eL),d)::t) (.tup (k.map eL))=K2.look t (.tup (k.map eL)):=by
    unfold K2.look;rw[cg (by show ¬ jC (.tup (j.map eL)) (.tup (k.map eL))=true;rw[tQ];simpa using e)]
   rw[e1,e2];exact ih
theorem mP.any(r:mP K H kv kvs)(k):(kv.any λp=>decide (p.1=k))=kvs.any λp=>jC p.1 (eL k):=by
 induction r using mP.ind with
 |nil=>rfl
 |@cons j v d r t rd rs ih=>simp only[ma];rw[ih,uK]
theorem my.any(r:my K H kv kvs)(k):(kv.any λp=>decide (p.1=k))=kvs.any λp=>jC p.1 (.tup (k.map eL)):=by
 induction r using my.ind with
 |nil=>rfl
 |@cons j v d r t rd rs ih=>simp only[ma];rw[ih,tQ]
theorem mP.put(r:mP K H kv kvs)(k)(rd:bW K H v d):mP K H (putK kv k v) (K2.put kvs (eL k) d):=by
 unfold putK K2.put;rw[r.any k];by_cases h:(kvs.any λp=>jC p.1 (eL k))=true
 .rw[if_pos h,if_pos h];clear h;induction r using mP.ind with
  |nil=>exact .nil
  |@cons j w e r t re rs ih=>
   simp only[aw];rw[uK];by_cases e:j=k
   .simp only[e,if_true,decide_true];exact .cons rd ih
   .simp only[e,if_false,decide_false,au];exact .cons re ih
 .rw[if_neg h,if_neg h];clear h;induction r using mP.ind with
  |nil=>exact .cons rd .nil
  |cons re rs ih=>exact .cons re ih
theorem my.put(r:my K H kv kvs)(k)(rd:bW K H v d):my K H (putK kv k v) (K2.put kvs (.tup (k.map eL)) d):=by
 unfold putK K2.put;rw[r.any k];by_cases h:(kvs.any λp=>jC p.1 (.tup (k.map eL)))=true
 .rw[if_pos h,if_pos h];clear h;induction r using my.ind with
  |nil=>exact .nil
  |@cons j w e r t re rs ih=>
   simp only[aw];rw[tQ];by_cases e:j=k
   .simp only[e,if_true,decide_true];exact .cons rd ih
   .simp only[e,if_false,decide_false,au];exact .cons re ih
 .rw[if_neg h,if_neg h];clear h;induction r using my.ind with
  |nil=>exact .cons rd .nil
  |cons re rs ih=>exact .cons re ih
end
theorem Kp.putD{H:Hp}{p:Addr}{o o':HO}(hp:H p=@g)(h:(∃k,o=.dK k)\/∃k,o=.dT k):Kp H (upd H p o') :=
 ⟨λa ys e=>by rw[bH (by rintro rfl;rw[hp] at e;rcases h with ⟨_,rfl⟩ |⟨_,rfl⟩<;>cases e)];exact e,λa ob u e=>by rw[bH (by rintro rfl;rw[hp] at e;rcases h with ⟨_,rfl⟩ |⟨_,rfl⟩<;>cases e)];exact e⟩
section
variable {X:Cx} {pins:@t} {σ:L2.St} {H:Hp} {s:ay} {G:Gp} {a:Addr} {kvs:@af} {k:D} {y:V}
theorem toT(I:@m)(e:H a=some (.dK [])):Inv X pins σ (upd H a (.dT [])) s:=by
 obtain⟨z,hd,vs,rel,dd⟩:=BE I.bP e;have hv:vs=[]:=by cases rel;rfl
 subst hv;obtain⟨o,es,ep,ho,hx,Cb,hko,hl,nd⟩:=dd;have he:es=#[]:=by
  cases hq:es.toList with
  |nil=>simpa using hq
  |cons _ _=>rw[hq] at hl;cases hl
 subst he;exact I.write (h':=s.heap) (t':=s.toks) (x:=a) (e:=a) (by rw[e];exact bB) (@W) (λb u _ q=>q) ⟨o,ho⟩ ⟨cm _,hd,[],.nil,o,#[],ep,ho,hx,Cb,rfl,bR⟩
theorem toK(I:@m)(e:H a=some (.dT [])):Inv X pins σ (upd H a (.dK [])) s:=by
 obtain⟨z,hd,xs,rel,o,es,ep,ho,hx,Cb,hl,nd⟩:=I.bP a _ e;have hv:xs=[]:=by cases rel;rfl
 subst hv;have he:es=#[]:=by simpa using hl
 subst he;exact I.write (h':=s.heap) (t':=s.toks) (x:=a) (e:=a) (by rw[e];exact bB) (@W) (λb u _ q=>q) ⟨o,ho⟩ ⟨cm _,hd,[],.nil,o,#[],ep,ho,hx,Cb,(λ_ h=>by simp at h),.nil,bR⟩
theorem LK(ab:@aA)(hg:G a=some (.eG kvs))(k:Kp H (upd H a o))(ho:KW X.K (upd H a o) a (.eG kvs)):Mv X.K H G (upd H a o) G:=by
 have m:=Mv.put ab hg k ho;have e:di G a (.eG kvs)=G:=by
  funext b;unfold di;split
  .rename_i z;rw[z,hg]
  .rfl
 rw[e] at m;exact m
theorem EO(I:@m)(ab:@aA)(hg:G a=some (.eG kvs))(hk:iC kvs k=true)(ry:bW X.K H y k):
  ∃H',Inv X pins σ H' s/\Mv X.K H G H' G/\((∃(kv:@aE) (kk:Key),H' a=some (.dK kv)/\mP X.K H' kv kvs/\k=eL kk/\y=kV kk)\/∃(kv:@a4) (kk:List Key) (b:Addr),H' a=some (.dT kv)/\my X.K H' kv kvs/\k=.tup (kk.map eL)/\y=.ref b/\H' b=some (.tup (kk.map kV))):=by
 unfold iC at hk;rw[iT,aJ,aJ] at hk;rcases hk with ⟨h1,h2⟩ |⟨h1,h2⟩
 .obtain⟨kk,rfl⟩:=qU h1;have ey:=qO ry;subst ey;rcases ab a _ hg with ⟨kv,hv,rs⟩ |⟨kv,hv,rs⟩
  .exact⟨H,I,@V,.inl ⟨kv,kk,hv,rs,rfl,rfl⟩⟩
  .cases rs with
   |nil=>
    refine⟨_,toK I hv,LK ab hg (.putD hv (.inr @I)) (.inl ⟨[],bM,.nil⟩),.inl ⟨[],kk,bM,.nil,rfl,rfl⟩⟩
   |cons _ _=>simp[eT] at h2
 .obtain⟨kk,rfl⟩:=LS h1;obtain⟨b,rfl,hb⟩:=Az ry;rcases ab a _ hg with ⟨kv,hv,rs⟩ |⟨kv,hv,rs⟩
  .cases rs with
   |nil=>
    have kp:Kp H (upd H a (.dT [])):=.putD hv (.inl @I);exact⟨_,toT I hv,LK ab hg kp (.inr ⟨[],bM,.nil⟩),.inr ⟨[],kk,b,bM,.nil,rfl,rfl,kp.tup _ _ hb⟩⟩
   |@cons j _ _ _ _ _ _=>cases j<;>simp[eL,lB] at h2
  .exact⟨H,I,@V,.inr ⟨kv,kk,b,hv,rs,rfl,rfl,hb⟩⟩
theorem HF(I:@m)(ab:@aA)(hg:G a=some (.eG kvs))(hk:iC kvs k=true)(ry:bW X.K H y k):
  ∃H' o,Inv X pins σ H' s/\Mv X.K H G H' G/\B2 H' a y o/\o.isSome=(look kvs k).isSome/\∀d,look kvs k=@O->∃v,o=@Y/\bW X.K H' v d:=by
 obtain⟨H',I',m,h⟩:=EO I ab hg hk ry;rcases h with ⟨kv,kk,hv,rs,rfl,rfl⟩ |⟨kv,kk,b,hv,rs,rfl,rfl,hb⟩
 .refine⟨H',mF kv kk,I',m,.k hv,?_,λd hd=>?_⟩
  .rcases rs.look kk with ⟨v,d,e1,e2,_⟩ |⟨e1,e2⟩<;>rw[e1,e2]<;>rfl
  .rcases rs.look kk with ⟨v,d',e1,e2,r⟩ |⟨e1,e2⟩
   .rw[e2] at hd;cases hd;exact⟨v,e1,r⟩
   .rw[e2] at hd;cases hd
 .refine⟨H',mF kv kk,I',m,.t hv hb,?_,λd hd=>?_⟩
  .rcases rs.look kk with ⟨v,d,e1,e2,_⟩ |⟨e1,e2⟩<;>rw[e1,e2]<;>rfl
  .rcases rs.look kk with ⟨v,d',e1,e2,r⟩ |⟨e1,e2⟩
   .rw[e2] at hd;cases hd;exact⟨v,e1,r⟩
   .rw[e2] at hd;cases hd
theorem D7(I:@m)(rd:bW X.K H x (.fZ kvs))(hk:iC kvs k=true)(ry:bW X.K H y k):
  ∃a o,x=@S/\(kvs=[]\/B2 H a y o)/\o.isSome=(look kvs k).isSome/\∀d,look kvs k=@O->∃v,o=@Y/\bW X.K H v d:=by
 unfold iC at hk;rw[iT,aJ,aJ] at hk;cases rd with
 | pM h rs=>
  rename_i a ob kv;rcases hk with ⟨h1,h2⟩ |⟨h1,h2⟩
  .obtain⟨kk,rfl⟩:=qU h1;have ey:=qO ry;subst ey;refine⟨a,mF kv kk,rfl,.inr (.inl ⟨kv,kk,.inr ⟨_,h⟩,rfl,rfl⟩),?_,λd hd=>?_⟩
   .rcases rs.look kk with ⟨v,d,e1,e2,_⟩ |⟨e1,e2⟩<;>rw[e1,e2]<;>rfl
   .rcases rs.look kk with ⟨v,d',e1,e2,r⟩ |⟨e1,e2⟩
    .rw[e2] at hd;cases hd;exact⟨v,e1,r⟩
    .rw[e2] at hd;cases hd
  .cases rs with
   |nil=>exact⟨a,none,rfl,@W,rfl,λd hd=>by cases hd⟩
   |cons _ _=>
    rename_i kx _ _ _ _ _ _;rw[B7,aJ] at h2;cases kx<;>exact absurd h2.1 (by simp[eL,lB])
 | pL h rs=>
  rename_i a ob kv;rcases hk with ⟨h1,h2⟩ |⟨h1,h2⟩
  .cases rs with
   |nil=>exact⟨a,none,rfl,@W,rfl,λd hd=>by cases hd⟩
   |cons _ _=>
    rw[B7,aJ] at h2;exact absurd h2.1 (by simp[eT])
  .obtain⟨kk,rfl⟩:=LS h1;obtain⟨b,rfl,hb⟩:=Az ry;refine⟨a,mF kv kk,rfl,.inr (.inr ⟨kv,kk,b,.inr ⟨_,h⟩,rfl,hb,rfl⟩),?_,λd hd=>?_⟩
   .rcases rs.look kk with ⟨v,d,e1,e2,_⟩ |⟨e1,e2⟩<;>rw[e1,e2]<;>rfl
   .rcases rs.look kk with ⟨v,d',e1,e2,r⟩ |⟨e1,e2⟩
    .rw[e2] at hd;cases hd;exact⟨v,e1,r⟩
    .rw[e2] at hd;cases hd
theorem R8(I:@m)(ab:@aA)(hg:G a=some (.eG kvs))(hk:iC kvs k=true)(hz:kvs.length<SZ)(ry:bW X.K H y k)(rv:bW X.K H v d):
  ∃H' H'',Inv X pins σ H' s/\OF H' a y v H''/\Mv X.K H G H'' (di G a (.eG (put kvs k d))):=by
 obtain⟨H',I',m,h⟩:=EO I ab hg hk ry;have rv':=rv.mono (m.kp ab);have sz:bc=16777216:=cX;rcases h with ⟨kv,kk,hv,rs,rfl,rfl⟩ |⟨kv,kk,b,hv,rs,rfl,rfl,hb⟩
 .have kp:Kp H' (upd H' a (.dK (putK kv kk v))):=.putD hv (.inl @I);exact⟨H',_,I',.k hv (by rw[rs.length,sz];exact hz),m.trans (.put m.ab hg kp (.inl ⟨_,bM,(rs.put kk rv').mono kp⟩))⟩
 .have kp:Kp H' (upd H' a (.dT (putK kv kk v))):=.putD hv (.inr @I);exact⟨H',_,I',.t hv hb (by rw[rs.length,sz];exact hz),m.trans (.put m.ab hg kp (.inr ⟨_,bM,(rs.put kk rv').mono kp⟩))⟩
end
section
variable {X:Cx} {a b c e:Expr} {es:@az} {ta tb tc te:fB} {t:Cd} {pos p p2 apos jE:Pos} {x:Str}
theorem XX{j}:dE X (.Constant (.bool k) j pos) (dC (.bl k)):=uu aai λ_ _=>.bl k
theorem UE{j}:dE X (.Constant (.str y) j pos) (dC (.str y)):=uu XI λ_ _=>.str y
theorem Nh{st:Stmt}:uX X st vJ:=λ_ _ _ _ _ _ _ _ _ _ h=>h.elim
theorem TL:Ze X (unaryOp .USub) zj:=by
 intro pins s σ H G x dx v Q I ab rx dX q;cases dX with
 |int i=>exact gQ (W7 pins s σ H _ v (Ce X.K H G Q) I rx ⟨i,rfl,_,_,@V,@P,q⟩) λ_ _ z=>.of z
 |_=>exact bI q
theorem XR(hu:@av)(ha:dE X a ta)(hb:dE X b tb)(hs:MB b):dE X (.Subscript a b pos) (aN gq ta tb):=by
 ext d;refine Subscript_ (Mu ha hb hE I h λv u s2 x y dx dy H2 G2 J m rx ry dX dY q=>?_);have fin:∀{rb:R2},IxR X rb->rb x y H2 (Ce X.K H2 G2 Q)->wpAny @o X.A (subscriptTail a b v u) @aZ X.xe s2:=λhr hq=>
  gQ (hr a b pins s2 σ H2 x y v u _ J.inv rx ry hq (hs _ _)) λ_ _ z=>(uN.of z).trans m
 cases dX with
 | tup hq rs=>
  cases dY with
  |int i=>
   rw[iM] at q;split at q
   .rename_i d hd;obtain⟨w,hw,rH⟩:=rs.rD hd;exact fin Yo ⟨_,_,i,w,rfl,rfl,.of hq,hw,d,G2,.refl J.ab,rH,q⟩
   ext e
  |_=>exact bI q
 | dF hq rs=>
  cases dY with
  |int i=>
   rw[jz] at q;split at q
   .rename_i d hd;obtain⟨w,hw,rH⟩:=rs.rD hd;exact fin LW ⟨_,_,i,w,rfl,rfl,hq.sq,hw,d,G2,.refl J.ab,rH,q⟩
   ext e
  |_=>exact bI q
 | pM h rs=>
  rw[uo] at q;obtain⟨hk,q⟩:=q;split at q
  .rename_i d hd;obtain⟨a',o,ea,g,_,hv⟩:=D7 J.inv (.pM h rs) hk dY;obtain⟨w,rfl,rH⟩:=hv d hd;cases ea;rcases g with rfl |g
   .cases hd
   .cases rx;exact tail_any (tT J.inv g) PySem.F.slot_dict_getitem.lookup (yq @c J.inv g ry λw' s3 I4 rv=>⟨w,H2,d,G2,I4,m,rv,rH,q⟩) (hs _ _)
  ext e
 | pL h rs=>
  rw[uo] at q;obtain⟨hk,q⟩:=q;split at q
  .rename_i d hd;obtain⟨a',o,ea,g,_,hv⟩:=D7 J.inv (.pL h rs) hk dY;obtain⟨w,rfl,rH⟩:=hv d hd;cases ea;rcases g with rfl |g
   .cases hd
   .cases rx;exact tail_any (tT J.inv g) PySem.F.slot_dict_getitem.lookup (yq @c J.inv g ry λw' s3 I4 rv=>⟨w,H2,d,G2,I4,m,rv,rH,q⟩) (hs _ _)
  ext e
 | ref l=>
  rw[D9] at q;split at q
  .rename_i ds hl;obtain⟨vs,hv,rs⟩:=J.ab.lst hl;cases dY with
   |int i=>
    dsimp only at q;split at q
    .rename_i d hd;obtain⟨w,hw,rH⟩:=rs.rD hd;exact fin LW ⟨_,_,i,w,rfl,rfl,.of hv,hw,d,G2,.refl J.ab,rH,q⟩
    ext e
   |_=>exact bI q
  .rename_i kvs hl;obtain⟨hk,q⟩:=q;split at q
   .rename_i d hd;obtain⟨H3,o,I3,m3,g,_,hv⟩:=HF J.inv J.ab hl hk dY;obtain⟨w,rfl,rH⟩:=hv d hd;cases rx;exact tail_any (tT I3 g) PySem.F.slot_dict_getitem.lookup (yq @c I3 g ry λw' s3 I4 rv=>⟨w,H3,d,G2,I4,m.trans m3,rv,rH,q⟩) (hs _ _)
   ext e
  ext e
 |_=>exact bI q
def PO2(X:Cx)(e:Option Expr)(t:TO2):Prop :=
 ∀(E:k7) (pins:@t) (s:ay) (σ:L2.St) (H:Hp) (τ:iE) (G:Gp) (Q:@aP->@l),Lk X E->@bi->t E τ G Q ->
  wpAny @o X.A (evalPart e X.env) (λu s'=>∃o H' G',Inv X pins σ H' s'/\Mv X.K H G H' G'/\IsPart u o/\Q o G') X.xe s
theorem P6:PO2 X none fm:=by
 ext d;rw[evalPart_none];exact az ⟨none,H,G,I.inv,.refl I.ab,.none,h⟩
theorem P5(h:dE X e te):PO2 X (some e) (nV te):=by
 intro E pins s σ H τ G Q hE I hw;rw[evalPart_some];refine iK h hE I hw λx H1 d G1 u s1 I1 m1 r1 ja q1=>?_;cases ja with
 |int i=>
  obtain⟨t,rfl⟩:=r1;exact⟨some i,H1,G1,I1.inv,m1,.int i t,q1⟩
 |_=>exact bI q1
theorem Np{lo:Option Expr}(he:dE X a ta)(hl:PO2 X lo tl)(hu:PO2 X hi th):dE X (.Subscript a (.Slice lo hi none p2) pos) (zK ta tl th):=by
 ext d;refine Subscript_ (iK he hE I h λx H1 d G1 v s1 I1 m1 r1 ja q1=>?_);refine wpAny_Slice (gQ (hl E pins s1 σ H1 τ G1 _ hE I1 q1) ?_);rintro vl s2 ⟨l,H2,G2,oy,m2,pl,q2⟩;refine gQ (hu E pins s2 σ H2 τ G2 _ hE (I1.mv oy m2) q2) ?_;rintro vu s3 ⟨r,H3,G3,I3,m3,pu,q3⟩;rw[evalPart_none];refine az ?_;have m13:=m2.trans m3;have mm:=m1.trans m13;have I4:Inv X pins σ H3 {s3 with heap:=s3.heap.push {cls:=.type "slice",data:=.fields #[vl,vu,.none]}}:=I3.kept (t':=s3.toks) λb ob q=>aF _ q;have Z6:=ja.mono (m13.kp I1.ab);have WV:=m3.ab;have key:∀{rb:V->@aP->@aP->Hp->VK->Prop},SlR X rb->rb x l r H3 (Ce X.K H3 G3 Q)->wpAny @o X.A (subscriptTail a (.Slice lo hi none p2) v (.ref s3.heap.objs.size)) @aZ X.xe {s3 with heap:=s3.heap.push {cls:=.type "slice",data:=.fields #[vl,vu,.none]}}:=λhr hq=>by
  obtain⟨T,id,hT,ht,hg⟩:=hr pins {s3 with heap:=s3.heap.push {cls:=.type "slice",data:=.fields #[vl,vu,.none]}} σ H3 x v vl vu l r s3.heap.objs.size _ I4 r1 (Heap.IsSliceOf.new ..) pl pu hq;exact gQ (tail_any (ops:=[.ref s3.heap.objs.size,v]) ht hT hg (by with_unfolding_all rfl)) λ_ _ z=>(uN.of z).trans mm
 cases Z6 with
 |tup hq rs=>
  obtain⟨hw,q⟩:=q3;refine key Xl ⟨_,_,rfl,.of hq,?_,λp hp=>⟨_,G3,.Ft WV hp,.tup bM ((rs.cut l r).mono (@ah)),q⟩⟩;rw[D5,D5,rs.length];exact hw
 |dF hq rs=>exact key Ln ⟨_,_,rfl,hq.sq,λp hp=>⟨_,_,.El WV hp (rs.cut l r),.ref _,q3 p (WV.free hp)⟩⟩
 |ref g=>
  rw[uk] at q3;split at q3
  .rename_i ds hg;obtain⟨vs,hv,rs⟩:=WV.lst hg;exact key Ln ⟨_,_,rfl,.of hv,λp hp=>⟨_,_,.El WV hp (rs.cut l r),.ref _,q3 p (WV.free hp)⟩⟩
  .exact q3.elim
 |_=>exact bI q3
theorem US(ss)(s)(h1:tu ss=true)(h2:nr s=true):((oC ss).any λy=>B4 y (pd s))=ss.any (jC · s):=by
 induction ss with
 |nil=>rfl
 |cons d r ih=>
  have h':nr d=true/\tu r=true:=(pI).mp h1;show(B4 (pd d) (pd s)||(oC r).any _)=_;rw[ih h'.2,yn d s h'.1 h2];rfl
theorem VH(h:Sn G (n+1) (.dF ds) (.dF ss)):cF (oC ss)<=n:=by
 exact vY (ER h)
theorem Eu(hu:@av)(neg:Bool){pins:@t}{s:ay}{σ:L2.St}{H:Hp}{G:Gp}{x y:V}{dx t:D}{ds ss:@e}{v u:Value}{Q:DK}(I:@m)(ab:@aA)(rx:RelV x v)(dX:bW X.K H x dx)
  (hy:(∃l vs bT,u=.ref l/\Vals vs bT/\bo X.K H vs ds/\(s.heap.IsList l bT.toArray\/s.heap.IsTuple l bT.toArray))) (s1:Sn G SN dx t) (s2:Sn G SN (.dF ds) (.dF ss))
  (q:Q (.bl (if neg then !ss.any (jC · t) else ss.any (jC · t))) G):wpAny @o X.A (cS (if neg then .NotIn else .In) v u) @aZ X.xe s:=by
 obtain⟨l,vs,bT,rfl,rv,rs,hl⟩:=hy;obtain⟨as,ra⟩:=(lq I ab s1).1 x v dX rx;obtain⟨bs,rb⟩:=(lq I ab s2).2 ds ss (.inl @aS) vs bT rs rv;have d2:=VH (n:=7) s2;have n2:tu ss=true:=s2.nr;have GU:=zF _ n2;have e:=US ss t n2 s1.nr;have Kb:X.A.units+1+min (cF (oC ss)) (pd t).depth<cLine:=@f
 have Wd:iI s.heap bT.toArray.toList (oC ss) bs:=by simpa using rb
 have fin:∀k:Bool,k=(if neg then !ss.any (jC · t) else ss.any (jC · t))->uN X pins σ H G Q (.bool k) s:=λk hk=>by subst hk;exact⟨.bl _,H,.bl _,G,I,@V,rfl,.bl _,q⟩
 cases neg with
 |false=>
  rcases hl with hl |hl
  .exact SeqAt.in_listAt _ hl (u3 Wd ra GU (lA _ s1.nr) Kb) (by rw[sC Wd GU,e];exact fin _ rfl)
  .exact SeqAt.in_tupleAt _ hl (u3 Wd ra GU (lA _ s1.nr) Kb) (by rw[sC Wd GU,e];exact fin _ rfl)
 |true=>
  rcases hl with hl |hl
  .exact SeqAt.notIn_listAt _ hl (u3 Wd ra GU (lA _ s1.nr) Kb) (by rw[sC Wd GU,e];exact fin _ rfl)
  .exact SeqAt.notIn_tupleAt _ hl (u3 Wd ra GU (lA _ s1.nr) Kb) (by rw[sC Wd GU,e];exact fin _ rfl)
theorem Rk(hu:@av)(neg){x:V}(I:@m)(ab:@aA)(rx:RelV x v)(ry:RelV y u)(dY:bW X.K H y (.fZ kvs))(dX:bW X.K H x dx)
  (q:Cp neg dx (.fZ kvs) G Q):wpAny @o X.A (cS (if neg then .NotIn else .In) v u) @aZ X.xe s:=by
 obtain⟨zH,hk,q⟩:=q;have go:∀(a:Addr) (o:Option V),y=@S->B2 H a x o->o.isSome=(look kvs dx).isSome->wpAny @o X.A (cS (if neg then .NotIn else .In) v u) @aZ X.xe s:=by
  intro a o ea g ho;subst ea;cases ry;cases neg with
  |false=>exact abF @c I g rx λs3 I4=>⟨.bl _,H,.bl _,G,I4,@V,rfl,.bl _,by rw[ho];exact q⟩
  |true=>exact Ml @c I g rx λs3 I4=>⟨.bl _,H,.bl _,G,I4,@V,rfl,.bl _,by rw[ho];exact q⟩
 obtain⟨a,o,ea,g,ho,_⟩:=D7 I dY hk dX;rcases g with rfl |g
 .exact absurd rfl zH
 .exact go a o ea g ho
theorem Eh(hu:@av)(neg):ku X (cS (if neg then .NotIn else .In)) (Cp neg):=by
 ext g;cases dY with
 |tup hq rs=>
  obtain⟨t,ss,s1,s2,q⟩:=q;cases ry;obtain⟨bT,rv,pl,hz⟩:=I.tuple (.of hq);exact Eu hu neg (y:=x) I ab rx dX ⟨_,_,bT,rfl,rv,rs,.inr pl⟩ s1 s2 q
 |dF hq rs=>
  obtain⟨t,ss,s1,s2,q⟩:=q;cases ry;obtain⟨bT,rv,pl,hz⟩:=I.list hq.sq;exact Eu hu neg (y:=x) I ab rx dX ⟨_,_,bT,rfl,rv,rs,.inl pl.isList⟩ s1 s2 q
 |pM h rs=>exact Rk hu neg I ab rx ry (.pM h rs) dX q
 |pL h rs=>exact Rk hu neg I ab rx ry (.pL h rs) dX q
 | ref l=>
  unfold Cp at q;dsimp only at q;split at q
  .rename_i kvs hl;obtain⟨hk,q⟩:=q;obtain⟨H3,o,I3,m3,g,ho,_⟩:=HF I ab hl hk dX;cases ry;cases neg with
   |false=>exact abF @c I3 g rx λs3 I4=>⟨.bl _,H3,.bl _,G,I4,m3,rfl,.bl _,by rw[ho];exact q⟩
   |true=>exact Ml @c I3 g rx λs3 I4=>⟨.bl _,H3,.bl _,G,I4,m3,rfl,.bl _,by rw[ho];exact q⟩
  .rename_i ds hl;obtain⟨t,ss,s1,s2,q⟩:=q;cases ry;obtain⟨vs,hv,rs⟩:=ab.lst hl;obtain⟨bT,rv,pl,hz⟩:=I.list (.of hv);exact Eu hu neg (y:=x) I ab rx dX ⟨_,_,bT,rfl,rv,rs,.inl pl.isList⟩ s1 s2 q
  ext e
 |_=>exact bI q
theorem X5(hu:@av):ku X (cS .In) (Cp false):=Eh hu false
theorem Nw(hu:@av):ku X (cS .NotIn) (Cp true):=Eh hu true
end
section
variable {X:Cx} {a b c e o:Expr} {es:@az} {ta tb tc te to:fB} {t:Cd} {pos p p2 apos jE:Pos} {x name:Str} {id T:String}
theorem Oo:ky X (.builtin "len") pR:=by
 intro pins s σ H G xs ds us Q I ab rx rd q;unfold pR at q;split at q
 .rename_i x;obtain⟨v,rfl,r⟩:=rd.one;have TK:∀(n:Nat),abS X.K v H n->Q (.int (n:Int)) G->wpAny @o X.A (call (.builtin "len") us) @aZ X.xe s:=λn hn hq=>
   gQ (Sl pins s σ H [v] us (Ce X.K H G Q) I rx ⟨v,n,rfl,hn,_,_,@V,@P,hq⟩) λ_ _ z=>.of z
  have sz:bc=16777216:=cX;cases r with
  |tup hq rs=>exact TK _ (.inr ⟨_,.of hq,by rw[rs.length]⟩) q
  |dF hq rs=>exact TK _ (.inl ⟨_,hq.sq,by rw[rs.length]⟩) q
  |str y=>
   unfold lenOf at q;dsimp only at q;by_cases hz:y.length<=SZ
   .rw[if_pos hz] at q;exact TK _ ⟨by rw[sz];exact hz,rfl⟩ q
   .rw[if_neg hz] at q;exact q.elim
  |pM h rs=>
   rename_i l o kv kvs;obtain⟨u,rfl,ru⟩:=rx.one;cases ru;unfold lenOf at q;dsimp only at q;by_cases ha:(kvs.all λp=>eT p.1)=true
   .rw[if_pos ha] at q;exact WO I (.inr ⟨_,h⟩) λt s' I'=>⟨.int kv.length,H,_,G,I',@V,⟨t,rfl⟩,@P,by rw[rs.length];exact q⟩
   .rw[if_neg ha] at q;exact q.elim
  | pL h rs=>
   rename_i l o kv kvs;obtain⟨u,rfl,ru⟩:=rx.one;cases ru;unfold lenOf at q;dsimp only at q;by_cases ha:(kvs.all λp=>eT p.1)=true
   .rw[if_pos ha] at q;cases rs with
    |nil=>
     obtain⟨z,hS,xs,rel,ob,es,ep,ho,hx,Cb,hl,nd⟩:=(I.bP l _ h).2;have hxs:xs=[]:=by cases rel;rfl
     subst hxs;have he:es=#[]:=by simpa using hl
     subst he;have dd:s.heap.DictOf (@bb) l []:=⟨ob,#[],ep,ho,hx,Cb,(λ_ h=>by simp at h),.nil,bR⟩;refine call_len_dict hS dd @i ?_;exact⟨.int 0,H,_,G,@ao,@V,@I,@P,q⟩
    |cons _ _=>simp[eT] at ha
   .rw[if_neg ha] at q;exact q.elim
  | ref l=>
   unfold lenOf at q;dsimp only at q;cases hg:G l with
   |none=>rw[hg] at q;exact q.elim
   | some g=>
    rw[hg] at q;cases g with
    |lst ds=>
     obtain⟨vs,hv,rs⟩:=ab.lst hg;exact TK _ (.inl ⟨_,.of hv,by rw[rs.length]⟩) q
    |ins _ _=>exact q.elim
    |se _=>exact q.elim
    | eG kvs=>
     obtain⟨u,rfl,ru⟩:=rx.one;cases ru;dsimp only at q;by_cases ha:(kvs.all λp=>eT p.1)=true
     .rw[if_pos ha] at q;rcases ab l _ hg with ⟨kv,hv,rs⟩ |⟨kv,hv,rs⟩
      .exact WO I (.inl hv) λt s' I'=>⟨.int kv.length,H,_,G,I',@V,⟨t,rfl⟩,@P,by rw[rs.length];exact q⟩
      .cases rs with
       |nil=>
        obtain⟨z,hd,vs,rel,dd⟩:=BE (toK I hv).bP bM;have hvs:vs=[]:=by cases rel;rfl
        subst hvs;refine call_len_dict hd dd @i ?_;exact⟨.int 0,H,_,G,@ao,@V,@I,@P,q⟩
       |cons _ _=>simp[eT] at ha
     .rw[if_neg ha] at q;exact q.elim
  |_=>exact bI q
 ext e
theorem KD:ky X (@Q) rN:=by
 intro pins s σ H G xs ds us Q I ab rx rd q;unfold rN at q;split at q
 .rename_i x;obtain⟨v,rfl,r⟩:=rd.one;have Zm:∀(l:Addr) (ys:@w) (zs:@e),v=.ref l->(qB X.K H l ys\/zO X.K H l ys)->bo X.K H ys zs->fy G (.lst zs) Q->wpAny @o X.A (call (@Q) us) @aZ X.xe s:=λl ys zs e h rs hq=>by
   subst e;exact gQ (EW pins s σ H _ us (Ce X.K H G Q) I rx ⟨l,ys,rfl,h,λp hp=>⟨_,_,.El ab hp rs,.ref _,hq p (ab.free hp)⟩⟩) λ_ _ z=>.of z
  cases r with
  |tup hq rs=>exact Zm _ _ _ rfl (.inr (.of hq)) rs q
  |dF hq rs=>exact Zm _ _ _ rfl (.inl hq.sq) rs q
  | ref l=>
   unfold itemsOf at q;dsimp only at q;cases hg:G l with
   |none=>rw[hg] at q;exact q.elim
   | some g=>
    rw[hg] at q;cases g with
    |lst ds=>
     obtain⟨vs,hv,rs⟩:=ab.lst hg;exact Zm _ _ _ rfl (.inl (.of hv)) rs q
    |ins _ _=>exact q.elim
    |se _=>exact q.elim
    |eG kvs=>exact q.elim
  |_=>exact bI q
 ext e
theorem JM  (hc:ky X (.type T) r) (hg:Gl X x) (hm:X.mg x=none) (hv:df x=some (.type T)) (ha:xx X (e::es) t) (hn:autoParam (x≠"__name__") Ad._auto_1) (pO:@a1)
  (he:autoParam @bk Ar._auto_1) (qA:autoParam ((ik pos @aX).any @k=false) Ar._auto_1):dE X (.Call (.Name x p) (e::es) [] pos) (jJ r t):=by
 ext d;refine d6 (lz I.inv hg hm hv ?_ hn pO);exact dJ (Am ha pos hE I h λvs H1 ds G1 us s1 I1 m1 r1 ja q1=>gQ (hc pins s1 σ H1 G1 vs ds us Q I1.inv I1.ab r1 ja q1) λ_ _ z=>z.trans m1) he qA
theorem QX (K):∀C∈["int","bool","list","tuple","dict","str"],∀T∈["NoneType","bool","int","str","tuple","list","dict"],xB K (.type T) (.type C)=some (T == C||(T == "bool" && @ax)):=by
 intro C hC T hT;simp only[bA,bN,or_false] at hC hT;rcases hC with rfl |rfl |rfl |rfl |rfl |rfl<;>rcases hT with rfl |rfl |rfl |rfl |rfl |rfl |rfl<;>kernel_rfl
theorem Rc (C:String) (hC:C∈["int","bool","list","tuple","dict","str"]) {pins:@t} {s:ay} {σ:L2.St} {H:Hp} {G:Gp} {v:V} {d:D} {u:Value} {k:Bool} {Q:DK} (I:@m) (ab:@aA) (ru:RelV v u) (r:bW X.K H v d)
  (hk:Ww C d G=some k) (q:Q (.bl k) G):wpAny @o X.A (call (.builtin "isinstance") [u,.type C]) @aZ X.xe s:=by
 have fin:∀tk,uN X pins σ H G Q (.bool k) {s with toks:=tk}:=λtk=>⟨.bl k,H,.bl k,G,@ao,@V,rfl,.bl k,q⟩;have hl:∀T∈["NoneType","bool","int","str","tuple","list","dict"],k=(T == C||(T == "bool" && @ax))->xB X.K (.type T) (.type C)=some k:=λT hT e=>by rw[QX X.K C hC T hT,e]
 have tl:∀{l:Addr} {o:Obj},s.heap.get? l=@g->o.cls=@Q->k=("list" == C||("list" == "bool" && @ax))->v=.ref l->wpAny @o X.A (call (.builtin "isinstance") [u,.type C]) @aZ X.xe s:=λho hc e ev=>by
  subst ev;cases ru;exact fj PySem.W.kitx_list I.zG ⟨_,ho,hc⟩ (hl "list" (@d) e) (@a3) fin
 have td:∀{l:Addr} {o:Obj},s.heap.get? l=@g->o.cls=@aN->k=("dict" == C||("dict" == "bool" && @ax))->v=.ref l->wpAny @o X.A (call (.builtin "isinstance") [u,.type C]) @aZ X.xe s:=λho hc e ev=>by
  subst ev;cases ru;exact fj Tu I.zG ⟨_,ho,hc⟩ (hl "dict" (@d) e) (@a3) fin
 have pP:∀P:String->Prop,(∀C'∈["int","bool","list","tuple","dict","str"],P C')->P C:=λP h=>h C hC;cases r with
 | eX=>
  cases ru;have e:k=("NoneType" == C||("NoneType" == "bool" && @ax)):=by
   have:k=false:=(aX hk).symm;rw[this];exact pP (λC=>false=("NoneType" == C||("NoneType" == "bool" && @ax))) (@d)
  exact fj Tt I.zG bB (hl _ (@d) e) (@a3) fin
 | bl y=>
  cases ru;have e:k=("bool" == C||("bool" == "bool" && @ax)):=by
   have:k=(C == "bool" || @ax):=(aX hk).symm;rw[this];exact pP (λC=>(C == "bool" || @ax)=("bool" == C||("bool" == "bool" && @ax))) (@d)
  exact fj PySem.W.kitx_bool I.zG bB (hl _ (@d) e) (@a3) fin
 | int y=>
  obtain⟨t,rfl⟩:=ru;have e:k=("int" == C||("int" == "bool" && @ax)):=by
   have:k=(@ax):=(aX hk).symm;rw[this];exact pP (λC=>(@ax)=("int" == C||("int" == "bool" && @ax))) (@d)
  exact fj PySem.W.kitx_int I.zG bB (hl _ (@d) e) (@a3) fin
 | str y=>
  obtain⟨t,rfl⟩:=ru;have e:k=("str" == C||("str" == "bool" && @ax)):=by
   have:k=(C == "str"):=(aX hk).symm;rw[this];exact pP (λC=>(C == "str")=("str" == C||("str" == "bool" && @ax))) (@d)
  exact fj PySem.W.kitx_str I.zG bB (hl _ (@d) e) (@a3) fin
 | tup hq rs=>
  cases ru;have e:k=("tuple" == C||("tuple" == "bool" && @ax)):=by
   have:k=(C == "tuple"):=(aX hk).symm;rw[this];exact pP (λC=>(C == "tuple")=("tuple" == C||("tuple" == "bool" && @ax))) (@d)
  obtain⟨bT,rv,⟨o,h1,h2,_⟩,hz⟩:=I.tuple (.of hq);exact fj PySem.W.kitx_tuple I.zG ⟨o,h1,h2⟩ (hl _ (@d) e) (@a3) fin
 |dF hq rs=>
  obtain⟨bT,rv,pl,hz⟩:=I.list hq.sq;obtain⟨o,h1,h2,_⟩:=pl.isList;refine tl h1 h2 ?_ rfl;have:k=(C == "list"):=(aX hk).symm;rw[this];exact pP (λC=>(C == "list")=("list" == C||("list" == "bool" && @ax))) (@d)
 | pM h rs=>
  have e:k=("dict" == C||("dict" == "bool" && @ax)):=by
   have:k=(C == "dict"):=(aX hk).symm;rw[this];exact pP (λC=>(C == "dict")=("dict" == C||("dict" == "bool" && @ax))) (@d)
  obtain⟨_,_,vs,_,ob,_,_,h1,h2,_⟩:=vh I.bP (.inr ⟨_,h⟩);exact td h1 h2.1 e rfl
 | pL h rs=>
  have e:k=("dict" == C||("dict" == "bool" && @ax)):=by
   have:k=(C == "dict"):=(aX hk).symm;rw[this];exact pP (λC=>(C == "dict")=("dict" == C||("dict" == "bool" && @ax))) (@d)
  obtain⟨_,_,ys,_,ob,_,_,h1,h2,_⟩:=BD I.bP (.inr ⟨_,h⟩);exact td h1 h2.1 e rfl
 |exc h=>simp[Ww] at hk
 |BA h _=>simp[Ww] at hk
 |kF _ _ _ _=>simp[Ww] at hk
 | ref l=>
  unfold Ww at hk;dsimp only at hk;cases hg:G l with
  |none=>rw[hg] at hk;cases hk
  | some g=>
   rw[hg] at hk;cases g with
   |lst ds=>
    obtain⟨vs,hv,rs⟩:=ab.lst hg;obtain⟨bT,rv,pl,hz⟩:=I.list (.of hv);obtain⟨o,h1,h2,_⟩:=pl.isList;refine tl h1 h2 ?_ rfl;have:k=(C == "list"):=(aX hk).symm;rw[this];exact pP (λC=>(C == "list")=("list" == C||("list" == "bool" && @ax))) (@d)
   |ins _ _=>cases hk
   |se _=>cases hk
   | eG kvs=>
    have e:k=("dict" == C||("dict" == "bool" && @ax)):=by
     have:k=(C == "dict"):=(aX hk).symm;rw[this];exact pP (λC=>(C == "dict")=("dict" == C||("dict" == "bool" && @ax))) (@d)
    rcases ab l _ hg with ⟨kv,hv,rs⟩ |⟨kv,hv,rs⟩
    .obtain⟨_,_,vs,_,ob,_,_,h1,h2,_⟩:=BE I.bP hv;exact td h1 h2.1 e rfl
    .obtain⟨_,_,ys,_,ob,_,_,h1,h2,_⟩:=R5 I.bP hv;exact td h1 h2.1 e rfl
theorem zC (C) (hC:C∈["int","bool","list","tuple","dict","str"])   (hg:Gl X "isinstance") (hm:X.mg "isinstance"=none) (YA:Gl X y) (hmC:X.mg y=none) (hvC:df y=some (.type C)) (ha:dE X a ta) (hn:autoParam (y≠"__name__") Ad._auto_1) (pO:autoParam ((y == ("__debug__":Str))=false) Ad._auto_1)
  (he:autoParam (aZ [a,@ae] X.env=(false,eval a X.env)::aZ [@ae] X.env) Ar._auto_1) (qA:autoParam ((ik pos (aZ [S5 y py] X.env)).any @k=false) Ar._auto_1) (N6:autoParam (aZ [@ae] X.env=[(false,eval (@ae) X.env)]) Ar._auto_1):
  dE X (.Call (.Name "isinstance" p) [a,@ae] [] pos) (HM C ta):=by
 ext d;refine d6 (lz I.inv hg hm mn ?_);refine ic ?_ he qA;rw[he];show wpAny _ _ (vn ((false,eval a X.env)::ik pos (aZ [@ae] X.env))) _ _ s;refine eN (iK ha hE I h λv H1 d G1 u s1 I1 m1 r1 ja q1=>?_);rw[N6];show wpAny _ _ (vn [(false,eval (@ae) X.env)]) _ _ s1;refine eN (lz I1.inv YA hmC hvC (iJ ?_) hn pO)
 try dsimp only at q1
 split at q1
 .rename_i k hk;exact gQ (Rc C hC I1.inv I1.ab r1 ja hk q1) λ_ _ z=>z.trans m1
 .exact q1.elim
end
section
variable {X:Cx} {a b c e o:Expr} {es:@az} {ta tb tc te to:fB} {t:Cd} {pos p p2 apos jE:Pos} {x name:Str} {id T:String}
def KR(X:Cx)(id:String)(r:D->@e->Gp->DK->Prop):Prop :=
 ∀(pins:@t) (s:ay) (σ:L2.St) (H:Hp) (G:Gp) (x:V) (d:D) (xs:@w) (ds:@e) (v:Value) (us:@s) (Q:DK),@m->@aA->RelV x v->bW X.K H x d->Vals xs us->bo X.K H xs ds->r d ds G Q ->
  wpAny @o X.A (call (.builtin id) (v::us)) @aZ X.xe s
def SD(X:Cx)(T:String)(ty:D->@l):Prop:=∀(pins:@t) (s:ay) (σ:L2.St) (H:Hp) (G:Gp) (x:V) (d:D) (v:Value),@m->@aA->RelV x v->bW X.K H x d->ty d G ->
  s.TypeIs v T/\∀a,v=@S->∃ob,s.heap.get? a=some ob/\ob.dict=none
theorem FV:SD X "list" IJ:=by
 intro pins s σ H G x d v I ab r rd h;cases rd with
 |dF hq rs=>exact DY I r (.inl ⟨rfl,_,hq.sq⟩)
 |ref l=>
  unfold IJ at h;dsimp only at h;split at h
  .rename_i ds hg;obtain⟨vs,hv,rs⟩:=ab.lst hg;exact DY I r (.inl ⟨rfl,vs,.of hv⟩)
  .exact h.elim
 |_=>exact bI h
theorem v8:SD X "dict" MT:=by
 intro pins s σ H G x d v I ab r rd h;cases rd with
 |pM q rs=>
  cases r;obtain⟨t1,t2,_⟩:=Rf I (.inl ⟨_,.inr ⟨_,q⟩⟩);exact⟨t1,t2⟩
 |pL q rs=>
  cases r;obtain⟨t1,t2,_⟩:=Rf I (.inr ⟨_,.inr ⟨_,q⟩⟩);exact⟨t1,t2⟩
 | ref l=>
  unfold MT at h;dsimp only at h;split at h
  .rename_i kvs hg;rcases ab l _ hg with ⟨kv,hv,rs⟩ |⟨kv,hv,rs⟩
   .exact DY I r (.inr (.inr (.inl ⟨rfl,.inl ⟨kv,hv⟩⟩)))
   .exact DY I r (.inr (.inr (.inl ⟨rfl,.inr ⟨kv,hv⟩⟩)))
  .exact h.elim
 |_=>exact bI h
theorem XW   (pa:PlainAttrs T) (slot:Slot T name id) (hty:typeOf (.builtin id)=pure (.type "method_descriptor")) (ht:SD X T ty) (hm:KR X id r) (ho:dE X o to) (ha:xx X (e::es) t)
  (tI:autoParam (xN o name X.env (eval o X.env)=eval o X.env) Ar._auto_1)
  (YC:autoParam (((ik jE (aZ (e::es) X.env)).all (λx=>!x.1)&&(backToKw jE (keywordEach [] X.env)).all (λx=>x.1.isSome)
   && decide ((e::es).length+([]:List Keyword).length+(if([]:List Keyword).isEmpty then 0 else 1)<30))=true) Ar._auto_1)
  (w9:autoParam ((apos.endLine == jE.line)=true) Ar._auto_1) (hs:autoParam @bk Ar._auto_1) (Kc:autoParam ((ik jE @aX).any @k=false) Ar._auto_1):
  dE X (.Call (.Attribute o name apos) (e::es) [] jE) (oY ty r to t):=by
 ext d;refine wpAny_Call_method_late tI YC w9 rfl (iK ho hE I h ?_);rintro x H1 d G1 v s1 I1 m1 r1 ja ⟨hy,q1⟩;obtain⟨h1,h2⟩:=ht pins s1 σ H1 G1 x d v I1.inv I1.ab r1 ja hy;refine⟨T,id,pa,slot,hty,h1,h2,?_⟩;have hA:=ha jE E pins s1 σ H1 τ G1 _ hE I1 q1;rw[hs] at hA ⊢;refine mr (by show(false||(ik jE @aX).any @k)=false;rw[Kc]<;>rfl) (S6 ?_);exact gQ hA (by rintro us s2 ⟨vs,H2,ds,G2,oy,m2,r2,zi,q2⟩;exact gQ (hm pins s2 σ H2 G2 x d vs ds v us Q oy m2.ab r1 (ja.mono (m2.kp I1.ab)) r2 zi q2) λ_ _ z=>z.trans (m1.trans m2))
theorem JV:KR X "list.append" ka:=by
 intro pins s σ H G x d xs ds v us Q I ab rx rd Ta Gh q;unfold ka at q;split at q
 .rename_i l d';cases rd;obtain⟨w,rfl,rH⟩:=Gh.one;split at q
  .rename_i zs hg;obtain⟨hz,q⟩:=q;obtain⟨vs,hv,rs⟩:=ab.lst hg;exact gQ (C4 pins s σ H _ _ v us (Ce X.K H G Q) I rx Ta ⟨l,vs,w,rfl,rfl,hv,by rw[rs.length,cX];exact hz,_,_,.putL ab hg hv (rs.append (.cons rH .nil)),.eX,q⟩) λ_ _ z=>.of z
  ext e
 ext e
theorem Kr(l)(xs)(n)(b)(ys)(n2)(dd)(sl)(WA:¬(!xs.isEmpty&&kg (xs.size+ys.size))=true)(hx:xs.size<=bc)(Rp:xs.size+ys.size<=bc+1):
  Meets (Builtin.«list.extend» ⟨[.ref l,.ref b],[]⟩) (λ_ R s=>s.heap.get? l=some {cls:=@Q,dict:=none,data:=.seq xs n,slots:=#[]}/\@a2=some {cls:=@Q,dict:=dd,data:=.seq ys n2,slots:=sl}/\R (.ok (.ret dG)) {s with heap:=s.heap.update l (dZ λx=>x++ys),toks:=s.toks}) :=
 .of_wp λprog w A R s h=>by
  obtain⟨hp,g,d,tk,os⟩:=s;obtain⟨h1,h2,h3⟩:=h;have e1:=AutoSeq1.idx_int;have e2:=kK;have e3:=Jm;have e4:=AutoSeq1.sub_tuple_list;have e5:=AutoSeq1.sub_list_tuple;have hz':(xs++ys).size<=bc+1:=by rw[Array.size_append];exact Rp
  wp_walk using (jr h1 rfl (hz:=hx) (_hz':=hz')),bV h1,bV h2
  exact⟨_,rfl,h3⟩
theorem JU:KR X "list.extend" uA:=by
 intro pins s σ H G x d xs ds v us Q I ab rx rd Ta Gh q;unfold uA at q;split at q
 .rename_i l y;cases rd;obtain⟨w,rfl,rH⟩:=Gh.one;obtain⟨u,rfl,ru⟩:=Ta.one;split at q
  .rename_i zs ys hg Vu;obtain⟨hz,q⟩:=q;obtain⟨vs,hv,rs⟩:=ab.lst hg;obtain⟨b,ws,vE,rfl,PC,Fq,hb,_⟩:=oh I ab ru rH Vu;cases rx;obtain⟨z,bT,n,r,hl,e⟩:=I.aax hv;obtain⟨⟨cl,dd,dt,sl⟩,ho,RI,n2,hdt⟩:=hb;simp only at RI hdt;subst RI hdt;have h1:=PC.length;have h2:=Fq.length;have h3:=rs.length;have h4:=r.length;have h5:bc=16777216:=cX;have h6:SZ=16777216:=rfl;have hsz:bT.toArray.size+vE.toArray.size<=bc:=by rw[bp,bp];lia
   have WA:¬ (!bT.toArray.isEmpty&&kg (bT.toArray.size+vE.toArray.size))=true:=by
    rw[QA hsz,La];exact eS
   refine call_meets F.slot_list_extend ⟨_,e,rfl⟩ F.entry_list_extend (F.args_list_extend_2 _ _) (Kr l bT.toArray n b vE.toArray n2 dd sl WA (by rw[bp];lia) @c) ⟨e,ho,?_⟩;refine⟨.eX,_,.eX,_,I.aay (its':=bT++vE) hv e @i (r.append PC) ?_,.putL ab hg hv (rs.append Fq),rfl,.eX,q⟩;rw[aB];lia
  ext e
 ext e
theorem UN:dE X (.Dict [] [] pos) hX:=by
 ext d;exact gQ (Qe pins s σ H (Ce X.K H G Q) I.inv λp hp=>⟨_,_,.new I.ab hp (.dk bM .nil),.ref _,h p (I.ab.free hp)⟩) λ_ _ z=>.of z
end
noncomputable def gH(env:Env):List (Str×u4)->List (Str×Addr)->List (Str×Addr)
 |[],acc=>acc
 |(n,k)::r,acc=>if k=.free then gH env r ((n,(env.cells.lookup n).getD 0)::acc) else gH env r acc
theorem vL(env)(f)(hf:∀n k c,f (n,k) c=if(k == k8)=true then(cellOf env n >>= λa=>pure (uT ((n,a)::c))) else pure (uT c)):
  ∀(ns:List (Str×u4)) (acc:List (Str×Addr)),(∀x∈ns,x.2=.free->∃c,env.cells.lookup x.1=some c)->forIn ns acc f=(pure (gH env ns acc):Sem (List (Str×Addr)))
 |[],acc,_=>rfl
 | (n,k)::r,acc,h=>by
  rw[List.forIn_cons,hf];have hr:∀x∈r,x.2=.free->∃c,env.cells.lookup x.1=some c:=λx hx=>h x (aI _ hx);by_cases hk:k=.free
  .subst hk;obtain⟨c,hc⟩:=h (n,.free) cw rfl;have ec:cellOf env n=pure c:=by unfold cellOf;rw[hc]
   rw[if_pos (@d),ec,pure_bind,pure_bind];show forIn r ((n,c)::acc) f=_;rw[vL env f hf r _ hr];show _=(pure (gH env ((n,.free)::r) acc):Sem (List (Str×Addr)));rw[gH,if_pos rfl,hc];rfl
  .rw[if_neg (by simpa using hk),pure_bind];show forIn r acc f=_;rw[vL env f hf r _ hr];show _=(pure (gH env ((n,k)::r) acc):Sem (List (Str×Addr)));rw[gH,if_neg hk]
theorem CD(h:∀x∈scope.names,x.2=.free->∃c,env.cells.lookup x.1=some c):closureFor scope env=pure (gH env scope.names []):=by
 unfold closureFor;dsimp only;rw[vL env _ (λn k c=>?_) scope.names [] h]
 .rfl
 .by_cases hk:(k == k8)=true
  .simp only[hk,if_true]
  .simp only[hk,if_false,au]
theorem wa:∀{ns:List (Str×u4)} {acc:List (Str×Addr)},(∀y∈ns,y.2=.free->∃c,env.cells.lookup y.1=some c)->(∀y c,acc.lookup y=some c->env.cells.lookup y=some c)->(gH env ns acc).lookup x=some c->env.cells.lookup x=some c
 |[],_,_,ha,e=>ha _ _ e
 | (n,k)::r,acc,h,ha,e=>by
  have hr:∀y∈r,y.2=.free->∃c,env.cells.lookup y.1=some c:=λy hy=>h y (aI _ hy);unfold gH at e;by_cases hk:k=.free
  .rw[if_pos hk] at e;refine wa hr (λy c' q=>?_) e;rw[Fj] at q;by_cases hy:(y == n)=true
   .rw[hy] at q;have e1:y=n:=eq_of_beq hy;subst e1;obtain⟨c0,hc0⟩:=h (y,k) cw hk;rw[hc0] at q ⊢;exact q
   .have Wx:(y == n)=false:=by simpa using hy
    rw[Wx] at q;exact ha y c' q
  .rw[if_neg hk] at e;exact wa hr ha e
theorem qL:∀{ns:List (Str×u4)} {acc:List (Str×Addr)},((x,k8)∈ns\/∃c,acc.lookup x=some c)->∃c,(gH env ns acc).lookup x=some c
 |[],_,h=>by rcases h with h |h;exact absurd h @i;exact h
 | (n,k)::r,acc,h=>by
  unfold gH;have grow:∀a,(∃c,acc.lookup x=some c)->∃c,((n,a)::acc).lookup x=some c:=λa Ct=>by
   obtain⟨c,hc⟩:=Ct;rw[Fj];by_cases hy:(x == n)=true
   .rw[hy];exact⟨_,rfl⟩
   .have Wx:(x == n)=false:=by simpa using hy
    rw[Wx];exact⟨c,hc⟩
  by_cases hk:k=.free
  .rw[if_pos hk];refine qL ?_;rcases h with h |h
   .rcases List.mem_cons.mp h with e |h
    .injection e with e1 e2
     subst e1;exact .inr ⟨(env.cells.lookup x).getD 0,by rw[Fj];simp⟩
    .exact .inl h
   .exact .inr (grow _ h)
  .rw[if_neg hk];refine qL ?_;rcases h with h |h
   .rcases List.mem_cons.mp h with e |h
    .injection e with e1 e2
     exact absurd e2.symm hk
    .exact .inl h
   .exact .inr h
def zL(X:Cx)(C:Addr)(x:Value)(s':ay):Prop :=
 ∃m,s'.heap.Ns C m/\∀h',fI C s'.heap h'->∀HU:Env,HU.locals=C->wpAny @o X.A (passOn "comprehension.variables-let-go" x HU:Sem Value) (@j) X.xe {s' with heap:=h'}
abbrev cc(X:Cx)(N:@y)(scope:Scope)(C:Addr)(s:ay)(H:Hp)(fp:@ay):Cx :=
 {X with env:=compEnvC scope (gH X.env scope.names []) C X.env,N:=N,ji:=s,OD:=H,outer:=X.stack,stack:=X.stack,ex:=fp,fn:=λ_=>false,pn:=[],xe:=notedBy @o X.A X.env (zL X C)}
theorem wm(h:(IX scope env).names.lookup x=@aL\/(IX scope env).names.lookup x=some .free)(rK:∀y∈scope.names,y.2≠.cell):(x,k8)∈scope.names:=by
 have go:∀k,(IX scope env).names.lookup x=some k->k=.cell\/k=.free->(x,k8)∈scope.names:=by
  intro k hk hkk;have hm:=jh hk;unfold IX at hm;dsimp only at hm;obtain⟨⟨n,j⟩,hj,e⟩:=List.mem_map.mp hm;dsimp only at e;by_cases hc:(j == k8&&env.scope.kind == .function&&env.kindOf n == @aL)=true
  .rw[if_pos hc] at e;rw[aJ,aJ] at hc;injection e with e1 e2
   have ej:j=.free:=eq_of_beq hc.1.1;rw[ej,e1] at hj;exact hj
  .rw[if_neg hc] at e;injection e with e1 e2
   subst e1;rcases hkk with r |r
   .exact absurd (e2.trans r) (rK _ hj)
   .rw[e2.trans r] at hj;exact hj
 rcases h with h |h
 .exact go _ h (@W)
 .exact go _ h (.inr rfl)
section
variable {X:Cx} {N:@y} {scope:Scope} {fp:@ay} {pins:@t} {σ:L2.St} {H:Hp} {s:ay} {C:Addr}
theorem Y5(I:@m)(rK:∀y∈scope.names,y.2≠.cell)(Dk:scope.kind=.function)(rJ:∀y∈scope.names,y.2=.free->X.env.kindOf y.1=@aL)(hC:s.heap.objs.size<=C)(O0:∀b∈fp,lE X pins H b/\b<s.heap.objs.size):(cc X N scope C s H fp).Ok:=by
 have RI:∀y∈scope.names,y.2=.free->∃c,X.env.cells.lookup y.1=some c:=λy hy hf=>I.ok.has _ (.inl (rJ y hy hf));have Xb:∀x c,(gH X.env scope.names []).lookup x=some c->@bg:=λx c e=>wa RI (λy c q=>by simp at q) e;refine⟨I.ok.mod,Dk,I.ok.glob,I.ok.blt,hC,λx y c h1 h2=>I.ok.inj x y c (Xb x c h1) (Xb y c h2),λx hx=>?_,λx c h=>absurd h @i,I.ok.hd,I.ok.frames,@W,λb hb=>?_,I.bs,bh I.ok.Sv I.sz,λb o e hb=>?_,λb hb=>?_,I.stack,I.zy⟩
 .exact qL (.inl (wm hx rK))
 .obtain⟨⟨f0,f1,f2,f3,f4,f5⟩,yf⟩:=O0 b hb;exact⟨br (bu yf hC),λx c e=>f4 x c (Xb x c e)⟩
 .obtain⟨⟨f0,f1,f2,f3,f4,f5⟩,yf⟩:=O0 b hb;rcases f3 with f3 |f3
  .exact I.ok.JR b o e f3
  .exact absurd (bu (aO e) (bh I.ok.Sv f3)) (ie _)
 .obtain⟨⟨f0,f1,f2,f3,f4,f5⟩,yf⟩:=O0 b hb;intro z;rcases List.mem_cons.mp (I.Jt b z) with e |e
  .exact f1 e
  .exact f2 e
theorem VL{fr:List Nat}(I:@m)(ok:(cc X N scope s.heap.objs.size s H fp).Ok)(YF:∀y∈scope.names,y.2≠.cell)(rJ:∀y∈scope.names,y.2=.free->X.env.kindOf y.1=@aL)(hN:N.length=m+fr.length)
  (RF:∀j i x,fr[j]?=some i->N[m+j]?=some x->X.N[i]?=some x/\@bs=@aL/\(IX scope X.env).names.lookup x=@aL) (LZ:∃mm,rV.Ns s.heap.objs.size mm) (hk:∀b o,@T->rV.get? b=@g):
  Inv (cc X N scope s.heap.objs.size s H fp) [] (aP m none++fr.map λi=>(σ[i]?).getD none) H {s with heap:=rV,toks:=tk}:=by
 have RI:∀y∈scope.names,y.2=.free->∃c,X.env.cells.lookup y.1=some c:=λy hy hf=>I.ok.has _ (.inl (rJ y hy hf));have Xb:∀x c,(gH X.env scope.names []).lookup x=some c->@bg:=λx c e=>wa RI (λy c q=>by simp at q) e;obtain⟨mm,LZ⟩:=LZ;refine⟨ok,rfl,I.bare,Un.kept hk,⟨mm,LZ,λi x v h1 h2 h3=>?_⟩,λx c e=>?_,I.bP.fresh @D,λx c e=>?_,λp hp=>absurd hp @i,I.bP.kept hk,?_⟩
 ·by_cases hi:i<m
  .rw[dc (by simpa using hi),lZ] at h2;split at h2<;>cases h2
  .obtain⟨j,rfl⟩:∃j,i=m+j:=⟨i-m,@f⟩;rw[cy @i,fX,vp,bx] at h2;cases hj:fr[j]? with
   |none=>rw[hj] at h2;cases h2
   | some k=>
    rw[hj] at h2;have RP:(σ[k]?).getD none=@Y:=@a_
    have hk':σ[k]?=some (@Y):=by
     cases q:σ[k]? with
     |none=>rw[q] at RP;cases RP
     |some o=>rw[q] at RP;simp at RP;rw[RP]
    obtain⟨e1,e2,e3⟩:=RF j k x hj h1;obtain⟨m0,hn0,hl0⟩:=I.loc;obtain⟨u,r,l⟩:=hl0 k x v e1 hk' (.inr (.inl e2));refine⟨u,r,.inr ⟨.inl e3,?_⟩⟩;rcases l with ⟨l1,_⟩ |⟨_,c,hc,rK⟩
    .have:@bs=@aH:=l1;rw[e2] at this;cases this
    .have hx:(x,k8)∈scope.names:=wm (.inl e3) YF;obtain⟨c',L7⟩:=qL (env:=X.env) (x:=x) (ns:=scope.names) (acc:=[]) (.inl hx);have:=Xb x c' L7;rw[hc] at this;have ec:c=c':=aX this;subst ec;obtain⟨oc,Tf,hd⟩:=rK;exact⟨c,L7,oc,hk _ _ Tf,hd⟩
 .obtain⟨v,oc,Tf,hd⟩:=I.cell x c (Xb x c e);exact⟨v,oc,hk _ _ Tf,hd⟩
 .exact I.jP x c (Xb x c e)
 .rw[aB,fX,ar];exact hN.symm
theorem EV{prog:bC}{w:World}{A:cH}{R:Result->@X}{s:ay}{elt target iter:Expr}{ifs:@az}{sc:Scope}{pos:Pos}{it acc:Value}{env:Env}{Ee:@C}(hEe:∀e s,Ee e s->notedBy @J A env (λe s'=>R (.error e) s') e s)(J:Nat->@X)
  (turn:∀n s,J n s->wpAny @J A (sk it) (λr fN=>match r with
   |none=>R (.ok .next) fN
   | some v=>wpAny @J A (zV target it v) (λ_ ZX=>wpAny @J A (CM target env v) (λ_ uU=>
     wpAny @J A (forIn ifs true λc r=>if r=true then do let ok ← isTrue c env (eval c env);pure (uT ok) else pure (uT r)) (λk Ap=>
      if k=true then wpAny @J A (eval elt env) (λx MZ=>wpAny @J A (call (.builtin "list.append") [acc,x]) (λ_ Pt=>∃m,m<n/\J m Pt) Ee MZ) Ee Ap
      else ∃m,m<n/\J m Ap) Ee uU) Ee ZX) Ee fN) Ee s) (n:Nat) (h:J n s):
  xM @J A (.compLoop (.ListComp elt [⟨target,iter,ifs,0⟩] sc pos) 0 it acc env) R s:=by
 have no:∀{α:Type} {t:Sem α} {Q:α->@X} {s:ay},wpAny @J A t Q Ee s->wpAny @J A t Q (notedBy @J A env λe s'=>R (.error e) s') s:=λh=>gP h (λ_ _ q=>q) hEe;refine codeAny_loop rfl J (λn s hJ=>?_) n h;show wpAny _ A ((compTurn (.ListComp elt [⟨target,iter,ifs,0⟩] sc pos) 0 it acc env).onRaise (λx=>do pV x env;theTreesLotGoes x)) _ _ s;refine wpAny_noted ?_;rw[compTurn_list];refine ag (FD (ag (gQ (no (turn n s hJ)) λr fN rV=>?_)));cases r with
 |none=>exact az rV
 |some v=>
  refine ag (gQ (no rV) λ_ uU Ro=>ag (gQ (no Ro) λ_ Ap adS=>ag (gQ (no adS) λk MZ aaL=>?_)));cases k with
  |false=>exact az ⟨rfl,aaL⟩
  |true=>exact ag (ag (gQ (no aaL) λx Pt adR=>ag (gQ (no adR) λ_ ahq adQ=>az (az ⟨rfl,adQ⟩))))
def CompEnd(X:Cx)(pins:@t)(σ:L2.St)(H:Hp)(G:Gp)(Q:DK)(C Dd:Addr)(s':ay):Prop :=
 ∃m H' G',Inv X pins σ H' s'/\s'.heap.Ns C m/\lE X pins H' C/\Mv X.K H G H' G'/\Q (.ref Dd) G'
inductive O1 (Xc:Cx):@az->Option yy->Prop
 |none:O1 Xc [] none
 |some {c:Expr} {t:yy}:Fy Xc c t->O1 Xc [c] (some t)
theorem DD{τ:iE}{G G2:Gp}{H2:Hp}{s2:ay}{tg elt iter:Expr}{ifs:@az}{pos:Pos}{m:Nat}{fr:List Nat}{E:k7}{g:y8}{c:Option yy}{te:fB}{J:It}{tn:Nat->Heap->Prop}{it:Addr}{ds:@e}{ok:@l}{Q:DK}{Rr:Value->Addr->Result->@X}{E0:@C}
  (hc:@aI) (rK:∀y∈scope.names,y.2≠.cell) (Dk:scope.kind=.function) (rJ:∀y∈scope.names,y.2=.free->X.env.kindOf y.1=@aL) (hN:N.length=m+fr.length)
  (RF:∀j i x,fr[j]?=some i->N[m+j]?=some x->X.N[i]?=some x/\@bs=@aL/\(IX scope X.env).names.lookup x=@aL)
  (hg:∀C s H fp,yz @aV tg g) (hi:∀C s H fp,O1 @aV ifs c) (he:∀C s H fp,dE @aV elt te)
  (I:I2 X pins σ H2 τ G2 s2) (m2:Mv X.K H G H2 G2) (T:Turn X.prog X.w X.K tg J fp it tn) (IM:tn 0 s2.heap) (f2:∀b∈fp,lE X pins H2 b) (wk:WW X.K J H2 ds ok) (hz:ds.length<=SZ)
  (hL:∀s H,@m->(∀b∈fp,lE X pins H b/\b<s.heap.objs.size)->Lk (cc X N scope s.heap.objs.size s H fp) E) (q:iD g c te ok ds E (tW m fr τ) G2 [] λxs G3=>fy G3 (.lst xs) Q)
  (fin:∀C s',CompEnd X pins σ H G Q C s2.heap.objs.size s'->Rr (.ref s2.heap.objs.size) C (.ok .next) s') (aby:∀C e s',zL X C e s'->Rr (.ref s2.heap.objs.size) C (.error e) s'):
  wpAny @o X.A (newList []) (λacc Ap=>wpAny @o X.A (newFunctionEnv scope X.env.globals (gH X.env scope.names []) [] X.env.qual none .none (some X.env)) (λHU MZ=>
   xM @o X.A (.compStart @a7 0 (.ref it) acc {HU with scope:=IX scope X.env}) (Rr acc HU.locals) MZ) E0 Ap) E0 s2:=by
 have sz:bc=16777216:=cX;have yh:H2 s2.heap.objs.size=none:=I.inv.bP.fresh @D;have YR:G2 s2.heap.objs.size=none:=I.ab.free yh;refine cG (wpAny_newFunctionEnv rK (by intro y hy;simp at hy) (λrV Rz Rt=>?_) Dk);dsimp only at Rz Rt ⊢;have I3:Inv X pins σ (upd H2 s2.heap.objs.size (.lst [])) {s2 with heap:=s2.heap.push {cls:=@Q,data:=.seq ([]:@s).toArray},toks:=s2.toks}:=I.inv.adH (ys:=[]) .nil (cm _);generalize hs3:({s2 with heap:=s2.heap.push {cls:=@Q,data:=.seq ([]:@s).toArray},toks:=s2.toks}:ay)=s3 at I3;generalize hH3:upd H2 s2.heap.objs.size (.lst [])=H3 at I3;have eH3:∀b,b≠s2.heap.objs.size->H3 b=H2 b:=λb hb=>by rw[<-hH3,bH hb]
 have Hn:s3.heap=s2.heap.push {cls:=@Q,data:=.seq ([]:@s).toArray}:=by rw[<-hs3]
 have Z2:s3.heap.objs.size=s2.heap.objs.size+1:=by rw[Hn,nj]
 have RG:∀b∈fp,b<s2.heap.objs.size:=λb hb=>by
  obtain⟨o,e,_⟩:=T.obj _ _ IM b hb;exact aO e
 have YB:∀b∈fp,lE X pins H3 b/\b<s3.heap.objs.size:=λb hb=>by
  have hb2:=RG b hb;obtain⟨f0,f1⟩:=f2 b hb;exact⟨⟨by rw[eH3 b (br hb2)];exact f0,f1⟩,bu hb2 (by rw[Z2];exact Jf _)⟩
 have okc:(@a8).Ok:=Y5 I3 rK Dk rJ @D YB;have hLc:=hL s3 H3 I3 YB;have WB:∀b o,s3.heap.get? b=@g->rV.get? b=@g:=λb o e=>by
  have hb:b<s3.heap.objs.size:=aO e;refine Rt.extBut b o ?_ (aF _ ?_)
  .rw[<-Hn];exact br hb
  .rw[<-Hn];exact e
 have aeb:∃mm,rV.Ns s3.heap.objs.size mm:=⟨_,by rw[Hn];exact Rz⟩;have I4:=VL (tk:=s3.toks+([]:List (Str×Value)).length) I3 okc rK rJ hN RF aeb WB;have adM:Kp H2 H3:=by rw[<-hH3];exact .new yh
 have WV:kc X.K H3 G2:=by rw[<-hH3];exact(Mv.Ft I.ab yh).ab
 have mv3:Mv X.K H2 G2 H3 G2:=by rw[<-hH3];exact .Ft I.ab yh
 have st3:MK X.K H3 (aP m none++fr.map λi=>(σ[i]?).getD none) (tW m fr τ):=by
  refine⟨by unfold tW;rw[aB,aB,ar,ar,fX,fX],λi d h2=>?_⟩;unfold tW at h2;by_cases hi:i<m
  .rw[dc (by simpa using hi),lZ] at h2;split at h2<;>cases h2
  .obtain⟨j,rfl⟩:∃j,i=m+j:=⟨i-m,@f⟩;rw[cy @i,fX,vp,bx] at h2;rw[cy @i,fX,vp,bx];cases hj:fr[j]? with
   |none=>rw[hj] at h2;cases h2
   | some k=>
    rw[hj] at h2;have RP:(τ[k]?).getD none=@O:=@a_
    have hk':τ[k]?=some (@O):=by
     cases qq:τ[k]? with
     |none=>rw[qq] at RP;cases RP
     |some o=>rw[qq] at RP;simp at RP;rw[RP]
    obtain⟨v,e1,e2⟩:=I.st.at' k d hk';exact⟨v,by simp[e1],e2.mono adM⟩
 have hD3:H3 s2.heap.objs.size=some (.lst []):=by rw[<-hH3,bM]
 have Z0:tn 0 rV:=T.keep _ _ _ IM λb hb o e=>WB b o (by rw[Hn];exact aF _ e);have Px:∀{Hc:Hp},(∀b∈fp,Hc b=none)->∀b∈fp,lE (@a8) [] Hc b:=λhn b hb=>
  ⟨hn b hb,(okc.exf b hb).1,okc.Oe b hb,.inl hb,λx c e=>(okc.exf b hb).2 x c e,λp hp=>absurd hp @i⟩
 have neD:∀b∈fp,b≠s2.heap.objs.size:=λb hb=>br (RG b hb);have loop:xM @o X.A (.compLoop @a7 0 (.ref it) (.ref s2.heap.objs.size) (@a8).env) (Rr (.ref s2.heap.objs.size) s3.heap.objs.size)
   {s3 with heap:=rV,toks:=s3.toks+([]:List (Str×Value)).length}:=by
  refine EV (Ee:=(@a8).xe) (λe s h=>gP h (λ_ _ q=>aby _ _ _ q) λ_ _ q=>aby _ _ _ q) (λn s'=>∃i S8 Hc Pd Gc vO xu,I2 (@a8) [] S8 Hc Pd Gc s'/\Gc s2.heap.objs.size=none/\Hc s2.heap.objs.size=some (.lst vO)/\bo X.K Hc vO xu/\xu.length<=i/\Mv X.K H2 G2 Hc Gc/\tn i s'.heap/\(∀b∈fp,Hc b=none) /\
   n=ds.length-i/\i<=ds.length/\iD g c te ok (ds.drop i) E Pd Gc xu λxs G3=>fy G3 (.lst xs) Q) ?_ ds.length
   ⟨0,_,H3,_,G2,[],[],⟨I4,st3,WV⟩,YR,hD3,.nil,aG _,mv3,Z0,λb hb=>by rw[eH3 b (neD b hb)];exact(f2 b hb).1,rfl,cm _,q⟩
  rintro n s4 ⟨i,S8,Hc,Pd,Gc,vO,xu,Ic,gD,hD,rA,hA,mc,stc,frc,rfl,hle,wq⟩;have kpc:Kp H2 Hc:=mc.kp I.ab;by_cases yf:i<ds.length
  .rw [ip yf] at wq;obtain⟨okG,wq⟩:=wq;obtain⟨go,yl⟩:=(wk i Hc Gc kpc Ic.ab okG).1 ds[i] (by simp[yf]);refine gQ (T.item (@a8) rfl rfl rfl hc i [] s4 S8 Hc _ Ic.inv (Px frc) stc go) ?_;rintro r s5 ⟨u,hr,h5⟩;subst hr;refine gQ h5 ?_;rintro _ s6 ⟨x,H6,I6,r6,y6,st6,fr6⟩;obtain⟨rd6,m6⟩:=yl x H6 y6;have I6':=I6.pinned (Px fr6) (T.obj _ _ st6);have J6:I2 (@a8) ([]++tj fp s6.heap) S8 H6 Pd Gc s6:=⟨I6',Ic.st.mono (m6.kp Ic.ab),m6.ab⟩;have back:∀{ZN:L2.St} {H9:Hp} {Zk:iE} {G9:Gp} {s9:ay} {aV:@w} {aD:@e},I2 (@a8) ([]++tj fp s6.heap) ZN H9 Zk G9 s9->Mv X.K H2 G2 H9 G9->G9 s2.heap.objs.size=none->H9 s2.heap.objs.size=some (.lst aV)->bo X.K H9 aV aD->aD.length<=i+1 ->
     (iD g c te ok (ds.drop (i+1)) E Zk G9 aD λxs G3=>fy G3 (.lst xs) Q)->∃mm,mm<ds.length-i/\∃i S8 Hc Pd Gc vO xu,I2 (@a8) [] S8 Hc Pd Gc s9/\Gc s2.heap.objs.size=none/\Hc s2.heap.objs.size=some (.lst vO)/\bo X.K Hc vO xu/\xu.length<=i /\
      Mv X.K H2 G2 Hc Gc/\tn i s9.heap/\(∀b∈fp,Hc b=none)/\mm=ds.length-i/\i<=ds.length/\iD g c te ok (ds.drop i) E Pd Gc xu λxs G3=>fy G3 (.lst xs) Q:=λ{ZN H9 Zk G9 s9 aV aD} I9 m9 g9 h9 r9 l9 n9=>by
    refine⟨ds.length-(i+1),@f,i+1,ZN,H9,Zk,G9,aV,aD,⟨I9.inv.v3,I9.st,I9.ab⟩,g9,h9,r9,l9,m9,T.keep _ _ _ st6 λb hb o e=>(I9.inv.pin (b,o) (cK _ (cK _ (qR hb e)))).1,λb hb=>?_,rfl,yf,n9⟩;obtain⟨o,e,d⟩:=T.obj _ _ st6 b hb;exact(I9.inv.pin (b,o) (cK _ (cK _ (qR hb e)))).2.1
   have mc6:=mc.trans m6;have hD6:=m6.keep _ _ hD gD;refine gQ (hg _ _ _ _ E _ s6 S8 H6 Pd Gc x ds[i] u _ hLc J6 r6 rd6 wq) ?_;rintro _ s7 ⟨OW,H7,OV,G7,I7,m7,q7⟩;have hD7:=m7.keep _ _ hD6.1 gD;have mc7:=mc6.trans m7;have rA7:=rA.mono ((m6.trans m7).kp Ic.ab);have abE:∀(H8:Hp) (G8:Gp) (s8:ay),I2 (@a8) ([]++tj fp s6.heap) OW H8 OV G8 s8->Mv X.K H7 G7 H8 G8->(te E OV G8 λy G9=>iD g c te ok (ds.drop (i+1)) E OV G9 (xu++[y]) λxs G3=>fy G3 (.lst xs) Q) ->
     wpAny @o X.A (eval elt (@a8).env) (λy MZ=>wpAny @o X.A (call (.builtin "list.append") [.ref s2.heap.objs.size,y]) (λ_ Pt=>∃mm,mm<ds.length-i/\∃i S8 Hc Pd Gc vO xu,I2 (@a8) [] S8 Hc Pd Gc Pt/\Gc s2.heap.objs.size=none/\Hc s2.heap.objs.size=some (.lst vO)/\bo X.K Hc vO xu/\xu.length<=i /\
      Mv X.K H2 G2 Hc Gc/\tn i Pt.heap/\(∀b∈fp,Hc b=none)/\mm=ds.length-i/\i<=ds.length/\iD g c te ok (ds.drop i) E Pd Gc xu λxs G3=>fy G3 (.lst xs) Q) (@a8).xe MZ) (@a8).xe s8:=λH8 G8 s8 I8 m8 q8=>by
    refine iK (he _ _ _ _) hLc I8 q8 λv H9 d9 G9 u9 s9 I9 m9 r9 rd9 q9=>?_;have m79:=m8.trans m9;have hD9:=m79.keep _ _ hD7.1 hD7.2;have rA9:=rA7.mono (m79.kp I7.ab);have mc9:=mc7.trans m79;refine gQ (C4 (X:=@a8) _ s9 OW H9 (.ref s2.heap.objs.size) [v] _ [u9] (λ_ H'=>H'=upd H9 s2.heap.objs.size (.lst (vO++[v]))) I9.inv rfl (.cons r9 .nil)
     ⟨_,vO,v,rfl,rfl,hD9.1,by rw[rA.length,sz];have:SZ=16777216:=rfl;lia,rfl⟩) ?_
    rintro _ s10 ⟨v10,H10,I10,_,e10⟩;subst e10;have kpA:Kp H9 (upd H9 s2.heap.objs.size (.lst (vO++[v]))):=.putL hD9.1;have abA:kc X.K (upd H9 s2.heap.objs.size (.lst (vO++[v]))) G9:=λa g' e=>by
     have ne:a≠s2.heap.objs.size:=by rintro rfl;rw[hD9.2] at e;cases e
     exact(I9.ab a g' e).mono kpA (bH ne)
    have mA:Mv X.K H2 G2 (upd H9 s2.heap.objs.size (.lst (vO++[v]))) G9:=⟨λa o e n=>by
      have ne:a≠s2.heap.objs.size:=eD e yh;obtain⟨e1,e2⟩:=mc9.keep a o e n;exact⟨by rw[bH ne];exact e1,e2⟩,λa n=>by
      by_cases ha:a=s2.heap.objs.size
      .rw[ha,bM];simp
      .rw[bH ha];exact mc9.jj a n,abA⟩
    exact back ⟨I10,I9.st.mono kpA,abA⟩ mA hD9.2 bM ((rA9.append (.cons rd9 .nil)).mono kpA) (by rw[aB,bU];lia) q9
   cases hi s3.heap.objs.size s3 H3 fp with
   |none=>
    refine wpAny_tests_nil ?_;rw[if_pos rfl];exact abE H7 G7 s7 I7 (.refl I7.ab) q7
   | some abc=>
    refine wpAny_tests_one (MY abc hLc I7 q7 λk H8 G8 s8 I8 m8 q8=>?_);cases k with
    |true=>
     rw[if_pos rfl] at q8 ⊢;exact abE H8 G8 s8 I8 m8 q8
    |false=>
     rw[if_neg eS] at q8 ⊢;have hD8:=m8.keep _ _ hD7.1 hD7.2;exact back I8 (mc7.trans m8) hD8.2 hD8.1 (rA7.mono (m8.kp I7.ab)) @c q8
  .have hn:ds.length<=i:=@f
   rw[mE hn] at wq;obtain⟨okG,qn⟩:=wq;have stop:=(wk i Hc Gc kpc Ic.ab okG).2 hn;refine gQ (T.done (@a8) rfl rfl rfl hc i [] s4 S8 Hc _ Ic.inv (Px frc) stc stop) ?_;rintro r s5 ⟨hr,I5⟩;subst hr;refine fin s3.heap.objs.size s5 ?_;obtain⟨mm,aec,_⟩:=I5.loc;have hC5:Hc s3.heap.objs.size=none:=I5.free;have I6:Inv X pins σ Hc s5:=by
    obtain⟨h5,g5,d5,t5,o5⟩:=s5;have eo:o5=s3.os:=I5.os;subst eo;exact I3.call (h':=h5) (g':=g5) (d':=d5) (t':=t5) (ch:=fp) I5.base I5.bP I5.bare λb hb=>by
     obtain⟨⟨f0,f1,f2',f3,f4,f5⟩,hl⟩:=YB b hb;exact⟨f3,f1,f4,f5⟩
   have mvF:Mv X.K H2 G2 Hc (di Gc s2.heap.objs.size (.lst xu)):=⟨λa o e n=>by
     have ne:a≠s2.heap.objs.size:=eD e yh;obtain⟨e1,e2⟩:=mc.keep a o e n;exact⟨e1,by rw[bO ne];exact e2⟩,mc.jj,λa g' e=>by
     by_cases ha:a=s2.heap.objs.size
     .subst ha;rw[av] at e;cases e;exact⟨vO,hD,rA⟩
     .rw[bO ha] at e;exact Ic.ab a g' e⟩
   exact⟨mm,Hc,_,I6,aec,I3.Bp @D hC5,m2.trans mvF,qn _ gD⟩
 have all:xM @o X.A (.compStart @a7 0 (.ref it) (.ref s2.heap.objs.size) (@a8).env) (Rr (.ref s2.heap.objs.size) s3.heap.objs.size)
   {s3 with heap:=rV,toks:=s3.toks+([]:List (Str×Value)).length}:=codeAny_compStart_list loop (T.self _ 0 _ _ _ Z0 loop)
 subst hs3;exact all
end
section
variable {X:Cx} {N:@y} {scope:Scope} {tg elt iter:Expr} {ifs:@az} {pos:Pos} {m:Nat} {fr:List Nat} {wi:Fx} {g:y8} {c:Option yy} {te:fB}
structure vQ(X:Cx)(N:@y)(scope:Scope)(m:Nat)(fr:List Nat):Prop where
 cell:∀y∈scope.names,y.2≠.cell
 kind:scope.kind=.function
 names:∀y∈scope.names,y.2=.local->scope.names.lookup y.1=@aH
 free:∀y∈scope.names,y.2=.free->X.env.kindOf y.1=@aL
 len:N.length=m+fr.length
 at':∀j i x,fr[j]?=some i->N[m+j]?=some x->X.N[i]?=some x/\@bs=@aL/\(IX scope X.env).names.lookup x=@aL
theorem vQ.closed(k:vQ X N scope m fr)(I:@m):closureFor scope X.env=pure (gH X.env scope.names []) :=
 CD λy hy hf=>I.ok.has _ (.inl (k.free y hy hf))
theorem Nt(ε:k7->k7)(hL:∀E pins σ s H fp,Lk X E->@m->(∀b∈fp,lE X pins H b/\b<s.heap.objs.size)->Lk (cc X N scope s.heap.objs.size s H fp) (ε E))(hc:@aI)(k:vQ X N scope m fr)(hi:xJ X tg iter wi)(hg:∀C s H fp,yz @aV tg g)(Hm:∀C s H fp,O1 @aV ifs c)(he:∀C s H fp,dE @aV elt te)
  (hs:autoParam (∀x,eQ iter X.env x=pure x) Ai._auto_1):dE X @a7 (λE τ G Q=>wi E τ G λds ok G1=>ds.length<=SZ/\iD g c te ok ds (ε E) (tW m fr τ) G1 [] λxs G2=>fy G2 (.lst xs) Q):=by
 ext d;rw[eval_ListComp];refine wpAny_comprehension_free (use:=none) rfl hs (k.closed I.inv) k.kind k.names (gQ (hi E pins s σ H τ G _ hE I h) λxv fN rV=>gQ rV λWv uU Ro=>?_);obtain⟨it,fp,tn,J,H2,G2,ds,ok,e,oy,m2,T,IM,f2,wk,hz,q⟩:=Ro;subst e;refine DD (Rr:=λacc C=>compPost @o X.A X.xe none @aZ acc C) hc k.cell k.kind k.free k.len k.at' hg Hm he (I.mv oy m2) m2 T IM f2 wk hz (λs H=>hL E pins σ s H fp hE) q ?_ (λ_ _ _ z=>z);rintro C s' ⟨mm,H',G',I',LZ,fpC,mv,q'⟩;refine⟨mm,LZ,λh' Ez=>?_⟩;obtain⟨f0,f1,_,f3,f4,f5⟩:=fpC;exact⟨.ref _,H',.ref _,G',I'.turned (t':=s'.toks) (λb o hb e=>Ez.extBut b o hb e) f0 f1 f3 f4 f5,mv,rfl,.ref _,q'⟩
theorem Nr(hc:@aI)(k:vQ X N scope m fr)(hi:xJ X tg iter wi)(hg:∀C s H fp,yz @aV tg g)(Hm:∀C s H fp,O1 @aV ifs c)(he:∀C s H fp,dE @aV elt te)
  (hs:autoParam (∀x,eQ iter X.env x=pure x) Ai._auto_1):dE X @a7 (gO m fr wi g c te) :=
 Nt (λ_ _ _=>False) (λ_ _ _ _ _ _ _ _ _=>Lk.none λ_ _ z=>z) hc k hi hg Hm he hs
theorem wH(ε:k7->k7)(hL:∀E pins σ s H fp,Lk X E->@m->(∀b∈fp,lE X pins H b/\b<s.heap.objs.size)->Lk (cc X N scope s.heap.objs.size s H fp) (ε E))(hN:X.N.Nodup)(Vp:X.N[i]?=some y)(hy:X.env.scope.names.lookup y=@aH)(hc:@aI)(k:vQ X N scope m fr)(hi:xJ X tg iter wi)(hg:∀C s H fp,yz @aV tg g)
  (Hm:∀C s H fp,O1 @aV ifs c) (he:∀C s H fp,dE @aV elt te) (Vq:autoParam (ng @a7 (some (@ae)) wc.line X.env=pure true) Ar._auto_1)
  (hs:autoParam (∀x,eQ iter X.env x=pure x) Ai._auto_1):uX X (.Assign [@ae] @a7 wc) (aQ (λE τ G Q=>wi E τ G λds ok G1=>ds.length<=SZ/\iD g c te ok ds (ε E) (tW m fr τ) G1 [] λxs G2=>fy G2 (.lst xs) Q) (aE i)):=by
 intro E pins s σ H τ G D hE I h;rw[exec_Assign_Name_used _ _ _ _ Vq];refine ag (FD (ag ?_));show wpAny _ X.A (do let _ ← comprehension (.ListComp elt [⟨tg,iter,ifs,0⟩] scope pos) scope X.env _ (newList []) false (eval iter X.env) (some (CM (.Name y py) X.env))) _ _ s;refine ag (gQ (wpAny_comprehension_free (use:=some (CM (@ae) X.env)) (Q:=λ_ s'=>Tp X pins H G D .next s') rfl hs (k.closed I.inv) k.kind k.names (gQ (hi E pins s σ H τ G _ hE I h) λxv fN rV=>gQ rV λWv uU Ro=>?_)) λ_ s' hq=>az (az hq));obtain⟨it,fp,tn,J,H2,G2,ds,ok,e,oy,m2,T,IM,f2,wk,hz,q⟩:=Ro;subst e;refine DD (Rr:=λacc C=>compPost @o X.A X.xe (some (CM (@ae) X.env)) (λ_ s'=>Tp X pins H G D .next s') acc C) hc k.cell k.kind k.free k.len k.at' hg Hm he (I.mv oy m2) m2 T IM f2 wk hz (λs H=>hL E pins σ s H fp hE) q ?_ (λ_ _ _ z=>z);rintro C s' ⟨mm,H',G',I',LZ,fpC,mv,q'⟩;show wpAny @o X.A (CM (@ae) X.env (.ref uU.heap.objs.size)) _ X.xe s';obtain⟨f0,f1,_,f3,f4,f5⟩:=fpC;refine wpAny_assign_Name (xW (v:=.ref uU.heap.objs.size) I' hN Vp (.inl hy) rfl (?_) (.inr hy));rintro s3 I3 ⟨a,hsb,ha⟩;have hCa:C≠a:=by
  rcases ha with rfl |ha
  .exact f1
  .exact λe=>f4 y a ha e.symm
 refine⟨mm,LZ.sameBut hsb hCa,λh' Ez=>?_⟩;exact⟨_,H',_,G',⟨I3.turned (t':=s3.toks) (λb o hb e=>Ez.extBut b o hb e) f0 f1 f3 f4 f5,(I.st.mono (mv.kp I.ab)).set i (.ref _),mv.ab⟩,mv,q'⟩
theorem Gq(hN:X.N.Nodup)(Vp:X.N[i]?=some y)(hy:X.env.scope.names.lookup y=@aH)(hc:@aI)(k:vQ X N scope m fr)(hi:xJ X tg iter wi)(hg:∀C s H fp,yz @aV tg g)
  (Hm:∀C s H fp,O1 @aV ifs c) (he:∀C s H fp,dE @aV elt te) (Vq:autoParam (ng @a7 (some (@ae)) wc.line X.env=pure true) Ar._auto_1)
  (hs:autoParam (∀x,eQ iter X.env x=pure x) Ai._auto_1):uX X (.Assign [@ae] @a7 wc) (aQ (gO m fr wi g c te) (aE i)) :=
 wH (λ_ _ _=>False) (λ_ _ _ _ _ _ _ _ _=>Lk.none λ_ _ z=>z) hN Vp hy hc k hi hg Hm he Vq hs
theorem Oa(h:∀E ds τ G Q,u E ds τ G Q->ds.length=n):∀E ds τ G Q,cY (aE i) u E ds τ G Q->ds.length=n+1 :=
 Ob h (λ_ _ _ _ _ _ q k=>k _ _ q) λ_ _ _ _ q=>q
theorem PS(h:mO X body t2)(hE:Lk X E):ZI X body (λD σ H=>∃(τ:iE) (G:Gp) (D2:mx),MK X.K H σ τ/\@aA/\t2 E D2 τ G /\
  (∀kh H' oI G',Mv X.K H G H' G'->D2.nx oI G'->D.nx kh H')/\(∀v H' d G',Mv X.K H G H' G'->bW X.K H' v d->D2.rt d G'->D.rt v H')/\(∀τ G,¬ D2.bk τ G)/\(∀τ G,¬ D2.ct τ G)):=by
 rintro pins s σ H D I ⟨τ,G,D2,st,ab,q,k1,k2,k3,k4⟩;refine gQ (h E pins s σ H τ G D2 hE ⟨I,st,ab⟩ q) λf s1 z=>?_;cases f with
 |next=>obtain⟨kh,H',oI,G',J,mv,z⟩:=z;exact⟨kh,H',J.inv,k1 kh H' oI G' mv z⟩
 |brk=>obtain⟨kh,H',oI,G',J,mv,z⟩:=z;exact(k3 _ _ z).elim
 |cont=>obtain⟨kh,H',oI,G',J,mv,z⟩:=z;exact(k4 _ _ z).elim
 |ret u=>obtain⟨v,kh,H',d,G',J,mv,r,rd,z⟩:=z;exact⟨v,kh,H',J,r,k2 v H' d G' mv rd z⟩
theorem FZ{K:aq}(r:@aU):MK K H (L2.start Nn vs) (aY Nn.length ds):=by
 unfold L2.start aY;refine⟨by simp[r.length],λi d h=>?_⟩;by_cases hi:i<ds.length
 .rw[dc (by simpa using hi),bx] at h;cases hd:ds[i]? with
  |none=>rw[hd] at h;cases h
  |some d'=>
   rw[hd] at h;have e:d'=d:=@bc
   subst e;obtain⟨v,h1,h2⟩:=r.get hd;refine⟨v,?_,h2⟩;rw[dc (by simpa[r.length] using hi),bx,h1];rfl
 .rw[cy (by simpa using hi),lZ] at h;split at h<;>cases h
theorem Mc{P:bC}{w:World}{K:aq}{mg:@aK}{base:Heap}{x qual:Str}{st:Stmt}{f:Addr}{fd:fV}{Nn ps:@y}{k:Nat}{sp:jl}{rd:gj}(F:Ts K x qual st f fd)(S:kb Nn ps (cf st))(len:∀ds G Q E,sp ds G Q E->ds.length=ps.length)
  (hr:∀ds G Q,sp ds G Q (@j)->rd (@j) @N (aY Nn.length ds) G)
  (hb:∀(ib:Value) (A:cH) (outer:@aG) (s:ay) (H:Hp) (E:XK),j4 k (A.deeper (zY qual (cf st) s.heap.objs.size f ib))->mO (xq MJ P w K mg base Nn qual (cf st) f ib A outer s H E).X8 (fk st) rd):rX P w K mg base MJ (k+1) f fd ps (D3 K sp):=by
 refine F.ok S ((by rintro vs H Q E ⟨ds,G,Q2,r,ab,q,_⟩;exact by rw[r.length];exact len _ _ _ _ q)) ?_;rintro ib A outer s H vs Q E Ru ⟨ds,G,Q2,r,ab,q,kk⟩;refine⟨_,PS (hb ib A outer s H E Ru) (E:=@j) (Lk.none λ_ _ z=>z),?_⟩;exact⟨aY Nn.length ds,G,ends Q2,FZ r,ab,hr ds G Q2 q,λkh H' oI G' mv z=>kk _ _ _ _ z mv .eX,λv H' d G' mv Xu z=>kk _ _ _ _ z mv Xu,λ_ _ z=>z,λ_ _ z=>z⟩
noncomputable def ac9(scope sc:Scope):List (Str×u4):=scope.names.map λ(n,k)=>if(k == .free&&sc.kind == .function&&sc.names.lookup n == @aL) then(n,.cell) else(n,k)
def rq(N:@y)(scope:Scope)(m:Nat)(fr:List Nat)(sc:Scope)(XN:@y):Bool :=
 scope.names.all (λy=>decide (y.2≠.cell))&&decide (scope.kind=.function)&&scope.names.all (λy=>!decide (y.2=.local)||decide (scope.names.lookup y.1=@aH)) &&
 scope.names.all (λy=>!decide (y.2=.free)||decide (sc.names.lookup y.1=@aL))&&decide (N.length=m+fr.length) &&
 (eV fr.length).all (λj=>match fr[j]?,N[m+j]? with
  |some i,some x=>decide (XN[i]?=some x)&&decide (@bo=@aL)&&decide ((ac9 scope sc).lookup x=@aL)
  |_,_=>false)
theorem yu(hsc:X.env.scope=sc)(hXN:X.N=XN)(hb:rq N scope m fr sc XN=true):vQ X N scope m fr:=by
 subst hsc hXN;unfold rq at hb;simp only[aJ] at hb;obtain⟨⟨⟨⟨⟨h1,h2⟩,h3⟩,h4⟩,h5⟩,h6⟩:=hb;refine⟨λy hy=>of_decide_eq_true (List.all_eq_true.mp h1 y hy),of_decide_eq_true h2,λy hy hl=>?_,λy hy hl=>?_,of_decide_eq_true h5,λj i x e1 e2=>?_⟩
 .have:=List.all_eq_true.mp h3 y hy;simp only[hl,decide_true,bg,OU] at this;exact of_decide_eq_true this
 .have:=List.all_eq_true.mp h4 y hy;simp only[hl,decide_true,bg,OU] at this;exact of_decide_eq_true this
 .have hj:j<fr.length:=(List.getElem?_eq_some_iff.mp e1).1;have:=List.all_eq_true.mp h6 j (List.mem_range.mpr hj);rw[e1,e2] at this;simp only[aJ] at this;exact⟨of_decide_eq_true this.1.1,of_decide_eq_true this.1.2,of_decide_eq_true this.2⟩
theorem Ql(N)(hi:xJ X tg iter wi)(hg:∀C s H fp,yz @aV tg g)(Hm:∀C s H fp,O1 @aV ifs c)(he:∀C s H fp,dE @aV elt te)
  (hsc:autoParam (X.env.scope=sc) Ar._auto_1) (hXN:autoParam (X.N=XN) Ar._auto_1) (hb:autoParam (rq N scope m fr sc XN=true) Ak._auto_1) (hc:autoParam (@aI) Ar._auto_1) (hs:autoParam (∀x,eQ iter X.env x=pure x) Ai._auto_1):dE X @a7 (gO m fr wi g c te) :=
 Nr hc (yu hsc hXN hb) hi hg Hm he hs
theorem PV(N)(hN:X.N.Nodup)(Vp:X.N[i]?=some y)(hy:X.env.scope.names.lookup y=@aH)(hi:xJ X tg iter wi)(hg:∀C s H fp,yz @aV tg g)
  (Hm:∀C s H fp,O1 @aV ifs c) (he:∀C s H fp,dE @aV elt te) (hsc:autoParam (X.env.scope=sc) Ar._auto_1) (hXN:autoParam (X.N=XN) Ar._auto_1) (hb:autoParam (rq N scope m fr sc XN=true) Ak._auto_1) (hc:autoParam (@aI) Ar._auto_1)
  (Vq:autoParam (ng @a7 (some (@ae)) wc.line X.env=pure true) Ar._auto_1) (hs:autoParam (∀x,eQ iter X.env x=pure x) Ai._auto_1):
  uX X (.Assign [@ae] @a7 wc) (aQ (gO m fr wi g c te) (aE i)) :=
 Gq hN Vp hy hc (yu hsc hXN hb) hi hg Hm he Vq hs
theorem NL{K:aq}{ns:@u}(hO:V2 H)(hS:qB K H a (ns.map V.int))(hl:ns.length<=63):D3 K CS [@S] H (λv _=>v=.bl true) λ_ _ _=>False:=by
 have hF:ZH K H a (ns.map V.int):=by
  rcases hS with(h |⟨o,h⟩) |h
  .rcases hO a with z |⟨o,xs,z⟩
   .rw[z] at h;cases h
   .rw[z] at h;cases h
  .exact .inl ⟨o,h⟩
  .exact .inr h
 refine⟨[.dF (@aQ)],λ_=>none,λd _=>d=.bl true,.cons (.dF hF (bo.LG ns)) .nil,λa g e=>(by cases e),⟨ns,rfl,hl,λ_=>rfl,λ_=>rfl⟩,λd G' v H' e mv r=>?_⟩;subst e;cases r;rfl
theorem QU{l:DR}{q:bC}{loose:@y}{XP:(@aK)->Heap->Prop}{YP:World->Heap->Prop}{d:DefRec}{K:pW->aq}{k:Nat}{x:Str}(hn:l.most=some 63)(hdf:d.params.defaults=[])(hr:j4 k Ja)
  (hY:∀(w:World) (h:Heap),YP w h->(K w.params).In h)
  (F:∀(w:World) (mg:@aK) (fa:Addr) (h:Heap),(K w.params).In h->h.Ns bK mg->mg d.name=some (.ref fa) ->
   ∃fd:fV,(∀(s:ay) (u:Value),BindsTo s fd ⟨[u],[]⟩ [(x,u)])/\∀base:Heap,(K w.params).In base->base.Ns bK mg->rX l.prog w (K w.params) mg base MJ k fa fd [x] (D3 (K w.params) CS)):
  PySem.W.WalkO q loose XP YP l.row.toRowW d [] (λf vs=>K3 f vs) :=
 L2.TJ (n:=63) (k:=k) (x:=x) (CX:=λ_=>MJ) (sp:=λw=>D3 (K w.params) CS) hn (@d) hdf hr hY F (λ_ _ _ _ hl hO hS=>NL hO hS hl) λ_ _ _ _ _ z=>z
end
noncomputable def Sk:HO->Bool
 |.lst _=>true
 |.dK _=>true
 |.dT _=>true
 |.ext _=>true
 |_=>false
def qr(h:Heap)(S:Addr->Bool)(H:Hp):Hp:=λa=>match H a with
 |some u=>if(Sk u&&S a)=true then(match @ak with
  |some o=>some (.i9 o u)
  |none=>@K) else @K
 |none=>none
section
variable {h:Heap} {S:Addr->Bool} {H:Hp} {a:Addr}
theorem Kh(n:∀u,H a=@K->Sk u=false):qr h S H a=H a:=by
 unfold qr;cases e:H a with
 |none=>rfl
 |some u=>simp only[n u e,zh,au,if_false]
theorem Bn(hs:S a=false):qr h S H a=H a:=by
 unfold qr;cases e:H a with
 |none=>rfl
 |some u=>simp only[hs,La,au,if_false]
theorem xf{u:HO}{o:Obj}(hs:S a=true)(e:H a=@K)(hu:Sk u=true)(ho:@ak=@g):qr h S H a=some (.i9 o u):=by
 unfold qr;simp only[e,hs,hu,Bool.and_self,if_true,ho]
theorem qp(e:H a=none):qr h S H a=none:=by unfold qr;rw[e]
theorem mL{u:HO}(e:H a=@K)(hu:Sk u=false):qr h S H a=@K:=by rw[Kh (λv z=>by rw[e] at z;cases z;exact hu)];exact e
theorem uH:Kp H (qr h S H):=⟨λa xs e=>mL e rfl,λa o u e=>mL e rfl⟩
end
section
variable {X:Cx} {pins:@t} {σ:L2.St} {H:Hp} {s:ay} {G:Gp}
theorem Inv.freeze(I:@m)(S):Inv X pins σ (qr s.heap S H) s where
  ok := I.ok
  os := I.os
  bare := I.bare
  base := { keep := I.base.keep,slot := I.base.slot,there := I.base.there
            free := λb o q n hx=> qp (I.base.free b o q n hx)
            rS := λb xs q=> mL (I.base.rS b xs q) rfl
            qY := λb o u q=> mL (I.base.qY b o u q) rfl
            vv := λb ps q=> mL (I.base.vv b ps q) rfl
            vB := λb x q=> mL (I.base.vB b x q) rfl}
  loc := I.loc
  cell := I.cell
  free := qp I.free
  jP := λx c e=> qp (I.jP x c e)
  pin := λp hp=> let ⟨h1,h2,h3⟩ := I.pin p hp;⟨h1,qp h2,h3⟩
  bP := fun a o q=> by
    have st:∀u,H a=@K -> fQ X.prog X.w (qr s.heap S H) s.heap a u := λu e=>
      (I.bP a u e).jj (λb v _ r=> r) (λb r=> mL r rfl) (λb xs r=> mL r rfl)
    cases e:H a with
    |none=> rw[qp e] at q;cases q
    | some u=>
      by_cases hc:Sk u=true
      · by_cases hs:S a=true
        . obtain⟨ob,ho⟩ := mV (I.bP a _ e)
          rw[xf hs e hc ho] at q;cases q;exact⟨ho,st _ e⟩
        . rw[Bn (by simpa using hs),e] at q
          cases q;exact st _ e
      . rw[mL e (by simpa using hc)] at q
        cases q;exact st _ e
  len := I.len
noncomputable def pZ(R:Nat->Bool)(G:Gp):Addr->Bool:=λa=>R a&&(G a).isSome
theorem Ds(I:@m)(ab:@aA)(R):Mv X.K H G (qr s.heap (pZ R G) H) (CB R G) where
 keep:=λa o e n=>by
  refine⟨by rw[Bn (by simp[pZ,n])];exact e,?_⟩;unfold CB;split
  .rfl
  .exact n
 jj:=λa n=>by
  cases q:G a with
  |none=>exact absurd q n
  | some g=>
   have t:=(ab a g q).tracked;cases e:H a with
   |none=>exact absurd e t
   |some u=>
    unfold qr;rw[e];dsimp only;split
    .split<;>simp
    .simp
 ab:=λa g e=>by
  unfold CB at e;split at e
  .cases e
  .rename_i hr;exact(ab a g e).mono uH (Bn (by simp[pZ,hr]))
theorem RT(I:@m)(ab:@aA):∀{d t:D} {v:V},Fz G R d t->bW X.K H v d->bW X.K (qr s.heap (pZ R G) H) v t:=by
 intro d t v h;revert v;refine Fz.rec (motive_1:=λd t _=>∀{v:V},bW X.K H v d->bW X.K (qr s.heap (pZ R G) H) v t)
  (motive_2:=λds ts _=>∀{vs:@w},bo X.K H vs ds->bo X.K (qr s.heap (pZ R G) H) vs ts)
  (motive_3:=λds ts _=>(∀{vs:@aE},mP X.K H vs ds->mP X.K (qr s.heap (pZ R G) H) vs ts)/\∀{vs:@a4},my X.K H vs ds->my X.K (qr s.heap (pZ R G) H) vs ts)
  ?_ ?_ ?_ ?_ ?_ ?_ ?_ ?_ ?_ ?_ h
 .intro d v r;exact r.mono uH
 .intro ds ss _ ih v r;cases r with
  |tup h rs=>exact .tup (uH.tup _ _ h) (ih rs)
 .intro ds ss _ ih v r;cases r with
  |dF h rs=>exact .dF (uH.Xi h) (ih rs)
 .intro a ds ss g hr _ ih v r;cases r;obtain⟨vs,hv,rs⟩:=ab a _ g;obtain⟨ob,ho⟩:=mV (I.bP a _ hv);exact .dF (.inl ⟨_,xf (by simp[pZ,hr,g]) hv rfl ho⟩) (ih rs)
 .intro a ds ss g hr _ ih v r;cases r;rcases ab a _ g with ⟨kv,hv,rs⟩ |⟨kv,hv,rs⟩
  .obtain⟨ob,ho⟩:=mV (I.bP a _ hv);exact .pM (xf (by simp[pZ,hr,g]) hv rfl ho) (ih.1 rs)
  .obtain⟨ob,ho⟩:=mV (I.bP a _ hv);exact .pL (xf (by simp[pZ,hr,g]) hv rfl ho) (ih.2 rs)
 .intro a kvs Wr g hr _ ek ih v r;cases r;obtain⟨xs,ks,vs,hv,rel,r1,r2⟩:=ab a _ g;obtain⟨ob,ho⟩:=mV (I.bP a _ hv);have e2:(Wr.map λp=>lb p.1)=kvs.map λp=>lb p.1:=by
   have:=congrArg (List.map lb) ek;rw[bw,bw] at this;exact this.symm
  exact .kF (xf (by simp[pZ,hr,g]) hv rfl ho) ⟨ek.symm.trans rel.1,rel.2⟩ (by rw[e2];exact r1.mono uH) (ih r2)
 .intro vs r;cases r;exact .nil
 .intro d s ds ss _ _ i1 i2 vs r;cases r with
  |cons r rs=>exact .cons (i1 r) (i2 rs)
 .exact⟨λr=>by cases r;exact .nil,λr=>by cases r;exact .nil⟩
 .intro k d s ds ss _ _ i1 i2;exact⟨λr=>by cases r with |cons r rs=>exact .cons (i1 r) (i2.1 rs),λr=>by cases r with |cons r rs=>exact .cons (i1 r) (i2.2 rs)⟩
variable {e:Expr} {te:fB} {st:Stmt} {t:gj}
theorem XT(he:dE X e te):dE X e (bZ te):=by
 ext d;refine gQ (he E pins s σ H τ G _ hE I h) ?_;rintro u s1 ⟨v,H1,d,G1,I1,m,r,rd,R,t,hf,q⟩;exact⟨v,_,t,_,Inv.freeze I1 _,m.trans (Ds I1 m.ab R),r,RT I1 m.ab hf rd,q⟩
theorem Uo(h1:uX X st t):uX X st (BJ i t):=by
 intro E pins s σ H τ G D hE I h;refine gQ (h1 E pins s σ H τ G _ hE I h) λf s1 z=>?_;cases f with
 | next=>
  obtain⟨kh,H',oI,G',I',m,q⟩:=z;simp only at q;split at q
  .rename_i d hd;obtain⟨R,t,hf,q⟩:=q;obtain⟨v,hv,rv⟩:=I'.st.at' i d hd;have a1:=(I'.st.mono (H':=qr s1.heap (pZ R G') H') uH).set i (RT I'.inv I'.ab hf rv);have es:kh.set i (@Y)=kh:=by
    have hi:i<kh.length:=(List.getElem?_eq_some_iff.mp hv).1;have e2:=(List.getElem?_eq_some_iff.mp hv).2;rw[<-e2];exact S3 hi
   rw[es] at a1;have m2:=Ds I'.inv I'.ab R;exact⟨kh,_,_,_,⟨Inv.freeze I'.inv _,a1,m2.ab⟩,m.trans m2,q⟩
  ext e
 |ret v=>exact z
 |brk=>exact z
 |cont=>exact z
end
theorem Zb:df "len"=some (.builtin "len"):=@a5
theorem Sr:df "min"=some (.builtin "min"):=@a5
theorem Za:df "max"=some (.builtin "max"):=@a5
theorem Ou:df "sorted"=some (.builtin "sorted"):=@a5
theorem E3:df "list"=some (@Q):=@a5
theorem Ig:df "tuple"=some (@ad):=@a5
theorem zM:df "dict"=some (@aN):=@a5
theorem Ss:df "int"=some (.type "int"):=@a5
theorem VO:df "bool"=some (.type "bool"):=@a5
end K2
end
section
namespace L2
open PySem PySem.Spec PyProof.Rows
section
variable {X:Cx} {pins:@t} {σ:St} {H:Hp} {s:ay} {h':Heap}
theorem Inv.ue{fp:@ay}(I:@m)(hf:∀b∈fp,lE X pins H b)(k:∀b o,b∉fp->@T->@ag=@g):Inv X pins σ H {s with heap:=h',toks:=t'}:=by
 have nt:∀b u,H b=@K->b∉fp:=λb u e z=>by rw[(hf b z).1] at e;cases e
 refine I.step (g':=s.gens) (d':=s.drawn) (ch:=fp) (λb hb=>?_) (λb o _ _ hc e _=>k b o hc e) (λb o _ _ hc e _=>⟨o.slots,k b o hc e⟩) (λ_ _ _ _ n=>n)
  (λb o hc e=>⟨o,k b o hc e⟩) (λ_ _ e=>e) (λ_ _ _ e=>e) (λ_ _ e=>e) (λ_ _ e=>e) (λm hm=>?_) (λb u e=>?_) I.bare
 .obtain⟨f0,f1,f2,f3,f4,f5⟩:=hf b hb;exact⟨f3,f1,f4,f5⟩
 .obtain⟨o,es,ep,ho,r⟩:=hm;exact⟨o,es,ep,k _ _ (λz=>(hf _ z).2.1 rfl) ho,r⟩
 .refine(I.bP b u e).jj (λc v hc r=>k c v ?_ r) (λ_ z=>z) (λ_ _ z=>z);rcases hc with rfl |hc
  .exact nt _ _ e
  .exact nt _ _ hc
theorem Inv.zx{fp:@ay}(I:@m)(hf:∀b∈fp,lE X pins H b)(k:∀b o,b∉fp->@T->@ag=@g)(hT:s.heap.objs.size<=T)
  (new:fQ X.prog X.w (upd H T (.tup vs)) h' T (.tup vs)):Inv X pins σ (upd H T (.tup vs)) {s with heap:=h',toks:=t'}:=by
 have hn:H T=none:=I.bP.fresh hT;have ht:∀b o,@T->b≠T:=λb o e z=>by subst z;exact absurd (aO e) (Nat.not_lt.mpr hT)
 have nt:∀b u,H b=@K->b∉fp:=λb u e z=>by rw[(hf b z).1] at e;cases e
 have ne:∀b u,H b=@K->b≠T:=λb u e=>eD e hn;refine I.step (g':=s.gens) (d':=s.drawn) (ch:=fp) (λb hb=>?_) (λb o _ _ hc e _=>k b o hc e) (λb o _ _ hc e _=>⟨o.slots,k b o hc e⟩) (λb o _ e n=>by rw[bH (ht b o e)];exact n)
  (λb o hc e=>⟨o,k b o hc e⟩) (λb xs e=>by rw[bH (ne _ _ e)];exact e) (λb o u e=>by rw[bH (ne _ _ e)];exact e) (λb ps e=>by rw[bH (ne _ _ e)];exact e) (λb ps e=>by rw[bH (ne _ _ e)];exact e) (λm hm=>?_) (λb u e=>?_) I.bare
 .obtain⟨f0,f1,f2,f3,f4,f5⟩:=hf b hb;exact⟨f3,f1,f4,f5⟩
 .obtain⟨o,es,ep,ho,r⟩:=hm;exact⟨o,es,ep,k _ _ (λz=>(hf _ z).2.1 rfl) ho,r⟩
 .by_cases hb:b=T
  .subst hb;rw[bM] at e;cases e;exact new
  .rw[bH hb] at e;refine(I.bP b u e).jj (λc v hc r=>k c v ?_ r) (λc z=>by rw[bH (ne _ _ z)];exact z) (λc xs z=>by rw[bH (ne _ _ z)];exact z);rcases hc with rfl |hc
   .exact nt _ _ e
   .exact nt _ _ hc
theorem lE.upd(h:lE X pins H b)(hb:b≠T):lE X pins (L2.upd H T o) b:=by
 obtain⟨f0,r⟩:=h;exact⟨by rw[bH hb];exact f0,r⟩
end
def Ite(K:aq)(a:Addr):It :=
  ⟨λi H=>∃xs x,qB K H a xs/\xs[i]?=some x,
   λi H v H'=>∃T y,v=.ref T/\H T=none/\H'=upd H T (.tup [@A,y])/\∀xs,qB K H a xs->xs[i]?=some y,
   λi H=>∃xs,qB K H a xs/\xs.length<=i⟩
theorem MV{K:aq}(a e it)(zH:e≠it):
  Turn P w K (.Tuple elts kk pos) (Ite K a) [e,it] e (λi h=>(∃old,IsEnum h e it i old)/\h.IsListIter it a i) where
 mem:=@G
 obj:=λi h Ct b hb=>by
  obtain⟨⟨old,he⟩,hit⟩:=Ct;rcases List.mem_cons.mp hb with rfl |hb
  .exact⟨_,he,λv z=>by cases z⟩
  .have e:b=it:=@bf
   subst e;obtain⟨o,e,c,d⟩:=hit;exact⟨o,e,λv z=>by rw[d] at z;cases z⟩
 keep:=(by rintro i h h' ⟨⟨old,he⟩,hit⟩ k;exact⟨⟨old,k e @i _ he⟩,hit.at λo q=>k it @i o q⟩)
 item:=by
  ext i;obtain⟨⟨old,he⟩,hit⟩:=st;subst hP hw hK;obtain⟨xs,x,hq,hx⟩:=hg;obtain⟨bT,rv,p,hz⟩:=I.list hq;obtain⟨u,hu,ru⟩:=rv.get hx;have YM:H s.heap.objs.size=none:=I.bP.fresh @D;have heT:e≠s.heap.objs.size:=br (aO he);have hiT:it≠s.heap.objs.size:=by obtain⟨o,q,_⟩:=hit;exact br (aO q)
  refine wpAny_pyNext_enum_item he hit p.isList (x:=u) (by simpa using hu) zH λh' ho aek hT hsz kk=>?_;refine⟨_,rfl,?_⟩;have I1:Inv X pins σ (upd H s.heap.objs.size (.tup [@A,x])) {s with heap:=h',toks:=s.toks+1} :=
   I.zx (fp:=[e,it]) hf (λb o hb q=>kk b o (λz=>hb (by simp[z])) (λz=>hb (by simp[z])) q) @D
    ⟨by show 2<=bc;decide,[.int i s.toks,u],.cons @I (.cons ru .nil),⟨_,hT,rfl,_,rfl⟩⟩
  refine wpAny_letOwnedTupleGo_enum (s:={s with heap:=h',toks:=s.toks+1}) ho λh2 N6 Dh=>?_;have f1:∀b∈[e,it],lE X pins (upd H s.heap.objs.size (.tup [@A,x])) b:=λb hb=>(hf b hb).upd (by
   rcases List.mem_cons.mp hb with rfl |hb
   .exact heT
   .rw[List.mem_singleton.mp hb];exact hiT)
  have I2:Inv X pins σ (upd H s.heap.objs.size (.tup [@A,x])) {s with heap:=h2,toks:=s.toks+1} :=
   Inv.ue (s:={s with heap:=h',toks:=s.toks+1}) (t':=s.toks+1) (fp:=[e,it]) I1 f1 λb o hb q=>(Dh.2 b (λz=>hb (by simp[z]))).trans q
  refine⟨@as,_,I2,rfl,⟨_,x,rfl,YM,rfl,λys hy=>by rw[I.wR hy hq];exact hx⟩,⟨⟨u,?_⟩,?_⟩,λb hb=>(f1 b hb).1⟩
  .simpa using N6
  .exact aek.at λo q=>(Dh.2 it (dD zH)).trans q
 done:=by
  ext i;obtain⟨⟨old,he⟩,hit⟩:=st;subst hP hw hK;obtain⟨xs,hq,hx⟩:=hg;obtain⟨bT,rv,p,hz⟩:=I.list hq;have hl:=rv.length;refine wpAny_pyNext_enum_end (I.ok.hd hc) he hit p.isList (by simp;lia) λh' eb=>⟨rfl,?_⟩;exact I.ue (t':=s.toks) (fp:=[e,it]) hf λb o hb q=>eb b o (λz=>hb (by simp[z])) q
 self:=(by rintro A i s Q E ⟨⟨old,he⟩,_⟩ h;exact wpAny_pyIter_enum he h)
end L2
namespace K2
open PySem PySem.Spec PyProof.Rows L2
section
variable {X:Cx} {elts:@az} {kk:Nat} {Aj:Pos} {a b:Expr} {ta tb:fB} {pos p:Pos}
theorem Mj{pins:@t}{σ:L2.St}{H H1:Hp}{G G1:Gp}{s1:ay}{l:Addr}{vs:@w}{ds:@e}{ok:@l}{R:@e->(@l)->@l}(I1:Inv X pins σ H1 s1)(m:Mv X.K H G H1 G1)(hq:qB X.K H1 l vs)
  (hk:∀H2 G2,Kp H1 H2->kc X.K H2 G2->ok G2->∃ws,qB X.K H2 l ws/\bo X.K H2 ws ds) (q:R (nR 0 ds) ok G1):
  wpAny @o X.A (call (.type "enumerate") [.ref l]) (λv s2=>wpAny @o X.A (KZ v) (KL X pins σ (.Tuple elts kk Aj) H G R) X.xe s2) X.xe s1:=by
 obtain⟨bT,rv,pl,hz⟩:=I1.list hq;refine call_enumerate_list pl.isList λh' he hit hsz kp=>?_;refine wpAny_pyIter_enum he ?_;refine⟨_,[s1.heap.objs.size+1,s1.heap.objs.size],_,_,H1,G1,nR 0 ds,ok,rfl,I1.kept (t':=s1.toks) kp,m,MV l _ _ (Nat.succ_ne_self _),⟨⟨_,he⟩,hit⟩,λb hb=>?_,λi H2 G2 k ab o=>?_,q⟩
 .have N7:s1.heap.objs.size<=b:=by
   rcases List.mem_cons.mp hb with rfl |hb
   .lia
   .rw[List.mem_singleton.mp hb];exact aG _
  exact I1.Bp N7 (I1.bP.fresh N7)
 .obtain⟨ws,hw,rd⟩:=hk H2 G2 k ab o;refine⟨λd hd=>?_,λhl=>⟨ws,hw,by rw[rd.length,<-Dx ds 0];exact hl⟩⟩;rw[Dy] at hd;cases hdi:ds[i]? with
  |none=>rw[hdi] at hd;cases hd
  |some d'=>
   rw[hdi] at hd;obtain⟨v,hv,r⟩:=rd.get hdi;refine⟨⟨ws,v,hw,hv⟩,?_⟩;rintro x H3 ⟨T,y,ex,hT,e3,hy⟩;subst ex e3;have:=hy ws hw;rw[hv] at this;cases this;have ed:D.tup [.int ((0+i:Nat):Int),d']=d:=by simpa using hd
   subst ed;refine⟨.tup bM (.cons (by rw[Fi];exact @P) (.cons (r.mono (.new hT)) .nil)),.Ft ab hT⟩
theorem E4:df "enumerate"=some (.type "enumerate"):=@a5
theorem Y9:df "zip"=some (.type "zip"):=@a5
theorem P9 (hg:Gl X "enumerate") (hm:X.mg "enumerate"=none) (ha:dE X a ta) (hs:autoParam (aZ [a] X.env=[(false,eval a X.env)]) Ar._auto_1):xJ X (.Tuple elts kk Aj) (.Call (.Name "enumerate" p) [a] [] pos) (Hh ta):=by
 intro E pins s σ H τ G R hE I h;have hA:xx X [a] (ao ta aM):=tm ha zD hs;refine Call_ (lz I.inv hg hm E4 (dJ (Am hA pos hE I (R:=adp λx G1=>w7 x G1 R) h λvs H1 ds G1 us s1 I1 m1 r1 ja q1=>?_) hs rfl))
 match ds,q1 with
 | [x],q1=>
  change w7 x G1 R at q1;obtain⟨w,rfl,wg⟩:=ja.one;obtain⟨u,rfl,ru⟩:=r1.one;cases wg with
  |dF hq rs=>cases ru;exact Mj I1.inv m1 hq.sq (λH2 G2 k ab _=>⟨_,(k.Xi hq).sq,rs.mono k⟩) q1
  |ref p=>
   cases ru;unfold w7 at q1;dsimp only at q1;split at q1
   .rename_i ds e;obtain⟨vs,hv,rs⟩:=I1.ab.lst e;refine Mj I1.inv m1 (.of hv) (λH2 G2 k ab o=>?_) q1;obtain⟨ws,hw,rH⟩:=ab.lst o;exact⟨ws,.of hw,rH⟩
   .exact q1.elim
  |tup _ _=>ext c
  |pM _ _=>ext c
  |pL _ _=>ext c
  |eX=>ext c
  |bl _=>ext c
  |int _=>ext c
  |str _=>ext c
  |exc _=>ext c
  |BA _ _=>ext c
  |kF _ _ _ _=>ext c
 |[],q1=>ext c
 |_::_::_,q1=>ext c
end
end K2
end
section
namespace K2
open PySem PySem.Spec PyProof.Rows L2
section
variable {X:Cx} {o i a b:Expr} {to ti ta tb:fB} {pos p:Pos}
theorem UA(hu:@av)(ho:dE X o to)(hi:dE X i ti)
  (ha:autoParam (∀v,CM (.Subscript o i pos) X.env v=(do
   let ov ← qE [v] (eval o X.env)
   let iv ← qE [v,ov] (eval i X.env)
   standAt pos
   qE [v,ov,iv] (setItem ov iv v)
   release [v,ov,iv] [])) Ai._auto_1):yz X (.Subscript o i pos) (eU to ti):=by
 intro E pins s σ H τ G w d u Q hE I r rd h;rw[ha];refine ag (ck (iK ho hE I h λx H1 dx G1 ov s1 I1 m1 r1 ja q1=>?_));refine ag (ck (iK hi hE I1 q1 λy H2 dy G2 iv s2 oy m2 r2 zi q2=>?_));refine ag (FD (ag (ck ?_)));have IP:=m1.trans m2;have M8:=rd.mono (IP.kp I.ab);have Fp:=I.st.mono (IP.kp I.ab);have rx':=ja.mono (m2.kp I1.ab);unfold Ay at q2;split at q2
 .rename_i l;cases rx';cases r1;split at q2
  .rename_i xs hg;obtain⟨vs,hv,rs⟩:=oy.ab.lst hg;split at q2
   .rename_i k;cases zi;split at q2
    .rename_i j hj;have m3:Mv X.K H2 G2 (upd H2 l (.lst (vs.set j w))) (di G2 l (.lst (xs.set j d))):=.putL oy.ab hg hv (rs.set M8 j);refine gQ (set_list pins s2 σ H2 (.ref l) (.int k) w _ _ _ (λH3=>H3=upd H2 l (.lst (vs.set j w))) oy.inv rfl r2 r ⟨l,vs,k,j,rfl,rfl,hv,?_,rfl⟩) ?_
     .rw[rs.length];exact hj
     .rintro _ s3 ⟨H3,I3,e3⟩;subst e3;exact wpAny_release ⟨σ,_,τ,_,⟨I3,Fp.mono (m3.kp oy.ab),m3.ab⟩,IP.trans m3,q2⟩
    .exact q2.elim
   .exact q2.elim
  .rename_i kvs hg;obtain⟨hk,hz,q⟩:=q2;obtain⟨H3,H4,I3,dp,m3⟩:=R8 oy.inv oy.ab hg hk hz zi M8;exact Oh @c I3 dp r2 r λs4 I4=>wpAny_release ⟨σ,H4,τ,_,⟨I4,Fp.mono (m3.kp oy.ab),m3.ab⟩,IP.trans m3,q⟩
  .exact q2.elim
 .exact q2.elim
end
end K2
end
section
namespace L2
open PySem PySem.Spec PyProof.Rows
theorem wb(I:@m)(hq:qB X.K H l xs)(hf:lE X pins H b):l≠b:=by
 rintro rfl;obtain⟨f0,f1,f2,f3,f4,f5⟩:=hf;rcases hq with(h |⟨o,h⟩) |⟨o,bT,n,h,_⟩
 .rw[f0] at h;cases h
 .rw[f0] at h;cases h
 .have hb:=I.ok.mod.Wt _ _ h;rcases f3 with f3 |f3
  .exact I.ok.JR _ _ hb f3
  .exact absurd (aO (I.ok.bs _ _ hb).1) (Nat.not_lt.mpr f3)
def Itz(K:aq)(a b:Addr):It :=
  ⟨λi H=>∃xs x ys y,qB K H a xs/\xs[i]?=some x/\qB K H b ys/\ys[i]?=some y,
   λi H v H'=>∃T x y,v=.ref T/\H T=none/\H'=upd H T (.tup [x,y])/\(∀xs,qB K H a xs->xs[i]?=some x)/\∀ys,qB K H b ys->ys[i]?=some y,
   λi H=>∃xs ys,qB K H a xs/\qB K H b ys/\(xs.length<=i\/ys.length<=i)⟩
structure abK(z TI TO i1 i2 a b:Addr)(i:Nat)(h:Heap):Prop where
 hz:IsZip h z TI TO .none
 hI:IsPair h TI (.ref i1) (.ref i2)
 hO:∃x y,IsPair h TO x y
 h1:h.IsListIter i1 a i
 h2:h.IsListIter i2 b i
theorem Pk{K:aq}(a b z TI TO i1 i2)(nd:[z,TI,TO,i1,i2].Nodup):
  Turn P w K (.Tuple elts kk pos) (Itz K a b) [z,TI,TO,i1,i2] z (abK z TI TO i1 i2 a b) where
 mem:=@G
 obj:=λi h st c hc=>by
  simp only[bA,bN,or_false] at hc;rcases hc with rfl |rfl |rfl |rfl |rfl
  .exact⟨_,st.hz,λv q=>by cases q⟩
  .exact⟨_,st.hI,λv q=>by cases q⟩
  .obtain⟨x,y,h⟩:=st.hO;exact⟨_,h,λv q=>by cases q⟩
  .obtain⟨o,e,_,d⟩:=st.h1;exact⟨o,e,λv q=>by rw[d] at q;cases q⟩
  .obtain⟨o,e,_,d⟩:=st.h2;exact⟨o,e,λv q=>by rw[d] at q;cases q⟩
 keep:=λi h h' st k=>⟨k _ @i _ st.hz,k _ @i _ st.hI,let ⟨x,y,q⟩:=st.hO;⟨x,y,k _ @i _ q⟩,st.h1.at λo q=>k _ @i o q,st.h2.at λo q=>k _ @i o q⟩
 item:=by
  ext i;subst hP hw hK;obtain⟨xs,x,ys,y,Wz,hx,Wy,hy⟩:=hg;obtain⟨Vo,rv1,p1,hz1⟩:=I.list Wz;obtain⟨vE,PC,p2,hz2⟩:=I.list Wy;obtain⟨u1,hu1,Co⟩:=rv1.get hx;obtain⟨u2,hu2,D6⟩:=PC.get hy;obtain⟨xo,yo,hO⟩:=st.hO;have ap:∀c∈[z,TI,TO,i1,i2],a≠c/\b≠c:=λc hc=>⟨wb I Wz (hf c hc),wb I Wy (hf c hc)⟩;simp only[aW,bA,bN,or_false,not_or] at nd;obtain⟨⟨n1,n2,n3,n4⟩,⟨n5,n6,n7⟩,⟨n8,n9⟩,n10,_⟩:=nd;have Dz:ZipApart z TI TO i1 i2 a b:=⟨dD n1,dD n2,dD n3,dD n4,n5,n6,n7,n8,n9,n10,(ap z @i).1,(ap TO @i).1,(ap i1 @i).1,(ap i2 @i).1,(ap z @i).2,(ap TO @i).2,(ap i1 @i).2,(ap i2 @i).2⟩;have YM:H s.heap.objs.size=none:=I.bP.fresh @D;have inH:∀c∈[z,TI,TO,i1,i2],c≠s.heap.objs.size:=λc hc=>by
   simp only[bA,bN,or_false] at hc;rcases hc with rfl |rfl |rfl |rfl |rfl
   .exact br (aO st.hz)
   .exact br (aO st.hI)
   .exact br (aO hO)
   .obtain⟨o,e,_⟩:=st.h1;exact br (aO e)
   .obtain⟨o,e,_⟩:=st.h2;exact br (aO e)
  refine wpAny_pyNext_zip_item Dz st.hz st.hI hO st.h1 st.h2 p1.isList p2.isList (x:=u1) (y:=u2) (by simpa using hu1) (by simpa using hu2) λh' a1 a2 a3 a4 a5 a6 a7=>?_;refine⟨_,rfl,?_⟩;have k1:∀c o,c∉[z,TI,TO,i1,i2]->s.heap.get? c=@g->h'.get? c=@g:=λc o hc q=>
   a7 c o (λe=>hc (by simp[e])) (λe=>hc (by simp[e])) (λe=>hc (by simp[e])) (λe=>hc (by simp[e])) q
  have I1:Inv X pins σ (upd H s.heap.objs.size (.tup [x,y])) @an :=
   I.zx (t':=s.toks) (fp:=[z,TI,TO,i1,i2]) hf k1 @D ⟨by show 2<=bc;decide,[u1,u2],.cons Co (.cons D6 .nil),⟨_,a5,rfl,_,rfl⟩⟩
  refine wpAny_letOwnedTupleGo_zip (s:=@an) a1 λh2 hz2 Dh=>?_;have f1:∀c∈[z,TI,TO,i1,i2],lE X pins (upd H s.heap.objs.size (.tup [x,y])) c:=λc hc=>(hf c hc).upd (inH c hc);have I2:Inv X pins σ (upd H s.heap.objs.size (.tup [x,y])) {s with heap:=h2} :=
   Inv.ue (s:=@an) (t':=s.toks) (fp:=[z,TI,TO,i1,i2]) I1 f1 λc o hc q=>(Dh.2 c (λe=>hc (by simp[e]))).trans q
  have hI':IsPair h' TI (.ref i1) (.ref i2):=a7 TI _ (dD n1) n5 n6 n7 st.hI;refine⟨@as,_,I2,rfl,⟨_,x,y,rfl,YM,rfl,λzs hs=>by rw[I.wR hs Wz];exact hx,λzs hs=>by rw[I.wR hs Wy];exact hy⟩,⟨hz2,?_,⟨u1,u2,?_⟩,?_,?_⟩,λc hc=>(f1 c hc).1⟩
  .exact(Dh.2 TI (dD n1)).trans hI'
  .exact(Dh.2 TO (dD n2)).trans a2
  .exact a3.at λo q=>(Dh.2 i1 (dD n3)).trans q
  .exact a4.at λo q=>(Dh.2 i2 (dD n4)).trans q
 done:=by
  ext i;subst hP hw hK;obtain⟨xs,ys,Wz,Wy,hx⟩:=hg;obtain⟨Vo,rv1,p1,hz1⟩:=I.list Wz;obtain⟨vE,PC,p2,hz2⟩:=I.list Wy;have hl1:=rv1.length;have yU:=PC.length;obtain⟨xo,yo,hO⟩:=st.hO;have ap:∀c∈[z,TI,TO,i1,i2],a≠c/\b≠c:=λc hc=>⟨wb I Wz (hf c hc),wb I Wy (hf c hc)⟩;simp only[aW,bA,bN,or_false,not_or] at nd;obtain⟨⟨n1,n2,n3,n4⟩,⟨n5,n6,n7⟩,⟨n8,n9⟩,n10,_⟩:=nd;have Dz:ZipApart z TI TO i1 i2 a b:=⟨dD n1,dD n2,dD n3,dD n4,n5,n6,n7,n8,n9,n10,(ap z @i).1,(ap TO @i).1,(ap i1 @i).1,(ap i2 @i).1,(ap z @i).2,(ap TO @i).2,(ap i1 @i).2,(ap i2 @i).2⟩;refine wpAny_pyNext_zip_end (I.ok.hd hc) Dz st.hz st.hI hO st.h1 st.h2 p1.isList p2.isList (by
   rcases hx with hx |hx
   .left;simp;lia
   .right;simp;lia) λh' k1=>⟨rfl,?_⟩
  exact I.ue (t':=s.toks) (fp:=[z,TI,TO,i1,i2]) hf λc o hc q=>k1 c o (λe=>hc (by simp[e])) (λe=>hc (by simp[e])) (λe=>hc (by simp[e])) (λe=>hc (by simp[e])) q
 self:=λA i s Q E st h=>wpAny_pyIter_zip st.hz h
end L2
namespace K2
open PySem PySem.Spec PyProof.Rows L2
section
variable {X:Cx} {elts:@az} {kk:Nat} {Aj:Pos} {a b:Expr} {ta tb:fB} {pos p:Pos}
theorem GP(I:@m)(ab:@aA)(rx:RelV x v)(rd:bW X.K H x d)(hi:wQ d G=some (ds,ok)):
  ∃l vs,v=.ref l/\qB X.K H l vs/\bo X.K H vs ds/\∀H2 G2,Kp H H2->kc X.K H2 G2->ok G2->∃ws,qB X.K H2 l ws/\bo X.K H2 ws ds:=by
 cases rd with
 |dF hq rs=>cases hi;cases rx;exact⟨_,_,rfl,hq.sq,rs,λH2 G2 k ab _=>⟨_,(k.Xi hq).sq,rs.mono k⟩⟩
 | ref l=>
  unfold wQ at hi;dsimp only at hi;cases hg:G l with
  |none=>rw[hg] at hi;cases hi
  | some gg=>
   rw[hg] at hi;cases gg with
   |lst zs=>
    cases hi;cases rx;obtain⟨vs,hv,rs⟩:=ab.lst hg;refine⟨_,_,rfl,.of hv,rs,λH2 G2 k ab o=>?_⟩;obtain⟨ws,hw,rH⟩:=ab.lst o;exact⟨ws,.of hw,rH⟩
   |ins _ _=>cases hi
   |se _=>cases hi
   |eG _=>cases hi
 |_=>cases hi
theorem Ux (hg:Gl X "zip") (hm:X.mg "zip"=none) (ha:dE X a ta) (hb:dE X b tb) (hs:autoParam (aZ [a,b] X.env=[(false,eval a X.env),(false,eval b X.env)]) Ar._auto_1) (Dh:autoParam (aZ [b] X.env=[(false,eval b X.env)]) Ar._auto_1):
  xJ X (.Tuple elts kk Aj) (.Call (.Name "zip" p) [a,b] [] pos) (Ka ta tb):=by
 intro E pins s σ H τ G R hE I h;have hA:xx X [a,b] (ao ta (ao tb aM)):=tm ha (tm hb zD Dh) (by rw[hs,Dh]);refine Call_ (lz I.inv hg hm Y9 (dJ (Am hA pos hE I (R:=ado λx y G1=>vG x y G1 R) h λvs H1 ds G1 us s1 I1 m1 r1 ja q1=>?_) (by rw[hs,Dh]) (by rw[Dh];rfl)))
 match ds,q1 with
 | [x,y],q1=>
  change vG x y G1 R at q1;obtain⟨w1,w2,rfl,wg,F9⟩:=ja.two;obtain⟨u1,u2,rfl,Co,D6⟩:=vals2 r1;unfold vG at q1;split at q1
  .rename_i xs k1 ys k2 e1 e2;obtain⟨l1,v1,rfl,Wz,rs1,TY⟩:=GP I1.inv I1.ab Co wg e1;obtain⟨l2,v2,rfl,Wy,Fq,IM⟩:=GP I1.inv I1.ab D6 F9 e2;obtain⟨Vo,rv1,pl1,_⟩:=I1.inv.list Wz;obtain⟨vE,PC,pl2,_⟩:=I1.inv.list Wy;refine call_zip_2 pl1.isList pl2.isList λh' z1 z2 z3 z4 z5 z6 z7=>?_;refine wpAny_pyIter_zip z1 ?_;refine⟨_,[s1.heap.objs.size+4,s1.heap.objs.size+2,s1.heap.objs.size+3,s1.heap.objs.size,s1.heap.objs.size+1],_,_,H1,G1,qI xs ys,_,rfl,I1.inv.kept (t':=s1.toks) z7,m1,
    Pk l1 l2 _ _ _ _ _ @i,⟨z1,z2,⟨_,_,z3⟩,z4,z5⟩,λc hc=>?_,λi H2 G2 k ab o=>?_,q1⟩
   .have L7:s1.heap.objs.size<=c:=by
     simp only[bA,bN,or_false] at hc;rcases hc with rfl |rfl |rfl |rfl |rfl
     .exact vT _ _
     .exact vT _ _
     .exact vT _ _
     .exact aG _
     .exact vT _ _
    exact I1.inv.Bp L7 (I1.inv.bP.fresh L7)
   .obtain⟨ZQ,hw1,ja⟩:=TY H2 G2 k ab o.1;obtain⟨ws2,hw2,zi⟩:=IM H2 G2 k ab o.2;refine⟨λd hd=>?_,λhl=>⟨ZQ,ws2,hw1,hw2,?_⟩⟩
    .rw[FQ] at hd;cases hx:xs[i]? with
     |none=>rw[hx] at hd;cases hd
     | some x'=>
      cases hy:ys[i]? with
      |none=>rw[hx,hy] at hd;cases hd
      |some y'=>
       rw[hx,hy] at hd;have ed:D.tup [x',y']=d:=by simpa using hd
       subst ed;obtain⟨vx,hvx,rx⟩:=ja.get hx;obtain⟨vy,hvy,ry⟩:=zi.get hy;refine⟨⟨ZQ,vx,ws2,vy,hw1,hvx,hw2,hvy⟩,?_⟩;rintro v H3 ⟨T,px,py,ex,hT,e3,hx3,hy3⟩;subst ex e3;have q1:=hx3 ZQ hw1;have q2:=hy3 ws2 hw2;rw[hvx] at q1;rw[hvy] at q2;cases q1;cases q2;exact⟨.tup bM (.cons (rx.mono (.new hT)) (.cons (ry.mono (.new hT)) .nil)),.Ft ab hT⟩
    .rw[FP] at hl;rw[ja.length,zi.length];lia
  .exact q1.elim
 |[],q1=>ext c
 |[_],q1=>ext c
 |_::_::_::_,q1=>ext c
end
end K2
end
section
namespace K2
open PySem PySem.W PyProof.Rows
noncomputable def iZ(lt:Nat->Nat->Bool):KasT α->α
 |.ret a=>a
 |.ask i j k=>iZ lt (k (lt i j))
theorem mT(lt)(f:α->KasT β):∀t:KasT α,iZ lt (t.bind f)=iZ lt (f (iZ lt t))
 |.ret _=>rfl
 |.ask i j k=>mT lt f (k (lt i j))
noncomputable abbrev gA(p:Array Nat)(k:Nat):Nat:=p.getD k 0
theorem Dp(p)(k):gA p k=(p[k]?).getD 0:=by
 unfold gA;rw[Array.getD_eq_getD_getElem?]
structure Oy(lt:Nat->Nat->Bool):Prop where
 asymm:∀i j,lt i j=true->lt j i=false
 trans:∀i j k,lt j i=false->lt k j=false->lt k i=false
theorem Oy.refl(w:Oy lt)(i):lt i i=false:=by
 cases h:lt i i with
 |false=>rfl
 |true=>rw[w.asymm _ _ h] at h;cases h
def Up(lt:Nat->Nat->Bool)(p:Array Nat)(m:Nat):Prop:=∀i j,i<=j->j<m->lt (gA p j) (gA p i)=false
def Dn(lt:Nat->Nat->Bool)(p:Array Nat)(m:Nat):Prop:=∀i j,i<=j->j<m->lt (gA p i) (gA p j)=false
section
variable {lt:Nat->Nat->Bool}
theorem Up.more(w:Oy lt)(h1:1<=n)(h:Up lt p n)(hs:∀k,n<=k->k<m->lt (gA p k) (gA p (k-1))=false):Up lt p m:=by
 intro i j Kf hjm;induction j with
 |zero=>
  have:i=0:=@f
  subst this;exact w.refl _
 | succ j ih=>
  by_cases hj:j+1<n
  .exact h i (j+1) Kf hj
  .by_cases e:i=j+1
   .subst e;exact w.refl _
   .have h1:=ih @c @c;have h2:=hs (j+1) @c hjm;exact w.trans _ _ _ h1 h2
theorem Lo(p):∀(f n:Nat),n<=iZ lt (su p f n)/\iZ lt (su p f n)<=n+f/\(∀k,n<=k->k<iZ lt (su p f n)->lt (gA p k) (gA p (k-1))=false) /\
  (iZ lt (su p f n)<n+f->lt (gA p (iZ lt (su p f n))) (gA p (iZ lt (su p f n)-1))=true):=by
 intro f;induction f with
 |zero=>intro n;exact⟨aG _,aG _,λk h1 h2=>absurd (show k<n from h2) @c,λh=>absurd (show n<n+0 from h) @c⟩
 | succ f ih=>
  intro n;have e:iZ lt (su p (f+1) n)=if lt (gA p n) (gA p (n-1))=true then n else iZ lt (su p f (n+1)):=by
   show iZ lt (if lt (gA p n) (gA p (n-1))=true then xS n else su p f (n+1))=_;split<;>rfl
  rw[e];by_cases c:lt (gA p n) (gA p (n-1))=true
  .rw[if_pos c];exact⟨aG _,@f,λk h1 h2=>absurd h2 @c,λ_=>c⟩
  .rw[if_neg c];obtain⟨h1,h2,h3,h4⟩:=ih (n+1);refine⟨@f,@f,λk k1 k2=>?_,λh=>h4 @c⟩;by_cases e:k=n
   .subst e;simpa using c
   .exact h3 k @c k2
theorem iW(hj:j<=p.size)(k):gA (gT p i j) k=if i<=k/\k<j then gA p (i+j-1-k) else gA p k:=by
 rw[Dp,gT,getElem?_mirror_all hj];split<;>rw[Dp]
theorem nE(p)(i j):(gT p i j).size=p.size:=mirror_size _ _ _ _
theorem kO(p)(i j):(gT p i j).Perm p:=mirror_perm _ _ _ _
theorem Dn.rev(w:Oy lt)(hn:n<=p.size)(h:Dn lt p n)(he:∀k,a<=k->k<n->lt (gA p (n-1)) (gA p k)=false):Dn lt (gT p a n) n:=by
 intro i j Kf hjn;rw[iW hn,iW hn];by_cases hi:a<=i
 .rw[if_pos ⟨hi,@f⟩,if_pos ⟨@f,hjn⟩];exact w.trans _ _ _ (he (a+n-1-j) @c @c) (h (a+n-1-i) (n-1) @c @c)
 .rw[if_neg @c];by_cases hj:a<=j
  .rw[if_pos ⟨hj,hjn⟩];exact h i (a+n-1-j) @c @c
  .rw[if_neg @c];exact h i j Kf hjn
def Eqs(lt:Nat->Nat->Bool)(p:Array Nat)(n q:Nat):Prop:=q+1<=n/\∀k,n-(q+1)<=k->k<n->lt (gA p (n-1)) (gA p k)=false
theorem Dn.one(w:Oy lt)(h1:1<=n)(h:Dn lt p n)(hc:lt (gA p (n-1)) (gA p n)=false):Dn lt p (n+1):=by
 intro i j Kf hj;by_cases e:j=n
 .subst e;by_cases e2:i=j
  .subst e2;exact w.refl _
  .exact w.trans _ _ _ hc (h i (j-1) @c @c)
 .exact h i j Kf @c
theorem PH(w:Oy lt):∀(f:Nat) (p:Array Nat) (n q:Nat),n+f<=p.size->Dn lt p n->Eqs lt p n q->∃p' n' q',iZ lt (lX f p n q)=(p',n',q')/\p'.Perm p/\p'.size=p.size/\n<=n'/\n'<=n+f/\Dn lt p' n'/\Eqs lt p' n' q':=by
 intro f;induction f with
 |zero=>intro p n q _ hd he;exact⟨p,n,q,rfl,ou _,rfl,aG _,aG _,hd,he⟩
 | succ f ih=>
  intro p n q hs hd he;have h1:1<=n:=by have:=he.1;lia
  have e:iZ lt (lX (f+1) p n q)=if lt (gA p n) (gA p (n-1))=true then(if q>0 then iZ lt (lX f (gT p (n-(q+1)) n) (n+1) 0) else iZ lt (lX f p (n+1) 0))
    else if lt (gA p (n-1)) (gA p n)=true then(p,n,q) else iZ lt (lX f p (n+1) (q+1)):=by
   show iZ lt (if lt (gA p n) (gA p (n-1))=true then(if q>0 then lX f (gT p (n-(q+1)) n) (n+1) 0 else lX f p (n+1) 0) else .ask (gA p (n-1)) (gA p n) λd=>if d=true then .ret (p,n,q) else lX f p (n+1) (q+1))=_;split
   .split<;>rfl
   .show iZ lt (if lt (gA p (n-1)) (gA p n)=true then xS (p,n,q) else lX f p (n+1) (q+1))=_;split<;>rfl
  rw[e];by_cases c:lt (gA p n) (gA p (n-1))=true
  .rw [if_pos c];have ca:=w.asymm _ _ c;by_cases hq:q>0
   .rw[if_pos hq];have d1:Dn lt (gT p (n-(q+1)) n) n:=hd.rev w @c he.2;have en:gA (gT p (n-(q+1)) n) n=gA p n:=by rw[iW @c,if_neg @c]
    have ca':lt (gA (gT p (n-(q+1)) n) (n-1)) (gA (gT p (n-(q+1)) n) n)=false:=by
     rw[en,iW @c];split
     .-- an item of the abW is above p n
      exact w.trans _ _ _ ca (hd _ (n-1) @c @c)
     .exact ca
    obtain⟨p',n',q',z,h2,h3,h4,h5,h6,h7⟩:=ih (gT p (n-(q+1)) n) (n+1) 0 (by rw[nE];lia) (d1.one w h1 ca') ⟨@f,λk k1 k2=>by
     have:k=n:=@f
     subst this;exact w.refl _⟩
    exact⟨p',n',q',z,h2.trans (kO _ _ _),h3.trans (nE _ _ _),@f,@f,h6,h7⟩
   .rw[if_neg hq];obtain⟨p',n',q',z,h2,h3,h4,h5,h6,h7⟩:=ih p (n+1) 0 @c (hd.one w h1 ca) ⟨@f,λk k1 k2=>by
     have:k=n:=@f
     subst this;exact w.refl _⟩
    exact⟨p',n',q',z,h2,h3,@f,@f,h6,h7⟩
  .rw[if_neg c];have c':lt (gA p n) (gA p (n-1))=false:=by simpa using c
   by_cases d:lt (gA p (n-1)) (gA p n)=true
   .rw[if_pos d];exact⟨p,n,q,rfl,ou _,rfl,aG _,@f,hd,he⟩
   .rw[if_neg d];have d':lt (gA p (n-1)) (gA p n)=false:=by simpa using d
    obtain⟨p',n',q',z,h2,h3,h4,h5,h6,h7⟩:=ih p (n+1) (q+1) @c (hd.one w h1 d') ⟨by have:=he.1;lia,λk k1 k2=>by
     rw[Nat.add_sub_cancel];by_cases e:k=n
     .subst e;exact w.refl _
     .exact w.trans _ _ _ (he.2 k @c @c) c'⟩
    exact⟨p',n',q',z,h2,h3,@f,@f,h6,h7⟩
theorem Dn.up(hn:n<=p.size)(h:Dn lt p n):Up lt (gT p 0 n) n:=by
 intro i j Kf hjn;rw[iW hn,iW hn,if_pos ⟨@f,hjn⟩,if_pos ⟨@f,@f⟩];exact h _ _ @c @c
theorem Ga(w:Oy lt)(h1:1<=n)(hn:n<=nrem)(hs:nrem<=p.size)(h:Dn lt p n):∃p' m,iZ lt (O9 n nrem p)=(m,p')/\p'.Perm p/\p'.size=p.size/\n<=m/\m<=nrem/\Up lt p' m:=by
 obtain⟨a1,a2,a3,_⟩:=Lo (lt:=lt) (gT p 0 n) (nrem-n) n;refine⟨gT p 0 n,iZ lt (su (gT p 0 n) (nrem-n) n),by rw[O9,mT];rfl,kO _ _ _,nE _ _ _,a1,@f,?_⟩;exact(h.up @c).more w h1 a3
theorem wj(w:Oy lt)(h1:1<=n)(hn:n<nrem)(hs:nrem<=p.size)(h:Dn lt p n)(hc:lt (gA p (n-1)) (gA p n)=false):
  ∃p' m,iZ lt (zW n nrem p)=(m,p')/\p'.Perm p/\p'.size=p.size/\n<=m/\m<=nrem/\Up lt p' m:=by
 obtain⟨p1,n1,q1,z,z2,z3,z4,z5,z6,z7⟩:=PH w (nrem-(n+1)) p (n+1) 0 @c (h.one w h1 hc) ⟨@f,λk k1 k2=>by
  have:k=n:=@f
  subst this;exact w.refl _⟩
 rw[zW,mT,z];show ∃p' m,iZ lt (if q1>0 then O9 n1 nrem (gT p1 (n1-(q1+1)) n1) else O9 n1 nrem p1)=(m,p')/\_;by_cases hq:q1>0
 .rw[if_pos hq];obtain⟨p',m,y1,y2,y3,y4,y5,y6⟩:=Ga (nrem:=nrem) w (p:=gT p1 (n1-(q1+1)) n1) @c @c (by rw[nE];lia) (z6.rev w @c z7.2);exact⟨p',m,y1,(y2.trans (kO _ _ _)).trans z2,(y3.trans (nE _ _ _)).trans z3,@f,y5,y6⟩
 .rw[if_neg hq];obtain⟨p',m,y1,y2,y3,y4,y5,y6⟩:=Ga (nrem:=nrem) w (p:=p1) @c @c @c z6;exact⟨p',m,y1,y2.trans z2,y3.trans z3,@f,y5,y6⟩
theorem M6(w:Oy lt)(h1:1<=nrem)(hs:nrem<=p.size):∃p' m,iZ lt (kas_count nrem p)=(m,p')/\p'.Perm p/\p'.size=p.size/\1<=m/\m<=nrem/\Up lt p' m:=by
 obtain⟨a1,a2,a3,a4⟩:=Lo (lt:=lt) p (nrem-1) 1;rw[kas_count,mT];generalize iZ lt (su p (nrem-1) 1)=n at a1 a2 a3 a4;have u1:Up lt p 1:=λi j Kf hj=>by
  have:i=j:=@f
  subst this;exact w.refl _
 have up:Up lt p n:=u1.more w @D a3;by_cases e:n=nrem
 .subst e;rw[if_pos @i];exact⟨p,n,rfl,ou _,rfl,a1,aG _,up⟩
 .rw [if_neg (@bl)];have hb:=a4 @c;by_cases h2:n>1
  .rw[if_pos h2];show ∃p' m,iZ lt (if lt (gA p 0) (gA p (n-1))=true then xS (n,p) else zW n nrem (gT p 0 n))=(m,p')/\_;by_cases c:lt (gA p 0) (gA p (n-1))=true
   .rw[if_pos c];exact⟨p,n,rfl,ou _,rfl,a1,@f,up⟩
   .rw[if_neg c];have c':lt (gA p 0) (gA p (n-1))=false:=by simpa using c
    have all:∀i j,i<n->j<n->lt (gA p i) (gA p j)=false:=λi j hi hj=>
     w.trans _ _ _ (w.trans _ _ _ (up j (n-1) @c @c) c') (up 0 i @c hi)
    have d1:Dn lt (gT p 0 n) n:=λi j Kf hj=>by
     rw[iW @c,iW @c,if_pos ⟨@f,@f⟩,if_pos ⟨@f,hj⟩];exact all _ _ @c @c
    have hl:lt (gA (gT p 0 n) (n-1)) (gA (gT p 0 n) n)=false:=by
     rw[iW @c,iW @c,if_pos ⟨@f,@f⟩,if_neg @c];exact w.trans _ _ _ (w.asymm _ _ hb) (all _ _ @c @c)
    obtain⟨p',m,y1,y2,y3,y4,y5,y6⟩:=wj (nrem:=nrem) w (p:=gT p 0 n) a1 @c (by rw[nE];lia) d1 hl;exact⟨p',m,y1,y2.trans (kO _ _ _),y3.trans (nE _ _ _),@f,y5,y6⟩
  .rw[if_neg h2];have e1:n=1:=@f
   subst e1;have d1:Dn lt p 1:=λi j Kf hj=>by
    have:i=j:=@f
    subst this;exact w.refl _
   obtain⟨p',m,y1,y2,y3,y4,y5,y6⟩:=wj (nrem:=nrem) w (p:=p) @D @c hs d1 (w.asymm _ _ hb);exact⟨p',m,y1,y2,y3,@f,y5,y6⟩
theorem M5(w:Oy lt):∀(f l r:Nat),l<=r->r<=k->r-l<=f->Up lt p k->(∀i,i<l->lt (gA p k) (gA p i)=false)->(∀i,r<=i->i<k->lt (gA p k) (gA p i)=true) ->
  ∃m,iZ lt (kJ p k f l r)=m/\m<=k/\(∀i,i<m->lt (gA p k) (gA p i)=false)/\(∀i,m<=i->i<k->lt (gA p k) (gA p i)=true):=by
 intro f;induction f with
 |zero=>
  intro l r hlr hrk hf up h1 h2;have:l=r:=@f
  subst this;exact⟨l,rfl,hrk,h1,h2⟩
 | succ f ih=>
  intro l r hlr hrk hf up h1 h2;have e:iZ lt (kJ p k (f+1) l r)=if l>=r then l else if lt (gA p k) (gA p ((l+r) / 2))=true then iZ lt (kJ p k f l ((l+r) / 2)) else iZ lt (kJ p k f ((l+r) / 2+1) r):=by
   show iZ lt (if l>=r then xS l else .ask (gA p k) (gA p ((l+r) / 2)) λc=>if c=true then kJ p k f l ((l+r) / 2) else kJ p k f ((l+r) / 2+1) r)=_;split
   .rfl
   .show iZ lt (if lt (gA p k) (gA p ((l+r) / 2))=true then kJ p k f l ((l+r) / 2) else kJ p k f ((l+r) / 2+1) r)=_;split<;>rfl
  rw[e];by_cases c:l>=r
  .rw[if_pos c];have:l=r:=@f
   subst this;exact⟨l,rfl,hrk,h1,h2⟩
  .rw[if_neg c];by_cases d:lt (gA p k) (gA p ((l+r) / 2))=true
   .rw[if_pos d];refine ih l ((l+r) / 2) @c @c @c up h1 λi i1 i2=>?_;cases q:lt (gA p k) (gA p i) with
    |true=>rfl
    |false=>rw[w.trans _ _ _ (up ((l+r) / 2) i i1 i2) q] at d;cases d
   .rw[if_neg d];refine ih ((l+r) / 2+1) r @c hrk @c up (λi hi=>?_) h2;exact w.trans _ _ _ (up i ((l+r) / 2) @c @c) (by simpa using d)
theorem Dq(hs:src<p.size)(hd:d<=src)(k):gA (bubble p src d) k=if k=src-d then gA p src else if src-d<k/\k<=src then gA p (k-1) else gA p k:=by
 rw[Dp,getElem?_bubble hs d hd,Dp p src,Dp p (k-1),Dp p k];by_cases h1:k=src-d
 .rw[if_pos h1,if_pos h1]
 .rw[if_neg h1,if_neg h1];by_cases h2:src-d<k/\k<=src
  .rw[if_pos h2,if_pos h2]
  .rw[if_neg h2,if_neg h2]
theorem T1(w:Oy lt):∀(f:Nat) (p:Array Nat) (k:Nat),k+f<=p.size->Up lt p k->∃p',iZ lt (kas_bin f p k)=p'/\p'.Perm p/\p'.size=p.size/\Up lt p' (k+f):=by
 intro f;induction f with
 |zero=>intro p k _ up;exact⟨p,rfl,ou _,rfl,up⟩
 | succ f ih=>
  intro p k hs up;obtain⟨m,e,hm,h1,h2⟩:=M5 w k 0 k (cm _) @D @D up (λi hi=>absurd hi @c) (λi i1 i2=>absurd i1 @c);have up':Up lt (bubble p k (k-m)) (k+1):=by
   intro i j Kf hj;rw[Dq @c @c,Dq @c @c];have ek:k-(k-m)=m:=@f
   rw[ek];by_cases j1:j=m
   .rw[if_pos j1];by_cases i1:i=m
    .rw[if_pos i1];exact w.refl _
    .rw[if_neg i1,if_neg @c];exact h1 i @c
   .rw[if_neg j1];by_cases j2:m<j/\j<=k
    .rw[if_pos j2];by_cases i1:i=m
     .rw[if_pos i1];exact w.asymm _ _ (h2 (j-1) @c @c)
     .rw[if_neg i1];by_cases i2:m<i/\i<=k
      .rw[if_pos i2];exact up _ _ @c @c
      .rw[if_neg i2];exact up _ _ @c @c
    .rw[if_neg j2,if_neg @c,if_neg @c];exact up _ _ Kf @c
  obtain⟨p',z,z1,z2,z3⟩:=ih (bubble p k (k-m)) (k+1) (by rw[bubble_size];lia) up';refine⟨p',?_,z1.trans (bubble_perm _ _ _),z2.trans (bubble_size _ _ _),by rw[show k+(f+1)=k+1+f by lia];exact z3⟩;rw[kas_bin,mT,e];exact z
theorem PD(w:Oy lt)(h1:1<=n):∃p,iZ lt (kas_sort n)=p/\p.toList.Perm (eV n)/\p.size=n/\Up lt p n:=by
 obtain⟨p,m,z,z1,z2,z3,z4,z5⟩:=M6 w (p:=(eV n).toArray) h1 @i;have zs:p.size=n:=by rw[z2];simp
 have zp:p.toList.Perm (eV n):=by simpa using z1.toList
 rw[kas_sort,mT,z];show ∃q,iZ lt (if m<n then kas_bin (n-max m 1) p (max m 1) else .ret p)=q/\_;by_cases c:m<n
 .rw[if_pos c];have em:max m 1=m:=@f
  rw[em];obtain⟨p',y,y1,y2,y3⟩:=T1 w (n-m) p m @c z5;exact⟨p',y,(by simpa using y1.toList:p'.toList.Perm p.toList).trans zp,y2.trans zs,by rw[show n=m+(n-m) by lia];exact y3⟩
 .rw[if_neg c];have:m=n:=@f
  subst this;exact⟨p,rfl,zp,zs,z5⟩
end
end K2
end
section
namespace K2
open PySem PySem.Spec PyProof.Rows L2
open PySem.AutoSeq1 (wpAny_loadPart')
open PySem.MeetsSeq PySem.MeetsSeq2 PySem.MeetsSeq3 PySem.SeqAt
def BZ(A:cH)(s:ay)(y x:Value)(b:Bool):Prop :=
 ∀(prog:bC) (w:World) (E:@C) (Q:@C),Q (.bool b) s->wpAny @J A (pE .Lt y x) Q E s
noncomputable def uV(e l:Nat->Bool)(n m:Nat):Nat->Nat->Bool
 |0,_=>decide (n<m)
 |f+1,i=>if e i=true then uV e l n m f (i+1) else l i
theorem Vi(l b)(xs ys)(n m)(dd de)(sl sm)(e lt)(k):
  ∀ i:Nat,i<=@bd->@bd-i=k->Meets (Builtin.«list.__eq__.loop» ⟨[.ref l,.ref b,si i,si 0],[]⟩)
   (λA R s=>s.heap.get? l=some {cls:=@Q,dict:=dd,data:=.seq xs n,slots:=sl}/\@a2=some {cls:=@Q,dict:=de,data:=.seq ys m,slots:=sm} /\
    (∀j (h1:j<xs.size) (h2:j<ys.size),EqAt A.in1 s xs[j] ys[j] (e j)/\BZ A.in1 s xs[j] ys[j] (lt j)) /\
    R (.ok (.ret (.bool (uV e lt xs.size ys.size k i)))) s):=by
 induction k with
 | zero=>
  intro i hi hk prog w A R s h;obtain⟨hp,g,d,tk,os⟩:=s;obtain⟨hl,hb,he,h⟩:=h
  wp_walk using bV hl,bV hb
  by_cases c:xs.size<=ys.size
  .have h1:xs[((i:Nat):Int).toNat]?=none:=by simp;lia
   rw[h1]
   wp_walk using bV hl,bV hb
   exact h
  .have h2:ys[((i:Nat):Int).toNat]?=none:=by simp;lia
   rw[h2];cases q:xs[((i:Nat):Int).toNat]? with
   |none=>
    wp_walk using bV hl,bV hb
    exact h
   |some v=>
    wp_walk using bV hl,bV hb
    exact h
 | succ k ih=>
  intro i hi hk prog w A R s h;obtain⟨hp,g,d,tk,os⟩:=s;obtain⟨hl,hb,he,h⟩:=h
  wp_walk using bV hl,bV hb
  have l1:i<xs.size:=@f
  have l2:i<ys.size:=@f
  have h1:xs[((i:Nat):Int).toNat]?=some xs[i]:=by simp[l1]
  have h2:ys[((i:Nat):Int).toNat]?=some ys[i]:=by simp[l2]
  have hc:((i:Int)+1)=((i+1:Nat):Int):=by push_cast;rfl
  rw[h1,h2];refine ag ((he i l1 l2).1 prog w _ _ ?_);cases q:e i with
  | true=>
   rw[uV,q,if_pos rfl] at h
   wp_walk
   rw[hc];exact⟨gK plain_eq_loop _,gU entry_eq_loop (by
    rw[fu plain_eq_loop _];exact ih (i+1) @c @c prog w A R _ ⟨hl,hb,he,h⟩)⟩
  |false=>
   rw[uV,q,if_neg @i] at h
   wp_walk using bV hl,bV hb
   rw[h1,h2];have Ys:=(he i l1 l2).2 prog w
   wp_walk using Ys
   exact h
theorem C9(l b)(xs ys)(n m)(dd de)(sl sm)(e lt):
  Meets (Builtin.«list.__lt__» ⟨[.ref l,.ref b],[]⟩)
   (λA R s=>s.heap.get? l=some {cls:=@Q,dict:=dd,data:=.seq xs n,slots:=sl}/\@a2=some {cls:=@Q,dict:=de,data:=.seq ys m,slots:=sm} /\
    (∀j (h1:j<xs.size) (h2:j<ys.size),EqAt A.in1 s xs[j] ys[j] (e j)/\BZ A.in1 s xs[j] ys[j] (lt j)) /\
    R (.ok (.ret (.bool (uV e lt xs.size ys.size (@bd) 0)))) s):=by
 intro prog w A R s h;obtain⟨hp,g,d,tk,os⟩:=s;obtain⟨hl,hb,he,h⟩:=h;have f3:=Jm
 wp_walk using bV hl,bV hb
 exact⟨gK plain_eq_loop _,gU entry_eq_loop (by
  rw[fu plain_eq_loop _];exact Vi l b xs ys n m dd de sl sm e lt _ 0 (cm _) rfl prog w A R _ ⟨hl,hb,he,h⟩)⟩
theorem Ah(l b)(xs ys)(n m)(dd de)(sl sm)(e lt):
  Meets (Builtin.«tuple.__lt__» ⟨[.ref l,.ref b],[]⟩)
   (λA R s=>s.heap.get? l=some {cls:=@ad,dict:=dd,data:=.seq xs n,slots:=sl}/\@a2=some {cls:=@ad,dict:=de,data:=.seq ys m,slots:=sm} /\
    (∀j (h1:j<xs.size) (h2:j<ys.size),EqAt A.in1 s xs[j] ys[j] (e j)/\BZ A.in1 s xs[j] ys[j] (lt j)) /\
    R (.ok (.ret (.bool (uV e lt xs.size ys.size (@bd) 0)))) s) :=
 .of_wp λprog w A R s h=>by
  obtain⟨hp,g,d,tk,os⟩:=s;obtain⟨hl,hb,he,h⟩:=h;have f2:=kK;have zl:(xs.toList.zip ys.toList).length=@bd:=@G
  wp_walk using bV hl,bV hb,iG _ (λrest c s'=>c.1=none/\s'=⟨hp,g,d,tk,os⟩/\∃i,i<=@bd/\rest=(xs.toList.zip ys.toList).drop i /\
   R (.ok (.ret (.bool (uV e lt xs.size ys.size (@bd-i) i)))) ⟨hp,g,d,tk,os⟩) _
  case turn=>
   rintro⟨y,x⟩ rest c s' ⟨hc,rfl,i,hi,hz,hR⟩;have il:i<@bd:=by
    have:=congrArg cU hz;rw[cP,zl,aj] at this;lia
   have l1:i<xs.size:=@f
   have l2:i<ys.size:=@f
   rw[ip (by rw[zl];exact il)] at hz;injection hz with hyx Rv
   have ey:y=xs[i]/\x=ys[i]:=by simpa using hyx
   obtain⟨rfl,rfl⟩:=ey;obtain⟨k,ek⟩:∃k,@bd-i=k+1:=⟨@bd-i-1,@f⟩;rw[ek,uV] at hR;refine ag ((he i l1 l2).1 prog w _ _ ?_);cases q:e i with
   |true=>
    rw[q,if_pos rfl] at hR
    wp_walk
    exact⟨rfl,rfl,i+1,@f,Rv,by rw[show @bd-(i+1)=k by lia];exact hR⟩
   |false=>
    rw[q,if_neg @i] at hR;have Ys:=(he i l1 l2).2 prog w
    wp_walk using Ys
    exact⟨_,rfl,by simpa using hR⟩
  case fin=>
   rintro⟨c1,c2⟩ s' ⟨hc,rfl,i,hi,hz,hR⟩;simp only at hc;subst hc;have il:@bd-i=0:=by
    have:=congrArg cU hz;rw[cP,zl,ax] at this;lia
   rw[il,uV] at hR
   wp_walk
   exact⟨_,rfl,by simpa[k6] using hR⟩
  case h=>
   exact⟨rfl,rfl,0,cm _,rfl,@bc⟩
theorem NC(hl:s.heap.IsList l xs)(hb:s.heap.IsList b ys)(hu:A.units<cLine)
  (he:∀j (h1:j<xs.size) (h2:j<ys.size),EqAt A.in1 s xs[j] ys[j] (e j)/\BZ A.in1 s xs[j] ys[j] (lt j)):BZ A s (.ref l) (.ref b) (uV e lt xs.size ys.size (@bd) 0):=by
 intro prog w E Q hq;obtain⟨⟨cls,dd,data,sl⟩,ho,hc,n,hd⟩:=id hl;obtain⟨⟨Ol,zJ,data2,zA⟩,Di,Cc,n2,hd2⟩:=id hb;simp only at hc hd Cc hd2;subst hc hd Cc hd2;exact oG (op:=.Lt) ⟨_,ho,rfl⟩ ⟨_,Di,rfl⟩ vX MQ (K7 _ _) (C9 l b xs ys n n2 dd zJ sl zA e lt)
  ⟨ho,Di,he,(λx=>nomatch x),hq⟩ hu
theorem JZ(hl:s.heap.IsTuple l xs)(hb:s.heap.IsTuple b ys)(hu:A.units<cLine)
  (he:∀j (h1:j<xs.size) (h2:j<ys.size),EqAt A.in1 s xs[j] ys[j] (e j)/\BZ A.in1 s xs[j] ys[j] (lt j)):BZ A s (.ref l) (.ref b) (uV e lt xs.size ys.size (@bd) 0):=by
 intro prog w E Q hq;obtain⟨⟨cls,dd,data,sl⟩,ho,hc,n,hd⟩:=id hl;obtain⟨⟨Ol,zJ,data2,zA⟩,Di,Cc,n2,hd2⟩:=id hb;simp only at hc hd Cc hd2;subst hc hd Cc hd2;exact oG (op:=.Lt) ⟨_,ho,rfl⟩ ⟨_,Di,rfl⟩ mB uQ (sE _ _) (Ah l b xs ys n n2 dd zJ sl zA e lt)
  ⟨ho,Di,he,(λx=>nomatch x),hq⟩ hu
theorem qi(xs ys:@e):∀(k i:Nat),i<=min xs.length ys.length->min xs.length ys.length-i=k ->
  uV (λj=>jC (xs.getD j .eX) (ys.getD j .eX)) (λj=>qz (xs.getD j .eX) (ys.getD j .eX)) xs.length ys.length k i=mI (xs.drop i) (ys.drop i)
 | 0,i,hi,hk=>by
  rw[uV];by_cases c:xs.length<=ys.length
  .have e1:xs.drop i=[]:=mE @c;rw[e1];cases q:ys.drop i with
   |nil=>
    have:=congrArg cU q;rw[cP,ax] at this;exact decide_eq_false @c
   |cons y r=>
    have:=congrArg cU q;rw[cP,aj] at this;exact decide_eq_true @c
  .have e1:ys.drop i=[]:=mE @c;rw[e1];cases q:xs.drop i with
   |nil=>
    have:=congrArg cU q;rw[cP,ax] at this;exact decide_eq_false @c
   |cons y r=>exact decide_eq_false @c
 |k+1,i,hi,hk=>by
  have l1:i<xs.length:=@f
  have l2:i<ys.length:=@f
  rw[uV,ip l1,ip l2,nN,qi xs ys k (i+1) @c @c];have g1:xs.getD i .eX=xs[i]:=by rw[cA,aA l1];rfl
  have g2:ys.getD i .eX=ys[i]:=by rw[cA,aA l2];rfl
  rw[g1,g2]
theorem kP:∀{ds:@e} {vs:@s} {as:@ay},iI h vs (oC ds) as->∀j (hj:j<vs.length),∃bs,Reads h vs[j] (pd (ds.getD j .eX)) bs
 |[],vs,as,r,j,hj=>by cases r;exact absurd hj (gL _)
 |d::ds,_,_,.cons (v:=v) (vs:=vs) r1 r2,j,hj=>by
  cases j with
  |zero=>exact⟨_,r1⟩
  |succ j=>exact kP r2 j (by simpa using hj)
theorem readsAll_len:∀{ds:@e} {vs:@s} {as:@ay},iI h vs (oC ds) as->vs.length=ds.length
 |[],_,_,r=>by cases r;rfl
 |d::ds,_,_,.cons r1 r2=>by rw[aj,aj,readsAll_len r2]
theorem qQ:∀{ds:@e},tu ds=true->∀j,nr (ds.getD j .eX)=true
 |[],_,j=>by rw[List.getD_nil];rfl
 |d::ds,h,0=>by
  have h:(nr d&&tu ds)=true:=h;rw[aJ] at h;simpa using h.1
 |d::ds,h,j+1=>by
  have h:(nr d&&tu ds)=true:=h;rw[aJ] at h;simpa using qQ h.2 j
theorem lU:∀(ds:@e) (j:Nat),(pd (ds.getD j .eX)).depth<=cF (oC ds)
 |[],j=>by rw[List.getD_nil];exact aG _
 |d::ds,0=>by
  show(pd d).depth<=cF (pd d::oC ds);simp only[cF];lia
 |d::ds,j+1=>by
  have:=lU ds j;show(pd (ds.getD j .eX)).depth<=cF (pd d::oC ds);simp only[cF];lia
theorem tJ:∀{l:List pA} {ds:@e},fP l ds=true->∀j,j<ds.length->∃s∈l,dh s (ds.getD j .eX)=true/\l[j]?=some s
 |[],[],_,j,hj=>absurd hj (gL _)
 |[],_::_,h,_,_=>by cases h
 |_::_,[],h,_,_=>by cases h
 |s::l,d::ds,h,0,_=>by
  have h:(dh s d&&fP l ds)=true:=h;rw[aJ] at h;exact⟨s,@G,by simpa using h.1,@G⟩
 |s::l,d::ds,h,j+1,hj=>by
  have h:(dh s d&&fP l ds)=true:=h;rw[aJ] at h;obtain⟨s',h1,h2,h3⟩:=tJ h.2 j (by simpa using hj);exact⟨s',aI _ h1,@a_,by simpa using h3⟩
theorem tK:∀{s:pA} {ds:@e},hU s ds=true->∀j,j<ds.length->dh s (ds.getD j .eX)=true
 |s,[],_,j,hj=>absurd hj (gL _)
 |s,d::ds,h,0,_=>by
  have h:(dh s d&&hU s ds)=true:=h;rw[aJ] at h;simpa using h.1
 |s,d::ds,h,j+1,hj=>by
  have h:(dh s d&&hU s ds)=true:=h;rw[aJ] at h;simpa using tK h.2 j (by simpa using hj)
theorem EK{vs ws:@a6}(r1:iI s.heap vs.toList (oC xs) as)(r2:iI s.heap ws.toList (oC ys) bs)(n1:tu xs=true)(n2:tu ys=true)
  (hu:A.units+cF (oC xs)<cLine) (j) (h1) (h2:j<ws.size):EqAt A s vs[j] ws[j] (jC (xs.getD j .eX) (ys.getD j .eX)):=by
 obtain⟨as',q1⟩:=kP r1 j (by simpa using h1);obtain⟨WS,q2⟩:=kP r2 j (@a_);have m1:=qQ n1 j;have m2:=qQ n2 j;have dp:=lU xs j;have:=eqAt_reads (pd (xs.getD j .eX)) (pd (ys.getD j .eX)) A s _ _ _ _ q1 q2 (lA _ m1) (lA _ m2) @c;rw[yn _ _ m1 m2] at this;ext f
theorem A9:∀(n:Nat) (sh:pA) (a b:D) (A:cH) (s:ay) (u v:Value) (as bs:@ay),(pd a).depth<=n->dh sh a=true->dh sh b=true->nr a=true->nr b=true->Reads s.heap u (pd a) as->Reads s.heap v (pd b) bs->A.units+n<cLine->BZ A s u v (qz a b):=by
 intro n;induction n using Nat.strongRecOn with
 |_ n ih=>
 intro sh a b A s u v as bs hn h1 h2 n1 n2 r1 r2 hu;cases sh with
 |int=>
  ext j
  ext k
  cases r1;cases r2;intro prog w E Q hq;exact HT.Gk A s _ _ _ _ prog w E Q hq
 | tup l=>
  ext j
  ext k
  rename_i xs ys;have n1:tu xs=true:=n1;have n2:tu ys=true:=n2;cases r1 with
  | tuple k1 k2 k3 k4=>
   cases r2 with
   | tuple m1 m2 m3 m4=>
    rename_i p o vs c p' o' ws c';have hd:(pd (.tup xs)).depth=cF (oC xs)+1:=rfl;obtain⟨n',rfl⟩:∃n',n=n'+1:=⟨n-1,@f⟩;have z1:=readsAll_len k4;have z2:=readsAll_len m4;have e1:vs.size=xs.length:=by simpa using z1
    have e2:ws.size=ys.length:=by simpa using z2
    have base:=JZ (A:=A) (s:=s) (e:=λj=>jC (xs.getD j .eX) (ys.getD j .eX)) (lt:=λj=>qz (xs.getD j .eX) (ys.getD j .eX)) ⟨_,k1,k2,_,k3⟩ ⟨_,m1,m2,_,m3⟩ @c (λj j1 j2=>by
     refine⟨EK k4 m4 n1 n2 (by show A.units+1+_<_;lia) j j1 j2,?_⟩;obtain⟨as',q1⟩:=kP k4 j (by simpa using j1);obtain⟨WS,q2⟩:=kP m4 j (by simpa using j2);obtain⟨sj,hsj,g1,g2⟩:=tJ (l:=l) (ds:=xs) h1 j @c;obtain⟨sj',ad6,g1',g2'⟩:=tJ (l:=l) (ds:=ys) h2 j @c;rw[g2] at g2';cases g2';have dp:=lU xs j;have:=ih n' @c sj (xs.getD j .eX) (ys.getD j .eX) A.in1 s _ _ _ _ @c g1 g1' (qQ n1 j) (qQ n2 j) q1 q2 (by show A.units+1+n'<cLine;lia);ext f)
    have fin:=qi xs ys (min xs.length ys.length) 0 (cm _) rfl;rw[e1,e2,fin] at base;exact base
 | lst l=>
  ext j
  ext k
  rename_i xs ys;have n1:tu xs=true:=n1;have n2:tu ys=true:=n2;cases r1 with
  | list k1 k2 k3 k4=>
   cases r2 with
   | list m1 m2 m3 m4=>
    rename_i p o vs c p' as' o' ws c' WS;have hd:(pd (.dF xs)).depth=cF (oC xs)+1:=rfl;obtain⟨n',rfl⟩:∃n',n=n'+1:=⟨n-1,@f⟩;have z1:=readsAll_len k4;have z2:=readsAll_len m4;have e1:vs.size=xs.length:=by simpa using z1
    have e2:ws.size=ys.length:=by simpa using z2
    have base:=NC (A:=A) (s:=s) (e:=λj=>jC (xs.getD j .eX) (ys.getD j .eX)) (lt:=λj=>qz (xs.getD j .eX) (ys.getD j .eX)) ⟨_,k1,k2,_,k3⟩ ⟨_,m1,m2,_,m3⟩ @c (λj j1 j2=>by
     refine⟨EK k4 m4 n1 n2 (by show A.units+1+_<_;lia) j j1 j2,?_⟩;obtain⟨as',q1⟩:=kP k4 j (by simpa using j1);obtain⟨WS,q2⟩:=kP m4 j (by simpa using j2);have dp:=lU xs j;have:=ih n' @c l (xs.getD j .eX) (ys.getD j .eX) A.in1 s _ _ _ _ @c (tK (s:=l) (ds:=xs) h1 j @c) (tK (s:=l) (ds:=ys) h2 j @c) (qQ n1 j) (qQ n2 j) q1 q2 (by show A.units+1+n'<cLine;lia);ext f)
    have fin:=qi xs ys (min xs.length ys.length) 0 (cm _) rfl;rw[e1,e2,fin] at base;exact base
end K2
end
section
namespace K2
open PySem PySem.Spec PyProof.Rows L2 PySem.W
section
variable {prog:bC} {w:World} {A:cH} {E:@C} {s:ay}
theorem Pz {at':Addr} {bT:@s} {n:Nat} {P:PySem.Fin->@X} (Fu:s.heap.get? at'=some (yA "list" bT.toArray n)) (EF:bT.length<2)
  (done:P (.done (.ret .none)) {s with heap:=sortedHeap s.heap at' bT bT.toArray}):wpAny @J A (Builtin.«list.sort» ⟨[.ref at'],[]⟩) P E s:=by
 rw[list_sort_plain];have lt':at'<s.heap.objs.size:=aO Fu;refine ag (listItems_at Fu rfl (ag (listUpdate_at Fu rfl ?_)));obtain⟨c,hc⟩:∃c,(s.heap.update at' (dZ λ_=>#[])).get? at'=some (yA "list" #[] c):=⟨_,get?_update_seq Fu (λ_=>#[])⟩;refine ag (seqEpoch_at hc rfl (ag (wpAny_newTuple (ag (wpAny_newList (ck ?_))))));have h6:(((s.heap.update at' (dZ λ_=>#[])).push (yA "tuple" bT.toArray 0)).push (yA "list" #[] 0)).get? at'=some (yA "list" #[] c):=by
  rw[Heap.get?_push_ne _ _ _ (by rw[size_push',Fo];exact br (Nat.lt_succ_of_lt lt')),Heap.get?_push_ne _ _ _ (by rw[Fo];exact br lt')];exact hc
 show wpAny @J A _ P E {s with heap:=((s.heap.update at' (dZ λ_=>#[])).push (yA "tuple" bT.toArray 0)).push (yA "list" #[] 0)};dsimp only;have sz2:bT.toArray.size<2:=by simpa using EF
 rw[if_pos sz2,if_pos sz2];refine ag (az ?_);rw[StateT.run_pure];refine ag (az ?_);dsimp only;have es:(bT.toArray.zip bT.toArray).map (·.2)=bT.toArray:=by
  apply Array.toList_inj.mp;simp[List.map_snd_zip]
 refine ag (seqEpoch_at h6 rfl (ag (listUpdate_at h6 rfl ?_ (hsz2:=by rw[show(arrOf (SortSt.mk' general' (bT.toArray.zip bT.toArray) #[] 7 none)).map (·.2)=bT.toArray from es,cX];simp;lia))));simp only[bne_self_eq_false,au,if_false];refine az ?_;rw[show(arrOf (SortSt.mk' general' (bT.toArray.zip bT.toArray) #[] 7 none)).map (·.2)=bT.toArray from es];exact done
theorem Ju{l:Addr}{bT:@s}{Q:@C}(hl:s.heap.IsList l bT.toArray)(EF:bT.length<2)
  (done:Q (.ref (@bq)) {s with heap:=sortedAll s.heap bT bT.toArray}):wpAny @J A (call (.builtin "sorted") [.ref l]) Q E s:=by
 refine Calls.call_function_entry kind_sorted plain_sorted entry_sorted (args_sorted1 _) ?_;unfold Builtin.«sorted»;refine ag (m:=checkCount "sorted" 1 1 _) (az (ag (collect_list hl (ag (wpAny_newList ?_)))));have e1:((s.heap.push (yA "list" #[] 0)).update s.heap.objs.size (dZ (·++bT.toArray))).objs.size=@bq:=by rw[Fo,size_push']
 have e2:(((s.heap.push (yA "list" #[] 0)).update s.heap.objs.size (dZ (·++bT.toArray))).push (yA "list" bT.toArray 0)).get? (@bq)=some (yA "list" bT.toArray 0):=by
  rw[<-e1];exact @au
 show wpAny _ _ _ _ _ {s with heap:=((s.heap.push (yA "list" #[] 0)).update s.heap.objs.size (dZ (·++bT.toArray))).push (yA "list" bT.toArray 0)};rw[e1];refine ag (ck (cV slot_list_sort ⟨_,e2,rfl⟩ entry_list_sort (Pz e2 EF ⟨_,rfl,?_⟩) (args_list_sort _)));exact az ⟨_,rfl,done⟩
end
section
open PySem.SeqAt
def SF(A:cH)(s:ay)(y x:Value)(b:Bool):Prop :=
 ∀(prog:bC) (w:World) (E:@C) (Q:Bool->@X),Q b s->wpAny @J A (oneLt' true y x) Q E s
theorem JQ(hl:s.heap.IsList l xs)(hb:s.heap.IsList b ys)(hu:A.units<cLine)
  (he:∀j (h1:j<xs.size) (h2:j<ys.size),EqAt A.in1 s xs[j] ys[j] (e j)/\BZ A.in1 s xs[j] ys[j] (lt j)):SF A s (.ref l) (.ref b) (uV e lt xs.size ys.size (@bd) 0):=by
 intro prog w E Q hq;obtain⟨⟨cls,dd,data,sl⟩,ho,hc,n,hd⟩:=id hl;obtain⟨⟨Ol,zJ,data2,zA⟩,Di,Cc,n2,hd2⟩:=id hb;simp only at hc hd Cc hd2;subst hc hd Cc hd2;rw[oneLt'_eq];simp only[if_true];refine ag (wpAny_cRoomFor hu (ag (KY (T:="list") ⟨_,ho,rfl⟩ vX ?_)));exact call_meets vX ⟨_,ho,rfl⟩ MQ (K7 _ _) (C9 l b xs ys n n2 dd zJ sl zA e lt) ⟨ho,Di,he,jt hq⟩
theorem Gx(hl:s.heap.IsTuple l xs)(hb:s.heap.IsTuple b ys)(hu:A.units<cLine)
  (he:∀j (h1:j<xs.size) (h2:j<ys.size),EqAt A.in1 s xs[j] ys[j] (e j)/\BZ A.in1 s xs[j] ys[j] (lt j)):SF A s (.ref l) (.ref b) (uV e lt xs.size ys.size (@bd) 0):=by
 intro prog w E Q hq;obtain⟨⟨cls,dd,data,sl⟩,ho,hc,n,hd⟩:=id hl;obtain⟨⟨Ol,zJ,data2,zA⟩,Di,Cc,n2,hd2⟩:=id hb;simp only at hc hd Cc hd2;subst hc hd Cc hd2;rw[oneLt'_eq];simp only[if_true];refine ag (wpAny_cRoomFor hu (ag (KY (T:="tuple") ⟨_,ho,rfl⟩ mB ?_)));exact call_meets mB ⟨_,ho,rfl⟩ uQ (sE _ _) (Ah l b xs ys n n2 dd zJ sl zA e lt) ⟨ho,Di,he,jt hq⟩
theorem Hb{vs ws:@a6}(r1:iI s.heap vs.toList (oC xs) as)(r2:iI s.heap ws.toList (oC ys) bs)(n1:tu xs=true)(n2:tu ys=true)(hd:cF (oC xs)<=n)
  (hu:A.units+n<cLine) (hs:∀j,j<xs.length->j<ys.length->∃sh,dh sh (xs.getD j .eX)=true/\dh sh (ys.getD j .eX)=true) (j) (h1) (h2:j<ws.size):
  EqAt A s vs[j] ws[j] (jC (xs.getD j .eX) (ys.getD j .eX))/\BZ A s vs[j] ws[j] (qz (xs.getD j .eX) (ys.getD j .eX)):=by
 have z1:=readsAll_len r1;have z2:=readsAll_len r2;have e1:vs.size=xs.length:=by simpa using z1
 have e2:ws.size=ys.length:=by simpa using z2
 refine⟨EK r1 r2 n1 n2 @c j h1 h2,?_⟩;obtain⟨as',q1⟩:=kP r1 j (by simpa using h1);obtain⟨WS,q2⟩:=kP r2 j (@a_);obtain⟨sh,g1,g2⟩:=hs j @c @c;have dp:=lU xs j;have:=A9 n sh (xs.getD j .eX) (ys.getD j .eX) A s _ _ _ _ @c g1 g2 (qQ n1 j) (qQ n2 j) q1 q2 hu;ext f
theorem yP(hn:(pd a).depth<=n)(h1:dh sh a=true)(h2:dh sh b=true)(n1:nr a=true)(n2:nr b=true)(r1:Reads s.heap u (pd a) as)(r2:Reads s.heap v (pd b) bs)
  (hu:A.units+n<cLine):SF A s u v (qz a b):=by
 cases sh with
 |int=>
  ext j
  ext k
  cases r1;cases r2;intro prog w E Q hq;exact oneLt_int hq
 | tup l=>
  ext j
  ext k
  rename_i xs ys;have n1:tu xs=true:=n1;have n2:tu ys=true:=n2;cases r1 with
  | tuple k1 k2 k3 k4=>
   cases r2 with
   | tuple m1 m2 m3 m4=>
    rename_i p o vs c p' o' ws c';have hd:(pd (.tup xs)).depth=cF (oC xs)+1:=rfl;obtain⟨n',rfl⟩:∃n',n=n'+1:=⟨n-1,@f⟩;have z1:=readsAll_len k4;have z2:=readsAll_len m4;have e1:vs.size=xs.length:=by simpa using z1
    have e2:ws.size=ys.length:=by simpa using z2
    have base:=Gx (A:=A) (s:=s) ⟨_,k1,k2,_,k3⟩ ⟨_,m1,m2,_,m3⟩ @c (Hb (A:=A.in1) (n:=n') k4 m4 n1 n2 @c (by show A.units+1+n'<cLine;lia) λj j1 j2=>by
     obtain⟨sj,hsj,g1,g2⟩:=tJ (l:=l) (ds:=xs) h1 j j1;obtain⟨sj',ad6,g1',g2'⟩:=tJ (l:=l) (ds:=ys) h2 j j2;rw[g2] at g2';cases g2';exact⟨sj,g1,g1'⟩)
    have fin:=qi xs ys (min xs.length ys.length) 0 (cm _) rfl;rw[e1,e2,fin] at base;exact base
 | lst l=>
  ext j
  ext k
  rename_i xs ys;have n1:tu xs=true:=n1;have n2:tu ys=true:=n2;cases r1 with
  | list k1 k2 k3 k4=>
   cases r2 with
   |list m1 m2 m3 m4=>
    rename_i p o vs c p' as' o' ws c' WS;have hd:(pd (.dF xs)).depth=cF (oC xs)+1:=rfl;obtain⟨n',rfl⟩:∃n',n=n'+1:=⟨n-1,@f⟩;have z1:=readsAll_len k4;have z2:=readsAll_len m4;have e1:vs.size=xs.length:=by simpa using z1
    have e2:ws.size=ys.length:=by simpa using z2
    have base:=JQ (A:=A) (s:=s) ⟨_,k1,k2,_,k3⟩ ⟨_,m1,m2,_,m3⟩ @c (Hb (A:=A.in1) (n:=n') k4 m4 n1 n2 @c (by show A.units+1+n'<cLine;lia) λj j1 j2=>⟨l,tK (s:=l) (ds:=xs) h1 j j1,tK (s:=l) (ds:=ys) h2 j j2⟩);have fin:=qi xs ys (min xs.length ys.length) 0 (cm _) rfl;rw[e1,e2,fin] at base;exact base
theorem Er{prog:bC}{w:World}{A:cH}{s:ay}{b fin:Bool}{Q:Bool->@X}{n:Nat}(hu:A.units+n<cLine):∀(l:List pA) (xs ys:@e) (vs ws:@s) (as bs:@ay) (i:Nat),fP l xs=true->fP l ys=true->tu xs=true->tu ys=true ->
  iI s.heap vs (oC xs) as->iI s.heap ws (oC ys) bs->cF (oC xs)<=n->fin=false->Q (mI xs ys) s->KatLex prog w A b fin Q (vs.zip ws) i s:=by
 intro l xs;induction xs generalizing l with
 | nil=>
  intro ys vs ws as bs i h1 h2 n1 n2 r1 r2 hd hf hq;cases r1;cases l with
  |nil=>
   cases ys with
   |nil=>cases r2;subst hf;exact hq
   |cons _ _=>cases h2
  |cons _ _=>cases h1
 | cons x xs ih=>
  intro ys vs ws as bs i h1 h2 n1 n2 r1 r2 hd hf hq;cases l with
  |nil=>cases h1
  |cons sh l=>
  cases ys with
  |nil=>cases h2
  |cons y ys=>
  cases r1 with
  |@cons v vs _ _ _ _ a1 a2=>
  cases r2 with
  |@cons u ws _ _ _ _ b1 b2=>
  have h1:(dh sh x&&fP l xs)=true:=h1;have h2:(dh sh y&&fP l ys)=true:=h2;have n1:(nr x&&tu xs)=true:=n1;have n2:(nr y&&tu ys)=true:=n2;rw[aJ] at h1 h2 n1 n2;have hd1:(pd x).depth<=n/\cF (oC xs)<=n:=by
   have hd:cF (pd x::oC xs)<=n:=hd;simp only[cF] at hd;lia
  show KatLex prog w A b fin Q ((v,u)::vs.zip ws) i s;have eq:=eqAt_reads (pd x) (pd y) A s _ _ _ _ a1 b1 (lA _ n1.1) (lA _ n2.1) @c;rw[yn _ _ n1.1 n2.1] at eq;refine kat_cons (eq prog w _ _ ?_);rw[nN] at hq;cases q:jC x y with
  |true=>
   rw[q,if_pos rfl] at hq;exact kat_yes (ih l ys vs ws _ _ (i+1) h1.2 h2.2 n1.2 n2.2 a2 b2 hd1.2 hf hq)
  |false=>
   rw[q,if_neg @i] at hq;refine kat_no ?_;cases c:(b&&i == 0) with
   |true=>exact yP hd1.1 h1.1 h2.1 n1.1 n2.1 a1 b1 hu prog w _ Q hq
   |false=>exact kat_one v u (A9 n sh x y A s _ _ _ _ hd1.1 h1.1 h2.1 n1.1 n2.1 a1 b1 hu prog w _ _ hq)
end
def lW(n:Nat)(P:α->Prop):KasT α->Prop
 |.ret a=>P a
 |.ask i j k=>i<n/\j<n/\∀b,lW n P (k b)
theorem lW.bind:∀{t:KasT α},lW n P t->(∀a,P a->lW n P' (f a))->lW n P' (t.bind f)
 |.ret a,q,h=>h a q
 |.ask i j k,⟨q1,q2,q3⟩,h=>⟨q1,q2,λb=>lW.bind (q3 b) h⟩
theorem GY{α:Type}{n:Nat}{lt:Nat->Nat->Bool}{cmp:Nat->Nat->(Bool->@X)->@X}{s:ay}{Q:α->@X}(hc:∀i j,i<n->j<n->∀C:Bool->@X,C (lt i j) s->cmp i j C s):
  ∀(t:KasT α),lW n @aw t->Q (iZ lt t) s->t.kasWp cmp Q s
 |.ret a,_,q=>q
 |.ask i j k,⟨h1,h2,h3⟩,q=>hc i j h1 h2 _ (GY hc (k (lt i j)) (h3 _) q)
def Bd(n:Nat)(p:Array Nat):Prop:=0<n/\∀x∈p,x<n
theorem Bd.at(h:Bd n p)(k):p.getD k 0<n:=by
 by_cases hk:k<p.size
 .have:p.getD k 0=p[k]:=by simp[Lb,hk]
  rw[this];exact h.2 _ (Array.getElem_mem hk)
 .have:p.getD k 0=0:=by simp[Lb,hk]
  rw[this];exact h.1
theorem Bd.perm(h:Bd n p)(hp:q.Perm p):Bd n q:=⟨h.1,λx hx=>h.2 x (hp.mem_iff.mp hx)⟩
theorem E7(h:Bd n p):∀(f k:Nat),lW n @aw (su p f k)
 |0,k=>trivial
 |f+1,k=>⟨h.at _,h.at _,λb=>by
  show lW n _ (if b=true then xS k else su p f (k+1));split
  .trivial
  .exact E7 h f (k+1)⟩
theorem xt:∀(f:Nat) (p:Array Nat) (k q:Nat),Bd n p->lW n (λr=>Bd n r.1) (lX f p k q)
 |0,p,k,q,h=>h
 | f+1,p,k,q,h=>⟨h.at _,h.at _,λb=>by
  show lW n _ (if b=true then(if q>0 then lX f (gT p (k-(q+1)) k) (k+1) 0 else lX f p (k+1) 0) else .ask (p.getD (k-1) 0) (p.getD k 0) λd=>if d=true then .ret (p,k,q) else lX f p (k+1) (q+1));split
  .split
   .exact xt f _ _ _ (h.perm (kO _ _ _))
   .exact xt f _ _ _ h
  .refine⟨h.at _,h.at _,λd=>?_⟩;show lW n _ (if d=true then xS (p,k,q) else lX f p (k+1) (q+1));split
   .exact h
   .exact xt f _ _ _ h⟩
theorem Ij(h:Bd n p)(k m):lW n (λr=>Bd n r.2) (O9 k m p) :=
 lW.bind (E7 (h.perm (kO _ _ _)) _ _) λ_ _=>h.perm (kO _ _ _)
theorem xr(h:Bd n p)(k m):lW n (λr=>Bd n r.2) (zW k m p) :=
 lW.bind (xt _ _ _ _ h) λr hr=>by
  split
  .exact Ij (hr.perm (kO _ _ _)) _ _
  .exact Ij hr _ _
theorem Ow(h:Bd n p)(m):lW n (λr=>Bd n r.2) (kas_count m p) :=
 lW.bind (E7 h _ _) λk _=>by
  split
  .exact h
  .split
   .refine⟨h.at _,h.at _,λb=>?_⟩;show lW n _ (if b=true then xS (k,p) else zW k m (gT p 0 k));split
    .exact h
    .exact xr (h.perm (kO _ _ _)) _ _
   .exact xr h _ _
theorem yv(h:Bd n p)(k):∀(f l r:Nat),lW n @aw (kJ p k f l r)
 |0,l,r=>trivial
 | f+1,l,r=>by
  show lW n _ (if l>=r then xS l else .ask (p.getD k 0) (p.getD ((l+r) / 2) 0) λc=>if c=true then kJ p k f l ((l+r) / 2) else kJ p k f ((l+r) / 2+1) r);split
  .trivial
  .refine⟨h.at _,h.at _,λb=>?_⟩;show lW n _ (if b=true then kJ p k f l ((l+r) / 2) else kJ p k f ((l+r) / 2+1) r);split
   .exact yv h k f _ _
   .exact yv h k f _ _
theorem MA:∀(f:Nat) (p:Array Nat) (k:Nat),Bd n p->lW n @aw (kas_bin f p k)
 |0,p,k,h=>trivial
 |f+1,p,k,h=>lW.bind (yv h k _ _ _) λl _=>MA f _ _ (h.perm (bubble_perm _ _ _))
theorem Sx(h:0<n):lW n @aw (kas_sort n) :=
 lW.bind (Ow ⟨h,λx hx=>by simpa using hx⟩ n) λr hr=>by
  split
  .exact MA _ _ _ hr
  .trivial
mutual
theorem yE{h h':Heap}(hk:∀b o vs n,o.data=.seq vs n->@ap=@g->@ag=@g):∀(d:D) {v:Value} {as:@ay},nr d=true->Reads h v (pd d) as->Reads h' v (pd d) as
 |.eX,_,_,_,r=>by cases r;exact .none
 |.bl b,_,_,_,r=>by cases r;exact .bool b
 |.int i,_,_,_,r=>by cases r;exact .int i _
 |.str x,_,_,_,r=>by cases r;exact .str x _
 |.tup ds,_,_,n,r=>by
  cases r with
  |tuple h1 h2 h3 h4=>exact .tuple (hk _ _ _ _ h3 h1) h2 h3 (nF hk ds n h4)
 |.dF ds,_,_,n,r=>by
  cases r with
  |list h1 h2 h3 h4=>exact .list (hk _ _ _ _ h3 h1) h2 h3 (nF hk ds n h4)
 |.fZ _,_,_,n,_=>by cases n
 |.ref _,_,_,n,_=>by cases n
 |.exc _,_,_,n,_=>by cases n
theorem nF{h h':Heap}(hk:∀b o vs n,o.data=.seq vs n->@ap=@g->@ag=@g):∀(ds:@e) {vs:@s} {as:@ay},tu ds=true->iI h vs (oC ds) as->iI h' vs (oC ds) as
 |[],_,_,_,r=>by cases r;exact .nil
 |d::ds,_,_,n,r=>by
  have n:(nr d&&tu ds)=true:=n;rw[aJ] at n;cases r with
  |cons r1 r2=>exact .cons (yE hk d n.1 r1) (nF hk ds n.2 r2)
end
mutual
theorem Jv(G:Gp):∀(sh:pA) (d:D) (n:Nat),dh sh d=true->WM sh<=n->Sn G n d d
 |.int,.int i,n,_,_=>@A
 |.tup l,.tup ds,n,h,hn=>by
  have hn:R6 l+1<=n:=hn;obtain⟨m,rfl⟩:∃m,n=m+1:=⟨n-1,@f⟩;exact Ll G l ds m h @c
 |.lst s,.dF ds,n,h,hn=>by
  have hn:WM s+1<=n:=hn;obtain⟨m,rfl⟩:∃m,n=m+1:=⟨n-1,@f⟩;exact Lm G s ds m h @c
theorem Ll(G:Gp):∀(l:List pA) (ds:@e) (m:Nat),fP l ds=true->R6 l<=m->Sn G (m+1) (.tup ds) (.tup ds)
 |[],[],m,_,_=>.Js
 |s::l,d::ds,m,h,hm=>by
  have h:(dh s d&&fP l ds)=true:=h;have hm:max (WM s) (R6 l)<=m:=hm;rw[aJ] at h;exact .sM (Jv G s d m h.1 @c) (Ll G l ds m h.2 @c)
theorem Lm(G:Gp):∀(s:pA) (ds:@e) (m:Nat),hU s ds=true->WM s<=m->Sn G (m+1) (.dF ds) (.dF ds)
 |s,[],m,_,_=>.Gb
 |s,d::ds,m,h,hm=>by
  have h:(dh s d&&hU s ds)=true:=h;rw[aJ] at h;exact .vd (Jv G s d m h.1 hm) (Lm G s ds m h.2 hm)
end
theorem getD_at{α:Type}(xs:@v)(d)(h):xs.getD i d=xs[i]:=by
 rw[cA,aA h];rfl
theorem A3{α:Type}(xs)(d:α):(eV xs.length).map (λi=>xs.getD i d)=xs:=by
 refine List.ext_getElem @i λi h1 h2=>?_;rw[gm,rR];exact getD_at _ _ h2
theorem FW:∀(zs:@e) (vs:@s),(∀z∈zs,dh (.tup (s1::l)) z=true)->(∀i,i<vs.length->∃as,Reads h (vs.getD i .none) (pd (@a9)) as)->vs.length=zs.length ->
  ∃fs,KatTups h vs fs/\fs.length=vs.length/\∀f∈fs,∃d as,dh s1 d=true/\Reads h f (pd d) as:=by
 intro zs;induction zs with
 |nil=>
  intro vs _ _ h;have:vs=[]:=List.length_eq_zero_iff.mp h;subst this;exact⟨[],trivial,rfl,λ_ h=>by cases h⟩
 |cons z zs ih=>
 intro vs hs hr hl;cases vs with
 |nil=>cases hl
 | cons v vs=>
  obtain⟨fs,h1,h2,h3⟩:=ih vs (λz hz=>hs z (aI _ hz)) (λi hi=>by
   obtain⟨as,r⟩:=hr (i+1) (by simpa using hi);exact⟨as,by simpa using r⟩) (by simpa using hl)
  obtain⟨as,r⟩:=hr 0 @i;have hz:=hs z @i;simp only[List.getD_cons_zero] at r;cases z<;>first |(cases hz;done) |skip
  rename_i ds;cases ds with
  |nil=>cases hz
  | cons d ds=>
   have hz:(dh s1 d&&fP l ds)=true:=hz;rw[aJ] at hz;cases r with
   | tuple k1 k2 k3 k4=>
    rename_i p o ws c;have k5:iI h ws.toList (pd d::oC ds) as:=k4;cases q:ws.toList with
    |nil=>rw[q] at k5;cases k5
    | cons f rest=>
     rw[q] at k5;cases k5 with
     | cons r1 r2=>
      have hf:ws[0]?=some f:=by
       have:ws.toList[0]?=some f:=by rw[q];rfl
       ext f
      refine⟨f::fs,.cons k1 k2 k3 hf h1,by simp[h2],λg hg=>?_⟩;rcases List.mem_cons.mp hg with rfl |hg
      .exact⟨d,_,hz.1,r1⟩
      .exact h3 g hg
noncomputable def Pj:pA->Value
 |.int=>.type "int"
 |.tup _=>@ad
 |.lst _=>@Q
theorem C7(hs:dh sh d=true)(r:Reads h v (pd d) as):Looks M h (typeOf v) (Pj sh):=by
 cases sh with
 |int=>
  cases d<;>first |(cases hs;done) |skip
  cases r;exact .now
 | tup l=>
  cases d<;>first |(cases hs;done) |skip
  cases r with
  |tuple k1 k2 k3 k4=>
   rename_i p o ws c;have:Looks M h (typeOf (.ref p)) o.cls:=(Looks.ld k1).andThen .now;rw[k2] at this;exact this
 | lst l=>
  cases d<;>first |(cases hs;done) |skip
  cases r with
  |list k1 k2 k3 k4=>
   rename_i p o ws c as;have:Looks M h (typeOf (.ref p)) o.cls:=(Looks.ld k1).andThen .now;rw[k2] at this;exact this
theorem NN{prog:bC}{w:World}{A:cH}{s:ay}{E:@C}{Q:Bool->@X}{n:Nat}{b:Bool}{l:List pA}{a c:D}{u v:Value}{as bs:@ay}(hn:(pd a).depth<=n+1)(h1:dh (.tup l) a=true)(h2:dh (.tup l) c=true)(n1:nr a=true)(n2:nr c=true)
  (r1:Reads s.heap u (pd a) as) (r2:Reads s.heap v (pd c) bs) (hu:A.units+n<cLine) (hq:Q (qz a c) s):wpAny @J A (keyLt' (tuples' b) u v) Q E s:=by
 ext j
 ext k
 rename_i xs ys;cases r1 with
 | tuple k1 k2 k3 k4=>
  cases r2 with
  | tuple m1 m2 m3 m4=>
   rename_i p o vs c p' o' ws c';have z1:=readsAll_len k4;have z2:=readsAll_len m4;have e1:vs.size=xs.length:=by simpa using z1
   have e2:ws.size=ys.length:=by simpa using z2
   have el:∀(l:List pA) (xs ys:@e),fP l xs=true->fP l ys=true->xs.length=ys.length:=by
    intro l;induction l with
    | nil=>
     intro xs ys h1 h2;cases xs with
     |nil=>cases ys with
      |nil=>rfl
      |cons _ _=>cases h2
     |cons _ _=>cases h1
    | cons s l ih=>
     intro xs ys h1 h2;cases xs with
     |nil=>cases h1
     | cons x xs=>
      cases ys with
      |nil=>cases h2
      |cons y ys=>
       have h1:(dh s x&&fP l xs)=true:=h1;have h2:(dh s y&&fP l ys)=true:=h2;rw[aJ] at h1 h2;rw[aj,aj,ih xs ys h1.2 h2.2]
   have hd:(pd (.tup xs)).depth=cF (oC xs)+1:=rfl;refine kat_lt k1 k3 m1 m3 (Er (n:=n) hu l xs ys _ _ _ _ 0 h1 h2 n1 n2 k4 m4 @c (decide_eq_false (by rw[e1,e2,el l xs ys h1 h2];lia)) hq)
section
variable {X:Cx}
theorem NF(ty:IJ x G)(hi:itemsOf x G=some zs):oQ x G=some zs:=by
 cases x<;>first |exact ty.elim |exact hi
theorem EY (hc:@aI) (hu:@av):ky X (.builtin "sorted") rz:=by
 intro pins s σ H G xs ds us Q I ab rx rd q;unfold rz at q;split at q
 .rename_i x;obtain⟨sh,zs,ty,hi,xb,bP,h64,q⟩:=q;obtain⟨w1,rfl,wg⟩:=rd.one;obtain⟨u,rfl,ru⟩:=rx.one;obtain⟨l,vs,bT,rfl,rv,rs,hl,_⟩:=oh I ab ru wg (NF ty hi);have hl1:=rv.length;have yU:=rs.length;have hsz:bc=16777216:=cX;have hz:∀z∈zs,dh sh z=true:=λz h=>List.all_eq_true.mp xb z h;by_cases EF:bT.length<2
  .refine Ju hl EF ?_;obtain⟨e,he⟩:=sortedAll_at s.heap bT bT.toArray;have hp:H (@bq)=none:=I.bP.fresh (Jf _);have es:sU zs=zs:=wd sh hz (.refl _) (by
    match zs,yU,EF with
    |[],_,_=>exact .nil
    |[z],_,_=>exact ON _ _
    |_::_::_,h,f=>exact absurd f (by rw[<-hl1,h];simp))
   rw[es] at q;refine⟨.ref (@bq),upd H (@bq) (.lst vs),.ref _,_,I.laid (t':=s.toks) (λb o e=>sortedAll_old e) (Jf _) ?_,.El ab hp rs,rfl,.ref _,q _ (ab.free hp)⟩;exact⟨@f,bT,e,rv,he⟩
  .obtain⟨m,F0⟩:=I.fr;have nz:0<zs.length:=@f
   have nL:∀b o vs n,o.data=.seq vs n->@T->@bh:=λb o vs n e1 e2 z=>by
    obtain⟨o',es,ep,Dj,Cb,_⟩:=F0.ns;rw[z,Dj] at e2;cases e2;rw[Cb] at e1;cases e1
   unfold X7 at bP;rw[aJ] at bP;have hdp:WM sh<=7:=of_decide_eq_true bP.1;have sn:∀z∈zs,Sn G 7 z z:=λz h=>Jv G sh z 7 (hz z h) hdp;refine kat_sorted F0 GD hl @c @c λDd e1 h' F N yf=>?_;obtain⟨kk,ns⟩:=yb I F0 F λp hp=>N p (aI _ hp);have Gh:∀i,i<bT.length->∃as,Reads h' (bT.getD i .none) (pd (@a9)) as:=λi hi=>by
    have i1:i<zs.length:=@f
    have i2:i<vs.length:=@f
    have g1:@a9=zs[i]:=getD_at _ _ i1;have g2:bT.getD i .none=bT[i]:=getD_at _ _ hi;obtain⟨v,hv,Xu⟩:=rs.get (aA i1);obtain⟨u,Kb,ruv⟩:=rv.get hv;rw[aA hi] at Kb;cases Kb;obtain⟨as,r⟩:=(lq I ab (sn _ (eW i1))).1 v _ Xu ruv;rw[g1,g2];exact⟨as,yE (λb o vs n e1 e2=>kk b o (nL b o vs n e1 e2) e2) _ (sn _ (eW i1)).nr r⟩
   have CT:∀i,i<zs.length->dh sh (@a9)=true:=λi hi=>by rw[getD_at _ _ hi];exact hz _ (eW hi)
   have nrz:∀i,i<zs.length->nr (@a9)=true:=λi hi=>by rw[getD_at _ _ hi];exact(sn _ (eW hi)).nr
   have dpz:∀i,i<zs.length->(pd (@a9)).depth<=7:=λi hi=>by rw[getD_at _ _ hi];exact ER (sn _ (eW hi))
   let zz:Nat->D:=λi=>if i<zs.length then @a9 else zs.getD 0 .eX
   have ZO:∀i,dh sh (zz i)=true:=λi=>by
    show dh sh (if i<zs.length then @a9 else zs.getD 0 .eX)=true;split
    .exact CT i (by assumption)
    .exact CT 0 nz
   let lt:Nat->Nat->Bool:=λi j=>qz (zz i) (zz j)
   have swo:Oy lt:=⟨λi j h=>C6 sh (ZO i) (ZO j) h,λi j k h1 h2=>A8 sh (ZO i) (ZO j) (ZO k) h1 h2⟩;have lte:∀i j,i<zs.length->j<zs.length->lt i j=qz (@a9) (zs.getD j .eX):=λi j hi hj=>by
    show qz (if i<zs.length then _ else _) (if j<zs.length then _ else _)=_;rw[if_pos hi,if_pos hj]
   obtain⟨p,ep,Hk,psz,hup⟩:=PD swo (n:=bT.length) @c;have hA2:X.A.in1.in1.units=X.A.units+2:=rfl;have ask:∀κ:SortKind,(∀i j,i<bT.length->j<bT.length->∀C:Bool->@X,C (qz (@a9) (zs.getD j .eX)) @an->kas_ask X.prog X.w X.A.in1.in1 κ bT i j C @an) ->
     (kas_sort bT.length).kasWp (kas_ask X.prog X.w X.A.in1.in1 κ bT) (λp Xo=>KasFin X.base X.env.locals m Dd e1 (p.toList.map λi=>bT.getD i dG) (λs3=>uN X pins σ H G Q (.ref Dd) s3) Xo) @an:=by
    intro κ hk;refine GY (lt:=lt) (n:=bT.length) (λi j i1 i2 C hC=>hk i j i1 i2 C (by rw[<-lte i j @c @c];exact hC)) _ (Sx @c) ?_;rw[ep];refine KasFin.intro (g:=λo=>(Dd,o)::uM X.base s.heap X.env.locals) F N (.head (λq hq z=>absurd (yf q hq) (by rw[z];exact ie _))) λh2 c F2 N2=>?_;obtain⟨k2,ns2⟩:=yb I F0 F2 λp hp=>N2 p (aI _ hp);have hD:s.heap.get? Dd=none:=by
     have nD:=N _ cw;cases qd:s.heap.get? Dd with
     |none=>rfl
     |some o=>exact absurd (yf _ (yR nD.2.1 nD.2.2 qd)) (ie _)
    have hp:H Dd=none:=Md I.bP hD;have rvp:Vals (p.toList.map λi=>vs.getD i .eX) (p.toList.map λi=>bT.getD i dG):=by
     have:∀(ps:List Nat),(∀i∈ps,i<bT.length)->Vals (ps.map λi=>vs.getD i .eX) (ps.map λi=>bT.getD i dG):=by
      intro ps;induction ps with
      |nil=>intro _;exact .nil
      |cons i ps ih=>
       intro hh;have hi:=hh i @i;refine .cons ?_ (ih λj hj=>hh j (aI _ hj));have i2:i<vs.length:=@f
       obtain⟨u,Kb,ruv⟩:=rv.get (aA i2);rw[aA hi] at Kb;cases Kb;show RelV (vs.getD i .eX) (bT.getD i .none);rw[getD_at _ _ i2,getD_at _ _ hi];exact ruv
     exact this _ λi hi=>by simpa using Hk.mem_iff.mp hi
    have rsp:bo X.K H (p.toList.map λi=>vs.getD i .eX) (p.toList.map λi=>@a9):=by
     have:∀(ps:List Nat),(∀i∈ps,i<bT.length)->bo X.K H (ps.map λi=>vs.getD i .eX) (ps.map λi=>@a9):=by
      intro ps;induction ps with
      |nil=>intro _;exact .nil
      |cons i ps ih=>
       intro hh;have hi:=hh i @i;refine .cons ?_ (ih λj hj=>hh j (aI _ hj));have i2:i<vs.length:=@f
       have i1:i<zs.length:=@f
       obtain⟨v,hv,r⟩:=rs.get (aA i1);rw[aA i2] at hv;cases hv;show bW X.K H (vs.getD i .eX) (@a9);rw[getD_at _ _ i2,getD_at _ _ i1];exact r
     exact this _ λi hi=>by simpa using Hk.mem_iff.mp hi
    have es:sU zs=p.toList.map λi=>@a9:=by
     refine wd sh hz ?_ ?_
     .have h1:(p.toList.map λi=>@a9).Perm ((eV zs.length).map λi=>@a9):=by
       have:bT.length=zs.length:=@f
       rw[<-this];exact Hk.map _
      rw[A3] at h1;exact h1
     .rw[iR,List.pairwise_iff_getElem];intro i j hi hj Kf;have g1:gA p i=p.toList[i]:=by
       have:i<p.size:=by simpa using hi
       simp[gA,Lb,this]
      have g2:gA p j=p.toList[j]:=by
       have:j<p.size:=by simpa using hj
       simp[gA,Lb,this]
      have bi:p.toList[i]<bT.length:=by simpa using Hk.mem_iff.mp (eW hi)
      have bj:p.toList[j]<bT.length:=by simpa using Hk.mem_iff.mp (eW hj)
      have:=hup i j @c (by have:j<p.toList.length:=hj;rw[cT,psz] at this;exact this);rw[g1,g2,lte _ _ @c @c] at this;exact this
    rw[es] at q;have ln:(p.toList.map λi=>vs.getD i .eX).length<=bc:=by rw[ar,cT,psz];lia
    refine⟨.ref Dd,upd H Dd (.lst (p.toList.map λi=>vs.getD i .eX)),.ref _,_,Inv.Wq (t':=s.toks) I k2 ns2 hD ?_,.El ab hp rsp,rfl,.ref _,q _ (ab.free hp)⟩;exact⟨ln,_,c,rvp,(N2 _ cw).1⟩
   have gen:∀i j,i<bT.length->j<bT.length->∀C:Bool->@X,C (qz (@a9) (zs.getD j .eX)) @an->wpAny @o X.A.in1.in1 (keyLt' oneType' (bT.getD i dG) (bT.getD j dG)) C (@j) @an:=by
    intro i j hi hj C hC;obtain⟨as,r1⟩:=Gh i hi;obtain⟨bs,r2⟩:=Gh j hj;rw[keyLt'_oneType];exact yP (s:=@an) (n:=7) (dpz i @c) (CT i @c) (CT j @c) (nrz i @c) (nrz j @c) r1 r2 (by rw[hA2];lia) X.prog X.w _ C hC
   have lk:∀v∈bT,Looks @o h' (typeOf v) (Pj sh):=λv hv=>by
    obtain⟨i,hi,rfl⟩:=List.getElem_of_mem hv;obtain⟨as,r⟩:=Gh i hi;rw[getD_at _ _ hi] at r;exact C7 (CT i @c) r
   cases sh with
   |int=>exact kas_kind (s:=@an) (T:=.type "int") @c lk rfl rfl (ask oneType' gen)
   |lst ss=>exact kas_kind (s:=@an) (T:=@Q) @c lk rfl rfl (ask oneType' gen)
   | tup ss=>
    cases ss with
    |nil=>exact absurd bP.2 @i
    |cons s1 ss=>
     obtain⟨fs,t1,t2,t3⟩:=FW (h:=h') zs bT hz Gh @c;refine kat_kind (s:=@an) (T:=Pj s1) t1 @c (λf hf=>?_) (by cases s1<;>rfl) (ask _ λi j hi hj C hC=>?_)
     .obtain⟨d,as,h1,h2⟩:=t3 f hf;exact C7 h1 h2
     .obtain⟨as,r1⟩:=Gh i hi;obtain⟨bs,r2⟩:=Gh j hj;exact NN (s:=@an) (n:=7) (by have:=dpz i @c;lia) (CT i @c) (CT j @c) (nrz i @c) (nrz j @c) r1 r2 (by rw[hA2];lia) hC
 ext e
end
end K2
end
section
namespace L2
open PySem PySem.Spec PyProof.Rows
section
variable {prog:bC} {w:World} {A:cH} {E:@C} {s:ay}
theorem vD{d:Addr}{od:Obj}{es:Array ft}{c:Nat}{Q:@C}(ns:(d == cu)=false)(Fs:s.heap.get? d=some od)(ex:od.ExactDict)(dd:od.data=.dict es c)
  (hQ:Q (@as) {s with heap:=s.heap.push {cls:=.type "dict_keyiterator",data:=.fields #[.ref d,.int 0 0,.int es.size 0,.int c 0]}}):wpAny @J A (KZ (.ref d)) Q E s:=by
 have ty:s.TypeIs (.ref d) "dict":=⟨od,Fs,ex.1⟩;refine pD ty F.slot_dict_iter (cV F.slot_dict_iter ty F.entry_dict_iter ?_ (F.args_dict_iter_1 _));unfold Builtin.«dict.__iter__» Builtin.Dict.dictSlotNone;refine ag (ag (kH ty (show wpAny _ _ (pure (dg d)) _ _ s from az ?_)));show wpAny _ _ (jq d >>= _) _ _ s;unfold jq;rw[if_neg (λz=>by rw[ns] at z;cases z)];refine ag (az (ag (dQ Fs dd (ag (ju Fs dd ?_)))));refine ag (cG (az ⟨_,rfl,"dict_keyiterator",_,⟨_,@au,rfl⟩,F.slot_dict_keyiterator_next.lookup,?_⟩));simpa[si] using hQ
theorem Dc{it d:Addr}{od:Obj}{es:Array ft}{i c:Nat}{Q:Option Value->@X}(ki:s.heap.IsKeyIter it d i es.size c)(Fs:s.heap.get? d=some od)(dd:od.data=.dict es c)(hi:i<es.size)
  (hQ:∀h',h'.IsKeyIter it d (i+1) es.size c->fI it s.heap h'->Q (some es[i].key) @an):wpAny @J A (sk (.ref it)) Q E s:=by
 obtain⟨o,ho,hc,hf⟩:=id ki;unfold sk;refine ag (rO (jR (name:=rY "__next__") ki.typeIs j7 (cV j7 ki.typeIs Jk ?_ (IH _))));refine ag (az (ag (ag ?_)))
 first |refine ag (j0 ki.typeIs (az ?_)) |refine ag (mj ki.typeIs (az ?_))
 refine ag (pT ho hf ?_);have XY:fM "dict_keyiterator"=false:=@d
 rw[XY];show wpAny _ _ (if(dg d == dG)=true then _ else _) _ _ s;rw[if_neg (λz=>by cases z)];refine ag (az (ag (dQ Fs dd ?_)));rw[if_neg @i];refine ag (az (ag (ju Fs dd ?_)));rw[if_neg @i];refine az ?_;dsimp only;rw[if_neg (show ¬ ((i:Int)<0) from Int.not_lt.mpr (sd i)),ff,ij hi];dsimp only;refine ag ?_
 first |refine ag (j0 ki.typeIs (az ?_)) |refine ag (mj ki.typeIs (az ?_))
 refine ag (wpAny_isOneOf_keyiter ki.typeIs ?_);show wpAny _ _ (FF (.ref it) 1 (si ((i:Int)+1)) >>= _) _ _ s;refine ag (vm ho hf @i ?_);have ki2:(s.heap.update it (vo (·.setIfInBounds 1 (si ((i:Int)+1))))).IsKeyIter it d (i+1) es.size c :=
  ⟨_,eA _ ho (Tw (rZ hf _)),(Obj.cls_mapFields ..).trans hc,by rw[rZ hf];simp[si]⟩
 refine ag (ck (ag (wpAny_isOneOf_keyiter (s:={s with heap:=s.heap.update it (vo (·.setIfInBounds 1 (si ((i:Int)+1))))}) ki2.typeIs ?_)));show wpAny _ _ (pure es[i].key) _ _ _;exact az (az ⟨_,rfl,az (hQ _ ki2 (j6 ..))⟩)
theorem GW{it d:Addr}{od:Obj}{es:Array ft}{i c:Nat}{Q:Option Value->@X}(calm:A.handled=none)(ki:s.heap.IsKeyIter it d i es.size c)(Fs:s.heap.get? d=some od)(dd:od.data=.dict es c)(hi:es.size<=i)
  (hQ:∀h',Heap.ExtBut it s.heap h'->Q none @an):wpAny @J A (sk (.ref it)) Q E s:=by
 obtain⟨o,ho,hc,hf⟩:=id ki;unfold sk;refine ag (rO (jR (name:=rY "__next__") ki.typeIs j7 (cV j7 ki.typeIs Jk ?_ (IH _))));refine ag (az (ag (ag ?_)))
 first |refine ag (j0 ki.typeIs (az ?_)) |refine ag (mj ki.typeIs (az ?_))
 refine ag (pT ho hf ?_);have XY:fM "dict_keyiterator"=false:=@d
 rw[XY];show wpAny _ _ (if(dg d == dG)=true then _ else _) _ _ s;rw[if_neg (λz=>by cases z)];refine ag (az (ag (dQ Fs dd ?_)));rw[if_neg @i];refine ag (az (ag (ju Fs dd ?_)));rw[if_neg @i];refine az ?_;dsimp only;rw[if_neg (show ¬ ((i:Int)<0) from Int.not_lt.mpr (sd i)),ff,vr hi];dsimp only;refine ag ?_
 first |refine ag (j0 ki.typeIs (az ?_)) |refine ag (mj ki.typeIs (az ?_))
 show wpAny _ _ (FF (.ref it) 0 .none >>= _) _ _ s;refine ag (vm ho hf @i ?_);show wpAny _ _ (newExc (.type "StopIteration") [] >>= _) _ _ _;refine ag ?_;simp only[newExc,newTuple];refine ag (cG (ag (m:=CL _ _) (O5 (a:=dG) (by first |rfl |(simp only[CL];rfl)) (cG ?_ (by size_fits)))) (by size_fits));simp only[raiseNew];refine ag (wpAny_handled ?_);rw[show A.in1.handled=none from calm];refine ag (az (wpAny_throw ?_));refine ag (iF (T:="StopIteration") (b:=true) ⟨_,@au,rfl⟩ isSubtype_stop (?_));exact az (hQ _ (((j6 ..).extBut.push _).push _))
end
noncomputable def Itk(a:Addr)(o:Obj)(es:Array ft)(ks:@w):It :=
 ⟨λi H=>(∃u,H a=some (.i9 o u))/\i<es.size,λi H v H'=>H'=H/\ks[i]?=@Y,λi H=>(∃u,H a=some (.i9 o u))/\es.size<=i⟩
theorem CO{K:aq}(a it)(o)(es)(c)(ks)(dd:o.data=.dict es c)(hk:∀i (h:i<es.size),∃v,ks[i]?=@Y/\RelV v es[i].key):
  Turn P w K tg (Itk a o es ks) [it] it (λi h=>h.IsKeyIter it a i es.size c) where
 mem:=@G
 obj:=λi h st b hb=>by
  have e:b=it:=@bf
  subst e;obtain⟨o',q,_,d⟩:=st;exact⟨o',q,λv z=>by rw[d] at z;cases z⟩
 keep:=(by rintro i h h' ⟨o',q,r⟩ k;exact⟨o',k it @i o' q,r⟩)
 item:=by
  ext i;subst hP hw hK;obtain⟨⟨u,hu⟩,hi⟩:=hg;obtain⟨f0,f1,f2,f3,f4,f5⟩:=hf it @i;obtain⟨v,hv,rv⟩:=hk i hi;refine Dc st (I.bP a _ hu).1 dd hi λh' Fp sb=>?_;have I1:Inv X pins σ H @an:=I.turned (t':=s.toks) (λb o hb e=>(sb.2 b hb).trans e) f0 f1 f3 f4 f5;obtain⟨o',e,cl,d'⟩:=id Fp;exact⟨_,rfl,Ma (s:=@an) e cl d' (@d) ⟨v,H,I1,rv,⟨rfl,hv⟩,Fp,λb hb=>(hf b hb).1⟩⟩
 done:=by
  ext i;subst hP hw hK;obtain⟨⟨u,hu⟩,hi⟩:=hg;obtain⟨f0,f1,f2,f3,f4,f5⟩:=hf it @i;exact GW (I.ok.hd hc) st (I.bP a _ hu).1 dd hi λh' eb=>⟨rfl,I.turned (t':=s.toks) (λb o hb e=>eb b o hb e) f0 f1 f3 f4 f5⟩
 self:=λA i s Q E st h=>by
  refine pD st.typeIs K8 (cV K8 st.typeIs F.entry_dict_keyiterator_iter ?_ (F.args_dict_keyiterator_iter_1 _));show wpAny _ _ (ret (.ref it)) _ _ s;exact az ⟨_,rfl,"dict_keyiterator",_,st.typeIs,F.slot_dict_keyiterator_next.lookup,h⟩
end L2
namespace K2
open PySem PySem.Spec PyProof.Rows L2
section
variable {X:Cx} {tg a:Expr} {ta:fB} {pos p:Pos}
theorem qf:∀{l:@v} {m:List β},kz F l m->∀i (h1:i<l.length) (h2:i<m.length),F l[i] m[i]:=by
 intro l m h;induction h with
 |nil=>intro i h1;exact absurd h1 (gL i)
 |cons h t ih=>
  intro i h1 h2;cases i with
  |zero=>exact h
  |succ i=>exact ih i (S2 h1) (S2 h2)
theorem GZ(h:(cM P w).is k u=true):RelV (kV k) u:=by
 rcases fi h with ⟨i,t,rfl,rfl⟩ |⟨x,t,rfl,rfl⟩
 .exact⟨t,rfl⟩
 .exact⟨t,rfl⟩
theorem mP.keys{K:aq}:∀{kv:@aE} {kvs:@af},mP K H kv kvs->kvs.map @k=kv.map λp=>eL p.1:=λh=>
 mP.ind (motive:=λkv kvs _=>kvs.map @k=kv.map λp=>eL p.1) rfl (λ_ _ ih=>congrArg (_::·) ih) h
theorem my.keys{K:aq}:∀{kv:@a4} {kvs:@af},my K H kv kvs->kvs.map @k=kv.map λp=>D.tup (p.1.map eL):=λh=>
 my.ind (motive:=λkv kvs _=>kvs.map @k=kv.map λp=>D.tup (p.1.map eL)) rfl (λ_ _ ih=>congrArg (_::·) ih) h
theorem AA{K:aq}(k):bW K H (kV k) (eL k):=by
 cases k with
 |inl i=>exact @A
 |inr x=>exact .str x
theorem uh{K:aq}:∀(ks:List Key),bo K H (ks.map kV) (ks.map eL)
 |[]=>.nil
 |k::ks=>.cons (AA k) (uh ks)
theorem Qa(ha:dE X a ta):xJ X tg a (gx ta):=by
 intro E pins s σ H τ G R hE I h;refine iK ha hE I h λx H1 d G1 v s1 I1 m1 r1 ja q1=>?_;unfold uE at q1;have go:∀(l:Addr) (o:Obj) (u:HO) (kvs:@af) (es:Array ft) (c:Nat) (ks:@w),(l == cu)=false->H1 l=some (.i9 o u)->o.ExactDict->o.data=.dict es c->(∀i (h:i<es.size),∃v,ks[i]?=@Y/\RelV v es[i].key)->ks.length=es.size ->
   bo X.K H1 ks (kvs.map @k)->R (kvs.map @k) @aw G1->wpAny @o X.A (KZ (.ref l)) (KL X pins σ tg H G R) X.xe s1:=by
  intro l o u kvs es c ks ns hl ex dd hk hlen rs q;refine vD ns (I1.inv.bP l _ hl).1 ex dd ?_;refine⟨s1.heap.objs.size,[s1.heap.objs.size],_,_,H1,G1,kvs.map @k,_,rfl,I1.inv.kept (t':=s1.toks) λb o e=>aF _ e,m1,CO l _ o es c ks dd hk,⟨_,@au,rfl,rfl⟩,λb hb=>?_,λi H2 G2 k ab _=>?_,q⟩
  .have e:b=s1.heap.objs.size:=@bf
   subst e;exact I1.inv.Bp @D (I1.inv.bP.fresh @D)
  .have yU:=k.i9 _ _ _ hl;have Fq:=rs.mono k;refine⟨λd hd=>?_,λhle=>⟨⟨u,yU⟩,by rw[<-hlen,rs.length];exact hle⟩⟩;obtain⟨v,hv,r⟩:=Fq.get hd;have hi:i<es.size:=by rw[<-hlen];exact(List.getElem?_eq_some_iff.mp hv).1
   refine⟨⟨⟨u,yU⟩,hi⟩,?_⟩;rintro x H3 ⟨e,y⟩;subst e;rw[hv] at y;cases y;exact⟨r,@V⟩
 cases ja with
 | pM hq rs=>
  rename_i l o kv kvs;cases r1;obtain⟨z,ns,vs,rel,ob,es,ep,ho,ex,dd,hko,hp,nd⟩:=(I1.inv.bP l _ hq).2;have eo:ob=o:=by have:=(I1.inv.bP l _ hq).1;rw[ho] at this;exact aX this
  subst eo;have l1:es.size=vs.length:=by simpa using hp.length
  have l2:kv.length=vs.length:=gz rel;refine go l ob _ kvs es ep (kv.map λp=>kV p.1) ns hq ex dd (λi hi=>?_) (by rw[ar];lia) ?_ q1
  .have i2:i<vs.length:=@f
   have i3:i<kv.length:=@f
   have g1:=(hp.get? (e:=es[i]) (k:=vs[i].1) (v:=vs[i].2) (by rw[aA (by simpa using hi)];simp) (by rw[aA i2])).1;refine⟨kV kv[i].1,by simp[i3],?_⟩;have ek:kv[i].1=vs[i].1:=(qf rel i i3 i2).1;rw[ek];exact GZ g1
  .rw[rs.keys];have:∀(l:@aE),bo X.K H1 (l.map λp=>kV p.1) (l.map λp=>eL p.1):=by
    intro l;induction l with
    |nil=>exact .nil
    |cons p l ih=>exact .cons (AA p.1) ih
   exact this kv
 | pL hq rs=>
  rename_i l o kv kvs;cases r1;obtain⟨z,ns,xs,rel,ob,es,ep,ho,ex,dd,hl,nd⟩:=(I1.inv.bP l _ hq).2;have eo:ob=o:=by have:=(I1.inv.bP l _ hq).1;rw[ho] at this;exact aX this
  subst eo;have l1:=congrArg cU hl;rw[ar,cT] at l1;refine go l ob _ kvs es ep (xs.map λq=>V.ref q.2.1) ns hq ex dd (λi hi=>?_) (by rw[ar];lia) ?_ q1
  .have i2:i<xs.length:=@f
   refine⟨.ref xs[i].2.1,by simp[i2],?_⟩;have:es[i]=entryOfKey (gS (@bb)) xs[i]:=by
    have:=congrArg (λl=>l[i]?) hl;simp only[bx,aA i2] at this;simpa[hi] using this
   rw[this];rfl
  .rw[rs.keys];have:∀(kv:@a4) (xs:List (List Key×@aO)),kz (λ(p:List Key×V) (q:List Key×@aO)=>p.1=q.1/\H1 q.2.1=some (.tup (p.1.map kV))/\RelV p.2 q.2.2) kv xs->bo X.K H1 (xs.map λq=>V.ref q.2.1) (kv.map λp=>D.tup (p.1.map eL)):=by
    intro kv xs r;induction r with
    |nil=>exact .nil
    |cons h _ ih=>exact .cons (.tup h.2.1 (uh _)) ih
   exact this kv xs rel
 |_=>ext c
end
end K2
end
section
namespace L2
open PySem PySem.Spec PyProof.Rows PySem.W
section
variable {prog:bC} {w:World}
theorem Jn(hh:A.handled=none)(zH:d≠it)(dd:od.data=.dict es c):
  PySem.Walks prog w A it [it,d] [it] es.size (λi v=>∃h:i<es.size,v=es[i].key) (λi h=>h.IsKeyIter it d i es.size c/\h.get? d=some od) where
 sub:=λb hb=>by simp at hb;simp[hb]
 frame:=λi h h' st hk=>⟨st.1.at λo e=>hk it @i o e,hk d @i od st.2⟩
 item:=λi s Q E hi st hQ=>Dc st.1 st.2 dd hi λh' Fp sb=>hQ _ h' s.toks ⟨hi,rfl⟩ ⟨Fp,(sb.2 d zH).trans st.2⟩ λb o hb e=>(sb.2 b (@bf)).trans e
 done:=λs Q E st hQ=>GW hh st.1 st.2 dd @D λh' eb=>hQ h' s.toks λb o hb e=>eb b o (@bf) e
 self:=λi s Q E st hQ=>wpAny_pyIter_keyiter st.1 hQ
theorem F3(ns:(d == cu)=false)(ex:od.ExactDict)(dd:od.data=.dict es c):
  KdlSrc prog w "dict" d d es.size (λi v=>∃h:i<es.size,v=es[i].key) (λh=>h.get? d=some od) where
 type:=λs bP=>⟨od,bP,ex.1⟩
 there:=λh bP=>⟨aO bP,aO bP⟩
 keep:=λh h' bP hk=>hk d (@W) od bP
 notList:=@d
 notTuple:=@d
 hint:=λA E s Q bP hq=>kdl_hint_dict ⟨od,bP,ex.1⟩ hq
 iter:=λA s hh bP=>⟨_,_,(λE Q hq=>vD ns bP ex dd hq),Jn hh (br (aO bP)) dd,⟨⟨_,@au,rfl,rfl⟩,aF _ bP⟩⟩
end
end L2
namespace K2
open PySem PySem.Spec PyProof.Rows L2 PySem.W
section
variable {X:Cx}
theorem Lc:∀(ks:@w) (us:@s),ks.length=us.length->(∀i (h1:i<ks.length) (h2:i<us.length),RelV ks[i] us[i])->Vals ks us
 |[],[],_,_=>.nil
 |[],_::_,h,_=>by cases h
 |_::_,[],h,_=>by cases h
 |k::ks,u::us,h,hr=>.cons (hr 0 @i @i) (Lc ks us (@bc) λi h1 h2=>hr (i+1) (by simpa using h1) (@a_))
end
end K2
end
section
namespace L2
open PySem PySem.Spec PyProof.Rows
section
variable {X:Cx}
def SX(i j:Int):Prop:=i.natAbs<2 ^ 4000/\j.natAbs<2 ^ 4000
theorem SX.ok(h:SX i j):IntMulOk i j:=by
 have h1:=intBits_le h.1;have h2:=intBits_le h.2;unfold IntMulOk;intro z;rw[aJ] at z;have z2:((Jl i+Jl j:Nat):Int)>(bitsLine:Int):=of_decide_eq_true z.2;have hb:8000<=bitsLine:=@d
 lia
theorem UU:MC X (jS .Mult) (rI SX λi j=>.int (i*j)):=opI λ_ _ _ _ _ _ _ hc q=>mul_int q hc.ok
end
end L2
namespace K2
open PySem PySem.Spec PyProof.Rows L2
section
variable {X:Cx}
theorem Qs:ku X (jS .Mult) wA:=by
 ext g;cases dX with
 |int i=>
  cases dY with
  |int j=>exact gQ (UU pins s σ H _ _ v u (Ce X.K H G Q) I rx ry ⟨i,j,rfl,rfl,q.1,_,_,@V,@P,q.2⟩) λ_ _ z=>.of z
  |_=>exact bI q
 |_=>exact bI q
theorem tU(I:@m)(ab:@aA)(rd:bW X.K H x d)(hd:xm d G=some kvs)(h1:wX kvs=true):
  ∃a kv vs,x=@S/\mP X.K H kv kvs/\kv.length<=bc/\(a == cu)=false/\KV kv vs/\s.heap.DictOf (@bb) a vs:=by
 have empty:∀(a:Addr) (kv:@a4),fQ X.prog X.w H s.heap a (.dT kv)->my X.K H kv kvs ->
   ∃a' kv vs,V.ref a=.ref a'/\mP X.K H kv kvs/\kv.length<=bc/\(a' == cu)=false/\KV kv vs/\s.heap.DictOf (@bb) a' vs:=by
  intro a kv ok rs;cases rs with
  |nil=>
   obtain⟨z,hm,xs,rel,o,es,ep,ho,hx,Cb,hl,nd⟩:=ok;have hv:xs=[]:=by cases rel;rfl
   subst hv;have he:es=#[]:=by simpa using hl
   subst he;exact⟨a,[],[],rfl,.nil,cm _,hm,.nil,o,#[],ep,ho,hx,Cb,(λ_ h=>by simp at h),.nil,bR⟩
  |cons _ _=>simp[wX,eT] at h1
 cases rd with
 |pM hq rs=>
  cases(show some _=some kvs from hd);obtain⟨z,hm,vs,rel,dd⟩:=vh I.bP (.inr ⟨_,hq⟩);exact⟨_,_,vs,rfl,rs,z,hm,rel,dd⟩
 |pL hq rs=>
  cases(show some _=some kvs from hd);exact empty _ _ (I.bP _ _ hq).2 rs
 | ref a=>
  unfold xm at hd;dsimp only at hd;split at hd
  .rename_i kv' hg;cases hd;rcases ab a _ hg with ⟨kv,hv,rs⟩ |⟨kv,hv,rs⟩
   .obtain⟨z,hm,vs,rel,dd⟩:=BE I.bP hv;exact⟨a,kv,vs,rfl,rs,z,hm,rel,dd⟩
   .exact empty a _ (I.bP _ _ hv) rs
  .cases hd
 |_=>cases hd
theorem KG:ky X (@aN) vi:=by
 intro pins s σ H G xs ds us Q I ab rx rd q;unfold vi at q;split at q
 .rename_i x;obtain⟨kvs,hd,h1,hl,q⟩:=q;obtain⟨v,rfl,r⟩:=rd.one;obtain⟨a,kv,vs,rfl,rs,z,hm,rel,dd⟩:=tU I ab r hd h1;obtain⟨u,rfl,ru⟩:=rx.one;cases ru;refine kt_call_dict hm dd (by rw[<-rel.length];exact z) λh' xn hs=>?_;have hp:H s.heap.objs.size=none:=I.bP.fresh @D;refine⟨.ref _,upd H s.heap.objs.size (.dK kv),.ref _,_,I.laid (a:=s.heap.objs.size) (o:=.dK kv) (t':=s.toks) (λb q hq=>?_) @D (BF z (beq_eq_false_iff_ne.mpr (dD (br I.big))) rel xn),.new ab hp (.dk bM (rs.mono (@ah))),rfl,.ref _,q _ (ab.free hp)⟩;exact(hs.2 b (br (aO hq))).trans (aF _ hq)
 ext e
theorem Vc:KR X "dict.get" zo:=by
 intro pins s σ H G x d xs ds v us Q I ab rx rd Ta Gh q;unfold zo at q;split at q
 .rename_i k d';obtain⟨kvs,hd,h1,hk,q⟩:=q;obtain⟨w,w2,rfl,wg,F9⟩:=Gh.two;obtain⟨u1,u2,rfl,Co,D6⟩:=vals2 Ta;obtain⟨a,kv,vs,rfl,rs,z,hm,rel,dd⟩:=tU I ab rd hd h1;cases rx;obtain⟨kk,rfl⟩:=qU hk;have ey:=qO wg;subst ey;refine z8 mC dd.typeIs K6 (Je _ _ _) (meets_dict_get_default (@bb) a (Bf Co) hm u2) ⟨_,dd.mapOf,?_⟩;have ro:=(rel.val kk).getD D6;rcases rs.look kk with ⟨v',d2,e1,e2,r⟩ |⟨e1,e2⟩
  .rw[e1] at ro;rw[e2] at q;exact⟨v',H,d2,G,@ao,@V,ro,r,q⟩
  .rw[e1] at ro;rw[e2] at q;exact⟨w2,H,d',G,@ao,@V,ro,F9,q⟩
 ext e
end
end K2
end
section
namespace L2
open PySem PySem.Spec PyProof.Rows
def Iti(a:Addr)(o:Obj)(kv:@aE):It :=
 ⟨λi H=>(∃u,H a=some (.i9 o u))/\i<kv.length,λi H v H'=>∃T p,v=.ref T/\H T=none/\H'=upd H T (.tup [kV p.1,p.2])/\kv[i]?=some p,λi H=>(∃u,H a=some (.i9 o u))/\kv.length<=i⟩
theorem AU:∀{l:@v} {m:List β},kz F l m->∀i (h1:i<l.length) (h2:i<m.length),F l[i] m[i]
 |_,_,.cons h _,0,_,_=>h
 |_,_,.cons _ t,i+1,h1,h2=>AU t i (by simpa using h1) (@a_)
theorem NQ(h:(cM P w).is k u=true):RelV (kV k) u:=by
 rcases fi h with ⟨i,t,rfl,rfl⟩ |⟨x,t,rfl,rfl⟩
 .exact⟨t,rfl⟩
 .exact⟨t,rfl⟩
theorem mw:entryFor table "dict_itemiterator.__iter__"=some Builtin.«dict_keyiterator.__iter__» :=
 entryFor_alias (id':="dict_keyiterator.__iter__") (by rw[fastTable_eq_tree];kernel_rfl) (@a5) (@a5) (by rw[fastTable_eq_tree];kernel_rfl)
theorem Jr{K:aq}(a it)(o)(kv)(vs)(ep)(rel:KV kv vs)(hD:∀h:Heap,@ak=@g->h.DictAt (cM P w) a vs ep):
  Turn P w K (.Tuple elts kk pos) (Iti a o kv) [it] it (λi h=>∃ok ov,pH h it a i vs.length ep ok ov) where
 mem:=@G
 obj:=λi h ⟨ok,ov,st⟩ b hb=>by
  have e:b=it:=@bf
  subst e;exact⟨_,st,λv z=>by cases z⟩
 keep:=λi h h' ⟨ok,ov,st⟩ k=>⟨ok,ov,k it @i _ st⟩
 item:=by
  ext i;obtain⟨ok,ov,st⟩:=st;subst hP hw hK;obtain⟨⟨u,hu⟩,hi⟩:=hg;have hl:=rel.length;have Tg:i<vs.length:=@f
  have hx:vs[i]?=some (vs[i].1,vs[i].2):=aA Tg;have rp:=AU rel i hi Tg;have YM:H s.heap.objs.size=none:=I.bP.fresh @D;have hiT:it≠s.heap.objs.size:=br (aO st);refine wpAny_pyNext_items_item st (hD _ (I.bP a _ hu).1) hx λkey h' hk ho hT hsz kk=>?_;refine⟨_,rfl,?_⟩;have rk:RelV (kV kv[i].1) key:=by rw[rp.1];exact NQ hk
  have I1:Inv X pins σ (upd H s.heap.objs.size (.tup [kV kv[i].1,kv[i].2])) {s with heap:=h',toks:=s.toks} :=
   I.zx (fp:=[it]) hf (λb o hb q=>kk b o (λz=>hb (by simp[z])) q) @D
    ⟨by show 2<=bc;decide,[key,vs[i].2],.cons rk (.cons rp.2 .nil),⟨_,hT,rfl,_,rfl⟩⟩
  refine O6 (s:=@an) ho λh2 N6 Dh=>?_;have f1:∀b∈[it],lE X pins (upd H s.heap.objs.size (.tup [kV kv[i].1,kv[i].2])) b:=λb hb=>(hf b hb).upd (by rw[List.mem_singleton.mp hb];exact hiT);have I2:Inv X pins σ (upd H s.heap.objs.size (.tup [kV kv[i].1,kv[i].2])) {s with heap:=h2,toks:=s.toks} :=
   Inv.ue (s:={s with heap:=h',toks:=s.toks}) (t':=s.toks) (fp:=[it]) I1 f1 λb o hb q=>(Dh.2 b (λz=>hb (by simp[z]))).trans q
  exact⟨@as,_,I2,rfl,⟨_,kv[i],rfl,YM,rfl,aA hi⟩,⟨_,_,N6⟩,λb hb=>(f1 b hb).1⟩
 done:=by
  ext i;obtain⟨ok,ov,st⟩:=st;subst hP hw hK;obtain⟨⟨u,hu⟩,hi⟩:=hg;have hl:=rel.length;obtain⟨f0,f1,f2,f3,f4,f5⟩:=hf it @i;exact wpAny_pyNext_items_end (I.ok.hd hc) st (hD _ (I.bP a _ hu).1) (fY @c) λh' eb=>⟨rfl,I.turned (t':=s.toks) (λb o hb e=>eb b o hb e) f0 f1 f3 f4 f5⟩
 self:=λA i s Q E ⟨ok,ov,st⟩ h=>by
  have ty:s.TypeIs (.ref it) "dict_itemiterator":=⟨_,st,rfl⟩;refine pD ty jV (cV jV ty mw ?_ (FN _));show wpAny _ _ (ret (.ref it)) _ _ s;exact az ⟨_,rfl,"dict_itemiterator",_,ty,F.slot_dict_itemiterator_next.lookup,h⟩
end L2
namespace K2
open PySem PySem.Spec PyProof.Rows L2
section
variable {X:Cx}
theorem Xp(I:@m)(rd:bW X.K H x (.fZ kvs))(h1:wX kvs=true):
  ∃a ob u kv vs ep,x=@S/\H a=some (.i9 ob u)/\mP X.K H kv kvs/\(a == cu)=false/\KV kv vs/\∀h:Heap,@ak=some ob->h.DictAt (@bb) a vs ep:=by
 cases rd with
 |pM hq rs=>
  rename_i a o kv;obtain⟨z,hm,vs,rel,ob,es,ep,ho,r⟩:=(I.bP a _ hq).2;have eo:ob=o:=by have:=(I.bP a _ hq).1;rw[ho] at this;exact aX this
  subst eo;exact⟨a,ob,_,kv,vs,ep,rfl,hq,rs,hm,rel,λh e=>⟨ob,es,e,r⟩⟩
 | pL hq rs=>
  rename_i a o kv;cases rs with
  |nil=>
   obtain⟨z,hm,xs,rel,ob,es,ep,ho,hx,Cb,hl,nd⟩:=(I.bP a _ hq).2;have eo:ob=o:=by have:=(I.bP a _ hq).1;rw[ho] at this;exact aX this
   subst eo;have hv:xs=[]:=by cases rel;rfl
   subst hv;have he:es=#[]:=by simpa using hl
   subst he;exact⟨a,ob,_,[],[],ep,rfl,hq,.nil,hm,.nil,λh e=>⟨ob,#[],e,hx,Cb,(λ_ h=>by simp at h),.nil,bR⟩⟩
  |cons _ _=>simp[wX,eT] at h1
theorem mP.item{K:aq}:∀{kv:@aE} {kvs:@af} {i:Nat} {q:D×D},mP K H kv kvs->kvs[i]?=some q->∃p,kv[i]?=some p/\q.1=eL p.1/\bW K H p.2 q.2
 |_,_,_,_,.nil,e=>by simp at e
 |_,_,0,_,.cons r _,e=>by simp at e;subst e;exact⟨_,rfl,rfl,r⟩
 |_,_,i+1,q,.cons _ t,e=>by
  obtain⟨p,h1,h2⟩:=mP.item (i:=i) (q:=q) t (@bl);exact⟨p,by simpa using h1,h2⟩
variable {elts:@az} {kk:Nat} {Aj apos jE:Pos} {o:Expr} {to:fB}
theorem M7{K:aq}(k):bW K H (kV k) (eL k):=by
 cases k with
 |inl i=>exact @A
 |inr x=>exact .str x
theorem Nl (ho:dE X o to) (tI:autoParam (xN o "items" X.env (eval o X.env)=eval o X.env) Ar._auto_1) (w9:autoParam ((apos.endLine == jE.line)=true) Ar._auto_1):
  xJ X (.Tuple elts kk Aj) (.Call (.Attribute o "items" apos) [] [] jE) (i7 to):=by
 intro E pins s σ H τ G R hE I h;refine xK tI w9 (iK ho hE I h λx H1 d G1 v s1 I1 m1 r1 ja q1=>?_);cases d with
 | fZ kvs=>
  obtain⟨h1,q1⟩:=q1;obtain⟨t1,t2⟩:=v8 pins s1 σ H1 G1 x _ v I1.inv I1.ab r1 ja trivial;obtain⟨a,ob,u,kv,vs,ep,rfl,hu,rs,hm,rel,hD⟩:=Xp I1.inv ja h1;cases r1;refine⟨"dict","dict.items",gu,gr,sD,t1,t2,mr rfl (zf ?_)⟩;have dA:=hD _ (I1.inv.bP a _ hu).1;refine z8 gr t1 rP (qG _) (meets_dict_items (@bb) a hm) ⟨⟨vs,dA.dictOf⟩,?_⟩;have I2:Inv X pins σ H1 {s1 with heap:=s1.heap.push {cls:=.type "dict_items",data:=.fields #[@S]}}:=I1.inv.kept (t':=s1.toks) λb o e=>aF _ e;refine wpAny_pyIter_items (s:={s1 with heap:=s1.heap.push {cls:=.type "dict_items",data:=.fields #[@S]}}) (kvs:=vs) (ep:=ep) ⟨_,@au,rfl,rfl⟩ (dA.push _) ?_;refine⟨_,[_],_,_,H1,G1,kvs.map (λp=>.tup [p.1,p.2]),_,rfl,I2.kept (t':=s1.toks) λb o e=>aF _ e,m1,Jr a _ ob kv vs ep rel hD,⟨.none,.none,@au⟩,λb hb=>?_,λi H2 G2 k ab _=>?_,q1⟩
  .have e:=List.mem_singleton.mp hb;subst e;exact I2.Bp @D (I2.bP.fresh @D)
  .have yU:=k.i9 _ _ _ hu;have Fq:=rs.mono k;have hlen:kv.length=kvs.length:=rs.length;refine⟨λd hd=>?_,λhle=>⟨⟨u,yU⟩,by rw[hlen];simpa using hle⟩⟩;rw[bx] at hd;cases N0:kvs[i]? with
   |none=>rw[N0] at hd;cases hd
   |some q=>
    rw[N0] at hd;obtain⟨p,hp,ek,rp⟩:=Fq.item N0;have hi:i<kv.length:=(List.getElem?_eq_some_iff.mp hp).1;refine⟨⟨⟨u,yU⟩,hi⟩,λx H3 ⟨T,p',ex,hT,e3,hy⟩=>?_⟩;subst ex e3;rw[hp] at hy;cases hy;have ed:D.tup [q.1,q.2]=d:=by simpa using hd
    subst ed;rw[ek];exact⟨.tup bM (.cons (M7 _) (.cons (rp.mono (.new hT)) .nil)),.Ft ab hT⟩
 |_=>ext c
end
end K2
end
section
namespace K2
open PySem PySem.Spec PyProof.Rows L2
section
variable {X:Cx}
theorem nU{K:aq}:∀{kv:@aE} {l:@aC},mP K H kv (aK l)->kv=l.map λp=>((.inl p.1:Key),V.int p.2)
 |_,[],h=>by cases h;rfl
 | _,p::l,h=>by
  have h:mP K H _ ((D.int p.1,D.int p.2)::aK l):=h;generalize e:(D.int p.1,D.int p.2)::aK l=t at h;cases h with
  |nil=>cases e
  |cons r rs=>
   rename_i k v d r' t';injection e with e1 e2
   injection e1 with e3 e4
   subst e2 e4;cases r;rw[nU rs];cases k with
   |inl i=>cases e3;rfl
   |inr x=>cases e3
theorem qT:∀{l:@aC} {vs:List (Key×Value)},KV (l.map λp=>((.inl p.1:Key),V.int p.2)) vs->∃ts:List Tok,ts.length=l.length/\vs=(l.zip ts).map λq=>((.inl q.1.1:Key),eZ q.1.2 q.2)
 |[],_,.nil=>⟨[],rfl,rfl⟩
 |p::l,_,.cons h r=>by
  obtain⟨ts,h1,h2⟩:=qT r;rename_i q vs;obtain⟨k,v⟩:=q;obtain⟨e1,t,e2⟩:=h;cases e1;cases e2;exact⟨t::ts,by simp[h1],by rw[h2];rfl⟩
theorem DX(h:ts.length=l.length)(k):(bL l k=none/\pF ((l.zip ts).map λq=>((.inl q.1.1:Key),eZ q.1.2 q.2)) (.inl k)=none)\/∃v t,bL l k=@Y/\pF ((l.zip ts).map λq=>((.inl q.1.1:Key),eZ q.1.2 q.2)) (.inl k)=some (.int v t):=by
 induction l generalizing ts with
 |nil=>exact .inl @aS
 | cons p l ih=>
  cases ts with
  |nil=>cases h
  | cons t ts=>
   have ih:=ih (ts:=ts) (@bc);by_cases e:p.1=k
   .refine .inr ⟨p.2,t,?_,?_⟩
    .unfold bL;simp[e]
    .unfold pF;simp[e]
   .have e':¬ ((.inl p.1:Key)=.inl k):=λz=>e (by injection z);have a1:bL (p::l) k=bL l k:=by unfold bL;simp[e]
    have a2:pF (((p::l).zip (t::ts)).map λq=>((.inl q.1.1:Key),eZ q.1.2 q.2)) (.inl k)=pF ((l.zip ts).map λq=>((.inl q.1.1:Key),eZ q.1.2 q.2)) (.inl k):=by
     unfold pF;simp[e']
    rw[a1,a2];exact ih
theorem uG(hm:us.length=m.length):∀{l:@aC} {ts:List Tok},ts.length=l.length ->
  PySem.W.KeqHits A s ((m.zip us).map λq=>((.inl q.1.1:Key),eZ q.1.2 q.2)) ((l.zip ts).map λq=>((.inl q.1.1:Key),eZ q.1.2 q.2)) (l.all λp=>bL m p.1 == some p.2)
 |[],_,_=>.nil
 |p::l,[],h=>by cases h
 | p::l,t::ts,h=>by
  have ih:=uG (A:=A) (s:=s) hm (l:=l) (ts:=ts) (@bc);rcases DX hm p.1 with ⟨e1,e2⟩ |⟨v,t',e1,e2⟩
  .have:((p::l).all λp=>bL m p.1 == some p.2)=false:=by simp[e1]
   rw[this];exact .miss e2
  .have eq:SeqAt.EqAt A s (eZ p.2 t) (eZ v t') (decide (p.2=v)):=by
    have:=PySem.W.keq_flat (A:=A) (s:=s) (v:=eZ p.2 t) (y:=eZ v t') (d:=.int p.2) (e:=.int v) (.int _ _) (.int _ _);have e2:SeqAt.EqAt A s (eZ p.2 t) (eZ v t') (p.2 == v):=by simpa[B4] using this
    exact e2
   have:((p::l).all λp=>bL m p.1 == some p.2)=(decide (p.2=v)&&l.all λp=>bL m p.1 == some p.2):=by
    rw[B7,e1];congr 1;by_cases z:p.2=v
    .simp[z]
    .have:¬ v=p.2:=λy=>z y.symm;simp[z,this]
   rw[this];exact .hit e2 eq ih
theorem U6(hu:@av):ku X (cS .Eq) (Xw false):=by
 ext g;obtain⟨l,m,e1,e2,q⟩:=q;obtain⟨a,kv,vs,rfl,rs,z,hm,rel,dd⟩:=tU I ab dX e1 (jM l);obtain⟨b,kw,ws,rfl,Fq,z2,OZ,Gg,zJ⟩:=tU I ab dY e2 (jM m);cases rx;cases ry;rw[nU rs] at rel;rw[nU Fq] at Gg;obtain⟨ts,t1,rfl⟩:=qT rel;obtain⟨us,t2,rfl⟩:=qT Gg;refine PySem.W.keq_eq hm OZ dd zJ @c (λ_=>uG t2 t1) ?_;refine⟨.bl _,H,.bl _,G,I,@V,rfl,.bl _,?_⟩;have:((((l.zip ts).map λq=>((.inl q.1.1:Key),eZ q.1.2 q.2)).length == ((m.zip us).map λq=>((.inl q.1.1:Key),eZ q.1.2 q.2)).length)&&l.all λp=>bL m p.1 == some p.2)=uW l m:=by
  unfold uW;simp[t1,t2]
 rw[this];exact q
theorem U1(hu:@av):ku X (cS .NotEq) (Xw true):=by
 ext g;obtain⟨l,m,e1,e2,q⟩:=q;obtain⟨a,kv,vs,rfl,rs,z,hm,rel,dd⟩:=tU I ab dX e1 (jM l);obtain⟨b,kw,ws,rfl,Fq,z2,OZ,Gg,zJ⟩:=tU I ab dY e2 (jM m);cases rx;cases ry;rw[nU rs] at rel;rw[nU Fq] at Gg;obtain⟨ts,t1,rfl⟩:=qT rel;obtain⟨us,t2,rfl⟩:=qT Gg;refine PySem.W.keq_ne hm OZ dd zJ @c (λ_=>uG t2 t1) ?_;refine⟨.bl _,H,.bl _,G,I,@V,rfl,.bl _,?_⟩;have:((((l.zip ts).map λq=>((.inl q.1.1:Key),eZ q.1.2 q.2)).length == ((m.zip us).map λq=>((.inl q.1.1:Key),eZ q.1.2 q.2)).length)&&l.all λp=>bL m p.1 == some p.2)=uW l m:=by
  unfold uW;simp[t1,t2]
 rw[this];exact q
theorem U5(hu:@av):ku X (cS .Eq) (zk false):=by
 ext g;rcases q with q |q
 .exact Qv hu pins s σ H G x y dx dy v u Q I ab rx ry dX dY q
 .exact U6 hu pins s σ H G x y dx dy v u Q I ab rx ry dX dY q
theorem UZ(hu:@av):ku X (cS .NotEq) (zk true):=by
 ext g;rcases q with q |q
 .exact Qr hu pins s σ H G x y dx dy v u Q I ab rx ry dX dY q
 .exact U1 hu pins s σ H G x y dx dy v u Q I ab rx ry dX dY q
variable {k v:Expr} {tk tv:fB} {pos:Pos}
theorem Qk(hk:dE X k tk)(hv:dE X v tv):dE X (.Dict [some k] [v] pos) (rM tk tv):=by
 ext d;have hn:=I.inv.bP.fresh (aG s.heap.objs.size);have I1:=I.inv.laid (a:=s.heap.objs.size) (o:=.dK []) (h':=s.heap.push {cls:=@aN,data:=.dict #[]}) (t':=s.toks) (λ_ _ q=>aF _ q) @D (BG s.heap I.inv.big);have mh:Mv X.K H G (upd H s.heap.objs.size (.dK [])) G:=.Ft I.ab hn;have I2:I2 X pins σ (upd H s.heap.objs.size (.dK [])) τ G {s with heap:=s.heap.push {cls:=@aN,data:=.dict #[]},toks:=s.toks}:=⟨I1,I.st.mono (.new hn),mh.ab⟩;refine wpAny_Dict_walk (knd:=@bb) (by rfl) (by rfl) @i (show 1<=15 by decide) ?_;refine sr (iK hk hE I2 h λx H1 dx G1 u s1 I3 m1 r1 ja q1=>?_);refine iK hv hE I3 q1 λy H2 dy G2 w s2 I4 m2 r2 zi q2=>?_;obtain⟨hk1,q2⟩:=q2;refine FH ?_;obtain⟨kk,rfl⟩:=qU hk1;have ex:=qO ja;subst ex;have g0:G s.heap.objs.size=none:=I.ab.free hn;obtain⟨p1,p2⟩:=m1.keep _ _ (bM (H:=H) (a:=s.heap.objs.size) (o:=.dK [])) g0;obtain⟨p3,p4⟩:=m2.keep _ _ p1 p2;obtain⟨rs,c,rk⟩:=vM (P:=X.prog) (w:=X.w) (kvs:=[(kk,y)]) (ws:=[(u,w)]) (.cons ⟨r1,r2⟩ .nil);obtain⟨z,hd,vs0,r0,dd⟩:=BE I4.inv.bP p3;cases r0;refine⟨rs,c,dd,λh' xn hs=>?_⟩;have he:∃q,h'.get? s.heap.objs.size=some q:=let ⟨q,_,_,hq,_⟩:=xn;⟨q,hq⟩
 have em:A2 [] [(kk,y)]=[(kk,y)]:=rfl;have kp:Kp H2 (upd H2 s.heap.objs.size (.dK [(kk,y)])):=.putD p3 (.inl @I);have I5:=rm (t':=s2.toks+[(u,w)].length) I4.inv (by rw[p3];exact bB) hs he (BF (kvs:=A2 [] [(kk,y)]) (by rw[em];exact(show 1<=bc by decide)) hd (rk.merge .nil) xn);rw[em] at I5;have IP:=(mh.trans m1).trans m2;refine⟨@as,_,@as,_,I5,?_,rfl,.ref _,q2 _ p4⟩;refine⟨λa o e n=>?_,λa n=>?_,λa g e=>?_⟩
 .have ha:a≠s.heap.objs.size:=λz=>by rw[z,hn] at e;cases e
  obtain⟨k1,k2⟩:=IP.keep a o e n;exact⟨by rw[bH ha];exact k1,by rw[bO ha];exact k2⟩
 .by_cases ha:a=s.heap.objs.size
  .subst ha;rw[bM];simp
  .rw[bH ha];exact IP.jj a n
 .by_cases ha:a=s.heap.objs.size
  .subst ha;rw[av] at e;cases e;exact .dk bM (.cons ((zi.mono kp)) .nil)
  .rw[bO ha] at e;exact(IP.ab a g e).mono kp (bH ha)
end
end K2
end
section
namespace L2
open PySem PySem.Spec PyProof.Rows
theorem Ny:typeLookup (.type "list_reverseiterator") "__len__"=pure none:=by rw[typeLookup_type,builtinLookup_eq_fast];kernel_rfl
theorem RC:typeLookup (.type "list_reverseiterator") "__length_hint__"=pure (some (.builtin "list_reverseiterator.__length_hint__")):=by rw[typeLookup_type,builtinLookup_eq_fast];kernel_rfl
section
variable {prog:bC} {w:World} {A:cH} {E:@C} {s:ay}
theorem QS{I l:Addr}{items:@a6}{Q:@C}(hh:A.handled=none)(hl:s.heap.IsList l items)(hI:s.heap.IsRevIter I l ((items.size:Int)-1))(zH:l≠I)(hn:items.size<=bc)
  (hQ:∀h' tk BP c',(∀b o,b≠I->@T->@ag=@g)->h'.get? s.heap.objs.size=some {cls:=@Q,dict:=none,data:=.seq BP c',slots:=#[]}->ItemsOf (λi v=>items[items.size-1-i]?=@Y) BP items.size->Q (@as) {s with heap:=h',toks:=tk}):
  wpAny @J A (call (@Q) [.ref I]) Q E s:=by
 have lI:I<s.heap.objs.size:=by obtain⟨o,e,_⟩:=hI;exact aO e
 have ll:l<s.heap.objs.size:=by obtain⟨o,e,_⟩:=hl;exact aO e
 refine callType_codes (Q₁:=λobj fN=>obj=@as/\fN={s with heap:=s.heap.push {cls:=@Q,data:=.seq #[]}}) PySem.F.called_list (PySem.F.typeCall_list_1 _) PySem.F.entry_list_init
  (code_list_new _ @aS) λobj fN rV=>?_
 obtain⟨rfl,rfl⟩:=rV;have hS:(s.heap.push {cls:=@Q,data:=.seq #[]}).get? s.heap.objs.size=some {cls:=@Q,data:=.seq #[]}:=@au;refine⟨⟨_,hS,rfl⟩,PySem.F.args_list_init_2 _ _,?_⟩;show wpAny _ _ (do let old ← DU (.ref s.heap.objs.size);Builtin.List.listUpdate (.ref s.heap.objs.size) (λ_=>#[]);letGo old.toList.reverse;mR (.ref s.heap.objs.size) (.ref I) .none) _ _ _;refine ag ?_;unfold DU;refine ag (iX hS rfl (az ?_));show wpAny _ _ (O8 s.heap.objs.size (λ_=>#[]) >>= λ_=>letGo (#[]:@a6).toList.reverse >>= λ_=>mR (@as) (.ref I) .none) _ _ _;refine ag (jr hS rfl ?_);have WH:=eA (dZ (λ_=>(#[]:@a6))) hS rfl;have oth:∀b o,@T->((s.heap.push {cls:=@Q,data:=.seq #[]}).update s.heap.objs.size (dZ (λ_=>(#[]:@a6)))).get? b=@g :=
  λb o e=>(bQ _ _ (oz (aO e))).trans (aF _ e)
 refine ag (jQ ?_);have W:=Walks.listRev (prog:=prog) (w:=w) (A:=A.in1.in1) hh I l zH items;have st:(λ(i:Nat) (h:Heap)=>i<=items.size/\h.IsRevIter I l ((items.size:Int)-1-(i:Int))/\h.IsList l items) 0 ((s.heap.push {cls:=@Q,data:=.seq #[]}).update s.heap.objs.size (dZ (λ_=>(#[]:@a6)))) :=
  ⟨cm _,by have:=hI.at (λo e=>oth I o e);ext f,hl.at λo e=>oth l o e⟩
 generalize (s.heap.push {cls:=@Q,data:=.seq #[]}).update s.heap.objs.size (dZ (λ_=>(#[]:@a6)))=h2 at WH oth st;have hT:K1 {s with heap:=h2} (.ref I) "list_reverseiterator":=st.2.1.typeIs;have hSI:s.heap.objs.size≠I:=oz lI;have hSf:s.heap.objs.size∉[I,l]:=by simp only[bA,bN,or_false,not_or];exact⟨hSI,oz ll⟩
 unfold mR;refine ag (wpAny_typeOf hT ?_);have h1:Cg (@as) (.ref I)=false:=by simp[Cg,hSI]
 rw[if_neg (by rw[h1];decide)];refine ag (wpAny_pyIter_revIter (s:={s with heap:=h2}) st.2.1 ?_);refine ag (ck ?_);unfold Builtin.List.listLengthHint;refine ag (mX hT Ny ?_);show wpAny _ _ (specialOf (dg I) (rY "__length_hint__") >>= _) _ _ _;refine ag (mX hT RC ?_);generalize Ft:("list_reverseiterator.__length_hint__":String)=id0
 wp_delta
 rw[show splitId id0=some ("list_reverseiterator","__length_hint__") from by subst Ft;decide +kernel];subst Ft;refine ag (iF (b:=true) hT (by rw[isSubtype_type];kernel_rfl) ?_);refine az ?_;rw[if_neg (@d)];obtain⟨c₀,abo⟩:∃c₀,h2.get? s.heap.objs.size=some {cls:=@Q,data:=.seq #[] c₀}:=⟨_,WH⟩;refine az ⟨gK PySem.F.plain_extend_loop _,codeAny_extend_loopS W.toS hn _ hSf _ items.size 0 _ #[] c₀ rfl (cm _) st abo (ItemsOf.nil _) λs' BP c' hm hS' Ho=>?_⟩;rw[Moved.eq_with hm];refine⟨rfl,hQ s'.heap s'.toks BP c' (λb o hb e=>hm.heap b o (λYy=>?_) (oth b o e)) hS' Ho⟩;rcases List.mem_cons.mp Yy with e' |Yy
 .exact absurd (aO e) (by rw[e'];exact ie _)
 .exact hb (List.mem_singleton.mp Yy)
end
end L2
namespace K2
open PySem PySem.Spec PyProof.Rows L2 PySem.W
section
variable {X:Cx}
variable {es:@az} {t:TF2} {e v1 v2:Expr} {te:fB} {pos:Pos} {c:Str} {k:Nat}
theorem FT:∀{vs:@w} {us:@s} {v:V} {u:Value},Vals vs us->RelV v u->Vals (vs++[v]) (us++[u])
 |_,_,_,_,.nil,h=>.cons h .nil
 |_,_,_,_,.cons a r,h=>.cons a (FT r h)
theorem FR:∀{vs:@w} {us:@s},Vals vs us->Vals vs.reverse us.reverse
 |_,_,.nil=>.nil
 |_,_,.cons h r=>by rw[mQ,mQ];exact FT (FR r) h
theorem Ge{K:aq}:∀{vs:@w} {ds:@e},@aU->bo K H vs.reverse ds.reverse
 |_,_,.nil=>.nil
 |_,_,.cons h r=>by rw[mQ,mQ];exact(Ge r).append (.cons h .nil)
theorem Ih:df "reversed"=some (.type "reversed"):=@a5
variable {a:Expr} {ta:fB} {p p2 Nj:Pos}
theorem Qf (hc:@aI) (hg:Gl X "list") (hm:X.mg "list"=none) (Vu:Gl X "reversed") (OZ:X.mg "reversed"=none) (ha:dE X a ta) (hs:autoParam (aZ [a] X.env=[(false,eval a X.env)]) Ar._auto_1)
  (Dh:autoParam (aZ [.Call (.Name "reversed" p2) [a] [] Nj] X.env=[(false,eval (.Call (.Name "reversed" p2) [a] [] Nj) X.env)]) Ar._auto_1):
  dE X (.Call (.Name "list" p) [.Call (.Name "reversed" p2) [a] [] Nj] [] pos) (HJ ta):=by
 ext d;refine d6 (lz I.inv hg hm E3 ?_);refine dJ ?_ Dh rfl;rw[Dh];show wpAny _ _ (vn ((false,eval (.Call (.Name "reversed" p2) [a] [] Nj) X.env)::ik pos (aZ [] X.env))) _ _ s;refine eN ?_;refine d6 (lz I.inv Vu OZ Ih ?_);refine dJ ?_ hs rfl;rw[hs];show wpAny _ _ (vn ((false,eval a X.env)::ik Nj (aZ [] X.env))) _ _ s;refine eN (iK ha hE I h λx H1 d G1 u s1 I1 m1 r1 ja q1=>?_);refine iJ ?_;obtain⟨ds,hd,q⟩:=q1;obtain⟨l,vs,bT,rfl,rv,rs,hl,hz⟩:=oh I1.inv I1.ab r1 ja hd;have hzl:bT.toArray.size<=bc:=by rw[bp,<-rv.length];exact hz
 refine call_reversed_list hl ?_;refine iJ ?_;have ll:l<s1.heap.objs.size:=by obtain⟨o,e,_⟩:=hl;exact aO e
 have yU:(s1.heap.push (revObj l ((bT.toArray.size:Int)-1))).IsList l bT.toArray:=hl.at λo e=>aF _ e;have hI2:(s1.heap.push (revObj l ((bT.toArray.size:Int)-1))).IsRevIter s1.heap.objs.size l ((bT.toArray.size:Int)-1):=⟨_,@au,rfl,rfl⟩;have oy:Inv X pins σ H1 {s1 with heap:=s1.heap.push (revObj l ((bT.toArray.size:Int)-1))}:=I1.inv.kept (t':=s1.toks) λb o e=>aF _ e;refine QS (s:={s1 with heap:=s1.heap.push (revObj l ((bT.toArray.size:Int)-1))}) (I1.inv.ok.hd hc) yU hI2 (br ll) hzl λh' tk BP c' kk hS' Ho=>?_;have eq:BP.toList=bT.reverse:=by
  refine List.ext_getElem? λj=>?_;by_cases hj:j<BP.size
  .have h1:=Ho.2 j BP[j] (ij hj);have hs:BP.size=bT.length:=by rw[Ho.1];simp
   rw[List.getElem?_reverse @c,Array.getElem?_toList,ij hj,<-h1];simp
  .have hs:BP.size=bT.length:=by rw[Ho.1];simp
   rw[fY (by rw[cT];lia),fY (by rw[List.length_reverse];lia)]
 have hsz:(s1.heap.push (revObj l ((bT.toArray.size:Int)-1))).objs.size=s1.heap.objs.size+1:=nj _ _;have hle:s1.heap.objs.size<=(s1.heap.push (revObj l ((bT.toArray.size:Int)-1))).objs.size:=by rw[hsz];exact Jf _
 have hp:H1 (s1.heap.push (revObj l ((bT.toArray.size:Int)-1))).objs.size=none:=I1.inv.bP.fresh hle;refine⟨.ref _,upd H1 _ (.lst vs.reverse),.ref _,_,I1.inv.laid (t':=tk) (λb u e=>kk b u (br (aO e)) (aF _ e)) hle ⟨by rw[List.length_reverse];exact hz,BP.toList,c',by rw[eq];exact FR rv,by simpa using hS'⟩,m1.trans (.El I1.ab hp (Ge rs)),rfl,.ref _,q _ (I1.ab.free hp)⟩
end
end K2
end
section
namespace K2
open PySem PySem.Spec PyProof.Rows L2 PySem.W
section
variable {X:Cx}
theorem GS(hc:@aI)(I:@m)(ab:@aA)
  (K:PySem.W.KdlSrc X.prog X.w T r d n P OK) (ad9:OK s.heap)   (hlen:vs.length=n) (hP:∀i u (h:i<vs.length),P i u->RelV vs[i] u) (rs:bo X.K H vs zs) (hn:n<=1000)
  (q:fy G (.lst zs) Q):wpAny @o X.A (call (@Q) [.ref r]) @aZ X.xe s:=by
 have hsz:bc=16777216:=cX;refine kdl_call K (I.ok.hd hc) ad9 @c λh' tk acc c' hk hD Ho=>?_;have hp:H s.heap.objs.size=none:=I.bP.fresh @D;have rv:Vals vs acc.toList:=Lc vs acc.toList (by have:=Ho.1;have e:=cT (xs:=acc);lia) λi h1 h2=>hP i acc.toList[i] h1 (Ho.2 i _ (by rw[ij (@a_)];simp));exact⟨.ref _,upd H s.heap.objs.size (.lst vs),.ref _,_,I.laid (a:=s.heap.objs.size) (t':=tk) (λb o e=>hk b o e) @D ⟨@f,acc.toList,c',rv,by simpa[yA,W.listOf] using hD⟩,.El ab hp rs,rfl,.ref _,q _ (ab.free hp)⟩
theorem HZ (hc:@aI):ky X (@Q) pQ:=by
 intro pins s σ H G xs ds us Q I ab rx rd q;unfold pQ at q;split at q
 .rename_i a;split at q
  .rename_i kvs hg;obtain⟨hn,q⟩:=q;obtain⟨w1,rfl,wg⟩:=rd.one;obtain⟨u,rfl,ru⟩:=rx.one;cases wg;cases ru;rcases ab a _ hg with ⟨kv,hq,rs⟩ |⟨kv,hq,rs⟩
   .obtain⟨z,hm,vs,rel,ob,es,ep,ho,ex,dd,hko,hp,nd⟩:=I.bP a _ hq;have l1:es.size=vs.length:=by simpa using hp.length
    have l2:kv.length=vs.length:=gz rel;have l3:=rs.length;refine GS hc I ab (F3 hm ex dd) ho (vs:=kv.map λp=>kV p.1) (zs:=kvs.map @k) (by rw[ar];lia) (λi u hi hP=>?_) ?_ @c q
    .obtain⟨Tg,rfl⟩:=hP;have i2:i<vs.length:=@f
     have i3:i<kv.length:=@f
     have g1:=(hp.get? (e:=es[i]) (k:=vs[i].1) (v:=vs[i].2) (by rw[aA (by simpa using Tg)];simp) (by rw[aA i2])).1;have e2:kv[i].1=vs[i].1:=(qf rel i i3 i2).1;rw[gm,e2];exact GZ g1
    .rw[rs.keys];have:∀(l:@aE),bo X.K H (l.map λp=>kV p.1) (l.map λp=>eL p.1):=by
      intro l;induction l with
      |nil=>exact .nil
      |cons p l ih=>exact .cons (AA p.1) ih
     exact this kv
   .obtain⟨z,hm,ys,rel,ob,es,ep,ho,ex,dd,hl,nd⟩:=I.bP a _ hq;have l1:=congrArg cU hl;rw[ar,cT] at l1;have l2:=gz rel;have l3:=rs.length;refine GS hc I ab (F3 hm ex dd) ho (vs:=ys.map λq=>V.ref q.2.1) (zs:=kvs.map @k) (by rw[ar];lia) (λi u hi hP=>?_) ?_ @c q
    .obtain⟨Tg,rfl⟩:=hP;have i2:i<ys.length:=@f
     have:es[i]=entryOfKey (gS (@bb)) ys[i]:=by
      have:=congrArg (λl=>l[i]?) hl;simp only[bx,aA i2] at this;simpa[Tg] using this
     rw[this,gm];rfl
    .rw[rs.keys];have:∀(kv:@a4) (xs:List (List Key×@aO)),KT H kv xs->bo X.K H (xs.map λq=>V.ref q.2.1) (kv.map λp=>D.tup (p.1.map eL)):=by
      intro kv xs r;induction r with
      |nil=>exact .nil
      |cons h _ ih=>exact .cons (.tup h.2.1 (uh _)) ih
     exact this kv ys rel
  ext e
 ext e
theorem Oq:ky X (.type "int") cInt:=by
 intro pins s σ H G xs ds us Q I ab rx rd q;unfold cInt at q;split at q
 .rename_i b;obtain⟨w1,rfl,wg⟩:=rd.one;obtain⟨u,rfl,ru⟩:=rx.one;cases wg;cases ru;refine call_int_bool ?_;exact⟨@P,H,@P,G,@ao,@V,@I,@P,q⟩
 ext e
variable {a:Expr} {ta:fB} {pos p Nj p2:Pos}
end
end K2
end
section
namespace K2
open PySem PySem.Spec PyProof.Rows L2
section
variable {K:aq} {h:Heap} {C:Addr} {vN:@s} {newId:String}
theorem YZ{P:Prop}
  (q:PySem.W.excIn.match_1 (λ_ _=>Bool) m sl f (λ_ _=>false)=true)
  (k:∀C' bm k0 k1 k2 k3 n k5,m=.ref C'::bm->sl=[k0,k1,k2,k3,some (.builtin n),k5]->f C' bm k0 k1 k2 k3 n k5=true->P):P:=by
 have no:false=true->P:=λz=>ba z;cases m with
 |nil=>exact no q
 | cons v bm=>
  cases v with
  | ref C'=>
   obtain _ |⟨k0,_ |⟨k1,_ |⟨k2,_ |⟨k3,_ |⟨_ |w,sl⟩⟩⟩⟩⟩:=sl
   iterate 6 exact no q
   cases w with
   |builtin n=>
    obtain _ |⟨k5,_ |_⟩:=sl
    .exact no q
    .exact k C' bm k0 k1 k2 k3 n k5 rfl rfl q
    .exact no q
   |_=>exact no q
  |_=>exact no q
inductive SU (h:Heap) (C:Addr) (vN:@s) (newId:String):Prop
 |mk (bm N nm qn bs hdct sn sub ab col dd k0 k1 k2 k3 k5 mN) (o:h.get? C=some (DQ nm qn C N bs bm hdct sn sub ab col dd k0 k1 k2 k3 k5 newId)) (n:h.Ns N mN) (i:mN "__init__"=none) (t:OwnTail h vN bm):SU h C vN newId
theorem Mi(Y:K.In h)(q:lh K C vN newId=true):SU h C vN newId:=by
 unfold lh at q;split at q
 rotate_left
 .cases q
 rename_i dd cd sl ho;refine YZ q λC' bm k0 k1 k2 k3 n k5 hm hs q=>?_;obtain⟨nm,bs,mro,ns,qn,hd,sn,sub,ab,col,del⟩:=cd;obtain⟨sl⟩:=sl;subst hm hs;have q:(C' == C&&n == newId&&!del&&FI K vN bm&&PySem.W.nsOkIn K ns&&mz K ns "__init__" == some none)=true:=q;simp only[aJ,beq_iff_eq,kA] at q;obtain⟨⟨⟨⟨⟨e1,e2⟩,e3⟩,e4⟩,e5⟩,e6⟩:=q;subst e1 e2 e3;exact⟨bm,_,_,_,_,_,_,_,_,_,dd,k0,k1,k2,k3,k5,_,Y _ _ ho,.of_isNs (PySem.W.isNs_of_in Y e5),PySem.W.nsMap_none_of_in Y e5 e6,S0 Y e4⟩
noncomputable def Mh(K:aq)(C:Addr)(vN:@s)(newId:String):Bool:=match K.lookup C with
 |some ⟨.type "type",_,.cls cd,sl⟩=>(match cd.mro,sl.toList with
  |.ref C'::bm,[_,_,_,_,some (.builtin n),_]=>C' == C&&n == newId&&!cd.hasDel&&FI K vN bm
  |_,_=>false)
 |_=>false
inductive SS (h:Heap) (C:Addr) (vN:@s) (newId:String):Prop
 |mk (bm N nm qn bs hdct sn sub ab col dd k0 k1 k2 k3 k5) (o:h.get? C=some (DQ nm qn C N bs bm hdct sn sub ab col dd k0 k1 k2 k3 k5 newId)) (t:OwnTail h vN bm):SS h C vN newId
theorem Mg(Y:K.In h)(q:lh K C vN newId=true\/Mh K C vN newId=true):SS h C vN newId:=by
 rcases q with q |q
 .obtain⟨_,_,_,_,_,_,_,_,_,_,_,_,_,_,_,_,_,o,_,_,t⟩:=Mi Y q;exact⟨_,_,_,_,_,_,_,_,_,_,_,_,_,_,_,_,o,t⟩
 unfold Mh at q;split at q
 rotate_left
 .cases q
 rename_i dd cd sl ho;split at q
 rotate_left
 .cases q
 rename_i C' bm k0 k1 k2 k3 n k5 hm hs;obtain⟨nm,bs,mro,ns,qn,hd,sn,sub,ab,col,del⟩:=cd;obtain⟨sl⟩:=sl;have hm:mro=_:=hm;have hs:sl=_:=hs;subst hm hs;simp only[aJ,beq_iff_eq,kA] at q;obtain⟨⟨⟨e1,e2⟩,e3⟩,e4⟩:=q;subst e1 e2;have e3:del=false:=e3;subst e3;exact⟨bm,_,_,_,_,_,_,_,_,_,dd,k0,k1,k2,k3,k5,Y _ _ ho,S0 Y e4⟩
end
theorem _root_.Internal.L2.fQ.there(x:fQ P w H h a o):∃ob,@ak=some ob:=by
 cases o with
 |lst xs=>obtain⟨_,_,_,_,e⟩:=x;exact⟨_,e⟩
 |tup xs=>obtain⟨_,_,_,ob,e,_⟩:=x;exact⟨_,e⟩
 |dK kvs=>obtain⟨_,_,_,_,o,_,_,e,_⟩:=x;exact⟨_,e⟩
 |dT kvs=>obtain⟨_,_,_,_,o,_,_,e,_⟩:=x;exact⟨_,e⟩
 |set S n=>obtain⟨o,_,_,_,e,_⟩:=x;exact⟨_,e⟩
 |ins C dx fs=>obtain⟨_,_,_,e,_⟩:=x;exact⟨_,e⟩
 |own y=>exact x
 |xd fs=>obtain⟨_,⟨_,_,_,e,_⟩,_⟩:=x;exact⟨_,e⟩
 |Z4 lo hi=>obtain⟨_,_,_,e⟩:=x;exact⟨_,e⟩
 |i9 ob u=>obtain⟨e,_⟩:=x;exact⟨_,e⟩
 |TR ps=>obtain⟨_,e,_⟩:=x;exact⟨_,e⟩
 |met f y=>exact⟨_,x⟩
 |ext φ=>obtain⟨_,e,_⟩:=x;exact e
section
variable {M:Model} {A:cH} {E:@C} {s:ay} {B:Heap} {env:Env} {outer l:@aG} {L e:Addr} {cls a0:Value}
theorem B1.there(x:B1 B l e cls a0 h):∃ob,h.get? e=some ob/\ob.cls=cls:=by
 obtain⟨_,_,_,⟨_,y⟩ |⟨oe,_,he,hc,_⟩⟩:=x
 .exact y.there
 .exact⟨oe,he,hc⟩
theorem AZ{Q:Unit->@X}(RF:A.frames=some (env::outer))(hf:env.frame=some L)(Vv:B1 B (env::outer) e cls a0 s.heap)
  (hQ:∀h',zt B (env::outer) e cls a0 L h'->s.heap.UpToSlots h'->Q () @an):wpAny M A (pV (.ref e) env) Q E s:=by
 obtain⟨f1,f2,f3,⟨fl,ht⟩ |⟨oe,vs,he,hc,hd,h0,h1⟩⟩:=Vv
 ·by_cases q:fl=si L
  .subst q;exact wpAny_noteFrame_againW hf ht (hQ _ ⟨f1,f2,f3,ht⟩ λb o e _=>⟨o.slots,e⟩)
  .obtain⟨oe,vs,T,oT,ts,he,⟨Cu,h0⟩,hd,h1,hnT,hTe,hT,WE,h3⟩:=ht;subst Cu;unfold pV;simp only[hf];refine ag (iY he hd h1 ?_);rw[if_pos (show(dg T != dG)=true from @G)];refine ag (iY hT WE h3 ?_);rw[if_neg (show ¬ ((fl == si L)=true) from λz=>q (eq_of_beq z))];refine ag (vm hT WE (Array.getElem?_eq_some_iff.mp h3).1 ?_);have other:∀b,b≠T->(s.heap.update T (vo (·.setIfInBounds 3 dG))).get? b=@a2:=λb hb=>bQ _ _ (dD hb);have tw:∀b o,@T->(∀vs,o.data≠.fields vs)->b≠T:=λb o hb OY q=>by
    rw[q,hT] at hb;injection hb with hb;subst hb;exact OY ts WE
   exact wpAny_entryW RF (f3.of_keeps λb o hb OY=>⟨o,(other b (tw b o hb OY)).trans hb,rfl⟩) hf ((other e (dD hTe)).trans he)
    (λb o YH=>(other b λq=>by rw[q,hnT] at YH;cases YH).trans (f1 b o YH)) f2 hd (Array.getElem?_eq_some_iff.mp h1).1 h0
    λh' ⟨x1,x2,x3,x4⟩=>hQ h' ⟨x1,f2,x2,x3⟩ λb o hb OY=>x4 b o ((other b (tw b o hb OY)).trans hb) OY
 .subst hc;unfold pV;simp only[hf];refine ag (iY he hd h1 ?_);rw[if_neg (@d)];exact wpAny_entryW RF f3 hf he f1 f2 hd (Array.getElem?_eq_some_iff.mp h1).1 h0 λh' ⟨x1,x2,x3,x4⟩=>hQ h' ⟨x1,f2,x2,x3⟩ x4
theorem J0{Q:Unit->@X}(RF:A.frames=some (env::outer))(hf:env.frame=some L)(Vv:B1 B (env::outer) e cls a0 s.heap)
  (hQ:∀h',B1 B outer e cls a0 h'->s.heap.UpToSlots h'->Q () @an):wpAny M A (leaving env (.ref e)) Q E s:=by
 unfold leaving;refine ag (AZ RF hf Vv λh4 held Ph=>wpAny_landsW held λh' fl up=>?_);obtain⟨k1,k2,⟨_,_,k3⟩,k4⟩:=fl;exact hQ h' ⟨k1,k2,k3,.inl ⟨_,k4⟩⟩ (Ph.trans up)
end
theorem Sa{X:Cx}{pins:@t}{σ:L2.St}{H:Hp}{s:ay}{h1:Heap}{a C:Addr}{args:@s}{ex:Ex}{G:Gp}{E:k7}(I:@m)(N8:@aA)(hx:PySem.Heap.MadeExcOf s.heap h1 a @R args)(hm:X.mg ex.cls=some @R)(hE:E ex G)(hf:ex.yi=[]):
  O2 X.prog X.w X.stack H s (exK X.K X.mg E) @r {s with heap:=h1}:=by
 obtain⟨t,he,htn,ht⟩:=hx.there;have na:H a=none:=by
  cases q:H a with
  |none=>rfl
  |some u=>obtain⟨o,e⟩:=(I.bP a u q).there;have:=hx.new;rw[e] at this;cases this
 refine⟨a,C,t,dU s.heap (@aJ),H,rfl,rfl,I.bare,Un.kept hx.keeps,I.bP.kept hx.keeps,λb o e n c=>?_,⟨λb o q=>hx.keeps _ _ (lg _ q),?_,
  (PySem.W.funFrames_hide I.stack λenv he b hb=>List.mem_filterMap.mpr ⟨env,he,hb⟩).of_keeps λb o hb _=>⟨o,hx.keeps b o hb,rfl⟩,.inr ⟨_,_,he,rfl,rfl,rfl,rfl⟩⟩,na,hx.new,_,he,ex,C,G,rfl,hm,N8,hE,.inl hf⟩
 .have:∃o1,@a2=some o1:=by
   rcases c with c |c
   .cases q:@a2 with
    |none=>exact absurd q c
    |some o1=>exact⟨o1,rfl⟩
   .cases q:H b with
    |none=>exact absurd q c
    |some u=>exact(I.bP b u q).there
  obtain⟨o1,e1⟩:=this;have e:h1.get? b=@g:=e;rw[hx.keeps b o1 e1] at e;cases e;exact dw _ e1 n
 .cases q:(dU s.heap (@aJ)).get? a with
  |none=>rfl
  |some o=>have:=lg _ q;rw[hx.new] at this;cases this
section
variable {X:Cx} {x:Str} {C:Addr} {vN:@s} {B newId Rj:String} {e0:Expr} {es:@az} {np jE pos:Pos} {t:Cd}
theorem JA(g:Gp->Gp)(hgg:∀H G,@aA->kc X.K H (g G))(hg:Gl X x)(hm:X.mg x=some @R)(q:lh X.K C vN newId=true)(FB:ExcBaseFacts B newId Rj vN)(hc:@aI)(ha:xx X (e0::es) t)
  (pO:@a1) (he:autoParam (aZ (e0::es) X.env=(false,eval e0 X.env)::aZ es X.env) Ar._auto_1) (qA:autoParam ((ik jE @aX).any @k=false) Ar._auto_1):
  uX X (.Raise (some (.Call (.Name x np) (e0::es) [] jE)) none pos) (λE _ τ G=>t E τ G λds G1=>ds.length<=SZ/\E ⟨x,[]⟩ (g G1)):=by
 intro E pins s σ H τ G D hE I h;obtain⟨tl,N,nm,qn,bs,hdct,sn,sub,ab,col,dd,k0,k1,k2,k3,k5,mN,hC,hN,hni,T⟩:=Mi I.inv.ok.mod.Wt q;refine wpAny_Raise_call_subT (C:=C) (nm:=nm) (q:=qn) (N:=N) (bs:=bs) (bm:=tl) (hdct:=hdct) (sn:=sn) (sub:=sub) (ab:=ab) (col:=col) (dd:=dd) (k0:=k0) (k1:=k1) (k2:=k2) (k3:=k3) (k5:=k5)
  FB (mN:=mN) (T.hasType FB.hasBase) (I.inv.ok.hd hc) (by rw[he];show(false||(ik jE @aX).any @k)=false;rw[qA];rfl) hni (oS I.inv hg hm ⟨rfl,?_⟩ pO)
 have w:=Am (Q:=λus s2=>us.length<=bc/\(∀b o,X.base.get? b=@g->s2.heap.get? b=@g)/\∀h' e,Heap.MadeExcOf s2.heap h' e @R us->X.xe (.ref e) {s2 with heap:=h'}) ha jE hE I h
  λvs H1 ds G1 us s1 I1 m1 r rd z=>⟨by rw[<-r.length,rd.length,cX];exact z.1,I1.inv.bk,λh' e hx=>hE.pass pins σ H1 s1 _ _ I1.inv (Sa (ex:=⟨x,[]⟩) I1.inv (hgg _ _ I1.ab) hx hm z.2 rfl)⟩
 rw[he] at w ⊢;exact S6 (gP w (λus s2 h2=>⟨rfl,h2.1,h2.2.1 _ _ hC,hN.keeps h2.2.1,T.keeps h2.2.1,h2.2.2⟩) λ_ _ y=>y)
theorem Ng(hg:Gl X x)(hm:X.mg x=some @R)(q:lh X.K C vN newId=true)(FB:ExcBaseFacts B newId Rj vN)(hc:@aI)(ha:xx X (e0::es) t)
  (pO:@a1) (he:autoParam (aZ (e0::es) X.env=(false,eval e0 X.env)::aZ es X.env) Ar._auto_1) (qA:autoParam ((ik jE @aX).any @k=false) Ar._auto_1):
  uX X (.Raise (some (.Call (.Name x np) (e0::es) [] jE)) none pos) (yr x t):=JA (λ_ _=>none) (λ_ _ _ _ _ z=>by cases z) hg hm q FB hc ha pO he qA
end
def Kd:Sem α->Prop
 |.pure _=>True
 |.raise _=>True
 |.unsupported _=>True
 |.finish _=>True
 |.rule _ k=>Kd (k ())
 |.at _ k=>Kd (k ())
 |.load _ _ k=>∀o,Kd (k o)
 |.update _ _ f k=>(∀o,(f o).dict=o.dict)/\Kd (k ())
 |.alloc _ k=>∀a,Kd (k a)
 |.stack k=>∀l,Kd (k l)
 |_=>False
def ZJ(h h':Heap):Prop:=∀(b:Nat) (d:Option Addr),(h.objs[b]?).map Obj.dict=@O->(h'.objs[b]?).map Obj.dict=@O
section
variable {α β:Type} {M:Model} {Γ:PySem.Ctx} {p:Pos} {s:ay}
theorem ZR(h0):∀(t:Sem α) (p:Pos) (s:ay),ZJ h0 s.heap->Kd t->Sem.wp M Γ t Q E p s->Sem.wp M Γ t (λa p' s'=>Q a p' s'/\ZJ h0 s'.heap) E p s:=by
 intro t;induction t with
 |pure a=>intro p s k _ h;exact⟨h,k⟩
 |raise e=>intro p s k _ h;exact h
 |unsupported e=>intro p s k _ h;exact h
 |finish e=>intro p s k _ h;exact h
 |rule _ k ih=>intro p s d q h;exact ih _ _ _ d q h
 | «at» _ k ih=>intro p s d q h;exact ih _ _ _ d q h
 |load a _ k ih=>intro p s d q h;obtain⟨o,e,h⟩:=h;exact⟨o,e,ih _ _ _ d (q o) h⟩
 | update a _ f k ih=>
  intro p s d q h;refine⟨h.1,ih _ _ _ (λb x e=>?_) q.2 h.2⟩;have e1:=d b x e;show((s.heap.objs.modify a f)[b]?).map Obj.dict=some x;rw[Array.getElem?_modify];by_cases z:a=b
  .rw[if_pos z];cases w:s.heap.objs[b]? with
   |none=>rw[w] at e1;exact e1
   |some o=>rw[w] at e1;exact(congrArg some (q.1 o)).trans e1
  .rw[if_neg z];exact e1
 |alloc o k ih=>
  intro p s d q h;refine ih _ _ _ (λb x e=>?_) (q _) h;have e1:=d b x e;show((s.heap.objs.push o)[b]?).map Obj.dict=some x;rw[Array.getElem?_push];by_cases z:b=s.heap.objs.size
  .rw[z,vr @D] at e1;cases e1
  .rw[if_neg z];exact e1
 |stack k ih=>intro p s d q h;exact ih _ _ _ d (q _) h
 |_=>intro p s _ q _;exact q.elim
theorem gc(h:Kd m)(k:∀a,Kd (f a)):Kd (m >>= f):=by
 show Kd (Sem.bind m f);induction m with
 |pure a=>exact k a
 |raise e=>exact bB
 |unsupported w=>exact bB
 |finish e=>exact bB
 |rule _ g ih=>exact ih _ h
 | «at» _ g ih=>exact ih _ h
 |load a _ g ih=>exact λo=>ih _ (h o)
 |update a _ f g ih=>exact⟨h.1,ih _ h.2⟩
 |alloc o g ih=>exact λo=>ih _ (h o)
 |stack g ih=>exact λo=>ih _ (h o)
 |_=>exact h.elim
theorem yw(h:wpAny M A t Q E s)(k:Kd t):wpAny M A t (λa s'=>Q a s'/\ZJ s.heap s'.heap) E s :=
 λΓ p hΓ=>ZR s.heap t p s (λ_ _ e=>e) k (h Γ p hΓ)
theorem ZJ.at(d:ZJ h h')(e:@ak=@g)(e':h'.get? a=some o'):o'.dict=o.dict:=by
 have raw:∀{h:Heap} {o:Obj},@ak=@g->h.objs[a]?=@g:=λ{h o} e=>by
  unfold Heap.get? at e;split at e
  .cases e
  .exact e
 have:=d a o.dict (by rw[raw e];rfl);rw[raw e'] at this;exact aX this
theorem Vd(f)(o:Obj):(o.mapFields f).dict=o.dict:=by
 unfold vo;split<;>rfl
theorem wY(v)(i):Kd (field v i):=by
 unfold field fieldsOf;refine gc ?_ λa=>?_
 .cases v with
  |ref a=>
   refine gc (λo=>bB) λo=>?_;split<;>exact bB
  |_=>exact bB
 .split<;>exact bB
theorem tG(v)(i)(x):Kd (FF v i x):=by
 unfold FF updateField;cases v with
 | ref a=>
  refine gc (λo=>bB) λo=>?_;split
  .split
   .exact⟨Vd _,bB⟩
   .exact bB
  .exact bB
 |_=>exact bB
theorem mJ(e)(f):Kd (zU e f):=by
 unfold zU;refine gc (wY _ _) λtb=>?_;split
 .exact tG _ _ _
 .exact bB
theorem Q4(k:∀l,Kd (f l)):Kd (stack >>= f):=λl=>k l
theorem Q5:∀l:@aG,Kd (readyFrames l):=by
 intro l;induction l with
 |nil=>exact bB
 | cons env outer ih=>
  unfold readyFrames;split
  rotate_left
  .exact bB
  refine gc (λo=>bB) λo=>?_;split
  .exact bB
  refine gc ?_ λim=>gc ?_ λbk=>⟨λo=>rfl,ih⟩
  .unfold behindIsImport;split
   .exact bB
   show Kd (if _ then _ else _);split
   .exact bB
   exact gc (wY _ _) λ_=>bB
  .unfold keptBack;split
   .split
    .exact bB
    .unfold underTheClaimsCaller;exact gc (λl=>bB) λ_=>bB
   .exact bB
theorem Ep(e)(env):Kd (pV e env):=by
 unfold pV;split
 rotate_left
 .exact bB
 have go:∀(head:Value) (f:Addr),Kd (do FF e 1 (← K9 head (← PySem.frameOf env) .none (si f) .none (← entryPlaceOf f (head != .none)))):=λhead f=>by
  refine gc ?_ λfr=>gc ?_ λpl=>gc ?_ λb=>tG _ _ _
  .unfold PySem.frameOf frameEnvs;refine gc (λl=>bB) λl=>gc ?_ λr=>?_
   .cases hl:List.dropWhile (λx=>x.frame != env.frame) l with
    |nil=>exact bB
    |cons env outer=>exact gc (Q5 _) λ_=>bB
   .split<;>exact bB
  .unfold entryPlaceOf;refine Q4 λl=>?_;split<;>exact bB
  .unfold K9 newFields newObj;generalize ([head,fr,dG,si f,dG]++_:@s).toArray=xs;dsimp only;split
   .exact bB
   .exact λa=>bB
 refine gc (wY _ _) λhead=>?_;split
 .refine gc (wY _ _) λx=>?_;split
  .exact bB
  .exact gc (tG _ _ _) λ_=>go _ _
 .exact go _ _
theorem J2(env)(e):Kd (leaving env e):=gc (Ep _ _) λ_=>mJ _ _
end
theorem Qq{h1 B:Heap}(I:Inv X pins σ H1 s1)(Hi:X.stack=X.env::X.outer)(Hl:X.env.frame=some X.env.locals)(hex:X.ex=[])
  (aaE:∀b o,@be=@g->h1.get? b=@g) (hB:∀b o,@be=@g->b∉@aJ->(@bp≠none\/H1 b≠none)->B.get? b=@g) (jj:B.StaysIn h') (up:h1.UpToSlots h'):
  Un (ow X.outer) [] X.OD H1 X.ji.heap h'/\oD X.prog X.w H1 h'/\∀b o,@ag=@g->b∉ow X.outer->(@bp≠none\/H1 b≠none)->B.get? b=@g:=by
 have efr:@aJ=X.env.locals::ow X.outer:=by rw[Hi];unfold ow;rw[ud Hl]
 have Qz:∀b,b∉ow X.outer->@bh->b∉@aJ:=λb h1 h2 h3=>by
  rw[efr] at h3;rcases List.mem_cons.mp h3 with e |e
  .exact h2 e
  .exact h1 e
 have old:∀b o,@bp=@g->@bh:=λb o q=>br (bu (aO q) I.ok.above);have tr:∀b u,H1 b=@K->b∉@aJ:=λb u q hb=>by rw[I.zy b hb] at q;cases q
 have nx:∀b:Addr,b∉X.ex:=λb=>by rw[hex];exact bN
 have frame:∀b o,b∈ow X.outer->@be=@g->∃sl,@ag=some {o with slots:=sl}:=λb o hb e=>by
  obtain⟨_,o2,e2,nf⟩:=I.stack.mem (show b∈@aJ by rw[efr];exact .tail _ hb);rw[e] at e2;cases e2;exact up b o (aaE b o e) nf
 have go:∀b o,@be=@g->b∉@aJ->(@bp≠none\/H1 b≠none)->@ag=@g:=λb o e n c=>jj b o (hB b o e n c);refine⟨⟨λb o q n hb _=>?_,λb o q n hb _=>?_,λb o q n _=>I.base.free b o q n (nx b),λb o q _=>?_,I.base.rS,I.base.qY,I.base.vv,I.base.vB⟩,λa o q=>?_,λb o e hb hc=>?_⟩
 .exact go b o (I.base.keep b o q n hb (nx b)) (Qz b hb (old b o q)) (.inl (by rw[q];simp))
 .obtain⟨sl,e⟩:=I.base.slot b o q n hb (nx b);obtain⟨zA,e2⟩:=frame b _ hb e;exact⟨zA,e2⟩
 .obtain⟨o',e⟩:=I.base.there b o q (nx b);by_cases hb:b∈ow X.outer
  .obtain⟨zA,e2⟩:=frame b _ hb e;exact⟨_,e2⟩
  .exact⟨o',go b o' e (Qz b hb (old b o q)) (.inl (by rw[q];simp))⟩
 .refine(I.bP a o q).jj (λb u hb e=>?_) (λb r=>r) (λb xs r=>r);rcases hb with rfl |hb
  .exact go b u e (tr b _ q) (.inr (by rw[q];simp))
  .exact go b u e (tr b _ hb) (.inr (by rw[hb];simp))
 .have n:b∉@aJ:=by
   rcases hc with hc |hc
   .cases q:@bp with
    |none=>exact absurd q hc
    |some o0=>exact Qz b hb (old b o0 q)
   .cases q:H1 b with
    |none=>exact absurd q hc
    |some u=>exact tr b u q
  have:∃o1,@be=some o1:=by
   rcases hc with hc |hc
   .cases q:@bp with
    |none=>exact absurd q hc
    |some o0=>exact I.base.there b o0 q (nx b)
   .cases q:H1 b with
    |none=>exact absurd q hc
    |some u=>exact(I.bP b u q).there
  obtain⟨o1,e1⟩:=this;have e2:=go b o1 e1 n hc;rw[e] at e2;cases e2;exact hB b o e1 n hc
section
variable {P:bC} {w:World} {K:aq} {mg:@aK} {base:Heap} {N:@y} {qual:Str} {scope:Scope} {f:Addr} {cd:Value} {A:cH} {outer:@aG} {s:ay} {H:Hp} {Ek:XK} {E2:k7}
theorem aaB(ke:∀ex C H' G' o,E2 ex G'->kc K H' G'->mg ex.cls=some @R->V4 K H' ex.yi o->Ek @R o H'):Lk (xq (O2 P w) P w K mg base N qual scope f cd A outer s H Ek) E2 where
 pass:=λpins σ H1 s1 s' e I Ct=>by
  obtain⟨a,C,t,B,H',e1,os,bare,un,bP,hB,fl,ha,hs,oe,he,ex,C',G2,e2,hm,N8,hE,hf⟩:=Ct;subst e1;cases e2;show wpAny (model P w) _ (leaving _ @r) _ _ _;have I':Inv (xq (O2 P w) P w K mg base N qual scope f cd A outer s H Ek) pins σ H' s':=by
   obtain⟨hh,g,d,t,os'⟩:=s';obtain rfl:os'=s1.os:=os;exact I.call (h':=hh) (g':=g) (d':=d) (t':=t) (ch:=[]) un bP bare (λb z=>absurd z @i)
  refine gP (yw (J0 (Q:=λ_ s2=>∃h',B1 B outer a @R (.ref t) h'/\s'.heap.UpToSlots h'/\s2={s' with heap:=h'}) I.ok.frames rfl fl λh' YY up=>⟨h',YY,up,rfl⟩) (J2 _ _)) ?_ (λ_ _ z=>z);rintro _ s2 ⟨⟨h',YY,up,rfl⟩,dk⟩;obtain⟨oe',he',_⟩:=YY.there;have dk:=dk.at he he';obtain⟨ZS,Ke,hB'⟩:=Qq I' rfl rfl rfl (λ_ _ e=>e) (λb o e n c=>hB b o e n (c.imp (λz=>by
   cases q:@a2 with
   |none=>exact absurd q z
   |some o0=>obtain⟨o1,e1⟩:=I.base.there b o0 q bN;rw[e1];simp) id)) YY.1 up
  refine⟨a,C,t,B,H',rfl,I'.os,I'.bare,ZS,Ke,hB',YY,ha,?_,oe',he',ke ex C H' G2 _ hE N8 hm (by rw[dk];exact hf)⟩;cases q:s.heap.get? a with
  |none=>rfl
  |some o=>obtain⟨o1,e1⟩:=I.base.there a o q bN;rw[e1] at hs;cases hs
end
def CQ(K:aq)(mg:@aK)(sp:jl):Sp:=λvs H Q E=>∃ds G Q2 E2,@aU/\kc K H G/\sp ds G Q2 E2/\(∀d G' v H',Q2 d G'->Mv K H G H' G'->bW K H' v d->Q v H') /\
 ∀(ex:Ex) (C:Addr) (H':Hp) (G':Gp) (o:Option Addr),E2 ex G'->kc K H' G'->mg ex.cls=some @R->V4 K H' ex.yi o->E @R o H'
theorem Vz{P:bC}{w:World}{K:aq}{mg:@aK}{base:Heap}{x qual:Str}{st:Stmt}{f:Addr}{fd:fV}{Nn ps:@y}{k:Nat}{sp:jl}{rd:gj}(F:Ts K x qual st f fd)(S:kb Nn ps (cf st))(len:∀ds G Q E,sp ds G Q E->ds.length=ps.length)
  (hr:∀ds G Q E,sp ds G Q E->rd E @N (aY Nn.length ds) G)
  (hb:∀(ib:Value) (A:cH) (outer:@aG) (s:ay) (H:Hp) (E:XK),j4 k (A.deeper (zY qual (cf st) s.heap.objs.size f ib))->mO (xq (O2 P w) P w K mg base Nn qual (cf st) f ib A outer s H E) (fk st) rd):rX P w K mg base (O2 P w) (k+1) f fd ps (CQ K mg sp):=by
 obtain⟨oc,od,kV,doc,pm,an,ib,ct,LD,rfl,lk,L6⟩:=F.ex;refine WK lk L6 S ((by rintro vs H Q E ⟨ds,G,Q2,E2,r,ab,q,_⟩;exact by rw[r.length];exact len _ _ _ _ q)) ?_;rintro A outer s H vs Q E Ru ⟨ds,G,Q2,E2,r,ab,q,kk,ke⟩;refine⟨_,PS (hb ib A outer s H E Ru) (aaB ke),?_⟩;exact⟨aY Nn.length ds,G,ends Q2,FZ r,ab,hr ds G Q2 E2 q,λkh H' oI G' mv z=>kk _ _ _ _ z mv .eX,λv H' d G' mv Xu z=>kk _ _ _ _ z mv Xu,λ_ _ z=>z,λ_ _ z=>z⟩
noncomputable def QW:HO->Bool
 |.tup _=>true
 |.i9 _ (.lst _)=>true
 |.i9 _ (.dK _)=>true
 |.i9 _ (.dT _)=>true
 |.i9 _ (.ext _)=>true
 |.i9 _ (.xd _)=>true
 |_=>false
def hr(H:Hp):Hp:=λb=>(H b).bind λo=>if QW o=true then @g else none
noncomputable def hj(H1 H':Hp):Hp:=λb=>match H1 b with
 |some o=>@g
 |none=>H' b
section
variable {P:bC} {w:World} {K:aq} {H H1 H':Hp} {h h':Heap} {b:Addr} {o:HO} {fs:@ay}
theorem Vs(q:hr H b=@g):H b=@g/\QW o=true:=by
 unfold hr at q;cases e:H b with
 |none=>rw[e] at q;cases q
 |some u=>
  rw[e] at q;simp only[uS] at q;by_cases k:QW u=true
  .rw[if_pos k] at q;cases q;exact⟨rfl,k⟩
  .rw[if_neg k] at q;cases q
theorem qo(q:H b=@g)(k:QW o=true):hr H b=@g:=by unfold hr;rw[q,uS,if_pos k]
theorem w8(q:H b=none):hr H b=none:=by unfold hr;rw[q];rfl
theorem Rw(q:H b=@g)(k:QW o=false):hr H b=none:=by unfold hr;rw[q,uS,if_neg (by rw[k];exact eS)]
theorem Yu(x:oD P w H h):oD P w (hr H) h:=λa o q=>by
 obtain⟨e,k⟩:=Vs q;have y:=x a o e;cases o with
 |tup xs=>exact y
 | i9 ob u=>
  cases u with
  |lst _=>exact y
  |dK _=>exact y
  |ext _=>exact y
  |xd _=>exact y
  |dT kvs=>
   obtain⟨e1,z,n,xs,r,rest⟩:=y;exact⟨e1,z,n,xs,L2.Paired.Ve r (λp q z=>⟨z.1,qo z.2.1 rfl,z.2.2⟩),rest⟩
  |_=>exact ba (show false=true from k)
 |_=>exact ba (show false=true from k)
theorem oW(q:H1 b=@g):hj H1 H' b=@g:=by unfold hj;rw[q]
theorem qW(q:H1 b=none):hj H1 H' b=H' b:=by unfold hj;rw[q]
theorem join(un:Un fs [] (hr H1) H' h h')(k1:oD P w H1 h)(k2:oD P w H' h')(fr:∀b∈fs,H1 b=none):
  Un fs [] H1 (hj H1 H') h h'/\oD P w (hj H1 H') h'/\Kp H' (hj H1 H')/\∀b u,(∀o,H1 b=@g->QW o=false\/∃ob v,o=.i9 ob v)->H1 b≠none->@ap=@K->@ag=@K:=by
 have nx:∀c:Addr,c∉([]:@ay):=λc=>bN;have aas:∀c u,H1 c=@K->c∉fs:=λc u q z=>by rw[fr c z] at q;cases q
 have To:∀c u v,H1 c=@K->H' c=@Y->u=v/\QW u=true:=λc u v q q'=>by
  cases k:QW u with
  |false=>
   obtain⟨ob,e⟩:=(k1 c u q).there;have:=un.free c ob e (Rw q k) (nx c);rw[this] at q';cases q'
  |true=>
   have r:=qo q k;cases u with
   |tup xs=>have:=un.rS c xs r;rw[q'] at this;cases this;exact⟨rfl,rfl⟩
   |i9 ob x=>have:=un.qY c ob x r;rw[q'] at this;cases this;exact⟨rfl,rfl⟩
   |_=>exact ba (show false=true from k)
 have same:∀b u,(∀o,H1 b=@g->QW o=false\/∃ob v,o=.i9 ob v)->H1 b≠none->@ap=@K->@ag=@K:=λb u hh hn e=>by
  cases q:H1 b with
  |none=>exact absurd q hn
  | some o=>
   cases k:QW o with
   |false=>exact un.keep b u e (Rw q k) (aas b o q) (nx b)
   |true=>
    rcases hh o q with z |⟨ob,v,rfl⟩
    .rw[z] at k;cases k
    .have h1:=(k2 b _ (un.qY b ob v (qo q k))).1;have h2:=(k1 b _ q).1;rw[h2] at e;cases e;exact h1
 refine⟨⟨λc u e n hc hx=>un.keep c u e (w8 n) hc hx,λc u e n hc hx=>un.slot c u e (w8 n) hc hx,λc u e n hx=>?_,λc u e hx=>un.there c u e hx,λc xs q=>oW q,λc ob u q=>oW q,λc ps q=>oW q,λc x q=>oW q⟩,λc o q=>?_,⟨λc xs q=>?_,λc ob u q=>?_⟩,same⟩
 .rw[qW n];exact un.free c u e (w8 n) hx
 .cases q1:H1 c with
  | some o1=>
   rw[oW q1] at q;cases q;by_cases ht:∃xs,o=.tup xs
   .obtain⟨xs,rfl⟩:=ht;exact k2 c _ (un.rS c xs (qo q1 rfl))
   .refine(k1 c o q1).jj (λd u hd e=>?_) (λd r=>oW r) (λd xs r=>oW r);rcases hd with rfl |hd
    .refine same d u (λo' e'=>?_) (by rw[q1];simp) e;rw[q1] at e';cases e';cases o with
     |tup xs=>exact absurd ⟨xs,rfl⟩ ht
     |i9 ob v=>exact .inr ⟨ob,v,rfl⟩
     |_=>exact @W
    .refine same d u (λo' e'=>?_) (by rw[hd];simp) e;rw[hd] at e';cases e';exact @W
  | none=>
   rw[qW q1] at q;refine(k2 c o q).jj (λd u _ e=>e) (λd r=>?_) (λd xs r=>?_)
   .cases q2:H1 d with
    |none=>rw[qW q2];exact r
    |some u=>obtain⟨rfl,k⟩:=To d u _ q2 r;exact ba (show false=true from k)
   .cases q2:H1 d with
    |none=>rw[qW q2];exact r
    |some u=>obtain⟨rfl,k⟩:=To d u _ q2 r;exact oW q2
 .cases q2:H1 c with
  |none=>rw[qW q2];exact q
  |some u=>obtain⟨rfl,k⟩:=To c u _ q2 q;exact oW q2
 .cases q2:H1 c with
  |none=>rw[qW q2];exact q
  |some v=>obtain⟨rfl,k⟩:=To c v _ q2 q;exact oW q2
end
theorem bW.hr{K:aq}(h:bW K H v d):bW K (K2.hr H) v d :=
 bW.rec (motive_1:=λv d _=>bW K (K2.hr H) v d) (motive_2:=λv d _=>bo K (K2.hr H) v d) (motive_3:=λv d _=>mP K (K2.hr H) v d) (motive_4:=λv d _=>my K (K2.hr H) v d)
  .eX .bl .int .str (λh _ r=>.tup (qo h rfl) r) (λh _ r=>.dF (h.imp (λq=>q.elim λo q=>⟨o,qo q rfl⟩) id) r) (λh _ r=>.pM (qo h rfl) r) (λh _ r=>.pL (qo h rfl) r) .ref (λh=>.exc (by obtain⟨o,C,h1,h2,h3⟩:=h;exact⟨o,C,qo h1 rfl,h2,h3⟩)) (λh _ r=>.BA (by obtain⟨o,C,dx,od,fs,h1,h2,h3,h4,h5,h6⟩:=h;exact⟨o,C,dx,od,fs,qo h1 rfl,h2,h3,h4,qo h5 rfl,h6⟩) r) (λh z _ _ r1 r2=>.kF (qo h rfl) z r1 r2) .nil (λ_ _ a b=>.cons a b) .nil (λ_ _ a b=>.cons a b) .nil (λ_ _ a b=>.cons a b) h
theorem bo.hr{K:aq}(h:bo K H v d):bo K (K2.hr H) v d :=
 bo.Hd (P:=λv d=>bo K (K2.hr H) v d) .nil (λr _ ih=>.cons r.hr ih) h
section
variable {M:Model} {A:cH} {E:@C}
variable {nm q nm' q':Str} {C N D N':Addr} {bs bm WS bm':@s} {hdct WD:Bool} {sn sn':@y} {sub ZY:@s} {ab VZ:Bool} {col abH:Option Bool} {dd xn:Option Addr} {k0 k1 k2 k3 k5 k0' k1' k2' k3' k5':Option Value} {newId Yc:String}
theorem NB{h:Heap}{g:Array GenState}{d:Drawn}{t:Nat}{os:ni}{e:Addr}{oe:Obj}{Q:Bool->@X}
  (hC:h.get? C=some (DQ nm q C N bs bm hdct sn sub ab col dd k0 k1 k2 k3 k5 newId)) (hD:h.get? D=some (DQ nm' q' D N' WS bm' WD sn' ZY VZ abH xn k0' k1' k2' k3' k5' Yc))
  (he:h.get? e=some oe) (Cu:oe.cls=.ref C) (tI:bm'.contains (@bj)=true)
  (hq:Q ((dg C::bm).contains (.ref D)) ⟨h,g,d,t,os⟩):wpAny M A (excMatches (.ref e) (.ref D)) Q E ⟨h,g,d,t,os⟩:=by
 have hcB:(dg D::bm').contains (@bj)=true:=by rw[List.contains_cons,tI,Bool.or_true]
 have f:=tc_notTuple;generalize hb:(dg C::bm).contains (.ref D)=r at hq;unfold excMatches
 repeat (first |(with_reducible refine wpAny_loadPart_at he ?_;rw[Cu]) |with_reducible refine wpAny_loadPart_at hD ?_ |(with_reducible refine wpAny_isSubtype_exc hD ?_;rw[hcB]) |(with_reducible refine wpAny_isSubtype_exc hC ?_;rw[hb]) |wp_step)
 cases r
 .wp_walk;exact hq
 .wp_walk;exact hq
end
section
variable {X:Cx} {pins:@t} {σ:L2.St} {H1:Hp} {G1:Gp} {s1:ay} {k:Nat} {f:Addr} {fd:fV} {ps:@y} {sp:jl}
theorem Wn(ab:kc X.K H1 G1):Mv X.K H1 G1 (hj H1 H') G1:=by
 have kp:Kp H1 (hj H1 H'):=⟨λa xs e=>oW e,λa o u e=>oW e⟩;have VZ:kc X.K (hj H1 H') G1:=λa g e=>(ab a g e).mono kp (by
  cases q:H1 a with
  |none=>exact absurd q (ab a g e).tracked
  |some o=>exact oW q)
 exact⟨λa o e n=>⟨oW e,n⟩,λa n=>by
  cases q:G1 a with
  |none=>exact absurd q n
  |some g=>exact(VZ a g q).tracked,VZ⟩
theorem PF(F:rX X.prog X.w X.K X.mg X.base (O2 X.prog X.w) k f fd ps (CQ X.K X.mg sp))(hr:j4 k X.A)(hb:Binds X.K fd ps [])(I:Inv X pins σ H1 s1)(ab:kc X.K H1 G1)(r:Vals vs us)(rd:bo X.K H1 vs ds)
  (h:sp ds (λ_=>none) Q2 E2):wpAny @o X.A (call (.ref f) us)
   (λu s'=>∃v d G' Hj,Inv X pins σ Hj s'/\Mv X.K H1 G1 Hj G1/\RelV v u/\bW X.K Hj v d/\Q2 d G'/\(∀b g,G' b=some g->H1 b=none/\KW X.K Hj b g))
   (λe s'=>∃(a C t:Addr) (B:Heap) (ex:Ex) (Hj:Hp),e=@S/\Inv X pins σ Hj s'/\Mv X.K H1 G1 Hj G1/\B1 B X.stack a @R (.ref t) s'.heap /\
    (∀b o,s'.heap.get? b=@g->b∉@aJ->(@be≠none\/Hj b≠none)->B.get? b=@g)/\Hj a=none/\s1.heap.get? a=none/\(∃oe,s'.heap.get? a=some oe/\V4 X.K Hj ex.yi oe.dict)/\X.mg ex.cls=some @R/\∃G',E2 ex G') s1:=by
 have Rq:CQ X.K X.mg sp vs (K2.hr H1) (λv H'=>∃d G',bW X.K H' v d/\Q2 d G'/\kc X.K H' G') (exK X.K X.mg E2) :=
  ⟨ds,λ_=>none,Q2,E2,rd.hr,(λ_ _ z=>by cases z),h,λd G' v H' q m M8=>⟨d,G',M8,q,m.ab⟩,λex C H' G' o q VZ hm hf=>⟨ex,C,G',rfl,hm,VZ,q,hf⟩⟩
 have hl:us.length=ps.length:=by rw[<-r.length];exact F.len _ _ _ _ Rq
 have e0:=I.abD;have e1:SV X.prog X.w X.K X.mg X.base X.A X.stack s1 (K2.hr H1):=⟨e0.frames,e0.mod,λb o q=>⟨(e0.bs b o q).1,w8 (e0.bs b o q).2⟩,e0.Sv,e0.yg,λb z=>w8 (e0.Tn b z),Yu e0.bP,e0.bare⟩;have hbu:=hb s1 us I.zG (by rw[cI];exact hl);rw[cI] at hbu;refine wpAny_call (zZ (F.run X.A X.stack s1 (K2.hr H1) ⟨us,[]⟩ us vs _ _ hr e1 hbu r Rq) λres s' hq=>?_);cases res with
 | error e=>
  obtain⟨a,C,t,B,H',rfl,os,bare,un,bP,hB,fl,ha,hs,oe,he,ex,C',G2,ec,hm,_,hE,hf⟩:=hq;cases ec;obtain⟨ZS,Ke,kp',_⟩:=join un I.bP bP e0.Tn;have h1a:H1 a=none:=by
   cases q:H1 a with
   |none=>rfl
   |some u=>obtain⟨o,e⟩:=(I.bP a u q).there;rw[e] at hs;cases hs
  refine⟨a,C,t,B,ex,hj H1 H',rfl,I.Sm (ch:=[]) os ZS Ke bare (λb z=>absurd z @i),Wn ab,fl,λb o e n c=>hB b o e n ?_,by rw[qW h1a];exact ha,hs,⟨oe,he,hf.mono kp'⟩,hm,G2,hE⟩;rcases c with c |c
  .exact .inl c
  .cases q:H1 b with
   |none=>rw[qW q] at c;exact .inr c
   |some u=>obtain⟨o1,e1⟩:=(I.bP b u q).there;exact .inl (by rw[e1];simp)
 | ok fl=>
  cases fl with
  | ret u=>
   obtain⟨v,H',os,bare,un,bP,rv,d,G',M8,q,abn⟩:=hq;obtain⟨ZS,Ke,kp,_⟩:=join un I.bP bP e0.Tn;refine⟨v,d,G',hj H1 H',I.Sm (ch:=[]) os ZS Ke bare (λb z=>absurd z @i),Wn ab,rv,M8.mono kp,q,λb g e=>?_⟩;have h1:H1 b=none:=by
    cases q1:H1 b with
    |none=>rfl
    | some u=>
     exfalso;have t:=(abn b g e).tracked;cases k:QW u with
     |false=>
      obtain⟨ob,eo⟩:=(I.bP b u q1).there;exact t (un.free b ob eo (Rw q1 k) bN)
     |true=>
      have r:=qo q1 k;cases u with
      |tup xs=>have:=abn.Wg (un.rS b xs r);rw[e] at this;cases this
      |i9 ob x=>have:=abn.Wh (un.qY b ob x r);rw[e] at this;cases this
      |_=>exact ba (show false=true from k)
   exact⟨h1,(abn b g e).mono kp (qW h1)⟩
  |next=>exact bI hq
  |brk=>exact bI hq
  |cont=>exact bI hq
end
section
variable {X:Cx} {pins:@t} {σ:L2.St} {H H1:Hp} {s s1:ay} {h6 B:Heap} {a:Addr} {o:Obj} {u:HO}
theorem Mq{h:Heap}(up:h.UpToSlots h')(z:h.IsCell c v):h'.IsCell c v:=by
 obtain⟨o,ho,hd⟩:=z;obtain⟨sl,e⟩:=up c o ho (λvs q=>by rw[hd] at q;cases q);exact⟨_,e,hd⟩
theorem P7(I:@m)(Hi:X.stack=X.env::X.outer)(Hl:X.env.frame=some X.env.locals)(hp:p∈X.pn++pins):p.1∉@aJ:=λz=>by
 obtain⟨_,_,h3,h4,_⟩:=I.pin p hp;rw[Hi] at z;unfold ow at z;rw[ud Hl] at z;rcases List.mem_cons.mp z with e |e
 .exact h3 e
 .exact h4 e
theorem DP(I:@m)(I1:Inv X pins σ H1 s1)(Hi:X.stack=X.env::X.outer)(Hl:X.env.frame=some X.env.locals)(hex:X.ex=[])
    (hB:∀b o,@T -> b∉@aJ -> (@be≠none\/H b≠none) -> B.get? b=@g) (jj:B.StaysIn h6) (up:s.heap.UpToSlots h6) (tk):Inv X pins σ H {s with heap := h6,toks := tk} := by
  have z := Qq I Hi Hl hex (λ_ _ e=> e) (λb o e n c=> hB b o e n (c.imp (λc=> by
    cases q:@bp with
    |none=> exact absurd q c
    |some o0=> obtain⟨o1,e1⟩ := I1.base.there b o0 q (by rw[hex];exact bN);rw[e1];simp) id)) jj up
  exact { ok := I.ok,os := I.os,bare := I.bare
          base := by rw[hex];exact z.1
          loc := by
            obtain⟨m,hn,hl⟩ := I.loc;exact⟨m,up.ns hn,λi x v e1 e2 e3=> let ⟨u,r,q⟩ := hl i x v e1 e2 e3;⟨u,r,q.imp id λ⟨k,c,e,y⟩=> ⟨k,c,e,Mq up y⟩⟩⟩
          cell := λx c e=> let ⟨v,y⟩ := I.cell x c e;⟨v,Mq up y⟩
          free := I.free,jP := I.jP
          pin := λp hp=> by
            obtain⟨h1,h2⟩ := I.pin p hp;exact⟨jj _ _ (hB p.1 p.2 h1 (P7 I Hi Hl hp) (.inl (by rw[(I1.pin p hp).1];simp))),h2⟩
          bP := z.2.1
          len := I.len}
theorem OC(I:@m)(ha:H a=none)(hn:X.ji.heap.get? a=none)(nl:a≠X.env.locals)(nc:∀x c,@bg -> c≠a)(np:∀p∈X.pn ++ pins,p.1≠a)(new:fQ X.prog X.w (upd H a u) s.heap a u):
    Inv X pins σ (upd H a u) s := by
  have ne:∀b v,H b=@Y -> b≠a := λb v q e=> by rw[e,ha] at q;cases q
  exact { ok := I.ok,os := I.os,bare := I.bare
          base := ⟨I.base.keep,I.base.slot,λb o q n hx=> by
            have:b≠a := λe=> by rw[e,hn] at q;cases q
            rw[bH this];exact I.base.free b o q n hx,I.base.there,λb xs q=> by have r := I.base.rS b xs q;rw[bH (ne _ _ r)];exact r,λb o v q=> by have r := I.base.qY b o v q;rw[bH (ne _ _ r)];exact r,
            λb ps q=> by have r := I.base.vv b ps q;rw[bH (ne _ _ r)];exact r,
            λb x q=> by have r := I.base.vB b x q;rw[bH (ne _ _ r)];exact r⟩
          loc := I.loc,cell := I.cell
          free := by rw[bH (dD nl)];exact I.free
          jP := λx c e=> by rw[bH (nc x c e)];exact I.jP x c e
          pin := λp hp=> by obtain⟨h1,h2,h3⟩ := I.pin p hp;exact⟨h1,by rw[bH (np p hp)];exact h2,h3⟩
          bP := λb v q=> by
            by_cases e:b=a
            . subst e;rw[bM] at q;cases q;exact new
            . rw[bH e] at q
              exact(I.bP b v q).jj (λ_ _ _ y=> y) (λc r=> by rw[bH (ne _ _ r)];exact r) (λc xs r=> by rw[bH (ne _ _ r)];exact r)
          len := I.len}
noncomputable abbrev marked(X:Cx)(v:Value):Cx:={X with A:=X.A.mark (@Y),calm:=false,xe:=@j}
theorem V3(ok:X.Ok):(marked X v).Ok :=
 ⟨ok.mod,ok.kind,ok.glob,ok.blt,ok.above,ok.inj,ok.has,ok.ZD,λz=>(by cases z),ok.frames,ok.ZZ,ok.exf,ok.bs,ok.Sv,ok.JR,ok.Oe,ok.yg,ok.Tn⟩
theorem IC(I:@m):Inv (marked X v) pins σ H s:=⟨V3 I.ok,I.os,I.bare,I.base,I.loc,I.cell,I.free,I.jP,I.pin,I.bP,I.len⟩
theorem KU(ok:X.Ok)(I:Inv (marked X v) pins σ H s):@m:=⟨ok,I.os,I.bare,I.base,I.loc,I.cell,I.free,I.jP,I.pin,I.bP,I.len⟩
theorem W6{M:Model}{A:cH}{E:Value -> ay -> Prop}{i:Nat}{n:Str}{pos:Pos}{Q:Unit -> ay -> Prop}(I:@m)(hN:X.N.Nodup)(hi:X.N[i]?=some n)(hk:X.env.scope.names.lookup n=@aH)
    (h:∀s',Inv X pins (σ.set i none) H s' -> Q () s'):wpAny M A (do bindName X.env n .none;unbindBehindTheSuite X.env n pos) Q E s := by
  obtain⟨m,hn,hl⟩ := id I.loc;have Cu:(X.env.scope.kind == .class || (X.env.scope.kind == .module && X.env.locals != X.env.globals))=false := by rw[I.ok.kind];rfl
  obtain⟨oL,_,_,hoL,_⟩ := id hn;refine wpAny_nameGoes_keeps hk hn Cu λh' v hn' hs=> h _ ?_;have low:∀b o,@bp=@g -> @bh := λb o e=> br (bu (aO e) I.ok.above)
  exact { ok := I.ok,os := I.os,bare := I.bare
          base := ⟨λb o e n hb hx=> (hs.2 b (low b o e)).trans (I.base.keep b o e n hb hx),λb o e n hb hx=> by
              obtain⟨sl,e1⟩ := I.base.slot b o e n hb hx;exact⟨sl,(hs.2 b (low b o e)).trans e1⟩,I.base.free,λb o e hx=> by
              obtain⟨o',e1⟩ := I.base.there b o e hx;exact⟨o',(hs.2 b (low b o e)).trans e1⟩,I.base.rS,I.base.qY,I.base.vv,I.base.vB⟩
          loc := ⟨_,hn',fun j y v' e1 e2 e3=> by
            by_cases hj:j=i
            . subst hj
              by_cases yf:j<σ.length
              . rw[dn yf] at e2;cases e2
              . rw[fY (by rw[bX];lia)] at e2;cases e2
            . rw[dq (dD hj)] at e2
              obtain⟨u',r',q⟩ := hl j y v' e1 e2 e3;refine⟨u',r',?_⟩;rcases q with ⟨k,e⟩ |⟨k,c,e,z⟩
              . refine .inl ⟨k,?_⟩
                have:y≠n := λe=> hj (A1 hN e1 (e ▸ hi));simp[this,e]
              . exact .inr ⟨k,c,e,z.sameBut hs (I.VM y c e)⟩⟩
          cell := λy c e=> by
            obtain⟨w',z⟩ := I.cell y c e;exact⟨w',z.sameBut hs (I.VM y c e)⟩
          free := I.free,jP := I.jP
          pin := λp hp=> by
            obtain⟨h1,h2,h3,h4⟩ := I.pin p hp;exact⟨(hs.2 p.1 h3).trans h1,h2,h3,h4⟩
          bP := λb ob e=> by
            refine(I.bP b ob e).jj (λc w' hc q=> (hs.2 c ?_).trans q) (λ_ q=> q) λ_ _ q=> q;rintro rfl;rcases hc with rfl |hc
            . rw[I.free] at e;cases e
            . rw[I.free] at hc;cases hc
          len := by rw[bX];exact I.len}
end
theorem OG{K:aq}(a:MK K H σ τ)(i):MK K H (σ.set i none) (τ.set i none):=by
 refine⟨by rw[bX,bX];exact a.len,λj e h=>?_⟩;by_cases hj:i=j
 .subst hj;by_cases hi:i<τ.length
  .rw[dn hi] at h;cases h
  .rw[fY (by rw[bX];lia)] at h;cases h
 .rw[dq hj] at h;obtain⟨w,h1,h2⟩:=a.at' j e h;exact⟨w,by rw[dq hj];exact h1,h2⟩
noncomputable def subIn(K:aq)(C:Addr)(v:Value):Bool:=match K.lookup C with
 |some ⟨_,_,.cls cd,_⟩=>cd.mro.contains v
 |_=>false
theorem TU{K:aq}
  (Y:K.In h) (hC:h.get? C=some (DQ nm q C N bs bm hdct sn sub ab col dd k0 k1 k2 k3 k5 newId)) (e:subIn K C v=true):(dg C::bm).contains v=true:=by
 unfold subIn at e;split at e
 .rename_i ho;have:=Y _ _ ho;rw[hC] at this;cases this;exact e
 .cases e
section
variable {X:Cx} {x cn n:Str} {D f:Addr} {fd:fV} {ps:@y} {k i:Nat} {sp:jl} {bmD:@s} {newD:String} {cat:@y} {e:Expr} {es:@az} {p np pos ep NY tp:Pos} {Lg:Stmt} {u5:List Stmt} {t:Cd} {th:gj}
structure ze(X:Cx):Prop where
 st:X.stack=X.env::X.outer
 fr:X.env.frame=some X.env.locals
 ex:X.ex=[]
structure Clause(X:Cx)(i:Nat)(n cn:Str)(D:Addr)(cat:@y):Prop where
 nd:X.N.Nodup
 To:X.N[i]?=some n
 loc:X.env.scope.names.lookup n=@aH
 gl:Gl X cn
 mg:X.mg cn=some (.ref D)
 cls:∃bmD newD,(lh X.K D bmD newD=true\/Mh X.K D bmD newD=true)/\bmD.contains (@bj)=true
 cat:∀c,cat.contains c=true->∃C vN newId,mz X.K bK c=some (some @R)/\(lh X.K C vN newId=true\/Mh X.K C vN newId=true)/\subIn X.K C (.ref D)=true
structure Lnd(X:Cx)(B:Heap)(a C t0:Addr)(h0 h5:Heap)(o0:Option Addr):Prop where
 fl:xC B (X.env::X.outer) a @R (.ref t0) h5
 up:h0.UpToSlots h5
 dk:∀o5,h5.get? a=some o5->o5.dict=o0
theorem HX(A0:ze X)(RF:X.A.frames=some X.stack)(fl:B1 B X.stack a @R (.ref t0) s'.heap)(Ti:s'.heap.get? a=some o0)
  (k:∀h5,Lnd X B a C t0 s'.heap h5 o0.dict->wpAny @o X.A (handleBy @r X.env hs) Q X.xe {s' with heap:=h5}):
  wpAny @o X.A (pV @r X.env) (λ_ uU=>wpAny @o X.A (zU @r none) (λ_ Ap=>wpAny @o X.A (handleBy @r X.env hs) Q X.xe Ap) X.xe uU) X.xe s':=by
 obtain⟨Hi,Hl,hex⟩:=A0;rw[Hi] at fl RF;refine gP (yw (AZ (Q:=λ_ s2=>∃h4,zt B (X.env::X.outer) a @R (.ref t0) X.env.locals h4/\s'.heap.UpToSlots h4/\s2={s' with heap:=h4}) (L:=X.env.locals) RF Hl fl λh4 held Ph=>⟨h4,held,Ph,rfl⟩) (Ep _ _)) ?_ (λ_ _ z=>z);rintro _ s2 ⟨⟨h4,held,Ph,rfl⟩,dk4⟩;refine gP (yw (wpAny_landsW (Q:=λ_ s2=>∃h5,xC B (X.env::X.outer) a @R (.ref t0) h5/\h4.UpToSlots h5/\s2={s' with heap:=h5}) held λh5 YX Zn=>⟨h5,YX,Zn,rfl⟩) (mJ _ _)) ?_ (λ_ _ z=>z);rintro _ s2 ⟨⟨h5,YX,Zn,rfl⟩,dk5⟩;obtain⟨oe4,he4,_⟩:=held.there;exact k h5 ⟨YX,Ph.trans Zn,λo5 e5=>(dk5.at he4 e5).trans (dk4.at Ti he4)⟩
theorem Om{Dn:mx}{ex:Ex}{rest:List ExceptHandler}(A0:ze X)(L:Clause X i n cn D cat)(Yq:∀v,mO (marked X v) (Lg::u5) th)(J1:Inv X pins σ H1 s1)(TY:MK X.K H1 σ τ)(ab1:kc X.K H1 G1)(m1:Mv X.K H G H1 G1)
  (I':Inv X pins σ Hj s') (mv:Mv X.K H1 G1 Hj G1) (hB:∀b o,s'.heap.get? b=@g->b∉@aJ->(@be≠none\/Hj b≠none)->B.get? b=@g)
  (Vx:Hj a=none) (Ez:s1.heap.get? a=none) (hfo:V4 X.K Hj ex.yi o0) (RB:X.mg ex.cls=some @R) (L7:cat.contains ex.cls=true)  (hdv:dv=.exc ex.cls\/ex.yi≠[]/\dv=.BA ex.cls (ex.yi.map @k) (ex.yi.map (·.2)))
  (q':th (@j) ⟨λoI G'=>Dn.nx (oI.set i none) G',@j,@j,@j⟩ (τ.set i (some dv)) G1) (YE:(cn == ("__debug__":Str))=false) (ld:Lnd X B a C t0 s'.heap h5 o0):
  wpAny @o X.A (handleBy @r X.env (.ExceptHandler (some (.Name cn np)) (some n) (Lg::u5) NY::rest)) (Tp X pins H G Dn) X.xe {s' with heap:=h5}:=by
 obtain⟨Hi,Hl,hex⟩:=A0;obtain⟨hN,hi,hl,hgD,hmD,⟨bmD,newD,qD,bD⟩,aev⟩:=L;obtain⟨C',vN,newId,LZ,qC,Vr⟩:=aev ex.cls L7;have eC:C'=C:=by
  have:=PySem.W.mg_of J1.ok.mod.Wt J1.ok.mod.glob LZ;rw[RB] at this;cases this;rfl
 subst eC;obtain⟨YX,Zn,dk5⟩:=ld;have I5:Inv X pins σ Hj {s' with heap:=h5}:=DP I' J1 Hi Hl hex hB YX.1 Zn _;refine wpAny_handleBy_cons (codeAny_handlers_test ?_) (by intro z;cases z);refine oS (X:=marked X @r) (IC I5) hgD hmD ?_ YE;obtain⟨bm,N,nm,qn,bs,hdct,sn,sub,ab,col,dd,k0,k1,k2,k3,k5,hC,T⟩:=Mg I5.zG qC;obtain⟨bm',N',nm',qn',WS,WD,sn',ZY,VZ,abH,xn,k0',k1',k2',k3',k5',hD,T'⟩:=Mg I5.zG qD;obtain⟨oe,he5,hce⟩:=YX.there;refine NB hC hD he5 hce (T'.hasType bD) ?_;rw[TU I5.zG hC Vr];refine codeAny_handlers_suite_as ?_;refine gP (yw (lands_againW (Q:=λ_ s2=>∃h6,xC B (X.env::X.outer) a (.ref C') (.ref t0) h6/\h5.UpToSlots h6/\s2={s' with heap:=h6}) YX λh6 fl6 up6=>⟨h6,fl6,up6,rfl⟩) (mJ _ _)) ?_ (λ_ _ z=>z);rintro _ s2 ⟨⟨h6,fl6,up6,rfl⟩,dk6⟩;have I6:Inv X pins σ Hj {s' with heap:=h6}:=DP I' J1 Hi Hl hex hB fl6.1 (Zn.trans up6) _;obtain⟨Qw,vs6,he6,hc6,hd6,_⟩:=fl6.first
 have aa8:Qw.dict=o0:=(dk6.at he5 he6).trans (dk5 _ he5);have nl:a≠X.env.locals:=λz=>by
  obtain⟨m,⟨oL,_,_,hoL,_⟩,_⟩:=J1.loc;rw[z,hoL] at Ez;cases Ez
 have nc:∀y c,X.env.cells.lookup y=some c->c≠a:=λy c ec z=>by
  obtain⟨v,o,ho,_⟩:=J1.cell y c ec;rw[z,Ez] at ho;cases ho
 have npn:∀q∈X.pn++pins,q.1≠a:=λq hq z=>by
  have:=(J1.pin q hq).1;rw[z,Ez] at this;cases this
 have hn:X.ji.heap.get? a=none:=by
  cases q0:X.ji.heap.get? a with
  |none=>rfl
  |some o=>obtain⟨o1,e1⟩:=J1.base.there a o q0 (by rw[hex];exact bN);rw[e1] at Ez;cases Ez
 have I7:=OC (u:=.i9 Qw (.ext λh=>@ak=some Qw)) I6 Vx hn nl nc npn ⟨he6,he6,⟨_,he6⟩,λh1 h2 q k=>k _ q⟩;have mvT:Mv X.K Hj G1 (upd Hj a (.i9 Qw (.ext λh=>@ak=some Qw))) G1:=.Ft mv.ab Vx;have kp7:Kp H1 (upd Hj a (.i9 Qw (.ext λh=>@ak=some Qw))):=(mv.trans mvT).kp ab1;have Xu:bW X.K (upd Hj a (.i9 Qw (.ext λh=>@ak=some Qw))) @r dv:=by
  rcases hdv with rfl |⟨zH,rfl⟩
  .exact .exc ⟨Qw,C',bM,hc6,LZ⟩
  .rcases hfo with z |⟨dx,od,fs,e1,e2,e3,e4⟩
   .exact absurd z zH
   .have kT:=mvT.kp mv.ab;exact .BA ⟨Qw,C',dx,od,fs,bM,hc6,LZ,aa8.trans e1,kT.i9 _ _ _ e2,by unfold PySem.W.notCls;rw[hd6],e3,rfl⟩ (e4.mono kT)
 refine xW (v:=@S) I7 hN hi (.inl hl) rfl (λs8 I8 _=>?_) (.inr hl);refine gP (Yq @r (@j) pins s8 _ _ (τ.set i (some dv)) G1 _ (Lk.none λ_ _ z=>z)
  ⟨IC I8,(TY.mono kp7).set i Xu,mvT.ab⟩ q') (λfw s9 q9=>?_) (λ_ _ z=>z.elim)
 cases fw with
 |next=>
  obtain⟨ZN,H9,Zk,G9,I9,m9,q9⟩:=q9;exact W6 (KU J1.ok I9.inv) hN hi hl λs10 I10=>⟨ZN.set i none,H9,Zk.set i none,G9,⟨I10,OG I9.st i,I9.ab⟩,m1.trans (mv.trans (mvT.trans m9)),q9⟩
 |brk=>obtain⟨_,_,_,_,_,_,z⟩:=q9;exact z.elim
 |cont=>obtain⟨_,_,_,_,_,_,z⟩:=q9;exact z.elim
 |ret u=>obtain⟨_,_,_,_,_,_,_,_,_,z⟩:=q9;exact z.elim
theorem HW{Dn:mx}{ex:Ex}(A0:ze X)(L:Clause X i n cn D cat)(Yq:∀v,mO (marked X v) (Lg::u5) th)(J1:Inv X pins σ H1 s1)(TY:MK X.K H1 σ τ)(ab1:kc X.K H1 G1)(m1:Mv X.K H G H1 G1)
  (I':Inv X pins σ Hj s') (mv:Mv X.K H1 G1 Hj G1) (fl:B1 B X.stack a @R (.ref t0) s'.heap) (hB:∀b o,s'.heap.get? b=@g->b∉@aJ->(@be≠none\/Hj b≠none)->B.get? b=@g)
  (Vx:Hj a=none) (Ez:s1.heap.get? a=none) (hfd:∃oe,s'.heap.get? a=some oe/\V4 X.K Hj ex.yi oe.dict) (RB:X.mg ex.cls=some @R) (L7:cat.contains ex.cls=true)  (hdv:dv=.exc ex.cls\/ex.yi≠[]/\dv=.BA ex.cls (ex.yi.map @k) (ex.yi.map (·.2)))
  (q':th (@j) ⟨λoI G'=>Dn.nx (oI.set i none) G',@j,@j,@j⟩ (τ.set i (some dv)) G1) (YE:(cn == ("__debug__":Str))=false):
  wpAny @o X.A (pV @r X.env) (λ_ uU=>wpAny @o X.A (zU @r none) (λ_ Ap=>wpAny @o X.A (handleBy @r X.env [.ExceptHandler (some (.Name cn np)) (some n) (Lg::u5) NY]) (Tp X pins H G Dn) X.xe Ap) X.xe uU) X.xe s':=by
 obtain⟨o0,Ti,hfo⟩:=hfd;exact HX A0 J1.ok.frames fl Ti λh5 ld=>Om A0 L Yq J1 TY ab1 m1 I' mv hB Vx Ez hfo RB L7 hdv q' YE ld
theorem Uj(A0:ze X)(L:Clause X i n cn D cat)
  (F:rX X.prog X.w X.K X.mg X.base (O2 X.prog X.w) k f fd ps (CQ X.K X.mg sp)) (hr:j4 k X.A) (hg:Gl X x) (hm:X.mg x=some (.ref f)) (hk:qF X.K (.ref f)=true) (hb:Binds X.K fd ps [])
  (ha:∀EX,xx (X.vt EX) (e::es) t) (Yq:∀v,mO (marked X v) (Lg::u5) th)
  (pO:@a1) (YE:autoParam ((cn == ("__debug__":Str))=false) Ad._auto_1) (he:autoParam @bk Ar._auto_1) (qA:autoParam ((ik pos @aX).any @k=false) Ar._auto_1)
  (hs:autoParam (ng (.Call (.Name x p) (e::es) [] pos) none ep.line X.env=pure false) Ar._auto_1):
  uX X (.Try [.Expr (.Call (.Name x p) (e::es) [] pos) ep] [.ExceptHandler (some (.Name cn np)) (some n) (Lg::u5) NY] [] [] tp) (DC sp t i cat th):=by
 intro E pins s σ H τ G Dn hE I h;refine wpAny_Try_except ?_;refine ML (wpAny_Expr_any ?_ I.inv.quiet hs);generalize hEX:(λ(e:Value) (fN:ay)=>wpAny @o X.A (pV e X.env) (λ_ uU=>wpAny @o X.A (zU e none) (λ_ Ap=>wpAny @o X.A (handleBy e X.env [.ExceptHandler (some (.Name cn np)) (some n) (Lg::u5) NY]) (Tp X pins H G Dn) X.xe Ap) X.xe uU) X.xe fN)=EX;refine d6 (oS I.inv hg hm ?_ pO);have I0:I2 (X.vt EX) pins σ H τ G s:=⟨I.inv.vt EX,I.st,I.ab⟩;refine zg (h₀:=X.base) I.inv.ok.mod.Wt hk (Am (X:=X.vt EX) (ha EX) pos (Lk.none λ_ _ z=>z) I0 h λvs H1 ds G1 us s1 I1 m1 r rd q=>⟨I1.inv.zG,?_⟩) he qA;have J1:Inv X pins σ H1 s1:=I1.inv.qK;refine gP (PF F hr hb J1 I1.ab r rd q) ?_ ?_
 .rintro u s' ⟨v,d,G',Hj,I',mv,rv,M8,q',_⟩;exact mZ (mZ ⟨σ,Hj,τ,G1,⟨I',I1.st.mono (mv.kp I1.ab),mv.ab⟩,m1.trans mv,q'⟩)
 .rintro ev s' ⟨a,C,t0,B,ex,Hj,ea,I',mv,fl,hB,Vx,Ez,hfd,RB,_,L7,q'⟩;subst ea;subst hEX;exact HW A0 L Yq J1 I1.st I1.ab m1 I' mv fl hB Vx Ez hfd RB L7 (@W) q' YE
theorem Nu(F:rX X.prog X.w X.K X.mg X.base (O2 X.prog X.w) k f fd ps (CQ X.K X.mg sp))(hr:j4 k X.A)(hg:Gl X x)(hm:X.mg x=some (.ref f))(hk:qF X.K (.ref f)=true)(hb:Binds X.K fd ps [])
  (ha:xx X (e::es) t) (pO:@a1) (he:autoParam @bk Ar._auto_1) (qA:autoParam ((ik pos @aX).any @k=false) Ar._auto_1):
  dE X (.Call (.Name x p) (e::es) [] pos) (yt sp t):=by
 ext d;refine d6 (oS I.inv hg hm ?_ pO);refine zg (h₀:=X.base) I.inv.ok.mod.Wt hk (Am ha pos hE I h λvs H1 ds G1 us s1 I1 m1 r rd q=>⟨I1.inv.zG,?_⟩) he qA;refine gQ (PG (E:=exK X.K X.mg E) F hr hb .nil (λpins σ H s e s' I hq=>hE.pass pins σ H s s' e I hq) I1.inv r (Q:=Ce X.K H1 G1 Q) ?_) λ_ _ z=>(uN.of z).trans m1;rw[cI];exact⟨ds,G1,Q,E,rd,I1.ab,q,λd G' v H' q' m' M8=>⟨d,G',m',M8,q'⟩,λex C H' G' o q' VZ RB hf=>⟨ex,C,G',rfl,RB,VZ,q',hf⟩⟩
end
end K2
end
section
namespace K2
open PySem PySem.Spec PyProof.Rows L2 PySem.W PySem.Calls PySem.Builtin PySem.Builtin.Getset_descriptor
section
variable {prog:bC} {w:World} {A:cH} {E:@C} {s:ay} {K:aq} {a C:Addr} {ox:Obj}
theorem VC {Q:Option Value->@X} {B:String} {vN:@s} (FB:ExcAttrBase B vN) (X:K.In s.heap) (hx:s.heap.get? a=some ox) (hc:ox.cls=.ref C) (hga:Pa K @R "__getattribute__"=some (some (.builtin "BaseException.__getattribute__"))) (hgn:Pa K @R "__getattr__"=some none)
  (hA:Pa K @R "__class__"=some (some @bm)) (hG:specialIn K @bm "__get__"=some (some (@bv))) (hT:takesIn K @bm=some true) (hm:mroIn K C (.type "object")=some true) (hmB:mroIn K C (@bj)=some true)
  (h:Q (some @R) {s with toks:=s.toks+1}):wpAny @J A (getAttr? @r "__class__") Q E s:=by
 obtain⟨hh,g,d,t,os⟩:=s;have L0:Looks @J hh (typeOf @r) @R:=hc ▸ (Looks.ld hx).andThen .now;have L1:=looks_findIn (M:=model prog w) X hga;have L2:=looks_findIn (M:=model prog w) X hgn;have L5:=looks_mroIn (M:=model prog w) X hm;have L3:Looks @J hh (Builtin.ObjectAttr.find @r @R "__class__") (.bind (@bv) @bm):=by
  refine(looks_findIn X hA).andThen ((looks_specialIn X hG:Looks @J hh (Builtin.ObjectAttr.getOf (some @bm)) _).andThen ?_);refine((looks_takesIn X hT).andThen .now:Looks @J hh (Builtin.ObjectAttr.dataDescriptor? (some @bm) (some (@bv))) (some (@bv,.builtin "object.__class__"))).andThen ?_;exact Looks.tag .now
 have L4:=looks_mroIn (M:=model prog w) X hmB;have hx2:(MM "BaseException.__getattribute__" == MM "object.__getattribute__")=false:=@a5
 unfold getAttr? getAttrBy? getAttrBy;refine ag (wpAny_mkText (ag (rO (ck (ag (L0.at (ag (L1.at ?_))))))));dsimp only;rw[if_neg (by rw[hx2];simp)];unfold getAttrByItsOwn hookBefore callGetattribute;have f3:=FB.ga.bind @r;have fin:xM @J A (.call (.builtin "BaseException.__getattribute__") ⟨[@S,.str "__class__" t],[]⟩) (λr s'=>r=.ok (.ret @R)/\s'=⟨hh,g,d,t+1,os⟩) ⟨hh,g,d,t+1,os⟩:=by
  refine codeAny_call_builtin FB.ga.plain F.entry_bexc_ga ?_;have hk:builtinKind "BaseException.__getattribute__"=some .slot:=@a5
  have Yr:splitId "BaseException.__getattribute__"=some ("BaseException","__getattribute__"):=@a5
  have ha:=F.args_bexc_ga @r (.str "__class__" t);have LI:Looks @J hh (IY @r (@bj)) true:=L0.andThen L4;simp only[checkBuiltinCall,hk,Yr];refine ag (LI.at ?_);simp only[bg,au,if_false];have body:wpAny @J A.in1 (Builtin.«object.__getattribute__» ⟨[@S,.str "__class__" t],[]⟩)
    (λfin s'=>fin=.done (.ret @R)/\s'=⟨hh,g,d,t+1,os⟩) (@j) ⟨hh,g,d,t+1,os⟩:=by
   unfold Builtin.«object.__getattribute__»;refine ag (az ?_);refine ag (az ?_);refine ag (L0.at (ag (L3.at ?_)));show wpAny _ _ (Builtin.ObjectAttr.bindTo (@bv) @bm @r @R) _ _ _;show wpAny _ _ (do let v ← qE [.builtin "object.__class__"] (call (.builtin "getset_descriptor.__get__") [.builtin "object.__class__",.ref a,.ref C]);ret v) _ _ _;refine ag (ck (wpAny_call ?_));refine codeAny_call_builtin KF.slot_gs.plain KF.entry_gs (KF.slot_gs.check _ _ _ _ _ _ _ _ KF.type_class (KF.args_gs _ _ _) ?_);unfold Builtin.«getset_descriptor.__get__» descrGet;rw[dga_obj];refine ag (az ?_);unfold descrGetter descrCheckInstance descrNameAndClass IY;simp only[KF.owner_class]
   repeat lk
   refine⟨Code.quiet_builtin _ (@a5),gU KF.entry_class ?_⟩;unfold Builtin.«object.__class__» shownTypeOf
   repeat lk
   exact⟨rfl,rfl⟩
  have go:∀z:Sem Unit,z=pure ()->∀(P:Unit->@X) (E':@C) s',P () s'->wpAny @J A.in1 z P E' s':=λz e P E' s' hp=>by rw[e];exact az hp
  refine go _ ha _ _ _ (gP body ?_ (λ_ _ z=>z.elim));rintro fin s' ⟨e1,e2⟩;subst e1;exact⟨rfl,e2⟩
 refine ag (L2.at (ag (rO (ck ?_))));simp only[zh,au,if_false];unfold boundAndCalled;rw[f3];refine ag (az (wpAny_call (zZ fin ?_)));rintro r s' ⟨e1,e2⟩;subst e1;subst e2;exact az (az h)
structure MG(K:aq)(C:Addr):Prop where
 ga:Pa K @R "__getattribute__"=some (some (.builtin "BaseException.__getattribute__"))
 gn:Pa K @R "__getattr__"=some none
 To:Pa K @R "__class__"=some (some @bm)
 sp:specialIn K @bm "__get__"=some (some (@bv))
 tk:takesIn K @bm=some true
 mo:mroIn K C (.type "object")=some true
 mb:mroIn K C (@bj)=some true
 is:(clsIn K C).isSome=true
theorem GV(FB:ExcAttrBase B vN)(Z:MG K C):KitX K @r @R (λh=>∃o,@ak=@g/\o.cls=.ref C) where
 ty:=by rintro M h _ ⟨o,hx,hc⟩;exact hc ▸ (Looks.ld hx).andThen .now
 it:=λM h X _=>by
  have YG:=Z.is;unfold clsIn at YG;split at YG
  .rename_i ho;intro A' Q' E' s' k q;unfold isType loadHead;exact ag (wpAny_loadPart (k _ _ (X _ _ ho)) (az q))
  .cases YG
 ne:=λh tp dd bT n sl X htp=>by
  have YG:=Z.is;refine Bool.eq_false_iff.mpr λq=>?_;have e:C=tp:=Value.ref.inj (beq_iff_eq.mp q);subst e;unfold clsIn at YG;split at YG
  .rename_i ho;have z:=(X _ _ ho).symm.trans htp;cases z
  .cases YG
 ca:=λX ⟨o,hx,hc⟩ k=>VC FB X hx hc Z.ga Z.gn Z.To Z.sp Z.tk Z.mo Z.mb k
end
end K2
end
section
namespace K2
open PySem PySem.Spec PyProof.Rows L2
theorem Si{l:@y}{P:Str->Prop}{x:Str}(h:P x)(t:∀c,l.contains c=true->P c):∀c,(x::l).contains c=true->P c:=λc hc=>by
 rw[List.contains_cons,iT] at hc;rcases hc with hc |hc
 .rw[beq_iff_eq.mp hc];exact h
 .exact t c hc
section
variable {X:Cx} {a:Expr} {ta:fB} {p pos:Pos} {B:String} {vN:@s} {all sub:@y}
theorem Qh    (FB:ExcAttrBase B vN) (hg:Gl X "isinstance") (hm:X.mg "isinstance"=none) (YA:Gl X y) (hmC:X.mg y=some @R) (aed:xB X.K (.type "NoneType") @R=some false)
  (aa5:∀c,all.contains c=true->∃C',mz X.K bK c=some (some (.ref C'))/\xB X.K (.ref C') @R=some (sub.contains c)/\MG X.K C') (ha:dE X a ta) (pO:autoParam ((y == ("__debug__":Str))=false) Ad._auto_1)
  (he:autoParam (aZ [a,@ae] X.env=(false,eval a X.env)::aZ [@ae] X.env) Ar._auto_1) (qA:autoParam ((ik pos (aZ [S5 y py] X.env)).any @k=false) Ar._auto_1) (N6:autoParam (aZ [@ae] X.env=[(false,eval (@ae) X.env)]) Ar._auto_1):
  dE X (.Call (.Name "isinstance" p) [a,@ae] [] pos) (BI all sub ta):=by
 ext d;refine d6 (lz I.inv hg hm mn ?_);refine ic ?_ he qA;rw[he];show wpAny _ _ (vn ((false,eval a X.env)::ik pos (aZ [@ae] X.env))) _ _ s;refine eN (iK ha hE I h λv H1 d G1 u s1 I1 m1 r1 ja q1=>?_);rw[N6];show wpAny _ _ (vn [(false,eval (@ae) X.env)]) _ _ s1;refine eN (oS I1.inv YA hmC (iJ ?_) pO);have fin:∀b tk,Q (.bl b) G1->uN X pins σ H G Q (.bool b) {s1 with toks:=tk}:=λb tk q=>
  ⟨.bl b,H1,.bl b,G1,I1.inv.tok _,m1,rfl,.bl b,q⟩
 cases ja with
 |eX=>
  cases r1;exact fj Tt I1.inv.zG bB aed (@a3) λtk=>fin false tk q1
 |exc h0=>
  cases r1;obtain⟨o,C',e1,e2,e3⟩:=h0;obtain⟨xb,q2⟩:=q1;obtain⟨C2,e4,k1,k2⟩:=aa5 _ xb;rw[e3] at e4;cases e4;exact fj (GV FB k2) I1.inv.zG ⟨o,(I1.inv.bP _ _ e1).1,e2⟩ k1 (@a3) λtk=>fin _ tk q2
 |BA h0 _=>
  cases r1;obtain⟨o,C',_,_,_,e1,e2,e3,_⟩:=h0;obtain⟨xb,q2⟩:=q1;obtain⟨C2,e4,k1,k2⟩:=aa5 _ xb;rw[e3] at e4;cases e4;exact fj (GV FB k2) I1.inv.zG ⟨o,(I1.inv.bP _ _ e1).1,e2⟩ k1 (@a3) λtk=>fin _ tk q2
 |_=>ext c
end
section
variable {X:Cx} {e:Expr} {te:fB} {pos:Pos}
theorem scm(h1:autoParam (sc.kind=.function) Ar._auto_1)(h2:autoParam (sc.isCoroutine=false) Ar._auto_1)(h3:autoParam (sc.isGenerator=false) Ar._auto_1)(h4:autoParam N.Nodup Ak._auto_1)(h5:autoParam (N.take ps.length=ps) Ar._auto_1)
  (h6:autoParam (∀x∈ps,@bo=@aH\/@bo=@aL) Ak._auto_1) (h7:autoParam (∀y∈sc.names,y.2≠.free) Ak._auto_1):kb N ps sc:=⟨h1,h2,h3,h4,h5,h6,h7⟩
end
section
variable {X:Cx} {a b c:Expr} {ta tb tc:fB} {pos:Pos}
theorem UP     (hg:Gl X x) (hm:X.mg x=some (.int i t)) (hd:@a1):dE X (.Name x p) (dC (@A)):=uu (UB (v:=@A) hg hm ⟨t,rfl⟩ hd) λ_ _=>@A
end
end K2
end
section
namespace L2
open PySem PySem.Spec PyProof.Rows
section
variable {prog:bC} {w:World} {A:cH} {E:@C} {s:ay}
theorem J7{it d:Addr}{od:Obj}{es:Array ft}{i ep:Nat}{ok ov:Value}{Q:Option Value->@X}(hit:pH s.heap it d i es.size ep ok ov)(Fs:s.heap.get? d=some od)(dd:od.data=.dict es ep)(hi:i<es.size)
  (hQ:∀h',IsItemIterOut h' it d (i+1) es.size ep es[i].key es[i].val s.heap.objs.size->h'.get? s.heap.objs.size=some {cls:=@ad,data:=.seq #[es[i].key,es[i].val]}->(∀b o,b≠it->@T->@ag=@g)->Q (some (@as)) @an):
  wpAny @J A (sk (.ref it)) Q E s:=by
 obtain⟨hp,g,dr,tk,os⟩:=s;have ty:K1 ⟨hp,g,dr,tk,os⟩ (.ref it) "dict_itemiterator":=⟨_,hit,rfl⟩;unfold sk;refine ag (rO (jR (name:=rY "__next__") ty jU (cV jU ty IG ?_ (FK _))));refine ag (az (ag (ag ?_)))
 first |refine ag (jO ty (az (ag (pT hit rfl ?_)))) |refine ag (lL ty (az (ag (pT hit rfl ?_))))
 have Qp:fM "dict_itemiterator"=true:=@d
 rw[Qp];show wpAny _ _ (if(dg d == dG)=true then _ else _) _ _ _;rw[if_neg (λz=>by cases z)];refine ag (az (ag (dQ Fs dd ?_)));rw[if_neg @i];refine ag (az (ag (ju Fs dd ?_)));rw[if_neg @i];refine az ?_;dsimp only;rw[if_neg (show ¬ ((i:Int)<0) from Int.not_lt.mpr (sd i)),ff,ij hi];dsimp only;refine ag ?_
 first |refine ag (jO ty (az (ag (oF ty ?_)))) |refine ag (lL ty (az (ag (oF ty ?_))))
 show wpAny _ _ (FF (.ref it) 3 (si ((i:Int)+1)) >>= _) _ _ ⟨hp,g,dr,tk,os⟩;refine ag (mY hit @i λh1 e1 s1=>?_);have s1:fI it hp h1:=s1;have e1:pH h1 it d (i+1) es.size ep ok ov:=by
  have e:((i+1:Nat):Int)=(i:Int)+1:=@f
  unfold pH;rw[e];simpa[si] using e1
 have ty1:K1 ⟨h1,g,dr,tk,os⟩ (.ref it) "dict_itemiterator":=⟨_,e1,rfl⟩;refine ag (ck (ag (oF ty1 (ag (oF ty1 ?_)))));show wpAny _ _ (sG (.ref it) 6 es[i].key es[i].val) _ _ ⟨h1,g,dr,tk,os⟩;unfold sG;refine ag (wpAny_newTuple ?_);have z1:h1.objs.size=hp.objs.size:=s1.1;have lt:it<hp.objs.size:=aO hit;have e2:pH (h1.push {cls:=@ad,data:=.seq #[es[i].key,es[i].val]}) it d (i+1) es.size ep ok ov:=aF _ e1;have t2:(h1.push {cls:=@ad,data:=.seq #[es[i].key,es[i].val]}).get? hp.objs.size=some {cls:=@ad,data:=.seq #[es[i].key,es[i].val]}:=by rw[<-z1];exact @au
 have k2:∀b o,b≠it->hp.get? b=@g->(h1.push {cls:=@ad,data:=.seq #[es[i].key,es[i].val]}).get? b=@g:=λb o hb e=>aF _ (s1.extBut b o hb e);generalize h1.push {cls:=@ad,data:=.seq #[es[i].key,es[i].val]}=h2 at e2 t2 k2;show wpAny _ _ (jH (.ref it) >>= _) _ _ ⟨h2,g,dr,tk,os⟩;rw[z1];refine ag (show wpAny _ _ (jH (.ref it)) _ _ _ from ?_);unfold jH;refine ag (iY e2 rfl (x:=.none) rfl (az ?_));rw[if_pos rfl];refine ag (iY e2 rfl (x:=ok) rfl (ag (iY e2 rfl (x:=ov) rfl (ag (mY e2 @i λh3 e3 s3=>?_)))));have s3:fI it h2 h3:=s3;have e3:pH h3 it d (i+1) es.size ep es[i].key ov:=e3;refine ag (mY e3 @i λh4 e4 s4=>?_);have s4:fI it h3 h4:=s4;have e4:pH h4 it d (i+1) es.size ep es[i].key es[i].val:=e4;refine ag (mY e4 @i λh5 e5 s5=>?_);have s5:fI it h4 h5:=s5;have e5:IsItemIterOut h5 it d (i+1) es.size ep es[i].key es[i].val hp.objs.size:=e5;refine ag (mY e5 @i λh6 e6 s6=>?_);have s6:fI it h5 h6:=s6;have all:∀b o,b≠it->h2.get? b=@g->h6.get? b=@g:=λb o hb e=>s6.extBut b o hb (s5.extBut b o hb (s4.extBut b o hb (s3.extBut b o hb e)));exact ag (jQ (az (az ⟨_,rfl,az (hQ h6 e6 (all _ _ (oz lt) t2) λb o hb e=>all b o hb (k2 b o hb e))⟩)))
end
end L2
namespace L2
open PySem PySem.Spec PyProof.Rows
section
variable {prog:bC} {w:World} {A:cH} {E:@C} {s:ay}
theorem NR{it d:Addr}{od:Obj}{es:Array ft}{i ep:Nat}{ok ov:Value}{Q:Option Value->@X}(calm:A.handled=none)(hit:pH s.heap it d i es.size ep ok ov)(Fs:s.heap.get? d=some od)(dd:od.data=.dict es ep)(hi:es.size<=i)
  (hQ:∀h',Heap.ExtBut it s.heap h'->Q none @an):wpAny @J A (sk (.ref it)) Q E s:=by
 have ty:s.TypeIs (.ref it) "dict_itemiterator":=⟨_,hit,rfl⟩;unfold sk;refine ag (rO (jR (name:=rY "__next__") ty jU (cV jU ty IG ?_ (FK _))));refine ag (az (ag (ag ?_)))
 first |refine ag (jO ty (az (ag (pT hit rfl ?_)))) |refine ag (lL ty (az (ag (pT hit rfl ?_))))
 have Qp:fM "dict_itemiterator"=true:=@d
 rw[Qp];show wpAny _ _ (if(dg d == dG)=true then _ else _) _ _ s;rw[if_neg (λz=>by cases z)];refine ag (az (ag (dQ Fs dd ?_)));rw[if_neg @i];refine ag (az (ag (ju Fs dd ?_)));rw[if_neg @i];refine az ?_;dsimp only;rw[if_neg (show ¬ ((i:Int)<0) from Int.not_lt.mpr (sd i)),ff,vr hi];dsimp only;refine ag ?_
 first |refine ag (jO ty (az (?_))) |refine ag (lL ty (az (?_)))
 show wpAny _ _ (FF (.ref it) 2 .none >>= _) _ _ s;refine ag (vm hit rfl @i (show wpAny _ _ (newExc (.type "StopIteration") [] >>= _) _ _ _ from ag ?_));simp only[newExc,newTuple];refine ag (cG (ag (m:=CL _ _) (O5 (a:=dG) (by first |rfl |(simp only[CL];rfl)) (cG ?_ (by size_fits)))) (by size_fits));simp only[raiseNew];refine ag (wpAny_handled ?_);rw[show A.in1.handled=none from calm];refine ag (az (wpAny_throw ?_));refine ag (iF (T:="StopIteration") (b:=true) ⟨_,@au,rfl⟩ isSubtype_stop (?_));exact az (hQ _ (((j6 ..).extBut.push _).push _))
end
end L2
namespace L2
open PySem PySem.Spec PyProof.Rows
section
variable {prog:bC} {w:World} {A:cH} {E:@C} {s:ay}
theorem wN (d) (ns:(d == cu)=false):MeetsIn prog w (Builtin.«dict.items» ⟨[.ref d],[]⟩) (λ_ R s=>s.TypeIs (.ref d) "dict"/\R (.ok (.ret (@as))) {s with heap:=s.heap.push {cls:=.type "dict_items",data:=.fields #[.ref d]}}):=by
 refine .of_wp ?_;rintro A R s ⟨ty,h⟩;unfold Builtin.«dict.items» Builtin.Dict.noArgs;refine ag (ag (kH ty (show wpAny _ _ (pure d) _ _ s from az ?_)));show wpAny _ _ (jq d >>= _) _ _ s;unfold jq;rw[if_neg (λz=>by rw[ns] at z;cases z)];exact ag (az (ag (cG (az ⟨_,rfl,h⟩))))
theorem yT{v d:Addr}{od:Obj}{es:Array ft}{ep:Nat}{Q:@C}(hv:s.heap.IsItemsView v d)(Fs:s.heap.get? d=some od)(dd:od.data=.dict es ep)
  (hQ:Q (@as) {s with heap:=s.heap.push {cls:=.type "dict_itemiterator",data:=.fields #[.none,.bool false,.ref d,.int 0 0,.int es.size 0,.int ep 0,.none,.none]}}):
  wpAny @J A (KZ (.ref v)) Q E s:=by
 obtain⟨ov,hov,hcv,hdv⟩:=id hv;refine pD hv.typeIs F.slot_dict_items_iter (cV F.slot_dict_items_iter hv.typeIs F.entry_dict_items_iter ?_ (F.args_dict_items_iter_1 _));unfold Builtin.«dict_items.__iter__» Builtin.Dict_items.dictOf;refine ag (az (ag (ag (iY hov hdv (x:=.ref d) rfl (az (ag ?_))))));unfold Builtin.Dict_items.newIterator;refine ag (dQ Fs dd (ag (ju Fs dd ?_)));have Qp:fM "dict_itemiterator"=true:=@d
 rw[Qp];dsimp only;rw[if_pos (show true=true from rfl)];refine cG (az ⟨_,rfl,"dict_itemiterator",_,⟨_,@au,rfl⟩,F.slot_dict_itemiterator_next.lookup,?_⟩) ?_
 .simpa[si,rG] using hQ
 .simp only[sizeOk,rG,bp,aB,aj,ax,cX];lia
end
def afi(a:Addr)(o:Obj)(es:Array ft)(ps:List (V×V)):It :=
 ⟨λi H=>(∃u,H a=some (.i9 o u))/\i<es.size,λi H v H'=>∃T p,v=.ref T/\H T=none/\H'=upd H T (.tup [p.1,p.2])/\ps[i]?=some p,λi H=>(∃u,H a=some (.i9 o u))/\es.size<=i⟩
theorem yD{K:aq}(a it)(o)(es)(ep)(ps)(dd:o.data=.dict es ep)(hk:∀i (h:i<es.size),∃p,ps[i]?=some p/\RelV p.1 es[i].key/\RelV p.2 es[i].val):
  Turn P w K (.Tuple elts kk pos) (afi a o es ps) [it] it (λi h=>∃ok ov,pH h it a i es.size ep ok ov) where
 mem:=@G
 obj:=by
  rintro i h ⟨ok,ov,st⟩ b hb;have e:b=it:=@bf
  subst e;exact⟨_,st,λv z=>by cases z⟩
 keep:=by rintro i h h' ⟨ok,ov,st⟩ k;exact⟨ok,ov,k it @i _ st⟩
 item:=by
  ext i;obtain⟨ok,ov,st⟩:=st;subst hP hw hK;obtain⟨⟨u,hu⟩,hi⟩:=hg;obtain⟨p,hp,r1,r2⟩:=hk i hi;have YM:H s.heap.objs.size=none:=I.bP.fresh @D;have hiT:it≠s.heap.objs.size:=br (aO st);refine J7 st (I.bP a _ hu).1 dd hi λh' ho hT kk=>?_;refine⟨_,rfl,?_⟩;have I1:Inv X pins σ (upd H s.heap.objs.size (.tup [p.1,p.2])) {s with heap:=h',toks:=s.toks} :=
   I.zx (fp:=[it]) hf (λb o hb q=>kk b o (λz=>hb (by simp[z])) q) @D
    ⟨by show 2<=bc;decide,[es[i].key,es[i].val],.cons r1 (.cons r2 .nil),⟨_,hT,rfl,_,rfl⟩⟩
  refine O6 (s:=@an) ho λh2 N6 Dh=>?_;have f1:∀b∈[it],lE X pins (upd H s.heap.objs.size (.tup [p.1,p.2])) b:=λb hb=>(hf b hb).upd (by rw[List.mem_singleton.mp hb];exact hiT);have I2:Inv X pins σ (upd H s.heap.objs.size (.tup [p.1,p.2])) {s with heap:=h2,toks:=s.toks} :=
   Inv.ue (s:={s with heap:=h',toks:=s.toks}) (t':=s.toks) (fp:=[it]) I1 f1 λb o hb q=>(Dh.2 b (λz=>hb (by simp[z]))).trans q
  exact⟨@as,_,I2,rfl,⟨_,p,rfl,YM,rfl,hp⟩,⟨_,_,N6⟩,λb hb=>(f1 b hb).1⟩
 done:=by
  ext i;obtain⟨ok,ov,st⟩:=st;subst hP hw hK;obtain⟨⟨u,hu⟩,hi⟩:=hg;obtain⟨f0,f1,f2,f3,f4,f5⟩:=hf it @i;exact NR (I.ok.hd hc) st (I.bP a _ hu).1 dd hi λh' eb=>⟨rfl,I.turned (t':=s.toks) (λb o hb e=>eb b o hb e) f0 f1 f3 f4 f5⟩
 self:=by
  rintro A i s Q E ⟨ok,ov,st⟩ h;have ty:s.TypeIs (.ref it) "dict_itemiterator":=⟨_,st,rfl⟩;refine pD ty jV (cV jV ty mw ?_ (FN _));show wpAny _ _ (ret (.ref it)) _ _ s;exact az ⟨_,rfl,"dict_itemiterator",_,ty,F.slot_dict_itemiterator_next.lookup,h⟩
end L2
end
section
namespace K2
open PySem PySem.Spec PyProof.Rows L2
section
variable {X:Cx} {elts:@az} {kk:Nat} {Aj apos jE:Pos} {o:Expr} {to:fB}
theorem my.item{K:aq}(h:my K H kv kvs):∀{i:Nat} {q:D×D},kvs[i]?=some q->∃p,kv[i]?=some p/\q.1=.tup (p.1.map eL)/\bW K H p.2 q.2:=by
 induction h using my.ind with
 |nil=>intro i q e;simp at e
 | @cons k v d r t rd rs ih=>
  intro i q e;cases i with
  |zero=>simp at e;subst e;exact⟨_,rfl,rfl,rd⟩
  |succ i=>
   obtain⟨p,h1,h2⟩:=ih (i:=i) (q:=q) (@bl);exact⟨p,by simpa using h1,h2⟩
theorem my.len{K:aq}(h:my K H kv kvs):kv.length=kvs.length:=by
 have:=congrArg cU h.keys;simpa using this.symm
theorem JJ (ho:dE X o to) (tI:autoParam (xN o "items" X.env (eval o X.env)=eval o X.env) Ar._auto_1) (w9:autoParam ((apos.endLine == jE.line)=true) Ar._auto_1):
  xJ X (.Tuple elts kk Aj) (.Call (.Attribute o "items" apos) [] [] jE) (w6 to):=by
 intro E pins s σ H τ G R hE I h;refine xK tI w9 (iK ho hE I h λx H1 d G1 v s1 I1 m1 r1 ja q1=>?_);cases d with
 | fZ kvs=>
  obtain⟨h1,q1⟩:=q1;obtain⟨t1,t2⟩:=v8 pins s1 σ H1 G1 x _ v I1.inv I1.ab r1 ja trivial;have main:∃(a:Addr) (ob:Obj) (u:HO) (es:Array ft) (ep:Nat) (ps:List (V×V)),x=@S/\(a == cu)=false/\H1 a=some (.i9 ob u)/\ob.data=.dict es ep/\(∀i (h:i<es.size),∃p,ps[i]?=some p/\RelV p.1 es[i].key/\RelV p.2 es[i].val)/\kvs.length=es.size /\
    (∀(i:Nat) (q:D×D),kvs[i]?=some q->∃p,ps[i]?=some p/\bW X.K H1 p.1 q.1/\bW X.K H1 p.2 q.2):=by
   cases ja with
   | pM hq rs=>
    rename_i a o kv;cases rs with
    |nil=>
     obtain⟨z,ns,vs,rel,ob,es,ep,ho,ex,dd,hko,hp,nd⟩:=(I1.inv.bP a _ hq).2;have eo:ob=o:=by have:=(I1.inv.bP a _ hq).1;rw[ho] at this;exact aX this
     subst eo;have l1:es.size=vs.length:=by simpa using hp.length
     have l2:([]:@aE).length=vs.length:=gz rel;have l3:es.size=0:=by rw[l1,<-l2];rfl
     exact⟨a,ob,_,es,ep,[],rfl,ns,hq,dd,λi h=>@f,by rw[l3];rfl,λi q e=>by simp at e⟩
    |@cons j _ _ _ _ _ _=>cases j<;>simp[eL,lB] at h1
   | pL hq rs=>
    rename_i a o kv;obtain⟨z,ns,xs,rel,ob,es,ep,ho,ex,dd,hl,nd⟩:=(I1.inv.bP a _ hq).2;have eo:ob=o:=by have:=(I1.inv.bP a _ hq).1;rw[ho] at this;exact aX this
    subst eo;have l1:=congrArg cU hl;rw[ar,cT] at l1;have l2:kv.length=xs.length:=gz rel;have l3:=rs.len;refine⟨a,ob,_,es,ep,(kv.zip xs).map λz=>(V.ref z.2.2.1,z.1.2),rfl,ns,hq,dd,λi hi=>?_,@f,λi q e=>?_⟩
    .have i2:i<xs.length:=@f
     have i3:i<kv.length:=@f
     have ee:es[i]=entryOfKey (gS (@bb)) xs[i]:=by
      have:=congrArg (λl=>l[i]?) hl;simp only[bx,aA i2] at this;simpa[hi] using this
     refine⟨(V.ref xs[i].2.1,kv[i].2),by rw[bx,aA (by rw[lY];lia),oH];rfl,?_⟩;rw[ee];exact⟨rfl,(qf rel i i3 i2).2.2⟩
    .obtain⟨p,hp,ek,rp⟩:=rs.item e;have i3:i<kv.length:=(List.getElem?_eq_some_iff.mp hp).1;have i2:i<xs.length:=@f
     have pr:=qf rel i i3 i2;rw[aA i3] at hp;cases hp;refine⟨(V.ref xs[i].2.1,kv[i].2),by rw[bx,aA (by rw[lY];lia),oH];rfl,?_,rp⟩;rw[ek];exact .tup pr.2.1 (uh _)
  obtain⟨a,ob,u,es,ep,ps,rfl,hm,hu,dd,hk,hlen,Xs⟩:=main;cases r1;refine⟨"dict","dict.items",gu,gr,sD,t1,t2,mr rfl (zf ?_)⟩;refine z8 gr t1 rP (qG _) (wN a hm) ⟨t1,?_⟩;have I2:Inv X pins σ H1 {s1 with heap:=s1.heap.push {cls:=.type "dict_items",data:=.fields #[@S]}}:=I1.inv.kept (t':=s1.toks) λb o e=>aF _ e;refine yT (s:={s1 with heap:=s1.heap.push {cls:=.type "dict_items",data:=.fields #[@S]}}) ⟨_,@au,rfl,rfl⟩ (aF _ (I1.inv.bP a _ hu).1) dd ?_;refine⟨_,[_],_,_,H1,G1,kvs.map (λp=>.tup [p.1,p.2]),_,rfl,I2.kept (t':=s1.toks) λb o e=>aF _ e,m1,yD a _ ob es ep ps dd hk,⟨.none,.none,@au⟩,λb hb=>?_,λi H2 G2 k ab _=>?_,q1⟩
  .have e:=List.mem_singleton.mp hb;subst e;exact I2.Bp @D (I2.bP.fresh @D)
  .have yU:=k.i9 _ _ _ hu;refine⟨λd hd=>?_,λhle=>⟨⟨u,yU⟩,by rw[<-hlen];simpa using hle⟩⟩;rw[bx] at hd;cases N0:kvs[i]? with
   |none=>rw[N0] at hd;cases hd
   |some q=>
    rw[N0] at hd;obtain⟨p,hp,rk,rp⟩:=Xs i q N0;have hi:i<es.size:=by rw[<-hlen];exact(List.getElem?_eq_some_iff.mp N0).1
    refine⟨⟨⟨u,yU⟩,hi⟩,?_⟩;rintro x H3 ⟨T,p',ex,hT,e3,hy⟩;subst ex e3;rw[hp] at hy;cases hy;have ed:D.tup [q.1,q.2]=d:=by simpa using hd
    subst ed;exact⟨.tup bM (.cons ((rk.mono k).mono (.new hT)) (.cons ((rp.mono k).mono (.new hT)) .nil)),.Ft ab hT⟩
 |_=>ext c
end
section
variable {X:Cx} {k v k2 v2:Expr} {tk tv tk2 tv2:fB} {pos:Pos}
theorem Qj(hk:dE X k tk)(hv:dE X v tv)(hk2:dE X k2 tk2)(hv2:dE X v2 tv2):dE X (.Dict [some k,some k2] [v,v2] pos) (HN tk tv tk2 tv2):=by
 ext d;have hn:=I.inv.bP.fresh (aG s.heap.objs.size);have I1:=I.inv.laid (a:=s.heap.objs.size) (o:=.dK []) (h':=s.heap.push {cls:=@aN,data:=.dict #[]}) (t':=s.toks) (λ_ _ q=>aF _ q) @D (BG s.heap I.inv.big);have mh:Mv X.K H G (upd H s.heap.objs.size (.dK [])) G:=.Ft I.ab hn;have I2:I2 X pins σ (upd H s.heap.objs.size (.dK [])) τ G {s with heap:=s.heap.push {cls:=@aN,data:=.dict #[]},toks:=s.toks}:=⟨I1,I.st.mono (.new hn),mh.ab⟩;refine wpAny_Dict_walk (knd:=@bb) (by rfl) (by rfl) @i (show 2<=15 by decide) ?_;refine sr (iK hk hE I2 h λx H1 dx G1 u s1 I3 m1 r1 ja q1=>?_);refine iK hv hE I3 q1 λy H2 dy G2 w s2 I4 m2 r2 zi q2=>?_;refine sr (iK hk2 hE I4 q2 λx2 H3 dx2 G3 u2 s3 I5 m3 r3 Z6 q3=>?_);refine iK hv2 hE I5 q3 λy2 H4 dy2 G4 w2 s4 I6 m4 r4 rd4 q4=>?_;obtain⟨⟨hk1,hk3,ne⟩,q4⟩:=q4;refine FH ?_;obtain⟨kk,rfl⟩:=qU hk1;obtain⟨Yj,rfl⟩:=qU hk3;have ex:=qO ja;subst ex;have ex2:=qO Z6;subst ex2;have nek:kk≠Yj:=λz=>by rw[uK] at ne;exact absurd z (of_decide_eq_false ne)
 have g0:G s.heap.objs.size=none:=I.ab.free hn;obtain⟨p1,p2⟩:=m1.keep _ _ (bM (H:=H) (a:=s.heap.objs.size) (o:=.dK [])) g0;obtain⟨p3,p4⟩:=m2.keep _ _ p1 p2;obtain⟨p5,p6⟩:=m3.keep _ _ p3 p4;obtain⟨p7,p8⟩:=m4.keep _ _ p5 p6;have adb:=(zi.mono (m3.kp I4.ab)).mono (m4.kp I5.ab);obtain⟨rs,c,rk⟩:=vM (P:=X.prog) (w:=X.w) (kvs:=[(kk,y),(Yj,y2)]) (ws:=[(u,w),(u2,w2)]) (.cons ⟨r1,r2⟩ (.cons ⟨r3,r4⟩ .nil));obtain⟨z,hd,vs0,r0,dd⟩:=BE I6.inv.bP p7;cases r0;refine⟨rs,c,dd,λh' xn hs=>?_⟩;have he:∃q,h'.get? s.heap.objs.size=some q:=by obtain⟨q,_,_,hq,_⟩:=xn;exact⟨q,hq⟩
 have em:A2 [] [(kk,y),(Yj,y2)]=[(kk,y),(Yj,y2)]:=by
  show putK (putK [] kk y) Yj y2=_;unfold putK;simp[nek]
 have kp:Kp H4 (upd H4 s.heap.objs.size (.dK [(kk,y),(Yj,y2)])):=.putD p7 (.inl @I);have I7:=rm (t':=s4.toks+[(u,w),(u2,w2)].length) I6.inv (by rw[p7];exact bB) hs he (BF (kvs:=A2 [] [(kk,y),(Yj,y2)]) (by rw[em];exact(show 2<=bc by decide)) hd (rk.merge .nil) xn);rw[em] at I7;have m14:=(((mh.trans m1).trans m2).trans m3).trans m4;refine⟨@as,_,@as,_,I7,?_,rfl,.ref _,q4 _ p8⟩;refine⟨λa o e n=>?_,λa n=>?_,λa g e=>?_⟩
 .have ha:a≠s.heap.objs.size:=λz=>by rw[z,hn] at e;cases e
  obtain⟨k1,k2⟩:=m14.keep a o e n;exact⟨by rw[bH ha];exact k1,by rw[bO ha];exact k2⟩
 .by_cases ha:a=s.heap.objs.size
  .subst ha;rw[bM];simp
  .rw[bH ha];exact m14.jj a n
 .by_cases ha:a=s.heap.objs.size
  .subst ha;rw[av] at e;cases e;exact .dk bM (.cons (adb.mono kp) (.cons (rd4.mono kp) .nil))
  .rw[bO ha] at e;exact(m14.ab a g e).mono kp (bH ha)
end
noncomputable def eOk(e:ft)(p:Int×Int):Bool:=e.hash == hashInt p.1&&uP p.1 e.key&&uP p.2 e.val
noncomputable def VD:List ft->@aC->Bool
 |[],[]=>true
 |e::es,p::ps=>eOk e p&&VD es ps
 |_,_=>false
def HG(K:aq)(a:Addr)(kv:@aC):Bool:=match K.lookup a with
 |some o=>o.cls == @aN && o.dict == none&&o.slots.toList == []&&(match o.data with |.dict es _=>VD es.toList kv |_=>false)
 |none=>false
noncomputable def Ws(kv:@aC):@aE:=kv.map λp=>(.inl p.1,.int p.2)
theorem isInt_shape(h:uP i v=true):∃t,v=.int i t:=by
 rcases fi (k:=.inl i) h with ⟨j,t,e,rfl⟩ |⟨_,_,e,_⟩
 .cases e;exact⟨t,rfl⟩
 .cases e
section
variable {P:bC} {w:World}
theorem BC:∀(es:List ft) (kv:@aC),VD es kv=true->∃vs,KV (Ws kv) vs/\Pairs (cM P w) es vs/\vs.map @k=kv.map (λp=>(xO p.1:Key))/\∀e∈es,∃k,(cM P w).is k e.key=true/\e.hash=(cM P w).hash k
 |[],[],_=>⟨[],.nil,.nil,rfl,λe h=>by cases h⟩
 |[],_::_,h=>ba (show false=true from h)
 |_::_,[],h=>ba (show false=true from h)
 |e::es,p::ps,h=>by
  have h:(eOk e p&&VD es ps)=true:=h;rw[aJ] at h;obtain⟨vs,h1,h2,h3,h4⟩:=BC es ps h.2;have he:=h.1;unfold eOk at he;rw[aJ,aJ] at he;obtain⟨t,ev⟩:=isInt_shape he.2;refine⟨(.inl p.1,e.val)::vs,.cons ⟨rfl,t,ev⟩ h1,.cons he.1.2 rfl h2,by rw[aw,aw,h3],λx hx=>?_⟩;rcases List.mem_cons.mp hx with rfl |hx
  .exact⟨.inl p.1,he.1.2,beq_iff_eq.mp he.1.1⟩
  .exact h4 x hx
theorem Y2{K:aq}(Y:K.In h)(e:HG K a kv=true)(nd:(kv.map @k).Nodup):∃vs,KV (Ws kv) vs/\h.DictOf (cM P w) a vs:=by
 unfold HG at e;cases hl:K.lookup a with
 |none=>rw[hl] at e;exact ba (show false=true from e)
 | some o=>
  rw[hl] at e;dsimp only at e;rw[aJ,aJ,aJ] at e;obtain⟨⟨⟨e1,e2⟩,e3⟩,e4⟩:=e;obtain⟨c,dd,dt,⟨sl⟩⟩:=o;have f1:c=@aN:=beq_iff_eq.mp e1;have f2:dd=none:=beq_iff_eq.mp e2;have f3:sl=[]:=beq_iff_eq.mp e3;clear e1 e2 e3;subst f1;subst f2;subst f3;cases dt with
  | dict es ep=>
   obtain⟨vs,h1,h2,h3,h4⟩:=BC (P:=P) (w:=w) es.toList kv e4;refine⟨vs,h1,_,es,ep,Y _ _ hl,⟨rfl,rfl,rfl⟩,rfl,?_,h2,?_⟩
   .intro e he;obtain⟨k,q1,q2⟩:=h4 e (Array.mem_toList_iff.mpr he);exact⟨k,q1,q2⟩
   .rw[h3];have:kv.map (λp=>(xO p.1:Key))=(kv.map @k).map xO:=by rw[bw];rfl
    rw[this,List.nodup_iff_pairwise_ne,iR];exact(List.nodup_iff_pairwise_ne.mp nd).imp λzH e=>zH (Sum.inl.inj e)
  |_=>exact ba (show false=true from e4)
end
end K2
namespace K2
open PySem PySem.Spec PyProof.Rows L2
section
variable {X:Cx} {x:Str} {a:Addr} {kv:@aC} {p px pos:Pos}
theorem WN{K:aq}:∀kv:@aC,mP K H (Ws kv) (aK kv)
 |[]=>.nil
 |p::kv=>.cons (k:=.inl p.1) (.int p.2) (WN kv)
theorem Nq (hg:Gl X "dict") (hm:X.mg "dict"=none) (Vu:Gl X x) (OZ:X.mg x=some @r) (ns:(a == cu)=false) (hD:HG X.K a kv=true) (nd:(kv.map @k).Nodup) (hz:kv.length<=1000) (pO:@a1)
  (hs:autoParam (aZ [.Name x px] X.env=[(false,eval (.Name x px) X.env)]) Ar._auto_1):dE X (.Call (.Name "dict" p) [.Name x px] [] pos) (yZ kv):=by
 ext d;refine d6 (lz I.inv hg hm zM ?_);refine dJ ?_ hs rfl;rw[hs];show wpAny _ _ (vn ((false,eval (.Name x px) X.env)::ik pos (aZ [] X.env))) _ _ s;refine eN ?_;refine oS I.inv Vu OZ ?_ pO;refine iJ ?_;obtain⟨vs,rel,dd⟩:=Y2 (P:=X.prog) (w:=X.w) I.inv.zG hD nd;have hl:vs.length=kv.length:=by rw[<-rel.length];unfold Ws;rw[ar]
 have sz:bc=16777216:=cX;refine kt_call_dict ns dd @c λh' xn hs=>?_;have hp:H s.heap.objs.size=none:=I.inv.bP.fresh @D;have zz:(Ws kv).length<=bc:=by unfold Ws;rw[ar];lia
 refine⟨.ref _,upd H s.heap.objs.size (.dK (Ws kv)),.ref _,_,I.inv.laid (a:=s.heap.objs.size) (o:=.dK (Ws kv)) (t':=s.toks) (λb q hq=>?_) @D (BF zz (beq_eq_false_iff_ne.mpr (dD (br I.inv.big))) rel xn),.new I.ab hp (.dk bM (WN kv)),rfl,.ref _,h _ (I.ab.free hp)⟩;exact(hs.2 b (br (aO hq))).trans (aF _ hq)
end
end K2
end
section
namespace K2
open PySem PySem.Spec PyProof.Rows L2 PySem.Builtin PySem.Builtin.ObjectAttr PySem.Calls
noncomputable abbrev abC(C t:Addr):Obj:={cls:=.ref C,data:=.fields #[.ref t,.none,.none,.none,.bool false,.none]}
section
variable {prog:bC} {w:World} {A:cH} {E:@C} {s:ay} {K:aq} {x C:Addr} {ox:Obj} {v:Value} {name:Str} {R:Result->@X}
noncomputable def ZU:@s->@s
 |.ref _::l=>ZU l
 |l=>l
def aeS (K:aq) (C:Addr):Bool:=(PySem.W.clsIn K C).any λcd=>ZU cd.mro == [.type "ValueError",.type "Exception",@bj,.type "object"]
noncomputable abbrev RZ(C t dx:Addr):Obj:={cls:=.ref C,dict:=some dx,data:=.fields #[.ref t,.none,.none,.none,.bool false,.none]}
end
noncomputable def agR(K:aq)(C f:Addr)(vN:@s)(newId:String):Bool:=match K.lookup C with
 |some ⟨.type "type",_,.cls cd,sl⟩=>(match cd.mro,sl.toList with
  |.ref C'::bm,[_,_,_,_,some (.builtin n),_]=>C' == C&&n == newId&&!cd.hasDel&&FI K vN bm&&PySem.W.nsOkIn K cd.ns&&mz K cd.ns "__init__" == some (some (.ref f))
  |_,_=>false)
 |_=>false
def XO(C t a:Addr):HO:=.ext λh=>@ak=some (abC C t)
noncomputable def XN(fs:List (Str×V))(dx:Addr):HO:=.ext λh=>∃mA,h.Ns1 dx mA/\(∀f,xw (fs.lookup f) (mA f))/\PySem.Within mA (fs.map @k)
def spI(K:aq)(C:Addr)(f g:Str)(te:fB):Sp:=λvs H Q _=>∃a x y t0 d1 d2,vs=[@S,x,y]/\H a=some (XO C t0 a)/\bW K H x d1/\bW K H y d2/\te (@j) [some @r,some d1,some d2] (λ_=>none) (λ_ _=>True) /\
 ∀H' t dx od,(∀b u,b≠a->H b=@K->H' b=@K)->H' a=some (.i9 (RZ C t dx) (.ext λh=>@ak=some (RZ C t dx)))->H' dx=some (.i9 od (.xd [(f,x),(g,y)]))->Q .eX H'
end K2
end
section
namespace K2
open PySem PySem.W PySem.Spec PyProof.Rows L2
noncomputable abbrev VEB:@s:=[.type "ValueError",.type "Exception",@bj,.type "object"]
end K2
end
section
namespace K2
open PySem PySem.Spec PyProof.Rows L2
noncomputable def afw(K:aq)(C:Addr)(v:Value):Bool:=match K.lookup C with
 |some ⟨_,_,.cls cd,_⟩=>!cd.mro.contains v
 |_=>false
theorem frames_at{h h':Heap}:∀{l:@aG},h.FunFrames base l->(∀b o,b∈ow l->@ap=@g->(∀vs,o.data≠.fields vs)->∃o',@ag=some o'/\o'.data=o.data)->h'.FunFrames base l
 |[],_,_=>trivial
 |env::l,⟨hk,⟨L,o,hf,hb,ho,hd⟩,hr⟩,k=>by
  have e:ow (env::l)=L::ow l:=by unfold ow;rw[ud hf]
  obtain⟨o',e1,ed⟩:=k L o (by rw[e];exact .head _) ho hd;exact⟨hk,⟨L,o',hf,hb,e1,λvs=>ed ▸ hd vs⟩,frames_at hr λb o hb=>k b o (by rw[e];exact .tail _ hb)⟩
section
variable {M:Model} {A:cH} {E:@C} {s:ay} {B:Heap} {l:@aG} {e:Addr} {cls a0 fl:Value}
theorem Kn{f:Option Addr}{Q:Unit->@X}(hkb:B.StaysIn s.heap)(hl:s.heap.FunFrames B l)(ht:s.heap.TracedAtW B e cls a0 fl)
  (h:∀h' fl,B.StaysIn h'->h'.FunFrames B l->h'.TracedAtW B e cls a0 fl->(∀b o,@T->(∀vs,o.data≠.fields vs)->@ag=@g)->Q () @an):wpAny M A (zU (.ref e) f) Q E s:=by
 obtain⟨oe,vs,T,oT,ts,he,Cu,hd,h1,hnT,hTe,hT,WE,h3⟩:=ht;have aaM:3<ts.size:=(Array.getElem?_eq_some_iff.mp h3).1;have other:∀b,b≠T->(s.heap.update T (vo (·.setIfInBounds 3 (f.elim dG λf=>si f)))).get? b=@a2:=λb hb=>bQ _ _ (dD hb);have tw:∀b o,@T->(∀vs,o.data≠.fields vs)->b≠T:=λb o hb OY q=>by
  rw[q,hT] at hb;injection hb with hb;subst hb;exact OY ts WE
 unfold zU;refine ag (iY he hd h1 ?_);rw[if_pos (show(dg T != dG)=true from @G)];refine vm hT WE aaM (h _ (f.elim dG λf=>si f) (λb o YH=>(other b λq=>by rw[q,hnT] at YH;cases YH).trans (hkb b o YH))
  (hl.of_keeps λb o hb OY=>⟨o,(other b (tw b o hb OY)).trans hb,rfl⟩) ?_ λb o hb OY=>(other b (tw b o hb OY)).trans hb)
 exact⟨oe,vs,T,_,_,(other e (dD hTe)).trans he,Cu,hd,h1,hnT,hTe,eA _ hT (Tw (rZ WE _)),rZ WE _,by simp[aaM]⟩
theorem Qn{α:Type}{acW:String}{HU:Env}{Q:α->@X}(hkb:B.StaysIn s.heap)(hl:s.heap.FunFrames B l)(ht:s.heap.TracedAtW B e cls a0 fl)
  (h:∀h' fl,B.StaysIn h'->h'.FunFrames B l->h'.TracedAtW B e cls a0 fl->(∀b o,@T->(∀vs,o.data≠.fields vs)->@ag=@g)->ZJ s.heap h'->E (.ref e) @an):wpAny M A (PySem.passOn acW (.ref e) HU:Sem α) Q E s:=by
 obtain⟨oe,vs,T,oT,ts,he,Cu,hd,h1,r⟩:=id ht;unfold PySem.passOn;refine ag (iY he hd h1 ?_);rw[if_neg (show ¬ ((dg T == dG)=true) from @G)];refine ag (gP (yw (Kn (Q:=λ_ s2=>∃h' fl,B.StaysIn h'/\h'.FunFrames B l/\h'.TracedAtW B e cls a0 fl/\(∀b o,@T->(∀vs,o.data≠.fields vs)->@ag=@g)/\s2=@an) hkb hl ht λh' fl q1 q2 q3 q4=>⟨h',fl,q1,q2,q3,q4,rfl⟩) (mJ _ _)) ?_ (λ_ _ z=>z));rintro _ s2 ⟨⟨h',fl,q1,q2,q3,q4,rfl⟩,dk⟩;exact wpAny_throw (h h' fl q1 q2 q3 q4 dk)
end
section
variable {X:Cx} {N:@y} {scope:Scope} {fp:@ay} {pins:@t} {σ:L2.St} {H:Hp} {s:ay} {E:k7}
theorem SR(A0:ze X)(I:@m)(O0:∀b∈fp,lE X pins H b):Inv X pins σ H {s with heap := dU s.heap fp} := by
  have old:∀b o,@bp=@g -> b∉fp := λb o q hb=> by
    obtain⟨_,_,_,f3,_⟩ := O0 b hb;rw[A0.ex] at f3;rcases f3 with z |z
    . cases z
    . exact absurd (aO q) (Nat.not_lt.mpr z)
  exact { ok := I.ok,os := I.os,bare := I.bare
          base := ⟨λb o q n hb hx=> dw _ (I.base.keep b o q n hb hx) (old b o q),λb o q n hb hx=> let ⟨sl,e⟩ := I.base.slot b o q n hb hx;⟨sl,dw _ e (old b o q)⟩,I.base.free,
            λb o q hx=> let ⟨o',e⟩ := I.base.there b o q hx;⟨o',dw _ e (old b o q)⟩,I.base.rS,I.base.qY,I.base.vv,I.base.vB⟩
          loc := by
            obtain⟨m,⟨o,es,ep,ho,r⟩,hl⟩ := I.loc;exact⟨m,⟨o,es,ep,dw _ ho λhb=> (O0 _ hb).2.1 rfl,r⟩,λi x v e1 e2 e3=> let ⟨u,r,q⟩ := hl i x v e1 e2 e3;⟨u,r,q.imp id λ⟨k,c,e,oc,Tf,hd⟩=> ⟨k,c,e,oc,dw _ Tf λhb=> (O0 _ hb).2.2.2.2.1 x c e rfl,hd⟩⟩⟩
          cell := λx c e=> let ⟨v,oc,Tf,hd⟩ := I.cell x c e;⟨v,oc,dw _ Tf λhb=> (O0 _ hb).2.2.2.2.1 x c e rfl,hd⟩
          free := I.free,jP := I.jP
          pin := λp hp=> by
            obtain⟨h1,h2⟩ := I.pin p hp;exact⟨dw _ h1 λhb=> (O0 _ hb).2.2.2.2.2 p hp rfl,h2⟩
          bP := λa o q=> (I.bP a o q).jj (λb u hb e=> dw _ e λhm=> by
            have n := (O0 b hm).1;rcases hb with rfl |hb
            . rw[q] at n;cases n
            . rw[hb] at n;cases n) (λb r=> r) (λb xs r=> r)
          len := I.len}
theorem Vl(A0:ze X)(hL:Lk X E)(I:@m)(O0:∀b∈fp,lE X pins H b/\b<s.heap.objs.size):Lk (cc X N scope s.heap.objs.size s H fp) E where
 pass:=λaah Zl H1 s1 s' e I1 Ct=>by
  obtain⟨a,Ca,t,B,H',rfl,os,bare,un,bP,hB,fl,ha,hs,oe,he,hEx⟩:=Ct;have I2:Inv (cc X N scope s.heap.objs.size s H fp) aah Zl H' s':=I1.Sm (ch:=[]) os un bP bare (λb z=>absurd z @i);have Hi:=A0.st;have frC:s.heap.objs.size∉@aJ:=λz=>by
   obtain⟨_,o,e,_⟩:=I.stack.mem z;exact absurd (aO e) (ie _)
  have YY:B1 B (X.env::X.outer) a (.ref Ca) (.ref t) s'.heap:=by rw[<-Hi];exact fl
  show wpAny @o X.A (pV @r X.env) (λ_ Xo=>zL X s.heap.objs.size @r Xo) (zL X s.heap.objs.size) s';refine gP (yw (AZ (Q:=λ_ s2=>∃h4,zt B (X.env::X.outer) a (.ref Ca) (.ref t) X.env.locals h4/\s'.heap.UpToSlots h4/\s2={s' with heap:=h4}) (by rw[<-Hi];exact I.ok.frames) A0.fr YY λh4 held Ph=>⟨h4,held,Ph,rfl⟩) (Ep _ _)) ?_ (λ_ _ z=>z);rintro _ s2 ⟨⟨h4,held,Ph,rfl⟩,dk4⟩;obtain⟨m2,aaU,_⟩:=I2.loc;refine⟨m2,Ph.ns aaU,λh6 hs6 HU _=>?_⟩;have kB:(dU B [s.heap.objs.size]).StaysIn B:=λb o q=>lg _ q;have WC:=PySem.W.heldW_base kB held;rw[<-Hi] at WC;obtain⟨k1,k2,k3,oe4,vs4,T,oT,ts,q1,q2,q3,q4,q5,q6,q7,q8,q9⟩:=WC;have aC:a≠s.heap.objs.size:=λz=>by
   obtain⟨m1,⟨o,_,_,ho,_⟩,_⟩:=I1.loc;have ho:s1.heap.get? s.heap.objs.size=@g:=ho;rw[z,ho] at hs;cases hs
  have TC:T≠s.heap.objs.size:=λz=>by
   obtain⟨o,_,_,ho,hd,_⟩:=Ph.ns aaU;have ho:h4.get? s.heap.objs.size=@g:=ho;rw[<-z,q7] at ho;cases ho;rw[q8] at hd;cases hd
  have ZE:∀b,@bw->h6.get? b=h4.get? b:=λb hb=>hs6.2 b hb;have nC:∀b o,(dU B [s.heap.objs.size]).get? b=@g->@bw:=λb o q z=>by
   rw[z,vW _ (.head _)] at q;cases q
  refine Qn (B:=dU B [s.heap.objs.size]) (l:=X.stack) (s:={s' with heap:=h6}) (cls:=.ref Ca) (a0:=.ref t) (λb o q=>(ZE b (nC b o q)).trans (k1 b o q))
   (frames_at k3 λb o hb e _=>⟨o,(ZE b λz=>frC (z ▸ hb)).trans e,rfl⟩) ⟨oe4,vs4,T,oT,ts,(ZE a aC).trans q1,q2,q3,q4,q5,q6,(ZE T TC).trans q7,q8,q9⟩ ?_
  intro h8 fl8 s8 f8 t8 nf8 dk8;have TZ:∀b o,@T->b∉fp->∃o1,@be=some o1:=λb o q hb=>I1.base.there b o q hb;have V8:∀b o,s'.heap.get? b=@g->b∉@aJ->@bw->(@be≠none\/H' b≠none)->(dU B [s.heap.objs.size]).get? b=@g:=λb o e n z c=>
   dw _ (hB b o e n c) (by simpa using z)
  have frame:∀b o,b∈@aJ->s'.heap.get? b=@g->∃sl,h8.get? b=some {o with slots:=sl}:=λb o hb e=>by
   obtain⟨_,o2,e2,nf⟩:=I2.stack.mem (show b∈@aJ from hb);rw[e] at e2;cases e2;obtain⟨sl,e4⟩:=Ph b o e nf;exact⟨sl,nf8 b _ ((ZE b λz=>frC (z ▸ hb)).trans e4) nf⟩
  have Zo:∀b o,(dU s.heap fp).get? b=@g->b∉fp/\@T/\@bw:=λb o q=>by
   have e:=lg _ q;exact⟨λhb=>(by rw[vW _ hb] at q;cases q),e,br (aO e)⟩
  have ne1:∀{b:Addr} {o1:Obj},@be=some o1->@be≠none:=λe=>@aF
  have go:∀b o,s'.heap.get? b=@g->b∉@aJ->@bw->(@be≠none\/H' b≠none)->h8.get? b=@g:=λb o e n z c=>s8 b o (V8 b o e n z c);have tr:∀b u,H' b=@K->b∉@aJ/\@bw:=λb u q=>⟨λhb=>(by rw[I2.zy b hb] at q;cases q),λz=>by
   have f:H' s.heap.objs.size=none:=I2.free;rw[z,f] at q;cases q⟩
  obtain⟨oe8,he8,_⟩:=t8.there;have dk:oe8.dict=oe.dict:=((dk8.at ((ZE a aC).trans q1) he8)).trans (dk4.at he q1);refine hL.pass pins σ H {s with heap:=dU s.heap fp} _ _ (SR A0 I λb hb=>(O0 b hb).1) ⟨a,Ca,t,dU B [s.heap.objs.size],H',rfl,I2.os,I2.bare,⟨λb o q n hb _=>?_,λb o q n hb _=>?_,λb o q n _=>?_,λb o q _=>?_,I2.base.rS,I2.base.qY,I2.base.vv,I2.base.vB⟩,λb u q=>?_,λb o e n c=>?_,⟨s8,k2,f8,.inl ⟨fl8,t8⟩⟩,ha,?_,oe8,he8,by rw[dk];exact hEx⟩
  .obtain⟨h1,h2,h3⟩:=Zo b o q;obtain⟨o1,e1⟩:=TZ b o h2 h1;exact go b o (I2.base.keep b o h2 n hb h1) hb h3 (.inl (ne1 e1))
  .obtain⟨h1,h2,h3⟩:=Zo b o q;obtain⟨sl,e⟩:=I2.base.slot b o h2 n hb h1;obtain⟨zA,e2⟩:=frame b _ hb e;exact⟨zA,e2⟩
  .obtain⟨h1,h2,h3⟩:=Zo b o q;exact I2.base.free b o h2 n h1
  .obtain⟨h1,h2,h3⟩:=Zo b o q;obtain⟨o',e⟩:=I2.base.there b o h2 h1;obtain⟨o1,e1⟩:=TZ b o h2 h1;by_cases hb:b∈@aJ
   .obtain⟨zA,e2⟩:=frame b _ hb e;exact⟨_,e2⟩
   .exact⟨o',go b o' e hb h3 (.inl (ne1 e1))⟩
  .refine(I2.bP b u q).jj (λc v hc e=>?_) (λb r=>r) (λb xs r=>r);rcases hc with rfl |hc
   .exact go c v e (tr c _ q).1 (tr c _ q).2 (.inr (by rw[q];simp))
   .exact go c v e (tr c _ hc).1 (tr c _ hc).2 (.inr (by rw[hc];simp))
  .have:∃o1,s'.heap.get? b=some o1/\@bw/\(@be≠none\/H' b≠none):=by
    rcases c with c |c
    .cases q:(dU s.heap fp).get? b with
     |none=>exact absurd q c
     |some o0=>
      obtain⟨h1,h2,h3⟩:=Zo b o0 q;obtain⟨o',e'⟩:=I2.base.there b o0 h2 h1;obtain⟨o1,e1⟩:=TZ b o0 h2 h1;exact⟨o',e',h3,.inl (ne1 e1)⟩
    .cases q:H' b with
     |none=>exact absurd q c
     |some u=>
      obtain⟨o',e'⟩:=(I2.bP b u q).there;exact⟨o',e',(tr b u q).2,.inr @i⟩
   obtain⟨o1,e1,z,c'⟩:=this;have x:=V8 b o1 e1 n z c';have:=s8 b o1 x;have e:h8.get? b=@g:=e;rw[e] at this;cases this;exact x
  .cases q:(dU s.heap fp).get? a with
   |none=>rfl
   |some o0=>
    obtain⟨h1,h2,h3⟩:=Zo a o0 q;obtain⟨o1,e1⟩:=TZ a o0 h2 h1;rw[e1] at hs;cases hs
end
section
variable {X:Cx}
theorem HY:ky X (@ad) H0:=by
 intro pins s σ H G xs ds us Q I ab rx rd q;unfold H0 at q;split at q
 .rename_i x;obtain⟨v,rfl,r⟩:=rd.one;have Zm:∀(l:Addr) (ys:@w) (zs:@e),v=.ref l->qB X.K H l ys->bo X.K H ys zs->Q (.tup zs) G->wpAny @o X.A (call (@ad) us) @aZ X.xe s:=λl ys zs e h rs hq=>by
   subst e;exact gQ (CF pins s σ H _ us (Ce X.K H G Q) I rx ⟨l,ys,rfl,.inl ⟨h,λp hp=>⟨.tup zs,G,.Ft ab hp,.tup bM (rs.mono (@ah)),hq⟩⟩⟩) λ_ _ z=>.of z
  cases r with
  |dF hq rs=>exact Zm _ _ _ rfl hq.sq rs q
  | ref l=>
   unfold oQ at q;dsimp only at q;cases hg:G l with
   |none=>rw[hg] at q;exact q.elim
   | some g=>
    rw[hg] at q;cases g with
    |lst ds=>
     obtain⟨vs,hv,rs⟩:=ab.lst hg;exact Zm _ _ _ rfl (.of hv) rs q
    |ins _ _=>exact q.elim
    |se _=>exact q.elim
    |eG kvs=>exact q.elim
  |_=>exact bI q
 ext e
end
abbrev NM(P)(w):B8 P w PK:=nk3 (IZ P w)
section
variable {P:bC} {w:World} {K:aq} {H:Hp} {h:Heap}
theorem items_int:∀{t:@u} {us:@s},Vals (t.map V.int) us->ItemsAre (IZ P w) t us
 |[],_,r=>by rw[aR] at r;cases r;exact .nil
 | i::t,_,r=>by
  rw[aw] at r;cases r with
  |cons h r=>
   obtain⟨q,rfl⟩:=h;exact .cons (by simp[IZ,uP]) (items_int r)
theorem adz(ok:oD P w H h)(r:bW K H v (.tup (t.map D.int)))(ru:RelV v u):∃b,u=.ref b/\(gS (IZ P w)).is h t b:=by
 cases r with
 |tup e rs=>
  have z:=rs.ints;subst z;cases ru;obtain⟨_,bT,r,o,h1,h2,n,h3⟩:=(show fQ P w H h _ (.tup (t.map V.int)) from ok _ _ e);exact⟨_,rfl,o,bT.toArray,n,h1,h2,h3,by simpa using items_int r⟩
theorem Wj(ok:oD P w H h):∀{r:List (@u)} {vs:@w} {us:@s},bo K H vs (r.map λt=>.tup (t.map D.int))->Vals vs us->uY (gS (IZ P w)) h r us
 |[],_,_,q,ru=>by have:=q.zero;subst this;cases ru;exact .nil
 | t::r,_,_,q,ru=>by
  rw[aw] at q;cases q with
  | cons q1 q2=>
   cases ru with
   |cons r1 r2=>
    obtain⟨b,rfl,hb⟩:=adz ok q1 r1;exact .cons hb (Wj ok q2 r2)
theorem ady(ok:oD P w H h)(q:bW K H v (.tup (r.map λt=>.tup (t.map D.int))))(ru:RelV v u):∃b,u=.ref b/\(Zr (IZ P w)).is h r b:=by
 cases q with
 |tup e rs=>
  cases ru;obtain⟨_,bT,r',o,h1,h2,n,h3⟩:=(show fQ P w H h _ (.tup _) from ok _ _ e);exact⟨_,rfl,o,bT.toArray,n,h1,h2,h3,by simpa using Wj ok rs r'⟩
theorem Wi(ok:oD P w H h):∀{k:PK} {vs:@w} {us:@s},bo K H vs (k.map λr=>.tup (r.map λt=>.tup (t.map D.int)))->Vals vs us->uY (Zr (IZ P w)) h k us
 |[],_,_,q,ru=>by have:=q.zero;subst this;cases ru;exact .nil
 | t::r,_,_,q,ru=>by
  rw[aw] at q;cases q with
  | cons q1 q2=>
   cases ru with
   |cons r1 r2=>
    obtain⟨b,rfl,hb⟩:=ady ok q1 r1;exact .cons hb (Wi ok q2 r2)
theorem QF(ok:oD P w H h)(q:bW K H v (lb k))(ru:RelV v u):∃b,v=.ref b/\u=.ref b/\(NM P w).is h k b:=by
 unfold lb at q;cases q with
 |tup e rs=>
  cases ru;obtain⟨_,bT,r',o,h1,h2,n,h3⟩:=(show fQ P w H h _ (.tup _) from ok _ _ e);exact⟨_,rfl,rfl,o,bT.toArray,n,h1,h2,h3,by simpa using Wi ok rs r'⟩
def P1(K:aq)(H:Hp)(x:PK×@aO)(p:PK×D):Prop:=x.1=p.1/\bW K H (.ref x.2.1) (lb p.1)/\∃v,RelV v x.2.2/\bW K H v p.2
theorem vA:∀{xs:List (PK×@aO)} {ks vs:@w} {kvs:List (PK×D)},V1 kvs ks vs xs->bo K H ks (kvs.map λp=>lb p.1)->bo K H vs (kvs.map λp=>p.2)->kz (P1 K H) xs kvs
 |[],ks,vs,kvs,r,r1,r2=>by
  have:kvs=[]:=by simpa using r.1
  subst this;exact .nil
 | x :: xs,ks,vs,kvs,r,r1,r2=>by
  obtain⟨e1,e2,e3⟩:=r;cases kvs with
  |nil=>cases e1
  | cons p kvs=>
   rw[aw,aw] at e1;injection e1 with e4 e5
   subst e2;rw[aw] at r1;rw[aw] at r1 r2;rw[aw] at e3;cases r1 with
   | cons q1 q2=>
    cases r2 with
    |cons q3 q4=>
     cases e3 with
     |cons q5 q6=>exact .cons ⟨e4.symm,q1,_,q5,q3⟩ (vA ⟨e5,rfl,q6⟩ q2 q4)
theorem XD(h:kz (P1 K H) xs kvs):∃vs,V1 kvs (xs.map λx=>.ref x.2.1) vs xs/\bo K H (xs.map λx=>.ref x.2.1) (kvs.map λp=>lb p.1)/\bo K H vs (kvs.map λp=>p.2):=by
 induction h with
 |nil=>exact⟨[],⟨rfl,rfl,.nil⟩,.nil,.nil⟩
 |cons h1 _ ih=>
  obtain⟨vs,⟨a,b,c⟩,r1,r2⟩:=ih;obtain⟨e1,e2,v,e3,e4⟩:=h1;exact⟨v::vs,⟨by rw[aw,aw,a,e1],rfl,.cons e3 c⟩,.cons e2 r1,.cons e4 r2⟩
theorem P1.mono(k:Kp H H')(h:P1 K H x p):P1 K H' x p:=let ⟨a,b,v,c,d⟩:=h;⟨a,b.mono k,v,c,d.mono k⟩
theorem Gs(k:Kp H H')(h:kz (P1 K H) xs kvs):kz (P1 K H') xs kvs:=Paired.Ve h λ_ _ z=>z.mono k
theorem XE(ok:oD P w H h)(r:kz (P1 K H) xs kvs):∀x∈xs,(NM P w).is h x.1 x.2.1:=by
 induction r with
 |nil=>intro x hx;cases hx
 |cons h1 _ ih=>
  intro x hx;rcases List.mem_cons.mp hx with rfl |hx
  .obtain⟨e1,e2,_⟩:=h1;obtain⟨b,e3,e4,e5⟩:=QF ok e2 (rfl:RelV (.ref _) (.ref _));cases e4;rw[e1];exact e5
  .exact ih x hx
theorem qb(ok:oD P w H h)(p:KO a xs h)(r:kz (P1 K H) xs kvs):h.DictOfH (NM P w) a xs:=by
 obtain⟨z,y,o,es,ep,h1,h2,h3,h4,h5⟩:=p;exact⟨o,es,ep,h1,h2,h3,h4,XE ok r,h5⟩
theorem Eg(z:xs.length<=bc)(y:(a == cu)=false)(d:h.DictOfH (NM P w) a xs):fQ P w H h a (.ext (KO a xs)):=by
 obtain⟨o,es,ep,h1,h2,h3,h4,_,h5⟩:=d;refine⟨⟨z,y,o,es,ep,h1,h2,h3,h4,h5⟩,⟨o,h1⟩,?_⟩;rintro g1 g2 ⟨z,y,o,es,ep,q1,q⟩ k;exact⟨z,y,o,es,ep,k _ q1,q⟩
theorem AP(r:kz (P1 K H) xs kvs)(k):(∃q v d,atKey xs k=some q/\oR kvs k=@O/\RelV v q.2/\bW K H v d)\/(atKey xs k=none/\oR kvs k=none):=by
 induction r with
 |nil=>exact .inr @aS
 | @cons x p xs kvs h1 _ ih=>
  obtain⟨e1,e2,v,e3,e4⟩:=h1;by_cases e:x.1=k
  .left;refine⟨x.2,v,p.2,?_,?_,e3,e4⟩
   .unfold atKey;rw[cx (@bl)];rfl
   .unfold oR;rw[cx (by simpa using e1.symm.trans e)];rfl
  .have a1:atKey (x::xs) k=atKey xs k:=by unfold atKey;rw[cg (@bl)]
   have a2:oR (p::kvs) k=oR kvs k:=by unfold oR;rw[cg (by simpa using λz=>e (e1.trans z))]
   rw[a1,a2];exact ih
theorem Uu(r:kz (P1 K H) xs kvs)(k):(kvs.any λp=>decide (p.1=k))=(atKey xs k).isSome:=by
 induction r with
 |nil=>rfl
 | @cons x p xs kvs h1 _ ih=>
  rw[ma];by_cases e:x.1=k
  .have a1:(atKey (x::xs) k).isSome=true:=by unfold atKey;rw[cx (@bl)];rfl
   rw[a1];simp[h1.1 ▸ e]
  .have a1:atKey (x::xs) k=atKey xs k:=by unfold atKey;rw[cg (@bl)]
   have:¬ p.1=k:=λz=>e (h1.1.trans z);rw[a1,<-ih];simp[this]
theorem Ut(r:kz (P1 K H) xs kvs)(rk:bW K H (.ref b) (lb k))(ru:RelV v u)(rd:bW K H v d):kz (P1 K H) (IW xs k b u) (Na kvs k d):=by
 unfold IW Na;rw[Uu r k];split
 .rename_i hs;clear rk hs;induction r with
  |nil=>exact .nil
  |@cons x p xs kvs h1 _ ih=>
   rw[aw,aw];refine .cons ?_ ih;unfold putAt;obtain⟨e1,e2,e3⟩:=h1;by_cases e:x.1=k
   .rw[if_pos e,if_pos (e1.symm.trans e)];exact⟨e1,e2,v,ru,rd⟩
   .rw[if_neg e,if_neg (λz=>e (e1.trans z))];exact⟨e1,e2,e3⟩
 .exact S1 r ⟨rfl,rk,v,ru,rd⟩
theorem oP(r:kz (P1 K H) xs kvs):xs.length=kvs.length:=gz r
theorem Fc{a:Addr}{xs:List (PK×@aO)}{kvs:List (PK×D)}(e:H a=some (.ext (KO a xs)))(r:kz (P1 K H) xs kvs):KW K H a (.se kvs):=by
 obtain⟨vs,a1,a2,a3⟩:=XD r;exact⟨xs,_,vs,e,a1,a2,a3⟩
theorem Ku(ab:kc K H G)(hg:G a=some (.se kvs)):∃xs,H a=some (.ext (KO a xs))/\kz (P1 K H) xs kvs:=by
 obtain⟨xs,ks,vs,e,a1,a2,a3⟩:=ab a _ hg;exact⟨xs,e,vA a1 a2 a3⟩
theorem Kp.aab{p:Addr}{o:HO}{φ:Heap->Prop}(hp:H p=some (.ext φ)):Kp H (upd H p o) :=
 ⟨λa ys e=>by rw[bH (by rintro rfl;rw[hp] at e;cases e)];exact e,λa ob u e=>by rw[bH (by rintro rfl;rw[hp] at e;cases e)];exact e⟩
theorem EH(ok:oD P w H h)(e:H a=some (.ext φ)):φ h:=(ok a _ e).1
end
section
variable {X:Cx} {elts:@az} {kk:Nat} {Aj apos jE pos:Pos} {o i k v:Expr} {to ti tk tv:fB}
theorem TM:SD X "dict" tyP:=by
 intro pins s σ H G x d u I ab r rd h;cases rd with
 |ref l=>
  unfold tyP at h;dsimp only at h;split at h
  .rename_i kvs hg;obtain⟨xs,e,_⟩:=Ku ab hg;obtain⟨_,_,o,es,ep,h1,h2,_⟩:=EH I.bP e;cases r;exact⟨⟨o,h1,h2.1⟩,λa z=>by cases z;exact⟨o,h1,h2.2.1⟩⟩
  .exact h.elim
 |kF hq _ _ _=>
  obtain⟨_,_,o,es,ep,h1,h2,_⟩:=(I.bP _ _ hq).2.1;cases r;exact⟨⟨o,h1,h2.1⟩,λa z=>by cases z;exact⟨o,h1,h2.2.1⟩⟩
 |_=>exact bI h
theorem Mb{pins:@t}{s:ay}{σ:L2.St}{H:Hp}{G:Gp}{a:Addr}{kvs:List (PK×D)}{ys:List (PK×@aO)}{pk:PK}{w w2:V}{u1 u2:Value}{d':D}{Q:DK}(hu:@av)(I:@m)(ab:@aA)(pd:KO a ys s.heap)(r:kz (P1 X.K H) ys kvs)(wg:bW X.K H w (lb pk))(Co:RelV w u1)(F9:bW X.K H w2 d')(D6:RelV w2 u2)(q:Q ((oR kvs pk).getD d') G):
  wpAny @o X.A (call (.builtin "dict.get") [@S,u1,u2]) @aZ X.xe s:=by
 have dd:=qb I.bP pd r;obtain⟨b,rfl,rfl,hb⟩:=QF I.bP wg Co;have hT:s.TypeIs @r "dict":=by obtain⟨o,es,ep,ho,hc,_⟩:=dd;exact⟨o,ho,hc.1⟩
 refine z8 mC hT K6 (Je _ _ _) (meetsH_dict_get_default (NM X.prog X.w) a b pd.2.1 u2) ⟨tx @c,pk,ys,hb,dd,?_⟩;rcases AP r pk with ⟨q1,v1,d1,h1,h2,h3,h4⟩ |⟨h1,h2⟩
 .rw[h1];rw[h2] at q;exact⟨v1,H,d1,G,@ao,@V,h3,h4,q⟩
 .rw[h1];rw[h2] at q;exact⟨w2,H,d',G,@ao,@V,D6,F9,q⟩
theorem QJ (hu:@av):KR X "dict.get" A5:=by
 intro pins s σ H G x d xs ds v us Q I ab rx rd Ta Gh q;unfold A5 at q;split at q
 .rename_i a k d';obtain⟨kvs,pk,hg,rfl,q⟩:=q;cases rd;obtain⟨w,w2,rfl,wg,F9⟩:=Gh.two;obtain⟨u1,u2,rfl,Co,D6⟩:=vals2 Ta;cases rx;obtain⟨ys,e,r⟩:=Ku ab hg;exact Mb hu I ab (EH I.bP e) r wg Co F9 D6 q
 .rename_i kvs k d';obtain⟨pk,rfl,q⟩:=q;obtain⟨w,w2,rfl,wg,F9⟩:=Gh.two;obtain⟨u1,u2,rfl,Co,D6⟩:=vals2 Ta;cases rd with
  |kF hq rel rk rv=>
   cases rx;exact Mb hu I ab (I.bP _ _ hq).2.1 (vA rel rk rv) wg Co F9 D6 q
 ext e
theorem VG{pins:@t}{s:ay}{σ:L2.St}{H:Hp}{G:Gp}{a:Addr}{kvs:List (PK×D)}{pk:PK}{y w:V}{u r:Value}{d:D}{Q:Unit->@X}(hu:@av)(I:@m)(ab:@aA)(hg:G a=some (.se kvs))(hz:kvs.length<SZ)(ry:RelV y u)(dy:bW X.K H y (lb pk))(rv:RelV w r)(dv:bW X.K H w d)
  (h:∀H' s',Inv X pins σ H' s'->Mv X.K H G H' (di G a (.se (Na kvs pk d)))->Q () s'):wpAny @o X.A (setItem @r u r) Q X.xe s:=by
 obtain⟨xs,e,rr⟩:=Ku ab hg;have pd:=EH I.bP e;have dd:=qb I.bP pd rr;obtain⟨b,rfl,rfl,hb⟩:=QF I.bP dy ry;have sz:bc=16777216:=cX;have hl:xs.length<bc:=by rw[oP rr,sz];exact hz
 refine wpAny_setItem_heap (hsz:=@f) (tx @c) hb dd λh' xn hs=>?_;have kp:Kp H (upd H a (.ext (KO a (IW xs pk b r)))):=.aab e;have pr:=Gs kp (Ut rr dy rv dv);have he:∃q,h'.get? a=some q:=let ⟨q,_,_,hq,_⟩:=xn;⟨q,hq⟩
 have yU:(IW xs pk b r).length<=bc:=by
  unfold IW;split
  .rw[ar];lia
  .rw[aB];show xs.length+1<=_;lia
 exact h _ _ (rm I (by rw[e];exact bB) hs he (Eg yU pd.2.1 xn)) (.put ab hg kp (Fc bM pr))
theorem Qc(hu:@av)(ho:dE X o to)(hi:dE X i ti)
  (ha:autoParam (∀v,CM (.Subscript o i pos) X.env v=(do
   let ov ← qE [v] (eval o X.env)
   let iv ← qE [v,ov] (eval i X.env)
   standAt pos
   qE [v,ov,iv] (setItem ov iv v)
   release [v,ov,iv] [])) Ai._auto_1):yz X (.Subscript o i pos) (tM to ti):=by
 intro E pins s σ H τ G w d u Q hE I r rd h;rw[ha];refine ag (ck (iK ho hE I h λx H1 dx G1 ov s1 I1 m1 r1 ja q1=>?_));refine ag (ck (iK hi hE I1 q1 λy H2 dy G2 iv s2 oy m2 r2 zi q2=>?_));refine ag (FD (ag (ck ?_)));have IP:=m1.trans m2;have M8:=rd.mono (IP.kp I.ab);have Fp:=I.st.mono (IP.kp I.ab);have rx':=ja.mono (m2.kp I1.ab);unfold Jy at q2;split at q2
 .rename_i l;cases rx';cases r1;obtain⟨kvs,pk,hg,rfl,hz,q⟩:=q2;exact VG hu oy.inv oy.ab hg hz r2 zi r M8 λH4 s4 I4 m4=>wpAny_release ⟨σ,H4,τ,_,⟨I4,Fp.mono (m4.kp oy.ab),m4.ab⟩,IP.trans m4,q⟩
 .exact q2.elim
theorem DB    (h:Heap) (hb:cu<h.objs.size):fQ P w H (h.push {cls:=@aN,data:=.dict #[]}) h.objs.size (.ext (KO h.objs.size [])) :=
 Eg (cm _) (beq_eq_false_iff_ne.mpr (dD (br hb))) ⟨_,#[],0,@au,⟨rfl,rfl,rfl⟩,rfl,rfl,(λx hx=>absurd hx @i),bR⟩
theorem UM:dE X (.Dict [] [] pos) CC:=by
 ext d;have hn:=I.inv.bP.fresh (aG s.heap.objs.size);have I1:=I.inv.laid (a:=s.heap.objs.size) (o:=.ext (KO s.heap.objs.size [])) (h':=s.heap.push {cls:=@aN,data:=.dict #[]}) (t':=s.toks) (λ_ _ q=>aF _ q) @D (DB s.heap I.inv.big);exact wpAny_Dict_empty ⟨@as,_,.ref _,_,I1,.new I.ab hn (Fc bM .nil),rfl,.ref _,h _ (I.ab.free hn)⟩
theorem Qi(hu:@av)(hk:dE X k tk)(hv:dE X v tv):dE X (.Dict [some k] [v] pos) (Mn tk tv):=by
 ext d;have hn:=I.inv.bP.fresh (aG s.heap.objs.size);have I1:=I.inv.laid (a:=s.heap.objs.size) (o:=.ext (KO s.heap.objs.size [])) (h':=s.heap.push {cls:=@aN,data:=.dict #[]}) (t':=s.toks) (λ_ _ q=>aF _ q) @D (DB s.heap I.inv.big);have mh:Mv X.K H G (upd H s.heap.objs.size (.ext (KO s.heap.objs.size []))) G:=.Ft I.ab hn;have I2:I2 X pins σ (upd H s.heap.objs.size (.ext (KO s.heap.objs.size []))) τ G {s with heap:=s.heap.push {cls:=@aN,data:=.dict #[]},toks:=s.toks}:=⟨I1,I.st.mono (.new hn),mh.ab⟩;refine wpAny_Dict_any (by rfl) (by rfl) @i (show 1<=15 by decide) ?_;refine sr (iK hk hE I2 h λx H1 dx G1 u s1 I3 m1 r1 ja q1=>?_);refine iK hv hE I3 q1 λy H2 dy G2 w s2 I4 m2 r2 zi q2=>?_;obtain⟨pk,rfl,q2⟩:=q2;refine FH ?_;have g0:G s.heap.objs.size=none:=I.ab.free hn;obtain⟨p1,p2⟩:=m1.keep _ _ (bM (H:=H) (a:=s.heap.objs.size) (o:=.ext (KO s.heap.objs.size []))) g0;obtain⟨p3,p4⟩:=m2.keep _ _ p1 p2;have Z7:=ja.mono (m2.kp I3.ab);have pd:=EH I4.inv.bP p3;have dd:=qb (K:=X.K) (kvs:=[]) I4.inv.bP pd .nil;obtain⟨b,rfl,rfl,hb⟩:=QF I4.inv.bP Z7 r1;unfold storeAll;rw[List.forIn_cons];refine ag (ag (wpAny_dictSet_heap (hsz:=cm _) (Nz @c) hb dd λh' xn hs=>az ?_));show wpAny _ _ (forIn [] PUnit.unit _) _ _ _;rw[List.forIn_nil];refine az ?_;have he:∃q,h'.get? s.heap.objs.size=some q:=let ⟨q,_,_,hq,_⟩:=xn;⟨q,hq⟩
 have es:IW [] pk b w=[(pk,b,w)]:=rfl;rw[es] at xn;have kp:Kp H2 (upd H2 s.heap.objs.size (.ext (KO s.heap.objs.size [(pk,b,w)]))):=.aab p3;have I5:=rm (t':=s2.toks+(NM X.prog X.w).draws pk) I4.inv (by rw[p3];exact bB) hs he (Eg (by exact(show 1<=bc by decide)) pd.2.1 xn);have IP:=(mh.trans m1).trans m2;refine⟨@as,_,@as,_,I5,?_,rfl,.ref _,q2 _ p4⟩;refine⟨λa o e n=>?_,λa n=>?_,λa g e=>?_⟩
 .have ne:a≠s.heap.objs.size:=eD e hn;obtain⟨k1,k2⟩:=IP.keep a o e n;exact⟨by rw[bH ne];exact k1,by rw[bO ne];exact k2⟩
 .by_cases ha:a=s.heap.objs.size
  .rw[ha,bM];simp
  .rw[bH ha];exact IP.jj a n
 .by_cases ha:a=s.heap.objs.size
  .subst ha;rw[av] at e;cases e;exact Fc bM (Gs kp (.cons ⟨rfl,Z7,y,r2,zi⟩ .nil))
  .rw[bO ha] at e;exact(IP.ab a g e).mono kp (bH ha)
theorem JL (ho:dE X o to) (tI:autoParam (xN o "items" X.env (eval o X.env)=eval o X.env) Ar._auto_1) (w9:autoParam ((apos.endLine == jE.line)=true) Ar._auto_1):
  xJ X (.Tuple elts kk Aj) (.Call (.Attribute o "items" apos) [] [] jE) (qV to):=by
 intro E pins s σ H τ G R hE I h;refine xK tI w9 (iK ho hE I h λx H1 d G1 v s1 I1 m1 r1 ja q1=>?_);cases d with
 | kF kvs=>
  have q1:R (kvs.map λp=>.tup [lb p.1,p.2]) @aw G1:=q1;cases ja with
  |kF hq rel rk rv=>
  rename_i a ob xs ks vs;have pr:=vA rel rk rv;obtain⟨z,ns,o',es,ep,Dj,ex,dd,hl,nd⟩:=(I1.inv.bP a _ hq).2.1;have eo:o'=ob:=by have:=(I1.inv.bP a _ hq).1;rw[Dj] at this;exact aX this
  subst eo;have t1:s1.TypeIs @r "dict":=⟨_,Dj,ex.1⟩;have t2:∀b,dg a=.ref b->∃ob,@be=some ob/\ob.dict=none:=λb z=>by cases z;exact⟨_,Dj,ex.2.1⟩
  have l1:=congrArg cU hl;rw[ar,cT] at l1;have l2:=oP pr;have l3:vs.length=xs.length:=by have:=rel.2.2.length;ext f
  have ps:∀i (h:i<es.size),∃p,((xs.zip vs).map λz=>(V.ref z.1.2.1,z.2))[i]?=some p/\RelV p.1 es[i].key/\RelV p.2 es[i].val:=λi hi=>by
   have i2:i<xs.length:=@f
   have i3:i<vs.length:=@f
   have ee:es[i]=⟨hP xs[i].1,.ref xs[i].2.1,xs[i].2.2⟩:=by
    have:=congrArg (λl=>l[i]?) hl;simp only[bx,aA i2] at this;simpa[hi] using this
   refine⟨(V.ref xs[i].2.1,vs[i]),by rw[bx,aA (by rw[lY];lia),oH];rfl,?_⟩;rw[ee];refine⟨rfl,?_⟩;obtain⟨u,hu1,hu2⟩:=rel.2.2.get (aA i3);rw[bx,aA i2] at hu1;cases hu1;exact hu2
  have Xs:∀(i:Nat) (q:PK×D),kvs[i]?=some q->∃p,((xs.zip vs).map λz=>(V.ref z.1.2.1,z.2))[i]?=some p/\bW X.K H1 p.1 (lb q.1)/\bW X.K H1 p.2 q.2:=λi q e=>by
   have i1:i<kvs.length:=(List.getElem?_eq_some_iff.mp e).1;have i2:i<xs.length:=@f
   have i3:i<vs.length:=@f
   refine⟨(V.ref xs[i].2.1,vs[i]),by rw[bx,aA (by rw[lY];lia),oH];rfl,?_,?_⟩
   .obtain⟨w,hw,rH⟩:=rk.get (i:=i) (d:=lb q.1) (by rw[bx,e];rfl);rw[rel.2.1,bx,aA i2] at hw;cases hw;exact rH
   .obtain⟨w,hw,rH⟩:=rv.get (i:=i) (d:=q.2) (by rw[bx,e];rfl);rw[aA i3] at hw;cases hw;exact rH
  have hlen:kvs.length=es.size:=@f
  cases r1;refine⟨"dict","dict.items",gu,gr,sD,t1,t2,mr rfl (zf ?_)⟩;refine z8 gr t1 rP (qG _) (wN a ns) ⟨t1,?_⟩;have I2:Inv X pins σ H1 {s1 with heap:=s1.heap.push {cls:=.type "dict_items",data:=.fields #[@S]}}:=I1.inv.kept (t':=s1.toks) λb o e=>aF _ e;refine yT (s:={s1 with heap:=s1.heap.push {cls:=.type "dict_items",data:=.fields #[@S]}}) ⟨_,@au,rfl,rfl⟩ (aF _ (I1.inv.bP a _ hq).1) dd ?_;refine⟨_,[_],_,_,H1,G1,kvs.map (λp=>.tup [lb p.1,p.2]),_,rfl,I2.kept (t':=s1.toks) λb o e=>aF _ e,m1,yD a _ _ es ep _ dd ps,⟨.none,.none,@au⟩,λb hb=>?_,λi H2 G2 k ab _=>?_,q1⟩
  .have e:=List.mem_singleton.mp hb;subst e;exact I2.Bp @D (I2.bP.fresh @D)
  .have yU:=k.i9 _ _ _ hq;refine⟨λd hd=>?_,λhle=>⟨⟨_,yU⟩,by rw[<-hlen];simpa using hle⟩⟩;rw[bx] at hd;cases N0:kvs[i]? with
   |none=>rw[N0] at hd;cases hd
   |some q=>
    rw[N0] at hd;obtain⟨p,hp,rk,rp⟩:=Xs i q N0;have hi:i<es.size:=by rw[<-hlen];exact(List.getElem?_eq_some_iff.mp N0).1
    refine⟨⟨⟨_,yU⟩,hi⟩,?_⟩;rintro x H3 ⟨T,p',ex,hT,e3,hy⟩;subst ex e3;rw[hp] at hy;cases hy;have ed:D.tup [lb q.1,q.2]=d:=by simpa using hd
    subst ed;exact⟨.tup bM (.cons ((rk.mono k).mono (.new hT)) (.cons ((rp.mono k).mono (.new hT)) .nil)),.Ft ab hT⟩
 |_=>ext c
theorem my.drop{K:aq}(r:my K H kv kvs)(k):my K H (kv.filter λp=>decide (p.1≠k)) (kvs.filter λp=>!jC p.1 (.tup (k.map eL))):=by
 induction r using my.ind with
 |nil=>exact .nil
 |@cons j v d r t rd rs ih=>
  rw[cR,cR];simp only[tQ];by_cases e:j=k
  .simp only[e,ne_eq,not_true_eq_false,decide_false,decide_true,bg,au,if_false];exact ih
  .simp only[e,ne_eq,not_false_eq_true,decide_true,decide_false,cL,if_true];exact .cons rd ih
theorem KT.drop(r:KT H kvs xs)(k):KT H (kvs.filter λp=>decide (p.1≠k)) (W2 xs k):=by
 unfold W2;induction r with
 |nil=>exact .nil
 |@cons p q ps qs h1 _ ih=>
  rw[cR,cR];by_cases e:p.1=k
  .have e2:q.1=k:=h1.1.symm.trans e;simp only[e,e2,ne_eq,not_true_eq_false,decide_false,au,if_false];exact ih
  .have e2:¬ q.1=k:=λz=>e (h1.1.trans z);simp only[e,e2,ne_eq,not_false_eq_true,decide_true,if_true];exact .cons h1 ih
theorem QI (hu:@av):KR X "dict.pop" A4:=by
 intro pins s σ H G x d xs ds v us Q I ab rx rd Ta Gh q;unfold A4 at q;split at q
 .rename_i a k;obtain⟨kvs,d',hg,⟨hk,ha,hl⟩,q⟩:=q;cases rd;obtain⟨w,rfl,wg⟩:=Gh.one;obtain⟨u1,rfl,Co⟩:=vals1 Ta;cases rx;obtain⟨H',I',m,h⟩:=EO I ab hg (by unfold iC;rw[iT];right;rw[hk,ha];rfl) wg;rcases h with ⟨kv,kk,hv,rs,rfl,rfl⟩ |⟨kv,kk,b,hv,rs,rfl,rfl,hb⟩
  .cases kk<;>simp[eL,lB] at hk
  .cases Co;obtain⟨z,hd,ys,rel,dd⟩:=R5 I'.bP hv;rcases rs.look kk with ⟨v',d2,e1,e2,rr⟩ |⟨e1,e2⟩
   .rw[e2] at hl;cases hl;obtain⟨w',hw,rH⟩:=xw.some_of (v:=v') (o:=(atKey ys kk).map (·.2)) (by rw[<-e1];exact rel.val kk);obtain⟨p,hp,mK⟩:=Option.map_eq_some_iff.mp hw;refine P4 (knd:=gS (@bb)) (iH @c) (kn I'.bP hb) dd hp (by rw[<-gz rel];exact z) λh' xn hs=>?_;rw[mK];have kp:Kp H' (upd H' a (.dT (kv.filter λp=>decide (p.1≠kk)))):=.putD hv (.inr @I);obtain⟨q',es,ep,hq,h2,h3,h4,_,h5⟩:=xn;have I5:=rm (t':=s.toks+(gS (@bb)).draws kk) I' (by rw[hv];exact bB) hs ⟨q',hq⟩ (ob:=.dT (kv.filter λp=>decide (p.1≠kk))) ⟨bh (fc _ _) z,hd,_,(KT.drop rel kk).keeps λc ys ec=>by rw[bH (Wk ec hv (@a3))];exact ec,q',es,ep,hq,h2,h3,h4,h5⟩;exact⟨v',_,d',_,I5,m.trans (.put m.ab hg kp (.dt bM ((rs.drop kk).mono kp))),rH,rr.mono kp,q⟩
   .rw[e2] at hl;cases hl
 ext e
end
noncomputable def kpL:HO->Bool
 |.tup _=>true
 |.i9 _ (.lst _)=>true
 |_=>false
def hv(H:Hp):Hp:=λb=>(H b).bind λo=>if kpL o=true then @g else none
section
variable {X:Cx} {a:Expr} {p pos:Pos} {ta:fB}
theorem Qg   (hg:Gl X "isinstance") (hm:X.mg "isinstance"=none) (YA:Gl X y) (hmC:X.mg y=none) (hvC:df y=some (@aN)) (ha:dE X a ta) (hn:autoParam (y≠"__name__") Ad._auto_1) (pO:autoParam ((y == ("__debug__":Str))=false) Ad._auto_1)
  (he:autoParam (aZ [a,@ae] X.env=(false,eval a X.env)::aZ [@ae] X.env) Ar._auto_1) (qA:autoParam ((ik pos (aZ [S5 y py] X.env)).any @k=false) Ar._auto_1) (N6:autoParam (aZ [@ae] X.env=[(false,eval (@ae) X.env)]) Ar._auto_1):
  dE X (.Call (.Name "isinstance" p) [a,@ae] [] pos) (HK ta):=by
 ext d;refine d6 (lz I.inv hg hm mn ?_);refine ic ?_ he qA;rw[he];show wpAny _ _ (vn ((false,eval a X.env)::ik pos (aZ [@ae] X.env))) _ _ s;refine eN (iK ha hE I h λv H1 d G1 u s1 I1 m1 r1 ja q1=>?_);rw[N6];show wpAny _ _ (vn [(false,eval (@ae) X.env)]) _ _ s1;refine eN (lz I1.inv YA hmC hvC (iJ ?_) hn pO);cases ja with
 |kF h0 z _ _=>
  cases r1;obtain⟨_,⟨z1,hm,o,es,ep,ho,ex,dd,hl,nd⟩,_⟩:=I1.inv.bP _ _ h0;exact fj Tu I1.inv.zG ⟨_,ho,ex.1⟩ (QX X.K "dict" (@d) "dict" (@d)) (@a3) λtk=>⟨.bl true,H1,.bl true,G1,I1.inv.tok _,m1,rfl,.bl true,q1⟩
 |_=>ext c
end
end K2
end
section
namespace K2
open PySem PySem.Spec PyProof.Rows L2 PySem.W
section
variable {X:Cx} {tg a b:Expr} {ta tb:fB} {pos:Pos}
theorem UJ(hu:@av)(ha:dE X a ta)(hb:dE X b tb)(hs:autoParam (MB b) Aua._auto_1):dE X (.Subscript a b pos) (aN M9 ta tb):=by
 ext d;refine Subscript_ (Mu ha hb hE I h λv u s2 x y dx dy H2 G2 J m rx ry dX dY q=>?_);cases dX with
 |kF hq rel rk rv=>
  obtain⟨pk,d,rfl,hl,q⟩:=q;have pr:=vA rel rk rv;have dd:=qb J.inv.bP (J.inv.bP _ _ hq).2.1 pr;obtain⟨b',rfl,rfl,N7⟩:=QF J.inv.bP dY ry;cases rx;rcases AP pr pk with ⟨q1,v1,d1,h1,h2,h3,h4⟩ |⟨h1,h2⟩
  .rw[hl] at h2;cases h2;exact tail_any dd.typeIs PySem.F.slot_dict_getitem.lookup (wpAny_getItem_heap (tx @c) N7 dd h1 ⟨v1,H2,d,G2,J.inv.tok _,m,h3,h4,q⟩) (hs _ _)
  .rw[hl] at h2;cases h2
 |_=>exact bI q
theorem Nk(ha:dE X a ta):xJ X tg a (ye ta):=by
 intro E pins s σ H τ G R hE I h;refine iK ha hE I h λx H1 d G1 v s1 I1 m1 r1 ja q1=>?_;cases d with
 | kF kvs=>
  have q1:R (kvs.map λp=>lb p.1) @aw G1:=q1;cases ja with
  |kF hq rel rk rv=>
  rename_i l ob xs ks vs;obtain⟨z,ns,o',es,ep,Dj,ex,dd,hl,nd⟩:=(I1.inv.bP l _ hq).2.1;have eo:o'=ob:=by have:=(I1.inv.bP l _ hq).1;rw[Dj] at this;exact aX this
  subst eo;have l1:=congrArg cU hl;rw[ar,cT] at l1;have l3:=rk.length;rw[ar] at l3;have l4:=congrArg cU rel.2.1;rw[ar] at l4;cases r1;refine vD ns (I1.inv.bP l _ hq).1 ex dd ?_;refine⟨s1.heap.objs.size,[s1.heap.objs.size],_,_,H1,G1,kvs.map (λp=>lb p.1),_,rfl,I1.inv.kept (t':=s1.toks) λb o e=>aF _ e,m1,CO l _ o' es ep ks dd (λi hi=>?_),⟨_,@au,rfl,rfl⟩,λb hb=>?_,λi H2 G2 k ab _=>?_,q1⟩
  .have i2:i<xs.length:=@f
   have ee:es[i]=⟨hP xs[i].1,.ref xs[i].2.1,xs[i].2.2⟩:=by
    have:=congrArg (λl=>l[i]?) hl;simp only[bx,aA i2] at this;simpa[hi] using this
   refine⟨.ref xs[i].2.1,by rw[rel.2.1,bx,aA i2];rfl,?_⟩;rw[ee];rfl
  .have e:b=s1.heap.objs.size:=@bf
   subst e;exact I1.inv.Bp @D (I1.inv.bP.fresh @D)
  .have yU:=k.i9 _ _ _ hq;have Fq:=rk.mono k;refine⟨λd hd=>?_,λhle=>⟨⟨_,yU⟩,by rw[ar] at hle;lia⟩⟩;obtain⟨v,hv,r⟩:=Fq.get hd;have hi:i<es.size:=by have:=(List.getElem?_eq_some_iff.mp hv).1;lia
   refine⟨⟨⟨_,yU⟩,hi⟩,?_⟩;rintro x H3 ⟨e,y⟩;subst e;rw[hv] at y;cases y;exact⟨r,@V⟩
 |_=>ext c
theorem HE(I:@m)(r:bW X.K H y (.fZ [])):∃a,y=@S/\s.heap.DictOfH (gS (@bb)) a []/\(a == cu)=false:=by
 cases r with
 |pM hq rs=>
  rename_i a o kv;cases rs;obtain⟨z,ns,vs,rel,o,es,ep,ho,ex,dd,_,hp,_⟩:=(I.bP a _ hq).2;cases rel;refine⟨a,rfl,⟨o,es,ep,ho,ex,dd,?_,λx hx=>(by cases hx),bR⟩,ns⟩;have:=hp.length;rw[aR];exact List.length_eq_zero_iff.mp (by ext f)
 |pL hq rs=>
  rename_i a o kv;cases rs;obtain⟨z,ns,xs,rel,ob,es,ep,ho,ex,dd,he,nd⟩:=(I.bP a _ hq).2;cases rel;exact⟨a,rfl,⟨ob,es,ep,ho,ex,dd,he,λx hx=>(by cases hx),bR⟩,ns⟩
theorem Gw(hu:@av)(neg):ku X (cS (if neg then .NotIn else .In)) (AJ neg):=by
 ext g;by_cases h:dy=.fZ []
 .subst h;obtain⟨⟨t,rfl⟩,q⟩:=q;obtain⟨a,rfl,dd,ns⟩:=HE I dY;cases ry;obtain⟨b,rfl,e⟩:=Az (ks:=[.inl t.a,.inl t.b,.inl t.c]) dX;cases rx;cases neg with
  |false=>exact wpAny_in_heap (iH @c) (kn I.bP e) ns dd ⟨.bl _,H,.bl _,G,@ao,@V,rfl,.bl _,q⟩
  |true=>exact wpAny_notIn_heap (iH @c) (kn I.bP e) ns dd ⟨.bl _,H,.bl _,G,@ao,@V,rfl,.bl _,q⟩
 .have:AJ neg dx dy G Q=Cp neg dx dy G Q:=by
   unfold AJ;split
   .exact absurd rfl h
   .rfl
  rw[this] at q;exact Eh hu neg pins s σ H G x y dx dy v u Q I ab rx ry dX dY q
theorem U4(hu:@av):ku X (cS .In) (AJ false):=Gw hu false
theorem JP(hu:@av):ku X (cS .NotIn) (AJ true):=Gw hu true
theorem KA (hc:@aI) (hu:@av):ky X (.builtin "min") Ia:=by
 intro pins s σ H G xs ds us Q I ab rx rd q;unfold Ia at q;split at q
 .rename_i a b;obtain⟨w1,w2,rfl,wg,F9⟩:=rd.two;obtain⟨u1,u2,rfl,Co,D6⟩:=vals2 rx;cases wg;cases F9;obtain⟨t,rfl⟩:=Co;obtain⟨t2,rfl⟩:=D6;refine min_two_ints (I.ok.hd hc) λh' tk k=>?_;have I2:=I.kept (t':=tk) k;by_cases c:b<a
  .rw[if_pos c] at q;rw[if_pos c];exact⟨.int b,H,.int b,G,I2,@V,@I,@P,q⟩
  .rw[if_neg c] at q;rw[if_neg c];exact⟨.int a,H,.int a,G,I2,@V,@I,@P,q⟩
 ext e
end
section
variable {prog:bC} {w:World} {K:Type} [DecidableEq K] {knd:B8 prog w K} {A:cH} {E:@C} {s:ay}
def uO(prog:bC)(w:World)(A:cH)(s:ay)(v y:Value):Prop:=∀(E:@C) (Q:Bool->@X),Q true s->wpAny @J A (eqBool v y) Q E s
theorem y7{nm:String}{a b:Addr}{xs ys:List (K×@aO)}{Q:Bool->@X}(ha:(a == cu)=false)(hb:(b == cu)=false)(da:s.heap.DictOfH knd a xs)(db:s.heap.DictOfH knd b ys)(room:knd.room A)
  (hl:xs.length=ys.length) (hit:∀x∈xs,∃q,atKey ys x.1=some q/\uO prog w A s x.2.2 q.2) (h:Q true s):wpAny @J A (DV nm a b) Q E s:=by
 obtain⟨oa,es,ep,Zw,_,Zx,hea,isa,_⟩:=da;obtain⟨ob,et,eq,hob,_,pO,heb,isb,ndb⟩:=db;have za:es.size=xs.length:=zT hea;have zb:et.size=ys.length:=zT heb;have z:es.size=et.size:=@f
 unfold DV jq;rw[if_neg (by rw[ha];exact eS),if_neg (by rw[hb];exact eS)];refine ag (az (ag (az (ag (dQ Zw Zx ?_)))));dsimp only;refine ag (dQ hob pO ?_);rw[if_neg (by rw[z];simp)];refine ag (ju Zw Zx (ag ?_));rw[Std.Legacy.Range.forIn_eq_forIn_range'];simp only[Std.Legacy.Range.size,Nat.sub_zero,Nat.add_sub_cancel,Nat.div_one];refine iG _ (λrest q s'=>s'=s/\q=(none,())/\∃i,rest=List.range' i (es.size-i)/\i<=es.size) _ ?_ ?_ _ _ ⟨rfl,rfl,0,@G,cm _⟩
 .rintro j rest q s' ⟨rfl,rfl,i,hr,hi⟩;obtain⟨n,hn⟩:∃n,es.size-i=n+1:=by
   cases e:es.size-i with
   |zero=>rw[e] at hr;simp at hr
   |succ n=>exact⟨n,rfl⟩
  rw[hn,List.range'_succ] at hr;injection hr with h1 h2
  subst h1;have lt:j<es.size:=@f
  have lx:j<xs.length:=@f
  have ee:es[j]?=some ⟨knd.hash xs[j].1,.ref xs[j].2.1,xs[j].2.2⟩:=by
   rw[entry_at hea j,aA lx];rfl
  obtain⟨q,hq,al⟩:=hit xs[j] (eW lx);refine ag (dQ Zw Zx ?_);rw[ee];refine ag (ck (ag (wpAny_dictFind_heap room (isa _ (eW lx)) hob pO heb isb ndb (λno=>?_) λk p hk=>?_)))
  .rw[atKey_none_of_get no] at hq;cases hq
  .rw[atKey_of_get ndb hk] at hq;cases hq;refine ag (dQ hob pO ?_);rw[entry_at heb k,hk];refine ck (al _ _ ?_);show wpAny _ _ (if(!true)=true then _ else _) _ _ _;rw[if_neg (@d)];refine ag (ju Zw Zx ?_);rw[if_neg @i];exact az ⟨rfl,rfl,j+1,by rw[h2];congr 1;lia,lt⟩
 .rintro q s' ⟨rfl,rfl,i,hr,hi⟩;exact az h
theorem KH(h:∀(E:@C) (Q:@C),Q (.bool true) s->wpAny @J A (pE .Eq (.ref l) (.ref b)) Q E s):uO prog w A s (.ref l) (.ref b):=λE Q hq=>by
 by_cases zH:l=b
 .subst zH;exact SeqAt.EqAt.same _ prog w E Q hq
 .unfold eqBool;refine ck (wpAny_ite_split (λe=>absurd (by have:=eq_of_beq e;injection this) zH) λ_=>?_);exact ag (h E _ (jt hq))
theorem Sz{a b:Addr}{xs ys:List (K×@aO)}{Q:@C}(ha:(a == cu)=false)(hb:(b == cu)=false)(da:s.heap.DictOfH knd a xs)(db:s.heap.DictOfH knd b ys)(room:knd.room A.in1)(hu:A.units<cLine)
  (hl:xs.length=ys.length) (hit:∀x∈xs,∃q,atKey ys x.1=some q/\uO prog w A.in1 s x.2.2 q.2) (h:Q (.bool false) s):wpAny @J A (cS .NotEq @r (.ref b)) Q E s:=by
 refine sf (op:=.NotEq) da.typeIs db.typeIs OJ (cV OJ da.typeIs PySem.F.entry_dict_ne ?_ (PySem.F.args_dict_ne_2 _ _)) hu;show wpAny _ _ (jZ "__ne__" ⟨[@S,.ref b],[]⟩ >>= _) _ _ s;unfold jZ;refine ag (ag (kH da.typeIs ?_));show wpAny _ _ (pure (dg a,dg b)) _ _ s;refine az (ag (iF (T:="dict") db.typeIs MO ?_));simp only[bg,au,if_false];refine ag (az (ag (az (ag (y7 ha hb da db room hl hit ?_)))));refine az ⟨_,rfl,?_,?_⟩
 .exact λx=>nomatch x
 .simpa using h
theorem SA{a b:Addr}{xs ys:List (K×@aO)}{Q:@C}(ha:(a == cu)=false)(hb:(b == cu)=false)(da:s.heap.DictOfH knd a xs)(db:s.heap.DictOfH knd b ys)(room:knd.room A.in1)(hu:A.units<cLine)
  (hl:xs.length=ys.length) (hit:∀x∈xs,∃q,atKey ys x.1=some q/\uO prog w A.in1 s x.2.2 q.2) (h:Q (.bool true) s):wpAny @J A (cS .Eq @r (.ref b)) Q E s:=by
 refine sf (op:=.Eq) da.typeIs db.typeIs OL (cV OL da.typeIs PySem.F.entry_dict_eq ?_ (PySem.F.args_dict_eq_2 _ _)) hu;show wpAny _ _ (jZ "__eq__" ⟨[@S,.ref b],[]⟩ >>= _) _ _ s;unfold jZ;refine ag (ag (kH da.typeIs ?_));show wpAny _ _ (pure (dg a,dg b)) _ _ s;refine az (ag (iF (T:="dict") db.typeIs MO ?_));simp only[bg,au,if_false];refine ag (az (ag (az (ag (y7 ha hb da db room hl hit ?_)))));refine az ⟨_,rfl,?_,?_⟩
 .exact λx=>nomatch x
 .simpa using h
end
open PySem PySem.Spec PyProof.Rows L2 PySem.W
section
variable {X:Cx}
theorem KI(I:@m)(ab:@aA)(hu:A.units<cLine)(rv:RelV v u)(ry:RelV y t)(dv:bW X.K H v (.fZ (aK l)))(dy:bW X.K H y (.fZ (aK m)))(e:uW l m=true):uO X.prog X.w A s u t:=by
 obtain⟨a,kv,vs,rfl,rs,z,hm,rel,dd⟩:=tU I ab dv rfl (jM l);obtain⟨b,kw,ws,rfl,Fq,z2,OZ,Gg,zJ⟩:=tU I ab dy rfl (jM m);cases rv;cases ry;rw[nU rs] at rel;rw[nU Fq] at Gg;obtain⟨ts,t1,rfl⟩:=qT rel;obtain⟨us,t2,rfl⟩:=qT Gg;refine KH λE Q hq=>PySem.W.keq_eq hm OZ dd zJ hu (λ_=>uG t2 t1) ?_;have:((((l.zip ts).map λq=>((.inl q.1.1:Key),eZ q.1.2 q.2)).length == ((m.zip us).map λq=>((.inl q.1.1:Key),eZ q.1.2 q.2)).length)&&l.all λp=>bL m p.1 == some p.2)=uW l m:=by
  unfold uW;simp[t1,t2]
 rw[this,e];exact hq
theorem GR(B)(k):oR (tS B) k=(bL B k).map λl=>D.fZ (aK l):=by
 unfold oR tS bL;rw[List.find?_map,xP,xP];rfl
theorem aa2(hu:@av)(I:@m)(ab:@aA)(pr:kz (P1 X.K H) xs (tS A))(pr':kz (P1 X.K H) ys (tS B))(al:Of A B=true):
  xs.length=ys.length/\∀x∈xs,∃q,atKey ys x.1=some q/\uO X.prog X.w X.A.in1 s x.2.2 q.2:=by
 unfold Of at al;rw[aJ] at al;have l1:=oP pr;have l2:=oP pr';have l3:A.length=B.length:=by simpa using al.1
 refine⟨by unfold tS at l1 l2;rw[ar] at l1 l2;lia,λx hx=>?_⟩;obtain⟨i,hi,rfl⟩:=List.getElem_of_mem hx;have Tg:i<(tS A).length:=@f
 have hi3:i<A.length:=by unfold tS at Tg;rwa[ar] at Tg
 obtain⟨e1,_,w,e3,e4⟩:=qf pr i hi Tg;have ea:(tS A)[i]=(A[i].1,D.fZ (aK A[i].2)):=by simp only[tS,gm]
 rw[ea] at e1 e4;have:=List.all_eq_true.mp al.2 A[i] (eW _);rw[e1];cases eb:bL B A[i].1 with
 |none=>rw[eb] at this;cases this
 |some m=>
  rw[eb] at this;rcases AP pr' A[i].1 with ⟨q1,v1,d1,h1,h2,h3,h4⟩ |⟨h1,h2⟩
  .rw[GR,eb] at h2;cases h2;exact⟨q1,h1,KI I ab (by show X.A.units+1<cLine;lia) e3 h3 e4 h4 this⟩
  .rw[GR,eb] at h2;cases h2
theorem Qu(hu:@av)(neg):ku X (cS (if neg then .NotEq else .Eq)) (Uc neg):=by
 ext g;obtain⟨A,B,rfl,rfl,al,q⟩:=q;cases dX with
 |kF hq rel rk rv=>
 cases dY with
 |kF Rx ada rk' rv'=>
 have pr:=vA rel rk rv;have pr':=vA ada rk' rv';obtain⟨hl,hit⟩:=aa2 hu I ab pr pr' al;have dd:=qb I.bP (I.bP _ _ hq).2.1 pr;have xn:=qb I.bP (I.bP _ _ Rx).2.1 pr';have n1:=(I.bP _ _ hq).2.1.2.1;have n2:=(I.bP _ _ Rx).2.1.2.1;cases rx;cases ry;cases neg with
 |false=>exact SA n1 n2 dd xn (tx @c) @c hl hit ⟨.bl _,H,.bl _,G,I,@V,rfl,.bl _,q⟩
 |true=>exact Sz n1 n2 dd xn (tx @c) @c hl hit ⟨.bl _,H,.bl _,G,I,@V,rfl,.bl _,q⟩
theorem U0(hu:@av):ku X (cS .NotEq) (Uc true):=Qu hu true
end
end K2
end
section
namespace HT
open PySem PyProof.Rows
open PySem.SeqAt
open PySem.AutoSeq1 (wpAny_loadPart')
open PySem.MeetsSeq PySem.MeetsSeq2 PySem.MeetsSeq3
theorem PL(A)(s)(a)(t)(c)(u)(prog)(w)(E)(Q)(h:Q (.bool (decide (c<a))) s):wpAny @J A (pE .Gt (.int a t) (.int c u)) Q E s :=
 (PyProof.Rows.gt_int h:wpAny @J A (cS .Gt (.int a t) (.int c u)) Q E s)
theorem Cj(l b)(items gZ)(n n2)(dd zJ)(sl zA)(ns ms)(hi:jT items.toList ns)(hj:jT gZ.toList ms):
  Meets (Builtin.«tuple.__gt__» ⟨[.ref l,.ref b],[]⟩) (λ_ R s=>s.heap.get? l=some {cls:=@ad,dict:=dd,data:=.seq items n,slots:=sl}/\@a2=some {cls:=@ad,dict:=zJ,data:=.seq gZ n2,slots:=zA}/\R (.ok (.ret (.bool (lexLt ms ns)))) s) :=
 .of_wp λprog w A R s h=>by
  obtain⟨hp,g,d,tk,os⟩:=s;obtain⟨hl,hb,h⟩:=h;have f2:=kK;have z1:=hi.length;have z2:=hj.length;rw[cT] at z1 z2
  wp_walk using bV hl,bV hb,iG _ (λrest b s'=>b.1=none/\s'=⟨hp,g,d,tk,os⟩/\∃(vs ws:@s) (xs ys:@u),rest=vs.zip ws/\jT vs xs/\jT ws ys/\xs.length+gZ.size=ys.length+items.size/\R (.ok (.ret (.bool (lexLt ys xs)))) ⟨hp,g,d,tk,os⟩) _
  case turn=>
   rintro⟨y,x⟩ rest b s' ⟨_,rfl,vs,ws,xs,ys,hz,h1,h2,hlen,hR⟩;cases h1 with
   |nil=>cases hz
   | cons a t h1=>
    cases h2 with
    |nil=>cases hz
    | cons c u h2=>
     cases hz;rw[Bc] at hR;simp only[aj] at hlen;obtain⟨e,he,RD⟩:=HC A.in1 ⟨hp,g,d,tk,os⟩ a t c u;refine ag (he prog w _ _ ?_);cases e with
     |true=>
      rw[if_pos (RD.mp rfl).symm] at hR
      wp_walk
      exact⟨rfl,rfl,_,_,_,_,rfl,h1,h2,@f,hR⟩
     |false=>
      rw[if_neg λq=>eS (RD.mpr q.symm)] at hR;have Ys:=PL A.in1 ⟨hp,g,d,tk,os⟩ a t c u prog w
      wp_walk using Ys
      exact⟨_,rfl,by simpa using hR⟩
  case fin=>
   rintro⟨b1,b2⟩ s' ⟨N7,rfl,vs,ws,xs,ys,hz,h1,h2,hlen,hR⟩;simp only at N7;subst N7;have hv:lexLt ys xs=decide (gZ.size<items.size):=by
    cases h1 with
    |nil=>cases h2 with
     |nil=>rw[vg];exact(decide_eq_false (by simp only[ax] at hlen;lia)).symm
     |cons c u h=>rw[tF];exact(decide_eq_false (by simp only[ax,aj] at hlen;lia)).symm
    |cons a t h=>cases h2 with
     |nil=>rw[tE];exact(decide_eq_true (by simp only[ax,aj] at hlen;lia)).symm
     |cons c u h=>cases hz
   rw[hv] at hR
   wp_walk
   exact⟨_,rfl,by simpa[k6] using hR⟩
  case h=>exact⟨rfl,rfl,items.toList,gZ.toList,ns,ms,rfl,hi,hj,@f,h⟩
theorem Kg{prog:bC}{w:World}{A:cH}{E:@C}{s:ay}{l b:Addr}{items gZ:@a6}{ns ms:@u}{Q:@C}(hl:IsTup s.heap l items)(hb:IsTup s.heap b gZ)(hi:jT items.toList ns)(hj:jT gZ.toList ms)
  (hu:A.units<cLine) (h:Q (.bool (lexLt ms ns)) s):wpAny @J A (cS .Gt (.ref l) (.ref b)) Q E s:=by
 obtain⟨⟨cls,dd,data,sl⟩,ho,hc,n,hd⟩:=id hl;obtain⟨⟨Ol,zJ,data2,zA⟩,Di,Cc,n2,hd2⟩:=id hb;cases hc;cases hd;cases Cc;cases hd2;exact oG (op:=.Gt) ⟨_,ho,rfl⟩ ⟨_,Di,rfl⟩ PySem.F.slot_tuple_gt PySem.F.entry_tuple_gt (PySem.F.args_tuple_gt_2 _ _) (Cj l b items gZ n n2 dd zJ sl zA ns ms hi hj) ⟨ho,Di,show K0 (lexLt ms ns)≠SY/\Q (.bool (lexLt ms ns)) s from⟨(λx=>nomatch x),h⟩⟩ hu
end HT
end
section
namespace K2
open PySem PySem.Spec PyProof.Rows L2 PySem.W
open Enc (enc)
section
variable {prog:bC} {w:World} {A:cH} {E:@C} {s:ay}
theorem max_two{a b:Value}{Q:@C}(hh:A.handled=none)(lt:Bool)
  (cmp:∀(h:Heap) (tk:Nat) (Q' E':@C),(∀b o,@T->@ap=@g)->Q' (.bool lt) {s with heap:=h,toks:=tk}->wpAny @J A.in1 (pE .Gt b a) Q' E' {s with heap:=h,toks:=tk})
  (fin:∀(h:Heap) (tk:Nat),(∀b o,@T->@ap=@g)->Q (if lt=true then b else a) {s with heap:=h,toks:=tk}):wpAny @J A (call (.builtin "max") [a,b]) Q E s:=by
 have nm:(toString "max"++toString ".loop":String)="max.loop":=@d
 refine call_function_tree F.kind_max F.plain_max F.entry_max (F.args_max2 _ _) ?_;show wpAny _ A.in1 (iS "max" ["key","default"] 0 ⟨[],[]⟩ >>= _) _ _ s;refine ag (O5 (show iS "max" ["key","default"] 0 ⟨[],[]⟩=pure [none,none] from rfl) ?_);show wpAny _ A.in1 (newTuple [a,b] >>= _) _ _ s;refine ag (cG ?_);generalize h1:s.heap.push {cls:=@ad,data:=.seq ([a,b]:@s).toArray}=H1;have k1:∀b o,@T->H1.get? b=@g:=λb o e=>by rw[<-h1];exact aF _ e
 have z1:H1.objs.size=@bq:=by rw[<-h1];exact nj ..
 have hT:H1.IsTuple s.heap.objs.size #[a,b]:=by rw[<-h1];exact⟨_,@au,rfl,0,rfl⟩
 refine ag (FE (s:={s with heap:=H1}) hT ?_);refine ag (cG ?_);have W:=Walks.tuple (prog:=prog) (w:=w) (A:=A.in1) hh H1.objs.size s.heap.objs.size (by rw[z1];exact br (vS _)) #[a,b];rw[nm];dsimp only;generalize h2:H1.push {cls:=.type "tuple_iterator",data:=.fields #[@as,.int 0 0]}=H2;have z2:H2.objs.size=H1.objs.size+1:=by rw[<-h2];exact nj ..
 have k2:∀b o,H1.get? b=@g->H2.get? b=@g:=λb o e=>by rw[<-h2];exact aF _ e
 have gI:H2.IsTupleIter H1.objs.size s.heap.objs.size 0:=by rw[<-h2];exact⟨_,@au,rfl,rfl⟩
 generalize h3:H2.push {cls:=@Q,data:=.seq ([]:@s).toArray}=H3;have k3:∀b o,H2.get? b=@g->H3.get? b=@g:=λb o e=>by rw[<-h3];exact aF _ e
 have gB:H3.get? H2.objs.size=some {cls:=@Q,dict:=none,data:=.seq #[] 0,slots:=#[]}:=by rw[<-h3];exact @au
 have old:∀b o,@T->b≠H1.objs.size/\b≠H2.objs.size:=λb o e=>⟨br (bu (aO e) @c),br (bu (aO e) @c)⟩;have nB:H2.objs.size≠H1.objs.size:=oz @c;have nT:s.heap.objs.size≠H2.objs.size:=br @c;have nBf:H2.objs.size∉[H1.objs.size,s.heap.objs.size]:=by simp only[bA,bN,or_false,not_or];exact⟨nB,dD nT⟩
 have Lg:=W.frame _ _ H3 ⟨gI,by obtain⟨o,e,r⟩:=hT;exact⟨o,k2 _ _ e,r⟩⟩ λb _ o e=>k3 b o e;have kk3:∀b o,@T->H3.get? b=@g:=λb o e=>k3 _ _ (k2 _ _ (k1 _ _ e));clear h1 h2 h3 k1 k2 k3 gI hT;refine az ⟨gK jX _,gU Jj ?_⟩;rw[fu jX _];show wpAny _ A.in1 (FG (.ref H2.objs.size) >>= _) _ _ _;refine ag (iX gB rfl ?_);show wpAny _ A.in1 (tryCatch (sk (.ref H1.objs.size)) _ >>= _) _ _ _;refine ag (j5 (W.item 0 _ _ _ (show 0<2 by decide) Lg λv h4 t4 pv TY kp=>?_));obtain rfl:a=v:=by simpa using pv
 have gB4:=kp _ _ (by simpa using nB) gB;have o4:∀b o,@T->h4.get? b=@g:=λb o e=>kp b o (by simpa using (old b o e).1) (kk3 b o e);show wpAny _ A.in1 (O8 H2.objs.size (λ_=>#[a,a]) >>= _) _ _ _;refine ag (jr gB4 rfl ?_);rw[nm];have o5:∀b o,@T->(h4.update H2.objs.size (dZ λ_=>#[a,a])).get? b=@g:=λb o e=>(bQ _ _ (dD (old b o e).2)).trans (o4 b o e);have Xh:=W.frame _ _ (h4.update H2.objs.size (dZ λ_=>#[a,a])) TY λb hb o e=>(bQ _ _ (λz:H2.objs.size=b=>nBf (by rw[z];exact hb))).trans e;have gB5:=eA (dZ λ_=>#[a,a]) gB4 rfl;refine az ⟨gK jX _,gU Jj ?_⟩;rw[fu jX _];show wpAny _ A.in1 (FG (.ref H2.objs.size) >>= _) _ _ _;refine ag (iX gB5 rfl ?_);show wpAny _ A.in1 (tryCatch (sk (.ref H1.objs.size)) _ >>= _) _ _ _;refine ag (j5 (W.item 1 _ _ _ (show 1<2 by decide) Xh λv h6 t6 pv IM kp=>?_));obtain rfl:b=v:=by simpa using pv
 have YT:=kp _ _ (by simpa using nB) gB5;have o6:∀b o,@T->h6.get? b=@g:=λb o e=>kp b o (by simpa using (old b o e).1) (o5 b o e);show wpAny _ A.in1 (tryCatch (qE [b,b] (pE .Gt b a >>= _)) _ >>= _) _ _ _;refine ag (j5 (ck (ag (cmp h6 t6 _ _ o6 ?_))));refine ag (ck (jt ?_));refine ag (jQ (az ?_));have last:∀(x:Value) (h7:Heap) (t7 c:Nat),(∀b o,@T->h7.get? b=@g)->h7.IsTupleIter H1.objs.size s.heap.objs.size 2/\h7.IsTuple s.heap.objs.size #[a,b]->h7.get? H2.objs.size=some {cls:=@Q,dict:=none,data:=.seq #[x,x] c,slots:=#[]} ->
   (∀(h:Heap) (tk:Nat),(∀b o,@T->@ap=@g)->Q x {s with heap:=h,toks:=tk}) ->
   xM @J A (.builtin "max.loop" ⟨[.ref H1.objs.size,.none,.ref H2.objs.size],[]⟩) (λr s'=>match r with
    |.ok (.ret v)=>Q v s'
    |.ok _=>False
    |.error e=>E e s') {s with heap:=h7,toks:=t7}:=λx h7 t7 c o7 st g7 f=>by
  refine gU Jj ?_;rw[fu jX _];show wpAny _ A.in1 (FG (.ref H2.objs.size) >>= _) _ _ _;refine ag (iX g7 rfl ?_);show wpAny _ A.in1 (tryCatch (sk (.ref H1.objs.size)) _ >>= _) _ _ _;refine ag (j5 (W.done _ _ _ st λh8 t8 kp=>?_));have g8:=kp _ _ (by simpa using nB) g7;show wpAny _ A.in1 (O8 H2.objs.size (λ_=>#[]) >>= _) _ _ _;refine ag (jr g8 rfl (ag (jQ (az ?_))));exact f _ _ λb o e=>(bQ _ _ (dD (old b o e).2)).trans (kp b o (by simpa using (old b o e).1) (o7 b o e))
 cases lt with
 |true=>
  simp only[if_true] at fin ⊢;refine ag (jr YT rfl (ag (jQ ?_)));rw[nm];refine az ⟨gK jX _,last b _ _ _ (λb o e=>(bQ _ _ (dD (old b o e).2)).trans (o6 b o e)) (W.frame _ _ _ IM λb hb o e=>(bQ _ _ (λz:H2.objs.size=b=>nBf (by rw[z];exact hb))).trans e) (eA _ YT rfl) fin⟩
 |false=>
  simp only[au,if_false] at fin ⊢;refine ag (jQ ?_);rw[nm];exact az ⟨gK jX _,last a _ _ _ o6 IM YT fin⟩
theorem min_two{a b:Value}{Q:@C}(hh:A.handled=none)(lt:Bool)
  (cmp:∀(h:Heap) (tk:Nat) (Q' E':@C),(∀b o,@T->@ap=@g)->Q' (.bool lt) {s with heap:=h,toks:=tk}->wpAny @J A.in1 (pE .Lt b a) Q' E' {s with heap:=h,toks:=tk})
  (fin:∀(h:Heap) (tk:Nat),(∀b o,@T->@ap=@g)->Q (if lt=true then b else a) {s with heap:=h,toks:=tk}):wpAny @J A (call (.builtin "min") [a,b]) Q E s:=by
 have nm:(toString "min"++toString ".loop":String)="min.loop":=@d
 refine call_function_tree F.kind_min F.plain_min F.entry_min (F.args_min2 _ _) ?_;show wpAny _ A.in1 (iS "min" ["key","default"] 0 ⟨[],[]⟩ >>= _) _ _ s;refine ag (O5 (show iS "min" ["key","default"] 0 ⟨[],[]⟩=pure [none,none] from rfl) ?_);show wpAny _ A.in1 (newTuple [a,b] >>= _) _ _ s;refine ag (cG ?_);generalize h1:s.heap.push {cls:=@ad,data:=.seq ([a,b]:@s).toArray}=H1;have k1:∀b o,@T->H1.get? b=@g:=λb o e=>by rw[<-h1];exact aF _ e
 have z1:H1.objs.size=@bq:=by rw[<-h1];exact nj ..
 have hT:H1.IsTuple s.heap.objs.size #[a,b]:=by rw[<-h1];exact⟨_,@au,rfl,0,rfl⟩
 refine ag (FE (s:={s with heap:=H1}) hT ?_);refine ag (cG ?_);have W:=Walks.tuple (prog:=prog) (w:=w) (A:=A.in1) hh H1.objs.size s.heap.objs.size (by rw[z1];exact br (vS _)) #[a,b];rw[nm];dsimp only;generalize h2:H1.push {cls:=.type "tuple_iterator",data:=.fields #[@as,.int 0 0]}=H2;have z2:H2.objs.size=H1.objs.size+1:=by rw[<-h2];exact nj ..
 have k2:∀b o,H1.get? b=@g->H2.get? b=@g:=λb o e=>by rw[<-h2];exact aF _ e
 have gI:H2.IsTupleIter H1.objs.size s.heap.objs.size 0:=by rw[<-h2];exact⟨_,@au,rfl,rfl⟩
 generalize h3:H2.push {cls:=@Q,data:=.seq ([]:@s).toArray}=H3;have k3:∀b o,H2.get? b=@g->H3.get? b=@g:=λb o e=>by rw[<-h3];exact aF _ e
 have gB:H3.get? H2.objs.size=some {cls:=@Q,dict:=none,data:=.seq #[] 0,slots:=#[]}:=by rw[<-h3];exact @au
 have old:∀b o,@T->b≠H1.objs.size/\b≠H2.objs.size:=λb o e=>⟨br (bu (aO e) @c),br (bu (aO e) @c)⟩;have nB:H2.objs.size≠H1.objs.size:=oz @c;have nT:s.heap.objs.size≠H2.objs.size:=br @c;have nBf:H2.objs.size∉[H1.objs.size,s.heap.objs.size]:=by simp only[bA,bN,or_false,not_or];exact⟨nB,dD nT⟩
 have Lg:=W.frame _ _ H3 ⟨gI,by obtain⟨o,e,r⟩:=hT;exact⟨o,k2 _ _ e,r⟩⟩ λb _ o e=>k3 b o e;have kk3:∀b o,@T->H3.get? b=@g:=λb o e=>k3 _ _ (k2 _ _ (k1 _ _ e));clear h1 h2 h3 k1 k2 k3 gI hT;refine az ⟨gK jW _,gU Ji ?_⟩;rw[fu jW _];show wpAny _ A.in1 (FG (.ref H2.objs.size) >>= _) _ _ _;refine ag (iX gB rfl ?_);show wpAny _ A.in1 (tryCatch (sk (.ref H1.objs.size)) _ >>= _) _ _ _;refine ag (j5 (W.item 0 _ _ _ (show 0<2 by decide) Lg λv h4 t4 pv TY kp=>?_));obtain rfl:a=v:=by simpa using pv
 have gB4:=kp _ _ (by simpa using nB) gB;have o4:∀b o,@T->h4.get? b=@g:=λb o e=>kp b o (by simpa using (old b o e).1) (kk3 b o e);show wpAny _ A.in1 (O8 H2.objs.size (λ_=>#[a,a]) >>= _) _ _ _;refine ag (jr gB4 rfl ?_);rw[nm];have o5:∀b o,@T->(h4.update H2.objs.size (dZ λ_=>#[a,a])).get? b=@g:=λb o e=>(bQ _ _ (dD (old b o e).2)).trans (o4 b o e);have Xh:=W.frame _ _ (h4.update H2.objs.size (dZ λ_=>#[a,a])) TY λb hb o e=>(bQ _ _ (λz:H2.objs.size=b=>nBf (by rw[z];exact hb))).trans e;have gB5:=eA (dZ λ_=>#[a,a]) gB4 rfl;refine az ⟨gK jW _,gU Ji ?_⟩;rw[fu jW _];show wpAny _ A.in1 (FG (.ref H2.objs.size) >>= _) _ _ _;refine ag (iX gB5 rfl ?_);show wpAny _ A.in1 (tryCatch (sk (.ref H1.objs.size)) _ >>= _) _ _ _;refine ag (j5 (W.item 1 _ _ _ (show 1<2 by decide) Xh λv h6 t6 pv IM kp=>?_));obtain rfl:b=v:=by simpa using pv
 have YT:=kp _ _ (by simpa using nB) gB5;have o6:∀b o,@T->h6.get? b=@g:=λb o e=>kp b o (by simpa using (old b o e).1) (o5 b o e);show wpAny _ A.in1 (tryCatch (qE [b,b] (pE .Lt b a >>= _)) _ >>= _) _ _ _;refine ag (j5 (ck (ag (cmp h6 t6 _ _ o6 ?_))));refine ag (ck (jt ?_));refine ag (jQ (az ?_));have last:∀(x:Value) (h7:Heap) (t7 c:Nat),(∀b o,@T->h7.get? b=@g)->h7.IsTupleIter H1.objs.size s.heap.objs.size 2/\h7.IsTuple s.heap.objs.size #[a,b]->h7.get? H2.objs.size=some {cls:=@Q,dict:=none,data:=.seq #[x,x] c,slots:=#[]} ->
   (∀(h:Heap) (tk:Nat),(∀b o,@T->@ap=@g)->Q x {s with heap:=h,toks:=tk}) ->
   xM @J A (.builtin "min.loop" ⟨[.ref H1.objs.size,.none,.ref H2.objs.size],[]⟩) (λr s'=>match r with
    |.ok (.ret v)=>Q v s'
    |.ok _=>False
    |.error e=>E e s') {s with heap:=h7,toks:=t7}:=λx h7 t7 c o7 st g7 f=>by
  refine gU Ji ?_;rw[fu jW _];show wpAny _ A.in1 (FG (.ref H2.objs.size) >>= _) _ _ _;refine ag (iX g7 rfl ?_);show wpAny _ A.in1 (tryCatch (sk (.ref H1.objs.size)) _ >>= _) _ _ _;refine ag (j5 (W.done _ _ _ st λh8 t8 kp=>?_));have g8:=kp _ _ (by simpa using nB) g7;show wpAny _ A.in1 (O8 H2.objs.size (λ_=>#[]) >>= _) _ _ _;refine ag (jr g8 rfl (ag (jQ (az ?_))));exact f _ _ λb o e=>(bQ _ _ (dD (old b o e).2)).trans (kp b o (by simpa using (old b o e).1) (o7 b o e))
 cases lt with
 |true=>
  simp only[if_true] at fin ⊢;refine ag (jr YT rfl (ag (jQ ?_)));rw[nm];refine az ⟨gK jW _,last b _ _ _ (λb o e=>(bQ _ _ (dD (old b o e).2)).trans (o6 b o e)) (W.frame _ _ _ IM λb hb o e=>(bQ _ _ (λz:H2.objs.size=b=>nBf (by rw[z];exact hb))).trans e) (eA _ YT rfl) fin⟩
 |false=>
  simp only[au,if_false] at fin ⊢;refine ag (jQ ?_);rw[nm];exact az ⟨gK jW _,last a _ _ _ o6 IM YT fin⟩
end
section
variable {X:Cx}
theorem aaD(s t:T3):HT.lexLt s.l t.l=bq.lt s t:=rfl
theorem Mw(I:@m){t:T3}(r:bW X.K H v (enc t))(ru:RelV v u):∃a bT o,u=@S/\jT bT t.l/\s.heap.get? a=@g/\∀h:Heap,@ak=@g->IsTup h a bT.toArray:=by
 have r:bW X.K H v (.tup ([t.a,t.b,t.c].map D.int)):=r;cases r with
 |tup h rs=>
  cases ru;have z:=rs.ints;subst z;obtain⟨bT,rv,⟨o,ho,hc,n,hd⟩,_⟩:=I.tuple (.of h);exact⟨_,bT,o,rfl,intsAre_of rv,ho,λh e=>⟨o,e,hc,n,hd⟩⟩
theorem Kz (hc:@aI) (hu:@av):ky X (.builtin "min") Ms:=by
 intro pins s σ H G xs ds us Q I ab rx rd q;obtain⟨a,b,rfl,q⟩:=q;obtain⟨w1,w2,rfl,wg,F9⟩:=rd.two;obtain⟨u1,u2,rfl,Co,D6⟩:=vals2 rx;obtain⟨l1,Vo,o1,rfl,i1,g1,p1⟩:=Mw I wg Co;obtain⟨l2,vE,o2,rfl,i2,g2,p2⟩:=Mw I F9 D6;refine min_two (I.ok.hd hc) (bq.lt b a) (λh tk Q' E' k hq=>?_) λh tk k=>?_
 .exact(HT.A6 (p2 _ (k _ _ g2)) (p1 _ (k _ _ g1)) (by simpa using i2) (by simpa using i1) (show X.A.units+1<cLine by lia) (by rw[aaD];exact hq):wpAny @o X.A.in1 (cS .Lt _ _) Q' E' _)
 .have I2:=I.kept (t':=tk) k;cases c:bq.lt b a with
  |true=>rw[c] at q;exact⟨w2,H,_,G,I2,@V,D6,F9,q⟩
  |false=>rw[c] at q;exact⟨w1,H,_,G,I2,@V,Co,wg,q⟩
theorem KC (hc:@aI) (hu:@av):ky X (.builtin "max") Mt:=by
 intro pins s σ H G xs ds us Q I ab rx rd q;obtain⟨a,b,rfl,q⟩:=q;obtain⟨w1,w2,rfl,wg,F9⟩:=rd.two;obtain⟨u1,u2,rfl,Co,D6⟩:=vals2 rx;obtain⟨l1,Vo,o1,rfl,i1,g1,p1⟩:=Mw I wg Co;obtain⟨l2,vE,o2,rfl,i2,g2,p2⟩:=Mw I F9 D6;refine max_two (I.ok.hd hc) (bq.lt a b) (λh tk Q' E' k hq=>?_) λh tk k=>?_
 .exact(HT.Kg (p2 _ (k _ _ g2)) (p1 _ (k _ _ g1)) (by simpa using i2) (by simpa using i1) (show X.A.units+1<cLine by lia) (by rw[aaD];exact hq):wpAny @o X.A.in1 (cS .Gt _ _) Q' E' _)
 .have I2:=I.kept (t':=tk) k;cases c:bq.lt a b with
  |true=>rw[c] at q;exact⟨w2,H,_,G,I2,@V,D6,F9,q⟩
  |false=>rw[c] at q;exact⟨w1,H,_,G,I2,@V,Co,wg,q⟩
end
end K2
end
section
namespace K2
open PySem PySem.W PySem.Spec PyProof.Rows PySem.Calls
structure At(K:Frag)(x:Str)(st:Stmt)(f:Addr)(fd:fV):Prop where
 a:nsIn K bK x=some (some (.ref f))
 F:L2.Ts K x x st f fd
theorem WT{K:Frag}{st:Stmt}(a:autoParam (nsIn K bK x=some (some (.ref f))) Aq._auto_1)(l:autoParam (K.lookup f=some ⟨oc,od,.func (fnOf x x (L2.jg st) (L2.fk st) (L2.cf st) .none kV doc pm an ib ct),LD⟩) Aq._auto_1)
  (c:autoParam (codeIn K ib x=true) Aq._auto_1) (k:autoParam (keepIn K (.ref f)=true) Aq._auto_1):At K x st f (fnOf x x (L2.jg st) (L2.fk st) (L2.cf st) .none kV doc pm an ib ct):=⟨a,L2.YU l c k⟩
structure Cal(P:bC)(w:World)(K:Frag)(mg:@aK)(base:Heap)(CX:L2.MI)(k:Nat)(f:Addr)(fd:fV)(x:Str)(ps:@y)(sp:L2.Sp):Prop where
 ok:L2.rX P w K mg base CX k f fd ps sp
 mg:mg x=some (.ref f)
 kp:keepIn K (.ref f)=true
 bi:L2.Binds K fd ps []
end K2
end
section
namespace K2
open PySem PySem.W PySem.Spec PyProof.Rows L2
structure IU where
 P:bC
 w:World
 K:Frag
 mg:@aK
 base:Heap
inductive Cf (V:IU):Prop
 |mk {h:Heap}:V.K.In h->h.Ns bK V.mg->Cf V
theorem Cf.mg{V:IU}(Y:Cf V)(a:nsIn V.K bK x=some (@Y)):V.mg x=@Y:=by obtain⟨X,G⟩:=Y;exact mg_of X G a
theorem Cf.no{V:IU}(Y:Cf V)(a:nsIn V.K bK x=some none):V.mg x=none:=by obtain⟨X,G⟩:=Y;exact mg_none_of X G a
inductive ClZ (V:IU) (CX:MI) (k:Nat) (x:Str) (ps:@y) (sp:Sp):Prop
 |mk {f:Addr} {fd:fV}:Cal V.P V.w V.K V.mg V.base CX k f fd x ps sp->ClZ V CX k x ps sp
abbrev pC(V:IU)(k:Nat)(x:Str)(ps:@y)(sp:jl):Prop:=ClZ V MJ k x ps (D3 V.K sp)
abbrev ZL(V:IU)(k:Nat)(x:Str)(ps:@y)(sp:jl):Prop:=ClZ V (O2 V.P V.w) k x ps (CQ V.K V.mg sp)
inductive oE (K:Frag) (x:Str) (st:Stmt):Prop
 |mk {f:Addr} {fd:fV}:At K x st f fd->oE K x st
theorem e9{K:Frag}{st:Stmt}{kV:Value}(a:autoParam (nsIn K bK x=some (some (.ref f))) Aq._auto_1)(l:autoParam (K.lookup f=some ⟨oc,od,.func (fnOf x x (L2.jg st) (L2.fk st) (L2.cf st) .none kV doc pm an ib ct),LD⟩) Aq._auto_1)
  (c:autoParam (codeIn K ib x=true) Aq._auto_1) (k:autoParam (keepIn K (.ref f)=true) Aq._auto_1):oE K x st:=⟨WT a l c k⟩
theorem fo3{V:IU}{x:Str}{st:Stmt}{ps:@y}{k:Nat}{sp:jl}{rd:gj}(Nn:@y)(Y:Cf V)(F:oE V.K x st)
  (hr:∀ds G Q,sp ds G Q (@j)->rd (@j) @N (aY Nn.length ds) G)
  (hb:∀{f:Addr} {ib:Value} {A:cH} {outer:@aG} {s:ay} {H:Hp} {E:XK},j4 k (A.deeper (zY x (cf st) s.heap.objs.size f ib))->Nn.Nodup->mO (xq MJ V.P V.w V.K V.mg V.base Nn x (cf st) f ib A outer s H E).X8 (fk st) rd)
  (S:autoParam (kb Nn ps (cf st)) Aub._auto_1)
  (bn:autoParam (∀(kV doc pm:Value) (an:Option Addr) (ib ct:Value) (us:@s),us.length=ps.length->OI (fnOf x x (jg st) (fk st) (cf st) .none kV doc pm an ib ct) ⟨us,[]⟩=pure (ps.zip us)) Auc._auto_1)
  (len:autoParam (∀ds G Q E,sp ds G Q E->ds.length=ps.length) Aud._auto_1):pC V (k+1) x ps sp:=by
 obtain⟨z⟩:=F;exact⟨⟨Mc z.F S len hr λ_ _ _ _ _ _ r=>hb r S.nd,Y.mg z.a,z.F.kp,z.F.binds bn⟩⟩
theorem foE{V:IU}{x:Str}{st:Stmt}{ps:@y}{k:Nat}{sp:jl}{rd:gj}(Nn:@y)(Y:Cf V)(F:oE V.K x st)
  (hr:∀ds G Q E,sp ds G Q E->rd E @N (aY Nn.length ds) G)
  (hb:∀{f:Addr} {ib:Value} {A:cH} {outer:@aG} {s:ay} {H:Hp} {E:XK},j4 k (A.deeper (zY x (cf st) s.heap.objs.size f ib))->Nn.Nodup->mO (xq (O2 V.P V.w) V.P V.w V.K V.mg V.base Nn x (cf st) f ib A outer s H E) (fk st) rd)
  (S:autoParam (kb Nn ps (cf st)) Aub._auto_1)
  (bn:autoParam (∀(kV doc pm:Value) (an:Option Addr) (ib ct:Value) (us:@s),us.length=ps.length->OI (fnOf x x (jg st) (fk st) (cf st) .none kV doc pm an ib ct) ⟨us,[]⟩=pure (ps.zip us)) Auc._auto_1)
  (len:autoParam (∀ds G Q E,sp ds G Q E->ds.length=ps.length) Aud._auto_1):ZL V (k+1) x ps sp:=by
 obtain⟨z⟩:=F;exact⟨⟨Vz z.F S len hr λ_ _ _ _ _ _ r=>hb r S.nd,Y.mg z.a,z.F.kp,z.F.binds bn⟩⟩
structure XCK(K:Frag)(x:Str)(C:Addr):Prop where
 ns:nsIn K bK x=some (some @R)
 ex:excIn K C [.type "ValueError",.type "Exception",@bj,.type "object"] "ValueError.__new__"=true
 xi:MG K C
theorem qJ {K:Frag}   (ns:autoParam (nsIn K bK x=some (some @R)) Aq._auto_1) (ex:autoParam (excIn K C [.type "ValueError",.type "Exception",@bj,.type "object"] "ValueError.__new__"=true) Ax._auto_1)
  (x0:autoParam (Pa K @R "__getattribute__"=some (some (.builtin "BaseException.__getattribute__"))) Af._auto_1) (x1:autoParam (Pa K @R "__getattr__"=some none) Af._auto_1) (x2:autoParam (Pa K @R "__class__"=some (some @bm)) Af._auto_1)
  (x3:autoParam (specialIn K @bm "__get__"=some (some (@bv))) Af._auto_1) (x4:autoParam (takesIn K @bm=some true) Af._auto_1) (x5:autoParam (mroIn K C (.type "object")=some true) Af._auto_1) (x6:autoParam (mroIn K C (@bj)=some true) Af._auto_1) (x7:autoParam ((clsIn K C).isSome=true) Af._auto_1):XCK K x C:=⟨ns,ex,⟨x0,x1,x2,x3,x4,x5,x6,x7⟩⟩
theorem Z3{K:Frag}{D:Value}(l:autoParam (K.lookup C=some ⟨oc,od,.cls cd,sl⟩) Aq._auto_1)(m:autoParam (cd.mro.contains D=true) Ae._auto_1):subIn K C D=true:=by unfold subIn;rw[l];exact m
abbrev Kn0 (K:Frag) (C:Addr):Prop:=kitOne K (.type "NoneType") @R=some false
end K2
end
section
namespace K2
open PySem PySem.Spec PyProof.Rows L2
theorem VA{K:aq}(h:∀vs H Q E,Z1 vs H Q E->sp vs H Q E)(F:rX P w K mg base CX k f fd ps sp):rX P w K mg base CX k f fd ps Z1 where
 len:=λvs H Q E q=>F.len vs H Q E (h _ _ _ _ q)
 run:=λA st s H args us vs Q E a b c d q=>F.run A st s H args us vs Q E a b c d (h _ _ _ _ q)
theorem Sd{V:IU}(h:∀ds G Q E,Z1 ds G Q E->sp ds G Q E)(c:pC V k x ps sp):pC V k x ps Z1:=by
 obtain⟨c⟩:=c;exact⟨⟨VA (λvs H Q E q=>by obtain⟨ds,G,Q2,r,ab,q,k⟩:=q;exact⟨ds,G,Q2,r,ab,h _ _ _ _ q,k⟩) c.ok,c.mg,c.kp,c.bi⟩⟩
end K2
end
section
namespace K2
open PySem PySem.W PySem.Spec PyProof.Rows L2
noncomputable def W5(sc:Scope)(x:Str):Bool:=match @bo with
 |some .local=>true
 |some .cell=>true
 |some .free=>true
 |_=>false
noncomputable def Vk(sc:Scope)(x:Str):Bool:=match @bo with
 |some .local=>true
 |some .cell=>true
 |_=>false
theorem W4(h:W5 sc x=true):Vis sc x:=by
 unfold W5 at h;split at h
 .exact .inl (by assumption)
 .exact .inr (.inl (by assumption))
 .exact .inr (.inr (by assumption))
 .cases h
theorem QR(h:Vk sc x=true):Loc sc x:=by
 unfold Vk at h;split at h
 .exact .inl (by assumption)
 .exact .inr (by assumption)
 .cases h
theorem IS(h:autoParam (X.env.kindOf x=some .globalImplicit) Ac._auto_1):Gl X x:=h
noncomputable def okN (x:Str):Bool:=!(x == ("__debug__":Str))&&!(x == ("__classdict__":Str))
theorem okN.d  (h:okN x=true):(x == ("__debug__":Str))=false:=by unfold okN at h;simp only[aJ,kA] at h;exact h.1
theorem okN.c  (h:okN x=true):(x == ("__classdict__":Str))=false:=by unfold okN at h;simp only[aJ,kA] at h;exact h.2
section
variable {X:Cx} {x:Str} {i:Nat} {pos pos':Pos} {e:Expr} {te:fB} {es:@az} {t:Cd}
theorem pvK(hN:autoParam (X.N[i]?=some x) Ac._auto_1)(hv:autoParam (W5 X.env.scope x=true) Ac._auto_1)(hd:autoParam (okN x=true) Ac._auto_1):dE X (.Name x pos) (ak i):=UC hN (W4 hv) (okN.d hd) (okN.c hd)
theorem pgK(hN:X.N.Nodup)(hi:autoParam (X.N[i]?=some x) Ac._auto_1)(hx:autoParam (Vk X.env.scope x=true) Ac._auto_1)(hf:autoParam ((X.fn x||@bs == @aH)=true) Ac._auto_1):yz X (.Name x pos) (aE i) :=
 Qd hN hi (QR hx) (by rcases(iT _ _).mp hf with h |h;exact .inl h;exact .inr (eq_of_beq h))
theorem psK(hN:X.N.Nodup)(he:dE X e te)(hi:autoParam (X.N[i]?=some x) Ac._auto_1)(hx:autoParam (Vk X.env.scope x=true) Ac._auto_1)(hs:autoParam (ng e (some (.Name x pos')) pos.line X.env=pure false) Ac._auto_1)(hf:autoParam ((X.fn x||@bs == @aH)=true) Ac._auto_1):
  uX X (.Assign [.Name x pos'] e pos) (aQ te (aE i)):=Uk hN hi (QR hx) he hs (by rcases(iT _ _).mp hf with h |h;exact .inl h;exact .inr (eq_of_beq h))
theorem paK(ha:dE X e te)(hr:xx X es t)(hs:autoParam @bk Ac._auto_1):xx X (e::es) (ao te t):=tm ha hr hs
end
def MD(K:Frag)(l:@y):Prop:=∀x∈l,nsIn K bK x=some none
theorem Va{K:Frag}:MD K []:=λx h=>by cases h
theorem Qy{K:Frag}(t:MD K l)(h:autoParam (nsIn K bK x=some none) Aq._auto_1):MD K (x::l):=λy hy=>by
 rcases List.mem_cons.mp hy with rfl |hy
 .exact h
 .exact t y hy
structure NmZ(X:Cx)(N:@y)(sc:Scope):Prop where
 n:X.N=N
 s:X.env.scope=sc
noncomputable def nmE:Expr->Str
 |.Name x _=>x
 |_=>""
def DE(tg:Expr)(XN:@y)(fr:List Nat):@y:=(match tg with
 |.Tuple es _ _=>es.map nmE
 |e=>[nmE e])++fr.map λi=>XN.getD i ""
noncomputable abbrev VX(X:Cx):IU:=⟨X.prog,X.w,X.K,X.mg,X.base⟩
section
variable {X:Cx} {l XN:@y} {x:Str} {sc scope:Scope} {tg elt iter:Expr} {ifs:@az} {pos:Pos} {m:Nat} {fr:List Nat} {wi:Fx} {g:y8} {c:Option yy} {te:fB}
theorem noX(Y:Cf (VX X))(N:MD X.K l)(h:autoParam (x∈l) Ad._auto_1):X.mg x=none:=Y.no (N x h)
theorem XU(hx:NmZ X XN sc)(hi:xJ X tg iter wi)(hg:(DE tg XN fr).Nodup->∀C s H fp,yz (cc X (DE tg XN fr) scope C s H fp) tg g)(Hm:∀C s H fp,O1 (cc X (DE tg XN fr) scope C s H fp) ifs c)(he:∀C s H fp,dE (cc X (DE tg XN fr) scope C s H fp) elt te)
  (hn:autoParam ((DE tg XN fr).Nodup) Ak._auto_1) (hb:autoParam (rq (DE tg XN fr) scope m fr sc XN=true) Ak._auto_1) (hc:autoParam (@aI) Ac._auto_1) (hs:autoParam (∀x,eQ iter X.env x=pure x) ZM._auto_1):dE X @a7 (gO m fr wi g c te) :=
 Ql (DE tg XN fr) hi (hg hn) Hm he hx.s hx.n hb hc hs
theorem Xz(hx:NmZ X XN sc)(hN:X.N.Nodup)(hi:xJ X tg iter wi)(hg:(DE tg XN fr).Nodup->∀C s H fp,yz (cc X (DE tg XN fr) scope C s H fp) tg g)(Hm:∀C s H fp,O1 (cc X (DE tg XN fr) scope C s H fp) ifs c)(he:∀C s H fp,dE (cc X (DE tg XN fr) scope C s H fp) elt te)
  (Vp:autoParam (X.N[i]?=some y) Ac._auto_1) (hy:autoParam (X.env.scope.names.lookup y=@aH) Ac._auto_1) (hn:autoParam ((DE tg XN fr).Nodup) Ak._auto_1) (hb:autoParam (rq (DE tg XN fr) scope m fr sc XN=true) Ak._auto_1) (hc:autoParam (@aI) Ac._auto_1)
  (Vq:autoParam (ng @a7 (some (@ae)) wc.line X.env=pure true) Ar._auto_1) (hs:autoParam (∀x,eQ iter X.env x=pure x) ZM._auto_1):
  uX X (.Assign [@ae] @a7 wc) (aQ (gO m fr wi g c te) (aE i)) :=
 PV (DE tg XN fr) hN Vp hy hi (hg hn) Hm he hx.s hx.n hb hc Vq hs
end
def CsZ(K:Frag)(x:Str)(i:Int):Prop:=∃t:Tok,nsIn K bK x=some (some (.int i t))
theorem Se{K:Frag}(h:autoParam (nsIn K bK x=some (some (.int i t))) Aq._auto_1):CsZ K x i:=⟨t,h⟩
def GdZ(K:Frag)(x:Str)(l:@aC):Prop:=∃a:Addr,nsIn K bK x=some (some @r)/\(a == cu)=false/\HG K a l=true
theorem YS{K:Frag}(h:autoParam (nsIn K bK x=some (some @r)) Aq._auto_1)(h1:autoParam ((a == cu)=false) Ae._auto_1)(h2:autoParam (HG K a l=true) Af._auto_1):GdZ K x l:=⟨a,h,h1,h2⟩
section
variable {X:Cx} {x:Str} {p px pos:Pos}
theorem UQ  (Y:Cf (VX X)) (c:CsZ X.K x i) (hg:autoParam (Gl X x) O3._auto_1) (hd:@a1):dE X (.Name x p) (dC (@A)):=by
 obtain⟨t,h⟩:=c;exact UP hg (Y.mg h) hd
theorem UO   (Y:Cf (VX X)) (N:MD X.K l) (c:GdZ X.K x kv) (h:autoParam (("dict":Str)∈l) Ad._auto_1) (nd:autoParam ((kv.map @k).Nodup) Ad._auto_1) (hz:autoParam (kv.length<=1000) Ad._auto_1) (hg:autoParam (Gl X "dict") O3._auto_1) (Vu:autoParam (Gl X x) O3._auto_1) (pO:@a1)
  (hs:autoParam (aZ [.Name x px] X.env=[(false,eval (.Name x px) X.env)]) Ac._auto_1):dE X (.Call (.Name "dict" p) [.Name x px] [] pos) (yZ kv):=by
 obtain⟨a,h1,h2,h3⟩:=c;exact Nq hg (Y.no (N _ h)) Vu (Y.mg h1) h2 h3 nd hz pO hs
end
section
variable {X:Cx} {e:Expr} {es:@az} {t:Cd} {pos p:Pos} {x:Str} {k n:Nat} {ps:@y} {sp:jl}
theorem adl (c:ZL (VX X) k x ps sp) (hr:j4 n X.A) (ha:xx X (e::es) t) (hk:autoParam (k<=n) An._auto_1) (hg:autoParam (Gl X x) O3._auto_1) (pO:@a1) (he:autoParam @bk Ac._auto_1) (qA:autoParam ((ik pos @aX).any @k=false) Ac._auto_1):
  dE X (.Call (.Name x p) (e::es) [] pos) (yt sp t):=by
 obtain⟨c⟩:=c;exact Nu c.ok (hr.mono hk) hg c.mg c.kp c.bi ha pO he qA
theorem adm(c:pC (VX X) k x ps sp)(hr:j4 n X.A)(ha:xx X (e::es) t)(hk:autoParam (Nat.ble k n=true) Ac._auto_1)(hg:autoParam (Gl X x) O3._auto_1)(pO:autoParam (okN x=true) Ac._auto_1)(he:autoParam @bk Ac._auto_1)(qA:autoParam ((ik pos @aX).any @k=false) Ac._auto_1):
  dE X (.Call (.Name x p) (e::es) [] pos) (bb sp t):=by
 obtain⟨c⟩:=c;exact Qm c.ok (hr.mono (Tx hk)) hg c.mg c.kp c.bi ha (okN.d pO) he qA
end
def XcZ(K:Frag)(x:Str):Prop:=∃C:Addr,XCK K x C
theorem W0{K:Frag}(h:autoParam (XCK K x C) Aug._auto_1):XcZ K x:=⟨C,h⟩
theorem Em{p:Str->Prop}:∀c,([]:@y).contains c=true->p c:=λc h=>by cases h
theorem mem_cons{p:Str->Prop}(t:∀c,l.contains c=true->p c)(h:p x):∀c,(x::l).contains c=true->p c:=Si h t
def CtZ(K:Frag)(cn:Str)(cat:@y):Prop:=∃D:Addr,XCK K cn D/\∀c,cat.contains c=true->∃C:Addr,XCK K c C/\subIn K C (.ref D)=true
def IoZ(K:Frag)(y:Str)(all sub:@y):Prop:=∃C:Addr,nsIn K bK y=some (some @R)/\Kn0 K C/\∀c,all.contains c=true->∃C':Addr,nsIn K bK c=some (some (.ref C'))/\kitOne K (.ref C') @R=some (sub.contains c)/\MG K C'
section
variable {X:Cx} {x cn n y:Str} {ps:@y} {k i j m:Nat} {sp:jl} {cat all sub l:@y} {e e0 a:Expr} {es:@az} {p np pos jE ep NY tp py:Pos} {Lg:Stmt} {u5:List Stmt} {t:Cd} {th:gj} {ta:fB}
theorem XA (Y:Cf (VX X)) (z:XcZ X.K x) (ha:xx X (e0::es) t) (hg:autoParam (Gl X x) O3._auto_1) (hc:autoParam (@aI) Ac._auto_1) (pO:@a1) (he:autoParam (aZ (e0::es) X.env=(false,eval e0 X.env)::aZ es X.env) Ac._auto_1) (qA:autoParam ((ik jE @aX).any @k=false) Ac._auto_1):
  uX X (.Raise (some (.Call (.Name x np) (e0::es) [] jE)) none pos) (yr x t):=by
 obtain⟨C,z⟩:=z;exact Ng hg (Y.mg z.ns) z.ex PySem.F.excBase_ValueError hc ha pO he qA
theorem CtZ.el{q:Prop}(Y:Cf (VX X))(z:CtZ X.K cn cat)(hN:X.N.Nodup)(h1:X.N[i]?=some n)(h2:X.env.scope.names.lookup n=@aH)(h3:Gl X cn)(k:∀D,Clause X i n cn D cat->q):q:=by
 obtain⟨D,d,z⟩:=z;exact k D ⟨hN,h1,h2,h3,Y.mg d.ns,⟨_,_,.inl d.ex,rfl⟩,λc hc=>let ⟨C,x,s⟩:=z c hc;⟨C,_,_,x.ns,.inl x.ex,s⟩⟩
theorem Xy(Y:Cf (VX X))(z:CtZ X.K cn cat)(hN:X.N.Nodup)(c:ZL (VX X) k x ps sp)(hr:j4 m X.A)(ha:∀EX,xx (X.vt EX) (e::es) t)(Yq:∀v,mO (marked X v) (Lg::u5) th)(hk:autoParam (k<=m) An._auto_1)(hg:autoParam (Gl X x) O3._auto_1)(h1:autoParam (X.N[i]?=some n) Ac._auto_1)(h2:autoParam (X.env.scope.names.lookup n=@aH) Ac._auto_1)(h3:autoParam (Gl X cn) O3._auto_1)(A0:autoParam (ze X) Auh._auto_1)
  (pO:@a1) (YE:autoParam ((cn == ("__debug__":Str))=false) Ad._auto_1) (he:autoParam @bk Ac._auto_1) (qA:autoParam ((ik pos @aX).any @k=false) Ac._auto_1)
  (hs:autoParam (ng (.Call (.Name x p) (e::es) [] pos) none ep.line X.env=pure false) Ac._auto_1):
  uX X (.Try [.Expr (.Call (.Name x p) (e::es) [] pos) ep] [.ExceptHandler (some (.Name cn np)) (some n) (Lg::u5) NY] [] [] tp) (DC sp t i cat th):=by
 obtain⟨c⟩:=c;exact z.el Y hN h1 h2 h3 λD L=>Uj A0 L c.ok (hr.mono hk) hg c.mg c.kp c.bi ha Yq pO YE he qA hs
theorem UK (Y:Cf (VX X)) (N:MD X.K l) (z:IoZ X.K y all sub) (ha:dE X a ta) (h:autoParam (("isinstance":Str)∈l) Ad._auto_1) (hg:autoParam (Gl X "isinstance") O3._auto_1) (YA:autoParam (Gl X y) O3._auto_1) (pO:autoParam ((y == ("__debug__":Str))=false) Ad._auto_1)
  (he:autoParam (aZ [a,@ae] X.env=(false,eval a X.env)::aZ [@ae] X.env) Ac._auto_1) (qA:autoParam ((ik pos (aZ [S5 y py] X.env)).any @k=false) Ac._auto_1) (N6:autoParam (aZ [@ae] X.env=[(false,eval (@ae) X.env)]) Ac._auto_1):
  dE X (.Call (.Name "isinstance" p) [a,@ae] [] pos) (BI all sub ta):=by
 obtain⟨C,h1,h2,h3⟩:=z;exact Qh PySem.F.attrBase_ValueError hg (Y.no (N _ h)) YA (Y.mg h1) h2 h3 ha pO he qA N6
end
section
variable {X:Cx} {x name id T:_root_.String} {l:@y} {y:Str} {a b o e c:Expr} {es:@az} {ta tb to te:fB} {t:Cd} {p pos apos jE Aj:Pos} {r:@e->Gp->DK->Prop} {tg iter:Expr} {body:List Stmt} {wi:Fx} {g:y8} {u:gj}
theorem pbK (hc:ky X (.builtin id) r) (hv:df y=some (.builtin id)) (Y:Cf (VX X)) (N:MD X.K l) (ha:xx X (e::es) t) (h:autoParam (y∈l) Ad._auto_1) (hg:autoParam (Gl X y) O3._auto_1) (hn:autoParam (y≠"__name__") Ad._auto_1) (pO:autoParam (okN y=true) Ac._auto_1)
  (he:autoParam @bk Ac._auto_1) (qA:autoParam ((ik pos @aX).any @k=false) Ac._auto_1):dE X (.Call (.Name y p) (e::es) [] pos) (jJ r t):=Nv hc hg (Y.no (N _ h)) hv ha hn (okN.d pO) he qA
theorem ptK (hc:ky X (.type T) r) (hv:df y=some (.type T)) (Y:Cf (VX X)) (N:MD X.K l) (ha:xx X (e::es) t) (h:autoParam (y∈l) Ad._auto_1) (hg:autoParam (Gl X y) O3._auto_1) (hn:autoParam (y≠"__name__") Ad._auto_1) (pO:autoParam (okN y=true) Ac._auto_1)
  (he:autoParam @bk Ac._auto_1) (qA:autoParam ((ik pos @aX).any @k=false) Ac._auto_1):dE X (.Call (.Name y p) (e::es) [] pos) (jJ r t):=JM hc hg (Y.no (N _ h)) hv ha hn (okN.d pO) he qA
theorem pmK {name:Str}  {r:D->@e->Gp->DK->Prop} (pa:PlainAttrs T) (slot:Slot T name id) (hty:typeOf (.builtin id)=pure (.type "method_descriptor")) (ht:SD X T ty) (hm:KR X id r) (ho:dE X o to) (ha:xx X (e::es) t)
  (tI:autoParam (xN o name X.env (eval o X.env)=eval o X.env) Ac._auto_1)
  (YC:autoParam (((ik jE (aZ (e::es) X.env)).all (λx=>!x.1)&&(backToKw jE (keywordEach [] X.env)).all (λx=>x.1.isSome)
   && decide ((e::es).length+([]:List Keyword).length+(if([]:List Keyword).isEmpty then 0 else 1)<30))=true) Ac._auto_1)
  (w9:autoParam ((apos.endLine == jE.line)=true) Ac._auto_1) (hs:autoParam @bk Ac._auto_1) (Kc:autoParam ((ik jE @aX).any @k=false) Ac._auto_1):
  dE X (.Call (.Attribute o name apos) (e::es) [] jE) (oY ty r to t):=XW pa slot hty ht hm ho ha tI YC w9 hs Kc
theorem pfK(hp:PassesOwn @o X.A X.env X.xe)(hi:xJ X tg iter wi)(hg:yz X tg g)(hb:mO X body u)(hc:autoParam (@aI) Ac._auto_1)(hs:autoParam (∀x,eQ iter X.env x=pure x) ZM._auto_1):uX X (.For tg iter body [] pos) (cq wi g u):=Uq hp hc hi hg hb hs
theorem pxK(he:dE X e te)(hs:autoParam (ng e none pos.line X.env=pure false) Ac._auto_1):uX X (.Expr e pos) (iO te):=PW he hs
theorem pqK(he:dE X e te)(hg:yz X tg g)(hs:autoParam (swapsWithSole [tg] e pos.line X.env=pure false) Ac._auto_1)(hw:autoParam (swappedStores [tg] e X.env=pure none) Ac._auto_1)(h1:autoParam ((vV [tg] X.env).map (·.2)=[CM tg X.env]) Ac._auto_1):uX X (.Assign [tg] e pos) (aQ te g):=Ur he hg hs hw h1
theorem pzK(ha:dE X a ta)(he:autoParam (∀whole,isTrue a X.env whole=(do let v ← whole;standAt a.pos;qE [v] (truthy v))) ZM._auto_1):Fy X a (gy ta):=Nb ha he
theorem pyK(hu:@av)(ho:dE X o to)(hi:dE X i ti)
  (ha:autoParam (∀v,CM (.Subscript o i pos) X.env v=(do
   let ov ← qE [v] (eval o X.env)
   let iv ← qE [v,ov] (eval i X.env)
   standAt pos
   qE [v,ov,iv] (setItem ov iv v)
   release [v,ov,iv] [])) ZM._auto_1):yz X (.Subscript o i pos) (eU to ti):=UA hu ho hi ha
end
def V5:@y->(@s->Prop)->Prop
 |[],P=>P []
 |_::r,P=>∀a,V5 r λus=>P (a::us)
theorem E9:∀(ps:@y) {P:@s->Prop},V5 ps P->∀us:@s,us.length=ps.length->P us
 |[],_,h,[],_=>h
 |_::ps,_,h,a::us,e=>E9 ps (h a) us (Nat.succ.inj e)
abbrev Y4(V:IU)(Nn:@y)(x:Str)(sc:Scope)(f:Addr)(ib:Value)(A:cH)(outer:@aG)(s:ay)(H:Hp)(E:XK):Cx:=(xq MJ V.P V.w V.K V.mg V.base Nn x sc f ib A outer s H E).X8
abbrev Y6(V:IU)(Nn:@y)(x:Str)(sc:Scope)(f:Addr)(ib:Value)(A:cH)(outer:@aG)(s:ay)(H:Hp)(E:XK):Cx:=xq (O2 V.P V.w) V.P V.w V.K V.mg V.base Nn x sc f ib A outer s H E
abbrev BdZ(V:IU)(l:@y)(k:Nat)(Nn:@y)(x:Str)(sc:Scope)(b:List Stmt)(rd:gj):Prop:=∀{f:Addr} {ib:Value} {A:cH} {outer:@aG} {s:ay} {H:Hp} {E:XK},j4 k (Y4 V Nn x sc f ib A outer s H E).A->(Y4 V Nn x sc f ib A outer s H E).A.units+64<cLine->(Y4 V Nn x sc f ib A outer s H E).A.units<cLine->(Y4 V Nn x sc f ib A outer s H E).N.Nodup->NmZ (Y4 V Nn x sc f ib A outer s H E) Nn sc->Cf (VX (Y4 V Nn x sc f ib A outer s H E))->MD V.K l->mO (Y4 V Nn x sc f ib A outer s H E) b rd
abbrev BeZ(V:IU)(l:@y)(k:Nat)(Nn:@y)(x:Str)(sc:Scope)(b:List Stmt)(rd:gj):Prop:=∀{f:Addr} {ib:Value} {A:cH} {outer:@aG} {s:ay} {H:Hp} {E:XK},j4 k (Y6 V Nn x sc f ib A outer s H E).A->(Y6 V Nn x sc f ib A outer s H E).A.units+64<cLine->(Y6 V Nn x sc f ib A outer s H E).A.units<cLine->(Y6 V Nn x sc f ib A outer s H E).N.Nodup->NmZ (Y6 V Nn x sc f ib A outer s H E) Nn sc->Cf (VX (Y6 V Nn x sc f ib A outer s H E))->MD V.K l->mO (Y6 V Nn x sc f ib A outer s H E) b rd
section
variable {V:IU} {x:Str} {st:Stmt} {ps l:@y} {k:Nat} {sp:jl} {rd:gj}
theorem qZ(Nn:@y)(Y:Cf V)(N:MD V.K l)(F:oE V.K x st)(hr:∀ds G Q,sp ds G Q (@j)->rd (@j) @N (aY Nn.length ds) G)(hb:BdZ V l k Nn x (cf st) (fk st) rd)
  (S:autoParam (kb Nn ps (cf st)) Aub._auto_1)
  (bn:autoParam (∀(kV doc pm:Value) (an:Option Addr) (ib ct:Value),V5 ps λus=>OI (fnOf x x (jg st) (fk st) (cf st) .none kV doc pm an ib ct) ⟨us,[]⟩=pure (ps.zip us)) Aui._auto_1)
  (len:autoParam (∀ds G Q E,sp ds G Q E->ds.length=ps.length) Aud._auto_1):pC V (k+1) x ps sp :=
 fo3 Nn Y F hr (λ{f ib A outer s H E} r nd=>hb r r.units r.Jo nd @aS Y N) S (λa b c d e f us hl=>E9 ps (bn a b c d e f) us hl) len
theorem abw(Nn:@y)(Y:Cf V)(N:MD V.K l)(F:oE V.K x st)(hr:∀ds G Q E,sp ds G Q E->rd E @N (aY Nn.length ds) G)(hb:BeZ V l k Nn x (cf st) (fk st) rd)
  (S:autoParam (kb Nn ps (cf st)) Aub._auto_1)
  (bn:autoParam (∀(kV doc pm:Value) (an:Option Addr) (ib ct:Value),V5 ps λus=>OI (fnOf x x (jg st) (fk st) (cf st) .none kV doc pm an ib ct) ⟨us,[]⟩=pure (ps.zip us)) Aui._auto_1)
  (len:autoParam (∀ds G Q E,sp ds G Q E->ds.length=ps.length) Aud._auto_1):ZL V (k+1) x ps sp :=
 foE Nn Y F hr (λ{f ib A outer s H E} r nd=>hb r r.units r.Jo nd @aS Y N) S (λa b c d e f us hl=>E9 ps (bn a b c d e f) us hl) len
theorem aeN{f:Addr}{fd:fV}{Nn:@y}(S:kb Nn ps (cf st))(Y:Cf V)(N:MD V.K l)(F:Ts V.K x x st f fd)(hr:∀ds G Q,sp ds G Q (@j)->rd (@j) @N (aY Nn.length ds) G)(hb:BdZ V l k Nn x (cf st) (fk st) rd)
  (len:autoParam (∀ds G Q E,sp ds G Q E->ds.length=ps.length) Aud._auto_1):rX V.P V.w V.K V.mg V.base MJ (k+1) f fd ps (D3 V.K sp) :=
 Mc F S len hr λib A outer s H E r=>hb r r.units r.Jo S.nd @aS Y N
end
end K2
end
section
namespace K2
open PySem PySem.Spec PyProof.Rows L2
section
variable {X:Cx} {XN:@y} {sc scope:Scope} {tg elt iter:Expr} {ifs:@az} {pos:Pos} {m:Nat} {fr:List Nat} {wi:Fx} {g:y8} {c:Option yy} {te:fB}
theorem Ul(A0:ze X)(hx:NmZ X XN sc)(hN:X.N.Nodup)(hi:xJ X tg iter wi)(hg:(DE tg XN fr).Nodup->∀C s H fp,yz (cc X (DE tg XN fr) scope C s H fp) tg g)(Hm:∀C s H fp,O1 (cc X (DE tg XN fr) scope C s H fp) ifs c)(he:∀C s H fp,dE (cc X (DE tg XN fr) scope C s H fp) elt te)
  (Vp:autoParam (X.N[i]?=some y) Ac._auto_1) (hy:autoParam (X.env.scope.names.lookup y=@aH) Ac._auto_1) (hn:autoParam ((DE tg XN fr).Nodup) Ak._auto_1) (hb:autoParam (rq (DE tg XN fr) scope m fr sc XN=true) Ak._auto_1) (hc:autoParam (@aI) Ac._auto_1)
  (Vq:autoParam (ng @a7 (some (@ae)) wc.line X.env=pure true) Ar._auto_1) (hs:autoParam (∀x,eQ iter X.env x=pure x) ZM._auto_1):
  uX X (.Assign [@ae] @a7 wc) (aQ (ET m fr wi g c te) (aE i)) :=
 wH id (λ_ _ _ _ _ _ L I h=>Vl A0 L I h) hN Vp hy hc (yu hx.s hx.n hb) hi (hg hn) Hm he Vq hs
end
end K2
end
section
namespace K2
open PySem (Str)
open Enc (enc)
namespace T
abbrev Tb:=List (@u)
structure HL(G G':Gp)(p0:Nat)(as:List Nat)(rs:List (@e)):Prop where
 le:@H
 fp:G p0=none
 gp:G' p0=some (.lst (as.map D.ref))
 np:p0∉as
 nd:as.Nodup
 fr:∀a∈as,G a=none
 len:as.length=rs.length
 at':∀(i a:Nat) (r:@e),as[i]?=some a->rs[i]?=some r->G' a=some (.lst r)
theorem HL.ext(h:HL G G' p0 as rs)(l:dH G' G''):HL G G'' p0 as rs :=
 ⟨h.le.trans l,h.fp,l _ _ h.gp,h.np,h.nd,h.fr,h.len,λi a r h1 h2=>l _ _ (h.at' i a r h1 h2)⟩
theorem HL.row(h:HL G G' p0 as rs){i:Nat}(hr:rs[i]?=some r):∃a,as[i]?=some a/\G' a=some (.lst r)/\rD (as.map D.ref) (i:Int)=some @r:=by
 have hi:i<as.length:=by rw[h.len];exact(List.getElem?_eq_some_iff.mp hr).1
 refine⟨as[i],aA hi,h.at' i _ r (aA hi) hr,?_⟩;rw[rC _ @c (by rw[ar];lia)];simp
theorem QD{as:List Nat}(hn:as.Nodup){j:Nat}(h1:as[i]?=some a)(h2:as[j]?=some a):i=j:=by
 have g1:=List.getElem?_eq_some_iff.mp h1;have g2:=List.getElem?_eq_some_iff.mp h2;have pw:=List.pairwise_iff_getElem.mp hn;rcases Nat.lt_trichotomy i j with lt |eq |gt
 .exact absurd (g1.2.trans g2.2.symm) (pw i j g1.1 g2.1 lt)
 .exact eq
 .exact absurd (g2.2.trans g1.2.symm) (pw j i g2.1 g1.1 gt)
theorem QC{as:List Nat}(h:∀i k a:Nat,i<k->as[i]?=some a->as[k]?=some a->False):as.Nodup:=by
 refine List.pairwise_iff_getElem.mpr λi k hi hk hik z=>?_;exact h i k as[i] hik (aA hi) (by rw[aA hk,z])
theorem HL.PI(h:HL G G' p0 as rs)(hj:j<as.length)(ga:G' a=some (.lst r'))(na:a∉as)(fa:G a=none)(np:a≠p0):HL G (di G' p0 (.lst ((as.set j a).map D.ref))) p0 (as.set j a) (rs.set j r'):=by
 have hin:∀b,b∈as.set j a->b=a\/b∈as:=λb hb=>by
  rcases r8 hb with z |z
  .exact .inr z
  .exact .inl z
 refine⟨h.le.put h.fp,h.fp,av,λz=>?_,?_,λb hb=>?_,by rw[bX,bX];exact h.len,λi b r hb hr=>?_⟩
 .rcases hin _ z with z |z
  .exact np z.symm
  .exact h.np z
 .refine QC λi k b hik h1 h2=>?_;by_cases e1:j=i
  .subst e1;rw[dn hj] at h1;rw[dq @c] at h2;cases h1;exact na (fD h2)
  .rw[dq e1] at h1;by_cases e2:j=k
   .subst e2;rw[dn hj] at h2;cases h2;exact na (fD h1)
   .rw[dq e2] at h2;have:=QD h.nd h1 h2;lia
 .rcases hin b hb with z |z
  .rw[z];exact fa
  .exact h.fr b z
 .have hb0:b≠p0:=by
   rintro rfl;rcases hin b (fD hb) with z |z
   .exact np z.symm
   .exact h.np z
  rw[bO hb0];by_cases e:j=i
  .subst e;rw[dn hj] at hb;rw[dn (by rw[<-h.len];exact hj)] at hr;cases hb;cases hr;exact ga
  .rw[dq e] at hb hr;exact h.at' i b r hb hr
theorem HL.fz{G G':Gp}{p0:Nat}{as:List Nat}{rs:List (@e)}(h:HL G G' p0 as rs){Q:DK}(q:Q (.dF (rs.map D.dF)) G):OE G' (.ref p0) Q:=by
 refine Bm h.le h.fp h.gp (ss:=rs.map D.dF) ?_ q;have:∀(as:List Nat) (rs:List (@e)),as.length=rs.length->(∀a∈as,G a=none)->(∀(i a:Nat) (r:@e),as[i]?=some a->rs[i]?=some r->G' a=some (.lst r))->FA G' (λa=>(G a).isNone) (as.map D.ref) (rs.map D.dF):=by
  intro as;induction as with
  |nil=>intro rs hl _ _;cases rs with
   |nil=>exact .nil
   |cons _ _=>cases hl
  | cons a as ih=>
   intro rs hl hf Fu;cases rs with
   |nil=>cases hl
   |cons r rs=>
    refine .cons (.ref (Fu 0 a r rfl rfl) (by simp[hf a @i]) (FA.same _)) ?_;exact ih rs (by simpa using hl) (λb hb=>hf b (aI _ hb)) λi b s h1 h2=>Fu (i+1) b s h1 h2
 exact this as rs h.len h.fr h.at'
end T
theorem kU{α:Type} [@U] [Enc α]{G G1:Gp}{p:Nat}{xs:@v}{Q:DK}(l:dH G G1)(hp:G p=none)(h1:G1 p=some (.lst (xs.map enc)))(q:Q (enc xs) G):OE G1 (.ref p) Q :=
 Bm l hp h1 (FA.same _) q
theorem cj{α:Type}{f:α->D}{g:y8}{body:gj}{ok:@l}{xs:@v}{E:k7}{K:mx}{τ:iE}{G:Gp}(I:@v->iE->@l)
  (h0:I [] τ G) (bP:∀pre τ G,I pre τ G->ok G)
  (step:∀(pre:@v) (x:α) (post:@v) τ G (N:iE->@l),xs=pre++x::post->I pre τ G->(∀xU G2,I (pre++[x]) xU G2->N xU G2) ->
   g E (f x) τ G λqH G1=>body E {K with nx:=N,ct:=N,bk:=K.nx} qH G1)
  (fin:∀τ G,I xs τ G->K.nx τ G):qt g body ok (xs.map f) E K τ G:=by
 have main:∀(post pre:@v) τ G,xs=pre++post->I pre τ G->qt g body ok (post.map f) E K τ G:=by
  intro post;induction post with
  |nil=>
   intro pre τ G e h;rw[cI] at e;subst e;exact⟨bP _ _ _ h,fin _ _ h⟩
  |cons d post ih=>
   intro pre τ G e h;refine⟨bP _ _ _ h,?_⟩;exact step pre d post τ G _ e h λxU G2 h2=>ih (pre++[d]) xU G2 (by rw[e,c9];rfl) h2
 exact main xs [] τ G rfl h0
theorem nX{α:Type}{f:α->D}{g:y8}{c:Option yy}{e:fB}{ok:@l}{xs:@v}{E:k7}{τ:iE}{G:Gp}{Q:@e->@l}(I:@v->@e->iE->@l)
  (h0:I [] [] τ G) (bP:∀pre acc τ G,I pre acc τ G->ok G)
  (step:∀(pre:@v) (x:α) (post:@v) (acc:@e) τ G (N:iE->@e->@l),xs=pre++x::post->I pre acc τ G->(∀xU yx G2,I (pre++[x]) yx xU G2->N xU yx G2) ->
   g E (f x) τ G λqH G1=>match c with
    |none=>e E qH G1 λx G2=>N qH (acc++[x]) G2
    |some c=>c E qH G1 λk G2=>if k=true then e E qH G2 λx G3=>N qH (acc++[x]) G3 else N qH acc G2)
  (fin:∀acc τ G,I xs acc τ G->Q acc G):iD g c e ok (xs.map f) E τ G [] Q:=by
 have main:∀(post pre:@v) (acc:@e) τ G,xs=pre++post->I pre acc τ G->iD g c e ok (post.map f) E τ G acc Q:=by
  intro post;induction post with
  |nil=>
   intro pre acc τ G e h;rw[cI] at e;subst e;exact⟨bP _ _ _ _ h,fin _ _ _ h⟩
  |cons d post ih=>
   intro pre acc τ G e' h;refine⟨bP _ _ _ _ h,?_⟩;have:=step pre d post acc τ G (λxU yx G2=>iD g c e ok (post.map f) E xU G2 yx Q) e' h λxU yx G2 h2=>ih (pre++[d]) yx xU G2 (by rw[e',c9];rfl) h2;cases c with
   |none=>exact this
   |some c=>exact this
 exact main xs [] [] τ G rfl h0
theorem jf{α:Type} [@U] [Enc α]{xs:@v}{G:Gp}{R:@e->(@l)->@l}(h:R (xs.map enc) @aw G):Te (enc xs) G R:=h
theorem Hg{α:Type} [@U] [Enc α]{xs:@v}{G:Gp}{R:@e->(@l)->@l}(h:R (nR 0 (xs.map enc)) @aw G):w7 (enc xs) G R:=h
theorem Lf(h:n<=1000):n<=SZ:=by unfold SZ;lia
theorem FX(h:n<=1000):n<SZ:=by unfold SZ;lia
abbrev Rows:=List (@Z)
noncomputable def T3.s(p:T3):T2:=⟨p.a,p.b⟩
structure Dr(rows:Rows):Prop where
 nd:(rows.flatten.map T3.s).Nodup
 way:∀p∈rows.flatten,p.b=0\/p.b=1
 hand:∀p∈rows.flatten,p.c=1\/p.c=-1
 NA:∀p∈rows.flatten,(⟨p.a,1-p.b,p.c⟩:T3)∈rows.flatten
 EF:rows.flatten.length<=24
 str:rows.length<=3
namespace P
def jw:jl:=ac6 (λrows:Rows=>rows.flatten.length<=1000) λrows=>rows.flatten
def sV:gj :=
 (bz (aQ (fA aM) (aE 1))
 (bz (cq (ko @n) (aE 2) (iO (oY IJ uA @p (ao @q aM))))
 (cb (bZ @p))))
theorem tZ(ds)(G)(Q)(h:jw ds G Q @j):sV (@j) @N (aY 3 ds) G:=by
 obtain⟨rows,rfl,hl,q⟩:=h;unfold sV;simp only[ends,aY,aw,aR,aj,ax,aP,aH,aL,bG,aQ,fA,aM,aE,ai,ah];refine⟨@d,λp hp=>?_⟩;refine dB (λτ G'=>(∃b,τ=[@al,@am,b])/\@H/\G' p=some (.lst (rows.flatten.map enc))) ?_ ?_
 .intro N hN;simp only[cq,dW,ak,aa];refine jf ?_;refine cj (xs:=rows) (λpre τ G'=>(∃b,τ=[@al,@am,b])/\@H/\G' p=some (.lst (pre.flatten.map enc))) ⟨@I,@ah,av⟩ @aj ?_ ?_
  .rintro pre r post τ G' N2 e ⟨⟨b,rfl⟩,l,gp⟩ jk;have hlen:pre.flatten.length+r.length<=rows.flatten.length:=by
    rw[e];simp only[jm,gF,aB];lia
   simp only[aE,iO,oY,ak,ai,ah,ae,aa,kL,gp,ao,aM,kC,kR (IsL.enc r),true_and];refine⟨Lf (by simp only[ar];lia),?_⟩;refine jk _ _ ⟨@I,l.put hp,?_⟩;rw[av];simp
  .rintro τ G' ⟨⟨b,rfl⟩,l,gp⟩;exact hN _ _ ⟨@I,l,gp⟩
 .rintro _ G' ⟨⟨b,rfl⟩,l,gp⟩;simp only[cb,bZ,ak,ae,aa];exact kU l hp gp q
theorem EL(p:T3):(enc p:D)=.tup [.int p.a,.int p.b,.int p.c]:=rfl
theorem Y1(p:T2):(enc p:D)=.tup [.int p.a,.int p.b]:=rfl
theorem EM(i):(enc i:D)=@A:=rfl
theorem ZF{r:@e}:rD (a::r) 0=some a:=by
 rw[rC _ @c @i];rfl
theorem To{r:@e}:rD (a::b::r) 1=some b:=by
 rw[rC _ @c (by simp;lia)];rfl
theorem at2{r:@e}:rD (a::b::c::r) 2=some c:=by
 rw[rC _ @c (by simp;lia)];rfl
def names(rows:Rows):@u:=F1 ((rows.flatten.filter λp=>p.b == 0).map (·.a))
noncomputable def handOf(rows:Rows)(n:Int):Int:=((rows.flatten.find? λp=>p.a == n).map (·.c)).getD 0
def kl:jl:=ac5 (λ(rows:Rows) (n:Int)=>rows.flatten.length<=1000/\∃p∈rows.flatten,p.a=n) handOf
def AH:gj :=
 (bz (cq (ko (bb jw (ao @n aM))) (aE 2) (fT (gy (aN (Cq false) (aN gq @q @L) @p)) (cb (bZ (aN gq @q @ac))) dj))
 vJ)
theorem BY(ds)(G)(Q)(h:kl ds G Q @j):AH (@j) @N (aY 3 ds) G:=by
 obtain⟨rows,n,rfl,⟨hl,hn⟩,q⟩:=h;unfold AH;refine dB (λτ G'=>False) ?_ (λ_ _ h=>h.elim);intro N hN;simp only[cq,aY,aw,aR,aj,ax,aP,aH,aL,ends,dW,bb,ao,ak,aa,aM];refine⟨rows,rfl,hl,jf ?_⟩;refine cj (xs:=rows.flatten) (λpre τ G'=>G=G'/\(∃a,τ=[@al,some (enc n),a])/\∀p∈pre,p.a≠n) ⟨rfl,@I,@G⟩ @aj ?_ ?_
 .rintro pre x post τ G' N2 e ⟨rfl,⟨a,rfl⟩,hp⟩ jk;simp only[aE,fT,EM,EL,ai,ah,cb,bZ,aN,ak,ae,aa,dC,iM,at2,dj,cD,ZF];refine⟨_,_,@P,@P,?_⟩;simp only[au,kr,if_false,bJ];by_cases hx:x.a=n
  .simp only[hx,beq_self_eq_true,if_true];refine cO ?_;have:handOf rows n=x.c:=by
    unfold handOf;have:rows.flatten.find? (λp=>p.a == n)=some x:=by
     rw[e,uc];have:pre.find? (λp=>p.a == n)=none:=by
      rw[fC];intro p uF;simpa using hp p uF
     rw[this];simp[hx]
    rw[this];rfl
   rw[<-this];exact q
  .have:(x.a == n)=false:=by simpa using hx
   simp only[this,au,if_false];refine jk _ _ ⟨rfl,@I,λp uF=>?_⟩;rcases List.mem_append.mp uF with h |h
   .exact hp p h
   .rw[List.mem_singleton.mp h];exact hx
 .rintro τ G' ⟨rfl,_,hp⟩;obtain⟨p,Zv,mK⟩:=hn;exact absurd mK (hp p Zv)
def Lj(row:@Z)(i:Int):List T2:=if row=[] then [⟨i,2⟩] else row.map T3.s
theorem DW{α:Type}{xs:@v}{pre post:List (α×Nat)}{x:α×Nat}(h:xs.zipIdx 0=pre++x::post):∃l r,xs=l++x.1::r/\x.2=l.length/\pre=l.zipIdx 0:=by
 have e1:xs=(pre.map @k)++x.1::post.map @k:=by
  have:=congrArg (List.map @k) h;rw[List.zipIdx_map_fst] at this;rw[this];simp
 have hl:pre.length<(xs.zipIdx 0).length:=by rw[h];simp
 have hx:(xs.zipIdx 0)[pre.length]?=some x:=by rw[h];simp
 refine⟨pre.map @k,post.map @k,e1,?_,?_⟩
 .rw[List.getElem?_zipIdx] at hx;rw[ar];cases q:xs[pre.length]? with
  |none=>rw[q] at hx;cases hx
  |some y=>rw[q] at hx;simp at hx;rw[<-hx]
 .have:(pre.map @k).zipIdx 0=(xs.zipIdx 0).take pre.length:=by
   conv=>rhs;rw[e1,List.zipIdx_append]
   rw[List.take_append_of_le_length @i];rw[Pc @i]
  rw[this,h];simp
theorem ae3{c:D}:cut [a,b,c] none (some 2)=[a,b]:=rfl
theorem NH [@U] [Enc α](xs:@v)(G):wQ (enc xs) G=some (xs.map enc,λ_=>True):=rfl
theorem NG{a:Nat}{ds:@e}{G:Gp}(h:G a=some (.lst ds)):wQ @r G=some (ds,λG2=>G2 a=some (.lst ds)):=by unfold wQ;simp only[h]
theorem Ag [@U] [Enc α] [DecidableEq β] [Enc β]:∀(xs:@v) (ys:List β),qI (xs.map enc) (ys.map enc)=(xs.zip ys).map λp=>D.tup [enc p.1,enc p.2]
 |[],ys=>by simp[qI]
 |x::xs,[]=>by simp[qI]
 |x::xs,y::ys=>by simp[qI,Ag xs ys]
theorem cW{κ α:Type} [@a0] [Enc κ] [t9 κ] [@U] [Enc α]{a:Nat}{l:List (κ×α)}{k:κ}{v:α}{G:Gp}{Q:@l}(h:G a=some (.eG (aK l)))(hl:l.length<=1000)(q:Q (di G a (.eG (aK (du l k v))))):Ay @r (enc k) (enc v) G Q:=by
 unfold Ay;simp only[h];refine⟨gN l k,?_,by rw[Lq];exact q⟩;unfold aK;rw[ar];exact FX hl
noncomputable def iu(r:@Z):@Z:=r.drop 1++r.take 1
def pairsOf(rows:Rows):@aW:=rows.flatMap λr=>r.zip (iu r)
def nK(ps:@aW):List (T2×T2):=ps.foldl (λl p=>du l p.1.s p.2.s) []
theorem C3(ps):(nK ps).length<=ps.length:=by
 have:∀(ps:@aW) (l:List (T2×T2)),(ps.foldl (λl p=>du l p.1.s p.2.s) l).length<=l.length+ps.length:=by
  intro ps;induction ps with
  |nil=>intro l;simp
  |cons p ps ih=>
   intro l;rw[ef,aj];have h1:=ih (du l p.1.s p.2.s);have h2:=og l p.1.s p.2.s;lia
 simpa[nK] using this ps []
theorem JS(ps)(p):nK (ps++[p])=du (nK ps) p.1.s p.2.s:=by unfold nK;rw[fO];rfl
def qN:jl:=λds G Q _=>∃rows:Rows,ds=[enc rows]/\rows.flatten.length<=500/\Q (.fZ (aK (nK (@aY)))) G
theorem pairs_len(rows):(@aY).length<=rows.flatten.length:=by
 unfold pairsOf;induction rows with
 |nil=>simp
 |cons r rs ih=>simp only[cZ,gF,aB,lY];lia
def AF:gj :=
 (bz (aQ hX (aE 1))
 (bz (cq (ko @n) (aE 2) (cq (Ka @q (aN fx (zK @q (nV @B) fm) (zK @q fm (nV @B)))) (hV (cY (aE 3) (cY (aE 4) hW))) (aQ (zK @F fm (nV @ac)) (eU @p (zK @z fm (nV @ac))))))
 (cb (bZ @p))))
theorem BR(ds)(G)(Q)(h:qN ds G Q @j):AF (@j) @N (aY 5 ds) G:=by
 obtain⟨rows,rfl,hl,q⟩:=h;unfold AF;simp only[ends,aY,aw,aR,aj,ax,aP,aH,aL,bG,aQ,hX,fy,aE,ai,ah];intro d hd;refine dB (λτ G'=>(∃a b c,τ=[@al,some (.ref d),a,b,c])/\@H/\G' d=some (.eG (aK (nK (@aY))))) ?_ ?_
 .intro N hN;simp only[cq,dW,ak,aa];refine jf ?_;refine cj (xs:=rows) (λpre τ G'=>(∃a b c,τ=[@al,some (.ref d),a,b,c])/\@H/\G' d=some (.eG (aK (nK (pairsOf pre))))) ⟨⟨_,_,_,rfl⟩,.new hd,av⟩ @aj ?_ ?_
  .rintro pre r post τ G' N2 e ⟨⟨a,b,c,rfl⟩,l,gd⟩ jk;have hr:pre.flatten.length+r.length<=rows.flatten.length:=by
    rw[e];simp only[jm,gF,aB];lia
   simp only[aE,cq,Ka,ak,ai,ah,ae,aa,aN,zK,fm,jD,dC,gw];refine xZ (IsL.enc r) λp1 h1=>?_;refine xZ (IsL.enc r) λp2 h2=>?_;have d1:d≠p1:=by rintro rfl;rw[gd] at h1;cases h1
   have l1:=l.trans (dH.new (o:=.lst (cut (r.map enc) (some 1) none)) h1);have d2:d≠p2:=by rintro rfl;rw[bO d1,gd] at h2;cases h2
   have h12:p1≠p2:=by rintro rfl;rw[av] at h2;cases h2
   refine Ec (IsL.ref (by rw[bO h12,av])) (IsL.ref av) ?_ λp3 h3=>?_
   .rw[rn,rn,ar,ar];have e1:(cut r (some 1) none).length<=r.length:=by unfold cut;rw[eB,cP];lia
    have e2:(cut r none (some 1)).length<=r.length:=by unfold cut;rw[eB,cP];lia
    exact Lf @c
   have d3:d≠p3:=by rintro rfl;rw[bO d2,bO d1,gd] at h3;cases h3
   have et:cut (r.map enc) (some 1) none++cut (r.map enc) none (some 1)=(iu r).map enc:=by
    rw[rn,rn,<-aU];congr 1;cases r with
    |nil=>rfl
    |cons x r=>rw[show(1:Int)=((1:Nat):Int) from rfl,BK _ _ @i,Kv _ _ @i];rfl
   rw[et];generalize hG3:di (di (di G' p1 (.lst (cut (r.map enc) (some 1) none))) p2 (.lst (cut (r.map enc) none (some 1)))) p3 (.lst ((iu r).map enc))=G3;have g3:G3 p3=some (.lst ((iu r).map enc)):=by rw[<-hG3,av]
   have gd3:G3 d=some (.eG (aK (nK (pairsOf pre)))):=by rw[<-hG3,bO d3,bO d2,bO d1];exact gd
   have l3:dH G G3:=by rw[<-hG3];exact(l1.trans (.new h2)).trans (.new h3)
   unfold vG;rw[NH,NG g3];dsimp only;rw[Ag];refine cj (xs:=r.zip (iu r)) (λpp τ G'=>(∃a b c,τ=[@al,some (.ref d),a,b,c])/\@H/\G' d=some (.eG (aK (nK (pairsOf pre++pp))))/\G' p3=some (.lst ((iu r).map enc)))
    ⟨⟨_,_,_,rfl⟩,l3,by rw[cI];exact gd3,g3⟩ (λ_ _ _ h=>⟨trivial,h.2.2.2⟩) ?_ ?_
   .rintro pp x post τ G4 N3 e4 ⟨⟨a,b,c,rfl⟩,l4,Vy,Zy⟩ Bk;have hz:(pairsOf pre++pp).length<=1000:=by
     have:=pairs_len pre;have h5:pp.length<(r.zip (iu r)).length:=by rw[e4];simp
     rw[lY] at h5;rw[aB];lia
    simp only[hV,cY,aE,hW,aQ,zK,ak,EL,ai,ah,ae,aa,fm,eU,ui,aj,ax,jD,dC,gw,ae3];refine⟨@d,@d,?_⟩;refine cW (k:=x.1.s) (v:=x.2.s) Vy (bh (C3 _) hz) ?_;refine Bk _ _ ⟨⟨_,_,_,rfl⟩,l4.put hd,?_,by rw[bO (dD d3)];exact Zy⟩;rw[av,<-c9,JS]
   .rintro τ G4 ⟨⟨a,b,c,rfl⟩,l4,Vy,Zy⟩;refine jk _ _ ⟨⟨_,_,_,rfl⟩,l4,?_⟩;have:pairsOf (pre++[r])=pairsOf pre++r.zip (iu r):=by unfold pairsOf;simp
    rw[this];exact Vy
  .rintro τ G' ⟨⟨a,b,c,rfl⟩,l,gd⟩;exact hN _ _ ⟨⟨_,_,_,rfl⟩,l,gd⟩
 .rintro _ G' ⟨⟨a,b,c,rfl⟩,l,gd⟩;simp only[cb,bZ,ak,ae,aa];exact fH l hd gd q
noncomputable def lft(s:T2):T3:=⟨s.a,s.b,0⟩
end P
class inductive Cn {α:Type} (ps:List (α×α)):α->α->Prop
 |refl (x:α):Cn ps x x
 |pair {x y:α}:(x,y)∈ps->Cn ps x y
 |symm {x y:α}:Cn ps x y->Cn ps y x
 |trans {x y z:α}:Cn ps x y->Cn ps y z->Cn ps x z
section
variable {α:Type} {ps:List (α×α)}
theorem Cn.mono(h:∀p∈ps,p∈qs)(c:Cn ps x y):Cn qs x y:=by
 induction c with
 |refl x=>exact .refl x
 |pair q=>exact .pair (h _ q)
 |symm _ ih=>exact .symm ih
 |trans _ _ i1 i2=>exact .trans i1 i2
theorem Cn.more:Cn (ps++[(a,b)]) x y↔Cn ps x y\/(Cn ps x a/\Cn ps b y)\/(Cn ps x b/\Cn ps a y):=by
 constructor
 .intro c;induction c with
  |refl x=>exact .inl (.refl x)
  | pair q=>
   rcases List.mem_append.mp q with q |q
   .exact .inl (.pair q)
   .have:=List.mem_singleton.mp q;injection this with e1 e2
    subst e1 e2;exact .inr (.inl ⟨.refl _,.refl _⟩)
  |symm _ ih=>
   rcases ih with h |⟨h1,h2⟩ |⟨h1,h2⟩
   .exact .inl h.symm
   .exact .inr (.inr ⟨h2.symm,h1.symm⟩)
   .exact .inr (.inl ⟨h2.symm,h1.symm⟩)
  | trans _ _ i1 i2=>
   rcases i1 with h |⟨h1,h2⟩ |⟨h1,h2⟩
   .rcases i2 with k |⟨k1,k2⟩ |⟨k1,k2⟩
    .exact .inl (h.trans k)
    .exact .inr (.inl ⟨h.trans k1,k2⟩)
    .exact .inr (.inr ⟨h.trans k1,k2⟩)
   .rcases i2 with k |⟨k1,k2⟩ |⟨k1,k2⟩
    .exact .inr (.inl ⟨h1,h2.trans k⟩)
    .exact .inr (.inl ⟨h1,k2⟩)
    .exact .inl (h1.trans k2)
   .rcases i2 with k |⟨k1,k2⟩ |⟨k1,k2⟩
    .exact .inr (.inr ⟨h1,h2.trans k⟩)
    .exact .inl (h1.trans k2)
    .exact .inr (.inr ⟨h1,k2⟩)
 .have up:∀{u v:α},Cn ps u v->Cn (ps++[(a,b)]) u v:=λc=>c.mono λp hp=>dI _ hp;have ab:Cn (ps++[(a,b)]) a b:=.pair @i;rintro(h |⟨h1,h2⟩ |⟨h1,h2⟩)
  .exact up h
  .exact((up h1).trans ab).trans (up h2)
  .exact((up h1).trans ab.symm).trans (up h2)
end
namespace P
section
variable {α:Type} [@U] [Enc α] [bq α] [t9 α]
theorem E8 [@a0]{k:κ}{v:β}(h:∃p∈l,p.1=k):(du l k v).length=l.length:=by
 unfold du;rw[if_pos (by obtain⟨p,h1,h2⟩:=h;exact List.any_eq_true.mpr ⟨p,h1,@a_⟩),ar]
end
end P
namespace P
theorem jF [@a0]{k:κ}{v:β}(h:k∉@ar):du l k v=l++[(k,v)]:=by
 unfold du;rw[if_neg];intro q;obtain⟨p,h1,h2⟩:=List.any_eq_true.mp q;exact h (List.mem_map.mpr ⟨p,h1,@a_⟩)
theorem Hq{γ:Type} [@a0](kf:γ->κ)(vf:γ->β):∀(ps:List γ) (l:List (κ×β)),(@ar++ps.map kf).Nodup->ps.foldl (λl p=>du l (kf p) (vf p)) l=l++ps.map λp=>(kf p,vf p)
 |[],l,_=>@G
 | p::ps,l,h=>by
  rw[ef,jF (λz=>by
   rw[aw,bY] at h;exact h.2.2 _ z _ @i rfl),Hq kf vf ps _ (@bc)]
  simp
theorem yC(r):(iu r).length=r.length:=by unfold iu;rw[aB,cP,eB];lia
theorem D0(r):(iu r).Perm r:=by
 unfold iu;exact List.perm_append_comm.trans (by rw[oq])
theorem uw(rows):(@aY).map @k=rows.flatten:=by
 unfold pairsOf;induction rows with
 |nil=>rfl
 |cons r rs ih=>
  rw[cZ,aU,ih,gF];congr 1;rw[List.map_fst_zip];rw[yC];exact aG _
theorem uv(rows):((@aY).map (·.2)).Perm rows.flatten:=by
 unfold pairsOf;induction rows with
 |nil=>exact .refl _
 |cons r rs ih=>
  rw[cZ,aU,gF];refine List.Perm.append ?_ ih;rw[List.map_snd_zip]
  .exact D0 r
  .rw[yC];exact aG _
variable {rows:Rows}
theorem RV(d:Dr rows):((@aY).map λp=>p.1.s).Nodup:=by
 have:((@aY).map λp=>p.1.s)=rows.flatten.map T3.s:=by rw[<-uw,bw];rfl
 rw[this];exact d.nd
theorem Xk(d:Dr rows):((@aY).map λp=>p.2.s).Nodup:=by
 have:((@aY).map λp=>p.2.s)=((@aY).map (·.2)).map T3.s:=by rw[bw];rfl
 rw[this,((uv rows).map T3.s).nodup_iff];exact d.nd
theorem QG(d:Dr rows):nK (@aY)=(@aY).map λp=>(p.1.s,p.2.s):=by
 unfold nK;rw[Hq (λp:T3×T3=>p.1.s) (λp=>p.2.s) _ _ (by simpa using RV d)];rfl
def pas(rows:Rows)(s:T2):T3:=(rows.flatten.find? λp=>decide (p.s=s)).getD ⟨0,0,0⟩
theorem LB(d:Dr rows)(h:p∈rows.flatten):pas rows p.s=p:=by
 unfold pas;cases q:rows.flatten.find? (λx=>decide (x.s=p.s)) with
 |none=>rw[fC] at q;exact absurd @i (q p h)
 | some x=>
  have h1:=l0 q;have h2:=fU q;have h1:x.s=p.s:=by simpa using h1
  have:∀(L:@Z),(L.map T3.s).Nodup->x∈L->p∈L->x=p:=by
   intro L;induction L with
   |nil=>intro _ h;cases h
   | cons y L ih=>
    intro hn hx hp;rw[aw,aW] at hn;rcases List.mem_cons.mp hx with e1 |hx2
    .rcases List.mem_cons.mp hp with e2 |mK
     .rw[e1,e2]
     .exact absurd (by rw[<-e1,h1];exact bE mK) hn.1
    .rcases List.mem_cons.mp hp with e2 |mK
     .exact absurd (by rw[<-e2,<-h1];exact bE hx2) hn.1
     .exact ih hn.2 hx2 mK
  exact this _ d.nd h2 h
theorem RL(h:p∈rows.flatten):∃q,(p,q)∈@aY/\q∈rows.flatten:=by
 rw[<-uw] at h;obtain⟨x,hx,rfl⟩:=List.mem_map.mp h;exact⟨x.2,hx,(uv rows).mem_iff.mp (bE hx)⟩
theorem RK(h:q∈rows.flatten):∃p,(p,q)∈@aY/\p∈rows.flatten:=by
 rw[<-(uv rows).mem_iff] at h;obtain⟨x,hx,rfl⟩:=List.mem_map.mp h;exact⟨x.1,hx,by rw[<-uw];exact bE hx⟩
noncomputable def om(p:T3):T3:=⟨p.a,1-p.b,p.c⟩
theorem aap(d:Dr rows)(h:p∈rows.flatten):om p∈rows.flatten:=d.NA p h
theorem ly:n∈@aB↔∃p∈rows.flatten,p.b=0/\p.a=n:=by
 unfold names;rw[Li,xF];constructor
 .rintro⟨p,h,rfl⟩;obtain⟨h1,h2⟩:=List.mem_filter.mp h;exact⟨p,h1,@a_,rfl⟩
 .rintro⟨p,h1,h2,rfl⟩;exact⟨p,List.mem_filter.mpr ⟨h1,@a_⟩,rfl⟩
theorem L9(d:Dr rows)(h:p∈rows.flatten):handOf rows p.a=p.c:=by
 unfold handOf;cases q:rows.flatten.find? (λx=>x.a == p.a) with
 |none=>rw[fC] at q;exact absurd @i (q p h)
 | some x=>
  have h1:x.a=p.a:=by simpa using l0 q
  have h2:=fU q;show x.c=p.c;have hw:=d.way p h;have hw2:=d.way x h2;by_cases e:x.b=p.b
  .have:x.s=p.s:=by unfold T3.s;rw[h1,e]
   have e1:=LB d h2;rw[this,LB d h] at e1;rw[e1]
  .have:(om x).s=p.s:=by unfold T3.s om;rw[h1];congr 1;dsimp only;lia
   have e1:=LB d (aap d h2);rw[this,LB d h] at e1;rw[e1];rfl
end P
end K2
end
section
namespace K2
namespace Y
abbrev Po:=@aC
def ND(l:Po):Prop:=(@ar).Nodup
def c0(l:Po)(k:Int):Int:=(bL l k).getD 0
noncomputable def gf(l:Po):Po:=l.filter λp=>p.2 != 0
def plus(a:Po)(p:Int×Int):Po:=du a p.1 (c0 a p.1+p.2)
def nJ(l m:Po):Po:=m.foldl plus l
def qg(l m:Po):Po:=gf (nJ l m)
def mi(m:Po)(a:Po)(p:Int×Int):Po:=m.foldl (λa q=>plus a (p.1+q.1,p.2*q.2)) a
def lJ(l m:Po):Po:=l.foldl (mi m) []
def gE(l m:Po):Po:=gf (lJ l m)
def gb(l:Po)(by_ f:Int):Po:=gf (l.map λp=>(p.1+by_,p.2*f))
noncomputable def cp(l:Po):Nat->Po
 |0=>[(0,1)]
 |n+1=>gE (cp l n) l
theorem jF [@a0]{k:κ}{v:β}(h:k∉@ar):du l k v=l++[(k,v)]:=by
 unfold du;rw[if_neg];intro q;obtain⟨p,h1,h2⟩:=List.any_eq_true.mp q;exact h (List.mem_map.mpr ⟨p,h1,@a_⟩)
theorem BN [@a0]{k:κ}{v:β}(h:k∈@ar):du l k v=l.map (λp=>if p.1=k then(p.1,v) else p):=by
 unfold du;rw[if_pos];obtain⟨p,h1,h2⟩:=List.mem_map.mp h;exact List.any_eq_true.mpr ⟨p,h1,@a_⟩
theorem Ox [@a0](l)(k:κ)(v:β):(du l k v).map @k=if k∈@ar then @ar else @ar++[k]:=by
 split
 .rename_i h;rw[BN h,bw];refine d8 λp _=>?_;show(if p.1=k then(p.1,v) else p).1=p.1;split<;>rfl
 .rename_i h;rw[jF h,aU];rfl
theorem ND.put(h:ND l)(k v):ND (du l k v):=by
 unfold ND;rw[Ox];split
 .exact h
 .rename_i hk;rw[bY];exact⟨h,@G,λa ha b hb=>by rw[bF] at hb;subst hb;intro z;exact hk (z ▸ ha)⟩
theorem ND.nil:ND []:=bR
theorem ND.one(k v):ND [(k,v)]:=by unfold ND;simp
theorem ND.tail(h:ND (p::l)):ND l:=by unfold ND at *;rw[aw,aW] at h;exact h.2
theorem ND.head(h:ND (p::l)):p.1∉@ar:=by unfold ND at *;rw[aw,aW] at h;exact h.1
theorem ND.gf(h:ND l):ND (gf l):=by
 unfold ND Y.gf at *;exact oA (me _ k9) h
theorem ur(h:ND l)(p):ND (plus l p):=h.put _ _
theorem xg{α:Type}(f)(hf:∀a x,ND a->ND (f a x)):∀(xs:@v) (a:Po),ND a->ND (xs.foldl f a)
 |[],_,h=>h
 |x::xs,a,h=>xg f hf xs _ (hf a x h)
theorem AV(h:ND l):ND (nJ l m):=xg _ (λa x h=>ur h x) m l h
theorem Ed(h:ND a)(p):ND (mi m a p):=xg _ (λa x h=>ur h _) m a h
theorem vz(l m):ND (lJ l m):=xg _ (λa x h=>Ed h x) l [] .nil
theorem LC(h:ND l):ND (qg l m):=(AV h).gf
theorem x8(l m):ND (gE l m):=(vz l m).gf
theorem Aw(h:ND l)(b f):ND (l.map λp=>(p.1+b,p.2*f)):=by
 unfold ND at *;rw[bw];have:(l.map ((λx:Int×Int=>x.1)∘λp=>(p.1+b,p.2*f)))=(@ar).map (· + b):=by rw[bw];rfl
 rw[this];exact List.Pairwise.map _ (λa c hac z=>hac @c) h
theorem C0(h:ND l)(b f):ND (gb l b f):=(Aw h b f).gf
theorem mU(l):∀n,ND (cp l n)
 |0=>.one _ _
 |n+1=>x8 _ _
theorem Gv(l)(p):(plus l p).length<=l.length+1:=by unfold plus du;split<;>simp
theorem uI{α:Type}(f)(c)(hf:∀a x,(f a x).length<=a.length+c):∀(xs:@v) (a:Po),(xs.foldl f a).length<=a.length+xs.length*c
 |[],a=>@G
 |x::xs,a=>by
  have:=uI f c hf xs (f a x);have:=hf a x;rw[ef,aj,Nat.succ_mul];lia
theorem ux(l m):(nJ l m).length<=l.length+m.length:=by
 have:=uI plus 1 Gv m l;unfold nJ;lia
theorem Gu(m a)(p):(mi m a p).length<=a.length+m.length:=by
 have:=uI (λa q=>plus a (p.1+q.1,p.2*q.2)) 1 (λa q=>Gv a _) m a;unfold mi;lia
theorem oO(l m):(lJ l m).length<=l.length*m.length:=by
 have:=uI (mi m) m.length (λa p=>Gu m a p) l [];simpa[lJ] using this
theorem qc(l):(gf l).length<=l.length:=fc _ _
theorem AO(l m):(gE l m).length<=l.length*m.length:=bh (qc _) (oO l m)
theorem qP(l):∀n,(cp l n).length<=l.length ^ n
 |0=>by simp[cp]
 |n+1=>bh (AO _ _) (by rw[xQ];exact iQ _ (qP l n))
noncomputable def L(g:Int->Int):Po->Int
 |[]=>0
 |p::l=>p.2*g p.1+L g l
theorem IB(g):∀(l m:Po),L g (l++m)=L g l+L g m
 |[],m=>by simp[L]
 |p::l,m=>by rw[aH,L,L,IB g l m];lia
theorem DM{l:Po}(h:k∉@ar):bL l k=none:=by
 unfold bL;have:l.find? (λp=>decide (p.1=k))=none:=by
  rw[fC];intro p hp z;exact h (List.mem_map.mpr ⟨p,hp,by simpa using z⟩)
 rw[this];rfl
theorem E1:c0 (p::l) k=if p.1=k then p.2 else c0 l k:=by
 unfold c0 bL;rw[eu];by_cases h:p.1=k<;>simp[h]
theorem DO(g)(k v):∀(l:Po),ND l->k∈@ar->L g (l.map λp=>if p.1=k then(p.1,v) else p)=L g l+(v-c0 l k)*g k
 |[],_,h=>by cases h
 | p::l,hn,h=>by
  rw[aw,E1];by_cases e:p.1=k
  .rw[if_pos e,if_pos e,L,L];have:l.map (λp=>if p.1=k then(p.1,v) else p)=l:=by
    conv=>rhs;rw[<-qy l]
    refine d8 λq hq=>?_;rw[if_neg];rfl;intro z;exact hn.head (by rw[e,<-z];exact bE hq)
   rw[this];show v*g p.1+L g l=_;rw[e,Int.sub_mul];lia
  .rw[if_neg e,if_neg e,L,L,DO g k v l hn.tail (by
    rw[aw,bA] at h;rcases h with h |h
    .exact absurd h.symm e
    .exact h)]
   lia
theorem abT(g)(hn:ND l)(k v):L g (du l k v)=L g l+(v-c0 l k)*g k:=by
 by_cases h:k∈@ar
 .rw[BN h];exact DO g k v l hn h
 .rw[jF h,IB];have:c0 l k=0:=by unfold c0;rw[DM h];rfl
  rw[this];simp[L]
theorem SJ(g)(hn:ND l)(p):L g (plus l p)=L g l+p.2*g p.1:=by
 unfold plus;rw[abT g hn];congr 1;rw[show c0 l p.1+p.2-c0 l p.1=p.2 by lia]
theorem zQ(g):∀(l:Po),L g (gf l)=L g l
 |[]=>rfl
 |p::l=>by
  have ih:=zQ g l;unfold gf at *;rw[cR];by_cases h:p.2=0
  .rw[if_neg (by simp[h]),ih,L,h];simp
  .rw[if_pos (by simp[h]),L,L,ih]
theorem SM(g):∀(m l:Po),ND l->L g (m.foldl plus l)=L g l+L g m
 |[],l,_=>by simp[L]
 |p::m,l,h=>by
  rw[ef,SM g m _ (ur h p),SJ g h,L];lia
theorem SK(g)(h:ND l)(m):L g (qg l m)=L g l+L g m:=by
 unfold qg nJ;rw[zQ,SM g m l h]
theorem SI(g)(p):∀(m a:Po),ND a->L g (mi m a p)=L g a+p.2*L (λj=>g (p.1+j)) m
 |[],a,_=>by simp[mi,L]
 |q::m,a,h=>by
  have ih:=SI g p m (plus a (p.1+q.1,p.2*q.2)) (ur h _);unfold mi at *;rw[ef,ih,SJ g h,L,Int.mul_add];show L g a+p.2*q.2*g (p.1+q.1)+_=_;rw[Int.mul_assoc];lia
theorem Iz(g)(l m):L g (gE l m)=L (λi=>L (λj=>g (i+j)) m) l:=by
 unfold gE lJ;rw[zQ];have:∀(l a:Po),ND a->L g (l.foldl (mi m) a)=L g a+L (λi=>L (λj=>g (i+j)) m) l:=by
  intro l;induction l with
  |nil=>intro a _;simp[L]
  |cons p l ih=>
   intro a h;rw[ef,ih _ (Ed h p),SI g p m a h,L];lia
 rw[this l [] .nil];simp[L]
theorem zd(g)(b f):∀(l:Po),L g (l.map λp=>(p.1+b,p.2*f))=f*L (λi=>g (i+b)) l
 |[]=>by simp[L]
 |p::l=>by
  rw[aw,L,zd g b f l,L,Int.mul_add];congr 1;show p.2*f*g (p.1+b)=f*(p.2*g (p.1+b));rw[Int.mul_comm p.2 f,Int.mul_assoc]
theorem IA(g)(b f)(l):L g (gb l b f)=f*L (λi=>g (i+b)) l:=by
 unfold gb;rw[zQ,zd]
theorem WX(g h):∀(l:Po),L (λi=>g i+h i) l=L g l+L h l
 |[]=>rfl
 |p::l=>by rw[L,L,L,WX g h l,Int.mul_add];lia
theorem So(h:k∉@ar):c0 l k=0:=by unfold c0;rw[DM h];rfl
theorem ME(hn:ND l)(k):L (λi=>if i=k then 1 else 0) l=c0 l k:=by
 induction l with
 |nil=>rfl
 |cons p l ih=>
  rw[L,ih hn.tail,E1];by_cases h:p.1=k
  .have:c0 l k=0:=So (h ▸ hn.head);simp[h,this]
  .simp[h]
def NZ(l:Po):Prop:=∀p∈l,p.2≠0
theorem AS(l):NZ (gf l):=λp h=>by
 have:=(List.mem_filter.mp h).2;ext f
theorem lV(hn:ND l)(h:p∈l):bL l p.1=some p.2:=by
 induction l with
 |nil=>cases h
 |cons q l ih=>
  unfold bL;rw[eu];rcases List.mem_cons.mp h with rfl |h
  .simp
  .have:q.1≠p.1:=λz=>hn.head (by rw[z];exact bE h);simp only[this,decide_false];exact ih hn.tail h
theorem Sq(hn:ND l)(h:p∈l):c0 l p.1=p.2:=by unfold c0;rw[lV hn h];rfl
theorem QK(h:c0 l k≠0):(k,c0 l k)∈l:=by
 unfold c0 at *;unfold bL at *;cases q:l.find? (λp=>decide (p.1=k)) with
 |none=>rw[q] at h;exact absurd rfl h
 |some p=>
  have h1:=l0 q;have h2:=fU q;simp at h1;simp only[pU,oo];rw[<-h1];exact h2
theorem iV:∀(xs ys:@u),xs.Nodup->(∀x∈xs,x∈ys)->xs.length<=ys.length
 |[],_,_,_=>cm _
 |x::xs,ys,hn,h=>by
  rw[aW] at hn;have:=iV xs (ys.erase x) hn.2 λy hy=>(yB (show y≠x from λz=>hn.1 (by rw[<-z];exact hy))).mpr (h y (aI _ hy));have hx:=h x @i;rw[lj hx] at this;have:=mD hx;rw[aj];lia
theorem sub_len(hl:ND l)(zl:NZ l)(h:∀k,c0 l k=c0 m k):l.length<=m.length:=by
 have:=iV (l.map λp:Int×Int=>p.1) (m.map λp:Int×Int=>p.1) hl λk hk=>by
  obtain⟨p,hp,rfl⟩:=List.mem_map.mp hk;have h1:c0 m p.1≠0:=by rw[<-h,Sq hl hp];exact zl p hp
  exact bE (f:=@k) (QK h1)
 ext f
theorem VE(hl:ND l)(hm:ND m)(zl:NZ l)(zm:NZ m)(h:∀k,c0 l k=c0 m k):uW l m=true:=by
 unfold uW;rw[aJ];refine⟨?_,List.all_eq_true.mpr λp hp=>?_⟩
 .have h1:=sub_len hl zl h;have h2:=sub_len hm zm λk=>(h k).symm;simpa using Jg h1 h2
 .have h1:c0 m p.1=p.2:=by rw[<-h,Sq hl hp]
  have h2:c0 m p.1≠0:=by rw[h1];exact zl p hp
  have:=lV hm (QK h2);rw[h1] at this;simp only at this;rw[this];simp
theorem R0(hl:ND l)(hm:ND m)(zl:NZ l)(zm:NZ m)(h:∀g,L g l=L g m):uW l m=true :=
 VE hl hm zl zm λk=>by rw[<-ME hl,<-ME hm,h]
noncomputable def fG:Po->Nat
 |[]=>0
 |p::l=>p.2.natAbs+fG l
theorem AX:∀(l m:Po),fG (l++m)=fG l+fG m
 |[],m=>by simp[fG]
 |p::l,m=>by rw[aH,fG,fG,AX l m];lia
theorem uz(h:p∈l):p.2.natAbs<=fG l:=by
 induction l with
 |nil=>cases h
 |cons q l ih=>
  rw[fG];rcases List.mem_cons.mp h with rfl |h
  .lia
  .have:=ih h;lia
theorem yQ(k v):∀(l:Po),ND l->k∈@ar->fG (l.map λp=>if p.1=k then(p.1,v) else p)+(c0 l k).natAbs=fG l+v.natAbs
 |[],_,h=>by cases h
 | p::l,hn,h=>by
  rw[aw,E1];by_cases e:p.1=k
  .rw[if_pos e,if_pos e,fG,fG];have:l.map (λp=>if p.1=k then(p.1,v) else p)=l:=by
    conv=>rhs;rw[<-qy l]
    refine d8 λq hq=>?_;rw[if_neg];rfl;intro z;exact hn.head (by rw[e,<-z];exact bE hq)
   rw[this];show v.natAbs+fG l+_=_;lia
  .have:=yQ k v l hn.tail (by
    rw[aw,bA] at h;rcases h with h |h
    .exact absurd h.symm e
    .exact h)
   rw[if_neg e,if_neg e,fG,fG];lia
theorem Gz(hn:ND l)(p):fG (plus l p)<=fG l+p.2.natAbs:=by
 unfold plus;by_cases h:p.1∈@ar
 .rw[BN h];have:=yQ p.1 (c0 l p.1+p.2) l hn h;have:=Int.natAbs_add_le (c0 l p.1) p.2;lia
 .rw[jF h,AX,So h];simp[fG]
theorem uy(l):fG (gf l)<=fG l:=by
 induction l with
 |nil=>exact aG _
 |cons p l ih=>
  unfold gf at *;rw[cR];split
  .rw[fG,fG];lia
  .rw[fG];lia
theorem Gy(p):∀(m a:Po),ND a->fG (mi m a p)<=fG a+p.2.natAbs*fG m
 |[],a,_=>by simp[mi,fG]
 |q::m,a,h=>by
  have ih:=Gy p m (plus a (p.1+q.1,p.2*q.2)) (ur h _);have:=Gz h (p.1+q.1,p.2*q.2);unfold mi at *;rw[ef,fG,Nat.mul_add];have e:(p.2*q.2).natAbs=p.2.natAbs*q.2.natAbs:=Int.natAbs_mul _ _;simp only at this;lia
theorem vC(l m):fG (gE l m)<=fG l*fG m:=by
 refine bh (uy _) ?_;unfold lJ;have:∀(l a:Po),ND a->fG (l.foldl (mi m) a)<=fG a+fG l*fG m:=by
  intro l;induction l with
  |nil=>intro a _;simp[fG]
  |cons p l ih=>
   intro a h;rw[ef];have h1:=ih _ (Ed (m:=m) h p);have h2:=Gy p m a h;rw[fG,Nat.add_mul];lia
 have:=this l [] .nil;simpa[fG] using this
theorem km(l):∀n,fG (cp l n)<=fG l ^ n
 |0=>by simp[cp,fG]
 |n+1=>bh (vC _ _) (by rw[xQ];exact iQ _ (km l n))
theorem GB:∀(m l:Po),ND l->fG (m.foldl plus l)<=fG l+fG m
 |[],l,_=>by simp[fG]
 |p::m,l,h=>by
  have h1:=GB m _ (ur h p);have h2:=Gz h p;rw[ef,fG];lia
theorem GA(h:ND l)(m):fG (qg l m)<=fG l+fG m:=bh (uy _) (GB m l h)
theorem C1(l):∀n,NZ (cp l n)
 |0=>λp h=>by
  simp only[cp,bF] at h;subst h;decide
 |n+1=>AS _
end Y
end K2
end
section
namespace K2
open PySem (Str)
open Enc (enc)
namespace Y
structure Pl(G:Gp)(d:D)(l:Po):Prop where
 is:WY G d l
 nd:ND l
theorem kW(l:dH G G1)(hp:G p=none)(h1:G1 p=@g)(q:fy G o Q):OE G1 (.ref p) Q:=RU l hp h1 (q p hp)
theorem EJ(i j):jC (@A) (.int j)=decide (i=j):=Enc.eqv i j
theorem wK(l m):gf (l++m)=gf l++gf m:=hZ _ _
theorem JN(h:k∈(gf l).map @k):k∈@ar:=(me _ k9).subset h
theorem Wl(h:ND l)(e:l=pre++p::post):p.1∉pre.map @k:=by
 subst e;unfold ND at h;rw[aU,aw,bY] at h;intro z;exact h.2.2 _ z _ @i rfl
theorem AQ(h:ND l)(e:l=pre++p::post)(hz:p.2≠0):du (gf pre) p.1 p.2=gf (pre++[p]):=by
 rw[jF λz=>Wl h e (JN z),wK];congr 1;simp[gf,hz]
theorem AR(hz:p.2=0):gf (pre++[p])=gf pre:=by
 rw[wK];simp[gf,hz]
theorem tR(i):(enc i:D)=@A:=rfl
def fE:jl:=λds G Q _=>∃(d:D) (l:Po),ds=[d]/\Pl G d l/\l.length<=SZ/\fy G (.eG (aK (gf l))) Q
def nG:gj :=
 (bz (aQ hX (aE 1))
 (bz (cq (i7 @n) (hV (cY (aE 2) (cY (aE 3) hW))) (fT (gy (aN (Cq true) @z @L)) (aQ @z (eU @p @q)) dj))
 (cb (bZ @p))))
theorem vP(ds)(G)(Q)(h:fE ds G Q @j):nG (@j) @N (aY 4 ds) G:=by
 obtain⟨d,l,rfl,hd,hl,q⟩:=h;unfold nG;simp only[ends,aY,aw,aR,aj,ax,aP,aH,aL,bG,aQ,hX,aE,ai,ah];intro p hp;refine dB (λτ G'=>(∃a b,τ=[@O,@am,a,b])/\@H/\G' p=some (.eG (aK (gf l)))) ?_ ?_
 .intro N hN;simp only[cq,i7,ak,aa];refine lQ hd.is (@ah) λok bP=>?_;refine cj (xs:=l) (λpre τ G'=>(∃a b,τ=[@O,@am,a,b])/\@H/\G' p=some (.eG (aK (gf pre)))) ⟨@aR,@ah,av⟩ (λpre τ G' h=>bP G' h.2.1) ?_ ?_
  .rintro pre x post τ G' N2 e ⟨⟨a,b,rfl⟩,le,gp⟩ jk;have hlen:(gf pre).length<SZ:=by
    have:=qc pre;have:=congrArg cU e;rw[aB,aj] at this;lia
   simp only[hV,cY,aE,hW,ai,ah];refine⟨_,_,@P,@P,?_⟩;simp only[EJ,if_true,aQ,ak,ae,aa,eU,dj];by_cases hz:x.2=0
   .simp only[hz,decide_true,bg];exact jk _ _ ⟨@aR,le,by rw[AR hz];exact gp⟩
   .simp only[hz,decide_false,cL];refine cW (α:=Int) gp hlen ?_;exact jk _ _ ⟨@aR,le.put hp,by rw[av,<-AQ hd.nd e hz]⟩
  .rintro τ G' ⟨⟨a,b,rfl⟩,le,gp⟩;exact hN _ _ ⟨@aR,le,gp⟩
 .rintro _ G' ⟨⟨a,b,rfl⟩,le,gp⟩;simp only[cb,bZ,ak,ae,aa];exact kW le hp gp q
theorem LM{G:Gp}{d:D}{l:Po}{i:Int}{Q:DK}(h:zR G d l)(k:Q (.int (c0 l i)) G):zo d [@A,.int 0] G Q:=Vg (α:=Int) (e:=0) h k
theorem je{α:Type}{l pre post:@v}{x:α}(e:l=pre++x::post):pre.length<l.length:=by
 have:=congrArg cU e;rw[aB,aj] at this;lia
def gW:jl:=λds G Q _=>∃(d e:D) (l m:Po),ds=[d,e]/\Pl G d l/\Pl G e m/\l.length+m.length<=SZ/\fy G (.eG (aK (qg l m))) Q
def Gj:gj :=
 (bz (aQ (jJ vi (ao @n aM)) (aE 2))
 (bz (cq (i7 @p) (hV (cY (aE 3) (cY (aE 4) hW))) (aQ (aN fx (oY MT zo @q (ao @z (ao @L aM))) @F) (eU @q @z)))
 (cb (bZ (bb fE (ao (bZ @q) aM))))))
theorem SH(ds)(G)(Q)(h:gW ds G Q @j):Gj (@j) @N (aY 5 ds) G:=by
 obtain⟨d,e,l,m,rfl,hd,he,hl,q⟩:=h;unfold Gj;simp only[ends,aY,aw,aR,aj,ax,aP,aH,aL,bG,aQ,jJ,ao,ak,aa,aM,aE,ai,ah];refine BM hd.is.p @c λp hp=>?_;refine dB (λτ G'=>(∃a b,τ=[@O,some e,@am,a,b])/\@H/\G' p=some (.eG (aK (nJ l m)))) ?_ ?_
 .intro N hN;simp only[cq,i7,ak,ae,aa];refine lQ he.is (@ah) λok bP=>?_;refine cj (xs:=m) (λpre τ G'=>(∃a b,τ=[@O,some e,@am,a,b])/\@H/\G' p=some (.eG (aK (nJ l pre)))) ⟨@aR,@ah,av⟩ (λpre τ G' h=>bP G' h.2.1) ?_ ?_
  .rintro pre x post τ G' N2 e2 ⟨⟨a,b,rfl⟩,le,gp⟩ jk;have hlen:(nJ l pre).length<SZ:=by
    have:=ux l pre;have:=je e2;lia
   simp only[hV,cY,aE,hW,aQ,aN,oY,ak,ai,ah,ae,aa,lG,ao,dC,aM,eU];refine⟨DZ (zR.ref gp),LM (zR.ref gp) ?_⟩;simp only[tR,cJ];refine cW (α:=Int) gp hlen ?_;refine jk _ _ ⟨@aR,le.put hp,?_⟩;rw[av];unfold nJ plus;rw[fO];rfl
  .rintro τ G' ⟨⟨a,b,rfl⟩,le,gp⟩;exact hN _ _ ⟨@aR,le,gp⟩
 .rintro _ G' ⟨⟨a,b,rfl⟩,le,gp⟩;simp only[cb,bZ,bb,ao,ak,ae,aa,aM];refine fH le hp gp ?_;refine⟨_,nJ l m,rfl,⟨rfl,AV hd.nd⟩,by have:=ux l m;lia,λp2 mK=>?_⟩;exact kW (.new mK) mK av q
def fF:jl:=λds G Q _=>∃(d:D) (l:Po) (b f:Int),ds=[d,.int b,.int f]/\Pl G d l/\l.length<=SZ/\(fG l<mM/\f.natAbs<mM)/\fy G (.eG (aK (gb l b f))) Q
def AB:gj :=
 (bz (aQ hX (aE 3))
 (bz (cq (i7 @n) (hV (cY (aE 4) (cY (aE 5) hW))) (aQ (aN wA (ak 5) @q) (eU @z (aN fx @F @p))))
 (cb (bZ (bb fE (ao (bZ @z) aM))))))
noncomputable def F4(b f:Int)(l:Po):Po:=l.map λp=>(p.1+b,p.2*f)
theorem Av(b f)(h:ND l)(e:l=pre++p::post):du (F4 b f pre) (p.1+b) (p.2*f)=F4 b f (pre++[p]):=by
 rw[jF,F4,F4,aU];rfl;intro z;unfold F4 at z;rw[bw] at z;obtain⟨r,hr,er⟩:=List.mem_map.mp z;have:r.1=p.1:=by have:r.1+b=p.1+b:=er;lia
 exact Wl h e (this ▸ bE hr)
theorem KP(ds)(G)(Q)(h:fF ds G Q @j):AB (@j) @N (aY 6 ds) G:=by
 obtain⟨d,l,b,f,rfl,hd,hl,⟨hb,hf⟩,q⟩:=h;unfold AB;simp only[ends,aY,aw,aR,aj,ax,aP,aH,aL,bG,aQ,hX,aE,ai,ah];intro p hp;refine dB (λτ G'=>(∃u v,τ=[@O,some (.int b),some (.int f),@am,u,v])/\@H/\G' p=some (.eG (aK (F4 b f l)))) ?_ ?_
 .intro N hN;simp only[cq,i7,ak,aa];refine lQ hd.is (@ah) λok bP=>?_;refine cj (xs:=l) (λpre τ G'=>(∃u v,τ=[@O,some (.int b),some (.int f),@am,u,v])/\@H/\G' p=some (.eG (aK (F4 b f pre)))) ⟨@aR,@ah,av⟩ (λpre τ G' h=>bP G' h.2.1) ?_ ?_
  .rintro pre x post τ G' N2 e ⟨⟨u,v,rfl⟩,le,gp⟩ jk;have hlen:(F4 b f pre).length<SZ:=by
    have:=je e;unfold F4;rw[ar];lia
   have hx:x.2.natAbs<mM:=dS (uz (@aF)) hb;simp only[hV,cY,aE,hW,aQ,aN,ak,ai,ah,tR,ae,aa,eU,cJ,lu];refine⟨⟨hx,hf⟩,?_⟩;refine cW (α:=Int) gp hlen ?_;exact jk _ _ ⟨@aR,le.put hp,by rw[av,<-Av b f hd.nd e]⟩
  .rintro τ G' ⟨⟨u,v,rfl⟩,le,gp⟩;exact hN _ _ ⟨@aR,le,gp⟩
 .rintro _ G' ⟨⟨u,v,rfl⟩,le,gp⟩;simp only[cb,bZ,bb,ao,ak,ae,aa,aM];refine fH le hp gp ?_;refine⟨_,F4 b f l,rfl,⟨rfl,Aw hd.nd b f⟩,by unfold F4;rw[ar];exact hl,λp2 mK=>?_⟩;exact kW (.new mK) mK av q
def iL:jl:=λds G Q _=>∃(d e:D) (l m:Po),ds=[d,e]/\Pl G d l/\Pl G e m/\l.length*m.length<=SZ/\(fG l<mM/\fG m<mM)/\fy G (.eG (aK (gE l m))) Q
def Gi:gj :=
 (bz (aQ hX (aE 2))
 (bz (cq (i7 @n) (hV (cY (aE 3) (cY (aE 4) hW))) (cq (i7 @p) (hV (cY (aE 5) (cY (aE 6) hW))) (bz (aQ (aN fx @z (ak 5)) (aE 7))
 (aQ (aN fx (oY MT zo @q (ao (ak 7) (ao @L aM))) (aN wA @F (ak 6))) (eU @q (ak 7))))))
 (cb (bZ (bb fE (ao (bZ @q) aM))))))
theorem LL(e:l=pre++x::post)(e2:m=mp++y::mq)(a)(ha:a.length<=pre.length*m.length):(mi mp a x).length<l.length*m.length:=by
 have h1:=Gu mp a x;have h2:=je e;have h3:=je e2;have h4:(pre.length+1)*m.length<=l.length*m.length:=iQ _ h2;rw[Nat.succ_mul] at h4;lia
theorem Dt(m):∀(l:Po),(l.foldl (mi m) []).length<=l.length*m.length:=λl=>oO l m
theorem SG(ds)(G)(Q)(h:iL ds G Q @j):Gi (@j) @N (aY 8 ds) G:=by
 obtain⟨d,e,l,m,rfl,hd,he,hl,⟨hb,hf⟩,q⟩:=h;unfold Gi;simp only[ends,aY,aw,aR,aj,ax,aP,aH,aL,bG,aQ,hX,aE,ai,ah];intro p hp;refine dB (λτ G'=>(∃a1 a2 a3 a4 a5,τ=[@O,some e,@am,a1,a2,a3,a4,a5])/\@H/\G' p=some (.eG (aK (lJ l m)))) ?_ ?_
 .intro N hN;simp only[cq,i7,ak,aa];refine lQ hd.is (@ah) λok bP=>?_;refine cj (xs:=l) (λpre τ G'=>(∃a1 a2 a3 a4 a5,τ=[@O,some e,@am,a1,a2,a3,a4,a5])/\@H/\G' p=some (.eG (aK (pre.foldl (mi m) [])))) ⟨⟨_,_,_,_,_,rfl⟩,@ah,av⟩ (λpre τ G' h=>bP G' h.2.1) ?_ ?_
  .rintro pre x post τ G' N2 e1 ⟨⟨a1,a2,a3,a4,a5,rfl⟩,le,gp⟩ jk;have hx:x.2.natAbs<mM:=dS (uz (by rw[e1];simp)) hb;simp only[hV,cY,aE,hW,cq,i7,ak,ai,ah,tR,ae,aa];refine lQ he.is le λok2 Yv=>?_;refine cj (xs:=m) (λmp τ G'=>(∃a3 a4 a5,τ=[@O,some e,@am,some (.int x.1),some (.int x.2),a3,a4,a5])/\@H/\G' p=some (.eG (aK (mi mp (pre.foldl (mi m) []) x)))) ⟨⟨_,_,_,rfl⟩,le,gp⟩ (λpre τ G' h=>Yv G' h.2.1) ?_ ?_
   .rintro mp y mq τ G2 N3 e2 ⟨⟨b3,b4,b5,rfl⟩,Cs,Fv⟩ Bk;have hlen:=bu (LL e1 e2 (pre.foldl (mi m) []) (Dt m pre)) hl;have hy:y.2.natAbs<mM:=dS (uz (by rw[e2];simp)) hf;simp only[hV,cY,aE,hW,ai,ah,tR,bG,aQ,aN,ak,ae,aa,oY,lG,ao,dC,aM,eU,lu,cJ];refine⟨DZ (zR.ref Fv),LM (zR.ref Fv) ?_⟩;simp only[cJ];refine⟨⟨hx,hy⟩,?_⟩;refine cW (α:=Int) Fv hlen ?_;refine Bk _ _ ⟨⟨_,_,_,rfl⟩,Cs.put hp,?_⟩;rw[av]
    conv=>rhs;rw[mi,fO]
    rfl
   .rintro τ G2 ⟨⟨b3,b4,b5,rfl⟩,Cs,Fv⟩;refine jk _ _ ⟨⟨_,_,_,_,_,rfl⟩,Cs,?_⟩;rw[Fv,fO];rfl
  .rintro τ G' ⟨⟨a1,a2,a3,a4,a5,rfl⟩,le,gp⟩;exact hN _ _ ⟨⟨_,_,_,_,_,rfl⟩,le,gp⟩
 .rintro _ G' ⟨⟨a1,a2,a3,a4,a5,rfl⟩,le,gp⟩;simp only[cb,bZ,bb,ao,ak,ae,aa,aM];refine fH le hp gp ?_;refine⟨_,lJ l m,rfl,⟨rfl,vz l m⟩,bh (oO l m) hl,λp2 mK=>?_⟩;exact kW (.new mK) mK av q
def gV:jl:=λds G Q _=>∃(d:D) (l:Po) (n:Nat),ds=[d,.int n]/\Pl G d l/\(n<=1000/\∀k,k<n->l.length ^ k*l.length<=SZ/\fG l ^ k<mM)/\fG l<mM/\fy G (.eG (aK (cp l n))) Q
def CU:gj :=
 (bz (aQ (rM @L @B) (aE 2))
 (bz (cq (qm @p) (aE 3) (aQ (bb iL (ao (bZ @q) (ao (bZ @n) aM))) (aE 2)))
 (cb (bZ @q))))
theorem Oz(ds)(G)(Q)(h:gV ds G Q @j):CU (@j) @N (aY 4 ds) G:=by
 obtain⟨d,l,n,rfl,hd,⟨hn,hk⟩,hb,q⟩:=h;unfold CU;simp only[ends,aY,aw,aR,aj,ax,aP,aH,aL,bG,aQ,rM,dC,aE,ai,ah];refine⟨rfl,λp0 Ct=>?_⟩;refine dB (λτ G'=>(∃a p,τ=[@O,some (.int n),@am,a]/\G p=none/\G' p=some (.eG (aK (cp l n))))/\@H) ?_ ?_
 .intro N hN;simp only[cq,jB,ak,ae,aa,gX];refine⟨@f,@f,?_⟩;rw[ff];refine RW (λpre τ G'=>(∃a p,τ=[@O,some (.int n),@am,a]/\G p=none/\G' p=some (.eG (aK (cp l pre.length))))/\@H) ⟨⟨_,p0,rfl,Ct,av⟩,.new Ct⟩ @aj ?_ ?_
  .rintro pre x post τ G' N2 e1 ⟨⟨a,p,rfl,hp,gp⟩,le⟩ jk;obtain⟨rfl,yf⟩:=AI e1;obtain⟨h1,h2⟩:=hk pre.length yf;simp only[aE,aQ,bb,ao,bZ,ak,ai,ah,ae,aa,aM];refine fH le hp gp (cO ?_);refine⟨_,d,cp l pre.length,l,rfl,⟨rfl,mU _ _⟩,hd,bh (iQ _ (qP l _)) h1,⟨dS (km l _) h2,hb⟩,λp2 mK=>?_⟩;refine jk _ _ ⟨⟨_,p2,rfl,mK,?_⟩,.new mK⟩;rw[av,aB];rfl
  .rintro τ G' ⟨⟨a,p,rfl,hp,gp⟩,le⟩;rw[show(gC 0 n).length=n by simp[gC]] at gp;exact hN _ _ ⟨⟨_,p,rfl,hp,gp⟩,le⟩
 .rintro _ G' ⟨⟨a,p,rfl,hp,gp⟩,le⟩;simp only[cb,bZ,ak,ae,aa];exact kW le hp gp q
end Y
namespace Y
def sY:gj :=
 (bz (fT (gy (aN Z9 @p (jJ pR (ao @n aM)))) (cb (bZ (aN gq @n @p))) dj)
 (cb (bZ @L)))
noncomputable def iP(ns:@u)(k:Int):Int:=ns.getD k.toNat 0
def bS:jl:=λds G Q _=>∃(ns:@u) (k:Int),ds=[.dF (@aQ),.int k]/\0<=k/\Q (.int (iP ns k)) G
theorem BW(ds)(G)(Q)(h:bS ds G Q @j):sY (@j) @N (aY 2 ds) G:=by
 obtain⟨ns,k,rfl,h0,q⟩:=h;unfold sY;simp only[bz,fT,aY,aw,aR,aj,ax,aH,aL,cb,bZ,aN,ak,aa,ae,ends,jz,dj,dC,cD,jJ,ao,aM,nY,um,bJ];split
 .rename_i h;have h1:k<(@aQ).length:=@bc
  rw[rC _ h0 h1];simp only[gm];rw[ar] at h1;have e:iP ns k=ns[k.toNat]:=by unfold iP;rw[cA,aA @c];rfl
  rw[<-e];exact cO q
 .rename_i h;have h1:¬ k<(@aQ).length:=@bc
  rw[ar] at h1;have e:iP ns k=0:=by unfold iP;rw[cA,fY @c];rfl
  rw[<-e];exact cO q
def wu:gj :=
 (cb (bZ (HP (HM "int" @n) (Mm (HM "bool" @n)))))
def eK:jl:=λds G Q _=>∃i:Int,ds=[@A]/\Q (.bl true) G
theorem Ff(ds)(G)(Q)(h:eK ds G Q @j):wu (@j) @N (aY 1 ds) G:=by
 obtain⟨i,rfl,q⟩:=h;unfold wu;simp only[cb,bZ,aY,aw,aR,aj,ax,aH,aL,ends,qv,qu,oZ,ak,aa,ql,bJ];simpa using cO q
def yK:gj :=
 (cb (bZ (aN pN (aN pN (aN wB @n (dC (.int 48271))) @p) @q)))
noncomputable def pick(c p m:Int):Int:=c*48271 % p % m
def cN:jl:=λds G Q _=>∃c p m:Int,ds=[.int c,.int p,.int m]/\(0<p/\0<m)/\Q (.int (pick c p m)) G
theorem Ir(ds)(G)(Q)(h:cN ds G Q @j):yK (@j) @N (aY 3 ds) G:=by
 obtain⟨c,p,m,rfl,⟨hp,hm⟩,q⟩:=h;unfold yK;simp only[cb,bZ,aN,ak,aY,aw,aR,aj,ax,aH,aL,aa,dC,ae,ends,jy,fL];exact⟨.inr ⟨@d,@d⟩,hp,hm,cO q⟩
theorem jb(c p)(h:0<m):0<=pick c p m:=kd _ @c
theorem jd(c p)(h:0<m):pick c p m<m:=ig _ h
def yI:gj :=
 (bz (fT (nW (gy (HM "dict" @n))) (cb (bZ (dC (.bl false)))) dj)
 (bz (cq (gx @n) (aE 1) (fT (IT (nW (gy (bb eK (ao @p aM)))) (IT (nW (gy (bb eK (ao (aN gq @n @p) aM)))) (gy (aN (Cq false) (aN gq @n @p) @L)))) (cb (bZ (dC (.bl false)))) dj))
 (cb (bZ (dC (.bl true))))))
def oK:jl:=λds G Q _=>∃(d:D) (l:Po),ds=[d]/\Pl G d l/\NZ l/\Q (.bl true) G
theorem Ip(ds)(G)(Q)(h:oK ds G Q @j):yI (@j) @N (aY 2 ds) G:=by
 obtain⟨d,l,rfl,hd,hz,q⟩:=h;unfold yI;refine dB (λτ G'=>τ=[@O,none]/\G=G') ?_ ?_
 .intro N hN;simp only[fT,nW,aY,aw,aR,aj,ax,aP,aH,aL,cb,bZ,dC,ends,dj,cD,oZ,ak,aa];refine Rh (G:=G) hd.is.p ?_;simp only[beq_self_eq_true,bJ,bg,au,if_false];exact hN _ _ @aS
 rintro _ _ ⟨rfl,rfl⟩;refine dB (λτ G'=>(∃a,τ=[@O,a])/\G=G') ?_ ?_
 .intro N hN;simp only[cq,gx,ak,aa,ends];refine lC hd.is (.refl _) λok bP=>?_;refine cj (xs:=l) (λpre τ G'=>(∃a,τ=[@O,a])/\G=G') ⟨@I,rfl⟩ (λpre τ G' h=>bP G' (by rw[<-h.2];exact .refl _)) ?_ ?_
  .rintro pre x post τ G' N2 e ⟨⟨a,rfl⟩,rfl⟩ jk;have hm:x∈l:=@aF
   have hx:=lV hd.nd hm;simp only[aE,fT,IT,nW,ai,ah,cb,bZ,dC,dj,if_true,cD,aN,ak,aa,ae,bb,ao,aM];refine⟨_,rfl,?_⟩;simp only[bJ,bg,au,if_false];refine wD hd.is.p hx ⟨x.2,rfl,?_⟩;simp only[bJ,bg,au,if_false];refine wD hd.is.p hx ⟨_,_,@P,@P,?_⟩;simp only[au,EJ,hz x hm,decide_false,cL,if_false,bJ];exact jk _ _ ⟨@I,rfl⟩
  .rintro τ G' ⟨⟨a,rfl⟩,rfl⟩;exact hN _ _ ⟨@I,rfl⟩
 .rintro _ _ ⟨⟨a,rfl⟩,rfl⟩;simp only[cb,bZ,dC,ends];exact cO q
def wx:gj :=
 (bz (aQ hX (aE 1))
 (bz (cq (gx @n) (aE 2) (fT (gy (aN (Cq true) (aN gq @n @q) @L)) (aQ (aN gq @n @q) (eU @p @q)) dj))
 (cb (bZ @p))))
def fJ:jl:=fE
theorem Fg(ds)(G)(Q)(h:fJ ds G Q @j):wx (@j) @N (aY 3 ds) G:=by
 obtain⟨d,l,rfl,hd,hl,q⟩:=h;unfold wx;simp only[ends,aY,aw,aR,aj,ax,aP,aH,aL,bG,aQ,hX,aE,ai,ah];intro p hp;refine dB (λτ G'=>(∃a,τ=[@O,@am,a])/\@H/\G' p=some (.eG (aK (gf l)))) ?_ ?_
 .intro N hN;simp only[cq,gx,ak,aa];refine lC hd.is (@ah) λok bP=>?_;refine cj (xs:=l) (λpre τ G'=>(∃a,τ=[@O,@am,a])/\@H/\G' p=some (.eG (aK (gf pre)))) ⟨@I,@ah,av⟩ (λpre τ G' h=>bP G' h.2.1) ?_ ?_
  .rintro pre x post τ G' N2 e ⟨⟨a,rfl⟩,le,gp⟩ jk;have hlen:(gf pre).length<SZ:=by
    have:=qc pre;have:=je e;lia
   have hm:x∈l:=@aF
   have hx:=lV hd.nd hm;simp only[aE,fT,ai,ah,aQ,aN,ak,aa,ae,eU,dj,cD,dC];refine wD hd.is.p hx ⟨_,_,@P,@P,?_⟩;simp only[EJ,if_true,bJ];by_cases hz:x.2=0
   .simp only[hz,decide_true,bg,au,if_false];exact jk _ _ ⟨@I,le,by rw[AR hz];exact gp⟩
   .simp only[hz,decide_false,cL,if_true];refine wD hd.is.p hx ?_;refine cW (α:=Int) gp hlen ?_;exact jk _ _ ⟨@I,le.put hp,by rw[av,<-AQ hd.nd e hz]⟩
  .rintro τ G' ⟨⟨a,rfl⟩,le,gp⟩;exact hN _ _ ⟨@I,le,gp⟩
 .rintro _ G' ⟨⟨a,rfl⟩,le,gp⟩;simp only[cb,bZ,ak,ae,aa];exact kW le hp gp q
def sX:gj :=
 (bz (aQ hX (aE 2))
 (bz (cq (gx @n) (aE 3) (cq (gx @p) (aE 4) (aQ (aN fx (oY MT zo @q (ao (aN fx @z @F) (ao @L aM))) (aN wA (aN gq @n @z) (aN gq @p @F))) (eU @q (aN fx @z @F)))))
 (cb (bZ (bb fJ (ao (bZ @q) aM))))))
def jx:jl:=iL
theorem BV(ds)(G)(Q)(h:jx ds G Q @j):sX (@j) @N (aY 5 ds) G:=by
 obtain⟨d,e,l,m,rfl,hd,he,hl,⟨hb,hf⟩,q⟩:=h;unfold sX;simp only[ends,aY,aw,aR,aj,ax,aP,aH,aL,bG,aQ,hX,aE,ai,ah];intro p hp;refine dB (λτ G'=>(∃a1 a2,τ=[@O,some e,@am,a1,a2])/\@H/\G' p=some (.eG (aK (lJ l m)))) ?_ ?_
 .intro N hN;simp only[cq,gx,ak,aa];refine lC hd.is (@ah) λok bP=>?_;refine cj (xs:=l) (λpre τ G'=>(∃a1 a2,τ=[@O,some e,@am,a1,a2])/\@H/\G' p=some (.eG (aK (pre.foldl (mi m) [])))) ⟨@aR,@ah,av⟩ (λpre τ G' h=>bP G' h.2.1) ?_ ?_
  .rintro pre x post τ G' N2 e1 ⟨⟨a1,a2,rfl⟩,le,gp⟩ jk;have hm1:x∈l:=by rw[e1];simp
   have hx:x.2.natAbs<mM:=dS (uz hm1) hb;simp only[aE,cq,gx,ak,ai,ah,ae,aa];refine lC he.is le λok2 Yv=>?_;refine cj (xs:=m) (λmp τ G'=>(∃a2,τ=[@O,some e,@am,some (.int x.1),a2])/\@H/\G' p=some (.eG (aK (mi mp (pre.foldl (mi m) []) x)))) ⟨@I,le,gp⟩ (λpre τ G' h=>Yv G' h.2.1) ?_ ?_
   .rintro mp y mq τ G2 N3 e2 ⟨⟨b2,rfl⟩,Cs,Fv⟩ Bk;have OZ:y∈m:=by rw[e2];simp
    have hlen:=bu (LL e1 e2 (pre.foldl (mi m) []) (Dt m pre)) hl;have hy:y.2.natAbs<mM:=dS (uz OZ) hf;simp only[aE,aQ,aN,oY,ak,ai,ah,ae,aa,lG,ao,dC,aM,eU,cJ];refine⟨DZ (zR.ref Fv),LM (zR.ref Fv) ?_⟩;refine wD hd.is.p (lV hd.nd hm1) (wD he.is.p (lV he.nd OZ) ?_);refine⟨⟨hx,hy⟩,?_⟩;refine cW (α:=Int) Fv hlen ?_;refine Bk _ _ ⟨@I,Cs.put hp,?_⟩;rw[av]
    conv=>rhs;rw[mi,fO]
    rfl
   .rintro τ G2 ⟨⟨b2,rfl⟩,Cs,Fv⟩;refine jk _ _ ⟨@aR,Cs,?_⟩;rw[Fv,fO];rfl
  .rintro τ G' ⟨⟨a1,a2,rfl⟩,le,gp⟩;exact hN _ _ ⟨@aR,le,gp⟩
 .rintro _ G' ⟨⟨a1,a2,rfl⟩,le,gp⟩;simp only[cb,bZ,bb,ao,ak,ae,aa,aM];refine fH le hp gp ?_;refine⟨_,lJ l m,rfl,⟨rfl,vz l m⟩,bh (oO l m) hl,λp2 mK=>?_⟩;exact kW (.new mK) mK av q
noncomputable def N60:Int:=10 ^ 60
def aaq(c:Int):Int:=if pick c 10009 4=1 then c*48271 % (2*N60-1)-(N60-1) else pick c 10037 11-5
def number(c:Int):Int:=if aaq c=0 then 7 else aaq c
end Y
namespace KS
open K2.T
open K2.P (names handOf Lj kl)
open K2.Y (iP pick jb jd bS eK cN iV je)
theorem gJ [@U] [Enc α](rs:List (@v)):(enc rs:D)=.dF ((rs.map λr=>r.map enc).map D.dF):=by
 show D.dF _=_;rw[bw];rfl
def oN:gj :=
 (cb (bZ (gO 1 [] (ko @n) (aE 0) none (jJ rN (ao @n aM)))))
def fg:jl:=λds G Q _=>∃rs:List (@e),ds=[.dF (rs.map D.dF)]/\rs.length<=1000/\∀G' p0 as,HL G G' p0 as rs->Q (.ref p0) G'
theorem pB(ds)(G)(Q)(h:fg ds G Q @j):oN (@j) @N (aY 1 ds) G:=by
 obtain⟨rs,rfl,hl,q⟩:=h;unfold oN;simp only[cb,bZ,gO,aY,aw,aR,aj,ax,aH,aL,ends,dW,ak,aa,oV];refine⟨Lf (by rw[ar];exact hl),?_⟩;refine nX (xs:=rs) (λpre acc τ G'=>(∃a,τ=[a])/\∃as:List Nat,acc=as.map D.ref/\@H/\as.Nodup/\(∀a∈as,G a=none)/\as.length=pre.length/\(∀(i a:Nat) (r:@e),as[i]?=some a->pre[i]?=some r->G' a=some (.lst r))) ?_ (λ_ _ _ _ _=>trivial) ?_ ?_
 .exact⟨@I,[],rfl,.refl G,bR,λ_ h=>by(cases h),rfl,λi a r h=>by simp at h⟩
 .rintro pre r post acc τ G' N e ⟨⟨a,rfl⟩,as,rfl,le,nd,fr,ln,Fu⟩ hN;simp only[aE,jJ,ao,ak,ah,aa,aM];refine Ib (IsL.dF) λp hp=>?_;have hna:p∉as:=λz=>by
   obtain⟨i,hi⟩:=pG z;have h1:i<pre.length:=by rw[<-ln];exact(List.getElem?_eq_some_iff.mp hi).1
   have:=Fu i p pre[i] hi (aA h1);rw[hp] at this;cases this
  refine hN _ _ _ ⟨@I,as++[p],@G,le.trans (@ah),?_,λb hb=>?_,by rw[aB,aB,ln];rfl,λi b r2 h1 h2=>?_⟩
  .rw[bY];exact⟨nd,@G,λx hx y hy=>by rw[bF] at hy;subst hy;intro z;exact hna (z ▸ hx)⟩
  .rcases List.mem_append.mp hb with z |z
   .exact fr b z
   .rw[bF] at z;rw[z];exact le.free hp
  ·by_cases hi:i<as.length
   .rw[dc hi] at h1;rw[dc (by rw[<-ln];exact hi)] at h2;have:=Fu i b r2 h1 h2;exact(dH.new hp) _ _ this
   .rw[cy @c] at h1;rw[cy @c] at h2;have:i-as.length=0:=by
     have:=(List.getElem?_eq_some_iff.mp h1).1;simp at this;lia
    rw[this] at h1;rw[show i-pre.length=0 by lia] at h2;simp at h1 h2;subst h1 h2;exact av
 .rintro acc τ G' ⟨⟨a,rfl⟩,as,rfl,le,nd,fr,ln,Fu⟩ p hp;have hna:p∉as:=λz=>by
   obtain⟨i,hi⟩:=pG z;have h1:i<rs.length:=by rw[<-ln];exact(List.getElem?_eq_some_iff.mp hi).1
   have:=Fu i p rs[i] hi (aA h1);rw[hp] at this;cases this
  refine cO (q _ p as ⟨le.trans (@ah),le.free hp,av,hna,nd,fr,ln,λi b r h1 h2=>?_⟩);exact(dH.new hp) _ _ (Fu i b r h1 h2)
noncomputable def fnx(n:Int):Int:=n % 999+1
noncomputable def fit(n:Int):Nat->Int
 |0=>n
 |k+1=>fnx (fit n k)
theorem yj(h1:1<=n)(h2:n<=999):∀k:Nat,fit n k=(n-1+k) % 999+1
 |0=>by show n=_;lia
 |k+1=>by
  show fnx (fit n k)=_;rw[yj h1 h2 k];unfold fnx;lia
theorem Hz{ns:@u}(h1:1<=n)(h2:n<=999)(hl:ns.length<=500):∃k,k<=ns.length/\fit n k∉ns:=by
 apply fK;intro hno;have xb:∀k,k<=ns.length->fit n k∈ns:=λk hk=>fK λz=>hno ⟨k,hk,z⟩;have nd:((eV (ns.length+1)).map λk=>fit n k).Nodup:=by
  refine List.pairwise_iff_getElem.mpr λi j hi hj Kf=>?_;simp only[ar,ua] at hi hj;rw[gm,gm,rR,rR,yj h1 h2,yj h1 h2];lia
 have:=iV _ ns nd λx hx=>by
  obtain⟨k,hk,rfl⟩:=List.mem_map.mp hx;exact xb k (by have:=List.mem_range.mp hk;lia)
 simp at this;lia
def eE:jl:=λds G Q _=>∃(d:D) (ns:@u) (n:Int),ds=[d,.int n]/\IsL G d (@aQ)/\(ns.length<=500/\1<=n/\n<=999)/\∀m:Int,m∉ns->1<=m->m<=999->Q (.int m) G
theorem Gm{G:Gp}{d:D}{ns:@u}{i:Int}{Q:DK}(h:IsL G d (@aQ))(k:Q (.bl (decide (i∈ns))) G):Cp false (@A) d G Q:=by
 have e:(@aQ).any (λx=>jC x (@A))=decide (i∈ns):=VR ns i;rcases h with rfl |⟨a,rfl,g⟩
 .refine⟨@A,@aQ,@P,Sn.rI ns,?_⟩;simp only[au,if_false];rw[e];exact k
 .unfold Cp;simp only[g];refine⟨@A,@aQ,@P,Sn.rI ns,?_⟩;simp only[au,if_false];rw[e];exact k
noncomputable abbrev dT(t:Tb):List (@e):=t.map λr=>r.map D.int
end KS
namespace KS
open K2.T
open K2.P (names handOf Lj kl)
open K2.Y (iP pick jb jd bS eK cN iV je)
structure AL(G G':Gp)(as:List Nat)(rs:List (@e)):Prop where
 le:@H
 nd:as.Nodup
 fr:∀a∈as,G a=none
 len:as.length=rs.length
 at':∀(i a:Nat) (r:@e),as[i]?=some a->rs[i]?=some r->G' a=some (.lst r)
theorem AL.nil(G):AL G G [] []:=⟨.refl G,bR,λ_ h=>by(cases h),rfl,λi a r h=>by simp at h⟩
theorem AL.new(h:AL G G' as rs)(hp:G' p=none):p∉as:=λz=>by
 obtain⟨i,hi⟩:=pG z;have h1:i<rs.length:=by rw[<-h.len];exact(List.getElem?_eq_some_iff.mp hi).1
 have:=h.at' i p rs[i] hi (aA h1);rw[hp] at this;cases this
theorem AL.push(h:AL G G' as rs)(hp:G' p=none)(r):AL G (di G' p (.lst r)) (as++[p]) (rs++[r]):=by
 refine⟨h.le.trans (@ah),?_,λb hb=>?_,by rw[aB,aB,h.len];rfl,λi b r2 h1 h2=>?_⟩
 .rw[bY];exact⟨h.nd,@G,λx hx y hy=>by rw[bF] at hy;subst hy;intro z;exact h.new hp (z ▸ hx)⟩
 .rcases List.mem_append.mp hb with z |z
  .exact h.fr b z
  .rw[bF] at z;rw[z];exact h.le.free hp
 ·by_cases hi:i<as.length
  .rw[dc hi] at h1;rw[dc (by rw[<-h.len];exact hi)] at h2;exact(dH.new hp) _ _ (h.at' i b r2 h1 h2)
  .have ln:=h.len;rw[cy @c] at h1;rw[cy @c] at h2;have:i-as.length=0:=by
    have:=(List.getElem?_eq_some_iff.mp h1).1;simp at this;lia
   rw[this] at h1;rw[show i-rs.length=0 by lia] at h2;simp at h1 h2;subst h1 h2;exact av
theorem AL.top(h:AL G G' as rs)(hp:G' p=none):HL G (di G' p (.lst (as.map D.ref))) p as rs :=
 ⟨h.le.trans (@ah),h.le.free hp,av,h.new hp,h.nd,h.fr,h.len,λi b r h1 h2=>(dH.new hp) _ _ (h.at' i b r h1 h2)⟩
theorem pj:BJ i t E K τ G=t E {K with nx:=λqH G1=>match qH[i]? with
 |some (some d)=>OE G1 d λt G2=>K.nx (qH.set i (some t)) G2
 |_=>False} τ G:=rfl
end KS
namespace Tq
open K2.P
section
variable {α β:Type} [@U] [DecidableEq β]
structure Tr(V:@v)(R:α->α->Prop)(A:@v):Prop where
 pw:A.Pairwise λa b=>¬ R a b
 Oj:∀v∈V,∃a∈A,R v a
 in':∀a∈A,a∈V
def Nc(V:@v)(R:α->α->Prop)(k:Nat):Prop:=∃A,Tr V R A/\A.length=k
structure Eqv(R:α->α->Prop):Prop where
 rf:∀x,R x x
 sy:∀{x y},R x y->R y x
 tr:∀{x y z},R x y->R y z->R x z
theorem Kx(ps:List (α×α)):Eqv (Cn ps):=⟨λx=>.refl x,λh=>h.symm,λh k=>h.trans k⟩
variable {V:@v} {R:α->α->Prop}
theorem We{A:@v}(e:Eqv R)(h:A.Pairwise λa b=>¬ R a b)(ha:a∈A)(hb:b∈A)(r:R a b):a=b:=by
 induction A with
 |nil=>cases ha
 | cons x A ih=>
  rw[List.pairwise_cons] at h;rcases List.mem_cons.mp ha with rfl |ha2
  .rcases List.mem_cons.mp hb with rfl |hb
   .rfl
   .exact absurd r (h.1 b hb)
  .rcases List.mem_cons.mp hb with rfl |hb
   .exact absurd (e.sy r) (h.1 a ha2)
   .exact ih h.2 ha2 hb
theorem PN(e:Eqv R):∀(A B:@v),A.Pairwise (λa b=>¬ R a b)->(∀a∈A,∃b∈B,R a b)->A.length<=B.length
 |[],_,_,_=>cm _
 | a::A,B,h,hb=>by
  rw[List.pairwise_cons] at h;obtain⟨b,hbm,N8⟩:=hb a @i;have:=PN e A (B.erase b) h.2 λa' Vx=>by
   obtain⟨b',N7,r⟩:=hb a' (aI _ Vx);refine⟨b',(yB λz=>?_).mpr N7,r⟩;subst z;exact h.1 a' Vx (e.tr N8 (e.sy r))
  rw[lj hbm] at this;have:=mD hbm;rw[aj];lia
theorem Nc.uniq(e:Eqv R)(h1:Nc V R k)(h2:Nc V R l):k=l:=by
 obtain⟨A,a,rfl⟩:=h1;obtain⟨B,b,rfl⟩:=h2;exact Jg (PN e A B a.pw λx hx=>b.Oj x (a.in' x hx)) (PN e B A b.pw λx hx=>a.Oj x (b.in' x hx))
open Classical in
theorem Nc.ex(e:Eqv R):∀V:@v,∃k,Nc V R k
 |[]=>⟨0,[],⟨.nil,@G,@G⟩,rfl⟩
 | v::V=>by
  obtain⟨k,A,a,ea⟩:=Nc.ex e V;by_cases h:∃b∈A,R v b
  .refine⟨k,A,⟨a.pw,λx hx=>?_,λx hx=>aI _ (a.in' x hx)⟩,ea⟩;rcases List.mem_cons.mp hx with rfl |hx
   .exact h
   .exact a.Oj x hx
  .refine⟨k+1,v::A,⟨List.pairwise_cons.mpr ⟨λb hb r=>h ⟨b,hb,r⟩,a.pw⟩,λx hx=>?_,λx hx=>?_⟩,by rw[aj,ea]⟩
   .rcases List.mem_cons.mp hx with rfl |hx
    .exact⟨_,@G,e.rf _⟩
    .obtain⟨b,hb,r⟩:=a.Oj x hx;exact⟨b,aI _ hb,r⟩
   .rcases List.mem_cons.mp hx with rfl |hx
    .simp
    .exact aI _ (a.in' x hx)
theorem Nc.congr(h:∀x y,R x y↔R' x y)(n:Nc V R k):Nc V R' k:=by
 have:R=R':=by funext x y;exact propext (h x y)
 rw[<-this];exact n
theorem Nc.join(hx:x∈V)(hy:y∈V)(h1:Nc V (Cn ps) k)(h2:Nc V (Cn (ps++[(x,y)])) l):(Cn ps x y->l=k)/\(¬ Cn ps x y->k=l+1):=by
 constructor
 .intro c;refine Nc.uniq (Kx (ps++[(x,y)])) h2 (h1.congr λa b=>⟨λq=>q.mono λp hp=>dI _ hp,λq=>?_⟩);rcases Cn.more.mp q with q |⟨q1,q2⟩ |⟨q1,q2⟩
  .exact q
  .exact(q1.trans c).trans q2
  .exact(q1.trans c.symm).trans q2
 .intro nc;obtain⟨A,a,rfl⟩:=h1;obtain⟨b,hb,rb⟩:=a.Oj y hy;have e:=Kx ps;have nd:A.Nodup:=a.pw.imp λ{u v} q (z:u=v)=>q (z ▸ Cn.refl _);have:Nc V (Cn (ps++[(x,y)])) (A.erase b).length:=by
   refine⟨A.erase b,⟨?_,λv hv=>?_,λw hw=>a.in' w (List.mem_of_mem_erase hw)⟩,rfl⟩
   .refine(a.pw.sublist List.erase_sublist).imp_of_mem λ{u v} hu hv q r=>?_;have Kb:=(nd.mem_erase_iff.mp hu);have hv':=(nd.mem_erase_iff.mp hv);rcases Cn.more.mp r with r |⟨r1,r2⟩ |⟨r1,r2⟩
    .exact q r
    .exact hv'.1 (We e a.pw hv'.2 hb (r2.symm.trans rb))
    .exact Kb.1 (We e a.pw Kb.2 hb (r1.trans rb))
   .obtain⟨u,hu,ru⟩:=a.Oj v hv;by_cases z:u=b
    .subst z;obtain⟨w,hw,rH⟩:=a.Oj x hx;refine⟨w,nd.mem_erase_iff.mpr ⟨λz=>?_,hw⟩,Cn.more.mpr (.inr (.inr ⟨ru.trans rb.symm,rH⟩))⟩;subst z;exact nc (rH.trans rb.symm)
    .exact⟨u,nd.mem_erase_iff.mpr ⟨z,hu⟩,Cn.more.mpr (.inl ru)⟩
  have:=Nc.uniq (Kx _) h2 this;rw[lj hb] at this;have:=mD hb;lia
noncomputable def it(f:α->α):Nat->α->α
 |0,a=>a
 |n+1,a=>f (it f n a)
variable {f:α->α}
end
end Tq
namespace SQ
open K2.P K2.T
open K2.KS (AL fg fnx gJ pj)
open K2.Y (iP pick jb jd bS eK cN iV je)
def i8(L:@Z):@aC:=L.foldl (λl p=>du l p.a p.c) []
theorem VQ [@a0](l)(k:κ)(v:β):(du l k v).length<=l.length+1:=by
 by_cases h:∃p∈l,p.1=k
 .rw[E8 h];lia
 .rw[jF (λz=>by obtain⟨p,hp,e⟩:=List.mem_map.mp z;exact h ⟨p,hp,e⟩),aB];exact aG _
theorem lS:∀(L:@Z) (l:@aC),(L.foldl (λl p=>du l p.a p.c) l).length<=l.length+L.length
 |[],l=>@G
 |p::L,l=>by
  rw[ef];have h1:=lS L (du l p.a p.c);have h2:=VQ l p.a p.c;rw[aj];lia
theorem Ew{G G2:Gp}{d:D}{ds:@e}{R:@e->(@l)->@l}(h:IsL G d ds)(l:dH G G2)(k:∀ok:@l,(∀G',@H->ok G')->R ds ok G2):Te d G2 R:=by
 rcases h with rfl |⟨a,rfl,e⟩
 .exact k _ λ_ _=>trivial
 .rw[Ey (l _ _ e)];exact k _ λG' le=>le _ _ e
end SQ
namespace K12
open K2.P
variable {rows:Rows}
noncomputable def z3:T3:=⟨0,0,0⟩
def Ls(r:@Z)(k:Nat):T3:=if k=0 then r.getD (r.length-1) z3 else r.getD (k-1) z3
def B9(r:@Z)(ks:List Nat):@aW:=ks.map λk=>(Ls r k,r.getD k z3)
def zB(rows:Rows):@aW:=rows.flatMap λr=>B9 r (eV r.length)
theorem PY(r):(B9 r (eV r.length)).Perm (r.zip (iu r)):=by
 cases r with
 |nil=>exact .refl _
 | cons x t=>
  have zH:(x::t)≠[]:=@G
  have e1:B9 (x::t) (eV (x::t).length)=((x::t).getLast zH,x)::(x::t).dropLast.zip t:=by
   refine List.ext_getElem ?_ ?_
   .simp[B9]
   .intro i h1 h2;have eg:(B9 (x::t) (eV (x::t).length))[i]=(Ls (x::t) i,(x::t).getD i z3):=by simp[B9]
    rw[eg];have hi:i<(x::t).length:=by simpa[B9] using h1
    cases i with
    |zero=>
     simp only[List.getElem_cons_zero,sF];refine⟨?_,rfl⟩;unfold Ls;rw[if_pos rfl,cA,aA @i,List.getLast_eq_getElem];rfl
    |succ i=>
     rw[List.getElem_cons_succ,oH];refine OM ?_ ?_
     .show Ls (x::t) (i+1)=_;unfold Ls;rw[if_neg @c,cA,aA @c,List.getElem_dropLast];rfl
     .show (x::t).getD (i+1) z3=t[i]'(by simpa using hi);rw[cA,ae,aA (by simpa using hi)];rfl
  have e2:(x::t).zip (iu (x::t))=(x::t).dropLast.zip t++[((x::t).getLast zH,x)]:=by
   have:iu (x::t)=t++[x]:=rfl;rw[this]
   conv=>lhs;arg 1;rw[<-List.dropLast_concat_getLast zH]
   rw[List.zip_append @i];rfl
  rw[e1,e2];exact xE (l₁:=[((x::t).getLast zH,x)])
theorem wJ(rows):(zB rows).Perm (@aY):=by
 unfold zB pairsOf;induction rows with
 |nil=>exact .refl _
 |cons r rs ih=>
  rw[cZ,cZ];exact(PY r).append ih
theorem E6{r:@Z}(h:k<r.length):rD (r.map (enc:T3->D)) (0+(k:Int))=some (enc (r.getD k z3)):=by
 rw[rC _ @c (by rw[ar];lia),gm];congr 2;rw[cA,aA h];show r[(0+(k:Int)).toNat]=r[k];congr 1;lia
theorem E5{k:Nat}(h:k<r.length):rD (r.map (enc:T3->D)) (0+(k:Int)-1)=some (enc (Ls r k)):=by
 unfold Ls;by_cases hk:k=0
 .subst hk;rw[if_pos rfl];unfold rD J4;rw[ar,if_neg @c,if_pos @c];show(r.map enc)[_]?=_;have:(0+((0:Nat):Int)-1+(r.length:Int)).toNat=r.length-1:=@f
  rw[this,bx,cA,aA @c];rfl
 .rw[if_neg hk];have:=E6 (r:=r) (k:=k-1) @c;have e:(0+((k-1:Nat):Int))=0+(k:Int)-1:=@f
  rw[e] at this;exact this
theorem oP(rows):(zB rows).length<=rows.flatten.length:=by
 rw[(wJ rows).length_eq];exact pairs_len rows
theorem Lv(r)(ks):(B9 r ks).length=ks.length:=by unfold B9;rw[ar]
theorem Lu(e:rows=pre++r::post):(zB pre).length+r.length<=rows.flatten.length:=by
 have:=oP pre;rw[e];simp only[jm,gF,aB];lia
theorem Gr(pre)(r):zB (pre++[r])=zB pre++B9 r (eV r.length):=by unfold zB;simp
end K12
namespace SQ
open K2.P K2.T
open K2.Tq (Nc Kx)
open K2.KS (pj gJ fg)
open K2.Y (iP pick jb jd bS eK cN je)
variable {rows:Rows}
theorem xa:∀(L:@Z) (l:@aC) (n:Int),bL (L.foldl (λl p=>du l p.a p.c) l) n=(((L.reverse.find? λp=>decide (p.a=n)).map (·.c)).or (bL l n))
 |[],l,n=>@G
 | p::L,l,n=>by
  rw[ef,xa L,mQ,uc];cases h:L.reverse.find? λp=>decide (p.a=n) with
  |some q=>simp
  |none=>
   simp only[Option.map_none,Option.none_or,eu,List.find?_nil];rw[mW];by_cases c:p.a=n
   .simp[c]
   .simp[c]
theorem vH(d:Dr rows)(h:n∈@aB):bL (@aT) n=some (handOf rows n):=by
 unfold i8;rw[xa];obtain⟨p,hp,_,e⟩:=ly.mp h;cases q:rows.flatten.reverse.find? λp=>decide (p.a=n) with
 |none=>
  have:=List.find?_eq_none.mp q p (List.mem_reverse.mpr hp);simp[e] at this
 |some r=>
  have h1:=List.mem_reverse.mp (fU q);have h2:r.a=n:=by have:=l0 q;ext f
  subst h2;rw[L9 d h1];rfl
end SQ
namespace K31
open K2.Y
def lr:gj :=
 (bz (aQ (jJ vi (ao @n aM)) (aE 2))
 (bz (cq (gx @p) (aE 3) (aQ (aN fx (oY MT zo @q (ao @z (ao @L aM))) (aN gq @p @z)) (eU @q @z)))
 (cb (bZ (bb fJ (ao (bZ @q) aM))))))
def kj:jl:=gW
theorem oi(ds)(G)(Q)(h:kj ds G Q @j):lr (@j) @N (aY 4 ds) G:=by
 obtain⟨d,e,l,m,rfl,hd,he,hl,q⟩:=h;unfold lr;simp only[ends,aY,aw,aR,aj,ax,aP,aH,aL,bG,aQ,jJ,ao,ak,aa,aM,aE,ai,ah];refine BM hd.is.p @c λp hp=>?_;refine dB (λτ G'=>(∃a,τ=[@O,some e,@am,a])/\@H/\G' p=some (.eG (aK (nJ l m)))) ?_ ?_
 .intro N hN;simp only[cq,gx,ak,ae,aa];refine lC he.is (@ah) λok bP=>?_;refine cj (xs:=m) (λpre τ G'=>(∃a,τ=[@O,some e,@am,a])/\@H/\G' p=some (.eG (aK (nJ l pre)))) ⟨@I,@ah,av⟩ (λpre τ G' h=>bP G' h.2.1) ?_ ?_
  .rintro pre x post τ G' N2 e2 ⟨⟨a,rfl⟩,le,gp⟩ jk;have hm:x∈m:=by rw[e2];simp
   have hlen:(nJ l pre).length<SZ:=by
    have:=ux l pre;have:=je e2;lia
   simp only[aE,aQ,aN,oY,ak,ai,ah,ae,aa,lG,ao,dC,aM,eU];refine⟨DZ (zR.ref gp),LM (zR.ref gp) ?_⟩;refine wD he.is.p (lV he.nd hm) ?_;simp only[tR,cJ];refine cW (α:=Int) gp hlen ?_;refine jk _ _ ⟨@I,le.put hp,?_⟩;rw[av];unfold nJ plus;rw[fO];rfl
  .rintro τ G' ⟨⟨a,rfl⟩,le,gp⟩;exact hN _ _ ⟨@I,le,gp⟩
 .rintro _ G' ⟨⟨a,rfl⟩,le,gp⟩;simp only[cb,bZ,bb,ao,ak,ae,aa,aM];refine fH le hp gp ?_;refine⟨_,nJ l m,rfl,⟨rfl,AV hd.nd⟩,by have:=ux l m;lia,λp2 mK=>?_⟩;exact kW (.new mK) mK av q
end K31
namespace K33
open K2.Y
def jL:gj :=
 (bz (aQ hX (aE 3))
 (bz (cq (gx @n) (aE 4) (aQ (aN wA (aN gq @n @F) @q) (eU @z (aN fx @F @p))))
 (cb (bZ (bb fJ (ao (bZ @z) aM))))))
def iA:jl:=fF
theorem kX(ds)(G)(Q)(h:iA ds G Q @j):jL (@j) @N (aY 5 ds) G:=by
 obtain⟨d,l,b,f,rfl,hd,hl,⟨hb,hf⟩,q⟩:=h;unfold jL;simp only[ends,aY,aw,aR,aj,ax,aP,aH,aL,bG,aQ,hX,aE,ai,ah];intro p hp;refine dB (λτ G'=>(∃u,τ=[@O,some (.int b),some (.int f),@am,u])/\@H/\G' p=some (.eG (aK (F4 b f l)))) ?_ ?_
 .intro N hN;simp only[cq,gx,ak,aa];refine lC hd.is (@ah) λok bP=>?_;refine cj (xs:=l) (λpre τ G'=>(∃u,τ=[@O,some (.int b),some (.int f),@am,u])/\@H/\G' p=some (.eG (aK (F4 b f pre)))) ⟨@I,@ah,av⟩ (λpre τ G' h=>bP G' h.2.1) ?_ ?_
  .rintro pre x post τ G' N2 e ⟨⟨u,rfl⟩,le,gp⟩ jk;have hlen:(F4 b f pre).length<SZ:=by
    have:=je e;unfold F4;rw[ar];lia
   have hm:x∈l:=@aF
   have hx:x.2.natAbs<mM:=dS (uz hm) hb;simp only[aE,aQ,aN,ak,ai,ah,aa,ae,eU,cJ];refine wD hd.is.p (lV hd.nd hm) ?_;refine⟨⟨hx,hf⟩,?_⟩;refine cW (α:=Int) gp hlen ?_;exact jk _ _ ⟨@I,le.put hp,by rw[av,<-Av b f hd.nd e]⟩
  .rintro τ G' ⟨⟨u,rfl⟩,le,gp⟩;exact hN _ _ ⟨@I,le,gp⟩
 .rintro _ G' ⟨⟨u,rfl⟩,le,gp⟩;simp only[cb,bZ,bb,ao,ak,ae,aa,aM];refine fH le hp gp ?_;refine⟨_,F4 b f l,rfl,⟨rfl,Aw hd.nd b f⟩,by unfold F4;rw[ar];exact hl,λp2 mK=>?_⟩;exact kW (.new mK) mK av q
def factor(c:Int):Int:=if c % 4=1 then 0 else if c % 4=2 then 1 else number (c / 4)
end K33
namespace OB
open K2.P K2.T
open K2.Tq (Nc Kx)
open K2.Y
variable {rows:Rows}
noncomputable def LP:Po:=[(2,-1),(-2,-1)]
noncomputable def cn(h:T2->Int)(l:List (T2×Int)):Int:=(l.map λp=>p.2*h p.1).sum
end OB
end K2
end
section
set_option maxHeartbeats 1000000
namespace K2
namespace J
section
variable {α:Type} [@U]
def Iv(f:α->α):Prop:=∀e,f (f e)=e
noncomputable def jn(f:α->α)(x y:α):α->α:=λe=>if e=x\/e=y then e else if e=f x then f y else if e=f y then f x else f e
noncomputable def cl(f:α->α)(x y:α):Nat:=if f x=y then 1 else 0
theorem Q8{y:α}:jn f x y x=x:=if_pos (@W)
theorem Q7{y:α}:jn f x y y=y:=if_pos (.inr rfl)
theorem Et{y:α}:jn f x y=jn f y x:=by
 funext e;refine ite_congr (propext or_comm) (λ_=>rfl) λ_=>?_;by_cases a:e=f x
 .by_cases b:e=f y
  .rw[if_pos a,if_pos b,<-a,<-b]
  .rw[if_pos a,if_neg b,if_pos a]
 .rw[if_neg a,if_neg a]
theorem Q9(h:Iv f){z:α}(a:z≠x)(b:z≠y)(c:f z≠x)(d:f z≠y):jn f x y z=f z:=by
 unfold jn;rw[if_neg (not_or.2 ⟨a,b⟩),if_neg λe=>c (by rw[e,h]),if_neg λe=>d (by rw[e,h])]
theorem LV(h:Iv f){z:α}(a:z≠x)(b:z≠y)(c:f z=x):jn f x y z=f y:=by
 unfold jn;rw[if_neg (not_or.2 ⟨a,b⟩),if_pos (by rw[<-c,h])]
theorem Wu(h:Iv f){y:α}(hx:f x≠x)(hy:f y≠y)(Rp:x≠y):Iv (jn f x y):=by
 have K:∀{x y e},f y≠y->x≠y->e≠x->e≠y->f e=x->jn f x y (jn f x y e)=e:=λ{x y e} hy Rp a b c=>by
  rw[LV h a b c,Et,LV h hy (λq=>b (by rw[<-h e,c,<-q,h])) (h y),<-c,h]
 intro e;by_cases a:e=x
 .rw[a,Q8,Q8]
 by_cases b:e=y
 .rw[b,Q7,Q7]
 by_cases c:f e=x
 .exact K hy Rp a b c
 by_cases d:f e=y
 .rw[Et];exact K hx (dD Rp) b a d
 rw[Q9 h a b c d,Q9 h c d (by rw[h];exact a) (by rw[h];exact b),h]
theorem Ra(h:Iv f){e:α}(Rp:x≠y)(he:jn f x y e=e):e=x\/e=y\/f e=e:=by
 by_cases a:e=x
 .exact .inl a
 by_cases b:e=y
 .exact .inr (.inl b)
 by_cases c:f e=x
 .rw[LV h a b c] at he;exact absurd (by rw[<-c,<-he,h]) Rp
 by_cases d:f e=y
 .rw[Et,LV h b a d] at he;exact absurd (by rw[<-d,<-he,h]) (dD Rp)
 rw[Q9 h a b c d] at he;exact .inr (.inr he)
end
end J
end K2
end
section
set_option maxHeartbeats 1000000
namespace K2
namespace J
section
variable {α:Type} [@U]
abbrev Pr(α:Type):=List (α×α)
noncomputable def jI(f:α->α):Pr α->α->α
 |[]=>f
 |p::ps=>jI (jn f p.1 p.2) ps
noncomputable def cls(f:α->α):Pr α->Nat
 |[]=>0
 |p::ps=>cl f p.1 p.2+cls (jn f p.1 p.2) ps
noncomputable def es:Pr α->@v
 |[]=>[]
 |p::ps=>p.1::p.2::es ps
structure Ok(f:α->α)(ps:Pr α):Prop where
 iv:Iv f
 nd:(es ps).Nodup
 dm:∀e∈es ps,f e≠e
theorem uJ{qs:Pr α}(h:ps.Perm qs):(es ps).Perm (es qs):=by
 induction h with
 |nil=>exact .nil
 |cons x _ ih=>exact(ih.cons _).cons _
 | swap x y l=>
  show(y.1::y.2::x.1::x.2::es l).Perm (x.1::x.2::y.1::y.2::es l);have:∀(a b c d:α) (l:@v),(a::b::c::d::l).Perm (c::d::a::b::l):=λa b c d l=>by
   refine((mf c b _).cons a).trans ?_;refine(mf c a _).trans ?_;refine DT c ?_;refine((mf d b _).cons a).trans ?_;exact mf d a _
  exact this _ _ _ _ _
 |trans _ _ a b=>exact a.trans b
theorem ym(ps qs:Pr α):es (ps++qs)=es ps++es qs:=by
 induction ps with
 |nil=>rfl
 |cons p ps ih=>rw[aH,es,es,ih];rfl
theorem yk(ps:Pr α):(es ps).length=2*ps.length:=by
 induction ps with
 |nil=>rfl
 |cons p ps ih=>rw[es,aj,aj,ih,aj];lia
theorem jA{e:α}:e∈es ps↔∃p∈ps,e=p.1\/e=p.2:=by
 induction ps with
 |nil=>simp[es]
 | cons p ps ih=>
  rw[es,bA,bA,ih];constructor
  .rintro(h |h |⟨q,h,z⟩)
   .exact⟨p,@G,.inl h⟩
   .exact⟨p,@G,.inr h⟩
   .exact⟨q,aI _ h,z⟩
  .rintro⟨q,h,z⟩;rcases List.mem_cons.mp h with rfl |h
   .rcases z with z |z
    .exact .inl z
    .exact .inr (.inl z)
   .exact .inr (.inr ⟨q,h,z⟩)
theorem Ok.hd{ps:Pr α}(o:Ok f (p::ps)):p.1≠p.2/\f p.1≠p.1/\f p.2≠p.2:=by
 have n:=o.nd;rw[es,aW] at n;exact⟨λz=>n.1 (by rw[z];exact cw),o.dm _ (by simp[es]),o.dm _ (by simp[es])⟩
theorem Ok.tl{ps:Pr α}(o:Ok f (p::ps)):Ok (jn f p.1 p.2) ps:=by
 obtain⟨h1,h2,h3⟩:=o.hd;have n:=o.nd;rw[es,aW,aW] at n;refine⟨Wu o.iv h2 h3 h1,n.2.2,λe he z=>?_⟩;rcases Ra o.iv h1 z with z |z |z
 .exact n.1 (by rw[<-z];exact aI _ he)
 .exact n.2.1 (by rw[<-z];exact he)
 .exact o.dm e (by simp[es,he]) z
theorem Ok.left{qs:Pr α}(o:Ok f (ps++qs)):Ok (jI f ps) qs:=by
 induction ps generalizing f with
 |nil=>exact o
 |cons p ps ih=>exact ih o.tl
theorem Ok.pre{qs:Pr α}(o:Ok f (ps++qs)):Ok f ps :=
 ⟨o.iv,by have:=o.nd;rw[ym] at this;exact(List.nodup_append.mp this).1,λe he=>o.dm e (by rw[ym];exact dI _ he)⟩
theorem Bg(f)(ps qs:Pr α):jI f (ps++qs)=jI (jI f ps) qs:=by
 induction ps generalizing f with
 |nil=>rfl
 |cons p ps ih=>exact ih _
theorem vK(f)(ps qs:Pr α):cls f (ps++qs)=cls f ps+cls (jI f ps) qs:=by
 induction ps generalizing f with
 |nil=>simp[cls,jI]
 |cons p ps ih=>rw[aH,cls,cls,ih,jI,pY]
end
end J
end K2
end
section
set_option maxHeartbeats 1000000
namespace K2
namespace J
abbrev Fn:=Int->Int
noncomputable def lp(g:Fn):Fn:=λi=>-(g (i+2))-g (i-2)
noncomputable def sh(b:Int)(g:Fn):Fn:=λi=>g (i+b)
noncomputable def nO:Nat->Fn->Fn
 |0,g=>g
 |n+1,g=>lp (nO n g)
theorem LN(n m)(g):nO (n+m) g=nO n (nO m g):=by
 induction n with
 |zero=>rw[Fi];rfl
 |succ n ih=>rw[Nat.succ_add,nO,nO,ih]
theorem aaz(b)(g):lp (sh b g)=sh b (lp g):=by
 funext i;unfold lp sh;rw[show i+2+b=i+b+2 by lia,show i-2+b=i+b-2 by lia]
theorem Yg(n)(b)(g):nO n (sh b g)=sh b (nO n g):=by
 induction n with
 |zero=>rfl
 |succ n ih=>rw[nO,nO,ih,aaz]
noncomputable def pl(g k:Fn):Fn:=λi=>g i+k i
noncomputable def sc(c:Int)(g:Fn):Fn:=λi=>c*g i
theorem aaA(g k):lp (pl g k)=pl (lp g) (lp k):=by
 funext i;show -(g (i+2)+k (i+2))-(g (i-2)+k (i-2))=(-(g (i+2))-g (i-2))+(-(k (i+2))-k (i-2));lia
theorem Yh(n)(g k):nO n (pl g k)=pl (nO n g) (nO n k):=by
 induction n with
 |zero=>rfl
 |succ n ih=>rw[nO,nO,nO,ih,aaA]
noncomputable def js(n:Int)(w:Bool):Pr T3:=if w=false then [(⟨n,0,0⟩,⟨n,1,1⟩),(⟨n,1,0⟩,⟨n,0,1⟩)] else [(⟨n,0,0⟩,⟨n,1,0⟩),(⟨n,0,1⟩,⟨n,1,1⟩)]
noncomputable def Br:(T3->T3)->@aC->Fn->Int
 |_,[],g=>g 0
 |f,p::ps,g=>Br (jI f (js p.1 false)) ps (nO (cls f (js p.1 false)) (sh p.2 g))+Br (jI f (js p.1 true)) ps (nO (cls f (js p.1 true)) (sh (-p.2) g))
noncomputable def kE(n:Int):@Z:=[⟨n,0,0⟩,⟨n,1,1⟩,⟨n,1,0⟩,⟨n,0,1⟩]
theorem wZ(n)(w):(es (js n w)).Perm (kE n):=by
 cases w with
 |false=>exact .refl _
 |true=>
  show [(⟨n,0,0⟩:T3),⟨n,1,0⟩,⟨n,0,1⟩,⟨n,1,1⟩].Perm _;refine DT _ ?_;refine(xE (l₁:=[(⟨n,1,0⟩:T3),⟨n,0,1⟩]) (l₂:=[⟨n,1,1⟩]))
structure Dm(f:T3->T3)(ns:@u):Prop where
 iv:Iv f
 nd:ns.Nodup
 dm:∀n∈ns,∀e∈kE n,f e≠e
theorem HD(n):(kE n).Nodup:=by
 unfold kE;simp
theorem zI(h:e∈kE n):e.a=n:=by
 unfold kE at h;simp only[bA,bN,or_false] at h;rcases h with rfl |rfl |rfl |rfl<;>rfl
theorem Dm.ok(d:Dm f (n::ns))(w):Ok f (js n w) :=
 ⟨d.iv,(wZ n w).nodup_iff.mpr (HD n),λe he=>d.dm n @i e ((wZ n w).mem_iff.mp he)⟩
theorem Es:∀{ps:Pr T3},Ok f ps->∀{e:T3},jI f ps e=e->e∈es ps\/f e=e:=by
 intro ps;induction ps generalizing f with
 |nil=>intro o e h;exact .inr h
 | cons p ps ih=>
  intro o e h;rcases ih o.tl h with z |z
  .exact .inl (by simp[es,z])
  .rcases Ra o.iv o.hd.1 z with z |z |z
   .exact .inl (by simp[es,z])
   .exact .inl (by simp[es,z])
   .exact .inr z
theorem yd:∀{ps:Pr T3},Ok f ps->Iv (jI f ps):=by
 intro ps;induction ps generalizing f with
 |nil=>intro o;exact o.iv
 |cons p ps ih=>intro o;exact ih o.tl
end J
end K2
end
section
set_option maxHeartbeats 1000000
namespace K2
namespace J
theorem ya{α β:Type}{v:α->β}:∀{l:@v},l.Nodup->(∀i∈l,∀j∈l,v i=v j->i=j)->(l.map v).Nodup
 |[],_,_=>bR
 |a::l,h,hi=>by
  rw[aW] at h;rw[aw,aW];refine⟨λz=>?_,ya h.2 λi Yz j hj=>hi i (aI _ Yz) j (aI _ hj)⟩;obtain⟨b,hb,e⟩:=List.mem_map.mp z;have:=hi a @i b (aI _ hb) e.symm;exact h.1 (this ▸ hb)
end J
end K2
end
section
set_option maxHeartbeats 1000000
namespace K2
namespace J
noncomputable def pt:Pr T3->T3->T3
 |[],e=>e
 |p::r,e=>if e=p.1 then p.2 else if e=p.2 then p.1 else pt r e
theorem mH(h:e∉es P):pt P e=e:=by
 induction P with
 |nil=>rfl
 |cons p r ih=>
  rw[es,bA,bA,not_or,not_or] at h;rw[pt,if_neg h.1,if_neg h.2.1,ih h.2.2]
theorem i4(nd:(es P).Nodup)(h:p∈P):pt P p.1=p.2/\pt P p.2=p.1:=by
 induction P with
 |nil=>cases h
 |cons q r ih=>
  rw[es,aW,aW,bA,not_or] at nd;rcases List.mem_cons.mp h with rfl |h
  .refine⟨by rw[pt,if_pos rfl],?_⟩;rw[pt,if_neg (λz=>nd.1.1 z.symm),if_pos rfl]
  .obtain⟨a,b⟩:=ih nd.2.2 h;have m1:p.1∈es r:=jA.mpr ⟨p,h,@W⟩;have m2:p.2∈es r:=jA.mpr ⟨p,h,.inr rfl⟩;have ne:∀e∈es r,e≠q.1/\e≠q.2:=λe he=>⟨λz=>nd.1.2 (z ▸ he),λz=>nd.2.1 (z ▸ he)⟩;exact⟨by rw[pt,if_neg (ne _ m1).1,if_neg (ne _ m1).2,a],by rw[pt,if_neg (ne _ m2).1,if_neg (ne _ m2).2,b]⟩
theorem PR{P:Pr T3}(nd:(es P).Nodup){f:T3->T3}(h1:∀p∈P,f p.1=p.2/\f p.2=p.1)(h2:∀e,e∉es P->f e=e):pt P=f:=by
 funext e;by_cases he:e∈es P
 .obtain⟨p,hp,z⟩:=jA.mp he;rcases z with rfl |rfl
  .rw[(i4 nd hp).1,(h1 p hp).1]
  .rw[(i4 nd hp).2,(h1 p hp).2]
 .rw[mH he,h2 e he]
theorem Uh(h:P.Perm P')(nd:(es P).Nodup):pt P=pt P':=by
 refine PR nd (λp hp=>i4 ((uJ h).nodup_iff.mp nd) (h.mem_iff.mp hp)) λe he=>mH λz=>he ((uJ h).mem_iff.mpr z)
theorem wG(nd:(es P).Nodup):Iv (pt P):=by
 intro e;by_cases he:e∈es P
 .obtain⟨p,hp,z⟩:=jA.mp he;rcases z with rfl |rfl
  .rw[(i4 nd hp).1,(i4 nd hp).2]
  .rw[(i4 nd hp).2,(i4 nd hp).1]
 .rw[mH he,mH he]
theorem PX(nd:(es P).Nodup){p:T3×T3}(h:p∈P):p.1≠p.2:=by
 induction P with
 |nil=>cases h
 |cons q r ih=>
  rw[es,aW,aW,bA,not_or] at nd;rcases List.mem_cons.mp h with rfl |h
  .exact nd.1.1
  .exact ih nd.2.2 h
theorem i6(nd:(es P).Nodup):pt P e≠e↔e∈es P:=by
 refine⟨λh=>fK λz=>h (mH z),λhe=>?_⟩;obtain⟨p,hp,z⟩:=jA.mp he;rcases z with rfl |rfl
 .rw[(i4 nd hp).1];exact(PX nd hp).symm
 .rw[(i4 nd hp).2];exact PX nd hp
structure zS(l:@aW)(f:T3->T3):Prop where
 nd:(@ar).Nodup
 at':∀e,bL l e=if f e=e then none else some (f e)
theorem tY [@a0]{j:κ}:bL (l.filter λp=>decide (p.1≠k)) j=if j=k then none else bL l j:=by
 induction l with
 |nil=>simp[bL]
 | cons p r ih=>
  unfold bL at *;rw[cR];by_cases h:p.1=k
  .rw[if_neg (by simp[h]),ih];by_cases hj:j=k
   .rw[if_pos hj,if_pos hj]
   .rw[if_neg hj,if_neg hj,cg (by simp[h];exact λz=>hj z.symm)]
  .rw[if_pos (by simp[h])];by_cases hpj:p.1=j
   .rw[cx (by simp[hpj]),cx (by simp[hpj]),if_neg (λz=>h (hpj.trans z))]
   .rw[cg (by simp[hpj]),cg (by simp[hpj]),ih]
def EN(l:@aW)(k:T3):@aW:=l.filter λp=>decide (p.1≠k)
theorem pz [@a0]{k:κ}{v:β}(h:(@ar).Nodup):((du l k v).map @k).Nodup:=by
 unfold du;split
 .rw[bw];have:(l.map ((λx:κ×β=>x.1)∘λp=>if p.1=k then(p.1,v) else p))=@ar:=by
   refine d8 λp _=>?_;show(if p.1=k then(p.1,v) else p).1=p.1;split<;>rfl
  rw[this];exact h
 .rename_i hk;rw[aU,bY];refine⟨h,@G,λa ha b hb z=>?_⟩;rw[List.map_singleton,bF] at hb;obtain⟨p,hp,e⟩:=List.mem_map.mp ha;exact hk (List.any_eq_true.mpr ⟨p,hp,by simp;rw[e,z,hb]⟩)
theorem zS.join(h:zS l f)(iv:Iv f)(xy:x≠y)(hx:f x≠x)(hy:f y≠y):
  bL l x=some (f x)/\bL (EN l x) y=some (f y)/\(f x=y->zS (EN (EN l x) y) (jn f x y))/\(f x≠y->zS (du (du (EN (EN l x) y) (f x) (f y)) (f y) (f x)) (jn f x y)):=by
 have a1:bL l x=some (f x):=by rw[h.at',if_neg hx]
 have a2:bL (EN l x) y=some (f y):=by unfold EN;rw[tY,if_neg (λz=>xy z.symm),h.at',if_neg hy]
 have nd2:((EN (EN l x) y).map @k).Nodup:=oA (me _ (List.filter_sublist.trans k9)) h.nd;have d2:∀e,bL (EN (EN l x) y) e=if e=x\/e=y then none else if f e=e then none else some (f e):=λe=>by
  unfold EN;rw[tY,tY,h.at']
  grind
 have ix:=iv x;have iy:=iv y;refine⟨a1,a2,λe=>⟨nd2,λz=>?_⟩,λe=>⟨pz (pz nd2),λz=>?_⟩⟩
 .have iz:=iv z;rw[d2];unfold jn
  grind (splits:=30)
 .have iz:=iv z;rw[mW,mW,d2];unfold jn
  grind (splits:=30)
end J
end K2
end
section
set_option maxHeartbeats 1000000
namespace K2
open Enc (enc)
instance {α β:Type} [@U] [Enc α] [bq α] [DecidableEq β] [Enc β] [bq β]:bq (α×β) where
 lt:=λx y=>if x.1=y.1 then bq.lt x.2 y.2 else bq.lt x.1 y.1
 CT:=.tup [bq.CT α,bq.CT β]
 EB:=λx=>by
  show(dh _ (enc x.1)&&(dh _ (enc x.2)&&true))=true;rw[bq.EB,bq.EB];rfl
 Vh:=λx y=>by
  show mI [enc x.1,enc x.2] [enc y.1,enc y.2]=_;rw[nN,nN,Enc.eqv,Enc.eqv,bq.Vh,bq.Vh,show mI [] []=false from rfl];by_cases h:x.1=y.1
  .simp only[h,decide_true,if_true];by_cases h2:x.2=y.2
   .simp only[h2,decide_true,if_true];exact(bq.J9 _).symm
   .simp only[h2,decide_false,au,if_false]
  .simp only[h,decide_false,au,if_false]
 J9:=λx=>by simp only[if_true];exact bq.J9 _
 trans:=λx y z h1 h2=>by
  by_cases e1:x.1=y.1
  .rw[if_pos e1] at h1;by_cases e2:y.1=z.1
   .rw[if_pos e2] at h2;rw[if_pos (e1.trans e2)];exact bq.trans _ _ _ h1 h2
   .rw[if_neg e2] at h2;rw[if_neg (λq=>e2 (e1.symm.trans q)),e1];exact h2
  .rw[if_neg e1] at h1;by_cases e2:y.1=z.1
   .rw[if_neg (λq=>e1 (q.trans e2.symm)),<-e2];exact h1
   .rw[if_neg e2] at h2;have h3:=bq.trans _ _ _ h1 h2;rw[if_neg (λq=>by rw[q,bq.J9] at h3;cases h3)];exact h3
 IL:=λx y h1 h2=>by
  by_cases e1:x.1=y.1
  .rw[if_pos e1] at h1;rw[if_pos e1.symm] at h2;exact OM e1 (bq.IL _ _ h1 h2)
  .rw[if_neg e1] at h1;rw[if_neg (λq=>e1 q.symm)] at h2;exact absurd (bq.IL _ _ h1 h2) e1
namespace J
def JF(l:@aW):Pr T3:=F1 (l.filter λp=>bq.lt p.1 p.2)
theorem nM [@a0]:∀{l:List (κ×β)},(@ar).Nodup->∀{p:κ×β},p∈l->bL l p.1=some p.2
 |[],_,_,h=>by cases h
 |q::l,nd,p,h=>by
  rw[aw,aW] at nd;unfold bL;rcases List.mem_cons.mp h with rfl |h
  .rw[cx @i];rfl
  .have:¬ q.1=p.1:=λz=>nd.1 (by rw[z];exact bE h);rw[cg (by ext f)];exact nM nd.2 h
theorem zN [@a0]{k:κ}(h:bL l k=@Y):(k,v)∈l:=by
 unfold bL at h;obtain⟨p,h1,h2⟩:=Option.map_eq_some_iff.mp h;have h3:=l0 h1;have h4:=fU h1;simp at h3;rw[<-h3,<-h2];exact h4
theorem zS.mem(h:zS l f)(hp:p∈l):f p.1=p.2/\f p.1≠p.1:=by
 have a:=nM h.nd hp;rw[h.at'] at a;split at a
 .cases a
 .rename_i z;exact⟨aX a,z⟩
theorem Vj [@U] [Enc α] [bq α]{b:α}(h1:bq.lt a b=true)(h2:bq.lt b a=true):False:=by
 have:=bq.trans _ _ _ h1 h2;rw[bq.J9] at this;cases this
theorem Me(iv:Iv f):∀{l:@aW},(@ar).Nodup->(∀p∈l,f p.1=p.2)->(es (l.filter λp=>bq.lt p.1 p.2)).Nodup
 |[],_,_=>bR
 | p::l,nd,h=>by
  rw[aw,aW] at nd;have ih:=Me iv nd.2 λq hq=>h q (aI _ hq);rw[cR];split
  .rename_i hl;have fp:=h p @i;rw[es,aW,aW,bA,not_or];have out:∀q∈l.filter (λp=>bq.lt p.1 p.2),p.1≠q.1/\p.1≠q.2/\p.2≠q.1/\p.2≠q.2:=λq hq=>by
    have Rx:=List.mem_filter.mp hq;have fq:=h q (aI _ Rx.1);have n1:p.1≠q.1:=λz=>nd.1 (by rw[z];exact bE Rx.1);have n2:p.1=q.2->p.2=q.1:=λz=>by rw[<-fp,z,<-fq,iv]
    have n3:p.2=q.1->p.1=q.2:=λz=>by rw[<-fq,<-z,<-fp,iv]
    have WQ:¬ (p.1=q.2/\p.2=q.1):=λ⟨a,b⟩=>Vj hl (by rw[a,b];exact Rx.2);refine⟨n1,λz=>WQ ⟨z,n2 z⟩,λz=>WQ ⟨n3 z,z⟩,λz=>n1 ?_⟩;have:=congrArg f z;rw[<-fp,<-fq,iv,iv] at this;exact this
   have ne:p.1≠p.2:=λz=>by rw[z,bq.J9] at hl;cases hl
   refine⟨⟨ne,λz=>?_⟩,λz=>?_,ih⟩
   .obtain⟨q,hq,e⟩:=jA.mp z;rcases e with e |e
    .exact(out q hq).1 e
    .exact(out q hq).2.1 e
   .obtain⟨q,hq,e⟩:=jA.mp z;rcases e with e |e
    .exact(out q hq).2.2.1 e
    .exact(out q hq).2.2.2 e
  .exact ih
theorem Ef(h:zS l f)(iv:Iv f):(es (JF l)).Nodup/\pt (JF l)=f:=by
 have sp:=nk (l.filter λp=>bq.lt p.1 p.2);have nd0:=Me iv h.nd λp hp=>(h.mem hp).1;have nd:(es (JF l)).Nodup:=(uJ sp).nodup_iff.mpr nd0;refine⟨nd,PR nd (λp hp=>?_) λe he=>?_⟩
 .have uF:=(List.mem_filter.mp (sp.mem_iff.mp hp)).1;have:=(h.mem uF).1;exact⟨this,by rw[<-this,iv]⟩
 .refine fK λz=>he ?_;have a1:bL l e=some (f e):=by rw[h.at',if_neg z]
  have z2:f (f e)≠f e:=λq=>z (by rw[iv] at q;exact q.symm);have a2:bL l (f e)=some e:=by rw[h.at',if_neg z2,iv]
  have m1:=zN a1;have m2:=zN a2;rw[jA];by_cases hl:bq.lt e (f e)=true
  .exact⟨(e,f e),sp.mem_iff.mpr (List.mem_filter.mpr ⟨m1,hl⟩),@W⟩
  .by_cases yU:bq.lt (f e) e=true
   .exact⟨(f e,e),sp.mem_iff.mpr (List.mem_filter.mpr ⟨m2,yU⟩),.inr rfl⟩
   .exact absurd (bq.IL _ _ (by simpa using yU) (by simpa using hl)) z
def rW(P:Pr T3):@aW:=P.foldl (λl p=>du (du l p.1 p.2) p.2 p.1) []
theorem xl:∀{P:Pr T3},(es P).Nodup->zS (rW P) (pt P):=by
 have main:∀(P:Pr T3) (l:@aW) (f:T3->T3),zS l f->(es P).Nodup->(∀e∈es P,f e=e)->zS (P.foldl (λl p=>du (du l p.1 p.2) p.2 p.1) l) (λe=>if e∈es P then pt P e else f e):=by
  intro P;induction P with
  |nil=>
   intro l f h _ _;have:(λe=>if e∈es ([]:Pr T3) then pt [] e else f e)=f:=by funext e;simp[es]
   rw[this];exact h
  | cons p P ih=>
   intro l f h nd hf;rw[es,aW,aW,bA,not_or] at nd;have f1:f p.1=p.1:=hf _ (by simp[es]);have f2:f p.2=p.2:=hf _ (by simp[es]);have h2:zS (du (du l p.1 p.2) p.2 p.1) (λe=>if e=p.1 then p.2 else if e=p.2 then p.1 else f e):=by
    refine⟨pz (pz h.nd),λe=>?_⟩;rw[mW,mW,h.at'];have:=nd.1.1
    grind
   have:=ih _ _ h2 nd.2.2 λe he=>by
    have m1:e≠p.1:=λz=>nd.1.2 (z ▸ he);have m2:e≠p.2:=λz=>nd.2.1 (z ▸ he);simp only[if_neg m1,if_neg m2];exact hf e (by simp[es,he])
   rw [ef];have e2:(λe=>if e∈es (p::P) then pt (p::P) e else f e)=λe=>if e∈es P then pt P e else if e=p.1 then p.2 else if e=p.2 then p.1 else f e:=by
    funext e;rw[es,pt];by_cases he:e∈es P
    .have m1:e≠p.1:=λz=>nd.1.2 (z ▸ he);have m2:e≠p.2:=λz=>nd.2.1 (z ▸ he);rw[if_pos (by simp[he]),if_neg m1,if_neg m2,if_pos he]
    .rw[if_neg he];by_cases m1:e=p.1
     .rw[if_pos (by simp[m1]),if_pos m1,if_pos m1]
     .by_cases m2:e=p.2
      .rw[if_pos (by simp[m2]),if_neg m1,if_pos m2,if_neg m1,if_pos m2]
      .rw[if_neg (by simp[m1,m2,he]),if_neg m1,if_neg m2]
   rw[e2];exact this
 intro P nd;have:=main P [] (λe=>e) ⟨bR,λe=>by simp[bL]⟩ nd (λ_ _=>rfl);have e2:(λe=>if e∈es P then pt P e else e)=pt P:=by
  funext e;by_cases he:e∈es P
  .rw[if_pos he]
  .rw[if_neg he,mH he]
 rw[e2] at this;exact this
theorem xk(P):(rW P).length<=2*P.length:=by
 have:∀(P:Pr T3) (l:@aW),(P.foldl (λl p=>du (du l p.1 p.2) p.2 p.1) l).length<=l.length+2*P.length:=by
  intro P;induction P with
  |nil=>intro l;simp
  |cons p P ih=>
   intro l;have h1:=ih (du (du l p.1 p.2) p.2 p.1);have h2:=og (du l p.1 p.2) p.2 p.1;have h3:=og l p.1 p.2;rw[ef,aj];lia
 have:=this P [];simpa[rW] using this
end J
end K2
end
section
set_option maxHeartbeats 1000000
namespace K2
open Enc (enc)
namespace J
open Y (Po L ND NZ fG qg gE gb cp)
def gv(P:Pr T3):PK:=P.map λp=>[p.1.l,p.2.l]
noncomputable def ae0:List (@u)->T3×T3
 |[[a,b,c],[x,y,z]]=>(⟨a,b,c⟩,⟨x,y,z⟩)
 |_=>(⟨0,0,0⟩,⟨0,0,0⟩)
def dec(k:PK):Pr T3:=k.map ae0
theorem yp(P):dec (gv P)=P:=by
 unfold dec gv;rw[bw]
 conv=>rhs;rw[<-qy P]
 rfl
theorem JH(P):lb (gv P)=.tup (P.map enc):=by
 unfold lb gv;rw[bw];rfl
abbrev Su:=List (PK×Po)
def fW(S:Su):List (PK×D):=S.map λp=>(p.1,D.fZ (aK p.2))
theorem C8(S)(k):oR (fW S) k=(bL S k).map λl=>D.fZ (aK l):=by
 unfold oR bL fW;rw[List.find?_map,xP,xP];rfl
theorem PQ(S)(k)(l):Na (fW S) k (.fZ (aK l))=fW (du S k l):=by
 unfold Na du fW;rw[List.any_map];split
 .rename_i h;rw[if_pos (by simpa[S4] using h),bw,bw];refine d8 λp _=>?_;simp only[Function.comp];split<;>rfl
 .rename_i h;rw[if_neg (by simpa[S4] using h),aU];rfl
noncomputable def IL(ns:@aC)(g:Fn):Su->Int
 |[]=>0
 |p::S=>L (λj=>Br (pt (dec p.1)) ns (sh j g)) p.2+IL ns g S
noncomputable def LP:Po:=[(2,-1),(-2,-1)]
theorem afe(g)(i):L (λj=>g (i+j)) LP=lp g i:=by
 show -1*g (i+2)+(-1*g (i+-2)+0)=-(g (i+2))-g (i-2);rw[show i+-2=i-2 by lia];lia
theorem QO(n)(g):nO n (lp g)=lp (nO n g):=by
 induction n with
 |zero=>rfl
 |succ n ih=>rw[nO,nO,ih]
theorem rF:∀(n:Nat) (g:Fn),L g (cp LP n)=nO n g 0
 |0,g=>by show 1*g 0+0=g 0;lia
 |n+1,g=>by
  show L g (gE (cp LP n) LP)=_;rw[Y.Iz];have:(λi=>L (λj=>g (i+j)) LP)=lp g:=by funext i;exact afe g i
  rw[this,rF n,QO];rfl
def Us(l:Po)(c:Nat)(b:Int):Po:=gb (gE l (cp LP c)) b 1
theorem U9(l)(c)(b):fG (Us l c b)<=fG l*2 ^ c:=by
 unfold Us gb;refine bh (Y.uy _) ?_;have e:∀m:Po,fG (m.map λp=>(p.1+b,p.2*1))=fG m:=by
  intro m;induction m with
  |nil=>rfl
  |cons p m ih=>rw[aw,fG,fG,ih];simp
 rw[e];exact bh (Y.vC _ _) (Nat.mul_le_mul_left _ (Y.km LP c))
def u6(A:Su)(k':PK)(l:Po)(c:Nat)(b:Int):Su:=du A k' (qg ((bL A k').getD []) (Us l c b))
def CJ(S:Su):Prop:=(S.map @k).Nodup/\∀p∈S,ND p.2/\NZ p.2
theorem CJ.get(h:CJ S)(k):ND ((bL S k).getD [])/\NZ ((bL S k).getD []):=by
 cases e:bL S k with
 |none=>exact⟨Y.ND.nil,λp hp=>by cases hp⟩
 |some l=>exact h.2 _ (zN e)
theorem CJ.put(h:CJ S)(h1:ND l)(h2:NZ l):CJ (du S k l):=by
 refine⟨pz h.1,λp hp=>?_⟩;unfold du at hp;split at hp
 .obtain⟨q,hq,rfl⟩:=List.mem_map.mp hp;split
  .exact⟨h1,h2⟩
  .exact h.2 q hq
 .rcases List.mem_append.mp hp with hp |hp
  .exact h.2 p hp
  .rw[bF] at hp;subst hp;exact⟨h1,h2⟩
theorem Pw(h:CJ A)(k')(l)(c)(b):CJ (u6 A k' l c b):=h.put (Y.LC (h.get k').1) (Y.AS _)
noncomputable def gM:Su->Nat
 |[]=>0
 |p::S=>fG p.2+gM S
theorem AY(S S'):gM (S++S')=gM S+gM S':=by
 induction S with
 |nil=>simp[gM]
 |cons p S ih=>rw[aH,gM,gM,ih];lia
theorem GC(k)(l):∀{S:Su},(S.map @k).Nodup->gM (du S k l)+fG ((bL S k).getD [])<=gM S+fG l
 | S,nd=>by
  unfold du;split
  .rename_i h;have main:∀{S:Su},(S.map @k).Nodup->(S.any λp=>decide (p.1=k))=true->gM (S.map λp=>if p.1=k then(p.1,l) else p)+fG ((bL S k).getD [])<=gM S+fG l:=by
    intro S;induction S with
    |nil=>intro _ h;cases h
    | cons p S ih=>
     intro nd h;rw[aw,aW] at nd;rw[aw,gM,gM];by_cases e:p.1=k
     .have e2:(S.map λp=>if p.1=k then(p.1,l) else p)=S:=by
       conv=>rhs;rw[<-qy S]
       refine d8 λq hq=>?_;rw[if_neg];rfl;intro z;exact nd.1 (by rw[e,<-z];exact bE hq)
      have e3:bL (p::S) k=some p.2:=by unfold bL;rw[cx (@bl)];rfl
      rw[e2,e3,if_pos e];simp only[oo];lia
     .have e3:bL (p::S) k=bL S k:=by unfold bL;rw[cg (@bl)]
      have:=ih nd.2 (by simpa[e] using h);rw[e3,if_neg e];lia
   exact main nd h
  .rename_i h;rw[AY];have e3:bL S k=none:=by
    unfold bL;have:S.find? (λp=>decide (p.1=k))=none:=by
     rw[fC];intro p hp z;exact h (List.any_eq_true.mpr ⟨p,hp,z⟩)
    rw[this];rfl
   rw[e3];show gM S+(fG l+0)+0<=_;lia
theorem Pu(h:CJ A)(k')(l)(hc:c<=2)(b):gM (u6 A k' l c b)<=gM A+4*fG l:=by
 unfold u6;have h1:=GC k' (qg ((bL A k').getD []) (Us l c b)) h.1;have h2:=Y.GA (h.get k').1 (Us l c b);have h3:=U9 l c b;have h4:fG l*2 ^ c<=fG l*4:=Nat.mul_le_mul_left _ (show 2 ^ c<=2 ^ 2 from dM (@d) hc);lia
theorem LH(S)(k):fG ((bL S k).getD [])<=gM S:=by
 induction S with
 |nil=>exact aG _
 |cons p S ih=>
  unfold bL at *;rw[gM];by_cases e:p.1=k
  .rw[cx (@bl)];simp only[pU,oo];lia
  .rw[cg (@bl)];lia
theorem x9:∀{l:Po},NZ l->l.length<=fG l
 |[],_=>aG _
 |p::l,h=>by
  have h1:=h p @i;have h2:=x9 (l:=l) λq hq=>h q (aI _ hq);rw[aj,fG];lia
noncomputable def iq(S:Su):Su:=S.filter λp=>!p.2.isEmpty
theorem Be(h:CJ S):CJ (iq S):=⟨oA (me _ k9) h.1,λp hp=>h.2 p (List.mem_filter.mp hp).1⟩
theorem Q0(S):gM (iq S)<=gM S:=by
 unfold iq;induction S with
 |nil=>exact aG _
 |cons p S ih=>
  rw[cR];split
  .rw[gM,gM];lia
  .rw[gM];lia
theorem Q3(h:CJ S):(iq S).length<=gM S:=by
 have:∀{S:Su},(∀p∈S,NZ p.2)->(iq S).length<=gM S:=by
  intro S;unfold iq;induction S with
  |nil=>intro _;exact aG _
  | cons p S ih=>
   intro h;have ih:=ih λq hq=>h q (aI _ hq);rw[cR,gM];split
   .rename_i z;have h1:=x9 (h p @i);have h2:0<p.2.length:=by
     cases q:p.2 with
     |nil=>rw[q] at z;cases z
     |cons _ _=>simp
    rw[aj];lia
   .lia
 exact this λp hp=>(h.2 p hp).2
end J
end K2
end
section
namespace K2
open PySem (Str)
open Enc (enc)
namespace JB
open K2.P K2.J
def CW:gj :=
 (bz (fT (gy (aN (Cq false) @p @L)) (cb (bZ (fA (ao (eM (ao (eM (ao @n (ao @L (ao @L aM)))) (ao (eM (ao @n (ao @B (ao @B aM)))) aM))) (ao (eM (ao (eM (ao @n (ao @B (ao @L aM)))) (ao (eM (ao @n (ao @L (ao @B aM)))) aM))) aM))))) dj)
 (cb (bZ (fA (ao (eM (ao (eM (ao @n (ao @L (ao @L aM)))) (ao (eM (ao @n (ao @B (ao @L aM)))) aM))) (ao (eM (ao (eM (ao @n (ao @L (ao @B aM)))) (ao (eM (ao @n (ao @B (ao @B aM)))) aM))) aM))))))
noncomputable def wI(w:Bool):Int:=if w=true then 1 else 0
def uf:jl:=λds G Q _=>∃(n:Int) (w:Bool),ds=[.int n,.int (wI w)]/\Q (enc (js n w)) G
theorem DN(ds)(G)(Q)(h:uf ds G Q @j):CW (@j) @N (aY 2 ds) G:=by
 obtain⟨n,w,rfl,q⟩:=h;unfold CW;simp only[bz,fT,aY,aw,aR,aj,ax,aH,aL,cb,bZ,fA,ao,eM,ak,aa,dC,aM,ends,dj,cD,aN,ae];refine⟨_,_,@P,@P,?_⟩;simp only[au,kr,if_false,bJ];cases w with
 |false=>
  simp only[wI,au,if_false,beq_self_eq_true,if_true];refine⟨@d,@d,@d,@d,@d,@d,@d,λp hp=>?_⟩;exact kU (xs:=js n false) (@ah) hp av q
 |true=>
  simp only[wI,if_true,show((1:Int) == 0)=false from rfl,au,if_false];refine⟨@d,@d,@d,@d,@d,@d,@d,λp hp=>?_⟩;exact kU (xs:=js n true) (@ah) hp av q
def yF:gj :=
 (cb (bZ (dIf (gy (aN (Cq false) @p @L)) @n (ES zj @n))))
noncomputable def pw(h:Int)(w:Bool):Int:=if w=true then -h else h
def oJ:jl:=λds G Q _=>∃(h:Int) (w:Bool),ds=[.int h,.int (wI w)]/\Q (.int (pw h w)) G
theorem y9(ds)(G)(Q)(h:oJ ds G Q @j):yF (@j) @N (aY 2 ds) G:=by
 obtain⟨n,w,rfl,q⟩:=h;unfold yF;simp only[cb,bZ,dIf,aY,aw,aR,aj,ax,aH,aL,ak,aa,ends,ES,lN,cD,aN,ae,dC];refine⟨_,_,@P,@P,?_⟩;simp only[au,kr,if_false,bJ];cases w with
 |false=>
  simp only[wI,au,if_false,beq_self_eq_true,if_true];exact cO q
 |true=>
  simp only[wI,if_true,show((1:Int) == 0)=false from rfl,au,if_false];exact cO q
theorem aaC:∀(x y:@u),wW (λa b=>decide (a<b)) x y=lexLt x y
 |[],[]=>rfl
 |[],_::_=>rfl
 |_::_,[]=>rfl
 |a::x,b::y=>by rw[Bb,aaC x y];rfl
theorem lt3(p q:T3):lexLt p.l q.l=bq.lt p q:=(aaC _ _).symm
def AD:gj :=
 (cb (bZ (jJ H0 (ao (jJ rz (ao (gO 1 [0] (gx @n) (aE 0) (some (gy (aN Z9 @n (aN gq @p @n)))) (eM (ao @n (ao (aN gq @p @n) aM)))) aM)) aM))))
def nq:jl:=λds G Q _=>∃(l:@aW),ds=[.fZ (aK l)]/\((@ar).Nodup/\l.length<64)/\Q (lb (gv (JF l))) G
theorem BQ(ds)(G)(Q)(h:nq ds G Q @j):AD (@j) @N (aY 1 ds) G:=by
 obtain⟨l,rfl,⟨nd,hl⟩,q⟩:=h;unfold AD;simp only[cb,bZ,jJ,ao,gO,gx,ak,aY,aw,aR,aj,ax,aH,aL,aa,aM,ends];show _/\_;have ek:((aK l).map λp=>p.1)=l.map λp=>enc p.1:=by unfold aK;rw[bw];rfl
 refine⟨Lf (by unfold aK;rw[ar,ar];lia),?_⟩;rw[ek];refine nX (xs:=l) (f:=λp=>enc p.1) (λpre acc τ G'=>G=G'/\(∃a,τ=[a,some (.fZ (aK l))])/\acc=(pre.filter λp=>bq.lt p.1 p.2).map enc) ⟨rfl,@I,rfl⟩ (λ_ _ _ _ _=>trivial) ?_ ?_
 .rintro pre x post acc τ G' N e ⟨rfl,⟨a,rfl⟩,rfl⟩ hN;have hx:bL l x.1=some x.2:=nM nd (@aF);simp only[aE,ah,eM,ao,ak,aa,aN,ae,aM,aj,ax,uo,kS,hx,pU,cD];refine⟨gN _ _,?_⟩;show ∃xs ys,_;refine⟨x.1.l,x.2.l,rfl,rfl,?_⟩;simp only[lt3,bJ];split
  .rename_i yf;refine⟨gN _ _,@d,hN _ _ _ ⟨rfl,@I,?_⟩⟩;simp only[hZ,cR,yf,if_true,xG,aU];rfl
  .rename_i yf;refine hN _ _ _ ⟨rfl,@I,?_⟩;simp only[hZ,cR,yf,if_false,xG,cI,au]
 .rintro acc τ G' ⟨rfl,⟨a,rfl⟩,rfl⟩ p hp;refine BL (IsL.ref av) (dS (fc _ _) hl) λp2 mK=>?_;unfold H0;simp only[kR (IsL.ref av)];rw[JH] at q;exact qX ((dH.new hp).trans (.new mK)) q
theorem NX{G G2:Gp}{d:D}{ds:@e}{R:@e->(@l)->@l}(h:itemsOf d G=some ds)(l:dH G G2)(k:∀ok:@l,(∀G',@H->ok G')->R ds ok G2):Te d G2 R:=by
 cases d with
 |tup xs=>cases h;exact k _ λ_ _=>trivial
 |dF xs=>cases h;exact k _ λ_ _=>trivial
 |ref a=>
  unfold itemsOf at h;dsimp only at h;split at h
  .rename_i xs ha;cases h;rw[Ey (l _ _ ha)];exact k _ λG' le=>le _ _ ha
  .cases h
 |_=>cases h
def yO:gj :=
 (bz (aQ hX (aE 1))
 (bz (cq (ko @n) (hV (cY (aE 2) (cY (aE 3) hW))) (bz (aQ @z (eU @p @q))
 (aQ @q (eU @p @z))))
 (cb (bZ @p))))
def lM:jl:=λds G Q _=>∃(d:D) (P:Pr T3),ds=[d]/\itemsOf d G=some (P.map enc)/\P.length<=200/\fy G (.eG (aK (rW P))) Q
theorem By(P)(p):rW (P++[p])=du (du (rW P) p.1 p.2) p.2 p.1:=by unfold rW;rw[fO];rfl
theorem zc(ds)(G)(Q)(h:lM ds G Q @j):yO (@j) @N (aY 4 ds) G:=by
 obtain⟨d,P,rfl,hi,hl,q⟩:=h;unfold yO;simp only[ends,aY,aw,aR,aj,ax,aP,aH,aL,bG,aQ,hX,fy,aE,ai,ah];intro p hp;refine dB (λτ G'=>(∃a b,τ=[@O,@am,a,b])/\@H/\G' p=some (.eG (aK (rW P)))) ?_ ?_
 .intro N hN;simp only[cq,dW,ak,aa];refine NX hi (@ah) λok bP=>?_;refine cj (xs:=P) (λpre τ G'=>(∃a b,τ=[@O,@am,a,b])/\@H/\G' p=some (.eG (aK (rW pre)))) ⟨@aR,@ah,av⟩ (λpre τ G' h=>bP G' h.2.1) ?_ ?_
  .rintro pre x post τ G' N2 e ⟨⟨a,b,rfl⟩,le,gp⟩ jk;have hlen:=xk pre;have yU:pre.length<P.length:=@aF
   have e0:(enc x:D)=.tup [enc x.1,enc x.2]:=rfl;simp only[hV,e0,cY,aE,hW,ai,ah,bG,aQ,ak,ae,aa,eU];refine K2.P.cW (k:=x.1) (v:=x.2) gp @c ?_;have agn:=og (rW pre) x.1 x.2;refine K2.P.cW (k:=x.2) (v:=x.1) av @c ?_;refine jk _ _ ⟨@aR,(le.put hp).put hp,?_⟩;rw[av,By]
  .rintro τ G' ⟨⟨a,b,rfl⟩,le,gp⟩;exact hN _ _ ⟨@aR,le,gp⟩
 .rintro _ G' ⟨⟨a,b,rfl⟩,le,gp⟩;simp only[cb,bZ,ak,ae,aa];exact RU le hp gp (q p hp)
noncomputable def S9(l:List (T2×T2)):Pr T3:=l.map λp=>(⟨p.1.a,p.1.b,1⟩,⟨p.2.a,p.2.b,0⟩)
theorem YW(P):((rW P).map @k).Nodup:=by
 have:∀(P:Pr T3) (l:@aW),(@ar).Nodup->((P.foldl (λl p=>du (du l p.1 p.2) p.2 p.1) l).map @k).Nodup:=by
  intro P;induction P with
  |nil=>intro l h;exact h
  |cons p P ih=>intro l h;exact ih _ (pz (pz h))
 exact this P [] bR
def u7:gj :=
 (bz (aQ (gO 2 [] (w6 (bb qN (ao @n aM))) (hV (cY (aE 0) (cY (aE 1) hW))) none (eM (ao (aN fx @n (eM (ao @B aM))) (ao (aN fx @p (eM (ao @L aM))) aM)))) (aE 1))
 (cb (bZ (bb nq (ao (bZ (bb lM (ao @p aM))) aM)))))
def lH:jl:=λds G Q _=>∃rows:Rows,ds=[enc rows]/\rows.flatten.length<=24/\Q (lb (gv (JF (rW (S9 (nK (@aY))))))) G
theorem vj(ds)(G)(Q)(h:lH ds G Q @j):u7 (@j) @N (aY 2 ds) G:=by
 obtain⟨rows,rfl,hl,q⟩:=h;have l1:=C3 (@aY);have l2:=pairs_len rows;unfold u7;simp only[ends,aY,aw,aR,aj,ax,aP,aH,aL,bG,aQ,gO,w6,bb,ao,ak,aa,aM,aE,cb,bZ,ai,ah,ae];refine⟨rows,rfl,@f,?_⟩;generalize hn:nK (@aY)=l at q l1;have hk:(((aK l).all λp=>lB p.1)=true):=by
  unfold aK;rw[ot,jG];intro p _;rfl
 refine⟨hk,?_⟩;have em:((aK l).map λp=>D.tup [p.1,p.2])=l.map λp=>D.tup [enc p.1,enc p.2]:=by unfold aK;rw[bw];rfl
 rw[em];refine⟨Lf (by rw[ar];lia),?_⟩;refine nX (xs:=l) (f:=λp=>D.tup [enc p.1,enc p.2]) (λpre acc τ G'=>G=G'/\(∃a b,τ=[a,b])/\acc=(S9 pre).map enc) ⟨rfl,@aR,rfl⟩ (λ_ _ _ _ _=>trivial) ?_ ?_
 .rintro pre x post acc τ G' N e ⟨rfl,⟨a,b,rfl⟩,rfl⟩ hN;simp only[hV,cY,aE,hW,eM,ao,aN,ak,Y1,ah,ai,aa,dC,aM,aj,ax,ae,qa,aH,aL];refine⟨@d,@G,@d,@d,@G,@d,@d,hN _ _ _ ⟨rfl,@aR,?_⟩⟩;unfold S9;rw[aU,aU];rfl
 .rintro acc τ G' ⟨rfl,⟨a,b,rfl⟩,rfl⟩ p hp;have lt:(S9 l).length<=24:=by unfold S9;rw[ar];lia
  refine⟨.ref p,S9 l,rfl,vF (IsL.ref av),@f,λp2 mK=>?_⟩;refine fH ((dH.new hp).trans (.new mK)) ((dH.new hp).free mK) av ?_;have lf:=xk (S9 l);exact⟨rW (S9 l),rfl,⟨YW _,@f⟩,cO q⟩
end JB
namespace JB
open K2.P K2.J
open K2.Y (Po L ND NZ fG qg gE gb cp fF iL gV gW Pl)
theorem VF(l)(k):((aK l).filter λp=>!jC p.1 (enc k))=aK (EN l k):=by
 unfold aK EN;rw[List.filter_map];congr 1;refine List.filter_congr λp _=>?_;show(!jC (enc p.1) (enc k))=_;rw[Enc.eqv];simp
theorem Lx{G:Gp}{a:Nat}{l:@aW}{k v:T3}{Q:DK}(h:G a=some (.eG (aK l)))(e:bL l k=@Y)(q:Q (enc v) (di G a (.eG (aK (EN l k))))):A4 @r [enc k] G Q:=by
 refine⟨aK l,enc v,h,⟨rfl,?_,by rw[kS,e];rfl⟩,by rw[VF];exact q⟩;unfold aK;rw[ot,jG];intro p _;rfl
theorem Ym [@U](h:Iv f){e:α}(he:f e=e):jn f x y e=e:=by
 have h1:=h x;have h2:=h y;unfold jn
 grind
theorem uD:∀{ps:Pr T3},Ok f ps->∀{e:T3},f e=e->jI f ps e=e:=by
 intro ps;induction ps generalizing f with
 |nil=>intro o e h;exact h
 |cons p ps ih=>intro o e h;exact ih o.tl (Ym o.iv h)
theorem sub_len'{α:Type} [@U]:∀(xs ys:@v),xs.Nodup->(∀x∈xs,x∈ys)->xs.length<=ys.length
 |[],_,_,_=>cm _
 |x::xs,ys,hn,h=>by
  rw[aW] at hn;have:=sub_len' xs (ys.erase x) hn.2 λy hy=>(yB (show y≠x from λz=>hn.1 (by rw[<-z];exact hy))).mpr (h y (aI _ hy));have hx:=h x @i;rw[lj hx] at this;have:=mD hx;rw[aj];lia
theorem Mf(h:zS l f){E:@Z}(hE:∀e,f e≠e->e∈E):l.length<=E.length:=by
 have:=sub_len' (l.map λp:T3×T3=>p.1) E h.nd λe he=>by
  obtain⟨p,hp,rfl⟩:=List.mem_map.mp he;exact hE _ (h.mem hp).2
 ext f
theorem Mk(l)(k):(EN l k).length<=l.length:=fc _ _
theorem HR(f)(ps)(x:T3×T3):cls f (ps++[x])=cls f ps+cl (jI f ps) x.1 x.2:=by rw[vK];rfl
theorem Ha(f)(ps)(x:T3×T3):jI f (ps++[x])=jn (jI f ps) x.1 x.2:=by rw[Bg];rfl
end JB
namespace JB
open K2.P K2.J
open K2.Y (Po L ND NZ fG qg gE gb cp fF iL gV gW Pl)
def V0(ns:@u)(k:PK):Prop:=∃P,k=gv P/\(es P).Nodup/\∀e,pt P e≠e↔∃n∈ns,e∈kE n
def Fb(ns:@u):@Z:=ns.flatMap kE
theorem Il(ns):(Fb ns).length=4*ns.length:=by
 induction ns with
 |nil=>rfl
 |cons n ns ih=>unfold Fb at *;rw[cZ,aB,ih,aj];show 4+_=_;lia
theorem XG{ns:@u}(nd:(es P).Nodup)(h:∀e,pt P e≠e↔∃n∈ns,e∈kE n):P.length<=2*ns.length:=by
 have:=sub_len' (es P) (Fb ns) nd λe he=>by
  obtain⟨n,h1,h2⟩:=(h e).mp ((i6 nd).mpr he);exact List.mem_flatMap.mpr ⟨n,h1,h2⟩
 rw[yk,Il] at this;lia
theorem aag(nd:(es P).Nodup)(hn:ns.Nodup)(h:∀e,pt P e≠e↔∃n∈ns,e∈kE n):Dm (pt P) ns:=⟨wG nd,hn,λn hn' e he=>(h e).mpr ⟨n,hn',he⟩⟩
theorem J3:∀{ps:Pr T3},Ok f ps->∀{e:T3},e∈es ps->jI f ps e=e:=by
 intro ps;induction ps generalizing f with
 |nil=>intro o e h;cases h
 |cons p ps ih=>
  intro o e h;rw[es,bA,bA] at h;rcases h with rfl |rfl |h
  .exact uD o.tl Q8
  .exact uD o.tl Q7
  .exact ih o.tl h
theorem Uw(d:Dm f (n::ns))(h:∀e,f e≠e↔∃m∈n::ns,e∈kE m)(w):∀e,jI f (js n w) e≠e↔∃m∈ns,e∈kE m:=by
 have ok:=d.ok w;have nn:=(List.nodup_cons.mp d.nd).1;intro e;constructor
 .intro z;have h1:f e≠e:=λy=>z (uD ok y);obtain⟨m,hm,he⟩:=(h e).mp h1;rcases List.mem_cons.mp hm with rfl |hm
  .exact absurd (J3 ok ((wZ m w).mem_iff.mpr he)) z
  .exact⟨m,hm,he⟩
 .rintro⟨m,hm,he⟩ z;rcases Es ok z with z |z
  .have h1:=zI ((wZ n w).mem_iff.mp z);have h2:=zI he;exact nn (by rw[<-h1,h2];exact hm)
  .exact(h e).mpr ⟨m,aI _ hm,he⟩ z
theorem WR [@U](f)(x y:α):cl f x y<=1:=by unfold cl;split<;>decide
theorem Ky(f)(n)(w):cls f (js n w)<=2:=by
 cases w<;>(show _+(_+0)<=2;have:=WR f;have a:=λf x y=>WR (α:=T3) f x y;have h1:=a f;have h2:=a;grind)
theorem MF:ND LP:=by unfold ND LP;decide
theorem B0:fG LP=2:=rfl
theorem nZ(h:n<=2 ^ 30):n<mM:=dS h (by unfold mM;exact Nat.pow_lt_pow_right (@d) (@d))
theorem wz(h:c<=3):c<=1000/\∀k,k<c->LP.length ^ k*LP.length<=SZ/\fG LP ^ k<mM:=by
 refine⟨@f,λk hk=>?_⟩;have:k=0\/k=1\/k=2:=@f
 rcases this with rfl |rfl |rfl
 .exact⟨@d,nZ (@d)⟩
 .exact⟨@d,nZ (@d)⟩
 .exact⟨@d,nZ (@d)⟩
theorem JD(h:c<=3):fG (cp LP c)<=8:=bh (Y.km LP c) (show 2 ^ c<=2 ^ 3 from dM (@d) h)
theorem Uv(h:c<=2):(cp LP c).length<=4:=bh (Y.qP LP c) (show 2 ^ c<=2 ^ 2 from dM (@d) h)
theorem MX{l:Po}{G:Gp}{Q:Bool->@l}(h:Q (!l.isEmpty) G):sJ (.fZ (aK l)) G Q:=by
 unfold sJ IK;dsimp only;have k:((aK l).all λp=>eT p.1)=true:=by unfold aK;rw[ot,jG];intro p _;rfl
 rw[if_pos k];have:(aK l).isEmpty=l.isEmpty:=by cases l<;>rfl
 rw[this];exact h
theorem GJ{G:Gp}{a:Nat}{A:Su}{k:PK}{Q:DK}(h:G a=some (.se (fW A)))(q:Q (.fZ (aK ((bL A k).getD []))) G):A5 @r [lb k,.fZ []] G Q:=by
 refine⟨_,k,h,rfl,?_⟩;rw[C8];cases e:bL A k with
 |none=>rw[e] at q;exact q
 |some l=>rw[e] at q;exact q
theorem ug{G:Gp}{a:Nat}{A:Su}{k:PK}{l:Po}{Q:@l}(h:G a=some (.se (fW A)))(hz:A.length<SZ)(q:Q (di G a (.se (fW (du A k l))))):Jy @r (lb k) (.fZ (aK l)) G Q:=by
 refine⟨_,k,h,rfl,by unfold fW;rw[ar];exact hz,?_⟩;rw[PQ];exact q
theorem Bl{G G1:Gp}{p:Nat}{A:Su}{Q:DK}(l:dH G G1)(hp:G p=none)(h1:G1 p=some (.se (fW A)))(q:Q (.kF (fW A)) G):OE G1 (.ref p) Q :=
 ⟨λa=>(G a).isNone,.kF (fW A),.se h1 (by simp[hp]) (.same _) rfl,by rw[tV l];exact q⟩
end JB
namespace JB
open K2.P K2.J
open K2.Y (Po L ND NZ fG qg gE gb cp fF iL gV gW Pl)
theorem Qx(e:S=pre++x::post):gM pre+fG x.2<=gM S:=by
 rw[e,AY,gM];lia
theorem uC(S)(p):iq (S++[p])=if p.2.isEmpty=true then iq S else iq S++[p]:=by
 unfold iq;rw[hZ];by_cases h:p.2.isEmpty=true
 .rw[if_pos h,OQ (by simp[h])];simp
 .rw[if_neg h,OP (by simp[h])];simp
theorem GX(nd:(S.map @k).Nodup)(e:S=pre++x::post):x.1∉(iq pre).map @k:=by
 intro z;obtain⟨q,hq,e2⟩:=List.mem_map.mp z;have Rx:=(List.mem_filter.mp hq).1;rw[e,aU,aw,bY] at nd;exact nd.2.2 _ (bE Rx) _ cw e2
end JB
namespace JB
open K2.P K2.J
open K2.Y (Po L ND NZ fG qg gE gb cp fF iL gV gW Pl)
variable {rows:Rows}
noncomputable def eO(s:T2):T3:=⟨s.a,s.b,1⟩
noncomputable def eI(s:T2):T3:=⟨s.a,s.b,0⟩
def xH(ps:@aW):Pr T3:=ps.map λp=>(eO p.1.s,eI p.2.s)
def CP(rows:Rows):Pr T3:=xH (@aY)
def fr(rows:Rows):T3->T3:=pt (CP rows)
noncomputable def lo(rows:Rows):Nat:=(rows.filter λr=>r.isEmpty).length
theorem BB:∀(P:Pr T3),(es P).Perm (P.map @k++P.map (·.2))
 |[]=>.refl _
 |p::P=>by
  rw[es,aw,aw,aH];refine DT _ ?_;exact((BB P).cons p.2).trans List.perm_middle.symm
theorem ZW(h1:(ps.map λp=>p.1.s).Nodup)(h2:(ps.map λp=>p.2.s).Nodup):(es (xH ps)).Nodup:=by
 refine(BB _).nodup_iff.mpr (List.nodup_append.mpr ⟨?_,?_,?_⟩)
 .have:(xH ps).map @k=(ps.map λp=>p.1.s).map eO:=by unfold xH;rw[bw,bw];rfl
  rw[this];refine ya h1 λi _ j _ e=>?_;injection e with e1 e2
  cases i;cases j;simp only at e1 e2;rw[e1,e2]
 .have:(xH ps).map (·.2)=(ps.map λp=>p.2.s).map eI:=by unfold xH;rw[bw,bw];rfl
  rw[this];refine ya h2 λi _ j _ e=>?_;injection e with e1 e2
  cases i;cases j;simp only at e1 e2;rw[e1,e2]
 .intro a ha b hb e;obtain⟨p,hp,rfl⟩:=List.mem_map.mp ha;obtain⟨q,hq,rfl⟩:=List.mem_map.mp hb;obtain⟨p',_,rfl⟩:=List.mem_map.mp hp;obtain⟨q',_,rfl⟩:=List.mem_map.mp hq;injection e with _ _ e3
  cases e3
theorem xV(d:Dr rows):(es (CP rows)).Nodup:=ZW (RV d) (Xk d)
theorem Xd(d:Dr rows):S9 (nK (@aY))=CP rows:=by
 rw[QG d];unfold S9 CP xH;rw[bw];rfl
theorem Xe(d:Dr rows)(e):e∈es (CP rows)↔∃p∈rows.flatten,e=eO p.s\/e=eI p.s:=by
 rw[jA];constructor
 .rintro⟨q,hq,z⟩;obtain⟨pq,hpq,rfl⟩:=List.mem_map.mp hq;have h1:pq.1∈rows.flatten:=by rw[<-uw rows];exact bE hpq
  have h2:pq.2∈rows.flatten:=(uv rows).mem_iff.mp (bE hpq);rcases z with z |z
  .exact⟨_,h1,.inl z⟩
  .exact⟨_,h2,.inr z⟩
 .rintro⟨p,hp,z |z⟩
  .obtain⟨q,hq,_⟩:=RL hp;exact⟨_,List.mem_map.mpr ⟨_,hq,rfl⟩,.inl z⟩
  .obtain⟨q,hq,_⟩:=RK hp;exact⟨_,List.mem_map.mpr ⟨_,hq,rfl⟩,.inr z⟩
theorem Le(d:Dr rows)(e):e∈es (CP rows)↔∃n∈@aB,e∈kE n:=by
 rw[Xe d];constructor
 .rintro⟨p,hp,z⟩;have hn:p.a∈@aB:=by
   rw[ly];rcases d.way p hp with w |w
   .exact⟨p,hp,w,rfl⟩
   .exact⟨_,d.NA p hp,by simp[w],rfl⟩
  refine⟨p.a,hn,?_⟩;rcases d.way p hp with w |w<;>rcases z with rfl |rfl<;>simp[kE,eO,eI,T3.s,w]
 .rintro⟨n,hn,he⟩;obtain⟨p,hp,w,rfl⟩:=ly.mp hn;have hm:=d.NA p hp;unfold kE at he;simp only[bA,bN,or_false] at he;have e0:p.s=⟨p.a,0⟩:=by show(⟨p.a,p.b⟩:T2)=_;rw[w]
  have e1:T3.s ⟨p.a,1-p.b,p.c⟩=⟨p.a,1⟩:=by show(⟨p.a,1-p.b⟩:T2)=_;rw[w];rfl
  rcases he with rfl |rfl |rfl |rfl
  .exact⟨p,hp,.inr (by rw[e0];rfl)⟩
  .exact⟨_,hm,.inl (by rw[e1];rfl)⟩
  .exact⟨_,hm,.inr (by rw[e1];rfl)⟩
  .exact⟨p,hp,.inl (by rw[e0];rfl)⟩
theorem wM(d:Dr rows):(@aB).Nodup:=by
 unfold names;refine M0 ?_;have h:=d.nd;have:∀{L:@Z},(L.map T3.s).Nodup->((L.filter λp=>p.b == 0).map (·.a)).Nodup:=by
  intro L;induction L with
  |nil=>intro _;exact bR
  | cons p L ih=>
   intro h;rw[aw,aW] at h;rw[cR];split
   .rename_i hp;rw[aw,aW];refine⟨λz=>h.1 ?_,ih h.2⟩;obtain⟨q,hq,e⟩:=List.mem_map.mp z;have Rx:=List.mem_filter.mp hq;refine List.mem_map.mpr ⟨q,Rx.1,?_⟩;have b1:p.b=0:=by simpa using hp
    have b2:q.b=0:=by simpa using Rx.2
    show(⟨q.a,q.b⟩:T2)=⟨p.a,p.b⟩;rw[e,b1,b2]
   .exact ih h.2
 exact this h
theorem WJ(d:Dr rows):Dm @ab (@aB) :=
 ⟨wG (xV d),wM d,λn hn e he=>(i6 (xV d)).mpr ((Le d e).mpr ⟨n,hn,he⟩)⟩
theorem JT(d:Dr rows):2*(@aB).length<=rows.flatten.length:=by
 have h:=sub_len' ((@aB).flatMap λn=>[(⟨n,0⟩:T2),⟨n,1⟩]) (rows.flatten.map T3.s) ?_ ?_
 .have:((@aB).flatMap λn=>[(⟨n,0⟩:T2),⟨n,1⟩]).length=2*(@aB).length:=by
   generalize @aB=l;induction l with
   |nil=>rfl
   |cons n l ih=>rw[cZ,aB,ih];simp only[aj,ax];lia
  rw[this,ar] at h;exact h
 .have:∀{l:@u},l.Nodup->(l.flatMap λn=>[(⟨n,0⟩:T2),⟨n,1⟩]).Nodup:=by
   intro l;induction l with
   |nil=>intro _;exact bR
   |cons n l ih=>
    intro h;rw[aW] at h;rw[cZ,bY];refine⟨@G,ih h.2,λa ha b hb e=>?_⟩;obtain⟨m,hm,hb⟩:=List.mem_flatMap.mp hb;have ea:a.a=n:=by simp only[bA,bN,or_false] at ha;rcases ha with rfl |rfl<;>rfl
    have eb:b.a=m:=by simp only[bA,bN,or_false] at hb;rcases hb with rfl |rfl<;>rfl
    rw[e,eb] at ea;exact h.1 (ea ▸ hm)
  exact this (wM d)
 .intro s hs;obtain⟨n,hn,hs⟩:=List.mem_flatMap.mp hs;obtain⟨p,hp,w,rfl⟩:=ly.mp hn;simp only[bA,bN,or_false] at hs;rcases hs with rfl |rfl
  .exact List.mem_map.mpr ⟨p,hp,by show(⟨p.a,p.b⟩:T2)=_;rw[w]⟩
  .exact List.mem_map.mpr ⟨_,d.NA p hp,by show(⟨p.a,1-p.b⟩:T2)=_;rw[w];rfl⟩
theorem aba(d:Dr rows)(h:n∈@aB):∃p∈rows.flatten,p.a=n:=by
 obtain⟨p,hp,_,e⟩:=ly.mp h;exact⟨p,hp,e⟩
theorem Jz(d:Dr rows):∀r∈rows,r.length<=24:=λr hr=>by
 have h1:=d.EF;obtain⟨a,b,e⟩:=List.append_of_mem hr;rw[e,jm,gF,aB,aB] at h1;lia
def Cr(rows:Rows)(ns:@u):@aC:=ns.map λn=>(n,handOf rows n)
theorem LJ(rows)(ns):(Cr rows ns).map @k=ns:=by
 unfold Cr;rw[bw];exact qy ns
theorem zip_map(f:Int->Int):∀l:@u,l.zip (l.map f)=l.map λn=>(n,f n)
 |[]=>rfl
 |n::l=>by rw[aw,rQ,zip_map f l,aw]
theorem adk(h:k<=5):8*8 ^ k<=1048576:=by
 have:8 ^ k<=8 ^ 5:=dM (@d) h;lia
end JB
namespace JK
open K2.P K2.J K2.JB
open K2.Tq (Nc Tr Kx)
variable {rows:Rows}
theorem Mo(h:Cn (ps++[(a,b)]) u v):Cn ps u v\/(Cn ps u a/\Cn ps b v)\/(Cn ps u b/\Cn ps a v):=by
 induction h with
 |refl x=>exact .inl (.refl x)
 |pair q=>
  rcases List.mem_append.mp q with q |q
  .exact .inl (.pair q)
  .rw[bF] at q;cases q;exact .inr (.inl ⟨.refl _,.refl _⟩)
 |symm _ ih=>
  rcases ih with h |⟨h1,h2⟩ |⟨h1,h2⟩
  .exact .inl h.symm
  .exact .inr (.inr ⟨h2.symm,h1.symm⟩)
  .exact .inr (.inl ⟨h2.symm,h1.symm⟩)
 |trans _ _ i1 i2=>
  rcases i1 with h |⟨h1,h2⟩ |⟨h1,h2⟩<;>rcases i2 with k |⟨k1,k2⟩ |⟨k1,k2⟩
  .exact .inl (h.trans k)
  .exact .inr (.inl ⟨h.trans k1,k2⟩)
  .exact .inr (.inr ⟨h.trans k1,k2⟩)
  .exact .inr (.inl ⟨h1,h2.trans k⟩)
  .exact .inr (.inl ⟨h1,k2⟩)
  .exact .inl (h1.trans k2)
  .exact .inr (.inr ⟨h1,h2.trans k⟩)
  .exact .inl (h1.trans k2)
  .exact .inr (.inr ⟨h1,k2⟩)
theorem uL(h:Cn ps u v):Cn (ps++qs) u v:=by
 induction h with
 |refl x=>exact .refl x
 |pair q=>exact .pair (dI _ q)
 |symm _ ih=>exact ih.symm
 |trans _ _ a b=>exact a.trans b
theorem Kw(h:Cn ([]:List (α×α)) u v):u=v:=by
 induction h with
 |refl x=>rfl
 |pair q=>cases q
 |symm _ ih=>exact ih.symm
 |trans _ _ a b=>exact a.trans b
theorem abx:∀{l:@u},l.Nodup->(l.flatMap kE).Nodup:=by
 intro l;induction l with
 |nil=>intro _;exact bR
 |cons n l ih=>
  intro h;rw[aW] at h;rw[cZ,bY];refine⟨HD n,ih h.2,λa ha b hb e=>?_⟩;obtain⟨m,hm,hb⟩:=List.mem_flatMap.mp hb;have e1:=zI ha;have e2:=zI hb;rw[<-e,e1] at e2;exact h.1 (e2 ▸ hm)
end JK
end K2
end
section
set_option maxHeartbeats 1000000
namespace K2
namespace JC
open K2.P K2.J K2.JB K2.JK
inductive W (f:T3->T3) (S:Pr T3):T3->T3->Prop where
 |stop {x:T3} (h:x∉es S):W f S x x
 |go {x y:T3} (h:x∈es S) (w:W f S (f (pt S x)) y):W f S x y
theorem CZ(nd:(es P).Nodup)(h:e∈es P):pt P e∈es P:=by
 rw[<-i6 nd,wG nd];exact λz=>(i6 nd).mpr h z.symm
theorem aac(nd:(es (p::P)).Nodup)(h:e∈es P):pt (p::P) e=pt P e:=by
 rw[es,aW,aW,bA,not_or] at nd;rw[pt,if_neg (λz:e=p.1=>nd.1.2 (z ▸ h)),if_neg (λz:e=p.2=>nd.2.1 (z ▸ h))]
theorem hop(o:Ok f (p::ps))(h1:e≠p.1)(h2:e≠p.2)(w:W f (p::ps) (jn f p.1 p.2 e) y):W f (p::ps) (f e) y:=by
 obtain⟨xy,hx,hy⟩:=o.hd;have iv:=o.iv;obtain⟨s1,s2⟩:=i4 o.nd (show p∈p::ps from cw);by_cases c1:f e=p.1
 .have c:e=f p.1:=by rw[<-c1,iv]
  rw[c1];refine .go (by simp[es]) ?_;rw[s1];have:jn f p.1 p.2 e=f p.2:=by unfold jn;rw[if_neg (by simp[h1,h2]),if_pos c]
  rw[this] at w;exact w
 .by_cases c2:f e=p.2
  .have c:e=f p.2:=by rw[<-c2,iv]
   rw[c2];refine .go (by simp[es]) ?_;rw[s2];have:jn f p.1 p.2 e=f p.1:=by unfold jn;rw[if_neg (by simp[h1,h2]),if_neg (λz=>c1 (by rw[z,iv])),if_pos c]
   rw[this] at w;exact w
  .have:jn f p.1 p.2 e=f e:=by unfold jn;rw[if_neg (by simp[h1,h2]),if_neg (λz=>c1 (by rw[z,iv])),if_neg (λz=>c2 (by rw[z,iv]))]
   rw[this] at w;exact w
theorem lift(o:Ok f (p::ps))(w:W (jn f p.1 p.2) ps z y):∀e,e≠p.1->e≠p.2->z=jn f p.1 p.2 e->W f (p::ps) (f e) y:=by
 have n:=o.nd;rw[es,aW,aW] at n;obtain⟨xy,hx,hy⟩:=o.hd;have iv:=Wu o.iv hx hy xy;induction w with
 |@stop z h=>
  intro e h1 h2 ez;refine hop o h1 h2 ?_;rw[<-ez];refine .stop ?_;rw[es,bA,bA];have e1:jn f p.1 p.2 z=e:=by rw[ez,iv]
  rintro(c |c |c)
  .rw[c,Q8] at e1;exact h1 e1.symm
  .rw[c,Q7] at e1;exact h2 e1.symm
  .exact h c
 |@go z y h w ih=>
  intro e h1 h2 ez;refine hop o h1 h2 ?_;rw[<-ez];refine .go (by simp[es,h]) ?_;have a1:pt ps z∈es ps:=CZ n.2.2 h;have a2:pt (p::ps) z=pt ps z:=aac o.nd h;rw[a2];exact ih _ (λc=>n.1 (aI _ (c ▸ a1))) (λc=>n.2.1 (c ▸ a1)) rfl
theorem walk(o:Ok f S)(h:e∉es S):W f S (f e) (jI f S e):=by
 induction S generalizing f with
 |nil=>exact .stop (by simp[es])
 |cons p ps ih=>
  rw[es,bA,bA,not_or,not_or] at h;exact lift o (ih o.tl h.2.2) e h.1 h.2.1 rfl
open K2.Tq (it Eqv Nc Tr)
abbrev st(f:T3->T3)(S:Pr T3):T3->T3:=λx=>pt S (f x)
def ZK(f:T3->T3)(S:Pr T3)(g:T3->Prop):Prop:=∀x,g x->(x∈es S->g (pt S x))/\(f x∈es S->g (f x))
def Bnd(f:T3->T3)(S:Pr T3)(g:T3->Prop):Prop:=∀x∈es S,f x∉es S->g x
structure In(f:T3->T3)(S:Pr T3)(g0:T3->Prop)(e:T3)(k:Nat)(g:T3->Prop)(here:T3):Prop where
 g:∀x,g x↔g0 x\/∃i,i<k/\(x=it (st f S) i e\/x=f (it (st f S) i e))
 here:here=it (st f S) k e
 fr:∀i,i<k->¬ g0 (it (st f S) i e)/\∀j,j<i->it (st f S) i e≠it (st f S) j e/\it (st f S) i e≠f (it (st f S) j e)
 mem:∀i,i<=k->it (st f S) i e∈es S
 Yd:∀i,i<k->f (it (st f S) i e)∈es S
theorem In.zero(he:e∈es S):In f S g0 e 0 g0 e :=
 ⟨λx=>⟨.inl,λh=>h.elim id λ⟨i,h,_⟩=>absurd h (gL _)⟩,rfl,λi h=>absurd h (gL _),λi h=>by rw[Nat.le_zero.mp h];exact he,λi h=>absurd h (gL _)⟩
theorem In.step{g:T3->Prop}{here:T3}(o:Ok f S)(b:Bnd f S g0)(n:In f S g0 e k g here)(h:¬ g here)(hg:∀x,g' x↔g x\/x=here\/x=f here):In f S g0 e (k+1) g' (pt S (f here)):=by
 have hh:=n.here;subst hh;have h0:¬ g0 (it (st f S) k e):=λz=>h ((n.g _).mpr (.inl z));have hf:f (it (st f S) k e)∈es S:=fK λz=>h0 (b _ (n.mem k @D) z);refine⟨λx=>?_,rfl,λi hi=>?_,λi hi=>?_,λi hi=>?_⟩
 .rw[hg,n.g];constructor
  .rintro((h |⟨i,hi,h⟩) |h)
   .exact .inl h
   .exact .inr ⟨i,@f,h⟩
   .exact .inr ⟨k,@f,h⟩
  .rintro(w |⟨i,hi,w⟩)
   .exact .inl (.inl w)
   .by_cases c:i=k
    .subst c;exact .inr w
    .exact .inl (.inr ⟨i,@f,w⟩)
 .by_cases c:i=k
  .subst c;exact⟨h0,λj hj=>⟨λz=>h ((n.g _).mpr (.inr ⟨j,hj,.inl z⟩)),λz=>h ((n.g _).mpr (.inr ⟨j,hj,.inr z⟩))⟩⟩
  .exact n.fr i @c
 .by_cases c:i=k+1
  .subst c;exact CZ o.nd hf
  .exact n.mem i @c
 .by_cases c:i=k
  .subst c;exact hf
  .exact n.Yd i @c
theorem In.back{g:T3->Prop}{here:T3}(o:Ok f S)(c:ZK f S g0)(n:In f S g0 e k g here)(h:g here)(k0:k≠0):it (st f S) k e=e:=by
 have hh:=n.here;subst hh;obtain⟨m,rfl⟩:∃m,k=m+1:=⟨k-1,@f⟩;have iv:=o.iv;have pv:=wG o.nd;have last:pt S (it (st f S) (m+1) e)=f (it (st f S) m e):=pv _;obtain⟨f1,f2⟩:=n.fr m @c;rcases(n.g _).mp h with h |⟨j,hj,h |h⟩
 .have h1:=(c _ h).1 (n.mem _ @D);rw[last] at h1;have h2:=(c _ h1).2 (by rw[iv];exact n.mem m @c);rw[iv] at h2;exact absurd h2 f1
 .cases j with
  |zero=>exact h
  |succ j=>
   have e1:f (it (st f S) m e)=f (it (st f S) j e):=by rw[<-last,h];exact pv _
   have e2:=congrArg f e1;rw[iv,iv] at e2;exact absurd e2 (f2 j @c).1
 .have e1:f (it (st f S) m e)=it (st f S) (j+1) e:=by rw[<-last,h];rfl
  by_cases c1:j=m
  .subst c1;exact absurd (show pt S (f (it (st f S) j e))=f (it (st f S) j e) from h) ((i6 o.nd).mpr (n.Yd j @c))
  .by_cases c2:j+1=m
   .subst c2;exact absurd e1 (o.dm _ (n.mem _ @c))
   .have e2:=congrArg f e1;rw[iv] at e2;exact absurd e2 (f2 (j+1) @c).2
theorem In.Sh{g:T3->Prop}{here:T3}(o:Ok f S)(c:ZK f S g0)(n:In f S g0 e k g here)(h:g here):ZK f S g:=by
 by_cases k0:k=0
 .subst k0;intro x hx;have hx0:g0 x:=((n.g x).mp hx).elim id λ⟨i,h,_⟩=>absurd h (gL _);exact⟨λz=>(n.g _).mpr (.inl ((c x hx0).1 z)),λz=>(n.g _).mpr (.inl ((c x hx0).2 z))⟩
 have bk:=n.back o c h k0;have iv:=o.iv;have pv:=wG o.nd;intro x hx;rcases(n.g x).mp hx with hx |⟨i,hi,rfl |rfl⟩
 .exact⟨λz=>(n.g _).mpr (.inl ((c x hx).1 z)),λz=>(n.g _).mpr (.inl ((c x hx).2 z))⟩
 .refine⟨λ_=>(n.g _).mpr (.inr ?_),λ_=>(n.g _).mpr (.inr ⟨i,hi,.inr rfl⟩)⟩;cases i with
  |zero=>
   obtain⟨m,rfl⟩:∃m,k=m+1:=⟨k-1,@f⟩;refine⟨m,@f,.inr ?_⟩;show pt S e=_;have:pt S e=pt S (it (st f S) (m+1) e):=by rw[bk]
   rw[this];exact pv _
  |succ i=>exact⟨i,@f,.inr (pv _)⟩
 .refine⟨λ_=>(n.g _).mpr (.inr ?_),λ_=>(n.g _).mpr (.inr ⟨i,hi,.inl (iv _)⟩)⟩;by_cases c1:i+1=k
  .exact⟨0,@f,.inl (by show it (st f S) (i+1) e=e;rw[c1,bk])⟩
  .exact⟨i+1,@f,@W⟩
theorem In.len{g:T3->Prop}{here:T3}(n:In f S g0 e k g here):k<=(es S).length:=by
 have:=sub_len' ((eV k).map λi=>it (st f S) i e) (es S) (by
  rw[List.Nodup,iR];refine List.pairwise_lt_range.imp_of_mem λ{i j} hi hj Kf z=>?_;exact((n.fr j (List.mem_range.mp hj)).2 i Kf).1 z.symm) λx hx=>by
   obtain⟨i,hi,rfl⟩:=List.mem_map.mp hx;exact n.mem i (xR (List.mem_range.mp hi))
 ext f
end JC
end K2
end
section
set_option maxHeartbeats 1000000
namespace K2
namespace JC
open K2.P K2.J K2.JB K2.JK
open K2.Tq (it Eqv Nc Tr Kx)
inductive Wm (f:T3->T3) (S:Pr T3):T3->T3->@Z->Prop where
 |stop {x:T3} (h:x∉es S):Wm f S x x [x]
 |go {x y:T3} {ms:@Z} (h:x∈es S) (w:Wm f S (f (pt S x)) y ms):Wm f S x y (x::pt S x::ms)
theorem W.m(w:W f S x y):∃ms,Wm f S x y ms:=by
 induction w with
 |stop h=>exact⟨_,.stop h⟩
 |go h _ ih=>exact⟨_,.go h ih.choose_spec⟩
section
variable {f:T3->T3} {S:Pr T3} {x y:T3} {ms:@Z}
theorem Wm.hd(w:Wm f S x y ms):x∈ms:=by cases w<;>exact cw
theorem Wm.lst(w:Wm f S x y ms):y∈ms/\y∉es S:=by
 induction w with
 |stop h=>exact⟨cw,h⟩
 |go h _ ih=>exact⟨aI _ (aI _ ih.1),ih.2⟩
theorem Wm.out(o:Ok f S)(w:Wm f S x y ms):∀z∈ms,z∉es S->z=y:=by
 induction w with
 |stop h=>intro z hz _;exact List.mem_singleton.mp hz
 | go h _ ih=>
  intro z hz hn;rcases List.mem_cons.mp hz with rfl |hz
  .exact absurd h hn
  .rcases List.mem_cons.mp hz with rfl |hz
   .exact absurd (CZ o.nd h) hn
   .exact ih z hz hn
theorem Wm.cl(o:Ok f S)(w:Wm f S x y ms):∀z∈ms,(z∈es S->pt S z∈ms)/\(f z∈es S->f z∈ms\/z=x):=by
 induction w with
 |stop h=>intro z hz;rw[bF] at hz;subst hz;exact⟨λz=>absurd z h,λ_=>.inr rfl⟩
 | @go x y ms h w ih=>
  intro z hz;rcases List.mem_cons.mp hz with rfl |hz
  .exact⟨λ_=>@G,λ_=>.inr rfl⟩
  .rcases List.mem_cons.mp hz with rfl |hz
   .exact⟨λ_=>by rw[wG o.nd];simp,λ_=>.inl (by simp[w.hd])⟩
   .obtain⟨h1,h2⟩:=ih z hz;refine⟨λk=>by simp[h1 k],λk=>.inl ?_⟩;rcases h2 k with k |k
    .simp[k]
    .rw[k,o.iv];simp
theorem Wm.rel(e:Eqv R)(hf:∀x,f x≠x->R x (f x))(hs:∀x∈es S,R x (pt S x))(o:Ok f S)(w:Wm f S x y ms):∀z∈ms,R z x:=by
 induction w with
 |stop h=>intro z hz;rw[bF] at hz;subst hz;exact e.rf _
 | @go x y ms h w ih=>
  intro z hz;have a:=e.sy (hs x h);rcases List.mem_cons.mp hz with rfl |hz
  .exact e.rf _
  .rcases List.mem_cons.mp hz with rfl |hz
   .exact a
   .exact e.tr (ih z hz) (e.tr (e.sy (hf _ (o.dm _ (CZ o.nd h)))) a)
end
structure P1(f:T3->T3)(S:Pr T3)(R:T3->T3->Prop)(pre:@Z)(g:T3->Prop)(B:@Z):Prop where
 Sh:ZK f S g
 lft:∀e∈pre,e∉es S->f e∈es S->g (f e)
 NT:∀e∈B,e∈pre/\e∉es S/\g (jI f S e)
 gB:∀e,g e->e∉es S->∃b∈B,e=jI f S b
 Oj:∀e∈pre,e∉es S->e∈B\/jI f S e∈B
 nd:B.Nodup
 no:∀e∈B,∀b∈B,e≠jI f S b
 rel:∀x,g x->∃e∈B,R x e
theorem P1.zero(h:∀x,¬ g x):P1 f S R [] g [] :=
 ⟨λx z=>absurd z (h x),λe z=>(by cases z),λe z=>(by cases z),λe z=>absurd z (h e),λe z=>(by cases z),bR,λe z=>(by cases z),λx z=>absurd z (h x)⟩
section
variable {f:T3->T3} {S:Pr T3} {R:T3->T3->Prop} {pre:@Z} {g g':T3->Prop} {B:@Z} {e:T3}
theorem P1.skip(o:Ok f S)(p:P1 f S R pre g B)(h:e∈es S\/g e):P1 f S R (pre++[e]) g B:=by
 have on:∀{x},x∈pre++[e]->x∈pre\/x=e:=λh=>@bc
 refine⟨p.Sh,λx hx hn hf=>?_,λx hx=>⟨by simp[(p.NT x hx).1],(p.NT x hx).2⟩,p.gB,λx hx hn=>?_,p.nd,p.no,p.rel⟩
 .rcases on hx with hx |rfl
  .exact p.lft x hx hn hf
  .rcases h with h |h
   .exact absurd h hn
   .exact(p.Sh x h).2 hf
 .rcases on hx with hx |rfl
  .exact p.Oj x hx hn
  .rcases h with h |h
   .exact absurd h hn
   .obtain⟨b,hb,rfl⟩:=p.gB x h hn;right;rw[yd o];exact hb
theorem P1.gone(hR:Eqv R)(hf:∀x,f x≠x->R x (f x))(hs:∀x∈es S,R x (pt S x))(o:Ok f S)(p:P1 f S R pre g B)(h1:e∉es S)(h2:¬ g e)(h3:f e≠e)(h4:e∉pre)(w:Wm f S (f e) (jI f S e) ms)(hg:∀x,g' x↔g x\/x∈ms):P1 f S R (pre++[e]) g' (B++[e]):=by
 have on:∀{x},x∈pre++[e]->x∈pre\/x=e:=λh=>@bc
 have onB:∀{x},x∈B++[e]->x∈B\/x=e:=λh=>@bc
 have jv:=yd o;have cl:=w.cl o;have ne:jI f S e≠e:=λz=>by
  rcases Es o z with z |z
  .exact h1 z
  .exact h3 z
 refine⟨λx hx=>?_,λx hx hn hf=>?_,λx hx=>?_,λx hx hn=>?_,λx hx hn=>?_,?_,λx hx b hb=>?_,λx hx=>?_⟩
 .rcases(hg x).mp hx with hx |hx
  .exact⟨λz=>(hg _).mpr (.inl ((p.Sh x hx).1 z)),λz=>(hg _).mpr (.inl ((p.Sh x hx).2 z))⟩
  .refine⟨λz=>(hg _).mpr (.inr ((cl x hx).1 z)),λz=>?_⟩;rcases(cl x hx).2 z with k |k
   .exact(hg _).mpr (.inr k)
   .rw[k,o.iv] at z;exact absurd z h1
 .rcases on hx with hx |rfl
  .exact(hg _).mpr (.inl (p.lft x hx hn hf))
  .exact(hg _).mpr (.inr w.hd)
 .rcases onB hx with hx |rfl
  .obtain⟨a,b,c⟩:=p.NT x hx;exact⟨by simp[a],b,(hg _).mpr (.inl c)⟩
  .exact⟨@G,h1,(hg _).mpr (.inr w.lst.1)⟩
 .rcases(hg x).mp hx with hx |hx
  .obtain⟨b,hb,k⟩:=p.gB x hx hn;exact⟨b,by simp[hb],k⟩
  .exact⟨e,@G,w.out o x hx hn⟩
 .rcases on hx with hx |rfl
  .rcases p.Oj x hx hn with k |k
   .exact .inl (by simp[k])
   .exact .inr (by simp[k])
  .exact .inl @i
 .rw[bY];refine⟨p.nd,@G,λa ha b hb z=>?_⟩;rw[bF] at hb;subst hb;subst z;exact h4 (p.NT a ha).1
 .intro z;rcases onB hx with k |k<;>rcases onB hb with l |l
  .exact p.no x k b l z
  .have:=(p.NT x k).2.2;rw[z,jv,l] at this;exact h2 this
  .have:=(p.NT b l).2.2;rw[<-z,k] at this;exact h2 this
  .rw[k,l] at z;exact ne z.symm
 .rcases(hg x).mp hx with hx |hx
  .obtain⟨b,hb,k⟩:=p.rel x hx;exact⟨b,by simp[hb],k⟩
  .exact⟨e,@G,hR.tr (w.rel hR hf hs o x hx) (hR.sy (hf e h3))⟩
structure P2(f:T3->T3)(S:Pr T3)(R:T3->T3->Prop)(B:@Z)(pre:@Z)(g:T3->Prop)(A:@Z):Prop where
 Sh:ZK f S g
 bnd:Bnd f S g
 all:∀e∈pre,g e
 ina:∀a∈A,a∈es S/\g a
 pw:A.Pairwise λa b=>¬ R a b
 Yi:∀a∈A,∀b∈B,¬ R a b
 rel:∀x,g x->(∃e∈B,R x e)\/∃a∈A,R x a
def Rl(f:T3->T3)(S:Pr T3)(x y:T3):Prop:=∀Q:T3->Prop,(∀x,Q x->Q (f x))->(∀x,Q x->Q (pt S x))->(Q x↔Q y)
theorem Wb(f)(S):Eqv (Rl f S):=⟨λx Q _ _=>Iff.rfl,λh Q a b=>(h Q a b).symm,λh k Q a b=>(h Q a b).trans (k Q a b)⟩
theorem T5(iv:Iv f)(x):Rl f S x (f x):=λQ a _=>⟨a x,λh=>by have:=a _ h;rwa[iv] at this⟩
theorem Xr(nd:(es S).Nodup)(x):Rl f S x (pt S x):=λQ _ b=>⟨b x,λh=>by have:=b _ h;rwa[wG nd] at this⟩
theorem RQ(o:Ok f S)(c:ZK f S g)(b:Bnd f S g)(h:Rl f S x y):(g x\/x∉es S)↔(g y\/y∉es S):=by
 refine h (λx=>g x\/x∉es S) (λx hx=>?_) λx hx=>?_
 .by_cases z:f x∈es S
  .refine .inl ?_;rcases hx with hx |hx
   .exact(c x hx).2 z
   .exact b _ z (by rw[o.iv];exact hx)
  .exact .inr z
 .by_cases z:x∈es S
  .rcases hx with hx |hx
   .exact .inl ((c x hx).1 z)
   .exact absurd z hx
  .rw[mH z];exact hx
theorem P1.two(o:Ok f S)(p:P1 f S (Rl f S) pre g B)(h:∀x∈es S,f x∈pre):P2 f S (Rl f S) B [] g [] :=
 ⟨p.Sh,λx hx hn=>by have:=p.lft (f x) (h x hx) hn (by rw[o.iv];exact hx);rwa[o.iv] at this,λe z=>(by cases z),λe z=>(by cases z),.nil,λe z=>(by cases z),λx hx=>.inl (p.rel x hx)⟩
theorem P2.skip(p:P2 f S R B pre g A)(h:g e):P2 f S R B (pre++[e]) g A :=
 ⟨p.Sh,p.bnd,λx hx=>by
  rcases List.mem_append.mp hx with hx |hx
  .exact p.all x hx
  .rw[bF] at hx;rw[hx];exact h,p.ina,p.pw,p.Yi,p.rel⟩
theorem In.rel{here:T3}(o:Ok f S)(n:In f S g e k g' here):∀i,Rl f S (it (st f S) i e) e
 |0=>(Wb f S).rf _
 |i+1=>(Wb f S).tr ((Wb f S).sy ((Wb f S).tr (T5 o.iv _) (Xr o.nd _))) (n.rel o i)
theorem P2.ring(o:Ok f S)(p:P2 f S (Rl f S) B pre g A)(hB:∀b∈B,b∉es S)(he:e∈es S)(h:¬ g e)(n:In f S g e k g' here)(hh:g' here):P2 f S (Rl f S) B (pre++[e]) g' (A++[e]):=by
 have E:=Wb f S;have up:∀x,g x->g' x:=λx hx=>(n.g x).mpr (.inl hx);have k0:k≠0:=λz=>by
  subst z;rw[n.here] at hh;rcases(n.g _).mp hh with w |⟨i,hi,_⟩
  .exact h w
  .exact absurd hi (gL _)
 have ge:g' e:=(n.g e).mpr (.inr ⟨0,@f,@W⟩);have far:∀x,(g x\/x∉es S)->¬ Rl f S x e:=λx hx r=>by
  rcases(RQ o p.Sh p.bnd r).mp hx with w |w
  .exact h w
  .exact w he
 refine⟨n.Sh o p.Sh hh,λx hx hn=>up x (p.bnd x hx hn),λx hx=>?_,λa ha=>?_,?_,λa ha b hb=>?_,λx hx=>?_⟩
 .rcases List.mem_append.mp hx with hx |hx
  .exact up x (p.all x hx)
  .rw[bF] at hx;rw[hx];exact ge
 .rcases List.mem_append.mp ha with ha |ha
  .exact⟨(p.ina a ha).1,up a (p.ina a ha).2⟩
  .rw[bF] at ha;rw[ha];exact⟨he,ge⟩
 .rw[TB];refine⟨p.pw,ON _ _,λa ha b hb=>?_⟩;rw[bF] at hb;rw[hb];exact far a (.inl (p.ina a ha).2)
 .rcases List.mem_append.mp ha with ha |ha
  .exact p.Yi a ha b hb
  .rw[bF] at ha;rw[ha];exact λr=>far b (.inr (hB b hb)) (E.sy r)
 .rcases(n.g x).mp hx with hx |⟨i,hi,rfl |rfl⟩
  .rcases p.rel x hx with w |⟨a,ha,w⟩
   .exact .inl w
   .exact .inr ⟨a,by simp[ha],w⟩
  .exact .inr ⟨e,@G,n.rel o i⟩
  .exact .inr ⟨e,@G,E.tr (E.sy (T5 o.iv _)) (n.rel o i)⟩
end
end JC
end K2
end
section
set_option maxHeartbeats 1000000
namespace K2
namespace JC
open K2.P K2.J K2.JB
open K2.JK (Mo uL Kw)
open K2.Tq (it Eqv Nc Tr Kx)
def Sp(cv f:T3->T3)(ps:Pr T3):Prop:=∀e e',f e≠e->f e'≠e'->(Cn ps (cv e) (cv e')↔e'=e\/e'=f e)
theorem Sp.step(iv:Iv f)(s:Sp cv f ps)(xy:x≠y)(hx:f x≠x)(hy:f y≠y):Sp cv (jn f x y) (ps++[(cv x,cv y)]):=by
 have op:∀e,jn f x y e≠e->e≠x/\e≠y/\f e≠e:=λe h=>by
  refine⟨λz=>h (by rw[z];exact Q8),λz=>h (by rw[z];exact Q7),λz=>h ?_⟩;have i1:e=f x->e=x:=λw=>by rw[<-z,w,iv]
  have i2:e=f y->e=y:=λw=>by rw[<-z,w,iv]
  unfold jn
  grind
 intro e e' he he';obtain⟨ex,ey,fe⟩:=op e he;obtain⟨ex',ey',fe'⟩:=op e' he';have i:∀u v:T3,f u=v↔u=f v:=λu v=>⟨λh=>by rw[<-h,iv],λh=>by rw[h,iv]⟩;have a1:=s e e' fe fe';have a2:=s e x fe hx;have a3:=s e y fe hy;have a4:=s y e' hy fe';have a5:=s x e' hx fe';constructor
 .intro h;have i1:=i e x;have i2:=i e y;unfold jn;rcases Mo h with h |⟨h1,h2⟩ |⟨h1,h2⟩
  .have:=a1.mp h;grind
  .have:=a2.mp h1;have:=a4.mp h2;grind
  .have:=a3.mp h1;have:=a5.mp h2;grind
 .intro h;rcases h with h |h
  .rw[h];exact .refl _
  .have last:Cn (ps++[(cv x,cv y)]) (cv x) (cv y):=.pair @i;by_cases c1:e=f x
   .have e2:e'=f y:=by rw[h];unfold jn;grind
    exact(uL (a2.mpr (.inr (by rw[c1,iv])))).trans (last.trans (uL (a4.mpr (.inr e2))))
   .by_cases c2:e=f y
    .have e2:e'=f x:=by rw[h];unfold jn;grind
     exact(uL (a3.mpr (.inr (by rw[c2,iv])))).trans (last.symm.trans (uL (a5.mpr (.inr e2))))
    .have e2:e'=f e:=by rw[h];unfold jn;grind
     exact uL (a1.mpr (.inr e2))
theorem run:∀(qs:Pr T3) (f:T3->T3) (ps:Pr T3) (k m:Nat),Ok f qs->Sp cv f ps->(∀p∈qs,cv p.1∈V/\cv p.2∈V)->Nc V (Cn ps) k->Nc V (Cn (ps++qs.map λp=>(cv p.1,cv p.2))) m->k+cls f qs=m+qs.length/\Sp cv (jI f qs) (ps++qs.map λp=>(cv p.1,cv p.2))
 |[],f,ps,k,m,_,s,_,h1,h2=>by
  rw[aR,cI] at h2 ⊢;exact⟨by rw[Nc.uniq (Kx ps) h1 h2];rfl,s⟩
 |p::qs,f,ps,k,m,o,s,hv,h1,h2=>by
  obtain⟨xy,hx,hy⟩:=o.hd;obtain⟨v1,v2⟩:=hv p @i;rw[aw,List.append_cons] at h2 ⊢;obtain⟨l,hl⟩:=Nc.ex (Kx (ps++[(cv p.1,cv p.2)])) V;have ih:=run qs (jn f p.1 p.2) (ps++[(cv p.1,cv p.2)]) l m o.tl (s.step o.iv xy hx hy) (λq hq=>hv q (aI _ hq)) hl h2;obtain⟨j1,j2⟩:=Nc.join v1 v2 h1 hl;have sp:=s p.1 p.2 hx hy;refine⟨?_,ih.2⟩;have ih:=ih.1;rw[cls,aj];unfold cl;by_cases c:f p.1=p.2
  .rw[if_pos c];have:=j1 (sp.mpr (.inr c.symm));lia
  .rw[if_neg c];have:=j2 (λz=>by rcases sp.mp z with z |z;exact xy z.symm;exact c z.symm);lia
structure Th(f cv:T3->T3)(V:@Z):Prop where
 nd:V.Nodup
 op:∀v∈V,f v≠v/\cv v=v
 cv1:∀e,cv e=e\/cv e=f e
 cvf:∀e,f e≠e->cv (f e)=cv e
 Zu:∀e,f e≠e->cv e∈V
theorem Th.sp(iv:Iv f)(t:Th f cv V):Sp cv f []:=by
 intro e e' he he';constructor
 .intro h;have h:=Kw h;have:=iv e;have:=iv e';rcases t.cv1 e with a |a<;>rcases t.cv1 e' with b |b<;>rw[a,b] at h
  .exact .inl h.symm
  .exact .inr (by rw[h,iv])
  .exact .inr h.symm
  .exact .inl (by rw[<-iv e',<-h,iv])
 .rintro(rfl |rfl)
  .exact .refl _
  .rw[t.cvf e he];exact .refl _
theorem Z5(o:Ok f S)(t:Th f cv V)(hx:f x≠x)(r:Rl f S x y):Cn (S.map λp=>(cv p.1,cv p.2)) (cv x) (cv y):=by
 refine((r (λz=>f z≠z/\Cn (S.map λp=>(cv p.1,cv p.2)) (cv x) (cv z)) (λz hz=>?_) λz hz=>?_).mp ⟨hx,.refl _⟩).2
 .refine⟨λw=>hz.1 (by rw[<-o.iv z,w];exact w),?_⟩;rw[t.cvf z hz.1];exact hz.2
 .by_cases c:z∈es S
  .refine⟨o.dm _ (CZ o.nd c),hz.2.trans ?_⟩;obtain⟨p,hp,w⟩:=jA.mp c;have q:Cn (S.map λp=>(cv p.1,cv p.2)) (cv p.1) (cv p.2):=.pair (List.mem_map.mpr ⟨p,hp,rfl⟩);rcases w with rfl |rfl
   .rw[(i4 o.nd hp).1];exact q
   .rw[(i4 o.nd hp).2];exact q.symm
  .rw[mH c];exact hz
theorem Sf(o:Ok f S)(t:Th f cv V)(r:Cn (S.map λp=>(cv p.1,cv p.2)) (cv x) (cv y)):Rl f S x y:=by
 have E:=Wb f S;have c:∀x,Rl f S x (cv x):=λx=>by
  rcases t.cv1 x with h |h<;>rw[h]
  .exact E.rf _
  .exact T5 o.iv x
 have:∀u v,Cn (S.map λp=>(cv p.1,cv p.2)) u v->Rl f S u v:=λu v r=>by
  induction r with
  |refl x=>exact E.rf _
  |pair q=>
   obtain⟨p,hp,z⟩:=List.mem_map.mp q;cases z;have s:=Xr (f:=f) o.nd p.1;rw[(i4 o.nd hp).1] at s;exact E.tr (E.sy (c _)) (E.tr s (c _))
  |symm _ ih=>exact E.sy ih
  |trans _ _ a b=>exact E.tr a b
 exact E.tr (c x) (E.tr (this _ _ r) (E.sy (c y)))
theorem F8{α:Type} [@U]{xs ys:@v}(h1:xs.Nodup)(h2:ys.Nodup)(h:∀x,x∈xs↔x∈ys):xs.length=ys.length :=
 Jg (sub_len' xs ys h1 λx hx=>(h x).mp hx) (sub_len' ys xs h2 λx hx=>(h x).mpr hx)
theorem kD(o:Ok f S){e:T3}(h1:f e≠e)(h2:e∉es S):jI f S e≠e:=λz=>by
 rcases Es o z with z |z
 .exact h2 z
 .exact h1 z
theorem yc(o:Ok f S){e:T3}(h:jI f S e≠e):f e≠e/\e∉es S:=⟨λz=>h (uD o z),λz=>h (J3 o z)⟩
theorem found(o:Ok f S)(t:Th f cv V)(tH:∀e,e∈pre↔f e≠e)(p1:P1 f S (Rl f S) pre g B)(p2:P2 f S (Rl f S) B rT g2 A)(Ry:∀e∈es S,e∈rT):A.length=cls f S:=by
 have E:=Wb f S;have jv:=yd o;obtain⟨m,hm⟩:=Nc.ex (Kx (S.map λp=>(cv p.1,cv p.2))) V;have nil:Nc V (Cn []) V.length:=⟨V,⟨t.nd.imp λh z=>h (Kw z),λx hx=>⟨x,hx,.refl _⟩,λx h=>h⟩,rfl⟩;obtain⟨r1,r2⟩:=run S f [] V.length m o (t.sp o.iv) (λp hp=>⟨t.Zu _ (o.dm _ (jA.mpr ⟨p,hp,@W⟩)),t.Zu _ (o.dm _ (jA.mpr ⟨p,hp,.inr rfl⟩))⟩) nil (by rw[aL];exact hm);rw[aL] at r2;have Bo:∀b∈B,f b≠b/\b∉es S:=λb hb=>⟨(tH b).mp (p1.NT b hb).1,(p1.NT b hb).2.1⟩;have Ao:∀a∈A,f a≠a:=λa ha=>o.dm a (p2.ina a ha).1;have tr:Nc V (Cn (S.map λp=>(cv p.1,cv p.2))) (A.length+B.length):=by
  refine⟨(A++B).map cv,⟨?_,λv hv=>?_,λv hv=>?_⟩,@G⟩
  .rw[iR,TB];refine⟨p2.pw.imp λh z=>h (Sf o t z),?_,λa ha b hb z=>p2.Yi a ha b hb (Sf o t z)⟩;refine p1.nd.imp_of_mem λ{a b} ha hb N8 z=>?_;rcases(r2 a b (kD o (Bo a ha).1 (Bo a ha).2) (kD o (Bo b hb).1 (Bo b hb).2)).mp z with w |w
   .exact N8 w.symm
   .exact p1.no b hb a ha w
  .obtain⟨h1,h2⟩:=t.op v hv;have:(∃e∈B,Rl f S v e)\/∃a∈A,Rl f S v a:=by
    by_cases c:v∈es S
    .exact p2.rel v (p2.all v (Ry v c))
    .left;rcases p1.Oj v ((tH v).mpr h1) c with k |k
     .exact⟨v,k,E.rf _⟩
     .exact⟨_,k,Sf o t ((r2 v (jI f S v) (kD o h1 c) (λz=>kD o h1 c (by rw[jv] at z;exact z.symm))).mpr (.inr rfl))⟩
   have fin:∀a,Rl f S v a->Cn (S.map λp=>(cv p.1,cv p.2)) v (cv a):=λa r=>by
    have:=Z5 o t h1 r
    rwa[h2] at this
   rcases this with ⟨e,he,r⟩ |⟨a,ha,r⟩
   .exact⟨cv e,bE (cK _ he),fin e r⟩
   .exact⟨cv a,bE (dI _ ha),fin a r⟩
  .obtain⟨a,ha,rfl⟩:=List.mem_map.mp hv;rcases List.mem_append.mp ha with ha |ha
   .exact t.Zu a (Ao a ha)
   .exact t.Zu a (Bo a ha).1
 have em:=Nc.uniq (Kx _) hm tr;have inj:∀{h:T3->T3},Iv h->∀{l:@Z},l.Nodup->(l.map h).Nodup:=λ{h} hv {l} nd=>by
  rw[List.Nodup,iR];exact nd.imp λk z=>k (by have:=congrArg h z;rwa[hv,hv] at this)
 have len:(V++V.map f).length=((B++B.map (jI f S))++es S).length:=by
  refine F8 ?_ ?_ λx=>?_
  .rw[bY];refine⟨t.nd,inj o.iv t.nd,λa ha b hb z=>?_⟩;obtain⟨v,hv,rfl⟩:=List.mem_map.mp hb;have h1:=(t.op a ha).2;rw[z,t.cvf v (t.op v hv).1,(t.op v hv).2] at h1;exact(t.op v hv).1 h1.symm
  .rw[bY,bY];refine⟨⟨p1.nd,inj jv p1.nd,λa ha b hb z=>?_⟩,o.nd,λa ha b hb z=>?_⟩
   .obtain⟨v,hv,rfl⟩:=List.mem_map.mp hb;exact p1.no a ha v hv z
   .subst z;rcases List.mem_append.mp ha with ha |ha
    .exact(Bo a ha).2 hb
    .obtain⟨v,hv,rfl⟩:=List.mem_map.mp ha;have:=J3 o hb;rw[jv] at this;exact kD o (Bo v hv).1 (Bo v hv).2 this.symm
  .have a1:x∈V++V.map f↔f x≠x:=by
    rw[qx,xF];constructor
    .rintro(h |⟨v,hv,rfl⟩)
     .exact(t.op x h).1
     .intro z;rw[o.iv] at z;exact(t.op v hv).1 z.symm
    .intro h;have:=t.Zu x h;rcases t.cv1 x with c |c<;>rw[c] at this
     .exact .inl this
     .exact .inr ⟨_,this,o.iv x⟩
   rw[a1,qx,qx,xF];constructor
   .intro h;by_cases c:x∈es S
    .exact .inr c
    .left;rcases p1.Oj x ((tH x).mpr h) c with k |k
     .exact .inl k
     .exact .inr ⟨_,k,jv x⟩
   .rintro((h |⟨b,hb,rfl⟩) |h)
    .exact(Bo x h).1
    .have:=kD o (Bo b hb).1 (Bo b hb).2;exact(yc o (λz=>this (by rw[jv] at z;exact z.symm))).1
    .exact o.dm x h
 simp only[aB,ar,yk] at len;lia
end JC
end K2
end
section
set_option maxHeartbeats 1000000
namespace K2
open Enc (enc)
namespace JC
open K2.P K2.J K2.JB
open Y (Po L ND NZ fG qg gE gb cp)
abbrev Ak:=(T3->T3)->Fn
noncomputable def tt(H:Ak):Su->Int
 |[]=>0
 |p::S=>L (H (pt (dec p.1))) p.2+tt H S
theorem Pp(H)(S S'):tt H (S++S')=tt H S+tt H S':=by
 induction S with
 |nil=>simp[tt]
 |cons p S ih=>rw[aH,tt,tt,ih];lia
theorem Pm(H)(k)(l):∀{S:Su},(S.map @k).Nodup->tt H (du S k l)=tt H S+(L (H (pt (dec k))) l-L (H (pt (dec k))) ((bL S k).getD []))
 | S,nd=>by
  unfold du;split
  .rename_i h;have main:∀{S:Su},(S.map @k).Nodup->(S.any λp=>decide (p.1=k))=true->tt H (S.map λp=>if p.1=k then(p.1,l) else p)=tt H S+(L (H (pt (dec k))) l-L (H (pt (dec k))) ((bL S k).getD [])):=by
    intro S;induction S with
    |nil=>intro _ h;cases h
    | cons p S ih=>
     intro nd h;rw[aw,aW] at nd;rw[aw,tt,tt];by_cases e:p.1=k
     .have e2:(S.map λp=>if p.1=k then(p.1,l) else p)=S:=by
       conv=>rhs;rw[<-qy S]
       refine d8 λq hq=>?_;rw[if_neg];rfl;intro z;exact nd.1 (by rw[e,<-z];exact bE hq)
      have e3:bL (p::S) k=some p.2:=by unfold bL;rw[cx (@bl)];rfl
      rw[e2,e3,if_pos e,e];simp only[oo];lia
     .have e3:bL (p::S) k=bL S k:=by unfold bL;rw[cg (@bl)]
      rw[e3,if_neg e,ih nd.2 (by simpa[e] using h)];lia
   exact main nd h
  .rename_i h;rw[Pp];have e3:bL S k=none:=by
    unfold bL;have:S.find? (λp=>decide (p.1=k))=none:=by
     rw[fC];intro p hp z;exact h (List.any_eq_true.mpr ⟨p,hp,z⟩)
    rw[this];rfl
   rw[e3];show tt H S+(L _ l+0)=_;simp only[uR,L];lia
theorem Eo(g)(b):∀(n:Nat) (i:Int),nO n (λt=>g (t+b)) i=nO n g (i+b):=λn i=>by
 have:=congrFun (Yg n b g) i;exact this
theorem Zh(g)(l)(c)(b):L g (Us l c b)=L (λj=>nO c g (j+b)) l:=by
 unfold Us;rw[Y.IA,Y.Iz,Int.one_mul];congr 1;funext i;rw[rF];have:(λj=>g (i+j+b))=λt=>g (t+(i+b)):=by
  funext t;rw[show i+t+b=t+(i+b) by lia]
 rw[this,Eo,xT]
theorem TX(h:CJ A)(H)(k')(l)(c)(b):tt H (u6 A k' l c b)=tt H A+L (λj=>nO c (H (pt (dec k'))) (j+b)) l:=by
 unfold u6;rw[Pm H k' _ h.1,Y.SK _ (h.get k').1,Zh];lia
theorem LU(H)(S):tt H (iq S)=tt H S:=by
 unfold iq;induction S with
 |nil=>rfl
 | cons p S ih=>
  rw[cR];split
  .rw[tt,tt,ih]
  .rename_i h;have:p.2=[]:=@bc
   rw[ih,tt,this,L,xT]
def Tc(n h:Int)(H:Ak)(w:Bool):Ak:=λf j=>nO (cls f (js n w)) (H (jI f (js n w))) (j+pw h w)
def op(n h:Int)(H:Ak):Ak:=λf j=>Tc n h H false f j+Tc n h H true f j
noncomputable def ops:@aC->Ak->Ak
 |[],H=>H
 |p::ps,H=>op p.1 p.2 (ops ps H)
abbrev B3:=List (Int×Bool)
noncomputable def jN:@u->List B3
 |[]=>[[]]
 |n::ns=>(jN ns).map (λc=>(n,false)::c)++(jN ns).map λc=>(n,true)::c
def jc(c:B3):Pr T3:=c.flatMap λp=>js p.1 p.2
def pc(hd:Int->Int)(c:B3):Int:=(c.map λp=>pw (hd p.1) p.2).sum
noncomputable def sm{α:Type}(F:α->Int)(l:@v):Int:=(l.map F).sum
theorem Jx(F)(l m:@v):sm F (l++m)=sm F l+sm F m:=by unfold sm;rw[aU,List.sum_append]
theorem PA(F)(k:α->β)(l):sm F (l.map k)=sm (λx=>F (k x)) l:=by unfold sm;rw[bw];rfl
theorem QP(F:α->Fn)(l)(c)(i):nO c (λj=>sm (λx=>F x j) l) i=sm (λx=>nO c (F x) i) l:=by
 induction l with
 | nil=>
  have:∀(c:Nat) (i:Int),nO c (λ_=>0) i=0:=λc=>by
   induction c with
   |zero=>intro i;rfl
   |succ c ih=>
    intro i;show -(nO c (λ_=>0) (i+2))-nO c (λ_=>0) (i-2)=0;rw[ih,ih];rfl
  exact this c i
 |cons x l ih=>
  have e:(λj=>sm (λx=>F x j) (x::l))=pl (F x) (λj=>sm (λx=>F x j) l):=rfl;rw[e,Yh];show nO c (F x) i+_=nO c (F x) i+_;rw[ih];rfl
theorem LF(hd)(H):∀(ns:@u) (f:T3->T3) (j:Int),ops (ns.map λn=>(n,hd n)) H f j=sm (λc=>nO (cls f @M) (H (jI f @M)) (j+pc hd c)) (jN ns)
 |[],f,j=>by
  show H f j=nO 0 (H f) (j+0)+0;rw[lF,lF];rfl
 | n::ns,f,j=>by
  have one:∀w,Tc n (hd n) (ops (ns.map λn=>(n,hd n)) H) w f j=sm (λc=>nO (cls f (jc ((n,w)::c))) (H (jI f (jc ((n,w)::c)))) (j+pc hd ((n,w)::c))) (jN ns):=λw=>by
   have e:ops (ns.map λn=>(n,hd n)) H (jI f (js n w))=λj=>sm (λc=>nO (cls (jI f (js n w)) @M) (H (jI (jI f (js n w)) @M)) (j+pc hd c)) (jN ns):=funext λj=>LF hd H ns _ j;unfold Tc;rw[e,QP];unfold sm;congr 1;refine d8 λc _=>?_;have e1:jc ((n,w)::c)=js n w++jc c:=rfl;have e2:pc hd ((n,w)::c)=pw (hd n) w+pc hd c:=rfl;rw[e1,e2,vK,Bg,Eo,LN,Int.add_assoc]
  show Tc _ _ _ false f j+Tc _ _ _ true f j=_;rw[one,one];show _=sm _ (_++_);rw[Jx,PA,PA]
end JC
end K2
end
section
set_option maxHeartbeats 1000000
namespace K2
open Enc (enc)
namespace JC
open K2.P K2.J K2.JB
open Y (Po L ND NZ fG qg gE gb cp)
structure CK(P:Pr T3):Prop where
 so:F1 P=P
 up:∀p∈P,bq.lt p.1 p.2=true
 nd:(es P).Nodup
theorem WL{P:Pr T3}(h:(es P).Nodup):P.Nodup:=by
 induction P with
 |nil=>exact bR
 |cons p P ih=>
  rw[es,aW,aW] at h;exact List.nodup_cons.mpr ⟨λz=>h.1 (aI _ (jA.mpr ⟨p,z,@W⟩)),ih h.2.2⟩
theorem QL{b:T3}(h:bq.lt a b=true):bq.lt b a=false:=by
 cases c:bq.lt b a with
 |false=>rfl
 |true=>exact absurd (bq.trans _ _ _ h c) (by rw[bq.J9];decide)
theorem Mr(a:CK P)(b:CK Q)(h:pt P=pt Q):∀p∈P,p∈Q:=by
 intro p hp;have h1:=(i4 a.nd hp).1;have h2:=PX a.nd hp;have h3:p.1∈es Q:=(i6 b.nd).mp (by rw[<-h,h1];exact λz=>h2 z.symm);obtain⟨q,hq,z⟩:=jA.mp h3;rcases z with z |z
 .have:p.2=q.2:=by rw[<-h1,h,z];exact(i4 b.nd hq).1
  rw[show p=q from OM z this];exact hq
 .have:p.2=q.1:=by rw[<-h1,h,z];exact(i4 b.nd hq).2
  have u:=a.up p hp;have v:=QL (b.up q hq);rw[<-this,<-z] at v;rw[u] at v;cases v
theorem Sj(a:CK P)(b:CK Q)(h:pt P=pt Q):P=Q:=by
 rw[<-a.so,<-b.so];exact Py ((Jh (WL a.nd) (WL b.nd)).mpr λp=>⟨Mr a b h p,Mr b a h.symm p⟩)
theorem Lh [@U] [Enc α] [bq α](xs:@v):F1 (F1 xs)=F1 xs:=Py (nk xs)
theorem Ly(h:zS l f)(iv:Iv f):CK (JF l) :=
 ⟨Lh _,λp hp=>(List.mem_filter.mp (Li.mp hp)).2,(Ef h iv).1⟩
structure Sc(S:Su):Prop where
 xI:CJ S
 ne:∀p∈S,p.2≠[]
 ZC:∀p∈S,∃P,p.1=gv P/\CK P
open Classical in
theorem Pn{S:Su}(s:(S.map @k).Nodup)(c:∀p∈S,∃P,p.1=gv P/\CK P){P:Pr T3}(hP:CK P)(g:Fn):tt (λf j=>if f=pt P then g j else 0) S=L g ((bL S (gv P)).getD []):=by
 have z0:∀l:Po,L (λ_=>0) l=0:=λl=>by
  induction l with
  |nil=>rfl
  |cons p l ih=>show p.2*0+L _ l=0;rw[ih];lia
 induction S with
 |nil=>rfl
 | cons p S ih=>
  rw[aw,aW] at s;obtain⟨Q,e,hQ⟩:=c p @i;have ih:=ih s.2 λq hq=>c q (aI _ hq);rw[tt,ih];have ed:dec p.1=Q:=by rw[e,yp]
  by_cases k:p.1=gv P
  .have eq:Q=P:=by rw[<-ed,k,yp]
   have e3:bL (p::S) (gv P)=some p.2:=by unfold bL;rw[cx (by simpa using k)];rfl
   have e4:bL S (gv P)=none:=by
    unfold bL;have:S.find? (λp=>decide (p.1=gv P))=none:=by
     rw[fC];intro q hq z;exact s.1 (by rw[k,<-(by simpa using z:q.1=gv P)];exact bE hq)
    rw[this];rfl
   rw[e3,e4,ed,eq];simp only[if_true,oo,uR,L,lF]
  .have ne:pt (dec p.1)≠pt P:=λz=>k (by rw[e,Sj hQ hP (by rw[<-ed];exact z)]);have e3:bL (p::S) (gv P)=bL S (gv P):=by unfold bL;rw[cg (by simpa using k)]
   rw[e3];simp only[ne,if_false];rw[z0,xT]
theorem PB(a:Sc S)(b:Sc T)(h:∀H,tt H S=tt H T)(hP:CK P)(g):L g ((bL S (gv P)).getD [])=L g ((bL T (gv P)).getD []):=by
 classical
 rw[<-Pn a.xI.1 a.ZC hP,<-Pn b.xI.1 b.ZC hP];exact h _
def mm(J:T3->T3)(e:T3):T3×T3:=(if bq.lt (J e) e=true then J e else e,if bq.lt e (J e)=true then J e else e)
theorem JW{J:T3->T3}{e:T3}(h:J e≠e):(bq.lt e (J e)=true/\mm J e=(e,J e))\/(bq.lt (J e) e=true/\mm J e=(J e,e)):=by
 unfold mm;cases c:bq.lt e (J e) with
 |true=>
  have:=QL c;left;rw[this];exact⟨rfl,rfl⟩
 |false=>
  right;cases c2:bq.lt (J e) e with
  |true=>exact⟨rfl,rfl⟩
  |false=>exact absurd (bq.IL _ _ c2 c) h
theorem Wo:∀{B:@Z},(∀b∈B,J b≠b)->(es (B.map (mm J))).Perm (B++B.map J)
 |[],_=>.refl _
 |b::B,h=>by
  have ih:=Wo (B:=B) λc hc=>h c (aI _ hc);rw[aw,es,aw,aH];rcases JW (h b @i) with ⟨_,e⟩ |⟨_,e⟩<;>rw[e]
  .exact((ih.cons _).trans List.perm_middle.symm).cons _
  .exact(mf _ _ _).trans (((ih.cons _).trans List.perm_middle.symm).cons _)
theorem N9(o:Ok f S)(tH:∀e,e∈pre↔f e≠e)(p:P1 f S R pre g B):CK (F1 (B.map (mm (jI f S))))/\pt (F1 (B.map (mm (jI f S))))=jI f S:=by
 have jv:=yd o;have Bo:∀b∈B,jI f S b≠b:=λb hb=>kD o ((tH b).mp (p.NT b hb).1) (p.NT b hb).2.1;have pe:=Wo Bo;have nd0:(es (B.map (mm (jI f S)))).Nodup:=by
  refine pe.nodup_iff.mpr ?_;rw[bY];refine⟨p.nd,?_,λa ha b hb z=>?_⟩
  .rw[List.Nodup,iR];exact p.nd.imp λk z=>k (by have:=congrArg (jI f S) z;rwa[jv,jv] at this)
  .obtain⟨v,hv,rfl⟩:=List.mem_map.mp hb;exact p.no a ha v hv z
 have sp:=nk (B.map (mm (jI f S)));have nd:=(uJ sp).nodup_iff.mpr nd0;refine⟨⟨Lh _,λq hq=>?_,nd⟩,PR nd (λq hq=>?_) λe he=>?_⟩
 .obtain⟨b,hb,rfl⟩:=List.mem_map.mp (sp.mem_iff.mp hq);rcases JW (Bo b hb) with ⟨l,e⟩ |⟨l,e⟩<;>rw[e]<;>exact l
 .obtain⟨b,hb,rfl⟩:=List.mem_map.mp (sp.mem_iff.mp hq);rcases JW (Bo b hb) with ⟨l,e⟩ |⟨l,e⟩<;>rw[e]
  .exact⟨rfl,jv b⟩
  .exact⟨jv b,rfl⟩
 .refine fK λz=>he ?_;obtain⟨h1,h2⟩:=yc o z;refine(uJ sp).mem_iff.mpr (pe.mem_iff.mpr ?_);rcases p.Oj e ((tH e).mpr h1) h2 with k |k
  .exact dI _ k
  .exact cK _ (List.mem_map.mpr ⟨_,k,jv e⟩)
end JC
end K2
end
section
namespace K2
open PySem (Str)
open Enc (enc)
namespace JC
open K2.P K2.J
open K2.JB hiding V0
open K2.Y (Po L ND NZ fG qg gE gb cp fF iL gV gW Pl)
def sZ:gj :=
 (bz (aQ (bb lM (ao @n aM)) (aE 2))
 (bz (aQ @L (aE 3))
 (bz (cq (ko @p) (hV (cY (aE 4) (cY (aE 5) hW))) (bz (aQ (oY MT A4 @q (ao @F aM)) (aE 6))
 (bz (aQ (oY MT A4 @q (ao (ak 5) aM)) (aE 7))
 (fT (gy (aN (Cq false) (ak 6) (ak 5))) (aQ (aN fx @z @B) (aE 3)) (bz (aQ (ak 7) (eU @q (ak 6)))
 (aQ (ak 6) (eU @q (ak 7))))))))
 (cb (bZ (eM (ao (bb nq (ao (bZ @q) aM)) (ao @z aM))))))))
def nv:jl:=λds G Q _=>∃(P ps:Pr T3),ds=[lb (gv P),enc ps]/\((es P).Nodup/\P.length<=24/\Ok (pt P) ps)/\∀P':Pr T3,CK P'->pt P'=jI (pt P) ps->Q (.tup [lb (gv P'),.int (cls (pt P) ps)]) G
theorem BX(ds)(G)(Q)(h:nv ds G Q @j):sZ (@j) @N (aY 8 ds) G:=by
 obtain⟨P,ps,rfl,⟨nd,hl,ok⟩,q⟩:=h;unfold sZ;simp only[↓bG,aQ,bb,ao,ak,aY,↓aw,↓JH,↓aR,↓aj,↓ax,aP,↓aH,↓aL,↓aa,aM,aE,dC,ends,↓ai,↓ah];refine⟨.tup (P.map enc),P,rfl,rfl,@f,λp hp=>?_⟩;simp only[↓bZ,↓aY,↓ends,↓cD,↓aN,↓ES,↓ak,↓jJ,↓oY,↓ao,↓aM,↓cb,↓HI,↓iO,↓aQ,↓aE,↓dC,↓dj,↓eM,↓fA,↓hX,↓oZ,↓EU,↓IT,↓nW,↓qv,↓xp,↓qu,↓zK,↓jD,↓fm,↓dW,↓jB,↓bb,↓gO,↓cJ,↓qa,↓lO,↓nI,↓j3,↓jy,↓fL,↓gY,↓lN,↓um,↓wC,↓uq,↓wF,↓iM,↓jz,↓ui,↓uj,↓uk,↓nY,↓tX,↓qw,↓gi,↓kC,↓lP,↓iN,↓kL,↓lG,↓v7,↓v5,↓true_and,↓and_true,↓oV,↓oU,↓gw,↓bJ,↓gX,↓ql,↓w4,↓qk,↓aw,↓aR,↓aH,↓aL,↓aa,↓ae,↓ah,↓ai,↓aj,↓ax,↓aP,↓if_true,↓if_false,↓bg,↓cL,↓au,↓bG,↓ny,↓eU,↓i7,↓gx,↓tf,↓lu,↓rM,↓hV,↓cY,↓hW];refine dB (λτ G'=>∃(l:@aW) (a1 a2 a3 a4:@aD),τ=[some (.tup (P.map enc)),some (enc ps),@am,some (.int (cls (pt P) ps)),a1,a2,a3,a4]/\@H/\G' p=some (.eG (aK l))/\zS l (jI (pt P) ps)) ?_ ?_
 .intro N hN;simp![cq,ak];refine jf ?_;refine cj (xs:=ps) (λpre τ G'=>∃(l:@aW) (a1 a2 a3 a4:@aD),τ=[some (.tup (P.map enc)),some (enc ps),@am,some (.int (cls (pt P) pre)),a1,a2,a3,a4]/\@H/\G' p=some (.eG (aK l))/\zS l (jI (pt P) pre)) ⟨rW P,_,_,_,_,rfl,@ah,av,xl nd⟩ @aj ?_ ?_
  .rintro pre x post τ G' N2 e ⟨l,a1,a2,a3,a4,rfl,le,gp,fa⟩ jk;have ok1:Ok (pt P) (pre++x::post):=by rw[<-e];exact ok
   have ok2:=ok1.left;obtain⟨n1,n2,n3⟩:=ok2.hd;obtain⟨f1,f2,f3,f4⟩:=fa.join ok2.iv n1 n2 n3;have ll:l.length<=(es P).length:=Mf fa λe he=>(i6 nd).mp λz=>he (uD ok1.pre z);rw[yk] at ll;have e0:(enc x:D)=.tup [enc x.1,enc x.2]:=rfl;rw[e0];simp only[hV,cY,hW,aE,ah,ai];simp![aQ,oY,ak,↓gp,ao,aM,aE];refine Lx gp f1 ?_;simp only[↓av,↓true_and];refine Lx av f2 ?_;simp![fT,aN,ak,aQ,dC,aE,eU];refine⟨_,_,Enc.sn _ _ _ (@d),Enc.sn _ _ _ (@d),?_⟩;simp![↓Enc.eqv];by_cases c:jI (pt P) pre x.1=x.2
   .simp only[↓c,↓decide_true,↓if_true];refine jk _ _ ?_;have ec:((cls (pt P) pre+1:Nat):Int)=(cls (pt P) pre:Int)+1:=Int.natCast_add _ _;rw[HR,Ha,cl,if_pos c,ec];exact⟨_,_,_,_,_,rfl,(le.put hp).put hp,av,f3 c⟩
   .simp![↓c,↓decide_false];have d1:=Mk l x.1;have d2:=Mk (EN l x.1) x.2;refine K2.P.cW (k:=jI (pt P) pre x.1) (v:=jI (pt P) pre x.2) av @c ?_;have d3:=og (EN (EN l x.1) x.2) (jI (pt P) pre x.1) (jI (pt P) pre x.2);refine K2.P.cW (k:=jI (pt P) pre x.2) (v:=jI (pt P) pre x.1) av @c ?_;refine jk _ _ ?_;rw[HR,Ha,cl,if_neg c,Tz];exact⟨_,_,_,_,_,rfl,(((le.put hp).put hp).put hp).put hp,av,f4 c⟩
  .rintro τ G' ⟨l,a1,a2,a3,a4,rfl,le,gp,fa⟩;exact hN _ _ ⟨l,_,_,_,_,rfl,le,gp,fa⟩
 .rintro _ G' ⟨l,a1,a2,a3,a4,rfl,le,gp,fa⟩;have iv:Iv (jI (pt P) ps):=yd ok;have ll:l.length<=(es P).length:=Mf fa λe he=>(i6 nd).mp λz=>he (uD ok z);rw[yk] at ll;obtain⟨h1,h2⟩:=Ef fa iv;simp![cb,bZ,eM,ao,bb,ak,aM];refine fH le hp gp ?_;refine⟨l,rfl,⟨fa.nd,@f⟩,@d,cO (q _ (Ly fa iv) h2)⟩
structure SO(S:Su)(ns:@u):Prop where
 xI:CJ S
 pl:∀p∈S,∃P,p.1=gv P/\CK P/\∀e,pt P e≠e↔∃n∈ns,e∈kE n
def V7(n h:Int)(H:Ak)(f:T3->T3)(l:Po)(ws:List Bool):Int:=sm (λw=>L (λj=>Tc n h H w f j) l) ws
structure O4(n h:Int)(ns:@u)(pre:Su)(f:T3->T3)(l:Po)(ws:List Bool)(A:Su):Prop where
 ok:SO A ns
 len:A.length<=2*pre.length+ws.length
 fG:gM A<=8*gM pre+ws.length*(4*fG l)
 val:∀H,tt H A=tt (op n h H) pre+V7 n h H f l ws
theorem O4.step(a:O4 n h ns pre f l ws A)(nd:CK P')(e:pt P'=jI f (js n w))(hp:∀e,jI f (js n w) e≠e↔∃m∈ns,e∈kE m):
  O4 n h ns pre f l (ws++[w]) (u6 A (gv P') l (cls f (js n w)) (pw h w)):=by
 refine⟨⟨Pw a.ok.xI _ _ _ _,λp uF=>?_⟩,?_,?_,λH=>?_⟩
 .unfold u6 du at uF;have here:∃P,gv P'=gv P/\CK P/\∀e,pt P e≠e↔∃n∈ns,e∈kE n:=⟨P',rfl,nd,λe'=>by rw[e];exact hp e'⟩;split at uF
  .obtain⟨q,hq,rfl⟩:=List.mem_map.mp uF;have:=a.ok.pl q hq;split<;>exact this
  .rcases List.mem_append.mp uF with uF |uF
   .exact a.ok.pl p uF
   .rw[bF] at uF;subst uF;exact here
 .have h1:=a.len;have h2:(u6 A (gv P') l (cls f (js n w)) (pw h w)).length<=A.length+1:=by unfold u6 du;split<;>simp
  rw[aB,bU];lia
 .have h1:=a.fG;have h2:=Pu a.ok.xI (gv P') l (Ky f n w) (pw h w);rw[aB,bU,Nat.add_mul,Nat.one_mul];lia
 .rw[TX a.ok.xI,a.val,yp,e];unfold V7;rw[Jx,Int.add_assoc];congr 2;show _=L (λj=>Tc n h H w f j) l+0;rw[lF];rfl
theorem O4.zero:O4 n h ns [] f l [] [] :=
 ⟨⟨⟨bR,λp hp=>by cases hp⟩,λp hp=>by cases hp⟩,aG _,cm _,λg=>rfl⟩
theorem O4.next(a:O4 n h ns pre (pt (dec x.1)) x.2 [false,true] A):O4 n h ns (pre++[x]) f' l' [] A:=by
 refine⟨a.ok,?_,?_,λH=>?_⟩
 .have:=a.len;rw[aB,bU];simp at this ⊢;lia
 .have:=a.fG;rw[AY];simp only[aj,ax,gM] at this ⊢;lia
 .rw[a.val,Pp];have e:L (op n h H (pt (dec x.1))) x.2=L (λj=>Tc n h H false (pt (dec x.1)) j) x.2+L (λj=>Tc n h H true (pt (dec x.1)) j) x.2:=by rw[<-Y.WX];rfl
  show _+(L _ x.2+(L _ x.2+0))=_+(L _ x.2+0)+0;rw[e];lia
def wo:gj :=
 (bz (aQ CC (aE 3))
 (bz (BJ 3 (cq (qV @n) (hV (cY (aE 4) (cY (aE 5) hW))) (cq (ko (eM (ao @L (ao @B aM)))) (aE 6) (bz (aQ (bb nv (ao @F (ao (bb uf (ao @p (ao (ak 6) aM))) aM))) (aE 7))
 (bz (aQ (bb fF (ao (bZ (bb iL (ao (bZ (ak 5)) (ao (bZ (bb gV (ao (bZ (yZ [(2,-1),(-2,-1)])) (ao (bZ (aN gq (ak 7) @B)) aM)))) aM)))) (ao (bZ (bb oJ (ao @q (ao (ak 6) aM)))) (ao (bZ @B) aM)))) (aE 8))
 (aQ (bZ (bb gW (ao (bZ (oY tyP A5 @z (ao (bZ (aN gq (ak 7) @L)) (ao (bZ hX) aM)))) (ao (bZ (ak 8)) aM)))) (tM @z (aN gq (ak 7) @L))))))))
 (bz (aQ CC (aE 9))
 (bz (BJ 3 (cq (qV @z) (hV (cY (aE 4) (cY (aE 5) hW))) (fT (gy (ak 5)) (aQ (bZ (ak 5)) (tM (ak 9) @F)) dj)))
 (cb (bZ (ak 9)))))))
def qM:jl:=λds G Q _=>∃(S:Su) (n h:Int) (ns:@u),ds=[.kF (fW S),.int n,.int h]/\(SO S (n::ns)/\(n::ns).Nodup/\ns.length<=11/\S.length<=1048576/\gM S<=1048576) /\
 ∀S':Su,SO S' ns->(∀p∈S',p.2≠[])->S'.length<=gM S'->gM S'<=8*gM S->(∀H,tt H S'=tt (op n h H) S)->Q (.kF (fW S')) G
theorem Fe(ds)(G)(Q)(h:qM ds G Q @j):wo (@j) @N (aY 10 ds) G:=by
 obtain⟨S,n,h,ns,rfl,⟨so,nn,hr,hSl,hSn⟩,q⟩:=h;unfold wo;simp only[↓bG,aQ,CC,fy,aE,ends,aY,↓aw,↓aR,↓aj,↓ax,aP,↓aH,↓aL,↓ai,↓ah];intro p hp;refine dB (λτ G'=>∃(A:Su) (a1 a2 a3 a4 a5 a6:@aD),G=G'/\τ=[some (.kF (fW S)),some (.int n),some (.int h),some (.kF (fW A)),a1,a2,a3,a4,a5,a6]/\O4 n h ns S (λe=>e) [] [] A) ?_ ?_
 .intro N hN;simp only[BJ];simp![cq,qV,ak];show qt _ _ _ ((fW S).map _) _ _ _ _;have em:((fW S).map λp=>D.tup [lb p.1,p.2])=S.map λp=>D.tup [lb p.1,.fZ (aK p.2)]:=by unfold fW;rw[bw];rfl
  rw[em];refine cj (xs:=S) (f:=λp=>D.tup [lb p.1,.fZ (aK p.2)]) (λpre τ G'=>∃(A:Su) (a1 a2 a3 a4 a5 a6:@aD),@H/\G' p=some (.se (fW A))/\τ=[some (.kF (fW S)),some (.int n),some (.int h),@am,a1,a2,a3,a4,a5,a6]/\O4 n h ns pre (λe=>e) [] [] A)
   ⟨[],_,_,_,_,_,_,@ah,av,rfl,.zero⟩ @aj ?_ ?_
  .rintro pre x post τ G' N2 e ⟨A,a1,a2,a3,a4,a5,a6,le,gp,rfl,af⟩ jk;obtain⟨P,ek,cn,pl⟩:=so.pl x (@aF);have nd:=cn.nd;have dm:=aag nd nn pl;have pll:=XG nd pl;have hx:=so.xI.2 x (@aF);have hnx:=Qx e;have hlx:=x9 hx.2;have qA:pre.length<S.length:=@aF
   have ed:dec x.1=P:=by rw[ek,yp]
   simp only[hV,cY,hW,aE,ah,ai];simp![cq,eM,ao,dC,aM];refine⟨@d,?_⟩;refine cj (xs:=[false,true]) (f:=λw=>D.int (wI w)) (λws τ G'=>∃(A:Su) (a3 a4 a5 a6:@aD),@H/\G' p=some (.se (fW A))/\τ=[some (.kF (fW S)),some (.int n),some (.int h),@am,some (lb x.1),some (.fZ (aK x.2)),a3,a4,a5,a6]/\O4 n h ns pre (pt P) x.2 ws A)
    ⟨A,_,_,_,_,le,gp,rfl,⟨af.ok,af.len,by have:=af.fG;simp only[ax,Nat.zero_mul] at this ⊢;exact this,af.val⟩⟩ @aj ?_ ?_
   .rintro ws w wt τ G2 N3 ew ⟨B,b3,b4,b5,b6,Cs,Fv,rfl,bf⟩ Bk;have ZQ:ws.length<=1:=by
     have:=congrArg cU ew;simp at this;lia
    have hc:=Ky (pt P) n w;have bl:=bf.len;have bn:=bf.fG;have bn2:gM B<=8388608:=by
     have:ws.length*(4*fG x.2)<=1*(4*fG x.2):=iQ _ ZQ;lia
    simp![aE,aQ,bb,ao,ak,ek,aM,bZ,aN,dC,oY,hX];refine⟨n,w,rfl,?_⟩;refine⟨P,js n w,rfl,⟨nd,by simp only[aj] at pll;lia,dm.ok w⟩,λP' nd' ep=>?_⟩;have p0:O4 n h ns pre (pt P) x.2 (ws++[w]) (u6 B (gv P') x.2 (cls (pt P) (js n w)) (pw h w)):=bf.step nd' ep (Uw dm pl w);simp only[↓iM,To,ZF];generalize ec:cls (pt P) (js n w)=c at hc p0;have hx1:=hx.1;have l1:(cp LP c).length<=4:=Uv hc;have l2:x.2.length*(cp LP c).length<=1048576*4:=Nat.mul_le_mul @c l1;have l3:=Y.AO x.2 (cp LP c);have l4:fG x.2*fG (cp LP c)<=1048576*8:=Nat.mul_le_mul @c (JD @c);have l5:=Y.vC x.2 (cp LP c);have l6:(Us x.2 c (pw h w)).length<=(gE x.2 (cp LP c)).length:=bh (Y.qc _) (by rw[ar];exact aG _);have l7:=x9 (bf.ok.xI.get (gv P')).2;have l8:=LH B (gv P');refine cO ?_;unfold yZ;intro p5 f5;refine fH (.new f5) f5 av (cO ?_);refine⟨_,LP,c,rfl,⟨rfl,MF⟩,wz @c,by rw[B0];exact nZ (@d),λp6 f6=>?_⟩;refine fH (.new f6) f6 av ?_;refine⟨_,_,x.2,cp LP c,rfl,⟨rfl,hx1⟩,⟨rfl,Y.mU _ _⟩,bh l2 (@d),⟨nZ @c,nZ (bh (JD @c) (@d))⟩,λp7 f7=>?_⟩;refine fH (.new f7) f7 av ?_;refine⟨h,w,rfl,cO (cO ?_)⟩;refine⟨_,gE x.2 (cp LP c),pw h w,1,rfl,⟨rfl,Y.x8 _ _⟩,bh (bh l3 l2) (@d),⟨nZ (bh (bh l5 l4) (@d)),nZ (@d)⟩,λp8 f8=>?_⟩;have h8:p≠p8:=by rintro rfl;rw[Fv] at f8;cases f8
    refine⟨by unfold tyP;simp only[bO h8,Fv],cO ?_⟩;intro p9 f9;refine fH (.new f9) f9 av ?_;refine GJ (by rw[bO h8];exact Fv) (cO ?_);refine fH (.new f8) f8 av ?_;refine⟨_,_,(bL B (gv P')).getD [],Us x.2 c (pw h w),rfl,⟨rfl,(bf.ok.xI.get _).1⟩,⟨rfl,Y.C0 (Y.x8 _ _) _ _⟩,?_,λp10 f10=>?_⟩
    .show _<=16777216;lia
    refine fH (.new f10) f10 av ?_;unfold tM;simp![ak,aN,dC,ZF];refine ug Fv (show _<16777216 by lia) ?_;rw[<-ek];exact Bk _ _ ⟨_,_,_,_,_,Cs.put hp,av,rfl,p0⟩
   .rintro τ G2 ⟨B,b3,b4,b5,b6,Cs,Fv,rfl,bf⟩;refine jk _ _ ⟨B,_,_,_,_,_,_,Cs,Fv,rfl,?_⟩;rw[<-ed] at bf;exact bf.next
  .rintro τ G' ⟨A,a1,a2,a3,a4,a5,a6,le,gp,rfl,af⟩;simp!;refine Bl le hp gp ?_;exact hN _ _ ⟨A,_,_,_,_,_,_,rfl,rfl,af⟩
 .rintro _ G' ⟨A,a1,a2,a3,a4,a5,a6,rfl,rfl,af⟩;simp only[↓bG,aQ,CC,fy,aE,↓ai,↓ah];intro p2 mK;have al:=af.len;have an:=af.fG;simp only[ax,Nat.zero_mul,Tz] at al an;refine dB (λτ G'=>∃(a1 a2 a3 a4 a5:@aD),τ=[some (.kF (fW S)),some (.int n),some (.int h),some (.kF (fW A)),a1,a2,a3,a4,a5,some (.ref p2)]/\@H/\G' p2=some (.se (fW (iq A)))) ?_ ?_
  .intro N hN;simp only[BJ];simp![cq,qV,ak];show qt _ _ _ ((fW A).map _) _ _ _ _;have em:((fW A).map λp=>D.tup [lb p.1,p.2])=A.map λp=>D.tup [lb p.1,.fZ (aK p.2)]:=by unfold fW;rw[bw];rfl
   rw[em];refine cj (xs:=A) (f:=λp=>D.tup [lb p.1,.fZ (aK p.2)]) (λpre τ G'=>∃(a1 a2 a3 a4 a5:@aD),τ=[some (.kF (fW S)),some (.int n),some (.int h),some (.kF (fW A)),a1,a2,a3,a4,a5,some (.ref p2)]/\@H/\G' p2=some (.se (fW (iq pre))))
    ⟨_,_,_,_,_,rfl,.new mK,av⟩ @aj ?_ ?_
   .rintro pre x post τ G' N2 e ⟨b1,b2,b3,b4,b5,rfl,le,gp⟩ jk;simp only[hV,cY,hW,aE,ah,ai];simp![fT,ak,aQ,bZ,dj];refine MX ?_;have qA:pre.length<A.length:=@aF
    have hkl:(iq pre).length<=pre.length:=fc _ _;by_cases c:x.2.isEmpty=true
    .simp only[c,bg,au,if_false,dj];refine jk _ _ ⟨_,_,_,_,_,rfl,le,?_⟩;rw[uC,if_pos c];exact gp
    .have c':x.2.isEmpty=false:=by simpa using c
     simp only[c',cL,if_true];refine cO ?_;unfold tM;simp only[ak,↓ae,↓aa];refine ug gp (show _<16777216 by lia) ?_;refine jk _ _ ⟨_,_,_,_,_,rfl,le.put mK,?_⟩;rw[av,uC,if_neg c,Y.jF (GX af.ok.xI.1 e)]
   .rintro τ G' ⟨b1,b2,b3,b4,b5,rfl,le,gp⟩;simp!;exact cO (hN _ _ ⟨_,_,_,_,_,rfl,le,gp⟩)
  .rintro _ G' ⟨b1,b2,b3,b4,b5,rfl,le,gp⟩;simp![cb,bZ,ak];refine Bl le mK gp ?_;refine q (iq A) ⟨Be af.ok.xI,λp uF=>af.ok.pl p (List.mem_filter.mp uF).1⟩ (λp uF z=>by have:=(List.mem_filter.mp uF).2;rw[z] at this;cases this) ?_ ?_ λg=>?_
   .have:iq (iq A)=iq A:=by unfold iq;rw[List.filter_filter];simp
    have h2:=Q3 (Be af.ok.xI);rw[this] at h2;exact h2
   .exact bh (Q0 A) an
   .rw[LU,af.val];show _+0=_;lia
end JC
namespace JC
open K2.P K2.J
open K2.JB hiding V0
open K2.Y (Po L ND NZ fG qg gE gb cp fF iL gV gW Pl)
variable {rows:Rows}
def CV:gj :=
 (bz (aQ (gO 1 [0] (ko @p) (aE 0) none (bb kl (ao @p (ao @n aM)))) (aE 2))
 (bz (aQ (jJ pR (ao (gO 1 [] (ko @n) (aE 0) (some (nW (gy @n))) @n) aM)) (aE 3))
 (bz (aQ (bZ (Mn (bb lH (ao @n aM)) (bZ (bb gV (ao (bZ (yZ [(2,-1),(-2,-1)])) (ao (bZ @z) aM)))))) (aE 4))
 (bz (cq (Ka @p @q) (hV (cY (aE 5) (cY (aE 6) hW))) (aQ (bZ (bb qM (ao @F (ao (ak 5) (ao (ak 6) aM))))) (aE 4)))
 (cb (bZ @F))))))
def xX:jl:=λds G Q _=>∃(rows:Rows) (ns:@u),ds=[enc rows,enc ns]/\(Dr rows/\ns.Nodup/\(∀n∈ns,n∈@aB)/\(@aB).length<=6) /\
 ∀S':Su,Sc S'->gM S'<=2097152->(∀H,tt H S'=nO (@aq) (ops (Cr rows ns) H @ab) 0)->Q (.kF (fW S')) G
theorem OA(ds)(G)(Q)(h:xX ds G Q @j):CV (@j) @N (aY 7 ds) G:=by
 obtain⟨rows,ns,rfl,⟨d,nn,hp,hl⟩,q⟩:=h;have hl0:=hl;have hl:ns.length<=6:=bh (sub_len' ns _ nn hp) hl;have EF:=d.EF;have str:=d.str;obtain⟨lf,Hl,hnd⟩:∃lf,(∀n,n∈@aB↔n∈ns++lf)/\(ns++lf).Nodup:=by
  refine⟨(@aB).filter λn=>decide (n∉ns),λn=>?_,?_⟩
  .rw[qx,List.mem_filter];by_cases c:n∈ns
   .simp[c,hp n c]
   .simp[c]
  .rw[bY];refine⟨nn,(wM d).filter _,λa ha b hb z=>?_⟩;have:=(List.mem_filter.mp hb).2;rw[<-z] at this;simp[ha] at this
 have hlen:(ns++lf).length<=6:=bh (sub_len' _ (@aB) hnd λn hn=>(Hl n).mpr hn) hl0;have lol:@aq<=3:=bh (fc _ _) str;unfold CV;simp only[↓bG,aQ,gO,↓dW,ak,aY,↓aw,↓aR,↓aj,↓ax,aP,↓aH,↓aL,↓ae,↓aa,aE,jJ,ao,↓ai,↓ah,aM,bZ,ends];refine jf ⟨Lf (by rw[ar];lia),?_⟩;refine nX (xs:=ns) (λpre acc τ G'=>G=G'/\(∃a,τ=[a,@al])/\acc=(pre.map @ai).map D.int) ⟨rfl,@I,rfl⟩ (λ_ _ _ _ _=>trivial) ?_ ?_
 .rintro pre n post acc τ G' N e ⟨rfl,⟨a,rfl⟩,rfl⟩ hN;have hn:n∈@aB:=hp n (@aF);simp![aE,bb,ao,ak,EM,aM];refine⟨rows,n,rfl,⟨@f,aba d hn⟩,?_⟩;refine hN _ _ _ ⟨rfl,@I,?_⟩;rw[aU,aU];rfl
 rintro acc τ G' ⟨rfl,⟨a,rfl⟩,rfl⟩ p1 f1;refine jf ⟨Lf (by rw[ar];lia),?_⟩;refine nX (xs:=rows) (λpre acc τ G'=>di G p1 (.lst ((ns.map @ai).map D.int))=G'/\(∃a,τ=[a])/\acc=(pre.filter λr=>r.isEmpty).map enc) ⟨rfl,@I,rfl⟩ (λ_ _ _ _ _=>trivial) ?_ ?_
 .rintro pre r post acc τ G' N e ⟨rfl,⟨a,rfl⟩,rfl⟩ hN;simp![aE,nW,ak];show sJ (.dF (r.map enc)) _ _;unfold sJ IK;simp only[];by_cases c:r.isEmpty=true
  .have c2:(r.map (enc:T3->D)).isEmpty=true:=by cases r with
    |nil=>rfl
    |cons _ _=>cases c
   simp only[c2,bg,cL,if_true];refine hN _ _ _ ⟨rfl,@I,?_⟩;simp only[hZ,cR,c,if_true,xG,aU,aw,aR]
  .have c2:(r.map (enc:T3->D)).isEmpty=false:=by cases r with
    |nil=>exact absurd rfl c
    |cons _ _=>rfl
   simp only[c2,bg,cL,if_false,au];refine hN _ _ _ ⟨rfl,@I,?_⟩;have c':r.isEmpty=false:=by simpa using c
   simp only[hZ,cR,c',if_false,au,xG,cI]
 rintro acc τ G' ⟨rfl,⟨a,rfl⟩,rfl⟩ p2 f2;have p12:p1≠p2:=by rintro rfl;rw[av] at f2;cases f2
 simp only[Ie av,ar];simp only[Mn,bb,ao,ak,↓aa,aM,bZ,↓ae];have elo:(rows.filter λr=>r.isEmpty).length=@aq:=rfl;rw[elo];refine⟨rows,rfl,@f,?_⟩;rw[Xd d];have nd:=xV d;obtain⟨n0,e0⟩:=Ef (xl nd) (wG nd);generalize hP0:JF (rW (CP rows))=P0 at n0 e0;unfold yZ;intro p5 f5;refine fH (.new f5) f5 av (cO ?_);refine⟨_,LP,@aq,rfl,⟨rfl,MF⟩,wz lol,by rw[B0];exact nZ (@d),λp6 f6=>?_⟩;refine fH (.new f6) f6 av ?_;refine⟨gv P0,rfl,λp7 f7=>?_⟩;have g1:dH G (di (di G p1 (.lst ((ns.map @ai).map D.int))) p2 (.lst (((rows.filter λr=>r.isEmpty)).map enc))):=(dH.new f1).trans (.new f2);refine Bl (A:=[(gv P0,cp LP (@aq))]) (.new f7) f7 av ?_;generalize hG2:di (di G p1 (.lst ((ns.map @ai).map D.int))) p2 (.lst (((rows.filter λr=>r.isEmpty)).map enc))=G2 at g1;have gh:G2 p1=some (.lst ((ns.map @ai).map D.int)):=by rw[<-hG2,bO p12,av]
 refine dB (λτ G'=>∃(S:Su) (a b:@aD),G'=G2/\τ=[@al,some (enc ns),some (.ref p1),some (.int (@aq)),some (.kF (fW S)),a,b]/\SO S lf/\(∀p∈S,p.2≠[])/\gM S<=2097152/\∀H,tt H S=nO (@aq) (ops (Cr rows ns) H @ab) 0) ?_ ?_
 .intro N hN;simp![cq,Ka,ak];have hz:qI (ns.map enc) ((ns.map @ai).map D.int)=(Cr rows ns).map enc:=by
   have:qI (ns.map enc) ((ns.map @ai).map enc)=(ns.zip (ns.map @ai)).map enc:=Ag _ _;refine this.trans ?_;rw[zip_map];rfl
  refine NU (IsL.enc ns) (IsL.ref gh) λok bP=>?_;rw[hz];have hnl:(Cr rows ns).length=ns.length:=by unfold Cr;rw[ar]
  have start:∀H,tt (ops (Cr rows ns) H) [(gv P0,cp LP (@aq))]=nO (@aq) (ops (Cr rows ns) H @ab) 0:=λH=>by
   show L _ _+0=_;rw[rF,lF,yp,e0];rfl
  have ne0:cp LP (@aq)≠[]:=by
   have:@aq=0\/@aq=1\/@aq=2\/@aq=3:=@f
   rcases this with h |h |h |h<;>rw[h]<;>decide
  have so0:SO [(gv P0,cp LP (@aq))] ((Cr rows ns).map @k++lf):=by
   refine⟨⟨@G,λp uF=>?_⟩,λp uF=>?_⟩
   .rw[bF] at uF;subst uF;exact⟨Y.mU _ _,Y.C1 _ _⟩
   .rw[bF] at uF;subst uF;refine⟨P0,rfl,by rw[<-hP0];exact Ly (xl nd) (wG nd),λe=>?_⟩;rw[e0,i6 nd,Le d,LJ];exact⟨λ⟨n,h1,h2⟩=>⟨n,(Hl n).mp h1,h2⟩,λ⟨n,h1,h2⟩=>⟨n,(Hl n).mpr h1,h2⟩⟩
  refine cj (xs:=Cr rows ns) (λpre τ G'=>∃(S:Su) (a b:@aD),G'=G2/\τ=[@al,some (enc ns),some (.ref p1),some (.int (@aq)),some (.kF (fW S)),a,b]/\SO S (((Cr rows ns).drop pre.length).map @k++lf)/\(∀p∈S,p.2≠[])/\(S.length<=8*8 ^ pre.length/\gM S<=8*8 ^ pre.length)/\∀H,tt (ops ((Cr rows ns).drop pre.length) H) S=nO (@aq) (ops (Cr rows ns) H @ab) 0)
   ⟨_,_,_,rfl,rfl,so0,λp uF=>by rw[bF] at uF;subst uF;exact ne0,⟨(@d:1<=8*8 ^ 0),bh (Nat.le_of_eq (Tz _)) (JD lol)⟩,start⟩ (λpre τ G' h=>bP G' (by obtain⟨_,_,_,rfl,_⟩:=h;exact .refl _)) ?_ ?_
  .rintro pre x post τ G' N2 e ⟨S,a,b,rfl,rfl,so,sne,⟨sl,sn⟩,sv⟩ jk;have dr:(Cr rows ns).drop pre.length=x::post:=by rw[e,List.drop_left]
   have dr2:(Cr rows ns).drop (pre++[x]).length=post:=by
    rw[e,show pre++x::post=(pre++[x])++post by simp,List.drop_left]
   have qA:pre.length+1+post.length<=6:=by
    have:=congrArg cU e;rw[aB,aj,hnl] at this;lia
   have Vr:(x.1::(post.map @k++lf)).Nodup/\(post.map @k++lf).length<=6:=by
    have h1:=LJ rows ns;rw[e,aU,aw] at h1;have h2:=hnd;have h3:=hlen;rw[<-h1,c9] at h2 h3;rw[aB] at h3;have h4:=(List.nodup_append.mp h2).2.1;rw[aH] at h4 h3;rw[aj] at h3;exact⟨h4,@f⟩
   rw[dr] at so sv;have p8:=adk (k:=pre.length) @c;have e3:(enc x:D)=.tup [.int x.1,.int x.2]:=rfl;rw[e3];simp only[hV,cY,hW,aE,ah,ai];simp![aQ,bZ,bb,ao,ak,aM,aE];refine⟨S,x.1,x.2,post.map @k++lf,rfl,⟨so,Vr.1,by have:=Vr.2;lia,@f,@f⟩,λS' so' ne' l1 l2 v=>?_⟩;refine cO (jk _ _ ?_);rw[dr2];have e8:8*8 ^ (pre++[x]).length=8*(8*8 ^ pre.length):=by
    rw[aB,bU,xQ];lia
   rw[e8];exact⟨S',_,_,rfl,rfl,so',ne',⟨@f,@f⟩,λH=>by rw[v];exact sv H⟩
  .rintro τ G' ⟨S,a,b,rfl,rfl,so,sne,⟨sl,sn⟩,sv⟩;have dr:(Cr rows ns).drop (Cr rows ns).length=[]:=List.drop_length;rw[dr] at so sv;have:8 ^ (Cr rows ns).length<=8 ^ 6:=dM (@d) @c;exact hN _ _ ⟨S,_,_,rfl,rfl,so,sne,@f,sv⟩
 .rintro _ G' ⟨S,a,b,rfl,rfl,so,sne,hn,hv⟩;simp![cb,bZ,ak];exact qX g1 (q S ⟨so.xI,sne,λp hp=>by obtain⟨P,h1,h2,_⟩:=so.pl p hp;exact⟨P,h1,h2⟩⟩ hn hv)
end JC
namespace JC
open K2.P K2.J K2.JB
open K2.K12 (zB B9 Ls wJ Lu Gr Lv E5 E6 z3 oP)
variable {rows:Rows}
theorem TQ(a b):xH (a++b)=xH a++xH b:=by unfold xH;rw[aU]
theorem WU(d:Dr rows):(es (xH (zB rows))).Nodup:=(uJ ((wJ rows).map _)).nodup_iff.mpr (xV d)
theorem Zd(d:Dr rows):zS (rW (xH (zB rows))) @ab:=by
 have h:=xl (WU d);have e:pt (xH (zB rows))=fr rows:=Uh ((wJ rows).map _) (WU d)
 rwa[e] at h
theorem Ua(t:T3){G:Gp}{Q:DK}:(Q (.int t.a) G->gq (enc t) (.int 0) G Q)/\(Q (.int t.b) G->gq (enc t) (.int 1) G Q):=⟨λh=>h,λh=>h⟩
def vc:gj :=
 (bz (aQ hX (aE 1))
 (bz (cq (ko @n) (aE 2) (cq (qm (jJ pR (ao @q aM))) (aE 3) (bz (aQ (eM (ao (aN gq (aN gq @q (aN D8 @z @B)) @L) (ao (aN gq (aN gq @q (aN D8 @z @B)) @B) (ao @B aM)))) (aE 4))
 (bz (aQ (eM (ao (aN gq (aN gq @q @z) @L) (ao (aN gq (aN gq @q @z) @B) (ao @L aM)))) (aE 5))
 (bz (aQ (ak 5) (eU @p @F))
 (aQ @F (eU @p (ak 5))))))))
 (cb (bZ @p))))
def pK:jl:=λds G Q _=>∃rows:Rows,ds=[enc rows]/\Dr rows/\∀l,zS l @ab->l.length<=100->Q (.fZ (aK l)) G
theorem CI(ds)(G)(Q)(h:pK ds G Q @j):vc (@j) @N (aY 6 ds) G:=by
 obtain⟨rows,rfl,dr,q⟩:=h;have EF:=dr.EF;unfold vc;simp only[ends,aY,aw,aR,aj,ax,aP,aH,aL,bG,aQ,hX,fy,aE,ai,ah];intro d hd;refine dB (λτ G'=>(∃a b a3 a4,τ=[@al,some (.ref d),a,b,a3,a4])/\@H/\G' d=some (.eG (aK (rW (xH (zB rows)))))) ?_ ?_
 .intro N hN;simp only[cq,dW,ak,aa];refine jf ?_;refine cj (xs:=rows) (λpre τ G'=>(∃a b a3 a4,τ=[@al,some (.ref d),a,b,a3,a4])/\@H/\G' d=some (.eG (aK (rW (xH (zB pre)))))) ⟨⟨_,_,_,_,rfl⟩,.new hd,av⟩ @aj ?_ ?_
  .rintro pre r post τ G1 N2 e ⟨⟨a1,a2,a3,a4,rfl⟩,l1,gd1⟩ jk;have hz:=Lu e;simp only[aE,cq,ai,ah,jB,jJ,ao,ak,ae,aa,aM];refine rB (IsL.enc r) ?_;simp only[gX];rw[ar];refine⟨@f,@f,?_⟩;unfold gC;refine cj (xs:=eV (r.length:Int).toNat) (λks τ G'=>(∃b a3 a4,τ=[@al,some (.ref d),some (enc r),b,a3,a4])/\@H/\G' d=some (.eG (aK (rW (xH (zB pre++B9 r ks)))))) ⟨⟨_,_,_,rfl⟩,l1,by rw[gd1];simp[B9]⟩ @aj ?_ ?_
   .rintro ks k PZ τ G2 N3 e3 ⟨⟨b,b3,b4,rfl⟩,l2,Fw⟩ Bk;have hk:k<r.length:=by
     have:k∈eV (r.length:Int).toNat:=by rw[e3];simp
     have:=List.mem_range.mp this;lia
    have hks:ks.length<=r.length:=by
     have:=congrArg cU e3;rw[ua,aB,aj] at this;lia
    have hl:=xk (xH (zB pre++B9 r ks));have yU:(xH (zB pre++B9 r ks)).length<=rows.flatten.length:=by unfold xH;rw[ar,aB,Lv];lia
    have hl3:=og (rW (xH (zB pre++B9 r ks))) (eO (Ls r k).s) (eI (r.getD k z3).s);simp![aE,aQ,eM,ao,aN,ak,dC,aM,eU];refine nH (IsL.enc r) (E5 hk) ?_;refine(Ua _).1 ?_;refine nH (IsL.enc r) (E5 hk) ?_;refine(Ua _).2 ?_;refine⟨@d,?_⟩;refine nH (IsL.enc r) (E6 hk) ?_;refine(Ua _).1 ?_;refine nH (IsL.enc r) (E6 hk) ?_;refine(Ua _).2 ?_;refine⟨@d,?_⟩;refine K2.P.cW (k:=eO (Ls r k).s) (v:=eI (r.getD k z3).s) Fw @c ?_;refine K2.P.cW (k:=eI (r.getD k z3).s) (v:=eO (Ls r k).s) av @c ?_;refine Bk _ _ ⟨⟨_,_,_,rfl⟩,(l2.put hd).put hd,?_⟩;rw[av];have:zB pre++B9 r (ks++[k])=(zB pre++B9 r ks)++[(Ls r k,r.getD k z3)]:=by unfold B9;simp
    have e5:xH ((zB pre++B9 r ks)++[(Ls r k,r.getD k z3)])=xH (zB pre++B9 r ks)++[(eO (Ls r k).s,eI (r.getD k z3).s)]:=TQ _ _;rw[this,e5,By]
   .rintro τ G2 ⟨⟨b,b3,b4,rfl⟩,l2,Fw⟩;refine jk _ _ ⟨⟨_,_,_,_,rfl⟩,l2,?_⟩;rw[Gr];exact Fw
  .rintro τ G2 ⟨⟨b,c,b3,b4,rfl⟩,l2,Fw⟩;exact hN _ _ ⟨⟨_,_,_,_,rfl⟩,l2,Fw⟩
 .rintro _ G2 ⟨⟨b,c,b3,b4,rfl⟩,l2,Fw⟩;simp only[cb,bZ,ak,ae,aa];have h1:=xk (xH (zB rows));have h2:=K12.oP rows;have h3:(xH (zB rows)).length=(zB rows).length:=by unfold xH;rw[ar]
  exact fH l2 hd Fw (q _ (Zd dr) @c)
abbrev Cz:=@aC
def cz(c:B3):Cz:=c.map λp=>(p.1,wI p.2)
def yH:gj :=
 (bz (aQ hX (aE 1))
 (bz (cq (gx @n) (aE 2) (bz (aQ (bZ (fA (ao (eM (ao (eM (ao @q (ao @L (ao @L aM)))) (ao (eM (ao @q (ao @B (ao @B aM)))) aM))) (ao (eM (ao (eM (ao @q (ao @B (ao @L aM)))) (ao (eM (ao @q (ao @L (ao @B aM)))) aM))) aM)))) (aE 3))
 (bz (fT (gy (aN (Cq false) (aN gq @n @q) @B)) (aQ (bZ (fA (ao (eM (ao (eM (ao @q (ao @L (ao @L aM)))) (ao (eM (ao @q (ao @B (ao @L aM)))) aM))) (ao (eM (ao (eM (ao @q (ao @L (ao @B aM)))) (ao (eM (ao @q (ao @B (ao @B aM)))) aM))) aM)))) (aE 3)) dj)
 (cq (ko @z) (aE 4) (bz (aQ (aN gq @F @B) (eU @p (aN gq @F @L)))
 (aQ (aN gq @F @L) (eU @p (aN gq @F @B))))))))
 (cb (bZ @p))))
def sO:jl:=λds G Q _=>∃c:B3,ds=[.fZ (aK (cz c))]/\(c.length<=12/\(c.map @k).Nodup)/\Q (.fZ (aK (rW @M))) G
theorem Vn(c)(p):jc (c++[p])=jc c++js p.1 p.2:=by unfold jc;simp
theorem Q6(n)(w):(js n w).length=2:=by cases w<;>rfl
theorem Yn(c):(jc c).length=2*c.length:=by
 induction c with
 |nil=>rfl
 |cons p c ih=>
  have e:jc (p::c)=js p.1 p.2++jc c:=rfl;rw[e,aB,Q6,ih,aj];lia
theorem Io(ds)(G)(Q)(h:sO ds G Q @j):yH (@j) @N (aY 5 ds) G:=by
 obtain⟨c,rfl,⟨hl,nd⟩,q⟩:=h;have ndz:((cz c).map @k).Nodup:=by unfold cz;rw[bw];exact nd
 unfold yH;simp only[ends,aY,aw,aR,aj,ax,aP,aH,aL,bG,aQ,hX,fy,aE,ai,ah];intro d hd;refine dB (λτ G'=>(∃a b a3,τ=[some (.fZ (aK (cz c))),some (.ref d),a,b,a3])/\@H/\G' d=some (.eG (aK (rW @M)))) ?_ ?_
 .intro N hN;simp only[cq,gx,ak,aa,uE];have ek:(aK (cz c)).map @k=c.map λp=>D.int p.1:=by unfold aK cz;rw[bw,bw];rfl
  rw[ek];refine cj (xs:=c) (f:=λp=>D.int p.1) (λpre τ G'=>(∃a b a3,τ=[some (.fZ (aK (cz c))),some (.ref d),a,b,a3])/\@H/\G' d=some (.eG (aK (rW (jc pre))))) ⟨⟨_,_,_,rfl⟩,.new hd,av⟩ @aj ?_ ?_
  .rintro pre x post τ G1 N2 e ⟨⟨a1,a2,a3,rfl⟩,l1,gd1⟩ jk;have hx:bL (cz c) x.1=some (wI x.2):=nM ndz (List.mem_map.mpr ⟨x,@aF,rfl⟩);have qA:pre.length<c.length:=@aF
   simp![aE,aQ,bZ,fA,ao,eM,ak,dC,aM,kN];refine⟨@d,@d,@d,@d,@d,@d,@d,λp hp=>?_⟩;refine kU (xs:=js x.1 false) (@ah) hp av ?_;simp![fT,aN,ak,dC,aQ,bZ,fA,ao,eM,aM,aE,dj,uo];rw[show(D.int x.1:D)=enc x.1 from rfl,kS,hx];simp only[pU];refine⟨gN _ _,?_⟩;refine⟨_,_,@P,@P,?_⟩;simp![kr];have tail:∀w:Bool,x.2=w->cq (ko @z) (aE 4) (bz (aQ (aN gq @F @B) (eU @p (aN gq @F @L))) (aQ (aN gq @F @L) (eU @p (aN gq @F @B)))) (@j) {nx:=N2,rt:=Q,bk:=N,ct:=N2} [some (.fZ (aK (cz c))),some (.ref d),some (.int x.1),some (enc (js x.1 w)),a3] G1:=λw hw=>by
    simp only[cq,dW,ak,ae,aa];refine jf ?_;refine cj (xs:=js x.1 w) (λps τ G'=>(∃a3,τ=[some (.fZ (aK (cz c))),some (.ref d),some (.int x.1),some (enc (js x.1 w)),a3])/\@H/\G' d=some (.eG (aK (rW (jc pre++ps))))) ⟨@I,l1,by rw[cI];exact gd1⟩ @aj ?_ ?_
    .rintro ps y PZ τ G2 N3 e3 ⟨⟨b3,rfl⟩,l2,Fw⟩ Bk;have h1:=Yn pre;have h2:=Q6 x.1 w;have h3:ps.length<(js x.1 w).length:=by rw[e3];simp
     have h4:=xk (jc pre++ps);rw[aB] at h4;have h5:=og (rW (jc pre++ps)) y.1 y.2;have e0:(enc y:D)=.tup [enc y.1,enc y.2]:=rfl;simp only[aE,e0,ai,ah,bG,aQ,aN,ak,ae,aa,dC,eU,iM,To,ZF];refine K2.P.cW (k:=y.1) (v:=y.2) Fw @c ?_;refine K2.P.cW (k:=y.2) (v:=y.1) av @c ?_;refine Bk _ _ ⟨@I,(l2.put hd).put hd,?_⟩;rw[av,<-c9,By]
    .rintro τ G2 ⟨⟨b3,rfl⟩,l2,Fw⟩;refine jk _ _ ⟨⟨_,_,_,rfl⟩,l2,?_⟩;rw[Vn,hw];exact Fw
   cases hw:x.2 with
   |false=>exact tail false hw
   |true=>
    rw[if_pos (show(wI true == 1)=true from rfl)];refine⟨@d,@d,@d,@d,@d,@d,@d,λp2 mK=>?_⟩;exact kU (xs:=js x.1 true) (.new mK) mK av (tail true hw)
  .rintro τ G2 ⟨⟨b,c,b3,rfl⟩,l2,Fw⟩;exact hN _ _ ⟨⟨_,_,_,rfl⟩,l2,Fw⟩
 .rintro _ G2 ⟨⟨b,b2,b3,rfl⟩,l2,Fw⟩;simp only[cb,bZ,ak,ae,aa];exact fH l2 hd Fw q
end JC
namespace JC
open K2.P K2.J K2.JB
variable {rows:Rows}
abbrev Gn:=List (T3×Bool)
def gk(l:Gn)(e:T3):Prop:=(bL l e).isSome=true
theorem nQ(l)(k e):gk (du l k true) e↔gk l e\/e=k:=by
 unfold gk;rw[mW];by_cases c:e=k
 .simp[c]
 .rw[if_neg (by first |exact c |exact λz=>c z.symm)];simp[c]
theorem Bz(h:zS l f)(e):(bL l e).isSome=decide (f e≠e):=by
 rw[h.at'];by_cases c:f e=e
 .simp[c]
 .simp[c]
theorem aaG{κ α:Type} [@a0] [Enc κ] [t9 κ] [@U] [Enc α]{l:List (κ×α)}{k:κ}{v:α}{G:Gp}{Q:DK}(hv:bL l k=@Y)(q:Q (enc v) G):gq (.fZ (aK l)) (enc k) G Q:=by
 rw[uo,kS,hv];exact⟨gN l k,q⟩
theorem vI{l:@aW}{f:T3->T3}(h:zS l f){e:T3}(c:f e≠e){G:Gp}{Q:DK}(q:Q (enc (f e)) G):gq (.fZ (aK l)) (enc e) G Q :=
 aaG (k:=e) (v:=f e) (by rw[h.at',if_neg c]) q
theorem YO:gk l e↔e∈@ar:=by
 unfold gk bL;rw[eY,ub,xF];constructor
 .rintro⟨p,hp,z⟩;exact⟨p,hp,by simpa using z⟩
 .rintro⟨p,hp,z⟩;exact⟨p,hp,by simpa using z⟩
structure Gd(E:@Z)(l:Gn):Prop where
 nd:(@ar).Nodup
 sub:∀z,gk l z->z∈E
theorem Gd.len(g:Gd E l)(h:E.length<=1000):l.length<=1000:=by
 have:=sub_len' (@ar) E g.nd λz hz=>g.sub z (YO.mpr hz);rw[ar] at this;lia
theorem Gd.put(g:Gd E l)(h:k∈E):Gd E (du l k true) :=
 ⟨pz g.nd,λz hz=>by
  rcases(nQ _ _ _).mp hz with w |w
  .exact g.sub z w
  .rw[w];exact h⟩
theorem w1(hE:E.length<=1000)(ha:zS ac f)(hs:zS sw (pt S))(o:Ok f S)(w:Wm f S x y ms):(∀z∈ms,z∈E)->∃n,∀(a0 a1 a6 a8 a9:@aD) (pg pp:Nat) (N:iE->@l) (Q:DK) (B C:iE->@l) (G1:Gp) (l:Gn),G1 pg=some (.eG (aK l))->Gd E l ->
  (∀(G2:Gp) (l2:Gn),G2 pg=some (.eG (aK l2))->(∀a,a≠pg->G2 a=G1 a)->Gd E l2->(∀z,gk l2 z->gk l z\/z∈ms)->(∀z,gk l z->gk l2 z)->(∀z∈ms,gk l2 z\/z=y)->N [a0,a1,some (.fZ (aK ac)),some (.fZ (aK sw)),some (.ref pg),some (.ref pp),a6,some (enc y),a8,a9] G2) ->
  vZ (gy (aN (AJ false) (ak 7) @z)) (bz (aQ (dC (.bl true)) (eU @F (ak 7))) (bz (aQ (dC (.bl true)) (eU @F (aN gq @z (ak 7)))) (aQ (aN gq @q (aN gq @z (ak 7))) (aE 7)))) n (@j) {nx:=N,rt:=Q,bk:=B,ct:=C} [a0,a1,some (.fZ (aK ac)),some (.fZ (aK sw)),some (.ref pg),some (.ref pp),a6,some (enc x),a8,a9] G1:=by
 induction w with
 |@stop x h=>
  intro Yx;refine⟨1,λa0 a1 a6 a8 a9 pg pp N Q B C G1 l hg hl k=>?_⟩;have c:(bL sw x).isSome=false:=by rw[Bz hs,mH h];simp
  unfold vZ;simp only[bG,aQ,dC,cD,aN,ak,ae,aa];refine Eb ?_;simp only[au,c,cL,if_false,bJ];exact k G1 l hg (λ_ _=>rfl) hl (λz hz=>.inl hz) (λz hz=>hz) λz hz=>.inr (List.mem_singleton.mp hz)
 | @go x y ms h w ih=>
  intro Yx;obtain⟨n,ih⟩:=ih λz hz=>Yx z (by simp[hz]);refine⟨n+1,λa0 a1 a6 a8 a9 pg pp N Q B C G1 l hg hl k=>?_⟩;have hx:pt S x≠x:=(i6 o.nd).mpr h;have c:(bL sw x).isSome=true:=by rw[Bz hs];simp[hx]
  have hf:f (pt S x)≠pt S x:=o.dm _ (CZ o.nd h);have g1:=hl.put (Yx x @i);have g2:=g1.put (Yx (pt S x) @i);unfold vZ;simp only[bG,aQ,dC,cD,aN,ak,ae,aa];refine Eb ?_;simp only[au,c,bg,if_false,eU,ak,ae,aa,bG,aQ,dC,aN,aE,ai,ah,bJ,if_true];refine K2.P.cW (k:=x) (v:=true) hg (hl.len hE) ?_;refine vI hs hx ?_;refine K2.P.cW (k:=pt S x) (v:=true) av (g1.len hE) ?_;refine vI hs hx ?_;refine vI ha hf ?_;refine ih _ _ _ _ _ _ _ _ _ _ _ _ (du (du l x true) (pt S x) true) av g2 λG2 l3 hg3 hr3 hl3 k1 k2 k3=>?_;refine k G2 l3 hg3 (λa ha=>by rw[hr3 a ha,bO ha,bO ha]) hl3 (λz hz=>?_) (λz hz=>k2 z ((nQ _ _ _).mpr (.inl ((nQ _ _ _).mpr (.inl hz))))) λz hz=>?_
  .rcases k1 z hz with w |w
   .rcases(nQ _ _ _).mp w with w |w
    .rcases(nQ _ _ _).mp w with w |w
     .exact .inl w
     .exact .inr (by simp[w])
    .exact .inr (by simp[w])
   .exact .inr (by simp[w])
  .rcases List.mem_cons.mp hz with w |w
   .exact .inl (k2 z ((nQ _ _ _).mpr (.inl ((nQ _ _ _).mpr (.inr w)))))
   .rcases List.mem_cons.mp w with w |w
    .exact .inl (k2 z ((nQ _ _ _).mpr (.inr w)))
    .exact k3 z w
theorem Ub{neg:Bool}{x:T3}{l:Gn}{a:Nat}{G:Gp}{Q:DK}(h:G a=some (.eG (aK l)))(q:Q (.bl (if neg then !(bL l x).isSome else(bL l x).isSome)) G):Cp neg (enc x) @r G Q:=by
 unfold Cp;simp only[h];refine⟨gN l x,?_⟩;have e:(look (aK l) (enc x)).isSome=(bL l x).isSome:=by rw[kS,eY]
 rw[e];exact q
theorem w2{E:@Z}(hE:E.length<=1000){f:T3->T3}{S:Pr T3}{ac sw:@aW}(ha:zS ac f)(hs:zS sw (pt S))(o:Ok f S)(hS:∀z∈es S,z∈E){g0:T3->Prop}(b:Bnd f S g0){e:T3}{a0 a1 a5 a6 a7 a8:@aD}{pg:Nat}{N:iE->@l}{Q:DK}{B C:iE->@l}{G0:Gp}
  (fin:∀(G2:Gp) (l2:Gn) (k:Nat) (here:T3),G2 pg=some (.eG (aK l2))->(∀a,a≠pg->G2 a=G0 a)->Gd E l2->In f S g0 e k (gk l2) here->gk l2 here->N [a0,a1,some (.fZ (aK ac)),some (.fZ (aK sw)),some (.ref pg),a5,a6,a7,a8,some (enc here)] G2):
  ∀(n k:Nat) (here:T3) (G1:Gp) (l:Gn),n+k=(es S).length+1->G1 pg=some (.eG (aK l))->(∀a,a≠pg->G1 a=G0 a)->Gd E l->In f S g0 e k (gk l) here ->
  vZ (gy (aN (Cp true) (ak 9) @F)) (bz (aQ (dC (.bl true)) (eU @F (ak 9))) (bz (aQ (dC (.bl true)) (eU @F (aN gq @q (ak 9)))) (aQ (aN gq @z (aN gq @q (ak 9))) (aE 9)))) n (@j) {nx:=N,rt:=Q,bk:=B,ct:=C} [a0,a1,some (.fZ (aK ac)),some (.fZ (aK sw)),some (.ref pg),a5,a6,a7,a8,some (enc here)] G1:=by
 intro n;induction n with
 |zero=>
  intro k here G1 l hn _ _ _ i;have:=i.len;lia
 | succ n ih=>
  intro k here G1 l hn hg hr hl i;unfold vZ;simp only[bG,aQ,dC,cD,aN,ak,ae,aa];refine Ub hg ?_;by_cases c:gk l here
  .have c':(bL l here).isSome=true:=c;simp only[c',bg,if_true,bJ,au,if_false];exact fin G1 l k here hg hr hl i c
  .have c':(bL l here).isSome=false:=by simpa[gk] using c
   simp only[c',cL,if_true,eU,ak,ae,aa,bG,aQ,dC,aN,aE,ai,ah,bJ];have i2:=i.step (g':=gk (du (du l here true) (f here) true)) o b c λx=>by rw[nQ,nQ,or_assoc]
   have hh:here∈es S:=by rw[i.here];exact i.mem k @D
   have hf:f here∈es S:=by have:=i2.Yd k @c;rwa[<-i.here] at this
   have g1:=hl.put (hS _ hh);have g2:=g1.put (hS _ hf);refine K2.P.cW (k:=here) (v:=true) hg (hl.len hE) ?_;refine vI ha (o.dm _ hh) ?_;refine K2.P.cW (k:=f here) (v:=true) av (g1.len hE) ?_;refine vI ha (o.dm _ hh) ?_;refine vI hs ((i6 o.nd).mpr hf) ?_;exact ih (k+1) _ _ _ @c av (λa ha=>by rw[bO ha,bO ha];exact hr a ha) g2 i2
theorem ZV(d:Dr rows):Th @ab (λe=>if e.c=1 then e else fr rows e) ((CP rows).map @k):=by
 have nd:=xV d;have one:∀p∈CP rows,p.1.c=1/\p.2.c=0:=λp hp=>by
  obtain⟨q,_,rfl⟩:=List.mem_map.mp hp;exact⟨rfl,rfl⟩
 have cvs:∀p∈CP rows,(if p.1.c=1 then p.1 else fr rows p.1)=p.1/\(if p.2.c=1 then p.2 else fr rows p.2)=p.1:=λp hp=>by
  obtain⟨h1,h2⟩:=one p hp;rw[if_pos h1,if_neg (by rw[h2];decide)];exact⟨rfl,(i4 nd hp).2⟩
 refine⟨(List.nodup_append.mp ((BB _).nodup_iff.mp nd)).1,λv hv=>?_,λe=>?_,λe he=>?_,λe he=>?_⟩
 .obtain⟨p,hp,rfl⟩:=List.mem_map.mp hv;exact⟨(i6 nd).mpr (jA.mpr ⟨p,hp,@W⟩),(cvs p hp).1⟩
 .split
  .exact @W
  .exact .inr rfl
 .obtain⟨p,hp,z⟩:=jA.mp ((i6 nd).mp he);obtain⟨m1,m2⟩:=i4 nd hp;obtain⟨c1,c2⟩:=cvs p hp;rcases z with rfl |rfl
  .rw[show fr rows p.1=p.2 from m1,c2,if_pos (one p hp).1]
  .rw[show fr rows p.2=p.1 from m2,c1,if_neg (by rw[(one p hp).2];decide)]
 .obtain⟨p,hp,z⟩:=jA.mp ((i6 nd).mp he);obtain⟨c1,c2⟩:=cvs p hp;rcases z with rfl |rfl
  .rw[c1];exact bE hp
  .rw[c2];exact bE hp
theorem Rb:∀c:B3,(es @M).Perm ((c.map @k).flatMap kE)
 |[]=>.refl _
 |p::c=>by
  have e:jc (p::c)=js p.1 p.2++jc c:=rfl;rw[e,ym,aw,cZ];exact(wZ _ _).append (Rb c)
theorem aaF(d:Dr rows)(nd:(c.map @k).Nodup)(h:∀n∈c.map @k,n∈@aB):Ok @ab @M :=
 ⟨(WJ d).iv,(Rb c).nodup_iff.mpr (JK.abx nd),λe he=>by
  obtain⟨n,hn,w⟩:=List.mem_flatMap.mp ((Rb c).mem_iff.mp he);exact(WJ d).dm n (h n hn) e w⟩
end JC
namespace JC
open K2.P K2.J K2.JB
variable {rows:Rows}
theorem Xv{α:Type} [@U] [Enc α]{neg:Bool}{xs ys:@v}{a:Nat}{G:Gp}{Q:DK}(hd:Enc.dep α<=7)(h:G a=some (.lst (ys.map enc)))(q:Q (.bl (if neg then !decide (xs=ys) else decide (xs=ys))) G):Cq neg (enc xs) @r G Q:=by
 refine⟨enc xs,enc ys,Enc.sn _ _ _ (by show Enc.dep α+1<=8;lia),.ref h (Jw G 7 hd ys),?_⟩;rw[Enc.eqv];exact q
def oM:gj :=
 (bz (aQ (bZ (bb pK (ao @n aM))) (aE 2))
 (bz (aQ (bZ (bb sO (ao @p aM))) (aE 3))
 (bz (aQ hX (aE 4))
 (bz (aQ (fA aM) (aE 5))
 (bz (cq (gx @q) (aE 6) (fT (EU (gy (aN (AJ true) (ak 6) @z)) (gy (aN (Cp true) (ak 6) @F))) (bz (aQ (aN gq @q (ak 6)) (aE 7))
 (bz (BH (gy (aN (AJ false) (ak 7) @z)) (bz (aQ (dC (.bl true)) (eU @F (ak 7)))
 (bz (aQ (dC (.bl true)) (eU @F (aN gq @z (ak 7))))
 (aQ (aN gq @q (aN gq @z (ak 7))) (aE 7)))))
 (bz (aQ (dC (.bl true)) (eU @F (ak 7)))
 (iO (oY IJ ka (ak 5) (ao (eM (ao (jJ Ms (ao (ak 6) (ao (ak 7) aM))) (ao (jJ Mt (ao (ak 6) (ao (ak 7) aM))) aM))) aM)))))) dj))
 (bz (aQ (jJ pR (ao (gO 1 [] (ko @n) (aE 0) (some (gy (aN (Cq false) @n (fA aM)))) @n) aM)) (aE 8))
 (bz (cq (gx @z) (aE 6) (bz (aQ (aN fx (ak 8) (jJ cInt (ao (aN (Cp true) (ak 6) @F) aM))) (aE 8))
 (bz (aQ (ak 6) (aE 9))
 (BH (gy (aN (Cp true) (ak 9) @F)) (bz (aQ (dC (.bl true)) (eU @F (ak 9)))
 (bz (aQ (dC (.bl true)) (eU @F (aN gq @q (ak 9))))
 (aQ (aN gq @z (aN gq @q (ak 9))) (aE 9))))))))
 (cb (bZ (eM (ao (jJ H0 (ao (jJ rz (ao (ak 5) aM)) aM)) (ao (ak 8) aM))))))))))))
def kM:jl:=λds G Q _=>∃(rows:Rows) (c:B3),ds=[enc rows,.fZ (aK (cz c))]/\(Dr rows/\(c.map @k).Nodup/\(∀n∈c.map @k,n∈@aB)/\c.length<=12)/\∀P,CK P->pt P=jI @ab @M->Q (.tup [lb (gv P),.int ((@aq+cls @ab @M:Nat):Int)]) G
theorem xA(ds)(G)(Q)(h:kM ds G Q @j):oM (@j) @N (aY 10 ds) G:=by
 obtain⟨rows,c,rfl,⟨d,nd,sub,hl⟩,q⟩:=h;have o:=aaF d nd sub;have EF:=d.EF;have ndE:=xV d;have hE:(es (CP rows)).length<=1000:=by rw[yk];unfold CP xH;rw[ar];have:=pairs_len rows;lia
 have inE:∀z,fr rows z≠z->z∈es (CP rows):=λz hz=>(i6 ndE).mp hz;have fs:zS (rW @M) (pt @M):=xl o.nd;unfold oM;simp only[↓bG,aQ,bZ,bb,ao,ak,aY,↓aw,↓aR,↓aj,↓ax,aP,↓aH,↓aL,↓aa,aM,aE,↓ai,↓ah,↓ae,hX,fA,ends];refine⟨rows,rfl,d,λac fa la=>cO ?_⟩;refine⟨c,rfl,⟨hl,nd⟩,cO ?_⟩;simp only[fy];intro pg hpg;refine⟨@d,λpp hpp=>?_⟩;have hgp:pg≠pp:=by rintro rfl;rw[av] at hpp;cases hpp
 have ad8:G pp=none:=(dH.new hpg).free hpp;have tH:∀e,e∈ac.map @k↔fr rows e≠e:=λe=>by
  have h1:=Bz fa e;have h2:(bL ac e).isSome=true↔e∈ac.map @k:=by
   unfold bL;rw[eY,ub,xF];exact⟨λ⟨p,hp,z⟩=>⟨p,hp,by simpa using z⟩,λ⟨p,hp,z⟩=>⟨p,hp,by simpa using z⟩⟩
  rw[<-h2,h1];simp
 refine dB (λτ G'=>∃(B:@Z) (l:Gn) (a6 a7 a8 a9:@aD),τ=[@al,some (.fZ (aK (cz c))),some (.fZ (aK ac)),some (.fZ (aK (rW @M))),some (.ref pg),some (.ref pp),a6,a7,a8,a9]/\@H/\G' pg=some (.eG (aK l))/\G' pp=some (.lst ((B.map (mm (jI @ab @M))).map enc))/\Gd (es (CP rows)) l/\P1 @ab @M (Rl @ab @M) (ac.map @k) (gk l) B) ?_ ?_
 .intro N hN;simp![cq,gx,ak,uE];have ek:(aK ac).map @k=ac.map λp=>enc p.1:=by unfold aK;rw[bw];rfl
  rw[ek];refine cj (xs:=ac) (f:=λp=>enc p.1) (λpre τ G'=>∃(B:@Z) (l:Gn) (a6 a7 a8 a9:@aD),τ=[@al,some (.fZ (aK (cz c))),some (.fZ (aK ac)),some (.fZ (aK (rW @M))),some (.ref pg),some (.ref pp),a6,a7,a8,a9]/\@H/\G' pg=some (.eG (aK l))/\G' pp=some (.lst ((B.map (mm (jI @ab @M))).map enc))/\Gd (es (CP rows)) l/\P1 @ab @M (Rl @ab @M) (pre.map @k) (gk l) B)
   ⟨[],[],_,_,_,_,rfl,(dH.new hpg).trans (.new hpp),by rw[bO hgp,av];rfl,av,⟨bR,λz hz=>by cases hz⟩,.zero λx hx=>by cases hx⟩ @aj ?_ ?_
  .rintro pre x post τ G1 N2 e ⟨B,l,a6,a7,a8,a9,rfl,le,gg,gl,gd,p1⟩ jk;have hx:fr rows x.1≠x.1:=(tH x.1).mp (List.mem_map.mpr ⟨x,@aF,rfl⟩);simp![aE,fT,EU,aN,ak,aQ,kN,dj];have aaH:(bL (rW @M) x.1).isSome=decide (x.1∈es @M):=by
    rw[Bz fs];exact decide_eq_decide.mpr (i6 o.nd)
   have em:(pre++[x]).map @k=pre.map @k++[x.1]:=by rw[aU];rfl
   refine Eb ?_;by_cases hS:x.1∈es @M
   .simp![aaH,hS,decide_true,bg,if_true,au,if_false];exact jk _ _ ⟨B,l,_,_,_,_,rfl,le,gg,gl,gd,by rw[em];exact p1.skip o (.inl hS)⟩
   simp![aaH,hS,decide_false,cL,if_true];refine Ub gg ?_;by_cases hG:gk l x.1
   .have WI:(bL l x.1).isSome=true:=hG;simp![WI,bg,if_true,au,if_false];exact jk _ _ ⟨B,l,_,_,_,_,rfl,le,gg,gl,gd,by rw[em];exact p1.skip o (.inr hG)⟩
   have WI:(bL l x.1).isSome=false:=by simpa[gk] using hG
   simp![WI,cL,if_true];refine vI fa hx ?_;obtain⟨ms,w⟩:=(walk o hS).m;have jo:=kD o hx hS;have Yx:∀z∈ms,z∈es (CP rows):=λz hz=>by
    by_cases k:z∈es @M
    .exact inE z (o.dm z k)
    .rw[w.out o z hz k];exact inE _ (yc o (λz=>jo (by rw[yd o] at z;exact z.symm))).1
   obtain⟨n,run⟩:=w1 hE fa fs o w Yx;refine⟨n,run _ _ _ _ _ _ _ _ _ _ _ _ l gg gd λG2 l2 Vu hr2 Fw k1 k2 k3=>?_⟩;simp![aQ,dC,eU,ak,iO,oY,ao,eM,jJ,aM];refine K2.P.cW (k:=jI @ab @M x.1) (v:=true) Vu (Fw.len hE) ?_;have gl2:di G2 pg (.eG (aK (du l2 (jI @ab @M x.1) true))) pp=some (.lst ((B.map (mm (jI @ab @M))).map enc)):=by rw[bO hgp.symm,hr2 pp hgp.symm];exact gl
   have bl:B.length<=ac.length:=by
    have:=sub_len' B (ac.map @k) p1.nd λb hb=>by rw[e,aU];exact dI _ (p1.NT b hb).1
    rwa[ar] at this
   have Cs:dH G G2:=λa ob h=>by
    rw[hr2 a (by rintro rfl;rw[hpg] at h;cases h)];exact le a ob h
   have RA:x.1∉pre.map @k:=λz=>by
    have n:=fa.nd;rw[e,aU,aw,bY] at n;exact n.2.2 _ z _ cw rfl
   refine⟨by rw[gl2];trivial,x.1,_,rfl,x.1,_,rfl,@d,?_⟩;rw[gl2];refine⟨FX (by rw[ar,ar];lia),jk _ _ ⟨B++[x.1],du l2 (jI @ab @M x.1) true,_,_,_,_,rfl,(Cs.put hpg).put ad8,by rw[bO hgp,av],?_,Fw.put (Yx _ w.lst.1),?_⟩⟩
   .rw[av,aU,aU];rfl
   .rw[em];refine p1.gone (Wb _ _) (λx _=>T5 o.iv x) (λx _=>Xr o.nd x) o hS hG hx RA w λz=>?_;rw[nQ];constructor
    .rintro(h |h)
     .exact k1 z h
     .rw[h];exact .inr w.lst.1
    .rintro(h |h)
     .exact .inl (k2 z h)
     .exact k3 z h
  .rintro τ G2 ⟨B,l,a6,a7,a8,a9,rfl,le,gg,gl,gd,p1⟩;exact hN _ _ ⟨B,l,_,_,_,_,rfl,le,gg,gl,gd,p1⟩
 .rintro _ G1 ⟨B,l,a6,a7,a8,a9,rfl,le,gg,gl,gd,p1⟩;have p2:=p1.two o λx hx=>(tH _).mpr λz=>o.dm x hx (by rw[o.iv] at z;exact z.symm);have Bo:∀b∈B,b∉es @M:=λb hb=>(p1.NT b hb).2.1;simp only[↓bG,aQ,jJ,ao,gO,↓dW,ak,↓aa,aM,aE,↓ai,↓ah];refine jf ⟨Lf (by rw[ar];have:=d.str;lia),?_⟩;refine nX (xs:=rows) (λpre acc τ G'=>dH G1 G'/\(∃a,τ=[a])/\acc=(pre.filter λr=>r.isEmpty).map enc) ⟨.refl _,@I,rfl⟩ (λ_ _ _ _ _=>trivial) ?_ ?_
  .rintro pre r post acc τ G2 N e ⟨Cs,⟨a,rfl⟩,rfl⟩ hN;simp![aE,aN,ak,fA,aM];refine⟨@d,λp5 hp5=>?_⟩;refine Xv (ys:=([]:@Z)) (@d) av ?_;simp only[↓bJ,↓au,if_false];by_cases k:r=[]
   .subst k;simp only[decide_true,if_true];refine hN _ _ _ ⟨Cs.trans (.new hp5),@I,?_⟩;rw[hZ,aU];rfl
   .simp only[k,decide_false,au,if_false];refine hN _ _ _ ⟨Cs.trans (.new hp5),@I,?_⟩;simp[k]
  .rintro acc τ G2 ⟨Cs,⟨a,rfl⟩,rfl⟩ p3 hp3;refine rB (IsL.ref av) ?_;rw[ar];have elo:(rows.filter λr=>r.isEmpty).length=@aq:=rfl;rw[elo];have le3:dH G1 (di G2 p3 (.lst ((rows.filter λr=>r.isEmpty).map enc))):=Cs.trans (.new hp3);have gg3:=le3 _ _ gg;have gl3:=le3 _ _ gl;have lg3:=le.trans le3;generalize di G2 p3 (.lst ((rows.filter λr=>r.isEmpty).map enc))=G3 at gg3 gl3 lg3;refine dB (λτ G'=>∃(A:@Z) (l:Gn) (a6 a7 a9:@aD),τ=[@al,some (.fZ (aK (cz c))),some (.fZ (aK ac)),some (.fZ (aK (rW @M))),some (.ref pg),some (.ref pp),a6,a7,some (.int ((@aq+A.length:Nat):Int)),a9]/\@H/\G' pg=some (.eG (aK l))/\G' pp=some (.lst ((B.map (mm (jI @ab @M))).map enc))/\Gd (es (CP rows)) l/\P2 @ab @M (Rl @ab @M) B ((rW @M).map @k) (gk l) A) ?_ ?_
   .intro N hN;simp![cq,gx,ak,uE];have ek:(aK (rW @M)).map @k=(rW @M).map λp=>enc p.1:=by unfold aK;rw[bw];rfl
    rw[ek];refine cj (xs:=rW @M) (f:=λp=>enc p.1) (λpre τ G'=>∃(A:@Z) (l:Gn) (a6 a7 a9:@aD),τ=[@al,some (.fZ (aK (cz c))),some (.fZ (aK ac)),some (.fZ (aK (rW @M))),some (.ref pg),some (.ref pp),a6,a7,some (.int ((@aq+A.length:Nat):Int)),a9]/\@H/\G' pg=some (.eG (aK l))/\G' pp=some (.lst ((B.map (mm (jI @ab @M))).map enc))/\Gd (es (CP rows)) l/\P2 @ab @M (Rl @ab @M) B (pre.map @k) (gk l) A)
     ⟨[],l,_,_,_,rfl,lg3,gg3,gl3,gd,p2⟩ @aj ?_ ?_
    .rintro pre x post τ G4 N2 e ⟨A,l4,b6,b7,b9,rfl,Zt,YQ,Zz,Vy,p4⟩ jk;have hx:x.1∈es @M:=(i6 o.nd).mp (fs.mem (@aF)).2;have em:(pre++[x]).map @k=pre.map @k++[x.1]:=by rw[aU];rfl
     simp![aE,aQ,aN,ak,jJ,ao,aM];refine Ub YQ ?_;by_cases hG:gk l4 x.1
     .have WI:(bL l4 x.1).isSome=true:=hG;simp![cInt,WI,bg,if_true,au,if_false,lF];refine⟨1,?_⟩;unfold vZ;simp only[bG,aQ,dC,cD,aN,ak,ae,aa];refine Ub YQ ?_;simp only[WI,bg,if_true,bJ,au,if_false];exact jk _ _ ⟨A,l4,_,_,_,rfl,Zt,YQ,Zz,Vy,by rw[em];exact p4.skip hG⟩
     .have WI:(bL l4 x.1).isSome=false:=by simpa[gk] using hG
      have ec:((@aq+A.length:Nat):Int)+1=((@aq+(A++[x.1]).length:Nat):Int):=by rw[aB,bU];lia
      simp![cInt,WI,cL,if_true,ec];refine⟨(es @M).length+1,w2 hE fa fs o (λz hz=>inE z (o.dm z hz)) p4.bnd (e:=x.1) (G0:=G4) (λG5 l5 k here hg5 hr5 gd5 i5 h5=>?_) _ 0 _ _ l4 rfl YQ (λ_ _=>rfl) Vy (.zero hx)⟩;have le5:dH G G5:=λa ob h=>by
       rw[hr5 a (by rintro rfl;rw[hpg] at h;cases h)];exact Zt a ob h
      exact jk _ _ ⟨A++[x.1],l5,_,_,_,rfl,le5,hg5,by rw[hr5 pp hgp.symm];exact Zz,gd5,by rw[em];exact p4.ring o Bo hx hG i5 h5⟩
    .rintro τ G4 ⟨A,l4,b6,b7,b9,rfl,Zt,YQ,Zz,Vy,p4⟩;exact hN _ _ ⟨A,l4,_,_,_,rfl,Zt,YQ,Zz,Vy,p4⟩
   .rintro _ G4 ⟨A,l4,b6,b7,b9,rfl,Zt,YQ,Zz,Vy,p4⟩;have Ry:∀e∈es @M,e∈(rW @M).map @k:=λe he=>by
     have h1:(bL (rW @M) e).isSome=true:=by rw[Bz fs];simp[(i6 o.nd).mpr he]
     unfold bL at h1;rw[eY,ub] at h1;obtain⟨p,hp,z⟩:=h1;exact List.mem_map.mpr ⟨p,hp,by simpa using z⟩
    have ea:=found o (ZV d) tH p1 p4 Ry;obtain⟨g1,g2⟩:=N9 o tH p1;have bl:B.length<=48:=by
     have h1:=sub_len' B (es (CP rows)) p1.nd λb hb=>inE b ((tH b).mp (p1.NT b hb).1);rw[yk] at h1;unfold CP xH at h1;rw[ar] at h1;have:=pairs_len rows;lia
    simp![cb,bZ,eM,ao,jJ,ak,aM];refine BL (IsL.ref Zz) (by rw[ar];lia) λp6 hp6=>?_;unfold H0;simp only[kR (IsL.ref av)];have q:=q _ g1 g2;rw[JH] at q;rw[<-ea] at q;exact⟨@d,qX (Zt.trans (.new hp6)) q⟩
end JC
end K2
end
section
set_option maxHeartbeats 1000000
namespace K2
open Enc (enc)
namespace JC
open K2.P K2.J K2.JB
open Y (Po L ND NZ fG qg gE gb cp)
noncomputable def more(n:Int)(c:B3):List B3:=[c++[(n,false)],c++[(n,true)]]
theorem DL(n):∀ns:@u,jN (ns++[n])=(jN ns).flatMap (more n)
 |[]=>rfl
 | m::ns=>by
  have ih:=DL n ns;have one:∀w:Bool,((jN ns).flatMap (more n)).map (λc=>(m,w)::c)=((jN ns).map λc=>(m,w)::c).flatMap (more n):=λw=>by
   rw[List.map_flatMap,List.flatMap_map];rfl
  show((jN (ns++[n])).map _++(jN (ns++[n])).map _)=((jN ns).map _++(jN ns).map _).flatMap (more n);rw[ih,one,one,List.flatMap_append]
theorem UT(hd)(c)(n)(w):pc hd (c++[(n,w)])=pc hd c+pw (hd n) w:=by
 unfold pc;rw[aU,List.sum_append];show _+(_+0)=_;rw[lF]
theorem Ik(ns):(jN ns).length=2 ^ ns.length:=by
 induction ns with
 |nil=>rfl
 |cons n ns ih=>rw[jN,aB,ar,ar,ih,aj,xQ];lia
theorem BO:∀(ns:@u) (c:B3),c∈jN ns->c.map @k=ns
 |[],c,h=>by rw[jN,bF] at h;rw[h];rfl
 |n::ns,c,h=>by
  rw[jN,qx] at h;rcases h with h |h<;>obtain⟨b,hb,rfl⟩:=List.mem_map.mp h<;>rw[aw,BO ns b hb]
def CG(A:Su)(k:PK)(m:Nat)(b:Int):Su:=du A k (qg ((bL A k).getD []) (gb (cp LP m) b 1))
theorem Zc(h:CJ A)(H)(k)(m)(b):tt H (CG A k m b)=tt H A+nO m (H (pt (dec k))) b:=by
 unfold CG;rw[Pm H k _ h.1,Y.SK _ (h.get k).1,Y.IA,Int.one_mul,rF,Eo,xT];lia
theorem VT(h:CJ A)(k)(m)(b):CJ (CG A k m b):=h.put (Y.LC (h.get k).1) (Y.AS _)
theorem VU(A)(k)(m)(b):(CG A k m b).length<=A.length+1:=by unfold CG du;split<;>simp
theorem VW(h:∀p∈A,∃P,p.1=gv P/\CK P)(c:CK P)(m)(b):∀p∈CG A (gv P) m b,∃P,p.1=gv P/\CK P:=by
 intro p hp;unfold CG du at hp;split at hp
 .obtain⟨q,hq,rfl⟩:=List.mem_map.mp hp;have:=h q hq;split<;>exact this
 .rcases List.mem_append.mp hp with hp |hp
  .exact h p hp
  .rw[bF] at hp;subst hp;exact⟨P,rfl,c⟩
theorem Vm(h:CJ A)(c:∀p∈A,∃P,p.1=gv P/\CK P):Sc (iq A) :=
 ⟨Be h,λp hp z=>(by have:=(List.mem_filter.mp hp).2;rw[z] at this;cases this),λp hp=>c p (List.mem_filter.mp hp).1⟩
theorem VS(h:CJ A)(k)(m)(b):gM (CG A k m b)<=gM A+2 ^ m:=by
 unfold CG;have h1:=GC k (qg ((bL A k).getD []) (gb (cp LP m) b 1)) h.1;have h2:=Y.GA (h.get k).1 (gb (cp LP m) b 1);have h3:fG (gb (cp LP m) b 1)<=2 ^ m:=by
  unfold gb;refine bh (Y.uy _) ?_;have e:∀m:Po,fG (m.map λp=>(p.1+b,p.2*1))=fG m:=by
   intro m;induction m with
   |nil=>rfl
   |cons p m ih=>rw[aw,fG,fG,ih];simp
  rw[e];exact Y.km LP m
 lia
end JC
end K2
end
section
namespace K2
open PySem (Str)
open Enc (enc)
namespace OB
open K2.P K2.T
open K2.Tq (Nc Kx)
open K2.KS (pj)
open K2.Y
variable {rows:Rows}
theorem B0:fG LP=2:=rfl
theorem MF:ND LP:=by unfold ND LP;decide
theorem VP(h:n<=100):2 ^ n<mM:=by
 unfold mM;exact Nat.pow_lt_pow_right (@d) @c
theorem wz(h:r<=15):r<=1000/\∀k,k<r->LP.length ^ k*LP.length<=SZ/\fG LP ^ k<mM:=by
 refine⟨@f,λk hk=>⟨?_,by rw[B0];exact VP @c⟩⟩;show 2 ^ k*2<=16777216;rw[<-xQ];exact dM (n:=2) (@d) (show k+1<=24 by lia)
theorem M3(h:n<=1000):n<mM:=dS h (bu (show 1000<2 ^ 10 by decide) (by unfold mM;exact dM (@d) (@d)))
end OB
namespace OB
open K2.P K2.T
open K2.Tq (Nc Kx)
open K2.KS (pj gJ fg)
open K2.Y
open K2.SQ (i8 vH)
variable {rows:Rows}
def lr:gj :=
 (bz (aQ (jJ vi (ao @n aM)) (aE 2))
 (bz (cq (gx @p) (aE 3) (aQ (aN fx (oY MT zo @q (ao @z (ao @L aM))) (aN gq @p @z)) (eU @q @z)))
 (cb (bZ (bb fJ (ao (bZ @q) aM))))))
def kj:jl:=gW
theorem oi(ds)(G)(Q)(h:kj ds G Q @j):lr (@j) @N (aY 4 ds) G:=K31.oi ds G Q h
def jL:gj :=
 (bz (aQ hX (aE 3))
 (bz (cq (gx @n) (aE 4) (aQ (aN wA (aN gq @n @F) @q) (eU @z (aN fx @F @p))))
 (cb (bZ (bb fJ (ao (bZ @z) aM))))))
def iA:jl:=fF
theorem kX(ds)(G)(Q)(h:iA ds G Q @j):jL (@j) @N (aY 5 ds) G:=K33.kX ds G Q h
def mG:gj :=
 (bz (aQ (rM @L @B) (aE 1))
 (bz (cq (qm @n) (aE 2) (aQ (bb jx (ao (bZ @p) (ao (bZ (HN @ac (ES zj @B) (ES zj @ac) (ES zj @B))) aM))) (aE 1)))
 (cb (bZ @p))))
def jK:jl:=λds G Q _=>∃r:Nat,ds=[.int r]/\r<=15/\fy G (.eG (aK (cp LP r))) Q
theorem rE(ds)(G)(Q)(h:jK ds G Q @j):mG (@j) @N (aY 3 ds) G:=by
 obtain⟨n,rfl,hn,q⟩:=h;obtain⟨agG,hk⟩:=wz hn;unfold mG;simp only[ends,aY,aw,aR,aj,ax,aP,aH,aL,bG,aQ,rM,dC,aE,ai,ah];refine⟨rfl,λp0 Ct=>?_⟩;refine dB (λτ G'=>(∃a p,τ=[some (.int n),@am,a]/\G p=none/\G' p=some (.eG (aK (cp LP n))))/\@H) ?_ ?_
 .intro N hN;simp only[cq,jB,ak,aa,gX];refine⟨@f,@f,?_⟩;rw[ff];refine RW (λpre τ G'=>(∃a p,τ=[some (.int n),@am,a]/\G p=none/\G' p=some (.eG (aK (cp LP pre.length))))/\@H) ⟨⟨_,p0,rfl,Ct,av⟩,.new Ct⟩ @aj ?_ ?_
  .rintro pre x post τ G' N2 e1 ⟨⟨a,p,rfl,hp,gp⟩,le⟩ jk;obtain⟨rfl,yf⟩:=AI e1;obtain⟨h1,h2⟩:=hk pre.length yf;simp only[aE,aQ,bb,ao,bZ,ak,ai,ah,ae,aa,HN,dC,ES,aM,lN];refine fH le hp gp ⟨⟨rfl,rfl,rfl⟩,λp1 Zv=>fH (.new Zv) Zv av ?_⟩;refine⟨_,_,cp LP pre.length,LP,rfl,⟨rfl,mU _ _⟩,⟨rfl,MF⟩,bh (iQ _ (qP LP _)) h1,⟨dS (km LP _) h2,by rw[B0];exact M3 (@d)⟩,λp2 mK=>?_⟩;refine jk _ _ ⟨⟨_,p2,rfl,mK,?_⟩,.new mK⟩;rw[av,aB];rfl
  .rintro τ G' ⟨⟨a,p,rfl,hp,gp⟩,le⟩;rw[show(gC 0 n).length=n by simp[gC]] at gp;exact hN _ _ ⟨⟨_,p,rfl,hp,gp⟩,le⟩
 .rintro _ G' ⟨⟨a,p,rfl,hp,gp⟩,le⟩;simp only[cb,bZ,ak,ae,aa];exact kW le hp gp q
end OB
namespace JC
open K2.P K2.J
open K2.JB hiding V0
open K2.Y (Po L ND NZ fG qg gE gb cp fF iL gV gW Pl fJ jx)
open K2.SQ (i8 vH lS)
variable {rows:Rows}
def wy:gj :=
 (bz (aQ hX (aE 1))
 (bz (cq (ko @n) (aE 2) (cq (ko @q) (aE 3) (aQ (aN gq @z @ac) (eU @p (aN gq @z @L)))))
 (cb (bZ @p))))
def iB:jl:=λds G Q _=>∃rows:Rows,ds=[enc rows]/\rows.flatten.length<=500/\fy G (.eG (aK (@aT))) Q
theorem Fh(ds)(G)(Q)(h:iB ds G Q @j):wy (@j) @N (aY 4 ds) G:=by
 obtain⟨rows,rfl,hl,q⟩:=h;unfold wy;simp only[ends,aY,aw,aR,aj,ax,aP,aH,aL,bG,aQ,hX,fy,aE,ai,ah];intro p hp;refine dB (λτ G'=>(∃a b,τ=[@al,@am,a,b])/\@H/\G' p=some (.eG (aK (@aT)))) ?_ ?_
 .intro N hN;simp only[cq,dW,ak,aa];refine jf ?_;refine cj (xs:=rows) (λpre τ G'=>(∃a b,τ=[@al,@am,a,b])/\@H/\G' p=some (.eG (aK (i8 pre.flatten)))) ⟨@aR,@ah,av⟩ @aj ?_ ?_
  .rintro pre r post τ G' N2 e ⟨⟨a,b,rfl⟩,l,gp⟩ jk;have hlen:pre.flatten.length+r.length<=rows.flatten.length:=by
    rw[e];simp only[jm,gF,aB];lia
   simp only[aE,cq,ai,ah,dW,ak,ae,aa];refine jf ?_;refine cj (xs:=r) (λpp τ G'=>(∃a b,τ=[@al,@am,a,b])/\@H/\G' p=some (.eG (aK (i8 (pre.flatten++pp))))) ⟨@aR,l,by rw[cI];exact gp⟩ @aj ?_ ?_
   .rintro pp t pt τ G4 N3 e4 ⟨⟨a,b,rfl⟩,l4,Zy⟩ Bk;have hpp:pp.length<r.length:=by have:=congrArg cU e4;simp at this;lia
    have hz:=lS (pre.flatten++pp) [];rw[aB] at hz;simp only[aE,aQ,aN,ak,EL,ai,ah,ae,aa,dC,eU,iM,ZF,at2];refine P.cW (k:=t.a) (v:=t.c) Zy (by show(i8 (pre.flatten++pp)).length<=1000;rw[ax] at hz;unfold i8;lia) ?_;refine Bk _ _ ⟨@aR,l4.put hp,?_⟩;have eh:i8 (pre.flatten++(pp++[t]))=du (i8 (pre.flatten++pp)) t.a t.c:=by
     rw[<-c9];unfold i8;exact fO ..
    rw[av,eh]
   .rintro τ G4 ⟨⟨a,b,rfl⟩,l4,Zy⟩;refine jk _ _ ⟨@aR,l4,?_⟩;rw[Zy,jm,List.flatten_singleton]
  .rintro τ G' ⟨⟨a,b,rfl⟩,l,gp⟩;exact hN _ _ ⟨@aR,l,gp⟩
 .rintro _ G' ⟨⟨a,b,rfl⟩,l,gp⟩;simp only[cb,bZ,ak,ae,aa];exact Y.kW l hp gp q
def lr:gj :=
 (bz (aQ (jJ vi (ao @n aM)) (aE 2))
 (bz (cq (gx @p) (aE 3) (aQ (aN fx (oY MT zo @q (ao @z (ao @L aM))) (aN gq @p @z)) (eU @q @z)))
 (cb (bZ (bb fJ (ao (bZ @q) aM))))))
def kj:jl:=gW
theorem oi(ds)(G)(Q)(h:kj ds G Q @j):lr (@j) @N (aY 4 ds) G:=OB.oi ds G Q h
def jL:gj :=
 (bz (aQ hX (aE 3))
 (bz (cq (gx @n) (aE 4) (aQ (aN wA (aN gq @n @F) @q) (eU @z (aN fx @F @p))))
 (cb (bZ (bb fJ (ao (bZ @z) aM))))))
def iA:jl:=fF
theorem kX(ds)(G)(Q)(h:iA ds G Q @j):jL (@j) @N (aY 5 ds) G:=OB.kX ds G Q h
def mG:gj :=
 (bz (aQ (rM @L @B) (aE 1))
 (bz (cq (qm @n) (aE 2) (aQ (bb jx (ao (bZ @p) (ao (bZ (HN @ac (ES zj @B) (ES zj @ac) (ES zj @B))) aM))) (aE 1)))
 (cb (bZ @p))))
def jK:jl:=OB.jK
theorem rE(ds)(G)(Q)(h:jK ds G Q @j):mG (@j) @N (aY 3 ds) G:=OB.rE ds G Q h
def tD(hd:Int->Int)(c:B3):D:=.tup [.fZ (aK (cz c)),.int (pc hd c)]
def XC(rows:Rows)(H:Ak)(c:B3):Int:=nO (@aq+cls @ab @M) (H (jI @ab @M)) (pc @ai c)
structure Acc(rows:Rows)(cs:List B3)(A:Su):Prop where
 xI:CJ A
 ZC:∀p∈A,∃P,p.1=gv P/\CK P
 len:A.length<=cs.length
 fG:gM A<=cs.length*32768
 val:∀H,tt H A=sm (XC rows H) cs
theorem Acc.zero:Acc rows [] []:=⟨⟨@G,@G⟩,@G,aG _,aG _,λH=>rfl⟩
theorem Sg(f):∀c:B3,cls f @M<=2*c.length
 |[]=>aG _
 |p::c=>by
  have e1:jc (p::c)=js p.1 p.2++jc c:=rfl;rw[e1,vK,aj];have h1:=Ky f p.1 p.2;have h2:=Sg (jI f (js p.1 p.2)) c;lia
theorem Acc.add(a:Acc rows cs A)(hP:CK P)(e:pt P=jI @ab @M)(hm:@aq+cls @ab @M<=15):Acc rows (cs++[c]) (CG A (gv P) (@aq+cls @ab @M) (pc @ai c)):=by
 refine⟨VT a.xI _ _ _,VW a.ZC hP _ _,?_,?_,λH=>?_⟩
 .have:=VU A (gv P) (@aq+cls @ab @M) (pc @ai c);have:=a.len;rw[aB,bU];lia
 .have h1:=VS a.xI (gv P) (@aq+cls @ab @M) (pc @ai c);have h2:=a.fG;have h3:2 ^ (@aq+cls @ab @M)<=2 ^ 15:=dM (@d) hm;rw[aB,bU];lia
 .rw[Zc a.xI,a.val,Jx,yp,e];show _=_+(_+0);rw[lF];rfl
def va:gj :=
 (bz (aQ (bZ (bb iB (ao @n aM))) (aE 2))
 (bz (aQ (bZ (fA (ao (eM (ao hX (ao @L aM))) aM))) (aE 3))
 (bz (cq (ko @p) (aE 4) (bz (aQ (fA aM) (aE 5))
 (bz (cq (ko @z) (hV (cY (aE 6) (cY (aE 7) hW))) (cq (qm @ac) (aE 8) (bz (aQ (jJ vi (ao (ak 6) aM)) (aE 9))
 (bz (aQ (bZ (ak 8)) (eU (ak 9) @F))
 (iO (oY IJ ka (ak 5) (ao (bZ (eM (ao (ak 9) (ao (aN fx (ak 7) (aN wB (aN gq @q @F) (aN D8 @B (aN wB @ac (ak 8))))) aM)))) aM)))))))
 (aQ (bZ (ak 5)) (aE 3)))))
 (bz (aQ CC (aE 10))
 (bz (BJ 10 (cq (ko @z) (hV (cY (aE 6) (cY (aE 7) hW))) (bz (aQ (bb kM (ao @n (ao (ak 6) aM))) (hV (cY (aE 11) (cY (aE 12) hW))))
 (aQ (bZ (bb kj (ao (bZ (oY tyP A5 (ak 10) (ao (bZ (ak 11)) (ao (bZ hX) aM)))) (ao (bZ (bb iA (ao (bZ (bb jK (ao (bZ (ak 12)) aM))) (ao (bZ (ak 7)) (ao (bZ @B) aM))))) aM)))) (tM (ak 10) (ak 11))))))
 (bz (aQ CC (aE 13))
 (bz (cq (ye (ak 10)) (aE 11) (fT (gy (aN (zk true) (aN M9 (ak 10) (ak 11)) hX)) (aQ (bZ (aN M9 (ak 10) (ak 11))) (tM (ak 13) (ak 11))) dj))
 (cb (bZ (ak 13))))))))))
def pJ:jl:=λds G Q _=>∃(rows:Rows) (ns:@u),ds=[enc rows,enc ns]/\(Dr rows/\ns.Nodup/\(∀n∈ns,n∈@aB)/\(@aB).length<=6) /\
 ∀S':Su,Sc S'->(∀H,tt H S'=sm (XC rows H) (jN ns))->Q (.kF (fW S')) G
theorem Lw(h:k<=6):2 ^ k<=64:=dM (n:=2) (@d) h
theorem R9(c):(cz c).length=c.length:=ar _
theorem Y3(c):(cz c).map @k=c.map @k:=by unfold cz;rw[bw];rfl
theorem GF(n):∀s:List B3,(s.flatMap (more n)).length=2*s.length
 |[]=>rfl
 |a::l=>by rw[cZ,aB,GF n l,aj];show 2+_=_;lia
theorem Ea{G:Gp}{S:Su}{k:PK}{l:Po}{Q:DK}(h:bL S k=some l)(q:Q (.fZ (aK l)) G):M9 (.kF (fW S)) (lb k) G Q:=⟨k,_,rfl,by rw[C8,h];rfl,q⟩
theorem HA(l):uW l []=l.isEmpty:=by cases l<;>rfl
theorem CH(ds)(G)(Q)(h:pJ ds G Q @j):va (@j) @N (aY 14 ds) G:=by
 obtain⟨rows,ns,rfl,⟨d,nn,hp,hl⟩,q⟩:=h;have hl0:=hl;have hl:ns.length<=6:=bh (sub_len' ns _ nn hp) hl;have EF:=d.EF;have lol:@aq<=3:=bh (fc _ _) d.str;unfold va;simp only[↓bG,aQ,bZ,bb,ao,ak,aY,↓aw,↓aR,↓aj,↓ax,aP,↓aH,↓aL,↓aa,aM,aE,fA,eM,hX,fy,dC,ends,↓ai,↓ah];refine⟨rows,rfl,@f,λph fh=>fH (.new fh) fh av ?_⟩;intro pa fa;refine⟨@d,@d,λpb fb=>?_⟩;have la:dH G (di (di G pa (.eG [])) pb (.lst [.tup [.ref pa,.int 0]])):=(dH.new fa).trans (.new fb);have fb':G pb=none:=(dH.new fa).free fb;refine Bm (ss:=[tD @ai []]) la fb' av (.cons (.tup (.cons (.eG ((dH.new fb) _ _ av) (by simp[fa]) .nil) (.cons (.same _) .nil))) .nil) ?_;have d0:=d;generalize hH:i8 (List.flatten rows)=HS;have Fu:∀n∈@aB,bL HS n=some (handOf rows n):=λn hn=>by rw[<-hH];exact vH d hn
 refine dB (λτ G'=>G=G'/\∃a b c d e f,τ=[@al,some (enc ns),some (.fZ (aK HS)),some (.dF ((jN ns).map (tD @ai))),a,b,c,d,e,f,none,none,none,none]) ?_ ?_
 .intro N hN;simp![cq,ak];refine jf ?_;refine cj (xs:=ns) (f:=enc) (λpre τ G'=>G=G'/\∃a b c d e f,τ=[@al,some (enc ns),some (.fZ (aK HS)),some (.dF ((jN pre).map (tD @ai))),a,b,c,d,e,f,none,none,none,none]) ⟨rfl,_,_,_,_,_,_,rfl⟩ @aj ?_ ?_
  .rintro pre n post τ G' N2 e ⟨rfl,a1,a2,a3,a4,a5,a6,rfl⟩ jk;have hlp:pre.length+1<=ns.length:=@aF
   have hn:n∈@aB:=hp n (@aF);have RA:n∉pre:=λz=>by
    rw[e,bY] at nn;exact nn.2.2 n z n @i rfl
   have hz:=Ik pre;have hz2:=Lw (k:=pre.length) @c;simp![aE,aQ,fA,aM,kN];refine⟨@d,λp3 f3=>?_⟩;simp only[↓cq];simp![ak];refine cj (xs:=jN pre) (f:=tD @ai) (λrT τ G2=>dH G G2/\G2 p3=some (.lst ((rT.flatMap (more n)).map (tD @ai)))/\∃a b c d,τ=[@al,some (enc ns),some (.fZ (aK HS)),some (.dF ((jN pre).map (tD @ai))),some (.int n),some (.ref p3),a,b,c,d,none,none,none,none]) ⟨.new f3,av,_,_,_,_,rfl⟩ @aj ?_ ?_
   .rintro rT c2 PZ τ G2 N3 e2 ⟨l2,g2,b1,b2,b3,b4,rfl⟩ Bk;have aiS:rT.length+1<=(jN pre).length:=by rw[e2];simp
    have Cc:=BO pre c2 (by rw[e2];simp);have RI:c2.length<=6:=by have:=congrArg cU Cc;rw[ar] at this;lia
    have hcn:n∉(cz c2).map @k:=by rw[Y3,Cc];exact RA
    simp only[tD,hV,cY,hW,aE,ah,ai];simp![cq,dC];refine⟨@d,@d,?_⟩;have er:gC 0 (Int.toNat 2)=([false,true]:List Bool).map λw=>D.int (wI w):=rfl;rw[er];refine cj (xs:=([false,true]:List Bool)) (f:=λw=>D.int (wI w)) (λXF τ G3=>dH G G3/\G3 p3=some (.lst ((rT.flatMap (more n)++XF.map λw=>c2++[(n,w)]).map (tD @ai)))/\∃a b,τ=[@al,some (enc ns),some (.fZ (aK HS)),some (.dF ((jN pre).map (tD @ai))),some (.int n),some (.ref p3),some (.fZ (aK (cz c2))),some (.int (pc @ai c2)),a,b,none,none,none,none]) ⟨l2,by rw[aR,cI];exact g2,_,_,rfl⟩ @aj ?_ ?_
    .rintro XF w afF τ G3 N4 e3 ⟨l3,g3,b4,b5,rfl⟩ hN4;have aiR:XF.length<=1:=by have:=congrArg cU e3;simp at this;lia
     simp![aE,aQ,jJ,ao,ak,aM,bZ,eU,iO,oY,eM,aN,dC];refine BM (l:=cz c2) rfl (Lf (by rw[R9];lia)) λp4 f4=>?_;have n34:p3≠p4:=λz=>by rw[<-z,g3] at f4;cases f4
     refine cO ?_;refine P.cW (k:=n) (v:=wI w) av (by rw[R9];lia) ?_;have ep:du (cz c2) n (wI w)=cz (c2++[(n,w)]):=by rw[Y.jF hcn];unfold cz;rw[aU];rfl
     rw[ep];have e5:∀o o',di (di G3 p4 o) p4 o'=di G3 p4 o':=λo o'=>by funext b;unfold di;split<;>rfl
     rw[e5];have g4:(di G3 p4 (.eG (aK (cz (c2++[(n,w)]))))) p4=some (.eG (aK (cz (c2++[(n,w)])))):=av;have g34:(di G3 p4 (.eG (aK (cz (c2++[(n,w)]))))) p3=_:=(bO n34).trans g3;simp only[g34];refine⟨trivial,?_⟩;refine wD (v:=handOf rows n) (l:=HS) rfl (Fu n hn) ?_;have hw:wI w=0\/wI w=1:=by cases w<;>simp[wI]
     refine⟨Or.inl (@d),?_⟩;refine⟨Or.inr (by rcases hw with h |h<;>rw[h]<;>decide),?_⟩;have ev:pc @ai c2+handOf rows n*(1-2*wI w)=pc @ai (c2++[(n,w)]):=by
      rw[UT];cases w<;>simp[wI,pw]
     show 0+1+1<=SZ/\OE _ (D.tup [D.ref p4,D.int (pc @ai c2+handOf rows n*(1-2*wI w))]) _;rw[ev];refine⟨@d,λa=>(G3 a).isNone,tD @ai (c2++[(n,w)]),.tup (.cons (.eG g4 (by simp[f4]) (ID.same _)) (.cons (.same _) .nil)),?_⟩;rw[tV (.new f4)];simp only[g3];refine⟨FX (by rw[ar,aB,GF,ar];lia),hN4 _ _ ⟨l3.put f3,?_,_,_,rfl⟩⟩;rw[av];simp only[aU,aw,aR,c9]
    .rintro τ G3 ⟨l3,g3,b4,b5,rfl⟩;refine Bk _ _ ⟨l3,?_,_,_,_,_,rfl⟩;rw[g3,List.flatMap_append,List.flatMap_singleton];rfl
   .rintro τ G2 ⟨l2,g2,b1,b2,b3,b4,rfl⟩;simp![aQ,bZ,ak,aE];refine Bm l2 f3 g2 (FA.same _) ?_;refine jk _ _ ⟨rfl,some (.int n),some (.ref p3),b1,b2,b3,b4,?_⟩;rw[DL]
  .rintro τ G' ⟨rfl,a1,a2,a3,a4,a5,a6,rfl⟩;exact hN _ _ ⟨rfl,_,_,_,_,_,_,rfl⟩
 .rintro _ _ ⟨rfl,a1,a2,a3,a4,a5,a6,rfl⟩;simp only[↓bG,aQ,CC,fy,aE,↓ai,↓ah];intro p Ct;have al:=Ik ns;have al2:=Lw hl;refine dB (λτ G'=>∃(A:Su) (a1 a2 a3 a4 a5 a6 a7 a8:@aD),G=G'/\τ=[@al,some (enc ns),some (.fZ (aK HS)),some (.dF ((jN ns).map (tD @ai))),a1,a2,a3,a4,a5,a6,some (.kF (fW A)),a7,a8,none]/\Acc rows (jN ns) A) ?_ ?_
  .intro N hN;simp only[BJ];simp![cq,ak];refine cj (xs:=jN ns) (f:=tD @ai) (λpre τ G'=>∃(A:Su) (a1 a2 a3 a4 a5 a6 a7 a8:@aD),@H/\G' p=some (.se (fW A))/\τ=[@al,some (enc ns),some (.fZ (aK HS)),some (.dF ((jN ns).map (tD @ai))),a1,a2,a3,a4,a5,a6,@am,a7,a8,none]/\Acc rows pre A)
    ⟨[],_,_,_,_,_,_,_,_,.new Ct,av,rfl,.zero⟩ @aj ?_ ?_
   .rintro pre c post τ G1 N2 e ⟨A,b1,b2,b3,b4,b5,b6,b7,b8,le,gp,rfl,ac⟩ jk;have qA:pre.length+1<=(jN ns).length:=@aF
    have hc:=BO ns c (@aF);have RI:c.length<=6:=by have:=congrArg cU hc;rw[ar] at this;lia
    have cl:=Sg @ab c;simp only[tD,hV,cY,hW,aE,ah,ai];simp![aQ,bb,ao,ak,aM,hV,cY,aE,hW,bZ,oY,hX,dC];refine⟨rows,c,rfl,⟨d,by rw[hc];exact nn,by rw[hc];exact hp,@f⟩,λP hP eP=>?_⟩;have a2:=ac.add hP eP @c;generalize em:@aq+cls @ab @M=m at a2;have hm:m<=15:=@f
    have m1:2 ^ m<=2 ^ 15:=dM (@d) hm;have m2:fG (cp LP m)<=2 ^ m:=Y.km LP m;have m3:=x9 (Y.C1 LP m);have m4:(gb (cp LP m) (pc @ai c) 1).length<=(cp LP m).length:=bh (Y.qc _) (by rw[ar];exact aG _);have m5:=x9 (ac.xI.get (gv P)).2;have m6:=LH A (gv P);have m7:=ac.fG;have m8:=ac.len;dsimp only;refine⟨by unfold tyP;simp only[gp],cO ?_⟩;intro p9 f9;refine fH (.new f9) f9 av ?_;refine GJ gp (cO (cO ?_));refine⟨m,rfl,hm,λp6 f6=>?_⟩;refine fH (.new f6) f6 av (cO (cO ?_));refine⟨_,cp LP m,pc @ai c,1,rfl,⟨rfl,Y.mU _ _⟩,(show _<=16777216 by lia),⟨nZ @c,nZ (@d)⟩,λp8 f8=>?_⟩;refine fH (.new f8) f8 av ?_;refine⟨_,_,(bL A (gv P)).getD [],gb (cp LP m) (pc @ai c) 1,rfl,⟨rfl,(ac.xI.get _).1⟩,⟨rfl,Y.C0 (Y.mU _ _) _ _⟩,?_,λp10 f10=>?_⟩
    .show _<=16777216;lia
    refine fH (.new f10) f10 av ?_;unfold tM;simp only[ak,↓ae,↓aa];refine ug gp (show _<16777216 by lia) ?_;exact jk _ _ ⟨_,_,_,_,_,_,_,_,_,le.put Ct,av,rfl,a2⟩
   .rintro τ G1 ⟨A,b1,b2,b3,b4,b5,b6,b7,b8,le,gp,rfl,ac⟩;simp!;refine Bl le Ct gp ?_;exact hN _ _ ⟨A,_,_,_,_,_,_,_,_,rfl,rfl,ac⟩
  .rintro _ _ ⟨A,b1,b2,b3,b4,b5,b6,b7,b8,rfl,rfl,ac⟩;have h1:=ac.len;simp only[↓bG,aQ,CC,fy,aE,↓ai,↓ah];intro p2 mK;refine dB (λτ G'=>∃(a1 a2 a3 a4 a5 a6 a7 a8:@aD),τ=[@al,some (enc ns),some (.fZ (aK HS)),some (.dF ((jN ns).map (tD @ai))),a1,a2,a3,a4,a5,a6,some (.kF (fW A)),a7,a8,some (.ref p2)]/\@H/\G' p2=some (.se (fW (iq A)))) ?_ ?_
   .intro N hN;simp![cq,ye,ak];show qt _ _ _ ((fW A).map _) _ _ _ _;have em:((fW A).map λp=>lb p.1)=A.map λp=>lb p.1:=by unfold fW;rw[bw];rfl
    rw[em];refine cj (xs:=A) (f:=λp=>lb p.1) (λpre τ G'=>∃(a1 a2 a3 a4 a5 a6 a7 a8:@aD),τ=[@al,some (enc ns),some (.fZ (aK HS)),some (.dF ((jN ns).map (tD @ai))),a1,a2,a3,a4,a5,a6,some (.kF (fW A)),a7,a8,some (.ref p2)]/\@H/\G' p2=some (.se (fW (iq pre))))
     ⟨_,_,_,_,_,_,_,_,rfl,.new mK,av⟩ @aj ?_ ?_
    .rintro pre x post τ G1 N2 e ⟨c1,c2,c3,c4,c5,c6,c7,c8,rfl,le,gp⟩ jk;have qA:pre.length<A.length:=@aF
     have hkl:(iq pre).length<=pre.length:=fc _ _;have hx:bL A x.1=some x.2:=by
      have nd:=ac.xI.1;exact nM nd (@aF)
     simp only[aE,ah,ai];simp![fT,aN,ak,hX,aQ,bZ,dj];refine Ea hx ?_;intro p5 f5;have h5:p2≠p5:=λz=>by rw[<-z,gp] at f5;cases f5
     have gp5:(di G1 p5 (.eG [])) p2=_:=(bO h5).trans gp;have le5:=le.trans (dH.new (o:=.eG []) f5);refine Or.inr ⟨x.2,[],rfl,(zR.ref (l:=([]:@aC)) av:_),?_⟩;rw[HA];simp only[if_true];show(if(!x.2.isEmpty)=true then _ else _);by_cases c:x.2.isEmpty=true
     .simp only[c,bg,au,if_false];refine jk _ _ ⟨_,_,_,_,_,_,_,_,rfl,le5,?_⟩;rw[uC,if_pos c];exact gp5
     .have c':x.2.isEmpty=false:=by simpa using c
      simp only[c',cL,if_true];refine Ea hx (cO ?_);unfold tM;simp only[ak,↓ae,↓aa];refine ug gp5 (show _<16777216 by lia) ?_;refine jk _ _ ⟨_,_,_,_,_,_,_,_,rfl,le5.put mK,?_⟩;rw[av,uC,if_neg c,Y.jF (GX ac.xI.1 e)]
    .rintro τ G1 ⟨c1,c2,c3,c4,c5,c6,c7,c8,rfl,le,gp⟩;exact hN _ _ ⟨_,_,_,_,_,_,_,_,rfl,le,gp⟩
   .rintro _ G1 ⟨c1,c2,c3,c4,c5,c6,c7,c8,rfl,le,gp⟩;simp![cb,bZ,ak];refine Bl le mK gp ?_;exact q (iq A) (Vm ac.xI ac.ZC) λH=>by rw[LU,ac.val]
end JC
end K2
end
section
namespace K2
namespace JB
open K2.P K2.J
theorem tP{α β:Type}(f:α->List β):∀{rows:@v} {i:Nat} {r r':α},rows[i]?=some r->((rows.set i r').flatMap f).Perm (f r'++(rows.eraseIdx i).flatMap f)
 |[],_,_,_,h=>by simp at h
 |a::rows,0,r,r',h=>by rw[ah,cZ,OR]
 |a::rows,i+1,r,r',h=>by
  rw[ai,cZ,OS,cZ];refine((tP f (rows:=rows) (i:=i) (r:=r) (@bc)).append_left _).trans ?_;rw[<-c9,<-c9];exact List.perm_append_comm.append_right _
theorem Ko{α β:Type}(f:α->List β){rows:@v}{r:α}(h:rows[i]?=some r):(rows.flatMap f).Perm (f r++(rows.eraseIdx i).flatMap f):=by
 have:=tP f (r':=r) h;have e:rows.set i r=rows:=by
  obtain⟨hi,e⟩:=List.getElem?_eq_some_iff.mp h;rw[<-e];exact S3 hi
 rw[e] at this;exact this
theorem RY{rows:Rows}(h:rows[i]?=some r):(rows.set i r').flatten.Perm (r'++(rows.eraseIdx i).flatten):=by
 have:=tP (λr:@Z=>r) (r':=r') h;simpa[List.flatMap_id'] using this
theorem VB{rows:Rows}(h:rows[i]?=some r):rows.flatten.Perm (r++(rows.eraseIdx i).flatten):=by
 have:=Ko (λr:@Z=>r) h;simpa[List.flatMap_id'] using this
end JB
end K2
end
section
namespace K2
open PySem (Str)
open Enc (enc)
namespace JB
open K2.T
open K2.P (names handOf kl ly L9 pairsOf)
open K2.Y (iP pick jb jd bS eK cN je)
open K2.KS (AL gJ pj)
open K2.SQ (Ew)
def fg:jl:=KS.fg
def oN:gj :=
 (cb (bZ (gO 1 [] (ko @n) (aE 0) none (jJ rN (ao @n aM)))))
theorem pB(ds)(G)(Q)(h:fg ds G Q @j):oN (@j) @N (aY 1 ds) G:=KS.pB ds G Q h
def eE:jl:=KS.eE
def AG:gj :=
 (bz (aQ (bb fg (ao @n aM)) (aE 4))
 (bz (aQ (aN pN @q (aN fx (jJ pR (ao (aN gq @F @p) aM)) @B)) (aE 2))
 (bz (aQ (aN fx (aN fx (zK (aN gq @F @p) fm (nV @q)) @z) (zK (aN gq @F @p) (nV @q) fm)) (eU @F @p))
 (cb (bZ @F)))))
def iw:jl:=λds G Q _=>∃(rs:List (@e)) (i:Nat) (pl:Int) (more:@e),ds=[.dF (rs.map D.dF),@A,.int pl,.dF more]/\(i<rs.length/\rs.length<=1000/\(∀r∈rs,r.length<=500)/\more.length<=100)/\∀(r:@e) (k:Nat),rs[i]?=some r->k<=r.length->(k:Int)=pl % ((r.length:Int)+1)->Q (.dF ((rs.set i (r.take k++more++r.drop k)).map D.dF)) G
theorem BU(ds)(G)(Q)(h:iw ds G Q @j):AG (@j) @N (aY 5 ds) G:=by
 obtain⟨rs,i,pl,more,rfl,⟨hi,hl,hr,hm⟩,q⟩:=h;unfold AG;simp only[ends,aY,aw,aR,aj,ax,aP,aH,aL,bG,aQ,bb,ao,ak,aa,aM,aE,ai,ah,aN,ae,jJ,dC,zK,fm,eU,cb,bZ,jD];refine⟨rs,rfl,hl,λG1 p0 as h1=>?_⟩;obtain⟨r,er⟩:∃r,rs[i]?=some r:=⟨rs[i],aA hi⟩;have hrl:=hr r (fD er);obtain⟨a,ea,ga,ia⟩:=h1.row (i:=i) (r:=r) er;refine nH (IsL.ref h1.gp) ia (rB (IsL.ref ga) ?_);simp only[cJ,fL,gw];refine⟨@f,?_⟩;have c1:0<=pl % ((r.length:Int)+1):=kd _ @c;have c2:pl % ((r.length:Int)+1)<(r.length:Int)+1:=ig _ @c;generalize ec:pl % ((r.length:Int)+1)=c at c1 c2;obtain⟨k,rfl⟩:∃k:Nat,c=(k:Int):=⟨c.toNat,@f⟩;have hk:k<=r.length:=@f
 refine nH (IsL.ref h1.gp) ia (xZ (IsL.ref ga) λp1 f1=>?_);rw[Kv _ _ hk];have l1:=dH.new (o:=.lst (r.take k)) f1;refine Ec (IsL.ref av) (IsL.dF) (by rw[eB];exact Lf @c) λp2 f2=>?_;have l2:=dH.new (o:=.lst (r.take k++more)) f2;have l12:=l1.trans l2;refine nH (IsL.ref (l12 _ _ h1.gp)) ia (xZ (IsL.ref (l12 _ _ ga)) λp3 f3=>?_);rw[BK _ _ hk];have l3:=dH.new (o:=.lst (r.drop k)) f3;refine Ec (IsL.ref (l3 _ _ av)) (IsL.ref av) (by simp only[aB,eB,cP];exact Lf @c) λp4 f4=>?_;have l4:=dH.new (o:=.lst (r.take k++more++r.drop k)) f4;have h4:=h1.ext ((l12.trans l3).trans l4);have hn:∀o,G1 p4≠@g:=λo z=>by
  have:=(l12.trans l3) _ _ z;rw[f4] at this;cases this
 have n4:p4∉as:=λz=>by
  obtain⟨j,hj⟩:=pG z;have hjl:j<rs.length:=by rw[<-h1.len];exact(List.getElem?_eq_some_iff.mp hj).1
  exact hn _ (h1.at' j p4 _ hj (aA hjl))
 have n0:p4≠p0:=λz=>hn _ (by rw[z];exact h1.gp);have hf4:G p4=none:=by
  cases e:G p4 with
  |none=>rfl
  |some o=>exact absurd (h1.le _ _ e) (hn o)
 have hj:i<as.length:=(List.getElem?_eq_some_iff.mp ea).1;have h5:=h4.PI (r':=r.take k++more++r.drop k) hj av n4 hf4 n0;unfold Ay;simp only[h4.gp];have ei:J4 (as.map D.ref).length (i:Int)=some i:=by
  unfold J4;rw[if_pos @c,if_pos (by rw[ar];lia)];simp
 simp only[ei];have es:(as.map D.ref).set i (.ref p4)=(as.set i p4).map D.ref:=by rw[List.map_set]
 rw[es];refine h5.fz ?_;exact q r k er hk ec.symm
theorem AN{α:Type} [@U] [Enc α]{G:Gp}{Q:DK}{rows:List (@v)}{i:Nat}{pl:Int}{more:@v}(h:i<rows.length/\rows.length<=1000/\(∀r∈rows,r.length<=500)/\more.length<=100)
  (q:∀(r:@v) (k:Nat),rows[i]?=some r->k<=r.length->(k:Int)=pl % ((r.length:Int)+1)->Q (enc (rows.set i (r.take k++more++r.drop k))) G):iw [enc rows,@A,.int pl,enc more] G Q @j:=by
 refine⟨rows.map λr=>r.map enc,i,pl,more.map enc,by rw[gJ];rfl,⟨by rw[ar];exact h.1,by rw[ar];exact h.2.1,λr hr=>?_,by rw[ar];exact h.2.2.2⟩,λr k hr hk e=>?_⟩
 .obtain⟨r',Yt,rfl⟩:=List.mem_map.mp hr;rw[ar];exact h.2.2.1 r' Yt
 .rw[bx] at hr;obtain⟨r',Yt,rfl⟩:=Option.map_eq_some_iff.mp hr;rw[ar] at hk e;have:=q r' k Yt hk e;rw[gJ,List.map_set,aU,aU,List.map_take,List.map_drop] at this;exact this
theorem Dr.two(d:Dr rows)(hm:∀p∈rows.flatten,p.a≠m)(hh:h=1\/h=-1)(hp:R.flatten.Perm (⟨m,1,h⟩::⟨m,0,h⟩::rows.flatten))(EF:rows.flatten.length<=22)(str:R.length<=3):Dr R:=by
 have mem:∀p,p∈R.flatten↔p=⟨m,1,h⟩\/p=⟨m,0,h⟩\/p∈rows.flatten:=λp=>by rw[hp.mem_iff,bA,bA]
 refine⟨?_,λp h1=>?_,λp h1=>?_,λp h1=>?_,?_,str⟩
 .refine(hp.map T3.s).nodup_iff.mpr ?_;rw[aw,aw,aW,aW];have out:∀w:Int,(⟨m,w⟩:T2)∉rows.flatten.map T3.s:=λw z=>by
   obtain⟨p,uF,e⟩:=List.mem_map.mp z;injection e with e1 _
   exact hm p uF e1
  refine⟨λz=>?_,out 0,d.nd⟩;rcases List.mem_cons.mp z with z |z
  .injection z with _ z2;cases z2
  .exact out 1 z
 .rcases(mem p).mp h1 with rfl |rfl |h1
  .exact .inr rfl
  .exact @W
  .exact d.way p h1
 .rcases(mem p).mp h1 with rfl |rfl |h1
  .exact hh
  .exact hh
  .exact d.hand p h1
 .rcases(mem p).mp h1 with rfl |rfl |h1
  .exact(mem _).mpr (.inr (@W))
  .exact(mem _).mpr (@W)
  .exact(mem _).mpr (.inr (.inr (d.NA p h1)))
 .rw[hp.length_eq,aj,aj];lia
theorem Dr.nil(h:S<=3):Dr (aP S []):=by
 have e:(aP S ([]:@Z)).flatten=[]:=by
  rw[List.flatten_eq_nil_iff];intro l hl;exact(List.mem_replicate.mp hl).2
 refine⟨by rw[e];exact bR,λp hp=>?_,λp hp=>?_,λp hp=>?_,@aF,@bc⟩<;>rw[e] at hp<;>cases hp
theorem nP{rows:Rows}(hr:rows[i]?=some r):(rows.set i (r.take k++more++r.drop k)).flatten.Perm (more++rows.flatten):=by
 refine(RY hr).trans ?_;refine TF ?_ ((VB hr).symm.append_left _);rw[<-c9];refine List.Perm.append_right _ ?_
 conv=>rhs;rw[<-oq k r]
 rw[<-c9];exact List.perm_append_comm.append_right _
def afd(rows:Rows)(ns:@u):Prop:=∀p∈rows.flatten,p.a∈ns
def e7:jl:=λds G Q _=>∃(d:D) (cells:@u) (S:Nat) (sp:Int),ds=[d,.int S,.int sp]/\IsL G d (cells.map D.int)/\(cells.length<=12/\(1<=S/\S<=3)/\1<=sp/\sp<=999) /\
 ∀rows:Rows,Dr rows->rows.length=S->rows.flatten.length=2*cells.length->Q (enc rows) G
end JB
namespace JE
open K2.P K2.J K2.JB
open K2.Y (Po iP pick jb jd bS eK cN je)
open K2.KS (AL gJ pj)
open K2.SQ (Ew)
def Dg(f s:Int):Prop:=0<=f/\f<s
def Zi:@u->@u->Prop
 |[],[]=>True
 |f::fs,s::ss=>Dg f s/\Zi fs ss
 |_,_=>False
noncomputable def prim:@u:=[10007,10009,10037,10039,10061,10067,10069,10079,10091,10093]
def vb:gj :=
 (bz (aQ (fA (ao (dC (.int 10007)) (ao (dC (.int 10009)) (ao (dC (.int 10037)) (ao (dC (.int 10039)) (ao (dC (.int 10061)) (ao (dC (.int 10067)) (ao (dC (.int 10069)) (ao (dC (.int 10079)) (ao (dC (.int 10091)) (ao (dC (.int 10093)) aM))))))))))) (aE 2))
 (bz (aQ (aN ve @n @ac) (aE 3))
 (bz (aQ (fA aM) (aE 4))
 (bz (cq (Hh @p) (hV (cY (aE 5) (cY (aE 6) hW))) (fT (gy (aN (Cq false) (aN pN @n @ac) @L)) (bz (iO (oY IJ ka @F (ao (aN pN @z (ak 6)) aM)))
 (aQ (aN ve @z (ak 6)) (aE 3))) (iO (oY IJ ka @F (ao (bb cN (ao @n (ao (aN gq @q (ak 5)) (ao (ak 6) aM)))) aM)))))
 (cb (bZ @F))))))
def iU:jl:=λds G Q _=>∃(cell:Int) (we:@u),ds=[.int cell,enc we]/\(we.length<=10/\∀s∈we,1<=s/\s<=10000)/\∀fs:@u,Zi fs we->Q (enc fs) G
theorem EG:∀{fs ss:@u} {f s:Int},Zi fs ss->Dg f s->Zi (fs++[f]) (ss++[s])
 |[],[],_,_,_,k=>⟨k,trivial⟩
 |_::_,[],_,_,h,_=>h.elim
 |[],_::_,_,_,h,_=>h.elim
 |_::_,_::_,_,_,h,k=>⟨h.1,EG h.2 k⟩
theorem Kq:∀{fs ss:@u},Zi fs ss->fs.length=ss.length
 |[],[],_=>rfl
 |_::_,[],h=>h.elim
 |[],_::_,h=>h.elim
 |_::_,_::_,h=>by rw[aj,aj,Kq h.2]
theorem R4(xs:@u):nR 0 (xs.map enc)=(xs.zipIdx 0).map λp=>D.tup [.int (p.2:Int),.int p.1]:=by
 have:∀(xs:@u) (k:Nat),nR k (xs.map enc)=(xs.zipIdx k).map λp=>D.tup [.int (p.2:Int),.int p.1]:=by
  intro xs;induction xs with
  |nil=>intro k;rfl
  |cons x xs ih=>
   intro k;show D.tup [.int (k:Int),.int x]::nR (k+1) (xs.map enc)=_;rw[ih (k+1)];rfl
 exact this xs 0
theorem vk(ds)(G)(Q)(h:iU ds G Q @j):vb (@j) @N (aY 7 ds) G:=by
 obtain⟨cell,we,rfl,⟨hl,hs⟩,q⟩:=h;unfold vb;simp only[↓bG,aQ,fA,ao,dC,aM,↓aj,↓ax,aE,aN,ak,aY,↓aw,↓aR,aP,↓aH,↓aL,↓ai,↓ah,↓aa,↓gY,ends];refine⟨@d,λp2 f2=>⟨@d,@d,@d,λp4 f4=>?_⟩⟩;have n24:p2≠p4:=λz=>by rw[<-z,av] at f4;cases f4
 have f4':G p4=none:=(dH.new f2).free f4;refine dB (λτ G'=>∃fs:@u,Zi fs we/\@H/\G' p4=some (.lst (fs.map enc))/\∃a3 a5 a6,τ=[some (.int cell),some (enc we),some (.ref p2),a3,some (.ref p4),a5,a6]) ?_ ?_
 .intro N hN;simp![cq,Hh,ak];refine Hg ?_;rw[R4];refine cj (xs:=we.zipIdx 0) (λpre τ G'=>∃(fs:@u) (left:Int) (a5 a6:@aD),Zi fs (pre.map @k)/\@H/\G' p2=some (.lst (prim.map D.int))/\G' p4=some (.lst (fs.map enc))/\τ=[some (.int cell),some (enc we),some (.ref p2),some (.int left),some (.ref p4),a5,a6])
   ⟨[],_,_,_,trivial,(dH.new f2).trans (.new f4),by rw[bO n24,av];rfl,av,rfl⟩ @aj ?_ ?_
  .rintro pre x post τ G' N2 e ⟨fs,left,a5,a6,fa,le,g2,g4,rfl⟩ jk;obtain⟨lf,rt,e1,e2,e3⟩:=DW e;have hx:1<=x.1/\x.1<=10000:=hs x.1 (by rw[e1];simp);have Hl:lf.length<10:=by have:=congrArg cU e1;simp at this;lia
   simp![hV,cY,aE,hW,fT,aN,ak,dC,iO,oY,ao,aM,aQ,bb];refine⟨@d,_,_,@P,@P,?_⟩;simp![kr];by_cases c:cell % 2=0
   .have c':(cell % 2 == 0)=true:=by simpa using c
    simp![c',g4];refine⟨@f,by rw[ar];exact FX (by have:=Kq fa;rw[this,e3,ar,List.length_zipIdx];lia),@f,@f,?_⟩;refine jk _ _ ⟨fs++[left % x.1],_,_,_,by rw[aU];exact EG fa ⟨kd _ @c,ig _ @c⟩,le.put f4',by rw[bO n24];exact g2,by rw[av,aU];rfl,rfl⟩
   .have c':(cell % 2 == 0)=false:=by simpa using c
    simp![c',g4];rw[D9,g2];have ea:∃pr:Int,rD (prim.map D.int) (x.2:Int)=some (.int pr)/\1<=pr/\pr<=10093:=by
     have hk:x.2<prim.length:=by rw[e2];exact Hl
     refine⟨prim[x.2],?_,?_⟩
     .rw[rC _ @c (by rw[ar];lia)];simp only[ff,gm]
     .have:∀y∈prim,1<=y/\y<=10093:=@d
      exact this _ (eW hk)
    obtain⟨pr,ea,B9,pr2⟩:=ea;simp only[ea];refine⟨_,_,_,rfl,⟨@f,@f⟩,?_⟩;simp only[g4];refine⟨by rw[ar];exact FX (by have:=Kq fa;rw[this,e3,ar,List.length_zipIdx];lia),?_⟩;refine jk _ _ ⟨fs++[pick cell pr x.1],_,_,_,by rw[aU];exact EG fa ⟨jb _ _ @c,jd _ _ @c⟩,le.put f4',by rw[bO n24];exact g2,by rw[av,aU];rfl,rfl⟩
  .rintro τ G' ⟨fs,left,a5,a6,fa,le,g2,g4,rfl⟩;rw[List.zipIdx_map_fst] at fa;exact hN _ _ ⟨fs,fa,le,g4,_,_,_,rfl⟩
 .rintro _ G' ⟨fs,fa,le,g4,a3,a5,a6,rfl⟩;simp![cb,bZ,ak];exact kU le f4' g4 (q fs fa)
section
variable (a b c d e f:D)
theorem x0:rD [a,b,c,d,e,f] 0=some a:=rfl
theorem x1:rD [a,b,c,d,e,f] 1=some b:=rfl
theorem x2:rD [a,b,c,d,e,f] (2+2*0)=some c:=rfl
theorem x3:rD [a,b,c,d,e,f] (3+2*0)=@O:=rfl
theorem x4:rD [a,b,c,d,e,f] (2+2*1)=some e:=rfl
theorem x5:rD [a,b,c,d,e,f] (3+2*1)=some f:=rfl
end
def kQ:gj :=
 (bz (BJ 3 (aQ (gO 1 [] (qm @p) (aE 0) none (fA aM)) (aE 3)))
 (bz (aQ (fA aM) (aE 4))
 (bz (cq (ko @n) (aE 5) (bz (aQ (bb iU (ao (bZ (ak 5)) (ao (bZ (fA (ao @q (ao @ac (ao @p (ao (dC (.int 10000)) (ao @p (ao (dC (.int 10000)) aM)))))))) aM))) (aE 6))
 (bz (aQ (bb eE (ao @F (ao (aN fx @B (aN gq (ak 6) @L)) aM))) (aE 7))
 (bz (iO (oY IJ ka @F (ao (ak 7) aM)))
 (cq (qm @ac) (aE 8) (aQ (bZ (bb iw (ao (bZ @z) (ao (bZ (aN gq (ak 6) (aN fx @ac (aN wB @ac (ak 8))))) (ao (bZ (aN gq (ak 6) (aN fx (dC (.int 3)) (aN wB @ac (ak 8))))) (ao (bZ (fA (ao (eM (ao (ak 7) (ao (ak 8) (ao (aN D8 @B (aN wB @ac (aN gq (ak 6) @B))) aM)))) aM))) aM)))))) (aE 3)))))))
 (cb (bZ @z)))))
def e7:jl:=JB.e7
theorem oj(ds)(G)(Q)(h:e7 ds G Q @j):kQ (@j) @N (aY 9 ds) G:=by
 obtain⟨d,cells,S,sp,rfl,hd,⟨RI,⟨hS1,hS3⟩,sp1,sp2⟩,q⟩:=h;unfold kQ;simp only[ends,aY,aw,aR,aj,ax,aP,aH,aL,kN,pj,aQ,gO,aE,ai,ah,ae,aa,fA,aM,jB,ak,gX,ff];have aaO:(-(2 ^ 62):Int)<=(S:Int)/\(S:Int)<2 ^ 62:=@f
 refine⟨aaO.1,aaO.2,Lf (by simp[gC];lia),?_⟩;refine VJ (λpre acc τ G'=>(∃a,τ=[a])/\∃as:List Nat,acc=as.map D.ref/\AL G G' as (aP pre.length [])) ⟨@I,[],rfl,.nil G⟩ (λ_ _ _ _ _=>trivial) ?_ ?_
 .rintro pre x post acc τ G' N e ⟨⟨a,rfl⟩,as,rfl,al⟩ hN;simp only[aE,fA,aM,ax,ah];refine⟨@d,λp hp=>hN _ _ _ ⟨@I,as++[p],@G,?_⟩⟩;rw[aB,bU,List.replicate_succ'];exact al.push hp []
 rintro acc τ G' ⟨⟨a,rfl⟩,as,rfl,al⟩ p3 f3;refine(al.top f3).fz ?_;have e3:D.dF ((aP (gC 0 S).length ([]:@e)).map D.dF)=enc (aP S ([]:@Z)):=by
  rw[gJ];simp[gC]
 rw[e3];clear al f3 p3 as G' a e3;refine⟨@d,λp6 f6=>?_⟩;simp only[cq];simp only[dW,ak,aa];refine Ew hd (.new f6) λok bP=>?_;refine cj (xs:=cells) (f:=D.int) (λpre τ G'=>@H/\∃(rows:Rows) (ns:@u) (a1 a2 a3 a4:@aD),(Dr rows/\rows.length=S/\rows.flatten.length=2*pre.length/\ns.length=pre.length/\afd rows ns)/\G' p6=some (.lst (@aQ)) /\
  τ=[@O,some (.int S),some (.int sp),@al,some (.ref p6),a1,a2,a3,a4]) ⟨.new f6,_,[],_,_,_,_,⟨Dr.nil hS3,@G,@G,rfl,λp hp=>by simp at hp⟩,av,rfl⟩ (λ_ _ _ h=>bP _ h.1) ?_ ?_
 .rintro pre x post τ G' N2 e ⟨le,rows,ns,a1,a2,a3,a4,⟨dr,hlen,Vv,hcs,hnm⟩,g6',rfl⟩ jk;have hlp:=je e;simp only[aE,ai,ah,kN,aQ,bb,ao,bZ,ak,ae,aa,fA,dC,aM,aj,ax,aN,iO,oY,kL,gi];refine cO ⟨@d,λp7 f7=>?_⟩;refine kU (xs:=([sp,2,(S:Int),10000,(S:Int),10000]:@u)) (.new f7) f7 av ?_;refine⟨_,_,rfl,⟨@G,λs hs=>by simp only[bA,bN,or_false] at hs;lia⟩,λfs fa=>?_⟩
  match fs,fa with
  |[d0,d1,d2,d3,d4,d5],⟨⟨a0,b0⟩,⟨a1',b1⟩,⟨a2',b2⟩,⟨a3',b3⟩,⟨a4',b4⟩,⟨a5',b5⟩,_⟩=>
  have e6:(enc [d0,d1,d2,d3,d4,d5]:D)=.dF [.int d0,.int d1,.int d2,.int d3,.int d4,.int d5]:=rfl;rw[e6];simp only[jz,x0,cJ];refine⟨.ref p6,ns,_,rfl,IsL.ref g6',⟨@f,@f,@f⟩,λm m1 m2 m3=>?_⟩;simp only[g6',true_and];refine⟨FX (by rw[ar];lia),?_⟩;have Cs:dH G (di G' p6 (.lst (@aQ++[.int m]))):=le.put f6;have g62:(di G' p6 (.lst (@aQ++[.int m]))) p6=some (.lst (@aQ++[.int m])):=av;generalize di G' p6 (.lst (@aQ++[.int m]))=G2 at Cs g62;have hh:(1-2*d1)=1\/(1-2*d1)=-1:=@f
  simp only[cq];simp only[jB,dC,gX];refine⟨@d,@d,?_⟩;have er:gC 0 (Int.toNat 2)=([0,1]:@u).map D.int:=rfl;rw[er];have rl:=Jz dr;have fw:=dr.EF;obtain⟨i,rfl⟩:∃i:Nat,d2=(i:Int):=⟨d2.toNat,@f⟩;obtain⟨j,rfl⟩:∃i:Nat,d4=(i:Int):=⟨d4.toNat,@f⟩;have hmf:∀p∈rows.flatten,p.a≠m:=λp hp z=>m1 (z ▸ hnm p hp);refine cj (xs:=([0,1]:@u)) (f:=D.int) (λrT τ G3=>G2=G3/\∃(R:Rows) (b1:@aD),((rT=[]/\R=rows)\/(∃(i:Nat) (r:@Z) (k:Nat),rT=[0]/\i<S/\rows[i]?=some r/\R=rows.set i (r.take k++[⟨m,0,1-2*d1⟩]++r.drop k))\/(rT=[0,1]/\Dr R/\R.length=S/\R.flatten.Perm (⟨m,1,1-2*d1⟩::⟨m,0,1-2*d1⟩::rows.flatten))) /\
   τ=[@O,some (.int S),some (.int sp),some (enc R),some (.ref p6),some (.int x),some (.dF [.int d0,.int d1,@A,.int d3,.int j,.int d5]),some (.int m),b1]) ⟨rfl,rows,_,.inl @aS,rfl⟩ @aj ?_ ?_
  .rintro rT w PZ τ G3 N3 e2 ⟨rfl,R,b1,J,rfl⟩ Bk;have Y7:(rT=[]/\w=0)\/(rT=[0]/\w=1):=by
    cases rT with
    |nil=>cases e2;exact .inl @aS
    | cons u rT=>
     cases rT with
     |nil=>cases e2;exact .inr @aS
     |cons v rT=>
      have:=congrArg cU e2;simp at this
   rcases Y7 with ⟨rfl,rfl⟩ |⟨rfl,rfl⟩
   .have eR:R=rows:=by
     rcases J with ⟨_,z⟩ |⟨_,_,_,z,_⟩ |⟨z,_⟩
     .exact z
     .cases z
     .cases z
    subst eR;simp only[aE,aQ,bZ,bb,ao,ak,ai,ah,ae,aa,aN,dC,fA,eM,aM,aj,ax,jz,x1,jy,j3,cJ,x3,x2];refine cO ⟨.inl ⟨@d,@d⟩,cO ⟨.inl ⟨@d,@d⟩,cO ?_⟩⟩;refine⟨.inl ⟨@d,@d⟩,@d,@d,λpa fa=>?_⟩;refine kU (xs:=[(⟨m,0,1-2*d1⟩:T3)]) (.new fa) fa av ?_;refine AN (rows:=R) (more:=[(⟨m,0,1-2*d1⟩:T3)]) ⟨by rw[hlen];lia,by rw[hlen];lia,λr hr=>by have:=rl r hr;lia,@G⟩ λr k hr hk ek=>cO ?_;exact Bk _ _ ⟨rfl,_,_,.inr (.inl ⟨i,r,k,rfl,@f,hr,rfl⟩),rfl⟩
   .obtain⟨i',r,k,hi,hr,rfl⟩:∃(i:Nat) (r:@Z) (k:Nat),i<S/\rows[i]?=some r/\R=rows.set i (r.take k++[⟨m,0,1-2*d1⟩]++r.drop k):=by
     rcases J with ⟨z,_⟩ |⟨i,r,k,_,z⟩ |⟨z,_⟩
     .cases z
     .exact⟨i,r,k,z⟩
     .cases z
    simp only[aE,aQ,bZ,bb,ao,ak,ai,ah,ae,aa,aN,dC,fA,eM,aM,aj,ax,jz,x1,jy,j3,cJ,x5,x4];refine cO ⟨.inl ⟨@d,@d⟩,cO ⟨.inl ⟨@d,@d⟩,cO ?_⟩⟩;refine⟨.inl ⟨@d,@d⟩,@d,@d,λpa fa=>?_⟩;refine kU (xs:=[(⟨m,1,1-2*d1⟩:T3)]) (.new fa) fa av ?_;refine AN (more:=[(⟨m,1,1-2*d1⟩:T3)]) ⟨by rw[bX,hlen];lia,by rw[bX,hlen];lia,λr2 hr2=>?_,@G⟩ λr' k' Yt hk' ek'=>cO ?_
    .rcases r8 hr2 with z |z
     .have:=rl r2 z;lia
     .have:=rl r (fD hr);rw[z,aB,aB,bU,eB,cP];lia
    have pf:=(nP (k:=k') (more:=[⟨m,1,1-2*d1⟩]) Yt).trans ((nP (k:=k) (more:=[⟨m,0,1-2*d1⟩]) hr).append_left _);have dr2:=K2.JB.Dr.two dr hmf hh pf @c (by rw[bX,bX];lia);exact Bk _ _ ⟨rfl,_,_,.inr (.inr ⟨rfl,dr2,by rw[bX,bX];exact hlen,pf⟩),rfl⟩
  .rintro τ G3 ⟨rfl,R,b1,J,rfl⟩;obtain⟨drn,ln,pf⟩:Dr R/\R.length=S/\R.flatten.Perm (⟨m,1,1-2*d1⟩::⟨m,0,1-2*d1⟩::rows.flatten):=by
    rcases J with ⟨z,_⟩ |⟨_,_,_,z,_⟩ |⟨_,z⟩
    .cases z
    .cases z
    .exact z
   refine jk _ _ ⟨Cs,R,ns++[m],_,_,_,_,⟨drn,ln,by rw[pf.length_eq,aj,aj,aB,bU];lia,by rw[aB,aB,hcs];rfl,λp hp=>?_⟩,?_,rfl⟩
   .rcases List.mem_cons.mp (pf.mem_iff.mp hp) with rfl |hp
    .simp
    .rcases List.mem_cons.mp hp with rfl |hp
     .simp
     .exact dI _ (hnm p hp)
   .rw[g62,aU];rfl
 .rintro τ G' ⟨le,rows,ns,a1,a2,a3,a4,⟨dr,hlen,Vv,hcs,hnm⟩,g6',rfl⟩;simp only[cb,bZ,ak,ae,aa];exact qX le (q rows dr hlen Vv)
end JE
namespace OB
open K2.P K2.T
open K2.Tq (Nc Kx)
open K2.KS (pj gJ fg)
open K2.Y
open K2.SQ (i8 lS vH xa)
variable {rows:Rows}
theorem RH:∀(L:@Z) (l:@aC),(@ar).Nodup->((L.foldl (λl p=>du l p.a p.c) l).map @k).Nodup
 |[],l,h=>h
 |p::L,l,h=>RH L _ (ND.put h _ _)
theorem kn{l:@aC}:n∈@ar↔(bL l n).isSome=true:=by
 unfold bL;rw[eY,ub];constructor
 .intro h;obtain⟨p,hp,e⟩:=List.mem_map.mp h;exact⟨p,hp,by simp[e]⟩
 .rintro⟨p,hp,e⟩;have e:p.1=n:=@bl
  rw[<-e];exact bE hp
theorem Bi(d:Dr rows)(nn:(@aB).Nodup):((@aT).map @k).Perm (@aB):=by
 have knd:((@aT).map @k).Nodup:=RH rows.flatten [] bR;rw[Jh knd nn];intro n;constructor
 .intro h;have h:=kn.mp h;unfold i8 at h;rw[xa] at h;cases e:(rows.flatten.reverse.find? λp=>decide (p.a=n)) with
  |none=>rw[e] at h;exact ba (show false=true from h)
  |some p=>
   have h1:=List.mem_reverse.mp (fU e);have h2:p.a=n:=by have:=l0 e;ext f
   rw[ly];rcases d.way p h1 with h0 |h0
   .exact⟨p,h1,h0,h2⟩
   .exact⟨_,d.NA p h1,by show 1-p.b=0;lia,h2⟩
 .intro h;exact kn.mpr (by rw[vH d h];rfl)
end OB
namespace JC
open K2.P K2.J K2.T
open K2.JB (nP iw AN Jz)
open K2.Y (iP pick jb jd bS cN)
open K2.JE (iU)
open K2.SQ (i8 vH lS)
open K2.KS (fit yj Hz Gm gJ)
open K2.OB (Bi kn)
variable {rows:Rows}
section
open K2.JB (eE)
def kQ:gj :=
 (bz (BJ 3 (aQ (gO 1 [] (qm @p) (aE 0) none (fA aM)) (aE 3)))
 (bz (aQ (fA aM) (aE 4))
 (bz (cq (ko @n) (aE 5) (bz (aQ (bb iU (ao (bZ (ak 5)) (ao (bZ (fA (ao @q (ao @ac (ao @p (ao (dC (.int 10000)) (ao @p (ao (dC (.int 10000)) aM)))))))) aM))) (aE 6))
 (bz (aQ (bb eE (ao @F (ao (aN fx @B (aN gq (ak 6) @L)) aM))) (aE 7))
 (bz (iO (oY IJ ka @F (ao (ak 7) aM)))
 (cq (qm @ac) (aE 8) (aQ (bZ (bb iw (ao (bZ @z) (ao (bZ (aN gq (ak 6) (aN fx @ac (aN wB @ac (ak 8))))) (ao (bZ (aN gq (ak 6) (aN fx (dC (.int 3)) (aN wB @ac (ak 8))))) (ao (bZ (fA (ao (eM (ao (ak 7) (ao (ak 8) (ao (aN D8 @B (aN wB @ac (aN gq (ak 6) @B))) aM)))) aM))) aM)))))) (aE 3)))))))
 (cb (bZ @z)))))
def e7:jl:=JB.e7
theorem oj(ds)(G)(Q)(h:e7 ds G Q @j):kQ (@j) @N (aY 9 ds) G:=JE.oj ds G Q h
end
def Nms(G:Gp)(d:D)(ns:@u):Prop:=IsL G d (@aQ)\/∃(a:Nat) (l:@aC),d=@S/\G a=some (.eG (aK l))/\ns=@ar
theorem QE{G:Gp}{d:D}{ns:@u}{i:Int}{Q:DK}(h:Nms G d ns)(k:Q (.bl (decide (i∈ns))) G):Cp false (@A) d G Q:=by
 rcases h with h |⟨a,l,rfl,g,rfl⟩
 .exact Gm h k
 .unfold Cp;simp only[g];refine⟨gN l i,?_⟩;have e:(look (aK l) (@A)).isSome=decide (i∈@ar):=by
   rw[show D.int i=enc i from rfl,kS,eY];rw[Bool.eq_iff_iff,decide_eq_true_iff,kn]
  simp only[au,if_false];rw[e];exact k
def yM:gj :=
 (bz (BH (gy (aN (Cp false) @p @n)) (aQ (aN fx (aN pN @p (dC (.int 999))) @B) (aE 1)))
 (cb (bZ @p)))
def eE:jl:=λds G Q _=>∃(d:D) (ns:@u) (n:Int),ds=[d,.int n]/\Nms G d ns/\(ns.length<=500/\1<=n/\n<=999)/\∀m:Int,m∉ns->1<=m->m<=999->Q (.int m) G
theorem W3:∀ds G Q E,JB.eE ds G Q E->eE ds G Q E:=by
 rintro ds G Q E ⟨d,ns,n,e,h,r⟩;exact⟨d,ns,n,e,.inl h,r⟩
theorem Iw(ds)(G)(Q)(h:eE ds G Q @j):yM (@j) @N (aY 2 ds) G:=by
 obtain⟨d,ns,n,rfl,hd,⟨hl,h1,h2⟩,q⟩:=h;unfold yM;refine dB (λτ G'=>G=G'/\∃m:Int,(m∉ns/\1<=m/\m<=999)/\τ=[@O,some (.int m)]) ?_ ?_
 .intro N hN;obtain⟨k,hk,rJ⟩:=Hz h1 h2 hl;have main:∀(j:Nat),j<=k->vZ (gy (aN (Cp false) @p @n)) (aQ (aN fx (aN pN @p (dC (.int 999))) @B) (aE 1)) (j+1) (@j) {ends Q with nx:=N} [@O,some (.int (fit n (k-j)))] G:=by
   intro j;induction j with
   |zero=>
    intro _;show vZ _ _ (0+1) _ _ _ _;rw[vZ];simp![aN,ak,aQ,dC,aE,ends];refine QE hd ?_;simp![Nat.sub_zero,rJ,decide_false];have:=yj h1 h2 k;exact hN _ _ ⟨rfl,_,⟨rJ,@f,@f⟩,rfl⟩
   | succ j ih=>
    intro hj;rw[vZ];simp![aN,ak,aQ,dC,aE,ends];refine QE hd ?_;have hb:=yj h1 h2 (k-(j+1));by_cases hm:fit n (k-(j+1))∈ns
    .simp![hm,decide_true];refine⟨@d,?_⟩;have e:fit n (k-(j+1)) % 999+1=fit n (k-j):=by
      rw[show k-j=(k-(j+1))+1 by lia];rfl
     rw[e];exact ih @c
    .simp![hm,decide_false];exact hN _ _ ⟨rfl,_,⟨hm,@f,@f⟩,rfl⟩
  have:=main k @D;rw[Nat.sub_self] at this;exact⟨k+1,this⟩
 .rintro _ _ ⟨rfl,m,⟨m1,m2,m3⟩,rfl⟩;simp![cb,bZ,ak,ends];exact cO (q m m1 m2 m3)
theorem YD{L:@Z}:∀(l:@aC) {p:T3},p∈L\/(bL l p.a).isSome=true->(bL (L.foldl (λl p=>du l p.a p.c) l) p.a).isSome=true:=by
 intro l p h;rw[SQ.xa];cases e:L.reverse.find? λq=>decide (q.a=p.a) with
 |some q=>rfl
 |none=>
  rcases h with h |h
  .exact absurd (@G:decide (p.a=p.a)=true) (by have:=List.find?_eq_none.mp e p (@bc);ext f)
  .simpa using h
theorem Bj(h:m∉(@aT).map @k):∀p∈rows.flatten,p.a≠m:=λp hp z=>h (by
 rw[kn,<-z];exact YD [] (.inl hp))
def yL:gj :=
 (bz (aQ (fA (ao (bb eE (ao (bb iB (ao (bZ @n) aM)) (ao (aN fx @B (bb cN (ao @p (ao (dC (.int 10007)) (ao (dC (.int 999)) aM))))) aM))) aM)) (aE 3))
 (bz (iO (oY IJ ka @z (ao (bb eE (ao (aN fx (jJ pQ (ao (bb iB (ao (bZ @n) aM)) aM)) @z) (ao (aN fx @B (bb cN (ao @p (ao (dC (.int 10091)) (ao (dC (.int 999)) aM))))) aM))) aM)))
 (bz (aQ (aN D8 @B (aN wB @ac (aN pN @q @ac))) (aE 4))
 (bz (aQ (fA (ao (eM (ao (aN gq @z @L) (ao @L (ao @F aM)))) (ao (eM (ao (aN gq @z @B) (ao @L (ao (ES zj @F) aM)))) aM))) (aE 5))
 (bz (aQ (fA (ao (eM (ao (aN gq @z @L) (ao @B (ao @F aM)))) (ao (eM (ao (aN gq @z @B) (ao @B (ao (ES zj @F) aM)))) aM))) (aE 6))
 (bz (fT (gy (aN (Cq false) (aN pN (aN ve @q @ac) @ac) @B)) (aQ (HJ (ak 6)) (aE 6)) dj)
 (bz (aQ (bZ (bb iw (ao (bZ @n) (ao (bZ (bb cN (ao @p (ao (dC (.int 10061)) (ao (jJ pR (ao @n aM)) aM))))) (ao (bZ (bb cN (ao @p (ao (dC (.int 10039)) (ao (dC (.int 10000)) aM))))) (ao (bZ (ak 5)) aM)))))) (aE 0))
 (cb (bZ (bb iw (ao (bZ @n) (ao (bZ (bb cN (ao @q (ao (dC (.int 10061)) (ao (jJ pR (ao @n aM)) aM))))) (ao (bZ (bb cN (ao @q (ao (dC (.int 10067)) (ao (dC (.int 10000)) aM))))) (ao (bZ (ak 6)) aM))))))))))))))
def sQ:jl:=λds G Q _=>∃(rows:Rows) (c e:Int),ds=[enc rows,.int c,.int e]/\(Dr rows/\1<=rows.length/\rows.flatten.length<=18)/\∀R:Rows,Dr R->R.length=rows.length->R.flatten.length=rows.flatten.length+4->Q (enc R) G
theorem QH{x:Int}{S:Nat}(h1:0<=x)(h2:x<S):∃i:Nat,x=(i:Int)/\i<S:=⟨x.toNat,@f,@f⟩
theorem DF{R:Rows}{G:Gp}{Q:DK}(q:Q (.int (R.length:Int)) G):pR [enc R] G Q:=by
 rw[gJ,nY,ar,ar];exact q
theorem Iu(ds)(G)(Q)(h:sQ ds G Q @j):yL (@j) @N (aY 7 ds) G:=by
 obtain⟨rows,c,e,rfl,⟨d,hS1,EF⟩,q⟩:=h;have rl:=Jz d;have str:=d.str;have hz:(@aT).length<=rows.flatten.length:=by have:=lS rows.flatten [];rw[ax,Fi] at this;exact this
 unfold yL;simp only[↓bG,aQ,fA,ao,bb,bZ,ak,aY,↓aw,↓aR,↓aj,↓ax,aP,↓aH,↓aL,↓aa,aM,aN,dC,↓ae,aE,↓ny,iO,oY,↓ai,↓ah,↓kL,jJ,↓gi,↓fL,↓jy,↓j3,eM,ES,↓lN,ends];refine cO ⟨rows,rfl,@f,λph fh=>?_⟩;have pk:∀p:Int,1<=1+pick c p 999/\1+pick c p 999<=999:=λp=>⟨by have:=jb c p (m:=999) (@d);lia,by have:=jd c p (m:=999) (@d);lia⟩;refine⟨_,_,_,rfl,⟨@d,@d⟩,?_⟩;simp only[↓cJ];refine⟨_,_,_,rfl,.inr ⟨ph,_,rfl,av,rfl⟩,⟨by rw[ar];lia,pk _⟩,λa a1 a2 a3=>?_⟩;simp only[↓bZ,↓aY,↓ends,↓cD,↓aN,↓ES,↓ak,↓jJ,↓oY,↓ao,↓aM,↓cb,↓HI,↓iO,↓aQ,↓aE,↓dC,↓dj,↓eM,↓fA,↓hX,↓oZ,↓EU,↓IT,↓nW,↓qv,↓xp,↓qu,↓zK,↓jD,↓fm,↓dW,↓jB,↓bb,↓gO,↓cJ,↓qa,↓lO,↓nI,↓j3,↓jy,↓fL,↓gY,↓lN,↓um,↓wC,↓uq,↓wF,↓iM,↓jz,↓ui,↓uj,↓uk,↓nY,↓tX,↓qw,↓gi,↓kC,↓lP,↓iN,↓kL,↓lG,↓v7,↓v5,↓true_and,↓and_true,↓oV,↓oU,↓gw,↓bJ,↓gX,↓ql,↓w4,↓qk,↓aw,↓aR,↓aH,↓aL,↓aa,↓ae,↓ah,↓ai,↓aj,↓ax,↓aP,↓if_true,↓if_false,↓bg,↓cL,↓au,↓bG,↓ny,↓eU,↓i7,↓gx,↓tf,↓lu,↓rM,↓hV,↓cY,↓hW];refine⟨@d,λp3 f3=>?_⟩;simp only[av];have l3:dH G (di (di G ph (.eG (aK (@aT)))) p3 (.lst [.int a])):=(dH.new fh).trans (.new f3);refine⟨trivial,cO ⟨rows,rfl,@f,λph2 fh2=>?_⟩⟩;show pQ [.ref ph2] _ _;unfold pQ;simp only[av];have n32:p3≠ph2:=λz=>by rw[<-z,av] at fh2;cases fh2
 refine⟨by unfold aK;rw[ar];lia,λpl fl=>?_⟩;have n3l:p3≠pl:=λz=>by rw[<-z,bO n32,av] at fl;cases fl
 have g3:(di (di (di (di G ph (.eG (aK (@aT)))) p3 (.lst [.int a])) ph2 (.eG (aK (@aT)))) pl (.lst ((aK (@aT)).map @k))) p3=some (.lst [.int a]):=by
  rw[bO n3l,bO n32,av]
 have l4:=l3.trans ((dH.new fh2 (o:=.eG (aK (@aT)))).trans (dH.new fl (o:=.lst ((aK (@aT)).map @k))));generalize hG4:di (di (di (di G ph (.eG (aK (@aT)))) p3 (.lst [.int a])) ph2 (.eG (aK (@aT)))) pl (.lst ((aK (@aT)).map @k))=G4 at g3 l4;have gl:G4 pl=some (.lst ((aK (@aT)).map @k)):=by rw[<-hG4,av]
 show fx (.ref pl) (.ref p3) _ _;rw[lO];unfold zr;simp only[oQ,gl,g3];refine⟨FX (by unfold aK;rw[ar,ar];lia),λps fs=>?_⟩;refine⟨_,_,_,rfl,⟨@d,@d⟩,?_⟩;simp only[↓cJ];refine⟨_,(@aT).map @k++[a],_,rfl,.inl (IsL.ref (by rw[av];unfold aK;simp only[bw,aU];rfl)),⟨by rw[aB,ar,bU];lia,pk _⟩,λb b1 b2 b3=>?_⟩;have n3s:p3≠ps:=λz=>by rw[<-z,g3] at fs;cases fs
 simp only[bO n3s,g3];have l5:=l4.trans (dH.new fs (o:=.lst ((aK (@aT)).map @k++[.int a])));have fG3:G p3=none:=(dH.new fh).free f3;refine⟨(@d:1<SZ),@d,.inl ⟨@d,@d⟩,?_⟩;generalize hG6:di (di G4 ps (.lst ((aK (@aT)).map @k++[.int a]))) p3 (.lst ([.int a]++[.int b]))=G6;have l6:dH G G6:=by rw[<-hG6];exact l5.put fG3
 have g6:G6 p3=some (.lst [.int a,.int b]):=by rw[<-hG6,av];rfl
 clear hG6 fs gl g3 fl fh2 l4 l5;have ix:∀{G':Gp} {Q:DK},dH G6 G'->Q (.int a) G'->gq (.ref p3) (.int 0) G' Q:=λl q=>nH (IsL.ref (l _ _ g6)) rfl q;have ix1:∀{G':Gp} {Q:DK},dH G6 G'->Q (.int b) G'->gq (.ref p3) (.int 1) G' Q:=λl q=>nH (IsL.ref (l _ _ g6)) rfl q;refine ix (.refl _) ⟨@d,ix1 (.refl _) ⟨@d,@d,λp5 f5=>ix (.new f5) ⟨@d,ix1 (.new f5) ⟨@d,@d,λp6 f6=>?_⟩⟩⟩⟩;obtain⟨hh,eh,hs⟩:∃hh:Int,1-2*(e % 2)=hh/\(hh=1\/hh=-1):=⟨_,rfl,@f⟩;rw[eh] at f6 ⊢;have ab:a≠b:=λz=>b1 (List.mem_append.mpr (.inr (by rw[z];exact .head _)));have fa:=Bj a1;have fb:=Bj λz=>b1 (List.mem_append.mpr (.inl z));have n56:p5≠p6:=λz=>by rw[<-z,av] at f6;cases f6
 have f5':G p5=none:=l6.free f5;have l7:dH G (di (di G6 p5 (.lst [.tup [.int a,.int 0,.int hh],.tup [.int b,.int 0,.int (-hh)]])) p6 (.lst [.tup [.int a,.int 1,.int hh],.tup [.int b,.int 1,.int (-hh)]])):=l6.trans ((dH.new f5).trans (.new f6));have f6':G p6=none:=(l6.trans (.new f5)).free f6;refine dB (λτ G'=>∃(U V:T3) (p7:Nat),p5≠p7/\((U=⟨a,1,hh⟩/\V=⟨b,1,-hh⟩)\/(U=⟨b,1,-hh⟩/\V=⟨a,1,hh⟩))/\G p7=none/\@H/\G' p7=some (.lst ([U,V].map enc))/\G' p5=some (.lst ([(⟨a,0,hh⟩:T3),⟨b,0,-hh⟩].map enc))/\τ=[@al,some (.int c),some (.int e),some (.ref p3),some (.int hh),some (.ref p5),some (.ref p7)]) ?_ ?_
 .intro N hN;simp![fT,aN,ak,dC,aQ,HJ,aE,dj];refine⟨@d,@d,?_⟩;refine⟨@d,_,_,@P,@P,?_⟩;simp![kr];split
  .simp only[oQ,av];refine⟨_,rfl,λp7 f7=>?_⟩;have n57:p5≠p7:=λz=>by rw[<-z,bO n56,av] at f7;cases f7
   refine hN _ _ ⟨⟨b,1,-hh⟩,⟨a,1,hh⟩,p7,n57,.inr @aS,l7.free f7,l7.trans (.new f7),av,?_,rfl⟩;rw[bO n57,bO n56,av];rfl
  .exact hN _ _ ⟨⟨a,1,hh⟩,⟨b,1,-hh⟩,p6,n56,.inl @aS,f6',l7,av,by rw[bO n56,av];rfl,rfl⟩
 rintro _ G' ⟨U,V,p7,n57,hUV,f7,l8,g7,g5,rfl⟩;simp![aQ,bZ,bb,ao,ak,dC,jJ,aM,aE,cb];refine cO (DF ?_);refine⟨_,_,_,rfl,⟨@d,@f⟩,?_⟩;refine cO ⟨_,_,_,rfl,⟨@d,@d⟩,?_⟩;have l9:dH (di G p7 (.lst ([U,V].map enc))) G':=λx o z=>by
  by_cases y:x=p7
  .subst y;rw[av] at z;rw[<-z];exact g7
  .rw[bO y] at z;exact l8 _ _ z
 refine cO (kU l9 (by rw[bO n57];exact f5') g5 ?_);obtain⟨i,ei,hi⟩:=QH (jb c 10061 (m:=(rows.length:Int)) @c) (jd c 10061 (m:=(rows.length:Int)) @c);rw[ei];refine AN (rows:=rows) (more:=[(⟨a,0,hh⟩:T3),⟨b,0,-hh⟩]) ⟨hi,@f,λr hr=>by have:=rl r hr;lia,@G⟩ λr k hr hk _=>?_;refine cO (cO (DF ?_));rw[bX];refine⟨_,_,_,rfl,⟨@d,@f⟩,?_⟩;refine cO ⟨_,_,_,rfl,⟨@d,@d⟩,?_⟩;refine cO (kU (.new f7) f7 av ?_);obtain⟨j,ej,hj⟩:=QH (jb e 10061 (m:=(rows.length:Int)) @c) (jd e 10061 (m:=(rows.length:Int)) @c);rw[ej];generalize hR1:rows.set i (r.take k++[⟨a,0,hh⟩,⟨b,0,-hh⟩]++r.drop k)=R1;have adJ:R1.length=rows.length:=by rw[<-hR1,bX]
 have rl1:∀x∈R1,x.length<=30:=λx hx=>by
  rw[<-hR1] at hx;rcases r8 hx with z |z
  .have:=rl x z;lia
  .have:=rl r (fD hr);rw[z,aB,aB,eB,cP];simp only[aj,ax];lia
 have pm1:R1.flatten.Perm ([⟨a,0,hh⟩,⟨b,0,-hh⟩]++rows.flatten):=by rw[<-hR1];exact nP hr
 refine AN (rows:=R1) (more:=[U,V]) ⟨@f,@f,λr hr=>by have:=rl1 r hr;lia,@G⟩ λr' k' Yt hk' _=>?_;have pm2:=nP (k:=k') (more:=[U,V]) Yt;refine cO (q _ ?_ (by rw[bX,adJ]) ?_)
 .have dX:=JB.Dr.two (R:=rows.set i (r.take k++[⟨a,1,hh⟩,⟨a,0,hh⟩]++r.drop k)) d fa hs (nP hr) @c (by rw[bX];exact str);have pX:(rows.set i (r.take k++[⟨a,1,hh⟩,⟨a,0,hh⟩]++r.drop k)).flatten.Perm ([⟨a,1,hh⟩,⟨a,0,hh⟩]++rows.flatten):=nP hr;refine JB.Dr.two dX (m:=b) (h:=-hh) (λp hp=>?_) @c ?_ (by have:=pX.length_eq;simp only[aB,aj,ax] at this;lia) (by rw[bX];lia)
  .have:=pX.mem_iff.mp hp;simp only[aH,aL,bA] at this;rcases this with rfl |rfl |z
   .exact ab
   .exact ab
   .exact fb p z
  .refine pm2.trans ((pm1.append_left _).trans (TF ?_ ((pX.symm.cons _).cons _)));have c:=(xE (l₁:=[(⟨a,1,hh⟩:T3),⟨a,0,hh⟩]) (l₂:=[⟨b,0,-hh⟩])).append_right rows.flatten;rcases hUV with ⟨rfl,rfl⟩ |⟨rfl,rfl⟩
   .exact(mf _ _ _).trans (c.cons _)
   .exact c.cons _
 .have e1:=pm2.length_eq;have e2:=pm1.length_eq;simp only[aB,aj,ax] at e1 e2;lia
def yG:gj :=
 (bz (aQ (bZ (fA aM)) (aE 2))
 (bz (aQ (aN ve @p @ac) (aE 3))
 (bz (cq (ko @n) (aE 4) (bz (aQ (aN pN @z @ac) (aE 5))
 (bz (aQ (aN pN (aN ve @z @ac) (aN fx (jJ pR (ao @q aM)) @B)) (aE 6))
 (bz (aQ (aN ve @z (aN wB @ac (aN fx (jJ pR (ao @q aM)) @B))) (aE 3))
 (bz (fT (gy (aN (Cq false) (aN pN @p @ac) @B)) (bz (aQ (jJ cInt (ao (aN rGt (bb cN (ao (aN fx @F @p) (ao (dC (.int 10069)) (ao (dC (.int 4)) aM)))) @L) aM)) (aE 5))
 (aQ (bb cN (ao (aN fx @F @p) (ao (dC (.int 10079)) (ao (aN fx (jJ pR (ao @q aM)) @B) aM)))) (aE 6))) dj)
 (fT (gy (aN (Cq false) (ak 5) @B)) (aQ (bZ (aN fx (aN fx (zK @q fm (nV (ak 6))) (fA (ao @F aM))) (zK @q (nV (ak 6)) fm))) (aE 2)) dj))))))
 (cb (bZ @q)))))
def sN:jl:=λds G Q _=>∃(d:D) (ns:@u) (c:Int),ds=[d,.int c]/\IsL G d (ns.map enc)/\(ns.length<=100/\ns.Nodup)/\∀ms:@u,ms.Nodup->(∀m∈ms,m∈ns)->Q (enc ms) G
theorem w5(ms)(k)(n:Int):(ms.take k++[n]++ms.drop k).Perm (n::ms):=by
 rw[c9];refine List.perm_append_comm.trans ?_;rw[aH];refine .cons _ ?_;show([]++ms.drop k++ms.take k).Perm ms;rw[aL];exact List.perm_append_comm.trans (by rw[oq])
theorem Ri{G:Gp}{ms:@u}{n:Int}{j:Nat}(hj:j<=ms.length)(hl:ms.length<=200){Q:DK}(q:∀G' p,@H->G p=none->G' p=some (.lst ((ms.take j++[n]++ms.drop j).map enc))->Q (.ref p) G'):
  T7 (enc ms) none (some (j:Int)) G λx G1=>0+1<=SZ/\∀p,G1 p=none->fx x (.ref p) (di G1 p (.lst [.int n])) λx G1=>T7 (enc ms) (some (j:Int)) none G1 λy G1=>fx x y G1 Q:=by
 refine xZ (IsL.enc ms) ?_;rw[rn,Kv ms j hj];intro p1 f1;refine⟨@d,λp2 f2=>?_⟩;have h12:p1≠p2:=λz=>by rw[<-z,av] at f2;cases f2
 show zr _ _ _ _;unfold zr;rw[kR (IsL.ref (ds:=(ms.take j).map enc) (by rw[bO h12,av])),kR (IsL.ref (ds:=[D.int n]) av)];refine⟨Lf (by rw[ar,eB];simp;lia),λp3 f3=>?_⟩;refine xZ (IsL.enc ms) ?_;rw[rn,BK ms j hj];intro p4 f4;have h34:p3≠p4:=λz=>by rw[<-z,av] at f4;cases f4
 show zr _ _ _ _;unfold zr;rw[kR (IsL.ref (ds:=(ms.take j).map enc++[D.int n]) (by rw[bO h34,av])),kR (IsL.ref (ds:=(ms.drop j).map enc) av)];refine⟨Lf (by rw[aB,ar,ar,eB,cP];simp;lia),λp5 f5=>?_⟩;have le:=(((dH.new (o:=GO.lst ((ms.take j).map enc)) f1).trans (dH.new (o:=GO.lst [D.int n]) f2)).trans (dH.new (o:=GO.lst ((ms.take j).map enc++[D.int n])) f3)).trans (dH.new (o:=GO.lst ((ms.drop j).map enc)) f4);have em:(ms.take j).map enc++[D.int n]++(ms.drop j).map enc=(ms.take j++[n]++ms.drop j).map (enc:Int->D):=by rw[aU,aU];rfl
 rw[em];exact q _ _ (le.trans (.new f5)) (le.free f5) av
theorem Im(ds)(G)(Q)(h:sN ds G Q @j):yG (@j) @N (aY 7 ds) G:=by
 obtain⟨d,ns,c,rfl,hd,⟨hl,nn⟩,q⟩:=h;unfold yG;simp only[↓bG,aQ,bZ,fA,aM,↓ax,aE,aN,ak,aY,↓aw,↓aR,↓aj,aP,↓aH,↓aL,↓ai,↓ah,↓ae,↓aa,dC,↓gY,ends];refine⟨@d,λp0 f0=>kU (xs:=([]:@u)) (.new f0) f0 av ?_⟩;refine⟨@d,@d,?_⟩;refine dB (λτ G'=>G'=G/\∃(ms:@u) (a b e f:@aD),τ=[@O,some (.int c),some (enc ms),a,b,e,f]/\ms.Nodup/\∀m∈ms,m∈ns) ?_ ?_
 .intro N hN;simp![cq,ak];refine Yp hd λok bP=>?_;refine cj (xs:=ns) (λpre τ G'=>G'=G/\∃(ms:@u) (l:Int) (b e f:@aD),τ=[@O,some (.int c),some (enc ms),some (.int l),b,e,f]/\ms.Nodup/\(∀m∈ms,m∈pre)/\ms.length<=pre.length) ⟨rfl,[],_,_,_,_,rfl,.nil,@G,aG _⟩ (λ_ _ _ h=>by rw[h.1];exact bP _ (.refl _)) ?_ ?_
  .rintro pre n post τ G' N2 e ⟨rfl,ms,l,b,e0,f0,rfl,hn,hs,hml⟩ jk;have hlp:pre.length+1<=ns.length:=@aF
   have RA:n∉ms:=λz=>by
    rw[e,bY] at nn;exact nn.2.2 n (hs n z) n @i rfl
   have en:(enc n:D)=.int n:=rfl;rw[en];simp only[aE,↓bG,aQ,aN,ak,↓ai,↓ah,↓ae,↓aa,dC,↓fL,↓gY,jJ,ao,aM];refine⟨@d,@d,@d,?_⟩;refine rB (IsL.enc ms) ?_;rw[ar];simp only[↓cJ,↓fL];refine⟨@f,?_⟩;have k1:0<=(l / 2) % ((ms.length:Int)+1):=kd _ @c;have k2:(l / 2) % ((ms.length:Int)+1)<(ms.length:Int)+1:=ig _ @c;obtain⟨k,hk⟩:=vq k1;rw[hk] at k2;rw[hk];refine rB (IsL.enc ms) ?_;rw[ar];simp only[↓cJ,↓jy,↓gY];refine⟨.inl ⟨@d,@d⟩,@f,@f,?_⟩;generalize l / (2*((ms.length:Int)+1))=l2;refine dB (λτ G2=>G2=G'/\∃(t:Int) (j:Nat),j<=ms.length/\τ=[@O,some (.int c),some (enc ms),some (.int l2),some (.int n),some (.int t),some (.int j)]) ?_ ?_
   .intro N3 Bk;simp![fT,aN,ak,dC,aQ,jJ,ao,bb,aM,aE,dj];refine⟨@d,_,_,@P,@P,?_⟩;simp![kr];split
    .refine⟨_,_,_,rfl,⟨@d,@d⟩,?_⟩;simp only[↓uq,cInt];refine rB (IsL.enc ms) ?_;rw[ar];simp only[↓cJ];refine⟨_,_,_,rfl,⟨@d,@f⟩,?_⟩;have p1:=jb (n+c) 10079 (m:=(ms.length:Int)+1) @c;have p2:=jd (n+c) 10079 (m:=(ms.length:Int)+1) @c;obtain⟨j,hj⟩:=vq p1;exact Bk _ _ ⟨rfl,_,j,@f,by rw[hj]⟩
    .exact Bk _ _ ⟨rfl,_,k,@f,rfl⟩
   .rintro _ _ ⟨rfl,t,j,hj,rfl⟩;simp![fT,aN,ak,dC,aQ,bZ,zK,fm,fA,ao,aM,aE,dj];refine⟨_,_,@P,@P,?_⟩;simp![kr];split
    .refine Ri hj @c λG2 p l3 f3 g3=>kU l3 f3 g3 (jk _ _ ⟨rfl,_,_,_,_,_,rfl,?_,λm hm=>?_,?_⟩)
     .refine(w5 ms j n).nodup_iff.mpr (List.nodup_cons.mpr ⟨RA,hn⟩)
     .rcases List.mem_cons.mp ((w5 ms j n).mem_iff.mp hm) with rfl |z
      .simp
      .exact List.mem_append.mpr (.inl (hs m z))
     .rw[(w5 ms j n).length_eq,aj,aB,bU];lia
    .exact jk _ _ ⟨rfl,_,_,_,_,_,rfl,hn,λm hm=>List.mem_append.mpr (.inl (hs m hm)),by rw[aB,bU];lia⟩
  .rintro τ G' ⟨rfl,ms,l,b,e,f,rfl,hp,hs,_⟩;exact hN _ _ ⟨rfl,ms,_,_,_,_,rfl,hp,hs⟩
 rintro _ G' ⟨rfl,ms,a,b,e,f,rfl,hp,hs⟩;simp![cb,bZ,ak];exact cO (q ms hp hs)
end JC
namespace JC
open K2.P K2.J K2.T
open K2.JB hiding V0 e7 eE
open K2.Y (Po L ND NZ fG iP pick jb jd bS cN eK oK R0)
open K2.SQ (i8 vH lS)
open K2.OB (Bi kn)
open K2.KS (gJ)
variable {rows:Rows}
theorem TV(a:Sc S)(b:Sc T)(h:∀H,tt H S=tt H T):Of S T=true:=by
 have one:∀{S T:Su},Sc S->Sc T->(∀H,tt H S=tt H T)->∀p∈S,∃m,bL T p.1=some m/\uW p.2 m=true:=λ{S T} a b h p hp=>by
  obtain⟨P,e,hP⟩:=a.ZC p hp;have g1:bL S p.1=some p.2:=nM a.xI.1 hp;obtain⟨n1,z1⟩:=a.xI.2 p hp;have n2:=CJ.get b.xI p.1;have al:∀g,L g p.2=L g ((bL T p.1).getD []):=λg=>by
   have:=PB a b h hP g;rw[<-e,g1] at this;exact this
  have eq:=R0 n1 n2.1 z1 n2.2 al;cases g2:bL T p.1 with
  |some m=>rw[g2] at eq;exact⟨m,rfl,eq⟩
  |none=>
   rw[g2] at eq;have eq:uW p.2 []=true:=eq;rw[HA] at eq;exact absurd (List.isEmpty_iff.mp eq) (a.ne p hp)
 have keys:∀{S T:Su},Sc S->Sc T->(∀H,tt H S=tt H T)->S.length<=T.length:=λ{S T} a b h=>by
  have:=sub_len' (S.map @k) (T.map @k) a.xI.1 λk hk=>by
   obtain⟨p,hp,rfl⟩:=List.mem_map.mp hk;obtain⟨m,e,_⟩:=one a b h p hp;exact List.mem_map.mpr ⟨_,zN e,rfl⟩
  ext f
 unfold Of;rw[aJ];refine⟨?_,List.all_eq_true.mpr λp hp=>?_⟩
 .have:=keys a b h;have:=keys b a λH=>(h H).symm;rw[beq_iff_eq];lia
 .obtain⟨m,e,k⟩:=one a b h p hp;rw[e];exact k
theorem Sy(rows)(ns)(H):nO (@aq) (ops (Cr rows ns) H @ab) 0=sm (XC rows H) (jN ns):=by
 have e:ops (Cr rows ns) H @ab=λj=>sm (λc=>nO (cls @ab @M) (H (jI @ab @M)) (j+pc @ai c)) (jN ns):=funext λj=>LF @ai H ns _ j;rw[e,QP];congr 1;funext c;rw[Eo,<-LN,xT];rfl
theorem abv(h:HL G G' p0 as rs)(l:dH G' G2):Fz G2 (λa=>(G a).isNone) (.ref p0) (.dF (rs.map D.dF)):=by
 have:∀(as:List Nat) (rs:List (@e)),as.length=rs.length->(∀a∈as,G a=none)->(∀(i a:Nat) (r:@e),as[i]?=some a->rs[i]?=some r->G' a=some (.lst r))->FA G2 (λa=>(G a).isNone) (as.map D.ref) (rs.map D.dF):=by
  intro as;induction as with
  |nil=>intro rs hl _ _;cases rs with
   |nil=>exact .nil
   |cons _ _=>cases hl
  | cons a as ih=>
   intro rs hl hf Fu;cases rs with
   |nil=>cases hl
   |cons r rs=>
    refine .cons (.ref (l _ _ (Fu 0 a r rfl rfl)) (by simp[hf a @i]) (FA.same _)) ?_;exact ih rs (by simpa using hl) (λb hb=>hf b (aI _ hb)) λi b s h1 h2=>Fu (i+1) b s h1 h2
 exact .ref (l _ _ h.gp) (by simp[h.fp]) (this as rs h.len h.fr h.at')
theorem CY{α:Type} [@U] [Enc α]{neg:Bool}{x:α}{G:Gp}{Q:DK}(hd:Enc.dep α<=8)(q:Q (.bl (if neg then !decide (x=x) else decide (x=x))) G):zk neg (enc x) (enc x) G Q :=
 .inl ⟨enc x,enc x,Enc.sn _ _ _ hd,Enc.sn _ _ _ hd,by rw[Enc.eqv];exact q⟩
def yJ:gj :=
 (bz (fT (nW (gy (HM "tuple" @n))) (cb (bZ (dC (.bl false)))) dj)
 (bz (cq (ko @n) (aE 1) (cq (ko @p) (aE 2) (cq (ko @q) (aE 3) (fT (nW (gy (bb eK (ao @z aM)))) (cb (bZ (dC (.bl false)))) dj))))
 (cb (bZ (dC (.bl true))))))
def sP:jl:=λds G Q _=>∃k:PK,ds=[lb k]/\Q (.bl true) G
theorem Iq(ds)(G)(Q)(h:sP ds G Q @j):yJ (@j) @N (aY 4 ds) G:=by
 obtain⟨k,rfl,q⟩:=h;unfold yJ lb;have e1:(("tuple":String) == "tuple")=true:=@d
 simp![fT,nW,ak,aY,aP,e1,cb,bZ,dC,ends,dj];refine dB (λτ G'=>G=G'/\∃a b c,τ=[some (lb k),a,b,c]) ?_ ?_
 .intro N hN;simp![↓cq];refine cj (xs:=k) (f:=λr=>D.tup (r.map λt=>D.tup (t.map D.int))) (λpre τ G'=>G=G'/\∃a b c,τ=[some (lb k),a,b,c]) ⟨rfl,_,_,_,rfl⟩ @aj ?_ ?_
  .rintro pre r post τ G' N2 e ⟨rfl,a,b,c,rfl⟩ jk;simp![aE,cq,ak];refine cj (xs:=r) (f:=λt=>D.tup (t.map D.int)) (λpre τ G'=>G=G'/\∃a b c,τ=[some (lb k),a,b,c]) ⟨rfl,_,_,_,rfl⟩ @aj ?_ ?_
   .rintro pre t post τ G' N3 e ⟨rfl,a,b,c,rfl⟩ Bk;simp![aE,cq,ak];refine cj (xs:=t) (f:=D.int) (λpre τ G'=>G=G'/\∃a b c,τ=[some (lb k),a,b,c]) ⟨rfl,_,_,_,rfl⟩ @aj ?_ ?_
    .rintro pre i post τ G' N4 e ⟨rfl,a,b,c,rfl⟩ hN4;simp![aE,fT,nW,bb,ao,ak,aM,cb,bZ,dC,dj];refine⟨i,rfl,?_⟩;simp!;exact hN4 _ _ ⟨rfl,_,_,_,rfl⟩
    .rintro τ G' ⟨rfl,a,b,c,rfl⟩;exact Bk _ _ ⟨rfl,_,_,_,rfl⟩
   .rintro τ G' ⟨rfl,a,b,c,rfl⟩;exact jk _ _ ⟨rfl,_,_,_,rfl⟩
  .rintro τ G' ⟨rfl,a,b,c,rfl⟩;exact hN _ _ ⟨rfl,_,_,_,rfl⟩
 .rintro _ _ ⟨rfl,a,b,c,rfl⟩;simp only[cb,bZ,dC];exact cO q
def yN:gj :=
 (bz (cq (ko (bb jw (ao @n aM))) (aE 2) (fT (gy (aN (Cq false) (aN gq @q @L) @p)) (cb (bZ (aN gq @q @ac))) dj))
 (yr "NoName" (ao (dC (.str "no crossing has this name")) aM)))
def sR:jl:=λds G Q E=>∃(rows:Rows) (n:Int),ds=[enc rows,.int n]/\rows.flatten.length<=1000/\((∃p∈rows.flatten,p.a=n)->Q (.int (handOf rows n)) G)/\((∀p∈rows.flatten,p.a≠n)->E ⟨"NoName",[]⟩ (λ_=>none))
theorem Iy(ds)(G)(Q)(E)(h:sR ds G Q E):yN E @N (aY 3 ds) G:=by
 obtain⟨rows,n,rfl,hl,q,qe⟩:=h;unfold yN;refine dB (λτ G'=>∀p∈rows.flatten,p.a≠n) ?_ ?_
 .intro N hN;simp![cq,bb,ao,ak,aY,aP,aM,ends];refine⟨rows,rfl,hl,jf ?_⟩;refine cj (xs:=rows.flatten) (λpre τ G'=>G=G'/\(∃a,τ=[@al,some (enc n),a])/\∀p∈pre,p.a≠n) ⟨rfl,@I,@G⟩ @aj ?_ ?_
  .rintro pre x post τ G' N2 e ⟨rfl,⟨a,rfl⟩,hp⟩ jk;simp![aE,fT,aN,ak,EM,EL,dC,ZF,cb,bZ,at2,dj];refine⟨_,_,@P,@P,?_⟩;simp![kr];by_cases hx:x.a=n
   .simp only[hx,beq_self_eq_true,if_true];refine cO ?_;have:handOf rows n=x.c:=by
     unfold handOf;have:rows.flatten.find? (λp=>p.a == n)=some x:=by
      rw[e,uc];have:pre.find? (λp=>p.a == n)=none:=by
       rw[fC];intro p uF;simpa using hp p uF
      rw[this];simp[hx]
     rw[this];rfl
    rw[<-this];exact q ⟨x,@aF,hx⟩
   .have:(x.a == n)=false:=by simpa using hx
    simp only[this,au,if_false];refine jk _ _ ⟨rfl,@I,λp uF=>?_⟩;rcases List.mem_append.mp uF with h |h
    .exact hp p h
    .rw[List.mem_singleton.mp h];exact hx
  .rintro τ G' ⟨rfl,_,hp⟩;exact hN _ _ hp
 .intro τ G' h;unfold yr;simp![ao,dC,aM];exact⟨@d,qe h⟩
def AE:gj :=
 (bz (aQ (ET 1 [0] (ko @p) (aE 0) none (yt sR (ao @p (ao @n aM)))) (aE 2))
 (bz vJ
 (bz vJ
 (bz vJ
 vJ))))
def vw:jl:=λds G Q E=>∃(rows:Rows) (ns:@u),ds=[enc rows,enc ns]/\(rows.flatten.length<=1000/\ns.length<=1000/\∃n∈ns,∀p∈rows.flatten,p.a≠n)/\E ⟨"NoName",[]⟩ (λ_=>none)
theorem KQ(ds)(G)(Q)(E)(h:vw ds G Q E):AE E @N (aY 7 ds) G:=by
 obtain⟨rows,ns,rfl,⟨hl,hn,m,hm,hx⟩,q⟩:=h;unfold AE;simp only[↓bG,aQ,ET,↓dW,ak,aY,↓aw,↓aR,↓aj,↓ax,aP,↓aH,↓aL,↓ae,↓aa,aE,ends,↓ai,↓ah];refine jf ⟨by rw[ar];exact xR (FX hn),?_⟩;refine nX (xs:=ns) (f:=enc) (λpre acc τ G'=>G=G'/\(∃a,τ=[a,@al])/\∀n∈pre,∃p∈rows.flatten,p.a=n) ⟨rfl,@I,@G⟩ (λ_ _ _ _ _=>trivial) ?_ ?_
 .rintro pre x post acc τ G' N e ⟨rfl,⟨a,rfl⟩,hp⟩ hN;simp![aE,yt,ao,ak,aM];refine⟨rows,x,rfl,hl,λhx=>hN _ _ _ ⟨rfl,@I,λn hn=>?_⟩,λ_=>q⟩;rcases List.mem_append.mp hn with h |h
  .exact hp n h
  .rw[List.mem_singleton.mp h];exact hx
 .rintro acc τ G' ⟨rfl,_,hp⟩;obtain⟨p,h1,h2⟩:=hp m hm;exact absurd h2 (hx p h1)
def sW:gj :=
 (bz (aQ (fA aM) (aE 2))
 (bz (DC vw (ao @n (ao @p aM)) 3 ["NoName"] (aQ (fA (ao (BI ["NoName","KnotError","NoSpot"] ["NoName","KnotError","NoSpot"] @z) (ao (BI ["NoName","KnotError","NoSpot"] ["NoSpot"] @z) aM))) (aE 2)))
 (cb (bZ (aN (Cq false) @q (fA (ao (dC (.bl true)) (ao (dC (.bl false)) aM))))))))
def nu:jl:=λds G Q _=>∃(rows:Rows) (ns:@u),ds=[enc rows,enc ns]/\(rows.flatten.length<=1000/\ns.length<=1000/\∃n∈ns,∀p∈rows.flatten,p.a≠n)/\Q (.bl true) G
theorem BS(ds)(G)(Q)(h:nu ds G Q @j):sW (@j) @N (aY 4 ds) G:=by
 obtain⟨rows,ns,rfl,hx,q⟩:=h;unfold sW;simp![aQ,fA,aM,aE,DC,ao,ak,aY,aP,cb,bZ,aN,dC,ends];refine⟨@d,λp1 f1=>?_⟩;refine⟨rows,ns,rfl,hx,@d,?_⟩;have e1:(["NoName","KnotError","NoSpot"]:@y).contains "NoName"=true:=@d
 have e3:(["NoSpot"]:@y).contains "NoName"=false:=@d
 simp![BI,ak,e1,e3];refine⟨@d,λp2 f2=>⟨@d,λp3 f3=>?_⟩⟩;have n12:p2≠p3:=by rintro rfl;rw[av] at f3;cases f3
 refine⟨_,_,.ref (by rw[bO n12];exact av) (.vd (.bl _) (.vd (.bl _) .Gb)),.ref av (.vd (.bl _) (.vd (.bl _) .Gb)),?_⟩;have e4:jC (.dF [.bl true,.bl false]) (.dF [.bl true,.bl false])=true:=@d
 simp![e4];exact qX ((dH.new f1).trans ((dH.new f2).trans (.new f3))) q
abbrev Xj:jl:=CS
def PJ:gj :=
 (bz (aQ (aN fx @B (aN pN (bb bS (ao @n (ao @L aM))) (dC (.int 3)))) (aE 1))
 (bz (aQ (dC (.int 12)) (aE 2))
 (bz (fT (gy (aN (zk false) (aN pN (bb bS (ao @n (ao @B aM))) @ac) @B)) (aQ (dC (.int 999)) (aE 2)) dj)
 (bz (aQ (aN pN (aN ve (bb bS (ao @n (ao (dC (.int 3)) aM))) @ac) (dC (.int 6))) (aE 3))
 (bz (fT (gy (aN (zk false) (aN pN (bb bS (ao @n (ao (dC (.int 3)) aM))) @ac) @B)) (aQ (jJ Ia (ao @z (ao (dC (.int 3)) aM))) (aE 3)) dj)
 (bz (aQ (bZ (bb e7 (ao (zK @n (nV (dC (.int 6))) (nV (aN fx (dC (.int 6)) @z))) (ao @p (ao @q aM))))) (aE 4))
 (bz (fT (gy (aN (zk false) (aN pN (bb bS (ao @n (ao (dC (.int 3)) aM))) @ac) @B)) (aQ (bZ (bb sQ (ao @F (ao (bb bS (ao @n (ao (dC (.int 4)) aM))) (ao (bb bS (ao @n (ao (dC (.int 5)) aM))) aM))))) (aE 4)) dj)
 (bz (aQ (bZ (bb sN (ao (jJ pQ (ao (bb iB (ao (bZ @F) aM)) aM)) (ao (bb bS (ao @n (ao @ac aM))) aM)))) (aE 5))
 (bz (aQ (bZ (bb pJ (ao @F (ao (ak 5) aM)))) (aE 6))
 (bz (aQ (bZ (fA (ao (bb fg (ao @F aM)) (ao (jJ rN (ao (ak 5) aM)) aM)))) (aE 7))
 (bz (aQ (bb xX (ao (bZ (aN gq (ak 7) @L)) (ao (bZ (aN gq (ak 7) @B)) aM))) (aE 8))
 (bz (fT (IT (nW (gy (HK (ak 8)))) (gy (aN (Uc true) (ak 8) (ak 6)))) (cb (bZ (dC (.bl false)))) dj)
 (bz (cq (ye (ak 8)) (aE 9) (fT (IT (nW (gy (bb sP (ao (ak 9) aM)))) (nW (gy (bb oK (ao (aN M9 (ak 8) (ak 9)) aM))))) (cb (bZ (dC (.bl false)))) dj))
 (bz (fT (IT (gy (aN (zk true) (aN gq (ak 7) @L) @F)) (gy (aN (zk true) (aN gq (ak 7) @B) (ak 5)))) (cb (bZ (dC (.bl false)))) dj)
 (bz (aQ (bb eE (ao (bb iB (ao (bZ @F) aM)) (ao (aN fx @B (bb cN (ao (bb bS (ao @n (ao @ac aM))) (ao (dC (.int 10091)) (ao (dC (.int 999)) aM))))) aM))) (aE 10))
 (bz (aQ (aN pN (bb bS (ao @n (ao @ac aM))) (aN fx (jJ pR (ao (ak 5) aM)) @B)) (aE 11))
 (cb (bZ (bb nu (ao (bZ (aN gq (ak 7) @L)) (ao (bZ (aN fx (aN fx (zK (ak 5) fm (nV (ak 11))) (fA (ao (ak 10) aM))) (zK (ak 5) (nV (ak 11)) fm))) aM)))))))))))))))))))))
theorem Zg(ds)(G)(Q)(h:Xj ds G Q @j):PJ (@j) @N (aY 12 ds) G:=by
 obtain⟨ns,rfl,hl,hG,q⟩:=h;unfold PJ;simp only[↓bG,aQ,aN,dC,bb,ao,ak,aY,↓aw,↓aR,↓aj,↓ax,aP,↓aH,↓aL,↓aa,aM,aE,ends,↓ai,↓ah];refine⟨ns,0,rfl,@d,@d,?_⟩;have s1:0<=iP ns 0 % 3:=kd _ (@d);have s2:iP ns 0 % 3<3:=ig _ (@d);generalize iP ns 0 % 3=s0 at s1 s2;obtain⟨S,hS⟩:∃S:Nat,1+s0=(S:Int):=⟨(1+s0).toNat,@f⟩;have hS1:1<=S:=@f
 have hS3:S<=3:=@f
 simp only[↓cJ,hS];refine dB (λτ G'=>G=G'/\∃sp:Int,(1<=sp/\sp<=999)/\τ=[some (.dF (@aQ)),some (.int S),some (.int sp),none,none,none,none,none,none,none,none,none]) ?_ ?_
 .intro N hN;simp![fT,aN,bb,ao,ak,dC,aM,aQ,aE,dj];refine⟨ns,1,rfl,@d,@d,AK ?_⟩;simp only[↓bJ,↓au,↓if_false];split
  .exact hN _ _ ⟨rfl,999,@d,rfl⟩
  .exact hN _ _ ⟨rfl,12,@d,rfl⟩
 rintro _ _ ⟨rfl,sp,⟨sp1,sp2⟩,rfl⟩;simp only[↓bG,aQ,aN,bb,ao,ak,↓aa,dC,aM,aE,↓ai,↓ah];refine⟨ns,3,rfl,@d,@d,@d,?_⟩;have d1:0<=iP ns 3 / 2 % 6:=kd _ (@d);have d2:iP ns 3 / 2 % 6<6:=ig _ (@d);simp only[↓fL];refine⟨@d,?_⟩;generalize iP ns 3 / 2 % 6=m0 at d1 d2 ⊢;refine dB (λτ G'=>G=G'/\∃m:Int,(0<=m/\m<=5/\(iP ns 3 % 2=1->m<=3))/\τ=[some (.dF (@aQ)),some (.int S),some (.int sp),some (.int m),none,none,none,none,none,none,none,none]) ?_ ?_
 .intro N hN;simp![fT,aN,bb,ao,ak,dC,aM,aQ,jJ,aE,dj];refine⟨ns,3,rfl,@d,@d,AK ?_⟩;simp only[↓bJ,↓au,↓if_false];split
  .exact hN _ _ ⟨rfl,_,⟨by split<;>lia,by split<;>lia,λ_=>by split<;>lia⟩,rfl⟩
  .rename_i c;exact hN _ _ ⟨rfl,m0,⟨d1,@f,λz=>absurd z (by simpa using c)⟩,rfl⟩
 rintro _ _ ⟨rfl,m,⟨m1,m2,m3⟩,rfl⟩;simp only[↓bG,aQ,bZ,bb,ao,zK,ak,↓aa,↓jD,dC,↓gw,aN,↓ae,↓cJ,↓uj,aM,aE,↓ai,↓ah];rw[rn];intro pS fS;have RI:((cut ns (some 6) (some (6+m))).length:Int)<=m:=by
  unfold cut j9;simp only;rw[if_neg @c,if_neg @c];simp only[eB,cP];lia
 generalize cut ns (some 6) (some (6+m))=cells at RI;refine⟨.ref pS,cells,S,sp,rfl,IsL.ref av,⟨@f,⟨hS1,hS3⟩,sp1,sp2⟩,λrows d hlen Vv=>qX (.new fS) ?_⟩;refine dB (λτ G'=>G=G'/\∃rows:Rows,(Dr rows/\rows.length=S/\rows.flatten.length<=10)/\τ=[some (.dF (@aQ)),some (.int S),some (.int sp),some (.int m),@al,none,none,none,none,none,none,none]) ?_ ?_
 .intro N hN;simp![fT,aN,bb,ao,ak,dC,aM,aQ,bZ,aE,dj];refine⟨ns,3,rfl,@d,@d,AK ?_⟩;simp only[↓bJ,↓au,↓if_false];split
  .rename_i c;have c:iP ns 3 % 2=1:=by simpa using c
   have:=m3 c;refine⟨ns,4,rfl,@d,⟨ns,5,rfl,@d,?_⟩⟩;exact⟨rows,_,_,rfl,⟨d,@f,@f⟩,λR dR lR fR=>cO (hN _ _ ⟨rfl,R,⟨dR,@f,@f⟩,rfl⟩)⟩
  .exact hN _ _ ⟨rfl,rows,⟨d,hlen,@f⟩,rfl⟩
 clear d hlen Vv;rintro _ _ ⟨rfl,rows,⟨d,hlen,Vv⟩,rfl⟩;simp only[↓bG,aQ,bZ,bb,ao,jJ,ak,↓ae,↓aa,aM,dC,aE,↓ai,↓ah,fA,↓aj,↓ax,aN];have nd:=wM d;have hp:=Bi d nd;have hz:(@aT).length<=rows.flatten.length:=by have:=lS rows.flatten [];rw[ax,Fi] at this;exact this
 refine cO ⟨rows,rfl,@f,λph fh=>?_⟩;show pQ [.ref ph] _ _;unfold pQ;simp only[av];refine⟨by unfold aK;rw[ar];lia,λpl fl=>?_⟩;refine⟨ns,2,rfl,@d,?_⟩;refine⟨.ref pl,(@aT).map @k,_,rfl,IsL.ref (by rw[av];unfold aK;rw[bw,bw];rfl),⟨by rw[ar];lia,hp.nodup_iff.mpr nd⟩,λms md sub=>?_⟩;have sub:∀n∈ms,n∈@aB:=λn hn=>hp.mem_iff.mp (sub n hn);refine qX ((dH.new fh).trans (.new fl)) ?_;have nl:(@aB).length<=6:=by have:=JT d;lia
 have ml:ms.length<=6:=bh (sub_len' ms _ md sub) nl;refine⟨rows,ms,rfl,⟨d,md,sub,nl⟩,λT sT hT=>cO ?_⟩;refine⟨rows.map λr=>r.map enc,by rw[gJ],by rw[ar];lia,λG1 p0 as h1=>?_⟩;show rN [enc ms] _ _;refine Ib (IsL.enc ms) λp2 f2=>?_;refine⟨@d,λp3 f3=>?_⟩;have l3:dH G1 (di (di G1 p2 (.lst (ms.map enc))) p3 (.lst [.ref p0,.ref p2])):=(dH.new f2).trans (.new f3);have n23:p2≠p3:=λz=>by rw[<-z,av] at f3;cases f3
 have f2':G p2=none:=h1.le.free f2;refine Bm (h1.le.trans l3) (h1.le.free ((dH.new f2).free f3)) av (ss:=[enc rows,enc ms]) (.cons (by rw[gJ];exact abv h1 l3) (.cons (.ref (by rw[bO n23,av]) (by simp[f2']) (FA.same _)) .nil)) ?_;refine nH (IsL.dF) (x:=enc rows) rfl (cO (nH (IsL.dF) (x:=enc ms) rfl (cO ?_)));refine⟨rows,ms,rfl,⟨d,md,sub,nl⟩,λS sS nS hS=>?_⟩;rw[<-hlen];have al:Of S T=true:=TV sS sT λH=>by rw[hS,hT,Sy]
 simp![fT,IT,nW,HK,ak,cb,bZ,dC,dj,aN];refine⟨S,T,rfl,rfl,al,?_⟩;simp!;simp![cq,ye,ak,He];have ek:(fW S).map (λp=>lb p.1)=S.map λp=>lb p.1:=by unfold fW;rw[bw];rfl
 rw[ek];refine cj (xs:=S) (f:=λp=>lb p.1) (λpre τ G'=>G'=G/\∃a,τ=[some (.dF (@aQ)),some (.int (rows.length:Int)),some (.int sp),some (.int m),@al,some (enc ms),some (.kF (fW T)),some (.dF [enc rows,enc ms]),some (.kF (fW S)),a,none,none]) ⟨rfl,_,rfl⟩ @aj ?_ ?_
 .rintro pre p post τ G' N e ⟨rfl,a,rfl⟩ hN;have hp:p∈S:=@aF
  obtain⟨n1,z1⟩:=sS.xI.2 p hp;simp![aE,fT,IT,nW,bb,ao,ak,aM,cb,bZ,dC,dj,aN];refine⟨p.1,rfl,?_⟩;simp!;refine Ea (nM sS.xI.1 hp) ⟨_,p.2,rfl,⟨rfl,n1⟩,z1,?_⟩;simp!;exact hN _ _ ⟨rfl,_,rfl⟩
 rintro τ G' ⟨rfl,a,rfl⟩;have a0:rD [(enc rows:D),enc ms] 0=@al:=rfl;have a1:rD [(enc rows:D),enc ms] 1=some (enc ms):=rfl;simp![fT,IT,aN,ak,dC,a0,cb,bZ,dj,aQ,bb,ao,aM,aE,jJ,zK,fm,fA,a1];refine CY (x:=rows) (@d) ?_;simp![decide_true];refine CY (x:=ms) (@d) ?_;simp![decide_true];refine cO ⟨rows,rfl,@f,λpq fq=>?_⟩;simp!;refine⟨ns,2,rfl,@d,?_⟩;refine⟨_,_,_,rfl,⟨@d,@d⟩,?_⟩;simp only[↓cJ];have q1:=jb (iP ns 2) 10091 (m:=999) (@d);have q2:=jd (iP ns 2) 10091 (m:=999) (@d);refine⟨_,_,_,rfl,.inr ⟨pq,_,rfl,av,rfl⟩,⟨by rw[ar];lia,@f,@f⟩,λz z1 z2 z3=>?_⟩;simp!;refine⟨ns,2,rfl,@d,?_⟩;refine rB (IsL.enc ms) ?_;rw[ar];simp only[↓cJ,↓fL,↓gw];refine⟨@f,?_⟩;have k1:0<=iP ns 2 % ((ms.length:Int)+1):=kd _ @c;have k2:iP ns 2 % ((ms.length:Int)+1)<(ms.length:Int)+1:=ig _ @c;obtain⟨k,hk⟩:=vq k1;rw[hk] at k2;simp only[hk];refine cO ?_;refine Ri @c @c λG2 p l4 f4 g4=>kU l4 f4 g4 ?_;refine⟨rows,ms.take k++[z]++ms.drop k,rfl,⟨@f,?_,z,@G,Bj z1⟩,cO (q _)⟩;rw[(w5 ms k z).length_eq,aj];lia
end JC
end K2
end
namespace Fin
open PySem PySem.Spec PyProof.Rows L2 K2
open K2.JB (uf DN oJ y9 nq BQ lM zc lH vj fg pB iw BU)
open K2.JC
open K2.JE (iU vk)
open K2.P (jw tZ kl BY qN BR)
open K2.Y
noncomputable abbrev nl:@y:=["bool","dict","enumerate","int","isinstance","len","list","max","min","range","reversed","sorted","tuple","zip"]
structure Al(K:aq):Prop where
 n:MD K nl
 F27:oE K "_law_cell_at" (top 27)
 F29:oE K "_law_pick" (top 29)
 F38:oE K "_law_digits" (top 38)
 F36:oE K "_law_free" (top 36)
 F35:oE K "_law_copy" (top 35)
 F37:oE K "_law_put" (top 37)
 F39:oE K "_law_drawing" (top 39)
 F40:oE K "_law_hands" (top 40)
 F46:oE K "_law_laid" (top 46)
 F47:oE K "_law_some" (top 47)
 F42:oE K "_law_across" (top 42)
 F43:oE K "_law_sewn" (top 43)
 F44:oE K "_law_gone_along" (top 44)
 F31:oE K "_law_pared" (top 31)
 F32:oE K "_law_sum" (top 32)
 F34:oE K "_law_moved" (top 34)
 F33:oE K "_law_product" (top 33)
 F41:oE K "_law_loops" (top 41)
 F45:oE K "_law_opened" (top 45)
 F5:oE K "passings_of" (top 5)
 F6:oE K "hand_of" (top 6)
 F7:oE K "next_of" (top 7)
 F20:oE K "plan_of" (top 20)
 F22:oE K "far_ends" (top 22)
 F21:oE K "whole_plan" (top 21)
 F10:oE K "without_noughts" (top 10)
 F12:oE K "times" (top 12)
 F14:oE K "raised" (top 14)
 F23:oE K "joined_plan" (top 23)
 F18:oE K "joints" (top 18)
 F13:oE K "shifted" (top 13)
 F19:oE K "power_at" (top 19)
 F11:oE K "added" (top 11)
 F24:oE K "opened_at" (top 24)
 F25:oE K "opened" (top 25)
 F28:oE K "_law_whole" (top 28)
 F48:oE K "_law_plan" (top 48)
 F30:oE K "_law_poly" (top 30)
 F49:oE K "_law_refused" (top 49)
 EZ:CsZ K "ALONG" 0
 Ot:CsZ K "AGAINST" 1
 RS:GdZ K "LOOP" [(2,-1),(-2,-1)]
 Pg:XcZ K "NoName"
 i0:IoZ K "NoSpot" ["NoName","KnotError","NoSpot"] ["NoSpot"]
 i1:IoZ K "KnotError" ["NoName","KnotError","NoSpot"] ["NoName","KnotError","NoSpot"]
 z2:CtZ K "NoName" ["NoName"]
section
seal PySem.binaryOp PySem.compareOp PySem.unaryOp mO uX dE xx Fy SE xJ yz KN ku Ze ky K2.vi K2.cInt K2.pR K2.rN K2.pQ K2.Mt K2.Ia K2.Ms K2.rz K2.H0 K2.EU K2.HP K2.aQ K2.aN K2.dC K2.jJ K2.bb K2.yt K2.gO K2.ET K2.ao K2.hX K2.rM K2.HN K2.yZ K2.CC K2.Mn K2.iO K2.cq K2.bZ K2.BJ K2.dIf K2.fT K2.HM K2.BI K2.HK K2.HJ K2.fA K2.oY K2.vJ K2.dj K2.aM K2.fm K2.nW K2.Mm K2.IT K2.nV K2.yr K2.cb K2.bz K2.zK K2.gy K2.DC K2.eM K2.ES K2.ak K2.BH K2.cY K2.aE K2.hW K2.eU K2.tM K2.hV K2.gx K2.Hh K2.i7 K2.qV K2.w6 K2.ye K2.qm K2.ko K2.Ka K2.ka K2.uA K2.zo K2.A5 K2.A4 K2.fx K2.Cq K2.Uc K2.zk K2.ve K2.rGt K2.Cp K2.AJ K2.gq K2.M9 K2.Z9 K2.pN K2.wB K2.wA K2.zj K2.D8
theorem gR(h:autoParam (mO X b t) Auj._auto_1):mO X b t:=h
theorem Xm:kb ["_law_script","_law_strings","_law_spread","_law_many","_law_rows","_law_names","_law_due","_law_handed","_law_found","_law_plan_here","_law_none","_law_place"] ["_law_script"] (cf (top 50)):=scm
variable {V:IU} (Y:Cf V) (A:Al V.K)
include Y A
theorem Bw:pC V 1 "_law_cell_at" ["_law_script","_law_k"] bS :=
 qZ ["_law_script","_law_k"] Y A.n A.F27 BW @aa
theorem oX:pC V 1 "_law_pick" ["_law_cell","_law_prime","_law_many"] cN :=
 qZ ["_law_cell","_law_prime","_law_many"] Y A.n A.F29 Ir @aa
theorem Cy:pC V 2 "_law_digits" ["_law_cell","_law_sizes"] iU :=
 have:=oX Y A;qZ ["_law_cell","_law_sizes","_law_primes","_law_left","_law_found","_law_at","_law_size"] Y A.n A.F38 vk @aa
theorem tO:pC V 1 "_law_free" ["_law_names","_law_name"] eE :=
 qZ ["_law_names","_law_name"] Y A.n A.F36 Iw @aa
theorem yV:pC V 1 "_law_copy" ["_law_rows"] fg :=
 qZ ["_law_rows"] Y A.n A.F35 pB @aa
theorem Bt:pC V 2 "_law_put" ["_law_rows","_law_at","_law_place","_law_more"] iw :=
 have:=yV Y A;qZ ["_law_rows","_law_at","_law_place","_law_more","_law_made"] Y A.n A.F37 BU @aa
theorem Bv:pC V 3 "_law_drawing" ["_law_cells","_law_strings","_law_spread"] e7 :=
 have:=Cy Y A;have:=Sd W3 (tO Y A);have:=Bt Y A;qZ ["_law_cells","_law_strings","_law_spread","_law_rows","_law_names","_law_cell","_law_part","_law_name","_law_way"] Y A.n A.F39 oj @aa
theorem rh:pC V 1 "_law_hands" ["_law_rows"] iB :=
 qZ ["_law_rows","_law_hands_here","_law_row","_law_passing"] Y A.n A.F40 Fh @aa
theorem Hx:pC V 3 "_law_laid" ["_law_rows","_law_cell","_law_second"] sQ :=
 have:=tO Y A;have:=oX Y A;have:=rh Y A;have:=Bt Y A;qZ ["_law_rows","_law_cell","_law_second","_law_names","_law_hand","_law_pair","_law_below"] Y A.n A.F46 Iu @aa
theorem Ht:pC V 2 "_law_some" ["_law_every","_law_cell"] sN :=
 have:=oX Y A;qZ ["_law_every","_law_cell","_law_names","_law_left","_law_name","_law_take","_law_place"] Y A.n A.F47 Im @aa
theorem CA:pC V 1 "_law_across" ["_law_rows"] pK :=
 qZ ["_law_rows","_law_across_here","_law_row","_law_k","_law_leaves","_law_comes"] Y A.n A.F42 CI @aa
theorem Hu:pC V 1 "_law_sewn" ["_law_choice"] sO :=
 qZ ["_law_choice","_law_sewn_here","_law_name","_law_pairs","_law_pair"] Y A.n A.F43 Io @aa
theorem xj:pC V 2 "_law_gone_along" ["_law_rows","_law_choice"] kM :=
 have:=CA Y A;have:=Hu Y A;qZ ["_law_rows","_law_choice","_law_across_here","_law_sewn_here","_law_gone","_law_pairs","_law_end","_law_there","_law_count","_law_here"] Y A.n A.F44 xA @aa
theorem rg:pC V 1 "_law_pared" ["_law_one"] fJ :=
 qZ ["_law_one","_law_kept","_law_at"] Y A.n A.F31 Fg @aa
theorem Kl:pC V 2 "_law_sum" ["_law_one","_law_other"] kj :=
 have:=rg Y A;qZ ["_law_one","_law_other","_law_total","_law_at"] Y A.n A.F32 oi @aa
theorem ED:pC V 2 "_law_moved" ["_law_one","_law_by","_law_factor"] iA :=
 have:=rg Y A;qZ ["_law_one","_law_by","_law_factor","_law_made","_law_at"] Y A.n A.F34 kX @aa
theorem Bu:pC V 2 "_law_product" ["_law_one","_law_other"] jx :=
 have:=rg Y A;qZ ["_law_one","_law_other","_law_total","_law_at","_law_more"] Y A.n A.F33 BV @aa
theorem EE:pC V 3 "_law_loops" ["_law_count"] jK :=
 have:=Bu Y A;qZ ["_law_count","_law_made","_law_k"] Y A.n A.F41 rE @aa
theorem Cw:pC V 4 "_law_opened" ["_law_rows","_law_names"] pJ :=
 have:=rh Y A;have:=xj Y A;have:=Kl Y A;have:=ED Y A;have:=EE Y A;qZ ["_law_rows","_law_names","_law_hands_here","_law_made","_law_name","_law_longer","_law_choice","_law_at","_law_way","_law_more","_law_total","_law_plan_here","_law_count","_law_kept"] Y A.n A.F45 CH @aa
theorem tN:pC V 1 "passings_of" ["rows"] jw :=
 qZ ["rows","passings","row"] Y A.n A.F5 tZ @aa
theorem Km:pC V 2 "hand_of" ["drawing","name"] kl :=
 have:=tN Y A;qZ ["drawing","name","passing"] Y A.n A.F6 BY @aa
theorem Kk:pC V 1 "next_of" ["drawing"] qN :=
 qZ ["drawing","behind","row","passing","follower"] Y A.n A.F7 BR @aa
theorem Bq:pC V 1 "plan_of" ["far"] nq :=
 qZ ["far"] Y A.n A.F20 BQ @aa
theorem yW:pC V 1 "far_ends" ["threads"] lM :=
 qZ ["threads","far","one","other"] Y A.n A.F22 zc @aa
theorem Cv:pC V 2 "whole_plan" ["drawing"] lH :=
 have:=Kk Y A;have:=Bq Y A;have:=yW Y A;qZ ["drawing","threads"] Y A.n A.F21 vj @aa
theorem kq:pC V 1 "without_noughts" ["sums"] fE :=
 qZ ["sums","kept","power","number"] Y A.n A.F10 vP @aa
theorem Hr:pC V 2 "times" ["one","other"] iL :=
 have:=kq Y A;qZ ["one","other","sums","power","number","other_power","other_number","both"] Y A.n A.F12 SG @aa
theorem Du:pC V 3 "raised" ["one","count"] gV :=
 have:=Hr Y A;qZ ["one","count","product","step"] Y A.n A.F14 Oz @aa
theorem Bx:pC V 2 "joined_plan" ["plan","pairs"] nv :=
 have:=yW Y A;have:=Bq Y A;qZ ["plan","pairs","far","closed","one","other","before","after"] Y A.n A.F23 BX @aa
theorem Od:pC V 1 "joints" ["name","split"] uf :=
 have:=A.EZ;qZ ["name","split"] Y A.n A.F18 DN @aa
theorem Ki:pC V 2 "shifted" ["one","by","factor"] fF :=
 have:=kq Y A;qZ ["one","by","factor","sums","power","number"] Y A.n A.F13 KP @aa
theorem Hs:pC V 1 "power_at" ["hand","split"] oJ :=
 have:=A.EZ;qZ ["hand","split"] Y A.n A.F19 y9 @aa
theorem RX:pC V 2 "added" ["one","other"] gW :=
 have:=kq Y A;qZ ["one","other","sums","power","number"] Y A.n A.F11 SH @aa
theorem EC:pC V 4 "opened_at" ["sums","name","hand"] qM :=
 have:=A.Ot;have:=A.EZ;have:=A.RS;have:=Bx Y A;have:=Od Y A;have:=Ki Y A;have:=Hs Y A;have:=Hr Y A;have:=Du Y A;have:=RX Y A;qZ ["sums","name","hand","after","plan","poly","split","made","part","kept"] Y A.n A.F24 Fe @aa
theorem Oc:pC V 5 "opened" ["drawing","names"] xX :=
 have:=A.RS;have:=Km Y A;have:=Cv Y A;have:=Du Y A;have:=EC Y A;qZ ["drawing","names","hands","loose","sums","name","hand"] Y A.n A.F25 OA @aa
theorem xh:pC V 1 "_law_whole" ["_law_found"] eK :=
 qZ ["_law_found"] Y A.n A.F28 Ff @aa
theorem Hw:pC V 2 "_law_plan" ["_law_found"] sP :=
 have:=xh Y A;qZ ["_law_found","_law_pair","_law_end","_law_number"] Y A.n A.F48 Iq @aa
theorem Hv:pC V 2 "_law_poly" ["_law_found"] oK :=
 have:=xh Y A;qZ ["_law_found","_law_at"] Y A.n A.F30 Ip @aa
theorem Hy:ZL V 2 "hand_of" ["drawing","name"] sR :=
 have:=A.Pg;have:=tN Y A;abw ["drawing","name","passing"] Y A.n A.F6 Iy @aa
theorem Kj:ZL V 3 "opened" ["drawing","names"] vw :=
 have:=Hy Y A;abw ["drawing","names","hands","loose","sums","name","hand"] Y A.n A.F25 KQ @aa
theorem Bs:pC V 4 "_law_refused" ["_law_rows","_law_names"] nu :=
 have:=A.i0;have:=A.i1;have:=A.z2;have:=Kj Y A;qZ ["_law_rows","_law_names","_law_told","e"] Y A.n A.F49 BS @aa
theorem YV   (F:Ts V.K "law" "law" (top 50) f fd):rX V.P V.w V.K V.mg V.base MJ 6 f fd ["_law_script"] (D3 V.K K2.CS) :=
 have:=Bw Y A;have:=Bv Y A;have:=Hx Y A;have:=Ht Y A;have:=rh Y A;have:=Cw Y A;have:=yV Y A;have:=Oc Y A;have:=Hw Y A;have:=Hv Y A;have:=tO Y A;have:=oX Y A;have:=Bs Y A;aeN Xm Y A.n F Zg @aa
end
theorem all_mk {l:DR}  {K:aq}    {dl:fV} (X:K.In h) (G:h.Ns bK mg) (hfa:mg "law"=some (.ref fa)) (FL:At K "law" (top 50) fl dl) (A:Al K):
  ∃fd:fV,(∀(s:ay) (v:Value),BindsTo s fd ⟨[v],[]⟩ [("_law_script",v)])/\∀base:Heap,K.In base->base.Ns bK mg->rX l.prog w K mg base MJ 6 fa fd ["_law_script"] (D3 K K2.CS):=by
 have e:=hfa.symm.trans (PySem.W.mg_of X G FL.a);cases e;obtain⟨Fa,Fl⟩:=FL;obtain⟨oc,od,kV,doc,pm,an,ib,ct,LD,rfl,lk,L6⟩:=Fl.ex;refine⟨kY "law" "law" (jg (top 50)) (fk (top 50)) (cf (top 50)) .none kV doc pm an ib ct,λs v=>.of_eq rfl,λbase _ _=>?_⟩;exact YV (V:=⟨l.prog,w,K,mg,base⟩) ⟨X,G⟩ A Fl
end Fin
end
end Internal
open Internal
open PySem PySem.W PyProof.Rows
set_option maxRecDepth 100000 in
set_option maxHeartbeats 0 in
theorem PySem.Challenge.cw_knotwise_k43_whole_opened_is_all_choices_holds : PySem.Challenge.rw_knotwise_k43_whole_opened_is_all_choices.Holds := by
 w_on
 refine K2.N5 (q:=Fin.hQ) (K:=Fin.hK) (as:=Fin.hA) (N:=(12+(1+(1010+996)))) Fin.YK (@ba) (@ba) (λ_=>@ba) (λ_=>@ba) Fin.YL (by rfl) (by rfl) (by rfl) (by rfl) Fin.YJ ⟨rfl,rfl,rfl,rfl,rfl,@a5⟩ ?hw ?hc
 (case hw=>w_witness2)
 k_fill
 refine K2.QU (l:=aT) (k:=6) (x:="_law_script") rfl rfl ⟨rfl,@d,@d⟩ (λw h Y=>Y) ?F
 case F=>
  intro w mg fa h KX G hmg;exact Fin.all_mk KX G hmg K2.WT ⟨(by repeat first |exact K2.Va |refine K2.Qy ?_),K2.e9,K2.e9,K2.e9,K2.e9,K2.e9,K2.e9,K2.e9,K2.e9,K2.e9,K2.e9,K2.e9,K2.e9,K2.e9,K2.e9,K2.e9,K2.e9,K2.e9,K2.e9,K2.e9,K2.e9,K2.e9,K2.e9,K2.e9,K2.e9,K2.e9,K2.e9,K2.e9,K2.e9,K2.e9,K2.e9,K2.e9,K2.e9,K2.e9,K2.e9,K2.e9,K2.e9,K2.e9,K2.e9,K2.e9,K2.Se,K2.Se,K2.YS,K2.W0,⟨_,by k_is,by show _=_;first |k_is |kit_is,(K2.mem_cons (K2.mem_cons (K2.mem_cons K2.Em ⟨_,by k_is,by first |k_is |kit_is,(K2.qJ (x:="NoSpot")).xi⟩) ⟨_,by k_is,by first |k_is |kit_is,(K2.qJ (x:="KnotError")).xi⟩) ⟨_,by k_is,by first |k_is |kit_is,(K2.qJ (x:="NoName")).xi⟩)⟩,⟨_,by k_is,by show _=_;first |k_is |kit_is,(K2.mem_cons (K2.mem_cons (K2.mem_cons K2.Em ⟨_,by k_is,by first |k_is |kit_is,(K2.qJ (x:="NoSpot")).xi⟩) ⟨_,by k_is,by first |k_is |kit_is,(K2.qJ (x:="KnotError")).xi⟩) ⟨_,by k_is,by first |k_is |kit_is,(K2.qJ (x:="NoName")).xi⟩)⟩,⟨_,K2.qJ,(K2.mem_cons K2.Em ⟨_,K2.qJ,K2.Z3⟩)⟩⟩
