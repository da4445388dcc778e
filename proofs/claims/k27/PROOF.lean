import PyProof.Rows.All
import Wide.All
import OpenK.AllK
import Wide.FinOn
import Lean
import PyProof.EqAt
import PyProof.EqKinds
import PyProof.TupleCall
import PySem.Challenge.RW_knotwise_k27_lessening
open Array renaming getD_eq_getD_getElem? -> bg, getElem?_eq_getElem -> br, length_toList -> bR, getElem?_toList -> cj, getElem?_eq_none -> iV, mk -> jI, getD -> rj, toList_filterMap -> LZ
open Array.Perm renaming refl -> ng
open Bool renaming false_eq_true -> aj, and_eq_true -> aR, not_true -> aY, not_false -> a8, noConfusion -> bF, or_eq_true -> fS, false_ne_true -> fW, not_eq_true' -> jO, and_eq_true_iff -> jT, true_and -> ly, false_or -> tQ, false_and -> IE, and_false -> IF, true_or -> PZ, beq_eq_decide_eq -> P0
open Classical renaming byContradiction -> bX, choose -> PY
open False renaming elim -> bK
open ForInStep renaming yield -> tD
open Int renaming toNat_natCast -> b0, emod_lt_of_pos -> fZ, emod_nonneg -> iF, toNat -> xc, zero_add -> Qs
open List renaming getElem?_cons_zero -> aa, getElem?_cons_succ -> ae, length_cons -> af, set_cons_zero -> ah, length_map -> ai, set_cons_succ -> ao, length_append -> aq, length_nil -> av, map_cons -> az, getElem?_eq_getElem -> aB, cons_append -> aE, map_append -> aI, nil_append -> aJ, mem_cons_of_mem -> aL, map_nil -> aP, size_toArray -> aU, flatten_cons -> aW, replicate -> aX, mem_cons_self -> a9, getElem?_append_right -> bb, getD_eq_getElem?_getD -> bf, append_nil -> bq, getElem?_append_left -> bB, length_singleton -> bC, append_assoc -> bD, getElem_map -> bN, getElem?_map -> bP, getElem_mem -> bQ, length -> bS, mem_append_right -> bW, range -> bZ, length_drop -> cf, mem_cons -> cg, map_map -> cI, pairwise_map -> cL, filter_append -> cM, flatten_append -> cO, mem_of_getElem? -> cT, not_mem_nil -> cU, length_range -> cV, length_filter_le -> cX, flatMap_cons -> di, flatMap_append -> dA, nodup_cons -> dE, length_take -> dF, filter_cons -> dG, mem_append_left -> dJ, take_append_drop -> d8, find?_cons -> eg, mem_singleton -> eK, foldl_cons -> eM, mem_map_of_mem -> eU, getElem_of_mem -> eV, flatMap_singleton -> fH, nodup_nil -> fL, mem_of_find?_eq_some -> fM, pairwise_flatMap -> fP, length_replicate -> fQ, getElem?_set_self -> gI, drop_eq_getElem_cons -> gW, getElem?_set_ne -> iq, all_eq_true -> iS, getElem_range -> jg, mem_filter -> jz, length_set -> jA, nodup_append -> jN, perm_ext_iff_of_nodup -> jQ, lookup_cons -> kq, pairwise_singleton -> lq, getElem?_replicate -> lr, find?_some -> lu, take_of_length_le -> lO, length_pos_of_mem -> lP, drop_eq_nil_of_le -> lQ, mem_map -> mY, mem_flatMap -> nF, flatMap_nil -> nG, getElem?_of_mem -> nX, any_cons -> oy, map_congr_left -> pD, lookup -> pE, nodup_iff_pairwise_ne -> qt, getElem?_drop -> qI, find?_eq_none -> qJ, append_of_mem -> qK, length_erase_of_mem -> sD, getElem?_take_of_lt -> sE, find?_append -> sF, flatten_singleton -> uN, getElem?_eq_none -> wV, all_map -> wW, mem_erase_of_ne -> xV, idxOf_le_length -> xW, getElem?_range -> yV, filterMap_cons -> yW, take_nil -> AX, drop_nil -> AY, foldl_append -> BI, set_nil -> CJ, flatten -> CK, take_length -> Ee, countP_eq_length_filter -> Ez, perm_append_comm_assoc -> F9, of_mem_zip -> Ga, mem_append -> Gb, length_zip -> Gd, take_succ -> IB, rel_of_pairwise_cons -> IC, pairwise_iff_getElem -> ID, Nodup -> J7, pairwise_mergeSort -> LU, map_take -> LV, map_drop -> LW, all_cons -> LX, getElem_cons_succ -> Mq, find?_cons_of_pos -> Mr, find?_cons_of_neg -> Mt, getElem?_toArray -> PU, Perm -> PW, pairwise_append -> Qq, flatten_flatten -> Qr
open List.Nodup renaming length_le_of_subset -> lx
open List.Pairwise renaming imp_of_mem -> nY, filter -> rh
open List.Perm renaming swap -> oA, eq_of_pairwise -> Ef, append -> PV
open Nat renaming le_refl -> aS, ne_of_lt -> bx, lt_of_lt_of_le -> bT, zero_le -> ck, not_lt_zero -> cG, le_trans -> cY, lt_irrefl -> eR, lt_succ_self -> fB, lt_succ_of_lt -> iE, le_add_right -> iU, mod_lt -> i9, succ_pos -> kQ, zero_add -> nk, le_of_ble_eq_true -> nq, sub_self -> qS, add_sub_cancel_left -> ug, succ_le_succ -> uM, lt_of_succ_lt_succ -> uT, le_of_succ_le_succ -> uU, min_eq_left -> w9, le_succ -> zv, lt_of_le_of_lt -> A7, lt_trichotomy -> CI, le_of_lt -> Ed, succ_add -> Qo, sub_zero -> Qp
open Ne renaming symm -> cR
open Option renaming isSome_map -> qR
open Option.some renaming inj -> bA
open Prod.mk renaming injEq -> GA
open PyProof.Rows renaming callWith_type1 -> fX, IntsAre -> kC, callWith_builtin1 -> kP, slot_tuple_getitem -> wU, seqObj -> xU, preSum_getD -> A5, AllBare -> CL, envOfC -> Eu
open PyProof.Rows.F renaming plain_set_update_loop -> uV, entry_set_update_loop -> Qu
open PySem renaming wpAny_bind -> ay, Shared -> aF, wpAny_pure -> aK, sizeLine -> bw, starEach -> bG, Program -> bI, mainGlobals -> bJ, wpAny_loadPart' -> b7, sizeLine_eq -> cq, bootBuiltins -> cZ, Around -> c7, FuncData -> dH, wpAny_newObj_type -> dZ, wpAny_holding -> fe, wpAny_call_entry -> fJ, compareOp -> fN, ReadsAll -> fV, Params -> gf, sysModules -> gL, foldedSetIterable -> gM, codeAny_builtin -> gP, wpAny_Call_Name_kw -> ij, treeTable -> ik, SetTable -> ip, mem_of_lookup -> iL, wpAny_callSpecial?_slot -> jb, binaryOp -> jc, OsState -> jf, wpAny_typeNameOfWhole_keyiter -> jn, assignEach -> jy, wpAny_passesOwn -> jV, backTo -> jX, wpAny_pyIter_list -> kn, plainId_quiet -> ko, wpAny_typeNameOf_keyiter -> lJ, tupleKind_room_in1 -> mq, importedModules -> mw, wpAny_truthy_bool -> nT, wpAny_setState_of -> nU, wpAny_mono -> nV, argBest -> nW, wpAny_forIn_list -> pI, swapsWith -> qU, sliceBounds -> qV, richCompare -> qW, codeAny -> qY, wpAny_pyIter_tuple -> tM, pyNext -> tN, codeAny_mono -> tO, NameKind -> tP, wpAny_setField -> ud, wpAny_seqItems -> ue, ofAClassStatement -> uP, DictEntry -> uW, holding -> w4, attributeBase -> w5, richCompare_meets_room -> yx, wpAny_updateSeq -> zj, wpAny_execs_nil -> zk, tupleKind -> zm, letOwnedTupleGo -> zo, assign -> zr, call_meets -> AW, wpAny_tryCatch -> BC, wpAny_fieldsOf -> BD, rawInt -> BE, firstArgMember -> BF, carriedByValue -> BG, wpAny_setEntries_of -> CB, wpAny_of_eq -> CC, wpAny_standAt -> Es, wpAny_attempt -> Et, wpAny_truthy_dict -> Gn, wpAny_pyIter_slot -> Gq, wpAny_dictEntries -> Gr, searchCouldBeSeen -> Gs, relabel -> Gu, callerA -> Gv, wpAny_callSpecialIfBound?_slot -> Iq, pyIter -> Ir, call -> Iv, wpAny_isInstance -> J0, wpAny_askSetting -> J1, bindArgs -> LS, wpAny_letGo -> Mh, wpAny_dictEpoch -> Mi, valueAt -> Mj, hashByValue -> Mn, Within -> Mp, isSubtype_type -> Qk
open PySem.Around renaming under_plainId -> fj, under -> L0
open PySem.AutoSeq1 renaming sub_tuple_tuple -> qw, sub_list_list -> GD
open PySem.Builtin.Builtins renaming bindParams -> wX
open PySem.Builtin.Dict renaming showsAll -> Eh
open PySem.Builtin.Dict_items renaming ownsTuple -> uh
open PySem.Builtin.List renaming listTooLong -> jH, listLengthHint -> yY
open PySem.Builtin.Slice renaming slicePlaces -> ji, sliceAdjust -> nv, sliceApplied -> yX
open PySem.Builtin.Tuple renaming tupleExact -> jC, tupleCompareSizes -> uX
open PySem.Calls renaming spliced_cons -> qu, Name_function_global -> Gf
open PySem.Code renaming isFrame -> PX
open PySem.F renaming plain_min_loop -> jh, slot_dict_keyiterator_next -> jB, plainAttrs_list -> kB, slot_tuple_lt -> lN, args_tuple_lt_2 -> rg, entry_tuple_lt -> tu, slot_dict_get -> uf, slot_list_lt -> uR, args_tuple_add_2 -> F8, args_dict_keyiterator_next_1 -> Ge, slot_list_index -> Gx, entry_tuple_add -> Gy, args_dict_get_3 -> Gz, entry_min_loop -> GB, entry_dict_keyiterator_next -> GC, slot_tuple_add -> Iy, entry_dict_get -> Iz, args_list_lt_2 -> IA, slot_set_iter -> J3, entry_list_lt -> J4
open PySem.Heap renaming get?_push_of_some -> aO, lt_size -> aQ, get?_push_size -> bc, get?_update_other -> c9, size_push -> dI, get?_update_self -> fR, SameBut -> mZ, size_update -> Eg, get?_none_of_le -> Qt
open PySem.Heap.SameBut renaming update -> gb
open PySem.IsTupleKey renaming typeIs -> LY
open PySem.NameKind renaming free -> ku
open PySem.Obj renaming data_mapFields -> fY, mapSeq -> i8, putSet -> tx, isFreed_of_fields -> w8, mapFields -> A6, cls_mapFields -> CH
open PySem.Paired renaming length -> sC
open PySem.PassesOwn renaming never -> Qn
open PySem.PyData renaming depthAll -> bV, eqv -> uS
open PySem.SeqAt renaming items_eqAt -> nj, any_by_data -> rf, readOf -> BH
open PySem.SetTable renaming below -> Ec, fill -> F7
open PySem.Str renaming ofString -> w6
open PySem.Value renaming ref -> d4, none -> fu, int -> qZ, bool -> wQ, str -> Ew, type -> Iu
open PySem.W renaming Frag -> aC, emptyDict -> fD, boot_heap -> gy, kas_rev -> gO, findIn -> gQ, instObj -> gY, boot_drawn -> ig, kia_one -> jd, fnOf -> je, kas_place -> jW, kas_desc -> lj, topFrame -> mr, SharedT -> my, nsIn -> pC, keepIn -> pJ, kas_asc -> qX, plainGet -> sy, boot_toks -> uQ, lookIn -> wR, plainGet_of -> w7, callWith_K -> yy, kas_descPart -> zq, methodObj -> zt, hasDictIn -> zu, takerIn -> CF, OpenLaw -> CG, codeIn -> Ey, cellsFrom_some -> Iw, isFn -> J2, openGood -> LO, boot_o_2 -> LP, boot_o_1 -> LQ, boot_o_0 -> LR, segRunT -> Ml, kas_tail3 -> Mm, plainOver -> Qm
open PySem.W.KasT renaming ret -> xb
open PySem.Walks renaming list -> A4, tuple -> Ql
open Sum renaming inl -> CD, inr -> Gw
open True renaming intro -> iT
set_option hygiene false
set_option compiler.extract_closed false
local macro_rules
|`(@af)=>`((.inl rfl))
|`(@Z)=>`(‹_›)
|`(@e)=>`(by decide)
|`(@o)=>`((@e))
|`(@t)=>`((·.1))
|`(@aV)=>`(by kernel_rfl)
|`(@D)=>`(List Str)
|`(@B)=>`(List Value)
|`(@O)=>`((.type "tuple"))
|`(@bn)=>`((.type "ValueError"))
local macro_rules
|`(@aD)=>`((.type "dict"))
|`(@a2)=>`((.str "knotwise.errors" 187))
|`(@bO)=>`(.type "BaseException")
|`(@a3)=>`((.type "object"))
|`(@W)=>`(.false)
|`(@bP)=>`((some (.builtin "ValueError.__new__")))
|`(@aa)=>`((.bool .true))
|`(@p)=>`((.str "knotwise.moves" 471))
|`(@aI)=>`((.type "code"))
|`(@g)=>`((.int 0 0))
local macro_rules
|`(@aG)=>`((.int 3 0))
|`(@aJ)=>`((.int 181 0))
|`(@bB)=>`((.type "builtin_function_or_method"))
|`(@aS)=>`((.str "law_knotwise_k27_lessening" 932))
|`(@bu)=>`((.str "knotwise.drawings" 303))
|`(@aY)=>`((.str "knotwise.fits" 372))
|`(@aE)=>`(List Addr)
|`(@bG)=>`((.builtin "object.__init_subclass__"))
|`(@aw)=>`((.int 4 0))
|`(@bT)=>`(K2.Mx PySem.Challenge.rw_knotwise_k27_lessening hQ)
local macro_rules
|`(@A)=>`(List V)
|`(@R)=>`(some u)
|`(@Y)=>`(.int i)
|`(@N)=>`(List Key)
|`(@j)=>`(some o)
|`(@aK)=>`(h.get? a)
|`(@ak)=>`(.type "list")
|`(@v)=>`(List α)
|`(@aA)=>`(h.get? b)
|`(@al)=>`(h'.get? b)
local macro_rules
|`(@y)=>`(List (Addr×Obj))
|`(@aQ)=>`(Str->Option Value)
|`(@ae)=>`(aF->Prop)
|`(@H)=>`(Value->@ae)
|`(@bH)=>`(sc.names.lookup x)
|`(@a8)=>`(some .local)
|`(@aT)=>`(some .cell)
|`(@bD)=>`(X.env.cells.lookup x=some c)
|`(@a5)=>`(X.calm=true)
|`(@bJ)=>`(b≠X.env.locals)
local macro_rules
|`(@S)=>`(some v)
|`(@l)=>`(Inv X pins σ H s)
|`(@ar)=>`(s.heap.get? b)
|`(@ad)=>`(by simp)
|`(@k)=>`((@ad))
|`(@bv)=>`(by simpa using hb)
|`(@bQ)=>`(X.env.scope.names.lookup x)
|`(@aZ)=>`({ s with heap:=h' })
|`(@w)=>`(λ_ _=>False)
|`(@s)=>`((model X.prog X.w))
local macro_rules
|`(@aB)=>`(I.tok _)
|`(@ah)=>`(⟨_,rfl⟩)
|`(@aN)=>`(List Expr)
|`(@Q)=>`((.ref a))
|`(@bp)=>`({ s with heap:=h',toks:=tk })
|`(@aP)=>`(⟨rfl,rfl⟩)
|`(@bb)=>`(.ref s.heap.objs.size)
|`(@T)=>`((aS _))
|`(@d)=>`(by lia)
|`(@c)=>`((@d))
local macro_rules
|`(@ai)=>`((.ref C))
|`(@L)=>`((model prog w))
|`(@aO)=>`(s.heap.objs.size+1)
|`(@bE)=>`(by simpa using h)
|`(@bl)=>`(by simpa using h2)
|`(@G)=>`(List Int)
|`(@X)=>`(.ref b)
|`(@aU)=>`(Option Int)
|`(@bI)=>`(jF items.size 0 lo)
|`(@bR)=>`(jF items.size items.size hi)
local macro_rules
|`(@U)=>`(.ref p)
|`(@bk)=>`(DecidableEq κ)
|`(@f)=>`(List D)
|`(@ay)=>`(List (D×D))
|`(@u)=>`(Gp->Prop)
|`(@ba)=>`(some (.lst ds))
|`(@aF)=>`(C == "int")
|`(@aC)=>`(List Nat)
|`(@r)=>`((@w))
|`(@bj)=>`(ns.map D.int)
local macro_rules
|`(@E)=>`(dM G G')
|`(@ab)=>`(.int b)
|`(@ag)=>`(DecidableEq α)
|`(@bi)=>`(xs.map enc)
|`(@aH)=>`(by cases h)
|`(@ao)=>`(by decide +kernel)
|`(@bs)=>`(runEnd m x.1 - x.1)
|`(@a_)=>`(below t.place j)
|`(@br)=>`((probeStart t h))
|`(@am)=>`((λ_ _ _ _=>trivial))
local macro_rules
|`(@bz)=>`(I2 X pins σ H τ G s)
|`(@bo)=>`(Mv X.K H G H' G')
|`(@bd)=>`((qQ X pins σ H G Q))
|`(@bF)=>`((bG (e :: es) X.env=(false,eval e X.env) :: bG es X.env))
|`(@av)=>`(.refl ab)
|`(@bq)=>`(X.A.units+64 < cLine)
|`(@ap)=>`((kS false))
|`(@bw)=>`((dw X N scope C s H fp))
|`(@bK)=>`((.ListComp elt [⟨tg,iter,ifs,0⟩] scope pos))
|`(@bC)=>`(dw X N scope s3.heap.objs.size s3 H3 fp)
local macro_rules
|`(@C)=>`((ends Q))
|`(@bt)=>`(min xs.size ys.size)
|`(@ax)=>`(zs.getD i .dj)
|`(@bg)=>`(i < zs.length)
|`(@V)=>`(TK prog w)
|`(@bx)=>`((by intro z;cases z))
|`(@az)=>`(by rw [ai];lia)
|`(@F)=>`(List T3)
|`(@bL)=>`(rows.flatten.map T3.s)
|`(@i)=>`((ak 0))
local macro_rules
|`(@n)=>`((ak 1))
|`(@q)=>`((ak 2))
|`(@aq)=>`(enc rows)
|`(@K)=>`(some (@aq))
|`(@aj)=>`(some (@U))
|`(@bS)=>`(pre.flatten.length+r.length<=rows.flatten.length)
|`(@ac)=>`((ag @i aH))
|`(@M)=>`((dC (.int 0)))
|`(@an)=>`((dC (.int 2)))
|`(@a7)=>`(List (T2×T2))
local macro_rules
|`(@bM)=>`(rows.flatten.length<=500)
|`(@be)=>`(pairsOf rows)
|`(@as)=>`((dD (@be)))
|`(@z)=>`((dC (.int 1)))
|`(@I)=>`((ak 3))
|`(@aM)=>`(r.map enc)
|`(@J)=>`(Dr rows)
|`(@bN)=>`(List.mem_cons.mp hp)
|`(@m)=>`(names rows)
|`(@aL)=>`((ag @n aH))
local macro_rules
|`(@a4)=>`((bE (cA (dC (.bl false)))))
|`(@a6)=>`((.lst ((@m).map enc)))
|`(@bm)=>`(lK o (tF a b 0 h) rows 0)
|`(@au)=>`(⟨a,0⟩)
|`(@a0)=>`(ky rows.flatten)
|`(@aR)=>`(⟨_,_,rfl⟩)
|`(@aX)=>`(some (.int c))
|`(@bc)=>`((pre.length:Nat))
|`(@bh)=>`(handOf rows a)
|`(@a9)=>`(handOf rows b)
local macro_rules
|`(@a1)=>`(some (.int a))
|`(@aW)=>`(nh rows a b c t)
|`(@bf)=>`((qi rows).map td)
|`(@bA)=>`(jx rows.flatten)
|`(@P)=>`(λ_ _ _ _ _ _ _=>eY)
local macro_rules
|`(tactic|ext d)=>`(tactic|(dsimp only))
|`(tactic|ext c)=>`(tactic|(rintro rfl))
|`(tactic|ext f)=>`(tactic|(first | obtain⟨_,rfl⟩:=dQ h1 | obtain⟨_,rfl⟩:=dO h1 | obtain⟨_,rfl⟩:=dP h1))
|`(tactic|ext g)=>`(tactic|(first | obtain⟨_,rfl⟩:=dQ h2 | obtain⟨_,rfl⟩:=dO h2 | obtain⟨_,rfl⟩:=dP h2))
|`(tactic|ext e)=>`(tactic|(intro E pins s σ H τ G Q hE I h))
|`(tactic|ext i)=>`(tactic|(exact bF (show false=true from ht)))
set_option Elab.async false
set_option linter.all false
set_option maxRecDepth 100000
set_option maxHeartbeats 4000000
set_option genSizeOf false
set_option genInjectivity false
set_option compiler.extract_closed false
namespace Internal
theorem Ac(h:0=0:=by kernel_rfl):0=0:=h
theorem Ad(h:0=0:=by decide):0=0:=h
theorem Ai(h:0=0:=by intro _;rfl):0=0:=h
theorem Ak(h:0=0:=by decide +kernel):0=0:=h
theorem Am(h:0=0:=by exact a9):0=0:=h
theorem An(h:0=0:=by exact nq rfl):0=0:=h
theorem Ao(h:0=0:=by first | exact .inl rfl | exact .inr rfl | exact .inr @af | exact .inr (.inr rfl) | assumption):0=0:=h
theorem Aq(h:0=0:=by k_is):0=0:=h
theorem Ar(h:0=0:=by rfl):0=0:=h
theorem ZV(h:0=0:=by exact scm):0=0:=h
theorem Aub(h:0=0:=by intro _ _ _ _ _ _ us hl;rcases us with _ | ⟨_,_ | ⟨_,_ | ⟨_,_ | ⟨_,_ | ⟨_,_⟩⟩⟩⟩⟩ <;> first | rfl | (simp at hl;done)):0=0:=h
theorem Y0(h:0=0:=by intro ds G Q E h;iterate 14 (first | done | (obtain⟨e,_⟩:=h;(subst e);rfl) | (obtain⟨_,h⟩:=h))):0=0:=h
theorem YZ(h:0=0:=by intro _;kernel_rfl):0=0:=h
theorem ZU(h:0=0:=by exact K2.Gh):0=0:=h
theorem Auf(h:0=0:=by(repeat intro _);show _=_;kernel_rfl):0=0:=h
theorem Aug(h:0=0:=by exact K2.VM):0=0:=h
theorem Auh(h:0=0:=by exact K2.UZ):0=0:=h
theorem Aui(h:0=0:=by repeat' first | (show eQ _ _ _;first | (show eQ _ _ (ak _);exact pvK) | (show eQ _ _ (dC _);first | exact Rz | exact UE | exact Ru) | (show eQ _ _ (aN _ _ _);first | refine UA @Z ?_ ?_ (λ_ _=>rfl) | refine Uz ?_ ?_ ?_ | refine RB ?_ ?_ ?_ (NN _)) | refine UB ?_ | (show eQ _ _ (aZ _ _);refine aas @Z @Z ?_) | refine Rt ?_ | refine Ry ?_ | (show eQ _ _ (fC gV _);refine SO LD VS @Z @Z ?_) | (show eQ _ _ (gr _ _ _);refine RC @Z ?_) | (show eQ _ _ (kh _ eZ _ _);refine WX kB PySem.F.slot_list_append PySem.F.type_list_append u4 Hj ?_ ?_) | (show eQ _ _ (dS _ _ _ _ _ _);refine UC @Z ?_ (λ_ _ _ _ _=>?_) (λ_ _ _ _=>?_) λ_ _ _ _=>?_) | refine KA ?_ ?_ ?_ | refine Ux ?_ ?_ | (show eQ _ _ (uG _ _);first | refine vL _ @o Gh ?_ Gh ?_ Pt ?_ | refine vL _ @o Gh ?_ Gh ?_ VT ?_ | refine vL _ @o Gh ?_ Gh ?_ Sk ?_ | refine vL _ @o Gh ?_ Gh ?_ VP ?_ | refine vL _ @o Gh ?_ Gh ?_ JQ ?_) | (show eQ _ _ (fC gx _);refine SO (AE rfl @Z) tm @Z @Z ?_) | (show eQ _ _ (nR _ _ _);refine Rx @Z @Z ?_) | (show eQ _ _ (fC nS _);refine ptK HW JQ @Z @Z ?_) | exact RA | (show eQ _ _ (mV _ _ _ _);refine KC ?_ ?_ ?_) | refine RD ?_ ?_ | (show eQ _ _ (kh _ nO _ _);refine WX kB PySem.F.slot_list_insert PySem.F.type_list_insert u4 Hh ?_ ?_) | refine Uy ?_ ?_ | (show eQ _ _ (fC FT _);refine SO (LC rfl @Z) VQ @Z @Z ?_) | (show eQ _ _ (fC FQ _);refine SO (LB rfl) VO @Z @Z ?_) | refine Rw ?_ | (show eQ _ _ (kh _ sO _ _);refine WX kB PySem.F.slot_list_extend PySem.F.type_list_extend u4 Hi ?_ ?_) | (show eQ _ _ (fC pz _);refine SO (Bw rfl @Z) tm @Z @Z ?_) | (show eQ _ _ (fC AF _);refine SO (HV rfl @Z) VR @Z @Z ?_) | (show eQ _ _ (fC _ _);refine zM rfl @Z Gh ?_ Gh ?_ ?_) | (show eQ _ _ (fC Pr _);refine SO (LF rfl) VU @Z @Z ?_) | (show eQ _ _ (fC (mW _) _);refine SO (Bv rfl @Z) tm @Z @Z ?_) | (show eQ _ _ (kh _ xm _ _);refine WX kB Gx PySem.F.type_list_index u4 (KR @Z) ?_ ?_) | (show eQ _ _ (kh _ B4 _ _);refine WX PySem.F.plainAttrs_dict uf PySem.F.type_dict_get MD (NS @Z) ?_ ?_) | refine Rv ?_) | (show yq _ _ _;first | (show yq _ _ (ag _ _);refine paK ?_ ?_) | exact y8) | (show sg _ _ _;first | refine Ku ?_ ?_ | exact Nk | refine Nj ?_) | (show xN _ _ _;first | (show xN _ _ (bh _ _);first | refine Uq @Z @Z ?_ (λ_ _ _ _ _=>?_) (λ_ _ _ _=>?_) λ_ _ _ _=>?_ | refine psK @Z ?_ | refine pqK ?_ ?_) | refine Rb ?_ | refine Ur ?_ ?_ ?_ | (show xN _ _ (cS _ _ _);refine pfK Qn ?_ ?_ ?_) | (show xN _ _ (cp _);refine pxK ?_) | (show xN _ _ (ja _ _ _ _);refine Q9 @Z ?_ ?_) | exact Kw | refine Kv Qn ?_ ?_ | refine Rc ?_) | (show pB _ _ _;first | (show pB _ _ (kS _);first | exact UT @Z | exact UP @Z) | exact RM | exact RN | exact RL | exact NI | exact RJ | (show pB _ _ (Df _);first | exact UR @Z | exact KL @Z) | exact UQ @Z | exact US | exact RK) | (show FY _ _ _;first | (show FY _ _ (cW _);first | refine Jc ?_ ?_ ?_ (NN _) | refine Jc ?_ ?_ ?_ (by with_unfolding_all rfl) | refine pzK ?_) | refine Q8 ?_ | refine PF.pt ?_) | (show zi _ _ _;first | (show zi _ _ (aG _);exact pgK @Z) | (show zi _ _ (mT _);refine Rm rfl ?_ ?_) | (show zi _ _ (xw _ _);refine pyK @Z ?_ ?_) | (show zi _ _ (Lq _);refine Rp rfl ?_ ?_)) | (show FZ _ _ _ _;first | refine Rl ?_ | (show FZ _ _ _ (mO _);refine GZ Gh ?_ ?_) | (show FZ _ _ _ (Cd _ _);refine GY Gh ?_ ?_ ?_) | (show FZ _ _ _ (Oy _ _);refine Rk Gh ?_ ?_ ?_)) | (show F3 _ _ _;first | (show F3 _ _ (fx _ _);refine Kz ?_ ?_) | exact Nv) | (show PF _ _ _;first | refine Uk ?_ ?_ | refine Q6 ?_ ?_ | refine Q5 ?_ | refine Ng ?_) | (show YH _ _ _;first | refine Nr ?_ | exact Nt) | refine Xj @Z @Z ?_ | exact NT | exact QC | (show _=none;exact noX @Z @Z) | refine Lo ?_ | exact .none | exact OT | refine .some ?_):0=0:=h
namespace L2
open PySem PySem.Spec PyProof.Rows
def gE(s:Stmt):Arguments:=match s with
 | .FunctionDef _ a _ _ _ _ _ _ _ _=>a
 | _=>{ posonlyargs:=[],args:=[],vararg:=none,kwonlyargs:=[],kw_defaults:=[],kwarg:=none,defaults:=[] }
def eO(s:Stmt):List Stmt:=match s with
 | .FunctionDef _ _ b _ _ _ _ _ _ _=>b
 | _=>[]
def b9(s:Stmt):Scope:=match s with
 | .FunctionDef _ _ _ _ _ _ sc _ _ _=>sc
 | _=>{ kind:=.function,names:=[],isGenerator:=false,isCoroutine:=false }
end L2
namespace K2
open PySem PySem.W PySem.Spec PyProof.Rows PySem.Calls
theorem K5(e:opening p=plainProg p.main.scope.names)(hN:Nat.ble 600 N=true)(f:∀ s,fenceModules? p s=some s)
  (h:∀ (w:World) (os:jf),(topFrom ik p w N ⟨gy w.params,jI [],ig,uQ,os⟩).map (λs=>(openSeen q loose (mw p.main.body) Xt true s,Yf s))=some (LO q loose,Ya w)):LeftO p q loose Xt Yf Ya N:=λw=>by
 obtain⟨⟨h',gs,d,k,os⟩,e1,e2⟩:=Option.map_eq_some_iff.mp (boot_open e hN f w);obtain⟨rfl,rfl,rfl,rfl⟩:h'=gy w.params/\gs=jI []/\d=ig/\k=uQ:=by simpa using e2
 unfold openEnds;rw [e1];exact h w os
abbrev IK(l:OpenLaw)(q:bI):Bool:=chainsOk q&&opensWell l.row.prog&&(frees l.row.toRowW&&l.row.within.isEmpty)
abbrev Mx(l:OpenLaw)(q:bI)(s:aF):Bool:=xlAt q [] s&&recOk l.row.records s
theorem Ll{K:gf->Frag}(ok:l.wellSaid=true)(e:opening l.row.prog=plainProg l.row.prog.main.scope.names)(hN:Nat.ble 600 N=true)(f:∀ s,fenceModules? l.row.prog s=some s)(hK:∀ P,as=(K P).map @t)
  (h:∀ (w:World) (os:jf),(topFrom ik l.row.prog w N ⟨gy w.params,jI [],ig,uQ,os⟩).map (λs=>(openSeen q loose (mw l.row.prog.main.body) (Mx l q) true s,as.map s.heap.get?))=some (LO q loose,(K w.params).map λp=>some p.2))
  (hd:defOf q l.row.name=some (d,[])) (hp:l.row.prog.theDef l.row.name=some (d.params,d.body,d.scope)) (hk:kwWritten? d.params.kwonlyargs d.params.kw_defaults=some []) (hr:(!l.row.writes||l.row.records.isEmpty)=true) (ht:IK l q=true) (hb:l.row.prog.bare) (hw:l.row.toRowW.promised)
  (c:WalkO q loose (XL q []) (InK K) l.row.toRowW d [] λf vs=>Iv f vs):l.Holds :=
 holds_law ok λk1=>holds_open (K5 (Yf:=Hook.obs (kHook K as hK)) (Ya:=Hook.val (kHook K as hK)) e hN f h) (Hook.of (kHook K as hK)) (Hook.keeps (kHook K as hK)) (λs x=>xl_of s (Bool.and_eq_true_iff.mp x).1) XL.keeps hd hp hk (λs x=>recFacts_of (Bool.and_eq_true_iff.mp x).2) hr k1 ht hb hw c
def u5(tb:String->Option Builtin)(p:bI)(w:World)(oS:Nat)(ann:Option Value):Nat->my->Thread->Option my
 | 0,_,_=>none
 | n+1,s,t=>match through t with
  | true=>some s
  | false=>match stepOk oS ann t with
   | false=>none
   | true=>match stepT (denote tb) p w s t with
    | some (s',t')=>u5 tb p w oS ann n s' t'
    | none=>none
theorem QS:∀ {n:Nat} {s s':my} {t:Thread},u5 tb p w oS ann n s t=some s'->topRun tb p w oS ann n s.abs t=some s'.abs:=by
 intro n;induction n with
 | zero=>intro s s' t h;cases h
 | succ n ih =>
  intro s s' t h;unfold u5 at h;unfold topRun;cases ht:through t with
  | true=>rw [ht] at h;cases h;rfl
  | false =>
   rw [ht] at h;cases hk:stepOk oS ann t with
   | false=>rw [hk] at h;cases h
   | true =>
    rw [hk] at h;cases hs:stepT (denote tb) p w s t with
    | none=>rw [hs] at h;cases h
    | some r =>
     obtain⟨jR,Z3⟩:=r;rw [hs] at h;rw [stepT_spec hs];exact ih h
def bt(l:List Obj):BT:=(l.foldl (λ(p:BT×Nat) o=>(p.1.ins p.2 o,p.2+1)) (BT.nil,0)).1
noncomputable def Pu(P:gf)(os:jf):my:=⟨bt (gy P).objs.toList,(gy P).objs.size,(gy P).life,jI [],ig,uQ,os⟩
theorem LG(P)(os):(Pu P os).abs=⟨gy P,jI [],ig,uQ,os⟩:=@aV
noncomputable abbrev Jp{α:Type}(p q)(loose)(Xt)(Yf:aF->α)(P)(s):=((staticsOk (mw p.main.body) (gy P) s.heap&&namesBound p s.heap&&gensDone s&&laidKept (gy P) s.heap),openSeen q loose (mw p.main.body) Xt true s,Yf s)
def Yi(tb:String->Option Builtin)(p:bI)(w:World)(oS:Nat)(ann:Option Value):Nat->my->Thread->Option (my×Thread)
 | 0,s,t=>some (s,t)
 | n+1,s,t=>match through t with
  | true=>none
  | false=>match stepOk oS ann t with
   | false=>none
   | true=>match stepT (denote tb) p w s t with
    | some (s',t')=>Yi tb p w oS ann n s' t'
    | none=>none
section
variable {tb:String->Option Builtin} {p:bI} {w:World} {oS:Nat} {ann:Option Value} {b:List Stmt} {env:Env} {c:Code} {q pos p':Pos}
theorem Vu:∀ {n:Nat} {s s':my} {t t':Thread},Yi tb p w oS ann n s t=some (s',t')->topGo tb p w oS ann n s.abs t=some (s'.abs,t'):=by
 intro n;induction n with
 | zero=>intro s s' t t' h;cases h;rfl
 | succ n ih =>
  intro s s' t t' h;unfold Yi at h;unfold topGo;cases ht:through t with
  | true=>rw [ht] at h;cases h
  | false =>
   rw [ht] at h;cases hk:stepOk oS ann t with
   | false=>rw [hk] at h;cases h
   | true =>
    rw [hk] at h;cases hs:stepT (denote tb) p w s t with
    | none=>rw [hs] at h;cases h
    | some r =>
     obtain⟨jR,Z3⟩:=r;rw [hs] at h;rw [stepT_spec hs];exact ih h
theorem LA(h1:Yi tb p w oS ann nA s0 (topStub p)=some (sA,⟨denote tb (.body b env),c,pos,[mr q]⟩))(h2:Ml tb p w oS ann 1 nB sA (blockOf b env c pos [mr q])=some (.next,sB,c,p'))
  (k:topRun tb p w oS ann N sB.abs (restOf b env c p' [mr q])=some r):topRun tb p w oS ann (nA+(nB+N)) s0.abs (topStub p)=some r:=go_top (Vu h1) (piece_block (segRun_of h2) k)
theorem wt(k)(h:Ml tb p w oS ann 1 n s (piecesOf (b.take k) env c pos [mr q])=some (.next,s',c,p'))
  (hk:topRun tb p w oS ann N s'.abs (restOf (b.drop k) env c p' [mr q])=some r):topRun tb p w oS ann (n+N) s.abs (restOf b env c pos [mr q])=some r:=by
 have:=piece_app (segRun_of h) hk
 rwa [d8] at this
end
theorem N9{σ α β γ:Type}{o:Option σ}{F:σ->α×β×γ}{a:α}{b:β}{c:γ}(h1:o.map (λs=>((F s).1,(F s).2.2))=some (a,c))(h2:o.map (λs=>(F s).2.1)=some b):o.map F=some (a,b,c):=by
 cases o with
 | none=>cases h1
 | some s =>
  have e1:=bA h1;have e2:(F s).2.1=b:=bA h2;show some ((F s).1,(F s).2.1,(F s).2.2)=_;rw [e2,show (F s).1=a from congrArg @t e1,show (F s).2.2=c from congrArg (·.2) e1]
theorem QG{p q:bI}{loose:@D}{Xt:aF->Bool}{α:Type}{Yf:aF->α}{Ya:World->α}{N M:Nat}{w:World}{os:jf}{RS:Nat}{ann:Option Value}{sL:my}{tL:Thread}
  (hz:((gy w.params).isNs bJ,(gy w.params).objs.size,(gy w.params).nsMap bJ "__annotations__")=(true,RS,ann))
  (h:(u5 ik p w RS ann M sL tL).map (λs=>Jp p q loose Xt Yf w.params s.abs)=some (true,LO q loose,Ya w))
  (k:∀ r,topRun ik p w RS ann M sL.abs tL=some r->topRun ik p w RS ann N (Pu w.params os).abs (topStub p)=some r) :
  (topFrom ik p w N ⟨gy w.params,jI [],ig,uQ,os⟩).map (λs=>(openSeen q loose (mw p.main.body) Xt true s,Yf s))=some (LO q loose,Ya w):=by
 obtain⟨s,e1,e2⟩:=Option.map_eq_some_iff.mp h;have r:=k _ (QS e1);rw [LG] at r;obtain⟨z1,z2,z3⟩:_/\_/\_:=by simpa only [GA] using hz
 obtain⟨l1,l2,l3⟩:_/\_/\_:=by simpa only [GA] using e2
 have t:topFrom ik p w N ⟨gy w.params,jI [],ig,uQ,os⟩=some s.abs:=by
  unfold topFrom;ext d;have g:((jI []:Array GenState).size == 0)=true:=rfl;rw [z1,z2,z3,g,ly,r];dsimp only [Option.bind_some];rw [l1]
 rw [t];exact congrArg some (Prod.ext l2 l3)
end K2
namespace Fin
open PySem PySem.Spec PyProof.Rows L2 K2
def top(i:Nat):Stmt:=PySem.Challenge.pw_knotwise_k27_lessening.main.body.getD i (.Pass ⟨0,0,0,0⟩)
def og(i j:Nat):Stmt:=match top i with | .ClassDef _ _ _ b _ _ _ _ _ _ _=>b.getD j (.Pass ⟨0,0,0,0⟩) | s=>s
section
open PySem.W PySem.Calls
def hC (n:Str) (t:Nat) (l:@B):Obj:=⟨.type "code",none,.fields (.str n t :: .str n (t+1) :: .str "/claim/cut.py" (t+2) :: l).toArray,#[]⟩
def hI(n:Int):Value:=.int n 0
def hR(n:Nat):Value:=.ref n
def hN:Value:=.none
def hT:Value:=.bool true
def hS (n:Nat):Value:=.str "/claim/cut.py" n
def hD(n:Str)(t:Nat)(l a:Int)(r:Nat)(x y z:Value)(u:Nat):Obj:=hC n t [hI l,hI a,hI 0,hI 0,hI 3,hR r,hT,hI 181,hR (r+1),hN,x,y,z,hI (u - 1),hI l,hS u]
abbrev hF (i:Nat) (n:Str) (m c:Value):Obj:=⟨.type "function",none,.func (je n n (gE (top i)) (eO (top i)) (b9 (top i)) .none .none .none m none c .none),#[]⟩
abbrev hM (i j:Nat) (n q:Str) (m c:Value):Obj:=⟨.type "function",none,.func (je n q (gE (og i j)) (eO (og i j)) (b9 (og i j)) .none .none .none m none c .none),#[]⟩
abbrev hE(P:gf)(s:Str)(t:Nat)(v:Value):uW:=⟨PyData.keyHash P s,.str s t,v⟩
def hQ:bI:=PySem.W.view PySem.Challenge.pw_knotwise_k27_lessening [1,2,3,4,5,6,7,9,10,11,12,13,14,15,16,17,19,20,21,22,23,24,25,26,27,28,29,31,32,33,34,35,36,37,38,39,40,41,42,43,44,45,46,48,49,50,51,52,53,54,55,56,57,58,59,60,61,62,63,64,65,66,67,68,69,70,71]
def o0:Obj:=⟨@O,none,(.seq #[@bn] 0),#[]⟩
def o1:Obj:=⟨@O,none,(.seq #[] 0),#[]⟩
def o2 (P:gf):Obj:=⟨@aD,none,(.dict #[hE P "__module__" 196 @a2,hE P "__firstlineno__" 200 (.int 2 199),hE P "__static_attributes__" 201 (.ref 22),hE P "__weakref__" 203 (.ref 25),hE P "__doc__" 204 .none] 3),#[]⟩
def o3:Obj:=⟨(.type "getset_descriptor"),none,(.fields #[(.str "__weakref__" 202),(.ref 24),(.builtin "ExceptionGroup.__weakref__"),.none]),#[]⟩
def o4:Obj:=⟨@O,none,(.seq #[(.ref 24)] 0),#[]⟩
def o5 (P:gf):Obj:=⟨@aD,none,(.dict #[hE P "__module__" 214 @a2,hE P "__firstlineno__" 218 (.int 4 217),hE P "__static_attributes__" 219 (.ref 35),hE P "__doc__" 220 .none] 2),#[]⟩
def o6:Obj:=⟨(.type "type"),none,(.cls ⟨"NoName",[(.ref 24)],[(.ref 37),(.ref 24),@bn,(.type "Exception"),(@bO),@a3],36,"NoName",.true,[],[],@W,none,@W⟩),#[(some (.ref 28)),none,(some (.str "NoName" 207)),(some (.str "NoName" 215)),@bP,(some @aa)]⟩
def o7 (P:gf):Obj:=⟨@aD,none,(.dict #[hE P "__module__" 230 @a2,hE P "__firstlineno__" 234 (.int 6 233),hE P "__static_attributes__" 235 (.ref 47),hE P "__doc__" 236 .none] 2),#[]⟩
def o8:Obj:=⟨(.type "type"),none,(.cls ⟨"NameTaken",[(.ref 24)],[(.ref 49),(.ref 24),@bn,(.type "Exception"),(@bO),@a3],48,"NameTaken",.true,[],[],@W,none,@W⟩),#[(some (.ref 40)),none,(some (.str "NameTaken" 223)),(some (.str "NameTaken" 231)),@bP,(some @aa)]⟩
def o9 (P:gf):Obj:=⟨@aD,none,(.dict #[hE P "__module__" 246 @a2,hE P "__firstlineno__" 250 (.int 8 249),hE P "__static_attributes__" 251 (.ref 59),hE P "__doc__" 252 .none] 2),#[]⟩
def o10:Obj:=⟨(.type "type"),none,(.cls ⟨"NoSpot",[(.ref 24)],[(.ref 61),(.ref 24),@bn,(.type "Exception"),(@bO),@a3],60,"NoSpot",.true,[],[],@W,none,@W⟩),#[(some (.ref 52)),none,(some (.str "NoSpot" 239)),(some (.str "NoSpot" 247)),@bP,(some @aa)]⟩
def o11 (P:gf):Obj:=⟨@aD,none,(.dict #[hE P "__module__" 262 @a2,hE P "__firstlineno__" 266 (.int 10 265),hE P "__static_attributes__" 267 (.ref 71),hE P "__doc__" 268 .none] 2),#[]⟩
def o12:Obj:=⟨(.type "type"),none,(.cls ⟨"TooMany",[(.ref 24)],[(.ref 73),(.ref 24),@bn,(.type "Exception"),(@bO),@a3],72,"TooMany",.true,[],[],@W,none,@W⟩),#[(some (.ref 64)),none,(some (.str "TooMany" 255)),(some (.str "TooMany" 263)),@bP,(some @aa)]⟩
def o13 (P:gf):Obj:=⟨@aD,none,(.dict #[hE P "__module__" 278 @a2,hE P "__firstlineno__" 282 (.int 12 281),hE P "__static_attributes__" 283 (.ref 83),hE P "__doc__" 284 .none] 2),#[]⟩
def o14:Obj:=⟨(.type "type"),none,(.cls ⟨"NoFit",[(.ref 24)],[(.ref 85),(.ref 24),@bn,(.type "Exception"),(@bO),@a3],84,"NoFit",.true,[],[],@W,none,@W⟩),#[(some (.ref 76)),none,(some (.str "NoFit" 271)),(some (.str "NoFit" 279)),@bP,(some @aa)]⟩
def o15 (P:gf):Obj:=⟨@aD,none,(.dict #[hE P "__module__" 294 @a2,hE P "__firstlineno__" 298 (.int 14 297),hE P "__static_attributes__" 299 (.ref 95),hE P "__doc__" 300 .none] 2),#[]⟩
def o16:Obj:=⟨(.type "type"),none,(.cls ⟨"NoMove",[(.ref 24)],[(.ref 97),(.ref 24),@bn,(.type "Exception"),(@bO),@a3],96,"NoMove",.true,[],[],@W,none,@W⟩),#[(some (.ref 88)),none,(some (.str "NoMove" 287)),(some (.str "NoMove" 295)),@bP,(some @aa)]⟩
def o17 (P:gf):Obj:=⟨@aD,none,(.dict #[hE P "__module__" 555 @p,hE P "__firstlineno__" 559 (.int 154 558),hE P "__static_attributes__" 560 (.ref 285),hE P "__dict__" 562 (.ref 288),hE P "__weakref__" 564 (.ref 289),hE P "__doc__" 565 .none] 4),#[]⟩
def o18:Obj:=⟨(.type "getset_descriptor"),none,(.fields #[(.str "__dict__" 561),(.ref 287),(.builtin "function.__dict__"),(.builtin "function.__dict__#set")]),#[]⟩
def o19:Obj:=⟨(.type "getset_descriptor"),none,(.fields #[(.str "__weakref__" 563),(.ref 287),(.builtin "ExceptionGroup.__weakref__"),.none]),#[]⟩
def RP:Obj:=⟨@O,none,(.seq #[(.ref 287)] 0),#[]⟩
def o21:Obj:=⟨@aI,none,(.fields #[(.str "__init__" 580),(.str "Uncurl.__init__" 581),(.str "/claim/cut.py" 582),(.int 158 0),(.int 2 0),@g,@g,@aG,(.ref 299),@aa,@aJ,(.ref 300),.none,(.ref 301),(.ref 302),(.ref 303),(.int 585 0),(.int 158 0),(.str "/claim/cut.py" 586)]),#[]⟩
def o22:Obj:=⟨@aI,none,(.fields #[(.str "told" 588),(.str "Uncurl.told" 589),(.str "/claim/cut.py" 590),(.int 161 0),(.int 1 0),@g,@g,@aG,(.ref 306),@aa,@aJ,(.ref 307),.none,(.ref 308),(.ref 309),(.ref 310),(.int 592 0),(.int 161 0),(.str "/claim/cut.py" 593)]),#[]⟩
def o23:Obj:=⟨@aI,none,(.fields #[(.str "refuse" 595),(.str "Uncurl.refuse" 596),(.str "/claim/cut.py" 597),(.int 164 0),(.int 2 0),@g,@g,@aG,(.ref 313),@aa,@aJ,(.ref 314),.none,(.ref 315),(.ref 316),(.ref 317),(.int 600 0),(.int 164 0),(.str "/claim/cut.py" 601)]),#[]⟩
def o24:Obj:=⟨@aI,none,(.fields #[(.str "done" 603),(.str "Uncurl.done" 604),(.str "/claim/cut.py" 605),(.int 168 0),(.int 2 0),@g,@g,@aG,(.ref 320),@aa,@aJ,(.ref 321),.none,(.ref 322),(.ref 323),(.ref 324),(.int 608 0),(.int 168 0),(.str "/claim/cut.py" 609)]),#[]⟩
def o25:Obj:=⟨@aI,none,(.fields #[(.str "back" 611),(.str "Uncurl.back" 612),(.str "/claim/cut.py" 613),(.int 172 0),(.int 2 0),@g,@g,@aG,(.ref 327),@aa,@aJ,(.ref 328),.none,(.ref 329),(.ref 330),(.ref 331),(.int 620 0),(.int 172 0),(.str "/claim/cut.py" 621)]),#[]⟩
def o26:Obj:=⟨@aI,none,(.fields #[(.str "renamed" 623),(.str "Uncurl.renamed" 624),(.str "/claim/cut.py" 625),(.int 180 0),(.int 2 0),@g,@g,@aG,(.ref 334),@aa,@aJ,(.ref 335),.none,(.ref 336),(.ref 337),(.ref 338),(.int 628 0),(.int 180 0),(.str "/claim/cut.py" 629)]),#[]⟩
def o27:Obj:=⟨@O,none,(.seq #[(.str "name" 631)] 0),#[]⟩
def o28 (P:gf):Obj:=⟨@aD,none,(.dict #[hE P "__module__" 575 @p,hE P "__firstlineno__" 579 (.int 156 578),hE P "__init__" 587 (.ref 305),hE P "told" 594 (.ref 312),hE P "refuse" 602 (.ref 319),hE P "done" 610 (.ref 326),hE P "back" 622 (.ref 333),hE P "renamed" 630 (.ref 340),hE P "__static_attributes__" 632 (.ref 341),hE P "__doc__" 633 .none] 2),#[]⟩
def o29:Obj:=⟨(.type "type"),none,(.cls ⟨"Uncurl",[(.ref 287)],[(.ref 343),(.ref 287),@a3],342,"Uncurl",.true,[],[],@W,none,@W⟩),#[(some (.ref 292)),none,(some (.str "Uncurl" 568)),(some (.str "Uncurl" 576)),(some (.builtin "object.__new__")),(some @aa)]⟩
def o30:Obj:=⟨@aI,none,(.fields #[(.str "__init__" 648),(.str "Curl.__init__" 649),(.str "/claim/cut.py" 650),(.int 184 0),(.int 5 0),@g,@g,@aG,(.ref 353),@aa,@aJ,(.ref 354),.none,(.ref 355),(.ref 356),(.ref 357),(.int 656 0),(.int 184 0),(.str "/claim/cut.py" 657)]),#[]⟩
def o31:Obj:=⟨@aI,none,(.fields #[(.str "told" 659),(.str "Curl.told" 660),(.str "/claim/cut.py" 661),(.int 190 0),(.int 1 0),@g,@g,@aG,(.ref 360),@aa,@aJ,(.ref 361),.none,(.ref 362),(.ref 363),(.ref 364),(.int 663 0),(.int 190 0),(.str "/claim/cut.py" 664)]),#[]⟩
def o32:Obj:=⟨@aI,none,(.fields #[(.str "done" 666),(.str "Curl.done" 667),(.str "/claim/cut.py" 668),(.int 193 0),(.int 2 0),@g,@g,@aG,(.ref 367),@aa,@aJ,(.ref 368),.none,(.ref 369),(.ref 370),(.ref 371),(.int 672 0),(.int 193 0),(.str "/claim/cut.py" 673)]),#[]⟩
def o33:Obj:=⟨@aI,none,(.fields #[(.str "back" 675),(.str "Curl.back" 676),(.str "/claim/cut.py" 677),(.int 198 0),(.int 2 0),@g,@g,@aG,(.ref 374),@aa,@aJ,(.ref 375),.none,(.ref 376),(.ref 377),(.ref 378),(.int 680 0),(.int 198 0),(.str "/claim/cut.py" 681)]),#[]⟩
def o34:Obj:=⟨@aI,none,(.fields #[(.str "renamed" 683),(.str "Curl.renamed" 684),(.str "/claim/cut.py" 685),(.int 202 0),(.int 2 0),@g,@g,@aG,(.ref 381),@aa,@aJ,(.ref 382),.none,(.ref 383),(.ref 384),(.ref 385),(.int 688 0),(.int 202 0),(.str "/claim/cut.py" 689)]),#[]⟩
def o35:Obj:=⟨@O,none,(.seq #[(.str "first" 691),(.str "hand" 692),(.str "name" 693),(.str "spot" 694)] 0),#[]⟩
def o36 (P:gf):Obj:=⟨@aD,none,(.dict #[hE P "__module__" 643 @p,hE P "__firstlineno__" 647 (.int 182 646),hE P "__init__" 658 (.ref 359),hE P "told" 665 (.ref 366),hE P "done" 674 (.ref 373),hE P "back" 682 (.ref 380),hE P "renamed" 690 (.ref 387),hE P "__static_attributes__" 695 (.ref 388),hE P "__doc__" 696 .none] 2),#[]⟩
def o37:Obj:=⟨(.type "type"),none,(.cls ⟨"Curl",[(.ref 287)],[(.ref 390),(.ref 287),@a3],389,"Curl",.true,[],[],@W,none,@W⟩),#[(some (.ref 346)),none,(some (.str "Curl" 636)),(some (.str "Curl" 644)),(some (.builtin "object.__new__")),(some @aa)]⟩
def o38:Obj:=⟨@aI,none,(.fields #[(.str "__init__" 711),(.str "Part.__init__" 712),(.str "/claim/cut.py" 713),(.int 206 0),@aG,@g,@g,@aG,(.ref 400),@aa,@aJ,(.ref 401),.none,(.ref 402),(.ref 403),(.ref 404),(.int 717 0),(.int 206 0),(.str "/claim/cut.py" 718)]),#[]⟩
def o39:Obj:=⟨@aI,none,(.fields #[(.str "told" 720),(.str "Part.told" 721),(.str "/claim/cut.py" 722),(.int 210 0),(.int 1 0),@g,@g,@aG,(.ref 407),@aa,@aJ,(.ref 408),.none,(.ref 409),(.ref 410),(.ref 411),(.int 724 0),(.int 210 0),(.str "/claim/cut.py" 725)]),#[]⟩
def o40:Obj:=⟨@aI,none,(.fields #[(.str "refuse" 727),(.str "Part.refuse" 728),(.str "/claim/cut.py" 729),(.int 213 0),(.int 2 0),@g,@g,@aG,(.ref 414),@aa,@aJ,(.ref 415),.none,(.ref 416),(.ref 417),(.ref 418),(.int 732 0),(.int 213 0),(.str "/claim/cut.py" 733)]),#[]⟩
def o41:Obj:=⟨@aI,none,(.fields #[(.str "done" 735),(.str "Part.done" 736),(.str "/claim/cut.py" 737),(.int 217 0),(.int 2 0),@g,@g,@aG,(.ref 421),@aa,@aJ,(.ref 422),.none,(.ref 423),(.ref 424),(.ref 425),(.int 740 0),(.int 217 0),(.str "/claim/cut.py" 741)]),#[]⟩
def o42:Obj:=⟨@aI,none,(.fields #[(.str "back" 743),(.str "Part.back" 744),(.str "/claim/cut.py" 745),(.int 221 0),(.int 2 0),@g,@g,@aG,(.ref 428),@aa,@aJ,(.ref 429),.none,(.ref 430),(.ref 431),(.ref 432),(.int 756 0),(.int 221 0),(.str "/claim/cut.py" 757)]),#[]⟩
def o43:Obj:=⟨@aI,none,(.fields #[(.str "renamed" 759),(.str "Part.renamed" 760),(.str "/claim/cut.py" 761),(.int 233 0),(.int 2 0),@g,@g,@aG,(.ref 435),@aa,@aJ,(.ref 436),.none,(.ref 437),(.ref 438),(.ref 439),(.int 764 0),(.int 233 0),(.str "/claim/cut.py" 765)]),#[]⟩
def o44:Obj:=⟨@O,none,(.seq #[(.str "name" 767),(.str "second" 768)] 0),#[]⟩
def o45 (P:gf):Obj:=⟨@aD,none,(.dict #[hE P "__module__" 706 @p,hE P "__firstlineno__" 710 (.int 204 709),hE P "__init__" 719 (.ref 406),hE P "told" 726 (.ref 413),hE P "refuse" 734 (.ref 420),hE P "done" 742 (.ref 427),hE P "back" 758 (.ref 434),hE P "renamed" 766 (.ref 441),hE P "__static_attributes__" 769 (.ref 442),hE P "__doc__" 770 .none] 2),#[]⟩
def o46:Obj:=⟨(.type "type"),none,(.cls ⟨"Part",[(.ref 287)],[(.ref 444),(.ref 287),@a3],443,"Part",.true,[],[],@W,none,@W⟩),#[(some (.ref 393)),none,(some (.str "Part" 699)),(some (.str "Part" 707)),(some (.builtin "object.__new__")),(some @aa)]⟩
def o47:Obj:=⟨@aI,none,(.fields #[(.str "__init__" 785),(.str "Lay.__init__" 786),(.str "/claim/cut.py" 787),(.int 237 0),(.int 7 0),@g,@g,@aG,(.ref 454),@aa,@aJ,(.ref 455),.none,(.ref 456),(.ref 457),(.ref 458),(.int 795 0),(.int 237 0),(.str "/claim/cut.py" 796)]),#[]⟩
def o48:Obj:=⟨@aI,none,(.fields #[(.str "told" 798),(.str "Lay.told" 799),(.str "/claim/cut.py" 800),(.int 245 0),(.int 1 0),@g,@g,@aG,(.ref 461),@aa,@aJ,(.ref 462),.none,(.ref 463),(.ref 464),(.ref 465),(.int 802 0),(.int 245 0),(.str "/claim/cut.py" 803)]),#[]⟩
def o49:Obj:=⟨@aI,none,(.fields #[(.str "passings" 805),(.str "Lay.passings" 806),(.str "/claim/cut.py" 807),(.int 248 0),(.int 2 0),@g,@g,@aG,(.ref 468),@aa,@aJ,(.ref 469),.none,(.ref 470),(.ref 471),(.ref 472),(.int 810 0),(.int 248 0),(.str "/claim/cut.py" 811)]),#[]⟩
def o50:Obj:=⟨@aI,none,(.fields #[(.str "done" 813),(.str "Lay.done" 814),(.str "/claim/cut.py" 815),(.int 251 0),(.int 2 0),@g,@g,@aG,(.ref 475),@aa,@aJ,(.ref 476),.none,(.ref 477),(.ref 478),(.ref 479),(.int 820 0),(.int 251 0),(.str "/claim/cut.py" 821)]),#[]⟩
def o51:Obj:=⟨@aI,none,(.fields #[(.str "back" 823),(.str "Lay.back" 824),(.str "/claim/cut.py" 825),(.int 259 0),(.int 2 0),@g,@g,@aG,(.ref 482),@aa,@aJ,(.ref 483),.none,(.ref 484),(.ref 485),(.ref 486),(.int 828 0),(.int 259 0),(.str "/claim/cut.py" 829)]),#[]⟩
def o52:Obj:=⟨@aI,none,(.fields #[(.str "renamed" 831),(.str "Lay.renamed" 832),(.str "/claim/cut.py" 833),(.int 263 0),(.int 2 0),@g,@g,@aG,(.ref 489),@aa,@aJ,(.ref 490),.none,(.ref 491),(.ref 492),(.ref 493),(.int 840 0),(.int 263 0),(.str "/claim/cut.py" 841)]),#[]⟩
def o53:Obj:=⟨@O,none,(.seq #[(.str "hand" 843),(.str "name" 844),(.str "over" 845),(.str "second" 846),(.str "turned" 847),(.str "under" 848)] 0),#[]⟩
def o54 (P:gf):Obj:=⟨@aD,none,(.dict #[hE P "__module__" 780 @p,hE P "__firstlineno__" 784 (.int 235 783),hE P "__init__" 797 (.ref 460),hE P "told" 804 (.ref 467),hE P "passings" 812 (.ref 474),hE P "done" 822 (.ref 481),hE P "back" 830 (.ref 488),hE P "renamed" 842 (.ref 495),hE P "__static_attributes__" 849 (.ref 496),hE P "__doc__" 850 .none] 2),#[]⟩
def o55:Obj:=⟨(.type "type"),none,(.cls ⟨"Lay",[(.ref 287)],[(.ref 498),(.ref 287),@a3],497,"Lay",.true,[],[],@W,none,@W⟩),#[(some (.ref 447)),none,(some (.str "Lay" 773)),(some (.str "Lay" 781)),(some (.builtin "object.__new__")),(some @aa)]⟩
def o56:Obj:=⟨@aI,none,(.fields #[(.str "__init__" 865),(.str "Slide.__init__" 866),(.str "/claim/cut.py" 867),(.int 271 0),(.int 5 0),@g,@g,@aG,(.ref 508),@aa,@aJ,(.ref 509),.none,(.ref 510),(.ref 511),(.ref 512),(.int 873 0),(.int 271 0),(.str "/claim/cut.py" 874)]),#[]⟩
def o57:Obj:=⟨@aI,none,(.fields #[(.str "told" 876),(.str "Slide.told" 877),(.str "/claim/cut.py" 878),(.int 277 0),(.int 1 0),@g,@g,@aG,(.ref 515),@aa,@aJ,(.ref 516),.none,(.ref 517),(.ref 518),(.ref 519),(.int 880 0),(.int 277 0),(.str "/claim/cut.py" 881)]),#[]⟩
def o58:Obj:=⟨@aI,none,(.fields #[(.str "refuse" 883),(.str "Slide.refuse" 884),(.str "/claim/cut.py" 885),(.int 280 0),(.int 2 0),@g,@g,@aG,(.ref 522),@aa,@aJ,(.ref 523),.none,(.ref 524),(.ref 525),(.ref 526),(.int 888 0),(.int 280 0),(.str "/claim/cut.py" 889)]),#[]⟩
def o59:Obj:=⟨@aI,none,(.fields #[(.str "done" 891),(.str "Slide.done" 892),(.str "/claim/cut.py" 893),(.int 284 0),(.int 2 0),@g,@g,@aG,(.ref 529),@aa,@aJ,(.ref 530),.none,(.ref 531),(.ref 532),(.ref 533),(.int 896 0),(.int 284 0),(.str "/claim/cut.py" 897)]),#[]⟩
def o60:Obj:=⟨@aI,none,(.fields #[(.str "back" 899),(.str "Slide.back" 900),(.str "/claim/cut.py" 901),(.int 288 0),(.int 2 0),@g,@g,@aG,(.ref 536),@aa,@aJ,(.ref 537),.none,(.ref 538),(.ref 539),(.ref 540),(.int 904 0),(.int 288 0),(.str "/claim/cut.py" 905)]),#[]⟩
def o61:Obj:=⟨@aI,none,(.fields #[(.str "renamed" 907),(.str "Slide.renamed" 908),(.str "/claim/cut.py" 909),(.int 292 0),(.int 2 0),@g,@g,@aG,(.ref 543),@aa,@aJ,(.ref 544),.none,(.ref 545),(.ref 546),(.ref 547),(.int 914 0),(.int 292 0),(.str "/claim/cut.py" 915)]),#[]⟩
def o62:Obj:=⟨@O,none,(.seq #[(.str "name" 917),(.str "second" 918),(.str "third" 919),(.str "turn" 920)] 0),#[]⟩
def o63 (P:gf):Obj:=⟨@aD,none,(.dict #[hE P "__module__" 860 @p,hE P "__firstlineno__" 864 (.int 269 863),hE P "__init__" 875 (.ref 514),hE P "told" 882 (.ref 521),hE P "refuse" 890 (.ref 528),hE P "done" 898 (.ref 535),hE P "back" 906 (.ref 542),hE P "renamed" 916 (.ref 549),hE P "__static_attributes__" 921 (.ref 550),hE P "__doc__" 922 .none] 2),#[]⟩
def o64:Obj:=⟨(.type "type"),none,(.cls ⟨"Slide",[(.ref 287)],[(.ref 552),(.ref 287),@a3],551,"Slide",.true,[],[],@W,none,@W⟩),#[(some (.ref 501)),none,(some (.str "Slide" 853)),(some (.str "Slide" 861)),(some (.builtin "object.__new__")),(some @aa)]⟩
def KO:Obj:=⟨@bB,none,(.fields #[(.builtin "type.__prepare__"),(.type "type")]),#[]⟩
def jv:Obj:=⟨.none,none,(.fields #[]),#[]⟩
def hK(P:gf):aC:=(nat_lit 2,⟨.none,none,(.dict #[] 0),#[]⟩) ::
(nat_lit 3,⟨@aD,none,(.dict #[hE P "__name__" 165 @aS,hE P "__doc__" 166 .none,hE P "__package__" 167 .none,hE P "__loader__" 168 (.builtin "__main__.__loader__#opaque"),hE P "__spec__" 169 .none,hE P "__annotations__" 170 (.ref 6),hE P "__builtins__" 171 (.ref 4),hE P "__file__" 173 (.str "/claim/cut.py" 172),hE P "__cached__" 174 .none,hE P "KnotError" 206 (.ref 24),hE P "NoName" 222 (.ref 37),hE P "NameTaken" 238 (.ref 49),hE P "NoSpot" 254 (.ref 61),hE P "TooMany" 270 (.ref 73),hE P "NoFit" 286 (.ref 85),hE P "NoMove" 302 (.ref 97),hE P "MOST_CROSSINGS" 306 (.int 12 305),hE P "passings_of" 315 (.ref 106),hE P "seated" 323 (.ref 113),hE P "seated_rows" 329 (.ref 118),hE P "names_of" 335 (.ref 123),hE P "hand_of" 344 (.ref 130),hE P "spots_on" 350 (.ref 135),hE P "next_of" 361 (.ref 142),hE P "string_of" 371 (.ref 149),hE P "neighbours" 382 (.ref 156),hE P "uncurl_fits" 390 (.ref 163),hE P "part_fits" 400 (.ref 170),hE P "in_turn" 409 (.ref 177),hE P "slide_pairs" 423 (.ref 184),hE P "slide_fits" 429 (.ref 189),hE P "lessening" 436 (.ref 196),hE P "uncurls_in" 442 (.ref 201),hE P "overs_in_turn" 453 (.ref 208),hE P "parts_in" 459 (.ref 213),hE P "slides_in" 470 (.ref 220),hE P "refuse_unknown" 482 (.ref 227),hE P "refuse_unfit" 489 (.ref 234),hE P "refuse_new" 499 (.ref 241),hE P "with_put" 511 (.ref 248),hE P "taken_out" 517 (.ref 253),hE P "spot_ahead" 523 (.ref 258),hE P "first_in_turn" 533 (.ref 265),hE P "with_changed" 539 (.ref 270),hE P "renamed_spot" 547 (.ref 277),hE P "Move" 567 (.ref 287),hE P "Uncurl" 635 (.ref 343),hE P "Curl" 698 (.ref 390),hE P "Part" 772 (.ref 444),hE P "Lay" 852 (.ref 498),hE P "Slide" 924 (.ref 552),hE P "move_of" 931 (.ref 561),hE P "_law_cell_at" 941 (.ref 568),hE P "_law_whole" 948 (.ref 575),hE P "_law_mixed" 955 (.ref 582),hE P "_law_names" 965 (.ref 589),hE P "_law_free" 974 (.ref 596),hE P "_law_crossed" 980 (.ref 601),hE P "_law_spots" 990 (.ref 608),hE P "_law_put" 1003 (.ref 615),hE P "_law_wholes" 1012 (.ref 622),hE P "_law_tells" 1021 (.ref 629),hE P "_law_hands" 1031 (.ref 636),hE P "_law_next" 1042 (.ref 643),hE P "_law_pairs" 1051 (.ref 650),hE P "_law_slides" 1069 (.ref 657),hE P "_law_block" 1075 (.ref 662),hE P "_law_three" 1081 (.ref 667),hE P "_law_beside" 1090 (.ref 674),hE P "_law_parts" 1101 (.ref 681),hE P "_law_pairs_of" 1112 (.ref 688),hE P "_law_slides_of" 1125 (.ref 695),hE P "_law_lessening" 1136 (.ref 702),hE P "_law_with_lay" 1142 (.ref 707),hE P "_law_listed" 1151 (.ref 714),hE P "law" 1157 (.ref 719)] 76),#[]⟩) ::
(nat_lit 15,o0) ::
(nat_lit 22,o1) ::
(nat_lit 23,o2 P) ::
(nat_lit 24,⟨(.type "type"),none,(.cls ⟨"KnotError",[@bn],[(.ref 24),@bn,(.type "Exception"),(@bO),@a3],23,"KnotError",.true,[],[(.ref 37),(.ref 49),(.ref 61),(.ref 73),(.ref 85),(.ref 97)],@W,none,@W⟩),#[(some (.ref 15)),none,(some (.str "KnotError" 189)),(some (.str "KnotError" 197)),@bP,(some @aa)]⟩) ::
(nat_lit 25,o3) ::
(nat_lit 28,o4) ::
(nat_lit 35,o1) ::
(nat_lit 36,o5 P) ::
(nat_lit 37,o6) ::
(nat_lit 40,o4) ::
(nat_lit 47,o1) ::
(nat_lit 48,o7 P) ::
(nat_lit 49,o8) ::
(nat_lit 52,o4) ::
(nat_lit 59,o1) ::
(nat_lit 60,o9 P) ::
(nat_lit 61,o10) ::
(nat_lit 64,o4) ::
(nat_lit 71,o1) ::
(nat_lit 72,o11 P) ::
(nat_lit 73,o12) ::
(nat_lit 76,o4) ::
(nat_lit 83,o1) ::
(nat_lit 84,o13 P) ::
(nat_lit 85,o14) ::
(nat_lit 88,o4) ::
(nat_lit 95,o1) ::
(nat_lit 96,o15 P) ::
(nat_lit 97,o16) ::
(nat_lit 105,hD "passings_of" 307 18 1 100 (hR 102) (hR 103) (hR 104) 314) ::
(nat_lit 106,hF 10 "passings_of" @bu (.ref 105)) ::
(nat_lit 112,hD "seated" 316 23 1 107 (hR 109) (hR 110) (hR 111) 322) ::
(nat_lit 113,hF 11 "seated" @bu (.ref 112)) ::
(nat_lit 117,hD "seated_rows" 324 28 1 114 hN hN (hR 116) 328) ::
(nat_lit 118,hF 12 "seated_rows" @bu (.ref 117)) ::
(nat_lit 122,hD "names_of" 330 30 1 119 hN hN (hR 121) 334) ::
(nat_lit 123,hF 13 "names_of" @bu (.ref 122)) ::
(nat_lit 129,hD "hand_of" 336 32 2 124 (hR 126) (hR 127) (hR 128) 343) ::
(nat_lit 130,hF 14 "hand_of" @bu (.ref 129)) ::
(nat_lit 134,hD "spots_on" 345 37 2 131 hN hN (hR 133) 349) ::
(nat_lit 135,hF 15 "spots_on" @bu (.ref 134)) ::
(nat_lit 141,hD "next_of" 351 41 1 136 (hR 138) (hR 139) (hR 140) 360) ::
(nat_lit 142,hF 16 "next_of" @bu (.ref 141)) ::
(nat_lit 148,hD "string_of" 362 47 2 143 (hR 145) (hR 146) (hR 147) 370) ::
(nat_lit 149,hF 17 "string_of" @bu (.ref 148)) ::
(nat_lit 155,hD "neighbours" 374 53 3 150 (hR 152) (hR 153) (hR 154) 381) ::
(nat_lit 156,hF 19 "neighbours" @aY (.ref 155)) ::
(nat_lit 162,hD "uncurl_fits" 383 55 2 157 (hR 159) (hR 160) (hR 161) 389) ::
(nat_lit 163,hF 20 "uncurl_fits" @aY (.ref 162)) ::
(nat_lit 169,hD "part_fits" 391 57 3 164 (hR 166) (hR 167) (hR 168) 399) ::
(nat_lit 170,hF 21 "part_fits" @aY (.ref 169)) ::
(nat_lit 176,hD "in_turn" 401 62 3 171 (hR 173) (hR 174) (hR 175) 408) ::
(nat_lit 177,hF 22 "in_turn" @aY (.ref 176)) ::
(nat_lit 183,hD "slide_pairs" 410 66 5 178 (hR 180) (hR 181) (hR 182) 422) ::
(nat_lit 184,hF 23 "slide_pairs" @aY (.ref 183)) ::
(nat_lit 188,hD "slide_fits" 424 71 5 185 hN hN (hR 187) 428) ::
(nat_lit 189,hF 24 "slide_fits" @aY (.ref 188)) ::
(nat_lit 195,hD "lessening" 430 76 1 190 (hR 192) (hR 193) (hR 194) 435) ::
(nat_lit 196,hF 25 "lessening" @aY (.ref 195)) ::
(nat_lit 200,hD "uncurls_in" 437 78 1 197 hN hN (hR 199) 441) ::
(nat_lit 201,hF 26 "uncurls_in" @aY (.ref 200)) ::
(nat_lit 207,hD "overs_in_turn" 443 80 1 202 (hR 204) (hR 205) (hR 206) 452) ::
(nat_lit 208,hF 27 "overs_in_turn" @aY (.ref 207)) ::
(nat_lit 212,hD "parts_in" 454 88 1 209 hN hN (hR 211) 458) ::
(nat_lit 213,hF 28 "parts_in" @aY (.ref 212)) ::
(nat_lit 219,hD "slides_in" 460 91 1 214 (hR 216) (hR 217) (hR 218) 469) ::
(nat_lit 220,hF 29 "slides_in" @aY (.ref 219)) ::
(nat_lit 226,hD "refuse_unknown" 473 101 2 221 (hR 223) (hR 224) (hR 225) 481) ::
(nat_lit 227,hF 31 "refuse_unknown" @p (.ref 226)) ::
(nat_lit 233,hD "refuse_unfit" 483 106 1 228 (hR 230) (hR 231) (hR 232) 488) ::
(nat_lit 234,hF 32 "refuse_unfit" @p (.ref 233)) ::
(nat_lit 240,hD "refuse_new" 490 109 2 235 (hR 237) (hR 238) (hR 239) 498) ::
(nat_lit 241,hF 33 "refuse_new" @p (.ref 240)) ::
(nat_lit 247,hD "with_put" 500 117 3 242 (hR 244) (hR 245) (hR 246) 510) ::
(nat_lit 248,hF 34 "with_put" @p (.ref 247)) ::
(nat_lit 252,hD "taken_out" 512 123 2 249 hN hN (hR 251) 516) ::
(nat_lit 253,hF 35 "taken_out" @p (.ref 252)) ::
(nat_lit 257,hD "spot_ahead" 518 128 3 254 hN hN (hR 256) 522) ::
(nat_lit 258,hF 36 "spot_ahead" @p (.ref 257)) ::
(nat_lit 264,hD "first_in_turn" 524 136 4 259 (hR 261) (hR 262) (hR 263) 532) ::
(nat_lit 265,hF 37 "first_in_turn" @p (.ref 264)) ::
(nat_lit 269,hD "with_changed" 534 140 2 266 hN hN (hR 268) 538) ::
(nat_lit 270,hF 38 "with_changed" @p (.ref 269)) ::
(nat_lit 276,hD "renamed_spot" 540 150 2 271 (hR 273) (hR 274) (hR 275) 546) ::
(nat_lit 277,hF 39 "renamed_spot" @p (.ref 276)) ::
(nat_lit 285,o1) ::
(nat_lit 286,o17 P) ::
(nat_lit 287,⟨(.type "type"),none,(.cls ⟨"Move",[@a3],[(.ref 287),@a3],286,"Move",.true,[],[(.ref 343),(.ref 390),(.ref 444),(.ref 498),(.ref 552)],@W,none,@W⟩),#[none,none,(some (.str "Move" 548)),(some (.str "Move" 556)),(some (.builtin "object.__new__")),(some @aa)]⟩) ::
(nat_lit 288,o18) ::
(nat_lit 289,o19) ::
(nat_lit 292,RP) ::
(nat_lit 304,o21) ::
(nat_lit 305,hM 41 0 "__init__" "Uncurl.__init__" @p (.ref 304)) ::
(nat_lit 311,o22) ::
(nat_lit 312,hM 41 1 "told" "Uncurl.told" @p (.ref 311)) ::
(nat_lit 318,o23) ::
(nat_lit 319,hM 41 2 "refuse" "Uncurl.refuse" @p (.ref 318)) ::
(nat_lit 325,o24) ::
(nat_lit 326,hM 41 3 "done" "Uncurl.done" @p (.ref 325)) ::
(nat_lit 332,o25) ::
(nat_lit 333,hM 41 4 "back" "Uncurl.back" @p (.ref 332)) ::
(nat_lit 339,o26) ::
(nat_lit 340,hM 41 5 "renamed" "Uncurl.renamed" @p (.ref 339)) ::
(nat_lit 341,o27) ::
(nat_lit 342,o28 P) ::
(nat_lit 343,o29) ::
(nat_lit 346,RP) ::
(nat_lit 358,o30) ::
(nat_lit 359,hM 42 0 "__init__" "Curl.__init__" @p (.ref 358)) ::
(nat_lit 365,o31) ::
(nat_lit 366,hM 42 1 "told" "Curl.told" @p (.ref 365)) ::
(nat_lit 372,o32) ::
(nat_lit 373,hM 42 2 "done" "Curl.done" @p (.ref 372)) ::
(nat_lit 379,o33) ::
(nat_lit 380,hM 42 3 "back" "Curl.back" @p (.ref 379)) ::
(nat_lit 386,o34) ::
(nat_lit 387,hM 42 4 "renamed" "Curl.renamed" @p (.ref 386)) ::
(nat_lit 388,o35) ::
(nat_lit 389,o36 P) ::
(nat_lit 390,o37) ::
(nat_lit 393,RP) ::
(nat_lit 405,o38) ::
(nat_lit 406,hM 43 0 "__init__" "Part.__init__" @p (.ref 405)) ::
(nat_lit 412,o39) ::
(nat_lit 413,hM 43 1 "told" "Part.told" @p (.ref 412)) ::
(nat_lit 419,o40) ::
(nat_lit 420,hM 43 2 "refuse" "Part.refuse" @p (.ref 419)) ::
(nat_lit 426,o41) ::
(nat_lit 427,hM 43 3 "done" "Part.done" @p (.ref 426)) ::
(nat_lit 433,o42) ::
(nat_lit 434,hM 43 4 "back" "Part.back" @p (.ref 433)) ::
(nat_lit 440,o43) ::
(nat_lit 441,hM 43 5 "renamed" "Part.renamed" @p (.ref 440)) ::
(nat_lit 442,o44) ::
(nat_lit 443,o45 P) ::
(nat_lit 444,o46) ::
(nat_lit 447,RP) ::
(nat_lit 459,o47) ::
(nat_lit 460,hM 44 0 "__init__" "Lay.__init__" @p (.ref 459)) ::
(nat_lit 466,o48) ::
(nat_lit 467,hM 44 1 "told" "Lay.told" @p (.ref 466)) ::
(nat_lit 473,o49) ::
(nat_lit 474,hM 44 2 "passings" "Lay.passings" @p (.ref 473)) ::
(nat_lit 480,o50) ::
(nat_lit 481,hM 44 3 "done" "Lay.done" @p (.ref 480)) ::
(nat_lit 487,o51) ::
(nat_lit 488,hM 44 4 "back" "Lay.back" @p (.ref 487)) ::
(nat_lit 494,o52) ::
(nat_lit 495,hM 44 5 "renamed" "Lay.renamed" @p (.ref 494)) ::
(nat_lit 496,o53) ::
(nat_lit 497,o54 P) ::
(nat_lit 498,o55) ::
(nat_lit 501,RP) ::
(nat_lit 513,o56) ::
(nat_lit 514,hM 45 0 "__init__" "Slide.__init__" @p (.ref 513)) ::
(nat_lit 520,o57) ::
(nat_lit 521,hM 45 1 "told" "Slide.told" @p (.ref 520)) ::
(nat_lit 527,o58) ::
(nat_lit 528,hM 45 2 "refuse" "Slide.refuse" @p (.ref 527)) ::
(nat_lit 534,o59) ::
(nat_lit 535,hM 45 3 "done" "Slide.done" @p (.ref 534)) ::
(nat_lit 541,o60) ::
(nat_lit 542,hM 45 4 "back" "Slide.back" @p (.ref 541)) ::
(nat_lit 548,o61) ::
(nat_lit 549,hM 45 5 "renamed" "Slide.renamed" @p (.ref 548)) ::
(nat_lit 550,o62) ::
(nat_lit 551,o63 P) ::
(nat_lit 552,o64) ::
(nat_lit 560,hD "move_of" 925 296 1 555 (hR 557) (hR 558) (hR 559) 930) ::
(nat_lit 561,hF 46 "move_of" @p (.ref 560)) ::
(nat_lit 567,hD "_law_cell_at" 934 309 2 562 (hR 564) (hR 565) (hR 566) 940) ::
(nat_lit 568,hF 48 "_law_cell_at" @aS (.ref 567)) ::
(nat_lit 574,hD "_law_whole" 942 313 1 569 (hR 571) (hR 572) (hR 573) 947) ::
(nat_lit 575,hF 49 "_law_whole" @aS (.ref 574)) ::
(nat_lit 581,hD "_law_mixed" 949 315 1 576 (hR 578) (hR 579) (hR 580) 954) ::
(nat_lit 582,hF 50 "_law_mixed" @aS (.ref 581)) ::
(nat_lit 588,hD "_law_names" 956 317 1 583 (hR 585) (hR 586) (hR 587) 964) ::
(nat_lit 589,hF 51 "_law_names" @aS (.ref 588)) ::
(nat_lit 595,hD "_law_free" 966 324 2 590 (hR 592) (hR 593) (hR 594) 973) ::
(nat_lit 596,hF 52 "_law_free" @aS (.ref 595)) ::
(nat_lit 600,hD "_law_crossed" 975 329 2 597 hN hN (hR 599) 979) ::
(nat_lit 601,hF 53 "_law_crossed" @aS (.ref 600)) ::
(nat_lit 607,hD "_law_spots" 981 341 1 602 (hR 604) (hR 605) (hR 606) 989) ::
(nat_lit 608,hF 54 "_law_spots" @aS (.ref 607)) ::
(nat_lit 614,hD "_law_put" 991 349 3 609 (hR 611) (hR 612) (hR 613) 1002) ::
(nat_lit 615,hF 55 "_law_put" @aS (.ref 614)) ::
(nat_lit 621,hD "_law_wholes" 1004 361 2 616 (hR 618) (hR 619) (hR 620) 1011) ::
(nat_lit 622,hF 56 "_law_wholes" @aS (.ref 621)) ::
(nat_lit 628,hD "_law_tells" 1013 368 2 623 (hR 625) (hR 626) (hR 627) 1020) ::
(nat_lit 629,hF 57 "_law_tells" @aS (.ref 628)) ::
(nat_lit 635,hD "_law_hands" 1022 380 1 630 (hR 632) (hR 633) (hR 634) 1030) ::
(nat_lit 636,hF 58 "_law_hands" @aS (.ref 635)) ::
(nat_lit 642,hD "_law_next" 1032 386 1 637 (hR 639) (hR 640) (hR 641) 1041) ::
(nat_lit 643,hF 59 "_law_next" @aS (.ref 642)) ::
(nat_lit 649,hD "_law_pairs" 1043 393 3 644 (hR 646) (hR 647) (hR 648) 1050) ::
(nat_lit 650,hF 60 "_law_pairs" @aS (.ref 649)) ::
(nat_lit 656,hD "_law_slides" 1052 395 3 651 (hR 653) (hR 654) (hR 655) 1068) ::
(nat_lit 657,hF 61 "_law_slides" @aS (.ref 656)) ::
(nat_lit 661,hD "_law_block" 1070 406 3 658 hN hN (hR 660) 1074) ::
(nat_lit 662,hF 62 "_law_block" @aS (.ref 661)) ::
(nat_lit 666,hD "_law_three" 1076 412 4 663 hN hN (hR 665) 1080) ::
(nat_lit 667,hF 63 "_law_three" @aS (.ref 666)) ::
(nat_lit 673,hD "_law_beside" 1082 436 3 668 (hR 670) (hR 671) (hR 672) 1089) ::
(nat_lit 674,hF 64 "_law_beside" @aS (.ref 673)) ::
(nat_lit 680,hD "_law_parts" 1091 438 3 675 (hR 677) (hR 678) (hR 679) 1100) ::
(nat_lit 681,hF 65 "_law_parts" @aS (.ref 680)) ::
(nat_lit 687,hD "_law_pairs_of" 1102 443 2 682 (hR 684) (hR 685) (hR 686) 1111) ::
(nat_lit 688,hF 66 "_law_pairs_of" @aS (.ref 687)) ::
(nat_lit 694,hD "_law_slides_of" 1113 450 2 689 (hR 691) (hR 692) (hR 693) 1124) ::
(nat_lit 695,hF 67 "_law_slides_of" @aS (.ref 694)) ::
(nat_lit 701,hD "_law_lessening" 1126 460 1 696 (hR 698) (hR 699) (hR 700) 1135) ::
(nat_lit 702,hF 68 "_law_lessening" @aS (.ref 701)) ::
(nat_lit 706,hD "_law_with_lay" 1137 468 2 703 hN hN (hR 705) 1141) ::
(nat_lit 707,hF 69 "_law_with_lay" @aS (.ref 706)) ::
(nat_lit 713,hD "_law_listed" 1143 481 2 708 (hR 710) (hR 711) (hR 712) 1150) ::
(nat_lit 714,hF 70 "_law_listed" @aS (.ref 713)) ::
(nat_lit 718,hD "law" 1152 488 1 715 hN hN (hR 717) 1156) ::
(nat_lit 719,hF 71 "law" @aS (.ref 718)) :: []
def hA:@aE:=[2,3,15,22,23,24,25,28,35,36,37,40,47,48,49,52,59,60,61,64,71,72,73,76,83,84,85,88,95,96,97,105,106,112,113,117,118,122,123,129,130,134,135,141,142,148,149,155,156,162,163,169,170,176,177,183,184,188,189,195,196,200,201,207,208,212,213,219,220,226,227,233,234,240,241,247,248,252,253,257,258,264,265,269,270,276,277,285,286,287,288,289,292,304,305,311,312,318,319,325,326,332,333,339,340,341,342,343,346,358,359,365,366,372,373,379,380,386,387,388,389,390,393,405,406,412,413,419,420,426,427,433,434,440,441,442,443,444,447,459,460,466,467,473,474,480,481,487,488,494,495,496,497,498,501,513,514,520,521,527,528,534,535,541,542,548,549,550,551,552,560,561,567,568,574,575,581,582,588,589,595,596,600,601,607,608,614,615,621,622,628,629,635,636,642,643,649,650,656,657,661,662,666,667,673,674,680,681,687,688,694,695,701,702,706,707,713,714,718,719]
abbrev hG(st:Stmt)(n q:Str)(g b:Addr):Obj:=⟨.none,none,.func ⟨n,q,gE st,.stmts (eO st),b9 st,g,[],.none,.none,.none,.none,none,.none,.none,b⟩,#[]⟩
def cE:Env:={ scope:=PySem.Challenge.rw_knotwise_k27_lessening.row.prog.main.scope,locals:=mainNs,globals:=mainNs,cells:=[],code:=(.ref 13),frame:=some 14 }
def cB:List Stmt:=behindTheImports PySem.Challenge.rw_knotwise_k27_lessening.row.prog
def cC:Code:=.body cB cE
def cQ:Pos:=⟨0,0,0,0⟩
noncomputable def Ww(P:gf)(t:List Obj):List Obj:=boot_o_4 P ::
boot_o_5 P ::
boot_o_6 P ::
boot_o_7 P ::
boot_o_8 P ::
boot_o_9 P ::
boot_o_10 P ::
o1 :: t
noncomputable def Wv (P:gf) (t:List Obj):List Obj:=hC "<module>" 182 [hI 1,hI 0,hI 0,hI 0,hI 0,hR 11,(.bool @W),hI 181,hR 12,hN,hN,hN,hN,hI 185,hI 1,hS 186] ::
⟨(.type "frame"),none,.plain,#[(some (.ref 13)),(some (.ref 3)),(some (.ref 3)),none,(some (.str "__main__" 164)),none,(some (.ref 0))]⟩ :: t
noncomputable def ZL(P:gf)(t:List Obj):List Obj:=o0 ::
KO ::
⟨@aD,none,(.dict #[hE P "__module__" 196 @a2,hE P "__qualname__" 198 (.str "KnotError" 197),hE P "__firstlineno__" 200 (.int 2 199),hE P "__static_attributes__" 201 (.ref 22)] 4),#[]⟩ ::
o1 ::
jv ::
hC "KnotError" 191 [hI 2,hI 0,hI 0,hI 0,hI 0,hR 18,(.bool @W),hI 181,hR 19,hN,hN,hN,hN,hI 194,hI 2,hS 195] ::
⟨(.type "frame"),none,.plain,#[(some (.ref 20)),(some (.ref 3)),(some (.ref 17)),none,(some @a2),none,(some (.ref 0))]⟩ ::
o1 ::
o2 P :: t
noncomputable def ZK(P:gf)(t:List Obj):List Obj:=o3 ::
⟨(.type "super"),none,(.fields #[(.ref 24),(.ref 24),(.ref 24)]),#[]⟩ ::
⟨@bB,none,(.fields #[@bG,(.ref 24)]),#[]⟩ ::
o4 ::
KO ::
⟨@aD,none,(.dict #[hE P "__module__" 214 @a2,hE P "__qualname__" 216 (.str "NoName" 215),hE P "__firstlineno__" 218 (.int 4 217),hE P "__static_attributes__" 219 (.ref 35)] 4),#[]⟩ ::
o1 ::
jv ::
hC "NoName" 209 [hI 4,hI 0,hI 0,hI 0,hI 0,hR 31,(.bool @W),hI 181,hR 32,hN,hN,hN,hN,hI 212,hI 4,hS 213] ::
⟨(.type "frame"),none,.plain,#[(some (.ref 33)),(some (.ref 3)),(some (.ref 30)),none,(some @a2),none,(some (.ref 0))]⟩ ::
o1 ::
o5 P ::
o6 ::
⟨(.type "super"),none,(.fields #[(.ref 37),(.ref 37),(.ref 37)]),#[]⟩ ::
⟨@bB,none,(.fields #[@bG,(.ref 37)]),#[]⟩ ::
o4 ::
KO ::
⟨@aD,none,(.dict #[hE P "__module__" 230 @a2,hE P "__qualname__" 232 (.str "NameTaken" 231),hE P "__firstlineno__" 234 (.int 6 233),hE P "__static_attributes__" 235 (.ref 47)] 4),#[]⟩ ::
o1 ::
jv ::
hC "NameTaken" 225 [hI 6,hI 0,hI 0,hI 0,hI 0,hR 43,(.bool @W),hI 181,hR 44,hN,hN,hN,hN,hI 228,hI 6,hS 229] ::
⟨(.type "frame"),none,.plain,#[(some (.ref 45)),(some (.ref 3)),(some (.ref 42)),none,(some @a2),none,(some (.ref 0))]⟩ ::
o1 ::
o7 P ::
o8 ::
⟨(.type "super"),none,(.fields #[(.ref 49),(.ref 49),(.ref 49)]),#[]⟩ ::
⟨@bB,none,(.fields #[@bG,(.ref 49)]),#[]⟩ ::
o4 ::
KO ::
⟨@aD,none,(.dict #[hE P "__module__" 246 @a2,hE P "__qualname__" 248 (.str "NoSpot" 247),hE P "__firstlineno__" 250 (.int 8 249),hE P "__static_attributes__" 251 (.ref 59)] 4),#[]⟩ ::
o1 ::
jv ::
hC "NoSpot" 241 [hI 8,hI 0,hI 0,hI 0,hI 0,hR 55,(.bool @W),hI 181,hR 56,hN,hN,hN,hN,hI 244,hI 8,hS 245] ::
⟨(.type "frame"),none,.plain,#[(some (.ref 57)),(some (.ref 3)),(some (.ref 54)),none,(some @a2),none,(some (.ref 0))]⟩ ::
o1 ::
o9 P ::
o10 ::
⟨(.type "super"),none,(.fields #[(.ref 61),(.ref 61),(.ref 61)]),#[]⟩ ::
⟨@bB,none,(.fields #[@bG,(.ref 61)]),#[]⟩ ::
o4 ::
KO ::
⟨@aD,none,(.dict #[hE P "__module__" 262 @a2,hE P "__qualname__" 264 (.str "TooMany" 263),hE P "__firstlineno__" 266 (.int 10 265),hE P "__static_attributes__" 267 (.ref 71)] 4),#[]⟩ ::
o1 ::
jv ::
hC "TooMany" 257 [hI 10,hI 0,hI 0,hI 0,hI 0,hR 67,(.bool @W),hI 181,hR 68,hN,hN,hN,hN,hI 260,hI 10,hS 261] ::
⟨(.type "frame"),none,.plain,#[(some (.ref 69)),(some (.ref 3)),(some (.ref 66)),none,(some @a2),none,(some (.ref 0))]⟩ ::
o1 ::
o11 P ::
o12 ::
⟨(.type "super"),none,(.fields #[(.ref 73),(.ref 73),(.ref 73)]),#[]⟩ ::
⟨@bB,none,(.fields #[@bG,(.ref 73)]),#[]⟩ ::
o4 ::
KO ::
⟨@aD,none,(.dict #[hE P "__module__" 278 @a2,hE P "__qualname__" 280 (.str "NoFit" 279),hE P "__firstlineno__" 282 (.int 12 281),hE P "__static_attributes__" 283 (.ref 83)] 4),#[]⟩ ::
o1 ::
jv ::
hC "NoFit" 273 [hI 12,hI 0,hI 0,hI 0,hI 0,hR 79,(.bool @W),hI 181,hR 80,hN,hN,hN,hN,hI 276,hI 12,hS 277] ::
⟨(.type "frame"),none,.plain,#[(some (.ref 81)),(some (.ref 3)),(some (.ref 78)),none,(some @a2),none,(some (.ref 0))]⟩ ::
o1 ::
o13 P ::
o14 ::
⟨(.type "super"),none,(.fields #[(.ref 85),(.ref 85),(.ref 85)]),#[]⟩ ::
⟨@bB,none,(.fields #[@bG,(.ref 85)]),#[]⟩ :: t
noncomputable def cr4(P:gf)(t:List Obj):List Obj:=o4 ::
KO ::
⟨@aD,none,(.dict #[hE P "__module__" 294 @a2,hE P "__qualname__" 296 (.str "NoMove" 295),hE P "__firstlineno__" 298 (.int 14 297),hE P "__static_attributes__" 299 (.ref 95)] 4),#[]⟩ ::
o1 ::
jv ::
hC "NoMove" 289 [hI 14,hI 0,hI 0,hI 0,hI 0,hR 91,(.bool @W),hI 181,hR 92,hN,hN,hN,hN,hI 292,hI 14,hS 293] ::
⟨(.type "frame"),none,.plain,#[(some (.ref 93)),(some (.ref 3)),(some (.ref 90)),none,(some @a2),none,(some (.ref 0))]⟩ ::
o1 ::
o15 P ::
o16 ::
⟨(.type "super"),none,(.fields #[(.ref 97),(.ref 97),(.ref 97)]),#[]⟩ ::
⟨@bB,none,(.fields #[@bG,(.ref 97)]),#[]⟩ ::
o1 ::
jv ::
⟨@O,none,(.seq #[(.str "rows" 310),(.str "passings" 311),(.str "row" 312)] 0),#[]⟩ ::
o1 ::
hG (top 10) "passings_of" "passings_of" 0 0 ::
hD "passings_of" 307 18 1 100 (hR 102) (hR 103) (hR 104) 314 ::
hF 10 "passings_of" @bu (.ref 105) ::
o1 ::
jv ::
⟨@O,none,(.seq #[(.str "row" 319),(.str "start" 320)] 0),#[]⟩ ::
o1 ::
hG (top 11) "seated" "seated" 0 0 ::
hD "seated" 316 23 1 107 (hR 109) (hR 110) (hR 111) 322 ::
hF 11 "seated" @bu (.ref 112) ::
o1 ::
jv ::
hG (top 12) "seated_rows" "seated_rows" 0 0 ::
hD "seated_rows" 324 28 1 114 hN hN (hR 116) 328 ::
hF 12 "seated_rows" @bu (.ref 117) ::
o1 ::
jv ::
hG (top 13) "names_of" "names_of" 0 0 ::
hD "names_of" 330 30 1 119 hN hN (hR 121) 334 ::
hF 13 "names_of" @bu (.ref 122) ::
o1 ::
jv ::
⟨@O,none,(.seq #[(.str "drawing" 339),(.str "name" 340),(.str "passing" 341)] 0),#[]⟩ ::
o1 ::
hG (top 14) "hand_of" "hand_of" 0 0 ::
hD "hand_of" 336 32 2 124 (hR 126) (hR 127) (hR 128) 343 ::
hF 14 "hand_of" @bu (.ref 129) ::
o1 ::
jv ::
hG (top 15) "spots_on" "spots_on" 0 0 ::
hD "spots_on" 345 37 2 131 hN hN (hR 133) 349 ::
hF 15 "spots_on" @bu (.ref 134) ::
o1 ::
jv ::
⟨@O,none,(.seq #[(.str "drawing" 354),(.str "behind" 355),(.str "row" 356),(.str "passing" 357),(.str "follower" 358)] 0),#[]⟩ ::
o1 ::
hG (top 16) "next_of" "next_of" 0 0 ::
hD "next_of" 351 41 1 136 (hR 138) (hR 139) (hR 140) 360 ::
hF 16 "next_of" @bu (.ref 141) ::
o1 ::
jv ::
⟨@O,none,(.seq #[(.str "drawing" 365),(.str "spot" 366),(.str "string" 367),(.str "row" 368)] 0),#[]⟩ ::
o1 ::
hG (top 17) "string_of" "string_of" 0 0 ::
hD "string_of" 362 47 2 143 (hR 145) (hR 146) (hR 147) 370 ::
hF 17 "string_of" @bu (.ref 148) ::
o1 ::
jv ::
⟨@O,none,(.seq #[(.str "behind" 377),(.str "one" 378),(.str "other" 379)] 0),#[]⟩ ::
o1 ::
hG (top 19) "neighbours" "neighbours" 0 0 ::
hD "neighbours" 374 53 3 150 (hR 152) (hR 153) (hR 154) 381 ::
hF 19 "neighbours" @aY (.ref 155) ::
o1 ::
jv ::
⟨@O,none,(.seq #[(.str "drawing" 386),(.str "name" 387)] 0),#[]⟩ ::
o1 ::
hG (top 20) "uncurl_fits" "uncurl_fits" 0 0 ::
hD "uncurl_fits" 383 55 2 157 (hR 159) (hR 160) (hR 161) 389 ::
hF 20 "uncurl_fits" @aY (.ref 162) ::
o1 ::
jv ::
⟨@O,none,(.seq #[(.str "drawing" 394),(.str "name" 395),(.str "second" 396),(.str "behind" 397)] 0),#[]⟩ ::
o1 ::
hG (top 21) "part_fits" "part_fits" 0 0 ::
hD "part_fits" 391 57 3 164 (hR 166) (hR 167) (hR 168) 399 ::
hF 21 "part_fits" @aY (.ref 169) ::
o1 ::
jv ::
⟨@O,none,(.seq #[(.str "one" 404),(.str "other" 405),(.str "turn" 406)] 0),#[]⟩ ::
o1 ::
hG (top 22) "in_turn" "in_turn" 0 0 ::
hD "in_turn" 401 62 3 171 (hR 173) (hR 174) (hR 175) 408 ::
hF 22 "in_turn" @aY (.ref 176) ::
o1 ::
jv ::
⟨@O,none,(.seq #[(.str "drawing" 413),(.str "name" 414),(.str "second" 415),(.str "third" 416),(.str "turn" 417),(.str "first_hand" 418),(.str "second_hand" 419),(.str "third_hand" 420)] 0),#[]⟩ ::
o1 ::
hG (top 23) "slide_pairs" "slide_pairs" 0 0 ::
hD "slide_pairs" 410 66 5 178 (hR 180) (hR 181) (hR 182) 422 ::
hF 23 "slide_pairs" @aY (.ref 183) ::
o1 ::
jv ::
hG (top 24) "slide_fits" "slide_fits" 0 0 ::
hD "slide_fits" 424 71 5 185 hN hN (hR 187) 428 ::
hF 24 "slide_fits" @aY (.ref 188) ::
o1 ::
jv ::
⟨@O,none,(.seq #[(.str "drawing" 433)] 0),#[]⟩ ::
o1 ::
hG (top 25) "lessening" "lessening" 0 0 ::
hD "lessening" 430 76 1 190 (hR 192) (hR 193) (hR 194) 435 ::
hF 25 "lessening" @aY (.ref 195) ::
o1 ::
jv ::
hG (top 26) "uncurls_in" "uncurls_in" 0 0 ::
hD "uncurls_in" 437 78 1 197 hN hN (hR 199) 441 ::
hF 26 "uncurls_in" @aY (.ref 200) ::
o1 ::
jv ::
⟨@O,none,(.seq #[(.str "drawing" 446),(.str "behind" 447),(.str "pairs" 448),(.str "name" 449),(.str "after" 450)] 0),#[]⟩ ::
o1 ::
hG (top 27) "overs_in_turn" "overs_in_turn" 0 0 ::
hD "overs_in_turn" 443 80 1 202 (hR 204) (hR 205) (hR 206) 452 ::
hF 27 "overs_in_turn" @aY (.ref 207) ::
o1 ::
jv ::
hG (top 28) "parts_in" "parts_in" 0 0 ::
hD "parts_in" 454 88 1 209 hN hN (hR 211) 458 ::
hF 28 "parts_in" @aY (.ref 212) ::
o1 ::
jv ::
⟨@O,none,(.seq #[(.str "drawing" 463),(.str "slides" 464),(.str "one" 465),(.str "other" 466),(.str "third" 467)] 0),#[]⟩ ::
o1 ::
hG (top 29) "slides_in" "slides_in" 0 0 ::
hD "slides_in" 460 91 1 214 (hR 216) (hR 217) (hR 218) 469 ::
hF 29 "slides_in" @aY (.ref 219) ::
o1 ::
jv ::
⟨@O,none,(.seq #[(.str "drawing" 476),(.str "names" 477),(.str "known" 478),(.str "name" 479)] 0),#[]⟩ ::
o1 ::
hG (top 31) "refuse_unknown" "refuse_unknown" 0 0 ::
hD "refuse_unknown" 473 101 2 221 (hR 223) (hR 224) (hR 225) 481 ::
hF 31 "refuse_unknown" @p (.ref 226) ::
o1 ::
jv ::
⟨@O,none,(.seq #[(.str "fits" 486)] 0),#[]⟩ ::
o1 ::
hG (top 32) "refuse_unfit" "refuse_unfit" 0 0 ::
hD "refuse_unfit" 483 106 1 228 (hR 230) (hR 231) (hR 232) 488 ::
hF 32 "refuse_unfit" @p (.ref 233) :: t
noncomputable def cr5(P:gf)(t:List Obj):List Obj:=o1 ::
jv ::
⟨@O,none,(.seq #[(.str "drawing" 493),(.str "names" 494),(.str "taken" 495),(.str "name" 496)] 0),#[]⟩ ::
o1 ::
hG (top 33) "refuse_new" "refuse_new" 0 0 ::
hD "refuse_new" 490 109 2 235 (hR 237) (hR 238) (hR 239) 498 ::
hF 33 "refuse_new" @p (.ref 240) ::
o1 ::
jv ::
⟨@O,none,(.seq #[(.str "drawing" 503),(.str "spot" 504),(.str "passings" 505),(.str "string" 506),(.str "rows" 507),(.str "place" 508)] 0),#[]⟩ ::
o1 ::
hG (top 34) "with_put" "with_put" 0 0 ::
hD "with_put" 500 117 3 242 (hR 244) (hR 245) (hR 246) 510 ::
hF 34 "with_put" @p (.ref 247) ::
o1 ::
jv ::
hG (top 35) "taken_out" "taken_out" 0 0 ::
hD "taken_out" 512 123 2 249 hN hN (hR 251) 516 ::
hF 35 "taken_out" @p (.ref 252) ::
o1 ::
jv ::
hG (top 36) "spot_ahead" "spot_ahead" 0 0 ::
hD "spot_ahead" 518 128 3 254 hN hN (hR 256) 522 ::
hF 36 "spot_ahead" @p (.ref 257) ::
o1 ::
jv ::
⟨@O,none,(.seq #[(.str "drawing" 527),(.str "name" 528),(.str "second" 529),(.str "way" 530)] 0),#[]⟩ ::
o1 ::
hG (top 37) "first_in_turn" "first_in_turn" 0 0 ::
hD "first_in_turn" 524 136 4 259 (hR 261) (hR 262) (hR 263) 532 ::
hF 37 "first_in_turn" @p (.ref 264) ::
o1 ::
jv ::
hG (top 38) "with_changed" "with_changed" 0 0 ::
hD "with_changed" 534 140 2 266 hN hN (hR 268) 538 ::
hF 38 "with_changed" @p (.ref 269) ::
o1 ::
jv ::
⟨@O,none,(.seq #[(.str "spot" 543),(.str "names" 544)] 0),#[]⟩ ::
o1 ::
hG (top 39) "renamed_spot" "renamed_spot" 0 0 ::
hD "renamed_spot" 540 150 2 271 (hR 273) (hR 274) (hR 275) 546 ::
hF 39 "renamed_spot" @p (.ref 276) ::
o1 ::
KO ::
⟨@aD,none,(.dict #[hE P "__module__" 555 @p,hE P "__qualname__" 557 (.str "Move" 556),hE P "__firstlineno__" 559 (.int 154 558),hE P "__static_attributes__" 560 (.ref 285)] 4),#[]⟩ ::
o1 ::
jv ::
hC "Move" 550 [hI 154,hI 0,hI 0,hI 0,hI 0,hR 281,(.bool @W),hI 181,hR 282,hN,hN,hN,hN,hI 553,hI 154,hS 554] ::
⟨(.type "frame"),none,.plain,#[(some (.ref 283)),(some (.ref 3)),(some (.ref 280)),none,(some @p),none,(some (.ref 0))]⟩ ::
o1 ::
o17 P :: t
noncomputable def cr6(P:gf)(t:List Obj):List Obj:=o18 ::
o19 ::
⟨(.type "super"),none,(.fields #[(.ref 287),(.ref 287),(.ref 287)]),#[]⟩ ::
⟨@bB,none,(.fields #[@bG,(.ref 287)]),#[]⟩ ::
RP ::
KO ::
⟨@aD,none,(.dict #[hE P "__module__" 575 @p,hE P "__qualname__" 577 (.str "Uncurl" 576),hE P "__firstlineno__" 579 (.int 156 578),hE P "__init__" 587 (.ref 305),hE P "told" 594 (.ref 312),hE P "refuse" 602 (.ref 319),hE P "done" 610 (.ref 326),hE P "back" 622 (.ref 333),hE P "renamed" 630 (.ref 340),hE P "__static_attributes__" 632 (.ref 341)] 10),#[]⟩ ::
o1 ::
⟨.none,none,(.fields #[(.int 158 0),@aw,(.ref 304),(.int 161 0),@aw,(.ref 311),(.int 164 0),@aw,(.ref 318),(.int 168 0),@aw,(.ref 325),(.int 172 0),@aw,(.ref 332),(.int 180 0),@aw,(.ref 339)]),#[]⟩ ::
hC "Uncurl" 570 [hI 156,hI 0,hI 0,hI 0,hI 0,hR 295,(.bool @W),hI 181,hR 296,hN,hN,hN,hN,hI 573,hI 156,hS 574] ::
⟨(.type "frame"),none,.plain,#[(some (.ref 297)),(some (.ref 3)),(some (.ref 294)),none,(some @p),none,(some (.ref 0))]⟩ ::
o1 ::
jv ::
⟨@O,none,(.seq #[(.str "self" 583),(.str "name" 584)] 0),#[]⟩ ::
o1 ::
hG (og 41 0) "__init__" "Uncurl.__init__" 0 0 ::
o21 ::
hM 41 0 "__init__" "Uncurl.__init__" @p (.ref 304) ::
o1 ::
jv ::
⟨@O,none,(.seq #[(.str "self" 591)] 0),#[]⟩ ::
o1 ::
hG (og 41 1) "told" "Uncurl.told" 0 0 ::
o22 ::
hM 41 1 "told" "Uncurl.told" @p (.ref 311) ::
o1 ::
jv ::
⟨@O,none,(.seq #[(.str "self" 598),(.str "drawing" 599)] 0),#[]⟩ ::
o1 ::
hG (og 41 2) "refuse" "Uncurl.refuse" 0 0 ::
o23 ::
hM 41 2 "refuse" "Uncurl.refuse" @p (.ref 318) ::
o1 ::
jv ::
⟨@O,none,(.seq #[(.str "self" 606),(.str "drawing" 607)] 0),#[]⟩ ::
o1 ::
hG (og 41 3) "done" "Uncurl.done" 0 0 ::
o24 ::
hM 41 3 "done" "Uncurl.done" @p (.ref 325) ::
o1 ::
jv ::
⟨@O,none,(.seq #[(.str "self" 614),(.str "drawing" 615),(.str "over" 616),(.str "under" 617),(.str "first" 618),(.str "spot" 619)] 0),#[]⟩ ::
o1 ::
hG (og 41 4) "back" "Uncurl.back" 0 0 ::
o25 ::
hM 41 4 "back" "Uncurl.back" @p (.ref 332) ::
o1 ::
jv ::
⟨@O,none,(.seq #[(.str "self" 626),(.str "names" 627)] 0),#[]⟩ ::
o1 ::
hG (og 41 5) "renamed" "Uncurl.renamed" 0 0 ::
o26 ::
hM 41 5 "renamed" "Uncurl.renamed" @p (.ref 339) ::
o27 ::
o28 P ::
o29 ::
⟨(.type "super"),none,(.fields #[(.ref 343),(.ref 343),(.ref 343)]),#[]⟩ ::
⟨@bB,none,(.fields #[@bG,(.ref 343)]),#[]⟩ ::
RP ::
KO ::
⟨@aD,none,(.dict #[hE P "__module__" 643 @p,hE P "__qualname__" 645 (.str "Curl" 644),hE P "__firstlineno__" 647 (.int 182 646),hE P "__init__" 658 (.ref 359),hE P "told" 665 (.ref 366),hE P "done" 674 (.ref 373),hE P "back" 682 (.ref 380),hE P "renamed" 690 (.ref 387),hE P "__static_attributes__" 695 (.ref 388)] 9),#[]⟩ ::
o1 ::
⟨.none,none,(.fields #[(.int 184 0),@aw,(.ref 358),(.int 190 0),@aw,(.ref 365),(.int 193 0),@aw,(.ref 372),(.int 198 0),@aw,(.ref 379),(.int 202 0),@aw,(.ref 386)]),#[]⟩ ::
hC "Curl" 638 [hI 182,hI 0,hI 0,hI 0,hI 0,hR 349,(.bool @W),hI 181,hR 350,hN,hN,hN,hN,hI 641,hI 182,hS 642] ::
⟨(.type "frame"),none,.plain,#[(some (.ref 351)),(some (.ref 3)),(some (.ref 348)),none,(some @p),none,(some (.ref 0))]⟩ ::
o1 ::
jv ::
⟨@O,none,(.seq #[(.str "self" 651),(.str "name" 652),(.str "spot" 653),(.str "first" 654),(.str "hand" 655)] 0),#[]⟩ ::
o1 ::
hG (og 42 0) "__init__" "Curl.__init__" 0 0 ::
o30 ::
hM 42 0 "__init__" "Curl.__init__" @p (.ref 358) ::
o1 ::
jv ::
⟨@O,none,(.seq #[(.str "self" 662)] 0),#[]⟩ ::
o1 ::
hG (og 42 1) "told" "Curl.told" 0 0 ::
o31 ::
hM 42 1 "told" "Curl.told" @p (.ref 365) ::
o1 ::
jv ::
⟨@O,none,(.seq #[(.str "self" 669),(.str "drawing" 670),(.str "passings" 671)] 0),#[]⟩ ::
o1 ::
hG (og 42 2) "done" "Curl.done" 0 0 ::
o32 ::
hM 42 2 "done" "Curl.done" @p (.ref 372) ::
o1 ::
jv ::
⟨@O,none,(.seq #[(.str "self" 678),(.str "drawing" 679)] 0),#[]⟩ ::
o1 ::
hG (og 42 3) "back" "Curl.back" 0 0 ::
o33 ::
hM 42 3 "back" "Curl.back" @p (.ref 379) ::
o1 ::
jv ::
⟨@O,none,(.seq #[(.str "self" 686),(.str "names" 687)] 0),#[]⟩ ::
o1 ::
hG (og 42 4) "renamed" "Curl.renamed" 0 0 ::
o34 ::
hM 42 4 "renamed" "Curl.renamed" @p (.ref 386) ::
o35 ::
o36 P ::
o37 ::
⟨(.type "super"),none,(.fields #[(.ref 390),(.ref 390),(.ref 390)]),#[]⟩ ::
⟨@bB,none,(.fields #[@bG,(.ref 390)]),#[]⟩ :: t
noncomputable def cL0(P:gf):List Obj:=LR P ::
LQ P ::
LP P ::
boot_o_3 P ::
Ww P (⟨.none,none,(.fields #[]),#[]⟩ ::
Wv P ([]))
noncomputable def cS0(w:World)(os:jf):my:=⟨K2.bt (cL0 w.params),15,{},jI [],ig,187,os⟩
noncomputable def cL1(P:gf):List Obj:=LR P ::
LQ P ::
LP P ::
boot_o_3 P ::
Ww P (⟨.none,none,(.fields #[]),#[]⟩ ::
Wv P ([]))
noncomputable def cS1(w:World)(os:jf):my:=⟨K2.bt (cL1 w.params),15,{},jI [],ig,187,os⟩
noncomputable def cL2(P:gf):List Obj:=LR P ::
LQ P ::
LP P ::
⟨@aD,none,(.dict #[hE P "__name__" 165 @a2,hE P "__doc__" 166 .none,hE P "__package__" 167 .none,hE P "__loader__" 168 (.builtin "__main__.__loader__#opaque"),hE P "__spec__" 169 .none,hE P "__annotations__" 170 (.ref 6),hE P "__builtins__" 171 (.ref 4),hE P "__file__" 173 (.str "/claim/cut.py" 172),hE P "__cached__" 174 .none,hE P "KnotError" 206 (.ref 24),hE P "NoName" 222 (.ref 37),hE P "NameTaken" 238 (.ref 49),hE P "NoSpot" 254 (.ref 61),hE P "TooMany" 270 (.ref 73),hE P "NoFit" 286 (.ref 85)] 15),#[]⟩ ::
Ww P (⟨.none,none,(.fields #[(.int 2 0),@g,(.ref 20),@aw,@g,(.ref 33),(.int 6 0),@g,(.ref 45),(.int 8 0),@g,(.ref 57),(.int 10 0),@g,(.ref 69),(.int 12 0),@g,(.ref 81)]),#[]⟩ ::
Wv P (ZL P (⟨(.type "type"),none,(.cls ⟨"KnotError",[@bn],[(.ref 24),@bn,(.type "Exception"),(@bO),@a3],23,"KnotError",.true,[],[(.ref 37),(.ref 49),(.ref 61),(.ref 73),(.ref 85)],@W,none,@W⟩),#[(some (.ref 15)),none,(some (.str "KnotError" 189)),(some (.str "KnotError" 197)),@bP,(some @aa)]⟩ ::
ZK P ([]))))
noncomputable def cS2(w:World)(os:jf):my:=⟨K2.bt (cL2 w.params),88,{},jI [],ig,287,os⟩
noncomputable def cL3(P:gf):List Obj:=LR P ::
LQ P ::
LP P ::
⟨@aD,none,(.dict #[hE P "__name__" 165 @p,hE P "__doc__" 166 .none,hE P "__package__" 167 .none,hE P "__loader__" 168 (.builtin "__main__.__loader__#opaque"),hE P "__spec__" 169 .none,hE P "__annotations__" 170 (.ref 6),hE P "__builtins__" 171 (.ref 4),hE P "__file__" 173 (.str "/claim/cut.py" 172),hE P "__cached__" 174 .none,hE P "KnotError" 206 (.ref 24),hE P "NoName" 222 (.ref 37),hE P "NameTaken" 238 (.ref 49),hE P "NoSpot" 254 (.ref 61),hE P "TooMany" 270 (.ref 73),hE P "NoFit" 286 (.ref 85),hE P "NoMove" 302 (.ref 97),hE P "MOST_CROSSINGS" 306 (.int 12 305),hE P "passings_of" 315 (.ref 106),hE P "seated" 323 (.ref 113),hE P "seated_rows" 329 (.ref 118),hE P "names_of" 335 (.ref 123),hE P "hand_of" 344 (.ref 130),hE P "spots_on" 350 (.ref 135),hE P "next_of" 361 (.ref 142),hE P "string_of" 371 (.ref 149),hE P "neighbours" 382 (.ref 156),hE P "uncurl_fits" 390 (.ref 163),hE P "part_fits" 400 (.ref 170),hE P "in_turn" 409 (.ref 177),hE P "slide_pairs" 423 (.ref 184),hE P "slide_fits" 429 (.ref 189),hE P "lessening" 436 (.ref 196),hE P "uncurls_in" 442 (.ref 201),hE P "overs_in_turn" 453 (.ref 208),hE P "parts_in" 459 (.ref 213),hE P "slides_in" 470 (.ref 220),hE P "refuse_unknown" 482 (.ref 227),hE P "refuse_unfit" 489 (.ref 234)] 38),#[]⟩ ::
Ww P (⟨.none,none,(.fields #[(.int 2 0),@g,(.ref 20),@aw,@g,(.ref 33),(.int 6 0),@g,(.ref 45),(.int 8 0),@g,(.ref 57),(.int 10 0),@g,(.ref 69),(.int 12 0),@g,(.ref 81),(.int 14 0),@g,(.ref 93),(.int 18 0),@g,(.ref 105),(.int 23 0),@g,(.ref 112),(.int 28 0),@g,(.ref 117),(.int 30 0),@g,(.ref 122),(.int 32 0),@g,(.ref 129),(.int 37 0),@g,(.ref 134),(.int 41 0),@g,(.ref 141),(.int 47 0),@g,(.ref 148),(.int 53 0),@g,(.ref 155),(.int 55 0),@g,(.ref 162),(.int 57 0),@g,(.ref 169),(.int 62 0),@g,(.ref 176),(.int 66 0),@g,(.ref 183),(.int 71 0),@g,(.ref 188),(.int 76 0),@g,(.ref 195),(.int 78 0),@g,(.ref 200),(.int 80 0),@g,(.ref 207),(.int 88 0),@g,(.ref 212),(.int 91 0),@g,(.ref 219),(.int 101 0),@g,(.ref 226),(.int 106 0),@g,(.ref 233)]),#[]⟩ ::
Wv P (ZL P (⟨(.type "type"),none,(.cls ⟨"KnotError",[@bn],[(.ref 24),@bn,(.type "Exception"),(@bO),@a3],23,"KnotError",.true,[],[(.ref 37),(.ref 49),(.ref 61),(.ref 73),(.ref 85),(.ref 97)],@W,none,@W⟩),#[(some (.ref 15)),none,(some (.str "KnotError" 189)),(some (.str "KnotError" 197)),@bP,(some @aa)]⟩ ::
ZK P (cr4 P ([])))))
noncomputable def cS3(w:World)(os:jf):my:=⟨K2.bt (cL3 w.params),235,{},jI [],ig,490,os⟩
noncomputable def cL4(P:gf):List Obj:=LR P ::
LQ P ::
LP P ::
⟨@aD,none,(.dict #[hE P "__name__" 165 @p,hE P "__doc__" 166 .none,hE P "__package__" 167 .none,hE P "__loader__" 168 (.builtin "__main__.__loader__#opaque"),hE P "__spec__" 169 .none,hE P "__annotations__" 170 (.ref 6),hE P "__builtins__" 171 (.ref 4),hE P "__file__" 173 (.str "/claim/cut.py" 172),hE P "__cached__" 174 .none,hE P "KnotError" 206 (.ref 24),hE P "NoName" 222 (.ref 37),hE P "NameTaken" 238 (.ref 49),hE P "NoSpot" 254 (.ref 61),hE P "TooMany" 270 (.ref 73),hE P "NoFit" 286 (.ref 85),hE P "NoMove" 302 (.ref 97),hE P "MOST_CROSSINGS" 306 (.int 12 305),hE P "passings_of" 315 (.ref 106),hE P "seated" 323 (.ref 113),hE P "seated_rows" 329 (.ref 118),hE P "names_of" 335 (.ref 123),hE P "hand_of" 344 (.ref 130),hE P "spots_on" 350 (.ref 135),hE P "next_of" 361 (.ref 142),hE P "string_of" 371 (.ref 149),hE P "neighbours" 382 (.ref 156),hE P "uncurl_fits" 390 (.ref 163),hE P "part_fits" 400 (.ref 170),hE P "in_turn" 409 (.ref 177),hE P "slide_pairs" 423 (.ref 184),hE P "slide_fits" 429 (.ref 189),hE P "lessening" 436 (.ref 196),hE P "uncurls_in" 442 (.ref 201),hE P "overs_in_turn" 453 (.ref 208),hE P "parts_in" 459 (.ref 213),hE P "slides_in" 470 (.ref 220),hE P "refuse_unknown" 482 (.ref 227),hE P "refuse_unfit" 489 (.ref 234),hE P "refuse_new" 499 (.ref 241),hE P "with_put" 511 (.ref 248),hE P "taken_out" 517 (.ref 253),hE P "spot_ahead" 523 (.ref 258),hE P "first_in_turn" 533 (.ref 265),hE P "with_changed" 539 (.ref 270),hE P "renamed_spot" 547 (.ref 277),hE P "Move" 567 (.ref 287),hE P "Uncurl" 635 (.ref 343),hE P "Curl" 698 (.ref 390)] 48),#[]⟩ ::
Ww P (⟨.none,none,(.fields #[(.int 2 0),@g,(.ref 20),@aw,@g,(.ref 33),(.int 6 0),@g,(.ref 45),(.int 8 0),@g,(.ref 57),(.int 10 0),@g,(.ref 69),(.int 12 0),@g,(.ref 81),(.int 14 0),@g,(.ref 93),(.int 18 0),@g,(.ref 105),(.int 23 0),@g,(.ref 112),(.int 28 0),@g,(.ref 117),(.int 30 0),@g,(.ref 122),(.int 32 0),@g,(.ref 129),(.int 37 0),@g,(.ref 134),(.int 41 0),@g,(.ref 141),(.int 47 0),@g,(.ref 148),(.int 53 0),@g,(.ref 155),(.int 55 0),@g,(.ref 162),(.int 57 0),@g,(.ref 169),(.int 62 0),@g,(.ref 176),(.int 66 0),@g,(.ref 183),(.int 71 0),@g,(.ref 188),(.int 76 0),@g,(.ref 195),(.int 78 0),@g,(.ref 200),(.int 80 0),@g,(.ref 207),(.int 88 0),@g,(.ref 212),(.int 91 0),@g,(.ref 219),(.int 101 0),@g,(.ref 226),(.int 106 0),@g,(.ref 233),(.int 109 0),@g,(.ref 240),(.int 117 0),@g,(.ref 247),(.int 123 0),@g,(.ref 252),(.int 128 0),@g,(.ref 257),(.int 136 0),@g,(.ref 264),(.int 140 0),@g,(.ref 269),(.int 150 0),@g,(.ref 276),(.int 154 0),@g,(.ref 283),(.int 156 0),@g,(.ref 297),(.int 182 0),@g,(.ref 351)]),#[]⟩ ::
Wv P (ZL P (⟨(.type "type"),none,(.cls ⟨"KnotError",[@bn],[(.ref 24),@bn,(.type "Exception"),(@bO),@a3],23,"KnotError",.true,[],[(.ref 37),(.ref 49),(.ref 61),(.ref 73),(.ref 85),(.ref 97)],@W,none,@W⟩),#[(some (.ref 15)),none,(some (.str "KnotError" 189)),(some (.str "KnotError" 197)),@bP,(some @aa)]⟩ ::
ZK P (cr4 P (cr5 P (⟨(.type "type"),none,(.cls ⟨"Move",[@a3],[(.ref 287),@a3],286,"Move",.true,[],[(.ref 343),(.ref 390)],@W,none,@W⟩),#[none,none,(some (.str "Move" 548)),(some (.str "Move" 556)),(some (.builtin "object.__new__")),(some @aa)]⟩ ::
cr6 P ([])))))))
noncomputable def cS4(w:World)(os:jf):my:=⟨K2.bt (cL4 w.params),393,{},jI [],ig,699,os⟩
noncomputable def cL5(P:gf):List Obj:=LR P ::
LQ P ::
LP P ::
⟨@aD,none,(.dict #[hE P "__name__" 165 @p,hE P "__doc__" 166 .none,hE P "__package__" 167 .none,hE P "__loader__" 168 (.builtin "__main__.__loader__#opaque"),hE P "__spec__" 169 .none,hE P "__annotations__" 170 (.ref 6),hE P "__builtins__" 171 (.ref 4),hE P "__file__" 173 (.str "/claim/cut.py" 172),hE P "__cached__" 174 .none,hE P "KnotError" 206 (.ref 24),hE P "NoName" 222 (.ref 37),hE P "NameTaken" 238 (.ref 49),hE P "NoSpot" 254 (.ref 61),hE P "TooMany" 270 (.ref 73),hE P "NoFit" 286 (.ref 85),hE P "NoMove" 302 (.ref 97),hE P "MOST_CROSSINGS" 306 (.int 12 305),hE P "passings_of" 315 (.ref 106),hE P "seated" 323 (.ref 113),hE P "seated_rows" 329 (.ref 118),hE P "names_of" 335 (.ref 123),hE P "hand_of" 344 (.ref 130),hE P "spots_on" 350 (.ref 135),hE P "next_of" 361 (.ref 142),hE P "string_of" 371 (.ref 149),hE P "neighbours" 382 (.ref 156),hE P "uncurl_fits" 390 (.ref 163),hE P "part_fits" 400 (.ref 170),hE P "in_turn" 409 (.ref 177),hE P "slide_pairs" 423 (.ref 184),hE P "slide_fits" 429 (.ref 189),hE P "lessening" 436 (.ref 196),hE P "uncurls_in" 442 (.ref 201),hE P "overs_in_turn" 453 (.ref 208),hE P "parts_in" 459 (.ref 213),hE P "slides_in" 470 (.ref 220),hE P "refuse_unknown" 482 (.ref 227),hE P "refuse_unfit" 489 (.ref 234),hE P "refuse_new" 499 (.ref 241),hE P "with_put" 511 (.ref 248),hE P "taken_out" 517 (.ref 253),hE P "spot_ahead" 523 (.ref 258),hE P "first_in_turn" 533 (.ref 265),hE P "with_changed" 539 (.ref 270),hE P "renamed_spot" 547 (.ref 277),hE P "Move" 567 (.ref 287),hE P "Uncurl" 635 (.ref 343),hE P "Curl" 698 (.ref 390),hE P "Part" 772 (.ref 444),hE P "Lay" 852 (.ref 498),hE P "Slide" 924 (.ref 552)] 51),#[]⟩ ::
Ww P (⟨.none,none,(.fields #[(.int 2 0),@g,(.ref 20),@aw,@g,(.ref 33),(.int 6 0),@g,(.ref 45),(.int 8 0),@g,(.ref 57),(.int 10 0),@g,(.ref 69),(.int 12 0),@g,(.ref 81),(.int 14 0),@g,(.ref 93),(.int 18 0),@g,(.ref 105),(.int 23 0),@g,(.ref 112),(.int 28 0),@g,(.ref 117),(.int 30 0),@g,(.ref 122),(.int 32 0),@g,(.ref 129),(.int 37 0),@g,(.ref 134),(.int 41 0),@g,(.ref 141),(.int 47 0),@g,(.ref 148),(.int 53 0),@g,(.ref 155),(.int 55 0),@g,(.ref 162),(.int 57 0),@g,(.ref 169),(.int 62 0),@g,(.ref 176),(.int 66 0),@g,(.ref 183),(.int 71 0),@g,(.ref 188),(.int 76 0),@g,(.ref 195),(.int 78 0),@g,(.ref 200),(.int 80 0),@g,(.ref 207),(.int 88 0),@g,(.ref 212),(.int 91 0),@g,(.ref 219),(.int 101 0),@g,(.ref 226),(.int 106 0),@g,(.ref 233),(.int 109 0),@g,(.ref 240),(.int 117 0),@g,(.ref 247),(.int 123 0),@g,(.ref 252),(.int 128 0),@g,(.ref 257),(.int 136 0),@g,(.ref 264),(.int 140 0),@g,(.ref 269),(.int 150 0),@g,(.ref 276),(.int 154 0),@g,(.ref 283),(.int 156 0),@g,(.ref 297),(.int 182 0),@g,(.ref 351),(.int 204 0),@g,(.ref 398),(.int 235 0),@g,(.ref 452),(.int 269 0),@g,(.ref 506)]),#[]⟩ ::
Wv P (ZL P (⟨(.type "type"),none,(.cls ⟨"KnotError",[@bn],[(.ref 24),@bn,(.type "Exception"),(@bO),@a3],23,"KnotError",.true,[],[(.ref 37),(.ref 49),(.ref 61),(.ref 73),(.ref 85),(.ref 97)],@W,none,@W⟩),#[(some (.ref 15)),none,(some (.str "KnotError" 189)),(some (.str "KnotError" 197)),@bP,(some @aa)]⟩ ::
ZK P (cr4 P (cr5 P (⟨(.type "type"),none,(.cls ⟨"Move",[@a3],[(.ref 287),@a3],286,"Move",.true,[],[(.ref 343),(.ref 390),(.ref 444),(.ref 498),(.ref 552)],@W,none,@W⟩),#[none,none,(some (.str "Move" 548)),(some (.str "Move" 556)),(some (.builtin "object.__new__")),(some @aa)]⟩ ::
cr6 P (⟨@O,none,(.seq #[(.ref 287)] 0),#[]⟩ ::
KO ::
⟨@aD,none,(.dict #[hE P "__module__" 706 @p,hE P "__qualname__" 708 (.str "Part" 707),hE P "__firstlineno__" 710 (.int 204 709),hE P "__init__" 719 (.ref 406),hE P "told" 726 (.ref 413),hE P "refuse" 734 (.ref 420),hE P "done" 742 (.ref 427),hE P "back" 758 (.ref 434),hE P "renamed" 766 (.ref 441),hE P "__static_attributes__" 769 (.ref 442)] 10),#[]⟩ ::
o1 ::
⟨.none,none,(.fields #[(.int 206 0),@aw,(.ref 405),(.int 210 0),@aw,(.ref 412),(.int 213 0),@aw,(.ref 419),(.int 217 0),@aw,(.ref 426),(.int 221 0),@aw,(.ref 433),(.int 233 0),@aw,(.ref 440)]),#[]⟩ ::
hC "Part" 701 [hI 204,hI 0,hI 0,hI 0,hI 0,hR 396,(.bool @W),hI 181,hR 397,hN,hN,hN,hN,hI 704,hI 204,hS 705] ::
⟨(.type "frame"),none,.plain,#[(some (.ref 398)),(some (.ref 3)),(some (.ref 395)),none,(some @p),none,(some (.ref 0))]⟩ ::
o1 ::
jv ::
⟨@O,none,(.seq #[(.str "self" 714),(.str "name" 715),(.str "second" 716)] 0),#[]⟩ ::
o1 ::
hG (og 43 0) "__init__" "Part.__init__" 0 0 ::
o38 ::
hM 43 0 "__init__" "Part.__init__" @p (.ref 405) ::
o1 ::
jv ::
⟨@O,none,(.seq #[(.str "self" 723)] 0),#[]⟩ ::
o1 ::
hG (og 43 1) "told" "Part.told" 0 0 ::
o39 ::
hM 43 1 "told" "Part.told" @p (.ref 412) ::
o1 ::
jv ::
⟨@O,none,(.seq #[(.str "self" 730),(.str "drawing" 731)] 0),#[]⟩ ::
o1 ::
hG (og 43 2) "refuse" "Part.refuse" 0 0 ::
o40 ::
hM 43 2 "refuse" "Part.refuse" @p (.ref 419) ::
o1 ::
jv ::
⟨@O,none,(.seq #[(.str "self" 738),(.str "drawing" 739)] 0),#[]⟩ ::
o1 ::
hG (og 43 3) "done" "Part.done" 0 0 ::
o41 ::
hM 43 3 "done" "Part.done" @p (.ref 426) ::
o1 ::
jv ::
⟨@O,none,(.seq #[(.str "self" 746),(.str "drawing" 747),(.str "first" 748),(.str "other" 749),(.str "lower" 750),(.str "overs" 751),(.str "unders" 752),(.str "over" 753),(.str "under" 754),(.str "turned" 755)] 0),#[]⟩ ::
o1 ::
hG (og 43 4) "back" "Part.back" 0 0 ::
o42 ::
hM 43 4 "back" "Part.back" @p (.ref 433) ::
o1 ::
jv ::
⟨@O,none,(.seq #[(.str "self" 762),(.str "names" 763)] 0),#[]⟩ ::
o1 ::
hG (og 43 5) "renamed" "Part.renamed" 0 0 ::
o43 ::
hM 43 5 "renamed" "Part.renamed" @p (.ref 440) ::
o44 ::
o45 P ::
o46 ::
⟨(.type "super"),none,(.fields #[(.ref 444),(.ref 444),(.ref 444)]),#[]⟩ ::
⟨@bB,none,(.fields #[@bG,(.ref 444)]),#[]⟩ ::
RP ::
KO ::
⟨@aD,none,(.dict #[hE P "__module__" 780 @p,hE P "__qualname__" 782 (.str "Lay" 781),hE P "__firstlineno__" 784 (.int 235 783),hE P "__init__" 797 (.ref 460),hE P "told" 804 (.ref 467),hE P "passings" 812 (.ref 474),hE P "done" 822 (.ref 481),hE P "back" 830 (.ref 488),hE P "renamed" 842 (.ref 495),hE P "__static_attributes__" 849 (.ref 496)] 10),#[]⟩ ::
o1 ::
⟨.none,none,(.fields #[(.int 237 0),@aw,(.ref 459),(.int 245 0),@aw,(.ref 466),(.int 248 0),@aw,(.ref 473),(.int 251 0),@aw,(.ref 480),(.int 259 0),@aw,(.ref 487),(.int 263 0),@aw,(.ref 494)]),#[]⟩ ::
hC "Lay" 775 [hI 235,hI 0,hI 0,hI 0,hI 0,hR 450,(.bool @W),hI 181,hR 451,hN,hN,hN,hN,hI 778,hI 235,hS 779] ::
⟨(.type "frame"),none,.plain,#[(some (.ref 452)),(some (.ref 3)),(some (.ref 449)),none,(some @p),none,(some (.ref 0))]⟩ ::
o1 ::
jv ::
⟨@O,none,(.seq #[(.str "self" 788),(.str "name" 789),(.str "second" 790),(.str "over" 791),(.str "under" 792),(.str "turned" 793),(.str "hand" 794)] 0),#[]⟩ ::
o1 ::
hG (og 44 0) "__init__" "Lay.__init__" 0 0 ::
o47 ::
hM 44 0 "__init__" "Lay.__init__" @p (.ref 459) ::
o1 ::
jv ::
⟨@O,none,(.seq #[(.str "self" 801)] 0),#[]⟩ ::
o1 ::
hG (og 44 1) "told" "Lay.told" 0 0 ::
o48 ::
hM 44 1 "told" "Lay.told" @p (.ref 466) ::
o1 ::
jv ::
⟨@O,none,(.seq #[(.str "self" 808),(.str "way" 809)] 0),#[]⟩ ::
o1 ::
hG (og 44 2) "passings" "Lay.passings" 0 0 ::
o49 ::
hM 44 2 "passings" "Lay.passings" @p (.ref 473) ::
o1 ::
jv ::
⟨@O,none,(.seq #[(.str "self" 816),(.str "drawing" 817),(.str "above" 818),(.str "unders" 819)] 0),#[]⟩ ::
o1 ::
hG (og 44 3) "done" "Lay.done" 0 0 ::
o50 ::
hM 44 3 "done" "Lay.done" @p (.ref 480) ::
o1 ::
jv ::
⟨@O,none,(.seq #[(.str "self" 826),(.str "drawing" 827)] 0),#[]⟩ ::
o1 ::
hG (og 44 4) "back" "Lay.back" 0 0 ::
o51 ::
hM 44 4 "back" "Lay.back" @p (.ref 487) ::
o1 ::
jv ::
⟨@O,none,(.seq #[(.str "self" 834),(.str "names" 835),(.str "name" 836),(.str "second" 837),(.str "over" 838),(.str "under" 839)] 0),#[]⟩ ::
o1 ::
hG (og 44 5) "renamed" "Lay.renamed" 0 0 ::
o52 ::
hM 44 5 "renamed" "Lay.renamed" @p (.ref 494) ::
o53 ::
o54 P ::
o55 ::
⟨(.type "super"),none,(.fields #[(.ref 498),(.ref 498),(.ref 498)]),#[]⟩ ::
⟨@bB,none,(.fields #[@bG,(.ref 498)]),#[]⟩ ::
RP ::
KO ::
⟨@aD,none,(.dict #[hE P "__module__" 860 @p,hE P "__qualname__" 862 (.str "Slide" 861),hE P "__firstlineno__" 864 (.int 269 863),hE P "__init__" 875 (.ref 514),hE P "told" 882 (.ref 521),hE P "refuse" 890 (.ref 528),hE P "done" 898 (.ref 535),hE P "back" 906 (.ref 542),hE P "renamed" 916 (.ref 549),hE P "__static_attributes__" 921 (.ref 550)] 10),#[]⟩ ::
o1 ::
⟨.none,none,(.fields #[(.int 271 0),@aw,(.ref 513),(.int 277 0),@aw,(.ref 520),(.int 280 0),@aw,(.ref 527),(.int 284 0),@aw,(.ref 534),(.int 288 0),@aw,(.ref 541),(.int 292 0),@aw,(.ref 548)]),#[]⟩ ::
hC "Slide" 855 [hI 269,hI 0,hI 0,hI 0,hI 0,hR 504,(.bool @W),hI 181,hR 505,hN,hN,hN,hN,hI 858,hI 269,hS 859] ::
⟨(.type "frame"),none,.plain,#[(some (.ref 506)),(some (.ref 3)),(some (.ref 503)),none,(some @p),none,(some (.ref 0))]⟩ ::
o1 ::
jv ::
⟨@O,none,(.seq #[(.str "self" 868),(.str "name" 869),(.str "second" 870),(.str "third" 871),(.str "turn" 872)] 0),#[]⟩ ::
o1 ::
hG (og 45 0) "__init__" "Slide.__init__" 0 0 ::
o56 ::
hM 45 0 "__init__" "Slide.__init__" @p (.ref 513) ::
o1 ::
jv ::
⟨@O,none,(.seq #[(.str "self" 879)] 0),#[]⟩ ::
o1 ::
hG (og 45 1) "told" "Slide.told" 0 0 ::
o57 ::
hM 45 1 "told" "Slide.told" @p (.ref 520) ::
o1 ::
jv ::
⟨@O,none,(.seq #[(.str "self" 886),(.str "drawing" 887)] 0),#[]⟩ ::
o1 ::
hG (og 45 2) "refuse" "Slide.refuse" 0 0 ::
o58 ::
hM 45 2 "refuse" "Slide.refuse" @p (.ref 527) ::
o1 ::
jv ::
⟨@O,none,(.seq #[(.str "self" 894),(.str "drawing" 895)] 0),#[]⟩ ::
o1 ::
hG (og 45 3) "done" "Slide.done" 0 0 ::
o59 ::
hM 45 3 "done" "Slide.done" @p (.ref 534) ::
o1 ::
jv ::
⟨@O,none,(.seq #[(.str "self" 902),(.str "drawing" 903)] 0),#[]⟩ ::
o1 ::
hG (og 45 4) "back" "Slide.back" 0 0 ::
o60 ::
hM 45 4 "back" "Slide.back" @p (.ref 541) ::
o1 ::
jv ::
⟨@O,none,(.seq #[(.str "self" 910),(.str "names" 911),(.str "name" 912),(.str "second" 913)] 0),#[]⟩ ::
o1 ::
hG (og 45 5) "renamed" "Slide.renamed" 0 0 ::
o61 ::
hM 45 5 "renamed" "Slide.renamed" @p (.ref 548) ::
o62 ::
o63 P ::
o64 ::
⟨(.type "super"),none,(.fields #[(.ref 552),(.ref 552),(.ref 552)]),#[]⟩ ::
⟨@bB,none,(.fields #[@bG,(.ref 552)]),#[]⟩ ::
[])))))))
noncomputable def cS5(w:World)(os:jf):my:=⟨K2.bt (cL5 w.params),555,{},jI [],ig,925,os⟩
def hL:@D:=[]
noncomputable abbrev S9(w)(os):=K2.u5 ik PySem.Challenge.rw_knotwise_k27_lessening.row.prog w 11 (some (.ref 6)) 782 (cS5 w os) (restOf ((((cB.drop 7).drop 26).drop 10).drop 3) cE cC ⟨269,0,295,80⟩ [mr cQ])
theorem abL(w)(os):(S9 w os).map (λs=>(K2.Jp PySem.Challenge.rw_knotwise_k27_lessening.row.prog hQ hL (@bT) (λs=>hA.map s.heap.get?) w.params s.abs).2.1)=some (LO hQ hL):=@aV
theorem abM(w)(os):(S9 w os).map (λs=>((K2.Jp PySem.Challenge.rw_knotwise_k27_lessening.row.prog hQ hL (@bT) (λs=>hA.map s.heap.get?) w.params s.abs).1,(K2.Jp PySem.Challenge.rw_knotwise_k27_lessening.row.prog hQ hL (@bT) (λs=>hA.map s.heap.get?) w.params s.abs).2.2))=some (true,(hK w.params).map λp=>some p.2):=@aV
theorem h_z (P):((gy P).isNs bJ,(gy P).objs.size,(gy P).nsMap bJ "__annotations__")=(true,11,(some (.ref 6))):=@aV
theorem X5(w)(os):K2.Yi ik PySem.Challenge.rw_knotwise_k27_lessening.row.prog w 11 (some (.ref 6)) 12 (K2.Pu w.params os) (topStub PySem.Challenge.rw_knotwise_k27_lessening.row.prog)=some (cS0 w os,⟨denote ik cC,cC,⟨0,0,0,0⟩,[mr cQ]⟩):=@aV
theorem X6(w)(os):Ml ik PySem.Challenge.rw_knotwise_k27_lessening.row.prog w 11 (some (.ref 6)) 1 1 (cS0 w os) (blockOf cB cE cC ⟨0,0,0,0⟩ [mr cQ])=some (.next,cS1 w os,cC,⟨0,0,0,0⟩):=@aV
theorem abK(w)(os):Ml ik PySem.Challenge.rw_knotwise_k27_lessening.row.prog w 11 (some (.ref 6)) 1 1261 (cS1 w os) (piecesOf (cB.take 7) cE cC ⟨0,0,0,0⟩ [mr cQ])=some (.next,cS2 w os,cC,⟨12,0,13,8⟩):=@aV
theorem abJ(w)(os):Ml ik PySem.Challenge.rw_knotwise_k27_lessening.row.prog w 11 (some (.ref 6)) 1 879 (cS2 w os) (piecesOf ((cB.drop 7).take 26) cE cC ⟨12,0,13,8⟩ [mr cQ])=some (.next,cS3 w os,cC,⟨106,0,108,44⟩):=@aV
theorem abI(w)(os):Ml ik PySem.Challenge.rw_knotwise_k27_lessening.row.prog w 11 (some (.ref 6)) 1 1184 (cS3 w os) (piecesOf (((cB.drop 7).drop 26).take 10) cE cC ⟨106,0,108,44⟩ [mr cQ])=some (.next,cS4 w os,cC,⟨182,0,203,107⟩):=@aV
theorem abH(w)(os):Ml ik PySem.Challenge.rw_knotwise_k27_lessening.row.prog w 11 (some (.ref 6)) 1 1247 (cS4 w os) (piecesOf ((((cB.drop 7).drop 26).drop 10).take 3) cE cC ⟨182,0,203,107⟩ [mr cQ])=some (.next,cS5 w os,cC,⟨269,0,295,80⟩):=@aV
theorem Vr(w)(os):(topFrom ik (PySem.Challenge.rw_knotwise_k27_lessening).row.prog w (12+(1+(1261+(879+(1184+(1247+782)))))) ⟨gy w.params,jI [],ig,uQ,os⟩).map (λs=>(openSeen hQ hL (mw (PySem.Challenge.rw_knotwise_k27_lessening).row.prog.main.body) (@bT) true s,hA.map s.heap.get?))=some (LO hQ hL,(hK w.params).map λp=>some p.2) :=
 K2.QG (Yf:=λs=>hA.map s.heap.get?) (Ya:=λw=>(hK w.params).map λp=>some p.2) (h_z w.params) (K2.N9 (abM w os) (abL w os)) λ_ k=>K2.LA (X5 w os) (X6 w os) <| K2.wt 7 (abK w os) <| K2.wt 26 (abJ w os) <| K2.wt 10 (abI w os) <| K2.wt 3 (abH w os) <| k
theorem Vq:(PySem.Challenge.rw_knotwise_k27_lessening).wellSaid=true:=@aV
theorem Vp:K2.IK PySem.Challenge.rw_knotwise_k27_lessening hQ=true:=@aV
end
end Fin
namespace L2
open PySem PySem.Spec PyProof.Rows
abbrev Key:=Sum Int Str
def B9:Key->Value->Bool
 | .inl k,v=>Value.isInt k v
 | .inr x,v=>Value.isStrOf x v
def aaU(w:World):Key->Int
 | .inl k=>hashInt k
 | .inr x=>hashStr w x
theorem fE:∀ {k:Key} {v:Value},B9 k v=true->(∃ i t,k=CD i/\v=qZ i t)\/(∃ x t,k=Gw x/\v=Ew x t)
 | .inl i,v,h=>by
  obtain⟨t,e⟩:=Value.isInt_shape (k:=i) (v:=v) h;exact .inl ⟨i,t,rfl,e⟩
 | .inr x,v,h=>by
  obtain⟨t,e⟩:=Value.isStrOf_shape (x:=x) (v:=v) h;exact .inr ⟨x,t,rfl,e⟩
theorem Lb(i)(t):B9 (.inl i) (.int i t)=true:=by simp [B9,Value.isInt]
theorem La(x)(t):B9 (.inr x) (.str x t)=true:=by simp [B9,Value.isStrOf]
theorem Oi(a b):decide ((CD a:Key)=CD b)=(a == b):=by
 by_cases e:a=b
 .subst e;simp
 .have h:¬ (CD a:Key)=CD b:=λq=>e (Sum.inl.inj q);rw [decide_eq_false h];exact(beq_eq_false_iff_ne.mpr e).symm
theorem Oh(a b):decide ((Gw a:Key)=Gw b)=decide (a=b):=by
 by_cases e:a=b
 .subst e;simp
 .have h:¬ (Gw a:Key)=Gw b:=λq=>e (Sum.inr.inj q);rw [decide_eq_false h,decide_eq_false e]
theorem Vd(a)(b):decide ((CD a:Key)=Gw b)=false:=decide_eq_false (λq=>nomatch q)
theorem Vc(a)(b):decide ((Gw a:Key)=CD b)=false:=decide_eq_false (λq=>nomatch q)
def fi(prog)(w):PySem.KeyKind prog w Key where
 is:=B9
 hash:=aaU w
 inj:=λv a b ha hb=>by
  rcases fE ha with ⟨i,t,rfl,rfl⟩ | ⟨x,t,rfl,rfl⟩
  .rcases fE hb with ⟨j,u,rfl,e⟩ | ⟨y,u,rfl,e⟩
   .injection e with e1 _;rw [e1]
   .exact nomatch e
  .rcases fE hb with ⟨j,u,rfl,e⟩ | ⟨y,u,rfl,e⟩
   .exact nomatch e
   .injection e with e1 _;rw [e1]
 byValue:=λk v h=>by
  rcases fE h with ⟨i,t,rfl,rfl⟩ | ⟨x,t,rfl,rfl⟩ <;> rfl
 pyHash:=λhv h=>by
  rcases fE hv with ⟨i,t,rfl,rfl⟩ | ⟨x,t,rfl,rfl⟩
  .exact wpAny_pyHash_int h
  .exact wpAny_pyHash_str h
 eqBool:=λhu hv h=>by
  rcases fE hu with ⟨i,t,rfl,rfl⟩ | ⟨x,t,rfl,rfl⟩
  .rcases fE hv with ⟨j,u,rfl,rfl⟩ | ⟨y,u,rfl,rfl⟩
   .rw [Oi] at h;exact wpAny_eqBool_int h
   .rw [Vd] at h;exact SeqAt.EqAt.int_str i t y u _ _ _ _ h
  .rcases fE hv with ⟨j,u,rfl,rfl⟩ | ⟨y,u,rfl,rfl⟩
   .rw [Vc] at h;exact SeqAt.EqAt.str_int x t j u _ _ _ _ h
   .rw [Oh] at h;exact wpAny_eqBool_str h
 «strs»:=λk x t v h=>by
  rcases fE h with ⟨i,u,rfl,e⟩ | ⟨y,u,rfl,e⟩
  .exact nomatch e
  .injection e with e1 _
   subst e1;cases v <;> rfl
theorem E9(prog)(w)(i)(t):(fi prog w).is (.inl i) (.int i t)=true:=Lb i t
theorem E8(prog)(w)(x)(t):(fi prog w).is (.inr x) (.str x t)=true:=La x t
inductive V where
 | dj | bl (b:Bool) | int (i:Int) | str (x:Str) | Te (b:Array UInt8) | FA (b:UInt64) | ref (a:Addr) | ty (n:String)
def RelV:V->Value->Prop
 | .dj,u=>u=fu
 | .bl b,u=>u=wQ b
 | .int i,u=>∃ t,u=qZ i t
 | .str x,u=>∃ t,u=Ew x t
 | .Te b,u=>∃ t,u=Value.bytes b t
 | .FA b,u=>∃ t,u=Value.float b t
 | .ref a,u=>u=d4 a
 | .ty n,u=>u=Iu n
abbrev Vals:@A->@B->Prop:=Paired RelV
theorem Vals.length(r:Vals xs us):xs.length=us.length:=sC r
theorem Vals.get:∀ {xs:@A} {us:@B} {i:Nat} {x:V},Vals xs us->xs[i]?=some x->∃ u,us[i]?=@R/\RelV x u:=by
 intro xs us i x h;induction h generalizing i with
 | nil=>intro e;cases e
 | cons r t ih =>
  intro e;cases i with
  | zero=>cases e;exact⟨_,rfl,r⟩
  | succ i=>exact ih e
theorem Vals.set(r:RelV x u):∀ {xs:@A} {us:@B} (i:Nat),Vals xs us->Vals (xs.set i x) (us.set i u):=by
 intro xs us i h;induction h generalizing i with
 | nil=>rw [CJ,CJ];exact .nil
 | cons q t ih =>
  cases i with
  | zero=>exact .cons r t
  | succ i=>exact .cons q (ih i)
theorem Vals.append:∀ {xs ys:@A} {us ws:@B},Vals xs us->Vals ys ws->Vals (xs++ys) (us++ws):=by
 intro xs ys us ws h s;induction h with
 | nil=>exact s
 | cons r t ih=>exact .cons r ih
theorem Vals.take:∀ {xs:@A} {us:@B} (n:Nat),Vals xs us->Vals (xs.take n) (us.take n):=by
 intro xs us n h;induction h generalizing n with
 | nil=>rw [AX,AX];exact .nil
 | cons r t ih =>
  cases n with
  | zero=>exact .nil
  | succ n=>exact .cons r (ih n)
theorem Vals.drop:∀ {xs:@A} {us:@B} (n:Nat),Vals xs us->Vals (xs.drop n) (us.drop n):=by
 intro xs us n h;induction h generalizing n with
 | nil=>rw [AY,AY];exact .nil
 | cons r t ih =>
  cases n with
  | zero=>exact .cons r t
  | succ n=>exact ih n
def qO:Option V->Option Value->Prop
 | some v,some u=>RelV v u
 | none,none=>True
 | _,_=>False
def KV:List (κ×V)->List (κ×Value)->Prop:=Paired λ(p:κ×V) (q:κ×Value)=>p.1=q.1/\RelV p.2 q.2
def kV:Key->V
 | .inl i=>@Y
 | .inr x=>.str x
inductive HO where
 | lst (xs:@A)
 | tup (xs:@A)
 | dK (bo:List (Key×V)) | dT (bo:List (@N×V))
 | set (S:Int->Bool) (n:Nat)
 | ins (C dx:Addr) (fs:List (Str×V))
 | own (x:Addr)
 | xd (fs:List (Str×V))
 | met (f x:Addr)
 | Y9 (lo hi:Int)
 | ni (o:Obj) (u:HO)
 | SA (q:Str)
 | ext (φ:Heap->Prop)
abbrev Hp:=Addr->Option HO
def upd(H:Hp)(a:Addr)(o:HO):Hp:=λb=>if b=a then @j else H b
theorem dv:upd H a o a=@j:=by unfold upd;rw [if_pos rfl]
theorem bY(h:b≠a):upd H a o b=H b:=by unfold upd;rw [if_neg h]
theorem Xg{H:Hp}{a b:Addr}{o u:HO}(h:H a=@j)(h':H b=@R)(d:o≠u):a≠b:=by
 intro e;subst e;rw [h] at h';exact d (bA h')
theorem eL{H:Hp}{a b:Addr}{o:HO}(h:H a=@j)(h':H b=none):a≠b:=by
 intro e;subst e;rw [h] at h';cases h'
section
variable (P:bI) (w:World)
def iA(H:Hp)(h:Heap)(a:Addr):HO->Prop
 | .lst xs=>xs.length<=bw/\∃ (bu:@B) (n:Nat),Vals xs bu/\@aK=some { cls:=@ak,data:=.seq bu.toArray n }
 | .tup xs=>xs.length<=bw/\∃ bu:@B,Vals xs bu/\IsTup h a bu.toArray
 | .dK bo=>bo.length<=bw/\(a == gL)=false/\∃ vs,KV bo vs/\h.DictOf (fi P w) a vs
 | .dT bo=>bo.length<=bw/\(a == gL)=false/\∃ xs:List (@N×Addr×Value),
   Paired (λ(p:@N×V) (q:@N×Addr×Value)=>p.1=q.1/\H q.2.1=some (.tup (p.1.map kV))/\RelV p.2 q.2.2) bo xs /\
   ∃ o es ep,@aK=@j/\o.ExactDict/\o.data=.dict es ep/\es.toList=xs.map (entryOfKey (zm (fi P w)))/\(xs.map @t).Nodup
 | .set S n=>h.SetOf (intKind P w) a S n
 | .ins C dx fs=>H dx=some (.own a)/\fs.length<=1000/\dx≠a/\@aK=some (gY C dx) /\
   ∃ mA,h.Ns1 dx mA/\(∀ f,qO (fs.lookup f) (mA f))/\Mp mA (fs.map @t)
 | .own _=>∃ o,@aK=@j
 | .xd fs=>∃ mA,h.Ns1 a mA/\∀ f,qO (fs.lookup f) (mA f)
 | .Y9 lo hi=>∃ t u v,@aK=some { cls:=.type "range",data:=.fields #[.int lo t,.int hi u,.int 1 v] }
 | .ni o u=>@aK=@j/\iA H h a u
 | .SA q=>∃ ps,@aK=some { cls:=.none,data:=.fields ps }/\TriplesOk ps.toList/\∀ pos cv,codeAmong pos ps.toList=some cv->∃ c',cv=.ref c'/\H c'=some (.own a)/\h.CodeRec (.ref c') q
 | .met f x=>@aK=some (zt (.ref f) (.ref x))
 | .ext φ=>φ h/\(∃ o,@aK=@j)/\∀ h1 h2:Heap,φ h1->(∀ o,h1.get? a=@j->h2.get? a=@j)->φ h2
def uL(H:Hp)(h:Heap):Prop:=∀ a o,H a=@j->iA P w H h a o
end
section
variable {P:bI} {w:World} {H H':Hp} {h h':Heap} {a:Addr} {o:HO}
theorem iA.lt(x:iA P w H h a o):a < h.objs.size:=by
 cases o with
 | lst xs=>obtain⟨_,_,_,_,e⟩:=x;exact aQ e
 | tup xs=>obtain⟨_,_,_,p⟩:=x;exact p.lt
 | dK bo=>obtain⟨_,_,_,_,o,_,_,e,_⟩:=x;exact aQ e
 | dT bo=>obtain⟨_,_,_,_,o,_,_,e,_⟩:=x;exact aQ e
 | set S n=>obtain⟨o,_,_,_,e,_⟩:=x;exact aQ e
 | ins C dx fs=>obtain⟨_,_,_,e,_⟩:=x;exact aQ e
 | own y=>obtain⟨_,e⟩:=x;exact aQ e
 | xd fs=>obtain⟨_,⟨_,_,_,e,_⟩,_⟩:=x;exact aQ e
 | Y9 lo hi=>obtain⟨_,_,_,e⟩:=x;exact aQ e
 | ni ob u=>obtain⟨e,_⟩:=x;exact aQ e
 | SA q=>obtain⟨_,e,_⟩:=x;exact aQ e
 | met f y=>exact aQ (show @aK=some _ from x)
 | ext φ=>obtain⟨_,⟨_,e⟩,_⟩:=x;exact aQ e
theorem Paired.Xl:∀ {l₁:@v} {l₂:List β},Paired F l₁ l₂->(∀ a b,F a b->G a b)->Paired G l₁ l₂:=by
 intro l₁ l₂ h f;induction h with
 | nil=>exact .nil
 | cons r t ih=>exact .cons (f _ _ r) ih
theorem iA.nZ(x:iA P w H h a o)(k:∀ b u,(b=a\/H b=some (.own a))->@aA=@R->@al=@R)
  (ho:∀ b,H b=some (.own a)->H' b=some (.own a)) (ht:∀ b xs,H b=some (.tup xs)->H' b=some (.tup xs)):iA P w H' h' a o:=by
 induction o with
 | lst xs=>obtain⟨z,bu,n,r,e⟩:=x;exact⟨z,bu,n,r,k _ _ @af e⟩
 | tup xs=>obtain⟨z,bu,r,ob,e,c⟩:=x;exact⟨z,bu,r,ob,k _ _ @af e,c⟩
 | dK bo=>obtain⟨z,y,vs,r,ob,es,ep,e,c⟩:=x;exact⟨z,y,vs,r,ob,es,ep,k _ _ @af e,c⟩
 | dT bo =>
  obtain⟨z,y,xs,r,ob,es,ep,e,c⟩:=x;exact⟨z,y,xs,Paired.Xl r λp q z=>⟨z.1,ht _ _ z.2.1,z.2.2⟩,ob,es,ep,k _ _ @af e,c⟩
 | set S n=>obtain⟨ob,es,ep,t,e,c⟩:=x;exact⟨ob,es,ep,t,k _ _ @af e,c⟩
 | ins C dx fs =>
  obtain⟨d,z,ne,e,mA,⟨od,es,ep,e2,c⟩,r⟩:=x;exact⟨ho _ d,z,ne,k _ _ @af e,mA,⟨od,es,ep,k _ _ (.inr d) e2,c⟩,r⟩
 | own y=>obtain⟨ob,e⟩:=x;exact⟨ob,k _ _ @af e⟩
 | xd fs=>obtain⟨mA,⟨od,es,ep,e,c⟩,r⟩:=x;exact⟨mA,⟨od,es,ep,k _ _ @af e,c⟩,r⟩
 | Y9 lo hi=>obtain⟨t,u,v,e⟩:=x;exact⟨t,u,v,k _ _ @af e⟩
 | ni ob u ih=>obtain⟨e,q⟩:=x;exact⟨k _ _ @af e,ih q⟩
 | SA q =>
  obtain⟨ps,e,t,z⟩:=x;refine⟨ps,k _ _ @af e,t,λpos cv y=>?_⟩;obtain⟨c',e1,e2,c2,oc,vs,tq,e3,e4,r⟩:=z pos cv y;cases e3;exact⟨c',e1,ho _ e2,c',oc,vs,tq,rfl,k _ _ (.inr e2) e4,r⟩
 | met f y =>
  have e:@aK=some (zt (.ref f) (.ref y)):=x;show h'.get? a=some (zt (.ref f) (.ref y));exact k a _ @af e
 | ext φ=>obtain⟨p,⟨o,e⟩,st⟩:=x;exact⟨st _ _ p λo q=>k _ _ @af q,⟨o,k _ _ @af e⟩,st⟩
theorem uL.lt(x:uL P w H h)(e:H a=@j):a < h.objs.size:=(x a o e).lt
theorem uL.fresh(x:uL P w H h)(e:h.objs.size<=a):H a=none:=by
 cases q:H a with
 | none=>rfl
 | some u=>exact absurd (bT (x.lt q) e) (eR _)
theorem uL.kept(x:uL P w H h)(k:∀ b u,@aA=@R->@al=@R):uL P w H h':=λa o e =>
 (x a o e).nZ (λb u _ q=>k b u q) (λ_ q=>q) λ_ _ q=>q
theorem uL.laid(x:uL P w H h)(k:∀ b u,@aA=@R->@al=@R)(hp:h.objs.size<=a)(new:iA P w (upd H a o) h' a o):uL P w (upd H a o) h':=λb u e=>by
 have hn:=x.fresh hp;by_cases hb:b=a
 .subst hb;rw [dv] at e;cases e;exact new
 .rw [bY hb] at e;exact(x b u e).nZ (λc v _ q=>k c v q) (λc q=>by rw [bY (eL q hn)];exact q) λc xs q=>by rw [bY (eL q hn)];exact q
end
def Rd(H:Hp)(a:Addr)(u:HO):Prop:=H a=@R\/∃ o,H a=some (.ni o u)
theorem Rd.ok(r:Rd H a u)(x:uL P w H h):iA P w H h a u:=by
 rcases r with r | ⟨o,r⟩
 .exact x a u r
 .obtain⟨_,q⟩:=x a _ r;exact q
def YJ:Option HO->Prop
 | some (.lst _)=>True
 | some (.dK _)=>True
 | some (.dT _)=>True
 | some (.set _ _)=>True
 | some (.ins _ _ _)=>True
 | some (.ext _)=>True
 | _=>False
section
variable {P:bI} {w:World} {H:Hp} {h h':Heap} {x e:Addr} {o':HO}
theorem uL.write(ok:uL P w H h)(mu:YJ (H x))(he:e=x\/H e=some (.own x))(k:∀ b u,b≠e->@aA=@R->@al=@R)(Wn:∃ u,h'.get? e=@R)
  (new:iA P w (upd H x o') h' x o'):uL P w (upd H x o') h':=λb u q=>by
 have W9:∀ c y,H c=some (.own y)->c≠x:=λc y r z=>by subst z;rw [r] at mu;exact mu
 have aaC:∀ c xs,H c=some (.tup xs)->c≠x:=λc xs r z=>by subst z;rw [r] at mu;exact mu
 by_cases hb:b=x
 .subst hb;rw [dv] at q;cases q;exact new
 .rw [bY hb] at q;by_cases Vo:b=e
  .have q':H b=some (.own x):=by
    rcases he with z | z
    .exact absurd (Vo.trans z) hb
    .rw [Vo];exact z
   rw [q] at q';cases q';obtain⟨v,hv⟩:=Wn;exact⟨v,by rw [Vo];exact hv⟩
  .refine(ok b u q).nZ (λc v hc r=>k c v ?_ r) (λc r=>by rw [bY (W9 c b r)];exact r) λc xs r=>by rw [bY (aaC c xs r)];exact r
   rcases hc with rfl | hc
   .exact Vo
   .rintro rfl;rcases he with z | z
    .exact W9 c b hc z
    .rw [hc] at z;cases z;exact hb rfl
end
structure Un(fs ex:@aE)(H H':Hp)(h h':Heap):Prop where
 keep:∀ b o,@aA=@j->H b=none->b∉fs->b∉ex->@al=@j
 slot:∀ b o,@aA=@j->H b=none->b∈fs->b∉ex->∃ sl,@al=some { o with slots:=sl }
 free:∀ b o,@aA=@j->H b=none->b∉ex->H' b=none
 there:∀ b o,@aA=@j->b∉ex->∃ o',@al=some o'
 A9:∀ b xs,H b=some (.tup xs)->H' b=some (.tup xs)
 Ag:∀ b o u,H b=some (.ni o u)->H' b=some (.ni o u)
 Bb:∀ b q,H b=some (.SA q)->H' b=some (.SA q)
 Bg:∀ b x,H b=some (.own x)->H' b=some (.own x)
section
variable {fs fs' ex ex':@aE} {H H1 H2:Hp} {h h1 h2 h':Heap} {a x e:Addr} {o:HO}
theorem Un.any(u:Un fs ex H H1 h h1)(q:@aA=some ob)(n:H b=none)(hx:b∉ex):∃ sl,h1.get? b=some { ob with slots:=sl }:=by
 by_cases hb:b∈fs
 .exact u.slot b ob q n hb hx
 .exact⟨ob.slots,u.keep b ob q n hb hx⟩
theorem Un.kept(k:∀ b u,@aA=@R->@al=@R):Un fs ex H H h h' :=
 ⟨λb ob q _ _ _=>k b ob q,λb ob q _ _ _=>⟨ob.slots,k b ob q⟩,λ_ _ _ n _=>n,λb ob q _=>⟨ob,k b ob q⟩,λ_ _ q=>q,λ_ _ _ q=>q,λ_ _ q=>q,λ_ _ q=>q⟩
theorem Un.refl:Un fs ex H H h h:=Un.kept λ_ _ q=>q
theorem Un.laid(k:∀ b u,@aA=@R->@al=@R)(hp:h.objs.size<=a)(hn:H a=none):Un fs ex H (upd H a o) h h' where
 keep:=λb u q _ _ _=>k b u q
 slot:=λb u q _ _ _=>⟨u.slots,k b u q⟩
 free:=λb u q n _=>by rw [bY (bx (bT (aQ q) hp))];exact n
 there:=λb u q _=>⟨u,k b u q⟩
 A9:=λb xs q=>by rw [bY (eL q hn)];exact q
 Ag:=λb u xs q=>by rw [bY (eL q hn)];exact q
 Bb:=λb ps q=>by rw [bY (eL q hn)];exact q
 Bg:=λb ps q=>by rw [bY (eL q hn)];exact q
theorem Un.write(mu:YJ (H x))(he:e=x\/H e=some (.own x))(k:∀ b u,b≠e->@aA=@R->@al=@R)(Wn:∃ u,h'.get? e=@R):Un fs ex H (upd H x o) h h':=by
 have hx:∀ b,H b=none->b≠x:=λb n z=>by subst z;rw [n] at mu;exact mu
 have hb:∀ b,H b=none->b≠e:=λb n z=>by
  subst z;rcases he with r | r
  .exact hx b n r
  .rw [n] at r;cases r
 have hm:∀ b u,H b=@R->¬ YJ (@R)->b≠x:=λb u q nm z=>by subst z;rw [q] at mu;exact nm mu
 refine⟨λb u q n _ _=>k b u (hb b n) q,λb u q n _ _=>⟨u.slots,k b u (hb b n) q⟩,λb u q n _=>by rw [bY (hx b n)];exact n,λb u q _=>?_,
  λb xs q=>by rw [bY (hm b _ q λz=>z)];exact q,λb u xs q=>by rw [bY (hm b _ q λz=>z)];exact q,λb ps q=>by rw [bY (hm b _ q λz=>z)];exact q,λb ps q=>by rw [bY (hm b _ q λz=>z)];exact q⟩
 by_cases Vo:b=e
 .subst Vo;exact Wn
 .exact⟨u,k b u Vo q⟩
end
def Y4(h:Heap)(H:Hp):@aE:=(bZ h.objs.size).filter λa=>(H a).isSome
def Du(h:Heap)(H:Hp):Heap:=PySem.W.hideAll h (Y4 h H)
theorem Lj(h)(H):(Du h H).objs.size=h.objs.size:=PySem.W.hideAll_size _ _
theorem OJ{h:Heap}{H:Hp}{b:Addr}{o:Obj}(e:@aA=@j)(n:H b=none):(Du h H).get? b=@j :=
 PySem.W.hideAll_get _ e λhm=>by
  have q:(H b).isSome=true:=(List.mem_filter.mp hm).2;rw [n] at q;simp at q
theorem RO(e:(Du h H).get? b=@j):@aA=@j/\H b=none:=by
 have e':@aA=@j:=PySem.W.of_hideAll (Y4 h H) e;refine⟨e',?_⟩;cases q:H b with
 | none=>rfl
 | some x =>
  have hm:b∈Y4 h H:=List.mem_filter.mpr ⟨List.mem_range.mpr (aQ e'),by simp [q]⟩;have z:(Du h H).get? b=none:=PySem.W.hideAll_none (Y4 h H) hm;rw [z] at e;cases e
def qo(g h:Heap)(L:Addr):@y:=(bZ h.objs.size).filterMap λa=>if a=L\/(g.get? a).isSome=true then none else (@aK).map λo=>(a,o)
theorem kZ(h1:a≠L)(h2:g.get? a=none)(h3:@aK=@j):(a,o)∈qo g h L :=
 List.mem_filterMap.mpr ⟨a,List.mem_range.mpr (aQ h3),by simp [h1,h2,h3]⟩
theorem zO(hp:p∈qo g h L):p.1≠L/\g.get? p.1=none/\h.get? p.1=some p.2:=by
 obtain⟨b,_,e⟩:=List.mem_filterMap.mp hp;split at e
 .cases e
 .rename_i hn;cases q:@aA with
  | none=>rw [q] at e;simp at e
  | some u =>
   rw [q] at e;simp only [Option.map_some,Option.some.injEq] at e;subst e;refine⟨λz=>hn (.inl z),?_,q⟩;show g.get? b=none;cases r:g.get? b with
   | none=>rfl
   | some v=>exact(hn (.inr (by simp [r]))).elim
def rest(g h:Heap)(L d:Addr):@y:=(qo g h L).filter λp=>decide (p.1≠d)
theorem vM:News g L h (qo g h L):=λp hp=>let ⟨a,b,c⟩:=zO hp;⟨c,a,b⟩
structure Mod(K:aC)(mg:@aQ)(base:Heap):Prop where
 RX:K.In base
 glob:base.Ns bJ mg
 blt:∃ mb,base.Ns builtinsNs mb/\∀ x:Str,x≠"__name__"->mb x=cZ x
 nolimit:base.NoLimit
structure Cx where
 prog:bI
 w:World
 K:aC
 mg:@aQ
 base:Heap
 A:c7
 N:@D
 ny:aF
 PN:Hp
 env:Env
 outer:List Env
 stack:List Env
 ex:@aE
 fn:Str->Bool
 calm:Bool
 pn:@y
 xe:@H
def Md(l:List Env):@aE:=l.filterMap (·.frame)
abbrev Cx.fs(X:Cx):@aE:=Md X.outer
def ZM(sc:Scope)(x:Str):Prop:=@bH=@a8\/@bH=@aT\/@bH=some .free
def Loc(sc:Scope)(x:Str):Prop:=@bH=@a8\/@bH=@aT
def Look(env:Env)(h:Heap)(m:@aQ)(x:Str)(u:Value):Prop :=
 (env.kindOf x=@a8/\m x=@R)\/((env.kindOf x=@aT\/env.kindOf x=some .free)/\∃ c,env.cells.lookup x=some c/\h.IsCell c (@R))
structure Cx.Ok(X:Cx):Prop where
 mod:Mod X.K X.mg X.base
 kind:X.env.scope.kind=.function
 glob:X.env.globals=bJ
 blt:X.env.builtins=builtinsNs
 above:X.ny.heap.objs.size<=X.env.locals
 inj:∀ x y c,@bD->X.env.cells.lookup y=some c->x=y
 has:∀ x,(X.env.kindOf x=@aT\/X.env.kindOf x=some .free)->∃ c,@bD
 Yy:∀ x c,X.fn x=true->@bD->X.ny.heap.objs.size<=c
 hd:@a5->X.A.handled=none
 frames:X.A.frames=some X.stack
 Y6:X.stack=X.outer\/(X.stack=X.env :: X.outer/\X.env.frame=some X.env.locals)
 ZG:∀ b∈X.ex,@bJ/\∀ x c,@bD->c≠b
 bs:∀ b o,X.base.get? b=@j->X.ny.heap.get? b=@j/\X.PN b=none
 Qd:X.base.objs.size<=X.ny.heap.objs.size
 KP:∀ b o,X.base.get? b=@j->b∉X.ex
 O5:∀ b∈X.ex,b∉X.fs
 yG:X.ny.heap.FunFrames X.base X.outer
 Vy:∀ b∈X.fs,X.PN b=none
structure Inv(X:Cx)(pins:@y)(σ:List (Option V))(H:Hp)(s:aF):Prop where
 ok:X.Ok
 os:s.os=X.ny.os
 bare:CL s.gens
 base:Un X.fs X.ex X.PN H X.ny.heap s.heap
 loc:∃ m,s.heap.Ns X.env.locals m/\∀ (i:Nat) (x:Str) (v:V),X.N[i]?=some x->σ[i]?=some (@S)->ZM X.env.scope x->∃ u,RelV v u/\Look X.env s.heap m x u
 cell:∀ x c,@bD->∃ v,s.heap.IsCell c v
 free:H X.env.locals=none
 qG:∀ x c,@bD->H c=none
 pin:∀ p∈X.pn++pins,s.heap.get? p.1=some p.2/\H p.1=none/\p.1≠X.env.locals/\p.1∉X.fs/\∀ v,p.2.data≠.cell v
 du:uL X.prog X.w H s.heap
 len:σ.length=X.N.length
section
variable {X:Cx} {pins:@y} {σ:List (Option V)} {H H':Hp} {s:aF} {h':Heap}
theorem Cx.Ok.aaE(ok:X.Ok)(e:X.base.get? b=@j):b∉X.fs:=λhb=>by
 have:=(ok.yG.mem hb).1;rw [e] at this;cases this
theorem Inv.bs(I:@l):∀ b o,X.base.get? b=@j->@ar=@j/\H b=none:=λb o e =>
 ⟨I.base.keep b o (I.ok.bs b o e).1 (I.ok.bs b o e).2 (I.ok.aaE e) (I.ok.KP b o e),I.base.free b o (I.ok.bs b o e).1 (I.ok.bs b o e).2 (I.ok.KP b o e)⟩
theorem Inv.bk(I:@l):∀ b o,X.base.get? b=@j->@ar=@j:=λb o e=>(I.bs b o e).1
theorem Inv.mod(I:@l):Mod X.K X.mg X.base:=I.ok.mod
theorem Inv.Cb(I:@l):X.K.In s.heap:=I.ok.mod.RX.keeps I.bk
theorem Inv.fr(I:@l):∃ m,Fr X.base X.env.locals s.heap m :=
 let ⟨m,hn,_⟩:=I.loc
 ⟨m,hn,I.bk,cY I.ok.Qd I.ok.above⟩
theorem Inv.lt(I:@l):X.env.locals < s.heap.objs.size:=let ⟨_,hn,_⟩:=I.loc;hn.lt
theorem Inv.sz(I:@l):X.ny.heap.objs.size<=s.heap.objs.size:=cY I.ok.above (Ed I.lt)
theorem Inv.aaD(I:@l)(h:s.heap.objs.size<=a):a∉X.fs:=λhb=>by
 obtain⟨_,o,ho,_⟩:=I.ok.yG.mem hb;exact absurd (bT (aQ ho) (cY I.sz h)) (eR _)
theorem Inv.VJ(I:@l):∀ x c,@bD->c≠X.env.locals:=λx c e z=>by
 obtain⟨v,o,ho,hd⟩:=I.cell x c e;obtain⟨m,⟨o',es,ep,OE,Fu,_⟩,_⟩:=I.loc;rw [z,OE] at ho;cases ho;rw [Fu] at hd;cases hd
theorem Inv.yG(I:@l):s.heap.FunFrames X.base X.outer:=by
 have all:∀ (l:List Env),(∀ b∈Md l,b∈X.fs)->X.ny.heap.FunFrames X.base l->s.heap.FunFrames X.base l:=by
  intro l;induction l with
  | nil=>intro _ _;trivial
  | cons env r ih =>
   intro hs hl;obtain⟨hk,⟨L,o,hf,hn,ho,hd⟩,hr⟩:=hl;have hL:L∈X.fs:=hs L (by unfold Md;rw [yW,hf];exact a9);obtain⟨sl,e⟩:=I.base.slot L o ho (I.ok.Vy L hL) hL λz=>I.ok.O5 L z hL;exact⟨hk,⟨L,_,hf,hn,e,hd⟩,ih (λb hb=>hs b (by unfold Md;rw [yW,hf];exact aL _ hb)) hr⟩
 exact all X.outer (λ_ hb=>hb) I.ok.yG
theorem Inv.stack(I:@l):s.heap.FunFrames X.base X.stack:=by
 rcases I.ok.Y6 with e | ⟨e,hf⟩
 .rw [e];exact I.yG
 .rw [e];obtain⟨m,hn,_⟩:=I.loc;refine .cons (by rw [I.ok.kind];decide) hf hn ?_ I.yG;exact Qt (cY I.ok.Qd I.ok.above)
theorem Inv.GL(I:@l):∀ b∈Md X.stack,b∈X.env.locals :: X.fs:=λb hb=>by
 rcases I.ok.Y6 with e | ⟨e,hf⟩
 .rw [e] at hb;exact aL _ hb
 .rw [e] at hb;unfold Md at hb;rw [yW,hf] at hb;exact hb
theorem Inv.IQ(I:@l):∀ b∈Md X.stack,H b=none:=λb hb=>by
 rcases List.mem_cons.mp (I.GL b hb) with e | hb
 .rw [e];exact I.free
 .obtain⟨_,o,ho,_⟩:=I.ok.yG.mem hb;exact I.base.free b o ho (I.ok.Vy b hb) λz=>I.ok.O5 b z hb
theorem Inv.step{ch:@aE}(I:@l)
  (S7:∀ b∈ch,(b∈X.ex\/X.ny.heap.objs.size<=b)/\@bJ/\(∀ x c,@bD->c≠b)/\∀ p∈X.pn++pins,p.1≠b)
  (keep:∀ b o,@bJ->b∉X.fs->b∉ch->@ar=@j->H b=none->@al=@j)
  (slot:∀ b o,@bJ->b∈X.fs->b∉ch->@ar=@j->H b=none->∃ sl,@al=some { o with slots:=sl }) (free:∀ b o,b∉ch->@ar=@j->H b=none->H' b=none)
  (there:∀ b o,b∉ch->@ar=@j->∃ o',@al=some o')
  (A9:∀ b xs,H b=some (.tup xs)->H' b=some (.tup xs)) (Ag:∀ b o u,H b=some (.ni o u)->H' b=some (.ni o u)) (Bb:∀ b q,H b=some (.SA q)->H' b=some (.SA q)) (Bg:∀ b x,H b=some (.own x)->H' b=some (.own x))
  (ns:∀ m,s.heap.Ns X.env.locals m->h'.Ns X.env.locals m) (du:uL X.prog X.w H' h') (hg:CL g') :
  Inv X pins σ H' { s with heap:=h',gens:=g',drawn:=d',toks:=t' }:=by
 have neL:∀ b o,X.ny.heap.get? b=@j->@bJ:=λb o e=>bx (bT (aQ e) I.ok.above);have Ze:∀ b o,X.ny.heap.get? b=@j->b∉X.ex->b∉ch:=λb o e hx hb=>by
  rcases (S7 b hb).1 with z | z
  .exact hx z
  .exact absurd (bT (aQ e) z) (eR _)
 have cellK:∀ x c,@bD->∀ v,s.heap.IsCell c v->h'.IsCell c v:=λx c e v ⟨o,ho,hd⟩=>by
  have Xi:c∉ch:=λz=>(S7 c z).2.2.1 x c e rfl;by_cases hc:c∈X.fs
  .obtain⟨sl,q⟩:=slot c o (I.VJ x c e) hc Xi ho (I.qG x c e);exact⟨_,q,hd⟩
  .exact⟨o,keep c o (I.VJ x c e) hc Xi ho (I.qG x c e),hd⟩
 refine⟨I.ok,I.os,hg,⟨λb o e n hb hx=>?_,λb o e n hb hx=>?_,λb o e n hx=>?_,λb o e hx=>?_,λb xs e=>A9 b xs (I.base.A9 b xs e),λb o xs e=>Ag b o xs (I.base.Ag b o xs e),λb ps e=>?_,λb x e=>Bg b x (I.base.Bg b x e)⟩,?_,λx c e=>?_,?_,λx c e=>?_,λp hp=>?_,du,I.len⟩
 .exact keep b o (neL b o e) hb (Ze b o e hx) (I.base.keep b o e n hb hx) (I.base.free b o e n hx)
 .obtain⟨sl,e1⟩:=I.base.slot b o e n hb hx;obtain⟨sl',e2⟩:=slot b _ (neL b o e) hb (Ze b o e hx) e1 (I.base.free b o e n hx);exact⟨sl',e2⟩
 .obtain⟨o',e1⟩:=I.base.there b o e hx;exact free b o' (Ze b o e hx) e1 (I.base.free b o e n hx)
 .obtain⟨o',e1⟩:=I.base.there b o e hx;exact there b o' (Ze b o e hx) e1
 .exact Bb b _ (I.base.Bb b ps e)
 .obtain⟨m,hn,hl⟩:=I.loc;refine⟨m,ns m hn,λi x v e1 e2 e3=>?_⟩;obtain⟨u,r,l⟩:=hl i x v e1 e2 e3;refine⟨u,r,?_⟩;rcases l with l | ⟨k,c,e,z⟩
  .exact .inl l
  .exact .inr ⟨k,c,e,cellK x c e _ z⟩
 .obtain⟨v,z⟩:=I.cell x c e;exact⟨v,cellK x c e v z⟩
 .obtain⟨m,⟨o,_,_,ho,_⟩,_⟩:=I.loc;exact free _ o (λz=>(S7 _ z).2.1 rfl) ho I.free
 .obtain⟨v,o,ho,hd⟩:=I.cell x c e;exact free c o (λz=>(S7 c z).2.2.1 x c e rfl) ho (I.qG x c e)
 .obtain⟨e,n,ne,nf,d⟩:=I.pin p hp;have Xi:p.1∉ch:=λz=>(S7 p.1 z).2.2.2 p hp rfl;exact⟨keep p.1 p.2 ne nf Xi e n,free p.1 p.2 Xi e n,ne,nf,d⟩
theorem Inv.un(I:@l)(u:Un X.fs [] H H' s.heap h')(du:uL X.prog X.w H' h'):Inv X pins σ H' { s with heap:=h',toks:=t' }:=by
 obtain⟨m,⟨o,es,ep,ho,r⟩,_⟩:=id I.loc;obtain⟨sl,hL⟩:=u.any ho I.free @k;exact I.step (g':=s.gens) (d':=s.drawn) (ch:=[]) (λ_ z=>nomatch z) (λb o _ hb _ e n=>u.keep b o e n hb @k) (λb o _ hb _ e n=>u.slot b o e n hb @k) (λb o _ e n=>u.free b o e n @k) (λb o _ e=>u.there b o e @k) u.A9 u.Ag u.Bb u.Bg (λm' hm=>by
  obtain⟨o',es',ep',OE,r'⟩:=hm;rw [ho] at OE;cases OE;exact⟨_,es',ep',hL,r'⟩) du I.bare
theorem Inv.call(I:@l)(u:Un (Md X.stack) ch H H' s.heap h')(du:uL X.prog X.w H' h')(hg:CL g')
  (S7:∀ b∈ch,(b∈X.ex\/X.ny.heap.objs.size<=b)/\@bJ/\(∀ x c,@bD->c≠b)/\∀ p∈X.pn++pins,p.1≠b) :
  Inv X pins σ H' { s with heap:=h',gens:=g',drawn:=d',toks:=t' }:=by
 obtain⟨m,⟨o,es,ep,ho,r⟩,_⟩:=id I.loc;obtain⟨sl,hL⟩:=u.any ho I.free λz=>(S7 _ z).2.1 rfl;exact I.step (ch:=ch) S7 (λb o hL hb hc e n=>u.keep b o e n (λz=>(List.mem_cons.mp (I.GL b z)).elim hL hb) hc) (λb o _ _ hc e n=>u.any e n hc) (λb o hc e n=>u.free b o e n hc) (λb o hc e=>u.there b o e hc) u.A9 u.Ag u.Bb u.Bg (λm' hm=>by
  obtain⟨o',es',ep',OE,r'⟩:=hm;rw [ho] at OE;cases OE;exact⟨_,es',ep',hL,r'⟩) du hg
theorem Inv.turned(I:@l)(k:∀ b o,b≠it->@ar=@j->@al=@j)(hn:H it=none)(hL:it≠X.env.locals)
  (h1:it∈X.ex\/X.ny.heap.objs.size<=it) (h2:∀ x c,@bD->c≠it) (h3:∀ p∈X.pn++pins,p.1≠it):Inv X pins σ H { s with heap:=h',toks:=t' }:=by
 have nit:∀ b u,H b=@R->b≠it:=λb u e z=>by rw [z,hn] at e;cases e
 refine I.step (g':=s.gens) (d':=s.drawn) (ch:=[it]) (λb hb=>?_) (λb o _ _ hc e _=>k b o (λz=>hc (by simp [z])) e) (λb o _ _ hc e _=>⟨o.slots,k b o (λz=>hc (by simp [z])) e⟩) (λ_ _ _ _ n=>n)
  (λb o hc e=>⟨o,k b o (λz=>hc (by simp [z])) e⟩) (λ_ _ e=>e) (λ_ _ _ e=>e) (λ_ _ e=>e) (λ_ _ e=>e) (λm hm=>?_) (λb u e=>?_) I.bare
 .have e:b=it:=@bv
  subst e;exact⟨h1,hL,h2,h3⟩
 .obtain⟨o,es,ep,ho,r⟩:=hm;exact⟨o,es,ep,k _ o (cR hL) ho,r⟩
 .refine(I.du b u e).nZ (λc v hc q=>k c v ?_ q) (λ_ q=>q) λ_ _ q=>q;rcases hc with z | z
  .rw [z];exact nit b u e
  .exact nit c _ z
theorem Inv.tok(I:@l)(t):Inv X pins σ H { s with toks:=t }:=I.un (h':=s.heap) (t':=t) Un.refl I.du
theorem Inv.kept(I:@l)(k:∀ b u,@ar=@R->@al=@R):Inv X pins σ H { s with heap:=h',toks:=t' }:=I.un (Un.kept k) (I.du.kept k)
theorem Inv.laid(I:@l)(k:∀ b u,@ar=@R->@al=@R)(hp:s.heap.objs.size<=a)(new:iA X.prog X.w (upd H a o) h' a o) :
  Inv X pins σ (upd H a o) { s with heap:=h',toks:=t' }:=I.un (Un.laid k hp (I.du.fresh hp)) (I.du.laid k hp new)
theorem Inv.write(I:@l)(mu:YJ (H x))(he:e=x\/H e=some (.own x))(k:∀ b u,b≠e->@ar=@R->@al=@R)(Wn:∃ u,h'.get? e=@R)
  (new:iA X.prog X.w (upd H x o) h' x o):Inv X pins σ (upd H x o) { s with heap:=h',toks:=t' }:=I.un (Un.write mu he k Wn) (I.du.write mu he k Wn new)
theorem Inv.Jf(I:@l)(h:∀ p∈SM,s.heap.get? p.1=some p.2/\H p.1=none/\p.1≠X.env.locals/\p.1∉X.fs/\∀ v,p.2.data≠.cell v):Inv X SM σ H s :=
 ⟨I.ok,I.os,I.bare,I.base,I.loc,I.cell,I.free,I.qG,λp hp=>(List.mem_append.mp hp).elim (λz=>I.pin p (dJ _ z)) (h p),I.du,I.len⟩
theorem E6{N:@D}(hN:N.Nodup){j:Nat}(a:N[i]?=some x)(b:N[j]?=some x):i=j:=by
 obtain⟨h1,e1⟩:=List.getElem?_eq_some_iff.mp a;obtain⟨h2,e2⟩:=List.getElem?_eq_some_iff.mp b;exact(List.getElem_inj hN).mp (e1.trans e2.symm)
theorem BM{M:Model}{A:c7}{E:@H}{i:Nat}{x:Str}{v:V}{u:Value}{Q:Unit->@ae}(I:@l)(hN:X.N.Nodup)(hi:X.N[i]?=some x)(hx:Loc X.env.scope x)(r:RelV v u)
  (h:∀ s',Inv X pins (σ.set i (@S)) H s'->(∃ a,mZ a s.heap s'.heap/\(a=X.env.locals\/X.env.cells.lookup x=some a))->Q () s') (hf:autoParam (X.fn x=true\/@bQ=@a8) Ao._auto_1):wpAny M A (storeName X.env x u) Q E s:=by
 obtain⟨m,hn,hl⟩:=id I.loc;have abE:(X.env.scope.kind == .class||(X.env.scope.kind == .module&&X.env.locals != X.env.globals))=false:=by rw [I.ok.kind];rfl
 have XS:i < σ.length:=by rw [I.len];exact(List.getElem?_eq_some_iff.mp hi).1
 have VJ:=I.VJ;have tracked:∀ {a:Addr} {h':Heap},(∃ o,s.heap.get? a=@j/\H a=none)->mZ a s.heap h'->uL X.prog X.w H h':=λ{a h'} ha hs b ob e=>by
  obtain⟨_,_,mR⟩:=ha;refine(I.du b ob e).nZ (λc w' hc q=>(hs.2 c ?_).trans q) (λ_ q=>q) λ_ _ q=>q;ext c;rcases hc with rfl | hc
  .rw [mR] at e;cases e
  .rw [mR] at hc;cases hc
 rcases hx with hk | hk
 .refine wpAny_storeName_local hk hn (λh' Li hs=>?_) abE;obtain⟨oL,_,_,hoL,_⟩:=id hn;refine h _ ⟨I.ok,I.os,I.bare,⟨λb o e n hb hx=>?_,λb o e n hb hx=>?_,I.base.free,λb o e hx=>?_,I.base.A9,I.base.Ag,I.base.Bb,I.base.Bg⟩,⟨_,Li,λj y v' e1 e2 e3=>?_⟩,λy c e=>?_,I.free,I.qG,λp hp=>?_,tracked ⟨oL,hoL,I.free⟩ hs,by simpa using I.len⟩ ⟨_,hs,.inl rfl⟩
  .exact(hs.2 b (bx (bT (aQ e) I.ok.above))).trans (I.base.keep b o e n hb hx)
  .obtain⟨sl,e1⟩:=I.base.slot b o e n hb hx;exact⟨sl,(hs.2 b (bx (bT (aQ e) I.ok.above))).trans e1⟩
  .obtain⟨o',e1⟩:=I.base.there b o e hx;exact⟨o',(hs.2 b (bx (bT (aQ e) I.ok.above))).trans e1⟩
  .by_cases hj:j=i
   .subst hj;rw [hi] at e1;cases e1;rw [gI XS] at e2;cases e2;exact⟨u,r,.inl ⟨hk,@ad⟩⟩
   .rw [iq (cR hj)] at e2;obtain⟨u',r',q⟩:=hl j y v' e1 e2 e3;refine⟨u',r',?_⟩;rcases q with ⟨k,e⟩ | ⟨k,c,e,z⟩
    .refine .inl ⟨k,?_⟩;have:y≠x:=λe=>hj (E6 hN e1 (e ▸ hi));simp [this,e]
    .exact .inr ⟨k,c,e,z.sameBut hs (VJ y c e)⟩
  .obtain⟨w',z⟩:=I.cell y c e;exact⟨w',z.sameBut hs (VJ y c e)⟩
  .obtain⟨e,n,ne,nf,d⟩:=I.pin p hp;exact⟨(hs.2 p.1 ne).trans e,n,ne,nf,d⟩
 .have hfn:X.fn x=true:=by
   rcases hf with z | z
   .exact z
   .rw [z] at hk;cases hk
  obtain⟨c,hc⟩:=I.ok.has x (.inl hk);obtain⟨w',z⟩:=I.cell x c hc;refine wpAny_storeName_cell I.ok.kind hk hc z (λh' S8 hs=>?_);obtain⟨oc,Wj,abl⟩:=id z;refine h @aZ ⟨I.ok,I.os,I.bare,⟨λb o e n hb hx=>?_,λb o e n hb hx=>?_,I.base.free,λb o e hx=>?_,I.base.A9,I.base.Ag,I.base.Bb,I.base.Bg⟩,⟨m,hn.sameBut hs (cR (VJ x c hc)),λj y v' e1 e2 e3=>?_⟩,λy c' e=>?_,I.free,I.qG,λp hp=>?_,tracked ⟨oc,Wj,I.qG x c hc⟩ hs,by simpa using I.len⟩ ⟨c,hs,.inr hc⟩
  .exact(hs.2 b (bx (bT (aQ e) (I.ok.Yy x c hfn hc)))).trans (I.base.keep b o e n hb hx)
  .obtain⟨sl,e1⟩:=I.base.slot b o e n hb hx;exact⟨sl,(hs.2 b (bx (bT (aQ e) (I.ok.Yy x c hfn hc)))).trans e1⟩
  .obtain⟨o',e1⟩:=I.base.there b o e hx;exact⟨o',(hs.2 b (bx (bT (aQ e) (I.ok.Yy x c hfn hc)))).trans e1⟩
  .by_cases hj:j=i
   .subst hj;rw [hi] at e1;cases e1;rw [gI XS] at e2;cases e2;exact⟨u,r,.inr ⟨.inl hk,c,hc,S8⟩⟩
   .rw [iq (cR hj)] at e2;obtain⟨u',r',q⟩:=hl j y v' e1 e2 e3;refine⟨u',r',?_⟩;rcases q with q | ⟨k,c',e,z'⟩
    .exact .inl q
    .refine .inr ⟨k,c',e,z'.sameBut hs ?_⟩;ext c;exact hj (E6 hN e1 (I.ok.inj _ _ _ e hc ▸ hi))
  .by_cases hcc:c'=c
   .subst hcc;exact⟨_,S8⟩
   .obtain⟨w2,z2⟩:=I.cell y c' e;exact⟨w2,z2.sameBut hs hcc⟩
  .obtain⟨e,n,ne,nf,d⟩:=I.pin p hp;refine⟨(hs.2 p.1 ?_).trans e,n,ne,nf,d⟩;intro q;rw [q,Wj] at e;have q':oc=p.2:=bA e;exact d w' (by rw [<-q'];exact abl)
theorem EJ{M:Model}{A:c7}{E:@H}{i:Nat}{x:Str}{v:V}{u:Value}{Q:Unit->@ae}(I:@l)(hN:X.N.Nodup)(hi:X.N[i]?=some x)(hx:Loc X.env.scope x)(r:RelV v u)
  (h:∀ s',Inv X pins (σ.set i (@S)) H s'->Q () s') (hf:autoParam (X.fn x=true\/@bQ=@a8) Ao._auto_1):wpAny M A (storeName X.env x u) Q E s :=
 BM I hN hi hx r (λs' I' _=>h s' I') hf
end
abbrev XK:=Value->Option Addr->Hp->Prop
abbrev St:=List (Option V)
abbrev VK:=V->Hp->Prop
abbrev TE:=St->Hp->VK->Prop
abbrev TT:=St->Hp->(Bool->Hp->Prop)->Prop
abbrev TA:=St->Hp->(@A->Hp->Prop)->Prop
structure Ends where
 nx:St->Hp->Prop
 rt:VK
 bk:St->Hp->Prop:=@w
 ct:St->Hp->Prop:=@w
abbrev TS:=Ends->St->Hp->Prop
def EP(X:Cx)(pins:@y)(σ:St)(Q:VK)(u:Value)(s':aF):Prop:=∃ v H',Inv X pins σ H' s'/\RelV v u/\Q v H'
def TP(X:Cx)(pins:@y)(σ:St)(Q:Bool->Hp->Prop)(b:Bool)(s':aF):Prop:=∃ H',Inv X pins σ H' s'/\Q b H'
def SP(X:Cx)(pins:@y)(D:Ends)(f:Flow)(s':aF):Prop :=
 match f with
 | .next=>∃ jD H',Inv X pins jD H' s'/\D.nx jD H'
 | .brk=>∃ jD H',Inv X pins jD H' s'/\D.bk jD H'
 | .cont=>∃ jD H',Inv X pins jD H' s'/\D.ct jD H'
 | .ret u=>∃ v jD H',Inv X pins jD H' s'/\RelV v u/\D.rt v H'
def PE(X:Cx)(e:Expr)(t:TE):Prop :=
 ∀ (pins:@y) (s:aF) (σ:St) (H:Hp) (Q:VK),@l->t σ H Q->wpAny @s X.A (eval e X.env) (EP X pins σ Q) X.xe s
def WA(X:Cx)(st:List Stmt)(t:TS):Prop :=
 ∀ (pins:@y) (s:aF) (σ:St) (H:Hp) (D:Ends),@l->t D σ H->wpAny @s X.A (execs st X.env) (SP X pins D) X.xe s
theorem gN(h:wpAny M A t Q E s)(hQ:∀ a s,Q a s->Q' a s):wpAny M A t Q' E s:=nV h hQ λ_ _ x=>x
section
variable {X:Cx}
def Z6(i:Nat):TE:=λσ H Q=>∃ v,σ[i]?=some (@S)/\Q v H
def tC(v:V):TE:=λ_ H Q=>Q v H
theorem Uu    (hN:X.N[i]?=some x) (hv:ZM X.env.scope x) (hd:autoParam ((x == ("__debug__" : Str))=false) Ad._auto_1) (Mc:autoParam ((x == ("__classdict__" : Str))=false) Ad._auto_1):PE X (.Name x pos) (Z6 i):=by
 intro pins s σ H Q I h;obtain⟨v,e,h⟩:=h;obtain⟨m,hn,hl⟩:=I.loc;obtain⟨u,r,l⟩:=hl i x v hN e hv;have fin:EP X pins σ Q u s:=⟨v,H,I,r,h⟩;rcases l with ⟨hk,hm⟩ | ⟨hk,c,hc,qF⟩
 .exact wpAny_Name (wpAny_loadName_local I.ok.kind hk hn hm fin) hd
 .rcases hk with hk | hk
  .exact wpAny_Name (wpAny_loadName_cell I.ok.kind hk hc qF fin) hd
  .exact wpAny_Name (wpAny_loadName_free I.ok.kind hk hc qF fin Mc) hd
theorem Uw{i j pos}:PE X (.Constant (@Y) j pos) (tC (@Y)):=λ_ _ _ H _ I h=>wpAny_Constant_int ⟨@Y,H,@aB,@ah,h⟩
theorem WZ{b j pos}:PE X (.Constant (.bool b) j pos) (tC (.bl b)):=λ_ _ _ H _ I h=>Constant_bool ⟨.bl b,H,I,rfl,h⟩
theorem Uv{x j pos}:PE X (.Constant (.str x) j pos) (tC (.str x)):=λ_ _ _ H _ I h=>Calls.Constant_str ⟨.str x,H,@aB,@ah,h⟩
def Gl(X:Cx)(x:Str):Prop:=X.env.kindOf x=some .globalImplicit
theorem Jr{E:@H}{pins:@y}{s:aF}{σ:St}{H:Hp}{x:Str}{u:Value}{pos:Pos}{Q:@H}(I:@l)(hg:Gl X x)(hm:X.mg x=@R)(h:Q u s)
  (hd:autoParam ((x == ("__debug__" : Str))=false) Ad._auto_1):wpAny @s X.A (eval (.Name x pos) X.env) Q E s :=
 Gf I.ok.kind hg (Calls.loadGlobal_global (by rw [I.ok.glob];exact I.mod.glob.keeps I.bk) hm h) hd
theorem pZ{E:@H}{pins:@y}{s:aF}{σ:St}{H:Hp}{x:Str}{u:Value}{pos:Pos}{Q:@H}(I:@l)(hg:Gl X x)(hm:X.mg x=none)(hv:cZ x=@R)(h:Q u s)
  (hn:autoParam (x≠"__name__") Ad._auto_1) (hd:autoParam ((x == ("__debug__" : Str))=false) Ad._auto_1):wpAny @s X.A (eval (.Name x pos) X.env) Q E s:=by
 obtain⟨mb,h1,h2⟩:=I.mod.blt;exact Gf I.ok.kind hg (Calls.loadGlobal_builtin (by rw [I.ok.glob];exact I.mod.glob.keeps I.bk) hm (by rw [I.ok.blt];exact h1.keeps I.bk) ((h2 x hn).trans hv) h) hd
variable {a b:Expr} {ta tb:TE} {pos:Pos}
def tB(t:TE):TT:=λσ H Q=>t σ H λx H1=>∃ c,x=.bl c/\Q c H1
variable {tA tB':TT} {rest:@aN}
end
def tp(K:aC)(H:Hp)(a:Addr)(xs:@A):Prop :=
 Rd H a (.lst xs) \/
  ∃ (o:Obj) (bu:Array Value) (n:Nat),K.lookup a=@j/\o.cls=@ak/\o.dict=none/\o.data=.seq bu n/\bu.size<=bw/\Vals xs bu.toList
def AJ(K:aC)(H:Hp)(a:Addr)(xs:@A):Prop :=
 Rd H a (.tup xs) \/
  ∃ (o:Obj) (bu:Array Value) (n:Nat),K.lookup a=@j/\o.cls=.type "tuple"/\o.data=.seq bu n/\bu.size<=bw/\Vals xs bu.toList
def ab9:Value->Option V
 | .none=>some .dj
 | .bool b=>some (.bl b)
 | .int i _=>some (@Y)
 | .str x _=>some (.str x)
 | .bytes b _=>some (.Te b)
 | .float b _=>some (.FA b)
 | .ref a=>some @Q
 | .type n=>some (.ty n)
 | _=>none
theorem RelV.abs(r:RelV x u):ab9 u=some x:=by
 cases x with
 | dj=>cases r;rfl
 | bl _=>cases r;rfl
 | int _=>obtain⟨t,rfl⟩:=r;rfl
 | str _=>obtain⟨t,rfl⟩:=r;rfl
 | Te _=>obtain⟨t,rfl⟩:=r;rfl
 | FA _=>obtain⟨t,rfl⟩:=r;rfl
 | ref _=>cases r;rfl
 | ty _=>cases r;rfl
theorem RelV.inj(r:RelV x u)(q:RelV y u):x=y:=bA (r.abs.symm.trans q.abs)
theorem Vals.inj:∀ {xs ys:@A} {us:@B},Vals xs us->Vals ys us->xs=ys:=by
 intro xs ys us h;induction h generalizing ys with
 | nil=>intro k;cases k;rfl
 | cons r t ih =>
  intro k;cases k with
  | cons r' t'=>rw [r.inj r',ih t']
section
variable {X:Cx} {pins:@y} {σ:St} {H:Hp} {s:aF} {a:Addr} {xs ys:@A}
theorem tp.of{K:aC}(h:H a=some (.lst xs)):tp K H a xs:=.inl (.inl h)
theorem AJ.of{K:aC}(h:H a=some (.tup xs)):AJ K H a xs:=.inl (.inl h)
theorem Inv.list(I:@l)(h:tp X.K H a xs):∃ bu:@B,Vals xs bu/\PlainL s.heap a bu.toArray/\xs.length<=bw:=by
 rcases h with h | ⟨o,bu,n,hk,hc,hd,hs,hz,r⟩
 .obtain⟨z,bu,n,r,e⟩:=h.ok I.du;exact⟨bu,r,⟨_,n,e,rfl,rfl,rfl⟩,z⟩
 .refine⟨bu.toList,r,⟨o,n,I.Cb a o hk,hc,hd,by simpa using hs⟩,?_⟩;have e:=r.length;simp only [bR] at e;lia
theorem Inv.tuple(I:@l)(h:AJ X.K H a xs):∃ bu:@B,Vals xs bu/\IsTup s.heap a bu.toArray/\xs.length<=bw:=by
 rcases h with h | ⟨o,bu,n,hk,hc,hs,hz,r⟩
 .obtain⟨z,bu,r,p⟩:=h.ok I.du;exact⟨bu,r,p,z⟩
 .refine⟨bu.toList,r,⟨o,I.Cb a o hk,hc,n,by simpa using hs⟩,?_⟩;have e:=r.length;simp only [bR] at e;lia
theorem Inv.zX(I:@l)(h:tp X.K H a xs)(h':tp X.K H a ys):xs=ys:=by
 obtain⟨bu,r,⟨o,n,e,_,_,d⟩,_⟩:=I.list h;obtain⟨its',r',⟨o',n',e',_,_,d'⟩,_⟩:=I.list h';rw [e] at e';cases e';rw [d] at d';injection d' with d1 _
 have:bu=its':=by simpa using congrArg Array.toList d1
 subst this;exact r.inj r'
theorem Inv.Ke(I:@l)(h:AJ X.K H a xs)(h':AJ X.K H a ys):xs=ys:=by
 obtain⟨bu,r,⟨o,e,_,n,d⟩,_⟩:=I.tuple h;obtain⟨its',r',⟨o',e',_,n',d'⟩,_⟩:=I.tuple h';rw [e] at e';cases e';rw [d] at d';injection d' with d1 _
 have:bu=its':=by simpa using congrArg Array.toList d1
 subst this;exact r.inj r'
end
abbrev Cx.A8(X:Cx)(E:@H):Cx:={ X with xe:=E }
abbrev Cx.UW(X:Cx):Cx:=X.A8 @w
theorem Cx.Ok.A8{X:Cx}(ok:X.Ok)(E):(X.A8 E).Ok :=
 ⟨ok.mod,ok.kind,ok.glob,ok.blt,ok.above,ok.inj,ok.has,ok.Yy,ok.hd,ok.frames,ok.Y6,ok.ZG,ok.bs,ok.Qd,ok.KP,ok.O5,ok.yG,ok.Vy⟩
theorem Cx.Ok.rq{X:Cx}(ok:(X.A8 E).Ok):X.Ok :=
 ⟨ok.mod,ok.kind,ok.glob,ok.blt,ok.above,ok.inj,ok.has,ok.Yy,ok.hd,ok.frames,ok.Y6,ok.ZG,ok.bs,ok.Qd,ok.KP,ok.O5,ok.yG,ok.Vy⟩
section
variable {X:Cx} {pins:@y} {σ:St} {H:Hp} {s:aF} {E:@H}
theorem Inv.A8(I:@l)(E):Inv (X.A8 E) pins σ H s:=⟨I.ok.A8 E,I.os,I.bare,I.base,I.loc,I.cell,I.free,I.qG,I.pin,I.du,I.len⟩
theorem Inv.rq(I:Inv (X.A8 E) pins σ H s):@l:=⟨I.ok.rq,I.os,I.bare,I.base,I.loc,I.cell,I.free,I.qG,I.pin,I.du,I.len⟩
theorem SP.rq(h:SP (X.A8 E) pins D f s'):SP X pins D f s':=by
 cases f with
 | next=>obtain⟨jD,H',I,q⟩:=h;exact⟨jD,H',I.rq,q⟩
 | brk=>obtain⟨jD,H',I,q⟩:=h;exact⟨jD,H',I.rq,q⟩
 | cont=>obtain⟨jD,H',I,q⟩:=h;exact⟨jD,H',I.rq,q⟩
 | ret u=>obtain⟨v,jD,H',I,r,q⟩:=h;exact⟨v,jD,H',I.rq,r,q⟩
theorem WA.UW{st:List Stmt}(h:WA X.UW st t):WA X st t:=λpins s σ H D I hw =>
 nV (h pins s σ H D (I.A8 _) hw) (λ_ _ q=>q.rq) λ_ _ z=>bK z
end
section
variable {X:Cx} {st:Stmt} {rest:List Stmt} {t u:TS} {e:Expr} {te:TE} {pos:Pos}
theorem Inv.quiet(I:@l):interactive X.env=false:=by simp [interactive,I.ok.kind]
end
abbrev acd:=V->V->V->Hp->(Hp->Prop)->Prop
def acf(X:Cx)(t:acd):Prop :=
 ∀ (pins:@y) (s:aF) (σ:St) (H:Hp) (o i v:V) (ov iv u:Value) (Q:Hp->Prop),@l->RelV o ov->RelV i iv->RelV v u->t o i v H Q ->
  wpAny @s X.A (setItem ov iv u) (λ_ s'=>∃ H',Inv X pins σ H' s'/\Q H') X.xe s
structure It where
 go:Nat->Hp->Prop
 yld:Nat->Hp->V->Hp->Prop
 stop:Nat->Hp->Prop
def qp(X:Cx)(pins:@y)(H:Hp)(b:Addr):Prop :=
 H b=none/\@bJ/\b∉X.fs/\(b∈X.ex\/X.ny.heap.objs.size<=b)/\(∀ x c,@bD->c≠b)/\∀ p∈X.pn++pins,p.1≠b
theorem Inv.O1{X:Cx}{pins:@y}{σ:St}{H H':Hp}{s:aF}{b:Addr}(I:@l)(hb:s.heap.objs.size<=b)(hn:H' b=none):qp X pins H' b:=by
 refine⟨hn,Nat.ne_of_gt (bT I.lt hb),I.aaD hb,.inr (cY I.sz hb),λx c e z=>?_,λp hp z=>?_⟩
 .obtain⟨v,q⟩:=I.cell x c e;exact absurd (bT q.lt (by rw [z];exact hb)) (eR _)
 .exact absurd (bT (aQ (I.pin p hp).1) (by rw [z];exact hb)) (eR _)
structure Turn(P:bI)(w:World)(K:aC)(tg:Expr)(J:It)(fp:@aE)(it:Addr)(tn:Nat->Heap->Prop):Prop where
 mem:it∈fp
 obj:∀ i h,tn i h->∀ b∈fp,∃ o,@aA=@j/\∀ v,o.data≠.cell v
 keep:∀ i h h',tn i h->(∀ b∈fp,∀ o,@aA=@j->@al=@j)->tn i h'
 item:∀ (X:Cx),X.prog=P->X.w=w->X.K=K->@a5->∀ (i:Nat) (pins:@y) (s:aF) (σ:St) (H:Hp) (E:@H),@l->(∀ b∈fp,qp X pins H b)->tn i s.heap->J.go i H ->
  wpAny (model P w) X.A (tN (.ref it)) (λr s1=>∃ u,r=@R /\
   wpAny (model P w) X.A (zo tg (.ref it) u) (λ_ s2=>∃ x H',Inv X pins σ H' s2/\RelV x u/\J.yld i H x H'/\tn (i+1) s2.heap/\∀ b∈fp,H' b=none) E s1) E s
 done:∀ (X:Cx),X.prog=P->X.w=w->X.K=K->@a5->∀ (i:Nat) (pins:@y) (s:aF) (σ:St) (H:Hp) (E:@H),@l->(∀ b∈fp,qp X pins H b)->tn i s.heap->J.stop i H ->
  wpAny (model P w) X.A (tN (.ref it)) (λr s1=>r=none/\Inv X pins σ H s1) E s
 self:∀ (A:c7) (i:Nat) (s:aF) (Q:@H) (E:@H),tn i s.heap->Q (.ref it) s->wpAny (model P w) A (Ir (.ref it)) Q E s
abbrev TI:=St->Hp->(It->Hp->Prop)->Prop
def PIE(X:Cx)(pins:@y)(σ:St)(tg:Expr)(R:It->Hp->Prop)(S0:Value)(s2:aF):Prop :=
 ∃ (it:Addr) (fp:@aE) (tn:Nat->Heap->Prop) (J:It) (H':Hp),S0=.ref it/\Inv X pins σ H' s2/\Turn X.prog X.w X.K tg J fp it tn/\tn 0 s2.heap/\(∀ b∈fp,qp X pins H' b)/\R J H'
theorem OS{M:Model}{A:c7}{E:@H}{s:aF}{tg:Expr}{it:Addr}{u:Value}{o:Obj}{n:String}{vs:Array Value}{Q:Unit->@ae}(ho:s.heap.get? it=@j)(hc:o.cls=.type n)(hd:o.data=.fields vs)
    (hn:["enumerate","zip","dict_itemiterator","dict_reverseitemiterator","odict_iterator","itertools.zip_longest","itertools.pairwise"].contains n=false) (hQ:Q () s):wpAny M A (zo tg (.ref it) u) Q E s:=by
  unfold zo;cases tg <;> first
    | exact aK hQ
    | (cases u <;> first
        | exact aK hQ
        | (refine ay (wpAny_load ho ?_)
           rw [hc,hd];show wpAny M A (if (["enumerate","zip","dict_itemiterator","dict_reverseitemiterator","odict_iterator","itertools.zip_longest","itertools.pairwise"].contains n&&vs[0]? == some (BE _))=true then _ else _) Q E s;rw [if_neg (by intro h;rw [hn,IE] at h;cases h)];exact aK hQ))
def Itl(K:aC)(a:Addr):It :=
 ⟨λi H=>∃ xs x,tp K H a xs/\xs[i]?=some x,λi H x H'=>H'=H/\∀ xs,tp K H a xs->xs[i]?=some x,λi H=>∃ xs,tp K H a xs/\xs.length<=i⟩
def Itt(K:aC)(a:Addr):It :=
 ⟨λi H=>∃ xs x,AJ K H a xs/\xs[i]?=some x,λi H x H'=>H'=H/\∀ xs,AJ K H a xs->xs[i]?=some x,λi H=>∃ xs,AJ K H a xs/\xs.length<=i⟩
def Itr(lo:Int)(n:Nat):It:=⟨λi _=>i < n,λi H x H'=>H'=H/\x=.int (lo+i),λi _=>n<=i⟩
theorem Kd{K:aC}(a it):Turn P w K tg (Itl K a) [it] it (λi h=>h.IsListIter it a i) where
 mem:=@ad
 obj:=λi h st b hb=>by
  have e:b=it:=@bv
  subst e;obtain⟨o,e,c,d⟩:=st;exact⟨o,e,λv z=>by rw [d] at z;cases z⟩
 keep:=λi h h' st k=>st.at λo e=>k it @k o e
 item:=by
  intro X hP hw hK hc i pins s σ H E I hf st hg;subst hP hw hK;obtain⟨xs,x,hq,hx⟩:=hg;obtain⟨bu,rv,p,hz⟩:=I.list hq;obtain⟨u,hu,ru⟩:=rv.get hx;obtain⟨f0,f1,f2,f3,f4,f5⟩:=hf it @k;refine wpAny_pyNext_list_item st p.isList (x:=u) (by simpa using hu) λh' BN sb=>?_;have I1:Inv X pins σ H @aZ:=I.turned (t':=s.toks) (λb o hb e=>(sb.2 b hb).trans e) f0 f1 f3 f4 f5;obtain⟨o,e,c,d⟩:=id BN;exact⟨u,rfl,OS (s:=@aZ) e c d @o ⟨x,H,I1,ru,⟨rfl,λys hy=>by rw [I.zX hy hq];exact hx⟩,BN,λb hb=>(hf b hb).1⟩⟩
 done:=by
  intro X hP hw hK hc i pins s σ H E I hf st hg;subst hP hw hK;obtain⟨xs,hq,hx⟩:=hg;obtain⟨bu,rv,p,hz⟩:=I.list hq;obtain⟨f0,f1,f2,f3,f4,f5⟩:=hf it @k;have hl:=rv.length;exact wpAny_pyNext_list_end (I.ok.hd hc) st p.isList (by simp;lia) λh' eb=>⟨rfl,I.turned (t':=s.toks) (λb o hb e=>eb b o hb e) f0 f1 f3 f4 f5⟩
 self:=λ_ _ _ _ _ st h=>wpAny_pyIter_listiter st h
theorem GH{K:aC}(a it):Turn P w K tg (Itt K a) [it] it (λi h=>h.IsTupleIter it a i) where
 mem:=@ad
 obj:=λi h st b hb=>by
  have e:b=it:=@bv
  subst e;obtain⟨o,e,c,d⟩:=st;exact⟨o,e,λv z=>by rw [d] at z;cases z⟩
 keep:=λi h h' st k=>st.at λo e=>k it @k o e
 item:=by
  intro X hP hw hK hc i pins s σ H E I hf st hg;subst hP hw hK;obtain⟨xs,x,hq,hx⟩:=hg;obtain⟨bu,rv,p,hz⟩:=I.tuple hq;obtain⟨u,hu,ru⟩:=rv.get hx;obtain⟨f0,f1,f2,f3,f4,f5⟩:=hf it @k;refine wpAny_pyNext_tuple_item st (show s.heap.IsTuple a bu.toArray from p) (x:=u) (by simpa using hu) λh' BN sb=>?_;have I1:Inv X pins σ H @aZ:=I.turned (t':=s.toks) (λb o hb e=>(sb.2 b hb).trans e) f0 f1 f3 f4 f5;obtain⟨o,e,c,d⟩:=id BN;exact⟨u,rfl,OS (s:=@aZ) e c d @o ⟨x,H,I1,ru,⟨rfl,λys hy=>by rw [I.Ke hy hq];exact hx⟩,BN,λb hb=>(hf b hb).1⟩⟩
 done:=by
  intro X hP hw hK hc i pins s σ H E I hf st hg;subst hP hw hK;obtain⟨xs,hq,hx⟩:=hg;obtain⟨bu,rv,p,hz⟩:=I.tuple hq;obtain⟨f0,f1,f2,f3,f4,f5⟩:=hf it @k;have hl:=rv.length;exact wpAny_pyNext_tuple_end (I.ok.hd hc) st (show s.heap.IsTuple a bu.toArray from p) (by simp;lia) λh' eb=>⟨rfl,I.turned (t':=s.toks) (λb o hb e=>eb b o hb e) f0 f1 f3 f4 f5⟩
 self:=λ_ _ _ _ _ st h=>wpAny_pyIter_tupleiter st h
theorem GI{K:aC}(it)(lo)(n):Turn P w K tg (Itr lo n) [it] it (λi h=>IsRangeIter h it (lo+(i:Nat) * 1) ((n:Int) - (i:Nat)) 1) where
 mem:=@ad
 obj:=λi h st b hb=>by
  have e:b=it:=@bv
  subst e;exact⟨_,st,λv z=>by
   have z':Data.fields _=Data.cell v:=z;cases z'⟩
 keep:=λi h h' st k=>k it @k _ st
 item:=by
  intro X hP hw hK hc i pins s σ H E I hf st hg;subst hP hw hK;obtain⟨f0,f1,f2,f3,f4,f5⟩:=hf it @k;have W:=Walks.range (prog:=X.prog) (w:=X.w) (I.ok.hd hc) it lo 1 n;refine W.item i s _ _ hg st λv h' tk hv BN kk=>?_;obtain⟨t,rfl⟩:=hv;have I1:Inv X pins σ H @bp:=I.turned (λb o hb e=>kk b o (@bv) e) f0 f1 f3 f4 f5;refine⟨_,rfl,OS (s:=@bp) (n:="range_iterator") BN rfl rfl @o ⟨.int (lo+i),H,I1,⟨t,?_⟩,@aP,BN,λb hb=>(hf b hb).1⟩⟩;rw [Int.mul_one]
 done:=by
  intro X hP hw hK hc i pins s σ H E I hf st hg;subst hP hw hK;obtain⟨f0,f1,f2,f3,f4,f5⟩:=hf it @k;exact wpAny_pyNext_range_end (I.ok.hd hc) st (by have:n<=i:=hg;lia) λh' eb=>⟨rfl,I.turned (t':=s.toks) (λb o hb e=>eb b o hb e) f0 f1 f3 f4 f5⟩
 self:=λ_ _ _ _ _ st h=>wpAny_pyIter_rangeiter st h
section
variable {X:Cx} {tg:Expr}
theorem Nc{pins:@y}{σ:St}{H:Hp}{s:aF}{R:It->Hp->Prop}{E:@H}{lo hi:Int}{t u v:Tok}{tk:Nat}(I:@l)(h1:-(2 ^ 62)<=lo)(h2:lo < 2 ^ 62)(h3:-(2 ^ 62)<=hi)(h4:hi < 2 ^ 62)
  (q:R (Itr lo (hi - lo).toNat) H):wpAny @s X.A (Ir (@bb)) (PIE X pins σ tg R) E { s with heap:=s.heap.push { cls:=.type "range",data:=.fields #[.int lo t,.int hi u,.int 1 v] },toks:=tk }:=by
 refine wpAny_pyIter_range (IsRange.new ..) (small_one h1 h2 h3 h4) ?_;have I1:Inv X pins σ H { s with heap:=s.heap.push { cls:=.type "range",data:=.fields #[.int lo t,.int hi u,.int 1 v] },toks:=tk }:=I.kept λb o e=>aO _ e
 refine⟨(s.heap.push { cls:=.type "range",data:=.fields #[.int lo t,.int hi u,.int 1 v] }).objs.size,[(s.heap.push { cls:=.type "range",data:=.fields #[.int lo t,.int hi u,.int 1 v] }).objs.size],_,_,H,rfl,
  I1.kept (t':=tk) λb o e=>aO _ e,GI _ lo (hi - lo).toNat,?_,λb hb=>?_,q⟩
 .have e1:lo+((0:Nat):Int) * 1=lo:=@ad
  have e2:(((hi - lo).toNat:Nat):Int) - ((0:Nat):Int)=Builtin.Range.rangeSize lo hi 1:=by rw [rangeSize_one];split <;> lia
  show IsRangeIter _ _ (lo+((0:Nat):Int) * 1) ((((hi - lo).toNat:Nat):Int) - ((0:Nat):Int)) 1;rw [e1,e2];exact bc _ rfl
 .have e:b=(s.heap.push { cls:=.type "range",data:=.fields #[.int lo t,.int hi u,.int 1 v] }).objs.size:=@bv
  subst e;exact I1.O1 @T (I1.du.fresh @T)
def rM(fp:@aE)(h:Heap):@y:=fp.filterMap λb=>(@aA).map λo=>(b,o)
theorem pX(hb:b∈fp)(e:@aA=@j):(b,o)∈rM fp h:=List.mem_filterMap.mpr ⟨b,hb,by rw [e];rfl⟩
theorem KN(hp:p∈rM fp h):p.1∈fp/\h.get? p.1=some p.2:=by
 obtain⟨b,hb,e⟩:=List.mem_filterMap.mp hp;cases q:@aA with
 | none=>rw [q] at e;cases e
 | some o =>
  rw [q] at e;have e':(b,o)=p:=bA e;subst e';exact⟨hb,q⟩
theorem Inv.pinned(I:@l)(hf:∀ b∈fp,qp X pins H b)(ho:∀ b∈fp,∃ o,@ar=@j/\∀ v,o.data≠.cell v):Inv X (pins++rM fp s.heap) σ H s :=
 I.Jf λp hp=>(List.mem_append.mp hp).elim (λz=>I.pin p (bW _ z)) λz=>by
  obtain⟨hb,e⟩:=KN z;obtain⟨f0,f1,f2,_⟩:=hf p.1 hb;obtain⟨o,e',d⟩:=ho p.1 hb;rw [e] at e';cases e';exact⟨e,f0,f1,f2,d⟩
theorem Inv.uY(I:Inv X (pins++pl) σ H s):@l:=I.Jf λp hp=>I.pin p (bW _ (dJ _ hp))
end
abbrev R2:=V->V->Hp->VK->Prop
def JV(X:Cx)(f:Value->Value->Sem Value)(r:R2):Prop :=
 ∀ (pins:@y) (s:aF) (σ:St) (H:Hp) (x y:V) (v u:Value) (Q:VK),@l->RelV x v->RelV y u->r x y H Q ->
  wpAny @s X.A (f v u) (EP X pins σ Q) X.xe s
def UnR(X:Cx)(f:Value->Sem Value)(r:V->Hp->VK->Prop):Prop :=
 ∀ (pins:@y) (s:aF) (σ:St) (H:Hp) (x:V) (v:Value) (Q:VK),@l->RelV x v->r x H Q ->
  wpAny @s X.A (f v) (EP X pins σ Q) X.xe s
def Tr(X:Cx)(f:Value)(r:@A->Hp->VK->Prop):Prop :=
 ∀ (pins:@y) (s:aF) (σ:St) (H:Hp) (xs:@A) (us:@B) (Q:VK),@l->Vals xs us->r xs H Q ->
  wpAny @s X.A (call f us) (EP X pins σ Q) X.xe s
def acb(X:Cx)(r:V->Hp->(Bool->Hp->Prop)->Prop):Prop :=
 ∀ (pins:@y) (s:aF) (σ:St) (H:Hp) (x:V) (v:Value) (Q:Bool->Hp->Prop),@l->RelV x v->r x H Q ->
  wpAny @s X.A (truthy v) (TP X pins σ Q) X.xe s
def rI(C:Int->Int->Prop)(g:Int->Int->V):R2:=λx y H Q=>∃ i j,x=@Y/\y=.int j/\C i j/\Q (g i j) H
def Wd(g:Int->Int->V):R2:=λx y H Q=>∃ i j,x=@Y/\y=.int j/\Q (g i j) H
def rU(g:Int->V):V->Hp->VK->Prop:=λx H Q=>∃ i,x=@Y/\Q (g i) H
section
variable {X:Cx} {a b c:Expr} {ta tb tc:TE} {pos:Pos}
theorem Za{f:Value->Value->Sem Value}{C:Int->Int->Prop}{g:Int->Int->Int}
  (rule:∀ (i j:Int) (t u:Tok) (s:aF) (Q:@H) (E:@H),C i j->Q (.int (g i j) s.toks) { s with toks:=s.toks+1 }->wpAny @s X.A (f (.int i t) (.int j u)) Q E s) :
  JV X f (rI C λi j=>.int (g i j)):=by
 intro pins s σ H x y v u Q I rx ry h;obtain⟨i,j,rfl,rfl,hc,q⟩:=h;obtain⟨t,rfl⟩:=rx;obtain⟨t',rfl⟩:=ry;exact rule i j t t' s _ _ hc ⟨.int (g i j),H,@aB,@ah,q⟩
theorem W4{f:Value->Value->Sem Value}{g:Int->Int->Int}
  (rule:∀ (i j:Int) (t u:Tok) (s:aF) (Q:@H) (E:@H),Q (.int (g i j) s.toks) { s with toks:=s.toks+1 }->wpAny @s X.A (f (.int i t) (.int j u)) Q E s) :
  JV X f (Wd λi j=>.int (g i j)):=by
 intro pins s σ H x y v u Q I rx ry h;obtain⟨i,j,rfl,rfl,q⟩:=h;obtain⟨t,rfl⟩:=rx;obtain⟨t',rfl⟩:=ry;exact rule i j t t' s _ _ ⟨.int (g i j),H,@aB,@ah,q⟩
theorem W5{f:Value->Value->Sem Value}{g:Int->Int->Bool}
  (rule:∀ (i j:Int) (t u:Tok) (s:aF) (Q:@H) (E:@H),Q (.bool (g i j)) s->wpAny @s X.A (f (.int i t) (.int j u)) Q E s) :
  JV X f (Wd λi j=>.bl (g i j)):=by
 intro pins s σ H x y v u Q I rx ry h;obtain⟨i,j,rfl,rfl,q⟩:=h;obtain⟨t,rfl⟩:=rx;obtain⟨t',rfl⟩:=ry;exact rule i j t t' s _ _ ⟨.bl (g i j),H,I,rfl,q⟩
def acq(i j:Int):Prop:=0 < j/\j < 1073741824
def acp(i j:Int):Prop:=0<=j/\j<=1000000/\i.natAbs < 2 ^ 64
def V7(i j:Int):Prop:=(-(2 ^ 64) < i/\i < 2 ^ 64)\/(-(2 ^ 64) < j/\j < 2 ^ 64)
theorem V7.ok(h:V7 i j):IntMulOk i j:=by
 rcases h with ⟨h1,h2⟩ | ⟨h1,h2⟩
 .exact .of_left (intBits_le_64 h1 h2)
 .exact .of_right (intBits_le_64 h1 h2)
theorem UO:JV X (jc .Add) (Wd λi j=>.int (i+j)):=W4 λ_ _ _ _ _ _ _ q=>add_int q
theorem UJ:JV X (jc .Sub) (Wd λi j=>.int (i - j)):=W4 λ_ _ _ _ _ _ _ q=>sub_int q
theorem UL:JV X (jc .Mult) (rI V7 λi j=>.int (i * j)):=Za λ_ _ _ _ _ _ _ hc q=>mul_int q hc.ok
theorem RH:JV X (jc .FloorDiv) (rI acq λi j=>.int (i / j)):=Za λi j _ _ _ _ _ hc q=>by
 have h1:(0:Int) < j:=hc.1;have h2:j < 1073741824:=hc.2;exact floordiv_int @c (by rw [Int.fdiv_eq_ediv_of_nonneg i @c];exact q) (.inl (PyProof.noPylong_small @c))
theorem UM:JV X (jc .Mod) (rI (λ_ j=>0 < j) λi j=>.int (i % j)):=Za λi j _ _ _ _ _ hc q=>by
 have h1:(0:Int) < j:=hc;exact mod_int' @c (by rw [Int.fmod_eq_emod_of_nonneg i @c];exact q)
theorem UK:JV X (jc .Pow) (rI acp λi j=>.int (i ^ j.toNat)):=Za λ_ _ _ _ _ _ _ hc q=>pow_int_small hc.1 hc.2.1 hc.2.2 q
theorem unI{f:Value->Sem Value}{g:Int->Int}
  (rule:∀ (i:Int) (t:Tok) (s:aF) (Q:@H) (E:@H),Q (.int (g i) s.toks) { s with toks:=s.toks+1 }->wpAny @s X.A (f (.int i t)) Q E s) :
  UnR X f (rU λi=>.int (g i)):=by
 intro pins s σ H x v Q I rx h;obtain⟨i,rfl,q⟩:=h;obtain⟨t,rfl⟩:=rx;exact rule i t s _ _ ⟨.int (g i),H,@aB,@ah,q⟩
theorem TF:UnR X (unaryOp .USub) (rU λi=>.int (-i)):=unI λ_ _ _ _ _ q=>neg_int q
end
section
variable {X:Cx} {a b c:Expr} {ta tb tc:TE} {pos:Pos}
theorem W2:JV X (fN .Lt) (Wd λi j=>.bl (decide (i < j))):=W5 λ_ _ _ _ _ _ _ q=>lt_int q
theorem W3:JV X (fN .Gt) (Wd λi j=>.bl (decide (j < i))):=W5 λ_ _ _ _ _ _ _ q=>gt_int q
theorem NN(b)(h:autoParam (op≠.In) Ad._auto_1)(h2:autoParam (op≠.NotIn) Ad._auto_1):behindInMarks op b=false:=by
 have e1:(op == CmpOp.In)=false:=by cases op <;> first | rfl | exact absurd rfl h
 have e2:(op == CmpOp.NotIn)=false:=by cases op <;> first | rfl | exact absurd rfl h2
 cases b with
 | Set es k _ =>
  show (k == 0&&(op == .In||op == .NotIn)&&es.all (constantsAlone 8))=false;rw [e1,e2,Bool.or_false,IF,IE]
 | _=>rfl
def VW(K:aC)(x:V)(H:Hp)(k:Bool):Prop :=
 match x with
 | .dj=>k=false
 | .bl b=>k=b
 | .int i=>k=(i != 0)
 | .str y=>y.length<=bw/\k=((y.length:Int) != 0)
 | .Te y=>y.size<=bw/\k=((y.size:Int) != 0)
 | .ref p=>(∃ xs,tp K H p xs/\k=!xs.isEmpty)\/(∃ xs,AJ K H p xs/\k=!xs.isEmpty)\/∃ bo,H p=some (.dK bo)/\k=!bo.isEmpty
 | _=>False
theorem Hw(r:KV bo vs):(!vs.isEmpty)=!bo.isEmpty:=by
 cases r <;> rfl
theorem Ae(r:Vals xs bu):(!bu.toArray.isEmpty)=!xs.isEmpty:=by
 cases r <;> simp
theorem zY:(bw:Nat) < 2 ^ 63:=by rw [cq];decide
theorem TJ:acb X (λx H Q=>∃ k,VW X.K x H k/\Q k H):=by
 intro pins s σ H x v Q I rx h;obtain⟨k,e,q⟩:=h;have hl:=zY;have hs:bw=16777216:=cq;cases x with
 | dj =>
  cases rx;have e':k=false:=e;subst e';exact truthy_none ⟨H,I,q⟩
 | bl b =>
  cases rx;have e':k=b:=e;subst e';exact nT ⟨H,I,q⟩
 | int i =>
  obtain⟨t,rfl⟩:=rx;have e':k=(i != 0):=e;subst e';exact PySem.P.truthy_int ⟨H,I,q⟩
 | str y =>
  obtain⟨t,rfl⟩:=rx;obtain⟨hy,e'⟩:y.length<=bw/\k=((y.length:Int) != 0):=e;subst e';exact PySem.P.truthy_str @c ⟨H,@aB,q⟩
 | Te y =>
  obtain⟨t,rfl⟩:=rx;obtain⟨hy,e'⟩:y.size<=bw/\k=((y.size:Int) != 0):=e;subst e';exact PySem.W.truthy_bytes @c ⟨H,@aB,q⟩
 | ref p =>
  cases rx;have e':(∃ xs,tp X.K H p xs/\k=!xs.isEmpty)\/(∃ xs,AJ X.K H p xs/\k=!xs.isEmpty)\/∃ bo,H p=some (.dK bo)/\k=!bo.isEmpty:=e;rcases e' with ⟨xs,hx,e'⟩ | ⟨xs,hx,e'⟩ | ⟨bo,hx,e'⟩
  .subst e';obtain⟨bu,r,pl,hz⟩:=I.list hx;have hlen:=r.length;exact wpAny_truthy_list pl.isList (by simp only [aU];lia) ⟨H,@aB,by rw [Ae r];exact q⟩
  .subst e';obtain⟨bu,r,pl,hz⟩:=I.tuple hx;have hlen:=r.length;exact truthy_tuple pl (by simp only [aU];lia) ⟨H,@aB,by rw [Ae r];exact q⟩
  .subst e';obtain⟨hz,hS,vs,r,m⟩:bo.length<=bw/\(p == gL)=false/\∃ vs,KV bo vs/\s.heap.DictOf (fi X.prog X.w) p vs:=I.du p _ hx;have hlen:bo.length=vs.length:=sC r;exact Gn hS m @c ⟨H,@aB,by rw [Hw r];exact q⟩
 | _=>exact(show False from e).elim
theorem He:JV X (jc .Add) (λx y H Q=>∃ i j,x=.str i/\y=.str j/\i.length+j.length<=bw/\Q (.str (i++j)) H):=by
 intro pins s σ H x y v u Q I rx ry h;obtain⟨i,j,rfl,rfl,hz,q⟩:=h;obtain⟨t,rfl⟩:=rx;obtain⟨t',rfl⟩:=ry;exact add_str (λt' tk=>⟨.str (i++j),H,@aB,@ah,q⟩) hz
theorem vals1(r:Vals [x] us):∃ u,us=[u]/\RelV x u:=by
 cases r with
 | cons r1 r2=>cases r2;exact⟨_,rfl,r1⟩
theorem vals2(r:Vals [x,y] us):∃ u w',us=[u,w']/\RelV x u/\RelV y w':=by
 cases r with
 | cons r1 r2 =>
  cases r2 with
  | cons r3 r4=>cases r4;exact⟨_,_,rfl,r1,r3⟩
def YL(K:aC)(x:V)(H:Hp)(n:Nat):Prop :=
 match x with
 | .str y=>y.length<=bw/\n=y.length
 | .Te y=>y.size<=bw/\n=y.size
 | .ref p=>(∃ xs,tp K H p xs/\n=xs.length)\/∃ xs,AJ K H p xs/\n=xs.length
 | _=>False
theorem Pp:Tr X (.builtin "len") (λxs H Q=>∃ x n,xs=[x]/\YL X.K x H n/\Q (.int n) H):=by
 intro pins s σ H xs us Q I r h;obtain⟨x,n,rfl,e,q⟩:=h;obtain⟨u,rfl,rx⟩:=vals1 r;have hl:=zY;have hs:bw=16777216:=cq;cases x with
 | str y =>
  obtain⟨t,rfl⟩:=rx;obtain⟨hy,e'⟩:y.length<=bw/\n=y.length:=e;subst e';exact len_str @c ⟨.int _,H,@aB,@ah,q⟩
 | Te y =>
  obtain⟨t,rfl⟩:=rx;obtain⟨hy,e'⟩:y.size<=bw/\n=y.size:=e;subst e';exact PySem.W.len_bytes @c ⟨.int _,H,@aB,@ah,q⟩
 | ref p =>
  cases rx;have e':(∃ xs,tp X.K H p xs/\n=xs.length)\/∃ xs,AJ X.K H p xs/\n=xs.length:=e;rcases e' with ⟨xs,hx,e'⟩ | ⟨xs,hx,e'⟩
  .subst e';obtain⟨bu,r',pl,hz⟩:=I.list hx;have hlen:=r'.length;exact Calls.call_len_list pl.isList (by simp only [aU];lia) ⟨.int xs.length,H,@aB,⟨_,by simp only [aU];rw [hlen]⟩,q⟩
  .subst e';obtain⟨bu,r',pl,hz⟩:=I.tuple hx;have hlen:=r'.length;exact len_tuple pl (by simp only [aU];lia) ⟨.int xs.length,H,@aB,⟨_,by simp only [aU];rw [hlen]⟩,q⟩
 | _=>exact(show False from e).elim
end
structure HZ(h:Heap)(x dx C:Addr)(mA:@aQ):Prop where
 obj:h.get? x=some (gY C dx)
 ns:h.Ns1 dx mA
 ne:dx≠x
theorem K4{h:Heap}(n:h.Ns1 dx mA):∃ od,h.get? dx=some od/\∀ name,wR name od=some (mA name):=by
 obtain⟨o,es,ep,ho,hd,hk,_,hm⟩:=n;refine⟨o,ho,λname=>?_⟩;have e:=hm name;unfold nsFind findBy at e;rw [<-Array.find?_toList] at e;unfold wR;rw [hd];ext d;split
 .rename_i y q;rw [q] at e;exact congrArg some e
 .rename_i q;rw [q] at e;have a:es.toList.any (·.refKey)=false:=by
   rw [List.any_eq_false];intro y hy;obtain⟨z,t,abu⟩:=hk y (Array.mem_toList_iff.mp hy);simp [DictEntry.refKey,abu]
  have a':¬ es.toList.any (·.refKey)=true:=by rw [a];exact fW
  rw [if_neg a'];exact congrArg some e
theorem HZ.look(I:HZ h x dx C mA):∃ od,PySem.W.InstAt h x (gY C dx) C (some od)/\∀ name,wR name od=some (mA name) :=
 let ⟨od,ho,hl⟩:=K4 I.ns
 ⟨od,⟨I.obj,rfl,rfl,ho⟩,hl⟩
section
variable {prog:bI} {w:World} {A:c7} {E:@H} {s:aF} {K:aC} {x dx C f:Addr} {mA:@aQ} {name:Str} {v:Value}
theorem get_map{expr:Bool}{Q:@H}(X:K.In s.heap)(I:HZ s.heap x dx C mA)(hg:sy K C name=true)(hh:zu K C=true)
  (ha:gQ K @ai name=some none) (hv:mA name=@S) (Qa:PySem.W.handedIn v=true) (h:Q v { s with toks:=s.toks+1 }) :
  wpAny @L A (getAttr (.ref x) name expr) Q E s:=by
 obtain⟨od,J,hl⟩:=I.look;exact PySem.W.get_value X J (w7 hg).1 (PySem.W.findObj_own hh ha rfl (by rw [hl,hv])) Qa h
theorem OU{pl:Sem Bool}{Q:Value×@B->@ae}(X:K.In s.heap)(I:HZ s.heap x dx C mA)(hg:sy K C name=true)
  (hf:gQ K @ai name=some (some (.ref f))) (ht:J2 K (.ref f)=true) (hv:mA name=none) (h:Q (.ref f,[.ref x]) s) :
  wpAny @L A (getMethod (.ref x) name pl) Q E s:=by
 obtain⟨od,J,hl⟩:=I.look;exact PySem.W.method_fn X J (w7 hg).1 (w7 hg).2 hf (beq_iff_eq.mp ht) (by show (wR name od).map (·.isSome)=some false;rw [hl,hv];rfl) h
theorem QO{ns:@D}{Q:Unit->@ae}(X:K.In s.heap)(I:HZ s.heap x dx C mA)
  (hs:gQ K @ai "__setattr__" = some (some (.builtin "object.__setattr__"))) (hp:Qm K C=true) (ht:CF K C name=some none) (hh:zu K C=true)
  (hw:Mp mA ns) (hsz:ns.length<=bw)
  (h:∀ h',HZ h' x dx C (λy=>if y=name then @S else mA y)->mZ dx s.heap h'->Q () { s with heap:=h',toks:=s.toks+2 }) :
  wpAny @L A (setAttr (.ref x) name v) Q E s:=by
 obtain⟨od,J,hl⟩:=I.look;refine PySem.W.set_plain X J hs (PySem.W.osa_open (s:={ s with toks:=s.toks+1 }) (r:=none) X J hp ht λb=>?_);obtain⟨cd,hc,Fu⟩:=PySem.W.any_some hh;have hx:s.heap.get? x=some ⟨.ref C,some dx,.plain,#[]⟩:=I.obj;refine ay (aK (ay (ay (wpAny_loadPart hx (ay (PySem.W.Looks.here (s:={ s with toks:=s.toks+1 }) (PySem.W.looks_clsIn X hc) ?_))))));rw [Fu];refine aK (a:=some dx) (ay (aK (ay ?_)));refine wpAny_nsSet1 (s:={ s with toks:=s.toks+1 }) I.ns λh' Zl Ek=>?_;obtain⟨oD,esD,epD,hoD,hdD,hcD⟩:=Zl.count (PySem.Within.cons name v hw);refine ay (wpAny_lookBehind hoD (by rw [hdD];exact pastItsLine_dict (cY hcD (by rw [af];lia))) ?_);exact aK (h _ ⟨(Ek.2 _ (cR I.ne)).trans I.obj,Zl,I.ne⟩ Ek)
theorem NV(X:K.In s.heap)(hm:PySem.W.makesIn K C=true)
  (hi:gQ K @ai "__init__" = some (some (.ref f))) (hf:PySem.W.typeIn K (.ref f)=some (.type "function"))
  (h:qY @L (A.under (.builtin "type.__call__" ⟨.ref C :: vs,kw⟩)) (.call (.ref f) ⟨.ref (@aO) :: vs,kw⟩) (PySem.W.InitBack (@aO) R)
   { s with heap:=(s.heap.push fD).push (gY C s.heap.objs.size) }) :
  qY @L A (.call @ai ⟨vs,kw⟩) R s:=by
 obtain⟨hh,g,d,t,os⟩:=s;exact PySem.W.make_core (PySem.W.makes_of X hm) (PySem.W.looks_findIn X hi) (λself=>PySem.W.bind_fn X self hf) @af h
end
def nC(f:Str)(v:V):List (Str×V)->List (Str×V)
 | []=>[(f,v)]
 | (g,x) :: r=>if g=f then (g,v) :: r else (g,x) :: nC f v r
theorem yf(f g)(v):∀ fs:List (Str×V),(nC f v fs).lookup g=if g=f then @S else fs.lookup g
 | []=>by
  show pE g [(f,v)]=_;by_cases h:g=f
  .have hb:(g == f)=true:=beq_iff_eq.mpr h;simp only [pE,hb,if_pos h]
  .have hb:(g == f)=false:=beq_eq_false_iff_ne.mpr h;simp only [pE,hb,if_neg h]
 | (k,x) :: r=>by
  have ih:=yf f g v r;rw [show nC f v ((k,x) :: r)=(if k=f then (k,v) :: r else (k,x) :: nC f v r) from rfl];by_cases hk:k=f
  .rw [if_pos hk];by_cases h:g=k
   .have hb:(g == k)=true:=beq_iff_eq.mpr h;simp only [pE,hb,if_pos (h.trans hk)]
   .have hb:(g == k)=false:=beq_eq_false_iff_ne.mpr h;simp only [pE,hb,if_neg (λe:g=f=>h (e.trans hk.symm))]
  .rw [if_neg hk];by_cases h:g=k
   .have hb:(g == k)=true:=beq_iff_eq.mpr h;simp only [pE,hb,if_neg (λe:g=f=>hk (h.symm.trans e))]
   .have hb:(g == k)=false:=beq_eq_false_iff_ne.mpr h;simp only [pE,hb];exact ih
theorem xt(f)(v):∀ fs:List (Str×V),f∈(nC f v fs).map @t/\∀ g,g∈fs.map @t->g∈(nC f v fs).map @t
 | []=>⟨by simp [nC],λg h=>by simp at h⟩
 | (k,x) :: r=>by
  obtain⟨i1,i2⟩:=xt f v r;rw [show nC f v ((k,x) :: r)=(if k=f then (k,v) :: r else (k,x) :: nC f v r) from rfl];by_cases hk:k=f
  .rw [if_pos hk];subst hk;exact⟨@ad,λg h=>@bE⟩
  .rw [if_neg hk];refine⟨?_,λg h=>?_⟩
   .rw [az];exact aL _ i1
   .rw [az] at h ⊢;rcases List.mem_cons.mp h with e | e
    .exact List.mem_cons.mpr (.inl e)
    .exact aL _ (i2 g e)
theorem yh(f)(v):∀ fs:List (Str×V),(nC f v fs).length<=fs.length+1
 | []=>by simp [nC]
 | (k,x) :: r=>by
  have ih:=yh f v r;rw [show nC f v ((k,x) :: r)=(if k=f then (k,v) :: r else (k,x) :: nC f v r) from rfl];by_cases hk:k=f
  .rw [if_pos hk,af,af];lia
  .rw [if_neg hk,af,af];lia
theorem qO.some_of(r:qO (@S) o):∃ u,o=@R/\RelV v u:=by
 cases o with
 | none=>exact(show False from r).elim
 | some u=>exact⟨u,rfl,r⟩
theorem qO.none_of(r:qO none o):o=none:=by
 cases o with
 | none=>rfl
 | some u=>exact(show False from r).elim
theorem Ln(r:RelV v u):PySem.W.handedIn u=true:=by
 cases v with
 | dj=>cases (show u=fu from r);rfl
 | bl b=>cases (show u=wQ b from r);rfl
 | int i=>obtain⟨t,e⟩:=(show ∃ t,u=qZ i t from r);cases e;rfl
 | str x=>obtain⟨t,e⟩:=(show ∃ t,u=Ew x t from r);cases e;rfl
 | Te b=>obtain⟨t,e⟩:=(show ∃ t,u=Value.bytes b t from r);cases e;rfl
 | FA b=>obtain⟨t,e⟩:=(show ∃ t,u=Value.float b t from r);cases e;rfl
 | ref a=>cases (show u=d4 a from r);rfl
 | ty n=>cases (show u=Iu n from r);rfl
section
variable {P:bI} {w:World} {H H':Hp} {h h':Heap} {a C dx:Addr} {fs fs':List (Str×V)}
theorem lY(du:uL P w H h)(e:H a=some (.ins C dx fs)):∃ mA,HZ h a dx C mA/\(∀ f,qO (fs.lookup f) (mA f))/\Mp mA (fs.map @t)/\fs.length<=1000/\H dx=some (.own a):=by
 obtain⟨d,z,ne,ob,mA,n,r,q⟩:=(show iA P w H h a (.ins C dx fs) from du a _ e);exact⟨mA,⟨ob,n,ne⟩,r,q,z,d⟩
end
structure Tp(K:aC)(C:Addr):Prop where
 pg:sy K C Str.empty=true
 hd:zu K C=true
 po:Qm K C=true
 sa:gQ K @ai "__setattr__" = some (some (.builtin "object.__setattr__"))
theorem Tp.get{K:aC}(c:Tp K C)(f):sy K C f=true:=c.pg
def AQ(K:aC)(C:Addr)(f:Str):Prop:=gQ K @ai f=some none
theorem AQ.WI{K:aC}(n:AQ K C f):CF K C f=some none:=by
 unfold CF;rw [show gQ K @ai f=some none from n];rfl
structure Meth(K:aC)(C:Addr)(m:Str)(f:Addr):Prop where
 at_:gQ K @ai m=some (some (.ref f))
 fn:J2 K (.ref f)=true
 kp:pJ K (.ref f)=true
section
variable {X:Cx} {pins:@y} {σ:St} {H:Hp} {s:aF} {a C dx:Addr} {fs:List (Str×V)} {f:Str} {v:V} {A:c7} {E:@H}
theorem HF(I:@l)(e:H a=some (.ins C dx fs))(c:Tp X.K C)(n:AQ X.K C f)(l:fs.lookup f=@S)
  (h:∀ u s',Inv X pins σ H s'->RelV v u->Q u s'):wpAny @s A (getAttr @Q f b) Q E s:=by
 obtain⟨mA,O,r,_,_,_⟩:=lY I.du e;obtain⟨u,hu,ru⟩:=qO.some_of (v:=v) (o:=mA f) (by rw [<-l];exact r f);exact get_map I.Cb O (c.get f) c.hd n hu (Ln ru) (h u _ (@aB) ru)
theorem HE{m:Str}{g:Addr}{pl:Sem Bool}{Q:Value×@B->@ae}(I:@l)(e:H a=some (.ins C dx fs))(c:Tp X.K C)(k:Meth X.K C m g)(l:fs.lookup m=none)
  (h:Q (.ref g,[.ref a]) s):wpAny @s A (getMethod @Q m pl) Q E s:=by
 obtain⟨mA,O,r,_,_,_⟩:=lY I.du e;have hn:mA m=none:=qO.none_of (by rw [<-l];exact r m);exact OU I.Cb O (c.get m) k.at_ k.fn hn h
theorem GU{y:V}{u:Value}{Q:Unit->@ae}(I:@l)(e:H a=some (.ins C dx fs))(c:Tp X.K C)(n:AQ X.K C f)(hl:fs.length < 1000)(ry:RelV y u)
  (h:∀ s',Inv X pins σ (upd H a (.ins C dx (nC f y fs))) s'->Q () s'):wpAny @s A (setAttr @Q f u) Q E s:=by
 obtain⟨mA,O,r,wi,_,ho⟩:=lY I.du e;have hz:(fs.map @t).length<=bw:=by rw [ai,cq];lia
 refine QO I.Cb O c.sa c.po n.WI c.hd wi hz λh' O' sb=>h _ ?_;have hd:∃ o,h'.get? dx=@j:=let ⟨o,_,_,e',_⟩:=O'.ns;⟨o,e'⟩
 refine I.write (x:=a) (e:=dx) (by rw [e];exact iT) (.inr ho) (λb q hb z=>(sb.2 b hb).trans z) hd ?_;refine⟨by rw [bY O.ne];exact ho,?_,O.ne,O'.obj,_,O'.ns,λg=>?_,λg hg=>?_⟩
 .have:=yh f y fs;lia
 .show qO ((nC f y fs).lookup g) (if g=f then @R else mA g);rw [yf];by_cases q:g=f
  .rw [if_pos q,if_pos q];exact ry
  .rw [if_neg q,if_neg q];exact r g
 .by_cases q:g=f
  .rw [q];exact(xt f y fs).1
  .refine(xt f y fs).2 g (wi g λz=>hg ?_);show (if g=f then @R else mA g)=none;rw [if_neg q];exact z
theorem Inv.made(I:@l):Inv X pins σ (upd (upd H s.heap.objs.size (.own (@aO))) (@aO) (.ins C s.heap.objs.size []))
  { s with heap:=(s.heap.push fD).push (gY C s.heap.objs.size) }:=by
 have e1:(s.heap.push fD).get? s.heap.objs.size=some fD:=bc s.heap rfl;have e2:((s.heap.push fD).push (gY C s.heap.objs.size)).get? (@aO)=some (gY C s.heap.objs.size):=by
  have:=bc (s.heap.push fD) (o:=gY C s.heap.objs.size) rfl
  rwa [dI] at this
 have e3:(s.heap.push fD).Ns s.heap.objs.size (λ_=>none):=⟨fD,#[],_,e1,rfl,(λe he=>absurd he @k),λ_=>rfl⟩;have I1:=I.laid (a:=s.heap.objs.size) (o:=.own (@aO)) (h':=s.heap.push fD) (t':=s.toks) (λb u q=>aO _ q) @T ⟨_,e1⟩;refine I1.laid (a:=@aO) (o:=.ins C s.heap.objs.size []) (t':=s.toks) (λb u q=>aO _ q) (Nat.le_of_eq (dI _ _)) ?_;have ne:s.heap.objs.size≠@aO:=bx (fB _);refine⟨by rw [bY ne,dv],ck _,ne,e2,λ_=>none,(Heap.Ns1.of_empty e3).at λo q=>aO _ q,λ_=>iT,λy hy=>absurd rfl hy⟩
theorem Sl(hb:w5 e f env (eval e env)=eval e env)
  (h:wpAny @L A (eval e env) (λo fK=>wpAny @L A (getAttr o f true) Q E fK) E s):wpAny @L A (eval (.Attribute e f pos) env) Q E s :=
 Attribute_any_ h (by rw [arm_eval_Attribute,hb])
end
structure jl(k:Nat)(A:c7):Prop where
 hd:A.handled=none
 dp:A.depth+3 * k+5 < recursionLimit
 un:A.units+16 * k+200 < cLine
theorem jl.mono(r:jl k A)(h:j<=k):jl j A:=⟨r.hd,by have:=r.dp;lia,by have:=r.un;lia⟩
theorem jl.deeper(r:jl (k+1) A)(env):jl k (A.deeper env) :=
 ⟨r.hd,by have:=r.dp;show A.depth+1+3 * k+5 < _;lia,by have:=r.un;show A.units+3+16 * k+200 < _;lia⟩
theorem Hm {A:c7}   :(A.under (.builtin "type.__call__" ⟨.ref C :: us,kw⟩)).depth=A.depth+1:=by
 first | rfl | simp [L0,Code.weight,Code.isCreation,Code.isGuard,Code.isCaller,Code.frames,PX,guardIds]
theorem Hl {A:c7}   :(A.under (.builtin "type.__call__" ⟨.ref C :: us,kw⟩)).units=A.units+1:=by
 first | rfl | simp [L0,Code.cUnits,Code.frames,PX]
theorem jl.make   (r:jl (k+1) A) (C) (us) (kw):jl k (A.under (.builtin "type.__call__" ⟨.ref C :: us,kw⟩)) :=
 ⟨r.hd,by have:=r.dp;rw [Hm];lia,by have:=r.un;rw [Hl];lia⟩
theorem jl.depth(r:jl k A):A.depth < recursionLimit:=by have:=r.dp;lia
theorem jl.units(r:jl k A):A.units+64 < cLine:=by have:=r.un;lia
theorem jl.CO(r:jl k A):A.units < cLine:=by have:=r.un;lia
abbrev Sp:=@A->Hp->VK->XK->Prop
abbrev Ip:=List Env->Hp->aF->XK->@H
structure Io(P:bI)(w:World)(K:aC)(mg:@aQ)(base:Heap)(A:c7)(outer:List Env)(s:aF)(H:Hp):Prop where
 frames:A.frames=some outer
 mod:Mod K mg base
 bs:∀ b o,base.get? b=@j->@ar=@j/\H b=none
 Qd:base.objs.size<=s.heap.objs.size
 yG:s.heap.FunFrames base outer
 Vy:∀ b∈Md outer,H b=none
 du:uL P w H s.heap
 bare:CL s.gens
def CE(outer:List Env)(P:bI)(w:World)(H:Hp)(s:aF)(Q:VK)(u:Value)(s':aF):Prop :=
 ∃ v H',s'.os=s.os/\CL s'.gens/\Un (Md outer) [] H H' s.heap s'.heap/\uL P w H' s'.heap/\RelV v u/\Q v H'
def CR(CX:Ip)(outer:List Env)(P:bI)(w:World)(H:Hp)(s:aF)(Q:VK)(E:XK)(r:Result)(s':aF):Prop :=
 match r with
 | .ok (.ret u)=>CE outer P w H s Q u s'
 | .ok _=>False
 | .error e=>CX outer H s E e s'
structure qP(P:bI)(w:World)(K:aC)(mg:@aQ)(base:Heap)(CX:Ip)(k:Nat)(f:Addr)(fd:dH)(ps:@D)(sp:Sp):Prop where
 len:∀ vs H Q E,sp vs H Q E->vs.length=ps.length
 run:∀ (A:c7) (outer:List Env) (s:aF) (H:Hp) (args:Args) (us:@B) (vs:@A) (Q:VK) (E:XK),jl k A->Io P w K mg base A outer s H->BindsTo s fd args (ps.zip us)->Vals vs us->sp vs H Q E ->
  qY (model P w) A (.call (.ref f) args) (CR CX outer P w H s Q E) s
theorem Io.make{K:aC}(e:Io P w K mg base A outer s H)(C)(us)(kw) :
  Io P w K mg base (A.under (.builtin "type.__call__" ⟨.ref C :: us,kw⟩)) outer s H:=⟨by first | exact e.frames | (simpa [L0,Code.envs,PX,pushEnvs] using e.frames),e.mod,e.bs,e.Qd,e.yG,e.Vy,e.du,e.bare⟩
section
variable {X:Cx} {pins:@y} {σ:St} {H:Hp} {s s':aF}
theorem Inv.Yp(I:@l):Io X.prog X.w X.K X.mg X.base X.A X.stack s H :=
 ⟨I.ok.frames,I.ok.mod,I.bs,cY I.ok.Qd I.sz,I.stack,I.IQ,I.du,I.bare⟩
theorem Inv.after(I:@l)(h:CE X.stack X.prog X.w H s Q u s'):EP X pins σ Q u s':=by
 obtain⟨v,H',os,bare,un,du,r,q⟩:=h;obtain⟨hh,g,d,t,os'⟩:=s';obtain rfl:os'=s.os:=os;exact⟨v,H',I.call (h':=hh) (g':=g) (d':=d) (t':=t) (ch:=[]) un du bare (λb z=>absurd z @k),r,q⟩
end
def Binds(K:aC)(fd:dH)(ps:@D)(ds:@B):Prop :=
 ∀ (s:aF) (us:@B),K.In s.heap->(us++ds).length=ps.length->BindsTo s fd ⟨us,[]⟩ (ps.zip (us++ds))
theorem Binds.all{K:aC}(h:∀ us:@B,us.length=ps.length->LS fd ⟨us,[]⟩=pure (ps.zip us)):Binds K fd ps []:=λs us _ hl=>by
 rw [bq] at hl ⊢;exact .of_eq (h us hl)
def Passes(CX:Ip)(X:Cx)(E:XK):Prop:=∀ (pins:@y) (σ:St) (H:Hp) (s:aF) (e:Value) (s':aF),@l->CX X.stack H s E e s'->X.xe e s'
section
variable {X:Cx} {CX:Ip} {k:Nat} {f C:Addr} {fd:dH} {ps:@D} {sp:Sp} {VC:@A} {ds:@B} {E:XK} {x m:Str} {p pos apos:Pos} {e o:Expr} {es:@aN} {ta:TE} {t:TA}
theorem MZ(F:qP X.prog X.w X.K X.mg X.base CX k f fd ps sp)(hr:jl k X.A)(hb:Binds X.K fd ps ds)(hd:Vals VC ds)(hx:Passes CX X E)
  (I:@l) (r:Vals vs us) (h:sp (vs++VC) H Q E):wpAny @s X.A (call (.ref f) us) (EP X pins σ Q) X.xe s:=by
 have r2:Vals (vs++VC) (us++ds):=r.append hd;have hl:(us++ds).length=ps.length:=by rw [<-r2.length];exact F.len _ _ _ _ h
 refine wpAny_call (tO (F.run X.A X.stack s H ⟨us,[]⟩ (us++ds) (vs++VC) Q E hr I.Yp (hb s us I.Cb hl) r2 h) λr s' hq=>?_);cases r with
 | error e=>exact hx pins σ H s e s' I hq
 | ok fl =>
  cases fl with
  | ret u=>exact I.after hq
  | next=>exact bK hq
  | brk=>exact bK hq
  | cont=>exact bK hq
structure Mk(K:aC)(C f:Addr):Prop where
 makes:PySem.W.makesIn K C=true
 init:gQ K @ai "__init__" = some (some (.ref f))
 fn:J2 K (.ref f)=true
 kp:pJ K @ai=true
theorem MX{pins:@y}{σ:St}{H:Hp}{s:aF}{Q:VK}{us:@B}{vs:@A}(M:Mk X.K C f)(F:qP X.prog X.w X.K X.mg X.base CX k f fd ps sp)(hr:jl (k+1) X.A)(hb:Binds X.K fd ps ds)(hd:Vals VC ds)
  (hx:Passes CX X E) (I:@l) (r:Vals vs us)
  (h:∀ x dx,H x=none->H dx=none->dx≠x->sp (.ref x :: (vs++VC)) (upd (upd H dx (.own x)) x (.ins C dx [])) (λv H2=>v=.dj/\Q (.ref x) H2) E) :
  wpAny @s X.A (call @ai us) (EP X pins σ Q) X.xe s:=by
 have hq:=h (@aO) s.heap.objs.size (I.du.fresh (zv _)) (I.du.fresh @T) (bx (fB _));have I2:=Inv.made (C:=C) I;have r2:Vals (V.ref (@aO) :: (vs++VC)) (d4 (@aO) :: (us++ds)):=.cons rfl (r.append hd);have hl:(d4 (@aO) :: us++ds).length=ps.length:=by
  have e:=r2.length;rw [F.len _ _ _ _ hq] at e;exact e.symm
 refine wpAny_call (NV (f:=f) I.Cb M.makes M.init (beq_iff_eq.mp M.fn) (tO (F.run _ X.stack _ _ ⟨d4 (@aO) :: us,[]⟩ (d4 (@aO) :: (us++ds)) _ _ E (hr.make C us [])
  (I2.Yp.make C us []) (hb _ (d4 (@aO) :: us) I2.Cb hl) r2 hq) λr s' XG=>?_))
 cases r with
 | error e=>exact hx pins σ _ _ e s' I2 XG
 | ok fl =>
  cases fl with
  | ret u =>
   obtain⟨v,H',I3,rv,ev,q3⟩:=I2.after XG;subst ev;exact⟨rv,⟨V.ref (@aO),H',I3,rfl,q3⟩⟩
  | next=>exact bK XG
  | brk=>exact bK XG
  | cont=>exact bK XG
end
structure kj(N P:@D)(sc:Scope):Prop where
 kind:sc.kind=.function
 co:sc.isCoroutine=false
 gen:sc.isGenerator=false
 nd:N.Nodup
 pre:N.take P.length=P
 par:∀ x∈P,@bH=@a8\/@bH=@aT
 UX:∀ y∈sc.names,y.2≠.free
theorem Cu{kindOf:Str->Option tP}:∀ {binds:List (Str×Value)} {m:@aQ},(∀ v,(x,v)∉binds)->bindL kindOf binds m x=m x
 | [],_,_=>rfl
 | (n,v) :: r,m,h=>by
  unfold bindL;rw [Cu λw hw=>h w (aL _ hw)];split
  .have:x≠n:=by ext c;exact h v a9
   simp [this]
  .rfl
theorem Cw{kindOf:Str->Option tP}:∀ {binds:List (Str×Value)} {m:@aQ},(∀ v,(x,v)∉binds)->bindC kindOf binds m x=m x
 | [],_,_=>rfl
 | (n,v) :: r,m,h=>by
  unfold bindC;rw [Cw λw hw=>h w (aL _ hw)];split
  .rfl
  .have:x≠n:=by ext c;exact h v a9
   simp [this]
theorem Cv{kindOf:Str->Option tP}{x:Str}{v:Value}:∀ {P:@D} {vs:@B} {i:Nat} {m:@aQ},P.Nodup->P[i]?=some x->vs[i]?=@S->kindOf x=@a8 ->
  bindL kindOf (P.zip vs) m x=@S
 | [],_,_,_,_,h,_,_=>by simp at h
 | _ :: _,[],_,_,_,_,h,_=>by simp at h
 | p :: P,w :: vs,0,m,nd,h1,h2,hk=>by
  simp at h1 h2;subst h1;subst h2;show bindL kindOf ((p,w) :: P.zip vs) m p=_;unfold bindL;rw [Cu λv hv=>(List.nodup_cons.mp nd).1 (Ga hv).1,if_pos hk];simp
 | p :: P,w :: vs,i+1,m,nd,h1,h2,hk=>by
  show bindL kindOf ((p,w) :: P.zip vs) m x=_;unfold bindL;exact Cv (i:=i) (List.nodup_cons.mp nd).2 (by simpa using h1) (@bl) hk
theorem Cy{kindOf:Str->Option tP}{x:Str}{v:Value}:∀ {P:@D} {vs:@B} {i:Nat} {m:@aQ},P.Nodup->P[i]?=some x->vs[i]?=@S->kindOf x≠@a8 ->
  bindC kindOf (P.zip vs) m x=@S
 | [],_,_,_,_,h,_,_=>by simp at h
 | _ :: _,[],_,_,_,_,h,_=>by simp at h
 | p :: P,w :: vs,0,m,nd,h1,h2,hk=>by
  simp at h1 h2;subst h1;subst h2;show bindC kindOf ((p,w) :: P.zip vs) m p=_;unfold bindC;rw [Cw λv hv=>(List.nodup_cons.mp nd).1 (Ga hv).1,if_neg hk];simp
 | p :: P,w :: vs,i+1,m,nd,h1,h2,hk=>by
  show bindC kindOf ((p,w) :: P.zip vs) m x=_;unfold bindC;exact Cy (i:=i) (List.nodup_cons.mp nd).2 (by simpa using h1) (@bl) hk
def start(N:@D)(vs:@A):St:=vs.map some++aX (N.length - vs.length) none
def DS(CX:Ip)(P:bI)(w:World)(K:aC)(mg:@aQ)(base:Heap)(N:@D)(qual:Str)(scope:Scope)(f:Addr)(cd:Value)(A:c7)(outer:List Env)(s:aF)(H:Hp)(E:XK):Cx where
 prog:=P
 w:=w
 K:=K
 mg:=mg
 base:=base
 A:=A.deeper (Eu qual scope s.heap.objs.size f cd)
 N:=N
 ny:=s
 PN:=H
 env:=Eu qual scope s.heap.objs.size f cd
 outer:=outer
 stack:=Eu qual scope s.heap.objs.size f cd :: outer
 ex:=[]
 calm:=true
 fn:=λ_=>true
 pn:=[]
 xe:=λe s'=>wpAny (model P w) (A.deeper (Eu qual scope s.heap.objs.size f cd)) (leaving (Eu qual scope s.heap.objs.size f cd) e) (λ_ Ub=>CX outer H s E e Ub) (λe' Ub=>CX outer H s E e' Ub) s'
theorem FP{sc:Scope}(h:@bH=@aT):∃ c,(cellsFrom n sc.names []).lookup x=some c:=by
 have q:=Iw sc.names n [] (.inl h);exact Option.isSome_iff_exists.mp q
theorem Lc{K:aC}
  (S:kj N ps scope) (hd:A.handled=none) (e0:Io P w K mg base A outer s H) (hl:vs.length=ps.length) (r:Vals vs us)
  (x:InCallC s s.heap.objs.size (bindL (Eu qual scope s.heap.objs.size f cd).kindOf (ps.zip us) λ_=>none) (cellsFrom (@aO) scope.names []) (bindC (Eu qual scope s.heap.objs.size f cd).kindOf (ps.zip us) λ_=>none) s1) :
  Inv (DS CX P w K mg base N qual scope f cd A outer s H E) [] (start N vs) H s1:=by
 have mP:ps.length<=N.length:=by have:=congrArg bS S.pre;rw [dF] at this;lia
 obtain⟨h1,tk,rfl,hk⟩:=x.done;have Xd:∀ b:Addr,b∉(DS CX P w K mg base N qual scope f cd A outer s H E).ex:=λb z=>absurd (show b∈([]:@aE) from z) @k;refine⟨⟨e0.mod,S.kind,rfl,rfl,aS _,λy z c h1 h2=>?_,λy hy=>?_,λy c _ h=>?_,λ_=>hd,Around.frames_deeper e0.frames,.inr @aP,λb z=>absurd z (Xd b),e0.bs,e0.Qd,λb _ _=>Xd b,λb z=>absurd z (Xd b),e0.yG,e0.Vy⟩,
  rfl,e0.bare,Un.kept hk,⟨_,x.toInCall.ns,λi y v h1 h2 h3=>?_⟩,λy c h=>⟨_,x.cell y c h⟩,e0.du.fresh @T,λy c h=>?_,λp hp=>absurd (show p∈([]:@y) from hp) @k,e0.du.kept hk,?_⟩
 .exact name_of_addr x.apart (iL h1) (iL h2)
 .have hy:scope.names.lookup y=@aT\/scope.names.lookup y=some .free:=hy;rcases hy with hy | hy
  .exact FP hy
  .exact absurd rfl (S.UX _ (iL hy))
 .exact Ed (x.above y c (iL h))
 .have hi:i < vs.length:=by
   unfold start at h2;by_cases hi:i < vs.length
   .exact hi
   .rw [bb (by simpa using hi)] at h2;rw [lr] at h2;split at h2 <;> cases h2
  have ha:vs[i]?=@S:=by
   unfold start at h2;rw [bB (by simpa using hi),bP] at h2;cases e:vs[i]? with
   | none=>rw [e] at h2;cases h2
   | some a=>rw [e] at h2;cases h2;rfl
  obtain⟨u,hu,rv⟩:=r.get ha;have hp:ps[i]?=some y:=by
   rw [<-S.pre,sE @c];exact h1
  have ndP:ps.Nodup:=by rw [<-S.pre];exact S.nd.sublist (List.take_sublist _ _)
  refine⟨u,rv,?_⟩;rcases S.par y (cT hp) with k | k
  .exact .inl ⟨k,Cv ndP hp hu k⟩
  .obtain⟨c,e⟩:=FP (n:=@aO) k;refine .inr ⟨.inl k,c,e,?_⟩;have q:=x.cell y c e;rw [Cy ndP hp hu (by show scope.names.lookup y≠_;rw [k];decide)] at q;exact q
 .exact e0.du.fresh (Ed (x.above y c (iL h)))
 .unfold start;show _=N.length;rw [aq,ai,fQ];lia
theorem Yl{K:aC}{kV:Value}
     (lk:K.lookup f=some ⟨oc,od,.func (je name qual params body scope dV kV doc pm an i7 ct),Hd⟩) (Mc:Ey K i7 qual=true) (S:kj N ps scope)
  (len:∀ vs H Q E,sp vs H Q E->vs.length=ps.length)
  (OO:∀ (A:c7) (outer:List Env) (s:aF) (H:Hp) (vs:@A) (Q:VK) (E:XK),jl k (A.deeper (Eu qual scope s.heap.objs.size f i7))->sp vs H Q E ->
   ∃ t,WA (DS CX P w K mg base N qual scope f i7 A outer s H E) body t/\t { nx:=λ_ H'=>Q .dj H',rt:=Q } (start N vs) H) :
  qP P w K mg base CX (k+1) f (je name qual params body scope dV kV doc pm an i7 ct) ps sp:=by
 refine⟨len,λA outer s H args us vs Q E hr e0 hb r S1=>?_⟩;have hl:=len _ _ _ _ S1;have KX:K.In s.heap:=e0.mod.RX.keeps λb o e=>(e0.bs b o e).1;have lim:s.heap.NoLimit:=e0.mod.nolimit.keeps λb o e=>(e0.bs b o e).1;have Cf:∀ y∈ps.zip us,scope.names.lookup y.1=@a8\/(scope.names.lookup y.1=@aT/\((cellsFrom (@aO) scope.names []).lookup y.1).isSome=true):=λ⟨n,v⟩ hy=>by
  rcases S.par n (Ga hy).1 with q | q
  .exact .inl q
  .exact .inr ⟨q,Iw _ _ _ (.inl q)⟩
 refine codeAny_call_function hr.depth (KX _ _ lk) rfl S.co S.gen rfl (PySem.W.codeRec_of KX Mc) (hb _ _ _ _ ?_);refine wpAny_newFunctionEnv_cells S.kind Cf λenv he s1 x=>?_;subst he;refine⟨lim.keeps x.toInCall.keep,codeAny_func ?_⟩;obtain⟨t,ht,hq⟩:=OO A outer s H vs Q E (hr.deeper _) S1;have I:Inv (DS CX P w K mg base N qual scope f i7 A outer s H E) [] (start N vs) H s1:=Lc S hr.hd e0 hl r x;refine nV (ht [] s1 (start N vs) H _ I hq) (λfl s' hs=>?_) λe s' hs=>hs;have fin:∀ {jD:St} {H':Hp} {v:V} {u:Value},Inv (DS CX P w K mg base N qual scope f i7 A outer s H E) [] jD H' s'->RelV v u->Q v H'->CE outer P w H s Q u s' :=
  λ{jD H' v u} J rv q=>⟨v,H',J.os,J.bare,J.base,J.du,rv,q⟩
 cases fl with
 | ret u =>
  obtain⟨v,jD,H',J,rv,q⟩:=hs;exact fin J rv q
 | next =>
  obtain⟨jD,H',J,q⟩:=hs;exact fin (v:=V.dj) (u:=fu) J rfl q
 | brk =>
  obtain⟨_,_,_,q⟩:=hs;exact bK q
 | cont =>
  obtain⟨_,_,_,q⟩:=hs;exact bK q
end L2
namespace HT
open PySem PyProof.Rows
def lexLt:@G->@G->Bool
 | [],[]=>false
 | [],_ :: _=>true
 | _ :: _,[]=>false
 | x :: xs,y :: ys=>if x=y then lexLt xs ys else decide (x < y)
theorem Ht(x y)(xs ys):lexLt (x :: xs) (y :: ys)=if x=y then lexLt xs ys else decide (x < y):=rfl
theorem Bj:lexLt [] []=false:=rfl
theorem z0(y)(ys):lexLt [] (y :: ys)=true:=rfl
theorem z8(x)(xs):lexLt (x :: xs) []=false:=rfl
theorem O7(A)(s)(a)(t)(c)(u):∃ e,SeqAt.EqAt A s (.int a t) (.int c u) e/\(e=true↔a=c) :=
 ⟨(a == c),SeqAt.EqAt.int_int a t c u,@ad⟩
theorem zK(A)(s)(a)(t)(c)(u)(prog)(w)(E)(Q)(h:Q (.bool (decide (a < c))) s) :
  wpAny @L A (qW .Lt (.int a t) (.int c u)) Q E s :=
 (PyProof.Rows.lt_int h:wpAny @L A (fN .Lt (.int a t) (.int c u)) Q E s)
section
open PySem.SeqAt
open PySem.AutoSeq1 (wpAny_loadPart')
open PySem.MeetsSeq PySem.MeetsSeq2 PySem.MeetsSeq3
theorem Ba(l b)(items oh)(n n2)(dd JK)(sl IX)(ns ms)(hi:kC items.toList ns)(hj:kC oh.toList ms) :
  Meets (Builtin.«tuple.__lt__» ⟨[.ref l,@X],[]⟩)
   (λ_ R s=>s.heap.get? l=some { cls:=.type "tuple",dict:=dd,data:=.seq items n,slots:=sl }/\@ar=some { cls:=.type "tuple",dict:=JK,data:=.seq oh n2,slots:=IX } /\
    R (.ok (.ret (.bool (lexLt ns ms)))) s) :=
 .of_wp λprog w A R s h=>by
  obtain⟨hp,g,d,tk,os⟩:=s;obtain⟨hl,hb,h⟩:=h;have f2:=qw;have z1:items.size=ns.length:=by rw [<-hi.length];simp
  have z2:oh.size=ms.length:=by rw [<-hj.length];simp
  wp_walk using b7 hl,b7 hb,pI _ (λrest b s'=>b.1=none/\s'=⟨hp,g,d,tk,os⟩/\∃ (vs ws:@B) (RQ We:@G),rest=vs.zip ws /\
   kC vs RQ/\kC ws We/\RQ.length+oh.size=We.length+items.size/\R (.ok (.ret (.bool (lexLt RQ We)))) ⟨hp,g,d,tk,os⟩) _
  case turn =>
   rintro⟨y,x⟩ rest b s' ⟨JB,rfl,vs,ws,RQ,We,hz,hvi,Zh,hlen,hR⟩;cases hvi with
   | nil=>rw [List.zip_nil_left] at hz;cases hz
   | cons a t aa4 =>
    cases Zh with
    | nil=>rw [List.zip_nil_right] at hz;cases hz
    | cons c u aa2 =>
     rw [List.zip_cons_cons] at hz;injection hz with hyx OC
     injection hyx with hy hx
     subst hy hx;rw [Ht] at hR;simp only [af] at hlen;obtain⟨e,he,XT⟩:=O7 A.in1 ⟨hp,g,d,tk,os⟩ a t c u;refine ay (he prog w _ _ ?_);cases e with
     | true =>
      rw [if_pos (XT.mp rfl)] at hR
      wp_walk
      exact⟨rfl,rfl,_,_,_,_,OC,aa4,aa2,@d,hR⟩
     | false =>
      rw [if_neg (λq=>absurd (XT.mpr q) fW)] at hR;have XE:=zK A.in1 ⟨hp,g,d,tk,os⟩ a t c u prog w
      wp_walk using XE
      exact⟨_,rfl,by simpa using hR⟩
  case fin =>
   rintro⟨b1,b2⟩ s' ⟨JB,rfl,vs,ws,RQ,We,hz,hvi,Zh,hlen,hR⟩;simp only at JB;subst JB;have hv:lexLt RQ We=decide (items.size < oh.size):=by
    cases hvi with
    | nil =>
     cases Zh with
     | nil =>
      simp only [av] at hlen;rw [Bj];exact(decide_eq_false @c).symm
     | cons c u hw =>
      simp only [av,af] at hlen;rw [z0];exact(decide_eq_true @c).symm
    | cons a t hv =>
     cases Zh with
     | nil =>
      simp only [av,af] at hlen;rw [z8];exact(decide_eq_false @c).symm
     | cons c u hw =>
      rw [List.zip_cons_cons] at hz;cases hz
   rw [hv] at hR
   wp_walk
   exact⟨_,rfl,by simpa [uX] using hR⟩
  case h =>
   exact⟨rfl,rfl,items.toList,oh.toList,ns,ms,rfl,hi,hj,@d,h⟩
end
section
variable {prog:bI} {w:World} {A:c7} {E:@H} {s:aF}
theorem zT{l b:Addr}{items oh:Array Value}{ns ms:@G}{Q:@H}(hl:IsTup s.heap l items)(hb:IsTup s.heap b oh)(hi:kC items.toList ns)(hj:kC oh.toList ms)
  (hu:A.units < cLine) (h:Q (.bool (lexLt ns ms)) s):wpAny @L A (fN .Lt (.ref l) (@X)) Q E s:=by
 obtain⟨⟨cls,dd,data,sl⟩,ho,hc,n,hd⟩:=id hl;obtain⟨⟨Pk,JK,data2,IX⟩,Ce,Dv,n2,hd2⟩:=id hb;simp only at hc hd Dv hd2;subst hc hd Dv hd2;exact yx (op:=.Lt) ⟨_,ho,rfl⟩ ⟨_,Ce,rfl⟩ lN tu (rg _ _) (Ba l b items oh n n2 dd JK sl IX ns ms hi hj)
  ⟨ho,Ce,show wQ (lexLt ns ms)≠Value.notImplemented/\Q (.bool (lexLt ns ms)) s from⟨(λx=>nomatch x),h⟩⟩ hu
theorem Si{t b:Addr}{vs ws:@B}{Q:@H}(ht:IsTup s.heap t vs.toArray)(hb:IsTup s.heap b ws.toArray)(hv:vs≠[])
  (h1:ws=[]->Q (.ref t) s) (h2:ws≠[]->Q (@bb) { s with heap:=s.heap.push { cls:=.type "tuple",data:=.seq (vs++ws).toArray } })
  (hsz:vs.length+ws.length<=bw):wpAny @L A (jc .Add (.ref t) (@X)) Q E s:=by
 obtain⟨⟨cls,dd,data,sl⟩,ho,hc,n,hd⟩:=id ht;obtain⟨⟨Pk,JK,data2,IX⟩,Ce,Dv,n2,hd2⟩:=id hb;simp only at hc hd Dv hd2;subst hc hd Dv hd2;have e:vs.toArray++ws.toArray=(vs++ws).toArray:=@ad
 by_cases hw:ws=[]
 .exact concat_meets ⟨_,ho,rfl⟩ ⟨_,Ce,rfl⟩ noFill_tuple_add seq_tuple_add Iy Gy (F8 _ _)
   (tuple_addW1 t b vs.toArray ws.toArray n n2 dd JK sl IX (by simpa using hv) (by simp [hw])) ⟨ho,Ce,h1 hw⟩
 .refine concat_meets ⟨_,ho,rfl⟩ ⟨_,Ce,rfl⟩ noFill_tuple_add seq_tuple_add Iy Gy (F8 _ _)
   (tuple_addW2 t b vs.toArray ws.toArray n n2 dd JK sl IX (by simpa using hv) (by simpa using hw) (by rw [aU,aU];exact hsz)) ⟨ho,Ce,?_⟩
  rw [e];exact h2 hw
def jF(n d:Nat):@aU->Nat
 | none=>d
 | some v=>if v < 0 then (v+(n:Int)).toNat else min v.toNat n
theorem Ua(n d)(hd:d<=n)(o):jF n d o<=n:=by
 cases o with
 | none=>exact hd
 | some v =>
  show (if v < 0 then (v+(n:Int)).toNat else min v.toNat n)<=n;by_cases hv:v < 0
  .rw [if_pos hv];lia
  .rw [if_neg hv];exact Nat.min_le_right _ _
theorem JP(v)(n d:Nat):(if v < 0 then max (v+(n:Int)) 0 else min v (n:Int))=((jF n d (@S):Nat):Int):=by
 show (if v < 0 then max (v+(n:Int)) 0 else min v (n:Int))=(((if v < 0 then (v+(n:Int)).toNat else min v.toNat n):Nat):Int);by_cases hv:v < 0
 .simp only [if_pos hv];lia
 .simp only [if_neg hv];lia
theorem HY(lo hi)(n:Nat):nv lo hi 1 (n:Int)=(((jF n 0 lo:Nat):Int),((jF n n hi:Nat):Int)):=by
 have h1:¬ ((1:Int) < 0):=@d
 unfold nv;simp only [h1,if_false];refine Prod.ext ?_ ?_
 .cases lo with
  | none=>rfl
  | some v=>exact JP v n 0
 .cases hi with
  | none=>rfl
  | some v=>exact JP v n n
theorem GX(i j:Nat):ji (i:Int) (j:Int) 1=j - i:=by
 unfold ji;have h1:(1:Int) > 0:=@d
 simp only [h1,if_true,Int.ediv_one];split <;> lia
theorem zB{v:Value}{o:@aU}{Q:@aU->@ae}(p:IsPart v o)(h:Q o s):wpAny @L A (Builtin.Slice.slicePartIndex v) Q E s:=by
 cases p with
 | none=>exact slicePart_none h
 | int i t=>exact slicePart_int h
theorem xg{sl:Addr}{vl vu:Value}{lo hi:@aU}{n:Nat}{Q:Int×Int×Nat->@ae}(hs:s.heap.IsSliceOf sl vl vu .none)(pl:IsPart vl lo)(pu:IsPart vu hi)
  (h:Q (((jF n 0 lo:Nat):Int),1,jF n n hi - jF n 0 lo) s):wpAny @L A (yX (.ref sl) (pure (n:Int))) Q E s:=by
 obtain⟨os,XJ,X0,Zn⟩:=id hs;unfold yX Builtin.Slice.sliceFields;refine ay (ay (wpAny_field XJ Zn (x:=vl) rfl (ay (wpAny_field XJ Zn (x:=vu) rfl (ay (wpAny_field XJ Zn (x:=.none) rfl (aK ?_)))))));refine ay (slicePart_none ?_);show wpAny _ _ (if ((1:Int) == 0)=true then _ else _) _ _ s;rw [if_neg @o];refine ay (zB pl (ay (zB pu (ay (aK ?_)))));show wpAny _ _ (match nv lo hi 1 (n:Int) with | (lo,hi)=>pure (lo,(1:Int),ji lo hi 1)) _ _ s;rw [HY lo hi n];show wpAny _ _ (pure (((jF n 0 lo:Nat):Int),(1:Int),ji ((jF n 0 lo:Nat):Int) ((jF n n hi:Nat):Int) 1)) _ _ s;rw [GX];exact aK h
theorem Nu(xs:Array Value)(i k:Nat):((bZ k).filterMap λ(m:Nat)=>xs[((i:Int)+(m:Int) * 1).toNat]?).toArray=((xs.toList.drop i).take k).toArray:=by
 have e:(λ(m:Nat)=>xs[((i:Int)+(m:Int) * 1).toNat]?)=λm=>xs[i+m]?:=by
  funext m;have:((i:Int)+(m:Int) * 1).toNat=i+m:=@d
  rw [this]
 rw [e];have:=pick_run xs i k;rw [List.filterMap_map] at this;have e2:((λx=>xs[x]?)∘λx=>i+x)=λm=>xs[i+m]?:=rfl;rw [e2] at this;rw [this]
theorem vY{t sl:Addr}{items:Array Value}{vl vu:Value}{lo hi:@aU}{Q:@H}(ht:IsTup s.heap t items)(hs:s.heap.IsSliceOf sl vl vu .none)(pl:IsPart vl lo)(pu:IsPart vu hi)
  (hw:¬ (@bI=0/\@bR=items.size))
  (h:Q (@bb) { s with heap:=s.heap.push { cls:=.type "tuple",data:=.seq ((items.toList.drop (@bI)).take (@bR - @bI)).toArray } })
  (hsz:items.size<=bw):wpAny @L A (getItem (.ref t) (.ref sl)) Q E s:=by
 have JA:sizeOk (.seq ((items.toList.drop (@bI)).take (@bR - @bI)).toArray):=by
  show ((items.toList.drop (@bI)).take (@bR - @bI)).toArray.size<=bw;rw [aU];exact cY (cY (List.length_take_le' _ _) (by rw [cf,bR];exact Nat.sub_le _ _)) hsz
 have hj:@bR<=items.size:=Ua _ _ @T hi;obtain⟨os,XJ,X0,Zn⟩:=id hs;have hTs:s.TypeIs (.ref sl) "slice":=⟨os,XJ,X0⟩;unfold getItem
 try with_reducible refine fe ?_
 first | refine ay (aK ?_) | skip
 refine ay (wpAny_sequenceKey ht.typeIs @o ?_);refine ay (jb (name:=w6 "__getitem__") ht.typeIs wU
  (fJ wU ht.typeIs entry_tuple_getitem ?_ (args_tuple_getitem _ _)))
 show wpAny _ _ (Builtin.Tuple.tupleItemsOf (.ref t) >>= _) _ _ s;refine ay (tupleItemsOf_ ht ?_);refine ay (wpAny_typeOf hTs ?_);rw [if_pos @o];refine ay (xg hs pl pu ?_);have R7:¬ ((((@bI:Nat):Int) == 0&&(1:Int) == 1&&(@bR - @bI) == items.size)=true):=by
  intro q;rw [aR,aR] at q;have q1:((@bI:Nat):Int)=0:=eq_of_beq q.1.1;have q2:@bR - @bI=items.size:=eq_of_beq q.2;exact hw ⟨@d,@d⟩
 show wpAny _ _ (if (((@bI:Nat):Int) == 0&&(1:Int) == 1&&(@bR - @bI) == items.size)=true then _ else _) _ _ s;rw [if_neg R7,Nu]
 first
  | exact ay (m:=jC _) (dZ (aK ⟨_,rfl,aK h⟩) JA)
  | exact ay (m:=jC _) (dZ (ay (aK (aK ⟨_,rfl,aK h⟩))) JA)
  | exact ay (ay (m:=jC _) (dZ (aK (aK ⟨_,rfl,aK h⟩)) JA))
  | exact ay (ay (m:=jC _) (dZ (aK ⟨_,rfl,aK h⟩) JA))
end
end HT
namespace L2
open PySem PySem.Spec PyProof.Rows
abbrev TO:=St->Hp->(@aU->Hp->Prop)->Prop
theorem intsAre_of:∀ {us:@B},Vals (ns.map V.int) us->kC us ns:=by
 induction ns with
 | nil=>intro us r;rw [aP] at r;cases r;exact .nil
 | cons n ns ih =>
  intro us r;rw [az] at r;cases r with
  | cons r1 r2 =>
   obtain⟨t,e⟩:=r1;subst e;exact .cons n t (ih r2)
section
variable {X:Cx} {e:Expr} {te:TE} {lo hi:Option Expr} {tl th:TO} {pos p2:Pos}
def SlR(X:Cx)(r:V->@aU->@aU->Hp->VK->Prop):Prop :=
 ∀ (pins:@y) (s:aF) (σ:St) (H:Hp) (x:V) (v vl vu:Value) (lo hi:@aU) (sl:Addr) (Q:VK),@l->RelV x v->s.heap.IsSliceOf sl vl vu .none->IsPart vl lo->IsPart vu hi->r x lo hi H Q ->
  ∃ T id,typeLookup (.type T) "__getitem__" = pure (some (.builtin id))/\s.TypeIs v T/\wpAny @s X.A (getItem v (.ref sl)) (EP X pins σ Q) X.xe s
def FN(xs:@A)(lo hi:@aU):@A:=(xs.drop (HT.jF xs.length 0 lo)).take (HT.jF xs.length xs.length hi - HT.jF xs.length 0 lo)
theorem yn(xs)(lo hi):(FN xs lo hi).length<=xs.length:=by
 unfold FN;rw [dF,cf];lia
def aaj(K:aC):V->@aU->@aU->Hp->VK->Prop:=λx lo hi H Q=>∃ a xs,x=.ref a/\AJ K H a xs /\
 ¬ (HT.jF xs.length 0 lo=0/\HT.jF xs.length xs.length hi=xs.length)/\∀ p,H p=none->Q (@U) (upd H p (.tup (FN xs lo hi)))
theorem T8:SlR X (aaj X.K):=by
 intro pins s σ H x v vl vu lo hi sl Q I rx hs pl pu h;obtain⟨a,xs,rfl,hx,hw,q⟩:=h;cases rx;obtain⟨bu,r,ht,hz⟩:=I.tuple hx;have hlen:bu.toArray.size=xs.length:=by rw [aU];exact r.length.symm
 refine⟨"tuple",_,PyProof.Rows.slot_tuple_getitem.lookup,ht.typeIs,?_⟩;refine HT.vY ht hs pl pu (by rw [hlen];exact hw) ?_ (by rw [hlen];exact hz);rw [hlen];refine⟨@bb,_,I.laid (t':=s.toks) (o:=.tup (FN xs lo hi)) (λb ob q=>aO _ q) @T ?_,rfl,q _ (I.du.fresh @T)⟩;exact⟨cY (yn xs lo hi) hz,_,(r.drop (HT.jF xs.length 0 lo)).take (HT.jF xs.length xs.length hi - HT.jF xs.length 0 lo),IsTup.new _ _⟩
def aal(K:aC):R2:=λx y H Q=>∃ a b ns ms,x=.ref a/\y=@X/\AJ K H a (ns.map V.int)/\AJ K H b (ms.map V.int)/\Q (.bl (HT.lexLt ns ms)) H
theorem UN(hu:X.A.units < cLine):JV X (fN .Lt) (aal X.K):=by
 intro pins s σ H x y v u Q I rx ry h;obtain⟨a,b,ns,ms,rfl,rfl,ha,hb,q⟩:=h;cases rx;cases ry;obtain⟨bu,r1,p1,_⟩:=I.tuple ha;obtain⟨tH,r2,p2,_⟩:=I.tuple hb;have i1:kC bu.toArray.toList ns:=intsAre_of r1;have i2:kC tH.toArray.toList ms:=intsAre_of r2;exact HT.zT p1 p2 i1 i2 hu ⟨.bl (HT.lexLt ns ms),H,I,rfl,q⟩
def WU(K:aC):R2:=λx y H Q=>∃ a b xs ys,x=.ref a/\y=@X/\AJ K H a xs/\AJ K H b ys/\xs≠[]/\xs.length+ys.length<=bw /\
 (ys=[]->Q @Q H)/\(ys≠[]->∀ p,H p=none->Q (@U) (upd H p (.tup (xs++ys))))
theorem Vals.Dj(r:Vals xs us):us=[]↔xs=[]:=by
 cases r with
 | nil=>simp
 | cons _ _=>simp
theorem RI:JV X (jc .Add) (WU X.K):=by
 intro pins s σ H x y v u Q I rx ry h;obtain⟨a,b,xs,ys,rfl,rfl,ha,hb,hx,hz,q1,q2⟩:=h;cases rx;cases ry;obtain⟨bu,r1,p1,_⟩:=I.tuple ha;obtain⟨tH,r2,p2,_⟩:=I.tuple hb;refine HT.Si p1 p2 (λz=>hx (r1.Dj.mp z)) (λz=>⟨.ref a,H,I,rfl,q1 (r2.Dj.mp z)⟩) (λz=>?_) (by rw [<-r1.length,<-r2.length];exact hz);refine⟨@bb,_,I.laid (t':=s.toks) (o:=.tup (xs++ys)) (λb ob q=>aO _ q) @T ?_,rfl,q2 (λw=>z (r2.Dj.mpr w)) _ (I.du.fresh @T)⟩;exact⟨by rw [aq];exact hz,_,r1.append r2,IsTup.new _ _⟩
end
def L8(n:Nat)(i:Int):Option Nat:=if 0<=i then (if i < n then some i.toNat else none) else if -(n:Int)<=i then some (i+n).toNat else none
def oz{α:Type}(xs:@v)(i:Int):Option α:=(L8 xs.length i).bind λj=>xs[j]?
theorem Jx(h:L8 n i=some j):seqIndex? i n=some j/\j < n/\-(n:Int)<=i/\i < n:=by
 unfold L8 at h;by_cases h0:0<=i
 .rw [if_pos h0] at h;by_cases h1:i < n
  .rw [if_pos h1] at h;have e:i.toNat=j:=bA h;exact⟨by rw [seqIndex_of h0 h1,e],@d,@d,h1⟩
  .rw [if_neg h1] at h;cases h
 .rw [if_neg h0] at h;by_cases h1:-(n:Int)<=i
  .rw [if_pos h1] at h;have e:(i+n).toNat=j:=bA h;exact⟨by rw [seqIndex_neg @c h1,e],@d,h1,@d⟩
  .rw [if_neg h1] at h;cases h
theorem JS(h:oz xs i=@S):∃ j,seqIndex? i xs.length=some j/\xs[j]?=@S/\j < xs.length/\-(xs.length:Int)<=i/\i < xs.length:=by
 unfold oz at h;cases e:L8 xs.length i with
 | none=>rw [e] at h;cases h
 | some j =>
  rw [e] at h;obtain⟨h1,h2,h3,h4⟩:=Jx e;exact⟨j,h1,h,h2,h3,h4⟩
def Sr(b:Expr):Prop:=∀ o i,subscripted b false o i=operate [o,i] (getItem o i)
def IxR(X:Cx)(r:R2):Prop :=
 ∀ (value slice:Expr) (pins:@y) (s:aF) (σ:St) (H:Hp) (x y:V) (v u:Value) (Q:VK),@l->RelV x v->RelV y u->r x y H Q ->
  subscripted slice false v u=operate [v,u] (getItem v u)->wpAny @s X.A (subscriptTail value slice v u) (EP X pins σ Q) X.xe s
def MtR(X:Cx)(id:String)(r:V->@A->Hp->VK->Prop):Prop :=
 ∀ (pins:@y) (s:aF) (σ:St) (H:Hp) (x:V) (xs:@A) (v:Value) (us:@B) (Q:VK),@l->RelV x v->Vals xs us->r x xs H Q ->
  wpAny @s X.A (call (.builtin id) (v :: us)) (EP X pins σ Q) X.xe s
section
variable {X:Cx} {a b:Expr} {ta tb:TE} {pos:Pos}
def aan(K:aC):R2:=λx y H Q=>∃ p xs i v,x=@U/\y=@Y/\tp K H p xs/\oz xs i=@S/\Q v H
def aam(K:aC):R2:=λx y H Q=>∃ p xs i v,x=@U/\y=@Y/\AJ K H p xs/\oz xs i=@S/\Q v H
theorem Jw:IxR X (aan X.K):=by
 intro value slice pins s σ H x y v u Q I rx ry h hs;obtain⟨p,xs,i,z,rfl,rfl,hq,he,q⟩:=h;cases rx;obtain⟨t,rfl⟩:=ry;obtain⟨bu,r,pl,hz⟩:=I.list hq;obtain⟨j,h1,h2,h3,h4,h5⟩:=JS he;obtain⟨w,ew,vd⟩:=r.get h2;have hl:=r.length;have hn:=zY;have fin:EP X pins σ Q w s:=⟨z,H,I,vd,q⟩;by_cases h0:0<=i
 .have hj:i.toNat=j:=by
   rw [seqIndex_of h0 h5] at h1;exact bA h1
  exact item_listR pl.isList h0 @c (by rw [hj];simpa using ew) fin hs
 .have hj:(i+(bu.toArray.size:Int)).toNat=j:=by
   rw [seqIndex_neg @c h4] at h1;rw [aU,<-hl];exact bA h1
  exact subscriptTail_builtinR (x:=w) pl.isList.typeIs slot_list_getitem.lookup
   (wpAny_getItem_list_neg (Q:=λr s'=>r=w/\EP X pins σ Q r s') pl.isList @c (by rw [aU] <;> lia) @c (by rw [hj];simpa using ew) ⟨rfl,fin⟩) hs
theorem Ve:IxR X (aam X.K):=by
 intro value slice pins s σ H x y v u Q I rx ry h hs;obtain⟨p,xs,i,z,rfl,rfl,hq,he,q⟩:=h;cases rx;obtain⟨t,rfl⟩:=ry;obtain⟨bu,r,pl,hz⟩:=I.tuple hq;obtain⟨j,h1,h2,h3,h4,h5⟩:=JS he;obtain⟨w,ew,vd⟩:=r.get h2;have hl:=r.length;have hn:=zY;have fin:EP X pins σ Q w s:=⟨z,H,I,vd,q⟩;exact subscriptTail_builtinR (x:=w) pl.typeIs slot_tuple_getitem.lookup
  (getItem_tuple (j:=j) (Q:=λr s'=>r=w/\EP X pins σ Q r s') pl @c @c (by rw [aU,<-hl];exact h1) (by simpa using ew) ⟨rfl,fin⟩) hs
theorem Hk (bu:@B) (n j) (u):i8 (·.setIfInBounds j u) { cls:=@ak,data:=.seq bu.toArray n } = { cls:=@ak,data:=.seq (bu.set j u).toArray n }:=by
 simp [i8]
theorem Inv.lst(I:@l)(h:H p=some (.lst xs)) :
  ∃ (bu:@B) (n:Nat),Vals xs bu/\s.heap.get? p=some { cls:=@ak,data:=.seq bu.toArray n }/\xs.length<=bw:=by
 obtain⟨z,bu,n,r,e⟩:=I.du p _ h;exact⟨bu,n,r,e,z⟩
theorem Inv.U7{pins:@y}{σ:St}{H:Hp}{s:aF}{p:Addr}{xs ys:@A}{bu its':@B}{n n':Nat}{f:Obj->Obj}(I:@l)(h:H p=some (.lst xs))
  (ho:s.heap.get? p=some { cls:=@ak,data:=.seq bu.toArray n }) (hf:f { cls:=@ak,data:=.seq bu.toArray n } = { cls:=@ak,data:=.seq its'.toArray n' }) (r:Vals ys its') (hz:ys.length<=bw) (t:Nat) :
  Inv X pins σ (upd H p (.lst ys)) { s with heap:=s.heap.update p f,toks:=t }:=by
 have e:(s.heap.update p f).get? p=some { cls:=@ak,data:=.seq its'.toArray n' }:=by
  rw [fR f ho (by rw [hf] <;> rfl),hf]
 refine I.write (x:=p) (e:=p) (by rw [h];trivial) @af (λb u hb q=>(c9 _ _ (cR hb)).trans q) ⟨_,e⟩ ?_;exact⟨hz,its',n',r,e⟩
def WS:V->V->V->Hp->(Hp->Prop)->Prop:=λo i v H Q=>∃ p xs k j,o=@U/\i=.int k/\H p=some (.lst xs)/\L8 xs.length k=some j/\Q (upd H p (.lst (xs.set j v)))
theorem set_list:acf X WS:=by
 intro pins s σ H o i v ov iv u Q I ro ri rv h;obtain⟨p,xs,k,j,rfl,rfl,hp,hj,q⟩:=h;cases ro;obtain⟨t,rfl⟩:=ri;obtain⟨bu,n,r,ho,hz⟩:=I.lst hp;obtain⟨h1,h2,h3,h4⟩:=Jx hj;have hl:=r.length;have hn:=zY;have I':Inv X pins σ (upd H p (.lst (xs.set j v))) { s with heap:=s.heap.update p (i8 (·.setIfInBounds j u)) } :=
  I.U7 hp ho (Hk bu n j u) (r.set rv j) (by rw [jA];exact hz) s.toks
 by_cases h0:0<=k
 .have hk:k.toNat=j:=by
   rw [seqIndex_of h0 h4] at h1;exact bA h1
  exact PySem.W.ki_setAt ho h0 @c (by rw [aU,<-hl];exact h4) (by rw [hk];exact⟨_,I',q⟩)
 .have hk:(k+(bu.toArray.size:Int)).toNat=j:=by
   rw [seqIndex_neg @c h3] at h1;rw [aU,<-hl];exact bA h1
  exact PySem.W.ki_setBack ho @c (by rw [aU,<-hl];exact h3) @c (by rw [hk];exact⟨_,I',q⟩)
theorem CW(lo hi)(n):(qV lo hi none n).1=((HT.jF n 0 lo:Nat):Int)/\(qV lo hi none n).2.1=((HT.jF n n hi:Nat):Int)/\(qV lo hi none n).2.2=1:=by
 refine⟨?_,?_,rfl⟩
 .cases lo with
  | none=>simp [qV,HT.jF]
  | some i =>
   simp only [qV,HT.jF,Option.getD_none,show (1:Int) > 0 by decide,if_true];by_cases h:i < 0
   .simp only [h,if_true] <;> lia
   .simp only [h,if_false] <;> lia
 .cases hi with
  | none=>simp [qV,HT.jF]
  | some i =>
   simp only [qV,HT.jF,Option.getD_none,show (1:Int) > 0 by decide,if_true];by_cases h:i < 0
   .simp only [h,if_true] <;> lia
   .simp only [h,if_false] <;> lia
theorem Bc(bu:@B)(lo hi):slicePick bu.toArray lo hi none=((bu.drop (HT.jF bu.length 0 lo)).take (HT.jF bu.length bu.length hi - HT.jF bu.length 0 lo)).toArray:=by
 obtain⟨h1,h2,h3⟩:=CW lo hi bu.toArray.size;unfold slicePick;rw [h1,h2,h3];simp only [sliceRange_one,pick_run,aU] <;> rfl
def aak(K:aC):V->@aU->@aU->Hp->VK->Prop:=λx lo hi H Q=>∃ a xs,x=.ref a/\tp K H a xs/\∀ p,H p=none->Q (@U) (upd H p (.lst (FN xs lo hi)))
theorem IW:SlR X (aak X.K):=by
 intro pins s σ H x v vl vu lo hi sl Q I rx hs pl pu h;obtain⟨a,xs,rfl,hx,q⟩:=h;cases rx;obtain⟨bu,r,ht,hz⟩:=I.list hx;have hlen:=r.length;refine⟨"list",_,slot_list_getitem.lookup,ht.isList.typeIs,?_⟩;refine wpAny_getItem_list_slice ht.isList hs pl pu .none @k ?_ (by rw [aU] <;> lia);rw [Bc,<-hlen];refine⟨@bb,_,I.laid (t':=s.toks) (o:=.lst (FN xs lo hi)) (λb ob q=>aO _ q) @T ?_,rfl,q _ (I.du.fresh @T)⟩;exact⟨cY (yn xs lo hi) hz,_,0,(r.drop (HT.jF xs.length 0 lo)).take (HT.jF xs.length xs.length hi - HT.jF xs.length 0 lo),bc _ rfl⟩
theorem DY:Tr X (@ak) (λxs H Q=>∃ p ys,xs=[@U]/\(tp X.K H p ys\/AJ X.K H p ys)/\∀ l,H l=none->Q (.ref l) (upd H l (.lst ys))):=by
 intro pins s σ H xs us Q I r h;obtain⟨p,ys,rfl,hq,q⟩:=h;obtain⟨u,rfl,rx⟩:=vals1 r;cases rx;have fin:∀ (bu:@B),Vals ys bu->ys.length<=bw->∀ (h':Heap) (c':Nat),(∀ b o',@ar=some o'->@al=some o') ->
   h'.get? s.heap.objs.size=some { cls:=@ak,dict:=none,data:=.seq bu.toArray c',slots:=#[] }->EP X pins σ Q (@bb) @aZ:=λbu r' hz h' c' kp e =>
  ⟨@bb,_,I.laid (t':=s.toks) kp @T (show iA X.prog X.w _ h' _ (.lst ys) from⟨hz,bu,c',r',e⟩),rfl,q _ (I.du.fresh @T)⟩
 rcases hq with hq | hq
 .obtain⟨bu,r',pl,hz⟩:=I.list hq;have hlen:=r'.length;obtain⟨o,ho,hc,n,hd⟩:=pl.isList;exact call_list_seq p @af ho hc hd (λh' c' kp e=>fin bu r' hz h' c' kp e) (by simp only [aU] <;> lia)
 .obtain⟨bu,r',pl,hz⟩:=I.tuple hq;have hlen:=r'.length;obtain⟨o,ho,hc,n,hd⟩:=pl;exact call_list_seq p (.inr rfl) ho hc hd (λh' c' kp e=>fin bu r' hz h' c' kp e) (by simp only [aU] <;> lia)
def tyV(K:aC)(T:String)(x:V)(H:Hp):Prop:=match x with
 | .str _=>T = "str"
 | .int _=>T = "int"
 | .ref p=>(T = "list"/\∃ xs,tp K H p xs)\/(T = "tuple"/\∃ o,K.lookup p=@j/\o.cls=.type "tuple"/\o.dict=none) \/
   (T = "dict"/\((∃ bo,H p=some (.dK bo))\/∃ bo,H p=some (.dT bo)))\/(T = "set"/\∃ S n,H p=some (.set S n))
 | _=>False
theorem CP(I:@l)(r:RelV x v)(ty:tyV X.K T x H) :
  s.TypeIs v T/\∀ a,v=.ref a->∃ ob,s.heap.get? a=some ob/\ob.dict=none:=by
 cases x with
 | str z =>
  obtain⟨t,rfl⟩:=r;cases (show T = "str" from ty);exact⟨typeIs_str s z t,λ_ e=>nomatch e⟩
 | int i =>
  obtain⟨t,rfl⟩:=r;cases (show T = "int" from ty);exact⟨typeIs_int s i t,λ_ e=>nomatch e⟩
 | ref p =>
  cases r;rcases ty with ⟨rfl,xs,hq⟩ | ⟨rfl,o,hk,hc,hd⟩ | ⟨rfl,hk⟩ | ⟨rfl,S,n,hk⟩
  .obtain⟨bu,_,pl,_⟩:=I.list hq;refine⟨pl.isList.typeIs,λa e=>?_⟩;cases e;obtain⟨o,n,e,c,hd,_⟩:=pl;exact⟨o,e,hd⟩
  .refine⟨⟨o,I.Cb p o hk,hc⟩,λa e=>?_⟩;cases e;exact⟨o,I.Cb _ o hk,hd⟩
  .have z:∃ o,s.heap.get? p=@j/\o.ExactDict:=by
    rcases hk with ⟨bo,hk⟩ | ⟨bo,hk⟩
    .obtain⟨_,_,_,_,o,_,_,e,ex,_⟩:=I.du p _ hk;exact⟨o,e,ex⟩
    .obtain⟨_,_,_,_,o,_,_,e,ex,_⟩:=I.du p _ hk;exact⟨o,e,ex⟩
   obtain⟨o,e,ex⟩:=z;refine⟨⟨o,e,ex.1⟩,λa e2=>?_⟩;cases e2;exact⟨o,e,ex.2.1⟩
  .obtain⟨o,_,_,_,e,ex,_⟩:=I.du p _ hk;refine⟨⟨o,e,ex.1⟩,λa e2=>?_⟩;cases e2;exact⟨o,e,ex.2.1⟩
 | _=>exact bK ty
variable {o e:Expr} {es:@aN} {to:TE} {t:TA} {name:Str} {apos r0:Pos} {T id:String} {r:V->@A->Hp->VK->Prop}
/- xs.append(e),list.index on a Xk tuple .. are MtR facts of 06m -/
end
def MtM(X:Cx)(id:String)(r:V->@A->Hp->VK->Prop):Prop :=
 ∀ (pins:@y) (s:aF) (σ:St) (H:Hp) (x:V) (xs:@A) (v:Value) (us:@B) (Q:VK),@l->RelV x v->Vals xs us->r x xs H Q ->
  wpAny @s X.A (call (.builtin id) (v :: us)) (EP X pins σ Q) X.xe s
theorem Vals.one:∀ {x:V} {us:@B},Vals [x] us->∃ u,us=[u]/\RelV x u:=by
 intro x us h;cases h with
 | cons r t=>cases t;exact⟨_,rfl,r⟩
theorem Vals.two:∀ {x y:V} {us:@B},Vals [x,y] us->∃ u v,us=[u,v]/\RelV x u/\RelV y v:=by
 intro x y us h;cases h with
 | cons r t =>
  obtain⟨v,rfl,q⟩:=Vals.one t;exact⟨_,_,rfl,r,q⟩
section
variable {X:Cx} {pins:@y} {σ:St} {H:Hp} {s:aF} {l b:Addr} {xs ys zs:@A}
theorem Inv.U9{bu its':@B}{n:Nat}{f:Array Value->Array Value}{t':Nat}(I:@l)(hH:H l=some (.lst xs))
  (e:s.heap.get? l=some { cls:=@ak,data:=.seq bu.toArray n }) (hf:f bu.toArray=its'.toArray) (hv:Vals ys its') (hz:ys.length<=bw) :
  Inv X pins σ (upd H l (.lst ys)) { s with heap:=s.heap.update l (i8 f),toks:=t' }:=by
 have q:=PySem.IsL.update e f;rw [hf] at q;refine I.write (x:=l) (e:=l) (by rw [hH];exact trivial) @af (λb' u hb hu=>(c9 s.heap (i8 f) (cR hb)).trans hu) ⟨_,q⟩ ?_;exact⟨hz,its',_,hv,q⟩
theorem Inv.aaO(I:@l)(hv:Vals ys bu)(hz:ys.length<=bw) :
  Inv X pins σ (upd H s.heap.objs.size (.lst ys)) { s with heap:=s.heap.push { cls:=@ak,data:=.seq bu.toArray },toks:=t' } :=
 I.laid (λ_ _ q=>aO _ q) @T ⟨hz,bu,0,hv,bc _ rfl⟩
theorem Inv.U8 (I:@l) (hH:H l=some (.lst xs)):xs.length<=bw/\∃ (bu:@B) (n:Nat),Vals xs bu/\xs.length=bu.length/\s.heap.get? l=some { cls:=@ak,data:=.seq bu.toArray n }:=by
 obtain⟨z,bu,n,r,e⟩:=I.du l _ hH;exact⟨z,bu,n,r,r.length,e⟩
theorem NM(h:n<=bw):jH n=false:=by
 unfold jH;exact decide_eq_false @c
end
section
variable {X:Cx}
def Q4:V->@A->Hp->VK->Prop:=λx vs H Q=>∃ l xs y,x=.ref l/\vs=[y]/\H l=some (.lst xs)/\xs.length < bw/\Q .dj (upd H l (.lst (xs++[y])))
theorem B3:MtM X "list.append" Q4:=by
 intro pins s σ H x vs v us Q I rx rv h;obtain⟨l,xs,y,rfl,rfl,hH,hz,q⟩:=h;cases rx;obtain⟨u,rfl,ru⟩:=rv.one;obtain⟨z,bu,n,r,hl,e⟩:=I.U8 hH;refine AW F.slot_list_append ⟨_,e,rfl⟩ F.entry_list_append (F.args_list_append_2 _ _) (PySem.list_append l bu.toArray n u (by rw [aU];lia)) ⟨e,?_⟩;refine⟨.dj,_,I.U9 (its':=bu++[u]) hH e @k (r.append (.cons ru .nil)) ?_,rfl,q⟩;rw [aq,bC];lia
end
section
variable {κ:Type} [@bk]
def lR(bo:List (κ×V))(k:κ):Option V:=(bo.find? λkv=>decide (kv.1=k)).map (·.2)
def putK(bo:List (κ×V))(k:κ)(v:V):List (κ×V) :=
 if (bo.any λkv=>decide (kv.1=k))=true then bo.map (λkv=>if kv.1=k then (kv.1,v) else kv) else bo++[(k,v)]
theorem rm{k:κ}(e:p.1=k):lR (p :: r) k=some p.2:=by simp [lR,eg,e]
theorem rp{k:κ}(e:¬ p.1=k):lR (p :: r) k=lR r k:=by simp [lR,eg,e]
theorem ED(k):∀ bo:List (κ×V),(bo.any λkv=>decide (kv.1=k))=(lR bo k).isSome
 | []=>rfl
 | p :: r=>by
  rw [oy];by_cases e:p.1=k
  .simp only [rm e,decide_eq_true e,PZ,Option.isSome_some]
  .rw [rp e,decide_eq_false e,tQ];exact ED k r
theorem yg(bo)(k:κ)(v):(putK bo k v).length<=bo.length+1:=by
 unfold putK;split
 .rw [ai];lia
 .rw [aq,af,av];lia
theorem qO.oX(r:qO o u):o.isSome=u.isSome:=by
 cases o with
 | none=>cases u with
  | none=>rfl
  | some _=>exact(show False from r).elim
 | some _=>cases u with
  | none=>exact(show False from r).elim
  | some _=>rfl
theorem qO.getD(r:qO o u)(rd:RelV d d'):RelV (o.getD d) (u.getD d'):=by
 cases o with
 | none=>cases u with
  | none=>exact rd
  | some _=>exact(show False from r).elim
 | some _=>cases u with
  | none=>exact(show False from r).elim
  | some _=>exact r
theorem KV.val(r:KV bo vs)(k:κ):qO (lR bo k) (Mj vs k):=by
 unfold KV at r;induction r with
 | nil=>exact iT
 | @cons p q ps qs h t ih =>
  obtain⟨h1,h2⟩:=h;by_cases e:p.1=k
  .have e':q.1=k:=h1.symm.trans e;have b:Mj (q :: qs) k=some q.2:=by simp [Mj,eg,e']
   rw [rm e,b];exact h2
  .have e':¬ q.1=k:=λz=>e (h1.trans z);have b:Mj (q :: qs) k=Mj qs k:=by simp [Mj,eg,e']
   rw [rp e,b];exact ih
theorem KV.any(r:KV bo vs)(k:κ):(bo.any λkv=>decide (kv.1=k))=vs.any λkv=>decide (kv.1=k):=by
 unfold KV at r;induction r with
 | nil=>rfl
 | cons h t ih=>rw [oy,oy,ih,h.1]
theorem KV.Uh(r:KV bo vs)(k:κ)(ry:RelV y u) :
  KV (bo.map λkv=>if kv.1=k then (kv.1,y) else kv) (vs.map λkv=>if kv.1=k then (kv.1,u) else kv):=by
 unfold KV at r ⊢;induction r with
 | nil=>exact .nil
 | @cons p q ps qs h t ih =>
  rw [az,az];refine .cons ?_ ih;obtain⟨h1,h2⟩:=h;by_cases e:p.1=k
  .rw [if_pos e,if_pos (h1.symm.trans e)];exact⟨h1,ry⟩
  .rw [if_neg e,if_neg (λz=>e (h1.trans z))];exact⟨h1,h2⟩
theorem KV.put(r:KV bo vs)(k:κ)(ry:RelV y u):KV (putK bo k y) (stored vs k u):=by
 unfold putK stored;rw [r.any k];by_cases e:(vs.any λkv=>decide (kv.1=k))=true
 .rw [if_pos e,if_pos e];exact r.Uh k ry
 .rw [if_neg e,if_neg e];exact Paired.snoc r ⟨rfl,ry⟩
theorem KV.length{vs:List (κ×Value)}(r:KV bo vs):bo.length=vs.length:=sC r
end
theorem Ca(r:RelV (kV k) u):(fi P w).is k u=true:=by
 cases k with
 | inl i=>obtain⟨t,e⟩:=(show ∃ t,u=qZ i t from r);subst e;exact E9 P w i t
 | inr x=>obtain⟨t,e⟩:=(show ∃ t,u=Ew x t from r);subst e;exact E8 P w x t
theorem Cc:∀ {ks:@N} {us:@B},Vals (ks.map kV) us->ItemsAre (fi P w) ks us
 | [],_,r=>by rw [aP] at r;cases r;exact .nil
 | k :: ks,_,r=>by
  rw [az] at r;cases r with
  | cons h t=>exact .cons (Ca h) (Cc t)
abbrev KT(H:Hp):List (@N×V)->List (@N×Addr×Value)->Prop:=Paired λp q=>p.1=q.1/\H q.2.1=some (.tup (p.1.map kV))/\RelV p.2 q.2.2
theorem KT.val(r:KT H bo xs)(k):qO (lR bo k) ((atKey xs k).map (·.2)):=by
 induction r with
 | nil=>exact iT
 | @cons p q ps qs h t ih =>
  obtain⟨h1,_,h2⟩:=h;by_cases e:p.1=k
  .have e':q.1=k:=h1.symm.trans e;have b:atKey (q :: qs) k=some q.2:=by simp [atKey,eg,e']
   rw [rm e,b];exact h2
  .have e':¬ q.1=k:=λz=>e (h1.trans z);have b:atKey (q :: qs) k=atKey qs k:=by simp [atKey,eg,e']
   rw [rp e,b];exact ih
theorem KT.Uh(r:KT H bo xs)(k)(ry:RelV y u) :
  KT H (bo.map λkv=>if kv.1=k then (kv.1,y) else kv) (xs.map (putAt k u)):=by
 induction r with
 | nil=>exact .nil
 | @cons p q ps qs h t ih =>
  rw [az,az];refine .cons ?_ ih;obtain⟨h1,h2,h3⟩:=h;unfold putAt;by_cases e:p.1=k
  .rw [if_pos e,if_pos (h1.symm.trans e)];exact⟨h1,h2,ry⟩
  .rw [if_neg e,if_neg (λz=>e (h1.trans z))];exact⟨h1,h2,h3⟩
theorem KT.put(r:KT H bo xs)(k)(hb:H b=some (.tup (k.map kV)))(ry:RelV y u) :
  KT H (putK bo k y) (storedH xs k b u):=by
 have e:(bo.any λkv=>decide (kv.1=k))=(atKey xs k).isSome:=by
  rw [ED,(r.val k).oX,qR]
 unfold putK storedH;rw [e];by_cases q:(atKey xs k).isSome=true
 .rw [if_pos q,if_pos q];exact r.Uh k ry
 .rw [if_neg q,if_neg q];exact Paired.snoc r ⟨rfl,hb,ry⟩
theorem KT.keeps(r:KT H bo xs)(ht:∀ b ys,H b=some (.tup ys)->H' b=some (.tup ys)):KT H' bo xs :=
 Paired.Xl r λ_ _ z=>⟨z.1,ht _ _ z.2.1,z.2.2⟩
section
variable {P:bI} {w:World} {H:Hp} {h:Heap} {a:Addr}
theorem SI(ok:uL P w H h)(e:Rd H a u):iA P w H h a u:=e.ok ok
theorem t9(ok:uL P w H h)(e:Rd H a (.dK bo)):bo.length<=bw/\(a == gL)=false/\∃ vs,KV bo vs/\h.DictOf (fi P w) a vs :=
 show iA P w H h a (.dK bo) from SI ok e
theorem JH(ok:uL P w H h)(e:H a=some (.dK bo)):bo.length<=bw/\(a == gL)=false/\∃ vs,KV bo vs/\h.DictOf (fi P w) a vs:=t9 ok (.inl e)
theorem mM(ok:uL P w H h)(e:H a=some (.tup (ks.map kV))):(zm (fi P w)).is h ks a:=by
 obtain⟨_,bu,r,o,h1,h2,n,h3⟩:=(show iA P w H h a (.tup (ks.map kV)) from ok a _ e);exact⟨o,bu.toArray,n,h1,h2,h3,by simpa using Cc r⟩
theorem ym(ok:uL P w H h)(e:Rd H a (.dT bo)):bo.length<=bw/\(a == gL)=false /\
  ∃ xs,KT H bo xs/\h.DictOfH (zm (fi P w)) a xs:=by
 obtain⟨z,y,xs,r,o,es,ep,h1,h2,h3,h4,h5⟩:=(show iA P w H h a (.dT bo) from SI ok e);refine⟨z,y,xs,r,o,es,ep,h1,h2,h3,h4,λx hx=>?_,h5⟩;have all:∀ {l:List (@N×V)} {m:List (@N×Addr×Value)},KT H l m->∀ x∈m,(zm (fi P w)).is h x.1 x.2.1:=by
  intro l m q;induction q with
  | nil=>intro x hx;exact nomatch hx
  | @cons p q ps qs hq t ih =>
   intro x hx;rcases List.mem_cons.mp hx with e | hx
   .subst e;exact mM ok (by rw [<-hq.1];exact hq.2.1)
   .exact ih x hx
 exact all r x hx
theorem Tb(ok:uL P w H h)(e:H a=some (.dT bo)):bo.length<=bw/\(a == gL)=false /\
  ∃ xs,KT H bo xs/\h.DictOfH (zm (fi P w)) a xs:=ym ok (.inl e)
end
def yU(H:Hp)(a:Addr)(y:V)(r:Option V):Prop :=
 (∃ bo k,Rd H a (.dK bo)/\y=kV k/\r=lR bo k)\/∃ bo k b,Rd H a (.dT bo)/\y=@X/\H b=some (.tup (k.map kV))/\r=lR bo k
def LN(H:Hp)(a:Addr)(y v:V)(H':Hp):Prop :=
 (∃ bo k,H a=some (.dK bo)/\y=kV k/\bo.length < bw/\H'=upd H a (.dK (putK bo k v))) \/
 ∃ bo k b,H a=some (.dT bo)/\y=@X/\H b=some (.tup (k.map kV))/\bo.length < bw/\H'=upd H a (.dT (putK bo k v))
theorem yU.k{H:Hp}{a:Addr}{bo:List (Key×V)}{k:Key}(e:H a=some (.dK bo)):yU H a (kV k) (lR bo k):=.inl ⟨bo,k,.inl e,rfl,rfl⟩
theorem yU.t{H:Hp}{a b:Addr}{bo:List (@N×V)}{k:@N}(e:H a=some (.dT bo))(eb:H b=some (.tup (k.map kV))):yU H a (@X) (lR bo k):=.inr ⟨bo,k,b,.inl e,rfl,eb,rfl⟩
theorem LN.k{H:Hp}{a:Addr}{bo:List (Key×V)}{k:Key}{v:V}(e:H a=some (.dK bo))(hl:bo.length < bw):LN H a (kV k) v (upd H a (.dK (putK bo k v))):=.inl ⟨bo,k,e,rfl,hl,rfl⟩
theorem LN.t{H:Hp}{a b:Addr}{bo:List (@N×V)}{k:@N}{v:V}(e:H a=some (.dT bo))(eb:H b=some (.tup (k.map kV)))(hl:bo.length < bw) :
  LN H a (@X) v (upd H a (.dT (putK bo k v))):=.inr ⟨bo,k,b,e,rfl,eb,hl,rfl⟩
section
variable {X:Cx} {pins:@y} {σ:St} {H:Hp} {s:aF} {a:Addr} {y v:V} {u r:Value} {o:Option V} {A:c7} {E:@H}
theorem Inv.big(I:@l):gL < s.heap.objs.size:=by
 have h:bJ < s.heap.objs.size:=(I.mod.glob.keeps I.bk).lt;exact Nat.lt_trans @o h
theorem xH(hu:A.units+1 < cLine)(I:@l)(g:yU H a y (@S))(ry:RelV y u)(h:∀ w' s',Inv X pins σ H s'->RelV v w'->Q w' s') :
  wpAny @s A (getItem @Q u) Q E s:=by
 rcases g with ⟨bo,k,e,ey,l⟩ | ⟨bo,k,b,e,ey,eb,l⟩
 .subst ey;obtain⟨z,hd,vs,rel,dd⟩:=t9 I.du e;obtain⟨w',hw,vd⟩:=qO.some_of (v:=v) (o:=Mj vs k) (by rw [l];exact rel.val k);exact wpAny_getItem_of (Ca ry) dd.mapOf hw (h w' _ (@aB) vd)
 .subst ey;cases (show u=d4 b from ry);obtain⟨z,hd,xs,rel,dd⟩:=ym I.du e;obtain⟨w',hw,vd⟩:=qO.some_of (v:=v) (o:=(atKey xs k).map (·.2)) (by rw [l];exact rel.val k);obtain⟨p,hp,sT⟩:=Option.map_eq_some_iff.mp hw;refine wpAny_getItem_heap (mq hu) (mM I.du eb) dd hp ?_;rw [sT];exact h w' _ (@aB) vd
theorem Yr{Q:@H}(hu:A.units+1 < cLine)(I:@l)(g:yU H a y o)(ry:RelV y u)(h:∀ s',Inv X pins σ H s'->Q (.bool o.isSome) s') :
  wpAny @s A (fN .In u @Q) Q E s:=by
 rcases g with ⟨bo,k,e,ey,l⟩ | ⟨bo,k,b,e,ey,eb,l⟩
 .subst ey;obtain⟨z,hd,vs,rel,dd⟩:=t9 I.du e;refine wpAny_in_of (Ca ry) hd dd.mapOf ?_;rw [<-(rel.val k).oX,<-l];exact h _ (@aB)
 .subst ey;cases (show u=d4 b from ry);obtain⟨z,hd,xs,rel,dd⟩:=ym I.du e;refine wpAny_in_heap (mq hu) (mM I.du eb) hd dd ?_;have q:=(rel.val k).oX;rw [qR] at q;rw [<-q,<-l];exact h _ (@aB)
theorem JM{Q:@H}(hu:A.units+1 < cLine)(I:@l)(g:yU H a y o)(ry:RelV y u)(h:∀ s',Inv X pins σ H s'->Q (.bool (!o.isSome)) s') :
  wpAny @s A (fN .NotIn u @Q) Q E s:=by
 rcases g with ⟨bo,k,e,ey,l⟩ | ⟨bo,k,b,e,ey,eb,l⟩
 .subst ey;obtain⟨z,hd,vs,rel,dd⟩:=t9 I.du e;refine wpAny_notIn_of (Ca ry) hd dd.mapOf ?_;rw [<-(rel.val k).oX,<-l];exact h _ (@aB)
 .subst ey;cases (show u=d4 b from ry);obtain⟨z,hd,xs,rel,dd⟩:=ym I.du e;refine wpAny_notIn_heap (mq hu) (mM I.du eb) hd dd ?_;have q:=(rel.val k).oX;rw [qR] at q;rw [<-q,<-l];exact h _ (@aB)
theorem JL(I:@l)(mu:YJ (H a))(hs:mZ a s.heap h')(he:∃ q,h'.get? a=some q)(new:iA X.prog X.w (upd H a ob) h' a ob) :
  Inv X pins σ (upd H a ob) { s with heap:=h',toks:=t' } :=
 I.write (x:=a) (e:=a) mu @af (λb q hb z=>(hs.2 b hb).trans z) he new
theorem VF(z:bo.length<=bw)(hd:(a == gL)=false)(rel:KV bo vs)(dd:h'.DictOf (fi P w) a vs) :
  iA P w H' h' a (.dK bo):=⟨z,hd,vs,rel,dd⟩
theorem Ly{H':Hp}{Q:Unit->@ae}(hu:A.units+1 < cLine)(I:@l)(g:LN H a y v H')(ry:RelV y u)(rv:RelV v r)(h:∀ s',Inv X pins σ H' s'->Q () s') :
  wpAny @s A (setItem @Q u r) Q E s:=by
 rcases g with ⟨bo,k,e,ey,l,eH⟩ | ⟨bo,k,b,e,ey,eb,l,eH⟩
 .subst ey eH;obtain⟨z,hd,vs,rel,dd⟩:=JH I.du e;have hz:vs.length<=bw:=by rw [<-rel.length];exact z
  have hl:(putK bo k v).length<=bw:=by have:=yg bo k v;lia
  refine wpAny_setItem_pairs (hsz:=hz) (Ca ry) dd λh' ZJ hs=>h _ ?_;have he:∃ q,h'.get? a=some q:=let ⟨q,_,_,hq,_⟩:=ZJ;⟨q,hq⟩
  exact JL I (by rw [e];exact iT) hs he (VF hl hd (rel.put k rv) ZJ)
 .subst ey eH;cases (show u=d4 b from ry);obtain⟨z,hd,xs,rel,dd⟩:=Tb I.du e;have hz:xs.length<=bw:=by rw [<-sC rel];exact z
  have hl:(putK bo k v).length<=bw:=by have:=yg bo k v;lia
  refine wpAny_setItem_heap (hsz:=hz) (mq hu) (mM I.du eb) dd λh' ZJ hs=>h _ ?_;obtain⟨q,es,ep,hq,h2,h3,h4,_,h5⟩:=ZJ;refine JL I (by rw [e];exact iT) hs ⟨q,hq⟩ ⟨hl,hd,_,(rel.put k eb rv).keeps λc ys ec=>?_,q,es,ep,hq,h2,h3,h4,h5⟩;rw [bY (Xg ec e (λz=>nomatch z))];exact ec
end
section
variable {X:Cx} {pins:@y} {σ:St} {H:Hp} {s:aF} {a:Addr} {bo:List (Key×V)} {k:Key} {u:Value} {A:c7} {E:@H}
theorem Td {Q:@H} (I:@l) (e:Rd H a (.dK bo)) (h:∀ t s',Inv X pins σ H s'->Q (.int bo.length t) s'):wpAny @s A (call (.builtin "len") [.ref a]) Q E s:=by
 obtain⟨z,hd,vs,rel,dd⟩:=t9 I.du e;refine call_len_dict hd dd (by rw [<-rel.length];rw [cq] at z;lia) ?_;rw [<-rel.length];exact h _ _ (@aB)
theorem Sf{Q:Bool->@ae}(I:@l)(e:Rd H a (.dK bo))(h:∀ s',Inv X pins σ H s'->Q (!bo.isEmpty) s'):wpAny @s A (truthy @Q) Q E s:=by
 obtain⟨z,hd,vs,rel,dd⟩:=t9 I.du e;refine Gn hd dd (by rw [<-rel.length];rw [cq] at z;lia) ?_;have q:bo.isEmpty=vs.isEmpty:=by cases rel <;> rfl
 rw [<-q];exact h _ (@aB)
end
theorem rY         (I:@l) (g:yU H a y o):s.TypeIs @Q "dict":=by
 rcases g with ⟨bo,k,e,_,_⟩ | ⟨bo,k,b,e,_,_,_⟩
 .obtain⟨_,_,vs,_,dd⟩:=t9 I.du e;exact dd.typeIs
 .obtain⟨_,_,xs,_,dd⟩:=ym I.du e;exact dd.typeIs
theorem Pc    (h:Heap) (hb:gL < h.objs.size):iA P w H (h.push { cls:=.type "dict",data:=.dict #[] }) h.objs.size (.dK []) :=
 ⟨ck _,beq_eq_false_iff_ne.mpr (cR (bx hb)),[],.nil,Heap.DictOf.new h⟩
def TN:TE:=λ_ H Q=>∀ p,H p=none->Q (@U) (upd H p (.dK []))
section
variable {X:Cx} {pos:Pos}
theorem Nx:PE X (.Dict [] [] pos) TN:=λpins s σ H Q I h =>
 wpAny_Dict_empty ⟨@bb,_,I.laid (a:=s.heap.objs.size) (o:=.dK []) (t':=s.toks) (λ_ _ q=>aO _ q) @T (Pc s.heap I.big),rfl,h _ (I.du.fresh @T)⟩
end
def IsD(H:Hp)(a:Addr):Prop:=(∃ bo,Rd H a (.dK bo))\/∃ bo,Rd H a (.dT bo)
theorem Oo(I:@l)(d:IsD H a) :
  s.TypeIs @Q "dict"/\(∀ b,d4 a=@X->∃ ob,@ar=some ob/\ob.dict=none)/\(a == gL)=false:=by
 rcases d with ⟨bo,e⟩ | ⟨bo,e⟩
 .obtain⟨_,hd,vs,_,dd⟩:=t9 I.du e;refine⟨dd.typeIs,λb q=>?_,hd⟩;cases q;obtain⟨ob,_,_,h1,h2,_⟩:=dd;exact⟨ob,h1,h2.2.1⟩
 .obtain⟨_,hd,xs,_,dd⟩:=ym I.du e;refine⟨dd.typeIs,λb q=>?_,hd⟩;cases q;obtain⟨ob,_,_,h1,h2,_⟩:=dd;exact⟨ob,h1,h2.2.1⟩
section
variable {X:Cx} {pins:@y} {σ:St} {H:Hp} {s:aF} {a:Addr} {y d:V} {u r:Value} {o:Option V} {A:c7} {E:@H}
theorem VG(hu:A.units+1 < cLine)(I:@l)(g:yU H a y o)(ry:RelV y u)(rd:RelV d r)(h:∀ w' s',Inv X pins σ H s'->RelV (o.getD d) w'->Q w' s') :
  wpAny @s A (call (.builtin "dict.get") [.ref a,u,r]) Q E s:=by
 rcases g with ⟨bo,k,e,ey,l⟩ | ⟨bo,k,b,e,ey,eb,l⟩
 .subst ey;obtain⟨z,hd,vs,rel,dd⟩:=t9 I.du e;refine call_meetsIn uf dd.typeIs Iz (Gz _ _ _) (meets_dict_get_default (fi X.prog X.w) a (Ca ry) hd r) ⟨_,dd.mapOf,h _ _ (@aB) ?_⟩;rw [l];exact(rel.val k).getD rd
 .subst ey;cases (show u=d4 b from ry);obtain⟨z,hd,xs,rel,dd⟩:=ym I.du e;refine call_meetsIn uf dd.typeIs Iz (Gz _ _ _) (meetsH_dict_get_default (zm (fi X.prog X.w)) a b hd r) ⟨mq hu,k,xs,mM I.du eb,dd,h _ _ (@aB) ?_⟩;rw [l];exact(rel.val k).getD rd
end
end L2
namespace Att
open PySem PySem.W PySem.Calls PyProof.Rows
theorem yE:∀ (ns:@G) (vs:@B),WellAll P h vs (ns.map WData.int)->kC vs ns:=by
 intro ns;induction ns with
 | nil =>
  intro vs w;rw [aP] at w;cases w;exact .nil
 | cons n ns ih =>
  intro vs w;rw [az] at w;cases w with
  | cons a b =>
   cases a;exact .cons _ _ (ih _ b)
theorem Km{l:OpenLaw}(hn:l.most=some n)
  (Ds:l.row.toRowW.claim.pre args=true) (hwl:WellAll P h vals args) :
  ∃ a vs ns,vals=[d4 a]/\args=[WData.list (ns.map WData.int)]/\@aK=some { cls:=@ak,data:=.seq vs.toArray }/\kC vs ns/\ns.length<=n:=by
 have hsh:WShape.hasAll [] args [.list .int]=true:=(pre_splitW Ds).1;have hc:l.pre.holds [] { args:=args } = true:=(pre_splitW Ds).2;obtain⟨d,r,rfl,h1,h2⟩:=hasAllW_cons hsh;obtain rfl:=hasAllW_nil h2;obtain⟨xs,rfl,h3⟩:=hasW_list h1;obtain⟨ns,rfl⟩:=items_int h3;have hlen:ns.length<=n:=by
  unfold OpenLaw.pre at hc;have h4:(WTm.not (.lt (.lit (.int (n:Int))) (.len (.arg 0)))).holds [] { args:=[.list (ns.map .int)] } = true:=by
   have h4:=(holds_andW hc).1;rw [hn] at h4;exact h4
  have h5:=condW_of h4 (w_not (w_lt w_lit (w_len_list (w_arg rfl))));rw [ai] at h5;refine Nat.le_of_not_lt λq=>?_;have q':(n:Int) < ((ns.length:Nat):Int):=@d
  first
   | (rw [decide_eq_true q'] at h5;exact absurd h5 @o)
   | (simp at h5;lia)
 cases hwl with
 | cons w1 w2 =>
  cases w2;cases w1 with
  | list ho tK=>exact⟨_,_,ns,rfl,rfl,ho,yE ns _ tK,hlen⟩
theorem Ky(l:OpenLaw)(args):l.row.toRowW.claim.post args (.bool true) args=true :=
 postW_of (r:=l.row.toRowW) (X:=(true == true))
  (show WShape.has [] (.bool true) .bool=true by first | rfl | decide | simp [WShape.has,WShape.arms,WShape.armsAll])
  (show (WTm.eq .res (.lit (.bool true))).value [] { args:=args,res:=some (.bool true),after:=args } = some (.bool (true == true)) from w_eq_bool (w_res rfl) w_lit) rfl
theorem FU{l:OpenLaw}{n:Nat}{q:bI}{loose:@D}{XP:(@aQ)->Heap->Prop}{YP:World->Heap->Prop}{d:DefRec}
  (hn:l.most=some n) (XZ:d.params.defaults=[])
  (call:∀ (w:World) (ny fK:aF) (mg mb:@aQ) (fa:Addr) (o:Obj) (pm cd doc:Value) (a:Addr) (vs:@B) (ns:@G),
   Ground q loose [] XP w ny mg mb fK.heap->YP w fK.heap ->
   fK.heap.get? fa=@j->o.data=.func (docDef d.name d.params d.body d.scope pm cd doc)->fK.heap.CodeRec cd d.name->mg d.name=some (.ref fa) ->
   fK.heap.get? a=some { cls:=@ak,data:=.seq vs.toArray }->kC vs ns->ns.length<=n->fK.gens=#[] ->
   qY (model l.prog w) Gv (.call (.ref fa) ⟨[.ref a],[]⟩) (λr s'=>r=.ok (.ret (.bool true))/\OldK fK.heap s'.heap/\s'.os=fK.os/\CL s'.gens) fK) :
  WalkO q loose XP YP l.row.toRowW d [] (λf vs=>Iv f vs):=by
 intro w ny fK mg mb G Y fa o pm cd doc dV kV ho hd Mc hD XM hg args vals as Ds agF hrd hwl hlo;obtain rfl:dV=.none:=Dflts.none hD XZ;obtain rfl:kV=.none:=Dflts.noKw hD;obtain⟨a,vs,ns,rfl,rfl,Vk,hints,hlen⟩:=Km hn Ds hwl;refine enter_call (tO (call w ny fK mg mb fa o pm cd doc a vs ns G Y ho (fd_plain hd) Mc XM Vk hints hlen hg) λr s' hq=>?_);obtain⟨rfl,h2,h3,h4⟩:=hq;exact⟨.inl ⟨.bool true,.bool true,[],rfl,λ_=>rfl,.bool true,Ky l _,λ_=>⟨List.Pairwise.nil,λ_ hm=>(nomatch hm)⟩⟩,h2,h3,h4⟩
end Att
namespace L2
open PySem PySem.Spec PyProof.Rows
theorem BL:∀ {vs:@B} {ns:@G},kC vs ns->Vals (ns.map V.int) vs
 | _,_,.nil=>.nil
 | _,_,.cons n t h=>.cons ⟨t,rfl⟩ (BL h)
def Su(H:Hp):Prop:=∀ b,H b=none\/∃ o xs,H b=some (.ni o (.lst xs))
theorem Oe{K:aC}
  (KX:K.In fK.heap) (Dt:fK.heap.Ns bJ mg) (hb:fK.heap.Ns builtinsNs mb) (hbb:∀ x:Str,x≠"__name__"->mb x=cZ x) (abr:fK.heap.NoLimit) (hg:fK.gens=#[])
  (ha:fK.heap.get? a=some { cls:=@ak,data:=.seq vs.toArray }) (hi:kC vs ns) (hl:ns.length<=bw) (hr:jl k Gv)
  (F:∀ base:Heap,K.In base->base.Ns bJ mg->qP P w K mg base CX k fa fd [x] sp) (X3:∀ (s:aF) (u:Value),BindsTo s fd ⟨[u],[]⟩ [(x,u)])
  (S1:∀ H:Hp,Su H->tp K H a (ns.map V.int)->sp [.ref a] H (λv _=>v=.bl true) λ_ _ _=>False)
  (hCX:∀ H e s',CX [] H fK (λ_ _ _=>False) e s'->False) :
  qY (model P w) Gv (.call (.ref fa) ⟨[.ref a],[]⟩) (λr s'=>r=.ok (.ret (.bool true))/\OldK fK.heap s'.heap/\s'.os=fK.os/\CL s'.gens) fK:=by
 have rv:=BL hi;have aaP:=hi.length;have core:∀ H:Hp,Su H->tp K H a (ns.map V.int)->uL P w H fK.heap->(∀ b,H b≠none->b=a)->(H a≠none->K.lookup a=none) ->
   qY (model P w) Gv (.call (.ref fa) ⟨[.ref a],[]⟩) (λr s'=>r=.ok (.ret (.bool true))/\OldK fK.heap s'.heap/\s'.os=fK.os/\CL s'.gens) fK:=by
  intro H hO hS du hA hK;have JR:∀ {b:Addr} {o:Obj},fK.heap.get? b=@j->H b=none->(Du fK.heap H).get? b=@j:=λe n=>OJ e n;have Xd:∀ {b:Addr} {o:Obj} {es:Array uW} {ep:Nat},fK.heap.get? b=@j->o.data=.dict es ep->H b=none:=λ{b o es ep} e d=>by
   cases q:H b with
   | none=>rfl
   | some u =>
    have e':b=a:=hA b (by rw [q];simp);subst e';rw [ha] at e;cases e;have d':Data.seq vs.toArray _=Data.dict es ep:=d;cases d'
  have Zd:∀ {b:Addr} {m:@aQ},fK.heap.Ns b m->(Du fK.heap H).Ns b m:=λ{b m} ⟨o,es,ep,e,d,r⟩=>⟨o,es,ep,JR e (Xd e d),d,r⟩;have hKb:K.In (Du fK.heap H):=λb o e=>JR (KX b o e) (by
   cases q:H b with
   | none=>rfl
   | some u =>
    have e':b=a:=hA b (by rw [q];simp);subst e';rw [hK (by rw [q];simp)] at e;cases e)
  have hM:Mod K mg (Du fK.heap H):=⟨hKb,Zd Dt,⟨mb,Zd hb,hbb⟩,let ⟨mc,h1,h2⟩:=abr;⟨mc,Zd h1,h2⟩⟩;have e0:Io P w K mg (Du fK.heap H) Gv [] fK H:=⟨rfl,hM,λb o e=>RO e,Nat.le_of_eq (Lj _ _),trivial,λb hb=>absurd (show b∈([]:@aE) from hb) @k,du,.of_eq hg⟩;refine tO ((F _ hKb (Zd Dt)).run Gv [] fK H ⟨[.ref a],[]⟩ [.ref a] [.ref a] _ _ hr e0 (X3 fK @Q) (.cons rfl .nil) (S1 H hO hS)) λr s' h=>?_;cases r with
  | error e=>exact(hCX H e s' h).elim
  | ok fl =>
   cases fl with
   | next=>exact bK h
   | brk=>exact bK h
   | cont=>exact bK h
   | ret u =>
    obtain⟨v,H',os,bare,un,abk,r',q⟩:=h;have q':v=.bl true:=q;subst q';obtain rfl:u=wQ true:=r';refine⟨rfl,OldK.of_keep λb o e=>?_,os,bare⟩;cases q:H b with
    | none=>exact un.keep b o e q (by intro z;exact absurd (show b∈([]:@aE) from z) @k) @k
    | some u =>
     rcases hO b with z | ⟨ob,xs,z⟩
     .rw [q] at z;cases z
     .have z2:=un.Ag b ob _ z;obtain⟨e1,_⟩:=du b _ z;obtain⟨e2,_⟩:=abk b _ z2;rw [e] at e1;cases e1;exact e2
 cases hk:K.lookup a with
 | some o =>
  have e:=KX a o hk;rw [ha] at e;cases e;refine core (λ_=>none) (λ_=>.inl rfl) (.inr ⟨_,vs.toArray,_,hk,rfl,rfl,rfl,by rw [aU,aaP];exact hl,by simpa using rv⟩) (λb u z=>by have z':(none:Option HO)=@R:=z;cases z') (λb z=>absurd rfl z) λz=>absurd rfl z
 | none =>
  refine core (λb=>if b=a then some (.ni { cls:=@ak,data:=.seq vs.toArray } (.lst (ns.map V.int))) else none) (λb=>?_) (.inl (.inr ⟨{ cls:=@ak,data:=.seq vs.toArray },if_pos rfl⟩)) (λb u z=>?_) (λb z=>?_) λ_=>hk
  .by_cases hb:b=a
   .exact .inr ⟨_,_,if_pos hb⟩
   .exact .inl (if_neg hb)
  .by_cases hb:b=a
   .have z':=(if_pos hb).symm.trans z;cases z';subst hb;exact⟨ha,by rw [ai];exact hl,vs,_,rv,ha⟩
   .have z':=(if_neg hb).symm.trans z;cases z'
  .by_cases hb:b=a
   .exact hb
   .exact absurd (if_neg hb) z
theorem Qz{l:CG}{n k:Nat}{q:bI}{loose:@D}{XP:(@aQ)->Heap->Prop}{YP:World->Heap->Prop}{d:DefRec}{K:gf->aC}{CX:World->Ip}{sp:World->Sp}{x:Str}
  (hn:l.most=some n) (Zl:n<=bw) (XZ:d.params.defaults=[]) (hr:jl k Gv)
  (hY:∀ (w:World) (h:Heap),YP w h->(K w.params).In h)
  (F:∀ (w:World) (mg:@aQ) (fa:Addr) (h:Heap),(K w.params).In h->h.Ns bJ mg->mg d.name=some (.ref fa) ->
   ∃ fd:dH,(∀ (s:aF) (u:Value),BindsTo s fd ⟨[u],[]⟩ [(x,u)]) /\
    ∀ base:Heap,(K w.params).In base->base.Ns bJ mg->qP l.prog w (K w.params) mg base (CX w) k fa fd [x] (sp w))
  (S1:∀ (w:World) (H:Hp) (a:Addr) (ns:@G),ns.length<=n->Su H->tp (K w.params) H a (ns.map V.int)->sp w [.ref a] H (λv _=>v=.bl true) λ_ _ _=>False)
  (hCX:∀ (w:World) (H:Hp) (s:aF) (e:Value) (s':aF),CX w [] H s (λ_ _ _=>False) e s'->False) :
  PySem.W.WalkO q loose XP YP l.row.toRowW d [] (λf vs=>Iv f vs):=by
 refine Att.FU hn XZ λw ny fK mg mb fa o pm cd doc a vs ns G Y ho hd Mc XM Vk hints hlen hg=>?_;have KX:=hY w _ Y;obtain⟨fd,hb,hF⟩:=F w mg fa _ KX G.T.g XM;exact Oe KX G.T.g G.T.b G.T.builtins G.T.nolimit hg Vk hints (cY hlen Zl) hr hF hb (λH hO hS=>S1 w H a ns hlen hO hS) λH e s'=>hCX w H fK e s'
end L2
/- THE ahR ZN (shape;LID,My.* are acs):
   My.Adr: a structure of Z5 addresses afg ae6 adV names (classes,Wt);My.Txt K t: a structure (Prop) of Z5 equations over K;
   My.Z4:{K} {implicit addresses ..} (e1:nsIn K bJ "law" = some (some (.ref f))) (e2:K.lookup f=some ⟨oc,od,.func (fnOf "law" "law" params body scope dV kV doc pm an i7 ct),sl⟩) (e3:codeIn K i7 "law" = true) ..:∃ t,My.Txt K t
(Z5 tactic k_is has no namespace: write k_is) -/
namespace L2
open PySem PySem.Spec PyProof.Rows
abbrev yw:Ip:=λ_ _ _ _ _ _=>False
abbrev E0:XK:=λ_ _ _=>False
theorem NC:Passes yw X E0:=λ_ _ _ _ _ _ _ h=>h.elim
structure Qh(K:aC)(x qual:Str)(st:Stmt)(f:Addr)(fd:dH):Prop where
 ex:∃ (oc:Value) (od:Option Addr) (kV doc pm:Value) (an:Option Addr) (i7 ct:Value) (Hd:Array (Option Value)),
  fd=je x qual (gE st) (eO st) (b9 st) .none kV doc pm an i7 ct/\K.lookup f=some ⟨oc,od,.func fd,Hd⟩/\Ey K i7 qual=true
 kp:pJ K (.ref f)=true
section
variable {P:bI} {w:World} {K:aC} {mg:@aQ} {base:Heap}
theorem Qh.ok{st:Stmt}(F:Qh K x qual st f fd)(S:kj N ps (b9 st))(len:∀ vs H Q E,sp vs H Q E->vs.length=ps.length)
  (OO:∀ (i7:Value) (A:c7) (outer:List Env) (s:aF) (H:Hp) (vs:@A) (Q:VK) (E:XK),jl k (A.deeper (Eu qual (b9 st) s.heap.objs.size f i7))->sp vs H Q E ->
   ∃ t,WA (DS yw P w K mg base N qual (b9 st) f i7 A outer s H E).UW (eO st) t/\t { nx:=λ_ H'=>Q .dj H',rt:=Q } (start N vs) H):qP P w K mg base yw (k+1) f fd ps sp:=by
 obtain⟨oc,od,kV,doc,pm,an,i7,ct,Hd,rfl,lk,Mc⟩:=F.ex;refine Yl lk Mc S len λA outer s H vs Q E hr S1=>?_;obtain⟨t,h,q⟩:=OO i7 A outer s H vs Q E hr S1;exact⟨t,h.UW,q⟩
theorem Qh.binds{st:Stmt}(F:Qh K x qual st f fd)
  (h:∀ (kV doc pm:Value) (an:Option Addr) (i7 ct:Value) (us:@B),us.length=ps.length->LS (je x qual (gE st) (eO st) (b9 st) .none kV doc pm an i7 ct) ⟨us,[]⟩=pure (ps.zip us)):Binds K fd ps []:=by
 obtain⟨oc,od,kV,doc,pm,an,i7,ct,Hd,rfl,lk,Mc⟩:=F.ex;exact .all (h kV doc pm an i7 ct)
theorem O0{st:Stmt}{kV:Value}(l:K.lookup f=some ⟨oc,od,.func (je x qual (gE st) (eO st) (b9 st) .none kV doc pm an i7 ct),Hd⟩)
  (c:Ey K i7 qual=true) (k:pJ K (.ref f)=true):Qh K x qual st f (je x qual (gE st) (eO st) (b9 st) .none kV doc pm an i7 ct):=⟨⟨oc,od,kV,doc,pm,an,i7,ct,Hd,rfl,l,c⟩,k⟩
end
end L2
section
namespace K2
open PySem (Str)
abbrev PK:=List (List (@G))
inductive D where
 | dj | bl (b:Bool) | int (i:Int) | str (x:Str) | tup (ds:@f) | eA (ds:@f) | mC (bo:@ay) | ref (a:Nat) | exc (c:Str) | Gi (c:Str) (ns:@D) (ds:@f) | Ei (bo:List (PK×D))
 deriving Inhabited
inductive GO where
 | lst (ds:@f)
 | kg (bo:@ay)
 | ins (c:Str) (fs:List (Str×D))
 | Gj (bo:List (PK×D))
abbrev Gp:=Nat->Option GO
def dB(G:Gp)(a:Nat)(o:GO):Gp:=λb=>if b=a then @j else G b
theorem aA:dB G a o a=@j:=by unfold dB;rw [if_pos rfl]
theorem bL(h:b≠a):dB G a o b=G b:=by unfold dB;rw [if_neg h]
abbrev SZ:Nat:=16777216
structure Ex where
 cls:Str
 ahv:List (Str×D)
abbrev lz:=Ex->@u
abbrev ie:=List (Option D)
abbrev DK:=D->@u
abbrev gG:=lz->ie->Gp->DK->Prop
abbrev yp:=lz->ie->Gp->(Bool->@u)->Prop
abbrev zh:=lz->ie->Gp->(@f->@u)->Prop
structure kA where
 nx:ie->@u
 rt:DK
 bk:ie->@u
 ct:ie->@u
abbrev fG:=lz->kA->ie->@u
abbrev gH:=@f->Gp->DK->lz->Prop
abbrev Ep:=D->D->Gp->DK->Prop
def L8(n:Nat)(i:Int):Option Nat:=if 0<=i then (if i < n then some i.toNat else none) else if -(n:Int)<=i then some (i+n).toNat else none
def oz{α:Type}(xs:@v)(i:Int):Option α:=(L8 xs.length i).bind λj=>xs[j]?
def jF(n d:Nat):@aU->Nat
 | none=>d
 | some v=>if v < 0 then (v+(n:Int)).toNat else min v.toNat n
def cut{α:Type}(xs:@v)(lo hi:@aU):@v:=(xs.drop (jF xs.length 0 lo)).take (jF xs.length xs.length hi - jF xs.length 0 lo)
mutual
def iI:D->D->Bool
 | .dj,.dj=>true
 | .bl a,.bl b=>a == b
 | .bl a,.int b=>(if a then 1 else 0) == b
 | .int a,.bl b=>a == (if b then 1 else 0)
 | .int a,.int b=>a == b
 | .str a,.str b=>a == b
 | .tup a,.tup b=>kc a b
 | .eA a,.eA b=>kc a b
 | _,_=>false
def kc:@f->@f->Bool
 | [],[]=>true
 | a :: r,b :: t=>iI a b&&kc r t
 | _,_=>false
end
mutual
def nr:D->Bool
 | .ref _=>false
 | .exc _=>false
 | .Gi _ _ _=>false
 | .mC _=>false
 | .Ei _=>false
 | .str x=>x.cps.all (· < 0x110000)
 | .tup ds=>pF ds
 | .eA ds=>pF ds
 | _=>true
def pF:@f->Bool
 | []=>true
 | d :: r=>nr d&&pF r
end
class inductive Sn (G:Gp):Nat->D->D->Prop
 | dj {n:Nat}:Sn G n .dj .dj
 | bl {n:Nat} (b:Bool):Sn G n (.bl b) (.bl b)
 | int {n:Nat} (i:Int):Sn G n (@Y) (@Y)
 | str {n:Nat} (x:Str) (h:x.cps.all (· < 0x110000)=true):Sn G n (.str x) (.str x)
 | EH {n:Nat}:Sn G (n+1) (.tup []) (.tup [])
 | oC {n:Nat} {d s:D} {ds ss:@f}:Sn G n d s->Sn G (n+1) (.tup ds) (.tup ss)->Sn G (n+1) (.tup (d :: ds)) (.tup (s :: ss))
 | M6 {n:Nat}:Sn G (n+1) (.eA []) (.eA [])
 | EV {n:Nat} {d s:D} {ds ss:@f}:Sn G n d s->Sn G (n+1) (.eA ds) (.eA ss)->Sn G (n+1) (.eA (d :: ds)) (.eA (s :: ss))
 | ref {n:Nat} {a:Nat} {ds ss:@f}:G a=@ba->Sn G n (.eA ds) (.eA ss)->Sn G n @Q (.eA ss)
abbrev SN:Nat:=8
theorem Sn.nr(h:Sn G n d t):K2.nr t=true:=by
 induction h with
 | dj=>rfl
 | bl b=>rfl
 | int i=>rfl
 | str x h=>exact h
 | EH=>rfl
 | oC _ _ Ow Ov =>
  show (K2.nr _&&K2.pF _)=true;rw [Ow];exact Ov
 | M6=>rfl
 | EV _ _ Ow Ov =>
  show (K2.nr _&&K2.pF _)=true;rw [Ow];exact Ov
 | ref _ _ ih=>exact ih
def WY(k:PK):D:=.tup (k.map λr=>.tup (r.map λt=>.tup (t.map D.int)))
def fw:D->Bool
 | .int _=>true
 | .str _=>true
 | _=>false
def GK:D->Gp->Option Bool
 | .dj,_=>some false
 | .bl b,_=>some b
 | .int i,_=>some (i != 0)
 | .str x,_=>if x.length<=SZ then some ((x.length:Int) != 0) else none
 | .tup ds,_=>some (!ds.isEmpty)
 | .eA ds,_=>some (!ds.isEmpty)
 | .exc _,_=>none
 | .Gi _ _ _,_=>none
 | .Ei _,_=>none
 | .mC bo,_=>if (bo.all λp=>fw p.1)=true then some (!bo.isEmpty) else none
 | .ref a,G=>match G a with
  | some (.lst ds)=>some (!ds.isEmpty)
  | some (.kg bo)=>if (bo.all λp=>fw p.1)=true then some (!bo.isEmpty) else none
  | _=>none
def ak(i:Nat):gG:=λ_ τ G Q=>match τ[i]? with
 | some (some d)=>Q d G
 | _=>False
def dC(d:D):gG:=λ_ _ G Q=>Q d G
def aH:zh:=λ_ _ G Q=>Q [] G
def ag(a:gG)(r:zh):zh:=λE τ G Q=>a E τ G λx G1=>r E τ G1 λxs G2=>Q (x :: xs) G2
def cy(t:zh):gG:=λE τ G Q=>t E τ G λds G1=>ds.length<=SZ/\Q (.tup ds) G1
def dc(t:zh):gG:=λE τ G Q=>t E τ G λds G1=>ds.length<=SZ/\∀ p,G1 p=none->Q (@U) (dB G1 p (.lst ds))
def aN(r:Ep)(a b:gG):gG:=λE τ G Q=>a E τ G λx G1=>b E τ G1 λy G2=>r x y G2 Q
def Bt(r:D->Gp->DK->Prop)(a:gG):gG:=λE τ G Q=>a E τ G λx G1=>r x G1 Q
def iQ(G:Gp)(o:GO)(Q:DK):Prop:=∀ p,G p=none->Q (@U) (dB G p o)
def MulOk(i j:Int):Prop:=(-(2 ^ 64) < i/\i < 2 ^ 64)\/(-(2 ^ 64) < j/\j < 2 ^ 64)
def oU:D->Gp->Option (@f)
 | .eA ds,_=>some ds
 | .ref a,G=>match G a with
  | some (.lst ds)=>some ds
  | _=>none
 | _,_=>none
def D5(x y:D)(G:Gp)(Q:DK):Prop:=match oU x G,oU y G with
 | some xs,some ys=>xs.length+ys.length<=SZ/\iQ G (.lst (xs++ys)) Q
 | _,_=>False
def jS:Ep
 | .int i,.int j,G,Q=>Q (.int (i+j)) G
 | .str a,.str b,G,Q=>a.length+b.length<=SZ/\Q (.str (a++b)) G
 | .tup a,.tup b,G,Q=>a≠[]/\a.length+b.length<=SZ/\Q (.tup (a++b)) G
 | x,y,G,Q=>D5 x y G Q
def C6:Ep
 | .int i,.int j,G,Q=>Q (.int (i - j)) G
 | _,_,_,_=>False
def lF:Ep
 | .int i,.int j,G,Q=>MulOk i j/\Q (.int (i * j)) G
 | _,_,_,_=>False
def jj:Ep
 | .int i,.int j,G,Q=>0 < j/\Q (.int (i % j)) G
 | _,_,_,_=>False
def kY:Ep
 | .int i,.int j,G,Q=>0 < j/\j < 2 ^ 30/\Q (.int (i / j)) G
 | _,_,_,_=>False
def zL:D->Gp->DK->Prop
 | .int i,G,Q=>Q (.int (-i)) G
 | _,_,_=>False
def kS(neg:Bool):Ep:=λx y G Q=>∃ a b,Sn G SN x a/\Sn G SN y b/\Q (.bl (if neg then !iI a b else iI a b)) G
def lexLt:@G->@G->Bool
 | [],[]=>false
 | [],_ :: _=>true
 | _ :: _,[]=>false
 | x :: xs,y :: ys=>if x=y then lexLt xs ys else decide (x < y)
def Wc:Ep
 | .int i,.int j,G,Q=>Q (.bl (decide (i < j))) G
 | .tup a,.tup b,G,Q=>∃ xs ys,a=xs.map D.int/\b=ys.map D.int/\Q (.bl (lexLt xs ys)) G
 | _,_,_,_=>False
def rLe:Ep
 | .int i,.int j,G,Q=>Q (.bl (decide (i<=j))) G
 | _,_,_,_=>False
def WT:Ep
 | .int i,.int j,G,Q=>Q (.bl (decide (i > j))) G
 | _,_,_,_=>False
def rGe:Ep
 | .int i,.int j,G,Q=>Q (.bl (decide (i>=j))) G
 | _,_,_,_=>False
def itemsOf:D->Gp->Option (@f)
 | .tup ds,_=>some ds
 | .eA ds,_=>some ds
 | .ref a,G=>match G a with
  | some (.lst ds)=>some ds
  | _=>none
 | _,_=>none
def uC:D->Bool
 | .tup ds=>ds.all fw
 | _=>false
def iH(bo:@ay)(k:D):Bool:=(fw k&&bo.all λp=>fw p.1)||(uC k&&bo.all λp=>uC p.1)
def look(bo:@ay)(k:D):Option D:=(bo.find? λp=>iI p.1 k).map (·.2)
def put(bo:@ay)(k v:D):@ay :=
 if (bo.any λp=>iI p.1 k)=true then bo.map (λp=>if iI p.1 k=true then (p.1,v) else p) else bo++[(k,v)]
def Df(neg:Bool):Ep:=λx y G Q=>match y with
 | .ref a=>(match G a with
  | some (.kg bo)=>iH bo x=true/\Q (.bl (if neg then !(look bo x).isSome else (look bo x).isSome)) G
  | some (.lst ds)=>∃ s ss,Sn G SN x s/\Sn G SN (.eA ds) (.eA ss)/\Q (.bl (if neg then !ss.any (iI · s) else ss.any (iI · s))) G
  | _=>False)
 | .mC bo=>bo≠[]/\iH bo x=true/\Q (.bl (if neg then !(look bo x).isSome else (look bo x).isSome)) G
 | .tup ds=>∃ s ss,Sn G SN x s/\Sn G SN (.eA ds) (.eA ss)/\Q (.bl (if neg then !ss.any (iI · s) else ss.any (iI · s))) G
 | .eA ds=>∃ s ss,Sn G SN x s/\Sn G SN (.eA ds) (.eA ss)/\Q (.bl (if neg then !ss.any (iI · s) else ss.any (iI · s))) G
 | _=>False
def eB:Ep
 | .tup ds,.int i,G,Q=>(match oz ds i with
  | some d=>Q d G
  | none=>False)
 | .eA ds,.int i,G,Q=>(match oz ds i with
  | some d=>Q d G
  | none=>False)
 | .mC bo,k,G,Q=>iH bo k=true/\(match look bo k with
  | some d=>Q d G
  | none=>False)
 | .ref a,k,G,Q=>(match G a with
  | some (.lst ds)=>(match k with
   | .int i=>(match oz ds i with
    | some d=>Q d G
    | none=>False)
   | _=>False)
  | some (.kg bo)=>iH bo k=true/\(match look bo k with
   | some d=>Q d G
   | none=>False)
  | _=>False)
 | _,_,_,_=>False
abbrev YE:=lz->ie->Gp->(@aU->@u)->Prop
def eF:YE:=λ_ _ G Q=>Q none G
def nQ(t:gG):YE:=λE τ G Q=>t E τ G λx G1=>match x with
 | .int i=>Q (some i) G1
 | _=>False
def QY:D->@aU->@aU->Gp->DK->Prop
 | .tup ds,lo,hi,G,Q=>¬ (jF ds.length 0 lo=0/\jF ds.length ds.length hi=ds.length)/\Q (.tup (cut ds lo hi)) G
 | .eA ds,lo,hi,G,Q=>iQ G (.lst (cut ds lo hi)) Q
 | .ref a,lo,hi,G,Q=>(match G a with
  | some (.lst ds)=>iQ G (.lst (cut ds lo hi)) Q
  | _=>False)
 | _,_,_,_,_=>False
def yM(a:gG)(lo hi:YE):gG:=λE τ G Q=>a E τ G λx G1=>lo E τ G1 λl G2=>hi E τ G2 λh G3=>QY x l h G3 Q
def cW(a:gG):yp:=λE τ G Q=>a E τ G λx G1=>match GK x G1 with
 | some b=>Q b G1
 | none=>False
def wo(a b:yp):yp:=λE τ G Q=>a E τ G λc G1=>if c=true then b E τ G1 Q else Q false G1
def uO(a b:yp):yp:=λE τ G Q=>a E τ G λc G1=>if c=true then Q true G1 else b E τ G1 Q
def iJ(a:yp):yp:=λE τ G Q=>a E τ G λc G1=>Q (!c) G1
def AD(a b:gG):gG:=λE τ G Q=>a E τ G λx G1=>match GK x G1 with
 | some true=>b E τ G1 Q
 | some false=>Q x G1
 | none=>False
def Lz(a b:gG):gG:=λE τ G Q=>a E τ G λx G1=>match GK x G1 with
 | some true=>Q x G1
 | some false=>b E τ G1 Q
 | none=>False
def JN(a:gG):gG:=λE τ G Q=>a E τ G λx G1=>match GK x G1 with
 | some c=>Q (.bl (!c)) G1
 | none=>False
def aZ(sp:gH)(t:zh):gG:=λE τ G Q=>t E τ G λds G1=>sp ds G1 Q @w
def fC(r:@f->Gp->DK->Prop)(t:zh):gG:=λE τ G Q=>t E τ G λds G1=>r ds G1 Q
def qN(x:D)(G:Gp):Prop:=match x with
 | .ref a=>(match G a with
  | some (.lst _)=>True
  | _=>False)
 | .eA _=>True
 | _=>False
def Y3(x:D)(G:Gp):Prop:=match x with
 | .mC _=>True
 | .ref a=>(match G a with
  | some (.kg _)=>True
  | _=>False)
 | _=>False
def tyS(x:D)(_:Gp):Prop:=match x with
 | .str _=>True
 | _=>False
def kh(ty:D->@u)(r:D->@f->Gp->DK->Prop)(o:gG)(t:zh):gG:=λE τ G Q=>o E τ G λx G1=>ty x G1/\t E τ G1 λds G2=>r x ds G2 Q
def lenOf:D->Gp->Option Nat
 | .tup ds,_=>some ds.length
 | .eA ds,_=>some ds.length
 | .str x,_=>if x.length<=SZ then some x.length else none
 | .mC bo,_=>if (bo.all λp=>fw p.1)=true then some bo.length else none
 | .ref a,G=>match G a with
  | some (.lst ds)=>some ds.length
  | some (.kg bo)=>if (bo.all λp=>fw p.1)=true then some bo.length else none
  | _=>none
 | _,_=>none
def gV(ds:@f)(G:Gp)(Q:DK):Prop:=match ds with
 | [x]=>(match lenOf x G with
  | some n=>Q (.int (n:Int)) G
  | none=>False)
 | _=>False
def nS(ds:@f)(G:Gp)(Q:DK):Prop:=match ds with
 | [x]=>(match itemsOf x G with
  | some xs=>iQ G (.lst xs) Q
  | none=>False)
 | _=>False
def RZ(C:String):D->Gp->Option Bool
 | .dj,_=>some false
 | .bl _,_=>some (C == "bool" || @aF)
 | .int _,_=>some (@aF)
 | .str _,_=>some (C == "str")
 | .tup _,_=>some (C == "tuple")
 | .eA _,_=>some (C == "list")
 | .mC _,_=>some (C == "dict")
 | .exc _,_=>none
 | .Gi _ _ _,_=>none
 | .Ei _,_=>none
 | .ref a,G=>match G a with
  | some (.lst _)=>some (C == "list")
  | some (.kg _)=>some (C == "dict")
  | _=>none
def uG(C:String)(a:gG):gG:=λE τ G Q=>a E τ G λx G1=>match RZ C x G1 with
 | some b=>Q (.bl b) G1
 | none=>False
def Pr(ds:@f)(G:Gp)(Q:DK):Prop:=match ds with
 | [x]=>∃ bs:List Bool,itemsOf x G=some (bs.map D.bl)/\Q (.bl (bs.all id)) G
 | _=>False
def eZ(x:D)(ds:@f)(G:Gp)(Q:DK):Prop:=match x,ds with
 | .ref a,[d]=>(match G a with
  | some (.lst xs)=>xs.length < SZ/\Q .dj (dB G a (.lst (xs++[d])))
  | _=>False)
 | _,_=>False
def sO(x:D)(ds:@f)(G:Gp)(Q:DK):Prop:=match x,ds with
 | .ref a,[y]=>(match G a,oU y G with
  | some (.lst xs),some ys=>xs.length+ys.length<=SZ/\Q .dj (dB G a (.lst (xs++ys)))
  | _,_=>False)
 | _,_=>False
def nO(x:D)(ds:@f)(G:Gp)(Q:DK):Prop:=match x,ds with
 | .ref a,[.int i,d]=>(match G a with
  | some (.lst xs)=>0<=i/\i<=xs.length/\xs.length < SZ/\Q .dj (dB G a (.lst (xs.take i.toNat++d :: xs.drop i.toNat)))
  | _=>False)
 | _,_=>False
def xm(x:D)(ds:@f)(G:Gp)(Q:DK):Prop:=match ds with
 | [d]=>qN x G/\∃ xs s ss,itemsOf x G=some xs/\Sn G SN d s/\Sn G SN (.eA xs) (.eA ss)/\(match ss.findIdx? (iI · s) with
  | some k=>Q (.int (k:Int)) G
  | none=>False)
 | _=>False
def Fd(x:D)(ds:@f)(G:Gp)(Q:DK):Prop:=match x,ds with
 | .ref a,[k,d]=>(match G a with
  | some (.kg bo)=>iH bo k=true/\fw k=true/\(match look bo k with
   | some v=>Q v G
   | none=>bo.length < SZ/\Q d (dB G a (.kg (put bo k d))))
  | _=>False)
 | _,_=>False
def bH:fG:=λ_ K τ G=>K.nx τ G
def bz(a b:fG):fG:=λE K τ G=>a E { K with nx:=b E K } τ G
def cp(a:gG):fG:=λE K τ G=>a E τ G λ_ G1=>K.nx τ G1
def bE(a:gG):fG:=λE K τ G=>a E τ G K.rt
def FH:fG:=λ_ K _ G=>K.rt .dj G
def cH(c:yp)(a b:fG):fG:=λE K τ G=>c E τ G λk G1=>if k=true then a E K τ G1 else b E K τ G1
def xI:fG:=λ_ _ _ _=>False
abbrev AI:=lz->D->ie->Gp->(ie->@u)->Prop
abbrev AH:=lz->@f->ie->Gp->(ie->@u)->Prop
def aG(i:Nat):AI:=λ_ d τ G Q=>Q (τ.set i (some d)) G
def nE:AH:=λ_ ds τ G Q=>match ds with
 | []=>Q τ G
 | _=>False
def fx(t:AI)(r:AH):AH:=λE ds τ G Q=>match ds with
 | d :: ds=>t E d τ G λtR G1=>r E ds tR G1 Q
 | _=>False
def mT(t:AH):AI:=λE d τ G Q=>match d with
 | .tup ds=>t E ds τ G Q
 | _=>False
def IY(o k d:D)(G:Gp)(Q:@u):Prop:=match o with
 | .ref a=>(match G a with
  | some (.lst xs)=>(match k with
   | .int i=>(match L8 xs.length i with
    | some j=>Q (dB G a (.lst (xs.set j d)))
    | none=>False)
   | _=>False)
  | some (.kg bo)=>iH bo k=true/\bo.length < SZ/\Q (dB G a (.kg (put bo k d)))
  | _=>False)
 | _=>False
def xw(o k:gG):AI:=λE d τ G Q=>o E τ G λx G1=>k E τ G1 λy G2=>IY x y d G2 λG3=>Q τ G3
def bh(a:gG)(g:AI):fG:=λE K τ G=>a E τ G λx G1=>g E x τ G1 K.nx
abbrev PC:=lz->ie->Gp->(@f->(@u)->@u)->Prop
def fI(a:gG):PC:=λE τ G R=>a E τ G λx G1=>match x with
 | .tup ds=>R ds (λ_=>True) G1
 | .eA ds=>R ds (λ_=>True) G1
 | .ref p=>(match G1 p with
  | some (.lst ds)=>R ds (λG2=>G2 p=@ba) G1
  | _=>False)
 | _=>False
def dN(lo:Int)(n:Nat):@f:=(bZ n).map λ(i:Nat)=>D.int (lo+(i:Int))
def mO(a:gG):PC:=λE τ G R=>a E τ G λx G1=>match x with
 | .int n=>-(2 ^ 62)<=n/\n < 2 ^ 62/\R (dN 0 n.toNat) (λ_=>True) G1
 | _=>False
def Cd(a b:gG):PC:=λE τ G R=>a E τ G λx G1=>b E τ G1 λy G2=>match x,y with
 | .int i,.int j=>(-(2 ^ 62)<=i/\i < 2 ^ 62/\-(2 ^ 62)<=j/\j < 2 ^ 62)/\R (dN i (j - i).toNat) (λ_=>True) G2
 | _,_=>False
def t6(g:AI)(body:fG)(ok:@u):@f->fG
 | []=>λ_ K τ G=>ok G/\K.nx τ G
 | d :: r=>λE K τ G=>ok G/\g E d τ G λtR G1=>body E { K with nx:=t6 g body ok r E K,ct:=t6 g body ok r E K,bk:=K.nx } tR G1
def cS(i:PC)(g:AI)(body:fG):fG:=λE K τ G=>i E τ G λds ok G1=>t6 g body ok ds E K τ G1
def yA(c:yp)(body:fG):Nat->fG
 | 0=>λ_ _ _ _=>False
 | n+1=>λE K τ G=>c E τ G λk G1=>if k=true then body E { K with nx:=yA c body n E K,ct:=yA c body n E K,bk:=K.nx } τ G1 else K.nx τ G1
def DR(c:yp)(body:fG):fG:=λE K τ G=>∃ n,yA c body n E K τ G
def iR(g:AI)(c:Option yp)(e:gG)(ok:@u):@f->lz->ie->Gp->@f->(@f->@u)->Prop
 | [],_,_,G,acc,Q=>ok G/\Q acc G
 | d :: r,E,τ,G,acc,Q=>ok G/\g E d τ G λtR G1=>match c with
  | none=>e E tR G1 λx G2=>iR g c e ok r E tR G2 (acc++[x]) Q
  | some c=>c E tR G1 λk G2=>if k=true then e E tR G2 λx G3=>iR g (some c) e ok r E tR G3 (acc++[x]) Q else iR g (some c) e ok r E tR G2 acc Q
def ql(m:Nat)(fr:@aC)(τ:ie):ie:=aX m none++fr.map λi=>(τ[i]?).getD none
def dS(m:Nat)(fr:@aC)(i:PC)(g:AI)(c:Option yp)(e:gG):gG:=λE τ G Q =>
 i E τ G λds ok G1=>ds.length<=SZ/\iR g c e ok ds @r (ql m fr τ) G1 [] λxs G2=>iQ G2 (.lst xs) Q
abbrev tI(ns:@G):D:=.tup (@bj)
def aaM:@G->@aU
 | []=>none
 | a :: r=>some (r.foldl (λm x=>if x < m then x else m) a)
def aaL:List (@G)->Option (@G)
 | []=>none
 | a :: r=>some (r.foldl (λm x=>if lexLt x m=true then x else m) a)
def FT(ds:@f)(G:Gp)(Q:DK):Prop:=match ds with
 | [x]=>(∃ ns m,itemsOf x G=some (@bj)/\aaM ns=some m/\Q (.int m) G)\/∃ Zc m,itemsOf x G=some (Zc.map tI)/\aaL Zc=some m/\Q (tI m) G
 | _=>False
def uH:gG:=λ_ _ G Q=>iQ G (.kg []) Q
def dM(G G':Gp):Prop:=∀ a o,G a=@j->G' a=@j
theorem dM.refl(G):dM G G:=λ_ _ h=>h
theorem dM.trans(a:dM G G1)(b:dM G1 G2):dM G G2:=λc o h=>b c o (a c o h)
theorem dM.new{G:Gp}{p:Nat}{o:GO}(h:G p=none):dM G (dB G p o):=λa ob e=>by
 by_cases ha:a=p
 .subst ha;rw [h] at e;cases e
 .rw [bL ha];exact e
theorem dM.free(l:@E)(h:G' p=none):G p=none:=by
 cases q:G p with
 | none=>rfl
 | some o=>rw [l p o q] at h;cases h
theorem dM.put(l:@E)(h:G p=none):dM G (dB G' p o):=λa ob e=>by
 by_cases ha:a=p
 .subst ha;rw [h] at e;cases e
 .rw [bL ha];exact l a ob e
def ends(Q:DK):kA:=⟨λ_ G=>Q .dj G,Q,@w,@w⟩
def aT(n:Nat)(ds:@f):ie:=ds.map some++aX (n - ds.length) none
def Le(x:D)(G1:Gp)(R:@f->(@u)->@u):Prop:=match x with
 | .tup ds=>R ds (λ_=>True) G1
 | .eA ds=>R ds (λ_=>True) G1
 | .ref p=>(match G1 p with
  | some (.lst ds)=>R ds (λG2=>G2 p=@ba) G1
  | _=>False)
 | _=>False
def NF(x:D)(G1:Gp)(Q:@aU->@u):Prop:=match x with
 | .int i=>Q (some i) G1
 | _=>False
def qx(x:D)(G1:Gp)(Q:Bool->@u):Prop:=match GK x G1 with
 | some b=>Q b G1
 | none=>False
def SH(x:D)(G1:Gp)(R:@f->(@u)->@u):Prop:=match x with
 | .int n=>-(2 ^ 62)<=n/\n < 2 ^ 62/\R (dN 0 n.toNat) (λ_=>True) G1
 | _=>False
def isAt(C:String)(x:D)(G1:Gp)(Q:DK):Prop:=match RZ C x G1 with
 | some b=>Q (.bl b) G1
 | none=>False
theorem eX:jS (@Y) (.int j) G Q=Q (.int (i+j)) G:=rfl
theorem rL:jS (.tup a) (.tup b) G Q=(a≠[]/\a.length+b.length<=SZ/\Q (.tup (a++b)) G):=rfl
theorem j8:C6 (@Y) (.int j) G Q=Q (.int (i - j)) G:=rfl
theorem ju:lF (@Y) (.int j) G Q=(MulOk i j/\Q (.int (i * j)) G):=rfl
theorem cF:jj (@Y) (.int j) G Q=(0 < j/\Q (.int (i % j)) G):=rfl
theorem fc:kY (@Y) (.int j) G Q=(0 < j/\j < 2 ^ 30/\Q (.int (i / j)) G):=rfl
theorem iO:zL (@Y) G Q=Q (.int (-i)) G:=rfl
theorem pR:Wc (@Y) (.int j) G Q=Q (.bl (decide (i < j))) G:=rfl
theorem vI:rLe (@Y) (.int j) G Q=Q (.bl (decide (i<=j))) G:=rfl
theorem pS:WT (@Y) (.int j) G Q=Q (.bl (decide (i > j))) G:=rfl
theorem vJ:rGe (@Y) (.int j) G Q=Q (.bl (decide (i>=j))) G:=rfl
theorem Q0(h:oz ds i=some d):eB (.eA ds) (@Y) G Q=Q d G:=by unfold eB;simp only [h]
theorem C9{a:Nat}{ds:@f}{i:Int}{d:D}{G:Gp}{Q:DK}(h1:G a=@ba)(h:oz ds i=some d):eB @Q (@Y) G Q=Q d G:=by unfold eB;simp only [h1,h]
theorem lX:QY (.tup ds) lo hi G Q=(¬ (jF ds.length 0 lo=0/\jF ds.length ds.length hi=ds.length)/\Q (.tup (cut ds lo hi)) G):=rfl
theorem vH:QY (.eA ds) lo hi G Q=iQ G (.lst (cut ds lo hi)) Q:=rfl
theorem QX{a:Nat}{ds:@f}{lo hi:@aU}{G:Gp}{Q:DK}(h:G a=@ba):QY @Q lo hi G Q=iQ G (.lst (cut ds lo hi)) Q:=by unfold QY;simp only [h]
theorem lg:gV [.eA ds] G Q=Q (.int (ds.length:Int)) G:=rfl
theorem lb:gV [.tup ds] G Q=Q (.int (ds.length:Int)) G:=rfl
theorem Pq{a:Nat}{ds:@f}{G:Gp}{Q:DK}(h:G a=@ba):gV [.ref a] G Q=Q (.int (ds.length:Int)) G:=by unfold gV lenOf;simp only [h]
theorem bU:fI a E τ G R=a E τ G λx G1=>Le x G1 R:=by
 unfold fI Le;rfl
theorem sR:Le (.eA ds) G R=R ds (λ_=>True) G:=rfl
theorem sQ:Le (.tup ds) G R=R ds (λ_=>True) G:=rfl
theorem Jz{a:Nat}{ds:@f}{G:Gp}{R:@f->(@u)->@u}(h:G a=@ba):Le @Q G R=R ds (λG2=>G2 a=@ba) G:=by unfold Le;simp only [h]
theorem iz:nQ t E τ G Q=t E τ G λx G1=>NF x G1 Q:=rfl
theorem gk:NF (@Y) G Q=Q (some i) G:=rfl
theorem bM:cW a E τ G Q=a E τ G λx G1=>qx x G1 Q:=rfl
theorem aM:qx (.bl b) G Q=Q b G:=rfl
theorem Kg{a:Nat}{ds:@f}{G:Gp}{Q:Bool->@u}(h:G a=@ba):qx @Q G Q=Q (!ds.isEmpty) G:=by unfold qx GK;simp only [h]
theorem fO:mO a E τ G R=a E τ G λx G1=>SH x G1 R:=rfl
theorem e8:SH (.int n) G R=(-(2 ^ 62)<=n/\n < 2 ^ 62/\R (dN 0 n.toNat) (λ_=>True) G):=rfl
theorem kU:uG C a E τ G Q=a E τ G λx G1=>isAt C x G1 Q:=rfl
theorem mN    :isAt C (@Y) G Q=Q (.bl (@aF)) G:=rfl
theorem k6    :isAt C (.tup ds) G Q=Q (.bl (C == "tuple")) G:=rfl
theorem Oq {C:String} {a:Nat} {ds:@f} {G:Gp} {Q:DK} (h:G a=@ba):isAt C @Q G Q=Q (.bl (C == "list")) G:=by unfold isAt RZ;simp only [h]
theorem k9:AD a b E τ G Q=a E τ G λx G1=>qx x G1 λk G2=>if k=true then b E τ G2 Q else Q x G2:=by
 unfold AD qx;refine congrArg (a E τ G) ?_;funext x G1;cases GK x G1 with
 | none=>rfl
 | some k=>cases k <;> simp
theorem qj:Lz a b E τ G Q=a E τ G λx G1=>qx x G1 λk G2=>if k=true then Q x G2 else b E τ G2 Q:=by
 unfold Lz qx;refine congrArg (a E τ G) ?_;funext x G1;cases GK x G1 with
 | none=>rfl
 | some k=>cases k <;> simp
theorem pq:JN a E τ G Q=a E τ G λx G1=>qx x G1 λk G2=>Q (.bl (!k)) G2:=rfl
theorem j9:jS @Q y G Q=D5 @Q y G Q:=by cases y <;> rfl
theorem mG:jS (.eA a) y G Q=D5 (.eA a) y G Q:=by cases y <;> rfl
theorem pQ:QY @Q lo hi G Q=(match G a with
  | some (.lst ds)=>iQ G (.lst (cut ds lo hi)) Q
  | _=>False):=rfl
theorem Q3:eB @Q k G Q=(match G a with
  | some (.lst ds)=>(match k with
   | .int i=>(match oz ds i with
    | some d=>Q d G
    | none=>False)
   | _=>False)
  | some (.kg bo)=>iH bo k=true/\(match look bo k with
   | some d=>Q d G
   | none=>False)
  | _=>False):=by unfold eB;cases k <;> rfl
theorem dg:eB (.tup ds) (@Y) G Q=(match oz ds i with
  | some d=>Q d G
  | none=>False):=rfl
theorem kX:eB (.eA ds) (@Y) G Q=(match oz ds i with
  | some d=>Q d G
  | none=>False):=rfl
theorem pA:nS [.ref a] G Q=(match G a with
  | some (.lst ds)=>iQ G (.lst ds) Q
  | _=>False):=by
 unfold nS itemsOf;cases h:G a with
 | none=>simp only [h]
 | some g=>cases g <;> simp only [h]
theorem b8:eZ @Q [d] G Q=(match G a with
  | some (.lst xs)=>xs.length < SZ/\Q .dj (dB G a (.lst (xs++[d])))
  | _=>False):=rfl
theorem jP:sO @Q [y] G Q=(match G a,oU y G with
  | some (.lst xs),some ys=>xs.length+ys.length<=SZ/\Q .dj (dB G a (.lst (xs++ys)))
  | _,_=>False):=rfl
theorem iP:nO @Q [@Y,d] G Q=(match G a with
  | some (.lst xs)=>0<=i/\i<=xs.length/\xs.length < SZ/\Q .dj (dB G a (.lst (xs.take i.toNat++d :: xs.drop i.toNat)))
  | _=>False):=rfl
theorem iw:Fd @Q [k,d] G Q=(match G a with
  | some (.kg bo)=>iH bo k=true/\fw k=true/\(match look bo k with
   | some v=>Q v G
   | none=>bo.length < SZ/\Q d (dB G a (.kg (put bo k d))))
  | _=>False):=rfl
theorem jG:Le (@U) G R=(match G p with
  | some (.lst ds)=>R ds (λG2=>G2 p=@ba) G
  | _=>False):=rfl
theorem vV    :isAt C (.bl b) G Q=Q (.bl (C == "bool" || @aF)) G:=rfl
theorem ez:qN @Q G=(match G a with
  | some (.lst _)=>True
  | _=>False):=rfl
theorem sI:Y3 @Q G=(match G a with
  | some (.kg _)=>True
  | _=>False):=rfl
theorem u3:qN (.eA ds) G=True:=rfl
theorem C8:eB (.mC bo) k G Q=(iH bo k=true/\(match look bo k with
  | some d=>Q d G
  | none=>False)):=by unfold eB;cases k <;> rfl
theorem uZ:tyS (.str x) G=True:=rfl
def Bs(R:Nat->Bool)(G:Gp):Gp:=λa=>if R a=true then none else G a
mutual
inductive Fz (G:Gp) (R:Nat->Bool):D->D->Prop
 | same (d:D):Fz G R d d
 | tup {ds ss:@f}:AS G R ds ss->Fz G R (.tup ds) (.tup ss)
 | eA {ds ss:@f}:AS G R ds ss->Fz G R (.eA ds) (.eA ss)
 | ref {a:Nat} {ds ss:@f}:G a=@ba->R a=true->AS G R ds ss->Fz G R @Q (.eA ss)
 | kg {a:Nat} {bo SX:@ay}:G a=some (.kg bo)->R a=true->Il G R bo SX->Fz G R @Q (.mC SX)
 | Gj {a:Nat} {bo SX:List (PK×D)}:G a=some (.Gj bo)->R a=true->AS G R (bo.map λp=>p.2) (SX.map λp=>p.2)->bo.map (λp=>p.1)=SX.map (λp=>p.1)->Fz G R @Q (.Ei SX)
inductive AS (G:Gp) (R:Nat->Bool):@f->@f->Prop
 | nil:AS G R [] []
 | cons {d s:D} {ds ss:@f}:Fz G R d s->AS G R ds ss->AS G R (d :: ds) (s :: ss)
inductive Il (G:Gp) (R:Nat->Bool):@ay->@ay->Prop
 | nil:Il G R [] []
 | cons {k d s:D} {ds ss:@ay}:Fz G R d s->Il G R ds ss->Il G R ((k,d) :: ds) ((k,s) :: ss)
end
theorem Il.same:∀ (bo:@ay),Il G R bo bo
 | []=>.nil
 | (k,v) :: r=>.cons (.same v) (Il.same r)
def Im(G:Gp)(x:D)(Q:DK):Prop:=∃ (R:Nat->Bool) (t:D),Fz G R x t/\Q t (Bs R G)
def cA(e:gG):gG:=λE τ G Q=>e E τ G λx G1=>Im G1 x Q
def Pg(i:Nat)(t:fG):fG:=λE K τ G=>t E { K with nx:=λtR G1=>match tR[i]? with
 | some (some d)=>Im G1 d λt G2=>K.nx (tR.set i (some t)) G2
 | _=>False } τ G
theorem AS.same:∀ (ds:@f),AS G R ds ds
 | []=>.nil
 | d :: ds=>.cons (.same d) (AS.same ds)
theorem AA(l:dM G G1):Bs (λa=>(G a).isNone) G1=G:=by
 funext a;unfold Bs;cases h:G a with
 | none=>simp [h]
 | some o=>simp [l a o h,h]
theorem Lx(l:dM G G1)(hp:G p=none)(h1:G1 p=@j):Bs (λa=>(G a).isNone&&decide (a≠p)) G1=dB G p o:=by
 funext a;unfold Bs dB;by_cases ha:a=p
 .subst ha;simp [h1]
 .cases h:G a with
  | none=>simp [ha,h]
  | some o=>simp [l a o h,ha,h]
theorem c6{G:Gp}{d:D}{Q:DK}(q:Q d G):Im G d Q:=⟨λ_=>false,d,.same d,by
 have e:Bs (λ_=>false) G=G:=by funext a;simp [Bs]
 rw [e];exact q⟩
theorem vZ{G G1:Gp}{d:D}{Q:DK}(l:dM G G1)(q:Q d G):Im G1 d Q:=⟨_,d,.same d,by rw [AA l];exact q⟩
theorem xx{G G1:Gp}{p:Nat}{o:GO}{Q:DK}(l:dM G G1)(hp:G p=none)(h1:G1 p=@j)(q:Q (@U) (dB G p o)):Im G1 (@U) Q :=
 ⟨_,@U,.same _,by rw [Lx l hp h1];exact q⟩
theorem oq{G G1:Gp}{p:Nat}{ds ss:@f}{Q:DK}(l:dM G G1)(hp:G p=none)(h1:G1 p=@ba)(hs:AS G1 (λa=>(G a).isNone) ds ss)(q:Q (.eA ss) G):Im G1 (@U) Q :=
 ⟨_,.eA ss,.ref h1 (by simp [hp]) hs,by rw [AA l];exact q⟩
theorem HG{G G1:Gp}{p:Nat}{bo:@ay}{Q:DK}(l:dM G G1)(hp:G p=none)(h1:G1 p=some (.kg bo))(q:Q (.mC bo) G):Im G1 (@U) Q :=
 ⟨λa=>(G a).isNone,.mC bo,.kg h1 (by simp [hp]) (.same _),by rw [AA l];exact q⟩
def BP:gH:=λds G Q _=>∃ ns:@G,ds=[.eA (@bj)]/\ns.length<=63/\(∀ a,G a=none)/\∀ G',Q (.bl true) G'
theorem bO{a b:fG}{E:lz}{K:kA}{τ:ie}{G:Gp}(P:ie->@u)(h1:∀ N,(∀ τ G,P τ G->N τ G)->a E { K with nx:=N } τ G)(h2:∀ τ G,P τ G->b E K τ G):bz a b E K τ G:=h1 (b E K) h2
theorem gS:bz a b E K τ G=a E { K with nx:=b E K } τ G:=rfl
theorem cD:bz (bh a g) b E K τ G=bh a g E { K with nx:=b E K } τ G:=rfl
theorem gT:bz (cp a) b E K τ G=cp a E { K with nx:=b E K } τ G:=rfl
theorem Aj{g:AI}{body:fG}{ok:@u}{ds:@f}{E:lz}{K:kA}{τ:ie}{G:Gp}(I:@f->ie->@u)
  (h0:I [] τ G) (du:∀ pre τ G,I pre τ G->ok G)
  (step:∀ (pre:@f) (d:D) (post:@f) τ G (N:ie->@u),ds=pre++d :: post->I pre τ G->(∀ BJ G2,I (pre++[d]) BJ G2->N BJ G2) ->
   g E d τ G λtR G1=>body E { K with nx:=N,ct:=N,bk:=K.nx } tR G1)
  (fin:∀ τ G,I ds τ G->K.nx τ G):t6 g body ok ds E K τ G:=by
 have main:∀ (post pre:@f) τ G,ds=pre++post->I pre τ G->t6 g body ok post E K τ G:=by
  intro post;induction post with
  | nil =>
   intro pre τ G e h;rw [bq] at e;subst e;exact⟨du _ _ _ h,fin _ _ h⟩
  | cons d post ih =>
   intro pre τ G e h;refine⟨du _ _ _ h,?_⟩;exact step pre d post τ G _ e h λBJ G2 h2=>ih (pre++[d]) BJ G2 (by rw [e,bD];rfl) h2
 exact main ds [] τ G rfl h0
theorem Sn.tI:∀ (ns:@G),Sn G (n+1) (.tup (@bj)) (.tup (@bj))
 | []=>.EH
 | i :: ns=>.oC (@Y) (Sn.tI ns)
theorem qh(a b)(r t):kc (a :: r) (b :: t)=(iI a b&&kc r t):=rfl
theorem rX(a b):iI (.int a) (@ab)=(a == b):=rfl
theorem HP(a b):iI (.tup a) (.tup b)=kc a b:=rfl
theorem AB{α:Type} [@ag](a b)(as bs:@v):(decide (a=b)&&decide (as=bs))=decide (a :: as=b :: bs):=by
 by_cases h:a=b <;> by_cases h2:as=bs <;> simp [h,h2]
theorem Cp:∀ (a b:@G),kc (a.map D.int) (b.map D.int)=decide (a=b)
 | [],[]=>(decide_eq_true rfl).symm
 | [],b :: bs=>(decide_eq_false (λz=>nomatch z)).symm
 | a :: as,[]=>(decide_eq_false (λz=>nomatch z)).symm
 | a :: as,b :: bs=>by
  show (decide (a=b)&&kc (as.map D.int) (bs.map D.int))=_;rw [Cp as bs,AB]
theorem VB(a b):iI (tI a) (tI b)=decide (a=b):=by
 show kc _ _=_;exact Cp a b
set_option genInjectivity true in structure T2 where
 a:Int
 b:Int
 deriving DecidableEq
set_option genInjectivity true in structure T3 where
 a:Int
 b:Int
 c:Int
 deriving DecidableEq
class Enc (α:Type) [@ag] where
 enc:α->D
 dep:Nat
 eqv:∀ a b,iI (enc a) (enc b)=decide (a=b)
 sn:∀ (G:Gp) (n:Nat) (a:α),dep<=n->Sn G n (enc a) (enc a)
open Enc (enc)
instance:Enc Int where
 enc:=D.int
 dep:=0
 eqv:=λa b=>rfl
 sn:=λG n a _=>.int a
instance:Enc Bool where
 enc:=D.bl
 dep:=0
 eqv:=λa b=>P0 a b
 sn:=λG n a _=>.bl a
instance:Enc T2 where
 enc:=λt=>.tup [.int t.a,.int t.b]
 dep:=1
 eqv:=λx y=>by
  cases x;cases y;rw [HP,qh,qh,rX,rX];simp only [T2.mk.injEq];rename_i a b c d;by_cases h:a=c <;> by_cases h2:b=d <;> simp [h,h2,show kc [] []=true from rfl]
 sn:=λG n t h=>by
  obtain⟨m,rfl⟩:∃ m,n=m+1:=⟨n - 1,@d⟩;exact .oC (.int _) (.oC (.int _) .EH)
instance:Enc T3 where
 enc:=λt=>.tup [.int t.a,.int t.b,.int t.c]
 dep:=1
 eqv:=λx y=>by
  cases x;cases y;rw [HP,qh,qh,qh,rX,rX,rX];simp only [T3.mk.injEq];rename_i a b e c d f;by_cases h:a=c <;> by_cases h2:b=d <;> by_cases h3:e=f <;> simp [h,h2,h3,show kc [] []=true from rfl]
 sn:=λG n t h=>by
  obtain⟨m,rfl⟩:∃ m,n=m+1:=⟨n - 1,@d⟩;exact .oC (.int _) (.oC (.int _) (.oC (.int _) .EH))
instance {α β:Type} [@ag] [DecidableEq β] [Enc α] [Enc β]:Enc (α×β) where
 enc:=λt=>.tup [enc t.1,enc t.2]
 dep:=max (Enc.dep α) (Enc.dep β)+1
 eqv:=λx y=>by
  cases x;cases y;rw [HP,qh,qh,Enc.eqv,Enc.eqv];simp only [GA];rename_i a b c d;by_cases h:a=c <;> by_cases h2:b=d <;> simp [h,h2,show kc [] []=true from rfl]
 sn:=λG n t h=>by
  obtain⟨m,rfl⟩:∃ m,n=m+1:=⟨n - 1,@d⟩;exact .oC (Enc.sn _ _ _ @c) (.oC (Enc.sn _ _ _ @c) .EH)
theorem FD [@ag] [Enc α]:∀ (a b:@v),kc (a.map enc) (b.map enc)=decide (a=b)
 | [],[]=>(decide_eq_true rfl).symm
 | [],b :: bs=>(decide_eq_false (λz=>nomatch z)).symm
 | a :: as,[]=>(decide_eq_false (λz=>nomatch z)).symm
 | a :: as,b :: bs=>by
  show (iI (enc a) (enc b)&&kc (as.map enc) (bs.map enc))=_;rw [Enc.eqv,FD as bs,AB]
theorem xf [@ag] [Enc α](G)(n)(h:Enc.dep α<=n):∀ (xs:@v),Sn G (n+1) (.eA (@bi)) (.eA (@bi))
 | []=>.M6
 | a :: as=>.EV (Enc.sn _ _ _ h) (xf G n h as)
instance {α:Type} [@ag] [Enc α]:Enc (@v) where
 enc:=λxs=>.eA (@bi)
 dep:=Enc.dep α+1
 eqv:=λa b=>by
  show kc _ _=_;exact FD a b
 sn:=λG n t h=>by
  obtain⟨m,rfl⟩:∃ m,n=m+1:=⟨n - 1,@d⟩;exact xf G m @c t
section
variable {α:Type} [@ag] [Enc α]
theorem D4(L:@v)(t):(L.map enc).any (iI · (enc t))=decide (t∈L):=by
 induction L with
 | nil=>simp
 | cons a r ih =>
  simp only [az,oy,Enc.eqv,ih,cg];by_cases h:a=t
  .simp [h]
  .have h':¬ t=a:=λz=>h z.symm;by_cases h2:t∈r <;> simp [h,h',h2]
end
section
variable {κ α:Type} [@bk] [Enc κ] [@ag] [Enc α]
def dh(l:List (κ×α)):@ay:=l.map λp=>(enc p.1,enc p.2)
def fm(l:List (κ×α))(k:κ):Option α:=(l.find? λp=>p.1=k).map (·.2)
def ic(l:List (κ×α))(k:κ)(v:α):List (κ×α):=if (l.any λp=>p.1=k)=true then l.map (λp=>if p.1=k then (p.1,v) else p) else l++[(k,v)]
theorem Fj(l:List (κ×α))(k):look (dh l) (enc k)=(fm l k).map enc:=by
 unfold look fm dh;induction l with
 | nil=>rfl
 | cons p r ih =>
  rw [az,eg,eg];simp only [Enc.eqv];by_cases h:p.1=k
  .simp [h]
  .simp only [h,decide_false];exact ih
theorem Q7(l)(k:κ)(v:α):put (dh l) (enc k) (enc v)=dh (ic l k v):=by
 unfold put ic;have e:((dh l).any λp=>iI p.1 (enc k))=l.any λp=>decide (p.1=k):=by
  unfold dh;rw [List.any_map];congr 1;funext p;exact Enc.eqv _ _
 rw [e];split
 .unfold dh;rw [cI,cI];refine pD λp _=>?_;simp only [Function.comp,Enc.eqv,decide_eq_true_eq];split <;> rfl
 .unfold dh;rw [aI];rfl
theorem kN(l)(k j:κ)(v:α):fm (ic l k v) j=if k=j then @S else fm l j:=by
 unfold ic;split
 .rename_i h;unfold fm;induction l with
  | nil=>simp at h
  | cons p r ih =>
   rw [az,eg,eg];by_cases h1:p.1=k
   .rw [if_pos h1];by_cases h2:k=j
    .simp [h1,h2]
    .have:¬ p.1=j:=λz=>h2 (h1.symm.trans z);simp only [this,decide_false,h2,if_false];by_cases h3:(r.any λp=>decide (p.1=k))=true
     .have:=ih h3;rw [if_neg h2] at this;exact this
     .congr 1;have:r.map (λp=>if p.1=k then (p.1,v) else p)=r:=by
       conv=>rhs;rw [<-List.map_id r]
       refine pD λq hq=>?_;rw [if_neg];rfl;intro z;exact h3 (List.any_eq_true.mpr ⟨q,hq,by simpa using z⟩)
      rw [this]
   .rw [if_neg h1];have h3:(r.any λp=>decide (p.1=k))=true:=by simpa [h1] using h
    by_cases h2:p.1=j
    .have:¬ k=j:=λz=>h1 (h2.trans z.symm);simp [h2,this]
    .simp only [h2,decide_false];exact ih h3
 .rename_i h;unfold fm;rw [sF];by_cases h2:k=j
  .subst h2;have:l.find? (λp=>decide (p.1=k))=none:=by
    rw [qJ];intro p hp z;exact h (List.any_eq_true.mpr ⟨p,hp,z⟩)
   rw [this];simp
  .simp [h2]
theorem sd(l)(k:κ)(v:α):(ic l k v).length<=l.length+1:=by
 unfold ic;split <;> simp
end
class qr (κ:Type) [@bk] [Enc κ] where
 ok:(∀ k:κ,fw (enc k)=true)\/∀ k:κ,uC (enc k)=true
instance:qr Int:=⟨.inl λ_=>rfl⟩
instance:qr T2:=⟨.inr λ_=>rfl⟩
instance:qr T3:=⟨.inr λ_=>rfl⟩
theorem uB [@bk] [Enc κ] [qr κ] [@ag] [Enc α](l:List (κ×α))(k:κ):iH (dh l) (enc k)=true:=by
 unfold iH dh;rcases qr.ok (κ:=κ) with h | h
 .rw [fS];left;rw [h k,ly,wW,iS];intro p _;exact h p.1
 .rw [fS];right;rw [h k,ly,wW,iS];intro p _;exact h p.1
end K2
end
section
namespace K2
open PySem (Str)
open Enc (enc)
mutual
def pG:D->D->Bool
 | .int a,.int b=>decide (a < b)
 | .tup a,.tup b=>kL a b
 | .eA a,.eA b=>kL a b
 | _,_=>false
def kL:@f->@f->Bool
 | [],[]=>false
 | [],_ :: _=>true
 | _ :: _,[]=>false
 | x :: xs,y :: ys=>if iI x y=true then kL xs ys else pG x y
end
theorem mL(x y)(xs ys):kL (x :: xs) (y :: ys)=if iI x y=true then kL xs ys else pG x y:=rfl
theorem Jm(a b):pG (.int a) (@ab)=decide (a < b):=rfl
inductive kO where
 | int | tup (l:List kO) | lst (s:kO)
mutual
def da:kO->D->Bool
 | .int,.int _=>true
 | .tup l,.tup ds=>ff l ds
 | .lst s,.eA ds=>gU s ds
 | _,_=>false
def ff:List kO->@f->Bool
 | [],[]=>true
 | s :: l,d :: ds=>da s d&&ff l ds
 | _,_=>false
def gU:kO->@f->Bool
 | _,[]=>true
 | s,d :: ds=>da s d&&gU s ds
end
theorem dQ(h:da .int a=true):∃ i,a=@Y:=by cases a <;> first | exact⟨_,rfl⟩ | exact bF (show false=true from h)
theorem dO(h:da (.tup l) a=true):∃ x,a=.tup x:=by cases a <;> first | exact⟨_,rfl⟩ | exact bF (show false=true from h)
theorem dP(h:da (.lst l) a=true):∃ x,a=.eA x:=by cases a <;> first | exact⟨_,rfl⟩ | exact bF (show false=true from h)
mutual
def Tc:kO->Nat
 | .int=>0
 | .tup l=>Lw l+1
 | .lst s=>Tc s+1
def Lw:List kO->Nat
 | []=>0
 | s :: l=>max (Tc s) (Lw l)
end
def W6(sh:kO):Bool:=decide (Tc sh<=7)&&(match sh with
 | .tup []=>false
 | _=>true)
def P7(a b:D):Bool:=!pG b a
def qy(ds:@f):@f:=ds.mergeSort P7
class b6 (α:Type) [@ag] [Enc α] where
 lt:α->α->Bool
 Be:kO
 Lm:∀ a:α,da Be (enc a)=true
 Wf:∀ a b:α,pG (enc a) (enc b)=lt a b
 P9:∀ a,lt a a=false
 trans:∀ a b c,lt a b=true->lt b c=true->lt a c=true
 QF:∀ a b,lt a b=false->lt b a=false->a=b
instance:b6 Int where
 lt:=λa b=>decide (a < b)
 Be:=.int
 Lm:=λ_=>rfl
 Wf:=λa b=>rfl
 P9:=λa=>@ad
 trans:=λa b c h1 h2=>by simp at *;lia
 QF:=λa b h1 h2=>by simp at *;lia
def vS{α:Type} [@ag](lt:α->α->Bool):@v->@v->Bool
 | [],[]=>false
 | [],_ :: _=>true
 | _ :: _,[]=>false
 | x :: xs,y :: ys=>if x=y then vS lt xs ys else lt x y
theorem zZ [@ag](lt)(x y)(xs ys:@v):vS lt (x :: xs) (y :: ys)=if x=y then vS lt xs ys else lt x y:=rfl
section
variable {α:Type} [@ag] {lt:α->α->Bool}
theorem vR:∀ x:@v,vS lt x x=false
 | []=>rfl
 | a :: x=>by simp only [zZ,if_true];exact vR x
theorem vQ(t:∀ a b,lt a b=false->lt b a=false->a=b):∀ (x y:@v),vS lt x y=false->vS lt y x=false->x=y
 | [],[],_,_=>rfl
 | [],_ :: _,h,_=>@aH
 | _ :: _,[],_,h=>@aH
 | a :: x,b :: y,h1,h2=>by
  simp only [zZ] at h1 h2;by_cases e:a=b
  .subst e;simp only [if_true] at h1 h2;rw [vQ t x y h1 h2]
  .rw [if_neg e] at h1;rw [if_neg (cR e)] at h2;exact absurd (t a b h1 h2) e
theorem pY(ir:∀ a,lt a a=false)(tr:∀ a b c,lt a b=true->lt b c=true->lt a c=true):∀ (x y z:@v),vS lt x y=true->vS lt y z=true->vS lt x z=true
 | [],[],_,h,_=>@aH
 | [],_ :: _,[],_,h=>@aH
 | [],_ :: _,_ :: _,_,_=>rfl
 | _ :: _,[],_,h,_=>@aH
 | _ :: _,_ :: _,[],_,h=>@aH
 | a :: x,b :: y,c :: z,h1,h2=>by
  simp only [zZ] at h1 h2 ⊢;by_cases e1:a=b
  .subst e1;simp only [if_true] at h1;by_cases e2:a=c
   .subst e2;simp only [if_true] at h2 ⊢;exact pY ir tr x y z h1 h2
   .rw [if_neg e2] at h2 ⊢;exact h2
  .rw [if_neg e1] at h1;by_cases e2:b=c
   .subst e2;rw [if_neg e1];exact h1
   .rw [if_neg e2] at h2;have h3:=tr _ _ _ h1 h2;rw [if_neg (by ext c;rw [ir] at h3;cases h3)];exact h3
end
theorem vO [@ag] [Enc α] [b6 α]:∀ (x y:@v),kL (x.map enc) (y.map enc)=vS (b6.lt (α:=α)) x y
 | [],[]=>rfl
 | [],_ :: _=>rfl
 | _ :: _,[]=>rfl
 | a :: x,b :: y=>by simp only [az,mL,zZ,Enc.eqv,vO x y,b6.Wf,decide_eq_true_eq]
theorem Cg [@ag] [Enc α] [b6 α]:∀ (x:@v),gU (b6.Be α) (x.map enc)=true
 | []=>rfl
 | a :: x=>by simp only [az,gU,b6.Lm,Cg x,Bool.and_self]
instance {α:Type} [@ag] [Enc α] [b6 α]:b6 (@v) where
 lt:=vS b6.lt
 Be:=.lst (b6.Be α)
 Lm:=λa=>Cg a
 Wf:=λa b=>vO a b
 P9:=vR
 trans:=pY b6.P9 b6.trans
 QF:=vQ b6.QF
def T2.l(t:T2):@G:=[t.a,t.b]
def T3.l(t:T3):@G:=[t.a,t.b,t.c]
instance:b6 T2 where
 lt:=λx y=>vS (λa b=>decide (a < b)) x.l y.l
 Be:=.tup [.int,.int]
 Lm:=λ_=>rfl
 Wf:=λa b=>vO a.l b.l
 P9:=λa=>vR _
 trans:=λa b c=>pY (α:=Int) b6.P9 b6.trans _ _ _
 QF:=λ⟨a,b⟩ ⟨c,d⟩ h1 h2=>by
  have:=vQ (α:=Int) b6.QF _ _ h1 h2;simpa [T2.l] using this
instance:b6 T3 where
 lt:=λx y=>vS (λa b=>decide (a < b)) x.l y.l
 Be:=.tup [.int,.int,.int]
 Lm:=λ_=>rfl
 Wf:=λa b=>vO a.l b.l
 P9:=λa=>vR _
 trans:=λa b c=>pY (α:=Int) b6.P9 b6.trans _ _ _
 QF:=λ⟨a,b,e⟩ ⟨c,d,f⟩ h1 h2=>by
  have:=vQ (α:=Int) b6.QF _ _ h1 h2;simpa [T3.l] using this
section
variable {α:Type} [@ag] [Enc α] [b6 α]
def yD(a b:α):Bool:=!b6.lt b a
def AZ(xs:@v):@v:=xs.mergeSort yD
theorem BR(xs:@v):qy (@bi)=(AZ xs).map enc:=by
 unfold qy AZ;symm;exact List.map_mergeSort λa _ b _=>by unfold yD P7;rw [b6.Wf]
theorem xq(a b c:α)(h1:yD a b=true)(h2:yD b c=true):yD a c=true:=by
 unfold yD at *;simp only [jO] at *;cases h:b6.lt c a with
 | false=>rfl
 | true =>
  by_cases e:a=b
  .subst e;rw [h] at h2;cases h2
  .have Ci:b6.lt a b=true:=by
    cases q:b6.lt a b with
    | true=>rfl
    | false=>exact absurd (b6.QF _ _ q h1) e
   rw [b6.trans _ _ _ h Ci] at h2;cases h2
theorem K6(a b:α):(yD a b||yD b a)=true:=by
 unfold yD;cases h:b6.lt b a with
 | false=>rfl
 | true =>
  cases h2:b6.lt a b with
  | false=>rfl
  | true=>have:=b6.trans _ _ _ h h2;rw [b6.P9] at this;cases this
theorem Fm(a b:α)(h1:yD a b=true)(h2:yD b a=true):a=b:=by
 unfold yD at *;exact b6.QF a b (@bl) (by simpa using h1)
theorem oF(xs:@v):(AZ xs).Perm xs:=List.mergeSort_perm xs yD
theorem pM(xs:@v):(AZ xs).Pairwise λa b=>yD a b=true:=LU xq K6 xs
theorem tS:∀ {xs ys:@v},xs.Perm ys->xs.Pairwise (λa b=>yD a b=true)->ys.Pairwise (λa b=>yD a b=true)->xs=ys:=by
 intro xs ys hp h1 h2;exact Ef (λa b _ _ h h'=>Fm a b h h') h1 h2 hp
theorem TZ{ys:@v}(h:xs.Perm ys)(hs:ys.Pairwise λa b=>yD a b=true):AZ xs=ys:=tS ((oF xs).trans h) (pM xs) hs
theorem IT{x:α}:x∈AZ xs↔x∈xs:=(oF xs).mem_iff
theorem QL(xs:@v):(AZ xs).length=xs.length:=(oF xs).length_eq
theorem BO{xs:@v}(h:xs.Nodup):(AZ xs).Nodup:=(oF xs).nodup_iff.mpr h
end
end K2
end
section
namespace K2
open PySem (Str)
mutual
theorem kM:∀ (sh:kO) (a:D),da sh a=true->iI a a=true
 | .int,.int i,_=>by show (i == i)=true;exact beq_self_eq_true i
 | .tup l,.tup xs,h=>by show kc xs xs=true;exact yj l xs h
 | .lst l,.eA xs,h=>by show kc xs xs=true;exact yk l xs h
theorem yj:∀ (l:List kO) (xs:@f),ff l xs=true->kc xs xs=true
 | [],[],_=>rfl
 | s :: l,x :: xs,h=>by
  have h:(da s x&&ff l xs)=true:=h;rw [aR] at h;show (iI x x&&kc xs xs)=true;rw [kM s x h.1,yj l xs h.2];rfl
theorem yk:∀ (s:kO) (xs:@f),gU s xs=true->kc xs xs=true
 | _,[],_=>rfl
 | s,x :: xs,h=>by
  have h:(da s x&&gU s xs)=true:=h;rw [aR] at h;show (iI x x&&kc xs xs)=true;rw [kM s x h.1,yk s xs h.2];rfl
end
theorem VA(s)(ih:∀ (a b:D),da s a=true->da s b=true->iI a b=true->a=b):∀ (xs ys:@f),gU s xs=true->gU s ys=true->kc xs ys=true->xs=ys:=by
 intro xs;induction xs with
 | nil=>intro ys _ _ h;cases ys with
  | nil=>rfl
  | cons _ _=>cases h
 | cons x xs Xu =>
  intro ys h1 h2 h;cases ys with
  | nil=>cases h
  | cons y ys =>
   have h1:(da s x&&gU s xs)=true:=h1;have h2:(da s y&&gU s ys)=true:=h2;have h:(iI x y&&kc xs ys)=true:=h;rw [aR] at h1 h2 h;rw [ih x y h1.1 h2.1 h.1,Xu ys h1.2 h2.2 h.2]
mutual
theorem qH:∀ (sh:kO) (a b:D),da sh a=true->da sh b=true->iI a b=true->a=b
 | .int,a,b,h1,h2,h=>by
  ext f
  ext g
  rw [rX] at h;rw [beq_iff_eq.mp h]
 | .tup l,a,b,h1,h2,h=>by
  ext f
  ext g
  rw [O6 l _ _ h1 h2 h]
 | .lst l,a,b,h1,h2,h=>by
  ext f
  ext g
  rw [VA l (qH l) _ _ h1 h2 h]
theorem O6:∀ (l:List kO) (xs ys:@f),ff l xs=true->ff l ys=true->kc xs ys=true->xs=ys
 | [],xs,ys,h1,h2,_=>by
  cases xs with
  | nil=>cases ys with
   | nil=>rfl
   | cons _ _=>cases h2
  | cons _ _=>cases h1
 | s :: l,xs,ys,h1,h2,h=>by
  cases xs with
  | nil=>cases h1
  | cons x xs =>
   cases ys with
   | nil=>cases h2
   | cons y ys =>
    have h1:(da s x&&ff l xs)=true:=h1;have h2:(da s y&&ff l ys)=true:=h2;have h:(iI x y&&kc xs ys)=true:=h;rw [aR] at h1 h2 h;rw [qH s x y h1.1 h2.1 h.1,O6 l xs ys h1.2 h2.2 h.2]
end
theorem N6(s)(ih:∀ (a b:D),da s a=true->da s b=true->pG a b=false->pG b a=false->a=b):∀ (xs ys:@f),gU s xs=true->gU s ys=true->kL xs ys=false->kL ys xs=false->xs=ys:=by
 intro xs;induction xs with
 | nil=>intro ys _ _ h _;cases ys with
  | nil=>rfl
  | cons _ _=>cases h
 | cons x xs Xu =>
  intro ys h1 h2 h3 h4;cases ys with
  | nil=>cases h4
  | cons y ys =>
   have h1:(da s x&&gU s xs)=true:=h1;have h2:(da s y&&gU s ys)=true:=h2;rw [aR] at h1 h2;simp only [mL] at h3 h4;by_cases e:iI x y=true
   .have exy:=qH s x y h1.1 h2.1 e;subst exy;rw [if_pos e] at h3 h4;rw [Xu ys h1.2 h2.2 h3 h4]
   .rw [if_neg e] at h3;by_cases e2:iI y x=true
    .have:=qH s y x h2.1 h1.1 e2;subst this;exact absurd e2 e
    .rw [if_neg e2] at h4;have:=ih x y h1.1 h2.1 h3 h4;subst this;exact absurd (kM s x h1.1) e
mutual
theorem zb:∀ (sh:kO) (a b:D),da sh a=true->da sh b=true->pG a b=false->pG b a=false->a=b
 | .int,a,b,h1,h2,h3,h4=>by
  ext f
  ext g
  simp [Jm] at h3 h4;congr 1;lia
 | .tup l,a,b,h1,h2,h3,h4=>by
  ext f
  ext g
  rw [Fe l _ _ h1 h2 h3 h4]
 | .lst l,a,b,h1,h2,h3,h4=>by
  ext f
  ext g
  rw [N6 l (zb l) _ _ h1 h2 h3 h4]
theorem Fe:∀ (l:List kO) (xs ys:@f),ff l xs=true->ff l ys=true->kL xs ys=false->kL ys xs=false->xs=ys
 | [],xs,ys,h1,h2,_,_=>by
  cases xs with
  | nil=>cases ys with
   | nil=>rfl
   | cons _ _=>cases h2
  | cons _ _=>cases h1
 | s :: l,xs,ys,h1,h2,h3,h4=>by
  cases xs with
  | nil=>cases h1
  | cons x xs =>
   cases ys with
   | nil=>cases h2
   | cons y ys =>
    have h1:(da s x&&ff l xs)=true:=h1;have h2:(da s y&&ff l ys)=true:=h2;rw [aR] at h1 h2;simp only [mL] at h3 h4;by_cases e:iI x y=true
    .have exy:=qH s x y h1.1 h2.1 e;subst exy;rw [if_pos e] at h3 h4;rw [Fe l xs ys h1.2 h2.2 h3 h4]
    .rw [if_neg e] at h3;by_cases e2:iI y x=true
     .have:=qH s y x h2.1 h1.1 e2;subst this;exact absurd e2 e
     .rw [if_neg e2] at h4;have:=zb s x y h1.1 h2.1 h3 h4;subst this;exact absurd (kM s x h1.1) e
end
mutual
theorem Dl:∀ (sh:kO) (a:D),da sh a=true->pG a a=false
 | .int,.int i,_=>by rw [Jm];exact decide_eq_false (Int.lt_irrefl _)
 | .tup l,.tup xs,h=>by show kL xs xs=false;exact Ff l xs h
 | .lst l,.eA xs,h=>by show kL xs xs=false;exact Fg l xs h
theorem Ff:∀ (l:List kO) (xs:@f),ff l xs=true->kL xs xs=false
 | [],[],_=>rfl
 | s :: l,x :: xs,h=>by
  have h:(da s x&&ff l xs)=true:=h;rw [aR] at h;simp only [mL,kM s x h.1,if_true];exact Ff l xs h.2
theorem Fg:∀ (s:kO) (xs:@f),gU s xs=true->kL xs xs=false
 | _,[],_=>rfl
 | s,x :: xs,h=>by
  have h:(da s x&&gU s xs)=true:=h;rw [aR] at h;simp only [mL,kM s x h.1,if_true];exact Fg s xs h.2
end
theorem Hr(s)(ih:∀ (a b c:D),da s a=true->da s b=true->da s c=true->pG a b=true->pG b c=true->pG a c=true):∀ (xs ys zs:@f),gU s xs=true->gU s ys=true->gU s zs=true->kL xs ys=true->kL ys zs=true->kL xs zs=true:=by
 intro xs;induction xs with
 | nil =>
  intro ys zs _ _ _ h4 h5;cases ys with
  | nil=>cases h4
  | cons _ _=>cases zs with
   | nil=>cases h5
   | cons _ _=>rfl
 | cons x xs Xu =>
  intro ys zs h1 h2 h3 h4 h5;cases ys with
  | nil=>cases h4
  | cons y ys =>
   cases zs with
   | nil=>cases h5
   | cons z zs =>
    have h1:(da s x&&gU s xs)=true:=h1;have h2:(da s y&&gU s ys)=true:=h2;have h3:(da s z&&gU s zs)=true:=h3;rw [aR] at h1 h2 h3;simp only [mL] at h4 h5 ⊢;by_cases e1:iI x y=true
    .have:=qH s x y h1.1 h2.1 e1;subst this;rw [if_pos e1] at h4;by_cases e2:iI x z=true
     .rw [if_pos e2] at h5 ⊢;exact Xu ys zs h1.2 h2.2 h3.2 h4 h5
     .rw [if_neg e2] at h5 ⊢;exact h5
    .rw [if_neg e1] at h4;by_cases e2:iI y z=true
     .have:=qH s y z h2.1 h3.1 e2;subst this;rw [if_neg e1];exact h4
     .rw [if_neg e2] at h5;have h6:=ih x y z h1.1 h2.1 h3.1 h4 h5;rw [if_neg (λe3=>by
       have:=qH s x z h1.1 h3.1 e3;subst this;rw [Dl s x h1.1] at h6;cases h6)]
      exact h6
mutual
theorem sP:∀ (sh:kO) (a b c:D),da sh a=true->da sh b=true->da sh c=true->pG a b=true->pG b c=true->pG a c=true
 | .int,a,b,c,h1,h2,h3,h4,h5=>by
  ext f
  ext g
  first | obtain⟨_,rfl⟩:=dQ h3 | obtain⟨_,rfl⟩:=dO h3 | obtain⟨_,rfl⟩:=dP h3
  simp [Jm] at *;lia
 | .tup l,a,b,c,h1,h2,h3,h4,h5=>by
  ext f
  ext g
  first | obtain⟨_,rfl⟩:=dQ h3 | obtain⟨_,rfl⟩:=dO h3 | obtain⟨_,rfl⟩:=dP h3
  exact zU l _ _ _ h1 h2 h3 h4 h5
 | .lst l,a,b,c,h1,h2,h3,h4,h5=>by
  ext f
  ext g
  first | obtain⟨_,rfl⟩:=dQ h3 | obtain⟨_,rfl⟩:=dO h3 | obtain⟨_,rfl⟩:=dP h3
  exact Hr l (sP l) _ _ _ h1 h2 h3 h4 h5
theorem zU:∀ (l:List kO) (xs ys zs:@f),ff l xs=true->ff l ys=true->ff l zs=true->kL xs ys=true->kL ys zs=true->kL xs zs=true
 | [],xs,ys,zs,h1,h2,_,h,_=>by
  cases xs with
  | nil=>cases ys with
   | nil=>cases h
   | cons _ _=>cases h2
  | cons _ _=>cases h1
 | s :: l,xs,ys,zs,h1,h2,h3,h4,h5=>by
  cases xs with
  | nil=>cases h1
  | cons x xs =>
   cases ys with
   | nil=>cases h2
   | cons y ys =>
    cases zs with
    | nil=>cases h3
    | cons z zs =>
     have h1:(da s x&&ff l xs)=true:=h1;have h2:(da s y&&ff l ys)=true:=h2;have h3:(da s z&&ff l zs)=true:=h3;rw [aR] at h1 h2 h3;simp only [mL] at h4 h5 ⊢;by_cases e1:iI x y=true
     .have:=qH s x y h1.1 h2.1 e1;subst this;rw [if_pos e1] at h4;by_cases e2:iI x z=true
      .rw [if_pos e2] at h5 ⊢;exact zU l xs ys zs h1.2 h2.2 h3.2 h4 h5
      .rw [if_neg e2] at h5 ⊢;exact h5
     .rw [if_neg e1] at h4;by_cases e2:iI y z=true
      .have:=qH s y z h2.1 h3.1 e2;subst this;rw [if_neg e1];exact h4
      .rw [if_neg e2] at h5;have h6:=sP s x y z h1.1 h2.1 h3.1 h4 h5;rw [if_neg (λe3=>by
        have:=qH s x z h1.1 h3.1 e3;subst this;rw [Dl s x h1.1] at h6;cases h6)]
       exact h6
end
theorem xn(sh)(h1:da sh a=true)(h2:da sh b=true)(h:pG a b=true):pG b a=false:=by
 cases q:pG b a with
 | false=>rfl
 | true=>have:=sP sh a b a h1 h2 h1 h q;rw [Dl sh a h1] at this;cases this
theorem uq(sh)(h1:da sh a=true)(h2:da sh b=true)(h3:da sh c=true)(q1:pG b a=false)(q2:pG c b=false):pG c a=false:=by
 cases h:pG c a with
 | false=>rfl
 | true =>
  exfalso;cases q:pG a b with
  | false =>
   have:=zb sh a b h1 h2 q q1;subst this;rw [h] at q2;cases q2
  | true=>rw [sP sh c a b h3 h1 h2 h q] at q2;cases q2
theorem vc(sh)(hx:∀ x∈xs,da sh x=true)(hp:ys.Perm xs)(hs:ys.Pairwise λa b=>pG b a=false):qy xs=ys:=by
 have hy:∀ y∈ys,da sh y=true:=λy h=>hx y (hp.mem_iff.mp h);have p1:(qy xs).Perm xs:=List.mergeSort_perm xs P7;have hz:∀ z∈qy xs,da sh z=true:=λz h=>hx z (p1.mem_iff.mp h);have s1:(qy xs).Pairwise λa b=>pG b a=false:=by
  let WD:List { d:D // da sh d=true }:=xs.attach.map λx=>⟨x.1,hx x.1 x.2⟩
  have ex:xs=WD.map @t:=by
   simp only [WD,cI]
   conv=>lhs;rw [<-List.attach_map_subtype_val xs]
   rfl
  have e2:qy xs=(WD.mergeSort λa b=>P7 a.1 b.1).map @t:=by
   unfold qy;rw [ex];exact(List.map_mergeSort (r:=λ(a b:{ d:D // da sh d=true })=>P7 a.1 b.1) (s:=P7) (f:=λx=>x.1) (l:=WD) λa _ b _=>rfl).symm
  rw [e2,cL]
  have:=LU (le:=λ(a b:{ d:D // da sh d=true })=>P7 a.1 b.1) (λa b c h1 h2=>by
   unfold P7 at *;simp only [jO] at *;exact uq sh a.2 b.2 c.2 h1 h2) (λa b=>by
   unfold P7;cases q:pG b.1 a.1 with
   | false=>rfl
   | true=>rw [xn sh b.2 a.2 q];rfl) WD
  exact this.imp λh=>by unfold P7 at h;simpa using h
 refine Ef (le:=λa b=>pG b a=false) (λa b ha hb h h'=>?_) s1 hs (p1.trans hp.symm);exact zb sh a b (hz a ha) (hy b hb) h' h
end K2
end
section
namespace K2
open PySem (Str)
open Enc (enc)
def aaw(P:D->D->@u):@f->@u
 | [x,y],G=>P x y G
 | _,_=>False
def tE:@f->@f->@f
 | x :: xs,y :: ys=>.tup [x,y] :: tE xs ys
 | _,_=>[]
theorem EB:∀ (xs ys:@f) (i:Nat),(tE xs ys)[i]?=(xs[i]?).bind λx=>(ys[i]?).map λy=>D.tup [x,y]
 | [],ys,i=>by simp [tE]
 | x :: xs,[],i=>by cases h:(x :: xs)[i]? <;> simp [tE]
 | x :: xs,y :: ys,0=>by simp [tE]
 | x :: xs,y :: ys,i+1=>by rw [tE,ae,EB xs ys i,ae,ae]
theorem EA:∀ (xs ys:@f),(tE xs ys).length=min xs.length ys.length
 | [],ys=>by simp [tE]
 | x :: xs,[]=>by simp [tE]
 | x :: xs,y :: ys=>by rw [tE,af,EA xs ys,af,af];lia
def zW(x:D)(G:Gp):Option (@f×(@u)):=match x with
 | .eA ds=>some (ds,λ_=>True)
 | .ref p=>(match G p with
  | some (.lst ds)=>some (ds,λG2=>G2 p=@ba)
  | _=>none)
 | _=>none
def Af(x y:D)(G1:Gp)(R:@f->(@u)->@u):Prop:=match zW x G1,zW y G1 with
 | some (xs,k1),some (ys,k2)=>R (tE xs ys) (λG2=>k1 G2/\k2 G2) G1
 | _,_=>False
def Oy(a b:gG):PC:=λE τ G R=>a E τ G λx G1=>b E τ G1 λy G2=>Af x y G2 R
def IsL(G:Gp)(d:D)(ds:@f):Prop:=d=.eA ds\/∃ a,d=.ref a/\G a=@ba
theorem IsL.eA:IsL G (.eA ds) ds:=.inl rfl
theorem IsL.enc [@ag] [Enc α](xs:@v):IsL G (enc xs) (@bi):=.inl rfl
theorem IsL.ref{G:Gp}{a:Nat}{ds:@f}(h:G a=@ba):IsL G @Q ds:=.inr ⟨a,rfl,h⟩
theorem IsL.mono(h:IsL G d ds)(l:@E):IsL G' d ds:=by
 rcases h with h | ⟨a,h,e⟩
 .exact .inl h
 .exact .inr ⟨a,h,l a _ e⟩
theorem Vi{G:Gp}{d:D}{ds:@f}{R:@f->(@u)->@u}(h:IsL G d ds)(k:∀ ok:@u,(∀ G',@E->ok G')->R ds ok G):Le d G R:=by
 rcases h with rfl | ⟨a,rfl,e⟩
 .exact k _ λ_ _=>trivial
 .rw [Jz e];exact k _ λG' l=>l a _ e
theorem R3 {G:Gp} {d:D} {ds:@f} {C:String} {Q:DK} (h:IsL G d ds) (k:Q (.bl (C == "list")) G):isAt C d G Q:=by
 rcases h with rfl | ⟨a,rfl,e⟩
 .exact k
 .rw [Oq e];exact k
theorem MF{G:Gp}{d:D}{ds:@f}{Q:Bool->@u}(h:IsL G d ds)(k:Q (!ds.isEmpty) G):qx d G Q:=by
 rcases h with rfl | ⟨a,rfl,e⟩
 .exact k
 .rw [Kg e];exact k
theorem Ab(h:IsL G d ds):itemsOf d G=some ds:=by
 rcases h with rfl | ⟨a,rfl,e⟩
 .rfl
 .unfold itemsOf;simp only [e]
theorem TG(h:IsL G d ds):qN d G:=by
 rcases h with rfl | ⟨a,rfl,e⟩
 .trivial
 .unfold qN;simp only [e]
theorem C7(h:IsL G d ds)(k:iQ G (.lst (cut ds lo hi)) Q):QY d lo hi G Q:=by
 rcases h with rfl | ⟨a,rfl,e⟩
 .exact k
 .rw [QX e];exact k
theorem h8{G:Gp}{d:D}{ds:@f}{Q:DK}(h:IsL G d ds)(k:Q (.int (ds.length:Int)) G):gV [d] G Q:=by
 rcases h with rfl | ⟨a,rfl,e⟩
 .exact k
 .rw [Pq e];exact k
theorem wx(h:IsL G d ds)(k:iQ G (.lst ds) Q):nS [d] G Q:=by
 unfold nS;simp only [Ab h];exact k
theorem fh{G:Gp}{d x:D}{ds:@f}{i:Int}{Q:DK}(h:IsL G d ds)(e:oz ds i=some x)(k:Q x G):eB d (@Y) G Q:=by
 rcases h with rfl | ⟨a,rfl,e2⟩
 .rw [Q0 e];exact k
 .rw [C9 e2 e];exact k
theorem oT(h:IsL G d ds):oU d G=some ds:=by
 rcases h with rfl | ⟨a,rfl,e⟩
 .rfl
 .unfold oU;simp only [e]
theorem So(h:IsL G d ds)(h':IsL G e es)(hz:ds.length+es.length<=SZ)(k:iQ G (.lst (ds++es)) Q):D5 d e G Q:=by
 unfold D5;simp only [oT h,oT h'];exact⟨hz,k⟩
theorem pT(h:IsL G d ds)(h':IsL G e es)(hz:ds.length+es.length<=SZ)(k:iQ G (.lst (ds++es)) Q):jS d e G Q:=by
 have:=So h h' hz k;rcases h with rfl | ⟨a,rfl,_⟩
 .rw [mG];exact this
 .rw [j9];exact this
theorem FK(xs:@v)(i)(h:i<=xs.length):cut xs (some (i:Int)) none=xs.drop i:=by
 unfold cut jF;simp only;rw [if_neg @c,b0,w9 h];exact lO (by rw [cf];lia)
theorem Ph(xs:@v)(i)(h:i<=xs.length):cut xs none (some (i:Int))=xs.take i:=by
 unfold cut jF;simp only;rw [if_neg @c,b0,w9 h];simp
theorem sZ(f:α->β)(xs)(lo hi):cut (xs.map f) lo hi=(cut xs lo hi).map f:=by
 unfold cut;rw [ai,LV,LW]
theorem gF(xs:@v){k:Int}(h0:0<=k)(h1:k < xs.length):oz xs k=some (xs[k.toNat]'(@d)):=by
 unfold oz L8;rw [if_pos h0,if_pos h1];show xs[k.toNat]?=_;exact aB @c
theorem pP(h:dN 0 n=pre++d :: post):d=.int (pre.length:Int)/\pre.length < n:=by
 have hl:pre.length < n:=by
  have:=congrArg bS h;simp [dN] at this;lia
 have:=congrArg (λl=>l[pre.length]?) h;simp only [dN,bP,yV hl] at this;rw [bb @T] at this;simp at this;exact⟨this.symm,hl⟩
def T4 [@ag] [Enc α] [DecidableEq β] [Enc β](pre:α->Prop)(f:α->β):gH:=λds G Q _=>∃ a:α,ds=[enc a]/\pre a/\Q (enc (f a)) G
def aaa [@ag] [Enc α] [DecidableEq β] [Enc β] [DecidableEq γ] [Enc γ](pre:α->β->Prop)(f:α->β->γ):gH:=λds G Q _=>∃ (a:α) (b:β),ds=[enc a,enc b]/\pre a b/\Q (enc (f a b)) G
def QZ:Ep
 | .int i,.int j,G,Q=>(0<=j/\j<=1000000/\i.natAbs < 2 ^ 64)/\Q (.int (i ^ j.toNat)) G
 | _,_,_,_=>False
theorem Nd:QZ (@Y) (.int j) G Q=((0<=j/\j<=1000000/\i.natAbs < 2 ^ 64)/\Q (.int (i ^ j.toNat)) G):=rfl
def Ju(bo:@ay):Bool:=bo.all λp=>fw p.1
section
variable {κ α:Type} [@bk] [Enc κ] [@ag] [Enc α] {l:List (κ×α)} {G G':Gp} {d:D}
def IsR(_:Gp)(d:D)(l:List (κ×α)):Prop:=d=.mC (dh l)
end
abbrev TF2:=lz->ie->Gp->(@D->@u)->Prop
def FQ(ds:@f)(G:Gp)(Q:DK):Prop:=match ds with
 | [x]=>∃ ns:@G,qN x G/\itemsOf x G=some (@bj)/\(ns.length<=1000/\∀ n∈ns,-1000<=n/\n<=1000)/\Q (.int ns.sum) G
 | _=>False
end K2
end
section
namespace K2
open PySem (Str)
def B4(x:D)(ds:@f)(G:Gp)(Q:DK):Prop:=match x,ds with
 | .ref a,[k,d]=>∃ bo,G a=some (.kg bo)/\iH bo k=true/\Q ((look bo k).getD d) G
 | _,_=>False
theorem NW{κ α:Type} [@bk] [Enc κ] [qr κ] [@ag] [Enc α]{a:Nat}{l:List (κ×α)}{k:κ}{e:α}{G:Gp}{Q:DK}(h:G a=some (.kg (dh l)))(q:Q (Enc.enc ((fm l k).getD e)) G):B4 @Q [Enc.enc k,Enc.enc e] G Q:=by
 refine⟨_,h,uB _ _,?_⟩;have:(look (dh l) (Enc.enc k)).getD (Enc.enc e)=Enc.enc ((fm l k).getD e):=by
  rw [Fj];cases fm l k <;> rfl
 rw [this];exact q
end K2
end
section
namespace K2
open PySem (Str)
open Enc (enc)
def h2(t:T2):Int:=PySem.reduceHash (PySem.Builtin.Tuple.tupleHashOf [PySem.hashInt t.a,PySem.hashInt t.b])
end K2
end
section
namespace K2
open Enc (enc)
def gx(ds:@f)(G:Gp)(Q:DK):Prop:=match ds with
 | [.mC bo]=>∃ ns:@G,bo.map @t=@bj/\ns.length < 64/\iQ G (.lst ((AZ ns).map enc)) Q
 | _=>False
end K2
end
section
namespace K2
open PySem (Str)
def PA(al:@D)(f:Str)(x:D)(G:Gp)(Q:DK):Prop:=∃ a c fs d,x=.ref a/\G a=some (.ins c fs)/\c∈al/\fs.lookup f=some d/\Q d G
def gr(al:@D)(f:Str)(te:gG):gG:=λE τ G Q=>te E τ G λx G1=>PA al f x G1 Q
end K2
namespace K2
open PySem (Str)
def putD(f:Str)(d:D):List (Str×D)->List (Str×D)
 | []=>[(f,d)]
 | (g,x) :: r=>if g=f then (g,d) :: r else (g,x) :: putD f d r
def ja(al:@D)(f:Str)(to tv:gG):fG:=λE K τ G=>tv E τ G λd G1=>to E τ G1 λx G2=>∃ a c fs,x=.ref a/\G2 a=some (.ins c fs)/\c∈al/\fs.length < 1000/\K.nx τ (dB G2 a (.ins c (putD f d fs)))
def nR(c:Str)(sp:gH)(t:zh):gG:=λE τ G Q=>t E τ G λds G1=>∀ p,G1 p=none->sp (@U :: ds) (dB G1 p (.ins c [])) (λv G2=>v=.dj/\Q (@U) G2) @w
end K2
namespace K2
open PySem (Str)
def mV(ms:List (Str×gH))(m:Str)(to:gG)(t:zh):gG:=λE τ G Q=>to E τ G λx G1=>∃ a c fs sp,x=.ref a/\G1 a=some (.ins c fs)/\(c,sp)∈ms/\fs.lookup m=none/\t E τ G1 λds G2=>sp (x :: ds) G2 Q @w
end K2
end
local macro_rules | `(tactic| simp! $[[$a,*]]? $[$l:location]?)=>match a with | some a=>`(tactic| simp only [↓aa,↓ae,↓ah,↓ao,↓av,↓af,↓az,↓aP,↓aE,↓aJ,↓K2.bM,↓K2.bU,↓K2.cD,↓K2.aM,↓aj,↓if_false,↓if_true,↓K2.ez,↓K2.b8,↓aY,↓a8,↓K2.eX,↓K2.cF,↓K2.fO,↓K2.gT,↓K2.fc,↓K2.iO,↓K2.iz,↓K2.dg,↓K2.gk,↓K2.lX,↓K2.e8,↓K2.k9,↓K2.j8,↓K2.ju,↓K2.lg,↓true_and,↓K2.kU,↓K2.qj,↓K2.j9,↓K2.pR,↓K2.pS,↓K2.kX,↓K2.pQ,↓K2.sI,↓K2.sR,↓K2.cA,↓K2.aT,↓K2.ends,↓K2.aN,↓K2.Bt,↓K2.ak,↓K2.fC,↓K2.kh,↓K2.ag,↓K2.aH,↓K2.bE,↓K2.FH,↓K2.cp,↓K2.bh,↓K2.aG,↓K2.dC,↓K2.bH,↓K2.cy,↓K2.dc,↓K2.uH,↓K2.wo,↓K2.uO,↓K2.iJ,↓K2.pq,↓K2.yM,↓K2.eF,↓K2.aZ,↓K2.dS,↓K2.rL,↓K2.mG,↓K2.vI,↓K2.vJ,↓K2.vH,↓K2.lb,↓K2.pA,↓K2.jP,↓K2.iP,↓K2.iw,↓K2.u3,↓K2.uZ,↓and_true,↓K2.sQ,↓K2.mN,↓K2.vV,↓K2.k6,↓aX,$a,*] $[$l:location]?) | none=>`(tactic| simp only [↓aa,↓ae,↓ah,↓ao,↓av,↓af,↓az,↓aP,↓aE,↓aJ,↓K2.bM,↓K2.bU,↓K2.cD,↓K2.aM,↓aj,↓if_false,↓if_true,↓K2.ez,↓K2.b8,↓aY,↓a8,↓K2.eX,↓K2.cF,↓K2.fO,↓K2.gT,↓K2.fc,↓K2.iO,↓K2.iz,↓K2.dg,↓K2.gk,↓K2.lX,↓K2.e8,↓K2.k9,↓K2.j8,↓K2.ju,↓K2.lg,↓true_and,↓K2.kU,↓K2.qj,↓K2.j9,↓K2.pR,↓K2.pS,↓K2.kX,↓K2.pQ,↓K2.sI,↓K2.sR,↓K2.cA,↓K2.aT,↓K2.ends,↓K2.aN,↓K2.Bt,↓K2.ak,↓K2.fC,↓K2.kh,↓K2.ag,↓K2.aH,↓K2.bE,↓K2.FH,↓K2.cp,↓K2.bh,↓K2.aG,↓K2.dC,↓K2.bH,↓K2.cy,↓K2.dc,↓K2.uH,↓K2.wo,↓K2.uO,↓K2.iJ,↓K2.pq,↓K2.yM,↓K2.eF,↓K2.aZ,↓K2.dS,↓K2.rL,↓K2.mG,↓K2.vI,↓K2.vJ,↓K2.vH,↓K2.lb,↓K2.pA,↓K2.jP,↓K2.iP,↓K2.iw,↓K2.u3,↓K2.uZ,↓and_true,↓K2.sQ,↓K2.mN,↓K2.vV,↓K2.k6,↓aX] $[$l:location]?)
section
namespace K2
open PySem (Str)
def Lq(t:AH):AI:=λE d τ G Q=>match oU d G with
 | some ds=>t E ds τ G Q
 | none=>False
def only(a:Nat)(o:GO):Gp:=λb=>if b=a then @j else none
def oj(ws:List (Str×List kO))(d:D):Bool:=match d with
 | .tup (.str w :: ds)=>(match ws.lookup w with
  | some l=>ff l ds
  | none=>false)
 | _=>false
def Qy(a b:Str):Bool:=decide (a.cps.toList < b.cps.toList)
def Dk(a b:D):Bool:=match a,b with
 | .tup (.str w :: xs),.tup (.str v :: ys)=>if w=v then kL xs ys else Qy w v
 | _,_=>false
def aay(ws:List (Str×List kO)):Bool:=ws.all λp=>decide (Lw p.2<=6)&&p.1.cps.all λx=>decide (x < 1114112)
def mW(ws:List (Str×List kO))(ds:@f)(G:Gp)(Q:DK):Prop:=match ds with
 | [x]=>∃ xs,qN x G/\itemsOf x G=some xs/\(xs.all (oj ws)=true/\aay ws=true/\xs.length < 64)/\∀ ys,ys.Perm xs->(ys.Pairwise λa b=>Dk b a=false)->iQ G (.lst ys) Q
 | _=>False
theorem lZ(h:oj ws d=true):∃ w l ds,d=.tup (.str w :: ds)/\ws.lookup w=some l/\ff l ds=true:=by
 unfold oj at h;split at h
 .rename_i w ds;cases q:ws.lookup w with
  | none=>rw [q] at h;cases h
  | some l=>rw [q] at h;exact⟨w,l,ds,rfl,q,h⟩
 .cases h
theorem kK:Dk (.tup (.str w :: xs)) (.tup (.str v :: ys))=if w=v then kL xs ys else Qy w v:=rfl
theorem Kb(h:Qy a b=true):Qy b a=false:=by
 have h:a.cps.toList < b.cps.toList:=of_decide_eq_true h;exact decide_eq_false λz=>List.lt_irrefl _ (List.lt_trans h z)
theorem GF(h1:Qy b a=false)(h2:Qy c b=false):Qy c a=false:=by
 have h1:=of_decide_eq_false h1;have h2:=of_decide_eq_false h2;exact decide_eq_false λz=>by
  have:=List.le_trans (List.not_lt.mp h1) (List.not_lt.mp h2);exact List.not_lt.mpr this z
theorem Qx(h1:Qy a b=false)(h2:Qy b a=false):a=b:=by
 have h1:=of_decide_eq_false h1;have h2:=of_decide_eq_false h2;have e:=List.le_antisymm (List.not_lt.mp h2) (List.not_lt.mp h1);cases a;cases b;congr 1;exact Array.toList_inj.mp e
theorem B5(h1:oj ws a=true)(h2:oj ws b=true)(h:Dk a b=true):Dk b a=false:=by
 obtain⟨w,l,xs,rfl,e1,s1⟩:=lZ h1;obtain⟨v,l',ys,rfl,e2,s2⟩:=lZ h2;rw [kK] at h ⊢;by_cases e:w=v
 .subst e;rw [e1] at e2;cases e2;rw [if_pos rfl] at h ⊢;exact xn (.tup l) (a:=.tup xs) (b:=.tup ys) s1 s2 h
 .rw [if_neg e] at h;rw [if_neg (cR e)];exact Kb h
theorem Hq(h1:oj ws a=true)(h2:oj ws b=true)(h3:oj ws c=true)(q1:Dk b a=false)(q2:Dk c b=false):Dk c a=false:=by
 obtain⟨w,l,xs,rfl,e1,s1⟩:=lZ h1;obtain⟨v,l',ys,rfl,e2,s2⟩:=lZ h2;obtain⟨u,l2,zs,rfl,e3,s3⟩:=lZ h3;rw [kK] at q1 q2 ⊢;by_cases wv:v=w
 .subst wv;rw [e1] at e2;cases e2;rw [if_pos rfl] at q1;by_cases uv:u=v
  .subst uv;rw [e1] at e3;cases e3;rw [if_pos rfl] at q2 ⊢;exact uq (.tup l) (a:=.tup xs) (b:=.tup ys) (c:=.tup zs) s1 s2 s3 q1 q2
  .rw [if_neg uv] at q2 ⊢;exact q2
 .rw [if_neg wv] at q1;by_cases uv:u=v
  .subst uv;rw [if_neg wv];exact q1
  .rw [if_neg uv] at q2;by_cases uw:u=w
   .subst uw;exact absurd (Qx q1 q2) wv
   .rw [if_neg uw];exact GF q1 q2
end K2
end
section
namespace K2
open Enc (enc)
def pz(ds:@f)(G:Gp)(Q:DK):Prop:=match ds with
 | [x]=>∃ ns:@G,qN x G/\itemsOf x G=some (ns.map enc)/\ns.length < 64/\iQ G (.lst ((AZ ns).map enc)) Q
 | _=>False
theorem FR{xs:@G}(h:IsL G d (@bi))(hl:xs.length < 64)(k:iQ G (.lst ((AZ xs).map enc)) Q):pz [d] G Q:=⟨xs,TG h,Ab h,hl,k⟩
end K2
end
section
namespace K2
def AF(ds:@f)(G:Gp)(Q:DK):Prop:=match ds with
 | [.tup [.int a,.int b]]=>Q (.int (if a < b then b else a)) G
 | _=>False
end K2
namespace K2
open Enc (enc)
def mi(ds:@f)(G:Gp)(Q:DK):Prop:=match ds with
 | [x]=>∃ l:List T2,oU x G=some (l.map enc)/\l.length < 64/\∀ m:List T2,m.Nodup->(∀ y,y∈m↔y∈l)->iQ G (.lst ((AZ m).map enc)) Q
 | _=>False
end K2
end
section
namespace K2.S
open PySem PySem.SetTable
def f5(m i:Nat):Nat:=(i * 5+1) % (m+1)
def P8(m:Nat):Nat->Nat->Nat
 | 0,i=>i
 | k+1,i=>P8 m k (f5 m i)
theorem zc(m):∀ (a b i:Nat),P8 m (a+b) i=P8 m b (P8 m a i)
 | 0,b,i=>by rw [nk];rfl
 | a+1,b,i=>by rw [Qo];exact zc m a b (f5 m i)
def Mk(m:Nat):Prop:=m=7\/m=31\/m=127
def W0(m:Nat):Nat->Nat->@aC
 | 0,_=>[]
 | k+1,i=>i :: W0 m k (f5 m i)
theorem Dh(m):∀ (n i e:Nat),e∈W0 m n i->∃ k,k < n/\P8 m k i=e
 | 0,_,_,h=>@aH
 | n+1,i,e,h=>by
  rcases List.mem_cons.mp h with rfl | h
  .exact⟨0,kQ _,rfl⟩
  .obtain⟨k,hk,q⟩:=Dh m n (f5 m i) e h;exact⟨k+1,Nat.succ_lt_succ hk,q⟩
theorem RG(h:Mk m):(∀ e,e < m+1->e∈W0 m (m+1) 0)/\P8 m (m+1) 0=0:=by
 have key:∀ m,((bZ (m+1)).all λe=>(W0 m (m+1) 0).contains e)=true->P8 m (m+1) 0=0->(∀ e,e < m+1->e∈W0 m (m+1) 0)/\P8 m (m+1) 0=0:=λm h1 h2 =>
  ⟨λe he=>by simpa using (List.all_eq_true.mp h1) e (List.mem_range.mpr he),h2⟩
 rcases h with rfl | rfl | rfl
 .exact key _ (@ao) (@ao)
 .exact key _ (@ao) (@ao)
 .exact key _ (@ao) (@ao)
theorem cover(h:Mk m)(hi:i < m+1)(he:e < m+1):∃ k,k < m+1/\P8 m k i=e:=by
 obtain⟨all,back⟩:=RG h;obtain⟨a,ha,qa⟩:=Dh m _ _ _ (all i hi);obtain⟨b,hb,qb⟩:=Dh m _ _ _ (all e he);by_cases c:a<=b
 .refine⟨b - a,@d,?_⟩;rw [<-qa,<-zc,show a+(b - a)=b by lia,qb]
 .refine⟨m+1 - a+b,@d,?_⟩;rw [<-qa,<-zc,show a+(m+1 - a+b)=(m+1)+b by lia,zc,back,qb]
def lp(m:Nat):Nat->Nat×Nat->Nat×Nat
 | 0,x=>x
 | k+1,x=>lp m k (leap m x.1 x.2)
theorem N8(m):∀ (a b:Nat) (x:Nat×Nat),lp m (a+b) x=lp m b (lp m a x)
 | 0,b,i=>by rw [nk];rfl
 | a+1,b,i=>by rw [Qo];exact N8 m a b _
theorem Jo(m):∀ (k:Nat) (x:Nat×Nat),(lp m k x).2=x.2 / 32 ^ k
 | 0,x=>by rw [Nat.pow_zero,Nat.div_one];rfl
 | k+1,x=>by
  show (lp m k _).2=_;rw [Jo m k];show x.2 / 32 / 32 ^ k=_;rw [Nat.div_div_eq_div_mul,Nat.pow_succ,Nat.mul_comm]
theorem Jn(m):∀ (k i:Nat),lp m k (i,0)=(P8 m k i,0)
 | 0,_=>rfl
 | k+1,i=>by
  show lp m k ((i * 5+1+0 / 32) % (m+1),0 / 32)=_;rw [Nat.zero_div,Nat.add_zero];exact Jn m k _
theorem SW(m):∀ (k:Nat) (x:Nat×Nat),x.1 < m+1->(lp m k x).1 < m+1
 | 0,_,h=>h
 | k+1,x,_=>SW m k _ (i9 _ (kQ m))
theorem Fi(h:Mk m)(h1:x.1 < m+1)(h2:x.2 < 2 ^ 64)(he:e < m+1):∃ k,k < m+14/\(lp m k x).1=e:=by
 have z:(lp m 13 x).2=0:=by
  rw [Jo];exact Nat.div_eq_of_lt (bT h2 @o)
 obtain⟨k,hk,q⟩:=cover h (SW m 13 x h1) he;refine⟨13+k,@d,?_⟩;rw [N8,show lp m 13 x=((lp m 13 x).1,0) from by rw [<-z],Jn];exact q
def EI(m:Nat)(p:Probe):Probe :=
 if p.more > 0 then { p with j:=p.j+1,more:=p.more - 1 } else
 { p with j:=(leap m p.i p.perturb).1,more:=runEnd m (leap m p.i p.perturb).1 - (leap m p.i p.perturb).1,i:=(leap m p.i p.perturb).1,perturb:=(leap m p.i p.perturb).2 }
def eD(m:Nat):Nat->Probe->Probe
 | 0,p=>p
 | k+1,p=>eD m k (EI m p)
theorem jo(m):∀ (a b:Nat) (p:Probe),eD m (a+b) p=eD m b (eD m a p)
 | 0,b,p=>by rw [nk];rfl
 | a+1,b,p=>by rw [Qo];exact jo m a b _
theorem Ki(m k)(p):eD m (k+1) p=EI m (eD m k p):=jo m k 1 p
def yN(m:Nat)(x:Nat×Nat):Probe:={ j:=x.1,more:=@bs,i:=x.1,perturb:=x.2,dummy:=none }
theorem more_le(m i):runEnd m i - i<=9:=by unfold runEnd;split <;> lia
theorem ve(m):∀ (n:Nat) (p:Probe),p.more=n->p.dummy=none->eD m (n+1) p=yN m (leap m p.i p.perturb)
 | 0,p,h,hd=>by
  show EI m p=_;unfold EI;rw [if_neg @c];obtain⟨j,mo,i,pe,d⟩:=p;cases hd;rfl
 | n+1,p,h,hd=>by
  show eD m (n+1) (EI m p)=_;have e:EI m p={ p with j:=p.j+1,more:=p.more - 1 }:=by unfold EI;rw [if_pos @c]
  rw [e];exact ve m n _ (by show p.more - 1=n;lia) hd
theorem YA(m):∀ (k:Nat) (x:Nat×Nat),∃ n,n<=10 * k/\eD m n (yN m x)=yN m (lp m k x)
 | 0,x=>⟨0,aS _,rfl⟩
 | k+1,x=>by
  obtain⟨n,hn,q⟩:=YA m k (leap m x.1 x.2);refine⟨(@bs+1)+n,?_,?_⟩
  .have:=more_le m x.1;lia
  .rw [jo,ve m (@bs) (yN m x) rfl rfl];exact q
structure Pb(m:Nat)(p:Probe):Prop where
 hi:p.i < m+1
 hp:p.perturb < 2 ^ 64
 hm:p.more<=9
 hd:p.dummy=none
theorem Pb.leap(h:Pb m p):(leap m p.i p.perturb).1 < m+1/\(leap m p.i p.perturb).2 < 2 ^ 64 :=
 ⟨i9 _ (kQ m),A7 (Nat.div_le_self _ _) h.hp⟩
theorem Pb.EI(h:Pb m p):Pb m (EI m p):=by
 unfold S.EI;split
 .exact⟨h.hi,h.hp,cY (Nat.sub_le _ _) h.hm,h.hd⟩
 .exact⟨h.leap.1,h.leap.2,more_le _ _,h.hd⟩
theorem Pb.eD:∀ (k:Nat) {p:Probe},Pb m p->Pb m (eD m k p)
 | 0,_,h=>h
 | k+1,_,h=>Pb.eD k h.EI
theorem Pb.cover(hm:Mk m)(h:Pb m p)(he:e < m+1):∃ n,n < 10 * turns m/\(S.eD m n p).j=e:=by
 obtain⟨k,hk,q⟩:=Fi hm h.leap.1 h.leap.2 he;obtain⟨n,hn,q2⟩:=YA m k (SetTable.leap m p.i p.perturb);refine⟨p.more+1+n,?_,?_⟩
 .have:=h.hm;unfold turns;lia
 .rw [jo,ve m p.more p rfl h.hd,q2];exact q
theorem Pb.start(t:ip)(h):Pb t.mask (t.probeStart h):=by
 refine⟨i9 _ (kQ _),?_,more_le _ _,rfl⟩;show bits h < 2 ^ 64;unfold bits;have h1:0<=h % (2 ^ 64:Int):=iF _ @o;have h2:h % (2 ^ 64:Int) < 2 ^ 64:=fZ _ @o;lia
end K2.S
end
section
namespace K2.S
open PySem PySem.SetTable
def Up(xs:Array Nat):Prop:=∀ a b,a < b->b < xs.size->xs.getD a 0 < xs.getD b 0
theorem OX(xs:Array Nat)(h:k < xs.size)(a b):xs.getD k a=xs.getD k b:=by
 rw [bg,bg,br h];rfl
theorem Dw(up:Up xs)(j):∀ (fuel lo hi:Nat),hi - lo<=fuel->lo<=hi->hi<=xs.size->(∀ k,k < lo->xs.getD k 0 < j)->(∀ k,hi<=k->k < xs.size->j<=xs.getD k 0) ->
  below.go xs j fuel lo hi<=xs.size/\(∀ k,k < below.go xs j fuel lo hi->xs.getD k 0 < j)/\(∀ k,below.go xs j fuel lo hi<=k->k < xs.size->j<=xs.getD k 0)
 | 0,lo,hi,h1,h2,h3,h4,h5=>by
  have e:lo=hi:=@d
  subst e;exact⟨h3,h4,h5⟩
 | fuel+1,lo,hi,h1,h2,h3,h4,h5=>by
  show (below.go xs j (fuel+1) lo hi)<=_/\_;unfold below.go;by_cases c:lo < hi
  .rw [if_pos c];have hm:(lo+hi) / 2 < xs.size:=@d
   ext d;rw [OX xs hm j 0];by_cases q:xs.getD ((lo+hi) / 2) 0 < j
   .rw [if_pos q];refine Dw up j fuel _ _ @c @c h3 (λk hk=>?_) h5;by_cases e:k=(lo+hi) / 2
    .rw [e];exact q
    .exact Nat.lt_trans (up _ _ @c hm) q
   .rw [if_neg q];refine Dw up j fuel _ _ @c @c @c h4 λk hk hs=>?_;by_cases e:k=(lo+hi) / 2
    .rw [e];lia
    .have:=up ((lo+hi) / 2) k @c hs;lia
  .rw [if_neg c];exact⟨@d,h4,λk hk hs=>h5 k @c hs⟩
theorem qm(up:Up xs)(j):below xs j<=xs.size/\(∀ k,k < below xs j->xs.getD k 0 < j)/\(∀ k,below xs j<=k->k < xs.size->j<=xs.getD k 0) :=
 Dw up j _ _ _ @c @c @c (λk h=>@d) (λk h1 h2=>@d)
theorem below_at(up:Up xs)(hk:k < xs.size):below xs (xs.getD k 0)=k:=by
 obtain⟨h1,h2,h3⟩:=qm up (xs.getD k 0);by_cases a:below xs (xs.getD k 0) < k
 .have:=h3 _ @T @c;have:=up _ _ a hk;lia
 .by_cases b:k < below xs (xs.getD k 0)
  .have:=h2 _ b;lia
  .lia
def Full(xs:Array Nat)(j:Nat):Prop:=∃ k,k < xs.size/\xs.getD k 0=j
theorem Up.inj(up:Up xs)(ha:a < xs.size)(hb:b < xs.size)(e:xs.getD a 0=xs.getD b 0):a=b:=by
 by_cases c:a < b
 .have:=up _ _ c hb;lia
 .by_cases d:b < a
  .have:=up _ _ d ha;lia
  .lia
theorem OV(xs:Array Nat)(h:k < xs.size):xs[k]?=some (xs.getD k 0):=by
 rw [bg,br h];rfl
theorem BS{t:ip}(up:Up t.place)(hk:k < t.place.size):t.slot (t.place.getD k 0)=.live k:=by
 unfold slot;ext d;rw [below_at up hk,OV _ hk];rw [if_pos @k]
theorem GR{t:ip}(up:Up t.place)(dm:t.dummies=#[])(h:¬ Full t.place j):t.slot j=.empty:=by
 unfold slot;ext d;have n1:(t.place[@a_]? == some j)=false:=by
  rw [Bool.eq_false_iff];intro q;have q:=beq_iff_eq.mp q;obtain⟨lt,e⟩:=Array.getElem?_eq_some_iff.mp q;exact h ⟨_,lt,by rw [bg,q];rfl⟩
 rw [n1,dm];rfl
theorem GS{t:ip}(up:Up t.place)(dm:t.dummies=#[])(j):(¬ Full t.place j/\t.slot j=.empty)\/(∃ k,k < t.place.size/\t.place.getD k 0=j/\t.slot j=.live k):=by
 by_cases h:Full t.place j
 .obtain⟨k,hk,e⟩:=h;exact .inr ⟨k,hk,e,e ▸ BS up hk⟩
 .exact .inl ⟨h,GR up dm h⟩
theorem E1(up:Up t.place)(dm:t.dummies=#[])(hashAt)(h):∀ (fuel:Nat) (p:Probe),Pb t.mask p->(∃ n,n < fuel/\¬ Full t.place (eD t.mask n p).j) ->
    ∃ n met,probe.go t hashAt h fuel p=some met/\(∀ n',n' < n->∃ k,k < t.place.size/\t.place.getD k 0=(eD t.mask n' p).j/\hashAt k≠h) /\
      ((¬ Full t.place (eD t.mask n p).j/\met=.empty (eD t.mask n p).j none) \/
       (∃ k,k < t.place.size/\t.place.getD k 0=(eD t.mask n p).j/\hashAt k=h/\met=.candidate (eD t.mask n p).j k (eD t.mask (n+1) p)))
  | 0,_,_,⟨n,hn,_⟩=>absurd hn (cG _)
  | fuel+1,p,hp,⟨n,hn,hf⟩=>by
    rcases GS up dm p.j with ⟨nf,e⟩ | ⟨k,hk,ek,e⟩
    . refine⟨0,.empty p.j p.dummy,?_,λn' z=>absurd z (cG _),.inl ⟨nf,by rw [hp.hd];rfl⟩⟩
      unfold probe.go;rw [e]
    · by_cases q:hashAt k=h
      . refine⟨0,.candidate p.j k (t.advance p),?_,λn' z=>absurd z (cG _),.inr ⟨k,hk,ek,q,rfl⟩⟩
        unfold probe.go;rw [e];ext d;rw [if_pos (beq_iff_eq.mpr q)]
      . have hn0:∃ m,n=m+1:=by
          cases n with
          | zero=>exact absurd ⟨k,hk,ek⟩ hf
          | succ m=>exact⟨m,rfl⟩
        obtain⟨m,rfl⟩:=hn0;obtain⟨n',met,g,all,fin⟩:=E1 up dm hashAt h fuel (EI t.mask p) hp.EI ⟨m,@d,hf⟩;refine⟨n'+1,met,?_,λn'' z=>?_,fin⟩
        . unfold probe.go
          rw [e];ext d;rw [if_neg (λz=>q (beq_iff_eq.mp z))];exact g
        . cases n'' with
          | zero=>exact⟨k,hk,ek,q⟩
          | succ n''=>exact all n'' @c
end K2.S
end
section
namespace K2.S
open PySem PySem.SetTable
abbrev En:=Array (Int×Value)
def hk(es:En)(k:Nat):Int:=(es[k]?.map @t).getD 0
structure Qe(t:ip)(es:En):Prop where
 ms:Mk t.mask
 dm:t.dummies=#[]
 sz:t.place.size=es.size
 up:Up t.place
 le:∀ k,k < t.place.size->t.place.getD k 0<=t.mask
 kb:t.place.size<=t.mask
 way:∀ k,k < t.place.size->∃ n,(eD t.mask n (probeStart t (hk es k))).j=t.place.getD k 0/\∀ n',n' < n->Full t.place (eD t.mask n' (probeStart t (hk es k))).j
theorem Ox(up:Up xs)(all:∀ e,e<=m->Full xs e):∀ e,e<=m->∀ k,k < xs.size->xs.getD k 0=e->e<=k
 | 0,_,_,_,_=>ck _
 | e+1,he,k,hk,q=>by
  obtain⟨k',OH,q'⟩:=all e @c;have ih:=Ox up all e @c k' OH q';have:k' < k:=by
   by_cases c:k' < k
   .exact c
   .by_cases d:k=k'
    .subst d;lia
    .have:=up k k' @c OH;lia
  lia
theorem Kl(up:Up xs)(kb:xs.size<=m):∃ e,e<=m/\¬ Full xs e:=by
 apply bX;intro no;have all:∀ e,e<=m->Full xs e:=λe he=>bX λz=>no ⟨e,he,z⟩;obtain⟨k,hk,q⟩:=all m @T;have:=Ox up all m @T k hk q;lia
theorem Aw(O:Qe t es)(p)(hp:Pb t.mask p):∃ N,N < 10 * turns t.mask/\¬ Full t.place (eD t.mask N p).j/\∀ n,n < N->Full t.place (eD t.mask n p).j:=by
 obtain⟨e,he,hf⟩:=Kl O.up O.kb;obtain⟨n0,hn,q⟩:=hp.cover O.ms (show e < t.mask+1 by lia);have:∀ n,n<=n0->(∃ N,N < 10 * turns t.mask/\¬ Full t.place (eD t.mask N p).j/\∀ n,n < N->Full t.place (eD t.mask n p).j)\/(∀ n',n' < n->Full t.place (eD t.mask n' p).j):=by
  intro n;induction n with
  | zero=>intro _;exact .inr λn' z=>absurd z (cG _)
  | succ n ih =>
   intro Li;rcases ih @c with a | a
   .exact .inl a
   .by_cases c:Full t.place (eD t.mask n p).j
    .refine .inr λn' z=>?_;by_cases d:n'=n
     .rw [d];exact c
     .exact a n' @c
    .exact .inl ⟨n,@d,c,a⟩
 rcases this n0 @T with a | a
 .exact a
 .exact⟨n0,hn,by rw [q];exact hf,a⟩
theorem iy(xs)(p)(x:α)(hp:p<=xs.size):(insertAt xs p x).size=xs.size+1:=by
 rw [<-bR,toList_insertAt,aq,af,dF,cf,bR];lia
theorem lY(xs)(p)(x:α)(hp:p<=xs.size)(k):(insertAt xs p x)[k]?=if k < p then xs[k]? else if k=p then some x else xs[k - 1]?:=by
 rw [<-cj,toList_insertAt];have hl:(xs.toList.take p).length=p:=by rw [dF,bR];lia
 by_cases c:k < p
 .rw [if_pos c,bB @c,sE c,cj]
 .rw [if_neg c,bb @c,hl];by_cases d:k=p
  .subst d;rw [if_pos rfl,qS];rfl
  .rw [if_neg d,show k - p=(k - p - 1)+1 by lia,ae,qI,show p+(k - p - 1)=k - 1 by lia,cj]
theorem jw(xs)(p x)(hp:p<=xs.size)(k):(insertAt xs p x).getD k 0=if k < p then xs.getD k 0 else if k=p then x else xs.getD (k - 1) 0:=by
 rw [bg,lY xs p x hp];split
 .rw [bg]
 .split
  .rfl
  .rw [bg]
theorem Kr(t:ip)(dm:t.dummies=#[])(j):t.put j=({ t with place:=insertAt t.place (@a_) j },@a_):=by
 unfold SetTable.put;ext d;rw [dm];have:has #[] j=false:=rfl;rw [this];cases t;cases dm;rfl
theorem Fv(hp:p<=xs.size):Full (insertAt xs p j) e↔Full xs e\/e=j:=by
 constructor
 .rintro⟨k,hk,q⟩;rw [iy xs p j hp] at hk;rw [jw xs p j hp] at q;by_cases c:k < p
  .rw [if_pos c] at q;exact .inl ⟨k,@d,q⟩
  .rw [if_neg c] at q;by_cases d:k=p
   .rw [if_pos d] at q;exact .inr q.symm
   .rw [if_neg d] at q;exact .inl ⟨k - 1,@d,q⟩
 .rintro(⟨k,hk,q⟩ | q)
  .by_cases c:k < p
   .exact⟨k,by rw [iy xs p j hp];lia,by rw [jw xs p j hp,if_pos c];exact q⟩
   .exact⟨k+1,by rw [iy xs p j hp];lia,by rw [jw xs p j hp,if_neg @c,if_neg @c];exact q⟩
  .exact⟨p,by rw [iy xs p j hp];lia,by rw [jw xs p j hp,if_neg @c,if_pos rfl];exact q.symm⟩
theorem Qe.add(O:Qe t es)(h1:¬ Full t.place (eD t.mask N @br).j)(h2:∀ n,n < N->Full t.place (eD t.mask n @br).j)
  (hj:(eD t.mask N @br).j<=t.mask) (room:t.place.size+1<=t.mask)  (e1:t'.mask=t.mask) (e2:t'.dummies=t.dummies)
  (e3:t'.place=insertAt t.place (below t.place (eD t.mask N @br).j) (eD t.mask N @br).j) :
  Qe t' (insertAt es (below t.place (eD t.mask N @br).j) (h,x)):=by
 generalize ej:(eD t.mask N @br).j=j at *;obtain⟨b1,b2,b3⟩:=qm O.up j;generalize @a_=p at *;have Py:p<=es.size:=by rw [<-O.sz];exact b1
 have TQ:t'.place.size=t.place.size+1:=by rw [e3,iy _ _ _ b1]
 have Bl:∀ h,probeStart t' h=probeStart t h:=λh=>by unfold probeStart;rw [e1]
 have fl:∀ e,Full t.place e->Full t'.place e:=λe z=>by rw [e3];exact(Fv b1).mpr (.inl z)
 refine⟨by rw [e1];exact O.ms,e2.trans O.dm,by rw [TQ,iy _ _ _ Py,O.sz],?_,?_,by rw [TQ,e1];exact room,?_⟩
 .intro a b ab hb;rw [TQ] at hb;rw [e3,jw _ _ _ b1,jw _ _ _ b1];by_cases c1:a < p
  .rw [if_pos c1];by_cases c2:b < p
   .rw [if_pos c2];exact O.up a b ab @c
   .rw [if_neg c2];by_cases c3:b=p
    .rw [if_pos c3];exact b2 a c1
    .rw [if_neg c3];by_cases c4:a=b - 1
     .lia
     .exact O.up a (b - 1) @c @c
  .rw [if_neg c1,if_neg (@d:¬ b < p),if_neg (@d:¬ b=p)];by_cases c3:a=p
   .rw [if_pos c3];have:=b3 (b - 1) @c @c;by_cases c5:t.place.getD (b - 1) 0=j
    .exact absurd ⟨b - 1,@d,c5⟩ h1
    .lia
   .rw [if_neg c3];exact O.up (a - 1) (b - 1) @c @c
 .intro k hk;rw [TQ] at hk;rw [e3,jw _ _ _ b1,e1];by_cases c1:k < p
  .rw [if_pos c1];exact O.le k @c
  .rw [if_neg c1];by_cases c2:k=p
   .rw [if_pos c2];exact hj
   .rw [if_neg c2];exact O.le (k - 1) @c
 .intro k hk;rw [TQ] at hk;have key:∀ k',k' < t.place.size->hk=hk->(insertAt es p (h,x))[k]?=es[k']?->t'.place.getD k 0=t.place.getD k' 0 ->
    ∃ n,(eD t'.mask n (probeStart t' (S.hk (insertAt es p (h,x)) k))).j=t'.place.getD k 0/\∀ n',n' < n->Full t'.place (eD t'.mask n' (probeStart t' (S.hk (insertAt es p (h,x)) k))).j:=by
   intro k' OH _ ee ep;obtain⟨n,q1,q2⟩:=O.way k' OH;have eh:S.hk (insertAt es p (h,x)) k=S.hk es k':=by unfold S.hk;rw [ee]
   rw [eh,Bl,e1,ep];exact⟨n,q1,λn' z=>fl _ (q2 n' z)⟩
  by_cases c1:k < p
  .refine key k @c rfl ?_ ?_
   .rw [lY _ _ _ Py,if_pos c1]
   .rw [e3,jw _ _ _ b1,if_pos c1]
  .by_cases c2:k=p
   .have eh:S.hk (insertAt es p (h,x)) k=h:=by unfold S.hk;rw [lY _ _ _ Py,if_neg c1,if_pos c2];rfl
    rw [eh,Bl,e1,e3,jw _ _ _ b1,if_neg c1,if_pos c2];refine⟨N,ej,λn' z=>?_⟩;exact(Fv b1).mpr (.inl (h2 n' z))
   .refine key (k - 1) @c rfl ?_ ?_
    .rw [lY _ _ _ Py,if_neg c1,if_neg c2]
    .rw [e3,jw _ _ _ b1,if_neg c1,if_neg c2]
end K2.S
end
section
namespace K2.S
open PySem PySem.SetTable
theorem SE(m)(x):∀ n,n<=@bs->eD m n (yN m x)={ yN m x with j:=x.1+n,more:=@bs - n }
 | 0,_=>rfl
 | n+1,h=>by
  rw [Ki,SE m x n @c];unfold EI;ext d;rw [if_pos @c];rfl
theorem C2(h:i < m+1)(hn:n<=runEnd m i - i):i+n < m+1:=by
 unfold runEnd at hn;split at hn <;> lia
def ow(o:Array (Option Nat))(j:Nat):Option Nat:=o.getD j none
theorem RF(h:j < o.size):o.getD j (some 0)=ow o j:=by
 unfold ow;rw [bg,bg,br h];rfl
theorem SR(h:ow o j=some k):j < o.size:=by
 apply bX;intro z;unfold ow at h;rw [bg,iV @c] at h;cases h
theorem Cn(sz:o.size=m+1):∀ (fuel:Nat) (x:Nat×Nat),x.1 < m+1->(∃ k,k < fuel/\ow o (lp m k x).1=none) ->
  ∃ n j,layClean.free m o fuel x.1 x.2=some j/\(eD m n (yN m x)).j=j/\j < m+1/\ow o j=none/\∀ n',n' < n->(eD m n' (yN m x)).j < m+1/\ow o (eD m n' (yN m x)).j≠none
 | 0,_,_,⟨_,h,_⟩=>absurd h (cG _)
 | fuel+1,x,hx,⟨k,hk,q⟩=>by
  have pe:∀ n,n<=@bs->(o.getD (x.1+n) (some 0))=ow o (x.1+n):=λn hn=>RF (by rw [sz];exact C2 hx hn);have pj:∀ n,n<=@bs->(eD m n (yN m x)).j=x.1+n:=λn hn=>by rw [SE m x n hn]
  have hre:x.1<=runEnd m x.1:=by unfold runEnd;split <;> lia
  cases hf:(bZ (runEnd m x.1+1 - x.1)).find? λk=>(o.getD (x.1+k) (some 0)).isNone with
  | some n =>
   obtain⟨h1,h2,h3⟩:=List.find?_range_eq_some.mp hf;have hn:n<=@bs:=by have:=List.mem_range.mp h2;lia
   rw [pe n hn] at h1;refine⟨n,x.1+n,?_,pj n hn,C2 hx hn,Option.isNone_iff_eq_none.mp h1,λn' z=>?_⟩
   .unfold layClean.free;rw [hf]
   .have Li:n'<=@bs:=@d
    have:=h3 n' z;rw [pe n' Li] at this;rw [pj n' Li];refine⟨C2 hx Li,λe=>?_⟩;rw [e] at this;cases this
  | none =>
   have h3:=List.find?_range_eq_none.mp hf;have all:∀ n',n'<=@bs->ow o (x.1+n')≠none:=λn' Li e=>by
    have:=h3 n' @c;rw [pe n' Li,e] at this;cases this
   obtain⟨k,rfl⟩:∃ k',k=k'+1:=by
    cases k with
    | zero=>exact absurd q (all 0 (ck _))
    | succ k=>exact⟨k,rfl⟩
   obtain⟨n,j,g,gj,hj,gn,ga⟩:=Cn sz fuel (leap m x.1 x.2) (i9 _ (kQ m)) ⟨k,@d,q⟩;refine⟨(@bs+1)+n,j,?_,?_,hj,gn,λn' z=>?_⟩
   .unfold layClean.free;rw [hf];exact g
   .rw [jo,ve m (@bs) (yN m x) rfl rfl];exact gj
   .by_cases c:n'<=@bs
    .rw [pj n' c];exact⟨C2 hx c,all n' c⟩
    .have e:n'=(@bs+1)+(n' - (@bs+1)):=@d
     rw [e,jo,ve m (@bs) (yN m x) rfl rfl];exact ga _ @c
theorem pig:∀ (L:Nat) (l:@aC),l.Nodup->(∀ x∈l,x < L)->l.length<=L
 | 0,l,_,h=>by
  cases l with
  | nil=>exact aS _
  | cons a r=>exact absurd (h a a9) (cG _)
 | L+1,l,hn,h=>by
  have:=pig L (l.erase L) (hn.erase L) λx hx=>by
   have:=(hn.mem_erase_iff).mp hx;have:=h x this.2;lia
  rw [List.length_erase] at this;split at this <;> lia
def Bl(m:Nat)(h:Int):Probe:=yN m (bits h % (m+1),bits h)
structure Lay(m:Nat)(hs:@G)(o:Array (Option Nat)):Prop where
 sz:o.size=m+1
 lt:∀ j k,ow o j=some k->k < hs.length
 one:∀ k,k < hs.length->∃ j,ow o j=some k
 Z2:∀ j j' k,ow o j=some k->ow o j'=some k->j=j'
 way:∀ j k,ow o j=some k->∃ n,(eD m n (Bl m (hs.getD k 0))).j=j/\∀ n',n' < n->ow o (eD m n' (Bl m (hs.getD k 0))).j≠none
theorem Lay.nil(m):Lay m [] (Array.replicate (m+1) none):=by
 have no:∀ j,ow (Array.replicate (m+1) none) j=none:=λj=>by
  unfold ow;rw [bg,Array.getElem?_replicate];split <;> rfl
 refine⟨Array.size_replicate,λj k h=>?_,λk h=>absurd h (cG _),λj j' k h=>?_,λj k h=>?_⟩ <;> (rw [no] at h;cases h)
theorem Lay.free(L:Lay m hs o)(kb:hs.length<=m):∃ j,j < m+1/\ow o j=none:=by
 apply bX;intro no;have all:∀ j,j < m+1->ow o j≠none:=λj hj e=>no ⟨j,hj,e⟩;have nd:((bZ (m+1)).map λj=>(ow o j).getD 0).Nodup:=by
  rw [qt,cL];refine nY (λ{a b} ha hb mQ e=>?_) (List.nodup_iff_pairwise_ne.mp (List.nodup_range (n:=m+1)));obtain⟨x,hx⟩:=Option.ne_none_iff_exists'.mp (all a (List.mem_range.mp ha));obtain⟨y,hy⟩:=Option.ne_none_iff_exists'.mp (all b (List.mem_range.mp hb));rw [hx,hy] at e;have e:x=y:=e;subst e;exact mQ (L.Z2 a b x hx hy)
 have:=pig hs.length _ nd λx hx=>by
  obtain⟨j,hj,rfl⟩:=List.mem_map.mp hx;obtain⟨k,e⟩:=Option.ne_none_iff_exists'.mp (all j (List.mem_range.mp hj));rw [e];exact L.lt j k e
 rw [ai,cV] at this;lia
theorem Hb(hj:j < o.size)(i):ow (o.setIfInBounds j (some k)) i=if j=i then some k else ow o i:=by
 unfold ow;rw [bg,Array.getElem?_setIfInBounds];by_cases c:j=i
 .rw [if_pos c,if_pos c,if_pos hj];rfl
 .rw [if_neg c,if_neg c,bg]
theorem Lay.step(hm:Mk m)(L:Lay m hs o)(kb:hs.length<=m)(h) :
  ∃ j,layClean.free m o (turns m) (bits h % (m+1)) (bits h)=some j/\Lay m (hs++[h]) (o.setIfInBounds j (some hs.length)):=by
 obtain⟨e,he,hf⟩:=L.free kb;have hb:bits h < 2 ^ 64:=by
  unfold bits;have h1:0<=h % (2 ^ 64:Int):=iF _ @o;have h2:h % (2 ^ 64:Int) < 2 ^ 64:=fZ _ @o;lia
 have hx:bits h % (m+1) < m+1:=i9 _ (kQ m);obtain⟨k,hk,q⟩:=Fi hm (x:=(bits h % (m+1),bits h)) hx hb he;obtain⟨n,j,g,gj,hj,gn,ga⟩:=Cn L.sz (turns m) (bits h % (m+1),bits h) hx ⟨k,by unfold turns;lia,by rw [q];exact hf⟩;have hjs:j < o.size:=by rw [L.sz];exact hj
 have old:∀ i k,ow o i=some k->ow (o.setIfInBounds j (some hs.length)) i=some k:=λi k z=>by
  rw [Hb hjs,if_neg (λz2:j=i=>by rw [<-z2,gn] at z;cases z)];exact z
 have inv:∀ i k,ow (o.setIfInBounds j (some hs.length)) i=some k->(i=j/\k=hs.length)\/(i≠j/\ow o i=some k/\k < hs.length):=λi k z=>by
  rw [Hb hjs] at z;by_cases c:j=i
  .rw [if_pos c] at z;cases z;exact .inl ⟨c.symm,rfl⟩
  .rw [if_neg c] at z;exact .inr ⟨λz2=>c z2.symm,z,L.lt _ _ z⟩
 have nn:∀ i,ow o i≠none->ow (o.setIfInBounds j (some hs.length)) i≠none:=λi z=>by
  obtain⟨k,e⟩:=Option.ne_none_iff_exists'.mp z;rw [old i k e];exact λz=>by cases z
 refine⟨j,g,⟨by rw [Array.size_setIfInBounds];exact L.sz,λi k z=>?_,λk hk=>?_,λi i' k z z'=>?_,λi k z=>?_⟩⟩
 .rw [aq,bC];rcases inv i k z with ⟨_,rfl⟩ | ⟨_,_,hk⟩ <;> lia
 .rw [aq,bC] at hk;by_cases c:k=hs.length
  .exact⟨j,by rw [Hb hjs,if_pos rfl,c]⟩
  .obtain⟨i,z⟩:=L.one k @c;exact⟨i,old i k z⟩
 .rcases inv i k z with ⟨a,b⟩ | ⟨a,b,c⟩ <;> rcases inv i' k z' with ⟨a',b'⟩ | ⟨a',b',c'⟩
  .rw [a,a']
  .lia
  .lia
  .exact L.Z2 i i' k b b'
 .rcases inv i k z with ⟨a,b⟩ | ⟨a,b,c⟩
  .have e:(hs++[h]).getD k 0=h:=by rw [b,bf,bb @T,qS];rfl
   rw [e,a];exact⟨n,gj,λn' z=>nn _ (ga n' z).2⟩
  .have e:(hs++[h]).getD k 0=hs.getD k 0:=by rw [bf,bB c,<-bf]
   rw [e];obtain⟨n,q1,q2⟩:=L.way i k b;exact⟨n,q1,λn' z=>nn _ (q2 n' z)⟩
theorem Js(hm:Mk m):∀ (hs:@G) (Qb:@G) (o:Array (Option Nat)),Lay m Qb o->Qb.length+hs.length<=m+1 ->
  ∃ o',hs.foldl (λacc h=>do
   let (owner,k) ← acc
   let j ← layClean.free m owner (turns m) (bits h % (m+1)) (bits h)
   pure (owner.setIfInBounds j (some k),k+1)) (some (o,Qb.length))=some (o',(Qb++hs).length)/\Lay m (Qb++hs) o'
 | [],Qb,o,L,_=>⟨o,by rw [bq];rfl,by rw [bq];exact L⟩
 | h :: hs,Qb,o,L,kb=>by
  obtain⟨j,g,L'⟩:=L.step hm (by rw [af] at kb;lia) h;obtain⟨o',e,L''⟩:=Js hm hs (Qb++[h]) _ L' (by rw [aq,bC];rw [af] at kb;lia);rw [bD,List.singleton_append] at e L'';refine⟨o',?_,L''⟩;rw [eM];rw [aq,bC] at e;rw [<-e];congr 1;show (do let j ← layClean.free m o (turns m) (bits h % (m+1)) (bits h);pure (o.setIfInBounds j (some Qb.length),Qb.length+1))=_;rw [g];rfl
theorem Fn(hm:Mk m)(hs)(kb:hs.size<=m+1):∃ o,layClean m hs=@j/\Lay m hs.toList o:=by
 obtain⟨o,e,L⟩:=Js hm hs.toList [] _ (Lay.nil m) (by rw [av,bR];lia);refine⟨o,?_,L⟩;unfold layClean;rw [<-Array.foldl_toList];rw [av] at e;rw [e];rfl
end K2.S
end
section
namespace K2.S
open PySem PySem.SetTable
theorem O4(es:En):∀ (l:@aC),(∀ k∈l,k < es.size)->l.filterMap (es[·]?)=l.map λk=>es.getD k (0,.none)
 | [],_=>rfl
 | k :: l,h=>by
  have hk:k < es.size:=h k a9;have e:es[k]?=some (es.getD k (0,.none)):=by rw [bg,br hk];rfl
  rw [List.filterMap_cons_some e,az,O4 es l λx hx=>h x (aL _ hx)]
theorem Of(hm:Mk m)(es:En)(kb:es.size<=m)(finger moves)(led plain) :
  ∃ t' order,laid m finger moves led plain (es.map @t)=some (t',order)/\t'.mask=m/\t'.led=led/\t'.plain=plain/\(order.filterMap (es[·]?)).size=es.size /\
   PW (order.filterMap (es[·]?)).toList es.toList/\Qe t' (order.filterMap (es[·]?))/\order.toList.Perm (bZ es.size):=by
 obtain⟨o,e,L⟩:=Fn hm (es.map @t) (by rw [Array.size_map];lia);have hl:(es.map @t).toList.length=es.size:=by rw [bR,Array.size_map]
 generalize hlv:((bZ (m+1)).filterMap λj=>(o.getD j none).map (j,·))=lv;have mem:∀ p:Nat×Nat,p∈lv↔ow o p.1=some p.2:=by
  rintro⟨j,k⟩;rw [<-hlv,List.mem_filterMap];constructor
  .rintro⟨a,_,q⟩;obtain⟨b,hb,q⟩:=Option.map_eq_some_iff.mp q;cases q;exact hb
  .intro q;exact⟨j,List.mem_range.mpr (by have:=SR q;rw [L.sz] at this;exact this),Option.map_eq_some_iff.mpr ⟨k,q,rfl⟩⟩
 have asc:lv.Pairwise λa b=>a.1 < b.1:=by
  rw [<-hlv];refine List.Pairwise.filterMap _ (λa a' r b hb b' JB=>?_) (List.pairwise_lt_range (n:=m+1));obtain⟨_,_,rfl⟩:=Option.map_eq_some_iff.mp hb;obtain⟨_,_,rfl⟩:=Option.map_eq_some_iff.mp JB;exact r
 have nd:(lv.map (·.2)).Nodup:=by
  rw [qt,cL];refine nY (λ{a b} ha hb r e=>?_) asc;have h1:=(mem a).mp ha;have h2:=(mem b).mp hb;rw [e] at h1;have:=L.Z2 _ _ _ h1 h2;lia
 have pm:(lv.map (·.2)).Perm (bZ es.size):=by
  refine(jQ nd List.nodup_range).mpr λk=>?_;rw [List.mem_range,mY];constructor
  .rintro⟨p,hp,rfl⟩;have:=L.lt _ _ ((mem p).mp hp);rw [hl] at this;exact this
  .intro hk;obtain⟨j,q⟩:=L.one k (by rw [hl];exact hk);exact⟨(j,k),(mem _).mpr q,rfl⟩
 have ll:lv.length=es.size:=by have:=pm.length_eq;rw [ai,cV] at this;exact this
 have inb:∀ k∈lv.map (·.2),k < es.size:=λk hk=>List.mem_range.mp (pm.mem_iff.mp hk);have es':((lv.map (·.2)).toArray.filterMap (es[·]?)).toList=lv.map λp=>es.getD p.2 (0,.none):=by
  rw [LZ,O4 es _ inb,cI];rfl
 have pes:PW ((lv.map (·.2)).toArray.filterMap (es[·]?)).toList es.toList:=by
  rw [LZ];refine(pm.filterMap _).trans ?_;rw [filterMap_getElem?_range]
 have ges:∀ i,((lv.map (·.2)).toArray.filterMap (es[·]?))[i]?=lv[i]?.map λp:Nat×Nat=>es.getD p.2 (0,.none):=λi=>by
  rw [<-cj,es',bP]
 have szs:((lv.map (·.2)).toArray.filterMap (es[·]?)).size=es.size:=by
  rw [<-bR,pes.length_eq,bR]
 have Yg:∀ i (hi:i < lv.length),(lv.map @t).toArray.getD i 0=lv[i].1:=λi hi=>by
  rw [bg,PU,bP,aB hi];rfl
 have IU:(lv.map @t).toArray.size=es.size:=by rw [aU,ai,ll]
 have ful:∀ j,ow o j≠none->Full (lv.map @t).toArray j:=λj z=>by
  obtain⟨k,q⟩:=Option.ne_none_iff_exists'.mp z;obtain⟨i,hi,ei⟩:=eV ((mem (j,k)).mpr q);exact⟨i,by rw [IU,<-ll];exact hi,by rw [Yg i hi,ei]⟩
 refine⟨{ mask:=m,place:=(lv.map @t).toArray,dummies:=#[],finger,led,moves,plain },(lv.map (·.2)).toArray,?_,rfl,rfl,rfl,szs,pes,?_,pm⟩
 .unfold laid;rw [e];show some _=some _;rw [hlv]
 .refine⟨hm,rfl,by show (lv.map @t).toArray.size=_;rw [IU,szs],?_,?_,by show (lv.map @t).toArray.size<=m;rw [IU];exact kb,?_⟩
  .intro a b ab hb;have hb:b < lv.length:=by rw [ll,<-IU];exact hb
   show (lv.map @t).toArray.getD a 0 < (lv.map @t).toArray.getD b 0;rw [Yg a @c,Yg b hb];exact List.pairwise_iff_getElem.mp asc a b @c hb ab
  .intro k hk;have hk:k < lv.length:=by rw [ll,<-IU];exact hk
   show (lv.map @t).toArray.getD k 0<=m;rw [Yg k hk];have:=SR ((mem _).mp (bQ hk));rw [L.sz] at this;lia
  .intro k hk;have hk:k < lv.length:=by rw [ll,<-IU];exact hk
   have hi:=(mem _).mp (bQ hk);have sU:=inb lv[k].2 (eU (bQ hk));have eh:S.hk ((lv.map (·.2)).toArray.filterMap (es[·]?)) k=(es.map @t).toList.getD lv[k].2 0:=by
    unfold S.hk;rw [ges,aB hk,bf,cj,Array.getElem?_map,br sU];show (es.getD lv[k].2 (0,.none)).1=(es[lv[k].2]).1;rw [bg,br sU];rfl
   rw [eh];obtain⟨n,q1,q2⟩:=L.way _ _ hi;refine⟨n,?_,λn' z=>ful _ (q2 n' z)⟩;show _=(lv.map @t).toArray.getD k 0;rw [Yg k hk];exact q1
theorem RW(hm:Mk m)(es:En)(kb:es.size<=m)(finger moves)(led plain) :
  ∃ t' order,laid m finger moves led plain (es.map @t)=some (t',order)/\t'.mask=m/\t'.led=led/\t'.plain=plain/\(order.filterMap (es[·]?)).size=es.size /\
   PW (order.filterMap (es[·]?)).toList es.toList/\Qe t' (order.filterMap (es[·]?)):=by
 obtain⟨t',order,h1,h2,h3,h4,h5,h6,h7,_⟩:=Of hm es kb finger moves led plain;exact⟨t',order,h1,h2,h3,h4,h5,h6,h7⟩
end K2.S
end
section
namespace K2
open PySem PySem.Spec PyProof.Rows L2
def Wz(K:aC)(H:Hp)(a:Addr)(xs:@A):Prop :=
 (∃ o,H a=some (.ni o (.lst xs))) \/
  ∃ (o:Obj) (bu:Array Value) (n:Nat),K.lookup a=@j/\o.cls=@ak/\o.dict=none/\o.data=.seq bu n/\bu.size<=bw/\Vals xs bu.toList
theorem Wz.sq{K:aC}(h:Wz K H a xs):tp K H a xs:=by
 rcases h with ⟨o,h⟩ | h
 .exact .inl (.inr ⟨o,h⟩)
 .exact .inr h
def fA:Key->D
 | .inl i=>@Y
 | .inr x=>.str x
def ExcAt(K:aC)(H:Hp)(a:Addr)(c:Str):Prop:=∃ (o:Obj) (C:Addr),H a=some (.ni o (.ext λh=>@aK=@j))/\o.cls=.ref C/\pC K bJ c=some (some @ai)
def JX(K:aC)(H:Hp)(a:Addr)(c:Str)(ns:@D)(vs:@A):Prop:=∃ (o:Obj) (C dx:Addr) (od:Obj) (fs:List (Str×V)),H a=some (.ni o (.ext λh=>@aK=@j))/\o.cls=.ref C/\pC K bJ c=some (some @ai)/\o.dict=some dx/\H dx=some (.ni od (.xd fs))/\PySem.W.notCls o=true/\fs.map @t=ns/\fs.map (·.2)=vs
def hsT(hs:@G):Int:=reduceHash (Builtin.Tuple.tupleHashOf hs)
def hP(k:PK):Int:=hsT (k.map λr=>hsT (r.map λt=>hsT (t.map hashInt)))
def PDo(a:Addr)(xs:List (PK×Addr×Value))(h:Heap):Prop:=xs.length<=bw/\(a == gL)=false/\∃ (o:Obj) (es:Array uW) (ep:Nat),@aK=@j/\o.ExactDict/\o.data=.dict es ep/\es.toList=xs.map (λx=>⟨hP x.1,.ref x.2.1,x.2.2⟩)/\(xs.map @t).Nodup
def YG(bo:List (PK×D))(ks vs:@A)(xs:List (PK×Addr×Value)):Prop:=bo.map (λp=>p.1)=xs.map (λx=>x.1)/\ks=xs.map (λx=>V.ref x.2.1)/\Vals vs (xs.map λx=>x.2.2)
mutual
inductive cP (K:aC) (H:Hp):V->D->Prop
 | dj:cP K H .dj .dj
 | bl (b:Bool):cP K H (.bl b) (.bl b)
 | int (i:Int):cP K H (@Y) (@Y)
 | str (x:Str):cP K H (.str x) (.str x)
 | tup {a:Addr} {vs:@A} {ds:@f}:H a=some (.tup vs)->bp K H vs ds->cP K H @Q (.tup ds)
 | eA {a:Addr} {vs:@A} {ds:@f}:Wz K H a vs->bp K H vs ds->cP K H @Q (.eA ds)
 | uo {a:Addr} {o:Obj} {kv:List (Key×V)} {bo:@ay}:H a=some (.ni o (.dK kv))->pH K H kv bo->cP K H @Q (.mC bo)
 | um {a:Addr} {o:Obj} {kv:List (@N×V)} {bo:@ay}:H a=some (.ni o (.dT kv))->sv K H kv bo->cP K H @Q (.mC bo)
 | ref (a:Addr):cP K H @Q @Q
 | exc {a:Addr} {c:Str}:ExcAt K H a c->cP K H @Q (.exc c)
 | Gi {a:Addr} {c:Str} {ns:@D} {vs:@A} {ds:@f}:JX K H a c ns vs->bp K H vs ds->cP K H @Q (.Gi c ns ds)
 | Ei {a:Addr} {o:Obj} {xs:List (PK×Addr×Value)} {ks vs:@A} {bo:List (PK×D)}:H a=some (.ni o (.ext (PDo a xs)))->YG bo ks vs xs->bp K H ks (bo.map λp=>WY p.1)->bp K H vs (bo.map λp=>p.2)->cP K H @Q (.Ei bo)
inductive bp (K:aC) (H:Hp):@A->@f->Prop
 | nil:bp K H [] []
 | cons {v:V} {d:D} {vs:@A} {ds:@f}:cP K H v d->bp K H vs ds->bp K H (v :: vs) (d :: ds)
inductive pH (K:aC) (H:Hp):List (Key×V)->@ay->Prop
 | nil:pH K H [] []
 | cons {k:Key} {v:V} {d:D} {r:List (Key×V)} {t:@ay}:cP K H v d->pH K H r t->pH K H ((k,v) :: r) ((fA k,d) :: t)
inductive sv (K:aC) (H:Hp):List (@N×V)->@ay->Prop
 | nil:sv K H [] []
 | cons {k:@N} {v:V} {d:D} {r:List (@N×V)} {t:@ay}:cP K H v d->sv K H r t->sv K H ((k,v) :: r) ((.tup (k.map fA),d) :: t)
end
structure Kp(H H':Hp):Prop where
 tup:∀ a xs,H a=some (.tup xs)->H' a=some (.tup xs)
 ni:∀ a o u,H a=some (.ni o u)->H' a=some (.ni o u)
theorem Kp.refl(H):Kp H H:=⟨λ_ _ h=>h,λ_ _ _ h=>h⟩
theorem Kp.trans(a:Kp H H1)(b:Kp H1 H2):Kp H H2:=⟨λc xs h=>b.tup c xs (a.tup c xs h),λc o u h=>b.ni c o u (a.ni c o u h)⟩
theorem Kp.sqT{K:aC}(k:Kp H H')(h:AJ K H a xs):AJ K H' a xs:=by
 rcases h with (h | ⟨o,h⟩) | h
 .exact .inl (.inl (k.tup _ _ h))
 .exact .inl (.inr ⟨o,k.ni _ _ _ h⟩)
 .exact .inr h
theorem Kp.Wa{K:aC}(k:Kp H H')(h:Wz K H a xs):Wz K H' a xs:=by
 rcases h with ⟨o,h⟩ | h
 .exact .inl ⟨o,k.ni _ _ _ h⟩
 .exact .inr h
theorem ExcAt.mono{K:aC}(k:Kp H H')(h:ExcAt K H a c):ExcAt K H' a c :=
 let ⟨o,C,h1,h2,h3⟩:=h
 ⟨o,C,k.ni _ _ _ h1,h2,h3⟩
theorem JX.mono{K:aC}(k:Kp H H')(h:JX K H a c ns vs):JX K H' a c ns vs :=
 let ⟨o,C,dx,od,fs,h1,h2,h3,h4,h5,h6⟩:=h
 ⟨o,C,dx,od,fs,k.ni _ _ _ h1,h2,h3,h4,k.ni _ _ _ h5,h6⟩
theorem bp.Hx{K:aC}{H:Hp}{P:@A->@f->Prop}(h0:P [] [])(h1:∀ {v:V} {d:D} {vs:@A} {ds:@f},cP K H v d->bp K H vs ds->P vs ds->P (v :: vs) (d :: ds)){vs:@A}{ds:@f}(h:bp K H vs ds):P vs ds :=
 bp.rec (motive_1:=λ_ _ _=>True) (motive_2:=λvs ds _=>P vs ds) (motive_3:=λ_ _ _=>True) (motive_4:=λ_ _ _=>True) trivial (λ_=>trivial) (λ_=>trivial) (λ_=>trivial) (λ_ _ _=>trivial) (λ_ _ _=>trivial) (λ_ _ _=>trivial) (λ_ _ _=>trivial) (λ_=>trivial) (λ_=>trivial) (λ_ _ _=>trivial) (λ_ _ _ _ _ _=>trivial) h0 (λa b _ ih=>h1 a b ih) trivial @am trivial @am h
theorem cP.mono{K:aC}(k:Kp H H'):∀ {v:V} {d:D},cP K H v d->cP K H' v d:=λh =>
 cP.rec (motive_1:=λv d _=>cP K H' v d) (motive_2:=λv d _=>bp K H' v d) (motive_3:=λv d _=>pH K H' v d) (motive_4:=λv d _=>sv K H' v d)
  .dj .bl .int .str (λh _ r=>.tup (k.tup _ _ h) r) (λh _ r=>.eA (k.Wa h) r) (λh _ r=>.uo (k.ni _ _ _ h) r) (λh _ r=>.um (k.ni _ _ _ h) r) .ref (λh=>.exc (h.mono k)) (λh _ r=>.Gi (h.mono k) r) (λh z _ _ r1 r2=>.Ei (k.ni _ _ _ h) z r1 r2) .nil (λ_ _ a b=>.cons a b) .nil (λ_ _ a b=>.cons a b) .nil (λ_ _ a b=>.cons a b) h
theorem bp.mono{K:aC}(k:Kp H H')(h:bp K H v d):bp K H' v d :=
 bp.Hx (P:=λv d=>bp K H' v d) .nil (λr _ ih=>.cons (r.mono k) ih) h
theorem pH.mono{K:aC}(k:Kp H H')(h:pH K H v d):pH K H' v d :=
 pH.rec (motive_1:=λv d _=>cP K H' v d) (motive_2:=λv d _=>bp K H' v d) (motive_3:=λv d _=>pH K H' v d) (motive_4:=λv d _=>sv K H' v d)
  .dj .bl .int .str (λh _ r=>.tup (k.tup _ _ h) r) (λh _ r=>.eA (k.Wa h) r) (λh _ r=>.uo (k.ni _ _ _ h) r) (λh _ r=>.um (k.ni _ _ _ h) r) .ref (λh=>.exc (h.mono k)) (λh _ r=>.Gi (h.mono k) r) (λh z _ _ r1 r2=>.Ei (k.ni _ _ _ h) z r1 r2) .nil (λ_ _ a b=>.cons a b) .nil (λ_ _ a b=>.cons a b) .nil (λ_ _ a b=>.cons a b) h
theorem sv.mono{K:aC}(k:Kp H H')(h:sv K H v d):sv K H' v d :=
 sv.rec (motive_1:=λv d _=>cP K H' v d) (motive_2:=λv d _=>bp K H' v d) (motive_3:=λv d _=>pH K H' v d) (motive_4:=λv d _=>sv K H' v d)
  .dj .bl .int .str (λh _ r=>.tup (k.tup _ _ h) r) (λh _ r=>.eA (k.Wa h) r) (λh _ r=>.uo (k.ni _ _ _ h) r) (λh _ r=>.um (k.ni _ _ _ h) r) .ref (λh=>.exc (h.mono k)) (λh _ r=>.Gi (h.mono k) r) (λh z _ _ r1 r2=>.Ei (k.ni _ _ _ h) z r1 r2) .nil (λ_ _ a b=>.cons a b) .nil (λ_ _ a b=>.cons a b) .nil (λ_ _ a b=>.cons a b) h
theorem bp.length{K:aC}:∀ {vs:@A} {ds:@f},bp K H vs ds->vs.length=ds.length:=λh =>
 bp.Hx (P:=λvs ds=>vs.length=ds.length) rfl (λ_ _ ih=>congrArg (· + 1) ih) h
theorem bp.get{K:aC}:∀ {vs:@A} {ds:@f} {i:Nat} {d:D},bp K H vs ds->ds[i]?=some d->∃ v,vs[i]?=@S/\cP K H v d:=by
 intro vs ds i d h;refine bp.Hx (P:=λvs ds=>∀ (i:Nat) (d:D),ds[i]?=some d->∃ v,vs[i]?=@S/\cP K H v d) (λi d e=>by cases e) (λr _ ih i d e=>?_) h i d;cases i with
 | zero=>cases e;exact⟨_,rfl,r⟩
 | succ i=>exact ih i d e
theorem bp.append{K:aC}:∀ {vs ws:@A} {ds es:@f},bp K H vs ds->bp K H ws es->bp K H (vs++ws) (ds++es):=λ{_ ws _ es} h s =>
 bp.Hx (P:=λvs ds=>bp K H (vs++ws) (ds++es)) s (λr _ ih=>.cons r ih) h
theorem bp.take{K:aC}:∀ {vs:@A} {ds:@f} (n:Nat),bp K H vs ds->bp K H (vs.take n) (ds.take n):=λ{_ _} n h =>
 bp.Hx (P:=λvs ds=>∀ n,bp K H (vs.take n) (ds.take n)) (λn=>by rw [AX,AX];exact .nil) (λr _ ih n=>by
  cases n with
  | zero=>exact .nil
  | succ n=>exact .cons r (ih n)) h n
theorem bp.drop{K:aC}:∀ {vs:@A} {ds:@f} (n:Nat),bp K H vs ds->bp K H (vs.drop n) (ds.drop n):=λ{_ _} n h =>
 bp.Hx (P:=λvs ds=>∀ n,bp K H (vs.drop n) (ds.drop n)) (λn=>by rw [AY,AY];exact .nil) (λr t ih n=>by
  cases n with
  | zero=>exact .cons r t
  | succ n=>exact ih n) h n
theorem bp.set{K:aC}(r:cP K H v d):∀ {vs:@A} {ds:@f} (i:Nat),bp K H vs ds->bp K H (vs.set i v) (ds.set i d):=λ{_ _} i h =>
 bp.Hx (P:=λvs ds=>∀ i,bp K H (vs.set i v) (ds.set i d)) (λi=>by rw [CJ,CJ];exact .nil) (λq t ih i=>by
  cases i with
  | zero=>exact .cons r t
  | succ i=>exact .cons q (ih i)) h i
theorem bp.one{K:aC}:∀ {vs:@A} {d:D},bp K H vs [d]->∃ v,vs=[v]/\cP K H v d:=by
 intro vs d h;cases h with
 | cons r t=>cases t;exact⟨_,rfl,r⟩
theorem bp.two{K:aC}:∀ {vs:@A} {d e:D},bp K H vs [d,e]->∃ v u,vs=[v,u]/\cP K H v d/\cP K H u e:=by
 intro vs d e h;cases h with
 | cons r t =>
  obtain⟨u,rfl,q⟩:=bp.one t;exact⟨_,_,rfl,r,q⟩
theorem bp.zero{K:aC}:∀ {vs:@A},bp K H vs []->vs=[]
 | _,.nil=>rfl
theorem bp.ints{K:aC}:∀ {vs:@A} {ns:@G},bp K H vs (@bj)->vs=ns.map V.int:=by
 intro vs ns;induction ns generalizing vs with
 | nil=>intro h;exact h.zero
 | cons n ns ih =>
  intro h;cases h with
  | cons r t =>
   cases r;rw [ih t];rfl
theorem bp.Jk{K:aC}:∀ (ns:@G),bp K H (ns.map V.int) (@bj)
 | []=>.nil
 | n :: ns=>.cons (.int n) (bp.Jk ns)
theorem pH.ind{K:aC}{H:Hp}{motive:∀ (kv:List (Key×V)) (bo:@ay),pH K H kv bo->Prop}(nil:motive [] [] .nil)
  (cons:∀ {k:Key} {v:V} {d:D} {r:List (Key×V)} {t:@ay} (re:cP K H v d) (rs:pH K H r t),motive r t rs->motive ((k,v) :: r) ((fA k,d) :: t) (.cons re rs)):∀ {kv:List (Key×V)} {bo:@ay} (h:pH K H kv bo),motive kv bo h:=λh =>
 pH.rec (motive_1:=λ_ _ _=>True) (motive_2:=λ_ _ _=>True) (motive_3:=motive) (motive_4:=λ_ _ _=>True) trivial (λ_=>trivial) (λ_=>trivial) (λ_=>trivial) (λ_ _ _=>trivial) (λ_ _ _=>trivial) (λ_ _ _=>trivial) (λ_ _ _=>trivial) (λ_=>trivial) (λ_=>trivial) (λ_ _ _=>trivial) (λ_ _ _ _ _ _=>trivial) trivial @am nil (λa b _ ih=>cons a b ih) trivial @am h
theorem sv.ind{K:aC}{H:Hp}{motive:∀ (kv:List (@N×V)) (bo:@ay),sv K H kv bo->Prop}(nil:motive [] [] .nil)
  (cons:∀ {k:@N} {v:V} {d:D} {r:List (@N×V)} {t:@ay} (re:cP K H v d) (rs:sv K H r t),motive r t rs->motive ((k,v) :: r) ((.tup (k.map fA),d) :: t) (.cons re rs)):∀ {kv:List (@N×V)} {bo:@ay} (h:sv K H kv bo),motive kv bo h:=λh =>
 sv.rec (motive_1:=λ_ _ _=>True) (motive_2:=λ_ _ _=>True) (motive_3:=λ_ _ _=>True) (motive_4:=motive) trivial (λ_=>trivial) (λ_=>trivial) (λ_=>trivial) (λ_ _ _=>trivial) (λ_ _ _=>trivial) (λ_ _ _=>trivial) (λ_ _ _=>trivial) (λ_=>trivial) (λ_=>trivial) (λ_ _ _=>trivial) (λ_ _ _ _ _ _=>trivial) trivial @am trivial @am nil (λa b _ ih=>cons a b ih) h
theorem pH.length{K:aC}:∀ {v:List (Key×V)} {d:@ay},pH K H v d->v.length=d.length:=λh =>
 pH.ind (motive:=λv d _=>v.length=d.length) rfl (λ_ _ ih=>congrArg (· + 1) ih) h
theorem sv.length{K:aC}:∀ {v:List (@N×V)} {d:@ay},sv K H v d->v.length=d.length:=λh =>
 sv.ind (motive:=λv d _=>v.length=d.length) rfl (λ_ _ ih=>congrArg (· + 1) ih) h
def PT(K:aC)(H:Hp)(a:Addr):GO->Prop
 | .lst ds=>∃ vs,H a=some (.lst vs)/\bp K H vs ds
 | .kg bo=>(∃ kv,H a=some (.dK kv)/\pH K H kv bo)\/∃ kv,H a=some (.dT kv)/\sv K H kv bo
 | .ins c fs=>∃ C dx fv,H a=some (.ins C dx fv)/\pC K bJ c=some (some @ai)/\fv.map @t=fs.map @t/\bp K H (fv.map (·.2)) (fs.map (·.2))
 | .Gj bo=>∃ xs ks vs,H a=some (.ext (PDo a xs))/\YG bo ks vs xs/\bp K H ks (bo.map λp=>WY p.1)/\bp K H vs (bo.map λp=>p.2)
def mX(K:aC)(H:Hp)(G:Gp):Prop:=∀ a g,G a=some g->PT K H a g
theorem PT.dk{K:aC}{H:Hp}{a:Addr}{kv:List (Key×V)}{bo:@ay}(h:H a=some (.dK kv))(r:pH K H kv bo):PT K H a (.kg bo):=.inl ⟨kv,h,r⟩
theorem PT.mono{K:aC}(k:Kp H H')(e:H' a=H a)(h:PT K H a g):PT K H' a g:=by
 cases g with
 | lst ds=>obtain⟨vs,q,r⟩:=h;exact⟨vs,e.trans q,r.mono k⟩
 | ins c fs=>obtain⟨C,dx,fv,q,h1,h2,r⟩:=h;exact⟨C,dx,fv,e.trans q,h1,h2,r.mono k⟩
 | Gj bo=>obtain⟨xs,ks,vs,q,h1,r1,r2⟩:=h;exact⟨xs,ks,vs,e.trans q,h1,r1.mono k,r2.mono k⟩
 | kg bo =>
  rcases h with ⟨kv,q,r⟩ | ⟨kv,q,r⟩
  .exact .inl ⟨kv,e.trans q,r.mono k⟩
  .exact .inr ⟨kv,e.trans q,r.mono k⟩
theorem PT.tracked{K:aC}(h:PT K H a g):H a≠none:=by
 cases g with
 | lst ds=>obtain⟨vs,q,r⟩:=h;rw [q];simp
 | ins c fs=>obtain⟨C,dx,fv,q,_⟩:=h;rw [q];simp
 | Gj bo=>obtain⟨xs,ks,vs,q,_⟩:=h;rw [q];simp
 | kg bo =>
  rcases h with ⟨kv,q,r⟩ | ⟨kv,q,r⟩
  .rw [q];simp
  .rw [q];simp
theorem mX.free{K:aC}(h:mX K H G)(e:H a=none):G a=none:=by
 cases q:G a with
 | none=>rfl
 | some g=>exact absurd e (h a g q).tracked
theorem mX.Xa{K:aC}(h:mX K H G)(e:H a=some (.tup xs)):G a=none:=by
 cases q:G a with
 | none=>rfl
 | some g =>
  have z:=h a g q;cases g with
  | lst ds=>obtain⟨vs,q,r⟩:=z;rw [e] at q;cases q
  | ins c fs=>obtain⟨C,dx,fv,q,_⟩:=z;rw [e] at q;cases q
  | Gj bo=>obtain⟨xs,ks,vs,q,_⟩:=z;rw [e] at q;cases q
  | kg bo =>
   rcases z with ⟨kv,q,r⟩ | ⟨kv,q,r⟩
   .rw [e] at q;cases q
   .rw [e] at q;cases q
theorem mX.Xb{K:aC}(h:mX K H G)(e:H a=some (.ni o u)):G a=none:=by
 cases q:G a with
 | none=>rfl
 | some g =>
  have z:=h a g q;cases g with
  | lst ds=>obtain⟨vs,q,r⟩:=z;rw [e] at q;cases q
  | ins c fs=>obtain⟨C,dx,fv,q,_⟩:=z;rw [e] at q;cases q
  | Gj bo=>obtain⟨xs,ks,vs,q,_⟩:=z;rw [e] at q;cases q
  | kg bo =>
   rcases z with ⟨kv,q,r⟩ | ⟨kv,q,r⟩
   .rw [e] at q;cases q
   .rw [e] at q;cases q
structure Mv(K:aC)(H:Hp)(G:Gp)(H':Hp)(G':Gp):Prop where
 keep:∀ a o,H a=@j->G a=none->H' a=@j/\G' a=none
 nZ:∀ a,G a≠none->H' a≠none
 ab:mX K H' G'
theorem Mv.refl{K:aC}(h:mX K H G):Mv K H G H G:=⟨λ_ _ e n=>⟨e,n⟩,λa n=>by
 cases q:G a with
 | none=>exact absurd q n
 | some g=>exact(h a g q).tracked,h⟩
theorem Mv.trans{K:aC}(a:Mv K H G H1 G1)(b:Mv K H1 G1 H2 G2):Mv K H G H2 G2 :=
 ⟨λc o e n=>let ⟨e1,n1⟩:=a.keep c o e n;b.keep c o e1 n1,λc n=>by
  have h1:=a.nZ c n;cases q:G1 c with
  | some g=>exact b.nZ c (by rw [q];simp)
  | none =>
   cases q1:H1 c with
   | none=>exact absurd q1 h1
   | some o=>rw [(b.keep c o q1 q).1];simp,b.ab⟩
theorem Mv.kp{K:aC}(m:Mv K H G H' G')(h:mX K H G):Kp H H' :=
 ⟨λa xs e=>(m.keep a _ e (h.Xa e)).1,λa o u e=>(m.keep a _ e (h.Xb e)).1⟩
theorem Kp.new{H:Hp}{p:Addr}{o:HO}(hp:H p=none):Kp H (upd H p o):=⟨λa xs e=>by rw [bY (eL e hp)];exact e,λa ob u e=>by rw [bY (eL e hp)];exact e⟩
theorem Kp.putL{H:Hp}{p:Addr}{xs:@A}{o:HO}(hp:H p=some (.lst xs)):Kp H (upd H p o) :=
 ⟨λa ys e=>by rw [bY (by ext c;rw [hp] at e;cases e)];exact e,λa ob u e=>by rw [bY (by ext c;rw [hp] at e;cases e)];exact e⟩
theorem Mv.new{K:aC}(h:mX K H G)(hp:H p=none)(ho:PT K (upd H p o) p g):Mv K H G (upd H p o) (dB G p g) where
 keep:=λa ob e n=>by
  have ne:=eL e hp;exact⟨by rw [bY ne];exact e,by rw [bL ne];exact n⟩
 nZ:=λa n=>by
  have ne:a≠p:=by ext c;exact n (h.free hp)
  rw [bY ne];exact(Mv.refl h).nZ a n
 ab:=λa g' e=>by
  by_cases ha:a=p
  .subst ha;rw [aA] at e;cases e;exact ho
  .rw [bL ha] at e;exact(h a g' e).mono (.new hp) (bY ha)
theorem Mv.Qc{K:aC}(h:mX K H G)(hp:H p=none):Mv K H G (upd H p o) G where
 keep:=λa ob e n=>⟨by rw [bY (eL e hp)];exact e,n⟩
 nZ:=λa n=>by
  have ne:a≠p:=by ext c;exact n (h.free hp)
  rw [bY ne];exact(Mv.refl h).nZ a n
 ab:=λa g' e=>by
  have ne:a≠p:=by ext c;rw [h.free hp] at e;cases e
  exact(h a g' e).mono (.new hp) (bY ne)
theorem Mv.put{K:aC}(h:mX K H G)(hg:G p=some g0)(k:Kp H (upd H p o))(ho:PT K (upd H p o) p g):Mv K H G (upd H p o) (dB G p g) where
 keep:=λa ob e n=>by
  have ne:a≠p:=by ext c;rw [hg] at n;cases n
  exact⟨by rw [bY ne];exact e,by rw [bL ne];exact n⟩
 nZ:=λa n=>by
  by_cases ha:a=p
  .subst ha;rw [dv];simp
  .rw [bY ha];exact(Mv.refl h).nZ a n
 ab:=λa g' e=>by
  by_cases ha:a=p
  .subst ha;rw [aA] at e;cases e;exact ho
  .rw [bL ha] at e;exact(h a g' e).mono k (bY ha)
theorem mX.lst{K:aC}(h:mX K H G)(e:G a=@ba):∃ vs,H a=some (.lst vs)/\bp K H vs ds:=h a _ e
theorem Mv.Bh{K:aC}(h:mX K H G)(hp:H p=none)(r:bp K H vs ds):Mv K H G (upd H p (.lst vs)) (dB G p (.lst ds)) :=
 .new h hp ⟨vs,dv,r.mono (.new hp)⟩
theorem Mv.putL{K:aC}(h:mX K H G)(hg:G p=some (.lst ds0))(hp:H p=some (.lst vs0))(r:bp K H vs ds):Mv K H G (upd H p (.lst vs)) (dB G p (.lst ds)) :=
 .put h hg (.putL hp) ⟨vs,dv,r.mono (.putL hp)⟩
structure Qj(K:aC)(H:Hp)(σ:L2.St)(τ:ie):Prop where
 len:σ.length=τ.length
 at':∀ (i:Nat) (d:D),τ[i]?=some (some d)->∃ v,σ[i]?=some (@S)/\cP K H v d
theorem Qj.mono{K:aC}(k:Kp H H')(a:Qj K H σ τ):Qj K H' σ τ :=
 ⟨a.len,λi d e=>let ⟨v,h1,h2⟩:=a.at' i d e;⟨v,h1,h2.mono k⟩⟩
theorem Qj.set{K:aC}(a:Qj K H σ τ)(i)(r:cP K H v d):Qj K H (σ.set i (@S)) (τ.set i (some d)):=by
 refine⟨by rw [jA,jA];exact a.len,λj e h=>?_⟩;by_cases hj:i=j
 .subst hj;by_cases hi:i < τ.length
  .rw [gI hi] at h;cases h;exact⟨v,by rw [gI (by rw [a.len];exact hi)],r⟩
  .rw [List.set_eq_of_length_le @c] at h;rw [wV @c] at h;cases h
 .rw [iq hj] at h;obtain⟨w,h1,h2⟩:=a.at' j e h;exact⟨w,by rw [iq hj];exact h1,h2⟩
structure I2(X:Cx)(pins:@y)(σ:L2.St)(H:Hp)(τ:ie)(G:Gp)(s:aF):Prop where
 inv:@l
 st:Qj X.K H σ τ
 ab:mX X.K H G
theorem I2.mv(I:@bz)(I':Inv X pins σ H' s')(m:@bo):I2 X pins σ H' τ G' s' :=
 ⟨I',I.st.mono (m.kp I.ab),m.ab⟩
def CXe(P:bI)(w:World):Ip:=λouter H s E e s'=>∃ (a C t:Addr) (B:Heap) (H':Hp),e=.ref a/\s'.os=s.os/\CL s'.gens/\Un (Md outer) [] H H' s.heap s'.heap/\uL P w H' s'.heap /\
 (∀ b o,s'.heap.get? b=@j->b∉Md outer->(@ar≠none\/H' b≠none)->B.get? b=@j)/\PySem.Heap.FlyingW B outer a @ai (.ref t) s'.heap/\H' a=none/\s.heap.get? a=none/\E @ai none H'
def exK(K:aC)(mg:@aQ)(E:lz):XK:=λcls _ H=>∃ (ex:Ex) (C:Addr) (G:Gp),cls=.ref C/\mg ex.cls=some @ai/\mX K H G/\E ex G
structure Lk(X:Cx)(E:lz):Prop where
 made:∀ (pins:@y) (σ:L2.St) (H:Hp) (s:aF) (h1:Heap) (a C:Addr) (args:@B) (ex:Ex) (G:Gp),@l->mX X.K H G->PySem.Heap.MadeExcOf s.heap h1 a @ai args->X.mg ex.cls=some @ai->E ex G->X.xe @Q { s with heap:=h1 }
 pass:∀ (pins:@y) (σ:L2.St) (H:Hp) (s s':aF) (e:Value),@l->CXe X.prog X.w X.stack H s (exK X.K X.mg E) e s'->X.xe e s'
theorem Lk.none(h:∀ ex G,¬ E ex G):Lk X E where
 made:=λ_ _ _ _ _ _ _ _ ex _ _ _ _ _ z=>absurd z (h ex _)
 pass:=λ_ _ _ _ _ _ _ hc=>by
  obtain⟨_,_,_,_,_,_,_,_,_,_,_,_,_,_,hz⟩:=hc;obtain⟨ex,_,_,_,_,_,z⟩:=hz;exact absurd z (h ex _)
inductive qQ (X:Cx) (pins:@y) (σ:L2.St) (H:Hp) (G:Gp) (Q:DK) (u:Value) (s':aF):Prop
 | mk (v:V) (H':Hp) (d:D) (G':Gp) (i:Inv X pins σ H' s') (m:@bo) (r:RelV v u) (rd:cP X.K H' v d) (q:Q d G'):qQ X pins σ H G Q u s'
inductive Wx (X:Cx) (pins:@y) (σ:L2.St) (H:Hp) (G:Gp) (Q:Bool->@u) (b:Bool) (s':aF):Prop
 | mk (H':Hp) (G':Gp) (i:Inv X pins σ H' s') (m:@bo) (q:Q b G'):Wx X pins σ H G Q b s'
inductive AP2 (X:Cx) (pins:@y) (σ:L2.St) (H:Hp) (G:Gp) (Q:@f->@u) (us:@B) (s':aF):Prop
 | mk (vs:@A) (H':Hp) (ds:@f) (G':Gp) (i:Inv X pins σ H' s') (m:@bo) (r:Vals vs us) (rd:bp X.K H' vs ds) (q:Q ds G'):AP2 X pins σ H G Q us s'
inductive ZO (X:Cx) (pins:@y) (H:Hp) (G:Gp) (P:ie->@u) (s':aF):Prop
 | mk (jD:L2.St) (H':Hp) (mz:ie) (G':Gp) (i:I2 X pins jD H' mz G' s') (m:@bo) (q:P mz G'):ZO X pins H G P s'
inductive SPr (X:Cx) (pins:@y) (H:Hp) (G:Gp) (P:D->@u) (u:Value) (s':aF):Prop
 | mk (v:V) (jD:L2.St) (H':Hp) (d:D) (G':Gp) (i:Inv X pins jD H' s') (m:@bo) (r:RelV v u) (rd:cP X.K H' v d) (q:P d G'):SPr X pins H G P u s'
def VZ(X:Cx)(pins:@y)(H:Hp)(G:Gp)(D:kA)(f:Flow)(s':aF):Prop :=
 match f with
 | .next=>ZO X pins H G D.nx s'
 | .brk=>ZO X pins H G D.bk s'
 | .cont=>ZO X pins H G D.ct s'
 | .ret u=>SPr X pins H G D.rt u s'
def eQ(X:Cx)(e:Expr)(t:gG):Prop :=
 ∀ (E:lz) (pins:@y) (s:aF) (σ:L2.St) (H:Hp) (τ:ie) (G:Gp) (Q:DK),Lk X E->@bz->t E τ G Q->wpAny @s X.A (eval e X.env) @bd X.xe s
def FY(X:Cx)(e:Expr)(t:yp):Prop :=
 ∀ (E:lz) (pins:@y) (s:aF) (σ:L2.St) (H:Hp) (τ:ie) (G:Gp) (Q:Bool->@u),Lk X E->@bz->t E τ G Q->wpAny @s X.A (isTrue e X.env (eval e X.env)) (Wx X pins σ H G Q) X.xe s
def PF(X:Cx)(e:Expr)(t:yp):Prop :=
 ∀ (wh:Sem Value) (E:lz) (pins:@y) (s:aF) (σ:L2.St) (H:Hp) (τ:ie) (G:Gp) (Q:Bool->@u),Lk X E->@bz->t E τ G Q->wpAny @s X.A (isTrue e X.env wh) (Wx X pins σ H G Q) X.xe s
def yq(X:Cx)(es:@aN)(t:zh):Prop :=
 ∀ (pos:Pos) (E:lz) (pins:@y) (s:aF) (σ:L2.St) (H:Hp) (τ:ie) (G:Gp) (Q:@f->@u),Lk X E->@bz->t E τ G Q->wpAny @s X.A (spliced (jX pos (bG es X.env))) (AP2 X pins σ H G Q) X.xe s
def xN(X:Cx)(st:Stmt)(t:fG):Prop :=
 ∀ (E:lz) (pins:@y) (s:aF) (σ:L2.St) (H:Hp) (τ:ie) (G:Gp) (D:kA),Lk X E->@bz->t E D τ G->wpAny @s X.A (exec st X.env) (VZ X pins H G D) X.xe s
def sg(X:Cx)(st:List Stmt)(t:fG):Prop :=
 ∀ (E:lz) (pins:@y) (s:aF) (σ:L2.St) (H:Hp) (τ:ie) (G:Gp) (D:kA),Lk X E->@bz->t E D τ G->wpAny @s X.A (execs st X.env) (VZ X pins H G D) X.xe s
theorem VZ.trans{D:kA}(m:Mv X.K H G H1 G1)(h:VZ X pins H1 G1 D f s'):VZ X pins H G D f s':=by
 cases f with
 | next=>obtain⟨jD,H',mz,G',I,m',q⟩:=h;exact⟨jD,H',mz,G',I,m.trans m',q⟩
 | brk=>obtain⟨jD,H',mz,G',I,m',q⟩:=h;exact⟨jD,H',mz,G',I,m.trans m',q⟩
 | cont=>obtain⟨jD,H',mz,G',I,m',q⟩:=h;exact⟨jD,H',mz,G',I,m.trans m',q⟩
 | ret u=>obtain⟨v,jD,H',d,G',I,m',r,rd,q⟩:=h;exact⟨v,jD,H',d,G',I,m.trans m',r,rd,q⟩
section
variable {X:Cx} {a b c:Expr} {ta tb tc:gG} {pos:Pos}
theorem lA(ha:eQ X a ta)(hE:Lk X E)(I:@bz)(h:ta E τ G R)
  (k:∀ v H1 d G1 u s1,I2 X pins σ H1 τ G1 s1->Mv X.K H G H1 G1->RelV v u->cP X.K H1 v d->R d G1->Q u s1):wpAny @s X.A (eval a X.env) Q X.xe s :=
 gN (ha E pins s σ H τ G R hE I h) (by rintro u s1 ⟨v,H1,d,G1,I1,m,r,rd,q⟩;exact k v H1 d G1 u s1 (I.mv I1 m) m r rd q)
theorem qQ.trans(m:Mv X.K H G H1 G1)(h:qQ X pins σ H1 G1 Q u s'):qQ X pins σ H G Q u s':=by
 obtain⟨v,H',d,G',I,m',r,rd,q⟩:=h;exact⟨v,H',d,G',I,m.trans m',r,rd,q⟩
theorem Wx.trans(m:Mv X.K H G H1 G1)(h:Wx X pins σ H1 G1 Q u s'):Wx X pins σ H G Q u s':=by
 obtain⟨H',G',I,m',r⟩:=h;exact⟨H',G',I,m.trans m',r⟩
theorem Rq   (hN:X.N[i]?=some x) (hv:ZM X.env.scope x) (hd:autoParam ((x == ("__debug__" : Str))=false) Ad._auto_1) (Mc:autoParam ((x == ("__classdict__" : Str))=false) Ad._auto_1):eQ X (.Name x pos) (ak i):=by
 ext e;unfold ak at h;split at h
 .rename_i d e;obtain⟨v,h1,h2⟩:=I.st.at' i d e;exact gN (Uu hN hv hd Mc pins s σ H (λv' H'=>v'=v/\H'=H) I.inv ⟨v,h1,rfl,rfl⟩) λu s1 XI=>by
   obtain⟨v',H',I1,r,e1,e2⟩:=XI;subst e1;subst e2;exact⟨_,_,d,G,I1,.refl I.ab,r,h2,h⟩
 .exact h.elim
theorem xl(h:PE X e (tC v))(r:∀ K H,cP K H v d):eQ X e (dC d):=by
 intro E pins s σ H τ G Q hE I hq;exact gN (h pins s σ H (λv' H'=>v'=v/\H'=H) I.inv @aP) λu s1 Vj=>by
  obtain⟨v',H',I1,rr,e1,e2⟩:=Vj;subst e1;subst e2;exact⟨_,_,d,G,I1,.refl I.ab,rr,r _ _,hq⟩
theorem Rz{i j}:eQ X (.Constant (@Y) j pos) (dC (@Y)):=xl Uw λ_ _=>@Y
def pB(X:Cx)(f:Value->Value->Sem Value)(r:Ep):Prop :=
 ∀ (pins:@y) (s:aF) (σ:L2.St) (H:Hp) (G:Gp) (x y:V) (dx dy:D) (v u:Value) (Q:DK),@l->mX X.K H G->RelV x v->RelV y u->cP X.K H x dx->cP X.K H y dy->r dx dy G Q ->
  wpAny @s X.A (f v u) @bd X.xe s
def VV(X:Cx)(f:Value->Sem Value)(r:D->Gp->DK->Prop):Prop :=
 ∀ (pins:@y) (s:aF) (σ:L2.St) (H:Hp) (G:Gp) (x:V) (dx:D) (v:Value) (Q:DK),@l->mX X.K H G->RelV x v->cP X.K H x dx->r dx G Q ->
  wpAny @s X.A (f v) @bd X.xe s
def km(X:Cx)(f:Value)(r:@f->Gp->DK->Prop):Prop :=
 ∀ (pins:@y) (s:aF) (σ:L2.St) (H:Hp) (G:Gp) (xs:@A) (ds:@f) (us:@B) (Q:DK),@l->mX X.K H G->Vals xs us->bp X.K H xs ds->r ds G Q ->
  wpAny @s X.A (call f us) @bd X.xe s
abbrev A2(K:aC)(H:Hp)(G:Gp)(Q:DK):VK:=λv H'=>∃ d G',Mv K H G H' G'/\cP K H' v d/\Q d G'
theorem qQ.of(h:EP X pins σ (A2 X.K H G Q) u s'):qQ X pins σ H G Q u s':=by
 obtain⟨v,H',I,r,d,G',m,rd,q⟩:=h;exact⟨v,H',d,G',I,m,r,rd,q⟩
theorem Pw(ha:eQ X a ta)(hb:eQ X b tb){R:D->D->@u}(hE:Lk X E)(I:@bz)
  (h:ta E τ G λx G1=>tb E τ G1 λy G2=>R x y G2)  {f:Value->Value->Sem Value}
  (hf:∀ v u s2 x y dx dy H2 G2,I2 X pins σ H2 τ G2 s2->Mv X.K H G H2 G2->RelV x v->RelV y u->cP X.K H2 x dx->cP X.K H2 y dy->R dx dy G2->wpAny @s X.A (f v u) Q X.xe s2) :
  wpAny @s X.A (eval a X.env) (λv fK=>wpAny @s X.A (eval b X.env) (λu jR=>wpAny @s X.A (f v u) Q X.xe jR) X.xe fK) X.xe s:=by
 refine lA ha hE I h λx H1 dx G1 v s1 I1 m1 r1 jU q1=>?_;refine lA hb hE I1 q1 λy H2 dy G2 u s2 lL m2 r2 Bf q2=>?_;exact hf v u s2 x y dx dy H2 G2 lL (m1.trans m2) r1 r2 (jU.mono (m2.kp I1.ab)) Bf q2
theorem Uz(ho:pB X (jc op) r)(ha:eQ X a ta)(hb:eQ X b tb):eQ X (.BinOp a op b pos) (aN r ta tb):=by
 ext e;exact wpAny_BinOp (Pw ha hb hE I h λv u s2 x y dx dy H2 G2 lL m rx ry dX dY q=>gN (ho pins s2 σ H2 G2 x y dx dy v u Q lL.inv lL.ab rx ry dX dY q) λ_ _ z=>z.trans m)
theorem Ux(ho:VV X (unaryOp op) r)(ha:eQ X a ta):eQ X (.UnaryOp op a pos) (Bt r ta):=by
 ext e;exact UnaryOp_ (lA ha hE I h λx H1 dx G1 v s1 I1 m1 r1 jU q1=>gN (ho pins s1 σ H1 G1 x dx v Q I1.inv I1.ab r1 jU q1) λ_ _ z=>z.trans m1)
theorem RB(ho:pB X (fN op) r)(ha:eQ X a ta)(hb:eQ X b tb)(hm:behindInMarks op b=false):eQ X (.Compare a [op] [b] pos) (aN r ta tb):=by
 ext e;exact wpAny_Compare1 (Pw ha hb hE I h λv u s2 x y dx dy H2 G2 lL m rx ry dX dY q=>gN (ho pins s2 σ H2 G2 x y dx dy v u Q lL.inv lL.ab rx ry dX dY q) λ_ _ z=>z.trans m) hm
end
theorem WE{K:aC}(ab:mX K H G)(r:cP K H x d)(e:GK d G=some k):(∃ p,x=@U/\Rd H p (.dT [])/\k=false)\/(∃ p kv,x=@U/\Rd H p (.dK kv)/\k=!kv.isEmpty)\/VW K x H k:=by
 have Pd:∀ bo:@ay,(if (bo.all λp=>fw p.1)=true then some (!bo.isEmpty) else none)=some k->∀ p,((∃ kv,Rd H p (.dK kv)/\pH K H kv bo)\/∃ kv,Rd H p (.dT kv)/\sv K H kv bo) ->
   (∃ p',V.ref p=.ref p'/\Rd H p' (.dT [])/\k=false)\/(∃ p' kv,V.ref p=.ref p'/\Rd H p' (.dK kv)/\k=!kv.isEmpty)\/VW K (@U) H k:=by
  intro bo e p z;by_cases ha:(bo.all λp=>fw p.1)=true
  .rw [if_pos ha] at e;cases e;rcases z with ⟨kv,hv,rs⟩ | ⟨kv,hv,rs⟩
   .right;left;refine⟨p,kv,rfl,hv,?_⟩;cases rs <;> rfl
   .left;cases rs with
    | nil=>exact⟨p,rfl,hv,rfl⟩
    | cons _ _=>simp [fw] at ha
  .rw [if_neg ha] at e;cases e
 cases r with
 | dj=>right;right;cases e;rfl
 | bl b=>right;right;cases e;rfl
 | int i=>right;right;cases e;rfl
 | str y =>
  right;right;unfold GK at e;dsimp only at e;by_cases h:y.length<=SZ
  .rw [if_pos h] at e;cases e;exact⟨by rw [cq];exact h,rfl⟩
  .rw [if_neg h] at e;cases e
 | tup h rs =>
  right;right;cases e;refine .inr (.inl ⟨_,.of h,?_⟩);cases rs <;> rfl
 | eA h rs =>
  right;right;cases e;refine .inl ⟨_,h.sq,?_⟩;cases rs <;> rfl
 | uo h rs=>exact Pd _ e _ (.inl ⟨_,.inr ⟨_,h⟩,rs⟩)
 | um h rs=>exact Pd _ e _ (.inr ⟨_,.inr ⟨_,h⟩,rs⟩)
 | exc h=>simp [GK] at e
 | Gi h _=>simp [GK] at e
 | Ei _ _ _ _=>simp [GK] at e
 | ref a =>
  unfold GK at e;dsimp only at e;cases q:G a with
  | none=>rw [q] at e;cases e
  | some g =>
   rw [q] at e;have z:=ab a g q;cases g with
   | lst ds =>
    right;right;obtain⟨vs,hv,rs⟩:=z;cases e;refine .inl ⟨vs,.of hv,?_⟩;cases rs <;> rfl
   | ins _ _=>cases e
   | Gj _=>cases e
   | kg bo =>
    refine Pd bo e a ?_;rcases z with ⟨kv,hv,rs⟩ | ⟨kv,hv,rs⟩
    .exact .inl ⟨kv,.inl hv,rs⟩
    .exact .inr ⟨kv,.inl hv,rs⟩
section
variable {X:Cx} {a b c:Expr} {ta tb tc:gG} {pos:Pos}
def YD(X:Cx):Prop:=∀ (pins:@y) (s:aF) (σ:L2.St) (H:Hp) (G:Gp) (x:V) (d:D) (v:Value) (k:Bool) (Q:Bool->@ae),@l->mX X.K H G->RelV x v->cP X.K H x d->GK d G=some k ->
  (∀ s',Inv X pins σ H s'->Q k s')->wpAny @s X.A (truthy v) Q X.xe s
theorem GJ:YD X:=by
 intro pins s σ H G x d v k Q I ab rx rd e q;rcases WE ab rd e with ⟨p,rfl,hv,hk⟩ | ⟨p,kv,rfl,hv,hk⟩ | h
 .obtain⟨z,hS,xs,rel,o,es,ep,ho,hx,Fu,hl,nd⟩:=hv.ok I.du;have hxs:xs=[]:=by cases rel;rfl
  subst hxs;have he:es=#[]:=by simpa using hl
  subst he;cases rx;have dd:s.heap.DictOf (fi X.prog X.w) p []:=⟨o,#[],ep,ho,hx,Fu,(λ_ h=>by simp at h),.nil,fL⟩;refine Gn hS dd @k ?_;subst hk;exact q _ (@aB)
 .cases rx;subst hk;exact Sf I hv q
 .exact gN (TJ pins s σ H x v (λk' H'=>k'=k/\H'=H) I rx ⟨k,h,rfl,rfl⟩) λk' s' XI=>by
   obtain⟨H',I',e1,e2⟩:=XI;subst e1;subst e2;exact q s' I'
theorem Kt(ha:eQ X a ta)(he:autoParam (∀ whole,isTrue a X.env whole=(do let v ← whole;standAt a.pos;w4 [v] (truthy v))) Ai._auto_1):FY X a (cW ta):=by
 ext e;refine isTrue_plain (lA ha hE I h λx H1 d G1 v s1 I1 m1 r1 jU q1=>?_) (he _)
 try dsimp only at q1
 split at q1
 .rename_i k e;exact GJ pins s1 σ H1 G1 x d v k _ I1.inv I1.ab r1 jU e λs' I'=>⟨H1,G1,I',m1,q1⟩
 .exact q1.elim
theorem Jc(ho:pB X (fN op) r)(ha:eQ X a ta)(hb:eQ X b tb)(hm:behindInMarks op b=false):FY X (.Compare a [op] [b] pos) (cW (aN r ta tb)):=by
 ext e;refine wpAny_isTrue_Compare1 (lA ha hE I h λx H1 dx G1 v s1 I1 m1 r1 jU q1=>lA hb hE I1 q1 λy H2 dy G2 u s2 lL m2 r2 Bf q2 =>
  gN (ho pins s2 σ H2 G2 x y dx dy v u _ lL.inv lL.ab r1 r2 (jU.mono (m2.kp I1.ab)) Bf q2) ?_) hm
 rintro c s3 ⟨z,H3,dz,G3,I3,m3,r3,rd3,q3⟩
 try dsimp only at q3
 split at q3
 .rename_i k e;exact GJ pins s3 σ H3 G3 z dz c k _ I3 m3.ab r3 rd3 e λs' I'=>⟨H3,G3,I',(m1.trans m2).trans m3,q3⟩
 .exact q3.elim
variable {tA tB:yp} {rest:@aN}
theorem PF.pt(h:PF X e t):FY X e t:=λE pins s σ H τ G Q hE I q=>h _ E pins s σ H τ G Q hE I q
theorem MH(ha:FY X a tA)(hE:Lk X E)(I:@bz)(h:tA E τ G R)
  (k:∀ c H1 G1 s1,I2 X pins σ H1 τ G1 s1->Mv X.K H G H1 G1->R c G1->Q c s1):wpAny @s X.A (isTrue a X.env (eval a X.env)) Q X.xe s :=
 gN (ha E pins s σ H τ G R hE I h) (by rintro c s1 ⟨H1,G1,I1,m,q⟩;exact k c H1 G1 s1 (I.mv I1 m) m q)
theorem Ng(ha:FY X a tA):PF X (.BoolOp .And [a] pos) tA:=by
 intro wh E pins s σ H τ G Q hE I h;refine isTrue_and (gN (ha E pins s σ H τ G Q hE I h) λc s1 e=>?_);cases c with
 | true=>exact isTrue_and_nil e
 | false=>exact e
theorem Q5(ha:FY X a tA):PF X (.BoolOp .Or [a] pos) tA:=by
 intro wh E pins s σ H τ G Q hE I h;refine isTrue_or (gN (ha E pins s σ H τ G Q hE I h) λc s1 e=>?_);cases c with
 | false=>exact isTrue_or_nil e
 | true=>exact e
theorem Q6(ha:FY X a tA)(hb:PF X (.BoolOp .And (b :: rest) pos) tB):PF X (.BoolOp .And (a :: b :: rest) pos) (wo tA tB):=by
 intro wh E pins s σ H τ G Q hE I h;refine isTrue_and (MH ha hE I h λc H1 G1 s1 I1 m1 q1=>?_);cases c with
 | true=>exact gN (hb wh E pins s1 σ H1 τ G1 Q hE I1 (by simpa using q1)) λ_ _ z=>z.trans m1
 | false=>exact⟨H1,G1,I1.inv,m1,by simpa using q1⟩
theorem Uk(ha:FY X a tA)(hb:PF X (.BoolOp .Or (b :: rest) pos) tB):PF X (.BoolOp .Or (a :: b :: rest) pos) (uO tA tB):=by
 intro wh E pins s σ H τ G Q hE I h;refine isTrue_or (MH ha hE I h λc H1 G1 s1 I1 m1 q1=>?_);cases c with
 | false=>exact gN (hb wh E pins s1 σ H1 τ G1 Q hE I1 (by simpa using q1)) λ_ _ z=>z.trans m1
 | true=>exact⟨H1,G1,I1.inv,m1,by simpa using q1⟩
theorem Q8(ha:FY X a tA):FY X (.UnaryOp .Not a pos) (iJ tA):=by
 ext e;exact isTrue_not (gN (ha E pins s σ H τ G (λc H1=>Q (!c) H1) hE I h) (by rintro c s' ⟨H',G',i,m,q⟩;exact⟨H',G',i,m,q⟩))
theorem Rv{op}(h:eQ X a t):eQ X (.BoolOp op [a] pos) t:=λE pins s σ H τ G Q hE I hw=>BoolOp_one (h E pins s σ H τ G Q hE I hw)
theorem RD(ha:eQ X a ta)(hb:eQ X (.BoolOp .And (b :: rest) pos) tb):eQ X (.BoolOp .And (a :: b :: rest) pos) (AD ta tb):=by
 ext e;refine BoolOp_and (lA ha hE I h λx H1 d G1 v s1 I1 m1 r1 jU q1=>?_)
 try dsimp only at q1
 split at q1
 .rename_i e;exact GJ pins s1 σ H1 G1 x d v true _ I1.inv I1.ab r1 jU e λs' I'=>gN (hb E pins s' σ H1 τ G1 Q hE ⟨I',I1.st,I1.ab⟩ q1) λ_ _ z=>z.trans m1
 .rename_i e;exact GJ pins s1 σ H1 G1 x d v false _ I1.inv I1.ab r1 jU e λs' I'=>⟨x,H1,d,G1,I',m1,r1,jU,q1⟩
 .exact q1.elim
theorem Uy(ha:eQ X a ta)(hb:eQ X (.BoolOp .Or (b :: rest) pos) tb):eQ X (.BoolOp .Or (a :: b :: rest) pos) (Lz ta tb):=by
 ext e;refine BoolOp_or (lA ha hE I h λx H1 d G1 v s1 I1 m1 r1 jU q1=>?_)
 try dsimp only at q1
 split at q1
 .rename_i e;exact GJ pins s1 σ H1 G1 x d v true _ I1.inv I1.ab r1 jU e λs' I'=>⟨x,H1,d,G1,I',m1,r1,jU,q1⟩
 .rename_i e;exact GJ pins s1 σ H1 G1 x d v false _ I1.inv I1.ab r1 jU e λs' I'=>gN (hb E pins s' σ H1 τ G1 Q hE ⟨I',I1.st,I1.ab⟩ q1) λ_ _ z=>z.trans m1
 .exact q1.elim
theorem Rw(ha:eQ X a ta):eQ X (.UnaryOp .Not a pos) (JN ta):=by
 ext e;refine UnaryOp_ (lA ha hE I h λx H1 d G1 v s1 I1 m1 r1 jU q1=>?_)
 try dsimp only at q1
 split at q1
 .rename_i k e;exact not_of (GJ pins s1 σ H1 G1 x d v k _ I1.inv I1.ab r1 jU e λs' I'=>⟨.bl (!k),H1,.bl (!k),G1,I',m1,rfl,.bl _,q1⟩)
 .exact q1.elim
variable {e:Expr} {es:@aN} {te:gG} {t:zh}
theorem y8:yq X [] aH:=λ_ _ _ _ _ H _ G Q _ I h=>Calls.spliced_nil ⟨[],H,[],G,I.inv,.refl I.ab,.nil,.nil,h⟩
theorem oQ(ha:eQ X e te)(hr:yq X es t)(hs:autoParam @bF Ar._auto_1):yq X (e :: es) (ag te t):=by
 intro pos E pins s σ H τ G Q hE I h;rw [hs];show wpAny _ _ (spliced ((false,eval e X.env) :: jX pos (bG es X.env))) _ _ s;refine qu (lA ha hE I h λx H1 d G1 u s1 I1 m1 r1 jU q1=>?_);exact gN (hr pos E pins s1 σ H1 τ G1 _ hE I1 q1) (by rintro us s2 ⟨xs,H2,ds,G2,lL,m2,r2,Bf,q2⟩;exact⟨x :: xs,H2,d :: ds,G2,lL,m1.trans m2,.cons r1 r2,.cons (jU.mono (m2.kp I1.ab)) Bf,q2⟩)
theorem zx(ha:yq X es t)(pos)(hE:Lk X E)(I:@bz)(h:t E τ G R)
  (k:∀ vs H1 ds G1 us s1,I2 X pins σ H1 τ G1 s1->Mv X.K H G H1 G1->Vals vs us->bp X.K H1 vs ds->R ds G1->Q us s1):wpAny @s X.A (spliced (jX pos (bG es X.env))) Q X.xe s :=
 gN (ha pos E pins s σ H τ G R hE I h) (by rintro us s1 ⟨vs,H1,ds,G1,I1,m,r,rd,q⟩;exact k vs H1 ds G1 us s1 (I.mv I1 m) m r rd q)
theorem Rt{x1}(h:yq X es t):eQ X (.Tuple es x1 pos) (cy t):=by
 intro E pins s σ H τ G Q hE I hq;refine wpAny_Tuple_spliced (zx h pos hE I hq ?_);rintro xs H1 ds G1 us s1 I1 m1 r rd ⟨z,q⟩;refine⟨by rw [<-r.length,rd.length,cq];exact z,?_⟩;have hf:H1 s1.heap.objs.size=none:=I1.inv.du.fresh @T;refine⟨.ref s1.heap.objs.size,upd H1 s1.heap.objs.size (.tup xs),.tup ds,G1,I1.inv.laid (t':=s1.toks) (λb u e=>aO _ e) @T ?_,m1.trans (.Qc I1.ab hf),rfl,?_,q⟩
 .exact⟨by rw [rd.length,cq];exact z,us,r,⟨_,bc _ rfl,rfl,_,rfl⟩⟩
 .exact .tup dv (rd.mono (.new hf))
theorem Ry(h:yq X es t):eQ X (.List es pos) (dc t):=by
 intro E pins s σ H τ G Q hE I hq;refine wpAny_List_spliced (zx h pos hE I hq ?_);rintro xs H1 ds G1 us s1 I1 m1 r rd ⟨z,q⟩;refine⟨by rw [<-r.length,rd.length,cq];exact z,?_⟩;have hf:H1 s1.heap.objs.size=none:=I1.inv.du.fresh @T;refine⟨.ref s1.heap.objs.size,upd H1 s1.heap.objs.size (.lst xs),.ref _,dB G1 s1.heap.objs.size (.lst ds),I1.inv.laid (t':=s1.toks) (λb u e=>aO _ e) @T ?_,m1.trans (.Bh I1.ab hf rd),rfl,.ref _,q _ (I1.ab.free hf)⟩;exact⟨by rw [rd.length,cq];exact z,us,0,r,bc _ rfl⟩
def oe(K:aC)(sp:gH):Sp:=λvs H Q _=>∃ ds G Q2,bp K H vs ds/\mX K H G/\sp ds G Q2 @r/\∀ d G' v H',Q2 d G'->Mv K H G H' G'->cP K H' v d->Q v H'
variable {k:Nat} {f:Addr} {fd:dH} {ps:@D} {sp:gH} {x:Str} {p:Pos} {r:@f->Gp->DK->Prop} {id:String}
theorem NA(F:qP X.prog X.w X.K X.mg X.base yw k f fd ps (oe X.K sp))(hr:jl k X.A)(hg:Gl X x)(hm:X.mg x=some (.ref f))(hk:pJ X.K (.ref f)=true)(hb:Binds X.K fd ps [])
  (ha:yq X (e :: es) t) (Ft:autoParam ((x == ("__debug__" : Str))=false) Ad._auto_1) (he:autoParam @bF Ar._auto_1) (mP:autoParam ((jX pos (bG es X.env)).any @t=false) Ar._auto_1) :
  eQ X (.Call (.Name x p) (e :: es) [] pos) (λE τ G Q=>aZ (λds G1 Q1 _=>sp ds G1 Q1 @w) t E τ G Q):=by
 ext e;refine ij (Jr I.inv hg hm ?_ Ft);refine yy (h₀:=X.base) I.inv.ok.mod.RX hk (zx ha pos hE I h λvs H1 ds G1 us s1 I1 m1 r rd q=>⟨I1.inv.Cb,?_⟩) he mP;refine gN (MZ F hr hb .nil NC I1.inv r (Q:=A2 X.K H1 G1 Q) ?_) λ_ _ z=>(qQ.of z).trans m1;rw [bq];exact⟨ds,G1,Q,rd,I1.ab,q,λd G' v H' q' m' SJ=>⟨d,G',m',SJ,q'⟩⟩
theorem KG (hc:km X (.builtin id) r) (hg:Gl X x) (hm:X.mg x=none) (hv:cZ x=some (.builtin id)) (ha:yq X (e :: es) t) (hn:autoParam (x≠"__name__") Ad._auto_1) (Ft:autoParam ((x == ("__debug__" : Str))=false) Ad._auto_1)
  (he:autoParam @bF Ar._auto_1) (mP:autoParam ((jX pos (bG es X.env)).any @t=false) Ar._auto_1):eQ X (.Call (.Name x p) (e :: es) [] pos) (fC r t):=by
 ext e;refine ij (pZ I.inv hg hm hv ?_ hn Ft);exact kP (zx ha pos hE I h λvs H1 ds G1 us s1 I1 m1 r1 jU q1=>gN (hc pins s1 σ H1 G1 vs ds us Q I1.inv I1.ab r1 jU q1) λ_ _ z=>z.trans m1) he mP
variable {st:Stmt} {sts:List Stmt} {u v:fG}
theorem Nk:sg X [] bH:=λ_ _ _ σ H τ G _ _ I h=>zk ⟨σ,H,τ,G,I,.refl I.ab,h⟩
theorem Ku(h1:xN X st u)(h2:sg X sts v):sg X (st :: sts) (bz u v):=by
 intro E pins s σ H τ G D hE I h;refine wpAny_execs_cons (gN (h1 E pins s σ H τ G { D with nx:=v E D } hE I h) λf s1 q=>?_);cases f with
 | next =>
  obtain⟨jD,H',mz,G',I',m,q⟩:=q;exact gN (h2 E pins s1 jD H' mz G' D hE I' q) λ_ _ z=>z.trans m
 | ret v=>exact q
 | brk=>exact q
 | cont=>exact q
theorem Nj(h1:xN X st u):sg X [st] u:=by
 intro E pins s σ H τ G D hE I h;refine wpAny_execs_cons (gN (h1 E pins s σ H τ G D hE I h) λf s1 q=>?_);cases f with
 | next=>exact zk q
 | ret v=>exact q
 | brk=>exact q
 | cont=>exact q
theorem Rb(he:eQ X e te):xN X (.Return (some e) pos) (bE te):=by
 intro E pins s σ H τ G D hE I h;exact wpAny_Return_some (gN (he E pins s σ H τ G _ hE I h) (by rintro v s1 ⟨x,H1,d,G1,I1,m,r1,rd,q1⟩;exact⟨x,σ,H1,d,G1,I1,m,r1,rd,q1⟩))
theorem Ur(hc:FY X c tA)(ha:sg X sa u)(hb:sg X sb v):xN X (.If c sa sb pos) (cH tA u v):=by
 intro E pins s σ H τ G D hE I h;refine wpAny_If (MH hc hE I h λd H1 G1 s1 I1 m1 q1=>?_);cases d with
 | true=>exact gN (ha E pins s1 σ H1 τ G1 D hE I1 (by simpa using q1)) λ_ _ z=>z.trans m1
 | false=>exact gN (hb E pins s1 σ H1 τ G1 D hE I1 (by simpa using q1)) λ_ _ z=>z.trans m1
def zi(X:Cx)(target:Expr)(t:AI):Prop :=
 ∀ (E:lz) (pins:@y) (s:aF) (σ:L2.St) (H:Hp) (τ:ie) (G:Gp) (w:V) (d:D) (u:Value) (Q:ie->@u),Lk X E->@bz->RelV w u->cP X.K H w d->t E d τ G Q ->
  wpAny @s X.A (zr target X.env u) (λ_ s'=>∃ jD H' mz G',I2 X pins jD H' mz G' s'/\@bo/\Q mz G') X.xe s
def F3(X:Cx)(ts:@aN)(t:AH):Prop :=
 ∀ (E:lz) (pins:@y) (s:aF) (σ:L2.St) (H:Hp) (τ:ie) (G:Gp) (ws:@A) (ds:@f) (us:@B) (Q:ie->@u),Lk X E->@bz->Vals ws us->bp X.K H ws ds->t E ds τ G Q ->
  wpAny @s X.A (assignInOrder ((jy ts X.env).map (·.2)) us) (λ_ s'=>∃ jD H' mz G',I2 X pins jD H' mz G' s'/\@bo/\Q mz G') X.xe s
theorem Nw(hN:X.N.Nodup)(hi:X.N[i]?=some x)(hx:Loc X.env.scope x)(hf:autoParam (X.fn x=true\/@bQ=@a8) Ao._auto_1):zi X (.Name x pos) (aG i):=by
 intro E pins s σ H τ G w d u Q hE I r rd h;exact wpAny_assign_Name (EJ I.inv hN hi hx r (λs' I'=>⟨_,H,_,G,⟨I',I.st.set i rd,I.ab⟩,.refl I.ab,h⟩) hf)
theorem Nv:F3 X [] nE:=by
 intro E pins s σ H τ G ws ds us Q hE I r rd h;unfold nE at h;split at h
 .have e:=rd.zero;subst e;cases r;exact assignInOrder_nil ⟨σ,H,τ,G,I,.refl I.ab,h⟩
 .exact h.elim
theorem Kz{t:AI}{u:AH}(h1:zi X e t)(h2:F3 X es u)
  (hs:autoParam ((jy (e :: es) X.env).map (·.2)=zr e X.env :: (jy es X.env).map (·.2)) Ar._auto_1):F3 X (e :: es) (fx t u):=by
 intro E pins s σ H τ G ws ds us Q hE I r rd h;unfold fx at h;split at h
 .cases rd with
  | cons jU Bf =>
   cases r with
   | cons r1 r2 =>
    rw [hs];refine assignInOrder_cons (gN (h1 E pins s σ H τ G _ _ _ _ hE I r1 jU h) ?_);rintro _ s1 ⟨Y2,H1,tR,G1,I1,m1,q1⟩;exact gN (h2 E pins s1 Y2 H1 tR G1 _ _ _ Q hE I1 r2 (Bf.mono (m1.kp I.ab)) q1) (by rintro _ _ ⟨ZX,H2,BJ,G2,lL,m2,q2⟩;exact⟨ZX,H2,BJ,G2,lL,m1.trans m2,q2⟩)
 .exact h.elim
theorem Rm{t:AH}(hc:@a5)(h:F3 X es t)(hgl:∀ E ds τ G Q,t E ds τ G Q->ds.length=n)
  (hn:autoParam ((jy es X.env).length=n) Ar._auto_1) (Bl:autoParam ((jy es X.env).findIdx? @t=none) Ar._auto_1):zi X (.Tuple es k pos) (mT t):=by
 intro E pins s σ H τ G w d u Q hE I r rd hw;unfold mT at hw;split at hw
 .cases rd with
  | tup hq rs =>
   cases r;obtain⟨bu,rv,ht,hz⟩:=I.inv.tuple (.of hq);refine assign_Tuple_tuple (I.inv.ok.hd hc) ht (by rw [hn,aU,<-rv.length,rs.length];exact(hgl _ _ _ _ _ hw).symm) Bl λh' hx=>?_;have I1:Inv X pins σ H @aZ:=I.inv.kept (t':=s.toks) λb o e=>hx b o (bx (aQ e)) e;exact h E pins _ σ H τ G _ _ _ Q hE ⟨I1,I.st,I.ab⟩ (by simpa using rv) rs hw
 .exact hw.elim
theorem OT:∀ E ds τ G Q,nE E ds τ G Q->ds.length=0:=by
 intro E ds τ G Q h;cases ds with
 | nil=>rfl
 | cons _ _=>exact h.elim
theorem Lp{t:AI}{u:AH}(h:∀ E ds τ G Q,u E ds τ G Q->ds.length=n)(hm:∀ E d τ G (Q Q':ie->@u),t E d τ G Q->(∀ mz G',Q mz G'->Q' mz G')->t E d τ G Q')(hx:∀ E d τ G,¬ t E d τ G @w) :
  ∀ E ds τ G Q,fx t u E ds τ G Q->ds.length=n+1:=by
 intro E ds τ G Q q;cases ds with
 | nil=>exact q.elim
 | cons d ds =>
  by_cases hl:ds.length=n
  .rw [af,hl]
  .exact absurd (hm E d τ G _ @r q λmz G' z=>hl (h _ _ _ _ _ z)) (hx E d τ G)
theorem Rg(he:eQ X e te)(hg:zi X tg g)(hs:autoParam (swapsWithSole [tg] e pos.line X.env=pure false) Ar._auto_1)(hw:autoParam (swappedStores [tg] e X.env=pure none) Ar._auto_1)
  (h1:autoParam ((jy [tg] X.env).map (·.2)=[zr tg X.env]) Ar._auto_1):xN X (.Assign [tg] e pos) (bh te g):=by
 intro E pins s σ H τ G D hE I h;refine wpAny_Assign_stores (lA he hE I h λx H1 d G1 v s1 I1 m1 r1 jU q1=>?_) hs hw;rw [h1];exact gN (hg E pins s1 σ H1 τ G1 x d v _ hE I1 r1 jU q1) (by rintro _ s2 ⟨ZX,H2,BJ,G2,lL,m2,q2⟩;exact⟨ZX,H2,BJ,G2,lL,m1.trans m2,q2⟩)
theorem Ra(hN:X.N.Nodup)(hi:X.N[i]?=some x)(hx:Loc X.env.scope x)(he:eQ X e te)(hs:autoParam (qU e (some (.Name x pos')) pos.line X.env=pure false) Ar._auto_1)(hf:autoParam (X.fn x=true\/@bQ=@a8) Ao._auto_1) :
  xN X (.Assign [.Name x pos'] e pos) (bh te (aG i)):=by
 intro E pins s σ H τ G D hE I h;refine wpAny_Assign_Name (lA he hE I h λy H1 d G1 v s1 I1 m1 r1 jU q1=>?_) hs;exact EJ I1.inv hN hi hx r1 (λs2 lL=>⟨_,H1,_,G1,⟨lL,I1.st.set i jU,I1.ab⟩,m1,q1⟩) hf
theorem Np(he:eQ X e te)(hs:autoParam (qU e none pos.line X.env=pure false) Ar._auto_1):xN X (.Expr e pos) (cp te):=by
 intro E pins s σ H τ G D hE I h;exact wpAny_Expr_any (lA he hE I h λy H1 d G1 v s1 I1 m1 r1 jU q1=>⟨σ,H1,τ,G1,I1,m1,q1⟩) I.inv.quiet hs
end
def Ti(K:aC)(J:It)(H':Hp)(ds:@f)(ok:@u):Prop :=
 ∀ i H1 G1,Kp H' H1->mX K H1 G1->ok G1->(∀ d,ds[i]?=some d->J.go i H1/\∀ x H2,J.yld i H1 x H2->cP K H2 x d/\Mv K H1 G1 H2 G1)/\(ds.length<=i->J.stop i H1)
inductive PG (X:Cx) (pins:@y) (σ:L2.St) (tg:Expr) (H:Hp) (G:Gp) (R:@f->(@u)->@u) (S0:Value) (s2:aF):Prop
 | mk (it:Addr) (fp:@aE) (tn:Nat->Heap->Prop) (J:It) (H':Hp) (G':Gp) (ds:@f) (ok:@u) (e:S0=.ref it) (i:Inv X pins σ H' s2) (m:@bo) (T:Turn X.prog X.w X.K tg J fp it tn) (t0:tn 0 s2.heap) (f:∀ b∈fp,qp X pins H' b)
  (wk:Ti X.K J H' ds ok) (q:R ds ok G'):PG X pins σ tg H G R S0 s2
def FZ(X:Cx)(tg iter:Expr)(wi:PC):Prop :=
 ∀ (E:lz) (pins:@y) (s:aF) (σ:L2.St) (H:Hp) (τ:ie) (G:Gp) (R:@f->(@u)->@u),Lk X E->@bz->wi E τ G R ->
  wpAny @s X.A (eval iter X.env) (λv s1=>wpAny @s X.A (Ir v) (PG X pins σ tg H G R) X.xe s1) X.xe s
section
variable {X:Cx} {tg:Expr} {a b:Expr} {ta tb:gG} {pos p:Pos}
theorem Jq{pins:@y}{σ:L2.St}{H H1:Hp}{G G1:Gp}{s1:aF}{l:Addr}{vs:@A}{ds:@f}{ok:@u}{R:@f->(@u)->@u}(I1:Inv X pins σ H1 s1)(m:Mv X.K H G H1 G1)(hq:tp X.K H1 l vs)
  (hk:∀ H2 G2,Kp H1 H2->mX X.K H2 G2->ok G2->∃ ws,tp X.K H2 l ws/\bp X.K H2 ws ds) (q:R ds ok G1):wpAny @s X.A (Ir (.ref l)) (PG X pins σ tg H G R) X.xe s1:=by
 obtain⟨bu,rv,pl,hz⟩:=I1.list hq;refine kn pl.isList ?_;refine⟨s1.heap.objs.size,[s1.heap.objs.size],_,_,H1,G1,ds,ok,rfl,I1.kept (t':=s1.toks) λb o e=>aO _ e,m,Kd l _,⟨_,bc _ rfl,rfl,rfl⟩,λb hb=>?_,λi H2 G2 k ab o=>?_,q⟩
 .have e:b=s1.heap.objs.size:=@bv
  subst e;exact I1.O1 @T (I1.du.fresh @T)
 .obtain⟨ws,hw,rd⟩:=hk H2 G2 k ab o;refine⟨λd hd=>?_,λhl=>⟨ws,hw,by rw [rd.length];exact hl⟩⟩;obtain⟨v,hv,r⟩:=rd.get hd;refine⟨⟨ws,v,hw,hv⟩,?_⟩;rintro x H3 ⟨e,y⟩;subst e;have:=y ws hw;rw [hv] at this;cases this;exact⟨r,@av⟩
theorem TH{pins:@y}{σ:L2.St}{H H1:Hp}{G G1:Gp}{s1:aF}{l:Addr}{vs:@A}{ds:@f}{R:@f->(@u)->@u}(I1:Inv X pins σ H1 s1)(m:Mv X.K H G H1 G1)(hq:AJ X.K H1 l vs)(rd:bp X.K H1 vs ds)
  (q:R ds (λ_=>True) G1):wpAny @s X.A (Ir (.ref l)) (PG X pins σ tg H G R) X.xe s1:=by
 obtain⟨bu,rv,pl,hz⟩:=I1.tuple hq;refine tM (show s1.heap.IsTuple l bu.toArray from pl) ?_;refine⟨s1.heap.objs.size,[s1.heap.objs.size],_,_,H1,G1,ds,_,rfl,I1.kept (t':=s1.toks) λb o e=>aO _ e,m,GH l _,⟨_,bc _ rfl,rfl,rfl⟩,λb hb=>?_,λi H2 G2 k ab _=>?_,q⟩
 .have e:b=s1.heap.objs.size:=@bv
  subst e;exact I1.O1 @T (I1.du.fresh @T)
 .have hw:=k.sqT hq;have Bf:=rd.mono k;refine⟨λd hd=>?_,λhl=>⟨vs,hw,by rw [rd.length];exact hl⟩⟩;obtain⟨v,hv,r⟩:=Bf.get hd;refine⟨⟨vs,v,hw,hv⟩,?_⟩;rintro x H3 ⟨e,y⟩;subst e;have:=y vs hw;rw [hv] at this;cases this;exact⟨r,@av⟩
theorem Rl(ha:eQ X a ta):FZ X tg a (fI ta):=by
 intro E pins s σ H τ G R hE I h;refine lA ha hE I h λx H1 d G1 v s1 I1 m1 r1 jU q1=>?_;cases jU with
 | tup hq rs=>cases r1;exact TH I1.inv m1 (.of hq) rs q1
 | eA hq rs=>cases r1;exact Jq I1.inv m1 hq.sq (λH2 G2 k ab _=>⟨_,(k.Wa hq).sq,rs.mono k⟩) q1
 | ref p =>
  cases r1;dsimp only at q1;split at q1
  .rename_i ds e;obtain⟨vs,hv,rs⟩:=I1.ab.lst e;refine Jq I1.inv m1 (.of hv) (λH2 G2 k ab o=>?_) q1;obtain⟨ws,hw,vd⟩:=ab.lst o;exact⟨ws,.of hw,vd⟩
  .exact q1.elim
 | uo _ _=>exact q1.elim
 | um _ _=>exact q1.elim
 | dj=>exact q1.elim
 | bl _=>exact q1.elim
 | int _=>exact q1.elim
 | str _=>exact q1.elim
 | exc _=>exact q1.elim
 | Gi _ _=>exact q1.elim
 | Ei _ _ _ _=>exact q1.elim
theorem M7{pins:@y}{σ:L2.St}{H H1:Hp}{G G1:Gp}{s:aF}{R:@f->(@u)->@u}{lo hi:Int}{t u v:Tok}{tk:Nat}(I:Inv X pins σ H1 s)(m:Mv X.K H G H1 G1)(h1:-(2 ^ 62)<=lo)(h2:lo < 2 ^ 62)(h3:-(2 ^ 62)<=hi)(h4:hi < 2 ^ 62)
  (q:R (dN lo (hi - lo).toNat) (λ_=>True) G1):wpAny @s X.A (Ir (@bb)) (PG X pins σ tg H G R) X.xe { s with heap:=s.heap.push { cls:=.type "range",data:=.fields #[.int lo t,.int hi u,.int 1 v] },toks:=tk }:=by
 refine gN (Nc (tg:=tg) I h1 h2 h3 h4 (R:=λJ H'=>J=Itr lo (hi - lo).toNat/\H'=H1) @aP) ?_;rintro S0 s2 ⟨it,fp,tn,J,H',e,lL,T,st,fo,eJ,eH⟩;subst eJ;subst eH;refine⟨it,fp,tn,_,H',G1,_,_,e,lL,m,T,st,fo,λi H2 G2 k ab _=>⟨λd hd=>?_,λhl=>?_⟩,q⟩
 .unfold dN at hd;rw [bP] at hd;cases wY:(bZ (hi - lo).toNat)[i]? with
  | none=>rw [wY] at hd;cases hd
  | some j =>
   rw [wY] at hd;obtain⟨sU,ej⟩:=List.getElem?_eq_some_iff.mp wY;rw [cV] at sU;rw [jg] at ej;subst ej;cases hd;refine⟨sU,?_⟩;rintro x H3 ⟨e1,e2⟩;subst e1;subst e2;exact⟨.int _,@av⟩
 .unfold dN at hl;rw [ai,cV] at hl;exact hl
theorem GZ (hg:Gl X "range") (hm:X.mg "range" = none) (ha:eQ X a ta) (hs:autoParam (bG [a] X.env=[(false,eval a X.env)]) Ar._auto_1):FZ X tg (.Call (.Name "range" p) [a] [] pos) (mO ta):=by
 intro E pins s σ H τ G R hE I h;have hA:yq X [a] (ag ta aH):=oQ ha y8 hs;refine Call_ (pZ I.inv hg hm boot_range (fX (zx hA pos hE I (R:=λds G1=>match ds with | [.int n]=>-(2 ^ 62)<=n/\n < 2 ^ 62/\R (dN 0 n.toNat) (λ_=>True) G1 | _=>False) ?_ λvs H1 ds G1 us s1 I1 m1 r1 jU q1=>?_) hs rfl))
 .show ta E τ G _;have e:(λ(x:D) (G1:Gp)=>match [x] with | [.int n]=>-(2 ^ 62)<=n/\n < 2 ^ 62/\R (dN 0 n.toNat) (λ_=>True) G1 | _=>False)=λx G1=>match x with | .int n=>-(2 ^ 62)<=n/\n < 2 ^ 62/\R (dN 0 n.toNat) (λ_=>True) G1 | _=>False:=by
   funext x G1;cases x <;> rfl
  exact e ▸ h
 .split at q1
  .rename_i n;obtain⟨w,rfl,C1⟩:=jU.one;cases C1;obtain⟨u,rfl,ru⟩:=r1.one;obtain⟨t,rfl⟩:=ru;obtain⟨q1,q2,q⟩:=q1;exact call_range_1 (M7 I1.inv m1 @c @c q1 q2 (by simpa using q))
  .exact q1.elim
theorem Rf(hp:PassesOwn @s X.A X.env X.xe)(hc:@a5)(hi:FZ X tg iter wi)(hg:zi X tg g)(hb:sg X body t)
  (hs:autoParam (∀ x,gM iter X.env x=pure x) Ai._auto_1):xN X (.For tg iter body [] pos) (cS wi g t):=by
 intro E pins s σ H τ G D hE I h;refine wpAny_For (gN (hi E pins s σ H τ G _ hE I h) λv s1 h1=>gN h1 λS0 s2 h2=>?_) hs;obtain⟨it,fp,tn,J,H2,G2,ds,ok,e,lL,m2,T,P4,f2,wk,q⟩:=h2;subst e;have TV:∀ {H':Hp},(∀ b∈fp,H' b=none)->∀ b∈fp,qp X pins H' b:=λhn b hb=>⟨hn b hb,(f2 b hb).2⟩;refine codeAny_forLoop_any (λn s'=>∃ i jD H' mz G',I2 X pins jD H' mz G' s'/\@bo/\Kp H2 H'/\tn i s'.heap/\(∀ b∈fp,H' b=none)/\n=ds.length - i/\i<=ds.length/\t6 g t ok (ds.drop i) E D mz G') ?_ ds.length
  ⟨0,σ,H2,τ,G2,I.mv lL m2,m2,.refl _,P4,λb hb=>(f2 b hb).1,rfl,ck _,q⟩
 rintro n s3 ⟨i,Qv,H3,Tu,G3,I3,m3,k3,Y7,fr3,rfl,hle,w3⟩;by_cases sU:i < ds.length
 .rw [gW sU] at w3;obtain⟨ok3,w3⟩:=w3;obtain⟨go,yl⟩:=(wk i H3 G3 k3 I3.ab ok3).1 ds[i] (by simp [sU]);refine jV hp (gN (T.item X rfl rfl rfl hc i pins s3 Qv H3 X.xe I3.inv (TV fr3) Y7 go) ?_);rintro r s4 ⟨u,hr,h4⟩;subst hr;refine jV hp (gN h4 ?_);rintro _ s5 ⟨x,H5,I5,r5,y5,Z9,fr5⟩;obtain⟨rd5,m5⟩:=yl x H5 y5;have I5':=I5.pinned (TV fr5) (T.obj _ _ Z9);have J5:I2 X (pins++rM fp s5.heap) Qv H5 Tu G3 s5:=⟨I5',I3.st.mono (m5.kp I3.ab),m5.ab⟩;refine jV hp (gN (hg E _ s5 Qv H5 Tu G3 x ds[i] u _ hE J5 r5 rd5 w3) ?_);rintro _ s6 ⟨σ6,H6,τ6,G6,I6,m6,q6⟩;refine jV hp (gN (hb E _ s6 σ6 H6 τ6 G6 _ hE I6 q6) λf s7 q7=>?_);have again:∀ {L3:L2.St} {H7:Hp} {L1:ie} {G7:Gp},I2 X (pins++rM fp s5.heap) L3 H7 L1 G7 s7->Mv X.K H6 G6 H7 G7->t6 g t ok (ds.drop (i+1)) E D L1 G7 ->
    ∃ m,m < ds.length - i/\∃ i jD H' mz G',I2 X pins jD H' mz G' s7/\@bo/\Kp H2 H'/\tn i s7.heap/\(∀ b∈fp,H' b=none)/\m=ds.length - i/\i<=ds.length/\t6 g t ok (ds.drop i) E D mz G':=λ{L3 H7 L1 G7} I7 m7 n7=>by
   have mm:=m5.trans (m6.trans m7);refine⟨ds.length - (i+1),@d,i+1,L3,H7,L1,G7,⟨I7.inv.uY,I7.st,I7.ab⟩,m3.trans mm,k3.trans (mm.kp I3.ab),T.keep _ _ _ Z9 λb hb o e=>(I7.inv.pin (b,o) (bW _ (bW _ (pX hb e)))).1,λb hb=>?_,rfl,sU,n7⟩;obtain⟨o,e,d⟩:=T.obj _ _ Z9 b hb;exact(I7.inv.pin (b,o) (bW _ (bW _ (pX hb e)))).2.1
  cases f with
  | next=>obtain⟨L3,H7,L1,G7,I7,m7,n7⟩:=q7;exact again I7 m7 n7
  | cont=>obtain⟨L3,H7,L1,G7,I7,m7,n7⟩:=q7;exact again I7 m7 n7
  | brk=>obtain⟨L3,H7,L1,G7,I7,m7,q7⟩:=q7;exact⟨L3,H7,L1,G7,⟨I7.inv.uY,I7.st,I7.ab⟩,m3.trans (m5.trans (m6.trans m7)),q7⟩
  | ret v=>obtain⟨x7,L3,H7,d7,G7,I7,m7,r7,rd7,q7⟩:=q7;exact⟨x7,L3,H7,d7,G7,I7.uY,m3.trans (m5.trans (m6.trans m7)),r7,rd7,q7⟩
 .have hn:ds.length<=i:=@d
  rw [lQ hn] at w3;obtain⟨ok3,qn⟩:=w3;have stop:=(wk i H3 G3 k3 I3.ab ok3).2 hn;refine jV hp (gN (T.done X rfl rfl rfl hc i pins s3 Qv H3 X.xe I3.inv (TV fr3) Y7 stop) ?_);rintro r s4 ⟨hr,I4⟩;subst hr;exact zk ⟨Qv,H3,Tu,G3,⟨I4,I3.st,I3.ab⟩,m3,qn⟩
theorem Kv(hp:PassesOwn @s X.A X.env X.xe)(hc:FY X c tc)(hb:sg X body t):xN X (.While c body [] pos) (DR tc t):=by
 intro E pins s σ H τ G D hE I h;obtain⟨n0,w0⟩:=h;refine wpAny_While (codeAny_whileLoop (λn s'=>∃ jD H' mz G',I2 X pins jD H' mz G' s'/\@bo/\yA tc t n E D mz G') ?_ n0 ⟨σ,H,τ,G,I,.refl I.ab,w0⟩);rintro n s1 ⟨Y2,H1,tR,G1,I1,m1,w1⟩;cases n with
 | zero=>exact w1.elim
 | succ n =>
  refine jV hp (MH hc hE I1 w1 λb H2 G2 s2 lL m2 q2=>?_);cases b with
  | true =>
   rw [if_pos rfl] at q2 ⊢;refine jV hp (gN (hb E pins s2 Y2 H2 tR G2 _ hE lL q2) λf s3 q3=>?_);cases f with
   | next=>obtain⟨Qv,H3,Tu,G3,I3,m3,n3⟩:=q3;exact⟨n,fB _,Qv,H3,Tu,G3,I3,m1.trans (m2.trans m3),n3⟩
   | cont=>obtain⟨Qv,H3,Tu,G3,I3,m3,n3⟩:=q3;exact⟨n,fB _,Qv,H3,Tu,G3,I3,m1.trans (m2.trans m3),n3⟩
   | brk=>exact q3.trans (m1.trans m2)
   | ret v=>exact q3.trans (m1.trans m2)
  | false =>
   rw [if_neg fW] at q2 ⊢;exact zk ⟨Y2,H2,tR,G2,lL,m1.trans m2,q2⟩
end
theorem C0(n d)(o):HT.jF n d o=jF n d o:=by cases o <;> rfl
theorem bp.cut{K:aC}(r:bp K H vs ds)(lo hi):bp K H (FN vs lo hi) (K2.cut ds lo hi):=by
 unfold FN K2.cut;rw [C0,C0,r.length];exact(r.drop _).take _
theorem bp.oz{K:aC}(r:bp K H vs ds)(h:K2.oz ds i=some d):∃ v,L2.oz vs i=@S/\cP K H v d:=by
 unfold K2.oz at h;cases e:K2.L8 ds.length i with
 | none=>rw [e] at h;cases h
 | some j =>
  rw [e] at h;obtain⟨v,h1,h2⟩:=r.get (show ds[j]?=some d from h);refine⟨v,?_,h2⟩;show (L2.L8 vs.length i).bind _=_;have e':L2.L8 vs.length i=some j:=by rw [r.length];exact e
  rw [e'];exact h1
section
variable {X:Cx} {a b c e:Expr} {ta tb tc te:gG} {pos p2:Pos}
theorem jM(I:@l)(ab:mX X.K H G)(rx:RelV x v)(rd:cP X.K H x d)(hi:oU d G=some zs) :
  ∃ l vs bu,v=.ref l/\Vals vs bu/\bp X.K H vs zs/\s.heap.IsList l bu.toArray/\vs.length<=bw:=by
 cases rd with
 | eA hq rs =>
  cases hi;cases rx;obtain⟨bu,rv,pl,hz⟩:=I.list hq.sq;exact⟨_,_,bu,rfl,rv,rs,pl.isList,hz⟩
 | ref l =>
  unfold oU at hi;dsimp only at hi;cases hg:G l with
  | none=>rw [hg] at hi;cases hi
  | some gg =>
   rw [hg] at hi;cases gg with
   | lst ds =>
    cases hi;cases rx;obtain⟨vs,hv,rs⟩:=ab.lst hg;obtain⟨bu,rv,pl,hz⟩:=I.list (.of hv);exact⟨_,_,bu,rfl,rv,rs,pl.isList,hz⟩
   | ins _ _=>cases hi
   | Gj _=>cases hi
   | kg _=>cases hi
 | _=>cases hi
theorem kJ(I:@l)(F0:Fr X.base X.env.locals s.heap m)(F:Fr X.base X.env.locals h' m)(N:News X.base X.env.locals h' (qo X.base s.heap X.env.locals)) :
  (∀ b o,@bJ->@ar=@j->@al=@j)/\∀ m',s.heap.Ns X.env.locals m'->h'.Ns X.env.locals m':=by
 refine⟨λb o hb e=>?_,λm' hm=>?_⟩
 .cases q:X.base.get? b with
  | some u =>
   have:=I.bk b u q;rw [e] at this;cases this;exact F.keep b _ q
  | none=>exact(N (b,o) (kZ hb q e)).1
 .have e1:=hm.eq_nsMap;have e2:=F0.ns.eq_nsMap;rw [e1,<-e2];exact F.ns
theorem mf{a:Addr}:∀ {o:HO},iA P w H h a o->∃ ob,@aK=some ob:=by
 intro o x;cases o with
 | lst _=>obtain⟨_,_,_,_,e⟩:=x;exact⟨_,e⟩
 | tup _=>obtain⟨_,_,_,ob,e,_⟩:=x;exact⟨ob,e⟩
 | dK _=>obtain⟨_,_,_,_,ob,_,_,e,_⟩:=x;exact⟨ob,e⟩
 | dT _=>obtain⟨_,_,_,_,ob,_,_,e,_⟩:=x;exact⟨ob,e⟩
 | set _ _=>obtain⟨ob,_,_,_,e,_⟩:=x;exact⟨ob,e⟩
 | ins _ _ _=>obtain⟨_,_,_,e,_⟩:=x;exact⟨_,e⟩
 | own _=>exact x
 | xd _=>obtain⟨_,⟨ob,_,_,e,_⟩,_⟩:=x;exact⟨ob,e⟩
 | met _ _=>exact⟨_,x⟩
 | Y9 _ _=>obtain⟨_,_,_,e⟩:=x;exact⟨_,e⟩
 | ni _ _=>exact⟨_,x.1⟩
 | SA _=>obtain⟨_,e,_⟩:=x;exact⟨_,e⟩
 | ext _=>exact x.2.1
theorem v5{a:Addr}(ok:uL P w H h)(e:@aK=none):H a=none:=by
 cases q:H a with
 | none=>rfl
 | some o =>
  obtain⟨ob,z⟩:=mf (ok a o q);rw [e] at z;cases z
theorem Inv.Fo(I:@l){a:Addr}(k:∀ b o,@bJ->@ar=@j->@al=@j)(ns:∀ m',s.heap.Ns X.env.locals m'->h'.Ns X.env.locals m')
  (hp:s.heap.get? a=none) (new:iA X.prog X.w (upd H a o) h' a o):Inv X pins σ (upd H a o) { s with heap:=h',toks:=t' }:=by
 have hn:H a=none:=v5 I.du hp;have ne:∀ b u,H b=@R->b≠a:=λb u e=>eL e hn;have nL:∀ b u,H b=@R->@bJ:=λb u e=>eL e I.free;have ht:∀ b u,@ar=@R->b≠a:=λb u e z=>by subst z;rw [hp] at e;cases e
 have thL:∃ o',h'.get? X.env.locals=some o':=by
  obtain⟨m,hm,_⟩:=I.loc;obtain⟨o',_,_,ho,_⟩:=ns m hm;exact⟨o',ho⟩
 refine I.step (g':=s.gens) (d':=s.drawn) (ch:=[]) (λb hb=>absurd hb @k) (λb o hL _ _ e _=>k b o hL e) (λb o hL _ _ e _=>⟨o.slots,k b o hL e⟩) (λb o _ e n=>by rw [bY (ht b o e)];exact n)
  (λb o _ e=>?_) (λb xs e=>by rw [bY (ne _ _ e)];exact e) (λb o u e=>by rw [bY (ne _ _ e)];exact e) (λb ps e=>by rw [bY (ne _ _ e)];exact e) (λb ps e=>by rw [bY (ne _ _ e)];exact e) ns (λb u e=>?_) I.bare
 .by_cases hb:b=X.env.locals
  .rw [hb];exact thL
  .exact⟨o,k b o hb e⟩
 .by_cases hb:b=a
  .subst hb;rw [dv] at e;cases e;exact new
  .rw [bY hb] at e;refine(I.du b u e).nZ (λc v hc r=>k c v ?_ r) (λc z=>by rw [bY (ne _ _ z)];exact z) (λc xs z=>by rw [bY (ne _ _ z)];exact z);rcases hc with rfl | hc
   .exact nL _ _ e
   .exact nL _ _ hc
theorem RN:pB X (jc .Add) jS:=by
 intro pins s σ H G x y dx dy v u Q I ab rx ry dX dY q;have lists:D5 dx dy G Q->wpAny @s X.A (jc .Add v u) @bd X.xe s:=by
  intro q;unfold D5 at q;split at q
  .rename_i xs ys e1 e2;obtain⟨hz,q⟩:=q;obtain⟨l,vs,bu,rfl,rv,rs,hl,_⟩:=jM I ab rx dX e1;obtain⟨b,ws,tH,rfl,Kn,SF,hb,_⟩:=jM I ab ry dY e2;obtain⟨m,F0⟩:=I.fr;have hsz:bu.length+tH.length<=bw:=by rw [<-rv.length,<-Kn.length,rs.length,SF.length,cq];exact hz
   refine PyProof.Rows.add_lists F0 vM hl hb (λh' F N=>?_) hsz;obtain⟨kk,ns⟩:=kJ I F0 F λp hp=>N p (aL _ hp);have hp:H s.heap.objs.size=none:=I.du.fresh @T;refine⟨@bb,upd H s.heap.objs.size (.lst (vs++ws)),.ref _,_,Inv.Fo (t':=s.toks) I kk ns (Qt @T) ?_,.Bh ab hp (rs.append SF),rfl,.ref _,q _ (ab.free hp)⟩;exact⟨by rw [aq,rv.length,Kn.length];exact hsz,bu++tH,0,rv.append Kn,(N _ a9).1⟩
  .exact q.elim
 cases dX with
 | int i =>
  cases dY with
  | int j=>exact gN (UO pins s σ H _ _ v u (A2 X.K H G Q) I rx ry ⟨i,j,rfl,rfl,_,_,@av,.int _,q⟩) λ_ _ z=>.of z
  | _=>exact lists q
 | str i =>
  cases dY with
  | str j =>
   obtain⟨hz,q⟩:=q;exact gN (He pins s σ H _ _ v u (A2 X.K H G Q) I rx ry ⟨i,j,rfl,rfl,by rw [cq];exact hz,_,_,@av,.str _,q⟩) λ_ _ z=>.of z
  | _=>exact lists q
 | tup h1 r1 =>
  cases dY with
  | tup h2 r2 =>
   obtain⟨hn,hz,q⟩:=q;refine gN (RI pins s σ H _ _ v u (A2 X.K H G Q) I rx ry ⟨_,_,_,_,rfl,rfl,.of h1,.of h2,?_,?_,λe=>?_,λe p hp=>?_⟩) λ_ _ z=>.of z
   .rintro rfl;cases r1;exact hn rfl
   .rw [r1.length,r2.length,cq];exact hz
   .subst e;cases r2;rw [bq] at q;exact⟨_,_,@av,.tup h1 r1,q⟩
   .exact⟨_,_,.Qc ab hp,.tup dv ((r1.append r2).mono (.new hp)),q⟩
  | _=>exact lists q
 | ref l=>exact lists (by rw [j9] at q;exact q)
 | eA _ _=>exact lists (by rw [mG] at q;exact q)
 | _=>exact lists (by cases dY <;> exact q)
theorem RJ:pB X (jc .Sub) C6:=by
 intro pins s σ H G x y dx dy v u Q I ab rx ry dX dY q;cases dX with
 | int i =>
  cases dY with
  | int j=>exact gN (UJ pins s σ H _ _ v u (A2 X.K H G Q) I rx ry ⟨i,j,rfl,rfl,_,_,@av,.int _,q⟩) λ_ _ z=>.of z
  | _=>exact bK q
 | _=>exact bK q
theorem RL:pB X (jc .Mult) lF:=by
 intro pins s σ H G x y dx dy v u Q I ab rx ry dX dY q;cases dX with
 | int i =>
  cases dY with
  | int j=>exact gN (UL pins s σ H _ _ v u (A2 X.K H G Q) I rx ry ⟨i,j,rfl,rfl,q.1,_,_,@av,.int _,q.2⟩) λ_ _ z=>.of z
  | _=>exact bK q
 | _=>exact bK q
theorem RM:pB X (jc .Mod) jj:=by
 intro pins s σ H G x y dx dy v u Q I ab rx ry dX dY q;cases dX with
 | int i =>
  cases dY with
  | int j=>exact gN (UM pins s σ H _ _ v u (A2 X.K H G Q) I rx ry ⟨i,j,rfl,rfl,q.1,_,_,@av,.int _,q.2⟩) λ_ _ z=>.of z
  | _=>exact bK q
 | _=>exact bK q
theorem NI:pB X (jc .FloorDiv) kY:=by
 intro pins s σ H G x y dx dy v u Q I ab rx ry dX dY q;cases dX with
 | int i =>
  cases dY with
  | int j=>exact gN (RH pins s σ H _ _ v u (A2 X.K H G Q) I rx ry ⟨i,j,rfl,rfl,⟨q.1,q.2.1⟩,_,_,@av,.int _,q.2.2⟩) λ_ _ z=>.of z
  | _=>exact bK q
 | _=>exact bK q
theorem UQ(hu:X.A.units < cLine):pB X (fN .Lt) Wc:=by
 intro pins s σ H G x y dx dy v u Q I ab rx ry dX dY q;cases dX with
 | int i =>
  cases dY with
  | int j=>exact gN (W2 pins s σ H _ _ v u (A2 X.K H G Q) I rx ry ⟨i,j,rfl,rfl,_,_,@av,.bl _,q⟩) λ_ _ z=>.of z
  | _=>exact bK q
 | tup h1 r1 =>
  cases dY with
  | tup h2 r2 =>
   obtain⟨xs,ys,e1,e2,q⟩:=q;subst e1 e2;have z1:=r1.ints;have z2:=r2.ints;subst z1 z2;have el:∀ xs ys:@G,HT.lexLt xs ys=K2.lexLt xs ys:=by
    intro xs;induction xs with
    | nil=>intro ys;cases ys <;> rfl
    | cons x xs ih=>intro ys;cases ys with
     | nil=>rfl
     | cons y ys=>unfold HT.lexLt K2.lexLt;rw [ih]
   exact gN (UN hu pins s σ H _ _ v u (A2 X.K H G Q) I rx ry ⟨_,_,xs,ys,rfl,rfl,.of h1,.of h2,_,_,@av,.bl _,by rw [el];exact q⟩) λ_ _ z=>.of z
  | _=>exact bK q
 | _=>exact bK q
theorem US:pB X (fN .Gt) WT:=by
 intro pins s σ H G x y dx dy v u Q I ab rx ry dX dY q;cases dX with
 | int i =>
  cases dY with
  | int j=>exact gN (W3 pins s σ H _ _ v u (A2 X.K H G Q) I rx ry ⟨i,j,rfl,rfl,_,_,@av,.bl _,q⟩) λ_ _ z=>.of z
  | _=>exact bK q
 | _=>exact bK q
mutual
def pd:D->PyData
 | .dj=>.none
 | .bl b=>.bool b
 | .int i=>@Y
 | .str x=>.str x
 | .tup ds=>.tuple (kI ds)
 | .eA ds=>.list (kI ds)
 | .mC _=>.none
 | .exc _=>.none
 | .Gi _ _ _=>.none
 | .Ei _=>.none
 | .ref _=>.none
def kI:@f->List PyData
 | []=>[]
 | d :: r=>pd d :: kI r
end
mutual
theorem rW:∀ (s t:D),nr s=true->nr t=true->uS (pd s) (pd t)=iI s t
 | .dj,t,_,ht=>by cases t <;> first | rfl | (ext i)
 | .bl a,t,_,ht=>by cases t <;> first | rfl | (ext i)
 | .int a,t,_,ht=>by cases t <;> first | rfl | (ext i)
 | .str a,t,_,ht=>by cases t <;> first | rfl | (ext i)
 | .tup a,t,hs,ht=>by
  cases t with
  | tup b=>exact DN a b hs ht
  | ref _=>ext i
  | exc _=>ext i
  | Gi _ _ _=>ext i
  | Ei _=>ext i
  | mC _=>ext i
  | _=>rfl
 | .eA a,t,hs,ht=>by
  cases t with
  | eA b=>exact DN a b hs ht
  | ref _=>ext i
  | exc _=>ext i
  | Gi _ _ _=>ext i
  | Ei _=>ext i
  | mC _=>ext i
  | _=>rfl
 | .ref _,_,hs,_=>bF (show false=true from hs)
 | .exc _,_,hs,_=>bF (show false=true from hs)
 | .Gi _ _ _,_,hs,_=>bF (show false=true from hs)
 | .Ei _,_,hs,_=>bF (show false=true from hs)
 | .mC _,_,hs,_=>bF (show false=true from hs)
theorem DN:∀ (s t:@f),pF s=true->pF t=true->PyData.eqvAll (kI s) (kI t)=kc s t
 | [],[],_,_=>rfl
 | [],_ :: _,_,_=>rfl
 | _ :: _,[],_,_=>rfl
 | a :: r,b :: t,hs,ht=>by
  have Wh:nr a=true/\pF r=true:=(jT).mp hs;have Oz:nr b=true/\pF t=true:=(jT).mp ht;show (uS (pd a) (pd b)&&PyData.eqvAll (kI r) (kI t))=(iI a b&&kc r t);rw [rW a b Wh.1 Oz.1,DN r t Wh.2 Oz.2]
end
mutual
theorem jk:∀ (s:D),nr s=true->(pd s).canLay0=true
 | .dj,_=>rfl
 | .bl a,_=>rfl
 | .int a,_=>rfl
 | .str a,h=>h
 | .tup a,h=>vT a h
 | .eA a,h=>vT a h
 | .exc _,_=>rfl
 | .Gi _ _ _,_=>rfl
 | .Ei _,_=>rfl
 | .ref _,_=>rfl
 | .mC _,_=>rfl
theorem vT:∀ (s:@f),pF s=true->PyData.canLayAll0 (kI s)=true
 | [],_=>rfl
 | a :: r,h=>by
  have h':nr a=true/\pF r=true:=(jT).mp h;show ((pd a).canLay0&&PyData.canLayAll0 (kI r))=true;rw [jk a h'.1,vT r h'.2];rfl
end
theorem Az(h:Sn G n d t):(pd t).depth<=n:=by
 induction h with
 | dj=>exact ck _
 | bl b=>exact ck _
 | int i=>exact ck _
 | str x h=>exact ck _
 | EH=>exact uM (ck _)
 | oC _ _ Ow Ov =>
  exact uM (Nat.max_le.mpr ⟨Ow,uU Ov⟩)
 | M6=>exact uM (ck _)
 | EV _ _ Ow Ov =>
  exact uM (Nat.max_le.mpr ⟨Ow,uU Ov⟩)
 | ref _ _ ih=>exact ih
theorem iC(I:@l)(ab:mX X.K H G)(h:Sn G n d t) :
  (∀ v u,cP X.K H v d->RelV v u->∃ as,Reads s.heap u (pd t) as) /\
  (∀ ds ss,(d=.eA ds/\t=.eA ss)\/(d=.tup ds/\t=.tup ss)->∀ vs us,bp X.K H vs ds->Vals vs us->∃ as,fV s.heap us (kI ss) as):=by
 have Sz:∀ {ds ss:@f},(∀ vs us,bp X.K H vs ds->Vals vs us->∃ as,fV s.heap us (kI ss) as)->∀ v u,cP X.K H v (.tup ds)->RelV v u->∃ as,Reads s.heap u (pd (.tup ss)) as:=by
  intro ds ss k v u r ru;cases r with
  | tup hq rs =>
   cases ru;obtain⟨bu,rv,⟨o,ho,hc,n,hd⟩,hz⟩:=I.tuple (.of hq);obtain⟨as,ra⟩:=k _ bu rs rv;exact⟨as,.tuple ho hc hd (by simpa using ra)⟩
 have SG:∀ {ds ss:@f},(∀ vs us,bp X.K H vs ds->Vals vs us->∃ as,fV s.heap us (kI ss) as)->∀ v u,cP X.K H v (.eA ds)->RelV v u->∃ as,Reads s.heap u (pd (.eA ss)) as:=by
  intro ds ss k v u r ru;cases r with
  | eA hq rs =>
   cases ru;obtain⟨bu,rv,pl,hz⟩:=I.list hq.sq;obtain⟨o,ho,hc,n,hd⟩:=pl.isList;obtain⟨as,ra⟩:=k _ bu rs rv;exact⟨_,.list ho hc hd (by simpa using ra)⟩
 induction h with
 | dj=>exact⟨λv u r ru=>by cases r;cases ru;exact⟨_,.none⟩,λds ss e=>by rcases e with ⟨e,_⟩ | ⟨e,_⟩ <;> cases e⟩
 | bl b=>exact⟨λv u r ru=>by cases r;cases ru;exact⟨_,.bool b⟩,λds ss e=>by rcases e with ⟨e,_⟩ | ⟨e,_⟩ <;> cases e⟩
 | int i=>exact⟨λv u r ru=>by cases r;obtain⟨t,rfl⟩:=ru;exact⟨_,.int i t⟩,λds ss e=>by rcases e with ⟨e,_⟩ | ⟨e,_⟩ <;> cases e⟩
 | str x hx=>exact⟨λv u r ru=>by cases r;obtain⟨t,rfl⟩:=ru;exact⟨_,.str x t⟩,λds ss e=>by rcases e with ⟨e,_⟩ | ⟨e,_⟩ <;> cases e⟩
 | EH =>
  have k:∀ vs us,bp X.K H vs []->Vals vs us->∃ as,fV s.heap us (kI []) as:=λvs us r ru=>by
   have e:=r.zero;subst e;cases ru;exact⟨_,.nil⟩
  refine⟨Sz k,λds ss e=>?_⟩;rcases e with ⟨e,_⟩ | ⟨e,e2⟩
  .cases e
  .cases e;cases e2;exact k
 | oC h1 h2 Ow Ov =>
  have k2:=Ov.2 _ _ (.inr @aP);have k:∀ vs us,bp X.K H vs (_ :: _)->Vals vs us->∃ as,fV s.heap us (kI (_ :: _)) as:=λvs us r ru=>by
   cases r with
   | cons r1 r2 =>
    cases ru with
    | cons u1 u2 =>
     obtain⟨as,ra⟩:=Ow.1 _ _ r1 u1;obtain⟨bs,rb⟩:=k2 _ _ r2 u2;exact⟨_,.cons ra rb⟩
  refine⟨Sz k,λds ss e=>?_⟩;rcases e with ⟨e,_⟩ | ⟨e,e2⟩
  .cases e
  .cases e;cases e2;exact k
 | M6 =>
  have k:∀ vs us,bp X.K H vs []->Vals vs us->∃ as,fV s.heap us (kI []) as:=λvs us r ru=>by
   have e:=r.zero;subst e;cases ru;exact⟨_,.nil⟩
  refine⟨SG k,λds ss e=>?_⟩;rcases e with ⟨e,e2⟩ | ⟨e,_⟩
  .cases e;cases e2;exact k
  .cases e
 | EV h1 h2 Ow Ov =>
  have k2:=Ov.2 _ _ (.inl @aP);have k:∀ vs us,bp X.K H vs (_ :: _)->Vals vs us->∃ as,fV s.heap us (kI (_ :: _)) as:=λvs us r ru=>by
   cases r with
   | cons r1 r2 =>
    cases ru with
    | cons u1 u2 =>
     obtain⟨as,ra⟩:=Ow.1 _ _ r1 u1;obtain⟨bs,rb⟩:=k2 _ _ r2 u2;exact⟨_,.cons ra rb⟩
  refine⟨SG k,λds ss e=>?_⟩;rcases e with ⟨e,e2⟩ | ⟨e,_⟩
  .cases e;cases e2;exact k
  .cases e
 | ref hg h1 ih =>
  refine⟨λv u r ru=>?_,λds ss e=>by rcases e with ⟨e,_⟩ | ⟨e,_⟩ <;> cases e⟩;cases r;cases ru;obtain⟨vs,hv,rs⟩:=ab.lst hg;obtain⟨bu,rv,pl,hz⟩:=I.list (.of hv);obtain⟨o,ho,hc,n,hd⟩:=pl.isList;obtain⟨as,ra⟩:=ih.2 _ _ (.inl @aP) vs bu rs rv;exact⟨_,.list ho hc hd (by simpa using ra)⟩
theorem UT(hu:@bq):pB X (fN .Eq) @ap:=by
 intro pins s σ H G x y dx dy v u Q I ab rx ry dX dY q;obtain⟨a,b,sa,sb,q⟩:=q;obtain⟨as,ra⟩:=(iC I ab sa).1 x v dX rx;obtain⟨bs,rb⟩:=(iC I ab sb).1 y u dY ry;have d1:=Az sa;refine SeqAt.compareEq_reads ra rb (jk _ sa.nr) (jk _ sb.nr) (by unfold SN at d1;lia) ?_;rw [rW _ _ sa.nr sb.nr];exact⟨.bl _,H,.bl _,G,I,@av,rfl,.bl _,q⟩
theorem UP(hu:@bq):pB X (fN .NotEq) (kS true):=by
 intro pins s σ H G x y dx dy v u Q I ab rx ry dX dY q;obtain⟨a,b,sa,sb,q⟩:=q;obtain⟨as,ra⟩:=(iC I ab sa).1 x v dX rx;obtain⟨bs,rb⟩:=(iC I ab sb).1 y u dY ry;have d1:=Az sa;refine SeqAt.compareNe_reads ra rb (jk _ sa.nr) (jk _ sb.nr) (by unfold SN at d1;lia) ?_;rw [rW _ _ sa.nr sb.nr];exact⟨.bl _,H,.bl _,G,I,@av,rfl,.bl _,q⟩
end
theorem wj(j k):iI (fA j) (fA k)=decide (j=k):=by
 cases j with
 | inl a=>cases k with
  | inl b=>rw [Oi];rfl
  | inr b=>exact(decide_eq_false (λz=>nomatch z)).symm
 | inr a=>cases k with
  | inl b=>exact(decide_eq_false (λz=>nomatch z)).symm
  | inr b=>rw [Oh];exact(P0 a b)
theorem Co:∀ (js ks:@N),kc (js.map fA) (ks.map fA)=decide (js=ks)
 | [],[]=>(decide_eq_true rfl).symm
 | [],_ :: _=>(decide_eq_false (λz=>nomatch z)).symm
 | _ :: _,[]=>(decide_eq_false (λz=>nomatch z)).symm
 | j :: js,k :: ks=>by
  show (iI (fA j) (fA k)&&kc (js.map fA) (ks.map fA))=_;rw [wj,Co js ks,AB]
theorem wg(js ks:@N):iI (.tup (js.map fA)) (.tup (ks.map fA))=decide (js=ks):=by
 exact Co js ks
section
variable {K:aC} {H:Hp}
theorem Dm(h:fw d=true):∃ k:Key,d=fA k:=by
 cases d with
 | int i=>exact⟨.inl i,rfl⟩
 | str x=>exact⟨.inr x,rfl⟩
 | _=>exact absurd h (by simp [fw])
theorem Jt:∀ {ds:@f},ds.all fw=true->∃ ks:@N,ds=ks.map fA
 | [],_=>⟨[],rfl⟩
 | d :: r,h=>by
  rw [LX,aR] at h;obtain⟨k,rfl⟩:=Dm h.1;obtain⟨ks,rfl⟩:=Jt h.2;exact⟨k :: ks,rfl⟩
theorem Jv(h:uC d=true):∃ ks:@N,d=.tup (ks.map fA):=by
 cases d with
 | tup ds=>obtain⟨ks,rfl⟩:=Jt (ds:=ds) h;exact⟨ks,rfl⟩
 | _=>exact absurd h (by simp [uC])
theorem C5(r:cP K H v (fA k)):v=kV k:=by
 cases k with
 | inl i=>cases r;rfl
 | inr x=>cases r;rfl
theorem EU:∀ {vs:@A} {ks:@N},bp K H vs (ks.map fA)->vs=ks.map kV
 | _,[],r=>r.zero
 | _,k :: ks,r=>by
  rw [az] at r;cases r with
  | cons r1 r2=>rw [C5 r1,EU r2];rfl
theorem vj{ks:@N}(r:cP K H v (.tup (ks.map fA))):∃ b,v=@X/\H b=some (.tup (ks.map kV)):=by
 cases r with
 | tup h rs=>have e:=EU rs;subst e;exact⟨_,rfl,h⟩
theorem pH.look(r:pH K H kv bo)(k):(∃ v d,lR kv k=@S/\K2.look bo (fA k)=some d/\cP K H v d)\/(lR kv k=none/\K2.look bo (fA k)=none):=by
 induction r using pH.ind with
 | nil=>exact .inr @aP
 | @cons j v d r t rd rs ih =>
  by_cases e:j=k
  .left;refine⟨v,d,rm (p:=(j,v)) e,?_,rd⟩;unfold K2.look;rw [Mr (by show iI (fA j) (fA k)=true;rw [wj];exact decide_eq_true e)];rfl
  .have e1:lR ((j,v) :: r) k=lR r k:=rp (p:=(j,v)) e;have e2:K2.look ((fA j,d) :: t) (fA k)=K2.look t (fA k):=by
    unfold K2.look;rw [Mt (by show ¬ iI (fA j) (fA k)=true;rw [wj];simpa using e)]
   rw [e1,e2];exact ih
theorem sv.look(r:sv K H kv bo)(k):(∃ v d,lR kv k=@S/\K2.look bo (.tup (k.map fA))=some d/\cP K H v d)\/(lR kv k=none/\K2.look bo (.tup (k.map fA))=none):=by
 induction r using sv.ind with
 | nil=>exact .inr @aP
 | @cons j v d r t rd rs ih =>
  by_cases e:j=k
  .left;refine⟨v,d,rm (p:=(j,v)) e,?_,rd⟩;unfold K2.look;rw [Mr (by show iI (.tup (j.map fA)) (.tup (k.map fA))=true;rw [wg];exact decide_eq_true e)];rfl
  .have e1:lR ((j,v) :: r) k=lR r k:=rp (p:=(j,v)) e;have e2:K2.look ((.tup (j.map fA),d) :: t) (.tup (k.map fA))=K2.look t (.tup (k.map fA)):=by
    unfold K2.look;rw [Mt (by show ¬ iI (.tup (j.map fA)) (.tup (k.map fA))=true;rw [wg];simpa using e)]
   rw [e1,e2];exact ih
theorem pH.any(r:pH K H kv bo)(k):(kv.any λp=>decide (p.1=k))=bo.any λp=>iI p.1 (fA k):=by
 induction r using pH.ind with
 | nil=>rfl
 | @cons j v d r t rd rs ih=>simp only [oy];rw [ih,wj]
theorem sv.any(r:sv K H kv bo)(k):(kv.any λp=>decide (p.1=k))=bo.any λp=>iI p.1 (.tup (k.map fA)):=by
 induction r using sv.ind with
 | nil=>rfl
 | @cons j v d r t rd rs ih=>simp only [oy];rw [ih,wg]
theorem pH.put(r:pH K H kv bo)(k)(rd:cP K H v d):pH K H (putK kv k v) (K2.put bo (fA k) d):=by
 unfold putK K2.put;rw [r.any k];by_cases h:(bo.any λp=>iI p.1 (fA k))=true
 .rw [if_pos h,if_pos h];clear h;induction r using pH.ind with
  | nil=>exact .nil
  | @cons j w e r t re rs ih =>
   simp only [az];rw [wj];by_cases e:j=k
   .simp only [e,if_true,decide_true];exact .cons rd ih
   .simp only [e,if_false,decide_false,aj];exact .cons re ih
 .rw [if_neg h,if_neg h];clear h;induction r using pH.ind with
  | nil=>exact .cons rd .nil
  | cons re rs ih=>exact .cons re ih
theorem sv.put(r:sv K H kv bo)(k)(rd:cP K H v d):sv K H (putK kv k v) (K2.put bo (.tup (k.map fA)) d):=by
 unfold putK K2.put;rw [r.any k];by_cases h:(bo.any λp=>iI p.1 (.tup (k.map fA)))=true
 .rw [if_pos h,if_pos h];clear h;induction r using sv.ind with
  | nil=>exact .nil
  | @cons j w e r t re rs ih =>
   simp only [az];rw [wg];by_cases e:j=k
   .simp only [e,if_true,decide_true];exact .cons rd ih
   .simp only [e,if_false,decide_false,aj];exact .cons re ih
 .rw [if_neg h,if_neg h];clear h;induction r using sv.ind with
  | nil=>exact .cons rd .nil
  | cons re rs ih=>exact .cons re ih
end
theorem Kp.putD{H:Hp}{p:Addr}{o o':HO}(hp:H p=@j)(h:(∃ k,o=.dK k)\/∃ k,o=.dT k):Kp H (upd H p o') :=
 ⟨λa ys e=>by rw [bY (by ext c;rw [hp] at e;rcases h with ⟨_,rfl⟩ | ⟨_,rfl⟩ <;> cases e)];exact e,λa ob u e=>by rw [bY (by ext c;rw [hp] at e;rcases h with ⟨_,rfl⟩ | ⟨_,rfl⟩ <;> cases e)];exact e⟩
section
variable {X:Cx} {pins:@y} {σ:L2.St} {H:Hp} {s:aF} {G:Gp} {a:Addr} {bo:@ay} {k:D} {y:V}
theorem toT(I:@l)(e:H a=some (.dK [])):Inv X pins σ (upd H a (.dT [])) s:=by
 obtain⟨z,hd,vs,rel,dd⟩:=JH I.du e;have hv:vs=[]:=by cases rel;rfl
 subst hv;obtain⟨o,es,ep,ho,hx,Fu,hko,hl,nd⟩:=dd;have he:es=#[]:=by
  cases hq:es.toList with
  | nil=>simpa using hq
  | cons _ _=>rw [hq] at hl;cases hl
 subst he;exact I.write (h':=s.heap) (t':=s.toks) (x:=a) (e:=a) (by rw [e];exact iT) @af (λb u _ q=>q) ⟨o,ho⟩ ⟨ck _,hd,[],.nil,o,#[],ep,ho,hx,Fu,rfl,fL⟩
theorem toK(I:@l)(e:H a=some (.dT [])):Inv X pins σ (upd H a (.dK [])) s:=by
 obtain⟨z,hd,xs,rel,o,es,ep,ho,hx,Fu,hl,nd⟩:=I.du a _ e;have hv:xs=[]:=by cases rel;rfl
 subst hv;have he:es=#[]:=by simpa using hl
 subst he;exact I.write (h':=s.heap) (t':=s.toks) (x:=a) (e:=a) (by rw [e];exact iT) @af (λb u _ q=>q) ⟨o,ho⟩ ⟨ck _,hd,[],.nil,o,#[],ep,ho,hx,Fu,(λ_ h=>by simp at h),.nil,fL⟩
theorem Jl(ab:mX X.K H G)(hg:G a=some (.kg bo))(k:Kp H (upd H a o))(ho:PT X.K (upd H a o) a (.kg bo)):Mv X.K H G (upd H a o) G:=by
 have m:=Mv.put ab hg k ho;have e:dB G a (.kg bo)=G:=by
  funext b;unfold dB;split
  .rename_i z;rw [z,hg]
  .rfl
 rw [e] at m;exact m
theorem JI(I:@l)(ab:mX X.K H G)(hg:G a=some (.kg bo))(hk:iH bo k=true)(ry:cP X.K H y k) :
  ∃ H',Inv X pins σ H' s/\Mv X.K H G H' G/\((∃ (kv:List (Key×V)) (kk:Key),H' a=some (.dK kv)/\pH X.K H' kv bo/\k=fA kk/\y=kV kk)\/∃ (kv:List (@N×V)) (kk:@N) (b:Addr),H' a=some (.dT kv)/\sv X.K H' kv bo/\k=.tup (kk.map fA)/\y=@X/\H' b=some (.tup (kk.map kV))):=by
 unfold iH at hk;rw [fS,aR,aR] at hk;rcases hk with ⟨h1,h2⟩ | ⟨h1,h2⟩
 .obtain⟨kk,rfl⟩:=Dm h1;have ey:=C5 ry;subst ey;rcases ab a _ hg with ⟨kv,hv,rs⟩ | ⟨kv,hv,rs⟩
  .exact⟨H,I,@av,.inl ⟨kv,kk,hv,rs,rfl,rfl⟩⟩
  .cases rs with
   | nil =>
    refine⟨_,toK I hv,Jl ab hg (.putD hv (.inr @ah)) (.inl ⟨[],dv,.nil⟩),.inl ⟨[],kk,dv,.nil,rfl,rfl⟩⟩
   | cons _ _=>simp [fw] at h2
 .obtain⟨kk,rfl⟩:=Jv h1;obtain⟨b,rfl,hb⟩:=vj ry;rcases ab a _ hg with ⟨kv,hv,rs⟩ | ⟨kv,hv,rs⟩
  .cases rs with
   | nil =>
    have kp:Kp H (upd H a (.dT [])):=.putD hv (.inl @ah);exact⟨_,toT I hv,Jl ab hg kp (.inr ⟨[],dv,.nil⟩),.inr ⟨[],kk,b,dv,.nil,rfl,rfl,kp.tup _ _ hb⟩⟩
   | @cons j _ _ _ _ _ _=>cases j <;> simp [fA,uC] at h2
  .exact⟨H,I,@av,.inr ⟨kv,kk,b,hv,rs,rfl,rfl,hb⟩⟩
theorem Ay(I:@l)(ab:mX X.K H G)(hg:G a=some (.kg bo))(hk:iH bo k=true)(ry:cP X.K H y k) :
  ∃ H' o,Inv X pins σ H' s/\Mv X.K H G H' G/\yU H' a y o/\o.isSome=(look bo k).isSome/\∀ d,look bo k=some d->∃ v,o=@S/\cP X.K H' v d:=by
 obtain⟨H',I',m,h⟩:=JI I ab hg hk ry;rcases h with ⟨kv,kk,hv,rs,rfl,rfl⟩ | ⟨kv,kk,b,hv,rs,rfl,rfl,hb⟩
 .refine⟨H',lR kv kk,I',m,.k hv,?_,λd hd=>?_⟩
  .rcases rs.look kk with ⟨v,d,e1,e2,_⟩ | ⟨e1,e2⟩ <;> rw [e1,e2] <;> rfl
  .rcases rs.look kk with ⟨v,d',e1,e2,r⟩ | ⟨e1,e2⟩
   .rw [e2] at hd;cases hd;exact⟨v,e1,r⟩
   .rw [e2] at hd;cases hd
 .refine⟨H',lR kv kk,I',m,.t hv hb,?_,λd hd=>?_⟩
  .rcases rs.look kk with ⟨v,d,e1,e2,_⟩ | ⟨e1,e2⟩ <;> rw [e1,e2] <;> rfl
  .rcases rs.look kk with ⟨v,d',e1,e2,r⟩ | ⟨e1,e2⟩
   .rw [e2] at hd;cases hd;exact⟨v,e1,r⟩
   .rw [e2] at hd;cases hd
theorem C4(I:@l)(rd:cP X.K H x (.mC bo))(hk:iH bo k=true)(ry:cP X.K H y k) :
  ∃ a o,x=.ref a/\(bo=[]\/yU H a y o)/\o.isSome=(look bo k).isSome/\∀ d,look bo k=some d->∃ v,o=@S/\cP X.K H v d:=by
 unfold iH at hk;rw [fS,aR,aR] at hk;cases rd with
 | uo h rs =>
  rename_i a ob kv;rcases hk with ⟨h1,h2⟩ | ⟨h1,h2⟩
  .obtain⟨kk,rfl⟩:=Dm h1;have ey:=C5 ry;subst ey;refine⟨a,lR kv kk,rfl,.inr (.inl ⟨kv,kk,.inr ⟨_,h⟩,rfl,rfl⟩),?_,λd hd=>?_⟩
   .rcases rs.look kk with ⟨v,d,e1,e2,_⟩ | ⟨e1,e2⟩ <;> rw [e1,e2] <;> rfl
   .rcases rs.look kk with ⟨v,d',e1,e2,r⟩ | ⟨e1,e2⟩
    .rw [e2] at hd;cases hd;exact⟨v,e1,r⟩
    .rw [e2] at hd;cases hd
  .cases rs with
   | nil=>exact⟨a,none,rfl,.inl rfl,rfl,λd hd=>by cases hd⟩
   | cons _ _ =>
    rename_i kx _ _ _ _ _ _;rw [LX,aR] at h2;cases kx <;> exact absurd h2.1 (by simp [fA,uC])
 | um h rs =>
  rename_i a ob kv;rcases hk with ⟨h1,h2⟩ | ⟨h1,h2⟩
  .cases rs with
   | nil=>exact⟨a,none,rfl,.inl rfl,rfl,λd hd=>by cases hd⟩
   | cons _ _ =>
    rw [LX,aR] at h2;exact absurd h2.1 (by simp [fw])
  .obtain⟨kk,rfl⟩:=Jv h1;obtain⟨b,rfl,hb⟩:=vj ry;refine⟨a,lR kv kk,rfl,.inr (.inr ⟨kv,kk,b,.inr ⟨_,h⟩,rfl,hb,rfl⟩),?_,λd hd=>?_⟩
   .rcases rs.look kk with ⟨v,d,e1,e2,_⟩ | ⟨e1,e2⟩ <;> rw [e1,e2] <;> rfl
   .rcases rs.look kk with ⟨v,d',e1,e2,r⟩ | ⟨e1,e2⟩
    .rw [e2] at hd;cases hd;exact⟨v,e1,r⟩
    .rw [e2] at hd;cases hd
theorem Pe(I:@l)(ab:mX X.K H G)(hg:G a=some (.kg bo))(hk:iH bo k=true)(hz:bo.length < SZ)(ry:cP X.K H y k)(rv:cP X.K H v d) :
  ∃ H' H'',Inv X pins σ H' s/\LN H' a y v H''/\Mv X.K H G H'' (dB G a (.kg (put bo k d))):=by
 obtain⟨H',I',m,h⟩:=JI I ab hg hk ry;have Y8:=rv.mono (m.kp ab);have sz:bw=16777216:=cq;rcases h with ⟨kv,kk,hv,rs,rfl,rfl⟩ | ⟨kv,kk,b,hv,rs,rfl,rfl,hb⟩
 .have kp:Kp H' (upd H' a (.dK (putK kv kk v))):=.putD hv (.inl @ah);exact⟨H',_,I',.k hv (by rw [rs.length,sz];exact hz),m.trans (.put m.ab hg kp (.inl ⟨_,dv,(rs.put kk Y8).mono kp⟩))⟩
 .have kp:Kp H' (upd H' a (.dT (putK kv kk v))):=.putD hv (.inr @ah);exact⟨H',_,I',.t hv hb (by rw [rs.length,sz];exact hz),m.trans (.put m.ab hg kp (.inr ⟨_,dv,(rs.put kk Y8).mono kp⟩))⟩
end
section
variable {X:Cx} {a b c e:Expr} {es:@aN} {ta tb tc te:gG} {t:zh} {pos p p2 apos r0:Pos} {x:Str}
theorem UE{j}:eQ X (.Constant (.bool k) j pos) (dC (.bl k)):=xl WZ λ_ _=>.bl k
theorem Ru{j}:eQ X (.Constant (.str y) j pos) (dC (.str y)):=xl Uv λ_ _=>.str y
theorem Kw{st:Stmt}:xN X st xI:=λ_ _ _ _ _ _ _ _ _ _ h=>h.elim
theorem QC:VV X (unaryOp .USub) zL:=by
 intro pins s σ H G x dx v Q I ab rx dX q;cases dX with
 | int i=>exact gN (TF pins s σ H _ v (A2 X.K H G Q) I rx ⟨i,rfl,_,_,@av,.int _,q⟩) λ_ _ z=>.of z
 | _=>exact bK q
theorem UA(hu:@bq)(ha:eQ X a ta)(hb:eQ X b tb)(hs:Sr b):eQ X (.Subscript a b pos) (aN eB ta tb):=by
 ext e;refine Subscript_ (Pw ha hb hE I h λv u s2 x y dx dy H2 G2 J m rx ry dX dY q=>?_);have fin:∀ {rb:R2},IxR X rb->rb x y H2 (A2 X.K H2 G2 Q)->wpAny @s X.A (subscriptTail a b v u) @bd X.xe s2:=λhr hq =>
  gN (hr a b pins s2 σ H2 x y v u _ J.inv rx ry hq (hs _ _)) λ_ _ z=>(qQ.of z).trans m
 cases dX with
 | tup hq rs =>
  cases dY with
  | int i =>
   rw [dg] at q;split at q
   .rename_i d hd;obtain⟨w,hw,vd⟩:=rs.oz hd;exact fin Ve ⟨_,_,i,w,rfl,rfl,.of hq,hw,d,G2,.refl J.ab,vd,q⟩
   .exact q.elim
  | _=>exact bK q
 | eA hq rs =>
  cases dY with
  | int i =>
   rw [kX] at q;split at q
   .rename_i d hd;obtain⟨w,hw,vd⟩:=rs.oz hd;exact fin Jw ⟨_,_,i,w,rfl,rfl,hq.sq,hw,d,G2,.refl J.ab,vd,q⟩
   .exact q.elim
  | _=>exact bK q
 | uo h rs =>
  rw [C8] at q;obtain⟨hk,q⟩:=q;split at q
  .rename_i d hd;obtain⟨a',o,ea,g,_,hv⟩:=C4 J.inv (.uo h rs) hk dY;obtain⟨w,rfl,vd⟩:=hv d hd;cases ea;rcases g with rfl | g
   .cases hd
   .cases rx;exact tail_any (rY J.inv g) PySem.F.slot_dict_getitem.lookup (xH @c J.inv g ry λw' s3 I4 rv=>⟨w,H2,d,G2,I4,m,rv,vd,q⟩) (hs _ _)
  .exact q.elim
 | um h rs =>
  rw [C8] at q;obtain⟨hk,q⟩:=q;split at q
  .rename_i d hd;obtain⟨a',o,ea,g,_,hv⟩:=C4 J.inv (.um h rs) hk dY;obtain⟨w,rfl,vd⟩:=hv d hd;cases ea;rcases g with rfl | g
   .cases hd
   .cases rx;exact tail_any (rY J.inv g) PySem.F.slot_dict_getitem.lookup (xH @c J.inv g ry λw' s3 I4 rv=>⟨w,H2,d,G2,I4,m,rv,vd,q⟩) (hs _ _)
  .exact q.elim
 | ref l =>
  rw [Q3] at q;split at q
  .rename_i ds hl;obtain⟨vs,hv,rs⟩:=J.ab.lst hl;cases dY with
   | int i =>
    dsimp only at q;split at q
    .rename_i d hd;obtain⟨w,hw,vd⟩:=rs.oz hd;exact fin Jw ⟨_,_,i,w,rfl,rfl,.of hv,hw,d,G2,.refl J.ab,vd,q⟩
    .exact q.elim
   | _=>exact bK q
  .rename_i bo hl;obtain⟨hk,q⟩:=q;split at q
   .rename_i d hd;obtain⟨H3,o,I3,m3,g,_,hv⟩:=Ay J.inv J.ab hl hk dY;obtain⟨w,rfl,vd⟩:=hv d hd;cases rx;exact tail_any (rY I3 g) PySem.F.slot_dict_getitem.lookup (xH @c I3 g ry λw' s3 I4 rv=>⟨w,H3,d,G2,I4,m.trans m3,rv,vd,q⟩) (hs _ _)
   .exact q.elim
  .exact q.elim
 | _=>exact bK q
def YH(X:Cx)(e:Option Expr)(t:YE):Prop :=
 ∀ (E:lz) (pins:@y) (s:aF) (σ:L2.St) (H:Hp) (τ:ie) (G:Gp) (Q:@aU->@u),Lk X E->@bz->t E τ G Q ->
  wpAny @s X.A (evalPart e X.env) (λu s'=>∃ o H' G',Inv X pins σ H' s'/\@bo/\IsPart u o/\Q o G') X.xe s
theorem Nt:YH X none eF:=by
 ext e;rw [evalPart_none];exact aK ⟨none,H,G,I.inv,.refl I.ab,.none,h⟩
theorem Nr(h:eQ X e te):YH X (some e) (nQ te):=by
 intro E pins s σ H τ G Q hE I hw;rw [evalPart_some];refine lA h hE I hw λx H1 d G1 u s1 I1 m1 r1 jU q1=>?_;cases jU with
 | int i =>
  obtain⟨t,rfl⟩:=r1;exact⟨some i,H1,G1,I1.inv,m1,.int i t,q1⟩
 | _=>exact bK q1
theorem KA{lo:Option Expr}(he:eQ X a ta)(hl:YH X lo tl)(hu:YH X hi th):eQ X (.Subscript a (.Slice lo hi none p2) pos) (yM ta tl th):=by
 ext e;refine Subscript_ (lA he hE I h λx H1 d G1 v s1 I1 m1 r1 jU q1=>?_);refine wpAny_Slice (gN (hl E pins s1 σ H1 τ G1 _ hE I1 q1) ?_);rintro vl s2 ⟨l,H2,G2,lL,m2,pl,q2⟩;refine gN (hu E pins s2 σ H2 τ G2 _ hE (I1.mv lL m2) q2) ?_;rintro vu s3 ⟨r,H3,G3,I3,m3,pu,q3⟩;rw [evalPart_none];refine aK ?_;have m13:=m2.trans m3;have mm:=m1.trans m13;have I4:Inv X pins σ H3 { s3 with heap:=s3.heap.push { cls:=.type "slice",data:=.fields #[vl,vu,.none] } }:=I3.kept (t':=s3.toks) λb ob q=>aO _ q;have rd3:=jU.mono (m13.kp I1.ab);have Th:=m3.ab;have key:∀ {rb:V->@aU->@aU->Hp->VK->Prop},SlR X rb->rb x l r H3 (A2 X.K H3 G3 Q)->wpAny @s X.A (subscriptTail a (.Slice lo hi none p2) v (.ref s3.heap.objs.size)) @bd X.xe { s3 with heap:=s3.heap.push { cls:=.type "slice",data:=.fields #[vl,vu,.none] } }:=λhr hq=>by
  obtain⟨T,id,hT,ht,hg⟩:=hr pins { s3 with heap:=s3.heap.push { cls:=.type "slice",data:=.fields #[vl,vu,.none] } } σ H3 x v vl vu l r s3.heap.objs.size _ I4 r1 (Heap.IsSliceOf.new ..) pl pu hq;exact gN (tail_any (ops:=[.ref s3.heap.objs.size,v]) ht hT hg (by with_unfolding_all rfl)) λ_ _ z=>(qQ.of z).trans mm
 cases rd3 with
 | tup hq rs =>
  obtain⟨hw,q⟩:=q3;refine key T8 ⟨_,_,rfl,.of hq,?_,λp hp=>⟨_,G3,.Qc Th hp,.tup dv ((rs.cut l r).mono (.new hp)),q⟩⟩;rw [C0,C0,rs.length];exact hw
 | eA hq rs=>exact key IW ⟨_,_,rfl,hq.sq,λp hp=>⟨_,_,.Bh Th hp (rs.cut l r),.ref _,q3 p (Th.free hp)⟩⟩
 | ref g =>
  rw [pQ] at q3;split at q3
  .rename_i ds hg;obtain⟨vs,hv,rs⟩:=Th.lst hg;exact key IW ⟨_,_,rfl,.of hv,λp hp=>⟨_,_,.Bh Th hp (rs.cut l r),.ref _,q3 p (Th.free hp)⟩⟩
  .exact q3.elim
 | _=>exact bK q3
theorem RE(ss)(s)(h1:pF ss=true)(h2:nr s=true):((kI ss).any λy=>uS y (pd s))=ss.any (iI · s):=by
 induction ss with
 | nil=>rfl
 | cons d r ih =>
  have h':nr d=true/\pF r=true:=(jT).mp h1;show (uS (pd d) (pd s)||(kI r).any _)=_;rw [ih h'.2,rW d s h'.1 h2];rfl
theorem JJ(h:Sn G (n+1) (.eA ds) (.eA ss)):bV (kI ss)<=n:=by
 exact uU (Az h)
theorem Dp(hu:@bq)(neg:Bool){pins:@y}{s:aF}{σ:L2.St}{H:Hp}{G:Gp}{x y:V}{dx t:D}{ds ss:@f}{v u:Value}{Q:DK}(I:@l)(ab:mX X.K H G)(rx:RelV x v)(dX:cP X.K H x dx)
  (hy:(∃ l vs bu,u=.ref l/\Vals vs bu/\bp X.K H vs ds/\(s.heap.IsList l bu.toArray\/s.heap.IsTuple l bu.toArray))) (s1:Sn G SN dx t) (s2:Sn G SN (.eA ds) (.eA ss))
  (q:Q (.bl (if neg then !ss.any (iI · t) else ss.any (iI · t))) G):wpAny @s X.A (fN (if neg then .NotIn else .In) v u) @bd X.xe s:=by
 obtain⟨l,vs,bu,rfl,rv,rs,hl⟩:=hy;obtain⟨as,ra⟩:=(iC I ab s1).1 x v dX rx;obtain⟨bs,rb⟩:=(iC I ab s2).2 ds ss (.inl @aP) vs bu rs rv;have d2:=JJ (n:=7) s2;have n2:pF ss=true:=s2.nr;have z9:=vT _ n2;have e:=RE ss t n2 s1.nr;have uD:X.A.units+1+min (bV (kI ss)) (pd t).depth < cLine:=@d
 have Nb:fV s.heap bu.toArray.toList (kI ss) bs:=by simpa using rb
 have fin:∀ k:Bool,k=(if neg then !ss.any (iI · t) else ss.any (iI · t))->qQ X pins σ H G Q (.bool k) s:=λk hk=>by subst hk;exact⟨.bl _,H,.bl _,G,I,@av,rfl,.bl _,q⟩
 cases neg with
 | false =>
  rcases hl with hl | hl
  .exact SeqAt.in_listAt _ hl (nj Nb ra z9 (jk _ s1.nr) uD) (by rw [rf Nb z9,e];exact fin _ rfl)
  .exact SeqAt.in_tupleAt _ hl (nj Nb ra z9 (jk _ s1.nr) uD) (by rw [rf Nb z9,e];exact fin _ rfl)
 | true =>
  rcases hl with hl | hl
  .exact SeqAt.notIn_listAt _ hl (nj Nb ra z9 (jk _ s1.nr) uD) (by rw [rf Nb z9,e];exact fin _ rfl)
  .exact SeqAt.notIn_tupleAt _ hl (nj Nb ra z9 (jk _ s1.nr) uD) (by rw [rf Nb z9,e];exact fin _ rfl)
theorem Ou(hu:@bq)(neg){x:V}(I:@l)(ab:mX X.K H G)(rx:RelV x v)(ry:RelV y u)(dY:cP X.K H y (.mC bo))(dX:cP X.K H x dx)
  (q:Df neg dx (.mC bo) G Q):wpAny @s X.A (fN (if neg then .NotIn else .In) v u) @bd X.xe s:=by
 obtain⟨mQ,hk,q⟩:=q;have go:∀ (a:Addr) (o:Option V),y=.ref a->yU H a x o->o.isSome=(look bo dx).isSome->wpAny @s X.A (fN (if neg then .NotIn else .In) v u) @bd X.xe s:=by
  intro a o ea g ho;subst ea;cases ry;cases neg with
  | false=>exact Yr @c I g rx λs3 I4=>⟨.bl _,H,.bl _,G,I4,@av,rfl,.bl _,by rw [ho];exact q⟩
  | true=>exact JM @c I g rx λs3 I4=>⟨.bl _,H,.bl _,G,I4,@av,rfl,.bl _,by rw [ho];exact q⟩
 obtain⟨a,o,ea,g,ho,_⟩:=C4 I dY hk dX;rcases g with rfl | g
 .exact absurd rfl mQ
 .exact go a o ea g ho
theorem Jj(hu:@bq)(neg):pB X (fN (if neg then .NotIn else .In)) (Df neg):=by
 intro pins s σ H G x y dx dy v u Q I ab rx ry dX dY q;cases dY with
 | tup hq rs =>
  obtain⟨t,ss,s1,s2,q⟩:=q;cases ry;obtain⟨bu,rv,pl,hz⟩:=I.tuple (.of hq);exact Dp hu neg (y:=x) I ab rx dX ⟨_,_,bu,rfl,rv,rs,.inr pl⟩ s1 s2 q
 | eA hq rs =>
  obtain⟨t,ss,s1,s2,q⟩:=q;cases ry;obtain⟨bu,rv,pl,hz⟩:=I.list hq.sq;exact Dp hu neg (y:=x) I ab rx dX ⟨_,_,bu,rfl,rv,rs,.inl pl.isList⟩ s1 s2 q
 | uo h rs=>exact Ou hu neg I ab rx ry (.uo h rs) dX q
 | um h rs=>exact Ou hu neg I ab rx ry (.um h rs) dX q
 | ref l =>
  unfold Df at q;dsimp only at q;split at q
  .rename_i bo hl;obtain⟨hk,q⟩:=q;obtain⟨H3,o,I3,m3,g,ho,_⟩:=Ay I ab hl hk dX;cases ry;cases neg with
   | false=>exact Yr @c I3 g rx λs3 I4=>⟨.bl _,H3,.bl _,G,I4,m3,rfl,.bl _,by rw [ho];exact q⟩
   | true=>exact JM @c I3 g rx λs3 I4=>⟨.bl _,H3,.bl _,G,I4,m3,rfl,.bl _,by rw [ho];exact q⟩
  .rename_i ds hl;obtain⟨t,ss,s1,s2,q⟩:=q;cases ry;obtain⟨vs,hv,rs⟩:=ab.lst hl;obtain⟨bu,rv,pl,hz⟩:=I.list (.of hv);exact Dp hu neg (y:=x) I ab rx dX ⟨_,_,bu,rfl,rv,rs,.inl pl.isList⟩ s1 s2 q
  .exact q.elim
 | _=>exact bK q
theorem UR(hu:@bq):pB X (fN .In) (Df false):=Jj hu false
theorem KL(hu:@bq):pB X (fN .NotIn) (Df true):=Jj hu true
end
section
variable {X:Cx} {a b c e o:Expr} {es:@aN} {ta tb tc te to:gG} {t:zh} {pos p p2 apos r0:Pos} {x name:Str} {id T:String}
theorem LD:km X (.builtin "len") gV:=by
 intro pins s σ H G xs ds us Q I ab rx rd q;unfold gV at q;split at q
 .rename_i x;obtain⟨v,rfl,r⟩:=rd.one;have QA:∀ (n:Nat),YL X.K v H n->Q (.int (n:Int)) G->wpAny @s X.A (call (.builtin "len") us) @bd X.xe s:=λn hn hq =>
   gN (Pp pins s σ H [v] us (A2 X.K H G Q) I rx ⟨v,n,rfl,hn,_,_,@av,.int _,hq⟩) λ_ _ z=>.of z
  have sz:bw=16777216:=cq;cases r with
  | tup hq rs=>exact QA _ (.inr ⟨_,.of hq,by rw [rs.length]⟩) q
  | eA hq rs=>exact QA _ (.inl ⟨_,hq.sq,by rw [rs.length]⟩) q
  | str y =>
   unfold lenOf at q;dsimp only at q;by_cases hz:y.length<=SZ
   .rw [if_pos hz] at q;exact QA _ ⟨by rw [sz];exact hz,rfl⟩ q
   .rw [if_neg hz] at q;exact q.elim
  | uo h rs =>
   rename_i l o kv bo;obtain⟨u,rfl,ru⟩:=rx.one;cases ru;unfold lenOf at q;dsimp only at q;by_cases ha:(bo.all λp=>fw p.1)=true
   .rw [if_pos ha] at q;exact Td I (.inr ⟨_,h⟩) λt s' I'=>⟨.int kv.length,H,_,G,I',@av,⟨t,rfl⟩,.int _,by rw [rs.length];exact q⟩
   .rw [if_neg ha] at q;exact q.elim
  | um h rs =>
   rename_i l o kv bo;obtain⟨u,rfl,ru⟩:=rx.one;cases ru;unfold lenOf at q;dsimp only at q;by_cases ha:(bo.all λp=>fw p.1)=true
   .rw [if_pos ha] at q;cases rs with
    | nil =>
     obtain⟨z,hS,xs,rel,ob,es,ep,ho,hx,Fu,hl,nd⟩:=(I.du l _ h).2;have hxs:xs=[]:=by cases rel;rfl
     subst hxs;have he:es=#[]:=by simpa using hl
     subst he;have dd:s.heap.DictOf (fi X.prog X.w) l []:=⟨ob,#[],ep,ho,hx,Fu,(λ_ h=>by simp at h),.nil,fL⟩;refine call_len_dict hS dd @k ?_;exact⟨.int 0,H,_,G,@aB,@av,@ah,.int _,q⟩
    | cons _ _=>simp [fw] at ha
   .rw [if_neg ha] at q;exact q.elim
  | ref l =>
   unfold lenOf at q;dsimp only at q;cases hg:G l with
   | none=>rw [hg] at q;exact q.elim
   | some g =>
    rw [hg] at q;cases g with
    | lst ds =>
     obtain⟨vs,hv,rs⟩:=ab.lst hg;exact QA _ (.inl ⟨_,.of hv,by rw [rs.length]⟩) q
    | ins _ _=>exact q.elim
    | Gj _=>exact q.elim
    | kg bo =>
     obtain⟨u,rfl,ru⟩:=rx.one;cases ru;dsimp only at q;by_cases ha:(bo.all λp=>fw p.1)=true
     .rw [if_pos ha] at q;rcases ab l _ hg with ⟨kv,hv,rs⟩ | ⟨kv,hv,rs⟩
      .exact Td I (.inl hv) λt s' I'=>⟨.int kv.length,H,_,G,I',@av,⟨t,rfl⟩,.int _,by rw [rs.length];exact q⟩
      .cases rs with
       | nil =>
        obtain⟨z,hd,vs,rel,dd⟩:=JH (toK I hv).du dv;have hvs:vs=[]:=by cases rel;rfl
        subst hvs;refine call_len_dict hd dd @k ?_;exact⟨.int 0,H,_,G,@aB,@av,@ah,.int _,q⟩
       | cons _ _=>simp [fw] at ha
     .rw [if_neg ha] at q;exact q.elim
  | _=>exact bK q
 .exact q.elim
theorem HW:km X (@ak) nS:=by
 intro pins s σ H G xs ds us Q I ab rx rd q;unfold nS at q;split at q
 .rename_i x;obtain⟨v,rfl,r⟩:=rd.one;have V8:∀ (l:Addr) (ys:@A) (zs:@f),v=.ref l->(tp X.K H l ys\/AJ X.K H l ys)->bp X.K H ys zs->iQ G (.lst zs) Q->wpAny @s X.A (call (@ak) us) @bd X.xe s:=λl ys zs e h rs hq=>by
   subst e;exact gN (DY pins s σ H _ us (A2 X.K H G Q) I rx ⟨l,ys,rfl,h,λp hp=>⟨_,_,.Bh ab hp rs,.ref _,hq p (ab.free hp)⟩⟩) λ_ _ z=>.of z
  cases r with
  | tup hq rs=>exact V8 _ _ _ rfl (.inr (.of hq)) rs q
  | eA hq rs=>exact V8 _ _ _ rfl (.inl hq.sq) rs q
  | ref l =>
   unfold itemsOf at q;dsimp only at q;cases hg:G l with
   | none=>rw [hg] at q;exact q.elim
   | some g =>
    rw [hg] at q;cases g with
    | lst ds =>
     obtain⟨vs,hv,rs⟩:=ab.lst hg;exact V8 _ _ _ rfl (.inl (.of hv)) rs q
    | ins _ _=>exact q.elim
    | Gj _=>exact q.elim
    | kg bo=>exact q.elim
  | _=>exact bK q
 .exact q.elim
theorem G0  (hc:km X (.type T) r) (hg:Gl X x) (hm:X.mg x=none) (hv:cZ x=some (.type T)) (ha:yq X (e :: es) t) (hn:autoParam (x≠"__name__") Ad._auto_1) (Ft:autoParam ((x == ("__debug__" : Str))=false) Ad._auto_1)
  (he:autoParam @bF Ar._auto_1) (mP:autoParam ((jX pos (bG es X.env)).any @t=false) Ar._auto_1):eQ X (.Call (.Name x p) (e :: es) [] pos) (fC r t):=by
 ext e;refine ij (pZ I.inv hg hm hv ?_ hn Ft);exact fX (zx ha pos hE I h λvs H1 ds G1 us s1 I1 m1 r1 jU q1=>gN (hc pins s1 σ H1 G1 vs ds us Q I1.inv I1.ab r1 jU q1) λ_ _ z=>z.trans m1) he mP
theorem Va (K):∀ C∈["int","bool","list","tuple","dict","str"],∀ T∈["NoneType","bool","int","str","tuple","list","dict"],PySem.W.kitOne K (.type T) (.type C)=some (T == C||(T == "bool" && @aF)):=by
 intro C hC T hT;simp only [cg,cU,or_false] at hC hT;rcases hC with rfl | rfl | rfl | rfl | rfl | rfl <;> rcases hT with rfl | rfl | rfl | rfl | rfl | rfl | rfl <;> kernel_rfl
theorem Om (C:String) (hC:C∈["int","bool","list","tuple","dict","str"]) {pins:@y} {s:aF} {σ:L2.St} {H:Hp} {G:Gp} {v:V} {d:D} {u:Value} {k:Bool} {Q:DK} (I:@l) (ab:mX X.K H G) (ru:RelV v u) (r:cP X.K H v d)
  (hk:RZ C d G=some k) (q:Q (.bl k) G):wpAny @s X.A (call (.builtin "isinstance") [u,.type C]) @bd X.xe s:=by
 have fin:∀ tk,qQ X pins σ H G Q (.bool k) { s with toks:=tk }:=λtk=>⟨.bl k,H,.bl k,G,@aB,@av,rfl,.bl k,q⟩;have hl:∀ T∈["NoneType","bool","int","str","tuple","list","dict"],k=(T == C||(T == "bool" && @aF))->PySem.W.kitOne X.K (.type T) (.type C)=some k:=λT hT e=>by rw [Va X.K C hC T hT,e]
 have tl:∀ {l:Addr} {o:Obj},s.heap.get? l=@j->o.cls=@ak->k=("list" == C||("list" == "bool" && @aF))->v=.ref l->wpAny @s X.A (call (.builtin "isinstance") [u,.type C]) @bd X.xe s:=λho hc e ev=>by
  subst ev;cases ru;exact jd PySem.W.kitx_list I.Cb ⟨_,ho,hc⟩ (hl "list" @o e) (λz=>nomatch z) fin
 have td:∀ {l:Addr} {o:Obj},s.heap.get? l=@j->o.cls=.type "dict"->k=("dict" == C||("dict" == "bool" && @aF))->v=.ref l->wpAny @s X.A (call (.builtin "isinstance") [u,.type C]) @bd X.xe s:=λho hc e ev=>by
  subst ev;cases ru;exact jd PySem.W.kitx_dict I.Cb ⟨_,ho,hc⟩ (hl "dict" @o e) (λz=>nomatch z) fin
 have ox:∀ P:String->Prop,(∀ C'∈["int","bool","list","tuple","dict","str"],P C')->P C:=λP h=>h C hC;cases r with
 | dj =>
  cases ru;have e:k=("NoneType" == C||("NoneType" == "bool" && @aF)):=by
   have:k=false:=(bA hk).symm;rw [this];exact ox (λC=>false=("NoneType" == C||("NoneType" == "bool" && @aF))) @o
  exact jd PySem.W.kitx_none I.Cb iT (hl _ @o e) (λz=>nomatch z) fin
 | bl y =>
  cases ru;have e:k=("bool" == C||("bool" == "bool" && @aF)):=by
   have:k=(C == "bool" || @aF):=(bA hk).symm;rw [this];exact ox (λC=>(C == "bool" || @aF)=("bool" == C||("bool" == "bool" && @aF))) @o
  exact jd PySem.W.kitx_bool I.Cb iT (hl _ @o e) (λz=>nomatch z) fin
 | int y =>
  obtain⟨t,rfl⟩:=ru;have e:k=("int" == C||("int" == "bool" && @aF)):=by
   have:k=(@aF):=(bA hk).symm;rw [this];exact ox (λC=>(@aF)=("int" == C||("int" == "bool" && @aF))) @o
  exact jd PySem.W.kitx_int I.Cb iT (hl _ @o e) (λz=>nomatch z) fin
 | str y =>
  obtain⟨t,rfl⟩:=ru;have e:k=("str" == C||("str" == "bool" && @aF)):=by
   have:k=(C == "str"):=(bA hk).symm;rw [this];exact ox (λC=>(C == "str")=("str" == C||("str" == "bool" && @aF))) @o
  exact jd PySem.W.kitx_str I.Cb iT (hl _ @o e) (λz=>nomatch z) fin
 | tup hq rs =>
  cases ru;have e:k=("tuple" == C||("tuple" == "bool" && @aF)):=by
   have:k=(C == "tuple"):=(bA hk).symm;rw [this];exact ox (λC=>(C == "tuple")=("tuple" == C||("tuple" == "bool" && @aF))) @o
  obtain⟨bu,rv,⟨o,h1,h2,_⟩,hz⟩:=I.tuple (.of hq);exact jd PySem.W.kitx_tuple I.Cb ⟨o,h1,h2⟩ (hl _ @o e) (λz=>nomatch z) fin
 | eA hq rs =>
  obtain⟨bu,rv,pl,hz⟩:=I.list hq.sq;obtain⟨o,h1,h2,_⟩:=pl.isList;refine tl h1 h2 ?_ rfl;have:k=(C == "list"):=(bA hk).symm;rw [this];exact ox (λC=>(C == "list")=("list" == C||("list" == "bool" && @aF))) @o
 | uo h rs =>
  have e:k=("dict" == C||("dict" == "bool" && @aF)):=by
   have:k=(C == "dict"):=(bA hk).symm;rw [this];exact ox (λC=>(C == "dict")=("dict" == C||("dict" == "bool" && @aF))) @o
  obtain⟨_,_,vs,_,ob,_,_,h1,h2,_⟩:=t9 I.du (.inr ⟨_,h⟩);exact td h1 h2.1 e rfl
 | um h rs =>
  have e:k=("dict" == C||("dict" == "bool" && @aF)):=by
   have:k=(C == "dict"):=(bA hk).symm;rw [this];exact ox (λC=>(C == "dict")=("dict" == C||("dict" == "bool" && @aF))) @o
  obtain⟨_,_,ys,_,ob,_,_,h1,h2,_⟩:=ym I.du (.inr ⟨_,h⟩);exact td h1 h2.1 e rfl
 | exc h=>simp [RZ] at hk
 | Gi h _=>simp [RZ] at hk
 | Ei _ _ _ _=>simp [RZ] at hk
 | ref l =>
  unfold RZ at hk;dsimp only at hk;cases hg:G l with
  | none=>rw [hg] at hk;cases hk
  | some g =>
   rw [hg] at hk;cases g with
   | lst ds =>
    obtain⟨vs,hv,rs⟩:=ab.lst hg;obtain⟨bu,rv,pl,hz⟩:=I.list (.of hv);obtain⟨o,h1,h2,_⟩:=pl.isList;refine tl h1 h2 ?_ rfl;have:k=(C == "list"):=(bA hk).symm;rw [this];exact ox (λC=>(C == "list")=("list" == C||("list" == "bool" && @aF))) @o
   | ins _ _=>cases hk
   | Gj _=>cases hk
   | kg bo =>
    have e:k=("dict" == C||("dict" == "bool" && @aF)):=by
     have:k=(C == "dict"):=(bA hk).symm;rw [this];exact ox (λC=>(C == "dict")=("dict" == C||("dict" == "bool" && @aF))) @o
    rcases ab l _ hg with ⟨kv,hv,rs⟩ | ⟨kv,hv,rs⟩
    .obtain⟨_,_,vs,_,ob,_,_,h1,h2,_⟩:=JH I.du hv;exact td h1 h2.1 e rfl
    .obtain⟨_,_,ys,_,ob,_,_,h1,h2,_⟩:=Tb I.du hv;exact td h1 h2.1 e rfl
theorem vL (C) (hC:C∈["int","bool","list","tuple","dict","str"])   (hg:Gl X "isinstance") (hm:X.mg "isinstance" = none) (hgC:Gl X y) (hmC:X.mg y=none) (hvC:cZ y=some (.type C)) (ha:eQ X a ta) (hn:autoParam (y≠"__name__") Ad._auto_1) (Ft:autoParam ((y == ("__debug__" : Str))=false) Ad._auto_1)
  (he:autoParam (bG [a,.Name y py] X.env=(false,eval a X.env) :: bG [.Name y py] X.env) Ar._auto_1) (mP:autoParam ((jX pos (bG [Expr.Name y py] X.env)).any @t=false) Ar._auto_1) (he2:autoParam (bG [.Name y py] X.env=[(false,eval (.Name y py) X.env)]) Ar._auto_1) :
  eQ X (.Call (.Name "isinstance" p) [a,.Name y py] [] pos) (uG C ta):=by
 ext e;refine ij (pZ I.inv hg hm PyProof.Rows.boot_isinstance ?_);refine kP ?_ he mP;rw [he];show wpAny _ _ (spliced ((false,eval a X.env) :: jX pos (bG [.Name y py] X.env))) _ _ s;refine qu (lA ha hE I h λv H1 d G1 u s1 I1 m1 r1 jU q1=>?_);rw [he2];show wpAny _ _ (spliced [(false,eval (.Name y py) X.env)]) _ _ s1;refine qu (pZ I1.inv hgC hmC hvC (Calls.spliced_nil ?_) hn Ft)
 try dsimp only at q1
 split at q1
 .rename_i k hk;exact gN (Om C hC I1.inv I1.ab r1 jU hk q1) λ_ _ z=>z.trans m1
 .exact q1.elim
end
section
variable {X:Cx} {a b c e o:Expr} {es:@aN} {ta tb tc te to:gG} {t:zh} {pos p p2 apos r0:Pos} {x name:Str} {id T:String}
def Ig(X:Cx)(id:String)(r:D->@f->Gp->DK->Prop):Prop :=
 ∀ (pins:@y) (s:aF) (σ:L2.St) (H:Hp) (G:Gp) (x:V) (d:D) (xs:@A) (ds:@f) (v:Value) (us:@B) (Q:DK),@l->mX X.K H G->RelV x v->cP X.K H x d->Vals xs us->bp X.K H xs ds->r d ds G Q ->
  wpAny @s X.A (call (.builtin id) (v :: us)) @bd X.xe s
def Sq(X:Cx)(T:String)(ty:D->@u):Prop:=∀ (pins:@y) (s:aF) (σ:L2.St) (H:Hp) (G:Gp) (x:V) (d:D) (v:Value),@l->mX X.K H G->RelV x v->cP X.K H x d->ty d G ->
  s.TypeIs v T/\∀ a,v=.ref a->∃ ob,s.heap.get? a=some ob/\ob.dict=none
theorem u4:Sq X "list" qN:=by
 intro pins s σ H G x d v I ab r rd h;cases rd with
 | eA hq rs=>exact CP I r (.inl ⟨rfl,_,hq.sq⟩)
 | ref l =>
  unfold qN at h;dsimp only at h;split at h
  .rename_i ds hg;obtain⟨vs,hv,rs⟩:=ab.lst hg;exact CP I r (.inl ⟨rfl,vs,.of hv⟩)
  .exact h.elim
 | _=>exact bK h
theorem MD:Sq X "dict" Y3:=by
 intro pins s σ H G x d v I ab r rd h;cases rd with
 | uo q rs =>
  cases r;obtain⟨t1,t2,_⟩:=Oo I (.inl ⟨_,.inr ⟨_,q⟩⟩);exact⟨t1,t2⟩
 | um q rs =>
  cases r;obtain⟨t1,t2,_⟩:=Oo I (.inr ⟨_,.inr ⟨_,q⟩⟩);exact⟨t1,t2⟩
 | ref l =>
  unfold Y3 at h;dsimp only at h;split at h
  .rename_i bo hg;rcases ab l _ hg with ⟨kv,hv,rs⟩ | ⟨kv,hv,rs⟩
   .exact CP I r (.inr (.inr (.inl ⟨rfl,.inl ⟨kv,hv⟩⟩)))
   .exact CP I r (.inr (.inr (.inl ⟨rfl,.inr ⟨kv,hv⟩⟩)))
  .exact h.elim
 | _=>exact bK h
theorem UD   (pa:PlainAttrs T) (slot:Slot T name id) (hty:typeOf (.builtin id)=pure (.type "method_descriptor")) (ht:Sq X T ty) (hm:Ig X id r) (ho:eQ X o to) (ha:yq X (e :: es) t)
  (OP:autoParam (w5 o name X.env (eval o X.env)=eval o X.env) Ar._auto_1)
  (Vl:autoParam (((jX r0 (bG (e :: es) X.env)).all (λx=>!x.1)&&(backToKw r0 (keywordEach [] X.env)).all (λx=>x.1.isSome)
   && decide ((e :: es).length+([]:List Keyword).length+(if ([]:List Keyword).isEmpty then 0 else 1) < 30))=true) Ar._auto_1)
  (OG:autoParam ((apos.endLine == r0.line)=true) Ar._auto_1) (hs:autoParam @bF Ar._auto_1) (Hz:autoParam ((jX r0 (bG es X.env)).any @t=false) Ar._auto_1) :
  eQ X (.Call (.Attribute o name apos) (e :: es) [] r0) (kh ty r to t):=by
 ext e;refine wpAny_Call_method_late OP Vl OG rfl (lA ho hE I h ?_);rintro x H1 d G1 v s1 I1 m1 r1 jU ⟨hy,q1⟩;obtain⟨h1,h2⟩:=ht pins s1 σ H1 G1 x d v I1.inv I1.ab r1 jU hy;refine⟨T,id,pa,slot,hty,h1,h2,?_⟩;have hA:=ha r0 E pins s1 σ H1 τ G1 _ hE I1 q1;rw [hs] at hA ⊢;refine Calls.callWith_builtin (by show (false||(jX r0 (bG es X.env)).any @t)=false;rw [Hz] <;> rfl) (Calls.evalArgs_plain ?_);exact gN hA (by rintro us s2 ⟨vs,H2,ds,G2,lL,m2,r2,Bf,q2⟩;exact gN (hm pins s2 σ H2 G2 x d vs ds v us Q lL m2.ab r1 (jU.mono (m2.kp I1.ab)) r2 Bf q2) λ_ _ z=>z.trans (m1.trans m2))
theorem Hj:Ig X "list.append" eZ:=by
 intro pins s σ H G x d xs ds v us Q I ab rx rd QQ BV q;unfold eZ at q;split at q
 .rename_i l d';cases rd;obtain⟨w,rfl,vd⟩:=BV.one;split at q
  .rename_i zs hg;obtain⟨hz,q⟩:=q;obtain⟨vs,hv,rs⟩:=ab.lst hg;exact gN (B3 pins s σ H _ _ v us (A2 X.K H G Q) I rx QQ ⟨l,vs,w,rfl,rfl,hv,by rw [rs.length,cq];exact hz,_,_,.putL ab hg hv (rs.append (.cons vd .nil)),.dj,q⟩) λ_ _ z=>.of z
  .exact q.elim
 .exact q.elim
theorem HN(l)(xs)(n)(b)(ys)(n2)(dd)(sl)(S3:¬(!xs.isEmpty&&jH (xs.size+ys.size))=true)(hx:xs.size<=bw)(hxy:xs.size+ys.size<=bw+1) :
  Meets (Builtin.«list.extend» ⟨[.ref l,@X],[]⟩) (λ_ R s=>s.heap.get? l=some { cls:=@ak,dict:=none,data:=.seq xs n,slots:=#[] }/\@ar=some { cls:=@ak,dict:=dd,data:=.seq ys n2,slots:=sl }/\R (.ok (.ret fu)) { s with heap:=s.heap.update l (i8 λx=>x++ys),toks:=s.toks }) :=
 .of_wp λprog w A R s h=>by
  obtain⟨hp,g,d,tk,os⟩:=s;obtain⟨h1,h2,h3⟩:=h;have e1:=AutoSeq1.idx_int;have e2:=qw;have e3:=GD;have e4:=AutoSeq1.sub_tuple_list;have e5:=AutoSeq1.sub_list_tuple;have Wg:(xs++ys).size<=bw+1:=by rw [Array.size_append];exact hxy
  wp_walk using (zj h1 rfl (hz:=hx) (_hz':=Wg)),b7 h1,b7 h2
  exact⟨_,rfl,h3⟩
theorem Hi:Ig X "list.extend" sO:=by
 intro pins s σ H G x d xs ds v us Q I ab rx rd QQ BV q;unfold sO at q;split at q
 .rename_i l y;cases rd;obtain⟨w,rfl,vd⟩:=BV.one;obtain⟨u,rfl,ru⟩:=QQ.one;split at q
  .rename_i zs ys hg hg2;obtain⟨hz,q⟩:=q;obtain⟨vs,hv,rs⟩:=ab.lst hg;obtain⟨b,ws,tH,rfl,Kn,SF,hb,_⟩:=jM I ab ru vd hg2;cases rx;obtain⟨z,bu,n,r,hl,e⟩:=I.U8 hv;obtain⟨⟨cl,dd,dt,sl⟩,ho,vW,n2,hdt⟩:=hb;simp only at vW hdt;subst vW hdt;have h1:=Kn.length;have h2:=SF.length;have h3:=rs.length;have h4:=r.length;have h5:bw=16777216:=cq;have h6:SZ=16777216:=rfl;have hsz:bu.toArray.size+tH.toArray.size<=bw:=by rw [aU,aU];lia
   have S3:¬ (!bu.toArray.isEmpty&&jH (bu.toArray.size+tH.toArray.size))=true:=by
    rw [NM hsz,IF];exact fW
   refine AW F.slot_list_extend ⟨_,e,rfl⟩ F.entry_list_extend (F.args_list_extend_2 _ _) (HN l bu.toArray n b tH.toArray n2 dd sl S3 (by rw [aU];lia) @c) ⟨e,ho,?_⟩;refine⟨.dj,_,.dj,_,I.U9 (its':=bu++tH) hv e @k (r.append Kn) ?_,.putL ab hg hv (rs.append SF),rfl,.dj,q⟩;rw [aq];lia
  .exact q.elim
 .exact q.elim
theorem Vh{bu:@B}(hk:k<=bu.length):(bu.toArray.extract 0 k).push u++bu.toArray.extract k=(bu.take k++u :: bu.drop k).toArray:=by
 simp [List.extract_eq_take_drop];rw [lO (by rw [cf];lia)]
theorem Hh:Ig X "list.insert" nO:=by
 intro pins s σ H G x d xs ds v us Q I ab rx rd QQ BV q;unfold nO at q;split at q
 .rename_i l i d';cases rd;obtain⟨w,w2,rfl,C1,Uc⟩:=BV.two;cases C1;split at q
  .rename_i zs hg;obtain⟨h0,h1,hz,q⟩:=q;obtain⟨vs,hv,rs⟩:=ab.lst hg;obtain⟨u1,u2,rfl,⟨t,rfl⟩,QT⟩:=vals2 QQ;cases rx;obtain⟨z,bu,n,r,hl,e⟩:=I.U8 hv;have sz:bw=16777216:=cq;have hlen:bu.length=zs.length:=by rw [<-hl,rs.length]
   have hs:SZ=16777216:=rfl;have abB:¬ (!Builtin.List.listFitsIndex i)=true:=by
    rw [fitsIndex_both @c @c];exact fW
   refine AW F.slot_list_insert ⟨_,e,rfl⟩ F.entry_list_insert (F.args_list_insert_3 _ _ _)
    (AutoSeq1.list_insert_list_int_val_1 l bu.toArray n i t u2 abB (by rw [aU];lia)) ⟨e,?_⟩
   have hi:i.toNat<=bu.length:=@d
   refine⟨.dj,_,.dj,_,I.U9 (its':=bu.take i.toNat++u2 :: bu.drop i.toNat) (ys:=vs.take i.toNat++w2 :: vs.drop i.toNat) hv e ?_ ((r.take _).append (.cons QT (r.drop _))) ?_,.putL ab hg hv ((rs.take _).append (.cons Uc (rs.drop _))),rfl,.dj,q⟩
   .dsimp only;have e1:(if i < 0 then (i+(bu.toArray.size:Int)).toNat else min i.toNat bu.toArray.size)=i.toNat:=by
     rw [if_neg @c,aU];lia
    rw [e1];exact Vh hi
   .rw [aq,af,dF,cf];lia
  .exact q.elim
 .exact q.elim
theorem KR (hu : X.A.units + 64 < cLine) : Ig X "list.index" xm := by
  intro pins s σ H G x d xs ds v us Q I ab rx rd QQ BV q;unfold xm at q;split at q
  . rename_i d'
    obtain⟨hy, zs, sn, ss, hi, s1, s2, q⟩ := q;obtain⟨w, rfl, vd⟩ := BV.one;obtain⟨u, rfl, ru⟩ := QQ.one;have lists : ∃ l vs bu, v = .ref l ∧ Vals vs bu ∧ bp X.K H vs zs ∧ s.heap.IsList l bu.toArray ∧ vs.length ≤ bw := by
      cases rd with
      | eA hq rs =>
        cases hi;cases rx;obtain⟨bu, rv, pl, hz⟩ := I.list hq.sq;exact⟨_, _, bu, rfl, rv, rs, pl.isList, hz⟩
      | ref l =>
        unfold itemsOf at hi;dsimp only at hi;cases hg : G l with
        | none => rw [hg] at hi;cases hi
        | some g =>
          rw [hg] at hi;cases g with
          | lst ds =>
            cases hi;cases rx;obtain⟨vs, hv, rs⟩ := ab.lst hg;obtain⟨bu, rv, pl, hz⟩ := I.list (.of hv);exact⟨_, _, bu, rfl, rv, rs, pl.isList, hz⟩
          | ins _ _ => cases hi
          | Gj _ => cases hi
          | kg _ => cases hi
      | _ => exact bK hy
    obtain⟨l, vs, bu, rfl, rv, rs, hl, hz⟩ := lists;obtain⟨as, ra⟩ := (iC I ab s1).1 w u vd ru;obtain⟨bs, rb⟩ := (iC I ab s2).2 zs ss (.inl ⟨rfl, rfl⟩) vs bu rs rv;have d2 := JJ (n := 7) s2;have n2 : pF ss = true := s2.nr;have z9 := vT _ n2;have uD : X.A.units + 1 + min (bV (kI ss)) (pd sn).depth < cLine := @d
    have Nb : fV s.heap bu.toArray.toList (kI ss) bs := by simpa using rb
    have mp := SeqAt.readsAll_map _ _ _ z9 Nb;split at q
    . rename_i k hk
      obtain⟨sU, abw, R7⟩ := List.findIdx?_eq_some_iff_getElem.mp hk;have pdl : ∀ (zz : @f), (kI zz).length = zz.length := by
        intro zz;induction zz with
        | nil => rfl
        | cons a r ih => exact congrArg Nat.succ ih
      have hlen : bu.length = ss.length := by
        have := congrArg bS mp;rw [ai, pdl] at this;simpa using this
      have at_ : ∀ (m : Nat) (h1 : m < bu.toArray.size) (h2 : m < ss.length), uS (BH s.heap bu.toArray[m]) (pd sn) = iI ss[m] sn := by
        intro m h1 h2;have e1 : (bu.toArray.toList.map (BH s.heap))[m]? = (kI ss)[m]? := by rw [mp]
        have pdg : ∀ (zz : @f) (m : Nat) (h : m < zz.length), (kI zz)[m]? = some (pd zz[m]) := by
          intro zz;induction zz with
          | nil => intro m h;simp at h
          | cons a r ih => intro m h;cases m with
            | zero => rfl
            | succ m => exact ih m (uT h)
        rw [pdg ss m h2] at e1;have h1' : m < bu.length := by simpa using h1
        have e2 : BH s.heap bu.toArray[m] = pd ss[m] := by
          simpa [h1'] using e1
        rw [e2];have nrm : nr ss[m] = true := by
          have : ∀ (zz : @f) (m : Nat) (h : m < zz.length), pF zz = true -> nr zz[m] = true := by
            intro zz;induction zz with
            | nil => intro m h;simp at h
            | cons a r ih => intro m h hn; have Li : nr a = true ∧ pF r = true := (jT).mp hn
                             cases m with
                             | zero => exact Li.1
                             | succ m => exact ih m (@bE) Li.2
          exact this ss m h2 n2
        exact rW _ _ nrm s1.nr
      have sz : bw = 16777216 := cq;have hvl : vs.length = bu.length := rv.length;obtain⟨⟨cls, dd, data, sl⟩, ho, hc, n, hd⟩ := id hl;simp only at hc hd;subst hc hd;have XQ : k < bu.toArray.size := by rw [aU];lia
      refine AW Gx ⟨_, ho, rfl⟩ PySem.F.entry_list_index (PySem.F.args_list_index_2 _ _)
        (SeqAt.list_indexAt l bu.toArray n dd sl u (λy => uS (BH s.heap y) (pd sn)) k XQ @c ?_ ?_) ⟨ho, nj Nb ra z9 (jk _ s1.nr) uD, ?_⟩
      . rw [at_ k XQ sU];exact abw
      . intro m hm hmk
        have XO : m < ss.length := @d
        rw [at_ m hm XO];simpa using R7 m hmk
      . exact⟨.int k, H, .int k, G, @aB, @av, ⟨_, rfl⟩, .int _, q⟩
    . exact q.elim
  . exact q.elim
theorem RA:eQ X (.Dict [] [] pos) uH:=by
 ext e;exact gN (Nx pins s σ H (A2 X.K H G Q) I.inv λp hp=>⟨_,_,.new I.ab hp (.dk dv .nil),.ref _,h p (I.ab.free hp)⟩) λ_ _ z=>.of z
end
def gz(env:Env):List (Str×tP)->List (Str×Addr)->List (Str×Addr)
 | [],acc=>acc
 | (n,k) :: r,acc=>if k=.free then gz env r ((n,(env.cells.lookup n).getD 0) :: acc) else gz env r acc
theorem uI(env)(f)(hf:∀ n k c,f (n,k) c=if (k == ku)=true then (cellOf env n >>= λa=>pure (tD ((n,a) :: c))) else pure (tD c)) :
  ∀ (ns:List (Str×tP)) (acc:List (Str×Addr)),(∀ x∈ns,x.2=.free->∃ c,env.cells.lookup x.1=some c)->forIn ns acc f=(pure (gz env ns acc):Sem (List (Str×Addr)))
 | [],acc,_=>rfl
 | (n,k) :: r,acc,h=>by
  rw [List.forIn_cons,hf];have hr:∀ x∈r,x.2=.free->∃ c,env.cells.lookup x.1=some c:=λx hx=>h x (aL _ hx);by_cases hk:k=.free
  .subst hk;obtain⟨c,hc⟩:=h (n,.free) a9 rfl;have ec:cellOf env n=pure c:=by unfold cellOf;rw [hc]
   rw [if_pos @o,ec,pure_bind,pure_bind];show forIn r ((n,c) :: acc) f=_;rw [uI env f hf r _ hr];show _=(pure (gz env ((n,.free) :: r) acc):Sem (List (Str×Addr)));rw [gz,if_pos rfl,hc];rfl
  .rw [if_neg (by simpa using hk),pure_bind];show forIn r acc f=_;rw [uI env f hf r _ hr];show _=(pure (gz env ((n,k) :: r) acc):Sem (List (Str×Addr)));rw [gz,if_neg hk]
theorem Bu(h:∀ x∈scope.names,x.2=.free->∃ c,env.cells.lookup x.1=some c):closureFor scope env=pure (gz env scope.names []):=by
 unfold closureFor;ext d;rw [uI env _ (λn k c=>?_) scope.names [] h]
 .rfl
 .by_cases hk:(k == ku)=true
  .simp only [hk,if_true]
  .simp only [hk,if_false,aj]
theorem u6:∀ {ns:List (Str×tP)} {acc:List (Str×Addr)},(∀ y∈ns,y.2=.free->∃ c,env.cells.lookup y.1=some c)->(∀ y c,acc.lookup y=some c->env.cells.lookup y=some c)->(gz env ns acc).lookup x=some c->env.cells.lookup x=some c
 | [],_,_,ha,e=>ha _ _ e
 | (n,k) :: r,acc,h,ha,e=>by
  have hr:∀ y∈r,y.2=.free->∃ c,env.cells.lookup y.1=some c:=λy hy=>h y (aL _ hy);unfold gz at e;by_cases hk:k=.free
  .rw [if_pos hk] at e;refine u6 hr (λy c' q=>?_) e;rw [kq] at q;by_cases hy:(y == n)=true
   .rw [hy] at q;have e1:y=n:=eq_of_beq hy;subst e1;obtain⟨c0,hc0⟩:=h (y,k) a9 hk;rw [hc0] at q ⊢;exact q
   .have hy':(y == n)=false:=by simpa using hy
    rw [hy'] at q;exact ha y c' q
  .rw [if_neg hk] at e;exact u6 hr ha e
theorem pK:∀ {ns:List (Str×tP)} {acc:List (Str×Addr)},((x,ku)∈ns\/∃ c,acc.lookup x=some c)->∃ c,(gz env ns acc).lookup x=some c
 | [],_,h=>by rcases h with h | h;exact absurd h @k;exact h
 | (n,k) :: r,acc,h=>by
  unfold gz;have grow:∀ a,(∃ c,acc.lookup x=some c)->∃ c,((n,a) :: acc).lookup x=some c:=λa XI=>by
   obtain⟨c,hc⟩:=XI;rw [kq];by_cases hy:(x == n)=true
   .rw [hy];exact⟨_,rfl⟩
   .have hy':(x == n)=false:=by simpa using hy
    rw [hy'];exact⟨c,hc⟩
  by_cases hk:k=.free
  .rw [if_pos hk];refine pK ?_;rcases h with h | h
   .rcases List.mem_cons.mp h with e | h
    .injection e with e1 e2
     subst e1;exact .inr ⟨(env.cells.lookup x).getD 0,by rw [kq];simp⟩
    .exact .inl h
   .exact .inr (grow _ h)
  .rw [if_neg hk];refine pK ?_;rcases h with h | h
   .rcases List.mem_cons.mp h with e | h
    .injection e with e1 e2
     exact absurd e2.symm hk
    .exact .inl h
   .exact .inr h
abbrev dw(X:Cx)(N:@D)(scope:Scope)(C:Addr)(s:aF)(H:Hp)(fp:@aE):Cx :=
 { X with env:=compEnvC scope (gz X.env scope.names []) C X.env,N:=N,ny:=s,PN:=H,outer:=X.stack,stack:=X.stack,ex:=fp,fn:=λ_=>false,pn:=[],xe:=@w }
theorem vk(h:(Gu scope env).names.lookup x=@aT\/(Gu scope env).names.lookup x=some .free)(qF:∀ y∈scope.names,y.2≠.cell):(x,ku)∈scope.names:=by
 have go:∀ k,(Gu scope env).names.lookup x=some k->k=.cell\/k=.free->(x,ku)∈scope.names:=by
  intro k hk hkk;have hm:=iL hk;unfold Gu at hm;dsimp only at hm;obtain⟨⟨n,j⟩,hj,e⟩:=List.mem_map.mp hm;dsimp only at e;by_cases hc:(j == ku&&env.scope.kind == .function&&env.kindOf n == @aT)=true
  .rw [if_pos hc] at e;rw [aR,aR] at hc;injection e with e1 e2
   have ej:j=.free:=eq_of_beq hc.1.1;rw [ej,e1] at hj;exact hj
  .rw [if_neg hc] at e;injection e with e1 e2
   subst e1;rcases hkk with r | r
   .exact absurd (e2.trans r) (qF _ hj)
   .rw [e2.trans r] at hj;exact hj
 rcases h with h | h
 .exact go _ h @af
 .exact go _ h (.inr rfl)
section
variable {X:Cx} {N:@D} {scope:Scope} {fp:@aE} {pins:@y} {σ:L2.St} {H:Hp} {s:aF} {C:Addr}
theorem VI(I:@l)(qF:∀ y∈scope.names,y.2≠.cell)(Cf:scope.kind=.function)(mR:∀ y∈scope.names,y.2=.free->X.env.kindOf y.1=@aT)(hC:s.heap.objs.size<=C)(XX:∀ b∈fp,qp X pins H b/\b < s.heap.objs.size):(dw X N scope C s H fp).Ok:=by
 have vW:∀ y∈scope.names,y.2=.free->∃ c,X.env.cells.lookup y.1=some c:=λy hy hf=>I.ok.has _ (.inl (mR y hy hf));have TM:∀ x c,(gz X.env scope.names []).lookup x=some c->@bD:=λx c e=>u6 vW (λy c q=>by simp at q) e;refine⟨I.ok.mod,Cf,I.ok.glob,I.ok.blt,hC,λx y c h1 h2=>I.ok.inj x y c (TM x c h1) (TM y c h2),λx hx=>?_,λx c h=>absurd h @k,I.ok.hd,I.ok.frames,.inl rfl,λb hb=>?_,I.bs,cY I.ok.Qd I.sz,λb o e hb=>?_,λb hb=>?_,I.stack,I.IQ⟩
 .exact pK (.inl (vk hx qF))
 .obtain⟨⟨f0,f1,f2,f3,f4,f5⟩,sU⟩:=XX b hb;exact⟨bx (bT sU hC),λx c e=>f4 x c (TM x c e)⟩
 .obtain⟨⟨f0,f1,f2,f3,f4,f5⟩,sU⟩:=XX b hb;rcases f3 with f3 | f3
  .exact I.ok.KP b o e f3
  .exact absurd (bT (aQ e) (cY I.ok.Qd f3)) (eR _)
 .obtain⟨⟨f0,f1,f2,f3,f4,f5⟩,sU⟩:=XX b hb;intro z;rcases List.mem_cons.mp (I.GL b z) with e | e
  .exact f1 e
  .exact f2 e
theorem Sg{fr:@aC}(I:@l)(ok:(dw X N scope s.heap.objs.size s H fp).Ok)(Vn:∀ y∈scope.names,y.2≠.cell)(mR:∀ y∈scope.names,y.2=.free->X.env.kindOf y.1=@aT)(hN:N.length=m+fr.length)
  (XU:∀ j i x,fr[j]?=some i->N[m+j]?=some x->X.N[i]?=some x/\@bQ=@aT/\(Gu scope X.env).names.lookup x=@aT) (Dt:∃ mm,tJ.Ns s.heap.objs.size mm) (hk:∀ b o,@ar=@j->tJ.get? b=@j) :
  Inv (dw X N scope s.heap.objs.size s H fp) [] (aX m none++fr.map λi=>(σ[i]?).getD none) H { s with heap:=tJ,toks:=tk }:=by
 have vW:∀ y∈scope.names,y.2=.free->∃ c,X.env.cells.lookup y.1=some c:=λy hy hf=>I.ok.has _ (.inl (mR y hy hf));have TM:∀ x c,(gz X.env scope.names []).lookup x=some c->@bD:=λx c e=>u6 vW (λy c q=>by simp at q) e;obtain⟨mm,Dt⟩:=Dt;refine⟨ok,rfl,I.bare,Un.kept hk,⟨mm,Dt,λi x v h1 h2 h3=>?_⟩,λx c e=>?_,I.du.fresh @T,λx c e=>?_,λp hp=>absurd hp @k,I.du.kept hk,?_⟩
 ·by_cases hi:i < m
  .rw [bB (by simpa using hi),lr] at h2;split at h2 <;> cases h2
  .obtain⟨j,rfl⟩:∃ j,i=m+j:=⟨i - m,@d⟩;rw [bb @k,fQ,ug,bP] at h2;cases hj:fr[j]? with
   | none=>rw [hj] at h2;cases h2
   | some k =>
    rw [hj] at h2;have OR:(σ[k]?).getD none=@S:=@bl
    have OH:σ[k]?=some (@S):=by
     cases q:σ[k]? with
     | none=>rw [q] at OR;cases OR
     | some o=>rw [q] at OR;simp at OR;rw [OR]
    obtain⟨e1,e2,e3⟩:=XU j k x hj h1;obtain⟨m0,hn0,hl0⟩:=I.loc;obtain⟨u,r,l⟩:=hl0 k x v e1 OH (.inr (.inl e2));refine⟨u,r,.inr ⟨.inl e3,?_⟩⟩;rcases l with ⟨l1,_⟩ | ⟨_,c,hc,qF⟩
    .have:@bQ=@a8:=l1;rw [e2] at this;cases this
    .have hx:(x,ku)∈scope.names:=vk (.inl e3) Vn;obtain⟨c',S8⟩:=pK (env:=X.env) (x:=x) (ns:=scope.names) (acc:=[]) (.inl hx);have:=TM x c' S8;rw [hc] at this;have ec:c=c':=bA this;subst ec;obtain⟨oc,Wj,hd⟩:=qF;exact⟨c,S8,oc,hk _ _ Wj,hd⟩
 .obtain⟨v,oc,Wj,hd⟩:=I.cell x c (TM x c e);exact⟨v,oc,hk _ _ Wj,hd⟩
 .exact I.qG x c (TM x c e)
 .rw [aq,fQ,ai];exact hN.symm
theorem DU{prog:bI}{w:World}{A:c7}{R:Result->@ae}{s:aF}{elt target iter:Expr}{ifs:@aN}{sc:Scope}{pos:Pos}{it acc:Value}{env:Env}(J:Nat->@ae)
  (turn:∀ n s,J n s->wpAny @L A (tN it) (λr fK=>match r with
   | none=>R (.ok .next) fK
   | some v=>wpAny @L A (zo target it v) (λ_ WJ=>wpAny @L A (zr target env v) (λ_ jR =>
     wpAny @L A (forIn ifs true λc r=>if r=true then do let ok ← isTrue c env (eval c env);pure (tD ok) else pure (tD r)) (λk MK =>
      if k=true then wpAny @L A (eval elt env) (λx Kh=>wpAny @L A (call (.builtin "list.append") [acc,x]) (λ_ MJ=>∃ m,m < n/\J m MJ) @r Kh) @r MK
      else ∃ m,m < n/\J m MK) @r jR) @r WJ) @r fK) @r s) (n:Nat) (h:J n s) :
  qY @L A (.compLoop (.ListComp elt [⟨target,iter,ifs,0⟩] sc pos) 0 it acc env) R s:=by
 have no:∀ {α:Type} {t:Sem α} {Q:α->@ae} {E:@H} {s:aF},wpAny @L A t Q @r s->wpAny @L A t Q E s:=λh=>nV h (λ_ _ q=>q) λ_ _ z=>z.elim;refine codeAny_loop rfl J (λn s hJ=>?_) n h;show wpAny _ A ((compTurn (.ListComp elt [⟨target,iter,ifs,0⟩] sc pos) 0 it acc env).onRaise (λx=>do noteFrame x env;theTreesLotGoes x)) _ _ s;refine wpAny_noted ?_;rw [compTurn_list];refine ay (Es (ay (gN (no (turn n s hJ)) λr fK tJ=>?_)));cases r with
 | none=>exact aK tJ
 | some v =>
  refine ay (gN (no tJ) λ_ jR Hy=>ay (gN (no Hy) λ_ MK aaX=>ay (gN (no aaX) λk Kh Xv=>?_)));cases k with
  | false=>exact aK ⟨rfl,Xv⟩
  | true=>exact ay (ay (gN (no Xv) λx MJ aaW=>ay (gN (no aaW) λ_ afi aaV=>aK (aK ⟨rfl,aaV⟩))))
def CompEnd(X:Cx)(pins:@y)(σ:L2.St)(H:Hp)(G:Gp)(Q:DK)(C Dd:Addr)(s':aF):Prop :=
 ∃ m H' G',Inv X pins σ H' s'/\s'.heap.Ns C m/\qp X pins H' C/\@bo/\Q (.ref Dd) G'
inductive Ss (Xc:Cx):@aN->Option yp->Prop
 | none:Ss Xc [] none
 | some {c:Expr} {t:yp}:FY Xc c t->Ss Xc [c] (some t)
theorem Cs{τ:ie}{G G2:Gp}{H2:Hp}{s2:aF}{tg elt iter:Expr}{ifs:@aN}{pos:Pos}{m:Nat}{fr:@aC}{E:lz}{g:AI}{c:Option yp}{te:gG}{J:It}{tn:Nat->Heap->Prop}{it:Addr}{ds:@f}{ok:@u}{Q:DK}{Rr:Value->Addr->Result->@ae}{E0:@H}
  (hc:@a5) (qF:∀ y∈scope.names,y.2≠.cell) (Cf:scope.kind=.function) (mR:∀ y∈scope.names,y.2=.free->X.env.kindOf y.1=@aT) (hN:N.length=m+fr.length)
  (XU:∀ j i x,fr[j]?=some i->N[m+j]?=some x->X.N[i]?=some x/\@bQ=@aT/\(Gu scope X.env).names.lookup x=@aT)
  (hg:∀ C s H fp,zi @bw tg g) (hi:∀ C s H fp,Ss @bw ifs c) (he:∀ C s H fp,eQ @bw elt te)
  (I:I2 X pins σ H2 τ G2 s2) (m2:Mv X.K H G H2 G2) (T:Turn X.prog X.w X.K tg J fp it tn) (P4:tn 0 s2.heap) (f2:∀ b∈fp,qp X pins H2 b) (wk:Ti X.K J H2 ds ok) (hz:ds.length<=SZ)
  (hE0:∀ ex G,¬ E ex G) (q:iR g c te ok ds E (ql m fr τ) G2 [] λxs G3=>iQ G3 (.lst xs) Q)
  (fin:∀ C s',CompEnd X pins σ H G Q C s2.heap.objs.size s'->Rr (.ref s2.heap.objs.size) C (.ok .next) s') :
  wpAny @s X.A (newList []) (λacc MK=>wpAny @s X.A (newFunctionEnv scope X.env.globals (gz X.env scope.names []) [] X.env.qual none .none (some X.env)) (λYx Kh =>
   qY @s X.A (.compStart @bK 0 (.ref it) acc { Yx with scope:=Gu scope X.env }) (Rr acc Yx.locals) Kh) E0 MK) E0 s2:=by
 have sz:bw=16777216:=cq;have xA:H2 s2.heap.objs.size=none:=I.inv.du.fresh @T;have Vv:G2 s2.heap.objs.size=none:=I.ab.free xA;refine dZ (wpAny_newFunctionEnv qF (by intro y hy;simp at hy) (λtJ OF OA=>?_) Cf);dsimp only at OF OA ⊢;have I3:Inv X pins σ (upd H2 s2.heap.objs.size (.lst [])) { s2 with heap:=s2.heap.push { cls:=@ak,data:=.seq ([]:@B).toArray },toks:=s2.toks }:=I.inv.aaO (ys:=[]) .nil (ck _);generalize hs3:({ s2 with heap:=s2.heap.push { cls:=@ak,data:=.seq ([]:@B).toArray },toks:=s2.toks }:aF)=s3 at I3;generalize Yb:upd H2 s2.heap.objs.size (.lst [])=H3 at I3;have eH3:∀ b,b≠s2.heap.objs.size->H3 b=H2 b:=λb hb=>by rw [<-Yb,bY hb]
 have Fs:s3.heap=s2.heap.push { cls:=@ak,data:=.seq ([]:@B).toArray }:=by rw [<-hs3]
 have WN:s3.heap.objs.size=s2.heap.objs.size+1:=by rw [Fs,dI]
 have OL:∀ b∈fp,b < s2.heap.objs.size:=λb hb=>by
  obtain⟨o,e,_⟩:=T.obj _ _ P4 b hb;exact aQ e
 have XW:∀ b∈fp,qp X pins H3 b/\b < s3.heap.objs.size:=λb hb=>by
  have Zp:=OL b hb;obtain⟨f0,f1⟩:=f2 b hb;exact⟨⟨by rw [eH3 b (bx Zp)];exact f0,f1⟩,bT Zp (by rw [WN];exact zv _)⟩
 have Zb:(@bC).Ok:=VI I3 qF Cf mR @T XW;have S5:∀ b o,s3.heap.get? b=@j->tJ.get? b=@j:=λb o e=>by
  have hb:b < s3.heap.objs.size:=aQ e;refine OA.extBut b o ?_ (aO _ ?_)
  .rw [<-Fs];exact bx hb
  .rw [<-Fs];exact e
 have abm:∃ mm,tJ.Ns s3.heap.objs.size mm:=⟨_,by rw [Fs];exact OF⟩;have I4:=Sg (tk:=s3.toks+([]:List (Str×Value)).length) I3 Zb qF mR hN XU abm S5;have aaT:Kp H2 H3:=by rw [<-Yb];exact .new xA
 have Th:mX X.K H3 G2:=by rw [<-Yb];exact(Mv.Qc I.ab xA).ab
 have mv3:Mv X.K H2 G2 H3 G2:=by rw [<-Yb];exact .Qc I.ab xA
 have Y7:Qj X.K H3 (aX m none++fr.map λi=>(σ[i]?).getD none) (ql m fr τ):=by
  refine⟨by unfold ql;rw [aq,aq,ai,ai,fQ,fQ],λi d h2=>?_⟩;unfold ql at h2;by_cases hi:i < m
  .rw [bB (by simpa using hi),lr] at h2;split at h2 <;> cases h2
  .obtain⟨j,rfl⟩:∃ j,i=m+j:=⟨i - m,@d⟩;rw [bb @k,fQ,ug,bP] at h2;rw [bb @k,fQ,ug,bP];cases hj:fr[j]? with
   | none=>rw [hj] at h2;cases h2
   | some k =>
    rw [hj] at h2;have OR:(τ[k]?).getD none=some d:=@bl
    have OH:τ[k]?=some (some d):=by
     cases qq:τ[k]? with
     | none=>rw [qq] at OR;cases OR
     | some o=>rw [qq] at OR;simp at OR;rw [OR]
    obtain⟨v,e1,e2⟩:=I.st.at' k d OH;exact⟨v,by simp [e1],e2.mono aaT⟩
 have hD3:H3 s2.heap.objs.size=some (.lst []):=by rw [<-Yb,dv]
 have WM:tn 0 tJ:=T.keep _ _ _ P4 λb hb o e=>S5 b o (by rw [Fs];exact aO _ e);have MN:∀ {Hc:Hp},(∀ b∈fp,Hc b=none)->∀ b∈fp,qp (@bC) [] Hc b:=λhn b hb =>
  ⟨hn b hb,(Zb.ZG b hb).1,Zb.O5 b hb,.inl hb,λx c e=>(Zb.ZG b hb).2 x c e,λp hp=>absurd hp @k⟩
 have neD:∀ b∈fp,b≠s2.heap.objs.size:=λb hb=>bx (OL b hb);have loop:qY @s X.A (.compLoop @bK 0 (.ref it) (.ref s2.heap.objs.size) (@bC).env) (Rr (.ref s2.heap.objs.size) s3.heap.objs.size)
   { s3 with heap:=tJ,toks:=s3.toks+([]:List (Str×Value)).length }:=by
  refine DU (λn s'=>∃ i P1 Hc Mu Gc uJ wC,I2 (@bC) [] P1 Hc Mu Gc s'/\Gc s2.heap.objs.size=none/\Hc s2.heap.objs.size=some (.lst uJ)/\bp X.K Hc uJ wC/\wC.length<=i/\Mv X.K H2 G2 Hc Gc/\tn i s'.heap/\(∀ b∈fp,Hc b=none) /\
   n=ds.length - i/\i<=ds.length/\iR g c te ok (ds.drop i) E Mu Gc wC λxs G3=>iQ G3 (.lst xs) Q) ?_ ds.length
   ⟨0,_,H3,_,G2,[],[],⟨I4,Y7,Th⟩,Vv,hD3,.nil,aS _,mv3,WM,λb hb=>by rw [eH3 b (neD b hb)];exact(f2 b hb).1,rfl,ck _,q⟩
  rintro n s4 ⟨i,P1,Hc,Mu,Gc,uJ,wC,Ic,gD,hD,rA,hA,mc,stc,frc,rfl,hle,wq⟩;have kpc:Kp H2 Hc:=mc.kp I.ab;by_cases sU:i < ds.length
  .rw [gW sU] at wq;obtain⟨okG,wq⟩:=wq;obtain⟨go,yl⟩:=(wk i Hc Gc kpc Ic.ab okG).1 ds[i] (by simp [sU]);refine gN (T.item (@bC) rfl rfl rfl hc i [] s4 P1 Hc @r Ic.inv (MN frc) stc go) ?_;rintro r s5 ⟨u,hr,h5⟩;subst hr;refine gN h5 ?_;rintro _ s6 ⟨x,H6,I6,r6,y6,Z8,fr6⟩;obtain⟨rd6,m6⟩:=yl x H6 y6;have I6':=I6.pinned (MN fr6) (T.obj _ _ Z8);have J6:I2 (@bC) ([]++rM fp s6.heap) P1 H6 Mu Gc s6:=⟨I6',Ic.st.mono (m6.kp Ic.ab),m6.ab⟩;have back:∀ {ZW:L2.St} {H9:Hp} {Y1:ie} {G9:Gp} {s9:aF} {aV:@A} {aD:@f},I2 (@bC) ([]++rM fp s6.heap) ZW H9 Y1 G9 s9->Mv X.K H2 G2 H9 G9->G9 s2.heap.objs.size=none->H9 s2.heap.objs.size=some (.lst aV)->bp X.K H9 aV aD->aD.length<=i+1 ->
     (iR g c te ok (ds.drop (i+1)) E Y1 G9 aD λxs G3=>iQ G3 (.lst xs) Q)->∃ mm,mm < ds.length - i/\∃ i P1 Hc Mu Gc uJ wC,I2 (@bC) [] P1 Hc Mu Gc s9/\Gc s2.heap.objs.size=none/\Hc s2.heap.objs.size=some (.lst uJ)/\bp X.K Hc uJ wC/\wC.length<=i /\
      Mv X.K H2 G2 Hc Gc/\tn i s9.heap/\(∀ b∈fp,Hc b=none)/\mm=ds.length - i/\i<=ds.length/\iR g c te ok (ds.drop i) E Mu Gc wC λxs G3=>iQ G3 (.lst xs) Q:=λ{ZW H9 Y1 G9 s9 aV aD} I9 m9 g9 h9 r9 l9 n9=>by
    refine⟨ds.length - (i+1),@d,i+1,ZW,H9,Y1,G9,aV,aD,⟨I9.inv.uY,I9.st,I9.ab⟩,g9,h9,r9,l9,m9,T.keep _ _ _ Z8 λb hb o e=>(I9.inv.pin (b,o) (bW _ (bW _ (pX hb e)))).1,λb hb=>?_,rfl,sU,n9⟩;obtain⟨o,e,d⟩:=T.obj _ _ Z8 b hb;exact(I9.inv.pin (b,o) (bW _ (bW _ (pX hb e)))).2.1
   have mc6:=mc.trans m6;have hD6:=m6.keep _ _ hD gD;refine gN (hg _ _ _ _ E _ s6 P1 H6 Mu Gc x ds[i] u _ (Lk.none hE0) J6 r6 rd6 wq) ?_;rintro _ s7 ⟨L3,H7,L1,G7,I7,m7,q7⟩;have Zu:=m7.keep _ _ hD6.1 gD;have mc7:=mc6.trans m7;have rA7:=rA.mono ((m6.trans m7).kp Ic.ab);have Yq:∀ (H8:Hp) (G8:Gp) (s8:aF),I2 (@bC) ([]++rM fp s6.heap) L3 H8 L1 G8 s8->Mv X.K H7 G7 H8 G8->(te E L1 G8 λy G9=>iR g c te ok (ds.drop (i+1)) E L1 G9 (wC++[y]) λxs G3=>iQ G3 (.lst xs) Q) ->
     wpAny @s X.A (eval elt (@bC).env) (λy Kh=>wpAny @s X.A (call (.builtin "list.append") [.ref s2.heap.objs.size,y]) (λ_ MJ=>∃ mm,mm < ds.length - i/\∃ i P1 Hc Mu Gc uJ wC,I2 (@bC) [] P1 Hc Mu Gc MJ/\Gc s2.heap.objs.size=none/\Hc s2.heap.objs.size=some (.lst uJ)/\bp X.K Hc uJ wC/\wC.length<=i /\
      Mv X.K H2 G2 Hc Gc/\tn i MJ.heap/\(∀ b∈fp,Hc b=none)/\mm=ds.length - i/\i<=ds.length/\iR g c te ok (ds.drop i) E Mu Gc wC λxs G3=>iQ G3 (.lst xs) Q) @r Kh) @r s8:=λH8 G8 s8 I8 m8 q8=>by
    refine lA (he _ _ _ _) (Lk.none hE0) I8 q8 λv H9 d9 G9 u9 s9 I9 m9 r9 rd9 q9=>?_;have m79:=m8.trans m9;have Zt:=m79.keep _ _ Zu.1 Zu.2;have rA9:=rA7.mono (m79.kp I7.ab);have mc9:=mc7.trans m79;refine gN (B3 (X:=@bC) _ s9 L3 H9 (.ref s2.heap.objs.size) [v] _ [u9] (λ_ H'=>H'=upd H9 s2.heap.objs.size (.lst (uJ++[v]))) I9.inv rfl (.cons r9 .nil)
     ⟨_,uJ,v,rfl,rfl,Zt.1,by rw [rA.length,sz];have:SZ=16777216:=rfl;lia,rfl⟩) ?_
    rintro _ s10 ⟨v10,H10,I10,_,e10⟩;subst e10;have kpA:Kp H9 (upd H9 s2.heap.objs.size (.lst (uJ++[v]))):=.putL Zt.1;have abA:mX X.K (upd H9 s2.heap.objs.size (.lst (uJ++[v]))) G9:=λa g' e=>by
     have ne:a≠s2.heap.objs.size:=by ext c;rw [Zt.2] at e;cases e
     exact(I9.ab a g' e).mono kpA (bY ne)
    have mA:Mv X.K H2 G2 (upd H9 s2.heap.objs.size (.lst (uJ++[v]))) G9:=⟨λa o e n=>by
      have ne:a≠s2.heap.objs.size:=eL e xA;obtain⟨e1,e2⟩:=mc9.keep a o e n;exact⟨by rw [bY ne];exact e1,e2⟩,λa n=>by
      by_cases ha:a=s2.heap.objs.size
      .rw [ha,dv];simp
      .rw [bY ha];exact mc9.nZ a n,abA⟩
    exact back ⟨I10,I9.st.mono kpA,abA⟩ mA Zt.2 dv ((rA9.append (.cons rd9 .nil)).mono kpA) (by rw [aq,bC];lia) q9
   cases hi s3.heap.objs.size s3 H3 fp with
   | none =>
    refine wpAny_tests_nil ?_;rw [if_pos rfl];exact Yq H7 G7 s7 I7 (.refl I7.ab) q7
   | some X1 =>
    refine wpAny_tests_one (MH X1 (Lk.none hE0) I7 q7 λk H8 G8 s8 I8 m8 q8=>?_);cases k with
    | true =>
     rw [if_pos rfl] at q8 ⊢;exact Yq H8 G8 s8 I8 m8 q8
    | false =>
     rw [if_neg fW] at q8 ⊢;have hD8:=m8.keep _ _ Zu.1 Zu.2;exact back I8 (mc7.trans m8) hD8.2 hD8.1 (rA7.mono (m8.kp I7.ab)) @c q8
  .have hn:ds.length<=i:=@d
   rw [lQ hn] at wq;obtain⟨okG,qn⟩:=wq;have stop:=(wk i Hc Gc kpc Ic.ab okG).2 hn;refine gN (T.done (@bC) rfl rfl rfl hc i [] s4 P1 Hc @r Ic.inv (MN frc) stc stop) ?_;rintro r s5 ⟨hr,I5⟩;subst hr;refine fin s3.heap.objs.size s5 ?_;obtain⟨mm,abn,_⟩:=I5.loc;have hC5:Hc s3.heap.objs.size=none:=I5.free;have I6:Inv X pins σ Hc s5:=by
    obtain⟨h5,g5,d5,t5,o5⟩:=s5;have eo:o5=s3.os:=I5.os;subst eo;exact I3.call (h':=h5) (g':=g5) (d':=d5) (t':=t5) (ch:=fp) I5.base I5.du I5.bare λb hb=>by
     obtain⟨⟨f0,f1,f2',f3,f4,f5⟩,hl⟩:=XW b hb;exact⟨f3,f1,f4,f5⟩
   have mvF:Mv X.K H2 G2 Hc (dB Gc s2.heap.objs.size (.lst wC)):=⟨λa o e n=>by
     have ne:a≠s2.heap.objs.size:=eL e xA;obtain⟨e1,e2⟩:=mc.keep a o e n;exact⟨e1,by rw [bL ne];exact e2⟩,mc.nZ,λa g' e=>by
     by_cases ha:a=s2.heap.objs.size
     .subst ha;rw [aA] at e;cases e;exact⟨uJ,hD,rA⟩
     .rw [bL ha] at e;exact Ic.ab a g' e⟩
   exact⟨mm,Hc,_,I6,abn,I3.O1 @T hC5,m2.trans mvF,qn _ gD⟩
 have all:qY @s X.A (.compStart @bK 0 (.ref it) (.ref s2.heap.objs.size) (@bC).env) (Rr (.ref s2.heap.objs.size) s3.heap.objs.size)
   { s3 with heap:=tJ,toks:=s3.toks+([]:List (Str×Value)).length }:=codeAny_compStart_list loop (T.self _ 0 _ _ _ WM loop)
 subst hs3;exact all
end
section
variable {X:Cx} {N:@D} {scope:Scope} {tg elt iter:Expr} {ifs:@aN} {pos:Pos} {m:Nat} {fr:@aC} {wi:PC} {g:AI} {c:Option yp} {te:gG}
structure AV(X:Cx)(N:@D)(scope:Scope)(m:Nat)(fr:@aC):Prop where
 cell:∀ y∈scope.names,y.2≠.cell
 kind:scope.kind=.function
 names:∀ y∈scope.names,y.2=.local->scope.names.lookup y.1=@a8
 free:∀ y∈scope.names,y.2=.free->X.env.kindOf y.1=@aT
 len:N.length=m+fr.length
 at':∀ j i x,fr[j]?=some i->N[m+j]?=some x->X.N[i]?=some x/\@bQ=@aT/\(Gu scope X.env).names.lookup x=@aT
theorem AV.closed(k:AV X N scope m fr)(I:@l):closureFor scope X.env=pure (gz X.env scope.names []) :=
 Bu λy hy hf=>I.ok.has _ (.inl (k.free y hy hf))
theorem KD(hc:@a5)(k:AV X N scope m fr)(hi:FZ X tg iter wi)(hg:∀ C s H fp,zi @bw tg g)(OI:∀ C s H fp,Ss @bw ifs c)(he:∀ C s H fp,eQ @bw elt te)
  (hs:autoParam (∀ x,gM iter X.env x=pure x) Ai._auto_1):eQ X @bK (dS m fr wi g c te):=by
 ext e;rw [eval_ListComp];refine wpAny_comprehension_free (use:=none) rfl hs (k.closed I.inv) k.kind k.names (gN (hi E pins s σ H τ G _ hE I h) λxv fK tJ=>gN tJ λS0 jR Hy=>?_);obtain⟨it,fp,tn,J,H2,G2,ds,ok,e,lL,m2,T,P4,f2,wk,hz,q⟩:=Hy;subst e;refine Cs (Rr:=λacc C=>compPost @s X.A X.xe none @bd acc C) hc k.cell k.kind k.free k.len k.at' hg OI he (I.mv lL m2) m2 T P4 f2 wk hz (λ_ _ z=>z) q ?_;rintro C s' ⟨mm,H',G',I',Dt,fpC,mv,q'⟩;refine⟨mm,Dt,λh' Wh=>?_⟩;obtain⟨f0,f1,_,f3,f4,f5⟩:=fpC;exact⟨.ref _,H',.ref _,G',I'.turned (t':=s'.toks) (λb o hb e=>Wh.extBut b o hb e) f0 f1 f3 f4 f5,mv,rfl,.ref _,q'⟩
theorem EZ(hN:X.N.Nodup)(Xx:X.N[i]?=some y)(hy:X.env.scope.names.lookup y=@a8)(hc:@a5)(k:AV X N scope m fr)(hi:FZ X tg iter wi)(hg:∀ C s H fp,zi @bw tg g)
  (OI:∀ C s H fp,Ss @bw ifs c) (he:∀ C s H fp,eQ @bw elt te) (Xy:autoParam (qU @bK (some (.Name y py)) EM.line X.env=pure true) Ar._auto_1)
  (hs:autoParam (∀ x,gM iter X.env x=pure x) Ai._auto_1):xN X (.Assign [.Name y py] @bK EM) (bh (dS m fr wi g c te) (aG i)):=by
 intro E pins s σ H τ G D hE I h;rw [exec_Assign_Name_used _ _ _ _ Xy];refine ay (Es (ay ?_));show wpAny _ X.A (do let _ ← comprehension (.ListComp elt [⟨tg,iter,ifs,0⟩] scope pos) scope X.env _ (newList []) false (eval iter X.env) (some (zr (.Name y py) X.env))) _ _ s;refine ay (gN (wpAny_comprehension_free (use:=some (zr (.Name y py) X.env)) (Q:=λ_ s'=>VZ X pins H G D .next s') rfl hs (k.closed I.inv) k.kind k.names (gN (hi E pins s σ H τ G _ hE I h) λxv fK tJ=>gN tJ λS0 jR Hy=>?_)) λ_ s' hq=>aK (aK hq));obtain⟨it,fp,tn,J,H2,G2,ds,ok,e,lL,m2,T,P4,f2,wk,hz,q⟩:=Hy;subst e;refine Cs (Rr:=λacc C=>compPost @s X.A X.xe (some (zr (.Name y py) X.env)) (λ_ s'=>VZ X pins H G D .next s') acc C) hc k.cell k.kind k.free k.len k.at' hg OI he (I.mv lL m2) m2 T P4 f2 wk hz (λ_ _ z=>z) q ?_;rintro C s' ⟨mm,H',G',I',Dt,fpC,mv,q'⟩;show wpAny @s X.A (zr (.Name y py) X.env (.ref jR.heap.objs.size)) _ X.xe s';obtain⟨f0,f1,_,f3,f4,f5⟩:=fpC;refine wpAny_assign_Name (BM (v:=.ref jR.heap.objs.size) I' hN Xx (.inl hy) rfl (?_) (.inr hy));rintro s3 I3 ⟨a,XB,ha⟩;have hCa:C≠a:=by
  rcases ha with rfl | ha
  .exact f1
  .exact λe=>f4 y a ha e.symm
 refine⟨mm,Dt.sameBut XB hCa,λh' Wh=>?_⟩;exact⟨_,H',_,G',⟨I3.turned (t':=s3.toks) (λb o hb e=>Wh.extBut b o hb e) f0 f1 f3 f4 f5,(I.st.mono (mv.kp I.ab)).set i (.ref _),mv.ab⟩,mv,q'⟩
theorem Lo(h:∀ E ds τ G Q,u E ds τ G Q->ds.length=n):∀ E ds τ G Q,fx (aG i) u E ds τ G Q->ds.length=n+1 :=
 Lp h (λ_ _ _ _ _ _ q k=>k _ _ q) λ_ _ _ _ q=>q
theorem range_all(bs:List Bool):(bZ bs.length).all (λi=>bs.getD i true)=bs.all id:=by
 rw [Bool.eq_iff_iff,iS,iS];constructor
 .intro h b hb;obtain⟨i,hi,e⟩:=eV hb;have:=h i (List.mem_range.mpr hi);rw [bf,aB hi,e] at this;exact this
 .intro h i hi;have wY:=List.mem_range.mp hi;rw [bf,aB wY];exact h _ (bQ wY)
theorem zD{K:aC}:∀ {vs:@A} {bs:List Bool} {bu:@B},bp K H vs (bs.map D.bl)->Vals vs bu->bu=bs.map wQ
 | _,[],_,r,h=>by rw [aP] at r;rw [r.zero] at h;cases h;rfl
 | _,b :: bs,_,r,h=>by
  rw [az] at r;cases r with
  | cons r1 r2 =>
   cases r1;cases h with
   | cons h1 h2 =>
    cases h1;rw [zD r2 h2];rfl
theorem ux(I:@l)(ab:mX X.K H G)(rx:RelV x v)(rd:cP X.K H x d)(hi:itemsOf d G=some zs) :
  ∃ l vs bu,v=.ref l/\Vals vs bu/\bp X.K H vs zs/\(s.heap.IsList l bu.toArray\/s.heap.IsTuple l bu.toArray)/\vs.length<=bw:=by
 cases rd with
 | eA hq rs =>
  cases hi;cases rx;obtain⟨bu,rv,pl,hz⟩:=I.list hq.sq;exact⟨_,_,bu,rfl,rv,rs,.inl pl.isList,hz⟩
 | tup hq rs =>
  cases hi;cases rx;obtain⟨bu,rv,pl,hz⟩:=I.tuple (.of hq);exact⟨_,_,bu,rfl,rv,rs,.inr pl,hz⟩
 | ref l =>
  unfold itemsOf at hi;dsimp only at hi;cases hg:G l with
  | none=>rw [hg] at hi;cases hi
  | some gg =>
   rw [hg] at hi;cases gg with
   | lst ds =>
    cases hi;cases rx;obtain⟨vs,hv,rs⟩:=ab.lst hg;obtain⟨bu,rv,pl,hz⟩:=I.list (.of hv);exact⟨_,_,bu,rfl,rv,rs,.inl pl.isList,hz⟩
   | ins _ _=>cases hi
   | Gj _=>cases hi
   | kg _=>cases hi
 | _=>cases hi
theorem LF (hc:@a5):km X (.builtin "all") Pr:=by
 intro pins s σ H G xs ds us Q I ab rx rd q;unfold Pr at q;split at q
 .rename_i x;obtain⟨bs,hb,q⟩:=q;obtain⟨v,rfl,r⟩:=rd.one;obtain⟨u,rfl,ru⟩:=rx.one;obtain⟨l,vs,bu,rfl,rv,rs,hl,hz⟩:=ux I ab ru r hb;have ei:=zD rs rv;have hlen:bu.length=bs.length:=by rw [ei,ai]
  have mQ:∀ {o:Obj},s.heap.get? l=@j->l≠s.heap.objs.size:=λe=>bx (aQ e);have tr:TruthOf X.prog X.w X.A.in1 (λi v=>bu.toArray[i]?=@S) (λi=>bs.getD i true):=λi v s' Q' E' hv hq=>by
   subst ei;have Qa:(bs.map wQ)[i]?=@S:=by simpa using hv
   rw [bP] at Qa;cases Zo:bs[i]? with
   | none=>rw [Zo] at Qa;cases Qa
   | some b =>
    rw [Zo] at Qa;cases Qa;dsimp only at hq;rw [bf,Zo] at hq;exact nT hq
  have fin:∀ h' tk,(∀ b o,b∉[s.heap.objs.size]->@ar=@j->@al=@j)->qQ X pins σ H G Q (.bool ((bZ bu.toArray.size).all λi=>bs.getD i true)) @bp:=λh' tk hk=>by
   rw [aU,hlen,range_all];exact⟨.bl _,H,.bl _,G,I.kept λb o e=>hk b o (by simpa using bx (aQ e)) e,@av,rfl,.bl _,q⟩
  rcases hl with hl | hl
  .refine call_all_walk (kn hl ?_);obtain⟨o,ho,vW,n,hd⟩:=id hl;exact⟨s.heap.objs.size,_,_,_,_,_,_,rfl,A4 (A:=X.A.in1) (show X.A.in1.handled=none from I.ok.hd hc) _ l (mQ ho) bu.toArray,⟨⟨_,bc _ rfl,rfl,rfl⟩,⟨o,aO _ ho,vW,n,hd⟩⟩,tr,λh' tk hk=>fin h' tk λb o hb e=>hk b o hb (aO _ e)⟩
  .refine call_all_walk (tM hl ?_);obtain⟨o,ho,vW,n,hd⟩:=id hl;exact⟨s.heap.objs.size,_,_,_,_,_,_,rfl,Ql (A:=X.A.in1) (show X.A.in1.handled=none from I.ok.hd hc) _ l (mQ ho) bu.toArray,⟨⟨_,bc _ rfl,rfl,rfl⟩,⟨o,aO _ ho,vW,n,hd⟩⟩,tr,λh' tk hk=>fin h' tk λb o hb e=>hk b o hb (aO _ e)⟩
 .exact q.elim
theorem Uo(h:sg X body t2)(hE:Lk X E):WA X body (λD σ H=>∃ (τ:ie) (G:Gp) (D2:kA),Qj X.K H σ τ/\mX X.K H G/\t2 E D2 τ G /\
  (∀ jD H' mz G',@bo->D2.nx mz G'->D.nx jD H')/\(∀ v H' d G',@bo->cP X.K H' v d->D2.rt d G'->D.rt v H')/\(∀ τ G,¬ D2.bk τ G)/\(∀ τ G,¬ D2.ct τ G)):=by
 rintro pins s σ H D I ⟨τ,G,D2,st,ab,q,k1,k2,k3,k4⟩;refine gN (h E pins s σ H τ G D2 hE ⟨I,st,ab⟩ q) λf s1 z=>?_;cases f with
 | next=>obtain⟨jD,H',mz,G',J,mv,z⟩:=z;exact⟨jD,H',J.inv,k1 jD H' mz G' mv z⟩
 | brk=>obtain⟨jD,H',mz,G',J,mv,z⟩:=z;exact(k3 _ _ z).elim
 | cont=>obtain⟨jD,H',mz,G',J,mv,z⟩:=z;exact(k4 _ _ z).elim
 | ret u=>obtain⟨v,jD,H',d,G',J,mv,r,rd,z⟩:=z;exact⟨v,jD,H',J,r,k2 v H' d G' mv rd z⟩
theorem MO{K:aC}(r:bp K H vs ds):Qj K H (L2.start Nn vs) (aT Nn.length ds):=by
 unfold L2.start aT;refine⟨by simp [r.length],λi d h=>?_⟩;by_cases hi:i < ds.length
 .rw [bB (by simpa using hi),bP] at h;cases hd:ds[i]? with
  | none=>rw [hd] at h;cases h
  | some d' =>
   rw [hd] at h;have e:d'=d:=@bE
   subst e;obtain⟨v,h1,h2⟩:=r.get hd;refine⟨v,?_,h2⟩;rw [bB (by simpa [r.length] using hi),bP,h1];rfl
 .rw [bb (by simpa using hi),lr] at h;split at h <;> cases h
theorem ze{P:bI}{w:World}{K:aC}{mg:@aQ}{base:Heap}{x qual:Str}{st:Stmt}{f:Addr}{fd:dH}{Nn ps:@D}{k:Nat}{sp:gH}{rd:fG}(F:Qh K x qual st f fd)(S:kj Nn ps (b9 st))(len:∀ ds G Q E,sp ds G Q E->ds.length=ps.length)
  (hr:∀ ds G Q,sp ds G Q @r->rd @r @C (aT Nn.length ds) G)
  (hb:∀ (i7:Value) (A:c7) (outer:List Env) (s:aF) (H:Hp) (E:XK),jl k (A.deeper (Eu qual (b9 st) s.heap.objs.size f i7))->sg (DS yw P w K mg base Nn qual (b9 st) f i7 A outer s H E).UW (eO st) rd):qP P w K mg base yw (k+1) f fd ps (oe K sp):=by
 refine F.ok S ((by rintro vs H Q E ⟨ds,G,Q2,r,ab,q,_⟩;exact by rw [r.length];exact len _ _ _ _ q)) ?_;rintro i7 A outer s H vs Q E XC ⟨ds,G,Q2,r,ab,q,kk⟩;refine⟨_,Uo (hb i7 A outer s H E XC) (E:=@w) (Lk.none λ_ _ z=>z),?_⟩;exact⟨aT Nn.length ds,G,ends Q2,MO r,ab,hr ds G Q2 q,λjD H' mz G' mv z=>kk _ _ _ _ z mv .dj,λv H' d G' mv WR z=>kk _ _ _ _ z mv WR,λ_ _ z=>z,λ_ _ z=>z⟩
section
variable {prog:bI} {w:World} {A:c7} {R:Result->@ae} {ZQ:Addr} {fq wr:@aE} {n:Nat} {P:Nat->Value->Prop} {Sx:Nat->Heap->Prop}
theorem UY(W:Walks prog w A.in1 ZQ fq wr n P Sx)(bt:Nat->Nat->Bool)(T:Heap->Prop)(B:Addr)(hB:B∉fq)(hT:∀ h h',T h->(∀ b o,b∉wr->b≠B->@aA=@j->@al=@j)->T h')
  (cmp:∀ i j x y s (Q:@H) (E:@H),T s.heap->P i x->P j y->Q (.bool (bt i j)) s->wpAny @L A.in1 (qW .Lt x y) Q E s) :
  ∀ (k j:Nat) (s:aF) (best:Value) (cc:Nat),n - (j+1)=k->j+1<=n->Sx (j+1) s.heap->T s.heap->P (nW bt j) best ->
  s.heap.get? B=some { cls:=@ak,dict:=none,data:=.seq #[best,best] cc,slots:=#[] } ->
  (∀ v h' tk,P (nW bt (n - 1)) v->(∀ b o,b∉wr->b≠B->@ar=@j->@al=@j)->R (.ok (.ret v)) @bp) ->
  qY @L A (.builtin "min.loop" ⟨[.ref ZQ,.none,.ref B],[]⟩) R s:=by
 have hBw:B∉wr:=λz=>hB (W.sub _ z);have nm:(toString "min"++toString ".loop" : String) = "min.loop":=@e
 intro k;induction k with
 | zero =>
  intro j s best cc hk hj hs ht hp hb hR;have ej:j+1=n:=@d
  refine gP GB ?_;rw [fj jh _];show wpAny _ A.in1 (seqItems? (.ref B) >>= _) _ _ s;refine ay (ue hb rfl ?_);show wpAny _ A.in1 (tryCatch (tN (.ref ZQ)) _ >>= _) _ _ s;refine ay (BC (W.done s _ _ (ej ▸ hs) λh' tk kept=>?_));have JB:=kept B _ hBw hb;show wpAny _ A.in1 (updateSeq B (λ_=>#[]) >>= _) _ _ _;refine ay ?_;refine zj JB rfl (ay (Mh (aK ?_)));exact hR best _ tk (by rw [<-ej];exact hp) λb o z1 z2 e=>(c9 _ _ (cR z2)).trans (kept b o z1 e)
 | succ k ih =>
  intro j s best cc hk hj hs ht hp hb hR;have lt:j+1 < n:=@d
  refine gP GB ?_;rw [fj jh _];show wpAny _ A.in1 (seqItems? (.ref B) >>= _) _ _ s;refine ay (ue hb rfl ?_);show wpAny _ A.in1 (tryCatch (tN (.ref ZQ)) _ >>= _) _ _ s;refine ay (BC (W.item (j+1) s _ _ lt hs λv h' tk pv BN kept=>?_));have JB:=kept B _ hBw hb;have Oz:T h':=hT _ _ ht λb o z1 _ e=>kept b o z1 e;show wpAny _ A.in1 (tryCatch (w4 [v,v] (qW .Lt v best >>= _)) _ >>= _) _ _ _;refine ay (BC (fe (ay (cmp (j+1) (nW bt j) v best _ _ _ Oz pv hp ?_))));refine ay (fe (nT ?_));refine ay (Mh (aK ?_));cases hbt:bt (j+1) (nW bt j) with
  | true =>
   simp only [if_true];refine ay ?_;refine zj JB rfl (ay (Mh ?_));rw [nm];refine aK ⟨ko jh _,ih (j+1) _ v _ @c lt (W.frame _ _ _ BN λb z o e=>?_) (hT _ _ Oz λb o _ z2 e=>?_) (by simp only [nW,hbt,if_true];exact pv) (fR _ JB rfl) λv' Ye MG WV kk=>?_⟩
   .exact(c9 _ _ (λz':B=b=>hB (by rw [z'];exact z))).trans e
   .exact(c9 _ _ (cR z2)).trans e
   .exact hR v' Ye MG WV λb o z1 z2 e=>kk b o z1 z2 ((c9 _ _ (cR z2)).trans (kept b o z1 e))
  | false =>
   simp only [aj,if_false];refine ay (Mh ?_);rw [nm];refine aK ⟨ko jh _,ih (j+1) _ best cc @c lt BN Oz (by simp only [nW,hbt,aj,if_false];exact hp) JB λv' Ye MG WV kk=>?_⟩;exact hR v' Ye MG WV λb o z1 z2 e=>kk b o z1 z2 (kept b o z1 e)
end
theorem Fb{prog:bI}{w:World}{A:c7}{E:@H}{s:aF}{x:Value}{Q:@H}
  (h:wpAny @L A.in1 (Ir x) (λit jR=>∃ (I:Addr) (fq wr:@aE) (n:Nat) (P:Nat->Value->Prop) (Sx:Nat->Heap->Prop) (bt:Nat->Nat->Bool) (T:Heap->Prop),it=.ref I/\Walks prog w A.in1 I fq wr n P Sx/\Sx 0 jR.heap/\(∀ b∈fq,b < jR.heap.objs.size)/\0 < n/\T jR.heap/\(∀ (h h':Heap) (B:Addr),jR.heap.objs.size<=B->T h->(∀ b o,b∉wr->b≠B->@aA=@j->@al=@j)->T h') /\
   (∀ i j x y s (Q:@H) (E:@H),T s.heap->P i x->P j y->Q (.bool (bt i j)) s->wpAny @L A.in1 (qW .Lt x y) Q E s) /\
   ∀ v h' tk,P (nW bt (n - 1)) v->(∀ b o,b∉wr->jR.heap.get? b=@j->@al=@j)->Q v { jR with heap:=h',toks:=tk }) E s) :
  wpAny @L A (call (.builtin "min") [x]) Q E s:=by
 have nm:(toString "min"++toString ".loop" : String) = "min.loop":=@e
 refine call_function_tree F.kind_min F.plain_min F.entry_min (F.args_min1 _) ?_;show wpAny _ A.in1 (wX "min" ["key","default"] 0 ⟨[],[]⟩ >>= _) _ _ s;refine ay (CC (show wX "min" ["key","default"] 0 ⟨[],[]⟩=pure [none,none] from rfl) ?_);refine ay (aK ?_);refine ay (nV h (λit jR Hy=>?_) λ_ _ e=>e);obtain⟨I,fq,wr,n,P,Sx,bt,T,rfl,W,Bl,XX,hn,ht,hT,cmp,hQ⟩:=Hy;refine ay (dZ ?_);have Wq:jR.heap.objs.size∉fq:=λz=>eR _ (XX _ z);have Zq:jR.heap.objs.size∉wr:=λz=>Wq (W.sub _ z);rw [nm];generalize hh:jR.heap.push { cls:=@ak,data:=.seq ([]:@B).toArray } = hp;have hb:hp.get? jR.heap.objs.size=some { cls:=@ak,dict:=none,data:=.seq #[] 0,slots:=#[] }:=by rw [<-hh];exact bc _ rfl
 have old:∀ b o,jR.heap.get? b=@j->hp.get? b=@j:=λb o e=>by rw [<-hh];exact aO _ e
 have st0:Sx 0 hp:=W.frame _ _ _ Bl λb _ o e=>old b o e;have ht0:T hp:=hT _ _ _ @T ht λb o _ _ e=>old b o e;refine aK ⟨ko jh _,?_⟩;refine gP GB ?_;rw [fj jh _];show wpAny _ A.in1 (seqItems? (.ref jR.heap.objs.size) >>= _) _ _ _;refine ay (ue hb rfl ?_);show wpAny _ A.in1 (tryCatch (tN (.ref I)) _ >>= _) _ _ _;refine ay (BC (W.item 0 _ _ _ hn st0 λv h' tk pv BN kept=>?_));have JB:=kept _ _ Zq hb;show wpAny _ A.in1 (updateSeq jR.heap.objs.size (λ_=>#[v,v]) >>= _) _ _ _;refine ay ?_;refine zj JB rfl ?_;rw [nm];refine aK ⟨ko jh _,UY W bt T _ Wq (λh h'=>hT h h' _ @T) cmp _ 0 _ v _ rfl hn (W.frame _ _ _ BN λb z o e=>?_) (hT _ _ _ @T (hT _ _ _ @T ht0 λb o z1 _ e=>kept b o z1 e) λb o _ z2 e=>?_) pv (fR _ JB rfl) λv' Ye MG WV kk=>?_⟩
 .exact(c9 _ _ (λz':jR.heap.objs.size=b=>Wq (by rw [z'];exact z))).trans e
 .exact(c9 _ _ (cR z2)).trans e
 .refine hQ v' Ye MG WV λb o z1 e=>?_;have nb:b≠jR.heap.objs.size:=bx (aQ e);exact kk b o z1 nb ((c9 _ _ (cR nb)).trans (kept b o z1 (old b o e)))
theorem FX{α:Type}(lt:α->α->Bool)(l)(a)(f:Nat->α)(hf:∀ i,i < l.length+1->f i=(a :: l).getD i a) :
  f (nW (λi j=>lt (f i) (f j)) l.length)=l.foldl (λm x=>if lt x m=true then x else m) a:=by
 have key:∀ k,k<=l.length->f (nW (λi j=>lt (f i) (f j)) k)=(l.take k).foldl (λm x=>if lt x m=true then x else m) a:=by
  intro k;induction k with
  | zero=>intro _;rw [nW,hf 0 @c];rfl
  | succ k ih =>
   intro hk;have ih':=ih @c;rw [List.take_succ_eq_append_getElem @c,BI,<-ih'];have e:f (k+1)=l[k]:=by
    rw [hf (k+1) @c,bf];simp [show k < l.length by lia]
   show f (if lt (f (k+1)) (f (nW _ k))=true then k+1 else nW _ k)=(if lt l[k] _=true then l[k] else _);rw [<-e];split <;> rfl
 rw [key l.length @T,Ee]
theorem LC (hc : X.calm = true) (hu : X.A.units + 64 < cLine) : km X (.builtin "min") FT := by
  intro pins s σ H G xs ds us Q I ab rx rd q;unfold FT at q;split at q
  . rename_i x
    obtain⟨v, rfl, r⟩ := rd.one;obtain⟨u, rfl, ru⟩ := rx.one;have main : ∀ {α : Type} (zs : @v) (a : α) (enc : α -> D) (lt : α -> α -> Bool) (T : Heap -> Prop), itemsOf x G = some ((a :: zs).map enc) -> T s.heap -> (∀ (h h' : Heap) (B : Addr), s.heap.objs.size ≤ B -> T h -> (∀ b o, b < s.heap.objs.size -> b ≠ B -> @aA = @j -> @al = @j) -> T h') ->
        (∀ y z vy vz uy uz (s' : aF) (Q' : Value -> aF -> Prop) (E' : Value -> aF -> Prop), T s'.heap -> cP X.K H vy (enc y) -> RelV vy uy -> cP X.K H vz (enc z) -> RelV vz uz -> Q' (.bool (lt y z)) s' -> wpAny @s X.A.in1 (qW .Lt uy uz) Q' E' s') ->
        Q (enc (zs.foldl (λm x => if lt x m = true then x else m) a)) G -> wpAny @s X.A (call (.builtin "min") [u]) @bd X.xe s := by
      intro α zs a enc lt T hi ht hT cmp hq;obtain⟨l, vs, bu, rfl, rv, rs, hl, hz⟩ := ux I ab ru r hi;have hlen : bu.length = zs.length + 1 := by rw [<-rv.length, rs.length, ai, af]
      have mQ : ∀ {o : Obj}, s.heap.get? l = @j -> l ≠ s.heap.objs.size := λe => bx (aQ e);have at_ : ∀ i uu, bu.toArray[i]? = some uu -> ∃ vv, RelV vv uu ∧ cP X.K H vv (enc ((a :: zs).getD i a)) := λi uu e => by
        have e' : bu[i]? = some uu := by simpa using e
        have wY : i < bu.length := (List.getElem?_eq_some_iff.mp e').1;have hd : ((a :: zs).map enc)[i]? = some (enc ((a :: zs).getD i a)) := by
          rw [bP, bf];cases h9 : (a :: zs)[i]? with
          | none => rw [List.getElem?_eq_none_iff] at h9;simp at h9;lia
          | some z => rfl
        obtain⟨vv, h1, h2⟩ := rs.get hd;obtain⟨uu', h3, h4⟩ := rv.get h1;rw [e'] at h3;cases h3;exact⟨vv, h4, h2⟩
      have Yv : ∀ i j p9 q9 s' (Q' : Value -> aF -> Prop) (E' : Value -> aF -> Prop), T s'.heap -> bu.toArray[i]? = some p9 -> bu.toArray[j]? = some q9 -> Q' (.bool (lt ((a :: zs).getD i a) ((a :: zs).getD j a))) s' -> wpAny @s X.A.in1 (qW .Lt p9 q9) Q' E' s' := λi j p9 q9 s' Q' E' t' h1 h2 h3 => by
        obtain⟨v1, r1, d1⟩ := at_ i p9 h1;obtain⟨v2, r2, d2⟩ := at_ j q9 h2;exact cmp _ _ v1 v2 p9 q9 s' Q' E' t' d1 r1 d2 r2 h3
      have fin : ∀ vv h' tk, bu.toArray[nW (λi j => lt ((a :: zs).getD i a) ((a :: zs).getD j a)) (bu.toArray.size - 1)]? = some vv -> (∀ b o, b ∉ [s.heap.objs.size] -> @ar = @j -> @al = @j) -> qQ X pins σ H G Q vv { s with heap := h', toks := tk } := λvv h' tk e hk => by
        obtain⟨v1, r1, d1⟩ := at_ _ vv e;have es : bu.toArray.size - 1 = zs.length := by rw [aU];lia
        rw [es, FX lt zs a (λi => (a :: zs).getD i a) (λi _ => rfl)] at d1;exact⟨v1, H, _, G, I.kept λb o e => hk b o (by simpa using bx (aQ e)) e, @av, r1, d1, hq⟩
      have OD : 0 < bu.toArray.size := by rw [aU];lia
      have hTp : ∀ (oo : Obj), T (s.heap.push oo) := λoo => hT _ _ (s.heap.objs.size + 1) (zv _) ht λb o hb _ e => aO _ e;have hT2 : ∀ (oo : Obj) (h h' : Heap) (B : Addr), (s.heap.push oo).objs.size ≤ B -> T h -> (∀ b o, b ∉ [s.heap.objs.size] -> b ≠ B -> @aA = @j -> @al = @j) -> T h' := λoo h h' B hB t kk => hT h h' B (by rw [dI] at hB;exact Nat.le_of_succ_le hB) t λb o hb hn e => kk b o (by simpa using bx hb) hn e;rcases hl with hl | hl
      . refine Fb (kn hl ?_)
        obtain⟨o, ho, vW, n, hd⟩ := id hl;exact⟨s.heap.objs.size, _, _, _, _, _, _, T, rfl, A4 (A := X.A.in1) (show X.A.in1.handled = none from I.ok.hd hc) _ l (mQ ho) bu.toArray, ⟨⟨_, bc _ rfl, rfl, rfl⟩, ⟨o, aO _ ho, vW, n, hd⟩⟩,
          fun b hb => by rcases (@bv : b = s.heap.objs.size ∨ b = l) with rfl | rfl
                         . rw [dI];exact fB _
                         . rw [dI];exact iE (aQ ho), OD, hTp _, hT2 _, Yv, λvv h' tk e hk => fin vv h' tk e λb o hb e => hk b o hb (aO _ e)⟩
      . refine Fb (tM hl ?_)
        obtain⟨o, ho, vW, n, hd⟩ := id hl;exact⟨s.heap.objs.size, _, _, _, _, _, _, T, rfl, Ql (A := X.A.in1) (show X.A.in1.handled = none from I.ok.hd hc) _ l (mQ ho) bu.toArray, ⟨⟨_, bc _ rfl, rfl, rfl⟩, ⟨o, aO _ ho, vW, n, hd⟩⟩,
          fun b hb => by rcases (@bv : b = s.heap.objs.size ∨ b = l) with rfl | rfl
                         . rw [dI];exact fB _
                         . rw [dI];exact iE (aQ ho), OD, hTp _, hT2 _, Yv, λvv h' tk e hk => fin vv h' tk e λb o hb e => hk b o hb (aO _ e)⟩
    rcases q with ⟨ns, mm, hi, hm, q⟩ | ⟨Zc, mm, hi, hm, q⟩
    . cases ns with
      | nil => cases hm
      | cons a zs =>
        cases hm;have e : (λm x : Int => if x < m then x else m) = λm x => if decide (x < m) = true then x else m := by funext m x;simp
        rw [e] at q;refine main zs a D.int (λx y => decide (x < y)) (λ_ => True) hi trivial (λ_ _ _ _ _ _ => trivial) (λy z vy vz uy uz s' Q' E' _ d1 r1 d2 r2 hq => ?_) q;cases d1;cases d2;obtain⟨t1, rfl⟩ := r1;obtain⟨t2, rfl⟩ := r2;exact HT.zK X.A.in1 s' y t1 z t2 X.prog X.w E' Q' hq
    . cases Zc with
      | nil => cases hm
      | cons a zs =>
        cases hm;have el : ∀ xs ys : @G, HT.lexLt xs ys = K2.lexLt xs ys := by
          intro xs;induction xs with
          | nil => intro ys;cases ys <;> rfl
          | cons x xs ih => intro ys;cases ys with
            | nil => rfl
            | cons y ys => unfold HT.lexLt K2.lexLt;rw [ih]
        refine main zs a tI K2.lexLt (λh => ∀ b o, b < s.heap.objs.size -> @ar = @j -> @aA = @j) hi (λb o _ e => e) (λh h' B hB t kk b o hb e => kk b o hb (bx (bT hb hB)) (t b o hb e)) (λy z vy vz uy uz s' Q' E' t' d1 r1 d2 r2 hq => ?_) q;cases d1 with
        | tup h1 rs1 =>
          cases d2 with
          | tup h2 SF =>
            cases r1;cases r2;have z1 := rs1.ints;have z2 := SF.ints;subst z1 z2;obtain⟨Ol, Wb, ⟨o1, ho1, Wo, n1, Vm⟩, _⟩ := I.tuple (.of h1);obtain⟨tH, Kn, ⟨o2, Ce, Dv, n2, hd2⟩, _⟩ := I.tuple (.of h2);have p1 : IsTup s'.heap _ Ol.toArray := ⟨o1, t' _ _ (aQ ho1) ho1, Wo, n1, Vm⟩;have p2 : IsTup s'.heap _ tH.toArray := ⟨o2, t' _ _ (aQ Ce) Ce, Dv, n2, hd2⟩;rw [<-el] at hq;have i1 : kC Ol.toArray.toList y := intsAre_of Wb;have i2 : kC tH.toArray.toList z := intsAre_of Kn;exact(HT.zT p1 p2 i1 i2 (show X.A.units + 1 < cLine by lia) hq : wpAny @s X.A.in1 (fN .Lt _ _) Q' E' s')
  . exact q.elim
def aag(scope sc:Scope):List (Str×tP):=scope.names.map λ(n,k)=>if (k == .free&&sc.kind == .function&&sc.names.lookup n == @aT) then (n,.cell) else (n,k)
def tj(N:@D)(scope:Scope)(m:Nat)(fr:@aC)(sc:Scope)(XN:@D):Bool :=
 scope.names.all (λy=>decide (y.2≠.cell))&&decide (scope.kind=.function)&&scope.names.all (λy=>!decide (y.2=.local)||decide (scope.names.lookup y.1=@a8)) &&
 scope.names.all (λy=>!decide (y.2=.free)||decide (sc.names.lookup y.1=@aT))&&decide (N.length=m+fr.length) &&
 (bZ fr.length).all (λj=>match fr[j]?,N[m+j]? with
  | some i,some x=>decide (XN[i]?=some x)&&decide (@bH=@aT)&&decide ((aag scope sc).lookup x=@aT)
  | _,_=>false)
theorem Ct(XA:X.env.scope=sc)(X7:X.N=XN)(hb:tj N scope m fr sc XN=true):AV X N scope m fr:=by
 subst XA X7;unfold tj at hb;simp only [aR] at hb;obtain⟨⟨⟨⟨⟨h1,h2⟩,h3⟩,h4⟩,h5⟩,h6⟩:=hb;refine⟨λy hy=>of_decide_eq_true (List.all_eq_true.mp h1 y hy),of_decide_eq_true h2,λy hy hl=>?_,λy hy hl=>?_,of_decide_eq_true h5,λj i x e1 e2=>?_⟩
 .have:=List.all_eq_true.mp h3 y hy;simp only [hl,decide_true,aY,tQ] at this;exact of_decide_eq_true this
 .have:=List.all_eq_true.mp h4 y hy;simp only [hl,decide_true,aY,tQ] at this;exact of_decide_eq_true this
 .have hj:j < fr.length:=(List.getElem?_eq_some_iff.mp e1).1;have:=List.all_eq_true.mp h6 j (List.mem_range.mpr hj);rw [e1,e2] at this;simp only [aR] at this;exact⟨of_decide_eq_true this.1.1,of_decide_eq_true this.1.2,of_decide_eq_true this.2⟩
theorem Nz(N)(hi:FZ X tg iter wi)(hg:∀ C s H fp,zi @bw tg g)(OI:∀ C s H fp,Ss @bw ifs c)(he:∀ C s H fp,eQ @bw elt te)
  (XA:autoParam (X.env.scope=sc) Ar._auto_1) (X7:autoParam (X.N=XN) Ar._auto_1) (hb:autoParam (tj N scope m fr sc XN=true) Ak._auto_1) (hc:autoParam (@a5) Ar._auto_1) (hs:autoParam (∀ x,gM iter X.env x=pure x) Ai._auto_1):eQ X @bK (dS m fr wi g c te) :=
 KD hc (Ct XA X7 hb) hi hg OI he hs
theorem Nm(N)(hN:X.N.Nodup)(Xx:X.N[i]?=some y)(hy:X.env.scope.names.lookup y=@a8)(hi:FZ X tg iter wi)(hg:∀ C s H fp,zi @bw tg g)
  (OI:∀ C s H fp,Ss @bw ifs c) (he:∀ C s H fp,eQ @bw elt te) (XA:autoParam (X.env.scope=sc) Ar._auto_1) (X7:autoParam (X.N=XN) Ar._auto_1) (hb:autoParam (tj N scope m fr sc XN=true) Ak._auto_1) (hc:autoParam (@a5) Ar._auto_1)
  (Xy:autoParam (qU @bK (some (.Name y py)) EM.line X.env=pure true) Ar._auto_1) (hs:autoParam (∀ x,gM iter X.env x=pure x) Ai._auto_1) :
  xN X (.Assign [.Name y py] @bK EM) (bh (dS m fr wi g c te) (aG i)) :=
 EZ hN Xx hy hc (Ct XA X7 hb) hi hg OI he Xy hs
theorem K7{K:aC}{ns:@G}(hO:Su H)(hS:tp K H a (ns.map V.int))(hl:ns.length<=63):oe K BP [.ref a] H (λv _=>v=.bl true) λ_ _ _=>False:=by
 have hF:Wz K H a (ns.map V.int):=by
  rcases hS with (h | ⟨o,h⟩) | h
  .rcases hO a with z | ⟨o,xs,z⟩
   .rw [z] at h;cases h
   .rw [z] at h;cases h
  .exact .inl ⟨o,h⟩
  .exact .inr h
 refine⟨[.eA (@bj)],λ_=>none,λd _=>d=.bl true,.cons (.eA hF (bp.Jk ns)) .nil,λa g e=>(by cases e),⟨ns,rfl,hl,λ_=>rfl,λ_=>rfl⟩,λd G' v H' e mv r=>?_⟩;subst e;cases r;rfl
theorem Od{l:CG}{q:bI}{loose:@D}{XP:(@aQ)->Heap->Prop}{YP:World->Heap->Prop}{d:DefRec}{K:gf->aC}{k:Nat}{x:Str}(hn:l.most=some 63)(XZ:d.params.defaults=[])(hr:jl k Gv)
  (hY:∀ (w:World) (h:Heap),YP w h->(K w.params).In h)
  (F:∀ (w:World) (mg:@aQ) (fa:Addr) (h:Heap),(K w.params).In h->h.Ns bJ mg->mg d.name=some (.ref fa) ->
   ∃ fd:dH,(∀ (s:aF) (u:Value),BindsTo s fd ⟨[u],[]⟩ [(x,u)])/\∀ base:Heap,(K w.params).In base->base.Ns bJ mg->qP l.prog w (K w.params) mg base yw k fa fd [x] (oe (K w.params) BP)) :
  PySem.W.WalkO q loose XP YP l.row.toRowW d [] (λf vs=>Iv f vs) :=
 L2.Qz (n:=63) (k:=k) (x:=x) (CX:=λ_=>yw) (sp:=λw=>oe (K w.params) BP) hn @o XZ hr hY F (λ_ _ _ _ hl hO hS=>K7 hO hS hl) λ_ _ _ _ _ z=>z
end
def Pn:HO->Bool
 | .lst _=>true
 | .dK _=>true
 | .dT _=>true
 | .ext _=>true
 | _=>false
def pf(h:Heap)(S:Addr->Bool)(H:Hp):Hp:=λa=>match H a with
 | some u=>if (Pn u&&S a)=true then (match @aK with
  | some o=>some (.ni o u)
  | none=>@R) else @R
 | none=>none
section
variable {h:Heap} {S:Addr->Bool} {H:Hp} {a:Addr}
theorem HI(n:∀ u,H a=@R->Pn u=false):pf h S H a=H a:=by
 unfold pf;cases e:H a with
 | none=>rfl
 | some u=>simp only [n u e,IE,aj,if_false]
theorem Ah(hs:S a=false):pf h S H a=H a:=by
 unfold pf;cases e:H a with
 | none=>rfl
 | some u=>simp only [hs,IF,aj,if_false]
theorem v3{u:HO}{o:Obj}(hs:S a=true)(e:H a=@R)(hu:Pn u=true)(ho:@aK=@j):pf h S H a=some (.ni o u):=by
 unfold pf;simp only [e,hs,hu,Bool.and_self,if_true,ho]
theorem oZ(e:H a=none):pf h S H a=none:=by unfold pf;rw [e]
theorem l0{u:HO}(e:H a=@R)(hu:Pn u=false):pf h S H a=@R:=by rw [HI (λv z=>by rw [e] at z;cases z;exact hu)];exact e
theorem sV:Kp H (pf h S H):=⟨λa xs e=>l0 e rfl,λa o u e=>l0 e rfl⟩
end
section
variable {X:Cx} {pins:@y} {σ:L2.St} {H:Hp} {s:aF} {G:Gp}
theorem Inv.freeze(I : @l)(S) : Inv X pins σ (pf s.heap S H) s where
  ok := I.ok
  os := I.os
  bare := I.bare
  base := { keep := I.base.keep, slot := I.base.slot, there := I.base.there
            free := λb o q n hx => oZ (I.base.free b o q n hx)
            A9 := λb xs q => l0 (I.base.A9 b xs q) rfl
            Ag := λb o u q => l0 (I.base.Ag b o u q) rfl
            Bb := λb ps q => l0 (I.base.Bb b ps q) rfl
            Bg := λb x q => l0 (I.base.Bg b x q) rfl }
  loc := I.loc
  cell := I.cell
  free := oZ I.free
  qG := λx c e => oZ (I.qG x c e)
  pin := λp hp => let ⟨h1, h2, h3⟩ := I.pin p hp;⟨h1, oZ h2, h3⟩
  du := fun a o q => by
    have st : ∀ u, H a = @R -> iA X.prog X.w (pf s.heap S H) s.heap a u := λu e =>
      (I.du a u e).nZ (λb v _ r => r) (λb r => l0 r rfl) (λb xs r => l0 r rfl)
    cases e : H a with
    | none => rw [oZ e] at q;cases q
    | some u =>
      by_cases hc : Pn u = true
      · by_cases hs : S a = true
        . obtain⟨ob, ho⟩ := mf (I.du a _ e)
          rw [v3 hs e hc ho] at q;cases q;exact⟨ho, st _ e⟩
        . rw [Ah (by simpa using hs), e] at q
          cases q;exact st _ e
      . rw [l0 e (by simpa using hc)] at q
        cases q;exact st _ e
  len := I.len
def oH(R:Nat->Bool)(G:Gp):Addr->Bool:=λa=>R a&&(G a).isSome
theorem Cm(I:@l)(ab:mX X.K H G)(R):Mv X.K H G (pf s.heap (oH R G) H) (Bs R G) where
 keep:=λa o e n=>by
  refine⟨by rw [Ah (by simp [oH,n])];exact e,?_⟩;unfold Bs;split
  .rfl
  .exact n
 nZ:=λa n=>by
  cases q:G a with
  | none=>exact absurd q n
  | some g =>
   have t:=(ab a g q).tracked;cases e:H a with
   | none=>exact absurd e t
   | some u =>
    unfold pf;rw [e];ext d;split
    .split <;> simp
    .simp
 ab:=λa g e=>by
  unfold Bs at e;split at e
  .cases e
  .rename_i hr;exact(ab a g e).mono sV (Ah (by simp [oH,hr]))
theorem OZ(I:@l)(ab:mX X.K H G):∀ {d t:D} {v:V},Fz G R d t->cP X.K H v d->cP X.K (pf s.heap (oH R G) H) v t:=by
 intro d t v h;revert v;refine Fz.rec (motive_1:=λd t _=>∀ {v:V},cP X.K H v d->cP X.K (pf s.heap (oH R G) H) v t)
  (motive_2:=λds ts _=>∀ {vs:@A},bp X.K H vs ds->bp X.K (pf s.heap (oH R G) H) vs ts)
  (motive_3:=λds ts _=>(∀ {vs:List (Key×V)},pH X.K H vs ds->pH X.K (pf s.heap (oH R G) H) vs ts)/\∀ {vs:List (@N×V)},sv X.K H vs ds->sv X.K (pf s.heap (oH R G) H) vs ts)
  ?_ ?_ ?_ ?_ ?_ ?_ ?_ ?_ ?_ ?_ h
 .intro d v r;exact r.mono sV
 .intro ds ss _ ih v r;cases r with
  | tup h rs=>exact .tup (sV.tup _ _ h) (ih rs)
 .intro ds ss _ ih v r;cases r with
  | eA h rs=>exact .eA (sV.Wa h) (ih rs)
 .intro a ds ss g hr _ ih v r;cases r;obtain⟨vs,hv,rs⟩:=ab a _ g;obtain⟨ob,ho⟩:=mf (I.du a _ hv);exact .eA (.inl ⟨_,v3 (by simp [oH,hr,g]) hv rfl ho⟩) (ih rs)
 .intro a ds ss g hr _ ih v r;cases r;rcases ab a _ g with ⟨kv,hv,rs⟩ | ⟨kv,hv,rs⟩
  .obtain⟨ob,ho⟩:=mf (I.du a _ hv);exact .uo (v3 (by simp [oH,hr,g]) hv rfl ho) (ih.1 rs)
  .obtain⟨ob,ho⟩:=mf (I.du a _ hv);exact .um (v3 (by simp [oH,hr,g]) hv rfl ho) (ih.2 rs)
 .intro a bo SX g hr _ ek ih v r;cases r;obtain⟨xs,ks,vs,hv,rel,r1,r2⟩:=ab a _ g;obtain⟨ob,ho⟩:=mf (I.du a _ hv);have e2:(SX.map λp=>WY p.1)=bo.map λp=>WY p.1:=by
   have:=congrArg (List.map WY) ek;rw [cI,cI] at this;exact this.symm
  exact .Ei (v3 (by simp [oH,hr,g]) hv rfl ho) ⟨ek.symm.trans rel.1,rel.2⟩ (by rw [e2];exact r1.mono sV) (ih r2)
 .intro vs r;cases r;exact .nil
 .intro d s ds ss _ _ i1 i2 vs r;cases r with
  | cons r rs=>exact .cons (i1 r) (i2 rs)
 .exact⟨λr=>by cases r;exact .nil,λr=>by cases r;exact .nil⟩
 .intro k d s ds ss _ _ i1 i2;exact⟨λr=>by cases r with | cons r rs=>exact .cons (i1 r) (i2.1 rs),λr=>by cases r with | cons r rs=>exact .cons (i1 r) (i2.2 rs)⟩
variable {e:Expr} {te:gG} {st:Stmt} {t:fG}
theorem UB(he:eQ X e te):eQ X e (cA te):=by
 ext e;refine gN (he E pins s σ H τ G _ hE I h) ?_;rintro u s1 ⟨v,H1,d,G1,I1,m,r,rd,R,t,hf,q⟩;exact⟨v,_,t,_,Inv.freeze I1 _,m.trans (Cm I1 m.ab R),r,OZ I1 m.ab hf rd,q⟩
theorem Rc(h1:xN X st t):xN X st (Pg i t):=by
 intro E pins s σ H τ G D hE I h;refine gN (h1 E pins s σ H τ G _ hE I h) λf s1 z=>?_;cases f with
 | next =>
  obtain⟨jD,H',mz,G',I',m,q⟩:=z;simp only at q;split at q
  .rename_i d hd;obtain⟨R,t,hf,q⟩:=q;obtain⟨v,hv,rv⟩:=I'.st.at' i d hd;have a1:=(I'.st.mono (H':=pf s1.heap (oH R G') H') sV).set i (OZ I'.inv I'.ab hf rv);have es:jD.set i (@S)=jD:=by
    have hi:i < jD.length:=(List.getElem?_eq_some_iff.mp hv).1;have e2:=(List.getElem?_eq_some_iff.mp hv).2;rw [<-e2];exact List.set_getElem_self hi
   rw [es] at a1;have m2:=Cm I'.inv I'.ab R;exact⟨jD,_,_,_,⟨Inv.freeze I'.inv _,a1,m2.ab⟩,m.trans m2,q⟩
  .exact q.elim
 | ret v=>exact z
 | brk=>exact z
 | cont=>exact z
end
theorem VS:cZ "len" = some (.builtin "len"):=@ao
theorem VQ:cZ "min" = some (.builtin "min"):=@ao
theorem VR:cZ "max" = some (.builtin "max"):=@ao
theorem VO:cZ "sum" = some (.builtin "sum"):=@ao
theorem VU:cZ "all" = some (.builtin "all"):=@ao
theorem tm:cZ "sorted" = some (.builtin "sorted"):=@ao
theorem JQ:cZ "list" = some (@ak):=@ao
theorem Pt:cZ "tuple" = some @O:=@ao
theorem VT:cZ "int" = some (.type "int"):=@ao
theorem Sk:cZ "bool" = some (.type "bool"):=@ao
theorem VP:cZ "str" = some (.type "str"):=@ao
end K2
end
section
namespace L2
open PySem PySem.Spec PyProof.Rows
section
variable {X:Cx} {pins:@y} {σ:St} {H:Hp} {s:aF} {h':Heap}
theorem Inv.IJ{fp:@aE}(I:@l)(hf:∀ b∈fp,qp X pins H b)(k:∀ b o,b∉fp->@ar=@j->@al=@j):Inv X pins σ H { s with heap:=h',toks:=t' }:=by
 have nt:∀ b u,H b=@R->b∉fp:=λb u e z=>by rw [(hf b z).1] at e;cases e
 refine I.step (g':=s.gens) (d':=s.drawn) (ch:=fp) (λb hb=>?_) (λb o _ _ hc e _=>k b o hc e) (λb o _ _ hc e _=>⟨o.slots,k b o hc e⟩) (λ_ _ _ _ n=>n)
  (λb o hc e=>⟨o,k b o hc e⟩) (λ_ _ e=>e) (λ_ _ _ e=>e) (λ_ _ e=>e) (λ_ _ e=>e) (λm hm=>?_) (λb u e=>?_) I.bare
 .obtain⟨f0,f1,f2,f3,f4,f5⟩:=hf b hb;exact⟨f3,f1,f4,f5⟩
 .obtain⟨o,es,ep,ho,r⟩:=hm;exact⟨o,es,ep,k _ _ (λz=>(hf _ z).2.1 rfl) ho,r⟩
 .refine(I.du b u e).nZ (λc v hc r=>k c v ?_ r) (λ_ z=>z) (λ_ _ z=>z);rcases hc with rfl | hc
  .exact nt _ _ e
  .exact nt _ _ hc
theorem Inv.QD{fp:@aE}(I:@l)(hf:∀ b∈fp,qp X pins H b)(k:∀ b o,b∉fp->@ar=@j->@al=@j)(hT:s.heap.objs.size<=T)
  (new:iA X.prog X.w (upd H T (.tup vs)) h' T (.tup vs)):Inv X pins σ (upd H T (.tup vs)) { s with heap:=h',toks:=t' }:=by
 have hn:H T=none:=I.du.fresh hT;have ht:∀ b o,@ar=@j->b≠T:=λb o e z=>by subst z;exact absurd (aQ e) (Nat.not_lt.mpr hT)
 have nt:∀ b u,H b=@R->b∉fp:=λb u e z=>by rw [(hf b z).1] at e;cases e
 have ne:∀ b u,H b=@R->b≠T:=λb u e=>eL e hn;refine I.step (g':=s.gens) (d':=s.drawn) (ch:=fp) (λb hb=>?_) (λb o _ _ hc e _=>k b o hc e) (λb o _ _ hc e _=>⟨o.slots,k b o hc e⟩) (λb o _ e n=>by rw [bY (ht b o e)];exact n)
  (λb o hc e=>⟨o,k b o hc e⟩) (λb xs e=>by rw [bY (ne _ _ e)];exact e) (λb o u e=>by rw [bY (ne _ _ e)];exact e) (λb ps e=>by rw [bY (ne _ _ e)];exact e) (λb ps e=>by rw [bY (ne _ _ e)];exact e) (λm hm=>?_) (λb u e=>?_) I.bare
 .obtain⟨f0,f1,f2,f3,f4,f5⟩:=hf b hb;exact⟨f3,f1,f4,f5⟩
 .obtain⟨o,es,ep,ho,r⟩:=hm;exact⟨o,es,ep,k _ _ (λz=>(hf _ z).2.1 rfl) ho,r⟩
 .by_cases hb:b=T
  .subst hb;rw [dv] at e;cases e;exact new
  .rw [bY hb] at e;refine(I.du b u e).nZ (λc v hc r=>k c v ?_ r) (λc z=>by rw [bY (ne _ _ z)];exact z) (λc xs z=>by rw [bY (ne _ _ z)];exact z);rcases hc with rfl | hc
   .exact nt _ _ e
   .exact nt _ _ hc
theorem qp.upd(h:qp X pins H b)(hb:b≠T):qp X pins (L2.upd H T o) b:=by
 obtain⟨f0,r⟩:=h;exact⟨by rw [bY hb];exact f0,r⟩
end
end L2
namespace K2
open PySem PySem.Spec PyProof.Rows L2
section
variable {X:Cx} {elts:@aN} {kk:Nat} {QE:Pos} {a b:Expr} {ta tb:gG} {pos p:Pos}
theorem VN:cZ "zip" = some (.type "zip"):=@ao
end
end K2
end
section
namespace K2
open PySem PySem.Spec PyProof.Rows L2
section
variable {X:Cx} {o i a b:Expr} {to ti ta tb:gG} {pos p:Pos}
theorem Rn(hu:@bq)(ho:eQ X o to)(hi:eQ X i ti)
  (ha:autoParam (∀ v,zr (.Subscript o i pos) X.env v=(do
   let ov ← w4 [v] (eval o X.env)
   let iv ← w4 [v,ov] (eval i X.env)
   standAt pos
   w4 [v,ov,iv] (setItem ov iv v)
   release [v,ov,iv] [])) Ai._auto_1):zi X (.Subscript o i pos) (xw to ti):=by
 intro E pins s σ H τ G w d u Q hE I r rd h;rw [ha];refine ay (fe (lA ho hE I h λx H1 dx G1 ov s1 I1 m1 r1 jU q1=>?_));refine ay (fe (lA hi hE I1 q1 λy H2 dy G2 iv s2 lL m2 r2 Bf q2=>?_));refine ay (Es (ay (fe ?_)));have Zf:=m1.trans m2;have SJ:=rd.mono (Zf.kp I.ab);have BN:=I.st.mono (Zf.kp I.ab);have rx':=jU.mono (m2.kp I1.ab);unfold IY at q2;split at q2
 .rename_i l;cases rx';cases r1;split at q2
  .rename_i xs hg;obtain⟨vs,hv,rs⟩:=lL.ab.lst hg;split at q2
   .rename_i k;cases Bf;split at q2
    .rename_i j hj;have m3:Mv X.K H2 G2 (upd H2 l (.lst (vs.set j w))) (dB G2 l (.lst (xs.set j d))):=.putL lL.ab hg hv (rs.set SJ j);refine gN (set_list pins s2 σ H2 (.ref l) (.int k) w _ _ _ (λH3=>H3=upd H2 l (.lst (vs.set j w))) lL.inv rfl r2 r ⟨l,vs,k,j,rfl,rfl,hv,?_,rfl⟩) ?_
     .rw [rs.length];exact hj
     .rintro _ s3 ⟨H3,I3,e3⟩;subst e3;exact wpAny_release ⟨σ,_,τ,_,⟨I3,BN.mono (m3.kp lL.ab),m3.ab⟩,Zf.trans m3,q2⟩
    .exact q2.elim
   .exact q2.elim
  .rename_i bo hg;obtain⟨hk,hz,q⟩:=q2;obtain⟨H3,H4,I3,dp,m3⟩:=Pe lL.inv lL.ab hg hk hz Bf SJ;exact Ly @c I3 dp r2 r λs4 I4=>wpAny_release ⟨σ,H4,τ,_,⟨I4,BN.mono (m3.kp lL.ab),m3.ab⟩,Zf.trans m3,q⟩
  .exact q2.elim
 .exact q2.elim
end
end K2
end
section
namespace L2
open PySem PySem.Spec PyProof.Rows
theorem u7(I:@l)(hq:tp X.K H l xs)(hf:qp X pins H b):l≠b:=by
 ext c;obtain⟨f0,f1,f2,f3,f4,f5⟩:=hf;rcases hq with (h | ⟨o,h⟩) | ⟨o,bu,n,h,_⟩
 .rw [f0] at h;cases h
 .rw [f0] at h;cases h
 .have hb:=I.ok.mod.RX _ _ h;rcases f3 with f3 | f3
  .exact I.ok.KP _ _ hb f3
  .exact absurd (aQ (I.ok.bs _ _ hb).1) (Nat.not_lt.mpr f3)
def Itz(K:aC)(a b:Addr):It :=
  ⟨λi H=>∃ xs x ys y,tp K H a xs/\xs[i]?=some x/\tp K H b ys/\ys[i]?=some y,
   λi H v H'=>∃ T x y,v=.ref T/\H T=none/\H'=upd H T (.tup [x,y])/\(∀ xs,tp K H a xs->xs[i]?=some x)/\∀ ys,tp K H b ys->ys[i]?=some y,
   λi H=>∃ xs ys,tp K H a xs/\tp K H b ys/\(xs.length<=i\/ys.length<=i)⟩
structure YC(z TI TO i1 i2 a b:Addr)(i:Nat)(h:Heap):Prop where
 hz:IsZip h z TI TO .none
 hI:IsPair h TI (.ref i1) (.ref i2)
 hO:∃ x y,IsPair h TO x y
 h1:h.IsListIter i1 a i
 h2:h.IsListIter i2 b i
theorem ME{K:aC}(a b z TI TO i1 i2)(nd:[z,TI,TO,i1,i2].Nodup) :
  Turn P w K (.Tuple elts kk pos) (Itz K a b) [z,TI,TO,i1,i2] z (YC z TI TO i1 i2 a b) where
 mem:=@ad
 obj:=λi h st c hc=>by
  simp only [cg,cU,or_false] at hc;rcases hc with rfl | rfl | rfl | rfl | rfl
  .exact⟨_,st.hz,λv q=>by cases q⟩
  .exact⟨_,st.hI,λv q=>by cases q⟩
  .obtain⟨x,y,h⟩:=st.hO;exact⟨_,h,λv q=>by cases q⟩
  .obtain⟨o,e,_,d⟩:=st.h1;exact⟨o,e,λv q=>by rw [d] at q;cases q⟩
  .obtain⟨o,e,_,d⟩:=st.h2;exact⟨o,e,λv q=>by rw [d] at q;cases q⟩
 keep:=λi h h' st k=>⟨k _ @k _ st.hz,k _ @k _ st.hI,let ⟨x,y,q⟩:=st.hO;⟨x,y,k _ @k _ q⟩,st.h1.at λo q=>k _ @k o q,st.h2.at λo q=>k _ @k o q⟩
 item:=by
  intro X hP hw hK hc i pins s σ H E I hf st hg;subst hP hw hK;obtain⟨xs,x,ys,y,L9,hx,Lg,hy⟩:=hg;obtain⟨Ol,Wb,p1,hz1⟩:=I.list L9;obtain⟨tH,Kn,p2,Xw⟩:=I.list Lg;obtain⟨u1,hu1,Ue⟩:=Wb.get hx;obtain⟨u2,hu2,QT⟩:=Kn.get hy;obtain⟨xo,yo,hO⟩:=st.hO;have ap:∀ c∈[z,TI,TO,i1,i2],a≠c/\b≠c:=λc hc=>⟨u7 I L9 (hf c hc),u7 I Lg (hf c hc)⟩;simp only [dE,cg,cU,or_false,not_or] at nd;obtain⟨⟨n1,n2,n3,n4⟩,⟨n5,n6,n7⟩,⟨n8,n9⟩,n10,_⟩:=nd;have Dz:ZipApart z TI TO i1 i2 a b:=⟨cR n1,cR n2,cR n3,cR n4,n5,n6,n7,n8,n9,n10,(ap z @k).1,(ap TO @k).1,(ap i1 @k).1,(ap i2 @k).1,(ap z @k).2,(ap TO @k).2,(ap i1 @k).2,(ap i2 @k).2⟩;have hTn:H s.heap.objs.size=none:=I.du.fresh @T;have inH:∀ c∈[z,TI,TO,i1,i2],c≠s.heap.objs.size:=λc hc=>by
   simp only [cg,cU,or_false] at hc;rcases hc with rfl | rfl | rfl | rfl | rfl
   .exact bx (aQ st.hz)
   .exact bx (aQ st.hI)
   .exact bx (aQ hO)
   .obtain⟨o,e,_⟩:=st.h1;exact bx (aQ e)
   .obtain⟨o,e,_⟩:=st.h2;exact bx (aQ e)
  refine wpAny_pyNext_zip_item Dz st.hz st.hI hO st.h1 st.h2 p1.isList p2.isList (x:=u1) (y:=u2) (by simpa using hu1) (by simpa using hu2) λh' a1 a2 a3 a4 a5 a6 a7=>?_;refine⟨_,rfl,?_⟩;have k1:∀ c o,c∉[z,TI,TO,i1,i2]->s.heap.get? c=@j->h'.get? c=@j:=λc o hc q =>
   a7 c o (λe=>hc (by simp [e])) (λe=>hc (by simp [e])) (λe=>hc (by simp [e])) (λe=>hc (by simp [e])) q
  have I1:Inv X pins σ (upd H s.heap.objs.size (.tup [x,y])) @aZ :=
   I.QD (t':=s.toks) (fp:=[z,TI,TO,i1,i2]) hf k1 @T ⟨by show 2<=bw;decide,[u1,u2],.cons Ue (.cons QT .nil),⟨_,a5,rfl,_,rfl⟩⟩
  refine wpAny_letOwnedTupleGo_zip (s:=@aZ) a1 λh2 Xw Ek=>?_;have f1:∀ c∈[z,TI,TO,i1,i2],qp X pins (upd H s.heap.objs.size (.tup [x,y])) c:=λc hc=>(hf c hc).upd (inH c hc);have I2:Inv X pins σ (upd H s.heap.objs.size (.tup [x,y])) { s with heap:=h2 } :=
   Inv.IJ (s:=@aZ) (t':=s.toks) (fp:=[z,TI,TO,i1,i2]) I1 f1 λc o hc q=>(Ek.2 c (λe=>hc (by simp [e]))).trans q
  have hI':IsPair h' TI (.ref i1) (.ref i2):=a7 TI _ (cR n1) n5 n6 n7 st.hI;refine⟨@bb,_,I2,rfl,⟨_,x,y,rfl,hTn,rfl,λzs hs=>by rw [I.zX hs L9];exact hx,λzs hs=>by rw [I.zX hs Lg];exact hy⟩,⟨Xw,?_,⟨u1,u2,?_⟩,?_,?_⟩,λc hc=>(f1 c hc).1⟩
  .exact(Ek.2 TI (cR n1)).trans hI'
  .exact(Ek.2 TO (cR n2)).trans a2
  .exact a3.at λo q=>(Ek.2 i1 (cR n3)).trans q
  .exact a4.at λo q=>(Ek.2 i2 (cR n4)).trans q
 done:=by
  intro X hP hw hK hc i pins s σ H E I hf st hg;subst hP hw hK;obtain⟨xs,ys,L9,Lg,hx⟩:=hg;obtain⟨Ol,Wb,p1,hz1⟩:=I.list L9;obtain⟨tH,Kn,p2,Xw⟩:=I.list Lg;have S4:=Wb.length;have Zm:=Kn.length;obtain⟨xo,yo,hO⟩:=st.hO;have ap:∀ c∈[z,TI,TO,i1,i2],a≠c/\b≠c:=λc hc=>⟨u7 I L9 (hf c hc),u7 I Lg (hf c hc)⟩;simp only [dE,cg,cU,or_false,not_or] at nd;obtain⟨⟨n1,n2,n3,n4⟩,⟨n5,n6,n7⟩,⟨n8,n9⟩,n10,_⟩:=nd;have Dz:ZipApart z TI TO i1 i2 a b:=⟨cR n1,cR n2,cR n3,cR n4,n5,n6,n7,n8,n9,n10,(ap z @k).1,(ap TO @k).1,(ap i1 @k).1,(ap i2 @k).1,(ap z @k).2,(ap TO @k).2,(ap i1 @k).2,(ap i2 @k).2⟩;refine wpAny_pyNext_zip_end (I.ok.hd hc) Dz st.hz st.hI hO st.h1 st.h2 p1.isList p2.isList (by
   rcases hx with hx | hx
   .left;simp;lia
   .right;simp;lia) λh' k1=>⟨rfl,?_⟩
  exact I.IJ (t':=s.toks) (fp:=[z,TI,TO,i1,i2]) hf λc o hc q=>k1 c o (λe=>hc (by simp [e])) (λe=>hc (by simp [e])) (λe=>hc (by simp [e])) (λe=>hc (by simp [e])) q
 self:=λA i s Q E st h=>wpAny_pyIter_zip st.hz h
end L2
namespace K2
open PySem PySem.Spec PyProof.Rows L2
section
variable {X:Cx} {elts:@aN} {kk:Nat} {QE:Pos} {a b:Expr} {ta tb:gG} {pos p:Pos}
theorem Fh(I:@l)(ab:mX X.K H G)(rx:RelV x v)(rd:cP X.K H x d)(hi:zW d G=some (ds,ok)) :
  ∃ l vs,v=.ref l/\tp X.K H l vs/\bp X.K H vs ds/\∀ H2 G2,Kp H H2->mX X.K H2 G2->ok G2->∃ ws,tp X.K H2 l ws/\bp X.K H2 ws ds:=by
 cases rd with
 | eA hq rs=>cases hi;cases rx;exact⟨_,_,rfl,hq.sq,rs,λH2 G2 k ab _=>⟨_,(k.Wa hq).sq,rs.mono k⟩⟩
 | ref l =>
  unfold zW at hi;dsimp only at hi;cases hg:G l with
  | none=>rw [hg] at hi;cases hi
  | some gg =>
   rw [hg] at hi;cases gg with
   | lst zs =>
    cases hi;cases rx;obtain⟨vs,hv,rs⟩:=ab.lst hg;refine⟨_,_,rfl,.of hv,rs,λH2 G2 k ab o=>?_⟩;obtain⟨ws,hw,vd⟩:=ab.lst o;exact⟨ws,.of hw,vd⟩
   | ins _ _=>cases hi
   | Gj _=>cases hi
   | kg _=>cases hi
 | _=>cases hi
theorem Rk (hg:Gl X "zip") (hm:X.mg "zip" = none) (ha:eQ X a ta) (hb:eQ X b tb) (hs:autoParam (bG [a,b] X.env=[(false,eval a X.env),(false,eval b X.env)]) Ar._auto_1) (Ek:autoParam (bG [b] X.env=[(false,eval b X.env)]) Ar._auto_1) :
  FZ X (.Tuple elts kk QE) (.Call (.Name "zip" p) [a,b] [] pos) (Oy ta tb):=by
 intro E pins s σ H τ G R hE I h;have hA:yq X [a,b] (ag ta (ag tb aH)):=oQ ha (oQ hb y8 Ek) (by rw [hs,Ek]);refine Call_ (pZ I.inv hg hm VN (fX (zx hA pos hE I (R:=aaw λx y G1=>Af x y G1 R) h λvs H1 ds G1 us s1 I1 m1 r1 jU q1=>?_) (by rw [hs,Ek]) (by rw [Ek];rfl)))
 match ds,q1 with
 | [x,y],q1 =>
  change Af x y G1 R at q1;obtain⟨w1,w2,rfl,C1,Uc⟩:=jU.two;obtain⟨u1,u2,rfl,Ue,QT⟩:=vals2 r1;unfold Af at q1;split at q1
  .rename_i xs k1 ys k2 e1 e2;obtain⟨l1,v1,rfl,L9,rs1,st1⟩:=Fh I1.inv I1.ab Ue C1 e1;obtain⟨l2,v2,rfl,Lg,SF,P4⟩:=Fh I1.inv I1.ab QT Uc e2;obtain⟨Ol,Wb,pl1,_⟩:=I1.inv.list L9;obtain⟨tH,Kn,pl2,_⟩:=I1.inv.list Lg;refine call_zip_2 pl1.isList pl2.isList λh' z1 z2 z3 z4 z5 z6 z7=>?_;refine wpAny_pyIter_zip z1 ?_;refine⟨_,[s1.heap.objs.size+4,s1.heap.objs.size+2,s1.heap.objs.size+3,s1.heap.objs.size,s1.heap.objs.size+1],_,_,H1,G1,tE xs ys,_,rfl,I1.inv.kept (t':=s1.toks) z7,m1,
    ME l1 l2 _ _ _ _ _ @k,⟨z1,z2,⟨_,_,z3⟩,z4,z5⟩,λc hc=>?_,λi H2 G2 k ab o=>?_,q1⟩
   .have S8:s1.heap.objs.size<=c:=by
     simp only [cg,cU,or_false] at hc;rcases hc with rfl | rfl | rfl | rfl | rfl
     .exact iU _ _
     .exact iU _ _
     .exact iU _ _
     .exact aS _
     .exact iU _ _
    exact I1.inv.O1 S8 (I1.inv.du.fresh S8)
   .obtain⟨Z1,hw1,jU⟩:=st1 H2 G2 k ab o.1;obtain⟨Z0,Zi,Bf⟩:=P4 H2 G2 k ab o.2;refine⟨λd hd=>?_,λhl=>⟨Z1,Z0,hw1,Zi,?_⟩⟩
    .rw [EB] at hd;cases hx:xs[i]? with
     | none=>rw [hx] at hd;cases hd
     | some x' =>
      cases hy:ys[i]? with
      | none=>rw [hx,hy] at hd;cases hd
      | some y' =>
       rw [hx,hy] at hd;have ed:D.tup [x',y']=d:=by simpa using hd
       subst ed;obtain⟨vx,hvx,rx⟩:=jU.get hx;obtain⟨vy,hvy,ry⟩:=Bf.get hy;refine⟨⟨Z1,vx,Z0,vy,hw1,hvx,Zi,hvy⟩,?_⟩;rintro v H3 ⟨T,px,py,ex,hT,e3,hx3,hy3⟩;subst ex e3;have q1:=hx3 Z1 hw1;have q2:=hy3 Z0 Zi;rw [hvx] at q1;rw [hvy] at q2;cases q1;cases q2;exact⟨.tup dv (.cons (rx.mono (.new hT)) (.cons (ry.mono (.new hT)) .nil)),.Qc ab hT⟩
    .rw [EA] at hl;rw [jU.length,Bf.length];lia
  .exact q1.elim
 | [],q1=>exact q1.elim
 | [_],q1=>exact q1.elim
 | _ :: _ :: _ :: _,q1=>exact q1.elim
end
end K2
end
section
namespace K2
open PySem PySem.W PyProof.Rows
def iG(lt:Nat->Nat->Bool):KasT α->α
 | .ret a=>a
 | .ask i j k=>iG lt (k (lt i j))
theorem md(lt)(f:α->KasT β):∀ t:KasT α,iG lt (t.bind f)=iG lt (f (iG lt t))
 | .ret _=>rfl
 | .ask i j k=>md lt f (k (lt i j))
abbrev gA(p:Array Nat)(k:Nat):Nat:=p.getD k 0
theorem Cj(p)(k):gA p k=(p[k]?).getD 0:=by
 unfold gA;rw [bg]
structure JU(lt:Nat->Nat->Bool):Prop where
 asymm:∀ i j,lt i j=true->lt j i=false
 trans:∀ i j k,lt j i=false->lt k j=false->lt k i=false
theorem JU.refl(w:JU lt)(i):lt i i=false:=by
 cases h:lt i i with
 | false=>rfl
 | true=>rw [w.asymm _ _ h] at h;cases h
def Up(lt:Nat->Nat->Bool)(p:Array Nat)(m:Nat):Prop:=∀ i j,i<=j->j < m->lt (gA p j) (gA p i)=false
def Dn(lt:Nat->Nat->Bool)(p:Array Nat)(m:Nat):Prop:=∀ i j,i<=j->j < m->lt (gA p i) (gA p j)=false
section
variable {lt:Nat->Nat->Bool}
theorem Up.more(w:JU lt)(h1:1<=n)(h:Up lt p n)(hs:∀ k,n<=k->k < m->lt (gA p k) (gA p (k - 1))=false):Up lt p m:=by
 intro i j HC hjm;induction j with
 | zero =>
  have:i=0:=@d
  subst this;exact w.refl _
 | succ j ih =>
  by_cases hj:j+1 < n
  .exact h i (j+1) HC hj
  .by_cases e:i=j+1
   .subst e;exact w.refl _
   .have h1:=ih @c @c;have h2:=hs (j+1) @c hjm;exact w.trans _ _ _ h1 h2
theorem IZ(p):∀ (f n:Nat),n<=iG lt (qX p f n)/\iG lt (qX p f n)<=n+f/\(∀ k,n<=k->k < iG lt (qX p f n)->lt (gA p k) (gA p (k - 1))=false) /\
  (iG lt (qX p f n) < n+f->lt (gA p (iG lt (qX p f n))) (gA p (iG lt (qX p f n) - 1))=true):=by
 intro f;induction f with
 | zero=>intro n;exact⟨aS _,aS _,λk h1 h2=>absurd (show k < n from h2) @c,λh=>absurd (show n < n+0 from h) @c⟩
 | succ f ih =>
  intro n;have e:iG lt (qX p (f+1) n)=if lt (gA p n) (gA p (n - 1))=true then n else iG lt (qX p f (n+1)):=by
   show iG lt (if lt (gA p n) (gA p (n - 1))=true then xb n else qX p f (n+1))=_;split <;> rfl
  rw [e];by_cases c:lt (gA p n) (gA p (n - 1))=true
  .rw [if_pos c];exact⟨aS _,@d,λk h1 h2=>absurd h2 @c,λ_=>c⟩
  .rw [if_neg c];obtain⟨h1,h2,h3,h4⟩:=ih (n+1);refine⟨@d,@d,λk k1 k2=>?_,λh=>h4 @c⟩;by_cases e:k=n
   .subst e;simpa using c
   .exact h3 k @c k2
theorem iD(hj:j<=p.size)(k):gA (gO p i j) k=if i<=k/\k < j then gA p (i+j - 1 - k) else gA p k:=by
 rw [Cj,gO,getElem?_mirror_all hj];split <;> rw [Cj]
theorem mD(p)(i j):(gO p i j).size=p.size:=mirror_size _ _ _ _
theorem j6(p)(i j):(gO p i j).Perm p:=mirror_perm _ _ _ _
theorem Dn.rev(w:JU lt)(hn:n<=p.size)(h:Dn lt p n)(he:∀ k,a<=k->k < n->lt (gA p (n - 1)) (gA p k)=false):Dn lt (gO p a n) n:=by
 intro i j HC XR;rw [iD hn,iD hn];by_cases hi:a<=i
 .rw [if_pos ⟨hi,@d⟩,if_pos ⟨@d,XR⟩];exact w.trans _ _ _ (he (a+n - 1 - j) @c @c) (h (a+n - 1 - i) (n - 1) @c @c)
 .rw [if_neg @c];by_cases hj:a<=j
  .rw [if_pos ⟨hj,XR⟩];exact h i (a+n - 1 - j) @c @c
  .rw [if_neg @c];exact h i j HC XR
def Eqs(lt:Nat->Nat->Bool)(p:Array Nat)(n q:Nat):Prop:=q+1<=n/\∀ k,n - (q+1)<=k->k < n->lt (gA p (n - 1)) (gA p k)=false
theorem Dn.one(w:JU lt)(h1:1<=n)(h:Dn lt p n)(hc:lt (gA p (n - 1)) (gA p n)=false):Dn lt p (n+1):=by
 intro i j HC hj;by_cases e:j=n
 .subst e;by_cases e2:i=j
  .subst e2;exact w.refl _
  .exact w.trans _ _ _ hc (h i (j - 1) @c @c)
 .exact h i j HC @c
theorem M0(w:JU lt):∀ (f:Nat) (p:Array Nat) (n q:Nat),n+f<=p.size->Dn lt p n->Eqs lt p n q->∃ p' n' q',iG lt (lj f p n q)=(p',n',q')/\p'.Perm p/\p'.size=p.size/\n<=n'/\n'<=n+f/\Dn lt p' n'/\Eqs lt p' n' q':=by
 intro f;induction f with
 | zero=>intro p n q _ hd he;exact⟨p,n,q,rfl,ng _,rfl,aS _,aS _,hd,he⟩
 | succ f ih =>
  intro p n q hs hd he;have h1:1<=n:=by have:=he.1;lia
  have e:iG lt (lj (f+1) p n q)=if lt (gA p n) (gA p (n - 1))=true then (if q > 0 then iG lt (lj f (gO p (n - (q+1)) n) (n+1) 0) else iG lt (lj f p (n+1) 0))
    else if lt (gA p (n - 1)) (gA p n)=true then (p,n,q) else iG lt (lj f p (n+1) (q+1)):=by
   show iG lt (if lt (gA p n) (gA p (n - 1))=true then (if q > 0 then lj f (gO p (n - (q+1)) n) (n+1) 0 else lj f p (n+1) 0) else .ask (gA p (n - 1)) (gA p n) λd=>if d=true then .ret (p,n,q) else lj f p (n+1) (q+1))=_;split
   .split <;> rfl
   .show iG lt (if lt (gA p (n - 1)) (gA p n)=true then xb (p,n,q) else lj f p (n+1) (q+1))=_;split <;> rfl
  rw [e];by_cases c:lt (gA p n) (gA p (n - 1))=true
  .rw [if_pos c];have ca:=w.asymm _ _ c;by_cases hq:q > 0
   .rw [if_pos hq];have d1:Dn lt (gO p (n - (q+1)) n) n:=hd.rev w @c he.2;have en:gA (gO p (n - (q+1)) n) n=gA p n:=by rw [iD @c,if_neg @c]
    have ca':lt (gA (gO p (n - (q+1)) n) (n - 1)) (gA (gO p (n - (q+1)) n) n)=false:=by
     rw [en,iD @c];split
     .-- an item of Z5 Y5 is above p n
      exact w.trans _ _ _ ca (hd _ (n - 1) @c @c)
     .exact ca
    obtain⟨p',n',q',z,h2,h3,h4,h5,h6,h7⟩:=ih (gO p (n - (q+1)) n) (n+1) 0 (by rw [mD];lia) (d1.one w h1 ca') ⟨@d,λk k1 k2=>by
     have:k=n:=@d
     subst this;exact w.refl _⟩
    exact⟨p',n',q',z,h2.trans (j6 _ _ _),h3.trans (mD _ _ _),@d,@d,h6,h7⟩
   .rw [if_neg hq];obtain⟨p',n',q',z,h2,h3,h4,h5,h6,h7⟩:=ih p (n+1) 0 @c (hd.one w h1 ca) ⟨@d,λk k1 k2=>by
     have:k=n:=@d
     subst this;exact w.refl _⟩
    exact⟨p',n',q',z,h2,h3,@d,@d,h6,h7⟩
  .rw [if_neg c];have c':lt (gA p n) (gA p (n - 1))=false:=by simpa using c
   by_cases d:lt (gA p (n - 1)) (gA p n)=true
   .rw [if_pos d];exact⟨p,n,q,rfl,ng _,rfl,aS _,@d,hd,he⟩
   .rw [if_neg d];have d':lt (gA p (n - 1)) (gA p n)=false:=by simpa using d
    obtain⟨p',n',q',z,h2,h3,h4,h5,h6,h7⟩:=ih p (n+1) (q+1) @c (hd.one w h1 d') ⟨by have:=he.1;lia,λk k1 k2=>by
     rw [Nat.add_sub_cancel];by_cases e:k=n
     .subst e;exact w.refl _
     .exact w.trans _ _ _ (he.2 k @c @c) c'⟩
    exact⟨p',n',q',z,h2,h3,@d,@d,h6,h7⟩
theorem Dn.up(hn:n<=p.size)(h:Dn lt p n):Up lt (gO p 0 n) n:=by
 intro i j HC XR;rw [iD hn,iD hn,if_pos ⟨@d,XR⟩,if_pos ⟨@d,@d⟩];exact h _ _ @c @c
theorem ES(w:JU lt)(h1:1<=n)(hn:n<=nrem)(hs:nrem<=p.size)(h:Dn lt p n):∃ p' m,iG lt (Mm n nrem p)=(m,p')/\p'.Perm p/\p'.size=p.size/\n<=m/\m<=nrem/\Up lt p' m:=by
 obtain⟨a1,a2,a3,_⟩:=IZ (lt:=lt) (gO p 0 n) (nrem - n) n;refine⟨gO p 0 n,iG lt (qX (gO p 0 n) (nrem - n) n),by rw [Mm,md];rfl,j6 _ _ _,mD _ _ _,a1,@d,?_⟩;exact(h.up @c).more w h1 a3
theorem vg(w:JU lt)(h1:1<=n)(hn:n < nrem)(hs:nrem<=p.size)(h:Dn lt p n)(hc:lt (gA p (n - 1)) (gA p n)=false) :
  ∃ p' m,iG lt (zq n nrem p)=(m,p')/\p'.Perm p/\p'.size=p.size/\n<=m/\m<=nrem/\Up lt p' m:=by
 obtain⟨p1,n1,q1,z,z2,z3,z4,z5,z6,z7⟩:=M0 w (nrem - (n+1)) p (n+1) 0 @c (h.one w h1 hc) ⟨@d,λk k1 k2=>by
  have:k=n:=@d
  subst this;exact w.refl _⟩
 rw [zq,md,z];show ∃ p' m,iG lt (if q1 > 0 then Mm n1 nrem (gO p1 (n1 - (q1+1)) n1) else Mm n1 nrem p1)=(m,p')/\_;by_cases hq:q1 > 0
 .rw [if_pos hq];obtain⟨p',m,y1,y2,y3,y4,y5,y6⟩:=ES (nrem:=nrem) w (p:=gO p1 (n1 - (q1+1)) n1) @c @c (by rw [mD];lia) (z6.rev w @c z7.2);exact⟨p',m,y1,(y2.trans (j6 _ _ _)).trans z2,(y3.trans (mD _ _ _)).trans z3,@d,y5,y6⟩
 .rw [if_neg hq];obtain⟨p',m,y1,y2,y3,y4,y5,y6⟩:=ES (nrem:=nrem) w (p:=p1) @c @c @c z6;exact⟨p',m,y1,y2.trans z2,y3.trans z3,@d,y5,y6⟩
theorem Kq(w:JU lt)(h1:1<=nrem)(hs:nrem<=p.size):∃ p' m,iG lt (kas_count nrem p)=(m,p')/\p'.Perm p/\p'.size=p.size/\1<=m/\m<=nrem/\Up lt p' m:=by
 obtain⟨a1,a2,a3,a4⟩:=IZ (lt:=lt) p (nrem - 1) 1;rw [kas_count,md];generalize iG lt (qX p (nrem - 1) 1)=n at a1 a2 a3 a4;have u1:Up lt p 1:=λi j HC hj=>by
  have:i=j:=@d
  subst this;exact w.refl _
 have up:Up lt p n:=u1.more w @T a3;by_cases e:n=nrem
 .subst e;rw [if_pos @k];exact⟨p,n,rfl,ng _,rfl,a1,aS _,up⟩
 .rw [if_neg (by simpa using e)];have hb:=a4 @c;by_cases h2:n > 1
  .rw [if_pos h2];show ∃ p' m,iG lt (if lt (gA p 0) (gA p (n - 1))=true then xb (n,p) else zq n nrem (gO p 0 n))=(m,p')/\_;by_cases c:lt (gA p 0) (gA p (n - 1))=true
   .rw [if_pos c];exact⟨p,n,rfl,ng _,rfl,a1,@d,up⟩
   .rw [if_neg c];have c':lt (gA p 0) (gA p (n - 1))=false:=by simpa using c
    have all:∀ i j,i < n->j < n->lt (gA p i) (gA p j)=false:=λi j hi hj =>
     w.trans _ _ _ (w.trans _ _ _ (up j (n - 1) @c @c) c') (up 0 i @c hi)
    have d1:Dn lt (gO p 0 n) n:=λi j HC hj=>by
     rw [iD @c,iD @c,if_pos ⟨@d,@d⟩,if_pos ⟨@d,hj⟩];exact all _ _ @c @c
    have hl:lt (gA (gO p 0 n) (n - 1)) (gA (gO p 0 n) n)=false:=by
     rw [iD @c,iD @c,if_pos ⟨@d,@d⟩,if_neg @c];exact w.trans _ _ _ (w.asymm _ _ hb) (all _ _ @c @c)
    obtain⟨p',m,y1,y2,y3,y4,y5,y6⟩:=vg (nrem:=nrem) w (p:=gO p 0 n) a1 @c (by rw [mD];lia) d1 hl;exact⟨p',m,y1,y2.trans (j6 _ _ _),y3.trans (mD _ _ _),@d,y5,y6⟩
  .rw [if_neg h2];have e1:n=1:=@d
   subst e1;have d1:Dn lt p 1:=λi j HC hj=>by
    have:i=j:=@d
    subst this;exact w.refl _
   obtain⟨p',m,y1,y2,y3,y4,y5,y6⟩:=vg (nrem:=nrem) w (p:=p) @T @c hs d1 (w.asymm _ _ hb);exact⟨p',m,y1,y2,y3,@d,y5,y6⟩
theorem Ko(w:JU lt):∀ (f l r:Nat),l<=r->r<=k->r - l<=f->Up lt p k->(∀ i,i < l->lt (gA p k) (gA p i)=false)->(∀ i,r<=i->i < k->lt (gA p k) (gA p i)=true) ->
  ∃ m,iG lt (jW p k f l r)=m/\m<=k/\(∀ i,i < m->lt (gA p k) (gA p i)=false)/\(∀ i,m<=i->i < k->lt (gA p k) (gA p i)=true):=by
 intro f;induction f with
 | zero =>
  intro l r hlr Zj hf up h1 h2;have:l=r:=@d
  subst this;exact⟨l,rfl,Zj,h1,h2⟩
 | succ f ih =>
  intro l r hlr Zj hf up h1 h2;have e:iG lt (jW p k (f+1) l r)=if l>=r then l else if lt (gA p k) (gA p ((l+r) / 2))=true then iG lt (jW p k f l ((l+r) / 2)) else iG lt (jW p k f ((l+r) / 2+1) r):=by
   show iG lt (if l>=r then xb l else .ask (gA p k) (gA p ((l+r) / 2)) λc=>if c=true then jW p k f l ((l+r) / 2) else jW p k f ((l+r) / 2+1) r)=_;split
   .rfl
   .show iG lt (if lt (gA p k) (gA p ((l+r) / 2))=true then jW p k f l ((l+r) / 2) else jW p k f ((l+r) / 2+1) r)=_;split <;> rfl
  rw [e];by_cases c:l>=r
  .rw [if_pos c];have:l=r:=@d
   subst this;exact⟨l,rfl,Zj,h1,h2⟩
  .rw [if_neg c];by_cases d:lt (gA p k) (gA p ((l+r) / 2))=true
   .rw [if_pos d];refine ih l ((l+r) / 2) @c @c @c up h1 λi i1 i2=>?_;cases q:lt (gA p k) (gA p i) with
    | true=>rfl
    | false=>rw [w.trans _ _ _ (up ((l+r) / 2) i i1 i2) q] at d;cases d
   .rw [if_neg d];refine ih ((l+r) / 2+1) r @c Zj @c up (λi hi=>?_) h2;exact w.trans _ _ _ (up i ((l+r) / 2) @c @c) (by simpa using d)
theorem Ck(hs:src < p.size)(hd:d<=src)(k):gA (bubble p src d) k=if k=src - d then gA p src else if src - d < k/\k<=src then gA p (k - 1) else gA p k:=by
 rw [Cj,getElem?_bubble hs d hd,Cj p src,Cj p (k - 1),Cj p k];by_cases h1:k=src - d
 .rw [if_pos h1,if_pos h1]
 .rw [if_neg h1,if_neg h1];by_cases h2:src - d < k/\k<=src
  .rw [if_pos h2,if_pos h2]
  .rw [if_neg h2,if_neg h2]
theorem QR(w:JU lt):∀ (f:Nat) (p:Array Nat) (k:Nat),k+f<=p.size->Up lt p k->∃ p',iG lt (kas_bin f p k)=p'/\p'.Perm p/\p'.size=p.size/\Up lt p' (k+f):=by
 intro f;induction f with
 | zero=>intro p k _ up;exact⟨p,rfl,ng _,rfl,up⟩
 | succ f ih =>
  intro p k hs up;obtain⟨m,e,hm,h1,h2⟩:=Ko w k 0 k (ck _) @T @T up (λi hi=>absurd hi @c) (λi i1 i2=>absurd i1 @c);have up':Up lt (bubble p k (k - m)) (k+1):=by
   intro i j HC hj;rw [Ck @c @c,Ck @c @c];have ek:k - (k - m)=m:=@d
   rw [ek];by_cases j1:j=m
   .rw [if_pos j1];by_cases i1:i=m
    .rw [if_pos i1];exact w.refl _
    .rw [if_neg i1,if_neg @c];exact h1 i @c
   .rw [if_neg j1];by_cases j2:m < j/\j<=k
    .rw [if_pos j2];by_cases i1:i=m
     .rw [if_pos i1];exact w.asymm _ _ (h2 (j - 1) @c @c)
     .rw [if_neg i1];by_cases i2:m < i/\i<=k
      .rw [if_pos i2];exact up _ _ @c @c
      .rw [if_neg i2];exact up _ _ @c @c
    .rw [if_neg j2,if_neg @c,if_neg @c];exact up _ _ HC @c
  obtain⟨p',z,z1,z2,z3⟩:=ih (bubble p k (k - m)) (k+1) (by rw [bubble_size];lia) up';refine⟨p',?_,z1.trans (bubble_perm _ _ _),z2.trans (bubble_size _ _ _),by rw [show k+(f+1)=k+1+f by lia];exact z3⟩;rw [kas_bin,md,e];exact z
theorem ET(w:JU lt)(h1:1<=n):∃ p,iG lt (kas_sort n)=p/\p.toList.Perm (bZ n)/\p.size=n/\Up lt p n:=by
 obtain⟨p,m,z,z1,z2,z3,z4,z5⟩:=Kq w (p:=(bZ n).toArray) h1 @k;have zs:p.size=n:=by rw [z2];simp
 have zp:p.toList.Perm (bZ n):=by simpa using z1.toList
 rw [kas_sort,md,z];show ∃ q,iG lt (if m < n then kas_bin (n - max m 1) p (max m 1) else .ret p)=q/\_;by_cases c:m < n
 .rw [if_pos c];have em:max m 1=m:=@d
  rw [em];obtain⟨p',y,y1,y2,y3⟩:=QR w (n - m) p m @c z5;exact⟨p',y,(by simpa using y1.toList:p'.toList.Perm p.toList).trans zp,y2.trans zs,by rw [show n=m+(n - m) by lia];exact y3⟩
 .rw [if_neg c];have:m=n:=@d
  subst this;exact⟨p,rfl,zp,zs,z5⟩
end
end K2
end
section
namespace K2
open PySem PySem.Spec PyProof.Rows L2
open PySem.AutoSeq1 (wpAny_loadPart')
open PySem.MeetsSeq PySem.MeetsSeq2 PySem.MeetsSeq3 PySem.SeqAt
def AR(A:c7)(s:aF)(y x:Value)(b:Bool):Prop :=
 ∀ (prog:bI) (w:World) (E:@H) (Q:@H),Q (.bool b) s->wpAny @L A (qW .Lt y x) Q E s
def tG(e l:Nat->Bool)(n m:Nat):Nat->Nat->Bool
 | 0,_=>decide (n < m)
 | f+1,i=>if e i=true then tG e l n m f (i+1) else l i
theorem RT(l b)(xs ys)(n m)(dd de)(sl sm)(e lt)(k) :
  ∀ i:Nat,i<=@bt->@bt - i=k->Meets (Builtin.«list.__eq__.loop» ⟨[.ref l,@X,BE i,BE 0],[]⟩)
   (λA R s=>s.heap.get? l=some { cls:=@ak,dict:=dd,data:=.seq xs n,slots:=sl }/\@ar=some { cls:=@ak,dict:=de,data:=.seq ys m,slots:=sm } /\
    (∀ j (h1:j < xs.size) (h2:j < ys.size),EqAt A.in1 s xs[j] ys[j] (e j)/\AR A.in1 s xs[j] ys[j] (lt j)) /\
    R (.ok (.ret (.bool (tG e lt xs.size ys.size k i)))) s):=by
 induction k with
 | zero =>
  intro i hi hk prog w A R s h;obtain⟨hp,g,d,tk,os⟩:=s;obtain⟨hl,hb,he,h⟩:=h
  wp_walk using b7 hl,b7 hb
  by_cases c:xs.size<=ys.size
  .have h1:xs[((i:Nat):Int).toNat]?=none:=by simp;lia
   rw [h1]
   wp_walk using b7 hl,b7 hb
   exact h
  .have h2:ys[((i:Nat):Int).toNat]?=none:=by simp;lia
   rw [h2];cases q:xs[((i:Nat):Int).toNat]? with
   | none =>
    wp_walk using b7 hl,b7 hb
    exact h
   | some v =>
    wp_walk using b7 hl,b7 hb
    exact h
 | succ k ih =>
  intro i hi hk prog w A R s h;obtain⟨hp,g,d,tk,os⟩:=s;obtain⟨hl,hb,he,h⟩:=h
  wp_walk using b7 hl,b7 hb
  have l1:i < xs.size:=@d
  have l2:i < ys.size:=@d
  have h1:xs[((i:Nat):Int).toNat]?=some xs[i]:=by simp [l1]
  have h2:ys[((i:Nat):Int).toNat]?=some ys[i]:=by simp [l2]
  have hc:((i:Int)+1)=((i+1:Nat):Int):=by push_cast;rfl
  rw [h1,h2];refine ay ((he i l1 l2).1 prog w _ _ ?_);cases q:e i with
  | true =>
   rw [tG,q,if_pos rfl] at h
   wp_walk
   rw [hc];exact⟨ko plain_eq_loop _,gP entry_eq_loop (by
    rw [fj plain_eq_loop _];exact ih (i+1) @c @c prog w A R _ ⟨hl,hb,he,h⟩)⟩
  | false =>
   rw [tG,q,if_neg @k] at h
   wp_walk using b7 hl,b7 hb
   rw [h1,h2];have XE:=(he i l1 l2).2 prog w
   wp_walk using XE
   exact h
theorem B7(l b)(xs ys)(n m)(dd de)(sl sm)(e lt) :
  Meets (Builtin.«list.__lt__» ⟨[.ref l,@X],[]⟩)
   (λA R s=>s.heap.get? l=some { cls:=@ak,dict:=dd,data:=.seq xs n,slots:=sl }/\@ar=some { cls:=@ak,dict:=de,data:=.seq ys m,slots:=sm } /\
    (∀ j (h1:j < xs.size) (h2:j < ys.size),EqAt A.in1 s xs[j] ys[j] (e j)/\AR A.in1 s xs[j] ys[j] (lt j)) /\
    R (.ok (.ret (.bool (tG e lt xs.size ys.size (@bt) 0)))) s):=by
 intro prog w A R s h;obtain⟨hp,g,d,tk,os⟩:=s;obtain⟨hl,hb,he,h⟩:=h;have f3:=GD
 wp_walk using b7 hl,b7 hb
 exact⟨ko plain_eq_loop _,gP entry_eq_loop (by
  rw [fj plain_eq_loop _];exact RT l b xs ys n m dd de sl sm e lt _ 0 (ck _) rfl prog w A R _ ⟨hl,hb,he,h⟩)⟩
theorem zw(l b)(xs ys)(n m)(dd de)(sl sm)(e lt) :
  Meets (Builtin.«tuple.__lt__» ⟨[.ref l,@X],[]⟩)
   (λA R s=>s.heap.get? l=some { cls:=.type "tuple",dict:=dd,data:=.seq xs n,slots:=sl }/\@ar=some { cls:=.type "tuple",dict:=de,data:=.seq ys m,slots:=sm } /\
    (∀ j (h1:j < xs.size) (h2:j < ys.size),EqAt A.in1 s xs[j] ys[j] (e j)/\AR A.in1 s xs[j] ys[j] (lt j)) /\
    R (.ok (.ret (.bool (tG e lt xs.size ys.size (@bt) 0)))) s) :=
 .of_wp λprog w A R s h=>by
  obtain⟨hp,g,d,tk,os⟩:=s;obtain⟨hl,hb,he,h⟩:=h;have f2:=qw;have zl:(xs.toList.zip ys.toList).length=@bt:=@ad
  wp_walk using b7 hl,b7 hb,pI _ (λrest c s'=>c.1=none/\s'=⟨hp,g,d,tk,os⟩/\∃ i,i<=@bt/\rest=(xs.toList.zip ys.toList).drop i /\
   R (.ok (.ret (.bool (tG e lt xs.size ys.size (@bt - i) i)))) ⟨hp,g,d,tk,os⟩) _
  case turn =>
   rintro⟨y,x⟩ rest c s' ⟨hc,rfl,i,hi,hz,hR⟩;have il:i < @bt:=by
    have:=congrArg bS hz;rw [cf,zl,af] at this;lia
   have l1:i < xs.size:=@d
   have l2:i < ys.size:=@d
   rw [gW (by rw [zl];exact il)] at hz;injection hz with hyx OC
   have ey:y=xs[i]/\x=ys[i]:=by simpa using hyx
   obtain⟨rfl,rfl⟩:=ey;obtain⟨k,ek⟩:∃ k,@bt - i=k+1:=⟨@bt - i - 1,@d⟩;rw [ek,tG] at hR;refine ay ((he i l1 l2).1 prog w _ _ ?_);cases q:e i with
   | true =>
    rw [q,if_pos rfl] at hR
    wp_walk
    exact⟨rfl,rfl,i+1,@d,OC,by rw [show @bt - (i+1)=k by lia];exact hR⟩
   | false =>
    rw [q,if_neg @k] at hR;have XE:=(he i l1 l2).2 prog w
    wp_walk using XE
    exact⟨_,rfl,by simpa using hR⟩
  case fin =>
   rintro⟨c1,c2⟩ s' ⟨hc,rfl,i,hi,hz,hR⟩;simp only at hc;subst hc;have il:@bt - i=0:=by
    have:=congrArg bS hz;rw [cf,zl,av] at this;lia
   rw [il,tG] at hR
   wp_walk
   exact⟨_,rfl,by simpa [uX] using hR⟩
  case h =>
   exact⟨rfl,rfl,0,ck _,rfl,@bE⟩
theorem KW(hl:s.heap.IsList l xs)(hb:s.heap.IsList b ys)(hu:A.units < cLine)
  (he:∀ j (h1:j < xs.size) (h2:j < ys.size),EqAt A.in1 s xs[j] ys[j] (e j)/\AR A.in1 s xs[j] ys[j] (lt j)):AR A s (.ref l) (@X) (tG e lt xs.size ys.size (@bt) 0):=by
 intro prog w E Q hq;obtain⟨⟨cls,dd,data,sl⟩,ho,hc,n,hd⟩:=id hl;obtain⟨⟨Pk,JK,data2,IX⟩,Ce,Dv,n2,hd2⟩:=id hb;simp only at hc hd Dv hd2;subst hc hd Dv hd2;exact yx (op:=.Lt) ⟨_,ho,rfl⟩ ⟨_,Ce,rfl⟩ uR J4 (IA _ _) (B7 l b xs ys n n2 dd JK sl IX e lt)
  ⟨ho,Ce,he,(λx=>nomatch x),hq⟩ hu
theorem Hs(hl:s.heap.IsTuple l xs)(hb:s.heap.IsTuple b ys)(hu:A.units < cLine)
  (he:∀ j (h1:j < xs.size) (h2:j < ys.size),EqAt A.in1 s xs[j] ys[j] (e j)/\AR A.in1 s xs[j] ys[j] (lt j)):AR A s (.ref l) (@X) (tG e lt xs.size ys.size (@bt) 0):=by
 intro prog w E Q hq;obtain⟨⟨cls,dd,data,sl⟩,ho,hc,n,hd⟩:=id hl;obtain⟨⟨Pk,JK,data2,IX⟩,Ce,Dv,n2,hd2⟩:=id hb;simp only at hc hd Dv hd2;subst hc hd Dv hd2;exact yx (op:=.Lt) ⟨_,ho,rfl⟩ ⟨_,Ce,rfl⟩ lN tu (rg _ _) (zw l b xs ys n n2 dd JK sl IX e lt)
  ⟨ho,Ce,he,(λx=>nomatch x),hq⟩ hu
theorem oW(xs ys:@f):∀ (k i:Nat),i<=min xs.length ys.length->min xs.length ys.length - i=k ->
  tG (λj=>iI (xs.getD j .dj) (ys.getD j .dj)) (λj=>pG (xs.getD j .dj) (ys.getD j .dj)) xs.length ys.length k i=kL (xs.drop i) (ys.drop i)
 | 0,i,hi,hk=>by
  rw [tG];by_cases c:xs.length<=ys.length
  .have e1:xs.drop i=[]:=lQ @c;rw [e1];cases q:ys.drop i with
   | nil =>
    have:=congrArg bS q;rw [cf,av] at this;exact decide_eq_false @c
   | cons y r =>
    have:=congrArg bS q;rw [cf,af] at this;exact decide_eq_true @c
  .have e1:ys.drop i=[]:=lQ @c;rw [e1];cases q:xs.drop i with
   | nil =>
    have:=congrArg bS q;rw [cf,av] at this;exact decide_eq_false @c
   | cons y r=>exact decide_eq_false @c
 | k+1,i,hi,hk=>by
  have l1:i < xs.length:=@d
  have l2:i < ys.length:=@d
  rw [tG,gW l1,gW l2,mL,oW xs ys k (i+1) @c @c];have g1:xs.getD i .dj=xs[i]:=by rw [bf,aB l1];rfl
  have g2:ys.getD i .dj=ys[i]:=by rw [bf,aB l2];rfl
  rw [g1,g2]
theorem j7:∀ {ds:@f} {vs:@B} {as:@aE},fV h vs (kI ds) as->∀ j (hj:j < vs.length),∃ bs,Reads h vs[j] (pd (ds.getD j .dj)) bs
 | [],vs,as,r,j,hj=>by cases r;exact absurd hj (cG _)
 | d :: ds,_,_,.cons (v:=v) (vs:=vs) r1 r2,j,hj=>by
  cases j with
  | zero=>exact⟨_,r1⟩
  | succ j=>exact j7 r2 j (by simpa using hj)
theorem readsAll_len:∀ {ds:@f} {vs:@B} {as:@aE},fV h vs (kI ds) as->vs.length=ds.length
 | [],_,_,r=>by cases r;rfl
 | d :: ds,_,_,.cons r1 r2=>by rw [af,af,readsAll_len r2]
theorem pW:∀ {ds:@f},pF ds=true->∀ j,nr (ds.getD j .dj)=true
 | [],_,j=>by rw [List.getD_nil];rfl
 | d :: ds,h,0=>by
  have h:(nr d&&pF ds)=true:=h;rw [aR] at h;simpa using h.1
 | d :: ds,h,j+1=>by
  have h:(nr d&&pF ds)=true:=h;rw [aR] at h;simpa using pW h.2 j
theorem k8:∀ (ds:@f) (j:Nat),(pd (ds.getD j .dj)).depth<=bV (kI ds)
 | [],j=>by rw [List.getD_nil];exact aS _
 | d :: ds,0=>by
  show (pd d).depth<=bV (pd d :: kI ds);simp only [bV];lia
 | d :: ds,j+1=>by
  have:=k8 ds j;show (pd (ds.getD j .dj)).depth<=bV (pd d :: kI ds);simp only [bV];lia
theorem rP:∀ {l:List kO} {ds:@f},ff l ds=true->∀ j,j < ds.length->∃ s∈l,da s (ds.getD j .dj)=true/\l[j]?=some s
 | [],[],_,j,hj=>absurd hj (cG _)
 | [],_ :: _,h,_,_=>@aH
 | _ :: _,[],h,_,_=>@aH
 | s :: l,d :: ds,h,0,_=>by
  have h:(da s d&&ff l ds)=true:=h;rw [aR] at h;exact⟨s,@ad,by simpa using h.1,@ad⟩
 | s :: l,d :: ds,h,j+1,hj=>by
  have h:(da s d&&ff l ds)=true:=h;rw [aR] at h;obtain⟨s',h1,h2,h3⟩:=rP h.2 j (by simpa using hj);exact⟨s',aL _ h1,@bl,by simpa using h3⟩
theorem rQ:∀ {s:kO} {ds:@f},gU s ds=true->∀ j,j < ds.length->da s (ds.getD j .dj)=true
 | s,[],_,j,hj=>absurd hj (cG _)
 | s,d :: ds,h,0,_=>by
  have h:(da s d&&gU s ds)=true:=h;rw [aR] at h;simpa using h.1
 | s,d :: ds,h,j+1,hj=>by
  have h:(da s d&&gU s ds)=true:=h;rw [aR] at h;simpa using rQ h.2 j (by simpa using hj)
theorem DO{vs ws:Array Value}(r1:fV s.heap vs.toList (kI xs) as)(r2:fV s.heap ws.toList (kI ys) bs)(n1:pF xs=true)(n2:pF ys=true)
  (hu:A.units+bV (kI xs) < cLine) (j) (h1) (h2:j < ws.size):EqAt A s vs[j] ws[j] (iI (xs.getD j .dj) (ys.getD j .dj)):=by
 obtain⟨YB,q1⟩:=j7 r1 j (by simpa using h1);obtain⟨Yz,q2⟩:=j7 r2 j (@bl);have m1:=pW n1 j;have m2:=pW n2 j;have dp:=k8 xs j;have:=eqAt_reads (pd (xs.getD j .dj)) (pd (ys.getD j .dj)) A s _ _ _ _ q1 q2 (jk _ m1) (jk _ m2) @c;rw [rW _ _ m1 m2] at this;simpa using this
theorem zV:∀ (n:Nat) (sh:kO) (a b:D) (A:c7) (s:aF) (u v:Value) (as bs:@aE),(pd a).depth<=n->da sh a=true->da sh b=true->nr a=true->nr b=true->Reads s.heap u (pd a) as->Reads s.heap v (pd b) bs->A.units+n < cLine->AR A s u v (pG a b):=by
 intro n;induction n using Nat.strongRecOn with
 | _ n ih =>
 intro sh a b A s u v as bs hn h1 h2 n1 n2 r1 r2 hu;cases sh with
 | int =>
  ext f
  ext g
  cases r1;cases r2;intro prog w E Q hq;exact HT.zK A s _ _ _ _ prog w E Q hq
 | tup l =>
  ext f
  ext g
  rename_i xs ys;have n1:pF xs=true:=n1;have n2:pF ys=true:=n2;cases r1 with
  | tuple k1 k2 k3 k4 =>
   cases r2 with
   | tuple m1 m2 m3 m4 =>
    rename_i p o vs c p' o' ws c';have hd:(pd (.tup xs)).depth=bV (kI xs)+1:=rfl;obtain⟨n',rfl⟩:∃ n',n=n'+1:=⟨n - 1,@d⟩;have z1:=readsAll_len k4;have z2:=readsAll_len m4;have e1:vs.size=xs.length:=by simpa using z1
    have e2:ws.size=ys.length:=by simpa using z2
    have base:=Hs (A:=A) (s:=s) (e:=λj=>iI (xs.getD j .dj) (ys.getD j .dj)) (lt:=λj=>pG (xs.getD j .dj) (ys.getD j .dj)) ⟨_,k1,k2,_,k3⟩ ⟨_,m1,m2,_,m3⟩ @c (λj j1 j2=>by
     refine⟨DO k4 m4 n1 n2 (by show A.units+1+_ < _;lia) j j1 j2,?_⟩;obtain⟨YB,q1⟩:=j7 k4 j (by simpa using j1);obtain⟨Yz,q2⟩:=j7 m4 j (by simpa using j2);obtain⟨sj,hsj,g1,g2⟩:=rP (l:=l) (ds:=xs) h1 j @c;obtain⟨sj',abc,g1',Yk⟩:=rP (l:=l) (ds:=ys) h2 j @c;rw [g2] at Yk;cases Yk;have dp:=k8 xs j;have:=ih n' @c sj (xs.getD j .dj) (ys.getD j .dj) A.in1 s _ _ _ _ @c g1 g1' (pW n1 j) (pW n2 j) q1 q2 (by show A.units+1+n' < cLine;lia);simpa using this)
    have fin:=oW xs ys (min xs.length ys.length) 0 (ck _) rfl;rw [e1,e2,fin] at base;exact base
 | lst l =>
  ext f
  ext g
  rename_i xs ys;have n1:pF xs=true:=n1;have n2:pF ys=true:=n2;cases r1 with
  | list k1 k2 k3 k4 =>
   cases r2 with
   | list m1 m2 m3 m4 =>
    rename_i p o vs c p' YB o' ws c' Yz;have hd:(pd (.eA xs)).depth=bV (kI xs)+1:=rfl;obtain⟨n',rfl⟩:∃ n',n=n'+1:=⟨n - 1,@d⟩;have z1:=readsAll_len k4;have z2:=readsAll_len m4;have e1:vs.size=xs.length:=by simpa using z1
    have e2:ws.size=ys.length:=by simpa using z2
    have base:=KW (A:=A) (s:=s) (e:=λj=>iI (xs.getD j .dj) (ys.getD j .dj)) (lt:=λj=>pG (xs.getD j .dj) (ys.getD j .dj)) ⟨_,k1,k2,_,k3⟩ ⟨_,m1,m2,_,m3⟩ @c (λj j1 j2=>by
     refine⟨DO k4 m4 n1 n2 (by show A.units+1+_ < _;lia) j j1 j2,?_⟩;obtain⟨YB,q1⟩:=j7 k4 j (by simpa using j1);obtain⟨Yz,q2⟩:=j7 m4 j (by simpa using j2);have dp:=k8 xs j;have:=ih n' @c l (xs.getD j .dj) (ys.getD j .dj) A.in1 s _ _ _ _ @c (rQ (s:=l) (ds:=xs) h1 j @c) (rQ (s:=l) (ds:=ys) h2 j @c) (pW n1 j) (pW n2 j) q1 q2 (by show A.units+1+n' < cLine;lia);simpa using this)
    have fin:=oW xs ys (min xs.length ys.length) 0 (ck _) rfl;rw [e1,e2,fin] at base;exact base
end K2
end
section
namespace K2
open PySem PySem.Spec PyProof.Rows L2 PySem.W
section
variable {prog:bI} {w:World} {A:c7} {E:@H} {s:aF}
theorem EN {at':Addr} {bu:@B} {n:Nat} {P:PySem.Fin->@ae} (El:s.heap.get? at'=some (xU "list" bu.toArray n)) (kb:bu.length < 2)
  (done:P (.done (.ret .none)) { s with heap:=sortedHeap s.heap at' bu bu.toArray }):wpAny @L A (Builtin.«list.sort» ⟨[.ref at'],[]⟩) P E s:=by
 rw [list_sort_plain];have lt':at' < s.heap.objs.size:=aQ El;refine ay (listItems_at El rfl (ay (listUpdate_at El rfl ?_)));obtain⟨c,hc⟩:∃ c,(s.heap.update at' (i8 λ_=>#[])).get? at'=some (xU "list" #[] c):=⟨_,get?_update_seq El (λ_=>#[])⟩;refine ay (seqEpoch_at hc rfl (ay (wpAny_newTuple (ay (wpAny_newList (fe ?_))))));have h6:(((s.heap.update at' (i8 λ_=>#[])).push (xU "tuple" bu.toArray 0)).push (xU "list" #[] 0)).get? at'=some (xU "list" #[] c):=by
  rw [Heap.get?_push_ne _ _ _ (by rw [size_push',Eg];exact bx (iE lt')),Heap.get?_push_ne _ _ _ (by rw [Eg];exact bx lt')];exact hc
 show wpAny @L A _ P E { s with heap:=((s.heap.update at' (i8 λ_=>#[])).push (xU "tuple" bu.toArray 0)).push (xU "list" #[] 0) };ext d;have sz2:bu.toArray.size < 2:=by simpa using kb
 rw [if_pos sz2,if_pos sz2];refine ay (aK ?_);rw [StateT.run_pure];refine ay (aK ?_);ext d;have es:(bu.toArray.zip bu.toArray).map (·.2)=bu.toArray:=by
  apply Array.toList_inj.mp;simp [List.map_snd_zip]
 refine ay (seqEpoch_at h6 rfl (ay (listUpdate_at h6 rfl ?_ (hsz2:=by rw [show (arrOf (SortSt.mk' general' (bu.toArray.zip bu.toArray) #[] 7 none)).map (·.2)=bu.toArray from es,cq];simp;lia))));simp only [bne_self_eq_false,aj,if_false];refine aK ?_;rw [show (arrOf (SortSt.mk' general' (bu.toArray.zip bu.toArray) #[] 7 none)).map (·.2)=bu.toArray from es];exact done
theorem GP{l:Addr}{bu:@B}{Q:@H}(hl:s.heap.IsList l bu.toArray)(kb:bu.length < 2)
  (done:Q (.ref (@aO)) { s with heap:=sortedAll s.heap bu bu.toArray }):wpAny @L A (call (.builtin "sorted") [.ref l]) Q E s:=by
 refine Calls.call_function_entry kind_sorted plain_sorted entry_sorted (args_sorted1 _) ?_;unfold Builtin.«sorted»;refine ay (m:=checkCount "sorted" 1 1 _) (aK (ay (collect_list hl (ay (wpAny_newList ?_)))));have e1:((s.heap.push (xU "list" #[] 0)).update s.heap.objs.size (i8 (·++bu.toArray))).objs.size=@aO:=by rw [Eg,size_push']
 have e2:(((s.heap.push (xU "list" #[] 0)).update s.heap.objs.size (i8 (·++bu.toArray))).push (xU "list" bu.toArray 0)).get? (@aO)=some (xU "list" bu.toArray 0):=by
  rw [<-e1];exact bc _ rfl
 show wpAny _ _ _ _ _ { s with heap:=((s.heap.push (xU "list" #[] 0)).update s.heap.objs.size (i8 (·++bu.toArray))).push (xU "list" bu.toArray 0) };rw [e1];refine ay (fe (fJ slot_list_sort ⟨_,e2,rfl⟩ entry_list_sort (EN e2 kb ⟨_,rfl,?_⟩) (args_list_sort _)));exact aK ⟨_,rfl,done⟩
end
section
open PySem.SeqAt
def PH(A:c7)(s:aF)(y x:Value)(b:Bool):Prop :=
 ∀ (prog:bI) (w:World) (E:@H) (Q:Bool->@ae),Q b s->wpAny @L A (oneLt' true y x) Q E s
theorem Hg(hl:s.heap.IsList l xs)(hb:s.heap.IsList b ys)(hu:A.units < cLine)
  (he:∀ j (h1:j < xs.size) (h2:j < ys.size),EqAt A.in1 s xs[j] ys[j] (e j)/\AR A.in1 s xs[j] ys[j] (lt j)):PH A s (.ref l) (@X) (tG e lt xs.size ys.size (@bt) 0):=by
 intro prog w E Q hq;obtain⟨⟨cls,dd,data,sl⟩,ho,hc,n,hd⟩:=id hl;obtain⟨⟨Pk,JK,data2,IX⟩,Ce,Dv,n2,hd2⟩:=id hb;simp only at hc hd Dv hd2;subst hc hd Dv hd2;rw [oneLt'_eq];simp only [if_true];refine ay (wpAny_cRoomFor hu (ay (Iq (T:="list") ⟨_,ho,rfl⟩ uR ?_)));exact AW uR ⟨_,ho,rfl⟩ J4 (IA _ _) (B7 l b xs ys n n2 dd JK sl IX e lt) ⟨ho,Ce,he,nT hq⟩
theorem E5(hl:s.heap.IsTuple l xs)(hb:s.heap.IsTuple b ys)(hu:A.units < cLine)
  (he:∀ j (h1:j < xs.size) (h2:j < ys.size),EqAt A.in1 s xs[j] ys[j] (e j)/\AR A.in1 s xs[j] ys[j] (lt j)):PH A s (.ref l) (@X) (tG e lt xs.size ys.size (@bt) 0):=by
 intro prog w E Q hq;obtain⟨⟨cls,dd,data,sl⟩,ho,hc,n,hd⟩:=id hl;obtain⟨⟨Pk,JK,data2,IX⟩,Ce,Dv,n2,hd2⟩:=id hb;simp only at hc hd Dv hd2;subst hc hd Dv hd2;rw [oneLt'_eq];simp only [if_true];refine ay (wpAny_cRoomFor hu (ay (Iq (T:="tuple") ⟨_,ho,rfl⟩ lN ?_)));exact AW lN ⟨_,ho,rfl⟩ tu (rg _ _) (zw l b xs ys n n2 dd JK sl IX e lt) ⟨ho,Ce,he,nT hq⟩
theorem Fp{vs ws:Array Value}(r1:fV s.heap vs.toList (kI xs) as)(r2:fV s.heap ws.toList (kI ys) bs)(n1:pF xs=true)(n2:pF ys=true)(hd:bV (kI xs)<=n)
  (hu:A.units+n < cLine) (hs:∀ j,j < xs.length->j < ys.length->∃ sh,da sh (xs.getD j .dj)=true/\da sh (ys.getD j .dj)=true) (j) (h1) (h2:j < ws.size) :
  EqAt A s vs[j] ws[j] (iI (xs.getD j .dj) (ys.getD j .dj))/\AR A s vs[j] ws[j] (pG (xs.getD j .dj) (ys.getD j .dj)):=by
 have z1:=readsAll_len r1;have z2:=readsAll_len r2;have e1:vs.size=xs.length:=by simpa using z1
 have e2:ws.size=ys.length:=by simpa using z2
 refine⟨DO r1 r2 n1 n2 @c j h1 h2,?_⟩;obtain⟨YB,q1⟩:=j7 r1 j (by simpa using h1);obtain⟨Yz,q2⟩:=j7 r2 j (@bl);obtain⟨sh,g1,g2⟩:=hs j @c @c;have dp:=k8 xs j;have:=zV n sh (xs.getD j .dj) (ys.getD j .dj) A s _ _ _ _ @c g1 g2 (pW n1 j) (pW n2 j) q1 q2 hu;simpa using this
theorem ye(hn:(pd a).depth<=n)(h1:da sh a=true)(h2:da sh b=true)(n1:nr a=true)(n2:nr b=true)(r1:Reads s.heap u (pd a) as)(r2:Reads s.heap v (pd b) bs)
  (hu:A.units+n < cLine):PH A s u v (pG a b):=by
 cases sh with
 | int =>
  ext f
  ext g
  cases r1;cases r2;intro prog w E Q hq;exact oneLt_int hq
 | tup l =>
  ext f
  ext g
  rename_i xs ys;have n1:pF xs=true:=n1;have n2:pF ys=true:=n2;cases r1 with
  | tuple k1 k2 k3 k4 =>
   cases r2 with
   | tuple m1 m2 m3 m4 =>
    rename_i p o vs c p' o' ws c';have hd:(pd (.tup xs)).depth=bV (kI xs)+1:=rfl;obtain⟨n',rfl⟩:∃ n',n=n'+1:=⟨n - 1,@d⟩;have z1:=readsAll_len k4;have z2:=readsAll_len m4;have e1:vs.size=xs.length:=by simpa using z1
    have e2:ws.size=ys.length:=by simpa using z2
    have base:=E5 (A:=A) (s:=s) ⟨_,k1,k2,_,k3⟩ ⟨_,m1,m2,_,m3⟩ @c (Fp (A:=A.in1) (n:=n') k4 m4 n1 n2 @c (by show A.units+1+n' < cLine;lia) λj j1 j2=>by
     obtain⟨sj,hsj,g1,g2⟩:=rP (l:=l) (ds:=xs) h1 j j1;obtain⟨sj',abc,g1',Yk⟩:=rP (l:=l) (ds:=ys) h2 j j2;rw [g2] at Yk;cases Yk;exact⟨sj,g1,g1'⟩)
    have fin:=oW xs ys (min xs.length ys.length) 0 (ck _) rfl;rw [e1,e2,fin] at base;exact base
 | lst l =>
  ext f
  ext g
  rename_i xs ys;have n1:pF xs=true:=n1;have n2:pF ys=true:=n2;cases r1 with
  | list k1 k2 k3 k4 =>
   cases r2 with
   | list m1 m2 m3 m4 =>
    rename_i p o vs c p' YB o' ws c' Yz;have hd:(pd (.eA xs)).depth=bV (kI xs)+1:=rfl;obtain⟨n',rfl⟩:∃ n',n=n'+1:=⟨n - 1,@d⟩;have z1:=readsAll_len k4;have z2:=readsAll_len m4;have e1:vs.size=xs.length:=by simpa using z1
    have e2:ws.size=ys.length:=by simpa using z2
    have base:=Hg (A:=A) (s:=s) ⟨_,k1,k2,_,k3⟩ ⟨_,m1,m2,_,m3⟩ @c (Fp (A:=A.in1) (n:=n') k4 m4 n1 n2 @c (by show A.units+1+n' < cLine;lia) λj j1 j2=>⟨l,rQ (s:=l) (ds:=xs) h1 j j1,rQ (s:=l) (ds:=ys) h2 j j2⟩);have fin:=oW xs ys (min xs.length ys.length) 0 (ck _) rfl;rw [e1,e2,fin] at base;exact base
theorem vU{prog:bI}{w:World}{A:c7}{s:aF}{b fin:Bool}{Q:Bool->@ae}{n:Nat}(hu:A.units+n < cLine):∀ (l:List kO) (xs ys:@f) (vs ws:@B) (as bs:@aE) (i:Nat),ff l xs=true->ff l ys=true->pF xs=true->pF ys=true ->
  fV s.heap vs (kI xs) as->fV s.heap ws (kI ys) bs->bV (kI xs)<=n->fin=false->Q (kL xs ys) s->KatLex prog w A b fin Q (vs.zip ws) i s:=by
 intro l xs;induction xs generalizing l with
 | nil =>
  intro ys vs ws as bs i h1 h2 n1 n2 r1 r2 hd hf hq;cases r1;cases l with
  | nil =>
   cases ys with
   | nil=>cases r2;subst hf;exact hq
   | cons _ _=>cases h2
  | cons _ _=>cases h1
 | cons x xs ih =>
  intro ys vs ws as bs i h1 h2 n1 n2 r1 r2 hd hf hq;cases l with
  | nil=>cases h1
  | cons sh l =>
  cases ys with
  | nil=>cases h2
  | cons y ys =>
  cases r1 with
  | @cons v vs _ _ _ _ a1 a2 =>
  cases r2 with
  | @cons u ws _ _ _ _ b1 b2 =>
  have h1:(da sh x&&ff l xs)=true:=h1;have h2:(da sh y&&ff l ys)=true:=h2;have n1:(nr x&&pF xs)=true:=n1;have n2:(nr y&&pF ys)=true:=n2;rw [aR] at h1 h2 n1 n2;have Vm:(pd x).depth<=n/\bV (kI xs)<=n:=by
   have hd:bV (pd x :: kI xs)<=n:=hd;simp only [bV] at hd;lia
  show KatLex prog w A b fin Q ((v,u) :: vs.zip ws) i s;have eq:=eqAt_reads (pd x) (pd y) A s _ _ _ _ a1 b1 (jk _ n1.1) (jk _ n2.1) @c;rw [rW _ _ n1.1 n2.1] at eq;refine kat_cons (eq prog w _ _ ?_);rw [mL] at hq;cases q:iI x y with
  | true =>
   rw [q,if_pos rfl] at hq;exact kat_yes (ih l ys vs ws _ _ (i+1) h1.2 h2.2 n1.2 n2.2 a2 b2 Vm.2 hf hq)
  | false =>
   rw [q,if_neg @k] at hq;refine kat_no ?_;cases c:(b&&i == 0) with
   | true=>exact ye Vm.1 h1.1 h2.1 n1.1 n2.1 a1 b1 hu prog w _ Q hq
   | false=>exact kat_one v u (zV n sh x y A s _ _ _ _ Vm.1 h1.1 h2.1 n1.1 n2.1 a1 b1 hu prog w _ _ hq)
end
def lh(n:Nat)(P:α->Prop):KasT α->Prop
 | .ret a=>P a
 | .ask i j k=>i < n/\j < n/\∀ b,lh n P (k b)
theorem lh.bind:∀ {t:KasT α},lh n P t->(∀ a,P a->lh n P' (f a))->lh n P' (t.bind f)
 | .ret a,q,h=>h a q
 | .ask i j k,⟨q1,q2,q3⟩,h=>⟨q1,q2,λb=>lh.bind (q3 b) h⟩
theorem Aa{α:Type}{n:Nat}{lt:Nat->Nat->Bool}{cmp:Nat->Nat->(Bool->@ae)->@ae}{s:aF}{Q:α->@ae}(hc:∀ i j,i < n->j < n->∀ C:Bool->@ae,C (lt i j) s->cmp i j C s) :
  ∀ (t:KasT α),lh n (λ_=>True) t->Q (iG lt t) s->t.kasWp cmp Q s
 | .ret a,_,q=>q
 | .ask i j k,⟨h1,h2,h3⟩,q=>hc i j h1 h2 _ (Aa hc (k (lt i j)) (h3 _) q)
def Bd(n:Nat)(p:Array Nat):Prop:=0 < n/\∀ x∈p,x < n
theorem Bd.at(h:Bd n p)(k):p.getD k 0 < n:=by
 by_cases hk:k < p.size
 .have:p.getD k 0=p[k]:=by simp [rj,hk]
  rw [this];exact h.2 _ (Array.getElem_mem hk)
 .have:p.getD k 0=0:=by simp [rj,hk]
  rw [this];exact h.1
theorem Bd.perm(h:Bd n p)(hp:q.Perm p):Bd n q:=⟨h.1,λx hx=>h.2 x (hp.mem_iff.mp hx)⟩
theorem D1(h:Bd n p):∀ (f k:Nat),lh n (λ_=>True) (qX p f k)
 | 0,k=>trivial
 | f+1,k=>⟨h.at _,h.at _,λb=>by
  show lh n _ (if b=true then xb k else qX p f (k+1));split
  .trivial
  .exact D1 h f (k+1)⟩
theorem wA:∀ (f:Nat) (p:Array Nat) (k q:Nat),Bd n p->lh n (λr=>Bd n r.1) (lj f p k q)
 | 0,p,k,q,h=>h
 | f+1,p,k,q,h=>⟨h.at _,h.at _,λb=>by
  show lh n _ (if b=true then (if q > 0 then lj f (gO p (k - (q+1)) k) (k+1) 0 else lj f p (k+1) 0) else .ask (p.getD (k - 1) 0) (p.getD k 0) λd=>if d=true then .ret (p,k,q) else lj f p (k+1) (q+1));split
  .split
   .exact wA f _ _ _ (h.perm (j6 _ _ _))
   .exact wA f _ _ _ h
  .refine⟨h.at _,h.at _,λd=>?_⟩;show lh n _ (if d=true then xb (p,k,q) else lj f p (k+1) (q+1));split
   .exact h
   .exact wA f _ _ _ h⟩
theorem FV(h:Bd n p)(k m):lh n (λr=>Bd n r.2) (Mm k m p) :=
 lh.bind (D1 (h.perm (j6 _ _ _)) _ _) λ_ _=>h.perm (j6 _ _ _)
theorem wz(h:Bd n p)(k m):lh n (λr=>Bd n r.2) (zq k m p) :=
 lh.bind (wA _ _ _ _ h) λr hr=>by
  split
  .exact FV (hr.perm (j6 _ _ _)) _ _
  .exact FV hr _ _
theorem LH(h:Bd n p)(m):lh n (λr=>Bd n r.2) (kas_count m p) :=
 lh.bind (D1 h _ _) λk _=>by
  split
  .exact h
  .split
   .refine⟨h.at _,h.at _,λb=>?_⟩;show lh n _ (if b=true then xb (k,p) else zq k m (gO p 0 k));split
    .exact h
    .exact wz (h.perm (j6 _ _ _)) _ _
   .exact wz h _ _
theorem xM(h:Bd n p)(k):∀ (f l r:Nat),lh n (λ_=>True) (jW p k f l r)
 | 0,l,r=>trivial
 | f+1,l,r=>by
  show lh n _ (if l>=r then xb l else .ask (p.getD k 0) (p.getD ((l+r) / 2) 0) λc=>if c=true then jW p k f l ((l+r) / 2) else jW p k f ((l+r) / 2+1) r);split
  .trivial
  .refine⟨h.at _,h.at _,λb=>?_⟩;show lh n _ (if b=true then jW p k f l ((l+r) / 2) else jW p k f ((l+r) / 2+1) r);split
   .exact xM h k f _ _
   .exact xM h k f _ _
theorem JT:∀ (f:Nat) (p:Array Nat) (k:Nat),Bd n p->lh n (λ_=>True) (kas_bin f p k)
 | 0,p,k,h=>trivial
 | f+1,p,k,h=>lh.bind (xM h k _ _ _) λl _=>JT f _ _ (h.perm (bubble_perm _ _ _))
theorem FW(h:0 < n):lh n (λ_=>True) (kas_sort n) :=
 lh.bind (LH ⟨h,λx hx=>by simpa using hx⟩ n) λr hr=>by
  split
  .exact JT _ _ _ hr
  .trivial
mutual
theorem rC{h h':Heap}(hk:∀ b o vs n,o.data=.seq vs n->@aA=@j->@al=@j):∀ (d:D) {v:Value} {as:@aE},nr d=true->Reads h v (pd d) as->Reads h' v (pd d) as
 | .dj,_,_,_,r=>by cases r;exact .none
 | .bl b,_,_,_,r=>by cases r;exact .bool b
 | .int i,_,_,_,r=>by cases r;exact .int i _
 | .str x,_,_,_,r=>by cases r;exact .str x _
 | .tup ds,_,_,n,r=>by
  cases r with
  | tuple h1 h2 h3 h4=>exact .tuple (hk _ _ _ _ h3 h1) h2 h3 (mE hk ds n h4)
 | .eA ds,_,_,n,r=>by
  cases r with
  | list h1 h2 h3 h4=>exact .list (hk _ _ _ _ h3 h1) h2 h3 (mE hk ds n h4)
 | .mC _,_,_,n,_=>by cases n
 | .ref _,_,_,n,_=>by cases n
 | .exc _,_,_,n,_=>by cases n
theorem mE{h h':Heap}(hk:∀ b o vs n,o.data=.seq vs n->@aA=@j->@al=@j):∀ (ds:@f) {vs:@B} {as:@aE},pF ds=true->fV h vs (kI ds) as->fV h' vs (kI ds) as
 | [],_,_,_,r=>by cases r;exact .nil
 | d :: ds,_,_,n,r=>by
  have n:(nr d&&pF ds)=true:=n;rw [aR] at n;cases r with
  | cons r1 r2=>exact .cons (rC hk d n.1 r1) (mE hk ds n.2 r2)
end
mutual
theorem GQ(G:Gp):∀ (sh:kO) (d:D) (n:Nat),da sh d=true->Tc sh<=n->Sn G n d d
 | .int,.int i,n,_,_=>@Y
 | .tup l,.tup ds,n,h,hn=>by
  have hn:Lw l+1<=n:=hn;obtain⟨m,rfl⟩:∃ m,n=m+1:=⟨n - 1,@d⟩;exact CV G l ds m h @c
 | .lst s,.eA ds,n,h,hn=>by
  have hn:Tc s+1<=n:=hn;obtain⟨m,rfl⟩:∃ m,n=m+1:=⟨n - 1,@d⟩;exact IV G s ds m h @c
theorem CV(G:Gp):∀ (l:List kO) (ds:@f) (m:Nat),ff l ds=true->Lw l<=m->Sn G (m+1) (.tup ds) (.tup ds)
 | [],[],m,_,_=>.EH
 | s :: l,d :: ds,m,h,hm=>by
  have h:(da s d&&ff l ds)=true:=h;have hm:max (Tc s) (Lw l)<=m:=hm;rw [aR] at h;exact .oC (GQ G s d m h.1 @c) (CV G l ds m h.2 @c)
theorem IV(G:Gp):∀ (s:kO) (ds:@f) (m:Nat),gU s ds=true->Tc s<=m->Sn G (m+1) (.eA ds) (.eA ds)
 | s,[],m,_,_=>.M6
 | s,d :: ds,m,h,hm=>by
  have h:(da s d&&gU s ds)=true:=h;rw [aR] at h;exact .EV (GQ G s d m h.1 hm) (IV G s ds m h.2 hm)
end
theorem getD_at{α:Type}(xs:@v)(d)(h):xs.getD i d=xs[i]:=by
 rw [bf,aB h];rfl
theorem mJ{α:Type}(xs)(d:α):(bZ xs.length).map (λi=>xs.getD i d)=xs:=by
 refine List.ext_getElem @k λi h1 h2=>?_;rw [bN,jg];exact getD_at _ _ h2
theorem EF:∀ (zs:@f) (vs:@B),(∀ z∈zs,da (.tup (s1 :: l)) z=true)->(∀ i,i < vs.length->∃ as,Reads h (vs.getD i .none) (pd (@ax)) as)->vs.length=zs.length ->
  ∃ fs,KatTups h vs fs/\fs.length=vs.length/\∀ f∈fs,∃ d as,da s1 d=true/\Reads h f (pd d) as:=by
 intro zs;induction zs with
 | nil =>
  intro vs _ _ h;have:vs=[]:=List.length_eq_zero_iff.mp h;subst this;exact⟨[],trivial,rfl,λ_ h=>@aH⟩
 | cons z zs ih =>
 intro vs hs hr hl;cases vs with
 | nil=>cases hl
 | cons v vs =>
  obtain⟨fs,h1,h2,h3⟩:=ih vs (λz hz=>hs z (aL _ hz)) (λi hi=>by
   obtain⟨as,r⟩:=hr (i+1) (by simpa using hi);exact⟨as,by simpa using r⟩) (by simpa using hl)
  obtain⟨as,r⟩:=hr 0 @k;have hz:=hs z @k;simp only [List.getD_cons_zero] at r;cases z <;> first | (cases hz;done) | skip
  rename_i ds;cases ds with
  | nil=>cases hz
  | cons d ds =>
   have hz:(da s1 d&&ff l ds)=true:=hz;rw [aR] at hz;cases r with
   | tuple k1 k2 k3 k4 =>
    rename_i p o ws c;have k5:fV h ws.toList (pd d :: kI ds) as:=k4;cases q:ws.toList with
    | nil=>rw [q] at k5;cases k5
    | cons f rest =>
     rw [q] at k5;cases k5 with
     | cons r1 r2 =>
      have hf:ws[0]?=some f:=by
       have:ws.toList[0]?=some f:=by rw [q];rfl
       simpa using this
      refine⟨f :: fs,.cons k1 k2 k3 hf h1,by simp [h2],λg hg=>?_⟩;rcases List.mem_cons.mp hg with rfl | hg
      .exact⟨d,_,hz.1,r1⟩
      .exact h3 g hg
def MC:kO->Value
 | .int=>.type "int"
 | .tup _=>.type "tuple"
 | .lst _=>@ak
theorem B6(hs:da sh d=true)(r:Reads h v (pd d) as):Looks M h (typeOf v) (MC sh):=by
 cases sh with
 | int =>
  cases d <;> first | (cases hs;done) | skip
  cases r;exact .now
 | tup l =>
  cases d <;> first | (cases hs;done) | skip
  cases r with
  | tuple k1 k2 k3 k4 =>
   rename_i p o ws c;have:Looks M h (typeOf (@U)) o.cls:=(Looks.ld k1).andThen .now;rw [k2] at this;exact this
 | lst l =>
  cases d <;> first | (cases hs;done) | skip
  cases r with
  | list k1 k2 k3 k4 =>
   rename_i p o ws c as;have:Looks M h (typeOf (@U)) o.cls:=(Looks.ld k1).andThen .now;rw [k2] at this;exact this
theorem K9{prog:bI}{w:World}{A:c7}{s:aF}{E:@H}{Q:Bool->@ae}{n:Nat}{b:Bool}{l:List kO}{a c:D}{u v:Value}{as bs:@aE}(hn:(pd a).depth<=n+1)(h1:da (.tup l) a=true)(h2:da (.tup l) c=true)(n1:nr a=true)(n2:nr c=true)
  (r1:Reads s.heap u (pd a) as) (r2:Reads s.heap v (pd c) bs) (hu:A.units+n < cLine) (hq:Q (pG a c) s):wpAny @L A (keyLt' (tuples' b) u v) Q E s:=by
 ext f
 ext g
 rename_i xs ys;cases r1 with
 | tuple k1 k2 k3 k4 =>
  cases r2 with
  | tuple m1 m2 m3 m4 =>
   rename_i p o vs c p' o' ws c';have z1:=readsAll_len k4;have z2:=readsAll_len m4;have e1:vs.size=xs.length:=by simpa using z1
   have e2:ws.size=ys.length:=by simpa using z2
   have el:∀ (l:List kO) (xs ys:@f),ff l xs=true->ff l ys=true->xs.length=ys.length:=by
    intro l;induction l with
    | nil =>
     intro xs ys h1 h2;cases xs with
     | nil=>cases ys with
      | nil=>rfl
      | cons _ _=>cases h2
     | cons _ _=>cases h1
    | cons s l ih =>
     intro xs ys h1 h2;cases xs with
     | nil=>cases h1
     | cons x xs =>
      cases ys with
      | nil=>cases h2
      | cons y ys =>
       have h1:(da s x&&ff l xs)=true:=h1;have h2:(da s y&&ff l ys)=true:=h2;rw [aR] at h1 h2;rw [af,af,ih xs ys h1.2 h2.2]
   have hd:(pd (.tup xs)).depth=bV (kI xs)+1:=rfl;refine kat_lt k1 k3 m1 m3 (vU (n:=n) hu l xs ys _ _ _ _ 0 h1 h2 n1 n2 k4 m4 @c (decide_eq_false (by rw [e1,e2,el l xs ys h1 h2];lia)) hq)
section
variable {X:Cx}
theorem xp(ty:qN x G)(hi:itemsOf x G=some zs):oU x G=some zs:=by
 cases x <;> first | exact ty.elim | exact hi
end
end K2
end
section
namespace L2
open PySem PySem.Spec PyProof.Rows
section
variable {prog:bI} {w:World} {A:c7} {E:@H} {s:aF}
theorem Hu{d:Addr}{od:Obj}{es:Array uW}{c:Nat}{Q:@H}(ns:(d == gL)=false)(R6:s.heap.get? d=some od)(ex:od.ExactDict)(dd:od.data=.dict es c)
  (hQ:Q (@bb) { s with heap:=s.heap.push { cls:=.type "dict_keyiterator",data:=.fields #[.ref d,.int 0 0,.int es.size 0,.int c 0] } }):wpAny @L A (Ir (.ref d)) Q E s:=by
 have ty:s.TypeIs (.ref d) "dict":=⟨od,R6,ex.1⟩;refine Gq ty F.slot_dict_iter (fJ F.slot_dict_iter ty F.entry_dict_iter ?_ (F.args_dict_iter_1 _));unfold Builtin.«dict.__iter__» Builtin.Dict.dictSlotNone;refine ay (ay (wpAny_notOrdered_dict ty (show wpAny _ _ (pure (d4 d)) _ _ s from aK ?_)));show wpAny _ _ (Eh d >>= _) _ _ s;unfold Eh;rw [if_neg (λz=>by rw [ns] at z;cases z)];refine ay (aK (ay (Gr R6 dd (ay (Mi R6 dd ?_)))));refine ay (dZ (aK ⟨_,rfl,"dict_keyiterator",_,⟨_,bc _ rfl,rfl⟩,F.slot_dict_keyiterator_next.lookup,?_⟩));simpa [BE] using hQ
theorem K8{it d:Addr}{od:Obj}{es:Array uW}{i c:Nat}{Q:Option Value->@ae}(ki:s.heap.IsKeyIter it d i es.size c)(R6:s.heap.get? d=some od)(dd:od.data=.dict es c)(hi:i < es.size)
  (hQ:∀ h',h'.IsKeyIter it d (i+1) es.size c->mZ it s.heap h'->Q (some es[i].key) @aZ):wpAny @L A (tN (.ref it)) Q E s:=by
 obtain⟨o,ho,hc,hf⟩:=id ki;unfold tN;refine ay (Et (jb (name:=w6 "__next__") ki.typeIs jB (fJ jB ki.typeIs GC ?_ (Ge _))));refine ay (aK (ay (ay ?_)))
 first | refine ay (jn ki.typeIs (aK ?_)) | refine ay (lJ ki.typeIs (aK ?_))
 refine ay (BD ho hf ?_);have UG:uh "dict_keyiterator" = false:=@e
 rw [UG];show wpAny _ _ (if (d4 d == fu)=true then _ else _) _ _ s;rw [if_neg (λz=>by cases z)];refine ay (aK (ay (Gr R6 dd ?_)));rw [if_neg @k];refine ay (aK (ay (Mi R6 dd ?_)));rw [if_neg @k];refine aK ?_;ext d;rw [if_neg (show ¬ ((i:Int) < 0) from Int.not_lt.mpr (Int.natCast_nonneg i)),b0,br hi];ext d;refine ay ?_
 first | refine ay (jn ki.typeIs (aK ?_)) | refine ay (lJ ki.typeIs (aK ?_))
 refine ay (wpAny_isOneOf_keyiter ki.typeIs ?_);show wpAny _ _ (setField (.ref it) 1 (BE ((i:Int)+1)) >>= _) _ _ s;refine ay (ud ho hf @k ?_);have ki2:(s.heap.update it (A6 (·.setIfInBounds 1 (BE ((i:Int)+1))))).IsKeyIter it d (i+1) es.size c :=
  ⟨_,fR _ ho (w8 (fY hf _)),(CH ..).trans hc,by rw [fY hf];simp [BE]⟩
 refine ay (fe (ay (wpAny_isOneOf_keyiter (s:={ s with heap:=s.heap.update it (A6 (·.setIfInBounds 1 (BE ((i:Int)+1)))) }) ki2.typeIs ?_)));show wpAny _ _ (pure es[i].key) _ _ _;exact aK (aK ⟨_,rfl,aK (hQ _ ki2 (gb ..))⟩)
theorem Og{it d:Addr}{od:Obj}{es:Array uW}{i c:Nat}{Q:Option Value->@ae}(calm:A.handled=none)(ki:s.heap.IsKeyIter it d i es.size c)(R6:s.heap.get? d=some od)(dd:od.data=.dict es c)(hi:es.size<=i)
  (hQ:∀ h',Heap.ExtBut it s.heap h'->Q none @aZ):wpAny @L A (tN (.ref it)) Q E s:=by
 obtain⟨o,ho,hc,hf⟩:=id ki;unfold tN;refine ay (Et (jb (name:=w6 "__next__") ki.typeIs jB (fJ jB ki.typeIs GC ?_ (Ge _))));refine ay (aK (ay (ay ?_)))
 first | refine ay (jn ki.typeIs (aK ?_)) | refine ay (lJ ki.typeIs (aK ?_))
 refine ay (BD ho hf ?_);have UG:uh "dict_keyiterator" = false:=@e
 rw [UG];show wpAny _ _ (if (d4 d == fu)=true then _ else _) _ _ s;rw [if_neg (λz=>by cases z)];refine ay (aK (ay (Gr R6 dd ?_)));rw [if_neg @k];refine ay (aK (ay (Mi R6 dd ?_)));rw [if_neg @k];refine aK ?_;ext d;rw [if_neg (show ¬ ((i:Int) < 0) from Int.not_lt.mpr (Int.natCast_nonneg i)),b0,iV hi];ext d;refine ay ?_
 first | refine ay (jn ki.typeIs (aK ?_)) | refine ay (lJ ki.typeIs (aK ?_))
 show wpAny _ _ (setField (.ref it) 0 .none >>= _) _ _ s;refine ay (ud ho hf @k ?_);show wpAny _ _ (newExc (.type "StopIteration") [] >>= _) _ _ _;refine ay ?_;simp only [newExc,newTuple];refine ay (dZ (ay (m:=BF _ _) (CC (a:=fu) (by first | rfl | (simp only [BF];rfl)) (dZ ?_ (by size_fits)))) (by size_fits));simp only [raiseNew];refine ay (wpAny_handled ?_);rw [show A.in1.handled=none from calm];refine ay (aK (wpAny_throw ?_));refine ay (J0 (T:="StopIteration") (b:=true) ⟨_,bc _ rfl,rfl⟩ isSubtype_stop (?_));exact aK (hQ _ (((gb ..).extBut.push _).push _))
end
end L2
namespace K2
open PySem PySem.Spec PyProof.Rows L2
section
variable {X:Cx} {tg a:Expr} {ta:gG} {pos p:Pos}
theorem KH:∀ {l:@v} {m:List β},Paired F l m->∀ i (h1:i < l.length) (h2:i < m.length),F l[i] m[i]:=by
 intro l m h;induction h with
 | nil=>intro i h1;exact absurd h1 (cG i)
 | cons h t ih =>
  intro i h1 h2;cases i with
  | zero=>exact h
  | succ i=>exact ih i (uT h1) (uT h2)
theorem Oj(h:(fi P w).is k u=true):RelV (kV k) u:=by
 rcases fE h with ⟨i,t,rfl,rfl⟩ | ⟨x,t,rfl,rfl⟩
 .exact⟨t,rfl⟩
 .exact⟨t,rfl⟩
theorem pH.keys{K:aC}:∀ {kv:List (Key×V)} {bo:@ay},pH K H kv bo->bo.map @t=kv.map λp=>fA p.1:=λh =>
 pH.ind (motive:=λkv bo _=>bo.map @t=kv.map λp=>fA p.1) rfl (λ_ _ ih=>congrArg (_ :: ·) ih) h
theorem M8{K:aC}(k):cP K H (kV k) (fA k):=by
 cases k with
 | inl i=>exact @Y
 | inr x=>exact .str x
end
end K2
end
section
namespace L2
open PySem PySem.Spec PyProof.Rows PySem.W
section
variable {prog:bI} {w:World}
theorem GG(hh:A.handled=none)(mQ:d≠it)(dd:od.data=.dict es c) :
  PySem.Walks prog w A it [it,d] [it] es.size (λi v=>∃ h:i < es.size,v=es[i].key) (λi h=>h.IsKeyIter it d i es.size c/\h.get? d=some od) where
 sub:=λb hb=>by simp at hb;simp [hb]
 frame:=λi h h' st hk=>⟨st.1.at λo e=>hk it @k o e,hk d @k od st.2⟩
 item:=λi s Q E hi st hQ=>K8 st.1 st.2 dd hi λh' BN sb=>hQ _ h' s.toks ⟨hi,rfl⟩ ⟨BN,(sb.2 d mQ).trans st.2⟩ λb o hb e=>(sb.2 b (@bv)).trans e
 done:=λs Q E st hQ=>Og hh st.1 st.2 dd @T λh' eb=>hQ h' s.toks λb o hb e=>eb b o (@bv) e
 self:=λi s Q E st hQ=>wpAny_pyIter_keyiter st.1 hQ
theorem MR(ns:(d == gL)=false)(ex:od.ExactDict)(dd:od.data=.dict es c) :
  KdlSrc prog w "dict" d d es.size (λi v=>∃ h:i < es.size,v=es[i].key) (λh=>h.get? d=some od) where
 type:=λs du=>⟨od,du,ex.1⟩
 there:=λh du=>⟨aQ du,aQ du⟩
 keep:=λh h' du hk=>hk d @af od du
 notList:=@e
 notTuple:=@e
 hint:=λA E s Q du hq=>kdl_hint_dict ⟨od,du,ex.1⟩ hq
 iter:=λA s hh du=>⟨_,_,(λE Q hq=>Hu ns du ex dd hq),GG hh (bx (aQ du)) dd,⟨⟨_,bc _ rfl,rfl,rfl⟩,aO _ du⟩⟩
end
end L2
namespace K2
open PySem PySem.Spec PyProof.Rows L2 PySem.W
section
variable {X:Cx}
theorem II:∀ (ks:@A) (us:@B),ks.length=us.length->(∀ i (h1:i < ks.length) (h2:i < us.length),RelV ks[i] us[i])->Vals ks us
 | [],[],_,_=>.nil
 | [],_ :: _,h,_=>@aH
 | _ :: _,[],h,_=>@aH
 | k :: ks,u :: us,h,hr=>.cons (hr 0 @k @k) (II ks us (@bE) λi h1 h2=>hr (i+1) (by simpa using h1) (@bl))
end
end K2
end
section
namespace K2
open PySem PySem.Spec PyProof.Rows L2
section
variable {X:Cx}
theorem RK:pB X (jc .Pow) QZ:=by
 intro pins s σ H G x y dx dy v u Q I ab rx ry dX dY q;cases dX with
 | int i =>
  cases dY with
  | int j=>exact gN (UK pins s σ H _ _ v u (A2 X.K H G Q) I rx ry ⟨i,j,rfl,rfl,q.1,_,_,@av,.int _,q.2⟩) λ_ _ z=>.of z
  | _=>exact bK q
 | _=>exact bK q
end
section
variable {X:Cx}
theorem Ug(I:@l)(rd:cP X.K H x (.mC bo))(h1:Ju bo=true) :
  ∃ a ob u kv vs ep,x=.ref a/\H a=some (.ni ob u)/\pH X.K H kv bo/\(a == gL)=false/\KV kv vs/\∀ h:Heap,@aK=some ob->h.DictAt (fi X.prog X.w) a vs ep:=by
 cases rd with
 | uo hq rs =>
  rename_i a o kv;obtain⟨z,hm,vs,rel,ob,es,ep,ho,r⟩:=(I.du a _ hq).2;have eo:ob=o:=by have:=(I.du a _ hq).1;rw [ho] at this;exact bA this
  subst eo;exact⟨a,ob,_,kv,vs,ep,rfl,hq,rs,hm,rel,λh e=>⟨ob,es,e,r⟩⟩
 | um hq rs =>
  rename_i a o kv;cases rs with
  | nil =>
   obtain⟨z,hm,xs,rel,ob,es,ep,ho,hx,Fu,hl,nd⟩:=(I.du a _ hq).2;have eo:ob=o:=by have:=(I.du a _ hq).1;rw [ho] at this;exact bA this
   subst eo;have hv:xs=[]:=by cases rel;rfl
   subst hv;have he:es=#[]:=by simpa using hl
   subst he;exact⟨a,ob,_,[],[],ep,rfl,hq,.nil,hm,.nil,λh e=>⟨ob,#[],e,hx,Fu,(λ_ h=>by simp at h),.nil,fL⟩⟩
  | cons _ _=>simp [Ju,fw] at h1
variable {elts:@aN} {kk:Nat} {QE apos r0:Pos} {o:Expr} {to:gG}
end
end K2
end
section
namespace K2
open PySem PySem.Spec PyProof.Rows L2 PySem.W
section
variable {X:Cx}
variable {es:@aN} {t:TF2} {e v1 v2:Expr} {te:gG} {pos:Pos} {c:Str} {k:Nat}
variable {a:Expr} {ta:gG} {p p2 E2:Pos}
theorem zA(hc:@a5)(hu:@bq)(I:@l)(ab:mX X.K H G)
  (K:PySem.W.KdlSrc X.prog X.w T r d n P OK) (abj:OK s.heap)   (hlen:vs.length=n) (hP:∀ i u (h:i < vs.length),P i u->RelV vs[i] u) (rs:bp X.K H vs zs) (sh) (hz:∀ z∈zs,da sh z=true) (du:W6 sh=true) (Yc:zs.length < 64)
  (q:iQ G (.lst (qy zs)) Q):wpAny @s X.A (call (.builtin "sorted") [.ref r]) @bd X.xe s:=by
 have Zm:=rs.length;have hsz:bw=16777216:=cq;obtain⟨m,F0⟩:=I.fr;have nL:∀ b o vs n,o.data=.seq vs n->@ar=@j->@bJ:=λb o vs n e1 e2 z=>by
  obtain⟨o',es,ep,OE,Fu,_⟩:=F0.ns;rw [z,OE] at e2;cases e2;rw [Fu] at e1;cases e1
 unfold W6 at du;rw [aR] at du;have hdp:Tc sh<=7:=of_decide_eq_true du.1;have sn:∀ z∈zs,Sn G 7 z z:=λz h=>GQ G sh z 7 (hz z h) hdp;refine kdu_sorted K (I.ok.hd hc) F0 vM abj @c λDd h0 tk bu F1 N1 sU hl0 hP'=>?_;have S4:vs.length=bu.length:=@d
 have rv:Vals vs bu:=II vs bu S4 λi h1 h2=>hP i bu[i] h1 (hP' i bu[i] (aB h2));by_cases kb:bu.length < 2
 .have e2:h0.get? Dd=some (xU "list" bu.toArray 0):=(N1 _ a9).1;refine fJ slot_list_sort ⟨_,e2,rfl⟩ entry_list_sort (EN (s:={ s with heap:=h0,toks:=tk }) e2 kb ⟨_,rfl,?_⟩) (args_list_sort _);obtain⟨kk,ns⟩:=kJ I F0 F1 λp hp=>N1 p (aL _ hp);have hD:s.heap.get? Dd=none:=by
   have nD:=N1 _ a9;cases qd:s.heap.get? Dd with
   | none=>rfl
   | some o=>exact absurd (sU _ (kZ nD.2.1 nD.2.2 qd)) (eR _)
  have hp:H Dd=none:=v5 I.du hD;have hDL:Dd≠X.env.locals:=(N1 _ a9).2.1;obtain⟨e3,h3⟩:=sortedHeap_at (out:=bu.toArray) e2;have es:qy zs=zs:=vc sh hz (.refl _) (by
   match zs,Zm,kb with
   | [],_,_=>exact .nil
   | [z],_,_=>exact lq _ _
   | _ :: _ :: _,h,f=>exact absurd f (by rw [<-S4,h];simp))
  rw [es] at q;refine⟨.ref Dd,upd H Dd (.lst vs),.ref _,_,Inv.Fo (t':=tk) I (λb o hb e=>?_) (λm' hm=>?_) hD ⟨@d,bu,e3,rv,h3⟩,.Bh ab hp rs,rfl,.ref _,q _ (ab.free hp)⟩
  .have Zp:b≠Dd:=λz=>by rw [z,hD] at e;cases e
   have e4:=kk b o hb e;rw [sortedHeap_old Zp (aQ e4)];exact e4
  .obtain⟨o,es,ep,ho,r⟩:=ns m' hm;exact⟨o,es,ep,by rw [sortedHeap_old (cR hDL) (aQ ho)];exact ho,r⟩
 have nz:0 < zs.length:=@d
 refine kat_lsort (vs:=bu) F1 N1 (.head λq hq z=>absurd (sU q hq) (by rw [z];exact eR _)) @k @c @c λe1 h' F N=>?_;obtain⟨kk,ns⟩:=kJ I F0 F λp hp=>N p (aL _ hp);have BV:∀ i,i < bu.length->∃ as,Reads h' (bu.getD i .none) (pd (@ax)) as:=λi hi=>by
  have i1:@bg:=@d
  have i2:i < vs.length:=@d
  have g1:@ax=zs[i]:=getD_at _ _ i1;have g2:bu.getD i .none=bu[i]:=getD_at _ _ hi;obtain⟨v,hv,WR⟩:=rs.get (aB i1);obtain⟨u,uD,Ud⟩:=rv.get hv;rw [aB hi] at uD;cases uD;obtain⟨as,r⟩:=(iC I ab (sn _ (bQ i1))).1 v _ WR Ud;rw [g1,g2];exact⟨as,rC (λb o vs n e1 e2=>kk b o (nL b o vs n e1 e2) e2) _ (sn _ (bQ i1)).nr r⟩
 have Be:∀ i,@bg->da sh (@ax)=true:=λi hi=>by rw [getD_at _ _ hi];exact hz _ (bQ hi)
 have UU:∀ i,@bg->nr (@ax)=true:=λi hi=>by rw [getD_at _ _ hi];exact(sn _ (bQ hi)).nr
 have ZH:∀ i,@bg->(pd (@ax)).depth<=7:=λi hi=>by rw [getD_at _ _ hi];exact Az (sn _ (bQ hi))
 let zz:Nat->D:=λi=>if @bg then @ax else zs.getD 0 .dj
 have Mw:∀ i,da sh (zz i)=true:=λi=>by
  show da sh (if @bg then @ax else zs.getD 0 .dj)=true;split
  .exact Be i (by assumption)
  .exact Be 0 nz
 let lt:Nat->Nat->Bool:=λi j=>pG (zz i) (zz j)
 have Z7:JU lt:=⟨λi j h=>xn sh (Mw i) (Mw j) h,λi j k h1 h2=>uq sh (Mw i) (Mw j) (Mw k) h1 h2⟩;have Xm:∀ i j,@bg->j < zs.length->lt i j=pG (@ax) (zs.getD j .dj):=λi j hi hj=>by
  show pG (if @bg then _ else _) (if j < zs.length then _ else _)=_;rw [if_pos hi,if_pos hj]
 obtain⟨p,ep,rO,WW,hup⟩:=ET Z7 (n:=bu.length) @c;have Zv:X.A.in1.in1.units=X.A.units+2:=rfl;have ask:∀ κ:SortKind,(∀ i j,i < bu.length->j < bu.length->∀ C:Bool->@ae,C (pG (@ax) (zs.getD j .dj)) @bp->kas_ask X.prog X.w X.A.in1.in1 κ bu i j C @bp) ->
   (kas_sort bu.length).kasWp (kas_ask X.prog X.w X.A.in1.in1 κ bu) (λp Ub=>KasFin X.base X.env.locals m Dd e1 (p.toList.map λi=>bu.getD i fu) (λs3=>qQ X pins σ H G Q (.ref Dd) s3) Ub) @bp:=by
  intro κ hk;refine Aa (lt:=lt) (n:=bu.length) (λi j i1 i2 C hC=>hk i j i1 i2 C (by rw [<-Xm i j @c @c];exact hC)) _ (FW @c) ?_;rw [ep];refine KasFin.intro (g:=λo=>(Dd,o) :: qo X.base s.heap X.env.locals) F N (.head (λq hq z=>absurd (sU q hq) (by rw [z];exact eR _))) λh2 c F2 N2=>?_;obtain⟨k2,W8⟩:=kJ I F0 F2 λp hp=>N2 p (aL _ hp);have hD:s.heap.get? Dd=none:=by
   have nD:=N _ a9;cases qd:s.heap.get? Dd with
   | none=>rfl
   | some o=>exact absurd (sU _ (kZ nD.2.1 nD.2.2 qd)) (eR _)
  have hp:H Dd=none:=v5 I.du hD;have rvp:Vals (p.toList.map λi=>vs.getD i .dj) (p.toList.map λi=>bu.getD i fu):=by
   have:∀ (ps:@aC),(∀ i∈ps,i < bu.length)->Vals (ps.map λi=>vs.getD i .dj) (ps.map λi=>bu.getD i fu):=by
    intro ps;induction ps with
    | nil=>intro _;exact .nil
    | cons i ps ih =>
     intro hh;have hi:=hh i @k;refine .cons ?_ (ih λj hj=>hh j (aL _ hj));have i2:i < vs.length:=@d
     obtain⟨u,uD,Ud⟩:=rv.get (aB i2);rw [aB hi] at uD;cases uD;show RelV (vs.getD i .dj) (bu.getD i .none);rw [getD_at _ _ i2,getD_at _ _ hi];exact Ud
   exact this _ λi hi=>by simpa using rO.mem_iff.mp hi
  have rsp:bp X.K H (p.toList.map λi=>vs.getD i .dj) (p.toList.map λi=>@ax):=by
   have:∀ (ps:@aC),(∀ i∈ps,i < bu.length)->bp X.K H (ps.map λi=>vs.getD i .dj) (ps.map λi=>@ax):=by
    intro ps;induction ps with
    | nil=>intro _;exact .nil
    | cons i ps ih =>
     intro hh;have hi:=hh i @k;refine .cons ?_ (ih λj hj=>hh j (aL _ hj));have i2:i < vs.length:=@d
     have i1:@bg:=@d
     obtain⟨v,hv,r⟩:=rs.get (aB i1);rw [aB i2] at hv;cases hv;show cP X.K H (vs.getD i .dj) (@ax);rw [getD_at _ _ i2,getD_at _ _ i1];exact r
   exact this _ λi hi=>by simpa using rO.mem_iff.mp hi
  have es:qy zs=p.toList.map λi=>@ax:=by
   refine vc sh hz ?_ ?_
   .have h1:(p.toList.map λi=>@ax).Perm ((bZ zs.length).map λi=>@ax):=by
     have:bu.length=zs.length:=@d
     rw [<-this];exact rO.map _
    rw [mJ] at h1;exact h1
   .rw [cL,ID];intro i j hi hj HC;have g1:gA p i=p.toList[i]:=by
     have:i < p.size:=by simpa using hi
     simp [gA,rj,this]
    have g2:gA p j=p.toList[j]:=by
     have:j < p.size:=by simpa using hj
     simp [gA,rj,this]
    have bi:p.toList[i] < bu.length:=by simpa using rO.mem_iff.mp (bQ hi)
    have bj:p.toList[j] < bu.length:=by simpa using rO.mem_iff.mp (bQ hj)
    have:=hup i j @c (by have:j < p.toList.length:=hj;rw [bR,WW] at this;exact this);rw [g1,g2,Xm _ _ @c @c] at this;exact this
  rw [es] at q;have ln:(p.toList.map λi=>vs.getD i .dj).length<=bw:=by rw [ai,bR,WW];lia
  refine⟨.ref Dd,upd H Dd (.lst (p.toList.map λi=>vs.getD i .dj)),.ref _,_,Inv.Fo (t':=tk) I k2 W8 hD ?_,.Bh ab hp rsp,rfl,.ref _,q _ (ab.free hp)⟩;exact⟨ln,_,c,rvp,(N2 _ a9).1⟩
 have gen:∀ i j,i < bu.length->j < bu.length->∀ C:Bool->@ae,C (pG (@ax) (zs.getD j .dj)) @bp->wpAny @s X.A.in1.in1 (keyLt' oneType' (bu.getD i fu) (bu.getD j fu)) C @r @bp:=by
  intro i j hi hj C hC;obtain⟨as,r1⟩:=BV i hi;obtain⟨bs,r2⟩:=BV j hj;rw [keyLt'_oneType];exact ye (s:=@bp) (n:=7) (ZH i @c) (Be i @c) (Be j @c) (UU i @c) (UU j @c) r1 r2 (by rw [Zv];lia) X.prog X.w _ C hC
 have lk:∀ v∈bu,Looks @s h' (typeOf v) (MC sh):=λv hv=>by
  obtain⟨i,hi,rfl⟩:=eV hv;obtain⟨as,r⟩:=BV i hi;rw [getD_at _ _ hi] at r;exact B6 (Be i @c) r
 cases sh with
 | int=>exact kas_kind (s:=@bp) (T:=.type "int") @c lk rfl rfl (ask oneType' gen)
 | lst ss=>exact kas_kind (s:=@bp) (T:=@ak) @c lk rfl rfl (ask oneType' gen)
 | tup ss =>
  cases ss with
  | nil=>exact absurd du.2 @k
  | cons s1 ss =>
   obtain⟨fs,t1,t2,t3⟩:=EF (h:=h') zs bu hz BV @c;refine kat_kind (s:=@bp) (T:=MC s1) t1 @c (λf hf=>?_) (by cases s1 <;> rfl) (ask _ λi j hi hj C hC=>?_)
   .obtain⟨d,as,h1,h2⟩:=t3 f hf;exact B6 h1 h2
   .obtain⟨as,r1⟩:=BV i hi;obtain⟨bs,r2⟩:=BV j hj;exact K9 (s:=@bp) (n:=7) (by have:=ZH i @c;lia) (Be i @c) (Be j @c) (UU i @c) (UU j @c) r1 r2 (by rw [Zv];lia) hC
end
section
variable {X:Cx}
theorem xZ:∀ (ns:@G) (j:Nat),(∀ n∈ns,-1000<=n/\n<=1000)->-1000 * (ns.length:Int)<=(ns.take j).sum/\(ns.take j).sum<=1000 * (ns.length:Int)
 | [],j,_=>@ad
 | n :: ns,0,_=>by simp only [List.take_zero,List.sum_nil,af];lia
 | n :: ns,j+1,h=>by
  have h1:=h n @k;have:=xZ ns j λm hm=>h m (aL _ hm);rw [List.take_succ_cons,List.sum_cons,af];lia
theorem LB (hc:@a5):km X (.builtin "sum") FQ:=by
 intro pins s σ H G xs ds us Q I ab rx rd q;unfold FQ at q;split at q
 .rename_i x;obtain⟨ns,ty,hi,⟨hn,hb⟩,q⟩:=q;obtain⟨w1,rfl,C1⟩:=rd.one;obtain⟨u,rfl,ru⟩:=rx.one;obtain⟨l,vs,bu,rfl,rv,rs,hl,_⟩:=jM I ab ru C1 (xp ty hi);have ev:=rs.ints;subst ev;have hlen:bu.length=ns.length:=by rw [<-rv.length,ai]
  obtain⟨o,ho,vW,n,hd⟩:=id hl;have mQ:l≠s.heap.objs.size:=bx (aQ ho);refine call_sum_walk (kn hl ?_);refine⟨s.heap.objs.size,_,_,_,_,_,λi=>ns.getD i 0,rfl,A4 (A:=X.A.in1) (show X.A.in1.handled=none from I.ok.hd hc) _ l mQ bu.toArray,⟨⟨_,bc _ rfl,rfl,rfl⟩,⟨o,aO _ ho,vW,n,hd⟩⟩,λb hb=>?_,λi v hv=>?_,λj hj=>?_,λh' tk t' hk=>?_⟩
  .rcases (@bv:b=s.heap.objs.size\/b=l) with rfl | rfl
   .rw [dI];exact fB _
   .rw [dI];exact iE (aQ ho)
  .have Qa:bu[i]?=@S:=by simpa using hv
   have wY:i < bu.length:=(List.getElem?_eq_some_iff.mp Qa).1;have S6:i < ns.length:=@d
   obtain⟨u,uD,ru⟩:=rv.get (i:=i) (x:=.int ns[i]) (by rw [bP,aB S6];rfl);rw [Qa] at uD;cases uD;obtain⟨t,rfl⟩:=ru;refine⟨t,?_⟩;have e9:ns.getD i 0=ns[i]:=by rw [bf,aB S6];rfl
   show qZ ns[i] t=qZ (ns.getD i 0) t;rw [e9]
  .have hj':j < ns.length:=by rw [<-hlen];simpa using hj
   have e1:ns.getD j 0=ns[j]:=by rw [bf,aB hj'];rfl
   have b1:=hb ns[j] (bQ hj');have b2:=xZ ns (j+1) hb;rw [A5];ext d;rw [e1];unfold InLong;lia
  .have e:preSum (λi=>ns.getD i 0) bu.toArray.size=ns.sum:=by
    rw [A5,aU,hlen,Ee]
   rw [e];refine⟨.int _,H,.int _,G,I.kept (t':=tk) λb o e=>hk b o (by simpa using bx (aQ e)) (aO _ e),@av,@ah,.int _,q⟩
 .exact q.elim
end
end K2
end
section
namespace K2
open PySem PySem.Spec PyProof.Rows L2
def kp1:HO->Bool
 | .tup _=>true
 | .ni _ (.lst _)=>true
 | .ni _ (.dK _)=>true
 | .ni _ (.dT _)=>true
 | .ni _ (.ext _)=>true
 | .ni _ (.xd _)=>true
 | _=>false
def hr(H:Hp):Hp:=λb=>(H b).bind λo=>if kp1 o=true then @j else none
def subIn(K:aC)(C:Addr)(v:Value):Bool:=match K.lookup C with
 | some ⟨_,_,.cls cd,_⟩=>cd.mro.contains v
 | _=>false
theorem Pm{l:@D}{P:Str->Prop}{x:Str}(h:P x)(t:∀ c,l.contains c=true->P c):∀ c,(x :: l).contains c=true->P c:=λc hc=>by
 rw [List.contains_cons,fS] at hc;rcases hc with hc | hc
 .rw [beq_iff_eq.mp hc];exact h
 .exact t c hc
section
variable {X:Cx} {e:Expr} {te:gG} {pos:Pos}
theorem scm(h1:autoParam (sc.kind=.function) Ar._auto_1)(h2:autoParam (sc.isCoroutine=false) Ar._auto_1)(h3:autoParam (sc.isGenerator=false) Ar._auto_1)(h4:autoParam N.Nodup Ak._auto_1)(h5:autoParam (N.take ps.length=ps) Ar._auto_1)
  (h6:autoParam (∀ x∈ps,@bH=@a8\/@bH=@aT) Ak._auto_1) (h7:autoParam (∀ y∈sc.names,y.2≠.free) Ak._auto_1):kj N ps sc:=⟨h1,h2,h3,h4,h5,h6,h7⟩
end
section
variable {X:Cx} {a b tg:Expr} {ta tb:gG} {p pos:Pos}
theorem GY (hg:Gl X "range") (hm:X.mg "range" = none) (ha:eQ X a ta) (hb:eQ X b tb) (hs:autoParam (bG [a,b] X.env=(false,eval a X.env) :: bG [b] X.env) Ar._auto_1) (Ek:autoParam (bG [b] X.env=[(false,eval b X.env)]) Ar._auto_1) (mP:autoParam ((jX pos (bG [b] X.env)).any @t=false) Ar._auto_1):FZ X tg (.Call (.Name "range" p) [a,b] [] pos) (Cd ta tb):=by
 intro E pins s σ H τ G R hE I h;have hA:yq X [a,b] (ag ta (ag tb aH)):=oQ ha (oQ hb y8 Ek) hs;refine Call_ (pZ I.inv hg hm boot_range (fX (zx hA pos hE I (R:=λds G1=>match ds with | [.int i,.int j]=>(-(2 ^ 62)<=i/\i < 2 ^ 62/\-(2 ^ 62)<=j/\j < 2 ^ 62)/\R (dN i (j - i).toNat) (λ_=>True) G1 | _=>False) ?_ λvs H1 ds G1 us s1 I1 m1 r1 jU q1=>?_) hs mP))
 .show ta E τ G λx G1=>tb E τ G1 λy G2=>_;have e:(λ(x:D) (G1:Gp)=>tb E τ G1 λy G2=>match [x,y] with | [.int i,.int j]=>(-(2 ^ 62)<=i/\i < 2 ^ 62/\-(2 ^ 62)<=j/\j < 2 ^ 62)/\R (dN i (j - i).toNat) (λ_=>True) G2 | _=>False)=λx G1=>tb E τ G1 λy G2=>match x,y with | .int i,.int j=>(-(2 ^ 62)<=i/\i < 2 ^ 62/\-(2 ^ 62)<=j/\j < 2 ^ 62)/\R (dN i (j - i).toNat) (λ_=>True) G2 | _,_=>False:=by
   funext x G1;congr 1;funext y G2;cases x <;> cases y <;> rfl
  exact e ▸ h
 .split at q1
  .rename_i i j;obtain⟨w1,w2,rfl,C1,Uc⟩:=jU.two;cases C1;cases Uc;obtain⟨u1,u2,rfl,Ue,QT⟩:=r1.two;obtain⟨t1,rfl⟩:=Ue;obtain⟨t2,rfl⟩:=QT;obtain⟨⟨q1,q2,q3,q4⟩,q⟩:=q1;exact call_range_2 (M7 I1.inv m1 q1 q2 q3 q4 q)
  .exact q1.elim
end
end K2
end
section
namespace K2.S
open PySem PySem.Spec PyProof.Rows L2 PySem.SetTable
section
variable {prog:bI} {w:World} {A:c7} {E:@H} {s:aF}
abbrev TK(prog)(w):HeapKind prog w (@N):=zm (fi prog w)
theorem Jy(x:(@V).is h k b)(e:∀ o,@aA=@j->@al=@j):(@V).is h' k b:=by
 obtain⟨o,items,n,ho,r⟩:=x;exact⟨o,items,n,e o ho,r⟩
theorem Hv(x:(@V).is h k b)(y:(@V).is h k' b):k=k':=(@V).inj x y
def PQ(B:Addr->Prop)(prog:bI)(w:World)(h:Heap)(es:En)(ks:List (@N)):Prop :=
 ks.length=es.size/\∀ (i:Nat) (e:Int×Value),es[i]?=some e->∃ (k:@N) (b:Addr),ks[i]?=some k/\e.2=@X/\(@V).is h k b/\e.1=(@V).hash k/\B b
theorem rk{a:Addr}{o:Obj}{es:En}{ep:Nat}{t:ip}{Q:(En×Nat×ip)->@ae}(ho:s.heap.get? a=@j)(hd:o.data=.set es ep t)(O:Qe t es)(h:Q (es,ep,t) s) :
  wpAny @L A (setState a) Q E s :=
 nU ho hd (by unfold SetTable.fits F7;rw [O.sz,O.dm];have:=O.kb;have:=O.sz;simp;lia) h
theorem FO(n)(h:BG v=true):uP n v=pure false:=by
 cases v <;> first | (unfold uP;rfl) | (exact bF (show false=true from h))
theorem Mz{k:@N}{b:Addr}(hx:(@V).is s.heap k b){Q:Bool->@ae}(h:Q false s):wpAny @L A (uP 8 (@X)) Q E s:=by
 have hT:s.TypeIs (@X) "tuple":=LY hx;obtain⟨o,items,n,ho,_,hd,hi⟩:=hx;unfold uP;refine ay (wpAny_typeOf hT ?_);ext d;rw [if_pos (beq_self_eq_true _)];refine ay (aK ?_);rw [if_neg @bx];refine ay (ue ho hd ?_);ext d;refine ay ?_;show wpAny _ _ (forIn items _ _) _ _ s;rw [<-Array.forIn_toList];refine pI _ (λrest r s'=>r.1=none/\s'=s/\∀ v∈rest,BG v=true) _ ?_ ?_ _ _ ⟨rfl,rfl,hi.byValue⟩
 .rintro v rest r s' ⟨hr,rfl,tK⟩;rw [FO _ (tK v a9)];refine ay (aK ?_);rw [if_neg @bx];exact aK ⟨rfl,rfl,λu uD=>tK u (aL _ uD)⟩
 .rintro⟨r1,r2⟩ s' ⟨hr,rfl,_⟩;simp only at hr;subst hr;exact aK h
theorem Ka{x:Value}{k:@N}{b:Addr}(ex:x=@X)(hx:(@V).is s.heap k b){l:@B}(hl:∀ y∈l,∃ k' b',y=.ref b'/\(@V).is s.heap k' b'){Q:Bool->@ae}(h:Q false s) :
  wpAny @L A (Gs x l) Q E s:=by
 subst ex;unfold Gs;refine ay ?_;refine pI _ (λrest r s'=>r.1=none/\s'=s/\∀ y∈rest,∃ k' b',y=.ref b'/\(@V).is s.heap k' b') _ ?_ ?_ _ _ ⟨rfl,rfl,hl⟩
 .rintro v rest r s' ⟨hr,rfl,tK⟩;obtain⟨k',b',rfl,hv⟩:=tK v a9;have go:∀ y∈rest,∃ k' b',y=.ref b'/\(@V).is s'.heap k' b':=λu uD=>tK u (aL _ uD);ext d;by_cases c:(b == b'||BG (@X)&&BG (.ref b'))=true
  .rw [if_pos c];exact aK ⟨rfl,rfl,go⟩
  .rw [if_neg c];refine ay (wpAny_eqIsQuiet_tuple hx ?_);rw [if_neg @bx];refine ay (wpAny_eqIsQuiet_tuple hv ?_);rw [if_neg @bx];refine ay (Mz hx ?_);rw [if_neg @bx];refine ay (Mz hv ?_);rw [if_neg @bx];exact aK ⟨rfl,rfl,go⟩
 .rintro⟨r1,r2⟩ s' ⟨hr,rfl,_⟩;simp only at hr;subst hr;exact aK h
theorem BK{a:Addr}{o:Obj}{es:En}{ep:Nat}{t:ip}{ks:List (@N)}{k:@N}{b:Addr}(hu:(@V).room A)(ho:s.heap.get? a=@j)(hd:o.data=.set es ep t)(O:Qe t es){B:Addr->Prop}(M:PQ B prog w s.heap es ks)(hx:(@V).is s.heap k b)
  {N:Nat} (h1:¬ Full t.place (eD t.mask N (probeStart t ((@V).hash k))).j) (h2:∀ n,n < N->Full t.place (eD t.mask n (probeStart t ((@V).hash k))).j) {Q:SetFound->@ae}
  (yes:k∈ks->Q (.there none) s) (no:k∉ks->Q (.free (eD t.mask N (probeStart t ((@V).hash k))).j false) s) :
  ∀ (fuel n:Nat) (st:Option Probe),N - n < fuel->n<=N->st.getD (probeStart t ((@V).hash k))=eD t.mask n (probeStart t ((@V).hash k)) ->
   (∀ n',n' < n->∀ i,i < t.place.size->t.place.getD i 0=(eD t.mask n' (probeStart t ((@V).hash k))).j->ks[i]?≠some k) ->
   wpAny @L A (setSearchFrom a (@X) ((@V).hash k) true fuel st) Q E s
 | 0,n,st,hf,_,_,_=>absurd hf (cG _)
 | fuel+1,n,st,hf,hn,Bl,past=>by
  generalize hh:(@V).hash k=h at *;show wpAny _ _ (setState a >>= _) _ _ s;refine ay (rk ho hd O ?_);ext d;have gw:t.gaveWay=false:=by
   unfold SetTable.gaveWay;rcases O.ms with e | e | e <;> rw [e] <;> rfl
  rw [gw,if_neg @bx,Bl];have pb:Pb t.mask (eD t.mask n @br):=Pb.eD n (Pb.start t h);obtain⟨N',X9,hf',_⟩:=Aw O _ pb;obtain⟨n1,met,g,ba,fin⟩:=E1 O.up O.dm (S.hk es) h (10 * turns t.mask) _ pb ⟨N',X9,hf'⟩;rw [show eD t.mask n1 (eD t.mask n @br)=eD t.mask (n+n1) @br from(jo _ _ _ _).symm,show eD t.mask (n1+1) (eD t.mask n @br)=eD t.mask (n+n1+1) @br from(jo _ n (n1+1) _).symm] at fin;generalize hP:t.probe _ h (eD t.mask n @br)=P;have eP:P=some met:=hP.symm.trans g;subst eP;ext d;have le:n+n1<=N:=by
   apply bX;intro z;obtain⟨i,hi,e,_⟩:=ba (N - n) @c;rw [<-jo,show n+(N - n)=N by lia] at e;exact h1 ⟨i,hi,e⟩
  have XQ:∀ i,i < t.place.size->ks[i]?=some k->S.hk es i=h:=by
   intro i hi e;have wY:i < es.size:=by rw [<-O.sz];exact hi
   obtain⟨k',b',q1,_,_,q4⟩:=M.2 i _ (br wY);rw [e] at q1;cases q1;unfold S.hk;rw [br wY,<-hh];exact q4.1
  have SQ:∀ n',n' < n+n1->∀ i,i < t.place.size->t.place.getD i 0=(eD t.mask n' @br).j->ks[i]?≠some k:=by
   intro n' Li i hi e ek;by_cases c:n' < n
   .exact past n' c i hi e ek
   .obtain⟨i',wY,e',ne⟩:=ba (n' - n) @c;rw [<-jo,show n+(n' - n)=n' by lia] at e';have:=O.up.inj hi wY (e.trans e'.symm);subst this;exact ne (XQ i hi ek)
  rcases fin with ⟨nf,rfl⟩ | ⟨i,hi,pi,aei,rfl⟩
  .have eN:n+n1=N:=by
    by_cases c:n+n1 < N
    .exact absurd (h2 _ c) nf
    .lia
   rw [eN];ext d;refine aK (no λhk=>?_);obtain⟨i,hi,e⟩:=eV hk;have ek:ks[i]?=some k:=by rw [aB hi,e]
   have wY:i < t.place.size:=by rw [O.sz,<-M.1];exact hi
   obtain⟨n0,w1,w2⟩:=O.way i wY;rw [XQ i wY ek] at w1 w2;have lt:n0 < N:=by
    apply bX;intro z;by_cases c:n0=N
    .subst c;exact h1 ⟨i,wY,w1.symm⟩
    .exact h1 (w2 N @c)
   exact SQ n0 @c i wY w1.symm ek
  .have wY:i < es.size:=by rw [<-O.sz];exact hi
   obtain⟨k',b',q1,q2,q3,q4⟩:=M.2 i _ (br wY);have nN:n+n1≠N:=λz=>h1 ⟨i,hi,by rw [<-z];exact pi⟩;have red:∀ (l:@B) (m:Sem SetFound),(∀ y∈l,∃ k' b',y=.ref b'/\(@V).is s.heap k' b')->wpAny @L A m Q E s ->
     wpAny @L A (if (!t.led)=true then (Gs (@X) l >>= λr=>if r=true then ((unsupported "set:the-search-would-show-the-table" : Sem PUnit) >>= λ_=>m) else m) else m) Q E s:=by
    intro l m hl hm;cases t.led with
    | true=>rw [if_neg @bx];exact hm
    | false =>
     rw [if_pos (show (!false)=true from rfl)];refine ay (Ka rfl hx hl ?_);rw [if_neg @bx];exact hm
   refine red _ _ (λy hy=>?_) ?_
   .obtain⟨e,he,rfl⟩:=List.mem_map.mp hy;rw [Array.toList_filter] at he;have he:=(List.mem_filter.mp he).1;obtain⟨m,hm,em⟩:=eV he;obtain⟨k2,b2,_,z2,z3,_⟩:=M.2 m e (by rw [<-cj,aB hm,em]);exact⟨k2,b2,z2,z3⟩
   .rw [br wY];generalize he0:es[i]=e0 at q2 q4 ⊢;obtain⟨h0,y⟩:=e0;have q2:y=.ref b':=q2;subst q2;ext d;refine ay (fe ((@V).eqBool hu q3 hx ?_));refine ay (rk ho hd O ?_);ext d;by_cases c:k'=k
    .rw [decide_eq_true c,if_pos (show (true&&true)=true from rfl)];subst c;exact aK (yes (cT q1))
    .rw [decide_eq_false c,if_neg @bx];have sm:t.sameMemory t.moves t.mask=some true:=by unfold SetTable.sameMemory;rw [if_pos (beq_self_eq_true _)]
     rw [sm];ext d;rw [if_pos (show true=true from rfl),show t.slot (eD t.mask (n+n1) @br).j=.live i from pi ▸ BS O.up hi];ext d;rw [br wY,he0];ext d;refine ay ?_;unfold isSame;ext d;rw [if_pos (beq_self_eq_true b')];refine aK (ay (aK ?_));rw [if_pos (show true=true from rfl)];ext d;rw [if_neg @bx];have WQ:=BK hu ho hd O M hx (N:=N) (Q:=Q) (by rw [hh];exact h1) (by rw [hh];exact h2) yes (by rw [hh];exact no) fuel (n+n1+1) (some (eD t.mask (n+n1+1) @br));rw [hh] at WQ;refine WQ @c @c rfl λn' Li i2 Wm e2 ek=>?_;by_cases c2:n' < n+n1
     .exact SQ n' c2 i2 Wm e2 ek
     .have:n'=n+n1:=@d
      subst this;have:=O.up.inj Wm hi (e2.trans pi.symm);subst this;rw [q1] at ek;cases ek;exact c rfl
end
end K2.S
end
section
namespace K2.S
open PySem PySem.Spec PyProof.Rows L2 PySem.SetTable
section
variable {B:Addr->Prop} {prog:bI} {w:World} {A:c7} {E:@H} {s:aF}
theorem PQ.keep(M:PQ B prog w h es ks)(e:∀ b o,B b->@aA=@j->(∃ items n,o.data=.seq items n)->@al=@j):PQ B prog w h' es ks:=by
 refine⟨M.1,λi x hx=>?_⟩;obtain⟨k,b,q1,q2,q3,q4⟩:=M.2 i x hx;refine⟨k,b,q1,q2,?_,q4⟩;obtain⟨o,items,n,ho,hc,hd,r⟩:=q3;exact⟨o,items,n,e b o q4.2 ho ⟨items,n,hd⟩,hc,hd,r⟩
theorem PQ.perm(M:PQ B prog w h es ks)(p:PW es'.toList es.toList):∃ L7,PQ B prog w h es' L7/\L7.Perm ks:=by
 classical
 let Kf:Int×Value->@N:=λe=>if z:∃ k,∃ b,e.2=@X/\(@V).is h k b then PY z else []
 have at_:∀ e∈es.toList,∃ b,e.2=@X/\(@V).is h (Kf e) b/\e.1=(@V).hash (Kf e)/\B b:=by
  intro e he;obtain⟨i,hi,ei⟩:=eV he;obtain⟨k,b,q1,q2,q3,q4⟩:=M.2 i e (by rw [<-cj,aB hi,ei]);have z:∃ k,∃ b,e.2=@X/\(@V).is h k b:=⟨k,b,q2,q3⟩;have ek:Kf e=PY z:=dif_pos z;obtain⟨b2,e2,i2⟩:=Classical.choose_spec z;rw [q2] at e2;cases e2;have:=Hv q3 i2;rw [ek,<-this];exact⟨b,q2,q3,q4⟩
 have eks:ks=es.toList.map Kf:=by
  refine List.ext_getElem? λi=>?_;rw [bP];by_cases hi:i < es.size
  .obtain⟨k,b,q1,q2,q3,q4⟩:=M.2 i _ (br hi);rw [q1,cj,br hi];obtain⟨b2,z1,z2,_⟩:=at_ es[i] (Array.getElem_mem_toList hi);rw [q2] at z1;cases z1;rw [Hv q3 z2];rfl
  .rw [wV (by rw [M.1];lia),cj,iV @c];rfl
 refine⟨es'.toList.map Kf,⟨by rw [ai,bR],λi e he=>?_⟩,by rw [eks];exact p.map _⟩;have hm:e∈es'.toList:=cT (by rw [cj];exact he);obtain⟨b,z1,z2,z3⟩:=at_ e (p.mem_iff.mp hm);exact⟨Kf e,b,by rw [bP,cj,he];rfl,z1,z2,z3⟩
theorem PQ.ins(M:PQ B prog w h es ks)(hx:(@V).is h k b)(hB:B b)(hp:p<=es.size) :
  PQ B prog w h (insertAt es p ((@V).hash k,@X)) (ks.take p++k :: ks.drop p):=by
 have lk:(ks.take p).length=p:=by rw [dF,M.1];lia
 refine⟨by rw [aq,af,lk,cf,iy _ _ _ hp,M.1];lia,λi e he=>?_⟩;rw [lY _ _ _ hp] at he;by_cases c:i < p
 .rw [if_pos c] at he;obtain⟨k',b',q⟩:=M.2 i e he;exact⟨k',b',by rw [bB @c,sE c];exact q.1,q.2⟩
 .rw [if_neg c] at he;by_cases d:i=p
  .rw [if_pos d] at he;cases he;exact⟨k,b,by rw [bb @c,lk,d,qS];rfl,rfl,hx,rfl,hB⟩
  .rw [if_neg d] at he;obtain⟨k',b',q⟩:=M.2 (i - 1) e he;exact⟨k',b',by rw [bb @c,lk,show i - p=(i - p - 1)+1 by lia,ae,qI,show p+(i - p - 1)=i - 1 by lia];exact q.1,q.2⟩
def Ik(k:@N):Prop:=∀ x∈k,∃ i,x=CD i
def PD(B:Addr->Prop)(prog:bI)(w:World)(h:Heap)(a:Addr)(led:Bool)(ks:List (@N)):Prop :=
 ∃ o es ep t,@aK=@j/\o.ExactSet/\o.data=.set es ep t/\Qe t es/\t.tooFull=false/\t.led=led/\((∀ k∈ks,Ik k)->t.plain=true)/\PQ B prog w h es ks
theorem int_at(hi:ItemsAre (fi prog w) k vs)(c:Ik k)(hv:v∈vs):∃ t:Int×Tok,v=.int t.1 t.2:=by
 induction hi with
 | nil=>cases hv
 | cons h _ ih =>
  rcases List.mem_cons.mp hv with e | hv
  .subst e;obtain⟨i,rfl⟩:=c _ a9;rcases fE (k:=.inl i) h with ⟨j,t,e,rfl⟩ | ⟨_,_,e,_⟩
   .exact⟨(j,t),rfl⟩
   .cases e
  .exact ih (λx hx=>c x (aL _ hx)) hv
theorem Tx{k:@N}{b:Addr}(hx:(@V).is s.heap k b){Q:Bool->@ae}(h:∀ r,(Ik k->r=true)->Q r s):wpAny @L A (Mn 8 (@X)) Q E s:=by
 have hT:s.TypeIs (@X) "tuple":=LY hx;obtain⟨o,items,n,ho,_,hd,hi⟩:=hx;unfold Mn;refine ay (wpAny_specialOf hT F.slot_tuple_hash.lookup ?_);show wpAny _ _ (seqItems? (@X) >>= _) _ _ s;refine ay (ue ho hd ?_);refine ay ?_;show wpAny _ _ (forIn items _ _) _ _ s;rw [<-Array.forIn_toList];have hb:∀ v∈items.toList,∃ r,Mn 7 v=pure r/\(Ik k->r=true):=by
  intro v hv0;by_cases c:Ik k
  .obtain⟨t,e⟩:=int_at hi c hv0;subst e;exact⟨true,rfl,λ_=>rfl⟩
  .have hv:=hi.byValue v hv0;cases v <;> first | exact⟨_,rfl,λz=>absurd z c⟩ | (exact bF (show false=true from hv))
 refine pI _ (λrest r s'=>r.1=none/\s'=s/\∀ v∈rest,∃ r,Mn 7 v=pure r/\(Ik k->r=true)) _ ?_ ?_ _ _ ⟨rfl,rfl,hb⟩
 .rintro v rest r s' ⟨hr,rfl,tK⟩;obtain⟨x,hv,hx1⟩:=tK v a9;rw [hv];refine ay (aK ?_);cases x with
  | true =>
   rw [if_neg @bx];exact aK ⟨rfl,rfl,λu uD=>tK u (aL _ uD)⟩
  | false =>
   rw [if_pos (show (!false)=true from rfl)];exact aK (aK (h _ hx1))
 .rintro⟨r1,r2⟩ s' ⟨hr,rfl,_⟩;simp only at hr;subst hr;exact aK (h _ λ_=>rfl)
theorem ML(hm:Mk m)(h1:¬ n * 5>=m * 3)(h2:(n+1) * 5>=m * 3)(h3:n < 76):Mk (sizeAbove (grown (n+1)) - 1)/\n+1<=sizeAbove (grown (n+1)) - 1/\¬ (n+1) * 5>=(sizeAbove (grown (n+1)) - 1) * 3/\sizeAbove (grown (n+1))<=128:=by
 rcases hm with rfl | rfl | rfl
 .have:n=4:=@d
  subst this;exact⟨.inr (.inl @o),@e,@e,@e⟩
 .have:n=18:=@d
  subst this;exact⟨.inr (.inr @o),@e,@e,@e⟩
 .lia
end
end K2.S
end
section
namespace K2.S
open PySem PySem.Spec PyProof.Rows L2 PySem.SetTable
section
variable {B:Addr->Prop} {prog:bI} {w:World} {A:c7} {E:@H} {s:aF}
theorem MY(h:i < m+1):i+(runEnd m i - i)<=m:=by
 unfold runEnd;split <;> lia
theorem WK(h:p.j+p.more<=m):(EI m p).j+(EI m p).more<=m:=by
 unfold EI;by_cases c:p.more > 0
 .rw [if_pos c];ext d;lia
 .rw [if_neg c];exact MY (i9 _ (kQ m))
theorem MM:∀ (n:Nat) {p:Probe},p.j+p.more<=m->(eD m n p).j+(eD m n p).more<=m
 | 0,_,h=>h
 | n+1,_,h=>MM n (WK h)
theorem Jb{h:Heap}(ho:@aK=@j)(hd:o.data=.set es ep t)(es')(t') :
  (h.update a (tx es' t')).get? a=some { o with data:=.set es' (ep+1) t' }:=by
 have:=fR (tx es' t') ho (by rw [putSet_of es' t' hd];rfl);rw [putSet_of es' t' hd] at this;exact this
theorem EX{h:Heap}(ho:@aK=@j)(hd:o.data=.set es ep t)(f):∀ b o',@aA=some o'->(∃ items n,o'.data=.seq items n)->(h.update a f).get? b=some o':=by
 rintro b o' e ⟨items,n,q⟩;have nb:a≠b:=λz=>by subst z;rw [ho] at e;cases e;rw [hd] at q;cases q
 exact(c9 _ _ nb).trans e
theorem Dx(t:ip)(dm:t.dummies=#[]):t.tooFull=decide (t.place.size * 5>=t.mask * 3):=by
 unfold SetTable.tooFull F7;rw [dm];rfl
theorem Tz{a:Addr}{led:Bool}{ks:List (@N)}{k:@N}{b:Addr}(hu:(@V).room A)(hS:PD B prog w s.heap a led ks)(hx:(@V).is s.heap k b)(hB:B b)(kb:ks.length < 76){Q:Bool->@ae}
  (h:∀ h' L7 r,(k∈ks->L7=ks)->(k∉ks->L7.Perm (k :: ks))->mZ a s.heap h'->PD B prog w h' a led L7->Q r @aZ) :
  wpAny @L A (setAddHashed a (@X) ((@V).hash k)) Q E s:=by
 obtain⟨o,es,ep,t,ho,hex,hd,O,nf,hl,Zk,M⟩:=hS;have hsz:es.size < 76:=by rw [<-M.1];exact kb
 obtain⟨N,hN,h1,h2⟩:=Aw O _ (Pb.start t ((@V).hash k));have X9:N < 100000:=by
  have:t.mask<=127:=by rcases O.ms with e | e | e <;> lia
  unfold turns at hN;lia
 unfold setAddHashed setAddHashedIn;refine fe (ay (rk ho hd O ?_));ext d;rw [show byScan (@X) es=false from rfl,if_neg @bx];unfold setSearch;refine ay (BK hu ho hd O M hx h1 h2 (λhk=>?_) (λhk=>?_) 100000 0 none @c (ck _) rfl (λn' z=>absurd z (cG _)))
 .dsimp only;refine aK ?_;have e:s={ s with heap:=s.heap }:=by cases s;rfl
  rw [e];exact h s.heap ks false (λ_=>rfl) (λz=>absurd hk z) (Heap.SameBut.refl a s.heap) ⟨o,es,ep,t,ho,hex,hd,O,nf,hl,Zk,M⟩
 .dsimp only;refine ay (rk ho hd O ?_);ext d;rw [Kr t O.dm];ext d;obtain⟨j,ej⟩:∃ j,(eD t.mask N (probeStart t ((@V).hash k))).j=j:=@ah;rw [ej];have hj:j<=t.mask:=by
   rw [<-ej];exact cY (iU _ _) (MM N (MY (i9 _ (kQ t.mask))))
  have nf':¬ t.place.size * 5>=t.mask * 3:=by rw [Dx t O.dm] at nf;exact of_decide_eq_false nf
  have room:t.place.size+1<=t.mask:=by rcases O.ms with e | e | e <;> lia
  have Py:@a_<=es.size:=by rw [<-O.sz];exact(qm O.up j).1
  have rest:∀ t':ip,t'.mask=t.mask->t'.dummies=t.dummies->t'.place=insertAt t.place (@a_) j->t'.led=t.led->((∀ x∈k :: ks,Ik x)->t'.plain=true) ->
    wpAny @L A (do
     storeSet a (insertAt es (below t.place j) ((TK prog w).hash k,.ref b)) t'
     if (!false&&t'.tooFull)=true then do
      setRelay a (grown (es.size+1))
      pure true
     else pure true) Q E s:=by
   intro t' e1 e2 e3 e4 e5;have O':Qe t' (insertAt es (@a_) ((@V).hash k,@X)):=by
    have:=O.add (x:=@X) h1 h2 (by rw [ej];exact hj) room e1 e2 (by rw [ej];exact e3);rw [ej] at this;exact this
   have M':=M.ins hx hB Py;have TQ:t'.place.size=es.size+1:=by rw [O'.sz,iy _ _ _ Py]
   have pk:(ks.take (@a_)++k :: ks.drop (@a_)).Perm (k :: ks):=by
    refine List.perm_middle.trans ?_;rw [d8]
   refine ay (wpAny_storeSet_of ho hd ?_ (by rw [iy _ _ _ Py,cq];lia));have g1:=Jb ho hd (insertAt es (@a_) ((@V).hash k,@X)) t';have M1:=M'.keep (h':=s.heap.update a (tx (insertAt es (@a_) ((@V).hash k,@X)) t')) (λc o _=>EX ho hd _ c o);have sb1:=gb s.heap a (tx (insertAt es (@a_) ((@V).hash k,@X)) t');cases tf:t'.tooFull with
   | false =>
    rw [if_neg @bx];exact aK (h _ _ true (λz=>absurd z hk) (λ_=>pk) sb1 ⟨_,_,_,_,g1,hex,rfl,O',tf,e4.trans hl,λz=>e5 λx hx=>z x (pk.mem_iff.mpr hx),M1⟩)
   | true =>
    rw [if_pos (show (!false&&true)=true from rfl)];rw [Dx t' O'.dm,TQ,e1] at tf;obtain⟨m1,m2,m3,m4⟩:=ML O.ms (n:=es.size) (by rw [<-O.sz];exact nf') (of_decide_eq_true tf) hsz;refine ay ?_;unfold setRelay;refine ay (rk (s:={ s with heap:=s.heap.update a (tx (insertAt es (@a_) ((@V).hash k,@X)) t') }) g1 rfl O' ?_);ext d;rw [if_neg (by rw [cq];lia)];obtain⟨t2,order,el,l1,l2,l3,l4,l5,O2⟩:=RW m1 (insertAt es (@a_) ((@V).hash k,@X)) (by rw [iy _ _ _ Py];exact m2) t'.finger (t'.movedTo (sizeAbove (grown (es.size+1)) - 1)) t'.led t'.plain;have er:t'.relaid ((insertAt es (@a_) ((@V).hash k,d4 b)).map @t) (grown (es.size+1))=some (t2,order):=el;rw [er];refine ay (CC (a:=(order.filterMap ((insertAt es (@a_) ((@V).hash k,d4 b))[·]?),t2)) ?_ ?_)
    .show (if (_ != _)=true then _ else _)=_;rw [if_neg (by rw [l4,bne_self_eq_false];intro z;cases z)]
    obtain⟨Xs,M2,pm⟩:=M1.perm l5;refine wpAny_storeSet_of g1 rfl ?_ (by rw [l4,iy _ _ _ Py,cq];lia);have g2:=Jb g1 rfl (order.filterMap ((insertAt es (@a_) ((@V).hash k,d4 b))[·]?)) t2;have M3:=M2.keep (h':=(s.heap.update a (tx (insertAt es (@a_) ((@V).hash k,@X)) t')).update a (tx (order.filterMap ((insertAt es (@a_) ((@V).hash k,d4 b))[·]?)) t2)) (λc o _=>EX g1 rfl _ c o);refine aK (h _ Xs true (λz=>absurd z hk) (λ_=>pm.trans pk) (sb1.trans (gb _ a _)) ⟨_,_,_,_,g2,hex,rfl,O2,?_,by rw [l2,e4];exact hl,λz=>l3.trans (e5 λx hx=>z x ((pm.trans pk).mem_iff.mpr hx)),M3⟩);rw [Dx t2 O2.dm,O2.sz,l4,iy _ _ _ Py,l1];exact decide_eq_false m3
  cases hp:t.plain with
  | true =>
   rw [if_pos (show true=true from rfl)];refine ay (Tx hx λr hr=>?_);cases r with
   | true=>exact rest _ rfl rfl rfl rfl λ_=>rfl
   | false=>exact rest _ rfl rfl rfl rfl λz=>hr (z k a9)
  | false =>
   rw [if_neg @bx];exact ay (aK (rest _ rfl rfl rfl rfl λz=>by have:=Zk λx hx=>z x (aL _ hx);rw [hp] at this;exact this))
end
end K2.S
end
section
namespace K2.S
open PySem PySem.Spec PyProof.Rows L2 PySem.SetTable
section
variable {B:Addr->Prop} {prog:bI} {w:World} {A:c7} {E:@H} {s:aF}
def Gk (w:World):Bool:=w.params.followText "set-order"
def zC (w:World):Obj:={ cls:=.type "set",dict:=none,data:=.set #[] 0 (.fresh 0 0 (!Gk w)) }
theorem QP(e:@aK=some (zC w)):PD B prog w h a (!Gk w) []:=by
 refine⟨_,#[],0,.fresh 0 0 (!Gk w),e,⟨rfl,rfl,rfl⟩,rfl,⟨.inl rfl,rfl,rfl,λa b _ z=>absurd z (cG _),λk z=>absurd z (cG _),ck _,λk z=>absurd z (cG _)⟩,rfl,rfl,(λ_=>rfl),rfl,λi e he=>?_⟩;cases he
theorem WL (x:Value) {Q:@H} (h:Q (@bb) { s with heap:=s.heap.push (zC w) }):qY @L A (.call (.builtin "set.__new__") ⟨[.type "set",x],[]⟩) (wants Q E) s:=by
 refine codeAny_of_tree (show wpAny _ A.in1 (do checkBuiltinCall "set.__new__" ⟨[.type "set",x],[]⟩;again (.builtin "set.__new__" ⟨[.type "set",x],[]⟩)) _ _ s from ?_);refine ay (CC (F.newCall_set_1 x) (aK ⟨ko F.plain_set_new _,gP F.entry_set_new ?_⟩));rw [fj F.plain_set_new _];unfold Builtin.«set.__new__» Builtin.Frozenset.newClass;have Lf:=sub_set_self;obtain⟨hp,g,d,tk,os⟩:=s;dsimp only at h ⊢
 wp_walk
 refine J1 (aK ?_);ext d;simp only [newObj];refine ay (wpAny_alloc (aK (aK h)))
variable {R:Result->@ae} {I:Addr} {fp wr:@aE} {G:Array GenState->Array GenState->Prop} {n:Nat} {P:Nat->Value->Prop} {St:Nat->@ae}
def OQ(acc:List (@N))(k:@N):Bool:=acc.any λx=>decide (x=k)
theorem vX:OQ acc k=true↔k∈acc:=by
 unfold OQ;rw [List.any_eq_true];exact⟨λ⟨x,hx,e⟩=>of_decide_eq_true e ▸ hx,λh=>⟨k,h,decide_eq_true rfl⟩⟩
def oE(acc:List (@N))(k:@N):List (@N):=if OQ acc k=true then acc else acc++[k]
def ded(l:List (@N)):List (@N):=l.foldl oE []
theorem Kj(acc)(k):(oE acc k).length<=acc.length+1:=by
 unfold oE;split
 .lia
 .rw [aq,bC];exact aS _
theorem PD.keeps(x:PD B prog w h a b ks)(k:∀ c o,(c=a\/B c)->h.get? c=@j->h'.get? c=@j):PD B prog w h' a b ks:=by
 obtain⟨o,es,ep,t,e,r1,r2,r3,r4,r5,r6,M⟩:=x;exact⟨o,es,ep,t,k a o @af e,r1,r2,r3,r4,r5,r6,M.keep λc o z e _=>k c o (.inr z) e⟩
theorem TR{b:Bool}(W:WalksS prog w A.in1 I fp wr G n P St)(S:Addr)(Wq:S∉fp)(T:Heap->Prop)(key:Nat->@N)(kb:n<=76)(hu:(@V).room A.in1)
  (hT:∀ h,T h->∀ i v,P i v->∃ c,v=.ref c/\(@V).is h (key i) c/\B c) (hTk:∀ h h',T h->(∀ c o,c∉S :: wr->h.get? c=@j->h'.get? c=@j)->T h')
  (hW:∀ c,B c->c∉wr) :
  ∀ (k i:Nat) (s:aF) (acc ks:List (@N)),n - i=k->i<=n->acc.length<=i->ks.Perm acc->St i s->T s.heap->PD B prog w s.heap S b ks ->
   (∀ s' L7,Moved (S :: wr) G s s'->L7.Perm (((List.range' i k).map key).foldl oE acc)->T s'.heap->PD B prog w s'.heap S b L7->R (.ok (.ret .none)) s') ->
   qY @L A (.builtin "set.update.loop" ⟨[.ref S,.ref I],[]⟩) R s:=by
 have Zq:S∉wr:=λh=>Wq (W.sub _ h);have Lf:∀ c∈wr,c∈S :: wr:=λc hc=>aL _ hc;intro k;induction k with
 | zero =>
  intro i s acc ks hk hi ha hp Bl ht hS hR;have S6:i=n:=@d
  subst S6;refine gP Qu ?_;rw [fj uV _];show wpAny _ A.in1 (tN (.ref I) >>= _) _ _ s;refine ay (W.done s _ _ Bl λs' hm=>(show wpAny _ A.in1 (ret fu) _ _ s' from aK (hR s' ks (hm.mono Lf) hp (hTk _ _ ht λc o hc e=>hm.heap c o (λz=>hc (Lf c z)) e) (hS.keeps λc o z e=>hm.heap c o (λq=>?_) e))));rcases z with rfl | z
  .exact Zq q
  .exact hW c z q
 | succ k ih =>
  intro i s acc ks hk hi ha hp Bl ht hS hR;have sU:i < n:=@d
  refine gP Qu ?_;rw [fj uV _];show wpAny _ A.in1 (tN (.ref I) >>= _) _ _ s;refine ay (W.item i s _ _ sU Bl λv s' hP abb hm=>?_);have Oz:T s'.heap:=hTk _ _ ht λc o hc e=>hm.heap c o (λz=>hc (Lf c z)) e;obtain⟨c,rfl,hx,hB⟩:=hT _ Oz i v hP;have X8:PD B prog w s'.heap S b ks:=hS.keeps λc o z e=>hm.heap c o (λq=>by
   rcases z with rfl | z
   .exact Zq q
   .exact hW c z q) e
  show wpAny _ A.in1 (w4 [d4 c] (setAdd S (.ref c)) >>= _) _ _ s';refine ay (fe ?_);unfold setAdd;refine fe (ay ((@V).pyHash hu hx ?_));refine Tz (s:={ s' with toks:=s'.toks+(@V).draws (key i) }) hu X8 hx hB (by rw [hp.length_eq];lia) λh' L7 r S6 R7 XB hS2=>?_;have WG:T h':=hTk _ _ Oz λc o hc e=>by rw [XB.2 c (λz:c=S=>hc (by rw [z];exact a9))];exact e
  have Mb:L7.Perm (oE acc (key i)):=by
   unfold oE;by_cases z:OQ acc (key i)=true
   .rw [if_pos z,S6 (hp.mem_iff.mpr (vX.mp z))];exact hp
   .rw [if_neg z];exact(R7 λq=>z (vX.mpr (hp.mem_iff.mp q))).trans ((hp.cons _).trans (List.perm_append_singleton _ _).symm)
  refine aK ⟨ko uV _,ih (i+1) _ (oE acc (key i)) L7 @c sU (cY (Kj _ _) @c) Mb (W.frame _ s' _ _ abb (iU _ _) λc hc o e=>?_) WG hS2 λs2 Xs XO Lg ht2 hS3=>?_⟩
  .rw [XB.2 c (λz:c=S=>Wq (by rw [<-z];exact hc))];exact e
  .refine hR s2 Xs (Moved.trans W.gtrans ((hm.mono Lf).then_heap (iU _ _) λc o hc e=>?_) XO) Lg ht2 hS3;rw [XB.2 c (λz:c=S=>hc (by rw [z];exact a9))];exact e
end
end K2.S
end
section
namespace K2.S
open PySem PySem.Spec PyProof.Rows L2 PySem.SetTable
section
variable {prog:bI} {w:World} {A:c7} {E:@H} {s:aF}
set_option maxRecDepth 100000 in
theorem TU{l:Addr}{items:Array Value}{Q:@H}(hh:A.handled=none)(hu:A.units+64 < cLine)(hl:s.heap.IsList l items)(key:Nat->@N)(kb:items.size<=76)(aa6:∀ (i:Nat) (v:Value),items[i]?=@S->∃ c,v=.ref c/\(@V).is s.heap (key i) c)
  (h:∀ (h':Heap) (tk:Nat) (ks:List (@N)),PD (λc=>c < s.heap.objs.size/\d4 c∈items.toList) prog w h' s.heap.objs.size (!Gk w) ks->ks.Perm (ded ((bZ items.size).map key))->(∀ c o,c < s.heap.objs.size->s.heap.get? c=@j->h'.get? c=@j)->Q (@bb) @bp) :
  wpAny @L A (call (.type "set") [.ref l]) Q E s:=by
 obtain⟨c,tl,agz⟩:=F.called_set.mro;have aec:=F.called_set.made;have Lf:=F.called_set.sub;refine wpAny_call (codeAny_of_tree (show wpAny _ _ (callAny (.type "set") _) _ _ _ from ?_));refine aK ⟨Code.quiet_builtin _ (@ao),gP F.entry_type_call ?_⟩;rw [Around.under_plain (weight_type_call_type "set" [.ref l] []) rfl];have h1:=F.called_set.notType;have h2:=F.called_set.canCreate;have hct:=F.typeCall_set_1 (.ref l)
 repeat (any_goals (first | assumption | wp_step))
 refine tO (WL (.ref l) (E:=E) (Q:=λobj fK=>obj=@bb/\fK={ s with heap:=s.heap.push (zC w) }) @aP) λr s1 hr=>?_;cases r with
 | error e=>exact hr
 | ok fl =>
  cases fl with
  | ret obj =>
   obtain⟨rfl,rfl⟩:=hr;have hS:(s.heap.push (zC w)).get? s.heap.objs.size=some (zC w):=bc _ rfl;have hT:Shared.TypeIs { s with heap:=s.heap.push (zC w) } (@bb) "set":=⟨_,hS,rfl⟩;have hli:=F.called_set.init.lookup;have Zo:=F.called_set.init.bind (@bb)
   repeat (any_goals (first | assumption | wp_step))
   refine tO (codeAny_call_builtin (R:=wants (λr jR=>r=.none/\∃ h' tk ks,jR=@bp/\PD (λc=>c < s.heap.objs.size/\d4 c∈items.toList) prog w h' s.heap.objs.size (!Gk w) ks/\ks.Perm (ded ((bZ items.size).map key)) /\
     (∀ c o,c < s.heap.objs.size->s.heap.get? c=@j->h'.get? c=@j)) E) F.called_set.init.plain F.entry_set_init (check_set_init_1 hT ?_)) λaac jR OB=>?_
   .obtain⟨⟨afP,W7,acL,UI⟩,hol,vW,nl,hdl⟩:=hl;simp only at vW hdl;subst vW hdl;have abi:(s.heap.push (zC w)).get? l=some { cls:=@ak,dict:=W7,data:=.seq items nl,slots:=UI }:=aO _ hol;have agp:=F.sub_list_set;have agq:=F.sub_list_frozenset;have mQ:(Iu "list" == Iu "dict")=false:=@e
    have S4:(s.heap.push (zC w)).IsList l items:=⟨_,abi,rfl,nl,rfl⟩;unfold zC at *;unfold Builtin.«set.__init__» noKeywords Builtin.Frozenset.updateFrom;generalize hPI:Ir=PI
    wp_walk
    subst hPI;refine kn S4 (ay (wpAny_runValue ?_));have hlS:l < s.heap.objs.size:=aQ hol;have hh3:A.in1.in1.in1.handled=none:=by simp [hh]
    have hsz:(s.heap.push (zC w)).objs.size=@aO:=dI _ _;unfold zC at hsz;have hIn:∀ c,c < s.heap.objs.size->c∉[(s.heap.push { cls:=.type "set",dict:=none,data:=.set #[] 0 (.fresh 0 0 (!Gk w)) }).objs.size]:=λc hc=>by
     rw [hsz];simp only [eK];lia
    refine TR (B:=(λc=>c < s.heap.objs.size/\d4 c∈items.toList)) (b:=!Gk w) ((A4 hh3 _ l (by rw [hsz];exact bx (iE hlS)) items).toS) s.heap.objs.size (by rw [hsz];simp only [cg,cU,or_false,not_or];exact⟨bx (fB _),Nat.ne_of_gt hlS⟩)
     (λh=>∀ c o,c < s.heap.objs.size->s.heap.get? c=@j->h.get? c=@j) key kb (by show A.in1.in1.in1.units < cLine;show A.units+1+1+1 < cLine;lia) (λh ht i v hP=>?h1) (λh h' ht k c o hc e=>k c o ?h2 (ht c o hc e)) (λc hc=>hIn c hc.1) (items.size - 0) 0 _ [] [] @c (ck _) @T (List.Perm.refl _) ⟨⟨_,bc _ rfl,rfl,rfl⟩,S4.push _⟩
     (λc o hc e=>aO _ (aO _ e)) ?hS0 ?hR
    case h1 =>
     obtain⟨c,e1,e2⟩:=aa6 i v hP;obtain⟨o,_,_,eo,_⟩:=id e2;exact⟨c,e1,Jy e2 λo e=>ht c o (aQ e) e,aQ eo,by rw [<-e1];exact Array.mem_toList_iff.mpr (Array.mem_of_getElem? hP)⟩
    case h2 =>
     intro z;rcases List.mem_cons.mp z with z | z
     .exact absurd z (bx hc)
     .exact hIn c hc z
    case hS0=>exact QP (aO _ hS)
    case hR =>
     intro s' ks hm hq ht X8;obtain⟨h',g',d',WG,os'⟩:=s';cases (show g'=s.gens from hm.gens);cases (show d'=s.drawn from hm.drawn);cases (show os'=s.os from hm.os);refine aK (show wpAny _ _ (ret fu) _ _ _ from aK ⟨rfl,h',WG,ks,rfl,X8,?_,ht⟩);rw [Qp,<-List.range_eq_range'] at hq;exact hq
   .cases aac with
    | error e=>exact OB
    | ok Yn =>
     cases Yn with
     | ret r =>
      obtain⟨rfl,h',tk,ks,rfl,X8,hq,OH⟩:=OB
      repeat (any_goals (first | assumption | wp_step))
      exact h _ _ ks X8 hq OH
     | _=>exact OB.elim
  | _=>exact hr.elim
end
end K2.S
end
section
namespace K2
open PySem PySem.Spec PyProof.Rows L2 PySem.W
section
variable {X:Cx} {a:Expr} {ta:zh} {pos p E2 p2:Pos}
theorem Sj:cZ "set" = some (.type "set"):=by first | rfl | decide +kernel
def tk(k:@N):D:=.tup (k.map fA)
end
end K2
end
section
namespace K2
open PySem PySem.Spec PyProof.Rows L2
section
variable {X:Cx}
theorem NS (hu:@bq):Ig X "dict.get" B4:=by
 intro pins s σ H G x d xs ds v us Q I ab rx rd QQ BV q;unfold B4 at q;split at q
 .rename_i a k d';obtain⟨bo,hg,hk,q⟩:=q;cases rd;obtain⟨w,w2,rfl,C1,Uc⟩:=BV.two;obtain⟨u1,u2,rfl,Ue,QT⟩:=vals2 QQ;cases rx;obtain⟨H',o,I',m,g,e1,e2⟩:=Ay I ab hg hk C1;refine VG (d:=w2) @c I' g Ue QT λw' s' I2 rr=>?_;cases hl:look bo k with
  | some d2 =>
   obtain⟨v',ho,rr'⟩:=e2 d2 hl;subst ho;rw [hl] at q;exact⟨v',H',d2,G,I2,m,rr,rr',q⟩
  | none =>
   rw [hl] at e1 q;have ho:o=none:=by cases o with
    | none=>rfl
    | some _=>cases e1
   subst ho;exact⟨w2,H',d',G,I2,m,rr,Uc.mono (m.kp ab),q⟩
 .exact q.elim
end
end K2
end
section
namespace K2.S
open PySem PySem.Spec PyProof.Rows L2 PySem.SetTable
namespace F5
theorem slot_next:Slot "set_iterator" "__next__" "set_iterator.__next__" :=
 .of (owner:="set_iterator") (n:="__next__") (by rw [typeLookup_type,builtinLookup_eq_fast];kernel_rfl) (@ao) (@ao) (@ao) (by first | exact .inl (@ao) | exact .inr (@ao)) (by rw [Qk];kernel_rfl)
theorem entry_next:entryFor table "set_iterator.__next__" = some Builtin.«set_iterator.__next__»:=entryFor_of_tree (@aV)
theorem BU:Slot "set_iterator" "__iter__" "set_iterator.__iter__" :=
 .of (owner:="set_iterator") (n:="__iter__") (by rw [typeLookup_type,builtinLookup_eq_fast];kernel_rfl) (@ao) (@ao) (@ao) (by first | exact .inl (@ao) | exact .inr (@ao)) (by rw [Qk];kernel_rfl)
theorem HQ:entryFor table "set_iterator.__iter__" = some Builtin.«dict_keyiterator.__iter__»:=entryFor_alias (id':="dict_keyiterator.__iter__") (@aV) rfl (@ao) (@aV)
theorem FE:entryFor table "set.__iter__" = some Builtin.«frozenset.__iter__»:=entryFor_alias (id':="frozenset.__iter__") (@aV) rfl (@ao) (@aV)
theorem own:Manifest.owners.lookup (String.ofList ['r','o','t','a','r','e','t','i','_','t','e','s'].reverse)=some Manifest.sig_set_iterator:=@aV
theorem args_next (a):argsOk "set_iterator.__next__" ⟨[a],[]⟩:=by
 unfold argsOk;rw [signature?_of (id:="set_iterator.__next__") (n:=['_','_','t','x','e','n','_','_']) (o:=['r','o','t','a','r','e','t','i','_','t','e','s']) (@aV) own];kernel_rfl
theorem LI (a):argsOk "set_iterator.__iter__" ⟨[a],[]⟩:=by
 unfold argsOk;rw [signature?_of (id:="set_iterator.__iter__") (n:=['_','_','r','e','t','i','_','_']) (o:=['r','o','t','a','r','e','t','i','_','t','e','s']) (@aV) own];kernel_rfl
end F5
def GN(pl:Array Nat)(i:Nat):Nat:=if i=0 then 0 else pl.getD (i - 1) 0+1
theorem Pz(up:Up xs)(h:i<=xs.size):below xs (GN xs i)=i:=by
 obtain⟨h1,h2,h3⟩:=qm up (GN xs i);unfold GN at h1 h2 h3 ⊢;by_cases c:i=0
 .rw [if_pos c] at h1 h2 h3 ⊢;apply bX;intro z;have:=h2 0 @c;lia
 .rw [if_neg c] at h1 h2 h3 ⊢;apply bX;intro z;by_cases q:below xs (xs.getD (i - 1) 0+1) < i
  .have:=h3 (i - 1) @c @c;lia
  .have a1:=h2 i @c;have a2:=up (i - 1) i @c @c;lia
section
variable {prog:bI} {w:World} {A:c7} {E:@H} {s:aF}
abbrev tb(w:World)(mk:Nat)(pl dm:Array Nat)(fg mv:Nat):ip:={ mask:=mk,place:=pl,dummies:=dm,finger:=fg,led:=!Gk w,moves:=mv,plain:=true }
structure Wk(w:World)(o:Obj)(es:En)(ep:Nat)(mk:Nat)(pl dm:Array Nat)(fg mv:Nat):Prop where
 ex:o.ExactSet
 dd:o.data=.set es ep (tb w mk pl dm fg mv)
 fit:(tb w mk pl dm fg mv).fits es.size=true
 sz:pl.size=es.size
 up:Up pl
def ord(w:World)(a:Addr)(ep:Nat)(es:En):En:=if Gk w=true then pickOrder (w.params.setOrder a ep) es else es
def slt(w:World)(pl:Array Nat)(i:Nat):Nat:=if Gk w=true then 0 else GN pl i
abbrev aab (a:Addr) (sl i n ep:Nat):Obj:={ cls:=.type "set_iterator",data:=.fields #[.int sl 0,.int i 0,.ref a,.int n 0,.int ep 0] }
def Wy (h:Heap) (it a:Addr) (sl i n ep:Nat):Prop:=∃ o,h.get? it=@j/\o.cls=.type "set_iterator"/\o.data=.fields #[.int sl 0,.int i 0,.ref a,.int n 0,.int ep 0]
theorem Wy.ty   (x:Wy s.heap it a sl i n ep):s.TypeIs (.ref it) "set_iterator":=by
 obtain⟨o,h,c,_⟩:=x;exact⟨o,h,c⟩
theorem DZ{Q:Bool->@ae}(h:Q (Gk w) s):wpAny @L A setsByText Q E s:=by
 unfold setsByText;exact ay (J1 (aK h))
variable {es:En} {mk fg mv:Nat} {pl dm:Array Nat} {a it:Addr} {o:Obj} {ep:Nat}
theorem MQ{Q:@H}(ho:s.heap.get? a=@j)(W:Wk w o es ep mk pl dm fg mv)
  (hQ:Q (@bb) { s with heap:=s.heap.push (aab a 0 0 es.size ep) }):wpAny @L A (Ir @Q) Q E s:=by
 have ty:s.TypeIs @Q "set":=⟨o,ho,W.ex.1⟩;refine Gq ty J3 (fJ J3 ty F5.FE ?_ (PySem.F.args_set_iter_1 _));unfold Builtin.«frozenset.__iter__» Builtin.Frozenset.slot0 slotArgs;simp only [List.isEmpty_nil,aY,aj,↓reduceIte,bind_assoc,av,bne_self_eq_false];unfold Builtin.Frozenset.addrOf Builtin.Frozenset.sizeOf;refine ay (aK ?_)
 try ext d
 refine ay (aK (ay (ay (CB ho W.dd W.fit (aK ?_)))));refine ay ?_;unfold setDrawn;refine ay (nU ho W.dd W.fit ?_);ext d;refine ay (DZ (aK ?_));split
 .rename_i z;exact absurd z (by cases Gk w <;> exact fW)
 .refine ay (aK ?_);unfold setEpoch;refine ay (ay (nU ho W.dd W.fit (aK ?_)));unfold newFields;refine ay (dZ (aK ⟨_,rfl,"set_iterator",_,⟨_,bc _ rfl,rfl⟩,F5.slot_next.lookup,?_⟩) (by size_fits));exact hQ
theorem QI(hb:Gk w=true)(ho:s.heap.get? a=@j)(W:Wk w o es ep mk pl dm fg mv):wpAny @L A (setWalk a) (λr s'=>r=pickOrder (w.params.setOrder a ep) es/\s'=s) @r s:=by
 unfold setWalk;refine ay (nU ho W.dd W.fit ?_);ext d;refine ay (DZ ?_);rw [hb,if_pos rfl];exact ay (J1 (aK @aP))
theorem IS(hi:i<=es.size)(ho:s.heap.get? a=@j)(W:Wk w o es ep mk pl dm fg mv):wpAny @L A (setNext a (slt w pl i) i ep) (λr s'=>r=((ord w a ep es)[i]?).map (λe=>(e.2,slt w pl (i+1)))/\s'=s) @r s:=by
 unfold setNext;refine ay (nU ho W.dd W.fit ?_);ext d;refine ay (DZ ?_);cases hb:Gk w with
 | true =>
  rw [if_pos rfl,if_neg @k];refine ay (nV (QI hb ho W) (λr s' z=>?_) λ_ _ z=>z);obtain⟨rfl,rfl⟩:=z;refine aK ⟨?_,rfl⟩;unfold ord slt;rw [hb];rfl
 | false =>
  rw [if_neg @k];have sl:slt w pl i=GN pl i:=by unfold slt;rw [hb];rfl
  have sl1:slt w pl (i+1)=pl.getD i 0+1:=by unfold slt;rw [hb];rfl
  have bl:Ec pl (GN pl i)=i:=Pz W.up (by rw [W.sz];exact hi);split
  .rename_i z;exact absurd z fW
  .refine ay (show wpAny @L A (if (!(!Gk w)&&!es.isEmpty)=true then unsupported "set:maker-not-led" else pure ()) _ _ s from ?_);rw [if_neg (by rw [hb];simp)];refine aK (aK ⟨?_,rfl⟩);show (match es[Ec pl (slt w pl i)]?,pl[Ec pl (slt w pl i)]? with
    | some (_,x),some j=>some (x,j+1)
    | _,_=>none)=_
   rw [sl,bl,sl1];unfold ord;rw [hb,if_neg @k];by_cases c:i < es.size
   .have hp:i < pl.size:=by rw [W.sz];exact c
    rw [br c,br hp];simp [rj,hp]
   .rw [iV @c];rfl
theorem QJ{i:Nat}{Q:Option Value->@ae}(ki:Wy s.heap it a (slt w pl i) i es.size ep)(ho:s.heap.get? a=@j)(W:Wk w o es ep mk pl dm fg mv)(hi:i<=es.size){e:Int×Value}(he:(ord w a ep es)[i]?=some e)
  (hQ:∀ h',Wy h' it a (slt w pl (i+1)) (i+1) es.size ep->mZ it s.heap h'->Q (some e.2) @aZ):wpAny @L A (tN (.ref it)) Q E s:=by
 obtain⟨oi,Wi,hci,R8⟩:=id ki;unfold tN;refine ay (Et (jb (name:=w6 "__next__") ki.ty F5.slot_next (fJ F5.slot_next ki.ty F5.entry_next ?_ (F5.args_next _))));unfold Builtin.«set_iterator.__next__» slotArgs;refine ay (aK ?_);refine ay (BD Wi R8 ?_);show wpAny _ _ (setEntries a >>= _) _ _ s;refine ay (CB ho W.dd W.fit ?_);rw [if_neg @k];show wpAny _ _ (setNext a (xc (slt w pl i:Int)) (xc (i:Int)) (xc (ep:Int)) >>= _) _ _ s;rw [b0,b0,b0];refine ay (nV (IS hi ho W) (λr s' z=>?_) λ_ _ z=>z.elim);obtain⟨rfl,rfl⟩:=z;rw [he];show wpAny _ _ (setField (.ref it) 0 (BE (slt w pl (i+1):Int)) >>= _) _ _ _;refine ay (ud Wi R8 @k ?_);have g1:=fR (A6 (·.setIfInBounds 0 (BE (slt w pl (i+1):Int)))) Wi (w8 (fY R8 _));refine ay (ud g1 (fY R8 _) @k ?_);have g2:=fR (A6 (·.setIfInBounds 1 (BE ((i:Int)+1)))) g1 (w8 (fY (fY R8 _) _));refine aK ⟨_,rfl,aK (hQ _ ⟨_,g2,?_,?_⟩ ((gb ..).trans (gb ..)))⟩
 .rw [CH,CH];exact hci
 .rw [fY (fY R8 _)];simp [BE]
theorem TY{Q:Option Value->@ae}(calm:A.handled=none)(ki:Wy s.heap it a (slt w pl es.size) es.size es.size ep)(ho:s.heap.get? a=@j)(W:Wk w o es ep mk pl dm fg mv)(hl:(ord w a ep es).size=es.size)
  (hQ:∀ h',Heap.ExtBut it s.heap h'->Q none @aZ):wpAny @L A (tN (.ref it)) Q E s:=by
 obtain⟨oi,Wi,hci,R8⟩:=id ki;unfold tN;refine ay (Et (jb (name:=w6 "__next__") ki.ty F5.slot_next (fJ F5.slot_next ki.ty F5.entry_next ?_ (F5.args_next _))));unfold Builtin.«set_iterator.__next__» slotArgs;refine ay (aK (ay (BD Wi R8 ?_)));show wpAny _ _ (setEntries a >>= _) _ _ s;refine ay (CB ho W.dd W.fit ?_);rw [if_neg @k];show wpAny _ _ (setNext a (xc (slt w pl es.size:Int)) (xc (es.size:Int)) (xc (ep:Int)) >>= _) _ _ s;rw [b0,b0,b0];refine ay (nV (IS @T ho W) (λr s' z=>?_) λ_ _ z=>z.elim);obtain⟨rfl,rfl⟩:=z;rw [iV @c];show wpAny _ _ (setField (.ref it) 2 .none >>= _) _ _ _;refine ay (ud Wi R8 @k ?_);show wpAny _ _ (newExc (.type "StopIteration") [] >>= _) _ _ _;refine ay ?_;simp only [newExc,newTuple];refine ay (dZ (ay (m:=BF _ _) (CC (a:=fu) (by first | rfl | (simp only [BF];rfl)) (dZ ?_ (by size_fits)))) (by size_fits));unfold raiseNew;refine ay (wpAny_handled ?_);rw [show A.in1.handled=none from calm];refine ay (aK (wpAny_throw ?_));refine ay (J0 (T:="StopIteration") (b:=true) ⟨_,bc _ rfl,rfl⟩ isSubtype_stop (?_));exact aK (hQ _ (((gb ..).extBut.push _).push _))
theorem OW{α:Type}:∀ (l:@v) (i:Nat) (h:i < l.length),(l[i] :: l.eraseIdx i).Perm l
 | x :: r,0,_=>.refl _
 | x :: r,i+1,h=>by
  rw [Mq,List.eraseIdx_cons_succ];exact(oA _ _ _).trans (.cons _ (OW r i (@bE)))
theorem BX(next):∀ (f k:Nat) (l:@v) (out:Array α),l.length<=f->(pickOrder.go next f k l out).toList.Perm (out.toList++l)
 | 0,k,l,out,h=>by
  have:l=[]:=List.length_eq_zero_iff.mp @c;subst this;rw [bq];exact .refl _
 | f+1,k,l,out,h=>by
  unfold pickOrder.go;cases l with
  | nil=>simp
  | cons x r =>
   have hi:next k % (x :: r).length < (x :: r).length:=i9 _ @k;rw [aB hi];ext d;refine(BX next f (k+1) _ _ (by rw [List.length_eraseIdx_of_lt hi];simp at h ⊢;lia)).trans ?_;rw [Array.toList_push,bD];exact .append_left _ (OW _ _ hi)
theorem E4(w)(a)(ep)(es):(ord w a ep es).toList.Perm es.toList:=by
 unfold ord;split
 .unfold pickOrder;have:=BX (w.params.setOrder a ep) es.size 0 es.toList #[] @k;simpa using this
 .exact .refl _
theorem oR(w)(a)(ep)(es):(ord w a ep es).size=es.size:=by have:=(E4 w a ep es).length_eq;simpa using this
theorem MP(hh:A.handled=none)(mQ:a≠it)(W:Wk w o es ep mk pl dm fg mv) :
  PySem.Walks prog w A it [it,a] [it] es.size (λi v=>∃ e,(ord w a ep es)[i]?=some e/\v=e.2) (λi h=>Wy h it a (slt w pl i) i es.size ep/\@aK=@j) where
 sub:=λc hc=>by simp at hc;simp [hc]
 frame:=λi h h' st hk=>⟨let ⟨o,e,r⟩:=st.1;⟨o,hk it @k o e,r⟩,hk a @k o st.2⟩
 item:=λi s Q E hi st hQ=>by
  have wY:i < (ord w a ep es).size:=by rw [oR];exact hi
  have he:(ord w a ep es)[i]?=some (ord w a ep es)[i]:=br wY;exact QJ st.1 st.2 W (Ed hi) he λh' BN sb=>hQ _ h' s.toks ⟨_,he,rfl⟩ ⟨BN,(sb.2 a mQ).trans st.2⟩ λc o hc e=>(sb.2 c (by simpa using hc)).trans e
 done:=λs Q E st hQ=>TY hh st.1 st.2 W (oR ..) λh' eb=>hQ h' s.toks λc o hc e=>eb c o (by simpa using hc) e
 self:=λi s Q E st hQ=>by
  refine Gq st.1.ty F5.BU (fJ F5.BU st.1.ty F5.HQ ?_ (F5.LI _));show wpAny _ _ (ret (.ref it)) _ _ s;exact aK ⟨_,rfl,"set_iterator",_,st.1.ty,F5.slot_next.lookup,hQ⟩
theorem QK {r:Addr} {Q:Bool->@ae} (hT:s.TypeIs (.ref r) "set") (h:Q false s):wpAny @L A (yY (.ref r)) Q E s:=by
 unfold yY;refine ay (wpAny_specialOf hT PySem.F.slot_set_len.lookup ?_);generalize Qc:("set.__len__" : String)=id0
 wp_delta
 rw [show splitId id0=some ("set","__len__") from by subst Qc;decide +kernel];subst Qc;refine ay (J0 (T:="set") (b:=true) hT (by rw [Qk];kernel_rfl) (wpAny_ite_split (λCi=>absurd Ci @o) λ_=>?_));exact wpAny_ite_split (λ_=>ay (wpAny_typeOf hT (aK h))) λCi=>absurd (@ao) Ci
theorem TX(W:Wk w o es ep mk pl dm fg mv) :
  PySem.W.KdlSrc prog w "set" a a es.size (λi v=>∃ e,(ord w a ep es)[i]?=some e/\v=e.2) (λh=>@aK=@j) where
 type:=λs du=>⟨o,du,W.ex.1⟩
 there:=λh du=>⟨aQ du,aQ du⟩
 keep:=λh h' du hk=>hk a @af o du
 notList:=@e
 notTuple:=@e
 hint:=λA E s Q du hq=>QK ⟨o,du,W.ex.1⟩ hq
 iter:=λA s hh du=>⟨_,_,(λE Q hq=>MQ du W hq),MP hh (bx (aQ du)) W,⟨⟨_,bc _ rfl,rfl,by unfold slt GN;simp⟩,aO _ du⟩⟩
end
end K2.S
end
section
namespace K2
open PySem PySem.Spec PyProof.Rows L2 PySem.W
open Enc (enc)
section
variable {X:Cx}
theorem Ot{K:aC}:∀ {ns:@G} {vs:@A} {bu:@B},bp K H vs (ns.map enc)->Vals vs bu->kC bu ns:=by
 intro ns;induction ns with
 | nil=>intro vs bu r v;cases r;cases v;exact .nil
 | cons n ns ih =>
  intro vs bu r v;cases r with
  | cons r1 r2 =>
   cases r1;cases v with
   | cons v1 v2=>obtain⟨t,rfl⟩:=(show ∃ t,_=qZ n t from v1);exact .cons _ _ (ih r2 v2)
theorem Ld{K:aC}(h:kC bu ns):Vals (ns.map V.int) bu/\bp K H (ns.map V.int) (ns.map enc):=by
 induction h with
 | nil=>exact⟨.nil,.nil⟩
 | cons _ _ _ ih=>exact⟨.cons @ah ih.1,.cons (.int _) ih.2⟩
theorem Bw (hc:@a5) (hu:@bq):km X (.builtin "sorted") pz:=by
 intro pins s σ H G xs ds us Q I ab rx rd q;unfold pz at q;split at q
 .rename_i x;obtain⟨ns,ty,hi,Yc,q⟩:=q;obtain⟨w1,rfl,C1⟩:=rd.one;obtain⟨u,rfl,ru⟩:=rx.one;obtain⟨l,vs,bu,rfl,rv,rs,hl,_⟩:=jM I ab ru C1 (xp ty hi);obtain⟨m,F0⟩:=I.fr;refine kso_sorted F0 vM hl (Ot rs rv) Yc λDd vs' RQ c h' F N sU ia il pm so _=>?_;obtain⟨k2,W8⟩:=kJ I F0 F λp hp=>N p (aL _ hp);have hD:s.heap.get? Dd=none:=by
   have nD:=N _ a9;cases qd:s.heap.get? Dd with
   | none=>rfl
   | some o=>exact absurd (sU _ (kZ nD.2.1 nD.2.2 qd)) (eR _)
  have hp:H Dd=none:=v5 I.du hD;have es:AZ ns=RQ:=tS ((oF ns).trans pm.symm) (pM ns) (so.imp λh=>by unfold yD;exact(by simpa [b6.lt] using h));rw [es] at q;have hsz:bw=16777216:=cq;obtain⟨Y8,QU⟩:=Ld (K:=X.K) (H:=H) ia;refine⟨.ref Dd,upd H Dd (.lst (RQ.map V.int)),.ref _,_,Inv.Fo (t':=s.toks) I k2 W8 hD ?_,.Bh ab hp QU,rfl,.ref _,q _ (ab.free hp)⟩;exact⟨@az,_,c,Y8,(N _ a9).1⟩
 .exact q.elim
end
end K2
end
section
namespace K2
open PySem PySem.Spec PyProof.Rows L2 PySem.W
open PySem.MeetsSeq PySem.MeetsSeq2 PySem.MeetsSeq3 PySem.SeqAt
theorem Oa{α β:Type} [BEq α] [LawfulBEq α]{k:α}{v:β}:∀ {l:List (α×β)},l.lookup k=@S->(k,v)∈l:=by
 intro l;induction l with
 | nil=>intro h;cases h
 | cons p l ih =>
  obtain⟨a,b⟩:=p;intro h;rw [kq] at h;cases hb:k == a with
  | true=>rw [hb] at h;cases h;rw [eq_of_beq hb];exact a9
  | false=>rw [hb] at h;exact aL _ (ih h)
theorem CT:∀ (zs:@f) (vs:@B),(∀ z∈zs,oj ws z=true)->(∀ i,i < vs.length->∃ as,Reads h (vs.getD i .none) (pd (@ax)) as)->vs.length=zs.length ->
  ∃ fs,KatTups h vs fs/\fs.length=vs.length/\∀ f∈fs,∃ x t,f=Ew x t:=by
 intro zs;induction zs with
 | nil =>
  intro vs _ _ h;have:vs=[]:=List.length_eq_zero_iff.mp h;subst this;exact⟨[],trivial,rfl,λ_ h=>@aH⟩
 | cons z zs ih =>
 intro vs hs hr hl;cases vs with
 | nil=>cases hl
 | cons v vs =>
  obtain⟨fs,h1,h2,h3⟩:=ih vs (λz hz=>hs z (aL _ hz)) (λi hi=>by
   obtain⟨as,r⟩:=hr (i+1) (by simpa using hi);exact⟨as,by simpa using r⟩) (by simpa using hl)
  obtain⟨as,r⟩:=hr 0 @k;obtain⟨w,l,ds,rfl,_,_⟩:=lZ (hs z @k);simp only [List.getD_cons_zero] at r;cases r with
  | tuple k1 k2 k3 k4 =>
   rename_i p o ws c;have k5:fV h ws.toList (pd (.str w) :: kI ds) as:=k4;cases q:ws.toList with
   | nil=>rw [q] at k5;cases k5
   | cons f rest =>
    rw [q] at k5;cases k5 with
    | cons r1 r2 =>
     have hf:ws[0]?=some f:=by
      have:ws.toList[0]?=some f:=by rw [q];rfl
      simpa using this
     refine⟨f :: fs,.cons k1 k2 k3 hf h1,by simp [h2],λg hg=>?_⟩;rcases List.mem_cons.mp hg with rfl | hg
     .cases r1;exact⟨_,_,rfl⟩
     .exact h3 g hg
theorem xu:∀ {l:List kO} {xs:@f},ff l xs=true->xs.length=l.length
 | [],[],_=>rfl
 | [],_ :: _,h=>@aH
 | _ :: _,[],h=>@aH
 | s :: l,x :: xs,h=>by
  have h:(da s x&&ff l xs)=true:=h;rw [aR] at h;rw [af,af,xu h.2]
theorem RY{prog:bI}{w:World}{A:c7}{s:aF}{E:@H}{Q:Bool->@ae}{n:Nat}{ws:List (Str×List kO)}{a c:D}{u v:Value}{as bs:@aE}(hn:(pd a).depth<=n+1)(h1:oj ws a=true)(h2:oj ws c=true)(n1:nr a=true)(n2:nr c=true)
  (r1:Reads s.heap u (pd a) as) (r2:Reads s.heap v (pd c) bs) (hu:A.units+n < cLine) (hq:Q (Dk a c) s):wpAny @L A (keyLt' (tuples' true) u v) Q E s:=by
 obtain⟨w1,l,xs,rfl,e1,s1⟩:=lZ h1;obtain⟨w2,l',ys,rfl,e2,s2⟩:=lZ h2;have n1:(nr (.str w1)&&pF xs)=true:=n1;have n2:(nr (.str w2)&&pF ys)=true:=n2;rw [aR] at n1 n2;have hd:(pd (.tup (.str w1 :: xs))).depth=bV (pd (.str w1) :: kI xs)+1:=rfl;have hd2:bV (kI xs)<=n:=by
  rw [hd] at hn;simp only [bV] at hn;lia
 cases r1 with
 | tuple k1 k2 k3 k4 =>
  cases r2 with
  | tuple m1 m2 m3 m4 =>
   rename_i p o vs c p' o' us c';have z1:=readsAll_len (ds:=.str w1 :: xs) k4;have z2:=readsAll_len (ds:=.str w2 :: ys) m4;have g1:vs.size=xs.length+1:=by simpa using z1
   have g2:us.size=ys.length+1:=by simpa using z2
   refine kat_lt k1 k3 m1 m3 ?_;have k5:fV s.heap vs.toList (pd (.str w1) :: kI xs) as:=k4;have m5:fV s.heap us.toList (pd (.str w2) :: kI ys) bs:=m4;generalize abC:decide (vs.size < us.size)=fin;generalize vs.toList=vl at k5;generalize us.toList=ul at m5;cases k5 with
   | @cons v1 vr _ _ _ _ a1 a2 =>
   cases m5 with
   | @cons u1 ur _ _ _ _ b1 b2 =>
   show KatLex prog w A true fin Q ((v1,u1) :: vr.zip ur) 0 s;have eq:=eqAt_reads (pd (.str w1)) (pd (.str w2)) A s _ _ _ _ a1 b1 (jk _ n1.1) (jk _ n2.1) (by show _+0 < _;lia);rw [rW _ _ n1.1 n2.1] at eq;refine kat_cons (eq prog w _ _ ?_);have ee:iI (.str w1) (.str w2)=decide (w1=w2):=by
    show (w1 == w2)=_;by_cases z:w1=w2
    .rw [z];simp
    .simp [z]
   rw [ee];rw [kK] at hq;by_cases z:w1=w2
   .subst z;rw [e1] at e2;cases e2;rw [decide_eq_true rfl];rw [if_pos rfl] at hq;have lf:fin=false:=by
     rw [<-abC];have:=xu s1;have:=xu s2;exact decide_eq_false @c
    exact kat_yes (vU (n:=n) hu l xs ys vr ur _ _ 1 s1 s2 n1.2 n2.2 a2 b2 hd2 lf hq)
   .rw [decide_eq_false z];rw [if_neg z] at hq;refine kat_no ?_;cases a1;cases b1;exact oneLt_str hq
section
variable {X:Cx}
theorem Bv  (hc:@a5) (hu:@bq):km X (.builtin "sorted") (mW ws):=by
 intro pins s σ H G xs ds us Q I ab rx rd q;unfold mW at q;split at q
 .rename_i x;obtain⟨zs,ty,hi,⟨tK,du,Yc⟩,q⟩:=q;obtain⟨w1,rfl,C1⟩:=rd.one;obtain⟨u,rfl,ru⟩:=rx.one;obtain⟨l,vs,bu,rfl,rv,rs,hl,_⟩:=jM I ab ru C1 (xp ty hi);have S4:=rv.length;have Zm:=rs.length;have hsz:bw=16777216:=cq;have hz:∀ z∈zs,oj ws z=true:=λz h=>List.all_eq_true.mp tK z h;by_cases kb:bu.length < 2
  .refine GP hl kb ?_;obtain⟨e,he⟩:=sortedAll_at s.heap bu bu.toArray;have hp:H (@aO)=none:=I.du.fresh (zv _);have es:zs.Pairwise λa b=>Dk b a=false:=by
    match zs,Zm,kb with
    | [],_,_=>exact .nil
    | [z],_,_=>exact lq _ _
    | _ :: _ :: _,h,f=>exact absurd f (by rw [<-S4,h];simp)
   have q:=q zs (.refl _) es;refine⟨.ref (@aO),upd H (@aO) (.lst vs),.ref _,_,I.laid (t':=s.toks) (λb o e=>sortedAll_old e) (zv _) ?_,.Bh ab hp rs,rfl,.ref _,q _ (ab.free hp)⟩;exact⟨@d,bu,e,rv,he⟩
  .obtain⟨m,F0⟩:=I.fr;have nz:0 < zs.length:=@d
   have nL:∀ b o vs n,o.data=.seq vs n->@ar=@j->@bJ:=λb o vs n e1 e2 z=>by
    obtain⟨o',es,ep,OE,Fu,_⟩:=F0.ns;rw [z,OE] at e2;cases e2;rw [Fu] at e1;cases e1
   have sn:∀ z∈zs,Sn G 7 z z:=λz h=>by
    obtain⟨w,l,ds,rfl,e1,e2⟩:=lZ (hz z h);have hm:(w,l)∈ws:=Oa e1;have ho:=List.all_eq_true.mp du _ hm;rw [aR] at ho;exact .oC (.str w ho.2) (CV G l ds 6 e2 (of_decide_eq_true ho.1))
   refine kat_sorted F0 vM hl @c @c λDd e1 h' F N sU=>?_;obtain⟨kk,ns⟩:=kJ I F0 F λp hp=>N p (aL _ hp);have BV:∀ i,i < bu.length->∃ as,Reads h' (bu.getD i .none) (pd (@ax)) as:=λi hi=>by
    have i1:@bg:=@d
    have i2:i < vs.length:=@d
    have g1:@ax=zs[i]:=getD_at _ _ i1;have g2:bu.getD i .none=bu[i]:=getD_at _ _ hi;obtain⟨v,hv,WR⟩:=rs.get (aB i1);obtain⟨u,uD,Ud⟩:=rv.get hv;rw [aB hi] at uD;cases uD;obtain⟨as,r⟩:=(iC I ab (sn _ (bQ i1))).1 v _ WR Ud;rw [g1,g2];exact⟨as,rC (λb o vs n e1 e2=>kk b o (nL b o vs n e1 e2) e2) _ (sn _ (bQ i1)).nr r⟩
   have Be:∀ i,@bg->oj ws (@ax)=true:=λi hi=>by rw [getD_at _ _ hi];exact hz _ (bQ hi)
   have UU:∀ i,@bg->nr (@ax)=true:=λi hi=>by rw [getD_at _ _ hi];exact(sn _ (bQ hi)).nr
   have ZH:∀ i,@bg->(pd (@ax)).depth<=7:=λi hi=>by rw [getD_at _ _ hi];exact Az (sn _ (bQ hi))
   let zz:Nat->D:=λi=>if @bg then @ax else zs.getD 0 .dj
   have Mw:∀ i,oj ws (zz i)=true:=λi=>by
    show oj ws (if @bg then @ax else zs.getD 0 .dj)=true;split
    .exact Be i (by assumption)
    .exact Be 0 nz
   let lt:Nat->Nat->Bool:=λi j=>Dk (zz i) (zz j)
   have Z7:JU lt:=⟨λi j h=>B5 (Mw i) (Mw j) h,λi j k h1 h2=>Hq (Mw i) (Mw j) (Mw k) h1 h2⟩;have Xm:∀ i j,@bg->j < zs.length->lt i j=Dk (@ax) (zs.getD j .dj):=λi j hi hj=>by
    show Dk (if @bg then _ else _) (if j < zs.length then _ else _)=_;rw [if_pos hi,if_pos hj]
   obtain⟨p,ep,rO,WW,hup⟩:=ET Z7 (n:=bu.length) @c;have Zv:X.A.in1.in1.units=X.A.units+2:=rfl;have ask:∀ κ:SortKind,(∀ i j,i < bu.length->j < bu.length->∀ C:Bool->@ae,C (Dk (@ax) (zs.getD j .dj)) @aZ->kas_ask X.prog X.w X.A.in1.in1 κ bu i j C @aZ) ->
     (kas_sort bu.length).kasWp (kas_ask X.prog X.w X.A.in1.in1 κ bu) (λp Ub=>KasFin X.base X.env.locals m Dd e1 (p.toList.map λi=>bu.getD i fu) (λs3=>qQ X pins σ H G Q (.ref Dd) s3) Ub) @aZ:=by
    intro κ hk;refine Aa (lt:=lt) (n:=bu.length) (λi j i1 i2 C hC=>hk i j i1 i2 C (by rw [<-Xm i j @c @c];exact hC)) _ (FW @c) ?_;rw [ep];refine KasFin.intro (g:=λo=>(Dd,o) :: qo X.base s.heap X.env.locals) F N (.head (λq hq z=>absurd (sU q hq) (by rw [z];exact eR _))) λh2 c F2 N2=>?_;obtain⟨k2,W8⟩:=kJ I F0 F2 λp hp=>N2 p (aL _ hp);have hD:s.heap.get? Dd=none:=by
     have nD:=N _ a9;cases qd:s.heap.get? Dd with
     | none=>rfl
     | some o=>exact absurd (sU _ (kZ nD.2.1 nD.2.2 qd)) (eR _)
    have hp:H Dd=none:=v5 I.du hD;have rvp:Vals (p.toList.map λi=>vs.getD i .dj) (p.toList.map λi=>bu.getD i fu):=by
     have:∀ (ps:@aC),(∀ i∈ps,i < bu.length)->Vals (ps.map λi=>vs.getD i .dj) (ps.map λi=>bu.getD i fu):=by
      intro ps;induction ps with
      | nil=>intro _;exact .nil
      | cons i ps ih =>
       intro hh;have hi:=hh i @k;refine .cons ?_ (ih λj hj=>hh j (aL _ hj));have i2:i < vs.length:=@d
       obtain⟨u,uD,Ud⟩:=rv.get (aB i2);rw [aB hi] at uD;cases uD;show RelV (vs.getD i .dj) (bu.getD i .none);rw [getD_at _ _ i2,getD_at _ _ hi];exact Ud
     exact this _ λi hi=>by simpa using rO.mem_iff.mp hi
    have rsp:bp X.K H (p.toList.map λi=>vs.getD i .dj) (p.toList.map λi=>@ax):=by
     have:∀ (ps:@aC),(∀ i∈ps,i < bu.length)->bp X.K H (ps.map λi=>vs.getD i .dj) (ps.map λi=>@ax):=by
      intro ps;induction ps with
      | nil=>intro _;exact .nil
      | cons i ps ih =>
       intro hh;have hi:=hh i @k;refine .cons ?_ (ih λj hj=>hh j (aL _ hj));have i2:i < vs.length:=@d
       have i1:@bg:=@d
       obtain⟨v,hv,r⟩:=rs.get (aB i1);rw [aB i2] at hv;cases hv;show cP X.K H (vs.getD i .dj) (@ax);rw [getD_at _ _ i2,getD_at _ _ i1];exact r
     exact this _ λi hi=>by simpa using rO.mem_iff.mp hi
    have q:=q (p.toList.map λi=>@ax) (by
      have h1:(p.toList.map λi=>@ax).Perm ((bZ zs.length).map λi=>@ax):=by
       have:bu.length=zs.length:=@d
       rw [<-this];exact rO.map _
      rw [mJ] at h1;exact h1) (by
      rw [cL,ID];intro i j hi hj HC;have g1:gA p i=p.toList[i]:=by
       have:i < p.size:=by simpa using hi
       simp [gA,rj,this]
      have g2:gA p j=p.toList[j]:=by
       have:j < p.size:=by simpa using hj
       simp [gA,rj,this]
      have bi:p.toList[i] < bu.length:=by simpa using rO.mem_iff.mp (bQ hi)
      have bj:p.toList[j] < bu.length:=by simpa using rO.mem_iff.mp (bQ hj)
      have:=hup i j @c (by have:j < p.toList.length:=hj;rw [bR,WW] at this;exact this);rw [g1,g2,Xm _ _ @c @c] at this;exact this)
    have ln:(p.toList.map λi=>vs.getD i .dj).length<=bw:=by rw [ai,bR,WW];lia
    refine⟨.ref Dd,upd H Dd (.lst (p.toList.map λi=>vs.getD i .dj)),.ref _,_,Inv.Fo (t':=s.toks) I k2 W8 hD ?_,.Bh ab hp rsp,rfl,.ref _,q _ (ab.free hp)⟩;exact⟨ln,_,c,rvp,(N2 _ a9).1⟩
   obtain⟨fs,t1,t2,t3⟩:=CT (h:=h') zs bu hz BV @c;refine kat_kind (s:=@aZ) (T:=.type "str") t1 @c (λf hf=>?_) rfl (ask _ λi j hi hj C hC=>?_)
   .obtain⟨x,t,rfl⟩:=t3 f hf;exact .now
   .obtain⟨as,r1⟩:=BV i hi;obtain⟨bs,r2⟩:=BV j hj;exact RY (s:=@aZ) (n:=7) (by have:=ZH i @c;lia) (Be i @c) (Be j @c) (UU i @c) (UU j @c) r1 r2 (by rw [Zv];lia) hC
 .exact q.elim
end
end K2
end
section
namespace K2
open PySem PySem.Spec PyProof.Rows L2 PySem.W
section
variable {X:Cx}
theorem HV (hc : X.calm = true) (hu : X.A.units + 64 < cLine) : km X (.builtin "max") AF := by
  intro pins s σ H G xs ds us Q I ab rx rd q;unfold AF at q;split at q
  . rename_i a b
    obtain⟨v, rfl, r⟩ := rd.one;obtain⟨u, rfl, ru⟩ := rx.one;obtain⟨l, vs, bu, rfl, rv, rs, hl, hz⟩ := ux I ab ru r rfl;have hlen : bu.length = 2 := by rw [<-rv.length, rs.length];rfl
    have at_ : ∀ i uu, bu.toArray[i]? = some uu -> ∃ t, uu = qZ ([a, b].getD i a) t := λi uu e => by
      have e' : bu[i]? = some uu := by simpa using e
      have wY : i < bu.length := (List.getElem?_eq_some_iff.mp e').1;have hd : ([D.int a, D.int b] : @f)[i]? = some (D.int ([a, b].getD i a)) := by
        match i, wY with
        | 0, _ => rfl
        | 1, _ => rfl
        | n + 2, h => lia
      obtain⟨vv, h1, h2⟩ := rs.get hd;obtain⟨uu', h3, h4⟩ := rv.get h1;rw [e'] at h3;cases h3;cases h2;exact h4
    have fin : ∀ vv h' tk, bu.toArray[nW (λi j => decide ([a, b].getD i a > [a, b].getD j a)) (bu.toArray.size - 1)]? = some vv -> (∀ b o, b ∉ [s.heap.objs.size] -> @ar = @j -> @al = @j) -> qQ X pins σ H G Q vv { s with heap := h', toks := tk } := λvv h' tk e hk => by
      obtain⟨t, rfl⟩ := at_ _ vv e;have es : bu.toArray.size - 1 = 1 := by rw [aU];lia
      rw [es];have ev : [a, b].getD (nW (λi j => decide ([a, b].getD i a > [a, b].getD j a)) 1) a = if a < b then b else a := by
        show [a, b].getD (if decide (b > a) = true then 1 else 0) a = _;by_cases c : a < b
        . rw [if_pos c, if_pos (by simpa using c)];rfl
        . rw [if_neg c, if_neg (by simpa using c)];rfl
      rw [ev];exact⟨.int _, H, _, G, I.kept λb o e => hk b o (by simpa using bx (aQ e)) e, @av, ⟨_, rfl⟩, .int _, q⟩
    have OD : 0 < bu.toArray.size := by rw [aU];lia
    have mQ : ∀ {o : Obj}, s.heap.get? l = @j -> l ≠ s.heap.objs.size := λe => bx (aQ e);rcases hl with hl | hl
    . refine call_max_walk (kn hl ?_)
      obtain⟨o, ho, vW, n, hd⟩ := id hl;exact⟨s.heap.objs.size, _, _, _, _, _, _, rfl, A4 (A := X.A.in1) (show X.A.in1.handled = none from I.ok.hd hc) _ l (mQ ho) bu.toArray, ⟨⟨_, bc _ rfl, rfl, rfl⟩, ⟨o, aO _ ho, vW, n, hd⟩⟩,
        fun b hb => by rcases (@bv : b = s.heap.objs.size ∨ b = l) with rfl | rfl
                       . rw [dI];exact fB _
                       . rw [dI];exact iE (aQ ho), OD, CmpOf.ints_gt (λi => [a, b].getD i a) at_, λvv h' tk e hk => fin vv h' tk e λb o hb e => hk b o hb (aO _ e)⟩
    . refine call_max_walk (tM hl ?_)
      obtain⟨o, ho, vW, n, hd⟩ := id hl;exact⟨s.heap.objs.size, _, _, _, _, _, _, rfl, Ql (A := X.A.in1) (show X.A.in1.handled = none from I.ok.hd hc) _ l (mQ ho) bu.toArray, ⟨⟨_, bc _ rfl, rfl, rfl⟩, ⟨o, aO _ ho, vW, n, hd⟩⟩,
        fun b hb => by rcases (@bv : b = s.heap.objs.size ∨ b = l) with rfl | rfl
                       . rw [dI];exact fB _
                       . rw [dI];exact iE (aQ ho), OD, CmpOf.ints_gt (λi => [a, b].getD i a) at_, λvv h' tk e hk => fin vv h' tk e λb o hb e => hk b o hb (aO _ e)⟩
  . exact q.elim
end
section
variable {X:Cx} {a:Expr} {ta:zh} {pos p E2 p2:Pos}
def IP(t:T2):@N:=[.inl t.a,.inl t.b]
theorem IM(h:IP x=IP y):x=y:=by
 cases x;cases y;unfold IP at h;injection h with h1 h2
 injection h2 with h2 _
 cases h1;cases h2;rfl
theorem U0(l:List T2):l.map (Enc.enc:T2->D)=(l.map IP).map tk:=by rw [cI];rfl
theorem Pf:∀ (l acc:List (@N)),acc.Nodup->(l.foldl S.oE acc).Nodup/\∀ k,k∈l.foldl S.oE acc↔k∈acc\/k∈l
 | [],acc,h=>⟨h,λk=>⟨.inl,λz=>z.elim id λq=>by cases q⟩⟩
 | x :: l,acc,h=>by
  rw [eM];have hs:(S.oE acc x).Nodup/\∀ k,k∈S.oE acc x↔k∈acc\/k=x:=by
   unfold S.oE;by_cases c:S.OQ acc x=true
   .rw [if_pos c];exact⟨h,λk=>⟨.inl,λz=>z.elim id λe=>e ▸ S.vX.mp c⟩⟩
   .rw [if_neg c];refine⟨?_,λk=>by rw [Gb,eK]⟩;rw [jN];refine⟨h,@ad,λu hu v hv e=>?_⟩;rw [List.mem_singleton.mp hv] at e;subst e;exact c (S.vX.mpr hu)
  obtain⟨h1,h2⟩:=Pf l _ hs.1;refine⟨h1,λk=>(h2 k).trans ?_⟩;rw [hs.2,cg,or_assoc]
theorem SY:∀ (ks:List (@N)),(∀ k∈ks,∃ t,k=IP t)->∃ m:List T2,ks=m.map IP
 | [],_=>⟨[],rfl⟩
 | k :: ks,h=>by
  obtain⟨t,rfl⟩:=h k a9;obtain⟨m,rfl⟩:=SY ks λx hx=>h x (aL _ hx);exact⟨t :: m,rfl⟩
theorem I0{K:aC}:∀ (vs:@A) (zs:@f),vs.length=zs.length->(∀ (i:Nat) (v:V) (z:D),vs[i]?=@S->zs[i]?=some z->cP K H v z)->bp K H vs zs
 | [],[],_,_=>.nil
 | [],_ :: _,h,_=>@aH
 | _ :: _,[],h,_=>@aH
 | v :: vs,z :: zs,h,hr=>.cons (hr 0 v z rfl rfl) (I0 vs zs (@bE) λi u y h1 h2=>hr (i+1) u y h1 h2)
def vOf(v:Value):V:=match v with
 | .ref b=>@X
 | _=>.dj
theorem zM (hc:@a5) (hu:@bq) (hg:Gl X "sorted") (hm:X.mg "sorted" = none) (hg2:Gl X "set") (XO:X.mg "set" = none) (ha:yq X [a] ta) (hs:autoParam (bG [a] X.env=(false,eval a X.env) :: bG [] X.env) Ar._auto_1)
  (Ek:autoParam (bG [.Call (.Name "set" p2) [a] [] E2] X.env=(false,eval (.Call (.Name "set" p2) [a] [] E2) X.env) :: bG [] X.env) Ar._auto_1) (mP:autoParam ((jX pos (bG [] X.env)).any @t=false) Ar._auto_1) (abh:autoParam ((jX E2 (bG [] X.env)).any @t=false) Ar._auto_1) :
  eQ X (.Call (.Name "sorted" p) [.Call (.Name "set" p2) [a] [] E2] [] pos) (fC mi ta):=by
 ext e;refine ij (pZ I.inv hg hm tm (kP ?_ Ek mP));rw [Ek];show wpAny _ _ (spliced ((false,eval (.Call (.Name "set" p2) [a] [] E2) X.env) :: jX pos (bG [] X.env))) _ _ s;refine qu (ij (pZ I.inv hg2 XO Sj (fX (zx ha E2 hE I h λvs H1 ds G1 us s1 I1 m1 r1 jU q1=>?_) hs abh)));unfold mi at q1;split at q1
 .rename_i x;obtain⟨tl,hlo,hlen,q⟩:=q1;obtain⟨w1,rfl,C1⟩:=jU.one;obtain⟨u,rfl,ru⟩:=r1.one;obtain⟨l,vs,bu,rfl,rv,rs,hL,hz⟩:=jM I1.inv I1.ab ru C1 hlo;rw [U0] at rs;have kll:(tl.map IP).length=tl.length:=ai _;have klt:∀ k∈tl.map IP,∃ t∈tl,k=IP t:=λk hk=>by obtain⟨t,ht,e⟩:=List.mem_map.mp hk;exact⟨t,ht,e.symm⟩
  have RX:∀ t,IP t∈tl.map IP↔t∈tl:=λt=>⟨λh=>by obtain⟨t',h1,e⟩:=List.mem_map.mp h;rw [<-IM e];exact h1,eU⟩;generalize tl.map IP=kl at rs kll klt RX;have li:bu.length=kl.length:=by rw [<-rv.length,rs.length,ai]
  have at_:∀ (i:Nat) (v:Value),bu.toArray[i]?=@S->∃ c,v=.ref c/\(S.TK X.prog X.w).is s1.heap (kl.getD i []) c:=λi v hv=>by
   have hv:bu[i]?=@S:=by rw [PU] at hv;exact hv
   have hi:i < kl.length:=by have:=(List.getElem?_eq_some_iff.mp hv).1;lia
   have hd:(kl.map tk)[i]?=some (tk (kl.getD i [])):=by rw [bP,bf,aB hi];rfl
   obtain⟨vv,h1,h2⟩:=rs.get hd;obtain⟨uu,h3,h4⟩:=rv.get h1;rw [hv] at h3;cases h3;obtain⟨c,rfl,hb⟩:=vj h2;cases h4;exact⟨c,rfl,mM I1.inv.du hb⟩
  refine S.TU (I1.inv.ok.hd hc) hu hL (λi=>kl.getD i []) (by rw [aU,li];lia) at_ λh' WG ks S' hp kp=>?_;rw [(show jX pos (bG [] X.env)=[] from rfl)];refine aK ?_;obtain⟨o,es,ep,t,ho,hex,hd,O,tf,hld,Zk,M⟩:=S';have hp:ks.Perm (kl.foldl S.oE []):=by
   rw [aU,li,mJ] at hp;exact hp
  obtain⟨dn,dm⟩:=Pf kl [] fL;have Vb:∀ k,k∈ks↔k∈kl:=λk=>(hp.mem_iff.trans (dm k)).trans ⟨λz=>z.elim (λq=>by cases q) id,.inr⟩;have pn:t.plain=true:=Zk λk hk=>by
   obtain⟨y,_,rfl⟩:=klt k ((Vb k).mp hk);intro x hx;rcases List.mem_cons.mp hx with e | hx
   .exact⟨_,e⟩
   .exact⟨_,List.mem_singleton.mp hx⟩
  have XY:t.fits es.size=true:=by unfold SetTable.fits F7;rw [O.sz,O.dm];have:=O.kb;have:=O.sz;simp;lia
  obtain⟨mk,pl,dmm,fg,ld,mv,pln⟩:=t;have e1:ld=!S.Gk X.w:=hld;have e2:pln=true:=pn;subst e1 e2;have W:S.Wk X.w o es ep mk pl dmm fg mv:=⟨hex,hd,XY,O.sz,O.up⟩;obtain⟨Xs,M2,pk2⟩:=M.perm (es':=S.ord X.w s1.heap.objs.size ep es) (S.E4 ..);obtain⟨m,rfl⟩:=SY Xs λk hk=>by
   obtain⟨y,_,e⟩:=klt k ((Vb k).mp (pk2.mem_iff.mp hk));exact⟨y,e⟩
  have Xh:(m.map IP).Nodup:=pk2.nodup_iff.mpr (hp.nodup_iff.mpr dn);have nd:m.Nodup:=by
   rw [qt,cL] at Xh;exact List.nodup_iff_pairwise_ne.mpr (Xh.imp λ{x y} h e=>h (by rw [e]))
  have mm:∀ y,y∈m↔y∈tl:=λy=>by
   rw [<-RX y,<-Vb,<-pk2.mem_iff];exact⟨eU,λh=>by obtain⟨z,hz,e⟩:=List.mem_map.mp h;rw [<-IM e];exact hz⟩
  have kp':∀ b u,s1.heap.get? b=@R->@al=@R:=λb u e=>kp b u (aQ e) e;have I3:=I1.inv.kept (t':=WG) kp';have I4:=I1.mv I3 (.refl I1.ab);have ml:m.length=es.size:=by have:=M2.1;rw [ai,S.oR] at this;exact this
  have at2:∀ (i:Nat) (e:Int×Value) (y:T2),(S.ord X.w s1.heap.objs.size ep es)[i]?=some e->m[i]?=some y->∃ b,e.2=@X/\cP X.K H1 (@X) (Enc.enc y):=λi e y he hy=>by
   obtain⟨k,b,q1,q2,q3,_,_,q5⟩:=M2.2 i e he;have ek:k=IP y:=by
    rw [bP,hy] at q1;exact(bA q1).symm
   subst ek;refine⟨b,q2,?_⟩;obtain⟨j,hj,ej⟩:=eV q5;have hj:j < bu.length:=hj;have hj1:bu[j]?=some (@X):=by rw [aB hj];exact congrArg some ej
   have hj2:j < kl.length:=@d
   have hdj:(kl.map tk)[j]?=some (tk (kl.getD j [])):=by rw [bP,bf,aB hj2];rfl
   obtain⟨vv,h1,h2⟩:=rs.get hdj;obtain⟨uu,h3,h4⟩:=rv.get h1;rw [hj1] at h3;cases h3;obtain⟨c,rfl,hb⟩:=vj h2;cases h4;have i1:=S.Jy (mM I1.inv.du hb) λo e=>kp' _ o e;rw [S.Hv i1 q3] at h2;exact h2
  refine nV (zA hc hu I4.inv I4.ab (S.TX W) ho (vs:=(S.ord X.w s1.heap.objs.size ep es).toList.map λe=>vOf e.2) (zs:=m.map Enc.enc) (by rw [ai,bR,S.oR]) (λi u hi hP=>?_) (I0 _ _ ?_ λi v z hv Wg=>?_) (b6.Be T2) (λz Wg=>?_) @o ?_ ?_) (λr s' ⟨v,H2,d,G2,I2,m2,r2,Bf,q2⟩=>⟨v,H2,d,G2,I2,m1.trans m2,r2,Bf,q2⟩) λ_ _ z=>z
  .obtain⟨e,he,rfl⟩:=hP;have Wm:i < m.length:=by rw [ai,bR,S.oR] at hi;lia
   obtain⟨b,e1,_⟩:=at2 i e m[i] he (aB Wm);have:(S.ord X.w s1.heap.objs.size ep es).toList[i]'(by rw [ai] at hi;exact hi)=e:=by
    rw [<-cj] at he;exact(List.getElem?_eq_some_iff.mp he).2
   rw [bN,this,e1];rfl
  .rw [ai,ai,bR,S.oR,ml]
  .rw [bP] at hv Wg;obtain⟨e,he,rfl⟩:=Option.map_eq_some_iff.mp hv;obtain⟨y,hy,rfl⟩:=Option.map_eq_some_iff.mp Wg;rw [cj] at he;obtain⟨b,e1,e2⟩:=at2 i e y he hy;rw [e1];exact e2
  .obtain⟨y,_,rfl⟩:=List.mem_map.mp Wg;exact b6.Lm y
  .rw [ai];exact A7 (lx nd λy hy=>(mm y).mp hy) hlen
  .rw [BR];exact q m nd mm
 .exact q1.elim
end
end K2
end
section
namespace K2
open PySem PySem.Spec PyProof.Rows L2
section
variable {X:Cx}
theorem AE (hc:@a5) (hu:@bq):km X (.builtin "sorted") gx:=by
 intro pins s σ H G xs ds us Q I ab rx rd q;unfold gx at q;split at q
 .rename_i bo;obtain⟨ns,hk,Yc,q⟩:=q;obtain⟨w1,rfl,C1⟩:=rd.one;obtain⟨u,rfl,ru⟩:=rx.one;have hk1:Ju bo=true:=by
   unfold Ju;have:bo.all (λp=>fw p.1)=(bo.map @t).all fw:=by rw [wW];rfl
   rw [this,hk,wW,iS];intro i _;rfl
  obtain⟨a,ob,u0,kv,vs,ep,rfl,hu0,rs,hm,rel,hD⟩:=Ug I C1 hk1;cases ru;obtain⟨o,es,ho,ex,dd,hko,hp,nd⟩:=hD _ (I.du a _ hu0).1;have l1:es.size=vs.length:=by simpa using hp.length
  have l2:kv.length=vs.length:=sC rel;have ek:bo.map @t=kv.map λp=>fA p.1:=rs.keys;have rsk:bp X.K H (kv.map λp=>kV p.1) (@bj):=by
   rw [<-hk,ek];have:∀ (l:List (Key×V)),bp X.K H (l.map λp=>kV p.1) (l.map λp=>fA p.1):=by
    intro l;induction l with
    | nil=>exact .nil
    | cons p l ih=>exact .cons (M8 p.1) ih
   exact this kv
  refine zA hc hu I ab (MR hm ex dd) ho (vs:=kv.map λp=>kV p.1) (zs:=@bj) (@az) (λi u hi hP=>?_) rsk .int (λz hz=>?_) @o (by rw [ai];exact Yc) ?_
  .obtain⟨Wm,rfl⟩:=hP;have i2:i < vs.length:=@d
   have i3:i < kv.length:=@d
   have g1:=(hp.get? (e:=es[i]) (k:=vs[i].1) (v:=vs[i].2) (by rw [aB (by simpa using Wm)];simp) (by rw [aB i2])).1;have e2:kv[i].1=vs[i].1:=(KH rel i i3 i2).1;rw [bN,e2];exact Oj g1
  .obtain⟨i,_,rfl⟩:=List.mem_map.mp hz;rfl
  .have:qy (@bj)=(AZ ns).map Enc.enc:=BR ns;rw [this];exact q
 .exact q.elim
end
section
variable {prog:bI} {w:World} {A:c7} {E:@H}
theorem wy{x1}(hh:A.handled=none)(ht:s.heap.IsList t items)
  (hn:(jy elts env).length=items.size) (Xz:(jy elts env).findIdx? @t=none)
  (h:∀ h',Heap.ExtBut s.heap.objs.size s.heap h'->wpAny @L A (assignInOrder ((jy elts env).map (·.2)) items.toList) Q E @aZ) :
  wpAny @L A (zr (.Tuple elts x1 pos) env (.ref t)) Q E s:=by
 rw [assign_Tuple];refine ay (Es ?_);unfold unpack;rw [hn,Xz];exact ay (fe (PySem.W.kun_itemsOf hh ht h))
end
section
variable {X:Cx} {es:@aN} {pos:Pos}
theorem Rp(hc:@a5)(h:F3 X es t)(hgl:∀ E ds τ G Q,t E ds τ G Q->ds.length=n)
  (hn:autoParam ((jy es X.env).length=n) Ar._auto_1) (Bl:autoParam ((jy es X.env).findIdx? @t=none) Ar._auto_1):zi X (.Tuple es k pos) (Lq t):=by
 intro E pins s σ H τ G w d u Q hE I r rd hw;unfold Lq at hw;have V8:∀ (l:Addr) (ys:@A) (zs:@f),w=.ref l->tp X.K H l ys->bp X.K H ys zs->t E zs τ G Q->wpAny @s X.A (zr (.Tuple es k pos) X.env u) (λ_ s'=>∃ jD H' mz G',I2 X pins jD H' mz G' s'/\@bo/\Q mz G') X.xe s:=λl ys zs e hq rs hw=>by
  subst e;cases r;obtain⟨bu,rv,pl,hz⟩:=I.inv.list hq;refine wy (I.inv.ok.hd hc) pl.isList (by rw [hn,aU,<-rv.length,rs.length];exact(hgl _ _ _ _ _ hw).symm) Bl λh' hx=>?_;have I1:Inv X pins σ H @aZ:=I.inv.kept (t':=s.toks) λb o e=>hx b o (bx (aQ e)) e;exact h E pins _ σ H τ G _ _ _ Q hE ⟨I1,I.st,I.ab⟩ (by simpa using rv) rs hw
 cases rd with
 | eA hq rs=>exact V8 _ _ _ rfl hq.sq rs hw
 | ref l =>
  unfold oU at hw;dsimp only at hw;cases hg:G l with
  | none=>rw [hg] at hw;exact hw.elim
  | some g =>
   rw [hg] at hw;cases g with
   | lst ds =>
    obtain⟨vs,hv,rs⟩:=I.ab.lst hg;exact V8 _ _ _ rfl (.of hv) rs hw
   | ins _ _=>exact hw.elim
   | Gj _=>exact hw.elim
   | kg bo=>exact hw.elim
 | _=>exact bK hw
end
def Sy(K:aC)(f c:Str):Prop:=∃ C,pC K bJ c=some (some @ai)/\Tp K C/\AQ K C f
theorem GV{K:aC}:∀ {fs:List (Str×D)} {fv:List (Str×V)},fv.map @t=fs.map @t->bp K H (fv.map (·.2)) (fs.map (·.2))->fs.lookup f=some d->∃ v,fv.lookup f=@S/\cP K H v d:=by
 intro fs;induction fs with
 | nil=>intro fv _ _ h;cases h
 | cons p fs ih =>
  intro fv hn r h;cases fv with
  | nil=>cases hn
  | cons q fv =>
   rw [az,az] at hn;injection hn with h1 h2
   cases r with
   | cons r1 r2 =>
    obtain⟨pk,pd⟩:=p;obtain⟨qk,qv⟩:=q;have h1:qk=pk:=h1;subst h1;rw [kq] at h ⊢;cases hb:f == qk with
    | true =>
     rw [hb] at h;cases h;exact⟨qv,rfl,r1⟩
    | false =>
     rw [hb] at h;exact ih h2 r2 h
section
variable {X:Cx} {e:Expr} {te:gG} {f:Str} {al:@D} {pos:Pos}
theorem NB(cl:∀ c∈al,Sy X.K f c)(he:eQ X e te)(hb:autoParam (w5 e f X.env (eval e X.env)=eval e X.env) Ar._auto_1):eQ X (.Attribute e f pos) (gr al f te):=by
 ext e;refine Sl hb (lA he hE I h λx H1 d G1 u s1 I1 m1 r1 jU q1=>?_);obtain⟨a,c,fs,d',rfl,hg,hc,hl,q⟩:=q1;cases jU;cases r1;obtain⟨C,dx,fv,hH,Dt,hn,rs⟩:=I1.ab a _ hg;obtain⟨C',HB,vW,hna⟩:=cl c hc;rw [Dt] at HB;cases HB;obtain⟨v,hv,rv⟩:=GV hn rs hl;exact HF I1.inv hH vW hna hv λu' s2 I2 ru=>⟨v,H1,d',G1,I2,m1,ru,rv,q⟩
end
theorem Ks:∀ {fs:List (Str×D)} {fv:List (Str×V)},fv.map @t=fs.map @t->(nC f v fv).map @t=(putD f d fs).map @t:=by
 intro fs;induction fs with
 | nil =>
  intro fv h;have:fv=[]:=@bE
  subst this;rfl
 | cons p fs ih =>
  intro fv h;cases fv with
  | nil=>cases h
  | cons q fv =>
   obtain⟨pk,pd⟩:=p;obtain⟨qk,qv⟩:=q;rw [az,az] at h;injection h with h1 h2
   have h1:qk=pk:=h1;subst h1;unfold nC putD;split
   .rw [az,az,h2]
   .rw [az,az,ih h2]
theorem Ni{K:aC}(rv:cP K H v d):∀ {fs:List (Str×D)} {fv:List (Str×V)},fv.map @t=fs.map @t->bp K H (fv.map (·.2)) (fs.map (·.2))->bp K H ((nC f v fv).map (·.2)) ((putD f d fs).map (·.2)):=by
 intro fs;induction fs with
 | nil =>
  intro fv h _;have:fv=[]:=@bE
  subst this;exact .cons rv .nil
 | cons p fs ih =>
  intro fv h r;cases fv with
  | nil=>cases h
  | cons q fv =>
   obtain⟨pk,pd⟩:=p;obtain⟨qk,qv⟩:=q;rw [az,az] at h;injection h with h1 h2
   have h1:qk=pk:=h1;subst h1;cases r with
   | cons r1 r2 =>
    unfold nC putD;split
    .exact .cons rv r2
    .exact .cons r1 (ih h2 r2)
theorem Kp.aao{H:Hp}{p:Addr}{C dx:Addr}{fv:List (Str×V)}{o:HO}(hp:H p=some (.ins C dx fv)):Kp H (upd H p o) :=
 ⟨λa xs e=>by rw [bY (by ext c;rw [hp] at e;cases e)];exact e,λa ob u e=>by rw [bY (by ext c;rw [hp] at e;cases e)];exact e⟩
section
variable {X:Cx} {o value:Expr} {to tv:gG} {f:Str} {al:@D} {pos pos':Pos}
theorem Nl(cl:∀ c∈al,Sy X.K f c)(ho:eQ X o to)(hv:eQ X value tv)(hs:autoParam (qU value (some (.Attribute o f pos')) pos.line X.env=pure false) Ar._auto_1):xN X (.Assign [.Attribute o f pos'] value pos) (ja al f to tv):=by
 intro E pins s σ H τ G D hE I h;refine plainObj_wpAny_Assign_Attribute (lA hv hE I h λy H1 d G1 u s1 I1 m1 r1 jU q1=>lA ho hE I1 q1 λx H2 d2 G2 ov s2 lL m2 r2 Bf q2=>?_) hs;obtain⟨a,c,fs,rfl,hg,hc,hl,q⟩:=q2;cases Bf;cases r2;obtain⟨C,dx,fv,hH,Dt,hn,rs⟩:=lL.ab a _ hg;obtain⟨C',HB,vW,hna⟩:=cl c hc;rw [Dt] at HB;cases HB;have hlen:fv.length=fs.length:=by have:=congrArg bS hn;simpa using this
 have aai:=jU.mono (m2.kp I1.ab);refine GU lL.inv hH vW hna @c r1 λs3 I3=>?_;have k:Kp H2 (upd H2 a (.ins C dx (nC f y fv))):=.aao hH;have m3:Mv X.K H2 G2 (upd H2 a (.ins C dx (nC f y fv))) (dB G2 a (.ins c (putD f d fs))):=.put lL.ab hg k ⟨C,dx,nC f y fv,dv,Dt,Ks hn,(Ni aai hn rs).mono k⟩;exact⟨σ,_,τ,_,lL.mv I3 m3,(m1.trans m2).trans m3,q⟩
end
section
variable {X:Cx} {k:Nat} {C f:Addr} {fd:dH} {ps:@D} {sp:gH} {x:Str} {p pos:Pos} {e:Expr} {es:@aN} {t:zh}
theorem Ny(M:Mk X.K C f)(Dt:pC X.K bJ x=some (some @ai))(F:qP X.prog X.w X.K X.mg X.base yw k f fd ps (oe X.K sp))(hr:jl (k+1) X.A)(hg:Gl X x)(hm:X.mg x=some @ai)(hb:Binds X.K fd ps [])
  (ha:yq X (e :: es) t) (Ft:autoParam ((x == ("__debug__" : Str))=false) Ad._auto_1) (he:autoParam @bF Ar._auto_1) (mP:autoParam ((jX pos (bG es X.env)).any @t=false) Ar._auto_1) :
  eQ X (.Call (.Name x p) (e :: es) [] pos) (nR x sp t):=by
 ext e;refine ij (Jr I.inv hg hm ?_ Ft);refine yy (h₀:=X.base) I.inv.ok.mod.RX M.kp (zx ha pos hE I h λvs H1 ds G1 us s1 I1 m1 r rd q=>⟨I1.inv.Cb,?_⟩) he mP;refine gN (MX M F hr hb .nil NC I1.inv r (Q:=A2 X.K H1 G1 Q) λy dx hy hdx mQ=>?_) λ_ _ z=>(qQ.of z).trans m1;rw [bq];have m2:Mv X.K H1 G1 (upd H1 dx (.own y)) G1:=.Qc I1.ab hdx;have hy2:(upd H1 dx (.own y)) y=none:=by rw [bY mQ.symm];exact hy
 have m3:Mv X.K (upd H1 dx (.own y)) G1 (upd (upd H1 dx (.own y)) y (.ins C dx [])) (dB G1 y (.ins x [])):=.new m2.ab hy2 ⟨C,dx,[],dv,Dt,rfl,.nil⟩;have m:=m2.trans m3;refine⟨.ref y :: ds,dB G1 y (.ins x []),λv G2=>v=.dj/\Q (.ref y) G2,.cons (.ref y) (rd.mono (m.kp I1.ab)),m.ab,q y (I1.ab.free hy),λd G' v H' q' m' SJ=>?_⟩;obtain⟨rfl,q'⟩:=q';cases SJ;exact⟨rfl,.ref y,G',m.trans m',.ref y,q'⟩
end
theorem K1:∀ (fs:List (Str×D)) (fv:List (Str×V)),fv.map @t=fs.map @t->fs.lookup m=none->fv.lookup m=none:=by
 intro fs;induction fs with
 | nil =>
  intro fv h _;have:fv=[]:=@bE
  subst this;rfl
 | cons p fs ih =>
  intro fv h hl;cases fv with
  | nil=>cases h
  | cons q fv =>
   obtain⟨pk,pd⟩:=p;obtain⟨qk,qv⟩:=q;rw [az,az] at h;injection h with h1 h2
   have h1:qk=pk:=h1;subst h1;rw [kq] at hl ⊢;cases hb:m == qk with
   | true=>rw [hb] at hl;cases hl
   | false=>rw [hb] at hl;exact ih fv h2 hl
section
variable {X:Cx} {k:Nat} {C f:Addr} {fd:dH} {ps:@D} {sp:gH} {cn m:Str} {apos pos:Pos} {o e:Expr} {es:@aN} {to:gG} {t:zh}
structure JW(K:aC)(cn m:Str)(C f:Addr):Prop where
 ns:pC K bJ cn=some (some @ai)
 cl:Tp K C
 me:Meth K C m f
end
def LL(X:Cx)(m:Str)(p:Str×gH):Prop:=∃ (C f:Addr) (fd:dH) (ps:@D) (k:Nat),JW X.K p.1 m C f/\qP X.prog X.w X.K X.mg X.base yw k f fd ps (oe X.K p.2)/\jl k X.A/\Binds X.K fd ps []
theorem NT:∀ p∈([]:List (Str×gH)),LL X m p:=λp h=>@aH
theorem KS(M:JW X.K c m C f)(F:qP X.prog X.w X.K X.mg X.base yw k f fd ps (oe X.K sp))(hr:jl k X.A)(hb:Binds X.K fd ps [])(t:∀ p∈ms,LL X m p):∀ p∈(c,sp) :: ms,LL X m p:=λp h=>by
 rcases List.mem_cons.mp h with rfl | h
 .exact⟨C,f,fd,ps,k,M,F,hr,hb⟩
 .exact t p h
section
variable {X:Cx} {ms:List (Str×gH)} {m:Str} {apos pos:Pos} {o e:Expr} {es:@aN} {to:gG} {t:zh}
theorem KC(Ms:∀ p∈ms,LL X m p)(ho:eQ X o to)(ha:yq X (e :: es) t)
  (Bl:autoParam @bF Ar._auto_1) (mP:autoParam ((jX pos (bG es X.env)).any @t=false) Ar._auto_1)
  (ht:autoParam (eval (.Call (.Attribute o m apos) (e :: es) [] pos) X.env=(do
   let ov ← eval o X.env
   standAt apos.atName
   let (f,first) ← w4 [ov] (getMethod ov m pl)
   callWith pos f first (jX pos (bG (e :: es) X.env)) (backToKw pos (keywordEach [] X.env)))) Ar._auto_1) :
  eQ X (.Call (.Attribute o m apos) (e :: es) [] pos) (mV ms m to t):=by
 ext e;refine PySem.W.methodCall_KW (pl:=pl) (lA ho hE I h λx H1 d G1 u s1 I1 m1 r1 jU q1=>?_) ht;obtain⟨a,c,fs,sp,rfl,hg,hms,hl,q⟩:=q1;obtain⟨C,f,fd,ps,k,M,F,hr,hb⟩:=Ms _ hms;cases jU;cases r1;obtain⟨C',dx,fv,hH,Dt,hn,rs⟩:=I1.ab a _ hg;have HB:=M.ns.symm.trans Dt;cases HB;refine HE I1.inv hH M.cl M.me (K1 fs fv hn hl) ?_;refine yy (first:=[.ref a]) (h₀:=X.base) I.inv.ok.mod.RX M.me.kp (zx ha pos hE I1 q λvs H2 ds G2 us s2 lL m2 r rd q2=>⟨lL.inv.Cb,?_⟩) Bl mP;refine gN (MZ (us:=.ref a :: us) (vs:=.ref a :: vs) F hr hb .nil NC lL.inv (.cons rfl r) (Q:=A2 X.K H2 G2 Q) ?_) λ_ _ z=>(qQ.of z).trans (m1.trans m2);rw [bq];exact⟨.ref a :: ds,G2,Q,.cons @Q rd,lL.ab,q2,λd G' v H' q' m' SJ=>⟨d,G',m',SJ,q'⟩⟩
end
end K2
end
section
namespace K2
open PySem PySem.W PySem.Spec PyProof.Rows L2
structure ZS(K:Frag)(cn:Str)(C:Addr):Prop where
 ns:nsIn K bJ cn=some (some @ai)
 cl:Tp K C
theorem VM {K:Frag}   (a:autoParam (nsIn K bJ cn=some (some @ai)) Aq._auto_1) (pg:autoParam (plainGet K C Str.empty=true) Aq._auto_1) (hd:autoParam (hasDictIn K C=true) Aq._auto_1) (po:autoParam (plainOver K C=true) Aq._auto_1) (sa:autoParam (findIn K @ai "__setattr__" = some (some (.builtin "object.__setattr__"))) Aq._auto_1):ZS K cn C:=⟨a,⟨pg,hd,po,sa⟩⟩
structure V4(K:Frag)(C:Addr)(m q:Str)(st:Stmt)(f:Addr)(fd:dH):Prop where
 at_:findIn K @ai m=some (some (.ref f))
 fn:isFn K (.ref f)=true
 F:L2.Qh K m q st f fd
theorem UZ{K:Frag}{st:Stmt}{kV:Value}(a:autoParam (findIn K @ai m=some (some (.ref f))) Aq._auto_1)(fn:autoParam (isFn K (.ref f)=true) Aq._auto_1)(l:autoParam (K.lookup f=some ⟨oc,od,.func (fnOf m q (L2.gE st) (L2.eO st) (L2.b9 st) .none kV doc pm an i7 ct),Hd⟩) Aq._auto_1)
  (c:autoParam (codeIn K i7 q=true) Aq._auto_1) (k:autoParam (keepIn K (.ref f)=true) Aq._auto_1):V4 K C m q st f (fnOf m q (L2.gE st) (L2.eO st) (L2.b9 st) .none kV doc pm an i7 ct):=⟨a,fn,L2.O0 l c k⟩
theorem V4.me{K:Frag}{st:Stmt}(z:V4 K C m q st f fd)(c:ZS K cn C):JW K cn m C f:=⟨c.ns,c.cl,⟨z.at_,z.fn,z.F.kp⟩⟩
theorem V4.maker {K:Frag}   {st:Stmt}   (z:V4 K C "__init__" q st f fd) (mk:makesIn K C=true) (kp:keepIn K @ai=true):Mk K C f:=⟨mk,z.at_,z.fn,kp⟩
structure acm(P:bI)(w:World)(K:Frag)(mg:@aQ)(base:Heap)(CX:L2.Ip)(k:Nat)(f:Addr)(fd:dH)(C:Addr)(cn m:Str)(ps:@D)(sp:L2.Sp):Prop where
 ok:L2.qP P w K mg base CX k f fd ps sp
 bi:L2.Binds K fd ps []
 me:JW K cn m C f
structure acn(P:bI)(w:World)(K:Frag)(mg:@aQ)(base:Heap)(k:Nat)(f:Addr)(fd:dH)(C:Addr)(cn:Str)(ps:@D)(sp:L2.Sp):Prop where
 ok:L2.qP P w K mg base yw k f fd ps sp
 bi:L2.Binds K fd ps []
 mkr:Mk K C f
 ns:nsIn K bJ cn=some (some @ai)
 mg:mg cn=some @ai
end K2
end
section
namespace K2
open PySem PySem.W PySem.Spec PyProof.Rows PySem.Calls
structure At(K:Frag)(x:Str)(st:Stmt)(f:Addr)(fd:dH):Prop where
 a:nsIn K bJ x=some (some (.ref f))
 F:L2.Qh K x x st f fd
theorem Tg{K:Frag}{st:Stmt}(a:autoParam (nsIn K bJ x=some (some (.ref f))) Aq._auto_1)(l:autoParam (K.lookup f=some ⟨oc,od,.func (fnOf x x (L2.gE st) (L2.eO st) (L2.b9 st) .none kV doc pm an i7 ct),Hd⟩) Aq._auto_1)
  (c:autoParam (codeIn K i7 x=true) Aq._auto_1) (k:autoParam (keepIn K (.ref f)=true) Aq._auto_1):At K x st f (fnOf x x (L2.gE st) (L2.eO st) (L2.b9 st) .none kV doc pm an i7 ct):=⟨a,L2.O0 l c k⟩
structure Cal(P:bI)(w:World)(K:Frag)(mg:@aQ)(base:Heap)(CX:L2.Ip)(k:Nat)(f:Addr)(fd:dH)(x:Str)(ps:@D)(sp:L2.Sp):Prop where
 ok:L2.qP P w K mg base CX k f fd ps sp
 mg:mg x=some (.ref f)
 kp:keepIn K (.ref f)=true
 bi:L2.Binds K fd ps []
end K2
end
section
namespace K2
open PySem PySem.W PySem.Spec PyProof.Rows L2
structure JY where
 P:bI
 w:World
 K:Frag
 mg:@aQ
 base:Heap
inductive Ij (V:JY):Prop
 | mk {h:Heap}:V.K.In h->h.Ns bJ V.mg->Ij V
theorem Ij.mg{V:JY}(Y:Ij V)(a:nsIn V.K bJ x=some (@S)):V.mg x=@S:=by obtain⟨X,G⟩:=Y;exact mg_of X G a
theorem Ij.no{V:JY}(Y:Ij V)(a:nsIn V.K bJ x=some none):V.mg x=none:=by obtain⟨X,G⟩:=Y;exact mg_none_of X G a
inductive ClZ (V:JY) (CX:Ip) (k:Nat) (x:Str) (ps:@D) (sp:Sp):Prop
 | mk {f:Addr} {fd:dH}:Cal V.P V.w V.K V.mg V.base CX k f fd x ps sp->ClZ V CX k x ps sp
abbrev lM(V:JY)(k:Nat)(x:Str)(ps:@D)(sp:gH):Prop:=ClZ V yw k x ps (oe V.K sp)
inductive ma (K:Frag) (x:Str) (st:Stmt):Prop
 | mk {f:Addr} {fd:dH}:At K x st f fd->ma K x st
theorem d6{K:Frag}{st:Stmt}{kV:Value}(a:autoParam (nsIn K bJ x=some (some (.ref f))) Aq._auto_1)(l:autoParam (K.lookup f=some ⟨oc,od,.func (fnOf x x (L2.gE st) (L2.eO st) (L2.b9 st) .none kV doc pm an i7 ct),Hd⟩) Aq._auto_1)
  (c:autoParam (codeIn K i7 x=true) Aq._auto_1) (k:autoParam (keepIn K (.ref f)=true) Aq._auto_1):ma K x st:=⟨Tg a l c k⟩
theorem fo3{V:JY}{x:Str}{st:Stmt}{ps:@D}{k:Nat}{sp:gH}{rd:fG}(Nn:@D)(Y:Ij V)(F:ma V.K x st)
  (hr:∀ ds G Q,sp ds G Q @r->rd @r @C (aT Nn.length ds) G)
  (hb:∀ {f:Addr} {i7:Value} {A:c7} {outer:List Env} {s:aF} {H:Hp} {E:XK},jl k (A.deeper (Eu x (b9 st) s.heap.objs.size f i7))->Nn.Nodup->sg (DS yw V.P V.w V.K V.mg V.base Nn x (b9 st) f i7 A outer s H E).UW (eO st) rd)
  (S:autoParam (kj Nn ps (b9 st)) ZV._auto_1)
  (bn:autoParam (∀ (kV doc pm:Value) (an:Option Addr) (i7 ct:Value) (us:@B),us.length=ps.length->LS (fnOf x x (gE st) (eO st) (b9 st) .none kV doc pm an i7 ct) ⟨us,[]⟩=pure (ps.zip us)) Aub._auto_1)
  (len:autoParam (∀ ds G Q E,sp ds G Q E->ds.length=ps.length) Y0._auto_1):lM V (k+1) x ps sp:=by
 obtain⟨z⟩:=F;exact⟨⟨ze z.F S len hr λ_ _ _ _ _ _ r=>hb r S.nd,Y.mg z.a,z.F.kp,z.F.binds bn⟩⟩
def TC(sc:Scope)(x:Str):Bool:=match @bH with
 | some .local=>true
 | some .cell=>true
 | some .free=>true
 | _=>false
def RV(sc:Scope)(x:Str):Bool:=match @bH with
 | some .local=>true
 | some .cell=>true
 | _=>false
theorem TB(h:TC sc x=true):ZM sc x:=by
 unfold TC at h;split at h
 .exact .inl (by assumption)
 .exact .inr (.inl (by assumption))
 .exact .inr (.inr (by assumption))
 .cases h
theorem Ob(h:RV sc x=true):Loc sc x:=by
 unfold RV at h;split at h
 .exact .inl (by assumption)
 .exact .inr (by assumption)
 .cases h
theorem Gh(h:autoParam (X.env.kindOf x=some .globalImplicit) Ac._auto_1):Gl X x:=h
def okN (x:Str):Bool:=!(x == ("__debug__" : Str))&&!(x == ("__classdict__" : Str))
theorem okN.d  (h:okN x=true):(x == ("__debug__" : Str))=false:=by unfold okN at h;simp only [aR,jO] at h;exact h.1
theorem okN.c  (h:okN x=true):(x == ("__classdict__" : Str))=false:=by unfold okN at h;simp only [aR,jO] at h;exact h.2
section
variable {X:Cx} {x:Str} {i:Nat} {pos pos':Pos} {e:Expr} {te:gG} {es:@aN} {t:zh}
theorem pvK(hN:autoParam (X.N[i]?=some x) Ac._auto_1)(hv:autoParam (TC X.env.scope x=true) Ac._auto_1)(hd:autoParam (okN x=true) Ac._auto_1):eQ X (.Name x pos) (ak i):=Rq hN (TB hv) (okN.d hd) (okN.c hd)
theorem pgK(hN:X.N.Nodup)(hi:autoParam (X.N[i]?=some x) Ac._auto_1)(hx:autoParam (RV X.env.scope x=true) Ac._auto_1)(hf:autoParam ((X.fn x||@bQ == @a8)=true) Ac._auto_1):zi X (.Name x pos) (aG i) :=
 Nw hN hi (Ob hx) (by rcases (fS _ _).mp hf with h | h;exact .inl h;exact .inr (eq_of_beq h))
theorem psK(hN:X.N.Nodup)(he:eQ X e te)(hi:autoParam (X.N[i]?=some x) Ac._auto_1)(hx:autoParam (RV X.env.scope x=true) Ac._auto_1)(hs:autoParam (qU e (some (.Name x pos')) pos.line X.env=pure false) Ac._auto_1)(hf:autoParam ((X.fn x||@bQ == @a8)=true) Ac._auto_1) :
  xN X (.Assign [.Name x pos'] e pos) (bh te (aG i)):=Ra hN hi (Ob hx) he hs (by rcases (fS _ _).mp hf with h | h;exact .inl h;exact .inr (eq_of_beq h))
theorem paK(ha:eQ X e te)(hr:yq X es t)(hs:autoParam @bF Ac._auto_1):yq X (e :: es) (ag te t):=oQ ha hr hs
end
def Mg(K:Frag)(l:@D):Prop:=∀ x∈l,nsIn K bJ x=some none
theorem RR{K:Frag}:Mg K []:=λx h=>@aH
theorem NL{K:Frag}(t:Mg K l)(h:autoParam (nsIn K bJ x=some none) Aq._auto_1):Mg K (x :: l):=λy hy=>by
 rcases List.mem_cons.mp hy with rfl | hy
 .exact h
 .exact t y hy
structure NmZ(X:Cx)(N:@D)(sc:Scope):Prop where
 n:X.N=N
 s:X.env.scope=sc
def nmE:Expr->Str
 | .Name x _=>x
 | _=>""
def JO(tg:Expr)(XN:@D)(fr:@aC):@D:=(match tg with
 | .Tuple es _ _=>es.map nmE
 | e=>[nmE e])++fr.map λi=>XN.getD i ""
abbrev VX(X:Cx):JY:=⟨X.prog,X.w,X.K,X.mg,X.base⟩
section
variable {X:Cx} {l XN:@D} {x:Str} {sc scope:Scope} {tg elt iter:Expr} {ifs:@aN} {pos:Pos} {m:Nat} {fr:@aC} {wi:PC} {g:AI} {c:Option yp} {te:gG}
theorem noX(Y:Ij (VX X))(N:Mg X.K l)(h:autoParam (x∈l) Ad._auto_1):X.mg x=none:=Y.no (N x h)
theorem UC(hx:NmZ X XN sc)(hi:FZ X tg iter wi)(hg:(JO tg XN fr).Nodup->∀ C s H fp,zi (dw X (JO tg XN fr) scope C s H fp) tg g)(OI:∀ C s H fp,Ss (dw X (JO tg XN fr) scope C s H fp) ifs c)(he:∀ C s H fp,eQ (dw X (JO tg XN fr) scope C s H fp) elt te)
  (hn:autoParam ((JO tg XN fr).Nodup) Ak._auto_1) (hb:autoParam (tj (JO tg XN fr) scope m fr sc XN=true) Ak._auto_1) (hc:autoParam (@a5) Ac._auto_1) (hs:autoParam (∀ x,gM iter X.env x=pure x) YZ._auto_1):eQ X @bK (dS m fr wi g c te) :=
 Nz (JO tg XN fr) hi (hg hn) OI he hx.s hx.n hb hc hs
theorem Uq(hx:NmZ X XN sc)(hN:X.N.Nodup)(hi:FZ X tg iter wi)(hg:(JO tg XN fr).Nodup->∀ C s H fp,zi (dw X (JO tg XN fr) scope C s H fp) tg g)(OI:∀ C s H fp,Ss (dw X (JO tg XN fr) scope C s H fp) ifs c)(he:∀ C s H fp,eQ (dw X (JO tg XN fr) scope C s H fp) elt te)
  (Xx:autoParam (X.N[i]?=some y) Ac._auto_1) (hy:autoParam (X.env.scope.names.lookup y=@a8) Ac._auto_1) (hn:autoParam ((JO tg XN fr).Nodup) Ak._auto_1) (hb:autoParam (tj (JO tg XN fr) scope m fr sc XN=true) Ak._auto_1) (hc:autoParam (@a5) Ac._auto_1)
  (Xy:autoParam (qU @bK (some (.Name y py)) EM.line X.env=pure true) Ar._auto_1) (hs:autoParam (∀ x,gM iter X.env x=pure x) YZ._auto_1) :
  xN X (.Assign [.Name y py] @bK EM) (bh (dS m fr wi g c te) (aG i)) :=
 Nm (JO tg XN fr) hN Xx hy hi (hg hn) OI he hx.s hx.n hb hc Xy hs
end
section
variable {X:Cx} {e:Expr} {es:@aN} {t:zh} {pos p:Pos} {x:Str} {k n:Nat} {ps:@D} {sp:gH}
theorem aas(c:lM (VX X) k x ps sp)(hr:jl n X.A)(ha:yq X (e :: es) t)(hk:autoParam (Nat.ble k n=true) Ac._auto_1)(hg:autoParam (Gl X x) ZU._auto_1)(Ft:autoParam (okN x=true) Ac._auto_1)(he:autoParam @bF Ac._auto_1)(mP:autoParam ((jX pos (bG es X.env)).any @t=false) Ac._auto_1) :
  eQ X (.Call (.Name x p) (e :: es) [] pos) (aZ sp t):=by
 obtain⟨c⟩:=c;exact NA c.ok (hr.mono (nq hk)) hg c.mg c.kp c.bi ha (okN.d Ft) he mP
end
theorem mem_cons{p:Str->Prop}(t:∀ c,l.contains c=true->p c)(h:p x):∀ c,(x :: l).contains c=true->p c:=Pm h t
section
variable {X:Cx} {x name id T:_root_.String} {l:@D} {y:Str} {a b o e c:Expr} {es:@aN} {ta tb to te:gG} {t:zh} {p pos apos r0 QE:Pos} {r:@f->Gp->DK->Prop} {tg iter:Expr} {body:List Stmt} {wi:PC} {g:AI} {u:fG}
theorem SO (hc:km X (.builtin id) r) (hv:cZ y=some (.builtin id)) (Y:Ij (VX X)) (N:Mg X.K l) (ha:yq X (e :: es) t) (h:autoParam (y∈l) Ad._auto_1) (hg:autoParam (Gl X y) ZU._auto_1) (hn:autoParam (y≠"__name__") Ad._auto_1) (Ft:autoParam (okN y=true) Ac._auto_1)
  (he:autoParam @bF Ac._auto_1) (mP:autoParam ((jX pos (bG es X.env)).any @t=false) Ac._auto_1):eQ X (.Call (.Name y p) (e :: es) [] pos) (fC r t):=KG hc hg (Y.no (N _ h)) hv ha hn (okN.d Ft) he mP
theorem ptK (hc:km X (.type T) r) (hv:cZ y=some (.type T)) (Y:Ij (VX X)) (N:Mg X.K l) (ha:yq X (e :: es) t) (h:autoParam (y∈l) Ad._auto_1) (hg:autoParam (Gl X y) ZU._auto_1) (hn:autoParam (y≠"__name__") Ad._auto_1) (Ft:autoParam (okN y=true) Ac._auto_1)
  (he:autoParam @bF Ac._auto_1) (mP:autoParam ((jX pos (bG es X.env)).any @t=false) Ac._auto_1):eQ X (.Call (.Name y p) (e :: es) [] pos) (fC r t):=G0 hc hg (Y.no (N _ h)) hv ha hn (okN.d Ft) he mP
theorem WX {name:Str}  {r:D->@f->Gp->DK->Prop} (pa:PlainAttrs T) (slot:Slot T name id) (hty:typeOf (.builtin id)=pure (.type "method_descriptor")) (ht:Sq X T ty) (hm:Ig X id r) (ho:eQ X o to) (ha:yq X (e :: es) t)
  (OP:autoParam (w5 o name X.env (eval o X.env)=eval o X.env) Ac._auto_1)
  (Vl:autoParam (((jX r0 (bG (e :: es) X.env)).all (λx=>!x.1)&&(backToKw r0 (keywordEach [] X.env)).all (λx=>x.1.isSome)
   && decide ((e :: es).length+([]:List Keyword).length+(if ([]:List Keyword).isEmpty then 0 else 1) < 30))=true) Ac._auto_1)
  (OG:autoParam ((apos.endLine == r0.line)=true) Ac._auto_1) (hs:autoParam @bF Ac._auto_1) (Hz:autoParam ((jX r0 (bG es X.env)).any @t=false) Ac._auto_1) :
  eQ X (.Call (.Attribute o name apos) (e :: es) [] r0) (kh ty r to t):=UD pa slot hty ht hm ho ha OP Vl OG hs Hz
theorem pfK(hp:PassesOwn @s X.A X.env X.xe)(hi:FZ X tg iter wi)(hg:zi X tg g)(hb:sg X body u)(hc:autoParam (@a5) Ac._auto_1)(hs:autoParam (∀ x,gM iter X.env x=pure x) YZ._auto_1):xN X (.For tg iter body [] pos) (cS wi g u):=Rf hp hc hi hg hb hs
theorem pxK(he:eQ X e te)(hs:autoParam (qU e none pos.line X.env=pure false) Ac._auto_1):xN X (.Expr e pos) (cp te):=Np he hs
theorem pqK(he:eQ X e te)(hg:zi X tg g)(hs:autoParam (swapsWithSole [tg] e pos.line X.env=pure false) Ac._auto_1)(hw:autoParam (swappedStores [tg] e X.env=pure none) Ac._auto_1)(h1:autoParam ((jy [tg] X.env).map (·.2)=[zr tg X.env]) Ac._auto_1):xN X (.Assign [tg] e pos) (bh te g):=Rg he hg hs hw h1
theorem pzK(ha:eQ X a ta)(he:autoParam (∀ whole,isTrue a X.env whole=(do let v ← whole;standAt a.pos;w4 [v] (truthy v))) YZ._auto_1):FY X a (cW ta):=Kt ha he
theorem pyK(hu:@bq)(ho:eQ X o to)(hi:eQ X i ti)
  (ha:autoParam (∀ v,zr (.Subscript o i pos) X.env v=(do
   let ov ← w4 [v] (eval o X.env)
   let iv ← w4 [v,ov] (eval i X.env)
   standAt pos
   w4 [v,ov,iv] (setItem ov iv v)
   release [v,ov,iv] [])) YZ._auto_1):zi X (.Subscript o i pos) (xw to ti):=Rn hu ho hi ha
end
def PS:@D->(@B->Prop)->Prop
 | [],P=>P []
 | _ :: r,P=>∀ a,PS r λus=>P (a :: us)
theorem zg:∀ (ps:@D) {P:@B->Prop},PS ps P->∀ us:@B,us.length=ps.length->P us
 | [],_,h,[],_=>h
 | _ :: ps,_,h,a :: us,e=>zg ps (h a) us (Nat.succ.inj e)
abbrev VH(V:JY)(Nn:@D)(x:Str)(sc:Scope)(f:Addr)(i7:Value)(A:c7)(outer:List Env)(s:aF)(H:Hp)(E:XK):Cx:=(DS yw V.P V.w V.K V.mg V.base Nn x sc f i7 A outer s H E).UW
abbrev ZT(V:JY)(l:@D)(k:Nat)(Nn:@D)(x:Str)(sc:Scope)(b:List Stmt)(rd:fG):Prop:=∀ {f:Addr} {i7:Value} {A:c7} {outer:List Env} {s:aF} {H:Hp} {E:XK},jl k (VH V Nn x sc f i7 A outer s H E).A->(VH V Nn x sc f i7 A outer s H E).A.units+64 < cLine->(VH V Nn x sc f i7 A outer s H E).A.units < cLine->(VH V Nn x sc f i7 A outer s H E).N.Nodup->NmZ (VH V Nn x sc f i7 A outer s H E) Nn sc->Ij (VX (VH V Nn x sc f i7 A outer s H E))->Mg V.K l->sg (VH V Nn x sc f i7 A outer s H E) b rd
section
variable {V:JY} {x:Str} {st:Stmt} {ps l:@D} {k:Nat} {sp:gH} {rd:fG}
theorem mU(Nn:@D)(Y:Ij V)(N:Mg V.K l)(F:ma V.K x st)(hr:∀ ds G Q,sp ds G Q @r->rd @r @C (aT Nn.length ds) G)(hb:ZT V l k Nn x (b9 st) (eO st) rd)
  (S:autoParam (kj Nn ps (b9 st)) ZV._auto_1)
  (bn:autoParam (∀ (kV doc pm:Value) (an:Option Addr) (i7 ct:Value),PS ps λus=>LS (fnOf x x (gE st) (eO st) (b9 st) .none kV doc pm an i7 ct) ⟨us,[]⟩=pure (ps.zip us)) Auf._auto_1)
  (len:autoParam (∀ ds G Q E,sp ds G Q E->ds.length=ps.length) Y0._auto_1):lM V (k+1) x ps sp :=
 fo3 Nn Y F hr (λ{f i7 A outer s H E} r nd=>hb r r.units r.CO nd @aP Y N) S (λa b c d e f us hl=>zg ps (bn a b c d e f) us hl) len
theorem ab5{f:Addr}{fd:dH}{Nn:@D}(S:kj Nn ps (b9 st))(Y:Ij V)(N:Mg V.K l)(F:Qh V.K x x st f fd)(hr:∀ ds G Q,sp ds G Q @r->rd @r @C (aT Nn.length ds) G)(hb:ZT V l k Nn x (b9 st) (eO st) rd)
  (len:autoParam (∀ ds G Q E,sp ds G Q E->ds.length=ps.length) Y0._auto_1):qP V.P V.w V.K V.mg V.base yw (k+1) f fd ps (oe V.K sp) :=
 ze F S len hr λi7 A outer s H E r=>hb r r.units r.CO S.nd @aP Y N
end
def Ts(K:Frag)(cn:Str):Prop:=∃ C:Addr,ZS K cn C
theorem gv{K:Frag}(h:autoParam (ZS K cn C) Aug._auto_1):Ts K cn:=⟨C,h⟩
inductive Ih (K:Frag) (cn m q:Str) (st:Stmt):Prop
 | mk {C f:Addr} {fd:dH}:nsIn K bJ cn=some (some @ai)->V4 K C m q st f fd->Ih K cn m q st
theorem mI{K:Frag}{st:Stmt}(h:autoParam (nsIn K bJ cn=some (some @ai)) Aq._auto_1)(z:autoParam (V4 K C m q st f fd) Auh._auto_1):Ih K cn m q st:=⟨h,z⟩
def V1(K:Frag)(cn:Str):Prop:=∃ C:Addr,nsIn K bJ cn=some (some @ai)/\makesIn K C=true/\keepIn K @ai=true
theorem zS{K:Frag}(h:autoParam (nsIn K bJ cn=some (some @ai)) Aq._auto_1)(h1:autoParam (makesIn K C=true) Aq._auto_1)(h2:autoParam (keepIn K @ai=true) Aq._auto_1):V1 K cn:=⟨C,h,h1,h2⟩
def To(K:Frag)(l:List (Str×Str)):Prop:=∀ p∈l,Sy K p.2 p.1
theorem Sd{K:Frag}:To K []:=λx h=>@aH
theorem fF{K:Frag}(t:To K l)(a:Ts K c)(h:autoParam (nsIn K bJ c=some (some @ai)) Aq._auto_1)(n:autoParam (findIn K @ai f=some none) Aq._auto_1):To K ((c,f) :: l):=λy hy=>by
 rcases List.mem_cons.mp hy with rfl | hy
 .obtain⟨D,a⟩:=a;have e:=a.ns.symm.trans h;cases e;exact⟨_,h,a.cl,n⟩
 .exact t y hy
inductive Sw (V:JY) (CX:Ip) (k:Nat) (cn m:Str) (ps:@D) (sp:Sp):Prop
 | mk {f:Addr} {fd:dH} {C:Addr}:acm V.P V.w V.K V.mg V.base CX k f fd C cn m ps sp->Sw V CX k cn m ps sp
inductive Tq (V:JY) (k:Nat) (cn:Str) (ps:@D) (sp:gH):Prop
 | mk {f:Addr} {fd:dH} {C:Addr}:acn V.P V.w V.K V.mg V.base k f fd C cn ps (oe V.K sp)->Tq V k cn ps sp
section
variable {X:Cx} {e o a value:Expr} {es:@aN} {te to ta tv:gG} {f x m cn y:Str} {al all sub l ps:@D} {fl:List (Str×Str)} {pos p pos' py:Pos} {t:zh} {k n:Nat} {sp:gH} {ms:List (Str×gH)}
theorem To.get(z:To X.K fl)(h:(al.all λc=>decide ((c,f)∈fl))=true):∀ c∈al,Sy X.K f c:=λc hc=>z (c,f) (of_decide_eq_true (List.all_eq_true.mp h c hc))
theorem RC(z:To X.K fl)(he:eQ X e te)(h:autoParam ((al.all λc=>decide ((c,f)∈fl))=true) Ac._auto_1)(hb:autoParam (w5 e f X.env (eval e X.env)=eval e X.env) Ac._auto_1):eQ X (.Attribute e f pos) (gr al f te):=NB (z.get h) he hb
theorem Q9(z:To X.K fl)(ho:eQ X o to)(hv:eQ X value tv)(h:autoParam ((al.all λc=>decide ((c,f)∈fl))=true) Ac._auto_1)(hs:autoParam (qU value (some (.Attribute o f pos')) pos.line X.env=pure false) Ac._auto_1):xN X (.Assign [.Attribute o f pos'] value pos) (ja al f to tv):=Nl (z.get h) ho hv hs
theorem Rx(c:Tq (VX X) k x ps sp)(hr:jl n X.A)(ha:yq X (e :: es) t)(hk:autoParam (Nat.ble (k+1) n=true) Ac._auto_1)(hg:autoParam (Gl X x) ZU._auto_1)(Ft:autoParam (okN x=true) Ac._auto_1)(he:autoParam @bF Ac._auto_1)(mP:autoParam ((jX pos (bG es X.env)).any @t=false) Ac._auto_1) :
  eQ X (.Call (.Name x p) (e :: es) [] pos) (nR x sp t):=by
 obtain⟨c⟩:=c;exact Ny c.mkr c.ns c.ok (hr.mono (nq hk)) hg c.mg c.bi ha (okN.d Ft) he mP
theorem Xj(c:Sw (VX X) yw k cn m ps (oe X.K sp))(hr:jl n X.A)(t:∀ p∈ms,LL X m p)(hk:autoParam (Nat.ble k n=true) Ac._auto_1):∀ p∈(cn,sp) :: ms,LL X m p:=by
 obtain⟨c⟩:=c;exact KS c.me c.ok (hr.mono (nq hk)) c.bi t
end
section
variable {V:JY} {cn m q:Str} {st:Stmt} {ps l:@D} {k:Nat} {sp:gH} {rd:fG}
theorem Lr(Nn:@D)(Y:Ij V)(N:Mg V.K l)(c:Ts V.K cn)(F:Ih V.K cn m q st)(hr:∀ ds G Q,sp ds G Q @r->rd @r @C (aT Nn.length ds) G)(hb:ZT V l k Nn q (b9 st) (eO st) rd)
  (S:autoParam (kj Nn ps (b9 st)) ZV._auto_1)
  (bn:autoParam (∀ (kV doc pm:Value) (an:Option Addr) (i7 ct:Value),PS ps λus=>LS (fnOf m q (gE st) (eO st) (b9 st) .none kV doc pm an i7 ct) ⟨us,[]⟩=pure (ps.zip us)) Auf._auto_1)
  (len:autoParam (∀ ds G Q E,sp ds G Q E->ds.length=ps.length) Y0._auto_1):Sw V yw (k+1) cn m ps (oe V.K sp):=by
 obtain⟨C,c⟩:=c;obtain⟨h,z⟩:=F;have e:=c.ns.symm.trans h;cases e;exact⟨⟨ze z.F S len hr λi7 A outer s H E r=>hb r r.units r.CO S.nd @aP Y N,z.F.binds λa b c d e f us hl=>zg ps (bn a b c d e f) us hl,z.me c⟩⟩
theorem O3 (Nn:@D) (Y:Ij V) (N:Mg V.K l) (c:V1 V.K cn) (F:Ih V.K cn "__init__" q st) (hr:∀ ds G Q,sp ds G Q @r->rd @r @C (aT Nn.length ds) G) (hb:ZT V l k Nn q (b9 st) (eO st) rd)
  (S:autoParam (kj Nn ps (b9 st)) ZV._auto_1)
  (bn:autoParam (∀ (kV doc pm:Value) (an:Option Addr) (i7 ct:Value),PS ps λus=>LS (fnOf "__init__" q (gE st) (eO st) (b9 st) .none kV doc pm an i7 ct) ⟨us,[]⟩=pure (ps.zip us)) Auf._auto_1)
  (len:autoParam (∀ ds G Q E,sp ds G Q E->ds.length=ps.length) Y0._auto_1):Tq V (k+1) cn ps sp:=by
 obtain⟨C,c,mk,kp⟩:=c;obtain⟨h,z⟩:=F;have e:=c.symm.trans h;cases e;exact⟨⟨ze z.F S len hr λi7 A outer s H E r=>hb r r.units r.CO S.nd @aP Y N,z.F.binds λa b c d e f us hl=>zg ps (bn a b c d e f) us hl,z.maker mk kp,c,Y.mg c⟩⟩
end
end K2
end
section
namespace K2
open PySem (Str)
open Enc (enc)
theorem gq{α:Type} [@ag] [Enc α]{G G1:Gp}{p:Nat}{xs:@v}{Q:DK}(l:dM G G1)(hp:G p=none)(h1:G1 p=some (.lst (@bi)))(q:Q (enc xs) G):Im G1 (@U) Q :=
 oq l hp h1 (AS.same _) q
theorem cK{α:Type}{f:α->D}{g:AI}{body:fG}{ok:@u}{xs:@v}{E:lz}{K:kA}{τ:ie}{G:Gp}(I:@v->ie->@u)
  (h0:I [] τ G) (du:∀ pre τ G,I pre τ G->ok G)
  (step:∀ (pre:@v) (x:α) (post:@v) τ G (N:ie->@u),xs=pre++x :: post->I pre τ G->(∀ BJ G2,I (pre++[x]) BJ G2->N BJ G2) ->
   g E (f x) τ G λtR G1=>body E { K with nx:=N,ct:=N,bk:=K.nx } tR G1)
  (fin:∀ τ G,I xs τ G->K.nx τ G):t6 g body ok (xs.map f) E K τ G:=by
 have main:∀ (post pre:@v) τ G,xs=pre++post->I pre τ G->t6 g body ok (post.map f) E K τ G:=by
  intro post;induction post with
  | nil =>
   intro pre τ G e h;rw [bq] at e;subst e;exact⟨du _ _ _ h,fin _ _ h⟩
  | cons d post ih =>
   intro pre τ G e h;refine⟨du _ _ _ h,?_⟩;exact step pre d post τ G _ e h λBJ G2 h2=>ih (pre++[d]) BJ G2 (by rw [e,bD];rfl) h2
 exact main xs [] τ G rfl h0
theorem fk{α:Type}{f:α->D}{g:AI}{c:Option yp}{e:gG}{ok:@u}{xs:@v}{E:lz}{τ:ie}{G:Gp}{Q:@f->@u}(I:@v->@f->ie->@u)
  (h0:I [] [] τ G) (du:∀ pre acc τ G,I pre acc τ G->ok G)
  (step:∀ (pre:@v) (x:α) (post:@v) (acc:@f) τ G (N:ie->@f->@u),xs=pre++x :: post->I pre acc τ G->(∀ BJ LK G2,I (pre++[x]) LK BJ G2->N BJ LK G2) ->
   g E (f x) τ G λtR G1=>match c with
    | none=>e E tR G1 λx G2=>N tR (acc++[x]) G2
    | some c=>c E tR G1 λk G2=>if k=true then e E tR G2 λx G3=>N tR (acc++[x]) G3 else N tR acc G2)
  (fin:∀ acc τ G,I xs acc τ G->Q acc G):iR g c e ok (xs.map f) E τ G [] Q:=by
 have main:∀ (post pre:@v) (acc:@f) τ G,xs=pre++post->I pre acc τ G->iR g c e ok (post.map f) E τ G acc Q:=by
  intro post;induction post with
  | nil =>
   intro pre acc τ G e h;rw [bq] at e;subst e;exact⟨du _ _ _ _ h,fin _ _ _ h⟩
  | cons d post ih =>
   intro pre acc τ G e' h;refine⟨du _ _ _ _ h,?_⟩;have:=step pre d post acc τ G (λBJ LK G2=>iR g c e ok (post.map f) E BJ G2 LK Q) e' h λBJ LK G2 h2=>ih (pre++[d]) LK BJ G2 (by rw [e',bD];rfl) h2;cases c with
   | none=>exact this
   | some c=>exact this
 exact main xs [] [] τ G rfl h0
theorem dq{α:Type} [@ag] [Enc α]{xs:@v}{G:Gp}{R:@f->(@u)->@u}(h:R (@bi) (λ_=>True) G):Le (enc xs) G R:=h
theorem yB(h:n<=1000):n<=SZ:=by unfold SZ;lia
theorem pL(h:n<=1000):n < SZ:=by unfold SZ;lia
abbrev Rows:=List (@F)
def T3.s(p:T3):T2:=⟨p.a,p.b⟩
structure Dr(rows:Rows):Prop where
 nd:(@bL).Nodup
 way:∀ p∈rows.flatten,p.b=0\/p.b=1
 hand:∀ p∈rows.flatten,p.c=1\/p.c=-1
 vN:∀ p∈rows.flatten,(⟨p.a,1 - p.b,p.c⟩:T3)∈rows.flatten
 kb:rows.flatten.length<=24
 str:rows.length<=3
namespace P
def j0:gH:=T4 (λrows:Rows=>rows.flatten.length<=1000) λrows=>rows.flatten
def rG:fG :=
 (bz (bh (dc aH) (aG 1))
 (bz (cS (fI @i) (aG 2) (cp (kh qN sO @n (ag @q aH))))
 (bE (cA @n))))
theorem AM(ds)(G)(Q)(h:j0 ds G Q @w):rG @r @C (aT 3 ds) G:=by
 obtain⟨rows,rfl,hl,q⟩:=h;unfold rG;simp only [ends,aT,az,aP,af,av,aX,aE,aJ,cD,bh,dc,aH,aG,ao,ah];refine⟨@e,λp hp=>?_⟩;refine bO (λτ G'=>(∃ b,τ=[@K,@aj,b])/\@E/\G' p=some (.lst (rows.flatten.map enc))) ?_ ?_
 .intro N hN;simp only [cS,bU,ak,aa];refine dq ?_;refine cK (xs:=rows) (λpre τ G'=>(∃ b,τ=[@K,@aj,b])/\@E/\G' p=some (.lst (pre.flatten.map enc))) ⟨@ah,.new hp,aA⟩ @am ?_ ?_
  .rintro pre r post τ G' N2 e ⟨⟨b,rfl⟩,l,gp⟩ kz;have hlen:@bS:=by
    rw [e];simp only [cO,aW,aq];lia
   simp only [aG,cp,kh,ak,ao,ah,ae,aa,ez,gp,ag,aH,jP,oT (IsL.enc r),true_and];refine⟨yB (by simp only [ai];lia),?_⟩;refine kz _ _ ⟨@ah,l.put hp,?_⟩;rw [aA];simp
  .rintro τ G' ⟨⟨b,rfl⟩,l,gp⟩;exact hN _ _ ⟨@ah,l,gp⟩
 .rintro _ G' ⟨⟨b,rfl⟩,l,gp⟩;simp only [bE,cA,ak,ae,aa];exact gq l hp gp q
theorem kd(p:T3):(enc p:D)=.tup [.int p.a,.int p.b,.int p.c]:=rfl
theorem ke(i):(enc i:D)=@Y:=rfl
theorem AG{r:@f}:oz (a :: r) 0=some a:=by
 rw [gF _ @c @k];rfl
theorem D0{r:@f}:oz (a :: b :: r) 1=some b:=by
 rw [gF _ @c (by simp;lia)];rfl
theorem at2{r:@f}:oz (a :: b :: c :: r) 2=some c:=by
 rw [gF _ @c (by simp;lia)];rfl
def names(rows:Rows):@G:=AZ ((rows.flatten.filter λp=>p.b == 0).map (·.a))
def handOf(rows:Rows)(n:Int):Int:=((rows.flatten.find? λp=>p.a == n).map (·.c)).getD 0
def hV:gH:=aaa (λ(rows:Rows) (n:Int)=>rows.flatten.length<=1000/\∃ p∈rows.flatten,p.a=n) handOf
def zJ:fG :=
 (bz (cS (fI (aZ j0 @ac)) (aG 2) (cH (cW (aN @ap (aN eB @q @M) @n)) (bE (cA (aN eB @q @an))) bH))
 xI)
theorem Ie(ds)(G)(Q)(h:hV ds G Q @w):zJ @r @C (aT 3 ds) G:=by
 obtain⟨rows,n,rfl,⟨hl,hn⟩,q⟩:=h;unfold zJ;refine bO (λτ G'=>False) ?_ (λ_ _ h=>h.elim);intro N hN;simp only [cS,aT,az,aP,af,av,aX,aE,aJ,ends,bU,aZ,ag,ak,aa,aH];refine⟨rows,rfl,hl,dq ?_⟩;refine cK (xs:=rows.flatten) (λpre τ G'=>G=G'/\(∃ a,τ=[@K,some (enc n),a])/\∀ p∈pre,p.a≠n) ⟨rfl,@ah,@ad⟩ @am ?_ ?_
 .rintro pre x post τ G' N2 e ⟨rfl,⟨a,rfl⟩,hp⟩ kz;simp only [aG,cH,ke,kd,ao,ah,bE,cA,aN,ak,ae,aa,dC,dg,at2,bH,bM,AG];refine⟨_,_,.int _,.int _,?_⟩;simp only [aj,rX,if_false,aM];by_cases hx:x.a=n
  .simp only [hx,beq_self_eq_true,if_true];refine c6 ?_;have:handOf rows n=x.c:=by
    unfold handOf;have:rows.flatten.find? (λp=>p.a == n)=some x:=by
     rw [e,sF];have:pre.find? (λp=>p.a == n)=none:=by
      rw [qJ];intro p Mb;simpa using hp p Mb
     rw [this];simp [hx]
    rw [this];rfl
   rw [<-this];exact q
  .have:(x.a == n)=false:=by simpa using hx
   simp only [this,aj,if_false];refine kz _ _ ⟨rfl,@ah,λp Mb=>?_⟩;rcases List.mem_append.mp Mb with h | h
   .exact hp p h
   .rw [List.mem_singleton.mp h];exact hx
 .rintro τ G' ⟨rfl,_,hp⟩;obtain⟨p,Vj,sT⟩:=hn;exact absurd sT (hp p Vj)
def fy(row:@F)(i:Int):List T2:=if row=[] then [⟨i,2⟩] else row.map T3.s
def cm:Rows->Nat->List T2
 | [],_=>[]
 | r :: rs,k=>fy r (k:Int)++cm rs (k+1)
theorem uj:∀ (a b:Rows) (k:Nat),cm (a++b) k=cm a k++cm b (k+a.length)
 | [],b,k=>by simp [cm]
 | r :: a,b,k=>by rw [aE,cm,cm,uj a b (k+1),bD,af];congr 3;lia
theorem Yu{c:D}:cut [a,b,c] none (some 2)=[a,b]:=rfl
theorem KZ [@ag] [Enc α](xs:@v)(G):zW (enc xs) G=some (@bi,λ_=>True):=rfl
theorem KY{a:Nat}{ds:@f}{G:Gp}(h:G a=@ba):zW @Q G=some (ds,λG2=>G2 a=@ba):=by unfold zW;simp only [h]
theorem EC [@ag] [Enc α] [DecidableEq β] [Enc β]:∀ (xs:@v) (ys:List β),tE (@bi) (ys.map enc)=(xs.zip ys).map λp=>D.tup [enc p.1,enc p.2]
 | [],ys=>by simp [tE]
 | x :: xs,[]=>by simp [tE]
 | x :: xs,y :: ys=>by simp [tE,EC xs ys]
theorem oG{κ α:Type} [@bk] [Enc κ] [qr κ] [@ag] [Enc α]{a:Nat}{l:List (κ×α)}{k:κ}{v:α}{G:Gp}{Q:@u}(h:G a=some (.kg (dh l)))(hl:l.length<=1000)(q:Q (dB G a (.kg (dh (ic l k v))))):IY @Q (enc k) (enc v) G Q:=by
 unfold IY;simp only [h];refine⟨uB l k,?_,by rw [Q7];exact q⟩;unfold dh;rw [ai];exact pL hl
def d0(r:@F):@F:=r.drop 1++r.take 1
def pairsOf(rows:Rows):List (T3×T3):=rows.flatMap λr=>r.zip (d0 r)
def dD(ps:List (T3×T3)):@a7:=ps.foldl (λl p=>ic l p.1.s p.2.s) []
theorem B1(ps):(dD ps).length<=ps.length:=by
 have:∀ (ps:List (T3×T3)) (l:@a7),(ps.foldl (λl p=>ic l p.1.s p.2.s) l).length<=l.length+ps.length:=by
  intro ps;induction ps with
  | nil=>intro l;simp
  | cons p ps ih =>
   intro l;rw [eM,af];have h1:=ih (ic l p.1.s p.2.s);have h2:=sd l p.1.s p.2.s;lia
 simpa [dD] using this ps []
theorem zP(ps)(p):dD (ps++[p])=ic (dD ps) p.1.s p.2.s:=by unfold dD;rw [BI];rfl
def kD:gH:=λds G Q _=>∃ rows:Rows,ds=[@aq]/\@bM/\Q (.mC (dh @as)) G
theorem pairs_len(rows):(@be).length<=rows.flatten.length:=by
 unfold pairsOf;induction rows with
 | nil=>simp
 | cons r rs ih=>simp only [di,aW,aq,Gd];lia
def zE:fG :=
 (bz (bh uH (aG 1))
 (bz (cS (fI @i) (aG 2) (cS (Oy @q (aN jS (yM @q (nQ @z) eF) (yM @q eF (nQ @z)))) (mT (fx (aG 3) (fx (aG 4) nE))) (bh (yM (ak 4) eF (nQ @an)) (xw @n (yM @I eF (nQ @an))))))
 (bE (cA @n))))
theorem H0(ds)(G)(Q)(h:kD ds G Q @w):zE @r @C (aT 5 ds) G:=by
 obtain⟨rows,rfl,hl,q⟩:=h;unfold zE;simp only [ends,aT,az,aP,af,av,aX,aE,aJ,cD,bh,uH,iQ,aG,ao,ah];intro d hd;refine bO (λτ G'=>(∃ a b c,τ=[@K,some (.ref d),a,b,c])/\@E/\G' d=some (.kg (dh @as))) ?_ ?_
 .intro N hN;simp only [cS,bU,ak,aa];refine dq ?_;refine cK (xs:=rows) (λpre τ G'=>(∃ a b c,τ=[@K,some (.ref d),a,b,c])/\@E/\G' d=some (.kg (dh (dD (pairsOf pre))))) ⟨⟨_,_,_,rfl⟩,.new hd,aA⟩ @am ?_ ?_
  .rintro pre r post τ G' N2 e ⟨⟨a,b,c,rfl⟩,l,gd⟩ kz;have hr:@bS:=by
    rw [e];simp only [cO,aW,aq];lia
   simp only [aG,cS,Oy,ak,ao,ah,ae,aa,aN,yM,eF,iz,dC,gk];refine C7 (IsL.enc r) λp1 h1=>?_;refine C7 (IsL.enc r) λp2 h2=>?_;have d1:d≠p1:=by ext c;rw [gd] at h1;cases h1
   have l1:=l.trans (dM.new (o:=.lst (cut (@aM) (some 1) none)) h1);have d2:d≠p2:=by ext c;rw [bL d1,gd] at h2;cases h2
   have h12:p1≠p2:=by ext c;rw [aA] at h2;cases h2
   refine pT (IsL.ref (by rw [bL h12,aA])) (IsL.ref aA) ?_ λp3 h3=>?_
   .rw [sZ,sZ,ai,ai];have e1:(cut r (some 1) none).length<=r.length:=by unfold cut;rw [dF,cf];lia
    have e2:(cut r none (some 1)).length<=r.length:=by unfold cut;rw [dF,cf];lia
    exact yB @c
   have d3:d≠p3:=by ext c;rw [bL d2,bL d1,gd] at h3;cases h3
   have et:cut (@aM) (some 1) none++cut (@aM) none (some 1)=(d0 r).map enc:=by
    rw [sZ,sZ,<-aI];congr 1;cases r with
    | nil=>rfl
    | cons x r=>rw [show (1:Int)=((1:Nat):Int) from rfl,FK _ _ @k,Ph _ _ @k];rfl
   rw [et];generalize hG3:dB (dB (dB G' p1 (.lst (cut (@aM) (some 1) none))) p2 (.lst (cut (@aM) none (some 1)))) p3 (.lst ((d0 r).map enc))=G3;have g3:G3 p3=some (.lst ((d0 r).map enc)):=by rw [<-hG3,aA]
   have Vw:G3 d=some (.kg (dh (dD (pairsOf pre)))):=by rw [<-hG3,bL d3,bL d2,bL d1];exact gd
   have l3:dM G G3:=by rw [<-hG3];exact(l1.trans (.new h2)).trans (.new h3)
   unfold Af;rw [KZ,KY g3];ext d;rw [EC];refine cK (xs:=r.zip (d0 r)) (λpp τ G'=>(∃ a b c,τ=[@K,some (.ref d),a,b,c])/\@E/\G' d=some (.kg (dh (dD (pairsOf pre++pp))))/\G' p3=some (.lst ((d0 r).map enc)))
    ⟨⟨_,_,_,rfl⟩,l3,by rw [bq];exact Vw,g3⟩ (λ_ _ _ h=>⟨trivial,h.2.2.2⟩) ?_ ?_
   .rintro pp x post τ G4 N3 e4 ⟨⟨a,b,c,rfl⟩,l4,JC,yF⟩ iM;have hz:(pairsOf pre++pp).length<=1000:=by
     have:=pairs_len pre;have h5:pp.length < (r.zip (d0 r)).length:=by rw [e4];simp
     rw [Gd] at h5;rw [aq];lia
    simp only [mT,fx,aG,nE,bh,yM,ak,kd,ao,ah,ae,aa,eF,xw,lX,af,av,iz,dC,gk,Yu];refine⟨@e,@e,?_⟩;refine oG (k:=x.1.s) (v:=x.2.s) JC (cY (B1 _) hz) ?_;refine iM _ _ ⟨⟨_,_,_,rfl⟩,l4.put hd,?_,by rw [bL (cR d3)];exact yF⟩;rw [aA,<-bD,zP]
   .rintro τ G4 ⟨⟨a,b,c,rfl⟩,l4,JC,yF⟩;refine kz _ _ ⟨⟨_,_,_,rfl⟩,l4,?_⟩;have:pairsOf (pre++[r])=pairsOf pre++r.zip (d0 r):=by unfold pairsOf;simp
    rw [this];exact JC
  .rintro τ G' ⟨⟨a,b,c,rfl⟩,l,gd⟩;exact hN _ _ ⟨⟨_,_,_,rfl⟩,l,gd⟩
 .rintro _ G' ⟨⟨a,b,c,rfl⟩,l,gd⟩;simp only [bE,cA,ak,ae,aa];exact HG l hd gd q
def lft(s:T2):T3:=⟨s.a,s.b,0⟩
end P
theorem De{α:Type} [@ag] [Enc α]{neg:Bool}{x:α}{xs:@v}{G:Gp}{Q:DK}(hd:Enc.dep α<=7)(q:Q (.bl (if neg then !decide (x∈xs) else decide (x∈xs))) G):Df neg (enc x) (enc xs) G Q:=by
 refine⟨enc x,@bi,Enc.sn _ _ _ (by unfold SN;lia),xf G 7 hd xs,?_⟩;rw [D4];exact q
theorem c8{α:Type} [@ag] [Enc α]{neg:Bool}{x y:α}{G:Gp}{Q:DK}(hd:Enc.dep α<=8)(q:Q (.bl (if neg then !decide (x=y) else decide (x=y))) G):kS neg (enc x) (enc y) G Q:=by
 refine⟨enc x,enc y,Enc.sn _ _ _ hd,Enc.sn _ _ _ hd,?_⟩;rw [Enc.eqv];exact q
class AU (α:Type) [@ag] [Enc α] [b6 α] where
 mn:∀ {x:D} {G:Gp} {xs:@v} {Q:DK},itemsOf x G=some (@bi)->xs≠[]->(∀ m∈xs,(∀ y∈xs,yD m y=true)->Q (enc m) G)->FT [x] G Q
theorem jL [@ag] [Enc α] [b6 α]:∀ (r:@v) (a:α),r.foldl (λm x=>if b6.lt x m=true then x else m) a∈a :: r/\∀ y∈a :: r,yD (r.foldl (λm x=>if b6.lt x m=true then x else m) a) y=true
 | [],a=>⟨@ad,λy hy=>by rw [List.mem_singleton.mp hy];unfold yD;rw [List.foldl_nil,b6.P9];rfl⟩
 | b :: r,a=>by
  rw [eM];by_cases c:b6.lt b a=true
  .rw [if_pos c];obtain⟨h1,h2⟩:=jL r b;refine⟨aL _ h1,λy hy=>?_⟩;rcases List.mem_cons.mp hy with rfl | hy
   .refine xq _ _ _ (h2 b @k) ?_;unfold yD;cases q:b6.lt y b with
    | false=>rfl
    | true=>have:=b6.trans _ _ _ q c;rw [b6.P9] at this;cases this
   .exact h2 y hy
  .rw [if_neg c];obtain⟨h1,h2⟩:=jL r a;refine⟨?_,λy hy=>?_⟩
   .rcases List.mem_cons.mp h1 with h | h
    .rw [h];simp
    .exact aL _ (aL _ h)
   .rcases List.mem_cons.mp hy with rfl | hy
    .exact h2 y @k
    .rcases List.mem_cons.mp hy with rfl | hy
     .refine xq _ _ _ (h2 a @k) ?_;unfold yD;simpa using c
     .exact h2 y (aL _ hy)
instance:AU Int where
 mn:=by
  intro x G xs Q hi mQ k;cases xs with
  | nil=>exact absurd rfl mQ
  | cons a r =>
   obtain⟨h1,h2⟩:=jL r a;refine .inl ⟨a :: r,_,hi,rfl,?_⟩;have:(λ(m x:Int)=>if x < m then x else m)=λm x=>if b6.lt x m=true then x else m:=by
    funext m x;show (if x < m then x else m)=if decide (x < m)=true then x else m
    simp
   show Q (enc (r.foldl (λm x=>if x < m then x else m) a)) G;rw [this];exact k _ h1 h2
theorem uA:∀ (x y:@G),vS (λa b=>decide (a < b)) x y=lexLt x y
 | [],[]=>rfl
 | [],_ :: _=>rfl
 | _ :: _,[]=>rfl
 | a :: x,b :: y=>by simp only [zZ,lexLt,uA x y]
instance:AU T3 where
 mn:=by
  intro x G xs Q hi mQ k;cases xs with
  | nil=>exact absurd rfl mQ
  | cons a r =>
   obtain⟨h1,h2⟩:=jL r a;have ei:itemsOf x G=some (((a :: r).map T3.l).map tI):=by rw [hi,cI];rfl
   refine .inr ⟨(a :: r).map T3.l,_,ei,rfl,?_⟩;have:∀ (r:@F) (a:T3),(r.map T3.l).foldl (λm x=>if lexLt x m=true then x else m) a.l=(r.foldl (λm x=>if b6.lt x m=true then x else m) a).l:=by
    intro r;induction r with
    | nil=>intro a;rfl
    | cons b r ih =>
     intro a;rw [az,eM,eM];have e:(if lexLt b.l a.l=true then b.l else a.l)=(if b6.lt b a=true then b else a).l:=by
      have:b6.lt b a=lexLt b.l a.l:=uA _ _;rw [this];split <;> rfl
     rw [e];exact ih _
   rw [this r a];exact k _ h1 h2
namespace P
section
variable {α:Type} [@ag] [Enc α] [b6 α] [qr α] [AU α]
theorem D3 [@bk]{k:κ}{v:β}(h:∃ p∈l,p.1=k):(ic l k v).length=l.length:=by
 unfold ic;rw [if_pos (by obtain⟨p,h1,h2⟩:=h;exact List.any_eq_true.mpr ⟨p,h1,@bl⟩),ai]
end
end P
namespace P
theorem wB [@bk]{k:κ}{v:β}(h:k∉l.map @t):ic l k v=l++[(k,v)]:=by
 unfold ic;rw [if_neg];intro q;obtain⟨p,h1,h2⟩:=List.any_eq_true.mp q;exact h (List.mem_map.mpr ⟨p,h1,@bl⟩)
theorem Fw{γ:Type} [@bk](kf:γ->κ)(vf:γ->β):∀ (ps:List γ) (l:List (κ×β)),(l.map @t++ps.map kf).Nodup->ps.foldl (λl p=>ic l (kf p) (vf p)) l=l++ps.map λp=>(kf p,vf p)
 | [],l,_=>@ad
 | p :: ps,l,h=>by
  rw [eM,wB (λz=>by
   rw [az,jN] at h;exact h.2.2 _ z _ @k rfl),Fw kf vf ps _ (@bE)]
  simp
theorem se [@bk]:∀ {l:List (κ×β)} {p:κ×β},(l.map @t).Nodup->p∈l->fm l p.1=some p.2
 | q :: l,p,hn,h=>by
  unfold fm;rw [eg];rcases List.mem_cons.mp h with rfl | h
  .simp
  .rw [az,dE] at hn;have:q.1≠p.1:=λz=>hn.1 (by rw [z];exact eU h);simp only [this,decide_false];exact se hn.2 h
theorem Fc [@bk]{k:κ}(h:fm l k=@S):(k,v)∈l:=by
 unfold fm at h;cases q:l.find? (λp=>decide (p.1=k)) with
 | none=>rw [q] at h;cases h
 | some p =>
  rw [q] at h;have h1:=lu q;have h2:=fM q;simp at h h1;rw [<-h,<-h1];exact h2
theorem xX(r):(d0 r).length=r.length:=by unfold d0;rw [aq,cf,dF];lia
theorem CS(r):(d0 r).Perm r:=by
 unfold d0;exact List.perm_append_comm.trans (by rw [d8])
theorem B0(rows):(@be).map @t=rows.flatten:=by
 unfold pairsOf;induction rows with
 | nil=>rfl
 | cons r rs ih =>
  rw [di,aI,ih,aW];congr 1;rw [List.map_fst_zip];rw [xX];exact aS _
theorem BY(rows):((@be).map (·.2)).Perm rows.flatten:=by
 unfold pairsOf;induction rows with
 | nil=>exact .refl _
 | cons r rs ih =>
  rw [di,aI,aW];refine PV ?_ ih;rw [List.map_snd_zip]
  .exact CS r
  .rw [xX];exact aS _
variable {rows:Rows}
theorem HH(d:@J):((@be).map λp=>p.1.s).Nodup:=by
 have:((@be).map λp=>p.1.s)=@bL:=by rw [<-B0,cI];rfl
 rw [this];exact d.nd
theorem T5(d:@J):((@be).map λp=>p.2.s).Nodup:=by
 have:((@be).map λp=>p.2.s)=((@be).map (·.2)).map T3.s:=by rw [cI];rfl
 rw [this,((BY rows).map T3.s).nodup_iff];exact d.nd
theorem zQ(d:@J):dD (@be)=(@be).map λp=>(p.1.s,p.2.s):=by
 unfold dD;rw [Fw (λp:T3×T3=>p.1.s) (λp=>p.2.s) _ _ (by simpa using HH d)];rfl
def pas(rows:Rows)(s:T2):T3:=(rows.flatten.find? λp=>decide (p.s=s)).getD ⟨0,0,0⟩
def nxt(rows:Rows)(s:T2):T2:=(fm ((@be).map λp=>(p.1.s,p.2.s)) s).getD s
theorem Jh(d:@J)(h:p∈rows.flatten):pas rows p.s=p:=by
 unfold pas;cases q:rows.flatten.find? (λx=>decide (x.s=p.s)) with
 | none=>rw [qJ] at q;exact absurd @k (q p h)
 | some x =>
  have h1:=lu q;have h2:=fM q;have h1:x.s=p.s:=by simpa using h1
  have:∀ (L:@F),(L.map T3.s).Nodup->x∈L->p∈L->x=p:=by
   intro L;induction L with
   | nil=>intro _ h;cases h
   | cons y L ih =>
    intro hn hx hp;rw [az,dE] at hn;rcases List.mem_cons.mp hx with e1 | hx2
    .rcases @bN with e2 | sT
     .rw [e1,e2]
     .exact absurd (by rw [<-e1,h1];exact eU sT) hn.1
    .rcases @bN with e2 | sT
     .exact absurd (by rw [<-e2,<-h1];exact eU hx2) hn.1
     .exact ih hn.2 hx2 sT
  exact this _ d.nd h2 h
theorem NK(d:@J)(h:(p,q)∈@be):fm ((@be).map λp=>(p.1.s,p.2.s)) p.s=some q.s/\nxt rows p.s=q.s:=by
 have:=se (l:=(@be).map λp=>(p.1.s,p.2.s)) (p:=(p.s,q.s)) (by rw [cI];exact HH d) (List.mem_map.mpr ⟨_,h,rfl⟩);refine⟨this,?_⟩;unfold nxt;rw [this];rfl
def om(p:T3):T3:=⟨p.a,1 - p.b,p.c⟩
theorem NJ(d:@J)(h:p∈rows.flatten):om p∈rows.flatten:=d.vN p h
theorem SS(p):om (om p)=p:=by
 unfold om;cases p;simp only [T3.mk.injEq,true_and,and_true];lia
theorem mh:n∈@m↔∃ p∈rows.flatten,p.b=0/\p.a=n:=by
 unfold names;rw [IT,mY];constructor
 .rintro⟨p,h,rfl⟩;obtain⟨h1,h2⟩:=List.mem_filter.mp h;exact⟨p,h1,@bl,rfl⟩
 .rintro⟨p,h1,h2,rfl⟩;exact⟨p,List.mem_filter.mpr ⟨h1,@bl⟩,rfl⟩
theorem zd(d:@J)(h:p∈rows.flatten):handOf rows p.a=p.c:=by
 unfold handOf;cases q:rows.flatten.find? (λx=>x.a == p.a) with
 | none=>rw [qJ] at q;exact absurd @k (q p h)
 | some x =>
  have h1:x.a=p.a:=by simpa using lu q
  have h2:=fM q;show x.c=p.c;have hw:=d.way p h;have Zi:=d.way x h2;by_cases e:x.b=p.b
  .have:x.s=p.s:=by unfold T3.s;rw [h1,e]
   have e1:=Jh d h2;rw [this,Jh d h] at e1;rw [e1]
  .have:(om x).s=p.s:=by unfold T3.s om;rw [h1];congr 1;ext d;lia
   have e1:=Jh d (NJ d h2);rw [this,Jh d h] at e1;rw [e1];rfl
end P
namespace P
variable {rows:Rows}
theorem ui(rows):(cm rows 0).length<=rows.flatten.length+rows.length:=by
 have:∀ (rs:Rows) (k:Nat),(cm rs k).length<=rs.flatten.length+rs.length:=by
  intro rs;induction rs with
  | nil=>intro k;simp [cm]
  | cons r rs ih =>
   intro k;have:=ih (k+1);rw [cm,aq,aW,aq,af];have:(fy r (k:Int)).length<=r.length+1:=by
    unfold fy;split <;> simp
   lia
 exact this rows 0
theorem Kk(d:@J):(cm rows 0).length<=27:=by
 have:=ui rows;have:=d.kb;have:=d.str;lia
end P
namespace mj
open K2.P
def yd:fG :=
 (bz (cH (cW (aN Wc @n (fC gV @ac))) (bE (cA (aN eB @i @n))) bH)
 (bE (cA @M)))
def iK(ns:@G)(k:Int):Int:=ns.getD k.toNat 0
def nH:gH:=λds G Q _=>∃ (ns:@G) (k:Int),ds=[.eA (@bj),.int k]/\0<=k/\Q (.int (iK ns k)) G
theorem yv(ds)(G)(Q)(h:nH ds G Q @w):yd @r @C (aT 2 ds) G:=by
 obtain⟨ns,k,rfl,h0,q⟩:=h;unfold yd;simp only [bz,cH,aT,az,aP,af,av,aE,aJ,bE,cA,aN,ak,aa,ae,ends,kX,bH,dC,bM,fC,ag,aH,lg,pR,aM];split
 .rename_i h;have h1:k < (@bj).length:=@bE
  rw [gF _ h0 h1];simp only [bN];rw [ai] at h1;have e:iK ns k=ns[k.toNat]:=by unfold iK;rw [bf,aB @c];rfl
  rw [<-e];exact c6 q
 .rename_i h;have h1:¬ k < (@bj).length:=@bE
  rw [ai] at h1;have e:iK ns k=0:=by unfold iK;rw [bf,wV @c];rfl
  rw [<-e];exact c6 q
structure HR(G G':Gp)(p0:Nat)(as:@aC)(rs:Rows):Prop where
 le:@E
 fp:G p0=none
 gp:G' p0=some (.lst (as.map D.ref))
 np:p0∉as
 nd:as.Nodup
 fr:∀ a∈as,G a=none
 len:as.length=rs.length
 at':∀ (i a:Nat) (r:@F),as[i]?=some a->rs[i]?=some r->G' a=some (.lst (@aM))
theorem HR.put(h:HR G G' p0 as rs)(ha:as[j]?=some a):HR G (dB G' a (.lst (r'.map enc))) p0 as (rs.set j r'):=by
 have hm:a∈as:=cT ha;have hj:j < as.length:=(List.getElem?_eq_some_iff.mp ha).1;refine⟨h.le.put (h.fr a hm),h.fp,?_,h.np,h.nd,h.fr,by rw [jA];exact h.len,λi b r hb hr=>?_⟩
 .rw [bL (by ext c;exact h.np hm)];exact h.gp
 ·by_cases e:i=j
  .subst e;rw [ha] at hb;cases hb;rw [gI (by have:=h.len;lia)] at hr;cases hr;exact aA
  .have:b≠a:=by
    ext c;have h1:=List.getElem?_eq_some_iff.mp hb;have h2:=List.getElem?_eq_some_iff.mp ha;have pw:=List.pairwise_iff_getElem.mp h.nd;rcases CI i j with lt | eq | gt
    .exact pw i j h1.1 h2.1 lt (h1.2.trans h2.2.symm)
    .exact e eq
    .exact pw j i h2.1 h1.1 gt (h2.2.trans h1.2.symm)
   rw [bL this];rw [iq (λz=>e z.symm)] at hr;exact h.at' i b r hb hr
theorem HR.fz{G G':Gp}{p0:Nat}{as:@aC}{rs:Rows}(h:HR G G' p0 as rs){Q:DK}(q:Q (enc rs) G):Im G' (.ref p0) Q:=by
 refine oq h.le h.fp h.gp (ss:=rs.map enc) ?_ q;have:∀ (as:@aC) (rs:Rows),as.length=rs.length->(∀ a∈as,G a=none)->(∀ (i a:Nat) (r:@F),as[i]?=some a->rs[i]?=some r->G' a=some (.lst (@aM)))->AS G' (λa=>(G a).isNone) (as.map D.ref) (rs.map enc):=by
  intro as;induction as with
  | nil=>intro rs hl _ _;cases rs with
   | nil=>exact .nil
   | cons _ _=>cases hl
  | cons a as ih =>
   intro rs hl hf El;cases rs with
   | nil=>cases hl
   | cons r rs =>
    refine .cons (.ref (El 0 a r rfl rfl) (by simp [hf a @k]) (AS.same _)) ?_;exact ih rs (by simpa using hl) (λb hb=>hf b (aL _ hb)) λi b s h1 h2=>El (i+1) b s h1 h2
 exact this as rs h.len h.fr h.at'
theorem EO(hr:r'.Perm (x :: r)):∀ (rs:Rows) (j:Nat),rs[j]?=some r->(rs.set j r').flatten.Perm (x :: rs.flatten)
 | [],j,h=>@aH
 | s :: rs,0,h=>by
  cases h;rw [ah,aW,aW];exact hr.append_right _
 | s :: rs,j+1,h=>by
  rw [ao,aW,aW];exact((EO hr rs j h).append_left s).trans List.perm_middle
theorem ix:∀ {rs:Rows},r∈rs->r.length<=rs.flatten.length
 | a :: rs,h=>by
  rw [aW,aq];rcases List.mem_cons.mp h with rfl | h
  .lia
  .have:=ix h;lia
theorem MI(x)(r:@F)(i):(r.take i++x :: r.drop i).Perm (x :: r):=by
 refine List.perm_middle.trans (.cons _ ?_);rw [d8]
end mj
namespace Mo
open K2.P
theorem CN:dB (dB G p a) p b=dB G p b:=by
 funext c;unfold dB;by_cases h:c=p <;> simp [h]
theorem at_{al:@D}{f c:Str}{a:Nat}{fs:List (Str×D)}{d:D}{G:Gp}{Q:DK}(h:G a=some (.ins c fs))(q:Q d G)(hc:autoParam (c∈al) Am._auto_1)(hl:autoParam (fs.lookup f=some d) Ar._auto_1):PA al f @Q G Q:=⟨a,c,fs,d,rfl,h,hc,hl,q⟩
def setAt(al:@D)(f:Str)(x d:D)(G:Gp)(K:@u):Prop:=∃ a c fs,x=.ref a/\G a=some (.ins c fs)/\c∈al/\fs.length < 1000/\K (dB G a (.ins c (putD f d fs)))
theorem rZ:ja al f to tv E K τ G=tv E τ G λd G1=>to E τ G1 λx G2=>setAt al f x d G2 (K.nx τ):=rfl
theorem EK{al:@D}{f c:Str}{a:Nat}{fs:List (Str×D)}{d:D}{G:Gp}{K:@u}(h:G a=some (.ins c fs))(q:K (dB G a (.ins c (putD f d fs))))(hc:autoParam (c∈al) Am._auto_1)(hl:autoParam (fs.length < 1000) An._auto_1):setAt al f @Q d G K:=⟨a,c,fs,rfl,h,hc,hl,q⟩
inductive jm where
 | un (n:Int)
 | cu (n:Int) (s:T2) (f h:Int)
 | pa (a b:Int)
 | la (a b:Int) (o u:T2) (t h:Int)
 | sl (a b c t:Int)
def cn:jm->Str
 | .un _=>"Uncurl" | .cu ..=>"Curl" | .pa ..=>"Part" | .la ..=>"Lay" | .sl ..=>"Slide"
def wd:jm->Str
 | .un _=>"uncurl" | .cu ..=>"curl" | .pa ..=>"part" | .la ..=>"lay" | .sl ..=>"slide"
def ar:jm->@f
 | .un n=>[.int n] | .cu n s f h=>[.int n,enc s,.int f,.int h] | .pa a b=>[.int a,@ab] | .la a b o u t h=>[.int a,@ab,enc o,enc u,.int t,.int h] | .sl a b c t=>[.int a,@ab,.int c,.int t]
def fl:jm->List (Str×D)
 | .un n=>[("name",.int n)] | .cu n s f h=>[("name",.int n),("spot",enc s),("first",.int f),("hand",.int h)] | .pa a b=>[("name",.int a),("second",@ab)] | .la a b o u t h=>[("name",.int a),("second",@ab),("over",enc o),("under",enc u),("turned",.int t),("hand",.int h)] | .sl a b c t=>[("name",.int a),("second",@ab),("third",.int c),("turn",.int t)]
def td(m:jm):D:=.tup (.str (wd m) :: ar m)
def ob(m:jm):GO:=.ins (cn m) (fl m)
abbrev Tt(G:Gp)(p:Nat)(m:jm):Prop:=G p=some (ob m)
def mF:fG :=
 (ja ["Uncurl"] "name" @i @n)
def jK:gH:=λds G Q _=>∃ (p:Nat) (n:Int),ds=[@U,.int n]/\G p=some (.ins "Uncurl" [])/\Q .dj (dB G p (ob (.un n)))
theorem uK(ds)(G)(Q)(h:jK ds G Q @w):mF @r @C (aT 2 ds) G:=by
 obtain⟨p,n,rfl,g,q⟩:=h;unfold mF;simp only [ends,aT,az,aP,af,av,aE,aJ,rZ,ak,ae,aa];refine EK g ?_;exact q
def oO:fG :=
 (bz (ja ["Curl"] "name" @i @n)
 (bz (ja ["Curl"] "spot" @i @q)
 (bz (ja ["Curl"] "first" @i @I)
 (ja ["Curl"] "hand" @i (ak 4)))))
def kH:gH:=λds G Q _=>∃ (p:Nat) (n:Int) (s:T2) (f:Int) (h:Int),ds=[@U,.int n,enc s,.int f,.int h]/\G p=some (.ins "Curl" [])/\Q .dj (dB G p (ob (.cu n s f h)))
theorem xT(ds)(G)(Q)(h:kH ds G Q @w):oO @r @C (aT 5 ds) G:=by
 obtain⟨p,n,s,f,h,rfl,g,q⟩:=h;unfold oO;simp only [ends,aT,az,aP,af,av,aE,aJ,gS,rZ,ak,ae,aa];refine EK g ?_;refine EK aA ?_;refine EK aA ?_;refine EK aA ?_;simp only [CN];exact q
def oN:fG :=
 (bz (ja ["Part"] "name" @i @n)
 (ja ["Part"] "second" @i @q))
def kG:gH:=λds G Q _=>∃ (p:Nat) (a:Int) (b:Int),ds=[@U,.int a,@ab]/\G p=some (.ins "Part" [])/\Q .dj (dB G p (ob (.pa a b)))
theorem xS(ds)(G)(Q)(h:kG ds G Q @w):oN @r @C (aT 3 ds) G:=by
 obtain⟨p,a,b,rfl,g,q⟩:=h;unfold oN;simp only [ends,aT,az,aP,af,av,aE,aJ,gS,rZ,ak,ae,aa];refine EK g ?_;refine EK aA ?_;simp only [CN];exact q
def qE:fG :=
 (bz (ja ["Lay"] "name" @i @n)
 (bz (ja ["Lay"] "second" @i @q)
 (bz (ja ["Lay"] "over" @i @I)
 (bz (ja ["Lay"] "under" @i (ak 4))
 (bz (ja ["Lay"] "turned" @i (ak 5))
 (ja ["Lay"] "hand" @i (ak 6)))))))
def lE:gH:=λds G Q _=>∃ (p:Nat) (a:Int) (b:Int) (o:T2) (u:T2) (t:Int) (h:Int),ds=[@U,.int a,@ab,enc o,enc u,.int t,.int h]/\G p=some (.ins "Lay" [])/\Q .dj (dB G p (ob (.la a b o u t h)))
theorem yT(ds)(G)(Q)(h:lE ds G Q @w):qE @r @C (aT 7 ds) G:=by
 obtain⟨p,a,b,o,u,t,h,rfl,g,q⟩:=h;unfold qE;simp only [ends,aT,az,aP,af,av,aE,aJ,gS,rZ,ak,ae,aa];refine EK g ?_;refine EK aA ?_;refine EK aA ?_;refine EK aA ?_;refine EK aA ?_;refine EK aA ?_;simp only [CN];exact q
def nJ:fG :=
 (bz (ja ["Slide"] "name" @i @n)
 (bz (ja ["Slide"] "second" @i @q)
 (bz (ja ["Slide"] "third" @i @I)
 (ja ["Slide"] "turn" @i (ak 4)))))
def j4:gH:=λds G Q _=>∃ (p:Nat) (a:Int) (b:Int) (c:Int) (t:Int),ds=[@U,.int a,@ab,.int c,.int t]/\G p=some (.ins "Slide" [])/\Q .dj (dB G p (ob (.sl a b c t)))
theorem wO(ds)(G)(Q)(h:j4 ds G Q @w):nJ @r @C (aT 5 ds) G:=by
 obtain⟨p,a,b,c,t,rfl,g,q⟩:=h;unfold nJ;simp only [ends,aT,az,aP,af,av,aE,aJ,gS,rZ,ak,ae,aa];refine EK g ?_;refine EK aA ?_;refine EK aA ?_;refine EK aA ?_;simp only [CN];exact q
end Mo
namespace Mo
open K2.P
theorem Wu{neg:Bool}{a:Str}{G:Gp}{Q:DK}(q:Q (.bl (!neg)) G)(ha:autoParam (a.cps.all (· < 0x110000)=true) Ak._auto_1):kS neg (.str a) (.str a) G Q:=⟨_,_,.str a ha,.str a ha,by
 have:iI (.str a) (.str a)=true:=by show (a == a)=true;exact beq_self_eq_true a
 rw [this];cases neg <;> exact q⟩
theorem P6{neg:Bool}{a b:Str}{G:Gp}{Q:DK}(q:Q (.bl neg) G)(h:autoParam ((a == b)=false) Ak._auto_1)(ha:autoParam (a.cps.all (· < 0x110000)=true) Ak._auto_1)(hb:autoParam (b.cps.all (· < 0x110000)=true) Ak._auto_1):kS neg (.str a) (.str b) G Q:=⟨_,_,.str a ha,.str b hb,by
 have:iI (.str a) (.str b)=false:=h;rw [this];cases neg <;> exact q⟩
theorem FF(s:T2):(enc s:D)=.tup [.int s.a,.int s.b]:=rfl
def zF:fG :=
 (bz (cH (cW (aN @ap (aN eB @i @M) (dC (.str "uncurl")))) (bE (cA (nR "Uncurl" jK (ag (aN eB @i @z) aH)))) bH)
 (bz (cH (cW (aN @ap (aN eB @i @M) (dC (.str "curl")))) (bE (cA (nR "Curl" kH (ag (aN eB @i @z) (ag (aN eB @i @an) (ag (aN eB @i (dC (.int 3))) (ag (aN eB @i (dC (.int 4))) aH))))))) bH)
 (bz (cH (cW (aN @ap (aN eB @i @M) (dC (.str "part")))) (bE (cA (nR "Part" kG (ag (aN eB @i @z) (ag (aN eB @i @an) aH))))) bH)
 (bz (cH (cW (aN @ap (aN eB @i @M) (dC (.str "lay")))) (bE (cA (nR "Lay" lE (ag (aN eB @i @z) (ag (aN eB @i @an) (ag (aN eB @i (dC (.int 3))) (ag (aN eB @i (dC (.int 4))) (ag (aN eB @i (dC (.int 5))) (ag (aN eB @i (dC (.int 6))) aH))))))))) bH)
 (bz (cH (cW (aN @ap (aN eB @i @M) (dC (.str "slide")))) (bE (cA (nR "Slide" j4 (ag (aN eB @i @z) (ag (aN eB @i @an) (ag (aN eB @i (dC (.int 3))) (ag (aN eB @i (dC (.int 4))) aH))))))) bH)
 xI)))))
def uk:gH:=λds G Q _=>∃ m:jm,ds=[td m]/\∀ p,G p=none->Q (@U) (dB G p (ob m))
theorem Ia(ds)(G)(Q)(h:uk ds G Q @w):zF @r @C (aT 1 ds) G:=by
 obtain⟨m,rfl,q⟩:=h;unfold zF;cases m with
 | un n =>
  simp only [ends,aT,td,wd,ar,az,aP,af,av,aE,aJ,gS,cH,bE,cA,nR,ag,aN,ak,aa,dC,aH,dg,D0,bH,bM,AG];refine Wu ?_;simp only [a8,aM,if_true];exact λp hp=>⟨p,n,rfl,aA,rfl,c6 (by rw [CN];exact q p hp)⟩
 | cu n s f h =>
  simp only [ends,aT,td,wd,ar,az,aP,af,av,aE,aJ,gS,cH,bE,cA,nR,ag,aN,ak,aa,dC,aH,dg,D0,bH,bM,AG];refine P6 ?_;simp only [aM,aj,if_false];refine Wu ?_;simp only [a8,aM,if_true];exact λp hp=>⟨p,n,s,f,h,rfl,aA,rfl,c6 (by rw [CN];exact q p hp)⟩
 | pa a b =>
  simp only [ends,aT,td,wd,ar,az,aP,af,av,aE,aJ,gS,cH,bE,cA,nR,ag,aN,ak,aa,dC,aH,dg,D0,bH,bM,AG];refine P6 ?_;simp only [aM,aj,if_false];refine P6 ?_;simp only [aM,aj,if_false];refine Wu ?_;simp only [a8,aM,if_true];exact λp hp=>⟨p,a,b,rfl,aA,rfl,c6 (by rw [CN];exact q p hp)⟩
 | la a b o u t h =>
  simp only [ends,aT,td,wd,ar,az,aP,af,av,aE,aJ,gS,cH,bE,cA,nR,ag,aN,ak,aa,dC,aH,dg,D0,bH,bM,AG];refine P6 ?_;simp only [aM,aj,if_false];refine P6 ?_;simp only [aM,aj,if_false];refine P6 ?_;simp only [aM,aj,if_false];refine Wu ?_;simp only [a8,aM,if_true];exact λp hp=>⟨p,a,b,o,u,t,h,rfl,aA,rfl,c6 (by rw [CN];exact q p hp)⟩
 | sl a b c t =>
  simp only [ends,aT,td,wd,ar,az,aP,af,av,aE,aJ,gS,cH,bE,cA,nR,ag,aN,ak,aa,dC,aH,dg,D0,bH,bM,AG];refine P6 ?_;simp only [aM,aj,if_false];refine P6 ?_;simp only [aM,aj,if_false];refine P6 ?_;simp only [aM,aj,if_false];refine P6 ?_;simp only [aM,aj,if_false];refine Wu ?_;simp only [a8,aM,if_true];exact λp hp=>⟨p,a,b,c,t,rfl,aA,rfl,c6 (by rw [CN];exact q p hp)⟩
end Mo
namespace Mo
open K2.P
open K2.mj (iK nH yv)
theorem aaf(h:dN lo n=pre++d :: post):d=.int (lo+(pre.length:Int))/\pre.length < n:=by
 have hl:pre.length < n:=by
  have:=congrArg bS h;simp [dN] at this;lia
 have:(dN lo n)[pre.length]?=some d:=by rw [h];simp
 simp only [dN,bP,yV hl] at this;exact⟨by simpa using this.symm,hl⟩
def vq:fG :=
 (bE (cA (AD (uG "int" @i) (JN (uG "bool" @i)))))
def iX:gH:=λds G Q _=>∃ i:Int,ds=[@Y]/\Q (.bl true) G
theorem Ea(ds)(G)(Q)(h:iX ds G Q @w):vq @r @C (aT 1 ds) G:=by
 obtain⟨i,rfl,q⟩:=h;unfold vq;simp only [bE,cA,aT,az,aP,af,av,aE,aJ,ends,k9,pq,kU,ak,aa,mN,aM];simpa using c6 q
def dU:fG :=
 (bz (cH (uO (iJ (cW (uG "tuple" @i))) (cW (aN (kS true) (fC gV @ac) (fC gV @aL)))) @a4 bH)
 (bz (cS (fI @i) (aG 2) (cH (iJ (cW (aZ iX (ag @q aH)))) @a4 bH))
 (bE (cA (aN @ap @i @n)))))
def cN:gH:=λds G Q _=>∃ ns:@G,ds=[tI ns,tI ns]/\Q (.bl true) G
theorem dW(ds)(G)(Q)(h:cN ds G Q @w):dU @r @C (aT 3 ds) G:=by
 obtain⟨ns,rfl,q⟩:=h;unfold dU;simp only [ends,aT,az,aP,af,av,aX,aE,aJ,gS,cH,uO,iJ,bE,cA,dC,bH,if_true,bM,aN,fC,ag,ak,aa,aH,ae,lb,kU,k6,beq_self_eq_true,aM,aY,aj,if_false];refine c8 (α:=Int) @o ?_;simp only [decide_true,aY,if_true,cS,bU,ak,aa,sQ,aM,aj,if_false];refine cK (f:=D.int) (xs:=ns) (λpre τ G'=>G=G'/\∃ a,τ=[some (tI ns),some (tI ns),a]) ⟨rfl,_,rfl⟩ @am ?_ ?_
 .rintro pre i post τ G' N e ⟨rfl,a,rfl⟩ hN;simp only [aG,cH,iJ,ao,ah,bE,cA,dC,bH,bM,aZ,ag,ak,ae,aa,aH];refine⟨i,rfl,?_⟩;simp only [aM,aY,aj,if_false];exact hN _ _ ⟨rfl,_,rfl⟩
 .rintro τ G' ⟨rfl,a,rfl⟩;simp only [bE,cA,aN,ak,aa,ae];refine⟨_,_,.tI ns,.tI ns,?_⟩;rw [VB];simp only [decide_true,if_false,aj];exact c6 q
def Pl(d:D):Prop:=(∃ i,d=@Y)\/∃ ns,d=tI ns
abbrev okW(w:Str):Prop:=w.cps.all (· < 0x110000)=true
def eE:fG :=
 (bz (cH (uO (iJ (cW (uG "tuple" @i))) (cW (aN (kS true) (fC gV @ac) (fC gV @aL)))) @a4 bH)
 (bz (cH (uO (iJ (cW (uG "str" (aN eB @i @M)))) (cW (aN (kS true) (aN eB @i @M) (aN eB @n @M)))) @a4 bH)
 (bz (cS (Cd @z (fC gV @aL)) (aG 2) (cH (cW (uG "tuple" (aN eB @n @q))) (cH (iJ (cW (aZ cN (ag (aN eB @i @q) (ag (aN eB @n @q) aH))))) @a4 bH) (cH (uO (iJ (cW (aZ iX (ag (aN eB @i @q) aH)))) (cW (aN (kS true) (aN eB @i @q) (aN eB @n @q)))) @a4 bH)))
 (bE (cA (dC (.bl true)))))))
def cJ:gH:=λds G Q _=>∃ (w:Str) (as:@f),ds=[.tup (.str w :: as),.tup (.str w :: as)]/\(as.length<=10/\okW w/\∀ a∈as,Pl a)/\Q (.bl true) G
theorem eG(ds)(G)(Q)(h:cJ ds G Q @w):eE @r @C (aT 3 ds) G:=by
 obtain⟨w,as,rfl,⟨hl,hw,hp⟩,q⟩:=h;unfold eE;simp only [ends,aT,az,aP,af,av,aX,aE,aJ,gS,cH,uO,iJ,bE,cA,dC,bH,if_true,bM,aN,ak,aa,ae,dg,kU,fC,ag,aH,lb,k6,beq_self_eq_true,aM,aY,aj,if_false];refine c8 (α:=Int) @o ?_;simp only [decide_true,aY,if_true,AG,aM,aj,if_false];show isAt "str" (.str w) G _;unfold isAt RZ;simp only [beq_self_eq_true,aM,aY,aj,if_false];refine Wu ?_ hw;simp only [aY,cS,Cd,dC,fC,ag,ak,ae,aa,aH,lb,af,aM,aj,if_false];refine⟨@d,?_⟩;refine Aj (λpre τ G'=>G=G'/\∃ a,τ=[some (.tup (.str w :: as)),some (.tup (.str w :: as)),a]) ⟨rfl,_,rfl⟩ @am ?_ ?_
 .rintro pre d post τ G' N e ⟨rfl,a,rfl⟩ hN;obtain⟨rfl,Ds⟩:=aaf e;have mP:pre.length < as.length:=@d
  have ha:oz (D.str w :: as) (1+(pre.length:Int))=some as[pre.length]:=by
   rw [gF _ @c (by rw [af];lia)];have:(1+(pre.length:Int)).toNat=pre.length+1:=@d
   simp only [this,Mq]
  simp only [aG,cH,ao,ah,iJ,bE,cA,dC,bH,bM,aZ,ag,aN,ak,aa,ae,aH,dg,ha,uO,if_true,kU];rcases hp _ (bQ mP) with ⟨i,ei⟩ | ⟨ns,ei⟩
  .rw [ei];simp only [mN,aM];rw [show ("tuple" == "int")=false from @e];simp only [aj,if_false];refine⟨i,rfl,?_⟩;simp only [aM,aY,aj,if_false];refine c8 (α:=Int) @o ?_;simp only [decide_true,aY,if_true,aM,aj,if_false];exact hN _ _ ⟨rfl,_,rfl⟩
  .rw [ei];simp only [k6,beq_self_eq_true,aM,if_true];refine⟨ns,rfl,?_⟩;simp only [aM,aY,aj,if_false];exact hN _ _ ⟨rfl,_,rfl⟩
 .rintro τ G' ⟨rfl,a,rfl⟩;simp only [bE,cA,dC];exact c6 q
end Mo
end K2
end
section
namespace K2
namespace qT
def ab(c:Int):Int:=if c < 0 then -c else c
variable {α:Type}
end qT
end K2
end
section
namespace K2
open PySem (Str)
open Enc (enc)
namespace qT
open K2.P
def Ok(n:Int)(cs:@G):Prop:=n<=3/\cs.length<=40/\∀ c∈cs,1<=ab c/\ab c < n
end qT
namespace qT
open K2.P
def Good(n:Int)(cs:@G):Prop:=(1<=n/\n<=3)/\cs.length<=12/\∀ c∈cs,1<=ab c/\ab c < n
instance (n:Int) (cs:@G):Decidable (Good n cs):=by unfold Good;exact inferInstance
end qT
namespace qT
open K2.P
def lH:@F->T3
 | []=>⟨0,0,0⟩
 | a :: r=>r.foldl (λm x=>if b6.lt x m=true then x else m) a
theorem oV(h:r≠[]):lH r∈r:=by
 cases r with
 | nil=>exact absurd rfl h
 | cons a r=>exact(jL r a).1
theorem vP(hy:y∈r):yD (lH r) y=true:=by
 cases r with
 | nil=>cases hy
 | cons a r=>exact(jL r a).2 y hy
def eI(r:@F):@F:=r.drop (r.idxOf (lH r))++r.take (r.idxOf (lH r))
theorem r8{x:D}{G:Gp}{r:@F}{Q:DK}(hi:itemsOf x G=some (@aM))(mQ:r≠[])(q:Q (enc (lH r)) G):FT [x] G Q :=
 AU.mn hi mQ λm hm hl=>by
  have:m=lH r:=Fm _ _ (hl _ (oV mQ)) (vP hm);rw [this];exact q
theorem mK{x:D}{G:Gp}{r:@F}{Q:DK}(ht:qN x G)(hi:itemsOf x G=some (@aM))(mQ:r≠[])(q:Q (.int ((r.idxOf (lH r):Nat):Int)) G):xm x [enc (lH r)] G Q:=by
 refine⟨ht,@aM,enc (lH r),@aM,hi,Enc.sn G 8 _ @o,xf G 7 @o r,?_⟩;have e:(@aM).findIdx? (iI · (enc (lH r)))=some (r.idxOf (lH r)):=by
  have hf:(λy:T3=>iI (enc y) (enc (lH r)))=λy=>y == lH r:=by
   funext y;rw [Enc.eqv];by_cases h:y=lH r <;> simp [h]
  rw [List.findIdx?_map];show List.findIdx? (λy=>iI (enc y) (enc (lH r))) r=_;rw [hf];have hm:=oV mQ;rw [List.idxOf];rw [List.findIdx?_eq_some_iff_findIdx_eq];exact⟨List.findIdx_lt_length.mpr ⟨_,hm,@ad⟩,rfl⟩
 rw [e];exact q
end qT
namespace P
variable {rows:Rows}
theorem GW(n):dN 0 n=((bZ n).map λ(i:Nat)=>(i:Int)).map enc:=by
 unfold dN;rw [cI];refine pD λi _=>?_;show D.int (0+(i:Int))=D.int (i:Int);rw [Qs]
theorem FI:Pg i t E K τ G=t E { K with nx:=λtR G1=>match tR[i]? with
 | some (some d)=>Im G1 d λt G2=>K.nx (tR.set i (some t)) G2
 | _=>False } τ G:=rfl
end P
namespace K3
open K2.P K2.mj
theorem Dc{α:Type} [@ag] [Enc α]{neg:Bool}{x:α}{xs:@v}{a:Nat}{G:Gp}{Q:DK}(hd:Enc.dep α<=7)(h:G a=some (.lst (@bi)))(q:Q (.bl (if neg then !decide (x∈xs) else decide (x∈xs))) G):Df neg (enc x) @Q G Q:=by
 unfold Df;simp only [h];refine⟨_,_,Enc.sn G 8 x @c,xf G 7 hd xs,?_⟩;rw [D4];exact q
theorem rN:cH c a b E K τ G=c E τ G λk G1=>if k=true then a E K τ G1 else b E K τ G1:=rfl
end K3
namespace K3
open K2.P K2.mj
def Ta(n:Int):Int:=n % 999+1
def fit(n:Int):Nat->Int
 | 0=>n
 | k+1=>Ta (fit n k)
theorem ou(h1:1<=n)(h2:n<=999):∀ k:Nat,fit n k=(n - 1+k) % 999+1
 | 0=>by show n=_;lia
 | k+1=>by
  show Ta (fit n k)=_;rw [ou h1 h2 k];unfold Ta;lia
theorem gK:∀ (xs ys:@G),xs.Nodup->(∀ x∈xs,x∈ys)->xs.length<=ys.length
 | [],_,_,_=>ck _
 | x :: xs,ys,hn,h=>by
  rw [dE] at hn;have:=gK xs (ys.erase x) hn.2 λy hy=>(xV (show y≠x from λz=>hn.1 (by rw [<-z];exact hy))).mpr (h y (aL _ hy));have hx:=h x @k;rw [sD hx] at this;have:=lP hx;rw [af];lia
theorem we{ns:@G}(h1:1<=n)(h2:n<=999)(hl:ns.length<=500):∃ k,k<=ns.length/\fit n k∉ns:=by
 apply bX;intro R7;have tK:∀ k,k<=ns.length->fit n k∈ns:=λk hk=>bX λz=>R7 ⟨k,hk,z⟩;have nd:((bZ (ns.length+1)).map λk=>fit n k).Nodup:=by
  refine List.pairwise_iff_getElem.mpr λi j hi hj HC=>?_;simp only [ai,cV] at hi hj;rw [bN,bN,jg,jg,ou h1 h2,ou h1 h2];lia
 have:=gK _ ns nd λx hx=>by
  obtain⟨k,hk,rfl⟩:=List.mem_map.mp hx;exact tK k (by have:=List.mem_range.mp hk;lia)
 simp at this;lia
def ins(r:@F)(k:Nat)(p:T3):@F:=r.take k++p :: r.drop k
theorem Fq(r)(k)(p):(ins r k p).Perm (p :: r):=MI p r k
theorem R4(r)(k)(p):(@aM).take k++enc p :: (@aM).drop k=(ins r k p).map (enc:T3->D):=by
 unfold ins;rw [aI,az,LV,LW]
structure DF(L:@F):Prop where
 nd:(L.map T3.s).Nodup
 way:∀ p∈L,p.b=0\/p.b=1
 hand:∀ p∈L,p.c=1\/p.c=-1
 vN:∀ p∈L,(⟨p.a,1 - p.b,p.c⟩:T3)∈L
theorem DF.perm(h:DF L)(p:L'.Perm L):DF L' :=
 ⟨(p.map _).nodup_iff.mpr h.nd,λx hx=>h.way x (p.mem_iff.mp hx),λx hx=>h.hand x (p.mem_iff.mp hx),λx hx=>p.mem_iff.mpr (h.vN x (p.mem_iff.mp hx))⟩
theorem DF.add(h:DF L)(hm:m∉L.map (·.a))(hh:hd=1\/hd=-1):DF (⟨m,1,hd⟩ :: ⟨m,0,hd⟩ :: L):=by
 have no:∀ w,(⟨m,w⟩:T2)∉L.map T3.s:=λw z=>by
  obtain⟨p,hp,e⟩:=List.mem_map.mp z;exact hm (List.mem_map.mpr ⟨p,hp,by have:=congrArg T2.a e;exact this⟩)
 refine⟨?_,?_,?_,?_⟩
 .rw [az,az,dE,dE];refine⟨λz=>?_,no 0,h.nd⟩;rcases List.mem_cons.mp z with e | z
  .have:=congrArg T2.b e;exact absurd (show (1:Int)=0 from this) @o
  .exact no 1 z
 .intro p hp;rcases @bN with rfl | hp
  .exact .inr rfl
  .rcases @bN with rfl | hp
   .exact .inl rfl
   .exact h.way p hp
 .intro p hp;rcases @bN with rfl | hp
  .exact hh
  .rcases @bN with rfl | hp
   .exact hh
   .exact h.hand p hp
 .intro p hp;rcases @bN with rfl | hp
  .exact aL _ a9
  .rcases @bN with rfl | hp
   .exact a9
   .exact aL _ (aL _ (h.vN p hp))
theorem HR.at_(h:HR G G' p0 as rs){j:Int}(j1:0<=j)(j2:j < rs.length):∃ a r,as[j.toNat]?=some a/\rs[j.toNat]?=some r/\G' a=some (.lst (@aM))/\oz (as.map D.ref) j=some @Q:=by
 have hj:j.toNat < as.length:=by have:=h.len;lia
 refine⟨as[j.toNat],rs[j.toNat]'(@d),aB hj,aB _,h.at' _ _ _ (aB hj) (aB _),?_⟩;rw [gF _ j1 (by rw [ai];have:=h.len;lia),bN]
end K3
namespace wZ
open K2.P
open K2.qT (eI lH)
def xj(r:@F)(k:Nat):@F:=r.drop k++r.take k
end wZ
namespace wZ
open K2.P
open K2.qT (eI lH oV vP)
theorem vi(r)(k):(xj r k).Perm r:=by
 unfold xj;exact List.perm_append_comm.trans (by rw [d8])
inductive Ro:Rows->Rows->Prop
 | nil:Ro [] []
 | cons {r x:@F} {rs xs:Rows}:(∃ k,k<=r.length/\x=xj r k)->Ro rs xs->Ro (r :: rs) (x :: xs)
end wZ
namespace mj
open K2.P
variable {rows:Rows}
end mj
namespace mj
open K2.P
variable {rows:Rows}
end mj
namespace wZ
open K2.P
open K2.qT (eI lH oV vP)
open K2.mj (nH iK HR HR.fz)
open K2.K3 (DF)
theorem QV{r:@F}{k:Nat}{G:Gp}{Q:DK}{d:D}(hd:IsL G d (@aM))(hk:k<=r.length)(hl:r.length<=1000)(q:∀ p G1,dM G G1->G p=none->G1 p=some (.lst ((xj r k).map enc))->Q (@U) G1) :
  QY d (some (k:Int)) none G λx G1=>QY d none (some (k:Int)) G1 λy G2=>jS x y G2 Q:=by
 refine C7 hd ?_;rw [sZ,FK r k hk];intro p hp;refine C7 (hd.mono (.new hp)) ?_;rw [sZ,Ph r k hk];intro p2 sT;have abo:p≠p2:=λz=>by rw [<-z,aA] at sT;cases sT
 have g1:dB (dB G p (.lst ((r.drop k).map enc))) p2 (.lst ((r.take k).map enc)) p=some (.lst ((r.drop k).map enc)):=by rw [bL abo,aA]
 have gl:dM G (dB (dB G p (.lst ((r.drop k).map enc))) p2 (.lst ((r.take k).map enc))):=(dM.new hp).trans (.new sT);show D5 _ _ _ _;unfold D5;rw [oT (IsL.ref (ds:=(r.drop k).map enc) g1),oT (IsL.ref (ds:=(r.take k).map enc) aA)];refine⟨yB (by simp;lia),λp3 sS=>?_⟩;refine q _ _ (gl.trans (.new sS)) (gl.free sS) ?_;rw [aA];unfold xj;rw [aI]
end wZ
namespace wZ
open K2.P
open K2.qT (eI lH oV vP)
open K2.K3 (DF)
variable {rows c:Rows}
end wZ
end K2
end
section
namespace K2
open Enc (enc)
namespace A3
open K2.P K2.wZ
open K2.qT (eI lH oV vP)
open K2.K3 (DF)
theorem yZ(a b):xj (a++b) a.length=b++a:=by unfold xj;rw [List.drop_left,List.take_left]
theorem gi(rows):Ro rows (rows.map eI):=by
 induction rows with
 | nil=>exact .nil
 | cons r rows ih=>exact .cons ⟨_,xW,rfl⟩ ih
end A3
end K2
end
section
namespace K2
open PySem (Str)
open Enc (enc)
namespace Mo
open K2.P
open K2.qT (eI)
open K2.wZ (xj Ro vi)
open K2.A3 (yZ gi)
def Eo(r x:@F):Prop:=∃ k,k<=r.length/\x=xj r k
theorem Eo.app(a b):Eo (a++b) (b++a):=⟨a.length,@ad,(yZ a b).symm⟩
theorem Eo.perm(h:Eo a b):b.Perm a:=by
 obtain⟨k,_,rfl⟩:=h;exact vi a k
theorem Eo.parts(h:Eo a b):∃ u v,a=u++v/\b=v++u:=by
 obtain⟨k,_,rfl⟩:=h;exact⟨a.take k,a.drop k,(d8 k a).symm,rfl⟩
theorem Eo.of(h1:a=u++v)(h2:b=v++u):Eo a b:=by rw [h1,h2];exact .app u v
theorem M5(r):Eo r (eI r):=⟨_,xW,rfl⟩
structure Qi(rows:Rows):Prop where
 nd:(@bL).Nodup
 way:∀ p∈rows.flatten,p.b=0\/p.b=1
theorem _root_.Internal.K2.Dr.dn(d:@J):Qi rows:=⟨d.nd,d.way⟩
def Ej(s:T2)(ps:@F)(p:T3):@F:=if p.s=s then p :: ps else [p]
def lG(s:T2)(ps:@F)(k:Nat)(r:@F):@F:=(if s=⟨k,2⟩ then ps else [])++r.flatMap (Ej s ps)
def lK(s:T2)(ps:@F):Rows->Nat->Rows
 | [],_=>[]
 | r :: rs,k=>lG s ps k r :: lK s ps rs (k+1)
theorem vK(s)(ps):∀ (a b:Rows) (k:Nat),lK s ps (a++b) k=lK s ps a k++lK s ps b (k+a.length)
 | [],b,k=>by simp [lK]
 | r :: a,b,k=>by
  rw [aE,lK,lK,vK s ps a b (k+1),aE,af];congr 3;lia
theorem sW:∀ {r:@F},(∀ p∈r,p.s≠s)->r.flatMap (Ej s ps)=r
 | [],_=>rfl
 | a :: r,h=>by
  rw [di,sW λp hp=>h p (aL _ hp)];unfold Ej;rw [if_neg (h a a9)];rfl
theorem oP:∀ {R:Rows} {k:Nat},(∀ p∈R.flatten,p.s≠s)->(∀ j:Nat,k<=j->j < k+R.length->s≠⟨j,2⟩)->lK s ps R k=R
 | [],k,_,_=>rfl
 | r :: R,k,h,h2=>by
  rw [lK,oP (λp hp=>h p (by rw [aW];exact bW _ hp)) (λj h3 h4=>h2 j @c (by rw [af];lia))];unfold lG;rw [if_neg (h2 k @T (by rw [af];lia)),aJ,sW λp hp=>h p (by rw [aW];exact dJ _ hp)]
inductive Spl (rows:Rows) (s:T2):Prop
 | at (R1 R2:Rows) (A B:@F) (x:T3) (e:rows=R1++(A++x :: B) :: R2) (hs:x.s=s)
 | mt (R1 R2:Rows) (e:rows=R1++[] :: R2) (hs:s=⟨(R1.length:Nat),2⟩)
theorem MU:∀ {rows:Rows} {k:Nat},s∈cm rows k->(∃ R1 R2 A B x,rows=R1++(A++x :: B) :: R2/\x.s=s)\/∃ R1 R2:Rows,rows=R1++[] :: R2/\s=⟨((k+R1.length:Nat):Int),2⟩
 | [],_,h=>@aH
 | r :: rs,k,h=>by
  rw [cm] at h;rcases List.mem_append.mp h with h | h
  .unfold fy at h;split at h
   .rename_i e;rw [eK] at h;exact .inr ⟨[],rs,by rw [e];rfl,h⟩
   .obtain⟨x,hx,e⟩:=List.mem_map.mp h;obtain⟨A,B,e2⟩:=qK hx;exact .inl ⟨[],rs,A,B,x,by rw [e2];rfl,e⟩
  .rcases MU h with ⟨R1,R2,A,B,x,e,e2⟩ | ⟨R1,R2,e,e2⟩
   .exact .inl ⟨r :: R1,R2,A,B,x,by rw [e];rfl,e2⟩
   .exact .inr ⟨r :: R1,R2,by rw [e];rfl,by rw [e2,af];congr 2;lia⟩
theorem IU(h:s∈cm rows 0):Spl rows s:=by
 rcases MU h with ⟨R1,R2,A,B,x,e,e2⟩ | ⟨R1,R2,e,e2⟩
 .exact .at R1 R2 A B x e e2
 .exact .mt R1 R2 e (by rw [e2,nk])
theorem s_b(p:T3):p.s.b=p.b:=rfl
theorem Qi.Xe(d:Qi rows)(h:p∈rows.flatten)(j):p.s≠⟨j,2⟩:=λe=>by
 have:=congrArg T2.b e;rw [s_b] at this;have h2:p.b=2:=this;rcases d.way p h with h | h <;> lia
theorem k7(R1 R2)(r:@F):(R1++r :: R2).flatten=R1.flatten++(r++R2.flatten):=by rw [cO,aW]
theorem Um(d:Qi (R1++(A++x :: B) :: R2)):lK x.s ps (R1++(A++x :: B) :: R2) 0=R1++(A++x :: (ps++B)) :: R2:=by
 have nd:=d.nd;rw [k7] at nd;simp only [aI,az,bD,aE] at nd;have nd1:=List.nodup_append.mp nd;have Xh:=List.nodup_append.mp nd1.2.1;have nd3:=List.nodup_cons.mp Xh.2.1;have hx:x∈(R1++(A++x :: B) :: R2).flatten:=by rw [k7];simp
 have h1:∀ p∈R1.flatten,p.s≠x.s:=λp hp e=>nd1.2.2 _ (List.mem_map.mpr ⟨p,hp,e⟩) _ @k rfl;have h2:∀ p∈A,p.s≠x.s:=λp hp e=>Xh.2.2 _ (List.mem_map.mpr ⟨p,hp,e⟩) _ @k rfl;have h3:∀ p∈B,p.s≠x.s:=λp hp e=>nd3.1 (dJ _ (List.mem_map.mpr ⟨p,hp,e⟩));have h4:∀ p∈R2.flatten,p.s≠x.s:=λp hp e=>nd3.1 (bW _ (List.mem_map.mpr ⟨p,hp,e⟩));rw [vK,lK,oP h1 λj _ _=>d.Xe hx _,oP h4 λj _ _=>d.Xe hx _];congr 2;unfold lG;rw [if_neg (d.Xe hx _),aJ,dA,di,sW h2,sW h3];congr 1;unfold Ej;rw [if_pos rfl];rfl
theorem Ul(d:Qi (R1++[] :: R2)):lK ⟨(R1.length:Nat),2⟩ ps (R1++[] :: R2) 0=R1++ps :: R2:=by
 have h1:∀ p∈R1.flatten,p.s≠⟨(R1.length:Nat),2⟩:=λp hp=>d.Xe (by rw [k7];simp [hp]) _;have h4:∀ p∈R2.flatten,p.s≠⟨(R1.length:Nat),2⟩:=λp hp=>d.Xe (by rw [k7];simp [hp]) _;have ne:∀ j:Nat,j≠R1.length->(⟨(R1.length:Nat),2⟩:T2)≠⟨(j:Nat),2⟩:=λj hj e=>by
  have:=congrArg T2.a e;simp only at this;lia
 rw [vK,lK,oP h1 λj _ hj=>ne j @c,oP h4 λj hj _=>ne j @c];congr 2;unfold lG;rw [if_pos (by rw [nk])];simp
end Mo
namespace Mo
open K2.P
open K2.qT (eI)
open K2.wZ (xj Ro vi)
open K2.A3 (yZ gi)
theorem Ro.aaR(h:Ro a b):b.length=a.length:=by
 induction h with
 | nil=>rfl
 | cons _ _ ih=>rw [af,af,ih]
theorem sM(h:Ro a b):b.flatten.Perm a.flatten:=by
 induction h with
 | nil=>exact .refl _
 | cons q _ ih =>
  have q:Eo _ _:=q;rw [aW,aW];exact q.perm.append ih
theorem Qi.ro(d:Qi a)(h:Ro a b):Qi b :=
 ⟨((sM h).map T3.s).nodup_iff.mpr d.nd,λp hp=>d.way p ((sM h).mem_iff.mp hp)⟩
theorem _root_.Internal.K2.Dr.ro(d:Dr a)(h:Ro a b):Dr b :=
 ⟨(d.dn.ro h).nd,(d.dn.ro h).way,λp hp=>d.hand p ((sM h).mem_iff.mp hp),λp hp=>(sM h).mem_iff.mpr (d.vN p ((sM h).mem_iff.mp hp)),by rw [(sM h).length_eq];exact d.kb,by rw [Ro.aaR h];exact d.str⟩
def FA(ns:@G)(rows:Rows):Rows:=rows.map (List.filter λp=>!decide (p.a∈ns))
theorem mH(d:Qi rows)(h:Spl rows s):(lK s ps rows 0).flatten.Perm (ps++rows.flatten):=by
 cases h with
 | «at» R1 R2 A B x e hs =>
  subst e hs;rw [Um d,k7,k7];simp only [bD,aE];have:(R1.flatten++(A++x :: (ps++(B++R2.flatten))))=(R1.flatten++(A++[x]))++(ps++(B++R2.flatten)):=@ad
  rw [this];have e2:ps++(R1.flatten++(A++x :: (B++R2.flatten)))=ps++((R1.flatten++(A++[x]))++(B++R2.flatten)):=@ad
  rw [e2];exact F9 _ _ _
 | mt R1 R2 e hs =>
  subst e hs;rw [Ul d,k7,k7,aJ];exact F9 _ _ _
theorem pU(s)(ps):∀ (rows:Rows) (k:Nat),(lK s ps rows k).length=rows.length
 | [],_=>rfl
 | r :: rows,k=>by rw [lK,af,af,pU s ps rows (k+1)]
theorem IG(h:(∃ A B,r=A++p :: q :: B)\/(∃ M,r=q :: M++[p])\/(r=[p]/\q=p)):(p,q)∈r.zip (d0 r):=by
 have go:∀ i:Nat,r[i]?=some p->(d0 r)[i]?=some q->(p,q)∈r.zip (d0 r):=λi h1 h2=>cT (i:=i) (List.getElem?_zip_eq_some.mpr ⟨h1,h2⟩);rcases h with ⟨A,B,rfl⟩ | ⟨M,rfl⟩ | ⟨rfl,rfl⟩
 .refine go A.length @k ?_;unfold d0;rw [bB @k,qI,Nat.add_comm,bb @c];simp
 .refine go (M.length+1) ?_ ?_
  .rw [bb @k];simp
  .unfold d0;rw [bb @k];simp
 .exact go 0 rfl rfl
theorem Eo.adj(h:Eo (p :: q :: T) r):(p,q)∈r.zip (d0 r):=by
 obtain⟨u,v,e,rfl⟩:=h.parts;refine IG ?_
 match u,e with
 | [],e=>exact .inl ⟨[],T,by simpa using e.symm⟩
 | [a],e =>
  simp at e;obtain⟨rfl,rfl⟩:=e;exact .inr (.inl ⟨T,rfl⟩)
 | a :: b :: u,e =>
  simp at e;obtain⟨rfl,rfl,rfl⟩:=e;exact .inl ⟨v,u,rfl⟩
theorem Eo.one(h:Eo [p] r):r=[p]:=by have:=h.perm;exact List.perm_singleton.mp this
theorem BZ(h:x∈r.zip (d0 r)):x∈pairsOf (R1++r :: R2):=by
 unfold pairsOf;rw [dA,di];exact bW _ (dJ _ h)
theorem NO(d:Dr (R1++r :: R2))(h:Eo (p :: q :: T) r):fm (dD (pairsOf (R1++r :: R2))) p.s=some q.s:=by
 rw [zQ d];exact(NK d (BZ h.adj)).1
theorem NP(d:Dr (R1++r :: R2))(h:Eo [p] r):fm (dD (pairsOf (R1++r :: R2))) p.s=some p.s:=by
 rw [zQ d];refine(NK d (BZ ?_)).1;rw [h.one];exact IG (.inr (.inr @aP))
end Mo
namespace K3
open K2.P K2.mj
def fU:gH:=λds G Q _=>∃ rows:Rows,ds=[@aq]/\rows.flatten.length < 64/\∀ p,G p=none->Q (@U) (dB G p @a6)
theorem eq_int(i j):iI (@Y) (.int j)=decide (i=j):=Enc.eqv i j
theorem M4{rows:Rows}(h:k < rows.length):oz (rows.map (enc:@F->D)) (0+(k:Int))=some (enc rows[k]):=by
 rw [Qs,gF _ @c (@az),bN];rfl
end K3
namespace A3
open K2.P
open K2.wZ (xj Ro)
open K2.qT (eI lH r8 mK)
open K2.mj (HR HR.fz)
def BW:fG :=
 (bz (cH (iJ (cW @i)) (bE (cA (dc aH))) bH)
 (bz (bh (kh qN xm @i (ag (fC FT @ac) aH)) (aG 1))
 (bE (cA (aN jS (yM @i (nQ @n) eF) (yM @i eF (nQ @n)))))))
def sJ:gH:=λds G Q _=>∃ r:@F,ds=[enc r]/\r.length<=1000/\∀ p,G p=none->Q (@U) (dB G p (.lst ((eI r).map enc)))
theorem Cz(ds)(G)(Q)(h:sJ ds G Q @w):BW @r @C (aT 2 ds) G:=by
 obtain⟨r,rfl,hl,q⟩:=h;unfold BW;refine bO (λτ G'=>G=G'/\r≠[]/\τ=[some (enc r),none]) ?_ ?_
 .intro N hN;simp only [cH,iJ,aT,az,aP,af,av,aX,aE,aJ,bE,cA,dc,aH,ends,bH,bM,ak,aa];cases r with
  | nil=>exact⟨@e,λp hp=>xx (.new hp) hp aA (q p hp)⟩
  | cons a t=>exact hN _ _ ⟨rfl,@ad,rfl⟩
 .rintro _ _ ⟨rfl,mQ,rfl⟩;simp only [ends,cD,bh,kh,ak,aa,ag,fC,aH,aG,bE,cA,aN,yM,ao,ah,eF,iz,ae];refine⟨trivial,r8 rfl mQ (mK trivial rfl mQ ?_)⟩;have hkl:r.idxOf (lH r)<=r.length:=xW;refine wZ.QV (IsL.enc r) hkl hl λp G1 l f g=>?_;exact xx l f g (q p f)
def rF:fG :=
 (bE (cA (dS 1 [] (fI @i) (aG 0) none (aZ sJ @ac))))
def cw:gH:=λds G Q _=>∃ rows:Rows,ds=[@aq]/\(rows.length<=1000/\∀ r∈rows,r.length<=1000)/\∀ p as G',HR G G' p as (rows.map eI)->Q (@U) G'
theorem si(ds)(G)(Q)(h:cw ds G Q @w):rF @r @C (aT 1 ds) G:=by
 obtain⟨rows,rfl,⟨hl,hr⟩,q⟩:=h;unfold rF;simp only [bE,cA,dS,aT,az,aP,af,av,aE,aJ,ends,bU,ak,aa];refine dq ⟨yB (by rw [ai];exact hl),?_⟩;refine fk (xs:=rows) (λpre acc τ G'=>(∃ a,τ=[a])/\∃ bs:@aC,acc=bs.map D.ref/\bs.length=pre.length/\bs.Nodup/\(∀ a∈bs,G a=none)/\@E/\∀ (i a:Nat) (r:@F),bs[i]?=some a->pre[i]?=some r->G' a=some (.lst ((eI r).map enc))) ⟨@ah,[],rfl,rfl,fL,(λa h=>@aH),.refl _,λi a r h=>by simp at h⟩ (λ_ _ _ _ _=>trivial) ?_ ?_
 .rintro pre r post acc τ G' N e ⟨⟨a,rfl⟩,bs,rfl,hl,nd,fr,le,El⟩ hN;simp only [aG,aZ,ag,ak,ah,aa,aH];refine⟨r,rfl,hr r (by rw [e];simp),λp hp=>?_⟩;have S2:p∉bs:=λz=>by
   obtain⟨i,hi⟩:=nX z;have h1:i < pre.length:=by rw [<-hl];exact(List.getElem?_eq_some_iff.mp hi).1
   rw [El i p pre[i] hi (aB h1)] at hp;cases hp
  refine hN _ _ _ ⟨@ah,bs++[p],@ad,by simp [hl],?_,?_,le.trans (.new hp),?_⟩
  .rw [jN];refine⟨nd,@ad,λa h b hb e=>?_⟩;rw [eK] at hb;subst hb e;exact S2 h
  .intro a h0;rcases List.mem_append.mp h0 with h | h
   .exact fr a h
   .rw [eK] at h;subst h;exact le.free hp
  .intro i b s h1 h2;by_cases hi:i < bs.length
   .rw [bB hi] at h1;rw [bB @c] at h2;have:b≠p:=by ext c;exact S2 (cT h1)
    rw [bL this];exact El i b s h1 h2
   .rw [bb @c] at h1 h2;have i0:i - bs.length=0:=by have:=(List.getElem?_eq_some_iff.mp h1).1;simp at this;lia
    rw [i0] at h1;rw [<-hl,i0] at h2;simp at h1 h2;subst h1 h2;exact aA
 .rintro acc τ G5 ⟨⟨a',rfl⟩,bs,rfl,hl,nd,fr,le,El⟩ p3 sS;refine c6 (q p3 bs _ ⟨le.trans (.new sS),le.free sS,aA,λz=>?_,nd,fr,by rw [ai];exact hl,λi b r h1 h2=>?_⟩)
  .obtain⟨i,hi⟩:=nX z;have h1:i < rows.length:=by rw [<-hl];exact(List.getElem?_eq_some_iff.mp hi).1
   rw [El i p3 rows[i] hi (aB h1)] at sS;cases sS
  .rw [bP] at h2;obtain⟨r',XF,rfl⟩:=Option.map_eq_some_iff.mp h2;exact(dM.new sS) _ _ (El i b r' h1 XF)
end A3
namespace Mo
open K2.P
open K2.K3 (fU Dc)
open K2.qT (eI)
open K2.mj (HR)
open K2.A3 (cw)
theorem nK{κ α:Type} [@bk] [Enc κ] [qr κ] [@ag] [Enc α]{l:List (κ×α)}{k:κ}{v:α}{G:Gp}{Q:DK}(hv:fm l k=@S)(q:Q (enc v) G):eB (.mC (dh l)) (enc k) G Q:=by
 rw [C8,Fj,hv];exact⟨uB l k,q⟩
def tV:fG :=
 (bE (cA (Lz (aN @ap (aN eB @i @n) @q) (aN @ap (aN eB @i @q) @n))))
def jr:gH:=λds G Q _=>∃ (l:@a7) (a b va vb:T2),ds=[.mC (dh l),enc a,enc b]/\(fm l a=some va/\fm l b=some vb)/\Q (.bl (decide (va=b)||decide (vb=a))) G
theorem Bz(ds)(G)(Q)(h:jr ds G Q @w):tV @r @C (aT 3 ds) G:=by
 obtain⟨l,a,b,va,vb,rfl,⟨ha,hb⟩,q⟩:=h;unfold tV;simp only [bE,cA,aT,az,aP,af,av,aE,aJ,ends,qj,aN,ak,aa,ae];refine nK ha (c8 @o ?_);simp only [aj,if_false,aM];by_cases h1:va=b
 .simp only [h1,decide_true,if_true];rw [h1] at q;simp only [decide_true,PZ] at q;exact c6 q
 .simp only [h1,decide_false,aj,if_false];refine nK hb (c8 @o ?_);simp only [h1,decide_false,tQ] at q;exact c6 q
def rD:fG :=
 (bE (cA (aZ jr (ag (aZ kD @ac) (ag (cy (ag @n (ag @M aH))) (ag (cy (ag @n (ag @z aH))) aH))))))
def jY:gH:=λds G Q _=>∃ (rows:Rows) (n:Int) (v0 v1:T2),ds=[@aq,.int n]/\(@bM/\fm @as ⟨n,0⟩=some v0/\fm @as ⟨n,1⟩=some v1)/\Q (.bl (decide (v0=⟨n,1⟩)||decide (v1=⟨n,0⟩))) G
theorem AK(ds)(G)(Q)(h:jY ds G Q @w):rD @r @C (aT 2 ds) G:=by
 obtain⟨rows,n,v0,v1,rfl,⟨hl,h0,h1⟩,q⟩:=h;unfold rD;simp only [bE,cA,aZ,ag,ak,aT,az,aP,af,av,aE,aJ,aa,aH,cy,ae,dC,ends];exact⟨rows,rfl,hl,⟨@e,@e,_,⟨n,0⟩,⟨n,1⟩,v0,v1,rfl,⟨h0,h1⟩,c6 q⟩⟩
def nI:fG :=
 (bz (bh (aZ fU @ac) (aG 2))
 (cS (fI @n) (aG 3) (cH (cW (aN (Df true) @I @q)) xI bH)))
def gB:gH:=λds G Q _=>∃ (rows:Rows) (d:D) (ns:@G),ds=[@aq,d]/\IsL G d (ns.map enc)/\(rows.flatten.length < 64/\∀ n∈ns,n∈@m)/\∀ G',@E->Q .dj G'
theorem wD(ds)(G)(Q)(h:gB ds G Q @w):nI @r @C (aT 4 ds) G:=by
 obtain⟨rows,d,ns,rfl,hd,⟨hl,hn⟩,q⟩:=h;unfold nI;simp only [ends,aT,az,aP,af,av,aX,aE,aJ,cD,bh,aZ,ag,ak,aa,aH,aG,ao,ah];refine⟨rows,rfl,hl,λp hp=>?_⟩;have le:=dM.new (o:=.lst ((@m).map enc)) hp;simp only [cS,bU,ak,ae,aa];refine Vi (hd.mono le) λok du=>?_;refine cK (xs:=ns) (λpre τ G'=>dB G p @a6=G'/\∃ a,τ=[@K,some d,@aj,a]) ⟨rfl,_,rfl⟩ (λ_ _ G' h=>du G' (by rw [h.1];exact .refl _)) ?_ ?_
 .rintro pre n post τ G' N e ⟨rfl,a,rfl⟩ hN;simp only [aG,cH,ao,ah,bH,bM,aN,ak,ae,aa];refine Dc (x:=n) (xs:=@m) @o aA ?_;have:n∈@m:=hn n (by rw [e];simp);simp only [this,decide_true,aY,if_true,aM,aj,if_false];exact hN _ _ ⟨rfl,_,rfl⟩
 .rintro τ G' ⟨rfl,a,rfl⟩;exact q _ le
def qA:fG :=
 (cH (iJ (cW @i)) xI bH)
def iu:gH:=λds G Q _=>∃ b:Bool,ds=[.bl b]/\b=true/\Q .dj G
theorem yP(ds)(G)(Q)(h:iu ds G Q @w):qA @r @C (aT 1 ds) G:=by
 obtain⟨b,rfl,rfl,q⟩:=h;unfold qA;simp only [cH,iJ,aT,az,aP,af,av,aE,aJ,ends,bH,bM,ak,aa,aM,aY,aj,if_false];exact q
theorem Nf{α:Type} [@ag] [Enc α]{neg:Bool}{x:α}{xs:@v}{d:D}{G:Gp}{Q:DK}(hd:Enc.dep α<=7)(h:IsL G d (@bi))(q:Q (.bl (if neg then !decide (x∈xs) else decide (x∈xs))) G):Df neg (enc x) d G Q:=by
 rcases h with rfl | ⟨a,rfl,e⟩
 .exact De hd q
 .exact Dc hd e q
def vm:fG :=
 (bz (bh (dc aH) (aG 2))
 (bz (cS (fI @i) (aG 3) (cp (kh qN eZ @q (ag (cA (dS 1 [1] (fI @I) (aG 0) (some (cW (aN (Df true) (aN eB @i @M) @n))) @i)) aH))))
 (bE (cA (aZ cw (ag (cA @q) aH))))))
def lS:gH:=λds G Q _=>∃ (rows:Rows) (d:D) (ns:@G),ds=[@aq,d]/\IsL G d (ns.map enc)/\(rows.length<=500/\∀ r∈rows,r.length<=500)/\∀ p as G',HR G G' p as ((FA ns rows).map eI)->Q (@U) G'
theorem D6(ds)(G)(Q)(h:lS ds G Q @w):vm @r @C (aT 4 ds) G:=by
 obtain⟨rows,d,ns,rfl,hd,⟨hl,hr⟩,q⟩:=h;unfold vm;simp only [ends,aT,az,aP,af,av,aX,aE,aJ,cD,bh,dc,aH,aG,ao,ah];refine⟨@e,λp hp=>?_⟩;refine bO (λτ G'=>@E/\G' p=some (.lst ((FA ns rows).map enc))/\∃ a,τ=[@K,some d,@aj,a]) ?_ ?_
 .intro N hN;simp only [cS,bU,ak,aa];refine dq ?_;refine cK (xs:=rows) (λpre τ G'=>@E/\G' p=some (.lst ((FA ns pre).map enc))/\∃ a,τ=[@K,some d,@aj,a]) ⟨.new hp,aA,_,rfl⟩ @am ?_ ?_
  .rintro pre r post τ G' N2 e ⟨l,g,a,rfl⟩ kz;have XD:=hr r (by rw [e];simp);have mP:pre.length < rows.length:=by have:=congrArg bS e;simp at this;lia
   simp only [aG,cp,kh,ak,ao,ah,ae,aa,ez,g,ag,cA,dS,aH,b8,bU,true_and];refine dq ⟨yB (@az),?_⟩;refine fk (xs:=r) (λpr acc τ G2=>G'=G2/\acc=(pr.filter λp=>!decide (p.a∈ns)).map enc/\∃ b,τ=[b,some d]) ⟨rfl,rfl,_,rfl⟩ (λ_ _ _ _ _=>trivial) ?_ ?_
   .rintro pr t po acc τ G2 N3 e3 ⟨rfl,rfl,b,rfl⟩ iM;simp only [aG,kd,ah,ak,aa,bM,aN,dC,ae,dg,AG];refine Nf (x:=t.a) @o (hd.mono l) ?_;simp only [if_true,aM];by_cases ht:t.a∈ns
    .simp only [ht,decide_true,aY,aj,if_false];exact iM _ _ _ ⟨rfl,by rw [cM];simp [ht],_,rfl⟩
    .simp only [ht,decide_false,a8,if_true];exact iM _ _ _ ⟨rfl,by rw [cM,aI];simp [ht,kd],_,rfl⟩
   .rintro acc τ G2 ⟨rfl,rfl,b,rfl⟩ p2 sT;refine gq (xs:=r.filter λp=>!decide (p.a∈ns)) (.new sT) sT aA ?_;simp only [g];refine⟨pL (by rw [ai];unfold FA;rw [ai];lia),kz _ _ ⟨l.put hp,?_,_,rfl⟩⟩;rw [aA];unfold FA;rw [aI,aI];rfl
  .rintro τ G' ⟨l,g,a,rfl⟩;exact hN _ _ ⟨l,g,a,rfl⟩
 .rintro _ G' ⟨l,g,a,rfl⟩;simp only [bE,cA,aZ,ag,ak,ae,aa,aH];refine gq (xs:=FA ns rows) l hp g ?_;refine⟨FA ns rows,rfl,⟨by unfold FA;rw [ai];lia,λr h=>?_⟩,λp' as G2 hr2=>c6 (q p' as G2 hr2)⟩;obtain⟨r',XF,rfl⟩:=List.mem_map.mp h;have:=hr r' XF;have h2:=cX (λp:T3=>!decide (p.a∈ns)) r';lia
end Mo
namespace Mo
open K2.P
open K2.qT (eI)
open K2.mj (HR)
open K2.wZ (xj Ro)
open K2.A3 (cw)
theorem Dq(h:HR G1 G' p as rs)(l:dM G G1):HR G G' p as rs :=
 ⟨l.trans h.le,l.free h.fp,h.gp,h.np,h.nd,λa ha=>l.free (h.fr a ha),h.len,h.at'⟩
theorem VE(d:@J):rows.length<=500/\(∀ r∈rows,r.length<=500)/\rows.flatten.length < 64:=by
 have:=d.kb;have h3:=d.str;refine⟨@d,λr hr=>?_,@d⟩;have:=mj.ix hr;lia
structure UnF(rows:Rows)(n:Int)(v0 v1:T2):Prop where
 len:rows.flatten.length < 64
 nm:n∈@m
 h0:fm @as ⟨n,0⟩=some v0
 h1:fm @as ⟨n,1⟩=some v1
 ft:v0=⟨n,1⟩\/v1=⟨n,0⟩
def oM:fG :=
 (bz (cp (aZ gB (ag @n (ag (dc (ag (gr ["Uncurl"] "name" @i) aH)) aH))))
 (cp (aZ iu (ag (aZ jY (ag @n (ag (gr ["Uncurl"] "name" @i) aH))) aH))))
def i5:gH:=λds G Q _=>∃ (p:Nat) (n:Int) (rows:Rows) (v0 v1:T2),ds=[@U,@aq]/\Tt G p (.un n)/\UnF rows n v0 v1/\∀ G',@E->Q .dj G'
theorem xR(ds)(G)(Q)(h:i5 ds G Q @w):oM @r @C (aT 2 ds) G:=by
 obtain⟨p,n,rows,v0,v1,rfl,g,u,q⟩:=h;have hlen:=u.len;unfold oM;simp only [ends,aT,az,aP,af,av,aE,aJ,gT,cp,aZ,ag,ak,ae,aa,dc,gr,aH];refine at_ g ⟨@e,λpl mP=>?_⟩;refine⟨rows,_,[n],rfl,.ref aA,⟨u.len,λm hm=>by rw [List.mem_singleton.mp hm];exact u.nm⟩,λG1 l1=>?_⟩;have L:=(dM.new mP).trans l1;refine at_ (L _ _ g) ?_;refine⟨rows,n,v0,v1,rfl,⟨@d,u.h0,u.h1⟩,_,rfl,?_,q _ L⟩;rw [fS,decide_eq_true_iff,decide_eq_true_iff];exact u.ft
def rJ:fG :=
 (bz (cp (mV [("Uncurl",i5)] "refuse" @i @aL))
 (bE (cA (aZ lS (ag @n (ag (dc (ag (gr ["Uncurl"] "name" @i) aH)) aH))))))
def gR:gH:=λds G Q _=>∃ (p:Nat) (n:Int) (rows:Rows) (v0 v1:T2),ds=[@U,@aq]/\Tt G p (.un n)/\(UnF rows n v0 v1/\rows.length<=500)/\∀ q as G',HR G G' q as ((FA [n] rows).map eI)->Q (.ref q) G'
theorem AO(ds)(G)(Q)(h:gR ds G Q @w):rJ @r @C (aT 2 ds) G:=by
 obtain⟨p,n,rows,v0,v1,rfl,g,⟨u,hl⟩,q⟩:=h;have hlen:=u.len;unfold rJ;simp only [ends,aT,az,aP,af,av,aE,aJ,gT,cp,mV,ak,aa,ag,ae,aH,bE,cA,aZ,dc,gr];refine⟨p,_,_,i5,rfl,g,List.mem_singleton.mpr rfl,rfl,⟨p,n,rows,v0,v1,rfl,g,u,λG1 l1=>?_⟩⟩;refine at_ (l1 _ _ g) ⟨@e,λpl mP=>?_⟩;refine⟨rows,_,[n],rfl,.ref aA,⟨hl,λr hr=>by have:=mj.ix hr;lia⟩,λp' as G' hr=>c6 (q p' as G' (Dq hr (l1.trans (.new mP))))⟩
end Mo
namespace Mo
open K2.P
open K2.qT (eI)
open K2.wZ (xj Ro vi)
open K2.A3 (yZ gi)
open K2.K3 (DF)
def tF(a b w h:Int):@F:=[⟨a,w,h⟩,⟨b,w,-h⟩]
def KU(a b t h:Int):@F:=if t=0 then tF a b 1 h else [⟨b,1,-h⟩,⟨a,1,h⟩]
theorem NY(a b t h):(KU a b t h).Perm (tF a b 1 h):=by
 unfold KU tF;split
 .exact .refl _
 .exact .swap _ _ _
structure ZP(rows:Rows)(a b:Int)(o u:T2)(t h:Int):Prop where
 d:@J
 kb:rows.flatten.length<=20
 ne:a≠b
 fa:∀ p∈rows.flatten,p.a≠a
 fb:∀ p∈rows.flatten,p.a≠b
 ho:o∈cm rows 0
 hu:u∈cm (@bm) 0
 hn:u≠@au
 ht:t=0\/t=1
 hh:h=1\/h=-1
def upr(rows:Rows)(a b:Int)(o:T2)(h:Int):Rows:=@bm
def raw(rows:Rows)(a b:Int)(o u:T2)(t h:Int):Rows:=lK u (KU a b t h) (upr rows a b o h) 0
theorem MB(c:ZP rows a b o u t h):Qi (upr rows a b o h):=by
 have pp:=mH (ps:=tF a b 0 h) c.d.dn (IU c.ho);have fr:∀ (n:Int),(∀ p∈rows.flatten,p.a≠n)->∀ w:Int,(⟨n,w⟩:T2)∉@bL:=λn hn w z=>by
  obtain⟨p,hp,e⟩:=List.mem_map.mp z;exact hn p hp (congrArg T2.a e)
 refine⟨?_,λp hp=>?_⟩
 .show ((@bm).flatten.map T3.s).Nodup;rw [(pp.map T3.s).nodup_iff,aI];show (@au :: ⟨b,0⟩ :: @bL).Nodup;rw [dE,dE];refine⟨λz=>?_,fr b c.fb 0,c.d.nd⟩;rcases List.mem_cons.mp z with z | z
  .exact c.ne (congrArg T2.a z)
  .exact fr a c.fa 0 z
 .rcases List.mem_append.mp (pp.mem_iff.mp hp) with h | h
  .simp only [tF,cg,cU,or_false] at h;rcases h with rfl | rfl <;> exact .inl rfl
  .exact c.d.way p h
theorem EW(c:ZP rows a b o u t h):(raw rows a b o u t h).flatten.Perm (⟨b,1,-h⟩ :: ⟨b,0,-h⟩ :: ⟨a,1,h⟩ :: ⟨a,0,h⟩ :: rows.flatten):=by
 have p1:=mH (ps:=tF a b 0 h) c.d.dn (IU c.ho);have p2:=mH (ps:=KU a b t h) (MB c) (IU c.hu);refine p2.trans (((NY a b t h).append p1).trans ?_);show (([⟨a,1,h⟩,⟨b,1,-h⟩]:@F)++(([⟨a,0,h⟩,⟨b,0,-h⟩]:@F)++rows.flatten)).Perm _;simp only [aE,aJ];refine(oA _ _ _).trans (.cons _ ?_);refine(List.Perm.cons _ (oA _ _ _)).trans ?_;exact oA _ _ _
theorem Uj(c:ZP rows a b o u t h):Dr (raw rows a b o u t h):=by
 have df:DF rows.flatten:=⟨c.d.nd,c.d.way,c.d.hand,c.d.vN⟩;have d1:=df.add (m:=a) (hd:=h) (λz=>by obtain⟨p,hp,e⟩:=List.mem_map.mp z;exact c.fa p hp e) c.hh;have d2:=d1.add (m:=b) (hd:=-h) (λz=>by
  obtain⟨p,hp,e⟩:=List.mem_map.mp z;rcases @bN with rfl | hp
  .exact c.ne e
  .rcases @bN with rfl | hp
   .exact c.ne e
   .exact c.fb p hp e) (by have:=c.hh;lia)
 have d3:=d2.perm (EW c);have hf:=c.kb;refine⟨d3.nd,d3.way,d3.hand,d3.vN,?_,?_⟩
 .rw [(EW c).length_eq];simp only [af];lia
 .show (lK u (KU a b t h) (@bm) 0).length<=3;rw [pU,pU];exact c.d.str
end Mo
namespace K3
open K2.P K2.mj
variable {rows:Rows}
end K3
namespace CA
open K2.P K2.mj
open K2.K3
variable {rows:Rows}
end CA
namespace CA
open K2.P K2.mj
open K2.K3
variable {rows:Rows}
def zH:fG :=
 (bz (cH (cW (aN Wc @n (fC gV @ac))) (bE (cA (aN eB @i @n))) bH)
 (bE (cA @M)))
def cx:gH:=nH
theorem sr(ds)(G)(Q)(h:cx ds G Q @w):zH @r @C (aT 2 ds) G:=yv ds G Q h
def mixed(c:Int):Int:=c % 1000003 * 48271 % 1000003
def gC:gH:=λds G Q _=>∃ c:Int,ds=[.int c]/\Q (.int (mixed c)) G
def vC:fG :=
 (bE (cA (aN jj (aN lF (aN jj @i (dC (.int 1000003))) (dC (.int 48271))) (dC (.int 1000003)))))
theorem wK(ds)(G)(Q)(h:gC ds G Q @w):vC @r @C (aT 1 ds) G:=by
 obtain⟨c,rfl,q⟩:=h;unfold vC;simp only [bE,cA,aN,ak,aT,az,aP,af,av,aE,aJ,aa,dC,ends,cF,ju];exact⟨@e,.inr ⟨@e,@e⟩,@e,c6 q⟩
def ky(L:@F):@G:=(L.filter λp=>p.b == 0).map (·.a)
def gZ:gH:=T4 (λrows:Rows=>@bM) λrows=>@a0
def vB:fG :=
 (bz (bh (dc aH) (aG 1))
 (bz (cS (fI @i) (aG 2) (cS (fI @q) (aG 3) (cH (cW (aN @ap (aN eB @I @z) @M)) (cp (kh qN eZ @n (ag (aN eB @I @M) aH))) bH)))
 (bE (cA @n))))
theorem kT(L):(ky L).length<=L.length:=by unfold ky;rw [ai];exact cX _ _
theorem Di(a b):ky (a++b)=ky a++ky b:=by unfold ky;rw [cM,aI]
theorem wJ(ds)(G)(Q)(h:gZ ds G Q @w):vB @r @C (aT 4 ds) G:=by
 obtain⟨rows,rfl,hl,q⟩:=h;unfold vB;simp only [ends,aT,az,aP,af,av,aX,aE,aJ,cD,bh,dc,aH,aG,ao,ah];refine⟨@e,λp hp=>?_⟩;refine bO (λτ G'=>(∃ a b,τ=[@K,@aj,a,b])/\@E/\G' p=some (.lst ((@a0).map enc))) ?_ ?_
 .intro N hN;simp only [cS,bU,ak,aa];refine dq ?_;refine cK (xs:=rows) (λpre τ G'=>(∃ a b,τ=[@K,@aj,a,b])/\@E/\G' p=some (.lst ((ky pre.flatten).map enc))) ⟨@aR,.new hp,aA⟩ @am ?_ ?_
  .rintro pre r post τ G' N2 e ⟨⟨a,b,rfl⟩,l,gp⟩ kz;have hlen:@bS:=by
    rw [e];simp only [cO,aW,aq];lia
   simp only [aG,cS,ao,ah,bU,ak,ae,aa];refine dq ?_;refine cK (xs:=r) (λpp τ G'=>(∃ a b,τ=[@K,@aj,a,b])/\@E/\G' p=some (.lst ((ky (pre.flatten++pp)).map enc))) ⟨@aR,l,by rw [bq];exact gp⟩ @am ?_ ?_
   .rintro pp t pt τ G4 N3 e4 ⟨⟨a,b,rfl⟩,l4,yF⟩ iM;have hpp:pp.length < r.length:=by have:=congrArg bS e4;simp at this;lia
    have hz:=kT (pre.flatten++pp);rw [aq] at hz;simp only [aG,kd,ao,ah,rN,cp,kh,ak,ae,aa,ez,ag,aN,dC,aH,b8,dg,AG,bH,bM,D0];refine⟨_,_,.int _,.int _,?_⟩;rw [eq_int];have eu:ky (pre.flatten++(pp++[t]))=ky (pre.flatten++pp)++ky [t]:=by rw [<-bD,Di]
    by_cases hb:t.b=0
    .simp only [aj,hb,decide_true,aY,if_false,aM,yF,true_and,if_true];refine⟨pL (@az),iM _ _ ⟨@aR,l4.put hp,?_⟩⟩;rw [aA,eu,aI];have:ky [t]=[t.a]:=by simp [ky,hb]
     rw [this];rfl
    .simp only [aj,hb,decide_false,a8,if_false,aM];refine iM _ _ ⟨@aR,l4,?_⟩;have:ky [t]=[]:=by simp [ky,hb]
     rw [eu,this,bq];exact yF
   .rintro τ G4 ⟨⟨a,b,rfl⟩,l4,yF⟩;refine kz _ _ ⟨@aR,l4,?_⟩;have:(pre++[r]).flatten=pre.flatten++r:=@ad
    rw [this];exact yF
  .rintro τ G' ⟨⟨a,b,rfl⟩,l,gp⟩;exact hN _ _ ⟨@aR,l,gp⟩
 .rintro _ G' ⟨⟨a,b,rfl⟩,l,gp⟩;simp only [bE,cA,ak,ae,aa];exact gq l hp gp q
def gX:gH:=λds G Q _=>∃ (ns:@G) (c:Int),ds=[enc ns,.int c]/\ns.length<=500/\∀ m:Int,m∉ns->1<=m->m<=999->Q (.int m) G
def yc:fG :=
 (bz (bh (aN jS @z (aN jj @n (dC (.int 999)))) (aG 2))
 (bz (DR (cW (aN (Df false) @q @i)) (bh (aN jS @z (aN jj @q (dC (.int 999)))) (aG 2)))
 (bE (cA @q))))
theorem yu(ds)(G)(Q)(h:gX ds G Q @w):yc @r @C (aT 3 ds) G:=by
 obtain⟨ns,c,rfl,hl,q⟩:=h;unfold yc;simp only [ends,aT,az,aP,af,av,aX,aE,aJ,cD,bh,aN,dC,ak,ae,aa,aG,ao,ah,cF,eX];refine⟨@e,?_⟩;have b1:1<=1+c % 999:=@d
 have b2:1+c % 999<=999:=@d
 generalize 1+c % 999=n at *;refine bO (λτ G'=>G=G'/\∃ m:Int,(m∉ns/\1<=m/\m<=999)/\τ=[some (enc ns),@aX,some (.int m)]) ?_ ?_
 .intro N hN;obtain⟨k,hk,mR⟩:=we (ns:=ns) b1 b2 hl;have main:∀ (j:Nat),j<=k->yA (cW (aN (Df false) @q @i)) (bh (aN jS @z (aN jj @q (dC (.int 999)))) (aG 2)) (j+1) @r { ends Q with nx:=N } [some (enc ns),@aX,some (.int (fit n (k - j)))] G:=by
   intro j;induction j with
   | zero =>
    intro _;show yA _ _ (0+1) _ _ _ _;rw [yA];simp only [bh,aN,dC,ak,ae,aa,aG,ends,ao,ah,cF,eX,bM];refine De (x:=fit n (k - 0)) @o ?_;simp only [aj,Qp,mR,decide_false,a8,if_false,aM];have:=ou b1 b2 k;exact hN _ _ ⟨rfl,_,⟨mR,@d,@d⟩,rfl⟩
   | succ j ih =>
    intro hj;rw [yA];simp only [bh,aN,dC,ak,ae,aa,aG,ends,ao,ah,cF,eX,bM];refine De (x:=fit n (k - (j+1))) @o ?_;have hb:=ou b1 b2 (k - (j+1));by_cases hm:fit n (k - (j+1))∈ns
    .simp only [aj,hm,decide_true,aY,if_false,aM,if_true];refine⟨@e,?_⟩;have e:1+fit n (k - (j+1)) % 999=fit n (k - j):=by
      rw [show k - j=(k - (j+1))+1 by lia,Int.add_comm];rfl
     rw [e];exact ih @c
    .simp only [aj,hm,decide_false,a8,if_false,aM];exact hN _ _ ⟨rfl,_,⟨hm,@d,@d⟩,rfl⟩
  have:=main k @T;rw [qS] at this;exact⟨k+1,this⟩
 .rintro _ _ ⟨rfl,m,⟨m1,m2,m3⟩,rfl⟩;simp only [bE,cA,ak,ae,aa];exact c6 (q m m1 m2 m3)
structure HA(G G':Gp)(as:@aC)(rs:Rows):Prop where
 le:@E
 nd:as.Nodup
 fr:∀ a∈as,G a=none
 len:as.length=rs.length
 at':∀ (i a:Nat) (r:@F),as[i]?=some a->rs[i]?=some r->G' a=some (.lst (@aM))
theorem HA.nil(G):HA G G [] []:=⟨.refl _,fL,(λa h=>@aH),rfl,λi a r h=>by simp at h⟩
theorem HA.new(h:HA G G' as rs)(hp:G' p=none):p∉as:=λz=>by
 obtain⟨i,hi⟩:=nX z;have h1:i < rs.length:=by rw [<-h.len];exact(List.getElem?_eq_some_iff.mp hi).1
 rw [h.at' i p rs[i] hi (aB h1)] at hp;cases hp
theorem HA.push(h:HA G G' as rs)(hp:G' p=none)(r):HA G (dB G' p (.lst (@aM))) (as++[p]) (rs++[r]):=by
 have S2:=h.new hp;refine⟨h.le.trans (.new hp),?_,?_,by simp [h.len],?_⟩
 .rw [jN];refine⟨h.nd,@ad,λa ha b hb e=>?_⟩;rw [eK] at hb;subst hb e;exact S2 ha
 .intro a h0;rcases List.mem_append.mp h0 with z | z
  .exact h.fr a z
  .rw [eK] at z;subst z;exact h.le.free hp
 .intro i b s h1 h2;by_cases hi:i < as.length
  .rw [bB hi] at h1;rw [bB (by rw [<-h.len];lia)] at h2;have:b≠p:=by ext c;exact S2 (cT h1)
   rw [bL this];exact h.at' i b s h1 h2
  .rw [bb @c] at h1;rw [bb (by rw [<-h.len];lia)] at h2;have i0:i - as.length=0:=by have:=(List.getElem?_eq_some_iff.mp h1).1;simp at this;lia
   rw [i0] at h1;rw [<-h.len,i0] at h2;simp at h1 h2;subst h1 h2;exact aA
theorem HA.top(h:HA G G' as rs)(hp:G' p=none):HR G (dB G' p (.lst (as.map D.ref))) p as rs :=
 ⟨h.le.trans (.new hp),h.le.free hp,aA,h.new hp,h.nd,h.fr,h.len,λi b r h1 h2=>(dM.new hp) _ _ (h.at' i b r h1 h2)⟩
theorem DT{rows:Rows}{G:Gp}{Q:DK}(hl:rows.length<=1000){τ:ie}(q:∀ G' p as,HR G G' p as rows->Q (@U) G') :
  Le (@aq) G λds ok G1=>ds.length<=SZ/\iR (aG 0) none (fC nS @ac) ok ds @r (ql 1 [] τ) G1 [] λxs G2=>iQ G2 (.lst xs) Q:=by
 refine dq ⟨yB (by rw [ai];exact hl),?_⟩;refine fk (xs:=rows) (λpre acc τ G'=>(∃ a,τ=[a])/\∃ as:@aC,acc=as.map D.ref/\HA G G' as pre) ⟨@ah,[],rfl,.nil G⟩ (λ_ _ _ _ _=>trivial) ?_ ?_
 .rintro pre r post acc τ G' N e ⟨⟨a,rfl⟩,as,rfl,h⟩ hN;simp only [aG,fC,ag,ak,ah,aa,aH];refine wx (IsL.enc r) λp hp=>?_;exact hN _ _ _ ⟨@ah,as++[p],@ad,h.push hp r⟩
 .rintro acc τ G' ⟨⟨a,rfl⟩,as,rfl,h⟩ p hp;exact q _ p as (h.top hp)
def gh:gH:=λds G Q _=>∃ (rows:Rows) (c:Int),ds=[@aq,.int c]/\(1<=rows.length/\rows.length<=3/\rows.flatten.length<=22) /\
 ∀ (vh:Rows) (m hd:Int),vh.length=rows.length->vh.flatten.Perm (⟨m,1,hd⟩ :: ⟨m,0,hd⟩ :: rows.flatten)->m∉@a0->(hd=1\/hd=-1)->Q (enc vh) G
def rH:fG :=
 (bz (bh (aZ gX (ag (aZ gZ @ac) @aL)) (aG 2))
 (bz (bh (aZ gC @aL) (aG 3))
 (bz (bh (aN C6 @z (aN lF @an (aN jj @I @an))) (aG 4))
 (bz (bh (aN kY @I @an) (aG 3))
 (bz (bh (dS 1 [] (fI @i) (aG 0) none (fC nS @ac)) (aG 5))
 (bz (cS (mO @an) (aG 6) (bz (bh (aN eB (ak 5) (aN jj @I (fC gV (ag (ak 5) aH)))) (aG 7))
 (bz (bh (aN kY @I (fC gV (ag (ak 5) aH))) (aG 3))
 (bz (cp (kh qN nO (ak 7) (ag (aN jj @I (aN jS (fC gV (ag (ak 7) aH)) @z)) (ag (cy (ag @q (ag (ak 6) (ag (ak 4) aH)))) aH))))
 (bh (aN kY @I (fC gV (ag (ak 7) aH))) (aG 3))))))
 (bE (cA (ak 5)))))))))
theorem sk(ds)(G)(Q)(h:gh ds G Q @w):rH @r @C (aT 8 ds) G:=by
 obtain⟨rows,c,rfl,⟨n1,n3,hf⟩,q⟩:=h;unfold rH;simp only [ends,aT,az,aP,af,av,aX,aE,aJ,cD,bh,aZ,ag,ak,aa,aH,ae,aG,ao,ah,aN,dC,dS,bU];refine⟨rows,rfl,(show @bM by lia),?_⟩;have ol:=kT rows.flatten;refine⟨@a0,c,rfl,@d,λm hm m1 m2=>?_⟩;simp only [cA,aT,ends,bM,aN,Bt,ak,fC,kh,ag,aH,bE,FH,cp,bh,aG,dC,bH,cy,dc,uH,kU,wo,uO,iJ,k9,qj,pq,yM,iz,eF,bU,fO,aZ,dS,eX,rL,j9,mG,j8,ju,cF,fc,iO,pR,vI,pS,vJ,dg,kX,lX,vH,pQ,lg,lb,pA,b8,jP,iP,iw,ez,sI,u3,uZ,true_and,and_true,sR,sQ,gk,aM,e8,mN,vV,k6,az,aP,aE,aJ,aa,ae,ah,ao,af,av,aX,if_true,if_false,aY,a8,aj,cD,gT];refine⟨c,rfl,?_⟩;simp only [fc,cF,ju,j8];have mx:0<=mixed c:=by unfold mixed;lia
 generalize mixed c=x at *;refine⟨@e,.inl ⟨@e,@e⟩,@e,@e,?_⟩;have hh:1 - 2 * (x % 2)=1\/1 - 2 * (x % 2)=-1:=@d
 generalize 1 - 2 * (x % 2)=hd at *;have x2:0<=x / 2:=@d
 generalize x / 2=x at *;refine DT (rows:=rows) @c λG1 p0 as hr=>?_;refine bO (λτ G'=>(∃ a b e,τ=[@K,@aX,some (.int m),a,some (.int hd),some (.ref p0),b,e])/\∃ QU,HR G G' p0 as QU/\QU.length=rows.length/\QU.flatten.Perm (⟨m,1,hd⟩ :: ⟨m,0,hd⟩ :: rows.flatten)) ?_ ?_
 .intro N hN;simp only [cS,fO,dC,e8];refine⟨@e,@e,?_⟩;unfold dN;refine cK (xs:=bZ (2:Int).toNat) (λpw τ G'=>∃ QU y,0<=y/\(∃ b e,τ=[@K,@aX,some (.int m),some (.int y),some (.int hd),some (.ref p0),b,e])/\HR G G' p0 as QU/\QU.length=rows.length/\QU.flatten.Perm ((pw.map λ(i:Nat)=>(⟨m,0+(i:Int),hd⟩:T3)).reverse++rows.flatten)) ⟨rows,x,x2,@aR,hr,rfl,.refl _⟩ @am ?_ ?_
  .rintro pw w post τ G2 N2 e ⟨rs,y,y0,⟨b1,b2,rfl⟩,h2,l2,p2⟩ kz;have hw:pw.length < 2:=by
    have:=congrArg bS e;rw [cV,aq,af] at this;have h4:(2:Int).toNat=2:=rfl;lia
   simp only [aG,ao,ah,gS,bh,aN,ak,ae,aa,fC,ag,aH,cp,kh,dC,cy,af,av];refine h8 (IsL.ref h2.gp) ?_;rw [ai,h2.len];simp only [cF];refine⟨@d,?_⟩;have j1:0<=y % (rs.length:Int):=iF _ @c;have j2:y % (rs.length:Int) < rs.length:=fZ _ @c;generalize y % (rs.length:Int)=j at *;obtain⟨a,r,ea,er,ga,xa⟩:=HR.at_ h2 j1 j2;refine fh (IsL.ref h2.gp) xa ?_;refine h8 (IsL.ref h2.gp) ?_;rw [ai,h2.len];have y3:0<=y / (rs.length:Int):=Int.ediv_nonneg y0 @c;simp only [ez,fc,ga,true_and];refine⟨@d,@d,?_⟩;generalize y / (rs.length:Int)=y at *;refine h8 (IsL.ref ga) ?_;rw [ai];simp only [eX,cF,iP];have k1:0<=y % ((r.length:Int)+1):=iF _ @c;have k2:y % ((r.length:Int)+1) < (r.length:Int)+1:=fZ _ @c;refine⟨@d,@e,?_⟩;generalize y % ((r.length:Int)+1)=k at *;have rl:r.length<=24:=by
    have h3:=ix (cT er);have h4:=p2.length_eq;rw [aq,List.length_reverse,ai] at h4;lia
   simp only [ga];refine⟨k1,@az,pL (@az),?_⟩;rw [show (D.tup [.int m,.int (0+(w:Int)),.int hd])=enc (⟨m,0+(w:Int),hd⟩:T3) from rfl,R4];have h5:=h2.put (r':=ins r k.toNat ⟨m,0+(w:Int),hd⟩) ea;have g5:(dB G2 a (.lst ((ins r k.toNat ⟨m,0+(w:Int),hd⟩).map enc))) a=some (.lst ((ins r k.toNat ⟨m,0+(w:Int),hd⟩).map enc)):=aA;generalize dB G2 a (.lst ((ins r k.toNat ⟨m,0+(w:Int),hd⟩).map enc))=G5 at *;refine h8 (IsL.ref g5) ?_;rw [ai];simp only [fc];have li:(ins r k.toNat (⟨m,0+(w:Int),hd⟩:T3)).length=r.length+1:=by
    have:=(Fq r k.toNat (⟨m,0+(w:Int),hd⟩:T3)).length_eq;rw [af] at this;exact this
   rw [li];refine⟨@d,@d,?_⟩;refine kz _ _ ⟨_,_,Int.ediv_nonneg y3 @c,@aR,h5,by rw [jA];exact l2,?_⟩;refine(EO (Fq _ _ _) rs _ er).trans ?_;rw [aI,List.reverse_append];exact .cons _ p2
  .rintro τ G2 ⟨rs,y,y0,⟨b1,b2,rfl⟩,h2,l2,p2⟩;exact hN _ _ ⟨⟨_,_,_,rfl⟩,rs,h2,l2,p2⟩
 .rintro _ G2 ⟨⟨a,b,e,rfl⟩,rs,h2,l2,p2⟩;simp only [bE,cA,ak,ae,aa];exact h2.fz (q rs m hd l2 p2 hm hh)
end CA
namespace CA
open K2.P K2.mj
open K2.K3
variable {rows:Rows}
end CA
namespace LM
open K2.P
open K2.Mo
open K2.qT (eI lH r8 mK)
open K2.mj (HR iK)
open K2.wZ (xj Ro)
open K2.A3 (cw)
theorem Nh(a)(r):lK s ps (a++[r]) 0=lK s ps a 0++[lG s ps a.length r]:=by
 rw [vK];simp [lK]
theorem C3:∀ (r:@F),(r.flatMap (Ej s ps)).length<=r.length * (ps.length+1)
 | []=>@ad
 | a :: r=>by
  rw [di,aq,af,Nat.add_mul];have:=C3 (s:=s) (ps:=ps) r;have h2:(Ej s ps a).length<=ps.length+1:=by unfold Ej;split <;> simp
  lia
def zG:fG :=
 (bz (bh (dc aH) (aG 3))
 (bz (cS (mO (fC gV @ac)) (aG 4) (bz (bh (dc aH) (aG 5))
 (bz (cH (cW (aN @ap @n (cy (ag (ak 4) (ag @an aH))))) (bh (fC nS (ag @q aH)) (aG 5)) bH)
 (bz (cS (fI (aN eB @i (ak 4))) (aG 6) (bz (cp (kh qN eZ (ak 5) (ag (cA (ak 6)) aH)))
 (cH (cW (aN @ap @n (cy (ag (aN eB (ak 6) @M) (ag (aN eB (ak 6) @z) aH))))) (bh (aN jS (ak 5) @q) (aG 5)) bH)))
 (cp (kh qN eZ @I (ag (cA (ak 5)) aH)))))))
 (bE (cA @I))))
def jJ:gH:=λds G Q _=>∃ (rows:Rows) (s:T2) (d:D) (ps:@F),ds=[@aq,enc s,d]/\IsL G d (ps.map enc)/\(rows.length<=100/\(∀ r∈rows,r.length<=100)/\ps.length<=4)/\Q (enc (lK s ps rows 0)) G
theorem AN(ds)(G)(Q)(h:jJ ds G Q @w):zG @r @C (aT 7 ds) G:=by
 obtain⟨rows,s,d,ps,rfl,hd,⟨hl,hr,hps⟩,q⟩:=h;unfold zG;simp only [ends,aT,az,aP,af,av,aX,aE,aJ,cD,bh,dc,aH,aG,ao,ah];refine⟨@e,λp hp=>?_⟩;refine bO (λτ G'=>@E/\G' p=some (.lst ((lK s ps rows 0).map enc))/\∃ a b c,τ=[@K,some (enc s),some d,@aj,a,b,c]) ?_ ?_
 .intro N hN;simp only [cS,fO,fC,ag,ak,aa,aH];refine h8 (IsL.enc rows) ?_;simp only [ai,e8];refine⟨@d,@d,?_⟩;refine Aj (λpre τ G'=>@E/\G' p=some (.lst ((lK s ps (rows.take pre.length) 0).map enc))/\∃ a b c,τ=[@K,some (enc s),some d,@aj,a,b,c]) ⟨.new hp,aA,_,_,_,rfl⟩ @am ?_ ?_
  .rintro pre x post τ G1 N1 e ⟨l1,g1,a,b,c,rfl⟩ Wr;obtain⟨rfl,hk⟩:=pP e;have hk:pre.length < rows.length:=by simpa using hk
   obtain⟨r,er⟩:∃ r,rows[pre.length]?=some r:=⟨rows[pre.length],aB hk⟩;have XD:=hr r (cT er);have El:oz (rows.map enc) (@bc:Int)=some (enc r):=by
    rw [gF _ @c (@az)];simp only [b0,bN];rw [aB hk] at er;injection er with er
    rw [er]
   simp only [aG,ao,ah,cD,bh,dc,aH,av];refine⟨@e,λp5 Lh=>?_⟩
   let X:@F:=if s=⟨@bc,2⟩ then ps else []
   let mz:D->Option D->ie:=λx c=>[@K,some (enc s),some d,@aj,some (.int @bc),some x,c]
   have hX:X.length<=4:=by
    show (if s=⟨@bc,2⟩ then ps else []).length<=4;split
    .lia
    .simp
   refine bO (λτ G2=>∃ a,dM G1 G2/\G1 a=none/\G2 a=some (.lst (X.map enc))/\τ=mz @Q c) ?_ ?_
   .intro N hN;simp only [cH,bh,fC,ag,ak,ae,aa,aH,aG,ao,ah,bH,bM,aN,cy,dC,af,av];refine⟨@e,?_⟩;refine c8 (x:=s) (y:=(⟨@bc,2⟩:T2)) @o ?_;by_cases hs:s=⟨@bc,2⟩
    .rw [show decide (s=(⟨@bc,2⟩:T2))=true from decide_eq_true hs];simp only [aj,aY,if_false,aM,if_true];refine wx (hd.mono (l1.trans (.new Lh))) λp6 Ma=>hN _ _ ⟨p6,(dM.new Lh).trans (.new Ma),(dM.new Lh).free Ma,?_,rfl⟩;show _=some (GO.lst ((if s=⟨@bc,2⟩ then ps else []).map enc));rw [if_pos hs];exact aA
    .simp only [aj,hs,decide_false,a8,if_false,aM];refine hN _ _ ⟨p5,.new Lh,Lh,?_,rfl⟩;show _=some (GO.lst ((if s=⟨@bc,2⟩ then ps else []).map enc));rw [if_neg hs];exact aA
   rintro _ G2 ⟨a2,l2,f2,g2,rfl⟩;refine bO (λτ G3=>∃ a c,dM G1 G3/\G1 a=none/\G3 a=some (.lst ((lG s ps pre.length r).map enc))/\τ=mz @Q c) ?_ ?_
   .intro N hN;simp only [cS,bU,aN,ak,aa,ae,mz];refine fh (IsL.enc rows) El (dq ?_);refine cK (xs:=r) (λpr τ G3=>∃ a c,dM G1 G3/\G1 a=none/\G3 a=some (.lst ((X++pr.flatMap (Ej s ps)).map enc))/\τ=mz @Q c) ⟨a2,c,l2,f2,by simpa using g2,rfl⟩ @am ?_ ?_
    .rintro pr t po τ G3 N3 e3 ⟨a3,c3,l3,f3,g3,rfl⟩ iM;have mP:pr.length < r.length:=by have:=congrArg bS e3;simp at this;lia
     have hz:=C3 (s:=s) (ps:=ps) pr;have Xw:pr.length * (ps.length+1)<=100 * 5:=Nat.mul_le_mul @c @c;simp only [aG,ao,ah,gT,cp,kh,ak,ae,aa,ez,g3,ag,cA,aH,b8,true_and,mz];refine c6 ?_;simp only [g3];refine⟨pL (by rw [ai,aq];lia),?_⟩;simp only [cH,kd,bh,aN,ak,ae,aa,aG,ao,ah,j9,bH,bM,cy,ag,dC,aH,af,av,dg,D0,AG];refine⟨@e,?_⟩;refine c8 (x:=s) (y:=t.s) @o ?_;have e4:(X++pr.flatMap (Ej s ps)).map enc++[D.tup [.int t.a,.int t.b,.int t.c]]=(X++pr.flatMap (Ej s ps)++[t]).map (enc (α:=T3)):=by rw [aI (l₁:=X++pr.flatMap (Ej s ps))];rfl
     rw [e4];by_cases hs:s=t.s
     .rw [show decide (s=t.s)=true from decide_eq_true hs];simp only [aj,aY,if_false,aM,if_true];refine pT (.ref aA) (hd.mono ((l1.trans l3).put (l1.free f3))) (yB (by simp only [ai,aq,bC];lia)) λp7 hp7=>?_;refine iM _ _ ⟨p7,_,(l3.put f3).trans (.new hp7),(l3.put f3).free hp7,?_,rfl⟩;rw [aA,dA,di,nG];have:Ej s ps t=t :: ps:=by unfold Ej;rw [if_pos hs.symm]
      rw [this,<-aI];simp
     .simp only [aj,hs,decide_false,a8,if_false,aM];refine iM _ _ ⟨a3,_,l3.put f3,f3,?_,rfl⟩;rw [aA,dA,di,nG];have:Ej s ps t=[t]:=by unfold Ej;rw [if_neg λz=>hs z.symm]
      rw [this,bq,bD]
    .rintro τ G3 ⟨a3,c3,l3,f3,g3,rfl⟩;exact hN _ _ ⟨a3,c3,l3,f3,g3,rfl⟩
   rintro _ G3 ⟨a3,c3,l3,f3,g3,rfl⟩;simp only [cp,kh,ak,ae,aa,ez,l3 _ _ g1,ag,cA,aH,b8,true_and,mz];have hz:=C3 (s:=s) (ps:=ps) r;have Xw:r.length * (ps.length+1)<=100 * 5:=Nat.mul_le_mul @c @c;refine gq (xs:=lG s ps pre.length r) l3 f3 g3 ?_;simp only [g1];have hrp:rows.take (pre.length+1)=rows.take pre.length++[r]:=by
    rw [IB,er];rfl
   refine⟨pL (by rw [ai,pU,dF];lia),Wr _ _ ⟨l1.put hp,?_,_,_,_,rfl⟩⟩;rw [aA,aq,bC,hrp,Nh,dF,w9 @c];rw [aI (l₁:=lK s ps (rows.take pre.length) 0)];rfl
  .rintro τ G' ⟨l,g,a,b,c,rfl⟩;refine hN _ _ ⟨l,?_,a,b,c,rfl⟩;have:rows.take (dN 0 (rows.length:Int).toNat).length=rows:=by unfold dN;simp
   rw [this] at g;exact g
 .rintro _ G' ⟨l,g,a,b,c,rfl⟩;simp only [bE,cA,ak,ae,aa];exact gq l hp g q
end LM
namespace LM
open K2.P
open K2.Mo
open K2.qT (eI lH r8 mK)
open K2.mj (HR iK)
open K2.wZ (xj Ro)
open K2.A3 (cw)
theorem ER(r):(eI r).length=r.length:=(M5 r).perm.length_eq
def dU:fG :=
 (bz (cH (uO (iJ (cW (uG "tuple" @i))) (cW (aN (kS true) (fC gV @ac) (fC gV @aL)))) @a4 bH)
 (bz (cS (fI @i) (aG 2) (cH (iJ (cW (aZ iX (ag @q aH)))) @a4 bH))
 (bE (cA (aN @ap @i @n)))))
def cN:gH:=Mo.cN
theorem dW(ds)(G)(Q)(h:cN ds G Q @w):dU @r @C (aT 3 ds) G:=Mo.dW ds G Q h
def eE:fG :=
 (bz (cH (uO (iJ (cW (uG "tuple" @i))) (cW (aN (kS true) (fC gV @ac) (fC gV @aL)))) @a4 bH)
 (bz (cH (uO (iJ (cW (uG "str" (aN eB @i @M)))) (cW (aN (kS true) (aN eB @i @M) (aN eB @n @M)))) @a4 bH)
 (bz (cS (Cd @z (fC gV @aL)) (aG 2) (cH (cW (uG "tuple" (aN eB @n @q))) (cH (iJ (cW (aZ cN (ag (aN eB @i @q) (ag (aN eB @n @q) aH))))) @a4 bH) (cH (uO (iJ (cW (aZ iX (ag (aN eB @i @q) aH)))) (cW (aN (kS true) (aN eB @i @q) (aN eB @n @q)))) @a4 bH)))
 (bE (cA (dC (.bl true)))))))
def cJ:gH:=Mo.cJ
theorem eG(ds)(G)(Q)(h:cJ ds G Q @w):eE @r @C (aT 3 ds) G:=Mo.eG ds G Q h
end LM
namespace PM
open K2.P
section
variable {α β:Type} [@ag] [DecidableEq β]
variable {V:@v} {R:α->α->Prop}
variable {f:α->α}
theorem NQ:∀ (xs ys:@v),xs.Nodup->(∀ x∈xs,x∈ys)->xs.length<=ys.length
 | [],_,_,_=>ck _
 | x :: xs,ys,hn,h=>by
  rw [dE] at hn;have:=NQ xs (ys.erase x) hn.2 λy hy=>(xV (show y≠x from λz=>hn.1 (by rw [<-z];exact hy))).mpr (h y (aL _ hy));have hx:=h x @k;rw [sD hx] at this;have:=lP hx;rw [af];lia
end
end PM
namespace PM
open K2.P
variable {rows:Rows}
end PM
namespace K13
open K2.P K2.mj
variable {rows:Rows}
theorem rN:cH c a b E K τ G=c E τ G λk G1=>if k=true then a E K τ G1 else b E K τ G1:=rfl
end K13
namespace K13
open K2.P K2.mj
variable {rows:Rows}
end K13
namespace PM
open K2.P
variable {rows:Rows}
theorem zR(d:@J):(@m).Nodup:=by
 unfold names;refine BO ?_;have h:(rows.flatten.filter λp=>p.b == 0).Pairwise λp q=>p.s≠q.s:=by
  have:=d.nd;unfold J7 at this;rw [cL] at this;exact this.filter _
 unfold J7;rw [cL];refine h.imp_of_mem λ{p q} hp hq ne z=>ne ?_;have h1:p.b=0:=by simpa using (List.mem_filter.mp hp).2
 have h2:q.b=0:=by simpa using (List.mem_filter.mp hq).2
 unfold T3.s;rw [z,h1,h2]
theorem twice(d:@J):rows.flatten.length=2 * (@m).length:=by
 have e0:(@m).length=(rows.flatten.filter λp=>p.b == 0).length:=by unfold names;rw [QL,ai]
 have nd:rows.flatten.Nodup:=by
  have:=d.nd;unfold J7 at this;rw [cL] at this;exact this.imp λ{u v} q z=>q (by rw [z])
 have h1:rows.flatten.length=(rows.flatten.filter λp=>p.b == 0).length+(rows.flatten.filter λp=>!(p.b == 0)).length:=by
  rw [<-Ez,<-Ez];rw [List.length_eq_countP_add_countP (λp:T3=>p.b == 0) (l:=rows.flatten)];congr 1;refine List.countP_congr λx _=>?_;simp
 have SU:∀ {L:@F},L.Nodup->(L.map om).Nodup:=by
  intro L h;unfold J7;rw [cL];exact h.imp λ{u v} q z=>q (by rw [<-SS u,z,SS])
 have a1:=NQ ((rows.flatten.filter λp=>p.b == 0).map om) (rows.flatten.filter λp=>!(p.b == 0)) (SU (nd.filter _)) λx hx=>by
  obtain⟨p,hp,rfl⟩:=List.mem_map.mp hx;obtain⟨h1,h2⟩:=List.mem_filter.mp hp;have h2:p.b=0:=@bl
  refine List.mem_filter.mpr ⟨NJ d h1,?_⟩;show (!(1 - p.b == 0))=true;rw [h2];rfl
 have a2:=NQ ((rows.flatten.filter λp=>!(p.b == 0)).map om) (rows.flatten.filter λp=>p.b == 0) (SU (nd.filter _)) λx hx=>by
  obtain⟨p,hp,rfl⟩:=List.mem_map.mp hx;obtain⟨h1,h2⟩:=List.mem_filter.mp hp;have h2:p.b≠0:=@bl
  have h3:=(d.way p h1).resolve_left h2;refine List.mem_filter.mpr ⟨NJ d h1,?_⟩;show (1 - p.b == 0)=true;rw [h3];rfl
 rw [ai] at a1 a2;lia
end PM
namespace Mo
open K2.P
open K2.qT (eI)
open K2.mj (HR)
open K2.wZ (xj Ro)
open K2.A3 (cw gi)
def Bi(rows:Rows)(n:Int):Prop:=n∈@m/\∃ p∈rows.flatten,p.a=n
def P5(rows:Rows)(a b:Int)(qM qL sH sG:T2):Bool:=!decide (@bh=@a9)&&((decide (qM=⟨b,0⟩)||decide (qL=@au))&&(decide (sH=⟨b,1⟩)||decide (sG=⟨a,1⟩)))
structure YF(rows:Rows)(a b:Int)(qM qL sH sG:T2):Prop where
 len:rows.flatten.length < 64
 na:Bi rows a
 nb:Bi rows b
 h0:fm @as @au=some qM
 h1:fm @as ⟨b,0⟩=some qL
 h2:fm @as ⟨a,1⟩=some sH
 h3:fm @as ⟨b,1⟩=some sG
def vo:fG :=
 (bz (cH (cW (aN @ap (aZ hV (ag @i @aL)) (aZ hV (ag @i (ag @q aH))))) @a4 bH)
 (bz (bh (aZ kD @ac) (aG 3))
 (bE (cA (AD (aZ jr (ag @I (ag (cy (ag @n (ag @M aH))) (ag (cy (ag @q (ag @M aH))) aH)))) (aZ jr (ag @I (ag (cy (ag @n (ag @z aH))) (ag (cy (ag @q (ag @z aH))) aH)))))))))
def lT:gH:=λds G Q _=>∃ (rows:Rows) (a b:Int) (qM qL sH sG:T2),ds=[@aq,.int a,@ab]/\YF rows a b qM qL sH sG/\Q (.bl (P5 rows a b qM qL sH sG)) G
theorem D8(ds)(G)(Q)(h:lT ds G Q @w):vo @r @C (aT 4 ds) G:=by
 obtain⟨rows,a,b,qM,qL,sH,sG,rfl,c,q⟩:=h;have hl:=c.len;unfold vo;refine bO (λτ G'=>G=G'/\@bh≠@a9/\τ=[@K,@a1,some (@ab),none]) ?_ ?_
 .intro N hN;simp![cH,aN,aZ,ag,ak,aT,aX,aH,bE,cA,dC,ends,bH];refine⟨rows,a,rfl,⟨@d,c.na.2⟩,rows,b,rfl,⟨@d,c.nb.2⟩,?_⟩;refine c8 (α:=Int) @o ?_;by_cases h:@bh=@a9
  .rw [show decide (@bh=@a9)=true from decide_eq_true h];simp!;unfold P5 at q;rw [decide_eq_true h] at q;exact c6 q
  .rw [show decide (@bh=@a9)=false from decide_eq_false h];simp!;exact hN _ _ ⟨rfl,h,rfl⟩
 rintro _ _ ⟨rfl,mQ,rfl⟩;unfold P5 at q;rw [decide_eq_false mQ,a8,ly] at q;simp![bh,aZ,ag,ak,aH,aG,bE,cA,cy,dC,ends];refine⟨rows,rfl,@d,⟨@e,@e,_,@au,⟨b,0⟩,qM,qL,rfl,⟨c.h0,c.h1⟩,?_⟩⟩;cases hb:(decide (qM=(⟨b,0⟩:T2))||decide (qL=(@au:T2))) with
 | false =>
  rw [hb] at q;simp only [↓aM,↓aj,↓if_false];exact c6 q
 | true =>
  rw [hb,ly] at q;simp only [↓aM,↓if_true];exact⟨@e,@e,_,⟨a,1⟩,⟨b,1⟩,sH,sG,rfl,⟨c.h2,c.h3⟩,c6 q⟩
end Mo
namespace Mo
open K2.P
open K2.qT (eI)
open K2.mj (HR)
open K2.wZ (xj Ro)
open K2.A3 (cw gi)
def rK:fG :=
 (bz (cp (aZ gB (ag @n (ag (dc (ag (gr ["Part"] "name" @i) (ag (gr ["Part"] "second" @i) aH))) aH))))
 (cp (aZ iu (ag (aZ lT (ag @n (ag (gr ["Part"] "name" @i) (ag (gr ["Part"] "second" @i) aH)))) aH))))
def j5:gH:=λds G Q _=>∃ (p:Nat) (a b:Int) (rows:Rows) (qM qL sH sG:T2),ds=[@U,@aq]/\Tt G p (.pa a b)/\(YF rows a b qM qL sH sG/\P5 rows a b qM qL sH sG=true)/\∀ G',@E->Q .dj G'
theorem AP(ds)(G)(Q)(h:j5 ds G Q @w):rK @r @C (aT 2 ds) G:=by
 obtain⟨p,a,b,rows,qM,qL,sH,sG,rfl,g,⟨c,hp⟩,q⟩:=h;unfold rK;simp![cp,aZ,ag,ak,aT,dc,gr,aH,ends];refine at_ g (at_ g ⟨@e,λpl mP=>?_⟩);refine⟨rows,_,[a,b],rfl,.ref aA,⟨c.len,λm hm=>?_⟩,λG1 l1=>?_⟩
 .simp only [cg,cU,or_false] at hm;rcases hm with rfl | rfl
  .exact c.na.1
  .exact c.nb.1
 have L:=(dM.new mP).trans l1;refine at_ (L _ _ g) (at_ (L _ _ g) ?_);exact⟨rows,a,b,qM,qL,sH,sG,rfl,c,_,rfl,hp,q _ L⟩
def vG:fG :=
 (bz (cp (mV [("Part",j5)] "refuse" @i @aL))
 (bE (cA (aZ lS (ag @n (ag (dc (ag (gr ["Part"] "name" @i) (ag (gr ["Part"] "second" @i) aH))) aH))))))
def i6:gH:=λds G Q _=>∃ (p:Nat) (a b:Int) (rows:Rows) (qM qL sH sG:T2),ds=[@U,@aq]/\Tt G p (.pa a b)/\(YF rows a b qM qL sH sG/\P5 rows a b qM qL sH sG=true/\rows.length<=500)/\∀ q as G',HR G G' q as ((FA [a,b] rows).map eI)->Q (.ref q) G'
theorem Eb(ds)(G)(Q)(h:i6 ds G Q @w):vG @r @C (aT 2 ds) G:=by
 obtain⟨p,a,b,rows,qM,qL,sH,sG,rfl,g,⟨c,hp,hl⟩,q⟩:=h;have hlen:=c.len;unfold vG;simp![cp,mV,ak,aT,ag,aH,bE,cA,aZ,dc,gr,ends];refine⟨p,_,_,j5,rfl,g,List.mem_singleton.mpr rfl,rfl,⟨p,a,b,rows,qM,qL,sH,sG,rfl,g,⟨c,hp⟩,λG1 l1=>?_⟩⟩;refine at_ (l1 _ _ g) (at_ (l1 _ _ g) ⟨@e,λpl mP=>?_⟩);exact⟨rows,_,[a,b],rfl,.ref aA,⟨hl,λr hr=>by have:=mj.ix hr;lia⟩,λp' as G' hr=>c6 (q p' as G' (Dq hr (l1.trans (.new mP))))⟩
end Mo
namespace LM
open K2.P
open K2.Mo hiding cN dU dW cJ eE eG
open K2.qT (eI lH r8 mK)
open K2.mj (HR iK)
open K2.wZ (xj Ro)
open K2.A3 (cw gi)
theorem Ja{α:Type} [@ag] [Enc α]{neg:Bool}{x:α}{xs:@v}{G:Gp}{Q:DK}(hd:Enc.dep α<=7)(q:Q (.bl (if neg then !decide (x∈xs) else decide (x∈xs))) G):Df neg (enc x) (.tup (@bi)) G Q:=by
 refine⟨enc x,@bi,Enc.sn _ _ _ (by unfold SN;lia),xf G 7 hd xs,?_⟩;rw [D4];exact q
theorem HU(d:@J):rows.length<=100/\∀ r∈rows,r.length<=100:=by
 have:=d.str;have:=d.kb;refine⟨@d,λr hr=>?_⟩;have:=mj.ix hr;lia
end LM
namespace Mo
open K2.P
open K2.qT (eI)
open K2.mj (HR)
open K2.wZ (xj Ro)
open K2.A3 (cw gi)
def EG(x y:T2)(t:Int):T2×T2:=if t=1 then (x,y) else (y,x)
def zI:fG :=
 (bz (cH (cW (aN @ap @q @z)) (bE (cA (cy (ag @i @aL)))) bH)
 (bE (cA (cy (ag @n @ac)))))
def mB:gH:=λds G Q _=>∃ (x y:T2) (t:Int),ds=[enc x,enc y,.int t]/\Q (enc (EG x y t)) G
theorem Ib(ds)(G)(Q)(h:mB ds G Q @w):zI @r @C (aT 3 ds) G:=by
 obtain⟨x,y,t,rfl,q⟩:=h;unfold zI EG at *;simp![↓gS,cH,aN,ak,aT,dC,bE,cA,cy,ag,aH,ends,bH];refine c8 (x:=t) (y:=(1:Int)) @o ?_;by_cases ht:t=1
 .rw [if_pos ht] at q;simp![ht,decide_true];exact⟨@e,c6 q⟩
 .rw [if_neg ht] at q;simp![ht,decide_false];exact⟨@e,c6 q⟩
def x8(rows:Rows)(a b c t:Int):@a7:=[EG @au ⟨b,0⟩ t,EG ⟨a,1⟩ ⟨c,0⟩ (t * @a9 * handOf rows c),EG ⟨b,1⟩ ⟨c,1⟩ (t * @bh * handOf rows c)]
structure Tj(rows:Rows)(a b c t:Int):Prop where
 d:@J
 na:Bi rows a
 nb:Bi rows b
 nc:Bi rows c
 ht:t=1\/t=-1
theorem oY(d:@J)(h:Bi rows n):handOf rows n=1\/handOf rows n=-1:=by
 obtain⟨p,hp,e⟩:=h.2;rw [<-e,zd d hp];exact d.hand p hp
def rE:fG :=
 (bz (bh (aZ hV (ag @i @aL)) (aG 5))
 (bz (bh (aZ hV (ag @i (ag @q aH))) (aG 6))
 (bz (bh (aZ hV (ag @i (ag @I aH))) (aG 7))
 (bE (cA (dc (ag (aZ mB (ag (cy (ag @n (ag @M aH))) (ag (cy (ag @q (ag @M aH))) (ag (ak 4) aH)))) (ag (aZ mB (ag (cy (ag @n (ag @z aH))) (ag (cy (ag @I (ag @M aH))) (ag (aN lF (aN lF (ak 4) (ak 6)) (ak 7)) aH)))) (ag (aZ mB (ag (cy (ag @q (ag @z aH))) (ag (cy (ag @I (ag @z aH))) (ag (aN lF (aN lF (ak 4) (ak 5)) (ak 7)) aH)))) aH)))))))))
def jZ:gH:=λds G Q _=>∃ (rows:Rows) (a b c t:Int),ds=[@aq,.int a,@ab,.int c,.int t]/\Tj rows a b c t/\Q (enc (x8 rows a b c t)) G
theorem AL(ds)(G)(Q)(h:jZ ds G Q @w):rE @r @C (aT 8 ds) G:=by
 obtain⟨rows,a,b,c,t,rfl,⟨d,na,nb,nc,ht⟩,q⟩:=h;have ha:=oY d na;have hb:=oY d nb;have hc:=oY d nc;have hl:=d.kb;have m1:t * @a9=1\/t * @a9=-1:=by rcases ht with rfl | rfl <;> rcases hb with h | h <;> rw [h] <;> decide
 have m2:t * @bh=1\/t * @bh=-1:=by rcases ht with rfl | rfl <;> rcases ha with h | h <;> rw [h] <;> decide
 unfold rE;simp![bh,aZ,ag,ak,aT,aX,aH,aG,bE,cA,dc,cy,dC,aN,ends];refine⟨rows,a,rfl,⟨@d,na.2⟩,⟨rows,b,rfl,⟨@d,nb.2⟩,⟨rows,c,rfl,⟨@d,nc.2⟩,?_⟩⟩⟩;simp!;have mul:∀ {x y:Int} {G:Gp} {Q:DK},(x=1\/x=-1)->(y=1\/y=-1)->Q (.int (x * y)) G->lF (.int x) (.int y) G Q:=λhx hy q=>by
  rcases hx with rfl | rfl <;> rcases hy with rfl | rfl <;> exact⟨.inl ⟨@e,@e⟩,q⟩
 refine⟨@e,@e,⟨@au,⟨b,0⟩,t,rfl,⟨@e,@e,?_⟩⟩⟩;refine mul ht hb (mul m1 hc ?_);refine⟨⟨a,1⟩,⟨c,0⟩,_,rfl,⟨@e,@e,?_⟩⟩;refine mul ht ha (mul m2 hc ?_);refine⟨⟨b,1⟩,⟨c,1⟩,_,rfl,⟨@e,λp hp=>?_⟩⟩;exact gq (xs:=x8 rows a b c t) (.new hp) hp aA q
def nh(rows:Rows)(a b c t:Int):Bool:=!decide (b=a)&&(!decide (c∈[a,b])&&(x8 rows a b c t).all λp=>decide (fm @as p.1=some p.2))
theorem KQ(d:@J)(h:p∈rows.flatten):∃ v,fm @as p.s=@S:=by
 obtain⟨r,hr,hp⟩:=List.mem_flatten.mp h;obtain⟨R1,R2,rfl⟩:=qK hr;obtain⟨A,B,rfl⟩:=qK hp;have ro:Eo (p :: (B++A)) (A++p :: B):=Eo.of (u:=p :: B) (v:=A) rfl rfl;cases hBA:B++A with
 | nil=>rw [hBA] at ro;exact⟨_,NP d ro⟩
 | cons q T=>rw [hBA] at ro;exact⟨_,NO d ro⟩
theorem NR(d:@J)(h:Bi rows n)(hw:w=0\/w=1):∃ p∈rows.flatten,p.s=⟨n,w⟩:=by
 obtain⟨p,hp,hb,ha⟩:=mh.mp h.1;rcases hw with rfl | rfl
 .exact⟨p,hp,by show (⟨p.a,p.b⟩:T2)=_;rw [hb,ha]⟩
 .refine⟨_,d.vN p hp,?_⟩;show (⟨p.a,1 - p.b⟩:T2)=_;rw [hb,ha];rfl
theorem gm(d:@J)(h:Bi rows n)(hw:w=0\/w=1):∃ v,fm @as ⟨n,w⟩=@S:=by
 obtain⟨p,hp,e⟩:=NR d h hw;rw [<-e];exact KQ d hp
theorem T6(s:Tj rows a b c t)(h:p∈x8 rows a b c t):∃ v,fm @as p.1=@S:=by
 unfold x8 at h;simp only [cg,cU,or_false] at h;rcases h with rfl | rfl | rfl <;> (unfold EG;split)
 .exact gm s.d s.na @af
 .exact gm s.d s.nb @af
 .exact gm s.d s.na (.inr rfl)
 .exact gm s.d s.nc @af
 .exact gm s.d s.nb (.inr rfl)
 .exact gm s.d s.nc (.inr rfl)
def tU:fG :=
 (bz (cH (uO (cW (aN @ap @q @n)) (cW (aN (Df false) @I (cy (ag @n (ag @q aH)))))) @a4 bH)
 (bz (bh (aZ kD @ac) (aG 5))
 (bE (cA (fC Pr (ag (dS 2 [5] (fI (aZ jZ (ag @i (ag @n (ag @q (ag @I (ag (ak 4) aH))))))) (mT (fx (aG 0) (fx (aG 1) nE))) none (aN @ap (aN eB @q @i) @n)) aH))))))
def jq:gH:=λds G Q _=>∃ (rows:Rows) (a b c t:Int),ds=[@aq,.int a,@ab,.int c,.int t]/\Tj rows a b c t/\Q (.bl (@aW)) G
theorem By(ds)(G)(Q)(h:jq ds G Q @w):tU @r @C (aT 6 ds) G:=by
 obtain⟨rows,a,b,c,t,rfl,s,q⟩:=h;have hl:=s.d.kb;unfold tU;refine bO (λτ G'=>G=G'/\b≠a/\c∉[a,b]/\τ=[@K,@a1,some (@ab),@aX,some (.int t),none]) ?_ ?_
 .intro N hN;simp![cH,uO,aN,ak,aT,aX,bE,cA,dC,ends,bH,cy,ag,aH];refine c8 (x:=b) (y:=a) @o ?_;by_cases hb:b=a
  .rw [show decide (b=a)=true from decide_eq_true hb];simp!;unfold nh at q;rw [decide_eq_true hb] at q;exact c6 q
  .rw [show decide (b=a)=false from decide_eq_false hb];simp!;refine⟨@e,LM.Ja (x:=c) (xs:=[a,b]) @o ?_⟩;by_cases hc:c∈[a,b]
   .rw [show decide (c∈[a,b])=true from decide_eq_true hc];simp!;unfold nh at q;rw [decide_eq_false hb,decide_eq_true hc] at q;exact c6 q
   .rw [show decide (c∈[a,b])=false from decide_eq_false hc];simp!;exact hN _ _ ⟨rfl,hb,hc,rfl⟩
 rintro _ _ ⟨rfl,hb,hc,rfl⟩;unfold nh at q;rw [decide_eq_false hb,decide_eq_false hc,a8,ly,ly] at q;simp![bh,aZ,ag,ak,aH,aG,bE,cA,fC,dS,ends];refine⟨rows,rfl,@d,?_⟩;refine⟨rows,a,b,c,t,rfl,s,dq ⟨yB (by simp [x8]),?_⟩⟩;refine fk (xs:=x8 rows a b c t) (λpr acc τ G2=>G=G2/\acc=(pr.map λp=>decide (fm @as p.1=some p.2)).map D.bl/\∃ x y,τ=[x,y,some (.mC (dh @as))]) ⟨rfl,rfl,_,_,rfl⟩ (λ_ _ _ _ _=>trivial) ?_ ?_
 .rintro pr p po acc τ G2 N3 e3 ⟨rfl,rfl,x,y,rfl⟩ iM;obtain⟨v,hv⟩:=T6 s (by rw [e3];simp:p∈x8 rows a b c t);show mT _ _ (.tup [enc p.1,enc p.2]) _ _ _;simp![mT,fx,aG,nE,aN,ak];refine nK hv ?_;refine(c8 (x:=v) (y:=p.2) @o ?_);simp only [↓aj,↓if_false];refine iM _ _ _ ⟨rfl,?_,_,_,rfl⟩;rw [aI,aI,az,hv];simp
 .rintro acc τ G2 ⟨rfl,rfl,x,y,rfl⟩ p2 sT;refine⟨(x8 rows a b c t).map λp=>decide (fm @as p.1=some p.2),by simp only [itemsOf,aA],?_⟩;rw [wW];exact vZ (.new sT) q
def par:@a7->@a7->@a7
 | l,[]=>l
 | l,p :: ps=>par (ic (ic l p.1 p.2) p.2 p.1) ps
theorem E3(p):∀ (ps l:@a7),par l (ps++[p])=ic (ic (par l ps) p.1 p.2) p.2 p.1
 | [],_=>rfl
 | _ :: ps,_=>E3 p ps _
def xK(ps:@a7)(s:T2):T2:=(fm (par [] ps) s).getD s
def Yw(rows:Rows)(ps:@a7)(p:T3):T3:=⟨(xK ps p.s).a,(xK ps p.s).b,handOf rows (xK ps p.s).a⟩
def chg(rows:Rows)(ps:@a7):Rows:=rows.map (List.map (Yw rows ps))
theorem sd{k v:T2}:(ic l k v).length<=l.length+1:=by
 unfold ic;split <;> simp
theorem Ji:∀ (ps l:@a7),(par l ps).length<=l.length+2 * ps.length
 | [],_=>by simp [par]
 | p :: ps,l=>by
  have:=Ji ps (ic (ic l p.1 p.2) p.2 p.1);have h1:=sd (l:=l) (k:=p.1) (v:=p.2);have h2:=sd (l:=ic l p.1 p.2) (k:=p.2) (v:=p.1);rw [par,af];lia
def qz:fG :=
 (bz (bh uH (aG 2))
 (bz (cS (fI @n) (mT (fx (aG 3) (fx (aG 4) nE))) (bz (bh (ak 4) (xw @q @I))
 (bh @I (xw @q (ak 4)))))
 (bz (bh (dc aH) (aG 5))
 (bz (cS (fI @i) (aG 6) (bz (bh (dS 1 [2] (fI (ak 6)) (aG 0) none (kh Y3 B4 @n (ag (yM @i eF (nQ @an)) (ag (yM @i eF (nQ @an)) aH)))) (aG 7))
 (cp (kh qN eZ (ak 5) (ag (cA (dS 1 [0] (fI (ak 7)) (aG 0) none (cy (ag (aN eB @i @M) (ag (aN eB @i @z) (ag (aZ hV (ag @n (ag (aN eB @i @M) aH))) aH)))))) aH)))))
 (bE (cA (aZ cw (ag (cA (ak 5)) aH))))))))
def lB:gH:=λds G Q _=>∃ (rows:Rows) (ps:@a7),ds=[@aq,enc ps]/\(rows.length<=500/\@bM/\ps.length<=10/\∀ p∈rows.flatten,∃ p'∈rows.flatten,p'.a=(xK ps p.s).a)/\∀ p as G',HR G G' p as ((chg rows ps).map eI)->Q (@U) G'
theorem yO(ds)(G)(Q)(h:lB ds G Q @w):qz @r @C (aT 8 ds) G:=by
 obtain⟨rows,ps,rfl,⟨hl,hf,hps,S6⟩,q⟩:=h;unfold qz;simp![bh,uH,iQ,aG,ends,aT,aX];intro d hd;refine bO (λτ G'=>@E/\G' d=some (.kg (dh (par [] ps)))/\∃ a b,τ=[@K,some (enc ps),some (.ref d),a,b,none,none,none]) ?_ ?_
 .intro N hN;simp![cS,ak];refine dq ?_;refine cK (xs:=ps) (λpre τ G'=>@E/\G' d=some (.kg (dh (par [] pre)))/\∃ a b,τ=[@K,some (enc ps),some (.ref d),a,b,none,none,none]) ⟨.new hd,aA,_,_,rfl⟩ @am ?_ (λτ G' h=>hN τ G' h);rintro pre p post τ G' N2 e ⟨l,gd,a,b,rfl⟩ kz;have mP:pre.length < ps.length:=by have:=congrArg bS e;simp at this;lia
  have h1:=Ji pre [];have h2:=sd (l:=par [] pre) (k:=p.1) (v:=p.2);show mT _ _ (.tup [enc p.1,enc p.2]) _ _ _;simp![mT,fx,aG,nE,bh,ak,xw];rw [av] at h1;refine P.oG gd @c ?_;refine P.oG aA @c ?_;refine kz _ _ ⟨(l.put hd).put hd,?_,_,_,rfl⟩;rw [aA,E3]
 rintro _ G1 ⟨l1,gd,a,b,rfl⟩;refine bO (λτ G'=>∃ p,G1 p=none/\@E/\G' d=some (.kg (dh (par [] ps)))/\G' p=some (.lst [])/\τ=[@K,some (enc ps),some (.ref d),a,b,@aj,none,none]) ?_ ?_
 .intro N hN;simp![bh,dc,aH,aG];refine⟨@e,λp hp=>hN _ _ ⟨p,hp,l1.trans (.new hp),dM.new hp _ _ gd,aA,rfl⟩⟩
 rintro _ G2 ⟨p,fp,l2,gd2,gp,rfl⟩;have fp0:=l1.free fp;have hdp:d≠p:=by ext c;rw [gp] at gd2;cases gd2
 refine bO (λτ G'=>@E/\G' p=some (.lst ((chg rows ps).map enc))/\∃ x y,τ=[@K,some (enc ps),some (.ref d),a,b,@aj,x,y]) ?_ ?_
 .intro N hN;simp![cS,ak];refine dq ?_;refine cK (xs:=rows) (λpre τ G'=>@E/\G' d=some (.kg (dh (par [] ps)))/\G' p=some (.lst ((pre.map (List.map (Yw rows ps))).map enc))/\∃ x y,τ=[@K,some (enc ps),some (.ref d),a,b,@aj,x,y]) ⟨l2,gd2,gp,_,_,rfl⟩ @am ?_ (λτ G' h=>hN τ G' ⟨h.1,h.2.2.1,h.2.2.2⟩);rintro pre r post τ G3 N2 e ⟨l3,Vw,gp3,x,y,rfl⟩ kz;have mP:pre.length < rows.length:=by have:=congrArg bS e;simp at this;lia
  have abf:∀ t∈r,t∈rows.flatten:=λt ht=>List.mem_flatten.mpr ⟨r,by rw [e];simp,ht⟩;have XD:r.length<=500:=cY (mj.ix (by rw [e];simp:r∈rows)) hf;refine bO (λτ G'=>∃ p7,G3 p7=none/\dM G3 G'/\G' p7=some (.lst ((r.map λt=>xK ps t.s).map enc))/\τ=[@K,some (enc ps),some (.ref d),a,b,@aj,some (enc r),some (.ref p7)]) ?_ ?_
  .intro N hN;simp![bh,dS,ak,aG];refine dq ⟨yB (@az),?_⟩;refine fk (xs:=r) (λpr acc τ G2=>G3=G2/\acc=(pr.map λt:T3=>xK ps t.s).map enc/\∃ b,τ=[b,some (.ref d)]) ⟨rfl,rfl,_,rfl⟩ (λ_ _ _ _ _=>trivial) ?_ ?_
   .rintro pr t po acc τ G4 N3 e3 ⟨rfl,rfl,b,rfl⟩ iM;simp![aG,kh,ak,↓kd,ag,yM,eF,dC,aH,↓Yu];refine⟨by simp only [Vw],@e,@e,?_⟩;exact NW (k:=t.s) (e:=t.s) Vw (iM _ _ _ ⟨rfl,by rw [aI,aI];rfl,_,rfl⟩)
   .rintro acc τ G4 ⟨rfl,rfl,b,rfl⟩ p2 sT;exact hN _ _ ⟨p2,sT,.new sT,aA,rfl⟩
  rintro _ G4 ⟨p7,f7,l4,g7,rfl⟩;simp![cp,kh,ak,ag,cA,dS,aH];have yF:=l4 _ _ gp3;rw [Jz g7];refine⟨by simp only [yF],yB (by rw [ai,ai];lia),?_⟩;refine fk (xs:=r.map λt=>xK ps t.s) (λpr acc τ G5=>G4=G5/\acc=(pr.map λs:T2=>(⟨s.a,s.b,handOf rows s.a⟩:T3)).map enc/\∃ b,τ=[b,@K]) ⟨rfl,rfl,_,rfl⟩ (λ_ _ _ _ h=>h.1 ▸ g7) ?_ ?_
  .rintro pr s po acc τ G5 N3 e3 ⟨rfl,rfl,z,rfl⟩ iM;have hs:s∈r.map λt=>xK ps t.s:=by rw [e3];simp
   obtain⟨t,ht,es⟩:=List.mem_map.mp hs;obtain⟨t',Oz,e'⟩:=S6 t (abf t ht);simp![aG,cy,ag,aN,ak,↓FF,dC,↓AG,↓D0,aZ,aH];refine⟨rows,s.a,rfl,⟨@d,t',Oz,by rw [e',<-es]⟩,⟨@e,iM _ _ _ ⟨rfl,by rw [aI,aI];rfl,_,rfl⟩⟩⟩
  .rintro acc τ G5 ⟨rfl,rfl,z,rfl⟩ p2 sT;refine gq (xs:=(r.map λt=>xK ps t.s).map λs:T2=>(⟨s.a,s.b,handOf rows s.a⟩:T3)) (.new sT) sT aA ?_;simp only [yF];refine⟨pL (by rw [ai,ai];lia),kz _ _ ⟨(l3.trans l4).put fp0,by rw [bL hdp];exact l4 _ _ Vw,?_,_,_,rfl⟩⟩;have em:(r.map λt=>xK ps t.s).map (λs:T2=>(⟨s.a,s.b,handOf rows s.a⟩:T3))=r.map (Yw rows ps):=cI;rw [aA,em,aI,aI];rfl
 rintro _ G3 ⟨l3,gp3,x,y,rfl⟩;simp![bE,cA,aZ,ag,ak,aH];refine gq (xs:=chg rows ps) l3 fp0 gp3 ?_;refine⟨chg rows ps,rfl,⟨by unfold chg;rw [ai];lia,λr h=>?_⟩,λp' as G2 hr2=>c6 (q p' as G2 hr2)⟩;obtain⟨r',XF,rfl⟩:=List.mem_map.mp h;have:=mj.ix XF;rw [ai];lia
end Mo
namespace Mo
open K2.P
open K2.qT (eI)
open K2.wZ (xj Ro)
open K2.A3 (gi)
def DM(ps:@a7):List T2:=ps.flatMap λp=>[p.1,p.2]
theorem FC(p)(ps):DM (p :: ps)=p.1 :: p.2 :: DM ps:=rfl
theorem y7:∀ {ps l:@a7},s∉DM ps->fm (par l ps) s=fm l s
 | [],_,_=>rfl
 | p :: ps,l,h=>by
  rw [FC,cg,cg] at h;rw [par,y7 λz=>h (.inr (.inr z)),kN,kN,if_neg λz=>h (.inr (.inl z.symm)),if_neg λz=>h (.inl z.symm)]
theorem NG:∀ {ps l:@a7},(DM ps).Nodup->∀ p∈ps,fm (par l ps) p.1=some p.2/\fm (par l ps) p.2=some p.1
 | q :: ps,l,nd,p,hp=>by
  rw [FC,dE,dE,cg] at nd;obtain⟨n1,n2,n3⟩:=nd;rcases @bN with rfl | hp
  .rw [par,y7 λz=>n1 (.inr z),y7 n2,kN,kN,kN,if_neg λz=>n1 (.inl z.symm),if_pos rfl,if_pos rfl];exact⟨rfl,rfl⟩
  .rw [par];exact NG n3 p hp
theorem xJ(nd:(DM ps).Nodup)(hp:p∈ps):xK ps p.1=p.2/\xK ps p.2=p.1:=by
 obtain⟨h1,h2⟩:=NG (l:=[]) nd p hp;unfold xK;rw [h1,h2];exact⟨rfl,rfl⟩
theorem DV(h:s∉DM ps):xK ps s=s:=by
 unfold xK;rw [y7 h];rfl
theorem wc:s∈DM ps↔∃ p∈ps,s=p.1\/s=p.2:=by
 unfold DM;rw [nF];simp
theorem Sh(nd:(DM ps).Nodup)(h:s∈DM ps):xK ps s∈DM ps:=by
 obtain⟨p,hp,rfl | rfl⟩:=wc.mp h
 .rw [(xJ nd hp).1];exact wc.mpr ⟨p,hp,.inr rfl⟩
 .rw [(xJ nd hp).2];exact wc.mpr ⟨p,hp,.inl rfl⟩
theorem DW(nd:(DM ps).Nodup)(s):xK ps (xK ps s)=s:=by
 by_cases h:s∈DM ps
 .obtain⟨p,hp,rfl | rfl⟩:=wc.mp h
  .rw [(xJ nd hp).1,(xJ nd hp).2]
  .rw [(xJ nd hp).2,(xJ nd hp).1]
 .rw [DV h,DV h]
theorem QM(Ci:a≠b)(hac:a≠c)(hbc:b≠c):(DM (x8 rows a b c t)).Nodup:=by
 have key:∀ x y t,[(EG x y t).1,(EG x y t).2].Perm [x,y]:=λx y t=>by
  unfold EG;split
  .exact .refl _
  .exact .swap _ _ _
 have hp:(DM (x8 rows a b c t)).Perm [@au,⟨b,0⟩,⟨a,1⟩,⟨c,0⟩,⟨b,1⟩,⟨c,1⟩]:=by
  show ([_,_]++([_,_]++([_,_]++[]))).Perm ([_,_]++([_,_]++([_,_]++[])));exact(key _ _ _).append ((key _ _ _).append ((key _ _ _).append (.refl _)))
 rw [hp.nodup_iff];simp [Ci,hac,hbc]
end Mo
namespace Mo
open K2.P
open K2.qT (eI)
open K2.wZ (xj Ro)
open K2.A3 (gi)
variable {rows:Rows} {ps:@a7}
structure Sx(rows:Rows)(ps:@a7):Prop where
 d:@J
 nd:(DM ps).Nodup
 hs:∀ s∈DM ps,s∈@bL
theorem wu(rows)(ps):(chg rows ps).flatten=rows.flatten.map (Yw rows ps):=by
 unfold chg;generalize Yw rows ps=f;induction rows with
 | nil=>rfl
 | cons r rows ih=>rw [az,aW,aW,aI,ih]
theorem Sx.T1(x:Sx rows ps)(h:s∈@bL):xK ps s∈@bL:=by
 by_cases hs:s∈DM ps
 .exact x.hs _ (Sh x.nd hs)
 .rw [DV hs];exact h
theorem DX(x:Sx rows ps):q∈(chg rows ps).flatten↔q.s∈@bL/\q.c=handOf rows q.a:=by
 rw [wu,mY];constructor
 .rintro⟨p,hp,rfl⟩;exact⟨x.T1 (List.mem_map.mpr ⟨p,hp,rfl⟩),rfl⟩
 .rintro⟨hq,hc⟩;obtain⟨p,hp,e⟩:=List.mem_map.mp (x.T1 hq);refine⟨p,hp,?_⟩;have e2:xK ps p.s=q.s:=by rw [e,DW x.nd]
  show (⟨(xK ps p.s).a,(xK ps p.s).b,handOf rows (xK ps p.s).a⟩:T3)=q;rw [e2];show (⟨q.a,q.b,handOf rows q.a⟩:T3)=q;rw [<-hc]
theorem VL(x:Sx rows ps):Dr (chg rows ps):=by
 have d:=x.d;have at':∀ q∈(chg rows ps).flatten,∃ p∈rows.flatten,p.s=q.s/\p.c=q.c:=λq hq=>by
  obtain⟨h1,h2⟩:=(DX x).mp hq;obtain⟨p,hp,e⟩:=List.mem_map.mp h1;refine⟨p,hp,e,?_⟩;rw [h2,<-zd d hp];rw [show p.a=q.a from congrArg T2.a e]
 refine⟨?_,?_,?_,?_,?_,?_⟩
 .rw [wu,cI];show (rows.flatten.map λp=>xK ps p.s).Nodup;have:(rows.flatten.map λp=>xK ps p.s)=(@bL).map (xK ps):=by rw [cI];rfl
  rw [this];refine List.pairwise_map.mpr (d.nd.imp λ{s t} Bl e=>Bl ?_);have:=congrArg (xK ps) e;rw [DW x.nd,DW x.nd] at this;exact this
 .intro q hq;obtain⟨p,hp,e,_⟩:=at' q hq;have:=d.way p hp;rw [show p.b=q.b from congrArg T2.b e] at this;exact this
 .intro q hq;obtain⟨p,hp,_,e⟩:=at' q hq;have:=d.hand p hp;rw [e] at this;exact this
 .intro q hq;obtain⟨p,hp,e,ec⟩:=at' q hq;have hm:=d.vN p hp;rw [show p.a=q.a from congrArg T2.a e,show p.b=q.b from congrArg T2.b e,ec] at hm;refine(DX x).mpr ⟨List.mem_map.mpr ⟨_,hm,rfl⟩,?_⟩;exact((DX x).mp hq).2
 .rw [wu,ai];exact d.kb
 .unfold chg;rw [ai];exact d.str
end Mo
namespace Mo
open K2.P
open K2.qT (eI)
open K2.wZ (xj Ro)
open K2.A3 (gi)
structure VY(rows:Rows)(a b c t:Int):Prop where
 n:Tj rows a b c t
 f:@aW=true
variable {rows:Rows} {a b c t:Int}
theorem CZ:@aW=true↔b≠a/\c≠a/\c≠b/\∀ p∈x8 rows a b c t,fm @as p.1=some p.2:=by
 unfold nh;rw [aR,aR,iS];simp only [jO,decide_eq_false_iff_not,decide_eq_true_iff,cg,cU,or_false,not_or,and_assoc,ne_eq]
theorem MV(s:Tj rows a b c t):∀ x∈DM (x8 rows a b c t),x∈@bL:=λx hx=>by
 obtain⟨p,hp,e⟩:=wc.mp hx;have six:x∈([@au,⟨b,0⟩,⟨a,1⟩,⟨c,0⟩,⟨b,1⟩,⟨c,1⟩]:List T2):=by
  unfold x8 EG at hp;simp only [cg,cU,or_false] at hp;rcases hp with rfl | rfl | rfl <;> (split at e) <;> rcases e with rfl | rfl <;> simp
 have go:∀ {n w:Int},Bi rows n->(w=0\/w=1)->(⟨n,w⟩:T2)∈@bL:=λhn hw=>by
  obtain⟨p,hp,e⟩:=NR s.d hn hw;exact List.mem_map.mpr ⟨p,hp,e⟩
 simp only [cg,cU,or_false] at six;rcases six with rfl | rfl | rfl | rfl | rfl | rfl
 .exact go s.na @af
 .exact go s.nb @af
 .exact go s.na (.inr rfl)
 .exact go s.nc @af
 .exact go s.nb (.inr rfl)
 .exact go s.nc (.inr rfl)
theorem VY.sx(s:VY rows a b c t):Sx rows (x8 rows a b c t):=by
 obtain⟨h1,h2,h3,_⟩:=CZ.mp s.f;exact⟨s.n.d,QM (cR h1) (cR h2) (cR h3),MV s.n⟩
theorem sg2(hx:x=1\/x=-1)(hy:y=1\/y=-1)(hz:z=1\/z=-1):x * y * z=1\/x * y * z=-1:=by
 rcases hx with rfl | rfl <;> rcases hy with rfl | rfl <;> rcases hz with rfl | rfl <;> decide
def T7(rows:Rows)(a b c t:Int):Rows:=(chg rows (x8 rows a b c t)).map eI
theorem QN(rows)(a b c t):Ro (chg rows (x8 rows a b c t)) (T7 rows a b c t):=gi _
theorem VY.dr(s:VY rows a b c t):Dr (T7 rows a b c t):=(VL s.sx).ro (QN ..)
end Mo
namespace Gm
open K2.P
open K2.Mo
variable {rows:Rows}
def N(rows:Rows)(s:T2):Option T2:=fm @as s
theorem Tn(d:@J):N rows s=@S↔(s,v)∈(@be).map λp=>(p.1.s,p.2.s):=by
 unfold N;rw [zQ d];refine⟨Fc,se ?_⟩;rw [cI];exact HH d
theorem YI(d:@J)(h:N rows s=@S)(h':N rows s'=@S):s=s':=by
 rw [Tn d] at h h';obtain⟨p,hp,e⟩:=List.mem_map.mp h;obtain⟨q,hq,e'⟩:=List.mem_map.mp h';have nd:=T5 d;have:p=q:=by
  obtain⟨i,hi,rfl⟩:=eV hp;obtain⟨j,hj,rfl⟩:=eV hq;have pw:=List.pairwise_iff_getElem.mp nd;have ee:(@be)[i].2.s=(@be)[j].2.s:=(congrArg Prod.snd e).trans (congrArg Prod.snd e').symm;rcases CI i j with c | c | c
  .exact absurd (by rw [bN,bN];exact ee) (pw i j (by rw [ai];exact hi) (by rw [ai];exact hj) c)
  .subst c;rfl
  .exact absurd (by rw [bN,bN];exact ee.symm) (pw j i (by rw [ai];exact hj) (by rw [ai];exact hi) c)
 subst this;exact(congrArg Prod.fst e).symm.trans (congrArg Prod.fst e')
theorem eC(d:@J)(h:n∈@m):Bi rows n:=by
 obtain⟨p,hp,_,e⟩:=mh.mp h;exact⟨h,p,hp,e⟩
theorem PJ(d:@J)(h:N rows s=@S):s.a∈@m/\v.a∈@m:=by
 rw [Tn d] at h;obtain⟨p,hp,e⟩:=List.mem_map.mp h;have nm:∀ {q:T3},q∈rows.flatten->q.a∈@m:=λ{q} hq=>by
  rw [mh];rcases d.way q hq with w | w
  .exact⟨q,hq,w,rfl⟩
  .exact⟨_,d.vN q hq,by simp [w],rfl⟩
 have h1:p.1∈rows.flatten:=by rw [<-B0 rows];exact eU hp
 have h2:p.2∈rows.flatten:=(BY rows).mem_iff.mp (eU hp);have e1:p.1.s=s:=congrArg Prod.fst e;have e2:p.2.s=v:=congrArg Prod.snd e;rw [<-e1,<-e2];exact⟨nm h1,nm h2⟩
def Jg(rows:Rows)(a b:Int):Bool:=!decide (@bh=@a9)&&((decide (N rows @au=some ⟨b,0⟩)||decide (N rows ⟨b,0⟩=some @au))&&(decide (N rows ⟨a,1⟩=some ⟨b,1⟩)||decide (N rows ⟨b,1⟩=some ⟨a,1⟩)))
def EE(rows:Rows)(n:Int):Bool:=decide (N rows ⟨n,0⟩=some ⟨n,1⟩)||decide (N rows ⟨n,1⟩=some ⟨n,0⟩)
def Tf(rows:Rows)(a b:Int):Bool:=decide (N rows @au=some ⟨b,0⟩)||decide (N rows ⟨b,0⟩=some @au)
theorem kW{α:Type} [@ag]{o:Option α}{v w:α}(h:o=@S):decide (v=w)=decide (o=some w):=by
 subst h;by_cases c:v=w
 .rw [decide_eq_true c,decide_eq_true (by rw [c])]
 .rw [decide_eq_false c,decide_eq_false λz=>c (by injection z)]
theorem paN(d:@J)(ha:a∈@m)(hb:b∈@m):∃ qM qL sH sG,YF rows a b qM qL sH sG/\P5 rows a b qM qL sH sG=Jg rows a b:=by
 have ia:=eC d ha;have ib:=eC d hb;obtain⟨qM,h0⟩:=gm d ia (w:=0) @af;obtain⟨qL,h1⟩:=gm d ib (w:=0) @af;obtain⟨sH,h2⟩:=gm d ia (w:=1) (.inr rfl);obtain⟨sG,h3⟩:=gm d ib (w:=1) (.inr rfl);refine⟨qM,qL,sH,sG,⟨by have:=d.kb;lia,ia,ib,h0,h1,h2,h3⟩,?_⟩;unfold P5 Jg N;rw [kW h0,kW h1,kW h2,kW h3]
theorem E7(d:@J):(@m).Pairwise λa b=>a < b:=by
 have h1:(@m).Pairwise λa b=>yD a b=true:=pM _;have h2:(@m).Pairwise λa b=>a≠b:=PM.zR d;refine(h1.and h2).imp λ{a b} h=>?_;have:(!decide (b < a))=true:=h.1;have:¬ b < a:=by simpa using this
 have:=h.2;lia
def Mf(rows:Rows):List jm:=(@m).flatMap λa=>((@m).filter λb=>decide (a < b)&&Jg rows a b).map λb=>jm.pa a b
def Lv(rows:Rows)(a b c:Int):List jm:=([-1,1].filter λt=>@aW).map λt=>jm.sl a b c t
def Me(rows:Rows):List jm:=(@m).flatMap λa=>(@m).flatMap λb=>if Tf rows a b=true then (@m).flatMap λc=>Lv rows a b c else []
def Lu(rows:Rows):List jm:=((@m).filter λn=>EE rows n).map λn=>jm.un n
def qi(rows:Rows):List jm:=Mf rows++Me rows++Lu rows
def yC(x y:jm):Prop:=Dk (td x) (td y)=true
theorem Vf(h:a < b):iI (.int a) (@ab)=false:=by
 show (a == b)=false;simp;lia
theorem Vg(a):iI (.int a) (.int a)=true:=by
 show (a == a)=true;simp
theorem Ho(h:a < b)(xs ys):kL (.int a :: xs) (@ab :: ys)=true:=by
 rw [mL,Vf h,Jm,decide_eq_true h];rfl
theorem Hn(a)(xs ys):kL (.int a :: xs) (.int a :: ys)=kL xs ys:=by
 rw [mL,Vg];rfl
theorem xY (a b):td (.pa a b)=.tup [.str "part",.int a,@ab]:=rfl
theorem oB (a b c t):td (.sl a b c t)=.tup [.str "slide",.int a,@ab,.int c,.int t]:=rfl
theorem IL (n):td (.un n)=.tup [.str "uncurl",.int n]:=rfl
theorem U6(h:a < a')(b b'):yC (.pa a b) (.pa a' b'):=by
 unfold yC;rw [xY,xY,kK,if_pos rfl];exact Ho h _ _
theorem U5(h:b < b'):yC (.pa a b) (.pa a b'):=by
 unfold yC;rw [xY,xY,kK,if_pos rfl,Hn];exact Ho h _ _
theorem U4(h:a < a')(b b' c c' t t'):yC (.sl a b c t) (.sl a' b' c' t'):=by
 unfold yC;rw [oB,oB,kK,if_pos rfl];exact Ho h _ _
theorem U3(h:b < b')(c c' t t'):yC (.sl a b c t) (.sl a b' c' t'):=by
 unfold yC;rw [oB,oB,kK,if_pos rfl,Hn];exact Ho h _ _
theorem U2(h:c < c')(t t'):yC (.sl a b c t) (.sl a b c' t'):=by
 unfold yC;rw [oB,oB,kK,if_pos rfl,Hn,Hn];exact Ho h _ _
theorem U1(h:t < t'):yC (.sl a b c t) (.sl a b c t'):=by
 unfold yC;rw [oB,oB,kK,if_pos rfl,Hn,Hn,Hn];exact Ho h _ _
theorem Xq(a b c e f t):yC (.pa a b) (.sl c e f t):=by unfold yC;rw [xY,oB,kK,if_neg @o];decide
theorem Xp(a b n):yC (.pa a b) (.un n):=by unfold yC;rw [xY,IL,kK,if_neg @o];decide
theorem Xo(a b c t n):yC (.sl a b c t) (.un n):=by unfold yC;rw [oB,IL,kK,if_neg @o];decide
theorem Xn(h:n < m):yC (.un n) (.un m):=by unfold yC;rw [IL,IL,kK,if_pos rfl];exact Ho h _ _
theorem wm:m∈Lv rows a b c↔∃ t,(t=-1\/t=1)/\@aW=true/\m=.sl a b c t:=by
 unfold Lv;rw [mY];constructor
 .rintro⟨t,h,rfl⟩;rw [jz] at h;exact⟨t,by simpa using h.1,h.2,rfl⟩
 .rintro⟨t,h1,h2,rfl⟩;exact⟨t,List.mem_filter.mpr ⟨by simpa using h1,h2⟩,rfl⟩
theorem sX:m∈Me rows↔∃ a b c t,(a∈@m/\b∈@m/\c∈@m)/\Tf rows a b=true/\(t=-1\/t=1)/\@aW=true/\m=.sl a b c t:=by
 unfold Me;simp only [nF];constructor
 .rintro⟨a,ha,b,hb,h⟩;split at h
  .rename_i hbs;obtain⟨c,hc,h⟩:=List.mem_flatMap.mp h;obtain⟨t,h1,h2,rfl⟩:=wm.mp h;exact⟨a,b,c,t,⟨ha,hb,hc⟩,hbs,h1,h2,rfl⟩
  .cases h
 .rintro⟨a,b,c,t,⟨ha,hb,hc⟩,hbs,h1,h2,rfl⟩;refine⟨a,ha,b,hb,?_⟩;rw [if_pos hbs];exact List.mem_flatMap.mpr ⟨c,hc,wm.mpr ⟨t,h1,h2,rfl⟩⟩
theorem sY:m∈Mf rows↔∃ a b,(a∈@m/\b∈@m)/\a < b/\Jg rows a b=true/\m=.pa a b:=by
 unfold Mf;simp only [nF,mY,jz,aR,decide_eq_true_eq];constructor
 .rintro⟨a,ha,b,⟨hb,h1,h2⟩,rfl⟩;exact⟨a,b,⟨ha,hb⟩,h1,h2,rfl⟩
 .rintro⟨a,b,⟨ha,hb⟩,h1,h2,rfl⟩;exact⟨a,ha,b,⟨hb,h1,h2⟩,rfl⟩
theorem zf:m∈Lu rows↔∃ n,n∈@m/\EE rows n=true/\m=.un n:=by
 unfold Lu;simp only [mY,jz];constructor
 .rintro⟨n,⟨h1,h2⟩,rfl⟩;exact⟨n,h1,h2,rfl⟩
 .rintro⟨n,h1,h2,rfl⟩;exact⟨n,⟨h1,h2⟩,rfl⟩
theorem O9(d:@J):(Mf rows).Pairwise yC:=by
 have s:=E7 d;unfold Mf;rw [fP];refine⟨λa _=>?_,s.imp λ{a a'} h x hx y hy=>?_⟩
 .rw [cL];exact(s.filter _).imp λh=>U5 h
 .obtain⟨b,_,rfl⟩:=List.mem_map.mp hx;obtain⟨b',_,rfl⟩:=List.mem_map.mp hy;exact U6 h _ _
theorem O8(d:@J):(Me rows).Pairwise yC:=by
 have s:=E7 d;have Zg:∀ {a b:Int} {x:jm},x∈(if Tf rows a b=true then (@m).flatMap λc=>Lv rows a b c else [])->∃ c t,x=.sl a b c t:=λ{a b x} h=>by
  split at h
  .obtain⟨c,_,h⟩:=List.mem_flatMap.mp h;obtain⟨t,_,_,rfl⟩:=wm.mp h;exact⟨c,t,rfl⟩
  .cases h
 unfold Me;rw [fP];refine⟨λa _=>?_,s.imp λ{a a'} h x hx y hy=>?_⟩
 .rw [fP];refine⟨λb _=>?_,s.imp λ{b b'} h x hx y hy=>?_⟩
  .split
   .rw [fP];refine⟨λc _=>?_,s.imp λ{c c'} h x hx y hy=>?_⟩
    .unfold Lv;rw [cL];refine rh _ ?_;exact .cons (λt ht=>U1 (by rw [List.mem_singleton.mp ht];decide)) (lq _ _)
    .obtain⟨t,_,_,rfl⟩:=wm.mp hx;obtain⟨t',_,_,rfl⟩:=wm.mp hy;exact U2 h _ _
   .exact .nil
  .obtain⟨c,t,rfl⟩:=Zg hx;obtain⟨c',t',rfl⟩:=Zg hy;exact U3 h _ _ _ _
 .obtain⟨b,_,hx⟩:=List.mem_flatMap.mp hx;obtain⟨b',_,hy⟩:=List.mem_flatMap.mp hy;obtain⟨c,t,rfl⟩:=Zg hx;obtain⟨c',t',rfl⟩:=Zg hy;exact U4 h _ _ _ _ _ _
theorem VD(d:@J):(qi rows).Pairwise yC:=by
 unfold qi;rw [Qq,Qq];refine⟨⟨O9 d,O8 d,λx hx y hy=>?_⟩,?_,λx hx y hy=>?_⟩
 .obtain⟨a,b,_,_,_,rfl⟩:=sY.mp hx;obtain⟨c,e,f,t,_,_,_,_,rfl⟩:=sX.mp hy;exact Xq ..
 .unfold Lu;rw [cL];exact((E7 d).filter _).imp λh=>Xn h
 .obtain⟨n,_,_,rfl⟩:=zf.mp hy;rcases List.mem_append.mp hx with hx | hx
  .obtain⟨a,b,_,_,_,rfl⟩:=sY.mp hx;exact Xp ..
  .obtain⟨c,e,f,t,_,_,_,_,rfl⟩:=sX.mp hx;exact Xo ..
def Tw:List (Str×List kO):=[("part",[.int,.int]),("slide",[.int,.int,.int,.int]),("uncurl",[.int])]
theorem DP(h:m∈qi rows):oj Tw (td m)=true:=by
 rcases List.mem_append.mp h with h | h
 .rcases List.mem_append.mp h with h | h
  .obtain⟨a,b,_,_,_,rfl⟩:=sY.mp h;rfl
  .obtain⟨c,e,f,t,_,_,_,_,rfl⟩:=sX.mp h;rfl
 .obtain⟨n,_,_,rfl⟩:=zf.mp h;rfl
theorem RU(h:oj Tw (td m)=true):¬ yC m m:=λz=>by
 have:=B5 h h z;rw [show Dk (td m) (td m)=true from z] at this;cases this
theorem HS(d:@J)(hp:ys.Perm (@bf))(hs:ys.Pairwise λa b=>Dk b a=false):ys=@bf:=by
 have h1:(@bf).Pairwise λa b=>Dk a b=true:=by rw [cL];exact VD d
 have go:∀ (l ys:@f),ys.Perm l->l.Pairwise (λa b=>Dk a b=true)->ys.Pairwise (λa b=>Dk b a=false)->ys=l:=by
  intro l;induction l with
  | nil=>intro ys h _ _;exact h.eq_nil
  | cons x l ih =>
   intro ys hp hl hs;cases ys with
   | nil=>exact absurd hp.symm.eq_nil @k
   | cons y ys =>
    have hy:y=x:=by
     rcases List.mem_cons.mp (hp.mem_iff.mp a9) with e | hy
     .exact e
     .have hx:=hp.symm.mem_iff.mp (a9 (a:=x) (l:=l));rcases List.mem_cons.mp hx with e | hx
      .exact e.symm
      .have:=IC hs hx;rw [IC hl hy] at this;cases this
    subst hy;rw [ih ys (List.Perm.cons_inv hp) hl.of_cons hs.of_cons]
 exact go _ _ hp h1 hs
end Gm
namespace Gm
open K2.P
open K2.Mo
variable {rows:Rows}
def L6(rows:Rows)(a:Int):List T2:=match N rows @au with
 | some v=>if v.b=0 then [⟨a,v.a⟩] else []
 | none=>[]
def A0(rows:Rows):List T2:=(@m).flatMap (L6 rows)
theorem za:p∈L6 rows a↔p.a=a/\N rows @au=some ⟨p.b,0⟩:=by
 unfold L6;cases h:N rows @au with
 | none=>simp
 | some v =>
  obtain⟨x,y⟩:=v;obtain⟨pa,pb⟩:=p;by_cases c:y=0
  .subst c;simp;intro _;exact⟨Eq.symm,Eq.symm⟩
  .simp [c]
theorem nM(d:@J):p∈A0 rows↔N rows ⟨p.a,0⟩=some ⟨p.b,0⟩:=by
 unfold A0;rw [nF];constructor
 .rintro⟨a,_,h⟩;obtain⟨rfl,h⟩:=za.mp h;exact h
 .intro h;exact⟨p.a,(PJ d h).1,za.mpr ⟨rfl,h⟩⟩
theorem Dg(a):(L6 rows a).length<=1:=by
 unfold L6;split
 .split <;> simp
 .simp
theorem hZ{α β:Type}(f:α->List β)(k)(h:∀ a,(f a).length<=k):∀ l:@v,(l.flatMap f).length<=k * l.length
 | []=>@ad
 | a :: l=>by
  rw [di,aq,af,Nat.mul_succ];have:=h a;have:=hZ f k h l;lia
theorem y9(rows):(A0 rows).length<=(@m).length:=by
 have:=hZ (L6 rows) 1 Dg (@m);unfold A0;lia
theorem UH(d:@J):(A0 rows).Pairwise λp q=>p.a≠q.a:=by
 unfold A0;rw [fP];refine⟨λa _=>?_,(E7 d).imp λ{a a'} h x hx y hy=>?_⟩
 .have:=Dg (rows:=rows) a
  match L6 rows a,this with
  | [],_=>exact .nil
  | [p],_=>exact lq _ _
  | _ :: _ :: _,h=>simp at h
 .rw [(za.mp hx).1,(za.mp hy).1];lia
def mm(p:T2):T2:=⟨if p.b < p.a then p.b else p.a,if p.a < p.b then p.b else p.a⟩
def Je(rows:Rows)(m:List T2):List jm:=(m.filter λp=>Jg rows p.a p.b).map λp=>jm.pa p.a p.b
def Gg(rows:Rows)(p:T2)(c:Int):List jm:=(if nh rows p.a p.b c 1=true then [jm.sl p.a p.b c 1] else [])++(if nh rows p.b p.a c (-1)=true then [jm.sl p.b p.a c (-1)] else [])
def Jd(rows:Rows):List jm:=(A0 rows).flatMap λp=>(@m).flatMap λc=>Gg rows p c
theorem pV:m∈Gg rows p c↔(nh rows p.a p.b c 1=true/\m=.sl p.a p.b c 1)\/(nh rows p.b p.a c (-1)=true/\m=.sl p.b p.a c (-1)):=by
 unfold Gg;rw [Gb];constructor
 .rintro(h | h)
  .split at h
   .rename_i c;exact .inl ⟨c,List.mem_singleton.mp h⟩
   .cases h
  .split at h
   .rename_i c;exact .inr ⟨c,List.mem_singleton.mp h⟩
   .cases h
 .rintro(⟨h,rfl⟩ | ⟨h,rfl⟩)
  .left;rw [if_pos h];simp
  .right;rw [if_pos h];simp
theorem MW(d:@J)(h:@aW=true):(t=1->N rows @au=some ⟨b,0⟩)/\(t=-1->N rows ⟨b,0⟩=some @au)/\(N rows ⟨a,1⟩=some ⟨c,0⟩\/N rows ⟨c,0⟩=some ⟨a,1⟩):=by
 obtain⟨_,_,_,h⟩:=CZ.mp h;have h1:=h (EG @au ⟨b,0⟩ t) (by simp [x8]);have h2:=h (EG ⟨a,1⟩ ⟨c,0⟩ (t * @a9 * handOf rows c)) (by simp [x8]);refine⟨?_,?_,?_⟩
 .rintro rfl;unfold EG at h1;rw [if_pos rfl] at h1;exact h1
 .rintro rfl;unfold EG at h1;rw [if_neg @o] at h1;exact h1
 .unfold EG at h2;split at h2
  .exact .inl h2
  .exact .inr h2
theorem Rh(d:@J):m∈Jd rows↔m∈Me rows:=by
 rw [sX];unfold Jd;simp only [nF];constructor
 .rintro⟨p,hp,c,hc,h⟩;have hp:=(nM d).mp hp;have nm:=PJ d hp;rcases pV.mp h with ⟨hf,rfl⟩ | ⟨hf,rfl⟩
  .exact⟨p.a,p.b,c,1,⟨nm.1,nm.2,hc⟩,by unfold Tf;rw [decide_eq_true hp];rfl,.inr rfl,hf,rfl⟩
  .exact⟨p.b,p.a,c,-1,⟨nm.2,nm.1,hc⟩,by unfold Tf;rw [decide_eq_true hp,Bool.or_true],.inl rfl,hf,rfl⟩
 .rintro⟨a,b,c,t,⟨ha,hb,hc⟩,_,ht,h,rfl⟩;obtain⟨h1,h2,_⟩:=MW d h;rcases ht with rfl | rfl
  .exact⟨⟨b,a⟩,(nM d).mpr (h2 rfl),c,hc,pV.mpr (.inr ⟨h,rfl⟩)⟩
  .exact⟨⟨a,b⟩,(nM d).mpr (h1 rfl),c,hc,pV.mpr (.inl ⟨h,rfl⟩)⟩
theorem Us(d:@J):(Jd rows).Nodup:=by
 show List.Pairwise (·≠·) _;unfold Jd;rw [fP];refine⟨λp _=>?_,(UH d).imp λ{p q} h x hx y hy e=>?_⟩
 .rw [fP];refine⟨λc _=>?_,(E7 d).imp λ{c c'} h x hx y hy e=>?_⟩
  .unfold Gg;split <;> split <;> simp <;> (intro e;injection e;lia)
  .subst e;rcases pV.mp hx with ⟨_,rfl⟩ | ⟨_,rfl⟩ <;> rcases pV.mp hy with ⟨_,e⟩ | ⟨_,e⟩ <;> injection e <;> lia
 .subst e;obtain⟨c,_,hx⟩:=List.mem_flatMap.mp hx;obtain⟨c',_,hy⟩:=List.mem_flatMap.mp hy;rcases pV.mp hx with ⟨_,rfl⟩ | ⟨_,rfl⟩ <;> rcases pV.mp hy with ⟨_,e⟩ | ⟨_,e⟩ <;> injection e <;> first | lia | (rename_i e1 e2 e3 e4;first | exact h e1 | exact h e2)
theorem SV{l:List jm}(h:l.Pairwise yC)(hw:∀ m∈l,oj Tw (td m)=true):l.Nodup:=by
 refine nY (λ{a b} ha _ h e=>?_) h;subst e;exact RU (hw a ha) h
theorem Nq(d:@J)(nd:m.Nodup)(hm:∀ y,y∈m↔y∈(A0 rows).map mm):(Je rows m).Perm (Mf rows):=by
 refine(jQ ?_ ?_).mpr λx=>?_
 .unfold Je;show List.Pairwise (·≠·) _;rw [cL];refine(rh _ nd).imp λ{p q} h e=>h ?_;injection e with e1 e2
  cases p;cases q;simp only at e1 e2;rw [e1,e2]
 .exact SV (O9 d) λm hm=>DP (dJ _ (dJ _ hm))
 .rw [sY];unfold Je;simp only [mY,jz];constructor
  .rintro⟨p,⟨hp,hf⟩,rfl⟩;obtain⟨q,hq,rfl⟩:=List.mem_map.mp ((hm p).mp hp);have hq:=(nM d).mp hq;have nm:=PJ d hq;have mQ:handOf rows (mm q).a≠handOf rows (mm q).b:=by
    unfold Jg at hf;simp only [aR,jO,decide_eq_false_iff_not] at hf;exact hf.1
   have Ci:q.a≠q.b:=λe=>mQ (by unfold mm;rw [e]);refine⟨(mm q).a,(mm q).b,?_,?_,hf,rfl⟩
   .unfold mm;simp only;constructor
    .split
     .exact nm.2
     .exact nm.1
    .split
     .exact nm.2
     .exact nm.1
   .unfold mm;simp only;split <;> split <;> lia
  .rintro⟨a,b,⟨ha,hb⟩,Ci,hf,rfl⟩;refine⟨⟨a,b⟩,⟨(hm _).mpr ?_,hf⟩,rfl⟩;unfold Jg at hf;simp only [aR,fS,decide_eq_true_eq] at hf;rcases hf.2.1 with h | h
   .refine List.mem_map.mpr ⟨⟨a,b⟩,(nM d).mpr h,?_⟩;unfold mm;simp only;rw [if_neg @c,if_pos Ci]
   .refine List.mem_map.mpr ⟨⟨b,a⟩,(nM d).mpr h,?_⟩;unfold mm;simp only;rw [if_pos Ci,if_neg @c]
theorem Kx(d:@J)(nd:m.Nodup)(hm:∀ y,y∈m↔y∈(A0 rows).map mm):(Je rows m++Jd rows++Lu rows).Perm (qi rows):=by
 refine List.Perm.append_right _ (PV (Nq d nd hm) ?_);exact(jQ (Us d) (SV (O8 d) λm hm=>DP (dJ _ (bW _ hm)))).mpr λx=>Rh d
theorem HM{l:@G}{P Q:Int->Prop}(nd:l.Nodup)(h:∀ c∈l,p c=true->P c\/Q c)(hP:∀ c c',P c->P c'->c=c')(hQ:∀ c c',Q c->Q c'->c=c'):(l.filter p).length<=2:=by
 have nf:(l.filter p).Nodup:=rh _ nd;have hf:∀ c∈l.filter p,P c\/Q c:=λc hc=>h c (List.mem_filter.mp hc).1 (List.mem_filter.mp hc).2
 match l.filter p,nf,hf with
 | [],_,_=>simp
 | [_],_,_=>simp
 | [_,_],_,_=>simp
 | x :: y :: z :: r,nf,hf =>
  exfalso;simp only [dE,cg,not_or] at nf;obtain⟨⟨xy,xz,_⟩,⟨yz,_⟩,_⟩:=nf;have h1:=hf x @k;have h2:=hf y @k;have h3:=hf z @k;rcases h1 with h1 | h1 <;> rcases h2 with h2 | h2 <;> rcases h3 with h3 | h3 <;> first | exact xy (hP _ _ h1 h2) | exact xy (hQ _ _ h1 h2) | exact xz (hP _ _ h1 h3) | exact xz (hQ _ _ h1 h3) | exact yz (hP _ _ h2 h3) | exact yz (hQ _ _ h2 h3)
theorem CU(d:@J)(a b t):((@m).filter λc=>@aW).length<=2:=by
 refine HM (P:=λc=>N rows ⟨a,1⟩=some ⟨c,0⟩) (Q:=λc=>N rows ⟨c,0⟩=some ⟨a,1⟩) (PM.zR d) (λc _ h=>(MW d h).2.2) (λc c' h h'=>?_) λc c' h h'=>?_
 .rw [h] at h';injection h' with h'
  injection h'
 .have:=YI d h h';injection this
theorem CQ(p q)(f g:Int->jm):∀ l:@G,(l.flatMap λc=>(if p c=true then [f c] else [])++(if q c=true then [g c] else [])).length=(l.filter p).length+(l.filter q).length
 | []=>rfl
 | c :: l=>by
  rw [di,aq,CQ p q f g l,dG,dG];split <;> split <;> simp <;> lia
theorem Ri(d:@J):(Jd rows).length<=4 * (@m).length:=by
 have h:=hZ (λp:T2=>(@m).flatMap λc=>Gg rows p c) 4 (λp=>by
  show ((@m).flatMap λc=>(if nh rows p.a p.b c 1=true then [jm.sl p.a p.b c 1] else [])++(if nh rows p.b p.a c (-1)=true then [jm.sl p.b p.a c (-1)] else [])).length<=4;rw [CQ (λc=>nh rows p.a p.b c 1) (λc=>nh rows p.b p.a c (-1)) (λc=>jm.sl p.a p.b c 1) (λc=>jm.sl p.b p.a c (-1))];have h1:=CU d p.a p.b 1;have h2:=CU d p.b p.a (-1);lia) (A0 rows)
 have:=y9 rows;unfold Jd;lia
theorem Rj(nd:m.Nodup)(hm:∀ y,y∈m↔y∈(A0 rows).map mm):(Je rows m).length<=(@m).length:=by
 have h1:m.length<=((A0 rows).map mm).length:=lx nd λy hy=>(hm y).mp hy;have h2:=cX (λp:T2=>Jg rows p.a p.b) m;have:=y9 rows;unfold Je;rw [ai] at h1 ⊢;lia
theorem JE(rows):(Lu rows).length<=(@m).length:=by
 unfold Lu;rw [ai];exact cX _ _
end Gm
namespace Gm
open K2.P
open K2.K3 (fU)
open K2.Mo
variable {rows:Rows}
theorem Xf(d:@J):(@m).length<=24:=by
 have h:=(oF ((rows.flatten.filter λp=>p.b == 0).map λp:T3=>p.a)).length_eq;rw [ai] at h;have h2:=cX (λp:T3=>p.b == 0) rows.flatten;have:=d.kb;show (AZ _).length<=24;lia
def oI:fG :=
 (bz (bh (aZ kD @ac) (aG 1))
 (bz (bh (dc aH) (aG 2))
 (bz (cS (fI (aZ fU @ac)) (aG 3) (bz (bh (aN eB @n (cy (ag @I (ag @M aH)))) (aG 4))
 (cH (cW (aN @ap (aN eB (ak 4) @z) @M)) (cp (kh qN eZ @q (ag (cy (ag @I (ag (aN eB (ak 4) @M) aH))) aH))) bH)))
 (bE (cA @q)))))
def iW:gH:=λds G Q _=>∃ rows:Rows,ds=[@aq]/\@J/\Q (enc (A0 rows)) G
theorem xO(ds)(G)(Q)(h:iW ds G Q @w):oI @r @C (aT 5 ds) G:=by
 obtain⟨rows,rfl,d,q⟩:=h;have kb:=d.kb;have nl:=Xf d;unfold oI;simp![bh,aZ,ag,ak,aT,aX,aH,aG,dc,ends];refine⟨rows,rfl,(show @bM by lia),?_⟩;simp!;refine⟨@e,λp hp=>?_⟩;refine bO (λτ G'=>@E/\G' p=some (.lst ((A0 rows).map enc))/\∃ a b,τ=[@K,some (.mC (dh @as)),@aj,a,b]) ?_ ?_
 .intro N0 hN;simp![cS,aZ,ag,ak,aH];refine⟨rows,rfl,@d,λp3 sS=>?_⟩;have n3:p≠p3:=by ext c;rw [aA] at sS;cases sS
  simp only [jG,aA];refine cK (xs:=@m) (λpre τ G'=>@E/\G' p3=some @a6/\G' p=some (.lst ((pre.flatMap (L6 rows)).map enc))/\∃ a b,τ=[@K,some (.mC (dh @as)),@aj,a,b]) ⟨(dM.new hp).trans (.new sS),aA,by rw [bL n3];exact aA,_,_,rfl⟩ (λ_ _ _ h=>h.2.1) ?_ ?_
  .rintro pre n post τ G' N2 e ⟨l,g3,gp,a,b,rfl⟩ kz;have hn:n∈@m:=by rw [e];simp
   obtain⟨v,hv⟩:=gm d (eC d hn) (w:=0) @af;have mP:(pre.flatMap (L6 rows)).length<=24:=by
    have h1:=hZ (L6 rows) 1 Dg pre;have:=congrArg bS e;rw [aq] at this;lia
   have X9:N rows ⟨n,0⟩=@S:=hv;simp![aG,bh,aN,ak,ke,cy,ag,dC,aH];refine⟨@e,nK (k:=(⟨n,0⟩:T2)) hv ?_⟩;simp![cH,aN,ak,FF,dC,D0,cp,kh,ag,cy,aH,bH];refine c8 (x:=v.b) (y:=(0:Int)) @o ?_;rw [dA,fH] at kz;by_cases c:v.b=0
   .simp![c,decide_true,gp,AG];refine⟨@e,pL (@az),kz _ _ ⟨l.put hp,by rw [bL (cR n3)];exact g3,?_,_,_,rfl⟩⟩;rw [aA,aI];unfold L6;rw [X9];simp only [c,if_true];rfl
   .simp![c,decide_false];refine kz _ _ ⟨l,g3,?_,_,_,rfl⟩;unfold L6;rw [X9];simp only [c,if_false,bq];exact gp
  .rintro τ G' ⟨l,_,gp,a,b,rfl⟩;exact hN _ _ ⟨l,gp,_,_,rfl⟩
 .rintro _ G' ⟨l,gp,a,b,rfl⟩;simp![bE,cA,ak];exact gq l hp gp q
def tT:fG :=
 (bE (cA (dS 1 [0] (fI (aZ fU @ac)) (aG 0) (some (cW (aZ jY (ag @n @ac)))) (cy (ag (dC (.str "uncurl")) @ac)))))
def oa:gH:=λds G Q _=>∃ rows:Rows,ds=[@aq]/\@J/\Q (.eA ((Lu rows).map td)) G
theorem Bx(ds)(G)(Q)(h:oa ds G Q @w):tT @r @C (aT 1 ds) G:=by
 obtain⟨rows,rfl,d,q⟩:=h;have kb:=d.kb;have nl:=Xf d;unfold tT;simp![bE,cA,dS,aZ,ag,ak,aT,aH,ends];refine⟨rows,rfl,@d,λp3 sS=>?_⟩;simp only [jG,aA];refine⟨yB (@az),?_⟩;refine fk (xs:=@m) (λpr acc τ G2=>dB G p3 @a6=G2/\acc=((pr.filter λn=>EE rows n).map λn=>td (.un n))/\∃ b,τ=[b,@K]) ⟨rfl,rfl,_,rfl⟩ (λ_ _ _ G2 h=>by rw [<-h.1];exact aA) ?_ ?_
 .rintro pr n po acc τ G2 N3 e3 ⟨rfl,rfl,b,rfl⟩ iM;have hn:n∈@m:=by rw [e3];simp
  obtain⟨v0,h0⟩:=gm d (eC d hn) (w:=0) @af;obtain⟨v1,h1⟩:=gm d (eC d hn) (w:=1) (.inr rfl);simp![aG,aZ,ag,ak,ke,aH,cy,dC];refine⟨rows,n,v0,v1,rfl,⟨@d,h0,h1⟩,?_⟩;have eu:(decide (v0=(⟨n,1⟩:T2))||decide (v1=(⟨n,0⟩:T2)))=EE rows n:=by
   unfold EE N;rw [kW h0,kW h1]
  rw [eu];cases c:EE rows n with
  | true =>
   simp only [↓aM,↓if_true];refine⟨@e,iM _ _ _ ⟨rfl,?_,_,rfl⟩⟩;rw [cM,aI,dG,c];rfl
  | false =>
   simp only [↓aM,↓aj,↓if_false];refine iM _ _ _ ⟨rfl,?_,_,rfl⟩;rw [cM,aI,dG,c];simp
 .rintro acc τ G2 ⟨rfl,rfl,b,rfl⟩ p4 A1;have le:=(dM.new (o:=.lst ((@m).map enc)) sS);refine oq (ss:=(Lu rows).map td) (le.trans (.new A1)) (le.free A1) aA ?_ q;unfold Lu;rw [cI];exact AS.same _
end Gm
namespace Gm
open K2.P
open K2.K3 (fU)
open K2.Mo
variable {rows:Rows}
theorem EL{l:List T2}(hm:∀ y,y∈m↔y∈l):∀ y,y∈AZ m↔y∈l:=λy=>IT.trans (hm y)
def x9:fG :=
 (bz (bh (fC mi (ag (dS 1 [] (fI (aZ iW @ac)) (aG 0) none (cy (ag (fC FT @ac) (ag (fC AF @ac) aH)))) aH)) (aG 1))
 (bE (cA (dS 2 [0] (fI @n) (mT (fx (aG 0) (fx (aG 1) nE))) (some (cW (aZ lT (ag @q (ag @i @aL))))) (cy (ag (dC (.str "part")) (ag @i @aL)))))))
def rz:gH:=λds G Q _=>∃ rows:Rows,ds=[@aq]/\@J/\∀ m:List T2,m.Nodup->(∀ y,y∈m↔y∈(A0 rows).map mm)->Q (.eA ((Je rows m).map td)) G
theorem F4(ds)(G)(Q)(h:rz ds G Q @w):x9 @r @C (aT 2 ds) G:=by
 obtain⟨rows,rfl,d,q⟩:=h;have kb:=d.kb;have nl:=Xf d;have ol:=y9 rows;unfold x9;simp![bh,fC,ag,dS,aZ,ak,aT,aX,aH,aG,bE,cA,ends];refine⟨rows,rfl,d,dq ⟨yB (@az),?_⟩⟩;refine fk (xs:=A0 rows) (λpr acc τ G2=>G=G2/\acc=(pr.map mm).map enc/\∃ b,τ=[b]) ⟨rfl,rfl,_,rfl⟩ (λ_ _ _ _ _=>trivial) ?_ ?_
 .rintro pr x po acc τ G2 N3 e3 ⟨rfl,rfl,b,rfl⟩ iM;simp![aG,cy,ag,fC,ak,FF,aH];refine .inl ⟨[x.a,x.b],_,rfl,rfl,?_⟩;show AF [.tup [.int x.a,.int x.b]] _ _;unfold AF;refine⟨@e,iM _ _ _ ⟨rfl,?_,_,rfl⟩⟩;rw [aI,aI];rfl
 .rintro acc τ G2 ⟨rfl,rfl,b,rfl⟩ p1 Vj;show mi [.ref p1] _ _;unfold mi;refine⟨(A0 rows).map mm,by unfold oU;simp only [aA],@az,λm nd hm p2 sT=>?_⟩;have le:=(dM.new (o:=.lst (((A0 rows).map mm).map enc)) Vj);have Wl:=EL hm;have nd':(AZ m).Nodup:=BO nd;have hml:(AZ m).length<=(A0 rows).length:=by
   have:=lx nd' λy hy=>(Wl y).mp hy
   rwa [ai] at this
  have q:=q (AZ m) nd' Wl;generalize AZ m=ms at Wl nd' hml q sT;simp only [jG,aA];refine⟨yB (@az),?_⟩;refine fk (xs:=ms) (λpr acc τ G2=>dB (dB G p1 (.lst (((A0 rows).map mm).map enc))) p2 (.lst (ms.map enc))=G2/\acc=((pr.filter λp=>Jg rows p.a p.b).map λp=>td (.pa p.a p.b))/\∃ b c,τ=[b,c,@K]) ⟨rfl,rfl,_,_,rfl⟩ (λ_ _ _ G2 h=>by rw [<-h.1];exact aA) ?_ ?_
  .rintro pr x po acc τ G2 N3 e3 ⟨rfl,rfl,b,c,rfl⟩ iM;have hx:x∈ms:=by rw [e3];simp
   obtain⟨y,hy,rfl⟩:=List.mem_map.mp ((Wl x).mp hx);have nm:=PJ d ((nM d).mp hy);have ha:(mm y).a∈@m:=by
    unfold mm;simp only;split
    .exact nm.2
    .exact nm.1
   have hb:(mm y).b∈@m:=by
    unfold mm;simp only;split
    .exact nm.2
    .exact nm.1
   obtain⟨qM,qL,sH,sG,pn,ef⟩:=paN d ha hb;generalize mm y=z at *;simp![mT,FF,fx,aG,nE,aZ,ag,ak,aH,cy,dC];refine⟨rows,z.a,z.b,qM,qL,sH,sG,rfl,pn,?_⟩;rw [ef];cases c:Jg rows z.a z.b with
   | true =>
    simp only [↓aM,↓if_true];refine⟨@e,iM _ _ _ ⟨rfl,?_,_,_,rfl⟩⟩;rw [cM,aI,dG,c];rfl
   | false =>
    simp only [↓aM,↓aj,↓if_false];refine iM _ _ _ ⟨rfl,?_,_,_,rfl⟩;rw [cM,aI,dG,c];simp
  .rintro acc τ G2 ⟨rfl,rfl,b,c,rfl⟩ p4 A1;have le2:=le.trans (dM.new (o:=.lst (ms.map enc)) sT);refine oq (ss:=(Je rows ms).map td) (le2.trans (.new A1)) (le2.free A1) aA ?_ q;have e:(Je rows ms).map td=(ms.filter λp=>Jg rows p.a p.b).map λp=>td (.pa p.a p.b):=by unfold Je;rw [cI];rfl
   rw [e];exact AS.same _
theorem aap(d:@J)(p):((@m).flatMap λc=>Gg rows p c).length<=4:=by
 show ((@m).flatMap λc=>(if nh rows p.a p.b c 1=true then [jm.sl p.a p.b c 1] else [])++(if nh rows p.b p.a c (-1)=true then [jm.sl p.b p.a c (-1)] else [])).length<=4;rw [CQ (λc=>nh rows p.a p.b c 1) (λc=>nh rows p.b p.a c (-1)) (λc=>jm.sl p.a p.b c 1) (λc=>jm.sl p.b p.a c (-1))];have h1:=CU d p.a p.b 1;have h2:=CU d p.b p.a (-1);lia
def vn:fG :=
 (bz (bh (dc aH) (aG 1))
 (bz (cS (fI (aZ iW @ac)) (mT (fx (aG 2) (fx (aG 3) nE))) (cS (fI (aZ fU @ac)) (aG 4) (bz (cH (cW (aZ jq (ag @i (ag @q (ag @I (ag (ak 4) (ag @z aH))))))) (cp (kh qN eZ @n (ag (cy (ag (dC (.str "slide")) (ag @q (ag @I (ag (ak 4) (ag @z aH)))))) aH))) bH)
 (cH (cW (aZ jq (ag @i (ag @I (ag @q (ag (ak 4) (ag (Bt zL @z) aH))))))) (cp (kh qN eZ @n (ag (cy (ag (dC (.str "slide")) (ag @I (ag @q (ag (ak 4) (ag (Bt zL @z) aH)))))) aH))) bH))))
 (bE (cA @n))))
def pN:gH:=λds G Q _=>∃ rows:Rows,ds=[@aq]/\@J/\Q (.eA ((Jd rows).map td)) G
theorem D7(ds)(G)(Q)(h:pN ds G Q @w):vn @r @C (aT 5 ds) G:=by
 obtain⟨rows,rfl,d,q⟩:=h;have kb:=d.kb;have nl:=Xf d;have ol:=y9 rows;unfold vn;simp![bh,dc,aH,aG,ends,aT,aX];refine⟨@e,λp hp=>?_⟩;refine bO (λτ G'=>@E/\G' p=some (.lst ((Jd rows).map td))/\∃ a b c,τ=[@K,@aj,a,b,c]) ?_ ?_
 .intro N0 hN;simp![cS,aZ,ag,ak,aH];refine⟨rows,rfl,d,dq ?_⟩;refine cK (xs:=A0 rows) (λpre τ G'=>@E/\G' p=some (.lst ((pre.flatMap λp=>(@m).flatMap λc=>Gg rows p c).map td))/\∃ a b c,τ=[@K,@aj,a,b,c]) ⟨.new hp,aA,_,_,_,rfl⟩ @am ?_ ?_
  .rintro pre x post τ G' N2 e ⟨l,gp,a,b,c,rfl⟩ kz;have hx:x∈A0 rows:=by rw [e];simp
   have nm:=PJ d ((nM d).mp hx);have mP:pre.length<=24:=by have:=congrArg bS e;rw [aq] at this;lia
   simp![mT,FF,fx,aG,nE,cS,aZ,ag,ak,aH];refine⟨rows,rfl,@d,λp3 sS=>?_⟩;have n3:p≠p3:=by ext c;rw [gp] at sS;cases sS
   simp only [jG,aA];rw [dA,fH] at kz;generalize hL:(pre.flatMap λp=>(@m).flatMap λc=>Gg rows p c)=L at gp kz;have Ws:L.length<=96:=by
    rw [<-hL];have:=hZ (λp:T2=>(@m).flatMap λc=>Gg rows p c) 4 (λp=>aap d p) pre;lia
   refine cK (xs:=@m) (λcs τ G'=>@E/\G' p3=some @a6/\G' p=some (.lst ((L++cs.flatMap λc=>Gg rows x c).map td))/\∃ c,τ=[@K,@aj,some (.int x.a),some (.int x.b),c]) ⟨l.trans (.new sS),aA,by rw [bL n3,nG,bq];exact gp,_,rfl⟩ (λ_ _ _ h=>h.2.1) ?_ ?_
   .rintro cs n po τ G2 N3 e3 ⟨l2,g3,Em,c,rfl⟩ iM;have hn:n∈@m:=by rw [e3];simp
    have vW:cs.length<=24:=by have:=congrArg bS e3;rw [aq] at this;lia
    have hMl:(L++cs.flatMap λc=>Gg rows x c).length<=144:=by
     have h3:∀ (c:Int),(Gg rows x c).length<=2:=λc=>by unfold Gg;rw [aq];split <;> split <;> simp
     have:=hZ (λc=>Gg rows x c) 2 h3 cs;rw [aq];lia
    rw [dA,fH,<-bD] at iM;generalize (L++cs.flatMap λc=>Gg rows x c)=M at Em iM hMl;have s1:Tj rows x.a x.b n 1:=⟨d,eC d nm.1,eC d nm.2,eC d hn,.inl rfl⟩;have s2:Tj rows x.b x.a n (-1):=⟨d,eC d nm.2,eC d nm.1,eC d hn,.inr rfl⟩;simp![aG,ke];refine bO (λτ G'=>@E/\G' p3=some @a6/\G' p=some (.lst ((M++(if nh rows x.a x.b n 1=true then [jm.sl x.a x.b n 1] else [])).map td))/\τ=[@K,@aj,some (.int x.a),some (.int x.b),some (.int n)]) ?_ ?_
    .intro N4 Zs;simp![cH,aZ,ag,ak,dC,aH,cp,kh,cy,bH];refine⟨rows,x.a,x.b,n,1,rfl,s1,?_⟩;cases cc:nh rows x.a x.b n 1 with
     | true =>
      simp![Em];refine⟨@e,pL (@az),Zs _ _ ⟨l2.put hp,by rw [bL (cR n3)];exact g3,?_,rfl⟩⟩;rw [aA,cc,if_pos rfl,aI];rfl
     | false =>
      simp only [↓aM,↓aj,↓if_false];refine Zs _ _ ⟨l2,g3,?_,rfl⟩;rw [cc,if_neg @o,bq];exact Em
    .rintro _ G5 ⟨l5,g5,gp5,rfl⟩;have abP:(M++(if nh rows x.a x.b n 1=true then [jm.sl x.a x.b n 1] else [])).length<=145:=by
      rw [aq];split <;> simp <;> lia
     have eT:Gg rows x n=(if nh rows x.a x.b n 1=true then [jm.sl x.a x.b n 1] else [])++(if nh rows x.b x.a n (-1)=true then [jm.sl x.b x.a n (-1)] else []):=rfl;rw [eT,<-bD] at iM;generalize (M++(if nh rows x.a x.b n 1=true then [jm.sl x.a x.b n 1] else []))=M2 at gp5 iM abP;simp![cH,aZ,ag,ak,Bt,dC,aH,cp,kh,cy,bH];refine⟨rows,x.b,x.a,n,-1,rfl,s2,?_⟩;cases cc:nh rows x.b x.a n (-1) with
     | true =>
      simp![gp5];refine⟨@e,pL (@az),iM _ _ ⟨l5.put hp,by rw [bL (cR n3)];exact g5,?_,_,rfl⟩⟩;rw [aA,cc,if_pos rfl,aI];rfl
     | false =>
      simp only [↓aM,↓aj,↓if_false];refine iM _ _ ⟨l5,g5,?_,_,rfl⟩;rw [cc,if_neg @o,bq];exact gp5
   .rintro τ G2 ⟨l2,_,Em,c,rfl⟩;exact kz _ _ ⟨l2,Em,_,_,_,rfl⟩
  .rintro τ G' ⟨l,gp,a,b,c,rfl⟩;exact hN _ _ ⟨l,gp,_,_,_,rfl⟩
 .rintro _ G' ⟨l,gp,a,b,c,rfl⟩;simp![bE,cA,ak];exact oq (ss:=(Jd rows).map td) l hp gp (AS.same _) q
theorem QH{l:List jm}(h:∀ m∈l,oj Tw (td m)=true):(l.map td).all (oj Tw)=true:=by
 rw [iS];intro x hx;obtain⟨m,hm,rfl⟩:=List.mem_map.mp hx;exact h m hm
def vp:fG :=
 (bE (cA (fC (mW [("part",[.int,.int]),("slide",[.int,.int,.int,.int]),("uncurl",[.int])]) (ag (aN jS (aN jS (aZ rz @ac) (aZ pN @ac)) (aZ oa @ac)) aH))))
def lU:gH:=λds G Q _=>∃ rows:Rows,ds=[@aq]/\(@J/\(@m).length<=10)/\Q (.eA (@bf)) G
theorem D9(ds)(G)(Q)(h:lU ds G Q @w):vp @r @C (aT 1 ds) G:=by
 obtain⟨rows,rfl,⟨d,hn⟩,q⟩:=h;unfold vp;simp![bE,cA,fC,ag,aN,aZ,ak,aT,aH,ends];refine⟨rows,rfl,d,λm nd hm=>⟨rows,rfl,d,?_⟩⟩;have l1:=Rj (rows:=rows) nd hm;have l2:=Ri d;have l3:=JE rows;have pp:=Kx d nd hm;refine pT .eA .eA (yB (by rw [ai,ai];lia)) λp1 Vj=>?_;rw [<-aI];refine⟨rows,rfl,d,?_⟩;refine pT (.ref aA) .eA (yB (by rw [ai,aq,ai];lia)) λp2 sT=>?_;rw [<-aI];show mW Tw [.ref p2] _ _;unfold mW;have hw:∀ x∈Je rows m++Jd rows++Lu rows,oj Tw (td x)=true:=λx hx=>DP (pp.mem_iff.mp hx);refine⟨(Je rows m++Jd rows++Lu rows).map td,by simp only [qN,aA],by simp only [itemsOf,aA],⟨QH hw,@ao,by rw [ai,aq,aq];lia⟩,λys hy hs p3 sS=>?_⟩;have e:=HS d (hy.trans (pp.map td)) hs;subst e;have le:=(dM.new (o:=.lst ((Je rows m++Jd rows).map td)) Vj).trans (dM.new (o:=.lst ((Je rows m++Jd rows++Lu rows).map td)) sT);exact oq (ss:=@bf) (le.trans (.new sS)) (le.free sS) aA (AS.same _) q
end Gm
namespace Mo
open K2.P
open K2.qT (eI)
open K2.mj (HR)
open K2.wZ (xj Ro)
open K2.A3 (cw gi)
def qD:fG :=
 (bz (cp (aZ gB (ag @n (ag (dc (ag (gr ["Slide"] "name" @i) (ag (gr ["Slide"] "second" @i) (ag (gr ["Slide"] "third" @i) aH)))) aH))))
 (cp (aZ iu (ag (aZ jq (ag @n (ag (gr ["Slide"] "name" @i) (ag (gr ["Slide"] "second" @i) (ag (gr ["Slide"] "third" @i) (ag (gr ["Slide"] "turn" @i) aH)))))) aH))))
def jE:gH:=λds G Q _=>∃ (p:Nat) (a b c t:Int) (rows:Rows),ds=[@U,@aq]/\Tt G p (.sl a b c t)/\VY rows a b c t/\∀ G',@E->Q .dj G'
theorem yS(ds)(G)(Q)(h:jE ds G Q @w):qD @r @C (aT 2 ds) G:=by
 obtain⟨p,a,b,c,t,rows,rfl,g,s,q⟩:=h;unfold qD;simp![cp,aZ,ag,ak,aT,dc,gr,aH,ends];refine at_ g (at_ g (at_ g ⟨@e,λpl mP=>?_⟩));refine⟨rows,_,[a,b,c],rfl,.ref aA,⟨(VE s.n.d).2.2,λm hm=>?_⟩,λG1 l1=>?_⟩
 .simp only [cg,cU,or_false] at hm;rcases hm with rfl | rfl | rfl
  .exact s.n.na.1
  .exact s.n.nb.1
  .exact s.n.nc.1
 have L:=(dM.new mP).trans l1;refine at_ (L _ _ g) (at_ (L _ _ g) (at_ (L _ _ g) (at_ (L _ _ g) ?_)));exact⟨rows,a,b,c,t,rfl,s.n,_,rfl,s.f,q _ L⟩
def t4:fG :=
 (bz (cp (mV [("Slide",jE)] "refuse" @i @aL))
 (bE (cA (aZ lB (ag @n (ag (aZ jZ (ag @n (ag (gr ["Slide"] "name" @i) (ag (gr ["Slide"] "second" @i) (ag (gr ["Slide"] "third" @i) (ag (gr ["Slide"] "turn" @i) aH)))))) aH))))))
def iB:gH:=λds G Q _=>∃ (p:Nat) (a b c t:Int) (rows:Rows),ds=[@U,@aq]/\Tt G p (.sl a b c t)/\VY rows a b c t/\∀ q as G',HR G G' q as (T7 rows a b c t)->Q (.ref q) G'
theorem BB(ds)(G)(Q)(h:iB ds G Q @w):t4 @r @C (aT 2 ds) G:=by
 obtain⟨p,a,b,c,t,rows,rfl,g,s,q⟩:=h;have d:=s.n.d;unfold t4;simp![cp,mV,ak,aT,ag,aH,bE,cA,aZ,gr,ends];refine⟨p,_,_,jE,rfl,g,List.mem_singleton.mpr rfl,rfl,⟨p,a,b,c,t,rows,rfl,g,s,λG1 l1=>?_⟩⟩;refine at_ (l1 _ _ g) (at_ (l1 _ _ g) (at_ (l1 _ _ g) (at_ (l1 _ _ g) ?_)));refine⟨rows,a,b,c,t,rfl,s.n,rows,x8 rows a b c t,rfl,⟨by have:=d.str;lia,by have:=d.kb;lia,by simp [x8],λx hx=>?_⟩,λp' as G' hr=>c6 (q p' as G' (Dq hr l1))⟩;obtain⟨y,hy,e⟩:=List.mem_map.mp (s.sx.T1 (List.mem_map.mpr ⟨x,hx,rfl⟩));exact⟨y,hy,congrArg T2.a e⟩
end Mo
end K2
end
section
namespace K2
namespace Y
abbrev Po:=List (Int×Int)
def ND(l:Po):Prop:=(l.map @t).Nodup
theorem wB [@bk]{k:κ}{v:β}(h:k∉l.map @t):ic l k v=l++[(k,v)]:=by
 unfold ic;rw [if_neg];intro q;obtain⟨p,h1,h2⟩:=List.any_eq_true.mp q;exact h (List.mem_map.mpr ⟨p,h1,@bl⟩)
theorem PB [@bk]{k:κ}{v:β}(h:k∈l.map @t):ic l k v=l.map (λp=>if p.1=k then (p.1,v) else p):=by
 unfold ic;rw [if_pos];obtain⟨p,h1,h2⟩:=List.mem_map.mp h;exact List.any_eq_true.mpr ⟨p,h1,@bl⟩
theorem LJ [@bk](l)(k:κ)(v:β):(ic l k v).map @t=if k∈l.map @t then l.map @t else l.map @t++[k]:=by
 split
 .rename_i h;rw [PB h,cI];refine pD λp _=>?_;show (if p.1=k then (p.1,v) else p).1=p.1;split <;> rfl
 .rename_i h;rw [wB h,aI];rfl
theorem ND.put(h:ND l)(k v):ND (ic l k v):=by
 unfold ND;rw [LJ];split
 .exact h
 .rename_i hk;rw [jN];exact⟨h,@ad,λa ha b hb=>by rw [eK] at hb;subst hb;intro z;exact hk (z ▸ ha)⟩
def L(g:Int->Int):Po->Int
 | []=>0
 | p :: l=>p.2 * g p.1+L g l
def NZ(l:Po):Prop:=∀ p∈l,p.2≠0
theorem gK:∀ (xs ys:@G),xs.Nodup->(∀ x∈xs,x∈ys)->xs.length<=ys.length
 | [],_,_,_=>ck _
 | x :: xs,ys,hn,h=>by
  rw [dE] at hn;have:=gK xs (ys.erase x) hn.2 λy hy=>(xV (show y≠x from λz=>hn.1 (by rw [<-z];exact hy))).mpr (h y (aL _ hy));have hx:=h x @k;rw [sD hx] at this;have:=lP hx;rw [af];lia
end Y
end K2
end
section
namespace K2
open PySem (Str)
open Enc (enc)
namespace K40
open K2.P (names handOf fy hV)
open K2.Y (gK)
def Ta(n:Int):Int:=n % 999+1
def fit(n:Int):Nat->Int
 | 0=>n
 | k+1=>Ta (fit n k)
theorem ou(h1:1<=n)(h2:n<=999):∀ k:Nat,fit n k=(n - 1+k) % 999+1
 | 0=>by show n=_;lia
 | k+1=>by
  show Ta (fit n k)=_;rw [ou h1 h2 k];unfold Ta;lia
theorem we{ns:@G}(h1:1<=n)(h2:n<=999)(hl:ns.length<=500):∃ k,k<=ns.length/\fit n k∉ns:=by
 apply bX;intro R7;have tK:∀ k,k<=ns.length->fit n k∈ns:=λk hk=>bX λz=>R7 ⟨k,hk,z⟩;have nd:((bZ (ns.length+1)).map λk=>fit n k).Nodup:=by
  refine List.pairwise_iff_getElem.mpr λi j hi hj HC=>?_;simp only [ai,cV] at hi hj;rw [bN,bN,jg,jg,ou h1 h2,ou h1 h2];lia
 have:=gK _ ns nd λx hx=>by
  obtain⟨k,hk,rfl⟩:=List.mem_map.mp hx;exact tK k (by have:=List.mem_range.mp hk;lia)
 simp at this;lia
end K40
namespace Er
open K2.P K2.PM
variable {rows:Rows}
end Er
instance:AU T2 where
 mn:=by
  intro x G xs Q hi mQ k;cases xs with
  | nil=>exact absurd rfl mQ
  | cons a r =>
   obtain⟨h1,h2⟩:=jL r a;have ei:itemsOf x G=some (((a :: r).map T2.l).map tI):=by rw [hi,cI];rfl
   refine .inr ⟨(a :: r).map T2.l,_,ei,rfl,?_⟩;have:∀ (r:List T2) (a:T2),(r.map T2.l).foldl (λm x=>if lexLt x m=true then x else m) a.l=(r.foldl (λm x=>if b6.lt x m=true then x else m) a).l:=by
    intro r;induction r with
    | nil=>intro a;rfl
    | cons b r ih =>
     intro a;rw [az,eM,eM];have e:(if lexLt b.l a.l=true then b.l else a.l)=(if b6.lt b a=true then b else a).l:=by
      have:b6.lt b a=lexLt b.l a.l:=uA _ _;rw [this];split <;> rfl
     rw [e];exact ih _
   rw [this r a];exact k _ h1 h2
namespace Er
open K2.P K2.PM
variable {rows:Rows}
end Er
namespace Er
open K2.P
open K2.K40 (Ta)
open K2.Y (gK)
theorem rN:cH c a b E K τ G=c E τ G λk G1=>if k=true then a E K τ G1 else b E K τ G1:=rfl
theorem eq_int(i j):iI (@Y) (.int j)=decide (i=j):=Enc.eqv i j
def jx(L:@F):List (Int×Int):=L.foldl (λl p=>ic l p.a p.c) []
def vD:fG :=
 (bz (bh uH (aG 1))
 (bz (cS (fI @i) (aG 2) (cS (fI @q) (aG 3) (bh (aN eB @I @an) (xw @n (aN eB @I @M)))))
 (bE (cA @n))))
def fT:gH:=λds G Q _=>∃ rows:Rows,ds=[@aq]/\@bM/\Q (.mC (dh (@bA))) G
theorem Sm [@bk](l)(k:κ)(v:β):(ic l k v).length<=l.length+1:=by
 by_cases h:∃ p∈l,p.1=k
 .rw [D3 h];lia
 .rw [wB (λz=>by obtain⟨p,hp,e⟩:=List.mem_map.mp z;exact h ⟨p,hp,e⟩),aq];exact aS _
theorem mS:∀ (L:@F) (l:List (Int×Int)),(L.foldl (λl p=>ic l p.a p.c) l).length<=l.length+L.length
 | [],l=>@ad
 | p :: L,l=>by
  rw [eM];have h1:=mS L (ic l p.a p.c);have h2:=Sm l p.a p.c;rw [af];lia
theorem wL(ds)(G)(Q)(h:fT ds G Q @w):vD @r @C (aT 4 ds) G:=by
 obtain⟨rows,rfl,hl,q⟩:=h;unfold vD;simp only [ends,aT,az,aP,af,av,aX,aE,aJ,cD,bh,uH,iQ,aG,ao,ah];intro p hp;refine bO (λτ G'=>(∃ a b,τ=[@K,@aj,a,b])/\@E/\G' p=some (.kg (dh (@bA)))) ?_ ?_
 .intro N hN;simp only [cS,bU,ak,aa];refine dq ?_;refine cK (xs:=rows) (λpre τ G'=>(∃ a b,τ=[@K,@aj,a,b])/\@E/\G' p=some (.kg (dh (jx pre.flatten)))) ⟨@aR,.new hp,aA⟩ @am ?_ ?_
  .rintro pre r post τ G' N2 e ⟨⟨a,b,rfl⟩,l,gp⟩ kz;have hlen:@bS:=by
    rw [e];simp only [cO,aW,aq];lia
   simp only [aG,cS,ao,ah,bU,ak,ae,aa];refine dq ?_;refine cK (xs:=r) (λpp τ G'=>(∃ a b,τ=[@K,@aj,a,b])/\@E/\G' p=some (.kg (dh (jx (pre.flatten++pp))))) ⟨@aR,l,by rw [bq];exact gp⟩ @am ?_ ?_
   .rintro pp t pt τ G4 N3 e4 ⟨⟨a,b,rfl⟩,l4,yF⟩ iM;have hpp:pp.length < r.length:=by have:=congrArg bS e4;simp at this;lia
    have hz:=mS (pre.flatten++pp) [];rw [aq] at hz;simp only [aG,bh,aN,ak,kd,ao,ah,ae,aa,dC,xw,dg,AG,at2];refine P.oG (k:=t.a) (v:=t.c) yF (by show (jx (pre.flatten++pp)).length<=1000;rw [av] at hz;unfold jx;lia) ?_;refine iM _ _ ⟨@aR,l4.put hp,?_⟩;have eh:jx (pre.flatten++(pp++[t]))=ic (jx (pre.flatten++pp)) t.a t.c:=by
     rw [<-bD];unfold jx;exact BI ..
    rw [aA,eh]
   .rintro τ G4 ⟨⟨a,b,rfl⟩,l4,yF⟩;refine kz _ _ ⟨@aR,l4,?_⟩;rw [yF,cO,uN]
  .rintro τ G' ⟨⟨a,b,rfl⟩,l,gp⟩;exact hN _ _ ⟨@aR,l,gp⟩
 .rintro _ G' ⟨⟨a,b,rfl⟩,l,gp⟩;simp only [bE,cA,ak,ae,aa];exact HG l hp gp q
end Er
namespace Ii
open K2.P
open K2.Mo
open K2.qT (eI)
open K2.mj (HR)
open K2.wZ (xj Ro)
open K2.A3 (gi)
open K2.K3 (rN)
theorem Kc(h:k < r.length):(d0 r)[k]?=some (r[(k+1) % r.length]'(i9 _ @c)):=by
 unfold d0;by_cases hk:k+1 < r.length
 .rw [bB (by rw [cf];lia),qI];have:(k+1) % r.length=k+1:=Nat.mod_eq_of_lt hk;simp only [this];rw [Nat.add_comm 1 k,aB hk]
 .have e:k+1=r.length:=@d
  rw [bb (by rw [cf];lia),cf];have:(k+1) % r.length=0:=by rw [e,Nat.mod_self]
  simp only [this];rw [show k - (r.length - 1)=0 by lia,List.getElem?_take,if_pos @c,aB]
theorem Tv{r:@F}(h):(r.zip (d0 r)).take (k+1)=(r.zip (d0 r)).take k++[(r[k],r[(k+1) % r.length]'(i9 _ @c))]:=by
 rw [IB];congr 1;have:(r.zip (d0 r))[k]?=some (r[k],r[(k+1) % r.length]'(i9 _ @c)):=List.getElem?_zip_eq_some.mpr ⟨aB h,Kc h⟩;rw [this];rfl
def yb:fG :=
 (bz (bh uH (aG 1))
 (bz (cS (fI @i) (aG 2) (cS (mO (fC gV (ag @q aH))) (aG 3) (bz (bh (aN eB @q (aN jj (aN jS @I @z) (fC gV (ag @q aH)))) (aG 4))
 (bh (cy (ag (aN eB (ak 4) @M) (ag (aN eB (ak 4) @z) aH))) (xw @n (cy (ag (aN eB (aN eB @q @I) @M) (ag (aN eB (aN eB @q @I) @z) aH))))))))
 (bE (cA @n))))
def iN:gH:=λds G Q _=>∃ rows:Rows,ds=[@aq]/\@bM/\Q (.mC (dh @as)) G
theorem yt(ds)(G)(Q)(h:iN ds G Q @w):yb @r @C (aT 5 ds) G:=by
 obtain⟨rows,rfl,hl,q⟩:=h;unfold yb;simp![bh,uH,iQ,aG,ends,aT,aX];intro d hd;refine bO (λτ G'=>(∃ a b c,τ=[@K,some (.ref d),a,b,c])/\@E/\G' d=some (.kg (dh @as))) ?_ ?_
 .intro N hN;simp![cS,ak];refine dq ?_;refine cK (xs:=rows) (λpre τ G'=>(∃ a b c,τ=[@K,some (.ref d),a,b,c])/\@E/\G' d=some (.kg (dh (dD (pairsOf pre))))) ⟨⟨_,_,_,rfl⟩,.new hd,aA⟩ @am ?_ (λτ G' h=>hN τ G' h);rintro pre r post τ G' N2 e ⟨⟨a,b,c,rfl⟩,l,gd⟩ kz;have hr:@bS:=by
   rw [e];simp only [cO,aW,aq];lia
  simp![aG,cS,fC,ag,ak,aH];refine h8 (IsL.enc r) ?_;rw [ai];simp only [↓e8];refine⟨@d,@d,?_⟩;refine Aj (λpp τ G'=>(∃ b c,τ=[@K,some (.ref d),some (enc r),b,c])/\@E/\G' d=some (.kg (dh (dD (pairsOf pre++(r.zip (d0 r)).take pp.length))))) ⟨@aR,l,by rw [av,List.take_zero,bq];exact gd⟩ @am ?_ ?_
  .rintro pp x post τ G4 N3 e4 ⟨⟨b,c,rfl⟩,l4,JC⟩ iM;obtain⟨rfl,hk⟩:=pP e4;have hk:pp.length < r.length:=by simpa using hk
   have hz:(pairsOf pre++(r.zip (d0 r)).take pp.length).length<=1000:=by
    have:=pairs_len pre;rw [aq,dF];lia
   have a1:oz (@aM) ((pp.length:Nat):Int)=some (enc r[pp.length]):=by
    rw [gF _ @c (@az)];simp only [b0,bN]
   have hm:(pp.length+1) % r.length < r.length:=i9 _ @c;have a2:oz (@aM) ((((pp.length:Nat):Int)+1) % (r.length:Int))=some (enc (r[(pp.length+1) % r.length]'hm)):=by
    have e0:(((pp.length:Nat):Int)+1) % (r.length:Int)=(((pp.length+1) % r.length:Nat):Int):=rfl;rw [e0,gF _ @c (@az)];simp only [b0,bN]
   simp![aG,bh,aN,ak,dC,fC,ag,aH,cy,xw];refine h8 (IsL.enc r) ?_;rw [ai];simp only [↓cF];refine⟨@d,fh (IsL.enc r) a2 ?_⟩;simp![↓kd,↓D0,↓AG];refine⟨@e,fh (IsL.enc r) a1 ?_⟩;simp only [↓kd,↓dg,↓AG];refine fh (IsL.enc r) a1 ?_;simp only [↓kd,↓dg,↓D0];refine⟨@e,?_⟩;refine P.oG (k:=(r[pp.length]).s) (v:=(r[(pp.length+1) % r.length]'hm).s) JC (cY (B1 _) hz) ?_;refine iM _ _ ⟨@aR,l4.put hd,?_⟩;rw [aA,aq,bC,Tv hk,<-bD,zP]
  .rintro τ G4 ⟨⟨b,c,rfl⟩,l4,JC⟩;refine kz _ _ ⟨⟨_,_,_,rfl⟩,l4,?_⟩;have e1:(dN 0 (r.length:Int).toNat).length=r.length:=by unfold dN;simp
   have e2:pairsOf (pre++[r])=pairsOf pre++r.zip (d0 r):=by unfold pairsOf;simp
   rw [e1,lO (by rw [Gd];lia)] at JC;rw [e2];exact JC
 .rintro _ G' ⟨⟨a,b,c,rfl⟩,l,gd⟩;simp![bE,cA,ak];exact HG l hd gd q
open K2.Er (jx mS)
theorem qc:∀ (L:@F) (l:List (Int×Int)) (n:Int),fm (L.foldl (λl p=>ic l p.a p.c) l) n=(((L.reverse.find? λp=>decide (p.a=n)).map (·.c)).or (fm l n))
 | [],l,n=>@ad
 | p :: L,l,n=>by
  rw [eM,qc L,List.reverse_cons,sF];cases h:L.reverse.find? λp=>decide (p.a=n) with
  | some q=>simp
  | none =>
   simp only [Option.map_none,Option.none_or,eg,List.find?_nil];rw [kN];by_cases c:p.a=n
   .simp [c]
   .simp [c]
theorem qe(d:@J)(h:n∈@m):fm (@bA) n=some (handOf rows n):=by
 unfold jx;rw [qc];obtain⟨p,hp,_,e⟩:=mh.mp h;cases q:rows.flatten.reverse.find? λp=>decide (p.a=n) with
 | none =>
  have:=List.find?_eq_none.mp q p (List.mem_reverse.mpr hp);simp [e] at this
 | some r =>
  have h1:=List.mem_reverse.mp (fM q);have h2:r.a=n:=by have:=lu q;simpa using this
  subst h2;rw [zd d h1];rfl
def tZ:fG :=
 (bE (cA (Lz (aN @ap (aN eB @i @n) @q) (aN @ap (aN eB @i @q) @n))))
def eW:gH:=λds G Q _=>∃ (l:@a7) (a b va vb:T2),ds=[.mC (dh l),enc a,enc b]/\(fm l a=some va/\fm l b=some vb)/\Q (.bl (decide (va=b)||decide (vb=a))) G
theorem uc(ds)(G)(Q)(h:eW ds G Q @w):tZ @r @C (aT 3 ds) G:=by
 obtain⟨l,a,b,va,vb,rfl,⟨ha,hb⟩,q⟩:=h;unfold tZ;simp![bE,cA,aN,ak,aT,ends];refine nK ha (c8 @o ?_);simp only [↓aM,↓aj,↓if_false];by_cases h1:va=b
 .simp only [h1,decide_true,↓if_true];rw [h1] at q;simp only [decide_true,PZ] at q;exact c6 q
 .simp![h1,decide_false];refine nK hb (c8 @o ?_);simp only [h1,decide_false,tQ] at q;exact c6 q
def vA:fG :=
 (bE (cA (dc (ag (cy (ag (cy (ag @i (ag @M aH))) (ag (cy (ag @n (ag @M aH))) aH))) (ag (cy (ag (cy (ag @i (ag @z aH))) (ag (cy (ag @q (ag @M aH))) aH))) (ag (cy (ag (cy (ag @n (ag @z aH))) (ag (cy (ag @q (ag @z aH))) aH))) aH))))))
def K0(a b c:Int):@a7:=[(@au,⟨b,0⟩),(⟨a,1⟩,⟨c,0⟩),(⟨b,1⟩,⟨c,1⟩)]
def lV:gH:=λds G Q _=>∃ (a b c:Int),ds=[.int a,@ab,.int c]/\Q (enc (K0 a b c)) G
theorem wI(ds)(G)(Q)(h:lV ds G Q @w):vA @r @C (aT 3 ds) G:=by
 obtain⟨a,b,c,rfl,q⟩:=h;unfold vA;simp![bE,cA,dc,ag,cy,ak,aT,dC,aH,ends];refine⟨@e,@e,@e,@e,@e,@e,@e,@e,@e,@e,λp hp=>?_⟩;exact gq (xs:=K0 a b c) (.new hp) hp aA q
end Ii
namespace Ii
open K2.P
open K2.Mo
open K2.qT (eI)
open K2.mj (HR)
open K2.Er (jx mS)
theorem xY (a b):td (.pa a b)=.tup [.str "part",.int a,@ab]:=rfl
theorem oB (a b c t):td (.sl a b c t)=.tup [.str "slide",.int a,@ab,.int c,.int t]:=rfl
theorem Yt{y:D}:cut [w,x,y] (some 1) none=[x,y]:=rfl
theorem Ys{u:D}:cut [w,x,y,z,u] (some 1) none=[x,y,z,u]:=rfl
def vw:fG :=
 (bz (bh (yM @q (nQ @z) eF) (mT (fx (aG 3) (fx (aG 4) nE))))
 (bz (cH (uO (cW (aN @ap @I (ak 4))) (uO (cW (aN @ap (aN eB @n @I) (aN eB @n (ak 4)))) (iJ (cW (aZ eW (ag @i (ag (cy (ag @I (ag @M aH))) (ag (cy (ag (ak 4) (ag @M aH))) aH)))))))) @a4 bH)
 (bE (cA (aZ eW (ag @i (ag (cy (ag @I (ag @z aH))) (ag (cy (ag (ak 4) (ag @z aH))) aH))))))))
def i4:gH:=λds G Q _=>∃ (rows:Rows) (a b:Int) (qM qL sH sG:T2),ds=[.mC (dh @as),.mC (dh (@bA)),td (.pa a b)]/\(@J/\YF rows a b qM qL sH sG)/\Q (.bl (!decide (a=b)&&P5 rows a b qM qL sH sG)) G
theorem wH(ds)(G)(Q)(h:i4 ds G Q @w):vw @r @C (aT 5 ds) G:=by
 obtain⟨rows,a,b,qM,qL,sH,sG,rfl,⟨d,c⟩,q⟩:=h;have ha:=qe d c.na.1;have hb:=qe d c.nb.1;unfold vw;rw [xY];generalize hS:D.tup [.str "part",.int a,@ab]=S;refine bO (λτ G'=>G=G'/\τ=[some (.mC (dh @as)),some (.mC (dh (@bA))),some S,@a1,some (@ab)]) ?_ ?_
 .intro N hN;subst hS;simp![bh,yM,ak,aT,aX,dC,eF,mT,fx,↓Yt,aG,nE];exact⟨@e,hN _ _ @aP⟩
 rintro _ _ ⟨rfl,rfl⟩;refine bO (λτ G'=>G=G'/\(a≠b/\@bh≠@a9/\(decide (qM=⟨b,0⟩)||decide (qL=@au))=true)/\τ=[some (.mC (dh @as)),some (.mC (dh (@bA))),some S,@a1,some (@ab)]) ?_ ?_
 .intro N hN;simp![cH,uO,aN,ak,bE,cA,dC,ends,bH,iJ,aZ,ag,cy,aH];refine c8 (x:=a) (y:=b) @o ?_;by_cases Ci:a=b
  .rw [show decide (a=b)=true from decide_eq_true Ci] at q ⊢;simp!;exact c6 q
  rw [show decide (a=b)=false from decide_eq_false Ci] at q ⊢;simp!;refine nK (k:=a) ha (nK (k:=b) hb ?_);refine c8 (x:=@bh) (y:=@a9) @o ?_;unfold P5 at q;by_cases hh:@bh=@a9
  .rw [show decide (@bh=@a9)=true from decide_eq_true hh] at q ⊢;simp!;exact c6 q
  rw [show decide (@bh=@a9)=false from decide_eq_false hh] at q ⊢;simp!;refine⟨@e,@e,_,@au,⟨b,0⟩,qM,qL,rfl,⟨c.h0,c.h1⟩,?_⟩;cases hn:(decide (qM=(⟨b,0⟩:T2))||decide (qL=(@au:T2))) with
  | false =>
   rw [hn] at q;simp only [↓aM,↓a8,↓if_true];exact c6 q
  | true =>
   simp!;exact hN _ _ ⟨rfl,⟨Ci,hh,hn⟩,rfl⟩
 rintro _ _ ⟨rfl,⟨Ci,hh,hn⟩,rfl⟩;unfold P5 at q;rw [show decide (a=b)=false from decide_eq_false Ci,show decide (@bh=@a9)=false from decide_eq_false hh,hn] at q;simp![bE,cA,aZ,ag,ak,cy,dC,aH,ends];exact⟨@e,@e,_,⟨a,1⟩,⟨b,1⟩,sH,sG,rfl,⟨c.h2,c.h3⟩,c6 q⟩
def TL(rows:Rows)(a b c t:Int):@G:=[t,t * @a9 * handOf rows c,t * @bh * handOf rows c]
def Ut(rows:Rows)(p:T2×T2)(t:Int):Prop:=fm @as (EG p.1 p.2 t).1=some (EG p.1 p.2 t).2
theorem CY:@aW=true↔(b≠a/\c≠a/\c≠b)/\∀ k:Nat,∀ p u,(K0 a b c)[k]?=some p->(TL rows a b c t)[k]?=@R->Ut rows p u:=by
 rw [CZ];constructor
 .rintro⟨h1,h2,h3,h⟩;refine⟨⟨h1,h2,h3⟩,λk p u hp hu=>?_⟩
  match k,hp,hu with
  | 0,hp,hu=>cases hp;cases hu;exact h _ (by simp [x8])
  | 1,hp,hu=>cases hp;cases hu;exact h _ (by simp [x8])
  | 2,hp,hu=>cases hp;cases hu;exact h _ (by simp [x8])
  | k+3,hp,_=>simp [K0] at hp
 .rintro⟨⟨h1,h2,h3⟩,h⟩;refine⟨h1,h2,h3,λp hp=>?_⟩;simp only [x8,cg,cU,or_false] at hp;rcases hp with rfl | rfl | rfl
  .exact h 0 _ _ rfl rfl
  .exact h 1 _ _ rfl rfl
  .exact h 2 _ _ rfl rfl
def tW:fG :=
 (bz (bh (yM @q (nQ @z) eF) (mT (fx (aG 3) (fx (aG 4) (fx (aG 5) (fx (aG 6) nE))))))
 (bz (cH (uO (cW (aN @ap @I (ak 4))) (uO (cW (aN @ap @I (ak 5))) (cW (aN @ap (ak 4) (ak 5))))) @a4 bH)
 (bz (bh (aZ lV (ag @I (ag (ak 4) (ag (ak 5) aH)))) (aG 7))
 (bz (bh (dc (ag (ak 6) (ag (aN lF (aN lF (ak 6) (aN eB @n (ak 4))) (aN eB @n (ak 5))) (ag (aN lF (aN lF (ak 6) (aN eB @n @I)) (aN eB @n (ak 5))) aH)))) (aG 8))
 (bz (cS (mO (dC (.int 3))) (aG 9) (bz (bh (aN eB (ak 7) (ak 9)) (mT (fx (aG 10) (fx (aG 11) nE))))
 (cH (uO (wo (cW (aN @ap (aN eB (ak 8) (ak 9)) @z)) (cW (aN (kS true) (aN eB @i (ak 10)) (ak 11)))) (wo (cW (aN @ap (aN eB (ak 8) (ak 9)) (Bt zL @z))) (cW (aN (kS true) (aN eB @i (ak 11)) (ak 10))))) @a4 bH)))
 (bE (cA (dC (.bl true)))))))))
def gJ:gH:=λds G Q _=>∃ (rows:Rows) (a b c t:Int),ds=[.mC (dh @as),.mC (dh (@bA)),td (.sl a b c t)]/\Tj rows a b c t/\Q (.bl (@aW)) G
theorem ua(ds)(G)(Q)(h:gJ ds G Q @w):tW @r @C (aT 12 ds) G:=by
 obtain⟨rows,a,b,c,t,rfl,s,q⟩:=h;have d:=s.d;have ha:=qe d s.na.1;have hb:=qe d s.nb.1;have hc:=qe d s.nc.1;have ha1:=oY d s.na;have X4:=oY d s.nb;have Wo:=oY d s.nc;have ht:=s.ht;have mul:∀ {x y:Int} {G:Gp} {Q:DK},(x=1\/x=-1)->(y=1\/y=-1)->Q (.int (x * y)) G->lF (.int x) (.int y) G Q:=λhx hy q=>by
  rcases hx with rfl | rfl <;> rcases hy with rfl | rfl <;> exact⟨.inl ⟨@e,@e⟩,q⟩
 have m1:t * @a9=1\/t * @a9=-1:=by rcases ht with rfl | rfl <;> rcases X4 with h | h <;> rw [h] <;> decide
 have m2:t * @bh=1\/t * @bh=-1:=by rcases ht with rfl | rfl <;> rcases ha1 with h | h <;> rw [h] <;> decide
 unfold tW;rw [oB];generalize hS:D.tup [.str "slide",.int a,@ab,.int c,.int t]=S;generalize hN0:D.mC (dh @as)=NX;generalize hH0:D.mC (dh (@bA))=HD;refine bO (λτ G'=>G=G'/\τ=[some NX,some HD,some S,@a1,some (@ab),@aX,some (.int t),none,none,none,none,none]) ?_ ?_
 .intro N hN;subst hS;simp![bh,yM,ak,aT,aX,dC,eF,mT,fx,↓Ys,aG,nE];exact⟨@e,hN _ _ @aP⟩
 rintro _ _ ⟨rfl,rfl⟩;refine bO (λτ G'=>G=G'/\(b≠a/\c≠a/\c≠b)/\τ=[some NX,some HD,some S,@a1,some (@ab),@aX,some (.int t),none,none,none,none,none]) ?_ ?_
 .intro N hN;have no:¬ (b≠a/\c≠a/\c≠b)->@aW=false:=λh=>by
   cases e:@aW with
   | false=>rfl
   | true=>exact absurd (CY.mp e).1 h
  simp![cH,uO,aN,ak,bE,cA,dC,ends,bH];refine c8 (x:=a) (y:=b) @o ?_;by_cases h1:a=b
  .rw [show decide (a=b)=true from decide_eq_true h1];rw [no λz=>z.1 h1.symm] at q;simp!;exact c6 q
  rw [show decide (a=b)=false from decide_eq_false h1];simp!;refine c8 (x:=a) (y:=c) @o ?_;by_cases h2:a=c
  .rw [show decide (a=c)=true from decide_eq_true h2];rw [no λz=>z.2.1 h2.symm] at q;simp!;exact c6 q
  rw [show decide (a=c)=false from decide_eq_false h2];simp!;refine c8 (x:=b) (y:=c) @o ?_;by_cases h3:b=c
  .rw [show decide (b=c)=true from decide_eq_true h3];rw [no λz=>z.2.2 h3.symm] at q;simp!;exact c6 q
  rw [show decide (b=c)=false from decide_eq_false h3];simp!;exact hN _ _ ⟨rfl,⟨cR h1,cR h2,cR h3⟩,rfl⟩
 rintro _ _ ⟨rfl,ne3,rfl⟩;refine bO (λτ G'=>G=G'/\τ=[some NX,some HD,some S,@a1,some (@ab),@aX,some (.int t),some (enc (K0 a b c)),none,none,none,none]) ?_ ?_
 .intro N hN;simp![bh,aZ,ag,ak,aH,aG];exact⟨a,b,c,rfl,hN _ _ @aP⟩
 rintro _ _ ⟨rfl,rfl⟩;refine bO (λτ G'=>∃ p8,@E/\G' p8=some (.lst ((TL rows a b c t).map enc))/\τ=[some NX,some HD,some S,@a1,some (@ab),@aX,some (.int t),some (enc (K0 a b c)),some (.ref p8),none,none,none]) ?_ ?_
 .intro N hN;subst hH0;simp![bh,dc,ag,ak,aN,aH,aG];refine nK (k:=b) hb ?_;refine mul ht X4 ?_;refine nK (k:=c) hc ?_;refine mul m1 Wo ?_;refine nK (k:=a) ha ?_;refine mul ht ha1 ?_;refine nK (k:=c) hc ?_;refine mul m2 Wo ?_;exact⟨@e,λp hp=>hN _ _ ⟨p,.new hp,aA,rfl⟩⟩
 rintro _ G1 ⟨p8,l1,g8,rfl⟩;refine bO (λτ G'=>G1=G'/\@aW=true) ?_ ?_
 .intro N hN;simp![cS,dC,ends];refine⟨@e,@e,?_⟩;refine Aj (λpre τ G'=>G1=G'/\(∀ k:Nat,k < pre.length->∀ p u,(K0 a b c)[k]?=some p->(TL rows a b c t)[k]?=@R->Ut rows p u)/\∃ x y z,τ=[some NX,some HD,some S,@a1,some (@ab),@aX,some (.int t),some (enc (K0 a b c)),some (.ref p8),x,y,z]) ⟨rfl,λk hk=>absurd hk (cG _),_,_,_,rfl⟩ @am ?_ ?_
  .rintro pre x post τ G2 N1 e ⟨rfl,Ds,y1,y2,y3,rfl⟩ Wr;obtain⟨rfl,hk⟩:=pP e;have hk:pre.length < 3:=hk;have ea:∃ p u,(K0 a b c)[pre.length]?=some p/\(TL rows a b c t)[pre.length]?=@R/\(u=1\/u=-1)/\∃ v1 v2,fm @as p.1=some v1/\fm @as p.2=some v2:=by
    have X2:pre.length=0\/pre.length=1\/pre.length=2:=@d
    rcases X2 with h | h | h <;> rw [h]
    .obtain⟨v1,e1⟩:=gm d s.na (w:=0) @af;obtain⟨v2,e2⟩:=gm d s.nb (w:=0) @af;exact⟨_,_,rfl,rfl,ht,v1,v2,e1,e2⟩
    .obtain⟨v1,e1⟩:=gm d s.na (w:=1) (.inr rfl);obtain⟨v2,e2⟩:=gm d s.nc (w:=0) @af;exact⟨_,_,rfl,rfl,sg2 ht X4 Wo,v1,v2,e1,e2⟩
    .obtain⟨v1,e1⟩:=gm d s.nb (w:=1) (.inr rfl);obtain⟨v2,e2⟩:=gm d s.nc (w:=1) (.inr rfl);exact⟨_,_,rfl,rfl,sg2 ht ha1 Wo,v1,v2,e1,e2⟩
   obtain⟨p,u,ep,eu,hu,v1,v2,e1,e2⟩:=ea;have ap:oz ((K0 a b c).map enc) (@bc:Int)=some (enc p):=by
    rw [gF _ @c (by rw [ai];simp [K0];lia)];simp only [b0,bN];obtain⟨_,e⟩:=List.getElem?_eq_some_iff.mp ep;rw [e]
   have au:oz ((TL rows a b c t).map enc) (@bc:Int)=some (enc u):=by
    rw [gF _ @c (by rw [ai];simp [TL];lia)];simp only [b0,bN];obtain⟨_,e⟩:=List.getElem?_eq_some_iff.mp eu;rw [e]
   have bad:¬ Ut rows p u->@aW=false:=λh=>by
    cases e:@aW with
    | false=>rfl
    | true=>exact absurd ((CY.mp e).2 _ _ _ ep eu) h
   have good:Ut rows p u->∀ k:Nat,k < (pre++[D.int @bc]).length->∀ p u,(K0 a b c)[k]?=some p->(TL rows a b c t)[k]?=@R->Ut rows p u:=λh k hk p' u' Mb uD=>by
    rw [aq,bC] at hk;by_cases hkk:k < pre.length
    .exact Ds k hkk p' u' Mb uD
    .have:k=pre.length:=@d
     subst this;rw [ep] at Mb;rw [eu] at uD;cases Mb;cases uD;exact h
   simp![aG,bh,aN,ak];refine fh (IsL.enc _) ap ?_;show mT _ _ (.tup [enc p.1,enc p.2]) _ _ _;simp![mT,fx,aG,nE,cH,uO,wo,aN,ak,dC,bE,cA,bH,Bt];refine fh (.ref g8) au ?_;refine c8 (x:=u) (y:=(1:Int)) @o ?_;rcases hu with rfl | rfl
   .have XH:Ut rows p 1↔v1=p.2:=by
     show fm @as p.1=some p.2↔_;rw [e1];exact⟨λh=>by injection h,λh=>by rw [h]⟩
    simp![decide_true];subst hN0;refine nK e1 ?_;refine c8 (x:=v1) (y:=p.2) @o ?_;by_cases hv:v1=p.2
    .rw [show decide (v1=p.2)=true from decide_eq_true hv];simp!;refine fh (.ref g8) au ?_;refine c8 (x:=(1:Int)) (y:=(-1:Int)) @o ?_;rw [show decide ((1:Int)=-1)=false from rfl];simp!;exact Wr _ _ ⟨rfl,good (XH.mpr hv),_,_,_,rfl⟩
    .rw [show decide (v1=p.2)=false from decide_eq_false hv];rw [bad λz=>hv (XH.mp z)] at q;simp only [↓aM,↓a8,↓if_true];exact vZ l1 q
   .have XH:Ut rows p (-1)↔v2=p.1:=by
     show fm @as p.2=some p.1↔_;rw [e2];exact⟨λh=>by injection h,λh=>by rw [h]⟩
    rw [show decide ((-1:Int)=1)=false from rfl];simp!;refine fh (.ref g8) au ?_;refine c8 (x:=(-1:Int)) (y:=(-1:Int)) @o ?_;simp![decide_true];subst hN0;refine nK e2 ?_;refine c8 (x:=v2) (y:=p.1) @o ?_;by_cases hv:v2=p.1
    .rw [show decide (v2=p.1)=true from decide_eq_true hv];simp!;exact Wr _ _ ⟨rfl,good (XH.mpr hv),_,_,_,rfl⟩
    .rw [show decide (v2=p.1)=false from decide_eq_false hv];rw [bad λz=>hv (XH.mp z)] at q;simp only [↓aM,↓a8,↓if_true];exact vZ l1 q
  .rintro τ G2 ⟨rfl,h,_⟩;exact hN _ _ ⟨rfl,CY.mpr ⟨ne3,λk p u hp hu=>h k (by
    have:k < (K0 a b c).length:=(List.getElem?_eq_some_iff.mp hp).1;exact this) p u hp hu⟩⟩
 rintro _ _ ⟨rfl,e⟩;rw [e] at q;simp only [bE,cA,dC,ends];exact vZ l1 q
end Ii
namespace Er
open K2.P
variable {rows:Rows}
end Er
namespace Er
open K2.P
variable {rows:Rows}
theorem qc:∀ (L:@F) (l:List (Int×Int)) (n:Int),fm (L.foldl (λl p=>ic l p.a p.c) l) n=(((L.reverse.find? λp=>decide (p.a=n)).map (·.c)).or (fm l n))
 | [],l,n=>@ad
 | p :: L,l,n=>by
  rw [eM,qc L,List.reverse_cons,sF];cases h:L.reverse.find? λp=>decide (p.a=n) with
  | some q=>simp
  | none =>
   simp only [Option.map_none,Option.none_or,eg,List.find?_nil];rw [kN];by_cases c:p.a=n
   .simp [c]
   .simp [c]
theorem qe(d:@J)(h:n∈@m):fm (@bA) n=some (handOf rows n):=by
 unfold jx;rw [qc];obtain⟨p,hp,_,e⟩:=mh.mp h;cases q:rows.flatten.reverse.find? λp=>decide (p.a=n) with
 | none =>
  have:=List.find?_eq_none.mp q p (List.mem_reverse.mpr hp);simp [e] at this
 | some r =>
  have h1:=List.mem_reverse.mp (fM q);have h2:r.a=n:=by have:=lu q;simpa using this
  subst h2;rw [zd d h1];rfl
end Er
namespace Qf
open K2.P
open K2.Y
variable {rows:Rows}
end Qf
namespace Qf
open K2.P
open K2.Y
variable {rows:Rows}
end Qf
namespace Qf
open K2.P
open K2.Y
variable {rows:Rows}
end Qf
namespace Qf
open K2.P
open K2.Y
open K2.Er (fT jx qe)
variable {rows:Rows}
end Qf
namespace Qf
open K2.P
open K2.Y
open K2.Er (fT jx mS qe qc)
variable {rows:Rows}
theorem ON:∀ (L:@F) (l:List (Int×Int)),(l.map @t).Nodup->((L.foldl (λl p=>ic l p.a p.c) l).map @t).Nodup
 | [],l,h=>h
 | p :: L,l,h=>ON L _ (ND.put h _ _)
theorem mM{l:List (Int×Int)}:n∈l.map @t↔(fm l n).isSome=true:=by
 unfold fm;rw [qR,List.find?_isSome];constructor
 .intro h;obtain⟨p,hp,e⟩:=List.mem_map.mp h;exact⟨p,hp,by simp [e]⟩
 .rintro⟨p,hp,e⟩;have e:p.1=n:=by simpa using e
  rw [<-e];exact eU hp
theorem OM(d:@J)(nn:(@m).Nodup):((@bA).map @t).Perm (@m):=by
 have knd:((@bA).map @t).Nodup:=ON rows.flatten [] fL;rw [jQ knd nn];intro n;constructor
 .intro h;have h:=mM.mp h;unfold jx at h;rw [qc] at h;cases e:(rows.flatten.reverse.find? λp=>decide (p.a=n)) with
  | none=>rw [e] at h;exact bF (show false=true from h)
  | some p =>
   have h1:=List.mem_reverse.mp (fM e);have h2:p.a=n:=by have:=lu e;simpa using this
   rw [mh];rcases d.way p h1 with h0 | h0
   .exact⟨p,h1,h0,h2⟩
   .exact⟨_,d.vN p h1,by show 1 - p.b=0;lia,h2⟩
 .intro h;exact mM.mpr (by rw [qe d h];rfl)
end Qf
namespace Gm
open K2.P
open K2.Mo
open K2.Ii (iN eW i4 gJ)
open K2.Er (jx mS fT)
variable {rows:Rows}
theorem BQ(d:@J){G:Gp}{Q:DK}(q:∀ p,G p=none->Q (@U) (dB G p @a6)):gx [.mC (dh (@bA))] G Q:=by
 unfold gx;have pm:=Qf.OM d (PM.zR d);have e:AZ ((@bA).map @t)=@m:=TZ pm (pM _);refine⟨(@bA).map @t,by unfold dh;rw [cI,cI];rfl,?_,?_⟩
 .have:=pm.length_eq;have:=Xf d;lia
 .rw [e];exact q
abbrev NX(rows:Rows):D:=.mC (dh @as)
abbrev HD(rows:Rows):D:=.mC (dh (@bA))
def qC:fG :=
 (bz (bh (dc aH) (aG 2))
 (bz (cS (fI (fC gx @aL)) (aG 3) (cS (fI (fC gx @aL)) (aG 4) (cH (wo (cW (aN Wc @I (ak 4))) (cW (aZ i4 (ag @i (ag @n (ag (cy (ag (dC (.str "part")) (ag @I (ag (ak 4) aH)))) aH)))))) (cp (kh qN eZ @q (ag (cy (ag (dC (.str "part")) (ag @I (ag (ak 4) aH)))) aH))) bH)))
 (bE (cA @q))))
def lD:gH:=λds G Q _=>∃ rows:Rows,ds=[NX rows,HD rows]/\(@J/\(@m).length<=10)/\Q (.eA ((Mf rows).map td)) G
def xG(rows:Rows)(a:Int)(bs:@G):List jm:=(bs.filter λb=>decide (a < b)&&Jg rows a b).map λb=>jm.pa a b
theorem Ax(a)(bs):(xG rows a bs).length<=bs.length:=by
 unfold xG;rw [ai];exact cX _ _
theorem yR(ds)(G)(Q)(h:lD ds G Q @w):qC @r @C (aT 5 ds) G:=by
 obtain⟨rows,rfl,⟨d,nl⟩,q⟩:=h;unfold qC;simp![bh,dc,aH,aG,ends,aT,aX];refine⟨@e,λp hp=>?_⟩;refine bO (λτ G'=>@E/\G' p=some (.lst ((Mf rows).map td))/\∃ a b,τ=[some (NX rows),some (HD rows),@aj,a,b]) ?_ ?_
 .intro N0 hN;simp![cS,fC,ag,ak,aH];refine BQ d λp3 sS=>?_;have n3:p≠p3:=by ext c;rw [aA] at sS;cases sS
  simp only [jG,aA];refine cK (xs:=@m) (λpre τ G'=>@E/\G' p3=some @a6/\G' p=some (.lst ((pre.flatMap λa=>xG rows a (@m)).map td))/\∃ a b,τ=[some (NX rows),some (HD rows),@aj,a,b]) ⟨(dM.new hp).trans (.new sS),aA,by rw [bL n3];exact aA,_,_,rfl⟩ (λ_ _ _ h=>h.2.1) ?_ ?_
  .rintro pre a post τ G' N2 e ⟨l,g3,gp,x,y,rfl⟩ kz;have ha:a∈@m:=by rw [e];simp
   have mP:pre.length<=10:=by have:=congrArg bS e;rw [aq] at this;lia
   have Ws:=hZ (λa=>xG rows a (@m)) 10 (λa=>by have:=Ax (rows:=rows) a (@m);lia) pre;rw [dA,fH] at kz;generalize (pre.flatMap λa=>xG rows a (@m))=L at gp kz Ws;simp![aG,cS,fC,ag,ak,ke,aH];refine BQ d λp4 A1=>?_;have n4:p≠p4:=by ext c;rw [gp] at A1;cases A1
   have n34:p3≠p4:=by ext c;rw [g3] at A1;cases A1
   simp only [jG,aA];refine cK (xs:=@m) (λbs τ G'=>@E/\G' p3=some @a6/\G' p4=some @a6/\G' p=some (.lst ((L++xG rows a bs).map td))/\∃ b,τ=[some (NX rows),some (HD rows),@aj,@a1,b]) ⟨l.trans (.new A1),by rw [bL n34];exact g3,aA,by rw [bL n4];unfold xG;simpa using gp,_,rfl⟩ (λ_ _ _ h=>h.2.2.1) ?_ ?_
   .rintro bs b po τ G2 N3 e3 ⟨l2,OY,Sa,Em,y,rfl⟩ iM;have hb:b∈@m:=by rw [e3];simp
    have hbl:bs.length<=10:=by have:=congrArg bS e3;rw [aq] at this;lia
    have hM:=Ax (rows:=rows) a bs;have eS:xG rows a (bs++[b])=xG rows a bs++(if (decide (a < b)&&Jg rows a b)=true then [jm.pa a b] else []):=by
     unfold xG;rw [cM,aI,dG];split <;> rfl
    rw [eS,<-bD] at iM;simp![aG,cH,wo,aN,ak,ke,aZ,ag,cy,dC,aH,cp,kh,bH];by_cases c:a < b
    .simp only [decide_eq_true c,↓if_true];obtain⟨qM,qL,sH,sG,pn,ef⟩:=paN d ha hb;refine⟨@e,rows,a,b,qM,qL,sH,sG,rfl,⟨d,pn⟩,?_⟩;rw [ef,show decide (a=b)=false from decide_eq_false @c];rw [decide_eq_true c] at iM;cases cc:Jg rows a b with
     | true =>
      simp![Em];refine⟨@e,pL (by rw [ai,aq];lia),iM _ _ ⟨l2.put hp,by rw [bL (cR n3)];exact OY,by rw [bL (cR n4)];exact Sa,?_,_,rfl⟩⟩;rw [aA,cc,aI (l₁:=L++xG rows a bs)];rfl
     | false =>
      simp only [↓aM,↓a8];refine iM _ _ ⟨l2,OY,Sa,?_,_,rfl⟩;rw [cc];simpa using Em
    .simp only [decide_eq_false c,↓aj,↓if_false];refine iM _ _ ⟨l2,OY,Sa,?_,_,rfl⟩;rw [decide_eq_false c];simpa using Em
   .rintro τ G2 ⟨l2,OY,Sa,Em,y,rfl⟩;exact kz _ _ ⟨l2,OY,Em,_,_,rfl⟩
  .rintro τ G' ⟨l,_,gp,a,b,rfl⟩;exact hN _ _ ⟨l,gp,_,_,rfl⟩
 .rintro _ G' ⟨l,gp,a,b,rfl⟩;simp![bE,cA,ak];exact oq (ss:=(Mf rows).map td) l hp gp (AS.same _) q
end Gm
namespace Gm
open K2.P
open K2.Mo
open K2.Ii (iN eW i4 gJ)
open K2.Er (jx mS fT)
variable {rows:Rows}
def JG(rows:Rows)(a b:Int):List jm:=if Tf rows a b=true then (@m).flatMap λc=>Lv rows a b c else []
theorem JF(a b c):(Lv rows a b c).length<=2:=by
 unfold Lv;rw [ai];exact cX _ _
theorem DQ(nl:(@m).length<=10)(a b):(JG rows a b).length<=20:=by
 unfold JG;split
 .have:=hZ (λc=>Lv rows a b c) 2 (JF a b) (@m);lia
 .simp
theorem Px(d:@J){a b:Int}{w v:Int}(ha:a∈@m)(hb:b∈@m)(hw:w=0\/w=1)(hv:v=0\/v=1){G:Gp}{Q:DK}(q:Q (.bl (decide (N rows ⟨a,w⟩=some ⟨b,v⟩)||decide (N rows ⟨b,v⟩=some ⟨a,w⟩))) G):eW [NX rows,.tup [.int a,.int w],.tup [@ab,.int v]] G Q @w:=by
 obtain⟨va,h1⟩:=gm d (eC d ha) hw;obtain⟨vb,h2⟩:=gm d (eC d hb) hv;refine⟨dD (@be),⟨a,w⟩,⟨b,v⟩,va,vb,rfl,⟨h1,h2⟩,?_⟩;rw [kW h1,kW h2];exact q
def oJ:fG :=
 (bz (bh (dc aH) (aG 2))
 (bz (cS (fI (fC gx @aL)) (aG 3) (cS (fI (fC gx @aL)) (aG 4) (cH (cW (aZ eW (ag @i (ag (cy (ag @I (ag @M aH))) (ag (cy (ag (ak 4) (ag @M aH))) aH))))) (cS (fI (fC gx @aL)) (aG 5) (cS (fI (dc (ag (Bt zL @z) (ag @z aH)))) (aG 6) (cH (cW (aZ gJ (ag @i (ag @n (ag (cy (ag (dC (.str "slide")) (ag @I (ag (ak 4) (ag (ak 5) (ag (ak 6) aH)))))) aH))))) (cp (kh qN eZ @q (ag (cy (ag (dC (.str "slide")) (ag @I (ag (ak 4) (ag (ak 5) (ag (ak 6) aH)))))) aH))) bH))) bH)))
 (bE (cA @q))))
def kE:gH:=λds G Q _=>∃ rows:Rows,ds=[NX rows,HD rows]/\(@J/\(@m).length<=10)/\Q (.eA ((Me rows).map td)) G
theorem xP(ds)(G)(Q)(h:kE ds G Q @w):oJ @r @C (aT 7 ds) G:=by
 obtain⟨rows,rfl,⟨d,nl⟩,q⟩:=h;unfold oJ;simp![bh,dc,aH,aG,ends,aT,aX];refine⟨@e,λp hp=>?_⟩;refine bO (λτ G'=>@E/\G' p=some (.lst ((Me rows).map td))/\∃ a b c t,τ=[some (NX rows),some (HD rows),@aj,a,b,c,t]) ?_ ?_
 .intro N0 hN;simp![cS,fC,ag,ak,aH];refine BQ d λp3 sS=>?_;have n3:p≠p3:=by ext c;rw [aA] at sS;cases sS
  simp only [jG,aA];refine cK (xs:=@m) (λpre τ G'=>@E/\G' p3=some @a6/\G' p=some (.lst ((pre.flatMap λa=>(@m).flatMap λb=>JG rows a b).map td))/\∃ a b c t,τ=[some (NX rows),some (HD rows),@aj,a,b,c,t]) ⟨(dM.new hp).trans (.new sS),aA,by rw [bL n3];exact aA,_,_,_,_,rfl⟩ (λ_ _ _ h=>h.2.1) ?_ ?_
  .rintro pre a post τ G' N2 e ⟨l,g3,gp,x,y,z,u,rfl⟩ kz;have ha:a∈@m:=by rw [e];simp
   have mP:pre.length < 10:=by have:=congrArg bS e;rw [aq,af] at this;lia
   have Ws:=hZ (λa=>(@m).flatMap λb=>JG rows a b) 200 (λa=>by have:=hZ (λb=>JG rows a b) 20 (DQ nl a) (@m);lia) pre;rw [dA,fH] at kz;generalize (pre.flatMap λa=>(@m).flatMap λb=>JG rows a b)=L at gp kz Ws;simp![aG,cS,fC,ag,ak,ke,aH];refine BQ d λp4 A1=>?_;have n4:p≠p4:=by ext c;rw [gp] at A1;cases A1
   have n34:p3≠p4:=by ext c;rw [g3] at A1;cases A1
   simp only [jG,aA];refine cK (xs:=@m) (λbs τ G'=>@E/\(G' p3=some @a6/\G' p4=some @a6)/\G' p=some (.lst ((L++bs.flatMap λb=>JG rows a b).map td))/\∃ b c t,τ=[some (NX rows),some (HD rows),@aj,@a1,b,c,t]) ⟨l.trans (.new A1),⟨by rw [bL n34];exact g3,aA⟩,by rw [bL n4,nG,bq];exact gp,_,_,_,rfl⟩ (λ_ _ _ h=>h.2.1.2) ?_ ?_
   .rintro bs b po τ G2 N3 e3 ⟨l2,⟨OY,Sa⟩,Em,y,z,u,rfl⟩ iM;have hb:b∈@m:=by rw [e3];simp
    have hbl:bs.length < 10:=by have:=congrArg bS e3;rw [aq,af] at this;lia
    have hMl:=hZ (λb=>JG rows a b) 20 (DQ nl a) bs;rw [dA,fH,<-bD] at iM;have hM:(L++bs.flatMap λb=>JG rows a b).length<=4000:=by rw [aq];lia
    generalize (L++bs.flatMap λb=>JG rows a b)=M at Em iM hM;simp![aG,cH,aZ,ag,ak,ke,cy,dC,aH,bH];refine⟨@e,@e,Px d ha hb @af @af ?_⟩;show qx (.bl (Tf rows a b)) _ _;unfold JG at iM;cases cb:Tf rows a b with
    | false =>
     rw [cb,if_neg @o,bq] at iM;simp only [↓aM,↓aj,↓if_false];exact iM _ _ ⟨l2,⟨OY,Sa⟩,Em,_,_,_,rfl⟩
    | true =>
     rw [cb,if_pos rfl] at iM;simp![cS,fC,ag,ak,aH];refine BQ d λp5 Lh=>?_;have n5:p≠p5:=by ext c;rw [Em] at Lh;cases Lh
     have n35:p3≠p5:=by ext c;rw [OY] at Lh;cases Lh
     have n45:p4≠p5:=by ext c;rw [Sa] at Lh;cases Lh
     simp only [jG,aA];refine cK (xs:=@m) (λcs τ G'=>@E/\(G' p3=some @a6/\G' p4=some @a6/\G' p5=some @a6)/\G' p=some (.lst ((M++cs.flatMap λc=>Lv rows a b c).map td))/\∃ c t,τ=[some (NX rows),some (HD rows),@aj,@a1,some (@ab),c,t]) ⟨l2.trans (.new Lh),⟨by rw [bL n35];exact OY,by rw [bL n45];exact Sa,aA⟩,by rw [bL n5,nG,bq];exact Em,_,_,rfl⟩ (λ_ _ _ h=>h.2.1.2.2) ?_ ?_
     .rintro cs c po2 τ G4 N5 e5 ⟨l4,⟨ZD,ZA,g54⟩,yF,z,u,rfl⟩ hN5;have hc:c∈@m:=by rw [e5];simp
      have vW:cs.length < 10:=by have:=congrArg bS e5;rw [aq,af] at this;lia
      have hKl:=hZ (λc=>Lv rows a b c) 2 (JF a b) cs;rw [dA,fH,<-bD] at hN5;have hK:(M++cs.flatMap λc=>Lv rows a b c).length<=5000:=by rw [aq];lia
      generalize (M++cs.flatMap λc=>Lv rows a b c)=K at yF hN5 hK;simp![aG,cS,dc,ag,Bt,dC,aH,ke];refine⟨@e,λp6 Ma=>?_⟩;have n6:p≠p6:=by ext c;rw [yF] at Ma;cases Ma
      have n36:p3≠p6:=by ext c;rw [ZD] at Ma;cases Ma
      have n46:p4≠p6:=by ext c;rw [ZA] at Ma;cases Ma
      have n56:p5≠p6:=by ext c;rw [g54] at Ma;cases Ma
      simp only [jG,aA];refine cK (xs:=([-1,1]:@G)) (λts τ G'=>@E/\(G' p3=some @a6/\G' p4=some @a6/\G' p5=some @a6/\G' p6=some (.lst [.int (-1),.int 1]))/\G' p=some (.lst ((K++(ts.filter λt=>@aW).map λt=>jm.sl a b c t).map td))/\∃ t,τ=[some (NX rows),some (HD rows),@aj,@a1,some (@ab),@aX,t]) ⟨l4.trans (.new Ma),⟨by rw [bL n36];exact ZD,by rw [bL n46];exact ZA,by rw [bL n56];exact g54,aA⟩,by rw [bL n6];simpa using yF,_,rfl⟩ (λ_ _ _ h=>h.2.1.2.2.2) ?_ ?_
      .rintro ts t po3 τ G6 N7 e7 ⟨l6,⟨ZC,Zz,Zy,g66⟩,Yh,u,rfl⟩ Zr;have ht:t=1\/t=-1:=by
        have:t∈([-1,1]:@G):=by rw [e7];simp
        rcases List.mem_cons.mp this with h | h
        .exact .inr h
        .exact .inl (List.mem_singleton.mp h)
       have htl:ts.length < 2:=by have:=congrArg bS e7;rw [aq,af] at this;simp at this;lia
       have hfl:=cX (λt=>@aW) ts;have eS:((ts++[t]).filter λt=>@aW).map (λt=>jm.sl a b c t)=((ts.filter λt=>@aW).map λt=>jm.sl a b c t)++(if @aW=true then [jm.sl a b c t] else []):=by
        rw [cM,aI,dG];split <;> rfl
       rw [eS,<-bD] at Zr;have hJ:(K++(ts.filter λt=>@aW).map λt=>jm.sl a b c t).length<=6000:=by rw [aq,ai];lia
       generalize (K++(ts.filter λt=>@aW).map λt=>jm.sl a b c t)=J at Yh Zr hJ;simp![aG,cH,aZ,ag,ak,cy,dC,aH,cp,kh,bH];refine⟨@e,rows,a,b,c,t,rfl,⟨d,eC d ha,eC d hb,eC d hc,ht⟩,?_⟩;cases cc:@aW with
       | true =>
        simp![Yh];refine⟨@e,(by show _ < 16777216;rw [ai];lia),Zr _ _ ⟨l6.put hp,⟨by rw [bL (cR n3)];exact ZC,by rw [bL (cR n4)];exact Zz,by rw [bL (cR n5)];exact Zy,by rw [bL (cR n6)];exact g66⟩,?_,_,rfl⟩⟩;rw [aA,cc,if_pos rfl,aI];rfl
       | false =>
        simp only [↓aM,↓aj,↓if_false];refine Zr _ _ ⟨l6,⟨ZC,Zz,Zy,g66⟩,?_,_,rfl⟩;rw [cc,if_neg @o,bq];exact Yh
      .rintro τ G6 ⟨l6,⟨ZC,Zz,Zy,g66⟩,Yh,u,rfl⟩;exact hN5 _ _ ⟨l6,⟨ZC,Zz,Zy⟩,Yh,_,_,rfl⟩
     .rintro τ G4 ⟨l4,⟨ZD,ZA,g54⟩,yF,z,u,rfl⟩;exact iM _ _ ⟨l4,⟨ZD,ZA⟩,yF,_,_,_,rfl⟩
   .rintro τ G2 ⟨l2,⟨OY,Sa⟩,Em,y,z,u,rfl⟩;exact kz _ _ ⟨l2,OY,Em,_,_,_,_,rfl⟩
  .rintro τ G' ⟨l,_,gp,a,b,c,t,rfl⟩;exact hN _ _ ⟨l,gp,_,_,_,_,rfl⟩
 .rintro _ G' ⟨l,gp,a,b,c,t,rfl⟩;simp![bE,cA,ak];exact oq (ss:=(Me rows).map td) l hp gp (AS.same _) q
def oK:fG :=
 (bz (bh (aZ iN @ac) (aG 1))
 (bz (bh (aZ fT @ac) (aG 2))
 (bz (bh (aN jS (aZ lD (ag @n (ag @q aH))) (aZ kE (ag @n (ag @q aH)))) (aG 3))
 (bz (cS (fI (fC gx (ag @q aH))) (aG 4) (cH (cW (aZ eW (ag @n (ag (cy (ag (ak 4) (ag @M aH))) (ag (cy (ag (ak 4) (ag @z aH))) aH))))) (cp (kh qN eZ @I (ag (cy (ag (dC (.str "uncurl")) (ag (ak 4) aH))) aH))) bH))
 (bE (cA @I))))))
def kF:gH:=λds G Q _=>∃ rows:Rows,ds=[@aq]/\(@J/\(@m).length<=10)/\Q (.eA (@bf)) G
theorem Cr(nl:(@m).length<=10):(Mf rows).length<=100:=by
 have:=hZ (λa=>xG rows a (@m)) 10 (λa=>by have:=Ax (rows:=rows) a (@m);lia) (@m);show ((@m).flatMap λa=>xG rows a (@m)).length<=100;lia
theorem Cq(nl:(@m).length<=10):(Me rows).length<=2000:=by
 have:=hZ (λa=>(@m).flatMap λb=>JG rows a b) 200 (λa=>by have:=hZ (λb=>JG rows a b) 20 (DQ nl a) (@m);lia) (@m);show ((@m).flatMap λa=>(@m).flatMap λb=>JG rows a b).length<=2000;lia
theorem xQ(ds)(G)(Q)(h:kF ds G Q @w):oK @r @C (aT 5 ds) G:=by
 obtain⟨rows,rfl,⟨d,nl⟩,q⟩:=h;have kb:=d.kb;have l1:=Cr nl;have l2:=Cq nl;unfold oK;simp![bh,aZ,ag,ak,aT,aX,aH,aG,aN,ends];refine⟨rows,rfl,(show @bM by lia),⟨rows,rfl,(show @bM by lia),?_⟩⟩;simp!;refine⟨rows,rfl,⟨d,nl⟩,⟨rows,rfl,⟨d,nl⟩,?_⟩⟩;refine pT .eA .eA (by show _<=16777216;rw [ai,ai];lia) λp hp=>?_;rw [<-aI];refine bO (λτ G'=>@E/\G' p=some (.lst (@bf))/\∃ a,τ=[@K,some (NX rows),some (HD rows),@aj,a]) ?_ ?_
 .intro N0 hN;simp![cS,fC,ag,ak,aH];refine BQ d λp3 sS=>?_;have n3:p≠p3:=by ext c;rw [aA] at sS;cases sS
  simp only [jG,aA];have Ws:(Mf rows++Me rows).length<=2100:=by rw [aq];lia
  unfold qi at hN;generalize Mf rows++Me rows=L at hN Ws sS;refine cK (xs:=@m) (λpre τ G'=>@E/\G' p3=some @a6/\G' p=some (.lst ((L++(pre.filter λn=>EE rows n).map λn=>jm.un n).map td))/\∃ a,τ=[@K,some (NX rows),some (HD rows),@aj,a]) ⟨(dM.new hp).trans (.new sS),aA,by rw [bL n3,aA];simp,_,rfl⟩ (λ_ _ _ h=>h.2.1) ?_ ?_
  .rintro pre n post τ G' N2 e ⟨l,g3,gp,x,rfl⟩ kz;have hn:n∈@m:=by rw [e];simp
   have mP:pre.length<=10:=by have:=congrArg bS e;rw [aq] at this;lia
   have hfl:=cX (λn=>EE rows n) pre;have eS:((pre++[n]).filter λn=>EE rows n).map (λn=>jm.un n)=((pre.filter λn=>EE rows n).map λn=>jm.un n)++(if EE rows n=true then [jm.un n] else []):=by
    rw [cM,aI,dG];split <;> rfl
   rw [eS,<-bD] at kz;have hM:(L++(pre.filter λn=>EE rows n).map λn=>jm.un n).length<=3000:=by rw [aq,ai];lia
   generalize (L++(pre.filter λn=>EE rows n).map λn=>jm.un n)=M at gp kz hM;simp![aG,cH,aZ,ag,ak,ke,cy,dC,aH,cp,kh,bH];refine⟨@e,@e,Px d hn hn @af (.inr rfl) ?_⟩;show qx (.bl (EE rows n)) _ _;cases cc:EE rows n with
   | true =>
    simp![gp];refine⟨@e,(by show _ < 16777216;rw [ai];lia),kz _ _ ⟨l.put hp,by rw [bL (cR n3)];exact g3,?_,_,rfl⟩⟩;rw [aA,cc,if_pos rfl,aI];rfl
   | false =>
    simp only [↓aM,↓aj,↓if_false];refine kz _ _ ⟨l,g3,?_,_,rfl⟩;rw [cc,if_neg @o,bq];exact gp
  .rintro τ G' ⟨l,_,gp,a,rfl⟩;exact hN _ _ ⟨l,gp,_,rfl⟩
 .rintro _ G' ⟨l,gp,a,rfl⟩;simp![bE,cA,ak];exact oq (ss:=@bf) l hp gp (AS.same _) q
end Gm
namespace V6
open K2.P
open K2.Mo hiding cN dU dW cJ eE eG
open K2.qT (eI)
open K2.mj (HR)
open K2.K3 (M4 rN)
open K2.wZ (xj Ro)
open K2.A3 (cw gi)
open K2.LM (jJ HU Ja)
def iZ:gH:=T4 (λrows:Rows=>rows.length<=100/\rows.flatten.length<=300) λrows=>cm rows 0
def pO:fG :=
 (bz (bh (dc aH) (aG 1))
 (bz (cS (mO (fC gV @ac)) (aG 2) (bz (cH (iJ (cW (aN eB @i @q))) (cp (kh qN eZ @n (ag (cy (ag @q (ag @an aH))) aH))) bH)
 (cS (fI (aN eB @i @q)) (aG 3) (cp (kh qN eZ @n (ag (cy (ag (aN eB @I @M) (ag (aN eB @I @z) aH))) aH))))))
 (bE (cA @n))))
theorem MT(str:rows.length<=100)(kb:rows.flatten.length<=300)(q:∀ d G',G d=none->@E->G' d=some (.lst ((cm rows 0).map enc))->Im G' (.ref d) Q):pO @r @C (aT 4 [@aq]) G:=by
 have sl:=ui rows;unfold pO;simp only [ends,aT,az,aP,af,av,aX,aE,aJ,cD,bh,dc,aH,aG,ao,ah];refine⟨@e,λd hd=>?_⟩;refine bO (λτ G'=>(∃ a b,τ=[@K,some (.ref d),a,b])/\@E/\G' d=some (.lst ((cm rows 0).map enc))) ?_ ?_
 .intro N hN;simp only [cS,fO,fC,ag,ak,aa,aH];refine h8 (IsL.enc rows) ?_;rw [ai];simp only [e8];refine⟨@d,@d,?_⟩;unfold dN;refine cK (xs:=bZ (rows.length:Int).toNat) (λks τ G'=>(∃ a b,τ=[@K,some (.ref d),a,b])/\@E/\G' d=some (.lst ((cm (rows.take ks.length) 0).map enc))) ⟨@aR,.new hd,aA⟩ @am ?_ ?_
  .rintro ks k post τ G1 N2 e ⟨⟨a1,a2,rfl⟩,l1,gd1⟩ kz;have ek:k=ks.length:=by
    have:=congrArg (λl=>l[ks.length]?) e;simp only [bb @T,qS,aa] at this;have hl:=congrArg bS e;rw [cV,aq,af] at hl;rw [yV @c] at this;injection this with this;exact this.symm
   have hk:k < rows.length:=by
    have:k∈bZ (rows.length:Int).toNat:=by rw [e];simp
    have:=List.mem_range.mp this;lia
   subst ek;have et:rows.take (ks.length+1)=rows.take ks.length++[rows[ks.length]]:=by rw [List.take_add_one,aB hk];rfl
   have esp:cm (rows.take (ks.length+1)) 0=cm (rows.take ks.length) 0++fy rows[ks.length] (ks.length:Int):=by
    rw [et,uj,cm,cm,bq,dF,w9 @c,nk]
   have aaQ:(cm (rows.take ks.length) 0).length+(fy rows[ks.length] (ks.length:Int)).length<=400:=by
    have h1:(cm rows 0).length<=400:=@d
    have:=uj (rows.take (ks.length+1)) (rows.drop (ks.length+1)) 0;rw [d8] at this;rw [this,aq,esp,aq] at h1;lia
   generalize hro:rows[ks.length]=r at *;have xr:oz (rows.map (enc:@F->D)) (0+(ks.length:Int))=some (enc r):=by rw [M4 hk,hro]
   generalize cm (rows.take ks.length) 0=L at *;simp only [aG,ao,ah];refine bO (λτ G'=>(∃ b,τ=[@K,some (.ref d),some (.int (0+(ks.length:Int))),b])/\@E/\((r=[]/\G' d=some (.lst ((L++fy r (ks.length:Int)).map enc)))\/(r≠[]/\G' d=some (.lst (L.map enc))))) ?_ ?_
   .intro N3 iM;simp only [rN,iJ,cp,kh,ak,ae,aa,ez,ag,cy,dC,aH,af,av,b8,bH,bM,aN];refine fh (IsL.enc rows) xr ?_;refine MF (IsL.enc r) ?_;cases r with
    | nil =>
     simp only [aP,List.isEmpty_nil,aY,a8,gd1,true_and,if_true];refine⟨@e,pL (@az),iM _ _ ⟨@ah,l1.put hd,.inl ⟨rfl,?_⟩⟩⟩;rw [aA,Qs,aI];rfl
    | cons t r =>
     simp only [az,List.isEmpty_cons,a8,aY,aj,if_false];exact iM _ _ ⟨@ah,l1,.inr ⟨@ad,gd1⟩⟩
   .rintro _ G3 ⟨⟨b,rfl⟩,l3,Vw⟩;simp only [cS,bU,aN,ak,aa,ae];refine fh (IsL.enc rows) xr ?_;refine dq ?_;refine cK (xs:=r) (λpp τ G'=>(∃ b,τ=[@K,some (.ref d),some (.int (0+(ks.length:Int))),b])/\@E/\((r=[]/\G' d=some (.lst ((L++fy r (ks.length:Int)).map enc)))\/(r≠[]/\G' d=some (.lst ((L++pp.map T3.s).map enc))))) ⟨@ah,l3,?_⟩ @am ?_ ?_
    .rcases Vw with h | ⟨h1,h2⟩
     .exact .inl h
     .exact .inr ⟨h1,by rw [aP,bq];exact h2⟩
    .rintro pp t pt τ G4 N4 e4 ⟨⟨b,rfl⟩,l4,JC⟩ Zs;have mQ:r≠[]:=by rw [e4];simp
     rcases JC with ⟨h1,_⟩ | ⟨_,JC⟩
     .exact absurd h1 mQ
     have eo:fy r (ks.length:Int)=r.map T3.s:=by unfold fy;rw [if_neg mQ]
     have hl4:(L++pp.map T3.s).length<=1000:=by
      rw [eo,ai] at aaQ;have:=congrArg bS e4;rw [aq,af] at this;rw [aq,ai];lia
     simp only [aG,cp,kh,ak,kd,ao,ah,ae,aa,ez,JC,ag,cy,aN,dC,aH,af,av,b8,dg,D0,AG,true_and];refine⟨@e,pL (by rw [ai];exact hl4),Zs _ _ ⟨@ah,l4.put hd,.inr ⟨mQ,?_⟩⟩⟩;rw [aA,aI (l₁:=pp),<-bD,aI (l₁:=L++_)];rfl
    .rintro τ G4 ⟨⟨b,rfl⟩,l4,JC⟩;refine kz _ _ ⟨@aR,l4,?_⟩;rw [aq,af,av,nk,esp];rcases JC with ⟨_,h⟩ | ⟨h1,h⟩
     .exact h
     .have eo:fy r (ks.length:Int)=r.map T3.s:=by unfold fy;rw [if_neg h1]
      rw [eo];exact h
  .rintro τ G' ⟨⟨a,b,rfl⟩,l,gd⟩;refine hN _ _ ⟨@aR,l,?_⟩;have:rows.take (bZ (rows.length:Int).toNat).length=rows:=by rw [cV];simp
   rw [this] at gd;exact gd
 .rintro _ G' ⟨⟨a,b,rfl⟩,l,gd⟩;simp only [bE,cA,ak,ae,aa];exact q _ _ hd l gd
theorem wG(ds)(G)(Q)(h:iZ ds G Q @w):pO @r @C (aT 4 ds) G:=by
 obtain⟨rows,rfl,hd,q⟩:=h;exact MT hd.1 hd.2 λd G' hd l gd=>gq l hd gd q
def V9(rows:Rows)(a b:Int)(o:T2):List T2:=(cm (lK o (tF a b 0 1) rows 0) 0).filter λs=>!decide (s=@au)
theorem aax(k)(h:r.map T3.s=r'.map T3.s):fy r k=fy r' k:=by
 unfold fy;cases r with
 | nil=>cases r' with
  | nil=>rfl
  | cons x r'=>cases h
 | cons y r=>cases r' with
  | nil=>cases h
  | cons x r'=>rw [if_neg @k,if_neg @k,h]
theorem Ym(h:ps.map T3.s=ps'.map T3.s):∀ r:@F,(r.flatMap (Ej s ps)).map T3.s=(r.flatMap (Ej s ps')).map T3.s
 | []=>rfl
 | p :: r=>by
  rw [di,di,aI,aI,Ym h r];congr 1;unfold Ej;split
  .rw [az,az,h]
  .rfl
theorem WO(h:ps.map T3.s=ps'.map T3.s)(k)(r):(lG s ps k r).map T3.s=(lG s ps' k r).map T3.s:=by
 unfold lG;rw [aI,aI,Ym h r];split
 .rw [h]
 .rfl
theorem xk(h:ps.map T3.s=ps'.map T3.s):∀ (rows:Rows) (k j:Nat),cm (lK s ps rows k) j=cm (lK s ps' rows k) j
 | [],_,_=>rfl
 | r :: rows,k,j=>by
  show fy (lG s ps k r) _++cm (lK s ps rows (k+1)) (j+1)=fy (lG s ps' k r) _++cm (lK s ps' rows (k+1)) (j+1);rw [aax _ (WO h k r),xk h rows]
theorem CM:u∈V9 rows a b o↔u∈cm (@bm) 0/\u≠@au:=by
 unfold V9;rw [jz,xk (ps:=tF a b 0 1) (ps':=tF a b 0 h) rfl];simp
theorem EY(d:@J)(hs:s∈cm rows 0)(hp:ps.length<=4):(lK s ps rows 0).length<=100/\(lK s ps rows 0).flatten.length<=30:=by
 have:=d.str;have:=d.kb;refine⟨by rw [pU];lia,?_⟩;rw [(mH (ps:=ps) d.dn (IU hs)).length_eq,aq];lia
end V6
namespace V6
open K2.P
open K2.Mo hiding cN dU dW cJ eE eG
open K2.qT (eI)
open K2.mj (HR)
open K2.wZ (xj Ro)
open K2.A3 (cw gi)
open K2.CA (DT)
open K2.LM (cJ ER)
variable {rows:Rows} {a b:Int} {o u:T2} {t h:Int}
end V6
namespace CA
open K2.P K2.mj
open K2.K3
variable {rows:Rows}
end CA
namespace CA
open K2.P K2.mj
open K2.K3
variable {rows:Rows}
end CA
namespace CA
open K2.P K2.mj
open K2.K3
variable {rows:Rows}
theorem sN(df:DF rows.flatten)(h:m∉@a0):m∉rows.flatten.map (·.a):=λz=>by
 obtain⟨p,hp,e⟩:=List.mem_map.mp z;refine h ?_;unfold ky;rcases df.way p hp with h0 | h1
 .exact List.mem_map.mpr ⟨p,List.mem_filter.mpr ⟨hp,by simp [h0]⟩,e⟩
 .exact List.mem_map.mpr ⟨_,List.mem_filter.mpr ⟨df.vN p hp,by simp [h1]⟩,e⟩
end CA
namespace V6
open K2.P
open K2.Mo hiding cN dU dW cJ eE eG
open K2.qT (eI)
open K2.mj (HR iK)
open K2.LM (cJ)
open K2.CA (gZ gX gh cx ky kT sN)
open K2.K3 (DF)
theorem SD:∀ {rows:Rows} {k:Nat},p∈rows.flatten->p.s∈cm rows k
 | r :: rows,k,h=>by
  rw [cm];rcases List.mem_append.mp (@bE:p∈r++rows.flatten) with h | h
  .refine dJ _ ?_;unfold fy;rw [if_neg (List.ne_nil_of_mem h)];exact List.mem_map.mpr ⟨p,h,rfl⟩
  .exact bW _ (SD h)
theorem MA(d:@J)(ho:o∈cm rows 0)(ne:a≠b):V9 rows a b o≠[]:=by
 have:(⟨b,0⟩:T2)∈V9 rows a b o:=by
  rw [CM (h:=1)];refine⟨SD (p:=⟨b,0,-1⟩) ?_,λz=>ne (congrArg T2.a z).symm⟩;exact(mH (ps:=tF a b 0 1) d.dn (IU ho)).mem_iff.mpr (by simp [tF])
 exact List.ne_nil_of_mem this
theorem Hf(dr:@J)(hm:m∉@a0)(p)(hp:p∈rows.flatten):p.a≠m:=λe=>hm (by
 rcases dr.way p hp with hb | hb
 .exact List.mem_map.mpr ⟨p,List.mem_filter.mpr ⟨hp,@bv⟩,e⟩
 .have Wl:=dr.vN p hp;exact List.mem_map.mpr ⟨_,List.mem_filter.mpr ⟨Wl,by simp [hb]⟩,e⟩)
end V6
namespace Gm
open K2.P
open K2.Mo
open K2.CA (gZ gX gC mixed ky kT)
open K2.V6 (iZ V9 CM MA Hf EY xk)
open K2.LM (jJ HU)
variable {rows:Rows}
theorem QW(n):dN 0 n=(bZ n).map λk:Nat=>D.int (k:Int):=by
 rw [GW,cI];rfl
theorem MS(h:1<=rows.length):1<=(cm rows 0).length:=by
 cases rows with
 | nil=>simp at h
 | cons r rs =>
  rw [cm,aq];have:1<=(fy r ((0:Nat):Int)).length:=by
   unfold fy;split
   .simp
   .rename_i c;rw [ai];exact List.length_pos_iff.mpr c
  lia
theorem SK{α:Type} [@ag] [Enc α]{xs:@v}{d:D}{k:Int}{G:Gp}{Q:DK}(h:IsL G d (@bi))(h0:0<=k)(h1:k < xs.length)(q:∀ x∈xs,Q (enc x) G):eB d (.int k) G Q:=by
 have hi:k.toNat < xs.length:=@d
 refine fh (x:=enc (xs[k.toNat])) h ?_ (q _ (bQ hi));rw [gF _ h0 (@az),bN]
def qB:fG :=
 (bz (bh (aZ gZ @ac) (aG 2))
 (bz (bh (aZ gX (ag (cA @q) (ag (cA @n) aH))) (aG 3))
 (bz (bh (aZ gX (ag (cA (aN jS @q (dc (ag @I aH)))) (ag (cA (aN kY @n (dC (.int 999)))) aH))) (aG 4))
 (bz (bh (aZ gC @aL) (aG 5))
 (bz (bh (aN C6 @z (aN lF @an (aN jj (ak 5) @an))) (aG 6))
 (bz (bh (aZ iZ @ac) (aG 7))
 (bz (bh (aZ jJ (ag @i (ag (aN eB (ak 7) (aN jj (aN kY (ak 5) (dC (.int 4))) (fC gV (ag (ak 7) aH)))) (ag (dc (ag (cy (ag @I (ag @M (ag (ak 6) aH)))) (ag (cy (ag (ak 4) (ag @M (ag (Bt zL (ak 6)) aH)))) aH))) aH)))) (aG 8))
 (bz (bh (dc (ag (cy (ag @I (ag @z (ag (ak 6) aH)))) (ag (cy (ag (ak 4) (ag @z (ag (Bt zL (ak 6)) aH)))) aH))) (aG 9))
 (bz (cH (cW (aN @ap (aN jj (aN kY (ak 5) @an) @an) @z)) (bh (dc (ag (aN eB (ak 9) @z) (ag (aN eB (ak 9) @M) aH))) (aG 9)) bH)
 (bz (bh (dS 1 [3] (fI (aZ iZ (ag (ak 8) aH))) (aG 0) (some (cW (aN (kS true) @i (cy (ag @n (ag @M aH)))))) @i) (aG 7))
 (bE (cA (aZ jJ (ag (ak 8) (ag (aN eB (ak 7) (aN jj (aN kY (aN kY (ak 5) (dC (.int 4))) (dC (.int 11))) (fC gV (ag (ak 7) aH)))) (ag (ak 9) aH))))))))))))))))
def lC:gH:=λds G Q _=>∃ (rows:Rows) (c:Int),ds=[@aq,.int c]/\(@J/\1<=rows.length/\rows.flatten.length<=20)/\∀ R:Rows,Dr R->R.length=rows.length->R.flatten.length=rows.flatten.length+4->Q (enc R) G
theorem yQ(ds)(G)(Q)(h:lC ds G Q @w):qB @r @C (aT 10 ds) G:=by
 obtain⟨rows,cl,rfl,⟨d,h1,kb⟩,q⟩:=h;obtain⟨d1,d2⟩:=HU d;have ol:=kT rows.flatten;have sl:=Kk d;have sn:=MS h1;unfold qB;simp![bh,aZ,ag,ak,aT,aX,aH,aG,cA,aN,dc,dC,fC,cy,Bt,ends];refine⟨rows,rfl,(show @bM by lia),c6 (c6 ⟨@a0,cl,rfl,@d,λa ha _ _=>?_⟩)⟩;simp!;refine⟨@e,λp1 f1=>?_⟩;refine pT (IsL.enc (@a0)) (.ref aA) (yB (by simp only [ai,af,av];lia)) λp2 f2=>?_;refine gq (xs:=@a0++[a]) ((dM.new f1).trans (.new f2)) ((dM.new f1).free f2) (by rw [aA,aI];rfl) ?_;refine⟨@e,@e,c6 ⟨@a0++[a],_,rfl,by rw [aq];simp;lia,λb hb _ _=>?_⟩⟩;have X4:b∉@a0:=λz=>hb (dJ _ z);have Ci:a≠b:=λz=>hb (by rw [z];simp);refine⟨cl,rfl,?_⟩;have m0:0<=mixed cl:=by unfold mixed;lia
 generalize mixed cl=r at m0;simp!;refine⟨@e,.inl @c,?_⟩;generalize hh:1 - 2 * (r % 2)=h;have h2:h=1\/h=-1:=@d
 refine⟨rows,rfl,⟨d1,@d⟩,⟨@e,@e,h8 (IsL.enc (cm rows 0)) ?_⟩⟩;rw [ai];simp only [↓cF];have k0:=iF (r / 4) (show ((cm rows 0).length:Int)≠0 by lia);have k1:=fZ (r / 4) (show (0:Int) < ((cm rows 0).length:Int) by lia);refine⟨@d,SK (IsL.enc (cm rows 0)) k0 k1 λo ho=>?_⟩;refine⟨@e,@e,@e,λp3 f3=>?_⟩;obtain⟨k3,k4⟩:=EY (ps:=tF a b 0 h) d ho (by simp [tF]);refine⟨rows,o,_,tF a b 0 h,rfl,.ref aA,⟨d1,d2,by simp [tF]⟩,?_⟩;have l3:dM G (dB G p3 (.lst [.tup [.int a,.int 0,.int h],.tup [@ab,.int 0,.int (-h)]])):=.new f3;generalize dB G p3 (.lst [.tup [.int a,.int 0,.int h],.tup [@ab,.int 0,.int (-h)]])=G1 at l3;refine⟨@e,@e,@e,λp4 f4=>?_⟩;have f4':=l3.free f4;have c:∀ {u:T2} {t:Int},u∈cm (@bm) 0->u≠@au->(t=0\/t=1)->ZP rows a b o u t h:=λ{u t} hu mQ ht=>⟨d,kb,Ci,Hf d ha,Hf d X4,ho,hu,mQ,ht,h2⟩;have fin:∀ {u:T2} {t:Int},u∈cm (@bm) 0->u≠@au->(t=0\/t=1)->Q (enc (raw rows a b o u t h)) G:=λ{u t} hu mQ ht=>by
  have cc:=c hu mQ ht;refine q _ (Uj cc) ?_ ?_
  .show (lK u (KU a b t h) (@bm) 0).length=_;rw [pU,pU]
  .refine(mH (ps:=KU a b t h) (MB cc) (IU hu)).length_eq.trans ?_;show (KU a b t h++(@bm).flatten).length=_;rw [aq,(mH d.dn (IU ho)).length_eq,aq];have:(KU a b t h).length=2:=by unfold KU;split <;> rfl
   rw [this];show 2+(2+_)=_;lia
 refine bO (λτ G'=>@E/\∃ (t:Int) (pu:Nat),(t=0\/t=1)/\G' pu=some (.lst ((KU a b t h).map enc))/\τ=[@K,some (.int cl),some (enc (@a0)),@a1,some (@ab),some (.int r),some (.int h),some (enc (cm rows 0)),some (enc (@bm)),some (.ref pu)]) ?_ ?_
 .intro N0 hN;simp![cH,aN,ak,dC,bh,dc,ag,aH,aG,bH];refine⟨@e,@e,@e,c8 (x:=r / 2 % 2) (y:=(1:Int)) @o ?_⟩;by_cases cc:r / 2 % 2=1
  .simp![cc,decide_true];have a0:∀ x y:D,oz [x,y] 0=some x:=λ_ _=>rfl;have a1:∀ x y:D,oz [x,y] 1=some y:=λ_ _=>rfl;rw [C9 aA (a1 _ _),C9 aA (a0 _ _)];refine⟨@e,λp5 f5=>hN _ _ ⟨(l3.trans (.new f4)).trans (.new f5),1,p5,.inr rfl,?_,rfl⟩⟩;rw [aA];rfl
  .simp![cc,decide_false];exact hN _ _ ⟨l3.trans (.new f4),0,p4,.inl rfl,by rw [aA];rfl,rfl⟩
 .rintro _ G2 ⟨l2,t,pu,ht,gu,rfl⟩;have su:=ui (@bm);simp![bh,dS,aZ,ag,ak,aH,aG,bE,cA,aN,dC,fC];refine⟨_,rfl,⟨k3,@d⟩,dq ⟨yB (by rw [ai];show (cm (@bm) 0).length<=_;lia),?_⟩⟩;refine fk (xs:=cm (@bm) 0) (λpr acc τ G'=>G2=G'/\acc=(pr.filter λs=>!decide (s=(@au:T2))).map enc/\∃ b,τ=[b,@a1]) ⟨rfl,rfl,_,rfl⟩ (λ_ _ _ _ _=>trivial) ?_ ?_
  .rintro pr s po acc τ G' N3 e3 ⟨rfl,rfl,z,rfl⟩ iM;simp![aG,aN,ak,cy,ag,dC,aH];refine⟨@e,c8 (x:=s) (y:=(@au:T2)) @o ?_⟩;by_cases cs:s=@au
   .simp![cs,decide_true];refine iM _ _ _ ⟨rfl,?_,_,rfl⟩;rw [cM,aI,dG];simp [cs]
   .simp![cs,decide_false];refine iM _ _ _ ⟨rfl,?_,_,rfl⟩;rw [cM,aI,dG];simp [cs]
  .rintro acc τ G' ⟨rfl,rfl,z,rfl⟩ p6 f6;generalize hU:((cm (@bm) 0).filter λs=>!decide (s=(@au:T2)))=U;have hUm:∀ u∈U,u∈cm (@bm) 0/\u≠@au:=λu hu=>by
    rw [<-hU,jz] at hu;exact⟨hu.1,by simpa using hu.2⟩
   have hUn:1<=U.length:=by
    have h5:V9 rows a b o≠[]:=MA d ho Ci;obtain⟨u,hu⟩:=List.exists_mem_of_ne_nil _ h5;have:=(CM (h:=h)).mp hu;have hm:u∈U:=by rw [<-hU,jz];exact⟨this.1,by simpa using this.2⟩
    exact lP hm
   refine⟨@e,@e,@e,@e,h8 (.ref aA) ?_⟩;rw [ai];simp only [↓cF];have u0:=iF (r / 4 / 11) (show (U.length:Int)≠0 by lia);have u1:=fZ (r / 4 / 11) (show (0:Int) < (U.length:Int) by lia);refine⟨@d,SK (.ref aA) u0 u1 λu hu=>?_⟩;obtain⟨hu1,hu2⟩:=hUm u hu;have nu:pu≠p6:=by ext c;rw [gu] at f6;cases f6
   have kr:∀ r∈@bm,r.length<=100:=λr hr=>by
    have:r.length<=(@bm).flatten.length:=by
     obtain⟨A,B,e⟩:=qK hr;rw [e,cO,aW,aq,aq];lia
    lia
   refine⟨_,u,_,KU a b t h,rfl,.ref (by rw [bL nu];exact gu),⟨k3,kr,by unfold KU;split <;> simp [tF]⟩,?_⟩;exact vZ (l2.trans (.new f6)) (fin hu1 hu2 ht)
theorem WH(h:m∈qi rows):∃ (w:Str) (as:@f),td m=.tup (.str w :: as)/\as.length<=10/\okW w/\∀ a∈as,Pl a:=by
 have pi:∀ i:Int,Pl (@Y):=λi=>.inl ⟨i,rfl⟩;have all:∀ (l:@G),∀ a∈l.map D.int,Pl a:=λl a ha=>by
  obtain⟨i,_,rfl⟩:=List.mem_map.mp ha;exact pi i
 rcases List.mem_append.mp h with h | h
 .rcases List.mem_append.mp h with h | h
  .obtain⟨a,b,_,_,_,rfl⟩:=sY.mp h;exact⟨"part",[a,b].map D.int,rfl,@ad,@ao,all _⟩
  .obtain⟨a,b,c,t,_,_,_,_,rfl⟩:=sX.mp h;exact⟨"slide",[a,b,c,t].map D.int,rfl,@ad,@ao,all _⟩
 .obtain⟨n,_,_,rfl⟩:=zf.mp h;exact⟨"uncurl",[n].map D.int,rfl,@ad,@ao,all _⟩
def tY:fG :=
 (bz (cH (uO (iJ (cW (uG "list" @i))) (cW (aN (kS true) (fC gV @ac) (fC gV @aL)))) @a4 bH)
 (bz (cS (mO (fC gV @aL)) (aG 2) (cH (iJ (cW (aZ cJ (ag (aN eB @i @q) (ag (aN eB @n @q) aH))))) @a4 bH))
 (bE (cA (dC (.bl true))))))
def kR:gH:=λds G Q _=>∃ rows:Rows,ds=[.eA (@bf),.eA (@bf)]/\(@J/\(@m).length<=10)/\Q (.bl true) G
theorem BA(ds)(G)(Q)(h:kR ds G Q @w):tY @r @C (aT 3 ds) G:=by
 obtain⟨rows,rfl,⟨d,nl⟩,q⟩:=h;have l1:=Cr nl;have l2:=Cq nl;have l3:=JE rows;have hl:(qi rows).length<=3000:=by unfold qi;rw [aq,aq];lia
 unfold tY;refine bO (λτ G'=>G=G'/\τ=[some (.eA (@bf)),some (.eA (@bf)),none]) ?_ ?_
 .intro N0 hN;simp![cH,uO,iJ,ak,aT,aX,bE,cA,dC,ends,bH,aN,fC,ag,aH];refine R3 .eA ?_;simp![beq_self_eq_true];refine c8 (x:=((@bf).length:Int)) (y:=((@bf).length:Int)) @o ?_;simp![decide_true];exact hN _ _ @aP
 rintro _ _ ⟨rfl,rfl⟩;refine bO (λτ G'=>G=G'/\∃ a,τ=[some (.eA (@bf)),some (.eA (@bf)),a]) ?_ ?_
 .intro N0 hN;simp![cS,fC,ag,ak,aH,ends];rw [ai];refine⟨@d,@d,?_⟩;rw [b0,QW];refine cK (xs:=bZ (qi rows).length) (f:=λk:Nat=>D.int (k:Int)) (λks τ G'=>G=G'/\∃ a,τ=[some (.eA (@bf)),some (.eA (@bf)),a]) ⟨rfl,_,rfl⟩ @am ?_ ?_
  .rintro ks k po τ _ N2 e ⟨rfl,a,rfl⟩ kz;have hk:k < (qi rows).length:=List.mem_range.mp (by rw [e];simp);have hm:(qi rows)[k]∈qi rows:=bQ hk;obtain⟨w,as,ew,e1,e2,e3⟩:=WH hm;have ea:oz (@bf) (k:Int)=some (.tup (.str w :: as)):=by
    rw [gF _ @c (@az),<-ew];simp
   simp![aG,cH,iJ,aZ,ag,aN,ak,aH,bE,cA,dC,bH];simp only [ea];refine⟨w,as,rfl,⟨e1,e2,e3⟩,?_⟩;simp!;exact kz _ _ ⟨rfl,_,rfl⟩
  .rintro τ _ ⟨rfl,a,rfl⟩;exact hN _ _ ⟨rfl,_,rfl⟩
 rintro _ _ ⟨rfl,a,rfl⟩;simp only [bE,cA,dC,ends];exact c6 q
end Gm
namespace Ii
open K2.P
open K2.Mo
open K2.qT (eI)
open K2.wZ (xj Ro)
variable {rows:Rows}
end Ii
namespace Ii
open K2.P
open K2.Mo
open K2.CA (gC mixed)
section
variable {α:Type} [@ag] [Enc α]
structure PO(G G':Gp)(p0:Nat)(as:@aC)(rs:List (@v)):Prop where
 le:@E
 fp:G p0=none
 gp:G' p0=some (.lst (as.map D.ref))
 np:p0∉as
 nd:as.Nodup
 fr:∀ a∈as,G a=none
 len:as.length=rs.length
 at':∀ (i a:Nat) (r:@v),as[i]?=some a->rs[i]?=some r->G' a=some (.lst (@aM))
theorem PO.put(h:PO G G' p0 as rs){r':@v}(ha:as[j]?=some a):PO G (dB G' a (.lst (r'.map enc))) p0 as (rs.set j r'):=by
 have hm:a∈as:=cT ha;have hj:j < as.length:=(List.getElem?_eq_some_iff.mp ha).1;refine⟨h.le.put (h.fr a hm),h.fp,?_,h.np,h.nd,h.fr,by rw [jA];exact h.len,λi b r hb hr=>?_⟩
 .rw [bL (by ext c;exact h.np hm)];exact h.gp
 ·by_cases e:i=j
  .subst e;rw [ha] at hb;cases hb;rw [gI (by have:=h.len;lia)] at hr;cases hr;exact aA
  .have:b≠a:=by
    ext c;have h1:=List.getElem?_eq_some_iff.mp hb;have h2:=List.getElem?_eq_some_iff.mp ha;have pw:=List.pairwise_iff_getElem.mp h.nd;rcases CI i j with lt | eq | gt
    .exact pw i j h1.1 h2.1 lt (h1.2.trans h2.2.symm)
    .exact e eq
    .exact pw j i h2.1 h1.1 gt (h2.2.trans h1.2.symm)
   rw [bL this];rw [iq (λz=>e z.symm)] at hr;exact h.at' i b r hb hr
theorem PO.fz{G G':Gp}{p0:Nat}{as:@aC}{rs:List (@v)}(h:PO G G' p0 as rs){Q:DK}(q:Q (enc rs) G):Im G' (.ref p0) Q:=by
 refine oq h.le h.fp h.gp (ss:=rs.map enc) ?_ q;have:∀ (as:@aC) (rs:List (@v)),as.length=rs.length->(∀ a∈as,G a=none)->(∀ (i a:Nat) (r:@v),as[i]?=some a->rs[i]?=some r->G' a=some (.lst (@aM)))->AS G' (λa=>(G a).isNone) (as.map D.ref) (rs.map enc):=by
  intro as;induction as with
  | nil=>intro rs hl _ _;cases rs with
   | nil=>exact .nil
   | cons _ _=>cases hl
  | cons a as ih =>
   intro rs hl hf El;cases rs with
   | nil=>cases hl
   | cons r rs =>
    refine .cons (.ref (El 0 a r rfl rfl) (by simp [hf a @k]) (AS.same _)) ?_;exact ih rs (by simpa using hl) (λb hb=>hf b (aL _ hb)) λi b s h1 h2=>El (i+1) b s h1 h2
 exact this as rs h.len h.fr h.at'
structure Qg(G G':Gp)(as:@aC)(rs:List (@v)):Prop where
 le:@E
 nd:as.Nodup
 fr:∀ a∈as,G a=none
 len:as.length=rs.length
 at':∀ (i a:Nat) (r:@v),as[i]?=some a->rs[i]?=some r->G' a=some (.lst (@aM))
theorem Qg.nil(G):Qg G G [] ([]:List (@v)):=⟨.refl _,fL,(λa h=>@aH),rfl,λi a r h=>by simp at h⟩
theorem Qg.new{rs:List (@v)}(h:Qg G G' as rs)(hp:G' p=none):p∉as:=λz=>by
 obtain⟨i,hi⟩:=nX z;have h1:i < rs.length:=by rw [<-h.len];exact(List.getElem?_eq_some_iff.mp hi).1
 rw [h.at' i p rs[i] hi (aB h1)] at hp;cases hp
theorem Qg.push(h:Qg G G' as rs)(hp:G' p=none)(r:@v):Qg G (dB G' p (.lst (@aM))) (as++[p]) (rs++[r]):=by
 have S2:=h.new hp;refine⟨h.le.trans (.new hp),?_,?_,by simp [h.len],?_⟩
 .rw [jN];refine⟨h.nd,@ad,λa ha b hb e=>?_⟩;rw [eK] at hb;subst hb e;exact S2 ha
 .intro a h0;rcases List.mem_append.mp h0 with z | z
  .exact h.fr a z
  .rw [eK] at z;subst z;exact h.le.free hp
 .intro i b s h1 h2;by_cases hi:i < as.length
  .rw [bB hi] at h1;rw [bB (by rw [<-h.len];lia)] at h2;have:b≠p:=by ext c;exact S2 (cT h1)
   rw [bL this];exact h.at' i b s h1 h2
  .rw [bb @c] at h1;rw [bb (by rw [<-h.len];lia)] at h2;have i0:i - as.length=0:=by have:=(List.getElem?_eq_some_iff.mp h1).1;simp at this;lia
   rw [i0] at h1;rw [<-h.len,i0] at h2;simp at h1 h2;subst h1 h2;exact aA
theorem Qg.top{rs:List (@v)}(h:Qg G G' as rs)(hp:G' p=none):PO G (dB G' p (.lst (as.map D.ref))) p as rs :=
 ⟨h.le.trans (.new hp),h.le.free hp,aA,h.new hp,h.nd,h.fr,h.len,λi b r h1 h2=>(dM.new hp) _ _ (h.at' i b r h1 h2)⟩
theorem Pj{rows:List (@v)}{G:Gp}{Q:DK}(hl:rows.length<=1000){τ:ie}(q:∀ G' p as,PO G G' p as rows->Q (@U) G') :
  Le (@aq) G λds ok G1=>ds.length<=SZ/\iR (aG 0) none (fC nS @ac) ok ds @r (ql 1 [] τ) G1 [] λxs G2=>iQ G2 (.lst xs) Q:=by
 refine dq ⟨yB (by rw [ai];exact hl),?_⟩;refine fk (xs:=rows) (λpre acc τ G'=>(∃ a,τ=[a])/\∃ as:@aC,acc=as.map D.ref/\Qg G G' as pre) ⟨@ah,[],rfl,.nil G⟩ (λ_ _ _ _ _=>trivial) ?_ ?_
 .rintro pre r post acc τ G' N e ⟨⟨a,rfl⟩,as,rfl,h⟩ hN;simp![aG,fC,ag,ak,aH];refine wx (IsL.enc r) λp hp=>?_;exact hN _ _ _ ⟨@ah,as++[p],@ad,h.push hp r⟩
 .rintro acc τ G' ⟨⟨a,rfl⟩,as,rfl,h⟩ p hp;exact q _ p as (h.top hp)
theorem PO.at_{rs:List (@v)}(h:PO G G' p0 as rs){j:Int}(j1:0<=j)(j2:j < rs.length):∃ a r,as[j.toNat]?=some a/\rs[j.toNat]?=some r/\G' a=some (.lst (@aM))/\oz (as.map D.ref) j=some @Q:=by
 have hj:j.toNat < as.length:=by have:=h.len;lia
 refine⟨as[j.toNat],rs[j.toNat]'(@d),aB hj,aB _,h.at' _ _ _ (aB hj) (aB _),?_⟩;rw [gF _ j1 (by rw [ai];have:=h.len;lia),bN]
end
def vF:fG :=
 (bz (bh (aZ gC @aL) (aG 3))
 (bz (bh (dS 1 [] (fI @i) (aG 0) none (fC nS @ac)) (aG 4))
 (bz (bh (aN eB (ak 4) (aN jj @I (fC gV (ag (ak 4) aH)))) (aG 5))
 (bz (cp (kh qN nO (ak 5) (ag (aN jj (aN kY @I (fC gV (ag (ak 4) aH))) (aN jS (fC gV (ag (ak 5) aH)) @z)) (ag @q aH))))
 (bE (cA (ak 4)))))))
abbrev YY:=List (List (@F))
def lW:gH:=λds G Q _=>∃ (R:YY) (c:Int) (B:@F),ds=[enc R,.int c,enc B]/\(1<=R.length/\R.length<=500/\∀ r∈R,r.length<=500)/\∀ (j k:Nat) (r:List (@F)),R[j]?=some r->k<=r.length->Q (enc (R.set j (r.take k++B :: r.drop k))) G
theorem wN(ds)(G)(Q)(h:lW ds G Q @w):vF @r @C (aT 6 ds) G:=by
 obtain⟨R,c,B,rfl,⟨n1,n2,n3⟩,q⟩:=h;unfold vF;refine bO (λτ G'=>G=G'/\∃ x:Int,0<=x/\τ=[some (enc R),@aX,some (enc B),some (.int x),none,none]) ?_ ?_
 .intro N hN;simp![bh,aZ,ag,ak,aT,aX,aH,aG];exact⟨c,rfl,hN _ _ ⟨rfl,_,by unfold mixed;lia,rfl⟩⟩
 rintro _ _ ⟨rfl,x,x0,rfl⟩;refine bO (λτ G'=>∃ p as,PO G G' p as R/\τ=[some (enc R),@aX,some (enc B),some (.int x),@aj,none]) ?_ ?_
 .intro N hN;simp![bh,dS,ak,aG];exact Pj @c λG' p as hr=>hN _ _ ⟨p,as,hr,rfl⟩
 rintro _ G1 ⟨p,as,hr,rfl⟩;have j1:0<=x % (R.length:Int):=iF _ @c;have j2:x % (R.length:Int) < R.length:=fZ _ @c;obtain⟨a,r,ea,er,ga,xa⟩:=PO.at_ hr j1 j2;have rl:=n3 r (cT er);refine bO (λτ G'=>G1=G'/\τ=[some (enc R),@aX,some (enc B),some (.int x),@aj,some @Q]) ?_ ?_
 .intro N hN;simp![bh,aN,ak,fC,ag,aH,aG];refine h8 (IsL.ref hr.gp) ?_;rw [ai,hr.len];simp only [↓cF];exact⟨@d,fh (IsL.ref hr.gp) xa (hN _ _ @aP)⟩
 rintro _ _ ⟨rfl,rfl⟩;simp![cp,kh,ak,ag,aN,fC,aH,dC,bE,cA,ends];refine⟨by simp only [ga],h8 (IsL.ref hr.gp) ?_⟩;rw [ai,hr.len];simp only [↓fc];refine⟨@d,@d,h8 (IsL.ref ga) ?_⟩;rw [ai];simp only [↓eX,↓cF,↓iP];have k1:0<=x / (R.length:Int) % ((r.length:Int)+1):=iF _ @c;have k2:x / (R.length:Int) % ((r.length:Int)+1) < (r.length:Int)+1:=fZ _ @c;refine⟨@d,?_⟩;generalize x / (R.length:Int) % ((r.length:Int)+1)=k at *;simp only [↓nO,ga];refine⟨k1,@az,pL (@az),?_⟩;have e:(@aM).take k.toNat++enc B :: (@aM).drop k.toNat=(r.take k.toNat++B :: r.drop k.toNat).map enc:=by rw [aI,az,LV,LW]
 rw [e];exact(hr.put ea).fz (q _ k.toNat r er @c)
end Ii
namespace Ii
open K2.P
open K2.Mo
def rem(G:Gp)(p:Nat):Gp:=λa=>if a=p then none else G a
theorem Ui(G)(p):dM (rem G p) G:=λa o h=>by
 unfold rem at h;split at h
 .cases h
 .exact h
theorem rB(h:a≠p):rem G p a=G a:=if_neg h
theorem M9(G)(p):rem G p p=none:=if_pos rfl
theorem Oc(l:@E)(h:G p=none):dM G (rem G' p):=λa o ha=>by
 have:a≠p:=by ext c;rw [h] at ha;cases ha
 rw [rB this];exact l _ _ ha
theorem xx{α:Type} [@ag] [Enc α]{G:Gp}{p:Nat}{xs:@v}{Q:DK}(g:G p=some (.lst (@bi)))(q:Q (enc xs) (rem G p)):Im G (@U) Q:=gq (Ui G p) (M9 G p) g q
theorem xh{α:Type}{x:α}{r r':@v}(hr:r'.Perm (x :: r)):∀ (rs:List (@v)) (j:Nat),rs[j]?=some r->(rs.set j r').flatten.Perm (x :: rs.flatten)
 | [],j,h=>@aH
 | s :: rs,0,h=>by
  cases h;rw [ah,aW,aW];exact hr.append_right _
 | s :: rs,j+1,h=>by
  rw [ao,aW,aW];exact((xh hr rs j h).append_left s).trans List.perm_middle
theorem B8{α:Type}{r:@v}:∀ {rs:List (@v)},r∈rs->r.length<=rs.flatten.length
 | s :: rs,h=>by
  rw [aW,aq];rcases List.mem_cons.mp h with rfl | h
  .lia
  .have:=B8 h;lia
theorem HX{R:YY}(h:R[j]?=some r):(R.set j (r.take k++B :: r.drop k)).flatten.flatten.Perm (B++R.flatten.flatten):=by
 have h1:(r.take k++B :: r.drop k).Perm (B :: r):=by
  refine List.perm_middle.trans ?_;rw [d8]
 exact(xh h1 R j h).flatten
def yN(a b c h0 h1 h2:Int):List (@F):=[[⟨a,0,h0⟩,⟨b,0,h1⟩],[⟨a,1,h0⟩,⟨c,0,h2⟩],[⟨b,1,h1⟩,⟨c,1,h2⟩]]
def vt:fG :=
 (bz (bh @n (Lq (fx (aG 4) (fx (aG 5) (fx (aG 6) nE)))))
 (bz (bh (aN C6 @z (aN lF @an (aN jj @q @an))) (aG 7))
 (bz (bh (dc (ag (aN C6 @z (aN lF @an (aN jj (aN kY @q @an) @an))) (ag (aN C6 @z (aN lF @an (aN jj (aN kY @q (dC (.int 4))) @an))) (ag (aN C6 @z (aN lF @an (aN jj (aN kY @q (dC (.int 8))) @an))) aH)))) (aG 8))
 (bz (bh (dc (ag (dc (ag (cy (ag (ak 4) (ag @M (ag (aN eB (ak 8) @M) aH)))) (ag (cy (ag (ak 5) (ag @M (ag (aN eB (ak 8) @z) aH)))) aH))) (ag (dc (ag (cy (ag (ak 4) (ag @z (ag (aN eB (ak 8) @M) aH)))) (ag (cy (ag (ak 6) (ag @M (ag (aN eB (ak 8) @an) aH)))) aH))) aH))) (aG 9))
 (bz (cp (kh qN eZ (ak 9) (ag (cA (dc (ag (cy (ag (ak 5) (ag @z (ag (aN eB (ak 8) @z) aH)))) (ag (cy (ag (ak 6) (ag @z (ag (aN eB (ak 8) @an) aH)))) aH)))) aH)))
 (bz (bh (dc (ag (ak 7) (ag (aN lF (aN lF (ak 7) (aN eB (ak 8) @z)) (aN eB (ak 8) @an)) (ag (aN lF (aN lF (ak 7) (aN eB (ak 8) @M)) (aN eB (ak 8) @an)) aH)))) (aG 10))
 (bz (bh (dc aH) (aG 11))
 (bz (cS (fI @i) (aG 12) (cp (kh qN eZ (ak 11) (ag (cA (dS 1 [] (fI (ak 12)) (aG 0) none (cA (dc @ac)))) aH))))
 (bz (cS (mO (dC (.int 3))) (aG 13) (bz (bh (aN eB (ak 9) (ak 13)) (aG 14))
 (bz (cH (cW (aN @ap (aN eB (ak 10) (ak 13)) (Bt zL @z))) (bh (dc (ag (aN eB (ak 14) @z) (ag (aN eB (ak 14) @M) aH))) (aG 14)) bH)
 (bz (cH (cW (aN @ap (aN jS (ak 13) @z) (aN jj (aN kY @q (dC (.int 16))) (dC (.int 6))))) (bh (dc (ag (aN eB (ak 14) @z) (ag (aN eB (ak 14) @M) aH))) (aG 14)) bH)
 (bh (aZ lW (ag (cA (ak 11)) (ag (cA (aN eB @I (ak 13))) (ag (cA (ak 14)) aH)))) (aG 11))))))
 (bz (bh (dc aH) (aG 15))
 (bz (cS (fI (ak 11)) (aG 12) (bz (bh (dc aH) (aG 16))
 (bz (cS (fI (ak 12)) (aG 14) (bh (aN jS (ak 16) (ak 14)) (aG 16)))
 (cp (kh qN eZ (ak 15) (ag (cA (ak 16)) aH))))))
 (bE (cA (ak 15))))))))))))))
def iY:gH:=λds G Q _=>∃ (rows:Rows) (a b c v:Int) (d1 d3:D) (cs:@G),ds=[@aq,d1,.int v,d3]/\IsL G d1 [.int a,@ab,.int c]/\IsL G d3 (cs.map enc)/\(cs.length=3/\1<=rows.length/\rows.length<=3/\rows.flatten.length<=22/\0<=v/\v<=100) /\
 ∀ (vh:Rows) (h0 h1 h2:Int),(h0=1\/h0=-1)->(h1=1\/h1=-1)->(h2=1\/h2=-1)->vh.length=rows.length->vh.flatten.Perm ((yN a b c h0 h1 h2).flatten++rows.flatten)->Q (enc vh) G
theorem wF(ds)(G)(Q)(h:iY ds G Q @w):vt @r @C (aT 17 ds) G:=by
 obtain⟨rows,a,b,c,v,d1,d3,cs,rfl,Vm,hd3,⟨X0,n1,n3,hf,v0,v1⟩,q⟩:=h;unfold vt;refine bO (λτ G'=>G=G'/\τ=[@K,some d1,some (.int v),some d3,@a1,some (@ab),@aX,none,none,none,none,none,none,none,none,none,none]) ?_ ?_
 .intro N hN;simp![bh,ak,aT,aX,Lq,fx,aG,nE];rw [oT Vm];exact hN _ _ @aP
 rintro _ _ ⟨rfl,rfl⟩;refine bO (λτ G'=>G=G'/\∃ t:Int,(t=1\/t=-1)/\τ=[@K,some d1,some (.int v),some d3,@a1,some (@ab),@aX,some (.int t),none,none,none,none,none,none,none,none,none]) ?_ ?_
 .intro N hN;simp![bh,aN,dC,ak,aG];exact⟨@e,.inl ⟨@e,@e⟩,hN _ _ ⟨rfl,1 - 2 * (v % 2),@d,rfl⟩⟩
 rintro _ _ ⟨rfl,t,ht,rfl⟩;refine bO (λτ G'=>∃ (h0 h1 h2:Int) (p8:Nat),((h0=1\/h0=-1)/\(h1=1\/h1=-1)/\(h2=1\/h2=-1))/\@E/\G' p8=some (.lst ([h0,h1,h2].map enc))/\τ=[@K,some d1,some (.int v),some d3,@a1,some (@ab),@aX,some (.int t),some (.ref p8),none,none,none,none,none,none,none,none]) ?_ ?_
 .intro N hN;simp![bh,dc,ag,aN,dC,ak,aH,aG];refine⟨@e,@e,@e,.inl ⟨@e,@e⟩,@e,@e,@e,.inl ⟨@e,@e⟩,@e,@e,@e,.inl ⟨@e,@e⟩,@e,λp hp=>?_⟩;exact hN _ _ ⟨1 - 2 * (v / 2 % 2),1 - 2 * (v / 4 % 2),1 - 2 * (v / 8 % 2),p,@d,.new hp,aA,rfl⟩
 rintro _ G1 ⟨h0,h1,h2,p8,hh,l1,g8,rfl⟩;refine bO (λτ G'=>∃ (q0 q1 p9:Nat),(G q0=none/\G q1=none/\G p9=none/\q0≠q1)/\dM G1 G'/\G' q0=some (.lst ([⟨a,0,h0⟩,⟨b,0,h1⟩].map (enc (α:=T3))))/\G' q1=some (.lst ([⟨a,1,h0⟩,⟨c,0,h2⟩].map (enc (α:=T3))))/\G' p9=some (.lst [.ref q0,.ref q1])/\τ=[@K,some d1,some (.int v),some d3,@a1,some (@ab),@aX,some (.int t),some (.ref p8),some (.ref p9),none,none,none,none,none,none,none]) ?_ ?_
 .intro N hN;simp![bh,dc,ag,cy,ak,dC,aN,aH,aG];refine fh (.ref g8) AG ⟨@e,?_⟩;refine fh (.ref g8) D0 ⟨@e,@e,λq0 hq0=>?_⟩;have a0:=dM.new (o:=.lst [enc (⟨a,0,h0⟩:T3),enc (⟨b,0,h1⟩:T3)]) hq0;refine fh (.ref (a0 _ _ g8)) AG ⟨@e,?_⟩;refine fh (.ref (a0 _ _ g8)) at2 ⟨@e,@e,λq1 L9=>?_⟩;have a1:=dM.new (o:=.lst [enc (⟨a,1,h0⟩:T3),enc (⟨c,0,h2⟩:T3)]) L9;refine⟨@e,λp9 hp9=>?_⟩;have a2:=dM.new (o:=.lst [.ref q0,.ref q1]) hp9;have ne:q0≠q1:=by ext c;have:=L9;rw [show dB G1 q0 _ q0=_ from aA] at this;cases this
  exact hN _ _ ⟨q0,q1,p9,⟨l1.free hq0,l1.free (a0.free L9),l1.free (a0.free (a1.free hp9)),ne⟩,(a0.trans a1).trans a2,a2 _ _ (a1 _ _ aA),a2 _ _ aA,aA,rfl⟩
 rintro _ G2 ⟨q0,q1,p9,XU,l2,Vt,Vs,g9,rfl⟩;obtain⟨f0,f1,f9,n01⟩:=XU;have n09:q0≠p9:=by ext c;rw [Vt] at g9;cases g9
 have n19:q1≠p9:=by ext c;rw [Vs] at g9;cases g9
 have L2:=l1.trans l2;have Yj:=l2 _ _ g8
 let B2:@F:=[⟨b,1,h1⟩,⟨c,1,h2⟩]
 refine bO (λτ G'=>@E/\G' p8=some (.lst ([h0,h1,h2].map enc))/\G' q0=some (.lst ([⟨a,0,h0⟩,⟨b,0,h1⟩].map (enc (α:=T3))))/\G' q1=some (.lst ([⟨a,1,h0⟩,⟨c,0,h2⟩].map (enc (α:=T3))))/\G' p9=some (.lst [.ref q0,.ref q1,enc B2])/\τ=[@K,some d1,some (.int v),some d3,@a1,some (@ab),@aX,some (.int t),some (.ref p8),some (.ref p9),none,none,none,none,none,none,none]) ?_ ?_
 .intro N hN;simp![cp,kh,ak,ag,cA,dc,cy,dC,aN,aH];refine⟨by simp only [g9],?_⟩;refine fh (.ref Yj) D0 ⟨@e,?_⟩;refine fh (.ref Yj) at2 ⟨@e,@e,λq2 Lg=>?_⟩;refine gq (xs:=B2) (.new Lg) Lg aA ?_;simp only [g9];have n89:p8≠p9:=by ext c;rw [Yj] at g9;cases g9
  exact⟨pL @k,hN _ _ ⟨L2.put f9,by rw [bL n89];exact Yj,by rw [bL n09];exact Vt,by rw [bL n19];exact Vs,aA,rfl⟩⟩
 clear g9 Vt Vs Yj l2 g8 l1;rintro _ G3 ⟨l3,g8,Vt,Vs,g9,rfl⟩;have mul:∀ {x y:Int} {G:Gp} {Q:DK},(x=1\/x=-1)->(y=1\/y=-1)->Q (.int (x * y)) G->lF (.int x) (.int y) G Q:=λhx hy q=>by
  rcases hx with rfl | rfl <;> rcases hy with rfl | rfl <;> exact⟨.inl ⟨@e,@e⟩,q⟩
 have pm:∀ {x y:Int},(x=1\/x=-1)->(y=1\/y=-1)->(x * y=1\/x * y=-1):=λhx hy=>by
  rcases hx with rfl | rfl <;> rcases hy with rfl | rfl <;> decide
 obtain⟨e0,e1,e2⟩:=hh;refine bO (λτ G'=>∃ (ts:@G) (KJ:Nat),(ts.length=3/\G KJ=none/\KJ≠q0/\KJ≠q1/\KJ≠p9)/\dM G3 G'/\G' KJ=some (.lst (ts.map enc))/\τ=[@K,some d1,some (.int v),some d3,@a1,some (@ab),@aX,some (.int t),some (.ref p8),some (.ref p9),some (.ref KJ),none,none,none,none,none,none]) ?_ ?_
 .intro N hN;simp![bh,dc,ag,ak,aN,dC,aH,aG];refine fh (.ref g8) D0 (mul ht e1 ?_);refine fh (.ref g8) at2 (mul (pm ht e1) e2 ?_);refine fh (.ref g8) AG (mul ht e0 ?_);refine fh (.ref g8) at2 (mul (pm ht e0) e2 ?_);refine⟨@e,λp hp=>?_⟩;refine hN _ _ ⟨[t,t * h1 * h2,t * h0 * h2],p,⟨rfl,l3.free hp,?_,?_,?_⟩,.new hp,aA,rfl⟩
  .rintro rfl;rw [Vt] at hp;cases hp
  .rintro rfl;rw [Vs] at hp;cases hp
  .rintro rfl;rw [g9] at hp;cases hp
 rintro _ G4 ⟨ts,KJ,⟨hts,f10,aaI,aaH,af0⟩,l4,g10,rfl⟩;have L4:=l3.trans l4
 let T:Option D->Option D->Option D->Option D->Option D->Option D->ie:=λJ9 J8 IH Qw x15 x16=>[@K,some d1,some (.int v),some d3,@a1,some (@ab),@aX,some (.int t),some (.ref p8),some (.ref p9),some (.ref KJ),J9,J8,IH,Qw,x15,x16]
 refine bO (λτ G'=>∃ Ha,G4 Ha=none/\dM G4 G'/\G' Ha=some (.lst [])/\τ=T (some (.ref Ha)) none none none none none) ?_ ?_
 .intro N hN;simp![bh,dc,aH,aG];exact⟨@e,λp hp=>hN _ _ ⟨p,hp,.new hp,aA,rfl⟩⟩
 rintro _ G5 ⟨Ha,ZF,l5,ZE,rfl⟩
 let R0:Rows->YY:=λrs=>rs.map (List.map λp=>[p])
 refine bO (λτ G'=>dM G4 G'/\G' Ha=some (.lst ((R0 rows).map enc))/\∃ J8,τ=T (some (.ref Ha)) J8 none none none none) ?_ ?_
 .intro N hN;simp![cS,ak,ends,T];refine dq ?_;refine cK (xs:=rows) (λpre τ G'=>dM G4 G'/\G' Ha=some (.lst ((R0 pre).map enc))/\∃ J8,τ=T (some (.ref Ha)) J8 none none none none) ⟨l5,ZE,_,rfl⟩ @am ?_ (λτ G' h=>hN τ G' h);rintro pre r post τ G6 N2 e ⟨l6,g6,J8,rfl⟩ kz;have mP:pre.length < rows.length:=by have:=congrArg bS e;simp at this;lia
  have XD:r.length<=22:=cY (mj.ix (by rw [e];simp:r∈rows)) hf;simp![aG,cp,kh,ak,ag,cA,dS,aH,T];refine⟨by simp only [g6],dq ⟨yB (@az),?_⟩⟩;refine fk (xs:=r) (λpr acc τ G7=>G6=G7/\acc=(pr.map λp:T3=>[p]).map enc/\∃ b,τ=[b]) ⟨rfl,rfl,_,rfl⟩ (λ_ _ _ _ _=>trivial) ?_ ?_
  .rintro pr x po acc τ G7 N3 e3 ⟨rfl,rfl,y,rfl⟩ iM;simp![aG,cA,dc,ag,ak,aH];refine⟨@e,λp' Mb=>?_⟩;refine gq (xs:=[x]) (.new Mb) Mb aA ?_;exact iM _ _ _ ⟨rfl,by rw [aI,aI];rfl,_,rfl⟩
  .rintro acc τ G7 ⟨rfl,rfl,y,rfl⟩ p2 sT;refine gq (xs:=r.map λp:T3=>[p]) (.new sT) sT aA ?_;simp only [g6];refine⟨pL (by simp only [R0,ai];lia),kz _ _ ⟨l6.put ZF,?_,_,rfl⟩⟩;rw [aA];simp only [R0];rw [aI,aI];rfl
 clear ZE l5;rintro _ G5 ⟨l5,ZE,J8,rfl⟩;have L5:=L4.trans l5;have nn:∀ {p:Nat} {o:GO},G4 p=@j->Ha≠p:=λh e=>by rw [e,h] at ZF;cases ZF
 have m9:=nn (l4 _ _ g9);have m10:=nn g10;have m0:=nn (l4 _ _ Vt);have m1:=nn (l4 _ _ Vs)
 let B:Nat->@F:=λk=>((yN a b c h0 h1 h2)[k]?).getD []
 refine bO (λτ G'=>∃ (R:YY) (J8 IH Qw:Option D),(R.length=rows.length/\R.flatten.flatten.Perm ((yN a b c h0 h1 h2).flatten++rows.flatten))/\@E/\τ=T (some (enc R)) J8 IH Qw none none) ?_ ?_
 .intro N hN;simp![cS,dC,ends,T];refine⟨@e,@e,?_⟩;refine Aj (λpre τ G'=>∃ (R:YY) (J9:D) (IH Qw:Option D),(R.length=rows.length/\R.flatten.flatten.Perm (((yN a b c h0 h1 h2).take pre.length).flatten++rows.flatten)/\R.flatten.length<=22+pre.length)/\((J9=.ref Ha/\G' Ha=some (.lst (R.map enc)))\/J9=enc R)/\(pre≠[]->J9=enc R)/\(@E/\G' KJ=some (.lst (ts.map enc))/\G' p9=some (.lst [.ref q0,.ref q1,enc B2])/\(pre.length=0->G' q0=some (.lst ([⟨a,0,h0⟩,⟨b,0,h1⟩].map (enc (α:=T3)))))/\(pre.length<=1->G' q1=some (.lst ([⟨a,1,h0⟩,⟨c,0,h2⟩].map (enc (α:=T3))))))/\τ=T (some J9) J8 IH Qw none none) ⟨R0 rows,.ref Ha,none,none,⟨by simp [R0],?_,?_⟩,.inl ⟨rfl,ZE⟩,λh=>absurd rfl h,⟨L5,l5 _ _ g10,l5 _ _ (l4 _ _ g9),λ_=>l5 _ _ (l4 _ _ Vt),λ_=>l5 _ _ (l4 _ _ Vs)⟩,rfl⟩ @am ?_ ?_
  .have e1:∀ r:@F,(r.map λp=>[p]).flatten=r:=λr=>by
    induction r with
    | nil=>rfl
    | cons x r ih=>rw [az,aW,ih];rfl
   have e2:∀ rs:Rows,(R0 rs).flatten.flatten=rs.flatten:=λrs=>by
    induction rs with
    | nil=>rfl
    | cons r rs ih =>
     have:R0 (r :: rs)=(r.map λp=>[p]) :: R0 rs:=rfl;rw [this,aW,cO,e1,ih,aW]
   rw [e2];exact .refl _
  .have e3:∀ rs:Rows,(R0 rs).flatten.length=rs.flatten.length:=λrs=>by
    induction rs with
    | nil=>rfl
    | cons r rs ih =>
     have:R0 (r :: rs)=(r.map λp=>[p]) :: R0 rs:=rfl;rw [this,aW,aq,ai,ih,aW,aq]
   rw [e3];exact hf
  .rintro pre x post τ G6 N1 e ⟨R,J9,IH,Qw,⟨hR,hp,hRl⟩,h11,Yd,⟨l6,Sb,Zw,abU,R9⟩,rfl⟩ Wr;obtain⟨rfl,hk⟩:=pP e;have hk:pre.length < 3:=hk;have hb:∃ x Bk,oz [.ref q0,.ref q1,enc B2] (@bc:Int)=some x/\(yN a b c h0 h1 h2)[pre.length]?=some Bk/\Bk.length=2/\IsL G6 x (Bk.map enc)/\∀ p,x=@U->G p=none/\p≠p9/\p≠KJ/\p≠Ha/\(pre.length=0->p≠q1):=by
    have hc:pre.length=0\/pre.length=1\/pre.length=2:=@d
    rcases hc with h | h | h
    .refine⟨.ref q0,_,by rw [h];exact AG,by rw [h];rfl,rfl,.ref (abU h),λp e=>?_⟩;injection e with e;subst e
     exact⟨f0,n09,aaI.symm,m0.symm,λ_=>n01⟩
    .refine⟨.ref q1,_,by rw [h];exact D0,by rw [h];rfl,rfl,.ref (R9 @c),λp e=>?_⟩;injection e with e;subst e
     exact⟨f1,n19,aaH.symm,m1.symm,λz=>@d⟩
    .exact⟨enc B2,B2,by rw [h];exact at2,by rw [h];rfl,rfl,IsL.enc B2,λp e=>by cases e⟩
   obtain⟨x,Bk,ax,ebk,lbk,isx,own⟩:=hb
   let Ok:Gp->D->Prop:=λG' y=>dM G6 G'/\∃ B':@F,B'.length=2/\IsL G' y (B'.map enc)/\B'.Perm Bk/\∀ p,y=@U->G p=none/\p≠p9/\p≠KJ/\(J9=.ref Ha->p≠Ha)/\(pre.length=0->p≠q1)
   have ok0:Ok G6 x:=⟨.refl _,Bk,lbk,isx,.refl _,λp e=>by obtain⟨a1,a2,a3,a4,a5⟩:=own p e;exact⟨a1,a2,a3,λ_=>a4,a5⟩⟩;have swp:∀ {G':Gp} {y:D} {F:D->@u},Ok G' y->(∀ y' ZR,Ok ZR y'->F y' ZR)->eB y (.int 1) G' λu G1=>eB y (.int 0) G1 λw G2=>0+1+1<=SZ/\∀ p,G2 p=none->F (@U) (dB G2 p (.lst [u,w])):=by
    rintro G' y F ⟨l,B',hl,is,pm',ow⟩ hF
    match B',hl with
    | [u,w],_ =>
     refine fh is D0 ?_;refine fh is AG ⟨@e,λp hp=>hF _ _ ⟨l.trans (.new hp),[w,u],rfl,.ref aA,(oA _ _ _).trans pm',λp' e=>?_⟩⟩;injection e with e
     subst e;have L:=l6.trans l;refine⟨L.free hp,λz=>?_,λz=>?_,λz z'=>?_,λz z'=>?_⟩
     .subst z;rw [l _ _ Zw] at hp;cases hp
     .subst z;rw [l _ _ Sb] at hp;cases hp
     .rcases h11 with ⟨_,g⟩ | h
      .subst z';rw [l _ _ g] at hp;cases hp
      .rw [z] at h;cases h
     .subst z';rw [l _ _ (R9 @c)] at hp;cases hp
   refine bO (λτ G'=>G6=G'/\τ=T (some J9) J8 (some (.int @bc)) (some x) none none) ?_ ?_
   .intro N hN;simp![bh,aN,ak,aG,T];exact fh (.ref Zw) ax (hN _ _ @aP)
   rintro _ _ ⟨rfl,rfl⟩;have at':∃ u,oz (ts.map enc) (@bc:Int)=some (enc u):=⟨ts[pre.length]'(@d),by
    rw [gF _ @c (@az)];simp only [b0,bN]⟩
   obtain⟨u,au⟩:=at';have ac:∃ w,oz (cs.map enc) (@bc:Int)=some (enc w):=⟨cs[pre.length]'(@d),by
    rw [gF _ @c (@az)];simp only [b0,bN]⟩
   obtain⟨w,aw⟩:=ac;refine bO (λτ G'=>∃ y,Ok G' y/\τ=T (some J9) J8 (some (.int @bc)) (some y) none none) ?_ ?_
   .intro N hN;simp![cH,aN,ak,Bt,dC,bh,dc,ag,aH,aG,bH,T];refine fh (.ref Sb) au ?_;refine c8 (x:=u) (y:=(-1:Int)) @o ?_;simp only [↓aM,↓aj,↓if_false];split
    .exact swp ok0 λy' ZR ok=>hN _ _ ⟨y',ok,rfl⟩
    .exact hN _ _ ⟨x,ok0,rfl⟩
   rintro _ G7 ⟨y,ok1,rfl⟩;refine bO (λτ G'=>∃ y,Ok G' y/\τ=T (some J9) J8 (some (.int @bc)) (some y) none none) ?_ ?_
   .intro N hN;simp![cH,aN,ak,dC,bh,dc,ag,aH,aG,bH,T];refine⟨@e,@e,@e,?_⟩;refine c8 (x:=(@bc:Int)+1) (y:=v / 16 % 6) @o ?_;simp only [↓aM,↓aj,↓if_false];split
    .exact swp ok1 λy' ZR ok=>hN _ _ ⟨y',ok,rfl⟩
    .exact hN _ _ ⟨y,ok1,rfl⟩
   clear ok1;rintro _ G7 ⟨y,⟨l7,B',hl,is,pm',ow⟩,rfl⟩
   let Good:@u:=λH=>dM G H/\H KJ=some (.lst (ts.map enc))/\H p9=some (.lst [.ref q0,.ref q1,enc B2])/\(pre.length=0->H q1=some (.lst ([⟨a,1,h0⟩,⟨c,0,h2⟩].map (enc (α:=T3)))))/\IsL H y (B'.map enc)
   have ab2:∀ {F:DK},(∀ H,Good H->F (enc R) H)->Im G7 J9 F:=by
    intro F hF;rcases h11 with ⟨e,g⟩ | e
    .subst e;refine xx (l7 _ _ g) (hF _ ⟨Oc (l6.trans l7) (L4.free ZF),by rw [rB m10.symm];exact l7 _ _ Sb,by rw [rB m9.symm];exact l7 _ _ Zw,λz=>by rw [rB m1.symm];exact l7 _ _ (R9 @c),?_⟩);rcases is with h | ⟨p',e',h⟩
     .exact .inl h
     .subst e';exact .ref (by rw [rB ((ow _ rfl).2.2.2.1 rfl)];exact h)
    .rw [e];exact c6 (hF _ ⟨l6.trans l7,l7 _ _ Sb,l7 _ _ Zw,λz=>l7 _ _ (R9 @c),is⟩)
   have ab1:∀ {H:Gp} {F:DK},Good H->(∀ H',dM G H'->H' KJ=some (.lst (ts.map enc))->H' p9=some (.lst [.ref q0,.ref q1,enc B2])->(pre.length=0->H' q1=some (.lst ([⟨a,1,h0⟩,⟨c,0,h2⟩].map (enc (α:=T3)))))->F (enc B') H')->Im H y F:=by
    rintro H F ⟨b1,b2,b3,b4,b5⟩ hF;rcases b5 with h | ⟨p',e',h⟩
    .have e':y=enc B':=h;rw [e'];exact c6 (hF _ b1 b2 b3 b4)
    .subst e';obtain⟨o1,o2,o3,_,o5⟩:=ow _ rfl;exact xx h (hF _ (Oc b1 o1) (by rw [rB (cR o3)];exact b2) (by rw [rB (cR o2)];exact b3) λz=>by rw [rB (cR (o5 z))];exact b4 z)
   simp![bh,aZ,ag,cA,ak,aN,aH,aG,T];refine ab2 λH gd=>?_;refine fh (hd3.mono gd.1) aw (c6 ?_);refine ab1 gd λH' c1 c2 c3 c4=>?_;refine⟨R,w,B',rfl,⟨@d,@d,λr hr=>by have:=B8 hr;lia⟩,λj k r er OH=>?_⟩;refine Wr _ _ ⟨_,_,_,_,⟨by rw [jA];exact hR,?_,?_⟩,.inr rfl,λ_=>rfl,⟨c1,c2,c3,λz=>?_,λz=>?_⟩,rfl⟩
   .refine(HX er).trans ?_;rw [aq,bC,IB,ebk,cO];show (B'++R.flatten.flatten).Perm (((yN a b c h0 h1 h2).take pre.length).flatten++[Bk].flatten++rows.flatten);rw [uN];refine(pm'.append hp).trans ?_;rw [<-bD];exact(List.perm_append_comm).append_right _
   .have h1:(r.take k++B' :: r.drop k).Perm (B' :: r):=by
     refine List.perm_middle.trans ?_;rw [d8]
    rw [(xh h1 R j er).length_eq,af,aq,bC];lia
   .rw [aq,bC] at z;lia
   .rw [aq,bC] at z;exact c4 @c
  .rintro τ G6 ⟨R,J9,IH,Qw,⟨hR,hp,_⟩,h11,Yd,⟨l6,_⟩,rfl⟩;have hl:(dN 0 (xc 3)).length=3:=rfl;rw [Yd (λz=>by rw [z] at hl;cases hl)];refine hN _ _ ⟨R,_,_,_,⟨hR,?_⟩,l6,rfl⟩;rw [hl] at hp;exact hp
 rintro _ G6 ⟨R,ZZ,IH,Qw,⟨hR,hp⟩,l6,rfl⟩;have hlen:R.flatten.flatten.length<=28:=by
  have e:((yN a b c h0 h1 h2).flatten).length=6:=rfl;rw [hp.length_eq,aq,e];lia
 have abe:∀ r∈R,r.flatten.length<=28:=λr hr=>by
  have h1:=mj.ix (List.mem_map.mpr ⟨r,hr,rfl⟩:r.flatten∈R.map CK);rw [<-Qr] at h1;lia
 refine bO (λτ G'=>∃ NH,G6 NH=none/\dM G6 G'/\G' NH=some (.lst [])/\τ=T (some (enc R)) ZZ IH Qw (some (.ref NH)) none) ?_ ?_
 .intro N hN;simp![bh,dc,aH,aG,T];exact⟨@e,λp hp=>hN _ _ ⟨p,hp,.new hp,aA,rfl⟩⟩
 rintro _ G7 ⟨NH,f15,l7,g15,rfl⟩;refine bO (λτ G'=>dM G6 G'/\G' NH=some (.lst ((R.map CK).map enc))/\∃ WC P2 WB,τ=T (some (enc R)) WC IH P2 (some (.ref NH)) WB) ?_ ?_
 .intro N hN;simp![cS,ak,ends,T];refine dq ?_;refine cK (xs:=R) (λpre τ G'=>dM G6 G'/\G' NH=some (.lst ((pre.map CK).map enc))/\∃ WC P2 WB,τ=T (some (enc R)) WC IH P2 (some (.ref NH)) WB) ⟨l7,g15,_,_,_,rfl⟩ @am ?_ (λτ G' h=>hN τ G' h);rintro pre r post τ G8 N2 e ⟨l8,Zx,WC,P2,WB,rfl⟩ kz;have mP:pre.length < R.length:=by have:=congrArg bS e;simp at this;lia
  have XD:=abe r (by rw [e];simp);refine bO (λτ G'=>∃ KI,G8 KI=none/\dM G8 G'/\G' KI=some (.lst [])/\τ=T (some (enc R)) (some (enc r)) IH P2 (some (.ref NH)) (some (.ref KI))) ?_ ?_
  .intro N hN;simp![bh,dc,aH,aG,T];exact⟨@e,λp hp=>hN _ _ ⟨p,hp,.new hp,aA,rfl⟩⟩
  rintro _ G9 ⟨KI,f16,l9,g16,rfl⟩;refine bO (λτ G'=>∃ KI,G8 KI=none/\dM G8 G'/\G' KI=some (.lst (r.flatten.map enc))/\∃ P2,τ=T (some (enc R)) (some (enc r)) IH P2 (some (.ref NH)) (some (.ref KI))) ?_ ?_
  .intro N hN;simp![cS,ak,T];refine dq ?_;refine cK (xs:=r) (λpp τ G'=>∃ KI,G8 KI=none/\dM G8 G'/\G' KI=some (.lst (pp.flatten.map enc))/\∃ P2,τ=T (some (enc R)) (some (enc r)) IH P2 (some (.ref NH)) (some (.ref KI))) ⟨KI,f16,l9,g16,_,rfl⟩ @am ?_ (λτ G' h=>hN τ G' h);rintro pp y po τ G10 N3 e3 ⟨aau,Yo,Xr,Vx,ZY,rfl⟩ iM;have hz:pp.flatten.length+y.length<=28:=by
    have:r.flatten=pp.flatten++(y++po.flatten):=by rw [e3,cO,aW]
    rw [this,aq,aq] at XD;lia
   simp![aG,bh,aN,ak,T];refine pT (.ref Vx) (IsL.enc y) (yB (by rw [ai,ai];lia)) λp hp=>?_;refine iM _ _ ⟨p,Xr.free hp,Xr.trans (.new hp),?_,_,rfl⟩;rw [aA,<-aI,cO,uN]
  rintro _ G10 ⟨aau,Yo,Xr,Vx,ZY,rfl⟩;simp![cp,kh,ak,ag,cA,aH,T];refine⟨by simp only [Xr _ _ Zx],?_⟩;refine gq (xs:=r.flatten) Xr Yo Vx ?_;simp only [Zx];refine⟨pL (by simp only [ai];lia),kz _ _ ⟨l8.put f15,?_,_,_,_,rfl⟩⟩;rw [aA,aI,aI];rfl
 rintro _ G8 ⟨l8,Zx,WC,P2,WB,rfl⟩;simp![bE,cA,ak,ends,T];refine gq (xs:=R.map CK) (l6.trans l8) (l6.free f15) Zx ?_;refine q _ h0 h1 h2 e0 e1 e2 (by rw [ai];exact hR) ?_;rw [<-Qr];exact hp
end Ii
namespace V5
open K2.P
open K2.Mo hiding cN dU dW cJ eE eG
open K2.qT (eI)
open K2.mj (HR)
open K2.CA (DT)
open K2.Er (jx fT)
open K2.Ii (iN gJ)
def ya:fG :=
 (bE (cA (fC pz (ag (dS 1 [] (fI (aZ j0 @ac)) (aG 0) (some (cW (aN @ap (aN eB @i @z) @M))) (aN eB @i @M)) aH))))
theorem yr(ds)(G)(Q)(h:K3.fU ds G Q @w):ya @r @C (aT 1 ds) G:=by
 obtain⟨rows,rfl,hl,q⟩:=h;unfold ya;simp![bE,cA,fC,ag,dS,aZ,ak,aT,aH,ends];refine⟨rows,rfl,(show rows.flatten.length<=1000 by lia),dq ⟨yB (by rw [ai];show rows.flatten.length<=1000;lia),?_⟩⟩;refine fk (xs:=rows.flatten) (λpre acc τ G'=>G=G'/\(∃ a,τ=[a])/\acc=((pre.filter λp=>p.b == 0).map (·.a)).map enc) ⟨rfl,@ah,rfl⟩ (λ_ _ _ _ _=>trivial) ?_ ?_
 .rintro pre x post acc τ G' N e ⟨rfl,⟨a,rfl⟩,rfl⟩ hN;simp![aG,aN,ak,↓kd,dC,↓D0,↓AG];refine⟨_,_,.int _,.int _,?_⟩;simp![rX];split
  .rename_i h;refine hN _ _ _ ⟨rfl,@ah,?_⟩;simp [cM,dG,h,ke]
  .rename_i h;refine hN _ _ _ ⟨rfl,@ah,?_⟩;simp [cM,dG,h]
 .rintro acc τ G' ⟨rfl,⟨a,rfl⟩,rfl⟩ p hp;refine FR (IsL.ref aA) (by rw [ai];exact A7 (cX _ _) hl) λp2 sT=>?_;exact xx ((dM.new hp).trans (.new sT)) ((dM.new hp).free sT) aA (q _ ((dM.new hp).free sT))
end V5
namespace V5
open K2.P
open K2.Mo hiding cN dU dW cJ eE eG
open K2.mj (HR)
open K2.CA (ky kT Di HA)
open K2.K40 (fit we ou)
open K2.Er (rN eq_int)
def tX:fG :=
 (bz (bh (dc aH) (aG 1))
 (bz (cS (fI @i) (aG 2) (cS (fI @q) (aG 3) (cH (cW (aN @ap (aN eB @I @z) @M)) (cp (kh qN eZ @n (ag (aN eB @I @M) aH))) bH)))
 (bE (cA @n))))
def jt:gH:=λds G Q _=>∃ rows:Rows,ds=[@aq]/\@bM/\∀ p G',@E->G p=none->G' p=some (.lst ((@a0).map enc))->Q (@U) G'
theorem ub(ds)(G)(Q)(h:jt ds G Q @w):tX @r @C (aT 4 ds) G:=by
 obtain⟨rows,rfl,hl,q⟩:=h;unfold tX;simp![bh,dc,aH,aG,ends,aT,aX];refine⟨@e,λp hp=>?_⟩;refine bO (λτ G'=>(∃ a b,τ=[@K,@aj,a,b])/\@E/\G' p=some (.lst ((@a0).map enc))) ?_ ?_
 .intro N hN;simp![cS,ak];refine dq ?_;refine cK (xs:=rows) (λpre τ G'=>(∃ a b,τ=[@K,@aj,a,b])/\@E/\G' p=some (.lst ((ky pre.flatten).map enc))) ⟨@aR,.new hp,aA⟩ @am ?_ ?_
  .rintro pre r post τ G' N2 e ⟨⟨a,b,rfl⟩,l,gp⟩ kz;have hlen:@bS:=by
    rw [e];simp only [cO,aW,aq];lia
   simp![aG,cS,ak];refine dq ?_;refine cK (xs:=r) (λpp τ G'=>(∃ a b,τ=[@K,@aj,a,b])/\@E/\G' p=some (.lst ((ky (pre.flatten++pp)).map enc))) ⟨@aR,l,by rw [bq];exact gp⟩ @am ?_ ?_
   .rintro pp t pt τ G4 N3 e4 ⟨⟨a,b,rfl⟩,l4,yF⟩ iM;have hpp:pp.length < r.length:=by have:=congrArg bS e4;simp at this;lia
    have hz:=kT (pre.flatten++pp);rw [aq] at hz;simp![aG,↓rN,aN,ak,↓kd,dC,↓D0,cp,kh,ag,↓AG,aH,bH];refine⟨_,_,.int _,.int _,?_⟩;rw [eq_int];have eu:ky (pre.flatten++(pp++[t]))=ky (pre.flatten++pp)++ky [t]:=by rw [<-bD,Di]
    by_cases hb:t.b=0
    .simp![hb,decide_true,yF];refine⟨pL (@az),iM _ _ ⟨@aR,l4.put hp,?_⟩⟩;rw [aA,eu,aI];have:ky [t]=[t.a]:=by simp [ky,hb]
     rw [this];rfl
    .simp![hb,decide_false];refine iM _ _ ⟨@aR,l4,?_⟩;have:ky [t]=[]:=by simp [ky,hb]
     rw [eu,this,bq];exact yF
   .rintro τ G4 ⟨⟨a,b,rfl⟩,l4,yF⟩;refine kz _ _ ⟨@aR,l4,?_⟩;have:(pre++[r]).flatten=pre.flatten++r:=@ad
    rw [this];exact yF
  .rintro τ G' ⟨⟨a,b,rfl⟩,l,gp⟩;exact hN _ _ ⟨@aR,l,gp⟩
 .rintro _ G' ⟨⟨a,b,rfl⟩,l,gp⟩;simp![bE,cA,ak];exact c6 (q p G' l hp gp)
def vE:fG :=
 (bz (bh (aN jS @z (aN jj @n (dC (.int 999)))) (aG 2))
 (bz (DR (cW (aN (Df false) @q @i)) (bh (aN jS @z (aN jj @q (dC (.int 999)))) (aG 2)))
 (bE (cA @q))))
def j3:gH:=λds G Q _=>∃ (d:D) (ns:@G) (c:Int),ds=[d,.int c]/\IsL G d (ns.map enc)/\ns.length<=500/\∀ m:Int,m∉ns->Q (.int m) G
theorem wM(ds)(G)(Q)(h:j3 ds G Q @w):vE @r @C (aT 3 ds) G:=by
 obtain⟨d,ns,c,rfl,hd,hl,q⟩:=h;unfold vE;simp![bh,aN,dC,ak,aT,aX,aG,ends];refine⟨@e,?_⟩;have b1:1<=1+c % 999:=@d
 have b2:1+c % 999<=999:=@d
 generalize 1+c % 999=n at *;refine bO (λτ G'=>G=G'/\∃ m:Int,m∉ns/\τ=[some d,@aX,some (.int m)]) ?_ ?_
 .intro N hN;obtain⟨k,hk,mR⟩:=we (ns:=ns) b1 b2 hl;have main:∀ (j:Nat),j<=k->yA (cW (aN (Df false) @q @i)) (bh (aN jS @z (aN jj @q (dC (.int 999)))) (aG 2)) (j+1) @r { ends Q with nx:=N } [some d,@aX,some (.int (fit n (k - j)))] G:=by
   intro j;induction j with
   | zero =>
    intro _;show yA _ _ (0+1) _ _ _ _;rw [yA];simp![aN,ak,bh,dC,aG,ends];refine Nf (x:=fit n (k - 0)) @o hd ?_;simp![Qp,mR,decide_false];exact hN _ _ ⟨rfl,_,mR,rfl⟩
   | succ j ih =>
    intro hj;rw [yA];simp![aN,ak,bh,dC,aG,ends];refine Nf (x:=fit n (k - (j+1))) @o hd ?_;by_cases hm:fit n (k - (j+1))∈ns
    .simp![hm,decide_true];refine⟨@e,?_⟩;have e:1+fit n (k - (j+1)) % 999=fit n (k - j):=by
      rw [show k - j=(k - (j+1))+1 by lia,Int.add_comm];rfl
     rw [e];exact ih @c
    .simp![hm,decide_false];exact hN _ _ ⟨rfl,_,hm,rfl⟩
  have:=main k @T;rw [qS] at this;exact⟨k+1,this⟩
 .rintro _ _ ⟨rfl,m,m1,rfl⟩;simp![bE,cA,ak];exact c6 (q m m1)
end V5
namespace V5
open K2.P
open K2.Mo hiding cN dU dW cJ eE eG
open K2.mj (HR iK)
open K2.LM (cJ)
open K2.Ii (iY oB yN)
open K2.CA (gh cx ky kT sN)
open K2.K3 (DF)
theorem zN(df:DF L)(h:m∉ky L):m∉L.map (·.a):=by
 have e:[L].flatten=L:=@ad
 have:=sN (rows:=[L]) (by rw [e];exact df) (m:=m) (by rw [e];exact h)
 rwa [e] at this
theorem six{α:Type}(x1 x2 x3 x4 x5 x6:α):[x1,x2,x3,x4,x5,x6].Perm [x6,x4,x5,x2,x3,x1] :=
 (show ([0,1,2,3,4,5]:@aC).Perm [5,3,4,1,2,0] by decide).map λi=>[x1,x2,x3,x4,x5,x6].getD i x1
theorem FG{h2:Int}(df:DF L)(ha:a∉ky L)(hb:b∉ky L++[a])(hc:c∉ky L++[a,b])(e0:h0=1\/h0=-1)(e1:h1=1\/h1=-1)(e2:h2=1\/h2=-1)(p:L'.Perm ((yN a b c h0 h1 h2).flatten++L)):DF L':=by
 rw [Gb,not_or] at hb hc;have d1:=df.add (zN df ha) e0;have d2:=d1.add (m:=b) (by
  have:=zN df hb.1;have hba:b≠a:=λz=>hb.2 (by simp [z]);simp only [az,cg,not_or];exact⟨hba,hba,this⟩) e1
 have d3:=d2.add (m:=c) (by
  have:=zN df hc.1;have hca:c≠a:=λz=>hc.2 (by simp [z]);have hcb:c≠b:=λz=>hc.2 (by simp [z]);simp only [az,cg,not_or];exact⟨hcb,hcb,hca,hca,this⟩) e2
 exact d3.perm (p.trans ((six _ _ _ _ _ _).append_right L))
theorem FJ:cut ((l++[a,b,c]).map (enc (α:=Int))) (some (-3)) none=[.int a,@ab,.int c]:=by
 unfold cut jF;simp only [ai,aq,af,av];rw [if_pos @o,show (-3+((l.length+(0+1+1+1):Nat):Int)).toNat=l.length by lia,aI,List.drop_left' @k];rw [lO @k];rfl
end V5
namespace Gm
open K2.P
open K2.Mo
open K2.mj (HR iK)
open K2.qT (eI)
open K2.Ii (iY yN)
open K2.CA (gh cx ky kT sN)
open K2.V5 (jt j3 zN FG FJ)
open K2.K3 (DF)
variable {rows:Rows}
theorem xi(R:Rows):(R.map eI).flatten.length=R.flatten.length:=by
 induction R with
 | nil=>rfl
 | cons r R ih=>rw [az,aW,aW,aq,aq,ih,LM.ER]
theorem JD(ns)(R):(FA ns R).flatten.length<=R.flatten.length:=by
 unfold FA;induction R with
 | nil=>exact aS _
 | cons r R ih =>
  rw [az,aW,aW,aq,aq];have:=cX (λp:T3=>!decide (p.a∈ns)) r;lia
theorem QB(d:@J)(hn:n∈@m)(h:EE rows n=true):∃ v0 v1,UnF rows n v0 v1:=by
 obtain⟨v0,h0⟩:=gm d (eC d hn) (w:=0) @af;obtain⟨v1,h1⟩:=gm d (eC d hn) (w:=1) (.inr rfl);refine⟨v0,v1,by have:=d.kb;lia,hn,h0,h1,?_⟩;unfold EE N at h;rw [h0,h1,fS,decide_eq_true_iff,decide_eq_true_iff] at h;rcases h with h | h
 .exact .inl (bA h)
 .exact .inr (bA h)
theorem Pa (d:@J) {m:jm} (hm:m∈qi rows) {G:Gp} {p:Nat} (g:Tt G p m) {Q:DK} (q:∀ (x:Nat) (as:@aC) (G':Gp) (R:Rows),HR G G' x as R->R.length<=3->R.flatten.length<=rows.flatten.length->Q (.ref x) G'):∃ sp,((cn m,sp):Str×gH)∈([("Uncurl",gR),("Part",i6),("Slide",iB)]:List (Str×gH))/\sp [@U,@aq] G Q @w:=by
 have str:=d.str;rcases List.mem_append.mp hm with h | h
 .rcases List.mem_append.mp h with h | h
  .obtain⟨a,b,⟨ha,hb⟩,_,hf,rfl⟩:=sY.mp h;obtain⟨qM,qL,sH,sG,pn,ef⟩:=paN d ha hb;refine⟨i6,by simp [cn],p,a,b,rows,qM,qL,sH,sG,rfl,g,⟨pn,by rw [ef];exact hf,@d⟩,λx as G' hr=>q x as G' _ hr (by rw [ai];show (rows.map _).length<=3;rw [ai];exact str) (by rw [xi];exact JD _ _)⟩
  .obtain⟨a,b,c,t,⟨ha,hb,hc⟩,_,ht,hf,rfl⟩:=sX.mp h;have sf:VY rows a b c t:=⟨⟨d,eC d ha,eC d hb,eC d hc,ht.symm⟩,hf⟩;refine⟨iB,by simp [cn],p,a,b,c,t,rows,rfl,g,sf,λx as G' hr=>q x as G' _ hr (by have:=sf.dr.str;exact this) ?_⟩;show ((chg rows (x8 rows a b c t)).map eI).flatten.length<=_;rw [xi,wu,ai];exact aS _
 .obtain⟨n,hn,hf,rfl⟩:=zf.mp h;obtain⟨v0,v1,u⟩:=QB d hn hf;exact⟨gR,by simp [cn],p,n,rows,v0,v1,rfl,g,⟨u,@d⟩,λx as G' hr=>q x as G' _ hr (by rw [ai];show (rows.map _).length<=3;rw [ai];exact str) (by rw [xi];exact JD _ _)⟩
theorem NU (d:@J) {m:jm} (hm:m∈qi rows) {G:Gp} {p:Nat} (g:Tt G p m) {Q:DK} (q:∀ (x:Nat) (as:@aC) (G':Gp) (R:Rows),HR G G' x as R->R.length<=3->R.flatten.length<=rows.flatten.length->Q (.ref x) G'):∃ a c fs sp,D.ref p=.ref a/\G a=some (.ins c fs)/\(c,sp)∈([("Uncurl",gR),("Part",i6),("Slide",iB)]:List (Str×gH))/\fs.lookup ("done" : Str)=none/\sp [@U,@aq] G Q @w:=by
 obtain⟨sp,h1,h2⟩:=Pa d hm g q;exact⟨p,cn m,fl m,sp,rfl,g,h1,by cases m <;> rfl,h2⟩
theorem zy:∀ R:Rows,(R.map λr=>(r.length:Int)).sum=(R.flatten.length:Int)
 | []=>rfl
 | r :: R=>by rw [az,List.sum_cons,zy R,aW,aq];lia
theorem R5{G G':Gp}{x:Nat}{as:@aC}{R:Rows}(h:HR G G' x as R)(h3:R.length<=3)(hf:R.flatten.length<=500){Q:DK}(q:∀ G2,dM G' G2->Q (.int (R.flatten.length:Int)) G2){E:lz}{τ:ie}:Le (.ref x) G' λds ok G1=>ds.length<=SZ/\iR (aG 0) none (cA (fC gV @ac)) ok ds E (ql 1 [] τ) G1 [] λxs G2=>iQ G2 (.lst xs) λy G3=>FQ [y] G3 Q:=by
 have hl:=h.len;simp only [jG,h.gp];refine⟨yB (@az),?_⟩;refine fk (xs:=as) (f:=D.ref) (λpr acc τ G2=>G'=G2/\acc=((R.take pr.length).map λr=>(r.length:Int)).map D.int/\∃ b,τ=[b]) ⟨rfl,rfl,_,rfl⟩ (λ_ _ _ G2 z=>by rw [<-z.1];exact h.gp) ?_ ?_
 .rintro pr a po acc τ G2 N3 e3 ⟨rfl,rfl,b,rfl⟩ iM;have ha:as[pr.length]?=some a:=by rw [e3];simp
  have sU:pr.length < R.length:=by have:=congrArg bS e3;rw [aq,af] at this;lia
  have hr:R[pr.length]?=some R[pr.length]:=aB sU;have ga:=h.at' _ _ _ ha hr;simp![aG,cA,fC,ag,ak,aH];refine h8 (.ref ga) ?_;rw [ai];refine c6 (iM _ _ _ ⟨rfl,?_,_,rfl⟩);rw [aq,bC,List.take_add_one,hr,aI,aI];rfl
 .rintro acc τ G2 ⟨rfl,rfl,b,rfl⟩ p4 A1;rw [hl,Ee];have hb:∀ n∈R.map λr=>(r.length:Int),-1000<=n/\n<=1000:=λn hn=>by
   obtain⟨r,hr,rfl⟩:=List.mem_map.mp hn;have:=mj.ix hr;lia
  have es:=zy R;refine⟨R.map λr=>(r.length:Int),by simp only [qN,aA],by simp only [itemsOf,aA],⟨@az,hb⟩,?_⟩;rw [es];exact q _ (.new A1)
theorem Se{G:Gp}{R:Rows}(h3:R.length<=3)(hf:R.flatten.length<=500){Q:DK}(q:∀ G2,dM G G2->Q (.int (R.flatten.length:Int)) G2){E:lz}{τ:ie}:Le (enc R) G λds ok G1=>ds.length<=SZ/\iR (aG 0) none (cA (fC gV @ac)) ok ds E (ql 1 [] τ) G1 [] λxs G2=>iQ G2 (.lst xs) λy G3=>FQ [y] G3 Q:=by
 refine dq ⟨yB (@az),?_⟩;refine fk (xs:=R) (λpr acc τ G2=>G=G2/\acc=(pr.map λr=>(r.length:Int)).map D.int/\∃ b,τ=[b]) ⟨rfl,rfl,_,rfl⟩ (λ_ _ _ _ _=>trivial) ?_ ?_
 .rintro pr r po acc τ G2 N3 e3 ⟨rfl,rfl,b,rfl⟩ iM;simp![aG,cA,fC,ag,ak,aH];refine h8 (IsL.enc r) ?_;rw [ai];refine c6 (iM _ _ _ ⟨rfl,?_,_,rfl⟩);rw [aI,aI];rfl
 .rintro acc τ G2 ⟨rfl,rfl,b,rfl⟩ p4 A1;have hb:∀ n∈R.map λr=>(r.length:Int),-1000<=n/\n<=1000:=λn hn=>by
   obtain⟨r,hr,rfl⟩:=List.mem_map.mp hn;have:=mj.ix hr;lia
  have es:=zy R;refine⟨R.map λr=>(r.length:Int),by simp only [qN,aA],by simp only [itemsOf,aA],⟨@az,hb⟩,?_⟩;rw [es];exact q _ (.new A1)
def Na:fG :=
 (bz (Pg 1 (bh (dS 1 [] (mO (aN jS @z (aN jj (aZ cx (ag @i (ag @M aH))) (dC (.int 3))))) (aG 0) none (cA (dc aH))) (aG 1)))
 (bz (cS (mO (aN jj (aZ cx (ag @i (ag @z aH))) (dC (.int 6)))) (aG 2) (bh (cA (aZ gh (ag @n (ag (aZ cx (ag @i (ag (aN jS (dC (.int 11)) @q) aH))) aH)))) (aG 1)))
 (bz (bh (aN jj (aZ cx (ag @i (ag @an aH))) (dC (.int 4))) (aG 3))
 (bz (cH (cW (aN @ap (aN jj @I @an) @z)) (bz (bh (aZ jt @aL) (aG 4))
 (bz (cS (mO (dC (.int 3))) (aG 2) (cp (kh qN eZ (ak 4) (ag (aZ j3 (ag (ak 4) (ag (aZ cx (ag @i (ag (aN jS (dC (.int 3)) @q) aH))) aH))) aH))))
 (bz (bh (dS 1 [0] (mO (dC (.int 3))) (aG 0) none (cA (aZ cx (ag @n (ag (aN jS (dC (.int 7)) @i) aH))))) (aG 5))
 (bh (cA (aZ iY (ag @n (ag (yM (ak 4) (nQ (Bt zL (dC (.int 3)))) eF) (ag (aN jj (aZ cx (ag @i (ag (dC (.int 6)) aH))) (dC (.int 96))) (ag (ak 5) aH)))))) (aG 1))))) bH)
 (bz (cH (wo (cW (aN WT @I @z)) (cW (aN @ap (aN jj (aN kY (aZ cx (ag @i (ag @an aH))) (dC (.int 4))) @an) @M))) (bh (cA (aZ lC (ag @n (ag (aN jj (aZ cx (ag @i (ag (dC (.int 10)) aH))) (aN QZ (dC (.int 10)) (dC (.int 12)))) aH)))) (aG 1)) bH)
 (bz (bh (aZ kF @aL) (aG 6))
 (bz (Pg 7 (bh (dS 1 [] (fI @n) (aG 0) none (cA (fC nS @ac))) (aG 7)))
 (bz (cH (iJ (cW (aZ kR (ag (aZ lU (ag (ak 7) aH)) (ag (ak 6) aH))))) @a4 bH)
 (bz (cS (fI (ak 6)) (aG 8) (bz (bh (mV [("Uncurl",gR),("Part",i6),("Slide",iB)] "done" (aZ uk (ag (ak 8) aH)) (ag (ak 7) aH)) (aG 9))
 (cH (cW (aN WT (fC FQ (ag (dS 1 [] (fI (ak 9)) (aG 0) none (cA (fC gV @ac))) aH)) (fC FQ (ag (dS 1 [] (fI @n) (aG 0) none (cA (fC gV @ac))) aH)))) @a4 bH)))
 (bE (cA (AD (aZ kR (ag (aZ lU (ag (ak 7) aH)) (ag (ak 6) aH))) (aN @ap (ak 7) @n)))))))))))))
theorem V0(ds)(G)(Q)(h:BP ds G Q @w):Na @r @C (aT 10 ds) G:=by
 obtain⟨ns,rfl,hn,g0,q⟩:=h;have cell:∀ (k:Int) (G:Gp) (Q:DK),0<=k->Q (.int (iK ns k)) G->cx [.eA (@bj),.int k] G Q @w:=λk G Q hk h=>⟨ns,k,rfl,hk,h⟩;unfold Na;generalize hs:D.eA (@bj)=S at cell ⊢;refine bO (λτ G'=>G=G'/\∃ n:Nat,1<=n/\n<=3/\τ=[some S,some (enc (aX n ([]:@F))),none,none,none,none,none,none,none,none]) ?_ ?_
 .intro N hN;rw [FI];simp![bh,dS,aN,dC,aZ,ag,ak,aT,aX,aH,aG];refine cell 0 _ _ @o ?_;simp only [↓cF,↓eX,↓e8];have k1:1<=1+iK ns 0 % 3:=@d
  have k3:1+iK ns 0 % 3<=3:=@d
  refine⟨@e,?_⟩;generalize 1+iK ns 0 % 3=k at *;refine⟨@d,@d,?_⟩;refine⟨yB (by simp [dN];lia),?_⟩;unfold dN;refine fk (xs:=bZ k.toNat) (λpre acc τ G'=>G=G'/\(∃ a,τ=[a])/\acc=(aX pre.length ([]:@F)).map enc) ⟨rfl,@ah,rfl⟩ (λ_ _ _ _ _=>trivial) ?_ ?_
  .rintro pre x post acc τ G' N3 e ⟨rfl,⟨a,rfl⟩,rfl⟩ iM;simp![aG,cA,dc,aH];refine⟨@e,λp f=>gq (xs:=([]:@F)) (.new f) f aA (iM _ _ _ ⟨rfl,@ah,?_⟩)⟩;rw [aq,bC,List.replicate_succ',aI];rfl
  .rintro acc τ G' ⟨rfl,⟨a,rfl⟩,rfl⟩ p f;refine gq (xs:=aX k.toNat ([]:@F)) (.new f) f (by rw [aA,cV]) ?_;exact hN _ _ ⟨rfl,k.toNat,@d,@d,rfl⟩
 rintro _ _ ⟨rfl,n,n1,n3,rfl⟩;refine bO (λτ G'=>G=G'/\∃ (rows:Rows) (a:Option D),(DF rows.flatten/\rows.length=n/\rows.flatten.length<=10)/\τ=[some S,@K,a,none,none,none,none,none,none,none]) ?_ ?_
 .intro N hN;simp![cS,aN,aZ,ag,ak,dC,aH,ends];refine cell 1 _ _ @o ?_;simp only [↓cF,↓e8];have j1:0<=iK ns 1 % 6:=@d
  have j2:iK ns 1 % 6<=5:=@d
  refine⟨@e,?_⟩;generalize iK ns 1 % 6=k at *;refine⟨@d,@d,?_⟩;unfold dN;refine cK (xs:=bZ k.toNat) (λpre τ G'=>G=G'/\∃ (rows:Rows) (a:Option D),(DF rows.flatten/\rows.flatten.length=2 * pre.length/\rows.length=n)/\τ=[some S,@K,a,none,none,none,none,none,none,none]) ⟨rfl,aX n [],none,⟨?_,?_,@ad⟩,rfl⟩ @am ?_ ?_
  .have:(aX n ([]:@F)).flatten=[]:=@ad
   rw [this];exact⟨fL,(λp h=>@aH),(λp h=>@aH),(λp h=>@aH)⟩
  .simp
  .rintro pre x post τ G' N2 e ⟨rfl,rows,a,⟨df,fl,rn⟩,rfl⟩ kz;have Ds:pre.length < 5:=by
    have:=congrArg bS e;rw [cV,aq,af] at this;lia
   simp![aG,bh,cA,aZ,ag,ak,aN,dC,aH];refine cell _ _ _ @c ?_;refine⟨rows,_,rfl,⟨@d,@d,@d⟩,λvh m hd h1 h2 h3 h4=>?_⟩;refine c6 (kz _ _ ⟨rfl,vh,_,⟨(df.add (zN df h3) h4).perm h2,?_,@d⟩,rfl⟩);have:=h2.length_eq;rw [af,af] at this;rw [aq,bC];lia
  .rintro τ G' ⟨rfl,rows,a,⟨df,fl,rn⟩,rfl⟩;rw [cV] at fl;exact hN _ _ ⟨rfl,rows,a,⟨df,rn,@d⟩,rfl⟩
 rintro _ _ ⟨rfl,rows,a2,⟨df,rn,kb⟩,rfl⟩;have ol:=kT rows.flatten;refine bO (λτ G'=>G=G'/\∃ w:Int,τ=[some S,@K,a2,some (.int w),none,none,none,none,none,none]) ?_ ?_
 .intro N hN;simp![bh,aN,aZ,ag,ak,dC,aH,aG];refine cell 2 _ _ @o ?_;simp only [↓cF];exact⟨@e,hN _ _ ⟨rfl,_,rfl⟩⟩
 rintro _ _ ⟨rfl,w,rfl⟩;refine bO (λτ G'=>∃ (R:Rows) (b c e:Option D),(DF R.flatten/\R.length=n/\R.flatten.length<=16)/\τ=[some S,some (enc R),b,some (.int w),c,e,none,none,none,none]) ?_ ?_
 .intro N hN;simp![cH,aN,ak,dC,bh,aZ,ag,aH,aG,ends,bH];refine⟨@e,c8 (x:=w % 2) (y:=(1:Int)) @o ?_⟩;by_cases c:w % 2=1
  .simp![c,decide_true];refine⟨rows,rfl,@d,λp4 G1 l1 A1 g4=>?_⟩;refine bO (λτ G'=>∃ m1 m2 m3:Int,(m1∉@a0/\m2∉@a0++[m1]/\m3∉@a0++[m1,m2])/\G' p4=some (.lst ((@a0++[m1,m2,m3]).map enc))/\∃ z,τ=[some S,@K,z,some (.int w),some (.ref p4),none,none,none,none,none]) ?_ ?_
   .intro N hN;simp![cS,dC];refine⟨@e,@e,?_⟩;unfold dN;refine cK (xs:=bZ 3) (λpre τ G'=>∃ as:@G,as.length=pre.length/\(∀ i:Nat,(hi:i < as.length)->as[i]∉@a0++as.take i)/\G' p4=some (.lst ((@a0++as).map enc))/\∃ z,τ=[some S,@K,z,some (.int w),some (.ref p4),none,none,none,none,none]) ⟨[],rfl,λi hi=>absurd hi (cG _),by rw [bq];exact g4,_,rfl⟩ @am ?_ ?_
    .rintro pre x post τ G' N2 e ⟨as,hl,fr,g,z,rfl⟩ kz;have Ds:pre.length < 3:=by
      have:=congrArg bS e;rw [cV,aq,af] at this;lia
     simp![aG,cp,kh,ak,ag,aZ,aN,dC,aH];refine⟨by simp only [g],cell _ _ _ @c ⟨.ref p4,@a0++as,_,rfl,.ref g,by rw [aq];lia,λm hm=>?_⟩⟩;simp only [g];refine⟨pL (by rw [ai,aq];lia),kz _ _ ⟨as++[m],by simp [hl],λi hi=>?_,?_,_,rfl⟩⟩
     .rw [aq,bC] at hi;by_cases hia:i < as.length
      .rw [List.getElem_append_left hia,List.take_append_of_le_length @c];exact fr i hia
      .have wY:i=as.length:=@d
       subst wY;rw [List.getElem_append_right @c,List.take_left' rfl];simpa using hm
     .rw [aA,<-bD,aI (l₂:=[m])];rfl
    .rintro τ G' ⟨as,hl,fr,g,z,rfl⟩;rw [cV] at hl;obtain⟨m1,m2,m3,rfl⟩:∃ x y z,as=[x,y,z]:=by
      match as,hl with
      | [x,y,z],_=>exact⟨x,y,z,rfl⟩
     refine hN _ _ ⟨m1,m2,m3,⟨?_,fr 1 @k,fr 2 @k⟩,g,_,rfl⟩;have:=fr 0 @k;simpa using this
   rintro _ G2 ⟨m1,m2,m3,⟨f1,f2,f3⟩,g4',z2,rfl⟩;clear g4 l1;refine bO (λτ G'=>G' p4=some (.lst ((@a0++[m1,m2,m3]).map enc))/\∃ (pc:Nat) (cs:@G),cs.length=3/\G' pc=some (.lst (cs.map enc))/\τ=[some S,@K,z2,some (.int w),some (.ref p4),some (.ref pc),none,none,none,none]) ?_ ?_
   .intro N hN;simp![bh,dS,dC,aG];refine⟨@e,@e,@e,?_⟩;unfold dN;refine fk (xs:=bZ 3) (λpre acc τ G'=>G2=G'/\(∃ a,τ=[a,some S])/\∃ cs:@G,acc=cs.map enc/\cs.length=pre.length) ⟨rfl,@ah,[],rfl,rfl⟩ (λ_ _ _ _ _=>trivial) ?_ ?_
    .rintro pre x post acc τ G' N3 e ⟨rfl,⟨a,rfl⟩,cs,rfl,hl⟩ iM;simp![aG,cA,aZ,ag,ak,aN,dC,aH];refine cell _ _ _ @c (c6 (iM _ _ _ ⟨rfl,@ah,cs++[iK ns (7+(0+(x:Int)))],?_,?_⟩))
     .rw [aI];rfl
     .rw [aq,aq,hl];rfl
    .rintro acc τ G' ⟨rfl,⟨a,rfl⟩,cs,rfl,hl⟩ p hp;exact hN _ _ ⟨(dM.new hp) _ _ g4',p,cs,hl,aA,rfl⟩
   rintro _ G3 ⟨g4,pc,cs,X0,gc,rfl⟩;simp![bh,cA,aZ,ag,ak,yM,Bt,dC,eF,g4,aN,aH,aG];rw [FJ];intro p5 h5;have l5:=dM.new (o:=.lst [.int m1,.int m2,.int m3]) h5;refine cell 6 _ _ @o ?_;simp only [↓cF];refine⟨@e,⟨rows,m1,m2,m3,iK ns 6 % 96,_,_,cs,rfl,.ref aA,.ref (l5 _ _ gc),⟨X0,@d,@d,@d,@d,@d⟩,λR h0 h1 h2 e0 e1 e2 hl hp=>c6 (hN _ _ ⟨R,_,_,_,⟨FG df f1 f2 f3 e0 e1 e2 hp,@d,?_⟩,rfl⟩)⟩⟩;have:=hp.length_eq;rw [aq] at this;have e6:(yN m1 m2 m3 h0 h1 h2).flatten.length=6:=rfl;lia
  .simp![c,decide_false];exact hN _ _ ⟨rows,_,_,_,⟨df,rn,@d⟩,rfl⟩
 rintro _ G1 ⟨R1,b1,c1,e1,⟨ZI,rn1,ahx⟩,rfl⟩;refine bO (λτ G'=>∃ (R:Rows),(Dr R/\1<=R.length/\R.flatten.length<=20)/\τ=[some S,some (enc R),b1,some (.int w),c1,e1,none,none,none,none]) ?_ ?_
 .intro N hN;have d1:Dr R1:=⟨ZI.nd,ZI.way,ZI.hand,ZI.vN,@d,@d⟩;simp![cH,wo,aN,ak,dC,aZ,ag,aH,bh,cA,aG,bH];by_cases c:1 < w
  .simp only [decide_eq_true c,↓if_true];refine cell 2 _ _ @o ?_;simp only [↓fc,↓cF];refine⟨@e,@e,@e,c8 (x:=iK ns 2 / 4 % 2) (y:=(0:Int)) @o ?_⟩;by_cases c2:iK ns 2 / 4 % 2=0
   .simp![c2,decide_true];refine cell 10 _ _ @o ?_;simp only [Nd,↓cF];exact⟨⟨@e,@e,@e⟩,@e,⟨R1,_,rfl,⟨d1,@d,@d⟩,λR dR l1 l2=>c6 (hN _ _ ⟨R,⟨dR,@d,@d⟩,rfl⟩)⟩⟩
   .simp![c2,decide_false];exact hN _ _ ⟨R1,⟨d1,@d,@d⟩,rfl⟩
  .simp only [decide_eq_false c,↓aj,↓if_false];exact hN _ _ ⟨R1,⟨d1,@d,@d⟩,rfl⟩
 rintro _ G2 ⟨R,⟨d,R1l,ahw⟩,rfl⟩;have tw:=PM.twice d;have nl:(names R).length<=10:=@d
 have str:=d.str;simp![bh,aZ,ag,ak,aH,aG,ends];refine⟨R,rfl,⟨d,nl⟩,?_⟩;refine bO (λτ G'=>G2=G'/\τ=[some S,some (enc R),b1,some (.int w),c1,e1,some (.eA ((qi R).map td)),some (enc R),none,none]) ?_ ?_
 .intro N hN;rw [FI];simp![bh,dS,ak,aG];refine dq ⟨yB (@az),?_⟩;refine fk (xs:=R) (λpre acc τ G'=>G2=G'/\(∃ a,τ=[a])/\acc=pre.map enc) ⟨rfl,@ah,rfl⟩ (λ_ _ _ _ _=>trivial) ?_ ?_
  .rintro pre x post acc τ G' N3 e ⟨rfl,⟨a,rfl⟩,rfl⟩ iM;simp![aG,cA,fC,ag,ak,aH];refine wx (IsL.enc x) λp f=>gq (xs:=x) (.new f) f aA (iM _ _ _ ⟨rfl,@ah,?_⟩);rw [aI];rfl
  .rintro acc τ G' ⟨rfl,⟨a,rfl⟩,rfl⟩ p f;exact gq (xs:=R) (.new f) f aA (hN _ _ @aP)
 rintro _ _ ⟨rfl,rfl⟩;refine bO (λτ G'=>G2=G'/\τ=[some S,some (enc R),b1,some (.int w),c1,e1,some (.eA ((qi R).map td)),some (enc R),none,none]) ?_ ?_
 .intro N hN;simp![cH,iJ,aZ,ag,ak,aH,bE,cA,dC,bH];refine⟨R,rfl,⟨d,nl⟩,⟨R,rfl,⟨d,nl⟩,?_⟩⟩;simp!;exact hN _ _ @aP
 rintro _ _ ⟨rfl,rfl⟩;refine bO (λτ G'=>∃ a b,τ=[some S,some (enc R),b1,some (.int w),c1,e1,some (.eA ((qi R).map td)),some (enc R),a,b]) ?_ ?_
 .intro N hN;simp![cS,ak];refine cK (xs:=qi R) (f:=td) (λpre τ G'=>∃ a b,τ=[some S,some (enc R),b1,some (.int w),c1,e1,some (.eA ((qi R).map td)),some (enc R),a,b]) @aR @am ?_ (λτ G' h=>hN _ _ h);rintro pre m post τ G3 N2 e ⟨a,b,rfl⟩ kz;have hm:m∈qi R:=by rw [e];simp
  simp![aG,bh,mV,aZ,ag,ak,aH];refine⟨m,rfl,λp hp=>?_⟩;refine NU d hm aA λx as G4 R' hr h3 hf=>?_;simp![cH,aN,fC,ag,dS,ak,aH,bE,cA,dC,bH];refine R5 hr h3 @c λG5 l5=>?_;refine Se @c @c λG6 l6=>?_;have cz:decide ((R.flatten.length:Int) < (R'.flatten.length:Int))=false:=decide_eq_false @c;simp![cz];exact kz _ _ @aR
 rintro _ G5 ⟨a,b,rfl⟩;simp![bE,cA,aZ,ag,ak,aH,aN];refine⟨R,rfl,⟨d,nl⟩,⟨R,rfl,⟨d,nl⟩,?_⟩⟩;simp only [↓aM,↓if_true];refine c8 (x:=R) (y:=R) @o ?_;simp![decide_true];exact c6 (q _)
end Gm
end K2
end
namespace Fin
open PySem PySem.Spec PyProof.Rows L2 K2
open K2.LM (jJ AN cN dW cJ eG)
open K2.V6 (iZ wG)
open K2.V5 (yr jt ub j3 wM)
open K2.Ii (iN yt eW uc i4 wH lV wI gJ ua lW wN iY wF)
open K2.Gm
open K2.CA (cx sr gC wK gZ wJ gX yu gh sk)
open K2.K3 (fU)
open K2.Er (fT wL)
open K2.A3 (sJ Cz cw si)
open K2.Mo hiding cN dU dW cJ eE eG
open K2.P
abbrev nl:@D:=["all","bool","int","isinstance","len","list","max","min","range","set","sorted","str","sum","tuple","zip"]
abbrev fl:List (Str×Str):=[("Uncurl","name"),("Curl","name"),("Curl","spot"),("Curl","first"),("Curl","hand"),("Part","name"),("Part","second"),("Lay","name"),("Lay","second"),("Lay","over"),("Lay","under"),("Lay","turned"),("Lay","hand"),("Slide","name"),("Slide","second"),("Slide","third"),("Slide","turn")]
structure Al(K:aC):Prop where
 n:Mg K nl
 F48:ma K "_law_cell_at" (top 48)
 F52:ma K "_law_free" (top 52)
 F51:ma K "_law_names" (top 51)
 F50:ma K "_law_mixed" (top 50)
 F53:ma K "_law_crossed" (top 53)
 F62:ma K "_law_block" (top 62)
 F63:ma K "_law_three" (top 63)
 F54:ma K "_law_spots" (top 54)
 F55:ma K "_law_put" (top 55)
 F69:ma K "_law_with_lay" (top 69)
 F59:ma K "_law_next" (top 59)
 F58:ma K "_law_hands" (top 58)
 F64:ma K "_law_beside" (top 64)
 F65:ma K "_law_parts" (top 65)
 F66:ma K "_law_pairs_of" (top 66)
 F60:ma K "_law_pairs" (top 60)
 F61:ma K "_law_slides" (top 61)
 F67:ma K "_law_slides_of" (top 67)
 F68:ma K "_law_lessening" (top 68)
 F49:ma K "_law_whole" (top 49)
 F56:ma K "_law_wholes" (top 56)
 F57:ma K "_law_tells" (top 57)
 F70:ma K "_law_listed" (top 70)
 F16:ma K "next_of" (top 16)
 F10:ma K "passings_of" (top 10)
 F13:ma K "names_of" (top 13)
 F27:ma K "overs_in_turn" (top 27)
 F14:ma K "hand_of" (top 14)
 F19:ma K "neighbours" (top 19)
 F21:ma K "part_fits" (top 21)
 F28:ma K "parts_in" (top 28)
 F22:ma K "in_turn" (top 22)
 F23:ma K "slide_pairs" (top 23)
 F24:ma K "slide_fits" (top 24)
 F29:ma K "slides_in" (top 29)
 F20:ma K "uncurl_fits" (top 20)
 F26:ma K "uncurls_in" (top 26)
 F25:ma K "lessening" (top 25)
 F46:ma K "move_of" (top 46)
 F31:ma K "refuse_unknown" (top 31)
 F32:ma K "refuse_unfit" (top 32)
 F11:ma K "seated" (top 11)
 F12:ma K "seated_rows" (top 12)
 F35:ma K "taken_out" (top 35)
 F38:ma K "with_changed" (top 38)
 F6:Ts K "Uncurl"
 aco:Ts K "Curl"
 PR:Ts K "Part"
 ae1:Ts K "Lay"
 JZ:Ts K "Slide"
 PL:V1 K "Uncurl"
 V3:V1 K "Curl"
 V2:V1 K "Part"
 YK:V1 K "Lay"
 Sv:V1 K "Slide"
 YX:Ih K "Uncurl" "__init__" "Uncurl.__init__" (og 41 0)
 YU:Ih K "Curl" "__init__" "Curl.__init__" (og 42 0)
 YT:Ih K "Part" "__init__" "Part.__init__" (og 43 0)
 YQ:Ih K "Lay" "__init__" "Lay.__init__" (og 44 0)
 YO:Ih K "Slide" "__init__" "Slide.__init__" (og 45 0)
 YW:Ih K "Uncurl" "refuse" "Uncurl.refuse" (og 41 2)
 YV:Ih K "Uncurl" "done" "Uncurl.done" (og 41 3)
 YS:Ih K "Part" "refuse" "Part.refuse" (og 43 2)
 YR:Ih K "Part" "done" "Part.done" (og 43 3)
 YN:Ih K "Slide" "refuse" "Slide.refuse" (og 45 2)
 YM:Ih K "Slide" "done" "Slide.done" (og 45 3)
 l:To K fl
section
seal PySem.binaryOp PySem.compareOp PySem.unaryOp sg xN eQ yq FY PF FZ zi F3 pB VV km K2.Pr K2.gV K2.nS K2.AF K2.FT K2.pz K2.gx K2.mi K2.mW K2.FQ K2.wo K2.AD K2.bh K2.gr K2.aN K2.dC K2.fC K2.aZ K2.dS K2.ag K2.uH K2.cp K2.cS K2.cA K2.Pg K2.cH K2.uG K2.dc K2.nR K2.mV K2.kh K2.xI K2.bH K2.aH K2.eF K2.iJ K2.JN K2.uO K2.Lz K2.nQ K2.bE K2.bz K2.ja K2.yM K2.cW K2.cy K2.Bt K2.ak K2.DR K2.fx K2.Lq K2.aG K2.nE K2.xw K2.mT K2.mO K2.Cd K2.fI K2.Oy K2.eZ K2.sO K2.B4 K2.xm K2.nO K2.jS K2.kS K2.kY K2.WT K2.Df K2.eB K2.Wc K2.jj K2.lF K2.zL K2.QZ K2.C6
theorem eY(h:autoParam (sg X b t) Aui._auto_1):sg X b t:=h
theorem T9:kj ["_law_script","_law_drawing","_law_k","_law_way","_law_names_here","_law_cells","_law_due","_law_handed","_law_told","_law_made"] ["_law_script"] (b9 (top 71)):=scm
variable {V:JY} (Y:Ij V) (A:Al V.K)
include Y A
theorem As:lM V 1 "_law_cell_at" ["_law_script","_law_k"] cx :=
 mU ["_law_script","_law_k"] Y A.n A.F48 sr @P
theorem yi:lM V 1 "_law_free" ["_law_names_here","_law_number"] gX :=
 mU ["_law_names_here","_law_number","_law_name"] Y A.n A.F52 yu @P
theorem wa:lM V 1 "_law_names" ["_law_drawing"] gZ :=
 mU ["_law_drawing","_law_names_here","_law_row","_law_passing"] Y A.n A.F51 wJ @P
theorem qg:lM V 1 "_law_mixed" ["_law_cell"] gC :=
 mU ["_law_cell"] Y A.n A.F50 wK @P
theorem Ap:lM V 2 "_law_crossed" ["_law_drawing","_law_cell"] gh :=
 have:=yi Y A;have:=wa Y A;have:=qg Y A;mU ["_law_drawing","_law_cell","_law_name","_law_rest","_law_hand","_law_made","_law_way","_law_row"] Y A.n A.F53 sk @P
theorem Bp:lM V 1 "_law_names" ["_law_drawing"] jt :=
 mU ["_law_drawing","_law_names_here","_law_row","_law_passing"] Y A.n A.F51 ub @P
theorem DI:lM V 1 "_law_free" ["_law_names_here","_law_number"] j3 :=
 mU ["_law_names_here","_law_number","_law_name"] Y A.n A.F52 wM @P
theorem DJ:lM V 2 "_law_block" ["_law_rows","_law_cell","_law_block_here"] lW :=
 have:=qg Y A;mU ["_law_rows","_law_cell","_law_block_here","_law_rest","_law_made","_law_row"] Y A.n A.F62 wN @P
theorem DB:lM V 3 "_law_three" ["_law_drawing","_law_names_here","_law_bits","_law_cells"] iY :=
 have:=DJ Y A;mU ["_law_drawing","_law_names_here","_law_bits","_law_cells","_law_a","_law_b","_law_c","_law_t","_law_hands_here","_law_blocks","_law_turns","_law_rows","_law_row","_law_k","_law_block_here","_law_made","_law_passings"] Y A.n A.F63 wF @P
theorem DD:lM V 1 "_law_spots" ["_law_drawing"] iZ :=
 mU ["_law_drawing","_law_spots_here","_law_k","_law_passing"] Y A.n A.F54 wG @P
theorem HK:lM V 1 "_law_put" ["_law_drawing","_law_spot","_law_passings"] jJ :=
 mU ["_law_drawing","_law_spot","_law_passings","_law_made","_law_k","_law_row","_law_passing"] Y A.n A.F55 AN @P
theorem yI:lM V 2 "_law_with_lay" ["_law_drawing","_law_cell"] lC :=
 have:=wa Y A;have:=yi Y A;have:=qg Y A;have:=DD Y A;have:=HK Y A;mU ["_law_drawing","_law_cell","_law_names_here","_law_one","_law_two","_law_rest","_law_hand","_law_spots_here","_law_made","_law_unders"] Y A.n A.F69 yQ @P
theorem Fy:lM V 1 "_law_next" ["_law_drawing"] iN :=
 mU ["_law_drawing","_law_behind","_law_row","_law_k","_law_other"] Y A.n A.F59 yt @P
theorem DH:lM V 1 "_law_hands" ["_law_drawing"] fT :=
 mU ["_law_drawing","_law_hands_here","_law_row","_law_passing"] Y A.n A.F58 wL @P
theorem ot:lM V 1 "_law_beside" ["_law_behind","_law_one","_law_other"] eW :=
 mU ["_law_behind","_law_one","_law_other"] Y A.n A.F64 uc @P
theorem DE:lM V 2 "_law_parts" ["_law_behind","_law_hands_here","_law_told"] i4 :=
 have:=ot Y A;mU ["_law_behind","_law_hands_here","_law_told","_law_a","_law_b"] Y A.n A.F65 wH @P
theorem yJ:lM V 3 "_law_pairs_of" ["_law_behind","_law_hands_here"] lD :=
 have:=DE Y A;mU ["_law_behind","_law_hands_here","_law_found","_law_a","_law_b"] Y A.n A.F66 yR @P
theorem DG:lM V 1 "_law_pairs" ["_law_a","_law_b","_law_c"] lV :=
 mU ["_law_a","_law_b","_law_c"] Y A.n A.F60 wI @P
theorem Bo:lM V 2 "_law_slides" ["_law_behind","_law_hands_here","_law_told"] gJ :=
 have:=DG Y A;mU ["_law_behind","_law_hands_here","_law_told","_law_a","_law_b","_law_c","_law_t","_law_pairs_here","_law_turns","_law_k","_law_one","_law_other"] Y A.n A.F61 ua @P
theorem xB:lM V 3 "_law_slides_of" ["_law_behind","_law_hands_here"] kE :=
 have:=ot Y A;have:=Bo Y A;mU ["_law_behind","_law_hands_here","_law_found","_law_a","_law_b","_law_c","_law_t"] Y A.n A.F67 xP @P
theorem xC:lM V 4 "_law_lessening" ["_law_drawing"] kF :=
 have:=Fy Y A;have:=DH Y A;have:=yJ Y A;have:=xB Y A;have:=ot Y A;mU ["_law_drawing","_law_behind","_law_hands_here","_law_found","_law_name"] Y A.n A.F68 xQ @P
theorem v9:lM V 1 "_law_whole" ["_law_found"] iX :=
 mU ["_law_found"] Y A.n A.F49 Ea @P
theorem Bn:lM V 2 "_law_wholes" ["_law_found","_law_due"] cN :=
 have:=v9 Y A;mU ["_law_found","_law_due","_law_part"] Y A.n A.F56 dW @P
theorem DC:lM V 3 "_law_tells" ["_law_found","_law_due"] cJ :=
 have:=Bn Y A;have:=v9 Y A;mU ["_law_found","_law_due","_law_k"] Y A.n A.F57 eG @P
theorem Bq:lM V 4 "_law_listed" ["_law_found","_law_due"] kR :=
 have:=DC Y A;mU ["_law_found","_law_due","_law_k"] Y A.n A.F70 BA @P
theorem qf:lM V 1 "next_of" ["drawing"] kD :=
 mU ["drawing","behind","row","passing","follower"] Y A.n A.F16 H0 @P
theorem rV:lM V 1 "passings_of" ["rows"] j0 :=
 mU ["rows","passings","row"] Y A.n A.F10 AM @P
theorem nP:lM V 2 "names_of" ["drawing"] fU :=
 have:=rV Y A;mU ["drawing"] Y A.n A.F13 yr @P
theorem ph:lM V 3 "overs_in_turn" ["drawing"] iW :=
 have:=qf Y A;have:=nP Y A;mU ["drawing","behind","pairs","name","after"] Y A.n A.F27 xO @P
theorem uE:lM V 2 "hand_of" ["drawing","name"] hV :=
 have:=rV Y A;mU ["drawing","name","passing"] Y A.n A.F14 Ie @P
theorem t8:lM V 1 "neighbours" ["behind","one","other"] jr :=
 mU ["behind","one","other"] Y A.n A.F19 Bz @P
theorem v8:lM V 3 "part_fits" ["drawing","name","second"] lT :=
 have:=uE Y A;have:=qf Y A;have:=t8 Y A;mU ["drawing","name","second","behind"] Y A.n A.F21 D8 @P
theorem Fx:lM V 4 "parts_in" ["drawing"] rz :=
 have:=ph Y A;have:=v8 Y A;mU ["drawing","pairs"] Y A.n A.F28 F4 @P
theorem HL:lM V 1 "in_turn" ["one","other","turn"] mB :=
 mU ["one","other","turn"] Y A.n A.F22 Ib @P
theorem rS:lM V 3 "slide_pairs" ["drawing","name","second","third","turn"] jZ :=
 have:=uE Y A;have:=HL Y A;mU ["drawing","name","second","third","turn","first_hand","second_hand","third_hand"] Y A.n A.F23 AL @P
theorem t7:lM V 4 "slide_fits" ["drawing","name","second","third","turn"] jq :=
 have:=qf Y A;have:=rS Y A;mU ["drawing","name","second","third","turn","behind"] Y A.n A.F24 By @P
theorem Dy:lM V 5 "slides_in" ["drawing"] pN :=
 have:=ph Y A;have:=nP Y A;have:=t7 Y A;mU ["drawing","slides","one","other","third"] Y A.n A.F29 D7 @P
theorem rR:lM V 2 "uncurl_fits" ["drawing","name"] jY :=
 have:=t8 Y A;have:=qf Y A;mU ["drawing","name"] Y A.n A.F20 AK @P
theorem Bm:lM V 3 "uncurls_in" ["drawing"] oa :=
 have:=nP Y A;have:=rR Y A;mU ["drawing"] Y A.n A.F26 Bx @P
theorem DA:lM V 6 "lessening" ["drawing"] lU :=
 have:=Fx Y A;have:=Dy Y A;have:=Bm Y A;mU ["drawing"] Y A.n A.F25 D9 @P
theorem uF:Tq V 1 "Uncurl" ["self","name"] jK :=
 have:=A.l;O3 ["self","name"] Y A.n A.PL A.YX uK @P
theorem xF:Tq V 1 "Curl" ["self","name","spot","first","hand"] kH :=
 have:=A.l;O3 ["self","name","spot","first","hand"] Y A.n A.V3 A.YU xT @P
theorem xE:Tq V 1 "Part" ["self","name","second"] kG :=
 have:=A.l;O3 ["self","name","second"] Y A.n A.V2 A.YT xS @P
theorem yL:Tq V 1 "Lay" ["self","name","second","over","under","turned","hand"] lE :=
 have:=A.l;O3 ["self","name","second","over","under","turned","hand"] Y A.n A.YK A.YQ yT @P
theorem wb:Tq V 1 "Slide" ["self","name","second","third","turn"] j4 :=
 have:=A.l;O3 ["self","name","second","third","turn"] Y A.n A.Sv A.YO wO @P
theorem HJ:lM V 3 "move_of" ["told"] uk :=
 have:=uF Y A;have:=xF Y A;have:=xE Y A;have:=yL Y A;have:=wb Y A;mU ["told"] Y A.n A.F46 Ia @P
theorem ka:lM V 3 "refuse_unknown" ["drawing","names"] gB :=
 have:=nP Y A;mU ["drawing","names","known","name"] Y A.n A.F31 wD @P
theorem lI:lM V 1 "refuse_unfit" ["fits"] iu :=
 mU ["fits"] Y A.n A.F32 yP @P
theorem xD:Sw V yw 4 "Uncurl" "refuse" ["self","drawing"] (oe V.K i5) :=
 have:=A.l;have:=ka Y A;have:=lI Y A;have:=rR Y A;Lr ["self","drawing"] Y A.n A.F6 A.YW xR @P
theorem Ls:lM V 1 "seated" ["row"] sJ :=
 mU ["row","start"] Y A.n A.F11 Cz @P
theorem rT:lM V 2 "seated_rows" ["rows"] cw :=
 have:=Ls Y A;mU ["rows"] Y A.n A.F12 si @P
theorem v7:lM V 3 "taken_out" ["drawing","names"] lS :=
 have:=rT Y A;mU ["drawing","names","rows","row"] Y A.n A.F35 D6 @P
theorem Au:Sw V yw 5 "Uncurl" "done" ["self","drawing"] (oe V.K gR) :=
 have:=A.l;have:=xD Y A;have:=v7 Y A;Lr ["self","drawing"] Y A.n A.F6 A.YV AO @P
theorem Av:Sw V yw 4 "Part" "refuse" ["self","drawing"] (oe V.K j5) :=
 have:=A.l;have:=ka Y A;have:=lI Y A;have:=v8 Y A;Lr ["self","drawing"] Y A.n A.PR A.YS AP @P
theorem DL:Sw V yw 5 "Part" "done" ["self","drawing"] (oe V.K i6) :=
 have:=A.l;have:=Av Y A;have:=v7 Y A;Lr ["self","drawing"] Y A.n A.PR A.YR Eb @P
theorem yK:Sw V yw 5 "Slide" "refuse" ["self","drawing"] (oe V.K jE) :=
 have:=A.l;have:=ka Y A;have:=lI Y A;have:=t7 Y A;Lr ["self","drawing"] Y A.n A.JZ A.YN yS @P
theorem yH:lM V 3 "with_changed" ["drawing","pairs"] lB :=
 have:=uE Y A;have:=rT Y A;mU ["drawing","pairs","partner","one","other","rows","row","spots"] Y A.n A.F38 yO @P
theorem Br:Sw V yw 6 "Slide" "done" ["self","drawing"] (oe V.K iB) :=
 have:=A.l;have:=yK Y A;have:=yH Y A;have:=rS Y A;Lr ["self","drawing"] Y A.n A.JZ A.YM BB @P
theorem Vz   (F:Qh V.K "law" "law" (top 71) f fd):qP V.P V.w V.K V.mg V.base yw 7 f fd ["_law_script"] (oe V.K K2.BP) :=
 have:=As Y A;have:=Ap Y A;have:=Bp Y A;have:=DI Y A;have:=DB Y A;have:=yI Y A;have:=xC Y A;have:=Bq Y A;have:=DA Y A;have:=HJ Y A;have:=Au Y A;have:=DL Y A;have:=Br Y A;ab5 T9 Y A.n F V0 @P
end
theorem all_mk {l:CG}  {K:aC}   {fl:Addr} {dl:dH} (X:K.In h) (G:h.Ns bJ mg) (hfa:mg "law" = some (.ref fa)) (FL:At K "law" (top 71) fl dl) (A:Al K) :
  ∃ fd:dH,(∀ (s:aF) (v:Value),BindsTo s fd ⟨[v],[]⟩ [("_law_script",v)])/\∀ base:Heap,K.In base->base.Ns bJ mg->qP l.prog w K mg base yw 7 fa fd ["_law_script"] (oe K K2.BP):=by
 have e:=hfa.symm.trans (PySem.W.mg_of X G FL.a);cases e;obtain⟨Fa,Fl⟩:=FL;obtain⟨oc,od,kV,doc,pm,an,i7,ct,Hd,rfl,lk,Mc⟩:=Fl.ex;refine⟨je "law" "law" (gE (top 71)) (eO (top 71)) (b9 (top 71)) .none kV doc pm an i7 ct,λs v=>.of_eq rfl,λbase _ _=>?_⟩;exact Vz (V:=⟨l.prog,w,K,mg,base⟩) ⟨X,G⟩ A Fl
end Fin
end Internal
open Internal
open PySem PySem.W PyProof.Rows
set_option maxRecDepth 100000 in
set_option maxHeartbeats 0 in
theorem PySem.Challenge.cw_knotwise_k27_lessening_holds : PySem.Challenge.rw_knotwise_k27_lessening.Holds := by
 w_on
 refine K2.Ll (q:=Fin.hQ) (K:=Fin.hK) (as:=Fin.hA) (N:=(12+(1+(1261+(879+(1184+(1247+782))))))) Fin.Vq (@aV) (@aV) (λ_=>@aV) (λ_=>@aV) Fin.Vr (by rfl) (by rfl) (by rfl) (by rfl) Fin.Vp ⟨rfl,rfl,rfl,rfl,rfl,@ao⟩ ?hw ?hc
 (case hw=>w_witness2)
 k_fill
 refine K2.Od (l:=PySem.Challenge.rw_knotwise_k27_lessening) (k:=7) (x:="_law_script") rfl rfl ⟨rfl,@e,@e⟩ (λw h Y=>Y) ?F
 case F =>
  intro w mg fa h KX G XM;exact Fin.all_mk KX G XM K2.Tg ⟨(by repeat first | exact K2.RR | refine K2.NL ?_),K2.d6,K2.d6,K2.d6,K2.d6,K2.d6,K2.d6,K2.d6,K2.d6,K2.d6,K2.d6,K2.d6,K2.d6,K2.d6,K2.d6,K2.d6,K2.d6,K2.d6,K2.d6,K2.d6,K2.d6,K2.d6,K2.d6,K2.d6,K2.d6,K2.d6,K2.d6,K2.d6,K2.d6,K2.d6,K2.d6,K2.d6,K2.d6,K2.d6,K2.d6,K2.d6,K2.d6,K2.d6,K2.d6,K2.d6,K2.d6,K2.d6,K2.d6,K2.d6,K2.d6,K2.d6,K2.gv,K2.gv,K2.gv,K2.gv,K2.gv,K2.zS,K2.zS,K2.zS,K2.zS,K2.zS,K2.mI,K2.mI,K2.mI,K2.mI,K2.mI,K2.mI,K2.mI,K2.mI,K2.mI,K2.mI,K2.mI,(K2.fF (K2.fF (K2.fF (K2.fF (K2.fF (K2.fF (K2.fF (K2.fF (K2.fF (K2.fF (K2.fF (K2.fF (K2.fF (K2.fF (K2.fF (K2.fF (K2.fF K2.Sd K2.gv) K2.gv) K2.gv) K2.gv) K2.gv) K2.gv) K2.gv) K2.gv) K2.gv) K2.gv) K2.gv) K2.gv) K2.gv) K2.gv) K2.gv) K2.gv) K2.gv)⟩
