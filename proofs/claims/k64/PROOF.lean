import PyProof.Rows.All
import Wide.All
import OpenK.AllK
import Wide.FinOn
import Lean
import PyProof.EqAt
import PyProof.EqKinds
import PyProof.TupleCall
import PySem.Challenge.RW_knotwise_k64_whole_tied
open Array renaming length_toList -> gu, mk -> oO, forIn_toList -> Cg, getElem?_eq_getElem -> K7, getD -> MZ, getElem?_eq_none -> QQ
open Array.Perm renaming refl -> pN
open Bool renaming false_eq_true -> aj, and_eq_true -> aL, not_true -> aW, noConfusion -> bo, not_false -> bG, false_ne_true -> fP, or_eq_true -> gO, and_eq_true_iff -> lz, not_eq_true' -> oN, false_and -> Bo, and_false -> MY, true_and -> QO, false_or -> QP, beq_eq_decide_eq -> Vs
open Classical renaming byContradiction -> iP
open False renaming elim -> bM
open ForInStep renaming yield -> wc
open Function renaming comp_def -> Vq
open Int renaming toNat_natCast -> c9, toNat_of_nonneg -> gF, emod_lt_of_pos -> kE, emod_nonneg -> nC, natCast_nonneg -> uf, zero_add -> Hy, add_zero -> Hz, add_comm -> HA, mul_add -> K0
open List renaming getElem?_cons_zero -> aa, getElem?_cons_succ -> ae, length_cons -> ag, set_cons_zero -> ai, map_cons -> ak, set_cons_succ -> ao, length_map -> au, length_nil -> av, cons_append -> ay, getElem?_eq_getElem -> az, length_append -> aA, map_append -> aC, nil_append -> aG, mem_cons_of_mem -> aI, map_nil -> aM, replicate -> aO, append_assoc -> aS, nodup_cons -> aT, size_toArray -> aX, map_map -> bq, mem_cons_self -> br, getElem?_map -> bw, append_nil -> bE, mem_cons -> bF, length_take -> bO, length_drop -> bP, perm_append_comm -> bY, not_mem_nil -> b9, mem_map_of_mem -> cf, getElem?_append_right -> cg, filter_cons -> ck, mem_of_getElem? -> cp, mem_singleton -> cz, flatMap_cons -> cD, getElem?_append_left -> cF, mem_append_right -> cH, nodup_nil -> cJ, find?_cons_of_pos -> cK, find?_cons_of_neg -> cL, flatten_append -> cM, length_singleton -> cP, nodup_append -> cU, flatten_cons -> cV, length_set -> da, length -> dh, getElem?_set_self -> dj, getElem?_set_ne -> du, take_append_drop -> dJ, length_filter_le -> dM, map_congr_left -> dO, foldl_cons -> dW, find?_cons -> dZ, filter_append -> eK, getElem_mem -> eV, getD_eq_getElem?_getD -> e9, range -> fG, find?_eq_none -> fO, mem_append_left -> fT, flatten_singleton -> gj, length_replicate -> gM, all_eq_true -> g7, getElem?_of_mem -> hZ, length_range -> ig, foldl_append -> ij, map_take -> iZ, map_drop -> i5, mem_of_find?_eq_some -> jc, drop_eq_getElem_cons -> jd, all_map -> jG, getElem?_eq_none -> kO, getElem_map -> lZ, flatMap_append -> me, filter_sublist -> mf, length_zip -> mY, getElem_range -> mZ, getElem?_replicate -> ng, any_cons -> ni, all_cons -> nj, drop_eq_nil_of_le -> nW, pairwise_map -> oJ, map_id -> oK, find?_append -> oM, zipIdx_cons -> qc, take_nil -> qQ, drop_nil -> qR, getElem_of_mem -> rR, find?_some -> rS, zip_cons_cons -> tZ, zipIdx_append -> t6, append_of_mem -> t7, drop_left -> ud, length_erase_of_mem -> vK, take_length -> wW, getElem_zip -> wX, take_of_length_le -> xG, length_pos_of_mem -> xH, filter_nil -> zx, mem_erase_of_ne -> AF, filterMap_cons -> BG, map_singleton -> D8, set_nil -> FQ, lookup_cons -> Hx, dropLast_concat_getLast -> HS, countP_eq_length_filter -> HU, of_mem_zip -> Ko, filter_map -> Kq, exists_cons_of_ne_nil -> KZ, take_left -> MV, mem_or_eq_of_mem_set -> MW, filterMap_cons_some -> OK, length_eq_zero_iff -> QJ, filter_cons_of_pos -> QK, filter_cons_of_neg -> QL, eraseIdx_cons_zero -> QM, eraseIdx_cons_succ -> QN, drop_of_length_le -> Ra, append_eq_nil_iff -> Rb, set_getElem_self -> Vn, set_append_right -> Vo, contains_iff_mem -> Vp, idxOf_cons_self -> VR, getElem?_zipIdx -> VS
open List.Perm renaming append_right -> dQ, append -> lj, append_left -> wb, swap -> xI, cons -> FR, trans -> VT
open List.Sublist renaming map -> nk, nodup -> pT
open Nat renaming le_refl -> aH, le_trans -> aU, ne_of_lt -> bu, lt_of_lt_of_le -> bC, zero_le -> cI, pow_le_pow_right -> ff, lt_of_le_of_lt -> fR, mul_le_mul_right -> jr, lt_irrefl -> jK, zero_add -> mD, min_eq_left -> nq, add_sub_cancel_left -> nv, le_of_ble_eq_true -> pR, succ_le_succ -> qF, add_assoc -> qU, not_lt_zero -> rY, mul_le_mul -> uC, lt_succ_self -> xE, le_add_right -> xF, lt_of_succ_lt_succ -> xN, le_of_succ_le_succ -> xO, pow_succ -> zG, add_le_add -> BF, mul_le_mul_left -> Ce, le_succ -> Cf, lt_succ_of_lt -> FP, le_of_lt -> VO, le_of_eq -> VP, add_zero -> VQ
open Ne renaming symm -> cO
open Option renaming getD_some -> pM, bind_some -> wa, map_some -> xD, isSome_map -> D7, getD_none -> EE
open Option.some renaming inj -> aZ, injEq -> OJ
open Prod.mk renaming injEq -> Bn
open PyProof.Rows renaming callWith_type1 -> gZ, callWith_builtin1 -> mC, IntsAre -> oX, slot_tuple_getitem -> zv, boot_isinstance -> Bm, seqObj -> B6, envOfC -> Ca, AllBare -> Ci
open PySem renaming wpAny_bind -> ah, Shared -> aB, wpAny_pure -> aE, starEach -> a8, sizeLine -> ba, Program -> bz, mainGlobals -> bR, wpAny_loadPart' -> bX, wpAny_holding -> cW, Around -> cZ, sizeLine_eq -> c5, wpAny_call_entry -> dE, wpAny_newObj_type -> dF, sysModules -> dU, bootBuiltins -> eM, compareOp -> fh, wpAny_Call_Name_kw -> fm, FuncData -> gc, DictEntry -> gJ, wpAny_dictEntries -> iN, foldedSetIterable -> iO, ReadsAll -> iY, backTo -> jb, mem_of_lookup -> jF, tupleKind -> jJ, wpAny_typeNameOfWhole_itemiter -> kh, wpAny_callSpecial?_slot -> km, binaryOp -> ko, wpAny_typeNameOfWhole_keyiter -> kG, assignEach -> kN, wpAny_passesOwn -> lC, treeTable -> lD, codeAny_builtin -> lF, wpAny_mono -> lW, Paired -> ma, wpAny_typeNameOf_itemiter -> mL, wpAny_forIn_list -> mW, wpAny_typeNameOf_keyiter -> nK, wpAny_setField_rec -> oR, wpAny_execs_nil -> oS, wpAny_dictEpoch -> oT, tupleKind_room_in1 -> oU, importedModules -> oV, OsState -> oW, wpAny_isOneOf_itemiter -> qa, Params -> qb, wpAny_truthy_bool -> qy, wpAny_pyIter_slot -> qz, wpAny_pyIter_list -> qA, valueAt -> qE, IsItemIter -> qG, wpAny_fieldsOf -> qP, codeAny_mono -> qS, wpAny_isInstance -> rW, codeAny_call_builtin -> tm, wpAny_standAt -> tV, wpAny_attempt -> tW, plainId_quiet -> tX, wpAny_field -> uh, swapsWith -> ui, sliceBounds -> uj, richCompare -> uk, pairTrees_cons_walk -> um, holding -> uq, argBest -> ur, NameKind -> wy, wpAny_seqItems -> wV, wpAny_pyIter_enum -> xJ, wpAny_letGo -> zB, wpAny_Call_method0_late -> zC, attributeBase -> zD, rawInt -> AB, pyNext -> AD, assign -> AE, richCompare_meets_room -> Bk, evalArgs_none -> Bl, wpAny_updateSeq -> B3, wpAny_specialOf -> B4, wpAny_notOrdered_dict -> B5, letOwnedTupleGo -> B7, isSubtype_tuple_tuple -> B9, codeAny -> Cb, call_meetsIn -> Cc, wpAny_tryCatch -> EA, pyIter -> EB, firstArgMember -> EC, wpAny_tupleItemsOf -> HN, pairTrees_nil_walk -> HP, HeapKind -> HV, wpAny_truthy_dict -> KH, wpAny_call -> KI, storedH -> KJ, spliced -> KL, relabel -> KN, isInstance -> KO, intKind -> KP, callerA -> KQ, call_meets -> KR, wpAny_callSpecialIfBound?_slot -> MO, call -> MQ, wpAny_execs_cons -> OE, bindArgs -> QI, wpAny_of_eq -> Q0, wpAny_letOwnedTupleGo_items -> Q3, valueAt -> Q4, excClassObj -> Q7, eqIsQuiet -> Q8, wpAny_letOwnedTupleGo_enum -> Vk, wpAny_setField -> VL
open PySem.Around renaming under_plainId -> lq
open PySem.AutoSeq1 renaming sub_tuple_tuple -> tw, sub_list_list -> K6
open PySem.Builtin.Builtins renaming bindParams -> zy
open PySem.Builtin.Dict renaming showsAll -> mE, takeOut -> HY
open PySem.Builtin.Dict_items renaming ownsTuple -> gm, ownedTupleIsFree -> j3, ownedTupleFields -> tu, pairFromOwner -> uE
open PySem.Builtin.Int renaming intBits -> K5
open PySem.Builtin.List renaming listTooLong -> k6
open PySem.Builtin.Slice renaming slicePlaces -> ky, sliceAdjust -> pU, sliceApplied -> BI
open PySem.Builtin.SmallTypes renaming fitsIndex -> gr
open PySem.Builtin.Tuple renaming tupleHashOf -> eZ, tupleExact -> kS, tupleCompareSizes -> xP, tupleItemsOf -> BH
open PySem.Calls renaming spliced_cons -> kl, callWith_builtin -> nN, spliced_nil -> uD, Name_function_global -> Kt, evalArgs_plain -> Vr
open PySem.F renaming slot_dict_items -> g8, plainAttrs_dict -> hU, slot_dict_itemiterator_next -> kq, slot_dict_itemiterator_iter -> kr, plain_min_loop -> ku, slot_dict_keyiterator_next -> kR, slot_tuple_lt -> nU, slot_dict_get -> nV, args_dict_items_1 -> rX, entry_dict_items -> tY, type_dict_items -> ux, plainAttrs_list -> uA, args_tuple_lt_2 -> uB, entry_tuple_lt -> v9, slot_list_lt -> xM, args_dict_itemiterator_next_1 -> HW, args_dict_itemiterator_iter_1 -> HX, args_tuple_add_2 -> Km, entry_dict_itemiterator_next -> Kr, args_dict_keyiterator_next_1 -> Ks, slot_list_index -> KU, entry_tuple_add -> KW, args_dict_get_3 -> KY, entry_min_loop -> K1, entry_dict_keyiterator_next -> K4, slot_tuple_add -> MS, entry_dict_get -> MT, args_list_lt_2 -> MU, slot_dict_keyiterator_iter -> MX, type_dict_get -> OG, slot_dict_pop -> OH, entry_list_lt -> OI
open PySem.Heap renaming get?_push_of_some -> aJ, lt_size -> aQ, get?_push_size -> bg, get?_update_other -> d8, SameBut -> gN, get?_update_self -> kP, size_push -> lV, FlyingW -> zu, size_update -> HB, get?_none_of_le -> VU
open PySem.Heap.SameBut renaming update -> kQ
open PySem.NameKind renaming free -> md
open PySem.Obj renaming mapSeq -> kj
open PySem.Paired renaming length -> jA, snoc -> Vm
open PySem.PassesOwn renaming never -> VN
open PySem.PyData renaming depthAll -> cG, eqv -> uc
open PySem.SeqAt renaming items_eqAt -> pP, any_by_data -> uw, readOf -> ED
open PySem.Str renaming ofString -> zF
open PySem.Value renaming ref -> fu, int -> fZ, none -> ic, isInt -> v8, type -> MP, builtin -> OF
open PySem.W renaming Frag -> aw, kia_one -> gE, boot_heap -> ik, kas_rev -> iT, kas_place -> lE, fnOf -> lU, boot_drawn -> lY, kas_desc -> mX, keepIn -> nM, excIn -> pQ, nsIn -> rP, callWith_K -> rQ, kas_asc -> uo, SharedT -> uv, topFrame -> wx, boot_toks -> xK, kitOne -> zt, kas_descPart -> B8, methodObj -> Cd, OpenLaw -> FO, codeIn -> HQ, cellsFrom_some -> MR, openGood -> QH, kas_tail3 -> Q5, findIn -> Q6, hideAll_get -> Q9, of_hideAll -> Vl, kitx_none -> VM
open PySem.W.KasT renaming ret -> zH
open Sum renaming inl -> zE, inr -> KS
open True renaming intro -> gv
set_option hygiene false
set_option compiler.extract_closed false
local macro_rules
|`(@ac)=>`(.inl rfl)
|`(@M)=>`(‹_›)
|`(@g)=>`(by decide)
|`(@t)=>`((@g))
|`(@n)=>`((·.1))
|`(@a3)=>`(some p.2)
|`(@b9)=>`(Option Value)
|`(@br)=>`(by kernel_rfl)
|`(@aD)=>`(some r)
|`(@v)=>`(List Str)
local macro_rules
|`(@C)=>`(List Value)
|`(@aj)=>`(.type "tuple")
|`(@aZ)=>`(.type "dict")
|`(@co)=>`((.str "knotwise.errors" 187))
|`(@cL)=>`(.type "ValueError")
|`(@ch)=>`(.type "BaseException")
|`(@c7)=>`(.type "builtin_function_or_method")
|`(@a7)=>`((.str "law_knotwise_k64_whole_tied" 564))
|`(@bN)=>`((.str "knotwise.drawings" 255))
|`(@ct)=>`((.str "knotwise.makings" 348))
local macro_rules
|`(@cH)=>`((.str "knotwise.brackets" 477))
|`(@aG)=>`(List Addr)
|`(@aU)=>`(.int 0 0)
|`(@c9)=>`(K2.NF PySem.Challenge.rw_knotwise_k64_whole_tied.row.prog hQ hL (K2.Rg PySem.Challenge.rw_knotwise_k64_whole_tied hQ) (λs=>hA.map s.heap.get?) w.params s.abs)
|`(@y)=>`(List V)
|`(@aa)=>`(some x)
|`(@L)=>`(some u)
|`(@a4)=>`(RelV v u)
|`(@w)=>`(.int i)
|`(@aO)=>`(List (Key×V))
local macro_rules
|`(@bb)=>`(List Key)
|`(@bA)=>`(List (@bb×V))
|`(@i)=>`(some o)
|`(@aJ)=>`(h.get? a)
|`(@ad)=>`(.type "list")
|`(@bQ)=>`((a == dU)=false)
|`(@bn)=>`(Addr×Value)
|`(@o)=>`(List α)
|`(@bc)=>`(pZ P w H h)
|`(@bx)=>`(some (.ji o u))
local macro_rules
|`(@bJ)=>`(h.get? b=@i)
|`(@bm)=>`(h'.get? b=@i)
|`(@s)=>`(List (Addr×Obj))
|`(@aV)=>`(Str->@b9)
|`(@bj)=>`(List Env)
|`(@af)=>`(aB->Prop)
|`(@I)=>`(Value->@af)
|`(@cb)=>`(sc.names.lookup x)
|`(@a1)=>`(some .local)
|`(@aY)=>`(some .cell)
local macro_rules
|`(@bO)=>`(X.env.cells.lookup x=some c)
|`(@bv)=>`(X.calm=true)
|`(@bY)=>`(b≠X.env.locals)
|`(@cB)=>`(X.jM.heap.get? b)
|`(@W)=>`(some v)
|`(@k)=>`(Inv X pins σ H s)
|`(@am)=>`(s.heap.get? b)
|`(@bU)=>`(wm X.stack)
|`(@K)=>`(by simp)
|`(@f)=>`((@K))
local macro_rules
|`(@bP)=>`(by simpa using hb)
|`(@c3)=>`(List.mem_append.mp hp)
|`(@cC)=>`(X.env.scope.names.lookup x)
|`(@c4)=>`(List.getElem?_eq_some_iff.mp hi)
|`(@as)=>`({s with heap:=h'})
|`(@ce)=>`(Inv X pins σ H' s')
|`(@z)=>`(λ_ _=>False)
|`(@l)=>`((model X.prog X.w))
|`(@bh)=>`(autoParam ((x == ("__debug__":Str))=false) Ad._auto_1)
|`(@au)=>`(I.tok _)
local macro_rules
|`(@A)=>`(⟨_,rfl⟩)
|`(@az)=>`(List Expr)
|`(@a9)=>`((.lst xs))
|`(@cp)=>`(Array Value)
|`(@V)=>`(.ref a)
|`(@u)=>`((@V))
|`(@aL)=>`((.ref it))
|`(@cg)=>`(I.ok.hd hc)
|`(@a_)=>`(⟨rfl,rfl⟩)
|`(@aE)=>`(.ref s.heap.objs.size)
local macro_rules
|`(@aX)=>`(bg _ rfl)
|`(@J)=>`((aH _))
|`(@d)=>`(by lia)
|`(@c)=>`((@d))
|`(@ck)=>`((c7 X.prog X.w))
|`(@S)=>`(.int _)
|`(@bX)=>`(Vals vs us)
|`(@cc)=>`(by simp at h)
|`(@cx)=>`(by simpa using h1)
|`(@bH)=>`(by simpa using h2)
local macro_rules
|`(@cU)=>`(Ca qual scope s.heap.objs.size f cd)
|`(@b6)=>`(s.heap.objs.size+1)
|`(@cI)=>`(by simpa using hi)
|`(@D)=>`(List Int)
|`(@P)=>`((model prog w))
|`(@Y)=>`(.ref l)
|`(@cA)=>`(s.heap.get? l)
|`(@cR)=>`(decide_eq_false @c)
|`(@aW)=>`(Option Int)
|`(@ay)=>`((i:Int))
local macro_rules
|`(@c5)=>`(kI items.size items.size hi-kI items.size 0 lo)
|`(@cr)=>`(ns.map V.int)
|`(@aw)=>`((.ref p))
|`(@cf)=>`(I.cx.fresh @J)
|`(@c6)=>`(h'.get? s.heap.objs.size)
|`(@bd)=>`(DecidableEq κ)
|`(@bs)=>`((λz=>nomatch z))
|`(@aH)=>`((cy st))
|`(@e)=>`(List D)
|`(@ag)=>`(List (D×D))
local macro_rules
|`(@cd)=>`(List (PK×D))
|`(@B)=>`(Gp->Prop)
|`(@bq)=>`(some (.lst ds))
|`(@cz)=>`(kvs.all λp=>dq p.1)
|`(@aB)=>`(C == "int")
|`(@U)=>`(some d)
|`(@aQ)=>`(@e->(@B)->@B)
|`(@aC)=>`((λ_=>True))
|`(@aT)=>`(List Nat)
|`(@q)=>`((@z))
local macro_rules
|`(@av)=>`(ns.map D.int)
|`(@G)=>`(dI G G')
|`(@a0)=>`(Nat->Bool)
|`(@Q)=>`(DecidableEq α)
|`(@ab)=>`(Enc α)
|`(@bu)=>`((xs.map enc))
|`(@bV)=>`(by simpa using e)
|`(@b8)=>`(List (κ×α))
|`(@cv)=>`(if p.1=k then(p.1,v) else p)
|`(@bM)=>`(λp=>decide (p.1=k))
local macro_rules
|`(@bC)=>`(false=true)
|`(@aS)=>`(by cases h)
|`(@cX)=>`(min xs.length ys.length)
|`(@ae)=>`(List (Int×Int))
|`(@b2)=>`(by simpa using h)
|`(@X)=>`((.ref C))
|`(@bf)=>`(bc K H vs ds)
|`(@b7)=>`(nS K H kv kvs)
|`(@a5)=>`(cm K H v d)
|`(@bZ)=>`((λ_=>trivial))
local macro_rules
|`(@bR)=>`((λ_ _ _=>trivial))
|`(@aA)=>`((λ_ _ _ _=>trivial))
|`(@ar)=>`((.new hp))
|`(@aN)=>`(lh X.K H G)
|`(@bW)=>`(I2 X pins σ H τ G s)
|`(@bG)=>`(Mv X.K H G H' G')
|`(@bo)=>`((ug X pins σ H G Q))
|`(@be)=>`(a8 es X.env)
|`(@cj)=>`(Mv X.K H G H1 G1)
|`(@ba)=>`(eU X a ta)
local macro_rules
|`(@bw)=>`((Ec X.K H G Q))
|`(@b5)=>`(m1.trans m2)
|`(@cu)=>`(λ_ _ z=>z.trans m1)
|`(@cE)=>`(λx H1 d G1 v s1 I1 m1 r1 j4 q1=>?_)
|`(@cJ)=>`(autoParam (a8 (e::es) X.env=(false,eval e X.env)::@be) Ar._auto_1)
|`(@cZ)=>`(autoParam ((jb pos (@be)).any @n=false) Ar._auto_1)
|`(@cm)=>`((.Call (.Name x p) (e::es) [] pos))
|`(@cG)=>`(Inv X pins σ H1 s1)
|`(@ai)=>`(.refl ab)
|`(@cw)=>`((false,eval a X.env))
local macro_rules
|`(@cN)=>`(H s.heap.objs.size=none)
|`(@bE)=>`(λ_ _ z=>.of z)
|`(@bl)=>`(X.A.units+64<cLine)
|`(@bI)=>`((zT false))
|`(@aM)=>`(.Name y py)
|`(@bT)=>`((dG X N scope C s H fp))
|`(@cW)=>`(.ref s2.heap.objs.size)
|`(@ci)=>`((.ListComp elt [⟨tg,iter,ifs,0⟩] scope pos))
|`(@b3)=>`(dG X N scope s3.heap.objs.size s3 H3 fp)
|`(@cD)=>`(aP Nn.length ds)
local macro_rules
|`(@c2)=>`(ds.length=ps.length)
|`(@F)=>`((ends Q))
|`(@bB)=>`(by decide +kernel)
|`(@cO)=>`(List.mem_cons.mp hb)
|`(@cy)=>`(.type "enumerate")
|`(@bL)=>`(min xs.size ys.size)
|`(@b0)=>`((xs.getD j .fe))
|`(@b1)=>`((ys.getD j .fe))
|`(@bF)=>`(zs.getD i .fe)
|`(@bK)=>`((by rw[au];lia))
local macro_rules
|`(@cK)=>`(s1.heap.get? b)
|`(@b_)=>`((.builtin "object.__class__"))
|`(@c1)=>`(.builtin "getset_descriptor.__get__")
|`(@cV)=>`(autoParam (a8 (e::es) X.env=(false,eval e X.env)::@be) Ac._auto_1)
|`(@r)=>`(List T3)
|`(@aK)=>`((js p.1 w))
|`(@cT)=>`(List.mem_map.mp z)
|`(@c0)=>`(rows.flatten.map T3.s)
|`(@j)=>`((ar 0))
|`(@m)=>`((ar 1))
local macro_rules
|`(@p)=>`((ar 2))
|`(@aF)=>`(some (enc rows))
|`(@aq)=>`(some @aw)
|`(@cY)=>`(rows.flatten.filter λp=>p.b == 0)
|`(@aR)=>`((aq @j aK))
|`(@E)=>`((dC (.int 1)))
|`(@H)=>`((dC (.int 0)))
|`(@ca)=>`((λ_ _ _ _ _=>trivial))
|`(@a8)=>`((dC (.int 2)))
|`(@bk)=>`(List (T3×T3))
local macro_rules
|`(@a2)=>`(pairsOf rows)
|`(@R)=>`((ar 4))
|`(@O)=>`((ar 3))
|`(@aI)=>`(r.map enc)
|`(@aP)=>`(l.map @n)
|`(@Z)=>`(Dr rows)
|`(@cP)=>`(p∈rows.flatten)
|`(@T)=>`(names rows)
|`(@cQ)=>`(List.mem_map.mp hp)
|`(@al)=>`(⟨_,_,rfl⟩)
local macro_rules
|`(@a6)=>`(by rw[e];simp)
|`(@bS)=>`(some (.ref p2))
|`(@bz)=>`(EW rows ns)
|`(@cs)=>`(as.map D.ref)
|`(@c8)=>`(List.getElem?_eq_some_iff.mp h1)
|`(@bp)=>`(bI rows 0)
|`(@cn)=>`(r.length<=1000)
|`(@cS)=>`(rh rows.flatten)
|`(@ao)=>`(r.take k)
|`(@an)=>`(r.drop k)
local macro_rules
|`(@ax)=>`((names A).length)
|`(@cF)=>`(A.length+B.length)
|`(@b4)=>`(s.drop v++s.take v)
|`(@bD)=>`(Bp R1 R2 S1 S2 r s k v)
|`(@ah)=>`(R1++r::R2)
|`(@ak)=>`(S1++s::S2)
|`(@bt)=>`((R1.length:Nat))
|`(@bg)=>`((gI (mA A)))
|`(@ap)=>`((mB A B))
|`(@bi)=>`((names B).length)
local macro_rules
|`(@cl)=>`(w4 A B R1 R2 S1 S2 r s k v)
|`(@cM)=>`(rows.take ks.length)
|`(@cq)=>`((ks.length:Int))
|`(@N)=>`(λ_ _ _ _ _ _ _=>fX)
local macro_rules
|`(tactic|ext d)=>`(tactic|(exact .nil))
|`(tactic|ext f)=>`(tactic|(cases this))
|`(tactic|ext c)=>`(tactic|(rintro rfl))
|`(tactic|ext l)=>`(tactic|(intro X hP hw hK hc i pins s σ H E I hf st hg))
|`(tactic|ext m)=>`(tactic|(subst hP hw hK))
|`(tactic|ext g)=>`(tactic|(exact this))
|`(tactic|ext n)=>`(tactic|(first |obtain⟨_,rfl⟩:=eG h1 |obtain⟨_,rfl⟩:=eE h1 |obtain⟨_,rfl⟩:=eF h1))
|`(tactic|ext o)=>`(tactic|(first |obtain⟨_,rfl⟩:=eG h2 |obtain⟨_,rfl⟩:=eE h2 |obtain⟨_,rfl⟩:=eF h2))
|`(tactic|ext p)=>`(tactic|(simpa using this))
|`(tactic|ext i)=>`(tactic|(intro E pins s σ H τ G Q hE I h))
local macro_rules
|`(tactic|ext s)=>`(tactic|(intro E pins s σ H τ G D hE I h))
|`(tactic|ext k)=>`(tactic|(exact q.elim))
|`(tactic|ext e)=>`(tactic|(exact q1.elim))
|`(tactic|ext t)=>`(tactic|(obtain⟨vs,hv,rs⟩:=ab.lst hg))
|`(tactic|ext q)=>`(tactic|(intro pins s σ H G x y dx dy v u Q I ab rx ry dX dY q))
|`(tactic|ext j)=>`(tactic|(.exact q.elim))
|`(tactic|ext r)=>`(tactic|(exact bo (show @bC from ht)))
|`(tactic|ext u)=>`(tactic|(rcases List.mem_cons.mp h with rfl |h))
set_option Elab.async false
set_option linter.all false
set_option maxRecDepth 100000
set_option maxHeartbeats 4000000
set_option genSizeOf false
set_option genInjectivity false
set_option bootstrap.genMatcherCode false
set_option compiler.extract_closed false
namespace Internal
noncomputable section
noncomputable section
theorem Ac(h:0=0:=by kernel_rfl):0=0:=h
theorem Ad(h:0=0:=by decide):0=0:=h
theorem Ae(h:0=0:=by first |rfl |decide):0=0:=h
theorem Af(h:0=0:=by first |k_is |rfl):0=0:=h
theorem Ai(h:0=0:=by intro _;rfl):0=0:=h
theorem Ak(h:0=0:=by decide +kernel):0=0:=h
theorem An(h:0=0:=by exact pR rfl):0=0:=h
theorem Ao(h:0=0:=by first |exact @ac |exact .inr rfl |exact .inr (@ac) |exact .inr (.inr rfl) |assumption):0=0:=h
theorem Aq(h:0=0:=by k_is):0=0:=h
theorem Ar(h:0=0:=by rfl):0=0:=h
theorem Aua(h:0=0:=by exact scm):0=0:=h
theorem Aub(h:0=0:=by intro _ _ _ _ _ _ us hl;rcases us with _ |⟨_,_ |⟨_,_ |⟨_,_ |⟨_,_ |⟨_,_⟩⟩⟩⟩⟩<;>first |rfl |(simp at hl;done)):0=0:=h
theorem Auc(h:0=0:=by intro ds G Q E h;iterate 14 (first |done |(obtain⟨e,_⟩:=h;(subst e);rfl) |(obtain⟨_,h⟩:=h))):0=0:=h
theorem Aud(h:0=0:=by intro _;kernel_rfl):0=0:=h
theorem QY(h:0=0:=by exact K2.Qd):0=0:=h
theorem Auf(h:0=0:=by exact K2.oY):0=0:=h
theorem Aug(h:0=0:=by exact⟨rfl,rfl,rfl⟩):0=0:=h
theorem Auh(h:0=0:=by(repeat intro _);show _=_;kernel_rfl):0=0:=h
theorem Aui(h:0=0:=by repeat' first |(show eU _ _ _;first |(show eU _ _ (ar _);exact pvK) |(show eU _ _ (dC _);first |exact WV |exact Z8 |exact W0 @M @M |exact WQ) |(show eU _ _ (aN _ _ _);first |refine Z3 @M ?_ ?_ (λ_ _=>rfl) |refine Z2 ?_ ?_ ?_ |refine W2 ?_ ?_ ?_ (SX _)) |refine Z5 ?_ |(show eU _ _ (aR _ _);refine afc @M @M ?_) |refine WO ?_ |refine WT ?_ |refine Pq ?_ ?_ ?_ |(show eU _ _ (jw ja _);refine pbK Qo abi @M @M ?_) |exact WX |(show eU _ _ (e7 _ _ _ _ _ _);refine Z6 @M ?_ (λ_ _ _ _ _=>?_) (λ_ _ _ _=>?_) λ_ _ _ _=>?_) |(show eU _ _ (mi _ j7 _ _);refine pmK uA PySem.F.slot_list_append PySem.F.type_list_append Cm LK ?_ ?_) |refine Z1 ?_ ?_ |(show eU _ _ (mi _ C4 _ _);refine pmK hU nV OG xR Xq ?_ ?_) |(show eU _ _ (JV _ _);first |refine BO _ @t Qd ?_ Qd ?_ abj ?_ |refine BO _ @t Qd ?_ Qd ?_ X4 ?_ |refine BO _ @t Qd ?_ Qd ?_ Oo ?_ |refine BO _ @t Qd ?_ Qd ?_ Hi ?_) |(show eU _ _ (jw qv _);refine pbK (Hf rfl @M) Qr @M @M ?_) |(show eU _ _ (qM _ _);refine afa @M @M ?_) |(show eU _ _ (mi _ sH _ _);refine pmK uA KU PySem.F.type_list_index Cm (PC @M) ?_ ?_) |refine W3 ?_ ?_ |(show eU _ _ (vm _ _);refine afb @M @M ?_) |(show eU _ _ (jw vq _);refine ptK Mx Oo @M @M ?_) |(show eU _ _ (A9 _ _ _);refine WU @M @M @M ?_) |(show eU _ _ (mi _ C0 _ _);refine pmK hU OH PySem.F.type_dict_pop xR (S5 @M) ?_ ?_) |exact WW |(show eU _ _ (Ba _);exact WY @M @M @M) |(show eU _ _ (mi _ C3 _ _);refine pmK hU nV OG V3 (S6 @M) ?_ ?_) |(show eU _ _ (mi _ vS _ _);refine pmK uA PySem.F.slot_list_extend PySem.F.type_list_extend Cm LJ ?_ ?_) |(show eU _ _ (jw MA _);refine pbK (Qn rfl @M) abh @M @M ?_) |refine WS ?_ |refine Sy ?_ ?_ ?_ ?_ |(show eU _ _ (jw Qq _);refine ptK J2 UU @M @M ?_) |refine Sz ?_ ?_ |refine Z4 ?_ ?_ ?_ |(show eU _ _ (jw Fx _);refine ptK Mz Hi @M @M ?_) |refine Sw @M ?_ ?_ |refine WR ?_) |(show wO _ _ _;first |(show wO _ _ (aq _ _);refine paK ?_ ?_) |exact yA) |(show pJ _ _ _;first |refine Pb ?_ ?_ |exact R9 |refine R8 ?_) |(show xA _ _ _;first |(show xA _ _ (bh _ _);first |refine ZS @M @M ?_ (λ_ _ _ _ _=>?_) (λ_ _ _ _=>?_) λ_ _ _ _=>?_ |refine psK @M ?_ |refine pqK ?_ ?_) |refine Wx ?_ |(show xA _ _ (di _ _ _);first |refine pfK VN ?_ ?_ ?_ |refine pfK PassesOwn.leaving ?_ ?_ ?_) |refine ZU ?_ ?_ ?_ |(show xA _ _ (fK _);refine pxK ?_) |exact Pg |refine Wy ?_ |(show xA _ _ (sW _ _);refine ZT @M @M ?_) |refine Pd VN ?_ ?_ |(show xA _ _ (Fu _ _ _ _ _);refine ZR @M @M @M @M @M (λ_=>?_) λ_=>?_)) |(show oH _ _ _;first |exact Xj |(show oH _ _ (zT _);first |exact SJ @M |exact SG @M) |exact Xe |(show oH _ _ (t9 _);first |exact Xh @M |exact Xa @M) |exact SI |exact aah |exact aaf @M |exact Xd |exact W9 |exact aag @M |exact SH |exact Xf @M) |(show Bf _ _ _;first |(show Bf _ _ (aF _);exact pgK @M) |(show Bf _ _ (gY _);refine WJ rfl ?_ ?_) |(show Bf _ _ (iH _ _);refine pyK @M ?_ ?_) |(show Bf _ _ (Dq _ _);refine Sq @M ?_ ?_) |(show Bf _ _ (Ma _);refine WL rfl ?_ ?_)) |(show HM _ _ _;first |(show HM _ _ (fI _);first |refine Nj ?_ ?_ ?_ (SX _) |refine Nj ?_ ?_ ?_ (by with_unfolding_all rfl) |refine pzK ?_) |refine Wu ?_ |refine U4.pt ?_) |(show Kd _ _ _;first |(show Kd _ _ (cq _ _);refine Pp ?_ ?_) |exact So) |(show Be _ _ _ _;first |refine WI ?_ |(show Be _ _ _ (u6 _);refine Lv Qd ?_ ?_) |refine Sm ?_ |(show Be _ _ _ (iL _);refine Pm ?_) |(show Be _ _ _ (yQ _);refine Sl Qd ?_ ?_) |(show Be _ _ _ (LY _ _);refine WH Qd ?_ ?_ ?_) |(show Be _ _ _ (sP _);refine Lx ?_) |(show Be _ _ _ (Dk _ _);refine Pn Qd ?_ ?_ ?_) |(show Be _ _ _ (yN _);refine Lw ?_)) |(show PO2 _ _ _;first |refine Sf ?_ |exact Sg) |(show U4 _ _ _;first |refine ZP ?_ ?_ |refine Ws ?_ ?_ |refine Wr ?_ |refine R3 ?_) |exact V2 |refine Qb ?_ |(show _=none;exact noX @M @M) |exact Um |exact .none |refine .some ?_):0=0:=h
theorem Ax(h:0=0:=by k_exc):0=0:=h
namespace L2
open PySem PySem.Spec PyProof.Rows
noncomputable def jD(s:Stmt):Arguments:=match s with
 |.FunctionDef _ a _ _ _ _ _ _ _ _=>a
 |_=>{posonlyargs:=[],args:=[],vararg:=none,kwonlyargs:=[],kw_defaults:=[],kwarg:=none,defaults:=[]}
noncomputable def fN(s:Stmt):List Stmt:=match s with
 |.FunctionDef _ _ b _ _ _ _ _ _ _=>b
 |_=>[]
noncomputable def cy(s:Stmt):Scope:=match s with
 |.FunctionDef _ _ _ _ _ _ sc _ _ _=>sc
 |_=>{kind:=.function,names:=[],isGenerator:=false,isCoroutine:=false}
end L2
namespace K2
open PySem PySem.W PySem.Spec PyProof.Rows PySem.Calls
theorem PJ(e:opening p=plainProg p.main.scope.names)(hN:Nat.ble 600 N=true)(f:∀s,fenceModules? p s=some s)
  (h:∀(w:World) (os:oW),(topFrom lD p w N ⟨ik w.params,oO [],lY,xK,os⟩).map (λs=>(openSeen q loose (oV p.main.body) Xt true s,Yf s))=some (QH q loose,Ya w)):LeftO p q loose Xt Yf Ya N:=λw=>by
 obtain⟨⟨h',gs,d,k,os⟩,e1,e2⟩:=Option.map_eq_some_iff.mp (boot_open e hN f w);obtain⟨rfl,rfl,rfl,rfl⟩:h'=ik w.params/\gs=oO []/\d=lY/\k=xK:=by simpa using e2
 unfold openEnds;rw[e1];exact h w os
noncomputable abbrev M4(l:OpenLaw)(q:bz):Bool:=chainsOk q&&opensWell l.row.prog&&(frees l.row.toRowW&&l.row.within.isEmpty)
noncomputable abbrev Rg(l:OpenLaw)(q:bz)(s:aB):Bool:=xlAt q [] s&&recOk l.row.records s
theorem P9{K:qb->Frag}(ok:l.wellSaid=true)(e:opening l.row.prog=plainProg l.row.prog.main.scope.names)(hN:Nat.ble 600 N=true)(f:∀s,fenceModules? l.row.prog s=some s)(hK:∀P,as=(K P).map @n)
  (h:∀(w:World) (os:oW),(topFrom lD l.row.prog w N ⟨ik w.params,oO [],lY,xK,os⟩).map (λs=>(openSeen q loose (oV l.row.prog.main.body) (Rg l q) true s,as.map s.heap.get?))=some (QH q loose,(K w.params).map λp=>@a3))
  (hd:defOf q l.row.name=some (d,[])) (hp:l.row.prog.theDef l.row.name=some (d.params,d.body,d.scope)) (hk:kwWritten? d.params.kwonlyargs d.params.kw_defaults=some []) (hr:(!l.row.writes||l.row.records.isEmpty)=true) (ht:M4 l q=true) (hb:l.row.prog.bare) (hw:l.row.toRowW.promised)
  (c:WalkO q loose (XL q []) (InK K) l.row.toRowW d [] λf vs=>MQ f vs):l.Holds :=
 holds_law ok λk1=>holds_open (PJ (Yf:=Hook.obs (kHook K as hK)) (Ya:=Hook.val (kHook K as hK)) e hN f h) (Hook.of (kHook K as hK)) (Hook.keeps (kHook K as hK)) (λs x=>xl_of s (Bool.and_eq_true_iff.mp x).1) XL.keeps hd hp hk (λs x=>recFacts_of (Bool.and_eq_true_iff.mp x).2) hr k1 ht hb hw c
noncomputable def xT(tb:String->Option Builtin)(p:bz)(w:World)(rj:Nat)(ann:@b9):Nat->uv->Thread->Option uv
 |0,_,_=>none
 | n+1,s,t=>match through t with
  |true=>some s
  | false=>match stepOk rj ann t with
   |false=>none
   |true=>match stepT (denote tb) p w s t with
    |some (s',t')=>xT tb p w rj ann n s' t'
    |none=>none
theorem Wf:∀{n:Nat} {s s':uv} {t:Thread},xT tb p w rj ann n s t=some s'->topRun tb p w rj ann n s.abs t=some s'.abs:=by
 intro n;induction n with
 |zero=>intro s s' t h;cases h
 | succ n ih=>
  intro s s' t h;unfold xT at h;unfold topRun;cases ht:through t with
  |true=>rw[ht] at h;cases h;rfl
  | false=>
   rw[ht] at h;cases hk:stepOk rj ann t with
   |false=>rw[hk] at h;cases h
   | true=>
    rw[hk] at h;cases hs:stepT (denote tb) p w s t with
    |none=>rw[hs] at h;cases h
    |some r=>
     obtain⟨jL,aeQ⟩:=r;rw[hs] at h;rw[stepT_spec hs];exact ih h
noncomputable def bt(l:List Obj):BT:=(l.foldl (λ(p:BT×Nat) o=>(p.1.ins p.2 o,p.2+1)) (BT.nil,0)).1
noncomputable def UY(P:qb)(os:oW):uv:=⟨bt (ik P).objs.toList,(ik P).objs.size,(ik P).life,oO [],lY,xK,os⟩
theorem Qs(P)(os):(UY P os).abs=⟨ik P,oO [],lY,xK,os⟩:=@br
noncomputable abbrev NF{α:Type}(p q)(loose)(Xt)(Yf:aB->α)(P)(s):=((staticsOk (oV p.main.body) (ik P) s.heap&&namesBound p s.heap&&gensDone s&&laidKept (ik P) s.heap),openSeen q loose (oV p.main.body) Xt true s,Yf s)
noncomputable def goB(tb:String->Option Builtin)(p:bz)(w:World)(rj:Nat)(ann:@b9):Nat->uv->Thread->Option (uv×Thread)
 |0,s,t=>some (s,t)
 | n+1,s,t=>match through t with
  |true=>none
  | false=>match stepOk rj ann t with
   |false=>none
   |true=>match stepT (denote tb) p w s t with
    |some (s',t')=>goB tb p w rj ann n s' t'
    |none=>none
section
variable {tb:String->Option Builtin} {p:bz} {w:World} {rj:Nat} {ann:@b9} {b:List Stmt} {env:Env} {c:Code} {q pos p':Pos}
theorem aaW:∀{n:Nat} {s s':uv} {t t':Thread},goB tb p w rj ann n s t=some (s',t')->topGo tb p w rj ann n s.abs t=some (s'.abs,t'):=by
 intro n;induction n with
 |zero=>intro s s' t t' h;cases h;rfl
 | succ n ih=>
  intro s s' t t' h;unfold goB at h;unfold topGo;cases ht:through t with
  |true=>rw[ht] at h;cases h
  | false=>
   rw[ht] at h;cases hk:stepOk rj ann t with
   |false=>rw[hk] at h;cases h
   | true=>
    rw[hk] at h;cases hs:stepT (denote tb) p w s t with
    |none=>rw[hs] at h;cases h
    |some r=>
     obtain⟨jL,aeQ⟩:=r;rw[hs] at h;rw[stepT_spec hs];exact ih h
theorem Qm(h1:goB tb p w rj ann nA s0 (topStub p)=some (sA,⟨denote tb (.body b env),c,pos,[wx q]⟩))(h2:segRunT tb p w rj ann 1 nB sA (blockOf b env c pos [wx q])=some (.next,sB,c,p'))
  (k:topRun tb p w rj ann N sB.abs (restOf b env c p' [wx q])=@aD):topRun tb p w rj ann (nA+(nB+N)) s0.abs (topStub p)=@aD:=go_top (aaW h1) (piece_block (segRun_of h2) k)
theorem UK(k)(h:segRunT tb p w rj ann 1 n s (piecesOf (b.take k) env c pos [wx q])=some (.next,s',c,p'))
  (hk:topRun tb p w rj ann N s'.abs (restOf (b.drop k) env c p' [wx q])=@aD):topRun tb p w rj ann (n+N) s.abs (restOf b env c pos [wx q])=@aD:=by
 have:=piece_app (segRun_of h) hk
 rwa[dJ] at this
end
theorem Ti{σ α β γ:Type}{o:Option σ}{F:σ->α×β×γ}{a:α}{b:β}{c:γ}(h1:o.map (λs=>((F s).1,(F s).2.2))=some (a,c))(h2:o.map (λs=>(F s).2.1)=some b):o.map F=some (a,b,c):=by
 cases o with
 |none=>cases h1
 |some s=>
  have e1:=aZ h1;have e2:(F s).2.1=b:=aZ h2;show some ((F s).1,(F s).2.1,(F s).2.2)=_;rw[e2,show(F s).1=a from congrArg @n e1,show(F s).2.2=c from congrArg (·.2) e1]
theorem V6{p q:bz}{loose:@v}{Xt:aB->Bool}{α:Type}{Yf:aB->α}{Ya:World->α}{N M:Nat}{w:World}{os:oW}{Xp:Nat}{ann:@b9}{sL:uv}{tL:Thread}
  (hz:((ik w.params).isNs bR,(ik w.params).objs.size,(ik w.params).nsMap bR "__annotations__")=(true,Xp,ann))
  (h:(xT lD p w Xp ann M sL tL).map (λs=>NF p q loose Xt Yf w.params s.abs)=some (true,QH q loose,Ya w))
  (k:∀r,topRun lD p w Xp ann M sL.abs tL=@aD->topRun lD p w Xp ann N (UY w.params os).abs (topStub p)=@aD):
  (topFrom lD p w N ⟨ik w.params,oO [],lY,xK,os⟩).map (λs=>(openSeen q loose (oV p.main.body) Xt true s,Yf s))=some (QH q loose,Ya w):=by
 obtain⟨s,e1,e2⟩:=Option.map_eq_some_iff.mp h;have r:=k _ (Wf e1);rw[Qs] at r;obtain⟨z1,z2,z3⟩:_/\_/\_:=by simpa only[Bn] using hz
 obtain⟨l1,l2,l3⟩:_/\_/\_:=by simpa only[Bn] using e2
 have t:topFrom lD p w N ⟨ik w.params,oO [],lY,xK,os⟩=some s.abs:=by
  unfold topFrom;dsimp only;have g:((oO []:Array GenState).size == 0)=true:=rfl;rw[z1,z2,z3,g,QO,r];dsimp only[wa];rw[l1]
 rw[t];exact congrArg some (Prod.ext l2 l3)
end K2
namespace Fin
open PySem PySem.Spec PyProof.Rows L2 K2
noncomputable def top(i:Nat):Stmt:=PySem.Challenge.pw_knotwise_k64_whole_tied.main.body.getD i (.Pass ⟨0,0,0,0⟩)
noncomputable section
open PySem.W PySem.Calls
noncomputable def hC (n:Str) (t:Nat) (l:@C):Obj:=⟨.type "code",none,.fields (.str n t::.str n (t+1)::.str "/claim/cut.py" (t+2)::l).toArray,#[]⟩
noncomputable def hI(n:Int):Value:=.int n 0
noncomputable def hR(n:Nat):Value:=.ref n
noncomputable def hN:Value:=.none
noncomputable def hT:Value:=.bool true
noncomputable def hS (n:Nat):Value:=.str "/claim/cut.py" n
noncomputable def hD(n:Str)(t:Nat)(l a:Int)(r:Nat)(x y z:Value)(u:Nat):Obj:=hC n t [hI l,hI a,hI 0,hI 0,hI 3,hR r,hT,hI 181,hR (r+1),hN,x,y,z,hI (u-1),hI l,hS u]
noncomputable abbrev hF (i:Nat) (n:Str) (m c:Value):Obj:=⟨.type "function",none,.func (lU n n (jD (top i)) (fN (top i)) (cy (top i)) .none .none .none m none c .none),#[]⟩
noncomputable abbrev hE(P:qb)(s:Str)(t:Nat)(v:Value):gJ:=⟨PyData.keyHash P s,.str s t,v⟩
noncomputable def hQ:bz:=PySem.W.view PySem.Challenge.pw_knotwise_k64_whole_tied [1,2,3,4,6,7,8,9,10,11,12,13,14,15,17,18,20,21,22,23,24,25,27,28,29,30,31,32,34,35,36,37,38,39,40,41,42,43,44,46,47,48,49,50,51,52,53,54,55,56,57,58,59,60,61,62,63,64,65,66,67]
noncomputable def o0:Obj:=⟨(@aj),none,(.seq #[] 0),#[]⟩
def o1 (P:qb):Obj:=⟨(@aZ),none,(.dict #[hE P "__module__" 196 @co,hE P "__firstlineno__" 200 (.int 2 199),hE P "__static_attributes__" 201 (.ref 22),hE P "__weakref__" 203 (.ref 25),hE P "__doc__" 204 .none] 3),#[]⟩
noncomputable def o2:Obj:=⟨(.type "type"),none,(.cls ⟨"KnotError",[(@cL)],[(.ref 24),(@cL),(.type "Exception"),(@ch),(.type "object")],23,"KnotError",.true,[],[(.ref 37),(.ref 49),(.ref 61)],.false,none,.false⟩),#[(some (.ref 15)),none,(some (.str "KnotError" 189)),(some (.str "KnotError" 197)),(some (.builtin "ValueError.__new__")),(some (.bool .true))]⟩
noncomputable def o3:Obj:=⟨(.type "getset_descriptor"),none,(.fields #[(.str "__weakref__" 202),(.ref 24),(.builtin "ExceptionGroup.__weakref__"),.none]),#[]⟩
noncomputable def o4:Obj:=⟨(@aj),none,(.seq #[(.ref 24)] 0),#[]⟩
def o5 (P:qb):Obj:=⟨(@aZ),none,(.dict #[hE P "__module__" 214 @co,hE P "__firstlineno__" 218 (.int 4 217),hE P "__static_attributes__" 219 (.ref 35),hE P "__doc__" 220 .none] 2),#[]⟩
noncomputable def o6:Obj:=⟨(.type "type"),none,(.cls ⟨"NoName",[(.ref 24)],[(.ref 37),(.ref 24),(@cL),(.type "Exception"),(@ch),(.type "object")],36,"NoName",.true,[],[],.false,none,.false⟩),#[(some (.ref 28)),none,(some (.str "NoName" 207)),(some (.str "NoName" 215)),(some (.builtin "ValueError.__new__")),(some (.bool .true))]⟩
def o7 (P:qb):Obj:=⟨(@aZ),none,(.dict #[hE P "__module__" 230 @co,hE P "__firstlineno__" 234 (.int 6 233),hE P "__static_attributes__" 235 (.ref 47),hE P "__doc__" 236 .none] 2),#[]⟩
noncomputable def o8:Obj:=⟨(.type "type"),none,(.cls ⟨"NoSpot",[(.ref 24)],[(.ref 49),(.ref 24),(@cL),(.type "Exception"),(@ch),(.type "object")],48,"NoSpot",.true,[],[],.false,none,.false⟩),#[(some (.ref 40)),none,(some (.str "NoSpot" 223)),(some (.str "NoSpot" 231)),(some (.builtin "ValueError.__new__")),(some (.bool .true))]⟩
def o9 (P:qb):Obj:=⟨(@aZ),none,(.dict #[hE P "__module__" 246 @co,hE P "__firstlineno__" 250 (.int 8 249),hE P "__static_attributes__" 251 (.ref 59),hE P "__doc__" 252 .none] 2),#[]⟩
noncomputable def o10:Obj:=⟨(.type "type"),none,(.cls ⟨"TooMany",[(.ref 24)],[(.ref 61),(.ref 24),(@cL),(.type "Exception"),(@ch),(.type "object")],60,"TooMany",.true,[],[],.false,none,.false⟩),#[(some (.ref 52)),none,(some (.str "TooMany" 239)),(some (.str "TooMany" 247)),(some (.builtin "ValueError.__new__")),(some (.bool .true))]⟩
noncomputable def o11:Obj:=⟨(@c7),none,(.fields #[(.builtin "type.__prepare__"),(.type "type")]),#[]⟩
noncomputable def HD:Obj:=⟨.none,none,(.fields #[]),#[]⟩
noncomputable def hK(P:qb):aw:=(nat_lit 2,⟨.none,none,(.dict #[] 0),#[]⟩) ::
(nat_lit 3,⟨(@aZ),none,(.dict #[hE P "__name__" 165 @a7,hE P "__doc__" 166 .none,hE P "__package__" 167 .none,hE P "__loader__" 168 (.builtin "__main__.__loader__#opaque"),hE P "__spec__" 169 .none,hE P "__annotations__" 170 (.ref 6),hE P "__builtins__" 171 (.ref 4),hE P "__file__" 173 (.str "/claim/cut.py" 172),hE P "__cached__" 174 .none,hE P "KnotError" 206 (.ref 24),hE P "NoName" 222 (.ref 37),hE P "NoSpot" 238 (.ref 49),hE P "TooMany" 254 (.ref 61),hE P "MOST_STRINGS" 258 (.int 3 257),hE P "MOST_CROSSINGS" 260 (.int 12 259),hE P "passings_of" 269 (.ref 70),hE P "seated" 277 (.ref 77),hE P "seated_rows" 283 (.ref 82),hE P "names_of" 289 (.ref 87),hE P "hand_of" 298 (.ref 94),hE P "spots_on" 304 (.ref 99),hE P "next_of" 315 (.ref 106),hE P "string_of" 325 (.ref 113),hE P "with_put" 339 (.ref 120),hE P "renamed_spot" 347 (.ref 127),hE P "refuse_many" 357 (.ref 134),hE P "numbering" 368 (.ref 141),hE P "renamed_row" 374 (.ref 146),hE P "renamed_rows" 380 (.ref 151),hE P "ring_behind" 391 (.ref 158),hE P "tied" 407 (.ref 165),hE P "LOOP" 419 (.ref 166),hE P "without_noughts" 429 (.ref 173),hE P "added" 440 (.ref 180),hE P "times" 454 (.ref 187),hE P "shifted" 466 (.ref 194),hE P "raised" 476 (.ref 201),hE P "ALONG" 480 (.int 0 479),hE P "AGAINST" 482 (.int 1 481),hE P "joints" 490 (.ref 208),hE P "power_at" 498 (.ref 215),hE P "plan_of" 504 (.ref 220),hE P "whole_plan" 510 (.ref 225),hE P "far_ends" 520 (.ref 232),hE P "joined_plan" 534 (.ref 239),hE P "opened_at" 550 (.ref 246),hE P "opened" 556 (.ref 251),hE P "bracket" 563 (.ref 258),hE P "_law_cell_at" 573 (.ref 265),hE P "_law_whole" 580 (.ref 272),hE P "_law_pick" 589 (.ref 279),hE P "_law_poly" 597 (.ref 286),hE P "_law_pared" 606 (.ref 293),hE P "_law_product" 617 (.ref 300),hE P "_law_copy" 623 (.ref 305),hE P "_law_free" 631 (.ref 312),hE P "_law_put" 642 (.ref 319),hE P "_law_digits" 655 (.ref 326),hE P "_law_drawing" 661 (.ref 331),hE P "_law_names" 671 (.ref 338),hE P "_law_spots" 681 (.ref 345),hE P "_law_seated" 690 (.ref 352),hE P "_law_rows" 701 (.ref 359),hE P "_law_numbered" 707 (.ref 364),hE P "_law_refused" 719 (.ref 371),hE P "_law_found" 729 (.ref 378),hE P "_law_due" 735 (.ref 383),hE P "_law_balanced" 744 (.ref 390),hE P "_law_no_spot" 753 (.ref 397),hE P "law" 775 (.ref 404)] 70),#[]⟩) ::
(nat_lit 15,⟨(@aj),none,(.seq #[(@cL)] 0),#[]⟩) ::
(nat_lit 22,o0) ::
(nat_lit 23,o1 P) ::
(nat_lit 24,o2) ::
(nat_lit 25,o3) ::
(nat_lit 28,o4) ::
(nat_lit 35,o0) ::
(nat_lit 36,o5 P) ::
(nat_lit 37,o6) ::
(nat_lit 40,o4) ::
(nat_lit 47,o0) ::
(nat_lit 48,o7 P) ::
(nat_lit 49,o8) ::
(nat_lit 52,o4) ::
(nat_lit 59,o0) ::
(nat_lit 60,o9 P) ::
(nat_lit 61,o10) ::
(nat_lit 69,hD "passings_of" 261 13 1 64 (hR 66) (hR 67) (hR 68) 268) ::
(nat_lit 70,hF 8 "passings_of" @bN (.ref 69)) ::
(nat_lit 76,hD "seated" 270 18 1 71 (hR 73) (hR 74) (hR 75) 276) ::
(nat_lit 77,hF 9 "seated" @bN (.ref 76)) ::
(nat_lit 81,hD "seated_rows" 278 23 1 78 hN hN (hR 80) 282) ::
(nat_lit 82,hF 10 "seated_rows" @bN (.ref 81)) ::
(nat_lit 86,hD "names_of" 284 25 1 83 hN hN (hR 85) 288) ::
(nat_lit 87,hF 11 "names_of" @bN (.ref 86)) ::
(nat_lit 93,hD "hand_of" 290 27 2 88 (hR 90) (hR 91) (hR 92) 297) ::
(nat_lit 94,hF 12 "hand_of" @bN (.ref 93)) ::
(nat_lit 98,hD "spots_on" 299 32 2 95 hN hN (hR 97) 303) ::
(nat_lit 99,hF 13 "spots_on" @bN (.ref 98)) ::
(nat_lit 105,hD "next_of" 305 36 1 100 (hR 102) (hR 103) (hR 104) 314) ::
(nat_lit 106,hF 14 "next_of" @bN (.ref 105)) ::
(nat_lit 112,hD "string_of" 316 42 2 107 (hR 109) (hR 110) (hR 111) 324) ::
(nat_lit 113,hF 15 "string_of" @bN (.ref 112)) ::
(nat_lit 119,hD "with_put" 328 48 3 114 (hR 116) (hR 117) (hR 118) 338) ::
(nat_lit 120,hF 17 "with_put" (.str "knotwise.moves" 326) (.ref 119)) ::
(nat_lit 126,hD "renamed_spot" 340 54 2 121 (hR 123) (hR 124) (hR 125) 346) ::
(nat_lit 127,hF 18 "renamed_spot" (.str "knotwise.moves" 326) (.ref 126)) ::
(nat_lit 133,hD "refuse_many" 350 59 2 128 (hR 130) (hR 131) (hR 132) 356) ::
(nat_lit 134,hF 20 "refuse_many" @ct (.ref 133)) ::
(nat_lit 140,hD "numbering" 358 62 2 135 (hR 137) (hR 138) (hR 139) 367) ::
(nat_lit 141,hF 21 "numbering" @ct (.ref 140)) ::
(nat_lit 145,hD "renamed_row" 369 67 2 142 hN hN (hR 144) 373) ::
(nat_lit 146,hF 22 "renamed_row" @ct (.ref 145)) ::
(nat_lit 150,hD "renamed_rows" 375 69 2 147 hN hN (hR 149) 379) ::
(nat_lit 151,hF 23 "renamed_rows" @ct (.ref 150)) ::
(nat_lit 157,hD "ring_behind" 381 71 2 152 (hR 154) (hR 155) (hR 156) 390) ::
(nat_lit 158,hF 24 "ring_behind" @ct (.ref 157)) ::
(nat_lit 164,hD "tied" 392 76 4 159 (hR 161) (hR 162) (hR 163) 406) ::
(nat_lit 165,hF 25 "tied" @ct (.ref 164)) ::
(nat_lit 166,⟨(@aZ),none,(.dict #[⟨2,(.int 2 410),(.int (-1) 412)⟩,⟨(-2),(.int (-2) 414),(.int (-1) 416)⟩] 2),#[]⟩) ::
(nat_lit 172,hD "without_noughts" 420 88 1 167 (hR 169) (hR 170) (hR 171) 428) ::
(nat_lit 173,hF 28 "without_noughts" (.str "knotwise.polys" 408) (.ref 172)) ::
(nat_lit 179,hD "added" 430 94 2 174 (hR 176) (hR 177) (hR 178) 439) ::
(nat_lit 180,hF 29 "added" (.str "knotwise.polys" 408) (.ref 179)) ::
(nat_lit 186,hD "times" 441 99 2 181 (hR 183) (hR 184) (hR 185) 453) ::
(nat_lit 187,hF 30 "times" (.str "knotwise.polys" 408) (.ref 186)) ::
(nat_lit 193,hD "shifted" 455 106 3 188 (hR 190) (hR 191) (hR 192) 465) ::
(nat_lit 194,hF 31 "shifted" (.str "knotwise.polys" 408) (.ref 193)) ::
(nat_lit 200,hD "raised" 467 111 2 195 (hR 197) (hR 198) (hR 199) 475) ::
(nat_lit 201,hF 32 "raised" (.str "knotwise.polys" 408) (.ref 200)) ::
(nat_lit 207,hD "joints" 483 119 2 202 (hR 204) (hR 205) (hR 206) 489) ::
(nat_lit 208,hF 36 "joints" @cH (.ref 207)) ::
(nat_lit 214,hD "power_at" 491 123 2 209 (hR 211) (hR 212) (hR 213) 497) ::
(nat_lit 215,hF 37 "power_at" @cH (.ref 214)) ::
(nat_lit 219,hD "plan_of" 499 125 1 216 hN hN (hR 218) 503) ::
(nat_lit 220,hF 38 "plan_of" @cH (.ref 219)) ::
(nat_lit 224,hD "whole_plan" 505 127 1 221 hN hN (hR 223) 509) ::
(nat_lit 225,hF 39 "whole_plan" @cH (.ref 224)) ::
(nat_lit 231,hD "far_ends" 511 130 1 226 (hR 228) (hR 229) (hR 230) 519) ::
(nat_lit 232,hF 40 "far_ends" @cH (.ref 231)) ::
(nat_lit 238,hD "joined_plan" 521 136 2 233 (hR 235) (hR 236) (hR 237) 533) ::
(nat_lit 239,hF 41 "joined_plan" @cH (.ref 238)) ::
(nat_lit 245,hD "opened_at" 535 148 3 240 (hR 242) (hR 243) (hR 244) 549) ::
(nat_lit 246,hF 42 "opened_at" @cH (.ref 245)) ::
(nat_lit 250,hD "opened" 551 160 2 247 hN hN (hR 249) 555) ::
(nat_lit 251,hF 43 "opened" @cH (.ref 250)) ::
(nat_lit 257,hD "bracket" 557 167 1 252 (hR 254) (hR 255) (hR 256) 562) ::
(nat_lit 258,hF 44 "bracket" @cH (.ref 257)) ::
(nat_lit 264,hD "_law_cell_at" 566 170 2 259 (hR 261) (hR 262) (hR 263) 572) ::
(nat_lit 265,hF 46 "_law_cell_at" @a7 (.ref 264)) ::
(nat_lit 271,hD "_law_whole" 574 174 1 266 (hR 268) (hR 269) (hR 270) 579) ::
(nat_lit 272,hF 47 "_law_whole" @a7 (.ref 271)) ::
(nat_lit 278,hD "_law_pick" 581 176 3 273 (hR 275) (hR 276) (hR 277) 588) ::
(nat_lit 279,hF 48 "_law_pick" @a7 (.ref 278)) ::
(nat_lit 285,hD "_law_poly" 590 178 1 280 (hR 282) (hR 283) (hR 284) 596) ::
(nat_lit 286,hF 49 "_law_poly" @a7 (.ref 285)) ::
(nat_lit 292,hD "_law_pared" 598 185 1 287 (hR 289) (hR 290) (hR 291) 605) ::
(nat_lit 293,hF 50 "_law_pared" @a7 (.ref 292)) ::
(nat_lit 299,hD "_law_product" 607 191 2 294 (hR 296) (hR 297) (hR 298) 616) ::
(nat_lit 300,hF 51 "_law_product" @a7 (.ref 299)) ::
(nat_lit 304,hD "_law_copy" 618 197 1 301 hN hN (hR 303) 622) ::
(nat_lit 305,hF 52 "_law_copy" @a7 (.ref 304)) ::
(nat_lit 311,hD "_law_free" 624 199 2 306 (hR 308) (hR 309) (hR 310) 630) ::
(nat_lit 312,hF 53 "_law_free" @a7 (.ref 311)) ::
(nat_lit 318,hD "_law_put" 632 203 4 313 (hR 315) (hR 316) (hR 317) 641) ::
(nat_lit 319,hF 54 "_law_put" @a7 (.ref 318)) ::
(nat_lit 325,hD "_law_digits" 643 208 2 320 (hR 322) (hR 323) (hR 324) 654) ::
(nat_lit 326,hF 55 "_law_digits" @a7 (.ref 325)) ::
(nat_lit 330,hD "_law_drawing" 656 219 3 327 hN hN (hR 329) 660) ::
(nat_lit 331,hF 56 "_law_drawing" @a7 (.ref 330)) ::
(nat_lit 337,hD "_law_names" 662 229 1 332 (hR 334) (hR 335) (hR 336) 670) ::
(nat_lit 338,hF 57 "_law_names" @a7 (.ref 337)) ::
(nat_lit 344,hD "_law_spots" 672 236 1 339 (hR 341) (hR 342) (hR 343) 680) ::
(nat_lit 345,hF 58 "_law_spots" @a7 (.ref 344)) ::
(nat_lit 351,hD "_law_seated" 682 244 1 346 (hR 348) (hR 349) (hR 350) 689) ::
(nat_lit 352,hF 59 "_law_seated" @a7 (.ref 351)) ::
(nat_lit 358,hD "_law_rows" 691 252 2 353 (hR 355) (hR 356) (hR 357) 700) ::
(nat_lit 359,hF 60 "_law_rows" @a7 (.ref 358)) ::
(nat_lit 363,hD "_law_numbered" 702 261 2 360 hN hN (hR 362) 706) ::
(nat_lit 364,hF 61 "_law_numbered" @a7 (.ref 363)) ::
(nat_lit 370,hD "_law_refused" 708 269 4 365 (hR 367) (hR 368) (hR 369) 718) ::
(nat_lit 371,hF 62 "_law_refused" @a7 (.ref 370)) ::
(nat_lit 377,hD "_law_found" 720 276 2 372 (hR 374) (hR 375) (hR 376) 728) ::
(nat_lit 378,hF 63 "_law_found" @a7 (.ref 377)) ::
(nat_lit 382,hD "_law_due" 730 284 4 379 hN hN (hR 381) 734) ::
(nat_lit 383,hF 64 "_law_due" @a7 (.ref 382)) ::
(nat_lit 389,hD "_law_balanced" 736 295 3 384 (hR 386) (hR 387) (hR 388) 743) ::
(nat_lit 390,hF 65 "_law_balanced" @a7 (.ref 389)) ::
(nat_lit 396,hD "_law_no_spot" 745 297 2 391 (hR 393) (hR 394) (hR 395) 752) ::
(nat_lit 397,hF 66 "_law_no_spot" @a7 (.ref 396)) ::
(nat_lit 403,hD "law" 754 304 1 398 (hR 400) (hR 401) (hR 402) 774) ::
(nat_lit 404,hF 67 "law" @a7 (.ref 403))::[]
noncomputable def hA:@aG:=[2,3,15,22,23,24,25,28,35,36,37,40,47,48,49,52,59,60,61,69,70,76,77,81,82,86,87,93,94,98,99,105,106,112,113,119,120,126,127,133,134,140,141,145,146,150,151,157,158,164,165,166,172,173,179,180,186,187,193,194,200,201,207,208,214,215,219,220,224,225,231,232,238,239,245,246,250,251,257,258,264,265,271,272,278,279,285,286,292,293,299,300,304,305,311,312,318,319,325,326,330,331,337,338,344,345,351,352,358,359,363,364,370,371,377,378,382,383,389,390,396,397,403,404]
noncomputable abbrev hG(st:Stmt)(n q:Str)(g b:Addr):Obj:=⟨.none,none,.func ⟨n,q,jD st,.stmts (fN st),cy st,g,[],.none,.none,.none,.none,none,.none,.none,b⟩,#[]⟩
noncomputable def cE:Env:={scope:=PySem.Challenge.rw_knotwise_k64_whole_tied.row.prog.main.scope,locals:=mainNs,globals:=mainNs,cells:=[],code:=(.ref 13),frame:=some 14}
noncomputable def cB:List Stmt:=behindTheImports PySem.Challenge.rw_knotwise_k64_whole_tied.row.prog
def cC:Code:=.body cB cE
noncomputable def cQ:Pos:=⟨0,0,0,0⟩
noncomputable def cr0(P:qb)(t:List Obj):List Obj:=boot_o_4 P ::
boot_o_5 P ::
boot_o_6 P ::
boot_o_7 P ::
boot_o_8 P ::
boot_o_9 P ::
boot_o_10 P ::
o0::t
noncomputable def cr1 (P:qb) (t:List Obj):List Obj:=hC "<module>" 182 [hI 1,hI 0,hI 0,hI 0,hI 0,hR 11,(.bool .false),hI 181,hR 12,hN,hN,hN,hN,hI 185,hI 1,hS 186] ::
⟨(.type "frame"),none,.plain,#[(some (.ref 13)),(some (.ref 3)),(some (.ref 3)),none,(some (.str "__main__" 164)),none,(some (.ref 0))]⟩::t
noncomputable def cL0(P:qb):List Obj:=boot_o_0 P ::
boot_o_1 P ::
boot_o_2 P ::
boot_o_3 P ::
cr0 P (⟨.none,none,(.fields #[]),#[]⟩ ::
cr1 P ([]))
noncomputable def cS0(w:World)(os:oW):uv:=⟨K2.bt (cL0 w.params),15,{},oO [],lY,187,os⟩
noncomputable def cL1(P:qb):List Obj:=boot_o_0 P ::
boot_o_1 P ::
boot_o_2 P ::
boot_o_3 P ::
cr0 P (⟨.none,none,(.fields #[]),#[]⟩ ::
cr1 P ([]))
noncomputable def cS1(w:World)(os:oW):uv:=⟨K2.bt (cL1 w.params),15,{},oO [],lY,187,os⟩
noncomputable def cL2(P:qb):List Obj:=boot_o_0 P ::
boot_o_1 P ::
boot_o_2 P ::
⟨(@aZ),none,(.dict #[hE P "__name__" 165 @ct,hE P "__doc__" 166 .none,hE P "__package__" 167 .none,hE P "__loader__" 168 (.builtin "__main__.__loader__#opaque"),hE P "__spec__" 169 .none,hE P "__annotations__" 170 (.ref 6),hE P "__builtins__" 171 (.ref 4),hE P "__file__" 173 (.str "/claim/cut.py" 172),hE P "__cached__" 174 .none,hE P "KnotError" 206 (.ref 24),hE P "NoName" 222 (.ref 37),hE P "NoSpot" 238 (.ref 49),hE P "TooMany" 254 (.ref 61),hE P "MOST_STRINGS" 258 (.int 3 257),hE P "MOST_CROSSINGS" 260 (.int 12 259),hE P "passings_of" 269 (.ref 70),hE P "seated" 277 (.ref 77),hE P "seated_rows" 283 (.ref 82),hE P "names_of" 289 (.ref 87),hE P "hand_of" 298 (.ref 94),hE P "spots_on" 304 (.ref 99),hE P "next_of" 315 (.ref 106),hE P "string_of" 325 (.ref 113),hE P "with_put" 339 (.ref 120),hE P "renamed_spot" 347 (.ref 127),hE P "refuse_many" 357 (.ref 134),hE P "numbering" 368 (.ref 141),hE P "renamed_row" 374 (.ref 146),hE P "renamed_rows" 380 (.ref 151)] 29),#[]⟩ ::
cr0 P (⟨.none,none,(.fields #[(.int 2 0),(@aU),(.ref 20),(.int 4 0),(@aU),(.ref 33),(.int 6 0),(@aU),(.ref 45),(.int 8 0),(@aU),(.ref 57),(.int 13 0),(@aU),(.ref 69),(.int 18 0),(@aU),(.ref 76),(.int 23 0),(@aU),(.ref 81),(.int 25 0),(@aU),(.ref 86),(.int 27 0),(@aU),(.ref 93),(.int 32 0),(@aU),(.ref 98),(.int 36 0),(@aU),(.ref 105),(.int 42 0),(@aU),(.ref 112),(.int 48 0),(@aU),(.ref 119),(.int 54 0),(@aU),(.ref 126),(.int 59 0),(@aU),(.ref 133),(.int 62 0),(@aU),(.ref 140),(.int 67 0),(@aU),(.ref 145),(.int 69 0),(@aU),(.ref 150)]),#[]⟩ ::
cr1 P (⟨(@aj),none,(.seq #[(@cL)] 0),#[]⟩ ::
o11 ::
⟨(@aZ),none,(.dict #[hE P "__module__" 196 @co,hE P "__qualname__" 198 (.str "KnotError" 197),hE P "__firstlineno__" 200 (.int 2 199),hE P "__static_attributes__" 201 (.ref 22)] 4),#[]⟩ ::
o0 ::
HD ::
hC "KnotError" 191 [hI 2,hI 0,hI 0,hI 0,hI 0,hR 18,(.bool .false),hI 181,hR 19,hN,hN,hN,hN,hI 194,hI 2,hS 195] ::
⟨(.type "frame"),none,.plain,#[(some (.ref 20)),(some (.ref 3)),(some (.ref 17)),none,(some @co),none,(some (.ref 0))]⟩ ::
o0 ::
o1 P ::
o2 ::
o3 ::
⟨(.type "super"),none,(.fields #[(.ref 24),(.ref 24),(.ref 24)]),#[]⟩ ::
⟨(@c7),none,(.fields #[(.builtin "object.__init_subclass__"),(.ref 24)]),#[]⟩ ::
o4 ::
o11 ::
⟨(@aZ),none,(.dict #[hE P "__module__" 214 @co,hE P "__qualname__" 216 (.str "NoName" 215),hE P "__firstlineno__" 218 (.int 4 217),hE P "__static_attributes__" 219 (.ref 35)] 4),#[]⟩ ::
o0 ::
HD ::
hC "NoName" 209 [hI 4,hI 0,hI 0,hI 0,hI 0,hR 31,(.bool .false),hI 181,hR 32,hN,hN,hN,hN,hI 212,hI 4,hS 213] ::
⟨(.type "frame"),none,.plain,#[(some (.ref 33)),(some (.ref 3)),(some (.ref 30)),none,(some @co),none,(some (.ref 0))]⟩ ::
o0 ::
o5 P ::
o6 ::
⟨(.type "super"),none,(.fields #[(.ref 37),(.ref 37),(.ref 37)]),#[]⟩ ::
⟨(@c7),none,(.fields #[(.builtin "object.__init_subclass__"),(.ref 37)]),#[]⟩ ::
o4 ::
o11 ::
⟨(@aZ),none,(.dict #[hE P "__module__" 230 @co,hE P "__qualname__" 232 (.str "NoSpot" 231),hE P "__firstlineno__" 234 (.int 6 233),hE P "__static_attributes__" 235 (.ref 47)] 4),#[]⟩ ::
o0 ::
HD ::
hC "NoSpot" 225 [hI 6,hI 0,hI 0,hI 0,hI 0,hR 43,(.bool .false),hI 181,hR 44,hN,hN,hN,hN,hI 228,hI 6,hS 229] ::
⟨(.type "frame"),none,.plain,#[(some (.ref 45)),(some (.ref 3)),(some (.ref 42)),none,(some @co),none,(some (.ref 0))]⟩ ::
o0 ::
o7 P ::
o8 ::
⟨(.type "super"),none,(.fields #[(.ref 49),(.ref 49),(.ref 49)]),#[]⟩ ::
⟨(@c7),none,(.fields #[(.builtin "object.__init_subclass__"),(.ref 49)]),#[]⟩ ::
o4 ::
o11 ::
⟨(@aZ),none,(.dict #[hE P "__module__" 246 @co,hE P "__qualname__" 248 (.str "TooMany" 247),hE P "__firstlineno__" 250 (.int 8 249),hE P "__static_attributes__" 251 (.ref 59)] 4),#[]⟩ ::
o0 ::
HD ::
hC "TooMany" 241 [hI 8,hI 0,hI 0,hI 0,hI 0,hR 55,(.bool .false),hI 181,hR 56,hN,hN,hN,hN,hI 244,hI 8,hS 245] ::
⟨(.type "frame"),none,.plain,#[(some (.ref 57)),(some (.ref 3)),(some (.ref 54)),none,(some @co),none,(some (.ref 0))]⟩ ::
o0 ::
o9 P ::
o10 ::
⟨(.type "super"),none,(.fields #[(.ref 61),(.ref 61),(.ref 61)]),#[]⟩ ::
⟨(@c7),none,(.fields #[(.builtin "object.__init_subclass__"),(.ref 61)]),#[]⟩ ::
o0 ::
HD ::
⟨(@aj),none,(.seq #[(.str "rows" 264),(.str "passings" 265),(.str "row" 266)] 0),#[]⟩ ::
o0 ::
hG (top 8) "passings_of" "passings_of" 0 0 ::
hD "passings_of" 261 13 1 64 (hR 66) (hR 67) (hR 68) 268 ::
hF 8 "passings_of" @bN (.ref 69) ::
o0 ::
HD ::
⟨(@aj),none,(.seq #[(.str "row" 273),(.str "start" 274)] 0),#[]⟩ ::
o0 ::
hG (top 9) "seated" "seated" 0 0 ::
hD "seated" 270 18 1 71 (hR 73) (hR 74) (hR 75) 276 ::
hF 9 "seated" @bN (.ref 76) ::
o0 ::
HD ::
hG (top 10) "seated_rows" "seated_rows" 0 0 ::
hD "seated_rows" 278 23 1 78 hN hN (hR 80) 282 ::
hF 10 "seated_rows" @bN (.ref 81) ::
o0 ::
HD ::
hG (top 11) "names_of" "names_of" 0 0 ::
hD "names_of" 284 25 1 83 hN hN (hR 85) 288 ::
hF 11 "names_of" @bN (.ref 86) ::
o0 ::
HD ::
⟨(@aj),none,(.seq #[(.str "drawing" 293),(.str "name" 294),(.str "passing" 295)] 0),#[]⟩ ::
o0 ::
hG (top 12) "hand_of" "hand_of" 0 0 ::
hD "hand_of" 290 27 2 88 (hR 90) (hR 91) (hR 92) 297 ::
hF 12 "hand_of" @bN (.ref 93) ::
o0 ::
HD ::
hG (top 13) "spots_on" "spots_on" 0 0 ::
hD "spots_on" 299 32 2 95 hN hN (hR 97) 303 ::
hF 13 "spots_on" @bN (.ref 98) ::
o0 ::
HD ::
⟨(@aj),none,(.seq #[(.str "drawing" 308),(.str "behind" 309),(.str "row" 310),(.str "passing" 311),(.str "follower" 312)] 0),#[]⟩ ::
o0 ::
hG (top 14) "next_of" "next_of" 0 0 ::
hD "next_of" 305 36 1 100 (hR 102) (hR 103) (hR 104) 314 ::
hF 14 "next_of" @bN (.ref 105) ::
o0 ::
HD ::
⟨(@aj),none,(.seq #[(.str "drawing" 319),(.str "spot" 320),(.str "string" 321),(.str "row" 322)] 0),#[]⟩ ::
o0 ::
hG (top 15) "string_of" "string_of" 0 0 ::
hD "string_of" 316 42 2 107 (hR 109) (hR 110) (hR 111) 324 ::
hF 15 "string_of" @bN (.ref 112) ::
o0 ::
HD ::
⟨(@aj),none,(.seq #[(.str "drawing" 331),(.str "spot" 332),(.str "passings" 333),(.str "string" 334),(.str "rows" 335),(.str "place" 336)] 0),#[]⟩ ::
o0 ::
hG (top 17) "with_put" "with_put" 0 0 ::
hD "with_put" 328 48 3 114 (hR 116) (hR 117) (hR 118) 338 ::
hF 17 "with_put" (.str "knotwise.moves" 326) (.ref 119) ::
o0 ::
HD ::
⟨(@aj),none,(.seq #[(.str "spot" 343),(.str "names" 344)] 0),#[]⟩ ::
o0 ::
hG (top 18) "renamed_spot" "renamed_spot" 0 0 ::
hD "renamed_spot" 340 54 2 121 (hR 123) (hR 124) (hR 125) 346 ::
hF 18 "renamed_spot" (.str "knotwise.moves" 326) (.ref 126) ::
o0 ::
HD ::
⟨(@aj),none,(.seq #[(.str "strings" 353),(.str "crossings" 354)] 0),#[]⟩ ::
o0 ::
hG (top 20) "refuse_many" "refuse_many" 0 0 ::
hD "refuse_many" 350 59 2 128 (hR 130) (hR 131) (hR 132) 356 ::
hF 20 "refuse_many" @ct (.ref 133) ::
o0 ::
HD ::
⟨(@aj),none,(.seq #[(.str "drawing" 361),(.str "start" 362),(.str "numbers" 363),(.str "number" 364),(.str "name" 365)] 0),#[]⟩ ::
o0 ::
hG (top 21) "numbering" "numbering" 0 0 ::
hD "numbering" 358 62 2 135 (hR 137) (hR 138) (hR 139) 367 ::
hF 21 "numbering" @ct (.ref 140) ::
o0 ::
HD ::
hG (top 22) "renamed_row" "renamed_row" 0 0 ::
hD "renamed_row" 369 67 2 142 hN hN (hR 144) 373 ::
hF 22 "renamed_row" @ct (.ref 145) ::
o0 ::
HD ::
hG (top 23) "renamed_rows" "renamed_rows" 0 0 ::
hD "renamed_rows" 375 69 2 147 hN hN (hR 149) 379 ::
hF 23 "renamed_rows" @ct (.ref 150) ::
[]))
noncomputable def cS2(w:World)(os:oW):uv:=⟨K2.bt (cL2 w.params),152,{},oO [],lY,381,os⟩
noncomputable def hL:@v:=["LOOP"]
noncomputable abbrev Y2(w)(os):=K2.xT lD PySem.Challenge.rw_knotwise_k64_whole_tied.row.prog w 11 (some (.ref 6)) 1295 (cS2 w os) (restOf (cB.drop 24) cE cC ⟨69,0,70,55⟩ [wx cQ])
abbrev Uj(w:World):Prop:=∀os:oW,(Y2 w os).map (λs=>(@c9).2.1)=some (QH hQ hL)
theorem adq (w:World):Uj (w.withFollow "special-get-raises" false):=λos=>@br
theorem adp (w:World):Uj (w.withFollow "special-get-raises" true):=λos=>@br
theorem agq (w):Uj w:=byRow2 "special-get-raises" adq adp w
abbrev Uk(w:World):Prop:=∀os:oW,(Y2 w os).map (λs=>((@c9).1,(@c9).2.2))=some (true,(hK w.params).map λp=>@a3)
theorem adt (w:World):Uk (w.withFollow "special-get-raises" false):=λos=>@br
theorem ads (w:World):Uk (w.withFollow "special-get-raises" true):=λos=>@br
theorem agr (w):Uk w:=byRow2 "special-get-raises" adt ads w
theorem h_z (P):((ik P).isNs bR,(ik P).objs.size,(ik P).nsMap bR "__annotations__")=(true,11,(some (.ref 6))):=@br
theorem adm(w)(os):K2.goB lD PySem.Challenge.rw_knotwise_k64_whole_tied.row.prog w 11 (some (.ref 6)) 12 (K2.UY w.params os) (topStub PySem.Challenge.rw_knotwise_k64_whole_tied.row.prog)=some (cS0 w os,⟨denote lD cC,cC,⟨0,0,0,0⟩,[wx cQ]⟩):=@br
theorem adu(w)(os):segRunT lD PySem.Challenge.rw_knotwise_k64_whole_tied.row.prog w 11 (some (.ref 6)) 1 1 (cS0 w os) (blockOf cB cE cC ⟨0,0,0,0⟩ [wx cQ])=some (.next,cS1 w os,cC,⟨0,0,0,0⟩):=@br
abbrev Ui(w:World):Prop:=∀os:oW,segRunT lD PySem.Challenge.rw_knotwise_k64_whole_tied.row.prog w 11 (some (.ref 6)) 1 1294 (cS1 w os) (piecesOf (cB.take 24) cE cC ⟨0,0,0,0⟩ [wx cQ])=some (.next,cS2 w os,cC,⟨69,0,70,55⟩)
theorem ado (w:World):Ui (w.withFollow "special-get-raises" false):=λos=>@br
theorem adn (w:World):Ui (w.withFollow "special-get-raises" true):=λos=>@br
theorem agp (w):Ui w:=byRow2 "special-get-raises" ado adn w
theorem aaU(w)(os):(topFrom lD (PySem.Challenge.rw_knotwise_k64_whole_tied).row.prog w (12+(1+(1294+1295))) ⟨ik w.params,oO [],lY,xK,os⟩).map (λs=>(openSeen hQ hL (oV (PySem.Challenge.rw_knotwise_k64_whole_tied).row.prog.main.body) (K2.Rg PySem.Challenge.rw_knotwise_k64_whole_tied hQ) true s,hA.map s.heap.get?))=some (QH hQ hL,(hK w.params).map λp=>@a3) :=
 K2.V6 (Yf:=λs=>hA.map s.heap.get?) (Ya:=λw=>(hK w.params).map λp=>@a3) (h_z w.params) (K2.Ti (agr w os) (agq w os)) λ_ k=>K2.Qm (adm w os) (adu w os) <| K2.UK 24 (agp w os) <| k
theorem aaT:(PySem.Challenge.rw_knotwise_k64_whole_tied).wellSaid=true:=@br
theorem aaS:K2.M4 PySem.Challenge.rw_knotwise_k64_whole_tied hQ=true:=@br
end
end Fin
namespace L2
open PySem PySem.Spec PyProof.Rows
abbrev Key:=Sum Int Str
noncomputable def E8:Key->Value->Bool
 |.inl k,v=>v8 k v
 |.inr x,v=>Value.isStrOf x v
noncomputable def afG(w:World):Key->Int
 |.inl k=>hashInt k
 |.inr x=>hashStr w x
theorem fJ:∀{k:Key} {v:Value},E8 k v=true->(∃i t,k=zE i/\v=fZ i t)\/(∃x t,k=KS x/\v=Value.str x t)
 |.inl i,v,h=>by
  obtain⟨t,e⟩:=Value.isInt_shape (k:=i) (v:=v) h;exact .inl ⟨i,t,rfl,e⟩
 |.inr x,v,h=>by
  obtain⟨t,e⟩:=Value.isStrOf_shape (x:=x) (v:=v) h;exact .inr ⟨x,t,rfl,e⟩
theorem PR(i)(t):E8 (.inl i) (.int i t)=true:=by simp[E8,v8]
theorem PQ(x)(t):E8 (.inr x) (.str x t)=true:=by simp[E8,Value.isStrOf]
theorem Tt(a b):decide ((zE a:Key)=zE b)=(a == b):=by
 by_cases e:a=b
 .subst e;simp
 .have h:¬ (zE a:Key)=zE b:=λq=>e (Sum.inl.inj q);rw[decide_eq_false h];exact(beq_eq_false_iff_ne.mpr e).symm
theorem Ts(a b):decide ((KS a:Key)=KS b)=decide (a=b):=by
 by_cases e:a=b
 .subst e;simp
 .have h:¬ (KS a:Key)=KS b:=λq=>e (Sum.inr.inj q);rw[decide_eq_false h,decide_eq_false e]
theorem aay(a)(b):decide ((zE a:Key)=KS b)=false:=decide_eq_false (λq=>nomatch q)
theorem aax(a)(b):decide ((KS a:Key)=zE b)=false:=decide_eq_false (λq=>nomatch q)
def c7(prog)(w):PySem.KeyKind prog w Key where
 is:=E8
 hash:=afG w
 inj:=λv a b ha hb=>by
  rcases fJ ha with ⟨i,t,rfl,rfl⟩ |⟨x,t,rfl,rfl⟩
  .rcases fJ hb with ⟨j,u,rfl,e⟩ |⟨y,u,rfl,e⟩
   .injection e with e1 _;rw[e1]
   .exact nomatch e
  .rcases fJ hb with ⟨j,u,rfl,e⟩ |⟨y,u,rfl,e⟩
   .exact nomatch e
   .injection e with e1 _;rw[e1]
 byValue:=λk v h=>by
  rcases fJ h with ⟨i,t,rfl,rfl⟩ |⟨x,t,rfl,rfl⟩<;>rfl
 pyHash:=λhv h=>by
  rcases fJ hv with ⟨i,t,rfl,rfl⟩ |⟨x,t,rfl,rfl⟩
  .exact wpAny_pyHash_int h
  .exact wpAny_pyHash_str h
 eqBool:=λhu hv h=>by
  rcases fJ hu with ⟨i,t,rfl,rfl⟩ |⟨x,t,rfl,rfl⟩
  .rcases fJ hv with ⟨j,u,rfl,rfl⟩ |⟨y,u,rfl,rfl⟩
   .rw[Tt] at h;exact wpAny_eqBool_int h
   .rw[aay] at h;exact SeqAt.EqAt.int_str i t y u _ _ _ _ h
  .rcases fJ hv with ⟨j,u,rfl,rfl⟩ |⟨y,u,rfl,rfl⟩
   .rw[aax] at h;exact SeqAt.EqAt.str_int x t j u _ _ _ _ h
   .rw[Ts] at h;exact wpAny_eqBool_str h
 «strs»:=λk x t v h=>by
  rcases fJ h with ⟨i,u,rfl,e⟩ |⟨y,u,rfl,e⟩
  .exact nomatch e
  .injection e with e1 _
   subst e1;cases v<;>rfl
theorem IY(prog)(w)(i)(t):(c7 prog w).is (.inl i) (.int i t)=true:=PR i t
theorem IX(prog)(w)(x)(t):(c7 prog w).is (.inr x) (.str x t)=true:=PQ x t
inductive V where
 |fe |bl (b:Bool) |int (i:Int) |str (x:Str) |byt (b:Array UInt8) |flt (b:UInt64) |ref (a:Addr) |ty (n:String)
def RelV:V->Value->Prop
 |.fe,u=>u=ic
 |.bl b,u=>u=Value.bool b
 |.int i,u=>∃t,u=fZ i t
 |.str x,u=>∃t,u=Value.str x t
 |.byt b,u=>∃t,u=Value.bytes b t
 |.flt b,u=>∃t,u=Value.float b t
 |.ref a,u=>u=fu a
 |.ty n,u=>u=MP n
abbrev Vals:@y->@C->Prop:=ma RelV
theorem Vals.length(r:Vals xs us):xs.length=us.length:=jA r
theorem Vals.get:∀{xs:@y} {us:@C} {i:Nat} {x:V},Vals xs us->xs[i]?=@aa->∃u,us[i]?=@L/\RelV x u:=by
 intro xs us i x h;induction h generalizing i with
 |nil=>intro e;cases e
 |cons r t ih=>
  intro e;cases i with
  |zero=>cases e;exact⟨_,rfl,r⟩
  |succ i=>exact ih e
theorem Vals.set(r:RelV x u):∀{xs:@y} {us:@C} (i:Nat),Vals xs us->Vals (xs.set i x) (us.set i u):=by
 intro xs us i h;induction h generalizing i with
 |nil=>rw[FQ,FQ];ext d
 |cons q t ih=>
  cases i with
  |zero=>exact .cons r t
  |succ i=>exact .cons q (ih i)
theorem Vals.append:∀{xs ys:@y} {us ws:@C},Vals xs us->Vals ys ws->Vals (xs++ys) (us++ws):=by
 intro xs ys us ws h s;induction h with
 |nil=>exact s
 |cons r t ih=>exact .cons r ih
theorem Vals.take:∀{xs:@y} {us:@C} (n:Nat),Vals xs us->Vals (xs.take n) (us.take n):=by
 intro xs us n h;induction h generalizing n with
 |nil=>rw[qQ,qQ];ext d
 |cons r t ih=>
  cases n with
  |zero=>ext d
  |succ n=>exact .cons r (ih n)
theorem Vals.drop:∀{xs:@y} {us:@C} (n:Nat),Vals xs us->Vals (xs.drop n) (us.drop n):=by
 intro xs us n h;induction h generalizing n with
 |nil=>rw[qR,qR];ext d
 |cons r t ih=>
  cases n with
  |zero=>exact .cons r t
  |succ n=>exact ih n
def AA:Option V->@b9->Prop
 |some v,some u=>@a4
 |none,none=>True
 |_,_=>False
def KV:List (κ×V)->List (κ×Value)->Prop:=ma λ(p:κ×V) (q:κ×Value)=>p.1=q.1/\RelV p.2 q.2
noncomputable def kV:Key->V
 |.inl i=>@w
 |.inr x=>.str x
inductive HO where
 |lst (xs:@y)
 |tup (xs:@y)
 |dK (kvs:@aO) |dT (kvs:@bA)
 |set (S:Int->Bool) (n:Nat)
 |ins (C dx:Addr) (fs:List (Str×V))
 |own (x:Addr)
 |xd (fs:List (Str×V))
 |met (f x:Addr)
 |rng (lo hi:Int)
 |ji (o:Obj) (u:HO)
 |V8 (q:Str)
 |ext (φ:Heap->Prop)
abbrev Hp:=Addr->Option HO
noncomputable def upd(H:Hp)(a:Addr)(o:HO):Hp:=λb=>if b=a then @i else H b
theorem bV:upd H a o a=@i:=by unfold upd;rw[if_pos rfl]
theorem bH(h:b≠a):upd H a o b=H b:=by unfold upd;rw[if_neg h]
theorem YG{H:Hp}{a b:Addr}{o u:HO}(h:H a=@i)(h':H b=@L)(d:o≠u):a≠b:=by
 intro e;subst e;rw[h] at h';exact d (aZ h')
theorem eY{H:Hp}{a b:Addr}{o:HO}(h:H a=@i)(h':H b=none):a≠b:=by
 intro e;subst e;rw[h] at h';cases h'
section
variable (P:bz) (w:World)
def fY(H:Hp)(h:Heap)(a:Addr):HO->Prop
 |.lst xs=>xs.length<=ba/\∃(bQ:@C) (n:Nat),Vals xs bQ/\@aJ=some {cls:=@ad,data:=.seq bQ.toArray n}
 |.tup xs=>xs.length<=ba/\∃bQ:@C,Vals xs bQ/\IsTup h a bQ.toArray
 |.dK kvs=>kvs.length<=ba/\@bQ/\∃vs,KV kvs vs/\h.DictOf (c7 P w) a vs
 | .dT kvs=>kvs.length<=ba/\@bQ/\∃xs:List (@bb×@bn),
   ma (λ(p:@bb×V) (q:@bb×@bn)=>p.1=q.1/\H q.2.1=some (.tup (p.1.map kV))/\RelV p.2 q.2.2) kvs xs /\
   ∃o es ep,@aJ=@i/\o.ExactDict/\o.data=.dict es ep/\es.toList=xs.map (entryOfKey (jJ (c7 P w)))/\(xs.map @n).Nodup
 |.set S n=>h.SetOf (KP P w) a S n
 | .ins C dx fs=>H dx=some (.own a)/\fs.length<=1000/\dx≠a/\@aJ=some (PySem.W.instObj C dx) /\
   ∃mA,h.Ns1 dx mA/\(∀f,AA (fs.lookup f) (mA f))/\PySem.Within mA (fs.map @n)
 |.own _=>∃o,@aJ=@i
 |.xd fs=>∃mA,h.Ns1 a mA/\∀f,AA (fs.lookup f) (mA f)
 |.rng lo hi=>∃t u v,@aJ=some {cls:=.type "range",data:=.fields #[.int lo t,.int hi u,.int 1 v]}
 |.ji o u=>@aJ=@i/\fY H h a u
 |.V8 q=>∃ps,@aJ=some {cls:=.none,data:=.fields ps}/\TriplesOk ps.toList/\∀pos cv,codeAmong pos ps.toList=some cv->∃c',cv=.ref c'/\H c'=some (.own a)/\h.CodeRec (.ref c') q
 |.met f x=>@aJ=some (Cd (.ref f) (.ref x))
 |.ext φ=>φ h/\(∃o,@aJ=@i)/\∀h1 h2:Heap,φ h1->(∀o,h1.get? a=@i->h2.get? a=@i)->φ h2
def pZ(H:Hp)(h:Heap):Prop:=∀a o,H a=@i->fY P w H h a o
end
section
variable {P:bz} {w:World} {H H':Hp} {h h':Heap} {a:Addr} {o:HO}
theorem fY.lt(x:fY P w H h a o):a<h.objs.size:=by
 cases o with
 |lst xs=>obtain⟨_,_,_,_,e⟩:=x;exact aQ e
 |tup xs=>obtain⟨_,_,_,p⟩:=x;exact p.lt
 |dK kvs=>obtain⟨_,_,_,_,o,_,_,e,_⟩:=x;exact aQ e
 |dT kvs=>obtain⟨_,_,_,_,o,_,_,e,_⟩:=x;exact aQ e
 |set S n=>obtain⟨o,_,_,_,e,_⟩:=x;exact aQ e
 |ins C dx fs=>obtain⟨_,_,_,e,_⟩:=x;exact aQ e
 |own y=>obtain⟨_,e⟩:=x;exact aQ e
 |xd fs=>obtain⟨_,⟨_,_,_,e,_⟩,_⟩:=x;exact aQ e
 |rng lo hi=>obtain⟨_,_,_,e⟩:=x;exact aQ e
 |ji ob u=>obtain⟨e,_⟩:=x;exact aQ e
 |V8 q=>obtain⟨_,e,_⟩:=x;exact aQ e
 |met f y=>exact aQ (show @aJ=some _ from x)
 |ext φ=>obtain⟨_,⟨_,e⟩,_⟩:=x;exact aQ e
theorem Paired.Xr:∀{l₁:@o} {l₂:List β},ma F l₁ l₂->(∀a b,F a b->G a b)->ma G l₁ l₂:=by
 intro l₁ l₂ h f;induction h with
 |nil=>ext d
 |cons r t ih=>exact .cons (f _ _ r) ih
theorem fY.jN(x:fY P w H h a o)(k:∀b u,(b=a\/H b=some (.own a))->h.get? b=@L->h'.get? b=@L)
  (ho:∀b,H b=some (.own a)->H' b=some (.own a)) (ht:∀b xs,H b=some (.tup xs)->H' b=some (.tup xs)):fY P w H' h' a o:=by
 induction o with
 |lst xs=>obtain⟨z,bQ,n,r,e⟩:=x;exact⟨z,bQ,n,r,k _ _ (@ac) e⟩
 |tup xs=>obtain⟨z,bQ,r,ob,e,c⟩:=x;exact⟨z,bQ,r,ob,k _ _ (@ac) e,c⟩
 |dK kvs=>obtain⟨z,y,vs,r,ob,es,ep,e,c⟩:=x;exact⟨z,y,vs,r,ob,es,ep,k _ _ (@ac) e,c⟩
 |dT kvs=>
  obtain⟨z,y,xs,r,ob,es,ep,e,c⟩:=x;exact⟨z,y,xs,Paired.Xr r λp q z=>⟨z.1,ht _ _ z.2.1,z.2.2⟩,ob,es,ep,k _ _ (@ac) e,c⟩
 |set S n=>obtain⟨ob,es,ep,t,e,c⟩:=x;exact⟨ob,es,ep,t,k _ _ (@ac) e,c⟩
 |ins C dx fs=>
  obtain⟨d,z,ne,e,mA,⟨od,es,ep,e2,c⟩,r⟩:=x;exact⟨ho _ d,z,ne,k _ _ (@ac) e,mA,⟨od,es,ep,k _ _ (.inr d) e2,c⟩,r⟩
 |own y=>obtain⟨ob,e⟩:=x;exact⟨ob,k _ _ (@ac) e⟩
 |xd fs=>obtain⟨mA,⟨od,es,ep,e,c⟩,r⟩:=x;exact⟨mA,⟨od,es,ep,k _ _ (@ac) e,c⟩,r⟩
 |rng lo hi=>obtain⟨t,u,v,e⟩:=x;exact⟨t,u,v,k _ _ (@ac) e⟩
 |ji ob u ih=>obtain⟨e,q⟩:=x;exact⟨k _ _ (@ac) e,ih q⟩
 |V8 q=>
  obtain⟨ps,e,t,z⟩:=x;refine⟨ps,k _ _ (@ac) e,t,λpos cv y=>?_⟩;obtain⟨c',e1,e2,c2,oc,vs,tq,e3,e4,r⟩:=z pos cv y;cases e3;exact⟨c',e1,ho _ e2,c',oc,vs,tq,rfl,k _ _ (.inr e2) e4,r⟩
 |met f y=>
  have e:@aJ=some (Cd (.ref f) (.ref y)):=x;show h'.get? a=some (Cd (.ref f) (.ref y));exact k a _ (@ac) e
 |ext φ=>obtain⟨p,⟨o,e⟩,st⟩:=x;exact⟨st _ _ p λo q=>k _ _ (@ac) q,⟨o,k _ _ (@ac) e⟩,st⟩
theorem pZ.lt(x:@bc)(e:H a=@i):a<h.objs.size:=(x a o e).lt
theorem pZ.fresh(x:@bc)(e:h.objs.size<=a):H a=none:=by
 cases q:H a with
 |none=>rfl
 |some u=>exact absurd (bC (x.lt q) e) (jK _)
theorem pZ.kept(x:@bc)(k:∀b u,h.get? b=@L->h'.get? b=@L):pZ P w H h':=λa o e=>
 (x a o e).jN (λb u _ q=>k b u q) (λ_ q=>q) λ_ _ q=>q
theorem pZ.laid(x:@bc)(k:∀b u,h.get? b=@L->h'.get? b=@L)(hp:h.objs.size<=a)(new:fY P w (upd H a o) h' a o):pZ P w (upd H a o) h':=λb u e=>by
 have hn:=x.fresh hp;by_cases hb:b=a
 .subst hb;rw[bV] at e;cases e;exact new
 .rw[bH hb] at e;exact(x b u e).jN (λc v _ q=>k c v q) (λc q=>by rw[bH (eY q hn)];exact q) λc xs q=>by rw[bH (eY q hn)];exact q
end
def Rd(H:Hp)(a:Addr)(u:HO):Prop:=H a=@L\/∃o,H a=@bx
theorem Rd.ok(r:Rd H a u)(x:@bc):fY P w H h a u:=by
 rcases r with r |⟨o,r⟩
 .exact x a u r
 .obtain⟨_,q⟩:=x a _ r;exact q
def Mut:Option HO->Prop
 |some (.lst _)=>True
 |some (.dK _)=>True
 |some (.dT _)=>True
 |some (.set _ _)=>True
 |some (.ins _ _ _)=>True
 |some (.ext _)=>True
 |_=>False
section
variable {P:bz} {w:World} {H:Hp} {h h':Heap} {x e:Addr} {o':HO}
theorem pZ.write(ok:@bc)(mu:Mut (H x))(he:e=x\/H e=some (.own x))(k:∀b u,b≠e->h.get? b=@L->h'.get? b=@L)(heo:∃u,h'.get? e=@L)
  (new:fY P w (upd H x o') h' x o'):pZ P w (upd H x o') h':=λb u q=>by
 have acp:∀c y,H c=some (.own y)->c≠x:=λc y r z=>by subst z;rw[r] at mu;exact mu
 have afi:∀c xs,H c=some (.tup xs)->c≠x:=λc xs r z=>by subst z;rw[r] at mu;exact mu
 by_cases hb:b=x
 .subst hb;rw[bV] at q;cases q;exact new
 .rw[bH hb] at q;by_cases hbe:b=e
  .have q':H b=some (.own x):=by
    rcases he with z |z
    .exact absurd (hbe.trans z) hb
    .rw[hbe];exact z
   rw[q] at q';cases q';obtain⟨v,hv⟩:=heo;exact⟨v,by rw[hbe];exact hv⟩
  .refine(ok b u q).jN (λc v hc r=>k c v ?_ r) (λc r=>by rw[bH (acp c b r)];exact r) λc xs r=>by rw[bH (afi c xs r)];exact r
   rcases hc with rfl |hc
   .exact hbe
   .rintro rfl;rcases he with z |z
    .exact acp c b hc z
    .rw[hc] at z;cases z;exact hb rfl
end
structure Un(fs ex:@aG)(H H':Hp)(h h':Heap):Prop where
 keep:∀b o,@bJ->H b=none->b∉fs->b∉ex->@bm
 slot:∀b o,@bJ->H b=none->b∈fs->b∉ex->∃sl,h'.get? b=some {o with slots:=sl}
 free:∀b o,@bJ->H b=none->b∉ex->H' b=none
 there:∀b o,@bJ->b∉ex->∃o',h'.get? b=some o'
 t8:∀b xs,H b=some (.tup xs)->H' b=some (.tup xs)
 sQ:∀b o u,H b=@bx->H' b=@bx
 wd:∀b q,H b=some (.V8 q)->H' b=some (.V8 q)
 we:∀b x,H b=some (.own x)->H' b=some (.own x)
section
variable {fs fs' ex ex':@aG} {H H1 H2:Hp} {h h1 h2 h':Heap} {a x e:Addr} {o:HO}
theorem Un.any(u:Un fs ex H H1 h h1)(q:h.get? b=some ob)(n:H b=none)(hx:b∉ex):∃sl,h1.get? b=some {ob with slots:=sl}:=by
 by_cases hb:b∈fs
 .exact u.slot b ob q n hb hx
 .exact⟨ob.slots,u.keep b ob q n hb hx⟩
theorem Un.kept(k:∀b u,h.get? b=@L->h'.get? b=@L):Un fs ex H H h h' :=
 ⟨λb ob q _ _ _=>k b ob q,λb ob q _ _ _=>⟨ob.slots,k b ob q⟩,λ_ _ _ n _=>n,λb ob q _=>⟨ob,k b ob q⟩,λ_ _ q=>q,λ_ _ _ q=>q,λ_ _ q=>q,λ_ _ q=>q⟩
theorem Un.refl:Un fs ex H H h h:=Un.kept λ_ _ q=>q
theorem Un.laid(k:∀b u,h.get? b=@L->h'.get? b=@L)(hp:h.objs.size<=a)(hn:H a=none):Un fs ex H (upd H a o) h h' where
 keep:=λb u q _ _ _=>k b u q
 slot:=λb u q _ _ _=>⟨u.slots,k b u q⟩
 free:=λb u q n _=>by rw[bH (bu (bC (aQ q) hp))];exact n
 there:=λb u q _=>⟨u,k b u q⟩
 t8:=λb xs q=>by rw[bH (eY q hn)];exact q
 sQ:=λb u xs q=>by rw[bH (eY q hn)];exact q
 wd:=λb ps q=>by rw[bH (eY q hn)];exact q
 we:=λb ps q=>by rw[bH (eY q hn)];exact q
theorem Un.write(mu:Mut (H x))(he:e=x\/H e=some (.own x))(k:∀b u,b≠e->h.get? b=@L->h'.get? b=@L)(heo:∃u,h'.get? e=@L):Un fs ex H (upd H x o) h h':=by
 have hx:∀b,H b=none->b≠x:=λb n z=>by subst z;rw[n] at mu;exact mu
 have hb:∀b,H b=none->b≠e:=λb n z=>by
  subst z;rcases he with r |r
  .exact hx b n r
  .rw[n] at r;cases r
 have hm:∀b u,H b=@L->¬ Mut (@L)->b≠x:=λb u q nm z=>by subst z;rw[q] at mu;exact nm mu
 refine⟨λb u q n _ _=>k b u (hb b n) q,λb u q n _ _=>⟨u.slots,k b u (hb b n) q⟩,λb u q n _=>by rw[bH (hx b n)];exact n,λb u q _=>?_,
  λb xs q=>by rw[bH (hm b _ q λz=>z)];exact q,λb u xs q=>by rw[bH (hm b _ q λz=>z)];exact q,λb ps q=>by rw[bH (hm b _ q λz=>z)];exact q,λb ps q=>by rw[bH (hm b _ q λz=>z)];exact q⟩
 by_cases hbe:b=e
 .subst hbe;exact heo
 .exact⟨u,k b u hbe q⟩
end
noncomputable def trk(h:Heap)(H:Hp):@aG:=(fG h.objs.size).filter λa=>(H a).isSome
def GA(h:Heap)(H:Hp):Heap:=PySem.W.hideAll h (trk h H)
theorem P8(h)(H):(GA h H).objs.size=h.objs.size:=PySem.W.hideAll_size _ _
theorem Ub{h:Heap}{H:Hp}{b:Addr}{o:Obj}(e:@bJ)(n:H b=none):(GA h H).get? b=@i :=
 Q9 _ e λhm=>by
  have q:(H b).isSome=true:=(List.mem_filter.mp hm).2;rw[n] at q;simp at q
theorem Xl(e:(GA h H).get? b=@i):@bJ/\H b=none:=by
 have e':@bJ:=Vl (trk h H) e;refine⟨e',?_⟩;cases q:H b with
 |none=>rfl
 |some x=>
  have hm:b∈trk h H:=List.mem_filter.mpr ⟨List.mem_range.mpr (aQ e'),by simp[q]⟩;have z:(GA h H).get? b=none:=PySem.W.hideAll_none (trk h H) hm;rw[z] at e;cases e
noncomputable def v5(g h:Heap)(L:Addr):@s:=(fG h.objs.size).filterMap λa=>if a=L\/(g.get? a).isSome=true then none else(@aJ).map λo=>(a,o)
theorem AW(h1:a≠L)(h2:g.get? a=none)(h3:@aJ=@i):(a,o)∈v5 g h L :=
 List.mem_filterMap.mpr ⟨a,List.mem_range.mpr (aQ h3),by simp[h1,h2,h3]⟩
theorem CQ(hp:p∈v5 g h L):p.1≠L/\g.get? p.1=none/\h.get? p.1=@a3:=by
 obtain⟨b,_,e⟩:=List.mem_filterMap.mp hp;split at e
 .cases e
 .rename_i hn;cases q:h.get? b with
  |none=>rw[q] at e;simp at e
  |some u=>
   rw[q] at e;simp only[xD,OJ] at e;subst e;refine⟨λz=>hn (.inl z),?_,q⟩;show g.get? b=none;cases r:g.get? b with
   |none=>rfl
   |some v=>exact(hn (.inr (by simp[r]))).elim
def rest(g h:Heap)(L d:Addr):@s:=(v5 g h L).filter λp=>decide (p.1≠d)
theorem IW:News g L h (v5 g h L):=λp hp=>let ⟨a,b,c⟩:=CQ hp;⟨c,a,b⟩
structure Mod(K:aw)(mg:@aV)(base:Heap):Prop where
 Xx:K.In base
 glob:base.Ns bR mg
 blt:∃mb,base.Ns builtinsNs mb/\∀x:Str,x≠"__name__"->mb x=eM x
 nolimit:base.NoLimit
structure Cx where
 prog:bz
 w:World
 K:aw
 mg:@aV
 base:Heap
 A:cZ
 N:@v
 jM:aB
 QB:Hp
 env:Env
 outer:@bj
 stack:@bj
 ex:@aG
 fn:Str->Bool
 calm:Bool
 pn:@s
 xe:@I
noncomputable def wm(l:@bj):@aG:=l.filterMap (·.frame)
abbrev Cx.fs(X:Cx):@aG:=wm X.outer
def Vis(sc:Scope)(x:Str):Prop:=@cb=@a1\/@cb=@aY\/@cb=some .free
def Loc(sc:Scope)(x:Str):Prop:=@cb=@a1\/@cb=@aY
def Look(env:Env)(h:Heap)(m:@aV)(x:Str)(u:Value):Prop :=
 (env.kindOf x=@a1/\m x=@L)\/((env.kindOf x=@aY\/env.kindOf x=some .free)/\∃c,env.cells.lookup x=some c/\h.IsCell c (@L))
structure Cx.Ok(X:Cx):Prop where
 mod:Mod X.K X.mg X.base
 kind:X.env.scope.kind=.function
 glob:X.env.globals=bR
 blt:X.env.builtins=builtinsNs
 above:X.jM.heap.objs.size<=X.env.locals
 inj:∀x y c,@bO->X.env.cells.lookup y=some c->x=y
 has:∀x,(X.env.kindOf x=@aY\/X.env.kindOf x=some .free)->∃c,@bO
 cab:∀x c,X.fn x=true->@bO->X.jM.heap.objs.size<=c
 hd:@bv->X.A.handled=none
 frames:X.A.frames=some X.stack
 stk:X.stack=X.outer\/(X.stack=X.env::X.outer/\X.env.frame=some X.env.locals)
 exf:∀b∈X.ex,@bY/\∀x c,@bO->c≠b
 bs:∀b o,X.base.get? b=@i->@cB=@i/\X.QB b=none
 UW:X.base.objs.size<=X.jM.heap.objs.size
 LF:∀b o,X.base.get? b=@i->b∉X.ex
 Qh:∀b∈X.ex,b∉X.fs
 Ag:X.jM.heap.FunFrames X.base X.outer
 VG:∀b∈X.fs,X.QB b=none
structure Inv(X:Cx)(pins:@s)(σ:List (Option V))(H:Hp)(s:aB):Prop where
 ok:X.Ok
 os:s.os=X.jM.os
 bare:Ci s.gens
 base:Un X.fs X.ex X.QB H X.jM.heap s.heap
 loc:∃m,s.heap.Ns X.env.locals m/\∀(i:Nat) (x:Str) (v:V),X.N[i]?=@aa->σ[i]?=some (@W)->Vis X.env.scope x->∃u,@a4/\Look X.env s.heap m x u
 cell:∀x c,@bO->∃v,s.heap.IsCell c v
 free:H X.env.locals=none
 jX:∀x c,@bO->H c=none
 pin:∀p∈X.pn++pins,s.heap.get? p.1=@a3/\H p.1=none/\p.1≠X.env.locals/\p.1∉X.fs/\∀v,p.2.data≠.cell v
 cx:pZ X.prog X.w H s.heap
 len:σ.length=X.N.length
section
variable {X:Cx} {pins:@s} {σ:List (Option V)} {H H':Hp} {s:aB} {h':Heap}
theorem Cx.Ok.afk(ok:X.Ok)(e:X.base.get? b=@i):b∉X.fs:=λhb=>by
 have:=(ok.Ag.mem hb).1;rw[e] at this;ext f
theorem Inv.bs(I:@k):∀b o,X.base.get? b=@i->@am=@i/\H b=none:=λb o e=>
 ⟨I.base.keep b o (I.ok.bs b o e).1 (I.ok.bs b o e).2 (I.ok.afk e) (I.ok.LF b o e),I.base.free b o (I.ok.bs b o e).1 (I.ok.bs b o e).2 (I.ok.LF b o e)⟩
theorem Inv.bk(I:@k):∀b o,X.base.get? b=@i->@am=@i:=λb o e=>(I.bs b o e).1
theorem Inv.mod(I:@k):Mod X.K X.mg X.base:=I.ok.mod
theorem Inv.BU(I:@k):X.K.In s.heap:=I.ok.mod.Xx.keeps I.bk
theorem Inv.fr(I:@k):∃m,Fr X.base X.env.locals s.heap m :=
 let ⟨m,hn,_⟩:=I.loc
 ⟨m,hn,I.bk,aU I.ok.UW I.ok.above⟩
theorem Inv.lt(I:@k):X.env.locals<s.heap.objs.size:=let ⟨_,hn,_⟩:=I.loc;hn.lt
theorem Inv.sz(I:@k):X.jM.heap.objs.size<=s.heap.objs.size:=aU I.ok.above (VO I.lt)
theorem Inv.afj(I:@k)(h:s.heap.objs.size<=a):a∉X.fs:=λhb=>by
 obtain⟨_,o,ho,_⟩:=I.ok.Ag.mem hb;exact absurd (bC (aQ ho) (aU I.sz h)) (jK _)
theorem Inv.X0(I:@k):∀x c,@bO->c≠X.env.locals:=λx c e z=>by
 obtain⟨v,o,ho,hd⟩:=I.cell x c e;obtain⟨m,⟨o',es,ep,HF,Eb,_⟩,_⟩:=I.loc;rw[z,HF] at ho;cases ho;rw[Eb] at hd;cases hd
theorem Inv.Ag(I:@k):s.heap.FunFrames X.base X.outer:=by
 have all:∀(l:@bj),(∀b∈wm l,b∈X.fs)->X.jM.heap.FunFrames X.base l->s.heap.FunFrames X.base l:=by
  intro l;induction l with
  |nil=>intro _ _;trivial
  |cons env r ih=>
   intro hs hl;obtain⟨hk,⟨L,o,hf,hn,ho,hd⟩,hr⟩:=hl;have hL:L∈X.fs:=hs L (by unfold wm;rw[BG,hf];exact br);obtain⟨sl,e⟩:=I.base.slot L o ho (I.ok.VG L hL) hL λz=>I.ok.Qh L z hL;exact⟨hk,⟨L,_,hf,hn,e,hd⟩,ih (λb hb=>hs b (by unfold wm;rw[BG,hf];exact aI _ hb)) hr⟩
 exact all X.outer (λ_ hb=>hb) I.ok.Ag
theorem Inv.stack(I:@k):s.heap.FunFrames X.base X.stack:=by
 rcases I.ok.stk with e |⟨e,hf⟩
 .rw[e];exact I.Ag
 .rw[e];obtain⟨m,hn,_⟩:=I.loc;refine .cons (by rw[I.ok.kind];decide) hf hn ?_ I.Ag;exact VU (aU I.ok.UW I.ok.above)
theorem Inv.Lf(I:@k):∀b∈@bU,b∈X.env.locals::X.fs:=λb hb=>by
 rcases I.ok.stk with e |⟨e,hf⟩
 .rw[e] at hb;exact aI _ hb
 .rw[e] at hb;unfold wm at hb;rw[BG,hf] at hb;exact hb
theorem Inv.F3(I:@k):∀b∈@bU,H b=none:=λb hb=>by
 rcases List.mem_cons.mp (I.Lf b hb) with e |hb
 .rw[e];exact I.free
 .obtain⟨_,o,ho,_⟩:=I.ok.Ag.mem hb;exact I.base.free b o ho (I.ok.VG b hb) λz=>I.ok.Qh b z hb
theorem Inv.step{ch:@aG}(I:@k)
  (VF:∀b∈ch,(b∈X.ex\/X.jM.heap.objs.size<=b)/\@bY/\(∀x c,@bO->c≠b)/\∀p∈X.pn++pins,p.1≠b)
  (keep:∀b o,@bY->b∉X.fs->b∉ch->@am=@i->H b=none->@bm)
  (slot:∀b o,@bY->b∈X.fs->b∉ch->@am=@i->H b=none->∃sl,h'.get? b=some {o with slots:=sl}) (free:∀b o,b∉ch->@am=@i->H b=none->H' b=none)
  (there:∀b o,b∉ch->@am=@i->∃o',h'.get? b=some o')
  (t8:∀b xs,H b=some (.tup xs)->H' b=some (.tup xs)) (sQ:∀b o u,H b=@bx->H' b=@bx) (wd:∀b q,H b=some (.V8 q)->H' b=some (.V8 q)) (we:∀b x,H b=some (.own x)->H' b=some (.own x))
  (ns:∀m,s.heap.Ns X.env.locals m->h'.Ns X.env.locals m) (cx:pZ X.prog X.w H' h') (hg:Ci g'):
  Inv X pins σ H' {s with heap:=h',gens:=g',drawn:=d',toks:=t'}:=by
 have neL:∀b o,@cB=@i->@bY:=λb o e=>bu (bC (aQ e) I.ok.above);have neC:∀b o,@cB=@i->b∉X.ex->b∉ch:=λb o e hx hb=>by
  rcases(VF b hb).1 with z |z
  .exact hx z
  .exact absurd (bC (aQ e) z) (jK _)
 have cellK:∀x c,@bO->∀v,s.heap.IsCell c v->h'.IsCell c v:=λx c e v ⟨o,ho,hd⟩=>by
  have nch:c∉ch:=λz=>(VF c z).2.2.1 x c e rfl;by_cases hc:c∈X.fs
  .obtain⟨sl,q⟩:=slot c o (I.X0 x c e) hc nch ho (I.jX x c e);exact⟨_,q,hd⟩
  .exact⟨o,keep c o (I.X0 x c e) hc nch ho (I.jX x c e),hd⟩
 refine⟨I.ok,I.os,hg,⟨λb o e n hb hx=>?_,λb o e n hb hx=>?_,λb o e n hx=>?_,λb o e hx=>?_,λb xs e=>t8 b xs (I.base.t8 b xs e),λb o xs e=>sQ b o xs (I.base.sQ b o xs e),λb ps e=>?_,λb x e=>we b x (I.base.we b x e)⟩,?_,λx c e=>?_,?_,λx c e=>?_,λp hp=>?_,cx,I.len⟩
 .exact keep b o (neL b o e) hb (neC b o e hx) (I.base.keep b o e n hb hx) (I.base.free b o e n hx)
 .obtain⟨sl,e1⟩:=I.base.slot b o e n hb hx;obtain⟨sl',e2⟩:=slot b _ (neL b o e) hb (neC b o e hx) e1 (I.base.free b o e n hx);exact⟨sl',e2⟩
 .obtain⟨o',e1⟩:=I.base.there b o e hx;exact free b o' (neC b o e hx) e1 (I.base.free b o e n hx)
 .obtain⟨o',e1⟩:=I.base.there b o e hx;exact there b o' (neC b o e hx) e1
 .exact wd b _ (I.base.wd b ps e)
 .obtain⟨m,hn,hl⟩:=I.loc;refine⟨m,ns m hn,λi x v e1 e2 e3=>?_⟩;obtain⟨u,r,l⟩:=hl i x v e1 e2 e3;refine⟨u,r,?_⟩;rcases l with l |⟨k,c,e,z⟩
  .exact .inl l
  .exact .inr ⟨k,c,e,cellK x c e _ z⟩
 .obtain⟨v,z⟩:=I.cell x c e;exact⟨v,cellK x c e v z⟩
 .obtain⟨m,⟨o,_,_,ho,_⟩,_⟩:=I.loc;exact free _ o (λz=>(VF _ z).2.1 rfl) ho I.free
 .obtain⟨v,o,ho,hd⟩:=I.cell x c e;exact free c o (λz=>(VF c z).2.2.1 x c e rfl) ho (I.jX x c e)
 .obtain⟨e,n,ne,nf,d⟩:=I.pin p hp;have nch:p.1∉ch:=λz=>(VF p.1 z).2.2.2 p hp rfl;exact⟨keep p.1 p.2 ne nf nch e n,free p.1 p.2 nch e n,ne,nf,d⟩
theorem Inv.un(I:@k)(u:Un X.fs [] H H' s.heap h')(cx:pZ X.prog X.w H' h'):Inv X pins σ H' {s with heap:=h',toks:=t'}:=by
 obtain⟨m,⟨o,es,ep,ho,r⟩,_⟩:=id I.loc;obtain⟨sl,hL⟩:=u.any ho I.free @f;exact I.step (g':=s.gens) (d':=s.drawn) (ch:=[]) (λ_ z=>nomatch z) (λb o _ hb _ e n=>u.keep b o e n hb @f) (λb o _ hb _ e n=>u.slot b o e n hb @f) (λb o _ e n=>u.free b o e n @f) (λb o _ e=>u.there b o e @f) u.t8 u.sQ u.wd u.we (λm' hm=>by
  obtain⟨o',es',ep',HF,r'⟩:=hm;rw[ho] at HF;cases HF;exact⟨_,es',ep',hL,r'⟩) cx I.bare
theorem Inv.call(I:@k)(u:Un (@bU) ch H H' s.heap h')(cx:pZ X.prog X.w H' h')(hg:Ci g')
  (VF:∀b∈ch,(b∈X.ex\/X.jM.heap.objs.size<=b)/\@bY/\(∀x c,@bO->c≠b)/\∀p∈X.pn++pins,p.1≠b):
  Inv X pins σ H' {s with heap:=h',gens:=g',drawn:=d',toks:=t'}:=by
 obtain⟨m,⟨o,es,ep,ho,r⟩,_⟩:=id I.loc;obtain⟨sl,hL⟩:=u.any ho I.free λz=>(VF _ z).2.1 rfl;exact I.step (ch:=ch) VF (λb o hL hb hc e n=>u.keep b o e n (λz=>(List.mem_cons.mp (I.Lf b z)).elim hL hb) hc) (λb o _ _ hc e n=>u.any e n hc) (λb o hc e n=>u.free b o e n hc) (λb o hc e=>u.there b o e hc) u.t8 u.sQ u.wd u.we (λm' hm=>by
  obtain⟨o',es',ep',HF,r'⟩:=hm;rw[ho] at HF;cases HF;exact⟨_,es',ep',hL,r'⟩) cx hg
theorem Inv.turned(I:@k)(k:∀b o,b≠it->@am=@i->@bm)(hn:H it=none)(hL:it≠X.env.locals)
  (h1:it∈X.ex\/X.jM.heap.objs.size<=it) (h2:∀x c,@bO->c≠it) (h3:∀p∈X.pn++pins,p.1≠it):Inv X pins σ H {s with heap:=h',toks:=t'}:=by
 have nit:∀b u,H b=@L->b≠it:=λb u e z=>by rw[z,hn] at e;cases e
 refine I.step (g':=s.gens) (d':=s.drawn) (ch:=[it]) (λb hb=>?_) (λb o _ _ hc e _=>k b o (λz=>hc (by simp[z])) e) (λb o _ _ hc e _=>⟨o.slots,k b o (λz=>hc (by simp[z])) e⟩) (λ_ _ _ _ n=>n)
  (λb o hc e=>⟨o,k b o (λz=>hc (by simp[z])) e⟩) (λ_ _ e=>e) (λ_ _ _ e=>e) (λ_ _ e=>e) (λ_ _ e=>e) (λm hm=>?_) (λb u e=>?_) I.bare
 .have e:b=it:=@bP
  subst e;exact⟨h1,hL,h2,h3⟩
 .obtain⟨o,es,ep,ho,r⟩:=hm;exact⟨o,es,ep,k _ o (cO hL) ho,r⟩
 .refine(I.cx b u e).jN (λc v hc q=>k c v ?_ q) (λ_ q=>q) λ_ _ q=>q;rcases hc with z |z
  .rw[z];exact nit b u e
  .exact nit c _ z
theorem Inv.tok(I:@k)(t):Inv X pins σ H {s with toks:=t}:=I.un (h':=s.heap) (t':=t) Un.refl I.cx
theorem Inv.kept(I:@k)(k:∀b u,@am=@L->h'.get? b=@L):Inv X pins σ H {s with heap:=h',toks:=t'}:=I.un (Un.kept k) (I.cx.kept k)
theorem Inv.laid(I:@k)(k:∀b u,@am=@L->h'.get? b=@L)(hp:s.heap.objs.size<=a)(new:fY X.prog X.w (upd H a o) h' a o):
  Inv X pins σ (upd H a o) {s with heap:=h',toks:=t'}:=I.un (Un.laid k hp (I.cx.fresh hp)) (I.cx.laid k hp new)
theorem Inv.write(I:@k)(mu:Mut (H x))(he:e=x\/H e=some (.own x))(k:∀b u,b≠e->@am=@L->h'.get? b=@L)(heo:∃u,h'.get? e=@L)
  (new:fY X.prog X.w (upd H x o) h' x o):Inv X pins σ (upd H x o) {s with heap:=h',toks:=t'}:=I.un (Un.write mu he k heo) (I.cx.write mu he k heo new)
theorem Inv.Nq(I:@k)(h:∀p∈Yz,s.heap.get? p.1=@a3/\H p.1=none/\p.1≠X.env.locals/\p.1∉X.fs/\∀v,p.2.data≠.cell v):Inv X Yz σ H s :=
 ⟨I.ok,I.os,I.bare,I.base,I.loc,I.cell,I.free,I.jX,λp hp=>(@c3).elim (λz=>I.pin p (fT _ z)) (h p),I.cx,I.len⟩
theorem CU{N:@v}(hN:N.Nodup){j:Nat}(a:N[i]?=@aa)(b:N[j]?=@aa):i=j:=by
 obtain⟨h1,e1⟩:=List.getElem?_eq_some_iff.mp a;obtain⟨h2,e2⟩:=List.getElem?_eq_some_iff.mp b;exact(List.getElem_inj hN).mp (e1.trans e2.symm)
theorem zM{M:Model}{A:cZ}{E:@I}{i:Nat}{x:Str}{v:V}{u:Value}{Q:Unit->@af}(I:@k)(hN:X.N.Nodup)(hi:X.N[i]?=@aa)(hx:Loc X.env.scope x)(r:@a4)
  (h:∀s',Inv X pins (σ.set i (@W)) H s'->(∃a,gN a s.heap s'.heap/\(a=X.env.locals\/X.env.cells.lookup x=some a))->Q () s') (hf:autoParam (X.fn x=true\/@cC=@a1) Ao._auto_1):wpAny M A (storeName X.env x u) Q E s:=by
 obtain⟨m,hn,hl⟩:=id I.loc;have Ud:(X.env.scope.kind == .class||(X.env.scope.kind == .module&&X.env.locals != X.env.globals))=false:=by rw[I.ok.kind];rfl
 have ac5:i<σ.length:=by rw[I.len];exact(@c4).1
 have X0:=I.X0;have tracked:∀{a:Addr} {h':Heap},(∃o,s.heap.get? a=@i/\H a=none)->gN a s.heap h'->pZ X.prog X.w H h':=λ{a h'} ha hs b ob e=>by
  obtain⟨_,_,tN⟩:=ha;refine(I.cx b ob e).jN (λc w' hc q=>(hs.2 c ?_).trans q) (λ_ q=>q) λ_ _ q=>q;ext c;rcases hc with rfl |hc
  .rw[tN] at e;cases e
  .rw[tN] at hc;cases hc
 rcases hx with hk |hk
 .refine wpAny_storeName_local hk hn (λh' YV hs=>?_) Ud;obtain⟨oL,_,_,hoL,_⟩:=id hn;refine h _ ⟨I.ok,I.os,I.bare,⟨λb o e n hb hx=>?_,λb o e n hb hx=>?_,I.base.free,λb o e hx=>?_,I.base.t8,I.base.sQ,I.base.wd,I.base.we⟩,⟨_,YV,λj y v' e1 e2 e3=>?_⟩,λy c e=>?_,I.free,I.jX,λp hp=>?_,tracked ⟨oL,hoL,I.free⟩ hs,by simpa using I.len⟩ ⟨_,hs,@ac⟩
  .exact(hs.2 b (bu (bC (aQ e) I.ok.above))).trans (I.base.keep b o e n hb hx)
  .obtain⟨sl,e1⟩:=I.base.slot b o e n hb hx;exact⟨sl,(hs.2 b (bu (bC (aQ e) I.ok.above))).trans e1⟩
  .obtain⟨o',e1⟩:=I.base.there b o e hx;exact⟨o',(hs.2 b (bu (bC (aQ e) I.ok.above))).trans e1⟩
  .by_cases hj:j=i
   .subst hj;rw[hi] at e1;cases e1;rw[dj ac5] at e2;cases e2;exact⟨u,r,.inl ⟨hk,@K⟩⟩
   .rw[du (cO hj)] at e2;obtain⟨u',r',q⟩:=hl j y v' e1 e2 e3;refine⟨u',r',?_⟩;rcases q with ⟨k,e⟩ |⟨k,c,e,z⟩
    .refine .inl ⟨k,?_⟩;have:y≠x:=λe=>hj (CU hN e1 (e ▸ hi));simp[this,e]
    .exact .inr ⟨k,c,e,z.sameBut hs (X0 y c e)⟩
  .obtain⟨w',z⟩:=I.cell y c e;exact⟨w',z.sameBut hs (X0 y c e)⟩
  .obtain⟨e,n,ne,nf,d⟩:=I.pin p hp;exact⟨(hs.2 p.1 ne).trans e,n,ne,nf,d⟩
 .have hfn:X.fn x=true:=by
   rcases hf with z |z
   .exact z
   .rw[z] at hk;cases hk
  obtain⟨c,hc⟩:=I.ok.has x (.inl hk);obtain⟨w',z⟩:=I.cell x c hc;refine wpAny_storeName_cell I.ok.kind hk hc z (λh' QW hs=>?_);obtain⟨oc,hoc,af3⟩:=id z;refine h @as ⟨I.ok,I.os,I.bare,⟨λb o e n hb hx=>?_,λb o e n hb hx=>?_,I.base.free,λb o e hx=>?_,I.base.t8,I.base.sQ,I.base.wd,I.base.we⟩,⟨m,hn.sameBut hs (cO (X0 x c hc)),λj y v' e1 e2 e3=>?_⟩,λy c' e=>?_,I.free,I.jX,λp hp=>?_,tracked ⟨oc,hoc,I.jX x c hc⟩ hs,by simpa using I.len⟩ ⟨c,hs,.inr hc⟩
  .exact(hs.2 b (bu (bC (aQ e) (I.ok.cab x c hfn hc)))).trans (I.base.keep b o e n hb hx)
  .obtain⟨sl,e1⟩:=I.base.slot b o e n hb hx;exact⟨sl,(hs.2 b (bu (bC (aQ e) (I.ok.cab x c hfn hc)))).trans e1⟩
  .obtain⟨o',e1⟩:=I.base.there b o e hx;exact⟨o',(hs.2 b (bu (bC (aQ e) (I.ok.cab x c hfn hc)))).trans e1⟩
  .by_cases hj:j=i
   .subst hj;rw[hi] at e1;cases e1;rw[dj ac5] at e2;cases e2;exact⟨u,r,.inr ⟨.inl hk,c,hc,QW⟩⟩
   .rw[du (cO hj)] at e2;obtain⟨u',r',q⟩:=hl j y v' e1 e2 e3;refine⟨u',r',?_⟩;rcases q with q |⟨k,c',e,z'⟩
    .exact .inl q
    .refine .inr ⟨k,c',e,z'.sameBut hs ?_⟩;ext c;exact hj (CU hN e1 (I.ok.inj _ _ _ e hc ▸ hi))
  .by_cases hcc:c'=c
   .subst hcc;exact⟨_,QW⟩
   .obtain⟨w2,z2⟩:=I.cell y c' e;exact⟨w2,z2.sameBut hs hcc⟩
  .obtain⟨e,n,ne,nf,d⟩:=I.pin p hp;refine⟨(hs.2 p.1 ?_).trans e,n,ne,nf,d⟩;intro q;rw[q,hoc] at e;have q':oc=p.2:=aZ e;exact d w' (by rw[<-q'];exact af3)
theorem Ij{M:Model}{A:cZ}{E:@I}{i:Nat}{x:Str}{v:V}{u:Value}{Q:Unit->@af}(I:@k)(hN:X.N.Nodup)(hi:X.N[i]?=@aa)(hx:Loc X.env.scope x)(r:@a4)
  (h:∀s',Inv X pins (σ.set i (@W)) H s'->Q () s') (hf:autoParam (X.fn x=true\/@cC=@a1) Ao._auto_1):wpAny M A (storeName X.env x u) Q E s :=
 zM I hN hi hx r (λs' I' _=>h s' I') hf
theorem Inv.Zb(I:@k)(ho:s'.os=s.os)(u:Un (@bU) ch H H' s.heap s'.heap)(cx:pZ X.prog X.w H' s'.heap)(hg:Ci s'.gens)
  (VF:∀b∈ch,(b∈X.ex\/X.jM.heap.objs.size<=b)/\@bY/\(∀x c,@bO->c≠b)/\∀p∈X.pn++pins,p.1≠b):@ce:=by
 obtain⟨h',g',d',t',o'⟩:=s';have e:o'=s.os:=ho;subst e;exact I.call (g':=g') (t':=t') (d':=d') u cx hg VF
end
abbrev XK:=Value->Option Addr->Hp->Prop
abbrev St:=List (Option V)
abbrev VK:=V->Hp->Prop
abbrev TE:=St->Hp->VK->Prop
abbrev TT:=St->Hp->(Bool->Hp->Prop)->Prop
abbrev TA:=St->Hp->(@y->Hp->Prop)->Prop
structure Ends where
 nx:St->Hp->Prop
 rt:VK
 bk:St->Hp->Prop:=@z
 ct:St->Hp->Prop:=@z
abbrev TS:=Ends->St->Hp->Prop
def EP(X:Cx)(pins:@s)(σ:St)(Q:VK)(u:Value)(s':aB):Prop:=∃v H',@ce/\@a4/\Q v H'
def TP(X:Cx)(pins:@s)(σ:St)(Q:Bool->Hp->Prop)(b:Bool)(s':aB):Prop:=∃H',@ce/\Q b H'
def SP(X:Cx)(pins:@s)(D:Ends)(f:Flow)(s':aB):Prop :=
 match f with
 |.next=>∃kH H',Inv X pins kH H' s'/\D.nx kH H'
 |.brk=>∃kH H',Inv X pins kH H' s'/\D.bk kH H'
 |.cont=>∃kH H',Inv X pins kH H' s'/\D.ct kH H'
 |.ret u=>∃v kH H',Inv X pins kH H' s'/\@a4/\D.rt v H'
def PE(X:Cx)(e:Expr)(t:TE):Prop :=
 ∀(pins:@s) (s:aB) (σ:St) (H:Hp) (Q:VK),@k->t σ H Q->wpAny @l X.A (eval e X.env) (EP X pins σ Q) X.xe s
def PSs(X:Cx)(st:List Stmt)(t:TS):Prop :=
 ∀(pins:@s) (s:aB) (σ:St) (H:Hp) (D:Ends),@k->t D σ H->wpAny @l X.A (execs st X.env) (SP X pins D) X.xe s
theorem iM(h:wpAny M A t Q E s)(hQ:∀a s,Q a s->Q' a s):wpAny M A t Q' E s:=lW h hQ λ_ _ x=>x
section
variable {X:Cx}
def aeT(i:Nat):TE:=λσ H Q=>∃v,σ[i]?=some (@W)/\Q v H
def tC(v:V):TE:=λ_ H Q=>Q v H
theorem ZY    (hN:X.N[i]?=@aa) (hv:Vis X.env.scope x) (hd:@bh) (NU:autoParam ((x == ("__classdict__":Str))=false) Ad._auto_1):PE X (.Name x pos) (aeT i):=by
 intro pins s σ H Q I h;obtain⟨v,e,h⟩:=h;obtain⟨m,hn,hl⟩:=I.loc;obtain⟨u,r,l⟩:=hl i x v hN e hv;have fin:EP X pins σ Q u s:=⟨v,H,I,r,h⟩;rcases l with ⟨hk,hm⟩ |⟨hk,c,hc,tO⟩
 .exact wpAny_Name (wpAny_loadName_local I.ok.kind hk hn hm fin) hd
 .rcases hk with hk |hk
  .exact wpAny_Name (wpAny_loadName_cell I.ok.kind hk hc tO fin) hd
  .exact wpAny_Name (wpAny_loadName_free I.ok.kind hk hc tO fin NU) hd
theorem Z0{i j pos}:PE X (.Constant (@w) j pos) (tC (@w)):=λ_ _ _ H _ I h=>wpAny_Constant_int ⟨@w,H,@au,@A,h⟩
theorem ach{b j pos}:PE X (.Constant (.bool b) j pos) (tC (.bl b)):=λ_ _ _ H _ I h=>Constant_bool ⟨.bl b,H,I,rfl,h⟩
theorem ZZ{x j pos}:PE X (.Constant (.str x) j pos) (tC (.str x)):=λ_ _ _ H _ I h=>Calls.Constant_str ⟨.str x,H,@au,@A,h⟩
def Gl(X:Cx)(x:Str):Prop:=X.env.kindOf x=some .globalImplicit
theorem oB{E:@I}{pins:@s}{s:aB}{σ:St}{H:Hp}{x:Str}{u:Value}{pos:Pos}{Q:@I}(I:@k)(hg:Gl X x)(hm:X.mg x=@L)(h:Q u s)
  (hd:@bh):wpAny @l X.A (eval (.Name x pos) X.env) Q E s :=
 Kt I.ok.kind hg (Calls.loadGlobal_global (by rw[I.ok.glob];exact I.mod.glob.keeps I.bk) hm h) hd
theorem qK{E:@I}{pins:@s}{s:aB}{σ:St}{H:Hp}{x:Str}{u:Value}{pos:Pos}{Q:@I}(I:@k)(hg:Gl X x)(hm:X.mg x=none)(hv:eM x=@L)(h:Q u s)
  (hn:autoParam (x≠"__name__") Ad._auto_1) (hd:@bh):wpAny @l X.A (eval (.Name x pos) X.env) Q E s:=by
 obtain⟨mb,h1,h2⟩:=I.mod.blt;exact Kt I.ok.kind hg (Calls.loadGlobal_builtin (by rw[I.ok.glob];exact I.mod.glob.keeps I.bk) hm (by rw[I.ok.blt];exact h1.keeps I.bk) ((h2 x hn).trans hv) h) hd
theorem WM     (hg:Gl X x) (hm:X.mg x=@L) (r:@a4) (hd:@bh):PE X (.Name x pos) (tC v) :=
 λ_ _ _ H _ I h=>oB I hg hm ⟨v,H,I,r,h⟩ hd
variable {a b:Expr} {ta tb:TE} {pos:Pos}
def tB(t:TE):TT:=λσ H Q=>t σ H λx H1=>∃c,x=.bl c/\Q c H1
variable {tA tB':TT} {rest:@az}
end
def pO(K:aw)(H:Hp)(a:Addr)(xs:@y):Prop :=
 Rd H a @a9 \/
  ∃(o:Obj) (bQ:@cp) (n:Nat),K.lookup a=@i/\o.cls=@ad/\o.dict=none/\o.data=.seq bQ n/\bQ.size<=ba/\Vals xs bQ.toList
def B1(K:aw)(H:Hp)(a:Addr)(xs:@y):Prop :=
 Rd H a (.tup xs) \/
  ∃(o:Obj) (bQ:@cp) (n:Nat),K.lookup a=@i/\o.cls=@aj/\o.data=.seq bQ n/\bQ.size<=ba/\Vals xs bQ.toList
noncomputable def agU:Value->Option V
 |.none=>some .fe
 |.bool b=>some (.bl b)
 |.int i _=>some (@w)
 |.str x _=>some (.str x)
 |.bytes b _=>some (.byt b)
 |.float b _=>some (.flt b)
 |.ref a=>some @u
 |.type n=>some (.ty n)
 |_=>none
theorem RelV.abs(r:RelV x u):agU u=@aa:=by
 cases x with
 |fe=>cases r;rfl
 |bl _=>cases r;rfl
 |int _=>obtain⟨t,rfl⟩:=r;rfl
 |str _=>obtain⟨t,rfl⟩:=r;rfl
 |byt _=>obtain⟨t,rfl⟩:=r;rfl
 |flt _=>obtain⟨t,rfl⟩:=r;rfl
 |ref _=>cases r;rfl
 |ty _=>cases r;rfl
theorem RelV.inj(r:RelV x u)(q:RelV y u):x=y:=aZ (r.abs.symm.trans q.abs)
theorem Vals.inj:∀{xs ys:@y} {us:@C},Vals xs us->Vals ys us->xs=ys:=by
 intro xs ys us h;induction h generalizing ys with
 |nil=>intro k;cases k;rfl
 |cons r t ih=>
  intro k;cases k with
  |cons r' t'=>rw[r.inj r',ih t']
section
variable {X:Cx} {pins:@s} {σ:St} {H:Hp} {s:aB} {a:Addr} {xs ys:@y}
theorem pO.of{K:aw}(h:H a=some @a9):pO K H a xs:=.inl (.inl h)
theorem B1.of{K:aw}(h:H a=some (.tup xs)):B1 K H a xs:=.inl (.inl h)
theorem Inv.list(I:@k)(h:pO X.K H a xs):∃bQ:@C,Vals xs bQ/\PlainL s.heap a bQ.toArray/\xs.length<=ba:=by
 rcases h with h |⟨o,bQ,n,hk,hc,hd,hs,hz,r⟩
 .obtain⟨z,bQ,n,r,e⟩:=h.ok I.cx;exact⟨bQ,r,⟨_,n,e,rfl,rfl,rfl⟩,z⟩
 .refine⟨bQ.toList,r,⟨o,n,I.BU a o hk,hc,hd,by simpa using hs⟩,?_⟩;have e:=r.length;simp only[gu] at e;lia
theorem Inv.tuple(I:@k)(h:B1 X.K H a xs):∃bQ:@C,Vals xs bQ/\IsTup s.heap a bQ.toArray/\xs.length<=ba:=by
 rcases h with h |⟨o,bQ,n,hk,hc,hs,hz,r⟩
 .obtain⟨z,bQ,r,p⟩:=h.ok I.cx;exact⟨bQ,r,p,z⟩
 .refine⟨bQ.toList,r,⟨o,I.BU a o hk,hc,n,by simpa using hs⟩,?_⟩;have e:=r.length;simp only[gu] at e;lia
theorem Inv.u5(I:@k)(h:pO X.K H a xs)(h':pO X.K H a ys):xs=ys:=by
 obtain⟨bQ,r,⟨o,n,e,_,_,d⟩,_⟩:=I.list h;obtain⟨its',r',⟨o',n',e',_,_,d'⟩,_⟩:=I.list h';rw[e] at e';cases e';rw[d] at d';injection d' with d1 _
 have:bQ=its':=by simpa using congrArg Array.toList d1
 subst this;exact r.inj r'
theorem Inv.OQ(I:@k)(h:B1 X.K H a xs)(h':B1 X.K H a ys):xs=ys:=by
 obtain⟨bQ,r,⟨o,e,_,n,d⟩,_⟩:=I.tuple h;obtain⟨its',r',⟨o',e',_,n',d'⟩,_⟩:=I.tuple h';rw[e] at e';cases e';rw[d] at d';injection d' with d1 _
 have:bQ=its':=by simpa using congrArg Array.toList d1
 subst this;exact r.inj r'
end
noncomputable abbrev Cx.wY(X:Cx)(E:@I):Cx:={X with xe:=E}
abbrev Cx.nox(X:Cx):Cx:=X.wY @z
theorem Cx.Ok.wY{X:Cx}(ok:X.Ok)(E):(X.wY E).Ok :=
 ⟨ok.mod,ok.kind,ok.glob,ok.blt,ok.above,ok.inj,ok.has,ok.cab,ok.hd,ok.frames,ok.stk,ok.exf,ok.bs,ok.UW,ok.LF,ok.Qh,ok.Ag,ok.VG⟩
theorem Cx.Ok.se{X:Cx}(ok:(X.wY E).Ok):X.Ok :=
 ⟨ok.mod,ok.kind,ok.glob,ok.blt,ok.above,ok.inj,ok.has,ok.cab,ok.hd,ok.frames,ok.stk,ok.exf,ok.bs,ok.UW,ok.LF,ok.Qh,ok.Ag,ok.VG⟩
section
variable {X:Cx} {pins:@s} {σ:St} {H:Hp} {s:aB} {E:@I}
theorem Inv.wY(I:@k)(E):Inv (X.wY E) pins σ H s:=⟨I.ok.wY E,I.os,I.bare,I.base,I.loc,I.cell,I.free,I.jX,I.pin,I.cx,I.len⟩
theorem Inv.se(I:Inv (X.wY E) pins σ H s):@k:=⟨I.ok.se,I.os,I.bare,I.base,I.loc,I.cell,I.free,I.jX,I.pin,I.cx,I.len⟩
theorem SP.se(h:SP (X.wY E) pins D f s'):SP X pins D f s':=by
 cases f with
 |next=>obtain⟨kH,H',I,q⟩:=h;exact⟨kH,H',I.se,q⟩
 |brk=>obtain⟨kH,H',I,q⟩:=h;exact⟨kH,H',I.se,q⟩
 |cont=>obtain⟨kH,H',I,q⟩:=h;exact⟨kH,H',I.se,q⟩
 |ret u=>obtain⟨v,kH,H',I,r,q⟩:=h;exact⟨v,kH,H',I.se,r,q⟩
theorem PSs.nox{st:List Stmt}(h:PSs X.nox st t):PSs X st t:=λpins s σ H D I hw=>
 lW (h pins s σ H D (I.wY _) hw) (λ_ _ q=>q.se) λ_ _ z=>bM z
end
section
variable {X:Cx} {st:Stmt} {rest:List Stmt} {t u:TS} {e:Expr} {te:TE} {pos:Pos}
theorem Inv.quiet(I:@k):interactive X.env=false:=by simp[interactive,I.ok.kind]
end
abbrev agW:=V->V->V->Hp->(Hp->Prop)->Prop
def agY(X:Cx)(t:agW):Prop :=
 ∀(pins:@s) (s:aB) (σ:St) (H:Hp) (o i v:V) (ov iv u:Value) (Q:Hp->Prop),@k->RelV o ov->RelV i iv->@a4->t o i v H Q ->
  wpAny @l X.A (setItem ov iv u) (λ_ s'=>∃H',@ce/\Q H') X.xe s
structure It where
 go:Nat->Hp->Prop
 yld:Nat->Hp->V->Hp->Prop
 stop:Nat->Hp->Prop
def pK(X:Cx)(pins:@s)(H:Hp)(b:Addr):Prop :=
 H b=none/\@bY/\b∉X.fs/\(b∈X.ex\/X.jM.heap.objs.size<=b)/\(∀x c,@bO->c≠b)/\∀p∈X.pn++pins,p.1≠b
theorem Inv.Ds{X:Cx}{pins:@s}{σ:St}{H H':Hp}{s:aB}{b:Addr}(I:@k)(hb:s.heap.objs.size<=b)(hn:H' b=none):pK X pins H' b:=by
 refine⟨hn,Nat.ne_of_gt (bC I.lt hb),I.afj hb,.inr (aU I.sz hb),λx c e z=>?_,λp hp z=>?_⟩
 .obtain⟨v,q⟩:=I.cell x c e;exact absurd (bC q.lt (by rw[z];exact hb)) (jK _)
 .exact absurd (bC (aQ (I.pin p hp).1) (by rw[z];exact hb)) (jK _)
structure Turn(P:bz)(w:World)(K:aw)(tg:Expr)(J:It)(fp:@aG)(it:Addr)(tn:Nat->Heap->Prop):Prop where
 mem:it∈fp
 obj:∀i h,tn i h->∀b∈fp,∃o,@bJ/\∀v,o.data≠.cell v
 keep:∀i h h',tn i h->(∀b∈fp,∀o,@bJ->@bm)->tn i h'
 item:∀(X:Cx),X.prog=P->X.w=w->X.K=K->@bv->∀(i:Nat) (pins:@s) (s:aB) (σ:St) (H:Hp) (E:@I),@k->(∀b∈fp,pK X pins H b)->tn i s.heap->J.go i H ->
  wpAny (model P w) X.A (AD @aL) (λr s1=>∃u,r=@L /\
   wpAny (model P w) X.A (B7 tg @aL u) (λ_ s2=>∃x H',Inv X pins σ H' s2/\RelV x u/\J.yld i H x H'/\tn (i+1) s2.heap/\∀b∈fp,H' b=none) E s1) E s
 done:∀(X:Cx),X.prog=P->X.w=w->X.K=K->@bv->∀(i:Nat) (pins:@s) (s:aB) (σ:St) (H:Hp) (E:@I),@k->(∀b∈fp,pK X pins H b)->tn i s.heap->J.stop i H ->
  wpAny (model P w) X.A (AD @aL) (λr s1=>r=none/\Inv X pins σ H s1) E s
 self:∀(A:cZ) (i:Nat) (s:aB) (Q:@I) (E:@I),tn i s.heap->Q @aL s->wpAny (model P w) A (EB @aL) Q E s
abbrev TI:=St->Hp->(It->Hp->Prop)->Prop
def PIE(X:Cx)(pins:@s)(σ:St)(tg:Expr)(R:It->Hp->Prop)(YN:Value)(s2:aB):Prop :=
 ∃(it:Addr) (fp:@aG) (tn:Nat->Heap->Prop) (J:It) (H':Hp),YN=.ref it/\Inv X pins σ H' s2/\Turn X.prog X.w X.K tg J fp it tn/\tn 0 s2.heap/\(∀b∈fp,pK X pins H' b)/\R J H'
theorem NX{M:Model}{A:cZ}{E:@I}{s:aB}{tg:Expr}{it:Addr}{u:Value}{o:Obj}{n:String}{vs:@cp}{Q:Unit->@af}(ho:s.heap.get? it=@i)(hc:o.cls=.type n)(hd:o.data=.fields vs)
    (hn:["enumerate","zip","dict_itemiterator","dict_reverseitemiterator","odict_iterator","itertools.zip_longest","itertools.pairwise"].contains n=false) (hQ:Q () s):wpAny M A (B7 tg @aL u) Q E s:=by
  unfold B7;cases tg<;>first
    |exact aE hQ
    |(cases u<;>first
        |exact aE hQ
        | (refine ah (wpAny_load ho ?_)
           rw[hc,hd];show wpAny M A (if(["enumerate","zip","dict_itemiterator","dict_reverseitemiterator","odict_iterator","itertools.zip_longest","itertools.pairwise"].contains n&&vs[0]? == some (AB _))=true then _ else _) Q E s;rw[if_neg (by intro h;rw[hn,Bo] at h;cases h)];exact aE hQ))
noncomputable def Itl(K:aw)(a:Addr):It :=
 ⟨λi H=>∃xs x,pO K H a xs/\xs[i]?=@aa,λi H x H'=>H'=H/\∀xs,pO K H a xs->xs[i]?=@aa,λi H=>∃xs,pO K H a xs/\xs.length<=i⟩
noncomputable def Itt(K:aw)(a:Addr):It :=
 ⟨λi H=>∃xs x,B1 K H a xs/\xs[i]?=@aa,λi H x H'=>H'=H/\∀xs,B1 K H a xs->xs[i]?=@aa,λi H=>∃xs,B1 K H a xs/\xs.length<=i⟩
noncomputable def Itr(lo:Int)(n:Nat):It:=⟨λi _=>i<n,λi H x H'=>H'=H/\x=.int (lo+i),λi _=>n<=i⟩
theorem ON{K:aw}(a it):Turn P w K tg (Itl K a) [it] it (λi h=>h.IsListIter it a i) where
 mem:=@K
 obj:=λi h st b hb=>by
  have e:b=it:=@bP
  subst e;obtain⟨o,e,c,d⟩:=st;exact⟨o,e,λv z=>by rw[d] at z;cases z⟩
 keep:=λi h h' st k=>st.at λo e=>k it @f o e
 item:=by
  ext l;ext m;obtain⟨xs,x,hq,hx⟩:=hg;obtain⟨bQ,rv,p,hz⟩:=I.list hq;obtain⟨u,hu,ru⟩:=rv.get hx;obtain⟨f0,f1,f2,f3,f4,f5⟩:=hf it @f;refine wpAny_pyNext_list_item st p.isList (x:=u) (by simpa using hu) λh' Eg sb=>?_;have I1:Inv X pins σ H @as:=I.turned (t':=s.toks) (λb o hb e=>(sb.2 b hb).trans e) f0 f1 f3 f4 f5;obtain⟨o,e,c,d⟩:=id Eg;exact⟨u,rfl,NX (s:=@as) e c d @t ⟨x,H,I1,ru,⟨rfl,λys hy=>by rw[I.u5 hy hq];exact hx⟩,Eg,λb hb=>(hf b hb).1⟩⟩
 done:=by
  ext l;ext m;obtain⟨xs,hq,hx⟩:=hg;obtain⟨bQ,rv,p,hz⟩:=I.list hq;obtain⟨f0,f1,f2,f3,f4,f5⟩:=hf it @f;have hl:=rv.length;exact wpAny_pyNext_list_end (@cg) st p.isList (by simp;lia) λh' eb=>⟨rfl,I.turned (t':=s.toks) (λb o hb e=>eb b o hb e) f0 f1 f3 f4 f5⟩
 self:=λ_ _ _ _ _ st h=>wpAny_pyIter_listiter st h
theorem K9{K:aw}(a it):Turn P w K tg (Itt K a) [it] it (λi h=>h.IsTupleIter it a i) where
 mem:=@K
 obj:=λi h st b hb=>by
  have e:b=it:=@bP
  subst e;obtain⟨o,e,c,d⟩:=st;exact⟨o,e,λv z=>by rw[d] at z;cases z⟩
 keep:=λi h h' st k=>st.at λo e=>k it @f o e
 item:=by
  ext l;ext m;obtain⟨xs,x,hq,hx⟩:=hg;obtain⟨bQ,rv,p,hz⟩:=I.tuple hq;obtain⟨u,hu,ru⟩:=rv.get hx;obtain⟨f0,f1,f2,f3,f4,f5⟩:=hf it @f;refine wpAny_pyNext_tuple_item st (show s.heap.IsTuple a bQ.toArray from p) (x:=u) (by simpa using hu) λh' Eg sb=>?_;have I1:Inv X pins σ H @as:=I.turned (t':=s.toks) (λb o hb e=>(sb.2 b hb).trans e) f0 f1 f3 f4 f5;obtain⟨o,e,c,d⟩:=id Eg;exact⟨u,rfl,NX (s:=@as) e c d @t ⟨x,H,I1,ru,⟨rfl,λys hy=>by rw[I.OQ hy hq];exact hx⟩,Eg,λb hb=>(hf b hb).1⟩⟩
 done:=by
  ext l;ext m;obtain⟨xs,hq,hx⟩:=hg;obtain⟨bQ,rv,p,hz⟩:=I.tuple hq;obtain⟨f0,f1,f2,f3,f4,f5⟩:=hf it @f;have hl:=rv.length;exact wpAny_pyNext_tuple_end (@cg) st (show s.heap.IsTuple a bQ.toArray from p) (by simp;lia) λh' eb=>⟨rfl,I.turned (t':=s.toks) (λb o hb e=>eb b o hb e) f0 f1 f3 f4 f5⟩
 self:=λ_ _ _ _ _ st h=>wpAny_pyIter_tupleiter st h
theorem La{K:aw}(it)(lo)(n):Turn P w K tg (Itr lo n) [it] it (λi h=>IsRangeIter h it (lo+(i:Nat)*1) ((n:Int)-(i:Nat)) 1) where
 mem:=@K
 obj:=λi h st b hb=>by
  have e:b=it:=@bP
  subst e;exact⟨_,st,λv z=>by
   have z':Data.fields _=Data.cell v:=z;cases z'⟩
 keep:=λi h h' st k=>k it @f _ st
 item:=by
  ext l;ext m;obtain⟨f0,f1,f2,f3,f4,f5⟩:=hf it @f;have W:=Walks.range (prog:=X.prog) (w:=X.w) (@cg) it lo 1 n;refine W.item i s _ _ hg st λv h' tk hv Eg kk=>?_;obtain⟨t,rfl⟩:=hv;have I1:Inv X pins σ H {s with heap:=h',toks:=tk}:=I.turned (λb o hb e=>kk b o (@bP) e) f0 f1 f3 f4 f5;refine⟨_,rfl,NX (s:={s with heap:=h',toks:=tk}) (n:="range_iterator") Eg rfl rfl @t ⟨.int (lo+i),H,I1,⟨t,?_⟩,@a_,Eg,λb hb=>(hf b hb).1⟩⟩;rw[Int.mul_one]
 done:=by
  ext l;ext m;obtain⟨f0,f1,f2,f3,f4,f5⟩:=hf it @f;exact wpAny_pyNext_range_end (@cg) st (by have:n<=i:=hg;lia) λh' eb=>⟨rfl,I.turned (t':=s.toks) (λb o hb e=>eb b o hb e) f0 f1 f3 f4 f5⟩
 self:=λ_ _ _ _ _ st h=>wpAny_pyIter_rangeiter st h
section
variable {X:Cx} {tg:Expr}
theorem RU{pins:@s}{σ:St}{H:Hp}{s:aB}{R:It->Hp->Prop}{E:@I}{lo hi:Int}{t u v:Tok}{tk:Nat}(I:@k)(h1:-(2 ^ 62)<=lo)(h2:lo<2 ^ 62)(h3:-(2 ^ 62)<=hi)(h4:hi<2 ^ 62)
  (q:R (Itr lo (hi-lo).toNat) H):wpAny @l X.A (EB (@aE)) (PIE X pins σ tg R) E {s with heap:=s.heap.push {cls:=.type "range",data:=.fields #[.int lo t,.int hi u,.int 1 v]},toks:=tk}:=by
 refine wpAny_pyIter_range (IsRange.new ..) (small_one h1 h2 h3 h4) ?_;have I1:Inv X pins σ H {s with heap:=s.heap.push {cls:=.type "range",data:=.fields #[.int lo t,.int hi u,.int 1 v]},toks:=tk}:=I.kept λb o e=>aJ _ e
 refine⟨(s.heap.push {cls:=.type "range",data:=.fields #[.int lo t,.int hi u,.int 1 v]}).objs.size,[(s.heap.push {cls:=.type "range",data:=.fields #[.int lo t,.int hi u,.int 1 v]}).objs.size],_,_,H,rfl,
  I1.kept (t':=tk) λb o e=>aJ _ e,La _ lo (hi-lo).toNat,?_,λb hb=>?_,q⟩
 .have e1:lo+((0:Nat):Int)*1=lo:=@K
  have e2:(((hi-lo).toNat:Nat):Int)-((0:Nat):Int)=Builtin.Range.rangeSize lo hi 1:=by rw[rangeSize_one];split<;>lia
  show IsRangeIter _ _ (lo+((0:Nat):Int)*1) ((((hi-lo).toNat:Nat):Int)-((0:Nat):Int)) 1;rw[e1,e2];exact @aX
 .have e:b=(s.heap.push {cls:=.type "range",data:=.fields #[.int lo t,.int hi u,.int 1 v]}).objs.size:=@bP
  subst e;exact I1.Ds @J (I1.cx.fresh @J)
noncomputable def u3(fp:@aG)(h:Heap):@s:=fp.filterMap λb=>(h.get? b).map λo=>(b,o)
theorem sG(hb:b∈fp)(e:@bJ):(b,o)∈u3 fp h:=List.mem_filterMap.mpr ⟨b,hb,by rw[e];rfl⟩
theorem PA(hp:p∈u3 fp h):p.1∈fp/\h.get? p.1=@a3:=by
 obtain⟨b,hb,e⟩:=List.mem_filterMap.mp hp;cases q:h.get? b with
 |none=>rw[q] at e;cases e
 |some o=>
  rw[q] at e;have e':(b,o)=p:=aZ e;subst e';exact⟨hb,q⟩
theorem Inv.pinned(I:@k)(hf:∀b∈fp,pK X pins H b)(ho:∀b∈fp,∃o,@am=@i/\∀v,o.data≠.cell v):Inv X (pins++u3 fp s.heap) σ H s :=
 I.Nq λp hp=>(@c3).elim (λz=>I.pin p (cH _ z)) λz=>by
  obtain⟨hb,e⟩:=PA z;obtain⟨f0,f1,f2,_⟩:=hf p.1 hb;obtain⟨o,e',d⟩:=ho p.1 hb;rw[e] at e';cases e';exact⟨e,f0,f1,f2,d⟩
theorem Inv.xQ(I:Inv X (pins++pl) σ H s):@k:=I.Nq λp hp=>I.pin p (cH _ (fT _ hp))
end
abbrev R2:=V->V->Hp->VK->Prop
def Ow(X:Cx)(f:Value->Value->Sem Value)(r:R2):Prop :=
 ∀(pins:@s) (s:aB) (σ:St) (H:Hp) (x y:V) (v u:Value) (Q:VK),@k->RelV x v->RelV y u->r x y H Q ->
  wpAny @l X.A (f v u) (EP X pins σ Q) X.xe s
def UnR(X:Cx)(f:Value->Sem Value)(r:V->Hp->VK->Prop):Prop :=
 ∀(pins:@s) (s:aB) (σ:St) (H:Hp) (x:V) (v:Value) (Q:VK),@k->RelV x v->r x H Q ->
  wpAny @l X.A (f v) (EP X pins σ Q) X.xe s
def Vg(X:Cx)(f:Value)(r:@y->Hp->VK->Prop):Prop :=
 ∀(pins:@s) (s:aB) (σ:St) (H:Hp) (xs:@y) (us:@C) (Q:VK),@k->Vals xs us->r xs H Q ->
  wpAny @l X.A (call f us) (EP X pins σ Q) X.xe s
def agV(X:Cx)(r:V->Hp->(Bool->Hp->Prop)->Prop):Prop :=
 ∀(pins:@s) (s:aB) (σ:St) (H:Hp) (x:V) (v:Value) (Q:Bool->Hp->Prop),@k->RelV x v->r x H Q ->
  wpAny @l X.A (truthy v) (TP X pins σ Q) X.xe s
def rI(C:Int->Int->Prop)(g:Int->Int->V):R2:=λx y H Q=>∃i j,x=@w/\y=.int j/\C i j/\Q (g i j) H
def rI0(g:Int->Int->V):R2:=λx y H Q=>∃i j,x=@w/\y=.int j/\Q (g i j) H
def rU(g:Int->V):V->Hp->VK->Prop:=λx H Q=>∃i,x=@w/\Q (g i) H
section
variable {X:Cx} {a b c:Expr} {ta tb tc:TE} {pos:Pos}
theorem opI{f:Value->Value->Sem Value}{C:Int->Int->Prop}{g:Int->Int->Int}
  (rule:∀(i j:Int) (t u:Tok) (s:aB) (Q:@I) (E:@I),C i j->Q (.int (g i j) s.toks) {s with toks:=s.toks+1}->wpAny @l X.A (f (.int i t) (.int j u)) Q E s):
  Ow X f (rI C λi j=>.int (g i j)):=by
 intro pins s σ H x y v u Q I rx ry h;obtain⟨i,j,rfl,rfl,hc,q⟩:=h;obtain⟨t,rfl⟩:=rx;obtain⟨t',rfl⟩:=ry;exact rule i j t t' s _ _ hc ⟨.int (g i j),H,@au,@A,q⟩
theorem ack{f:Value->Value->Sem Value}{g:Int->Int->Int}
  (rule:∀(i j:Int) (t u:Tok) (s:aB) (Q:@I) (E:@I),Q (.int (g i j) s.toks) {s with toks:=s.toks+1}->wpAny @l X.A (f (.int i t) (.int j u)) Q E s):
  Ow X f (rI0 λi j=>.int (g i j)):=by
 intro pins s σ H x y v u Q I rx ry h;obtain⟨i,j,rfl,rfl,q⟩:=h;obtain⟨t,rfl⟩:=rx;obtain⟨t',rfl⟩:=ry;exact rule i j t t' s _ _ ⟨.int (g i j),H,@au,@A,q⟩
theorem acm{f:Value->Value->Sem Value}{g:Int->Int->Bool}
  (rule:∀(i j:Int) (t u:Tok) (s:aB) (Q:@I) (E:@I),Q (.bool (g i j)) s->wpAny @l X.A (f (.int i t) (.int j u)) Q E s):
  Ow X f (rI0 λi j=>.bl (g i j)):=by
 intro pins s σ H x y v u Q I rx ry h;obtain⟨i,j,rfl,rfl,q⟩:=h;obtain⟨t,rfl⟩:=rx;obtain⟨t',rfl⟩:=ry;exact rule i j t t' s _ _ ⟨.bl (g i j),H,I,rfl,q⟩
def ag9(i j:Int):Prop:=0<j/\j<1073741824
def abq(i j:Int):Prop:=(-(2 ^ 64)<i/\i<2 ^ 64)\/(-(2 ^ 64)<j/\j<2 ^ 64)
theorem abq.ok(h:abq i j):IntMulOk i j:=by
 rcases h with ⟨h1,h2⟩ |⟨h1,h2⟩
 .exact .of_left (intBits_le_64 h1 h2)
 .exact .of_right (intBits_le_64 h1 h2)
theorem aae:Ow X (ko .Add) (rI0 λi j=>.int (i+j)):=ack λ_ _ _ _ _ _ _ q=>add_int q
theorem aaa:Ow X (ko .Sub) (rI0 λi j=>.int (i-j)):=ack λ_ _ _ _ _ _ _ q=>sub_int q
theorem aab:Ow X (ko .Mult) (rI abq λi j=>.int (i*j)):=opI λ_ _ _ _ _ _ _ hc q=>mul_int q hc.ok
theorem W7:Ow X (ko .FloorDiv) (rI ag9 λi j=>.int (i / j)):=opI λi j _ _ _ _ _ hc q=>by
 have h1:(0:Int)<j:=hc.1;have h2:j<1073741824:=hc.2;exact floordiv_int @c (by rw[Int.fdiv_eq_ediv_of_nonneg i @c];exact q) (.inl (PyProof.noPylong_small @c))
theorem aac:Ow X (ko .Mod) (rI (λ_ j=>0<j) λi j=>.int (i % j)):=opI λi j _ _ _ _ _ hc q=>by
 have h1:(0:Int)<j:=hc;exact mod_int' @c (by rw[Int.fmod_eq_emod_of_nonneg i @c];exact q)
theorem unI{f:Value->Sem Value}{g:Int->Int}
  (rule:∀(i:Int) (t:Tok) (s:aB) (Q:@I) (E:@I),Q (.int (g i) s.toks) {s with toks:=s.toks+1}->wpAny @l X.A (f (.int i t)) Q E s):
  UnR X f (rU λi=>.int (g i)):=by
 intro pins s σ H x v Q I rx h;obtain⟨i,rfl,q⟩:=h;obtain⟨t,rfl⟩:=rx;exact rule i t s _ _ ⟨.int (g i),H,@au,@A,q⟩
theorem Zr:UnR X (unaryOp .USub) (rU λi=>.int (-i)):=unI λ_ _ _ _ _ q=>neg_int q
end
section
variable {X:Cx} {a b c:Expr} {ta tb tc:TE} {pos:Pos}
theorem aci:Ow X (fh .Lt) (rI0 λi j=>.bl (decide (i<j))):=acm λ_ _ _ _ _ _ _ q=>lt_int q
theorem acj:Ow X (fh .Gt) (rI0 λi j=>.bl (decide (j<i))):=acm λ_ _ _ _ _ _ _ q=>gt_int q
theorem SX(b)(h:autoParam (op≠.In) Ad._auto_1)(h2:autoParam (op≠.NotIn) Ad._auto_1):behindInMarks op b=false:=by
 have e1:(op == CmpOp.In)=false:=by cases op<;>first |rfl |exact absurd rfl h
 have e2:(op == CmpOp.NotIn)=false:=by cases op<;>first |rfl |exact absurd rfl h2
 cases b with
 |Set es k _=>
  show(k == 0&&(op == .In||op == .NotIn)&&es.all (constantsAlone 8))=false;rw[e1,e2,Bool.or_false,MY,Bo]
 |_=>rfl
def abn(K:aw)(x:V)(H:Hp)(k:Bool):Prop :=
 match x with
 |.fe=>k=false
 |.bl b=>k=b
 |.int i=>k=(i != 0)
 |.str y=>y.length<=ba/\k=((y.length:Int) != 0)
 |.byt y=>y.size<=ba/\k=((y.size:Int) != 0)
 |.ref p=>(∃xs,pO K H p xs/\k=!xs.isEmpty)\/(∃xs,B1 K H p xs/\k=!xs.isEmpty)\/∃kvs,H p=some (.dK kvs)/\k=!kvs.isEmpty
 |_=>False
theorem LW(r:KV kvs vs):(!vs.isEmpty)=!kvs.isEmpty:=by
 cases r<;>rfl
theorem Dj(r:Vals xs bQ):(!bQ.toArray.isEmpty)=!xs.isEmpty:=by
 cases r<;>simp
theorem C9:(ba:Nat)<2 ^ 63:=by rw[c5];decide
theorem Zv:agV X (λx H Q=>∃k,abn X.K x H k/\Q k H):=by
 intro pins s σ H x v Q I rx h;obtain⟨k,e,q⟩:=h;have hl:=C9;have hs:ba=16777216:=c5;cases x with
 |fe=>
  cases rx;have e':k=false:=e;subst e';exact truthy_none ⟨H,I,q⟩
 |bl b=>
  cases rx;have e':k=b:=e;subst e';exact qy ⟨H,I,q⟩
 |int i=>
  obtain⟨t,rfl⟩:=rx;have e':k=(i != 0):=e;subst e';exact PySem.P.truthy_int ⟨H,I,q⟩
 |str y=>
  obtain⟨t,rfl⟩:=rx;obtain⟨hy,e'⟩:y.length<=ba/\k=((y.length:Int) != 0):=e;subst e';exact PySem.P.truthy_str @c ⟨H,@au,q⟩
 |byt y=>
  obtain⟨t,rfl⟩:=rx;obtain⟨hy,e'⟩:y.size<=ba/\k=((y.size:Int) != 0):=e;subst e';exact PySem.W.truthy_bytes @c ⟨H,@au,q⟩
 |ref p=>
  cases rx;have e':(∃xs,pO X.K H p xs/\k=!xs.isEmpty)\/(∃xs,B1 X.K H p xs/\k=!xs.isEmpty)\/∃kvs,H p=some (.dK kvs)/\k=!kvs.isEmpty:=e;rcases e' with ⟨xs,hx,e'⟩ |⟨xs,hx,e'⟩ |⟨kvs,hx,e'⟩
  .subst e';obtain⟨bQ,r,pl,hz⟩:=I.list hx;have hlen:=r.length;exact wpAny_truthy_list pl.isList (by simp only[aX];lia) ⟨H,@au,by rw[Dj r];exact q⟩
  .subst e';obtain⟨bQ,r,pl,hz⟩:=I.tuple hx;have hlen:=r.length;exact truthy_tuple pl (by simp only[aX];lia) ⟨H,@au,by rw[Dj r];exact q⟩
  .subst e';obtain⟨hz,hS,vs,r,m⟩:kvs.length<=ba/\(p == dU)=false/\∃vs,KV kvs vs/\s.heap.DictOf @ck p vs:=I.cx p _ hx;have hlen:kvs.length=vs.length:=jA r;exact KH hS m @c ⟨H,@au,by rw[LW r];exact q⟩
 |_=>exact(show False from e).elim
theorem LB:Ow X (ko .Add) (λx y H Q=>∃i j,x=.str i/\y=.str j/\i.length+j.length<=ba/\Q (.str (i++j)) H):=by
 intro pins s σ H x y v u Q I rx ry h;obtain⟨i,j,rfl,rfl,hz,q⟩:=h;obtain⟨t,rfl⟩:=rx;obtain⟨t',rfl⟩:=ry;exact add_str (λt' tk=>⟨.str (i++j),H,@au,@A,q⟩) hz
theorem vals1(r:Vals [x] us):∃u,us=[u]/\RelV x u:=by
 cases r with
 |cons r1 r2=>cases r2;exact⟨_,rfl,r1⟩
theorem vals2(r:Vals [x,y] us):∃u w',us=[u,w']/\RelV x u/\RelV y w':=by
 cases r with
 |cons r1 r2=>
  cases r2 with
  |cons r3 r4=>cases r4;exact⟨_,_,rfl,r1,r3⟩
def adW(K:aw)(x:V)(H:Hp)(n:Nat):Prop :=
 match x with
 |.str y=>y.length<=ba/\n=y.length
 |.byt y=>y.size<=ba/\n=y.size
 |.ref p=>(∃xs,pO K H p xs/\n=xs.length)\/∃xs,B1 K H p xs/\n=xs.length
 |_=>False
theorem UO:Vg X (.builtin "len") (λxs H Q=>∃x n,xs=[x]/\adW X.K x H n/\Q (.int n) H):=by
 intro pins s σ H xs us Q I r h;obtain⟨x,n,rfl,e,q⟩:=h;obtain⟨u,rfl,rx⟩:=vals1 r;have hl:=C9;have hs:ba=16777216:=c5;cases x with
 |str y=>
  obtain⟨t,rfl⟩:=rx;obtain⟨hy,e'⟩:y.length<=ba/\n=y.length:=e;subst e';exact len_str @c ⟨@S,H,@au,@A,q⟩
 |byt y=>
  obtain⟨t,rfl⟩:=rx;obtain⟨hy,e'⟩:y.size<=ba/\n=y.size:=e;subst e';exact PySem.W.len_bytes @c ⟨@S,H,@au,@A,q⟩
 |ref p=>
  cases rx;have e':(∃xs,pO X.K H p xs/\n=xs.length)\/∃xs,B1 X.K H p xs/\n=xs.length:=e;rcases e' with ⟨xs,hx,e'⟩ |⟨xs,hx,e'⟩
  .subst e';obtain⟨bQ,r',pl,hz⟩:=I.list hx;have hlen:=r'.length;exact Calls.call_len_list pl.isList (by simp only[aX];lia) ⟨.int xs.length,H,@au,⟨_,by simp only[aX];rw[hlen]⟩,q⟩
  .subst e';obtain⟨bQ,r',pl,hz⟩:=I.tuple hx;have hlen:=r'.length;exact len_tuple pl (by simp only[aX];lia) ⟨.int xs.length,H,@au,⟨_,by simp only[aX];rw[hlen]⟩,q⟩
 |_=>exact(show False from e).elim
end
theorem AA.some_of(r:AA (@W) o):∃u,o=@L/\@a4:=by
 cases o with
 |none=>exact(show False from r).elim
 |some u=>exact⟨u,rfl,r⟩
structure kg(k:Nat)(A:cZ):Prop where
 hd:A.handled=none
 dp:A.depth+3*k+5<recursionLimit
 un:A.units+16*k+200<cLine
theorem kg.mono(r:kg k A)(h:j<=k):kg j A:=⟨r.hd,by have:=r.dp;lia,by have:=r.un;lia⟩
theorem kg.deeper(r:kg (k+1) A)(env):kg k (A.deeper env) :=
 ⟨r.hd,by have:=r.dp;show A.depth+1+3*k+5<_;lia,by have:=r.un;show A.units+3+16*k+200<_;lia⟩
theorem kg.depth(r:kg k A):A.depth<recursionLimit:=by have:=r.dp;lia
theorem kg.units(r:kg k A):A.units+64<cLine:=by have:=r.un;lia
theorem kg.K8(r:kg k A):A.units<cLine:=by have:=r.un;lia
abbrev Sp:=@y->Hp->VK->XK->Prop
abbrev QE:=@bj->Hp->aB->XK->@I
structure Vf(P:bz)(w:World)(K:aw)(mg:@aV)(base:Heap)(A:cZ)(outer:@bj)(s:aB)(H:Hp):Prop where
 frames:A.frames=some outer
 mod:Mod K mg base
 bs:∀b o,base.get? b=@i->@am=@i/\H b=none
 UW:base.objs.size<=s.heap.objs.size
 Ag:s.heap.FunFrames base outer
 VG:∀b∈wm outer,H b=none
 cx:pZ P w H s.heap
 bare:Ci s.gens
def CE(outer:@bj)(P:bz)(w:World)(H:Hp)(s:aB)(Q:VK)(u:Value)(s':aB):Prop :=
 ∃v H',s'.os=s.os/\Ci s'.gens/\Un (wm outer) [] H H' s.heap s'.heap/\pZ P w H' s'.heap/\@a4/\Q v H'
def CR(CX:QE)(outer:@bj)(P:bz)(w:World)(H:Hp)(s:aB)(Q:VK)(E:XK)(r:Result)(s':aB):Prop :=
 match r with
 |.ok (.ret u)=>CE outer P w H s Q u s'
 |.ok _=>False
 |.error e=>CX outer H s E e s'
structure vI(P:bz)(w:World)(K:aw)(mg:@aV)(base:Heap)(CX:QE)(k:Nat)(f:Addr)(fd:gc)(ps:@v)(sp:Sp):Prop where
 len:∀vs H Q E,sp vs H Q E->vs.length=ps.length
 run:∀(A:cZ) (outer:@bj) (s:aB) (H:Hp) (args:Args) (us:@C) (vs:@y) (Q:VK) (E:XK),kg k A->Vf P w K mg base A outer s H->BindsTo s fd args (ps.zip us)->@bX->sp vs H Q E ->
  Cb (model P w) A (.call (.ref f) args) (CR CX outer P w H s Q E) s
section
variable {X:Cx} {pins:@s} {σ:St} {H:Hp} {s s':aB}
theorem Inv.adD(I:@k):Vf X.prog X.w X.K X.mg X.base X.A X.stack s H :=
 ⟨I.ok.frames,I.ok.mod,I.bs,aU I.ok.UW I.sz,I.stack,I.F3,I.cx,I.bare⟩
theorem Inv.after(I:@k)(h:CE X.stack X.prog X.w H s Q u s'):EP X pins σ Q u s':=by
 obtain⟨v,H',os,bare,un,cx,r,q⟩:=h;obtain⟨hh,g,d,t,os'⟩:=s';obtain rfl:os'=s.os:=os;exact⟨v,H',I.call (h':=hh) (g':=g) (d':=d) (t':=t) (ch:=[]) un cx bare (λb z=>absurd z @f),r,q⟩
end
def Binds(K:aw)(fd:gc)(ps:@v)(ds:@C):Prop :=
 ∀(s:aB) (us:@C),K.In s.heap->(us++ds).length=ps.length->BindsTo s fd ⟨us,[]⟩ (ps.zip (us++ds))
theorem Binds.all{K:aw}(h:∀us:@C,us.length=ps.length->QI fd ⟨us,[]⟩=pure (ps.zip us)):Binds K fd ps []:=λs us _ hl=>by
 rw[bE] at hl ⊢;exact .of_eq (h us hl)
def Passes(CX:QE)(X:Cx)(E:XK):Prop:=∀(pins:@s) (σ:St) (H:Hp) (s:aB) (e:Value) (s':aB),@k->CX X.stack H s E e s'->X.xe e s'
section
variable {X:Cx} {CX:QE} {k:Nat} {f C:Addr} {fd:gc} {ps:@v} {sp:Sp} {dvs:@y} {ds:@C} {E:XK} {x m:Str} {p pos apos:Pos} {e o:Expr} {es:@az} {ta:TE} {t:TA}
theorem Lm(F:vI X.prog X.w X.K X.mg X.base CX k f fd ps sp)(hr:kg k X.A)(hb:Binds X.K fd ps ds)(hd:Vals dvs ds)(hx:Passes CX X E)
  (I:@k) (r:@bX) (h:sp (vs++dvs) H Q E):wpAny @l X.A (call (.ref f) us) (EP X pins σ Q) X.xe s:=by
 have r2:Vals (vs++dvs) (us++ds):=r.append hd;have hl:(us++ds).length=ps.length:=by rw[<-r2.length];exact F.len _ _ _ _ h
 refine KI (qS (F.run X.A X.stack s H ⟨us,[]⟩ (us++ds) (vs++dvs) Q E hr I.adD (hb s us I.BU hl) r2 h) λr s' hq=>?_);cases r with
 |error e=>exact hx pins σ H s e s' I hq
 |ok fl=>
  cases fl with
  |ret u=>exact I.after hq
  |next=>exact bM hq
  |brk=>exact bM hq
  |cont=>exact bM hq
end
structure kZ(N P:@v)(sc:Scope):Prop where
 kind:sc.kind=.function
 co:sc.isCoroutine=false
 gen:sc.isGenerator=false
 nd:N.Nodup
 pre:N.take P.length=P
 par:∀x∈P,@cb=@a1\/@cb=@aY
 aam:∀y∈sc.names,y.2≠.free
theorem FA{kindOf:Str->Option wy}:∀{binds:List (Str×Value)} {m:@aV},(∀v,(x,v)∉binds)->bindL kindOf binds m x=m x
 |[],_,_=>rfl
 | (n,v)::r,m,h=>by
  unfold bindL;rw[FA λw hw=>h w (aI _ hw)];split
  .have:x≠n:=by ext c;exact h v br
   simp[this]
  .rfl
theorem FD{kindOf:Str->Option wy}:∀{binds:List (Str×Value)} {m:@aV},(∀v,(x,v)∉binds)->bindC kindOf binds m x=m x
 |[],_,_=>rfl
 | (n,v)::r,m,h=>by
  unfold bindC;rw[FD λw hw=>h w (aI _ hw)];split
  .rfl
  .have:x≠n:=by ext c;exact h v br
   simp[this]
theorem FC{kindOf:Str->Option wy}{x:Str}{v:Value}:∀{P:@v} {vs:@C} {i:Nat} {m:@aV},P.Nodup->P[i]?=@aa->vs[i]?=@W->kindOf x=@a1 ->
  bindL kindOf (P.zip vs) m x=@W
 |[],_,_,_,_,h,_,_=>@cc
 |_::_,[],_,_,_,_,h,_=>@cc
 |p::P,w::vs,0,m,nd,h1,h2,hk=>by
  simp at h1 h2;subst h1;subst h2;show bindL kindOf ((p,w)::P.zip vs) m p=_;unfold bindL;rw[FA λv hv=>(List.nodup_cons.mp nd).1 (Ko hv).1,if_pos hk];simp
 |p::P,w::vs,i+1,m,nd,h1,h2,hk=>by
  show bindL kindOf ((p,w)::P.zip vs) m x=_;unfold bindL;exact FC (i:=i) (List.nodup_cons.mp nd).2 (@cx) (@bH) hk
theorem FE{kindOf:Str->Option wy}{x:Str}{v:Value}:∀{P:@v} {vs:@C} {i:Nat} {m:@aV},P.Nodup->P[i]?=@aa->vs[i]?=@W->kindOf x≠@a1 ->
  bindC kindOf (P.zip vs) m x=@W
 |[],_,_,_,_,h,_,_=>@cc
 |_::_,[],_,_,_,_,h,_=>@cc
 |p::P,w::vs,0,m,nd,h1,h2,hk=>by
  simp at h1 h2;subst h1;subst h2;show bindC kindOf ((p,w)::P.zip vs) m p=_;unfold bindC;rw[FD λv hv=>(List.nodup_cons.mp nd).1 (Ko hv).1,if_neg hk];simp
 |p::P,w::vs,i+1,m,nd,h1,h2,hk=>by
  show bindC kindOf ((p,w)::P.zip vs) m x=_;unfold bindC;exact FE (i:=i) (List.nodup_cons.mp nd).2 (@cx) (@bH) hk
noncomputable def start(N:@v)(vs:@y):St:=vs.map some++aO (N.length-vs.length) none
noncomputable def xp(CX:QE)(P:bz)(w:World)(K:aw)(mg:@aV)(base:Heap)(N:@v)(qual:Str)(scope:Scope)(f:Addr)(cd:Value)(A:cZ)(outer:@bj)(s:aB)(H:Hp)(E:XK):Cx where
 prog:=P
 w:=w
 K:=K
 mg:=mg
 base:=base
 A:=A.deeper (@cU)
 N:=N
 jM:=s
 QB:=H
 env:=@cU
 outer:=outer
 stack:=@cU::outer
 ex:=[]
 calm:=true
 fn:=λ_=>true
 pn:=[]
 xe:=λe s'=>wpAny (model P w) (A.deeper (@cU)) (leaving (@cU) e) (λ_ s''=>CX outer H s E e s'') (λe' s''=>CX outer H s E e' s'') s'
theorem JZ{sc:Scope}(h:@cb=@aY):∃c,(cellsFrom n sc.names []).lookup x=some c:=by
 have q:=MR sc.names n [] (.inl h);exact Option.isSome_iff_exists.mp q
theorem PW{K:aw}
  (S:kZ N ps scope) (hd:A.handled=none) (e0:Vf P w K mg base A outer s H) (hl:vs.length=ps.length) (r:@bX)
  (x:InCallC s s.heap.objs.size (bindL (@cU).kindOf (ps.zip us) λ_=>none) (cellsFrom (@b6) scope.names []) (bindC (@cU).kindOf (ps.zip us) λ_=>none) s1):
  Inv (xp CX P w K mg base N qual scope f cd A outer s H E) [] (start N vs) H s1:=by
 have rV:ps.length<=N.length:=by have:=congrArg dh S.pre;rw[bO] at this;lia
 obtain⟨h1,tk,rfl,hk⟩:=x.done;have noA:∀b:Addr,b∉(xp CX P w K mg base N qual scope f cd A outer s H E).ex:=λb z=>absurd (show b∈([]:@aG) from z) @f;refine⟨⟨e0.mod,S.kind,rfl,rfl,aH _,λy z c h1 h2=>?_,λy hy=>?_,λy c _ h=>?_,λ_=>hd,Around.frames_deeper e0.frames,.inr @a_,λb z=>absurd z (noA b),e0.bs,e0.UW,λb _ _=>noA b,λb z=>absurd z (noA b),e0.Ag,e0.VG⟩,
  rfl,e0.bare,Un.kept hk,⟨_,x.toInCall.ns,λi y v h1 h2 h3=>?_⟩,λy c h=>⟨_,x.cell y c h⟩,e0.cx.fresh @J,λy c h=>?_,λp hp=>absurd (show p∈([]:@s) from hp) @f,e0.cx.kept hk,?_⟩
 .exact name_of_addr x.apart (jF h1) (jF h2)
 .have hy:scope.names.lookup y=@aY\/scope.names.lookup y=some .free:=hy;rcases hy with hy |hy
  .exact JZ hy
  .exact absurd rfl (S.aam _ (jF hy))
 .exact VO (x.above y c (jF h))
 .have hi:i<vs.length:=by
   unfold start at h2;by_cases hi:i<vs.length
   .exact hi
   .rw[cg (@cI)] at h2;rw[ng] at h2;split at h2<;>cases h2
  have ha:vs[i]?=@W:=by
   unfold start at h2;rw[cF (@cI),bw] at h2;cases e:vs[i]? with
   |none=>rw[e] at h2;cases h2
   |some a=>rw[e] at h2;cases h2;rfl
  obtain⟨u,hu,rv⟩:=r.get ha;have hp:ps[i]?=some y:=by
   rw[<-S.pre,List.getElem?_take_of_lt @c];exact h1
  have ndP:ps.Nodup:=by rw[<-S.pre];exact S.nd.sublist (List.take_sublist _ _)
  refine⟨u,rv,?_⟩;rcases S.par y (cp hp) with k |k
  .exact .inl ⟨k,FC ndP hp hu k⟩
  .obtain⟨c,e⟩:=JZ (n:=@b6) k;refine .inr ⟨.inl k,c,e,?_⟩;have q:=x.cell y c e;rw[FE ndP hp hu (by show scope.names.lookup y≠_;rw[k];decide)] at q;exact q
 .exact e0.cx.fresh (VO (x.above y c (jF h)))
 .unfold start;show _=N.length;rw[aA,au,gM];lia
theorem Y4{K:aw}{kV:Value}
     (lk:K.lookup f=some ⟨oc,od,.func (lU name qual params body scope dV kV doc pm an i8 ct),Nt⟩) (NU:HQ K i8 qual=true) (S:kZ N ps scope)
  (len:∀vs H Q E,sp vs H Q E->vs.length=ps.length)
  (Ue:∀(A:cZ) (outer:@bj) (s:aB) (H:Hp) (vs:@y) (Q:VK) (E:XK),kg k (A.deeper (Ca qual scope s.heap.objs.size f i8))->sp vs H Q E ->
   ∃t,PSs (xp CX P w K mg base N qual scope f i8 A outer s H E) body t/\t {nx:=λ_ H'=>Q .fe H',rt:=Q} (start N vs) H):
  vI P w K mg base CX (k+1) f (lU name qual params body scope dV kV doc pm an i8 ct) ps sp:=by
 refine⟨len,λA outer s H args us vs Q E hr e0 hb r TZ=>?_⟩;have hl:=len _ _ _ _ TZ;have KX:K.In s.heap:=e0.mod.Xx.keeps λb o e=>(e0.bs b o e).1;have lim:s.heap.NoLimit:=e0.mod.nolimit.keeps λb o e=>(e0.bs b o e).1;have Fe:∀y∈ps.zip us,scope.names.lookup y.1=@a1\/(scope.names.lookup y.1=@aY/\((cellsFrom (@b6) scope.names []).lookup y.1).isSome=true):=λ⟨n,v⟩ hy=>by
  rcases S.par n (Ko hy).1 with q |q
  .exact .inl q
  .exact .inr ⟨q,MR _ _ _ (.inl q)⟩
 refine codeAny_call_function hr.depth (KX _ _ lk) rfl S.co S.gen rfl (PySem.W.codeRec_of KX NU) (hb _ _ _ _ ?_);refine wpAny_newFunctionEnv_cells S.kind Fe λenv he s1 x=>?_;subst he;refine⟨lim.keeps x.toInCall.keep,codeAny_func ?_⟩;obtain⟨t,ht,hq⟩:=Ue A outer s H vs Q E (hr.deeper _) TZ;have I:Inv (xp CX P w K mg base N qual scope f i8 A outer s H E) [] (start N vs) H s1:=PW S hr.hd e0 hl r x;refine lW (ht [] s1 (start N vs) H _ I hq) (λfl s' hs=>?_) λe s' hs=>hs;have fin:∀{kH:St} {H':Hp} {v:V} {u:Value},Inv (xp CX P w K mg base N qual scope f i8 A outer s H E) [] kH H' s'->@a4->Q v H'->CE outer P w H s Q u s' :=
  λ{kH H' v u} J rv q=>⟨v,H',J.os,J.bare,J.base,J.cx,rv,q⟩
 cases fl with
 |ret u=>
  obtain⟨v,kH,H',J,rv,q⟩:=hs;exact fin J rv q
 |next=>
  obtain⟨kH,H',J,q⟩:=hs;exact fin (v:=V.fe) (u:=ic) J rfl q
 |brk=>
  obtain⟨_,_,_,q⟩:=hs;exact bM q
 |cont=>
  obtain⟨_,_,_,q⟩:=hs;exact bM q
end L2
namespace HT
open PySem PyProof.Rows
noncomputable def lexLt:@D->@D->Bool
 |[],[]=>false
 |[],_::_=>true
 |_::_,[]=>false
 |x::xs,y::ys=>if x=y then lexLt xs ys else decide (x<y)
theorem LS(x y)(xs ys):lexLt (x::xs) (y::ys)=if x=y then lexLt xs ys else decide (x<y):=rfl
theorem En:lexLt [] []=false:=rfl
theorem De(y)(ys):lexLt [] (y::ys)=true:=rfl
theorem Df(x)(xs):lexLt (x::xs) []=false:=rfl
theorem UB(A)(s)(a)(t)(c)(u):∃e,SeqAt.EqAt A s (.int a t) (.int c u) e/\(e=true↔a=c) :=
 ⟨(a == c),SeqAt.EqAt.int_int a t c u,@K⟩
theorem CD(A)(s)(a)(t)(c)(u)(prog)(w)(E)(Q)(h:Q (.bool (decide (a<c))) s):
  wpAny @P A (uk .Lt (.int a t) (.int c u)) Q E s :=
 (PyProof.Rows.lt_int h:wpAny @P A (fh .Lt (.int a t) (.int c u)) Q E s)
section
open PySem.SeqAt
open PySem.AutoSeq1 (wpAny_loadPart')
open PySem.MeetsSeq PySem.MeetsSeq2 PySem.MeetsSeq3
theorem Ef(l b)(items qL)(n n2)(dd HI)(sl Io)(ns ms)(hi:oX items.toList ns)(hj:oX qL.toList ms):
  Meets (Builtin.«tuple.__lt__» ⟨[@Y,.ref b],[]⟩)
   (λ_ R s=>@cA=some {cls:=@aj,dict:=dd,data:=.seq items n,slots:=sl}/\@am=some {cls:=@aj,dict:=HI,data:=.seq qL n2,slots:=Io} /\
    R (.ok (.ret (.bool (lexLt ns ms)))) s) :=
 .of_wp λprog w A R s h=>by
  obtain⟨hp,g,d,tk,os⟩:=s;obtain⟨hl,hb,h⟩:=h;have f2:=tw;have z1:items.size=ns.length:=by rw[<-hi.length];simp
  have z2:qL.size=ms.length:=by rw[<-hj.length];simp
  wp_walk using bX hl,bX hb,mW _ (λrest b s'=>b.1=none/\s'=⟨hp,g,d,tk,os⟩/\∃(vs ws:@C) (ns' ms':@D),rest=vs.zip ws /\
   oX vs ns'/\oX ws ms'/\ns'.length+qL.size=ms'.length+items.size/\R (.ok (.ret (.bool (lexLt ns' ms')))) ⟨hp,g,d,tk,os⟩) _
  case turn=>
   rintro⟨y,x⟩ rest b s' ⟨HG,rfl,vs,ws,ns',ms',hz,hvi,hwi,hlen,hR⟩;cases hvi with
   |nil=>rw[List.zip_nil_left] at hz;cases hz
   | cons a t afV=>
    cases hwi with
    |nil=>rw[List.zip_nil_right] at hz;cases hz
    | cons c u afT=>
     rw[tZ] at hz;injection hz with hyx T6
     injection hyx with hy hx
     subst hy hx;rw[LS] at hR;simp only[ag] at hlen;obtain⟨e,he,ac6⟩:=UB A.in1 ⟨hp,g,d,tk,os⟩ a t c u;refine ah (he prog w _ _ ?_);cases e with
     |true=>
      rw[if_pos (ac6.mp rfl)] at hR
      wp_walk
      exact⟨rfl,rfl,_,_,_,_,T6,afV,afT,@d,hR⟩
     |false=>
      rw[if_neg (λq=>absurd (ac6.mpr q) fP)] at hR;have hri:=CD A.in1 ⟨hp,g,d,tk,os⟩ a t c u prog w
      wp_walk using hri
      exact⟨_,rfl,by simpa using hR⟩
  case fin=>
   rintro⟨b1,b2⟩ s' ⟨HG,rfl,vs,ws,ns',ms',hz,hvi,hwi,hlen,hR⟩;simp only at HG;subst HG;have hv:lexLt ns' ms'=decide (items.size<qL.size):=by
    cases hvi with
    | nil=>
     cases hwi with
     |nil=>
      simp only[av] at hlen;rw[En];exact(@cR).symm
     |cons c u hw=>
      simp only[av,ag] at hlen;rw[De];exact(decide_eq_true @c).symm
    | cons a t hv=>
     cases hwi with
     |nil=>
      simp only[av,ag] at hlen;rw[Df];exact(@cR).symm
     |cons c u hw=>
      rw[tZ] at hz;cases hz
   rw[hv] at hR
   wp_walk
   exact⟨_,rfl,by simpa[xP] using hR⟩
  case h=>
   exact⟨rfl,rfl,items.toList,qL.toList,ns,ms,rfl,hi,hj,@d,h⟩
end
section
variable {prog:bz} {w:World} {A:cZ} {E:@I} {s:aB}
theorem C5{l b:Addr}{items qL:@cp}{ns ms:@D}{Q:@I}(hl:IsTup s.heap l items)(hb:IsTup s.heap b qL)(hi:oX items.toList ns)(hj:oX qL.toList ms)
  (hu:A.units<cLine) (h:Q (.bool (lexLt ns ms)) s):wpAny @P A (fh .Lt (@Y) (.ref b)) Q E s:=by
 obtain⟨⟨cls,dd,data,sl⟩,ho,hc,n,hd⟩:=id hl;obtain⟨⟨UM,HI,data2,Io⟩,Fd,GB,n2,hd2⟩:=id hb;simp only at hc hd GB hd2;subst hc hd GB hd2;exact Bk (op:=.Lt) ⟨_,ho,rfl⟩ ⟨_,Fd,rfl⟩ nU v9 (uB _ _) (Ef l b items qL n n2 dd HI sl Io ns ms hi hj)
  ⟨ho,Fd,show Value.bool (lexLt ns ms)≠Value.notImplemented/\Q (.bool (lexLt ns ms)) s from⟨(λx=>nomatch x),h⟩⟩ hu
theorem X2{t b:Addr}{vs ws:@C}{Q:@I}(ht:IsTup s.heap t vs.toArray)(hb:IsTup s.heap b ws.toArray)(hv:vs≠[])
  (h1:ws=[]->Q (.ref t) s) (h2:ws≠[]->Q (@aE) {s with heap:=s.heap.push {cls:=@aj,data:=.seq (vs++ws).toArray}})
  (hsz:vs.length+ws.length<=ba):wpAny @P A (ko .Add (.ref t) (.ref b)) Q E s:=by
 obtain⟨⟨cls,dd,data,sl⟩,ho,hc,n,hd⟩:=id ht;obtain⟨⟨UM,HI,data2,Io⟩,Fd,GB,n2,hd2⟩:=id hb;simp only at hc hd GB hd2;subst hc hd GB hd2;have e:vs.toArray++ws.toArray=(vs++ws).toArray:=@K
 by_cases hw:ws=[]
 .exact concat_meets ⟨_,ho,rfl⟩ ⟨_,Fd,rfl⟩ noFill_tuple_add seq_tuple_add MS KW (Km _ _)
   (tuple_addW1 t b vs.toArray ws.toArray n n2 dd HI sl Io (by simpa using hv) (by simp[hw])) ⟨ho,Fd,h1 hw⟩
 .refine concat_meets ⟨_,ho,rfl⟩ ⟨_,Fd,rfl⟩ noFill_tuple_add seq_tuple_add MS KW (Km _ _)
   (tuple_addW2 t b vs.toArray ws.toArray n n2 dd HI sl Io (by simpa using hv) (by simpa using hw) (by rw[aX,aX];exact hsz)) ⟨ho,Fd,?_⟩
  rw[e];exact h2 hw
noncomputable def kI(n d:Nat):@aW->Nat
 |none=>d
 |some v=>if v<0 then(v+(n:Int)).toNat else min v.toNat n
theorem ZI(n d)(hd:d<=n)(o):kI n d o<=n:=by
 cases o with
 |none=>exact hd
 |some v=>
  show(if v<0 then(v+(n:Int)).toNat else min v.toNat n)<=n;by_cases hv:v<0
  .rw[if_pos hv];lia
  .rw[if_neg hv];exact Nat.min_le_right _ _
theorem Ol(v)(n d:Nat):(if v<0 then max (v+(n:Int)) 0 else min v (n:Int))=((kI n d (@W):Nat):Int):=by
 show(if v<0 then max (v+(n:Int)) 0 else min v (n:Int))=(((if v<0 then(v+(n:Int)).toNat else min v.toNat n):Nat):Int);by_cases hv:v<0
 .simp only[if_pos hv];lia
 .simp only[if_neg hv];lia
theorem MC(lo hi)(n:Nat):pU lo hi 1 (n:Int)=(((kI n 0 lo:Nat):Int),((kI n n hi:Nat):Int)):=by
 have h1:¬ ((1:Int)<0):=@d
 unfold pU;simp only[h1,if_false];refine Prod.ext ?_ ?_
 .cases lo with
  |none=>rfl
  |some v=>exact Ol v n 0
 .cases hi with
  |none=>rfl
  |some v=>exact Ol v n n
theorem Lu(i j:Nat):ky @ay (j:Int) 1=j-i:=by
 unfold ky;have h1:(1:Int)>0:=@d
 simp only[h1,if_true,Int.ediv_one];split<;>lia
theorem Cs{v:Value}{o:@aW}{Q:@aW->@af}(p:IsPart v o)(h:Q o s):wpAny @P A (Builtin.Slice.slicePartIndex v) Q E s:=by
 cases p with
 |none=>exact slicePart_none h
 |int i t=>exact slicePart_int h
theorem zQ{sl:Addr}{vl vu:Value}{lo hi:@aW}{n:Nat}{Q:Int×Int×Nat->@af}(hs:s.heap.IsSliceOf sl vl vu .none)(pl:IsPart vl lo)(pu:IsPart vu hi)
  (h:Q (((kI n 0 lo:Nat):Int),1,kI n n hi-kI n 0 lo) s):wpAny @P A (BI (.ref sl) (pure (n:Int))) Q E s:=by
 obtain⟨os,hos,hcs,hds⟩:=id hs;unfold BI Builtin.Slice.sliceFields;refine ah (ah (uh hos hds (x:=vl) rfl (ah (uh hos hds (x:=vu) rfl (ah (uh hos hds (x:=.none) rfl (aE ?_)))))));refine ah (slicePart_none ?_);show wpAny _ _ (if((1:Int) == 0)=true then _ else _) _ _ s;rw[if_neg @t];refine ah (Cs pl (ah (Cs pu (ah (aE ?_)))));show wpAny _ _ (match pU lo hi 1 (n:Int) with |(lo,hi)=>pure (lo,(1:Int),ky lo hi 1)) _ _ s;rw[MC lo hi n];show wpAny _ _ (pure (((kI n 0 lo:Nat):Int),(1:Int),ky ((kI n 0 lo:Nat):Int) ((kI n n hi:Nat):Int) 1)) _ _ s;rw[Lu];exact aE h
theorem Sk(xs:@cp)(i k:Nat):((fG k).filterMap λ(m:Nat)=>xs[(@ay+(m:Int)*1).toNat]?).toArray=((xs.toList.drop i).take k).toArray:=by
 have e:(λ(m:Nat)=>xs[(@ay+(m:Int)*1).toNat]?)=λm=>xs[i+m]?:=by
  funext m;have:(@ay+(m:Int)*1).toNat=i+m:=@d
  rw[this]
 rw[e];have:=pick_run xs i k;rw[List.filterMap_map] at this;have e2:((λx=>xs[x]?)∘λx=>i+x)=λm=>xs[i+m]?:=rfl;rw[e2] at this;rw[this]
theorem yW{t sl:Addr}{items:@cp}{vl vu:Value}{lo hi:@aW}{Q:@I}(ht:IsTup s.heap t items)(hs:s.heap.IsSliceOf sl vl vu .none)(pl:IsPart vl lo)(pu:IsPart vu hi)
  (hw:¬ (kI items.size 0 lo=0/\kI items.size items.size hi=items.size))
  (h:Q (@aE) {s with heap:=s.heap.push {cls:=@aj,data:=.seq ((items.toList.drop (kI items.size 0 lo)).take (@c5)).toArray}})
  (hsz:items.size<=ba):wpAny @P A (getItem (.ref t) (.ref sl)) Q E s:=by
 have NQ:sizeOk (.seq ((items.toList.drop (kI items.size 0 lo)).take (@c5)).toArray):=by
  show((items.toList.drop (kI items.size 0 lo)).take (@c5)).toArray.size<=ba;rw[aX];exact aU (aU (List.length_take_le' _ _) (by rw[bP,gu];exact Nat.sub_le _ _)) hsz
 have hj:kI items.size items.size hi<=items.size:=ZI _ _ @J hi;obtain⟨os,hos,hcs,hds⟩:=id hs;have hTs:s.TypeIs (.ref sl) "slice":=⟨os,hos,hcs⟩;unfold getItem
 try with_reducible refine cW ?_
 first |refine ah (aE ?_) |skip
 refine ah (wpAny_sequenceKey ht.typeIs @t ?_);refine ah (km (name:=zF "__getitem__") ht.typeIs zv
  (dE zv ht.typeIs entry_tuple_getitem ?_ (args_tuple_getitem _ _)))
 show wpAny _ _ (BH (.ref t) >>= _) _ _ s;refine ah (tupleItemsOf_ ht ?_);refine ah (wpAny_typeOf hTs ?_);rw[if_pos @t];refine ah (zQ hs pl pu ?_);have hno:¬ ((((kI items.size 0 lo:Nat):Int) == 0&&(1:Int) == 1&&(@c5) == items.size)=true):=by
  intro q;rw[aL,aL] at q;have q1:((kI items.size 0 lo:Nat):Int)=0:=eq_of_beq q.1.1;have q2:@c5=items.size:=eq_of_beq q.2;exact hw ⟨@d,@d⟩
 show wpAny _ _ (if(((kI items.size 0 lo:Nat):Int) == 0&&(1:Int) == 1&&(@c5) == items.size)=true then _ else _) _ _ s;rw[if_neg hno,Sk]
 first
  |exact ah (m:=kS _) (dF (aE ⟨_,rfl,aE h⟩) NQ)
  |exact ah (m:=kS _) (dF (ah (aE (aE ⟨_,rfl,aE h⟩))) NQ)
  |exact ah (ah (m:=kS _) (dF (aE (aE ⟨_,rfl,aE h⟩)) NQ))
  |exact ah (ah (m:=kS _) (dF (aE ⟨_,rfl,aE h⟩) NQ))
end
end HT
namespace L2
open PySem PySem.Spec PyProof.Rows
abbrev TO:=St->Hp->(@aW->Hp->Prop)->Prop
theorem intsAre_of:∀{us:@C},Vals (@cr) us->oX us ns:=by
 induction ns with
 |nil=>intro us r;rw[aM] at r;cases r;ext d
 | cons n ns ih=>
  intro us r;rw[ak] at r;cases r with
  |cons r1 r2=>
   obtain⟨t,e⟩:=r1;subst e;exact .cons n t (ih r2)
section
variable {X:Cx} {e:Expr} {te:TE} {lo hi:Option Expr} {tl th:TO} {pos p2:Pos}
def SlR(X:Cx)(r:V->@aW->@aW->Hp->VK->Prop):Prop :=
 ∀(pins:@s) (s:aB) (σ:St) (H:Hp) (x:V) (v vl vu:Value) (lo hi:@aW) (sl:Addr) (Q:VK),@k->RelV x v->s.heap.IsSliceOf sl vl vu .none->IsPart vl lo->IsPart vu hi->r x lo hi H Q ->
  ∃T id,typeLookup (.type T) "__getitem__"=pure (some (.builtin id))/\s.TypeIs v T/\wpAny @l X.A (getItem v (.ref sl)) (EP X pins σ Q) X.xe s
def JX(xs:@y)(lo hi:@aW):@y:=(xs.drop (HT.kI xs.length 0 lo)).take (HT.kI xs.length xs.length hi-HT.kI xs.length 0 lo)
theorem Bb(xs)(lo hi):(JX xs lo hi).length<=xs.length:=by
 unfold JX;rw[bO,bP];lia
def ae2(K:aw):V->@aW->@aW->Hp->VK->Prop:=λx lo hi H Q=>∃a xs,x=@V/\B1 K H a xs /\
 ¬ (HT.kI xs.length 0 lo=0/\HT.kI xs.length xs.length hi=xs.length)/\∀p,H p=none->Q @aw (upd H p (.tup (JX xs lo hi)))
theorem ZF:SlR X (ae2 X.K):=by
 intro pins s σ H x v vl vu lo hi sl Q I rx hs pl pu h;obtain⟨a,xs,rfl,hx,hw,q⟩:=h;cases rx;obtain⟨bQ,r,ht,hz⟩:=I.tuple hx;have hlen:bQ.toArray.size=xs.length:=by rw[aX];exact r.length.symm
 refine⟨"tuple",_,PyProof.Rows.slot_tuple_getitem.lookup,ht.typeIs,?_⟩;refine HT.yW ht hs pl pu (by rw[hlen];exact hw) ?_ (by rw[hlen];exact hz);rw[hlen];refine⟨@aE,_,I.laid (t':=s.toks) (o:=.tup (JX xs lo hi)) (λb ob q=>aJ _ q) @J ?_,rfl,q _ (@cf)⟩;exact⟨aU (Bb xs lo hi) hz,_,(r.drop (HT.kI xs.length 0 lo)).take (HT.kI xs.length xs.length hi-HT.kI xs.length 0 lo),IsTup.new _ _⟩
def ae5(K:aw):R2:=λx y H Q=>∃a b ns ms,x=@V/\y=.ref b/\B1 K H a (@cr)/\B1 K H b (ms.map V.int)/\Q (.bl (HT.lexLt ns ms)) H
theorem aad(hu:X.A.units<cLine):Ow X (fh .Lt) (ae5 X.K):=by
 intro pins s σ H x y v u Q I rx ry h;obtain⟨a,b,ns,ms,rfl,rfl,ha,hb,q⟩:=h;cases rx;cases ry;obtain⟨bQ,r1,p1,_⟩:=I.tuple ha;obtain⟨wj,r2,p2,_⟩:=I.tuple hb;have i1:oX bQ.toArray.toList ns:=intsAre_of r1;have i2:oX wj.toArray.toList ms:=intsAre_of r2;exact HT.C5 p1 p2 i1 i2 hu ⟨.bl (HT.lexLt ns ms),H,I,rfl,q⟩
def acb(K:aw):R2:=λx y H Q=>∃a b xs ys,x=@V/\y=.ref b/\B1 K H a xs/\B1 K H b ys/\xs≠[]/\xs.length+ys.length<=ba /\
 (ys=[]->Q @u H)/\(ys≠[]->∀p,H p=none->Q @aw (upd H p (.tup (xs++ys))))
theorem Vals.Gq(r:Vals xs us):us=[]↔xs=[]:=by
 cases r with
 |nil=>simp
 |cons _ _=>simp
theorem W8:Ow X (ko .Add) (acb X.K):=by
 intro pins s σ H x y v u Q I rx ry h;obtain⟨a,b,xs,ys,rfl,rfl,ha,hb,hx,hz,q1,q2⟩:=h;cases rx;cases ry;obtain⟨bQ,r1,p1,_⟩:=I.tuple ha;obtain⟨wj,r2,p2,_⟩:=I.tuple hb;refine HT.X2 p1 p2 (λz=>hx (r1.Gq.mp z)) (λz=>⟨@V,H,I,rfl,q1 (r2.Gq.mp z)⟩) (λz=>?_) (by rw[<-r1.length,<-r2.length];exact hz);refine⟨@aE,_,I.laid (t':=s.toks) (o:=.tup (xs++ys)) (λb ob q=>aJ _ q) @J ?_,rfl,q2 (λw=>z (r2.Gq.mpr w)) _ (@cf)⟩;exact⟨by rw[aA];exact hz,_,r1.append r2,IsTup.new _ _⟩
end
noncomputable def Gx(n:Nat)(i:Int):Option Nat:=if 0<=i then(if i<n then some i.toNat else none) else if -(n:Int)<=i then some (i+n).toNat else none
def rN{α:Type}(xs:@o)(i:Int):Option α:=(Gx xs.length i).bind λj=>xs[j]?
theorem NN(h:Gx n i=some j):seqIndex? i n=some j/\j<n/\-(n:Int)<=i/\i<n:=by
 unfold Gx at h;by_cases h0:0<=i
 .rw[if_pos h0] at h;by_cases h1:i<n
  .rw[if_pos h1] at h;have e:i.toNat=j:=aZ h;exact⟨by rw[seqIndex_of h0 h1,e],@d,@d,h1⟩
  .rw[if_neg h1] at h;cases h
 .rw[if_neg h0] at h;by_cases h1:-(n:Int)<=i
  .rw[if_pos h1] at h;have e:(i+n).toNat=j:=aZ h;exact⟨by rw[seqIndex_neg @c h1,e],@d,h1,@d⟩
  .rw[if_neg h1] at h;cases h
theorem Ot(h:rN xs i=@W):∃j,seqIndex? i xs.length=some j/\xs[j]?=@W/\j<xs.length/\-(xs.length:Int)<=i/\i<xs.length:=by
 unfold rN at h;cases e:Gx xs.length i with
 |none=>rw[e] at h;cases h
 |some j=>
  rw[e] at h;obtain⟨h1,h2,h3,h4⟩:=NN e;exact⟨j,h1,h,h2,h3,h4⟩
def X9(b:Expr):Prop:=∀o i,subscripted b false o i=operate [o,i] (getItem o i)
def IxR(X:Cx)(r:R2):Prop :=
 ∀(value slice:Expr) (pins:@s) (s:aB) (σ:St) (H:Hp) (x y:V) (v u:Value) (Q:VK),@k->RelV x v->RelV y u->r x y H Q ->
  subscripted slice false v u=operate [v,u] (getItem v u)->wpAny @l X.A (subscriptTail value slice v u) (EP X pins σ Q) X.xe s
def MtR(X:Cx)(id:String)(r:V->@y->Hp->VK->Prop):Prop :=
 ∀(pins:@s) (s:aB) (σ:St) (H:Hp) (x:V) (xs:@y) (v:Value) (us:@C) (Q:VK),@k->RelV x v->Vals xs us->r x xs H Q ->
  wpAny @l X.A (call (.builtin id) (v::us)) (EP X pins σ Q) X.xe s
section
variable {X:Cx} {a b:Expr} {ta tb:TE} {pos:Pos}
def ae7(K:aw):R2:=λx y H Q=>∃p xs i v,x=.ref p/\y=@w/\pO K H p xs/\rN xs i=@W/\Q v H
def ae6(K:aw):R2:=λx y H Q=>∃p xs i v,x=.ref p/\y=@w/\B1 K H p xs/\rN xs i=@W/\Q v H
theorem NM:IxR X (ae7 X.K):=by
 intro value slice pins s σ H x y v u Q I rx ry h hs;obtain⟨p,xs,i,z,rfl,rfl,hq,he,q⟩:=h;cases rx;obtain⟨t,rfl⟩:=ry;obtain⟨bQ,r,pl,hz⟩:=I.list hq;obtain⟨j,h1,h2,h3,h4,h5⟩:=Ot he;obtain⟨w,ew,su⟩:=r.get h2;have hl:=r.length;have hn:=C9;have fin:EP X pins σ Q w s:=⟨z,H,I,su,q⟩;by_cases h0:0<=i
 .have hj:i.toNat=j:=by
   rw[seqIndex_of h0 h5] at h1;exact aZ h1
  exact item_listR pl.isList h0 @c (by rw[hj];simpa using ew) fin hs
 .have hj:(i+(bQ.toArray.size:Int)).toNat=j:=by
   rw[seqIndex_neg @c h4] at h1;rw[aX,<-hl];exact aZ h1
  exact subscriptTail_builtinR (x:=w) pl.isList.typeIs slot_list_getitem.lookup
   (wpAny_getItem_list_neg (Q:=λr s'=>r=w/\EP X pins σ Q r s') pl.isList @c (by rw[aX]<;>lia) @c (by rw[hj];simpa using ew) ⟨rfl,fin⟩) hs
theorem aaD:IxR X (ae6 X.K):=by
 intro value slice pins s σ H x y v u Q I rx ry h hs;obtain⟨p,xs,i,z,rfl,rfl,hq,he,q⟩:=h;cases rx;obtain⟨t,rfl⟩:=ry;obtain⟨bQ,r,pl,hz⟩:=I.tuple hq;obtain⟨j,h1,h2,h3,h4,h5⟩:=Ot he;obtain⟨w,ew,su⟩:=r.get h2;have hl:=r.length;have hn:=C9;have fin:EP X pins σ Q w s:=⟨z,H,I,su,q⟩;exact subscriptTail_builtinR (x:=w) pl.typeIs slot_tuple_getitem.lookup
  (getItem_tuple (j:=j) (Q:=λr s'=>r=w/\EP X pins σ Q r s') pl @c @c (by rw[aX,<-hl];exact h1) (by simpa using ew) ⟨rfl,fin⟩) hs
theorem LL (bQ:@C) (n j) (u):kj (·.setIfInBounds j u) {cls:=@ad,data:=.seq bQ.toArray n}={cls:=@ad,data:=.seq (bQ.set j u).toArray n}:=by
 simp[kj]
theorem Inv.lst(I:@k)(h:H p=some @a9):
  ∃(bQ:@C) (n:Nat),Vals xs bQ/\s.heap.get? p=some {cls:=@ad,data:=.seq bQ.toArray n}/\xs.length<=ba:=by
 obtain⟨z,bQ,n,r,e⟩:=I.cx p _ h;exact⟨bQ,n,r,e,z⟩
theorem Inv.aas{pins:@s}{σ:St}{H:Hp}{s:aB}{p:Addr}{xs ys:@y}{bQ its':@C}{n n':Nat}{f:Obj->Obj}(I:@k)(h:H p=some @a9)
  (ho:s.heap.get? p=some {cls:=@ad,data:=.seq bQ.toArray n}) (hf:f {cls:=@ad,data:=.seq bQ.toArray n}={cls:=@ad,data:=.seq its'.toArray n'}) (r:Vals ys its') (hz:ys.length<=ba) (t:Nat):
  Inv X pins σ (upd H p (.lst ys)) {s with heap:=s.heap.update p f,toks:=t}:=by
 have e:(s.heap.update p f).get? p=some {cls:=@ad,data:=.seq its'.toArray n'}:=by
  rw[kP f ho (by rw[hf]<;>rfl),hf]
 refine I.write (x:=p) (e:=p) (by rw[h];trivial) (@ac) (λb u hb q=>(d8 _ _ (cO hb)).trans q) ⟨_,e⟩ ?_;exact⟨hz,its',n',r,e⟩
def aca:V->V->V->Hp->(Hp->Prop)->Prop:=λo i v H Q=>∃p xs k j,o=.ref p/\i=.int k/\H p=some @a9/\Gx xs.length k=some j/\Q (upd H p (.lst (xs.set j v)))
theorem set_list:agY X aca:=by
 intro pins s σ H o i v ov iv u Q I ro ri rv h;obtain⟨p,xs,k,j,rfl,rfl,hp,hj,q⟩:=h;cases ro;obtain⟨t,rfl⟩:=ri;obtain⟨bQ,n,r,ho,hz⟩:=I.lst hp;obtain⟨h1,h2,h3,h4⟩:=NN hj;have hl:=r.length;have hn:=C9;have I':Inv X pins σ (upd H p (.lst (xs.set j v))) {s with heap:=s.heap.update p (kj (·.setIfInBounds j u))} :=
  I.aas hp ho (LL bQ n j u) (r.set rv j) (by rw[da];exact hz) s.toks
 by_cases h0:0<=k
 .have hk:k.toNat=j:=by
   rw[seqIndex_of h0 h4] at h1;exact aZ h1
  exact PySem.W.ki_setAt ho h0 @c (by rw[aX,<-hl];exact h4) (by rw[hk];exact⟨_,I',q⟩)
 .have hk:(k+(bQ.toArray.size:Int)).toNat=j:=by
   rw[seqIndex_neg @c h3] at h1;rw[aX,<-hl];exact aZ h1
  exact PySem.W.ki_setBack ho @c (by rw[aX,<-hl];exact h3) @c (by rw[hk];exact⟨_,I',q⟩)
theorem F4(lo hi)(n):(uj lo hi none n).1=((HT.kI n 0 lo:Nat):Int)/\(uj lo hi none n).2.1=((HT.kI n n hi:Nat):Int)/\(uj lo hi none n).2.2=1:=by
 refine⟨?_,?_,rfl⟩
 .cases lo with
  |none=>simp[uj,HT.kI]
  |some i=>
   simp only[uj,HT.kI,EE,show(1:Int)>0 by decide,if_true];by_cases h:i<0
   .simp only[h,if_true]<;>lia
   .simp only[h,if_false]<;>lia
 .cases hi with
  |none=>simp[uj,HT.kI]
  |some i=>
   simp only[uj,HT.kI,EE,show(1:Int)>0 by decide,if_true];by_cases h:i<0
   .simp only[h,if_true]<;>lia
   .simp only[h,if_false]<;>lia
theorem Ei(bQ:@C)(lo hi):slicePick bQ.toArray lo hi none=((bQ.drop (HT.kI bQ.length 0 lo)).take (HT.kI bQ.length bQ.length hi-HT.kI bQ.length 0 lo)).toArray:=by
 obtain⟨h1,h2,h3⟩:=F4 lo hi bQ.toArray.size;unfold slicePick;rw[h1,h2,h3];simp only[sliceRange_one,pick_run,aX]<;>rfl
def ae3(K:aw):V->@aW->@aW->Hp->VK->Prop:=λx lo hi H Q=>∃a xs,x=@V/\pO K H a xs/\∀p,H p=none->Q @aw (upd H p (.lst (JX xs lo hi)))
theorem M8:SlR X (ae3 X.K):=by
 intro pins s σ H x v vl vu lo hi sl Q I rx hs pl pu h;obtain⟨a,xs,rfl,hx,q⟩:=h;cases rx;obtain⟨bQ,r,ht,hz⟩:=I.list hx;have hlen:=r.length;refine⟨"list",_,slot_list_getitem.lookup,ht.isList.typeIs,?_⟩;refine wpAny_getItem_list_slice ht.isList hs pl pu .none @f ?_ (by rw[aX]<;>lia);rw[Ei,<-hlen];refine⟨@aE,_,I.laid (t':=s.toks) (o:=.lst (JX xs lo hi)) (λb ob q=>aJ _ q) @J ?_,rfl,q _ (@cf)⟩;exact⟨aU (Bb xs lo hi) hz,_,0,(r.drop (HT.kI xs.length 0 lo)).take (HT.kI xs.length xs.length hi-HT.kI xs.length 0 lo),@aX⟩
theorem He:Vg X (@ad) (λxs H Q=>∃p ys,xs=[.ref p]/\(pO X.K H p ys\/B1 X.K H p ys)/\∀l,H l=none->Q (@Y) (upd H l (.lst ys))):=by
 intro pins s σ H xs us Q I r h;obtain⟨p,ys,rfl,hq,q⟩:=h;obtain⟨u,rfl,rx⟩:=vals1 r;cases rx;have fin:∀(bQ:@C),Vals ys bQ->ys.length<=ba->∀(h':Heap) (c':Nat),(∀b o',@am=some o'->h'.get? b=some o') ->
   @c6=some {cls:=@ad,dict:=none,data:=.seq bQ.toArray c',slots:=#[]}->EP X pins σ Q (@aE) @as:=λbQ r' hz h' c' kp e=>
  ⟨@aE,_,I.laid (t':=s.toks) kp @J (show fY X.prog X.w _ h' _ (.lst ys) from⟨hz,bQ,c',r',e⟩),rfl,q _ (@cf)⟩
 rcases hq with hq |hq
 .obtain⟨bQ,r',pl,hz⟩:=I.list hq;have hlen:=r'.length;obtain⟨o,ho,hc,n,hd⟩:=pl.isList;exact call_list_seq p (@ac) ho hc hd (λh' c' kp e=>fin bQ r' hz h' c' kp e) (by simp only[aX]<;>lia)
 .obtain⟨bQ,r',pl,hz⟩:=I.tuple hq;have hlen:=r'.length;obtain⟨o,ho,hc,n,hd⟩:=pl;exact call_list_seq p (.inr rfl) ho hc hd (λh' c' kp e=>fin bQ r' hz h' c' kp e) (by simp only[aX]<;>lia)
theorem Ey:Vg X (@aj) (λxs H Q=>∃p ys,xs=[.ref p]/\((pO X.K H p ys/\∀l,H l=none->Q (@Y) (upd H l (.tup ys)))\/(B1 X.K H p ys/\Q @aw H))):=by
 intro pins s σ H xs us Q I r h;obtain⟨p,ys,rfl,h⟩:=h;obtain⟨u,rfl,rx⟩:=vals1 r;cases rx;rcases h with ⟨hq,q⟩ |⟨hq,q⟩
 .obtain⟨bQ,r',pl,hz⟩:=I.list hq;have hlen:=r'.length;refine call_tuple_list pl.isList (λh' kp=>?_) (by simp only[aX]<;>lia);have I1:Inv X pins σ H @as:=I.kept (t':=s.toks) kp;have I2:Inv X pins σ (upd H h'.objs.size (.tup ys)) {s with heap:=h'.push {cls:=@aj,data:=.seq bQ.toArray}} :=
   I1.laid (t':=s.toks) (λb o e=>aJ _ e) @J (show fY X.prog X.w _ _ _ (.tup ys) from⟨hz,bQ,r',IsTup.new _ _⟩)
  exact⟨.ref h'.objs.size,_,I2,rfl,q _ (I1.cx.fresh @J)⟩
 .obtain⟨bQ,r',pl,hz⟩:=I.tuple hq;exact call_tuple_same pl ⟨.ref p,H,I,rfl,q⟩
def tyV(K:aw)(T:String)(x:V)(H:Hp):Prop:=match x with
 |.str _=>T="str"
 |.int _=>T="int"
 | .ref p=>(T="list"/\∃xs,pO K H p xs)\/(T="tuple"/\∃o,K.lookup p=@i/\o.cls=@aj/\o.dict=none) \/
   (T="dict"/\((∃kvs,H p=some (.dK kvs))\/∃kvs,H p=some (.dT kvs)))\/(T="set"/\∃S n,H p=some (.set S n))
 |_=>False
theorem FU(I:@k)(r:RelV x v)(ty:tyV X.K T x H):
  s.TypeIs v T/\∀a,v=@V->∃ob,s.heap.get? a=some ob/\ob.dict=none:=by
 cases x with
 |str z=>
  obtain⟨t,rfl⟩:=r;cases(show T="str" from ty);exact⟨typeIs_str s z t,λ_ e=>nomatch e⟩
 |int i=>
  obtain⟨t,rfl⟩:=r;cases(show T="int" from ty);exact⟨typeIs_int s i t,λ_ e=>nomatch e⟩
 | ref p=>
  cases r;rcases ty with ⟨rfl,xs,hq⟩ |⟨rfl,o,hk,hc,hd⟩ |⟨rfl,hk⟩ |⟨rfl,S,n,hk⟩
  .obtain⟨bQ,_,pl,_⟩:=I.list hq;refine⟨pl.isList.typeIs,λa e=>?_⟩;cases e;obtain⟨o,n,e,c,hd,_⟩:=pl;exact⟨o,e,hd⟩
  .refine⟨⟨o,I.BU p o hk,hc⟩,λa e=>?_⟩;cases e;exact⟨o,I.BU _ o hk,hd⟩
  .have z:∃o,s.heap.get? p=@i/\o.ExactDict:=by
    rcases hk with ⟨kvs,hk⟩ |⟨kvs,hk⟩
    .obtain⟨_,_,_,_,o,_,_,e,ex,_⟩:=I.cx p _ hk;exact⟨o,e,ex⟩
    .obtain⟨_,_,_,_,o,_,_,e,ex,_⟩:=I.cx p _ hk;exact⟨o,e,ex⟩
   obtain⟨o,e,ex⟩:=z;refine⟨⟨o,e,ex.1⟩,λa e2=>?_⟩;cases e2;exact⟨o,e,ex.2.1⟩
  .obtain⟨o,_,_,_,e,ex,_⟩:=I.cx p _ hk;refine⟨⟨o,e,ex.1⟩,λa e2=>?_⟩;cases e2;exact⟨o,e,ex.2.1⟩
 |_=>exact bM ty
variable {o e:Expr} {es:@az} {to:TE} {t:TA} {name:Str} {apos jY:Pos} {T id:String} {r:V->@y->Hp->VK->Prop}
/- xs.append(e),list.index on a acz tuple .. are MtR facts of 06m -/
end
def MtM(X:Cx)(id:String)(r:V->@y->Hp->VK->Prop):Prop :=
 ∀(pins:@s) (s:aB) (σ:St) (H:Hp) (x:V) (xs:@y) (v:Value) (us:@C) (Q:VK),@k->RelV x v->Vals xs us->r x xs H Q ->
  wpAny @l X.A (call (.builtin id) (v::us)) (EP X pins σ Q) X.xe s
theorem Vals.one:∀{x:V} {us:@C},Vals [x] us->∃u,us=[u]/\RelV x u:=by
 intro x us h;cases h with
 |cons r t=>cases t;exact⟨_,rfl,r⟩
section
variable {X:Cx} {pins:@s} {σ:St} {H:Hp} {s:aB} {l b:Addr} {xs ys zs:@y}
theorem Inv.acB{bQ its':@C}{n:Nat}{f:@cp->@cp}{t':Nat}(I:@k)(hH:H l=some @a9)
  (e:@cA=some {cls:=@ad,data:=.seq bQ.toArray n}) (hf:f bQ.toArray=its'.toArray) (hv:Vals ys its') (hz:ys.length<=ba):
  Inv X pins σ (upd H l (.lst ys)) {s with heap:=s.heap.update l (kj f),toks:=t'}:=by
 have q:=PySem.IsL.update e f;rw[hf] at q;refine I.write (x:=l) (e:=l) (by rw[hH];exact trivial) (@ac) (λb' u hb hu=>(d8 s.heap (kj f) (cO hb)).trans hu) ⟨_,q⟩ ?_;exact⟨hz,its',_,hv,q⟩
theorem Inv.afx(I:@k)(hv:Vals ys bQ)(hz:ys.length<=ba):
  Inv X pins σ (upd H s.heap.objs.size (.lst ys)) {s with heap:=s.heap.push {cls:=@ad,data:=.seq bQ.toArray},toks:=t'} :=
 I.laid (λ_ _ q=>aJ _ q) @J ⟨hz,bQ,0,hv,@aX⟩
theorem Inv.acA (I:@k) (hH:H l=some @a9):xs.length<=ba/\∃(bQ:@C) (n:Nat),Vals xs bQ/\xs.length=bQ.length/\@cA=some {cls:=@ad,data:=.seq bQ.toArray n}:=by
 obtain⟨z,bQ,n,r,e⟩:=I.cx l _ hH;exact⟨z,bQ,n,r,r.length,e⟩
theorem SW(h:n<=ba):k6 n=false:=by
 unfold k6;exact @cR
end
section
variable {X:Cx}
def Wq:V->@y->Hp->VK->Prop:=λx vs H Q=>∃l xs y,x=@Y/\vs=[y]/\H l=some @a9/\xs.length<ba/\Q .fe (upd H l (.lst (xs++[y])))
theorem EZ:MtM X "list.append" Wq:=by
 intro pins s σ H x vs v us Q I rx rv h;obtain⟨l,xs,y,rfl,rfl,hH,hz,q⟩:=h;cases rx;obtain⟨u,rfl,ru⟩:=rv.one;obtain⟨z,bQ,n,r,hl,e⟩:=I.acA hH;refine KR F.slot_list_append ⟨_,e,rfl⟩ F.entry_list_append (F.args_list_append_2 _ _) (PySem.list_append l bQ.toArray n u (by rw[aX];lia)) ⟨e,?_⟩;refine⟨.fe,_,I.acB (its':=bQ++[u]) hH e @f (r.append (.cons ru .nil)) ?_,rfl,q⟩;rw[aA,cP];lia
end
section
variable {κ:Type} [@bd]
noncomputable def nX(kvs:List (κ×V))(k:κ):Option V:=(kvs.find? λkv=>decide (kv.1=k)).map (·.2)
noncomputable def putK(kvs:List (κ×V))(k:κ)(v:V):List (κ×V) :=
 if(kvs.any λkv=>decide (kv.1=k))=true then kvs.map (λkv=>if kv.1=k then(kv.1,v) else kv) else kvs++[(k,v)]
theorem uF{k:κ}(e:p.1=k):nX (p::r) k=@a3:=by simp[nX,dZ,e]
theorem uG{k:κ}(e:¬ p.1=k):nX (p::r) k=nX r k:=by simp[nX,dZ,e]
theorem Ib(k):∀kvs:List (κ×V),(kvs.any λkv=>decide (kv.1=k))=(nX kvs k).isSome
 |[]=>rfl
 |p::r=>by
  rw[ni];by_cases e:p.1=k
  .simp only[uF e,decide_eq_true e,Bool.true_or,Option.isSome_some]
  .rw[uG e,decide_eq_false e,QP];exact Ib k r
theorem AX(kvs)(k:κ)(v):(putK kvs k v).length<=kvs.length+1:=by
 unfold putK;split
 .rw[au];lia
 .rw[aA,ag,av];lia
theorem AA.rH(r:AA o u):o.isSome=u.isSome:=by
 cases o with
 |none=>cases u with
  |none=>rfl
  |some _=>exact(show False from r).elim
 |some _=>cases u with
  |none=>exact(show False from r).elim
  |some _=>rfl
theorem AA.getD(r:AA o u)(rd:RelV d d'):RelV (o.getD d) (u.getD d'):=by
 cases o with
 |none=>cases u with
  |none=>exact rd
  |some _=>exact(show False from r).elim
 |some _=>cases u with
  |none=>exact(show False from r).elim
  |some _=>exact r
theorem KV.val(r:KV kvs vs)(k:κ):AA (nX kvs k) (Q4 vs k):=by
 unfold KV at r;induction r with
 |nil=>exact gv
 | @cons p q ps qs h t ih=>
  obtain⟨h1,h2⟩:=h;by_cases e:p.1=k
  .have e':q.1=k:=h1.symm.trans e;have b:Q4 (q::qs) k=some q.2:=by simp[Q4,dZ,e']
   rw[uF e,b];exact h2
  .have e':¬ q.1=k:=λz=>e (h1.trans z);have b:Q4 (q::qs) k=Q4 qs k:=by simp[Q4,dZ,e']
   rw[uG e,b];exact ih
theorem KV.any(r:KV kvs vs)(k:κ):(kvs.any λkv=>decide (kv.1=k))=vs.any λkv=>decide (kv.1=k):=by
 unfold KV at r;induction r with
 |nil=>rfl
 |cons h t ih=>rw[ni,ni,ih,h.1]
theorem KV.RO(r:KV kvs vs)(k:κ)(ry:RelV y u):
  KV (kvs.map λkv=>if kv.1=k then(kv.1,y) else kv) (vs.map λkv=>if kv.1=k then(kv.1,u) else kv):=by
 unfold KV at r ⊢;induction r with
 |nil=>ext d
 |@cons p q ps qs h t ih=>
  rw[ak,ak];refine .cons ?_ ih;obtain⟨h1,h2⟩:=h;by_cases e:p.1=k
  .rw[if_pos e,if_pos (h1.symm.trans e)];exact⟨h1,ry⟩
  .rw[if_neg e,if_neg (λz=>e (h1.trans z))];exact⟨h1,h2⟩
theorem KV.put(r:KV kvs vs)(k:κ)(ry:RelV y u):KV (putK kvs k y) (stored vs k u):=by
 unfold putK stored;rw[r.any k];by_cases e:(vs.any λkv=>decide (kv.1=k))=true
 .rw[if_pos e,if_pos e];exact r.RO k ry
 .rw[if_neg e,if_neg e];exact Vm r ⟨rfl,ry⟩
theorem KV.length{vs:List (κ×Value)}(r:KV kvs vs):kvs.length=vs.length:=jA r
end
theorem Di(r:RelV (kV k) u):(c7 P w).is k u=true:=by
 cases k with
 |inl i=>obtain⟨t,e⟩:=(show ∃t,u=fZ i t from r);subst e;exact IY P w i t
 |inr x=>obtain⟨t,e⟩:=(show ∃t,u=Value.str x t from r);subst e;exact IX P w x t
theorem Fb:∀{ks:@bb} {us:@C},Vals (ks.map kV) us->ItemsAre (c7 P w) ks us
 |[],_,r=>by rw[aM] at r;cases r;ext d
 |k::ks,_,r=>by
  rw[ak] at r;cases r with
  |cons h t=>exact .cons (Di h) (Fb t)
abbrev KT(H:Hp):@bA->List (@bb×@bn)->Prop:=ma λp q=>p.1=q.1/\H q.2.1=some (.tup (p.1.map kV))/\RelV p.2 q.2.2
theorem KT.val(r:KT H kvs xs)(k):AA (nX kvs k) ((atKey xs k).map (·.2)):=by
 induction r with
 |nil=>exact gv
 | @cons p q ps qs h t ih=>
  obtain⟨h1,_,h2⟩:=h;by_cases e:p.1=k
  .have e':q.1=k:=h1.symm.trans e;have b:atKey (q::qs) k=some q.2:=by simp[atKey,dZ,e']
   rw[uF e,b];exact h2
  .have e':¬ q.1=k:=λz=>e (h1.trans z);have b:atKey (q::qs) k=atKey qs k:=by simp[atKey,dZ,e']
   rw[uG e,b];exact ih
theorem KT.RO(r:KT H kvs xs)(k)(ry:RelV y u):
  KT H (kvs.map λkv=>if kv.1=k then(kv.1,y) else kv) (xs.map (putAt k u)):=by
 induction r with
 |nil=>ext d
 |@cons p q ps qs h t ih=>
  rw[ak,ak];refine .cons ?_ ih;obtain⟨h1,h2,h3⟩:=h;unfold putAt;by_cases e:p.1=k
  .rw[if_pos e,if_pos (h1.symm.trans e)];exact⟨h1,h2,ry⟩
  .rw[if_neg e,if_neg (λz=>e (h1.trans z))];exact⟨h1,h2,h3⟩
theorem KT.put(r:KT H kvs xs)(k)(hb:H b=some (.tup (k.map kV)))(ry:RelV y u):
  KT H (putK kvs k y) (KJ xs k b u):=by
 have e:(kvs.any λkv=>decide (kv.1=k))=(atKey xs k).isSome:=by
  rw[Ib,(r.val k).rH,D7]
 unfold putK KJ;rw[e];by_cases q:(atKey xs k).isSome=true
 .rw[if_pos q,if_pos q];exact r.RO k ry
 .rw[if_neg q,if_neg q];exact Vm r ⟨rfl,hb,ry⟩
theorem KT.keeps(r:KT H kvs xs)(ht:∀b ys,H b=some (.tup ys)->H' b=some (.tup ys)):KT H' kvs xs :=
 Paired.Xr r λ_ _ z=>⟨z.1,ht _ _ z.2.1,z.2.2⟩
section
variable {P:bz} {w:World} {H:Hp} {h:Heap} {a:Addr}
theorem Yu(ok:@bc)(e:Rd H a u):fY P w H h a u:=e.ok ok
theorem wM(ok:@bc)(e:Rd H a (.dK kvs)):kvs.length<=ba/\@bQ/\∃vs,KV kvs vs/\h.DictOf (c7 P w) a vs :=
 show fY P w H h a (.dK kvs) from Yu ok e
theorem DI(ok:@bc)(e:H a=some (.dK kvs)):kvs.length<=ba/\@bQ/\∃vs,KV kvs vs/\h.DictOf (c7 P w) a vs:=wM ok (.inl e)
theorem z0(ok:@bc)(e:H a=some (.tup (ks.map kV))):(jJ (c7 P w)).is h ks a:=by
 obtain⟨_,bQ,r,o,h1,h2,n,h3⟩:=(show fY P w H h a (.tup (ks.map kV)) from ok a _ e);exact⟨o,bQ.toArray,n,h1,h2,h3,by simpa using Fb r⟩
theorem DH(ok:@bc)(e:Rd H a (.dT kvs)):kvs.length<=ba/\@bQ /\
  ∃xs,KT H kvs xs/\h.DictOfH (jJ (c7 P w)) a xs:=by
 obtain⟨z,y,xs,r,o,es,ep,h1,h2,h3,h4,h5⟩:=(show fY P w H h a (.dT kvs) from Yu ok e);refine⟨z,y,xs,r,o,es,ep,h1,h2,h3,h4,λx hx=>?_,h5⟩;have all:∀{l:@bA} {m:List (@bb×@bn)},KT H l m->∀x∈m,(jJ (c7 P w)).is h x.1 x.2.1:=by
  intro l m q;induction q with
  |nil=>intro x hx;exact nomatch hx
  |@cons p q ps qs hq t ih=>
   intro x hx;rcases List.mem_cons.mp hx with e |hx
   .subst e;exact z0 ok (by rw[<-hq.1];exact hq.2.1)
   .exact ih x hx
 exact all r x hx
theorem UE(ok:@bc)(e:H a=some (.dT kvs)):kvs.length<=ba/\@bQ /\
  ∃xs,KT H kvs xs/\h.DictOfH (jJ (c7 P w)) a xs:=DH ok (.inl e)
end
def D5(H:Hp)(a:Addr)(y:V)(r:Option V):Prop :=
 (∃kvs k,Rd H a (.dK kvs)/\y=kV k/\r=nX kvs k)\/∃kvs k b,Rd H a (.dT kvs)/\y=.ref b/\H b=some (.tup (k.map kV))/\r=nX kvs k
def QD(H:Hp)(a:Addr)(y v:V)(H':Hp):Prop :=
 (∃kvs k,H a=some (.dK kvs)/\y=kV k/\kvs.length<ba/\H'=upd H a (.dK (putK kvs k v))) \/
 ∃kvs k b,H a=some (.dT kvs)/\y=.ref b/\H b=some (.tup (k.map kV))/\kvs.length<ba/\H'=upd H a (.dT (putK kvs k v))
theorem D5.k{H:Hp}{a:Addr}{kvs:@aO}{k:Key}(e:H a=some (.dK kvs)):D5 H a (kV k) (nX kvs k):=.inl ⟨kvs,k,.inl e,rfl,rfl⟩
theorem D5.t{H:Hp}{a b:Addr}{kvs:@bA}{k:@bb}(e:H a=some (.dT kvs))(eb:H b=some (.tup (k.map kV))):D5 H a (.ref b) (nX kvs k):=.inr ⟨kvs,k,b,.inl e,rfl,eb,rfl⟩
theorem QD.k{H:Hp}{a:Addr}{kvs:@aO}{k:Key}{v:V}(e:H a=some (.dK kvs))(hl:kvs.length<ba):QD H a (kV k) v (upd H a (.dK (putK kvs k v))):=.inl ⟨kvs,k,e,rfl,hl,rfl⟩
theorem QD.t{H:Hp}{a b:Addr}{kvs:@bA}{k:@bb}{v:V}(e:H a=some (.dT kvs))(eb:H b=some (.tup (k.map kV)))(hl:kvs.length<ba):
  QD H a (.ref b) v (upd H a (.dT (putK kvs k v))):=.inr ⟨kvs,k,b,e,rfl,eb,hl,rfl⟩
section
variable {X:Cx} {pins:@s} {σ:St} {H:Hp} {s:aB} {a:Addr} {y v:V} {u r:Value} {o:Option V} {A:cZ} {E:@I}
theorem Inv.big(I:@k):dU<s.heap.objs.size:=by
 have h:bR<s.heap.objs.size:=(I.mod.glob.keeps I.bk).lt;exact Nat.lt_trans @t h
theorem As(hu:A.units+1<cLine)(I:@k)(g:D5 H a y (@W))(ry:RelV y u)(h:∀w' s',Inv X pins σ H s'->RelV v w'->Q w' s'):
  wpAny @l A (getItem @u u) Q E s:=by
 rcases g with ⟨kvs,k,e,ey,l⟩ |⟨kvs,k,b,e,ey,eb,l⟩
 .subst ey;obtain⟨z,hd,vs,rel,dd⟩:=wM I.cx e;obtain⟨w',hw,su⟩:=AA.some_of (v:=v) (o:=Q4 vs k) (by rw[l];exact rel.val k);exact wpAny_getItem_of (Di ry) dd.mapOf hw (h w' _ (@au) su)
 .subst ey;cases(show u=fu b from ry);obtain⟨z,hd,xs,rel,dd⟩:=DH I.cx e;obtain⟨w',hw,su⟩:=AA.some_of (v:=v) (o:=(atKey xs k).map (·.2)) (by rw[l];exact rel.val k);obtain⟨p,hp,nP⟩:=Option.map_eq_some_iff.mp hw;refine wpAny_getItem_heap (oU hu) (z0 I.cx eb) dd hp ?_;rw[nP];exact h w' _ (@au) su
theorem adG{Q:@I}(hu:A.units+1<cLine)(I:@k)(g:D5 H a y o)(ry:RelV y u)(h:∀s',Inv X pins σ H s'->Q (.bool o.isSome) s'):
  wpAny @l A (fh .In u @u) Q E s:=by
 rcases g with ⟨kvs,k,e,ey,l⟩ |⟨kvs,k,b,e,ey,eb,l⟩
 .subst ey;obtain⟨z,hd,vs,rel,dd⟩:=wM I.cx e;refine wpAny_in_of (Di ry) hd dd.mapOf ?_;rw[<-(rel.val k).rH,<-l];exact h _ (@au)
 .subst ey;cases(show u=fu b from ry);obtain⟨z,hd,xs,rel,dd⟩:=DH I.cx e;refine wpAny_in_heap (oU hu) (z0 I.cx eb) hd dd ?_;have q:=(rel.val k).rH;rw[D7] at q;rw[<-q,<-l];exact h _ (@au)
theorem Oe{Q:@I}(hu:A.units+1<cLine)(I:@k)(g:D5 H a y o)(ry:RelV y u)(h:∀s',Inv X pins σ H s'->Q (.bool (!o.isSome)) s'):
  wpAny @l A (fh .NotIn u @u) Q E s:=by
 rcases g with ⟨kvs,k,e,ey,l⟩ |⟨kvs,k,b,e,ey,eb,l⟩
 .subst ey;obtain⟨z,hd,vs,rel,dd⟩:=wM I.cx e;refine wpAny_notIn_of (Di ry) hd dd.mapOf ?_;rw[<-(rel.val k).rH,<-l];exact h _ (@au)
 .subst ey;cases(show u=fu b from ry);obtain⟨z,hd,xs,rel,dd⟩:=DH I.cx e;refine wpAny_notIn_heap (oU hu) (z0 I.cx eb) hd dd ?_;have q:=(rel.val k).rH;rw[D7] at q;rw[<-q,<-l];exact h _ (@au)
theorem sV(I:@k)(mu:Mut (H a))(hs:gN a s.heap h')(he:∃q,h'.get? a=some q)(new:fY X.prog X.w (upd H a ob) h' a ob):
  Inv X pins σ (upd H a ob) {s with heap:=h',toks:=t'} :=
 I.write (x:=a) (e:=a) mu (@ac) (λb q hb z=>(hs.2 b hb).trans z) he new
theorem DJ(z:kvs.length<=ba)(hd:@bQ)(rel:KV kvs vs)(dd:h'.DictOf (c7 P w) a vs):
  fY P w H' h' a (.dK kvs):=⟨z,hd,vs,rel,dd⟩
theorem Qk{H':Hp}{Q:Unit->@af}(hu:A.units+1<cLine)(I:@k)(g:QD H a y v H')(ry:RelV y u)(rv:RelV v r)(h:∀s',@ce->Q () s'):
  wpAny @l A (setItem @u u r) Q E s:=by
 rcases g with ⟨kvs,k,e,ey,l,eH⟩ |⟨kvs,k,b,e,ey,eb,l,eH⟩
 .subst ey eH;obtain⟨z,hd,vs,rel,dd⟩:=DI I.cx e;have hz:vs.length<=ba:=by rw[<-rel.length];exact z
  have hl:(putK kvs k v).length<=ba:=by have:=AX kvs k v;lia
  refine wpAny_setItem_pairs (hsz:=hz) (Di ry) dd λh' A7 hs=>h _ ?_;have he:∃q,h'.get? a=some q:=let ⟨q,_,_,hq,_⟩:=A7;⟨q,hq⟩
  exact sV I (by rw[e];exact gv) hs he (DJ hl hd (rel.put k rv) A7)
 .subst ey eH;cases(show u=fu b from ry);obtain⟨z,hd,xs,rel,dd⟩:=UE I.cx e;have hz:xs.length<=ba:=by rw[<-jA rel];exact z
  have hl:(putK kvs k v).length<=ba:=by have:=AX kvs k v;lia
  refine wpAny_setItem_heap (hsz:=hz) (oU hu) (z0 I.cx eb) dd λh' A7 hs=>h _ ?_;obtain⟨q,es,ep,hq,h2,h3,h4,_,h5⟩:=A7;refine sV I (by rw[e];exact gv) hs ⟨q,hq⟩ ⟨hl,hd,_,(rel.put k eb rv).keeps λc ys ec=>?_,q,es,ep,hq,h2,h3,h4,h5⟩;rw[bH (YG ec e @bs)];exact ec
end
section
variable {X:Cx} {pins:@s} {σ:St} {H:Hp} {s:aB} {a:Addr} {kvs:@aO} {k:Key} {u:Value} {A:cZ} {E:@I}
theorem Y9 {Q:@I} (I:@k) (e:Rd H a (.dK kvs)) (h:∀t s',Inv X pins σ H s'->Q (.int kvs.length t) s'):wpAny @l A (call (.builtin "len") [@V]) Q E s:=by
 obtain⟨z,hd,vs,rel,dd⟩:=wM I.cx e;refine call_len_dict hd dd (by rw[<-rel.length];rw[c5] at z;lia) ?_;rw[<-rel.length];exact h _ _ (@au)
theorem XW{Q:Bool->@af}(I:@k)(e:Rd H a (.dK kvs))(h:∀s',Inv X pins σ H s'->Q (!kvs.isEmpty) s'):wpAny @l A (truthy @u) Q E s:=by
 obtain⟨z,hd,vs,rel,dd⟩:=wM I.cx e;refine KH hd dd (by rw[<-rel.length];rw[c5] at z;lia) ?_;have q:kvs.isEmpty=vs.isEmpty:=by cases rel<;>rfl
 rw[<-q];exact h _ (@au)
end
theorem vk         (I:@k) (g:D5 H a y o):s.TypeIs @u "dict":=by
 rcases g with ⟨kvs,k,e,_,_⟩ |⟨kvs,k,b,e,_,_,_⟩
 .obtain⟨_,_,vs,_,dd⟩:=wM I.cx e;exact dd.typeIs
 .obtain⟨_,_,xs,_,dd⟩:=DH I.cx e;exact dd.typeIs
theorem DL    (h:Heap) (hb:dU<h.objs.size):fY P w H (h.push {cls:=@aZ,data:=.dict #[]}) h.objs.size (.dK []) :=
 ⟨cI _,beq_eq_false_iff_ne.mpr (cO (bu hb)),[],.nil,Heap.DictOf.new h⟩
def Zz:TE:=λ_ H Q=>∀p,H p=none->Q @aw (upd H p (.dK []))
section
variable {X:Cx} {pos:Pos}
theorem Ss:PE X (.Dict [] [] pos) Zz:=λpins s σ H Q I h=>
 wpAny_Dict_empty ⟨@aE,_,I.laid (a:=s.heap.objs.size) (o:=.dK []) (t':=s.toks) (λ_ _ q=>aJ _ q) @J (DL s.heap I.big),rfl,h _ (@cf)⟩
end
abbrev VV:List (V×V)->List (Value×Value)->Prop:=ma λp q=>RelV p.1 q.1/\RelV p.2 q.2
def CV(kvs more:@aO):@aO:=more.foldl (λacc kv=>putK acc kv.1 kv.2) kvs
theorem KV.merge:∀{more:@aO} {rs:List (Key×Value)} {kvs:@aO} {vs:List (Key×Value)},KV more rs->KV kvs vs->KV (CV kvs more) (merged vs rs):=by
 intro more rs kvs vs r;unfold KV at r;induction r generalizing kvs vs with
 |nil=>intro q;exact q
 | @cons p q ps qs h t ih=>
  intro r0;have e:KV (putK kvs p.1 p.2) (stored vs q.1 q.2):=by
   have:=r0.put p.1 h.2;rw[<-h.1];ext g
  exact ih e
theorem xt:∀{kvs:@aO} {ws:List (Value×Value)},VV (kvs.map λkv=>(kV kv.1,kv.2)) ws->∃rs,Carries (c7 P w) ws rs/\KV kvs rs
 |[],_,r=>by rw[aM] at r;cases r;exact⟨[],gv,.nil⟩
 | p::kvs,_,r=>by
  rw[ak] at r;cases r with
  |@cons a b as bs h t=>
   obtain⟨rs,c,q⟩:=xt (P:=P) (w:=w) t;obtain⟨b1,b2⟩:=b;exact⟨(p.1,b2)::rs,⟨Di h.1,rfl,c⟩,.cons ⟨rfl,h.2⟩ q⟩
def IsD(H:Hp)(a:Addr):Prop:=(∃kvs,Rd H a (.dK kvs))\/∃kvs,Rd H a (.dT kvs)
theorem TL(I:@k)(d:IsD H a):
  s.TypeIs @u "dict"/\(∀b,fu a=.ref b->∃ob,@am=some ob/\ob.dict=none)/\@bQ:=by
 rcases d with ⟨kvs,e⟩ |⟨kvs,e⟩
 .obtain⟨_,hd,vs,_,dd⟩:=wM I.cx e;refine⟨dd.typeIs,λb q=>?_,hd⟩;cases q;obtain⟨ob,_,_,h1,h2,_⟩:=dd;exact⟨ob,h1,h2.2.1⟩
 .obtain⟨_,hd,xs,_,dd⟩:=DH I.cx e;refine⟨dd.typeIs,λb q=>?_,hd⟩;cases q;obtain⟨ob,_,_,h1,h2,_⟩:=dd;exact⟨ob,h1,h2.2.1⟩
end L2
namespace Att
open PySem PySem.W PySem.Calls PyProof.Rows
theorem Bs:∀(ns:@D) (vs:@C),WellAll P h vs (ns.map WData.int)->oX vs ns:=by
 intro ns;induction ns with
 |nil=>
  intro vs w;rw[aM] at w;cases w;ext d
 | cons n ns ih=>
  intro vs w;rw[ak] at w;cases w with
  |cons a b=>
   cases a;exact .cons _ _ (ih _ b)
theorem OY{l:OpenLaw}(hn:l.most=some n)
  (XB:l.row.toRowW.claim.pre args=true) (hwl:WellAll P h vals args):
  ∃a vs ns,vals=[fu a]/\args=[WData.list (ns.map WData.int)]/\@aJ=some {cls:=@ad,data:=.seq vs.toArray}/\oX vs ns/\ns.length<=n:=by
 have hsh:WShape.hasAll [] args [.list .int]=true:=(pre_splitW XB).1;have hc:l.pre.holds [] {args:=args}=true:=(pre_splitW XB).2;obtain⟨d,r,rfl,h1,h2⟩:=hasAllW_cons hsh;obtain rfl:=hasAllW_nil h2;obtain⟨xs,rfl,h3⟩:=hasW_list h1;obtain⟨ns,rfl⟩:=items_int h3;have hlen:ns.length<=n:=by
  unfold OpenLaw.pre at hc;have h4:(WTm.not (.lt (.lit (.int (n:Int))) (.len (.arg 0)))).holds [] {args:=[.list (ns.map .int)]}=true:=by
   have h4:=(holds_andW hc).1;rw[hn] at h4;exact h4
  have h5:=condW_of h4 (w_not (w_lt w_lit (w_len_list (w_arg rfl))));rw[au] at h5;refine Nat.le_of_not_lt λq=>?_;have q':(n:Int)<((ns.length:Nat):Int):=@d
  first
   |(rw[decide_eq_true q'] at h5;exact absurd h5 @t)
   |(simp at h5;lia)
 cases hwl with
 |cons w1 w2=>
  cases w2;cases w1 with
  |list ho yV=>exact⟨_,_,ns,rfl,rfl,ho,Bs ns _ yV,hlen⟩
theorem Pj(l:OpenLaw)(args):l.row.toRowW.claim.post args (.bool true) args=true :=
 postW_of (r:=l.row.toRowW) (X:=(true == true))
  (show WShape.has [] (.bool true) .bool=true by first |rfl |decide |simp[WShape.has,WShape.arms,WShape.armsAll])
  (show(WTm.eq .res (.lit (.bool true))).value [] {args:=args,res:=some (.bool true),after:=args}=some (.bool (true == true)) from w_eq_bool (w_res rfl) w_lit) rfl
theorem J8{l:OpenLaw}{n:Nat}{q:bz}{loose:@v}{XP:(@aV)->Heap->Prop}{YP:World->Heap->Prop}{d:DefRec}
  (hn:l.most=some n) (hdf:d.params.defaults=[])
  (call:∀(w:World) (jM fL:aB) (mg mb:@aV) (fa:Addr) (o:Obj) (pm cd doc:Value) (a:Addr) (vs:@C) (ns:@D),
   Ground q loose [] XP w jM mg mb fL.heap->YP w fL.heap ->
   fL.heap.get? fa=@i->o.data=.func (docDef d.name d.params d.body d.scope pm cd doc)->fL.heap.CodeRec cd d.name->mg d.name=some (.ref fa) ->
   fL.heap.get? a=some {cls:=@ad,data:=.seq vs.toArray}->oX vs ns->ns.length<=n->fL.gens=#[] ->
   Cb (model l.prog w) KQ (.call (.ref fa) ⟨[@V],[]⟩) (λr s'=>r=.ok (.ret (.bool true))/\OldK fL.heap s'.heap/\s'.os=fL.os/\Ci s'.gens) fL):
  WalkO q loose XP YP l.row.toRowW d [] (λf vs=>MQ f vs):=by
 intro w jM fL mg mb G Y fa o pm cd doc dV kV ho hd NU hD hmg hg args vals as XB akP hrd hwl hlo;obtain rfl:dV=.none:=Dflts.none hD hdf;obtain rfl:kV=.none:=Dflts.noKw hD;obtain⟨a,vs,ns,rfl,rfl,T7,hints,hlen⟩:=OY hn XB hwl;refine enter_call (qS (call w jM fL mg mb fa o pm cd doc a vs ns G Y ho (fd_plain hd) NU hmg T7 hints hlen hg) λr s' hq=>?_);obtain⟨rfl,h2,h3,h4⟩:=hq;exact⟨.inl ⟨.bool true,.bool true,[],rfl,λ_=>rfl,.bool true,Pj l _,λ_=>⟨List.Pairwise.nil,λ_ hm=>(nomatch hm)⟩⟩,h2,h3,h4⟩
end Att
namespace L2
open PySem PySem.Spec PyProof.Rows
theorem EF:∀{vs:@C} {ns:@D},oX vs ns->Vals (@cr) vs
 |_,_,.nil=>.nil
 |_,_,.cons n t h=>.cons ⟨t,rfl⟩ (EF h)
def Yd(H:Hp):Prop:=∀b,H b=none\/∃o xs,H b=some (.ji o @a9)
theorem Tq{K:aw}
  (KX:K.In fL.heap) (P5:fL.heap.Ns bR mg) (hb:fL.heap.Ns builtinsNs mb) (hbb:∀x:Str,x≠"__name__"->mb x=eM x) (aga:fL.heap.NoLimit) (hg:fL.gens=#[])
  (ha:fL.heap.get? a=some {cls:=@ad,data:=.seq vs.toArray}) (hi:oX vs ns) (hl:ns.length<=ba) (hr:kg k KQ)
  (F:∀base:Heap,K.In base->base.Ns bR mg->vI P w K mg base CX k fa fd [x] sp) (adl:∀(s:aB) (u:Value),BindsTo s fd ⟨[u],[]⟩ [(x,u)])
  (TZ:∀H:Hp,Yd H->pO K H a (@cr)->sp [@V] H (λv _=>v=.bl true) λ_ _ _=>False)
  (hCX:∀H e s',CX [] H fL (λ_ _ _=>False) e s'->False):
  Cb (model P w) KQ (.call (.ref fa) ⟨[@V],[]⟩) (λr s'=>r=.ok (.ret (.bool true))/\OldK fL.heap s'.heap/\s'.os=fL.os/\Ci s'.gens) fL:=by
 have rv:=EF hi;have afy:=hi.length;have core:∀H:Hp,Yd H->pO K H a (@cr)->pZ P w H fL.heap->(∀b,H b≠none->b=a)->(H a≠none->K.lookup a=none) ->
   Cb (model P w) KQ (.call (.ref fa) ⟨[@V],[]⟩) (λr s'=>r=.ok (.ret (.bool true))/\OldK fL.heap s'.heap/\s'.os=fL.os/\Ci s'.gens) fL:=by
  intro H hO hS cx hA hK;have Oq:∀{b:Addr} {o:Obj},fL.heap.get? b=@i->H b=none->(GA fL.heap H).get? b=@i:=λe n=>Ub e n;have noA:∀{b:Addr} {o:Obj} {es:Array gJ} {ep:Nat},fL.heap.get? b=@i->o.data=.dict es ep->H b=none:=λ{b o es ep} e d=>by
   cases q:H b with
   |none=>rfl
   |some u=>
    have e':b=a:=hA b (by rw[q];simp);subst e';rw[ha] at e;cases e;have d':Data.seq vs.toArray _=Data.dict es ep:=d;cases d'
  have nsK:∀{b:Addr} {m:@aV},fL.heap.Ns b m->(GA fL.heap H).Ns b m:=λ{b m} ⟨o,es,ep,e,d,r⟩=>⟨o,es,ep,Oq e (noA e d),d,r⟩;have hKb:K.In (GA fL.heap H):=λb o e=>Oq (KX b o e) (by
   cases q:H b with
   |none=>rfl
   |some u=>
    have e':b=a:=hA b (by rw[q];simp);subst e';rw[hK (by rw[q];simp)] at e;cases e)
  have hM:Mod K mg (GA fL.heap H):=⟨hKb,nsK P5,⟨mb,nsK hb,hbb⟩,let ⟨mc,h1,h2⟩:=aga;⟨mc,nsK h1,h2⟩⟩;have e0:Vf P w K mg (GA fL.heap H) KQ [] fL H:=⟨rfl,hM,λb o e=>Xl e,VP (P8 _ _),trivial,λb hb=>absurd (show b∈([]:@aG) from hb) @f,cx,.of_eq hg⟩;refine qS ((F _ hKb (nsK P5)).run KQ [] fL H ⟨[@V],[]⟩ [@V] [@V] _ _ hr e0 (adl fL @u) (.cons rfl .nil) (TZ H hO hS)) λr s' h=>?_;cases r with
  |error e=>exact(hCX H e s' h).elim
  | ok fl=>
   cases fl with
   |next=>exact bM h
   |brk=>exact bM h
   |cont=>exact bM h
   | ret u=>
    obtain⟨v,H',os,bare,un,L7,r',q⟩:=h;have q':v=.bl true:=q;subst q';obtain rfl:u=Value.bool true:=r';refine⟨rfl,OldK.of_keep λb o e=>?_,os,bare⟩;cases q:H b with
    |none=>exact un.keep b o e q (by intro z;exact absurd (show b∈([]:@aG) from z) @f) @f
    |some u=>
     rcases hO b with z |⟨ob,xs,z⟩
     .rw[q] at z;cases z
     .have z2:=un.sQ b ob _ z;obtain⟨e1,_⟩:=cx b _ z;obtain⟨e2,_⟩:=L7 b _ z2;rw[e] at e1;cases e1;exact e2
 cases hk:K.lookup a with
 |some o=>
  have e:=KX a o hk;rw[ha] at e;cases e;refine core (λ_=>none) (λ_=>@ac) (.inr ⟨_,vs.toArray,_,hk,rfl,rfl,rfl,by rw[aX,afy];exact hl,by simpa using rv⟩) (λb u z=>by have z':(none:Option HO)=@L:=z;cases z') (λb z=>absurd rfl z) λz=>absurd rfl z
 | none=>
  refine core (λb=>if b=a then some (.ji {cls:=@ad,data:=.seq vs.toArray} (.lst (@cr))) else none) (λb=>?_) (.inl (.inr ⟨{cls:=@ad,data:=.seq vs.toArray},if_pos rfl⟩)) (λb u z=>?_) (λb z=>?_) λ_=>hk
  .by_cases hb:b=a
   .exact .inr ⟨_,_,if_pos hb⟩
   .exact .inl (if_neg hb)
  .by_cases hb:b=a
   .have z':=(if_pos hb).symm.trans z;cases z';subst hb;exact⟨ha,by rw[au];exact hl,vs,_,rv,ha⟩
   .have z':=(if_neg hb).symm.trans z;cases z'
  .by_cases hb:b=a
   .exact hb
   .exact absurd (if_neg hb) z
theorem VZ{l:FO}{n k:Nat}{q:bz}{loose:@v}{XP:(@aV)->Heap->Prop}{YP:World->Heap->Prop}{d:DefRec}{K:qb->aw}{CX:World->QE}{sp:World->Sp}{x:Str}
  (hn:l.most=some n) (hn2:n<=ba) (hdf:d.params.defaults=[]) (hr:kg k KQ)
  (hY:∀(w:World) (h:Heap),YP w h->(K w.params).In h)
  (F:∀(w:World) (mg:@aV) (fa:Addr) (h:Heap),(K w.params).In h->h.Ns bR mg->mg d.name=some (.ref fa) ->
   ∃fd:gc,(∀(s:aB) (u:Value),BindsTo s fd ⟨[u],[]⟩ [(x,u)]) /\
    ∀base:Heap,(K w.params).In base->base.Ns bR mg->vI l.prog w (K w.params) mg base (CX w) k fa fd [x] (sp w))
  (TZ:∀(w:World) (H:Hp) (a:Addr) (ns:@D),ns.length<=n->Yd H->pO (K w.params) H a (@cr)->sp w [@V] H (λv _=>v=.bl true) λ_ _ _=>False)
  (hCX:∀(w:World) (H:Hp) (s:aB) (e:Value) (s':aB),CX w [] H s (λ_ _ _=>False) e s'->False):
  PySem.W.WalkO q loose XP YP l.row.toRowW d [] (λf vs=>MQ f vs):=by
 refine Att.J8 hn hdf λw jM fL mg mb fa o pm cd doc a vs ns G Y ho hd NU hmg T7 hints hlen hg=>?_;have KX:=hY w _ Y;obtain⟨fd,hb,hF⟩:=F w mg fa _ KX G.T.g hmg;exact Tq KX G.T.g G.T.b G.T.builtins G.T.nolimit hg T7 hints (aU hlen hn2) hr hF hb (λH hO hS=>TZ w H a ns hlen hO hS) λH e s'=>hCX w H fL e s'
end L2
/- THE amc aeD (shape;LID,My.* are aha):
   My.Adr:a structure of the addresses aje ai6 ahO names (classes,abH);My.Txt K t:a structure (Prop) of the equations over K;
   My.aeR:{K} {implicit addresses ..} (e1:nsIn K bR "law"=some (some (.ref f))) (e2:K.lookup f=some ⟨oc,od,.func (fnOf "law" "law" params body scope dV kV doc pm an i8 ct),sl⟩) (e3:codeIn K i8 "law"=true) ..:∃t,My.Txt K t
(the tactic k_is has no namespace:write k_is) -/
namespace L2
open PySem PySem.Spec PyProof.Rows
abbrev MN:QE:=λ_ _ _ _ _ _=>False
abbrev E0:XK:=λ_ _ _=>False
theorem YA:Passes MN X E0:=λ_ _ _ _ _ _ _ h=>h.elim
structure VI(K:aw)(x qual:Str)(st:Stmt)(f:Addr)(fd:gc):Prop where
 ex:∃(oc:Value) (od:Option Addr) (kV doc pm:Value) (an:Option Addr) (i8 ct:Value) (Nt:Array (@b9)),
  fd=lU x qual (jD st) (fN st) @aH .none kV doc pm an i8 ct/\K.lookup f=some ⟨oc,od,.func fd,Nt⟩/\HQ K i8 qual=true
 kp:nM K (.ref f)=true
section
variable {P:bz} {w:World} {K:aw} {mg:@aV} {base:Heap}
theorem VI.ok{st:Stmt}(F:VI K x qual st f fd)(S:kZ N ps @aH)(len:∀vs H Q E,sp vs H Q E->vs.length=ps.length)
  (Ue:∀(i8:Value) (A:cZ) (outer:@bj) (s:aB) (H:Hp) (vs:@y) (Q:VK) (E:XK),kg k (A.deeper (Ca qual @aH s.heap.objs.size f i8))->sp vs H Q E ->
   ∃t,PSs (xp MN P w K mg base N qual @aH f i8 A outer s H E).nox (fN st) t/\t {nx:=λ_ H'=>Q .fe H',rt:=Q} (start N vs) H):vI P w K mg base MN (k+1) f fd ps sp:=by
 obtain⟨oc,od,kV,doc,pm,an,i8,ct,Nt,rfl,lk,NU⟩:=F.ex;refine Y4 lk NU S len λA outer s H vs Q E hr TZ=>?_;obtain⟨t,h,q⟩:=Ue i8 A outer s H vs Q E hr TZ;exact⟨t,h.nox,q⟩
theorem VI.binds{st:Stmt}(F:VI K x qual st f fd)
  (h:∀(kV doc pm:Value) (an:Option Addr) (i8 ct:Value) (us:@C),us.length=ps.length->QI (lU x qual (jD st) (fN st) @aH .none kV doc pm an i8 ct) ⟨us,[]⟩=pure (ps.zip us)):Binds K fd ps []:=by
 obtain⟨oc,od,kV,doc,pm,an,i8,ct,Nt,rfl,lk,NU⟩:=F.ex;exact .all (h kV doc pm an i8 ct)
theorem aa0{st:Stmt}{kV:Value}(l:K.lookup f=some ⟨oc,od,.func (lU x qual (jD st) (fN st) @aH .none kV doc pm an i8 ct),Nt⟩)
  (c:HQ K i8 qual=true) (k:nM K (.ref f)=true):VI K x qual st f (lU x qual (jD st) (fN st) @aH .none kV doc pm an i8 ct):=⟨⟨oc,od,kV,doc,pm,an,i8,ct,Nt,rfl,l,c⟩,k⟩
end
end L2
section
namespace K2
open PySem (Str)
abbrev PK:=List (List (@D))
inductive D where
 |fe |bl (b:Bool) |int (i:Int) |str (x:Str) |tup (ds:@e) |dc (ds:@e) |kU (kvs:@ag) |ref (a:Nat) |exc (c:Str) |Et (c:Str) (ns:@v) (ds:@e) |qJ (kvs:@cd)
 deriving Inhabited
inductive GO where
 |lst (ds:@e)
 |gz (kvs:@ag)
 |ins (c:Str) (fs:List (Str×D))
 |tR (kvs:@cd)
abbrev Gp:=Nat->Option GO
noncomputable def dw(G:Gp)(a:Nat)(o:GO):Gp:=λb=>if b=a then @i else G b
theorem ax:dw G a o a=@i:=by unfold dw;rw[if_pos rfl]
theorem cu(h:b≠a):dw G a o b=G b:=by unfold dw;rw[if_neg h]
noncomputable abbrev SZ:Nat:=16777216
structure Ex where
 cls:Str
 alL:List (Str×D)
abbrev mK:=Ex->@B
abbrev jx:=List (Option D)
abbrev DK:=D->@B
abbrev gC:=mK->jx->Gp->DK->Prop
abbrev Bc:=mK->jx->Gp->(Bool->@B)->Prop
abbrev Az:=mK->jx->Gp->(@e->@B)->Prop
structure nR where
 nx:jx->@B
 rt:DK
 bk:jx->@B
 ct:jx->@B
abbrev gq:=mK->nR->jx->@B
abbrev iS:=@e->Gp->DK->mK->Prop
abbrev Ed:=D->D->Gp->DK->Prop
noncomputable def Gx(n:Nat)(i:Int):Option Nat:=if 0<=i then(if i<n then some i.toNat else none) else if -(n:Int)<=i then some (i+n).toNat else none
def rN{α:Type}(xs:@o)(i:Int):Option α:=(Gx xs.length i).bind λj=>xs[j]?
noncomputable def kI(n d:Nat):@aW->Nat
 |none=>d
 |some v=>if v<0 then(v+(n:Int)).toNat else min v.toNat n
def cut{α:Type}(xs:@o)(lo hi:@aW):@o:=(xs.drop (kI xs.length 0 lo)).take (kI xs.length xs.length hi-kI xs.length 0 lo)
mutual
noncomputable def i7:D->D->Bool
 |.fe,.fe=>true
 |.bl a,.bl b=>a == b
 |.bl a,.int b=>(if a then 1 else 0) == b
 |.int a,.bl b=>a == (if b then 1 else 0)
 |.int a,.int b=>a == b
 |.str a,.str b=>a == b
 |.tup a,.tup b=>mS a b
 |.dc a,.dc b=>mS a b
 |_,_=>false
noncomputable def mS:@e->@e->Bool
 |[],[]=>true
 |a::r,b::t=>i7 a b&&mS r t
 |_,_=>false
end
mutual
noncomputable def nr:D->Bool
 |.ref _=>false
 |.exc _=>false
 |.Et _ _ _=>false
 |.kU _=>false
 |.qJ _=>false
 |.str x=>x.cps.all (·<0x110000)
 |.tup ds=>tJ ds
 |.dc ds=>tJ ds
 |_=>true
noncomputable def tJ:@e->Bool
 |[]=>true
 |d::r=>nr d&&tJ r
end
class inductive Sn (G:Gp):Nat->D->D->Prop
 |fe {n:Nat}:Sn G n .fe .fe
 |bl {n:Nat} (b:Bool):Sn G n (.bl b) (.bl b)
 |int {n:Nat} (i:Int):Sn G n (@w) (@w)
 |str {n:Nat} (x:Str) (h:x.cps.all (·<0x110000)=true):Sn G n (.str x) (.str x)
 |Ld {n:Nat}:Sn G (n+1) (.tup []) (.tup [])
 |uH {n:Nat} {d s:D} {ds ss:@e}:Sn G n d s->Sn G (n+1) (.tup ds) (.tup ss)->Sn G (n+1) (.tup (d::ds)) (.tup (s::ss))
 |El {n:Nat}:Sn G (n+1) (.dc []) (.dc [])
 |wJ {n:Nat} {d s:D} {ds ss:@e}:Sn G n d s->Sn G (n+1) (.dc ds) (.dc ss)->Sn G (n+1) (.dc (d::ds)) (.dc (s::ss))
 |ref {n:Nat} {a:Nat} {ds ss:@e}:G a=@bq->Sn G n (.dc ds) (.dc ss)->Sn G n @u (.dc ss)
noncomputable abbrev SN:Nat:=8
theorem Sn.nr(h:Sn G n d t):K2.nr t=true:=by
 induction h with
 |fe=>rfl
 |bl b=>rfl
 |int i=>rfl
 |str x h=>exact h
 |Ld=>rfl
 |uH _ _ TV TU=>
  show(K2.nr _&&K2.tJ _)=true;rw[TV];exact TU
 |El=>rfl
 |wJ _ _ TV TU=>
  show(K2.nr _&&K2.tJ _)=true;rw[TV];exact TU
 |ref _ _ ih=>exact ih
noncomputable def tH(k:PK):D:=.tup (k.map λr=>.tup (r.map λt=>.tup (t.map D.int)))
noncomputable def dq:D->Bool
 |.int _=>true
 |.str _=>true
 |_=>false
def Ih:D->Gp->Option Bool
 |.fe,_=>some false
 |.bl b,_=>some b
 |.int i,_=>some (i != 0)
 |.str x,_=>if x.length<=SZ then some ((x.length:Int) != 0) else none
 |.tup ds,_=>some (!ds.isEmpty)
 |.dc ds,_=>some (!ds.isEmpty)
 |.exc _,_=>none
 |.Et _ _ _,_=>none
 |.qJ _,_=>none
 |.kU kvs,_=>if(@cz)=true then some (!kvs.isEmpty) else none
 |.ref a,G=>match G a with
  |some (.lst ds)=>some (!ds.isEmpty)
  |some (.gz kvs)=>if(@cz)=true then some (!kvs.isEmpty) else none
  |_=>none
def ar(i:Nat):gC:=λ_ τ G Q=>match τ[i]? with
 |some (some d)=>Q d G
 |_=>False
def dC(d:D):gC:=λ_ _ G Q=>Q d G
def aK:Az:=λ_ _ G Q=>Q [] G
def aq(a:gC)(r:Az):Az:=λE τ G Q=>a E τ G λx G1=>r E τ G1 λxs G2=>Q (x::xs) G2
def eQ(t:Az):gC:=λE τ G Q=>t E τ G λds G1=>ds.length<=SZ/\Q (.tup ds) G1
def eS(t:Az):gC:=λE τ G Q=>t E τ G λds G1=>ds.length<=SZ/\∀p,G1 p=none->Q @aw (dw G1 p (.lst ds))
def aN(r:Ed)(a b:gC):gC:=λE τ G Q=>a E τ G λx G1=>b E τ G1 λy G2=>r x y G2 Q
def HJ(r:D->Gp->DK->Prop)(a:gC):gC:=λE τ G Q=>a E τ G λx G1=>r x G1 Q
def iQ(G:Gp)(o:GO)(Q:DK):Prop:=∀p,G p=none->Q @aw (dw G p o)
def MulOk(i j:Int):Prop:=(-(2 ^ 64)<i/\i<2 ^ 64)\/(-(2 ^ 64)<j/\j<2 ^ 64)
noncomputable def qm:D->Gp->Option (@e)
 |.dc ds,_=>some ds
 |.ref a,G=>match G a with
  |some (.lst ds)=>some ds
  |_=>none
 |_,_=>none
def Ho(x y:D)(G:Gp)(Q:DK):Prop:=match qm x G,qm y G with
 |some xs,some ys=>xs.length+ys.length<=SZ/\iQ G (.lst (xs++ys)) Q
 |_,_=>False
def fk:Ed
 |.int i,.int j,G,Q=>Q (.int (i+j)) G
 |.str a,.str b,G,Q=>a.length+b.length<=SZ/\Q (.str (a++b)) G
 |.tup a,.tup b,G,Q=>a≠[]/\a.length+b.length<=SZ/\Q (.tup (a++b)) G
 |x,y,G,Q=>Ho x y G Q
def Lp:Ed
 |.int i,.int j,G,Q=>Q (.int (i-j)) G
 |_,_,_,_=>False
def Lq:Ed
 |.int i,.int j,G,Q=>MulOk i j/\Q (.int (i*j)) G
 |_,_,_,_=>False
def pC:Ed
 |.int i,.int j,G,Q=>0<j/\Q (.int (i % j)) G
 |_,_,_,_=>False
def uZ:Ed
 |.int i,.int j,G,Q=>0<j/\j<2 ^ 30/\Q (.int (i / j)) G
 |_,_,_,_=>False
def ID:D->Gp->DK->Prop
 |.int i,G,Q=>Q (.int (-i)) G
 |_,_,_=>False
def zT(neg:Bool):Ed:=λx y G Q=>∃a b,Sn G SN x a/\Sn G SN y b/\Q (.bl (if neg then !i7 a b else i7 a b)) G
noncomputable def lexLt:@D->@D->Bool
 |[],[]=>false
 |[],_::_=>true
 |_::_,[]=>false
 |x::xs,y::ys=>if x=y then lexLt xs ys else decide (x<y)
def ZN:Ed
 |.int i,.int j,G,Q=>Q (.bl (decide (i<j))) G
 |.tup a,.tup b,G,Q=>∃xs ys,a=xs.map D.int/\b=ys.map D.int/\Q (.bl (lexLt xs ys)) G
 |_,_,_,_=>False
def rLe:Ed
 |.int i,.int j,G,Q=>Q (.bl (decide (i<=j))) G
 |_,_,_,_=>False
def Wo:Ed
 |.int i,.int j,G,Q=>Q (.bl (decide (i>j))) G
 |_,_,_,_=>False
def rGe:Ed
 |.int i,.int j,G,Q=>Q (.bl (decide (i>=j))) G
 |_,_,_,_=>False
noncomputable def itemsOf:D->Gp->Option (@e)
 |.tup ds,_=>some ds
 |.dc ds,_=>some ds
 |.ref a,G=>match G a with
  |some (.lst ds)=>some ds
  |_=>none
 |_,_=>none
def mr:D->Bool
 |.tup ds=>ds.all dq
 |_=>false
def iW(kvs:@ag)(k:D):Bool:=(dq k&&@cz)||(mr k&&kvs.all λp=>mr p.1)
def look(kvs:@ag)(k:D):Option D:=(kvs.find? λp=>i7 p.1 k).map (·.2)
def put(kvs:@ag)(k v:D):@ag :=
 if(kvs.any λp=>i7 p.1 k)=true then kvs.map (λp=>if i7 p.1 k=true then(p.1,v) else p) else kvs++[(k,v)]
def O7(neg:Bool):Ed:=λx y G Q=>match y with
 |.ref a=>(match G a with
  |some (.gz kvs)=>iW kvs x=true/\Q (.bl (if neg then !(look kvs x).isSome else(look kvs x).isSome)) G
  |some (.lst ds)=>∃s ss,Sn G SN x s/\Sn G SN (.dc ds) (.dc ss)/\Q (.bl (if neg then !ss.any (i7 · s) else ss.any (i7 · s))) G
  |_=>False)
 |.kU kvs=>kvs≠[]/\iW kvs x=true/\Q (.bl (if neg then !(look kvs x).isSome else(look kvs x).isSome)) G
 |.tup ds=>∃s ss,Sn G SN x s/\Sn G SN (.dc ds) (.dc ss)/\Q (.bl (if neg then !ss.any (i7 · s) else ss.any (i7 · s))) G
 |.dc ds=>∃s ss,Sn G SN x s/\Sn G SN (.dc ds) (.dc ss)/\Q (.bl (if neg then !ss.any (i7 · s) else ss.any (i7 · s))) G
 |_=>False
def fQ:Ed
 |.tup ds,.int i,G,Q=>(match rN ds i with
  |some d=>Q d G
  |none=>False)
 |.dc ds,.int i,G,Q=>(match rN ds i with
  |some d=>Q d G
  |none=>False)
 |.kU kvs,k,G,Q=>iW kvs k=true/\(match look kvs k with
  |some d=>Q d G
  |none=>False)
 | .ref a,k,G,Q=>(match G a with
  | some (.lst ds)=>(match k with
   |.int i=>(match rN ds i with
    |some d=>Q d G
    |none=>False)
   |_=>False)
  |some (.gz kvs)=>iW kvs k=true/\(match look kvs k with
   |some d=>Q d G
   |none=>False)
  |_=>False)
 |_,_,_,_=>False
abbrev TO2:=mK->jx->Gp->(@aW->@B)->Prop
def cw:TO2:=λ_ _ G Q=>Q none G
def ib(t:gC):TO2:=λE τ G Q=>t E τ G λx G1=>match x with
 |.int i=>Q (some i) G1
 |_=>False
def RV:D->@aW->@aW->Gp->DK->Prop
 |.tup ds,lo,hi,G,Q=>¬ (kI ds.length 0 lo=0/\kI ds.length ds.length hi=ds.length)/\Q (.tup (cut ds lo hi)) G
 |.dc ds,lo,hi,G,Q=>iQ G (.lst (cut ds lo hi)) Q
 |.ref a,lo,hi,G,Q=>(match G a with
  |some (.lst ds)=>iQ G (.lst (cut ds lo hi)) Q
  |_=>False)
 |_,_,_,_,_=>False
def pI(a:gC)(lo hi:TO2):gC:=λE τ G Q=>a E τ G λx G1=>lo E τ G1 λl G2=>hi E τ G2 λh G3=>RV x l h G3 Q
def fI(a:gC):Bc:=λE τ G Q=>a E τ G λx G1=>match Ih x G1 with
 |some b=>Q b G1
 |none=>False
def vn(a b:Bc):Bc:=λE τ G Q=>a E τ G λc G1=>if c=true then b E τ G1 Q else Q false G1
def A8(a b:Bc):Bc:=λE τ G Q=>a E τ G λc G1=>if c=true then Q true G1 else b E τ G1 Q
def ly(a:Bc):Bc:=λE τ G Q=>a E τ G λc G1=>Q (!c) G1
def DN(a b:gC):gC:=λE τ G Q=>a E τ G λx G1=>match Ih x G1 with
 |some true=>b E τ G1 Q
 |some false=>Q x G1
 |none=>False
def adH(a b:gC):gC:=λE τ G Q=>a E τ G λx G1=>match Ih x G1 with
 |some true=>Q x G1
 |some false=>b E τ G1 Q
 |none=>False
def Of(a:gC):gC:=λE τ G Q=>a E τ G λx G1=>match Ih x G1 with
 |some c=>Q (.bl (!c)) G1
 |none=>False
def dIf(c:Bc)(a b:gC):gC:=λE τ G Q=>c E τ G λk G1=>if k=true then a E τ G1 Q else b E τ G1 Q
def aR(sp:iS)(t:Az):gC:=λE τ G Q=>t E τ G λds G1=>sp ds G1 Q @z
def jw(r:@e->Gp->DK->Prop)(t:Az):gC:=λE τ G Q=>t E τ G λds G1=>r ds G1 Q
def D9(x:D)(G:Gp):Prop:=match x with
 |.ref a=>(match G a with
  |some (.lst _)=>True
  |_=>False)
 |.dc _=>True
 |_=>False
def Rl(x:D)(G:Gp):Prop:=match x with
 |.kU _=>True
 |.ref a=>(match G a with
  |some (.gz _)=>True
  |_=>False)
 |_=>False
def tyS(x:D)(_:Gp):Prop:=match x with
 |.str _=>True
 |_=>False
def mi(ty:D->@B)(r:D->@e->Gp->DK->Prop)(o:gC)(t:Az):gC:=λE τ G Q=>o E τ G λx G1=>ty x G1/\t E τ G1 λds G2=>r x ds G2 Q
def lenOf:D->Gp->Option Nat
 |.tup ds,_=>some ds.length
 |.dc ds,_=>some ds.length
 |.str x,_=>if x.length<=SZ then some x.length else none
 |.kU kvs,_=>if(@cz)=true then some kvs.length else none
 |.ref a,G=>match G a with
  |some (.lst ds)=>some ds.length
  |some (.gz kvs)=>if(@cz)=true then some kvs.length else none
  |_=>none
 |_,_=>none
def ja(ds:@e)(G:Gp)(Q:DK):Prop:=match ds with
 |[x]=>(match lenOf x G with
  |some n=>Q (.int (n:Int)) G
  |none=>False)
 |_=>False
def vq(ds:@e)(G:Gp)(Q:DK):Prop:=match ds with
 |[x]=>(match itemsOf x G with
  |some xs=>iQ G @a9 Q
  |none=>False)
 |_=>False
noncomputable def YO(C:String):D->Gp->Option Bool
 |.fe,_=>some false
 |.bl _,_=>some (C == "bool" || @aB)
 |.int _,_=>some (@aB)
 |.str _,_=>some (C == "str")
 |.tup _,_=>some (C == "tuple")
 |.dc _,_=>some (C == "list")
 |.kU _,_=>some (C == "dict")
 |.exc _,_=>none
 |.Et _ _ _,_=>none
 |.qJ _,_=>none
 |.ref a,G=>match G a with
  |some (.lst _)=>some (C == "list")
  |some (.gz _)=>some (C == "dict")
  |_=>none
def JV(C:String)(a:gC):gC:=λE τ G Q=>a E τ G λx G1=>match YO C x G1 with
 |some b=>Q (.bl b) G1
 |none=>False
def j7(x:D)(ds:@e)(G:Gp)(Q:DK):Prop:=match x,ds with
 |.ref a,[d]=>(match G a with
  |some (.lst xs)=>xs.length<SZ/\Q .fe (dw G a (.lst (xs++[d])))
  |_=>False)
 |_,_=>False
def vS(x:D)(ds:@e)(G:Gp)(Q:DK):Prop:=match x,ds with
 |.ref a,[y]=>(match G a,qm y G with
  |some (.lst xs),some ys=>xs.length+ys.length<=SZ/\Q .fe (dw G a (.lst (xs++ys)))
  |_,_=>False)
 |_,_=>False
def Xs(x:D)(ds:@e)(G:Gp)(Q:DK):Prop:=match x,ds with
 |.ref a,[.int i,d]=>(match G a with
  |some (.lst xs)=>0<=i/\i<=xs.length/\xs.length<SZ/\Q .fe (dw G a (.lst (xs.take i.toNat++d::xs.drop i.toNat)))
  |_=>False)
 |_,_=>False
def sH(x:D)(ds:@e)(G:Gp)(Q:DK):Prop:=match ds with
 |[d]=>D9 x G/\∃xs s ss,itemsOf x G=some xs/\Sn G SN d s/\Sn G SN (.dc xs) (.dc ss)/\(match ss.findIdx? (i7 · s) with
  |some k=>Q (.int (k:Int)) G
  |none=>False)
 |_=>False
def Jd(x:D)(ds:@e)(G:Gp)(Q:DK):Prop:=match x,ds with
 | .ref a,[k,d]=>(match G a with
  |some (.gz kvs)=>iW kvs k=true/\dq k=true/\(match look kvs k with
   |some v=>Q v G
   |none=>kvs.length<SZ/\Q d (dw G a (.gz (put kvs k d))))
  |_=>False)
 |_,_=>False
def cj:gq:=λ_ K τ G=>K.nx τ G
def bJ(a b:gq):gq:=λE K τ G=>a E {K with nx:=b E K} τ G
def fK(a:gC):gq:=λE K τ G=>a E τ G λ_ G1=>K.nx τ G1
def bK(a:gC):gq:=λE K τ G=>a E τ G K.rt
def zb:gq:=λ_ K _ G=>K.rt .fe G
def d6(c:Bc)(a b:gq):gq:=λE K τ G=>c E τ G λk G1=>if k=true then a E K τ G1 else b E K τ G1
def sY:gq:=λ_ _ _ _=>False
abbrev BB:=mK->D->jx->Gp->(jx->@B)->Prop
abbrev DT:=mK->@e->jx->Gp->(jx->@B)->Prop
def aF(i:Nat):BB:=λ_ d τ G Q=>Q (τ.set i (@U)) G
def gH:DT:=λ_ ds τ G Q=>match ds with
 |[]=>Q τ G
 |_=>False
def cq(t:BB)(r:DT):DT:=λE ds τ G Q=>match ds with
 |d::ds=>t E d τ G λrZ G1=>r E ds rZ G1 Q
 |_=>False
def gY(t:DT):BB:=λE d τ G Q=>match d with
 |.tup ds=>t E ds τ G Q
 |_=>False
def wC(o k d:D)(G:Gp)(Q:@B):Prop:=match o with
 | .ref a=>(match G a with
  | some (.lst xs)=>(match k with
   |.int i=>(match Gx xs.length i with
    |some j=>Q (dw G a (.lst (xs.set j d)))
    |none=>False)
   |_=>False)
  |some (.gz kvs)=>iW kvs k=true/\kvs.length<SZ/\Q (dw G a (.gz (put kvs k d)))
  |_=>False)
 |_=>False
def iH(o k:gC):BB:=λE d τ G Q=>o E τ G λx G1=>k E τ G1 λy G2=>wC x y d G2 λG3=>Q τ G3
def bh(a:gC)(g:BB):gq:=λE K τ G=>a E τ G λx G1=>g E x τ G1 K.nx
abbrev KA:=mK->jx->Gp->(@aQ)->Prop
def la(a:gC):KA:=λE τ G R=>a E τ G λx G1=>match x with
 |.tup ds=>R ds @aC G1
 |.dc ds=>R ds @aC G1
 |.ref p=>(match G1 p with
  |some (.lst ds)=>R ds (λG2=>G2 p=@bq) G1
  |_=>False)
 |_=>False
noncomputable def iK(lo:Int)(n:Nat):@e:=(fG n).map λ(i:Nat)=>D.int (lo+@ay)
def u6(a:gC):KA:=λE τ G R=>a E τ G λx G1=>match x with
 |.int n=>-(2 ^ 62)<=n/\n<2 ^ 62/\R (iK 0 n.toNat) @aC G1
 |_=>False
def tP(g:BB)(body:gq)(ok:@B):@e->gq
 |[]=>λ_ K τ G=>ok G/\K.nx τ G
 |d::r=>λE K τ G=>ok G/\g E d τ G λrZ G1=>body E {K with nx:=tP g body ok r E K,ct:=tP g body ok r E K,bk:=K.nx} rZ G1
def di(i:KA)(g:BB)(body:gq):gq:=λE K τ G=>i E τ G λds ok G1=>tP g body ok ds E K τ G1
def Ia(c:Bc)(body:gq):Nat->gq
 |0=>λ_ _ _ _=>False
 |n+1=>λE K τ G=>c E τ G λk G1=>if k=true then body E {K with nx:=Ia c body n E K,ct:=Ia c body n E K,bk:=K.nx} τ G1 else K.nx τ G1
def GV(c:Bc)(body:gq):gq:=λE K τ G=>∃n,Ia c body n E K τ G
def kD(g:BB)(c:Option Bc)(e:gC)(ok:@B):@e->mK->jx->Gp->@e->(@e->@B)->Prop
 |[],_,_,G,acc,Q=>ok G/\Q acc G
 |d::r,E,τ,G,acc,Q=>ok G/\g E d τ G λrZ G1=>match c with
  |none=>e E rZ G1 λx G2=>kD g c e ok r E rZ G2 (acc++[x]) Q
  |some c=>c E rZ G1 λk G2=>if k=true then e E rZ G2 λx G3=>kD g (some c) e ok r E rZ G3 (acc++[x]) Q else kD g (some c) e ok r E rZ G2 acc Q
noncomputable def DO(m:Nat)(fr:@aT)(τ:jx):jx:=aO m none++fr.map λi=>(τ[i]?).getD none
def e7(m:Nat)(fr:@aT)(i:KA)(g:BB)(c:Option Bc)(e:gC):gC:=λE τ G Q=>
 i E τ G λds ok G1=>ds.length<=SZ/\kD g c e ok ds @q (DO m fr τ) G1 [] λxs G2=>iQ G2 @a9 Q
noncomputable abbrev tI(ns:@D):D:=.tup (@av)
noncomputable def afs:@D->@aW
 |[]=>none
 |a::r=>some (r.foldl (λm x=>if x<m then x else m) a)
def afr:List (@D)->Option (@D)
 |[]=>none
 |a::r=>some (r.foldl (λm x=>if lexLt x m=true then x else m) a)
def MA(ds:@e)(G:Gp)(Q:DK):Prop:=match ds with
 |[x]=>(∃ns m,itemsOf x G=some (@av)/\afs ns=some m/\Q (.int m) G)\/∃nss m,itemsOf x G=some (nss.map tI)/\afr nss=some m/\Q (tI m) G
 |_=>False
def kC:gC:=λ_ _ G Q=>iQ G (.gz []) Q
def dI(G G':Gp):Prop:=∀a o,G a=@i->G' a=@i
theorem dI.refl(G):dI G G:=λ_ _ h=>h
theorem dI.trans(a:dI G G1)(b:dI G1 G2):dI G G2:=λc o h=>b c o (a c o h)
theorem dI.new{G:Gp}{p:Nat}{o:GO}(h:G p=none):dI G (dw G p o):=λa ob e=>by
 by_cases ha:a=p
 .subst ha;rw[h] at e;cases e
 .rw[cu ha];exact e
theorem dI.free(l:@G)(h:G' p=none):G p=none:=by
 cases q:G p with
 |none=>rfl
 |some o=>rw[l p o q] at h;cases h
theorem dI.put(l:@G)(h:G p=none):dI G (dw G' p o):=λa ob e=>by
 by_cases ha:a=p
 .subst ha;rw[h] at e;cases e
 .rw[cu ha];exact l a ob e
noncomputable def ends(Q:DK):nR:=⟨λ_ G=>Q .fe G,Q,@z,@z⟩
noncomputable def aP(n:Nat)(ds:@e):jx:=ds.map some++aO (n-ds.length) none
def VC(x:D)(G1:Gp)(R:@aQ):Prop:=match x with
 |.tup ds=>R ds @aC G1
 |.dc ds=>R ds @aC G1
 |.ref p=>(match G1 p with
  |some (.lst ds)=>R ds (λG2=>G2 p=@bq) G1
  |_=>False)
 |_=>False
def SE(x:D)(G1:Gp)(Q:@aW->@B):Prop:=match x with
 |.int i=>Q (some i) G1
 |_=>False
def qf(x:D)(G1:Gp)(Q:Bool->@B):Prop:=match Ih x G1 with
 |some b=>Q b G1
 |none=>False
def Ys(x:D)(G1:Gp)(R:@aQ):Prop:=match x with
 |.int n=>-(2 ^ 62)<=n/\n<2 ^ 62/\R (iK 0 n.toNat) @aC G1
 |_=>False
def isAt(C:String)(x:D)(G1:Gp)(Q:DK):Prop:=match YO C x G1 with
 |some b=>Q (.bl b) G1
 |none=>False
theorem cb:fk (@w) (.int j) G Q=Q (.int (i+j)) G:=rfl
theorem kJ:fk (.tup a) (.tup b) G Q=(a≠[]/\a.length+b.length<=SZ/\Q (.tup (a++b)) G):=rfl
theorem iD:Lp (@w) (.int j) G Q=Q (.int (i-j)) G:=rfl
theorem jl:Lq (@w) (.int j) G Q=(MulOk i j/\Q (.int (i*j)) G):=rfl
theorem eD:pC (@w) (.int j) G Q=(0<j/\Q (.int (i % j)) G):=rfl
theorem fV:uZ (@w) (.int j) G Q=(0<j/\j<2 ^ 30/\Q (.int (i / j)) G):=rfl
theorem jU:ID (@w) G Q=Q (.int (-i)) G:=rfl
theorem kX:ZN (@w) (.int j) G Q=Q (.bl (decide (i<j))) G:=rfl
theorem ou:rLe (@w) (.int j) G Q=Q (.bl (decide (i<=j))) G:=rfl
theorem jg:Wo (@w) (.int j) G Q=Q (.bl (decide (i>j))) G:=rfl
theorem ow:rGe (@w) (.int j) G Q=Q (.bl (decide (i>=j))) G:=rfl
theorem Wm(h:rN ds i=@U):fQ (.dc ds) (@w) G Q=Q d G:=by unfold fQ;simp only[h]
theorem mF{a:Nat}{ds:@e}{i:Int}{d:D}{G:Gp}{Q:DK}(h1:G a=@bq)(h:rN ds i=@U):fQ @u (@w) G Q=Q d G:=by unfold fQ;simp only[h1,h]
theorem Wn{a:Nat}{kvs:@ag}{k d:D}{G:Gp}{Q:DK}(h1:G a=some (.gz kvs))(h0:iW kvs k=true)(h:look kvs k=@U):fQ @u k G Q=Q d G:=by unfold fQ;simp only[h1,h,h0,true_and]
theorem lM:RV (.tup ds) lo hi G Q=(¬ (kI ds.length 0 lo=0/\kI ds.length ds.length hi=ds.length)/\Q (.tup (cut ds lo hi)) G):=rfl
theorem kW:RV (.dc ds) lo hi G Q=iQ G (.lst (cut ds lo hi)) Q:=rfl
theorem Wk{a:Nat}{ds:@e}{lo hi:@aW}{G:Gp}{Q:DK}(h:G a=@bq):RV @u lo hi G Q=iQ G (.lst (cut ds lo hi)) Q:=by unfold RV;simp only[h]
theorem jZ:ja [.dc ds] G Q=Q (.int (ds.length:Int)) G:=rfl
theorem lS:ja [.tup ds] G Q=Q (.int (ds.length:Int)) G:=rfl
theorem J7{a:Nat}{ds:@e}{G:Gp}{Q:DK}(h:G a=@bq):ja [@V] G Q=Q (.int (ds.length:Int)) G:=by unfold ja lenOf;simp only[h]
theorem c8:la a E τ G R=a E τ G λx G1=>VC x G1 R:=by
 unfold la VC;rfl
theorem mI:VC (.dc ds) G R=R ds @aC G:=rfl
theorem lQ:VC (.tup ds) G R=R ds @aC G:=rfl
theorem NP{a:Nat}{ds:@e}{G:Gp}{R:@aQ}(h:G a=@bq):VC @u G R=R ds (λG2=>G2 a=@bq) G:=by unfold VC;simp only[h]
theorem fj:ib t E τ G Q=t E τ G λx G1=>SE x G1 Q:=rfl
theorem cY:SE (@w) G Q=Q (some i) G:=rfl
theorem b7:fI a E τ G Q=a E τ G λx G1=>qf x G1 Q:=rfl
theorem aY:qf (.bl b) G Q=Q b G:=rfl
theorem OS{a:Nat}{ds:@e}{G:Gp}{Q:Bool->@B}(h:G a=@bq):qf @u G Q=Q (!ds.isEmpty) G:=by unfold qf Ih;simp only[h]
theorem gL:u6 a E τ G R=a E τ G λx G1=>Ys x G1 R:=rfl
theorem fH:Ys (.int n) G R=(-(2 ^ 62)<=n/\n<2 ^ 62/\R (iK 0 n.toNat) @aC G):=rfl
theorem kY:JV C a E τ G Q=a E τ G λx G1=>isAt C x G1 Q:=rfl
theorem kL    :isAt C (@w) G Q=Q (.bl (@aB)) G:=rfl
theorem lP    :isAt C (.tup ds) G Q=Q (.bl (C == "tuple")) G:=rfl
theorem jo:DN a b E τ G Q=a E τ G λx G1=>qf x G1 λk G2=>if k=true then b E τ G2 Q else Q x G2:=by
 unfold DN qf;refine congrArg (a E τ G) ?_;funext x G1;cases Ih x G1 with
 |none=>rfl
 |some k=>cases k<;>simp
theorem oF:adH a b E τ G Q=a E τ G λx G1=>qf x G1 λk G2=>if k=true then Q x G2 else b E τ G2 Q:=by
 unfold adH qf;refine congrArg (a E τ G) ?_;funext x G1;cases Ih x G1 with
 |none=>rfl
 |some k=>cases k<;>simp
theorem kM:Of a E τ G Q=a E τ G λx G1=>qf x G1 λk G2=>Q (.bl (!k)) G2:=rfl
theorem jm:fk @u y G Q=Ho @u y G Q:=by cases y<;>rfl
theorem jV:fk (.dc a) y G Q=Ho (.dc a) y G Q:=by cases y<;>rfl
theorem lN:RV @u lo hi G Q=(match G a with
  |some (.lst ds)=>iQ G (.lst (cut ds lo hi)) Q
  |_=>False):=rfl
theorem Gb:fQ @u k G Q=(match G a with
  | some (.lst ds)=>(match k with
   |.int i=>(match rN ds i with
    |some d=>Q d G
    |none=>False)
   |_=>False)
  |some (.gz kvs)=>iW kvs k=true/\(match look kvs k with
   |some d=>Q d G
   |none=>False)
  |_=>False):=by unfold fQ;cases k<;>rfl
theorem dS:fQ (.tup ds) (@w) G Q=(match rN ds i with
  |some d=>Q d G
  |none=>False):=rfl
theorem hV:fQ (.dc ds) (@w) G Q=(match rN ds i with
  |some d=>Q d G
  |none=>False):=rfl
theorem UP:ja [@V] G Q=(match G a with
  |some (.lst ds)=>Q (.int (ds.length:Int)) G
  |some (.gz ds)=>(ds.all λp=>dq p.1)=true/\Q (.int (ds.length:Int)) G
  |_=>False):=by
 unfold ja lenOf;cases h:G a with
 |none=>simp only[h]
 | some g=>
  cases g with
  |lst ds=>simp only[h]
  |ins _ _=>simp only[h]
  |tR _=>simp only[h]
  |gz ds=>
   simp only[h];by_cases z:(ds.all λp=>dq p.1)=true
   .simp only[z,if_true,true_and]
   .simp only[z,if_false,false_and,aj]
theorem kd:vq [@V] G Q=(match G a with
  |some (.lst ds)=>iQ G (.lst ds) Q
  |_=>False):=by
 unfold vq itemsOf;cases h:G a with
 |none=>simp only[h]
 |some g=>cases g<;>simp only[h]
theorem dP:j7 @u [d] G Q=(match G a with
  |some (.lst xs)=>xs.length<SZ/\Q .fe (dw G a (.lst (xs++[d])))
  |_=>False):=rfl
theorem gW:vS @u [y] G Q=(match G a,qm y G with
  |some (.lst xs),some ys=>xs.length+ys.length<=SZ/\Q .fe (dw G a (.lst (xs++ys)))
  |_,_=>False):=rfl
theorem iG:Xs @u [@w,d] G Q=(match G a with
  |some (.lst xs)=>0<=i/\i<=xs.length/\xs.length<SZ/\Q .fe (dw G a (.lst (xs.take i.toNat++d::xs.drop i.toNat)))
  |_=>False):=rfl
theorem fc:Jd @u [k,d] G Q=(match G a with
  |some (.gz kvs)=>iW kvs k=true/\dq k=true/\(match look kvs k with
   |some v=>Q v G
   |none=>kvs.length<SZ/\Q d (dw G a (.gz (put kvs k d))))
  |_=>False):=rfl
theorem NO:VC @aw G R=(match G p with
  |some (.lst ds)=>R ds (λG2=>G2 p=@bq) G
  |_=>False):=rfl
theorem TM:isAt C @aw G Q=(match G p with
  |some (.lst _)=>Q (.bl (C == "list")) G
  |some (.gz _)=>Q (.bl (C == "dict")) G
  |_=>False):=by
 unfold isAt YO;cases h:G p with
 |none=>simp only[h]
 |some g=>cases g<;>simp only[h]
theorem oC    :isAt C (.bl b) G Q=Q (.bl (C == "bool" || @aB)) G:=rfl
theorem ip:D9 @u G=(match G a with
  |some (.lst _)=>True
  |_=>False):=rfl
theorem j5:Rl @u G=(match G a with
  |some (.gz _)=>True
  |_=>False):=rfl
theorem nZ:D9 (.dc ds) G=True:=rfl
theorem yt:fQ (.kU kvs) k G Q=(iW kvs k=true/\(match look kvs k with
  |some d=>Q d G
  |none=>False)):=by unfold fQ;cases k<;>rfl
theorem nY:tyS (.str x) G=True:=rfl
noncomputable def Eu(R:@a0)(G:Gp):Gp:=λa=>if R a=true then none else G a
mutual
inductive Fz (G:Gp) (R:@a0):D->D->Prop
 |same (d:D):Fz G R d d
 |tup {ds ss:@e}:zr G R ds ss->Fz G R (.tup ds) (.tup ss)
 |dc {ds ss:@e}:zr G R ds ss->Fz G R (.dc ds) (.dc ss)
 |ref {a:Nat} {ds ss:@e}:G a=@bq->R a=true->zr G R ds ss->Fz G R @u (.dc ss)
 |gz {a:Nat} {kvs YL:@ag}:G a=some (.gz kvs)->R a=true->MK G R kvs YL->Fz G R @u (.kU YL)
 |tR {a:Nat} {kvs YL:@cd}:G a=some (.tR kvs)->R a=true->zr G R (kvs.map λp=>p.2) (YL.map λp=>p.2)->kvs.map (λp=>p.1)=YL.map (λp=>p.1)->Fz G R @u (.qJ YL)
inductive zr (G:Gp) (R:@a0):@e->@e->Prop
 |nil:zr G R [] []
 |cons {d s:D} {ds ss:@e}:Fz G R d s->zr G R ds ss->zr G R (d::ds) (s::ss)
inductive MK (G:Gp) (R:@a0):@ag->@ag->Prop
 |nil:MK G R [] []
 |cons {k d s:D} {ds ss:@ag}:Fz G R d s->MK G R ds ss->MK G R ((k,d)::ds) ((k,s)::ss)
end
theorem MK.same:∀(kvs:@ag),MK G R kvs kvs
 |[]=>.nil
 |(k,v)::r=>.cons (.same v) (MK.same r)
def QC(G:Gp)(x:D)(Q:DK):Prop:=∃(R:@a0) (t:D),Fz G R x t/\Q t (Eu R G)
def b8(e:gC):gC:=λE τ G Q=>e E τ G λx G1=>QC G1 x Q
def JW(i:Nat)(t:gq):gq:=λE K τ G=>t E {K with nx:=λrZ G1=>match rZ[i]? with
 |some (some d)=>QC G1 d λt G2=>K.nx (rZ.set i (some t)) G2
 |_=>False} τ G
theorem zr.same:∀(ds:@e),zr G R ds ds
 |[]=>.nil
 |d::ds=>.cons (.same d) (zr.same ds)
theorem za(l:dI G G1):Eu (λa=>(G a).isNone) G1=G:=by
 funext a;unfold Eu;cases h:G a with
 |none=>simp[h]
 |some o=>simp[l a o h,h]
theorem Qj(l:dI G G1)(hp:G p=none)(h1:G1 p=@i):Eu (λa=>(G a).isNone&&decide (a≠p)) G1=dw G p o:=by
 funext a;unfold Eu dw;by_cases ha:a=p
 .subst ha;simp[h1]
 .cases h:G a with
  |none=>simp[ha,h]
  |some o=>simp[l a o h,ha,h]
theorem bW{G:Gp}{d:D}{Q:DK}(q:Q d G):QC G d Q:=⟨λ_=>false,d,.same d,by
 have e:Eu (λ_=>false) G=G:=by funext a;simp[Eu]
 rw[e];exact q⟩
theorem BW{G G1:Gp}{d:D}{Q:DK}(l:dI G G1)(q:Q d G):QC G1 d Q:=⟨_,d,.same d,by rw[za l];exact q⟩
theorem GC{G G1:Gp}{p:Nat}{o:GO}{Q:DK}(l:dI G G1)(hp:G p=none)(h1:G1 p=@i)(q:Q @aw (dw G p o)):QC G1 @aw Q :=
 ⟨_,.ref p,.same _,by rw[Qj l hp h1];exact q⟩
theorem Ab{G G1:Gp}{p:Nat}{ds ss:@e}{Q:DK}(l:dI G G1)(hp:G p=none)(h1:G1 p=@bq)(hs:zr G1 (λa=>(G a).isNone) ds ss)(q:Q (.dc ss) G):QC G1 @aw Q :=
 ⟨_,.dc ss,.ref h1 (by simp[hp]) hs,by rw[za l];exact q⟩
theorem ie{G G1:Gp}{p:Nat}{kvs:@ag}{Q:DK}(l:dI G G1)(hp:G p=none)(h1:G1 p=some (.gz kvs))(q:Q (.kU kvs) G):QC G1 @aw Q :=
 ⟨λa=>(G a).isNone,.kU kvs,.gz h1 (by simp[hp]) (.same _),by rw[za l];exact q⟩
def EI:iS:=λds G Q _=>∃ns:@D,ds=[.dc (@av)]/\ns.length<=63/\(∀a,G a=none)/\∀G',Q (.bl true) G'
theorem cX{a b:gq}{E:mK}{K:nR}{τ:jx}{G:Gp}(P:jx->@B)(h1:∀N,(∀τ G,P τ G->N τ G)->a E {K with nx:=N} τ G)(h2:∀τ G,P τ G->b E K τ G):bJ a b E K τ G:=h1 (b E K) h2
theorem yf:bJ a b E K τ G=a E {K with nx:=b E K} τ G:=rfl
theorem bZ:bJ (bh a g) b E K τ G=bh a g E {K with nx:=b E K} τ G:=rfl
theorem jj:bJ (fK a) b E K τ G=fK a E {K with nx:=b E K} τ G:=rfl
theorem Us{g:BB}{body:gq}{ok:@B}{ds:@e}{E:mK}{K:nR}{τ:jx}{G:Gp}(I:@e->jx->@B)
  (h0:I [] τ G) (cx:∀pre τ G,I pre τ G->ok G)
  (step:∀(pre:@e) (d:D) (post:@e) τ G (N:jx->@B),ds=pre++d::post->I pre τ G->(∀zI G2,I (pre++[d]) zI G2->N zI G2) ->
   g E d τ G λrZ G1=>body E {K with nx:=N,ct:=N,bk:=K.nx} rZ G1)
  (fin:∀τ G,I ds τ G->K.nx τ G):tP g body ok ds E K τ G:=by
 have main:∀(post pre:@e) τ G,ds=pre++post->I pre τ G->tP g body ok post E K τ G:=by
  intro post;induction post with
  |nil=>
   intro pre τ G e h;rw[bE] at e;subst e;exact⟨cx _ _ _ h,fin _ _ h⟩
  |cons d post ih=>
   intro pre τ G e h;refine⟨cx _ _ _ h,?_⟩;exact step pre d post τ G _ e h λzI G2 h2=>ih (pre++[d]) zI G2 (by rw[e,aS];rfl) h2
 exact main ds [] τ G rfl h0
theorem XY{g:BB}{c:Option Bc}{e:gC}{ok:@B}{ds:@e}{E:mK}{τ:jx}{G:Gp}{Q:@e->@B}(I:@e->@e->jx->@B)
  (h0:I [] [] τ G) (cx:∀pre acc τ G,I pre acc τ G->ok G)
  (step:∀(pre:@e) (d:D) (post acc:@e) τ G (N:jx->@e->@B),ds=pre++d::post->I pre acc τ G->(∀zI Ay G2,I (pre++[d]) Ay zI G2->N zI Ay G2) ->
   g E d τ G λrZ G1=>match c with
    |none=>e E rZ G1 λx G2=>N rZ (acc++[x]) G2
    |some c=>c E rZ G1 λk G2=>if k=true then e E rZ G2 λx G3=>N rZ (acc++[x]) G3 else N rZ acc G2)
  (fin:∀acc τ G,I ds acc τ G->Q acc G):kD g c e ok ds E τ G [] Q:=by
 have main:∀(post pre acc:@e) τ G,ds=pre++post->I pre acc τ G->kD g c e ok post E τ G acc Q:=by
  intro post;induction post with
  |nil=>
   intro pre acc τ G e h;rw[bE] at e;subst e;exact⟨cx _ _ _ _ h,fin _ _ _ h⟩
  |cons d post ih=>
   intro pre acc τ G e' h;refine⟨cx _ _ _ _ h,?_⟩;have:=step pre d post acc τ G (λzI Ay G2=>kD g c e ok post E zI G2 Ay Q) e' h λzI Ay G2 h2=>ih (pre++[d]) Ay zI G2 (by rw[e',aS];rfl) h2;cases c with
   |none=>ext g
   |some c=>ext g
 exact main ds [] [] τ G rfl h0
theorem Sn.rI:∀(ns:@D),Sn G (n+1) (.dc (@av)) (.dc (@av))
 |[]=>.El
 |i::ns=>.wJ (@w) (Sn.rI ns)
theorem sT(a b)(r t):mS (a::r) (b::t)=(i7 a b&&mS r t):=rfl
theorem my(a b):i7 (.int a) (.int b)=(a == b):=rfl
theorem Mr(a b):i7 (.tup a) (.tup b)=mS a b:=rfl
theorem JU{α:Type} [@Q](a b)(as bs:@o):(decide (a=b)&&decide (as=bs))=decide (a::as=b::bs):=by
 by_cases h:a=b<;>by_cases h2:as=bs<;>simp[h,h2]
set_option genInjectivity true in structure T2 where
 a:Int
 b:Int
 deriving DecidableEq
set_option genInjectivity true in structure T3 where
 a:Int
 b:Int
 c:Int
 deriving DecidableEq
class Enc (α:Type) [@Q] where
 enc:α->D
 dep:Nat
 eqv:∀a b,i7 (enc a) (enc b)=decide (a=b)
 sn:∀(G:Gp) (n:Nat) (a:α),dep<=n->Sn G n (enc a) (enc a)
open Enc (enc)
instance:Enc Int where
 enc:=D.int
 dep:=0
 eqv:=λa b=>rfl
 sn:=λG n a _=>.int a
instance:Enc Bool where
 enc:=D.bl
 dep:=0
 eqv:=λa b=>Vs a b
 sn:=λG n a _=>.bl a
instance:Enc T2 where
 enc:=λt=>.tup [.int t.a,.int t.b]
 dep:=1
 eqv:=λx y=>by
  cases x;cases y;rw[Mr,sT,sT,my,my];simp only[T2.mk.injEq];rename_i a b c d;by_cases h:a=c<;>by_cases h2:b=d<;>simp[h,h2,show mS [] []=true from rfl]
 sn:=λG n t h=>by
  obtain⟨m,rfl⟩:∃m,n=m+1:=⟨n-1,@d⟩;exact .uH (@S) (.uH (@S) .Ld)
instance:Enc T3 where
 enc:=λt=>.tup [.int t.a,.int t.b,.int t.c]
 dep:=1
 eqv:=λx y=>by
  cases x;cases y;rw[Mr,sT,sT,sT,my,my,my];simp only[T3.mk.injEq];rename_i a b e c d f;by_cases h:a=c<;>by_cases h2:b=d<;>by_cases h3:e=f<;>simp[h,h2,h3,show mS [] []=true from rfl]
 sn:=λG n t h=>by
  obtain⟨m,rfl⟩:∃m,n=m+1:=⟨n-1,@d⟩;exact .uH (@S) (.uH (@S) (.uH (@S) .Ld))
instance {α β:Type} [@Q] [DecidableEq β] [@ab] [Enc β]:Enc (α×β) where
 enc:=λt=>.tup [enc t.1,enc t.2]
 dep:=max (Enc.dep α) (Enc.dep β)+1
 eqv:=λx y=>by
  cases x;cases y;rw[Mr,sT,sT,Enc.eqv,Enc.eqv];simp only[Bn];rename_i a b c d;by_cases h:a=c<;>by_cases h2:b=d<;>simp[h,h2,show mS [] []=true from rfl]
 sn:=λG n t h=>by
  obtain⟨m,rfl⟩:∃m,n=m+1:=⟨n-1,@d⟩;exact .uH (Enc.sn _ _ _ @c) (.uH (Enc.sn _ _ _ @c) .Ld)
theorem JO [@Q] [@ab]:∀(a b:@o),mS (a.map enc) (b.map enc)=decide (a=b)
 |[],[]=>(decide_eq_true rfl).symm
 |[],b::bs=>(decide_eq_false @bs).symm
 |a::as,[]=>(decide_eq_false @bs).symm
 |a::as,b::bs=>by
  show(i7 (enc a) (enc b)&&mS (as.map enc) (bs.map enc))=_;rw[Enc.eqv,JO as bs,JU]
theorem uL [@Q] [@ab](G)(n)(h:Enc.dep α<=n):∀(xs:@o),Sn G (n+1) (.dc @bu) (.dc @bu)
 |[]=>.El
 |a::as=>.wJ (Enc.sn _ _ _ h) (uL G n h as)
instance {α:Type} [@Q] [@ab]:Enc (@o) where
 enc:=λxs=>.dc @bu
 dep:=Enc.dep α+1
 eqv:=λa b=>by
  show mS _ _=_;exact JO a b
 sn:=λG n t h=>by
  obtain⟨m,rfl⟩:∃m,n=m+1:=⟨n-1,@d⟩;exact uL G m @c t
section
variable {α:Type} [@Q] [@ab]
theorem Ov(L:@o)(t):(L.map enc).any (i7 · (enc t))=decide (t∈L):=by
 induction L with
 |nil=>simp
 |cons a r ih=>
  simp only[ak,ni,Enc.eqv,ih,bF];by_cases h:a=t
  .simp[h]
  .have h':¬ t=a:=λz=>h z.symm;by_cases h2:t∈r<;>simp[h,h',h2]
theorem JM(L:@o)(h:m∈L):(L.map enc).findIdx? (i7 · (enc m))=some (L.idxOf m):=by
 induction L with
 |nil=>cases h
 | cons a r ih=>
  rw[ak,List.findIdx?_cons,Enc.eqv,List.idxOf_cons];by_cases e:a=m
  .simp[e]
  .have hm:m∈r:=by rcases List.mem_cons.mp h with z |z;exact absurd z.symm e;exact z
   rw[ih hm];have z:(a == m)=false:=@bV
   simp[e,z]
end
section
variable {κ α:Type} [@bd] [Enc κ] [@Q] [@ab]
noncomputable def bb(l:@b8):@ag:=l.map λp=>(enc p.1,enc p.2)
noncomputable def cN(l:@b8)(k:κ):Option α:=(l.find? λp=>p.1=k).map (·.2)
noncomputable def ft(l:@b8)(k:κ)(v:α):@b8:=if(l.any λp=>p.1=k)=true then l.map (λp=>@cv) else l++[(k,v)]
theorem rF(l:@b8)(k):look (bb l) (enc k)=(cN l k).map enc:=by
 unfold look cN bb;induction l with
 |nil=>rfl
 |cons p r ih=>
  rw[ak,dZ,dZ];simp only[Enc.eqv];by_cases h:p.1=k
  .simp[h]
  .simp only[h,decide_false];exact ih
theorem Ng(l)(k:κ)(v:α):put (bb l) (enc k) (enc v)=bb (ft l k v):=by
 unfold put ft;have e:((bb l).any λp=>i7 p.1 (enc k))=l.any @bM:=by
  unfold bb;rw[List.any_map];congr 1;funext p;exact Enc.eqv _ _
 rw[e];split
 .unfold bb;rw[bq,bq];refine dO λp _=>?_;simp only[Function.comp,Enc.eqv,decide_eq_true_eq];split<;>rfl
 .unfold bb;rw[aC];rfl
theorem v7(l)(k j:κ)(v:α):cN (ft l k v) j=if k=j then @W else cN l j:=by
 unfold ft;split
 .rename_i h;unfold cN;induction l with
  |nil=>simp at h
  | cons p r ih=>
   rw[ak,dZ,dZ];by_cases h1:p.1=k
   .rw [if_pos h1];by_cases h2:k=j
    .simp[h1,h2]
    .have:¬ p.1=j:=λz=>h2 (h1.symm.trans z);simp only[this,decide_false,h2,if_false];by_cases h3:(r.any @bM)=true
     .have:=ih h3;rw[if_neg h2] at this;ext g
     .congr 1;have:r.map (λp=>@cv)=r:=by
       conv=>rhs;rw[<-oK r]
       refine dO λq hq=>?_;rw[if_neg];rfl;intro z;exact h3 (List.any_eq_true.mpr ⟨q,hq,by simpa using z⟩)
      rw[this]
   .rw[if_neg h1];have h3:(r.any @bM)=true:=by simpa[h1] using h
    by_cases h2:p.1=j
    .have:¬ k=j:=λz=>h1 (h2.trans z.symm);simp[h2,this]
    .simp only[h2,decide_false];exact ih h3
 .rename_i h;unfold cN;rw[oM];by_cases h2:k=j
  .subst h2;have:l.find? (@bM)=none:=by
    rw[fO];intro p hp z;exact h (List.any_eq_true.mpr ⟨p,hp,z⟩)
   rw[this];simp
  .simp[h2]
theorem vr(l)(k:κ)(v:α):(ft l k v).length<=l.length+1:=by
 unfold ft;split<;>simp
end
class vJ (κ:Type) [@bd] [Enc κ] where
 ok:(∀k:κ,dq (enc k)=true)\/∀k:κ,mr (enc k)=true
instance:vJ Int:=⟨.inl λ_=>rfl⟩
instance:vJ T2:=⟨.inr λ_=>rfl⟩
instance:vJ T3:=⟨.inr λ_=>rfl⟩
theorem k9 [@bd] [Enc κ] [vJ κ] [@Q] [@ab](l:@b8)(k:κ):iW (bb l) (enc k)=true:=by
 unfold iW bb;rcases vJ.ok (κ:=κ) with h |h
 .rw[gO];left;rw[h k,QO,jG,g7];intro p _;exact h p.1
 .rw[gO];right;rw[h k,QO,jG,g7];intro p _;exact h p.1
end K2
end
section
namespace K2
open PySem (Str)
open Enc (enc)
mutual
noncomputable def rC:D->D->Bool
 |.int a,.int b=>decide (a<b)
 |.tup a,.tup b=>oA a b
 |.dc a,.dc b=>oA a b
 |_,_=>false
noncomputable def oA:@e->@e->Bool
 |[],[]=>false
 |[],_::_=>true
 |_::_,[]=>false
 |x::xs,y::ys=>if i7 x y=true then oA xs ys else rC x y
end
theorem pH(x y)(xs ys):oA (x::xs) (y::ys)=if i7 x y=true then oA xs ys else rC x y:=rfl
theorem Tc(a b):rC (.int a) (.int b)=decide (a<b):=rfl
inductive pY where
 |int |tup (l:List pY) |lst (s:pY)
mutual
noncomputable def df:pY->D->Bool
 |.int,.int _=>true
 |.tup l,.tup ds=>gy l ds
 |.lst s,.dc ds=>iX s ds
 |_,_=>false
noncomputable def gy:List pY->@e->Bool
 |[],[]=>true
 |s::l,d::ds=>df s d&&gy l ds
 |_,_=>false
noncomputable def iX:pY->@e->Bool
 |_,[]=>true
 |s,d::ds=>df s d&&iX s ds
end
theorem eG(h:df .int a=true):∃i,a=@w:=by cases a<;>first |exact⟨_,rfl⟩ |exact bo (show @bC from h)
theorem eE(h:df (.tup l) a=true):∃x,a=.tup x:=by cases a<;>first |exact⟨_,rfl⟩ |exact bo (show @bC from h)
theorem eF(h:df (.lst l) a=true):∃x,a=.dc x:=by cases a<;>first |exact⟨_,rfl⟩ |exact bo (show @bC from h)
mutual
noncomputable def Y7:pY->Nat
 |.int=>0
 |.tup l=>UH l+1
 |.lst s=>Y7 s+1
noncomputable def UH:List pY->Nat
 |[]=>0
 |s::l=>max (Y7 s) (UH l)
end
def aai(sh:pY):Bool:=decide (Y7 sh<=7)&&(match sh with
 |.tup []=>false
 |_=>true)
def VA(a b:D):Bool:=!rC b a
def uK(ds:@e):@e:=ds.mergeSort VA
def qv(ds:@e)(G:Gp)(Q:DK):Prop:=match ds with
 |[x]=>∃(sh:pY) (xs:@e),D9 x G/\itemsOf x G=some xs/\xs.all (df sh)=true/\aai sh=true/\xs.length<64/\iQ G (.lst (uK xs)) Q
 |_=>False
class a9 (α:Type) [@Q] [@ab] where
 lt:α->α->Bool
 Ej:pY
 Dp:∀a:α,df Ej (enc a)=true
 Vz:∀a b:α,rC (enc a) (enc b)=lt a b
 Kw:∀a,lt a a=false
 trans:∀a b c,lt a b=true->lt b c=true->lt a c=true
 pW:∀a b,lt a b=false->lt b a=false->a=b
instance:a9 Int where
 lt:=λa b=>decide (a<b)
 Ej:=.int
 Dp:=λ_=>rfl
 Vz:=λa b=>rfl
 Kw:=λa=>@K
 trans:=λa b c h1 h2=>by simp at *;lia
 pW:=λa b h1 h2=>by simp at *;lia
noncomputable def ua{α:Type} [@Q](lt:α->α->Bool):@o->@o->Bool
 |[],[]=>false
 |[],_::_=>true
 |_::_,[]=>false
 |x::xs,y::ys=>if x=y then ua lt xs ys else lt x y
theorem zZ [@Q](lt)(x y)(xs ys:@o):ua lt (x::xs) (y::ys)=if x=y then ua lt xs ys else lt x y:=rfl
section
variable {α:Type} [@Q] {lt:α->α->Bool}
theorem yI:∀x:@o,ua lt x x=false
 |[]=>rfl
 |a::x=>by simp only[zZ,if_true];exact yI x
theorem yH(t:∀a b,lt a b=false->lt b a=false->a=b):∀(x y:@o),ua lt x y=false->ua lt y x=false->x=y
 |[],[],_,_=>rfl
 |[],_::_,h,_=>@aS
 |_::_,[],_,h=>@aS
 |a::x,b::y,h1,h2=>by
  simp only[zZ] at h1 h2;by_cases e:a=b
  .subst e;simp only[if_true] at h1 h2;rw[yH t x y h1 h2]
  .rw[if_neg e] at h1;rw[if_neg (cO e)] at h2;exact absurd (t a b h1 h2) e
theorem sJ(ir:∀a,lt a a=false)(tr:∀a b c,lt a b=true->lt b c=true->lt a c=true):∀(x y z:@o),ua lt x y=true->ua lt y z=true->ua lt x z=true
 |[],[],_,h,_=>@aS
 |[],_::_,[],_,h=>@aS
 |[],_::_,_::_,_,_=>rfl
 |_::_,[],_,h,_=>@aS
 |_::_,_::_,[],_,h=>@aS
 | a::x,b::y,c::z,h1,h2=>by
  simp only[zZ] at h1 h2 ⊢;by_cases e1:a=b
  .subst e1;simp only[if_true] at h1;by_cases e2:a=c
   .subst e2;simp only[if_true] at h2 ⊢;exact sJ ir tr x y z h1 h2
   .rw[if_neg e2] at h2 ⊢;exact h2
  .rw[if_neg e1] at h1;by_cases e2:b=c
   .subst e2;rw[if_neg e1];exact h1
   .rw[if_neg e2] at h2;have h3:=tr _ _ _ h1 h2;rw[if_neg (by ext c;rw[ir] at h3;cases h3)];exact h3
end
theorem yF [@Q] [@ab] [a9 α]:∀(x y:@o),oA (x.map enc) (y.map enc)=ua (a9.lt (α:=α)) x y
 |[],[]=>rfl
 |[],_::_=>rfl
 |_::_,[]=>rfl
 |a::x,b::y=>by simp only[ak,pH,zZ,Enc.eqv,yF x y,a9.Vz,decide_eq_true_eq]
theorem Ff [@Q] [@ab] [a9 α]:∀(x:@o),iX (a9.Ej α) (x.map enc)=true
 |[]=>rfl
 |a::x=>by simp only[ak,iX,a9.Dp,Ff x,Bool.and_self]
instance {α:Type} [@Q] [@ab] [a9 α]:a9 (@o) where
 lt:=ua a9.lt
 Ej:=.lst (a9.Ej α)
 Dp:=λa=>Ff a
 Vz:=λa b=>yF a b
 Kw:=yI
 trans:=sJ a9.Kw a9.trans
 pW:=yH a9.pW
noncomputable def T2.l(t:T2):@D:=[t.a,t.b]
noncomputable def T3.l(t:T3):@D:=[t.a,t.b,t.c]
instance:a9 T2 where
 lt:=λx y=>ua (λa b=>decide (a<b)) x.l y.l
 Ej:=.tup [.int,.int]
 Dp:=λ_=>rfl
 Vz:=λa b=>yF a.l b.l
 Kw:=λa=>yI _
 trans:=λa b c=>sJ (α:=Int) a9.Kw a9.trans _ _ _
 pW:=λ⟨a,b⟩ ⟨c,d⟩ h1 h2=>by
  have:=yH (α:=Int) a9.pW _ _ h1 h2;simpa[T2.l] using this
instance:a9 T3 where
 lt:=λx y=>ua (λa b=>decide (a<b)) x.l y.l
 Ej:=.tup [.int,.int,.int]
 Dp:=λ_=>rfl
 Vz:=λa b=>yF a.l b.l
 Kw:=λa=>yI _
 trans:=λa b c=>sJ (α:=Int) a9.Kw a9.trans _ _ _
 pW:=λ⟨a,b,e⟩ ⟨c,d,f⟩ h1 h2=>by
  have:=yH (α:=Int) a9.pW _ _ h1 h2;simpa[T3.l] using this
section
variable {α:Type} [@Q] [@ab] [a9 α]
noncomputable def Jj(a b:α):Bool:=!a9.lt b a
def Vy(xs:@o):@o:=xs.mergeSort Jj
theorem OX(xs:@o):uK @bu=(Vy xs).map enc:=by
 unfold uK Vy;symm;exact List.map_mergeSort λa _ b _=>by unfold Jj VA;rw[a9.Vz]
theorem E7(a b c:α)(h1:Jj a b=true)(h2:Jj b c=true):Jj a c=true:=by
 unfold Jj at *;simp only[oN] at *;cases h:a9.lt c a with
 |false=>rfl
 | true=>
  by_cases e:a=b
  .subst e;rw[h] at h2;cases h2
  .have XF:a9.lt a b=true:=by
    cases q:a9.lt a b with
    |true=>rfl
    |false=>exact absurd (a9.pW _ _ q h1) e
   rw[a9.trans _ _ _ h XF] at h2;cases h2
theorem To(a b:α)(h1:Jj a b=true)(h2:Jj b a=true):a=b:=by
 unfold Jj at *;exact a9.pW a b (@bH) (@cx)
theorem uI(xs:@o):(Vy xs).Perm xs:=List.mergeSort_perm xs Jj
theorem Wa{x:α}:x∈Vy xs↔x∈xs:=(uI xs).mem_iff
theorem BK(xs:@o):(Vy xs).length=xs.length:=(uI xs).length_eq
theorem OW{xs:@o}(h:xs.Nodup):(Vy xs).Nodup:=(uI xs).nodup_iff.mpr h
end
end K2
end
section
namespace K2
open PySem (Str)
mutual
theorem mx:∀(sh:pY) (a:D),df sh a=true->i7 a a=true
 |.int,.int i,_=>by show(i == i)=true;exact beq_self_eq_true i
 |.tup l,.tup xs,h=>by show mS xs xs=true;exact A5 l xs h
 |.lst l,.dc xs,h=>by show mS xs xs=true;exact A6 l xs h
theorem A5:∀(l:List pY) (xs:@e),gy l xs=true->mS xs xs=true
 |[],[],_=>rfl
 |s::l,x::xs,h=>by
  have h:(df s x&&gy l xs)=true:=h;rw[aL] at h;show(i7 x x&&mS xs xs)=true;rw[mx s x h.1,A5 l xs h.2];rfl
theorem A6:∀(s:pY) (xs:@e),iX s xs=true->mS xs xs=true
 |_,[],_=>rfl
 |s,x::xs,h=>by
  have h:(df s x&&iX s xs)=true:=h;rw[aL] at h;show(i7 x x&&mS xs xs)=true;rw[mx s x h.1,A6 s xs h.2];rfl
end
theorem aa6(s)(ih:∀(a b:D),df s a=true->df s b=true->i7 a b=true->a=b):∀(xs ys:@e),iX s xs=true->iX s ys=true->mS xs ys=true->xs=ys:=by
 intro xs;induction xs with
 |nil=>intro ys _ _ h;cases ys with
  |nil=>rfl
  |cons _ _=>cases h
 | cons x xs ihx=>
  intro ys h1 h2 h;cases ys with
  |nil=>cases h
  |cons y ys=>
   have h1:(df s x&&iX s xs)=true:=h1;have h2:(df s y&&iX s ys)=true:=h2;have h:(i7 x y&&mS xs ys)=true:=h;rw[aL] at h1 h2 h;rw[ih x y h1.1 h2.1 h.1,ihx ys h1.2 h2.2 h.2]
mutual
theorem tQ:∀(sh:pY) (a b:D),df sh a=true->df sh b=true->i7 a b=true->a=b
 |.int,a,b,h1,h2,h=>by
  ext n
  ext o
  rw[my] at h;rw[beq_iff_eq.mp h]
 |.tup l,a,b,h1,h2,h=>by
  ext n
  ext o
  rw[UA l _ _ h1 h2 h]
 |.lst l,a,b,h1,h2,h=>by
  ext n
  ext o
  rw[aa6 l (tQ l) _ _ h1 h2 h]
theorem UA:∀(l:List pY) (xs ys:@e),gy l xs=true->gy l ys=true->mS xs ys=true->xs=ys
 | [],xs,ys,h1,h2,_=>by
  cases xs with
  |nil=>cases ys with
   |nil=>rfl
   |cons _ _=>cases h2
  |cons _ _=>cases h1
 | s::l,xs,ys,h1,h2,h=>by
  cases xs with
  |nil=>cases h1
  | cons x xs=>
   cases ys with
   |nil=>cases h2
   |cons y ys=>
    have h1:(df s x&&gy l xs)=true:=h1;have h2:(df s y&&gy l ys)=true:=h2;have h:(i7 x y&&mS xs ys)=true:=h;rw[aL] at h1 h2 h;rw[tQ s x y h1.1 h2.1 h.1,UA l xs ys h1.2 h2.2 h.2]
end
theorem Ta(s)(ih:∀(a b:D),df s a=true->df s b=true->rC a b=false->rC b a=false->a=b):∀(xs ys:@e),iX s xs=true->iX s ys=true->oA xs ys=false->oA ys xs=false->xs=ys:=by
 intro xs;induction xs with
 |nil=>intro ys _ _ h _;cases ys with
  |nil=>rfl
  |cons _ _=>cases h
 | cons x xs ihx=>
  intro ys h1 h2 h3 h4;cases ys with
  |nil=>cases h4
  | cons y ys=>
   have h1:(df s x&&iX s xs)=true:=h1;have h2:(df s y&&iX s ys)=true:=h2;rw[aL] at h1 h2;simp only[pH] at h3 h4;by_cases e:i7 x y=true
   .have exy:=tQ s x y h1.1 h2.1 e;subst exy;rw[if_pos e] at h3 h4;rw[ihx ys h1.2 h2.2 h3 h4]
   .rw[if_neg e] at h3;by_cases e2:i7 y x=true
    .have:=tQ s y x h2.1 h1.1 e2;subst this;exact absurd e2 e
    .rw[if_neg e2] at h4;have:=ih x y h1.1 h2.1 h3 h4;subst this;exact absurd (mx s x h1.1) e
mutual
theorem BQ:∀(sh:pY) (a b:D),df sh a=true->df sh b=true->rC a b=false->rC b a=false->a=b
 |.int,a,b,h1,h2,h3,h4=>by
  ext n
  ext o
  simp[Tc] at h3 h4;congr 1;lia
 |.tup l,a,b,h1,h2,h3,h4=>by
  ext n
  ext o
  rw[Je l _ _ h1 h2 h3 h4]
 |.lst l,a,b,h1,h2,h3,h4=>by
  ext n
  ext o
  rw[Ta l (BQ l) _ _ h1 h2 h3 h4]
theorem Je:∀(l:List pY) (xs ys:@e),gy l xs=true->gy l ys=true->oA xs ys=false->oA ys xs=false->xs=ys
 | [],xs,ys,h1,h2,_,_=>by
  cases xs with
  |nil=>cases ys with
   |nil=>rfl
   |cons _ _=>cases h2
  |cons _ _=>cases h1
 | s :: l,xs,ys,h1,h2,h3,h4=>by
  cases xs with
  |nil=>cases h1
  | cons x xs=>
   cases ys with
   |nil=>cases h2
   | cons y ys=>
    have h1:(df s x&&gy l xs)=true:=h1;have h2:(df s y&&gy l ys)=true:=h2;rw[aL] at h1 h2;simp only[pH] at h3 h4;by_cases e:i7 x y=true
    .have exy:=tQ s x y h1.1 h2.1 e;subst exy;rw[if_pos e] at h3 h4;rw[Je l xs ys h1.2 h2.2 h3 h4]
    .rw[if_neg e] at h3;by_cases e2:i7 y x=true
     .have:=tQ s y x h2.1 h1.1 e2;subst this;exact absurd e2 e
     .rw[if_neg e2] at h4;have:=BQ s x y h1.1 h2.1 h3 h4;subst this;exact absurd (mx s x h1.1) e
end
mutual
theorem Gs:∀(sh:pY) (a:D),df sh a=true->rC a a=false
 |.int,.int i,_=>by rw[Tc];exact decide_eq_false (Int.lt_irrefl _)
 |.tup l,.tup xs,h=>by show oA xs xs=false;exact Jf l xs h
 |.lst l,.dc xs,h=>by show oA xs xs=false;exact Jg l xs h
theorem Jf:∀(l:List pY) (xs:@e),gy l xs=true->oA xs xs=false
 |[],[],_=>rfl
 |s::l,x::xs,h=>by
  have h:(df s x&&gy l xs)=true:=h;rw[aL] at h;simp only[pH,mx s x h.1,if_true];exact Jf l xs h.2
theorem Jg:∀(s:pY) (xs:@e),iX s xs=true->oA xs xs=false
 |_,[],_=>rfl
 |s,x::xs,h=>by
  have h:(df s x&&iX s xs)=true:=h;rw[aL] at h;simp only[pH,mx s x h.1,if_true];exact Jg s xs h.2
end
theorem LM(s)(ih:∀(a b c:D),df s a=true->df s b=true->df s c=true->rC a b=true->rC b c=true->rC a c=true):∀(xs ys zs:@e),iX s xs=true->iX s ys=true->iX s zs=true->oA xs ys=true->oA ys zs=true->oA xs zs=true:=by
 intro xs;induction xs with
 | nil=>
  intro ys zs _ _ _ h4 h5;cases ys with
  |nil=>cases h4
  |cons _ _=>cases zs with
   |nil=>cases h5
   |cons _ _=>rfl
 | cons x xs ihx=>
  intro ys zs h1 h2 h3 h4 h5;cases ys with
  |nil=>cases h4
  | cons y ys=>
   cases zs with
   |nil=>cases h5
   | cons z zs=>
    have h1:(df s x&&iX s xs)=true:=h1;have h2:(df s y&&iX s ys)=true:=h2;have h3:(df s z&&iX s zs)=true:=h3;rw[aL] at h1 h2 h3;simp only[pH] at h4 h5 ⊢;by_cases e1:i7 x y=true
    .have:=tQ s x y h1.1 h2.1 e1;subst this;rw[if_pos e1] at h4;by_cases e2:i7 x z=true
     .rw[if_pos e2] at h5 ⊢;exact ihx ys zs h1.2 h2.2 h3.2 h4 h5
     .rw[if_neg e2] at h5 ⊢;exact h5
    .rw[if_neg e1] at h4;by_cases e2:i7 y z=true
     .have:=tQ s y z h2.1 h3.1 e2;subst this;rw[if_neg e1];exact h4
     .rw[if_neg e2] at h5;have h6:=ih x y z h1.1 h2.1 h3.1 h4 h5;rw[if_neg (λe3=>by
       have:=tQ s x z h1.1 h3.1 e3;subst this;rw[Gs s x h1.1] at h6;cases h6)]
      exact h6
mutual
theorem vT:∀(sh:pY) (a b c:D),df sh a=true->df sh b=true->df sh c=true->rC a b=true->rC b c=true->rC a c=true
 |.int,a,b,c,h1,h2,h3,h4,h5=>by
  ext n
  ext o
  first |obtain⟨_,rfl⟩:=eG h3 |obtain⟨_,rfl⟩:=eE h3 |obtain⟨_,rfl⟩:=eF h3
  simp[Tc] at *;lia
 |.tup l,a,b,c,h1,h2,h3,h4,h5=>by
  ext n
  ext o
  first |obtain⟨_,rfl⟩:=eG h3 |obtain⟨_,rfl⟩:=eE h3 |obtain⟨_,rfl⟩:=eF h3
  exact C6 l _ _ _ h1 h2 h3 h4 h5
 |.lst l,a,b,c,h1,h2,h3,h4,h5=>by
  ext n
  ext o
  first |obtain⟨_,rfl⟩:=eG h3 |obtain⟨_,rfl⟩:=eE h3 |obtain⟨_,rfl⟩:=eF h3
  exact LM l (vT l) _ _ _ h1 h2 h3 h4 h5
theorem C6:∀(l:List pY) (xs ys zs:@e),gy l xs=true->gy l ys=true->gy l zs=true->oA xs ys=true->oA ys zs=true->oA xs zs=true
 | [],xs,ys,zs,h1,h2,_,h,_=>by
  cases xs with
  |nil=>cases ys with
   |nil=>cases h
   |cons _ _=>cases h2
  |cons _ _=>cases h1
 | s :: l,xs,ys,zs,h1,h2,h3,h4,h5=>by
  cases xs with
  |nil=>cases h1
  | cons x xs=>
   cases ys with
   |nil=>cases h2
   | cons y ys=>
    cases zs with
    |nil=>cases h3
    | cons z zs=>
     have h1:(df s x&&gy l xs)=true:=h1;have h2:(df s y&&gy l ys)=true:=h2;have h3:(df s z&&gy l zs)=true:=h3;rw[aL] at h1 h2 h3;simp only[pH] at h4 h5 ⊢;by_cases e1:i7 x y=true
     .have:=tQ s x y h1.1 h2.1 e1;subst this;rw[if_pos e1] at h4;by_cases e2:i7 x z=true
      .rw[if_pos e2] at h5 ⊢;exact C6 l xs ys zs h1.2 h2.2 h3.2 h4 h5
      .rw[if_neg e2] at h5 ⊢;exact h5
     .rw[if_neg e1] at h4;by_cases e2:i7 y z=true
      .have:=tQ s y z h2.1 h3.1 e2;subst this;rw[if_neg e1];exact h4
      .rw[if_neg e2] at h5;have h6:=vT s x y z h1.1 h2.1 h3.1 h4 h5;rw[if_neg (λe3=>by
        have:=tQ s x z h1.1 h3.1 e3;subst this;rw[Gs s x h1.1] at h6;cases h6)]
       exact h6
end
theorem E3(sh)(h1:df sh a=true)(h2:df sh b=true)(h:rC a b=true):rC b a=false:=by
 cases q:rC b a with
 |false=>rfl
 |true=>have:=vT sh a b a h1 h2 h1 h q;rw[Gs sh a h1] at this;ext f
theorem C7(sh)(h1:df sh a=true)(h2:df sh b=true)(h3:df sh c=true)(q1:rC b a=false)(q2:rC c b=false):rC c a=false:=by
 cases h:rC c a with
 |false=>rfl
 | true=>
  exfalso;cases q:rC a b with
  |false=>
   have:=BQ sh a b h1 h2 q q1;subst this;rw[h] at q2;cases q2
  |true=>rw[vT sh c a b h3 h1 h2 h q] at q2;cases q2
theorem yd(sh)(hx:∀x∈xs,df sh x=true)(hp:ys.Perm xs)(hs:ys.Pairwise λa b=>rC b a=false):uK xs=ys:=by
 have hy:∀y∈ys,df sh y=true:=λy h=>hx y (hp.mem_iff.mp h);have p1:(uK xs).Perm xs:=List.mergeSort_perm xs VA;have hz:∀z∈uK xs,df sh z=true:=λz h=>hx z (p1.mem_iff.mp h);have s1:(uK xs).Pairwise λa b=>rC b a=false:=by
  let Rh:List {d:D // df sh d=true}:=xs.attach.map λx=>⟨x.1,hx x.1 x.2⟩
  have ex:xs=Rh.map @n:=by
   simp only[Rh,bq]
   conv=>lhs;rw[<-List.attach_map_subtype_val xs]
   rfl
  have e2:uK xs=(Rh.mergeSort λa b=>VA a.1 b.1).map @n:=by
   unfold uK;rw[ex];exact(List.map_mergeSort (r:=λ(a b:{d:D // df sh d=true})=>VA a.1 b.1) (s:=VA) (f:=λx=>x.1) (l:=Rh) λa _ b _=>rfl).symm
  rw[e2,oJ]
  have:=List.pairwise_mergeSort (le:=λ(a b:{d:D // df sh d=true})=>VA a.1 b.1) (λa b c h1 h2=>by
   unfold VA at *;simp only[oN] at *;exact C7 sh a.2 b.2 c.2 h1 h2) (λa b=>by
   unfold VA;cases q:rC b.1 a.1 with
   |false=>rfl
   |true=>rw[E3 sh b.2 a.2 q];rfl) Rh
  exact this.imp λh=>by unfold VA at h;simpa using h
 refine List.Perm.eq_of_pairwise (le:=λa b=>rC b a=false) (λa b ha hb h h'=>?_) s1 hs (p1.trans hp.symm);exact BQ sh a b (hz a ha) (hy b hb) h' h
end K2
end
section
namespace K2
open PySem (Str)
open Enc (enc)
noncomputable def jC(k:Nat):@e->@e
 |[]=>[]
 |d::r=>.tup [.int (k:Int),d]::jC (k+1) r
theorem Am:∀(ds:@e) (k i:Nat),(jC k ds)[i]?=(ds[i]?).map λd=>D.tup [.int ((k+i:Nat):Int),d]
 |[],k,i=>by simp[jC]
 |d::r,k,0=>by simp[jC]
 |d::r,k,i+1=>by
  rw[jC,ae,Am r (k+1) i,ae];congr 1;funext x;congr 3;lia
theorem Aj:∀(ds:@e) (k:Nat),(jC k ds).length=ds.length
 |[],_=>rfl
 |d::r,k=>by rw[jC,ag,ag,Aj r]
def yP(x:D)(G1:Gp)(R:@aQ):Prop:=match x with
 |.dc ds=>R (jC 0 ds) @aC G1
 |.ref p=>(match G1 p with
  |some (.lst ds)=>R (jC 0 ds) (λG2=>G2 p=@bq) G1
  |_=>False)
 |_=>False
def yQ(a:gC):KA:=λE τ G R=>a E τ G λx G1=>yP x G1 R
def acn(P:D->@B):@e->@B
 |[x],G=>P x G
 |_,_=>False
def aff(P:D->D->@B):@e->@B
 |[x,y],G=>P x y G
 |_,_=>False
noncomputable def sd:@e->@e->@e
 |x::xs,y::ys=>.tup [x,y]::sd xs ys
 |_,_=>[]
theorem H0:∀(xs ys:@e) (i:Nat),(sd xs ys)[i]?=(xs[i]?).bind λx=>(ys[i]?).map λy=>D.tup [x,y]
 |[],ys,i=>by simp[sd]
 |x::xs,[],i=>by cases h:(x::xs)[i]?<;>simp[sd]
 |x::xs,y::ys,0=>by simp[sd]
 |x::xs,y::ys,i+1=>by rw[sd,ae,H0 xs ys i,ae,ae]
theorem HZ:∀(xs ys:@e),(sd xs ys).length=@cX
 |[],ys=>by simp[sd]
 |x::xs,[]=>by simp[sd]
 |x::xs,y::ys=>by rw[sd,ag,HZ xs ys,ag,ag];lia
noncomputable def yG(x:D)(G:Gp):Option (@e×(@B)):=match x with
 |.dc ds=>some (ds,λ_=>True)
 |.ref p=>(match G p with
  |some (.lst ds)=>some (ds,λG2=>G2 p=@bq)
  |_=>none)
 |_=>none
def xm(x y:D)(G1:Gp)(R:@aQ):Prop:=match yG x G1,yG y G1 with
 |some (xs,k1),some (ys,k2)=>R (sd xs ys) (λG2=>k1 G2/\k2 G2) G1
 |_,_=>False
def LY(a b:gC):KA:=λE τ G R=>a E τ G λx G1=>b E τ G1 λy G2=>xm x y G2 R
def Gz(x:D)(G1:Gp)(R:@aQ):Prop:=match x with
 |.kU kvs=>R (kvs.map @n) @aC G1
 |_=>False
def lx(a:gC):KA:=λE τ G R=>a E τ G λx G1=>Gz x G1 R
def IsL(G:Gp)(d:D)(ds:@e):Prop:=d=.dc ds\/∃a,d=@V/\G a=@bq
theorem IsL.dc:IsL G (.dc ds) ds:=@ac
theorem IsL.enc [@Q] [@ab](xs:@o):IsL G (enc xs) @bu:=@ac
theorem IsL.ref{G:Gp}{a:Nat}{ds:@e}(h:G a=@bq):IsL G @u ds:=.inr ⟨a,rfl,h⟩
theorem IsL.mono(h:IsL G d ds)(l:@G):IsL G' d ds:=by
 rcases h with h |⟨a,h,e⟩
 .exact .inl h
 .exact .inr ⟨a,h,l a _ e⟩
theorem Ji(h:IsL G d ds):∃ok:@B,yG d G=some (ds,ok)/\∀G',@G->ok G':=by
 rcases h with rfl |⟨a,rfl,e⟩
 .exact⟨_,rfl,λ_ _=>trivial⟩
 .unfold yG;simp only[e];exact⟨_,rfl,λG' l=>l a _ e⟩
theorem PX{G:Gp}{d d':D}{ds ds':@e}{R:@aQ}(h:IsL G d ds)(h':IsL G d' ds')(k:∀ok:@B,(∀G',@G->ok G')->R (sd ds ds') ok G):xm d d' G R:=by
 obtain⟨k1,e1,h1⟩:=Ji h;obtain⟨k2,e2,h2⟩:=Ji h';unfold xm;simp only[e1,e2];exact k _ λG' l=>⟨h1 G' l,h2 G' l⟩
theorem Ro{G:Gp}{d:D}{ds:@e}{Q:Bool->@B}(h:IsL G d ds)(k:Q (!ds.isEmpty) G):qf d G Q:=by
 rcases h with rfl |⟨a,rfl,e⟩
 .exact k
 .rw[OS e];exact k
theorem xl(h:IsL G d ds):itemsOf d G=some ds:=by
 rcases h with rfl |⟨a,rfl,e⟩
 .rfl
 .unfold itemsOf;simp only[e]
theorem Zs(h:IsL G d ds):D9 d G:=by
 rcases h with rfl |⟨a,rfl,e⟩
 .trivial
 .unfold D9;simp only[e]
theorem jz(h:IsL G d ds)(k:iQ G (.lst (cut ds lo hi)) Q):RV d lo hi G Q:=by
 rcases h with rfl |⟨a,rfl,e⟩
 .exact k
 .rw[Wk e];exact k
theorem X3{G:Gp}{d:D}{ds:@e}{Q:DK}(h:IsL G d ds)(k:Q (.int (ds.length:Int)) G):ja [d] G Q:=by
 rcases h with rfl |⟨a,rfl,e⟩
 .exact k
 .rw[J7 e];exact k
theorem J4(h:IsL G d ds)(k:iQ G (.lst ds) Q):vq [d] G Q:=by
 unfold vq;simp only[xl h];exact k
theorem xu [@Q] [@ab] [a9 α]{xs:@o}(h:IsL G d @bu)(hl:xs.length<64)(k:iQ G (.lst ((Vy xs).map enc)) Q)(ok:autoParam (aai (a9.Ej α)=true) Ad._auto_1):qv [d] G Q :=
 ⟨a9.Ej α,xs.map enc,Zs h,xl h,by rw[jG,g7];intro x _;exact a9.Dp x,ok,by rw[au];exact hl,by rw[OX];exact k⟩
theorem uY{G:Gp}{d x:D}{ds:@e}{i:Int}{Q:DK}(h:IsL G d ds)(e:rN ds i=@aa)(k:Q x G):fQ d (@w) G Q:=by
 rcases h with rfl |⟨a,rfl,e2⟩
 .rw[Wm e];exact k
 .rw[mF e2 e];exact k
theorem rE(h:IsL G d ds):qm d G=some ds:=by
 rcases h with rfl |⟨a,rfl,e⟩
 .rfl
 .unfold qm;simp only[e]
theorem X5(h:IsL G d ds)(h':IsL G e es)(hz:ds.length+es.length<=SZ)(k:iQ G (.lst (ds++es)) Q):Ho d e G Q:=by
 unfold Ho;simp only[rE h,rE h'];exact⟨hz,k⟩
theorem jB(h:IsL G d ds)(h':IsL G e es)(hz:ds.length+es.length<=SZ)(k:iQ G (.lst (ds++es)) Q):fk d e G Q:=by
 have:=X5 h h' hz k;rcases h with rfl |⟨a,rfl,_⟩
 .rw[jV];ext g
 .rw[jm];ext g
theorem zc(xs:@o)(i)(h:i<=xs.length):cut xs (some @ay) none=xs.drop i:=by
 unfold cut kI;simp only;rw[if_neg @c,c9,nq h];exact xG (by rw[bP];lia)
theorem GY(xs:@o)(i)(h:i<=xs.length):cut xs none (some @ay)=xs.take i:=by
 unfold cut kI;simp only;rw[if_neg @c,c9,nq h];simp
theorem qu(f:α->β)(xs)(lo hi):cut (xs.map f) lo hi=(cut xs lo hi).map f:=by
 unfold cut;rw[au,iZ,i5]
theorem qw(xs:@o){k:Int}(h0:0<=k)(h1:k<xs.length):rN xs k=some (xs[k.toNat]'(@d)):=by
 unfold rN Gx;rw[if_pos h0,if_pos h1];show xs[k.toNat]?=_;exact az @c
theorem Ln(h:iK 0 n=pre++d::post):d=.int (pre.length:Int)/\pre.length<n:=by
 have hl:pre.length<n:=by
  have:=congrArg dh h;simp[iK] at this;lia
 have:=congrArg (λl=>l[pre.length]?) h;simp only[iK,bw,List.getElem?_range hl] at this;rw[cg @J] at this;simp at this;exact⟨this.symm,hl⟩
def Wb [@Q] [@ab] [DecidableEq β] [Enc β](pre:α->Prop)(f:α->β):iS:=λds G Q _=>∃a:α,ds=[enc a]/\pre a/\Q (enc (f a)) G
def ab0 [@Q] [@ab] [DecidableEq β] [Enc β] [DecidableEq γ] [Enc γ](pre:α->β->Prop)(f:α->β->γ):iS:=λds G Q _=>∃(a:α) (b:β),ds=[enc a,enc b]/\pre a b/\Q (enc (f a b)) G
def ae4:Ed
 |.int i,.int j,G,Q=>(0<=j/\j<=1000000/\i.natAbs<2 ^ 64)/\Q (.int (i ^ j.toNat)) G
 |_,_,_,_=>False
noncomputable def oG:Nat:=2 ^ 4000
def ER:Ed
 |.int i,.int j,G,Q=>(i.natAbs<oG/\j.natAbs<oG)/\Q (.int (i*j)) G
 |_,_,_,_=>False
theorem mO:ae4 (@w) (.int j) G Q=((0<=j/\j<=1000000/\i.natAbs<2 ^ 64)/\Q (.int (i ^ j.toNat)) G):=rfl
theorem jt:ER (@w) (.int j) G Q=((i.natAbs<oG/\j.natAbs<oG)/\Q (.int (i*j)) G):=rfl
noncomputable def y9:D->Gp->Option (@ag)
 |.kU kvs,_=>some kvs
 |.ref a,G=>match G a with
  |some (.gz kvs)=>some kvs
  |_=>none
 |_,_=>none
def yL(kvs:@ag):Bool:=@cz
def Fx(ds:@e)(G:Gp)(Q:DK):Prop:=match ds with
 |[x]=>∃kvs,y9 x G=some kvs/\yL kvs=true/\kvs.length<=SZ/\iQ G (.gz kvs) Q
 |_=>False
def C4(x:D)(ds:@e)(G:Gp)(Q:DK):Prop:=match ds with
 |[k,d]=>∃kvs,y9 x G=some kvs/\yL kvs=true/\dq k=true/\Q ((look kvs k).getD d) G
 |_=>False
def Ju(x:D)(G1:Gp)(R:@aQ):Prop:=match x with
 |.kU kvs=>yL kvs=true/\R (kvs.map λp=>.tup [p.1,p.2]) @aC G1
 |_=>False
def iL(a:gC):KA:=λE τ G R=>a E τ G λx G1=>Ju x G1 R
noncomputable def pE:D->Bool
 |.fe=>true
 |.bl _=>true
 |.int _=>true
 |_=>false
def tS(k v:gC):gC:=λE τ G Q=>k E τ G λx G1=>v E τ G1 λy G2=>dq x=true/\iQ G2 (.gz [(x,y)]) Q
def BA(l m:@ae):Bool:=l.length == m.length&&l.all λp=>cN m p.1 == @a3
def ZO(neg:Bool):Ed:=λx y G Q=>∃l m:@ae,y9 x G=some (bb l)/\y9 y G=some (bb m)/\Q (.bl (if neg then !BA l m else BA l m)) G
def t9(neg:Bool):Ed:=λx y G Q=>zT neg x y G Q\/ZO neg x y G Q
def zA [@bd] [Enc κ] [@Q] [@ab](G:Gp)(d:D)(l:@b8):Prop:=y9 d G=some (bb l)
section
variable {κ α:Type} [@bd] [Enc κ] [@Q] [@ab] {l:@b8} {G G':Gp} {d:D}
theorem zA.ref{a:Nat}(h:G a=some (.gz (bb l))):zA G @u l:=by unfold zA y9;simp only[h]
theorem zA.kU:zA G (.kU (bb l)) l:=rfl
theorem zA.inv(h:zA G d l):d=.kU (bb l)\/∃a,d=@V/\G a=some (.gz (bb l)):=by
 unfold zA y9 at h;split at h
 .exact .inl (by rw[aZ h])
 .rename_i a;split at h
  .rename_i kvs e;exact .inr ⟨a,rfl,by rw[e,aZ h]⟩
  .cases h
 .cases h
def Zj(_:Gp)(d:D)(l:@b8):Prop:=d=.kU (bb l)
theorem Zj.p(h:Zj G d l):zA G' d l:=by unfold Zj at h;rw[h];exact .kU
theorem ml [DecidableEq β] [Enc β](l:List (Int×β)):yL (bb l)=true:=by
 unfold yL bb;rw[jG,g7];intro p _;rfl
theorem Fs(l:@b8):(bb l).length=l.length:=by unfold bb;rw[au]
theorem FV(h:zA G d l):Rl d G:=by
 rcases h.inv with rfl |⟨a,rfl,e⟩
 .trivial
 .unfold Rl;simp only[e]
theorem TN {C:String} {Q:DK} (h:zA G d l) (k:Q (.bl (C == "dict")) G):isAt C d G Q:=by
 rcases h.inv with rfl |⟨a,rfl,e⟩
 .exact k
 .rw[TM];simp only[e];exact k
end
section
variable {α:Type} [@Q] [@ab] {l:List (Int×α)} {G:Gp} {d:D}
theorem UR(h:zA G d l)(hs:l.length<=SZ)(k:iQ G (.gz (bb l)) Q):Fx [d] G Q:=⟨_,h,ml l,by rw[Fs];exact hs,k⟩
theorem NC{Q:DK}{i:Int}{e:α}(h:zA G d l)(k:Q (enc ((cN l i).getD e)) G):C4 d [@w,enc e] G Q:=by
 refine⟨_,h,ml l,rfl,?_⟩;have:(look (bb l) (@w)).getD (enc e)=enc ((cN l i).getD e):=by
  rw[show(D.int i)=enc i from rfl,rF];cases cN l i<;>rfl
 rw[this];exact k
theorem mQ{G0:Gp}{R:@aQ}(h:Zj G0 d l)(le0:dI G0 G)(k:∀ok:@B,(∀G',dI G0 G'->ok G')->R (l.map λp=>.tup [.int p.1,enc p.2]) ok G):Ju d G R:=by
 unfold Zj at h;rw[h];refine⟨ml l,?_⟩;have:(bb l).map (λp=>D.tup [p.1,p.2])=l.map λp=>.tup [.int p.1,enc p.2]:=by unfold bb;rw[bq];rfl
 rw[this];exact k _ λG' le=>trivial
theorem sO{G0:Gp}{R:@aQ}(h:Zj G0 d l)(le0:dI G0 G)(k:∀ok:@B,(∀G',dI G0 G'->ok G')->R (l.map λp=>.int p.1) ok G):Gz d G R:=by
 unfold Zj at h;rw[h];show R ((bb l).map @n) _ G;have:(bb l).map @n=l.map λp=>D.int p.1:=by unfold bb;rw[bq];rfl
 rw[this];exact k _ λG' le=>trivial
theorem ES{i:Int}{v:α}{Q:DK}(h:zA G d l)(e:cN l i=@W)(k:Q (enc v) G):fQ d (@w) G Q:=by
 have hk:iW (bb l) (@w)=true:=k9 l i;have hl:look (bb l) (@w)=some (enc v):=by rw[show(D.int i)=enc i from rfl,rF,e];rfl
 rcases h.inv with rfl |⟨a,rfl,e⟩
 .rw[yt,hl];exact⟨hk,k⟩
 .rw[Gb,e];simp only[hl];exact⟨hk,k⟩
theorem gw{a:Nat}{i:Int}{v:α}{Q:@B}(h:G a=some (.gz (bb l)))(hs:l.length<SZ)(k:Q (dw G a (.gz (bb (ft l i v))))):wC @u (@w) (enc v) G Q:=by
 unfold wC;simp only[h];refine⟨k9 l i,by rw[Fs];exact hs,?_⟩;rw[show(D.int i)=enc i from rfl,Ng];exact k
end
theorem R0{neg:Bool}{G:Gp}{d e:D}{l m:@ae}{Q:DK}(h1:zA G d l)(h2:zA G e m)(k:Q (.bl (if neg then !BA l m else BA l m)) G):t9 neg d e G Q:=.inr ⟨l,m,h1,h2,k⟩
theorem yu{neg:Bool}{G:Gp}{i j:Int}{Q:DK}(k:Q (.bl (if neg then !decide (i=j) else decide (i=j))) G):t9 neg (@w) (.int j) G Q:=.inl ⟨_,_,@S,@S,by
 have:i7 (@w) (.int j)=decide (i=j):=Enc.eqv i j;rw[this];exact k⟩
theorem Sh(l:@ae):((bb l).all λp=>dq p.1&&pE p.2)=true:=by
 unfold bb;rw[jG,g7];intro p _;rfl
abbrev TF2:=mK->jx->Gp->(@v->@B)->Prop
end K2
end
section
namespace K2
def sW(x:PySem.Str)(t:Az):gq:=λE _ τ G=>t E τ G λds _=>ds.length<=SZ/\E ⟨x,[]⟩ (λ_=>none)
end K2
namespace K2
open PySem (Str)
def Fu(sp:iS)(t:Az)(i:Nat)(cat:@v)(th:gq):gq:=λ_ K τ G=>
 t @q τ G λds G1=>sp ds (λ_=>none) (λ_ _=>K.nx τ G1) λex _=>cat.contains ex.cls=true /\
  th @q ⟨λpV G'=>K.nx (pV.set i none) G',@z,@z,@z⟩ (τ.set i (some (.exc ex.cls))) G1
end K2
namespace K2
open PySem (Str)
def A9(all sub:@v)(a:gC):gC:=λE τ G Q=>a E τ G λx G1=>match x with
 |.fe=>Q (.bl false) G1
 |.exc c=>all.contains c=true/\Q (.bl (sub.contains c)) G1
 |.Et c _ _=>all.contains c=true/\Q (.bl (sub.contains c)) G1
 |_=>False
end K2
namespace K2
open PySem (Str)
def qM(sp:iS)(t:Az):gC:=λE τ G Q=>t E τ G λds G1=>sp ds G1 Q E
end K2
end
local macro_rules | `(tactic|simp! $[[$a,*]]? $[$l:location]?)=>match a with |some a=>`(tactic|simp only[↓aa,↓ae,↓av,↓ai,↓ag,↓ao,↓K2.bZ,↓K2.b7,↓K2.aY,↓ak,↓aM,↓ay,↓aG,↓if_false,↓aj,↓if_true,↓aW,↓K2.c8,↓true_and,↓bG,↓K2.fj,↓K2.eD,↓K2.fV,↓K2.jg,↓K2.dP,↓K2.ip,↓K2.gL,↓K2.cb,↓K2.jj,↓K2.jo,↓K2.kX,↓K2.dS,↓K2.lQ,↓K2.cY,↓K2.kY,↓K2.jU,↓K2.kW,↓K2.j5,↓K2.b8,↓K2.aP,↓K2.ends,↓K2.aN,↓K2.HJ,↓K2.ar,↓K2.jw,↓K2.mi,↓K2.aq,↓K2.aK,↓K2.bK,↓K2.zb,↓K2.fK,↓K2.bh,↓K2.aF,↓K2.dC,↓K2.cj,↓K2.eQ,↓K2.eS,↓K2.kC,↓K2.vn,↓K2.A8,↓K2.ly,↓K2.oF,↓K2.kM,↓K2.pI,↓K2.cw,↓K2.aR,↓K2.e7,↓K2.kJ,↓K2.jm,↓K2.jV,↓K2.iD,↓K2.jl,↓K2.ou,↓K2.ow,↓K2.hV,↓K2.lM,↓K2.lN,↓K2.jZ,↓K2.lS,↓K2.kd,↓K2.gW,↓K2.iG,↓K2.fc,↓K2.nZ,↓K2.nY,↓and_true,↓K2.mI,↓K2.fH,↓K2.kL,↓K2.oC,↓K2.lP,↓aO,↓K2.iH,↓K2.iL,↓K2.lx,↓K2.mO,↓K2.jt,↓K2.tS,↓K2.gY,↓K2.cq,↓K2.gH,$a,*] $[$l:location]?) |none=>`(tactic|simp only[↓aa,↓ae,↓av,↓ai,↓ag,↓ao,↓K2.bZ,↓K2.b7,↓K2.aY,↓ak,↓aM,↓ay,↓aG,↓if_false,↓aj,↓if_true,↓aW,↓K2.c8,↓true_and,↓bG,↓K2.fj,↓K2.eD,↓K2.fV,↓K2.jg,↓K2.dP,↓K2.ip,↓K2.gL,↓K2.cb,↓K2.jj,↓K2.jo,↓K2.kX,↓K2.dS,↓K2.lQ,↓K2.cY,↓K2.kY,↓K2.jU,↓K2.kW,↓K2.j5,↓K2.b8,↓K2.aP,↓K2.ends,↓K2.aN,↓K2.HJ,↓K2.ar,↓K2.jw,↓K2.mi,↓K2.aq,↓K2.aK,↓K2.bK,↓K2.zb,↓K2.fK,↓K2.bh,↓K2.aF,↓K2.dC,↓K2.cj,↓K2.eQ,↓K2.eS,↓K2.kC,↓K2.vn,↓K2.A8,↓K2.ly,↓K2.oF,↓K2.kM,↓K2.pI,↓K2.cw,↓K2.aR,↓K2.e7,↓K2.kJ,↓K2.jm,↓K2.jV,↓K2.iD,↓K2.jl,↓K2.ou,↓K2.ow,↓K2.hV,↓K2.lM,↓K2.lN,↓K2.jZ,↓K2.lS,↓K2.kd,↓K2.gW,↓K2.iG,↓K2.fc,↓K2.nZ,↓K2.nY,↓and_true,↓K2.mI,↓K2.fH,↓K2.kL,↓K2.oC,↓K2.lP,↓aO,↓K2.iH,↓K2.iL,↓K2.lx,↓K2.mO,↓K2.jt,↓K2.tS,↓K2.gY,↓K2.cq,↓K2.gH] $[$l:location]?)
section
namespace K2
open PySem (Str)
open Enc (enc)
def yO(x:D)(n:Nat)(G1:Gp)(R:@aQ):Prop:=match x with
 |.dc ds=>R (jC n ds) @aC G1
 |.ref p=>(match G1 p with
  |some (.lst ds)=>R (jC n ds) (λG2=>G2 p=@bq) G1
  |_=>False)
 |_=>False
end K2
end
section
namespace K2
open PySem (Str)
def Oh(k v k2 v2:gC):gC:=λE τ G Q=>k E τ G λx G1=>v E τ G1 λy G2=>k2 E τ G2 λx2 G3=>v2 E τ G3 λy2 G4=>(dq x=true/\dq x2=true/\i7 x x2=false)/\iQ G4 (.gz [(x,y),(x2,y2)]) Q
def PY(x:D)(G1:Gp)(R:@aQ):Prop:=match x with
 |.kU kvs=>(kvs.all λp=>mr p.1)=true/\R (kvs.map λp=>.tup [p.1,p.2]) @aC G1
 |_=>False
def yN(a:gC):KA:=λE τ G R=>a E τ G λx G1=>PY x G1 R
def Ba(kv:@ae):gC:=λ_ _ G Q=>iQ G (.gz (bb kv)) Q
end K2
end
section
namespace K2
open PySem (Str)
open Enc (enc)
noncomputable def h2(t:T2):Int:=PySem.reduceHash (PySem.Builtin.Tuple.tupleHashOf [PySem.hashInt t.a,PySem.hashInt t.b])
end K2
end
section
namespace K2
open Enc (enc)
def Wl:Ed:=λx y G Q=>∃(sh:pY) (a b:D),(Sn G SN x a/\Sn G SN y b)/\(df sh a=true/\df sh b=true)/\Q (.bl (rC a b)) G
theorem RW{α:Type} [@Q] [@ab] [a9 α]{x y:α}{G:Gp}{Q:DK}(hd:Enc.dep α<=8)(q:Q (.bl (a9.lt x y)) G):Wl (enc x) (enc y) G Q :=
 ⟨a9.Ej α,enc x,enc y,⟨Enc.sn _ _ _ hd,Enc.sn _ _ _ hd⟩,⟨a9.Dp _,a9.Dp _⟩,by rw[a9.Vz];exact q⟩
end K2
end
section
namespace K2
open PySem (Str)
def Qq(ds:@e)(G:Gp)(Q:DK):Prop:=match ds with
 |[x]=>(match qm x G with
  |some xs=>Q (.tup xs) G
  |none=>False)
 |_=>False
end K2
namespace K2
open PySem (Str)
def Ma(t:DT):BB:=λE d τ G Q=>match qm d G with
 |some ds=>t E ds τ G Q
 |none=>False
end K2
end
section
namespace K2
open PySem (Str)
noncomputable def only(a:Nat)(o:GO):Gp:=λb=>if b=a then @i else none
noncomputable def tK(kvs:@cd)(k:PK):Option D:=(kvs.find? @bM).map (·.2)
noncomputable def O9(kvs:@cd)(k:PK)(v:D):@cd :=
 if(kvs.any @bM)=true then kvs.map (λp=>@cv) else kvs++[(k,v)]
def tyP(x:D)(G:Gp):Prop:=match x with
 |.ref a=>(match G a with
  |some (.tR _)=>True
  |_=>False)
 |.qJ _=>True
 |_=>False
def C3(x:D)(ds:@e)(G:Gp)(Q:DK):Prop:=match x,ds with
 |.ref a,[k,d]=>∃kvs pk,G a=some (.tR kvs)/\k=tH pk/\Q ((tK kvs pk).getD d) G
 |.qJ kvs,[k,d]=>∃pk,k=tH pk/\Q ((tK kvs pk).getD d) G
 |_,_=>False
def Ll(o k d:D)(G:Gp)(Q:@B):Prop:=match o with
 |.ref a=>∃kvs pk,G a=some (.tR kvs)/\k=tH pk/\kvs.length<SZ/\Q (dw G a (.tR (O9 kvs pk d)))
 |_=>False
def Dq(o k:gC):BB:=λE d τ G Q=>o E τ G λx G1=>k E τ G1 λy G2=>Ll x y d G2 λG3=>Q τ G3
def Ql:gC:=λ_ _ G Q=>iQ G (.tR []) Q
def Og(k v:gC):gC:=λE τ G Q=>k E τ G λx G1=>v E τ G1 λy G2=>∃pk,x=tH pk/\iQ G2 (.tR [(pk,y)]) Q
def PZ(x:D)(G1:Gp)(R:@aQ):Prop:=match x with
 |.qJ kvs=>R (kvs.map λp=>.tup [tH p.1,p.2]) @aC G1
 |_=>False
def sP(a:gC):KA:=λE τ G R=>a E τ G λx G1=>PZ x G1 R
def C0(x:D)(ds:@e)(G:Gp)(Q:DK):Prop:=match x,ds with
 |.ref a,[k]=>∃kvs d,G a=some (.gz kvs)/\(mr k=true/\(kvs.all λp=>mr p.1)=true/\look kvs k=@U)/\Q d (dw G a (.gz (kvs.filter λp=>!i7 p.1 k)))
 |_,_=>False
end K2
end
section
namespace K2
def tupP:D->Bool
 |.tup ds=>ds.all pE
 |.ref _=>true
 |.kU kvs=>kvs.all λp=>dq p.1&&pE p.2
 |d=>pE d
def CP:GO->Bool
 |.lst ds=>ds.all tupP
 |.gz kvs=>kvs.all λp=>dq p.1&&pE p.2
 |_=>false
noncomputable def Yl(G2 G1:Gp):Gp:=λa=>match G2 a with
 |some o=>@i
 |none=>G1 a
noncomputable def resT(T:@a0)(G:Gp):Gp:=λa=>if T a=true then G a else none
def vm(sp:iS)(t:Az):gC:=λE τ G Q=>t E τ G λds G1=>∃(R:@a0) (ts:@e),(∀a,R a=true->∃xs,G1 a=some @a9)/\zr G1 R ds ts /\
 sp ts (λ_=>none) (λx G2=>tupP x=true/\∃T:@a0,(∀a o,T a=true->G2 a=@i->CP o=true)/\((∀a o,G2 a=@i->G1 a=none)->Q x (Yl (resT T G2) G1))) @z
def Dk(a b:gC):KA:=λE τ G R=>a E τ G λx G1=>b E τ G1 λy G2=>∃n:Nat,y=.int n/\n<4611686018427387904/\yO x n G2 R
end K2
end
section
namespace K2
open PySem
section
variable {prog:bz} {w:World} {K:Type} [DecidableEq K] (knd:HV prog w K)
inductive wo (h:Heap):List K->@C->Prop
 |nil:wo h [] []
 |cons {k:K} {b:Addr} {ks:List K} {vs:@C}:knd.is h k b->wo h ks vs->wo h (k::ks) (.ref b::vs)
def wu (h:Heap) (ks:List K) (a:Addr):Prop:=∃o items n,@aJ=@i/\o.cls=@aj/\o.data=.seq items n/\wo knd h ks items.toList
variable {knd}
theorem wo.inj(hx:wo knd h x vs)(hy:wo knd h y vs):x=y:=by
 induction hx generalizing y with
 |nil=>cases hy;rfl
 |cons h1 _ ih=>
  cases hy with
  |cons h2 t2=>rw[knd.inj h1 h2,ih t2]
theorem wo.keeps{es ep}(x:wo knd h ks vs)(ho:h.get? d=@i)(hd:o.data=.dict es ep)(hs:gN d h h'):wo knd h' ks vs:=by
 induction x with
 |nil=>ext d
 |cons h1 _ ih=>exact .cons (knd.keeps h1 ho hd hs) ih
theorem wu.typeIs {s:aB}   (x:wu knd s.heap ks a):s.TypeIs @u "tuple":=let ⟨o,_,_,ho,hc,_⟩:=x;⟨o,ho,hc⟩
theorem wu.inj(hx:wu knd h x a)(hy:wu knd h y a):x=y:=by
 obtain⟨o,items,n,ho,_,hd,hi⟩:=hx;obtain⟨o',afI,n',HF,_,Eb,YZ⟩:=hy;obtain rfl:o=o':=aZ (ho.symm.trans HF);rw[hd] at Eb;injection Eb with h1 _
 subst h1;exact hi.inj YZ
theorem wu.keeps{es ep}(x:wu knd h ks a)(ho:h.get? d=@i)(hd:o.data=.dict es ep)(hs:gN d h h'):wu knd h' ks a:=by
 obtain⟨o',items,n,HF,hc,Eb,hi⟩:=x;have pX:a≠d:=by
  ext c;obtain rfl:o'=o:=aZ (HF.symm.trans ho);rw[hd] at Eb;exact nomatch Eb
 exact⟨o',items,n,(hs.2 a pX).trans HF,hc,Eb,hi.keeps ho hd hs⟩
noncomputable def Gn(knd:HV prog w K)(ks:List K):Int:=reduceHash (eZ (ks.map knd.hash))
noncomputable def mH(knd:HV prog w K):List K->Nat
 |[]=>0
 |k::ks=>knd.draws k+mH knd ks
theorem yD(ks)(k):mH knd (ks++[k])=mH knd ks+knd.draws k:=by
 induction ks with
 |nil=>simp[mH]
 |cons a r ih=>rw[ay,mH,mH,ih,qU]
variable {A:cZ} {E:@I} {s:aB}
theorem NV{ks:List K}{a:Addr}{Q:Int->@af}(hu:A.units<cLine/\knd.room A.in1)(hk:wu knd s.heap ks a)(h:Q (Gn knd ks) {s with toks:=s.toks+(mH knd ks+1)}):
  wpAny @P A (pyHash @u) Q E s:=by
 have hT:=hk.typeIs;obtain⟨o,items,n,ho,_,hd,hi⟩:=hk;unfold pyHash
 first |unfold pyHashByItsType |skip
 first |refine ah (wpAny_cRoomFor_or (.inr hu.1) ?_) |skip
 refine ah (B4 hT F.slot_tuple_hash.lookup ?_);show wpAny _ _ (if(some (OF "tuple.__hash__") == some ic)=true then _ else _) Q E s;rw[if_neg (by rw[beq_builtin_none];exact fP)];refine ah (B4 hT F.slot_tuple_hash.lookup ?_);show wpAny _ _ (callSpecialIfBoundUnlessNone? @u "__hash__" _ >>= _) Q E s;refine ah (wpAny_callSpecialIfBoundUnlessNone?_slot hT F.slot_tuple_hash (dE F.slot_tuple_hash hT F.entry_tuple_hash ?_ (F.args_tuple_hash_1 _)));show wpAny _ _ (BH @u >>= _) _ _ s;refine ah (HN ho hd ?_);refine ah ?_;rw[<-Cg];refine mW _
  (λrest (b:Array Int) s'=>∃done left,ks=done++left/\wo knd s.heap left rest/\b.toList=done.map knd.hash/\s'={s with toks:=s.toks+mH knd done})
  _ ?_ ?_ _ _ ⟨[],ks,rfl,hi,rfl,rfl⟩
 .rintro x rest b s' ⟨done,left,rfl,hl,hb,rfl⟩;cases hl with
  | @cons k _ ks' _ h1 hl'=>
   refine ah (knd.pyHash hu.2 h1 ?_)
   first
    |exact aE ⟨done++[k],ks',@K,hl',by simp[hb],by simp[yD,qU]⟩
    |exact ah (aE (aE ⟨done++[k],ks',@K,hl',by simp[hb],by simp[yD,qU]⟩))
 .rintro b s' ⟨done,left,rfl,hl,hb,rfl⟩;cases hl;rw[bE] at h;show wpAny _ _ (retInt (eZ b.toList)) _ _ _;rw[hb];refine wpAny_ret_mkInt ?_;show wpAny _ _ (if(decide (-(2:Int) ^ 63<=eZ (done.map knd.hash))&&decide (eZ (done.map knd.hash)<2 ^ 63))=true then _ else _) Q E _;unfold Gn reduceHash at h;by_cases hr:(decide (-(2:Int) ^ 63<=eZ (done.map knd.hash))&&decide (eZ (done.map knd.hash)<2 ^ 63))=true
  .rw[if_pos hr];rw[if_pos hr] at h;exact aE (by simpa[qU] using h)
  .rw[if_neg hr];rw[if_neg hr] at h;exact ah (wpAny_rule (aE (by simpa[qU] using h)))
theorem Mq{x y:List K}{a b:Addr}{P:Fin->@af}(hu:knd.room A)(hx:wu knd s.heap x a)(hy:wu knd s.heap y b)(h:P (.done (.ret (.bool (decide (x=y))))) s):
  wpAny @P A (Builtin.«tuple.__eq__» ⟨[@V,.ref b],[]⟩) P E s:=by
 have hTb:=hy.typeIs;obtain⟨oa,xs,na,hoa,_,hda,hia⟩:=hx;obtain⟨ob,ys,nb,hob,_,rJ,hib⟩:=hy;show wpAny _ _ (KO (.ref b) (@aj) >>= _) _ _ s;refine ah (rW hTb B9 ?_);simp only[aW,aj,if_false];refine ah (HN hoa hda ?_);refine ah (HN hob rJ ?_);refine ah ?_;refine mW _
  (λrest r s'=>r.1=none/\s'=s/\∃x' y' Rh ys',rest=List.zip Rh ys'/\wo knd s.heap x' Rh/\wo knd s.heap y' ys'/\decide (x'=y')=decide (x=y)/\(Rh.length == ys'.length)=(xs.size == ys.size))
  _ ?_ ?_ _ _ ⟨rfl,rfl,x,y,xs.toList,ys.toList,rfl,hia,hib,rfl,@K⟩
 .rintro⟨u,v⟩ rest r s' ⟨hr,rfl,x',y',Rh,ys',hz,hx',YQ,XE,hlen⟩;cases hx' with
  |nil=>simp at hz
  | @cons k1 u' x'' aeN h1 afQ=>
   cases YQ with
   |nil=>simp at hz
   | @cons k2 v' y'' aeM h2 afO=>
    simp only[tZ,List.cons.injEq,Bn] at hz;obtain⟨⟨rfl,rfl⟩,rfl⟩:=hz;refine ah (knd.eqBool hu h1 h2 ?_);by_cases hk:k1=k2
    .subst hk;rw[decide_eq_true rfl];simp only[aW,aj,if_false];refine aE ⟨rfl,rfl,x'',y'',aeN,aeM,rfl,afQ,afO,?_,by simpa using hlen⟩;rw[<-XE];by_cases hxy:x''=y''
     .simp[hxy]
     .simp[hxy]
    .rw[decide_eq_false hk];simp only[bG,if_true];have hf:decide (x=y)=false:=by rw[<-XE];simp[hk]
     rw[hf] at h;exact ah (aE (aE (aE h)))
 .rintro⟨r1,r2⟩ s' ⟨hr,rfl,x',y',Rh,ys',hz,hx',YQ,XE,hlen⟩;simp only at hr;subst hr;refine aE ?_;have agk:(xs.size == ys.size)=decide (x=y):=by
   rw[<-XE,<-hlen];cases hx' with
   |nil=>
    cases YQ with
    |nil=>simp
    |cons _ _=>simp
   |cons _ _=>
    cases YQ with
    |nil=>simp
    |cons _ _=>simp at hz
  show P (.done (.ret (.bool (xs.size == ys.size)))) s';rw[agk];exact h
theorem Fq{x y:List K}{a b:Addr}{Q:Bool->@af}(hu:A.units<cLine/\knd.room A.in1)(hx:wu knd s.heap x a)(hy:wu knd s.heap y b)(h:Q (decide (x=y)) s):
  wpAny @P A (eqBool @u (.ref b)) Q E s:=by
 unfold eqBool
 try with_reducible refine cW ?_
 show wpAny _ _ (if(fu a == fu b)=true then _ else _) Q E s;by_cases XF:(fu a == fu b)=true
 .rw[if_pos XF];have e:a=b:=by have:=eq_of_beq XF;injection this
  subst e;obtain rfl:=hx.inj hy;exact ah (wpAny_rule (aE (@b2)))
 .rw[if_neg XF];exact ah (wpAny_richCompare_same_room (op:=.Eq) hx.typeIs hy.typeIs F.slot_tuple_eq
   (dE F.slot_tuple_eq hx.typeIs F.entry_tuple_eq (Mq hu.2 hx hy ⟨_,rfl,(λe=>nomatch e),qy h⟩) (F.args_tuple_eq_2 _ _)) hu.1)
theorem CF{ks:List K}{a:Addr}{Q:Bool->@af}(n:Nat)(hq:∀(k:K) (b:Addr) (Q:Bool->@af),knd.is s.heap k b->Q true s->wpAny @P A (Q8 n (.ref b)) Q E s)(hk:wu knd s.heap ks a)(h:Q true s):wpAny @P A (Q8 (n+1) @u) Q E s:=by
 have hT:=hk.typeIs;obtain⟨o,items,n',ho,_,hd,hi⟩:=hk;unfold Q8;refine ah (B4 hT F.slot_tuple_eq.lookup ?_);show wpAny _ _ (KO @u (@aj) >>= _) _ _ s;refine ah (rW hT B9 ?_);simp only[aW,aj,if_false];refine ah (wV ho hd ?_);refine ah ?_;show wpAny _ _ (forIn items _ _) _ _ s;rw[<-Cg];refine mW _ (λrest r s'=>r.1=none/\s'=s/\∃l,wo knd s.heap l rest) _ ?_ ?_ _ _ ⟨rfl,rfl,_,hi⟩
 .rintro v rest r s' ⟨hr,rfl,l,yV⟩;cases yV with
  |cons h1 h2=>
   refine ah (hq _ _ _ h1 ?_);simp only[aW,aj,if_false];exact aE ⟨rfl,rfl,_,h2⟩
 .rintro⟨r1,r2⟩ s' ⟨hr,rfl,_⟩;simp only at hr;subst hr;exact aE h
end
theorem Nf{prog:bz}{w:World}{K:Type} [DecidableEq K]{knd:KeyKind prog w K}{A:cZ}{E:@I}{s:aB}{ks:List K}{a:Addr}{Q:Bool->@af}(n:Nat)(hk:IsTupleKey knd s.heap ks a)(h:Q true s):wpAny @P A (Q8 (n+1) @u) Q E s:=by
 have hT:=hk.typeIs;obtain⟨o,items,n',ho,_,hd,hi⟩:=hk;unfold Q8;refine ah (B4 hT F.slot_tuple_eq.lookup ?_);show wpAny _ _ (KO @u (@aj) >>= _) _ _ s;refine ah (rW hT B9 ?_);simp only[aW,aj,if_false];refine ah (wV ho hd ?_);refine ah ?_;show wpAny _ _ (forIn items _ _) _ _ s;rw[<-Cg];refine mW _ (λrest r s'=>r.1=none/\s'=s/\∀v∈rest,carriedByValue v=true) _ ?_ ?_ _ _ ⟨rfl,rfl,hi.byValue⟩
 .rintro v rest r s' ⟨hr,rfl,yV⟩;rw[eqIsQuiet_byValue _ (yV v br)];refine ah (aE ?_);simp only[aW,aj,if_false];exact aE ⟨rfl,rfl,λu Jv=>yV u (aI _ Jv)⟩
 .rintro⟨r1,r2⟩ s' ⟨hr,rfl,_⟩;simp only at hr;subst hr;exact aE h
section
variable {prog:bz} {w:World}
def nk2 [DecidableEq K](knd:KeyKind prog w K):HV prog w (List (List K)) where
 is:=wu (jJ knd)
 hash:=Gn (jJ knd)
 draws:=λks=>mH (jJ knd) ks+1
 room:=λA=>A.units<cLine/\(jJ knd).room A.in1
 inj:=λhx hy=>hx.inj hy
 keeps:=λx ho hd hs=>x.keeps ho hd hs
 pyHash:=λhu hk h=>NV hu hk h
 eqBool:=λhu hx hy h=>Fq hu hx hy h
 quiet:=λhk h=>CF 7 (λ_ _ _ h1 h2=>Nf 6 h1 h2) hk h
def nk3 [DecidableEq K](knd:KeyKind prog w K):HV prog w (List (List (List K))) where
 is:=wu (nk2 knd)
 hash:=Gn (nk2 knd)
 draws:=λks=>mH (nk2 knd) ks+1
 room:=λA=>A.units<cLine/\(nk2 knd).room A.in1
 inj:=λhx hy=>hx.inj hy
 keeps:=λx ho hd hs=>x.keeps ho hd hs
 pyHash:=λhu hk h=>NV hu hk h
 eqBool:=λhu hx hy h=>Fq hu hx hy h
 quiet:=λhk h=>CF 7 (λ_ _ _ h1 h2=>CF 6 (λ_ _ _ h3 h4=>Nf 5 h3 h4) h1 h2) hk h
theorem PB [DecidableEq K]{knd:KeyKind prog w K}(hu:A.units+8<cLine):(nk3 knd).room A:=by
 refine⟨?_,?_,?_⟩
 .lia
 .show A.units+1<cLine;lia
 .show A.units+1+1<cLine;lia
theorem IU [DecidableEq K]{knd:KeyKind prog w K}{A:cZ}(hu:A.units+8<cLine):(nk3 knd).room A.in1:=by
 refine⟨?_,?_,?_⟩
 .show A.units+1<cLine;lia
 .show A.units+1+1<cLine;lia
 .show A.units+1+1+1<cLine;lia
end
section
variable {K:Type} [DecidableEq K]
noncomputable def Zn(xs:List (K×@bn))(k:K):List (K×@bn):=xs.filter λx=>decide (x.1≠k)
theorem OM(hn:(xs.map @n).Nodup):∀{j:Nat} {k:K} {p:@bn},xs[j]?=some (k,p)->xs.eraseIdx j=Zn xs k:=by
 induction xs with
 |nil=>intro j k p h;simp at h
 | cons x r ih=>
  intro j k p h;rw[ak,aT] at hn;cases j with
  |zero=>
   simp only[aa,OJ] at h;subst h;unfold Zn;rw[QM,QL @f];symm;refine List.filter_eq_self.mpr λy hy=>?_;have:y.1≠k:=λz=>hn.1 (List.mem_map.mpr ⟨y,hy,z⟩);ext p
  |succ j=>
   simp only[ae] at h;have:x.1≠k:=λz=>hn.1 (by rw[z];exact List.mem_map.mpr ⟨_,cp h,rfl⟩);unfold Zn;rw[QN,QK (by ext p),ih hn.2 h];rfl
theorem E1{α β:Type}(f:α->β):∀(l:@o) (j:Nat),(l.eraseIdx j).map f=(l.map f).eraseIdx j
 |[],_=>rfl
 |_::_,0=>rfl
 |a::l,j+1=>congrArg (f a::·) (E1 f l j)
end
section
variable {prog:bz} {w:World} {K:Type} [DecidableEq K] {knd:HV prog w K} {A:cZ} {E:@I} {s:aB}
theorem FZ{d a:Addr}{xs:List (K×@bn)}{k:K}{p:@bn}{Q:Option gJ->@af}(hu:knd.room A)(XD:knd.is s.heap k a)(hm:s.heap.DictOfH knd d xs)(hp:atKey xs k=some p)(hsz:xs.length<=ba)
  (hQ:∀e:gJ,e.val=p.2->∀h',h'.DictOfH knd d (Zn xs k)->gN d s.heap h'->Q (some e) {s with heap:=h',toks:=s.toks+knd.draws k}):
  wpAny @P A (HY d @u) Q E s:=by
 obtain⟨o,es,ep,ho,hc,hd,he,his,hn⟩:=hm;unfold HY
 try with_reducible refine cW ?_
 refine ah (knd.pyHash hu XD (ah (wpAny_dictFind_heap (s:={s with toks:=s.toks+knd.draws k}) hu XD ho hd he his hn ?_ ?_)))
 .intro hno;rw[atKey_none_of_get hno] at hp;cases hp
 .intro j q hj;rw[atKey_of_get hn hj] at hp;cases hp;refine ah (iN (s:={s with toks:=s.toks+knd.draws k}) ho hd ?_);rw[entry_at he j,hj]
  refine ah (wpAny_updateDictKeys (hz:=by have e:=size_of_entries he;lia) (s:={s with toks:=s.toks+knd.draws k}) ho hd (aE (hQ _ rfl _ ⟨_,_,ep+1,kP _ ho (Obj.isFreed_of_dict (Obj.data_mapDictKeys hd _)),
   hc.mapDictKeys _,Obj.data_mapDictKeys hd _,?_,?_,?_⟩ (kQ ..))))
  .rw[<-OM hn hj,E1,<-he];obtain⟨l⟩:=es;simp
  .intro x hx;exact knd.keeps (his x (List.mem_filter.mp hx).1) ho hd (kQ ..)
  .exact pT (nk _ mf) hn
theorem Se{d a:Addr}{xs:List (K×@bn)}{k:K}{p:@bn}{Q:@I}(hu:knd.room A.in1)(XD:knd.is s.heap k a)(hm:s.heap.DictOfH knd d xs)(hp:atKey xs k=some p)(hsz:xs.length<=ba)
  (hQ:∀h',h'.DictOfH knd d (Zn xs k)->gN d s.heap h'->Q p.2 {s with heap:=h',toks:=s.toks+knd.draws k}):
  wpAny @P A (call (.builtin "dict.pop") [.ref d,@V]) Q E s:=by
 have hT:s.TypeIs (.ref d) "dict":=by obtain⟨o,es,ep,ho,hc,_⟩:=hm;exact⟨o,ho,hc.1⟩
 refine dE OH hT PySem.F.entry_dict_pop ?_ (PySem.F.args_dict_pop_2 _ _);unfold Builtin.«dict.pop»;refine ah ?_;unfold Builtin.Dict.keyAndDefault;refine ah (B5 hT ?_);show wpAny _ _ (pure (d,fu a,none)) _ _ s;refine aE ?_;have XC:=hm;obtain⟨o,es,ep,ho,hc,hd,he,his,hn⟩:=XC;have pX:es.isEmpty=false:=by
  have:xs≠[]:=by ext c;cases hp
  have h2:=size_of_entries he;have h3:0<xs.length:=List.length_pos_iff.mpr this;rw[Array.isEmpty_eq_false_iff];ext c;simp at h2;lia
 simp only[keyPart,Option.isSome_none,aj,if_false];refine ah (iN ho hd (ah (aE ?_)));rw[pX,if_neg fP];refine ah (FZ hu XD hm hp hsz λe hv h' XC Ea=>?_);simp only[Option.isNone_some,aj,if_false];exact ah (zB (aE ⟨e.val,rfl,by rw[hv];exact hQ h' XC Ea⟩))
end
end K2
end
section
namespace K2
open PySem PySem.Spec PyProof.Rows L2
def SqF(K:aw)(H:Hp)(a:Addr)(xs:@y):Prop :=
 (∃o,H a=some (.ji o @a9)) \/
  ∃(o:Obj) (bQ:@cp) (n:Nat),K.lookup a=@i/\o.cls=@ad/\o.dict=none/\o.data=.seq bQ n/\bQ.size<=ba/\Vals xs bQ.toList
theorem SqF.sq{K:aw}(h:SqF K H a xs):pO K H a xs:=by
 rcases h with ⟨o,h⟩ |h
 .exact .inl (.inr ⟨o,h⟩)
 .exact .inr h
noncomputable def fi:Key->D
 |.inl i=>@w
 |.inr x=>.str x
def ExcAt(K:aw)(H:Hp)(a:Addr)(c:Str):Prop:=∃(o:Obj) (C:Addr),H a=some (.ji o (.ext λh=>@aJ=@i))/\o.cls=.ref C/\rP K bR c=some (some @X)
def OC(K:aw)(H:Hp)(a:Addr)(c:Str)(ns:@v)(vs:@y):Prop:=∃(o:Obj) (C dx:Addr) (od:Obj) (fs:List (Str×V)),H a=some (.ji o (.ext λh=>@aJ=@i))/\o.cls=.ref C/\rP K bR c=some (some @X)/\o.dict=some dx/\H dx=some (.ji od (.xd fs))/\PySem.W.notCls o=true/\fs.map @n=ns/\fs.map (·.2)=vs
noncomputable def hsT(hs:@D):Int:=reduceHash (eZ hs)
def hP(k:PK):Int:=hsT (k.map λr=>hsT (r.map λt=>hsT (t.map hashInt)))
def MD(a:Addr)(xs:List (PK×@bn))(h:Heap):Prop:=xs.length<=ba/\@bQ/\∃(o:Obj) (es:Array gJ) (ep:Nat),@aJ=@i/\o.ExactDict/\o.data=.dict es ep/\es.toList=xs.map (λx=>⟨hP x.1,.ref x.2.1,x.2.2⟩)/\(xs.map @n).Nodup
def Yb(kvs:@cd)(ks vs:@y)(xs:List (PK×@bn)):Prop:=kvs.map (λp=>p.1)=xs.map (λx=>x.1)/\ks=xs.map (λx=>V.ref x.2.1)/\Vals vs (xs.map λx=>x.2.2)
mutual
inductive cm (K:aw) (H:Hp):V->D->Prop
 |fe:cm K H .fe .fe
 |bl (b:Bool):cm K H (.bl b) (.bl b)
 |int (i:Int):cm K H (@w) (@w)
 |str (x:Str):cm K H (.str x) (.str x)
 |tup {a:Addr} {vs:@y} {ds:@e}:H a=some (.tup vs)->@bf->cm K H @u (.tup ds)
 |dc {a:Addr} {vs:@y} {ds:@e}:SqF K H a vs->@bf->cm K H @u (.dc ds)
 |pj {a:Addr} {o:Obj} {kv:@aO} {kvs:@ag}:H a=some (.ji o (.dK kv))->mU K H kv kvs->cm K H @u (.kU kvs)
 |ph {a:Addr} {o:Obj} {kv:@bA} {kvs:@ag}:H a=some (.ji o (.dT kv))->@b7->cm K H @u (.kU kvs)
 |ref (a:Addr):cm K H @u @u
 |exc {a:Addr} {c:Str}:ExcAt K H a c->cm K H @u (.exc c)
 |Et {a:Addr} {c:Str} {ns:@v} {vs:@y} {ds:@e}:OC K H a c ns vs->@bf->cm K H @u (.Et c ns ds)
 |qJ {a:Addr} {o:Obj} {xs:List (PK×@bn)} {ks vs:@y} {kvs:@cd}:H a=some (.ji o (.ext (MD a xs)))->Yb kvs ks vs xs->bc K H ks (kvs.map λp=>tH p.1)->bc K H vs (kvs.map λp=>p.2)->cm K H @u (.qJ kvs)
inductive bc (K:aw) (H:Hp):@y->@e->Prop
 |nil:bc K H [] []
 |cons {v:V} {d:D} {vs:@y} {ds:@e}:@a5->@bf->bc K H (v::vs) (d::ds)
inductive mU (K:aw) (H:Hp):@aO->@ag->Prop
 |nil:mU K H [] []
 |cons {k:Key} {v:V} {d:D} {r:@aO} {t:@ag}:@a5->mU K H r t->mU K H ((k,v)::r) ((fi k,d)::t)
inductive nS (K:aw) (H:Hp):@bA->@ag->Prop
 |nil:nS K H [] []
 |cons {k:@bb} {v:V} {d:D} {r:@bA} {t:@ag}:@a5->nS K H r t->nS K H ((k,v)::r) ((.tup (k.map fi),d)::t)
end
structure Kp(H H':Hp):Prop where
 tup:∀a xs,H a=some (.tup xs)->H' a=some (.tup xs)
 ji:∀a o u,H a=@bx->H' a=@bx
theorem Kp.refl(H):Kp H H:=⟨λ_ _ h=>h,λ_ _ _ h=>h⟩
theorem Kp.trans(a:Kp H H1)(b:Kp H1 H2):Kp H H2:=⟨λc xs h=>b.tup c xs (a.tup c xs h),λc o u h=>b.ji c o u (a.ji c o u h)⟩
theorem Kp.sqT{K:aw}(k:Kp H H')(h:B1 K H a xs):B1 K H' a xs:=by
 rcases h with(h |⟨o,h⟩) |h
 .exact .inl (.inl (k.tup _ _ h))
 .exact .inl (.inr ⟨o,k.ji _ _ _ h⟩)
 .exact .inr h
theorem Kp.Yo{K:aw}(k:Kp H H')(h:SqF K H a xs):SqF K H' a xs:=by
 rcases h with ⟨o,h⟩ |h
 .exact .inl ⟨o,k.ji _ _ _ h⟩
 .exact .inr h
theorem ExcAt.mono{K:aw}(k:Kp H H')(h:ExcAt K H a c):ExcAt K H' a c :=
 let ⟨o,C,h1,h2,h3⟩:=h
 ⟨o,C,k.ji _ _ _ h1,h2,h3⟩
theorem OC.mono{K:aw}(k:Kp H H')(h:OC K H a c ns vs):OC K H' a c ns vs :=
 let ⟨o,C,dx,od,fs,h1,h2,h3,h4,h5,h6⟩:=h
 ⟨o,C,dx,od,fs,k.ji _ _ _ h1,h2,h3,h4,k.ji _ _ _ h5,h6⟩
theorem bc.Jt{K:aw}{H:Hp}{P:@y->@e->Prop}(h0:P [] [])(h1:∀{v:V} {d:D} {vs:@y} {ds:@e},@a5->@bf->P vs ds->P (v::vs) (d::ds)){vs:@y}{ds:@e}(h:@bf):P vs ds :=
 bc.rec (motive_1:=λ_ _ _=>True) (motive_2:=λvs ds _=>P vs ds) (motive_3:=λ_ _ _=>True) (motive_4:=λ_ _ _=>True) trivial @bZ @bZ @bZ @bR @bR @bR @bR @bZ @bZ @bR (λ_ _ _ _ _ _=>trivial) h0 (λa b _ ih=>h1 a b ih) trivial @aA trivial @aA h
theorem cm.mono{K:aw}(k:Kp H H'):∀{v:V} {d:D},@a5->cm K H' v d:=λh=>
 cm.rec (motive_1:=λv d _=>cm K H' v d) (motive_2:=λv d _=>bc K H' v d) (motive_3:=λv d _=>mU K H' v d) (motive_4:=λv d _=>nS K H' v d)
  .fe .bl .int .str (λh _ r=>.tup (k.tup _ _ h) r) (λh _ r=>.dc (k.Yo h) r) (λh _ r=>.pj (k.ji _ _ _ h) r) (λh _ r=>.ph (k.ji _ _ _ h) r) .ref (λh=>.exc (h.mono k)) (λh _ r=>.Et (h.mono k) r) (λh z _ _ r1 r2=>.qJ (k.ji _ _ _ h) z r1 r2) .nil (λ_ _ a b=>.cons a b) .nil (λ_ _ a b=>.cons a b) .nil (λ_ _ a b=>.cons a b) h
theorem bc.mono{K:aw}(k:Kp H H')(h:bc K H v d):bc K H' v d :=
 bc.Jt (P:=λv d=>bc K H' v d) .nil (λr _ ih=>.cons (r.mono k) ih) h
theorem mU.mono{K:aw}(k:Kp H H')(h:mU K H v d):mU K H' v d :=
 mU.rec (motive_1:=λv d _=>cm K H' v d) (motive_2:=λv d _=>bc K H' v d) (motive_3:=λv d _=>mU K H' v d) (motive_4:=λv d _=>nS K H' v d)
  .fe .bl .int .str (λh _ r=>.tup (k.tup _ _ h) r) (λh _ r=>.dc (k.Yo h) r) (λh _ r=>.pj (k.ji _ _ _ h) r) (λh _ r=>.ph (k.ji _ _ _ h) r) .ref (λh=>.exc (h.mono k)) (λh _ r=>.Et (h.mono k) r) (λh z _ _ r1 r2=>.qJ (k.ji _ _ _ h) z r1 r2) .nil (λ_ _ a b=>.cons a b) .nil (λ_ _ a b=>.cons a b) .nil (λ_ _ a b=>.cons a b) h
theorem nS.mono{K:aw}(k:Kp H H')(h:nS K H v d):nS K H' v d :=
 nS.rec (motive_1:=λv d _=>cm K H' v d) (motive_2:=λv d _=>bc K H' v d) (motive_3:=λv d _=>mU K H' v d) (motive_4:=λv d _=>nS K H' v d)
  .fe .bl .int .str (λh _ r=>.tup (k.tup _ _ h) r) (λh _ r=>.dc (k.Yo h) r) (λh _ r=>.pj (k.ji _ _ _ h) r) (λh _ r=>.ph (k.ji _ _ _ h) r) .ref (λh=>.exc (h.mono k)) (λh _ r=>.Et (h.mono k) r) (λh z _ _ r1 r2=>.qJ (k.ji _ _ _ h) z r1 r2) .nil (λ_ _ a b=>.cons a b) .nil (λ_ _ a b=>.cons a b) .nil (λ_ _ a b=>.cons a b) h
theorem bc.length{K:aw}:∀{vs:@y} {ds:@e},@bf->vs.length=ds.length:=λh=>
 bc.Jt (P:=λvs ds=>vs.length=ds.length) rfl (λ_ _ ih=>congrArg (· + 1) ih) h
theorem bc.get{K:aw}:∀{vs:@y} {ds:@e} {i:Nat} {d:D},@bf->ds[i]?=@U->∃v,vs[i]?=@W/\@a5:=by
 intro vs ds i d h;refine bc.Jt (P:=λvs ds=>∀(i:Nat) (d:D),ds[i]?=@U->∃v,vs[i]?=@W/\@a5) (λi d e=>by cases e) (λr _ ih i d e=>?_) h i d;cases i with
 |zero=>cases e;exact⟨_,rfl,r⟩
 |succ i=>exact ih i d e
theorem bc.append{K:aw}:∀{vs ws:@y} {ds es:@e},@bf->bc K H ws es->bc K H (vs++ws) (ds++es):=λ{_ ws _ es} h s=>
 bc.Jt (P:=λvs ds=>bc K H (vs++ws) (ds++es)) s (λr _ ih=>.cons r ih) h
theorem bc.take{K:aw}:∀{vs:@y} {ds:@e} (n:Nat),@bf->bc K H (vs.take n) (ds.take n):=λ{_ _} n h=>
 bc.Jt (P:=λvs ds=>∀n,bc K H (vs.take n) (ds.take n)) (λn=>by rw[qQ,qQ];ext d) (λr _ ih n=>by
  cases n with
  |zero=>ext d
  |succ n=>exact .cons r (ih n)) h n
theorem bc.drop{K:aw}:∀{vs:@y} {ds:@e} (n:Nat),@bf->bc K H (vs.drop n) (ds.drop n):=λ{_ _} n h=>
 bc.Jt (P:=λvs ds=>∀n,bc K H (vs.drop n) (ds.drop n)) (λn=>by rw[qR,qR];ext d) (λr t ih n=>by
  cases n with
  |zero=>exact .cons r t
  |succ n=>exact ih n) h n
theorem bc.set{K:aw}(r:@a5):∀{vs:@y} {ds:@e} (i:Nat),@bf->bc K H (vs.set i v) (ds.set i d):=λ{_ _} i h=>
 bc.Jt (P:=λvs ds=>∀i,bc K H (vs.set i v) (ds.set i d)) (λi=>by rw[FQ,FQ];ext d) (λq t ih i=>by
  cases i with
  |zero=>exact .cons r t
  |succ i=>exact .cons q (ih i)) h i
theorem bc.one{K:aw}:∀{vs:@y} {d:D},bc K H vs [d]->∃v,vs=[v]/\@a5:=by
 intro vs d h;cases h with
 |cons r t=>cases t;exact⟨_,rfl,r⟩
theorem bc.two{K:aw}:∀{vs:@y} {d e:D},bc K H vs [d,e]->∃v u,vs=[v,u]/\@a5/\cm K H u e:=by
 intro vs d e h;cases h with
 |cons r t=>
  obtain⟨u,rfl,q⟩:=bc.one t;exact⟨_,_,rfl,r,q⟩
theorem bc.zero{K:aw}:∀{vs:@y},bc K H vs []->vs=[]
 |_,.nil=>rfl
theorem bc.ints{K:aw}:∀{vs:@y} {ns:@D},bc K H vs (@av)->vs=@cr:=by
 intro vs ns;induction ns generalizing vs with
 |nil=>intro h;exact h.zero
 | cons n ns ih=>
  intro h;cases h with
  |cons r t=>
   cases r;rw[ih t];rfl
theorem bc.Nv{K:aw}:∀(ns:@D),bc K H (@cr) (@av)
 |[]=>.nil
 |n::ns=>.cons (.int n) (bc.Nv ns)
theorem mU.ind{K:aw}{H:Hp}{motive:∀(kv:@aO) (kvs:@ag),mU K H kv kvs->Prop}(nil:motive [] [] .nil)
  (cons:∀{k:Key} {v:V} {d:D} {r:@aO} {t:@ag} (re:@a5) (rs:mU K H r t),motive r t rs->motive ((k,v)::r) ((fi k,d)::t) (.cons re rs)):∀{kv:@aO} {kvs:@ag} (h:mU K H kv kvs),motive kv kvs h:=λh=>
 mU.rec (motive_1:=λ_ _ _=>True) (motive_2:=λ_ _ _=>True) (motive_3:=motive) (motive_4:=λ_ _ _=>True) trivial @bZ @bZ @bZ @bR @bR @bR @bR @bZ @bZ @bR (λ_ _ _ _ _ _=>trivial) trivial @aA nil (λa b _ ih=>cons a b ih) trivial @aA h
theorem nS.ind{K:aw}{H:Hp}{motive:∀(kv:@bA) (kvs:@ag),@b7->Prop}(nil:motive [] [] .nil)
  (cons:∀{k:@bb} {v:V} {d:D} {r:@bA} {t:@ag} (re:@a5) (rs:nS K H r t),motive r t rs->motive ((k,v)::r) ((.tup (k.map fi),d)::t) (.cons re rs)):∀{kv:@bA} {kvs:@ag} (h:@b7),motive kv kvs h:=λh=>
 nS.rec (motive_1:=λ_ _ _=>True) (motive_2:=λ_ _ _=>True) (motive_3:=λ_ _ _=>True) (motive_4:=motive) trivial @bZ @bZ @bZ @bR @bR @bR @bR @bZ @bZ @bR (λ_ _ _ _ _ _=>trivial) trivial @aA trivial @aA nil (λa b _ ih=>cons a b ih) h
theorem mU.length{K:aw}:∀{v:@aO} {d:@ag},mU K H v d->v.length=d.length:=λh=>
 mU.ind (motive:=λv d _=>v.length=d.length) rfl (λ_ _ ih=>congrArg (· + 1) ih) h
theorem nS.length{K:aw}:∀{v:@bA} {d:@ag},nS K H v d->v.length=d.length:=λh=>
 nS.ind (motive:=λv d _=>v.length=d.length) rfl (λ_ _ ih=>congrArg (· + 1) ih) h
def KG(K:aw)(H:Hp)(a:Addr):GO->Prop
 |.lst ds=>∃vs,H a=some (.lst vs)/\@bf
 |.gz kvs=>(∃kv,H a=some (.dK kv)/\mU K H kv kvs)\/∃kv,H a=some (.dT kv)/\@b7
 |.ins c fs=>∃C dx fv,H a=some (.ins C dx fv)/\rP K bR c=some (some @X)/\fv.map @n=fs.map @n/\bc K H (fv.map (·.2)) (fs.map (·.2))
 |.tR kvs=>∃xs ks vs,H a=some (.ext (MD a xs))/\Yb kvs ks vs xs/\bc K H ks (kvs.map λp=>tH p.1)/\bc K H vs (kvs.map λp=>p.2)
def lh(K:aw)(H:Hp)(G:Gp):Prop:=∀a g,G a=some g->KG K H a g
theorem KG.dk{K:aw}{H:Hp}{a:Addr}{kv:@aO}{kvs:@ag}(h:H a=some (.dK kv))(r:mU K H kv kvs):KG K H a (.gz kvs):=.inl ⟨kv,h,r⟩
theorem KG.dt{K:aw}{H:Hp}{a:Addr}{kv:@bA}{kvs:@ag}(h:H a=some (.dT kv))(r:@b7):KG K H a (.gz kvs):=.inr ⟨kv,h,r⟩
theorem KG.mono{K:aw}(k:Kp H H')(e:H' a=H a)(h:KG K H a g):KG K H' a g:=by
 cases g with
 |lst ds=>obtain⟨vs,q,r⟩:=h;exact⟨vs,e.trans q,r.mono k⟩
 |ins c fs=>obtain⟨C,dx,fv,q,h1,h2,r⟩:=h;exact⟨C,dx,fv,e.trans q,h1,h2,r.mono k⟩
 |tR kvs=>obtain⟨xs,ks,vs,q,h1,r1,r2⟩:=h;exact⟨xs,ks,vs,e.trans q,h1,r1.mono k,r2.mono k⟩
 |gz kvs=>
  rcases h with ⟨kv,q,r⟩ |⟨kv,q,r⟩
  .exact .inl ⟨kv,e.trans q,r.mono k⟩
  .exact .inr ⟨kv,e.trans q,r.mono k⟩
theorem KG.tracked{K:aw}(h:KG K H a g):H a≠none:=by
 cases g with
 |lst ds=>obtain⟨vs,q,r⟩:=h;rw[q];simp
 |ins c fs=>obtain⟨C,dx,fv,q,_⟩:=h;rw[q];simp
 |tR kvs=>obtain⟨xs,ks,vs,q,_⟩:=h;rw[q];simp
 |gz kvs=>
  rcases h with ⟨kv,q,r⟩ |⟨kv,q,r⟩
  .rw[q];simp
  .rw[q];simp
theorem lh.free{K:aw}(h:lh K H G)(e:H a=none):G a=none:=by
 cases q:G a with
 |none=>rfl
 |some g=>exact absurd e (h a g q).tracked
theorem lh.acq{K:aw}(h:lh K H G)(e:H a=some (.tup xs)):G a=none:=by
 cases q:G a with
 |none=>rfl
 | some g=>
  have z:=h a g q;cases g with
  |lst ds=>obtain⟨vs,q,r⟩:=z;rw[e] at q;cases q
  |ins c fs=>obtain⟨C,dx,fv,q,_⟩:=z;rw[e] at q;cases q
  |tR kvs=>obtain⟨xs,ks,vs,q,_⟩:=z;rw[e] at q;cases q
  |gz kvs=>
   rcases z with ⟨kv,q,r⟩ |⟨kv,q,r⟩
   .rw[e] at q;cases q
   .rw[e] at q;cases q
theorem lh.acv{K:aw}(h:lh K H G)(e:H a=@bx):G a=none:=by
 cases q:G a with
 |none=>rfl
 | some g=>
  have z:=h a g q;cases g with
  |lst ds=>obtain⟨vs,q,r⟩:=z;rw[e] at q;cases q
  |ins c fs=>obtain⟨C,dx,fv,q,_⟩:=z;rw[e] at q;cases q
  |tR kvs=>obtain⟨xs,ks,vs,q,_⟩:=z;rw[e] at q;cases q
  |gz kvs=>
   rcases z with ⟨kv,q,r⟩ |⟨kv,q,r⟩
   .rw[e] at q;cases q
   .rw[e] at q;cases q
structure Mv(K:aw)(H:Hp)(G:Gp)(H':Hp)(G':Gp):Prop where
 keep:∀a o,H a=@i->G a=none->H' a=@i/\G' a=none
 jN:∀a,G a≠none->H' a≠none
 ab:lh K H' G'
theorem Mv.refl{K:aw}(h:lh K H G):Mv K H G H G:=⟨λ_ _ e n=>⟨e,n⟩,λa n=>by
 cases q:G a with
 |none=>exact absurd q n
 |some g=>exact(h a g q).tracked,h⟩
theorem Mv.trans{K:aw}(a:Mv K H G H1 G1)(b:Mv K H1 G1 H2 G2):Mv K H G H2 G2 :=
 ⟨λc o e n=>let ⟨e1,n1⟩:=a.keep c o e n;b.keep c o e1 n1,λc n=>by
  have h1:=a.jN c n;cases q:G1 c with
  |some g=>exact b.jN c (by rw[q];simp)
  |none=>
   cases q1:H1 c with
   |none=>exact absurd q1 h1
   |some o=>rw[(b.keep c o q1 q).1];simp,b.ab⟩
theorem Mv.kp{K:aw}(m:Mv K H G H' G')(h:lh K H G):Kp H H' :=
 ⟨λa xs e=>(m.keep a _ e (h.acq e)).1,λa o u e=>(m.keep a _ e (h.acv e)).1⟩
theorem Kp.new{H:Hp}{p:Addr}{o:HO}(hp:H p=none):Kp H (upd H p o):=⟨λa xs e=>by rw[bH (eY e hp)];exact e,λa ob u e=>by rw[bH (eY e hp)];exact e⟩
theorem Kp.putL{H:Hp}{p:Addr}{xs:@y}{o:HO}(hp:H p=some @a9):Kp H (upd H p o) :=
 ⟨λa ys e=>by rw[bH (by ext c;rw[hp] at e;cases e)];exact e,λa ob u e=>by rw[bH (by ext c;rw[hp] at e;cases e)];exact e⟩
theorem Mv.new{K:aw}(h:lh K H G)(hp:H p=none)(ho:KG K (upd H p o) p g):Mv K H G (upd H p o) (dw G p g) where
 keep:=λa ob e n=>by
  have ne:=eY e hp;exact⟨by rw[bH ne];exact e,by rw[cu ne];exact n⟩
 jN:=λa n=>by
  have ne:a≠p:=by ext c;exact n (h.free hp)
  rw[bH ne];exact(Mv.refl h).jN a n
 ab:=λa g' e=>by
  by_cases ha:a=p
  .subst ha;rw[ax] at e;cases e;exact ho
  .rw[cu ha] at e;exact(h a g' e).mono @ar (bH ha)
theorem Mv.Kz{K:aw}(h:lh K H G)(hp:H p=none):Mv K H G (upd H p o) G where
 keep:=λa ob e n=>⟨by rw[bH (eY e hp)];exact e,n⟩
 jN:=λa n=>by
  have ne:a≠p:=by ext c;exact n (h.free hp)
  rw[bH ne];exact(Mv.refl h).jN a n
 ab:=λa g' e=>by
  have ne:a≠p:=by ext c;rw[h.free hp] at e;cases e
  exact(h a g' e).mono @ar (bH ne)
theorem Mv.put{K:aw}(h:lh K H G)(hg:G p=some g0)(k:Kp H (upd H p o))(ho:KG K (upd H p o) p g):Mv K H G (upd H p o) (dw G p g) where
 keep:=λa ob e n=>by
  have ne:a≠p:=by ext c;rw[hg] at n;cases n
  exact⟨by rw[bH ne];exact e,by rw[cu ne];exact n⟩
 jN:=λa n=>by
  by_cases ha:a=p
  .subst ha;rw[bV];simp
  .rw[bH ha];exact(Mv.refl h).jN a n
 ab:=λa g' e=>by
  by_cases ha:a=p
  .subst ha;rw[ax] at e;cases e;exact ho
  .rw[cu ha] at e;exact(h a g' e).mono k (bH ha)
theorem lh.lst{K:aw}(h:lh K H G)(e:G a=@bq):∃vs,H a=some (.lst vs)/\@bf:=h a _ e
theorem Mv.LH{K:aw}(h:lh K H G)(hp:H p=none)(r:@bf):Mv K H G (upd H p (.lst vs)) (dw G p (.lst ds)) :=
 .new h hp ⟨vs,bV,r.mono @ar⟩
theorem Mv.putL{K:aw}(h:lh K H G)(hg:G p=some (.lst ds0))(hp:H p=some (.lst vs0))(r:@bf):Mv K H G (upd H p (.lst vs)) (dw G p (.lst ds)) :=
 .put h hg (.putL hp) ⟨vs,bV,r.mono (.putL hp)⟩
structure QG(K:aw)(H:Hp)(σ:L2.St)(τ:jx):Prop where
 len:σ.length=τ.length
 at':∀(i:Nat) (d:D),τ[i]?=some (@U)->∃v,σ[i]?=some (@W)/\@a5
theorem QG.mono{K:aw}(k:Kp H H')(a:QG K H σ τ):QG K H' σ τ :=
 ⟨a.len,λi d e=>let ⟨v,h1,h2⟩:=a.at' i d e;⟨v,h1,h2.mono k⟩⟩
theorem QG.set{K:aw}(a:QG K H σ τ)(i)(r:@a5):QG K H (σ.set i (@W)) (τ.set i (@U)):=by
 refine⟨by rw[da,da];exact a.len,λj e h=>?_⟩;by_cases hj:i=j
 .subst hj;by_cases hi:i<τ.length
  .rw[dj hi] at h;cases h;exact⟨v,by rw[dj (by rw[a.len];exact hi)],r⟩
  .rw[List.set_eq_of_length_le @c] at h;rw[kO @c] at h;cases h
 .rw[du hj] at h;obtain⟨w,h1,h2⟩:=a.at' j e h;exact⟨w,by rw[du hj];exact h1,h2⟩
structure I2(X:Cx)(pins:@s)(σ:L2.St)(H:Hp)(τ:jx)(G:Gp)(s:aB):Prop where
 inv:@k
 st:QG X.K H σ τ
 ab:@aN
theorem I2.mv(I:@bW)(I':@ce)(m:@bG):I2 X pins σ H' τ G' s' :=
 ⟨I',I.st.mono (m.kp I.ab),m.ab⟩
def QX(P:bz)(w:World):QE:=λouter H s E e s'=>∃(a C t:Addr) (B:Heap) (H':Hp),e=@V/\s'.os=s.os/\Ci s'.gens/\Un (wm outer) [] H H' s.heap s'.heap/\pZ P w H' s'.heap /\
 (∀b o,s'.heap.get? b=@i->b∉wm outer->(@am≠none\/H' b≠none)->B.get? b=@i)/\zu B outer a @X (.ref t) s'.heap/\H' a=none/\s.heap.get? a=none/\E @X none H'
def exK(K:aw)(mg:@aV)(E:mK):XK:=λcls _ H=>∃(ex:Ex) (C:Addr) (G:Gp),cls=.ref C/\mg ex.cls=some @X/\lh K H G/\E ex G
structure Lk(X:Cx)(E:mK):Prop where
 made:∀(pins:@s) (σ:L2.St) (H:Hp) (s:aB) (h1:Heap) (a C:Addr) (args:@C) (ex:Ex) (G:Gp),@k->@aN->PySem.Heap.MadeExcOf s.heap h1 a @X args->X.mg ex.cls=some @X->E ex G->X.xe @u {s with heap:=h1}
 pass:∀(pins:@s) (σ:L2.St) (H:Hp) (s s':aB) (e:Value),@k->QX X.prog X.w X.stack H s (exK X.K X.mg E) e s'->X.xe e s'
theorem Lk.none(h:∀ex G,¬ E ex G):Lk X E where
 made:=λ_ _ _ _ _ _ _ _ ex _ _ _ _ _ z=>absurd z (h ex _)
 pass:=λ_ _ _ _ _ _ _ hc=>by
  obtain⟨_,_,_,_,_,_,_,_,_,_,_,_,_,_,hz⟩:=hc;obtain⟨ex,_,_,_,_,_,z⟩:=hz;exact absurd z (h ex _)
inductive ug (X:Cx) (pins:@s) (σ:L2.St) (H:Hp) (G:Gp) (Q:DK) (u:Value) (s':aB):Prop
 |mk (v:V) (H':Hp) (d:D) (G':Gp) (i:@ce) (m:@bG) (r:@a4) (rd:cm X.K H' v d) (q:Q d G'):ug X pins σ H G Q u s'
inductive TP2 (X:Cx) (pins:@s) (σ:L2.St) (H:Hp) (G:Gp) (Q:Bool->@B) (b:Bool) (s':aB):Prop
 |mk (H':Hp) (G':Gp) (i:@ce) (m:@bG) (q:Q b G'):TP2 X pins σ H G Q b s'
inductive AP2 (X:Cx) (pins:@s) (σ:L2.St) (H:Hp) (G:Gp) (Q:@e->@B) (us:@C) (s':aB):Prop
 |mk (vs:@y) (H':Hp) (ds:@e) (G':Gp) (i:@ce) (m:@bG) (r:@bX) (rd:bc X.K H' vs ds) (q:Q ds G'):AP2 X pins σ H G Q us s'
inductive SPn (X:Cx) (pins:@s) (H:Hp) (G:Gp) (P:jx->@B) (s':aB):Prop
 |mk (kH:L2.St) (H':Hp) (pV:jx) (G':Gp) (i:I2 X pins kH H' pV G' s') (m:@bG) (q:P pV G'):SPn X pins H G P s'
inductive SPr (X:Cx) (pins:@s) (H:Hp) (G:Gp) (P:D->@B) (u:Value) (s':aB):Prop
 |mk (v:V) (kH:L2.St) (H':Hp) (d:D) (G':Gp) (i:Inv X pins kH H' s') (m:@bG) (r:@a4) (rd:cm X.K H' v d) (q:P d G'):SPr X pins H G P u s'
def X7(X:Cx)(pins:@s)(H:Hp)(G:Gp)(D:nR)(f:Flow)(s':aB):Prop :=
 match f with
 |.next=>SPn X pins H G D.nx s'
 |.brk=>SPn X pins H G D.bk s'
 |.cont=>SPn X pins H G D.ct s'
 |.ret u=>SPr X pins H G D.rt u s'
def eU(X:Cx)(e:Expr)(t:gC):Prop :=
 ∀(E:mK) (pins:@s) (s:aB) (σ:L2.St) (H:Hp) (τ:jx) (G:Gp) (Q:DK),Lk X E->@bW->t E τ G Q->wpAny @l X.A (eval e X.env) @bo X.xe s
def HM(X:Cx)(e:Expr)(t:Bc):Prop :=
 ∀(E:mK) (pins:@s) (s:aB) (σ:L2.St) (H:Hp) (τ:jx) (G:Gp) (Q:Bool->@B),Lk X E->@bW->t E τ G Q->wpAny @l X.A (isTrue e X.env (eval e X.env)) (TP2 X pins σ H G Q) X.xe s
def U4(X:Cx)(e:Expr)(t:Bc):Prop :=
 ∀(wh:Sem Value) (E:mK) (pins:@s) (s:aB) (σ:L2.St) (H:Hp) (τ:jx) (G:Gp) (Q:Bool->@B),Lk X E->@bW->t E τ G Q->wpAny @l X.A (isTrue e X.env wh) (TP2 X pins σ H G Q) X.xe s
def wO(X:Cx)(es:@az)(t:Az):Prop :=
 ∀(pos:Pos) (E:mK) (pins:@s) (s:aB) (σ:L2.St) (H:Hp) (τ:jx) (G:Gp) (Q:@e->@B),Lk X E->@bW->t E τ G Q->wpAny @l X.A (KL (jb pos (@be))) (AP2 X pins σ H G Q) X.xe s
def xA(X:Cx)(st:Stmt)(t:gq):Prop :=
 ∀(E:mK) (pins:@s) (s:aB) (σ:L2.St) (H:Hp) (τ:jx) (G:Gp) (D:nR),Lk X E->@bW->t E D τ G->wpAny @l X.A (exec st X.env) (X7 X pins H G D) X.xe s
def pJ(X:Cx)(st:List Stmt)(t:gq):Prop :=
 ∀(E:mK) (pins:@s) (s:aB) (σ:L2.St) (H:Hp) (τ:jx) (G:Gp) (D:nR),Lk X E->@bW->t E D τ G->wpAny @l X.A (execs st X.env) (X7 X pins H G D) X.xe s
theorem X7.trans{D:nR}(m:@cj)(h:X7 X pins H1 G1 D f s'):X7 X pins H G D f s':=by
 cases f with
 |next=>obtain⟨kH,H',pV,G',I,m',q⟩:=h;exact⟨kH,H',pV,G',I,m.trans m',q⟩
 |brk=>obtain⟨kH,H',pV,G',I,m',q⟩:=h;exact⟨kH,H',pV,G',I,m.trans m',q⟩
 |cont=>obtain⟨kH,H',pV,G',I,m',q⟩:=h;exact⟨kH,H',pV,G',I,m.trans m',q⟩
 |ret u=>obtain⟨v,kH,H',d,G',I,m',r,rd,q⟩:=h;exact⟨v,kH,H',d,G',I,m.trans m',r,rd,q⟩
section
variable {X:Cx} {a b c:Expr} {ta tb tc:gC} {pos:Pos}
theorem jH(ha:@ba)(hE:Lk X E)(I:@bW)(h:ta E τ G R)
  (k:∀v H1 d G1 u s1,I2 X pins σ H1 τ G1 s1->@cj->@a4->cm X.K H1 v d->R d G1->Q u s1):wpAny @l X.A (eval a X.env) Q X.xe s :=
 iM (ha E pins s σ H τ G R hE I h) (by rintro u s1 ⟨v,H1,d,G1,I1,m,r,rd,q⟩;exact k v H1 d G1 u s1 (I.mv I1 m) m r rd q)
theorem ug.trans(m:@cj)(h:ug X pins σ H1 G1 Q u s'):ug X pins σ H G Q u s':=by
 obtain⟨v,H',d,G',I,m',r,rd,q⟩:=h;exact⟨v,H',d,G',I,m.trans m',r,rd,q⟩
theorem TP2.trans(m:@cj)(h:TP2 X pins σ H1 G1 Q u s'):TP2 X pins σ H G Q u s':=by
 obtain⟨H',G',I,m',r⟩:=h;exact⟨H',G',I,m.trans m',r⟩
theorem WN   (hN:X.N[i]?=@aa) (hv:Vis X.env.scope x) (hd:@bh) (NU:autoParam ((x == ("__classdict__":Str))=false) Ad._auto_1):eU X (.Name x pos) (ar i):=by
 ext i;unfold ar at h;split at h
 .rename_i d e;obtain⟨v,h1,h2⟩:=I.st.at' i d e;exact iM (ZY hN hv hd NU pins s σ H (λv' H'=>v'=v/\H'=H) I.inv ⟨v,h1,rfl,rfl⟩) λu s1 NT=>by
   obtain⟨v',H',I1,r,e1,e2⟩:=NT;subst e1;subst e2;exact⟨_,_,d,G,I1,.refl I.ab,r,h2,h⟩
 .exact h.elim
theorem vO(h:PE X e (tC v))(r:∀K H,@a5):eU X e (dC d):=by
 intro E pins s σ H τ G Q hE I hq;exact iM (h pins s σ H (λv' H'=>v'=v/\H'=H) I.inv @a_) λu s1 VD=>by
  obtain⟨v',H',I1,rr,e1,e2⟩:=VD;subst e1;subst e2;exact⟨_,_,d,G,I1,.refl I.ab,rr,r _ _,hq⟩
theorem WV{i j}:eU X (.Constant (@w) j pos) (dC (@w)):=vO Z0 λ_ _=>@w
def oH(X:Cx)(f:Value->Value->Sem Value)(r:Ed):Prop :=
 ∀(pins:@s) (s:aB) (σ:L2.St) (H:Hp) (G:Gp) (x y:V) (dx dy:D) (v u:Value) (Q:DK),@k->@aN->RelV x v->RelV y u->cm X.K H x dx->cm X.K H y dy->r dx dy G Q ->
  wpAny @l X.A (f v u) @bo X.xe s
def abm(X:Cx)(f:Value->Sem Value)(r:D->Gp->DK->Prop):Prop :=
 ∀(pins:@s) (s:aB) (σ:L2.St) (H:Hp) (G:Gp) (x:V) (dx:D) (v:Value) (Q:DK),@k->@aN->RelV x v->cm X.K H x dx->r dx G Q ->
  wpAny @l X.A (f v) @bo X.xe s
def pL(X:Cx)(f:Value)(r:@e->Gp->DK->Prop):Prop :=
 ∀(pins:@s) (s:aB) (σ:L2.St) (H:Hp) (G:Gp) (xs:@y) (ds:@e) (us:@C) (Q:DK),@k->@aN->Vals xs us->bc X.K H xs ds->r ds G Q ->
  wpAny @l X.A (call f us) @bo X.xe s
abbrev Ec(K:aw)(H:Hp)(G:Gp)(Q:DK):VK:=λv H'=>∃d G',Mv K H G H' G'/\cm K H' v d/\Q d G'
theorem ug.of(h:EP X pins σ @bw u s'):ug X pins σ H G Q u s':=by
 obtain⟨v,H',I,r,d,G',m,rd,q⟩:=h;exact⟨v,H',d,G',I,m,r,rd,q⟩
theorem UZ(ha:@ba)(hb:eU X b tb){R:D->D->@B}(hE:Lk X E)(I:@bW)
  (h:ta E τ G λx G1=>tb E τ G1 λy G2=>R x y G2)  {f:Value->Value->Sem Value}
  (hf:∀v u s2 x y dx dy H2 G2,I2 X pins σ H2 τ G2 s2->Mv X.K H G H2 G2->RelV x v->RelV y u->cm X.K H2 x dx->cm X.K H2 y dy->R dx dy G2->wpAny @l X.A (f v u) Q X.xe s2):
  wpAny @l X.A (eval a X.env) (λv fL=>wpAny @l X.A (eval b X.env) (λu jL=>wpAny @l X.A (f v u) Q X.xe jL) X.xe fL) X.xe s:=by
 refine jH ha hE I h λx H1 dx G1 v s1 I1 m1 r1 j4 q1=>?_;refine jH hb hE I1 q1 λy H2 dy G2 u s2 oI m2 r2 zS q2=>?_;exact hf v u s2 x y dx dy H2 G2 oI (@b5) r1 r2 (j4.mono (m2.kp I1.ab)) zS q2
theorem Z2(ho:oH X (ko op) r)(ha:@ba)(hb:eU X b tb):eU X (.BinOp a op b pos) (aN r ta tb):=by
 ext i;exact wpAny_BinOp (UZ ha hb hE I h λv u s2 x y dx dy H2 G2 oI m rx ry dX dY q=>iM (ho pins s2 σ H2 G2 x y dx dy v u Q oI.inv oI.ab rx ry dX dY q) λ_ _ z=>z.trans m)
theorem Z1(ho:abm X (unaryOp op) r)(ha:@ba):eU X (.UnaryOp op a pos) (HJ r ta):=by
 ext i;exact UnaryOp_ (jH ha hE I h λx H1 dx G1 v s1 I1 m1 r1 j4 q1=>iM (ho pins s1 σ H1 G1 x dx v Q I1.inv I1.ab r1 j4 q1) @cu)
theorem W2(ho:oH X (fh op) r)(ha:@ba)(hb:eU X b tb)(hm:behindInMarks op b=false):eU X (.Compare a [op] [b] pos) (aN r ta tb):=by
 ext i;exact wpAny_Compare1 (UZ ha hb hE I h λv u s2 x y dx dy H2 G2 oI m rx ry dX dY q=>iM (ho pins s2 σ H2 G2 x y dx dy v u Q oI.inv oI.ab rx ry dX dY q) λ_ _ z=>z.trans m) hm
end
theorem abT{K:aw}(ab:lh K H G)(r:cm K H x d)(e:Ih d G=some k):(∃p,x=.ref p/\Rd H p (.dT [])/\k=false)\/(∃p kv,x=.ref p/\Rd H p (.dK kv)/\k=!kv.isEmpty)\/abn K x H k:=by
 have UI:∀kvs:@ag,(if(@cz)=true then some (!kvs.isEmpty) else none)=some k->∀p,((∃kv,Rd H p (.dK kv)/\mU K H kv kvs)\/∃kv,Rd H p (.dT kv)/\@b7) ->
   (∃p',V.ref p=.ref p'/\Rd H p' (.dT [])/\k=false)\/(∃p' kv,V.ref p=.ref p'/\Rd H p' (.dK kv)/\k=!kv.isEmpty)\/abn K @aw H k:=by
  intro kvs e p z;by_cases ha:(@cz)=true
  .rw[if_pos ha] at e;cases e;rcases z with ⟨kv,hv,rs⟩ |⟨kv,hv,rs⟩
   .right;left;refine⟨p,kv,rfl,hv,?_⟩;cases rs<;>rfl
   .left;cases rs with
    |nil=>exact⟨p,rfl,hv,rfl⟩
    |cons _ _=>simp[dq] at ha
  .rw[if_neg ha] at e;cases e
 cases r with
 |fe=>right;right;cases e;rfl
 |bl b=>right;right;cases e;rfl
 |int i=>right;right;cases e;rfl
 |str y=>
  right;right;unfold Ih at e;dsimp only at e;by_cases h:y.length<=SZ
  .rw[if_pos h] at e;cases e;exact⟨by rw[c5];exact h,rfl⟩
  .rw[if_neg h] at e;cases e
 |tup h rs=>
  right;right;cases e;refine .inr (.inl ⟨_,.of h,?_⟩);cases rs<;>rfl
 |dc h rs=>
  right;right;cases e;refine .inl ⟨_,h.sq,?_⟩;cases rs<;>rfl
 |pj h rs=>exact UI _ e _ (.inl ⟨_,.inr ⟨_,h⟩,rs⟩)
 |ph h rs=>exact UI _ e _ (.inr ⟨_,.inr ⟨_,h⟩,rs⟩)
 |exc h=>simp[Ih] at e
 |Et h _=>simp[Ih] at e
 |qJ _ _ _ _=>simp[Ih] at e
 | ref a=>
  unfold Ih at e;dsimp only at e;cases q:G a with
  |none=>rw[q] at e;cases e
  | some g=>
   rw[q] at e;have z:=ab a g q;cases g with
   |lst ds=>
    right;right;obtain⟨vs,hv,rs⟩:=z;cases e;refine .inl ⟨vs,.of hv,?_⟩;cases rs<;>rfl
   |ins _ _=>cases e
   |tR _=>cases e
   |gz kvs=>
    refine UI kvs e a ?_;rcases z with ⟨kv,hv,rs⟩ |⟨kv,hv,rs⟩
    .exact .inl ⟨kv,.inl hv,rs⟩
    .exact .inr ⟨kv,.inl hv,rs⟩
section
variable {X:Cx} {a b c:Expr} {ta tb tc:gC} {pos:Pos}
def adP(X:Cx):Prop:=∀(pins:@s) (s:aB) (σ:L2.St) (H:Hp) (G:Gp) (x:V) (d:D) (v:Value) (k:Bool) (Q:Bool->@af),@k->@aN->RelV x v->cm X.K H x d->Ih d G=some k ->
  (∀s',Inv X pins σ H s'->Q k s')->wpAny @l X.A (truthy v) Q X.xe s
theorem Rp:adP X:=by
 intro pins s σ H G x d v k Q I ab rx rd e q;rcases abT ab rd e with ⟨p,rfl,hv,hk⟩ |⟨p,kv,rfl,hv,hk⟩ |h
 .obtain⟨z,hS,xs,rel,o,es,ep,ho,hx,Eb,hl,nd⟩:=hv.ok I.cx;have hxs:xs=[]:=by cases rel;rfl
  subst hxs;have he:es=#[]:=by simpa using hl
  subst he;cases rx;have dd:s.heap.DictOf @ck p []:=⟨o,#[],ep,ho,hx,Eb,(λ_ h=>@cc),.nil,cJ⟩;refine KH hS dd @f ?_;subst hk;exact q _ (@au)
 .cases rx;subst hk;exact XW I hv q
 .exact iM (Zv pins s σ H x v (λk' H'=>k'=k/\H'=H) I rx ⟨k,h,rfl,rfl⟩) λk' s' NT=>by
   obtain⟨H',I',e1,e2⟩:=NT;subst e1;subst e2;exact q s' I'
theorem Pa(ha:@ba)(he:autoParam (∀whole,isTrue a X.env whole=(do let v ← whole;standAt a.pos;uq [v] (truthy v))) Ai._auto_1):HM X a (fI ta):=by
 ext i;refine isTrue_plain (jH ha hE I h @cE) (he _)
 try dsimp only at q1
 split at q1
 .rename_i k e;exact Rp pins s1 σ H1 G1 x d v k _ I1.inv I1.ab r1 j4 e λs' I'=>⟨H1,G1,I',m1,q1⟩
 .exact q1.elim
theorem Nj(ho:oH X (fh op) r)(ha:@ba)(hb:eU X b tb)(hm:behindInMarks op b=false):HM X (.Compare a [op] [b] pos) (fI (aN r ta tb)):=by
 ext i;refine wpAny_isTrue_Compare1 (jH ha hE I h λx H1 dx G1 v s1 I1 m1 r1 j4 q1=>jH hb hE I1 q1 λy H2 dy G2 u s2 oI m2 r2 zS q2=>
  iM (ho pins s2 σ H2 G2 x y dx dy v u _ oI.inv oI.ab r1 r2 (j4.mono (m2.kp I1.ab)) zS q2) ?_) hm
 rintro c s3 ⟨z,H3,dz,G3,I3,m3,r3,rd3,q3⟩
 try dsimp only at q3
 split at q3
 .rename_i k e;exact Rp pins s3 σ H3 G3 z dz c k _ I3 m3.ab r3 rd3 e λs' I'=>⟨H3,G3,I',(@b5).trans m3,q3⟩
 .exact q3.elim
variable {tA tB:Bc} {rest:@az}
theorem U4.pt(h:U4 X e t):HM X e t:=λE pins s σ H τ G Q hE I q=>h _ E pins s σ H τ G Q hE I q
theorem OT(ha:HM X a tA)(hE:Lk X E)(I:@bW)(h:tA E τ G R)
  (k:∀c H1 G1 s1,I2 X pins σ H1 τ G1 s1->@cj->R c G1->Q c s1):wpAny @l X.A (isTrue a X.env (eval a X.env)) Q X.xe s :=
 iM (ha E pins s σ H τ G R hE I h) (by rintro c s1 ⟨H1,G1,I1,m,q⟩;exact k c H1 G1 s1 (I.mv I1 m) m q)
theorem R3(ha:HM X a tA):U4 X (.BoolOp .And [a] pos) tA:=by
 intro wh E pins s σ H τ G Q hE I h;refine isTrue_and (iM (ha E pins s σ H τ G Q hE I h) λc s1 e=>?_);cases c with
 |true=>exact isTrue_and_nil e
 |false=>exact e
theorem Wr(ha:HM X a tA):U4 X (.BoolOp .Or [a] pos) tA:=by
 intro wh E pins s σ H τ G Q hE I h;refine isTrue_or (iM (ha E pins s σ H τ G Q hE I h) λc s1 e=>?_);cases c with
 |false=>exact isTrue_or_nil e
 |true=>exact e
theorem Ws(ha:HM X a tA)(hb:U4 X (.BoolOp .And (b::rest) pos) tB):U4 X (.BoolOp .And (a::b::rest) pos) (vn tA tB):=by
 intro wh E pins s σ H τ G Q hE I h;refine isTrue_and (OT ha hE I h λc H1 G1 s1 I1 m1 q1=>?_);cases c with
 |true=>exact iM (hb wh E pins s1 σ H1 τ G1 Q hE I1 (by simpa using q1)) @cu
 |false=>exact⟨H1,G1,I1.inv,m1,by simpa using q1⟩
theorem ZP(ha:HM X a tA)(hb:U4 X (.BoolOp .Or (b::rest) pos) tB):U4 X (.BoolOp .Or (a::b::rest) pos) (A8 tA tB):=by
 intro wh E pins s σ H τ G Q hE I h;refine isTrue_or (OT ha hE I h λc H1 G1 s1 I1 m1 q1=>?_);cases c with
 |false=>exact iM (hb wh E pins s1 σ H1 τ G1 Q hE I1 (by simpa using q1)) @cu
 |true=>exact⟨H1,G1,I1.inv,m1,by simpa using q1⟩
theorem Wu(ha:HM X a tA):HM X (.UnaryOp .Not a pos) (ly tA):=by
 ext i;exact isTrue_not (iM (ha E pins s σ H τ G (λc H1=>Q (!c) H1) hE I h) (by rintro c s' ⟨H',G',i,m,q⟩;exact⟨H',G',i,m,q⟩))
theorem WR{op}(h:eU X a t):eU X (.BoolOp op [a] pos) t:=λE pins s σ H τ G Q hE I hw=>BoolOp_one (h E pins s σ H τ G Q hE I hw)
theorem W3(ha:@ba)(hb:eU X (.BoolOp .And (b::rest) pos) tb):eU X (.BoolOp .And (a::b::rest) pos) (DN ta tb):=by
 ext i;refine BoolOp_and (jH ha hE I h @cE)
 try dsimp only at q1
 split at q1
 .rename_i e;exact Rp pins s1 σ H1 G1 x d v true _ I1.inv I1.ab r1 j4 e λs' I'=>iM (hb E pins s' σ H1 τ G1 Q hE ⟨I',I1.st,I1.ab⟩ q1) @cu
 .rename_i e;exact Rp pins s1 σ H1 G1 x d v false _ I1.inv I1.ab r1 j4 e λs' I'=>⟨x,H1,d,G1,I',m1,r1,j4,q1⟩
 .exact q1.elim
theorem WS(ha:@ba):eU X (.UnaryOp .Not a pos) (Of ta):=by
 ext i;refine UnaryOp_ (jH ha hE I h @cE)
 try dsimp only at q1
 split at q1
 .rename_i k e;exact not_of (Rp pins s1 σ H1 G1 x d v k _ I1.inv I1.ab r1 j4 e λs' I'=>⟨.bl (!k),H1,.bl (!k),G1,I',m1,rfl,.bl _,q1⟩)
 .exact q1.elim
theorem Z4(hc:HM X c tA)(ha:@ba)(hb:eU X b tb):eU X (.IfExp c a b pos) (dIf tA ta tb):=by
 ext i;refine wpAny_IfExp (OT hc hE I h λd H1 G1 s1 I1 m1 q1=>?_);cases d with
 |true=>exact iM (ha E pins s1 σ H1 τ G1 Q hE I1 (by simpa using q1)) @cu
 |false=>exact iM (hb E pins s1 σ H1 τ G1 Q hE I1 (by simpa using q1)) @cu
variable {e:Expr} {es:@az} {te:gC} {t:Az}
theorem yA:wO X [] aK:=λ_ _ _ _ _ H _ G Q _ I h=>uD ⟨[],H,[],G,I.inv,.refl I.ab,.nil,.nil,h⟩
theorem rg(ha:eU X e te)(hr:wO X es t)(hs:@cJ):wO X (e::es) (aq te t):=by
 intro pos E pins s σ H τ G Q hE I h;rw[hs];show wpAny _ _ (KL ((false,eval e X.env)::jb pos (@be))) _ _ s;refine kl (jH ha hE I h λx H1 d G1 u s1 I1 m1 r1 j4 q1=>?_);exact iM (hr pos E pins s1 σ H1 τ G1 _ hE I1 q1) (by rintro us s2 ⟨xs,H2,ds,G2,oI,m2,r2,zS,q2⟩;exact⟨x::xs,H2,d::ds,G2,oI,@b5,.cons r1 r2,.cons (j4.mono (m2.kp I1.ab)) zS,q2⟩)
theorem zJ(ha:wO X es t)(pos)(hE:Lk X E)(I:@bW)(h:t E τ G R)
  (k:∀vs H1 ds G1 us s1,I2 X pins σ H1 τ G1 s1->@cj->@bX->bc X.K H1 vs ds->R ds G1->Q us s1):wpAny @l X.A (KL (jb pos (@be))) Q X.xe s :=
 iM (ha pos E pins s σ H τ G R hE I h) (by rintro us s1 ⟨vs,H1,ds,G1,I1,m,r,rd,q⟩;exact k vs H1 ds G1 us s1 (I.mv I1 m) m r rd q)
theorem WO{x1}(h:wO X es t):eU X (.Tuple es x1 pos) (eQ t):=by
 intro E pins s σ H τ G Q hE I hq;refine wpAny_Tuple_spliced (zJ h pos hE I hq ?_);rintro xs H1 ds G1 us s1 I1 m1 r rd ⟨z,q⟩;refine⟨by rw[<-r.length,rd.length,c5];exact z,?_⟩;have hf:H1 s1.heap.objs.size=none:=I1.inv.cx.fresh @J;refine⟨.ref s1.heap.objs.size,upd H1 s1.heap.objs.size (.tup xs),.tup ds,G1,I1.inv.laid (t':=s1.toks) (λb u e=>aJ _ e) @J ?_,m1.trans (.Kz I1.ab hf),rfl,?_,q⟩
 .exact⟨by rw[rd.length,c5];exact z,us,r,⟨_,@aX,rfl,_,rfl⟩⟩
 .exact .tup bV (rd.mono (.new hf))
theorem WT(h:wO X es t):eU X (.List es pos) (eS t):=by
 intro E pins s σ H τ G Q hE I hq;refine wpAny_List_spliced (zJ h pos hE I hq ?_);rintro xs H1 ds G1 us s1 I1 m1 r rd ⟨z,q⟩;refine⟨by rw[<-r.length,rd.length,c5];exact z,?_⟩;have hf:H1 s1.heap.objs.size=none:=I1.inv.cx.fresh @J;refine⟨.ref s1.heap.objs.size,upd H1 s1.heap.objs.size @a9,.ref _,dw G1 s1.heap.objs.size (.lst ds),I1.inv.laid (t':=s1.toks) (λb u e=>aJ _ e) @J ?_,m1.trans (.LH I1.ab hf rd),rfl,.ref _,q _ (I1.ab.free hf)⟩;exact⟨by rw[rd.length,c5];exact z,us,0,r,@aX⟩
def Eh(K:aw)(sp:iS):Sp:=λvs H Q _=>∃ds G Q2,@bf/\lh K H G/\sp ds G Q2 @q/\∀d G' v H',Q2 d G'->Mv K H G H' G'->cm K H' v d->Q v H'
variable {k:Nat} {f:Addr} {fd:gc} {ps:@v} {sp:iS} {x:Str} {p:Pos} {r:@e->Gp->DK->Prop} {id:String}
theorem SD(F:vI X.prog X.w X.K X.mg X.base MN k f fd ps (Eh X.K sp))(hr:kg k X.A)(hg:Gl X x)(hm:X.mg x=some (.ref f))(hk:nM X.K (.ref f)=true)(hb:Binds X.K fd ps [])
  (ha:wO X (e::es) t) (rJ:@bh) (he:@cJ) (rV:@cZ):
  eU X @cm (λE τ G Q=>aR (λds G1 Q1 _=>sp ds G1 Q1 @z) t E τ G Q):=by
 ext i;refine fm (oB I.inv hg hm ?_ rJ);refine rQ (h₀:=X.base) I.inv.ok.mod.Xx hk (zJ ha pos hE I h λvs H1 ds G1 us s1 I1 m1 r rd q=>⟨I1.inv.BU,?_⟩) he rV;refine iM (Lm F hr hb .nil YA I1.inv r (Q:=Ec X.K H1 G1 Q) ?_) λ_ _ z=>(ug.of z).trans m1;rw[bE];exact⟨ds,G1,Q,rd,I1.ab,q,λd G' v H' q' m' O6=>⟨d,G',m',O6,q'⟩⟩
theorem Py (hc:pL X (.builtin id) r) (hg:Gl X x) (hm:X.mg x=none) (hv:eM x=some (.builtin id)) (ha:wO X (e::es) t) (hn:autoParam (x≠"__name__") Ad._auto_1) (rJ:@bh)
  (he:@cJ) (rV:@cZ):eU X @cm (jw r t):=by
 ext i;refine fm (qK I.inv hg hm hv ?_ hn rJ);exact mC (zJ ha pos hE I h λvs H1 ds G1 us s1 I1 m1 r1 j4 q1=>iM (hc pins s1 σ H1 G1 vs ds us Q I1.inv I1.ab r1 j4 q1) @cu) he rV
variable {st:Stmt} {sts:List Stmt} {u v:gq}
theorem R9:pJ X [] cj:=λ_ _ _ σ H τ G _ _ I h=>oS ⟨σ,H,τ,G,I,.refl I.ab,h⟩
theorem Pb(h1:xA X st u)(h2:pJ X sts v):pJ X (st::sts) (bJ u v):=by
 ext s;refine OE (iM (h1 E pins s σ H τ G {D with nx:=v E D} hE I h) λf s1 q=>?_);cases f with
 |next=>
  obtain⟨kH,H',pV,G',I',m,q⟩:=q;exact iM (h2 E pins s1 kH H' pV G' D hE I' q) λ_ _ z=>z.trans m
 |ret v=>exact q
 |brk=>exact q
 |cont=>exact q
theorem R8(h1:xA X st u):pJ X [st] u:=by
 ext s;refine OE (iM (h1 E pins s σ H τ G D hE I h) λf s1 q=>?_);cases f with
 |next=>exact oS q
 |ret v=>exact q
 |brk=>exact q
 |cont=>exact q
theorem Wx(he:eU X e te):xA X (.Return (some e) pos) (bK te):=by
 ext s;exact wpAny_Return_some (iM (he E pins s σ H τ G _ hE I h) (by rintro v s1 ⟨x,H1,d,G1,I1,m,r1,rd,q1⟩;exact⟨x,σ,H1,d,G1,I1,m,r1,rd,q1⟩))
theorem ZU(hc:HM X c tA)(ha:pJ X sa u)(hb:pJ X sb v):xA X (.If c sa sb pos) (d6 tA u v):=by
 ext s;refine wpAny_If (OT hc hE I h λd H1 G1 s1 I1 m1 q1=>?_);cases d with
 |true=>exact iM (ha E pins s1 σ H1 τ G1 D hE I1 (by simpa using q1)) @cu
 |false=>exact iM (hb E pins s1 σ H1 τ G1 D hE I1 (by simpa using q1)) @cu
def Bf(X:Cx)(target:Expr)(t:BB):Prop :=
 ∀(E:mK) (pins:@s) (s:aB) (σ:L2.St) (H:Hp) (τ:jx) (G:Gp) (w:V) (d:D) (u:Value) (Q:jx->@B),Lk X E->@bW->RelV w u->cm X.K H w d->t E d τ G Q ->
  wpAny @l X.A (AE target X.env u) (λ_ s'=>∃kH H' pV G',I2 X pins kH H' pV G' s'/\@bG/\Q pV G') X.xe s
def Kd(X:Cx)(ts:@az)(t:DT):Prop :=
 ∀(E:mK) (pins:@s) (s:aB) (σ:L2.St) (H:Hp) (τ:jx) (G:Gp) (ws:@y) (ds:@e) (us:@C) (Q:jx->@B),Lk X E->@bW->Vals ws us->bc X.K H ws ds->t E ds τ G Q ->
  wpAny @l X.A (assignInOrder ((kN ts X.env).map (·.2)) us) (λ_ s'=>∃kH H' pV G',I2 X pins kH H' pV G' s'/\@bG/\Q pV G') X.xe s
theorem Sr(hN:X.N.Nodup)(hi:X.N[i]?=@aa)(hx:Loc X.env.scope x)(hf:autoParam (X.fn x=true\/@cC=@a1) Ao._auto_1):Bf X (.Name x pos) (aF i):=by
 intro E pins s σ H τ G w d u Q hE I r rd h;exact wpAny_assign_Name (Ij I.inv hN hi hx r (λs' I'=>⟨_,H,_,G,⟨I',I.st.set i rd,I.ab⟩,.refl I.ab,h⟩) hf)
theorem So:Kd X [] gH:=by
 intro E pins s σ H τ G ws ds us Q hE I r rd h;unfold gH at h;split at h
 .have e:=rd.zero;subst e;cases r;exact assignInOrder_nil ⟨σ,H,τ,G,I,.refl I.ab,h⟩
 .exact h.elim
theorem Pp{t:BB}{u:DT}(h1:Bf X e t)(h2:Kd X es u)
  (hs:autoParam ((kN (e::es) X.env).map (·.2)=AE e X.env::(kN es X.env).map (·.2)) Ar._auto_1):Kd X (e::es) (cq t u):=by
 intro E pins s σ H τ G ws ds us Q hE I r rd h;unfold cq at h;split at h
 .cases rd with
  | cons j4 zS=>
   cases r with
   |cons r1 r2=>
    rw[hs];refine assignInOrder_cons (iM (h1 E pins s σ H τ G _ _ _ _ hE I r1 j4 h) ?_);rintro _ s1 ⟨σ1,H1,rZ,G1,I1,m1,q1⟩;exact iM (h2 E pins s1 σ1 H1 rZ G1 _ _ _ Q hE I1 r2 (zS.mono (m1.kp I.ab)) q1) (by rintro _ _ ⟨σ2,H2,zI,G2,oI,m2,q2⟩;exact⟨σ2,H2,zI,G2,oI,@b5,q2⟩)
 .exact h.elim
theorem WJ{t:DT}(hc:@bv)(h:Kd X es t)(hgl:∀E ds τ G Q,t E ds τ G Q->ds.length=n)
  (hn:autoParam ((kN es X.env).length=n) Ar._auto_1) (Jw:autoParam ((kN es X.env).findIdx? @n=none) Ar._auto_1):Bf X (.Tuple es k pos) (gY t):=by
 intro E pins s σ H τ G w d u Q hE I r rd hw;unfold gY at hw;split at hw
 .cases rd with
  |tup hq rs=>
   cases r;obtain⟨bQ,rv,ht,hz⟩:=I.inv.tuple (.of hq);refine assign_Tuple_tuple (I.inv.ok.hd hc) ht (by rw[hn,aX,<-rv.length,rs.length];exact(hgl _ _ _ _ _ hw).symm) Jw λh' hx=>?_;have I1:Inv X pins σ H @as:=I.inv.kept (t':=s.toks) λb o e=>hx b o (bu (aQ e)) e;exact h E pins _ σ H τ G _ _ _ Q hE ⟨I1,I.st,I.ab⟩ (by simpa using rv) rs hw
 .exact hw.elim
theorem Um:∀E ds τ G Q,gH E ds τ G Q->ds.length=0:=by
 intro E ds τ G Q h;cases ds with
 |nil=>rfl
 |cons _ _=>exact h.elim
theorem Qc{t:BB}{u:DT}(h:∀E ds τ G Q,u E ds τ G Q->ds.length=n)(hm:∀E d τ G (Q Q':jx->@B),t E d τ G Q->(∀pV G',Q pV G'->Q' pV G')->t E d τ G Q')(hx:∀E d τ G,¬ t E d τ G @z):
  ∀E ds τ G Q,cq t u E ds τ G Q->ds.length=n+1:=by
 intro E ds τ G Q q;cases ds with
 |nil=>ext k
 |cons d ds=>
  by_cases hl:ds.length=n
  .rw[ag,hl]
  .exact absurd (hm E d τ G _ @q q λpV G' z=>hl (h _ _ _ _ _ z)) (hx E d τ G)
theorem WA(he:eU X e te)(hg:Bf X tg g)(hs:autoParam (swapsWithSole [tg] e pos.line X.env=pure false) Ar._auto_1)(hw:autoParam (swappedStores [tg] e X.env=pure none) Ar._auto_1)
  (h1:autoParam ((kN [tg] X.env).map (·.2)=[AE tg X.env]) Ar._auto_1):xA X (.Assign [tg] e pos) (bh te g):=by
 ext s;refine wpAny_Assign_stores (jH he hE I h @cE) hs hw;rw[h1];exact iM (hg E pins s1 σ H1 τ G1 x d v _ hE I1 r1 j4 q1) (by rintro _ s2 ⟨σ2,H2,zI,G2,oI,m2,q2⟩;exact⟨σ2,H2,zI,G2,oI,@b5,q2⟩)
theorem Ww(hN:X.N.Nodup)(hi:X.N[i]?=@aa)(hx:Loc X.env.scope x)(he:eU X e te)(hs:autoParam (ui e (some (.Name x pos')) pos.line X.env=pure false) Ar._auto_1)(hf:autoParam (X.fn x=true\/@cC=@a1) Ao._auto_1):
  xA X (.Assign [.Name x pos'] e pos) (bh te (aF i)):=by
 ext s;refine wpAny_Assign_Name (jH he hE I h λy H1 d G1 v s1 I1 m1 r1 j4 q1=>?_) hs;exact Ij I1.inv hN hi hx r1 (λs2 oI=>⟨_,H1,_,G1,⟨oI,I1.st.set i j4,I1.ab⟩,m1,q1⟩) hf
theorem Sb(he:eU X e te)(hs:autoParam (ui e none pos.line X.env=pure false) Ar._auto_1):xA X (.Expr e pos) (fK te):=by
 ext s;exact wpAny_Expr_any (jH he hE I h λy H1 d G1 v s1 I1 m1 r1 j4 q1=>⟨σ,H1,τ,G1,I1,m1,q1⟩) I.inv.quiet hs
end
def Ze(K:aw)(J:It)(H':Hp)(ds:@e)(ok:@B):Prop :=
 ∀i H1 G1,Kp H' H1->lh K H1 G1->ok G1->(∀d,ds[i]?=@U->J.go i H1/\∀x H2,J.yld i H1 x H2->cm K H2 x d/\Mv K H1 G1 H2 G1)/\(ds.length<=i->J.stop i H1)
inductive Kc (X:Cx) (pins:@s) (σ:L2.St) (tg:Expr) (H:Hp) (G:Gp) (R:@aQ) (YN:Value) (s2:aB):Prop
 |mk (it:Addr) (fp:@aG) (tn:Nat->Heap->Prop) (J:It) (H':Hp) (G':Gp) (ds:@e) (ok:@B) (e:YN=.ref it) (i:Inv X pins σ H' s2) (m:@bG) (T:Turn X.prog X.w X.K tg J fp it tn) (t0:tn 0 s2.heap) (f:∀b∈fp,pK X pins H' b)
  (wk:Ze X.K J H' ds ok) (q:R ds ok G'):Kc X pins σ tg H G R YN s2
def Be(X:Cx)(tg iter:Expr)(wi:KA):Prop :=
 ∀(E:mK) (pins:@s) (s:aB) (σ:L2.St) (H:Hp) (τ:jx) (G:Gp) (R:@aQ),Lk X E->@bW->wi E τ G R ->
  wpAny @l X.A (eval iter X.env) (λv s1=>wpAny @l X.A (EB v) (Kc X pins σ tg H G R) X.xe s1) X.xe s
section
variable {X:Cx} {tg:Expr} {a b:Expr} {ta tb:gC} {pos p:Pos}
theorem NH{pins:@s}{σ:L2.St}{H H1:Hp}{G G1:Gp}{s1:aB}{l:Addr}{vs:@y}{ds:@e}{ok:@B}{R:@aQ}(I1:@cG)(m:@cj)(hq:pO X.K H1 l vs)
  (hk:∀H2 G2,Kp H1 H2->lh X.K H2 G2->ok G2->∃ws,pO X.K H2 l ws/\bc X.K H2 ws ds) (q:R ds ok G1):wpAny @l X.A (EB (@Y)) (Kc X pins σ tg H G R) X.xe s1:=by
 obtain⟨bQ,rv,pl,hz⟩:=I1.list hq;refine qA pl.isList ?_;refine⟨s1.heap.objs.size,[s1.heap.objs.size],_,_,H1,G1,ds,ok,rfl,I1.kept (t':=s1.toks) λb o e=>aJ _ e,m,ON l _,⟨_,@aX,rfl,rfl⟩,λb hb=>?_,λi H2 G2 k ab o=>?_,q⟩
 .have e:b=s1.heap.objs.size:=@bP
  subst e;exact I1.Ds @J (I1.cx.fresh @J)
 .obtain⟨ws,hw,rd⟩:=hk H2 G2 k ab o;refine⟨λd hd=>?_,λhl=>⟨ws,hw,by rw[rd.length];exact hl⟩⟩;obtain⟨v,hv,r⟩:=rd.get hd;refine⟨⟨ws,v,hw,hv⟩,?_⟩;rintro x H3 ⟨e,y⟩;subst e;have:=y ws hw;rw[hv] at this;ext f;exact⟨r,@ai⟩
theorem Zu{pins:@s}{σ:L2.St}{H H1:Hp}{G G1:Gp}{s1:aB}{l:Addr}{vs:@y}{ds:@e}{R:@aQ}(I1:@cG)(m:@cj)(hq:B1 X.K H1 l vs)(rd:bc X.K H1 vs ds)
  (q:R ds @aC G1):wpAny @l X.A (EB (@Y)) (Kc X pins σ tg H G R) X.xe s1:=by
 obtain⟨bQ,rv,pl,hz⟩:=I1.tuple hq;refine wpAny_pyIter_tuple (show s1.heap.IsTuple l bQ.toArray from pl) ?_;refine⟨s1.heap.objs.size,[s1.heap.objs.size],_,_,H1,G1,ds,_,rfl,I1.kept (t':=s1.toks) λb o e=>aJ _ e,m,K9 l _,⟨_,@aX,rfl,rfl⟩,λb hb=>?_,λi H2 G2 k ab _=>?_,q⟩
 .have e:b=s1.heap.objs.size:=@bP
  subst e;exact I1.Ds @J (I1.cx.fresh @J)
 .have hw:=k.sqT hq;have zS:=rd.mono k;refine⟨λd hd=>?_,λhl=>⟨vs,hw,by rw[rd.length];exact hl⟩⟩;obtain⟨v,hv,r⟩:=zS.get hd;refine⟨⟨vs,v,hw,hv⟩,?_⟩;rintro x H3 ⟨e,y⟩;subst e;have:=y vs hw;rw[hv] at this;ext f;exact⟨r,@ai⟩
theorem WI(ha:@ba):Be X tg a (la ta):=by
 intro E pins s σ H τ G R hE I h;refine jH ha hE I h @cE;cases j4 with
 |tup hq rs=>cases r1;exact Zu I1.inv m1 (.of hq) rs q1
 |dc hq rs=>cases r1;exact NH I1.inv m1 hq.sq (λH2 G2 k ab _=>⟨_,(k.Yo hq).sq,rs.mono k⟩) q1
 |ref p=>
  cases r1;dsimp only at q1;split at q1
  .rename_i ds e;obtain⟨vs,hv,rs⟩:=I1.ab.lst e;refine NH I1.inv m1 (.of hv) (λH2 G2 k ab o=>?_) q1;obtain⟨ws,hw,su⟩:=ab.lst o;exact⟨ws,.of hw,su⟩
  .exact q1.elim
 |pj _ _=>ext e
 |ph _ _=>ext e
 |fe=>ext e
 |bl _=>ext e
 |int _=>ext e
 |str _=>ext e
 |exc _=>ext e
 |Et _ _=>ext e
 |qJ _ _ _ _=>ext e
theorem ZL{pins:@s}{σ:L2.St}{H H1:Hp}{G G1:Gp}{s:aB}{R:@aQ}{lo hi:Int}{t u v:Tok}{tk:Nat}(I:Inv X pins σ H1 s)(m:@cj)(h1:-(2 ^ 62)<=lo)(h2:lo<2 ^ 62)(h3:-(2 ^ 62)<=hi)(h4:hi<2 ^ 62)
  (q:R (iK lo (hi-lo).toNat) @aC G1):wpAny @l X.A (EB (@aE)) (Kc X pins σ tg H G R) X.xe {s with heap:=s.heap.push {cls:=.type "range",data:=.fields #[.int lo t,.int hi u,.int 1 v]},toks:=tk}:=by
 refine iM (RU (tg:=tg) I h1 h2 h3 h4 (R:=λJ H'=>J=Itr lo (hi-lo).toNat/\H'=H1) @a_) ?_;rintro YN s2 ⟨it,fp,tn,J,H',e,oI,T,st,fo,eJ,eH⟩;subst eJ;subst eH;refine⟨it,fp,tn,_,H',G1,_,_,e,oI,m,T,st,fo,λi H2 G2 k ab _=>⟨λd hd=>?_,λhl=>?_⟩,q⟩
 .unfold iK at hd;rw[bw] at hd;cases YZ:(fG (hi-lo).toNat)[i]? with
  |none=>rw[YZ] at hd;cases hd
  |some j=>
   rw[YZ] at hd;obtain⟨yT,ej⟩:=List.getElem?_eq_some_iff.mp YZ;rw[ig] at yT;rw[mZ] at ej;subst ej;cases hd;refine⟨yT,?_⟩;rintro x H3 ⟨e1,e2⟩;subst e1;subst e2;exact⟨@S,@ai⟩
 .unfold iK at hl;rw[au,ig] at hl;exact hl
theorem Lv (hg:Gl X "range") (hm:X.mg "range"=none) (ha:@ba) (hs:autoParam (a8 [a] X.env=[@cw]) Ar._auto_1):Be X tg (.Call (.Name "range" p) [a] [] pos) (u6 ta):=by
 intro E pins s σ H τ G R hE I h;have hA:wO X [a] (aq ta aK):=rg ha yA hs;refine Call_ (qK I.inv hg hm boot_range (gZ (zJ hA pos hE I (R:=λds G1=>match ds with |[.int n]=>-(2 ^ 62)<=n/\n<2 ^ 62/\R (iK 0 n.toNat) @aC G1 |_=>False) ?_ λvs H1 ds G1 us s1 I1 m1 r1 j4 q1=>?_) hs rfl))
 .show ta E τ G _;have e:(λ(x:D) (G1:Gp)=>match [x] with |[.int n]=>-(2 ^ 62)<=n/\n<2 ^ 62/\R (iK 0 n.toNat) @aC G1 |_=>False)=λx G1=>match x with |.int n=>-(2 ^ 62)<=n/\n<2 ^ 62/\R (iK 0 n.toNat) @aC G1 |_=>False:=by
   funext x G1;cases x<;>rfl
  exact e ▸ h
 .split at q1
  .rename_i n;obtain⟨w,rfl,F6⟩:=j4.one;cases F6;obtain⟨u,rfl,ru⟩:=r1.one;obtain⟨t,rfl⟩:=ru;obtain⟨q1,q2,q⟩:=q1;exact call_range_1 (ZL I1.inv m1 @c @c q1 q2 (by simpa using q))
  .exact q1.elim
theorem Wz(hp:PassesOwn @l X.A X.env X.xe)(hc:@bv)(hi:Be X tg iter wi)(hg:Bf X tg g)(hb:pJ X body t)
  (hs:autoParam (∀x,iO iter X.env x=pure x) Ai._auto_1):xA X (.For tg iter body [] pos) (di wi g t):=by
 ext s;refine wpAny_For (iM (hi E pins s σ H τ G _ hE I h) λv s1 h1=>iM h1 λYN s2 h2=>?_) hs;obtain⟨it,fp,tn,J,H2,G2,ds,ok,e,oI,m2,T,Vw,f2,wk,q⟩:=h2;subst e;have ZA:∀{H':Hp},(∀b∈fp,H' b=none)->∀b∈fp,pK X pins H' b:=λhn b hb=>⟨hn b hb,(f2 b hb).2⟩;refine codeAny_forLoop_any (λn s'=>∃i kH H' pV G',I2 X pins kH H' pV G' s'/\@bG/\Kp H2 H'/\tn i s'.heap/\(∀b∈fp,H' b=none)/\n=ds.length-i/\i<=ds.length/\tP g t ok (ds.drop i) E D pV G') ?_ ds.length
  ⟨0,σ,H2,τ,G2,I.mv oI m2,m2,.refl _,Vw,λb hb=>(f2 b hb).1,rfl,cI _,q⟩
 rintro n s3 ⟨i,VW,H3,Zm,G3,I3,m3,k3,st3,fr3,rfl,hle,w3⟩;by_cases yT:i<ds.length
 .rw[jd yT] at w3;obtain⟨ok3,w3⟩:=w3;obtain⟨go,yl⟩:=(wk i H3 G3 k3 I3.ab ok3).1 ds[i] (by simp[yT]);refine lC hp (iM (T.item X rfl rfl rfl hc i pins s3 VW H3 X.xe I3.inv (ZA fr3) st3 go) ?_);rintro r s4 ⟨u,hr,h4⟩;subst hr;refine lC hp (iM h4 ?_);rintro _ s5 ⟨x,H5,I5,r5,y5,st5,fr5⟩;obtain⟨rd5,m5⟩:=yl x H5 y5;have I5':=I5.pinned (ZA fr5) (T.obj _ _ st5);have J5:I2 X (pins++u3 fp s5.heap) VW H5 Zm G3 s5:=⟨I5',I3.st.mono (m5.kp I3.ab),m5.ab⟩;refine lC hp (iM (hg E _ s5 VW H5 Zm G3 x ds[i] u _ hE J5 r5 rd5 w3) ?_);rintro _ s6 ⟨σ6,H6,τ6,G6,I6,m6,q6⟩;refine lC hp (iM (hb E _ s6 σ6 H6 τ6 G6 _ hE I6 q6) λf s7 q7=>?_);have again:∀{QS:L2.St} {H7:Hp} {QR:jx} {G7:Gp},I2 X (pins++u3 fp s5.heap) QS H7 QR G7 s7->Mv X.K H6 G6 H7 G7->tP g t ok (ds.drop (i+1)) E D QR G7 ->
    ∃m,m<ds.length-i/\∃i kH H' pV G',I2 X pins kH H' pV G' s7/\@bG/\Kp H2 H'/\tn i s7.heap/\(∀b∈fp,H' b=none)/\m=ds.length-i/\i<=ds.length/\tP g t ok (ds.drop i) E D pV G':=λ{QS H7 QR G7} I7 m7 n7=>by
   have mm:=m5.trans (m6.trans m7);refine⟨ds.length-(i+1),@d,i+1,QS,H7,QR,G7,⟨I7.inv.xQ,I7.st,I7.ab⟩,m3.trans mm,k3.trans (mm.kp I3.ab),T.keep _ _ _ st5 λb hb o e=>(I7.inv.pin (b,o) (cH _ (cH _ (sG hb e)))).1,λb hb=>?_,rfl,yT,n7⟩;obtain⟨o,e,d⟩:=T.obj _ _ st5 b hb;exact(I7.inv.pin (b,o) (cH _ (cH _ (sG hb e)))).2.1
  cases f with
  |next=>obtain⟨QS,H7,QR,G7,I7,m7,n7⟩:=q7;exact again I7 m7 n7
  |cont=>obtain⟨QS,H7,QR,G7,I7,m7,n7⟩:=q7;exact again I7 m7 n7
  |brk=>obtain⟨QS,H7,QR,G7,I7,m7,q7⟩:=q7;exact⟨QS,H7,QR,G7,⟨I7.inv.xQ,I7.st,I7.ab⟩,m3.trans (m5.trans (m6.trans m7)),q7⟩
  |ret v=>obtain⟨x7,QS,H7,d7,G7,I7,m7,r7,rd7,q7⟩:=q7;exact⟨x7,QS,H7,d7,G7,I7.xQ,m3.trans (m5.trans (m6.trans m7)),r7,rd7,q7⟩
 .have hn:ds.length<=i:=@d
  rw[nW hn] at w3;obtain⟨ok3,qn⟩:=w3;have stop:=(wk i H3 G3 k3 I3.ab ok3).2 hn;refine lC hp (iM (T.done X rfl rfl rfl hc i pins s3 VW H3 X.xe I3.inv (ZA fr3) st3 stop) ?_);rintro r s4 ⟨hr,I4⟩;subst hr;exact oS ⟨VW,H3,Zm,G3,⟨I4,I3.st,I3.ab⟩,m3,qn⟩
theorem Pd(hp:PassesOwn @l X.A X.env X.xe)(hc:HM X c tc)(hb:pJ X body t):xA X (.While c body [] pos) (GV tc t):=by
 ext s;obtain⟨n0,w0⟩:=h;refine wpAny_While (codeAny_whileLoop (λn s'=>∃kH H' pV G',I2 X pins kH H' pV G' s'/\@bG/\Ia tc t n E D pV G') ?_ n0 ⟨σ,H,τ,G,I,.refl I.ab,w0⟩);rintro n s1 ⟨σ1,H1,rZ,G1,I1,m1,w1⟩;cases n with
 |zero=>exact w1.elim
 | succ n=>
  refine lC hp (OT hc hE I1 w1 λb H2 G2 s2 oI m2 q2=>?_);cases b with
  |true=>
   rw[if_pos rfl] at q2 ⊢;refine lC hp (iM (hb E pins s2 σ1 H2 rZ G2 _ hE oI q2) λf s3 q3=>?_);cases f with
   |next=>obtain⟨VW,H3,Zm,G3,I3,m3,n3⟩:=q3;exact⟨n,xE _,VW,H3,Zm,G3,I3,m1.trans (m2.trans m3),n3⟩
   |cont=>obtain⟨VW,H3,Zm,G3,I3,m3,n3⟩:=q3;exact⟨n,xE _,VW,H3,Zm,G3,I3,m1.trans (m2.trans m3),n3⟩
   |brk=>exact q3.trans (@b5)
   |ret v=>exact q3.trans (@b5)
  |false=>
   rw[if_neg fP] at q2 ⊢;exact oS ⟨σ1,H2,rZ,G2,oI,@b5,q2⟩
end
theorem F5(n d)(o):HT.kI n d o=kI n d o:=by cases o<;>rfl
theorem bc.cut{K:aw}(r:@bf)(lo hi):bc K H (JX vs lo hi) (K2.cut ds lo hi):=by
 unfold JX K2.cut;rw[F5,F5,r.length];exact(r.drop _).take _
theorem bc.rN{K:aw}(r:@bf)(h:K2.rN ds i=@U):∃v,L2.rN vs i=@W/\@a5:=by
 unfold K2.rN at h;cases e:K2.Gx ds.length i with
 |none=>rw[e] at h;cases h
 |some j=>
  rw[e] at h;obtain⟨v,h1,h2⟩:=r.get (show ds[j]?=@U from h);refine⟨v,?_,h2⟩;show(L2.Gx vs.length i).bind _=_;have e':L2.Gx vs.length i=some j:=by rw[r.length];exact e
  rw[e'];exact h1
section
variable {X:Cx} {a b c e:Expr} {ta tb tc te:gC} {pos p2:Pos}
theorem tj(I:@k)(ab:@aN)(rx:RelV x v)(rd:cm X.K H x d)(hi:qm d G=some zs):
  ∃l vs bQ,v=@Y/\Vals vs bQ/\bc X.K H vs zs/\s.heap.IsList l bQ.toArray/\vs.length<=ba:=by
 cases rd with
 |dc hq rs=>
  cases hi;cases rx;obtain⟨bQ,rv,pl,hz⟩:=I.list hq.sq;exact⟨_,_,bQ,rfl,rv,rs,pl.isList,hz⟩
 | ref l=>
  unfold qm at hi;dsimp only at hi;cases hg:G l with
  |none=>rw[hg] at hi;cases hi
  | some gg=>
   rw[hg] at hi;cases gg with
   |lst ds=>
    cases hi;cases rx;ext t;obtain⟨bQ,rv,pl,hz⟩:=I.list (.of hv);exact⟨_,_,bQ,rfl,rv,rs,pl.isList,hz⟩
   |ins _ _=>cases hi
   |tR _=>cases hi
   |gz _=>cases hi
 |_=>cases hi
theorem zX(I:@k)(F0:Fr X.base X.env.locals s.heap m)(F:Fr X.base X.env.locals h' m)(N:News X.base X.env.locals h' (v5 X.base s.heap X.env.locals)):
  (∀b o,@bY->@am=@i->@bm)/\∀m',s.heap.Ns X.env.locals m'->h'.Ns X.env.locals m':=by
 refine⟨λb o hb e=>?_,λm' hm=>?_⟩
 .cases q:X.base.get? b with
  |some u=>
   have:=I.bk b u q;rw[e] at this;ext f;exact F.keep b _ q
  |none=>exact(N (b,o) (AW hb q e)).1
 .have e1:=hm.eq_nsMap;have e2:=F0.ns.eq_nsMap;rw[e1,<-e2];exact F.ns
theorem lu{a:Addr}:∀{o:HO},fY P w H h a o->∃ob,@aJ=some ob:=by
 intro o x;cases o with
 |lst _=>obtain⟨_,_,_,_,e⟩:=x;exact⟨_,e⟩
 |tup _=>obtain⟨_,_,_,ob,e,_⟩:=x;exact⟨ob,e⟩
 |dK _=>obtain⟨_,_,_,_,ob,_,_,e,_⟩:=x;exact⟨ob,e⟩
 |dT _=>obtain⟨_,_,_,_,ob,_,_,e,_⟩:=x;exact⟨ob,e⟩
 |set _ _=>obtain⟨ob,_,_,_,e,_⟩:=x;exact⟨ob,e⟩
 |ins _ _ _=>obtain⟨_,_,_,e,_⟩:=x;exact⟨_,e⟩
 |own _=>exact x
 |xd _=>obtain⟨_,⟨ob,_,_,e,_⟩,_⟩:=x;exact⟨ob,e⟩
 |met _ _=>exact⟨_,x⟩
 |rng _ _=>obtain⟨_,_,_,e⟩:=x;exact⟨_,e⟩
 |ji _ _=>exact⟨_,x.1⟩
 |V8 _=>obtain⟨_,e,_⟩:=x;exact⟨_,e⟩
 |ext _=>exact x.2.1
theorem N5{a:Addr}(ok:@bc)(e:@aJ=none):H a=none:=by
 cases q:H a with
 |none=>rfl
 |some o=>
  obtain⟨ob,z⟩:=lu (ok a o q);rw[e] at z;cases z
theorem Inv.YJ(I:@k){a:Addr}(k:∀b o,@bY->@am=@i->@bm)(ns:∀m',s.heap.Ns X.env.locals m'->h'.Ns X.env.locals m')
  (hp:s.heap.get? a=none) (new:fY X.prog X.w (upd H a o) h' a o):Inv X pins σ (upd H a o) {s with heap:=h',toks:=t'}:=by
 have hn:H a=none:=N5 I.cx hp;have ne:∀b u,H b=@L->b≠a:=λb u e=>eY e hn;have nL:∀b u,H b=@L->@bY:=λb u e=>eY e I.free;have ht:∀b u,@am=@L->b≠a:=λb u e z=>by subst z;rw[hp] at e;cases e
 have thL:∃o',h'.get? X.env.locals=some o':=by
  obtain⟨m,hm,_⟩:=I.loc;obtain⟨o',_,_,ho,_⟩:=ns m hm;exact⟨o',ho⟩
 refine I.step (g':=s.gens) (d':=s.drawn) (ch:=[]) (λb hb=>absurd hb @f) (λb o hL _ _ e _=>k b o hL e) (λb o hL _ _ e _=>⟨o.slots,k b o hL e⟩) (λb o _ e n=>by rw[bH (ht b o e)];exact n)
  (λb o _ e=>?_) (λb xs e=>by rw[bH (ne _ _ e)];exact e) (λb o u e=>by rw[bH (ne _ _ e)];exact e) (λb ps e=>by rw[bH (ne _ _ e)];exact e) (λb ps e=>by rw[bH (ne _ _ e)];exact e) ns (λb u e=>?_) I.bare
 .by_cases hb:b=X.env.locals
  .rw[hb];exact thL
  .exact⟨o,k b o hb e⟩
 .by_cases hb:b=a
  .subst hb;rw[bV] at e;cases e;exact new
  .rw[bH hb] at e;refine(I.cx b u e).jN (λc v hc r=>k c v ?_ r) (λc z=>by rw[bH (ne _ _ z)];exact z) (λc xs z=>by rw[bH (ne _ _ z)];exact z);rcases hc with rfl |hc
   .exact nL _ _ e
   .exact nL _ _ hc
theorem Xj:oH X (ko .Add) fk:=by
 ext q;have lists:Ho dx dy G Q->wpAny @l X.A (ko .Add v u) @bo X.xe s:=by
  intro q;unfold Ho at q;split at q
  .rename_i xs ys e1 e2;obtain⟨hz,q⟩:=q;obtain⟨l,vs,bQ,rfl,rv,rs,hl,_⟩:=tj I ab rx dX e1;obtain⟨b,ws,wj,rfl,O0,Ku,hb,_⟩:=tj I ab ry dY e2;obtain⟨m,F0⟩:=I.fr;have hsz:bQ.length+wj.length<=ba:=by rw[<-rv.length,<-O0.length,rs.length,Ku.length,c5];exact hz
   refine PyProof.Rows.add_lists F0 IW hl hb (λh' F N=>?_) hsz;obtain⟨kk,ns⟩:=zX I F0 F λp hp=>N p (aI _ hp);have hp:@cN:=@cf;refine⟨@aE,upd H s.heap.objs.size (.lst (vs++ws)),.ref _,_,Inv.YJ (t':=s.toks) I kk ns (VU @J) ?_,.LH ab hp (rs.append Ku),rfl,.ref _,q _ (ab.free hp)⟩;exact⟨by rw[aA,rv.length,O0.length];exact hsz,bQ++wj,0,rv.append O0,(N _ br).1⟩
  ext j
 cases dX with
 |int i=>
  cases dY with
  |int j=>exact iM (aae pins s σ H _ _ v u @bw I rx ry ⟨i,j,rfl,rfl,_,_,@ai,@S,q⟩) @bE
  |_=>exact lists q
 | str i=>
  cases dY with
  |str j=>
   obtain⟨hz,q⟩:=q;exact iM (LB pins s σ H _ _ v u @bw I rx ry ⟨i,j,rfl,rfl,by rw[c5];exact hz,_,_,@ai,.str _,q⟩) @bE
  |_=>exact lists q
 | tup h1 r1=>
  cases dY with
  |tup h2 r2=>
   obtain⟨hn,hz,q⟩:=q;refine iM (W8 pins s σ H _ _ v u @bw I rx ry ⟨_,_,_,_,rfl,rfl,.of h1,.of h2,?_,?_,λe=>?_,λe p hp=>?_⟩) @bE
   .rintro rfl;cases r1;exact hn rfl
   .rw[r1.length,r2.length,c5];exact hz
   .subst e;cases r2;rw[bE] at q;exact⟨_,_,@ai,.tup h1 r1,q⟩
   .exact⟨_,_,.Kz ab hp,.tup bV ((r1.append r2).mono @ar),q⟩
  |_=>exact lists q
 |ref l=>exact lists (by rw[jm] at q;exact q)
 |dc _ _=>exact lists (by rw[jV] at q;exact q)
 |_=>exact lists (by cases dY<;>exact q)
theorem W9:oH X (ko .Sub) Lp:=by
 ext q;cases dX with
 |int i=>
  cases dY with
  |int j=>exact iM (aaa pins s σ H _ _ v u @bw I rx ry ⟨i,j,rfl,rfl,_,_,@ai,@S,q⟩) @bE
  |_=>exact bM q
 |_=>exact bM q
theorem Xd:oH X (ko .Mult) Lq:=by
 ext q;cases dX with
 |int i=>
  cases dY with
  |int j=>exact iM (aab pins s σ H _ _ v u @bw I rx ry ⟨i,j,rfl,rfl,q.1,_,_,@ai,@S,q.2⟩) @bE
  |_=>exact bM q
 |_=>exact bM q
theorem Xe:oH X (ko .Mod) pC:=by
 ext q;cases dX with
 |int i=>
  cases dY with
  |int j=>exact iM (aac pins s σ H _ _ v u @bw I rx ry ⟨i,j,rfl,rfl,q.1,_,_,@ai,@S,q.2⟩) @bE
  |_=>exact bM q
 |_=>exact bM q
theorem SI:oH X (ko .FloorDiv) uZ:=by
 ext q;cases dX with
 |int i=>
  cases dY with
  |int j=>exact iM (W7 pins s σ H _ _ v u @bw I rx ry ⟨i,j,rfl,rfl,⟨q.1,q.2.1⟩,_,_,@ai,@S,q.2.2⟩) @bE
  |_=>exact bM q
 |_=>exact bM q
theorem aaf(hu:X.A.units<cLine):oH X (fh .Lt) ZN:=by
 ext q;cases dX with
 |int i=>
  cases dY with
  |int j=>exact iM (aci pins s σ H _ _ v u @bw I rx ry ⟨i,j,rfl,rfl,_,_,@ai,.bl _,q⟩) @bE
  |_=>exact bM q
 | tup h1 r1=>
  cases dY with
  | tup h2 r2=>
   obtain⟨xs,ys,e1,e2,q⟩:=q;subst e1 e2;have z1:=r1.ints;have z2:=r2.ints;subst z1 z2;have el:∀xs ys:@D,HT.lexLt xs ys=K2.lexLt xs ys:=by
    intro xs;induction xs with
    |nil=>intro ys;cases ys<;>rfl
    |cons x xs ih=>intro ys;cases ys with
     |nil=>rfl
     |cons y ys=>unfold HT.lexLt K2.lexLt;rw[ih]
   exact iM (aad hu pins s σ H _ _ v u @bw I rx ry ⟨_,_,xs,ys,rfl,rfl,.of h1,.of h2,_,_,@ai,.bl _,by rw[el];exact q⟩) @bE
  |_=>exact bM q
 |_=>exact bM q
theorem aah:oH X (fh .Gt) Wo:=by
 ext q;cases dX with
 |int i=>
  cases dY with
  |int j=>exact iM (acj pins s σ H _ _ v u @bw I rx ry ⟨i,j,rfl,rfl,_,_,@ai,.bl _,q⟩) @bE
  |_=>exact bM q
 |_=>exact bM q
mutual
noncomputable def pd:D->PyData
 |.fe=>.none
 |.bl b=>.bool b
 |.int i=>@w
 |.str x=>.str x
 |.tup ds=>.tuple (nO ds)
 |.dc ds=>.list (nO ds)
 |.kU _=>.none
 |.exc _=>.none
 |.Et _ _ _=>.none
 |.qJ _=>.none
 |.ref _=>.none
noncomputable def nO:@e->List PyData
 |[]=>[]
 |d::r=>pd d::nO r
end
mutual
theorem xn:∀(s t:D),nr s=true->nr t=true->uc (pd s) (pd t)=i7 s t
 |.fe,t,_,ht=>by cases t<;>first |rfl |(ext r)
 |.bl a,t,_,ht=>by cases t<;>first |rfl |(ext r)
 |.int a,t,_,ht=>by cases t<;>first |rfl |(ext r)
 |.str a,t,_,ht=>by cases t<;>first |rfl |(ext r)
 |.tup a,t,hs,ht=>by
  cases t with
  |tup b=>exact GL a b hs ht
  |ref _=>ext r
  |exc _=>ext r
  |Et _ _ _=>ext r
  |qJ _=>ext r
  |kU _=>ext r
  |_=>rfl
 |.dc a,t,hs,ht=>by
  cases t with
  |dc b=>exact GL a b hs ht
  |ref _=>ext r
  |exc _=>ext r
  |Et _ _ _=>ext r
  |qJ _=>ext r
  |kU _=>ext r
  |_=>rfl
 |.ref _,_,hs,_=>bo (show @bC from hs)
 |.exc _,_,hs,_=>bo (show @bC from hs)
 |.Et _ _ _,_,hs,_=>bo (show @bC from hs)
 |.qJ _,_,hs,_=>bo (show @bC from hs)
 |.kU _,_,hs,_=>bo (show @bC from hs)
theorem GL:∀(s t:@e),tJ s=true->tJ t=true->PyData.eqvAll (nO s) (nO t)=mS s t
 |[],[],_,_=>rfl
 |[],_::_,_,_=>rfl
 |_::_,[],_,_=>rfl
 |a::r,b::t,hs,ht=>by
  have Ea:nr a=true/\tJ r=true:=(lz).mp hs;have ht':nr b=true/\tJ t=true:=(lz).mp ht;show(uc (pd a) (pd b)&&PyData.eqvAll (nO r) (nO t))=(i7 a b&&mS r t);rw[xn a b Ea.1 ht'.1,GL r t Ea.2 ht'.2]
end
mutual
theorem lO:∀(s:D),nr s=true->(pd s).canLay0=true
 |.fe,_=>rfl
 |.bl a,_=>rfl
 |.int a,_=>rfl
 |.str a,h=>h
 |.tup a,h=>yJ a h
 |.dc a,h=>yJ a h
 |.exc _,_=>rfl
 |.Et _ _ _,_=>rfl
 |.qJ _,_=>rfl
 |.ref _,_=>rfl
 |.kU _,_=>rfl
theorem yJ:∀(s:@e),tJ s=true->PyData.canLayAll0 (nO s)=true
 |[],_=>rfl
 |a::r,h=>by
  have h':nr a=true/\tJ r=true:=(lz).mp h;show((pd a).canLay0&&PyData.canLayAll0 (nO r))=true;rw[lO a h'.1,yJ r h'.2];rfl
end
theorem DM(h:Sn G n d t):(pd t).depth<=n:=by
 induction h with
 |fe=>exact cI _
 |bl b=>exact cI _
 |int i=>exact cI _
 |str x h=>exact cI _
 |Ld=>exact qF (cI _)
 |uH _ _ TV TU=>
  exact qF (Nat.max_le.mpr ⟨TV,xO TU⟩)
 |El=>exact qF (cI _)
 |wJ _ _ TV TU=>
  exact qF (Nat.max_le.mpr ⟨TV,xO TU⟩)
 |ref _ _ ih=>exact ih
theorem iU(I:@k)(ab:@aN)(h:Sn G n d t):
  (∀v u,cm X.K H v d->@a4->∃as,Reads s.heap u (pd t) as) /\
  (∀ds ss,(d=.dc ds/\t=.dc ss)\/(d=.tup ds/\t=.tup ss)->∀vs us,bc X.K H vs ds->@bX->∃as,iY s.heap us (nO ss) as):=by
 have Ym:∀{ds ss:@e},(∀vs us,bc X.K H vs ds->@bX->∃as,iY s.heap us (nO ss) as)->∀v u,cm X.K H v (.tup ds)->@a4->∃as,Reads s.heap u (pd (.tup ss)) as:=by
  intro ds ss k v u r ru;cases r with
  |tup hq rs=>
   cases ru;obtain⟨bQ,rv,⟨o,ho,hc,n,hd⟩,hz⟩:=I.tuple (.of hq);obtain⟨as,ra⟩:=k _ bQ rs rv;exact⟨as,.tuple ho hc hd (by simpa using ra)⟩
 have Yr:∀{ds ss:@e},(∀vs us,bc X.K H vs ds->@bX->∃as,iY s.heap us (nO ss) as)->∀v u,cm X.K H v (.dc ds)->@a4->∃as,Reads s.heap u (pd (.dc ss)) as:=by
  intro ds ss k v u r ru;cases r with
  |dc hq rs=>
   cases ru;obtain⟨bQ,rv,pl,hz⟩:=I.list hq.sq;obtain⟨o,ho,hc,n,hd⟩:=pl.isList;obtain⟨as,ra⟩:=k _ bQ rs rv;exact⟨_,.list ho hc hd (by simpa using ra)⟩
 induction h with
 |fe=>exact⟨λv u r ru=>by cases r;cases ru;exact⟨_,.none⟩,λds ss e=>by rcases e with ⟨e,_⟩ |⟨e,_⟩<;>cases e⟩
 |bl b=>exact⟨λv u r ru=>by cases r;cases ru;exact⟨_,.bool b⟩,λds ss e=>by rcases e with ⟨e,_⟩ |⟨e,_⟩<;>cases e⟩
 |int i=>exact⟨λv u r ru=>by cases r;obtain⟨t,rfl⟩:=ru;exact⟨_,.int i t⟩,λds ss e=>by rcases e with ⟨e,_⟩ |⟨e,_⟩<;>cases e⟩
 |str x hx=>exact⟨λv u r ru=>by cases r;obtain⟨t,rfl⟩:=ru;exact⟨_,.str x t⟩,λds ss e=>by rcases e with ⟨e,_⟩ |⟨e,_⟩<;>cases e⟩
 | Ld=>
  have k:∀vs us,bc X.K H vs []->@bX->∃as,iY s.heap us (nO []) as:=λvs us r ru=>by
   have e:=r.zero;subst e;cases ru;exact⟨_,.nil⟩
  refine⟨Ym k,λds ss e=>?_⟩;rcases e with ⟨e,_⟩ |⟨e,e2⟩
  .cases e
  .cases e;cases e2;exact k
 | uH h1 h2 TV TU=>
  have k2:=TU.2 _ _ (.inr @a_);have k:∀vs us,bc X.K H vs (_::_)->@bX->∃as,iY s.heap us (nO (_::_)) as:=λvs us r ru=>by
   cases r with
   | cons r1 r2=>
    cases ru with
    |cons u1 u2=>
     obtain⟨as,ra⟩:=TV.1 _ _ r1 u1;obtain⟨bs,rb⟩:=k2 _ _ r2 u2;exact⟨_,.cons ra rb⟩
  refine⟨Ym k,λds ss e=>?_⟩;rcases e with ⟨e,_⟩ |⟨e,e2⟩
  .cases e
  .cases e;cases e2;exact k
 | El=>
  have k:∀vs us,bc X.K H vs []->@bX->∃as,iY s.heap us (nO []) as:=λvs us r ru=>by
   have e:=r.zero;subst e;cases ru;exact⟨_,.nil⟩
  refine⟨Yr k,λds ss e=>?_⟩;rcases e with ⟨e,e2⟩ |⟨e,_⟩
  .cases e;cases e2;exact k
  .cases e
 | wJ h1 h2 TV TU=>
  have k2:=TU.2 _ _ (.inl @a_);have k:∀vs us,bc X.K H vs (_::_)->@bX->∃as,iY s.heap us (nO (_::_)) as:=λvs us r ru=>by
   cases r with
   | cons r1 r2=>
    cases ru with
    |cons u1 u2=>
     obtain⟨as,ra⟩:=TV.1 _ _ r1 u1;obtain⟨bs,rb⟩:=k2 _ _ r2 u2;exact⟨_,.cons ra rb⟩
  refine⟨Yr k,λds ss e=>?_⟩;rcases e with ⟨e,e2⟩ |⟨e,_⟩
  .cases e;cases e2;exact k
  .cases e
 |ref hg h1 ih=>
  refine⟨λv u r ru=>?_,λds ss e=>by rcases e with ⟨e,_⟩ |⟨e,_⟩<;>cases e⟩;cases r;cases ru;ext t;obtain⟨bQ,rv,pl,hz⟩:=I.list (.of hv);obtain⟨o,ho,hc,n,hd⟩:=pl.isList;obtain⟨as,ra⟩:=ih.2 _ _ (.inl @a_) vs bQ rs rv;exact⟨_,.list ho hc hd (by simpa using ra)⟩
theorem SJ(hu:@bl):oH X (fh .Eq) @bI:=by
 ext q;obtain⟨a,b,sa,sb,q⟩:=q;obtain⟨as,ra⟩:=(iU I ab sa).1 x v dX rx;obtain⟨bs,rb⟩:=(iU I ab sb).1 y u dY ry;have d1:=DM sa;refine SeqAt.compareEq_reads ra rb (lO _ sa.nr) (lO _ sb.nr) (by unfold SN at d1;lia) ?_;rw[xn _ _ sa.nr sb.nr];exact⟨.bl _,H,.bl _,G,I,@ai,rfl,.bl _,q⟩
theorem SG(hu:@bl):oH X (fh .NotEq) (zT true):=by
 ext q;obtain⟨a,b,sa,sb,q⟩:=q;obtain⟨as,ra⟩:=(iU I ab sa).1 x v dX rx;obtain⟨bs,rb⟩:=(iU I ab sb).1 y u dY ry;have d1:=DM sa;refine SeqAt.compareNe_reads ra rb (lO _ sa.nr) (lO _ sb.nr) (by unfold SN at d1;lia) ?_;rw[xn _ _ sa.nr sb.nr];exact⟨.bl _,H,.bl _,G,I,@ai,rfl,.bl _,q⟩
end
theorem vZ(j k):i7 (fi j) (fi k)=decide (j=k):=by
 cases j with
 |inl a=>cases k with
  |inl b=>rw[Tt];rfl
  |inr b=>exact(decide_eq_false @bs).symm
 |inr a=>cases k with
  |inl b=>exact(decide_eq_false @bs).symm
  |inr b=>rw[Ts];exact(Vs a b)
theorem Fp:∀(js ks:@bb),mS (js.map fi) (ks.map fi)=decide (js=ks)
 |[],[]=>(decide_eq_true rfl).symm
 |[],_::_=>(decide_eq_false @bs).symm
 |_::_,[]=>(decide_eq_false @bs).symm
 |j::js,k::ks=>by
  show(i7 (fi j) (fi k)&&mS (js.map fi) (ks.map fi))=_;rw[vZ,Fp js ks,JU]
theorem vi(js ks:@bb):i7 (.tup (js.map fi)) (.tup (ks.map fi))=decide (js=ks):=by
 exact Fp js ks
section
variable {K:aw} {H:Hp}
theorem sN(h:dq d=true):∃k:Key,d=fi k:=by
 cases d with
 |int i=>exact⟨.inl i,rfl⟩
 |str x=>exact⟨.inr x,rfl⟩
 |_=>exact absurd h (by simp[dq])
theorem NI:∀{ds:@e},ds.all dq=true->∃ks:@bb,ds=ks.map fi
 |[],_=>⟨[],rfl⟩
 |d::r,h=>by
  rw[nj,aL] at h;obtain⟨k,rfl⟩:=sN h.1;obtain⟨ks,rfl⟩:=NI h.2;exact⟨k::ks,rfl⟩
theorem NJ(h:mr d=true):∃ks:@bb,d=.tup (ks.map fi):=by
 cases d with
 |tup ds=>obtain⟨ks,rfl⟩:=NI (ds:=ds) h;exact⟨ks,rfl⟩
 |_=>exact absurd h (by simp[mr])
theorem sx(r:cm K H v (fi k)):v=kV k:=by
 cases k with
 |inl i=>cases r;rfl
 |inr x=>cases r;rfl
theorem Ir:∀{vs:@y} {ks:@bb},bc K H vs (ks.map fi)->vs=ks.map kV
 |_,[],r=>r.zero
 |_,k::ks,r=>by
  rw[ak] at r;cases r with
  |cons r1 r2=>rw[sx r1,Ir r2];rfl
theorem Iw{ks:@bb}(r:cm K H v (.tup (ks.map fi))):∃b,v=.ref b/\H b=some (.tup (ks.map kV)):=by
 cases r with
 |tup h rs=>have e:=Ir rs;subst e;exact⟨_,rfl,h⟩
theorem mU.look(r:mU K H kv kvs)(k):(∃v d,nX kv k=@W/\K2.look kvs (fi k)=@U/\@a5)\/(nX kv k=none/\K2.look kvs (fi k)=none):=by
 induction r using mU.ind with
 |nil=>exact .inr @a_
 | @cons j v d r t rd rs ih=>
  by_cases e:j=k
  .left;refine⟨v,d,uF (p:=(j,v)) e,?_,rd⟩;unfold K2.look;rw[cK (by show i7 (fi j) (fi k)=true;rw[vZ];exact decide_eq_true e)];rfl
  .have e1:nX ((j,v)::r) k=nX r k:=uG (p:=(j,v)) e;have e2:K2.look ((fi j,d)::t) (fi k)=K2.look t (fi k):=by
    unfold K2.look;rw[cL (by show ¬ i7 (fi j) (fi k)=true;rw[vZ];simpa using e)]
   rw[e1,e2];exact ih
theorem nS.look(r:@b7)(k):(∃v d,nX kv k=@W/\K2.look kvs (.tup (k.map fi))=@U/\@a5)\/(nX kv k=none/\K2.look kvs (.tup (k.map fi))=none):=by
 induction r using nS.ind with
 |nil=>exact .inr @a_
 | @cons j v d r t rd rs ih=>
  by_cases e:j=k
  .left;refine⟨v,d,uF (p:=(j,v)) e,?_,rd⟩;unfold K2.look;rw[cK (by show i7 (.tup (j.map fi)) (.tup (k.map fi))=true;rw[vi];exact decide_eq_true e)];rfl
  .have e1:nX ((j,v)::r) k=nX r k:=uG (p:=(j,v)) e;have e2:K2.look ((.tup (j.map fi),d)::t) (.tup (k.map fi))=K2.look t (.tup (k.map fi)):=by
    unfold K2.look;rw[cL (by show ¬ i7 (.tup (j.map fi)) (.tup (k.map fi))=true;rw[vi];simpa using e)]
   rw[e1,e2];exact ih
theorem mU.any(r:mU K H kv kvs)(k):(kv.any @bM)=kvs.any λp=>i7 p.1 (fi k):=by
 induction r using mU.ind with
 |nil=>rfl
 |@cons j v d r t rd rs ih=>simp only[ni];rw[ih,vZ]
theorem nS.any(r:@b7)(k):(kv.any @bM)=kvs.any λp=>i7 p.1 (.tup (k.map fi)):=by
 induction r using nS.ind with
 |nil=>rfl
 |@cons j v d r t rd rs ih=>simp only[ni];rw[ih,vi]
theorem mU.put(r:mU K H kv kvs)(k)(rd:@a5):mU K H (putK kv k v) (K2.put kvs (fi k) d):=by
 unfold putK K2.put;rw[r.any k];by_cases h:(kvs.any λp=>i7 p.1 (fi k))=true
 .rw[if_pos h,if_pos h];clear h;induction r using mU.ind with
  |nil=>ext d
  |@cons j w e r t re rs ih=>
   simp only[ak];rw[vZ];by_cases e:j=k
   .simp only[e,if_true,decide_true];exact .cons rd ih
   .simp only[e,if_false,decide_false,aj];exact .cons re ih
 .rw[if_neg h,if_neg h];clear h;induction r using mU.ind with
  |nil=>exact .cons rd .nil
  |cons re rs ih=>exact .cons re ih
theorem nS.put(r:@b7)(k)(rd:@a5):nS K H (putK kv k v) (K2.put kvs (.tup (k.map fi)) d):=by
 unfold putK K2.put;rw[r.any k];by_cases h:(kvs.any λp=>i7 p.1 (.tup (k.map fi)))=true
 .rw[if_pos h,if_pos h];clear h;induction r using nS.ind with
  |nil=>ext d
  |@cons j w e r t re rs ih=>
   simp only[ak];rw[vi];by_cases e:j=k
   .simp only[e,if_true,decide_true];exact .cons rd ih
   .simp only[e,if_false,decide_false,aj];exact .cons re ih
 .rw[if_neg h,if_neg h];clear h;induction r using nS.ind with
  |nil=>exact .cons rd .nil
  |cons re rs ih=>exact .cons re ih
end
theorem Kp.putD{H:Hp}{p:Addr}{o o':HO}(hp:H p=@i)(h:(∃k,o=.dK k)\/∃k,o=.dT k):Kp H (upd H p o') :=
 ⟨λa ys e=>by rw[bH (by ext c;rw[hp] at e;rcases h with ⟨_,rfl⟩ |⟨_,rfl⟩<;>cases e)];exact e,λa ob u e=>by rw[bH (by ext c;rw[hp] at e;rcases h with ⟨_,rfl⟩ |⟨_,rfl⟩<;>cases e)];exact e⟩
section
variable {X:Cx} {pins:@s} {σ:L2.St} {H:Hp} {s:aB} {G:Gp} {a:Addr} {kvs:@ag} {k:D} {y:V}
theorem toT(I:@k)(e:H a=some (.dK [])):Inv X pins σ (upd H a (.dT [])) s:=by
 obtain⟨z,hd,vs,rel,dd⟩:=DI I.cx e;have hv:vs=[]:=by cases rel;rfl
 subst hv;obtain⟨o,es,ep,ho,hx,Eb,hko,hl,nd⟩:=dd;have he:es=#[]:=by
  cases hq:es.toList with
  |nil=>simpa using hq
  |cons _ _=>rw[hq] at hl;cases hl
 subst he;exact I.write (h':=s.heap) (t':=s.toks) (x:=a) (e:=a) (by rw[e];exact gv) (@ac) (λb u _ q=>q) ⟨o,ho⟩ ⟨cI _,hd,[],.nil,o,#[],ep,ho,hx,Eb,rfl,cJ⟩
theorem toK(I:@k)(e:H a=some (.dT [])):Inv X pins σ (upd H a (.dK [])) s:=by
 obtain⟨z,hd,xs,rel,o,es,ep,ho,hx,Eb,hl,nd⟩:=I.cx a _ e;have hv:xs=[]:=by cases rel;rfl
 subst hv;have he:es=#[]:=by simpa using hl
 subst he;exact I.write (h':=s.heap) (t':=s.toks) (x:=a) (e:=a) (by rw[e];exact gv) (@ac) (λb u _ q=>q) ⟨o,ho⟩ ⟨cI _,hd,[],.nil,o,#[],ep,ho,hx,Eb,(λ_ h=>@cc),.nil,cJ⟩
theorem NA(ab:@aN)(hg:G a=some (.gz kvs))(k:Kp H (upd H a o))(ho:KG X.K (upd H a o) a (.gz kvs)):Mv X.K H G (upd H a o) G:=by
 have m:=Mv.put ab hg k ho;have e:dw G a (.gz kvs)=G:=by
  funext b;unfold dw;split
  .rename_i z;rw[z,hg]
  .rfl
 rw[e] at m;exact m
theorem GU(I:@k)(ab:@aN)(hg:G a=some (.gz kvs))(hk:iW kvs k=true)(ry:cm X.K H y k):
  ∃H',Inv X pins σ H' s/\Mv X.K H G H' G/\((∃(kv:@aO) (kk:Key),H' a=some (.dK kv)/\mU X.K H' kv kvs/\k=fi kk/\y=kV kk)\/∃(kv:@bA) (kk:@bb) (b:Addr),H' a=some (.dT kv)/\nS X.K H' kv kvs/\k=.tup (kk.map fi)/\y=.ref b/\H' b=some (.tup (kk.map kV))):=by
 unfold iW at hk;rw[gO,aL,aL] at hk;rcases hk with ⟨h1,h2⟩ |⟨h1,h2⟩
 .obtain⟨kk,rfl⟩:=sN h1;have ey:=sx ry;subst ey;rcases ab a _ hg with ⟨kv,hv,rs⟩ |⟨kv,hv,rs⟩
  .exact⟨H,I,@ai,.inl ⟨kv,kk,hv,rs,rfl,rfl⟩⟩
  .cases rs with
   |nil=>
    refine⟨_,toK I hv,NA ab hg (.putD hv (.inr @A)) (.inl ⟨[],bV,.nil⟩),.inl ⟨[],kk,bV,.nil,rfl,rfl⟩⟩
   |cons _ _=>simp[dq] at h2
 .obtain⟨kk,rfl⟩:=NJ h1;obtain⟨b,rfl,hb⟩:=Iw ry;rcases ab a _ hg with ⟨kv,hv,rs⟩ |⟨kv,hv,rs⟩
  .cases rs with
   |nil=>
    have kp:Kp H (upd H a (.dT [])):=.putD hv (.inl @A);exact⟨_,toT I hv,NA ab hg kp (.inr ⟨[],bV,.nil⟩),.inr ⟨[],kk,b,bV,.nil,rfl,rfl,kp.tup _ _ hb⟩⟩
   |@cons j _ _ _ _ _ _=>cases j<;>simp[fi,mr] at h2
  .exact⟨H,I,@ai,.inr ⟨kv,kk,b,hv,rs,rfl,rfl,hb⟩⟩
theorem JR(I:@k)(ab:@aN)(hg:G a=some (.gz kvs))(hk:iW kvs k=true)(ry:cm X.K H y k):
  ∃H' o,Inv X pins σ H' s/\Mv X.K H G H' G/\D5 H' a y o/\o.isSome=(look kvs k).isSome/\∀d,look kvs k=@U->∃v,o=@W/\cm X.K H' v d:=by
 obtain⟨H',I',m,h⟩:=GU I ab hg hk ry;rcases h with ⟨kv,kk,hv,rs,rfl,rfl⟩ |⟨kv,kk,b,hv,rs,rfl,rfl,hb⟩
 .refine⟨H',nX kv kk,I',m,.k hv,?_,λd hd=>?_⟩
  .rcases rs.look kk with ⟨v,d,e1,e2,_⟩ |⟨e1,e2⟩<;>rw[e1,e2]<;>rfl
  .rcases rs.look kk with ⟨v,d',e1,e2,r⟩ |⟨e1,e2⟩
   .rw[e2] at hd;cases hd;exact⟨v,e1,r⟩
   .rw[e2] at hd;cases hd
 .refine⟨H',nX kv kk,I',m,.t hv hb,?_,λd hd=>?_⟩
  .rcases rs.look kk with ⟨v,d,e1,e2,_⟩ |⟨e1,e2⟩<;>rw[e1,e2]<;>rfl
  .rcases rs.look kk with ⟨v,d',e1,e2,r⟩ |⟨e1,e2⟩
   .rw[e2] at hd;cases hd;exact⟨v,e1,r⟩
   .rw[e2] at hd;cases hd
theorem F7(I:@k)(rd:cm X.K H x (.kU kvs))(hk:iW kvs k=true)(ry:cm X.K H y k):
  ∃a o,x=@V/\(kvs=[]\/D5 H a y o)/\o.isSome=(look kvs k).isSome/\∀d,look kvs k=@U->∃v,o=@W/\cm X.K H v d:=by
 unfold iW at hk;rw[gO,aL,aL] at hk;cases rd with
 | pj h rs=>
  rename_i a ob kv;rcases hk with ⟨h1,h2⟩ |⟨h1,h2⟩
  .obtain⟨kk,rfl⟩:=sN h1;have ey:=sx ry;subst ey;refine⟨a,nX kv kk,rfl,.inr (.inl ⟨kv,kk,.inr ⟨_,h⟩,rfl,rfl⟩),?_,λd hd=>?_⟩
   .rcases rs.look kk with ⟨v,d,e1,e2,_⟩ |⟨e1,e2⟩<;>rw[e1,e2]<;>rfl
   .rcases rs.look kk with ⟨v,d',e1,e2,r⟩ |⟨e1,e2⟩
    .rw[e2] at hd;cases hd;exact⟨v,e1,r⟩
    .rw[e2] at hd;cases hd
  .cases rs with
   |nil=>exact⟨a,none,rfl,@ac,rfl,λd hd=>by cases hd⟩
   |cons _ _=>
    rename_i kx _ _ _ _ _ _;rw[nj,aL] at h2;cases kx<;>exact absurd h2.1 (by simp[fi,mr])
 | ph h rs=>
  rename_i a ob kv;rcases hk with ⟨h1,h2⟩ |⟨h1,h2⟩
  .cases rs with
   |nil=>exact⟨a,none,rfl,@ac,rfl,λd hd=>by cases hd⟩
   |cons _ _=>
    rw[nj,aL] at h2;exact absurd h2.1 (by simp[dq])
  .obtain⟨kk,rfl⟩:=NJ h1;obtain⟨b,rfl,hb⟩:=Iw ry;refine⟨a,nX kv kk,rfl,.inr (.inr ⟨kv,kk,b,.inr ⟨_,h⟩,rfl,hb,rfl⟩),?_,λd hd=>?_⟩
   .rcases rs.look kk with ⟨v,d,e1,e2,_⟩ |⟨e1,e2⟩<;>rw[e1,e2]<;>rfl
   .rcases rs.look kk with ⟨v,d',e1,e2,r⟩ |⟨e1,e2⟩
    .rw[e2] at hd;cases hd;exact⟨v,e1,r⟩
    .rw[e2] at hd;cases hd
theorem UJ(I:@k)(ab:@aN)(hg:G a=some (.gz kvs))(hk:iW kvs k=true)(hz:kvs.length<SZ)(ry:cm X.K H y k)(rv:cm X.K H v d):
  ∃H' H'',Inv X pins σ H' s/\QD H' a y v H''/\Mv X.K H G H'' (dw G a (.gz (put kvs k d))):=by
 obtain⟨H',I',m,h⟩:=GU I ab hg hk ry;have rv':=rv.mono (m.kp ab);have sz:ba=16777216:=c5;rcases h with ⟨kv,kk,hv,rs,rfl,rfl⟩ |⟨kv,kk,b,hv,rs,rfl,rfl,hb⟩
 .have kp:Kp H' (upd H' a (.dK (putK kv kk v))):=.putD hv (.inl @A);exact⟨H',_,I',.k hv (by rw[rs.length,sz];exact hz),m.trans (.put m.ab hg kp (.inl ⟨_,bV,(rs.put kk rv').mono kp⟩))⟩
 .have kp:Kp H' (upd H' a (.dT (putK kv kk v))):=.putD hv (.inr @A);exact⟨H',_,I',.t hv hb (by rw[rs.length,sz];exact hz),m.trans (.put m.ab hg kp (.inr ⟨_,bV,(rs.put kk rv').mono kp⟩))⟩
end
section
variable {X:Cx} {a b c e:Expr} {es:@az} {ta tb tc te:gC} {t:Az} {pos p p2 apos jY:Pos} {x:Str}
theorem Z8{j}:eU X (.Constant (.bool k) j pos) (dC (.bl k)):=vO ach λ_ _=>.bl k
theorem WQ{j}:eU X (.Constant (.str y) j pos) (dC (.str y)):=vO ZZ λ_ _=>.str y
theorem Pg{st:Stmt}:xA X st sY:=λ_ _ _ _ _ _ _ _ _ _ h=>h.elim
theorem V2:abm X (unaryOp .USub) ID:=by
 intro pins s σ H G x dx v Q I ab rx dX q;cases dX with
 |int i=>exact iM (Zr pins s σ H _ v @bw I rx ⟨i,rfl,_,_,@ai,@S,q⟩) @bE
 |_=>exact bM q
theorem Z3(hu:@bl)(ha:@ba)(hb:eU X b tb)(hs:X9 b):eU X (.Subscript a b pos) (aN fQ ta tb):=by
 ext i;refine Subscript_ (UZ ha hb hE I h λv u s2 x y dx dy H2 G2 J m rx ry dX dY q=>?_);have fin:∀{rb:R2},IxR X rb->rb x y H2 (Ec X.K H2 G2 Q)->wpAny @l X.A (subscriptTail a b v u) @bo X.xe s2:=λhr hq=>
  iM (hr a b pins s2 σ H2 x y v u _ J.inv rx ry hq (hs _ _)) λ_ _ z=>(ug.of z).trans m
 cases dX with
 | tup hq rs=>
  cases dY with
  |int i=>
   rw[dS] at q;split at q
   .rename_i d hd;obtain⟨w,hw,su⟩:=rs.rN hd;exact fin aaD ⟨_,_,i,w,rfl,rfl,.of hq,hw,d,G2,.refl J.ab,su,q⟩
   ext j
  |_=>exact bM q
 | dc hq rs=>
  cases dY with
  |int i=>
   rw[hV] at q;split at q
   .rename_i d hd;obtain⟨w,hw,su⟩:=rs.rN hd;exact fin NM ⟨_,_,i,w,rfl,rfl,hq.sq,hw,d,G2,.refl J.ab,su,q⟩
   ext j
  |_=>exact bM q
 | pj h rs=>
  rw[yt] at q;obtain⟨hk,q⟩:=q;split at q
  .rename_i d hd;obtain⟨a',o,ea,g,_,hv⟩:=F7 J.inv (.pj h rs) hk dY;obtain⟨w,rfl,su⟩:=hv d hd;cases ea;rcases g with rfl |g
   .cases hd
   .cases rx;exact tail_any (vk J.inv g) PySem.F.slot_dict_getitem.lookup (As @c J.inv g ry λw' s3 I4 rv=>⟨w,H2,d,G2,I4,m,rv,su,q⟩) (hs _ _)
  ext j
 | ph h rs=>
  rw[yt] at q;obtain⟨hk,q⟩:=q;split at q
  .rename_i d hd;obtain⟨a',o,ea,g,_,hv⟩:=F7 J.inv (.ph h rs) hk dY;obtain⟨w,rfl,su⟩:=hv d hd;cases ea;rcases g with rfl |g
   .cases hd
   .cases rx;exact tail_any (vk J.inv g) PySem.F.slot_dict_getitem.lookup (As @c J.inv g ry λw' s3 I4 rv=>⟨w,H2,d,G2,I4,m,rv,su,q⟩) (hs _ _)
  ext j
 | ref l=>
  rw[Gb] at q;split at q
  .rename_i ds hl;obtain⟨vs,hv,rs⟩:=J.ab.lst hl;cases dY with
   |int i=>
    dsimp only at q;split at q
    .rename_i d hd;obtain⟨w,hw,su⟩:=rs.rN hd;exact fin NM ⟨_,_,i,w,rfl,rfl,.of hv,hw,d,G2,.refl J.ab,su,q⟩
    ext j
   |_=>exact bM q
  .rename_i kvs hl;obtain⟨hk,q⟩:=q;split at q
   .rename_i d hd;obtain⟨H3,o,I3,m3,g,_,hv⟩:=JR J.inv J.ab hl hk dY;obtain⟨w,rfl,su⟩:=hv d hd;cases rx;exact tail_any (vk I3 g) PySem.F.slot_dict_getitem.lookup (As @c I3 g ry λw' s3 I4 rv=>⟨w,H3,d,G2,I4,m.trans m3,rv,su,q⟩) (hs _ _)
   ext j
  ext j
 |_=>exact bM q
def PO2(X:Cx)(e:Option Expr)(t:TO2):Prop :=
 ∀(E:mK) (pins:@s) (s:aB) (σ:L2.St) (H:Hp) (τ:jx) (G:Gp) (Q:@aW->@B),Lk X E->@bW->t E τ G Q ->
  wpAny @l X.A (evalPart e X.env) (λu s'=>∃o H' G',@ce/\@bG/\IsPart u o/\Q o G') X.xe s
theorem Sg:PO2 X none cw:=by
 ext i;rw[evalPart_none];exact aE ⟨none,H,G,I.inv,.refl I.ab,.none,h⟩
theorem Sf(h:eU X e te):PO2 X (some e) (ib te):=by
 intro E pins s σ H τ G Q hE I hw;rw[evalPart_some];refine jH h hE I hw λx H1 d G1 u s1 I1 m1 r1 j4 q1=>?_;cases j4 with
 |int i=>
  obtain⟨t,rfl⟩:=r1;exact⟨some i,H1,G1,I1.inv,m1,.int i t,q1⟩
 |_=>exact bM q1
theorem Pq{lo:Option Expr}(he:@ba)(hl:PO2 X lo tl)(hu:PO2 X hi th):eU X (.Subscript a (.Slice lo hi none p2) pos) (pI ta tl th):=by
 ext i;refine Subscript_ (jH he hE I h @cE);refine wpAny_Slice (iM (hl E pins s1 σ H1 τ G1 _ hE I1 q1) ?_);rintro vl s2 ⟨l,H2,G2,oI,m2,pl,q2⟩;refine iM (hu E pins s2 σ H2 τ G2 _ hE (I1.mv oI m2) q2) ?_;rintro vu s3 ⟨r,H3,G3,I3,m3,pu,q3⟩;rw[evalPart_none];refine aE ?_;have m13:=m2.trans m3;have mm:=m1.trans m13;have I4:Inv X pins σ H3 {s3 with heap:=s3.heap.push {cls:=.type "slice",data:=.fields #[vl,vu,.none]}}:=I3.kept (t':=s3.toks) λb ob q=>aJ _ q;have rd3:=j4.mono (m13.kp I1.ab);have U1:=m3.ab;have key:∀{rb:V->@aW->@aW->Hp->VK->Prop},SlR X rb->rb x l r H3 (Ec X.K H3 G3 Q)->wpAny @l X.A (subscriptTail a (.Slice lo hi none p2) v (.ref s3.heap.objs.size)) @bo X.xe {s3 with heap:=s3.heap.push {cls:=.type "slice",data:=.fields #[vl,vu,.none]}}:=λhr hq=>by
  obtain⟨T,id,hT,ht,hg⟩:=hr pins {s3 with heap:=s3.heap.push {cls:=.type "slice",data:=.fields #[vl,vu,.none]}} σ H3 x v vl vu l r s3.heap.objs.size _ I4 r1 (Heap.IsSliceOf.new ..) pl pu hq;exact iM (tail_any (ops:=[.ref s3.heap.objs.size,v]) ht hT hg (by with_unfolding_all rfl)) λ_ _ z=>(ug.of z).trans mm
 cases rd3 with
 |tup hq rs=>
  obtain⟨hw,q⟩:=q3;refine key ZF ⟨_,_,rfl,.of hq,?_,λp hp=>⟨_,G3,.Kz U1 hp,.tup bV ((rs.cut l r).mono @ar),q⟩⟩;rw[F5,F5,rs.length];exact hw
 |dc hq rs=>exact key M8 ⟨_,_,rfl,hq.sq,λp hp=>⟨_,_,.LH U1 hp (rs.cut l r),.ref _,q3 p (U1.free hp)⟩⟩
 |ref g=>
  rw[lN] at q3;split at q3
  .rename_i ds hg;obtain⟨vs,hv,rs⟩:=U1.lst hg;exact key M8 ⟨_,_,rfl,.of hv,λp hp=>⟨_,_,.LH U1 hp (rs.cut l r),.ref _,q3 p (U1.free hp)⟩⟩
  .exact q3.elim
 |_=>exact bM q3
theorem W4(ss)(s)(h1:tJ ss=true)(h2:nr s=true):((nO ss).any λy=>uc y (pd s))=ss.any (i7 · s):=by
 induction ss with
 |nil=>rfl
 |cons d r ih=>
  have h':nr d=true/\tJ r=true:=(lz).mp h1;show(uc (pd d) (pd s)||(nO r).any _)=_;rw[ih h'.2,xn d s h'.1 h2];rfl
theorem Od(h:Sn G (n+1) (.dc ds) (.dc ss)):cG (nO ss)<=n:=by
 exact xO (DM h)
theorem Gy(hu:@bl)(neg:Bool){pins:@s}{s:aB}{σ:L2.St}{H:Hp}{G:Gp}{x y:V}{dx t:D}{ds ss:@e}{v u:Value}{Q:DK}(I:@k)(ab:@aN)(rx:RelV x v)(dX:cm X.K H x dx)
  (hy:(∃l vs bQ,u=@Y/\Vals vs bQ/\bc X.K H vs ds/\(s.heap.IsList l bQ.toArray\/s.heap.IsTuple l bQ.toArray))) (s1:Sn G SN dx t) (s2:Sn G SN (.dc ds) (.dc ss))
  (q:Q (.bl (if neg then !ss.any (i7 · t) else ss.any (i7 · t))) G):wpAny @l X.A (fh (if neg then .NotIn else .In) v u) @bo X.xe s:=by
 obtain⟨l,vs,bQ,rfl,rv,rs,hl⟩:=hy;obtain⟨as,ra⟩:=(iU I ab s1).1 x v dX rx;obtain⟨bs,rb⟩:=(iU I ab s2).2 ds ss (.inl @a_) vs bQ rs rv;have d2:=Od (n:=7) s2;have n2:tJ ss=true:=s2.nr;have Dh:=yJ _ n2;have e:=W4 ss t n2 s1.nr;have Jv:X.A.units+1+min (cG (nO ss)) (pd t).depth<cLine:=@d
 have RT:iY s.heap bQ.toArray.toList (nO ss) bs:=by simpa using rb
 have fin:∀k:Bool,k=(if neg then !ss.any (i7 · t) else ss.any (i7 · t))->ug X pins σ H G Q (.bool k) s:=λk hk=>by subst hk;exact⟨.bl _,H,.bl _,G,I,@ai,rfl,.bl _,q⟩
 cases neg with
 |false=>
  rcases hl with hl |hl
  .exact SeqAt.in_listAt _ hl (pP RT ra Dh (lO _ s1.nr) Jv) (by rw[uw RT Dh,e];exact fin _ rfl)
  .exact SeqAt.in_tupleAt _ hl (pP RT ra Dh (lO _ s1.nr) Jv) (by rw[uw RT Dh,e];exact fin _ rfl)
 |true=>
  rcases hl with hl |hl
  .exact SeqAt.notIn_listAt _ hl (pP RT ra Dh (lO _ s1.nr) Jv) (by rw[uw RT Dh,e];exact fin _ rfl)
  .exact SeqAt.notIn_tupleAt _ hl (pP RT ra Dh (lO _ s1.nr) Jv) (by rw[uw RT Dh,e];exact fin _ rfl)
theorem TR(hu:@bl)(neg){x:V}(I:@k)(ab:@aN)(rx:RelV x v)(ry:RelV y u)(dY:cm X.K H y (.kU kvs))(dX:cm X.K H x dx)
  (q:O7 neg dx (.kU kvs) G Q):wpAny @l X.A (fh (if neg then .NotIn else .In) v u) @bo X.xe s:=by
 obtain⟨pX,hk,q⟩:=q;have go:∀(a:Addr) (o:Option V),y=@V->D5 H a x o->o.isSome=(look kvs dx).isSome->wpAny @l X.A (fh (if neg then .NotIn else .In) v u) @bo X.xe s:=by
  intro a o ea g ho;subst ea;cases ry;cases neg with
  |false=>exact adG @c I g rx λs3 I4=>⟨.bl _,H,.bl _,G,I4,@ai,rfl,.bl _,by rw[ho];exact q⟩
  |true=>exact Oe @c I g rx λs3 I4=>⟨.bl _,H,.bl _,G,I4,@ai,rfl,.bl _,by rw[ho];exact q⟩
 obtain⟨a,o,ea,g,ho,_⟩:=F7 I dY hk dX;rcases g with rfl |g
 .exact absurd rfl pX
 .exact go a o ea g ho
theorem Xg(hu:@bl)(neg):oH X (fh (if neg then .NotIn else .In)) (O7 neg):=by
 ext q;cases dY with
 |tup hq rs=>
  obtain⟨t,ss,s1,s2,q⟩:=q;cases ry;obtain⟨bQ,rv,pl,hz⟩:=I.tuple (.of hq);exact Gy hu neg (y:=x) I ab rx dX ⟨_,_,bQ,rfl,rv,rs,.inr pl⟩ s1 s2 q
 |dc hq rs=>
  obtain⟨t,ss,s1,s2,q⟩:=q;cases ry;obtain⟨bQ,rv,pl,hz⟩:=I.list hq.sq;exact Gy hu neg (y:=x) I ab rx dX ⟨_,_,bQ,rfl,rv,rs,.inl pl.isList⟩ s1 s2 q
 |pj h rs=>exact TR hu neg I ab rx ry (.pj h rs) dX q
 |ph h rs=>exact TR hu neg I ab rx ry (.ph h rs) dX q
 | ref l=>
  unfold O7 at q;dsimp only at q;split at q
  .rename_i kvs hl;obtain⟨hk,q⟩:=q;obtain⟨H3,o,I3,m3,g,ho,_⟩:=JR I ab hl hk dX;cases ry;cases neg with
   |false=>exact adG @c I3 g rx λs3 I4=>⟨.bl _,H3,.bl _,G,I4,m3,rfl,.bl _,by rw[ho];exact q⟩
   |true=>exact Oe @c I3 g rx λs3 I4=>⟨.bl _,H3,.bl _,G,I4,m3,rfl,.bl _,by rw[ho];exact q⟩
  .rename_i ds hl;obtain⟨t,ss,s1,s2,q⟩:=q;cases ry;obtain⟨vs,hv,rs⟩:=ab.lst hl;obtain⟨bQ,rv,pl,hz⟩:=I.list (.of hv);exact Gy hu neg (y:=x) I ab rx dX ⟨_,_,bQ,rfl,rv,rs,.inl pl.isList⟩ s1 s2 q
  ext j
 |_=>exact bM q
theorem aag(hu:@bl):oH X (fh .In) (O7 false):=Xg hu false
end
section
variable {X:Cx} {a b c e o:Expr} {es:@az} {ta tb tc te to:gC} {t:Az} {pos p p2 apos jY:Pos} {x name:Str} {id T:String}
theorem Qo:pL X (.builtin "len") ja:=by
 intro pins s σ H G xs ds us Q I ab rx rd q;unfold ja at q;split at q
 .rename_i x;obtain⟨v,rfl,r⟩:=rd.one;have V0:∀(n:Nat),adW X.K v H n->Q (.int (n:Int)) G->wpAny @l X.A (call (.builtin "len") us) @bo X.xe s:=λn hn hq=>
   iM (UO pins s σ H [v] us @bw I rx ⟨v,n,rfl,hn,_,_,@ai,@S,hq⟩) @bE
  have sz:ba=16777216:=c5;cases r with
  |tup hq rs=>exact V0 _ (.inr ⟨_,.of hq,by rw[rs.length]⟩) q
  |dc hq rs=>exact V0 _ (.inl ⟨_,hq.sq,by rw[rs.length]⟩) q
  |str y=>
   unfold lenOf at q;dsimp only at q;by_cases hz:y.length<=SZ
   .rw[if_pos hz] at q;exact V0 _ ⟨by rw[sz];exact hz,rfl⟩ q
   .rw[if_neg hz] at q;ext k
  |pj h rs=>
   rename_i l o kv kvs;obtain⟨u,rfl,ru⟩:=rx.one;cases ru;unfold lenOf at q;dsimp only at q;by_cases ha:(@cz)=true
   .rw[if_pos ha] at q;exact Y9 I (.inr ⟨_,h⟩) λt s' I'=>⟨.int kv.length,H,_,G,I',@ai,⟨t,rfl⟩,@S,by rw[rs.length];exact q⟩
   .rw[if_neg ha] at q;ext k
  | ph h rs=>
   rename_i l o kv kvs;obtain⟨u,rfl,ru⟩:=rx.one;cases ru;unfold lenOf at q;dsimp only at q;by_cases ha:(@cz)=true
   .rw[if_pos ha] at q;cases rs with
    |nil=>
     obtain⟨z,hS,xs,rel,ob,es,ep,ho,hx,Eb,hl,nd⟩:=(I.cx l _ h).2;have hxs:xs=[]:=by cases rel;rfl
     subst hxs;have he:es=#[]:=by simpa using hl
     subst he;have dd:s.heap.DictOf @ck l []:=⟨ob,#[],ep,ho,hx,Eb,(λ_ h=>@cc),.nil,cJ⟩;refine call_len_dict hS dd @f ?_;exact⟨.int 0,H,_,G,@au,@ai,@A,@S,q⟩
    |cons _ _=>simp[dq] at ha
   .rw[if_neg ha] at q;ext k
  | ref l=>
   unfold lenOf at q;dsimp only at q;cases hg:G l with
   |none=>rw[hg] at q;ext k
   | some g=>
    rw[hg] at q;cases g with
    |lst ds=>
     ext t;exact V0 _ (.inl ⟨_,.of hv,by rw[rs.length]⟩) q
    |ins _ _=>ext k
    |tR _=>ext k
    | gz kvs=>
     obtain⟨u,rfl,ru⟩:=rx.one;cases ru;dsimp only at q;by_cases ha:(@cz)=true
     .rw[if_pos ha] at q;rcases ab l _ hg with ⟨kv,hv,rs⟩ |⟨kv,hv,rs⟩
      .exact Y9 I (.inl hv) λt s' I'=>⟨.int kv.length,H,_,G,I',@ai,⟨t,rfl⟩,@S,by rw[rs.length];exact q⟩
      .cases rs with
       |nil=>
        obtain⟨z,hd,vs,rel,dd⟩:=DI (toK I hv).cx bV;have hvs:vs=[]:=by cases rel;rfl
        subst hvs;refine call_len_dict hd dd @f ?_;exact⟨.int 0,H,_,G,@au,@ai,@A,@S,q⟩
       |cons _ _=>simp[dq] at ha
     .rw[if_neg ha] at q;ext k
  |_=>exact bM q
 ext j
theorem Mx:pL X (@ad) vq:=by
 intro pins s σ H G xs ds us Q I ab rx rd q;unfold vq at q;split at q
 .rename_i x;obtain⟨v,rfl,r⟩:=rd.one;have V1:∀(l:Addr) (ys:@y) (zs:@e),v=@Y->(pO X.K H l ys\/B1 X.K H l ys)->bc X.K H ys zs->iQ G (.lst zs) Q->wpAny @l X.A (call (@ad) us) @bo X.xe s:=λl ys zs e h rs hq=>by
   subst e;exact iM (He pins s σ H _ us @bw I rx ⟨l,ys,rfl,h,λp hp=>⟨_,_,.LH ab hp rs,.ref _,hq p (ab.free hp)⟩⟩) @bE
  cases r with
  |tup hq rs=>exact V1 _ _ _ rfl (.inr (.of hq)) rs q
  |dc hq rs=>exact V1 _ _ _ rfl (.inl hq.sq) rs q
  | ref l=>
   unfold itemsOf at q;dsimp only at q;cases hg:G l with
   |none=>rw[hg] at q;ext k
   | some g=>
    rw[hg] at q;cases g with
    |lst ds=>
     ext t;exact V1 _ _ _ rfl (.inl (.of hv)) rs q
    |ins _ _=>ext k
    |tR _=>ext k
    |gz kvs=>ext k
  |_=>exact bM q
 ext j
theorem Ly  (hc:pL X (.type T) r) (hg:Gl X x) (hm:X.mg x=none) (hv:eM x=some (.type T)) (ha:wO X (e::es) t) (hn:autoParam (x≠"__name__") Ad._auto_1) (rJ:@bh)
  (he:@cJ) (rV:@cZ):eU X @cm (jw r t):=by
 ext i;refine fm (qK I.inv hg hm hv ?_ hn rJ);exact gZ (zJ ha pos hE I h λvs H1 ds G1 us s1 I1 m1 r1 j4 q1=>iM (hc pins s1 σ H1 G1 vs ds us Q I1.inv I1.ab r1 j4 q1) @cu) he rV
theorem aaw (K):∀C∈["int","bool","list","tuple","dict","str"],∀T∈["NoneType","bool","int","str","tuple","list","dict"],zt K (.type T) (.type C)=some (T == C||(T == "bool" && @aB)):=by
 intro C hC T hT;simp only[bF,b9,or_false] at hC hT;rcases hC with rfl |rfl |rfl |rfl |rfl |rfl<;>rcases hT with rfl |rfl |rfl |rfl |rfl |rfl |rfl<;>kernel_rfl
theorem TK (C:String) (hC:C∈["int","bool","list","tuple","dict","str"]) {pins:@s} {s:aB} {σ:L2.St} {H:Hp} {G:Gp} {v:V} {d:D} {u:Value} {k:Bool} {Q:DK} (I:@k) (ab:@aN) (ru:@a4) (r:cm X.K H v d)
  (hk:YO C d G=some k) (q:Q (.bl k) G):wpAny @l X.A (call (.builtin "isinstance") [u,.type C]) @bo X.xe s:=by
 have fin:∀tk,ug X pins σ H G Q (.bool k) {s with toks:=tk}:=λtk=>⟨.bl k,H,.bl k,G,@au,@ai,rfl,.bl k,q⟩;have hl:∀T∈["NoneType","bool","int","str","tuple","list","dict"],k=(T == C||(T == "bool" && @aB))->zt X.K (.type T) (.type C)=some k:=λT hT e=>by rw[aaw X.K C hC T hT,e]
 have tl:∀{l:Addr} {o:Obj},@cA=@i->o.cls=@ad->k=("list" == C||("list" == "bool" && @aB))->v=@Y->wpAny @l X.A (call (.builtin "isinstance") [u,.type C]) @bo X.xe s:=λho hc e ev=>by
  subst ev;cases ru;exact gE PySem.W.kitx_list I.BU ⟨_,ho,hc⟩ (hl "list" @t e) @bs fin
 have td:∀{l:Addr} {o:Obj},@cA=@i->o.cls=@aZ->k=("dict" == C||("dict" == "bool" && @aB))->v=@Y->wpAny @l X.A (call (.builtin "isinstance") [u,.type C]) @bo X.xe s:=λho hc e ev=>by
  subst ev;cases ru;exact gE PySem.W.kitx_dict I.BU ⟨_,ho,hc⟩ (hl "dict" @t e) @bs fin
 have qN:∀P:String->Prop,(∀C'∈["int","bool","list","tuple","dict","str"],P C')->P C:=λP h=>h C hC;cases r with
 | fe=>
  cases ru;have e:k=("NoneType" == C||("NoneType" == "bool" && @aB)):=by
   have:k=false:=(aZ hk).symm;rw[this];exact qN (λC=>false=("NoneType" == C||("NoneType" == "bool" && @aB))) @t
  exact gE VM I.BU gv (hl _ @t e) @bs fin
 | bl y=>
  cases ru;have e:k=("bool" == C||("bool" == "bool" && @aB)):=by
   have:k=(C == "bool" || @aB):=(aZ hk).symm;rw[this];exact qN (λC=>(C == "bool" || @aB)=("bool" == C||("bool" == "bool" && @aB))) @t
  exact gE PySem.W.kitx_bool I.BU gv (hl _ @t e) @bs fin
 | int y=>
  obtain⟨t,rfl⟩:=ru;have e:k=("int" == C||("int" == "bool" && @aB)):=by
   have:k=(@aB):=(aZ hk).symm;rw[this];exact qN (λC=>(@aB)=("int" == C||("int" == "bool" && @aB))) @t
  exact gE PySem.W.kitx_int I.BU gv (hl _ @t e) @bs fin
 | str y=>
  obtain⟨t,rfl⟩:=ru;have e:k=("str" == C||("str" == "bool" && @aB)):=by
   have:k=(C == "str"):=(aZ hk).symm;rw[this];exact qN (λC=>(C == "str")=("str" == C||("str" == "bool" && @aB))) @t
  exact gE PySem.W.kitx_str I.BU gv (hl _ @t e) @bs fin
 | tup hq rs=>
  cases ru;have e:k=("tuple" == C||("tuple" == "bool" && @aB)):=by
   have:k=(C == "tuple"):=(aZ hk).symm;rw[this];exact qN (λC=>(C == "tuple")=("tuple" == C||("tuple" == "bool" && @aB))) @t
  obtain⟨bQ,rv,⟨o,h1,h2,_⟩,hz⟩:=I.tuple (.of hq);exact gE PySem.W.kitx_tuple I.BU ⟨o,h1,h2⟩ (hl _ @t e) @bs fin
 |dc hq rs=>
  obtain⟨bQ,rv,pl,hz⟩:=I.list hq.sq;obtain⟨o,h1,h2,_⟩:=pl.isList;refine tl h1 h2 ?_ rfl;have:k=(C == "list"):=(aZ hk).symm;rw[this];exact qN (λC=>(C == "list")=("list" == C||("list" == "bool" && @aB))) @t
 | pj h rs=>
  have e:k=("dict" == C||("dict" == "bool" && @aB)):=by
   have:k=(C == "dict"):=(aZ hk).symm;rw[this];exact qN (λC=>(C == "dict")=("dict" == C||("dict" == "bool" && @aB))) @t
  obtain⟨_,_,vs,_,ob,_,_,h1,h2,_⟩:=wM I.cx (.inr ⟨_,h⟩);exact td h1 h2.1 e rfl
 | ph h rs=>
  have e:k=("dict" == C||("dict" == "bool" && @aB)):=by
   have:k=(C == "dict"):=(aZ hk).symm;rw[this];exact qN (λC=>(C == "dict")=("dict" == C||("dict" == "bool" && @aB))) @t
  obtain⟨_,_,ys,_,ob,_,_,h1,h2,_⟩:=DH I.cx (.inr ⟨_,h⟩);exact td h1 h2.1 e rfl
 |exc h=>simp[YO] at hk
 |Et h _=>simp[YO] at hk
 |qJ _ _ _ _=>simp[YO] at hk
 | ref l=>
  unfold YO at hk;dsimp only at hk;cases hg:G l with
  |none=>rw[hg] at hk;cases hk
  | some g=>
   rw[hg] at hk;cases g with
   |lst ds=>
    ext t;obtain⟨bQ,rv,pl,hz⟩:=I.list (.of hv);obtain⟨o,h1,h2,_⟩:=pl.isList;refine tl h1 h2 ?_ rfl;have:k=(C == "list"):=(aZ hk).symm;rw[this];exact qN (λC=>(C == "list")=("list" == C||("list" == "bool" && @aB))) @t
   |ins _ _=>cases hk
   |tR _=>cases hk
   | gz kvs=>
    have e:k=("dict" == C||("dict" == "bool" && @aB)):=by
     have:k=(C == "dict"):=(aZ hk).symm;rw[this];exact qN (λC=>(C == "dict")=("dict" == C||("dict" == "bool" && @aB))) @t
    rcases ab l _ hg with ⟨kv,hv,rs⟩ |⟨kv,hv,rs⟩
    .obtain⟨_,_,vs,_,ob,_,_,h1,h2,_⟩:=DI I.cx hv;exact td h1 h2.1 e rfl
    .obtain⟨_,_,ys,_,ob,_,_,h1,h2,_⟩:=UE I.cx hv;exact td h1 h2.1 e rfl
theorem BO (C) (hC:C∈["int","bool","list","tuple","dict","str"])   (hg:Gl X "isinstance") (hm:X.mg "isinstance"=none) (hgC:Gl X y) (hmC:X.mg y=none) (hvC:eM y=some (.type C)) (ha:@ba) (hn:autoParam (y≠"__name__") Ad._auto_1) (rJ:autoParam ((y == ("__debug__":Str))=false) Ad._auto_1)
  (he:autoParam (a8 [a,@aM] X.env=@cw::a8 [@aM] X.env) Ar._auto_1) (rV:autoParam ((jb pos (a8 [Expr.Name y py] X.env)).any @n=false) Ar._auto_1) (Qa:autoParam (a8 [@aM] X.env=[(false,eval (@aM) X.env)]) Ar._auto_1):
  eU X (.Call (.Name "isinstance" p) [a,@aM] [] pos) (JV C ta):=by
 ext i;refine fm (qK I.inv hg hm Bm ?_);refine mC ?_ he rV;rw[he];show wpAny _ _ (KL (@cw::jb pos (a8 [@aM] X.env))) _ _ s;refine kl (jH ha hE I h λv H1 d G1 u s1 I1 m1 r1 j4 q1=>?_);rw[Qa];show wpAny _ _ (KL [(false,eval (@aM) X.env)]) _ _ s1;refine kl (qK I1.inv hgC hmC hvC (uD ?_) hn rJ)
 try dsimp only at q1
 split at q1
 .rename_i k hk;exact iM (TK C hC I1.inv I1.ab r1 j4 hk q1) @cu
 .exact q1.elim
end
section
variable {X:Cx} {a b c e o:Expr} {es:@az} {ta tb tc te to:gC} {t:Az} {pos p p2 apos jY:Pos} {x name:Str} {id T:String}
def Ki(X:Cx)(id:String)(r:D->@e->Gp->DK->Prop):Prop :=
 ∀(pins:@s) (s:aB) (σ:L2.St) (H:Hp) (G:Gp) (x:V) (d:D) (xs:@y) (ds:@e) (v:Value) (us:@C) (Q:DK),@k->@aN->RelV x v->cm X.K H x d->Vals xs us->bc X.K H xs ds->r d ds G Q ->
  wpAny @l X.A (call (.builtin id) (v::us)) @bo X.xe s
def U2(X:Cx)(T:String)(ty:D->@B):Prop:=∀(pins:@s) (s:aB) (σ:L2.St) (H:Hp) (G:Gp) (x:V) (d:D) (v:Value),@k->@aN->RelV x v->cm X.K H x d->ty d G ->
  s.TypeIs v T/\∀a,v=@V->∃ob,s.heap.get? a=some ob/\ob.dict=none
theorem Cm:U2 X "list" D9:=by
 intro pins s σ H G x d v I ab r rd h;cases rd with
 |dc hq rs=>exact FU I r (.inl ⟨rfl,_,hq.sq⟩)
 |ref l=>
  unfold D9 at h;dsimp only at h;split at h
  .rename_i ds hg;ext t;exact FU I r (.inl ⟨rfl,vs,.of hv⟩)
  .exact h.elim
 |_=>exact bM h
theorem xR:U2 X "dict" Rl:=by
 intro pins s σ H G x d v I ab r rd h;cases rd with
 |pj q rs=>
  cases r;obtain⟨t1,t2,_⟩:=TL I (.inl ⟨_,.inr ⟨_,q⟩⟩);exact⟨t1,t2⟩
 |ph q rs=>
  cases r;obtain⟨t1,t2,_⟩:=TL I (.inr ⟨_,.inr ⟨_,q⟩⟩);exact⟨t1,t2⟩
 | ref l=>
  unfold Rl at h;dsimp only at h;split at h
  .rename_i kvs hg;rcases ab l _ hg with ⟨kv,hv,rs⟩ |⟨kv,hv,rs⟩
   .exact FU I r (.inr (.inr (.inl ⟨rfl,.inl ⟨kv,hv⟩⟩)))
   .exact FU I r (.inr (.inr (.inl ⟨rfl,.inr ⟨kv,hv⟩⟩)))
  .exact h.elim
 |_=>exact bM h
theorem Z7   (pa:PlainAttrs T) (slot:Slot T name id) (hty:typeOf (.builtin id)=pure (.type "method_descriptor")) (ht:U2 X T ty) (hm:Ki X id r) (ho:eU X o to) (ha:wO X (e::es) t)
  (vb:autoParam (zD o name X.env (eval o X.env)=eval o X.env) Ar._auto_1)
  (aaO:autoParam (((jb jY (a8 (e::es) X.env)).all (λx=>!x.1)&&(backToKw jY (keywordEach [] X.env)).all (λx=>x.1.isSome)
   && decide ((e::es).length+([]:List Keyword).length+(if([]:List Keyword).isEmpty then 0 else 1)<30))=true) Ar._auto_1)
  (yU:autoParam ((apos.endLine == jY.line)=true) Ar._auto_1) (hs:@cJ) (Dl:autoParam ((jb jY (@be)).any @n=false) Ar._auto_1):
  eU X (.Call (.Attribute o name apos) (e::es) [] jY) (mi ty r to t):=by
 ext i;refine wpAny_Call_method_late vb aaO yU rfl (jH ho hE I h ?_);rintro x H1 d G1 v s1 I1 m1 r1 j4 ⟨hy,q1⟩;obtain⟨h1,h2⟩:=ht pins s1 σ H1 G1 x d v I1.inv I1.ab r1 j4 hy;refine⟨T,id,pa,slot,hty,h1,h2,?_⟩;have hA:=ha jY E pins s1 σ H1 τ G1 _ hE I1 q1;rw[hs] at hA ⊢;refine nN (by show(false||(jb jY (@be)).any @n)=false;rw[Dl]<;>rfl) (Vr ?_);exact iM hA (by rintro us s2 ⟨vs,H2,ds,G2,oI,m2,r2,zS,q2⟩;exact iM (hm pins s2 σ H2 G2 x d vs ds v us Q oI m2.ab r1 (j4.mono (m2.kp I1.ab)) r2 zS q2) λ_ _ z=>z.trans (@b5))
theorem LK:Ki X "list.append" j7:=by
 intro pins s σ H G x d xs ds v us Q I ab rx rd QT Ga q;unfold j7 at q;split at q
 .rename_i l d';cases rd;obtain⟨w,rfl,su⟩:=Ga.one;split at q
  .rename_i zs hg;obtain⟨hz,q⟩:=q;ext t;exact iM (EZ pins s σ H _ _ v us @bw I rx QT ⟨l,vs,w,rfl,rfl,hv,by rw[rs.length,c5];exact hz,_,_,.putL ab hg hv (rs.append (.cons su .nil)),.fe,q⟩) @bE
  ext j
 ext j
theorem Mn(l)(xs)(n)(b)(ys)(n2)(dd)(sl)(YW:¬(!xs.isEmpty&&k6 (xs.size+ys.size))=true)(hx:xs.size<=ba)(hxy:xs.size+ys.size<=ba+1):
  Meets (Builtin.«list.extend» ⟨[@Y,.ref b],[]⟩) (λ_ R s=>@cA=some {cls:=@ad,dict:=none,data:=.seq xs n,slots:=#[]}/\@am=some {cls:=@ad,dict:=dd,data:=.seq ys n2,slots:=sl}/\R (.ok (.ret ic)) {s with heap:=s.heap.update l (kj λx=>x++ys),toks:=s.toks}) :=
 .of_wp λprog w A R s h=>by
  obtain⟨hp,g,d,tk,os⟩:=s;obtain⟨h1,h2,h3⟩:=h;have e1:=AutoSeq1.idx_int;have e2:=tw;have e3:=K6;have e4:=AutoSeq1.sub_tuple_list;have e5:=AutoSeq1.sub_list_tuple;have hz':(xs++ys).size<=ba+1:=by rw[Array.size_append];exact hxy
  wp_walk using (B3 h1 rfl (hz:=hx) (_hz':=hz')),bX h1,bX h2
  exact⟨_,rfl,h3⟩
theorem LJ:Ki X "list.extend" vS:=by
 intro pins s σ H G x d xs ds v us Q I ab rx rd QT Ga q;unfold vS at q;split at q
 .rename_i l y;cases rd;obtain⟨w,rfl,su⟩:=Ga.one;obtain⟨u,rfl,ru⟩:=QT.one;split at q
  .rename_i zs ys hg hg2;obtain⟨hz,q⟩:=q;ext t;obtain⟨b,ws,wj,rfl,O0,Ku,hb,_⟩:=tj I ab ru su hg2;cases rx;obtain⟨z,bQ,n,r,hl,e⟩:=I.acA hv;obtain⟨⟨cl,dd,dt,sl⟩,ho,L9,n2,hdt⟩:=hb;simp only at L9 hdt;subst L9 hdt;have h1:=O0.length;have h2:=Ku.length;have h3:=rs.length;have h4:=r.length;have h5:ba=16777216:=c5;have h6:SZ=16777216:=rfl;have hsz:bQ.toArray.size+wj.toArray.size<=ba:=by rw[aX,aX];lia
   have YW:¬ (!bQ.toArray.isEmpty&&k6 (bQ.toArray.size+wj.toArray.size))=true:=by
    rw[SW hsz,MY];exact fP
   refine KR F.slot_list_extend ⟨_,e,rfl⟩ F.entry_list_extend (F.args_list_extend_2 _ _) (Mn l bQ.toArray n b wj.toArray n2 dd sl YW (by rw[aX];lia) @c) ⟨e,ho,?_⟩;refine⟨.fe,_,.fe,_,I.acB (its':=bQ++wj) hv e @f (r.append O0) ?_,.putL ab hg hv (rs.append Ku),rfl,.fe,q⟩;rw[aA];lia
  ext j
 ext j
theorem PC (hu : X.A.units + 64<cLine):Ki X "list.index" sH := by
  intro pins s σ H G x d xs ds v us Q I ab rx rd QT Ga q;unfold sH at q;split at q
  . rename_i d'
    obtain⟨hy,zs,sn,ss,hi,s1,s2,q⟩ := q;obtain⟨w,rfl,su⟩ := Ga.one;obtain⟨u,rfl,ru⟩ := QT.one;have lists:∃l vs bQ,v=@Y/\Vals vs bQ/\bc X.K H vs zs/\s.heap.IsList l bQ.toArray/\vs.length<=ba := by
      cases rd with
      | dc hq rs=>
        cases hi;cases rx;obtain⟨bQ,rv,pl,hz⟩ := I.list hq.sq;exact⟨_,_,bQ,rfl,rv,rs,pl.isList,hz⟩
      | ref l=>
        unfold itemsOf at hi;dsimp only at hi;cases hg:G l with
        |none=> rw[hg] at hi;cases hi
        | some g=>
          rw[hg] at hi;cases g with
          | lst ds=>
            cases hi;cases rx;obtain⟨vs,hv,rs⟩ := ab.lst hg;obtain⟨bQ,rv,pl,hz⟩ := I.list (.of hv);exact⟨_,_,bQ,rfl,rv,rs,pl.isList,hz⟩
          |ins _ _=> cases hi
          |tR _=> cases hi
          |gz _=> cases hi
      |_=> exact bM hy
    obtain⟨l,vs,bQ,rfl,rv,rs,hl,hz⟩ := lists;obtain⟨as,ra⟩ := (iU I ab s1).1 w u su ru;obtain⟨bs,rb⟩ := (iU I ab s2).2 zs ss (.inl @a_) vs bQ rs rv;have d2 := Od (n := 7) s2;have n2:tJ ss=true := s2.nr;have Dh := yJ _ n2;have Jv:X.A.units + 1 + min (cG (nO ss)) (pd sn).depth<cLine := @d
    have RT:iY s.heap bQ.toArray.toList (nO ss) bs := by simpa using rb
    have mp := SeqAt.readsAll_map _ _ _ Dh RT;split at q
    . rename_i k hk
      obtain⟨yT,agg,hno⟩ := List.findIdx?_eq_some_iff_getElem.mp hk;have pdl:∀(zz:@e),(nO zz).length=zz.length := by
        intro zz;induction zz with
        |nil=> rfl
        |cons a r ih=> exact congrArg Nat.succ ih
      have hlen:bQ.length=ss.length := by
        have := congrArg dh mp;rw[au,pdl] at this;ext p
      have at_ : ∀ (m : Nat) (h1:m<bQ.toArray.size) (h2:m<ss.length),uc (ED s.heap bQ.toArray[m]) (pd sn)=i7 ss[m] sn := by
        intro m h1 h2;have e1:(bQ.toArray.toList.map (ED s.heap))[m]?=(nO ss)[m]? := by rw[mp]
        have pdg:∀(zz:@e) (m:Nat) (h:m<zz.length),(nO zz)[m]?=some (pd zz[m]) := by
          intro zz;induction zz with
          |nil=> intro m h;simp at h
          | cons a r ih=> intro m h;cases m with
            |zero=> rfl
            |succ m=> exact ih m (xN h)
        rw[pdg ss m h2] at e1;have h1':m<bQ.length := @cx
        have e2:ED s.heap bQ.toArray[m]=pd ss[m] := by
          simpa[h1'] using e1
        rw [e2];have fF : nr ss[m]=true := by
          have:∀(zz:@e) (m:Nat) (h:m<zz.length),tJ zz=true -> nr zz[m]=true := by
            intro zz;induction zz with
            |nil=> intro m h;simp at h
            | cons a r ih => intro m h hn; have YV:nr a=true/\tJ r=true := (lz).mp hn
                             cases m with
                             |zero=> exact YV.1
                             |succ m=> exact ih m (@b2) YV.2
          exact this ss m h2 n2
        exact xn _ _ fF s1.nr
      have sz:ba=16777216 := c5;have hvl:vs.length=bQ.length := rv.length;obtain⟨⟨cls,dd,data,sl⟩,ho,hc,n,hd⟩ := id hl;simp only at hc hd;subst hc hd;have Ky:k<bQ.toArray.size := by rw[aX];lia
      refine KR KU ⟨_,ho,rfl⟩ PySem.F.entry_list_index (PySem.F.args_list_index_2 _ _)
        (SeqAt.list_indexAt l bQ.toArray n dd sl u (λy=> uc (ED s.heap y) (pd sn)) k Ky @c ?_ ?_) ⟨ho,pP RT ra Dh (lO _ s1.nr) Jv,?_⟩
      . rw[at_ k Ky yT];exact agg
      . intro m hm hmk
        have VE:m<ss.length := @d
        rw[at_ m hm VE];simpa using hno m hmk
      . exact⟨.int k,H,.int k,G,@au,@ai,@A,@S,q⟩
    . ext k
  . ext k
theorem WX:eU X (.Dict [] [] pos) kC:=by
 ext i;exact iM (Ss pins s σ H @bw I.inv λp hp=>⟨_,_,.new I.ab hp (.dk bV .nil),.ref _,h p (I.ab.free hp)⟩) @bE
end
noncomputable def iq(env:Env):List (Str×wy)->List (Str×Addr)->List (Str×Addr)
 |[],acc=>acc
 |(n,k)::r,acc=>if k=.free then iq env r ((n,(env.cells.lookup n).getD 0)::acc) else iq env r acc
theorem xr(env)(f)(hf:∀n k c,f (n,k) c=if(k == md)=true then(cellOf env n >>= λa=>pure (wc ((n,a)::c))) else pure (wc c)):
  ∀(ns:List (Str×wy)) (acc:List (Str×Addr)),(∀x∈ns,x.2=.free->∃c,env.cells.lookup x.1=some c)->forIn ns acc f=(pure (iq env ns acc):Sem (List (Str×Addr)))
 |[],acc,_=>rfl
 | (n,k)::r,acc,h=>by
  rw[List.forIn_cons,hf];have hr:∀x∈r,x.2=.free->∃c,env.cells.lookup x.1=some c:=λx hx=>h x (aI _ hx);by_cases hk:k=.free
  .subst hk;obtain⟨c,hc⟩:=h (n,.free) br rfl;have ec:cellOf env n=pure c:=by unfold cellOf;rw[hc]
   rw[if_pos @t,ec,pure_bind,pure_bind];show forIn r ((n,c)::acc) f=_;rw[xr env f hf r _ hr];show _=(pure (iq env ((n,.free)::r) acc):Sem (List (Str×Addr)));rw[iq,if_pos rfl,hc];rfl
  .rw[if_neg (by simpa using hk),pure_bind];show forIn r acc f=_;rw[xr env f hf r _ hr];show _=(pure (iq env ((n,k)::r) acc):Sem (List (Str×Addr)));rw[iq,if_neg hk]
theorem Ew(h:∀x∈scope.names,x.2=.free->∃c,env.cells.lookup x.1=some c):closureFor scope env=pure (iq env scope.names []):=by
 unfold closureFor;dsimp only;rw[xr env _ (λn k c=>?_) scope.names [] h]
 .rfl
 .by_cases hk:(k == md)=true
  .simp only[hk,if_true]
  .simp only[hk,if_false,aj]
theorem xV:∀{ns:List (Str×wy)} {acc:List (Str×Addr)},(∀y∈ns,y.2=.free->∃c,env.cells.lookup y.1=some c)->(∀y c,acc.lookup y=some c->env.cells.lookup y=some c)->(iq env ns acc).lookup x=some c->env.cells.lookup x=some c
 |[],_,_,ha,e=>ha _ _ e
 | (n,k)::r,acc,h,ha,e=>by
  have hr:∀y∈r,y.2=.free->∃c,env.cells.lookup y.1=some c:=λy hy=>h y (aI _ hy);unfold iq at e;by_cases hk:k=.free
  .rw[if_pos hk] at e;refine xV hr (λy c' q=>?_) e;rw[Hx] at q;by_cases hy:(y == n)=true
   .rw[hy] at q;have e1:y=n:=eq_of_beq hy;subst e1;obtain⟨c0,hc0⟩:=h (y,k) br hk;rw[hc0] at q ⊢;exact q
   .have YQ:(y == n)=false:=by simpa using hy
    rw[YQ] at q;exact ha y c' q
  .rw[if_neg hk] at e;exact xV hr ha e
theorem sf:∀{ns:List (Str×wy)} {acc:List (Str×Addr)},((x,md)∈ns\/∃c,acc.lookup x=some c)->∃c,(iq env ns acc).lookup x=some c
 |[],_,h=>by rcases h with h |h;exact absurd h @f;exact h
 | (n,k)::r,acc,h=>by
  unfold iq;have grow:∀a,(∃c,acc.lookup x=some c)->∃c,((n,a)::acc).lookup x=some c:=λa NT=>by
   obtain⟨c,hc⟩:=NT;rw[Hx];by_cases hy:(x == n)=true
   .rw[hy];exact⟨_,rfl⟩
   .have YQ:(x == n)=false:=by simpa using hy
    rw[YQ];exact⟨c,hc⟩
  by_cases hk:k=.free
  .rw[if_pos hk];refine sf ?_;rcases h with h |h
   .rcases List.mem_cons.mp h with e |h
    .injection e with e1 e2
     subst e1;exact .inr ⟨(env.cells.lookup x).getD 0,by rw[Hx];simp⟩
    .exact .inl h
   .exact .inr (grow _ h)
  .rw[if_neg hk];refine sf ?_;rcases h with h |h
   .rcases List.mem_cons.mp h with e |h
    .injection e with e1 e2
     exact absurd e2.symm hk
    .exact .inl h
   .exact .inr h
abbrev dG(X:Cx)(N:@v)(scope:Scope)(C:Addr)(s:aB)(H:Hp)(fp:@aG):Cx :=
 {X with env:=compEnvC scope (iq X.env scope.names []) C X.env,N:=N,jM:=s,QB:=H,outer:=X.stack,stack:=X.stack,ex:=fp,fn:=λ_=>false,pn:=[],xe:=@z}
theorem yh(h:(KN scope env).names.lookup x=@aY\/(KN scope env).names.lookup x=some .free)(tO:∀y∈scope.names,y.2≠.cell):(x,md)∈scope.names:=by
 have go:∀k,(KN scope env).names.lookup x=some k->k=.cell\/k=.free->(x,md)∈scope.names:=by
  intro k hk hkk;have hm:=jF hk;unfold KN at hm;dsimp only at hm;obtain⟨⟨n,j⟩,hj,e⟩:=List.mem_map.mp hm;dsimp only at e;by_cases hc:(j == md&&env.scope.kind == .function&&env.kindOf n == @aY)=true
  .rw[if_pos hc] at e;rw[aL,aL] at hc;injection e with e1 e2
   have ej:j=.free:=eq_of_beq hc.1.1;rw[ej,e1] at hj;exact hj
  .rw[if_neg hc] at e;injection e with e1 e2
   subst e1;rcases hkk with r |r
   .exact absurd (e2.trans r) (tO _ hj)
   .rw[e2.trans r] at hj;exact hj
 rcases h with h |h
 .exact go _ h (@ac)
 .exact go _ h (.inr rfl)
section
variable {X:Cx} {N:@v} {scope:Scope} {fp:@aG} {pins:@s} {σ:L2.St} {H:Hp} {s:aB} {C:Addr}
theorem abb(I:@k)(tO:∀y∈scope.names,y.2≠.cell)(Fe:scope.kind=.function)(tN:∀y∈scope.names,y.2=.free->X.env.kindOf y.1=@aY)(hC:s.heap.objs.size<=C)(hfp:∀b∈fp,pK X pins H b/\b<s.heap.objs.size):(dG X N scope C s H fp).Ok:=by
 have L9:∀y∈scope.names,y.2=.free->∃c,X.env.cells.lookup y.1=some c:=λy hy hf=>I.ok.has _ (.inl (tN y hy hf));have Zw:∀x c,(iq X.env scope.names []).lookup x=some c->@bO:=λx c e=>xV L9 (λy c q=>by simp at q) e;refine⟨I.ok.mod,Fe,I.ok.glob,I.ok.blt,hC,λx y c h1 h2=>I.ok.inj x y c (Zw x c h1) (Zw y c h2),λx hx=>?_,λx c h=>absurd h @f,I.ok.hd,I.ok.frames,@ac,λb hb=>?_,I.bs,aU I.ok.UW I.sz,λb o e hb=>?_,λb hb=>?_,I.stack,I.F3⟩
 .exact sf (.inl (yh hx tO))
 .obtain⟨⟨f0,f1,f2,f3,f4,f5⟩,yT⟩:=hfp b hb;exact⟨bu (bC yT hC),λx c e=>f4 x c (Zw x c e)⟩
 .obtain⟨⟨f0,f1,f2,f3,f4,f5⟩,yT⟩:=hfp b hb;rcases f3 with f3 |f3
  .exact I.ok.LF b o e f3
  .exact absurd (bC (aQ e) (aU I.ok.UW f3)) (jK _)
 .obtain⟨⟨f0,f1,f2,f3,f4,f5⟩,yT⟩:=hfp b hb;intro z;rcases List.mem_cons.mp (I.Lf b z) with e |e
  .exact f1 e
  .exact f2 e
theorem XZ{fr:@aT}(I:@k)(ok:(dG X N scope s.heap.objs.size s H fp).Ok)(aaP:∀y∈scope.names,y.2≠.cell)(tN:∀y∈scope.names,y.2=.free->X.env.kindOf y.1=@aY)(hN:N.length=m+fr.length)
  (hfr:∀j i x,fr[j]?=some i->N[m+j]?=@aa->X.N[i]?=@aa/\@cC=@aY/\(KN scope X.env).names.lookup x=@aY) (P5:∃mm,ub.Ns s.heap.objs.size mm) (hk:∀b o,@am=@i->ub.get? b=@i):
  Inv (dG X N scope s.heap.objs.size s H fp) [] (aO m none++fr.map λi=>(σ[i]?).getD none) H {s with heap:=ub,toks:=tk}:=by
 have L9:∀y∈scope.names,y.2=.free->∃c,X.env.cells.lookup y.1=some c:=λy hy hf=>I.ok.has _ (.inl (tN y hy hf));have Zw:∀x c,(iq X.env scope.names []).lookup x=some c->@bO:=λx c e=>xV L9 (λy c q=>by simp at q) e;obtain⟨mm,P5⟩:=P5;refine⟨ok,rfl,I.bare,Un.kept hk,⟨mm,P5,λi x v h1 h2 h3=>?_⟩,λx c e=>?_,@cf,λx c e=>?_,λp hp=>absurd hp @f,I.cx.kept hk,?_⟩
 ·by_cases hi:i<m
  .rw[cF (@cI),ng] at h2;split at h2<;>cases h2
  .obtain⟨j,rfl⟩:∃j,i=m+j:=⟨i-m,@d⟩;rw[cg @f,gM,nv,bw] at h2;cases hj:fr[j]? with
   |none=>rw[hj] at h2;cases h2
   | some k=>
    rw[hj] at h2;have Ul:(σ[k]?).getD none=@W:=@bH
    have hk':σ[k]?=some (@W):=by
     cases q:σ[k]? with
     |none=>rw[q] at Ul;cases Ul
     |some o=>rw[q] at Ul;simp at Ul;rw[Ul]
    obtain⟨e1,e2,e3⟩:=hfr j k x hj h1;obtain⟨m0,hn0,hl0⟩:=I.loc;obtain⟨u,r,l⟩:=hl0 k x v e1 hk' (.inr (.inl e2));refine⟨u,r,.inr ⟨.inl e3,?_⟩⟩;rcases l with ⟨l1,_⟩ |⟨_,c,hc,tO⟩
    .have:@cC=@a1:=l1;rw[e2] at this;ext f
    .have hx:(x,md)∈scope.names:=yh (.inl e3) aaP;obtain⟨c',QW⟩:=sf (env:=X.env) (x:=x) (ns:=scope.names) (acc:=[]) (.inl hx);have:=Zw x c' QW;rw[hc] at this;have ec:c=c':=aZ this;subst ec;obtain⟨oc,hoc,hd⟩:=tO;exact⟨c,QW,oc,hk _ _ hoc,hd⟩
 .obtain⟨v,oc,hoc,hd⟩:=I.cell x c (Zw x c e);exact⟨v,oc,hk _ _ hoc,hd⟩
 .exact I.jX x c (Zw x c e)
 .rw[aA,gM,au];exact hN.symm
theorem Ha{prog:bz}{w:World}{A:cZ}{R:Result->@af}{s:aB}{elt target iter:Expr}{ifs:@az}{sc:Scope}{pos:Pos}{it acc:Value}{env:Env}(J:Nat->@af)
  (turn:∀n s,J n s->wpAny @P A (AD it) (λr fL=>match r with
   |none=>R (.ok .next) fL
   | some v=>wpAny @P A (B7 target it v) (λ_ abW=>wpAny @P A (AE target env v) (λ_ jL=>
     wpAny @P A (forIn ifs true λc r=>if r=true then do let ok ← isTrue c env (eval c env);pure (wc ok) else pure (wc r)) (λk F1=>
      if k=true then wpAny @P A (eval elt env) (λx OV=>wpAny @P A (call (.builtin "list.append") [acc,x]) (λ_ Rw=>∃m,m<n/\J m Rw) @q OV) @q F1
      else ∃m,m<n/\J m F1) @q jL) @q abW) @q fL) @q s) (n:Nat) (h:J n s):
  Cb @P A (.compLoop (.ListComp elt [⟨target,iter,ifs,0⟩] sc pos) 0 it acc env) R s:=by
 have no:∀{α:Type} {t:Sem α} {Q:α->@af} {E:@I} {s:aB},wpAny @P A t Q @q s->wpAny @P A t Q E s:=λh=>lW h (λ_ _ q=>q) λ_ _ z=>z.elim;refine codeAny_loop rfl J (λn s hJ=>?_) n h;show wpAny _ A ((compTurn (.ListComp elt [⟨target,iter,ifs,0⟩] sc pos) 0 it acc env).onRaise (λx=>do noteFrame x env;theTreesLotGoes x)) _ _ s;refine wpAny_noted ?_;rw[compTurn_list];refine ah (tV (ah (iM (no (turn n s hJ)) λr fL ub=>?_)));cases r with
 |none=>exact aE ub
 |some v=>
  refine ah (iM (no ub) λ_ jL LZ=>ah (iM (no LZ) λ_ F1 afL=>ah (iM (no afL) λk OV acP=>?_)));cases k with
  |false=>exact aE ⟨rfl,acP⟩
  |true=>exact ah (ah (iM (no acP) λx Rw afK=>ah (iM (no afK) λ_ ajg afJ=>aE (aE ⟨rfl,afJ⟩))))
def CompEnd(X:Cx)(pins:@s)(σ:L2.St)(H:Hp)(G:Gp)(Q:DK)(C Dd:Addr)(s':aB):Prop :=
 ∃m H' G',@ce/\s'.heap.Ns C m/\pK X pins H' C/\@bG/\Q (.ref Dd) G'
inductive Yc (Xc:Cx):@az->Option Bc->Prop
 |none:Yc Xc [] none
 |some {c:Expr} {t:Bc}:HM Xc c t->Yc Xc [c] (some t)
theorem Fv{τ:jx}{G G2:Gp}{H2:Hp}{s2:aB}{tg elt iter:Expr}{ifs:@az}{pos:Pos}{m:Nat}{fr:@aT}{E:mK}{g:BB}{c:Option Bc}{te:gC}{J:It}{tn:Nat->Heap->Prop}{it:Addr}{ds:@e}{ok:@B}{Q:DK}{Rr:Value->Addr->Result->@af}{E0:@I}
  (hc:@bv) (tO:∀y∈scope.names,y.2≠.cell) (Fe:scope.kind=.function) (tN:∀y∈scope.names,y.2=.free->X.env.kindOf y.1=@aY) (hN:N.length=m+fr.length)
  (hfr:∀j i x,fr[j]?=some i->N[m+j]?=@aa->X.N[i]?=@aa/\@cC=@aY/\(KN scope X.env).names.lookup x=@aY)
  (hg:∀C s H fp,Bf @bT tg g) (hi:∀C s H fp,Yc @bT ifs c) (he:∀C s H fp,eU @bT elt te)
  (I:I2 X pins σ H2 τ G2 s2) (m2:Mv X.K H G H2 G2) (T:Turn X.prog X.w X.K tg J fp it tn) (Vw:tn 0 s2.heap) (f2:∀b∈fp,pK X pins H2 b) (wk:Ze X.K J H2 ds ok) (hz:ds.length<=SZ)
  (hE0:∀ex G,¬ E ex G) (q:kD g c te ok ds E (DO m fr τ) G2 [] λxs G3=>iQ G3 @a9 Q)
  (fin:∀C s',CompEnd X pins σ H G Q C s2.heap.objs.size s'->Rr (@cW) C (.ok .next) s'):
  wpAny @l X.A (newList []) (λacc F1=>wpAny @l X.A (newFunctionEnv scope X.env.globals (iq X.env scope.names []) [] X.env.qual none .none (some X.env)) (λadK OV=>
   Cb @l X.A (.compStart @ci 0 @aL acc {adK with scope:=KN scope X.env}) (Rr acc adK.locals) OV) E0 F1) E0 s2:=by
 have sz:ba=16777216:=c5;have Ah:H2 s2.heap.objs.size=none:=I.inv.cx.fresh @J;have aaX:G2 s2.heap.objs.size=none:=I.ab.free Ah;refine dF (wpAny_newFunctionEnv tO (by intro y hy;simp at hy) (λub T8 T1=>?_) Fe);dsimp only at T8 T1 ⊢;have I3:Inv X pins σ (upd H2 s2.heap.objs.size (.lst [])) {s2 with heap:=s2.heap.push {cls:=@ad,data:=.seq ([]:@C).toArray},toks:=s2.toks}:=I.inv.afx (ys:=[]) .nil (cI _);generalize hs3:({s2 with heap:=s2.heap.push {cls:=@ad,data:=.seq ([]:@C).toArray},toks:=s2.toks}:aB)=s3 at I3;generalize hH3:upd H2 s2.heap.objs.size (.lst [])=H3 at I3;have eH3:∀b,b≠s2.heap.objs.size->H3 b=H2 b:=λb hb=>by rw[<-hH3,bH hb]
 have Jy:s3.heap=s2.heap.push {cls:=@ad,data:=.seq ([]:@C).toArray}:=by rw[<-hs3]
 have ab2:s3.heap.objs.size=s2.heap.objs.size+1:=by rw[Jy,lV]
 have Uc:∀b∈fp,b<s2.heap.objs.size:=λb hb=>by
  obtain⟨o,e,_⟩:=T.obj _ _ Vw b hb;exact aQ e
 have ac9:∀b∈fp,pK X pins H3 b/\b<s3.heap.objs.size:=λb hb=>by
  have hb2:=Uc b hb;obtain⟨f0,f1⟩:=f2 b hb;exact⟨⟨by rw[eH3 b (bu hb2)];exact f0,f1⟩,bC hb2 (by rw[ab2];exact Cf _)⟩
 have okc:(@b3).Ok:=abb I3 tO Fe tN @J ac9;have YX:∀b o,s3.heap.get? b=@i->ub.get? b=@i:=λb o e=>by
  have hb:b<s3.heap.objs.size:=aQ e;refine T1.extBut b o ?_ (aJ _ ?_)
  .rw[<-Jy];exact bu hb
  .rw[<-Jy];exact e
 have af4:∃mm,ub.Ns s3.heap.objs.size mm:=⟨_,by rw[Jy];exact T8⟩;have I4:=XZ (tk:=s3.toks+([]:List (Str×Value)).length) I3 okc tO tN hN hfr af4 YX;have afF:Kp H2 H3:=by rw[<-hH3];exact .new Ah
 have U1:lh X.K H3 G2:=by rw[<-hH3];exact(Mv.Kz I.ab Ah).ab
 have mv3:Mv X.K H2 G2 H3 G2:=by rw[<-hH3];exact .Kz I.ab Ah
 have st3:QG X.K H3 (aO m none++fr.map λi=>(σ[i]?).getD none) (DO m fr τ):=by
  refine⟨by unfold DO;rw[aA,aA,au,au,gM,gM],λi d h2=>?_⟩;unfold DO at h2;by_cases hi:i<m
  .rw[cF (@cI),ng] at h2;split at h2<;>cases h2
  .obtain⟨j,rfl⟩:∃j,i=m+j:=⟨i-m,@d⟩;rw[cg @f,gM,nv,bw] at h2;rw[cg @f,gM,nv,bw];cases hj:fr[j]? with
   |none=>rw[hj] at h2;cases h2
   | some k=>
    rw[hj] at h2;have Ul:(τ[k]?).getD none=@U:=@bH
    have hk':τ[k]?=some (@U):=by
     cases qq:τ[k]? with
     |none=>rw[qq] at Ul;cases Ul
     |some o=>rw[qq] at Ul;simp at Ul;rw[Ul]
    obtain⟨v,e1,e2⟩:=I.st.at' k d hk';exact⟨v,by simp[e1],e2.mono afF⟩
 have hD3:H3 s2.heap.objs.size=some (.lst []):=by rw[<-hH3,bV]
 have abZ:tn 0 ub:=T.keep _ _ _ Vw λb hb o e=>YX b o (by rw[Jy];exact aJ _ e);have RA:∀{Hc:Hp},(∀b∈fp,Hc b=none)->∀b∈fp,pK (@b3) [] Hc b:=λhn b hb=>
  ⟨hn b hb,(okc.exf b hb).1,okc.Qh b hb,.inl hb,λx c e=>(okc.exf b hb).2 x c e,λp hp=>absurd hp @f⟩
 have neD:∀b∈fp,b≠s2.heap.objs.size:=λb hb=>bu (Uc b hb);have loop:Cb @l X.A (.compLoop @ci 0 @aL (@cW) (@b3).env) (Rr (@cW) s3.heap.objs.size)
   {s3 with heap:=ub,toks:=s3.toks+([]:List (Str×Value)).length}:=by
  refine Ha (λn s'=>∃i Vt Hc Rc Gc xx zi,I2 (@b3) [] Vt Hc Rc Gc s'/\Gc s2.heap.objs.size=none/\Hc s2.heap.objs.size=some (.lst xx)/\bc X.K Hc xx zi/\zi.length<=i/\Mv X.K H2 G2 Hc Gc/\tn i s'.heap/\(∀b∈fp,Hc b=none) /\
   n=ds.length-i/\i<=ds.length/\kD g c te ok (ds.drop i) E Rc Gc zi λxs G3=>iQ G3 @a9 Q) ?_ ds.length
   ⟨0,_,H3,_,G2,[],[],⟨I4,st3,U1⟩,aaX,hD3,.nil,aH _,mv3,abZ,λb hb=>by rw[eH3 b (neD b hb)];exact(f2 b hb).1,rfl,cI _,q⟩
  rintro n s4 ⟨i,Vt,Hc,Rc,Gc,xx,zi,Ic,gD,hD,rA,hA,mc,stc,frc,rfl,hle,wq⟩;have kpc:Kp H2 Hc:=mc.kp I.ab;by_cases yT:i<ds.length
  .rw [jd yT] at wq;obtain⟨okG,wq⟩:=wq;obtain⟨go,yl⟩:=(wk i Hc Gc kpc Ic.ab okG).1 ds[i] (by simp[yT]);refine iM (T.item (@b3) rfl rfl rfl hc i [] s4 Vt Hc @q Ic.inv (RA frc) stc go) ?_;rintro r s5 ⟨u,hr,h5⟩;subst hr;refine iM h5 ?_;rintro _ s6 ⟨x,H6,I6,r6,y6,st6,fr6⟩;obtain⟨rd6,m6⟩:=yl x H6 y6;have I6':=I6.pinned (RA fr6) (T.obj _ _ st6);have J6:I2 (@b3) ([]++u3 fp s6.heap) Vt H6 Rc Gc s6:=⟨I6',Ic.st.mono (m6.kp Ic.ab),m6.ab⟩;have back:∀{σ9:L2.St} {H9:Hp} {τ9:jx} {G9:Gp} {s9:aB} {aV:@y} {aD:@e},I2 (@b3) ([]++u3 fp s6.heap) σ9 H9 τ9 G9 s9->Mv X.K H2 G2 H9 G9->G9 s2.heap.objs.size=none->H9 s2.heap.objs.size=some (.lst aV)->bc X.K H9 aV aD->aD.length<=i+1 ->
     (kD g c te ok (ds.drop (i+1)) E τ9 G9 aD λxs G3=>iQ G3 @a9 Q)->∃mm,mm<ds.length-i/\∃i Vt Hc Rc Gc xx zi,I2 (@b3) [] Vt Hc Rc Gc s9/\Gc s2.heap.objs.size=none/\Hc s2.heap.objs.size=some (.lst xx)/\bc X.K Hc xx zi/\zi.length<=i /\
      Mv X.K H2 G2 Hc Gc/\tn i s9.heap/\(∀b∈fp,Hc b=none)/\mm=ds.length-i/\i<=ds.length/\kD g c te ok (ds.drop i) E Rc Gc zi λxs G3=>iQ G3 @a9 Q:=λ{σ9 H9 τ9 G9 s9 aV aD} I9 m9 g9 h9 r9 l9 n9=>by
    refine⟨ds.length-(i+1),@d,i+1,σ9,H9,τ9,G9,aV,aD,⟨I9.inv.xQ,I9.st,I9.ab⟩,g9,h9,r9,l9,m9,T.keep _ _ _ st6 λb hb o e=>(I9.inv.pin (b,o) (cH _ (cH _ (sG hb e)))).1,λb hb=>?_,rfl,yT,n9⟩;obtain⟨o,e,d⟩:=T.obj _ _ st6 b hb;exact(I9.inv.pin (b,o) (cH _ (cH _ (sG hb e)))).2.1
   have mc6:=mc.trans m6;have hD6:=m6.keep _ _ hD gD;refine iM (hg _ _ _ _ E _ s6 Vt H6 Rc Gc x ds[i] u _ (Lk.none hE0) J6 r6 rd6 wq) ?_;rintro _ s7 ⟨QS,H7,QR,G7,I7,m7,q7⟩;have hD7:=m7.keep _ _ hD6.1 gD;have mc7:=mc6.trans m7;have rA7:=rA.mono ((m6.trans m7).kp Ic.ab);have adE:∀(H8:Hp) (G8:Gp) (s8:aB),I2 (@b3) ([]++u3 fp s6.heap) QS H8 QR G8 s8->Mv X.K H7 G7 H8 G8->(te E QR G8 λy G9=>kD g c te ok (ds.drop (i+1)) E QR G9 (zi++[y]) λxs G3=>iQ G3 @a9 Q) ->
     wpAny @l X.A (eval elt (@b3).env) (λy OV=>wpAny @l X.A (call (.builtin "list.append") [@cW,y]) (λ_ Rw=>∃mm,mm<ds.length-i/\∃i Vt Hc Rc Gc xx zi,I2 (@b3) [] Vt Hc Rc Gc Rw/\Gc s2.heap.objs.size=none/\Hc s2.heap.objs.size=some (.lst xx)/\bc X.K Hc xx zi/\zi.length<=i /\
      Mv X.K H2 G2 Hc Gc/\tn i Rw.heap/\(∀b∈fp,Hc b=none)/\mm=ds.length-i/\i<=ds.length/\kD g c te ok (ds.drop i) E Rc Gc zi λxs G3=>iQ G3 @a9 Q) @q OV) @q s8:=λH8 G8 s8 I8 m8 q8=>by
    refine jH (he _ _ _ _) (Lk.none hE0) I8 q8 λv H9 d9 G9 u9 s9 I9 m9 r9 rd9 q9=>?_;have m79:=m8.trans m9;have hD9:=m79.keep _ _ hD7.1 hD7.2;have rA9:=rA7.mono (m79.kp I7.ab);have mc9:=mc7.trans m79;refine iM (EZ (X:=@b3) _ s9 QS H9 (@cW) [v] _ [u9] (λ_ H'=>H'=upd H9 s2.heap.objs.size (.lst (xx++[v]))) I9.inv rfl (.cons r9 .nil)
     ⟨_,xx,v,rfl,rfl,hD9.1,by rw[rA.length,sz];have:SZ=16777216:=rfl;lia,rfl⟩) ?_
    rintro _ s10 ⟨v10,H10,I10,_,e10⟩;subst e10;have kpA:Kp H9 (upd H9 s2.heap.objs.size (.lst (xx++[v]))):=.putL hD9.1;have abA:lh X.K (upd H9 s2.heap.objs.size (.lst (xx++[v]))) G9:=λa g' e=>by
     have ne:a≠s2.heap.objs.size:=by ext c;rw[hD9.2] at e;cases e
     exact(I9.ab a g' e).mono kpA (bH ne)
    have mA:Mv X.K H2 G2 (upd H9 s2.heap.objs.size (.lst (xx++[v]))) G9:=⟨λa o e n=>by
      have ne:a≠s2.heap.objs.size:=eY e Ah;obtain⟨e1,e2⟩:=mc9.keep a o e n;exact⟨by rw[bH ne];exact e1,e2⟩,λa n=>by
      by_cases ha:a=s2.heap.objs.size
      .rw[ha,bV];simp
      .rw[bH ha];exact mc9.jN a n,abA⟩
    exact back ⟨I10,I9.st.mono kpA,abA⟩ mA hD9.2 bV ((rA9.append (.cons rd9 .nil)).mono kpA) (by rw[aA,cP];lia) q9
   cases hi s3.heap.objs.size s3 H3 fp with
   |none=>
    refine wpAny_tests_nil ?_;rw[if_pos rfl];exact adE H7 G7 s7 I7 (.refl I7.ab) q7
   | some adk=>
    refine wpAny_tests_one (OT adk (Lk.none hE0) I7 q7 λk H8 G8 s8 I8 m8 q8=>?_);cases k with
    |true=>
     rw[if_pos rfl] at q8 ⊢;exact adE H8 G8 s8 I8 m8 q8
    |false=>
     rw[if_neg fP] at q8 ⊢;have hD8:=m8.keep _ _ hD7.1 hD7.2;exact back I8 (mc7.trans m8) hD8.2 hD8.1 (rA7.mono (m8.kp I7.ab)) @c q8
  .have hn:ds.length<=i:=@d
   rw[nW hn] at wq;obtain⟨okG,qn⟩:=wq;have stop:=(wk i Hc Gc kpc Ic.ab okG).2 hn;refine iM (T.done (@b3) rfl rfl rfl hc i [] s4 Vt Hc @q Ic.inv (RA frc) stc stop) ?_;rintro r s5 ⟨hr,I5⟩;subst hr;refine fin s3.heap.objs.size s5 ?_;obtain⟨mm,af5,_⟩:=I5.loc;have hC5:Hc s3.heap.objs.size=none:=I5.free;have I6:Inv X pins σ Hc s5:=by
    obtain⟨h5,g5,d5,t5,o5⟩:=s5;have eo:o5=s3.os:=I5.os;subst eo;exact I3.call (h':=h5) (g':=g5) (d':=d5) (t':=t5) (ch:=fp) I5.base I5.cx I5.bare λb hb=>by
     obtain⟨⟨f0,f1,f2',f3,f4,f5⟩,hl⟩:=ac9 b hb;exact⟨f3,f1,f4,f5⟩
   have mvF:Mv X.K H2 G2 Hc (dw Gc s2.heap.objs.size (.lst zi)):=⟨λa o e n=>by
     have ne:a≠s2.heap.objs.size:=eY e Ah;obtain⟨e1,e2⟩:=mc.keep a o e n;exact⟨e1,by rw[cu ne];exact e2⟩,mc.jN,λa g' e=>by
     by_cases ha:a=s2.heap.objs.size
     .subst ha;rw[ax] at e;cases e;exact⟨xx,hD,rA⟩
     .rw[cu ha] at e;exact Ic.ab a g' e⟩
   exact⟨mm,Hc,_,I6,af5,I3.Ds @J hC5,m2.trans mvF,qn _ gD⟩
 have all:Cb @l X.A (.compStart @ci 0 @aL (@cW) (@b3).env) (Rr (@cW) s3.heap.objs.size)
   {s3 with heap:=ub,toks:=s3.toks+([]:List (Str×Value)).length}:=codeAny_compStart_list loop (T.self _ 0 _ _ _ abZ loop)
 subst hs3;exact all
end
section
variable {X:Cx} {N:@v} {scope:Scope} {tg elt iter:Expr} {ifs:@az} {pos:Pos} {m:Nat} {fr:@aT} {wi:KA} {g:BB} {c:Option Bc} {te:gC}
structure D6(X:Cx)(N:@v)(scope:Scope)(m:Nat)(fr:@aT):Prop where
 cell:∀y∈scope.names,y.2≠.cell
 kind:scope.kind=.function
 names:∀y∈scope.names,y.2=.local->scope.names.lookup y.1=@a1
 free:∀y∈scope.names,y.2=.free->X.env.kindOf y.1=@aY
 len:N.length=m+fr.length
 at':∀j i x,fr[j]?=some i->N[m+j]?=@aa->X.N[i]?=@aa/\@cC=@aY/\(KN scope X.env).names.lookup x=@aY
theorem D6.closed(k:D6 X N scope m fr)(I:@k):closureFor scope X.env=pure (iq X.env scope.names []) :=
 Ew λy hy hf=>I.ok.has _ (.inl (k.free y hy hf))
theorem Pu(hc:@bv)(k:D6 X N scope m fr)(hi:Be X tg iter wi)(hg:∀C s H fp,Bf @bT tg g)(Ua:∀C s H fp,Yc @bT ifs c)(he:∀C s H fp,eU @bT elt te)
  (hs:autoParam (∀x,iO iter X.env x=pure x) Ai._auto_1):eU X @ci (e7 m fr wi g c te):=by
 ext i;rw[eval_ListComp];refine wpAny_comprehension_free (use:=none) rfl hs (k.closed I.inv) k.kind k.names (iM (hi E pins s σ H τ G _ hE I h) λxv fL ub=>iM ub λYN jL LZ=>?_);obtain⟨it,fp,tn,J,H2,G2,ds,ok,e,oI,m2,T,Vw,f2,wk,hz,q⟩:=LZ;subst e;refine Fv (Rr:=λacc C=>compPost @l X.A X.xe none @bo acc C) hc k.cell k.kind k.free k.len k.at' hg Ua he (I.mv oI m2) m2 T Vw f2 wk hz (λ_ _ z=>z) q ?_;rintro C s' ⟨mm,H',G',I',P5,fpC,mv,q'⟩;refine⟨mm,P5,λh' Ea=>?_⟩;obtain⟨f0,f1,_,f3,f4,f5⟩:=fpC;exact⟨.ref _,H',.ref _,G',I'.turned (t':=s'.toks) (λb o hb e=>Ea.extBut b o hb e) f0 f1 f3 f4 f5,mv,rfl,.ref _,q'⟩
theorem IG(hN:X.N.Nodup)(hyi:X.N[i]?=some y)(hy:X.env.scope.names.lookup y=@a1)(hc:@bv)(k:D6 X N scope m fr)(hi:Be X tg iter wi)(hg:∀C s H fp,Bf @bT tg g)
  (Ua:∀C s H fp,Yc @bT ifs c) (he:∀C s H fp,eU @bT elt te) (hsw:autoParam (ui @ci (some (@aM)) Il.line X.env=pure true) Ar._auto_1)
  (hs:autoParam (∀x,iO iter X.env x=pure x) Ai._auto_1):xA X (.Assign [@aM] @ci Il) (bh (e7 m fr wi g c te) (aF i)):=by
 ext s;rw[exec_Assign_Name_used _ _ _ _ hsw];refine ah (tV (ah ?_));show wpAny _ X.A (do let _ ← comprehension (.ListComp elt [⟨tg,iter,ifs,0⟩] scope pos) scope X.env _ (newList []) false (eval iter X.env) (some (AE (.Name y py) X.env))) _ _ s;refine ah (iM (wpAny_comprehension_free (use:=some (AE (@aM) X.env)) (Q:=λ_ s'=>X7 X pins H G D .next s') rfl hs (k.closed I.inv) k.kind k.names (iM (hi E pins s σ H τ G _ hE I h) λxv fL ub=>iM ub λYN jL LZ=>?_)) λ_ s' hq=>aE (aE hq));obtain⟨it,fp,tn,J,H2,G2,ds,ok,e,oI,m2,T,Vw,f2,wk,hz,q⟩:=LZ;subst e;refine Fv (Rr:=λacc C=>compPost @l X.A X.xe (some (AE (@aM) X.env)) (λ_ s'=>X7 X pins H G D .next s') acc C) hc k.cell k.kind k.free k.len k.at' hg Ua he (I.mv oI m2) m2 T Vw f2 wk hz (λ_ _ z=>z) q ?_;rintro C s' ⟨mm,H',G',I',P5,fpC,mv,q'⟩;show wpAny @l X.A (AE (@aM) X.env (.ref jL.heap.objs.size)) _ X.xe s';obtain⟨f0,f1,_,f3,f4,f5⟩:=fpC;refine wpAny_assign_Name (zM (v:=.ref jL.heap.objs.size) I' hN hyi (.inl hy) rfl (?_) (.inr hy));rintro s3 I3 ⟨a,hsb,ha⟩;have hCa:C≠a:=by
  rcases ha with rfl |ha
  .exact f1
  .exact λe=>f4 y a ha e.symm
 refine⟨mm,P5.sameBut hsb hCa,λh' Ea=>?_⟩;exact⟨_,H',_,G',⟨I3.turned (t':=s3.toks) (λb o hb e=>Ea.extBut b o hb e) f0 f1 f3 f4 f5,(I.st.mono (mv.kp I.ab)).set i (.ref _),mv.ab⟩,mv,q'⟩
theorem Qb(h:∀E ds τ G Q,u E ds τ G Q->ds.length=n):∀E ds τ G Q,cq (aF i) u E ds τ G Q->ds.length=n+1 :=
 Qc h (λ_ _ _ _ _ _ q k=>k _ _ q) λ_ _ _ _ q=>q
theorem LR(I:@k)(ab:@aN)(rx:RelV x v)(rd:cm X.K H x d)(hi:itemsOf d G=some zs):
  ∃l vs bQ,v=@Y/\Vals vs bQ/\bc X.K H vs zs/\(s.heap.IsList l bQ.toArray\/s.heap.IsTuple l bQ.toArray)/\vs.length<=ba:=by
 cases rd with
 |dc hq rs=>
  cases hi;cases rx;obtain⟨bQ,rv,pl,hz⟩:=I.list hq.sq;exact⟨_,_,bQ,rfl,rv,rs,.inl pl.isList,hz⟩
 |tup hq rs=>
  cases hi;cases rx;obtain⟨bQ,rv,pl,hz⟩:=I.tuple (.of hq);exact⟨_,_,bQ,rfl,rv,rs,.inr pl,hz⟩
 | ref l=>
  unfold itemsOf at hi;dsimp only at hi;cases hg:G l with
  |none=>rw[hg] at hi;cases hi
  | some gg=>
   rw[hg] at hi;cases gg with
   |lst ds=>
    cases hi;cases rx;ext t;obtain⟨bQ,rv,pl,hz⟩:=I.list (.of hv);exact⟨_,_,bQ,rfl,rv,rs,.inl pl.isList,hz⟩
   |ins _ _=>cases hi
   |tR _=>cases hi
   |gz _=>cases hi
 |_=>cases hi
theorem R7(h:pJ X body t2)(hE:Lk X E):PSs X body (λD σ H=>∃(τ:jx) (G:Gp) (D2:nR),QG X.K H σ τ/\@aN/\t2 E D2 τ G /\
  (∀kH H' pV G',@bG->D2.nx pV G'->D.nx kH H')/\(∀v H' d G',@bG->cm X.K H' v d->D2.rt d G'->D.rt v H')/\(∀τ G,¬ D2.bk τ G)/\(∀τ G,¬ D2.ct τ G)):=by
 rintro pins s σ H D I ⟨τ,G,D2,st,ab,q,k1,k2,k3,k4⟩;refine iM (h E pins s σ H τ G D2 hE ⟨I,st,ab⟩ q) λf s1 z=>?_;cases f with
 |next=>obtain⟨kH,H',pV,G',J,mv,z⟩:=z;exact⟨kH,H',J.inv,k1 kH H' pV G' mv z⟩
 |brk=>obtain⟨kH,H',pV,G',J,mv,z⟩:=z;exact(k3 _ _ z).elim
 |cont=>obtain⟨kH,H',pV,G',J,mv,z⟩:=z;exact(k4 _ _ z).elim
 |ret u=>obtain⟨v,kH,H',d,G',J,mv,r,rd,z⟩:=z;exact⟨v,kH,H',J,r,k2 v H' d G' mv rd z⟩
theorem Ik{K:aw}(r:@bf):QG K H (L2.start Nn vs) (@cD):=by
 unfold L2.start aP;refine⟨by simp[r.length],λi d h=>?_⟩;by_cases hi:i<ds.length
 .rw[cF (@cI),bw] at h;cases hd:ds[i]? with
  |none=>rw[hd] at h;cases h
  |some d'=>
   rw[hd] at h;have e:d'=d:=@b2
   subst e;obtain⟨v,h1,h2⟩:=r.get hd;refine⟨v,?_,h2⟩;rw[cF (by simpa[r.length] using hi),bw,h1];rfl
 .rw[cg (@cI),ng] at h;split at h<;>cases h
theorem N1{P:bz}{w:World}{K:aw}{mg:@aV}{base:Heap}{x qual:Str}{st:Stmt}{f:Addr}{fd:gc}{Nn ps:@v}{k:Nat}{sp:iS}{rd:gq}(F:VI K x qual st f fd)(S:kZ Nn ps @aH)(len:∀ds G Q E,sp ds G Q E->@c2)
  (hr:∀ds G Q,sp ds G Q @q->rd @q @F (@cD) G)
  (hb:∀(i8:Value) (A:cZ) (outer:@bj) (s:aB) (H:Hp) (E:XK),kg k (A.deeper (Ca qual @aH s.heap.objs.size f i8))->pJ (xp MN P w K mg base Nn qual @aH f i8 A outer s H E).nox (fN st) rd):vI P w K mg base MN (k+1) f fd ps (Eh K sp):=by
 refine F.ok S ((by rintro vs H Q E ⟨ds,G,Q2,r,ab,q,_⟩;exact by rw[r.length];exact len _ _ _ _ q)) ?_;rintro i8 A outer s H vs Q E T5 ⟨ds,G,Q2,r,ab,q,kk⟩;refine⟨_,R7 (hb i8 A outer s H E T5) (E:=@z) (Lk.none λ_ _ z=>z),?_⟩;exact⟨@cD,G,ends Q2,Ik r,ab,hr ds G Q2 q,λkH H' pV G' mv z=>kk _ _ _ _ z mv .fe,λv H' d G' mv rdv z=>kk _ _ _ _ z mv rdv,λ_ _ z=>z,λ_ _ z=>z⟩
section
variable {prog:bz} {w:World} {A:cZ} {R:Result->@af} {It0:Addr} {fq wr:@aG} {n:Nat} {P:Nat->Value->Prop} {Sx:Nat->Heap->Prop}
theorem aar(W:Walks prog w A.in1 It0 fq wr n P Sx)(bt:Nat->@a0)(T:Heap->Prop)(B:Addr)(hB:B∉fq)(hT:∀h h',T h->(∀b o,b∉wr->b≠B->@bJ->@bm)->T h')
  (cmp:∀i j x y s (Q:@I) (E:@I),T s.heap->P i x->P j y->Q (.bool (bt i j)) s->wpAny @P A.in1 (uk .Lt x y) Q E s):
  ∀(k j:Nat) (s:aB) (best:Value) (cc:Nat),n-(j+1)=k->j+1<=n->Sx (j+1) s.heap->T s.heap->P (ur bt j) best ->
  s.heap.get? B=some {cls:=@ad,dict:=none,data:=.seq #[best,best] cc,slots:=#[]} ->
  (∀v h' tk,P (ur bt (n-1)) v->(∀b o,b∉wr->b≠B->@am=@i->@bm)->R (.ok (.ret v)) {s with heap:=h',toks:=tk}) ->
  Cb @P A (.builtin "min.loop" ⟨[.ref It0,.none,.ref B],[]⟩) R s:=by
 have hBw:B∉wr:=λz=>hB (W.sub _ z);have nm:(toString "min"++toString ".loop":String)="min.loop":=@g
 intro k;induction k with
 |zero=>
  intro j s best cc hk hj hs ht hp hb hR;have ej:j+1=n:=@d
  refine lF K1 ?_;rw[lq ku _];show wpAny _ A.in1 (seqItems? (.ref B) >>= _) _ _ s;refine ah (wV hb rfl ?_);show wpAny _ A.in1 (tryCatch (AD (.ref It0)) _ >>= _) _ _ s;refine ah (EA (W.done s _ _ (ej ▸ hs) λh' tk kept=>?_));have HG:=kept B _ hBw hb;show wpAny _ A.in1 (updateSeq B (λ_=>#[]) >>= _) _ _ _;refine ah ?_;refine B3 HG rfl (ah (zB (aE ?_)));exact hR best _ tk (by rw[<-ej];exact hp) λb o z1 z2 e=>(d8 _ _ (cO z2)).trans (kept b o z1 e)
 | succ k ih=>
  intro j s best cc hk hj hs ht hp hb hR;have lt:j+1<n:=@d
  refine lF K1 ?_;rw[lq ku _];show wpAny _ A.in1 (seqItems? (.ref B) >>= _) _ _ s;refine ah (wV hb rfl ?_);show wpAny _ A.in1 (tryCatch (AD (.ref It0)) _ >>= _) _ _ s;refine ah (EA (W.item (j+1) s _ _ lt hs λv h' tk pv Eg kept=>?_));have HG:=kept B _ hBw hb;have ht':T h':=hT _ _ ht λb o z1 _ e=>kept b o z1 e;show wpAny _ A.in1 (tryCatch (uq [v,v] (uk .Lt v best >>= _)) _ >>= _) _ _ _;refine ah (EA (cW (ah (cmp (j+1) (ur bt j) v best _ _ _ ht' pv hp ?_))));refine ah (cW (qy ?_));refine ah (zB (aE ?_));cases hbt:bt (j+1) (ur bt j) with
  |true=>
   simp only[if_true];refine ah ?_;refine B3 HG rfl (ah (zB ?_));rw[nm];refine aE ⟨tX ku _,ih (j+1) _ v _ @c lt (W.frame _ _ _ Eg λb z o e=>?_) (hT _ _ ht' λb o _ z2 e=>?_) (by simp only[ur,hbt,if_true];exact pv) (kP _ HG rfl) λv' h'' Rq pv' kk=>?_⟩
   .exact(d8 _ _ (λz':B=b=>hB (by rw[z'];exact z))).trans e
   .exact(d8 _ _ (cO z2)).trans e
   .exact hR v' h'' Rq pv' λb o z1 z2 e=>kk b o z1 z2 ((d8 _ _ (cO z2)).trans (kept b o z1 e))
  |false=>
   simp only[aj,if_false];refine ah (zB ?_);rw[nm];refine aE ⟨tX ku _,ih (j+1) _ best cc @c lt Eg ht' (by simp only[ur,hbt,aj,if_false];exact hp) HG λv' h'' Rq pv' kk=>?_⟩;exact hR v' h'' Rq pv' λb o z1 z2 e=>kk b o z1 z2 (kept b o z1 e)
end
theorem IZ{prog:bz}{w:World}{A:cZ}{E:@I}{s:aB}{x:Value}{Q:@I}
  (h:wpAny @P A.in1 (EB x) (λit jL=>∃(I:Addr) (fq wr:@aG) (n:Nat) (P:Nat->Value->Prop) (Sx:Nat->Heap->Prop) (bt:Nat->@a0) (T:Heap->Prop),it=.ref I/\Walks prog w A.in1 I fq wr n P Sx/\Sx 0 jL.heap/\(∀b∈fq,b<jL.heap.objs.size)/\0<n/\T jL.heap/\(∀(h h':Heap) (B:Addr),jL.heap.objs.size<=B->T h->(∀b o,b∉wr->b≠B->@bJ->@bm)->T h') /\
   (∀i j x y s (Q:@I) (E:@I),T s.heap->P i x->P j y->Q (.bool (bt i j)) s->wpAny @P A.in1 (uk .Lt x y) Q E s) /\
   ∀v h' tk,P (ur bt (n-1)) v->(∀b o,b∉wr->jL.heap.get? b=@i->@bm)->Q v {jL with heap:=h',toks:=tk}) E s):
  wpAny @P A (call (.builtin "min") [x]) Q E s:=by
 have nm:(toString "min"++toString ".loop":String)="min.loop":=@g
 refine call_function_tree F.kind_min F.plain_min F.entry_min (F.args_min1 _) ?_;show wpAny _ A.in1 (zy "min" ["key","default"] 0 ⟨[],[]⟩ >>= _) _ _ s;refine ah (Q0 (show zy "min" ["key","default"] 0 ⟨[],[]⟩=pure [none,none] from rfl) ?_);refine ah (aE ?_);refine ah (lW h (λit jL LZ=>?_) λ_ _ e=>e);obtain⟨I,fq,wr,n,P,Sx,bt,T,rfl,W,Jw,hfp,hn,ht,hT,cmp,hQ⟩:=LZ;refine ah (dF ?_);have hSf:jL.heap.objs.size∉fq:=λz=>jK _ (hfp _ z);have hSw:jL.heap.objs.size∉wr:=λz=>hSf (W.sub _ z);rw[nm];generalize hh:jL.heap.push {cls:=@ad,data:=.seq ([]:@C).toArray}=hp;have hb:hp.get? jL.heap.objs.size=some {cls:=@ad,dict:=none,data:=.seq #[] 0,slots:=#[]}:=by rw[<-hh];exact @aX
 have old:∀b o,jL.heap.get? b=@i->hp.get? b=@i:=λb o e=>by rw[<-hh];exact aJ _ e
 have Vx:Sx 0 hp:=W.frame _ _ _ Jw λb _ o e=>old b o e;have ht0:T hp:=hT _ _ _ @J ht λb o _ _ e=>old b o e;refine aE ⟨tX ku _,?_⟩;refine lF K1 ?_;rw[lq ku _];show wpAny _ A.in1 (seqItems? (.ref jL.heap.objs.size) >>= _) _ _ _;refine ah (wV hb rfl ?_);show wpAny _ A.in1 (tryCatch (AD (.ref I)) _ >>= _) _ _ _;refine ah (EA (W.item 0 _ _ _ hn Vx λv h' tk pv Eg kept=>?_));have HG:=kept _ _ hSw hb;show wpAny _ A.in1 (updateSeq jL.heap.objs.size (λ_=>#[v,v]) >>= _) _ _ _;refine ah ?_;refine B3 HG rfl ?_;rw[nm];refine aE ⟨tX ku _,aar W bt T _ hSf (λh h'=>hT h h' _ @J) cmp _ 0 _ v _ rfl hn (W.frame _ _ _ Eg λb z o e=>?_) (hT _ _ _ @J (hT _ _ _ @J ht0 λb o z1 _ e=>kept b o z1 e) λb o _ z2 e=>?_) pv (kP _ HG rfl) λv' h'' Rq pv' kk=>?_⟩
 .exact(d8 _ _ (λz':jL.heap.objs.size=b=>hSf (by rw[z'];exact z))).trans e
 .exact(d8 _ _ (cO z2)).trans e
 .refine hQ v' h'' Rq pv' λb o z1 e=>?_;have nb:b≠jL.heap.objs.size:=bu (aQ e);exact kk b o z1 nb ((d8 _ _ (cO nb)).trans (kept b o z1 (old b o e)))
theorem Ka{α:Type}(lt:α->α->Bool)(l)(a)(f:Nat->α)(hf:∀i,i<l.length+1->f i=(a::l).getD i a):
  f (ur (λi j=>lt (f i) (f j)) l.length)=l.foldl (λm x=>if lt x m=true then x else m) a:=by
 have key:∀k,k<=l.length->f (ur (λi j=>lt (f i) (f j)) k)=(l.take k).foldl (λm x=>if lt x m=true then x else m) a:=by
  intro k;induction k with
  |zero=>intro _;rw[ur,hf 0 @c];rfl
  | succ k ih=>
   intro hk;have ih':=ih @c;rw[List.take_succ_eq_append_getElem @c,ij,<-ih'];have e:f (k+1)=l[k]:=by
    rw[hf (k+1) @c,e9];simp[show k<l.length by lia]
   show f (if lt (f (k+1)) (f (ur _ k))=true then k+1 else ur _ k)=(if lt l[k] _=true then l[k] else _);rw[<-e];split<;>rfl
 rw[key l.length @J,wW]
theorem Qn (hc:@bv) (hu:X.A.units + 64<cLine):pL X (.builtin "min") MA := by
  intro pins s σ H G xs ds us Q I ab rx rd q;unfold MA at q;split at q
  . rename_i x
    obtain⟨v, rfl, r⟩ := rd.one;obtain⟨u,rfl,ru⟩ := rx.one;have main:∀{α:Type} (zs:@o) (a:α) (enc:α -> D) (lt:α -> α -> Bool) (T:Heap -> Prop),itemsOf x G=some ((a::zs).map enc) -> T s.heap -> (∀(h h':Heap) (B:Addr),s.heap.objs.size<=B -> T h -> (∀b o,b<s.heap.objs.size -> b≠B -> @bJ -> @bm) -> T h') ->
        (∀y z vy vz uy uz (s':aB) (Q':Value -> aB -> Prop) (E':Value -> aB -> Prop),T s'.heap -> cm X.K H vy (enc y) -> RelV vy uy -> cm X.K H vz (enc z) -> RelV vz uz -> Q' (.bool (lt y z)) s' -> wpAny @l X.A.in1 (uk .Lt uy uz) Q' E' s') ->
        Q (enc (zs.foldl (λm x=> if lt x m=true then x else m) a)) G -> wpAny @l X.A (call (.builtin "min") [u]) @bo X.xe s := by
      intro α zs a enc lt T hi ht hT cmp hq;obtain⟨l,vs,bQ,rfl,rv,rs,hl,hz⟩ := LR I ab ru r hi;have hlen:bQ.length=zs.length + 1 := by rw[<-rv.length,rs.length,au,ag]
      have pX:∀{o:Obj},@cA=@i -> l≠s.heap.objs.size := λe=> bu (aQ e);have at_:∀i uu,bQ.toArray[i]?=some uu -> ∃vv,RelV vv uu/\cm X.K H vv (enc ((a::zs).getD i a)) := λi uu e=> by
        have e':bQ[i]?=some uu := @bV
        have YZ:i<bQ.length := (List.getElem?_eq_some_iff.mp e').1;have hd:((a::zs).map enc)[i]?=some (enc ((a::zs).getD i a)) := by
          rw[bw,e9];cases h9:(a::zs)[i]? with
          |none=> rw[List.getElem?_eq_none_iff] at h9;simp at h9;lia
          |some z=> rfl
        obtain⟨vv,h1,h2⟩ := rs.get hd;obtain⟨uu',h3,h4⟩ := rv.get h1;rw[e'] at h3;cases h3;exact⟨vv,h4,h2⟩
      have adJ:∀i j p9 q9 s' (Q':Value -> aB -> Prop) (E':Value -> aB -> Prop),T s'.heap -> bQ.toArray[i]?=some p9 -> bQ.toArray[j]?=some q9 -> Q' (.bool (lt ((a::zs).getD i a) ((a::zs).getD j a))) s' -> wpAny @l X.A.in1 (uk .Lt p9 q9) Q' E' s' := λi j p9 q9 s' Q' E' t' h1 h2 h3=> by
        obtain⟨v1,r1,d1⟩ := at_ i p9 h1;obtain⟨v2,r2,d2⟩ := at_ j q9 h2;exact cmp _ _ v1 v2 p9 q9 s' Q' E' t' d1 r1 d2 r2 h3
      have fin:∀vv h' tk,bQ.toArray[ur (λi j=> lt ((a::zs).getD i a) ((a::zs).getD j a)) (bQ.toArray.size-1)]?=some vv -> (∀b o,b∉[s.heap.objs.size] -> @am=@i -> @bm) -> ug X pins σ H G Q vv {s with heap := h',toks := tk} := λvv h' tk e hk=> by
        obtain⟨v1,r1,d1⟩ := at_ _ vv e;have es:bQ.toArray.size-1=zs.length := by rw[aX];lia
        rw[es,Ka lt zs a (λi=> (a::zs).getD i a) (λi _=> rfl)] at d1;exact⟨v1,H,_,G,I.kept λb o e=> hk b o (by simpa using bu (aQ e)) e,@ai,r1,d1,hq⟩
      have Eo:0<bQ.toArray.size := by rw[aX];lia
      have hTp:∀(oo:Obj),T (s.heap.push oo) := λoo=> hT _ _ (s.heap.objs.size + 1) (Cf _) ht λb o hb _ e=> aJ _ e;have hT2:∀(oo:Obj) (h h':Heap) (B:Addr),(s.heap.push oo).objs.size<=B -> T h -> (∀b o,b∉[s.heap.objs.size] -> b≠B -> @bJ -> @bm) -> T h' := λoo h h' B hB t kk=> hT h h' B (by rw[lV] at hB;exact Nat.le_of_succ_le hB) t λb o hb hn e=> kk b o (by simpa using bu hb) hn e;rcases hl with hl |hl
      . refine IZ (qA hl ?_)
        obtain⟨o,ho,L9,n,hd⟩ := id hl;exact⟨s.heap.objs.size,_,_,_,_,_,_,T,rfl,Walks.list (A := X.A.in1) (show X.A.in1.handled=none from @cg) _ l (pX ho) bQ.toArray,⟨⟨_,@aX,rfl,rfl⟩,⟨o,aJ _ ho,L9,n,hd⟩⟩,
          fun b hb => by rcases(@bP:b=s.heap.objs.size\/b=l) with rfl |rfl
                         . rw[lV];exact xE _
                         . rw[lV];exact FP (aQ ho),Eo,hTp _,hT2 _,adJ,λvv h' tk e hk=> fin vv h' tk e λb o hb e=> hk b o hb (aJ _ e)⟩
      . refine IZ (wpAny_pyIter_tuple hl ?_)
        obtain⟨o,ho,L9,n,hd⟩ := id hl;exact⟨s.heap.objs.size,_,_,_,_,_,_,T,rfl,Walks.tuple (A := X.A.in1) (show X.A.in1.handled=none from @cg) _ l (pX ho) bQ.toArray,⟨⟨_,@aX,rfl,rfl⟩,⟨o,aJ _ ho,L9,n,hd⟩⟩,
          fun b hb => by rcases(@bP:b=s.heap.objs.size\/b=l) with rfl |rfl
                         . rw[lV];exact xE _
                         . rw[lV];exact FP (aQ ho),Eo,hTp _,hT2 _,adJ,λvv h' tk e hk=> fin vv h' tk e λb o hb e=> hk b o hb (aJ _ e)⟩
    rcases q with ⟨ns,mm,hi,hm,q⟩ |⟨nss,mm,hi,hm,q⟩
    . cases ns with
      |nil=> cases hm
      | cons a zs=>
        cases hm;have e:(λm x:Int=> if x<m then x else m)=λm x=> if decide (x<m)=true then x else m := by funext m x;simp
        rw[e] at q;refine main zs a D.int (λx y=> decide (x<y)) (λ_=> True) hi trivial (λ_ _ _ _ _ _=> trivial) (λy z vy vz uy uz s' Q' E' _ d1 r1 d2 r2 hq=> ?_) q;cases d1;cases d2;obtain⟨t1,rfl⟩ := r1;obtain⟨t2,rfl⟩ := r2;exact HT.CD X.A.in1 s' y t1 z t2 X.prog X.w E' Q' hq
    . cases nss with
      |nil=> cases hm
      | cons a zs=>
        cases hm;have el:∀xs ys:@D,HT.lexLt xs ys=K2.lexLt xs ys := by
          intro xs;induction xs with
          |nil=> intro ys;cases ys<;>rfl
          | cons x xs ih=> intro ys;cases ys with
            |nil=> rfl
            |cons y ys=> unfold HT.lexLt K2.lexLt;rw[ih]
        refine main zs a tI K2.lexLt (λh=> ∀b o,b<s.heap.objs.size -> @am=@i -> @bJ) hi (λb o _ e=> e) (λh h' B hB t kk b o hb e=> kk b o hb (bu (bC hb hB)) (t b o hb e)) (λy z vy vz uy uz s' Q' E' t' d1 r1 d2 r2 hq=> ?_) q;cases d1 with
        | tup h1 rs1=>
          cases d2 with
          | tup h2 Ku=>
            cases r1;cases r2;have z1 := rs1.ints;have z2 := Ku.ints;subst z1 z2;obtain⟨TJ,rv1,⟨o1,ho1,hc1,n1,hd1⟩,_⟩ := I.tuple (.of h1);obtain⟨wj,O0,⟨o2,Fd,GB,n2,hd2⟩,_⟩ := I.tuple (.of h2);have p1:IsTup s'.heap _ TJ.toArray := ⟨o1,t' _ _ (aQ ho1) ho1,hc1,n1,hd1⟩;have p2:IsTup s'.heap _ wj.toArray := ⟨o2,t' _ _ (aQ Fd) Fd,GB,n2,hd2⟩;rw[<-el] at hq;have i1:oX TJ.toArray.toList y := intsAre_of rv1;have i2:oX wj.toArray.toList z := intsAre_of O0;exact(HT.C5 p1 p2 i1 i2 (show X.A.units + 1<cLine by lia) hq:wpAny @l X.A.in1 (fh .Lt _ _) Q' E' s')
  . ext k
noncomputable def ae0(scope sc:Scope):List (Str×wy):=scope.names.map λ(n,k)=>if(k == .free&&sc.kind == .function&&sc.names.lookup n == @aY) then(n,.cell) else(n,k)
def v3(N:@v)(scope:Scope)(m:Nat)(fr:@aT)(sc:Scope)(XN:@v):Bool :=
 scope.names.all (λy=>decide (y.2≠.cell))&&decide (scope.kind=.function)&&scope.names.all (λy=>!decide (y.2=.local)||decide (scope.names.lookup y.1=@a1)) &&
 scope.names.all (λy=>!decide (y.2=.free)||decide (sc.names.lookup y.1=@aY))&&decide (N.length=m+fr.length) &&
 (fG fr.length).all (λj=>match fr[j]?,N[m+j]? with
  |some i,some x=>decide (XN[i]?=@aa)&&decide (@cb=@aY)&&decide ((ae0 scope sc).lookup x=@aY)
  |_,_=>false)
theorem Fw(hsc:X.env.scope=sc)(hXN:X.N=XN)(hb:v3 N scope m fr sc XN=true):D6 X N scope m fr:=by
 subst hsc hXN;unfold v3 at hb;simp only[aL] at hb;obtain⟨⟨⟨⟨⟨h1,h2⟩,h3⟩,h4⟩,h5⟩,h6⟩:=hb;refine⟨λy hy=>of_decide_eq_true (List.all_eq_true.mp h1 y hy),of_decide_eq_true h2,λy hy hl=>?_,λy hy hl=>?_,of_decide_eq_true h5,λj i x e1 e2=>?_⟩
 .have:=List.all_eq_true.mp h3 y hy;simp only[hl,decide_true,aW,QP] at this;exact of_decide_eq_true this
 .have:=List.all_eq_true.mp h4 y hy;simp only[hl,decide_true,aW,QP] at this;exact of_decide_eq_true this
 .have hj:j<fr.length:=(List.getElem?_eq_some_iff.mp e1).1;have:=List.all_eq_true.mp h6 j (List.mem_range.mpr hj);rw[e1,e2] at this;simp only[aL] at this;exact⟨of_decide_eq_true this.1.1,of_decide_eq_true this.1.2,of_decide_eq_true this.2⟩
theorem SA(N)(hi:Be X tg iter wi)(hg:∀C s H fp,Bf @bT tg g)(Ua:∀C s H fp,Yc @bT ifs c)(he:∀C s H fp,eU @bT elt te)
  (hsc:autoParam (X.env.scope=sc) Ar._auto_1) (hXN:autoParam (X.N=XN) Ar._auto_1) (hb:autoParam (v3 N scope m fr sc XN=true) Ak._auto_1) (hc:autoParam (@bv) Ar._auto_1) (hs:autoParam (∀x,iO iter X.env x=pure x) Ai._auto_1):eU X @ci (e7 m fr wi g c te) :=
 Pu hc (Fw hsc hXN hb) hi hg Ua he hs
theorem Sa(N)(hN:X.N.Nodup)(hyi:X.N[i]?=some y)(hy:X.env.scope.names.lookup y=@a1)(hi:Be X tg iter wi)(hg:∀C s H fp,Bf @bT tg g)
  (Ua:∀C s H fp,Yc @bT ifs c) (he:∀C s H fp,eU @bT elt te) (hsc:autoParam (X.env.scope=sc) Ar._auto_1) (hXN:autoParam (X.N=XN) Ar._auto_1) (hb:autoParam (v3 N scope m fr sc XN=true) Ak._auto_1) (hc:autoParam (@bv) Ar._auto_1)
  (hsw:autoParam (ui @ci (some (@aM)) Il.line X.env=pure true) Ar._auto_1) (hs:autoParam (∀x,iO iter X.env x=pure x) Ai._auto_1):
  xA X (.Assign [@aM] @ci Il) (bh (e7 m fr wi g c te) (aF i)) :=
 IG hN hyi hy hc (Fw hsc hXN hb) hi hg Ua he hsw hs
theorem PL{K:aw}{ns:@D}(hO:Yd H)(hS:pO K H a (@cr))(hl:ns.length<=63):Eh K EI [@V] H (λv _=>v=.bl true) λ_ _ _=>False:=by
 have hF:SqF K H a (@cr):=by
  rcases hS with(h |⟨o,h⟩) |h
  .rcases hO a with z |⟨o,xs,z⟩
   .rw[z] at h;cases h
   .rw[z] at h;cases h
  .exact .inl ⟨o,h⟩
  .exact .inr h
 refine⟨[.dc (@av)],λ_=>none,λd _=>d=.bl true,.cons (.dc hF (bc.Nv ns)) .nil,λa g e=>(by cases e),⟨ns,rfl,hl,λ_=>rfl,λ_=>rfl⟩,λd G' v H' e mv r=>?_⟩;subst e;cases r;rfl
theorem Tp{l:FO}{q:bz}{loose:@v}{XP:(@aV)->Heap->Prop}{YP:World->Heap->Prop}{d:DefRec}{K:qb->aw}{k:Nat}{x:Str}(hn:l.most=some 63)(hdf:d.params.defaults=[])(hr:kg k KQ)
  (hY:∀(w:World) (h:Heap),YP w h->(K w.params).In h)
  (F:∀(w:World) (mg:@aV) (fa:Addr) (h:Heap),(K w.params).In h->h.Ns bR mg->mg d.name=some (.ref fa) ->
   ∃fd:gc,(∀(s:aB) (u:Value),BindsTo s fd ⟨[u],[]⟩ [(x,u)])/\∀base:Heap,(K w.params).In base->base.Ns bR mg->vI l.prog w (K w.params) mg base MN k fa fd [x] (Eh (K w.params) EI)):
  PySem.W.WalkO q loose XP YP l.row.toRowW d [] (λf vs=>MQ f vs) :=
 L2.VZ (n:=63) (k:=k) (x:=x) (CX:=λ_=>MN) (sp:=λw=>Eh (K w.params) EI) hn @t hdf hr hY F (λ_ _ _ _ hl hO hS=>PL hO hS hl) λ_ _ _ _ _ z=>z
end
noncomputable def Hd:HO->Bool
 |.lst _=>true
 |.dK _=>true
 |.dT _=>true
 |.ext _=>true
 |_=>false
def nI(h:Heap)(S:Addr->Bool)(H:Hp):Hp:=λa=>match H a with
 |some u=>if(Hd u&&S a)=true then(match @aJ with
  |some o=>@bx
  |none=>@L) else @L
 |none=>none
section
variable {h:Heap} {S:Addr->Bool} {H:Hp} {a:Addr}
theorem Md(n:∀u,H a=@L->Hd u=false):nI h S H a=H a:=by
 unfold nI;cases e:H a with
 |none=>rfl
 |some u=>simp only[n u e,Bo,aj,if_false]
theorem yX(hs:S a=false):nI h S H a=H a:=by
 unfold nI;cases e:H a with
 |none=>rfl
 |some u=>simp only[hs,MY,aj,if_false]
theorem sR{u:HO}{o:Obj}(hs:S a=true)(e:H a=@L)(hu:Hd u=true)(ho:@aJ=@i):nI h S H a=@bx:=by
 unfold nI;simp only[e,hs,hu,Bool.and_self,if_true,ho]
theorem rK(e:H a=none):nI h S H a=none:=by unfold nI;rw[e]
theorem oD{u:HO}(e:H a=@L)(hu:Hd u=false):nI h S H a=@L:=by rw[Md (λv z=>by rw[e] at z;cases z;exact hu)];exact e
theorem vV:Kp H (nI h S H):=⟨λa xs e=>oD e rfl,λa o u e=>oD e rfl⟩
end
section
variable {X:Cx} {pins:@s} {σ:L2.St} {H:Hp} {s:aB} {G:Gp}
theorem Inv.freeze(I:@k)(S):Inv X pins σ (nI s.heap S H) s where
  ok := I.ok
  os := I.os
  bare := I.bare
  base := { keep := I.base.keep,slot := I.base.slot,there := I.base.there
            free := λb o q n hx=> rK (I.base.free b o q n hx)
            t8 := λb xs q=> oD (I.base.t8 b xs q) rfl
            sQ := λb o u q=> oD (I.base.sQ b o u q) rfl
            wd := λb ps q=> oD (I.base.wd b ps q) rfl
            we := λb x q=> oD (I.base.we b x q) rfl}
  loc := I.loc
  cell := I.cell
  free := rK I.free
  jX := λx c e=> rK (I.jX x c e)
  pin := λp hp=> let ⟨h1,h2,h3⟩ := I.pin p hp;⟨h1,rK h2,h3⟩
  cx := fun a o q=> by
    have st:∀u,H a=@L -> fY X.prog X.w (nI s.heap S H) s.heap a u := λu e=>
      (I.cx a u e).jN (λb v _ r=> r) (λb r=> oD r rfl) (λb xs r=> oD r rfl)
    cases e:H a with
    |none=> rw[rK e] at q;cases q
    | some u=>
      by_cases hc:Hd u=true
      · by_cases hs:S a=true
        . obtain⟨ob,ho⟩ := lu (I.cx a _ e)
          rw[sR hs e hc ho] at q;cases q;exact⟨ho,st _ e⟩
        . rw[yX (by simpa using hs),e] at q
          cases q;exact st _ e
      . rw[oD e (by simpa using hc)] at q
        cases q;exact st _ e
  len := I.len
noncomputable def jk(R:@a0)(G:Gp):Addr->Bool:=λa=>R a&&(G a).isSome
theorem Fi(I:@k)(ab:@aN)(R):Mv X.K H G (nI s.heap (jk R G) H) (Eu R G) where
 keep:=λa o e n=>by
  refine⟨by rw[yX (by simp[jk,n])];exact e,?_⟩;unfold Eu;split
  .rfl
  .exact n
 jN:=λa n=>by
  cases q:G a with
  |none=>exact absurd q n
  | some g=>
   have t:=(ab a g q).tracked;cases e:H a with
   |none=>exact absurd e t
   |some u=>
    unfold nI;rw[e];dsimp only;split
    .split<;>simp
    .simp
 ab:=λa g e=>by
  unfold Eu at e;split at e
  .cases e
  .rename_i hr;exact(ab a g e).mono vV (yX (by simp[jk,hr]))
theorem Mc(I:@k)(ab:@aN):∀{d t:D} {v:V},Fz G R d t->cm X.K H v d->cm X.K (nI s.heap (jk R G) H) v t:=by
 intro d t v h;revert v;refine Fz.rec (motive_1:=λd t _=>∀{v:V},cm X.K H v d->cm X.K (nI s.heap (jk R G) H) v t)
  (motive_2:=λds ts _=>∀{vs:@y},bc X.K H vs ds->bc X.K (nI s.heap (jk R G) H) vs ts)
  (motive_3:=λds ts _=>(∀{vs:@aO},mU X.K H vs ds->mU X.K (nI s.heap (jk R G) H) vs ts)/\∀{vs:@bA},nS X.K H vs ds->nS X.K (nI s.heap (jk R G) H) vs ts)
  ?_ ?_ ?_ ?_ ?_ ?_ ?_ ?_ ?_ ?_ h
 .intro d v r;exact r.mono vV
 .intro ds ss _ ih v r;cases r with
  |tup h rs=>exact .tup (vV.tup _ _ h) (ih rs)
 .intro ds ss _ ih v r;cases r with
  |dc h rs=>exact .dc (vV.Yo h) (ih rs)
 .intro a ds ss g hr _ ih v r;cases r;obtain⟨vs,hv,rs⟩:=ab a _ g;obtain⟨ob,ho⟩:=lu (I.cx a _ hv);exact .dc (.inl ⟨_,sR (by simp[jk,hr,g]) hv rfl ho⟩) (ih rs)
 .intro a ds ss g hr _ ih v r;cases r;rcases ab a _ g with ⟨kv,hv,rs⟩ |⟨kv,hv,rs⟩
  .obtain⟨ob,ho⟩:=lu (I.cx a _ hv);exact .pj (sR (by simp[jk,hr,g]) hv rfl ho) (ih.1 rs)
  .obtain⟨ob,ho⟩:=lu (I.cx a _ hv);exact .ph (sR (by simp[jk,hr,g]) hv rfl ho) (ih.2 rs)
 .intro a kvs YL g hr _ ek ih v r;cases r;obtain⟨xs,ks,vs,hv,rel,r1,r2⟩:=ab a _ g;obtain⟨ob,ho⟩:=lu (I.cx a _ hv);have e2:(YL.map λp=>tH p.1)=kvs.map λp=>tH p.1:=by
   have:=congrArg (List.map tH) ek;rw[bq,bq] at this;exact this.symm
  exact .qJ (sR (by simp[jk,hr,g]) hv rfl ho) ⟨ek.symm.trans rel.1,rel.2⟩ (by rw[e2];exact r1.mono vV) (ih r2)
 .intro vs r;cases r;ext d
 .intro d s ds ss _ _ i1 i2 vs r;cases r with
  |cons r rs=>exact .cons (i1 r) (i2 rs)
 .exact⟨λr=>by cases r;ext d,λr=>by cases r;ext d⟩
 .intro k d s ds ss _ _ i1 i2;exact⟨λr=>by cases r with |cons r rs=>exact .cons (i1 r) (i2.1 rs),λr=>by cases r with |cons r rs=>exact .cons (i1 r) (i2.2 rs)⟩
variable {e:Expr} {te:gC} {st:Stmt} {t:gq}
theorem Z5(he:eU X e te):eU X e (b8 te):=by
 ext i;refine iM (he E pins s σ H τ G _ hE I h) ?_;rintro u s1 ⟨v,H1,d,G1,I1,m,r,rd,R,t,hf,q⟩;exact⟨v,_,t,_,Inv.freeze I1 _,m.trans (Fi I1 m.ab R),r,Mc I1 m.ab hf rd,q⟩
theorem Wy(h1:xA X st t):xA X st (JW i t):=by
 ext s;refine iM (h1 E pins s σ H τ G _ hE I h) λf s1 z=>?_;cases f with
 | next=>
  obtain⟨kH,H',pV,G',I',m,q⟩:=z;simp only at q;split at q
  .rename_i d hd;obtain⟨R,t,hf,q⟩:=q;obtain⟨v,hv,rv⟩:=I'.st.at' i d hd;have a1:=(I'.st.mono (H':=nI s1.heap (jk R G') H') vV).set i (Mc I'.inv I'.ab hf rv);have es:kH.set i (@W)=kH:=by
    have hi:i<kH.length:=(List.getElem?_eq_some_iff.mp hv).1;have e2:=(List.getElem?_eq_some_iff.mp hv).2;rw[<-e2];exact Vn hi
   rw[es] at a1;have m2:=Fi I'.inv I'.ab R;exact⟨kH,_,_,_,⟨Inv.freeze I'.inv _,a1,m2.ab⟩,m.trans m2,q⟩
  ext j
 |ret v=>exact z
 |brk=>exact z
 |cont=>exact z
end
theorem abi:eM "len"=some (.builtin "len"):=@bB
theorem abh:eM "min"=some (.builtin "min"):=@bB
theorem Qr:eM "sorted"=some (.builtin "sorted"):=@bB
theorem Oo:eM "list"=some (@ad):=@bB
theorem UU:eM "tuple"=some (@aj):=@bB
theorem Hi:eM "dict"=some (@aZ):=@bB
theorem abj:eM "int"=some (.type "int"):=@bB
theorem X4:eM "bool"=some (.type "bool"):=@bB
end K2
end
section
namespace L2
open PySem PySem.Spec PyProof.Rows
section
variable {X:Cx} {pins:@s} {σ:St} {H:Hp} {s:aB} {h':Heap}
theorem Inv.qe{fp:@aG}(I:@k)(hf:∀b∈fp,pK X pins H b)(k:∀b o,b∉fp->@am=@i->@bm):Inv X pins σ H {s with heap:=h',toks:=t'}:=by
 have nt:∀b u,H b=@L->b∉fp:=λb u e z=>by rw[(hf b z).1] at e;cases e
 refine I.step (g':=s.gens) (d':=s.drawn) (ch:=fp) (λb hb=>?_) (λb o _ _ hc e _=>k b o hc e) (λb o _ _ hc e _=>⟨o.slots,k b o hc e⟩) (λ_ _ _ _ n=>n)
  (λb o hc e=>⟨o,k b o hc e⟩) (λ_ _ e=>e) (λ_ _ _ e=>e) (λ_ _ e=>e) (λ_ _ e=>e) (λm hm=>?_) (λb u e=>?_) I.bare
 .obtain⟨f0,f1,f2,f3,f4,f5⟩:=hf b hb;exact⟨f3,f1,f4,f5⟩
 .obtain⟨o,es,ep,ho,r⟩:=hm;exact⟨o,es,ep,k _ _ (λz=>(hf _ z).2.1 rfl) ho,r⟩
 .refine(I.cx b u e).jN (λc v hc r=>k c v ?_ r) (λ_ z=>z) (λ_ _ z=>z);rcases hc with rfl |hc
  .exact nt _ _ e
  .exact nt _ _ hc
theorem Inv.xS{fp:@aG}(I:@k)(hf:∀b∈fp,pK X pins H b)(k:∀b o,b∉fp->@am=@i->@bm)(hT:s.heap.objs.size<=T)
  (new:fY X.prog X.w (upd H T (.tup vs)) h' T (.tup vs)):Inv X pins σ (upd H T (.tup vs)) {s with heap:=h',toks:=t'}:=by
 have hn:H T=none:=I.cx.fresh hT;have ht:∀b o,@am=@i->b≠T:=λb o e z=>by subst z;exact absurd (aQ e) (Nat.not_lt.mpr hT)
 have nt:∀b u,H b=@L->b∉fp:=λb u e z=>by rw[(hf b z).1] at e;cases e
 have ne:∀b u,H b=@L->b≠T:=λb u e=>eY e hn;refine I.step (g':=s.gens) (d':=s.drawn) (ch:=fp) (λb hb=>?_) (λb o _ _ hc e _=>k b o hc e) (λb o _ _ hc e _=>⟨o.slots,k b o hc e⟩) (λb o _ e n=>by rw[bH (ht b o e)];exact n)
  (λb o hc e=>⟨o,k b o hc e⟩) (λb xs e=>by rw[bH (ne _ _ e)];exact e) (λb o u e=>by rw[bH (ne _ _ e)];exact e) (λb ps e=>by rw[bH (ne _ _ e)];exact e) (λb ps e=>by rw[bH (ne _ _ e)];exact e) (λm hm=>?_) (λb u e=>?_) I.bare
 .obtain⟨f0,f1,f2,f3,f4,f5⟩:=hf b hb;exact⟨f3,f1,f4,f5⟩
 .obtain⟨o,es,ep,ho,r⟩:=hm;exact⟨o,es,ep,k _ _ (λz=>(hf _ z).2.1 rfl) ho,r⟩
 .by_cases hb:b=T
  .subst hb;rw[bV] at e;cases e;exact new
  .rw[bH hb] at e;refine(I.cx b u e).jN (λc v hc r=>k c v ?_ r) (λc z=>by rw[bH (ne _ _ z)];exact z) (λc xs z=>by rw[bH (ne _ _ z)];exact z);rcases hc with rfl |hc
   .exact nt _ _ e
   .exact nt _ _ hc
theorem pK.upd(h:pK X pins H b)(hb:b≠T):pK X pins (L2.upd H T o) b:=by
 obtain⟨f0,r⟩:=h;exact⟨by rw[bH hb];exact f0,r⟩
end
def Ite(K:aw)(a:Addr):It :=
  ⟨λi H=>∃xs x,pO K H a xs/\xs[i]?=@aa,
   λi H v H'=>∃T y,v=.ref T/\H T=none/\H'=upd H T (.tup [@w,y])/\∀xs,pO K H a xs->xs[i]?=some y,
   λi H=>∃xs,pO K H a xs/\xs.length<=i⟩
theorem OP{K:aw}(a e it)(pX:e≠it):
  Turn P w K (.Tuple elts kk pos) (Ite K a) [e,it] e (λi h=>(∃old,IsEnum h e it i old)/\h.IsListIter it a i) where
 mem:=@K
 obj:=λi h NT b hb=>by
  obtain⟨⟨old,he⟩,hit⟩:=NT;rcases @cO with rfl |hb
  .exact⟨_,he,λv z=>by cases z⟩
  .have e:b=it:=@bP
   subst e;obtain⟨o,e,c,d⟩:=hit;exact⟨o,e,λv z=>by rw[d] at z;cases z⟩
 keep:=(by rintro i h h' ⟨⟨old,he⟩,hit⟩ k;exact⟨⟨old,k e @f _ he⟩,hit.at λo q=>k it @f o q⟩)
 item:=by
  ext l;obtain⟨⟨old,he⟩,hit⟩:=st;ext m;obtain⟨xs,x,hq,hx⟩:=hg;obtain⟨bQ,rv,p,hz⟩:=I.list hq;obtain⟨u,hu,ru⟩:=rv.get hx;have XG:@cN:=@cf;have heT:e≠s.heap.objs.size:=bu (aQ he);have hiT:it≠s.heap.objs.size:=by obtain⟨o,q,_⟩:=hit;exact bu (aQ q)
  refine wpAny_pyNext_enum_item he hit p.isList (x:=u) (by simpa using hu) pX λh' ho T9 hT hsz kk=>?_;refine⟨_,rfl,?_⟩;have I1:Inv X pins σ (upd H s.heap.objs.size (.tup [@w,x])) {s with heap:=h',toks:=s.toks+1} :=
   I.xS (fp:=[e,it]) hf (λb o hb q=>kk b o (λz=>hb (by simp[z])) (λz=>hb (by simp[z])) q) @J
    ⟨by show 2<=ba;decide,[.int i s.toks,u],.cons @A (.cons ru .nil),⟨_,hT,rfl,_,rfl⟩⟩
  refine Vk (s:={s with heap:=h',toks:=s.toks+1}) ho λh2 Qa Fc=>?_;have f1:∀b∈[e,it],pK X pins (upd H s.heap.objs.size (.tup [@w,x])) b:=λb hb=>(hf b hb).upd (by
   rcases @cO with rfl |hb
   .exact heT
   .rw[List.mem_singleton.mp hb];exact hiT)
  have I2:Inv X pins σ (upd H s.heap.objs.size (.tup [@w,x])) {s with heap:=h2,toks:=s.toks+1} :=
   Inv.qe (s:={s with heap:=h',toks:=s.toks+1}) (t':=s.toks+1) (fp:=[e,it]) I1 f1 λb o hb q=>(Fc.2 b (λz=>hb (by simp[z]))).trans q
  refine⟨@aE,_,I2,rfl,⟨_,x,rfl,XG,rfl,λys hy=>by rw[I.u5 hy hq];exact hx⟩,⟨⟨u,?_⟩,?_⟩,λb hb=>(f1 b hb).1⟩
  .simpa using Qa
  .exact T9.at λo q=>(Fc.2 it (cO pX)).trans q
 done:=by
  ext l;obtain⟨⟨old,he⟩,hit⟩:=st;ext m;obtain⟨xs,hq,hx⟩:=hg;obtain⟨bQ,rv,p,hz⟩:=I.list hq;have hl:=rv.length;refine wpAny_pyNext_enum_end (@cg) he hit p.isList (by simp;lia) λh' eb=>⟨rfl,?_⟩;exact I.qe (t':=s.toks) (fp:=[e,it]) hf λb o hb q=>eb b o (λz=>hb (by simp[z])) q
 self:=(by rintro A i s Q E ⟨⟨old,he⟩,_⟩ h;exact xJ he h)
end L2
namespace K2
open PySem PySem.Spec PyProof.Rows L2
section
variable {X:Cx} {elts:@az} {kk:Nat} {wZ:Pos} {a b:Expr} {ta tb:gC} {pos p:Pos}
theorem Ob{pins:@s}{σ:L2.St}{H H1:Hp}{G G1:Gp}{s1:aB}{l:Addr}{vs:@y}{ds:@e}{ok:@B}{R:@aQ}(I1:@cG)(m:@cj)(hq:pO X.K H1 l vs)
  (hk:∀H2 G2,Kp H1 H2->lh X.K H2 G2->ok G2->∃ws,pO X.K H2 l ws/\bc X.K H2 ws ds) (q:R (jC 0 ds) ok G1):
  wpAny @l X.A (call (@cy) [@Y]) (λv s2=>wpAny @l X.A (EB v) (Kc X pins σ (.Tuple elts kk wZ) H G R) X.xe s2) X.xe s1:=by
 obtain⟨bQ,rv,pl,hz⟩:=I1.list hq;refine call_enumerate_list pl.isList λh' he hit hsz kp=>?_;refine xJ he ?_;refine⟨_,[s1.heap.objs.size+1,s1.heap.objs.size],_,_,H1,G1,jC 0 ds,ok,rfl,I1.kept (t':=s1.toks) kp,m,OP l _ _ (Nat.succ_ne_self _),⟨⟨_,he⟩,hit⟩,λb hb=>?_,λi H2 G2 k ab o=>?_,q⟩
 .have HG:s1.heap.objs.size<=b:=by
   rcases @cO with rfl |hb
   .lia
   .rw[List.mem_singleton.mp hb];exact aH _
  exact I1.Ds HG (I1.cx.fresh HG)
 .obtain⟨ws,hw,rd⟩:=hk H2 G2 k ab o;refine⟨λd hd=>?_,λhl=>⟨ws,hw,by rw[rd.length,<-Aj ds 0];exact hl⟩⟩;rw[Am] at hd;cases Y0:ds[i]? with
  |none=>rw[Y0] at hd;cases hd
  |some d'=>
   rw[Y0] at hd;obtain⟨v,hv,r⟩:=rd.get Y0;refine⟨⟨ws,v,hw,hv⟩,?_⟩;rintro x H3 ⟨T,y,ex,hT,e3,hy⟩;subst ex e3;have:=hy ws hw;rw[hv] at this;ext f;have ed:D.tup [.int ((0+i:Nat):Int),d']=d:=by simpa using hd
   subst ed;refine⟨.tup bV (.cons (by rw[mD];exact @S) (.cons (r.mono (.new hT)) .nil)),.Kz ab hT⟩
theorem zd:eM "enumerate"=some (@cy):=@bB
theorem abg:eM "zip"=some (.type "zip"):=@bB
theorem Sl (hg:Gl X "enumerate") (hm:X.mg "enumerate"=none) (ha:@ba) (hs:autoParam (a8 [a] X.env=[@cw]) Ar._auto_1):Be X (.Tuple elts kk wZ) (.Call (.Name "enumerate" p) [a] [] pos) (yQ ta):=by
 intro E pins s σ H τ G R hE I h;have hA:wO X [a] (aq ta aK):=rg ha yA hs;refine Call_ (qK I.inv hg hm zd (gZ (zJ hA pos hE I (R:=acn λx G1=>yP x G1 R) h λvs H1 ds G1 us s1 I1 m1 r1 j4 q1=>?_) hs rfl))
 match ds,q1 with
 | [x],q1=>
  change yP x G1 R at q1;obtain⟨w,rfl,F6⟩:=j4.one;obtain⟨u,rfl,ru⟩:=r1.one;cases F6 with
  |dc hq rs=>cases ru;exact Ob I1.inv m1 hq.sq (λH2 G2 k ab _=>⟨_,(k.Yo hq).sq,rs.mono k⟩) q1
  |ref p=>
   cases ru;unfold yP at q1;dsimp only at q1;split at q1
   .rename_i ds e;obtain⟨vs,hv,rs⟩:=I1.ab.lst e;refine Ob I1.inv m1 (.of hv) (λH2 G2 k ab o=>?_) q1;obtain⟨ws,hw,su⟩:=ab.lst o;exact⟨ws,.of hw,su⟩
   .exact q1.elim
  |tup _ _=>ext e
  |pj _ _=>ext e
  |ph _ _=>ext e
  |fe=>ext e
  |bl _=>ext e
  |int _=>ext e
  |str _=>ext e
  |exc _=>ext e
  |Et _ _=>ext e
  |qJ _ _ _ _=>ext e
 |[],q1=>ext e
 |_::_::_,q1=>ext e
end
end K2
end
section
namespace K2
open PySem PySem.Spec PyProof.Rows L2
section
variable {X:Cx} {o i a b:Expr} {to ti ta tb:gC} {pos p:Pos}
theorem WK(hu:@bl)(ho:eU X o to)(hi:eU X i ti)
  (ha:autoParam (∀v,AE (.Subscript o i pos) X.env v=(do
   let ov ← uq [v] (eval o X.env)
   let iv ← uq [v,ov] (eval i X.env)
   standAt pos
   uq [v,ov,iv] (setItem ov iv v)
   release [v,ov,iv] [])) Ai._auto_1):Bf X (.Subscript o i pos) (iH to ti):=by
 intro E pins s σ H τ G w d u Q hE I r rd h;rw[ha];refine ah (cW (jH ho hE I h λx H1 dx G1 ov s1 I1 m1 r1 j4 q1=>?_));refine ah (cW (jH hi hE I1 q1 λy H2 dy G2 iv s2 oI m2 r2 zS q2=>?_));refine ah (tV (ah (cW ?_)));have Kv:=@b5;have O6:=rd.mono (Kv.kp I.ab);have Eg:=I.st.mono (Kv.kp I.ab);have rx':=j4.mono (m2.kp I1.ab);unfold wC at q2;split at q2
 .rename_i l;cases rx';cases r1;split at q2
  .rename_i xs hg;obtain⟨vs,hv,rs⟩:=oI.ab.lst hg;split at q2
   .rename_i k;cases zS;split at q2
    .rename_i j hj;have m3:Mv X.K H2 G2 (upd H2 l (.lst (vs.set j w))) (dw G2 l (.lst (xs.set j d))):=.putL oI.ab hg hv (rs.set O6 j);refine iM (set_list pins s2 σ H2 (@Y) (.int k) w _ _ _ (λH3=>H3=upd H2 l (.lst (vs.set j w))) oI.inv rfl r2 r ⟨l,vs,k,j,rfl,rfl,hv,?_,rfl⟩) ?_
     .rw[rs.length];exact hj
     .rintro _ s3 ⟨H3,I3,e3⟩;subst e3;exact wpAny_release ⟨σ,_,τ,_,⟨I3,Eg.mono (m3.kp oI.ab),m3.ab⟩,Kv.trans m3,q2⟩
    .exact q2.elim
   .exact q2.elim
  .rename_i kvs hg;obtain⟨hk,hz,q⟩:=q2;obtain⟨H3,H4,I3,dp,m3⟩:=UJ oI.inv oI.ab hg hk hz zS O6;exact Qk @c I3 dp r2 r λs4 I4=>wpAny_release ⟨σ,H4,τ,_,⟨I4,Eg.mono (m3.kp oI.ab),m3.ab⟩,Kv.trans m3,q⟩
  .exact q2.elim
 .exact q2.elim
end
end K2
end
section
namespace L2
open PySem PySem.Spec PyProof.Rows
theorem x8(I:@k)(hq:pO X.K H l xs)(hf:pK X pins H b):l≠b:=by
 ext c;obtain⟨f0,f1,f2,f3,f4,f5⟩:=hf;rcases hq with(h |⟨o,h⟩) |⟨o,bQ,n,h,_⟩
 .rw[f0] at h;cases h
 .rw[f0] at h;cases h
 .have hb:=I.ok.mod.Xx _ _ h;rcases f3 with f3 |f3
  .exact I.ok.LF _ _ hb f3
  .exact absurd (aQ (I.ok.bs _ _ hb).1) (Nat.not_lt.mpr f3)
def Itz(K:aw)(a b:Addr):It :=
  ⟨λi H=>∃xs x ys y,pO K H a xs/\xs[i]?=@aa/\pO K H b ys/\ys[i]?=some y,
   λi H v H'=>∃T x y,v=.ref T/\H T=none/\H'=upd H T (.tup [x,y])/\(∀xs,pO K H a xs->xs[i]?=@aa)/\∀ys,pO K H b ys->ys[i]?=some y,
   λi H=>∃xs ys,pO K H a xs/\pO K H b ys/\(xs.length<=i\/ys.length<=i)⟩
structure adN(z TI TO i1 i2 a b:Addr)(i:Nat)(h:Heap):Prop where
 hz:IsZip h z TI TO .none
 hI:IsPair h TI (.ref i1) (.ref i2)
 hO:∃x y,IsPair h TO x y
 h1:h.IsListIter i1 a i
 h2:h.IsListIter i2 b i
theorem Rm{K:aw}(a b z TI TO i1 i2)(nd:[z,TI,TO,i1,i2].Nodup):
  Turn P w K (.Tuple elts kk pos) (Itz K a b) [z,TI,TO,i1,i2] z (adN z TI TO i1 i2 a b) where
 mem:=@K
 obj:=λi h st c hc=>by
  simp only[bF,b9,or_false] at hc;rcases hc with rfl |rfl |rfl |rfl |rfl
  .exact⟨_,st.hz,λv q=>by cases q⟩
  .exact⟨_,st.hI,λv q=>by cases q⟩
  .obtain⟨x,y,h⟩:=st.hO;exact⟨_,h,λv q=>by cases q⟩
  .obtain⟨o,e,_,d⟩:=st.h1;exact⟨o,e,λv q=>by rw[d] at q;cases q⟩
  .obtain⟨o,e,_,d⟩:=st.h2;exact⟨o,e,λv q=>by rw[d] at q;cases q⟩
 keep:=λi h h' st k=>⟨k _ @f _ st.hz,k _ @f _ st.hI,let ⟨x,y,q⟩:=st.hO;⟨x,y,k _ @f _ q⟩,st.h1.at λo q=>k _ @f o q,st.h2.at λo q=>k _ @f o q⟩
 item:=by
  ext l;ext m;obtain⟨xs,x,ys,y,YT,hx,YS,hy⟩:=hg;obtain⟨TJ,rv1,p1,hz1⟩:=I.list YT;obtain⟨wj,O0,p2,hz2⟩:=I.list YS;obtain⟨u1,hu1,O3⟩:=rv1.get hx;obtain⟨u2,hu2,RM⟩:=O0.get hy;obtain⟨xo,yo,hO⟩:=st.hO;have ap:∀c∈[z,TI,TO,i1,i2],a≠c/\b≠c:=λc hc=>⟨x8 I YT (hf c hc),x8 I YS (hf c hc)⟩;simp only[aT,bF,b9,or_false,not_or] at nd;obtain⟨⟨n1,n2,n3,n4⟩,⟨n5,n6,n7⟩,⟨n8,n9⟩,n10,_⟩:=nd;have Dz:ZipApart z TI TO i1 i2 a b:=⟨cO n1,cO n2,cO n3,cO n4,n5,n6,n7,n8,n9,n10,(ap z @f).1,(ap TO @f).1,(ap i1 @f).1,(ap i2 @f).1,(ap z @f).2,(ap TO @f).2,(ap i1 @f).2,(ap i2 @f).2⟩;have XG:@cN:=@cf;have inH:∀c∈[z,TI,TO,i1,i2],c≠s.heap.objs.size:=λc hc=>by
   simp only[bF,b9,or_false] at hc;rcases hc with rfl |rfl |rfl |rfl |rfl
   .exact bu (aQ st.hz)
   .exact bu (aQ st.hI)
   .exact bu (aQ hO)
   .obtain⟨o,e,_⟩:=st.h1;exact bu (aQ e)
   .obtain⟨o,e,_⟩:=st.h2;exact bu (aQ e)
  refine wpAny_pyNext_zip_item Dz st.hz st.hI hO st.h1 st.h2 p1.isList p2.isList (x:=u1) (y:=u2) (by simpa using hu1) (by simpa using hu2) λh' a1 a2 a3 a4 a5 a6 a7=>?_;refine⟨_,rfl,?_⟩;have k1:∀c o,c∉[z,TI,TO,i1,i2]->s.heap.get? c=@i->h'.get? c=@i:=λc o hc q=>
   a7 c o (λe=>hc (by simp[e])) (λe=>hc (by simp[e])) (λe=>hc (by simp[e])) (λe=>hc (by simp[e])) q
  have I1:Inv X pins σ (upd H s.heap.objs.size (.tup [x,y])) @as :=
   I.xS (t':=s.toks) (fp:=[z,TI,TO,i1,i2]) hf k1 @J ⟨by show 2<=ba;decide,[u1,u2],.cons O3 (.cons RM .nil),⟨_,a5,rfl,_,rfl⟩⟩
  refine wpAny_letOwnedTupleGo_zip (s:=@as) a1 λh2 hz2 Fc=>?_;have f1:∀c∈[z,TI,TO,i1,i2],pK X pins (upd H s.heap.objs.size (.tup [x,y])) c:=λc hc=>(hf c hc).upd (inH c hc);have I2:Inv X pins σ (upd H s.heap.objs.size (.tup [x,y])) {s with heap:=h2} :=
   Inv.qe (s:=@as) (t':=s.toks) (fp:=[z,TI,TO,i1,i2]) I1 f1 λc o hc q=>(Fc.2 c (λe=>hc (by simp[e]))).trans q
  have hI':IsPair h' TI (.ref i1) (.ref i2):=a7 TI _ (cO n1) n5 n6 n7 st.hI;refine⟨@aE,_,I2,rfl,⟨_,x,y,rfl,XG,rfl,λzs hs=>by rw[I.u5 hs YT];exact hx,λzs hs=>by rw[I.u5 hs YS];exact hy⟩,⟨hz2,?_,⟨u1,u2,?_⟩,?_,?_⟩,λc hc=>(f1 c hc).1⟩
  .exact(Fc.2 TI (cO n1)).trans hI'
  .exact(Fc.2 TO (cO n2)).trans a2
  .exact a3.at λo q=>(Fc.2 i1 (cO n3)).trans q
  .exact a4.at λo q=>(Fc.2 i2 (cO n4)).trans q
 done:=by
  ext l;ext m;obtain⟨xs,ys,YT,YS,hx⟩:=hg;obtain⟨TJ,rv1,p1,hz1⟩:=I.list YT;obtain⟨wj,O0,p2,hz2⟩:=I.list YS;have hl1:=rv1.length;have Bt:=O0.length;obtain⟨xo,yo,hO⟩:=st.hO;have ap:∀c∈[z,TI,TO,i1,i2],a≠c/\b≠c:=λc hc=>⟨x8 I YT (hf c hc),x8 I YS (hf c hc)⟩;simp only[aT,bF,b9,or_false,not_or] at nd;obtain⟨⟨n1,n2,n3,n4⟩,⟨n5,n6,n7⟩,⟨n8,n9⟩,n10,_⟩:=nd;have Dz:ZipApart z TI TO i1 i2 a b:=⟨cO n1,cO n2,cO n3,cO n4,n5,n6,n7,n8,n9,n10,(ap z @f).1,(ap TO @f).1,(ap i1 @f).1,(ap i2 @f).1,(ap z @f).2,(ap TO @f).2,(ap i1 @f).2,(ap i2 @f).2⟩;refine wpAny_pyNext_zip_end (@cg) Dz st.hz st.hI hO st.h1 st.h2 p1.isList p2.isList (by
   rcases hx with hx |hx
   .left;simp;lia
   .right;simp;lia) λh' k1=>⟨rfl,?_⟩
  exact I.qe (t':=s.toks) (fp:=[z,TI,TO,i1,i2]) hf λc o hc q=>k1 c o (λe=>hc (by simp[e])) (λe=>hc (by simp[e])) (λe=>hc (by simp[e])) (λe=>hc (by simp[e])) q
 self:=λA i s Q E st h=>wpAny_pyIter_zip st.hz h
end L2
namespace K2
open PySem PySem.Spec PyProof.Rows L2
section
variable {X:Cx} {elts:@az} {kk:Nat} {wZ:Pos} {a b:Expr} {ta tb:gC} {pos p:Pos}
theorem Jh(I:@k)(ab:@aN)(rx:RelV x v)(rd:cm X.K H x d)(hi:yG d G=some (ds,ok)):
  ∃l vs,v=@Y/\pO X.K H l vs/\bc X.K H vs ds/\∀H2 G2,Kp H H2->lh X.K H2 G2->ok G2->∃ws,pO X.K H2 l ws/\bc X.K H2 ws ds:=by
 cases rd with
 |dc hq rs=>cases hi;cases rx;exact⟨_,_,rfl,hq.sq,rs,λH2 G2 k ab _=>⟨_,(k.Yo hq).sq,rs.mono k⟩⟩
 | ref l=>
  unfold yG at hi;dsimp only at hi;cases hg:G l with
  |none=>rw[hg] at hi;cases hi
  | some gg=>
   rw[hg] at hi;cases gg with
   |lst zs=>
    cases hi;cases rx;ext t;refine⟨_,_,rfl,.of hv,rs,λH2 G2 k ab o=>?_⟩;obtain⟨ws,hw,su⟩:=ab.lst o;exact⟨ws,.of hw,su⟩
   |ins _ _=>cases hi
   |tR _=>cases hi
   |gz _=>cases hi
 |_=>cases hi
theorem WH (hg:Gl X "zip") (hm:X.mg "zip"=none) (ha:@ba) (hb:eU X b tb) (hs:autoParam (a8 [a,b] X.env=[@cw,(false,eval b X.env)]) Ar._auto_1) (Fc:autoParam (a8 [b] X.env=[(false,eval b X.env)]) Ar._auto_1):
  Be X (.Tuple elts kk wZ) (.Call (.Name "zip" p) [a,b] [] pos) (LY ta tb):=by
 intro E pins s σ H τ G R hE I h;have hA:wO X [a,b] (aq ta (aq tb aK)):=rg ha (rg hb yA Fc) (by rw[hs,Fc]);refine Call_ (qK I.inv hg hm abg (gZ (zJ hA pos hE I (R:=aff λx y G1=>xm x y G1 R) h λvs H1 ds G1 us s1 I1 m1 r1 j4 q1=>?_) (by rw[hs,Fc]) (by rw[Fc];rfl)))
 match ds,q1 with
 | [x,y],q1=>
  change xm x y G1 R at q1;obtain⟨w1,w2,rfl,F6,RI⟩:=j4.two;obtain⟨u1,u2,rfl,O3,RM⟩:=vals2 r1;unfold xm at q1;split at q1
  .rename_i xs k1 ys k2 e1 e2;obtain⟨l1,v1,rfl,YT,rs1,st1⟩:=Jh I1.inv I1.ab O3 F6 e1;obtain⟨l2,v2,rfl,YS,Ku,Vw⟩:=Jh I1.inv I1.ab RM RI e2;obtain⟨TJ,rv1,pl1,_⟩:=I1.inv.list YT;obtain⟨wj,O0,pl2,_⟩:=I1.inv.list YS;refine call_zip_2 pl1.isList pl2.isList λh' z1 z2 z3 z4 z5 z6 z7=>?_;refine wpAny_pyIter_zip z1 ?_;refine⟨_,[s1.heap.objs.size+4,s1.heap.objs.size+2,s1.heap.objs.size+3,s1.heap.objs.size,s1.heap.objs.size+1],_,_,H1,G1,sd xs ys,_,rfl,I1.inv.kept (t':=s1.toks) z7,m1,
    Rm l1 l2 _ _ _ _ _ @f,⟨z1,z2,⟨_,_,z3⟩,z4,z5⟩,λc hc=>?_,λi H2 G2 k ab o=>?_,q1⟩
   .have QW:s1.heap.objs.size<=c:=by
     simp only[bF,b9,or_false] at hc;rcases hc with rfl |rfl |rfl |rfl |rfl
     .exact xF _ _
     .exact xF _ _
     .exact xF _ _
     .exact aH _
     .exact xF _ _
    exact I1.inv.Ds QW (I1.inv.cx.fresh QW)
   .obtain⟨ws1,hw1,j4⟩:=st1 H2 G2 k ab o.1;obtain⟨ws2,hw2,zS⟩:=Vw H2 G2 k ab o.2;refine⟨λd hd=>?_,λhl=>⟨ws1,ws2,hw1,hw2,?_⟩⟩
    .rw[H0] at hd;cases hx:xs[i]? with
     |none=>rw[hx] at hd;cases hd
     | some x'=>
      cases hy:ys[i]? with
      |none=>rw[hx,hy] at hd;cases hd
      |some y'=>
       rw[hx,hy] at hd;have ed:D.tup [x',y']=d:=by simpa using hd
       subst ed;obtain⟨vx,hvx,rx⟩:=j4.get hx;obtain⟨vy,hvy,ry⟩:=zS.get hy;refine⟨⟨ws1,vx,ws2,vy,hw1,hvx,hw2,hvy⟩,?_⟩;rintro v H3 ⟨T,px,py,ex,hT,e3,hx3,hy3⟩;subst ex e3;have q1:=hx3 ws1 hw1;have q2:=hy3 ws2 hw2;rw[hvx] at q1;rw[hvy] at q2;cases q1;cases q2;exact⟨.tup bV (.cons (rx.mono (.new hT)) (.cons (ry.mono (.new hT)) .nil)),.Kz ab hT⟩
    .rw[HZ] at hl;rw[j4.length,zS.length];lia
  .exact q1.elim
 |[],q1=>ext e
 |[_],q1=>ext e
 |_::_::_::_,q1=>ext e
end
end K2
end
section
namespace K2
open PySem PySem.W PyProof.Rows
noncomputable def jy(lt:Nat->@a0):KasT α->α
 |.ret a=>a
 |.ask i j k=>jy lt (k (lt i j))
theorem oP(lt)(f:α->KasT β):∀t:KasT α,jy lt (t.bind f)=jy lt (f (jy lt t))
 |.ret _=>rfl
 |.ask i j k=>oP lt f (k (lt i j))
noncomputable abbrev gA(p:Array Nat)(k:Nat):Nat:=p.getD k 0
theorem Fg(p)(k):gA p k=(p[k]?).getD 0:=by
 unfold gA;rw[Array.getD_eq_getD_getElem?]
structure Qv(lt:Nat->@a0):Prop where
 asymm:∀i j,lt i j=true->lt j i=false
 trans:∀i j k,lt j i=false->lt k j=false->lt k i=false
theorem Qv.refl(w:Qv lt)(i):lt i i=false:=by
 cases h:lt i i with
 |false=>rfl
 |true=>rw[w.asymm _ _ h] at h;cases h
def Up(lt:Nat->@a0)(p:Array Nat)(m:Nat):Prop:=∀i j,i<=j->j<m->lt (gA p j) (gA p i)=false
def Dn(lt:Nat->@a0)(p:Array Nat)(m:Nat):Prop:=∀i j,i<=j->j<m->lt (gA p i) (gA p j)=false
section
variable {lt:Nat->@a0}
theorem Up.more(w:Qv lt)(h1:1<=n)(h:Up lt p n)(hs:∀k,n<=k->k<m->lt (gA p k) (gA p (k-1))=false):Up lt p m:=by
 intro i j P7 hjm;induction j with
 |zero=>
  have:i=0:=@d
  subst this;exact w.refl _
 | succ j ih=>
  by_cases hj:j+1<n
  .exact h i (j+1) P7 hj
  .by_cases e:i=j+1
   .subst e;exact w.refl _
   .have h1:=ih @c @c;have h2:=hs (j+1) @c hjm;exact w.trans _ _ _ h1 h2
theorem Na(p):∀(f n:Nat),n<=jy lt (uo p f n)/\jy lt (uo p f n)<=n+f/\(∀k,n<=k->k<jy lt (uo p f n)->lt (gA p k) (gA p (k-1))=false) /\
  (jy lt (uo p f n)<n+f->lt (gA p (jy lt (uo p f n))) (gA p (jy lt (uo p f n)-1))=true):=by
 intro f;induction f with
 |zero=>intro n;exact⟨aH _,aH _,λk h1 h2=>absurd (show k<n from h2) @c,λh=>absurd (show n<n+0 from h) @c⟩
 | succ f ih=>
  intro n;have e:jy lt (uo p (f+1) n)=if lt (gA p n) (gA p (n-1))=true then n else jy lt (uo p f (n+1)):=by
   show jy lt (if lt (gA p n) (gA p (n-1))=true then zH n else uo p f (n+1))=_;split<;>rfl
  rw[e];by_cases c:lt (gA p n) (gA p (n-1))=true
  .rw[if_pos c];exact⟨aH _,@d,λk h1 h2=>absurd h2 @c,λ_=>c⟩
  .rw[if_neg c];obtain⟨h1,h2,h3,h4⟩:=ih (n+1);refine⟨@d,@d,λk k1 k2=>?_,λh=>h4 @c⟩;by_cases e:k=n
   .subst e;simpa using c
   .exact h3 k @c k2
theorem jv(hj:j<=p.size)(k):gA (iT p i j) k=if i<=k/\k<j then gA p (i+j-1-k) else gA p k:=by
 rw[Fg,iT,getElem?_mirror_all hj];split<;>rw[Fg]
theorem pz(p)(i j):(iT p i j).size=p.size:=mirror_size _ _ _ _
theorem lK(p)(i j):(iT p i j).Perm p:=mirror_perm _ _ _ _
theorem Dn.rev(w:Qv lt)(hn:n<=p.size)(h:Dn lt p n)(he:∀k,a<=k->k<n->lt (gA p (n-1)) (gA p k)=false):Dn lt (iT p a n) n:=by
 intro i j P7 hjn;rw[jv hn,jv hn];by_cases hi:a<=i
 .rw[if_pos ⟨hi,@d⟩,if_pos ⟨@d,hjn⟩];exact w.trans _ _ _ (he (a+n-1-j) @c @c) (h (a+n-1-i) (n-1) @c @c)
 .rw[if_neg @c];by_cases hj:a<=j
  .rw[if_pos ⟨hj,hjn⟩];exact h i (a+n-1-j) @c @c
  .rw[if_neg @c];exact h i j P7 hjn
def Eqs(lt:Nat->@a0)(p:Array Nat)(n q:Nat):Prop:=q+1<=n/\∀k,n-(q+1)<=k->k<n->lt (gA p (n-1)) (gA p k)=false
theorem Dn.one(w:Qv lt)(h1:1<=n)(h:Dn lt p n)(hc:lt (gA p (n-1)) (gA p n)=false):Dn lt p (n+1):=by
 intro i j P7 hj;by_cases e:j=n
 .subst e;by_cases e2:i=j
  .subst e2;exact w.refl _
  .exact w.trans _ _ _ hc (h i (j-1) @c @c)
 .exact h i j P7 @c
theorem RL(w:Qv lt):∀(f:Nat) (p:Array Nat) (n q:Nat),n+f<=p.size->Dn lt p n->Eqs lt p n q->∃p' n' q',jy lt (mX f p n q)=(p',n',q')/\p'.Perm p/\p'.size=p.size/\n<=n'/\n'<=n+f/\Dn lt p' n'/\Eqs lt p' n' q':=by
 intro f;induction f with
 |zero=>intro p n q _ hd he;exact⟨p,n,q,rfl,pN _,rfl,aH _,aH _,hd,he⟩
 | succ f ih=>
  intro p n q hs hd he;have h1:1<=n:=by have:=he.1;lia
  have e:jy lt (mX (f+1) p n q)=if lt (gA p n) (gA p (n-1))=true then(if q>0 then jy lt (mX f (iT p (n-(q+1)) n) (n+1) 0) else jy lt (mX f p (n+1) 0))
    else if lt (gA p (n-1)) (gA p n)=true then(p,n,q) else jy lt (mX f p (n+1) (q+1)):=by
   show jy lt (if lt (gA p n) (gA p (n-1))=true then(if q>0 then mX f (iT p (n-(q+1)) n) (n+1) 0 else mX f p (n+1) 0) else .ask (gA p (n-1)) (gA p n) λd=>if d=true then .ret (p,n,q) else mX f p (n+1) (q+1))=_;split
   .split<;>rfl
   .show jy lt (if lt (gA p (n-1)) (gA p n)=true then zH (p,n,q) else mX f p (n+1) (q+1))=_;split<;>rfl
  rw[e];by_cases c:lt (gA p n) (gA p (n-1))=true
  .rw [if_pos c];have ca:=w.asymm _ _ c;by_cases hq:q>0
   .rw[if_pos hq];have d1:Dn lt (iT p (n-(q+1)) n) n:=hd.rev w @c he.2;have en:gA (iT p (n-(q+1)) n) n=gA p n:=by rw[jv @c,if_neg @c]
    have ca':lt (gA (iT p (n-(q+1)) n) (n-1)) (gA (iT p (n-(q+1)) n) n)=false:=by
     rw[en,jv @c];split
     .-- an item of the ad5 is above p n
      exact w.trans _ _ _ ca (hd _ (n-1) @c @c)
     .exact ca
    obtain⟨p',n',q',z,h2,h3,h4,h5,h6,h7⟩:=ih (iT p (n-(q+1)) n) (n+1) 0 (by rw[pz];lia) (d1.one w h1 ca') ⟨@d,λk k1 k2=>by
     have:k=n:=@d
     subst this;exact w.refl _⟩
    exact⟨p',n',q',z,h2.trans (lK _ _ _),h3.trans (pz _ _ _),@d,@d,h6,h7⟩
   .rw[if_neg hq];obtain⟨p',n',q',z,h2,h3,h4,h5,h6,h7⟩:=ih p (n+1) 0 @c (hd.one w h1 ca) ⟨@d,λk k1 k2=>by
     have:k=n:=@d
     subst this;exact w.refl _⟩
    exact⟨p',n',q',z,h2,h3,@d,@d,h6,h7⟩
  .rw[if_neg c];have c':lt (gA p n) (gA p (n-1))=false:=by simpa using c
   by_cases d:lt (gA p (n-1)) (gA p n)=true
   .rw[if_pos d];exact⟨p,n,q,rfl,pN _,rfl,aH _,@d,hd,he⟩
   .rw[if_neg d];have d':lt (gA p (n-1)) (gA p n)=false:=by simpa using d
    obtain⟨p',n',q',z,h2,h3,h4,h5,h6,h7⟩:=ih p (n+1) (q+1) @c (hd.one w h1 d') ⟨by have:=he.1;lia,λk k1 k2=>by
     rw[Nat.add_sub_cancel];by_cases e:k=n
     .subst e;exact w.refl _
     .exact w.trans _ _ _ (he.2 k @c @c) c'⟩
    exact⟨p',n',q',z,h2,h3,@d,@d,h6,h7⟩
theorem Dn.up(hn:n<=p.size)(h:Dn lt p n):Up lt (iT p 0 n) n:=by
 intro i j P7 hjn;rw[jv hn,jv hn,if_pos ⟨@d,hjn⟩,if_pos ⟨@d,@d⟩];exact h _ _ @c @c
theorem Iq(w:Qv lt)(h1:1<=n)(hn:n<=nrem)(hs:nrem<=p.size)(h:Dn lt p n):∃p' m,jy lt (Q5 n nrem p)=(m,p')/\p'.Perm p/\p'.size=p.size/\n<=m/\m<=nrem/\Up lt p' m:=by
 obtain⟨a1,a2,a3,_⟩:=Na (lt:=lt) (iT p 0 n) (nrem-n) n;refine⟨iT p 0 n,jy lt (uo (iT p 0 n) (nrem-n) n),by rw[Q5,oP];rfl,lK _ _ _,pz _ _ _,a1,@d,?_⟩;exact(h.up @c).more w h1 a3
theorem yg(w:Qv lt)(h1:1<=n)(hn:n<nrem)(hs:nrem<=p.size)(h:Dn lt p n)(hc:lt (gA p (n-1)) (gA p n)=false):
  ∃p' m,jy lt (B8 n nrem p)=(m,p')/\p'.Perm p/\p'.size=p.size/\n<=m/\m<=nrem/\Up lt p' m:=by
 obtain⟨p1,n1,q1,z,z2,z3,z4,z5,z6,z7⟩:=RL w (nrem-(n+1)) p (n+1) 0 @c (h.one w h1 hc) ⟨@d,λk k1 k2=>by
  have:k=n:=@d
  subst this;exact w.refl _⟩
 rw[B8,oP,z];show ∃p' m,jy lt (if q1>0 then Q5 n1 nrem (iT p1 (n1-(q1+1)) n1) else Q5 n1 nrem p1)=(m,p')/\_;by_cases hq:q1>0
 .rw[if_pos hq];obtain⟨p',m,y1,y2,y3,y4,y5,y6⟩:=Iq (nrem:=nrem) w (p:=iT p1 (n1-(q1+1)) n1) @c @c (by rw[pz];lia) (z6.rev w @c z7.2);exact⟨p',m,y1,(y2.trans (lK _ _ _)).trans z2,(y3.trans (pz _ _ _)).trans z3,@d,y5,y6⟩
 .rw[if_neg hq];obtain⟨p',m,y1,y2,y3,y4,y5,y6⟩:=Iq (nrem:=nrem) w (p:=p1) @c @c @c z6;exact⟨p',m,y1,y2.trans z2,y3.trans z3,@d,y5,y6⟩
theorem O2(w:Qv lt)(h1:1<=nrem)(hs:nrem<=p.size):∃p' m,jy lt (kas_count nrem p)=(m,p')/\p'.Perm p/\p'.size=p.size/\1<=m/\m<=nrem/\Up lt p' m:=by
 obtain⟨a1,a2,a3,a4⟩:=Na (lt:=lt) p (nrem-1) 1;rw[kas_count,oP];generalize jy lt (uo p (nrem-1) 1)=n at a1 a2 a3 a4;have u1:Up lt p 1:=λi j P7 hj=>by
  have:i=j:=@d
  subst this;exact w.refl _
 have up:Up lt p n:=u1.more w @J a3;by_cases e:n=nrem
 .subst e;rw[if_pos @f];exact⟨p,n,rfl,pN _,rfl,a1,aH _,up⟩
 .rw [if_neg (@bV)];have hb:=a4 @c;by_cases h2:n>1
  .rw[if_pos h2];show ∃p' m,jy lt (if lt (gA p 0) (gA p (n-1))=true then zH (n,p) else B8 n nrem (iT p 0 n))=(m,p')/\_;by_cases c:lt (gA p 0) (gA p (n-1))=true
   .rw[if_pos c];exact⟨p,n,rfl,pN _,rfl,a1,@d,up⟩
   .rw[if_neg c];have c':lt (gA p 0) (gA p (n-1))=false:=by simpa using c
    have all:∀i j,i<n->j<n->lt (gA p i) (gA p j)=false:=λi j hi hj=>
     w.trans _ _ _ (w.trans _ _ _ (up j (n-1) @c @c) c') (up 0 i @c hi)
    have d1:Dn lt (iT p 0 n) n:=λi j P7 hj=>by
     rw[jv @c,jv @c,if_pos ⟨@d,@d⟩,if_pos ⟨@d,hj⟩];exact all _ _ @c @c
    have hl:lt (gA (iT p 0 n) (n-1)) (gA (iT p 0 n) n)=false:=by
     rw[jv @c,jv @c,if_pos ⟨@d,@d⟩,if_neg @c];exact w.trans _ _ _ (w.asymm _ _ hb) (all _ _ @c @c)
    obtain⟨p',m,y1,y2,y3,y4,y5,y6⟩:=yg (nrem:=nrem) w (p:=iT p 0 n) a1 @c (by rw[pz];lia) d1 hl;exact⟨p',m,y1,y2.trans (lK _ _ _),y3.trans (pz _ _ _),@d,y5,y6⟩
  .rw[if_neg h2];have e1:n=1:=@d
   subst e1;have d1:Dn lt p 1:=λi j P7 hj=>by
    have:i=j:=@d
    subst this;exact w.refl _
   obtain⟨p',m,y1,y2,y3,y4,y5,y6⟩:=yg (nrem:=nrem) w (p:=p) @J @c hs d1 (w.asymm _ _ hb);exact⟨p',m,y1,y2,y3,@d,y5,y6⟩
theorem O1(w:Qv lt):∀(f l r:Nat),l<=r->r<=k->r-l<=f->Up lt p k->(∀i,i<l->lt (gA p k) (gA p i)=false)->(∀i,r<=i->i<k->lt (gA p k) (gA p i)=true) ->
  ∃m,jy lt (lE p k f l r)=m/\m<=k/\(∀i,i<m->lt (gA p k) (gA p i)=false)/\(∀i,m<=i->i<k->lt (gA p k) (gA p i)=true):=by
 intro f;induction f with
 |zero=>
  intro l r hlr hrk hf up h1 h2;have:l=r:=@d
  subst this;exact⟨l,rfl,hrk,h1,h2⟩
 | succ f ih=>
  intro l r hlr hrk hf up h1 h2;have e:jy lt (lE p k (f+1) l r)=if l>=r then l else if lt (gA p k) (gA p ((l+r) / 2))=true then jy lt (lE p k f l ((l+r) / 2)) else jy lt (lE p k f ((l+r) / 2+1) r):=by
   show jy lt (if l>=r then zH l else .ask (gA p k) (gA p ((l+r) / 2)) λc=>if c=true then lE p k f l ((l+r) / 2) else lE p k f ((l+r) / 2+1) r)=_;split
   .rfl
   .show jy lt (if lt (gA p k) (gA p ((l+r) / 2))=true then lE p k f l ((l+r) / 2) else lE p k f ((l+r) / 2+1) r)=_;split<;>rfl
  rw[e];by_cases c:l>=r
  .rw[if_pos c];have:l=r:=@d
   subst this;exact⟨l,rfl,hrk,h1,h2⟩
  .rw[if_neg c];by_cases d:lt (gA p k) (gA p ((l+r) / 2))=true
   .rw[if_pos d];refine ih l ((l+r) / 2) @c @c @c up h1 λi i1 i2=>?_;cases q:lt (gA p k) (gA p i) with
    |true=>rfl
    |false=>rw[w.trans _ _ _ (up ((l+r) / 2) i i1 i2) q] at d;cases d
   .rw[if_neg d];refine ih ((l+r) / 2+1) r @c hrk @c up (λi hi=>?_) h2;exact w.trans _ _ _ (up i ((l+r) / 2) @c @c) (by simpa using d)
theorem Fh(hs:src<p.size)(hd:d<=src)(k):gA (bubble p src d) k=if k=src-d then gA p src else if src-d<k/\k<=src then gA p (k-1) else gA p k:=by
 rw[Fg,getElem?_bubble hs d hd,Fg p src,Fg p (k-1),Fg p k];by_cases h1:k=src-d
 .rw[if_pos h1,if_pos h1]
 .rw[if_neg h1,if_neg h1];by_cases h2:src-d<k/\k<=src
  .rw[if_pos h2,if_pos h2]
  .rw[if_neg h2,if_neg h2]
theorem We(w:Qv lt):∀(f:Nat) (p:Array Nat) (k:Nat),k+f<=p.size->Up lt p k->∃p',jy lt (kas_bin f p k)=p'/\p'.Perm p/\p'.size=p.size/\Up lt p' (k+f):=by
 intro f;induction f with
 |zero=>intro p k _ up;exact⟨p,rfl,pN _,rfl,up⟩
 | succ f ih=>
  intro p k hs up;obtain⟨m,e,hm,h1,h2⟩:=O1 w k 0 k (cI _) @J @J up (λi hi=>absurd hi @c) (λi i1 i2=>absurd i1 @c);have up':Up lt (bubble p k (k-m)) (k+1):=by
   intro i j P7 hj;rw[Fh @c @c,Fh @c @c];have ek:k-(k-m)=m:=@d
   rw[ek];by_cases j1:j=m
   .rw[if_pos j1];by_cases i1:i=m
    .rw[if_pos i1];exact w.refl _
    .rw[if_neg i1,if_neg @c];exact h1 i @c
   .rw[if_neg j1];by_cases j2:m<j/\j<=k
    .rw[if_pos j2];by_cases i1:i=m
     .rw[if_pos i1];exact w.asymm _ _ (h2 (j-1) @c @c)
     .rw[if_neg i1];by_cases i2:m<i/\i<=k
      .rw[if_pos i2];exact up _ _ @c @c
      .rw[if_neg i2];exact up _ _ @c @c
    .rw[if_neg j2,if_neg @c,if_neg @c];exact up _ _ P7 @c
  obtain⟨p',z,z1,z2,z3⟩:=ih (bubble p k (k-m)) (k+1) (by rw[bubble_size];lia) up';refine⟨p',?_,z1.trans (bubble_perm _ _ _),z2.trans (bubble_size _ _ _),by rw[show k+(f+1)=k+1+f by lia];exact z3⟩;rw[kas_bin,oP,e];exact z
theorem RJ(w:Qv lt)(h1:1<=n):∃p,jy lt (kas_sort n)=p/\p.toList.Perm (fG n)/\p.size=n/\Up lt p n:=by
 obtain⟨p,m,z,z1,z2,z3,z4,z5⟩:=O2 w (p:=(fG n).toArray) h1 @f;have zs:p.size=n:=by rw[z2];simp
 have zp:p.toList.Perm (fG n):=by simpa using z1.toList
 rw[kas_sort,oP,z];show ∃q,jy lt (if m<n then kas_bin (n-max m 1) p (max m 1) else .ret p)=q/\_;by_cases c:m<n
 .rw[if_pos c];have em:max m 1=m:=@d
  rw[em];obtain⟨p',y,y1,y2,y3⟩:=We w (n-m) p m @c z5;exact⟨p',y,(by simpa using y1.toList:p'.toList.Perm p.toList).trans zp,y2.trans zs,by rw[show n=m+(n-m) by lia];exact y3⟩
 .rw[if_neg c];have:m=n:=@d
  subst this;exact⟨p,rfl,zp,zs,z5⟩
end
end K2
end
section
namespace K2
open PySem PySem.Spec PyProof.Rows L2
open PySem.AutoSeq1 (wpAny_loadPart')
open PySem.MeetsSeq PySem.MeetsSeq2 PySem.MeetsSeq3 PySem.SeqAt
def D3(A:cZ)(s:aB)(y x:Value)(b:Bool):Prop :=
 ∀(prog:bz) (w:World) (E:@I) (Q:@I),Q (.bool b) s->wpAny @P A (uk .Lt y x) Q E s
noncomputable def wg(e l:@a0)(n m:Nat):Nat->@a0
 |0,_=>decide (n<m)
 |f+1,i=>if e i=true then wg e l n m f (i+1) else l i
theorem Xu(l b)(xs ys)(n m)(dd de)(sl sm)(e lt)(k):
  ∀ i:Nat,i<=@bL->@bL-i=k->Meets (Builtin.«list.__eq__.loop» ⟨[@Y,.ref b,AB i,AB 0],[]⟩)
   (λA R s=>@cA=some {cls:=@ad,dict:=dd,data:=.seq xs n,slots:=sl}/\@am=some {cls:=@ad,dict:=de,data:=.seq ys m,slots:=sm} /\
    (∀j (h1:j<xs.size) (h2:j<ys.size),EqAt A.in1 s xs[j] ys[j] (e j)/\D3 A.in1 s xs[j] ys[j] (lt j)) /\
    R (.ok (.ret (.bool (wg e lt xs.size ys.size k i)))) s):=by
 induction k with
 | zero=>
  intro i hi hk prog w A R s h;obtain⟨hp,g,d,tk,os⟩:=s;obtain⟨hl,hb,he,h⟩:=h
  wp_walk using bX hl,bX hb
  by_cases c:xs.size<=ys.size
  .have h1:xs[((i:Nat):Int).toNat]?=none:=by simp;lia
   rw[h1]
   wp_walk using bX hl,bX hb
   exact h
  .have h2:ys[((i:Nat):Int).toNat]?=none:=by simp;lia
   rw[h2];cases q:xs[((i:Nat):Int).toNat]? with
   |none=>
    wp_walk using bX hl,bX hb
    exact h
   |some v=>
    wp_walk using bX hl,bX hb
    exact h
 | succ k ih=>
  intro i hi hk prog w A R s h;obtain⟨hp,g,d,tk,os⟩:=s;obtain⟨hl,hb,he,h⟩:=h
  wp_walk using bX hl,bX hb
  have l1:i<xs.size:=@d
  have l2:i<ys.size:=@d
  have h1:xs[((i:Nat):Int).toNat]?=some xs[i]:=by simp[l1]
  have h2:ys[((i:Nat):Int).toNat]?=some ys[i]:=by simp[l2]
  have hc:(@ay+1)=((i+1:Nat):Int):=by push_cast;rfl
  rw[h1,h2];refine ah ((he i l1 l2).1 prog w _ _ ?_);cases q:e i with
  | true=>
   rw[wg,q,if_pos rfl] at h
   wp_walk
   rw[hc];exact⟨tX plain_eq_loop _,lF entry_eq_loop (by
    rw[lq plain_eq_loop _];exact ih (i+1) @c @c prog w A R _ ⟨hl,hb,he,h⟩)⟩
  |false=>
   rw[wg,q,if_neg @f] at h
   wp_walk using bX hl,bX hb
   rw[h1,h2];have hri:=(he i l1 l2).2 prog w
   wp_walk using hri
   exact h
theorem E6(l b)(xs ys)(n m)(dd de)(sl sm)(e lt):
  Meets (Builtin.«list.__lt__» ⟨[@Y,.ref b],[]⟩)
   (λA R s=>@cA=some {cls:=@ad,dict:=dd,data:=.seq xs n,slots:=sl}/\@am=some {cls:=@ad,dict:=de,data:=.seq ys m,slots:=sm} /\
    (∀j (h1:j<xs.size) (h2:j<ys.size),EqAt A.in1 s xs[j] ys[j] (e j)/\D3 A.in1 s xs[j] ys[j] (lt j)) /\
    R (.ok (.ret (.bool (wg e lt xs.size ys.size (@bL) 0)))) s):=by
 intro prog w A R s h;obtain⟨hp,g,d,tk,os⟩:=s;obtain⟨hl,hb,he,h⟩:=h;have f3:=K6
 wp_walk using bX hl,bX hb
 exact⟨tX plain_eq_loop _,lF entry_eq_loop (by
  rw[lq plain_eq_loop _];exact Xu l b xs ys n m dd de sl sm e lt _ 0 (cI _) rfl prog w A R _ ⟨hl,hb,he,h⟩)⟩
theorem Cn(l b)(xs ys)(n m)(dd de)(sl sm)(e lt):
  Meets (Builtin.«tuple.__lt__» ⟨[@Y,.ref b],[]⟩)
   (λA R s=>@cA=some {cls:=@aj,dict:=dd,data:=.seq xs n,slots:=sl}/\@am=some {cls:=@aj,dict:=de,data:=.seq ys m,slots:=sm} /\
    (∀j (h1:j<xs.size) (h2:j<ys.size),EqAt A.in1 s xs[j] ys[j] (e j)/\D3 A.in1 s xs[j] ys[j] (lt j)) /\
    R (.ok (.ret (.bool (wg e lt xs.size ys.size (@bL) 0)))) s) :=
 .of_wp λprog w A R s h=>by
  obtain⟨hp,g,d,tk,os⟩:=s;obtain⟨hl,hb,he,h⟩:=h;have f2:=tw;have zl:(xs.toList.zip ys.toList).length=@bL:=@K
  wp_walk using bX hl,bX hb,mW _ (λrest c s'=>c.1=none/\s'=⟨hp,g,d,tk,os⟩/\∃i,i<=@bL/\rest=(xs.toList.zip ys.toList).drop i /\
   R (.ok (.ret (.bool (wg e lt xs.size ys.size (@bL-i) i)))) ⟨hp,g,d,tk,os⟩) _
  case turn=>
   rintro⟨y,x⟩ rest c s' ⟨hc,rfl,i,hi,hz,hR⟩;have il:i<@bL:=by
    have:=congrArg dh hz;rw[bP,zl,ag] at this;lia
   have l1:i<xs.size:=@d
   have l2:i<ys.size:=@d
   rw[jd (by rw[zl];exact il)] at hz;injection hz with hyx T6
   have ey:y=xs[i]/\x=ys[i]:=by simpa using hyx
   obtain⟨rfl,rfl⟩:=ey;obtain⟨k,ek⟩:∃k,@bL-i=k+1:=⟨@bL-i-1,@d⟩;rw[ek,wg] at hR;refine ah ((he i l1 l2).1 prog w _ _ ?_);cases q:e i with
   |true=>
    rw[q,if_pos rfl] at hR
    wp_walk
    exact⟨rfl,rfl,i+1,@d,T6,by rw[show @bL-(i+1)=k by lia];exact hR⟩
   |false=>
    rw[q,if_neg @f] at hR;have hri:=(he i l1 l2).2 prog w
    wp_walk using hri
    exact⟨_,rfl,by simpa using hR⟩
  case fin=>
   rintro⟨c1,c2⟩ s' ⟨hc,rfl,i,hi,hz,hR⟩;simp only at hc;subst hc;have il:@bL-i=0:=by
    have:=congrArg dh hz;rw[bP,zl,av] at this;lia
   rw[il,wg] at hR
   wp_walk
   exact⟨_,rfl,by simpa[xP] using hR⟩
  case h=>
   exact⟨rfl,rfl,0,cI _,rfl,@b2⟩
theorem PF(hl:s.heap.IsList l xs)(hb:s.heap.IsList b ys)(hu:A.units<cLine)
  (he:∀j (h1:j<xs.size) (h2:j<ys.size),EqAt A.in1 s xs[j] ys[j] (e j)/\D3 A.in1 s xs[j] ys[j] (lt j)):D3 A s (@Y) (.ref b) (wg e lt xs.size ys.size (@bL) 0):=by
 intro prog w E Q hq;obtain⟨⟨cls,dd,data,sl⟩,ho,hc,n,hd⟩:=id hl;obtain⟨⟨UM,HI,data2,Io⟩,Fd,GB,n2,hd2⟩:=id hb;simp only at hc hd GB hd2;subst hc hd GB hd2;exact Bk (op:=.Lt) ⟨_,ho,rfl⟩ ⟨_,Fd,rfl⟩ xM OI (MU _ _) (E6 l b xs ys n n2 dd HI sl Io e lt)
  ⟨ho,Fd,he,(λx=>nomatch x),hq⟩ hu
theorem LN(hl:s.heap.IsTuple l xs)(hb:s.heap.IsTuple b ys)(hu:A.units<cLine)
  (he:∀j (h1:j<xs.size) (h2:j<ys.size),EqAt A.in1 s xs[j] ys[j] (e j)/\D3 A.in1 s xs[j] ys[j] (lt j)):D3 A s (@Y) (.ref b) (wg e lt xs.size ys.size (@bL) 0):=by
 intro prog w E Q hq;obtain⟨⟨cls,dd,data,sl⟩,ho,hc,n,hd⟩:=id hl;obtain⟨⟨UM,HI,data2,Io⟩,Fd,GB,n2,hd2⟩:=id hb;simp only at hc hd GB hd2;subst hc hd GB hd2;exact Bk (op:=.Lt) ⟨_,ho,rfl⟩ ⟨_,Fd,rfl⟩ nU v9 (uB _ _) (Cn l b xs ys n n2 dd HI sl Io e lt)
  ⟨ho,Fd,he,(λx=>nomatch x),hq⟩ hu
theorem rG(xs ys:@e):∀(k i:Nat),i<=@cX->@cX-i=k ->
  wg (λj=>i7 @b0 @b1) (λj=>rC @b0 @b1) xs.length ys.length k i=oA (xs.drop i) (ys.drop i)
 | 0,i,hi,hk=>by
  rw[wg];by_cases c:xs.length<=ys.length
  .have e1:xs.drop i=[]:=nW @c;rw[e1];cases q:ys.drop i with
   |nil=>
    have:=congrArg dh q;rw[bP,av] at this;exact @cR
   |cons y r=>
    have:=congrArg dh q;rw[bP,ag] at this;exact decide_eq_true @c
  .have e1:ys.drop i=[]:=nW @c;rw[e1];cases q:xs.drop i with
   |nil=>
    have:=congrArg dh q;rw[bP,av] at this;exact @cR
   |cons y r=>exact @cR
 |k+1,i,hi,hk=>by
  have l1:i<xs.length:=@d
  have l2:i<ys.length:=@d
  rw[wg,jd l1,jd l2,pH,rG xs ys k (i+1) @c @c];have g1:xs.getD i .fe=xs[i]:=by rw[e9,az l1];rfl
  have g2:ys.getD i .fe=ys[i]:=by rw[e9,az l2];rfl
  rw[g1,g2]
theorem lL:∀{ds:@e} {vs:@C} {as:@aG},iY h vs (nO ds) as->∀j (hj:j<vs.length),∃bs,Reads h vs[j] (pd (ds.getD j .fe)) bs
 |[],vs,as,r,j,hj=>by cases r;exact absurd hj (rY _)
 |d::ds,_,_,.cons (v:=v) (vs:=vs) r1 r2,j,hj=>by
  cases j with
  |zero=>exact⟨_,r1⟩
  |succ j=>exact lL r2 j (by simpa using hj)
theorem readsAll_len:∀{ds:@e} {vs:@C} {as:@aG},iY h vs (nO ds) as->vs.length=ds.length
 |[],_,_,r=>by cases r;rfl
 |d::ds,_,_,.cons r1 r2=>by rw[ag,ag,readsAll_len r2]
theorem sC:∀{ds:@e},tJ ds=true->∀j,nr (ds.getD j .fe)=true
 |[],_,j=>by rw[List.getD_nil];rfl
 |d::ds,h,0=>by
  have h:(nr d&&tJ ds)=true:=h;rw[aL] at h;simpa using h.1
 |d::ds,h,j+1=>by
  have h:(nr d&&tJ ds)=true:=h;rw[aL] at h;simpa using sC h.2 j
theorem mT:∀(ds:@e) (j:Nat),(pd (ds.getD j .fe)).depth<=cG (nO ds)
 |[],j=>by rw[List.getD_nil];exact aH _
 |d::ds,0=>by
  show(pd d).depth<=cG (pd d::nO ds);simp only[cG];lia
 |d::ds,j+1=>by
  have:=mT ds j;show(pd (ds.getD j .fe)).depth<=cG (pd d::nO ds);simp only[cG];lia
theorem vc:∀{l:List pY} {ds:@e},gy l ds=true->∀j,j<ds.length->∃s∈l,df s (ds.getD j .fe)=true/\l[j]?=some s
 |[],[],_,j,hj=>absurd hj (rY _)
 |[],_::_,h,_,_=>@aS
 |_::_,[],h,_,_=>@aS
 |s::l,d::ds,h,0,_=>by
  have h:(df s d&&gy l ds)=true:=h;rw[aL] at h;exact⟨s,@K,by simpa using h.1,@K⟩
 |s::l,d::ds,h,j+1,hj=>by
  have h:(df s d&&gy l ds)=true:=h;rw[aL] at h;obtain⟨s',h1,h2,h3⟩:=vc h.2 j (by simpa using hj);exact⟨s',aI _ h1,@bH,by simpa using h3⟩
theorem vd:∀{s:pY} {ds:@e},iX s ds=true->∀j,j<ds.length->df s (ds.getD j .fe)=true
 |s,[],_,j,hj=>absurd hj (rY _)
 |s,d::ds,h,0,_=>by
  have h:(df s d&&iX s ds)=true:=h;rw[aL] at h;simpa using h.1
 |s,d::ds,h,j+1,hj=>by
  have h:(df s d&&iX s ds)=true:=h;rw[aL] at h;simpa using vd h.2 j (by simpa using hj)
theorem GR{vs ws:@cp}(r1:iY s.heap vs.toList (nO xs) as)(r2:iY s.heap ws.toList (nO ys) bs)(n1:tJ xs=true)(n2:tJ ys=true)
  (hu:A.units+cG (nO xs)<cLine) (j) (h1) (h2:j<ws.size):EqAt A s vs[j] ws[j] (i7 @b0 @b1):=by
 obtain⟨as',q1⟩:=lL r1 j (@cx);obtain⟨Zc,q2⟩:=lL r2 j (@bH);have m1:=sC n1 j;have m2:=sC n2 j;have dp:=mT xs j;have:=eqAt_reads (pd @b0) (pd @b1) A s _ _ _ _ q1 q2 (lO _ m1) (lO _ m2) @c;rw[xn _ _ m1 m2] at this;ext p
theorem xj:∀(n:Nat) (sh:pY) (a b:D) (A:cZ) (s:aB) (u v:Value) (as bs:@aG),(pd a).depth<=n->df sh a=true->df sh b=true->nr a=true->nr b=true->Reads s.heap u (pd a) as->Reads s.heap v (pd b) bs->A.units+n<cLine->D3 A s u v (rC a b):=by
 intro n;induction n using Nat.strongRecOn with
 |_ n ih=>
 intro sh a b A s u v as bs hn h1 h2 n1 n2 r1 r2 hu;cases sh with
 |int=>
  ext n
  ext o
  cases r1;cases r2;intro prog w E Q hq;exact HT.CD A s _ _ _ _ prog w E Q hq
 | tup l=>
  ext n
  ext o
  rename_i xs ys;have n1:tJ xs=true:=n1;have n2:tJ ys=true:=n2;cases r1 with
  | tuple k1 k2 k3 k4=>
   cases r2 with
   | tuple m1 m2 m3 m4=>
    rename_i p o vs c p' o' ws c';have hd:(pd (.tup xs)).depth=cG (nO xs)+1:=rfl;obtain⟨n',rfl⟩:∃n',n=n'+1:=⟨n-1,@d⟩;have z1:=readsAll_len k4;have z2:=readsAll_len m4;have e1:vs.size=xs.length:=by simpa using z1
    have e2:ws.size=ys.length:=by simpa using z2
    have base:=LN (A:=A) (s:=s) (e:=λj=>i7 @b0 @b1) (lt:=λj=>rC @b0 @b1) ⟨_,k1,k2,_,k3⟩ ⟨_,m1,m2,_,m3⟩ @c (λj j1 j2=>by
     refine⟨GR k4 m4 n1 n2 (by show A.units+1+_<_;lia) j j1 j2,?_⟩;obtain⟨as',q1⟩:=lL k4 j (by simpa using j1);obtain⟨Zc,q2⟩:=lL m4 j (by simpa using j2);obtain⟨sj,hsj,g1,g2⟩:=vc (l:=l) (ds:=xs) h1 j @c;obtain⟨sj',afZ,g1',XH⟩:=vc (l:=l) (ds:=ys) h2 j @c;rw[g2] at XH;cases XH;have dp:=mT xs j;have:=ih n' @c sj @b0 @b1 A.in1 s _ _ _ _ @c g1 g1' (sC n1 j) (sC n2 j) q1 q2 (by show A.units+1+n'<cLine;lia);ext p)
    have fin:=rG xs ys (@cX) 0 (cI _) rfl;rw[e1,e2,fin] at base;exact base
 | lst l=>
  ext n
  ext o
  rename_i xs ys;have n1:tJ xs=true:=n1;have n2:tJ ys=true:=n2;cases r1 with
  | list k1 k2 k3 k4=>
   cases r2 with
   | list m1 m2 m3 m4=>
    rename_i p o vs c p' as' o' ws c' Zc;have hd:(pd (.dc xs)).depth=cG (nO xs)+1:=rfl;obtain⟨n',rfl⟩:∃n',n=n'+1:=⟨n-1,@d⟩;have z1:=readsAll_len k4;have z2:=readsAll_len m4;have e1:vs.size=xs.length:=by simpa using z1
    have e2:ws.size=ys.length:=by simpa using z2
    have base:=PF (A:=A) (s:=s) (e:=λj=>i7 @b0 @b1) (lt:=λj=>rC @b0 @b1) ⟨_,k1,k2,_,k3⟩ ⟨_,m1,m2,_,m3⟩ @c (λj j1 j2=>by
     refine⟨GR k4 m4 n1 n2 (by show A.units+1+_<_;lia) j j1 j2,?_⟩;obtain⟨as',q1⟩:=lL k4 j (by simpa using j1);obtain⟨Zc,q2⟩:=lL m4 j (by simpa using j2);have dp:=mT xs j;have:=ih n' @c l @b0 @b1 A.in1 s _ _ _ _ @c (vd (s:=l) (ds:=xs) h1 j @c) (vd (s:=l) (ds:=ys) h2 j @c) (sC n1 j) (sC n2 j) q1 q2 (by show A.units+1+n'<cLine;lia);ext p)
    have fin:=rG xs ys (@cX) 0 (cI _) rfl;rw[e1,e2,fin] at base;exact base
end K2
end
section
namespace K2
open PySem PySem.Spec PyProof.Rows L2 PySem.W
section
variable {prog:bz} {w:World} {A:cZ} {E:@I} {s:aB}
theorem RD {at':Addr} {bQ:@C} {n:Nat} {P:PySem.Fin->@af} (AZ:s.heap.get? at'=some (B6 "list" bQ.toArray n)) (BX:bQ.length<2)
  (done:P (.done (.ret .none)) {s with heap:=sortedHeap s.heap at' bQ bQ.toArray}):wpAny @P A (Builtin.«list.sort» ⟨[.ref at'],[]⟩) P E s:=by
 rw[list_sort_plain];have lt':at'<s.heap.objs.size:=aQ AZ;refine ah (listItems_at AZ rfl (ah (listUpdate_at AZ rfl ?_)));obtain⟨c,hc⟩:∃c,(s.heap.update at' (kj λ_=>#[])).get? at'=some (B6 "list" #[] c):=⟨_,get?_update_seq AZ (λ_=>#[])⟩;refine ah (seqEpoch_at hc rfl (ah (wpAny_newTuple (ah (wpAny_newList (cW ?_))))));have h6:(((s.heap.update at' (kj λ_=>#[])).push (B6 "tuple" bQ.toArray 0)).push (B6 "list" #[] 0)).get? at'=some (B6 "list" #[] c):=by
  rw[Heap.get?_push_ne _ _ _ (by rw[size_push',HB];exact bu (FP lt')),Heap.get?_push_ne _ _ _ (by rw[HB];exact bu lt')];exact hc
 show wpAny @P A _ P E {s with heap:=((s.heap.update at' (kj λ_=>#[])).push (B6 "tuple" bQ.toArray 0)).push (B6 "list" #[] 0)};dsimp only;have sz2:bQ.toArray.size<2:=by simpa using BX
 rw[if_pos sz2,if_pos sz2];refine ah (aE ?_);rw[StateT.run_pure];refine ah (aE ?_);dsimp only;have es:(bQ.toArray.zip bQ.toArray).map (·.2)=bQ.toArray:=by
  apply Array.toList_inj.mp;simp[List.map_snd_zip]
 refine ah (seqEpoch_at h6 rfl (ah (listUpdate_at h6 rfl ?_ (hsz2:=by rw[show(arrOf (SortSt.mk' general' (bQ.toArray.zip bQ.toArray) #[] 7 none)).map (·.2)=bQ.toArray from es,c5];simp;lia))));simp only[bne_self_eq_false,aj,if_false];refine aE ?_;rw[show(arrOf (SortSt.mk' general' (bQ.toArray.zip bQ.toArray) #[] 7 none)).map (·.2)=bQ.toArray from es];exact done
theorem Lh{l:Addr}{bQ:@C}{Q:@I}(hl:s.heap.IsList l bQ.toArray)(BX:bQ.length<2)
  (done:Q (.ref (@b6)) {s with heap:=sortedAll s.heap bQ bQ.toArray}):wpAny @P A (call (.builtin "sorted") [@Y]) Q E s:=by
 refine Calls.call_function_entry kind_sorted plain_sorted entry_sorted (args_sorted1 _) ?_;unfold Builtin.«sorted»;refine ah (m:=checkCount "sorted" 1 1 _) (aE (ah (collect_list hl (ah (wpAny_newList ?_)))));have e1:((s.heap.push (B6 "list" #[] 0)).update s.heap.objs.size (kj (·++bQ.toArray))).objs.size=@b6:=by rw[HB,size_push']
 have e2:(((s.heap.push (B6 "list" #[] 0)).update s.heap.objs.size (kj (·++bQ.toArray))).push (B6 "list" bQ.toArray 0)).get? (@b6)=some (B6 "list" bQ.toArray 0):=by
  rw[<-e1];exact @aX
 show wpAny _ _ _ _ _ {s with heap:=((s.heap.push (B6 "list" #[] 0)).update s.heap.objs.size (kj (·++bQ.toArray))).push (B6 "list" bQ.toArray 0)};rw[e1];refine ah (cW (dE slot_list_sort ⟨_,e2,rfl⟩ entry_list_sort (RD e2 BX ⟨_,rfl,?_⟩) (args_list_sort _)));exact aE ⟨_,rfl,done⟩
end
section
open PySem.SeqAt
def U5(A:cZ)(s:aB)(y x:Value)(b:Bool):Prop :=
 ∀(prog:bz) (w:World) (E:@I) (Q:Bool->@af),Q b s->wpAny @P A (oneLt' true y x) Q E s
theorem LC(hl:s.heap.IsList l xs)(hb:s.heap.IsList b ys)(hu:A.units<cLine)
  (he:∀j (h1:j<xs.size) (h2:j<ys.size),EqAt A.in1 s xs[j] ys[j] (e j)/\D3 A.in1 s xs[j] ys[j] (lt j)):U5 A s (@Y) (.ref b) (wg e lt xs.size ys.size (@bL) 0):=by
 intro prog w E Q hq;obtain⟨⟨cls,dd,data,sl⟩,ho,hc,n,hd⟩:=id hl;obtain⟨⟨UM,HI,data2,Io⟩,Fd,GB,n2,hd2⟩:=id hb;simp only at hc hd GB hd2;subst hc hd GB hd2;rw[oneLt'_eq];simp only[if_true];refine ah (wpAny_cRoomFor hu (ah (MO (T:="list") ⟨_,ho,rfl⟩ xM ?_)));exact KR xM ⟨_,ho,rfl⟩ OI (MU _ _) (E6 l b xs ys n n2 dd HI sl Io e lt) ⟨ho,Fd,he,qy hq⟩
theorem IL(hl:s.heap.IsTuple l xs)(hb:s.heap.IsTuple b ys)(hu:A.units<cLine)
  (he:∀j (h1:j<xs.size) (h2:j<ys.size),EqAt A.in1 s xs[j] ys[j] (e j)/\D3 A.in1 s xs[j] ys[j] (lt j)):U5 A s (@Y) (.ref b) (wg e lt xs.size ys.size (@bL) 0):=by
 intro prog w E Q hq;obtain⟨⟨cls,dd,data,sl⟩,ho,hc,n,hd⟩:=id hl;obtain⟨⟨UM,HI,data2,Io⟩,Fd,GB,n2,hd2⟩:=id hb;simp only at hc hd GB hd2;subst hc hd GB hd2;rw[oneLt'_eq];simp only[if_true];refine ah (wpAny_cRoomFor hu (ah (MO (T:="tuple") ⟨_,ho,rfl⟩ nU ?_)));exact KR nU ⟨_,ho,rfl⟩ v9 (uB _ _) (Cn l b xs ys n n2 dd HI sl Io e lt) ⟨ho,Fd,he,qy hq⟩
theorem Jq{vs ws:@cp}(r1:iY s.heap vs.toList (nO xs) as)(r2:iY s.heap ws.toList (nO ys) bs)(n1:tJ xs=true)(n2:tJ ys=true)(hd:cG (nO xs)<=n)
  (hu:A.units+n<cLine) (hs:∀j,j<xs.length->j<ys.length->∃sh,df sh @b0=true/\df sh @b1=true) (j) (h1) (h2:j<ws.size):
  EqAt A s vs[j] ws[j] (i7 @b0 @b1)/\D3 A s vs[j] ws[j] (rC @b0 @b1):=by
 have z1:=readsAll_len r1;have z2:=readsAll_len r2;have e1:vs.size=xs.length:=by simpa using z1
 have e2:ws.size=ys.length:=by simpa using z2
 refine⟨GR r1 r2 n1 n2 @c j h1 h2,?_⟩;obtain⟨as',q1⟩:=lL r1 j (@cx);obtain⟨Zc,q2⟩:=lL r2 j (@bH);obtain⟨sh,g1,g2⟩:=hs j @c @c;have dp:=mT xs j;have:=xj n sh @b0 @b1 A s _ _ _ _ @c g1 g2 (sC n1 j) (sC n2 j) q1 q2 hu;ext p
theorem AS(hn:(pd a).depth<=n)(h1:df sh a=true)(h2:df sh b=true)(n1:nr a=true)(n2:nr b=true)(r1:Reads s.heap u (pd a) as)(r2:Reads s.heap v (pd b) bs)
  (hu:A.units+n<cLine):U5 A s u v (rC a b):=by
 cases sh with
 |int=>
  ext n
  ext o
  cases r1;cases r2;intro prog w E Q hq;exact oneLt_int hq
 | tup l=>
  ext n
  ext o
  rename_i xs ys;have n1:tJ xs=true:=n1;have n2:tJ ys=true:=n2;cases r1 with
  | tuple k1 k2 k3 k4=>
   cases r2 with
   | tuple m1 m2 m3 m4=>
    rename_i p o vs c p' o' ws c';have hd:(pd (.tup xs)).depth=cG (nO xs)+1:=rfl;obtain⟨n',rfl⟩:∃n',n=n'+1:=⟨n-1,@d⟩;have z1:=readsAll_len k4;have z2:=readsAll_len m4;have e1:vs.size=xs.length:=by simpa using z1
    have e2:ws.size=ys.length:=by simpa using z2
    have base:=IL (A:=A) (s:=s) ⟨_,k1,k2,_,k3⟩ ⟨_,m1,m2,_,m3⟩ @c (Jq (A:=A.in1) (n:=n') k4 m4 n1 n2 @c (by show A.units+1+n'<cLine;lia) λj j1 j2=>by
     obtain⟨sj,hsj,g1,g2⟩:=vc (l:=l) (ds:=xs) h1 j j1;obtain⟨sj',afZ,g1',XH⟩:=vc (l:=l) (ds:=ys) h2 j j2;rw[g2] at XH;cases XH;exact⟨sj,g1,g1'⟩)
    have fin:=rG xs ys (@cX) 0 (cI _) rfl;rw[e1,e2,fin] at base;exact base
 | lst l=>
  ext n
  ext o
  rename_i xs ys;have n1:tJ xs=true:=n1;have n2:tJ ys=true:=n2;cases r1 with
  | list k1 k2 k3 k4=>
   cases r2 with
   |list m1 m2 m3 m4=>
    rename_i p o vs c p' as' o' ws c' Zc;have hd:(pd (.dc xs)).depth=cG (nO xs)+1:=rfl;obtain⟨n',rfl⟩:∃n',n=n'+1:=⟨n-1,@d⟩;have z1:=readsAll_len k4;have z2:=readsAll_len m4;have e1:vs.size=xs.length:=by simpa using z1
    have e2:ws.size=ys.length:=by simpa using z2
    have base:=LC (A:=A) (s:=s) ⟨_,k1,k2,_,k3⟩ ⟨_,m1,m2,_,m3⟩ @c (Jq (A:=A.in1) (n:=n') k4 m4 n1 n2 @c (by show A.units+1+n'<cLine;lia) λj j1 j2=>⟨l,vd (s:=l) (ds:=xs) h1 j j1,vd (s:=l) (ds:=ys) h2 j j2⟩);have fin:=rG xs ys (@cX) 0 (cI _) rfl;rw[e1,e2,fin] at base;exact base
theorem Gv{prog:bz}{w:World}{A:cZ}{s:aB}{b fin:Bool}{Q:Bool->@af}{n:Nat}(hu:A.units+n<cLine):∀(l:List pY) (xs ys:@e) (vs ws:@C) (as bs:@aG) (i:Nat),gy l xs=true->gy l ys=true->tJ xs=true->tJ ys=true ->
  iY s.heap vs (nO xs) as->iY s.heap ws (nO ys) bs->cG (nO xs)<=n->fin=false->Q (oA xs ys) s->KatLex prog w A b fin Q (vs.zip ws) i s:=by
 intro l xs;induction xs generalizing l with
 | nil=>
  intro ys vs ws as bs i h1 h2 n1 n2 r1 r2 hd hf hq;cases r1;cases l with
  |nil=>
   cases ys with
   |nil=>cases r2;subst hf;exact hq
   |cons _ _=>cases h2
  |cons _ _=>cases h1
 | cons x xs ih=>
  intro ys vs ws as bs i h1 h2 n1 n2 r1 r2 hd hf hq;cases l with
  |nil=>cases h1
  |cons sh l=>
  cases ys with
  |nil=>cases h2
  |cons y ys=>
  cases r1 with
  |@cons v vs _ _ _ _ a1 a2=>
  cases r2 with
  |@cons u ws _ _ _ _ b1 b2=>
  have h1:(df sh x&&gy l xs)=true:=h1;have h2:(df sh y&&gy l ys)=true:=h2;have n1:(nr x&&tJ xs)=true:=n1;have n2:(nr y&&tJ ys)=true:=n2;rw[aL] at h1 h2 n1 n2;have hd1:(pd x).depth<=n/\cG (nO xs)<=n:=by
   have hd:cG (pd x::nO xs)<=n:=hd;simp only[cG] at hd;lia
  show KatLex prog w A b fin Q ((v,u)::vs.zip ws) i s;have eq:=eqAt_reads (pd x) (pd y) A s _ _ _ _ a1 b1 (lO _ n1.1) (lO _ n2.1) @c;rw[xn _ _ n1.1 n2.1] at eq;refine kat_cons (eq prog w _ _ ?_);rw[pH] at hq;cases q:i7 x y with
  |true=>
   rw[q,if_pos rfl] at hq;exact kat_yes (ih l ys vs ws _ _ (i+1) h1.2 h2.2 n1.2 n2.2 a2 b2 hd1.2 hf hq)
  |false=>
   rw[q,if_neg @f] at hq;refine kat_no ?_;cases c:(b&&i == 0) with
   |true=>exact AS hd1.1 h1.1 h2.1 n1.1 n2.1 a1 b1 hu prog w _ Q hq
   |false=>exact kat_one v u (xj n sh x y A s _ _ _ _ hd1.1 h1.1 h2.1 n1.1 n2.1 a1 b1 hu prog w _ _ hq)
end
def mV(n:Nat)(P:α->Prop):KasT α->Prop
 |.ret a=>P a
 |.ask i j k=>i<n/\j<n/\∀b,mV n P (k b)
theorem mV.bind:∀{t:KasT α},mV n P t->(∀a,P a->mV n P' (f a))->mV n P' (t.bind f)
 |.ret a,q,h=>h a q
 |.ask i j k,⟨q1,q2,q3⟩,h=>⟨q1,q2,λb=>mV.bind (q3 b) h⟩
theorem Jn{α:Type}{n:Nat}{lt:Nat->@a0}{cmp:Nat->Nat->(Bool->@af)->@af}{s:aB}{Q:α->@af}(hc:∀i j,i<n->j<n->∀C:Bool->@af,C (lt i j) s->cmp i j C s):
  ∀(t:KasT α),mV n @aC t->Q (jy lt t) s->t.kasWp cmp Q s
 |.ret a,_,q=>q
 |.ask i j k,⟨h1,h2,h3⟩,q=>hc i j h1 h2 _ (Jn hc (k (lt i j)) (h3 _) q)
def Bd(n:Nat)(p:Array Nat):Prop:=0<n/\∀x∈p,x<n
theorem Bd.at(h:Bd n p)(k):p.getD k 0<n:=by
 by_cases hk:k<p.size
 .have:p.getD k 0=p[k]:=by simp[MZ,hk]
  rw[this];exact h.2 _ (Array.getElem_mem hk)
 .have:p.getD k 0=0:=by simp[MZ,hk]
  rw[this];exact h.1
theorem Bd.perm(h:Bd n p)(hp:q.Perm p):Bd n q:=⟨h.1,λx hx=>h.2 x (hp.mem_iff.mp hx)⟩
theorem Hk(h:Bd n p):∀(f k:Nat),mV n @aC (uo p f k)
 |0,k=>trivial
 |f+1,k=>⟨h.at _,h.at _,λb=>by
  show mV n _ (if b=true then zH k else uo p f (k+1));split
  .trivial
  .exact Hk h f (k+1)⟩
theorem zg:∀(f:Nat) (p:Array Nat) (k q:Nat),Bd n p->mV n (λr=>Bd n r.1) (mX f p k q)
 |0,p,k,q,h=>h
 | f+1,p,k,q,h=>⟨h.at _,h.at _,λb=>by
  show mV n _ (if b=true then(if q>0 then mX f (iT p (k-(q+1)) k) (k+1) 0 else mX f p (k+1) 0) else .ask (p.getD (k-1) 0) (p.getD k 0) λd=>if d=true then .ret (p,k,q) else mX f p (k+1) (q+1));split
  .split
   .exact zg f _ _ _ (h.perm (lK _ _ _))
   .exact zg f _ _ _ h
  .refine⟨h.at _,h.at _,λd=>?_⟩;show mV n _ (if d=true then zH (p,k,q) else mX f p (k+1) (q+1));split
   .exact h
   .exact zg f _ _ _ h⟩
theorem J9(h:Bd n p)(k m):mV n (λr=>Bd n r.2) (Q5 k m p) :=
 mV.bind (Hk (h.perm (lK _ _ _)) _ _) λ_ _=>h.perm (lK _ _ _)
theorem zf(h:Bd n p)(k m):mV n (λr=>Bd n r.2) (B8 k m p) :=
 mV.bind (zg _ _ _ _ h) λr hr=>by
  split
  .exact J9 (hr.perm (lK _ _ _)) _ _
  .exact J9 hr _ _
theorem Qt(h:Bd n p)(m):mV n (λr=>Bd n r.2) (kas_count m p) :=
 mV.bind (Hk h _ _) λk _=>by
  split
  .exact h
  .split
   .refine⟨h.at _,h.at _,λb=>?_⟩;show mV n _ (if b=true then zH (k,p) else B8 k m (iT p 0 k));split
    .exact h
    .exact zf (h.perm (lK _ _ _)) _ _
   .exact zf h _ _
theorem Aw(h:Bd n p)(k):∀(f l r:Nat),mV n @aC (lE p k f l r)
 |0,l,r=>trivial
 | f+1,l,r=>by
  show mV n _ (if l>=r then zH l else .ask (p.getD k 0) (p.getD ((l+r) / 2) 0) λc=>if c=true then lE p k f l ((l+r) / 2) else lE p k f ((l+r) / 2+1) r);split
  .trivial
  .refine⟨h.at _,h.at _,λb=>?_⟩;show mV n _ (if b=true then lE p k f l ((l+r) / 2) else lE p k f ((l+r) / 2+1) r);split
   .exact Aw h k f _ _
   .exact Aw h k f _ _
theorem Ou:∀(f:Nat) (p:Array Nat) (k:Nat),Bd n p->mV n @aC (kas_bin f p k)
 |0,p,k,h=>trivial
 |f+1,p,k,h=>mV.bind (Aw h k _ _ _) λl _=>Ou f _ _ (h.perm (bubble_perm _ _ _))
theorem U0(h:0<n):mV n @aC (kas_sort n) :=
 mV.bind (Qt ⟨h,λx hx=>by simpa using hx⟩ n) λr hr=>by
  split
  .exact Ou _ _ _ hr
  .trivial
mutual
theorem AJ{h h':Heap}(hk:∀b o vs n,o.data=.seq vs n->@bJ->@bm):∀(d:D) {v:Value} {as:@aG},nr d=true->Reads h v (pd d) as->Reads h' v (pd d) as
 |.fe,_,_,_,r=>by cases r;exact .none
 |.bl b,_,_,_,r=>by cases r;exact .bool b
 |.int i,_,_,_,r=>by cases r;exact .int i _
 |.str x,_,_,_,r=>by cases r;exact .str x _
 |.tup ds,_,_,n,r=>by
  cases r with
  |tuple h1 h2 h3 h4=>exact .tuple (hk _ _ _ _ h3 h1) h2 h3 (pA hk ds n h4)
 |.dc ds,_,_,n,r=>by
  cases r with
  |list h1 h2 h3 h4=>exact .list (hk _ _ _ _ h3 h1) h2 h3 (pA hk ds n h4)
 |.kU _,_,_,n,_=>by cases n
 |.ref _,_,_,n,_=>by cases n
 |.exc _,_,_,n,_=>by cases n
theorem pA{h h':Heap}(hk:∀b o vs n,o.data=.seq vs n->@bJ->@bm):∀(ds:@e) {vs:@C} {as:@aG},tJ ds=true->iY h vs (nO ds) as->iY h' vs (nO ds) as
 |[],_,_,_,r=>by cases r;ext d
 |d::ds,_,_,n,r=>by
  have n:(nr d&&tJ ds)=true:=n;rw[aL] at n;cases r with
  |cons r1 r2=>exact .cons (AJ hk d n.1 r1) (pA hk ds n.2 r2)
end
mutual
theorem Li(G:Gp):∀(sh:pY) (d:D) (n:Nat),df sh d=true->Y7 sh<=n->Sn G n d d
 |.int,.int i,n,_,_=>@w
 |.tup l,.tup ds,n,h,hn=>by
  have hn:UH l+1<=n:=hn;obtain⟨m,rfl⟩:∃m,n=m+1:=⟨n-1,@d⟩;exact M6 G l ds m h @c
 |.lst s,.dc ds,n,h,hn=>by
  have hn:Y7 s+1<=n:=hn;obtain⟨m,rfl⟩:∃m,n=m+1:=⟨n-1,@d⟩;exact M7 G s ds m h @c
theorem M6(G:Gp):∀(l:List pY) (ds:@e) (m:Nat),gy l ds=true->UH l<=m->Sn G (m+1) (.tup ds) (.tup ds)
 |[],[],m,_,_=>.Ld
 |s::l,d::ds,m,h,hm=>by
  have h:(df s d&&gy l ds)=true:=h;have hm:max (Y7 s) (UH l)<=m:=hm;rw[aL] at h;exact .uH (Li G s d m h.1 @c) (M6 G l ds m h.2 @c)
theorem M7(G:Gp):∀(s:pY) (ds:@e) (m:Nat),iX s ds=true->Y7 s<=m->Sn G (m+1) (.dc ds) (.dc ds)
 |s,[],m,_,_=>.El
 |s,d::ds,m,h,hm=>by
  have h:(df s d&&iX s ds)=true:=h;rw[aL] at h;exact .wJ (Li G s d m h.1 hm) (M7 G s ds m h.2 hm)
end
theorem getD_at{α:Type}(xs:@o)(d)(h):xs.getD i d=xs[i]:=by
 rw[e9,az h];rfl
theorem CZ{α:Type}(xs)(d:α):(fG xs.length).map (λi=>xs.getD i d)=xs:=by
 refine List.ext_getElem @f λi h1 h2=>?_;rw[lZ,mZ];exact getD_at _ _ h2
theorem Ig:∀(zs:@e) (vs:@C),(∀z∈zs,df (.tup (s1::l)) z=true)->(∀i,i<vs.length->∃as,Reads h (vs.getD i .none) (pd (@bF)) as)->vs.length=zs.length ->
  ∃fs,KatTups h vs fs/\fs.length=vs.length/\∀f∈fs,∃d as,df s1 d=true/\Reads h f (pd d) as:=by
 intro zs;induction zs with
 |nil=>
  intro vs _ _ h;have:vs=[]:=List.length_eq_zero_iff.mp h;subst this;exact⟨[],trivial,rfl,λ_ h=>@aS⟩
 |cons z zs ih=>
 intro vs hs hr hl;cases vs with
 |nil=>cases hl
 | cons v vs=>
  obtain⟨fs,h1,h2,h3⟩:=ih vs (λz hz=>hs z (aI _ hz)) (λi hi=>by
   obtain⟨as,r⟩:=hr (i+1) (@cI);exact⟨as,by simpa using r⟩) (by simpa using hl)
  obtain⟨as,r⟩:=hr 0 @f;have hz:=hs z @f;simp only[List.getD_cons_zero] at r;cases z<;>first |(cases hz;done) |skip
  rename_i ds;cases ds with
  |nil=>cases hz
  | cons d ds=>
   have hz:(df s1 d&&gy l ds)=true:=hz;rw[aL] at hz;cases r with
   | tuple k1 k2 k3 k4=>
    rename_i p o ws c;have k5:iY h ws.toList (pd d::nO ds) as:=k4;cases q:ws.toList with
    |nil=>rw[q] at k5;cases k5
    | cons f rest=>
     rw[q] at k5;cases k5 with
     | cons r1 r2=>
      have hf:ws[0]?=some f:=by
       have:ws.toList[0]?=some f:=by rw[q];rfl
       ext p
      refine⟨f::fs,.cons k1 k2 k3 hf h1,by simp[h2],λg hg=>?_⟩;rcases List.mem_cons.mp hg with rfl |hg
      .exact⟨d,_,hz.1,r1⟩
      .exact h3 g hg
noncomputable def Rk:pY->Value
 |.int=>.type "int"
 |.tup _=>@aj
 |.lst _=>@ad
theorem E4(hs:df sh d=true)(r:Reads h v (pd d) as):Looks M h (typeOf v) (Rk sh):=by
 cases sh with
 |int=>
  cases d<;>first |(cases hs;done) |skip
  cases r;exact .now
 | tup l=>
  cases d<;>first |(cases hs;done) |skip
  cases r with
  |tuple k1 k2 k3 k4=>
   rename_i p o ws c;have:Looks M h (typeOf @aw) o.cls:=(Looks.ld k1).andThen .now;rw[k2] at this;ext g
 | lst l=>
  cases d<;>first |(cases hs;done) |skip
  cases r with
  |list k1 k2 k3 k4=>
   rename_i p o ws c as;have:Looks M h (typeOf @aw) o.cls:=(Looks.ld k1).andThen .now;rw[k2] at this;ext g
theorem PO{prog:bz}{w:World}{A:cZ}{s:aB}{E:@I}{Q:Bool->@af}{n:Nat}{b:Bool}{l:List pY}{a c:D}{u v:Value}{as bs:@aG}(hn:(pd a).depth<=n+1)(h1:df (.tup l) a=true)(h2:df (.tup l) c=true)(n1:nr a=true)(n2:nr c=true)
  (r1:Reads s.heap u (pd a) as) (r2:Reads s.heap v (pd c) bs) (hu:A.units+n<cLine) (hq:Q (rC a c) s):wpAny @P A (keyLt' (tuples' b) u v) Q E s:=by
 ext n
 ext o
 rename_i xs ys;cases r1 with
 | tuple k1 k2 k3 k4=>
  cases r2 with
  | tuple m1 m2 m3 m4=>
   rename_i p o vs c p' o' ws c';have z1:=readsAll_len k4;have z2:=readsAll_len m4;have e1:vs.size=xs.length:=by simpa using z1
   have e2:ws.size=ys.length:=by simpa using z2
   have el:∀(l:List pY) (xs ys:@e),gy l xs=true->gy l ys=true->xs.length=ys.length:=by
    intro l;induction l with
    | nil=>
     intro xs ys h1 h2;cases xs with
     |nil=>cases ys with
      |nil=>rfl
      |cons _ _=>cases h2
     |cons _ _=>cases h1
    | cons s l ih=>
     intro xs ys h1 h2;cases xs with
     |nil=>cases h1
     | cons x xs=>
      cases ys with
      |nil=>cases h2
      |cons y ys=>
       have h1:(df s x&&gy l xs)=true:=h1;have h2:(df s y&&gy l ys)=true:=h2;rw[aL] at h1 h2;rw[ag,ag,ih xs ys h1.2 h2.2]
   have hd:(pd (.tup xs)).depth=cG (nO xs)+1:=rfl;refine kat_lt k1 k3 m1 m3 (Gv (n:=n) hu l xs ys _ _ _ _ 0 h1 h2 n1 n2 k4 m4 @c (decide_eq_false (by rw[e1,e2,el l xs ys h1 h2];lia)) hq)
section
variable {X:Cx}
theorem PG(ty:D9 x G)(hi:itemsOf x G=some zs):qm x G=some zs:=by
 cases x<;>first |exact ty.elim |exact hi
theorem Hf (hc:@bv) (hu:@bl):pL X (.builtin "sorted") qv:=by
 intro pins s σ H G xs ds us Q I ab rx rd q;unfold qv at q;split at q
 .rename_i x;obtain⟨sh,zs,ty,hi,yV,cx,h64,q⟩:=q;obtain⟨w1,rfl,F6⟩:=rd.one;obtain⟨u,rfl,ru⟩:=rx.one;obtain⟨l,vs,bQ,rfl,rv,rs,hl,_⟩:=tj I ab ru F6 (PG ty hi);have hl1:=rv.length;have Bt:=rs.length;have hsz:ba=16777216:=c5;have hz:∀z∈zs,df sh z=true:=λz h=>List.all_eq_true.mp yV z h;by_cases BX:bQ.length<2
  .refine Lh hl BX ?_;obtain⟨e,he⟩:=sortedAll_at s.heap bQ bQ.toArray;have hp:H (@b6)=none:=I.cx.fresh (Cf _);have es:uK zs=zs:=yd sh hz (.refl _) (by
    match zs,Bt,BX with
    |[],_,_=>ext d
    |[z],_,_=>exact List.pairwise_singleton _ _
    |_::_::_,h,f=>exact absurd f (by rw[<-hl1,h];simp))
   rw[es] at q;refine⟨.ref (@b6),upd H (@b6) (.lst vs),.ref _,_,I.laid (t':=s.toks) (λb o e=>sortedAll_old e) (Cf _) ?_,.LH ab hp rs,rfl,.ref _,q _ (ab.free hp)⟩;exact⟨@d,bQ,e,rv,he⟩
  .obtain⟨m,F0⟩:=I.fr;have nz:0<zs.length:=@d
   have nL:∀b o vs n,o.data=.seq vs n->@am=@i->@bY:=λb o vs n e1 e2 z=>by
    obtain⟨o',es,ep,HF,Eb,_⟩:=F0.ns;rw[z,HF] at e2;cases e2;rw[Eb] at e1;cases e1
   unfold aai at cx;rw[aL] at cx;have hdp:Y7 sh<=7:=of_decide_eq_true cx.1;have sn:∀z∈zs,Sn G 7 z z:=λz h=>Li G sh z 7 (hz z h) hdp;refine kat_sorted F0 IW hl @c @c λDd e1 h' F N yT=>?_;obtain⟨kk,ns⟩:=zX I F0 F λp hp=>N p (aI _ hp);have Ga:∀i,i<bQ.length->∃as,Reads h' (bQ.getD i .none) (pd (@bF)) as:=λi hi=>by
    have i1:i<zs.length:=@d
    have i2:i<vs.length:=@d
    have g1:@bF=zs[i]:=getD_at _ _ i1;have g2:bQ.getD i .none=bQ[i]:=getD_at _ _ hi;obtain⟨v,hv,rdv⟩:=rs.get (az i1);obtain⟨u,Jv,ruv⟩:=rv.get hv;rw[az hi] at Jv;cases Jv;obtain⟨as,r⟩:=(iU I ab (sn _ (eV i1))).1 v _ rdv ruv;rw[g1,g2];exact⟨as,AJ (λb o vs n e1 e2=>kk b o (nL b o vs n e1 e2) e2) _ (sn _ (eV i1)).nr r⟩
   have Ej:∀i,i<zs.length->df sh (@bF)=true:=λi hi=>by rw[getD_at _ _ hi];exact hz _ (eV hi)
   have nrz:∀i,i<zs.length->nr (@bF)=true:=λi hi=>by rw[getD_at _ _ hi];exact(sn _ (eV hi)).nr
   have dpz:∀i,i<zs.length->(pd (@bF)).depth<=7:=λi hi=>by rw[getD_at _ _ hi];exact DM (sn _ (eV hi))
   let zz:Nat->D:=λi=>if i<zs.length then @bF else zs.getD 0 .fe
   have zzs:∀i,df sh (zz i)=true:=λi=>by
    show df sh (if i<zs.length then @bF else zs.getD 0 .fe)=true;split
    .exact Ej i (by assumption)
    .exact Ej 0 nz
   let lt:Nat->@a0:=λi j=>rC (zz i) (zz j)
   have swo:Qv lt:=⟨λi j h=>E3 sh (zzs i) (zzs j) h,λi j k h1 h2=>C7 sh (zzs i) (zzs j) (zzs k) h1 h2⟩;have lte:∀i j,i<zs.length->j<zs.length->lt i j=rC (@bF) (zs.getD j .fe):=λi j hi hj=>by
    show rC (if i<zs.length then _ else _) (if j<zs.length then _ else _)=_;rw[if_pos hi,if_pos hj]
   obtain⟨p,ep,Jx,psz,hup⟩:=RJ swo (n:=bQ.length) @c;have hA2:X.A.in1.in1.units=X.A.units+2:=rfl;have ask:∀κ:SortKind,(∀i j,i<bQ.length->j<bQ.length->∀C:Bool->@af,C (rC (@bF) (zs.getD j .fe)) @as->kas_ask X.prog X.w X.A.in1.in1 κ bQ i j C @as) ->
     (kas_sort bQ.length).kasWp (kas_ask X.prog X.w X.A.in1.in1 κ bQ) (λp s''=>KasFin X.base X.env.locals m Dd e1 (p.toList.map λi=>bQ.getD i ic) (λs3=>ug X pins σ H G Q (.ref Dd) s3) s'') @as:=by
    intro κ hk;refine Jn (lt:=lt) (n:=bQ.length) (λi j i1 i2 C hC=>hk i j i1 i2 C (by rw[<-lte i j @c @c];exact hC)) _ (U0 @c) ?_;rw[ep];refine KasFin.intro (g:=λo=>(Dd,o)::v5 X.base s.heap X.env.locals) F N (.head (λq hq z=>absurd (yT q hq) (by rw[z];exact jK _))) λh2 c F2 N2=>?_;obtain⟨k2,ns2⟩:=zX I F0 F2 λp hp=>N2 p (aI _ hp);have hD:s.heap.get? Dd=none:=by
     have nD:=N _ br;cases qd:s.heap.get? Dd with
     |none=>rfl
     |some o=>exact absurd (yT _ (AW nD.2.1 nD.2.2 qd)) (jK _)
    have hp:H Dd=none:=N5 I.cx hD;have rvp:Vals (p.toList.map λi=>vs.getD i .fe) (p.toList.map λi=>bQ.getD i ic):=by
     have:∀(ps:@aT),(∀i∈ps,i<bQ.length)->Vals (ps.map λi=>vs.getD i .fe) (ps.map λi=>bQ.getD i ic):=by
      intro ps;induction ps with
      |nil=>intro _;ext d
      |cons i ps ih=>
       intro hh;have hi:=hh i @f;refine .cons ?_ (ih λj hj=>hh j (aI _ hj));have i2:i<vs.length:=@d
       obtain⟨u,Jv,ruv⟩:=rv.get (az i2);rw[az hi] at Jv;cases Jv;show RelV (vs.getD i .fe) (bQ.getD i .none);rw[getD_at _ _ i2,getD_at _ _ hi];exact ruv
     exact this _ λi hi=>by simpa using Jx.mem_iff.mp hi
    have rsp:bc X.K H (p.toList.map λi=>vs.getD i .fe) (p.toList.map λi=>@bF):=by
     have:∀(ps:@aT),(∀i∈ps,i<bQ.length)->bc X.K H (ps.map λi=>vs.getD i .fe) (ps.map λi=>@bF):=by
      intro ps;induction ps with
      |nil=>intro _;ext d
      |cons i ps ih=>
       intro hh;have hi:=hh i @f;refine .cons ?_ (ih λj hj=>hh j (aI _ hj));have i2:i<vs.length:=@d
       have i1:i<zs.length:=@d
       obtain⟨v,hv,r⟩:=rs.get (az i1);rw[az i2] at hv;cases hv;show cm X.K H (vs.getD i .fe) (@bF);rw[getD_at _ _ i2,getD_at _ _ i1];exact r
     exact this _ λi hi=>by simpa using Jx.mem_iff.mp hi
    have es:uK zs=p.toList.map λi=>@bF:=by
     refine yd sh hz ?_ ?_
     .have h1:(p.toList.map λi=>@bF).Perm ((fG zs.length).map λi=>@bF):=by
       have:bQ.length=zs.length:=@d
       rw[<-this];exact Jx.map _
      rw[CZ] at h1;exact h1
     .rw[oJ,List.pairwise_iff_getElem];intro i j hi hj P7;have g1:gA p i=p.toList[i]:=by
       have:i<p.size:=@cI
       simp[gA,MZ,this]
      have g2:gA p j=p.toList[j]:=by
       have:j<p.size:=by simpa using hj
       simp[gA,MZ,this]
      have bi:p.toList[i]<bQ.length:=by simpa using Jx.mem_iff.mp (eV hi)
      have bj:p.toList[j]<bQ.length:=by simpa using Jx.mem_iff.mp (eV hj)
      have:=hup i j @c (by have:j<p.toList.length:=hj;rw[gu,psz] at this;ext g);rw[g1,g2,lte _ _ @c @c] at this;ext g
    rw[es] at q;have ln:(p.toList.map λi=>vs.getD i .fe).length<=ba:=by rw[au,gu,psz];lia
    refine⟨.ref Dd,upd H Dd (.lst (p.toList.map λi=>vs.getD i .fe)),.ref _,_,Inv.YJ (t':=s.toks) I k2 ns2 hD ?_,.LH ab hp rsp,rfl,.ref _,q _ (ab.free hp)⟩;exact⟨ln,_,c,rvp,(N2 _ br).1⟩
   have gen:∀i j,i<bQ.length->j<bQ.length->∀C:Bool->@af,C (rC (@bF) (zs.getD j .fe)) @as->wpAny @l X.A.in1.in1 (keyLt' oneType' (bQ.getD i ic) (bQ.getD j ic)) C @q @as:=by
    intro i j hi hj C hC;obtain⟨as,r1⟩:=Ga i hi;obtain⟨bs,r2⟩:=Ga j hj;rw[keyLt'_oneType];exact AS (s:=@as) (n:=7) (dpz i @c) (Ej i @c) (Ej j @c) (nrz i @c) (nrz j @c) r1 r2 (by rw[hA2];lia) X.prog X.w _ C hC
   have lk:∀v∈bQ,Looks @l h' (typeOf v) (Rk sh):=λv hv=>by
    obtain⟨i,hi,rfl⟩:=rR hv;obtain⟨as,r⟩:=Ga i hi;rw[getD_at _ _ hi] at r;exact E4 (Ej i @c) r
   cases sh with
   |int=>exact kas_kind (s:=@as) (T:=.type "int") @c lk rfl rfl (ask oneType' gen)
   |lst ss=>exact kas_kind (s:=@as) (T:=@ad) @c lk rfl rfl (ask oneType' gen)
   | tup ss=>
    cases ss with
    |nil=>exact absurd cx.2 @f
    |cons s1 ss=>
     obtain⟨fs,t1,t2,t3⟩:=Ig (h:=h') zs bQ hz Ga @c;refine kat_kind (s:=@as) (T:=Rk s1) t1 @c (λf hf=>?_) (by cases s1<;>rfl) (ask _ λi j hi hj C hC=>?_)
     .obtain⟨d,as,h1,h2⟩:=t3 f hf;exact E4 h1 h2
     .obtain⟨as,r1⟩:=Ga i hi;obtain⟨bs,r2⟩:=Ga j hj;exact PO (s:=@as) (n:=7) (by have:=dpz i @c;lia) (Ej i @c) (Ej j @c) (nrz i @c) (nrz j @c) r1 r2 (by rw[hA2];lia) hC
 ext j
end
end K2
end
section
namespace L2
open PySem PySem.Spec PyProof.Rows
section
variable {prog:bz} {w:World} {A:cZ} {E:@I} {s:aB}
theorem LU{d:Addr}{od:Obj}{es:Array gJ}{c:Nat}{Q:@I}(ns:(d == dU)=false)(HE:s.heap.get? d=some od)(ex:od.ExactDict)(dd:od.data=.dict es c)
  (hQ:Q (@aE) {s with heap:=s.heap.push {cls:=.type "dict_keyiterator",data:=.fields #[.ref d,@aU,.int es.size 0,.int c 0]}}):wpAny @P A (EB (.ref d)) Q E s:=by
 have ty:s.TypeIs (.ref d) "dict":=⟨od,HE,ex.1⟩;refine qz ty F.slot_dict_iter (dE F.slot_dict_iter ty F.entry_dict_iter ?_ (F.args_dict_iter_1 _));unfold Builtin.«dict.__iter__» Builtin.Dict.dictSlotNone;refine ah (ah (B5 ty (show wpAny _ _ (pure (fu d)) _ _ s from aE ?_)));show wpAny _ _ (mE d >>= _) _ _ s;unfold mE;rw[if_neg (λz=>by rw[ns] at z;cases z)];refine ah (aE (ah (iN HE dd (ah (oT HE dd ?_)))));refine ah (dF (aE ⟨_,rfl,"dict_keyiterator",_,⟨_,@aX,rfl⟩,F.slot_dict_keyiterator_next.lookup,?_⟩));simpa[AB] using hQ
theorem PN{it d:Addr}{od:Obj}{es:Array gJ}{i c:Nat}{Q:@b9->@af}(ki:s.heap.IsKeyIter it d i es.size c)(HE:s.heap.get? d=some od)(dd:od.data=.dict es c)(hi:i<es.size)
  (hQ:∀h',h'.IsKeyIter it d (i+1) es.size c->gN it s.heap h'->Q (some es[i].key) @as):wpAny @P A (AD @aL) Q E s:=by
 obtain⟨o,ho,hc,hf⟩:=id ki;unfold AD;refine ah (tW (km (name:=zF "__next__") ki.typeIs kR (dE kR ki.typeIs K4 ?_ (Ks _))));refine ah (aE (ah (ah ?_)))
 first |refine ah (kG ki.typeIs (aE ?_)) |refine ah (nK ki.typeIs (aE ?_))
 refine ah (qP ho hf ?_);have Z9:gm "dict_keyiterator"=false:=@g
 rw[Z9];show wpAny _ _ (if(fu d == ic)=true then _ else _) _ _ s;rw[if_neg (λz=>by cases z)];refine ah (aE (ah (iN HE dd ?_)));rw[if_neg @f];refine ah (aE (ah (oT HE dd ?_)));rw[if_neg @f];refine aE ?_;dsimp only;rw[if_neg (show ¬ (@ay<0) from Int.not_lt.mpr (uf i)),c9,K7 hi];dsimp only;refine ah ?_
 first |refine ah (kG ki.typeIs (aE ?_)) |refine ah (nK ki.typeIs (aE ?_))
 refine ah (wpAny_isOneOf_keyiter ki.typeIs ?_);show wpAny _ _ (setField @aL 1 (AB (@ay+1)) >>= _) _ _ s;refine ah (VL ho hf @f ?_);have ki2:(s.heap.update it (Obj.mapFields (·.setIfInBounds 1 (AB (@ay+1))))).IsKeyIter it d (i+1) es.size c :=
  ⟨_,kP _ ho (Obj.isFreed_of_fields (Obj.data_mapFields hf _)),(Obj.cls_mapFields ..).trans hc,by rw[Obj.data_mapFields hf];simp[AB]⟩
 refine ah (cW (ah (wpAny_isOneOf_keyiter (s:={s with heap:=s.heap.update it (Obj.mapFields (·.setIfInBounds 1 (AB (@ay+1))))}) ki2.typeIs ?_)));show wpAny _ _ (pure es[i].key) _ _ _;exact aE (aE ⟨_,rfl,aE (hQ _ ki2 (kQ ..))⟩)
theorem Tr{it d:Addr}{od:Obj}{es:Array gJ}{i c:Nat}{Q:@b9->@af}(calm:A.handled=none)(ki:s.heap.IsKeyIter it d i es.size c)(HE:s.heap.get? d=some od)(dd:od.data=.dict es c)(hi:es.size<=i)
  (hQ:∀h',Heap.ExtBut it s.heap h'->Q none @as):wpAny @P A (AD @aL) Q E s:=by
 obtain⟨o,ho,hc,hf⟩:=id ki;unfold AD;refine ah (tW (km (name:=zF "__next__") ki.typeIs kR (dE kR ki.typeIs K4 ?_ (Ks _))));refine ah (aE (ah (ah ?_)))
 first |refine ah (kG ki.typeIs (aE ?_)) |refine ah (nK ki.typeIs (aE ?_))
 refine ah (qP ho hf ?_);have Z9:gm "dict_keyiterator"=false:=@g
 rw[Z9];show wpAny _ _ (if(fu d == ic)=true then _ else _) _ _ s;rw[if_neg (λz=>by cases z)];refine ah (aE (ah (iN HE dd ?_)));rw[if_neg @f];refine ah (aE (ah (oT HE dd ?_)));rw[if_neg @f];refine aE ?_;dsimp only;rw[if_neg (show ¬ (@ay<0) from Int.not_lt.mpr (uf i)),c9,QQ hi];dsimp only;refine ah ?_
 first |refine ah (kG ki.typeIs (aE ?_)) |refine ah (nK ki.typeIs (aE ?_))
 show wpAny _ _ (setField @aL 0 .none >>= _) _ _ s;refine ah (VL ho hf @f ?_);show wpAny _ _ (newExc (.type "StopIteration") [] >>= _) _ _ _;refine ah ?_;simp only[newExc,newTuple];refine ah (dF (ah (m:=EC _ _) (Q0 (a:=ic) (by first |rfl |(simp only[EC];rfl)) (dF ?_ (by size_fits)))) (by size_fits));simp only[raiseNew];refine ah (wpAny_handled ?_);rw[show A.in1.handled=none from calm];refine ah (aE (wpAny_throw ?_));refine ah (rW (T:="StopIteration") (b:=true) ⟨_,@aX,rfl⟩ isSubtype_stop (?_));exact aE (hQ _ (((kQ ..).extBut.push _).push _))
end
noncomputable def Itk(a:Addr)(o:Obj)(es:Array gJ)(ks:@y):It :=
 ⟨λi H=>(∃u,H a=@bx)/\i<es.size,λi H v H'=>H'=H/\ks[i]?=@W,λi H=>(∃u,H a=@bx)/\es.size<=i⟩
theorem OO{K:aw}(a it)(o)(es)(c)(ks)(dd:o.data=.dict es c)(hk:∀i (h:i<es.size),∃v,ks[i]?=@W/\RelV v es[i].key):
  Turn P w K tg (Itk a o es ks) [it] it (λi h=>h.IsKeyIter it a i es.size c) where
 mem:=@K
 obj:=λi h st b hb=>by
  have e:b=it:=@bP
  subst e;obtain⟨o',q,_,d⟩:=st;exact⟨o',q,λv z=>by rw[d] at z;cases z⟩
 keep:=(by rintro i h h' ⟨o',q,r⟩ k;exact⟨o',k it @f o' q,r⟩)
 item:=by
  ext l;ext m;obtain⟨⟨u,hu⟩,hi⟩:=hg;obtain⟨f0,f1,f2,f3,f4,f5⟩:=hf it @f;obtain⟨v,hv,rv⟩:=hk i hi;refine PN st (I.cx a _ hu).1 dd hi λh' Eg sb=>?_;have I1:Inv X pins σ H @as:=I.turned (t':=s.toks) (λb o hb e=>(sb.2 b hb).trans e) f0 f1 f3 f4 f5;obtain⟨o',e,cl,d'⟩:=id Eg;exact⟨_,rfl,NX (s:=@as) e cl d' @t ⟨v,H,I1,rv,⟨rfl,hv⟩,Eg,λb hb=>(hf b hb).1⟩⟩
 done:=by
  ext l;ext m;obtain⟨⟨u,hu⟩,hi⟩:=hg;obtain⟨f0,f1,f2,f3,f4,f5⟩:=hf it @f;exact Tr (@cg) st (I.cx a _ hu).1 dd hi λh' eb=>⟨rfl,I.turned (t':=s.toks) (λb o hb e=>eb b o hb e) f0 f1 f3 f4 f5⟩
 self:=λA i s Q E st h=>by
  refine qz st.typeIs MX (dE MX st.typeIs F.entry_dict_keyiterator_iter ?_ (F.args_dict_keyiterator_iter_1 _));show wpAny _ _ (ret @aL) _ _ s;exact aE ⟨_,rfl,"dict_keyiterator",_,st.typeIs,F.slot_dict_keyiterator_next.lookup,h⟩
end L2
namespace K2
open PySem PySem.Spec PyProof.Rows L2
section
variable {X:Cx} {tg a:Expr} {ta:gC} {pos p:Pos}
theorem zV:∀{l:@o} {m:List β},ma F l m->∀i (h1:i<l.length) (h2:i<m.length),F l[i] m[i]:=by
 intro l m h;induction h with
 |nil=>intro i h1;exact absurd h1 (rY i)
 |cons h t ih=>
  intro i h1 h2;cases i with
  |zero=>exact h
  |succ i=>exact ih i (xN h1) (xN h2)
theorem Tz(h:(c7 P w).is k u=true):RelV (kV k) u:=by
 rcases fJ h with ⟨i,t,rfl,rfl⟩ |⟨x,t,rfl,rfl⟩
 .exact⟨t,rfl⟩
 .exact⟨t,rfl⟩
theorem mU.keys{K:aw}:∀{kv:@aO} {kvs:@ag},mU K H kv kvs->kvs.map @n=kv.map λp=>fi p.1:=λh=>
 mU.ind (motive:=λkv kvs _=>kvs.map @n=kv.map λp=>fi p.1) rfl (λ_ _ ih=>congrArg (_::·) ih) h
theorem nS.keys{K:aw}:∀{kv:@bA} {kvs:@ag},@b7->kvs.map @n=kv.map λp=>D.tup (p.1.map fi):=λh=>
 nS.ind (motive:=λkv kvs _=>kvs.map @n=kv.map λp=>D.tup (p.1.map fi)) rfl (λ_ _ ih=>congrArg (_::·) ih) h
theorem Iy{K:aw}(k):cm K H (kV k) (fi k):=by
 cases k with
 |inl i=>exact @w
 |inr x=>exact .str x
theorem zR{K:aw}:∀(ks:@bb),bc K H (ks.map kV) (ks.map fi)
 |[]=>.nil
 |k::ks=>.cons (Iy k) (zR ks)
theorem Sm(ha:@ba):Be X tg a (lx ta):=by
 intro E pins s σ H τ G R hE I h;refine jH ha hE I h @cE;unfold Gz at q1;have go:∀(l:Addr) (o:Obj) (u:HO) (kvs:@ag) (es:Array gJ) (c:Nat) (ks:@y),(l == dU)=false->H1 l=@bx->o.ExactDict->o.data=.dict es c->(∀i (h:i<es.size),∃v,ks[i]?=@W/\RelV v es[i].key)->ks.length=es.size ->
   bc X.K H1 ks (kvs.map @n)->R (kvs.map @n) @aC G1->wpAny @l X.A (EB (@Y)) (Kc X pins σ tg H G R) X.xe s1:=by
  intro l o u kvs es c ks ns hl ex dd hk hlen rs q;refine LU ns (I1.inv.cx l _ hl).1 ex dd ?_;refine⟨s1.heap.objs.size,[s1.heap.objs.size],_,_,H1,G1,kvs.map @n,_,rfl,I1.inv.kept (t':=s1.toks) λb o e=>aJ _ e,m1,OO l _ o es c ks dd hk,⟨_,@aX,rfl,rfl⟩,λb hb=>?_,λi H2 G2 k ab _=>?_,q⟩
  .have e:b=s1.heap.objs.size:=@bP
   subst e;exact I1.inv.Ds @J (I1.inv.cx.fresh @J)
  .have Bt:=k.ji _ _ _ hl;have Ku:=rs.mono k;refine⟨λd hd=>?_,λhle=>⟨⟨u,Bt⟩,by rw[<-hlen,rs.length];exact hle⟩⟩;obtain⟨v,hv,r⟩:=Ku.get hd;have hi:i<es.size:=by rw[<-hlen];exact(List.getElem?_eq_some_iff.mp hv).1
   refine⟨⟨⟨u,Bt⟩,hi⟩,?_⟩;rintro x H3 ⟨e,y⟩;subst e;rw[hv] at y;cases y;exact⟨r,@ai⟩
 cases j4 with
 | pj hq rs=>
  rename_i l o kv kvs;cases r1;obtain⟨z,ns,vs,rel,ob,es,ep,ho,ex,dd,hko,hp,nd⟩:=(I1.inv.cx l _ hq).2;have eo:ob=o:=by have:=(I1.inv.cx l _ hq).1;rw[ho] at this;exact aZ this
  subst eo;have l1:es.size=vs.length:=by simpa using hp.length
  have l2:kv.length=vs.length:=jA rel;refine go l ob _ kvs es ep (kv.map λp=>kV p.1) ns hq ex dd (λi hi=>?_) @bK ?_ q1
  .have i2:i<vs.length:=@d
   have i3:i<kv.length:=@d
   have g1:=(hp.get? (e:=es[i]) (k:=vs[i].1) (v:=vs[i].2) (by rw[az (@cI)];simp) (by rw[az i2])).1;refine⟨kV kv[i].1,by simp[i3],?_⟩;have ek:kv[i].1=vs[i].1:=(zV rel i i3 i2).1;rw[ek];exact Tz g1
  .rw[rs.keys];have:∀(l:@aO),bc X.K H1 (l.map λp=>kV p.1) (l.map λp=>fi p.1):=by
    intro l;induction l with
    |nil=>ext d
    |cons p l ih=>exact .cons (Iy p.1) ih
   exact this kv
 | ph hq rs=>
  rename_i l o kv kvs;cases r1;obtain⟨z,ns,xs,rel,ob,es,ep,ho,ex,dd,hl,nd⟩:=(I1.inv.cx l _ hq).2;have eo:ob=o:=by have:=(I1.inv.cx l _ hq).1;rw[ho] at this;exact aZ this
  subst eo;have l1:=congrArg dh hl;rw[au,gu] at l1;refine go l ob _ kvs es ep (xs.map λq=>V.ref q.2.1) ns hq ex dd (λi hi=>?_) @bK ?_ q1
  .have i2:i<xs.length:=@d
   refine⟨.ref xs[i].2.1,by simp[i2],?_⟩;have:es[i]=entryOfKey (jJ @ck) xs[i]:=by
    have:=congrArg (λl=>l[i]?) hl;simp only[bw,az i2] at this;simpa[hi] using this
   rw[this];rfl
  .rw[rs.keys];have:∀(kv:@bA) (xs:List (@bb×@bn)),ma (λ(p:@bb×V) (q:@bb×@bn)=>p.1=q.1/\H1 q.2.1=some (.tup (p.1.map kV))/\RelV p.2 q.2.2) kv xs->bc X.K H1 (xs.map λq=>V.ref q.2.1) (kv.map λp=>D.tup (p.1.map fi)):=by
    intro kv xs r;induction r with
    |nil=>ext d
    |cons h _ ih=>exact .cons (.tup h.2.1 (zR _)) ih
   exact this kv xs rel
 |_=>ext e
end
end K2
end
section
namespace L2
open PySem PySem.Spec PyProof.Rows
section
variable {X:Cx}
def Vh(i j:Int):Prop:=i.natAbs<2 ^ 4000/\j.natAbs<2 ^ 4000
theorem Vh.ok(h:Vh i j):IntMulOk i j:=by
 have h1:=intBits_le h.1;have h2:=intBits_le h.2;unfold IntMulOk;intro z;rw[aL] at z;have z2:((K5 i+K5 j:Nat):Int)>(bitsLine:Int):=of_decide_eq_true z.2;have hb:8000<=bitsLine:=@g
 lia
theorem W6:Ow X (ko .Mult) (rI Vh λi j=>.int (i*j)):=opI λ_ _ _ _ _ _ _ hc q=>mul_int q hc.ok
end
end L2
namespace K2
open PySem PySem.Spec PyProof.Rows L2
section
variable {X:Cx}
theorem SH:oH X (ko .Mult) ER:=by
 ext q;cases dX with
 |int i=>
  cases dY with
  |int j=>exact iM (W6 pins s σ H _ _ v u @bw I rx ry ⟨i,j,rfl,rfl,q.1,_,_,@ai,@S,q.2⟩) @bE
  |_=>exact bM q
 |_=>exact bM q
theorem Ap(I:@k)(ab:@aN)(rd:cm X.K H x d)(hd:y9 d G=some kvs)(h1:yL kvs=true):
  ∃a kv vs,x=@V/\mU X.K H kv kvs/\kv.length<=ba/\@bQ/\KV kv vs/\s.heap.DictOf @ck a vs:=by
 have empty:∀(a:Addr) (kv:@bA),fY X.prog X.w H s.heap a (.dT kv)->nS X.K H kv kvs ->
   ∃a' kv vs,V.ref a=.ref a'/\mU X.K H kv kvs/\kv.length<=ba/\(a' == dU)=false/\KV kv vs/\s.heap.DictOf @ck a' vs:=by
  intro a kv ok rs;cases rs with
  |nil=>
   obtain⟨z,hm,xs,rel,o,es,ep,ho,hx,Eb,hl,nd⟩:=ok;have hv:xs=[]:=by cases rel;rfl
   subst hv;have he:es=#[]:=by simpa using hl
   subst he;exact⟨a,[],[],rfl,.nil,cI _,hm,.nil,o,#[],ep,ho,hx,Eb,(λ_ h=>@cc),.nil,cJ⟩
  |cons _ _=>simp[yL,dq] at h1
 cases rd with
 |pj hq rs=>
  cases(show some _=some kvs from hd);obtain⟨z,hm,vs,rel,dd⟩:=wM I.cx (.inr ⟨_,hq⟩);exact⟨_,_,vs,rfl,rs,z,hm,rel,dd⟩
 |ph hq rs=>
  cases(show some _=some kvs from hd);exact empty _ _ (I.cx _ _ hq).2 rs
 | ref a=>
  unfold y9 at hd;dsimp only at hd;split at hd
  .rename_i kv' hg;cases hd;rcases ab a _ hg with ⟨kv,hv,rs⟩ |⟨kv,hv,rs⟩
   .obtain⟨z,hm,vs,rel,dd⟩:=DI I.cx hv;exact⟨a,kv,vs,rfl,rs,z,hm,rel,dd⟩
   .exact empty a _ (I.cx _ _ hv) rs
  .cases hd
 |_=>cases hd
theorem Mz:pL X (@aZ) Fx:=by
 intro pins s σ H G xs ds us Q I ab rx rd q;unfold Fx at q;split at q
 .rename_i x;obtain⟨kvs,hd,h1,hl,q⟩:=q;obtain⟨v,rfl,r⟩:=rd.one;obtain⟨a,kv,vs,rfl,rs,z,hm,rel,dd⟩:=Ap I ab r hd h1;obtain⟨u,rfl,ru⟩:=rx.one;cases ru;refine kt_call_dict hm dd (by rw[<-rel.length];exact z) λh' A7 hs=>?_;have hp:@cN:=@cf;refine⟨.ref _,upd H s.heap.objs.size (.dK kv),.ref _,_,I.laid (a:=s.heap.objs.size) (o:=.dK kv) (t':=s.toks) (λb q hq=>?_) @J (DJ z (beq_eq_false_iff_ne.mpr (cO (bu I.big))) rel A7),.new ab hp (.dk bV (rs.mono @ar)),rfl,.ref _,q _ (ab.free hp)⟩;exact(hs.2 b (bu (aQ hq))).trans (aJ _ hq)
 ext j
theorem Xq:Ki X "dict.get" C4:=by
 intro pins s σ H G x d xs ds v us Q I ab rx rd QT Ga q;unfold C4 at q;split at q
 .rename_i k d';obtain⟨kvs,hd,h1,hk,q⟩:=q;obtain⟨w,w2,rfl,F6,RI⟩:=Ga.two;obtain⟨u1,u2,rfl,O3,RM⟩:=vals2 QT;obtain⟨a,kv,vs,rfl,rs,z,hm,rel,dd⟩:=Ap I ab rd hd h1;cases rx;obtain⟨kk,rfl⟩:=sN hk;have ey:=sx F6;subst ey;refine Cc nV dd.typeIs MT (KY _ _ _) (meets_dict_get_default @ck a (Di O3) hm u2) ⟨_,dd.mapOf,?_⟩;have ro:=(rel.val kk).getD RM;rcases rs.look kk with ⟨v',d2,e1,e2,r⟩ |⟨e1,e2⟩
  .rw[e1] at ro;rw[e2] at q;exact⟨v',H,d2,G,@au,@ai,ro,r,q⟩
  .rw[e1] at ro;rw[e2] at q;exact⟨w2,H,d',G,@au,@ai,ro,RI,q⟩
 ext j
end
end K2
end
section
namespace L2
open PySem PySem.Spec PyProof.Rows
def Iti(a:Addr)(o:Obj)(kv:@aO):It :=
 ⟨λi H=>(∃u,H a=@bx)/\i<kv.length,λi H v H'=>∃T p,v=.ref T/\H T=none/\H'=upd H T (.tup [kV p.1,p.2])/\kv[i]?=some p,λi H=>(∃u,H a=@bx)/\kv.length<=i⟩
theorem CO:∀{l:@o} {m:List β},ma F l m->∀i (h1:i<l.length) (h2:i<m.length),F l[i] m[i]
 |_,_,.cons h _,0,_,_=>h
 |_,_,.cons _ t,i+1,h1,h2=>CO t i (@cx) (@bH)
theorem PS(h:(c7 P w).is k u=true):RelV (kV k) u:=by
 rcases fJ h with ⟨i,t,rfl,rfl⟩ |⟨x,t,rfl,rfl⟩
 .exact⟨t,rfl⟩
 .exact⟨t,rfl⟩
theorem nQ:entryFor table "dict_itemiterator.__iter__"=some Builtin.«dict_keyiterator.__iter__» :=
 entryFor_alias (id':="dict_keyiterator.__iter__") (by rw[fastTable_eq_tree];kernel_rfl) (@bB) (@bB) (by rw[fastTable_eq_tree];kernel_rfl)
theorem Lb{K:aw}(a it)(o)(kv)(vs)(ep)(rel:KV kv vs)(hD:∀h:Heap,@aJ=@i->h.DictAt (c7 P w) a vs ep):
  Turn P w K (.Tuple elts kk pos) (Iti a o kv) [it] it (λi h=>∃ok ov,qG h it a i vs.length ep ok ov) where
 mem:=@K
 obj:=λi h ⟨ok,ov,st⟩ b hb=>by
  have e:b=it:=@bP
  subst e;exact⟨_,st,λv z=>by cases z⟩
 keep:=λi h h' ⟨ok,ov,st⟩ k=>⟨ok,ov,k it @f _ st⟩
 item:=by
  ext l;obtain⟨ok,ov,st⟩:=st;ext m;obtain⟨⟨u,hu⟩,hi⟩:=hg;have hl:=rel.length;have hi2:i<vs.length:=@d
  have hx:vs[i]?=some (vs[i].1,vs[i].2):=az hi2;have rp:=CO rel i hi hi2;have XG:@cN:=@cf;have hiT:it≠s.heap.objs.size:=bu (aQ st);refine wpAny_pyNext_items_item st (hD _ (I.cx a _ hu).1) hx λkey h' hk ho hT hsz kk=>?_;refine⟨_,rfl,?_⟩;have rk:RelV (kV kv[i].1) key:=by rw[rp.1];exact PS hk
  have I1:Inv X pins σ (upd H s.heap.objs.size (.tup [kV kv[i].1,kv[i].2])) {s with heap:=h',toks:=s.toks} :=
   I.xS (fp:=[it]) hf (λb o hb q=>kk b o (λz=>hb (by simp[z])) q) @J
    ⟨by show 2<=ba;decide,[key,vs[i].2],.cons rk (.cons rp.2 .nil),⟨_,hT,rfl,_,rfl⟩⟩
  refine Q3 (s:=@as) ho λh2 Qa Fc=>?_;have f1:∀b∈[it],pK X pins (upd H s.heap.objs.size (.tup [kV kv[i].1,kv[i].2])) b:=λb hb=>(hf b hb).upd (by rw[List.mem_singleton.mp hb];exact hiT);have I2:Inv X pins σ (upd H s.heap.objs.size (.tup [kV kv[i].1,kv[i].2])) {s with heap:=h2,toks:=s.toks} :=
   Inv.qe (s:={s with heap:=h',toks:=s.toks}) (t':=s.toks) (fp:=[it]) I1 f1 λb o hb q=>(Fc.2 b (λz=>hb (by simp[z]))).trans q
  exact⟨@aE,_,I2,rfl,⟨_,kv[i],rfl,XG,rfl,az hi⟩,⟨_,_,Qa⟩,λb hb=>(f1 b hb).1⟩
 done:=by
  ext l;obtain⟨ok,ov,st⟩:=st;ext m;obtain⟨⟨u,hu⟩,hi⟩:=hg;have hl:=rel.length;obtain⟨f0,f1,f2,f3,f4,f5⟩:=hf it @f;exact wpAny_pyNext_items_end (@cg) st (hD _ (I.cx a _ hu).1) (kO @c) λh' eb=>⟨rfl,I.turned (t':=s.toks) (λb o hb e=>eb b o hb e) f0 f1 f3 f4 f5⟩
 self:=λA i s Q E ⟨ok,ov,st⟩ h=>by
  have ty:s.TypeIs @aL "dict_itemiterator":=⟨_,st,rfl⟩;refine qz ty kr (dE kr ty nQ ?_ (HX _));show wpAny _ _ (ret @aL) _ _ s;exact aE ⟨_,rfl,"dict_itemiterator",_,ty,F.slot_dict_itemiterator_next.lookup,h⟩
end L2
namespace K2
open PySem PySem.Spec PyProof.Rows L2
section
variable {X:Cx}
theorem ZK(I:@k)(rd:cm X.K H x (.kU kvs))(h1:yL kvs=true):
  ∃a ob u kv vs ep,x=@V/\H a=some (.ji ob u)/\mU X.K H kv kvs/\@bQ/\KV kv vs/\∀h:Heap,@aJ=some ob->h.DictAt @ck a vs ep:=by
 cases rd with
 |pj hq rs=>
  rename_i a o kv;obtain⟨z,hm,vs,rel,ob,es,ep,ho,r⟩:=(I.cx a _ hq).2;have eo:ob=o:=by have:=(I.cx a _ hq).1;rw[ho] at this;exact aZ this
  subst eo;exact⟨a,ob,_,kv,vs,ep,rfl,hq,rs,hm,rel,λh e=>⟨ob,es,e,r⟩⟩
 | ph hq rs=>
  rename_i a o kv;cases rs with
  |nil=>
   obtain⟨z,hm,xs,rel,ob,es,ep,ho,hx,Eb,hl,nd⟩:=(I.cx a _ hq).2;have eo:ob=o:=by have:=(I.cx a _ hq).1;rw[ho] at this;exact aZ this
   subst eo;have hv:xs=[]:=by cases rel;rfl
   subst hv;have he:es=#[]:=by simpa using hl
   subst he;exact⟨a,ob,_,[],[],ep,rfl,hq,.nil,hm,.nil,λh e=>⟨ob,#[],e,hx,Eb,(λ_ h=>@cc),.nil,cJ⟩⟩
  |cons _ _=>simp[yL,dq] at h1
theorem mU.item{K:aw}:∀{kv:@aO} {kvs:@ag} {i:Nat} {q:D×D},mU K H kv kvs->kvs[i]?=some q->∃p,kv[i]?=some p/\q.1=fi p.1/\cm K H p.2 q.2
 |_,_,_,_,.nil,e=>by simp at e
 |_,_,0,_,.cons r _,e=>by simp at e;subst e;exact⟨_,rfl,rfl,r⟩
 |_,_,i+1,q,.cons _ t,e=>by
  obtain⟨p,h1,h2⟩:=mU.item (i:=i) (q:=q) t (@bV);exact⟨p,@cx,h2⟩
variable {elts:@az} {kk:Nat} {wZ apos jY:Pos} {o:Expr} {to:gC}
theorem O5{K:aw}(k):cm K H (kV k) (fi k):=by
 cases k with
 |inl i=>exact @w
 |inr x=>exact .str x
theorem Pm (ho:eU X o to) (vb:autoParam (zD o "items" X.env (eval o X.env)=eval o X.env) Ar._auto_1) (yU:autoParam ((apos.endLine == jY.line)=true) Ar._auto_1):
  Be X (.Tuple elts kk wZ) (.Call (.Attribute o "items" apos) [] [] jY) (iL to):=by
 intro E pins s σ H τ G R hE I h;refine zC vb yU (jH ho hE I h @cE);cases d with
 | kU kvs=>
  obtain⟨h1,q1⟩:=q1;obtain⟨t1,t2⟩:=xR pins s1 σ H1 G1 x _ v I1.inv I1.ab r1 j4 trivial;obtain⟨a,ob,u,kv,vs,ep,rfl,hu,rs,hm,rel,hD⟩:=ZK I1.inv j4 h1;cases r1;refine⟨"dict","dict.items",hU,g8,ux,t1,t2,nN rfl (Bl ?_)⟩;have dA:=hD _ (I1.inv.cx a _ hu).1;refine Cc g8 t1 tY (rX _) (meets_dict_items @ck a hm) ⟨⟨vs,dA.dictOf⟩,?_⟩;have I2:Inv X pins σ H1 {s1 with heap:=s1.heap.push {cls:=.type "dict_items",data:=.fields #[@V]}}:=I1.inv.kept (t':=s1.toks) λb o e=>aJ _ e;refine wpAny_pyIter_items (s:={s1 with heap:=s1.heap.push {cls:=.type "dict_items",data:=.fields #[@V]}}) (kvs:=vs) (ep:=ep) ⟨_,@aX,rfl,rfl⟩ (dA.push _) ?_;refine⟨_,[_],_,_,H1,G1,kvs.map (λp=>.tup [p.1,p.2]),_,rfl,I2.kept (t':=s1.toks) λb o e=>aJ _ e,m1,Lb a _ ob kv vs ep rel hD,⟨.none,.none,@aX⟩,λb hb=>?_,λi H2 G2 k ab _=>?_,q1⟩
  .have e:=List.mem_singleton.mp hb;subst e;exact I2.Ds @J (I2.cx.fresh @J)
  .have Bt:=k.ji _ _ _ hu;have Ku:=rs.mono k;have hlen:kv.length=kvs.length:=rs.length;refine⟨λd hd=>?_,λhle=>⟨⟨u,Bt⟩,by rw[hlen];simpa using hle⟩⟩;rw[bw] at hd;cases Ky:kvs[i]? with
   |none=>rw[Ky] at hd;cases hd
   |some q=>
    rw[Ky] at hd;obtain⟨p,hp,ek,rp⟩:=Ku.item Ky;have hi:i<kv.length:=(List.getElem?_eq_some_iff.mp hp).1;refine⟨⟨⟨u,Bt⟩,hi⟩,λx H3 ⟨T,p',ex,hT,e3,hy⟩=>?_⟩;subst ex e3;rw[hp] at hy;cases hy;have ed:D.tup [q.1,q.2]=d:=by simpa using hd
    subst ed;rw[ek];exact⟨.tup bV (.cons (O5 _) (.cons (rp.mono (.new hT)) .nil)),.Kz ab hT⟩
 |_=>ext e
end
end K2
end
section
namespace K2
open PySem PySem.Spec PyProof.Rows L2
section
variable {X:Cx}
theorem vj{K:aw}:∀{kv:@aO} {l:@ae},mU K H kv (bb l)->kv=l.map λp=>((.inl p.1:Key),V.int p.2)
 |_,[],h=>by cases h;rfl
 | _,p::l,h=>by
  have h:mU K H _ ((D.int p.1,D.int p.2)::bb l):=h;generalize e:(D.int p.1,D.int p.2)::bb l=t at h;cases h with
  |nil=>cases e
  |cons r rs=>
   rename_i k v d r' t';injection e with e1 e2
   injection e1 with e3 e4
   subst e2 e4;cases r;rw[vj rs];cases k with
   |inl i=>cases e3;rfl
   |inr x=>cases e3
theorem yK:∀{l:@ae} {vs:List (Key×Value)},KV (l.map λp=>((.inl p.1:Key),V.int p.2)) vs->∃ts:List Tok,ts.length=l.length/\vs=(l.zip ts).map λq=>((.inl q.1.1:Key),fZ q.1.2 q.2)
 |[],_,.nil=>⟨[],rfl,rfl⟩
 |p::l,_,.cons h r=>by
  obtain⟨ts,h1,h2⟩:=yK r;rename_i q vs;obtain⟨k,v⟩:=q;obtain⟨e1,t,e2⟩:=h;cases e1;cases e2;exact⟨t::ts,by simp[h1],by rw[h2];rfl⟩
theorem FT(h:ts.length=l.length)(k):(cN l k=none/\qE ((l.zip ts).map λq=>((.inl q.1.1:Key),fZ q.1.2 q.2)) (.inl k)=none)\/∃v t,cN l k=@W/\qE ((l.zip ts).map λq=>((.inl q.1.1:Key),fZ q.1.2 q.2)) (.inl k)=some (.int v t):=by
 induction l generalizing ts with
 |nil=>exact .inl @a_
 | cons p l ih=>
  cases ts with
  |nil=>cases h
  | cons t ts=>
   have ih:=ih (ts:=ts) (@b2);by_cases e:p.1=k
   .refine .inr ⟨p.2,t,?_,?_⟩
    .unfold cN;simp[e]
    .unfold qE;simp[e]
   .have e':¬ ((.inl p.1:Key)=.inl k):=λz=>e (by injection z);have a1:cN (p::l) k=cN l k:=by unfold cN;simp[e]
    have a2:qE (((p::l).zip (t::ts)).map λq=>((.inl q.1.1:Key),fZ q.1.2 q.2)) (.inl k)=qE ((l.zip ts).map λq=>((.inl q.1.1:Key),fZ q.1.2 q.2)) (.inl k):=by
     unfold qE;simp[e']
    rw[a1,a2];exact ih
theorem Aa(hm:us.length=m.length):∀{l:@ae} {ts:List Tok},ts.length=l.length ->
  PySem.W.KeqHits A s ((m.zip us).map λq=>((.inl q.1.1:Key),fZ q.1.2 q.2)) ((l.zip ts).map λq=>((.inl q.1.1:Key),fZ q.1.2 q.2)) (l.all λp=>cN m p.1 == @a3)
 |[],_,_=>.nil
 |p::l,[],h=>@aS
 | p::l,t::ts,h=>by
  have ih:=Aa (A:=A) (s:=s) hm (l:=l) (ts:=ts) (@b2);rcases FT hm p.1 with ⟨e1,e2⟩ |⟨v,t',e1,e2⟩
  .have:((p::l).all λp=>cN m p.1 == @a3)=false:=by simp[e1]
   rw[this];exact .miss e2
  .have eq:SeqAt.EqAt A s (fZ p.2 t) (fZ v t') (decide (p.2=v)):=by
    have:=PySem.W.keq_flat (A:=A) (s:=s) (v:=fZ p.2 t) (y:=fZ v t') (d:=.int p.2) (e:=.int v) (.int _ _) (.int _ _);have e2:SeqAt.EqAt A s (fZ p.2 t) (fZ v t') (p.2 == v):=by simpa[uc] using this
    exact e2
   have:((p::l).all λp=>cN m p.1 == @a3)=(decide (p.2=v)&&l.all λp=>cN m p.1 == @a3):=by
    rw[nj,e1];congr 1;by_cases z:p.2=v
    .simp[z]
    .have:¬ v=p.2:=λy=>z y.symm;simp[z,this]
   rw[this];exact .hit e2 eq ih
theorem Xi(hu:@bl):oH X (fh .Eq) (ZO false):=by
 ext q;obtain⟨l,m,e1,e2,q⟩:=q;obtain⟨a,kv,vs,rfl,rs,z,hm,rel,dd⟩:=Ap I ab dX e1 (ml l);obtain⟨b,kw,ws,rfl,Ku,z2,VE,RR,HI⟩:=Ap I ab dY e2 (ml m);cases rx;cases ry;rw[vj rs] at rel;rw[vj Ku] at RR;obtain⟨ts,t1,rfl⟩:=yK rel;obtain⟨us,t2,rfl⟩:=yK RR;refine PySem.W.keq_eq hm VE dd HI @c (λ_=>Aa t2 t1) ?_;refine⟨.bl _,H,.bl _,G,I,@ai,rfl,.bl _,?_⟩;have:((((l.zip ts).map λq=>((.inl q.1.1:Key),fZ q.1.2 q.2)).length == ((m.zip us).map λq=>((.inl q.1.1:Key),fZ q.1.2 q.2)).length)&&l.all λp=>cN m p.1 == @a3)=BA l m:=by
  unfold BA;simp[t1,t2]
 rw[this];exact q
theorem Xb(hu:@bl):oH X (fh .NotEq) (ZO true):=by
 ext q;obtain⟨l,m,e1,e2,q⟩:=q;obtain⟨a,kv,vs,rfl,rs,z,hm,rel,dd⟩:=Ap I ab dX e1 (ml l);obtain⟨b,kw,ws,rfl,Ku,z2,VE,RR,HI⟩:=Ap I ab dY e2 (ml m);cases rx;cases ry;rw[vj rs] at rel;rw[vj Ku] at RR;obtain⟨ts,t1,rfl⟩:=yK rel;obtain⟨us,t2,rfl⟩:=yK RR;refine PySem.W.keq_ne hm VE dd HI @c (λ_=>Aa t2 t1) ?_;refine⟨.bl _,H,.bl _,G,I,@ai,rfl,.bl _,?_⟩;have:((((l.zip ts).map λq=>((.inl q.1.1:Key),fZ q.1.2 q.2)).length == ((m.zip us).map λq=>((.inl q.1.1:Key),fZ q.1.2 q.2)).length)&&l.all λp=>cN m p.1 == @a3)=BA l m:=by
  unfold BA;simp[t1,t2]
 rw[this];exact q
theorem Xh(hu:@bl):oH X (fh .Eq) (t9 false):=by
 ext q;rcases q with q |q
 .exact SJ hu pins s σ H G x y dx dy v u Q I ab rx ry dX dY q
 .exact Xi hu pins s σ H G x y dx dy v u Q I ab rx ry dX dY q
theorem Xa(hu:@bl):oH X (fh .NotEq) (t9 true):=by
 ext q;rcases q with q |q
 .exact SG hu pins s σ H G x y dx dy v u Q I ab rx ry dX dY q
 .exact Xb hu pins s σ H G x y dx dy v u Q I ab rx ry dX dY q
variable {k v:Expr} {tk tv:gC} {pos:Pos}
theorem Sz(hk:eU X k tk)(hv:eU X v tv):eU X (.Dict [some k] [v] pos) (tS tk tv):=by
 ext i;have hn:=I.inv.cx.fresh (aH s.heap.objs.size);have I1:=I.inv.laid (a:=s.heap.objs.size) (o:=.dK []) (h':=s.heap.push {cls:=@aZ,data:=.dict #[]}) (t':=s.toks) (λ_ _ q=>aJ _ q) @J (DL s.heap I.inv.big);have mh:Mv X.K H G (upd H s.heap.objs.size (.dK [])) G:=.Kz I.ab hn;have I2:I2 X pins σ (upd H s.heap.objs.size (.dK [])) τ G {s with heap:=s.heap.push {cls:=@aZ,data:=.dict #[]},toks:=s.toks}:=⟨I1,I.st.mono (.new hn),mh.ab⟩;refine wpAny_Dict_walk (knd:=c7 X.prog X.w) (by rfl) (by rfl) @f (show 1<=15 by decide) ?_;refine um (jH hk hE I2 h λx H1 dx G1 u s1 I3 m1 r1 j4 q1=>?_);refine jH hv hE I3 q1 λy H2 dy G2 w s2 I4 m2 r2 zS q2=>?_;obtain⟨hk1,q2⟩:=q2;refine HP ?_;obtain⟨kk,rfl⟩:=sN hk1;have ex:=sx j4;subst ex;have g0:G s.heap.objs.size=none:=I.ab.free hn;obtain⟨p1,p2⟩:=m1.keep _ _ (bV (H:=H) (a:=s.heap.objs.size) (o:=.dK [])) g0;obtain⟨p3,p4⟩:=m2.keep _ _ p1 p2;obtain⟨rs,c,rk⟩:=xt (P:=X.prog) (w:=X.w) (kvs:=[(kk,y)]) (ws:=[(u,w)]) (.cons ⟨r1,r2⟩ .nil);obtain⟨z,hd,vs0,r0,dd⟩:=DI I4.inv.cx p3;cases r0;refine⟨rs,c,dd,λh' A7 hs=>?_⟩;have he:∃q,@c6=some q:=let ⟨q,_,_,hq,_⟩:=A7;⟨q,hq⟩
 have em:CV [] [(kk,y)]=[(kk,y)]:=rfl;have kp:Kp H2 (upd H2 s.heap.objs.size (.dK [(kk,y)])):=.putD p3 (.inl @A);have I5:=sV (t':=s2.toks+[(u,w)].length) I4.inv (by rw[p3];exact gv) hs he (DJ (kvs:=CV [] [(kk,y)]) (by rw[em];exact(show 1<=ba by decide)) hd (rk.merge .nil) A7);rw[em] at I5;have Kv:=(mh.trans m1).trans m2;refine⟨@aE,_,@aE,_,I5,?_,rfl,.ref _,q2 _ p4⟩;refine⟨λa o e n=>?_,λa n=>?_,λa g e=>?_⟩
 .have ha:a≠s.heap.objs.size:=λz=>by rw[z,hn] at e;cases e
  obtain⟨k1,k2⟩:=Kv.keep a o e n;exact⟨by rw[bH ha];exact k1,by rw[cu ha];exact k2⟩
 .by_cases ha:a=s.heap.objs.size
  .subst ha;rw[bV];simp
  .rw[bH ha];exact Kv.jN a n
 .by_cases ha:a=s.heap.objs.size
  .subst ha;rw[ax] at e;cases e;exact .dk bV (.cons ((zS.mono kp)) .nil)
  .rw[cu ha] at e;exact(Kv.ab a g e).mono kp (bH ha)
end
section
variable {X:Cx} {e:Expr} {t:Az} {pos p:Pos} {x:Str} {k:Nat} {f:Addr} {fd:gc} {ps:@v} {sp:iS}
theorem mU.plain{K:aw}:∀{kv:@aO} {kvs:@ag},mU K H kv kvs->(kvs.all λp=>dq p.1&&pE p.2)=true->mU K H2 kv kvs
 |_,_,.nil,_=>.nil
 |_,_,.cons (d:=d) r rs,h=>by
  rw[nj,aL,aL] at h;refine .cons ?_ (mU.plain rs h.2);have hp:=h.1.2;cases r with
  |fe=>exact .fe
  |bl b=>exact .bl _
  |int i=>exact @S
  |_=>exact absurd hp (by simp[pE])
end
section
variable {K:aw} {h:Heap} {C:Addr} {Fy:@C} {newId:String}
theorem aa5{P:Prop}
  (q:PySem.W.excIn.match_1 (λ_ _=>Bool) m sl f (λ_ _=>false)=true)
  (k:∀C' bm k0 k1 k2 k3 n k5,m=.ref C'::bm->sl=[k0,k1,k2,k3,some (.builtin n),k5]->f C' bm k0 k1 k2 k3 n k5=true->P):P:=by
 have no:@bC->P:=λz=>bo z;cases m with
 |nil=>exact no q
 | cons v bm=>
  cases v with
  | ref C'=>
   obtain _ |⟨k0,_ |⟨k1,_ |⟨k2,_ |⟨k3,_ |⟨_ |w,sl⟩⟩⟩⟩⟩:=sl
   iterate 6 exact no q
   cases w with
   |builtin n=>
    obtain _ |⟨k5,_ |_⟩:=sl
    .exact no q
    .exact k C' bm k0 k1 k2 k3 n k5 rfl rfl q
    .exact no q
   |_=>exact no q
  |_=>exact no q
inductive Ve (h:Heap) (C:Addr) (Fy:@C) (newId:String):Prop
 |mk (bm N nm qn bs hdct sn sub ab col dd k0 k1 k2 k3 k5 mN) (o:h.get? C=some (Q7 nm qn C N bs bm hdct sn sub ab col dd k0 k1 k2 k3 k5 newId)) (n:h.Ns N mN) (i:mN "__init__"=none) (t:OwnTail h Fy bm):Ve h C Fy newId
theorem GK(Y:K.In h)(q:pQ K C Fy newId=true):Ve h C Fy newId:=by
 unfold pQ at q;split at q
 rotate_left
 .cases q
 rename_i dd cd sl ho;refine aa5 q λC' bm k0 k1 k2 k3 n k5 hm hs q=>?_;obtain⟨nm,bs,mro,ns,qn,hd,sn,sub,ab,col,del⟩:=cd;obtain⟨sl⟩:=sl;subst hm hs;have q:(C' == C&&n == newId&&!del&&PySem.W.tailIn K Fy bm&&PySem.W.nsOkIn K ns&&rP K ns "__init__" == some none)=true:=q;simp only[aL,beq_iff_eq,oN] at q;obtain⟨⟨⟨⟨⟨e1,e2⟩,e3⟩,e4⟩,e5⟩,e6⟩:=q;subst e1 e2 e3;exact⟨bm,_,_,_,_,_,_,_,_,_,dd,k0,k1,k2,k3,k5,_,Y _ _ ho,.of_isNs (PySem.W.isNs_of_in Y e5),PySem.W.nsMap_none_of_in Y e5 e6,PySem.W.tail_of_in Y e4⟩
end
section
variable {X:Cx} {x:Str} {C:Addr} {Fy:@C} {B newId TQ:String} {e0:Expr} {es:@az} {np jY pos:Pos} {t:Az}
theorem Lr(g:Gp->Gp)(hgg:∀H G,@aN->lh X.K H (g G))(hg:Gl X x)(hm:X.mg x=some @X)(q:pQ X.K C Fy newId=true)(FB:ExcBaseFacts B newId TQ Fy)(hc:@bv)(ha:wO X (e0::es) t)
  (rJ:@bh) (he:autoParam (a8 (e0::es) X.env=(false,eval e0 X.env)::@be) Ar._auto_1) (rV:autoParam ((jb jY (@be)).any @n=false) Ar._auto_1):
  xA X (.Raise (some (.Call (.Name x np) (e0::es) [] jY)) none pos) (λE _ τ G=>t E τ G λds G1=>ds.length<=SZ/\E ⟨x,[]⟩ (g G1)):=by
 ext s;obtain⟨tl,N,nm,qn,bs,hdct,sn,sub,ab,col,dd,k0,k1,k2,k3,k5,mN,hC,hN,hni,T⟩:=GK I.inv.ok.mod.Xx q;refine wpAny_Raise_call_subT (C:=C) (nm:=nm) (q:=qn) (N:=N) (bs:=bs) (bm:=tl) (hdct:=hdct) (sn:=sn) (sub:=sub) (ab:=ab) (col:=col) (dd:=dd) (k0:=k0) (k1:=k1) (k2:=k2) (k3:=k3) (k5:=k5)
  FB (mN:=mN) (T.hasType FB.hasBase) (I.inv.ok.hd hc) (by rw[he];show(false||(jb jY (@be)).any @n)=false;rw[rV];rfl) hni (oB I.inv hg hm ⟨rfl,?_⟩ rJ)
 have w:=zJ (Q:=λus s2=>us.length<=ba/\(∀b o,X.base.get? b=@i->s2.heap.get? b=@i)/\∀h' e,Heap.MadeExcOf s2.heap h' e @X us->X.xe (.ref e) {s2 with heap:=h'}) ha jY hE I h
  λvs H1 ds G1 us s1 I1 m1 r rd z=>⟨by rw[<-r.length,rd.length,c5];exact z.1,I1.inv.bk,λh' e hx=>hE.made pins σ H1 s1 h' e C us ⟨x,[]⟩ _ I1.inv (hgg _ _ I1.ab) hx hm z.2⟩
 rw[he] at w ⊢;exact Vr (lW w (λus s2 h2=>⟨rfl,h2.1,h2.2.1 _ _ hC,hN.keeps h2.2.1,T.keeps h2.2.1,h2.2.2⟩) λ_ _ y=>y)
theorem Pe(hg:Gl X x)(hm:X.mg x=some @X)(q:pQ X.K C Fy newId=true)(FB:ExcBaseFacts B newId TQ Fy)(hc:@bv)(ha:wO X (e0::es) t)
  (rJ:@bh) (he:autoParam (a8 (e0::es) X.env=(false,eval e0 X.env)::@be) Ar._auto_1) (rV:autoParam ((jb jY (@be)).any @n=false) Ar._auto_1):
  xA X (.Raise (some (.Call (.Name x np) (e0::es) [] jY)) none pos) (sW x t):=Lr (λ_ _=>none) (λ_ _ _ _ _ z=>by cases z) hg hm q FB hc ha rJ he rV
end
theorem _root_.Internal.L2.fY.there(x:fY P w H h a o):∃ob,@aJ=some ob:=by
 cases o with
 |lst xs=>obtain⟨_,_,_,_,e⟩:=x;exact⟨_,e⟩
 |tup xs=>obtain⟨_,_,_,ob,e,_⟩:=x;exact⟨_,e⟩
 |dK kvs=>obtain⟨_,_,_,_,o,_,_,e,_⟩:=x;exact⟨_,e⟩
 |dT kvs=>obtain⟨_,_,_,_,o,_,_,e,_⟩:=x;exact⟨_,e⟩
 |set S n=>obtain⟨o,_,_,_,e,_⟩:=x;exact⟨_,e⟩
 |ins C dx fs=>obtain⟨_,_,_,e,_⟩:=x;exact⟨_,e⟩
 |own y=>exact x
 |xd fs=>obtain⟨_,⟨_,_,_,e,_⟩,_⟩:=x;exact⟨_,e⟩
 |rng lo hi=>obtain⟨_,_,_,e⟩:=x;exact⟨_,e⟩
 |ji ob u=>obtain⟨e,_⟩:=x;exact⟨_,e⟩
 |V8 ps=>obtain⟨_,e,_⟩:=x;exact⟨_,e⟩
 |met f y=>exact⟨_,x⟩
 |ext φ=>obtain⟨_,e,_⟩:=x;exact e
theorem LA{h1 B:Heap}(I:@cG)(Jw:X.stack=X.env::X.outer)(QV:X.env.frame=some X.env.locals)(hex:X.ex=[])
  (acK:∀b o,@cK=@i->h1.get? b=@i) (hB:∀b o,@cK=@i->b∉@bU->(@cB≠none\/H1 b≠none)->B.get? b=@i) (jN:B.StaysIn h') (up:h1.UpToSlots h'):
  Un (wm X.outer) [] X.QB H1 X.jM.heap h'/\pZ X.prog X.w H1 h'/\∀b o,@bm->b∉wm X.outer->(@cB≠none\/H1 b≠none)->B.get? b=@i:=by
 have efr:@bU=X.env.locals::wm X.outer:=by rw[Jw];unfold wm;rw[OK QV]
 have SV:∀b,b∉wm X.outer->@bY->b∉@bU:=λb h1 h2 h3=>by
  rw[efr] at h3;rcases List.mem_cons.mp h3 with e |e
  .exact h2 e
  .exact h1 e
 have old:∀b o,@cB=@i->@bY:=λb o q=>bu (bC (aQ q) I.ok.above);have tr:∀b u,H1 b=@L->b∉@bU:=λb u q hb=>by rw[I.F3 b hb] at q;cases q
 have nx:∀b:Addr,b∉X.ex:=λb=>by rw[hex];exact b9
 have frame:∀b o,b∈wm X.outer->@cK=@i->∃sl,h'.get? b=some {o with slots:=sl}:=λb o hb e=>by
  obtain⟨_,o2,e2,nf⟩:=I.stack.mem (show b∈@bU by rw[efr];exact .tail _ hb);rw[e] at e2;cases e2;exact up b o (acK b o e) nf
 have go:∀b o,@cK=@i->b∉@bU->(@cB≠none\/H1 b≠none)->@bm:=λb o e n c=>jN b o (hB b o e n c);refine⟨⟨λb o q n hb _=>?_,λb o q n hb _=>?_,λb o q n _=>I.base.free b o q n (nx b),λb o q _=>?_,I.base.t8,I.base.sQ,I.base.wd,I.base.we⟩,λa o q=>?_,λb o e hb hc=>?_⟩
 .exact go b o (I.base.keep b o q n hb (nx b)) (SV b hb (old b o q)) (.inl (by rw[q];simp))
 .obtain⟨sl,e⟩:=I.base.slot b o q n hb (nx b);obtain⟨Io,e2⟩:=frame b _ hb e;exact⟨Io,e2⟩
 .obtain⟨o',e⟩:=I.base.there b o q (nx b);by_cases hb:b∈wm X.outer
  .obtain⟨Io,e2⟩:=frame b _ hb e;exact⟨_,e2⟩
  .exact⟨o',go b o' e (SV b hb (old b o q)) (.inl (by rw[q];simp))⟩
 .refine(I.cx a o q).jN (λb u hb e=>?_) (λb r=>r) (λb xs r=>r);rcases hb with rfl |hb
  .exact go b u e (tr b _ q) (.inr (by rw[q];simp))
  .exact go b u e (tr b _ hb) (.inr (by rw[hb];simp))
 .have n:b∉@bU:=by
   rcases hc with hc |hc
   .cases q:@cB with
    |none=>exact absurd q hc
    |some o0=>exact SV b hb (old b o0 q)
   .cases q:H1 b with
    |none=>exact absurd q hc
    |some u=>exact tr b u q
  have:∃o1,@cK=some o1:=by
   rcases hc with hc |hc
   .cases q:@cB with
    |none=>exact absurd q hc
    |some o0=>exact I.base.there b o0 q (nx b)
   .cases q:H1 b with
    |none=>exact absurd q hc
    |some u=>exact(I.cx b u q).there
  obtain⟨o1,e1⟩:=this;have e2:=go b o1 e1 n hc;rw[e] at e2;cases e2;exact hB b o e1 n hc
section
variable {P:bz} {w:World} {K:aw} {mg:@aV} {base:Heap} {N:@v} {qual:Str} {scope:Scope} {f:Addr} {cd:Value} {A:cZ} {outer:@bj} {s:aB} {H:Hp} {Ek:XK} {E2:mK}
theorem acF(ke:∀ex C H' G',E2 ex G'->lh K H' G'->mg ex.cls=some @X->Ek @X none H'):Lk (xp (QX P w) P w K mg base N qual scope f cd A outer s H Ek) E2 where
 made:=λpins σ H1 s1 h1 a C args ex G1 I XF hx hm hE=>by
  show wpAny (model P w) _ (leaving _ @u) _ _ _;refine wpAny_leaves_madeW (h:=s1.heap) (base:=PySem.W.hideAll s1.heap (wm (xp (QX P w) P w K mg base N qual scope f cd A outer s H Ek).stack)) I.ok.frames rfl (λb o q=>Vl _ q)
   (PySem.W.funFrames_hide I.stack λenv he b hb=>List.mem_filterMap.mpr ⟨env,he,hb⟩) hx λh' t fl tup tn up=>?_
  obtain⟨un,cx,hB⟩:=LA I rfl rfl rfl hx.keeps (λb o e n _=>Q9 _ e n) fl.1 up;refine⟨a,C,t,_,H1,rfl,I.os,I.bare,un,cx,hB,fl,?_,?_,ke ex C H1 G1 hE XF hm⟩
  .cases q:H1 a with
   |none=>rfl
   |some u=>
    obtain⟨o,e⟩:=(I.cx a u q).there;have:=hx.new;rw[e] at this;ext f
  .cases q:s.heap.get? a with
   |none=>rfl
   |some o=>
    obtain⟨o',e⟩:=I.base.there a o q b9;have:=hx.new;rw[e] at this;ext f
 pass:=λpins σ H1 s1 s' e I NT=>by
  obtain⟨a,C,t,B,H',e1,os,bare,un,cx,hB,fl,ha,hs,ex,C',G2,e2,hm,XF,hE⟩:=NT;subst e1;cases e2;show wpAny (model P w) _ (leaving _ @u) _ _ _;have I':Inv (xp (QX P w) P w K mg base N qual scope f cd A outer s H Ek) pins σ H' s':=by
   obtain⟨hh,g,d,t,os'⟩:=s';obtain rfl:os'=s1.os:=os;exact I.call (h':=hh) (g':=g) (d':=d) (t':=t) (ch:=[]) un cx bare (λb z=>absurd z @f)
  refine wpAny_leaves_onW I.ok.frames rfl fl λh' fl' up=>?_;obtain⟨un',L7,hB'⟩:=LA I' rfl rfl rfl (λ_ _ e=>e) (λb o e n c=>hB b o e n (c.imp (λz=>by
   cases q:@am with
   |none=>exact absurd q z
   |some o0=>obtain⟨o1,e1⟩:=I.base.there b o0 q b9;rw[e1];simp) id)) fl'.1 up
  refine⟨a,C,t,B,H',rfl,I'.os,I'.bare,un',L7,hB',fl',ha,?_,ke ex C H' G2 hE XF hm⟩;cases q:s.heap.get? a with
  |none=>rfl
  |some o=>obtain⟨o1,e1⟩:=I.base.there a o q b9;rw[e1] at hs;cases hs
end
def EH(K:aw)(mg:@aV)(sp:iS):Sp:=λvs H Q E=>∃ds G Q2 E2,@bf/\lh K H G/\sp ds G Q2 E2/\(∀d G' v H',Q2 d G'->Mv K H G H' G'->cm K H' v d->Q v H') /\
 ∀(ex:Ex) (C:Addr) (H':Hp) (G':Gp),E2 ex G'->lh K H' G'->mg ex.cls=some @X->E @X none H'
theorem XJ{P:bz}{w:World}{K:aw}{mg:@aV}{base:Heap}{x qual:Str}{st:Stmt}{f:Addr}{fd:gc}{Nn ps:@v}{k:Nat}{sp:iS}{rd:gq}(F:VI K x qual st f fd)(S:kZ Nn ps @aH)(len:∀ds G Q E,sp ds G Q E->@c2)
  (hr:∀ds G Q E,sp ds G Q E->rd E @F (@cD) G)
  (hb:∀(i8:Value) (A:cZ) (outer:@bj) (s:aB) (H:Hp) (E:XK),kg k (A.deeper (Ca qual @aH s.heap.objs.size f i8))->pJ (xp (QX P w) P w K mg base Nn qual @aH f i8 A outer s H E) (fN st) rd):vI P w K mg base (QX P w) (k+1) f fd ps (EH K mg sp):=by
 obtain⟨oc,od,kV,doc,pm,an,i8,ct,Nt,rfl,lk,NU⟩:=F.ex;refine Y4 lk NU S ((by rintro vs H Q E ⟨ds,G,Q2,E2,r,ab,q,_⟩;exact by rw[r.length];exact len _ _ _ _ q)) ?_;rintro A outer s H vs Q E T5 ⟨ds,G,Q2,E2,r,ab,q,kk,ke⟩;refine⟨_,R7 (hb i8 A outer s H E T5) (acF ke),?_⟩;exact⟨@cD,G,ends Q2,Ik r,ab,hr ds G Q2 E2 q,λkH H' pV G' mv z=>kk _ _ _ _ z mv .fe,λv H' d G' mv rdv z=>kk _ _ _ _ z mv rdv,λ_ _ z=>z,λ_ _ z=>z⟩
noncomputable def VB:HO->Bool
 |.tup _=>true
 |.ji _ (.lst _)=>true
 |.ji _ (.dK _)=>true
 |.ji _ (.dT _)=>true
 |.ji _ (.ext _)=>true
 |.ji _ (.xd _)=>true
 |_=>false
def hr(H:Hp):Hp:=λb=>(H b).bind λo=>if VB o=true then @i else none
noncomputable def hj(H1 H':Hp):Hp:=λb=>match H1 b with
 |some o=>@i
 |none=>H' b
section
variable {P:bz} {w:World} {K:aw} {H H1 H':Hp} {h h':Heap} {b:Addr} {o:HO} {fs:@aG}
theorem XA(q:hr H b=@i):H b=@i/\VB o=true:=by
 unfold hr at q;cases e:H b with
 |none=>rw[e] at q;cases q
 |some u=>
  rw[e] at q;simp only[wa] at q;by_cases k:VB u=true
  .rw[if_pos k] at q;cases q;exact⟨rfl,k⟩
  .rw[if_neg k] at q;cases q
theorem tM(q:H b=@i)(k:VB o=true):hr H b=@i:=by unfold hr;rw[q,wa,if_pos k]
theorem yS(q:H b=none):hr H b=none:=by unfold hr;rw[q];rfl
theorem YR(q:H b=@i)(k:VB o=false):hr H b=none:=by unfold hr;rw[q,wa,if_neg (by rw[k];exact fP)]
theorem aaH(x:@bc):pZ P w (hr H) h:=λa o q=>by
 obtain⟨e,k⟩:=XA q;have y:=x a o e;cases o with
 |tup xs=>exact y
 | ji ob u=>
  cases u with
  |lst _=>exact y
  |dK _=>exact y
  |ext _=>exact y
  |xd _=>exact y
  |dT kvs=>
   obtain⟨e1,z,n,xs,r,rest⟩:=y;exact⟨e1,z,n,xs,L2.Paired.Xr r (λp q z=>⟨z.1,tM z.2.1 rfl,z.2.2⟩),rest⟩
  |_=>exact bo (show @bC from k)
 |_=>exact bo (show @bC from k)
theorem qp(q:H1 b=@i):hj H1 H' b=@i:=by unfold hj;rw[q]
theorem va(q:H1 b=none):hj H1 H' b=H' b:=by unfold hj;rw[q]
theorem join(un:Un fs [] (hr H1) H' h h')(k1:pZ P w H1 h)(k2:pZ P w H' h')(fr:∀b∈fs,H1 b=none):
  Un fs [] H1 (hj H1 H') h h'/\pZ P w (hj H1 H') h'/\Kp H' (hj H1 H')/\∀b u,(∀o,H1 b=@i->VB o=false\/∃ob v,o=.ji ob v)->H1 b≠none->h.get? b=@L->h'.get? b=@L:=by
 have nx:∀c:Addr,c∉([]:@aG):=λc=>b9;have acr:∀c u,H1 c=@L->c∉fs:=λc u q z=>by rw[fr c z] at q;cases q
 have HK:∀c u v,H1 c=@L->H' c=@W->u=v/\VB u=true:=λc u v q q'=>by
  cases k:VB u with
  |false=>
   obtain⟨ob,e⟩:=(k1 c u q).there;have:=un.free c ob e (YR q k) (nx c);rw[this] at q';cases q'
  |true=>
   have r:=tM q k;cases u with
   |tup xs=>have:=un.t8 c xs r;rw[q'] at this;ext f;exact⟨rfl,rfl⟩
   |ji ob x=>have:=un.sQ c ob x r;rw[q'] at this;ext f;exact⟨rfl,rfl⟩
   |_=>exact bo (show @bC from k)
 have same:∀b u,(∀o,H1 b=@i->VB o=false\/∃ob v,o=.ji ob v)->H1 b≠none->h.get? b=@L->h'.get? b=@L:=λb u hh hn e=>by
  cases q:H1 b with
  |none=>exact absurd q hn
  | some o=>
   cases k:VB o with
   |false=>exact un.keep b u e (YR q k) (acr b o q) (nx b)
   |true=>
    rcases hh o q with z |⟨ob,v,rfl⟩
    .rw[z] at k;cases k
    .have h1:=(k2 b _ (un.sQ b ob v (tM q k))).1;have h2:=(k1 b _ q).1;rw[h2] at e;cases e;exact h1
 refine⟨⟨λc u e n hc hx=>un.keep c u e (yS n) hc hx,λc u e n hc hx=>un.slot c u e (yS n) hc hx,λc u e n hx=>?_,λc u e hx=>un.there c u e hx,λc xs q=>qp q,λc ob u q=>qp q,λc ps q=>qp q,λc x q=>qp q⟩,λc o q=>?_,⟨λc xs q=>?_,λc ob u q=>?_⟩,same⟩
 .rw[va n];exact un.free c u e (yS n) hx
 .cases q1:H1 c with
  | some o1=>
   rw[qp q1] at q;cases q;by_cases ht:∃xs,o=.tup xs
   .obtain⟨xs,rfl⟩:=ht;exact k2 c _ (un.t8 c xs (tM q1 rfl))
   .refine(k1 c o q1).jN (λd u hd e=>?_) (λd r=>qp r) (λd xs r=>qp r);rcases hd with rfl |hd
    .refine same d u (λo' e'=>?_) (by rw[q1];simp) e;rw[q1] at e';cases e';cases o with
     |tup xs=>exact absurd ⟨xs,rfl⟩ ht
     |ji ob v=>exact .inr ⟨ob,v,rfl⟩
     |_=>exact @ac
    .refine same d u (λo' e'=>?_) (by rw[hd];simp) e;rw[hd] at e';cases e';exact @ac
  | none=>
   rw[va q1] at q;refine(k2 c o q).jN (λd u _ e=>e) (λd r=>?_) (λd xs r=>?_)
   .cases q2:H1 d with
    |none=>rw[va q2];exact r
    |some u=>obtain⟨rfl,k⟩:=HK d u _ q2 r;exact bo (show @bC from k)
   .cases q2:H1 d with
    |none=>rw[va q2];exact r
    |some u=>obtain⟨rfl,k⟩:=HK d u _ q2 r;exact qp q2
 .cases q2:H1 c with
  |none=>rw[va q2];exact q
  |some u=>obtain⟨rfl,k⟩:=HK c u _ q2 q;exact qp q2
 .cases q2:H1 c with
  |none=>rw[va q2];exact q
  |some v=>obtain⟨rfl,k⟩:=HK c v _ q2 q;exact qp q2
end
theorem cm.hr{K:aw}(h:@a5):cm K (K2.hr H) v d :=
 cm.rec (motive_1:=λv d _=>cm K (K2.hr H) v d) (motive_2:=λv d _=>bc K (K2.hr H) v d) (motive_3:=λv d _=>mU K (K2.hr H) v d) (motive_4:=λv d _=>nS K (K2.hr H) v d)
  .fe .bl .int .str (λh _ r=>.tup (tM h rfl) r) (λh _ r=>.dc (h.imp (λq=>q.elim λo q=>⟨o,tM q rfl⟩) id) r) (λh _ r=>.pj (tM h rfl) r) (λh _ r=>.ph (tM h rfl) r) .ref (λh=>.exc (by obtain⟨o,C,h1,h2,h3⟩:=h;exact⟨o,C,tM h1 rfl,h2,h3⟩)) (λh _ r=>.Et (by obtain⟨o,C,dx,od,fs,h1,h2,h3,h4,h5,h6⟩:=h;exact⟨o,C,dx,od,fs,tM h1 rfl,h2,h3,h4,tM h5 rfl,h6⟩) r) (λh z _ _ r1 r2=>.qJ (tM h rfl) z r1 r2) .nil (λ_ _ a b=>.cons a b) .nil (λ_ _ a b=>.cons a b) .nil (λ_ _ a b=>.cons a b) h
theorem bc.hr{K:aw}(h:bc K H v d):bc K (K2.hr H) v d :=
 bc.Jt (P:=λv d=>bc K (K2.hr H) v d) .nil (λr _ ih=>.cons r.hr ih) h
section
variable {M:Model} {A:cZ} {E:@I}
variable {nm q nm' q':Str} {C N D N':Addr} {bs bm Zc bm':@C} {hdct Y1:Bool} {sn sn':@v} {sub abX:@C} {ab X6:Bool} {col adI:Option Bool} {dd A7:Option Addr} {k0 k1 k2 k3 k5 k0' k1' k2' k3' k5':@b9} {newId aao:String}
theorem PD{h:Heap}{g:Array GenState}{d:Drawn}{t:Nat}{os:oW}{e:Addr}{oe:Obj}{Q:Bool->@af}
  (hC:h.get? C=some (Q7 nm q C N bs bm hdct sn sub ab col dd k0 k1 k2 k3 k5 newId)) (hD:h.get? D=some (Q7 nm' q' D N' Zc bm' Y1 sn' abX X6 adI A7 k0' k1' k2' k3' k5' aao))
  (he:h.get? e=some oe) (Ud:oe.cls=.ref C) (vb:bm'.contains (@ch)=true)
  (hq:Q ((fu C::bm).contains (.ref D)) ⟨h,g,d,t,os⟩):wpAny M A (excMatches (.ref e) (.ref D)) Q E ⟨h,g,d,t,os⟩:=by
 have hcB:(fu D::bm').contains (@ch)=true:=by rw[List.contains_cons,vb,Bool.or_true]
 have f:=tc_notTuple;generalize hb:(fu C::bm).contains (.ref D)=r at hq;unfold excMatches
 repeat (first |(with_reducible refine wpAny_loadPart_at he ?_;rw[Ud]) |with_reducible refine wpAny_loadPart_at hD ?_ |(with_reducible refine wpAny_isSubtype_exc hD ?_;rw[hcB]) |(with_reducible refine wpAny_isSubtype_exc hC ?_;rw[hb]) |wp_step)
 cases r
 .wp_walk;exact hq
 .wp_walk;exact hq
end
section
variable {X:Cx} {pins:@s} {σ:L2.St} {H1:Hp} {G1:Gp} {s1:aB} {k:Nat} {f:Addr} {fd:gc} {ps:@v} {sp:iS}
theorem YI(ab:lh X.K H1 G1):Mv X.K H1 G1 (hj H1 H') G1:=by
 have kp:Kp H1 (hj H1 H'):=⟨λa xs e=>qp e,λa o u e=>qp e⟩;have X6:lh X.K (hj H1 H') G1:=λa g e=>(ab a g e).mono kp (by
  cases q:H1 a with
  |none=>exact absurd q (ab a g e).tracked
  |some o=>exact qp q)
 exact⟨λa o e n=>⟨qp e,n⟩,λa n=>by
  cases q:G1 a with
  |none=>exact absurd q n
  |some g=>exact(X6 a g q).tracked,X6⟩
theorem RK(F:vI X.prog X.w X.K X.mg X.base (QX X.prog X.w) k f fd ps (EH X.K X.mg sp))(hr:kg k X.A)(hb:Binds X.K fd ps [])(I:@cG)(ab:lh X.K H1 G1)(r:@bX)(rd:bc X.K H1 vs ds)
  (h:sp ds (λ_=>none) Q2 E2):wpAny @l X.A (call (.ref f) us)
   (λu s'=>∃v d G' Hj,Inv X pins σ Hj s'/\Mv X.K H1 G1 Hj G1/\@a4/\cm X.K Hj v d/\Q2 d G')
   (λe s'=>∃(a C t:Addr) (B:Heap) (ex:Ex) (Hj:Hp),e=@V/\Inv X pins σ Hj s'/\Mv X.K H1 G1 Hj G1/\zu B X.stack a @X (.ref t) s'.heap /\
    (∀b o,s'.heap.get? b=@i->b∉@bU->(@cK≠none\/Hj b≠none)->B.get? b=@i)/\Hj a=none/\s1.heap.get? a=none/\X.mg ex.cls=some @X/\∃G',E2 ex G') s1:=by
 have TZ:EH X.K X.mg sp vs (K2.hr H1) (λv H'=>∃d G',cm X.K H' v d/\Q2 d G') (exK X.K X.mg E2) :=
  ⟨ds,λ_=>none,Q2,E2,rd.hr,(λ_ _ z=>by cases z),h,λd G' v H' q _ O6=>⟨d,G',O6,q⟩,λex C H' G' q X6 hm=>⟨ex,C,G',rfl,hm,X6,q⟩⟩
 have hl:us.length=ps.length:=by rw[<-r.length];exact F.len _ _ _ _ TZ
 have e0:=I.adD;have e1:Vf X.prog X.w X.K X.mg X.base X.A X.stack s1 (K2.hr H1):=⟨e0.frames,e0.mod,λb o q=>⟨(e0.bs b o q).1,yS (e0.bs b o q).2⟩,e0.UW,e0.Ag,λb z=>yS (e0.VG b z),aaH e0.cx,e0.bare⟩;have hbu:=hb s1 us I.BU (by rw[bE];exact hl);rw[bE] at hbu;refine KI (qS (F.run X.A X.stack s1 (K2.hr H1) ⟨us,[]⟩ us vs _ _ hr e1 hbu r TZ) λres s' hq=>?_);cases res with
 | error e=>
  obtain⟨a,C,t,B,H',rfl,os,bare,un,cx,hB,fl,ha,hs,ex,C',G2,ec,hm,_,hE⟩:=hq;cases ec;obtain⟨un',L7,_,_⟩:=join un I.cx cx e0.VG;have h1a:H1 a=none:=by
   cases q:H1 a with
   |none=>rfl
   |some u=>obtain⟨o,e⟩:=(I.cx a u q).there;rw[e] at hs;cases hs
  refine⟨a,C,t,B,ex,hj H1 H',rfl,I.Zb (ch:=[]) os un' L7 bare (λb z=>absurd z @f),YI ab,fl,λb o e n c=>hB b o e n ?_,by rw[va h1a];exact ha,hs,hm,G2,hE⟩;rcases c with c |c
  .exact .inl c
  .cases q:H1 b with
   |none=>rw[va q] at c;exact .inr c
   |some u=>obtain⟨o1,e1⟩:=(I.cx b u q).there;exact .inl (by rw[e1];simp)
 | ok fl=>
  cases fl with
  |ret u=>
   obtain⟨v,H',os,bare,un,cx,rv,d,G',O6,q⟩:=hq;obtain⟨un',L7,kp,_⟩:=join un I.cx cx e0.VG;exact⟨v,d,G',hj H1 H',I.Zb (ch:=[]) os un' L7 bare (λb z=>absurd z @f),YI ab,rv,O6.mono kp,q⟩
  |next=>exact bM hq
  |brk=>exact bM hq
  |cont=>exact bM hq
end
section
variable {X:Cx} {pins:@s} {σ:L2.St} {H H1:Hp} {s s1:aB} {h6 B:Heap} {a:Addr} {o:Obj} {u:HO}
theorem Om{h:Heap}(up:h.UpToSlots h')(z:h.IsCell c v):h'.IsCell c v:=by
 obtain⟨o,ho,hd⟩:=z;obtain⟨sl,e⟩:=up c o ho (λvs q=>by rw[hd] at q;cases q);exact⟨_,e,hd⟩
theorem Sj(I:@k)(Jw:X.stack=X.env::X.outer)(QV:X.env.frame=some X.env.locals)(hp:p∈X.pn++pins):p.1∉@bU:=λz=>by
 obtain⟨_,_,h3,h4,_⟩:=I.pin p hp;rw[Jw] at z;unfold wm at z;rw[OK QV] at z;rcases List.mem_cons.mp z with e |e
 .exact h3 e
 .exact h4 e
theorem FI(I:@k)(I1:@cG)(Jw:X.stack=X.env::X.outer)(QV:X.env.frame=some X.env.locals)(hex:X.ex=[])
    (hB:∀b o,@am=@i -> b∉@bU -> (@cK≠none\/H b≠none) -> B.get? b=@i) (jN:B.StaysIn h6) (up:s.heap.UpToSlots h6) (tk):Inv X pins σ H {s with heap := h6,toks := tk} := by
  have z := LA I Jw QV hex (λ_ _ e=> e) (λb o e n c=> hB b o e n (c.imp (λc=> by
    cases q:@cB with
    |none=> exact absurd q c
    |some o0=> obtain⟨o1,e1⟩ := I1.base.there b o0 q (by rw[hex];exact b9);rw[e1];simp) id)) jN up
  exact { ok := I.ok,os := I.os,bare := I.bare
          base := by rw[hex];exact z.1
          loc := by
            obtain⟨m,hn,hl⟩ := I.loc;exact⟨m,up.ns hn,λi x v e1 e2 e3=> let ⟨u,r,q⟩ := hl i x v e1 e2 e3;⟨u,r,q.imp id λ⟨k,c,e,y⟩=> ⟨k,c,e,Om up y⟩⟩⟩
          cell := λx c e=> let ⟨v,y⟩ := I.cell x c e;⟨v,Om up y⟩
          free := I.free,jX := I.jX
          pin := λp hp=> by
            obtain⟨h1,h2⟩ := I.pin p hp;exact⟨jN _ _ (hB p.1 p.2 h1 (Sj I Jw QV hp) (.inl (by rw[(I1.pin p hp).1];simp))),h2⟩
          cx := z.2.1
          len := I.len}
theorem QA(I:@k)(ha:H a=none)(hn:X.jM.heap.get? a=none)(nl:a≠X.env.locals)(nc:∀x c,@bO -> c≠a)(np:∀p∈X.pn ++ pins,p.1≠a)(new:fY X.prog X.w (upd H a u) s.heap a u):
    Inv X pins σ (upd H a u) s := by
  have ne:∀b v,H b=@W -> b≠a := λb v q e=> by rw[e,ha] at q;cases q
  exact { ok := I.ok,os := I.os,bare := I.bare
          base := ⟨I.base.keep,I.base.slot,λb o q n hx=> by
            have:b≠a := λe=> by rw[e,hn] at q;cases q
            rw[bH this];exact I.base.free b o q n hx,I.base.there,λb xs q=> by have r := I.base.t8 b xs q;rw[bH (ne _ _ r)];exact r,λb o v q=> by have r := I.base.sQ b o v q;rw[bH (ne _ _ r)];exact r,
            λb ps q=> by have r := I.base.wd b ps q;rw[bH (ne _ _ r)];exact r,
            λb x q=> by have r := I.base.we b x q;rw[bH (ne _ _ r)];exact r⟩
          loc := I.loc,cell := I.cell
          free := by rw[bH (cO nl)];exact I.free
          jX := λx c e=> by rw[bH (nc x c e)];exact I.jX x c e
          pin := λp hp=> by obtain⟨h1,h2,h3⟩ := I.pin p hp;exact⟨h1,by rw[bH (np p hp)];exact h2,h3⟩
          cx := λb v q=> by
            by_cases e:b=a
            . subst e;rw[bV] at q;cases q;exact new
            . rw[bH e] at q
              exact(I.cx b v q).jN (λ_ _ _ y=> y) (λc r=> by rw[bH (ne _ _ r)];exact r) (λc xs r=> by rw[bH (ne _ _ r)];exact r)
          len := I.len}
noncomputable abbrev marked(X:Cx)(v:Value):Cx:={X with A:=X.A.mark (@W),calm:=false,xe:=@z}
theorem Ye(ok:X.Ok):(marked X v).Ok :=
 ⟨ok.mod,ok.kind,ok.glob,ok.blt,ok.above,ok.inj,ok.has,ok.cab,λz=>(by cases z),ok.frames,ok.stk,ok.exf,ok.bs,ok.UW,ok.LF,ok.Qh,ok.Ag,ok.VG⟩
theorem Kl(I:@k):Inv (marked X v) pins σ H s:=⟨Ye I.ok,I.os,I.bare,I.base,I.loc,I.cell,I.free,I.jX,I.pin,I.cx,I.len⟩
theorem MJ(ok:X.Ok)(I:Inv (marked X v) pins σ H s):@k:=⟨ok,I.os,I.bare,I.base,I.loc,I.cell,I.free,I.jX,I.pin,I.cx,I.len⟩
theorem Zq{M:Model}{A:cZ}{E:Value -> aB -> Prop}{i:Nat}{n:Str}{pos:Pos}{Q:Unit -> aB -> Prop}(I:@k)(hN:X.N.Nodup)(hi:X.N[i]?=some n)(hk:X.env.scope.names.lookup n=@a1)
    (h:∀s',Inv X pins (σ.set i none) H s' -> Q () s'):wpAny M A (do bindName X.env n .none;unbindBehindTheSuite X.env n pos) Q E s := by
  obtain⟨m,hn,hl⟩ := id I.loc;have Ud:(X.env.scope.kind == .class || (X.env.scope.kind == .module && X.env.locals != X.env.globals))=false := by rw[I.ok.kind];rfl
  obtain⟨oL,_,_,hoL,_⟩ := id hn;refine wpAny_nameGoes_keeps hk hn Ud λh' v YV hs=> h _ ?_;have low:∀b o,@cB=@i -> @bY := λb o e=> bu (bC (aQ e) I.ok.above)
  exact { ok := I.ok,os := I.os,bare := I.bare
          base := ⟨λb o e n hb hx=> (hs.2 b (low b o e)).trans (I.base.keep b o e n hb hx),λb o e n hb hx=> by
              obtain⟨sl,e1⟩ := I.base.slot b o e n hb hx;exact⟨sl,(hs.2 b (low b o e)).trans e1⟩,I.base.free,λb o e hx=> by
              obtain⟨o',e1⟩ := I.base.there b o e hx;exact⟨o',(hs.2 b (low b o e)).trans e1⟩,I.base.t8,I.base.sQ,I.base.wd,I.base.we⟩
          loc := ⟨_,YV,fun j y v' e1 e2 e3=> by
            by_cases hj:j=i
            . subst hj
              by_cases yT:j<σ.length
              . rw[dj yT] at e2;cases e2
              . rw[kO (by rw[da];lia)] at e2;cases e2
            . rw[du (cO hj)] at e2
              obtain⟨u',r',q⟩ := hl j y v' e1 e2 e3;refine⟨u',r',?_⟩;rcases q with ⟨k,e⟩ |⟨k,c,e,z⟩
              . refine .inl ⟨k,?_⟩
                have:y≠n := λe=> hj (CU hN e1 (e ▸ hi));simp[this,e]
              . exact .inr ⟨k,c,e,z.sameBut hs (I.X0 y c e)⟩⟩
          cell := λy c e=> by
            obtain⟨w',z⟩ := I.cell y c e;exact⟨w',z.sameBut hs (I.X0 y c e)⟩
          free := I.free,jX := I.jX
          pin := λp hp=> by
            obtain⟨h1,h2,h3,h4⟩ := I.pin p hp;exact⟨(hs.2 p.1 h3).trans h1,h2,h3,h4⟩
          cx := λb ob e=> by
            refine(I.cx b ob e).jN (λc w' hc q=> (hs.2 c ?_).trans q) (λ_ q=> q) λ_ _ q=> q;ext c;rcases hc with rfl |hc
            . rw[I.free] at e;cases e
            . rw[I.free] at hc;cases hc
          len := by rw[da];exact I.len}
end
theorem QF{K:aw}(a:QG K H σ τ)(i):QG K H (σ.set i none) (τ.set i none):=by
 refine⟨by rw[da,da];exact a.len,λj e h=>?_⟩;by_cases hj:i=j
 .subst hj;by_cases hi:i<τ.length
  .rw[dj hi] at h;cases h
  .rw[kO (by rw[da];lia)] at h;cases h
 .rw[du hj] at h;obtain⟨w,h1,h2⟩:=a.at' j e h;exact⟨w,by rw[du hj];exact h1,h2⟩
noncomputable def subIn(K:aw)(C:Addr)(v:Value):Bool:=match K.lookup C with
 |some ⟨_,_,.cls cd,_⟩=>cd.mro.contains v
 |_=>false
theorem V9{K:aw}
  (Y:K.In h) (hC:h.get? C=some (Q7 nm q C N bs bm hdct sn sub ab col dd k0 k1 k2 k3 k5 newId)) (e:subIn K C v=true):(fu C::bm).contains v=true:=by
 unfold subIn at e;split at e
 .rename_i ho;have:=Y _ _ ho;rw[hC] at this;ext f;exact e
 .cases e
section
variable {X:Cx} {x cn n:Str} {D f:Addr} {fd:gc} {ps:@v} {k i:Nat} {sp:iS} {bmD:@C} {newD:String} {cat:@v} {e:Expr} {es:@az} {p np pos ep Eo tp:Pos} {Vx:Stmt} {AI:List Stmt} {t:Az} {th:gq}
structure Vj(X:Cx):Prop where
 st:X.stack=X.env::X.outer
 fr:X.env.frame=some X.env.locals
 ex:X.ex=[]
structure Clause(X:Cx)(i:Nat)(n cn:Str)(D:Addr)(cat:@v):Prop where
 nd:X.N.Nodup
 HK:X.N[i]?=some n
 loc:X.env.scope.names.lookup n=@a1
 gl:Gl X cn
 mg:X.mg cn=some (.ref D)
 cls:∃bmD newD,pQ X.K D bmD newD=true/\bmD.contains (@ch)=true
 cat:∀c,cat.contains c=true->∃C Fy newId,rP X.K bR c=some (some @X)/\pQ X.K C Fy newId=true/\subIn X.K C (.ref D)=true
theorem J0{Dn:nR}{ex:Ex}(A0:Vj X)(L:Clause X i n cn D cat)(hth:∀v,pJ (marked X v) (Vx::AI) th)(J1:@cG)(st1:QG X.K H1 σ τ)(ab1:lh X.K H1 G1)(m1:@cj)
  (I':Inv X pins σ Hj s') (mv:Mv X.K H1 G1 Hj G1) (fl:zu B X.stack a @X (.ref t0) s'.heap) (hB:∀b o,s'.heap.get? b=@i->b∉@bU->(@cK≠none\/Hj b≠none)->B.get? b=@i)
  (ha':Hj a=none) (Ea:s1.heap.get? a=none) (XC:X.mg ex.cls=some @X) (QW:cat.contains ex.cls=true)
  (q':th @q ⟨λpV G'=>Dn.nx (pV.set i none) G',@z,@z,@z⟩ (τ.set i (some (.exc ex.cls))) G1) (hdD:(cn == ("__debug__":Str))=false):
  wpAny @l X.A (noteFrame @u X.env) (λ_ jL=>wpAny @l X.A (setFlight @u none) (λ_ F1=>wpAny @l X.A (handleBy @u X.env [.ExceptHandler (some (.Name cn np)) (some n) (Vx::AI) Eo]) (X7 X pins H G Dn) X.xe F1) X.xe jL) X.xe s':=by
 obtain⟨Jw,QV,hex⟩:=A0;obtain⟨hN,hi,hl,hgD,hmD,⟨bmD,newD,qD,bD⟩,agn⟩:=L;obtain⟨C',Fy,newId,P5,qC,TY⟩:=agn ex.cls QW;have eC:C'=C:=by
  have:=PySem.W.mg_of J1.ok.mod.Xx J1.ok.mod.glob P5;rw[XC] at this;ext f;rfl
 subst eC;rw[Jw] at fl;refine wpAny_looks_onW (L:=X.env.locals) (by rw[<-Jw];exact J1.ok.frames) QV fl λh4 held up4=>?_;refine wpAny_landsW held λh5 fl5 up5=>?_;have I5:Inv X pins σ Hj {s' with heap:=h5}:=FI I' J1 Jw QV hex hB fl5.1 (up4.trans up5) _;refine wpAny_handleBy_cons (codeAny_handlers_test ?_) (by intro z;cases z);refine oB (X:=marked X @u) (Kl I5) hgD hmD ?_ hdD;obtain⟨bm,N,nm,qn,bs,hdct,sn,sub,ab,col,dd,k0,k1,k2,k3,k5,mN,hC,_,_,T⟩:=GK I5.BU qC;obtain⟨bm',N',nm',qn',Zc,Y1,sn',abX,X6,adI,A7,k0',k1',k2',k3',k5',mN',hD,_,_,T'⟩:=GK I5.BU qD;obtain⟨oe,he5,hce⟩:=fl5.there;refine PD hC hD he5 hce (T'.hasType bD) ?_;rw[V9 I5.BU hC TY];refine codeAny_handlers_suite_as ?_;refine lands_againW fl5 λh6 fl6 up6=>?_;have I6:Inv X pins σ Hj {s' with heap:=h6}:=FI I' J1 Jw QV hex hB fl6.1 ((up4.trans up5).trans up6) _;obtain⟨oe6,he6,hc6⟩:=fl6.there;have nl:a≠X.env.locals:=λz=>by
  obtain⟨m,⟨oL,_,_,hoL,_⟩,_⟩:=J1.loc;rw[z,hoL] at Ea;cases Ea
 have nc:∀y c,X.env.cells.lookup y=some c->c≠a:=λy c ec z=>by
  obtain⟨v,o,ho,_⟩:=J1.cell y c ec;rw[z,Ea] at ho;cases ho
 have npn:∀q∈X.pn++pins,q.1≠a:=λq hq z=>by
  have:=(J1.pin q hq).1;rw[z,Ea] at this;ext f
 have hn:X.jM.heap.get? a=none:=by
  cases q0:X.jM.heap.get? a with
  |none=>rfl
  |some o=>obtain⟨o1,e1⟩:=J1.base.there a o q0 (by rw[hex];exact b9);rw[e1] at Ea;cases Ea
 have I7:=QA (u:=.ji oe6 (.ext λh=>@aJ=some oe6)) I6 ha' hn nl nc npn ⟨he6,he6,⟨_,he6⟩,λh1 h2 q k=>k _ q⟩;have mvT:Mv X.K Hj G1 (upd Hj a (.ji oe6 (.ext λh=>@aJ=some oe6))) G1:=.Kz mv.ab ha';have kp7:Kp H1 (upd Hj a (.ji oe6 (.ext λh=>@aJ=some oe6))):=(mv.trans mvT).kp ab1;refine zM (v:=@V) I7 hN hi (.inl hl) rfl (λs8 I8 _=>?_) (.inr hl);refine lW (hth @u @q pins s8 _ _ (τ.set i (some (.exc ex.cls))) G1 _ (Lk.none λ_ _ z=>z)
  ⟨Kl I8,(st1.mono kp7).set i (.exc ⟨oe6,C',bV,hc6,P5⟩),mvT.ab⟩ q') (λfw s9 q9=>?_) (λ_ _ z=>z.elim)
 cases fw with
 |next=>
  obtain⟨σ9,H9,τ9,G9,I9,m9,q9⟩:=q9;exact Zq (MJ J1.ok I9.inv) hN hi hl λs10 I10=>⟨σ9.set i none,H9,τ9.set i none,G9,⟨I10,QF I9.st i,I9.ab⟩,m1.trans (mv.trans (mvT.trans m9)),q9⟩
 |brk=>obtain⟨_,_,_,_,_,_,z⟩:=q9;exact z.elim
 |cont=>obtain⟨_,_,_,_,_,_,z⟩:=q9;exact z.elim
 |ret u=>obtain⟨_,_,_,_,_,_,_,_,_,z⟩:=q9;exact z.elim
theorem Wv(A0:Vj X)(L:Clause X i n cn D cat)
  (F:vI X.prog X.w X.K X.mg X.base (QX X.prog X.w) k f fd ps (EH X.K X.mg sp)) (hr:kg k X.A) (hg:Gl X x) (hm:X.mg x=some (.ref f)) (hk:nM X.K (.ref f)=true) (hb:Binds X.K fd ps [])
  (ha:∀EX,wO (X.wY EX) (e::es) t) (hth:∀v,pJ (marked X v) (Vx::AI) th)
  (rJ:@bh) (hdD:autoParam ((cn == ("__debug__":Str))=false) Ad._auto_1) (he:@cJ) (rV:@cZ)
  (hs:autoParam (ui @cm none ep.line X.env=pure false) Ar._auto_1):
  xA X (.Try [.Expr @cm ep] [.ExceptHandler (some (.Name cn np)) (some n) (Vx::AI) Eo] [] [] tp) (Fu sp t i cat th):=by
 intro E pins s σ H τ G Dn hE I h;refine wpAny_Try_except ?_;refine OE (wpAny_Expr_any ?_ I.inv.quiet hs);generalize hEX:(λ(e:Value) (fL:aB)=>wpAny @l X.A (noteFrame e X.env) (λ_ jL=>wpAny @l X.A (setFlight e none) (λ_ F1=>wpAny @l X.A (handleBy e X.env [.ExceptHandler (some (.Name cn np)) (some n) (Vx::AI) Eo]) (X7 X pins H G Dn) X.xe F1) X.xe jL) X.xe fL)=EX;refine fm (oB I.inv hg hm ?_ rJ);have I0:I2 (X.wY EX) pins σ H τ G s:=⟨I.inv.wY EX,I.st,I.ab⟩;refine rQ (h₀:=X.base) I.inv.ok.mod.Xx hk (zJ (X:=X.wY EX) (ha EX) pos (Lk.none λ_ _ z=>z) I0 h λvs H1 ds G1 us s1 I1 m1 r rd q=>⟨I1.inv.BU,?_⟩) he rV;have J1:@cG:=I1.inv.se;refine lW (RK F hr hb J1 I1.ab r rd q) ?_ ?_
 .rintro u s' ⟨v,d,G',Hj,I',mv,rv,O6,q'⟩;exact oS (oS ⟨σ,Hj,τ,G1,⟨I',I1.st.mono (mv.kp I1.ab),mv.ab⟩,m1.trans mv,q'⟩)
 .rintro ev s' ⟨a,C,t0,B,ex,Hj,ea,I',mv,fl,hB,ha',Ea,XC,_,QW,q'⟩;subst ea;subst hEX;exact J0 A0 L hth J1 I1.st I1.ab m1 I' mv fl hB ha' Ea XC QW q' hdD
theorem Pw(F:vI X.prog X.w X.K X.mg X.base (QX X.prog X.w) k f fd ps (EH X.K X.mg sp))(hr:kg k X.A)(hg:Gl X x)(hm:X.mg x=some (.ref f))(hk:nM X.K (.ref f)=true)(hb:Binds X.K fd ps [])
  (ha:wO X (e::es) t) (rJ:@bh) (he:@cJ) (rV:@cZ):
  eU X @cm (qM sp t):=by
 ext i;refine fm (oB I.inv hg hm ?_ rJ);refine rQ (h₀:=X.base) I.inv.ok.mod.Xx hk (zJ ha pos hE I h λvs H1 ds G1 us s1 I1 m1 r rd q=>⟨I1.inv.BU,?_⟩) he rV;refine iM (Lm (E:=exK X.K X.mg E) F hr hb .nil (λpins σ H s e s' I hq=>hE.pass pins σ H s s' e I hq) I1.inv r (Q:=Ec X.K H1 G1 Q) ?_) λ_ _ z=>(ug.of z).trans m1;rw[bE];exact⟨ds,G1,Q,E,rd,I1.ab,q,λd G' v H' q' m' O6=>⟨d,G',m',O6,q'⟩,λex C H' G' q' X6 XC=>⟨ex,C,G',rfl,XC,X6,q'⟩⟩
end
end K2
end
section
namespace K2
open PySem PySem.Spec PyProof.Rows L2 PySem.W PySem.Calls PySem.Builtin PySem.Builtin.Getset_descriptor
section
variable {prog:bz} {w:World} {A:cZ} {E:@I} {s:aB} {K:aw} {a C:Addr} {ox:Obj}
theorem XQ {Q:@b9->@af} {B:String} {Fy:@C} (FB:ExcAttrBase B Fy) (X:K.In s.heap) (hx:s.heap.get? a=some ox) (hc:ox.cls=.ref C) (hga:Q6 K @X "__getattribute__"=some (some (.builtin "BaseException.__getattribute__"))) (hgn:Q6 K @X "__getattr__"=some none)
  (hA:Q6 K @X "__class__"=some (some @b_)) (hG:specialIn K @b_ "__get__"=some (some (@c1))) (hT:takesIn K @b_=some true) (hm:mroIn K C (.type "object")=some true) (hmB:mroIn K C (@ch)=some true)
  (h:Q (some @X) {s with toks:=s.toks+1}):wpAny @P A (getAttr? @u "__class__") Q E s:=by
 obtain⟨hh,g,d,t,os⟩:=s;have L0:Looks @P hh (typeOf @u) @X:=hc ▸ (Looks.ld hx).andThen .now;have L1:=looks_findIn (M:=model prog w) X hga;have L2:=looks_findIn (M:=model prog w) X hgn;have L5:=looks_mroIn (M:=model prog w) X hm;have L3:Looks @P hh (Builtin.ObjectAttr.find @u @X "__class__") (.bind (@c1) @b_):=by
  refine(looks_findIn X hA).andThen ((looks_specialIn X hG:Looks @P hh (Builtin.ObjectAttr.getOf (some @b_)) _).andThen ?_);refine((looks_takesIn X hT).andThen .now:Looks @P hh (Builtin.ObjectAttr.dataDescriptor? (some @b_) (some (@c1))) (some (@c1,.builtin "object.__class__"))).andThen ?_;exact Looks.tag .now
 have L4:=looks_mroIn (M:=model prog w) X hmB;have hx2:(OF "BaseException.__getattribute__" == OF "object.__getattribute__")=false:=@bB
 unfold getAttr? getAttrBy? getAttrBy;refine ah (wpAny_mkText (ah (tW (cW (ah (L0.at (ah (L1.at ?_))))))));dsimp only;rw[if_neg (by rw[hx2];simp)];unfold getAttrByItsOwn hookBefore callGetattribute;have f3:=FB.ga.bind @u;have fin:Cb @P A (.call (.builtin "BaseException.__getattribute__") ⟨[@V,.str "__class__" t],[]⟩) (λr s'=>r=.ok (.ret @X)/\s'=⟨hh,g,d,t+1,os⟩) ⟨hh,g,d,t+1,os⟩:=by
  refine tm FB.ga.plain F.entry_bexc_ga ?_;have hk:builtinKind "BaseException.__getattribute__"=some .slot:=@bB
  have aaE:splitId "BaseException.__getattribute__"=some ("BaseException","__getattribute__"):=@bB
  have ha:=F.args_bexc_ga @u (.str "__class__" t);have LI:Looks @P hh (KO @u (@ch)) true:=L0.andThen L4;simp only[checkBuiltinCall,hk,aaE];refine ah (LI.at ?_);simp only[aW,aj,if_false];have body:wpAny @P A.in1 (Builtin.«object.__getattribute__» ⟨[@V,.str "__class__" t],[]⟩)
    (λfin s'=>fin=.done (.ret @X)/\s'=⟨hh,g,d,t+1,os⟩) @q ⟨hh,g,d,t+1,os⟩:=by
   unfold Builtin.«object.__getattribute__»;refine ah (aE ?_);refine ah (aE ?_);refine ah (L0.at (ah (L3.at ?_)));show wpAny _ _ (Builtin.ObjectAttr.bindTo (@c1) @b_ @u @X) _ _ _;show wpAny _ _ (do let v ← uq [.builtin "object.__class__"] (call (.builtin "getset_descriptor.__get__") [.builtin "object.__class__",.ref a,.ref C]);ret v) _ _ _;refine ah (cW (KI ?_));refine tm KF.slot_gs.plain KF.entry_gs (KF.slot_gs.check _ _ _ _ _ _ _ _ KF.type_class (KF.args_gs _ _ _) ?_);unfold Builtin.«getset_descriptor.__get__» descrGet;rw[dga_obj];refine ah (aE ?_);unfold descrGetter descrCheckInstance descrNameAndClass KO;simp only[KF.owner_class]
   repeat lk
   refine⟨Code.quiet_builtin _ (@bB),lF KF.entry_class ?_⟩;unfold Builtin.«object.__class__» shownTypeOf
   repeat lk
   exact⟨rfl,rfl⟩
  have go:∀z:Sem Unit,z=pure ()->∀(P:Unit->@af) (E':@I) s',P () s'->wpAny @P A.in1 z P E' s':=λz e P E' s' hp=>by rw[e];exact aE hp
  refine go _ ha _ _ _ (lW body ?_ (λ_ _ z=>z.elim));rintro fin s' ⟨e1,e2⟩;subst e1;exact⟨rfl,e2⟩
 refine ah (L2.at (ah (tW (cW ?_))));simp only[Bo,aj,if_false];unfold boundAndCalled;rw[f3];refine ah (aE (KI (qS fin ?_)));rintro r s' ⟨e1,e2⟩;subst e1;subst e2;exact aE (aE h)
structure OB(K:aw)(C:Addr):Prop where
 ga:Q6 K @X "__getattribute__"=some (some (.builtin "BaseException.__getattribute__"))
 gn:Q6 K @X "__getattr__"=some none
 HK:Q6 K @X "__class__"=some (some @b_)
 sp:specialIn K @b_ "__get__"=some (some (@c1))
 tk:takesIn K @b_=some true
 mo:mroIn K C (.type "object")=some true
 mb:mroIn K C (@ch)=some true
 is:(clsIn K C).isSome=true
theorem Jl(FB:ExcAttrBase B Fy)(Z:OB K C):KitX K @u @X (λh=>∃o,@aJ=@i/\o.cls=.ref C) where
 ty:=by rintro M h _ ⟨o,hx,hc⟩;exact hc ▸ (Looks.ld hx).andThen .now
 it:=λM h X _=>by
  have hcD:=Z.is;unfold clsIn at hcD;split at hcD
  .rename_i ho;intro A' Q' E' s' k q;unfold isType loadHead;exact ah (wpAny_loadPart (k _ _ (X _ _ ho)) (aE q))
  .cases hcD
 ne:=λh tp dd bQ n sl X htp=>by
  have hcD:=Z.is;refine Bool.eq_false_iff.mpr λq=>?_;have e:C=tp:=Value.ref.inj (beq_iff_eq.mp q);subst e;unfold clsIn at hcD;split at hcD
  .rename_i ho;have z:=(X _ _ ho).symm.trans htp;cases z
  .cases hcD
 ca:=λX ⟨o,hx,hc⟩ k=>XQ FB X hx hc Z.ga Z.gn Z.HK Z.sp Z.tk Z.mo Z.mb k
end
end K2
end
section
namespace K2
open PySem PySem.Spec PyProof.Rows L2
theorem UN{l:@v}{P:Str->Prop}{x:Str}(h:P x)(t:∀c,l.contains c=true->P c):∀c,(x::l).contains c=true->P c:=λc hc=>by
 rw[List.contains_cons,gO] at hc;rcases hc with hc |hc
 .rw[beq_iff_eq.mp hc];exact h
 .exact t c hc
section
variable {X:Cx} {a:Expr} {ta:gC} {p pos:Pos} {B:String} {Fy:@C} {all sub:@v}
theorem Sv    (FB:ExcAttrBase B Fy) (hg:Gl X "isinstance") (hm:X.mg "isinstance"=none) (hgC:Gl X y) (hmC:X.mg y=some @X) (af6:zt X.K (.type "NoneType") @X=some false)
  (adb:∀c,all.contains c=true->∃C',rP X.K bR c=some (some (.ref C'))/\zt X.K (.ref C') @X=some (sub.contains c)/\OB X.K C') (ha:@ba) (rJ:autoParam ((y == ("__debug__":Str))=false) Ad._auto_1)
  (he:autoParam (a8 [a,@aM] X.env=@cw::a8 [@aM] X.env) Ar._auto_1) (rV:autoParam ((jb pos (a8 [Expr.Name y py] X.env)).any @n=false) Ar._auto_1) (Qa:autoParam (a8 [@aM] X.env=[(false,eval (@aM) X.env)]) Ar._auto_1):
  eU X (.Call (.Name "isinstance" p) [a,@aM] [] pos) (A9 all sub ta):=by
 ext i;refine fm (qK I.inv hg hm Bm ?_);refine mC ?_ he rV;rw[he];show wpAny _ _ (KL (@cw::jb pos (a8 [@aM] X.env))) _ _ s;refine kl (jH ha hE I h λv H1 d G1 u s1 I1 m1 r1 j4 q1=>?_);rw[Qa];show wpAny _ _ (KL [(false,eval (@aM) X.env)]) _ _ s1;refine kl (oB I1.inv hgC hmC (uD ?_) rJ);have fin:∀b tk,Q (.bl b) G1->ug X pins σ H G Q (.bool b) {s1 with toks:=tk}:=λb tk q=>
  ⟨.bl b,H1,.bl b,G1,I1.inv.tok _,m1,rfl,.bl b,q⟩
 cases j4 with
 |fe=>
  cases r1;exact gE VM I1.inv.BU gv af6 @bs λtk=>fin false tk q1
 |exc h0=>
  cases r1;obtain⟨o,C',e1,e2,e3⟩:=h0;obtain⟨yV,q2⟩:=q1;obtain⟨C2,e4,k1,k2⟩:=adb _ yV;rw[e3] at e4;cases e4;exact gE (Jl FB k2) I1.inv.BU ⟨o,(I1.inv.cx _ _ e1).1,e2⟩ k1 @bs λtk=>fin _ tk q2
 |Et h0 _=>
  cases r1;obtain⟨o,C',_,_,_,e1,e2,e3,_⟩:=h0;obtain⟨yV,q2⟩:=q1;obtain⟨C2,e4,k1,k2⟩:=adb _ yV;rw[e3] at e4;cases e4;exact gE (Jl FB k2) I1.inv.BU ⟨o,(I1.inv.cx _ _ e1).1,e2⟩ k1 @bs λtk=>fin _ tk q2
 |_=>ext e
end
section
variable {X:Cx} {e:Expr} {te:gC} {pos:Pos}
theorem scm(h1:autoParam (sc.kind=.function) Ar._auto_1)(h2:autoParam (sc.isCoroutine=false) Ar._auto_1)(h3:autoParam (sc.isGenerator=false) Ar._auto_1)(h4:autoParam N.Nodup Ak._auto_1)(h5:autoParam (N.take ps.length=ps) Ar._auto_1)
  (h6:autoParam (∀x∈ps,@cb=@a1\/@cb=@aY) Ak._auto_1) (h7:autoParam (∀y∈sc.names,y.2≠.free) Ak._auto_1):kZ N ps sc:=⟨h1,h2,h3,h4,h5,h6,h7⟩
end
section
variable {X:Cx} {a b c:Expr} {ta tb tc:gC} {pos:Pos}
theorem WZ     (hg:Gl X x) (hm:X.mg x=some (.int i t)) (hd:@bh):eU X (.Name x p) (dC (@w)):=vO (WM (v:=@w) hg hm ⟨t,rfl⟩ hd) λ_ _=>@w
end
end K2
end
section
namespace L2
open PySem PySem.Spec PyProof.Rows
def ag4(K:aw)(a:Addr)(n:Nat):It :=
  ⟨λi H=>∃xs x,pO K H a xs/\xs[i]?=@aa,
   λi H v H'=>∃T y,v=.ref T/\H T=none/\H'=upd H T (.tup [.int ((n+i:Nat):Int),y])/\∀xs,pO K H a xs->xs[i]?=some y,
   λi H=>∃xs,pO K H a xs/\xs.length<=i⟩
theorem UG(n)(hh:A.handled=none)(hil:l≠it):
  Draws prog w A it [it,l] (n+items.size) (λj x=>∃i,j=n+i/\items[i]?=@aa) (λj h=>∃i,j=n+i/\h.IsListIter it l i/\h.IsList l items) where
 live:=(by rintro j h ⟨i,_,⟨o,ho,_⟩,_⟩;exact⟨o,ho⟩)
 frame:=(by rintro j h h' ⟨i,e,hit,hl⟩ k;exact⟨i,e,hit.at λo q=>k it @f o q,let ⟨o,ho,r⟩:=hl;⟨o,k l @f o ho,r⟩⟩)
 item:=λj s Q E hj NT hQ=>by
  obtain⟨i,e,hit,hl⟩:=NT;have hi:i<items.size:=@d
  refine wpAny_nextOf_list_item hit hl (x:=items[i]) (by simp[hi]) λh' T9 hs=>hQ _ h' s.toks ⟨i,e,by simp[hi]⟩ ⟨i+1,@d,T9,?_⟩ hs;obtain⟨o,ho,r⟩:=hl;exact⟨o,(hs.2 l hil).trans ho,r⟩
 done:=λs Q E VD hE=>by
  obtain⟨i,e,hit,hl⟩:=VD;have hi:i=items.size:=@d
  exact wpAny_nextOf_list_end hh hit hl (by simp[hi]) hE
theorem Qi(hh:A.handled=none)(hx:items[n]?=none):
  Draws prog w A it [it,l] n (λ_ _=>True) (λj h=>j=n/\h.IsListIter it l n/\h.IsList l items) where
 live:=(by rintro j h ⟨_,⟨o,ho,_⟩,_⟩;exact⟨o,ho⟩)
 frame:=(by rintro j h h' ⟨e,hit,hl⟩ k;exact⟨e,hit.at λo q=>k it @f o q,let ⟨o,ho,r⟩:=hl;⟨o,k l @f o ho,r⟩⟩)
 item:=(by rintro j s Q E hj ⟨e,_,_⟩ hQ;exact absurd hj @c)
 done:=(by rintro s Q E ⟨_,hit,hl⟩ hE;exact wpAny_nextOf_list_end hh hit hl hx hE)
theorem Lc{K:aw}(n)(a e it)(pX:e≠it):
  Turn P w K (.Tuple elts kk pos) (ag4 K a n) [e,it] e (λi h=>(∃old,IsEnum h e it ((n+i:Nat):Int) old)/\h.IsListIter it a i) where
 mem:=@K
 obj:=λi h nP b hb=>by
  obtain⟨⟨old,he⟩,hit⟩:=nP;rcases @cO with rfl |hb
  .exact⟨_,he,λv z=>by cases z⟩
  .have e:b=it:=@bP
   subst e;obtain⟨o,e,c,d⟩:=hit;exact⟨o,e,λv z=>by rw[d] at z;cases z⟩
 keep:=(by rintro i h h' ⟨⟨old,he⟩,hit⟩ k;exact⟨⟨old,k e @f _ he⟩,hit.at λo q=>k it @f o q⟩)
 item:=by
  ext l;obtain⟨⟨old,he⟩,hit⟩:=st;ext m;obtain⟨xs,x,hq,hx⟩:=hg;obtain⟨bQ,rv,p,hz⟩:=I.list hq;obtain⟨u,hu,ru⟩:=rv.get hx;have XG:@cN:=@cf;have heT:e≠s.heap.objs.size:=bu (aQ he);have hiT:it≠s.heap.objs.size:=by obtain⟨o,q,_⟩:=hit;exact bu (aQ q)
  obtain⟨ol,hol,L9,hdl⟩:=p.isList;have agd:=hit;obtain⟨oi,hoi,hci,Y0⟩:=agd;have hil:a≠it:=λz=>by
   rw[z,hoi] at hol;cases hol;rw[hci] at L9;exact absurd L9 @t
  have hea:e∉[it,a]:=λz=>by
   rcases List.mem_cons.mp z with z |z
   .exact pX z
   .have z:=List.mem_singleton.mp z;rw[<-z,he] at hol;cases hol;exact absurd (show MP "enumerate"=MP "list" from L9) @t
  have yT:n+i<n+bQ.toArray.size:=by
   have:=(List.getElem?_eq_some_iff.mp hu).1;ext p
  refine wpAny_pyNext_enum_itemD (UG (items:=bQ.toArray) n (show X.A.in1.handled=none from @cg) hil) he ⟨i,rfl,hit,p.isList⟩ yT pX hea λu' h' tk ⟨i',ei,Jv⟩ ho ⟨i2,e2,T9,_⟩ hT hsz kk=>?_;have ei':i'=i:=@d
  have ei2:i2=i+1:=@d
  subst ei' ei2;have:u'=u:=by
   rw[List.getElem?_toArray,hu] at Jv;exact(aZ Jv).symm
  subst this;refine⟨_,rfl,?_⟩;have I1:Inv X pins σ (upd H s.heap.objs.size (.tup [.int ((n+i':Nat):Int),x])) {s with heap:=h',toks:=tk+1} :=
   I.xS (fp:=[e,it]) hf (λb o hb q=>kk b o (λz=>hb (by simp[z])) (λz=>hb (by simp[z])) q) @J
    ⟨by show 2<=ba;decide,[.int ((n+i':Nat):Int) tk,u'],.cons @A (.cons ru .nil),⟨_,hT,rfl,_,rfl⟩⟩
  refine Vk (s:={s with heap:=h',toks:=tk+1}) ho λh2 Qa Fc=>?_;have f1:∀b∈[e,it],pK X pins (upd H s.heap.objs.size (.tup [.int ((n+i':Nat):Int),x])) b:=λb hb=>(hf b hb).upd (by
   rcases @cO with rfl |hb
   .exact heT
   .rw[List.mem_singleton.mp hb];exact hiT)
  have I2:Inv X pins σ (upd H s.heap.objs.size (.tup [.int ((n+i':Nat):Int),x])) {s with heap:=h2,toks:=tk+1} :=
   Inv.qe (s:={s with heap:=h',toks:=tk+1}) (t':=tk+1) (fp:=[e,it]) I1 f1 λb o hb q=>(Fc.2 b (λz=>hb (by simp[z]))).trans q
  refine⟨@aE,_,I2,rfl,⟨_,x,rfl,XG,rfl,λys hy=>by rw[I.u5 hy hq];exact hx⟩,⟨⟨u',?_⟩,?_⟩,λb hb=>(f1 b hb).1⟩
  .have:((n+(i'+1):Nat):Int)=((n+i':Nat):Int)+1:=@d
   rw[this];exact Qa
  .exact T9.at λo q=>(Fc.2 it (cO pX)).trans q
 done:=by
  ext l;obtain⟨⟨old,he⟩,hit⟩:=st;ext m;obtain⟨xs,hq,hx⟩:=hg;obtain⟨bQ,rv,p,hz⟩:=I.list hq;have hl:=rv.length;refine wpAny_pyNext_enum_endD (Qi (items:=bQ.toArray) (n:=i) (show X.A.in1.handled=none from @cg) (by simp;lia)) he ⟨rfl,hit,p.isList⟩ λh' eb=>⟨rfl,?_⟩;exact I.qe (t':=s.toks) (fp:=[e,it]) hf λb o hb q=>eb b o (λz=>hb (by simp[z])) q
 self:=(by rintro A i s Q E ⟨⟨old,he⟩,_⟩ h;exact xJ he h)
end L2
end
section
namespace L2
open PySem PySem.Spec PyProof.Rows
open AutoSeq1 (wpAny_loadPart')
theorem Ck (a) (k) (t):checkTypeCall "enumerate" ⟨[a],[("start",.int k t)]⟩=pure ():=@br
theorem Em (a) (k) (t):checkBuiltinCall "enumerate.__new__" ⟨[@cy,a],[("start",.int k t)]⟩=pure ():=@br
theorem LX (o a) (k) (t):argsOk "object.__init__" ⟨[o,a],[("start",.int k t)]⟩:=by unfold argsOk;rw[signature?_of (id:="object.__init__") (n:=['_','_','t','i','n','i','_','_']) (o:=['t','c','e','j','b','o']) (@br) F.owner_object];kernel_rfl
theorem Js (self a) (k) (t):Meets (Builtin.«object.__init__» ⟨[self,a],[("start",.int k t)]⟩) (λ_ R s=>s.TypeIs self "enumerate"/\R (.ok (.ret .none)) s):=by
 refine Meets.of_wp λprog w A R s hs=>?_;obtain⟨hT,hq⟩:=hs;have hl:=F.called_enumerate.init.lookup;have hm:=F.called_enumerate.made;have pX:(some "enumerate.__new__" != some "object.__new__")=true:=@g
 repeat (any_goals(first |assumption |wp_step))
 exact⟨_,rfl,hq⟩
end L2
end
section
namespace K2
open PySem PySem.Spec PyProof.Rows L2
section
theorem Av
  (Dl:args.any @n=false) (hkw:keywords.any (·.1.isNone)=false)
  (h:wpAny M A (evalArgs (.type T) true args keywords) (λa fL=>wpAny M A (call (.type T) a.pos a.kw) Q E fL) E s):
  wpAny M A (callWith pos (.type T) [] args keywords) Q E s:=by
 unfold callWith;refine ah (cW (lW h (λa fL ub=>ah (tV ?_)) λ_ _ x=>x));rw[Dl,hkw];refine ah (aE ?_);exact ah (lW ub (λr jL hr=>ah (cW (wpAny_point (aE hr)))) λ_ _ x=>x)
variable {X:Cx} {elts:@az} {kk:Nat} {wZ:Pos} {a:Expr} {ta:gC} {pos p kp p1:Pos} {c1:Nat}
end
end K2
end
section
namespace L2
open PySem PySem.Spec PyProof.Rows
section
variable {prog:bz} {w:World} {A:cZ} {E:@I} {s:aB}
theorem LV{it d:Addr}{od:Obj}{es:Array gJ}{i ep:Nat}{ok ov:Value}{Q:@b9->@af}(hit:qG s.heap it d i es.size ep ok ov)(HE:s.heap.get? d=some od)(dd:od.data=.dict es ep)(hi:i<es.size)
  (hQ:∀h',IsItemIterOut h' it d (i+1) es.size ep es[i].key es[i].val s.heap.objs.size->@c6=some {cls:=@aj,data:=.seq #[es[i].key,es[i].val]}->(∀b o,b≠it->@am=@i->@bm)->Q (some (@aE)) @as):
  wpAny @P A (AD @aL) Q E s:=by
 obtain⟨hp,g,dr,tk,os⟩:=s;have ty:Shared.TypeIs ⟨hp,g,dr,tk,os⟩ @aL "dict_itemiterator":=⟨_,hit,rfl⟩;unfold AD;refine ah (tW (km (name:=zF "__next__") ty kq (dE kq ty Kr ?_ (HW _))));refine ah (aE (ah (ah ?_)))
 first |refine ah (kh ty (aE (ah (qP hit rfl ?_)))) |refine ah (mL ty (aE (ah (qP hit rfl ?_))))
 have SF:gm "dict_itemiterator"=true:=@g
 rw[SF];show wpAny _ _ (if(fu d == ic)=true then _ else _) _ _ _;rw[if_neg (λz=>by cases z)];refine ah (aE (ah (iN HE dd ?_)));rw[if_neg @f];refine ah (aE (ah (oT HE dd ?_)));rw[if_neg @f];refine aE ?_;dsimp only;rw[if_neg (show ¬ (@ay<0) from Int.not_lt.mpr (uf i)),c9,K7 hi];dsimp only;refine ah ?_
 first |refine ah (kh ty (aE (ah (qa ty ?_)))) |refine ah (mL ty (aE (ah (qa ty ?_))))
 show wpAny _ _ (setField @aL 3 (AB (@ay+1)) >>= _) _ _ ⟨hp,g,dr,tk,os⟩;refine ah (oR hit @f λh1 e1 s1=>?_);have s1:gN it hp h1:=s1;have e1:qG h1 it d (i+1) es.size ep ok ov:=by
  have e:((i+1:Nat):Int)=@ay+1:=@d
  unfold qG;rw[e];simpa[AB] using e1
 have ty1:Shared.TypeIs ⟨h1,g,dr,tk,os⟩ @aL "dict_itemiterator":=⟨_,e1,rfl⟩;refine ah (cW (ah (qa ty1 (ah (qa ty1 ?_)))));show wpAny _ _ (uE @aL 6 es[i].key es[i].val) _ _ ⟨h1,g,dr,tk,os⟩;unfold uE;refine ah (wpAny_newTuple ?_);have z1:h1.objs.size=hp.objs.size:=s1.1;have lt:it<hp.objs.size:=aQ hit;have e2:qG (h1.push {cls:=@aj,data:=.seq #[es[i].key,es[i].val]}) it d (i+1) es.size ep ok ov:=aJ _ e1;have t2:(h1.push {cls:=@aj,data:=.seq #[es[i].key,es[i].val]}).get? hp.objs.size=some {cls:=@aj,data:=.seq #[es[i].key,es[i].val]}:=by rw[<-z1];exact @aX
 have k2:∀b o,b≠it->hp.get? b=@i->(h1.push {cls:=@aj,data:=.seq #[es[i].key,es[i].val]}).get? b=@i:=λb o hb e=>aJ _ (s1.extBut b o hb e);generalize h1.push {cls:=@aj,data:=.seq #[es[i].key,es[i].val]}=h2 at e2 t2 k2;show wpAny _ _ (j3 @aL >>= _) _ _ ⟨h2,g,dr,tk,os⟩;rw[z1];refine ah (show wpAny _ _ (j3 @aL) _ _ _ from ?_);unfold j3;refine ah (uh e2 rfl (x:=.none) rfl (aE ?_));rw[if_pos rfl];refine ah (uh e2 rfl (x:=ok) rfl (ah (uh e2 rfl (x:=ov) rfl (ah (oR e2 @f λh3 e3 s3=>?_)))));have s3:gN it h2 h3:=s3;have e3:qG h3 it d (i+1) es.size ep es[i].key ov:=e3;refine ah (oR e3 @f λh4 e4 s4=>?_);have s4:gN it h3 h4:=s4;have e4:qG h4 it d (i+1) es.size ep es[i].key es[i].val:=e4;refine ah (oR e4 @f λh5 e5 s5=>?_);have s5:gN it h4 h5:=s5;have e5:IsItemIterOut h5 it d (i+1) es.size ep es[i].key es[i].val hp.objs.size:=e5;refine ah (oR e5 @f λh6 e6 s6=>?_);have s6:gN it h5 h6:=s6;have all:∀b o,b≠it->h2.get? b=@i->h6.get? b=@i:=λb o hb e=>s6.extBut b o hb (s5.extBut b o hb (s4.extBut b o hb (s3.extBut b o hb e)));exact ah (zB (aE (aE ⟨_,rfl,aE (hQ h6 e6 (all _ _ (Nat.ne_of_gt lt) t2) λb o hb e=>all b o hb (k2 b o hb e))⟩)))
end
end L2
namespace L2
open PySem PySem.Spec PyProof.Rows
section
variable {prog:bz} {w:World} {A:cZ} {E:@I} {s:aB}
theorem PV{it d:Addr}{od:Obj}{es:Array gJ}{i ep:Nat}{ok ov:Value}{Q:@b9->@af}(calm:A.handled=none)(hit:qG s.heap it d i es.size ep ok ov)(HE:s.heap.get? d=some od)(dd:od.data=.dict es ep)(hi:es.size<=i)
  (hQ:∀h',Heap.ExtBut it s.heap h'->Q none @as):wpAny @P A (AD @aL) Q E s:=by
 have ty:s.TypeIs @aL "dict_itemiterator":=⟨_,hit,rfl⟩;unfold AD;refine ah (tW (km (name:=zF "__next__") ty kq (dE kq ty Kr ?_ (HW _))));refine ah (aE (ah (ah ?_)))
 first |refine ah (kh ty (aE (ah (qP hit rfl ?_)))) |refine ah (mL ty (aE (ah (qP hit rfl ?_))))
 have SF:gm "dict_itemiterator"=true:=@g
 rw[SF];show wpAny _ _ (if(fu d == ic)=true then _ else _) _ _ s;rw[if_neg (λz=>by cases z)];refine ah (aE (ah (iN HE dd ?_)));rw[if_neg @f];refine ah (aE (ah (oT HE dd ?_)));rw[if_neg @f];refine aE ?_;dsimp only;rw[if_neg (show ¬ (@ay<0) from Int.not_lt.mpr (uf i)),c9,QQ hi];dsimp only;refine ah ?_
 first |refine ah (kh ty (aE (?_))) |refine ah (mL ty (aE (?_)))
 show wpAny _ _ (setField @aL 2 .none >>= _) _ _ s;refine ah (VL hit rfl @f (show wpAny _ _ (newExc (.type "StopIteration") [] >>= _) _ _ _ from ah ?_));simp only[newExc,newTuple];refine ah (dF (ah (m:=EC _ _) (Q0 (a:=ic) (by first |rfl |(simp only[EC];rfl)) (dF ?_ (by size_fits)))) (by size_fits));simp only[raiseNew];refine ah (wpAny_handled ?_);rw[show A.in1.handled=none from calm];refine ah (aE (wpAny_throw ?_));refine ah (rW (T:="StopIteration") (b:=true) ⟨_,@aX,rfl⟩ isSubtype_stop (?_));exact aE (hQ _ (((kQ ..).extBut.push _).push _))
end
end L2
namespace L2
open PySem PySem.Spec PyProof.Rows
section
variable {prog:bz} {w:World} {A:cZ} {E:@I} {s:aB}
theorem yE (d) (ns:(d == dU)=false):MeetsIn prog w (Builtin.«dict.items» ⟨[.ref d],[]⟩) (λ_ R s=>s.TypeIs (.ref d) "dict"/\R (.ok (.ret (@aE))) {s with heap:=s.heap.push {cls:=.type "dict_items",data:=.fields #[.ref d]}}):=by
 refine .of_wp ?_;rintro A R s ⟨ty,h⟩;unfold Builtin.«dict.items» Builtin.Dict.noArgs;refine ah (ah (B5 ty (show wpAny _ _ (pure d) _ _ s from aE ?_)));show wpAny _ _ (mE d >>= _) _ _ s;unfold mE;rw[if_neg (λz=>by rw[ns] at z;cases z)];exact ah (aE (ah (dF (aE ⟨_,rfl,h⟩))))
theorem AY{v d:Addr}{od:Obj}{es:Array gJ}{ep:Nat}{Q:@I}(hv:s.heap.IsItemsView v d)(HE:s.heap.get? d=some od)(dd:od.data=.dict es ep)
  (hQ:Q (@aE) {s with heap:=s.heap.push {cls:=.type "dict_itemiterator",data:=.fields #[.none,.bool false,.ref d,@aU,.int es.size 0,.int ep 0,.none,.none]}}):
  wpAny @P A (EB (.ref v)) Q E s:=by
 obtain⟨ov,hov,hcv,hdv⟩:=id hv;refine qz hv.typeIs F.slot_dict_items_iter (dE F.slot_dict_items_iter hv.typeIs F.entry_dict_items_iter ?_ (F.args_dict_items_iter_1 _));unfold Builtin.«dict_items.__iter__» Builtin.Dict_items.dictOf;refine ah (aE (ah (ah (uh hov hdv (x:=.ref d) rfl (aE (ah ?_))))));unfold Builtin.Dict_items.newIterator;refine ah (iN HE dd (ah (oT HE dd ?_)));have SF:gm "dict_itemiterator"=true:=@g
 rw[SF];dsimp only;rw[if_pos (show true=true from rfl)];refine dF (aE ⟨_,rfl,"dict_itemiterator",_,⟨_,@aX,rfl⟩,F.slot_dict_itemiterator_next.lookup,?_⟩) ?_
 .simpa[AB,tu] using hQ
 .simp only[sizeOk,tu,aX,aA,ag,av,c5];lia
end
def ag3(a:Addr)(o:Obj)(es:Array gJ)(ps:List (V×V)):It :=
 ⟨λi H=>(∃u,H a=@bx)/\i<es.size,λi H v H'=>∃T p,v=.ref T/\H T=none/\H'=upd H T (.tup [p.1,p.2])/\ps[i]?=some p,λi H=>(∃u,H a=@bx)/\es.size<=i⟩
theorem AH{K:aw}(a it)(o)(es)(ep)(ps)(dd:o.data=.dict es ep)(hk:∀i (h:i<es.size),∃p,ps[i]?=some p/\RelV p.1 es[i].key/\RelV p.2 es[i].val):
  Turn P w K (.Tuple elts kk pos) (ag3 a o es ps) [it] it (λi h=>∃ok ov,qG h it a i es.size ep ok ov) where
 mem:=@K
 obj:=by
  rintro i h ⟨ok,ov,st⟩ b hb;have e:b=it:=@bP
  subst e;exact⟨_,st,λv z=>by cases z⟩
 keep:=by rintro i h h' ⟨ok,ov,st⟩ k;exact⟨ok,ov,k it @f _ st⟩
 item:=by
  ext l;obtain⟨ok,ov,st⟩:=st;ext m;obtain⟨⟨u,hu⟩,hi⟩:=hg;obtain⟨p,hp,r1,r2⟩:=hk i hi;have XG:@cN:=@cf;have hiT:it≠s.heap.objs.size:=bu (aQ st);refine LV st (I.cx a _ hu).1 dd hi λh' ho hT kk=>?_;refine⟨_,rfl,?_⟩;have I1:Inv X pins σ (upd H s.heap.objs.size (.tup [p.1,p.2])) {s with heap:=h',toks:=s.toks} :=
   I.xS (fp:=[it]) hf (λb o hb q=>kk b o (λz=>hb (by simp[z])) q) @J
    ⟨by show 2<=ba;decide,[es[i].key,es[i].val],.cons r1 (.cons r2 .nil),⟨_,hT,rfl,_,rfl⟩⟩
  refine Q3 (s:=@as) ho λh2 Qa Fc=>?_;have f1:∀b∈[it],pK X pins (upd H s.heap.objs.size (.tup [p.1,p.2])) b:=λb hb=>(hf b hb).upd (by rw[List.mem_singleton.mp hb];exact hiT);have I2:Inv X pins σ (upd H s.heap.objs.size (.tup [p.1,p.2])) {s with heap:=h2,toks:=s.toks} :=
   Inv.qe (s:={s with heap:=h',toks:=s.toks}) (t':=s.toks) (fp:=[it]) I1 f1 λb o hb q=>(Fc.2 b (λz=>hb (by simp[z]))).trans q
  exact⟨@aE,_,I2,rfl,⟨_,p,rfl,XG,rfl,hp⟩,⟨_,_,Qa⟩,λb hb=>(f1 b hb).1⟩
 done:=by
  ext l;obtain⟨ok,ov,st⟩:=st;ext m;obtain⟨⟨u,hu⟩,hi⟩:=hg;obtain⟨f0,f1,f2,f3,f4,f5⟩:=hf it @f;exact PV (@cg) st (I.cx a _ hu).1 dd hi λh' eb=>⟨rfl,I.turned (t':=s.toks) (λb o hb e=>eb b o hb e) f0 f1 f3 f4 f5⟩
 self:=by
  rintro A i s Q E ⟨ok,ov,st⟩ h;have ty:s.TypeIs @aL "dict_itemiterator":=⟨_,st,rfl⟩;refine qz ty kr (dE kr ty nQ ?_ (HX _));show wpAny _ _ (ret @aL) _ _ s;exact aE ⟨_,rfl,"dict_itemiterator",_,ty,F.slot_dict_itemiterator_next.lookup,h⟩
end L2
end
section
namespace K2
open PySem PySem.Spec PyProof.Rows L2
section
variable {X:Cx} {elts:@az} {kk:Nat} {wZ apos jY:Pos} {o:Expr} {to:gC}
theorem nS.item{K:aw}(h:@b7):∀{i:Nat} {q:D×D},kvs[i]?=some q->∃p,kv[i]?=some p/\q.1=.tup (p.1.map fi)/\cm K H p.2 q.2:=by
 induction h using nS.ind with
 |nil=>intro i q e;simp at e
 | @cons k v d r t rd rs ih=>
  intro i q e;cases i with
  |zero=>simp at e;subst e;exact⟨_,rfl,rfl,rd⟩
  |succ i=>
   obtain⟨p,h1,h2⟩:=ih (i:=i) (q:=q) (@bV);exact⟨p,@cx,h2⟩
theorem nS.len{K:aw}(h:@b7):kv.length=kvs.length:=by
 have:=congrArg dh h.keys;simpa using this.symm
theorem Lw (ho:eU X o to) (vb:autoParam (zD o "items" X.env (eval o X.env)=eval o X.env) Ar._auto_1) (yU:autoParam ((apos.endLine == jY.line)=true) Ar._auto_1):
  Be X (.Tuple elts kk wZ) (.Call (.Attribute o "items" apos) [] [] jY) (yN to):=by
 intro E pins s σ H τ G R hE I h;refine zC vb yU (jH ho hE I h @cE);cases d with
 | kU kvs=>
  obtain⟨h1,q1⟩:=q1;obtain⟨t1,t2⟩:=xR pins s1 σ H1 G1 x _ v I1.inv I1.ab r1 j4 trivial;have main:∃(a:Addr) (ob:Obj) (u:HO) (es:Array gJ) (ep:Nat) (ps:List (V×V)),x=@V/\@bQ/\H1 a=some (.ji ob u)/\ob.data=.dict es ep/\(∀i (h:i<es.size),∃p,ps[i]?=some p/\RelV p.1 es[i].key/\RelV p.2 es[i].val)/\kvs.length=es.size /\
    (∀(i:Nat) (q:D×D),kvs[i]?=some q->∃p,ps[i]?=some p/\cm X.K H1 p.1 q.1/\cm X.K H1 p.2 q.2):=by
   cases j4 with
   | pj hq rs=>
    rename_i a o kv;cases rs with
    |nil=>
     obtain⟨z,ns,vs,rel,ob,es,ep,ho,ex,dd,hko,hp,nd⟩:=(I1.inv.cx a _ hq).2;have eo:ob=o:=by have:=(I1.inv.cx a _ hq).1;rw[ho] at this;exact aZ this
     subst eo;have l1:es.size=vs.length:=by simpa using hp.length
     have l2:([]:@aO).length=vs.length:=jA rel;have l3:es.size=0:=by rw[l1,<-l2];rfl
     exact⟨a,ob,_,es,ep,[],rfl,ns,hq,dd,λi h=>@d,by rw[l3];rfl,λi q e=>by simp at e⟩
    |@cons j _ _ _ _ _ _=>cases j<;>simp[fi,mr] at h1
   | ph hq rs=>
    rename_i a o kv;obtain⟨z,ns,xs,rel,ob,es,ep,ho,ex,dd,hl,nd⟩:=(I1.inv.cx a _ hq).2;have eo:ob=o:=by have:=(I1.inv.cx a _ hq).1;rw[ho] at this;exact aZ this
    subst eo;have l1:=congrArg dh hl;rw[au,gu] at l1;have l2:kv.length=xs.length:=jA rel;have l3:=rs.len;refine⟨a,ob,_,es,ep,(kv.zip xs).map λz=>(V.ref z.2.2.1,z.1.2),rfl,ns,hq,dd,λi hi=>?_,@d,λi q e=>?_⟩
    .have i2:i<xs.length:=@d
     have i3:i<kv.length:=@d
     have ee:es[i]=entryOfKey (jJ @ck) xs[i]:=by
      have:=congrArg (λl=>l[i]?) hl;simp only[bw,az i2] at this;simpa[hi] using this
     refine⟨(V.ref xs[i].2.1,kv[i].2),by rw[bw,az (by rw[mY];lia),wX];rfl,?_⟩;rw[ee];exact⟨rfl,(zV rel i i3 i2).2.2⟩
    .obtain⟨p,hp,ek,rp⟩:=rs.item e;have i3:i<kv.length:=(List.getElem?_eq_some_iff.mp hp).1;have i2:i<xs.length:=@d
     have pr:=zV rel i i3 i2;rw[az i3] at hp;cases hp;refine⟨(V.ref xs[i].2.1,kv[i].2),by rw[bw,az (by rw[mY];lia),wX];rfl,?_,rp⟩;rw[ek];exact .tup pr.2.1 (zR _)
  obtain⟨a,ob,u,es,ep,ps,rfl,hm,hu,dd,hk,hlen,ZM⟩:=main;cases r1;refine⟨"dict","dict.items",hU,g8,ux,t1,t2,nN rfl (Bl ?_)⟩;refine Cc g8 t1 tY (rX _) (yE a hm) ⟨t1,?_⟩;have I2:Inv X pins σ H1 {s1 with heap:=s1.heap.push {cls:=.type "dict_items",data:=.fields #[@V]}}:=I1.inv.kept (t':=s1.toks) λb o e=>aJ _ e;refine AY (s:={s1 with heap:=s1.heap.push {cls:=.type "dict_items",data:=.fields #[@V]}}) ⟨_,@aX,rfl,rfl⟩ (aJ _ (I1.inv.cx a _ hu).1) dd ?_;refine⟨_,[_],_,_,H1,G1,kvs.map (λp=>.tup [p.1,p.2]),_,rfl,I2.kept (t':=s1.toks) λb o e=>aJ _ e,m1,AH a _ ob es ep ps dd hk,⟨.none,.none,@aX⟩,λb hb=>?_,λi H2 G2 k ab _=>?_,q1⟩
  .have e:=List.mem_singleton.mp hb;subst e;exact I2.Ds @J (I2.cx.fresh @J)
  .have Bt:=k.ji _ _ _ hu;refine⟨λd hd=>?_,λhle=>⟨⟨u,Bt⟩,by rw[<-hlen];simpa using hle⟩⟩;rw[bw] at hd;cases Ky:kvs[i]? with
   |none=>rw[Ky] at hd;cases hd
   |some q=>
    rw[Ky] at hd;obtain⟨p,hp,rk,rp⟩:=ZM i q Ky;have hi:i<es.size:=by rw[<-hlen];exact(List.getElem?_eq_some_iff.mp Ky).1
    refine⟨⟨⟨u,Bt⟩,hi⟩,?_⟩;rintro x H3 ⟨T,p',ex,hT,e3,hy⟩;subst ex e3;rw[hp] at hy;cases hy;have ed:D.tup [q.1,q.2]=d:=by simpa using hd
    subst ed;exact⟨.tup bV (.cons ((rk.mono k).mono (.new hT)) (.cons ((rp.mono k).mono (.new hT)) .nil)),.Kz ab hT⟩
 |_=>ext e
end
section
variable {X:Cx} {k v k2 v2:Expr} {tk tv tk2 tv2:gC} {pos:Pos}
theorem Sy(hk:eU X k tk)(hv:eU X v tv)(hk2:eU X k2 tk2)(hv2:eU X v2 tv2):eU X (.Dict [some k,some k2] [v,v2] pos) (Oh tk tv tk2 tv2):=by
 ext i;have hn:=I.inv.cx.fresh (aH s.heap.objs.size);have I1:=I.inv.laid (a:=s.heap.objs.size) (o:=.dK []) (h':=s.heap.push {cls:=@aZ,data:=.dict #[]}) (t':=s.toks) (λ_ _ q=>aJ _ q) @J (DL s.heap I.inv.big);have mh:Mv X.K H G (upd H s.heap.objs.size (.dK [])) G:=.Kz I.ab hn;have I2:I2 X pins σ (upd H s.heap.objs.size (.dK [])) τ G {s with heap:=s.heap.push {cls:=@aZ,data:=.dict #[]},toks:=s.toks}:=⟨I1,I.st.mono (.new hn),mh.ab⟩;refine wpAny_Dict_walk (knd:=c7 X.prog X.w) (by rfl) (by rfl) @f (show 2<=15 by decide) ?_;refine um (jH hk hE I2 h λx H1 dx G1 u s1 I3 m1 r1 j4 q1=>?_);refine jH hv hE I3 q1 λy H2 dy G2 w s2 I4 m2 r2 zS q2=>?_;refine um (jH hk2 hE I4 q2 λx2 H3 dx2 G3 u2 s3 I5 m3 r3 rd3 q3=>?_);refine jH hv2 hE I5 q3 λy2 H4 dy2 G4 w2 s4 I6 m4 r4 rd4 q4=>?_;obtain⟨⟨hk1,hk3,ne⟩,q4⟩:=q4;refine HP ?_;obtain⟨kk,rfl⟩:=sN hk1;obtain⟨kk2,rfl⟩:=sN hk3;have ex:=sx j4;subst ex;have ex2:=sx rd3;subst ex2;have nek:kk≠kk2:=λz=>by rw[vZ] at ne;exact absurd z (of_decide_eq_false ne)
 have g0:G s.heap.objs.size=none:=I.ab.free hn;obtain⟨p1,p2⟩:=m1.keep _ _ (bV (H:=H) (a:=s.heap.objs.size) (o:=.dK [])) g0;obtain⟨p3,p4⟩:=m2.keep _ _ p1 p2;obtain⟨p5,p6⟩:=m3.keep _ _ p3 p4;obtain⟨p7,p8⟩:=m4.keep _ _ p5 p6;have ae1:=(zS.mono (m3.kp I4.ab)).mono (m4.kp I5.ab);obtain⟨rs,c,rk⟩:=xt (P:=X.prog) (w:=X.w) (kvs:=[(kk,y),(kk2,y2)]) (ws:=[(u,w),(u2,w2)]) (.cons ⟨r1,r2⟩ (.cons ⟨r3,r4⟩ .nil));obtain⟨z,hd,vs0,r0,dd⟩:=DI I6.inv.cx p7;cases r0;refine⟨rs,c,dd,λh' A7 hs=>?_⟩;have he:∃q,@c6=some q:=by obtain⟨q,_,_,hq,_⟩:=A7;exact⟨q,hq⟩
 have em:CV [] [(kk,y),(kk2,y2)]=[(kk,y),(kk2,y2)]:=by
  show putK (putK [] kk y) kk2 y2=_;unfold putK;simp[nek]
 have kp:Kp H4 (upd H4 s.heap.objs.size (.dK [(kk,y),(kk2,y2)])):=.putD p7 (.inl @A);have I7:=sV (t':=s4.toks+[(u,w),(u2,w2)].length) I6.inv (by rw[p7];exact gv) hs he (DJ (kvs:=CV [] [(kk,y),(kk2,y2)]) (by rw[em];exact(show 2<=ba by decide)) hd (rk.merge .nil) A7);rw[em] at I7;have m14:=(((mh.trans m1).trans m2).trans m3).trans m4;refine⟨@aE,_,@aE,_,I7,?_,rfl,.ref _,q4 _ p8⟩;refine⟨λa o e n=>?_,λa n=>?_,λa g e=>?_⟩
 .have ha:a≠s.heap.objs.size:=λz=>by rw[z,hn] at e;cases e
  obtain⟨k1,k2⟩:=m14.keep a o e n;exact⟨by rw[bH ha];exact k1,by rw[cu ha];exact k2⟩
 .by_cases ha:a=s.heap.objs.size
  .subst ha;rw[bV];simp
  .rw[bH ha];exact m14.jN a n
 .by_cases ha:a=s.heap.objs.size
  .subst ha;rw[ax] at e;cases e;exact .dk bV (.cons (ae1.mono kp) (.cons (rd4.mono kp) .nil))
  .rw[cu ha] at e;exact(m14.ab a g e).mono kp (bH ha)
end
noncomputable def eOk(e:gJ)(p:Int×Int):Bool:=e.hash == hashInt p.1&&v8 p.1 e.key&&v8 p.2 e.val
noncomputable def XR:List gJ->@ae->Bool
 |[],[]=>true
 |e::es,p::ps=>eOk e p&&XR es ps
 |_,_=>false
def JS(K:aw)(a:Addr)(kv:@ae):Bool:=match K.lookup a with
 |some o=>o.cls == @aZ && o.dict == none&&o.slots.toList == []&&(match o.data with |.dict es _=>XR es.toList kv |_=>false)
 |none=>false
noncomputable def YM(kv:@ae):@aO:=kv.map λp=>(.inl p.1,.int p.2)
theorem isInt_shape(h:v8 i v=true):∃t,v=.int i t:=by
 rcases fJ (k:=.inl i) h with ⟨j,t,e,rfl⟩ |⟨_,_,e,_⟩
 .cases e;exact⟨t,rfl⟩
 .cases e
section
variable {P:bz} {w:World}
theorem DF:∀(es:List gJ) (kv:@ae),XR es kv=true->∃vs,KV (YM kv) vs/\Pairs (c7 P w) es vs/\vs.map @n=kv.map (λp=>(zE p.1:Key))/\∀e∈es,∃k,(c7 P w).is k e.key=true/\e.hash=(c7 P w).hash k
 |[],[],_=>⟨[],.nil,.nil,rfl,λe h=>@aS⟩
 |[],_::_,h=>bo (show @bC from h)
 |_::_,[],h=>bo (show @bC from h)
 |e::es,p::ps,h=>by
  have h:(eOk e p&&XR es ps)=true:=h;rw[aL] at h;obtain⟨vs,h1,h2,h3,h4⟩:=DF es ps h.2;have he:=h.1;unfold eOk at he;rw[aL,aL] at he;obtain⟨t,ev⟩:=isInt_shape he.2;refine⟨(.inl p.1,e.val)::vs,.cons ⟨rfl,t,ev⟩ h1,.cons he.1.2 rfl h2,by rw[ak,ak,h3],λx hx=>?_⟩;rcases List.mem_cons.mp hx with rfl |hx
  .exact⟨.inl p.1,he.1.2,beq_iff_eq.mp he.1.1⟩
  .exact h4 x hx
theorem aa9{K:aw}(Y:K.In h)(e:JS K a kv=true)(nd:(kv.map @n).Nodup):∃vs,KV (YM kv) vs/\h.DictOf (c7 P w) a vs:=by
 unfold JS at e;cases hl:K.lookup a with
 |none=>rw[hl] at e;exact bo (show @bC from e)
 | some o=>
  rw[hl] at e;dsimp only at e;rw[aL,aL,aL] at e;obtain⟨⟨⟨e1,e2⟩,e3⟩,e4⟩:=e;obtain⟨c,dd,dt,⟨sl⟩⟩:=o;have f1:c=@aZ:=beq_iff_eq.mp e1;have f2:dd=none:=beq_iff_eq.mp e2;have f3:sl=[]:=beq_iff_eq.mp e3;clear e1 e2 e3;subst f1;subst f2;subst f3;cases dt with
  | dict es ep=>
   obtain⟨vs,h1,h2,h3,h4⟩:=DF (P:=P) (w:=w) es.toList kv e4;refine⟨vs,h1,_,es,ep,Y _ _ hl,⟨rfl,rfl,rfl⟩,rfl,?_,h2,?_⟩
   .intro e he;obtain⟨k,q1,q2⟩:=h4 e (Array.mem_toList_iff.mpr he);exact⟨k,q1,q2⟩
   .rw[h3];have:kv.map (λp=>(zE p.1:Key))=(kv.map @n).map zE:=by rw[bq];rfl
    rw[this,List.nodup_iff_pairwise_ne,oJ];exact(List.nodup_iff_pairwise_ne.mp nd).imp λpX e=>pX (Sum.inl.inj e)
  |_=>exact bo (show @bC from e4)
end
end K2
namespace K2
open PySem PySem.Spec PyProof.Rows L2
section
variable {X:Cx} {x:Str} {a:Addr} {kv:@ae} {p px pos:Pos}
theorem Y8{K:aw}:∀kv:@ae,mU K H (YM kv) (bb kv)
 |[]=>.nil
 |p::kv=>.cons (k:=.inl p.1) (.int p.2) (Y8 kv)
theorem Pt (hg:Gl X "dict") (hm:X.mg "dict"=none) (hg2:Gl X x) (VE:X.mg x=some @u) (ns:@bQ) (hD:JS X.K a kv=true) (nd:(kv.map @n).Nodup) (hz:kv.length<=1000) (rJ:@bh)
  (hs:autoParam (a8 [.Name x px] X.env=[(false,eval (.Name x px) X.env)]) Ar._auto_1):eU X (.Call (.Name "dict" p) [.Name x px] [] pos) (Ba kv):=by
 ext i;refine fm (qK I.inv hg hm Hi ?_);refine gZ ?_ hs rfl;rw[hs];show wpAny _ _ (KL ((false,eval (.Name x px) X.env)::jb pos (a8 [] X.env))) _ _ s;refine kl ?_;refine oB I.inv hg2 VE ?_ rJ;refine uD ?_;obtain⟨vs,rel,dd⟩:=aa9 (P:=X.prog) (w:=X.w) I.inv.BU hD nd;have hl:vs.length=kv.length:=by rw[<-rel.length];unfold YM;rw[au]
 have sz:ba=16777216:=c5;refine kt_call_dict ns dd @c λh' A7 hs=>?_;have hp:@cN:=I.inv.cx.fresh @J;have zz:(YM kv).length<=ba:=by unfold YM;rw[au];lia
 refine⟨.ref _,upd H s.heap.objs.size (.dK (YM kv)),.ref _,_,I.inv.laid (a:=s.heap.objs.size) (o:=.dK (YM kv)) (t':=s.toks) (λb q hq=>?_) @J (DJ zz (beq_eq_false_iff_ne.mpr (cO (bu I.inv.big))) rel A7),.new I.ab hp (.dk bV (Y8 kv)),rfl,.ref _,h _ (I.ab.free hp)⟩;exact(hs.2 b (bu (aQ hq))).trans (aJ _ hq)
end
end K2
end
section
namespace K2
open PySem PySem.Spec PyProof.Rows L2
section
variable {X:Cx}
theorem J2:pL X (@aj) Qq:=by
 intro pins s σ H G xs ds us Q I ab rx rd q;unfold Qq at q;split at q
 .rename_i x;obtain⟨v,rfl,r⟩:=rd.one;have V1:∀(l:Addr) (ys:@y) (zs:@e),v=@Y->pO X.K H l ys->bc X.K H ys zs->Q (.tup zs) G->wpAny @l X.A (call (@aj) us) @bo X.xe s:=λl ys zs e h rs hq=>by
   subst e;exact iM (Ey pins s σ H _ us @bw I rx ⟨l,ys,rfl,.inl ⟨h,λp hp=>⟨.tup zs,G,.Kz ab hp,.tup bV (rs.mono @ar),hq⟩⟩⟩) @bE
  cases r with
  |dc hq rs=>exact V1 _ _ _ rfl hq.sq rs q
  | ref l=>
   unfold qm at q;dsimp only at q;cases hg:G l with
   |none=>rw[hg] at q;ext k
   | some g=>
    rw[hg] at q;cases g with
    |lst ds=>
     ext t;exact V1 _ _ _ rfl (.of hv) rs q
    |ins _ _=>ext k
    |tR _=>ext k
    |gz kvs=>ext k
  |_=>exact bM q
 ext j
end
section
variable {X:Cx}
theorem Xf(hu:@bl):oH X (fh .Lt) Wl:=by
 ext q;obtain⟨sh,a,b,⟨sa,sb⟩,⟨h1,h2⟩,q⟩:=q;obtain⟨as,ra⟩:=(iU I ab sa).1 x v dX rx;obtain⟨bs,rb⟩:=(iU I ab sb).1 y u dY ry;have d1:=DM sa;exact xj _ sh a b _ s _ _ as bs @J h1 h2 sa.nr sb.nr ra rb (by unfold SN at d1;lia) _ _ _ _ ⟨.bl _,H,.bl _,G,I,@ai,rfl,.bl _,q⟩
end
section
variable {prog:bz} {w:World} {A:cZ} {E:@I}
theorem ze{x1}(hh:A.handled=none)(ht:s.heap.IsList t items)
  (hn:(kN elts env).length=items.size) (acV:(kN elts env).findIdx? @n=none)
  (h:∀h',Heap.ExtBut s.heap.objs.size s.heap h'->wpAny @P A (assignInOrder ((kN elts env).map (·.2)) items.toList) Q E @as):
  wpAny @P A (AE (.Tuple elts x1 pos) env (.ref t)) Q E s:=by
 rw[assign_Tuple];refine ah (tV ?_);unfold unpack;rw[hn,acV];exact ah (cW (PySem.W.kun_itemsOf hh ht h))
end
section
variable {X:Cx} {es:@az} {pos:Pos}
theorem WL(hc:@bv)(h:Kd X es t)(hgl:∀E ds τ G Q,t E ds τ G Q->ds.length=n)
  (hn:autoParam ((kN es X.env).length=n) Ar._auto_1) (Jw:autoParam ((kN es X.env).findIdx? @n=none) Ar._auto_1):Bf X (.Tuple es k pos) (Ma t):=by
 intro E pins s σ H τ G w d u Q hE I r rd hw;unfold Ma at hw;have V1:∀(l:Addr) (ys:@y) (zs:@e),w=@Y->pO X.K H l ys->bc X.K H ys zs->t E zs τ G Q->wpAny @l X.A (AE (.Tuple es k pos) X.env u) (λ_ s'=>∃kH H' pV G',I2 X pins kH H' pV G' s'/\@bG/\Q pV G') X.xe s:=λl ys zs e hq rs hw=>by
  subst e;cases r;obtain⟨bQ,rv,pl,hz⟩:=I.inv.list hq;refine ze (I.inv.ok.hd hc) pl.isList (by rw[hn,aX,<-rv.length,rs.length];exact(hgl _ _ _ _ _ hw).symm) Jw λh' hx=>?_;have I1:Inv X pins σ H @as:=I.inv.kept (t':=s.toks) λb o e=>hx b o (bu (aQ e)) e;exact h E pins _ σ H τ G _ _ _ Q hE ⟨I1,I.st,I.ab⟩ (by simpa using rv) rs hw
 cases rd with
 |dc hq rs=>exact V1 _ _ _ rfl hq.sq rs hw
 | ref l=>
  unfold qm at hw;dsimp only at hw;cases hg:G l with
  |none=>rw[hg] at hw;exact hw.elim
  | some g=>
   rw[hg] at hw;cases g with
   |lst ds=>
    obtain⟨vs,hv,rs⟩:=I.ab.lst hg;exact V1 _ _ _ rfl (.of hv) rs hw
   |ins _ _=>exact hw.elim
   |tR _=>exact hw.elim
   |gz kvs=>exact hw.elim
 |_=>exact bM hw
end
section
variable {X:Cx} {pins:@s} {σ:L2.St} {H1 H':Hp} {s1 s':aB}
noncomputable def Vu(S:Addr->Bool)(H1 H':Hp):Hp:=λa=>if S a=true then H1 a else H' a
theorem Rt{S:Addr->Bool}{a:Addr}(h:S a=true):Vu S H1 H' a=H1 a:=by unfold Vu;rw[if_pos h]
theorem iR{S:Addr->Bool}{a:Addr}(h:S a=false):Vu S H1 H' a=H' a:=by unfold Vu;rw[if_neg (by rw[h];exact fP)]
theorem Inv.abV(I1:@cG)(I':@ce)(hS:∀a,S a=true -> ∃u0 ob,H1 a=some u0/\Hd u0=true/\H' a=some (.ji ob u0)):Inv X pins σ (Vu S H1 H') s' := by
  have cs:∀b,(S b=false\/∃u0 ob,S b=true/\H1 b=some u0/\Hd u0=true/\H' b=some (.ji ob u0)) := λb=> by
    cases c:S b with
    |false=> exact @ac
    |true=> obtain⟨u0,ob,z⟩ := hS b c;exact .inr ⟨u0,ob,rfl,z⟩
  exact {
    ok := I'.ok
    os := I'.os
    bare := I'.bare
    base := { keep := I'.base.keep,slot := I'.base.slot,there := I'.base.there
              free := λb o q n hx=> by
                rcases cs b with hb |⟨u0,ob,hb,e1,hu,e'⟩
                . rw[iR hb];exact I'.base.free b o q n hx
                . have := I1.base.free b o q n hx;rw[e1] at this;ext f
              t8 := λb xs q=> by
                rcases cs b with hb |⟨u0,ob,hb,e1,hu,e'⟩
                . rw[iR hb];exact I'.base.t8 b xs q
                . have := I1.base.t8 b xs q;rw[e1] at this;ext f;cases hu
              sQ := λb o u q=> by
                rcases cs b with hb |⟨u0,ob,hb,e1,hu,e'⟩
                . rw[iR hb];exact I'.base.sQ b o u q
                . have := I1.base.sQ b o u q;rw[e1] at this;ext f;cases hu
              wd := λb ps q=> by
                rcases cs b with hb |⟨u0,ob,hb,e1,hu,e'⟩
                . rw[iR hb];exact I'.base.wd b ps q
                . have e := I1.base.wd b ps q;rw[e1] at e;cases e;cases hu
              we := λb x q=> by
                rcases cs b with hb |⟨u0,ob,hb,e1,hu,e'⟩
                . rw[iR hb];exact I'.base.we b x q
                . have e := I1.base.we b x q;rw[e1] at e;cases e;cases hu}
    loc := I'.loc
    cell := I'.cell
    free := by
      rcases cs X.env.locals with hb |⟨u0,ob,hb,e1,hu,e'⟩
      . rw[iR hb];exact I'.free
      . have := I'.free;rw[e'] at this;ext f
    jX := λx c e=> by
      rcases cs c with hb |⟨u0,ob,hb,e1,hu,e'⟩
      . rw[iR hb];exact I'.jX x c e
      . have := I'.jX x c e;rw[e'] at this;ext f
    pin := λq hq=> by
      obtain⟨h1,h2,h3⟩ := I'.pin q hq;rcases cs q.1 with hb |⟨u0,ob,hb,e1,hu,e'⟩
      . exact⟨h1,by rw[iR hb];exact h2,h3⟩
      . rw[e'] at h2;cases h2
    cx := fun a o q=> by
      have st:∀u,fY X.prog X.w H' s'.heap a u -> fY X.prog X.w (Vu S H1 H') s'.heap a u := λu x=>
        x.jN (λb v _ r=> r) (λb r=> by
          rcases cs b with hb |⟨u0,ob,hb,e1,hu,e'⟩
          . rw[iR hb];exact r
          . rw[e'] at r;cases r) (λb xs r=> by
          rcases cs b with hb |⟨u0,ob,hb,e1,hu,e'⟩
          . rw[iR hb];exact r
          . rw[e'] at r;cases r)
      rcases cs a with hb |⟨u0,ob,hb,e1,hu,e'⟩
      . rw[iR hb] at q
        exact st _ (I'.cx a _ q)
      . rw[Rt hb,e1] at q
        cases q;exact st _ (I'.cx a _ e').2
    len := I'.len}
end
section
variable {K:aw} {H' H3:Hp}
theorem O4(rd:cm K H' v d)(hp:pE d=true):cm K H3 v d:=by
 cases rd with
 |fe=>exact .fe
 |bl b=>exact .bl _
 |int i=>exact @S
 |_=>exact absurd hp (by simp[pE])
theorem Cu:∀{ds:@e} {vs:@y},bc K H' vs ds->ds.all pE=true->bc K H3 vs ds
 |[],_,.nil,_=>.nil
 |_::_,_,.cons r rs,h=>by
  rw[nj,aL] at h;exact .cons (O4 r h.1) (Cu rs h.2)
structure KtP(H' H3:Hp):Prop where
 t:∀a xs,H' a=some (.tup xs)->H3 a=some (.tup xs)
 k:∀a o kv,H' a=some (.ji o (.dK kv))->H3 a=some (.ji o (.dK kv))
 d:∀a o kv,H' a=some (.ji o (.dT kv))->H3 a=some (.ji o (.dT kv))
theorem Iu(kt:KtP H' H3)(rd:cm K H' v d)(hp:tupP d=true):cm K H3 v d:=by
 cases rd with
 |fe=>exact .fe
 |bl b=>exact .bl _
 |int i=>exact @S
 |ref a=>exact @V
 |tup h r=>exact .tup (kt.t _ _ h) (Cu r hp)
 |pj h r=>exact .pj (kt.k _ _ _ h) (r.plain hp)
 |ph h r=>
  cases r with
  |nil=>exact .ph (kt.d _ _ _ h) .nil
  |cons _ _=>exact absurd hp (by simp[tupP,dq])
 |_=>exact absurd hp (by simp[tupP,pE])
theorem EK(kt:KtP H' H3):∀{ds:@e} {vs:@y},bc K H' vs ds->ds.all tupP=true->bc K H3 vs ds
 |[],_,.nil,_=>.nil
 |_::_,_,.cons r rs,h=>by
  rw[nj,aL] at h;exact .cons (Iu kt r h.1) (EK kt rs h.2)
theorem abl(kt:KtP H' H3)(e:H3 a=H' a)(h:KG K H' a o)(ok:CP o=true):KG K H3 a o:=by
 cases o with
 |lst ds=>obtain⟨vs,q,r⟩:=h;exact⟨vs,e.trans q,EK kt r ok⟩
 | gz kvs=>
  rcases h with ⟨kv,q,r⟩ |⟨kv,q,r⟩
  .exact .dk (e.trans q) (r.plain ok)
  .cases r with
   |nil=>exact .dt (e.trans q) .nil
   |cons _ _=>exact absurd ok (by simp[CP,dq])
 |ins c fs=>exact absurd ok (by simp[CP])
 |tR kvs=>exact absurd ok (by simp[CP])
end
section
variable {X:Cx} {pins:@s} {σ:L2.St} {H:Hp} {s:aB} {G:Gp}
theorem N0(I:@k)(ab:@aN):∀{ds ts:@e} {vs:@y},zr G R ds ts->bc X.K H vs ds->bc X.K (nI s.heap (jk R G) H) vs ts
 |[],_,_,.nil,.nil=>.nil
 |_::_,_,_,.cons f fs,.cons r rs=>.cons (Mc I ab f r) (N0 I ab fs rs)
end
section
variable {X:Cx} {e:Expr} {es:@az} {t:Az} {pos p:Pos} {x:Str} {k:Nat} {f:Addr} {fd:gc} {ps:@v} {sp:iS}
theorem Px(F:vI X.prog X.w X.K X.mg X.base MN k f fd ps (Eh X.K sp))(hr:kg k X.A)(hg:Gl X x)(hm:X.mg x=some (.ref f))(hk:nM X.K (.ref f)=true)(hb:Binds X.K fd ps [])
  (ha:wO X (e::es) t) (rJ:@bh) (he:@cJ) (rV:@cZ):
  eU X @cm (vm sp t):=by
 ext i;refine fm (oB I.inv hg hm ?_ rJ);refine rQ (h₀:=X.base) I.inv.ok.mod.Xx hk (zJ ha pos hE I h λvs H1 ds G1 us s1 I1 m1 r rd q=>⟨I1.inv.BU,?_⟩) he rV;obtain⟨R,ts,hR,fz,q⟩:=q;have rep:=N0 I1.inv I1.ab fz rd;have I1':=Inv.freeze I1.inv (jk R G1);have YY:∀a,jk R G1 a=true->∃u0 ob,H1 a=some u0/\Hd u0=true/\nI s1.heap (jk R G1) H1 a=some (.ji ob u0):=λa h=>by
  have hRa:R a=true:=by unfold jk at h;rw[aL] at h;exact h.1
  obtain⟨xs,hx⟩:=hR a hRa;obtain⟨vs',hv,rs⟩:=I1.ab a _ hx;obtain⟨ob,ho⟩:=K2.lu (I1.inv.cx a _ hv);exact⟨_,ob,hv,rfl,sR h hv rfl ho⟩
 have aaK:∀a,jk R G1 a=true->∃vs ob,nI s1.heap (jk R G1) H1 a=some (.ji ob (.lst vs)):=λa h=>by
  have hRa:R a=true:=by unfold jk at h;rw[aL] at h;exact h.1
  obtain⟨xs,hx⟩:=hR a hRa;obtain⟨vs',hv,rs⟩:=I1.ab a _ hx;obtain⟨ob,ho⟩:=K2.lu (I1.inv.cx a _ hv);exact⟨_,ob,sR h hv rfl ho⟩
 have out:∀a,jk R G1 a=false->nI s1.heap (jk R G1) H1 a=H1 a:=λa h=>yX h;generalize nI s1.heap (jk R G1) H1=H2 at rep I1' YY aaK out;generalize jk R G1=S at YY aaK out;refine iM (Lm F hr hb .nil YA I1' r (Q:=λv H'=>∃d G',Mv X.K H2 (λ_=>none) H' G'/\cm X.K H' v d/\(tupP d=true/\∃T:@a0,(∀a o,T a=true->G' a=@i->CP o=true)/\((∀a o,G' a=@i->G1 a=none)->Q d (Yl (resT T G') G1)))) ?_) λu s2 z=>?_
 .rw[bE];exact⟨ts,λ_=>none,_,rep,(λa g e=>by(cases e)),q,(λd G' v H' q2 m rd=>⟨d,G',m,rd,q2⟩)⟩
 .obtain⟨v,H',I',rv,d,G',m,rd,hp,T,T7,q3⟩:=z;have kp':∀a o,H2 a=@i->H' a=@i/\G' a=none:=λa o e=>m.keep a o e rfl;have hS:∀a,S a=true->∃u0 ob,H1 a=some u0/\Hd u0=true/\H' a=some (.ji ob u0):=λa h=>by
   obtain⟨u0,ob,h1,h2,h3⟩:=YY a h;exact⟨u0,ob,h1,h2,(kp' a _ h3).1⟩
  have hL:∀a,S a=true->∃vs ob,H' a=some (.ji ob (.lst vs)):=λa h=>by
   obtain⟨vs,ob,h3⟩:=aaK a h;exact⟨vs,ob,(kp' a _ h3).1⟩
  have I3:=Inv.abV I1.inv I' hS;have same:∀a o,H1 a=@i->Vu S H1 H' a=@i:=λa o e=>by
   cases c:S a with
   |true=>rw[Rt c];exact e
   |false=>rw[iR c];exact(kp' a o (by rw[out a c];exact e)).1
  have kp:Kp H1 (Vu S H1 H'):=⟨λa xs e=>same a _ e,λa o u e=>same a _ e⟩;have U1:lh X.K (Vu S H1 H') G1:=λa g eg=>by
   have ab1:=I1.ab a g eg;cases eh:H1 a with
   |none=>exact absurd eh ab1.tracked
   |some o=>exact ab1.mono kp (by rw[same a o eh,eh])
  have so':∀a o u,H' a=@bx->(∀vs,u≠.lst vs)->S a=false:=λa o u e n=>by
   cases c:S a with
   |false=>rfl
   |true=>obtain⟨vs,ob,h3⟩:=hL a c;rw[h3] at e;cases e;exact absurd rfl (n vs)
  have kt:KtP H' (Vu S H1 H'):=⟨λa xs e=>by
   cases c:S a with
   |true=>obtain⟨u0,ob,_,_,h3⟩:=hS a c;rw[h3] at e;cases e
   |false=>rw[iR c];exact e,λa o kv e=>by rw[iR (so' a o _ e (λ_ z=>by cases z))];exact e,λa o kv e=>by rw[iR (so' a o _ e (λ_ z=>by cases z))];exact e⟩
  have fresh:∀a o,G' a=@i->H1 a=none:=λa o e=>by
   cases eh:H1 a with
   |none=>rfl
   | some u=>
    exfalso;cases c:S a with
    |true=>
     obtain⟨u0,ob,_,_,h3⟩:=YY a c;have:=(kp' a _ h3).2;rw[e] at this;ext f
    |false=>
     have:=(kp' a u (by rw[out a c];exact eh)).2;rw[e] at this;ext f
  have fg:∀a o,G' a=@i->G1 a=none:=λa o e=>I1.ab.free (fresh a o e);have so:∀a o,G' a=@i->S a=false:=λa o e=>by
   cases c:S a with
   |false=>rfl
   |true=>obtain⟨u0,ob,h1,_⟩:=hS a c;rw[fresh a o e] at h1;cases h1
  refine ug.trans m1 ⟨v,_,d,Yl (resT T G') G1,I3,?_,rv,Iu kt rd hp,q3 fg⟩;have rs:∀a g,resT T G' a=some g->T a=true/\G' a=some g:=λa g e=>by
   unfold resT at e;split at e
   .rename_i c;exact⟨c,e⟩
   .cases e
  refine⟨λa o e n=>⟨same a o e,?_⟩,λa n=>?_,λa g eg=>?_⟩
  .unfold Yl;cases eg:resT T G' a with
   |none=>exact n
   |some g=>have:=fresh a g (rs a g eg).2;rw[e] at this;ext f
  .cases eg:G1 a with
   |none=>exact absurd eg n
   |some g=>exact(U1 a g eg).tracked
  .unfold Yl at eg;cases eg':resT T G' a with
   |none=>rw[eg'] at eg;exact U1 a g eg
   |some g'=>
    rw[eg'] at eg;cases eg;obtain⟨t1,t2⟩:=rs a _ eg';exact abl kt (iR (so a _ t2)) (m.ab a _ t2) (T7 a _ t1 t2)
end
end K2
end
section
namespace L2
open PySem PySem.Spec PyProof.Rows
open AutoSeq1 (wpAny_loadPart')
theorem Jc(k)(hk:¬ (!gr k)=true)(l)(items)(n)(dct)(sl)(t):
  Meets (Builtin.«enumerate.__new__» ⟨[@cy,@Y],[("start",.int k t)]⟩) (λ_ R s=>@cA=some {cls:=@ad,dict:=dct,data:=.seq items n,slots:=sl} /\
   R (.ok (.ret (.ref (s.heap.push {cls:=.type "list_iterator",data:=.fields #[@Y,@aU]}).objs.size)))
    {s with heap:=(s.heap.push {cls:=.type "list_iterator",data:=.fields #[@Y,@aU]}).push {cls:=@cy,data:=.fields #[.none,.bool false,@aE,AB k,.none,.none]}}) :=
 .of_wp λprog w A R s h=>by
  obtain⟨hp,g,d,tk,os⟩:=s;obtain⟨hl,h⟩:=h;have TY:=sub_enumerate;have hL:Heap.IsList (Shared.heap ⟨hp,g,d,tk,os⟩) l items:=⟨_,hl,rfl,n,rfl⟩
  wp_walk using bX hl
  refine wpAny_stack_any λst=>aE ?_;split
  .rename_i c _ _ _ _ _;cases(c == MP "enumerate")
   .wp_walk using bX hl,qA hL
    exact⟨_,rfl,h⟩
   .wp_walk using bX hl,qA hL
    exact⟨_,rfl,h⟩
  .wp_walk using bX hl,qA hL
   exact⟨_,rfl,h⟩
section
variable {prog:bz} {w:World} {A:cZ} {E:@I} {s:aB}
set_option maxRecDepth 100000 in
theorem Mw{k:Int}(hk:¬ (!gr k)=true){l:Addr}{items:@cp}{t:Tok}{Q:@I}(hL:s.heap.IsList l items)
  (h:∀h',IsEnum h' (@b6) s.heap.objs.size k .none->h'.IsListIter s.heap.objs.size l 0 ->
   (∀b o,@am=@i->@bm)->Q (.ref (@b6)) @as):
  wpAny @P A (call (@cy) [@Y] [("start",.int k t)]) Q E s:=by
 obtain⟨⟨c,dct,dt,sl⟩,hl,hc,n,hd⟩:=hL;replace hc:c=@ad:=hc;replace hd:dt=.seq items n:=hd;subst hc hd;obtain⟨c,tl,akJ⟩:=F.called_enumerate.mro;have aib:=F.called_enumerate.made;have TY:=F.called_enumerate.sub;refine KI (codeAny_of_tree (show wpAny _ _ (callAny (@cy) _) _ _ _ from ?_));refine aE ⟨Code.quiet_builtin _ (@bB),lF F.entry_type_call ?_⟩;rw[Around.under_plain (weight_type_call_type "enumerate" [@Y] [("start",.int k t)]) (units_type_call_type "enumerate" [@Y] [("start",.int k t)])];have h1:=F.called_enumerate.notType;have h2:=F.called_enumerate.canCreate;have hct:=Ck (@Y) k t;have hcn:=Em (@Y) k t
 repeat (any_goals(first |assumption |wp_step))
 have hz:(s.heap.push {cls:=.type "list_iterator",data:=.fields #[@Y,@aU]}).objs.size=@b6:=lV ..;refine qS (tm F.called_enumerate.plain F.entry_enumerate_new (Q0 hcn (Jc k hk l items n dct sl t prog w A.in1 (wants (λobj fL=>fL.TypeIs obj "enumerate"/\Q obj fL) E) s ⟨hl,?_⟩))) λr fL hr=>?_
 .show _/\_;rw[hz]
  have he:IsEnum ((s.heap.push {cls:=.type "list_iterator",data:=.fields #[@Y,@aU]}).push
    {cls:=@cy,data:=.fields #[.none,.bool false,@aE,AB k,.none,.none]}) (@b6) s.heap.objs.size k .none:=by
   have:=bg (s.heap.push {cls:=.type "list_iterator",data:=.fields #[@Y,@aU]})
    (o:={cls:=@cy,data:=.fields #[.none,.bool false,@aE,AB k,.none,.none]}) rfl
   rw[hz] at this;ext g
  exact⟨⟨_,he,rfl⟩,h _ he ⟨_,aJ _ (@aX),rfl,rfl⟩ λb o x=>aJ _ (aJ _ x)⟩
 .cases r with
  |error e=>exact hr
  | ok fl=>
   cases fl with
   | ret obj=>
    obtain⟨hT,hq⟩:=hr;have hli:=F.called_enumerate.init.lookup;have hbi:=F.called_enumerate.init.bind obj
    repeat (any_goals(first |assumption |wp_step))
    refine qS (tm F.called_enumerate.init.plain F.entry_object_init (F.called_enumerate.init.check _ _ _ _ _ _ _ _ hT (LX obj (@Y) k t) (Js obj (@Y) k t prog w A.in1 (wants (λr jL=>r=.none/\Q obj jL) E) fL ⟨hT,rfl,hq⟩))) λaeX jL T4=>?_;cases aeX with
    |error e=>exact T4
    | ok adA=>
     cases adA with
     |ret r=>
      obtain⟨rfl,hq⟩:=T4
      repeat (any_goals(first |assumption |wp_step))
     |_=>exact T4.elim
   |_=>exact hr.elim
end
end L2
end
section
namespace K2
open PySem PySem.Spec PyProof.Rows L2
section
theorem Ux{n:Nat}(h:n<4611686018427387904):(!gr (n:Int))=false:=by
 unfold gr;simp only[Bool.not_eq_false',aL,decide_eq_true_eq];lia
variable {X:Cx} {elts:@az} {kk:Nat} {wZ:Pos} {a:Expr} {ta:gC} {pos p kp p1:Pos} {c1:Nat}
theorem JP{n:Nat}(hn:n<4611686018427387904){pins:@s}{σ:L2.St}{H H1:Hp}{G G1:Gp}{s1:aB}{l:Addr}{vs:@y}{ds:@e}{ok:@B}{R:@aQ}{t:Tok}(I1:@cG)(m:@cj)(hq:pO X.K H1 l vs)
  (hk:∀H2 G2,Kp H1 H2->lh X.K H2 G2->ok G2->∃ws,pO X.K H2 l ws/\bc X.K H2 ws ds) (q:R (jC n ds) ok G1):
  wpAny @l X.A (call (@cy) [@Y] [("start",.int (n:Int) t)]) (λv s2=>wpAny @l X.A (EB v) (Kc X pins σ (.Tuple elts kk wZ) H G R) X.xe s2) X.xe s1:=by
 obtain⟨bQ,rv,pl,hz⟩:=I1.list hq;refine Mw (by rw[Ux hn];exact fP) pl.isList λh' he hit kp=>?_;refine xJ he ?_;refine⟨_,[s1.heap.objs.size+1,s1.heap.objs.size],_,_,H1,G1,jC n ds,ok,rfl,I1.kept (t':=s1.toks) kp,m,Lc n l _ _ (Nat.succ_ne_self _),⟨⟨_,he⟩,hit⟩,λb hb=>?_,λi H2 G2 k ab o=>?_,q⟩
 .have HG:s1.heap.objs.size<=b:=by
   rcases @cO with rfl |hb
   .lia
   .rw[List.mem_singleton.mp hb];exact aH _
  exact I1.Ds HG (I1.cx.fresh HG)
 .obtain⟨ws,hw,rd⟩:=hk H2 G2 k ab o;refine⟨λd hd=>?_,λhl=>⟨ws,hw,by rw[rd.length,<-Aj ds n];exact hl⟩⟩;rw[Am] at hd;cases Y0:ds[i]? with
  |none=>rw[Y0] at hd;cases hd
  |some d'=>
   rw[Y0] at hd;obtain⟨v,hv,r⟩:=rd.get Y0;refine⟨⟨ws,v,hw,hv⟩,?_⟩;rintro x H3 ⟨T,y,ex,hT,e3,hy⟩;subst ex e3;have:=hy ws hw;rw[hv] at this;ext f;have ed:D.tup [.int ((n+i:Nat):Int),d']=d:=by simpa using hd
   subst ed;exact⟨.tup bV (.cons (@S) (.cons (r.mono (.new hT)) .nil)),.Kz ab hT⟩
theorem Pn   (hg:Gl X "enumerate") (hm:X.mg "enumerate"=none) (ha:@ba) (hb:eU X b tb) (hs:autoParam (a8 [a] X.env=[@cw]) Ar._auto_1):
  Be X (.Tuple elts kk wZ) (.Call (.Name "enumerate" p) [a] [⟨some "start",b,kp⟩] pos) (Dk ta tb):=by
 intro E pins s σ H τ G R hE I h;have hA:wO X [a] (aq ta aK):=rg ha yA hs;refine fm (qK I.inv hg hm zd (Av ?_ rfl ?_))
 .rw[hs];rfl
 rw[show jb pos (a8 [a] X.env)=@cw::[] from by rw[hs];rfl];refine evalArgs_kwB rfl ?_;rw[show(@cw::[]:List (Bool×Sem Value))=jb pos (a8 [a] X.env) from by rw[hs];rfl];refine zJ hA pos hE I (R:=acn λx G1=>tb E τ G1 λy G2=>∃n:Nat,y=.int n/\n<4611686018427387904/\yO x n G2 R) h λvs H1 ds G1 us s1 I1 m1 r1 j4 q1=>?_
 match ds,q1 with
 | [x],q1=>
  change tb E τ G1 _ at q1;obtain⟨w,rfl,F6⟩:=j4.one;obtain⟨u,rfl,ru⟩:=r1.one;refine kws_cons (jH hb hE I1 q1 λv2 H2 d2 G2 u2 s2 oI m2 r2 zS q2=>kws_nil ?_);obtain⟨n,rfl,hn,q2⟩:=q2;cases zS;obtain⟨t,rfl⟩:=r2;have RI:=F6.mono (m2.kp I1.ab);show wpAny @l X.A (call (@cy) [u] [("start",.int (n:Int) t)]) _ _ _;cases RI with
  |dc hq rs=>cases ru;exact JP hn oI.inv (@b5) hq.sq (λH2 G2 k ab _=>⟨_,(k.Yo hq).sq,rs.mono k⟩) q2
  |ref p=>
   cases ru;unfold yO at q2;dsimp only at q2;split at q2
   .rename_i ds e;obtain⟨vs,hv,rs⟩:=oI.ab.lst e;refine JP hn oI.inv (@b5) (.of hv) (λH2 G2 k ab o=>?_) q2;obtain⟨ws,hw,su⟩:=ab.lst o;exact⟨ws,.of hw,su⟩
   .exact q2.elim
  |tup _ _=>exact q2.elim
  |pj _ _=>exact q2.elim
  |ph _ _=>exact q2.elim
  |fe=>exact q2.elim
  |bl _=>exact q2.elim
  |int _=>exact q2.elim
  |str _=>exact q2.elim
  |exc _=>exact q2.elim
  |Et _ _=>exact q2.elim
  |qJ _ _ _ _=>exact q2.elim
 |[],q1=>ext e
 |_::_::_,q1=>ext e
end
abbrev PM(P)(w):HV P w PK:=nk3 (KP P w)
section
variable {P:bz} {w:World} {K:aw} {H:Hp} {h:Heap}
theorem items_int:∀{t:@D} {us:@C},Vals (t.map V.int) us->ItemsAre (KP P w) t us
 |[],_,r=>by rw[aM] at r;cases r;ext d
 | i::t,_,r=>by
  rw[ak] at r;cases r with
  |cons h r=>
   obtain⟨q,rfl⟩:=h;exact .cons (by simp[KP,v8]) (items_int r)
theorem afm(ok:@bc)(r:cm K H v (.tup (t.map D.int)))(ru:@a4):∃b,u=.ref b/\(jJ (KP P w)).is h t b:=by
 cases r with
 |tup e rs=>
  have z:=rs.ints;subst z;cases ru;obtain⟨_,bQ,r,o,h1,h2,n,h3⟩:=(show fY P w H h _ (.tup (t.map V.int)) from ok _ _ e);exact⟨_,rfl,o,bQ.toArray,n,h1,h2,h3,by simpa using items_int r⟩
theorem YF(ok:@bc):∀{r:List (@D)} {vs:@y} {us:@C},bc K H vs (r.map λt=>.tup (t.map D.int))->@bX->wo (jJ (KP P w)) h r us
 |[],_,_,q,ru=>by have:=q.zero;subst this;cases ru;ext d
 | t::r,_,_,q,ru=>by
  rw[ak] at q;cases q with
  | cons q1 q2=>
   cases ru with
   |cons r1 r2=>
    obtain⟨b,rfl,hb⟩:=afm ok q1 r1;exact .cons hb (YF ok q2 r2)
theorem afl(ok:@bc)(q:cm K H v (.tup (r.map λt=>.tup (t.map D.int))))(ru:@a4):∃b,u=.ref b/\(nk2 (KP P w)).is h r b:=by
 cases q with
 |tup e rs=>
  cases ru;obtain⟨_,bQ,r',o,h1,h2,n,h3⟩:=(show fY P w H h _ (.tup _) from ok _ _ e);exact⟨_,rfl,o,bQ.toArray,n,h1,h2,h3,by simpa using YF ok rs r'⟩
theorem YE(ok:@bc):∀{k:PK} {vs:@y} {us:@C},bc K H vs (k.map λr=>.tup (r.map λt=>.tup (t.map D.int)))->@bX->wo (nk2 (KP P w)) h k us
 |[],_,_,q,ru=>by have:=q.zero;subst this;cases ru;ext d
 | t::r,_,_,q,ru=>by
  rw[ak] at q;cases q with
  | cons q1 q2=>
   cases ru with
   |cons r1 r2=>
    obtain⟨b,rfl,hb⟩:=afl ok q1 r1;exact .cons hb (YE ok q2 r2)
theorem Xo(ok:@bc)(q:cm K H v (tH k))(ru:@a4):∃b,v=.ref b/\u=.ref b/\(PM P w).is h k b:=by
 unfold tH at q;cases q with
 |tup e rs=>
  cases ru;obtain⟨_,bQ,r',o,h1,h2,n,h3⟩:=(show fY P w H h _ (.tup _) from ok _ _ e);exact⟨_,rfl,rfl,o,bQ.toArray,n,h1,h2,h3,by simpa using YE ok rs r'⟩
def P1(K:aw)(H:Hp)(x:PK×@bn)(p:PK×D):Prop:=x.1=p.1/\cm K H (.ref x.2.1) (tH p.1)/\∃v,RelV v x.2.2/\cm K H v p.2
theorem Gg:∀{xs:List (PK×@bn)} {ks vs:@y} {kvs:@cd},Yb kvs ks vs xs->bc K H ks (kvs.map λp=>tH p.1)->bc K H vs (kvs.map λp=>p.2)->ma (P1 K H) xs kvs
 |[],ks,vs,kvs,r,r1,r2=>by
  have:kvs=[]:=by simpa using r.1
  subst this;ext d
 | x :: xs,ks,vs,kvs,r,r1,r2=>by
  obtain⟨e1,e2,e3⟩:=r;cases kvs with
  |nil=>cases e1
  | cons p kvs=>
   rw[ak,ak] at e1;injection e1 with e4 e5
   subst e2;rw[ak] at r1;rw[ak] at r1 r2;rw[ak] at e3;cases r1 with
   | cons q1 q2=>
    cases r2 with
    |cons q3 q4=>
     cases e3 with
     |cons q5 q6=>exact .cons ⟨e4.symm,q1,_,q5,q3⟩ (Gg ⟨e5,rfl,q6⟩ q2 q4)
theorem ZV(h:ma (P1 K H) xs kvs):∃vs,Yb kvs (xs.map λx=>.ref x.2.1) vs xs/\bc K H (xs.map λx=>.ref x.2.1) (kvs.map λp=>tH p.1)/\bc K H vs (kvs.map λp=>p.2):=by
 induction h with
 |nil=>exact⟨[],⟨rfl,rfl,.nil⟩,.nil,.nil⟩
 |cons h1 _ ih=>
  obtain⟨vs,⟨a,b,c⟩,r1,r2⟩:=ih;obtain⟨e1,e2,v,e3,e4⟩:=h1;exact⟨v::vs,⟨by rw[ak,ak,a,e1],rfl,.cons e3 c⟩,.cons e2 r1,.cons e4 r2⟩
theorem P1.mono(k:Kp H H')(h:P1 K H x p):P1 K H' x p:=let ⟨a,b,v,c,d⟩:=h;⟨a,b.mono k,v,c,d.mono k⟩
theorem IH(k:Kp H H')(h:ma (P1 K H) xs kvs):ma (P1 K H') xs kvs:=Paired.Xr h λ_ _ z=>z.mono k
theorem ZW(ok:@bc)(r:ma (P1 K H) xs kvs):∀x∈xs,(PM P w).is h x.1 x.2.1:=by
 induction r with
 |nil=>intro x hx;cases hx
 |cons h1 _ ih=>
  intro x hx;rcases List.mem_cons.mp hx with rfl |hx
  .obtain⟨e1,e2,_⟩:=h1;obtain⟨b,e3,e4,e5⟩:=Xo ok e2 (rfl:RelV (.ref _) (.ref _));cases e4;rw[e1];exact e5
  .exact ih x hx
theorem CL(ok:@bc)(p:MD a xs h)(r:ma (P1 K H) xs kvs):h.DictOfH (PM P w) a xs:=by
 obtain⟨z,y,o,es,ep,h1,h2,h3,h4,h5⟩:=p;exact⟨o,es,ep,h1,h2,h3,h4,ZW ok r,h5⟩
theorem Gi(z:xs.length<=ba)(y:@bQ)(d:h.DictOfH (PM P w) a xs):fY P w H h a (.ext (MD a xs)):=by
 obtain⟨o,es,ep,h1,h2,h3,h4,_,h5⟩:=d;refine⟨⟨z,y,o,es,ep,h1,h2,h3,h4,h5⟩,⟨o,h1⟩,?_⟩;rintro g1 g2 ⟨z,y,o,es,ep,q1,q⟩ k;exact⟨z,y,o,es,ep,k _ q1,q⟩
theorem Sd(r:ma (P1 K H) xs kvs)(k):(∃q v d,atKey xs k=some q/\tK kvs k=@U/\RelV v q.2/\@a5)\/(atKey xs k=none/\tK kvs k=none):=by
 induction r with
 |nil=>exact .inr @a_
 | @cons x p xs kvs h1 _ ih=>
  obtain⟨e1,e2,v,e3,e4⟩:=h1;by_cases e:x.1=k
  .left;refine⟨x.2,v,p.2,?_,?_,e3,e4⟩
   .unfold atKey;rw[cK (@bV)];rfl
   .unfold tK;rw[cK (by simpa using e1.symm.trans e)];rfl
  .have a1:atKey (x::xs) k=atKey xs k:=by unfold atKey;rw[cL (@bV)]
   have a2:tK (p::kvs) k=tK kvs k:=by unfold tK;rw[cL (by simpa using λz=>e (e1.trans z))]
   rw[a1,a2];exact ih
theorem WD(r:ma (P1 K H) xs kvs)(k):(kvs.any @bM)=(atKey xs k).isSome:=by
 induction r with
 |nil=>rfl
 | @cons x p xs kvs h1 _ ih=>
  rw[ni];by_cases e:x.1=k
  .have a1:(atKey (x::xs) k).isSome=true:=by unfold atKey;rw[cK (@bV)];rfl
   rw[a1];simp[h1.1 ▸ e]
  .have a1:atKey (x::xs) k=atKey xs k:=by unfold atKey;rw[cL (@bV)]
   have:¬ p.1=k:=λz=>e (h1.1.trans z);rw[a1,<-ih];simp[this]
theorem WC(r:ma (P1 K H) xs kvs)(rk:cm K H (.ref b) (tH k))(ru:@a4)(rd:@a5):ma (P1 K H) (KJ xs k b u) (O9 kvs k d):=by
 unfold KJ O9;rw[WD r k];split
 .rename_i hs;clear rk hs;induction r with
  |nil=>ext d
  |@cons x p xs kvs h1 _ ih=>
   rw[ak,ak];refine .cons ?_ ih;unfold putAt;obtain⟨e1,e2,e3⟩:=h1;by_cases e:x.1=k
   .rw[if_pos e,if_pos (e1.symm.trans e)];exact⟨e1,e2,v,ru,rd⟩
   .rw[if_neg e,if_neg (λz=>e (e1.trans z))];exact⟨e1,e2,e3⟩
 .exact Vm r ⟨rfl,rk,v,ru,rd⟩
theorem Nk(r:ma (P1 K H) xs kvs):xs.length=kvs.length:=jA r
theorem Hq{a:Addr}{xs:List (PK×@bn)}{kvs:@cd}(e:H a=some (.ext (MD a xs)))(r:ma (P1 K H) xs kvs):KG K H a (.tR kvs):=by
 obtain⟨vs,a1,a2,a3⟩:=ZV r;exact⟨xs,_,vs,e,a1,a2,a3⟩
theorem Ms(ab:lh K H G)(hg:G a=some (.tR kvs)):∃xs,H a=some (.ext (MD a xs))/\ma (P1 K H) xs kvs:=by
 obtain⟨xs,ks,vs,e,a1,a2,a3⟩:=ab a _ hg;exact⟨xs,e,Gg a1 a2 a3⟩
theorem Kp.ace{p:Addr}{o:HO}{φ:Heap->Prop}(hp:H p=some (.ext φ)):Kp H (upd H p o) :=
 ⟨λa ys e=>by rw[bH (by ext c;rw[hp] at e;cases e)];exact e,λa ob u e=>by rw[bH (by ext c;rw[hp] at e;cases e)];exact e⟩
theorem GJ(ok:@bc)(e:H a=some (.ext φ)):φ h:=(ok a _ e).1
end
section
variable {X:Cx} {elts:@az} {kk:Nat} {wZ apos jY pos:Pos} {o i k v:Expr} {to ti tk tv:gC}
theorem V3:U2 X "dict" tyP:=by
 intro pins s σ H G x d u I ab r rd h;cases rd with
 |ref l=>
  unfold tyP at h;dsimp only at h;split at h
  .rename_i kvs hg;obtain⟨xs,e,_⟩:=Ms ab hg;obtain⟨_,_,o,es,ep,h1,h2,_⟩:=GJ I.cx e;cases r;exact⟨⟨o,h1,h2.1⟩,λa z=>by cases z;exact⟨o,h1,h2.2.1⟩⟩
  .exact h.elim
 |qJ hq _ _ _=>
  obtain⟨_,_,o,es,ep,h1,h2,_⟩:=(I.cx _ _ hq).2.1;cases r;exact⟨⟨o,h1,h2.1⟩,λa z=>by cases z;exact⟨o,h1,h2.2.1⟩⟩
 |_=>exact bM h
theorem NY{pins:@s}{s:aB}{σ:L2.St}{H:Hp}{G:Gp}{a:Addr}{kvs:@cd}{ys:List (PK×@bn)}{pk:PK}{w w2:V}{u1 u2:Value}{d':D}{Q:DK}(hu:@bl)(I:@k)(ab:@aN)(pd:MD a ys s.heap)(r:ma (P1 X.K H) ys kvs)(F6:cm X.K H w (tH pk))(O3:RelV w u1)(RI:cm X.K H w2 d')(RM:RelV w2 u2)(q:Q ((tK kvs pk).getD d') G):
  wpAny @l X.A (call (.builtin "dict.get") [@V,u1,u2]) @bo X.xe s:=by
 have dd:=CL I.cx pd r;obtain⟨b,rfl,rfl,hb⟩:=Xo I.cx F6 O3;have hT:s.TypeIs @u "dict":=by obtain⟨o,es,ep,ho,hc,_⟩:=dd;exact⟨o,ho,hc.1⟩
 refine Cc nV hT MT (KY _ _ _) (meetsH_dict_get_default (PM X.prog X.w) a b pd.2.1 u2) ⟨IU @c,pk,ys,hb,dd,?_⟩;rcases Sd r pk with ⟨q1,v1,d1,h1,h2,h3,h4⟩ |⟨h1,h2⟩
 .rw[h1];rw[h2] at q;exact⟨v1,H,d1,G,@au,@ai,h3,h4,q⟩
 .rw[h1];rw[h2] at q;exact⟨w2,H,d',G,@au,@ai,RM,RI,q⟩
theorem S6 (hu:@bl):Ki X "dict.get" C3:=by
 intro pins s σ H G x d xs ds v us Q I ab rx rd QT Ga q;unfold C3 at q;split at q
 .rename_i a k d';obtain⟨kvs,pk,hg,rfl,q⟩:=q;cases rd;obtain⟨w,w2,rfl,F6,RI⟩:=Ga.two;obtain⟨u1,u2,rfl,O3,RM⟩:=vals2 QT;cases rx;obtain⟨ys,e,r⟩:=Ms ab hg;exact NY hu I ab (GJ I.cx e) r F6 O3 RI RM q
 .rename_i kvs k d';obtain⟨pk,rfl,q⟩:=q;obtain⟨w,w2,rfl,F6,RI⟩:=Ga.two;obtain⟨u1,u2,rfl,O3,RM⟩:=vals2 QT;cases rd with
  |qJ hq rel rk rv=>
   cases rx;exact NY hu I ab (I.cx _ _ hq).2.1 (Gg rel rk rv) F6 O3 RI RM q
 ext j
theorem XU{pins:@s}{s:aB}{σ:L2.St}{H:Hp}{G:Gp}{a:Addr}{kvs:@cd}{pk:PK}{y w:V}{u r:Value}{d:D}{Q:Unit->@af}(hu:@bl)(I:@k)(ab:@aN)(hg:G a=some (.tR kvs))(hz:kvs.length<SZ)(ry:RelV y u)(dy:cm X.K H y (tH pk))(rv:RelV w r)(dv:cm X.K H w d)
  (h:∀H' s',@ce->Mv X.K H G H' (dw G a (.tR (O9 kvs pk d)))->Q () s'):wpAny @l X.A (setItem @u u r) Q X.xe s:=by
 obtain⟨xs,e,rr⟩:=Ms ab hg;have pd:=GJ I.cx e;have dd:=CL I.cx pd rr;obtain⟨b,rfl,rfl,hb⟩:=Xo I.cx dy ry;have sz:ba=16777216:=c5;have hl:xs.length<ba:=by rw[Nk rr,sz];exact hz
 refine wpAny_setItem_heap (hsz:=@d) (IU @c) hb dd λh' A7 hs=>?_;have kp:Kp H (upd H a (.ext (MD a (KJ xs pk b r)))):=.ace e;have pr:=IH kp (WC rr dy rv dv);have he:∃q,h'.get? a=some q:=let ⟨q,_,_,hq,_⟩:=A7;⟨q,hq⟩
 have Bt:(KJ xs pk b r).length<=ba:=by
  unfold KJ;split
  .rw[au];lia
  .rw[aA];show xs.length+1<=_;lia
 exact h _ _ (sV I (by rw[e];exact gv) hs he (Gi Bt pd.2.1 A7)) (.put ab hg kp (Hq bV pr))
theorem Sq(hu:@bl)(ho:eU X o to)(hi:eU X i ti)
  (ha:autoParam (∀v,AE (.Subscript o i pos) X.env v=(do
   let ov ← uq [v] (eval o X.env)
   let iv ← uq [v,ov] (eval i X.env)
   standAt pos
   uq [v,ov,iv] (setItem ov iv v)
   release [v,ov,iv] [])) Ai._auto_1):Bf X (.Subscript o i pos) (Dq to ti):=by
 intro E pins s σ H τ G w d u Q hE I r rd h;rw[ha];refine ah (cW (jH ho hE I h λx H1 dx G1 ov s1 I1 m1 r1 j4 q1=>?_));refine ah (cW (jH hi hE I1 q1 λy H2 dy G2 iv s2 oI m2 r2 zS q2=>?_));refine ah (tV (ah (cW ?_)));have Kv:=@b5;have O6:=rd.mono (Kv.kp I.ab);have Eg:=I.st.mono (Kv.kp I.ab);have rx':=j4.mono (m2.kp I1.ab);unfold Ll at q2;split at q2
 .rename_i l;cases rx';cases r1;obtain⟨kvs,pk,hg,rfl,hz,q⟩:=q2;exact XU hu oI.inv oI.ab hg hz r2 zS r O6 λH4 s4 I4 m4=>wpAny_release ⟨σ,H4,τ,_,⟨I4,Eg.mono (m4.kp oI.ab),m4.ab⟩,Kv.trans m4,q⟩
 .exact q2.elim
theorem Ft    (h:Heap) (hb:dU<h.objs.size):fY P w H (h.push {cls:=@aZ,data:=.dict #[]}) h.objs.size (.ext (MD h.objs.size [])) :=
 Gi (cI _) (beq_eq_false_iff_ne.mpr (cO (bu hb))) ⟨_,#[],0,@aX,⟨rfl,rfl,rfl⟩,rfl,rfl,(λx hx=>absurd hx @f),cJ⟩
theorem WW:eU X (.Dict [] [] pos) Ql:=by
 ext i;have hn:=I.inv.cx.fresh (aH s.heap.objs.size);have I1:=I.inv.laid (a:=s.heap.objs.size) (o:=.ext (MD s.heap.objs.size [])) (h':=s.heap.push {cls:=@aZ,data:=.dict #[]}) (t':=s.toks) (λ_ _ q=>aJ _ q) @J (Ft s.heap I.inv.big);exact wpAny_Dict_empty ⟨@aE,_,.ref _,_,I1,.new I.ab hn (Hq bV .nil),rfl,.ref _,h _ (I.ab.free hn)⟩
theorem Sw(hu:@bl)(hk:eU X k tk)(hv:eU X v tv):eU X (.Dict [some k] [v] pos) (Og tk tv):=by
 ext i;have hn:=I.inv.cx.fresh (aH s.heap.objs.size);have I1:=I.inv.laid (a:=s.heap.objs.size) (o:=.ext (MD s.heap.objs.size [])) (h':=s.heap.push {cls:=@aZ,data:=.dict #[]}) (t':=s.toks) (λ_ _ q=>aJ _ q) @J (Ft s.heap I.inv.big);have mh:Mv X.K H G (upd H s.heap.objs.size (.ext (MD s.heap.objs.size []))) G:=.Kz I.ab hn;have I2:I2 X pins σ (upd H s.heap.objs.size (.ext (MD s.heap.objs.size []))) τ G {s with heap:=s.heap.push {cls:=@aZ,data:=.dict #[]},toks:=s.toks}:=⟨I1,I.st.mono (.new hn),mh.ab⟩;refine wpAny_Dict_any (by rfl) (by rfl) @f (show 1<=15 by decide) ?_;refine um (jH hk hE I2 h λx H1 dx G1 u s1 I3 m1 r1 j4 q1=>?_);refine jH hv hE I3 q1 λy H2 dy G2 w s2 I4 m2 r2 zS q2=>?_;obtain⟨pk,rfl,q2⟩:=q2;refine HP ?_;have g0:G s.heap.objs.size=none:=I.ab.free hn;obtain⟨p1,p2⟩:=m1.keep _ _ (bV (H:=H) (a:=s.heap.objs.size) (o:=.ext (MD s.heap.objs.size []))) g0;obtain⟨p3,p4⟩:=m2.keep _ _ p1 p2;have ab9:=j4.mono (m2.kp I3.ab);have pd:=GJ I4.inv.cx p3;have dd:=CL (K:=X.K) (kvs:=[]) I4.inv.cx pd .nil;obtain⟨b,rfl,rfl,hb⟩:=Xo I4.inv.cx ab9 r1;unfold storeAll;rw[List.forIn_cons];refine ah (ah (wpAny_dictSet_heap (hsz:=cI _) (PB @c) hb dd λh' A7 hs=>aE ?_));show wpAny _ _ (forIn [] PUnit.unit _) _ _ _;rw[List.forIn_nil];refine aE ?_;have he:∃q,@c6=some q:=let ⟨q,_,_,hq,_⟩:=A7;⟨q,hq⟩
 have es:KJ [] pk b w=[(pk,b,w)]:=rfl;rw[es] at A7;have kp:Kp H2 (upd H2 s.heap.objs.size (.ext (MD s.heap.objs.size [(pk,b,w)]))):=.ace p3;have I5:=sV (t':=s2.toks+(PM X.prog X.w).draws pk) I4.inv (by rw[p3];exact gv) hs he (Gi (by exact(show 1<=ba by decide)) pd.2.1 A7);have Kv:=(mh.trans m1).trans m2;refine⟨@aE,_,@aE,_,I5,?_,rfl,.ref _,q2 _ p4⟩;refine⟨λa o e n=>?_,λa n=>?_,λa g e=>?_⟩
 .have ne:a≠s.heap.objs.size:=eY e hn;obtain⟨k1,k2⟩:=Kv.keep a o e n;exact⟨by rw[bH ne];exact k1,by rw[cu ne];exact k2⟩
 .by_cases ha:a=s.heap.objs.size
  .rw[ha,bV];simp
  .rw[bH ha];exact Kv.jN a n
 .by_cases ha:a=s.heap.objs.size
  .subst ha;rw[ax] at e;cases e;exact Hq bV (IH kp (.cons ⟨rfl,ab9,y,r2,zS⟩ .nil))
  .rw[cu ha] at e;exact(Kv.ab a g e).mono kp (bH ha)
theorem Lx (ho:eU X o to) (vb:autoParam (zD o "items" X.env (eval o X.env)=eval o X.env) Ar._auto_1) (yU:autoParam ((apos.endLine == jY.line)=true) Ar._auto_1):
  Be X (.Tuple elts kk wZ) (.Call (.Attribute o "items" apos) [] [] jY) (sP to):=by
 intro E pins s σ H τ G R hE I h;refine zC vb yU (jH ho hE I h @cE);cases d with
 | qJ kvs=>
  have q1:R (kvs.map λp=>.tup [tH p.1,p.2]) @aC G1:=q1;cases j4 with
  |qJ hq rel rk rv=>
  rename_i a ob xs ks vs;have pr:=Gg rel rk rv;obtain⟨z,ns,o',es,ep,HF,ex,dd,hl,nd⟩:=(I1.inv.cx a _ hq).2.1;have eo:o'=ob:=by have:=(I1.inv.cx a _ hq).1;rw[HF] at this;exact aZ this
  subst eo;have t1:s1.TypeIs @u "dict":=⟨_,HF,ex.1⟩;have t2:∀b,fu a=.ref b->∃ob,@cK=some ob/\ob.dict=none:=λb z=>by cases z;exact⟨_,HF,ex.2.1⟩
  have l1:=congrArg dh hl;rw[au,gu] at l1;have l2:=Nk pr;have l3:vs.length=xs.length:=by have:=rel.2.2.length;ext p
  have ps:∀i (h:i<es.size),∃p,((xs.zip vs).map λz=>(V.ref z.1.2.1,z.2))[i]?=some p/\RelV p.1 es[i].key/\RelV p.2 es[i].val:=λi hi=>by
   have i2:i<xs.length:=@d
   have i3:i<vs.length:=@d
   have ee:es[i]=⟨hP xs[i].1,.ref xs[i].2.1,xs[i].2.2⟩:=by
    have:=congrArg (λl=>l[i]?) hl;simp only[bw,az i2] at this;simpa[hi] using this
   refine⟨(V.ref xs[i].2.1,vs[i]),by rw[bw,az (by rw[mY];lia),wX];rfl,?_⟩;rw[ee];refine⟨rfl,?_⟩;obtain⟨u,hu1,hu2⟩:=rel.2.2.get (az i3);rw[bw,az i2] at hu1;cases hu1;exact hu2
  have ZM:∀(i:Nat) (q:PK×D),kvs[i]?=some q->∃p,((xs.zip vs).map λz=>(V.ref z.1.2.1,z.2))[i]?=some p/\cm X.K H1 p.1 (tH q.1)/\cm X.K H1 p.2 q.2:=λi q e=>by
   have i1:i<kvs.length:=(List.getElem?_eq_some_iff.mp e).1;have i2:i<xs.length:=@d
   have i3:i<vs.length:=@d
   refine⟨(V.ref xs[i].2.1,vs[i]),by rw[bw,az (by rw[mY];lia),wX];rfl,?_,?_⟩
   .obtain⟨w,hw,su⟩:=rk.get (i:=i) (d:=tH q.1) (by rw[bw,e];rfl);rw[rel.2.1,bw,az i2] at hw;cases hw;exact su
   .obtain⟨w,hw,su⟩:=rv.get (i:=i) (d:=q.2) (by rw[bw,e];rfl);rw[az i3] at hw;cases hw;exact su
  have hlen:kvs.length=es.size:=@d
  cases r1;refine⟨"dict","dict.items",hU,g8,ux,t1,t2,nN rfl (Bl ?_)⟩;refine Cc g8 t1 tY (rX _) (yE a ns) ⟨t1,?_⟩;have I2:Inv X pins σ H1 {s1 with heap:=s1.heap.push {cls:=.type "dict_items",data:=.fields #[@V]}}:=I1.inv.kept (t':=s1.toks) λb o e=>aJ _ e;refine AY (s:={s1 with heap:=s1.heap.push {cls:=.type "dict_items",data:=.fields #[@V]}}) ⟨_,@aX,rfl,rfl⟩ (aJ _ (I1.inv.cx a _ hq).1) dd ?_;refine⟨_,[_],_,_,H1,G1,kvs.map (λp=>.tup [tH p.1,p.2]),_,rfl,I2.kept (t':=s1.toks) λb o e=>aJ _ e,m1,AH a _ _ es ep _ dd ps,⟨.none,.none,@aX⟩,λb hb=>?_,λi H2 G2 k ab _=>?_,q1⟩
  .have e:=List.mem_singleton.mp hb;subst e;exact I2.Ds @J (I2.cx.fresh @J)
  .have Bt:=k.ji _ _ _ hq;refine⟨λd hd=>?_,λhle=>⟨⟨_,Bt⟩,by rw[<-hlen];simpa using hle⟩⟩;rw[bw] at hd;cases Ky:kvs[i]? with
   |none=>rw[Ky] at hd;cases hd
   |some q=>
    rw[Ky] at hd;obtain⟨p,hp,rk,rp⟩:=ZM i q Ky;have hi:i<es.size:=by rw[<-hlen];exact(List.getElem?_eq_some_iff.mp Ky).1
    refine⟨⟨⟨_,Bt⟩,hi⟩,?_⟩;rintro x H3 ⟨T,p',ex,hT,e3,hy⟩;subst ex e3;rw[hp] at hy;cases hy;have ed:D.tup [tH q.1,q.2]=d:=by simpa using hd
    subst ed;exact⟨.tup bV (.cons ((rk.mono k).mono (.new hT)) (.cons ((rp.mono k).mono (.new hT)) .nil)),.Kz ab hT⟩
 |_=>ext e
theorem nS.drop{K:aw}(r:@b7)(k):nS K H (kv.filter λp=>decide (p.1≠k)) (kvs.filter λp=>!i7 p.1 (.tup (k.map fi))):=by
 induction r using nS.ind with
 |nil=>ext d
 |@cons j v d r t rd rs ih=>
  rw[ck,ck];simp only[vi];by_cases e:j=k
  .simp only[e,ne_eq,not_true_eq_false,decide_false,decide_true,aW,aj,if_false];exact ih
  .simp only[e,ne_eq,not_false_eq_true,decide_true,decide_false,bG,if_true];exact .cons rd ih
theorem KT.drop(r:KT H kvs xs)(k):KT H (kvs.filter λp=>decide (p.1≠k)) (Zn xs k):=by
 unfold Zn;induction r with
 |nil=>ext d
 |@cons p q ps qs h1 _ ih=>
  rw[ck,ck];by_cases e:p.1=k
  .have e2:q.1=k:=h1.1.symm.trans e;simp only[e,e2,ne_eq,not_true_eq_false,decide_false,aj,if_false];exact ih
  .have e2:¬ q.1=k:=λz=>e (h1.1.trans z);simp only[e,e2,ne_eq,not_false_eq_true,decide_true,if_true];exact .cons h1 ih
theorem S5 (hu:@bl):Ki X "dict.pop" C0:=by
 intro pins s σ H G x d xs ds v us Q I ab rx rd QT Ga q;unfold C0 at q;split at q
 .rename_i a k;obtain⟨kvs,d',hg,⟨hk,ha,hl⟩,q⟩:=q;cases rd;obtain⟨w,rfl,F6⟩:=Ga.one;obtain⟨u1,rfl,O3⟩:=vals1 QT;cases rx;obtain⟨H',I',m,h⟩:=GU I ab hg (by unfold iW;rw[gO];right;rw[hk,ha];rfl) F6;rcases h with ⟨kv,kk,hv,rs,rfl,rfl⟩ |⟨kv,kk,b,hv,rs,rfl,rfl,hb⟩
  .cases kk<;>simp[fi,mr] at hk
  .cases O3;obtain⟨z,hd,ys,rel,dd⟩:=UE I'.cx hv;rcases rs.look kk with ⟨v',d2,e1,e2,rr⟩ |⟨e1,e2⟩
   .rw[e2] at hl;cases hl;obtain⟨w',hw,su⟩:=AA.some_of (v:=v') (o:=(atKey ys kk).map (·.2)) (by rw[<-e1];exact rel.val kk);obtain⟨p,hp,nP⟩:=Option.map_eq_some_iff.mp hw;refine Se (knd:=jJ @ck) (oU @c) (z0 I'.cx hb) dd hp (by rw[<-jA rel];exact z) λh' A7 hs=>?_;rw[nP];have kp:Kp H' (upd H' a (.dT (kv.filter λp=>decide (p.1≠kk)))):=.putD hv (.inr @A);obtain⟨q',es,ep,hq,h2,h3,h4,_,h5⟩:=A7;have I5:=sV (t':=s.toks+(jJ @ck).draws kk) I' (by rw[hv];exact gv) hs ⟨q',hq⟩ (ob:=.dT (kv.filter λp=>decide (p.1≠kk))) ⟨aU (dM _ _) z,hd,_,(KT.drop rel kk).keeps λc ys ec=>by rw[bH (YG ec hv @bs)];exact ec,q',es,ep,hq,h2,h3,h4,h5⟩;exact⟨v',_,d',_,I5,m.trans (.put m.ab hg kp (.dt bV ((rs.drop kk).mono kp))),su,rr.mono kp,q⟩
   .rw[e2] at hl;cases hl
 ext j
end
end K2
end
section
namespace K2
open PySem PySem.W PySem.Spec PyProof.Rows PySem.Calls
structure At(K:Frag)(x:Str)(st:Stmt)(f:Addr)(fd:gc):Prop where
 a:nsIn K bR x=some (some (.ref f))
 F:L2.VI K x x st f fd
theorem Zd{K:Frag}{st:Stmt}(a:autoParam (nsIn K bR x=some (some (.ref f))) Aq._auto_1)(l:autoParam (K.lookup f=some ⟨oc,od,.func (fnOf x x (L2.jD st) (L2.fN st) (L2.cy st) .none kV doc pm an i8 ct),Nt⟩) Aq._auto_1)
  (c:autoParam (codeIn K i8 x=true) Aq._auto_1) (k:autoParam (keepIn K (.ref f)=true) Aq._auto_1):At K x st f (fnOf x x (L2.jD st) (L2.fN st) (L2.cy st) .none kV doc pm an i8 ct):=⟨a,L2.aa0 l c k⟩
structure Cal(P:bz)(w:World)(K:Frag)(mg:@aV)(base:Heap)(CX:L2.QE)(k:Nat)(f:Addr)(fd:gc)(x:Str)(ps:@v)(sp:L2.Sp):Prop where
 ok:L2.vI P w K mg base CX k f fd ps sp
 mg:mg x=some (.ref f)
 kp:keepIn K (.ref f)=true
 bi:L2.Binds K fd ps []
end K2
end
section
namespace K2
open PySem PySem.W PySem.Spec PyProof.Rows L2
structure ML where
 P:bz
 w:World
 K:Frag
 mg:@aV
 base:Heap
inductive Ee (V:ML):Prop
 |mk {h:Heap}:V.K.In h->h.Ns bR V.mg->Ee V
theorem Ee.mg{V:ML}(Y:Ee V)(a:nsIn V.K bR x=some (@W)):V.mg x=@W:=by obtain⟨X,G⟩:=Y;exact mg_of X G a
theorem Ee.no{V:ML}(Y:Ee V)(a:nsIn V.K bR x=some none):V.mg x=none:=by obtain⟨X,G⟩:=Y;exact mg_none_of X G a
inductive ClZ (V:ML) (CX:QE) (k:Nat) (x:Str) (ps:@v) (sp:Sp):Prop
 |mk {f:Addr} {fd:gc}:Cal V.P V.w V.K V.mg V.base CX k f fd x ps sp->ClZ V CX k x ps sp
abbrev mz(V:ML)(k:Nat)(x:Str)(ps:@v)(sp:iS):Prop:=ClZ V MN k x ps (Eh V.K sp)
abbrev CEZ(V:ML)(k:Nat)(x:Str)(ps:@v)(sp:iS):Prop:=ClZ V (QX V.P V.w) k x ps (EH V.K V.mg sp)
inductive l0 (K:Frag) (x:Str) (st:Stmt):Prop
 |mk {f:Addr} {fd:gc}:At K x st f fd->l0 K x st
theorem dH{K:Frag}{st:Stmt}{kV:Value}(a:autoParam (nsIn K bR x=some (some (.ref f))) Aq._auto_1)(l:autoParam (K.lookup f=some ⟨oc,od,.func (fnOf x x (L2.jD st) (L2.fN st) (L2.cy st) .none kV doc pm an i8 ct),Nt⟩) Aq._auto_1)
  (c:autoParam (codeIn K i8 x=true) Aq._auto_1) (k:autoParam (keepIn K (.ref f)=true) Aq._auto_1):l0 K x st:=⟨Zd a l c k⟩
theorem fo3{V:ML}{x:Str}{st:Stmt}{ps:@v}{k:Nat}{sp:iS}{rd:gq}(Nn:@v)(Y:Ee V)(F:l0 V.K x st)
  (hr:∀ds G Q,sp ds G Q @q->rd @q @F (@cD) G)
  (hb:∀{f:Addr} {i8:Value} {A:cZ} {outer:@bj} {s:aB} {H:Hp} {E:XK},kg k (A.deeper (Ca x @aH s.heap.objs.size f i8))->Nn.Nodup->pJ (xp MN V.P V.w V.K V.mg V.base Nn x @aH f i8 A outer s H E).nox (fN st) rd)
  (S:autoParam (kZ Nn ps @aH) Aua._auto_1)
  (bn:autoParam (∀(kV doc pm:Value) (an:Option Addr) (i8 ct:Value) (us:@C),us.length=ps.length->QI (fnOf x x (jD st) (fN st) @aH .none kV doc pm an i8 ct) ⟨us,[]⟩=pure (ps.zip us)) Aub._auto_1)
  (len:autoParam (∀ds G Q E,sp ds G Q E->@c2) Auc._auto_1):mz V (k+1) x ps sp:=by
 obtain⟨z⟩:=F;exact⟨⟨N1 z.F S len hr λ_ _ _ _ _ _ r=>hb r S.nd,Y.mg z.a,z.F.kp,z.F.binds bn⟩⟩
theorem foE{V:ML}{x:Str}{st:Stmt}{ps:@v}{k:Nat}{sp:iS}{rd:gq}(Nn:@v)(Y:Ee V)(F:l0 V.K x st)
  (hr:∀ds G Q E,sp ds G Q E->rd E @F (@cD) G)
  (hb:∀{f:Addr} {i8:Value} {A:cZ} {outer:@bj} {s:aB} {H:Hp} {E:XK},kg k (A.deeper (Ca x @aH s.heap.objs.size f i8))->Nn.Nodup->pJ (xp (QX V.P V.w) V.P V.w V.K V.mg V.base Nn x @aH f i8 A outer s H E) (fN st) rd)
  (S:autoParam (kZ Nn ps @aH) Aua._auto_1)
  (bn:autoParam (∀(kV doc pm:Value) (an:Option Addr) (i8 ct:Value) (us:@C),us.length=ps.length->QI (fnOf x x (jD st) (fN st) @aH .none kV doc pm an i8 ct) ⟨us,[]⟩=pure (ps.zip us)) Aub._auto_1)
  (len:autoParam (∀ds G Q E,sp ds G Q E->@c2) Auc._auto_1):CEZ V (k+1) x ps sp:=by
 obtain⟨z⟩:=F;exact⟨⟨XJ z.F S len hr λ_ _ _ _ _ _ r=>hb r S.nd,Y.mg z.a,z.F.kp,z.F.binds bn⟩⟩
structure XCK(K:Frag)(x:Str)(C:Addr):Prop where
 ns:nsIn K bR x=some (some @X)
 ex:excIn K C [@cL,.type "Exception",@ch,.type "object"] "ValueError.__new__"=true
 xi:OB K C
theorem oY {K:Frag}   (ns:autoParam (nsIn K bR x=some (some @X)) Aq._auto_1) (ex:autoParam (excIn K C [@cL,.type "Exception",@ch,.type "object"] "ValueError.__new__"=true) Ax._auto_1)
  (x0:autoParam (Q6 K @X "__getattribute__"=some (some (.builtin "BaseException.__getattribute__"))) Af._auto_1) (x1:autoParam (Q6 K @X "__getattr__"=some none) Af._auto_1) (x2:autoParam (Q6 K @X "__class__"=some (some @b_)) Af._auto_1)
  (x3:autoParam (specialIn K @b_ "__get__"=some (some (@c1))) Af._auto_1) (x4:autoParam (takesIn K @b_=some true) Af._auto_1) (x5:autoParam (mroIn K C (.type "object")=some true) Af._auto_1) (x6:autoParam (mroIn K C (@ch)=some true) Af._auto_1) (x7:autoParam ((clsIn K C).isSome=true) Af._auto_1):XCK K x C:=⟨ns,ex,⟨x0,x1,x2,x3,x4,x5,x6,x7⟩⟩
theorem RG{K:Frag}{D:Value}(l:autoParam (K.lookup C=some ⟨oc,od,.cls cd,sl⟩) Aq._auto_1)(m:autoParam (cd.mro.contains D=true) Ae._auto_1):subIn K C D=true:=by unfold subIn;rw[l];exact m
abbrev Kn0 (K:Frag) (C:Addr):Prop:=kitOne K (.type "NoneType") @X=some false
noncomputable def Zp(sc:Scope)(x:Str):Bool:=match @cb with
 |some .local=>true
 |some .cell=>true
 |some .free=>true
 |_=>false
noncomputable def Xw(sc:Scope)(x:Str):Bool:=match @cb with
 |some .local=>true
 |some .cell=>true
 |_=>false
theorem Zo(h:Zp sc x=true):Vis sc x:=by
 unfold Zp at h;split at h
 .exact .inl (by assumption)
 .exact .inr (.inl (by assumption))
 .exact .inr (.inr (by assumption))
 .cases h
theorem Tj(h:Xw sc x=true):Loc sc x:=by
 unfold Xw at h;split at h
 .exact .inl (by assumption)
 .exact .inr (by assumption)
 .cases h
theorem Qd(h:autoParam (X.env.kindOf x=some .globalImplicit) Ac._auto_1):Gl X x:=h
noncomputable def okN (x:Str):Bool:=!(x == ("__debug__":Str))&&!(x == ("__classdict__":Str))
theorem okN.d  (h:okN x=true):(x == ("__debug__":Str))=false:=by unfold okN at h;simp only[aL,oN] at h;exact h.1
theorem okN.c  (h:okN x=true):(x == ("__classdict__":Str))=false:=by unfold okN at h;simp only[aL,oN] at h;exact h.2
section
variable {X:Cx} {x:Str} {i:Nat} {pos pos':Pos} {e:Expr} {te:gC} {es:@az} {t:Az}
theorem pvK(hN:autoParam (X.N[i]?=@aa) Ac._auto_1)(hv:autoParam (Zp X.env.scope x=true) Ac._auto_1)(hd:autoParam (okN x=true) Ac._auto_1):eU X (.Name x pos) (ar i):=WN hN (Zo hv) (okN.d hd) (okN.c hd)
theorem pgK(hN:X.N.Nodup)(hi:autoParam (X.N[i]?=@aa) Ac._auto_1)(hx:autoParam (Xw X.env.scope x=true) Ac._auto_1)(hf:autoParam ((X.fn x||@cC == @a1)=true) Ac._auto_1):Bf X (.Name x pos) (aF i) :=
 Sr hN hi (Tj hx) (by rcases(gO _ _).mp hf with h |h;exact .inl h;exact .inr (eq_of_beq h))
theorem psK(hN:X.N.Nodup)(he:eU X e te)(hi:autoParam (X.N[i]?=@aa) Ac._auto_1)(hx:autoParam (Xw X.env.scope x=true) Ac._auto_1)(hs:autoParam (ui e (some (.Name x pos')) pos.line X.env=pure false) Ac._auto_1)(hf:autoParam ((X.fn x||@cC == @a1)=true) Ac._auto_1):
  xA X (.Assign [.Name x pos'] e pos) (bh te (aF i)):=Ww hN hi (Tj hx) he hs (by rcases(gO _ _).mp hf with h |h;exact .inl h;exact .inr (eq_of_beq h))
theorem paK(ha:eU X e te)(hr:wO X es t)(hs:@cV):wO X (e::es) (aq te t):=rg ha hr hs
end
def Ox(K:Frag)(l:@v):Prop:=∀x∈l,nsIn K bR x=some none
theorem Xn{K:Frag}:Ox K []:=λx h=>@aS
theorem SU{K:Frag}(t:Ox K l)(h:autoParam (nsIn K bR x=some none) Aq._auto_1):Ox K (x::l):=λy hy=>by
 rcases List.mem_cons.mp hy with rfl |hy
 .exact h
 .exact t y hy
structure NmZ(X:Cx)(N:@v)(sc:Scope):Prop where
 n:X.N=N
 s:X.env.scope=sc
noncomputable def nmE:Expr->Str
 |.Name x _=>x
 |_=>""
def Oj(tg:Expr)(XN:@v)(fr:@aT):@v:=(match tg with
 |.Tuple es _ _=>es.map nmE
 |e=>[nmE e])++fr.map λi=>XN.getD i ""
noncomputable abbrev VX(X:Cx):ML:=⟨X.prog,X.w,X.K,X.mg,X.base⟩
section
variable {X:Cx} {l XN:@v} {x:Str} {sc scope:Scope} {tg elt iter:Expr} {ifs:@az} {pos:Pos} {m:Nat} {fr:@aT} {wi:KA} {g:BB} {c:Option Bc} {te:gC}
theorem noX(Y:Ee (VX X))(N:Ox X.K l)(h:autoParam (x∈l) Ad._auto_1):X.mg x=none:=Y.no (N x h)
theorem Z6(hx:NmZ X XN sc)(hi:Be X tg iter wi)(hg:(Oj tg XN fr).Nodup->∀C s H fp,Bf (dG X (Oj tg XN fr) scope C s H fp) tg g)(Ua:∀C s H fp,Yc (dG X (Oj tg XN fr) scope C s H fp) ifs c)(he:∀C s H fp,eU (dG X (Oj tg XN fr) scope C s H fp) elt te)
  (hn:autoParam ((Oj tg XN fr).Nodup) Ak._auto_1) (hb:autoParam (v3 (Oj tg XN fr) scope m fr sc XN=true) Ak._auto_1) (hc:autoParam (@bv) Ac._auto_1) (hs:autoParam (∀x,iO iter X.env x=pure x) Aud._auto_1):eU X @ci (e7 m fr wi g c te) :=
 SA (Oj tg XN fr) hi (hg hn) Ua he hx.s hx.n hb hc hs
theorem ZS(hx:NmZ X XN sc)(hN:X.N.Nodup)(hi:Be X tg iter wi)(hg:(Oj tg XN fr).Nodup->∀C s H fp,Bf (dG X (Oj tg XN fr) scope C s H fp) tg g)(Ua:∀C s H fp,Yc (dG X (Oj tg XN fr) scope C s H fp) ifs c)(he:∀C s H fp,eU (dG X (Oj tg XN fr) scope C s H fp) elt te)
  (hyi:autoParam (X.N[i]?=some y) Ac._auto_1) (hy:autoParam (X.env.scope.names.lookup y=@a1) Ac._auto_1) (hn:autoParam ((Oj tg XN fr).Nodup) Ak._auto_1) (hb:autoParam (v3 (Oj tg XN fr) scope m fr sc XN=true) Ak._auto_1) (hc:autoParam (@bv) Ac._auto_1)
  (hsw:autoParam (ui @ci (some (@aM)) Il.line X.env=pure true) Ar._auto_1) (hs:autoParam (∀x,iO iter X.env x=pure x) Aud._auto_1):
  xA X (.Assign [@aM] @ci Il) (bh (e7 m fr wi g c te) (aF i)) :=
 Sa (Oj tg XN fr) hN hyi hy hi (hg hn) Ua he hx.s hx.n hb hc hsw hs
end
def CsZ(K:Frag)(x:Str)(i:Int):Prop:=∃t:Tok,nsIn K bR x=some (some (.int i t))
theorem GZ{K:Frag}(h:autoParam (nsIn K bR x=some (some (.int i t))) Aq._auto_1):CsZ K x i:=⟨t,h⟩
def GdZ(K:Frag)(x:Str)(l:@ae):Prop:=∃a:Addr,nsIn K bR x=some (some @u)/\@bQ/\JS K a l=true
theorem aaY{K:Frag}(h:autoParam (nsIn K bR x=some (some @u)) Aq._auto_1)(h1:autoParam (@bQ) Ae._auto_1)(h2:autoParam (JS K a l=true) Af._auto_1):GdZ K x l:=⟨a,h,h1,h2⟩
section
variable {X:Cx} {x:Str} {p px pos:Pos}
theorem W0  (Y:Ee (VX X)) (c:CsZ X.K x i) (hg:autoParam (Gl X x) QY._auto_1) (hd:@bh):eU X (.Name x p) (dC (@w)):=by
 obtain⟨t,h⟩:=c;exact WZ hg (Y.mg h) hd
theorem WY   (Y:Ee (VX X)) (N:Ox X.K l) (c:GdZ X.K x kv) (h:autoParam (("dict":Str)∈l) Ad._auto_1) (nd:autoParam ((kv.map @n).Nodup) Ad._auto_1) (hz:autoParam (kv.length<=1000) Ad._auto_1) (hg:autoParam (Gl X "dict") QY._auto_1) (hg2:autoParam (Gl X x) QY._auto_1) (rJ:@bh)
  (hs:autoParam (a8 [.Name x px] X.env=[(false,eval (.Name x px) X.env)]) Ac._auto_1):eU X (.Call (.Name "dict" p) [.Name x px] [] pos) (Ba kv):=by
 obtain⟨a,h1,h2,h3⟩:=c;exact Pt hg (Y.no (N _ h)) hg2 (Y.mg h1) h2 h3 nd hz rJ hs
end
section
variable {X:Cx} {e:Expr} {es:@az} {t:Az} {pos p:Pos} {x:Str} {k n:Nat} {ps:@v} {sp:iS}
theorem afa (c:CEZ (VX X) k x ps sp) (hr:kg n X.A) (ha:wO X (e::es) t) (hk:autoParam (k<=n) An._auto_1) (hg:autoParam (Gl X x) QY._auto_1) (rJ:@bh) (he:@cV) (rV:autoParam ((jb pos (@be)).any @n=false) Ac._auto_1):
  eU X @cm (qM sp t):=by
 obtain⟨c⟩:=c;exact Pw c.ok (hr.mono hk) hg c.mg c.kp c.bi ha rJ he rV
theorem afc(c:mz (VX X) k x ps sp)(hr:kg n X.A)(ha:wO X (e::es) t)(hk:autoParam (Nat.ble k n=true) Ac._auto_1)(hg:autoParam (Gl X x) QY._auto_1)(rJ:autoParam (okN x=true) Ac._auto_1)(he:@cV)(rV:autoParam ((jb pos (@be)).any @n=false) Ac._auto_1):
  eU X @cm (aR sp t):=by
 obtain⟨c⟩:=c;exact SD c.ok (hr.mono (pR hk)) hg c.mg c.kp c.bi ha (okN.d rJ) he rV
end
def XcZ(K:Frag)(x:Str):Prop:=∃C:Addr,XCK K x C
theorem Ri{K:Frag}(h:autoParam (XCK K x C) Auf._auto_1):XcZ K x:=⟨C,h⟩
theorem Gr{p:Str->Prop}:∀c,([]:@v).contains c=true->p c:=λc h=>@aS
theorem mem_cons{p:Str->Prop}(t:∀c,l.contains c=true->p c)(h:p x):∀c,(x::l).contains c=true->p c:=UN h t
def CtZ(K:Frag)(cn:Str)(cat:@v):Prop:=∃D:Addr,XCK K cn D/\∀c,cat.contains c=true->∃C:Addr,XCK K c C/\subIn K C (.ref D)=true
def IoZ(K:Frag)(y:Str)(all sub:@v):Prop:=∃C:Addr,nsIn K bR y=some (some @X)/\Kn0 K C/\∀c,all.contains c=true->∃C':Addr,nsIn K bR c=some (some (.ref C'))/\kitOne K (.ref C') @X=some (sub.contains c)/\OB K C'
section
variable {X:Cx} {x cn n y:Str} {ps:@v} {k i j m:Nat} {sp:iS} {cat all sub l:@v} {e e0 a:Expr} {es:@az} {p np pos jY ep Eo tp py:Pos} {Vx:Stmt} {AI:List Stmt} {t:Az} {th:gq} {ta:gC}
theorem ZT (Y:Ee (VX X)) (z:XcZ X.K x) (ha:wO X (e0::es) t) (hg:autoParam (Gl X x) QY._auto_1) (hc:autoParam (@bv) Ac._auto_1) (rJ:@bh) (he:autoParam (a8 (e0::es) X.env=(false,eval e0 X.env)::@be) Ac._auto_1) (rV:autoParam ((jb jY (@be)).any @n=false) Ac._auto_1):
  xA X (.Raise (some (.Call (.Name x np) (e0::es) [] jY)) none pos) (sW x t):=by
 obtain⟨C,z⟩:=z;exact Pe hg (Y.mg z.ns) z.ex PySem.F.excBase_ValueError hc ha rJ he rV
theorem CtZ.el{q:Prop}(Y:Ee (VX X))(z:CtZ X.K cn cat)(hN:X.N.Nodup)(h1:X.N[i]?=some n)(h2:X.env.scope.names.lookup n=@a1)(h3:Gl X cn)(k:∀D,Clause X i n cn D cat->q):q:=by
 obtain⟨D,d,z⟩:=z;exact k D ⟨hN,h1,h2,h3,Y.mg d.ns,⟨_,_,d.ex,rfl⟩,λc hc=>let ⟨C,x,s⟩:=z c hc;⟨C,_,_,x.ns,x.ex,s⟩⟩
theorem ZR(Y:Ee (VX X))(z:CtZ X.K cn cat)(hN:X.N.Nodup)(c:CEZ (VX X) k x ps sp)(hr:kg m X.A)(ha:∀EX,wO (X.wY EX) (e::es) t)(hth:∀v,pJ (marked X v) (Vx::AI) th)(hk:autoParam (k<=m) An._auto_1)(hg:autoParam (Gl X x) QY._auto_1)(h1:autoParam (X.N[i]?=some n) Ac._auto_1)(h2:autoParam (X.env.scope.names.lookup n=@a1) Ac._auto_1)(h3:autoParam (Gl X cn) QY._auto_1)(A0:autoParam (Vj X) Aug._auto_1)
  (rJ:@bh) (hdD:autoParam ((cn == ("__debug__":Str))=false) Ad._auto_1) (he:@cV) (rV:autoParam ((jb pos (@be)).any @n=false) Ac._auto_1)
  (hs:autoParam (ui @cm none ep.line X.env=pure false) Ac._auto_1):
  xA X (.Try [.Expr @cm ep] [.ExceptHandler (some (.Name cn np)) (some n) (Vx::AI) Eo] [] [] tp) (Fu sp t i cat th):=by
 obtain⟨c⟩:=c;exact z.el Y hN h1 h2 h3 λD L=>Wv A0 L c.ok (hr.mono hk) hg c.mg c.kp c.bi ha hth rJ hdD he rV hs
theorem WU (Y:Ee (VX X)) (N:Ox X.K l) (z:IoZ X.K y all sub) (ha:@ba) (h:autoParam (("isinstance":Str)∈l) Ad._auto_1) (hg:autoParam (Gl X "isinstance") QY._auto_1) (hgC:autoParam (Gl X y) QY._auto_1) (rJ:autoParam ((y == ("__debug__":Str))=false) Ad._auto_1)
  (he:autoParam (a8 [a,@aM] X.env=@cw::a8 [@aM] X.env) Ac._auto_1) (rV:autoParam ((jb pos (a8 [Expr.Name y py] X.env)).any @n=false) Ac._auto_1) (Qa:autoParam (a8 [@aM] X.env=[(false,eval (@aM) X.env)]) Ac._auto_1):
  eU X (.Call (.Name "isinstance" p) [a,@aM] [] pos) (A9 all sub ta):=by
 obtain⟨C,h1,h2,h3⟩:=z;exact Sv PySem.F.attrBase_ValueError hg (Y.no (N _ h)) hgC (Y.mg h1) h2 h3 ha rJ he rV Qa
end
section
variable {X:Cx} {x name id T:_root_.String} {l:@v} {y:Str} {a b o e c:Expr} {es:@az} {ta tb to te:gC} {t:Az} {p pos apos jY wZ:Pos} {r:@e->Gp->DK->Prop} {tg iter:Expr} {body:List Stmt} {wi:KA} {g:BB} {u:gq}
theorem pbK (hc:pL X (.builtin id) r) (hv:eM y=some (.builtin id)) (Y:Ee (VX X)) (N:Ox X.K l) (ha:wO X (e::es) t) (h:autoParam (y∈l) Ad._auto_1) (hg:autoParam (Gl X y) QY._auto_1) (hn:autoParam (y≠"__name__") Ad._auto_1) (rJ:autoParam (okN y=true) Ac._auto_1)
  (he:@cV) (rV:autoParam ((jb pos (@be)).any @n=false) Ac._auto_1):eU X (.Call (.Name y p) (e::es) [] pos) (jw r t):=Py hc hg (Y.no (N _ h)) hv ha hn (okN.d rJ) he rV
theorem ptK (hc:pL X (.type T) r) (hv:eM y=some (.type T)) (Y:Ee (VX X)) (N:Ox X.K l) (ha:wO X (e::es) t) (h:autoParam (y∈l) Ad._auto_1) (hg:autoParam (Gl X y) QY._auto_1) (hn:autoParam (y≠"__name__") Ad._auto_1) (rJ:autoParam (okN y=true) Ac._auto_1)
  (he:@cV) (rV:autoParam ((jb pos (@be)).any @n=false) Ac._auto_1):eU X (.Call (.Name y p) (e::es) [] pos) (jw r t):=Ly hc hg (Y.no (N _ h)) hv ha hn (okN.d rJ) he rV
theorem pmK {name:Str}  {r:D->@e->Gp->DK->Prop} (pa:PlainAttrs T) (slot:Slot T name id) (hty:typeOf (.builtin id)=pure (.type "method_descriptor")) (ht:U2 X T ty) (hm:Ki X id r) (ho:eU X o to) (ha:wO X (e::es) t)
  (vb:autoParam (zD o name X.env (eval o X.env)=eval o X.env) Ac._auto_1)
  (aaO:autoParam (((jb jY (a8 (e::es) X.env)).all (λx=>!x.1)&&(backToKw jY (keywordEach [] X.env)).all (λx=>x.1.isSome)
   && decide ((e::es).length+([]:List Keyword).length+(if([]:List Keyword).isEmpty then 0 else 1)<30))=true) Ac._auto_1)
  (yU:autoParam ((apos.endLine == jY.line)=true) Ac._auto_1) (hs:@cV) (Dl:autoParam ((jb jY (@be)).any @n=false) Ac._auto_1):
  eU X (.Call (.Attribute o name apos) (e::es) [] jY) (mi ty r to t):=Z7 pa slot hty ht hm ho ha vb aaO yU hs Dl
theorem pfK(hp:PassesOwn @l X.A X.env X.xe)(hi:Be X tg iter wi)(hg:Bf X tg g)(hb:pJ X body u)(hc:autoParam (@bv) Ac._auto_1)(hs:autoParam (∀x,iO iter X.env x=pure x) Aud._auto_1):xA X (.For tg iter body [] pos) (di wi g u):=Wz hp hc hi hg hb hs
theorem pxK(he:eU X e te)(hs:autoParam (ui e none pos.line X.env=pure false) Ac._auto_1):xA X (.Expr e pos) (fK te):=Sb he hs
theorem pqK(he:eU X e te)(hg:Bf X tg g)(hs:autoParam (swapsWithSole [tg] e pos.line X.env=pure false) Ac._auto_1)(hw:autoParam (swappedStores [tg] e X.env=pure none) Ac._auto_1)(h1:autoParam ((kN [tg] X.env).map (·.2)=[AE tg X.env]) Ac._auto_1):xA X (.Assign [tg] e pos) (bh te g):=WA he hg hs hw h1
theorem pzK(ha:@ba)(he:autoParam (∀whole,isTrue a X.env whole=(do let v ← whole;standAt a.pos;uq [v] (truthy v))) Aud._auto_1):HM X a (fI ta):=Pa ha he
theorem pyK(hu:@bl)(ho:eU X o to)(hi:eU X i ti)
  (ha:autoParam (∀v,AE (.Subscript o i pos) X.env v=(do
   let ov ← uq [v] (eval o X.env)
   let iv ← uq [v,ov] (eval i X.env)
   standAt pos
   uq [v,ov,iv] (setItem ov iv v)
   release [v,ov,iv] [])) Aud._auto_1):Bf X (.Subscript o i pos) (iH to ti):=WK hu ho hi ha
end
def Yj:@v->(@C->Prop)->Prop
 |[],P=>P []
 |_::r,P=>∀a,Yj r λus=>P (a::us)
theorem Hl:∀(ps:@v) {P:@C->Prop},Yj ps P->∀us:@C,us.length=ps.length->P us
 |[],_,h,[],_=>h
 |_::ps,_,h,a::us,e=>Hl ps (h a) us (Nat.succ.inj e)
abbrev cxZ(V:ML)(Nn:@v)(x:Str)(sc:Scope)(f:Addr)(i8:Value)(A:cZ)(outer:@bj)(s:aB)(H:Hp)(E:XK):Cx:=(xp MN V.P V.w V.K V.mg V.base Nn x sc f i8 A outer s H E).nox
abbrev ceZ(V:ML)(Nn:@v)(x:Str)(sc:Scope)(f:Addr)(i8:Value)(A:cZ)(outer:@bj)(s:aB)(H:Hp)(E:XK):Cx:=xp (QX V.P V.w) V.P V.w V.K V.mg V.base Nn x sc f i8 A outer s H E
abbrev BdZ(V:ML)(l:@v)(k:Nat)(Nn:@v)(x:Str)(sc:Scope)(b:List Stmt)(rd:gq):Prop:=∀{f:Addr} {i8:Value} {A:cZ} {outer:@bj} {s:aB} {H:Hp} {E:XK},kg k (cxZ V Nn x sc f i8 A outer s H E).A->(cxZ V Nn x sc f i8 A outer s H E).A.units+64<cLine->(cxZ V Nn x sc f i8 A outer s H E).A.units<cLine->(cxZ V Nn x sc f i8 A outer s H E).N.Nodup->NmZ (cxZ V Nn x sc f i8 A outer s H E) Nn sc->Ee (VX (cxZ V Nn x sc f i8 A outer s H E))->Ox V.K l->pJ (cxZ V Nn x sc f i8 A outer s H E) b rd
abbrev BeZ(V:ML)(l:@v)(k:Nat)(Nn:@v)(x:Str)(sc:Scope)(b:List Stmt)(rd:gq):Prop:=∀{f:Addr} {i8:Value} {A:cZ} {outer:@bj} {s:aB} {H:Hp} {E:XK},kg k (ceZ V Nn x sc f i8 A outer s H E).A->(ceZ V Nn x sc f i8 A outer s H E).A.units+64<cLine->(ceZ V Nn x sc f i8 A outer s H E).A.units<cLine->(ceZ V Nn x sc f i8 A outer s H E).N.Nodup->NmZ (ceZ V Nn x sc f i8 A outer s H E) Nn sc->Ee (VX (ceZ V Nn x sc f i8 A outer s H E))->Ox V.K l->pJ (ceZ V Nn x sc f i8 A outer s H E) b rd
section
variable {V:ML} {x:Str} {st:Stmt} {ps l:@v} {k:Nat} {sp:iS} {rd:gq}
theorem nJ(Nn:@v)(Y:Ee V)(N:Ox V.K l)(F:l0 V.K x st)(hr:∀ds G Q,sp ds G Q @q->rd @q @F (@cD) G)(hb:BdZ V l k Nn x @aH (fN st) rd)
  (S:autoParam (kZ Nn ps @aH) Aua._auto_1)
  (bn:autoParam (∀(kV doc pm:Value) (an:Option Addr) (i8 ct:Value),Yj ps λus=>QI (fnOf x x (jD st) (fN st) @aH .none kV doc pm an i8 ct) ⟨us,[]⟩=pure (ps.zip us)) Auh._auto_1)
  (len:autoParam (∀ds G Q E,sp ds G Q E->@c2) Auc._auto_1):mz V (k+1) x ps sp :=
 fo3 Nn Y F hr (λ{f i8 A outer s H E} r nd=>hb r r.units r.K8 nd @a_ Y N) S (λa b c d e f us hl=>Hl ps (bn a b c d e f) us hl) len
theorem aa1(Nn:@v)(Y:Ee V)(N:Ox V.K l)(F:l0 V.K x st)(hr:∀ds G Q E,sp ds G Q E->rd E @F (@cD) G)(hb:BeZ V l k Nn x @aH (fN st) rd)
  (S:autoParam (kZ Nn ps @aH) Aua._auto_1)
  (bn:autoParam (∀(kV doc pm:Value) (an:Option Addr) (i8 ct:Value),Yj ps λus=>QI (fnOf x x (jD st) (fN st) @aH .none kV doc pm an i8 ct) ⟨us,[]⟩=pure (ps.zip us)) Auh._auto_1)
  (len:autoParam (∀ds G Q E,sp ds G Q E->@c2) Auc._auto_1):CEZ V (k+1) x ps sp :=
 foE Nn Y F hr (λ{f i8 A outer s H E} r nd=>hb r r.units r.K8 nd @a_ Y N) S (λa b c d e f us hl=>Hl ps (bn a b c d e f) us hl) len
theorem agC{f:Addr}{fd:gc}{Nn:@v}(S:kZ Nn ps @aH)(Y:Ee V)(N:Ox V.K l)(F:VI V.K x x st f fd)(hr:∀ds G Q,sp ds G Q @q->rd @q @F (@cD) G)(hb:BdZ V l k Nn x @aH (fN st) rd)
  (len:autoParam (∀ds G Q E,sp ds G Q E->@c2) Auc._auto_1):vI V.P V.w V.K V.mg V.base MN (k+1) f fd ps (Eh V.K sp) :=
 N1 F S len hr λi8 A outer s H E r=>hb r r.units r.K8 S.nd @a_ Y N
end
section
variable {X:Cx} {e:Expr} {es:@az} {t:Az} {pos p:Pos} {x:Str} {k n:Nat} {ps:@v} {sp:iS}
theorem afb (c:mz (VX X) k x ps sp) (hr:kg n X.A) (ha:wO X (e::es) t) (hk:autoParam (k<=n) Ad._auto_1) (hg:autoParam (Gl X x) Ar._auto_1) (rJ:@bh) (he:@cJ) (rV:@cZ):
  eU X @cm (vm sp t):=by
 obtain⟨c⟩:=c;exact Px c.ok (hr.mono hk) hg c.mg c.kp c.bi ha rJ he rV
end
end K2
end
section
set_option maxHeartbeats 1000000
namespace K2
namespace J
section
variable {α:Type} [@Q]
def Iv(f:α->α):Prop:=∀e,f (f e)=e
noncomputable def jn(f:α->α)(x y:α):α->α:=λe=>if e=x\/e=y then e else if e=f x then f y else if e=f y then f x else f e
noncomputable def cl(f:α->α)(x y:α):Nat:=if f x=y then 1 else 0
theorem PU{y:α}:jn f x y x=x:=if_pos (@ac)
theorem PT{y:α}:jn f x y y=y:=if_pos (.inr rfl)
theorem qo{y:α}:jn f x y=jn f y x:=by
 funext e;refine ite_congr (propext or_comm) (λ_=>rfl) λ_=>?_;by_cases a:e=f x
 .by_cases b:e=f y
  .rw[if_pos a,if_pos b,<-a,<-b]
  .rw[if_pos a,if_neg b,if_pos a]
 .rw[if_neg a,if_neg a]
theorem jv1(h:Iv f){y:α}(a:z≠x)(b:z≠y)(c:f z≠x)(d:f z≠y):jn f x y z=f z:=by
 unfold jn;rw[if_neg (not_or.2 ⟨a,b⟩),if_neg λe=>c (by rw[e,h]),if_neg λe=>d (by rw[e,h])]
theorem jv2(h:Iv f){y:α}(a:z≠x)(b:z≠y)(c:f z=x):jn f x y z=f y:=by
 unfold jn;rw[if_neg (not_or.2 ⟨a,b⟩),if_pos (by rw[<-c,h])]
theorem Jp(h:Iv f){y:α}(hx:f x≠x)(hy:f y≠y)(hxy:x≠y):Iv (jn f x y):=by
 have K:∀{x y e},f y≠y->e≠x->e≠y->f e=x->jn f x y (jn f x y e)=e:=λ{x y e} hy a b c=>by
  rw[jv2 h a b c,qo,jv2 h hy (λq=>b (by rw[<-h e,c,<-q,h])) (h y),<-c,h]
 intro e;by_cases a:e=x
 .rw[a,PU,PU]
 by_cases b:e=y
 .rw[b,PT,PT]
 by_cases c:f e=x
 .exact K hy a b c
 by_cases d:f e=y
 .rw[qo];exact K hx b a d
 rw[jv1 h a b c d,jv1 h c d (by rw[h];exact a) (by rw[h];exact b),h]
theorem TH(h:Iv f){e:α}(hxy:x≠y)(he:jn f x y e=e):e=x\/e=y\/f e=e:=by
 by_cases a:e=x
 .exact .inl a
 by_cases b:e=y
 .exact .inr (.inl b)
 by_cases c:f e=x
 .rw[jv2 h a b c] at he;exact absurd (by rw[<-c,<-he,h]) hxy
 by_cases d:f e=y
 .rw[qo,jv2 h b a d] at he;exact absurd (by rw[<-d,<-he,h]) (cO hxy)
 rw[jv1 h a b c d] at he;exact .inr (.inr he)
theorem BY(h:Iv f){y:α}:cl f x y=cl f y x:=ite_congr (propext ⟨λe=>by rw[<-e,h],λe=>by rw[<-e,h]⟩) (λ_=>rfl) λ_=>rfl
theorem BV(h:Iv f){w:α}(e:f x=x)(xz:x≠z)(xw:x≠w):jn f z w x=x:=(jv1 h xz xw (by rw[e];exact xz) (by rw[e];exact xw)).trans e
theorem Gw(h:Iv f){e:α}(k:f e=x)(hx:f x≠x)(hy:f y≠y)(hz:f z≠z)(hw:f w≠w)(xy:x≠y)(xz:x≠z)(xw:x≠w)(yz:y≠z)(yw:y≠w)(zw:z≠w)(ey:e≠y)(ez:e≠z)(ew:e≠w):jn (jn f x y) z w e=jn (jn f z w) x y e:=by
 have ex:e≠x:=λq=>hx (by rw[q] at k;exact k)
 have xe:f x=e:=by rw[<-k,h]
 have G:=jv2 h ex ey k;have g:=Jp h hx hy xy;have K:∀{z w},z≠w->y≠z->y≠w->x≠w->e≠z->e≠w->f y=z->jn (jn f x y) z w e=jn f z w y:=λzw yz yw xw ez ew q=>by
  rw[jv2 g ez ew (G.trans q),jv1 h (cO xw) (cO yw) (λr=>ew (by rw[<-xe,<-r,h])) (λr=>zw (by rw[<-q,<-r,h])),jv2 h yz yw q]
 rw[jv2 (Jp h hz hw zw) ex ey (by rw[jv1 h ez ew (k ▸ xz) (k ▸ xw),k])];by_cases a:f y=z
 .exact K zw yz yw xw ez ew a
 by_cases b:f y=w
 .rw[qo (f:=f) (x:=z),qo (f:=jn f x y)];exact K (cO zw) yw yz xz ew ez b
 rw[jv1 g ez ew (G ▸ a) (G ▸ b),G,jv1 h yz yw a b]
theorem Xy(h:Iv f){w:α}(hx:f x≠x)(hy:f y≠y)(hz:f z≠z)(hw:f w≠w)(xy:x≠y)(xz:x≠z)(xw:x≠w)(yz:y≠z)(yw:y≠w)(zw:z≠w):jn (jn f x y) z w=jn (jn f z w) x y:=by
 funext e;have g:=Jp h hx hy xy;have g':=Jp h hz hw zw;by_cases ex:e=x
 .subst ex;rw[BV g PU xz xw,PU]
 by_cases ey:e=y
 .subst ey;rw[BV g PT yz yw,PT]
 by_cases ez:e=z
 .subst ez;rw[BV g' PU (cO xz) (cO yz),PU]
 by_cases ew:e=w
 .subst ew;rw[BV g' PT (cO xw) (cO yw),PT]
 by_cases k:f e=x
 .exact Gw h k hx hy hz hw xy xz xw yz yw zw ey ez ew
 by_cases k2:f e=y
 .rw[qo (x:=x),qo (f:=jn f z w)];exact Gw h k2 hy hx hz hw (cO xy) yz yw xz xw zw ex ez ew
 by_cases k3:f e=z
 .exact(Gw h k3 hz hw hx hy zw (cO xz) (cO yz) (cO xw) (cO yw) xy ew ex ey).symm
 by_cases k4:f e=w
 .rw[qo (x:=z),qo (x:=z)];exact(Gw h k4 hw hz hx hy (cO zw) (cO xw) (cO yw) (cO xz) (cO yz) xy ez ex ey).symm
 have p1:=jv1 h ex ey k k2;have p2:=jv1 h ez ew k3 k4;rw[jv1 g ez ew (p1 ▸ k3) (p1 ▸ k4),jv1 g' ex ey (p2 ▸ k) (p2 ▸ k2),p1,p2]
theorem X1(h:Iv f){w:α}(hx:f x≠x)(hy:f y≠y)(hz:f z≠z)(hw:f w≠w)(xy:x≠y)(xz:x≠z)(xw:x≠w)(yz:y≠z)(yw:y≠w)(zw:z≠w):cl f x y+cl (jn f x y) z w=cl f z w+cl (jn f z w) x y:=by
 have hh:∀{a b},f a=b->f b=a:=λq=>by rw[<-q,h]
 have O:∀{x y c},f x=c->c≠y->cl f x y=0:=λq r=>if_neg λe=>r (q.symm.trans e)
 have P:∀{x y z w},z≠x->z≠y->f z≠x->f z≠y->cl (jn f x y) z w=cl f z w:=λa b c d=>by unfold cl;rw[jv1 h a b c d]
 have Q:∀{x y z w},z≠x->z≠y->f z=x->cl (jn f x y) z w=cl f y w:=λa b c=>by unfold cl;rw[jv2 h a b c]
 have Q':∀{x y z w},z≠x->z≠y->f z=y->cl (jn f x y) z w=cl f x w:=λa b c=>by rw[qo];exact Q b a c
 have zx:=cO xz;have zy:=cO yz;by_cases a:f x=z
 .rw[O a zy,Q zx zy (hh a),O (hh a) xw,Q xz xw a,BY h]
 by_cases b:f x=w
 .rw[O b (cO yw),Q' xz xw b];by_cases c:f z=y
  .rw[Q' zx zy c,O c yw];unfold cl;rw[if_pos b,if_pos c]
  .rw[P zx zy (λe=>a (hh e)) c,O (c:=f z) rfl c,Nat.zero_add];rfl
 .rw[P xz xw a b,Nat.add_comm];congr 1;by_cases c:f z=y
  .rw[Q' zx zy c,O (c:=f x) rfl b,O c yw]
  .exact P zx zy (λe=>a (hh e)) c
end
end J
end K2
end
section
set_option maxHeartbeats 1000000
namespace K2
namespace J
section
variable {α:Type} [@Q]
abbrev Pr(α:Type):=List (α×α)
noncomputable def jh(f:α->α):Pr α->α->α
 |[]=>f
 |p::ps=>jh (jn f p.1 p.2) ps
noncomputable def cls(f:α->α):Pr α->Nat
 |[]=>0
 |p::ps=>cl f p.1 p.2+cls (jn f p.1 p.2) ps
noncomputable def es:Pr α->@o
 |[]=>[]
 |p::ps=>p.1::p.2::es ps
structure Ok(f:α->α)(ps:Pr α):Prop where
 iv:Iv f
 nd:(es ps).Nodup
 dm:∀e∈es ps,f e≠e
theorem qt{qs:Pr α}(h:ps.Perm qs):(es ps).Perm (es qs):=by
 induction h with
 |nil=>ext d
 |cons x _ ih=>exact(ih.cons _).cons _
 | swap x y l=>
  show(y.1::y.2::x.1::x.2::es l).Perm (x.1::x.2::y.1::y.2::es l);have:∀(a b c d:α) (l:@o),(a::b::c::d::l).Perm (c::d::a::b::l):=λa b c d l=>by
   refine((xI c b _).cons a).trans ?_;refine(xI c a _).trans ?_;refine FR c ?_;refine((xI d b _).cons a).trans ?_;exact xI d a _
  exact this _ _ _ _ _
 |trans _ _ a b=>exact a.trans b
theorem vY(ps qs:Pr α):es (ps++qs)=es ps++es qs:=by
 induction ps with
 |nil=>rfl
 |cons p ps ih=>rw[ay,es,es,ih];rfl
theorem Mp(ps:Pr α):(es ps).length=2*ps.length:=by
 induction ps with
 |nil=>rfl
 |cons p ps ih=>rw[es,ag,ag,ih,ag];lia
theorem pG{e:α}:e∈es ps↔∃p∈ps,e=p.1\/e=p.2:=by
 induction ps with
 |nil=>simp[es]
 | cons p ps ih=>
  rw[es,bF,bF,ih];constructor
  .rintro(h |h |⟨q,h,z⟩)
   .exact⟨p,@K,.inl h⟩
   .exact⟨p,@K,.inr h⟩
   .exact⟨q,aI _ h,z⟩
  .rintro⟨q,h,z⟩;ext u
   .rcases z with z |z
    .exact .inl z
    .exact .inr (.inl z)
   .exact .inr (.inr ⟨q,h,z⟩)
theorem Ok.perm{qs:Pr α}(h:ps.Perm qs)(o:Ok f ps):Ok f qs :=
 ⟨o.iv,(qt h).nodup_iff.mp o.nd,λe he=>o.dm e ((qt h).mem_iff.mpr he)⟩
theorem Ok.hd{ps:Pr α}(o:Ok f (p::ps)):p.1≠p.2/\f p.1≠p.1/\f p.2≠p.2:=by
 have n:=o.nd;rw[es,aT] at n;exact⟨λz=>n.1 (by rw[z];exact br),o.dm _ (by simp[es]),o.dm _ (by simp[es])⟩
theorem Ok.tl{ps:Pr α}(o:Ok f (p::ps)):Ok (jn f p.1 p.2) ps:=by
 obtain⟨h1,h2,h3⟩:=o.hd;have n:=o.nd;rw[es,aT,aT] at n;refine⟨Jp o.iv h2 h3 h1,n.2.2,λe he z=>?_⟩;rcases TH o.iv h1 z with z |z |z
 .exact n.1 (by rw[<-z];exact aI _ he)
 .exact n.2.1 (by rw[<-z];exact he)
 .exact o.dm e (by simp[es,he]) z
theorem Ok.left{qs:Pr α}(o:Ok f (ps++qs)):Ok (jh f ps) qs:=by
 induction ps generalizing f with
 |nil=>exact o
 |cons p ps ih=>exact ih o.tl
theorem Ok.pre{qs:Pr α}(o:Ok f (ps++qs)):Ok f ps :=
 ⟨o.iv,by have:=o.nd;rw[vY] at this;exact(List.nodup_append.mp this).1,λe he=>o.dm e (by rw[vY];exact fT _ he)⟩
theorem xk(f)(ps qs:Pr α):jh f (ps++qs)=jh (jh f ps) qs:=by
 induction ps generalizing f with
 |nil=>rfl
 |cons p ps ih=>exact ih _
theorem xq(f)(ps qs:Pr α):cls f (ps++qs)=cls f ps+cls (jh f ps) qs:=by
 induction ps generalizing f with
 |nil=>simp[cls,jh]
 |cons p ps ih=>rw[ay,cls,cls,ih,jh,qU]
theorem TC{qs:Pr α}(h:ps.Perm qs)(o:Ok f ps):jh f ps=jh f qs/\cls f ps=cls f qs:=by
 induction h generalizing f with
 |nil=>exact⟨rfl,rfl⟩
 |cons x _ ih=>
  obtain⟨a,b⟩:=ih o.tl;exact⟨a,by rw[cls,cls,b]⟩
 | swap x y l=>
  have n:=o.nd;simp only[es,aT,bF,not_or] at n;have d:∀e,e=y.1\/e=y.2\/e=x.1\/e=x.2->f e≠e:=λe he=>o.dm e (by
   simp only[es,bF];rcases he with h |h |h |h<;>simp[h])
  have a:=Xy o.iv (d y.1 @f) (d y.2 @f) (d x.1 @f) (d x.2 @f) n.1.1 n.1.2.1 n.1.2.2.1 n.2.1.1 n.2.1.2.1 n.2.2.1.1;have b:=X1 o.iv (d y.1 @f) (d y.2 @f) (d x.1 @f) (d x.2 @f) n.1.1 n.1.2.1 n.1.2.2.1 n.2.1.1 n.2.1.2.1 n.2.2.1.1;refine⟨?_,?_⟩
  .show jh (jn (jn f y.1 y.2) x.1 x.2) l=jh (jn (jn f x.1 x.2) y.1 y.2) l;rw[a]
  .show cl f y.1 y.2+(cl (jn f y.1 y.2) x.1 x.2+cls (jn (jn f y.1 y.2) x.1 x.2) l)=cl f x.1 x.2+(cl (jn f x.1 x.2) y.1 y.2+cls (jn (jn f x.1 x.2) y.1 y.2) l);rw[a];lia
 |trans h1 h2 i1 i2=>
  obtain⟨a,b⟩:=i1 o;obtain⟨c,d⟩:=i2 (o.perm h1);exact⟨a.trans c,b.trans d⟩
end
end J
end K2
end
section
set_option maxHeartbeats 1000000
namespace K2
namespace J
abbrev Fn:=Int->Int
noncomputable def lp(g:Fn):Fn:=λi=>-(g (i+2))-g (i-2)
noncomputable def sh(b:Int)(g:Fn):Fn:=λi=>g (i+b)
noncomputable def i6:Nat->Fn->Fn
 |0,g=>g
 |n+1,g=>lp (i6 n g)
theorem BS(n m)(g):i6 (n+m) g=i6 n (i6 m g):=by
 induction n with
 |zero=>rw[mD];rfl
 |succ n ih=>rw[Nat.succ_add,i6,i6,ih]
theorem Th(b)(g):lp (sh b g)=sh b (lp g):=by
 funext i;unfold lp sh;rw[show i+2+b=i+b+2 by lia,show i-2+b=i+b-2 by lia]
theorem zY(n)(b)(g):i6 n (sh b g)=sh b (i6 n g):=by
 induction n with
 |zero=>rfl
 |succ n ih=>rw[i6,i6,ih,Th]
theorem RE(a b)(g):sh a (sh b g)=sh (a+b) g:=by
 funext i;unfold sh;rw[Int.add_assoc]
theorem M9(g):sh 0 g=g:=by
 funext i;unfold sh;rw[Hz]
noncomputable def pl(g k:Fn):Fn:=λi=>g i+k i
noncomputable def sc(c:Int)(g:Fn):Fn:=λi=>c*g i
theorem acD(g k):lp (pl g k)=pl (lp g) (lp k):=by
 funext i;show -(g (i+2)+k (i+2))-(g (i-2)+k (i-2))=(-(g (i+2))-g (i-2))+(-(k (i+2))-k (i-2));lia
theorem acC(c)(g):lp (sc c g)=sc c (lp g):=by
 funext i;unfold lp sc;rw[Int.mul_sub,Int.mul_neg]
theorem Tf(n)(g k):i6 n (pl g k)=pl (i6 n g) (i6 n k):=by
 induction n with
 |zero=>rfl
 |succ n ih=>rw[i6,i6,i6,ih,acD]
theorem Te(n)(c)(g):i6 n (sc c g)=sc c (i6 n g):=by
 induction n with
 |zero=>rfl
 |succ n ih=>rw[i6,i6,ih,acC]
theorem Yq(b)(g k):sh b (pl g k)=pl (sh b g) (sh b k):=rfl
theorem Yp(b c)(g):sh b (sc c g)=sc c (sh b g):=rfl
noncomputable def js(n:Int)(w:Bool):Pr T3:=if w=false then [(⟨n,0,0⟩,⟨n,1,1⟩),(⟨n,1,0⟩,⟨n,0,1⟩)] else [(⟨n,0,0⟩,⟨n,1,0⟩),(⟨n,0,1⟩,⟨n,1,1⟩)]
noncomputable def Br:(T3->T3)->@ae->Fn->Int
 |_,[],g=>g 0
 |f,p::ps,g=>Br (jh f (js p.1 false)) ps (i6 (cls f (js p.1 false)) (sh p.2 g))+Br (jh f (js p.1 true)) ps (i6 (cls f (js p.1 true)) (sh (-p.2) g))
theorem OD:∀(ps:@ae) (f:T3->T3) (g k:Fn),Br f ps (pl g k)=Br f ps g+Br f ps k
 |[],_,_,_=>rfl
 |p::ps,f,g,k=>by
  rw[Br,Br,Br,Yq,Yq,Tf,Tf,OD,OD];lia
theorem FK:∀(ps:@ae) (f:T3->T3) (c:Int) (g:Fn),Br f ps (sc c g)=c*Br f ps g
 |[],_,_,_=>rfl
 |p::ps,f,c,g=>by
  rw[Br,Br,Yp,Yp,Te,Te,FK,FK,K0]
noncomputable def lR(n:Int):@r:=[⟨n,0,0⟩,⟨n,1,1⟩,⟨n,1,0⟩,⟨n,0,1⟩]
theorem j9(n)(w):(es (js n w)).Perm (lR n):=by
 cases w with
 |false=>exact .refl _
 |true=>
  show [(⟨n,0,0⟩:T3),⟨n,1,0⟩,⟨n,0,1⟩,⟨n,1,1⟩].Perm _;refine FR _ ?_;refine(bY (l₁:=[(⟨n,1,0⟩:T3),⟨n,0,1⟩]) (l₂:=[⟨n,1,1⟩]))
structure Dm(f:T3->T3)(ns:@D):Prop where
 iv:Iv f
 nd:ns.Nodup
 dm:∀n∈ns,∀e∈lR n,f e≠e
theorem Dm.perm(h:ns.Perm ms)(d:Dm f ns):Dm f ms:=⟨d.iv,h.nodup_iff.mp d.nd,λn hn=>d.dm n (h.mem_iff.mpr hn)⟩
theorem DG(n):(lR n).Nodup:=by
 unfold lR;simp
theorem sU(h:e∈lR n):e.a=n:=by
 unfold lR at h;simp only[bF,b9,or_false] at h;rcases h with rfl |rfl |rfl |rfl<;>rfl
theorem Dm.ok(d:Dm f (n::ns))(w):Ok f (js n w) :=
 ⟨d.iv,(j9 n w).nodup_iff.mpr (DG n),λe he=>d.dm n @f e ((j9 n w).mem_iff.mp he)⟩
theorem Dm.ok2(d:Dm f (n::m::ns))(w v):Ok f (js n w++js m v):=by
 have hnm:n≠m:=λz=>(List.nodup_cons.mp d.nd).1 (by rw[z];exact br);refine⟨d.iv,?_,λe he=>?_⟩
 .rw[vY,cU];refine⟨(j9 n w).nodup_iff.mpr (DG n),(j9 m v).nodup_iff.mpr (DG m),λa ha b hb z=>?_⟩;have h1:=sU ((j9 n w).mem_iff.mp ha);have h2:=sU ((j9 m v).mem_iff.mp hb);rw[z] at h1;exact hnm (h1.symm.trans h2)
 .rw[vY,List.mem_append] at he;rcases he with he |he
  .exact d.dm n @f e ((j9 n w).mem_iff.mp he)
  .exact d.dm m @f e ((j9 m v).mem_iff.mp he)
theorem NK:∀{ps:Pr T3},Ok f ps->∀{e:T3},jh f ps e=e->e∈es ps\/f e=e:=by
 intro ps;induction ps generalizing f with
 |nil=>intro o e h;exact .inr h
 | cons p ps ih=>
  intro o e h;rcases ih o.tl h with z |z
  .exact .inl (by simp[es,z])
  .rcases TH o.iv o.hd.1 z with z |z |z
   .exact .inl (by simp[es,z])
   .exact .inl (by simp[es,z])
   .exact .inr z
theorem TG:∀{ps:Pr T3},Ok f ps->Iv (jh f ps):=by
 intro ps;induction ps generalizing f with
 |nil=>intro o;exact o.iv
 |cons p ps ih=>intro o;exact ih o.tl
theorem Dm.step(d:Dm f (n::ns))(w):Dm (jh f (js n w)) ns:=by
 have nn:=List.nodup_cons.mp d.nd;refine⟨TG (d.ok w),nn.2,λm hm e he z=>?_⟩;rcases NK (d.ok w) z with z |z
 .have h1:=sU ((j9 n w).mem_iff.mp z);have h2:=sU he;exact nn.1 (by rw[<-h1,h2];exact hm)
 .exact d.dm m (aI _ hm) e he z
theorem Yi(d:Dm f (p.1::q.1::ps.map @n))(g):Br f (p::q::ps) g=Br f (q::p::ps) g:=by
 have key:∀(w v:Bool),jh (jh f @aK) (js q.1 v)=jh (jh f (js q.1 v)) @aK/\cls (jh f @aK) (js q.1 v)+cls f @aK=cls (jh f (js q.1 v)) @aK+cls f (js q.1 v):=λw v=>by
  obtain⟨a,b⟩:=TC (bY) (d.ok2 w v);rw[xk,xk] at a;rw[xq,xq] at b;exact⟨a,@d⟩
 have kk:∀(w v:Bool) (x y:Int),Br (jh (jh f @aK) (js q.1 v)) ps (i6 (cls (jh f @aK) (js q.1 v)) (sh x (i6 (cls f @aK) (sh y g))))=Br (jh (jh f (js q.1 v)) @aK) ps (i6 (cls (jh f (js q.1 v)) @aK) (sh y (i6 (cls f (js q.1 v)) (sh x g)))):=λw v x y=>by
  obtain⟨a,b⟩:=key w v;have z:∀(m n:Nat) (x y:Int),i6 m (sh x (i6 n (sh y g)))=sh (x+y) (i6 (m+n) g):=λm n x y=>by rw[zY,zY,zY,RE,BS]
  rw[a,z,z,b,HA x y]
 show(Br _ ps _+Br _ ps _)+(Br _ ps _+Br _ ps _)=(Br _ ps _+Br _ ps _)+(Br _ ps _+Br _ ps _);rw[kk,kk,kk,kk];lia
theorem qx(h:ps.Perm qs):∀{f:T3->T3},Dm f (ps.map @n)->∀g,Br f ps g=Br f qs g:=by
 induction h with
 |nil=>intro f d g;rfl
 |cons x _ ih=>intro f d g;rw[Br,Br,ih (d.step false),ih (d.step true)]
 |swap x y l=>intro f d g;exact Yi d g
 |trans h1 h2 i1 i2=>intro f d g;rw[i1 d,i2 (d.perm (h1.map _))]
end J
end K2
end
section
set_option maxHeartbeats 1000000
namespace K2
namespace J
noncomputable def vv(nm:Nat->Int)(i:Nat):T3:=⟨nm (i / 4),((i / 2 % 2:Nat):Int),((i % 2:Nat):Int)⟩
theorem vR{α β:Type}{v:α->β}:∀{l:@o},l.Nodup->(∀i∈l,∀j∈l,v i=v j->i=j)->(l.map v).Nodup
 |[],_,_=>cJ
 |a::l,h,hi=>by
  rw[aT] at h;rw[ak,aT];refine⟨λz=>?_,vR h.2 λi YZ j hj=>hi i (aI _ YZ) j (aI _ hj)⟩;obtain⟨b,hb,e⟩:=@cT;have:=hi a @f b (aI _ hb) e.symm;exact h.1 (this ▸ hb)
end J
end K2
end
section
namespace K2
open PySem (Str)
open Enc (enc)
theorem UD [@Q] [@ab](xs:@o):(enc xs:D)=.dc @bu:=rfl
theorem fM{α:Type} [@Q] [@ab]{G G1:Gp}{p:Nat}{xs:@o}{Q:DK}(l:dI G G1)(hp:G p=none)(h1:G1 p=some (.lst @bu))(q:Q (enc xs) G):QC G1 @aw Q :=
 Ab l hp h1 (zr.same _) q
theorem cT{α:Type}{f:α->D}{g:BB}{body:gq}{ok:@B}{xs:@o}{E:mK}{K:nR}{τ:jx}{G:Gp}(I:@o->jx->@B)
  (h0:I [] τ G) (cx:∀pre τ G,I pre τ G->ok G)
  (step:∀(pre:@o) (x:α) (post:@o) τ G (N:jx->@B),xs=pre++x::post->I pre τ G->(∀zI G2,I (pre++[x]) zI G2->N zI G2) ->
   g E (f x) τ G λrZ G1=>body E {K with nx:=N,ct:=N,bk:=K.nx} rZ G1)
  (fin:∀τ G,I xs τ G->K.nx τ G):tP g body ok (xs.map f) E K τ G:=by
 have main:∀(post pre:@o) τ G,xs=pre++post->I pre τ G->tP g body ok (post.map f) E K τ G:=by
  intro post;induction post with
  |nil=>
   intro pre τ G e h;rw[bE] at e;subst e;exact⟨cx _ _ _ h,fin _ _ h⟩
  |cons d post ih=>
   intro pre τ G e h;refine⟨cx _ _ _ h,?_⟩;exact step pre d post τ G _ e h λzI G2 h2=>ih (pre++[d]) zI G2 (by rw[e,aS];rfl) h2
 exact main xs [] τ G rfl h0
theorem jq{α:Type}{f:α->D}{g:BB}{c:Option Bc}{e:gC}{ok:@B}{xs:@o}{E:mK}{τ:jx}{G:Gp}{Q:@e->@B}(I:@o->@e->jx->@B)
  (h0:I [] [] τ G) (cx:∀pre acc τ G,I pre acc τ G->ok G)
  (step:∀(pre:@o) (x:α) (post:@o) (acc:@e) τ G (N:jx->@e->@B),xs=pre++x::post->I pre acc τ G->(∀zI Ay G2,I (pre++[x]) Ay zI G2->N zI Ay G2) ->
   g E (f x) τ G λrZ G1=>match c with
    |none=>e E rZ G1 λx G2=>N rZ (acc++[x]) G2
    |some c=>c E rZ G1 λk G2=>if k=true then e E rZ G2 λx G3=>N rZ (acc++[x]) G3 else N rZ acc G2)
  (fin:∀acc τ G,I xs acc τ G->Q acc G):kD g c e ok (xs.map f) E τ G [] Q:=by
 have main:∀(post pre:@o) (acc:@e) τ G,xs=pre++post->I pre acc τ G->kD g c e ok (post.map f) E τ G acc Q:=by
  intro post;induction post with
  |nil=>
   intro pre acc τ G e h;rw[bE] at e;subst e;exact⟨cx _ _ _ _ h,fin _ _ _ h⟩
  |cons d post ih=>
   intro pre acc τ G e' h;refine⟨cx _ _ _ _ h,?_⟩;have:=step pre d post acc τ G (λzI Ay G2=>kD g c e ok (post.map f) E zI G2 Ay Q) e' h λzI Ay G2 h2=>ih (pre++[d]) Ay zI G2 (by rw[e',aS];rfl) h2;cases c with
   |none=>ext g
   |some c=>ext g
 exact main xs [] [] τ G rfl h0
theorem gR{α:Type} [@Q] [@ab]{xs:@o}{G:Gp}{R:@aQ}(h:R @bu @aC G):VC (enc xs) G R:=h
theorem u7{α:Type} [@Q] [@ab]{xs:@o}{G:Gp}{R:@aQ}(h:R (jC 0 @bu) @aC G):yP (enc xs) G R:=h
theorem xW(h:n<=1000):n<=SZ:=by unfold SZ;lia
theorem Cq(h:n<=1000):n<SZ:=by unfold SZ;lia
abbrev Rows:=List (@r)
noncomputable def T3.s(p:T3):T2:=⟨p.a,p.b⟩
structure Dr(rows:Rows):Prop where
 nd:(@c0).Nodup
 way:∀p∈rows.flatten,p.b=0\/p.b=1
 hand:∀p∈rows.flatten,p.c=1\/p.c=-1
 CY:∀p∈rows.flatten,(⟨p.a,1-p.b,p.c⟩:T3)∈rows.flatten
 BX:rows.flatten.length<=24
 str:rows.length<=3
namespace P
def jR:iS:=Wb (λrows:Rows=>rows.flatten.length<=1000) λrows=>rows.flatten
def uQ:gq :=
 (bJ (bh (eS aK) (aF 1))
 (bJ (di (la @j) (aF 2) (fK (mi D9 vS @m (aq @p aK))))
 (bK (b8 @m))))
theorem vD(ds)(G)(Q)(h:jR ds G Q @z):uQ @q @F (aP 3 ds) G:=by
 obtain⟨rows,rfl,hl,q⟩:=h;unfold uQ;simp only[ends,aP,ak,aM,ag,av,aO,ay,aG,bZ,bh,eS,aK,aF,ao,ai];refine⟨@g,λp hp=>?_⟩;refine cX (λτ G'=>(∃b,τ=[@aF,@aq,b])/\@G/\G' p=some (.lst (rows.flatten.map enc))) ?_ ?_
 .intro N hN;simp only[di,c8,ar,aa];refine gR ?_;refine cT (xs:=rows) (λpre τ G'=>(∃b,τ=[@aF,@aq,b])/\@G/\G' p=some (.lst (pre.flatten.map enc))) ⟨@A,.new hp,ax⟩ @aA ?_ ?_
  .rintro pre r post τ G' N2 e ⟨⟨b,rfl⟩,l,gp⟩ kF;have hlen:pre.flatten.length+r.length<=rows.flatten.length:=by
    rw[e];simp only[cM,cV,aA];lia
   simp only[aF,fK,mi,ar,ao,ai,ae,aa,ip,gp,aq,aK,gW,rE (IsL.enc r),true_and];refine⟨xW (by simp only[au];lia),?_⟩;refine kF _ _ ⟨@A,l.put hp,?_⟩;rw[ax];simp
  .rintro τ G' ⟨⟨b,rfl⟩,l,gp⟩;exact hN _ _ ⟨@A,l,gp⟩
 .rintro _ G' ⟨⟨b,rfl⟩,l,gp⟩;simp only[bK,b8,ar,ae,aa];exact fM l hp gp q
theorem kz(p:T3):(enc p:D)=.tup [.int p.a,.int p.b,.int p.c]:=rfl
theorem aa7(p:T2):(enc p:D)=.tup [.int p.a,.int p.b]:=rfl
theorem y8(i):(enc i:D)=@w:=rfl
theorem VH{r:@e}:rN (a::r) 0=some a:=by
 rw[qw _ @c @f];rfl
theorem HK{r:@e}:rN (a::b::r) 1=some b:=by
 rw[qw _ @c (by simp;lia)];rfl
theorem at2{r:@e}:rN (a::b::c::r) 2=some c:=by
 rw[qw _ @c (by simp;lia)];rfl
def names(rows:Rows):@D:=Vy ((@cY).map (·.a))
def iw:iS:=Wb (λrows:Rows=>rows.flatten.length<64) names
def uR:gq :=
 (bK (b8 (jw qv (aq (e7 1 [] (la (aR jR @aR)) (aF 0) (some (fI (aN @bI (aN fQ @j @E) @H))) (aN fQ @j @H)) aK))))
theorem vE(ds)(G)(Q)(h:iw ds G Q @z):uR @q @F (aP 1 ds) G:=by
 obtain⟨rows,rfl,hl,q⟩:=h;unfold uR;simp only[bK,b8,jw,aq,e7,aP,ak,aM,ag,av,ay,aG,aK,ends,c8,aR,ar,aa];refine⟨rows,rfl,(show rows.flatten.length<=1000 by lia),gR ⟨xW (by rw[au];show rows.flatten.length<=1000;lia),?_⟩⟩;refine jq (xs:=rows.flatten) (λpre acc τ G'=>G=G'/\(∃a,τ=[a])/\acc=((pre.filter λp=>p.b == 0).map (·.a)).map enc) ⟨rfl,@A,rfl⟩ @ca ?_ ?_
 .rintro pre x post acc τ G' N e ⟨rfl,⟨a,rfl⟩,rfl⟩ hN;simp only[aF,kz,ai,aN,ar,aa,dC,dS,VH,b7,HK];refine⟨_,_,@S,@S,?_⟩;simp only[aj,my,if_false,aY];split
  .rename_i h;refine hN _ _ _ ⟨rfl,@A,?_⟩;simp[eK,ck,h,y8]
  .rename_i h;refine hN _ _ _ ⟨rfl,@A,?_⟩;simp[eK,ck,h]
 .rintro acc τ G' ⟨rfl,⟨a,rfl⟩,rfl⟩ p hp;refine xu (IsL.ref ax) (by rw[au];exact fR (dM _ _) hl) λp2 nP=>?_;exact fM ((dI.new hp).trans (.new nP)) ((dI.new hp).free nP) ax q
noncomputable def handOf(rows:Rows)(n:Int):Int:=((rows.flatten.find? λp=>p.a == n).map (·.c)).getD 0
def k7:iS:=ab0 (λ(rows:Rows) (n:Int)=>rows.flatten.length<=1000/\∃p∈rows.flatten,p.a=n) handOf
def CB:gq :=
 (bJ (di (la (aR jR @aR)) (aF 2) (d6 (fI (aN @bI (aN fQ @p @H) @m)) (bK (b8 (aN fQ @p @a8))) cj))
 sY)
theorem D1(ds)(G)(Q)(h:k7 ds G Q @z):CB @q @F (aP 3 ds) G:=by
 obtain⟨rows,n,rfl,⟨hl,hn⟩,q⟩:=h;unfold CB;refine cX (λτ G'=>False) ?_ (λ_ _ h=>h.elim);intro N hN;simp only[di,aP,ak,aM,ag,av,aO,ay,aG,ends,c8,aR,aq,ar,aa,aK];refine⟨rows,rfl,hl,gR ?_⟩;refine cT (xs:=rows.flatten) (λpre τ G'=>G=G'/\(∃a,τ=[@aF,some (enc n),a])/\∀p∈pre,p.a≠n) ⟨rfl,@A,@K⟩ @aA ?_ ?_
 .rintro pre x post τ G' N2 e ⟨rfl,⟨a,rfl⟩,hp⟩ kF;simp only[aF,d6,y8,kz,ao,ai,bK,b8,aN,ar,ae,aa,dC,dS,at2,cj,b7,VH];refine⟨_,_,@S,@S,?_⟩;simp only[aj,my,if_false,aY];by_cases hx:x.a=n
  .simp only[hx,beq_self_eq_true,if_true];refine bW ?_;have:handOf rows n=x.c:=by
    unfold handOf;have:rows.flatten.find? (λp=>p.a == n)=@aa:=by
     rw[e,oM];have:pre.find? (λp=>p.a == n)=none:=by
      rw[fO];intro p z9;simpa using hp p z9
     rw[this];simp[hx]
    rw[this];rfl
   rw[<-this];exact q
  .have:(x.a == n)=false:=by simpa using hx
   simp only[this,aj,if_false];refine kF _ _ ⟨rfl,@A,λp z9=>?_⟩;rcases List.mem_append.mp z9 with h |h
   .exact hp p h
   .rw[List.mem_singleton.mp h];exact hx
 .rintro τ G' ⟨rfl,_,hp⟩;obtain⟨p,VD,nP⟩:=hn;exact absurd nP (hp p VD)
def bN(row:@r)(i:Int):List T2:=if row=[] then [⟨i,2⟩] else row.map T3.s
def jP:iS:=ab0 (λ(row:@r) (_:Int)=>row.length<=1000) bN
def AM:gq :=
 (bJ (d6 (ly (fI @j)) (bK (b8 (eS (aq (eQ (aq @m (aq @a8 aK))) aK)))) cj)
 (bK (b8 (e7 1 [] (la @j) (aF 0) none (pI @j cw (ib @a8))))))
theorem Bh(ds)(G)(Q)(h:jP ds G Q @z):AM @q @F (aP 2 ds) G:=by
 obtain⟨row,i,rfl,hl,q⟩:=h;unfold AM;refine cX (λτ G'=>G=G'/\τ=[some (enc row),some (enc i)]/\row≠[]) ?_ ?_
 .intro N hN;simp only[d6,ly,aP,ak,aM,ag,av,ay,aG,bK,b8,eS,aq,eQ,ar,ae,aa,dC,aK,ends,cj,b7];refine Ro (IsL.enc row) ?_;cases row with
  |nil=>
   simp only[aM,List.isEmpty_nil,aW,bG,if_true];refine⟨@g,@g,λp hp=>fM (xs:=[(⟨i,2⟩:T2)]) @ar hp ax ?_⟩;exact q
  |cons a r=>
   simp only[ak,List.isEmpty_cons,bG,aW,aj,if_false];exact hN _ _ ⟨rfl,rfl,@K⟩
 rintro _ _ ⟨rfl,rfl,pX⟩;simp only[bK,b8,e7,ends,c8,ar,aa];refine gR ⟨xW (by rw[au];exact hl),?_⟩;refine jq (xs:=row) (λpre acc τ G'=>G=G'/\(∃a,τ=[a])/\acc=(pre.map T3.s).map enc) ⟨rfl,@A,rfl⟩ @ca ?_ ?_
 .rintro pre x post acc τ G' N e ⟨rfl,⟨a,rfl⟩,rfl⟩ hN;simp only[aF,pI,ar,kz,ai,aa,cw,lM,ag,av,fj,dC,cY];refine⟨@g,hN _ _ _ ⟨rfl,@A,?_⟩⟩;rw[aC,aC];rfl
 .rintro acc τ G' ⟨rfl,⟨a,rfl⟩,rfl⟩ p hp;refine fM @ar hp ax ?_;have:bN row i=row.map T3.s:=by unfold bN;rw[if_neg pX]
  rw[<-this];exact q
noncomputable def bI:Rows->Nat->List T2
 |[],_=>[]
 |r::rs,k=>bN r (k:Int)++bI rs (k+1)
theorem oZ:∀(a b:Rows) (k:Nat),bI (a++b) k=bI a k++bI b (k+a.length)
 |[],b,k=>by simp[bI]
 |r::a,b,k=>by rw[ay,bI,bI,oZ a b (k+1),aS,ag];congr 3;lia
theorem JQ(xs:List (@r)):jC 0 @bu=(xs.zipIdx 0).map λp=>D.tup [.int (p.2:Int),enc p.1]:=by
 have:∀(xs:List (@r)) (k:Nat),jC k @bu=(xs.zipIdx k).map λp=>D.tup [.int (p.2:Int),enc p.1]:=by
  intro xs;induction xs with
  |nil=>intro k;rfl
  |cons x xs ih=>intro k;rw[ak,jC,ih,qc,ak]
 exact this xs 0
theorem r8{α:Type}{xs:@o}{pre post:List (α×Nat)}{x:α×Nat}(h:xs.zipIdx 0=pre++x::post):∃l r,xs=l++x.1::r/\x.2=l.length/\pre=l.zipIdx 0:=by
 have e1:xs=(pre.map @n)++x.1::post.map @n:=by
  have:=congrArg (List.map @n) h;rw[List.zipIdx_map_fst] at this;rw[this];simp
 have hl:pre.length<(xs.zipIdx 0).length:=by rw[h];simp
 have hx:(xs.zipIdx 0)[pre.length]?=@aa:=by rw[h];simp
 refine⟨pre.map @n,post.map @n,e1,?_,?_⟩
 .rw[VS] at hx;rw[au];cases q:xs[pre.length]? with
  |none=>rw[q] at hx;cases hx
  |some y=>rw[q] at hx;simp at hx;rw[<-hx]
 .have:(pre.map @n).zipIdx 0=(xs.zipIdx 0).take pre.length:=by
   conv=>rhs;rw[e1,t6]
   rw[List.take_append_of_le_length @f];rw[xG @f]
  rw[this,h];simp
theorem agR{c:D}:cut [a,b,c] none (some 2)=[a,b]:=rfl
theorem PI [@Q] [@ab](xs:@o)(G):yG (enc xs) G=some (xs.map enc,λ_=>True):=rfl
theorem PH{a:Nat}{ds:@e}{G:Gp}(h:G a=@bq):yG @u G=some (ds,λG2=>G2 a=@bq):=by unfold yG;simp only[h]
theorem Cj [@Q] [@ab] [DecidableEq β] [Enc β]:∀(xs:@o) (ys:List β),sd @bu (ys.map enc)=(xs.zip ys).map λp=>D.tup [enc p.1,enc p.2]
 |[],ys=>by simp[sd]
 |x::xs,[]=>by simp[sd]
 |x::xs,y::ys=>by simp[sd,Cj xs ys]
theorem gw{κ α:Type} [@bd] [Enc κ] [vJ κ] [@Q] [@ab]{a:Nat}{l:@b8}{k:κ}{v:α}{G:Gp}{Q:@B}(h:G a=some (.gz (bb l)))(hl:l.length<=1000)(q:Q (dw G a (.gz (bb (ft l k v))))):wC @u (enc k) (enc v) G Q:=by
 unfold wC;simp only[h];refine⟨k9 l k,?_,by rw[Ng];exact q⟩;unfold bb;rw[au];exact Cq hl
noncomputable def j6(r:@r):@r:=r.drop 1++r.take 1
def pairsOf(rows:Rows):@bk:=rows.flatMap λr=>r.zip (j6 r)
def pF(ps:@bk):List (T2×T2):=ps.foldl (λl p=>ft l p.1.s p.2.s) []
theorem EY(ps):(pF ps).length<=ps.length:=by
 have:∀(ps:@bk) (l:List (T2×T2)),(ps.foldl (λl p=>ft l p.1.s p.2.s) l).length<=l.length+ps.length:=by
  intro ps;induction ps with
  |nil=>intro l;simp
  |cons p ps ih=>
   intro l;rw[dW,ag];have h1:=ih (ft l p.1.s p.2.s);have h2:=vr l p.1.s p.2.s;lia
 simpa[pF] using this ps []
theorem LG(ps)(p):pF (ps++[p])=ft (pF ps) p.1.s p.2.s:=by unfold pF;rw[ij];rfl
def sk:iS:=λds G Q _=>∃rows:Rows,ds=[enc rows]/\rows.flatten.length<=500/\Q (.kU (bb (pF (@a2)))) G
theorem pairs_len(rows):(@a2).length<=rows.flatten.length:=by
 unfold pairsOf;induction rows with
 |nil=>simp
 |cons r rs ih=>simp only[cD,cV,aA,mY];lia
def Cy:gq :=
 (bJ (bh kC (aF 1))
 (bJ (di (la @j) (aF 2) (di (LY @p (aN fk (pI @p (ib @E) cw) (pI @p cw (ib @E)))) (gY (cq (aF 3) (cq (aF 4) gH))) (bh (pI @R cw (ib @a8)) (iH @m (pI @O cw (ib @a8))))))
 (bK (b8 @m))))
theorem DV(ds)(G)(Q)(h:sk ds G Q @z):Cy @q @F (aP 5 ds) G:=by
 obtain⟨rows,rfl,hl,q⟩:=h;unfold Cy;simp only[ends,aP,ak,aM,ag,av,aO,ay,aG,bZ,bh,kC,iQ,aF,ao,ai];intro d hd;refine cX (λτ G'=>(∃a b c,τ=[@aF,some (.ref d),a,b,c])/\@G/\G' d=some (.gz (bb (pF (@a2))))) ?_ ?_
 .intro N hN;simp only[di,c8,ar,aa];refine gR ?_;refine cT (xs:=rows) (λpre τ G'=>(∃a b c,τ=[@aF,some (.ref d),a,b,c])/\@G/\G' d=some (.gz (bb (pF (pairsOf pre))))) ⟨⟨_,_,_,rfl⟩,.new hd,ax⟩ @aA ?_ ?_
  .rintro pre r post τ G' N2 e ⟨⟨a,b,c,rfl⟩,l,gd⟩ kF;have hr:pre.flatten.length+r.length<=rows.flatten.length:=by
    rw[e];simp only[cM,cV,aA];lia
   simp only[aF,di,LY,ar,ao,ai,ae,aa,aN,pI,cw,fj,dC,cY];refine jz (IsL.enc r) λp1 h1=>?_;refine jz (IsL.enc r) λp2 h2=>?_;have d1:d≠p1:=by ext c;rw[gd] at h1;cases h1
   have l1:=l.trans (dI.new (o:=.lst (cut (@aI) (some 1) none)) h1);have d2:d≠p2:=by ext c;rw[cu d1,gd] at h2;cases h2
   have h12:p1≠p2:=by ext c;rw[ax] at h2;cases h2
   refine jB (IsL.ref (by rw[cu h12,ax])) (IsL.ref ax) ?_ λp3 h3=>?_
   .rw[qu,qu,au,au];have e1:(cut r (some 1) none).length<=r.length:=by unfold cut;rw[bO,bP];lia
    have e2:(cut r none (some 1)).length<=r.length:=by unfold cut;rw[bO,bP];lia
    exact xW @c
   have d3:d≠p3:=by ext c;rw[cu d2,cu d1,gd] at h3;cases h3
   have et:cut (@aI) (some 1) none++cut (@aI) none (some 1)=(j6 r).map enc:=by
    rw[qu,qu,<-aC];congr 1;cases r with
    |nil=>rfl
    |cons x r=>rw[show(1:Int)=((1:Nat):Int) from rfl,zc _ _ @f,GY _ _ @f];rfl
   rw[et];generalize hG3:dw (dw (dw G' p1 (.lst (cut (@aI) (some 1) none))) p2 (.lst (cut (@aI) none (some 1)))) p3 (.lst ((j6 r).map enc))=G3;have g3:G3 p3=some (.lst ((j6 r).map enc)):=by rw[<-hG3,ax]
   have gd3:G3 d=some (.gz (bb (pF (pairsOf pre)))):=by rw[<-hG3,cu d3,cu d2,cu d1];exact gd
   have l3:dI G G3:=by rw[<-hG3];exact(l1.trans (.new h2)).trans (.new h3)
   unfold xm;rw[PI,PH g3];dsimp only;rw[Cj];refine cT (xs:=r.zip (j6 r)) (λpp τ G'=>(∃a b c,τ=[@aF,some (.ref d),a,b,c])/\@G/\G' d=some (.gz (bb (pF (pairsOf pre++pp))))/\G' p3=some (.lst ((j6 r).map enc)))
    ⟨⟨_,_,_,rfl⟩,l3,by rw[bE];exact gd3,g3⟩ (λ_ _ _ h=>⟨trivial,h.2.2.2⟩) ?_ ?_
   .rintro pp x post τ G4 N3 e4 ⟨⟨a,b,c,rfl⟩,l4,gd4,gp4⟩ Bu;have hz:(pairsOf pre++pp).length<=1000:=by
     have:=pairs_len pre;have h5:pp.length<(r.zip (j6 r)).length:=by rw[e4];simp
     rw[mY] at h5;rw[aA];lia
    simp only[gY,cq,aF,gH,bh,pI,ar,kz,ao,ai,ae,aa,cw,iH,lM,ag,av,fj,dC,cY,agR];refine⟨@g,@g,?_⟩;refine gw (k:=x.1.s) (v:=x.2.s) gd4 (aU (EY _) hz) ?_;refine Bu _ _ ⟨⟨_,_,_,rfl⟩,l4.put hd,?_,by rw[cu (cO d3)];exact gp4⟩;rw[ax,<-aS,LG]
   .rintro τ G4 ⟨⟨a,b,c,rfl⟩,l4,gd4,gp4⟩;refine kF _ _ ⟨⟨_,_,_,rfl⟩,l4,?_⟩;have:pairsOf (pre++[r])=pairsOf pre++r.zip (j6 r):=by unfold pairsOf;simp
    rw[this];exact gd4
  .rintro τ G' ⟨⟨a,b,c,rfl⟩,l,gd⟩;exact hN _ _ ⟨⟨_,_,_,rfl⟩,l,gd⟩
 .rintro _ G' ⟨⟨a,b,c,rfl⟩,l,gd⟩;simp only[bK,b8,ar,ae,aa];exact ie l hd gd q
noncomputable def lft(s:T2):T3:=⟨s.a,s.b,0⟩
end P
end K2
end
section
set_option maxHeartbeats 1000000
namespace K2
namespace J
noncomputable def pt:Pr T3->T3->T3
 |[],e=>e
 |p::r,e=>if e=p.1 then p.2 else if e=p.2 then p.1 else pt r e
theorem qk(h:e∉es P):pt P e=e:=by
 induction P with
 |nil=>rfl
 |cons p r ih=>
  rw[es,bF,bF,not_or,not_or] at h;rw[pt,if_neg h.1,if_neg h.2.1,ih h.2.2]
theorem pD(nd:(es P).Nodup)(h:p∈P):pt P p.1=p.2/\pt P p.2=p.1:=by
 induction P with
 |nil=>cases h
 |cons q r ih=>
  rw[es,aT,aT,bF,not_or] at nd;ext u
  .refine⟨by rw[pt,if_pos rfl],?_⟩;rw[pt,if_neg (λz=>nd.1.1 z.symm),if_pos rfl]
  .obtain⟨a,b⟩:=ih nd.2.2 h;have m1:p.1∈es r:=pG.mpr ⟨p,h,@ac⟩;have m2:p.2∈es r:=pG.mpr ⟨p,h,.inr rfl⟩;have ne:∀e∈es r,e≠q.1/\e≠q.2:=λe he=>⟨λz=>nd.1.2 (z ▸ he),λz=>nd.2.1 (z ▸ he)⟩;exact⟨by rw[pt,if_neg (ne _ m1).1,if_neg (ne _ m1).2,a],by rw[pt,if_neg (ne _ m2).1,if_neg (ne _ m2).2,b]⟩
theorem Yw{P:Pr T3}(nd:(es P).Nodup){f:T3->T3}(h1:∀p∈P,f p.1=p.2/\f p.2=p.1)(h2:∀e,e∉es P->f e=e):pt P=f:=by
 funext e;by_cases he:e∈es P
 .obtain⟨p,hp,z⟩:=pG.mp he;rcases z with rfl |rfl
  .rw[(pD nd hp).1,(h1 p hp).1]
  .rw[(pD nd hp).2,(h1 p hp).2]
 .rw[qk he,h2 e he]
theorem Wt(h:P.Perm P')(nd:(es P).Nodup):pt P=pt P':=by
 refine Yw nd (λp hp=>pD ((qt h).nodup_iff.mp nd) (h.mem_iff.mp hp)) λe he=>qk λz=>he ((qt h).mem_iff.mpr z)
theorem IF(nd:(es P).Nodup):Iv (pt P):=by
 intro e;by_cases he:e∈es P
 .obtain⟨p,hp,z⟩:=pG.mp he;rcases z with rfl |rfl
  .rw[(pD nd hp).1,(pD nd hp).2]
  .rw[(pD nd hp).2,(pD nd hp).1]
 .rw[qk he,qk he]
theorem Yx(nd:(es P).Nodup){p:T3×T3}(h:p∈P):p.1≠p.2:=by
 induction P with
 |nil=>cases h
 |cons q r ih=>
  rw[es,aT,aT,bF,not_or] at nd;ext u
  .exact nd.1.1
  .exact ih nd.2.2 h
theorem sy(nd:(es P).Nodup):pt P e≠e↔e∈es P:=by
 refine⟨λh=>iP λz=>h (qk z),λhe=>?_⟩;obtain⟨p,hp,z⟩:=pG.mp he;rcases z with rfl |rfl
 .rw[(pD nd hp).1];exact(Yx nd hp).symm
 .rw[(pD nd hp).2];exact Yx nd hp
theorem ZQ(nd:(es P).Nodup)(h:∀e,pt P e=e):P=[]:=by
 cases P with
 |nil=>rfl
 |cons p r=>exact absurd (h p.1) (sy nd |>.mpr (by simp[es]))
structure OA(l:@bk)(f:T3->T3):Prop where
 nd:(@aP).Nodup
 at':∀e,cN l e=if f e=e then none else some (f e)
theorem vw [@bd]{j:κ}:cN (l.filter λp=>decide (p.1≠k)) j=if j=k then none else cN l j:=by
 induction l with
 |nil=>simp[cN]
 | cons p r ih=>
  unfold cN at *;rw[ck];by_cases h:p.1=k
  .rw[if_neg (by simp[h]),ih];by_cases hj:j=k
   .rw[if_pos hj,if_pos hj]
   .rw[if_neg hj,if_neg hj,cL (by simp[h];exact λz=>hj z.symm)]
  .rw[if_pos (by simp[h])];by_cases hpj:p.1=j
   .rw[cK (by simp[hpj]),cK (by simp[hpj]),if_neg (λz=>h (hpj.trans z))]
   .rw[cL (by simp[hpj]),cL (by simp[hpj]),ih]
def GS(l:@bk)(k:T3):@bk:=l.filter λp=>decide (p.1≠k)
theorem tf [@bd]{k:κ}{v:β}(h:(@aP).Nodup):((ft l k v).map @n).Nodup:=by
 unfold ft;split
 .rw[bq];have:(l.map ((λx:κ×β=>x.1)∘λp=>@cv))=@aP:=by
   refine dO λp _=>?_;show(@cv).1=p.1;split<;>rfl
  rw[this];exact h
 .rename_i hk;rw[aC,cU];refine⟨h,@K,λa ha b hb z=>?_⟩;rw[D8,cz] at hb;obtain⟨p,hp,e⟩:=List.mem_map.mp ha;exact hk (List.any_eq_true.mpr ⟨p,hp,by simp;rw[e,z,hb]⟩)
theorem OA.join(h:OA l f)(iv:Iv f)(xy:x≠y)(hx:f x≠x)(hy:f y≠y):
  cN l x=some (f x)/\cN (GS l x) y=some (f y)/\(f x=y->OA (GS (GS l x) y) (jn f x y))/\(f x≠y->OA (ft (ft (GS (GS l x) y) (f x) (f y)) (f y) (f x)) (jn f x y)):=by
 have a1:cN l x=some (f x):=by rw[h.at',if_neg hx]
 have a2:cN (GS l x) y=some (f y):=by unfold GS;rw[vw,if_neg (λz=>xy z.symm),h.at',if_neg hy]
 have nd2:((GS (GS l x) y).map @n).Nodup:=pT (nk _ (List.filter_sublist.trans mf)) h.nd;have d2:∀e,cN (GS (GS l x) y) e=if e=x\/e=y then none else if f e=e then none else some (f e):=λe=>by
  unfold GS;rw[vw,vw,h.at']
  grind
 have ix:=iv x;have iy:=iv y;refine⟨a1,a2,λe=>⟨nd2,λz=>?_⟩,λe=>⟨tf (tf nd2),λz=>?_⟩⟩
 .have iz:=iv z;rw[d2];unfold jn
  grind (splits:=30)
 .have iz:=iv z;rw[v7,v7,d2];unfold jn
  grind (splits:=30)
end J
end K2
end
section
namespace K2
namespace Y
abbrev Po:=@ae
def ND(l:Po):Prop:=(@aP).Nodup
def c0(l:Po)(k:Int):Int:=(cN l k).getD 0
noncomputable def gV(l:Po):Po:=l.filter λp=>p.2 != 0
def plus(a:Po)(p:Int×Int):Po:=ft a p.1 (c0 a p.1+p.2)
def wK(l m:Po):Po:=m.foldl plus l
def Bq(l m:Po):Po:=gV (wK l m)
def nH(m:Po)(a:Po)(p:Int×Int):Po:=m.foldl (λa q=>plus a (p.1+q.1,p.2*q.2)) a
def mG(l m:Po):Po:=l.foldl (nH m) []
def fW(l m:Po):Po:=gV (mG l m)
def nG(l:Po)(by_ f:Int):Po:=gV (l.map λp=>(p.1+by_,p.2*f))
noncomputable def eW(l:Po):Nat->Po
 |0=>[(0,1)]
 |n+1=>fW (eW l n) l
theorem j0 [@bd]{k:κ}{v:β}(h:k∉@aP):ft l k v=l++[(k,v)]:=by
 unfold ft;rw[if_neg];intro q;obtain⟨p,h1,h2⟩:=List.any_eq_true.mp q;exact h (List.mem_map.mpr ⟨p,h1,@bH⟩)
theorem DR [@bd]{k:κ}{v:β}(h:k∈@aP):ft l k v=l.map (λp=>@cv):=by
 unfold ft;rw[if_pos];obtain⟨p,h1,h2⟩:=List.mem_map.mp h;exact List.any_eq_true.mpr ⟨p,h1,@bH⟩
theorem Qu [@bd](l)(k:κ)(v:β):(ft l k v).map @n=if k∈@aP then @aP else @aP++[k]:=by
 split
 .rename_i h;rw[DR h,bq];refine dO λp _=>?_;show(@cv).1=p.1;split<;>rfl
 .rename_i h;rw[j0 h,aC];rfl
theorem ND.put(h:ND l)(k v):ND (ft l k v):=by
 unfold ND;rw[Qu];split
 .exact h
 .rename_i hk;rw[cU];exact⟨h,@K,λa ha b hb=>by rw[cz] at hb;subst hb;intro z;exact hk (z ▸ ha)⟩
theorem ND.nil:ND []:=cJ
theorem ND.one(k v):ND [(k,v)]:=by unfold ND;simp
theorem ND.tail(h:ND (p::l)):ND l:=by unfold ND at *;rw[ak,aT] at h;exact h.2
theorem ND.head(h:ND (p::l)):p.1∉@aP:=by unfold ND at *;rw[ak,aT] at h;exact h.1
theorem ND.gV(h:ND l):ND (gV l):=by
 unfold ND Y.gV at *;exact pT (nk _ mf) h
theorem vN(h:ND l)(p):ND (plus l p):=h.put _ _
theorem yY{α:Type}(f)(hf:∀a x,ND a->ND (f a x)):∀(xs:@o) (a:Po),ND a->ND (xs.foldl f a)
 |[],_,h=>h
 |x::xs,a,h=>yY f hf xs _ (hf a x h)
theorem IK(h:ND l):ND (wK l m):=yY _ (λa x h=>vN h x) m l h
theorem Gh(h:ND a)(p):ND (nH m a p):=yY _ (λa x h=>vN h _) m a h
theorem w8(l m):ND (mG l m):=yY _ (λa x h=>Gh h x) l [] .nil
theorem W5(h:ND l):ND (Bq l m):=(IK h).gV
theorem qX(l m):ND (fW l m):=(w8 l m).gV
theorem Ip(h:ND l)(b f):ND (l.map λp=>(p.1+b,p.2*f)):=by
 unfold ND at *;rw[bq];have:(l.map ((λx:Int×Int=>x.1)∘λp=>(p.1+b,p.2*f)))=(@aP).map (· + b):=by rw[bq];rfl
 rw[this];exact List.Pairwise.map _ (λa c hac z=>hac @c) h
theorem Pc(h:ND l)(b f):ND (nG l b f):=(Ip h b f).gV
theorem zU(l):∀n,ND (eW l n)
 |0=>.one _ _
 |n+1=>qX _ _
theorem IJ(l)(p):(plus l p).length<=l.length+1:=by unfold plus ft;split<;>simp
theorem vW{α:Type}(f)(c)(hf:∀a x,(f a x).length<=a.length+c):∀(xs:@o) (a:Po),(xs.foldl f a).length<=a.length+xs.length*c
 |[],a=>@K
 |x::xs,a=>by
  have:=vW f c hf xs (f a x);have:=hf a x;rw[dW,ag,Nat.succ_mul];lia
theorem EU(l m):(wK l m).length<=l.length+m.length:=by
 have:=vW plus 1 IJ m l;unfold wK;lia
theorem II(m a)(p):(nH m a p).length<=a.length+m.length:=by
 have:=vW (λa q=>plus a (p.1+q.1,p.2*q.2)) 1 (λa q=>IJ a _) m a;unfold nH;lia
theorem qj(l m):(mG l m).length<=l.length*m.length:=by
 have:=vW (nH m) m.length (λa p=>II m a p) l [];simpa[mG] using this
theorem vP(l):(gV l).length<=l.length:=dM _ _
theorem CJ(l m):(fW l m).length<=l.length*m.length:=aU (vP _) (qj l m)
theorem w9(l):∀n,(eW l n).length<=l.length ^ n
 |0=>by simp[eW]
 |n+1=>aU (CJ _ _) (by rw[zG];exact jr _ (w9 l n))
noncomputable def L(g:Int->Int):Po->Int
 |[]=>0
 |p::l=>p.2*g p.1+L g l
theorem Kk(g):∀(l m:Po),L g (l++m)=L g l+L g m
 |[],m=>by simp[L]
 |p::l,m=>by rw[ay,L,L,Kk g l m];lia
theorem FF{l:Po}(h:k∉@aP):cN l k=none:=by
 unfold cN;have:l.find? (@bM)=none:=by
  rw[fO];intro p hp z;exact h (List.mem_map.mpr ⟨p,hp,by simpa using z⟩)
 rw[this];rfl
theorem Hh:c0 (p::l) k=if p.1=k then p.2 else c0 l k:=by
 unfold c0 cN;rw[dZ];by_cases h:p.1=k<;>simp[h]
theorem FH(g)(k v):∀(l:Po),ND l->k∈@aP->L g (l.map λp=>@cv)=L g l+(v-c0 l k)*g k
 |[],_,h=>@aS
 | p::l,hn,h=>by
  rw[ak,Hh];by_cases e:p.1=k
  .rw[if_pos e,if_pos e,L,L];have:l.map (λp=>@cv)=l:=by
    conv=>rhs;rw[<-oK l]
    refine dO λq hq=>?_;rw[if_neg];rfl;intro z;exact hn.head (by rw[e,<-z];exact cf hq)
   rw[this];show v*g p.1+L g l=_;rw[e,Int.sub_mul];lia
  .rw[if_neg e,if_neg e,L,L,FH g k v l hn.tail (by
    rw[ak,bF] at h;rcases h with h |h
    .exact absurd h.symm e
    .exact h)]
   lia
theorem adX(g)(hn:ND l)(k v):L g (ft l k v)=L g l+(v-c0 l k)*g k:=by
 by_cases h:k∈@aP
 .rw[DR h];exact FH g k v l hn h
 .rw[j0 h,Kk];have:c0 l k=0:=by unfold c0;rw[FF h];rfl
  rw[this];simp[L]
theorem Vb(g)(hn:ND l)(p):L g (plus l p)=L g l+p.2*g p.1:=by
 unfold plus;rw[adX g hn];congr 1;rw[show c0 l p.1+p.2-c0 l p.1=p.2 by lia]
theorem B2(g):∀(l:Po),L g (gV l)=L g l
 |[]=>rfl
 |p::l=>by
  have ih:=B2 g l;unfold gV at *;rw[ck];by_cases h:p.2=0
  .rw[if_neg (by simp[h]),ih,L,h];simp
  .rw[if_pos (by simp[h]),L,L,ih]
theorem Vc(g):∀(m l:Po),ND l->L g (m.foldl plus l)=L g l+L g m
 |[],l,_=>by simp[L]
 |p::m,l,h=>by
  rw[dW,Vc g m _ (vN h p),Vb g h,L];lia
theorem abp(g)(h:ND l)(m):L g (Bq l m)=L g l+L g m:=by
 unfold Bq wK;rw[B2,Vc g m l h]
theorem Va(g)(p):∀(m a:Po),ND a->L g (nH m a p)=L g a+p.2*L (λj=>g (p.1+j)) m
 |[],a,_=>by simp[nH,L]
 |q::m,a,h=>by
  have ih:=Va g p m (plus a (p.1+q.1,p.2*q.2)) (vN h _);unfold nH at *;rw[dW,ih,Vb g h,L,K0];show L g a+p.2*q.2*g (p.1+q.1)+_=_;rw[Int.mul_assoc];lia
theorem zq(g)(l m):L g (fW l m)=L (λi=>L (λj=>g (i+j)) m) l:=by
 unfold fW mG;rw[B2];have:∀(l a:Po),ND a->L g (l.foldl (nH m) a)=L g a+L (λi=>L (λj=>g (i+j)) m) l:=by
  intro l;induction l with
  |nil=>intro a _;simp[L]
  |cons p l ih=>
   intro a h;rw[dW,ih _ (Gh h p),Va g p m a h,L];lia
 rw[this l [] .nil];simp[L]
theorem Bj(g)(b f):∀(l:Po),L g (l.map λp=>(p.1+b,p.2*f))=f*L (λi=>g (i+b)) l
 |[]=>by simp[L]
 |p::l=>by
  rw[ak,L,Bj g b f l,L,K0];congr 1;show p.2*f*g (p.1+b)=f*(p.2*g (p.1+b));rw[Int.mul_comm p.2 f,Int.mul_assoc]
theorem U9(g)(b f)(l):L g (nG l b f)=f*L (λi=>g (i+b)) l:=by
 unfold nG;rw[B2,Bj]
theorem Zf(g h):∀(l:Po),L (λi=>g i+h i) l=L g l+L h l
 |[]=>rfl
 |p::l=>by rw[L,L,L,Zf g h l,K0];lia
theorem US(h:k∉@aP):c0 l k=0:=by unfold c0;rw[FF h];rfl
theorem Oy(hn:ND l)(k):L (λi=>if i=k then 1 else 0) l=c0 l k:=by
 induction l with
 |nil=>rfl
 |cons p l ih=>
  rw[L,ih hn.tail,Hh];by_cases h:p.1=k
  .have:c0 l k=0:=US (h ▸ hn.head);simp[h,this]
  .simp[h]
def NZ(l:Po):Prop:=∀p∈l,p.2≠0
theorem yx(l):NZ (gV l):=λp h=>by
 have:=(List.mem_filter.mp h).2;ext p
theorem rO(hn:ND l)(h:p∈l):cN l p.1=@a3:=by
 induction l with
 |nil=>cases h
 |cons q l ih=>
  unfold cN;rw[dZ];ext u
  .simp
  .have:q.1≠p.1:=λz=>hn.head (by rw[z];exact cf h);simp only[this,decide_false];exact ih hn.tail h
theorem UT(hn:ND l)(h:p∈l):c0 l p.1=p.2:=by unfold c0;rw[rO hn h];rfl
theorem S7(h:c0 l k≠0):(k,c0 l k)∈l:=by
 unfold c0 at *;unfold cN at *;cases q:l.find? (@bM) with
 |none=>rw[q] at h;exact absurd rfl h
 |some p=>
  have h1:=rS q;have h2:=jc q;simp at h1;simp only[xD,pM];rw[<-h1];exact h2
theorem ju:∀(xs ys:@D),xs.Nodup->(∀x∈xs,x∈ys)->xs.length<=ys.length
 |[],_,_,_=>cI _
 |x::xs,ys,hn,h=>by
  rw[aT] at hn;have:=ju xs (ys.erase x) hn.2 λy hy=>(AF (show y≠x from λz=>hn.1 (by rw[<-z];exact hy))).mpr (h y (aI _ hy));have hx:=h x @f;rw[vK hx] at this;have:=xH hx;rw[ag];lia
theorem sub_len(hl:ND l)(zl:NZ l)(h:∀k,c0 l k=c0 m k):l.length<=m.length:=by
 have:=ju (l.map λp:Int×Int=>p.1) (m.map λp:Int×Int=>p.1) hl λk hk=>by
  obtain⟨p,hp,rfl⟩:=List.mem_map.mp hk;have h1:c0 m p.1≠0:=by rw[<-h,UT hl hp];exact zl p hp
  exact cf (f:=@n) (S7 h1)
 ext p
theorem XS(hl:ND l)(hm:ND m)(zl:NZ l)(zm:NZ m)(h:∀k,c0 l k=c0 m k):BA l m=true:=by
 unfold BA;rw[aL];refine⟨?_,List.all_eq_true.mpr λp hp=>?_⟩
 .have h1:=sub_len hl zl h;have h2:=sub_len hm zm λk=>(h k).symm;simpa using Nat.le_antisymm h1 h2
 .have h1:c0 m p.1=p.2:=by rw[<-h,UT hl hp]
  have h2:c0 m p.1≠0:=by rw[h1];exact zl p hp
  have:=rO hm (S7 h2);rw[h1] at this;simp only at this;rw[this];simp
theorem GQ(hl:ND l)(hm:ND m)(zl:NZ l)(zm:NZ m)(h:∀g,L g l=L g m):BA l m=true :=
 XS hl hm zl zm λk=>by rw[<-Oy hl,<-Oy hm,h]
noncomputable def fF:Po->Nat
 |[]=>0
 |p::l=>p.2.natAbs+fF l
theorem CS:∀(l m:Po),fF (l++m)=fF l+fF m
 |[],m=>by simp[fF]
 |p::l,m=>by rw[ay,fF,fF,CS l m];lia
theorem yC(h:p∈l):p.2.natAbs<=fF l:=by
 induction l with
 |nil=>cases h
 |cons q l ih=>
  rw[fF];ext u
  .lia
  .have:=ih h;lia
theorem AU(k v):∀(l:Po),ND l->k∈@aP->fF (l.map λp=>@cv)+(c0 l k).natAbs=fF l+v.natAbs
 |[],_,h=>@aS
 | p::l,hn,h=>by
  rw[ak,Hh];by_cases e:p.1=k
  .rw[if_pos e,if_pos e,fF,fF];have:l.map (λp=>@cv)=l:=by
    conv=>rhs;rw[<-oK l]
    refine dO λq hq=>?_;rw[if_neg];rfl;intro z;exact hn.head (by rw[e,<-z];exact cf hq)
   rw[this];show v.natAbs+fF l+_=_;lia
  .have:=AU k v l hn.tail (by
    rw[ak,bF] at h;rcases h with h |h
    .exact absurd h.symm e
    .exact h)
   rw[if_neg e,if_neg e,fF,fF];lia
theorem IS(hn:ND l)(p):fF (plus l p)<=fF l+p.2.natAbs:=by
 unfold plus;by_cases h:p.1∈@aP
 .rw[DR h];have:=AU p.1 (c0 l p.1+p.2) l hn h;have:=Int.natAbs_add_le (c0 l p.1) p.2;lia
 .rw[j0 h,CS,US h];simp[fF]
theorem zW(l):fF (gV l)<=fF l:=by
 induction l with
 |nil=>exact aH _
 |cons p l ih=>
  unfold gV at *;rw[ck];split
  .rw[fF,fF];lia
  .rw[fF];lia
theorem IQ(p):∀(m a:Po),ND a->fF (nH m a p)<=fF a+p.2.natAbs*fF m
 |[],a,_=>by simp[nH,fF]
 |q::m,a,h=>by
  have ih:=IQ p m (plus a (p.1+q.1,p.2*q.2)) (vN h _);have:=IS h (p.1+q.1,p.2*q.2);unfold nH at *;rw[dW,fF,Nat.mul_add];have e:(p.2*q.2).natAbs=p.2.natAbs*q.2.natAbs:=Int.natAbs_mul _ _;simp only at this;lia
theorem xg(l m):fF (fW l m)<=fF l*fF m:=by
 refine aU (zW _) ?_;unfold mG;have:∀(l a:Po),ND a->fF (l.foldl (nH m) a)<=fF a+fF l*fF m:=by
  intro l;induction l with
  |nil=>intro a _;simp[fF]
  |cons p l ih=>
   intro a h;rw[dW];have h1:=ih _ (Gh (m:=m) h p);have h2:=IQ p m a h;rw[fF,Nat.add_mul];lia
 have:=this l [] .nil;simpa[fF] using this
theorem sD(l):∀n,fF (eW l n)<=fF l ^ n
 |0=>by simp[eW,fF]
 |n+1=>aU (xg _ _) (by rw[zG];exact jr _ (sD l n))
theorem IT:∀(m l:Po),ND l->fF (m.foldl plus l)<=fF l+fF m
 |[],l,_=>by simp[fF]
 |p::m,l,h=>by
  have h1:=IT m _ (vN h p);have h2:=IS h p;rw[dW,fF];lia
theorem SQ(h:ND l)(m):fF (Bq l m)<=fF l+fF m:=aU (zW _) (IT m l h)
theorem Ph(l):∀n,NZ (eW l n)
 |0=>λp h=>by
  simp only[eW,cz] at h;subst h;decide
 |n+1=>yx _
end Y
end K2
end
section
namespace K2
open PySem (Str)
open Enc (enc)
theorem RX{κ α:Type} [@bd] [Enc κ] [vJ κ] [@Q] [@ab]{a:Nat}{l:@b8}{k:κ}{v:α}{G:Gp}{Q:DK}(h:G a=some (.gz (bb l)))(hv:cN l k=@W)(q:Q (enc v) G):fQ @u (enc k) G Q:=by
 rw[Wn h (k9 l k) (by rw[rF,hv];rfl)];exact q
theorem Nd{α:Type} [@Q] [@ab]{neg:Bool}{x:α}{xs:@o}{G:Gp}{Q:DK}(hd:Enc.dep α<=7)(q:Q (.bl (if neg then !decide (x∈xs) else decide (x∈xs))) G):O7 neg (enc x) (enc xs) G Q:=by
 refine⟨enc x,xs.map enc,Enc.sn _ _ _ (by unfold SN;lia),uL G 7 hd xs,?_⟩;rw[Ov];exact q
theorem Gd{α:Type} [@Q] [@ab]{neg:Bool}{x y:α}{G:Gp}{Q:DK}(hd:Enc.dep α<=8)(q:Q (.bl (if neg then !decide (x=y) else decide (x=y))) G):zT neg (enc x) (enc y) G Q:=by
 refine⟨enc x,enc y,Enc.sn _ _ _ hd,Enc.sn _ _ _ hd,?_⟩;rw[Enc.eqv];exact q
class MM (α:Type) [@Q] [@ab] [a9 α] where
 mn:∀{x:D} {G:Gp} {xs:@o} {Q:DK},itemsOf x G=some @bu->xs≠[]->(∀m∈xs,(∀y∈xs,Jj m y=true)->Q (enc m) G)->MA [x] G Q
theorem mw [@Q] [@ab] [a9 α]:∀(r:@o) (a:α),r.foldl (λm x=>if a9.lt x m=true then x else m) a∈a::r/\∀y∈a::r,Jj (r.foldl (λm x=>if a9.lt x m=true then x else m) a) y=true
 |[],a=>⟨@K,λy hy=>by rw[List.mem_singleton.mp hy];unfold Jj;rw[List.foldl_nil,a9.Kw];rfl⟩
 | b :: r,a=>by
  rw[dW];by_cases c:a9.lt b a=true
  .rw[if_pos c];obtain⟨h1,h2⟩:=mw r b;refine⟨aI _ h1,λy hy=>?_⟩;rcases List.mem_cons.mp hy with rfl |hy
   .refine E7 _ _ _ (h2 b @f) ?_;unfold Jj;cases q:a9.lt y b with
    |false=>rfl
    |true=>have:=a9.trans _ _ _ q c;rw[a9.Kw] at this;ext f
   .exact h2 y hy
  .rw[if_neg c];obtain⟨h1,h2⟩:=mw r a;refine⟨?_,λy hy=>?_⟩
   .rcases List.mem_cons.mp h1 with h |h
    .rw[h];simp
    .exact aI _ (aI _ h)
   .rcases List.mem_cons.mp hy with rfl |hy
    .exact h2 y @f
    .rcases List.mem_cons.mp hy with rfl |hy
     .refine E7 _ _ _ (h2 a @f) ?_;unfold Jj;simpa using c
     .exact h2 y (aI _ hy)
instance:MM Int where
 mn:=by
  intro x G xs Q hi pX k;cases xs with
  |nil=>exact absurd rfl pX
  | cons a r=>
   obtain⟨h1,h2⟩:=mw r a;refine .inl ⟨a::r,_,hi,rfl,?_⟩;have:(λ(m x:Int)=>if x<m then x else m)=λm x=>if a9.lt x m=true then x else m:=by
    funext m x;show(if x<m then x else m)=if decide (x<m)=true then x else m
    simp
   show Q (enc (r.foldl (λm x=>if x<m then x else m) a)) G;rw[this];exact k _ h1 h2
theorem Dc:∀(x y:@D),ua (λa b=>decide (a<b)) x y=lexLt x y
 |[],[]=>rfl
 |[],_::_=>rfl
 |_::_,[]=>rfl
 |a::x,b::y=>by simp only[zZ,lexLt,Dc x y]
instance:MM T3 where
 mn:=by
  intro x G xs Q hi pX k;cases xs with
  |nil=>exact absurd rfl pX
  | cons a r=>
   obtain⟨h1,h2⟩:=mw r a;have ei:itemsOf x G=some (((a::r).map T3.l).map tI):=by rw[hi,bq];rfl
   refine .inr ⟨(a::r).map T3.l,_,ei,rfl,?_⟩;have:∀(r:@r) (a:T3),(r.map T3.l).foldl (λm x=>if lexLt x m=true then x else m) a.l=(r.foldl (λm x=>if a9.lt x m=true then x else m) a).l:=by
    intro r;induction r with
    |nil=>intro a;rfl
    | cons b r ih=>
     intro a;rw[ak,dW,dW];have e:(if lexLt b.l a.l=true then b.l else a.l)=(if a9.lt b a=true then b else a).l:=by
      have:a9.lt b a=lexLt b.l a.l:=Dc _ _;rw[this];split<;>rfl
     rw[e];exact ih _
   rw[this r a];exact k _ h1 h2
namespace P
theorem j0 [@bd]{k:κ}{v:β}(h:k∉@aP):ft l k v=l++[(k,v)]:=by
 unfold ft;rw[if_neg];intro q;obtain⟨p,h1,h2⟩:=List.any_eq_true.mp q;exact h (List.mem_map.mpr ⟨p,h1,@bH⟩)
theorem Jz{γ:Type} [@bd](kf:γ->κ)(vf:γ->β):∀(ps:List γ) (l:List (κ×β)),(@aP++ps.map kf).Nodup->ps.foldl (λl p=>ft l (kf p) (vf p)) l=l++ps.map λp=>(kf p,vf p)
 |[],l,_=>@K
 | p::ps,l,h=>by
  rw[dW,j0 (λz=>by
   rw[ak,cU] at h;exact h.2.2 _ z _ @f rfl),Jz kf vf ps _ (@b2)]
  simp
theorem vt [@bd]:∀{l:List (κ×β)} {p:κ×β},(@aP).Nodup->p∈l->cN l p.1=@a3
 |q::l,p,hn,h=>by
  unfold cN;rw[dZ];ext u
  .simp
  .rw[ak,aT] at hn;have:q.1≠p.1:=λz=>hn.1 (by rw[z];exact cf h);simp only[this,decide_false];exact vt hn.2 h
theorem Jb [@bd]{k:κ}(h:cN l k=@W):(k,v)∈l:=by
 unfold cN at h;cases q:l.find? (@bM) with
 |none=>rw[q] at h;cases h
 |some p=>
  rw[q] at h;have h1:=rS q;have h2:=jc q;simp at h h1;rw[<-h,<-h1];exact h2
theorem AG(r):(j6 r).length=r.length:=by unfold j6;rw[aA,bP,bO];lia
theorem FW(r):(j6 r).Perm r:=by
 unfold j6;exact List.perm_append_comm.trans (by rw[dJ])
theorem qZ(rows):(@a2).map @n=rows.flatten:=by
 unfold pairsOf;induction rows with
 |nil=>rfl
 |cons r rs ih=>
  rw[cD,aC,ih,cV];congr 1;rw[List.map_fst_zip];rw[AG];exact aH _
theorem qY(rows):((@a2).map (·.2)).Perm rows.flatten:=by
 unfold pairsOf;induction rows with
 |nil=>exact .refl _
 |cons r rs ih=>
  rw[cD,aC,cV];refine lj ?_ ih;rw[List.map_snd_zip]
  .exact FW r
  .rw[AG];exact aH _
variable {rows:Rows}
theorem Ur(d:@Z):((@a2).map λp=>p.1.s).Nodup:=by
 have:((@a2).map λp=>p.1.s)=@c0:=by rw[<-qZ,bq];rfl
 rw[this];exact d.nd
theorem ZE(d:@Z):((@a2).map λp=>p.2.s).Nodup:=by
 have:((@a2).map λp=>p.2.s)=((@a2).map (·.2)).map T3.s:=by rw[bq];rfl
 rw[this,((qY rows).map T3.s).nodup_iff];exact d.nd
theorem S3(d:@Z):pF (@a2)=(@a2).map λp=>(p.1.s,p.2.s):=by
 unfold pF;rw[Jz (λp:T3×T3=>p.1.s) (λp=>p.2.s) _ _ (by simpa using Ur d)];rfl
def pas(rows:Rows)(s:T2):T3:=(rows.flatten.find? λp=>decide (p.s=s)).getD ⟨0,0,0⟩
noncomputable def mt(p:T3):T2:=⟨p.a,1-p.b⟩
theorem Nr(d:@Z)(h:@cP):pas rows p.s=p:=by
 unfold pas;cases q:rows.flatten.find? (λx=>decide (x.s=p.s)) with
 |none=>rw[fO] at q;exact absurd @f (q p h)
 | some x=>
  have h1:=rS q;have h2:=jc q;have h1:x.s=p.s:=@cx
  have:∀(L:@r),(L.map T3.s).Nodup->x∈L->p∈L->x=p:=by
   intro L;induction L with
   |nil=>intro _ h;cases h
   | cons y L ih=>
    intro hn hx hp;rw[ak,aT] at hn;rcases List.mem_cons.mp hx with e1 |hx2
    .rcases List.mem_cons.mp hp with e2 |nP
     .rw[e1,e2]
     .exact absurd (by rw[<-e1,h1];exact cf nP) hn.1
    .rcases List.mem_cons.mp hp with e2 |nP
     .exact absurd (by rw[<-e2,<-h1];exact cf hx2) hn.1
     .exact ih hn.2 hx2 nP
  exact this _ d.nd h2 h
theorem Uh(h:@cP):∃q,(p,q)∈@a2/\q∈rows.flatten:=by
 rw[<-qZ] at h;obtain⟨x,hx,rfl⟩:=List.mem_map.mp h;exact⟨x.2,hx,(qY rows).mem_iff.mp (cf hx)⟩
theorem Ug(h:q∈rows.flatten):∃p,(p,q)∈@a2/\@cP:=by
 rw[<-(qY rows).mem_iff] at h;obtain⟨x,hx,rfl⟩:=List.mem_map.mp h;exact⟨x.1,hx,by rw[<-qZ];exact cf hx⟩
noncomputable def om(p:T3):T3:=⟨p.a,1-p.b,p.c⟩
theorem SK(d:@Z)(h:@cP):om p∈rows.flatten:=d.CY p h
theorem YB(p):om (om p)=p:=by
 unfold om;cases p;simp only[T3.mk.injEq,true_and,and_true];lia
theorem oQ:n∈@T↔∃p∈rows.flatten,p.b=0/\p.a=n:=by
 unfold names;rw[Wa,List.mem_map];constructor
 .rintro⟨p,h,rfl⟩;obtain⟨h1,h2⟩:=List.mem_filter.mp h;exact⟨p,h1,@bH,rfl⟩
 .rintro⟨p,h1,h2,rfl⟩;exact⟨p,List.mem_filter.mpr ⟨h1,@bH⟩,rfl⟩
theorem NW(d:@Z)(h:@cP):handOf rows p.a=p.c:=by
 unfold handOf;cases q:rows.flatten.find? (λx=>x.a == p.a) with
 |none=>rw[fO] at q;exact absurd @f (q p h)
 | some x=>
  have h1:x.a=p.a:=by simpa using rS q
  have h2:=jc q;show x.c=p.c;have hw:=d.way p h;have hw2:=d.way x h2;by_cases e:x.b=p.b
  .have:x.s=p.s:=by unfold T3.s;rw[h1,e]
   have e1:=Nr d h2;rw[this,Nr d h] at e1;rw[e1]
  .have:(om x).s=p.s:=by unfold T3.s om;rw[h1];congr 1;dsimp only;lia
   have e1:=Nr d (SK d h2);rw[this,Nr d h] at e1;rw[e1];rfl
end P
end K2
end
section
set_option maxHeartbeats 1000000
namespace K2
open Enc (enc)
instance {α β:Type} [@Q] [@ab] [a9 α] [DecidableEq β] [Enc β] [a9 β]:a9 (α×β) where
 lt:=λx y=>if x.1=y.1 then a9.lt x.2 y.2 else a9.lt x.1 y.1
 Ej:=.tup [a9.Ej α,a9.Ej β]
 Dp:=λx=>by
  show(df _ (enc x.1)&&(df _ (enc x.2)&&true))=true;rw[a9.Dp,a9.Dp];rfl
 Vz:=λx y=>by
  show oA [enc x.1,enc x.2] [enc y.1,enc y.2]=_;rw[pH,pH,Enc.eqv,Enc.eqv,a9.Vz,a9.Vz,show oA [] []=false from rfl];by_cases h:x.1=y.1
  .simp only[h,decide_true,if_true];by_cases h2:x.2=y.2
   .simp only[h2,decide_true,if_true];exact(a9.Kw _).symm
   .simp only[h2,decide_false,aj,if_false]
  .simp only[h,decide_false,aj,if_false]
 Kw:=λx=>by simp only[if_true];exact a9.Kw _
 trans:=λx y z h1 h2=>by
  by_cases e1:x.1=y.1
  .rw[if_pos e1] at h1;by_cases e2:y.1=z.1
   .rw[if_pos e2] at h2;rw[if_pos (e1.trans e2)];exact a9.trans _ _ _ h1 h2
   .rw[if_neg e2] at h2;rw[if_neg (λq=>e2 (e1.symm.trans q)),e1];exact h2
  .rw[if_neg e1] at h1;by_cases e2:y.1=z.1
   .rw[if_neg (λq=>e1 (q.trans e2.symm)),<-e2];exact h1
   .rw[if_neg e2] at h2;have h3:=a9.trans _ _ _ h1 h2;rw[if_neg (λq=>by rw[q,a9.Kw] at h3;cases h3)];exact h3
 pW:=λx y h1 h2=>by
  by_cases e1:x.1=y.1
  .rw[if_pos e1] at h1;rw[if_pos e1.symm] at h2;exact Prod.ext e1 (a9.pW _ _ h1 h2)
  .rw[if_neg e1] at h1;rw[if_neg (λq=>e1 q.symm)] at h2;exact absurd (a9.pW _ _ h1 h2) e1
namespace J
def Pk(l:@bk):Pr T3:=Vy (l.filter λp=>a9.lt p.1 p.2)
theorem CW [@bd]:∀{l:List (κ×β)},(@aP).Nodup->∀{p:κ×β},p∈l->cN l p.1=@a3
 |[],_,_,h=>@aS
 |q::l,nd,p,h=>by
  rw[ak,aT] at nd;unfold cN;ext u
  .rw[cK @f];rfl
  .have:¬ q.1=p.1:=λz=>nd.1 (by rw[z];exact cf h);rw[cL (by ext p)];exact CW nd.2 h
theorem Hn [@bd]{k:κ}(h:cN l k=@W):(k,v)∈l:=by
 unfold cN at h;obtain⟨p,h1,h2⟩:=Option.map_eq_some_iff.mp h;have h3:=rS h1;have h4:=jc h1;simp at h3;rw[<-h3,<-h2];exact h4
theorem OA.mem(h:OA l f)(hp:p∈l):f p.1=p.2/\f p.1≠p.1:=by
 have a:=CW h.nd hp;rw[h.at'] at a;split at a
 .cases a
 .rename_i z;exact⟨aZ a,z⟩
theorem Xv [@Q] [@ab] [a9 α]{b:α}(h1:a9.lt a b=true)(h2:a9.lt b a=true):False:=by
 have:=a9.trans _ _ _ h1 h2;rw[a9.Kw] at this;ext f
theorem N8(iv:Iv f):∀{l:@bk},(@aP).Nodup->(∀p∈l,f p.1=p.2)->(es (l.filter λp=>a9.lt p.1 p.2)).Nodup
 |[],_,_=>cJ
 | p::l,nd,h=>by
  rw[ak,aT] at nd;have ih:=N8 iv nd.2 λq hq=>h q (aI _ hq);rw[ck];split
  .rename_i hl;have fp:=h p @f;rw[es,aT,aT,bF,not_or];have out:∀q∈l.filter (λp=>a9.lt p.1 p.2),p.1≠q.1/\p.1≠q.2/\p.2≠q.1/\p.2≠q.2:=λq hq=>by
    have YU:=List.mem_filter.mp hq;have fq:=h q (aI _ YU.1);have n1:p.1≠q.1:=λz=>nd.1 (by rw[z];exact cf YU.1);have n2:p.1=q.2->p.2=q.1:=λz=>by rw[<-fp,z,<-fq,iv]
    have n3:p.2=q.1->p.1=q.2:=λz=>by rw[<-fq,<-z,<-fp,iv]
    have Za:¬ (p.1=q.2/\p.2=q.1):=λ⟨a,b⟩=>Xv hl (by rw[a,b];exact YU.2);refine⟨n1,λz=>Za ⟨z,n2 z⟩,λz=>Za ⟨n3 z,z⟩,λz=>n1 ?_⟩;have:=congrArg f z;rw[<-fp,<-fq,iv,iv] at this;ext g
   have ne:p.1≠p.2:=λz=>by rw[z,a9.Kw] at hl;cases hl
   refine⟨⟨ne,λz=>?_⟩,λz=>?_,ih⟩
   .obtain⟨q,hq,e⟩:=pG.mp z;rcases e with e |e
    .exact(out q hq).1 e
    .exact(out q hq).2.1 e
   .obtain⟨q,hq,e⟩:=pG.mp z;rcases e with e |e
    .exact(out q hq).2.2.1 e
    .exact(out q hq).2.2.2 e
  .exact ih
theorem Np(h:OA l f)(iv:Iv f):(es (Pk l)).Nodup/\pt (Pk l)=f:=by
 have sp:=uI (l.filter λp=>a9.lt p.1 p.2);have nd0:=N8 iv h.nd λp hp=>(h.mem hp).1;have nd:(es (Pk l)).Nodup:=(qt sp).nodup_iff.mpr nd0;refine⟨nd,Yw nd (λp hp=>?_) λe he=>?_⟩
 .have z9:=(List.mem_filter.mp (sp.mem_iff.mp hp)).1;have:=(h.mem z9).1;exact⟨this,by rw[<-this,iv]⟩
 .refine iP λz=>he ?_;have a1:cN l e=some (f e):=by rw[h.at',if_neg z]
  have z2:f (f e)≠f e:=λq=>z (by rw[iv] at q;exact q.symm);have a2:cN l (f e)=some e:=by rw[h.at',if_neg z2,iv]
  have m1:=Hn a1;have m2:=Hn a2;rw[pG];by_cases hl:a9.lt e (f e)=true
  .exact⟨(e,f e),sp.mem_iff.mpr (List.mem_filter.mpr ⟨m1,hl⟩),@ac⟩
  .by_cases Bt:a9.lt (f e) e=true
   .exact⟨(f e,e),sp.mem_iff.mpr (List.mem_filter.mpr ⟨m2,Bt⟩),.inr rfl⟩
   .exact absurd (a9.pW _ _ (by simpa using Bt) (by simpa using hl)) z
def Ml(P:Pr T3):@bk:=P.foldl (λl p=>ft (ft l p.1 p.2) p.2 p.1) []
theorem N7:∀{P:Pr T3},(es P).Nodup->OA (Ml P) (pt P):=by
 have main:∀(P:Pr T3) (l:@bk) (f:T3->T3),OA l f->(es P).Nodup->(∀e∈es P,f e=e)->OA (P.foldl (λl p=>ft (ft l p.1 p.2) p.2 p.1) l) (λe=>if e∈es P then pt P e else f e):=by
  intro P;induction P with
  |nil=>
   intro l f h _ _;have:(λe=>if e∈es ([]:Pr T3) then pt [] e else f e)=f:=by funext e;simp[es]
   rw[this];exact h
  | cons p P ih=>
   intro l f h nd hf;rw[es,aT,aT,bF,not_or] at nd;have f1:f p.1=p.1:=hf _ (by simp[es]);have f2:f p.2=p.2:=hf _ (by simp[es]);have h2:OA (ft (ft l p.1 p.2) p.2 p.1) (λe=>if e=p.1 then p.2 else if e=p.2 then p.1 else f e):=by
    refine⟨tf (tf h.nd),λe=>?_⟩;rw[v7,v7,h.at'];have:=nd.1.1
    grind
   have:=ih _ _ h2 nd.2.2 λe he=>by
    have m1:e≠p.1:=λz=>nd.1.2 (z ▸ he);have m2:e≠p.2:=λz=>nd.2.1 (z ▸ he);simp only[if_neg m1,if_neg m2];exact hf e (by simp[es,he])
   rw [dW];have e2:(λe=>if e∈es (p::P) then pt (p::P) e else f e)=λe=>if e∈es P then pt P e else if e=p.1 then p.2 else if e=p.2 then p.1 else f e:=by
    funext e;rw[es,pt];by_cases he:e∈es P
    .have m1:e≠p.1:=λz=>nd.1.2 (z ▸ he);have m2:e≠p.2:=λz=>nd.2.1 (z ▸ he);rw[if_pos (by simp[he]),if_neg m1,if_neg m2,if_pos he]
    .rw[if_neg he];by_cases m1:e=p.1
     .rw[if_pos (by simp[m1]),if_pos m1,if_pos m1]
     .by_cases m2:e=p.2
      .rw[if_pos (by simp[m2]),if_neg m1,if_pos m2,if_neg m1,if_pos m2]
      .rw[if_neg (by simp[m1,m2,he]),if_neg m1,if_neg m2]
   rw[e2];ext g
 intro P nd;have:=main P [] (λe=>e) ⟨cJ,λe=>by simp[cN]⟩ nd (λ_ _=>rfl);have e2:(λe=>if e∈es P then pt P e else e)=pt P:=by
  funext e;by_cases he:e∈es P
  .rw[if_pos he]
  .rw[if_neg he,qk he]
 rw[e2] at this;ext g
theorem N6(P):(Ml P).length<=2*P.length:=by
 have:∀(P:Pr T3) (l:@bk),(P.foldl (λl p=>ft (ft l p.1 p.2) p.2 p.1) l).length<=l.length+2*P.length:=by
  intro P;induction P with
  |nil=>intro l;simp
  |cons p P ih=>
   intro l;have h1:=ih (ft (ft l p.1 p.2) p.2 p.1);have h2:=vr (ft l p.1 p.2) p.2 p.1;have h3:=vr l p.1 p.2;rw[dW,ag];lia
 have:=this P [];simpa[Ml] using this
end J
end K2
end
section
set_option maxHeartbeats 1000000
namespace K2
open Enc (enc)
namespace J
open Y (Po L ND NZ fF Bq fW nG eW)
def qH(P:Pr T3):PK:=P.map λp=>[p.1.l,p.2.l]
noncomputable def agP:List (@D)->T3×T3
 |[[a,b,c],[x,y,z]]=>(⟨a,b,c⟩,⟨x,y,z⟩)
 |_=>(⟨0,0,0⟩,⟨0,0,0⟩)
def dec(k:PK):Pr T3:=k.map agP
theorem Mt(P):dec (qH P)=P:=by
 unfold dec qH;rw[bq]
 conv=>rhs;rw[<-oK P]
 rfl
theorem Si(P):tH (qH P)=.tup (P.map enc):=by
 unfold tH qH;rw[bq];rfl
abbrev Su:=List (PK×Po)
def jI(S:Su):@cd:=S.map λp=>(p.1,D.kU (bb p.2))
theorem E5(S)(k):tK (jI S) k=(cN S k).map λl=>D.kU (bb l):=by
 unfold tK cN jI;rw[List.find?_map,Option.map_map,Option.map_map];rfl
theorem R5(S)(k)(l):O9 (jI S) k (.kU (bb l))=jI (ft S k l):=by
 unfold O9 ft jI;rw[List.any_map];split
 .rename_i h;rw[if_pos (by simpa[Vq] using h),bq,bq];refine dO λp _=>?_;simp only[Function.comp];split<;>rfl
 .rename_i h;rw[if_neg (by simpa[Vq] using h),aC];rfl
noncomputable def pW(ns:@ae)(g:Fn):Su->Int
 |[]=>0
 |p::S=>L (λj=>Br (pt (dec p.1)) ns (sh j g)) p.2+pW ns g S
theorem M3(ns)(g)(S S'):pW ns g (S++S')=pW ns g S+pW ns g S':=by
 induction S with
 |nil=>simp[pW]
 |cons p S ih=>rw[ay,pW,pW,ih];lia
theorem V4(ns)(g)(k)(l):∀{S:Su},(S.map @n).Nodup->pW ns g (ft S k l)=pW ns g S+(L (λj=>Br (pt (dec k)) ns (sh j g)) l-L (λj=>Br (pt (dec k)) ns (sh j g)) ((cN S k).getD []))
 | S,nd=>by
  unfold ft;split
  .rename_i h;have main:∀{S:Su},(S.map @n).Nodup->(S.any @bM)=true->pW ns g (S.map λp=>if p.1=k then(p.1,l) else p)=pW ns g S+(L (λj=>Br (pt (dec k)) ns (sh j g)) l-L (λj=>Br (pt (dec k)) ns (sh j g)) ((cN S k).getD [])):=by
    intro S;induction S with
    |nil=>intro _ h;cases h
    | cons p S ih=>
     intro nd h;rw[ak,aT] at nd;rw[ak,pW,pW];by_cases e:p.1=k
     .have e2:(S.map λp=>if p.1=k then(p.1,l) else p)=S:=by
       conv=>rhs;rw[<-oK S]
       refine dO λq hq=>?_;rw[if_neg];rfl;intro z;exact nd.1 (by rw[e,<-z];exact cf hq)
      have e3:cN (p::S) k=@a3:=by unfold cN;rw[cK (@bV)];rfl
      rw[e2,e3,if_pos e,e];simp only[pM];lia
     .have e3:cN (p::S) k=cN S k:=by unfold cN;rw[cL (@bV)]
      rw[e3,if_neg e,ih nd.2 (by simpa[e] using h)];lia
   exact main nd h
  .rename_i h;rw[M3];have e3:cN S k=none:=by
    unfold cN;have:S.find? (@bM)=none:=by
     rw[fO];intro p hp z;exact h (List.any_eq_true.mpr ⟨p,hp,z⟩)
    rw[this];rfl
   rw[e3];show pW ns g S+(L _ l+0)=_;simp only[EE,L];lia
noncomputable def LP:Po:=[(2,-1),(-2,-1)]
theorem ag0(g)(i):L (λj=>g (i+j)) LP=lp g i:=by
 show -1*g (i+2)+(-1*g (i+-2)+0)=-(g (i+2))-g (i-2);rw[show i+-2=i-2 by lia];lia
theorem Td(n)(g):i6 n (lp g)=lp (i6 n g):=by
 induction n with
 |zero=>rfl
 |succ n ih=>rw[i6,i6,ih]
theorem xC:∀(n:Nat) (g:Fn),L g (eW LP n)=i6 n g 0
 |0,g=>by show 1*g 0+0=g 0;lia
 |n+1,g=>by
  show L g (fW (eW LP n) LP)=_;rw[Y.zq];have:(λi=>L (λj=>g (i+j)) LP)=lp g:=by funext i;exact ag0 g i
  rw[this,xC n,Td];rfl
theorem LQ(f)(ns)(g):∀(n:Nat) (b:Int),i6 n (λt=>Br f ns (sh (t+b) g))=λt=>Br f ns (sh (t+b) (i6 n g))
 |0,b=>rfl
 | n+1,b=>by
  rw[i6,LQ f ns g n b];funext t;show -(Br f ns (sh (t+2+b) (i6 n g)))-Br f ns (sh (t-2+b) (i6 n g))=Br f ns (sh (t+b) (lp (i6 n g)));have e:sh (t+b) (lp (i6 n g))=pl (sc (-1) (sh (t+2+b) (i6 n g))) (sc (-1) (sh (t-2+b) (i6 n g))):=by
   funext i;show -(i6 n g (i+(t+b)+2))-i6 n g (i+(t+b)-2)=-1*i6 n g (i+(t+2+b))+-1*i6 n g (i+(t-2+b));rw[show i+(t+b)+2=i+(t+2+b) by lia,show i+(t+b)-2=i+(t-2+b) by lia];lia
  rw[e,OD,FK,FK];lia
def WB(l:Po)(c:Nat)(b:Int):Po:=nG (fW l (eW LP c)) b 1
theorem adY(f)(ns)(g)(l)(c)(b):L (λj=>Br f ns (sh j g)) (WB l c b)=L (λj=>Br f ns (i6 c (sh b (sh j g)))) l:=by
 unfold WB;rw[Y.U9,Y.zq,Int.one_mul];congr 1;funext i;rw[xC];have:(λj=>Br f ns (sh (i+j+b) g))=λt=>Br f ns (sh (t+(i+b)) g):=by
  funext t;rw[show i+t+b=t+(i+b) by lia]
 rw[this,LQ];show Br f ns (sh (0+(i+b)) (i6 c g))=_;rw[Hy,zY,zY,RE,HA i b]
theorem Xm(l)(c)(b):fF (WB l c b)<=fF l*2 ^ c:=by
 unfold WB nG;refine aU (Y.zW _) ?_;have e:∀m:Po,fF (m.map λp=>(p.1+b,p.2*1))=fF m:=by
  intro m;induction m with
  |nil=>rfl
  |cons p m ih=>rw[ak,fF,fF,ih];simp
 rw[e];exact aU (Y.xg _ _) (Ce _ (Y.sD LP c))
def wz(A:Su)(k':PK)(l:Po)(c:Nat)(b:Int):Su:=ft A k' (Bq ((cN A k').getD []) (WB l c b))
def Qz(S:Su):Prop:=(S.map @n).Nodup/\∀p∈S,ND p.2/\NZ p.2
theorem Qz.get(h:Qz S)(k):ND ((cN S k).getD [])/\NZ ((cN S k).getD []):=by
 cases e:cN S k with
 |none=>exact⟨Y.ND.nil,λp hp=>by cases hp⟩
 |some l=>exact h.2 _ (Hn e)
theorem Qz.put(h:Qz S)(h1:ND l)(h2:NZ l):Qz (ft S k l):=by
 refine⟨tf h.1,λp hp=>?_⟩;unfold ft at hp;split at hp
 .obtain⟨q,hq,rfl⟩:=@cQ;split
  .exact⟨h1,h2⟩
  .exact h.2 q hq
 .rcases @c3 with hp |hp
  .exact h.2 p hp
  .rw[cz] at hp;subst hp;exact⟨h1,h2⟩
theorem Rz(h:Qz A)(k')(l)(c)(b):Qz (wz A k' l c b):=h.put (Y.W5 (h.get k').1) (Y.yx _)
theorem Rx(h:Qz A)(ns)(g)(k')(l)(c)(b):pW ns g (wz A k' l c b)=pW ns g A+L (λj=>Br (pt (dec k')) ns (i6 c (sh b (sh j g)))) l:=by
 unfold wz;rw[V4 ns g k' _ h.1,Y.abp _ (h.get k').1,adY];lia
noncomputable def i9:Su->Nat
 |[]=>0
 |p::S=>fF p.2+i9 S
theorem CT(S S'):i9 (S++S')=i9 S+i9 S':=by
 induction S with
 |nil=>simp[i9]
 |cons p S ih=>rw[ay,i9,i9,ih];lia
theorem SR(k)(l):∀{S:Su},(S.map @n).Nodup->i9 (ft S k l)+fF ((cN S k).getD [])<=i9 S+fF l
 | S,nd=>by
  unfold ft;split
  .rename_i h;have main:∀{S:Su},(S.map @n).Nodup->(S.any @bM)=true->i9 (S.map λp=>if p.1=k then(p.1,l) else p)+fF ((cN S k).getD [])<=i9 S+fF l:=by
    intro S;induction S with
    |nil=>intro _ h;cases h
    | cons p S ih=>
     intro nd h;rw[ak,aT] at nd;rw[ak,i9,i9];by_cases e:p.1=k
     .have e2:(S.map λp=>if p.1=k then(p.1,l) else p)=S:=by
       conv=>rhs;rw[<-oK S]
       refine dO λq hq=>?_;rw[if_neg];rfl;intro z;exact nd.1 (by rw[e,<-z];exact cf hq)
      have e3:cN (p::S) k=@a3:=by unfold cN;rw[cK (@bV)];rfl
      rw[e2,e3,if_pos e];simp only[pM];lia
     .have e3:cN (p::S) k=cN S k:=by unfold cN;rw[cL (@bV)]
      have:=ih nd.2 (by simpa[e] using h);rw[e3,if_neg e];lia
   exact main nd h
  .rename_i h;rw[CT];have e3:cN S k=none:=by
    unfold cN;have:S.find? (@bM)=none:=by
     rw[fO];intro p hp z;exact h (List.any_eq_true.mpr ⟨p,hp,z⟩)
    rw[this];rfl
   rw[e3];show i9 S+(fF l+0)+0<=_;lia
theorem Ry(h:Qz A)(k')(l)(hc:c<=2)(b):i9 (wz A k' l c b)<=i9 A+4*fF l:=by
 unfold wz;have h1:=SR k' (Bq ((cN A k').getD []) (WB l c b)) h.1;have h2:=Y.SQ (h.get k').1 (WB l c b);have h3:=Xm l c b;have h4:fF l*2 ^ c<=fF l*4:=Ce _ (show 2 ^ c<=2 ^ 2 from ff @t hc);lia
theorem Nx(S)(k):fF ((cN S k).getD [])<=i9 S:=by
 induction S with
 |nil=>exact aH _
 |cons p S ih=>
  unfold cN at *;rw[i9];by_cases e:p.1=k
  .rw[cK (@bV)];simp only[xD,pM];lia
  .rw[cL (@bV)];lia
theorem xf:∀{l:Po},NZ l->l.length<=fF l
 |[],_=>aH _
 |p::l,h=>by
  have h1:=h p @f;have h2:=xf (l:=l) λq hq=>h q (aI _ hq);rw[ag,fF];lia
noncomputable def kK(S:Su):Su:=S.filter λp=>!p.2.isEmpty
theorem Tu(ns)(g)(S):pW ns g (kK S)=pW ns g S:=by
 unfold kK;induction S with
 |nil=>rfl
 | cons p S ih=>
  rw[ck];split
  .rw[pW,pW,ih]
  .rename_i h;have:p.2=[]:=@b2
   rw[ih,pW,this,L,Hy]
theorem Jm(h:Qz S):Qz (kK S):=⟨pT (nk _ mf) h.1,λp hp=>h.2 p (List.mem_filter.mp hp).1⟩
theorem Tv(S):i9 (kK S)<=i9 S:=by
 unfold kK;induction S with
 |nil=>exact aH _
 |cons p S ih=>
  rw[ck];split
  .rw[i9,i9];lia
  .rw[i9];lia
theorem Tx(h:Qz S):(kK S).length<=i9 S:=by
 have:∀{S:Su},(∀p∈S,NZ p.2)->(kK S).length<=i9 S:=by
  intro S;unfold kK;induction S with
  |nil=>intro _;exact aH _
  | cons p S ih=>
   intro h;have ih:=ih λq hq=>h q (aI _ hq);rw[ck,i9];split
   .rename_i z;have h1:=xf (h p @f);have h2:0<p.2.length:=by
     cases q:p.2 with
     |nil=>rw[q] at z;cases z
     |cons _ _=>simp
    rw[ag];lia
   .lia
 exact this λp hp=>(h.2 p hp).2
end J
end K2
end
section
namespace K2
open PySem (Str)
open Enc (enc)
namespace Y
structure Pl(G:Gp)(d:D)(l:Po):Prop where
 is:Zj G d l
 nd:ND l
theorem sX(l:dI G G1)(hp:G p=none)(h1:G1 p=@i)(q:iQ G o Q):QC G1 @aw Q:=GC l hp h1 (q p hp)
theorem GN(i j):i7 (@w) (.int j)=decide (i=j):=Enc.eqv i j
theorem yy(l m):gV (l++m)=gV l++gV m:=eK _ _
theorem Lz(h:k∈(gV l).map @n):k∈@aP:=(nk _ mf).subset h
theorem YH(h:ND l)(e:l=pre++p::post):p.1∉pre.map @n:=by
 subst e;unfold ND at h;rw[aC,ak,cU] at h;intro z;exact h.2.2 _ z _ @f rfl
theorem CM(h:ND l)(e:l=pre++p::post)(hz:p.2≠0):ft (gV pre) p.1 p.2=gV (pre++[p]):=by
 rw[j0 λz=>YH h e (Lz z),yy];congr 1;simp[gV,hz]
theorem CN(hz:p.2=0):gV (pre++[p])=gV pre:=by
 rw[yy];simp[gV,hz]
theorem y7(i):(enc i:D)=@w:=rfl
def fU:iS:=λds G Q _=>∃(d:D) (l:Po),ds=[d]/\Pl G d l/\l.length<=SZ/\iQ G (.gz (bb (gV l))) Q
def pB:gq :=
 (bJ (bh kC (aF 1))
 (bJ (di (iL @j) (gY (cq (aF 2) (cq (aF 3) gH))) (d6 (fI (aN (zT true) @O @H)) (bh @O (iH @m @p)) cj))
 (bK (b8 @m))))
theorem xB(ds)(G)(Q)(h:fU ds G Q @z):pB @q @F (aP 4 ds) G:=by
 obtain⟨d,l,rfl,hd,hl,q⟩:=h;unfold pB;simp only[ends,aP,ak,aM,ag,av,aO,ay,aG,bZ,bh,kC,aF,ao,ai];intro p hp;refine cX (λτ G'=>(∃a b,τ=[@U,@aq,a,b])/\@G/\G' p=some (.gz (bb (gV l)))) ?_ ?_
 .intro N hN;simp only[di,iL,ar,aa];refine mQ hd.is @ar λok cx=>?_;refine cT (xs:=l) (λpre τ G'=>(∃a b,τ=[@U,@aq,a,b])/\@G/\G' p=some (.gz (bb (gV pre)))) ⟨@al,.new hp,ax⟩ (λpre τ G' h=>cx G' h.2.1) ?_ ?_
  .rintro pre x post τ G' N2 e ⟨⟨a,b,rfl⟩,le,gp⟩ kF;have hlen:(gV pre).length<SZ:=by
    have:=vP pre;have:=congrArg dh e;rw[aA,ag] at this;lia
   simp only[gY,cq,aF,gH,ao,ai];refine⟨_,_,@S,@S,?_⟩;simp only[GN,if_true,bh,ar,ae,aa,iH,cj];by_cases hz:x.2=0
   .simp only[hz,decide_true,aW];exact kF _ _ ⟨@al,le,by rw[CN hz];exact gp⟩
   .simp only[hz,decide_false,bG];refine gw (α:=Int) gp hlen ?_;exact kF _ _ ⟨@al,le.put hp,by rw[ax,<-CM hd.nd e hz]⟩
  .rintro τ G' ⟨⟨a,b,rfl⟩,le,gp⟩;exact hN _ _ ⟨@al,le,gp⟩
 .rintro _ G' ⟨⟨a,b,rfl⟩,le,gp⟩;simp only[bK,b8,ar,ae,aa];exact sX le hp gp q
theorem S9{G:Gp}{d:D}{l:Po}{i:Int}{Q:DK}(h:zA G d l)(k:Q (.int (c0 l i)) G):C4 d [@w,.int 0] G Q:=NC (α:=Int) (e:=0) h k
theorem j8{α:Type}{l pre post:@o}{x:α}(e:l=pre++x::post):pre.length<l.length:=by
 have:=congrArg dh e;rw[aA,ag] at this;lia
def pg:iS:=λds G Q _=>∃(d e:D) (l m:Po),ds=[d,e]/\Pl G d l/\Pl G e m/\l.length+m.length<=SZ/\iQ G (.gz (bb (Bq l m))) Q
def IB:gq :=
 (bJ (bh (jw Fx @aR) (aF 2))
 (bJ (di (iL @m) (gY (cq (aF 3) (cq (aF 4) gH))) (bh (aN fk (mi Rl C4 @p (aq @O (aq @H aK))) @R) (iH @p @O)))
 (bK (b8 (aR fU (aq (b8 @p) aK))))))
theorem U8(ds)(G)(Q)(h:pg ds G Q @z):IB @q @F (aP 5 ds) G:=by
 obtain⟨d,e,l,m,rfl,hd,he,hl,q⟩:=h;unfold IB;simp only[ends,aP,ak,aM,ag,av,aO,ay,aG,bZ,bh,jw,aq,ar,aa,aK,aF,ao,ai];refine UR hd.is.p @c λp hp=>?_;refine cX (λτ G'=>(∃a b,τ=[@U,some e,@aq,a,b])/\@G/\G' p=some (.gz (bb (wK l m)))) ?_ ?_
 .intro N hN;simp only[di,iL,ar,ae,aa];refine mQ he.is @ar λok cx=>?_;refine cT (xs:=m) (λpre τ G'=>(∃a b,τ=[@U,some e,@aq,a,b])/\@G/\G' p=some (.gz (bb (wK l pre)))) ⟨@al,.new hp,ax⟩ (λpre τ G' h=>cx G' h.2.1) ?_ ?_
  .rintro pre x post τ G' N2 e2 ⟨⟨a,b,rfl⟩,le,gp⟩ kF;have hlen:(wK l pre).length<SZ:=by
    have:=EU l pre;have:=j8 e2;lia
   simp only[gY,cq,aF,gH,bh,aN,mi,ar,ao,ai,ae,aa,j5,aq,dC,aK,iH];refine⟨FV (zA.ref gp),S9 (zA.ref gp) ?_⟩;simp only[y7,cb];refine gw (α:=Int) gp hlen ?_;refine kF _ _ ⟨@al,le.put hp,?_⟩;rw[ax];unfold wK plus;rw[ij];rfl
  .rintro τ G' ⟨⟨a,b,rfl⟩,le,gp⟩;exact hN _ _ ⟨@al,le,gp⟩
 .rintro _ G' ⟨⟨a,b,rfl⟩,le,gp⟩;simp only[bK,b8,aR,aq,ar,ae,aa,aK];refine ie le hp gp ?_;refine⟨_,wK l m,rfl,⟨rfl,IK hd.nd⟩,by have:=EU l m;lia,λp2 nP=>?_⟩;exact sX (.new nP) nP ax q
def jQ:iS:=λds G Q _=>∃(d:D) (l:Po) (b f:Int),ds=[d,.int b,.int f]/\Pl G d l/\l.length<=SZ/\(fF l<oG/\f.natAbs<oG)/\iQ G (.gz (bb (nG l b f))) Q
def Cv:gq :=
 (bJ (bh kC (aF 3))
 (bJ (di (iL @j) (gY (cq (aF 4) (cq (aF 5) gH))) (bh (aN ER (ar 5) @p) (iH @O (aN fk @R @m))))
 (bK (b8 (aR fU (aq (b8 @O) aK))))))
noncomputable def RF(b f:Int)(l:Po):Po:=l.map λp=>(p.1+b,p.2*f)
theorem Lj(b f)(h:ND l)(e:l=pre++p::post):ft (RF b f pre) (p.1+b) (p.2*f)=RF b f (pre++[p]):=by
 rw[j0,RF,RF,aC];rfl;intro z;unfold RF at z;rw[bq] at z;obtain⟨r,hr,er⟩:=@cT;have:r.1=p.1:=by have:r.1+b=p.1+b:=er;lia
 exact YH h e (this ▸ cf hr)
theorem ME(ds)(G)(Q)(h:jQ ds G Q @z):Cv @q @F (aP 6 ds) G:=by
 obtain⟨d,l,b,f,rfl,hd,hl,⟨hb,hf⟩,q⟩:=h;unfold Cv;simp only[ends,aP,ak,aM,ag,av,aO,ay,aG,bZ,bh,kC,aF,ao,ai];intro p hp;refine cX (λτ G'=>(∃u v,τ=[@U,some (.int b),some (.int f),@aq,u,v])/\@G/\G' p=some (.gz (bb (RF b f l)))) ?_ ?_
 .intro N hN;simp only[di,iL,ar,aa];refine mQ hd.is @ar λok cx=>?_;refine cT (xs:=l) (λpre τ G'=>(∃u v,τ=[@U,some (.int b),some (.int f),@aq,u,v])/\@G/\G' p=some (.gz (bb (RF b f pre)))) ⟨@al,.new hp,ax⟩ (λpre τ G' h=>cx G' h.2.1) ?_ ?_
  .rintro pre x post τ G' N2 e ⟨⟨u,v,rfl⟩,le,gp⟩ kF;have hlen:(RF b f pre).length<SZ:=by
    have:=j8 e;unfold RF;rw[au];lia
   have hx:x.2.natAbs<oG:=fR (yC (@a6)) hb;simp only[gY,cq,aF,gH,bh,aN,ar,ao,ai,y7,ae,aa,iH,cb,jt];refine⟨⟨hx,hf⟩,?_⟩;refine gw (α:=Int) gp hlen ?_;exact kF _ _ ⟨@al,le.put hp,by rw[ax,<-Lj b f hd.nd e]⟩
  .rintro τ G' ⟨⟨u,v,rfl⟩,le,gp⟩;exact hN _ _ ⟨@al,le,gp⟩
 .rintro _ G' ⟨⟨u,v,rfl⟩,le,gp⟩;simp only[bK,b8,aR,aq,ar,ae,aa,aK];refine ie le hp gp ?_;refine⟨_,RF b f l,rfl,⟨rfl,Ip hd.nd b f⟩,by unfold RF;rw[au];exact hl,λp2 nP=>?_⟩;exact sX (.new nP) nP ax q
def lH:iS:=λds G Q _=>∃(d e:D) (l m:Po),ds=[d,e]/\Pl G d l/\Pl G e m/\l.length*m.length<=SZ/\(fF l<oG/\fF m<oG)/\iQ G (.gz (bb (fW l m))) Q
def Iz:gq :=
 (bJ (bh kC (aF 2))
 (bJ (di (iL @j) (gY (cq (aF 3) (cq (aF 4) gH))) (di (iL @m) (gY (cq (aF 5) (cq (aF 6) gH))) (bJ (bh (aN fk @O (ar 5)) (aF 7))
 (bh (aN fk (mi Rl C4 @p (aq (ar 7) (aq @H aK))) (aN ER @R (ar 6))) (iH @p (ar 7))))))
 (bK (b8 (aR fU (aq (b8 @p) aK))))))
theorem NB(e:l=pre++x::post)(e2:m=mp++y::mq)(a)(ha:a.length<=pre.length*m.length):(nH mp a x).length<l.length*m.length:=by
 have h1:=II mp a x;have h2:=j8 e;have h3:=j8 e2;have h4:(pre.length+1)*m.length<=l.length*m.length:=jr _ h2;rw[Nat.succ_mul] at h4;lia
theorem Fm(m):∀(l:Po),(l.foldl (nH m) []).length<=l.length*m.length:=λl=>qj l m
theorem U6(ds)(G)(Q)(h:lH ds G Q @z):Iz @q @F (aP 8 ds) G:=by
 obtain⟨d,e,l,m,rfl,hd,he,hl,⟨hb,hf⟩,q⟩:=h;unfold Iz;simp only[ends,aP,ak,aM,ag,av,aO,ay,aG,bZ,bh,kC,aF,ao,ai];intro p hp;refine cX (λτ G'=>(∃a1 a2 a3 a4 a5,τ=[@U,some e,@aq,a1,a2,a3,a4,a5])/\@G/\G' p=some (.gz (bb (mG l m)))) ?_ ?_
 .intro N hN;simp only[di,iL,ar,aa];refine mQ hd.is @ar λok cx=>?_;refine cT (xs:=l) (λpre τ G'=>(∃a1 a2 a3 a4 a5,τ=[@U,some e,@aq,a1,a2,a3,a4,a5])/\@G/\G' p=some (.gz (bb (pre.foldl (nH m) [])))) ⟨⟨_,_,_,_,_,rfl⟩,.new hp,ax⟩ (λpre τ G' h=>cx G' h.2.1) ?_ ?_
  .rintro pre x post τ G' N2 e1 ⟨⟨a1,a2,a3,a4,a5,rfl⟩,le,gp⟩ kF;have hx:x.2.natAbs<oG:=fR (yC (by rw[e1];simp)) hb;simp only[gY,cq,aF,gH,di,iL,ar,ao,ai,y7,ae,aa];refine mQ he.is le λok2 aaI=>?_;refine cT (xs:=m) (λmp τ G'=>(∃a3 a4 a5,τ=[@U,some e,@aq,some (.int x.1),some (.int x.2),a3,a4,a5])/\@G/\G' p=some (.gz (bb (nH mp (pre.foldl (nH m) []) x)))) ⟨⟨_,_,_,rfl⟩,le,gp⟩ (λpre τ G' h=>aaI G' h.2.1) ?_ ?_
   .rintro mp y mq τ G2 N3 e2 ⟨⟨b3,b4,b5,rfl⟩,Jk,HH⟩ Bu;have hlen:=bC (NB e1 e2 (pre.foldl (nH m) []) (Fm m pre)) hl;have hy:y.2.natAbs<oG:=fR (yC (by rw[e2];simp)) hf;simp only[gY,cq,aF,gH,ao,ai,y7,bZ,bh,aN,ar,ae,aa,mi,j5,aq,dC,aK,iH,jt,cb];refine⟨FV (zA.ref HH),S9 (zA.ref HH) ?_⟩;simp only[cb];refine⟨⟨hx,hy⟩,?_⟩;refine gw (α:=Int) HH hlen ?_;refine Bu _ _ ⟨⟨_,_,_,rfl⟩,Jk.put hp,?_⟩;rw[ax]
    conv=>rhs;rw[nH,ij]
    rfl
   .rintro τ G2 ⟨⟨b3,b4,b5,rfl⟩,Jk,HH⟩;refine kF _ _ ⟨⟨_,_,_,_,_,rfl⟩,Jk,?_⟩;rw[HH,ij];rfl
  .rintro τ G' ⟨⟨a1,a2,a3,a4,a5,rfl⟩,le,gp⟩;exact hN _ _ ⟨⟨_,_,_,_,_,rfl⟩,le,gp⟩
 .rintro _ G' ⟨⟨a1,a2,a3,a4,a5,rfl⟩,le,gp⟩;simp only[bK,b8,aR,aq,ar,ae,aa,aK];refine ie le hp gp ?_;refine⟨_,mG l m,rfl,⟨rfl,w8 l m⟩,aU (qj l m) hl,λp2 nP=>?_⟩;exact sX (.new nP) nP ax q
def lr:iS:=λds G Q _=>∃(d:D) (l:Po) (n:Nat),ds=[d,.int n]/\Pl G d l/\(n<=1000/\∀k,k<n->l.length ^ k*l.length<=SZ/\fF l ^ k<oG)/\fF l<oG/\iQ G (.gz (bb (eW l n))) Q
def EM:gq :=
 (bJ (bh (tS @H @E) (aF 2))
 (bJ (di (u6 @m) (aF 3) (bh (aR lH (aq (b8 @p) (aq (b8 @j) aK))) (aF 2)))
 (bK (b8 @p))))
theorem Qw(ds)(G)(Q)(h:lr ds G Q @z):EM @q @F (aP 4 ds) G:=by
 obtain⟨d,l,n,rfl,hd,⟨hn,hk⟩,hb,q⟩:=h;unfold EM;simp only[ends,aP,ak,aM,ag,av,aO,ay,aG,bZ,bh,tS,dC,aF,ao,ai];refine⟨rfl,λp0 NT=>?_⟩;refine cX (λτ G'=>(∃a p,τ=[@U,some (.int n),@aq,a]/\G p=none/\G' p=some (.gz (bb (eW l n))))/\@G) ?_ ?_
 .intro N hN;simp only[di,gL,ar,ae,aa,fH];refine⟨@d,@d,?_⟩;rw[c9];refine Us (λpre τ G'=>(∃a p,τ=[@U,some (.int n),@aq,a]/\G p=none/\G' p=some (.gz (bb (eW l pre.length))))/\@G) ⟨⟨_,p0,rfl,NT,ax⟩,.new NT⟩ @aA ?_ ?_
  .rintro pre x post τ G' N2 e1 ⟨⟨a,p,rfl,hp,gp⟩,le⟩ kF;obtain⟨rfl,yT⟩:=Ln e1;obtain⟨h1,h2⟩:=hk pre.length yT;simp only[aF,bh,aR,aq,b8,ar,ao,ai,ae,aa,aK];refine ie le hp gp (bW ?_);refine⟨_,d,eW l pre.length,l,rfl,⟨rfl,zU _ _⟩,hd,aU (jr _ (w9 l _)) h1,⟨fR (sD l _) h2,hb⟩,λp2 nP=>?_⟩;refine kF _ _ ⟨⟨_,p2,rfl,nP,?_⟩,.new nP⟩;rw[ax,aA];rfl
  .rintro τ G' ⟨⟨a,p,rfl,hp,gp⟩,le⟩;rw[show(iK 0 n).length=n by simp[iK]] at gp;exact hN _ _ ⟨⟨_,p,rfl,hp,gp⟩,le⟩
 .rintro _ G' ⟨⟨a,p,rfl,hp,gp⟩,le⟩;simp only[bK,b8,ar,ae,aa];exact sX le hp gp q
end Y
namespace JB
open K2.P K2.J
def EO:gq :=
 (bJ (d6 (fI (aN @bI @m @H)) (bK (b8 (eS (aq (eQ (aq (eQ (aq @j (aq @H (aq @H aK)))) (aq (eQ (aq @j (aq @E (aq @E aK)))) aK))) (aq (eQ (aq (eQ (aq @j (aq @E (aq @H aK)))) (aq (eQ (aq @j (aq @H (aq @E aK)))) aK))) aK))))) cj)
 (bK (b8 (eS (aq (eQ (aq (eQ (aq @j (aq @H (aq @H aK)))) (aq (eQ (aq @j (aq @E (aq @H aK)))) aK))) (aq (eQ (aq (eQ (aq @j (aq @H (aq @E aK)))) (aq (eQ (aq @j (aq @E (aq @E aK)))) aK))) aK))))))
noncomputable def wI(w:Bool):Int:=if w=true then 1 else 0
def zP:iS:=λds G Q _=>∃(n:Int) (w:Bool),ds=[.int n,.int (wI w)]/\Q (enc (js n w)) G
theorem Qy(ds)(G)(Q)(h:zP ds G Q @z):EO @q @F (aP 2 ds) G:=by
 obtain⟨n,w,rfl,q⟩:=h;unfold EO;simp only[bJ,d6,aP,ak,aM,ag,av,ay,aG,bK,b8,eS,aq,eQ,ar,aa,dC,aK,ends,cj,b7,aN,ae];refine⟨_,_,@S,@S,?_⟩;simp only[aj,my,if_false,aY];cases w with
 |false=>
  simp only[wI,aj,if_false,beq_self_eq_true,if_true];refine⟨@g,@g,@g,@g,@g,@g,@g,λp hp=>?_⟩;exact fM (xs:=js n false) @ar hp ax q
 |true=>
  simp only[wI,if_true,show((1:Int) == 0)=false from rfl,aj,if_false];refine⟨@g,@g,@g,@g,@g,@g,@g,λp hp=>?_⟩;exact fM (xs:=js n true) @ar hp ax q
def AN:gq :=
 (bK (b8 (dIf (fI (aN @bI @m @H)) @j (HJ ID @j))))
noncomputable def pw(h:Int)(w:Bool):Int:=if w=true then -h else h
def uJ:iS:=λds G Q _=>∃(h:Int) (w:Bool),ds=[.int h,.int (wI w)]/\Q (.int (pw h w)) G
theorem Ke(ds)(G)(Q)(h:uJ ds G Q @z):AN @q @F (aP 2 ds) G:=by
 obtain⟨n,w,rfl,q⟩:=h;unfold AN;simp only[bK,b8,dIf,aP,ak,aM,ag,av,ay,aG,ar,aa,ends,HJ,jU,b7,aN,ae,dC];refine⟨_,_,@S,@S,?_⟩;simp only[aj,my,if_false,aY];cases w with
 |false=>
  simp only[wI,aj,if_false,beq_self_eq_true,if_true];exact bW q
 |true=>
  simp only[wI,if_true,show((1:Int) == 0)=false from rfl,aj,if_false];exact bW q
theorem acG:∀(x y:@D),ua (λa b=>decide (a<b)) x y=lexLt x y
 |[],[]=>rfl
 |[],_::_=>rfl
 |_::_,[]=>rfl
 |a::x,b::y=>by rw[zZ,acG x y];rfl
theorem lt3(p q:T3):lexLt p.l q.l=a9.lt p q:=(acG _ _).symm
def Cw:gq :=
 (bK (b8 (jw Qq (aq (jw qv (aq (e7 1 [0] (lx @j) (aF 0) (some (fI (aN ZN @j (aN fQ @m @j)))) (eQ (aq @j (aq (aN fQ @m @j) aK)))) aK)) aK))))
def sg:iS:=λds G Q _=>∃(l:@bk),ds=[.kU (bb l)]/\((@aP).Nodup/\l.length<64)/\Q (tH (qH (Pk l))) G
theorem MF(ds)(G)(Q)(h:sg ds G Q @z):Cw @q @F (aP 1 ds) G:=by
 obtain⟨l,rfl,⟨nd,hl⟩,q⟩:=h;unfold Cw;simp only[bK,b8,jw,aq,e7,lx,ar,aP,ak,aM,ag,av,ay,aG,aa,aK,ends];show _/\_;have ek:((bb l).map λp=>p.1)=l.map λp=>enc p.1:=by unfold bb;rw[bq];rfl
 refine⟨xW (by unfold bb;rw[au,au];lia),?_⟩;rw[ek];refine jq (xs:=l) (f:=λp=>enc p.1) (λpre acc τ G'=>G=G'/\(∃a,τ=[a,some (.kU (bb l))])/\acc=(pre.filter λp=>a9.lt p.1 p.2).map enc) ⟨rfl,@A,rfl⟩ @ca ?_ ?_
 .rintro pre x post acc τ G' N e ⟨rfl,⟨a,rfl⟩,rfl⟩ hN;have hx:cN l x.1=some x.2:=CW nd (@a6);simp only[aF,ai,eQ,aq,ar,aa,aN,ae,aK,ag,av,yt,rF,hx,xD,b7];refine⟨k9 _ _,?_⟩;show ∃xs ys,_;refine⟨x.1.l,x.2.l,rfl,rfl,?_⟩;simp only[lt3,aY];split
  .rename_i yT;refine⟨k9 _ _,@g,hN _ _ _ ⟨rfl,@A,?_⟩⟩;simp only[eK,ck,yT,if_true,zx,aC];rfl
  .rename_i yT;refine hN _ _ _ ⟨rfl,@A,?_⟩;simp only[eK,ck,yT,if_false,zx,bE,aj]
 .rintro acc τ G' ⟨rfl,⟨a,rfl⟩,rfl⟩ p hp;refine xu (IsL.ref ax) (fR (dM _ _) hl) λp2 nP=>?_;unfold Qq;simp only[rE (IsL.ref ax)];rw[Si] at q;exact BW ((dI.new hp).trans (.new nP)) q
theorem P4{G G2:Gp}{d:D}{ds:@e}{R:@aQ}(h:itemsOf d G=some ds)(l:dI G G2)(k:∀ok:@B,(∀G',@G->ok G')->R ds ok G2):VC d G2 R:=by
 cases d with
 |tup xs=>cases h;exact k _ λ_ _=>trivial
 |dc xs=>cases h;exact k _ λ_ _=>trivial
 |ref a=>
  unfold itemsOf at h;dsimp only at h;split at h
  .rename_i xs ha;cases h;rw[NP (l _ _ ha)];exact k _ λG' le=>le _ _ ha
  .cases h
 |_=>cases h
def AR:gq :=
 (bJ (bh kC (aF 1))
 (bJ (di (la @j) (gY (cq (aF 2) (cq (aF 3) gH))) (bJ (bh @O (iH @m @p))
 (bh @p (iH @m @O))))
 (bK (b8 @m))))
def qg:iS:=λds G Q _=>∃(d:D) (P:Pr T3),ds=[d]/\itemsOf d G=some (P.map enc)/\P.length<=200/\iQ G (.gz (bb (Ml P))) Q
theorem Uw(P)(p):Ml (P++[p])=ft (ft (Ml P) p.1 p.2) p.2 p.1:=by unfold Ml;rw[ij];rfl
theorem Kh(ds)(G)(Q)(h:qg ds G Q @z):AR @q @F (aP 4 ds) G:=by
 obtain⟨d,P,rfl,hi,hl,q⟩:=h;unfold AR;simp only[ends,aP,ak,aM,ag,av,aO,ay,aG,bZ,bh,kC,iQ,aF,ao,ai];intro p hp;refine cX (λτ G'=>(∃a b,τ=[@U,@aq,a,b])/\@G/\G' p=some (.gz (bb (Ml P)))) ?_ ?_
 .intro N hN;simp only[di,c8,ar,aa];refine P4 hi @ar λok cx=>?_;refine cT (xs:=P) (λpre τ G'=>(∃a b,τ=[@U,@aq,a,b])/\@G/\G' p=some (.gz (bb (Ml pre)))) ⟨@al,.new hp,ax⟩ (λpre τ G' h=>cx G' h.2.1) ?_ ?_
  .rintro pre x post τ G' N2 e ⟨⟨a,b,rfl⟩,le,gp⟩ kF;have hlen:=N6 pre;have Bt:pre.length<P.length:=@a6
   have e0:(enc x:D)=.tup [enc x.1,enc x.2]:=rfl;simp only[gY,e0,cq,aF,gH,ao,ai,bZ,bh,ar,ae,aa,iH];refine K2.P.gw (k:=x.1) (v:=x.2) gp @c ?_;have aid:=vr (Ml pre) x.1 x.2;refine K2.P.gw (k:=x.2) (v:=x.1) ax @c ?_;refine kF _ _ ⟨@al,(le.put hp).put hp,?_⟩;rw[ax,Uw]
  .rintro τ G' ⟨⟨a,b,rfl⟩,le,gp⟩;exact hN _ _ ⟨@al,le,gp⟩
 .rintro _ G' ⟨⟨a,b,rfl⟩,le,gp⟩;simp only[bK,b8,ar,ae,aa];exact GC le hp gp (q p hp)
noncomputable def Vv(l:List (T2×T2)):Pr T3:=l.map λp=>(⟨p.1.a,p.1.b,1⟩,⟨p.2.a,p.2.b,0⟩)
theorem aa3(P):((Ml P).map @n).Nodup:=by
 have:∀(P:Pr T3) (l:@bk),(@aP).Nodup->((P.foldl (λl p=>ft (ft l p.1 p.2) p.2 p.1) l).map @n).Nodup:=by
  intro P;induction P with
  |nil=>intro l h;exact h
  |cons p P ih=>intro l h;exact ih _ (tf (tf h))
 exact this P [] cJ
def wD:gq :=
 (bJ (bh (e7 2 [] (yN (aR sk @aR)) (gY (cq (aF 0) (cq (aF 1) gH))) none (eQ (aq (aN fk @j (eQ (aq @E aK))) (aq (aN fk @m (eQ (aq @H aK))) aK)))) (aF 1))
 (bK (b8 (aR sg (aq (b8 (aR qg (aq @m aK))) aK)))))
def qI:iS:=λds G Q _=>∃rows:Rows,ds=[enc rows]/\rows.flatten.length<=24/\Q (tH (qH (Pk (Ml (Vv (pF (@a2))))))) G
theorem Ez(ds)(G)(Q)(h:qI ds G Q @z):wD @q @F (aP 2 ds) G:=by
 obtain⟨rows,rfl,hl,q⟩:=h;have l1:=EY (@a2);have l2:=pairs_len rows;unfold wD;simp only[ends,aP,ak,aM,ag,av,aO,ay,aG,bZ,bh,e7,yN,aR,aq,ar,aa,aK,aF,bK,b8,ao,ai,ae];refine⟨rows,rfl,@d,?_⟩;generalize hn:pF (@a2)=l at q l1;have hk:(((bb l).all λp=>mr p.1)=true):=by
  unfold bb;rw[jG,g7];intro p _;rfl
 refine⟨hk,?_⟩;have em:((bb l).map λp=>D.tup [p.1,p.2])=l.map λp=>D.tup [enc p.1,enc p.2]:=by unfold bb;rw[bq];rfl
 rw[em];refine⟨xW @bK,?_⟩;refine jq (xs:=l) (f:=λp=>D.tup [enc p.1,enc p.2]) (λpre acc τ G'=>G=G'/\(∃a b,τ=[a,b])/\acc=(Vv pre).map enc) ⟨rfl,@al,rfl⟩ @ca ?_ ?_
 .rintro pre x post acc τ G' N e ⟨rfl,⟨a,b,rfl⟩,rfl⟩ hN;simp only[gY,cq,aF,gH,eQ,aq,aN,ar,aa7,ai,ao,aa,dC,aK,ag,av,ae,kJ,ay,aG];refine⟨@g,@K,@g,@g,@K,@g,@g,hN _ _ _ ⟨rfl,@al,?_⟩⟩;unfold Vv;rw[aC,aC];rfl
 .rintro acc τ G' ⟨rfl,⟨a,b,rfl⟩,rfl⟩ p hp;have lt:(Vv l).length<=24:=by unfold Vv;rw[au];lia
  refine⟨.ref p,Vv l,rfl,xl (IsL.ref ax),@d,λp2 nP=>?_⟩;refine ie ((dI.new hp).trans (.new nP)) ((dI.new hp).free nP) ax ?_;have lf:=N6 (Vv l);exact⟨Ml (Vv l),rfl,⟨aa3 _,@d⟩,bW q⟩
end JB
namespace JB
open K2.P K2.J
open K2.Y (Po L ND NZ fF Bq fW nG eW jQ lH lr pg Pl)
theorem XT(l)(k):((bb l).filter λp=>!i7 p.1 (enc k))=bb (GS l k):=by
 unfold bb GS;rw[Kq];congr 1;refine List.filter_congr λp _=>?_;show(!i7 (enc p.1) (enc k))=_;rw[Enc.eqv];simp
theorem Nl{G:Gp}{a:Nat}{l:@bk}{k v:T3}{Q:DK}(h:G a=some (.gz (bb l)))(e:cN l k=@W)(q:Q (enc v) (dw G a (.gz (bb (GS l k))))):C0 @u [enc k] G Q:=by
 refine⟨bb l,enc v,h,⟨rfl,?_,by rw[rF,e];rfl⟩,by rw[XT];exact q⟩;unfold bb;rw[jG,g7];intro p _;rfl
theorem aaB [@Q](h:Iv f){e:α}(he:f e=e):jn f x y e=e:=by
 have h1:=h x;have h2:=h y;unfold jn
 grind
theorem yM:∀{ps:Pr T3},Ok f ps->∀{e:T3},f e=e->jh f ps e=e:=by
 intro ps;induction ps generalizing f with
 |nil=>intro o e h;exact h
 |cons p ps ih=>intro o e h;exact ih o.tl (aaB o.iv h)
theorem sub_len'{α:Type} [@Q]:∀(xs ys:@o),xs.Nodup->(∀x∈xs,x∈ys)->xs.length<=ys.length
 |[],_,_,_=>cI _
 |x::xs,ys,hn,h=>by
  rw[aT] at hn;have:=sub_len' xs (ys.erase x) hn.2 λy hy=>(AF (show y≠x from λz=>hn.1 (by rw[<-z];exact hy))).mpr (h y (aI _ hy));have hx:=h x @f;rw[vK hx] at this;have:=xH hx;rw[ag];lia
theorem N9(h:OA l f){E:@r}(hE:∀e,f e≠e->e∈E):l.length<=E.length:=by
 have:=sub_len' (l.map λp:T3×T3=>p.1) E h.nd λe he=>by
  obtain⟨p,hp,rfl⟩:=List.mem_map.mp he;exact hE _ (h.mem hp).2
 ext p
theorem Oc(l)(k):(GS l k).length<=l.length:=dM _ _
theorem JY(f)(ps)(x:T3×T3):cls f (ps++[x])=cls f ps+cl (jh f ps) x.1 x.2:=by rw[xq];rfl
theorem Jo(f)(ps)(x:T3×T3):jh f (ps++[x])=jn (jh f ps) x.1 x.2:=by rw[xk];rfl
def uX:gq :=
 (bJ (bh (aR qg @aR) (aF 2))
 (bJ (bh @H (aF 3))
 (bJ (di (la @m) (gY (cq (aF 4) (cq (aF 5) gH))) (bJ (bh (mi Rl C0 @p (aq @R aK)) (aF 6))
 (bJ (bh (mi Rl C0 @p (aq (ar 5) aK)) (aF 7))
 (d6 (fI (aN @bI (ar 6) (ar 5))) (bh (aN fk @O @E) (aF 3)) (bJ (bh (ar 7) (iH @p (ar 6)))
 (bh (ar 6) (iH @p (ar 7))))))))
 (bK (b8 (eQ (aq (aR sg (aq (b8 @p) aK)) (aq @O aK))))))))
def pe:iS:=λds G Q _=>∃(P ps:Pr T3),ds=[tH (qH P),enc ps]/\((es P).Nodup/\P.length<=24/\Ok (pt P) ps)/\∀P':Pr T3,(es P').Nodup->pt P'=jh (pt P) ps->Q (.tup [tH (qH P'),.int (cls (pt P) ps)]) G
theorem D0(ds)(G)(Q)(h:pe ds G Q @z):uX @q @F (aP 8 ds) G:=by
 obtain⟨P,ps,rfl,⟨nd,hl,ok⟩,q⟩:=h;unfold uX;simp![bh,aR,aq,ar,aP,↓Si,aO,aK,aF,dC,ends];refine⟨.tup (P.map enc),P,rfl,rfl,@d,λp hp=>?_⟩;simp!;refine cX (λτ G'=>∃(l:@bk) (a1 a2 a3 a4:Option D),τ=[some (.tup (P.map enc)),some (enc ps),@aq,some (.int (cls (pt P) ps)),a1,a2,a3,a4]/\@G/\G' p=some (.gz (bb l))/\OA l (jh (pt P) ps)) ?_ ?_
 .intro N hN;simp![di,ar];refine gR ?_;refine cT (xs:=ps) (λpre τ G'=>∃(l:@bk) (a1 a2 a3 a4:Option D),τ=[some (.tup (P.map enc)),some (enc ps),@aq,some (.int (cls (pt P) pre)),a1,a2,a3,a4]/\@G/\G' p=some (.gz (bb l))/\OA l (jh (pt P) pre)) ⟨Ml P,_,_,_,_,rfl,.new hp,ax,N7 nd⟩ @aA ?_ ?_
  .rintro pre x post τ G' N2 e ⟨l,a1,a2,a3,a4,rfl,le,gp,fa⟩ kF;have ok1:Ok (pt P) (pre++x::post):=by rw[<-e];exact ok
   have ok2:=ok1.left;obtain⟨n1,n2,n3⟩:=ok2.hd;obtain⟨f1,f2,f3,f4⟩:=fa.join ok2.iv n1 n2 n3;have ll:l.length<=(es P).length:=N9 fa λe he=>(sy nd).mp λz=>he (yM ok1.pre z);rw[Mp] at ll;have e0:(enc x:D)=.tup [enc x.1,enc x.2]:=rfl;rw[e0];simp only[gY,cq,gH,aF,ai,ao];simp![bh,mi,ar,↓gp,aq,aK,aF];refine Nl gp f1 ?_;simp only[↓ax,↓true_and];refine Nl ax f2 ?_;simp![d6,aN,ar,bh,dC,aF,iH];refine⟨_,_,Enc.sn _ _ _ @t,Enc.sn _ _ _ @t,?_⟩;simp![↓Enc.eqv];by_cases c:jh (pt P) pre x.1=x.2
   .simp only[↓c,↓decide_true,↓if_true];refine kF _ _ ?_;have ec:((cls (pt P) pre+1:Nat):Int)=(cls (pt P) pre:Int)+1:=Int.natCast_add _ _;rw[JY,Jo,cl,if_pos c,ec];exact⟨_,_,_,_,_,rfl,(le.put hp).put hp,ax,f3 c⟩
   .simp![↓c,↓decide_false];have d1:=Oc l x.1;have d2:=Oc (GS l x.1) x.2;refine K2.P.gw (k:=jh (pt P) pre x.1) (v:=jh (pt P) pre x.2) ax @c ?_;have d3:=vr (GS (GS l x.1) x.2) (jh (pt P) pre x.1) (jh (pt P) pre x.2);refine K2.P.gw (k:=jh (pt P) pre x.2) (v:=jh (pt P) pre x.1) ax @c ?_;refine kF _ _ ?_;rw[JY,Jo,cl,if_neg c,VQ];exact⟨_,_,_,_,_,rfl,(((le.put hp).put hp).put hp).put hp,ax,f4 c⟩
  .rintro τ G' ⟨l,a1,a2,a3,a4,rfl,le,gp,fa⟩;exact hN _ _ ⟨l,_,_,_,_,rfl,le,gp,fa⟩
 .rintro _ G' ⟨l,a1,a2,a3,a4,rfl,le,gp,fa⟩;have iv:Iv (jh (pt P) ps):=TG ok;have ll:l.length<=(es P).length:=N9 fa λe he=>(sy nd).mp λz=>he (yM ok z);rw[Mp] at ll;obtain⟨h1,h2⟩:=Np fa iv;simp![bK,b8,eQ,aq,aR,ar,aK];refine ie le hp gp ?_;refine⟨l,rfl,⟨fa.nd,@d⟩,@g,bW (q _ h1 h2)⟩
end JB
namespace JB
open K2.P K2.J
open K2.Y (Po L ND NZ fF Bq fW nG eW jQ lH lr pg Pl)
def adR(ns:@D)(k:PK):Prop:=∃P,k=qH P/\(es P).Nodup/\∀e,pt P e≠e↔∃n∈ns,e∈lR n
structure X8(S:Su)(ns:@D):Prop where
 QU:Qz S
 pl:∀p∈S,adR ns p.1
def Hm(ns:@D):@r:=ns.flatMap lR
theorem Kb(ns):(Hm ns).length=4*ns.length:=by
 induction ns with
 |nil=>rfl
 |cons n ns ih=>unfold Hm at *;rw[cD,aA,ih,ag];show 4+_=_;lia
theorem ZX{ns:@D}(nd:(es P).Nodup)(h:∀e,pt P e≠e↔∃n∈ns,e∈lR n):P.length<=2*ns.length:=by
 have:=sub_len' (es P) (Hm ns) nd λe he=>by
  obtain⟨n,h1,h2⟩:=(h e).mp ((sy nd).mpr he);exact List.mem_flatMap.mpr ⟨n,h1,h2⟩
 rw[Mp,Kb] at this;lia
theorem acg(nd:(es P).Nodup)(hn:ns.Nodup)(h:∀e,pt P e≠e↔∃n∈ns,e∈lR n):Dm (pt P) ns:=⟨IF nd,hn,λn YV e he=>(h e).mpr ⟨n,YV,he⟩⟩
theorem aaA:∀{ps:Pr T3},Ok f ps->∀{e:T3},e∈es ps->jh f ps e=e:=by
 intro ps;induction ps generalizing f with
 |nil=>intro o e h;cases h
 |cons p ps ih=>
  intro o e h;rw[es,bF,bF] at h;rcases h with rfl |rfl |h
  .exact yM o.tl PU
  .exact yM o.tl PT
  .exact ih o.tl h
theorem WG(d:Dm f (n::ns))(h:∀e,f e≠e↔∃m∈n::ns,e∈lR m)(w):∀e,jh f (js n w) e≠e↔∃m∈ns,e∈lR m:=by
 have ok:=d.ok w;have nn:=(List.nodup_cons.mp d.nd).1;intro e;constructor
 .intro z;have h1:f e≠e:=λy=>z (yM ok y);obtain⟨m,hm,he⟩:=(h e).mp h1;rcases List.mem_cons.mp hm with rfl |hm
  .exact absurd (aaA ok ((j9 m w).mem_iff.mpr he)) z
  .exact⟨m,hm,he⟩
 .rintro⟨m,hm,he⟩ z;rcases NK ok z with z |z
  .have h1:=sU ((j9 n w).mem_iff.mp z);have h2:=sU he;exact nn (by rw[<-h1,h2];exact hm)
  .exact(h e).mpr ⟨m,aI _ hm,he⟩ z
theorem DP [@Q](f)(x y:α):cl f x y<=1:=by unfold cl;split<;>decide
theorem Hb(f)(n)(w):cls f (js n w)<=2:=by
 cases w<;>(show _+(_+0)<=2;have:=DP f;have a:=λf x y=>DP (α:=T3) f x y;have h1:=a f;have h2:=a;grind)
theorem Zg:ND LP:=by unfold ND LP;decide
theorem Vd:fF LP=2:=rfl
theorem qO(h:n<=2 ^ 30):n<oG:=fR h (by unfold oG;exact Nat.pow_lt_pow_right @t @t)
theorem IC(h:c<=3):c<=1000/\∀k,k<c->LP.length ^ k*LP.length<=SZ/\fF LP ^ k<oG:=by
 refine⟨@d,λk hk=>?_⟩;have:k=0\/k=1\/k=2:=@d
 rcases this with rfl |rfl |rfl
 .exact⟨@g,qO @t⟩
 .exact⟨@g,qO @t⟩
 .exact⟨@g,qO @t⟩
theorem Ls(h:c<=3):fF (eW LP c)<=8:=aU (Y.sD LP c) (show 2 ^ c<=2 ^ 3 from ff @t h)
theorem WE(h:c<=2):(eW LP c).length<=4:=aU (Y.w9 LP c) (show 2 ^ c<=2 ^ 2 from ff @t h)
theorem OR{l:Po}{G:Gp}{Q:Bool->@B}(h:Q (!l.isEmpty) G):qf (.kU (bb l)) G Q:=by
 unfold qf Ih;dsimp only;have k:((bb l).all λp=>dq p.1)=true:=by unfold bb;rw[jG,g7];intro p _;rfl
 rw[if_pos k];have:(bb l).isEmpty=l.isEmpty:=by cases l<;>rfl
 rw[this];exact h
theorem S8{G:Gp}{a:Nat}{A:Su}{k:PK}{Q:DK}(h:G a=some (.tR (jI A)))(q:Q (.kU (bb ((cN A k).getD []))) G):C3 @u [tH k,.kU []] G Q:=by
 refine⟨_,k,h,rfl,?_⟩;rw[E5];cases e:cN A k with
 |none=>rw[e] at q;exact q
 |some l=>rw[e] at q;exact q
theorem EJ{G:Gp}{a:Nat}{A:Su}{k:PK}{l:Po}{Q:@B}(h:G a=some (.tR (jI A)))(hz:A.length<SZ)(q:Q (dw G a (.tR (jI (ft A k l))))):Ll @u (tH k) (.kU (bb l)) G Q:=by
 refine⟨_,k,h,rfl,by unfold jI;rw[au];exact hz,?_⟩;rw[R5];exact q
theorem Mb{G G1:Gp}{p:Nat}{A:Su}{Q:DK}(l:dI G G1)(hp:G p=none)(h1:G1 p=some (.tR (jI A)))(q:Q (.qJ (jI A)) G):QC G1 @aw Q :=
 ⟨λa=>(G a).isNone,.qJ (jI A),.tR h1 (by simp[hp]) (.same _) rfl,by rw[za l];exact q⟩
def term(h n:Int)(rest:@ae)(g:Fn)(f:T3->T3)(l:Po)(w:Bool):Int:=L (λj=>Br (jh f (js n w)) rest (i6 (cls f (js n w)) (sh (pw h w) (sh j g)))) l
theorem OU(h n)(rest)(g)(f)(l):term h n rest g f l false+term h n rest g f l true=L (λj=>Br f ((n,h)::rest) (sh j g)) l:=by
 unfold term;rw[<-Y.Zf];rfl
noncomputable def Cp(h n:Int)(rest:@ae)(g:Fn)(f:T3->T3)(l:Po):List Bool->Int
 |[]=>0
 |w::ws=>term h n rest g f l w+Cp h n rest g f l ws
theorem Le(h n)(rest)(g)(f)(l)(ws)(w):Cp h n rest g f l (ws++[w])=Cp h n rest g f l ws+term h n rest g f l w:=by
 induction ws with
 |nil=>simp[Cp]
 |cons v ws ih=>rw[ay,Cp,Cp,ih];lia
structure QZ(n h:Int)(rest:@ae)(pre:Su)(f:T3->T3)(l:Po)(ws:List Bool)(A:Su):Prop where
 ok:X8 A (rest.map @n)
 len:A.length<=2*pre.length+ws.length
 fF:i9 A<=8*i9 pre+ws.length*(4*fF l)
 val:∀g,pW rest g A=pW ((n,h)::rest) g pre+Cp h n rest g f l ws
theorem QZ.step(a:QZ n h rest pre f l ws A)(nd:(es P').Nodup)(e:pt P'=jh f (js n w))(hp:∀e,jh f (js n w) e≠e↔∃m∈rest.map @n,e∈lR m):
  QZ n h rest pre f l (ws++[w]) (wz A (qH P') l (cls f (js n w)) (pw h w)):=by
 refine⟨⟨Rz a.ok.QU _ _ _ _,λp z9=>?_⟩,?_,?_,λg=>?_⟩
 .unfold wz ft at z9;have here:adR (rest.map @n) (qH P'):=⟨P',rfl,nd,λe'=>by rw[e];exact hp e'⟩;split at z9
  .obtain⟨q,hq,rfl⟩:=List.mem_map.mp z9;have:=a.ok.pl q hq;split<;>ext g
  .rcases List.mem_append.mp z9 with z9 |z9
   .exact a.ok.pl p z9
   .rw[cz] at z9;subst z9;exact here
 .have h1:=a.len;have h2:(wz A (qH P') l (cls f (js n w)) (pw h w)).length<=A.length+1:=by unfold wz ft;split<;>simp
  rw[aA,cP];lia
 .have h1:=a.fF;have h2:=Ry a.ok.QU (qH P') l (Hb f n w) (pw h w);rw[aA,cP,Nat.add_mul,Nat.one_mul];lia
 .rw[Rx a.ok.QU,a.val,Le,Mt,e];unfold term;lia
end JB
namespace JB
open K2.P K2.J
open K2.Y (Po L ND NZ fF Bq fW nG eW jQ lH lr pg Pl)
theorem QZ.zero:QZ n h rest [] f l [] [] :=
 ⟨⟨⟨cJ,λp hp=>by cases hp⟩,λp hp=>by cases hp⟩,aH _,cI _,λg=>rfl⟩
theorem QZ.next(a:QZ n h rest pre (pt (dec x.1)) x.2 [false,true] A):QZ n h rest (pre++[x]) f' l' [] A:=by
 refine⟨a.ok,?_,?_,λg=>?_⟩
 .have:=a.len;rw[aA,cP];simp at this ⊢;lia
 .have:=a.fF;rw[CT];simp only[ag,av,i9] at this ⊢;lia
 .rw[a.val,M3];show _+(term h n rest g _ x.2 false+(term h n rest g _ x.2 true+0))=_+(L _ x.2+0)+0;have:=OU h n rest g (pt (dec x.1)) x.2;lia
theorem SS(e:S=pre++x::post):i9 pre+fF x.2<=i9 S:=by
 rw[e,CT,i9];lia
theorem E9(S)(p):kK (S++[p])=if p.2.isEmpty=true then kK S else kK S++[p]:=by
 unfold kK;rw[eK];by_cases h:p.2.isEmpty=true
 .rw[if_pos h,QL (by simp[h])];simp
 .rw[if_neg h,QK (by simp[h])];simp
theorem Tw(nd:(S.map @n).Nodup)(e:S=pre++x::post):x.1∉(kK pre).map @n:=by
 intro z;obtain⟨q,hq,e2⟩:=@cT;have YU:=(List.mem_filter.mp hq).1;rw[e,aC,ak,cU] at nd;exact nd.2.2 _ (cf YU) _ br e2
def yj:gq :=
 (bJ (bh Ql (aF 3))
 (bJ (JW 3 (di (sP @j) (gY (cq (aF 4) (cq (aF 5) gH))) (di (la (eQ (aq @H (aq @E aK)))) (aF 6) (bJ (bh (aR pe (aq @R (aq (aR zP (aq @m (aq (ar 6) aK))) aK))) (aF 7))
 (bJ (bh (aR jQ (aq (b8 (aR lH (aq (b8 (ar 5)) (aq (b8 (aR lr (aq (b8 (Ba [(2,-1),(-2,-1)])) (aq (b8 (aN fQ (ar 7) @E)) aK)))) aK)))) (aq (b8 (aR uJ (aq @p (aq (ar 6) aK)))) (aq (b8 @E) aK)))) (aF 8))
 (bh (b8 (aR pg (aq (b8 (mi tyP C3 @O (aq (b8 (aN fQ (ar 7) @H)) (aq (b8 kC) aK)))) (aq (b8 (ar 8)) aK)))) (Dq @O (aN fQ (ar 7) @H))))))))
 (bJ (bh Ql (aF 9))
 (bJ (JW 3 (di (sP @O) (gY (cq (aF 4) (cq (aF 5) gH))) (d6 (fI (ar 5)) (bh (b8 (ar 5)) (Dq (ar 9) @R)) cj)))
 (bK (b8 (ar 9)))))))
def si:iS:=λds G Q _=>∃(S:Su) (n h:Int) (rest:@ae),ds=[.qJ (jI S),.int n,.int h]/\(X8 S (n::rest.map @n)/\(n::rest.map @n).Nodup/\rest.length<=11/\S.length<=1048576/\i9 S<=1048576) /\
 ∀S':Su,X8 S' (rest.map @n)->S'.length<=i9 S'->i9 S'<=8*i9 S->(∀g,pW rest g S'=pW ((n,h)::rest) g S)->Q (.qJ (jI S')) G
theorem Hr(ds)(G)(Q)(h:si ds G Q @z):yj @q @F (aP 10 ds) G:=by
 obtain⟨S,n,h,rest,rfl,⟨so,nn,hr,hSl,hSn⟩,q⟩:=h;unfold yj;simp![bh,Ql,iQ,aF,ends,aP,aO];intro p hp;refine cX (λτ G'=>∃(A:Su) (a1 a2 a3 a4 a5 a6:Option D),G=G'/\τ=[some (.qJ (jI S)),some (.int n),some (.int h),some (.qJ (jI A)),a1,a2,a3,a4,a5,a6]/\QZ n h rest S (λe=>e) [] [] A) ?_ ?_
 .intro N hN;simp only[JW];simp![di,sP,ar];show tP _ _ _ ((jI S).map _) _ _ _ _;have em:((jI S).map λp=>D.tup [tH p.1,p.2])=S.map λp=>D.tup [tH p.1,.kU (bb p.2)]:=by unfold jI;rw[bq];rfl
  rw[em];refine cT (xs:=S) (f:=λp=>D.tup [tH p.1,.kU (bb p.2)]) (λpre τ G'=>∃(A:Su) (a1 a2 a3 a4 a5 a6:Option D),@G/\G' p=some (.tR (jI A))/\τ=[some (.qJ (jI S)),some (.int n),some (.int h),@aq,a1,a2,a3,a4,a5,a6]/\QZ n h rest pre (λe=>e) [] [] A)
   ⟨[],_,_,_,_,_,_,.new hp,ax,rfl,.zero⟩ @aA ?_ ?_
  .rintro pre x post τ G' N2 e ⟨A,a1,a2,a3,a4,a5,a6,le,gp,rfl,af⟩ kF;obtain⟨P,ek,nd,pl⟩:=so.pl x (@a6);have dm:=acg nd nn pl;have pll:=ZX nd pl;have hx:=so.QU.2 x (@a6);have hnx:=SS e;have hlx:=xf hx.2;have rV:pre.length<S.length:=@a6
   have ed:dec x.1=P:=by rw[ek,Mt]
   simp only[gY,cq,gH,aF,ai,ao];simp![di,eQ,aq,dC,aK];refine⟨@g,?_⟩;refine cT (xs:=[false,true]) (f:=λw=>D.int (wI w)) (λws τ G'=>∃(A:Su) (a3 a4 a5 a6:Option D),@G/\G' p=some (.tR (jI A))/\τ=[some (.qJ (jI S)),some (.int n),some (.int h),@aq,some (tH x.1),some (.kU (bb x.2)),a3,a4,a5,a6]/\QZ n h rest pre (pt P) x.2 ws A)
    ⟨A,_,_,_,_,le,gp,rfl,⟨af.ok,af.len,by have:=af.fF;simp only[av,Nat.zero_mul] at this ⊢;ext g,af.val⟩⟩ @aA ?_ ?_
   .rintro ws w wt τ G2 N3 ew ⟨B,b3,b4,b5,b6,Jk,HH,rfl,bf⟩ Bu;have ws1:ws.length<=1:=by
     have:=congrArg dh ew;simp at this;lia
    have hc:=Hb (pt P) n w;have bl:=bf.len;have bn:=bf.fF;have bn2:i9 B<=8388608:=by
     have:ws.length*(4*fF x.2)<=1*(4*fF x.2):=jr _ ws1;lia
    simp![aF,bh,aR,aq,ar,ek,aK,b8,aN,dC,mi,kC];refine⟨n,w,rfl,?_⟩;refine⟨P,js n w,rfl,⟨nd,by simp only[ag,au] at pll;lia,dm.ok w⟩,λP' nd' ep=>?_⟩;have p0:QZ n h rest pre (pt P) x.2 (ws++[w]) (wz B (qH P') x.2 (cls (pt P) (js n w)) (pw h w)):=bf.step nd' ep (WG dm pl w);simp only[↓dS,HK,VH];generalize ec:cls (pt P) (js n w)=c at hc p0;have hx1:=hx.1;have l1:(eW LP c).length<=4:=WE hc;have l2:x.2.length*(eW LP c).length<=1048576*4:=uC @c l1;have l3:=Y.CJ x.2 (eW LP c);have l4:fF x.2*fF (eW LP c)<=1048576*8:=uC @c (Ls @c);have l5:=Y.xg x.2 (eW LP c);have l6:(WB x.2 c (pw h w)).length<=(fW x.2 (eW LP c)).length:=aU (Y.vP _) (by rw[au];exact aH _);have l7:=xf (bf.ok.QU.get (qH P')).2;have l8:=Nx B (qH P');refine bW ?_;unfold Ba;intro p5 f5;refine ie (.new f5) f5 ax (bW ?_);refine⟨_,LP,c,rfl,⟨rfl,Zg⟩,IC @c,by rw[Vd];exact qO @t,λp6 f6=>?_⟩;refine ie (.new f6) f6 ax ?_;refine⟨_,_,x.2,eW LP c,rfl,⟨rfl,hx1⟩,⟨rfl,Y.zU _ _⟩,aU l2 @t,⟨qO @c,qO (aU (Ls @c) @t)⟩,λp7 f7=>?_⟩;refine ie (.new f7) f7 ax ?_;refine⟨h,w,rfl,bW (bW ?_)⟩;refine⟨_,fW x.2 (eW LP c),pw h w,1,rfl,⟨rfl,Y.qX _ _⟩,aU (aU l3 l2) @t,⟨qO (aU (aU l5 l4) @t),qO @t⟩,λp8 f8=>?_⟩;have h8:p≠p8:=by ext c;rw[HH] at f8;cases f8
    refine⟨by unfold tyP;simp only[cu h8,HH],bW ?_⟩;intro p9 f9;refine ie (.new f9) f9 ax ?_;refine S8 (by rw[cu h8];exact HH) (bW ?_);refine ie (.new f8) f8 ax ?_;refine⟨_,_,(cN B (qH P')).getD [],WB x.2 c (pw h w),rfl,⟨rfl,(bf.ok.QU.get _).1⟩,⟨rfl,Y.Pc (Y.qX _ _) _ _⟩,?_,λp10 f10=>?_⟩
    .show _<=16777216;lia
    refine ie (.new f10) f10 ax ?_;unfold Dq;simp![ar,aN,dC,VH];refine EJ HH (show _<16777216 by lia) ?_;rw[<-ek];exact Bu _ _ ⟨_,_,_,_,_,Jk.put hp,ax,rfl,p0⟩
   .rintro τ G2 ⟨B,b3,b4,b5,b6,Jk,HH,rfl,bf⟩;refine kF _ _ ⟨B,_,_,_,_,_,_,Jk,HH,rfl,?_⟩;rw[<-ed] at bf;exact bf.next
  .rintro τ G' ⟨A,a1,a2,a3,a4,a5,a6,le,gp,rfl,af⟩;simp!;refine Mb le hp gp ?_;exact hN _ _ ⟨A,_,_,_,_,_,_,rfl,rfl,af⟩
 .rintro _ G' ⟨A,a1,a2,a3,a4,a5,a6,rfl,rfl,af⟩;simp![bh,Ql,iQ,aF];intro p2 nP;have al:=af.len;have an:=af.fF;simp only[av,Nat.zero_mul,VQ] at al an;refine cX (λτ G'=>∃(a1 a2 a3 a4 a5:Option D),τ=[some (.qJ (jI S)),some (.int n),some (.int h),some (.qJ (jI A)),a1,a2,a3,a4,a5,@bS]/\@G/\G' p2=some (.tR (jI (kK A)))) ?_ ?_
  .intro N hN;simp only[JW];simp![di,sP,ar];show tP _ _ _ ((jI A).map _) _ _ _ _;have em:((jI A).map λp=>D.tup [tH p.1,p.2])=A.map λp=>D.tup [tH p.1,.kU (bb p.2)]:=by unfold jI;rw[bq];rfl
   rw[em];refine cT (xs:=A) (f:=λp=>D.tup [tH p.1,.kU (bb p.2)]) (λpre τ G'=>∃(a1 a2 a3 a4 a5:Option D),τ=[some (.qJ (jI S)),some (.int n),some (.int h),some (.qJ (jI A)),a1,a2,a3,a4,a5,@bS]/\@G/\G' p2=some (.tR (jI (kK pre))))
    ⟨_,_,_,_,_,rfl,.new nP,ax⟩ @aA ?_ ?_
   .rintro pre x post τ G' N2 e ⟨b1,b2,b3,b4,b5,rfl,le,gp⟩ kF;simp only[gY,cq,gH,aF,ai,ao];simp![d6,ar,bh,b8,cj];refine OR ?_;have rV:pre.length<A.length:=@a6
    have hkl:(kK pre).length<=pre.length:=dM _ _;by_cases c:x.2.isEmpty=true
    .simp only[c,aW,aj,if_false,cj];refine kF _ _ ⟨_,_,_,_,_,rfl,le,?_⟩;rw[E9,if_pos c];exact gp
    .have c':x.2.isEmpty=false:=by simpa using c
     simp only[c',bG,if_true];refine bW ?_;unfold Dq;simp only[ar,↓ae,↓aa];refine EJ gp (show _<16777216 by lia) ?_;refine kF _ _ ⟨_,_,_,_,_,rfl,le.put nP,?_⟩;rw[ax,E9,if_neg c,Y.j0 (Tw af.ok.QU.1 e)]
   .rintro τ G' ⟨b1,b2,b3,b4,b5,rfl,le,gp⟩;simp!;exact bW (hN _ _ ⟨_,_,_,_,_,rfl,le,gp⟩)
  .rintro _ G' ⟨b1,b2,b3,b4,b5,rfl,le,gp⟩;simp![bK,b8,ar];refine Mb le nP gp ?_;refine q (kK A) ⟨Jm af.ok.QU,λp z9=>af.ok.pl p (List.mem_filter.mp z9).1⟩ ?_ ?_ λg=>?_
   .have:kK (kK A)=kK A:=by unfold kK;rw[List.filter_filter];simp
    have h2:=Tx (Jm af.ok.QU);rw[this] at h2;exact h2
   .exact aU (Tv A) an
   .rw[Tu,af.val];show _+0=_;lia
end JB
namespace JB
open K2.P K2.J
open K2.Y (Po L ND NZ fF Bq fW nG eW jQ lH lr pg Pl)
variable {rows:Rows}
noncomputable def eO(s:T2):T3:=⟨s.a,s.b,1⟩
noncomputable def eI(s:T2):T3:=⟨s.a,s.b,0⟩
def HC(ps:@bk):Pr T3:=ps.map λp=>(eO p.1.s,eI p.2.s)
def BJ(rows:Rows):Pr T3:=HC (@a2)
def fr(rows:Rows):T3->T3:=pt (BJ rows)
noncomputable def lo(rows:Rows):Nat:=(rows.filter λr=>r.isEmpty).length
def nh(rows:Rows):@ae:=(@T).map λn=>(n,handOf rows n)
theorem JN:∀(P:Pr T3),(es P).Perm (P.map @n++P.map (·.2))
 |[]=>.refl _
 |p::P=>by
  rw[es,ak,ak,ay];refine FR _ ?_;exact((JN P).cons p.2).trans List.perm_middle.symm
theorem Yn(h1:(ps.map λp=>p.1.s).Nodup)(h2:(ps.map λp=>p.2.s).Nodup):(es (HC ps)).Nodup:=by
 refine(JN _).nodup_iff.mpr (List.nodup_append.mpr ⟨?_,?_,?_⟩)
 .have:(HC ps).map @n=(ps.map λp=>p.1.s).map eO:=by unfold HC;rw[bq,bq];rfl
  rw[this];refine vR h1 λi _ j _ e=>?_;injection e with e1 e2
  cases i;cases j;simp only at e1 e2;rw[e1,e2]
 .have:(HC ps).map (·.2)=(ps.map λp=>p.2.s).map eI:=by unfold HC;rw[bq,bq];rfl
  rw[this];refine vR h2 λi _ j _ e=>?_;injection e with e1 e2
  cases i;cases j;simp only at e1 e2;rw[e1,e2]
 .intro a ha b hb e;obtain⟨p,hp,rfl⟩:=List.mem_map.mp ha;obtain⟨q,hq,rfl⟩:=List.mem_map.mp hb;obtain⟨p',_,rfl⟩:=@cQ;obtain⟨q',_,rfl⟩:=List.mem_map.mp hq;injection e with _ _ e3
  cases e3
theorem zK(d:@Z):(es (BJ rows)).Nodup:=Yn (Ur d) (ZE d)
theorem Zy(d:@Z):Vv (pF (@a2))=BJ rows:=by
 rw[S3 d];unfold Vv BJ HC;rw[bq];rfl
theorem Ru(d:@Z)(e):e∈es (BJ rows)↔∃p∈rows.flatten,e=eO p.s\/e=eI p.s:=by
 rw[pG];constructor
 .rintro⟨q,hq,z⟩;obtain⟨pq,hpq,rfl⟩:=List.mem_map.mp hq;have h1:pq.1∈rows.flatten:=by rw[<-qZ rows];exact cf hpq
  have h2:pq.2∈rows.flatten:=(qY rows).mem_iff.mp (cf hpq);rcases z with z |z
  .exact⟨_,h1,.inl z⟩
  .exact⟨_,h2,.inr z⟩
 .rintro⟨p,hp,z |z⟩
  .obtain⟨q,hq,_⟩:=Uh hp;exact⟨_,List.mem_map.mpr ⟨_,hq,rfl⟩,.inl z⟩
  .obtain⟨q,hq,_⟩:=Ug hp;exact⟨_,List.mem_map.mpr ⟨_,hq,rfl⟩,.inr z⟩
theorem FY(d:@Z)(e):e∈es (BJ rows)↔∃n∈@T,e∈lR n:=by
 rw[Ru d];constructor
 .rintro⟨p,hp,z⟩;have hn:p.a∈@T:=by
   rw[oQ];rcases d.way p hp with w |w
   .exact⟨p,hp,w,rfl⟩
   .exact⟨_,d.CY p hp,by simp[w],rfl⟩
  refine⟨p.a,hn,?_⟩;rcases d.way p hp with w |w<;>rcases z with rfl |rfl<;>simp[lR,eO,eI,T3.s,w]
 .rintro⟨n,hn,he⟩;obtain⟨p,hp,w,rfl⟩:=oQ.mp hn;have hm:=d.CY p hp;unfold lR at he;simp only[bF,b9,or_false] at he;have e0:p.s=⟨p.a,0⟩:=by show(⟨p.a,p.b⟩:T2)=_;rw[w]
  have e1:T3.s ⟨p.a,1-p.b,p.c⟩=⟨p.a,1⟩:=by show(⟨p.a,1-p.b⟩:T2)=_;rw[w];rfl
  rcases he with rfl |rfl |rfl |rfl
  .exact⟨p,hp,.inr (by rw[e0];rfl)⟩
  .exact⟨_,hm,.inl (by rw[e1];rfl)⟩
  .exact⟨_,hm,.inr (by rw[e1];rfl)⟩
  .exact⟨p,hp,.inl (by rw[e0];rfl)⟩
theorem rz(d:@Z):(@T).Nodup:=by
 unfold names;refine OW ?_;have h:=d.nd;have:∀{L:@r},(L.map T3.s).Nodup->((L.filter λp=>p.b == 0).map (·.a)).Nodup:=by
  intro L;induction L with
  |nil=>intro _;exact cJ
  | cons p L ih=>
   intro h;rw[ak,aT] at h;rw[ck];split
   .rename_i hp;rw[ak,aT];refine⟨λz=>h.1 ?_,ih h.2⟩;obtain⟨q,hq,e⟩:=@cT;have YU:=List.mem_filter.mp hq;refine List.mem_map.mpr ⟨q,YU.1,?_⟩;have b1:p.b=0:=by simpa using hp
    have b2:q.b=0:=by simpa using YU.2
    show(⟨q.a,q.b⟩:T2)=⟨p.a,p.b⟩;rw[e,b1,b2]
   .exact ih h.2
 exact this h
theorem Fj(d:@Z):Dm (fr rows) (@T) :=
 ⟨IF (zK d),rz d,λn hn e he=>(sy (zK d)).mpr ((FY d e).mpr ⟨n,hn,he⟩)⟩
theorem sE(d:@Z):2*(@T).length<=rows.flatten.length:=by
 have h:=sub_len' ((@T).flatMap λn=>[(⟨n,0⟩:T2),⟨n,1⟩]) (@c0) ?_ ?_
 .have:((@T).flatMap λn=>[(⟨n,0⟩:T2),⟨n,1⟩]).length=2*(@T).length:=by
   generalize @T=l;induction l with
   |nil=>rfl
   |cons n l ih=>rw[cD,aA,ih];simp only[ag,av];lia
  rw[this,au] at h;exact h
 .have:∀{l:@D},l.Nodup->(l.flatMap λn=>[(⟨n,0⟩:T2),⟨n,1⟩]).Nodup:=by
   intro l;induction l with
   |nil=>intro _;exact cJ
   |cons n l ih=>
    intro h;rw[aT] at h;rw[cD,cU];refine⟨@K,ih h.2,λa ha b hb e=>?_⟩;obtain⟨m,hm,hb⟩:=List.mem_flatMap.mp hb;have ea:a.a=n:=by simp only[bF,b9,or_false] at ha;rcases ha with rfl |rfl<;>rfl
    have eb:b.a=m:=by simp only[bF,b9,or_false] at hb;rcases hb with rfl |rfl<;>rfl
    rw[e,eb] at ea;exact h.1 (ea ▸ hm)
  exact this (rz d)
 .intro s hs;obtain⟨n,hn,hs⟩:=List.mem_flatMap.mp hs;obtain⟨p,hp,w,rfl⟩:=oQ.mp hn;simp only[bF,b9,or_false] at hs;rcases hs with rfl |rfl
  .exact List.mem_map.mpr ⟨p,hp,by show(⟨p.a,p.b⟩:T2)=_;rw[w]⟩
  .exact List.mem_map.mpr ⟨_,d.CY p hp,by show(⟨p.a,1-p.b⟩:T2)=_;rw[w];rfl⟩
theorem adf(d:@Z)(h:n∈@T):∃p∈rows.flatten,p.a=n:=by
 obtain⟨p,hp,_,e⟩:=oQ.mp h;exact⟨p,hp,e⟩
theorem k8(d:@Z):∀r∈rows,r.length<=24:=λr hr=>by
 have h1:=d.BX;obtain⟨a,b,e⟩:=t7 hr;rw[e,cM,cV,aA,aA] at h1;lia
def EW(rows:Rows)(ns:@D):@ae:=ns.map λn=>(n,handOf rows n)
theorem Ny(rows)(ns):(@bz).map @n=ns:=by
 unfold EW;rw[bq];exact oK ns
theorem zip_map(f:Int->Int):∀l:@D,l.zip (l.map f)=l.map λn=>(n,f n)
 |[]=>rfl
 |n::l=>by rw[ak,tZ,zip_map f l,ak]
theorem ae9(h:k<=5):8*8 ^ k<=1048576:=by
 have:8 ^ k<=8 ^ 5:=ff @t h;lia
def EN:gq :=
 (bJ (bh (e7 1 [0] (la @m) (aF 0) none (aR k7 (aq @m @aR))) (aF 2))
 (bJ (bh (jw ja (aq (e7 1 [] (la @j) (aF 0) (some (ly (fI @j))) @j) aK)) (aF 3))
 (bJ (bh (b8 (Og (aR qI @aR) (b8 (aR lr (aq (b8 (Ba [(2,-1),(-2,-1)])) (aq (b8 @O) aK)))))) (aF 4))
 (bJ (di (LY @m @p) (gY (cq (aF 5) (cq (aF 6) gH))) (bh (b8 (aR si (aq @R (aq (ar 5) (aq (ar 6) aK))))) (aF 4)))
 (bK (b8 @R))))))
def zO:iS:=λds G Q _=>∃(rows:Rows) (ns:@D),ds=[enc rows,enc ns]/\(@Z/\ns.Perm (@T)/\ns.length<=6) /\
 ∀S':Su,X8 S' []->i9 S'<=2097152->(∀g,pW [] g S'=Br (fr rows) (@bz) (i6 (lo rows) g))->Q (.qJ (jI S')) G
theorem Qx(ds)(G)(Q)(h:zO ds G Q @z):EN @q @F (aP 7 ds) G:=by
 obtain⟨rows,ns,rfl,⟨d,hp,hl⟩,q⟩:=h;have BX:=d.BX;have str:=d.str;have nn:ns.Nodup:=hp.nodup_iff.mpr (rz d);have lol:lo rows<=3:=aU (dM _ _) str;unfold EN;simp![bh,e7,ar,aP,aO,aF,jw,aq,aK,b8,ends];refine gR ⟨xW @bK,?_⟩;refine jq (xs:=ns) (λpre acc τ G'=>G=G'/\(∃a,τ=[a,@aF])/\acc=(pre.map (handOf rows)).map D.int) ⟨rfl,@A,rfl⟩ @ca ?_ ?_
 .rintro pre n post acc τ G' N e ⟨rfl,⟨a,rfl⟩,rfl⟩ hN;have hn:n∈@T:=hp.mem_iff.mp (@a6);simp![aF,aR,aq,ar,y8,aK];refine⟨rows,n,rfl,⟨@d,adf d hn⟩,?_⟩;refine hN _ _ _ ⟨rfl,@A,?_⟩;rw[aC,aC];rfl
 rintro acc τ G' ⟨rfl,⟨a,rfl⟩,rfl⟩ p1 f1;refine gR ⟨xW @bK,?_⟩;refine jq (xs:=rows) (λpre acc τ G'=>dw G p1 (.lst ((ns.map (handOf rows)).map D.int))=G'/\(∃a,τ=[a])/\acc=(pre.filter λr=>r.isEmpty).map enc) ⟨rfl,@A,rfl⟩ @ca ?_ ?_
 .rintro pre r post acc τ G' N e ⟨rfl,⟨a,rfl⟩,rfl⟩ hN;simp![aF,ly,ar];show qf (.dc (@aI)) _ _;unfold qf Ih;simp only[];by_cases c:r.isEmpty=true
  .have c2:(r.map (enc:T3->D)).isEmpty=true:=by cases r with
    |nil=>rfl
    |cons _ _=>cases c
   simp only[c2,aW,bG,if_true];refine hN _ _ _ ⟨rfl,@A,?_⟩;simp only[eK,ck,c,if_true,zx,aC,ak,aM]
  .have c2:(r.map (enc:T3->D)).isEmpty=false:=by cases r with
    |nil=>exact absurd rfl c
    |cons _ _=>rfl
   simp only[c2,aW,bG,if_false,aj];refine hN _ _ _ ⟨rfl,@A,?_⟩;have c':r.isEmpty=false:=by simpa using c
   simp only[eK,ck,c',if_false,aj,zx,bE]
 rintro acc τ G' ⟨rfl,⟨a,rfl⟩,rfl⟩ p2 f2;have p12:p1≠p2:=by ext c;rw[ax] at f2;cases f2
 simp only[J7 ax,au];simp![Og,aR,aq,ar,aK,b8];have elo:(rows.filter λr=>r.isEmpty).length=lo rows:=rfl;rw[elo];refine⟨rows,rfl,@d,?_⟩;rw[Zy d];have nd:=zK d;obtain⟨n0,e0⟩:=Np (N7 nd) (IF nd);generalize hP0:Pk (Ml (BJ rows))=P0 at n0 e0;unfold Ba;intro p5 f5;refine ie (.new f5) f5 ax (bW ?_);refine⟨_,LP,lo rows,rfl,⟨rfl,Zg⟩,IC lol,by rw[Vd];exact qO @t,λp6 f6=>?_⟩;refine ie (.new f6) f6 ax ?_;refine⟨qH P0,rfl,λp7 f7=>?_⟩;have g1:dI G (dw (dw G p1 (.lst ((ns.map (handOf rows)).map D.int))) p2 (.lst (((rows.filter λr=>r.isEmpty)).map enc))):=(dI.new f1).trans (.new f2);refine Mb (A:=[(qH P0,eW LP (lo rows))]) (.new f7) f7 ax ?_;generalize hG2:dw (dw G p1 (.lst ((ns.map (handOf rows)).map D.int))) p2 (.lst (((rows.filter λr=>r.isEmpty)).map enc))=G2 at g1;have gh:G2 p1=some (.lst ((ns.map (handOf rows)).map D.int)):=by rw[<-hG2,cu p12,ax]
 refine cX (λτ G'=>∃(S:Su) (a b:Option D),G'=G2/\τ=[@aF,some (enc ns),some (.ref p1),some (.int (lo rows)),some (.qJ (jI S)),a,b]/\X8 S []/\i9 S<=2097152/\∀g,pW [] g S=Br (fr rows) (@bz) (i6 (lo rows) g)) ?_ ?_
 .intro N hN;simp![di,LY,ar];have hz:sd (ns.map enc) ((ns.map (handOf rows)).map D.int)=(@bz).map enc:=by
   have:sd (ns.map enc) ((ns.map (handOf rows)).map enc)=(ns.zip (ns.map (handOf rows))).map enc:=Cj _ _;refine this.trans ?_;rw[zip_map];rfl
  refine PX (IsL.enc ns) (IsL.ref gh) λok cx=>?_;rw[hz];have hnl:(@bz).length=ns.length:=by unfold EW;rw[au]
  have start:∀g,pW (@bz) g [(qH P0,eW LP (lo rows))]=Br (fr rows) (@bz) (i6 (lo rows) g):=λg=>by
   show L _ _+0=_;rw[xC,Hz,Mt,e0];have:=congrFun (LQ (fr rows) (@bz) g (lo rows) 0) 0;simp only[Hz] at this;rw[M9] at this;ext g
  have so0:X8 [(qH P0,eW LP (lo rows))] ((@bz).map @n):=by
   refine⟨⟨@K,λp z9=>?_⟩,λp z9=>?_⟩
   .rw[cz] at z9;subst z9;exact⟨Y.zU _ _,Y.Ph _ _⟩
   .rw[cz] at z9;subst z9;refine⟨P0,rfl,n0,λe=>?_⟩;rw[e0,sy nd,FY d,Ny];exact⟨λ⟨n,h1,h2⟩=>⟨n,hp.mem_iff.mpr h1,h2⟩,λ⟨n,h1,h2⟩=>⟨n,hp.mem_iff.mp h1,h2⟩⟩
  refine cT (xs:=@bz) (λpre τ G'=>∃(S:Su) (a b:Option D),G'=G2/\τ=[@aF,some (enc ns),some (.ref p1),some (.int (lo rows)),some (.qJ (jI S)),a,b]/\X8 S (((@bz).drop pre.length).map @n)/\(S.length<=8*8 ^ pre.length/\i9 S<=8*8 ^ pre.length)/\∀g,pW ((@bz).drop pre.length) g S=Br (fr rows) (@bz) (i6 (lo rows) g))
   ⟨_,_,_,rfl,rfl,so0,⟨(@g:1<=8*8 ^ 0),aU (VP (VQ _)) (Ls lol)⟩,start⟩ (λpre τ G' h=>cx G' (by obtain⟨_,_,_,rfl,_⟩:=h;exact .refl _)) ?_ ?_
  .rintro pre x post τ G' N2 e ⟨S,a,b,rfl,rfl,so,⟨sl,sn⟩,sv⟩ kF;have dr:(@bz).drop pre.length=x::post:=by rw[e,ud]
   have dr2:(@bz).drop (pre++[x]).length=post:=by
    rw[e,show pre++x::post=(pre++[x])++post by simp,ud]
   have rV:pre.length+1+post.length<=6:=by
    have:=congrArg dh e;rw[aA,ag,hnl] at this;lia
   have TY:(x.1::post.map @n).Nodup:=by
    have h1:=Ny rows ns;rw[e,aC,ak] at h1;have h2:=nn;rw[<-h1] at h2;exact(List.nodup_append.mp h2).2.1
   rw[dr] at so sv;have p8:=ae9 (k:=pre.length) @c;have e3:(enc x:D)=.tup [.int x.1,.int x.2]:=rfl;rw[e3];simp only[gY,cq,gH,aF,ai,ao];simp![bh,b8,aR,aq,ar,aK,aF];refine⟨S,x.1,x.2,post,rfl,⟨so,TY,@d,@d,@d⟩,λS' so' l1 l2 v=>?_⟩;refine bW (kF _ _ ?_);rw[dr2];have e8:8*8 ^ (pre++[x]).length=8*(8*8 ^ pre.length):=by
    rw[aA,cP,zG];lia
   rw[e8];exact⟨S',_,_,rfl,rfl,so',⟨@d,@d⟩,λg=>by rw[v];exact sv g⟩
  .rintro τ G' ⟨S,a,b,rfl,rfl,so,⟨sl,sn⟩,sv⟩;have dr:(@bz).drop (@bz).length=[]:=List.drop_length;rw[dr] at so sv;have:8 ^ (@bz).length<=8 ^ 6:=ff @t @c;exact hN _ _ ⟨S,_,_,rfl,rfl,so,@d,sv⟩
 .rintro _ G' ⟨S,a,b,rfl,rfl,so,hn,hv⟩;simp![bK,b8,ar];exact BW g1 (q S so hn hv)
structure BP(T:Po)(f:Fn->Int):Prop where
 nd:ND T
 nz:NZ T
 fF:fF T<=2097152
 val:∀g,L g T=f g
theorem BP.len(b:BP T f):T.length<=2097152:=aU (xf b.nz) b.fF
def brk(rows:Rows)(g:Fn):Int:=Br (fr rows) (nh rows) (i6 (lo rows) g)
theorem ZD(so:X8 S []):∀p∈S,p.1=[]:=λp hp=>by
 obtain⟨P,e,nd,h⟩:=so.pl p hp;have:P=[]:=ZQ nd λe=>iP λz=>by
  obtain⟨n,hn,_⟩:=(h e).mp z;cases hn
 rw[e,this];rfl
theorem V5(so:X8 S [])(g):pW [] g S=L g ((cN S []).getD []):=by
 have h:=ZD so;have nd:=so.QU.1;cases S with
 |nil=>rfl
 | cons p S=>
  have e1:=h p @f;have e2:S=[]:=by
   cases S with
   |nil=>rfl
   |cons q S=>
    have e3:=h q @f;rw[ak,ak,aT] at nd;exact absurd (by rw[e1,e3];exact br) nd.1
  subst e2;have e4:cN [p] ([]:PK)=@a3:=by unfold cN;rw[cK (by simpa using e1)];rfl
  rw[e4];show L _ p.2+0=L g p.2;rw[Hz];congr 1;funext j;show sh j g 0=g j;unfold sh;rw[Hy]
def CC:gq :=
 (bK (b8 (mi tyP C3 (aR zO (aq @j (aq (aR iw @aR) aK))) (aq (b8 (eQ aK)) (aq (b8 kC) aK)))))
def mj:iS:=λds G Q _=>∃rows:Rows,ds=[enc rows]/\(@Z/\rows.flatten.length<=12)/\∀T:Po,BP T (brk rows)->Q (.kU (bb T)) G
theorem MI(ds)(G)(Q)(h:mj ds G Q @z):CC @q @F (aP 1 ds) G:=by
 obtain⟨rows,rfl,⟨d,hl⟩,q⟩:=h;have nl:=sE d;unfold CC;simp![bK,b8,mi,aR,aq,ar,aP,aK,eQ,kC,ends];refine⟨rows,rfl,(show rows.flatten.length<64 by lia),?_⟩;refine⟨rows,@T,rfl,⟨d,.refl _,@d⟩,λS so hn hv=>?_⟩;refine⟨trivial,@g,bW ?_⟩;intro p hp;refine ie @ar hp ax ?_;refine⟨[],rfl,?_⟩;have bp:BP ((cN S []).getD []) (brk rows):=⟨(so.QU.get []).1,(so.QU.get []).2,aU (Nx S []) hn,λg=>by rw[<-V5 so,hv];rfl⟩;have e:(tK (jI S) []).getD (.kU [])=.kU (bb ((cN S []).getD [])):=by
  rw[E5];cases cN S []<;>rfl
 rw[e];exact bW (q _ bp)
end JB
end K2
end
section
namespace K2
namespace JB
open K2.P K2.J
section
variable {α:Type}
noncomputable def wN:@o->List (α×α)
 |a::b::l=>(a,b)::wN (b::l)
 |_=>[]
def Au:@o->List (α×α)
 |[]=>[]
 |a::l=>wN (a::l++[a])
theorem DS(a b)(l:@o):wN (a::b::l)=(a,b)::wN (b::l):=rfl
theorem zh:∀(xs:@o) (m:α) (ys:@o),wN (xs++m::ys)=wN (xs++[m])++wN (m::ys)
 |[],m,ys=>rfl
 |[a],m,ys=>rfl
 |a::b::xs,m,ys=>by
  rw[ay,ay,DS,ay,ay,DS,ay];congr 1;exact zh (b::xs) m ys
theorem M0:∀(l:@o) (c:α),l.zip (l.drop 1++[c])=wN (l++[c])
 |[],_=>rfl
 |[a],c=>rfl
 |a::b::l,c=>by
  rw[ay,ay,DS];show(a,b)::(b::l).zip (l++[c])=_;congr 1;exact M0 (b::l) c
theorem GW(A B:@o):(Au (A++B)).Perm (Au (B++A)):=by
 cases A with
 |nil=>rw[aG,bE]
 | cons a A=>
  cases B with
  |nil=>rw[aG,bE]
  | cons b B=>
   show(wN (a::A++b::B++[a])).Perm (wN (b::B++a::A++[b]));have e1:wN (a::A++b::B++[a])=wN (a::A++[b])++wN (b::B++[a]):=by
    rw[aS];exact zh (a::A) b (B++[a])
   have e2:wN (b::B++a::A++[b])=wN (b::B++[a])++wN (a::A++[b]):=by
    rw[aS];exact zh (b::B) a (A++[b])
   rw[e1,e2];exact bY
end
theorem VY(r):r.zip (j6 r)=Au r:=by
 cases r with
 |nil=>rfl
 |cons a l=>exact M0 (a::l) a
theorem iE(rows):@a2=rows.flatMap Au:=by
 unfold pairsOf;congr 1;funext r;exact VY r
theorem vh{α β:Type}(f:α->List β):∀{rows:@o} {i:Nat} {r r':α},rows[i]?=@aD->((rows.set i r').flatMap f).Perm (f r'++(rows.eraseIdx i).flatMap f)
 |[],_,_,_,h=>@cc
 |a::rows,0,r,r',h=>by rw[ai,cD,QM]
 |a::rows,i+1,r,r',h=>by
  rw[ao,cD,QN,cD];refine((vh f (rows:=rows) (i:=i) (r:=r) (@b2)).append_left _).trans ?_;rw[<-aS,<-aS];exact List.perm_append_comm.append_right _
theorem Mk{α β:Type}(f:α->List β){rows:@o}{r:α}(h:rows[i]?=@aD):(rows.flatMap f).Perm (f r++(rows.eraseIdx i).flatMap f):=by
 have:=vh f (r':=r) h;have e:rows.set i r=rows:=by
  obtain⟨hi,e⟩:=List.getElem?_eq_some_iff.mp h;rw[<-e];exact Vn hi
 rw[e] at this;ext g
def Nds(rows:Rows):Prop:=(@c0).Nodup
theorem aap(h:Nds rows):(es (BJ rows)).Nodup:=by
 refine Yn ?_ ?_
 .have:=congrArg (List.map T3.s) (qZ rows);rw[bq] at this;have h2:((@a2).map λp=>p.1.s)=@c0:=this;rw[h2];exact h
 .have:=(qY rows).map T3.s;rw[bq] at this;exact this.nodup_iff.mpr h
theorem Uv{rows:Rows}(h:rows[i]?=@aD):(rows.set i r').flatten.Perm (r'++(rows.eraseIdx i).flatten):=by
 have:=vh (λr:@r=>r) (r':=r') h;simpa[List.flatMap_id'] using this
theorem XO{rows:Rows}(h:rows[i]?=@aD):rows.flatten.Perm (r++(rows.eraseIdx i).flatten):=by
 have:=Mk (λr:@r=>r) h;simpa[List.flatMap_id'] using this
end JB
end K2
end
section
namespace K2
open PySem (Str)
open Enc (enc)
namespace T
abbrev Tb:=List (@D)
structure HL(G G':Gp)(p0:Nat)(as:@aT)(rs:List (@e)):Prop where
 le:@G
 fp:G p0=none
 gp:G' p0=some (.lst (@cs))
 np:p0∉as
 nd:as.Nodup
 fr:∀a∈as,G a=none
 len:as.length=rs.length
 at':∀(i a:Nat) (r:@e),as[i]?=some a->rs[i]?=@aD->G' a=some (.lst r)
theorem HL.ext(h:HL G G' p0 as rs)(l:dI G' G''):HL G G'' p0 as rs :=
 ⟨h.le.trans l,h.fp,l _ _ h.gp,h.np,h.nd,h.fr,h.len,λi a r h1 h2=>l _ _ (h.at' i a r h1 h2)⟩
theorem HL.row(h:HL G G' p0 as rs){i:Nat}(hr:rs[i]?=@aD):∃a,as[i]?=some a/\G' a=some (.lst r)/\rN (@cs) @ay=some @u:=by
 have hi:i<as.length:=by rw[h.len];exact(List.getElem?_eq_some_iff.mp hr).1
 refine⟨as[i],az hi,h.at' i _ r (az hi) hr,?_⟩;rw[qw _ @c @bK];simp
theorem S0{as:@aT}(hn:as.Nodup){j:Nat}(h1:as[i]?=some a)(h2:as[j]?=some a):i=j:=by
 have g1:=@c8;have g2:=List.getElem?_eq_some_iff.mp h2;have pw:=List.pairwise_iff_getElem.mp hn;rcases Nat.lt_trichotomy i j with lt |eq |gt
 .exact absurd (g1.2.trans g2.2.symm) (pw i j g1.1 g2.1 lt)
 .exact eq
 .exact absurd (g2.2.trans g1.2.symm) (pw j i g2.1 g1.1 gt)
theorem SY{as:@aT}(h:∀i k a:Nat,i<k->as[i]?=some a->as[k]?=some a->False):as.Nodup:=by
 refine List.pairwise_iff_getElem.mpr λi k hi hk hik z=>?_;exact h i k as[i] hik (az hi) (by rw[az hk,z])
theorem HL.RO(h:HL G G' p0 as rs)(hj:j<as.length)(ga:G' a=some (.lst r'))(na:a∉as)(fa:G a=none)(np:a≠p0):HL G (dw G' p0 (.lst ((as.set j a).map D.ref))) p0 (as.set j a) (rs.set j r'):=by
 have YY:∀b,b∈as.set j a->b=a\/b∈as:=λb hb=>by
  rcases MW hb with z |z
  .exact .inr z
  .exact .inl z
 refine⟨h.le.put h.fp,h.fp,ax,λz=>?_,?_,λb hb=>?_,by rw[da,da];exact h.len,λi b r hb hr=>?_⟩
 .rcases YY _ z with z |z
  .exact np z.symm
  .exact h.np z
 .refine SY λi k b hik h1 h2=>?_;by_cases e1:j=i
  .subst e1;rw[dj hj] at h1;rw[du @c] at h2;cases h1;exact na (cp h2)
  .rw[du e1] at h1;by_cases e2:j=k
   .subst e2;rw[dj hj] at h2;cases h2;exact na (cp h1)
   .rw[du e2] at h2;have:=S0 h.nd h1 h2;lia
 .rcases YY b hb with z |z
  .rw[z];exact fa
  .exact h.fr b z
 .have hb0:b≠p0:=by
   ext c;rcases YY b (cp hb) with z |z
   .exact np z.symm
   .exact h.np z
  rw[cu hb0];by_cases e:j=i
  .subst e;rw[dj hj] at hb;rw[dj (by rw[<-h.len];exact hj)] at hr;cases hb;cases hr;exact ga
  .rw[du e] at hb hr;exact h.at' i b r hb hr
theorem HL.fz{G G':Gp}{p0:Nat}{as:@aT}{rs:List (@e)}(h:HL G G' p0 as rs){Q:DK}(q:Q (.dc (rs.map D.dc)) G):QC G' (.ref p0) Q:=by
 refine Ab h.le h.fp h.gp (ss:=rs.map D.dc) ?_ q;have:∀(as:@aT) (rs:List (@e)),as.length=rs.length->(∀a∈as,G a=none)->(∀(i a:Nat) (r:@e),as[i]?=some a->rs[i]?=@aD->G' a=some (.lst r))->zr G' (λa=>(G a).isNone) (@cs) (rs.map D.dc):=by
  intro as;induction as with
  |nil=>intro rs hl _ _;cases rs with
   |nil=>ext d
   |cons _ _=>cases hl
  | cons a as ih=>
   intro rs hl hf AZ;cases rs with
   |nil=>cases hl
   |cons r rs=>
    refine .cons (.ref (AZ 0 a r rfl rfl) (by simp[hf a @f]) (zr.same _)) ?_;exact ih rs (by simpa using hl) (λb hb=>hf b (aI _ hb)) λi b s h1 h2=>AZ (i+1) b s h1 h2
 exact this as rs h.len h.fr h.at'
end T
namespace P
variable {rows:Rows}
theorem Lg(rows):(@bp).length<=rows.flatten.length+rows.length:=by
 have:∀(rs:Rows) (k:Nat),(bI rs k).length<=rs.flatten.length+rs.length:=by
  intro rs;induction rs with
  |nil=>intro k;simp[bI]
  | cons r rs ih=>
   intro k;have:=ih (k+1);rw[bI,aA,cV,aA,ag];have:(bN r (k:Int)).length<=r.length+1:=by
    unfold bN;split<;>simp
   lia
 exact this rows 0
theorem zN(d:@Z):(@bp).length<=27:=by
 have:=Lg rows;have:=d.BX;have:=d.str;lia
end P
namespace P
variable {rows:Rows}
def xZ(rows:Rows)(s:T2):Nat:=(((rows.zipIdx 0).find? λp=>decide (s∈bN p.1 (p.2:Int))).map (·.2)).getD 0
def gP:iS:=λds G Q _=>∃(rows:Rows) (s:T2),ds=[enc rows,enc s]/\((∀r∈rows,@cn)/\∃p∈rows.zipIdx 0,s∈bN p.1 (p.2:Int))/\Q (.int (xZ rows s)) G
def yi:gq :=
 (bJ (di (yQ @j) (gY (cq (aF 2) (cq (aF 3) gH))) (d6 (fI (aN (O7 false) @m (aR jP (aq @O (aq @p aK))))) (bK (b8 @p)) cj))
 sY)
theorem zj(ds)(G)(Q)(h:gP ds G Q @z):yi @q @F (aP 4 ds) G:=by
 obtain⟨rows,s,rfl,⟨hr,hs⟩,q⟩:=h;unfold yi;refine cX (λτ G'=>False) ?_ (λ_ _ h=>h.elim);intro N hN;simp only[di,yQ,ar,aP,ak,aM,ag,av,aO,ay,aG,aa,ends];refine u7 ?_;rw[JQ];refine cT (xs:=rows.zipIdx 0) (λpre τ G'=>G=G'/\(∃a b,τ=[@aF,some (enc s),a,b])/\∀p∈pre,s∉bN p.1 (p.2:Int)) ⟨rfl,@al,λ_ h=>@aS⟩ @aA ?_ ?_
 .rintro pre x post τ G' N2 e ⟨rfl,⟨a,b,rfl⟩,hp⟩ kF;obtain⟨lf,rt,e1,e2,e3⟩:=r8 e;simp only[gY,cq,aF,gH,d6,ao,ai,bK,b8,ar,ae,aa,cj,b7,aN,aR,aq,aK];refine⟨x.1,(x.2:Int),rfl,hr x.1 (by rw[e1];simp),?_⟩;refine Nd @t ?_;simp only[aj,if_false,aY];by_cases hx:s∈bN x.1 (x.2:Int)
  .simp only[hx,decide_true,aj,if_false,if_true];have:xZ rows s=x.2:=by
    unfold xZ;have:(rows.zipIdx 0).find? (λp=>decide (s∈bN p.1 (p.2:Int)))=@aa:=by
     rw[e,oM];have:pre.find? (λp=>decide (s∈bN p.1 (p.2:Int)))=none:=by
      rw[fO];intro p h;simpa using hp p h
     rw[this];simp[hx]
    rw[this];rfl
   rw[<-this];exact bW q
  .simp only[hx,decide_false,aj,if_false];refine kF _ _ ⟨rfl,@al,λp h=>?_⟩;rcases List.mem_append.mp h with h |h
   .exact hp p h
   .rw[List.mem_singleton.mp h];exact hx
 .rintro τ G' ⟨rfl,_,hp⟩;obtain⟨p,h1,h2⟩:=hs;exact absurd h2 (hp p h1)
theorem Lo(n):iK 0 n=((fG n).map λ(i:Nat)=>@ay).map enc:=by
 unfold iK;rw[bq];refine dO λi _=>?_;show D.int (0+@ay)=D.int @ay;rw[Hy]
end P
namespace Y
def uW:gq :=
 (bJ (d6 (fI (aN ZN @m (jw ja @aR))) (bK (b8 (aN fQ @j @m))) cj)
 (bK (b8 @H)))
noncomputable def jE(ns:@D)(k:Int):Int:=ns.getD k.toNat 0
def bS:iS:=λds G Q _=>∃(ns:@D) (k:Int),ds=[.dc (@av),.int k]/\0<=k/\Q (.int (jE ns k)) G
theorem DZ(ds)(G)(Q)(h:bS ds G Q @z):uW @q @F (aP 2 ds) G:=by
 obtain⟨ns,k,rfl,h0,q⟩:=h;unfold uW;simp only[bJ,d6,aP,ak,aM,ag,av,ay,aG,bK,b8,aN,ar,aa,ae,ends,hV,cj,dC,b7,jw,aq,aK,jZ,kX,aY];split
 .rename_i h;have h1:k<(@av).length:=@b2
  rw[qw _ h0 h1];simp only[lZ];rw[au] at h1;have e:jE ns k=ns[k.toNat]:=by unfold jE;rw[e9,az @c];rfl
  rw[<-e];exact bW q
 .rename_i h;have h1:¬ k<(@av).length:=@b2
  rw[au] at h1;have e:jE ns k=0:=by unfold jE;rw[e9,kO @c];rfl
  rw[<-e];exact bW q
def ym:gq :=
 (bK (b8 (DN (JV "int" @j) (Of (JV "bool" @j)))))
def eN:iS:=λds G Q _=>∃i:Int,ds=[@w]/\Q (.bl true) G
theorem Hs(ds)(G)(Q)(h:eN ds G Q @z):ym @q @F (aP 1 ds) G:=by
 obtain⟨i,rfl,q⟩:=h;unfold ym;simp only[bK,b8,aP,ak,aM,ag,av,ay,aG,ends,jo,kM,kY,ar,aa,kL,aY];simpa using bW q
def AQ:gq :=
 (bK (b8 (aN pC (aN pC (aN Lq @j (dC (.int 48271))) @m) @p)))
noncomputable def pick(c p m:Int):Int:=c*48271 % p % m
def gf:iS:=λds G Q _=>∃c p m:Int,ds=[.int c,.int p,.int m]/\(0<p/\0<m)/\Q (.int (pick c p m)) G
theorem Kg(ds)(G)(Q)(h:gf ds G Q @z):AQ @q @F (aP 3 ds) G:=by
 obtain⟨c,p,m,rfl,⟨hp,hm⟩,q⟩:=h;unfold AQ;simp only[bK,b8,aN,ar,aP,ak,aM,ag,av,ay,aG,aa,dC,ae,ends,jl,eD];exact⟨.inr ⟨@g,@g⟩,hp,hm,bW q⟩
theorem oy(c p)(h:0<m):0<=pick c p m:=nC _ @c
theorem oz(c p)(h:0<m):pick c p m<m:=kE _ h
def AP:gq :=
 (bJ (d6 (ly (fI (JV "dict" @j))) (bK (b8 (dC (.bl false)))) cj)
 (bJ (di (lx @j) (aF 1) (d6 (A8 (ly (fI (aR eN (aq @m aK)))) (A8 (ly (fI (aR eN (aq (aN fQ @j @m) aK)))) (fI (aN @bI (aN fQ @j @m) @H)))) (bK (b8 (dC (.bl false)))) cj))
 (bK (b8 (dC (.bl true))))))
def gU:iS:=λds G Q _=>∃(d:D) (l:Po),ds=[d]/\Pl G d l/\NZ l/\Q (.bl true) G
theorem Kf(ds)(G)(Q)(h:gU ds G Q @z):AP @q @F (aP 2 ds) G:=by
 obtain⟨d,l,rfl,hd,hz,q⟩:=h;unfold AP;refine cX (λτ G'=>τ=[@U,none]/\G=G') ?_ ?_
 .intro N hN;simp only[d6,ly,aP,ak,aM,ag,av,aO,ay,aG,bK,b8,dC,ends,cj,b7,kY,ar,aa];refine TN (G:=G) hd.is.p ?_;simp only[beq_self_eq_true,aY,aW,aj,if_false];exact hN _ _ @a_
 rintro _ _ ⟨rfl,rfl⟩;refine cX (λτ G'=>(∃a,τ=[@U,a])/\G=G') ?_ ?_
 .intro N hN;simp only[di,lx,ar,aa,ends];refine sO hd.is (.refl _) λok cx=>?_;refine cT (xs:=l) (λpre τ G'=>(∃a,τ=[@U,a])/\G=G') ⟨@A,rfl⟩ (λpre τ G' h=>cx G' (by rw[<-h.2];exact .refl _)) ?_ ?_
  .rintro pre x post τ G' N2 e ⟨⟨a,rfl⟩,rfl⟩ kF;have hm:x∈l:=@a6
   have hx:=rO hd.nd hm;simp only[aF,d6,A8,ly,ao,ai,bK,b8,dC,cj,if_true,b7,aN,ar,aa,ae,aR,aq,aK];refine⟨_,rfl,?_⟩;simp only[aY,aW,aj,if_false];refine ES hd.is.p hx ⟨x.2,rfl,?_⟩;simp only[aY,aW,aj,if_false];refine ES hd.is.p hx ⟨_,_,@S,@S,?_⟩;simp only[aj,GN,hz x hm,decide_false,bG,if_false,aY];exact kF _ _ ⟨@A,rfl⟩
  .rintro τ G' ⟨⟨a,rfl⟩,rfl⟩;exact hN _ _ ⟨@A,rfl⟩
 .rintro _ _ ⟨⟨a,rfl⟩,rfl⟩;simp only[bK,b8,dC,ends];exact bW q
def yp:gq :=
 (bJ (bh kC (aF 1))
 (bJ (di (lx @j) (aF 2) (d6 (fI (aN (zT true) (aN fQ @j @p) @H)) (bh (aN fQ @j @p) (iH @m @p)) cj))
 (bK (b8 @m))))
def oh:iS:=fU
theorem Hu(ds)(G)(Q)(h:oh ds G Q @z):yp @q @F (aP 3 ds) G:=by
 obtain⟨d,l,rfl,hd,hl,q⟩:=h;unfold yp;simp only[ends,aP,ak,aM,ag,av,aO,ay,aG,bZ,bh,kC,aF,ao,ai];intro p hp;refine cX (λτ G'=>(∃a,τ=[@U,@aq,a])/\@G/\G' p=some (.gz (bb (gV l)))) ?_ ?_
 .intro N hN;simp only[di,lx,ar,aa];refine sO hd.is @ar λok cx=>?_;refine cT (xs:=l) (λpre τ G'=>(∃a,τ=[@U,@aq,a])/\@G/\G' p=some (.gz (bb (gV pre)))) ⟨@A,.new hp,ax⟩ (λpre τ G' h=>cx G' h.2.1) ?_ ?_
  .rintro pre x post τ G' N2 e ⟨⟨a,rfl⟩,le,gp⟩ kF;have hlen:(gV pre).length<SZ:=by
    have:=vP pre;have:=j8 e;lia
   have hm:x∈l:=@a6
   have hx:=rO hd.nd hm;simp only[aF,d6,ao,ai,bh,aN,ar,aa,ae,iH,cj,b7,dC];refine ES hd.is.p hx ⟨_,_,@S,@S,?_⟩;simp only[GN,if_true,aY];by_cases hz:x.2=0
   .simp only[hz,decide_true,aW,aj,if_false];exact kF _ _ ⟨@A,le,by rw[CN hz];exact gp⟩
   .simp only[hz,decide_false,bG,if_true];refine ES hd.is.p hx ?_;refine gw (α:=Int) gp hlen ?_;exact kF _ _ ⟨@A,le.put hp,by rw[ax,<-CM hd.nd e hz]⟩
  .rintro τ G' ⟨⟨a,rfl⟩,le,gp⟩;exact hN _ _ ⟨@A,le,gp⟩
 .rintro _ G' ⟨⟨a,rfl⟩,le,gp⟩;simp only[bK,b8,ar,ae,aa];exact sX le hp gp q
def uT:gq :=
 (bJ (bh kC (aF 2))
 (bJ (di (lx @j) (aF 3) (di (lx @m) (aF 4) (bh (aN fk (mi Rl C4 @p (aq (aN fk @O @R) (aq @H aK))) (aN ER (aN fQ @j @O) (aN fQ @m @R))) (iH @p (aN fk @O @R)))))
 (bK (b8 (aR oh (aq (b8 @p) aK))))))
def fE:iS:=lH
theorem DX(ds)(G)(Q)(h:fE ds G Q @z):uT @q @F (aP 5 ds) G:=by
 obtain⟨d,e,l,m,rfl,hd,he,hl,⟨hb,hf⟩,q⟩:=h;unfold uT;simp only[ends,aP,ak,aM,ag,av,aO,ay,aG,bZ,bh,kC,aF,ao,ai];intro p hp;refine cX (λτ G'=>(∃a1 a2,τ=[@U,some e,@aq,a1,a2])/\@G/\G' p=some (.gz (bb (mG l m)))) ?_ ?_
 .intro N hN;simp only[di,lx,ar,aa];refine sO hd.is @ar λok cx=>?_;refine cT (xs:=l) (λpre τ G'=>(∃a1 a2,τ=[@U,some e,@aq,a1,a2])/\@G/\G' p=some (.gz (bb (pre.foldl (nH m) [])))) ⟨@al,.new hp,ax⟩ (λpre τ G' h=>cx G' h.2.1) ?_ ?_
  .rintro pre x post τ G' N2 e1 ⟨⟨a1,a2,rfl⟩,le,gp⟩ kF;have hm1:x∈l:=by rw[e1];simp
   have hx:x.2.natAbs<oG:=fR (yC hm1) hb;simp only[aF,di,lx,ar,ao,ai,ae,aa];refine sO he.is le λok2 aaI=>?_;refine cT (xs:=m) (λmp τ G'=>(∃a2,τ=[@U,some e,@aq,some (.int x.1),a2])/\@G/\G' p=some (.gz (bb (nH mp (pre.foldl (nH m) []) x)))) ⟨@A,le,gp⟩ (λpre τ G' h=>aaI G' h.2.1) ?_ ?_
   .rintro mp y mq τ G2 N3 e2 ⟨⟨b2,rfl⟩,Jk,HH⟩ Bu;have VE:y∈m:=by rw[e2];simp
    have hlen:=bC (NB e1 e2 (pre.foldl (nH m) []) (Fm m pre)) hl;have hy:y.2.natAbs<oG:=fR (yC VE) hf;simp only[aF,bh,aN,mi,ar,ao,ai,ae,aa,j5,aq,dC,aK,iH,cb];refine⟨FV (zA.ref HH),S9 (zA.ref HH) ?_⟩;refine ES hd.is.p (rO hd.nd hm1) (ES he.is.p (rO he.nd VE) ?_);refine⟨⟨hx,hy⟩,?_⟩;refine gw (α:=Int) HH hlen ?_;refine Bu _ _ ⟨@A,Jk.put hp,?_⟩;rw[ax]
    conv=>rhs;rw[nH,ij]
    rfl
   .rintro τ G2 ⟨⟨b2,rfl⟩,Jk,HH⟩;refine kF _ _ ⟨@al,Jk,?_⟩;rw[HH,ij];rfl
  .rintro τ G' ⟨⟨a1,a2,rfl⟩,le,gp⟩;exact hN _ _ ⟨@al,le,gp⟩
 .rintro _ G' ⟨⟨a1,a2,rfl⟩,le,gp⟩;simp only[bK,b8,aR,aq,ar,ae,aa,aK];refine ie le hp gp ?_;refine⟨_,mG l m,rfl,⟨rfl,w8 l m⟩,aU (qj l m) hl,λp2 nP=>?_⟩;exact sX (.new nP) nP ax q
noncomputable def N60:Int:=10 ^ 60
def aco(c:Int):Int:=if pick c 10009 4=1 then c*48271 % (2*N60-1)-(N60-1) else pick c 10037 11-5
def number(c:Int):Int:=if aco c=0 then 7 else aco c
end Y
namespace KD
open K2.T
open K2.P (names handOf xZ bN iw k7 gP)
open K2.Y (jE pick oy oz bS eN gf ju j8)
theorem hW [@Q] [@ab](rs:List (@o)):(enc rs:D)=.dc ((rs.map λr=>@aI).map D.dc):=by
 show D.dc _=_;rw[bq];rfl
def qi:gq :=
 (bK (b8 (e7 1 [] (la @j) (aF 0) none (jw vq @aR))))
def iC:iS:=λds G Q _=>∃rs:List (@e),ds=[.dc (rs.map D.dc)]/\rs.length<=1000/\∀G' p0 as,HL G G' p0 as rs->Q (.ref p0) G'
theorem vH(ds)(G)(Q)(h:iC ds G Q @z):qi @q @F (aP 1 ds) G:=by
 obtain⟨rs,rfl,hl,q⟩:=h;unfold qi;simp only[bK,b8,e7,aP,ak,aM,ag,av,ay,aG,ends,c8,ar,aa,mI];refine⟨xW (by rw[au];exact hl),?_⟩;refine jq (xs:=rs) (λpre acc τ G'=>(∃a,τ=[a])/\∃as:@aT,acc=@cs/\@G/\as.Nodup/\(∀a∈as,G a=none)/\as.length=pre.length/\(∀(i a:Nat) (r:@e),as[i]?=some a->pre[i]?=@aD->G' a=some (.lst r))) ?_ @ca ?_ ?_
 .exact⟨@A,[],rfl,.refl G,cJ,λ_ h=>by(cases h),rfl,λi a r h=>@cc⟩
 .rintro pre r post acc τ G' N e ⟨⟨a,rfl⟩,as,rfl,le,nd,fr,ln,AZ⟩ hN;simp only[aF,jw,aq,ar,ai,aa,aK];refine J4 (IsL.dc) λp hp=>?_;have hna:p∉as:=λz=>by
   obtain⟨i,hi⟩:=hZ z;have h1:i<pre.length:=by rw[<-ln];exact(@c4).1
   have:=AZ i p pre[i] hi (az h1);rw[hp] at this;ext f
  refine hN _ _ _ ⟨@A,as++[p],@K,le.trans @ar,?_,λb hb=>?_,by rw[aA,aA,ln];rfl,λi b r2 h1 h2=>?_⟩
  .rw[cU];exact⟨nd,@K,λx hx y hy=>by rw[cz] at hy;subst hy;intro z;exact hna (z ▸ hx)⟩
  .rcases List.mem_append.mp hb with z |z
   .exact fr b z
   .rw[cz] at z;rw[z];exact le.free hp
  ·by_cases hi:i<as.length
   .rw[cF hi] at h1;rw[cF (by rw[<-ln];exact hi)] at h2;have:=AZ i b r2 h1 h2;exact(dI.new hp) _ _ this
   .rw[cg @c] at h1;rw[cg @c] at h2;have:i-as.length=0:=by
     have:=(@c8).1;simp at this;lia
    rw[this] at h1;rw[show i-pre.length=0 by lia] at h2;simp at h1 h2;subst h1 h2;exact ax
 .rintro acc τ G' ⟨⟨a,rfl⟩,as,rfl,le,nd,fr,ln,AZ⟩ p hp;have hna:p∉as:=λz=>by
   obtain⟨i,hi⟩:=hZ z;have h1:i<rs.length:=by rw[<-ln];exact(@c4).1
   have:=AZ i p rs[i] hi (az h1);rw[hp] at this;ext f
  refine bW (q _ p as ⟨le.trans @ar,le.free hp,ax,hna,nd,fr,ln,λi b r h1 h2=>?_⟩);exact(dI.new hp) _ _ (AZ i b r h1 h2)
def qh:gq :=
 (bJ (GV (fI (aN (O7 false) @m @j)) (bh (aN fk (aN pC @m (dC (.int 999))) @E) (aF 1)))
 (bK (b8 @m)))
noncomputable def fnx(n:Int):Int:=n % 999+1
noncomputable def fit(n:Int):Nat->Int
 |0=>n
 |k+1=>fnx (fit n k)
theorem DE(h1:1<=n)(h2:n<=999):∀k:Nat,fit n k=(n-1+k) % 999+1
 |0=>by show n=_;lia
 |k+1=>by
  show fnx (fit n k)=_;rw[DE h1 h2 k];unfold fnx;lia
theorem Uy{ns:@D}(h1:1<=n)(h2:n<=999)(hl:ns.length<=500):∃k,k<=ns.length/\fit n k∉ns:=by
 apply iP;intro hno;have yV:∀k,k<=ns.length->fit n k∈ns:=λk hk=>iP λz=>hno ⟨k,hk,z⟩;have nd:((fG (ns.length+1)).map λk=>fit n k).Nodup:=by
  refine List.pairwise_iff_getElem.mpr λi j hi hj P7=>?_;simp only[au,ig] at hi hj;rw[lZ,lZ,mZ,mZ,DE h1 h2,DE h1 h2];lia
 have:=ju _ ns nd λx hx=>by
  obtain⟨k,hk,rfl⟩:=List.mem_map.mp hx;exact yV k (by have:=List.mem_range.mp hk;lia)
 simp at this;lia
def jT:iS:=λds G Q _=>∃(d:D) (ns:@D) (n:Int),ds=[d,.int n]/\IsL G d (@av)/\(ns.length<=500/\1<=n/\n<=999)/\∀m:Int,m∉ns->1<=m->m<=999->Q (.int m) G
theorem IE{G:Gp}{d:D}{ns:@D}{i:Int}{Q:DK}(h:IsL G d (@av))(k:Q (.bl (decide (i∈ns))) G):O7 false (@w) d G Q:=by
 have e:(@av).any (λx=>i7 x (@w))=decide (i∈ns):=Ov ns i;rcases h with rfl |⟨a,rfl,g⟩
 .refine⟨@w,@av,@S,Sn.rI ns,?_⟩;simp only[aj,if_false];rw[e];exact k
 .unfold O7;simp only[g];refine⟨@w,@av,@S,Sn.rI ns,?_⟩;simp only[aj,if_false];rw[e];exact k
theorem vF(ds)(G)(Q)(h:jT ds G Q @z):qh @q @F (aP 2 ds) G:=by
 obtain⟨d,ns,n,rfl,hd,⟨hl,h1,h2⟩,q⟩:=h;unfold qh;refine cX (λτ G'=>G=G'/\∃m:Int,(m∉ns/\1<=m/\m<=999)/\τ=[@U,some (.int m)]) ?_ ?_
 .intro N hN;obtain⟨k,hk,tN⟩:=Uy h1 h2 hl;have main:∀(j:Nat),j<=k->Ia (fI (aN (O7 false) @m @j)) (bh (aN fk (aN pC @m (dC (.int 999))) @E) (aF 1)) (j+1) @q {ends Q with nx:=N} [@U,some (.int (fit n (k-j)))] G:=by
   intro j;induction j with
   |zero=>
    intro _;show Ia _ _ (0+1) _ _ _ _;rw[Ia];simp only[bh,aN,ar,ae,aa,dC,aF,ends,ao,ai,eD,cb,b7];refine IE hd ?_;simp only[Nat.sub_zero,tN,decide_false,aY,aj,if_false];have:=DE h1 h2 k;exact hN _ _ ⟨rfl,_,⟨tN,@d,@d⟩,rfl⟩
   | succ j ih=>
    intro hj;rw[Ia];simp only[bh,aN,ar,ae,aa,dC,aF,ends,ao,ai,eD,cb,b7];refine IE hd ?_;have hb:=DE h1 h2 (k-(j+1));by_cases hm:fit n (k-(j+1))∈ns
    .simp only[hm,decide_true,aY,if_true];refine⟨@g,?_⟩;have e:fit n (k-(j+1)) % 999+1=fit n (k-j):=by
      rw[show k-j=(k-(j+1))+1 by lia];rfl
     rw[e];exact ih @c
    .simp only[hm,decide_false,aY,aj,if_false];exact hN _ _ ⟨rfl,_,⟨hm,@d,@d⟩,rfl⟩
  have:=main k @J;rw[Nat.sub_self] at this;exact⟨k+1,this⟩
 .rintro _ _ ⟨rfl,m,⟨m1,m2,m3⟩,rfl⟩;simp only[bK,b8,ar,ae,aa,ends];exact bW (q m m1 m2 m3)
noncomputable abbrev dT(t:Tb):List (@e):=t.map λr=>r.map D.int
end KD
namespace KD
open K2.T
open K2.P (names handOf xZ bN iw k7 gP)
open K2.Y (jE pick oy oz bS eN gf ju j8)
structure AL(G G':Gp)(as:@aT)(rs:List (@e)):Prop where
 le:@G
 nd:as.Nodup
 fr:∀a∈as,G a=none
 len:as.length=rs.length
 at':∀(i a:Nat) (r:@e),as[i]?=some a->rs[i]?=@aD->G' a=some (.lst r)
theorem AL.nil(G):AL G G [] []:=⟨.refl G,cJ,λ_ h=>by(cases h),rfl,λi a r h=>@cc⟩
theorem AL.new(h:AL G G' as rs)(hp:G' p=none):p∉as:=λz=>by
 obtain⟨i,hi⟩:=hZ z;have h1:i<rs.length:=by rw[<-h.len];exact(@c4).1
 have:=h.at' i p rs[i] hi (az h1);rw[hp] at this;ext f
theorem AL.push(h:AL G G' as rs)(hp:G' p=none)(r):AL G (dw G' p (.lst r)) (as++[p]) (rs++[r]):=by
 refine⟨h.le.trans @ar,?_,λb hb=>?_,by rw[aA,aA,h.len];rfl,λi b r2 h1 h2=>?_⟩
 .rw[cU];exact⟨h.nd,@K,λx hx y hy=>by rw[cz] at hy;subst hy;intro z;exact h.new hp (z ▸ hx)⟩
 .rcases List.mem_append.mp hb with z |z
  .exact h.fr b z
  .rw[cz] at z;rw[z];exact h.le.free hp
 ·by_cases hi:i<as.length
  .rw[cF hi] at h1;rw[cF (by rw[<-h.len];exact hi)] at h2;exact(dI.new hp) _ _ (h.at' i b r2 h1 h2)
  .have ln:=h.len;rw[cg @c] at h1;rw[cg @c] at h2;have:i-as.length=0:=by
    have:=(@c8).1;simp at this;lia
   rw[this] at h1;rw[show i-rs.length=0 by lia] at h2;simp at h1 h2;subst h1 h2;exact ax
theorem AL.top(h:AL G G' as rs)(hp:G' p=none):HL G (dw G' p (.lst (@cs))) p as rs :=
 ⟨h.le.trans @ar,h.le.free hp,ax,h.new hp,h.nd,h.fr,h.len,λi b r h1 h2=>(dI.new hp) _ _ (h.at' i b r h1 h2)⟩
theorem sZ:JW i t E K τ G=t E {K with nx:=λrZ G1=>match rZ[i]? with
 |some (some d)=>QC G1 d λt G2=>K.nx (rZ.set i (some t)) G2
 |_=>False} τ G:=rfl
end KD
namespace Zi
open K2.P
section
variable {α β:Type} [@Q] [DecidableEq β]
variable {V:@o} {R:α->α->Prop}
noncomputable def it(f:α->α):Nat->α->α
 |0,a=>a
 |n+1,a=>f (it f n a)
variable {f:α->α}
theorem S4:∀(xs ys:@o),xs.Nodup->(∀x∈xs,x∈ys)->xs.length<=ys.length
 |[],_,_,_=>cI _
 |x::xs,ys,hn,h=>by
  rw[aT] at hn;have:=S4 xs (ys.erase x) hn.2 λy hy=>(AF (show y≠x from λz=>hn.1 (by rw[<-z];exact hy))).mpr (h y (aI _ hy));have hx:=h x @f;rw[vK hx] at this;have:=xH hx;rw[ag];lia
end
end Zi
namespace Oz
open K2.P
structure HR(G G':Gp)(p0:Nat)(as:@aT)(rs:Rows):Prop where
 le:@G
 fp:G p0=none
 gp:G' p0=some (.lst (@cs))
 np:p0∉as
 nd:as.Nodup
 fr:∀a∈as,G a=none
 len:as.length=rs.length
 at':∀(i a:Nat) (r:@r),as[i]?=some a->rs[i]?=@aD->G' a=some (.lst (@aI))
end Oz
namespace Zi
open K2.P
variable {rows:Rows}
theorem twice(d:@Z):rows.flatten.length=2*(@T).length:=by
 have e0:(@T).length=(@cY).length:=by unfold names;rw[BK,au]
 have nd:rows.flatten.Nodup:=by
  have:=d.nd;unfold List.Nodup at this;rw[oJ] at this;exact this.imp λ{u v} q z=>q (by rw[z])
 have h1:rows.flatten.length=(@cY).length+(rows.flatten.filter λp=>!(p.b == 0)).length:=by
  rw[<-HU,<-HU];rw[List.length_eq_countP_add_countP (λp:T3=>p.b == 0) (l:=rows.flatten)];congr 1;refine List.countP_congr λx _=>?_;simp
 have YC:∀{L:@r},L.Nodup->(L.map om).Nodup:=by
  intro L h;unfold List.Nodup;rw[oJ];exact h.imp λ{u v} q z=>q (by rw[<-YB u,z,YB])
 have a1:=S4 ((@cY).map om) (rows.flatten.filter λp=>!(p.b == 0)) (YC (nd.filter _)) λx hx=>by
  obtain⟨p,hp,rfl⟩:=List.mem_map.mp hx;obtain⟨h1,h2⟩:=List.mem_filter.mp hp;have h2:p.b=0:=@bH
  refine List.mem_filter.mpr ⟨SK d h1,?_⟩;show(!(1-p.b == 0))=true;rw[h2];rfl
 have a2:=S4 ((rows.flatten.filter λp=>!(p.b == 0)).map om) (@cY) (YC (nd.filter _)) λx hx=>by
  obtain⟨p,hp,rfl⟩:=List.mem_map.mp hx;obtain⟨h1,h2⟩:=List.mem_filter.mp hp;have h2:p.b≠0:=@bH
  have h3:=(d.way p h1).resolve_left h2;refine List.mem_filter.mpr ⟨SK d h1,?_⟩;show(1-p.b == 0)=true;rw[h3];rfl
 rw[au] at a1 a2;lia
end Zi
namespace KC
open K2.P K2.T
open K2.KD (AL iC fnx hW sZ)
open K2.Y (jE pick oy oz bS eN gf ju j8)
theorem TX:d6 c a b E K τ G=c E τ G λk G1=>if k=true then a E K τ G1 else b E K τ G1:=rfl
theorem eq_int(i j):i7 (@w) (.int j)=decide (i=j):=Enc.eqv i j
noncomputable def rh(L:@r):@D:=(L.filter λp=>p.b == 0).map (·.a)
def cR:iS:=Wb (λrows:Rows=>rows.flatten.length<=500) λrows=>@cS
def yq:gq :=
 (bJ (bh (eS aK) (aF 1))
 (bJ (di (la @j) (aF 2) (di (la @p) (aF 3) (d6 (fI (aN @bI (aN fQ @O @E) @H)) (fK (mi D9 j7 @m (aq (aN fQ @O @H) aK))) cj)))
 (bK (b8 @m))))
theorem iF(L):(rh L).length<=L.length:=by unfold rh;rw[au];exact dM _ _
theorem Xk(a b):rh (a++b)=rh a++rh b:=by unfold rh;rw[eK,aC]
theorem zo(ds)(G)(Q)(h:cR ds G Q @z):yq @q @F (aP 4 ds) G:=by
 obtain⟨rows,rfl,hl,q⟩:=h;unfold yq;simp only[ends,aP,ak,aM,ag,av,aO,ay,aG,bZ,bh,eS,aK,aF,ao,ai];refine⟨@g,λp hp=>?_⟩;refine cX (λτ G'=>(∃a b,τ=[@aF,@aq,a,b])/\@G/\G' p=some (.lst ((@cS).map enc))) ?_ ?_
 .intro N hN;simp only[di,c8,ar,aa];refine gR ?_;refine cT (xs:=rows) (λpre τ G'=>(∃a b,τ=[@aF,@aq,a,b])/\@G/\G' p=some (.lst ((rh pre.flatten).map enc))) ⟨@al,.new hp,ax⟩ @aA ?_ ?_
  .rintro pre r post τ G' N2 e ⟨⟨a,b,rfl⟩,l,gp⟩ kF;have hlen:pre.flatten.length+r.length<=rows.flatten.length:=by
    rw[e];simp only[cM,cV,aA];lia
   simp only[aF,di,ao,ai,c8,ar,ae,aa];refine gR ?_;refine cT (xs:=r) (λpp τ G'=>(∃a b,τ=[@aF,@aq,a,b])/\@G/\G' p=some (.lst ((rh (pre.flatten++pp)).map enc))) ⟨@al,l,by rw[bE];exact gp⟩ @aA ?_ ?_
   .rintro pp t pt τ G4 N3 e4 ⟨⟨a,b,rfl⟩,l4,gp4⟩ Bu;have hpp:pp.length<r.length:=by have:=congrArg dh e4;simp at this;lia
    have hz:=iF (pre.flatten++pp);rw[aA] at hz;simp only[aF,kz,ao,ai,TX,fK,mi,ar,ae,aa,ip,aq,aN,dC,aK,dP,dS,VH,cj,b7,HK];refine⟨_,_,@S,@S,?_⟩;rw[eq_int];have eu:rh (pre.flatten++(pp++[t]))=rh (pre.flatten++pp)++rh [t]:=by rw[<-aS,Xk]
    by_cases hb:t.b=0
    .simp only[aj,hb,decide_true,aW,if_false,aY,gp4,true_and,if_true];refine⟨Cq @bK,Bu _ _ ⟨@al,l4.put hp,?_⟩⟩;rw[ax,eu,aC];have:rh [t]=[t.a]:=by simp[rh,hb]
     rw[this];rfl
    .simp only[aj,hb,decide_false,bG,if_false,aY];refine Bu _ _ ⟨@al,l4,?_⟩;have:rh [t]=[]:=by simp[rh,hb]
     rw[eu,this,bE];exact gp4
   .rintro τ G4 ⟨⟨a,b,rfl⟩,l4,gp4⟩;refine kF _ _ ⟨@al,l4,?_⟩;have:(pre++[r]).flatten=pre.flatten++r:=@K
    rw[this];exact gp4
  .rintro τ G' ⟨⟨a,b,rfl⟩,l,gp⟩;exact hN _ _ ⟨@al,l,gp⟩
 .rintro _ G' ⟨⟨a,b,rfl⟩,l,gp⟩;simp only[bK,b8,ar,ae,aa];exact fM l hp gp q
theorem yR{G G2:Gp}{d:D}{ds:@e}{R:@aQ}(h:IsL G d ds)(l:dI G G2)(k:∀ok:@B,(∀G',@G->ok G')->R ds ok G2):VC d G2 R:=by
 rcases h with rfl |⟨a,rfl,e⟩
 .exact k _ λ_ _=>trivial
 .rw[NP (l _ _ e)];exact k _ λG' le=>le _ _ e
end KC
namespace JB
open K2.T
open K2.P (names handOf iw k7 oQ NW pairsOf)
open K2.Y (jE pick oy oz bS eN gf j8)
open K2.KD (AL hW sZ)
open K2.KC (yR rh iF)
def iC:iS:=KD.iC
def qi:gq :=
 (bK (b8 (e7 1 [] (la @j) (aF 0) none (jw vq @aR))))
theorem vH(ds)(G)(Q)(h:iC ds G Q @z):qi @q @F (aP 1 ds) G:=KD.vH ds G Q h
def jT:iS:=KD.jT
def qh:gq :=
 (bJ (GV (fI (aN (O7 false) @m @j)) (bh (aN fk (aN pC @m (dC (.int 999))) @E) (aF 1)))
 (bK (b8 @m)))
theorem vF(ds)(G)(Q)(h:jT ds G Q @z):qh @q @F (aP 2 ds) G:=KD.vF ds G Q h
def Cz:gq :=
 (bJ (bh (aR iC @aR) (aF 4))
 (bJ (bh (aN pC @p (aN fk (jw ja (aq (aN fQ @R @m) aK)) @E)) (aF 2))
 (bJ (bh (aN fk (aN fk (pI (aN fQ @R @m) cw (ib @p)) @O) (pI (aN fQ @R @m) (ib @p) cw)) (iH @R @m))
 (bK (b8 @R)))))
def sr:iS:=λds G Q _=>∃(rs:List (@e)) (i:Nat) (pl:Int) (more:@e),ds=[.dc (rs.map D.dc),@w,.int pl,.dc more]/\(i<rs.length/\rs.length<=1000/\(∀r∈rs,r.length<=500)/\more.length<=100)/\∀(r:@e) (k:Nat),rs[i]?=@aD->k<=r.length->(k:Int)=pl % ((r.length:Int)+1)->Q (.dc ((rs.set i (@ao++more++@an)).map D.dc)) G
theorem MG(ds)(G)(Q)(h:sr ds G Q @z):Cz @q @F (aP 5 ds) G:=by
 obtain⟨rs,i,pl,more,rfl,⟨hi,hl,hr,hm⟩,q⟩:=h;unfold Cz;simp only[ends,aP,ak,aM,ag,av,aO,ay,aG,bZ,bh,aR,aq,ar,aa,aK,aF,ao,ai,aN,ae,jw,dC,pI,cw,iH,bK,b8,fj];refine⟨rs,rfl,hl,λG1 p0 as h1=>?_⟩;obtain⟨r,er⟩:∃r,rs[i]?=@aD:=⟨rs[i],az hi⟩;have hrl:=hr r (cp er);obtain⟨a,ea,ga,ia⟩:=h1.row (i:=i) (r:=r) er;refine uY (IsL.ref h1.gp) ia (X3 (IsL.ref ga) ?_);simp only[cb,eD,cY];refine⟨@d,?_⟩;have c1:0<=pl % ((r.length:Int)+1):=nC _ @c;have c2:pl % ((r.length:Int)+1)<(r.length:Int)+1:=kE _ @c;generalize ec:pl % ((r.length:Int)+1)=c at c1 c2;obtain⟨k,rfl⟩:∃k:Nat,c=(k:Int):=⟨c.toNat,@d⟩;have hk:k<=r.length:=@d
 refine uY (IsL.ref h1.gp) ia (jz (IsL.ref ga) λp1 f1=>?_);rw[GY _ _ hk];have l1:=dI.new (o:=.lst (@ao)) f1;refine jB (IsL.ref ax) (IsL.dc) (by rw[bO];exact xW @c) λp2 f2=>?_;have l2:=dI.new (o:=.lst (@ao++more)) f2;have YK:=l1.trans l2;refine uY (IsL.ref (YK _ _ h1.gp)) ia (jz (IsL.ref (YK _ _ ga)) λp3 f3=>?_);rw[zc _ _ hk];have l3:=dI.new (o:=.lst (@an)) f3;refine jB (IsL.ref (l3 _ _ ax)) (IsL.ref ax) (by simp only[aA,bO,bP];exact xW @c) λp4 f4=>?_;have l4:=dI.new (o:=.lst (@ao++more++@an)) f4;have h4:=h1.ext ((YK.trans l3).trans l4);have hn:∀o,G1 p4≠@i:=λo z=>by
  have:=(YK.trans l3) _ _ z;rw[f4] at this;ext f
 have n4:p4∉as:=λz=>by
  obtain⟨j,hj⟩:=hZ z;have hjl:j<rs.length:=by rw[<-h1.len];exact(List.getElem?_eq_some_iff.mp hj).1
  exact hn _ (h1.at' j p4 _ hj (az hjl))
 have n0:p4≠p0:=λz=>hn _ (by rw[z];exact h1.gp);have hf4:G p4=none:=by
  cases e:G p4 with
  |none=>rfl
  |some o=>exact absurd (h1.le _ _ e) (hn o)
 have hj:i<as.length:=(List.getElem?_eq_some_iff.mp ea).1;have h5:=h4.RO (r':=@ao++more++@an) hj ax n4 hf4 n0;unfold wC;simp only[h4.gp];have ei:Gx (@cs).length @ay=some i:=by
  unfold Gx;rw[if_pos @c,if_pos @bK];simp
 simp only[ei];have es:(@cs).set i (.ref p4)=(as.set i p4).map D.ref:=by rw[List.map_set]
 rw[es];refine h5.fz ?_;exact q r k er hk ec.symm
theorem R4{α:Type} [@Q] [@ab]{G:Gp}{Q:DK}{rows:List (@o)}{i:Nat}{pl:Int}{more:@o}(h:i<rows.length/\rows.length<=1000/\(∀r∈rows,r.length<=500)/\more.length<=100)
  (q:∀(r:@o) (k:Nat),rows[i]?=@aD->k<=r.length->(k:Int)=pl % ((r.length:Int)+1)->Q (enc (rows.set i (@ao++more++@an))) G):sr [enc rows,@w,.int pl,enc more] G Q @z:=by
 refine⟨rows.map λr=>@aI,i,pl,more.map enc,by rw[hW];rfl,⟨by rw[au];exact h.1,by rw[au];exact h.2.1,λr hr=>?_,by rw[au];exact h.2.2.2⟩,λr k hr hk e=>?_⟩
 .obtain⟨r',hr',rfl⟩:=List.mem_map.mp hr;rw[au];exact h.2.2.1 r' hr'
 .rw[bw] at hr;obtain⟨r',hr',rfl⟩:=Option.map_eq_some_iff.mp hr;rw[au] at hk e;have:=q r' k hr' hk e;rw[hW,List.map_set,aC,aC,iZ,i5] at this;ext g
theorem Dr.two(d:@Z)(hm:∀p∈rows.flatten,p.a≠m)(hh:h=1\/h=-1)(hp:R.flatten.Perm (⟨m,1,h⟩::⟨m,0,h⟩::rows.flatten))(BX:rows.flatten.length<=22)(str:R.length<=3):Dr R:=by
 have mem:∀p,p∈R.flatten↔p=⟨m,1,h⟩\/p=⟨m,0,h⟩\/@cP:=λp=>by rw[hp.mem_iff,bF,bF]
 refine⟨?_,λp h1=>?_,λp h1=>?_,λp h1=>?_,?_,str⟩
 .refine(hp.map T3.s).nodup_iff.mpr ?_;rw[ak,ak,aT,aT];have out:∀w:Int,(⟨m,w⟩:T2)∉@c0:=λw z=>by
   obtain⟨p,z9,e⟩:=@cT;injection e with e1 _
   exact hm p z9 e1
  refine⟨λz=>?_,out 0,d.nd⟩;rcases List.mem_cons.mp z with z |z
  .injection z with _ z2;cases z2
  .exact out 1 z
 .rcases(mem p).mp h1 with rfl |rfl |h1
  .exact .inr rfl
  .exact @ac
  .exact d.way p h1
 .rcases(mem p).mp h1 with rfl |rfl |h1
  .exact hh
  .exact hh
  .exact d.hand p h1
 .rcases(mem p).mp h1 with rfl |rfl |h1
  .exact(mem _).mpr (.inr (@ac))
  .exact(mem _).mpr (@ac)
  .exact(mem _).mpr (.inr (.inr (d.CY p h1)))
 .rw[hp.length_eq,ag,ag];lia
theorem Dr.nil(h:S<=3):Dr (aO S []):=by
 have e:(aO S ([]:@r)).flatten=[]:=by
  rw[List.flatten_eq_nil_iff];intro l hl;exact(List.mem_replicate.mp hl).2
 refine⟨by rw[e];exact cJ,λp hp=>?_,λp hp=>?_,λp hp=>?_,@a6,@b2⟩<;>rw[e] at hp<;>cases hp
theorem Jr{rows:Rows}(hr:rows[i]?=@aD):(rows.set i (@ao++more++@an)).flatten.Perm (more++rows.flatten):=by
 refine(Uv hr).trans ?_;refine VT ?_ ((XO hr).symm.append_left _);rw[<-aS];refine dQ _ ?_
 conv=>rhs;rw[<-dJ k r]
 rw[<-aS];exact List.perm_append_comm.append_right _
def agZ(rows:Rows)(ns:@D):Prop:=∀p∈rows.flatten,p.a∈ns
def gi:iS:=λds G Q _=>∃(d:D) (cells:@D) (S:Nat) (sp:Int),ds=[d,.int S,.int sp]/\IsL G d (cells.map D.int)/\(cells.length<=12/\(1<=S/\S<=3)/\1<=sp/\sp<=999) /\
 ∀rows:Rows,@Z->rows.length=S->rows.flatten.length=2*cells.length->Q (enc rows) G
end JB
namespace JB
open K2.P K2.J
open K2.Y (Po L ND NZ fF nG jQ oh gU bS gf jE pick oy oz Pl GQ)
open K2.KD (hW)
open K2.KC (rh iF cR)
variable {rows:Rows}
def wr(rows:Rows):Int:=((@T).map (handOf rows)).sum
theorem BP.big(b:BP T f):Y.fF T<oG:=qO (aU b.fF @t)
noncomputable def hs(L:@r):Int:=((L.filter λp=>p.b == 0).map (·.c)).sum
noncomputable def AV(L:@r):@ae:=(L.filter λp=>p.b == 0).map λp=>(p.a,p.c)
theorem ql(d:@Z):(nh rows).Perm (AV rows.flatten):=by
 unfold nh names;refine((uI _).map _).trans ?_;rw[bq];unfold AV;have:((@cY).map ((λn=>(n,handOf rows n))∘λp:T3=>p.a))=(@cY).map λp=>(p.a,p.c):=by
  refine dO λp hp=>?_;show(p.a,handOf rows p.a)=_;rw[NW d (List.mem_filter.mp hp).1]
 rw[this]
theorem IV(h:a.Perm b):(AV a).Perm (AV b):=(h.filter _).map _
theorem xh(rows):(nh rows).map @n=@T:=by
 unfold nh;rw[bq];exact oK _
end JB
end K2
end
section
namespace K2
open Enc (enc)
namespace JD
open K2.P K2.J K2.JB
section
variable {nm:Nat->Int} (inj:∀i j,i<12->j<12->vv nm i=vv nm j->i=j)
include inj
omit inj in
end
theorem BZ(f:α->β):∀l:@o,wN (l.map f)=(wN l).map λp=>(f p.1,f p.2)
 |[]=>rfl
 |[_]=>rfl
 |a::b::l=>by
  show(f a,f b)::wN ((b::l).map f)=_;rw[BZ f (b::l)];rfl
theorem GX(f:α->β)(l):Au (l.map f)=(Au l).map λp=>(f p.1,f p.2):=by
 cases l with
 |nil=>rfl
 |cons a l=>
  show wN (f a::l.map f++[f a])=(wN (a::l++[a])).map _;rw[<-BZ f (a::l++[a])];congr 1;simp
end JD
namespace JE
open K2.P K2.J K2.JB
open K2.JD (BZ GX)
theorem Rv(h:A.Perm B):(HC A).Perm (HC B):=h.map _
theorem Nh(h:A.Perm B)(nd:(es (HC A)).Nodup):pt (HC A)=pt (HC B):=Wt (Rv h) nd
noncomputable def ex(X:Int)(p:T3):T3:=if p.a=X then ⟨X,1-p.b,-p.c⟩ else p
theorem Dr.perm(d:@Z)(h:R.flatten.Perm rows.flatten)(str:R.length<=3):Dr R :=
 ⟨(h.map _).nodup_iff.mpr d.nd,λp hp=>d.way p (h.mem_iff.mp hp),λp hp=>d.hand p (h.mem_iff.mp hp),λp hp=>h.mem_iff.mpr (d.CY p (h.mem_iff.mp hp)),by rw[h.length_eq];exact d.BX,str⟩
end JE
namespace JF
open K2.P K2.J K2.JB
open K2.JD (BZ GX)
theorem UX(d:@Z)(dR:Dr R)(pp:(pairsOf R).Perm (@a2))(pf:R.flatten.Perm rows.flatten)(l:lo R=lo rows)(g):brk R g=brk rows g:=by
 have pn:(nh R).Perm (nh rows):=(ql dR).trans ((IV pf).trans (ql d).symm);have ef:fr R=fr rows:=JE.Nh pp (zK dR);unfold brk;rw[qx pn (by rw[xh];exact Fj dR),ef,l]
theorem RN(h:∀r∈rows,∃k,σ r=@an++@ao):(pairsOf (rows.map σ)).Perm (@a2)/\(rows.map σ).flatten.Perm rows.flatten/\lo (rows.map σ)=lo rows:=by
 induction rows with
 |nil=>exact⟨.refl _,.refl _,rfl⟩
 | cons r rows ih=>
  obtain⟨k,hk⟩:=h r @f;obtain⟨i1,i2,i3⟩:=ih λr' hr=>h r' (by simp[hr]);have e:@ao++@an=r:=dJ k r;refine⟨?_,?_,?_⟩
  .rw[ak,iE,iE,cD,cD,<-iE,<-iE];refine lj ?_ i1;rw[hk];refine(GW _ _).trans ?_;rw[e]
  .rw[ak,cV,cV];refine lj ?_ i2;rw[hk];refine List.perm_append_comm.trans ?_;rw[e]
  .rw[ak];have ee:(σ r).isEmpty=r.isEmpty:=by
    have hl:(σ r).length=r.length:=by rw[hk,aA,bP,bO];lia
    cases h1:σ r with
    |nil=>rw[h1] at hl;cases r with
     |nil=>rfl
     |cons=>simp at hl
    |cons=>rw[h1] at hl;cases r with
     |nil=>simp at hl
     |cons=>rfl
   unfold lo at i3 ⊢;rw[ck,ck,ee];split
   .rw[ag,ag,i3]
   .exact i3
theorem DQ(d:@Z)(h:∀r∈rows,∃k,σ r=@an++@ao):Dr (rows.map σ)/\∀g,brk (rows.map σ) g=brk rows g:=by
 obtain⟨a1,a2,a3⟩:=RN h;have dR:Dr (rows.map σ):=JE.Dr.perm d a2 (by rw[au];exact d.str);exact⟨dR,λg=>UX d dR a1 a2 a3 g⟩
noncomputable def rf(p:T3):T3:=⟨p.a,p.b,-p.c⟩
theorem Pz(f)(rows):pairsOf (rows.map λr=>r.map f)=(@a2).map λp=>(f p.1,f p.2):=by
 rw[iE,iE];induction rows with
 |nil=>rfl
 |cons r rows ih=>rw[ak,cD,ih,cD,aC,GX]
theorem JL(f:T3->T3)(rows:Rows):(rows.map λr=>r.map f).flatten=rows.flatten.map f:=by rw[List.map_flatten]
theorem aat(f)(rows):lo (rows.map λr=>r.map f)=lo rows:=by
 unfold lo;rw[Kq,au];congr 2;funext r;cases r<;>rfl
end JF
namespace JG
open K2.P K2.J K2.JB
noncomputable def rn(ν:Int->Int)(e:T3):T3:=⟨ν e.a,e.b,e.c⟩
structure Rn(S:Int->Prop)(ν:Int->Int)(f f':T3->T3):Prop where
 cl:∀e,S e.a->S (f e).a
 eq:∀e,S e.a->f' (rn ν e)=rn ν (f e)
theorem w7{S:Int->Prop}(inj:∀a b,S a->S b->ν a=ν b->a=b)(hx:S x.a)(hy:S y.a):rn ν x=rn ν y↔x=y:=by
 constructor
 .intro h;obtain⟨xa,xb,xc⟩:=x;obtain⟨ya,yb,yc⟩:=y;injection h with h1 h2 h3
  simp only at h1 h2 h3 hx hy;rw[inj _ _ hx hy h1,h2,h3]
 .intro h;rw[h]
theorem Rn.jn(inj:∀a b,S a->S b->ν a=ν b->a=b)(r:Rn S ν f f')(hx:S x.a)(hy:S y.a):
  Rn S ν (jn f x y) (jn f' (rn ν x) (rn ν y))/\J.cl f' (rn ν x) (rn ν y)=J.cl f x y:=by
 have fx:=r.cl x hx;have fy:=r.cl y hy;refine⟨⟨λe he=>?_,λe he=>?_⟩,?_⟩
 .unfold J.jn;split
  .exact he
  .split
   .exact fy
   .split
    .exact fx
    .exact r.cl e he
 .unfold J.jn;rw[r.eq x hx,r.eq y hy,r.eq e he];simp only[w7 inj he hx,w7 inj he hy,w7 inj he fx,w7 inj he fy];split
  .rfl
  .split
   .rfl
   .split
    .rfl
    .rfl
 .unfold J.cl;rw[r.eq x hx];simp only[w7 inj fx hy]
theorem Rn.jh(inj:∀a b,S a->S b->ν a=ν b->a=b):∀(ps:Pr T3) {f f':T3->T3},Rn S ν f f'->(∀p∈ps,S p.1.a/\S p.2.a) ->
  Rn S ν (jh f ps) (jh f' (ps.map λp=>(rn ν p.1,rn ν p.2)))/\cls f' (ps.map λp=>(rn ν p.1,rn ν p.2))=cls f ps
 |[],f,f',r,_=>⟨r,rfl⟩
 |p::ps,f,f',r,h=>by
  obtain⟨a1,a2⟩:=Rn.jn inj r (h p @f).1 (h p @f).2;obtain⟨b1,b2⟩:=Rn.jh inj ps a1 λq hq=>h q (by simp[hq]);refine⟨b1,?_⟩;show J.cl f' _ _+cls (J.jn f' _ _) _=J.cl f _ _+cls (J.jn f _ _) _;rw[a2,b2]
theorem acL(ν)(n)(w):((js n w).map λp=>(rn ν p.1,rn ν p.2))=js (ν n) w:=by cases w<;>rfl
theorem acM{S:Int->Prop}{n:Int}(h:S n)(w:Bool):∀p∈js n w,S p.1.a/\S p.2.a:=λp hp=>by
 cases w<;>simp only[js,bF,b9,or_false,if_true,if_false,Bool.true_eq_false] at hp<;>rcases hp with rfl |rfl<;>exact⟨h,h⟩
theorem FN(inj:∀a b,S a->S b->ν a=ν b->a=b):∀(ps:@ae) {f f':T3->T3} (g:Fn),Rn S ν f f'->(∀p∈ps,S p.1)->Br f' (ps.map λp=>(ν p.1,p.2)) g=Br f ps g
 |[],f,f',g,_,_=>rfl
 |p::ps,f,f',g,r,h=>by
  have hp:=h p @f;have st:=λw=>Rn.jh inj @aK r (acM hp w);have s0:=st false;have s1:=st true;rw[acL] at s0 s1;show Br (J.jh f' (js (ν p.1) false)) (ps.map λp=>(ν p.1,p.2)) (i6 (cls f' (js (ν p.1) false)) (sh p.2 g))+Br (J.jh f' (js (ν p.1) true)) (ps.map λp=>(ν p.1,p.2)) (i6 (cls f' (js (ν p.1) true)) (sh (-p.2) g))=Br (J.jh f (js p.1 false)) ps (i6 (cls f (js p.1 false)) (sh p.2 g))+Br (J.jh f (js p.1 true)) ps (i6 (cls f (js p.1 true)) (sh (-p.2) g));rw[FN inj ps _ s0.1 λq hq=>h q (by simp[hq]),FN inj ps _ s1.1 λq hq=>h q (by simp[hq]),s0.2,s1.2]
def Pf(Λ:Fn->Int)(g:Fn):Fn:=λi=>Λ (sh i g)
theorem adS(Λ)(b)(g):Pf Λ (sh b g)=sh b (Pf Λ g):=by
 funext i;show Λ (sh i (sh b g))=Λ (sh (i+b) g);rw[RE]
theorem adT(f)(ps)(g):Pf (Br f ps) (lp g)=lp (Pf (Br f ps) g):=by
 funext i;show Br f ps (sh i (lp g))=-(Br f ps (sh (i+2) g))-Br f ps (sh (i-2) g);have e:sh i (lp g)=pl (sc (-1) (sh (i+2) g)) (sc (-1) (sh (i-2) g)):=by
  funext j;show -(g (j+i+2))-g (j+i-2)=-1*g (j+(i+2))+-1*g (j+(i-2));rw[show j+(i+2)=j+i+2 by lia,show j+(i-2)=j+i-2 by lia];lia
 rw[e,OD,FK,FK];lia
theorem U3(f)(ps)(n)(g):Pf (Br f ps) (i6 n g)=i6 n (Pf (Br f ps) g):=by
 induction n with
 |zero=>rfl
 |succ n ih=>
  show Pf (Br f ps) (lp (i6 n g))=lp (i6 n (Pf (Br f ps) g));rw[adT,ih]
theorem aaC{S:Int->Prop}{f:T3->T3}(c1:∀e,S e.a->S (f e).a){x y:T3}(hx:S x.a)(hy:S y.a):(∀e,¬ S e.a->jn f x y e=f e)/\∀e,S e.a->S (jn f x y e).a:=by
 refine⟨λe he=>?_,λe he=>?_⟩
 .unfold J.jn;rw[if_neg (by rintro(rfl |rfl);exact he hx;exact he hy),if_neg (λz=>he (by rw[z];exact c1 x hx)),if_neg (λz=>he (by rw[z];exact c1 y hy))]
 .unfold J.jn;split
  .exact he
  .split
   .exact c1 y hy
   .split
    .exact c1 x hx
    .exact c1 e he
theorem NL{S:Int->Prop}:∀(ps:Pr T3) {f:T3->T3},(∀e,S e.a->S (f e).a)->(∀p∈ps,S p.1.a/\S p.2.a)->(∀e,¬ S e.a->jh f ps e=f e)/\∀e,S e.a->S (jh f ps e).a
 |[],f,c1,_=>⟨λ_ _=>rfl,c1⟩
 |p::ps,f,c1,h=>by
  obtain⟨a1,a2⟩:=aaC c1 (h p @f).1 (h p @f).2;obtain⟨b1,b2⟩:=NL ps a2 λq hq=>h q (by simp[hq]);exact⟨λe he=>(b1 e he).trans (a1 e he),b2⟩
theorem Yt(e):rn (λa=>a) e=e:=rfl
theorem Vi{S:Int->Prop}(qs:@ae)(hq:∀p∈qs,¬ S p.1):∀(ps:@ae) {f:T3->T3} (g:Fn),(∀e,S e.a->S (f e).a)->(∀e,¬ S e.a->¬ S (f e).a)->(∀p∈ps,S p.1)->Br f (ps++qs) g=Br f ps (Pf (Br f qs) g)
 |[],f,g,_,_,_=>by
  show Br f qs g=Br f qs (sh 0 g);rw[M9]
 | p::ps,f,g,c1,c2,h=>by
  have hp:=h p @f;have st:∀(w:Bool) (b:Int),Br (J.jh f @aK) (ps++qs) (i6 (cls f @aK) (sh b g))=Br (J.jh f @aK) ps (i6 (cls f @aK) (sh b (Pf (Br f qs) g))):=λw b=>by
   obtain⟨d1,d2⟩:=NL @aK c1 (acM hp w);have d3:∀e,¬ S e.a->¬ S (J.jh f @aK e).a:=λe he=>by rw[d1 e he];exact c2 e he
   rw[Vi qs hq ps _ d2 d3 λq hq=>h q (by simp[hq])];have ee:∀k,Br (J.jh f @aK) qs k=Br f qs k:=λk=>by
    have:=FN (S:=λa=>¬ S a) (ν:=λa=>a) (λ_ _ _ _ z=>z) qs (f:=f) (f':=J.jh f @aK) k ⟨c2,λe he=>by rw[Yt,Yt];exact d1 e he⟩ hq;rw[<-this];congr 1;simp
   have e2:Pf (Br (J.jh f @aK) qs)=Pf (Br f qs):=by
    funext k i;exact ee _
   rw[e2,U3,adS]
  show Br (J.jh f (js p.1 false)) (ps++qs) (i6 (cls f (js p.1 false)) (sh p.2 g))+Br (J.jh f (js p.1 true)) (ps++qs) (i6 (cls f (js p.1 true)) (sh (-p.2) g))=_;rw[st,st];rfl
end JG
namespace JG
open K2.P K2.J K2.JB
theorem Ni:∀{P Q:Pr T3} {e:T3},e∈es P->pt (P++Q) e=pt P e
 | (a,b)::P,Q,e,h=>by
  show(if e=a then b else if e=b then a else pt (P++Q) e)=if e=a then b else if e=b then a else pt P e
  by_cases c1:e=a
  .rw[if_pos c1,if_pos c1]
  ·by_cases c2:e=b
   .rw[if_neg c1,if_pos c2,if_neg c1,if_pos c2]
   .rw[if_neg c1,if_neg c2,if_neg c1,if_neg c2];refine Ni ?_;rcases List.mem_cons.mp h with z |z
    .exact absurd z c1
    .rcases List.mem_cons.mp z with z |z
     .exact absurd z c2
     .exact z
theorem yv:∀{P Q:Pr T3} {e:T3},e∉es P->pt (P++Q) e=pt Q e
 |[],Q,e,_=>rfl
 |(a,b)::P,Q,e,h=>by
  have h1:e≠a:=λz=>h (by rw[z];exact br);have h2:e≠b:=λz=>h (by rw[z];exact aI _ br);show(if e=a then b else if e=b then a else pt (P++Q) e)=pt Q e;rw[if_neg h1,if_neg h2];exact yv λz=>h (aI _ (aI _ z))
theorem Yv{S:Int->Prop}(inj:∀a b,S a->S b->ν a=ν b->a=b):∀{P:Pr T3} {e:T3},(∀x∈es P,S x.a)->S e.a->pt (P.map λp=>(rn ν p.1,rn ν p.2)) (rn ν e)=rn ν (pt P e)
 |[],e,_,_=>rfl
 | (a,b)::P,e,h,he=>by
  have ha:=h a br;have hb:=h b (aI _ br);show(if rn ν e=rn ν a then rn ν b else if rn ν e=rn ν b then rn ν a else pt (P.map λp=>(rn ν p.1,rn ν p.2)) (rn ν e))=rn ν (if e=a then b else if e=b then a else pt P e);simp only[w7 inj he ha,w7 inj he hb];rw[Yv inj (λx hx=>h x (aI _ (aI _ hx))) he];split
  .rfl
  .split
   .rfl
   .rfl
theorem R6{S:Int->Prop}:∀{P:Pr T3} {e:T3},(∀x∈es P,S x.a)->S e.a->S (pt P e).a
 |[],e,_,he=>he
 | (a,b)::P,e,h,he=>by
  have ha:=h a br;have hb:=h b (aI _ br);show S (if e=a then b else if e=b then a else pt P e).a;split
  .exact hb
  .split
   .exact ha
   .exact R6 (λx hx=>h x (aI _ (aI _ hx))) he
def Nm(rows:Rows)(n:Int):Prop:=∃p∈rows.flatten,p.a=n
theorem Co(d:@Z):∀x∈es (BJ rows),Nm rows x.a:=λx hx=>by
 obtain⟨p,hp,z⟩:=(Ru d x).mp hx;exact⟨p,hp,by rcases z with rfl |rfl<;>rfl⟩
theorem Nz:∀p∈AV rows.flatten,Nm rows p.1:=λp hp=>by
 obtain⟨q,hq,rfl⟩:=@cQ;exact⟨q,(List.mem_filter.mp hq).1,rfl⟩
def nu(ν:Int->Int)(rows:Rows):Rows:=rows.map λr=>r.map (rn ν)
theorem Nw(d:@Z)(inj:∀a b,Nm rows a->Nm rows b->ν a=ν b->a=b):Dr (nu ν rows):=by
 have fl:(nu ν rows).flatten=rows.flatten.map (rn ν):=JF.JL (rn ν) rows;refine⟨?_,?_,?_,?_,by rw[fl,au];exact d.BX,by unfold nu;rw[au];exact d.str⟩
 .rw[fl,bq];have e:(T3.s∘rn ν)=(λt:T2=>(⟨ν t.a,t.b⟩:T2))∘T3.s:=rfl;rw[e,<-bq];refine vR d.nd λx hx y hy z=>?_;obtain⟨p,hp,rfl⟩:=List.mem_map.mp hx;obtain⟨q,hq,rfl⟩:=List.mem_map.mp hy;injection z with z1 z2
  show(⟨p.a,p.b⟩:T2)=⟨q.a,q.b⟩;have z2':p.b=q.b:=z2;rw[inj _ _ ⟨p,hp,rfl⟩ ⟨q,hq,rfl⟩ z1,z2']
 .rw[fl];intro p hp;obtain⟨q,hq,rfl⟩:=@cQ;exact d.way q hq
 .rw[fl];intro p hp;obtain⟨q,hq,rfl⟩:=@cQ;exact d.hand q hq
 .rw[fl];intro p hp;obtain⟨q,hq,rfl⟩:=@cQ;exact List.mem_map.mpr ⟨_,d.CY q hq,rfl⟩
theorem SO(d:@Z)(inj:∀a b,Nm rows a->Nm rows b->ν a=ν b->a=b)(g):brk (nu ν rows) g=brk rows g:=by
 have dN:=Nw d inj;have th:BJ (nu ν rows)=(BJ rows).map λp=>(rn ν p.1,rn ν p.2):=by
  unfold nu BJ HC;rw[JF.Pz,bq,bq];rfl
 have rr:Rn (Nm rows) ν (fr rows) (fr (nu ν rows)):=⟨λe he=>R6 (Co d) he,λe he=>by
  show pt (BJ (nu ν rows)) (rn ν e)=rn ν (pt (BJ rows) e);rw[th];exact Yv inj (Co d) he⟩
 have pn:(nh (nu ν rows)).Perm ((AV rows.flatten).map λp=>(ν p.1,p.2)):=by
  refine(ql dN).trans ?_;have:AV (nu ν rows).flatten=(AV rows.flatten).map λp=>(ν p.1,p.2):=by
   unfold nu AV;rw[JF.JL,Kq,bq,bq];rfl
  rw[this]
 have pn0:=ql d;unfold brk;rw[qx pn (by rw[xh];exact Fj dN),FN inj _ _ rr Nz,qx pn0 (by rw[xh];exact Fj d)];unfold nu;rw[JF.aat]
end JG
end K2
end
section
namespace K2
open PySem (Str)
open Enc (enc)
namespace JE
open K2.P K2.J K2.JB
open K2.Y (Po jE pick oy oz bS eN gf j8)
open K2.KD (AL hW sZ)
open K2.KC (yR rh iF)
def Dg(f s:Int):Prop:=0<=f/\f<s
def VJ:@D->@D->Prop
 |[],[]=>True
 |f::fs,s::ss=>Dg f s/\VJ fs ss
 |_,_=>False
noncomputable def prim:@D:=[10007,10009,10037,10039,10061,10067,10069,10079,10091,10093]
def wH:gq :=
 (bJ (bh (eS (aq (dC (.int 10007)) (aq (dC (.int 10009)) (aq (dC (.int 10037)) (aq (dC (.int 10039)) (aq (dC (.int 10061)) (aq (dC (.int 10067)) (aq (dC (.int 10069)) (aq (dC (.int 10079)) (aq (dC (.int 10091)) (aq (dC (.int 10093)) aK))))))))))) (aF 2))
 (bJ (bh (aN uZ @j @a8) (aF 3))
 (bJ (bh (eS aK) (aF 4))
 (bJ (di (yQ @m) (gY (cq (aF 5) (cq (aF 6) gH))) (d6 (fI (aN @bI (aN pC @j @a8) @H)) (bJ (fK (mi D9 j7 @R (aq (aN pC @O (ar 6)) aK)))
 (bh (aN uZ @O (ar 6)) (aF 3))) (fK (mi D9 j7 @R (aq (aR gf (aq @j (aq (aN fQ @p (ar 5)) (aq (ar 6) aK)))) aK)))))
 (bK (b8 @R))))))
def iJ:iS:=λds G Q _=>∃(cell:Int) (ye:@D),ds=[.int cell,enc ye]/\(ye.length<=10/\∀s∈ye,1<=s/\s<=10000)/\∀fs:@D,VJ fs ye->Q (enc fs) G
theorem GI:∀{fs ss:@D} {f s:Int},VJ fs ss->Dg f s->VJ (fs++[f]) (ss++[s])
 |[],[],_,_,_,k=>⟨k,trivial⟩
 |_::_,[],_,_,h,_=>h.elim
 |[],_::_,_,_,h,_=>h.elim
 |_::_,_::_,_,_,h,k=>⟨h.1,GI h.2 k⟩
theorem Mm:∀{fs ss:@D},VJ fs ss->fs.length=ss.length
 |[],[],_=>rfl
 |_::_,[],h=>h.elim
 |[],_::_,h=>h.elim
 |_::_,_::_,h=>by rw[ag,ag,Mm h.2]
theorem UC(xs:@D):jC 0 @bu=(xs.zipIdx 0).map λp=>D.tup [.int (p.2:Int),.int p.1]:=by
 have:∀(xs:@D) (k:Nat),jC k @bu=(xs.zipIdx k).map λp=>D.tup [.int (p.2:Int),.int p.1]:=by
  intro xs;induction xs with
  |nil=>intro k;rfl
  |cons x xs ih=>
   intro k;show D.tup [.int (k:Int),.int x]::jC (k+1) @bu=_;rw[ih (k+1)];rfl
 exact this xs 0
theorem wU(ds)(G)(Q)(h:iJ ds G Q @z):wH @q @F (aP 7 ds) G:=by
 obtain⟨cell,ye,rfl,⟨hl,hs⟩,q⟩:=h;unfold wH;simp![bh,eS,aq,dC,aK,aF,aN,ar,aP,aO,ends];refine⟨@g,λp2 f2=>⟨@g,@g,@g,λp4 f4=>?_⟩⟩;have n24:p2≠p4:=λz=>by rw[<-z,ax] at f4;cases f4
 have f4':G p4=none:=(dI.new f2).free f4;refine cX (λτ G'=>∃fs:@D,VJ fs ye/\@G/\G' p4=some (.lst (fs.map enc))/\∃a3 a5 a6,τ=[some (.int cell),some (enc ye),@bS,a3,some (.ref p4),a5,a6]) ?_ ?_
 .intro N hN;simp![di,yQ,ar];refine u7 ?_;rw[UC];refine cT (xs:=ye.zipIdx 0) (λpre τ G'=>∃(fs:@D) (left:Int) (a5 a6:Option D),VJ fs (pre.map @n)/\@G/\G' p2=some (.lst (prim.map D.int))/\G' p4=some (.lst (fs.map enc))/\τ=[some (.int cell),some (enc ye),@bS,some (.int left),some (.ref p4),a5,a6])
   ⟨[],_,_,_,trivial,(dI.new f2).trans (.new f4),by rw[cu n24,ax];rfl,ax,rfl⟩ @aA ?_ ?_
  .rintro pre x post τ G' N2 e ⟨fs,left,a5,a6,fa,le,g2,g4,rfl⟩ kF;obtain⟨lf,rt,e1,e2,e3⟩:=r8 e;have hx:1<=x.1/\x.1<=10000:=hs x.1 (by rw[e1];simp);have QV:lf.length<10:=by have:=congrArg dh e1;simp at this;lia
   simp![gY,cq,aF,gH,d6,aN,ar,dC,fK,mi,aq,aK,bh,aR];refine⟨@g,_,_,@S,@S,?_⟩;simp![my];by_cases c:cell % 2=0
   .have c':(cell % 2 == 0)=true:=by simpa using c
    simp![c',g4];refine⟨@d,by rw[au];exact Cq (by have:=Mm fa;rw[this,e3,au,List.length_zipIdx];lia),@d,@d,?_⟩;refine kF _ _ ⟨fs++[left % x.1],_,_,_,by rw[aC];exact GI fa ⟨nC _ @c,kE _ @c⟩,le.put f4',by rw[cu n24];exact g2,by rw[ax,aC];rfl,rfl⟩
   .have c':(cell % 2 == 0)=false:=by simpa using c
    simp![c',g4];rw[Gb,g2];have ea:∃pr:Int,rN (prim.map D.int) (x.2:Int)=some (.int pr)/\1<=pr/\pr<=10093:=by
     have hk:x.2<prim.length:=by rw[e2];exact QV
     refine⟨prim[x.2],?_,?_⟩
     .rw[qw _ @c @bK];simp only[c9,lZ]
     .have:∀y∈prim,1<=y/\y<=10093:=@g
      exact this _ (eV hk)
    obtain⟨pr,ea,pr1,pr2⟩:=ea;simp only[ea];refine⟨_,_,_,rfl,⟨@d,@d⟩,?_⟩;simp only[g4];refine⟨by rw[au];exact Cq (by have:=Mm fa;rw[this,e3,au,List.length_zipIdx];lia),?_⟩;refine kF _ _ ⟨fs++[pick cell pr x.1],_,_,_,by rw[aC];exact GI fa ⟨oy _ _ @c,oz _ _ @c⟩,le.put f4',by rw[cu n24];exact g2,by rw[ax,aC];rfl,rfl⟩
  .rintro τ G' ⟨fs,left,a5,a6,fa,le,g2,g4,rfl⟩;rw[List.zipIdx_map_fst] at fa;exact hN _ _ ⟨fs,fa,le,g4,_,_,_,rfl⟩
 .rintro _ G' ⟨fs,fa,le,g4,a3,a5,a6,rfl⟩;simp![bK,b8,ar];exact fM le f4' g4 (q fs fa)
section
variable (a b c d e f:D)
theorem x0:rN [a,b,c,d,e,f] 0=some a:=rfl
theorem x1:rN [a,b,c,d,e,f] 1=some b:=rfl
theorem x2:rN [a,b,c,d,e,f] (2+2*0)=some c:=rfl
theorem x3:rN [a,b,c,d,e,f] (3+2*0)=@U:=rfl
theorem x4:rN [a,b,c,d,e,f] (2+2*1)=some e:=rfl
theorem x5:rN [a,b,c,d,e,f] (3+2*1)=some f:=rfl
end
def uV:gq :=
 (bJ (JW 3 (bh (e7 1 [] (u6 @m) (aF 0) none (eS aK)) (aF 3)))
 (bJ (bh (eS aK) (aF 4))
 (bJ (di (la @j) (aF 5) (bJ (bh (aR iJ (aq (b8 (ar 5)) (aq (b8 (eS (aq @p (aq @a8 (aq @m (aq (dC (.int 10000)) (aq @m (aq (dC (.int 10000)) aK)))))))) aK))) (aF 6))
 (bJ (bh (aR jT (aq @R (aq (aN fk @E (aN fQ (ar 6) @H)) aK))) (aF 7))
 (bJ (fK (mi D9 j7 @R (aq (ar 7) aK)))
 (di (u6 @a8) (aF 8) (bh (b8 (aR sr (aq (b8 @O) (aq (b8 (aN fQ (ar 6) (aN fk @a8 (aN Lq @a8 (ar 8))))) (aq (b8 (aN fQ (ar 6) (aN fk (dC (.int 3)) (aN Lq @a8 (ar 8))))) (aq (b8 (eS (aq (eQ (aq (ar 7) (aq (ar 8) (aq (aN Lp @E (aN Lq @a8 (aN fQ (ar 6) @E))) aK)))) aK))) aK)))))) (aF 3)))))))
 (bK (b8 @O)))))
def gi:iS:=JB.gi
theorem vG(ds)(G)(Q)(h:gi ds G Q @z):uV @q @F (aP 9 ds) G:=by
 obtain⟨d,cells,S,sp,rfl,hd,⟨L9,⟨hS1,hS3⟩,sp1,sp2⟩,q⟩:=h;unfold uV;simp only[ends,aP,ak,aM,ag,av,aO,ay,aG,yf,sZ,bh,e7,aF,ao,ai,ae,aa,eS,aK,gL,ar,fH,c9];have acY:(-(2 ^ 62):Int)<=(S:Int)/\(S:Int)<2 ^ 62:=@d
 refine⟨acY.1,acY.2,xW (by simp[iK];lia),?_⟩;refine XY (λpre acc τ G'=>(∃a,τ=[a])/\∃as:@aT,acc=@cs/\AL G G' as (aO pre.length [])) ⟨@A,[],rfl,.nil G⟩ @ca ?_ ?_
 .rintro pre x post acc τ G' N e ⟨⟨a,rfl⟩,as,rfl,al⟩ hN;simp only[aF,eS,aK,av,ai];refine⟨@g,λp hp=>hN _ _ _ ⟨@A,as++[p],@K,?_⟩⟩;rw[aA,cP,List.replicate_succ'];exact al.push hp []
 rintro acc τ G' ⟨⟨a,rfl⟩,as,rfl,al⟩ p3 f3;refine(al.top f3).fz ?_;have e3:D.dc ((aO (iK 0 S).length ([]:@e)).map D.dc)=enc (aO S ([]:@r)):=by
  rw[hW];simp[iK]
 rw[e3];clear al f3 p3 as G' a e3;refine⟨@g,λp6 f6=>?_⟩;simp only[di];simp only[c8,ar,aa];refine yR hd (.new f6) λok cx=>?_;refine cT (xs:=cells) (f:=D.int) (λpre τ G'=>@G/\∃(rows:Rows) (ns:@D) (a1 a2 a3 a4:Option D),(@Z/\rows.length=S/\rows.flatten.length=2*pre.length/\ns.length=pre.length/\agZ rows ns)/\G' p6=some (.lst (@av)) /\
  τ=[@U,some (.int S),some (.int sp),@aF,some (.ref p6),a1,a2,a3,a4]) ⟨.new f6,_,[],_,_,_,_,⟨Dr.nil hS3,@K,@K,rfl,λp hp=>by simp at hp⟩,ax,rfl⟩ (λ_ _ _ h=>cx _ h.1) ?_ ?_
 .rintro pre x post τ G' N2 e ⟨le,rows,ns,a1,a2,a3,a4,⟨dr,hlen,hfl,hcs,hnm⟩,g6',rfl⟩ kF;have hlp:=j8 e;simp only[aF,ao,ai,yf,bh,aR,aq,b8,ar,ae,aa,eS,dC,aK,ag,av,aN,fK,mi,ip,dP];refine bW ⟨@g,λp7 f7=>?_⟩;refine fM (xs:=([sp,2,(S:Int),10000,(S:Int),10000]:@D)) (.new f7) f7 ax ?_;refine⟨_,_,rfl,⟨@K,λs hs=>by simp only[bF,b9,or_false] at hs;lia⟩,λfs fa=>?_⟩
  match fs,fa with
  |[d0,d1,d2,d3,d4,d5],⟨⟨a0,b0⟩,⟨a1',b1⟩,⟨a2',b2⟩,⟨a3',b3⟩,⟨a4',b4⟩,⟨a5',b5⟩,_⟩=>
  have e6:(enc [d0,d1,d2,d3,d4,d5]:D)=.dc [.int d0,.int d1,.int d2,.int d3,.int d4,.int d5]:=rfl;rw[e6];simp only[hV,x0,cb];refine⟨.ref p6,ns,_,rfl,IsL.ref g6',⟨@d,@d,@d⟩,λm m1 m2 m3=>?_⟩;simp only[g6',true_and];refine⟨Cq @bK,?_⟩;have Jk:dI G (dw G' p6 (.lst (@av++[.int m]))):=le.put f6;have g62:(dw G' p6 (.lst (@av++[.int m]))) p6=some (.lst (@av++[.int m])):=ax;generalize dw G' p6 (.lst (@av++[.int m]))=G2 at Jk g62;have hh:(1-2*d1)=1\/(1-2*d1)=-1:=@d
  simp only[di];simp only[gL,dC,fH];refine⟨@g,@g,?_⟩;have er:iK 0 (Int.toNat 2)=([0,1]:@D).map D.int:=rfl;rw[er];have rl:=k8 dr;have fw:=dr.BX;obtain⟨i,rfl⟩:∃i:Nat,d2=@ay:=⟨d2.toNat,@d⟩;obtain⟨j,rfl⟩:∃i:Nat,d4=@ay:=⟨d4.toNat,@d⟩;have hmf:∀p∈rows.flatten,p.a≠m:=λp hp z=>m1 (z ▸ hnm p hp);refine cT (xs:=([0,1]:@D)) (f:=D.int) (λCK τ G3=>G2=G3/\∃(R:Rows) (b1:Option D),((CK=[]/\R=rows)\/(∃(i:Nat) (r:@r) (k:Nat),CK=[0]/\i<S/\rows[i]?=@aD/\R=rows.set i (@ao++[⟨m,0,1-2*d1⟩]++@an))\/(CK=[0,1]/\Dr R/\R.length=S/\R.flatten.Perm (⟨m,1,1-2*d1⟩::⟨m,0,1-2*d1⟩::rows.flatten))) /\
   τ=[@U,some (.int S),some (.int sp),some (enc R),some (.ref p6),some (.int x),some (.dc [.int d0,.int d1,@w,.int d3,.int j,.int d5]),some (.int m),b1]) ⟨rfl,rows,_,.inl @a_,rfl⟩ @aA ?_ ?_
  .rintro CK w Yy τ G3 N3 e2 ⟨rfl,R,b1,J,rfl⟩ Bu;have abd:(CK=[]/\w=0)\/(CK=[0]/\w=1):=by
    cases CK with
    |nil=>cases e2;exact .inl @a_
    | cons u CK=>
     cases CK with
     |nil=>cases e2;exact .inr @a_
     |cons v CK=>
      have:=congrArg dh e2;simp at this
   rcases abd with ⟨rfl,rfl⟩ |⟨rfl,rfl⟩
   .have eR:R=rows:=by
     rcases J with ⟨_,z⟩ |⟨_,_,_,z,_⟩ |⟨z,_⟩
     .exact z
     .cases z
     .cases z
    subst eR;simp only[aF,bh,b8,aR,aq,ar,ao,ai,ae,aa,aN,dC,eS,eQ,aK,ag,av,hV,x1,jl,iD,cb,x3,x2];refine bW ⟨.inl ⟨@g,@g⟩,bW ⟨.inl ⟨@g,@g⟩,bW ?_⟩⟩;refine⟨.inl ⟨@g,@g⟩,@g,@g,λpa fa=>?_⟩;refine fM (xs:=[(⟨m,0,1-2*d1⟩:T3)]) (.new fa) fa ax ?_;refine R4 (rows:=R) (more:=[(⟨m,0,1-2*d1⟩:T3)]) ⟨by rw[hlen];lia,by rw[hlen];lia,λr hr=>by have:=rl r hr;lia,@K⟩ λr k hr hk ek=>bW ?_;exact Bu _ _ ⟨rfl,_,_,.inr (.inl ⟨i,r,k,rfl,@d,hr,rfl⟩),rfl⟩
   .obtain⟨i',r,k,hi,hr,rfl⟩:∃(i:Nat) (r:@r) (k:Nat),i<S/\rows[i]?=@aD/\R=rows.set i (@ao++[⟨m,0,1-2*d1⟩]++@an):=by
     rcases J with ⟨z,_⟩ |⟨i,r,k,_,z⟩ |⟨z,_⟩
     .cases z
     .exact⟨i,r,k,z⟩
     .cases z
    simp only[aF,bh,b8,aR,aq,ar,ao,ai,ae,aa,aN,dC,eS,eQ,aK,ag,av,hV,x1,jl,iD,cb,x5,x4];refine bW ⟨.inl ⟨@g,@g⟩,bW ⟨.inl ⟨@g,@g⟩,bW ?_⟩⟩;refine⟨.inl ⟨@g,@g⟩,@g,@g,λpa fa=>?_⟩;refine fM (xs:=[(⟨m,1,1-2*d1⟩:T3)]) (.new fa) fa ax ?_;refine R4 (more:=[(⟨m,1,1-2*d1⟩:T3)]) ⟨by rw[da,hlen];lia,by rw[da,hlen];lia,λr2 hr2=>?_,@K⟩ λr' k' hr' hk' ek'=>bW ?_
    .rcases MW hr2 with z |z
     .have:=rl r2 z;lia
     .have:=rl r (cp hr);rw[z,aA,aA,cP,bO,bP];lia
    have pf:=(Jr (k:=k') (more:=[⟨m,1,1-2*d1⟩]) hr').trans ((Jr (k:=k) (more:=[⟨m,0,1-2*d1⟩]) hr).append_left _);have dr2:=K2.JB.Dr.two dr hmf hh pf @c (by rw[da,da];lia);exact Bu _ _ ⟨rfl,_,_,.inr (.inr ⟨rfl,dr2,by rw[da,da];exact hlen,pf⟩),rfl⟩
  .rintro τ G3 ⟨rfl,R,b1,J,rfl⟩;obtain⟨drn,ln,pf⟩:Dr R/\R.length=S/\R.flatten.Perm (⟨m,1,1-2*d1⟩::⟨m,0,1-2*d1⟩::rows.flatten):=by
    rcases J with ⟨z,_⟩ |⟨_,_,_,z,_⟩ |⟨_,z⟩
    .cases z
    .cases z
    .exact z
   refine kF _ _ ⟨Jk,R,ns++[m],_,_,_,_,⟨drn,ln,by rw[pf.length_eq,ag,ag,aA,cP];lia,by rw[aA,aA,hcs];rfl,λp hp=>?_⟩,?_,rfl⟩
   .rcases List.mem_cons.mp (pf.mem_iff.mp hp) with rfl |hp
    .simp
    .rcases List.mem_cons.mp hp with rfl |hp
     .simp
     .exact fT _ (hnm p hp)
   .rw[g62,aC];rfl
 .rintro τ G' ⟨le,rows,ns,a1,a2,a3,a4,⟨dr,hlen,hfl,hcs,hnm⟩,g6',rfl⟩;simp only[bK,b8,ar,ae,aa];exact BW le (q rows dr hlen hfl)
end JE
namespace JE
open K2.P K2.J K2.JB
open K2.Y (Po jE pick oy oz bS eN gf j8)
open K2.KD (AL hW sZ)
open K2.KC (yR rh iF)
theorem adF [@Q] [@ab]{xs:@o}{i:Nat}(h:xs[i]?=@aD):rN @bu @ay=some (enc r):=by
 have hi:=(List.getElem?_eq_some_iff.mp h).1;rw[qw _ @c @bK];simp only[c9,lZ];have:=(List.getElem?_eq_some_iff.mp h).2;rw[this]
theorem gQ{α:Type} [@Q] [@ab]{xs:@o}{i:Nat}{r:α}{G:Gp}{Q:DK}(h:xs[i]?=@aD)(q:Q (enc r) G):fQ (enc xs) (@w) G Q:=by
 show fQ (.dc @bu) (@w) G Q;rw[hV,adF h];exact q
theorem gS{α:Type} [@Q] [@ab]{r:@o}{G:Gp}{Q:DK}(q:Q (.int (r.length:Int)) G):ja [enc r] G Q:=by
 show ja [.dc (@aI)] G Q;rw[jZ,au];exact q
theorem ot(n):iK 0 n=(fG n).map λk:Nat=>D.int (k:Int):=by
 rw[Lo,bq];rfl
theorem oq(e:fG n=pre++x::post):x=pre.length/\x<n:=by
 have h1:=congrArg (λl=>l[pre.length]?) e;simp only[cg @J,Nat.sub_self,aa] at h1;have hl:pre.length<n:=by have:=congrArg dh e;simp at this;lia
 rw[az (by rw[ig];exact hl),mZ] at h1;injection h1 with h1
 exact⟨h1.symm,@d⟩
end JE
namespace JE
open K2.P K2.J K2.JB
open K2.Y (Po jE pick oy oz bS eN gf j8)
open K2.KD (AL hW sZ)
open K2.KC (yR rh iF)
theorem RH:∀{L:@r},(L.map T3.s).Nodup->∀{p q:T3},p∈L->q∈L->p.s=q.s->p=q
 | x::L,nd,p,q,hp,hq,e=>by
  rw[ak,aT] at nd;rcases List.mem_cons.mp hp with e1 |h1
  .rcases List.mem_cons.mp hq with e2 |h2
   .rw[e1,e2]
   .exact absurd (List.mem_map.mpr ⟨q,h2,by rw[<-e,e1]⟩) nd.1
  .rcases List.mem_cons.mp hq with e2 |h2
   .exact absurd (List.mem_map.mpr ⟨p,h1,by rw[e,e2]⟩) nd.1
   .exact RH nd.2 h1 h2 e
end JE
namespace Hw
open K2.P
def mP:@r->T3
 |[]=>⟨0,0,0⟩
 |a::r=>r.foldl (λm x=>if a9.lt x m=true then x else m) a
theorem u4(h:r≠[]):mP r∈r:=by
 cases r with
 |nil=>exact absurd rfl h
 |cons a r=>exact(mw r a).1
theorem BR(hy:y∈r):Jj (mP r) y=true:=by
 cases r with
 |nil=>cases hy
 |cons a r=>exact(mw r a).2 y hy
def gK(r:@r):@r:=r.drop (r.idxOf (mP r))++r.take (r.idxOf (mP r))
theorem J3{x:D}{G:Gp}{r:@r}{Q:DK}(hi:itemsOf x G=some (@aI))(pX:r≠[])(q:Q (enc (mP r)) G):MA [x] G Q :=
 MM.mn hi pX λm hm hl=>by
  have:m=mP r:=To _ _ (hl _ (u4 pX)) (BR hm);rw[this];exact q
theorem C1{x:D}{G:Gp}{r:@r}{Q:DK}(ht:D9 x G)(hi:itemsOf x G=some (@aI))(pX:r≠[])(q:Q (.int ((r.idxOf (mP r):Nat):Int)) G):sH x [enc (mP r)] G Q:=by
 refine⟨ht,@aI,enc (mP r),@aI,hi,Enc.sn G 8 _ @t,uL G 7 @t r,?_⟩;have e:(@aI).findIdx? (i7 · (enc (mP r)))=some (r.idxOf (mP r)):=by
  have hf:(λy:T3=>i7 (enc y) (enc (mP r)))=λy=>y == mP r:=by
   funext y;rw[Enc.eqv];by_cases h:y=mP r<;>simp[h]
  rw[List.findIdx?_map];show List.findIdx? (λy=>i7 (enc y) (enc (mP r))) r=_;rw[hf];have hm:=u4 pX;rw[List.idxOf];rw[List.findIdx?_eq_some_iff_findIdx_eq];exact⟨List.findIdx_lt_length.mpr ⟨_,hm,@K⟩,rfl⟩
 rw[e];exact q
end Hw
namespace D4
open K2.P
open K2.Hw (gK mP)
theorem acN{κ α:Type} [@bd] [Enc κ] [vJ κ] [@Q] [@ab]{l:@b8}{k:κ}{v:α}{G:Gp}{Q:DK}(hv:cN l k=@W)(q:Q (enc v) G):fQ (.kU (bb l)) (enc k) G Q:=by
 rw[yt,rF,hv];exact⟨k9 l k,q⟩
abbrev M:=@ae
def Nb(m:M)(t:T3):T3:=⟨(cN m t.a).getD 0,t.b,t.c⟩
def gI(m:M)(r:@r):@r:=r.map (Nb m)
def Kn(m:M)(r:@r):Prop:=∀t∈r,(cN m t.a).isSome=true
def uO:gq :=
 (bK (b8 (e7 3 [1] (la @j) (gY (cq (aF 0) (cq (aF 1) (cq (aF 2) gH)))) none (eQ (aq (aN fQ @O @j) (aq @m (aq @p aK)))))))
def fD:iS:=λds G Q _=>∃(r:@r) (m:M),ds=[enc r,.kU (bb m)]/\(@cn/\Kn m r)/\Q (enc (gI m r)) G
theorem vB(ds)(G)(Q)(h:fD ds G Q @z):uO @q @F (aP 2 ds) G:=by
 obtain⟨r,m,rfl,⟨hl,hk⟩,q⟩:=h;unfold uO;simp only[bK,b8,e7,aP,ak,aM,ag,av,ay,aG,ends,c8,ar,aa];refine gR ⟨xW (by rw[au];exact hl),?_⟩;refine jq (xs:=r) (λpre acc τ G'=>G=G'/\(∃a b c,τ=[a,b,c,some (.kU (bb m))])/\acc=(pre.map (Nb m)).map enc) ⟨rfl,⟨_,_,_,rfl⟩,rfl⟩ @ca ?_ ?_
 .rintro pre t post acc τ G' N e ⟨rfl,⟨a,b,c,rfl⟩,rfl⟩ hN;obtain⟨v,hv⟩:=Option.isSome_iff_exists.mp (hk t (@a6));simp only[gY,kz,cq,aF,gH,eQ,aq,aN,ar,ai,ao,ae,aa,aK,ag,av];refine acN (k:=t.a) hv ?_;refine⟨@g,hN _ _ _ ⟨rfl,⟨_,_,_,rfl⟩,?_⟩⟩;rw[aC,aC];unfold Nb;rw[D8,D8,hv];rfl
 .rintro acc τ G' ⟨rfl,⟨a,b,c,rfl⟩,rfl⟩ p hp;exact fM (xs:=gI m r) @ar hp ax q
def tD:gq :=
 (bK (b8 (e7 1 [1] (la @j) (aF 0) none (aR fD (aq @j (aq @m aK))))))
def eL:iS:=λds G Q _=>∃(rows:Rows) (m:M),ds=[enc rows,.kU (bb m)]/\(rows.length<=1000/\∀r∈rows,@cn/\Kn m r)/\Q (enc (rows.map (gI m))) G
theorem tU(ds)(G)(Q)(h:eL ds G Q @z):tD @q @F (aP 2 ds) G:=by
 obtain⟨rows,m,rfl,⟨hl,hk⟩,q⟩:=h;unfold tD;simp only[bK,b8,e7,aP,ak,aM,ag,av,ay,aG,ends,c8,ar,aa];refine gR ⟨xW (by rw[au];exact hl),?_⟩;refine jq (xs:=rows) (λpre acc τ G'=>G=G'/\(∃a,τ=[a,some (.kU (bb m))])/\acc=(pre.map (gI m)).map enc) ⟨rfl,@A,rfl⟩ @ca ?_ ?_
 .rintro pre r post acc τ G' N e ⟨rfl,⟨a,rfl⟩,rfl⟩ hN;simp only[aF,aR,aq,ar,ai,aa,ae,aK];refine⟨r,m,rfl,hk r (@a6),hN _ _ _ ⟨rfl,@A,?_⟩⟩;rw[aC,aC];rfl
 .rintro acc τ G' ⟨rfl,⟨a,rfl⟩,rfl⟩ p hp;exact fM (xs:=rows.map (gI m)) @ar hp ax q
noncomputable def ZJ(r:@r)(k:Nat):@r:=@an++@ao
def aft(m:M)(n:Int):M:=if(cN m n).isSome=true then m else ft m n ((m.length:Int)+1)
def met(L:@r):M:=L.foldl (λm t=>aft m t.a) []
theorem UQ{a:Nat}{m:M}{G:Gp}{Q:DK}(h:G a=some (.gz (bb m)))(q:Q (.int (m.length:Int)) G):ja [@V] G Q:=by
 rw[UP];simp only[h];refine⟨?_,by unfold bb;rw[au];exact q⟩;unfold bb;rw[jG];exact List.all_eq_true.mpr λ_ _=>rfl
end D4
namespace D4
open K2.P
open K2.Hw (gK mP u4 BR)
open K2.Oz (HR)
theorem Wi{r:@r}{k:Nat}{G:Gp}{Q:DK}{d:D}(hd:IsL G d (@aI))(hk:k<=r.length)(hl:@cn)(q:∀p G1,dI G G1->G p=none->G1 p=some (.lst ((ZJ r k).map enc))->Q @aw G1):
  RV d (some (k:Int)) none G λx G1=>RV d none (some (k:Int)) G1 λy G2=>fk x y G2 Q:=by
 refine jz hd ?_;rw[qu,zc r k hk];intro p hp;refine jz (hd.mono @ar) ?_;rw[qu,GY r k hk];intro p2 nP;have af7:p≠p2:=λz=>by rw[<-z,ax] at nP;cases nP
 have g1:dw (dw G p (.lst ((@an).map enc))) p2 (.lst ((@ao).map enc)) p=some (.lst ((@an).map enc)):=by rw[cu af7,ax]
 have gl:dI G (dw (dw G p (.lst ((@an).map enc))) p2 (.lst ((@ao).map enc))):=(dI.new hp).trans (.new nP);show Ho _ _ _ _;unfold Ho;rw[rE (IsL.ref (ds:=(@an).map enc) g1),rE (IsL.ref (ds:=(@ao).map enc) ax)];refine⟨xW (by simp;lia),λp3 Kx=>?_⟩;refine q _ _ (gl.trans (.new Kx)) (gl.free Kx) ?_;rw[ax];unfold ZJ;rw[aC]
end D4
namespace Yh
open K2.P
open K2.D4 (M met Kn gI Nb ZJ eL)
open K2.Hw (gK mP J3 C1)
open K2.Oz (HR)
theorem NR(h:HR G G1 p as rs)(l:dI G1 G2):HR G G2 p as rs :=
 ⟨h.le.trans l,h.fp,l _ _ h.gp,h.np,h.nd,h.fr,h.len,λi a r h1 h2=>l _ _ (h.at' i a r h1 h2)⟩
def EL:gq :=
 (bJ (d6 (ly (fI @j)) (bK (b8 (eS aK))) cj)
 (bJ (bh (mi D9 sH @j (aq (jw MA @aR) aK)) (aF 1))
 (bK (b8 (aN fk (pI @j (ib @m) cw) (pI @j cw (ib @m)))))))
def vL:iS:=λds G Q _=>∃r:@r,ds=[enc r]/\@cn/\∀p,G p=none->Q @aw (dw G p (.lst ((gK r).map enc)))
theorem FG(ds)(G)(Q)(h:vL ds G Q @z):EL @q @F (aP 2 ds) G:=by
 obtain⟨r,rfl,hl,q⟩:=h;unfold EL;refine cX (λτ G'=>G=G'/\r≠[]/\τ=[some (enc r),none]) ?_ ?_
 .intro N hN;simp only[d6,ly,aP,ak,aM,ag,av,aO,ay,aG,bK,b8,eS,aK,ends,cj,b7,ar,aa];cases r with
  |nil=>exact⟨@g,λp hp=>GC @ar hp ax (q p hp)⟩
  |cons a t=>exact hN _ _ ⟨rfl,@K,rfl⟩
 .rintro _ _ ⟨rfl,pX,rfl⟩;simp only[ends,bZ,bh,mi,ar,aa,aq,jw,aK,aF,bK,b8,aN,pI,ao,ai,cw,fj,ae];refine⟨trivial,J3 rfl pX (C1 trivial rfl pX ?_)⟩;have hkl:r.idxOf (mP r)<=r.length:=List.idxOf_le_length;refine D4.Wi (IsL.enc r) hkl hl λp G1 l f g=>?_;exact GC l f g (q p f)
def uM:gq :=
 (bK (b8 (e7 1 [] (la @j) (aF 0) none (aR vL @aR))))
def fC:iS:=λds G Q _=>∃rows:Rows,ds=[enc rows]/\(rows.length<=1000/\∀r∈rows,@cn)/\∀p as G',HR G G' p as (rows.map gK)->Q @aw G'
theorem vA(ds)(G)(Q)(h:fC ds G Q @z):uM @q @F (aP 1 ds) G:=by
 obtain⟨rows,rfl,⟨hl,hr⟩,q⟩:=h;unfold uM;simp only[bK,b8,e7,aP,ak,aM,ag,av,ay,aG,ends,c8,ar,aa];refine gR ⟨xW (by rw[au];exact hl),?_⟩;refine jq (xs:=rows) (λpre acc τ G'=>(∃a,τ=[a])/\∃bs:@aT,acc=bs.map D.ref/\bs.length=pre.length/\bs.Nodup/\(∀a∈bs,G a=none)/\@G/\∀(i a:Nat) (r:@r),bs[i]?=some a->pre[i]?=@aD->G' a=some (.lst ((gK r).map enc))) ⟨@A,[],rfl,rfl,cJ,(λa h=>@aS),.refl _,λi a r h=>@cc⟩ @ca ?_ ?_
 .rintro pre r post acc τ G' N e ⟨⟨a,rfl⟩,bs,rfl,hl,nd,fr,le,AZ⟩ hN;simp only[aF,aR,aq,ar,ai,aa,aK];refine⟨r,rfl,hr r (@a6),λp hp=>?_⟩;have hnb:p∉bs:=λz=>by
   obtain⟨i,hi⟩:=hZ z;have h1:i<pre.length:=by rw[<-hl];exact(@c4).1
   rw[AZ i p pre[i] hi (az h1)] at hp;cases hp
  refine hN _ _ _ ⟨@A,bs++[p],@K,by simp[hl],?_,?_,le.trans @ar,?_⟩
  .rw[cU];refine⟨nd,@K,λa h b hb e=>?_⟩;rw[cz] at hb;subst hb e;exact hnb h
  .intro a h0;rcases List.mem_append.mp h0 with h |h
   .exact fr a h
   .rw[cz] at h;subst h;exact le.free hp
  .intro i b s h1 h2;by_cases hi:i<bs.length
   .rw[cF hi] at h1;rw[cF @c] at h2;have:b≠p:=by ext c;exact hnb (cp h1)
    rw[cu this];exact AZ i b s h1 h2
   .rw[cg @c] at h1 h2;have i0:i-bs.length=0:=by have:=(@c8).1;simp at this;lia
    rw[i0] at h1;rw[<-hl,i0] at h2;simp at h1 h2;subst h1 h2;exact ax
 .rintro acc τ G5 ⟨⟨a',rfl⟩,bs,rfl,hl,nd,fr,le,AZ⟩ p3 Kx;refine bW (q p3 bs _ ⟨le.trans (.new Kx),le.free Kx,ax,λz=>?_,nd,fr,by rw[au];exact hl,λi b r h1 h2=>?_⟩)
  .obtain⟨i,hi⟩:=hZ z;have h1:i<rows.length:=by rw[<-hl];exact(@c4).1
   rw[AZ i p3 rows[i] hi (az h1)] at Kx;cases Kx
  .rw[bw] at h2;obtain⟨r',hr',rfl⟩:=Option.map_eq_some_iff.mp h2;exact(dI.new Kx) _ _ (AZ i b r' h1 hr')
end Yh
namespace JF
open K2.P K2.J K2.JB
open K2.Hw (gK mP u4 BR)
open K2.JE (gQ gS ot oq RH)
theorem afw{q:T3}(h:a9.lt p.s q.s=true):a9.lt p q=true:=by
 obtain⟨a,b,c⟩:=p;obtain⟨a',b',c'⟩:=q;have h':ua (λa b=>decide (a<b)) [a,b] [a',b']=true:=h;show ua (λa b=>decide (a<b)) [a,b,c] [a',b',c']=true;simp only[ua] at h' ⊢
 grind
theorem Wd{r:@r}(nd:(r.map T3.s).Nodup)(hk)(h:∀j (hj:j<r.length),a9.lt r[j].s r[k].s=false):k=r.idxOf (mP r):=by
 have pX:r≠[]:=by intro z;rw[z] at hk;cases hk
 have hm:=u4 pX;obtain⟨j,hj,ej⟩:=rR hm;have le1:a9.lt r[k] (mP r)=false:=by
  have:=BR (eV hk);unfold Jj at this;ext p
 have e:(mP r).s=r[k].s:=by
  refine a9.pW _ _ (by rw[<-ej];exact h j hj) ?_;cases c:a9.lt r[k].s (mP r).s with
  |false=>rfl
  |true=>rw[afw c] at le1;cases le1
 have e2:mP r=r[k]:=RH nd hm (eV hk) e;rw[e2];have nr:r.Nodup:=List.Pairwise.of_map _ (λa b h z=>h (by rw[z])) nd;have hi:=List.idxOf_lt_length_of_mem (eV hk);have e3:r[r.idxOf r[k]]=r[k]:=List.getElem_idxOf hi;have pw:=List.pairwise_iff_getElem.mp nr;rcases Nat.lt_trichotomy (r.idxOf r[k]) k with c |c |c
 .exact absurd e3 (pw _ _ hi hk c)
 .exact c.symm
 .exact absurd e3.symm (pw _ _ hk hi c)
def wG:gq :=
 (bJ (d6 (fI (aN @bI @j (eS aK))) (bK (b8 (eS aK))) cj)
 (bJ (bh @H (aF 1))
 (bJ (di (u6 (jw ja @aR)) (aF 2) (d6 (fI (aN Wl (eQ (aq (aN fQ (aN fQ @j @p) @H) (aq (aN fQ (aN fQ @j @p) @E) aK))) (eQ (aq (aN fQ (aN fQ @j @m) @H) (aq (aN fQ (aN fQ @j @m) @E) aK))))) (bh @p (aF 1)) cj))
 (bK (b8 (aN fk (pI @j (ib @m) cw) (pI @j cw (ib @m))))))))
def gT:iS:=λds G Q _=>∃r:@r,ds=[enc r]/\(@cn/\(r.map T3.s).Nodup)/\Q (enc (gK r)) G
theorem wR(ds)(G)(Q)(h:gT ds G Q @z):wG @q @F (aP 3 ds) G:=by
 obtain⟨r,rfl,⟨hl,nd⟩,q⟩:=h;unfold wG;refine cX (λτ G'=>@G/\r≠[]/\τ=[some (enc r),none,none]) ?_ ?_
 .intro N hN;simp![d6,aN,ar,aP,aO,eS,aK,bK,b8,ends,cj];refine⟨@g,λp f=>?_⟩;refine⟨.dc (@aI),.dc [],uL _ 7 @t r,.ref ax .El,?_⟩;cases r with
  |nil=>
   have e:i7 (.dc (([]:@r).map enc)) (.dc [])=true:=rfl;simp!;exact⟨@g,λp2 f2=>fM (xs:=([]:@r)) ((dI.new f).trans (.new f2)) ((dI.new f).free f2) ax q⟩
  |cons a t=>
   have e:i7 (.dc ((a::t).map enc)) (.dc [])=false:=rfl;simp!;exact hN _ _ ⟨.new f,@K,rfl⟩
 .rintro _ G' ⟨le,pX,rfl⟩;have Eo:0<r.length:=List.length_pos_iff.mpr pX;simp![bh,dC,aF,ends];refine cX (λτ G2=>G'=G2/\∃(k:Nat) (hk:k<r.length) (a2:Option D),(∀j (hj:j<r.length),a9.lt r[j].s r[k].s=false)/\τ=[some (enc r),some (.int k),a2]) ?_ ?_
  .intro N hN;simp![di,jw,aq,ar,aK];refine gS ?_;simp only[↓fH];refine⟨@d,@d,?_⟩;rw[c9,ot];refine cT (xs:=fG r.length) (f:=λk:Nat=>D.int (k:Int)) (λpre τ G2=>G'=G2/\∃(k:Nat) (hk:k<r.length) (a2:Option D),(∀j (hj:j<r.length),j<pre.length->a9.lt r[j].s r[k].s=false)/\τ=[some (enc r),some (.int k),a2]) ⟨rfl,0,Eo,_,(λj hj z=>absurd z (rY _)),rfl⟩ @aA ?_ ?_
   .rintro pre x post τ _ N2 e ⟨rfl,k,hk,a2,P6,rfl⟩ kF;obtain⟨ex,hx⟩:=oq e;have gx:r[x]?=some r[x]:=az hx;have gk:r[k]?=some r[k]:=az hk;simp![aF,d6,aN,eQ,aq,ar,dC,aK,bh,cj];refine gQ gx ?_;rw[kz,dS,VH];refine gQ gx ?_;rw[kz,dS,HK];refine⟨@g,?_⟩;refine gQ gk ?_;rw[kz,dS,VH];refine gQ gk ?_;rw[kz,dS,HK];refine⟨@g,?_⟩;refine RW (x:=r[x].s) (y:=r[k].s) @t ?_;simp only[↓aY];cases c:a9.lt r[x].s r[k].s with
    | true=>
     simp only[↓if_true];refine kF _ _ ⟨rfl,x,hx,_,λj hj z=>?_,rfl⟩;rw[aA,cP] at z;by_cases c2:j=x
     .subst c2;exact a9.Kw _
     .have:=P6 j hj @c;cases c3:a9.lt r[j].s r[x].s with
      |false=>rfl
      |true=>rw[a9.trans _ _ _ c3 c] at this;ext f
    |false=>
     simp only[↓aj,↓if_false];refine kF _ _ ⟨rfl,k,hk,_,λj hj z=>?_,rfl⟩;rw[aA,cP] at z;by_cases c2:j=x
     .subst c2;exact c
     .exact P6 j hj @c
   .rintro τ _ ⟨rfl,k,hk,a2,P6,rfl⟩;exact hN _ _ ⟨rfl,k,hk,a2,λj hj=>P6 j hj (by rw[ig];exact hj),rfl⟩
  .rintro _ _ ⟨rfl,k,hk,a2,P6,rfl⟩;have ek:=Wd nd hk P6;simp![bK,b8,aN,pI,ar,cw];show RV (.dc (@aI)) _ _ _ _;rw[kW,zc _ _ @bK];intro p5 f5;show RV (.dc (@aI)) _ _ _ _;rw[kW,GY _ _ @bK];intro p6 f6;have n56:p5≠p6:=by ext c;rw[ax] at f6;cases f6
   refine jB (IsL.ref (by rw[cu n56,ax])) (IsL.ref ax) (by rw[bP,bO,au];exact xW @c) λp7 f7=>?_;have l6:=(le.trans (dI.new (o:=.lst ((@aI).drop k)) f5)).trans (dI.new (o:=.lst ((@aI).take k)) f6);refine fM (G:=G) (xs:=gK r) (l6.trans (.new f7)) (l6.free f7) ?_ q;rw[ax];unfold gK;rw[<-ek,aC,i5,iZ]
end JF
end K2
end
section
namespace K2
open Enc (enc)
namespace JF
open K2.P K2.J K2.JB
open K2.T (Tb)
open K2.Hw (gK mP)
theorem vM(r):∃k,gK r=@an++@ao:=@A
end JF
end K2
end
section
namespace K2
open PySem (Str)
open Enc (enc)
namespace JF
open K2.P K2.J K2.JB
open K2.Y (eN)
def AO:gq :=
 (bJ (d6 (A8 (ly (fI (JV "list" @j))) (fI (aN (zT true) @j @m))) (bK (b8 (dC (.bl false)))) cj)
 (bJ (di (la @j) (aF 2) (di (la @p) (aF 3) (di (la @O) (aF 4) (d6 (ly (fI (aR eN (aq @R aK)))) (bK (b8 (dC (.bl false)))) cj))))
 (bK (b8 (dC (.bl true))))))
def je:iS:=λds G Q _=>∃R:Rows,ds=[enc R,enc R]/\(R.length<=1000/\∀r∈R,@cn)/\Q (.bl true) G
theorem Bi(ds)(G)(Q)(h:je ds G Q @z):AO @q @F (aP 5 ds) G:=by
 obtain⟨R,rfl,⟨hl,hr⟩,q⟩:=h;unfold AO;refine cX (λτ G'=>G=G'/\τ=[some (enc R),some (enc R),none,none,none]) ?_ ?_
 .intro N hN;simp![d6,A8,ly,ar,aP,aO,bK,b8,dC,ends,cj,aN];refine⟨_,_,Enc.sn G 8 R @t,Enc.sn G 8 R @t,?_⟩;have e:i7 (enc R) (enc R)=true:=by rw[Enc.eqv];simp
  simp![e];exact hN _ _ @a_
 .rintro _ _ ⟨rfl,rfl⟩;refine cX (λτ G'=>G=G') ?_ ?_
  .intro N hN;simp![di,ar,ends];refine gR ?_;refine cT (xs:=R) (λpre τ G'=>G=G'/\∃a b c,τ=[some (enc R),some (enc R),a,b,c]) ⟨rfl,_,_,_,rfl⟩ @aA ?_ ?_
   .rintro pre r post τ _ N2 e ⟨rfl,a,b,c,rfl⟩ kF;simp![aF,di,ar];refine gR ?_;refine cT (xs:=r) (λpre τ G'=>G=G'/\∃b c,τ=[some (enc R),some (enc R),some (enc r),b,c]) ⟨rfl,_,_,rfl⟩ @aA ?_ ?_
    .rintro pr x po τ _ N3 e2 ⟨rfl,b,c,rfl⟩ Bu;rw[kz];simp![aF,di,ar];refine Us (λpre τ G'=>G=G'/\∃c,τ=[some (enc R),some (enc R),some (enc r),some (.tup [.int x.a,.int x.b,.int x.c]),c]) ⟨rfl,_,rfl⟩ @aA ?_ ?_
     .rintro CK d Yy τ _ N4 e4 ⟨rfl,c,rfl⟩ hN4;have hd:∃i:Int,d=@w:=by
       have:d∈([.int x.a,.int x.b,.int x.c]:@e):=by rw[e4];simp
       simp only[bF,b9,or_false] at this;rcases this with h |h |h<;>exact⟨_,h⟩
      obtain⟨i,rfl⟩:=hd;simp![aF,d6,ly,aR,aq,ar,aK,bK,b8,dC,cj];refine⟨i,rfl,?_⟩;simp!;exact hN4 _ _ ⟨rfl,_,rfl⟩
     .rintro τ _ ⟨rfl,c,rfl⟩;exact Bu _ _ ⟨rfl,_,_,rfl⟩
    .rintro τ _ ⟨rfl,b,c,rfl⟩;exact kF _ _ ⟨rfl,_,_,_,rfl⟩
   .rintro τ _ ⟨rfl,_⟩;exact hN _ _ rfl
  .rintro τ _ rfl;simp only[bK,b8,dC,ends];exact bW q
end JF
namespace JF
open K2.P K2.J K2.JB
open K2.Oz (HR)
def Kj(sp:iS)(ds:@e)(G1:Gp)(Q:DK):Prop:=∃(R:@a0) (ts:@e),(∀a,R a=true->∃xs,G1 a=some @a9)/\zr G1 R ds ts /\
 sp ts (λ_=>none) (λx G2=>tupP x=true/\∃T:@a0,(∀a o,T a=true->G2 a=@i->CP o=true)/\((∀a o,G2 a=@i->G1 a=none)->Q x (Yl (resT T G2) G1))) @z
theorem vo:vm sp t E τ G Q=t E τ G λds G1=>Kj sp ds G1 Q:=rfl
theorem Uq:∀(as:@aT) (rs:Rows),as.length=rs.length->(∀(i a:Nat) (r:@r),as[i]?=some a->rs[i]?=@aD->G1 a=some (.lst (@aI))/\R a=true)->zr G1 R (@cs) (rs.map enc)
 |[],[],_,_=>.nil
 |[],_::_,h,_=>@aS
 |_::_,[],h,_=>@aS
 |a::as,r::rs,h,k=>by
  obtain⟨k1,k2⟩:=k 0 a r rfl rfl;exact .cons (.ref k1 k2 (zr.same _)) (Uq as rs (@b2) λi a' r' h1 h2=>k (i+1) a' r' (@cx) (@bH))
noncomputable def C8(p:Nat)(as:@aT)(a:Nat):Bool:=a == p||as.contains a
theorem NS(h:HR G G1 p as rs):(∀a,C8 p as a=true->∃xs,G1 a=some @a9)/\Fz G1 (C8 p as) @aw (enc rs):=by
 refine⟨λa ha=>?_,?_⟩
 .unfold C8 at ha;rw[gO,beq_iff_eq,Vp] at ha;rcases ha with rfl |ha
  .exact⟨_,h.gp⟩
  .obtain⟨i,hi,e⟩:=rR ha;have h1:as[i]?=some a:=by rw[az hi,e]
   have hi2:i<rs.length:=by rw[<-h.len];exact hi
   exact⟨_,h.at' i a rs[i] h1 (az hi2)⟩
 .refine .ref h.gp (by simp[C8]) (Uq as rs h.len λi a r h1 h2=>⟨h.at' i a r h1 h2,?_⟩);unfold C8;rw[gO,Vp];exact .inr (cp h1)
theorem Ie(T)(G):Yl (resT T λ_=>none) G=G:=by
 funext a;unfold Yl resT;rw[ite_self]
theorem vU{G G1:Gp}{p:Nat}{as:@aT}{rs:Rows}{Q:DK}(h:HR G G1 p as rs)(hz:rs.length<=1000/\∀r∈rs,@cn)(q:Q (.bl true) G1):
  Kj je [.ref p,enc rs] G1 Q:=by
 obtain⟨h1,h2⟩:=NS h;refine⟨C8 p as,[enc rs,enc rs],h1,.cons h2 (.cons (.same _) .nil),rs,rfl,hz,rfl,λ_=>false,(λa o _ e=>nomatch e),λ_=>?_⟩;rw[Ie];exact q
theorem sI{G G1:Gp}{p:Nat}{as:@aT}{rs:Rows}{Q:DK}(h:HR G G1 p as rs)(d:Dr rs)(hz:rs.flatten.length<=12)(q:∀T,BP T (brk rs)->Q (.kU (bb T)) G1):
  Kj mj [.ref p] G1 Q:=by
 obtain⟨h1,h2⟩:=NS h;refine⟨C8 p as,[enc rs],h1,.cons h2 .nil,rs,rfl,⟨d,hz⟩,λT bT=>⟨Sh T,λ_=>false,(λa o _ e=>nomatch e),λ_=>?_⟩⟩;rw[Ie];exact q T bT
end JF
namespace JF
open K2.P K2.J K2.JB
open K2.Y (Po L ND NZ fF gU jE bS GQ)
open K2.Oz (HR)
open K2.Hw (gK)
open K2.D4 (ZJ)
open K2.T (HL)
open K2.KD (hW dT sZ)
theorem Ct(d:@Z):∀r∈rows,(r.map T3.s).Nodup:=λr hr=>by
 have:=d.nd;obtain⟨s,t,rfl⟩:=t7 hr;rw[cM,cV,aC,aC,cU,cU] at this;exact this.2.1.1
theorem Y3:∀(as:@aT) (rs:List (@e)),as.length=rs.length->(∀a∈as,R a=true)->(∀(i a:Nat) (r:@e),as[i]?=some a->rs[i]?=@aD->G1 a=some (.lst r))->zr G1 R (@cs) (rs.map D.dc)
 |[],[],_,_,_=>.nil
 |[],_::_,h,_,_=>@aS
 |_::_,[],h,_,_=>@aS
 |a::as,r::rs,h,k,AZ=>.cons (.ref (AZ 0 a r rfl rfl) (k a @f) (zr.same _)) (Y3 as rs (@b2) (λb hb=>k b (aI _ hb)) λi b s h1 h2=>AZ (i+1) b s h1 h2)
theorem L6(h:HR G G1 p as rs)(ha:a∈as):∃r∈rs,G1 a=some (.lst ((r:@r).map enc)):=by
 obtain⟨i,hi,e⟩:=rR ha;have h1:as[i]?=some a:=by rw[az hi,e]
 have hi2:i<rs.length:=by rw[<-h.len];exact hi
 exact⟨rs[i],eV hi2,h.at' i a rs[i] h1 (az hi2)⟩
end JF
namespace JG
open K2.P K2.J K2.JB
open K2.Hw (gK)
open K2.Yh (fC)
open K2.D4 (M Kn gI fD eL)
open K2.Oz (HR)
open K2.KC (rh cR iF)
noncomputable def iV:@D->Nat->M
 |[],_=>[]
 |n::l,k=>(n,((k+1:Nat):Int))::iV l (k+1)
theorem rm:∀(l:@D) (k:Nat),(iV l k).map @n=l
 |[],_=>rfl
 |n::l,k=>by rw[iV,ak,rm l]
theorem jW(l)(k):(iV l k).length=l.length:=by have:=congrArg dh (rm l k);rwa[au] at this
theorem EV:∀(l:@D) (k:Nat),jC (k+1) (l.map enc)=(iV l k).map λp=>D.tup [.int p.2,.int p.1]
 |[],_=>rfl
 |n::l,k=>by rw[ak,jC,EV l (k+1),iV,ak];rfl
theorem j0 [@bd]{k:κ}{v:β}(h:k∉@aP):ft l k v=l++[(k,v)]:=by
 unfold ft;rw[if_neg];intro z;exact h (by simpa using z)
def yk:gq :=
 (bJ (bh kC (aF 2))
 (bJ (di (Dk (aR iw @aR) (aN fk @m @E)) (gY (cq (aF 3) (cq (aF 4) gH))) (bh @O (iH @p @R)))
 (bK (b8 @p))))
def jf:iS:=λds G Q _=>∃(rows:Rows) (k:Nat),ds=[enc rows,.int k]/\(@Z/\k<=1000)/\iQ G (.gz (bb (iV (@T) k))) Q
theorem zk(ds)(G)(Q)(h:jf ds G Q @z):yk @q @F (aP 5 ds) G:=by
 obtain⟨rows,k,rfl,⟨d,hk⟩,q⟩:=h;have BX:=d.BX;have nl:=sE d;have nnd:=rz d;unfold yk;simp![bh,kC,aF,ends,aP,aO];intro p hp;refine cX (λτ G'=>(∃a b,τ=[@aF,some (.int k),@aq,a,b])/\@G/\G'=dw G p (.gz (bb (iV (@T) k)))) ?_ ?_
 .intro N hN;simp![di,Dk,aR,aq,ar,aK,aN,dC];refine⟨rows,rfl,(show rows.flatten.length<64 by lia),?_⟩;simp!;refine⟨k+1,rfl,@d,?_⟩;have en:∀{R:@aQ} {G:Gp},R ((iV (@T) k).map λp=>D.tup [.int p.2,.int p.1]) @aC G->yO (enc (@T)) (k+1) G R:=λh=>by
   show _;rw[<-EV] at h;exact h
  refine en ?_;refine cT (xs:=iV (@T) k) (f:=λp=>D.tup [.int p.2,.int p.1]) (λpre τ G'=>(∃a b,τ=[@aF,some (.int k),@aq,a,b])/\G'=dw G p (.gz (bb pre))) ⟨@al,rfl⟩ @aA ?_ ?_
  .rintro pre x post τ G' N2 e ⟨⟨a,b,rfl⟩,rfl⟩ kF;have hx:x.1∉pre.map @n:=by
    have h1:=rm (@T) k;rw[e,aC,ak] at h1;rw[<-h1] at nnd;have:=(List.nodup_append.mp nnd).2.2;exact λz=>this _ z _ (br ..) rfl
   have hl:pre.length<1000:=by
    have h1:=jW (@T) k;rw[e,aA] at h1;lia
   simp![gY,cq,aF,gH,bh,ar,iH];refine gw (l:=pre) (i:=x.1) (v:=x.2) ax (Cq @c) ?_;refine kF _ _ ⟨@al,?_⟩;rw[j0 hx];funext a;unfold dw;split<;>rfl
  .rintro τ G' ⟨⟨a,b,rfl⟩,rfl⟩;exact hN _ _ ⟨@al,.new hp,rfl⟩
 .rintro _ G' ⟨⟨a,b,rfl⟩,le,rfl⟩;simp![bK,b8,ar];exact bW (q p hp)
def uP:gq :=
 (d6 (A8 (fI (aN Wo @j (dC (.int 3)))) (fI (aN Wo @m (dC (.int 12))))) sY cj)
def lI:iS:=λds G Q _=>∃a b:Int,ds=[.int a,.int b]/\(a<=3/\b<=12)/\Q .fe G
theorem vC(ds)(G)(Q)(h:lI ds G Q @z):uP @q @F (aP 2 ds) G:=by
 obtain⟨a,b,rfl,⟨ha,hb⟩,q⟩:=h;unfold uP;have e1:decide (3<a)=false:=@cR;have e2:decide (12<b)=false:=@cR;simp![d6,A8,aN,ar,aP,dC,e1,ends,cj,e2];exact q
end JG
namespace JG
open K2.P K2.J K2.JB
open K2.Hw (gK)
open K2.Yh (fC)
open K2.D4 (M Kn gI Nb fD eL)
open K2.Oz (HR)
open K2.KC (rh cR iF)
def mA(A:Rows):M:=iV (names A) 0
def mB(A B:Rows):M:=iV (names B) @ax
theorem Gu(d:@Z)(k)(hr:r∈rows):Kn (iV (@T) k) r:=by
 intro p hp;have hf:@cP:=List.mem_flatten.mpr ⟨r,hr,hp⟩;have hn:p.a∈@T:=by
  rw[oQ];rcases d.way p hf with w |w
  .exact⟨p,hf,w,rfl⟩
  .exact⟨_,d.CY p hf,by simp[w],rfl⟩
 rw[<-rm (@T) k] at hn;obtain⟨q,hq,e⟩:=List.mem_map.mp hn;rw[<-e,vt (by rw[rm];exact rz d) hq];rfl
theorem rM{m:M}{G:Gp}{Q:DK}(q:Q (.int (m.length:Int)) G):ja [.kU (bb m)] G Q:=by
 unfold ja lenOf;have e:((bb m).all λp=>dq p.1)=true:=by
  unfold bb;rw[jG,g7];intro x _;rfl
 have l:(bb m).length=m.length:=by unfold bb;rw[au]
 simp only[e,l,if_true];exact q
theorem BN(m)(r):(gI m r).length=r.length:=by unfold gI;rw[au]
theorem IP:∀(l m:@D) (k:Nat),iV (l++m) k=iV l k++iV m (k+l.length)
 |[],m,k=>by simp[iV]
 |n::l,m,k=>by
  rw[ay,iV,IP l m,iV,ay,ag,show k+1+l.length=k+(l.length+1) by lia]
end JG
end K2
end
section
namespace K2
open Enc (enc)
namespace JG
open K2.P K2.J K2.JB
open K2.Hw (gK)
open K2.D4 (M gI Nb)
open K2.Y (Po L ND NZ fF)
theorem acE(h:∀i,(g i).natAbs<=c)(i):(lp g i).natAbs<=2*c:=by
 have h1:=h (i+2);have h2:=h (i-2);unfold lp;lia
theorem LO:∀(n:Nat) {g:Fn} {c:Nat},(∀i,(g i).natAbs<=c)->∀i,(i6 n g i).natAbs<=2 ^ n*c
 |0,g,c,h,i=>by rw[Nat.pow_zero,Nat.one_mul];exact h i
 |n+1,g,c,h,i=>by
  have:=acE (LO n h) i;rw[zG,Nat.mul_comm (2 ^ n) 2,Nat.mul_assoc];ext g
theorem DP(f)(x y:T3):cl f x y<=1:=by unfold cl;split<;>lia
theorem Hb(f)(n)(w):cls f (js n w)<=2:=by
 cases w with
 |false=>
  exact BF (DP _ _ _) (BF (DP _ _ _) (aH 0))
 |true=>
  exact BF (DP _ _ _) (BF (DP _ _ _) (aH 0))
theorem Zk:∀(ps:@ae) (f:T3->T3) {g:Fn} {c:Nat},(∀i,(g i).natAbs<=c)->(Br f ps g).natAbs<=8 ^ ps.length*c
 |[],f,g,c,h=>by rw[av,Nat.pow_zero,Nat.one_mul];exact h 0
 | p::ps,f,g,c,h=>by
  have st:∀(w:Bool) (b:Int),(Br (jh f @aK) ps (i6 (cls f @aK) (sh b g))).natAbs<=8 ^ ps.length*(4*c):=λw b=>by
   have h1:∀i,(sh b g i).natAbs<=c:=λi=>h _;have h2:∀i,(i6 (cls f @aK) (sh b g) i).natAbs<=4*c:=λi=>by
    refine aU (LO _ h1 i) (jr _ ?_);exact aU (ff @t (Hb f p.1 w)) @t
   exact Zk ps _ h2
  have a:=st false p.2;have b:=st true (-p.2);have e:8 ^ (p::ps).length*c=8 ^ ps.length*(4*c)+8 ^ ps.length*(4*c):=by
   rw[ag,zG,Nat.mul_assoc,<-Nat.mul_add];congr 1;lia
  rw[e];show(Br _ ps _+Br _ ps _).natAbs<=_;lia
theorem abk(rows)(h:∀i,(g i).natAbs<=1):(brk rows g).natAbs<=8 ^ (@T).length*2 ^ lo rows:=by
 have:=Zk (nh rows) (fr rows) (LO (lo rows) h);rw[Nat.mul_one,show(nh rows).length=(@T).length by unfold nh;rw[au]] at this;ext g
theorem aak(nd:ND T):∃g:Fn,(∀i,(g i).natAbs<=1)/\L g T=(fF T:Int):=by
 refine⟨λi=>if 0<=(cN T i).getD 0 then 1 else -1,λi=>?_,?_⟩
 .show (if _ then(1:Int) else -1).natAbs<=1;split<;>decide
 .have:∀U:Po,(∀p∈U,cN T p.1=@a3)->L (λi=>if 0<=(cN T i).getD 0 then 1 else -1) U=(fF U:Int):=by
   intro U;induction U with
   |nil=>intro _;rfl
   |cons p U ih=>
    intro h;rw[L,fF,ih λq hq=>h q (aI _ hq),h p @f,pM];split<;>lia
  exact this T λp hp=>vt nd hp
theorem MB(b:BP T (brk rows)):fF T<=8 ^ (@T).length*2 ^ lo rows:=by
 obtain⟨g,hg,e⟩:=aak b.nd;have:=abk rows hg;rw[<-b.val,e] at this;ext g
theorem yB:∀{l:@D} {k:Nat} {p:Int×Int},p∈iV l k->(k:Int)<p.2/\p.2<=k+l.length
 |[],_,_,h=>nomatch h
 |n::l,k,p,h=>by
  rw[iV] at h;rw[ag];ext u
  .simp only;lia
  .have:=yB h;lia
theorem IM:∀(l:@D) (k:Nat),((iV l k).map (·.2)).Nodup
 |[],_=>cJ
 |n::l,k=>by
  rw[iV,ak,aT];refine⟨λz=>?_,IM l (k+1)⟩;obtain⟨q,hq,e⟩:=@cT;have:=yB hq;lia
def Gk(m:M)(a:Int):Int:=(cN m a).getD 0
theorem Gj(m)(rows):rows.map (gI m)=nu (Gk m) rows:=rfl
theorem Gm(d:@Z)(k)(h:Nm rows a):(a,Gk (iV (@T) k) a)∈iV (@T) k:=by
 obtain⟨p,hp,rfl⟩:=h;obtain⟨r,hr,hpr⟩:=List.mem_flatten.mp hp;obtain⟨v,hv⟩:=Option.isSome_iff_exists.mp (Gu d k hr p hpr);unfold Gk;rw[hv];exact Jb hv
theorem Wc{m:@ae}(nd:(m.map (·.2)).Nodup)(ha:(a,u)∈m)(hb:(b,u)∈m):a=b:=by
 induction m with
 |nil=>cases ha
 | cons p m ih=>
  rw[ak,aT] at nd;rcases List.mem_cons.mp ha with e |ha
  .rcases @cO with e' |hb
   .rw[<-e'] at e;exact congrArg Prod.fst e
   .exact absurd (List.mem_map.mpr ⟨_,hb,by rw[<-e]⟩) nd.1
  .rcases @cO with e' |hb
   .exact absurd (List.mem_map.mpr ⟨_,ha,by rw[<-e']⟩) nd.1
   .exact ih nd.2 ha hb
theorem LD(d:@Z)(k):∀a b,Nm rows a->Nm rows b->Gk (iV (@T) k) a=Gk (iV (@T) k) b->a=b:=λa b ha hb e=>by
 have h1:=Gm d k ha;have h2:=Gm d k hb;rw[<-e] at h2;exact Wc (IM _ _) h1 h2
theorem aa8(dA:Dr A)(dB:Dr B)(Oa:∀p∈B.flatten,¬ Nm A p.a)(hs:@cF<=3)(hf:A.flatten.length+B.flatten.length<=24):Dr (A++B):=by
 refine⟨?_,?_,?_,?_,?_,?_⟩
 .rw[cM,aC,cU];refine⟨dA.nd,dB.nd,λa ha b hb e=>?_⟩;obtain⟨p,hp,rfl⟩:=List.mem_map.mp ha;obtain⟨q,hq,rfl⟩:=List.mem_map.mp hb;exact Oa q hq ⟨p,hp,congrArg T2.a e⟩
 .intro p hp;rw[cM] at hp;exact(@c3).elim (dA.way p) (dB.way p)
 .intro p hp;rw[cM] at hp;exact(@c3).elim (dA.hand p) (dB.hand p)
 .intro p hp;rw[cM] at hp ⊢;exact List.mem_append.mpr ((@c3).imp (dA.CY p) (dB.CY p))
 .rw[cM,aA];exact hf
 .rw[aA];exact hs
theorem vQ(ν)(rows):(nu ν rows).flatten=rows.flatten.map (rn ν):=by
 unfold nu;rw[List.map_flatten]
end JG
end K2
end
section
namespace K2
namespace J
structure Ex(S:T3->Prop)(f f':T3->T3)(a b:T3):Prop where
 iv:Iv f
 sa:¬ S a
 OZ:¬ S (f a)
 sb:S b
 ZH:S (f b)
 na:f a≠a
 nb:f b≠b
 e1:f' a=f b
 e2:f' (f b)=a
 e3:f' b=f a
 e4:f' (f a)=b
 el:∀e,e≠a->e≠f a->e≠b->e≠f b->f' e=f e
theorem Ex.turn(r:Ex S f f' a b):Ex S f f' (f a) (f b):=by
 have ha:=r.iv a;have hb:=r.iv b;refine⟨r.iv,r.OZ,by rw[ha];exact r.sa,r.ZH,by rw[hb];exact r.sb,λz=>r.na (by rw[ha] at z;exact z.symm),λz=>r.nb (by rw[hb] at z;exact z.symm),?_,?_,?_,?_,?_⟩
 .rw[hb];exact r.e4
 .rw[hb];exact r.e3
 .rw[ha];exact r.e2
 .rw[ha];exact r.e1
 .intro e h1 h2 h3 h4;rw[ha] at h2;rw[hb] at h4;exact r.el e h2 h1 h4 h3
theorem Ex.iv'(r:Ex S f f' a b):Iv f':=λe=>by
 have i:=r.iv;have ha:=i a;have hb:=i b;have he:=i e;have e1:=r.e1;have e2:=r.e2;have e3:=r.e3;have e4:=r.e4;have el:=r.el e;have el2:=r.el (f e);by_cases c1:e=a
 .rw[c1,e1,e2]
 by_cases c2:e=f a
 .rw[c2,e4,e3]
 by_cases c3:e=b
 .rw[c3,e3,e4]
 by_cases c4:e=f b
 .rw[c4,e2,e1]
 rw[el c1 c2 c3 c4,el2 (λz=>c2 (by rw[<-z,he])) (λz=>c1 (by rw[<-he,z,ha])) (λz=>c4 (by rw[<-z,he])) (λz=>c3 (by rw[<-he,z,hb])),he]
theorem rq{S:T3->Prop}{x y:T3}(hx:S x)(hy:¬ S y):x≠y:=λe=>hy (e ▸ hx)
theorem Ex.close(r:Ex S f f' a b):jn f b (f b)=jn f' b (f b)/\cl f b (f b)=cl f' b (f b)+1:=by
 have hb:=r.iv b;have ha:=r.iv a;have n1:=rq r.sb r.sa;have n2:=rq r.sb r.OZ;have n3:=rq r.ZH r.sa;have n4:=rq r.ZH r.OZ;have e1:=r.e1;have e2:=r.e2;have e3:=r.e3;have e4:=r.e4;have na:=r.na;have nb:=r.nb;refine⟨?_,?_⟩
 .funext e;have el:=r.el e;unfold jn
  grind
 .unfold cl;rw[if_pos rfl,if_neg (by rw[e3];exact λz=>n4 z.symm)]
theorem Ex.lead(r:Ex S f f' a b)(cS:∀e,S e->S (f e))(hy:S y)(ny:f y≠y)(y1:y≠b)(y2:y≠f b):Ex S (jn f b y) (jn f' b y) a (f y)/\cl f b y=cl f' b y:=by
 have iv:=r.iv;have hb:=r.iv b;have ha:=r.iv a;have hyy:=r.iv y;have sz:=cS y hy;have n1:=rq r.sb r.sa;have n2:=rq r.sb r.OZ;have n3:=rq r.ZH r.sa;have n4:=rq r.ZH r.OZ;have m1:=rq hy r.sa;have m2:=rq hy r.OZ;have m3:=rq sz r.sa;have m4:=rq sz r.OZ;have e1:=r.e1;have e2:=r.e2;have e3:=r.e3;have e4:=r.e4;have na:=r.na;have nb:=r.nb;have z1:f y≠b:=λz=>y2 (by rw[<-z,hyy]);have z2:f y≠f b:=λz=>y1 (by rw[<-hyy,z,hb]);have fy:f' y=f y:=r.el y m1 m2 y1 y2;have fz:f' (f y)=f (f y):=r.el (f y) m3 m4 z1 z2;have j1:jn f b y a=f a:=by unfold jn;grind
 have j2:jn f b y (f y)=f b:=by unfold jn;grind
 refine⟨⟨Jp iv nb ny (cO y1),r.sa,by rw[j1];exact r.OZ,sz,by rw[j2];exact r.ZH,by rw[j1];exact na,by rw[j2];exact λz=>z2 z.symm,?_,?_,?_,?_,?_⟩,?_⟩
 .rw[j2];unfold jn;grind
 .rw[j2];unfold jn;grind
 .rw[j1];unfold jn;grind
 .rw[j1];unfold jn;grind
 .intro e h1 h2 h3 h4;rw[j1] at h2;rw[j2] at h4;have el:=r.el e h1 h2;unfold jn
  grind
 .unfold cl;rw[if_neg (λz=>y2 z.symm),if_neg (by rw[e3];exact λz=>m2 z.symm)]
theorem Ex.away(r:Ex S f f' a b)(hx:S x)(hy:S y)(xy:x≠y)(nx:f x≠x)(ny:f y≠y)(cS:∀e,S e->S (f e))(x1:x≠b)(x2:x≠f b)(y1:y≠b)(y2:y≠f b):Ex S (jn f x y) (jn f' x y) a b/\cl f x y=cl f' x y:=by
 have iv:=r.iv;have hb:=r.iv b;have ha:=r.iv a;have hxx:=r.iv x;have hyy:=r.iv y;have m1:=rq hx r.sa;have m2:=rq hx r.OZ;have m3:=rq hy r.sa;have m4:=rq hy r.OZ;have m5:=rq (cS x hx) r.sa;have m6:=rq (cS x hx) r.OZ;have m7:=rq (cS y hy) r.sa;have m8:=rq (cS y hy) r.OZ;have e1:=r.e1;have e2:=r.e2;have e3:=r.e3;have e4:=r.e4;have na:=r.na;have nb:=r.nb;have fx:f' x=f x:=r.el x m1 m2 x1 x2;have fy:f' y=f y:=r.el y m3 m4 y1 y2;have z1:f x≠b:=λz=>x2 (by rw[<-z,hxx]);have z2:f x≠f b:=λz=>x1 (by rw[<-hxx,z,hb]);have z3:f y≠b:=λz=>y2 (by rw[<-z,hyy]);have z4:f y≠f b:=λz=>y1 (by rw[<-hyy,z,hb]);have j1:jn f x y a=f a:=by unfold jn;grind
 have j2:jn f x y b=f b:=by unfold jn;grind
 refine⟨⟨Jp iv nx ny xy,r.sa,by rw[j1];exact r.OZ,r.sb,by rw[j2];exact r.ZH,by rw[j1];exact na,by rw[j2];exact nb,?_,?_,?_,?_,?_⟩,?_⟩
 .rw[j2];unfold jn;grind
 .rw[j2];unfold jn;grind
 .rw[j1];unfold jn;grind
 .rw[j1];unfold jn;grind
 .intro e h1 h2 h3 h4;rw[j1] at h2;rw[j2] at h4;have el:=r.el e h1 h2 h3 h4;unfold jn
  grind
 .unfold cl;rw[fx]
def Xc(S:T3->Prop)(f f':T3->T3):Prop:=∃a b,Ex S f f' a b
theorem Xc.step(r:Xc S f f')(cS:∀e,S e->S (f e))(hx:S x)(hy:S y)(xy:x≠y)(nx:f x≠x)(ny:f y≠y):(jn f x y=jn f' x y/\cl f x y=cl f' x y+1)\/(Xc S (jn f x y) (jn f' x y)/\cl f x y=cl f' x y):=by
 obtain⟨a,b,r⟩:=r;have iv:=r.iv;have ld:∀{a b y:T3},Ex S f f' a b->S y->f y≠y->y≠b->(jn f b y=jn f' b y/\cl f b y=cl f' b y+1)\/(Xc S (jn f b y) (jn f' b y)/\cl f b y=cl f' b y):=λ{a b y} r hy ny yb=>by
  by_cases y2:y=f b
  .rw[y2];exact .inl r.close
  .exact .inr ⟨⟨a,_,(r.lead cS hy ny yb y2).1⟩,(r.lead cS hy ny yb y2).2⟩
 by_cases x1:x=b
 .subst x1;exact ld r hy ny (cO xy)
 by_cases x2:x=f b
 .have:=ld r.turn hy ny (λz=>xy (by rw[x2,<-z]));rw[<-x2] at this;ext g
 by_cases y1:y=b
 .subst y1;have:=ld r hx nx xy;rw[qo (f:=f),qo (f:=f'),BY iv,BY r.iv'] at this;ext g
 by_cases y2:y=f b
 .have:=ld r.turn hx nx (λz=>xy (by rw[y2,<-z]));rw[<-y2] at this;rw[qo (f:=f),qo (f:=f'),BY iv,BY r.iv'] at this;ext g
 exact .inr ⟨⟨a,b,(r.away hx hy xy nx ny cS x1 x2 y1 y2).1⟩,(r.away hx hy xy nx ny cS x1 x2 y1 y2).2⟩
theorem afH{S:T3->Prop}(cS:∀e,S e->S (f e))(hx:S x)(hy:S y):∀e,S e->S (jn f x y e):=λe he=>by
 have h1:=cS e he;have h2:=cS x hx;have h3:=cS y hy;unfold jn;split
 .exact he
 .split
  .exact h3
  .split
   .exact h2
   .exact h1
theorem Xc.steps:∀(ps:Pr T3) {f f':T3->T3},Xc S f f'->(∀e,S e->S (f e))->(∀p∈ps,S p.1/\S p.2)->Ok f ps->(jh f ps=jh f' ps/\cls f ps=cls f' ps+1)\/(Xc S (jh f ps) (jh f' ps)/\cls f ps=cls f' ps/\∀e,S e->S (jh f ps e))
 |[],f,f',r,cS,_,_=>.inr ⟨r,rfl,cS⟩
 | p::ps,f,f',r,cS,hp,o=>by
  obtain⟨xy,nx,ny⟩:=o.hd;obtain⟨s1,s2⟩:=hp p @f;have z9:∀q∈ps,S q.1/\S q.2:=λq hq=>hp q (aI _ hq);rw[jh,jh,cls,cls];rcases r.step cS s1 s2 xy nx ny with ⟨e1,e2⟩ |⟨r2,e2⟩
  .left;rw[<-e1];exact⟨rfl,@d⟩
  .rcases Xc.steps ps r2 (afH cS s1 s2) z9 o.tl with ⟨h1,h2⟩ |⟨h1,h2,h3⟩
   .exact .inl ⟨h1,@d⟩
   .exact .inr ⟨h1,@d,h3⟩
theorem aaz{S:T3->Prop}(h:∀e∈lR n,S e)(w):∀p∈js n w,S p.1/\S p.2:=λp hp=>by
 have m:∀e∈es (js n w),S e:=λe he=>h e ((j9 n w).mem_iff.mp he);exact⟨m _ (pG.mpr ⟨p,hp,@ac⟩),m _ (pG.mpr ⟨p,hp,.inr rfl⟩)⟩
theorem Tg(n)(g):i6 n (lp g)=lp (i6 n g):=by
 induction n with
 |zero=>rfl
 |succ n ih=>rw[i6,i6,ih]
theorem TF:∀{ps:Pr T3} {f:T3->T3},Ok f ps->∀{e:T3},jh f ps e≠e->e∉es ps/\f e≠e
 |[],f,_,e,h=>⟨@bs,h⟩
 | p::ps,f,o,e,h=>by
  obtain⟨h1,h2⟩:=TF o.tl (e:=e) h;have iv:=o.iv;refine⟨λz=>?_,λz=>h2 ?_⟩
  .rw[es] at z;rcases List.mem_cons.mp z with z |z
   .exact h2 (by rw[z];exact PU)
   .rcases List.mem_cons.mp z with z |z
    .exact h2 (by rw[z];exact PT)
    .exact h1 z
  .have i1:e=f p.1->e=p.1:=λw=>by rw[<-z,w,iv]
   have i2:e=f p.2->e=p.2:=λw=>by rw[<-z,w,iv]
   unfold jn
   grind
theorem Zl(qs):∀(ps:@ae) {f f':T3->T3} (g:Fn),Xc S f f'->(∀e,S e->S (f e))->(∀p∈ps,∀e∈lR p.1,S e)->Dm f ((ps++qs).map @n)->(∀e,S e->f e≠e->∃p∈ps,e∈lR p.1)->Br f (ps++qs) g=Br f' (ps++qs) (lp g)
 |[],f,f',g,r,_,_,_,c=>by
  obtain⟨a,b,r⟩:=r;obtain⟨p,hp,_⟩:=c b r.sb r.nb;cases hp
 | p :: ps,f,f',g,r,cS,hS,d,c=>by
  have st:∀(w:Bool) (h:Int),Br (jh f @aK) (ps++qs) (i6 (cls f @aK) (sh h g))=Br (jh f' @aK) (ps++qs) (i6 (cls f' @aK) (sh h (lp g))):=λw h=>by
   have ok:=Dm.ok (n:=p.1) (ns:=(ps++qs).map @n) d w;rcases r.steps @aK cS (aaz (hS p @f) w) ok with ⟨e1,e2⟩ |⟨r2,e2,cS2⟩
   .rw[<-e1,e2,BS,show i6 1 (sh h g)=lp (sh h g) from rfl,Th]
   .rw[Zl qs ps _ r2 cS2 (λq hq=>hS q (aI _ hq)) (Dm.step (n:=p.1) (ns:=(ps++qs).map @n) d w) λe he ne=>?_,e2]
    .rw[<-Th,Tg]
    .rcases TF ok ne with ⟨n1,n2⟩
     obtain⟨q,hq,hqe⟩:=c e he n2;rcases List.mem_cons.mp hq with rfl |hq
     .exact absurd ((j9 q.1 w).mem_iff.mpr hqe) n1
     .exact⟨q,hq,hqe⟩
  show Br _ (ps++qs) _+Br _ (ps++qs) _=Br _ (ps++qs) _+Br _ (ps++qs) _;rw[st false p.2,st true (-p.2)]
end J
end K2
end
section
namespace K2
open Enc (enc)
namespace JT
open K2.P K2.J K2.JB K2.JG
theorem ET{α:Type}(X Y)(x y:α):((X++[x])++(Y++[y])).Perm (x::y::(X++Y)):=by
 refine(lj bY bY).trans ?_;exact .cons x List.perm_middle
theorem B0(X)(a x:α):wN (X++[a]++[x])=wN (X++[a])++[(a,x)]:=by
 rw[aS];exact zh X a [x]
theorem XX(hS:S≠[])(hR:R≠[]):∃(sl s0 rl r0:T3) (l:@bk),(sl∈S/\s0∈S/\rl∈R/\r0∈R)/\(Au S++Au R).Perm ((sl,s0)::(rl,r0)::l)/\(Au (S++R)).Perm ((sl,r0)::(rl,s0)::l):=by
 obtain⟨s0,S',rfl⟩:=KZ hS;obtain⟨r0,R',rfl⟩:=KZ hR;obtain⟨S1,sl,e1⟩:∃X a,s0::S'=X++[a]:=⟨_,_,(HS hS).symm⟩;obtain⟨R1,rl,e2⟩:∃X a,r0::R'=X++[a]:=⟨_,_,(HS hR).symm⟩;have c1:Au (s0::S')=wN (S1++[sl])++[(sl,s0)]:=by
  show wN (s0::S'++[s0])=_;rw[e1];exact B0 _ _ _
 have c2:Au (r0::R')=wN (R1++[rl])++[(rl,r0)]:=by
  show wN (r0::R'++[r0])=_;rw[e2];exact B0 _ _ _
 have c3:Au (s0::S'++r0::R')=(wN (S1++[sl])++[(sl,r0)])++(wN (R1++[rl])++[(rl,s0)]):=by
  show wN (s0::S'++r0::R'++[s0])=_;rw[aS,ay (a:=r0),zh (s0::S') r0 (R'++[s0]),<-ay,e1,e2,B0,B0]
 refine⟨sl,s0,rl,r0,wN (S1++[sl])++wN (R1++[rl]),⟨by rw[e1];simp,@K,by rw[e2];simp,@K⟩,?_,?_⟩
 .rw[c1,c2];exact ET _ _ _ _
 .rw[c3];exact ET _ _ _ _
theorem adC{a a' b b':T3}{L:Pr T3}{S:T3->Prop}(nd:(es ((b,b')::(a,a')::L)).Nodup)(h1:¬ S a)(h2:¬ S a')(h3:S b)(h4:S b'):J.Ex S (pt ((b,b')::(a,a')::L)) (pt ((b,a')::(a,b')::L)) a b:=by
 have iv:=IF nd;obtain⟨fb,fb'⟩:=pD nd (p:=(b,b')) @f;obtain⟨fa,fa'⟩:=pD nd (p:=(a,a')) @f;simp only at fa fb fa' fb';have n:b≠b'/\b≠a/\b≠a'/\b'≠a/\b'≠a'/\a≠a':=by
  simp only[es,aT,bF,not_or] at nd;exact⟨nd.1.1,nd.1.2.1,nd.1.2.2.1,nd.2.1.1,nd.2.1.2.1,nd.2.2.1.1⟩
 obtain⟨n1,n2,n3,n4,n5,n6⟩:=n;refine⟨iv,h1,by rw[fa];exact h2,h3,by rw[fb];exact h4,by rw[fa];exact n6.symm,by rw[fb];exact n1.symm,?_,?_,?_,?_,?_⟩
 .rw[fb];simp only[pt];grind
 .rw[fb];simp only[pt];grind
 .rw[fa];simp only[pt];grind
 .rw[fa];simp only[pt];grind
 .intro e i1 i2 i3 i4;rw[fa] at i2;rw[fb] at i4;simp only[pt];grind
noncomputable def Bp(R1 R2 S1 S2:Rows)(r s:@r)(k v:Nat):Rows:=(R1++(@ao++(@b4)++@an)::R2)++(S1++S2)
variable {R1 R2 S1 S2:Rows} {r s:@r} {k v:Nat}
theorem qV(r:@r)(k):(@an++@ao).Perm r:=by
 refine List.perm_append_comm.trans ?_;rw[dJ]
theorem BM(r:@r)(k):(Au (@an++@ao)).Perm (Au r):=by
 refine(GW _ _).trans ?_;rw[dJ]
theorem Xz(S r:@r)(k):(Au (@ao++S++@an)).Perm (Au (S++(@an++@ao))):=by
 rw[aS,<-aS S];exact GW _ _
theorem xU:(@bD).flatten.Perm ((@ah).flatten++(@ak).flatten):=by
 unfold Bp;simp only[cM,cV];have h1:(@ao++(@b4)++@an).Perm (r++s):=by
  have e:(@ao++(@b4)++@an).Perm ((@b4)++(@ao++@an)):=by
   refine(dQ _ bY).trans ?_;rw[aS]
  rw[dJ] at e;exact e.trans ((dQ _ (qV s v)).trans bY)
 have h2:∀(X Y Z W:@r),(X++((r++s)++Y)++(Z++W)).Perm (X++(r++Y)++(Z++(s++W))):=λX Y Z W=>by
  have a:((r++s)++Y).Perm ((r++Y)++s):=by
   rw[aS,aS];exact .append_left _ bY
  have b:(s++(Z++W)).Perm (Z++(s++W)):=by
   rw[<-aS,<-aS];exact .append_right _ bY
  refine(dQ _ (wb _ a)).trans ?_;rw[<-aS X,aS (X++(r++Y))];exact .append_left _ b
 exact(dQ _ (wb _ (dQ _ h1))).trans (h2 _ _ _ _)
def Wg(R1 R2 S1 S2:Rows):@bk:=R1.flatMap Au++R2.flatMap Au++(S1.flatMap Au++S2.flatMap Au)
theorem M1:(pairsOf ((@ah)++(@ak))).Perm ((Au s++Au r)++Wg R1 R2 S1 S2):=by
 rw[iE];unfold Wg;simp only[me,cD];have m:∀(X Y Z:@bk),(X++(Y++Z)).Perm (Y++(X++Z)):=λX Y Z=>by
  rw[<-aS,<-aS];exact .append_right _ bY
 refine(lj (m _ _ _) (m _ _ _)).trans ?_;rw[aS];refine(wb _ (m _ _ _)).trans ?_;rw[<-aS];exact .append_right _ bY
theorem M5:(pairsOf (@bD)).Perm (Au ((@b4)++(@an++@ao))++Wg R1 R2 S1 S2):=by
 rw[iE];unfold Bp Wg;simp only[me,cD];have m:∀(X Y Z:@bk),(X++(Y++Z)).Perm (Y++(X++Z)):=λX Y Z=>by
  rw[<-aS,<-aS];exact .append_right _ bY
 refine(dQ _ (m _ _ _)).trans ?_;rw[aS];exact .append_right _ (Xz _ _ _)
theorem BL:@an++@ao=[]↔r=[]:=by
 have:=(qV r k).length_eq;rw[<-QJ,<-QJ,this]
theorem Tn(A B):lo (A++B)=lo A+lo B:=by unfold lo;rw[eK,aA]
theorem NG(r)(A):lo (r::A)=(if r=[] then 1 else 0)+lo A:=by
 unfold lo;cases r<;>simp<;>lia
theorem Zt(dA:Dr A)(dB:Dr B)(Oa:∀p∈B.flatten,¬ Nm A p.a)(g):Br (fr (A++B)) (AV A.flatten++AV B.flatten) (i6 (lo A+lo B) g)=brk A (Pf (brk B) g):=by
 have th:BJ (A++B)=BJ A++BJ B:=by
  unfold BJ HC;rw[iE,me,aC,<-iE,<-iE]
 have eB:∀e∈es (BJ B),¬ Nm A e.a:=λe he=>by
  obtain⟨p,hp,z⟩:=Co dB e he;rw[<-z];exact Oa p hp
 have fA:∀e,Nm A e.a->fr (A++B) e=fr A e:=λe he=>by
  unfold fr;rw[th];by_cases c:e∈es (BJ A)
  .exact Ni c
  .rw[yv c,qk c];exact qk λz=>eB e z he
 have fB:∀e,¬ Nm A e.a->fr (A++B) e=fr B e:=λe he=>by
  unfold fr;rw[th];exact yv λz=>he (Co dA e z)
 have cA:∀e,Nm A e.a->Nm A (fr A e).a:=λe he=>R6 (Co dA) he;have cB:∀e,¬ Nm A e.a->¬ Nm A (fr B e).a:=λe he=>R6 (S:=λa=>¬ Nm A a) eB he;have qB:∀p∈AV B.flatten,¬ Nm A p.1:=λp hp=>by
  obtain⟨q,hq,rfl⟩:=@cQ;exact Oa q (List.mem_filter.mp hq).1
 have rid:∀l:@ae,(l.map λp=>(p.1,p.2))=l:=λl=>@K
 have bA:∀k,Br (fr (A++B)) (AV A.flatten) k=Br (fr A) (nh A) k:=λk=>by
  have:=FN (S:=Nm A) (ν:=λa=>a) (λ_ _ _ _ z=>z) (AV A.flatten) (f:=fr A) (f':=fr (A++B)) k ⟨cA,λe he=>fA e he⟩ Nz;rw[rid] at this;rw[this,qx (ql dA) (by rw[xh];exact Fj dA)]
 have bB:∀k,Br (fr (A++B)) (AV B.flatten) k=Br (fr B) (nh B) k:=λk=>by
  have:=FN (S:=λa=>¬ Nm A a) (ν:=λa=>a) (λ_ _ _ _ z=>z) (AV B.flatten) (f:=fr B) (f':=fr (A++B)) k ⟨cB,λe he=>fB e he⟩ qB;rw[rid] at this;rw[this,qx (ql dB) (by rw[xh];exact Fj dB)]
 have c1:∀e,Nm A e.a->Nm A (fr (A++B) e).a:=λe he=>by rw[fA e he];exact cA e he
 have c2:∀e,¬ Nm A e.a->¬ Nm A (fr (A++B) e).a:=λe he=>by rw[fB e he];exact cB e he
 have eP:Pf (Br (fr (A++B)) (AV B.flatten))=Pf (Br (fr B) (nh B)):=by
  funext k i;exact bB _
 unfold brk;rw[Vi (S:=Nm A) (AV B.flatten) qB (AV A.flatten) _ c1 c2 Nz,eP,bA,BS,U3];congr 2;funext i;show Br (fr B) (nh B) (sh i (i6 (lo B) g))=Br (fr B) (nh B) (i6 (lo B) (sh i g));rw[zY]
theorem Nu(d:Dr A):Dr [A.flatten]:=JE.Dr.perm d (by rw[gj]) (qF (cI _))
theorem Zx(dA:Dr (@ah))(dB:Dr (@ak))(Oa:∀p∈(@ak).flatten,¬ Nm (@ah) p.a)(hs:(@ah).length+(@ak).length<=4)(hf:(@ah).flatten.length+(@ak).flatten.length<=24):Dr (@bD):=by
 have h:=aa8 (Nu dA) (Nu dB) (λp hp z=>by
  rw[gj] at hp;refine Oa p hp ?_;obtain⟨q,hq,e⟩:=z;rw[gj] at hq;exact⟨q,hq,e⟩) (Cf 2) (by rw[gj,gj];exact hf)
 refine JE.Dr.perm h (xU.trans ?_) ?_
 .show List.Perm _ ([(@ah).flatten]++[(@ak).flatten]).flatten;rw[cM (L₁:=[(@ah).flatten]),gj,gj]
 .unfold Bp;simp only[aA,ag] at hs ⊢;lia
theorem V7(dA:Dr (@ah))(dB:Dr (@ak))(Oa:∀p∈(@ak).flatten,¬ Nm (@ah) p.a)(dT:Dr (@bD))(g):brk (@bD) (lp g)=brk (@ah) (Pf (brk (@ak)) g):=by
 have fl:(@bD).flatten.Perm ((@ah)++(@ak)).flatten:=by
  rw[cM];exact xU
 have nd2:Nds ((@ah)++(@ak)):=(fl.map T3.s).nodup_iff.mp dT.nd;have n2:=aap nd2;have nT:=zK dT;have pn:(nh (@bD)).Perm (AV (@ak).flatten++AV (@ah).flatten):=by
  refine(ql dT).trans ((IV xU).trans ?_);unfold AV;rw[eK,aC];exact bY
 have dmT:Dm (fr (@bD)) ((nh (@bD)).map @n):=by rw[xh];exact Fj dT
 rw[<-Zt dA dB Oa];by_cases c:r=[]\/s=[]
 .have hp:(pairsOf (@bD)).Perm (pairsOf ((@ah)++(@ak))):=by
   refine M5.trans (VT ?_ M1.symm);refine .append_right _ ?_;rcases c with rfl |rfl
   .simp only[qR,qQ,bE];show(Au (@b4)).Perm (Au s++[]);rw[bE];exact BM _ _
   .simp only[qR,qQ,aG];show(Au (@an++@ao)).Perm ([]++Au r);rw[aG];exact BM _ _
  have ef:fr (@bD)=fr ((@ah)++(@ak)):=JE.Nh hp nT;have el:lo (@ah)+lo (@ak)=lo (@bD)+1:=by
   unfold Bp;simp only[Tn,NG];have z:(@ao++(@b4)++@an=[])↔(r=[]/\s=[]):=by
    rw[Rb,Rb,BL];constructor
    .rintro⟨⟨a,b⟩,d⟩;refine⟨?_,b⟩;rw[<-dJ k r,a,d];rfl
    .rintro⟨rfl,rfl⟩;simp
   by_cases cr:r=[]
   .by_cases cs:s=[]
    .rw[if_pos cr,if_pos cs,if_pos (z.mpr ⟨cr,cs⟩)];lia
    .rw[if_pos cr,if_neg cs,if_neg λw=>cs (z.mp w).2];lia
   .have cs:s=[]:=c.resolve_left cr;rw[if_neg cr,if_pos cs,if_neg λw=>cr (z.mp w).1];lia
  unfold brk;rw[el,qx (pn.trans bY) dmT,ef,BS];rfl
 .rw[not_or] at c;obtain⟨sl,s0,rl,r0,l,⟨m1,m2,m3,m4⟩,h1,h2⟩:=XX (S:=@b4) (R:=@an++@ao) (λz=>c.2 (BL.mp z)) (λz=>c.1 (BL.mp z));have nP:(pairsOf ((@ah)++(@ak))).Perm ((sl,s0)::(rl,r0)::(l++Wg R1 R2 S1 S2)) :=
   M1.trans ((dQ _ ((lj (BM s v) (BM r k)).symm.trans h1)))
  have hpT:(pairsOf (@bD)).Perm ((sl,r0)::(rl,s0)::(l++Wg R1 R2 S1 S2)):=M5.trans (dQ _ h2);have e2:fr ((@ah)++(@ak))=pt (HC ((sl,s0)::(rl,r0)::(l++Wg R1 R2 S1 S2))):=JE.Nh nP n2;have eT:fr (@bD)=pt (HC ((sl,r0)::(rl,s0)::(l++Wg R1 R2 S1 S2))):=JE.Nh hpT nT;have n2':(es (HC ((sl,s0)::(rl,r0)::(l++Wg R1 R2 S1 S2)))).Nodup:=(qt (nP.map λp:T3×T3=>(eO p.1.s,eI p.2.s))).nodup_iff.mp n2;have inA:∀{x:T3},x∈@an++@ao->x∈(@ah).flatten:=λh=>List.mem_flatten.mpr ⟨r,@K,(qV r k).mem_iff.mp h⟩;have inB:∀{x:T3},x∈@b4->x∈(@ak).flatten:=λh=>List.mem_flatten.mpr ⟨s,@K,(qV s v).mem_iff.mp h⟩;have aa4:∀{x:T3},x∈(@ah).flatten->¬ Nm (@ak) x.a:=λ{x} hx z=>by
   obtain⟨q,hq,e⟩:=z;exact Oa q hq ⟨x,hx,e.symm⟩
  have ex:J.Ex (λe=>Nm (@ak) e.a) (fr ((@ah)++(@ak))) (fr (@bD)) (eO rl.s) (eO sl.s):=by
   rw[e2,eT];exact adC n2' (aa4 (x:=rl) (inA m3)) (aa4 (x:=r0) (inA m4)) ⟨sl,inB m1,rfl⟩ ⟨s0,inB m2,rfl⟩
  have th:BJ ((@ah)++(@ak))=BJ (@ah)++BJ (@ak):=by
   unfold BJ HC;rw[iE,me,aC,<-iE,<-iE]
  have fB:∀e:T3,Nm (@ak) e.a->fr ((@ah)++(@ak)) e=fr (@ak) e:=λe he=>by
   unfold fr;rw[th];refine yv λz=>?_;obtain⟨p,hp,w⟩:=Co dA e z;exact aa4 hp (by rw[w];exact he)
  have dm2:Dm (fr ((@ah)++(@ak))) ((AV (@ak).flatten++AV (@ah).flatten).map @n):=by
   have dT':=dmT.perm (pn.map @n);refine⟨IF n2,dT'.nd,λn hn e he=>(sy n2).mpr ?_⟩;have m:=(sy nT).mp (dT'.dm n hn e he);have q2:=(qt (nP.map λp:T3×T3=>(eO p.1.s,eI p.2.s))).mem_iff (a:=e);have qT:=(qt (hpT.map λp:T3×T3=>(eO p.1.s,eI p.2.s))).mem_iff (a:=e);refine q2.mpr ?_;have:=qT.mp m;simp only[ak,es,bF] at this ⊢
   grind
  have bx:=Zl (S:=λe=>Nm (@ak) e.a) (AV (@ah).flatten) (AV (@ak).flatten) (i6 (lo (@bD)) g) ⟨_,_,ex⟩ (λe he=>by rw[fB e he];exact R6 (Co dB) he) (λp hp e he=>by rw[sU he];exact Nz p hp) dm2 (λe he ne=>by
   rw[fB e he] at ne;obtain⟨n,hn,pX⟩:=(FY dB e).mp ((sy (zK dB)).mp ne);rw[<-xh,((ql dB).map @n).mem_iff] at hn;obtain⟨p,hp,rfl⟩:=List.mem_map.mp hn;exact⟨p,hp,pX⟩)
  have el:lo (@ah)+lo (@ak)=lo (@bD):=by
   unfold Bp;simp only[Tn,NG];rw[if_neg c.1,if_neg c.2,if_neg (λw=>c.2 (BL.mp (List.append_eq_nil_iff.mp (List.append_eq_nil_iff.mp w).1).2))];lia
  rw[el,qx bY (dm2.perm (by rw[aC,aC];exact bY)),bx];unfold brk;rw[qx pn dmT,Tg]
end JT
end K2
end
section
namespace K2
open PySem (Str)
open Enc (enc)
namespace Mo
open K2.P
def rn(kv:@ae)(n:Int):Int:=(cN kv n).getD n
def rs(kv:@ae)(s:T2):T2:=if s.b=2 then s else ⟨rn kv s.a,s.b⟩
theorem mg_{kv:@ae}{G:Gp}{d:D}{n:Int}{Q:DK}(h:zA G d kv)(q:Q (.int (rn kv n)) G):C4 d [.int n,.int n] G Q:=NC (e:=n) h q
theorem Y6(s:T2):(enc s:D)=.tup [.int s.a,.int s.b]:=rfl
def tx:gq :=
 (bJ (d6 (fI (aN @bI (aN fQ @j @E) @a8)) (bK (b8 @j)) cj)
 (bK (b8 (eQ (aq (mi Rl C4 @m (aq (aN fQ @j @H) (aq (aN fQ @j @H) aK))) (aq (aN fQ @j @E) aK))))))
def gG:iS:=λds G Q _=>∃(s:T2) (d:D) (kv:@ae),ds=[enc s,d]/\zA G d kv/\Q (enc (rs kv s)) G
theorem tT(ds)(G)(Q)(h:gG ds G Q @z):tx @q @F (aP 2 ds) G:=by
 obtain⟨s,d,kv,rfl,hd,q⟩:=h;unfold tx;rw[yf];simp only[d6,aP,Y6,ak,aM,ag,av,ay,aG,bK,b8,ar,aa,ends,cj,eQ,aq,mi,ae,aN,dC,aK,dS,HK,VH,b7];refine Gd (α:=Int) @t ?_;unfold rs at q;by_cases hb:s.b=2
 .rw[if_pos hb] at q;simp only[aj,hb,decide_true,aW,if_false,aY,if_true];rw[Y6,hb] at q;exact bW q
 .rw[if_neg hb] at q;simp only[aj,hb,decide_false,bG,if_false,aY];exact⟨FV hd,mg_ hd ⟨@g,bW q⟩⟩
end Mo
namespace Mo
open K2.P
open K2.Hw (gK)
open K2.D4 (ZJ)
def RoR(r x:@r):Prop:=∃k,k<=r.length/\x=ZJ r k
structure FJ(rows:Rows):Prop where
 nd:(@c0).Nodup
 way:∀p∈rows.flatten,p.b=0\/p.b=1
theorem _root_.Internal.K2.Dr.dn(d:@Z):FJ rows:=⟨d.nd,d.way⟩
def pr1(s:T2)(ps:@r)(p:T3):@r:=if p.s=s then p::ps else [p]
def Ge(s:T2)(ps:@r)(k:Nat)(r:@r):@r:=(if s=⟨k,2⟩ then ps else [])++r.flatMap (pr1 s ps)
noncomputable def Gf(s:T2)(ps:@r):Rows->Nat->Rows
 |[],_=>[]
 |r::rs,k=>Ge s ps k r::Gf s ps rs (k+1)
theorem CI(s)(ps):∀(a b:Rows) (k:Nat),Gf s ps (a++b) k=Gf s ps a k++Gf s ps b (k+a.length)
 |[],b,k=>by simp[Gf]
 |r::a,b,k=>by
  rw[ay,Gf,Gf,CI s ps a b (k+1),ay,ag];congr 3;lia
theorem vX:∀{r:@r},(∀p∈r,p.s≠s)->r.flatMap (pr1 s ps)=r
 |[],_=>rfl
 |a::r,h=>by
  rw[cD,vX λp hp=>h p (aI _ hp)];unfold pr1;rw[if_neg (h a br)];rfl
theorem qW:∀{R:Rows} {k:Nat},(∀p∈R.flatten,p.s≠s)->(∀j:Nat,k<=j->j<k+R.length->s≠⟨j,2⟩)->Gf s ps R k=R
 |[],k,_,_=>rfl
 |r::R,k,h,h2=>by
  rw[Gf,qW (λp hp=>h p (by rw[cV];exact cH _ hp)) (λj h3 h4=>h2 j @c (by rw[ag];lia))];unfold Ge;rw[if_neg (h2 k @J (by rw[ag];lia)),aG,vX λp hp=>h p (by rw[cV];exact fT _ hp)]
inductive Spl (rows:Rows) (s:T2):Prop
 |at (R1 R2:Rows) (A B:@r) (x:T3) (e:rows=R1++(A++x::B)::R2) (hs:x.s=s)
 |mt (R1 R2:Rows) (e:rows=R1++[]::R2) (hs:s=⟨@bt,2⟩)
theorem RC:∀{rows:Rows} {k:Nat},s∈bI rows k->(∃R1 R2 A B x,rows=R1++(A++x::B)::R2/\x.s=s)\/∃R1 R2:Rows,rows=R1++[]::R2/\s=⟨((k+R1.length:Nat):Int),2⟩
 |[],_,h=>@aS
 | r::rs,k,h=>by
  rw[bI] at h;rcases List.mem_append.mp h with h |h
  .unfold bN at h;split at h
   .rename_i e;rw[cz] at h;exact .inr ⟨[],rs,by rw[e];rfl,h⟩
   .obtain⟨x,hx,e⟩:=List.mem_map.mp h;obtain⟨A,B,e2⟩:=t7 hx;exact .inl ⟨[],rs,A,B,x,by rw[e2];rfl,e⟩
  .rcases RC h with ⟨R1,R2,A,B,x,e,e2⟩ |⟨R1,R2,e,e2⟩
   .exact .inl ⟨r::R1,R2,A,B,x,by rw[e];rfl,e2⟩
   .exact .inr ⟨r::R1,R2,by rw[e];rfl,by rw[e2,ag];congr 2;lia⟩
theorem spl(h:s∈@bp):Spl rows s:=by
 rcases RC h with ⟨R1,R2,A,B,x,e,e2⟩ |⟨R1,R2,e,e2⟩
 .exact .at R1 R2 A B x e e2
 .exact .mt R1 R2 e (by rw[e2,mD])
theorem s_b(p:T3):p.s.b=p.b:=rfl
theorem FJ.no2(d:FJ rows)(h:@cP)(j):p.s≠⟨j,2⟩:=λe=>by
 have:=congrArg T2.b e;rw[s_b] at this;have h2:p.b=2:=this;rcases d.way p h with h |h<;>lia
theorem mR(R1 R2)(r:@r):(@ah).flatten=R1.flatten++(r++R2.flatten):=by rw[cM,cV]
theorem CH(d:FJ (R1++(A++x::B)::R2)):Gf x.s ps (R1++(A++x::B)::R2) 0=R1++(A++x::(ps++B))::R2:=by
 have nd:=d.nd;rw[mR] at nd;simp only[aC,ak,aS,ay] at nd;have nd1:=List.nodup_append.mp nd;have nd2:=List.nodup_append.mp nd1.2.1;have nd3:=List.nodup_cons.mp nd2.2.1;have hx:x∈(R1++(A++x::B)::R2).flatten:=by rw[mR];simp
 have h1:∀p∈R1.flatten,p.s≠x.s:=λp hp e=>nd1.2.2 _ (List.mem_map.mpr ⟨p,hp,e⟩) _ @f rfl;have h2:∀p∈A,p.s≠x.s:=λp hp e=>nd2.2.2 _ (List.mem_map.mpr ⟨p,hp,e⟩) _ @f rfl;have h3:∀p∈B,p.s≠x.s:=λp hp e=>nd3.1 (fT _ (List.mem_map.mpr ⟨p,hp,e⟩));have h4:∀p∈R2.flatten,p.s≠x.s:=λp hp e=>nd3.1 (cH _ (List.mem_map.mpr ⟨p,hp,e⟩));rw[CI,Gf,qW h1 λj _ _=>d.no2 hx _,qW h4 λj _ _=>d.no2 hx _];congr 2;unfold Ge;rw[if_neg (d.no2 hx _),aG,me,cD,vX h2,vX h3];congr 1;unfold pr1;rw[if_pos rfl];rfl
theorem CG(d:FJ (R1++[]::R2)):Gf ⟨@bt,2⟩ ps (R1++[]::R2) 0=R1++ps::R2:=by
 have h1:∀p∈R1.flatten,p.s≠⟨@bt,2⟩:=λp hp=>d.no2 (by rw[mR];simp[hp]) _;have h4:∀p∈R2.flatten,p.s≠⟨@bt,2⟩:=λp hp=>d.no2 (by rw[mR];simp[hp]) _;have ne:∀j:Nat,j≠R1.length->(⟨@bt,2⟩:T2)≠⟨(j:Nat),2⟩:=λj hj e=>by
  have:=congrArg T2.a e;simp only at this;lia
 rw[CI,Gf,qW h1 λj _ hj=>ne j @c,qW h4 λj hj _=>ne j @c];congr 2;unfold Ge;rw[if_pos (by rw[mD])];simp
theorem Ii(h:s∈bN r @bt)(hn:∀p∈R1.zipIdx 0,s∉bN p.1 (p.2:Int)):xZ (@ah) s=R1.length:=by
 unfold xZ;rw[t6,oM];have:(List.zipIdx R1 0).find? (λp=>decide (s∈bN p.1 (p.2:Int)))=none:=List.find?_eq_none.mpr λp hp=>by simpa using hn p hp
 rw[this,Option.none_or,qc,dZ];have h':s∈bN r ((0+R1.length:Nat):Int):=by rw[mD];exact h
 simp only[h',decide_true];simp
theorem Rf{R:Rows}(h:p∈R.zipIdx 0):p.1∈R/\p.2<R.length:=by
 obtain⟨i,hi⟩:=hZ h;rw[VS] at hi;obtain⟨r,hr,e⟩:=Option.map_eq_some_iff.mp hi;subst e;exact⟨cp hr,by have:=(List.getElem?_eq_some_iff.mp hr).1;ext p⟩
theorem xY(d:FJ (R1++(A++x::B)::R2)):xZ (R1++(A++x::B)::R2) x.s=R1.length:=by
 have hx:x∈(R1++(A++x::B)::R2).flatten:=by rw[mR];simp
 refine Ii (by unfold bN;rw[if_neg @f];simp) λp hp=>?_;obtain⟨h1,h2⟩:=Rf hp;unfold bN;split
 .rw[cz];exact d.no2 hx _
 .intro z;obtain⟨y,hy,e⟩:=@cT;have nd:=d.nd;rw[mR,aC] at nd;exact(List.nodup_append.mp nd).2.2 _ (List.mem_map.mpr ⟨y,List.mem_flatten.mpr ⟨_,h1,hy⟩,e⟩) _ @f rfl
theorem xX(d:FJ (R1++[]::R2)):xZ (R1++[]::R2) ⟨@bt,2⟩=R1.length:=by
 refine Ii (by unfold bN;rw[if_pos rfl];simp) λp hp=>?_;obtain⟨h1,h2⟩:=Rf hp;unfold bN;split
 .rw[cz];intro e;have:=congrArg T2.a e;simp only at this;lia
 .intro z;obtain⟨y,hy,e⟩:=@cT;exact d.no2 (by rw[mR];exact fT _ (List.mem_flatten.mpr ⟨_,h1,hy⟩)) _ e
end Mo
namespace Mo
open K2.P
open K2.Hw (gK)
open K2.D4 (ZJ)
theorem FJ.row(d:FJ rows)(h:r∈rows):(r.map T3.s).Nodup:=by
 obtain⟨A,B,rfl⟩:=t7 h;have:=d.nd;rw[mR,aC,aC] at this;exact(List.nodup_append.mp (List.nodup_append.mp this).2.1).1
noncomputable def flt(ns:@D)(rows:Rows):Rows:=rows.map (List.filter λp=>!decide (p.a∈ns))
end Mo
namespace Mo
open K2.P hiding iw uR vE
open K2.Hw (gK)
open K2.Oz (HR)
open K2.Yh (fC)
theorem XI:∀{a a' b b':@e},zr G R a a'->zr G R b b'->zr G R (a++b) (a'++b'):=by
 intro a a' b b' h1 h2;induction a generalizing a' with
 |nil=>cases h1;exact h2
 |cons x a ih=>cases h1 with |cons h t=>exact .cons h (ih t)
theorem z8{α:Type} [@Q] [@ab]{xs:@o}{x:α}{G:Gp}{Q:DK}(hd:Enc.dep α<=7)(h:x∈xs)(q:Q (.int ((xs.idxOf x:Nat):Int)) G):sH (enc xs) [enc x] G Q:=by
 refine⟨trivial,xs.map enc,enc x,xs.map enc,rfl,Enc.sn _ _ _ (by unfold SN;lia),uL G 7 hd xs,?_⟩;rw[JM xs h];exact q
theorem sF{α:Type}{R1 R2:@o}{r:α}{f:α->D}:rN ((@ah).map f) (@bt:Int)=some (f r):=by
 rw[qw _ @c (by rw[au];simp;lia)];simp
theorem mM(h:s∈@bp):∃p∈rows.zipIdx 0,s∈bN p.1 (p.2:Int):=by
 cases spl h with
 | «at» R1 R2 A B x e hx=>
  subst e hx;refine⟨(A++x::B,R1.length),by rw[t6,qc];simp,?_⟩;unfold bN;rw[if_neg @f];simp
 |mt R1 R2 e hx=>
  subst e hx;refine⟨([],R1.length),by rw[t6,qc];simp,?_⟩;unfold bN;rw[if_pos rfl];simp
theorem O8(d:FJ rows)(h:s∈@bp):∃(R1 R2:Rows) (r:@r) (k:Nat),rows=@ah/\xZ rows s=R1.length/\s∈bN r @bt/\(bN r @bt).idxOf s=k/\k<=r.length/\∀ps,Gf s ps rows 0=R1++(r.take (k+1)++ps++r.drop (k+1))::R2:=by
 cases spl h with
 | «at» R1 R2 A B x e hx=>
  subst e hx;have hi:(bN (A++x::B) @bt).idxOf x.s=A.length:=by
   have nd:=d.row (r:=A++x::B) @f;have hn:x.s∉A.map T3.s:=λz=>by
    rw[aC,cU] at nd;exact nd.2.2 _ z _ br rfl
   unfold bN;rw[if_neg @f,aC,List.idxOf_append,if_neg hn,ak,VR];simp
  refine⟨R1,R2,A++x::B,A.length,rfl,xY d,by unfold bN;rw[if_neg @f];simp,hi,@K,λps=>?_⟩;rw[CH d];have e:A++x::B=(A++[x])++B:=@K
  have hl:A.length+1=(A++[x]).length:=@K
  rw[e,hl,MV,ud];simp
 |mt R1 R2 e hx=>
  subst e hx;refine⟨R1,R2,[],0,rfl,xX d,by unfold bN;rw[if_pos rfl];simp,by unfold bN;rw[if_pos rfl];simp,aH _,λps=>?_⟩;rw[CG d];simp
theorem ab4(n d i:Nat):kI n d (some @ay)=min i n:=by
 show(if(@ay<0) then(@ay+(n:Int)).toNat else min (i:Int).toNat n)=_;rw[if_neg @c];simp
theorem mJ(xs:@o)(i:Nat):cut xs none (some @ay)=xs.take i:=by
 unfold cut;rw[ab4];show(xs.drop 0).take (min i xs.length-0)=_;rw[List.drop_zero,Nat.sub_zero];exact List.take_eq_take_iff.mpr @c
theorem kc(xs:@o)(i:Nat):cut xs (some @ay) none=xs.drop i:=by
 unfold cut;rw[ab4];show(xs.drop (min i xs.length)).take (xs.length-min i xs.length)=_;rw[xG (by rw[bP];lia)];by_cases h:i<=xs.length
 .rw[nq h]
 .rw[Nat.min_eq_right @c,Ra @c,Ra @c]
def AK:gq :=
 (bJ (bh (aR gP (aq @j (aq @m aK))) (aF 3))
 (bJ (bh (jw vq @aR) (aF 4))
 (bJ (bh (aN fk (mi D9 sH (aR jP (aq (aN fQ @R @O) (aq @O aK))) (aq @m aK)) @E) (aF 5))
 (bJ (bh (aN fk (aN fk (pI (aN fQ @R @O) cw (ib (ar 5))) @p) (pI (aN fQ @R @O) (ib (ar 5)) cw)) (iH @R @O))
 (bK (b8 @R))))))
def jO:iS:=λds G Q _=>∃(rows:Rows) (s:T2) (d:D) (ps:@r),ds=[enc rows,enc s,d]/\IsL G d (ps.map enc)/\(FJ rows/\s∈@bp/\rows.length<=500/\(∀r∈rows,r.length<=500)/\ps.length<=100)/\Q (enc (Gf s ps rows 0)) G
theorem Bg(ds)(G)(Q)(h:jO ds G Q @z):AK @q @F (aP 6 ds) G:=by
 obtain⟨rows,s,d,ps,rfl,hd,⟨dn,hs,hl,hr,hps⟩,q⟩:=h;obtain⟨R1,R2,r,k,e,es,hsr,hk,hkl,af2⟩:=O8 dn hs;rw[af2] at q;unfold AK;simp only[ends,aP,ak,aM,ag,av,aO,ay,aG,bZ,bh,aR,aq,ar,aa,ae,aK,aF,ao,ai,jw,aN,mi,dC,pI,cw,fj];refine⟨rows,s,rfl,⟨λr h=>by have:=hr r h;lia,mM hs⟩,?_⟩;rw[es];simp only[b8,aP,ends,b7,aN,HJ,ar,jw,mi,aq,aK,bK,zb,fK,bh,aF,dC,cj,eQ,eS,kC,kY,vn,A8,ly,jo,oF,kM,pI,fj,cw,c8,gL,aR,e7,cb,kJ,jm,jV,iD,jl,eD,fV,jU,kX,ou,jg,ow,dS,hV,lM,kW,lN,jZ,lS,kd,dP,gW,iG,fc,ip,j5,nZ,nY,true_and,and_true,mI,lQ,cY,aY,fH,kL,oC,lP,ak,aM,ay,aG,aa,ae,ai,ao,ag,av,aO,if_true,if_false,aW,bG,aj,bZ,jj];refine J4 (IsL.enc rows) λp4 hp4=>?_;have l1:=dI.new (o:=.lst (rows.map enc)) hp4;have g4:=ax (G:=G) (a:=p4) (o:=.lst (rows.map enc));generalize dw G p4 (.lst (rows.map enc))=G1 at l1 g4 ⊢;subst e;have hrl:=hr r @f;refine uY (.ref g4) sF ?_;refine⟨r,_,rfl,(show @cn by lia),?_⟩;refine⟨trivial,z8 @t hsr ?_⟩;rw[hk];simp only[cb,cY];have ek:((k:Nat):Int)+1=((k+1:Nat):Int):=@d
 rw[ek];refine uY (.ref g4) sF ?_;refine jz (IsL.enc r) λp1 VD=>?_;rw[mJ,<-iZ];have l2:=dI.new (o:=.lst ((r.take (k+1)).map enc)) VD;refine jB (.ref ax) (hd.mono (l1.trans l2)) (xW (by simp only[au,bO];lia)) λp2 nP=>?_;have l3:=dI.new (o:=.lst ((r.take (k+1)).map enc++ps.map enc)) nP;refine uY (.ref (l3 _ _ (l2 _ _ g4))) sF ?_;refine jz (IsL.enc r) λp3 Kx=>?_;rw[kc,<-i5];have l4:=dI.new (o:=.lst ((r.drop (k+1)).map enc)) Kx;refine jB (.ref (l4 _ _ ax)) (.ref ax) (xW (by simp only[aA,au,bO,bP];lia)) λp5 hp5=>?_;have e5:(r.take (k+1)).map enc++ps.map enc++(r.drop (k+1)).map enc=(r.take (k+1)++ps++r.drop (k+1)).map (enc (α:=T3)):=@K
 rw[e5];generalize r.take (k+1)++ps++r.drop (k+1)=r' at q ⊢;have l5:=dI.new (o:=.lst (r'.map enc)) hp5;have g5:=ax (G:=dw (dw (dw G1 p1 (.lst ((r.take (k+1)).map enc))) p2 (.lst ((r.take (k+1)).map enc++ps.map enc))) p3 (.lst ((r.drop (k+1)).map enc))) (a:=p5) (o:=.lst (r'.map enc));have l15:=((l2.trans l3).trans l4).trans l5;have pX:p5≠p4:=by
  ext c;rw[((l2.trans l3).trans l4) _ _ g4] at hp5;cases hp5
 have hf5:G p5=none:=(l1.trans ((l2.trans l3).trans l4)).free hp5;generalize dw (dw (dw (dw G1 p1 (.lst ((r.take (k+1)).map enc))) p2 (.lst ((r.take (k+1)).map enc++ps.map enc))) p3 (.lst ((r.drop (k+1)).map enc))) p5 (.lst (r'.map enc))=G5 at l15 g5 ⊢;simp only[iH,ar,ae,aa,bK,b8];unfold wC;simp only[l15 _ _ g4];have ei:Gx ((@ah).map (enc (α:=@r))).length (@bt:Int)=some R1.length:=by
  unfold Gx;rw[if_pos @c,if_pos (by rw[au];simp;lia)];simp
 simp only[ei];have e6:((@ah).map enc).set R1.length (.ref p5)=R1.map enc++D.ref p5::R2.map enc:=by
  rw[aC,ak];have:R1.length=(R1.map (enc (α:=@r))).length:=by rw[au]
  rw[this,Vo _ _ @J];simp
 rw[e6];have hle:dI G (dw G5 p4 (.lst (R1.map enc++D.ref p5::R2.map enc))):=(l1.trans l15).put hp4;have q':Q (.dc (R1.map enc++D.dc (r'.map enc)::R2.map enc)) G:=by
  have:(enc (R1++r'::R2):D)=.dc (R1.map enc++D.dc (r'.map enc)::R2.map enc):=by rw[UD,aC];rfl
  rw[<-this];exact q
 refine Ab hle hp4 ax (XI (zr.same _) (.cons (.ref ?_ ?_ (zr.same _)) (zr.same _))) q'
 .rw[cu pX];exact g5
 .simp[hf5]
end Mo
namespace K3
open K2.P K2.Oz
theorem w5:∀(rows:Rows) (k:Nat) (s:T2),s∈bI rows k↔∃p∈rows.zipIdx k,s∈bN p.1 (p.2:Int)
 |[],k,s=>by simp[bI]
 | r::rs,k,s=>by
  rw[bI,List.mem_append,w5 rs,qc];constructor
  .rintro(h |⟨p,h1,h2⟩)
   .exact⟨(r,k),br,h⟩
   .exact⟨p,aI _ h1,h2⟩
  .rintro⟨p,h1,h2⟩;rcases List.mem_cons.mp h1 with rfl |h1
   .exact .inl h2
   .exact .inr ⟨p,h1,h2⟩
end K3
namespace K29
open K2.P K2.Oz
open K2.K3
variable {rows:Rows}
noncomputable def tg{α:Type} [@Q](gs:List (@o))(x y:α):Bool:=gs.any λg=>decide (x∈g)&&decide (y∈g)
def iI:iS:=λds G Q E=>∃(rows:Rows) (s:T2),ds=[enc rows,enc s]/\(∀r∈rows,@cn)/\(s∈@bp->Q (.int (xZ rows s)) G)/\(s∉@bp->E ⟨"NoSpot",[]⟩ (λ_=>none))
def wF:gq :=
 (bJ (di (yQ @j) (gY (cq (aF 2) (cq (aF 3) gH))) (d6 (fI (aN (O7 false) @m (aR jP (aq @O (aq @p aK))))) (bK (b8 @p)) cj))
 (sW "NoSpot" (aq (dC (.str "the drawing has no such spot")) aK)))
theorem wQ(ds)(G)(Q)(E)(h:iI ds G Q E):wF E @F (aP 4 ds) G:=by
 obtain⟨rows,s,rfl,hr,q1,q2⟩:=h;unfold wF;refine cX (λτ G'=>s∉@bp) ?_ ?_
 .intro N hN;simp only[di,yQ,ar,aP,ak,aM,ag,av,aO,ay,aG,aa,ends];refine u7 ?_;rw[JQ];refine cT (xs:=rows.zipIdx 0) (λpre τ G'=>G=G'/\(∃a b,τ=[@aF,some (enc s),a,b])/\∀p∈pre,s∉bN p.1 (p.2:Int)) ⟨rfl,@al,(λ_ h=>@aS)⟩ @aA ?_ ?_
  .rintro pre x post τ G' N2 e ⟨rfl,⟨a,b,rfl⟩,hp⟩ kF;obtain⟨lf,rt,e1,e2,e3⟩:=r8 e;simp only[gY,cq,aF,gH,ao,ai,KC.TX,bK,b8,ar,ae,aa,cj,b7,aN,aR,aq,aK];refine⟨x.1,(x.2:Int),rfl,hr x.1 (by rw[e1];simp),?_⟩;refine Nd @t ?_;simp only[aj,if_false,aY];by_cases hx:s∈bN x.1 (x.2:Int)
   .simp only[hx,decide_true,if_true];have hs:s∈@bp:=(w5 rows 0 s).mpr ⟨x,@a6,hx⟩;have:xZ rows s=x.2:=by
     unfold xZ;have:(rows.zipIdx 0).find? (λp=>decide (s∈bN p.1 (p.2:Int)))=@aa:=by
      rw[e,oM];have:pre.find? (λp=>decide (s∈bN p.1 (p.2:Int)))=none:=by
       rw[fO];intro p h;simpa using hp p h
      rw[this];simp[hx]
     rw[this];rfl
    have q1:=q1 hs;rw[this] at q1;exact bW q1
   .simp only[hx,decide_false,aj,if_false];refine kF _ _ ⟨rfl,@al,λp h=>?_⟩;rcases List.mem_append.mp h with h |h
    .exact hp p h
    .rw[List.mem_singleton.mp h];exact hx
  .rintro τ G' ⟨rfl,_,hp⟩;refine hN _ _ λz=>?_;obtain⟨p,h1,h2⟩:=(w5 rows 0 s).mp z;exact hp p h1 h2
 .intro τ G' hs;unfold sW;simp only[aq,dC,aK,ag,av];exact⟨@g,q2 hs⟩
end K29
namespace JT
open K2.P K2.J K2.JB K2.JG
open K2.Mo (rs Gf FJ spl CH CG xY xX gG jO mJ kc z8 sF mM)
open K2.Hw (gK)
open K2.Yh (fC)
open K2.D4 (M Kn gI Nb fD eL)
open K2.Oz (HR)
open K2.K29 (iI)
open K2.KC (rh cR iF)
structure Wh(rows:Rows)(s:T2)(R1 R2:Rows)(r:@r)(k:Nat):Prop where
 e:rows=@ah
 h:(∃(P:@r) (x:T3) (Q:@r),r=P++x::Q/\x.s=s/\k=P.length+1)\/(r=[]/\s=⟨@bt,2⟩/\k=0)
theorem Yk(h:s∈@bp):∃R1 R2 r k,Wh rows s R1 R2 r k:=by
 cases spl h with
 | «at» R1 R2 A B x e hx=>exact⟨R1,R2,_,_,e,.inl ⟨A,x,B,rfl,hx,rfl⟩⟩
 |mt R1 R2 e hx=>exact⟨R1,R2,[],0,e,.inr ⟨rfl,hx,rfl⟩⟩
theorem RB(e:rows=@ah)(h:s∈bN r @bt):s∈@bp:=by
 rw[e,oZ,bI,mD];exact cH _ (fT _ h)
theorem Wh.on(w:Wh rows s R1 R2 r k):s∈bN r @bt:=by
 rcases w.h with ⟨P,x,Q,rfl,rfl,rfl⟩ |⟨rfl,rfl,rfl⟩
 .unfold bN;rw[if_neg @f];simp
 .unfold bN;rw[if_pos rfl];simp
theorem Wh.mem(w:Wh rows s R1 R2 r k):s∈@bp:=RB w.e w.on
theorem Wh.str(d:FJ rows)(w:Wh rows s R1 R2 r k):xZ rows s=R1.length:=by
 have e:=w.e;rcases w.h with ⟨P,x,Q,rfl,rfl,rfl⟩ |⟨rfl,rfl,rfl⟩
 .subst e;exact xY d
 .subst e;exact xX d
theorem Wh.put(d:FJ rows)(w:Wh rows s R1 R2 r k)(ps):Gf s ps rows 0=R1++(@ao++ps++@an)::R2:=by
 have e:=w.e;rcases w.h with ⟨P,x,Q,rfl,rfl,rfl⟩ |⟨rfl,rfl,rfl⟩
 .subst e;rw[CH d];have e:P++x::Q=(P++[x])++Q:=@K
  have hl:P.length+1=(P++[x]).length:=@K
  rw[e,hl,MV,ud];simp
 .subst e;rw[CG d];simp
theorem Wh.ix(d:FJ rows)(w:Wh rows s R1 R2 r k):r.drop ((bN r @bt).idxOf s+1)++r.take ((bN r @bt).idxOf s+1)=@an++@ao:=by
 have e:=w.e;rcases w.h with ⟨P,x,Q,rfl,rfl,rfl⟩ |⟨rfl,rfl,rfl⟩
 .have hi:(bN (P++x::Q) @bt).idxOf x.s=P.length:=by
   have nd:=d.row (r:=P++x::Q) (@a6);have hn:x.s∉P.map T3.s:=λz=>by
    rw[aC,cU] at nd;exact nd.2.2 _ z _ br rfl
   unfold bN;rw[if_neg @f,aC,List.idxOf_append,if_neg hn,ak,VR];simp
  rw[hi]
 .simp
theorem RP(m)(r)(k):gI m (@ao)=(gI m r).take k:=by unfold gI;rw[iZ]
theorem RQ(m)(r)(k):gI m (@an)=(gI m r).drop k:=by unfold gI;rw[i5]
theorem Wj(m)(r s):gI m (r++s)=gI m r++gI m s:=by unfold gI;rw[aC]
theorem Wh.gI(d:FJ rows)(kn:∀r∈rows,Kn m r)(w:Wh rows s R1 R2 r k):Wh (rows.map (gI m)) (rs m s) (R1.map (gI m)) (R2.map (gI m)) (gI m r) k:=by
 have e:=w.e;refine⟨@a6,?_⟩;rcases w.h with ⟨P,x,Q,rfl,rfl,rfl⟩ |⟨rfl,rfl,rfl⟩
 .left;refine⟨D4.gI m P,Nb m x,D4.gI m Q,by unfold D4.gI;simp,?_,by unfold D4.gI;rw[au]⟩;have hx:x∈rows.flatten:=@a6
  have hb:x.s.b≠2:=by
   have:=d.way x hx;show x.b≠2;lia
  obtain⟨v,hv⟩:=Option.isSome_iff_exists.mp (kn (P++x::Q) (@a6) x @f);unfold rs;rw[if_neg hb];unfold Nb Mo.rn;rw[show x.s.a=x.a from rfl,hv];rfl
 .right;refine⟨rfl,?_,rfl⟩;unfold rs;rw[if_pos rfl,au]
def w4(A B R1 R2 S1 S2:Rows)(r s:@r)(k v:Nat):Rows:=Bp (R1.map @bg) (R2.map @bg) (S1.map (gI @ap)) (S2.map (gI @ap)) (gI (mA A) r) (gI @ap s) k v
theorem FX(dA:Dr A)(dB:Dr B)(eA:A=@ah)(eB:B=@ak)(hs:@cF<=4)(hn:@ax+@bi<=12):Dr (@cl)/\∀g,brk (@cl) (lp g)=brk A (Pf (brk B) g):=by
 have tA:=Zi.twice dA;have tB:=Zi.twice dB;have iA:=LD dA 0;have iB:=LD dB @ax;have d1:=Nw dA iA;have d2:=Nw dB iB;have Oa:∀p∈(nu (Gk @ap) B).flatten,¬ Nm (nu (Gk (mA A)) A) p.a:=λp hp z=>by
  rw[vQ] at hp;obtain⟨q,hq,rfl⟩:=@cQ;obtain⟨y,hy,e⟩:=z;rw[vQ] at hy;obtain⟨x,hx,rfl⟩:=List.mem_map.mp hy;have a1:=yB (Gm dA 0 ⟨x,hx,rfl⟩);have a2:=yB (Gm dB @ax ⟨q,hq,rfl⟩);have e':Gk (iV (names A) 0) x.a=Gk (iV (names B) @ax) q.a:=e;simp only at a1 a2;lia
 have fA:(nu (Gk (mA A)) A).flatten.length=A.flatten.length:=by rw[vQ,au]
 have fB:(nu (Gk @ap) B).flatten.length=B.flatten.length:=by rw[vQ,au]
 have bA:∀g,brk (nu (Gk (mA A)) A) g=brk A g:=λg=>SO dA iA g;have bB:∀g,brk (nu (Gk @ap) B) g=brk B g:=λg=>SO dB iB g;have sA:nu (Gk (mA A)) A=R1.map @bg++gI (mA A) r::R2.map @bg:=by
  rw[<-Gj]
  conv=>lhs;arg 2;rw[eA]
  simp
 have sB:nu (Gk @ap) B=S1.map (gI @ap)++gI @ap s::S2.map (gI @ap):=by
  rw[<-Gj]
  conv=>lhs;arg 2;rw[eB]
  simp
 have lA:(nu (Gk (mA A)) A).length=A.length:=au _;have lB:(nu (Gk @ap) B).length=B.length:=au _;change Dr (nu (Gk (mA A)) A) at d1;change Dr (nu (Gk @ap) B) at d2;rw[sA] at d1 Oa fA lA bA;rw[sB] at d2 Oa fB lB bB;have dT:Dr (@cl):=Zx d1 d2 Oa (by rw[lA,lB];exact hs) (by rw[fA,fB];lia);refine⟨dT,λg=>?_⟩;refine(V7 d1 d2 Oa dT g).trans ?_;rw[bA];congr 1;funext i;exact bB _
def tE:gq :=
 (d6 (A8 (fI (aN Wo @j (dC (.int 3)))) (fI (aN Wo @m (dC (.int 12))))) (sW "TooMany" (aq (dC (.str "more strings or crossings than a drawing has")) aK)) cj)
def nE:iS:=λds G Q E=>∃a b:Int,ds=[.int a,.int b]/\((3<a\/12<b)->E ⟨"TooMany",[]⟩ (λ_=>none))/\(a<=3->b<=12->Q .fe G)
theorem BC(ds)(G)(Q)(E)(h:nE ds G Q E):tE E @F (aP 2 ds) G:=by
 obtain⟨a,b,rfl,q1,q2⟩:=h;unfold tE;by_cases c:3<a
 .simp![d6,A8,aN,ar,aP,dC,decide_eq_true c,ends,cj];unfold sW;simp![aq,dC,aK];exact⟨@g,q1 (.inl c)⟩
 .by_cases c2:12<b
  .simp![d6,A8,aN,ar,aP,dC,decide_eq_false c,ends,cj,decide_eq_true c2];unfold sW;simp![aq,dC,aK];exact⟨@g,q1 (.inr c2)⟩
  .simp![d6,A8,aN,ar,aP,dC,decide_eq_false c,ends,cj,decide_eq_false c2];exact q2 @c @c
def uN:gq :=
 (bJ (bh (aR gP (aq @j (aq @m aK))) (aF 2))
 (bJ (bh (aN fQ @j @p) (aF 3))
 (bJ (bh (aN fk (mi D9 sH (aR jP (aq @O (aq @p aK))) (aq @m aK)) @E) (aF 4))
 (bK (b8 (aN fk (pI @O (ib @R) cw) (pI @O cw (ib @R))))))))
def pb:iS:=λds G Q _=>∃(rows:Rows) (s:T2) (R1 R2:Rows) (r:@r) (k:Nat),ds=[enc rows,enc s]/\(@Z/\Wh rows s R1 R2 r k)/\Q (enc (@an++@ao)) G
theorem DU(ds)(G)(Q)(h:pb ds G Q @z):uN @q @F (aP 5 ds) G:=by
 obtain⟨rows,s,R1,R2,r,k,rfl,⟨d,w⟩,q⟩:=h;have rl:=k8 d;have hr:r.length<=24:=rl r (by rw[w.e];simp);rw[<-w.ix d.dn] at q;unfold uN;simp![bh,aR,aq,ar,aP,aO,aK,aF,aN,mi,dC,bK,b8,pI,cw,ends];refine⟨rows,s,rfl,⟨λr h=>by have:=rl r h;lia,mM w.mem⟩,?_⟩;rw[w.str d.dn];simp!;refine JE.gQ (i:=R1.length) (r:=r) (by rw[w.e];simp) ?_;refine⟨r,_,rfl,(show @cn by lia),?_⟩;refine⟨trivial,z8 @t w.on ?_⟩;simp only[↓cb,↓cY];generalize (bN r @bt).idxOf s=j at q;have ek:((j:Nat):Int)+1=((j+1:Nat):Int):=@d
 rw[ek];refine jz (IsL.enc r) λp1 VD=>?_;rw[kc,<-i5];refine jz (IsL.enc r) λp2 nP=>?_;rw[mJ,<-iZ];have l2:=dI.new (o:=.lst ((r.take (j+1)).map enc)) nP;refine jB (.ref (l2 _ _ ax)) (.ref ax) (xW (by simp only[au,bO,bP];lia)) λp3 Kx=>?_;rw[<-aC];exact fM (((dI.new VD).trans l2).trans (.new Kx)) (((dI.new VD).trans l2).free Kx) ax q
end JT
namespace JT
open K2.P K2.J K2.JB K2.JG
open K2.Mo (rs Gf FJ spl CH CG xY xX gG jO mJ kc z8 sF mM)
open K2.Hw (gK)
open K2.Yh (fC)
open K2.D4 (M Kn gI Nb fD eL)
open K2.Oz (HR)
open K2.K29 (iI)
open K2.KC (rh cR iF)
variable {A B R1 R2 S1 S2:Rows} {r s:@r} {k v:Nat} {a b:T2}
theorem Oi(xs:@o)(i:Nat):cut xs (some (@ay+1)) none=xs.drop (i+1):=by
 rw[show(i:Int)+1=((i+1:Nat):Int) by lia];exact kc _ _
theorem rest_eq(S1 S2)(s:@r):(@ak).take S1.length++(@ak).drop (S1.length+1)=S1++S2:=by
 rw[MV];congr 1;rw[show @ak=(S1++[s])++S2 by simp,show S1.length+1=(S1++[s]).length by simp,ud]
theorem aau(h:Kn m r)(s:∀p∈r',p∈r):Kn m r':=λp hp=>h p (s p hp)
def Nc:gq :=
 (bJ (bh (b8 (aR jf (aq @j (aq @H aK)))) (aF 4))
 (bJ (bh (b8 (aR jf (aq @p (aq (jw ja (aq @R aK)) aK)))) (aF 5))
 (bJ (fK (aR lI (aq (aN Lp (aN fk (jw ja @aR) (jw ja (aq @p aK))) @E) (aq (aN fk (jw ja (aq @R aK)) (jw ja (aq (ar 5) aK))) aK))))
 (bJ (fK (aR gP (aq @j (aq @m aK))))
 (bJ (bh (aR gP (aq @p (aq @O aK))) (aF 6))
 (bJ (bh (b8 (aR fD (aq (b8 (aR pb (aq @p (aq @O aK)))) (aq (b8 (ar 5)) aK)))) (aF 7))
 (bJ (bh (aR jO (aq (b8 (aR eL (aq (b8 @j) (aq (b8 @R) aK)))) (aq (b8 (aR gG (aq @m (aq @R aK)))) (aq (b8 (ar 7)) aK)))) (aF 8))
 (bJ (bh (aR eL (aq (b8 (aN fk (pI @p cw (ib (ar 6))) (pI @p (ib (aN fk (ar 6) @E)) cw))) (aq (b8 (ar 5)) aK))) (aF 9))
 (bK (b8 (aR fC (aq (b8 (aN fk (ar 8) (ar 9))) aK))))))))))))
def x9:iS:=λds G Q _=>∃(A B R1 R2 S1 S2:Rows) (r s:@r) (k v:Nat) (a b:T2),ds=[enc A,enc a,enc B,enc b]/\(Dr A/\Dr B/\Wh A a R1 R2 r k/\Wh B b S1 S2 s v/\@cF<=4/\@ax+@bi<=12)/\∀p as G',HR G G' p as ((@cl).map gK)->Q @aw G'
theorem Yg(ds)(G)(Q)(h:x9 ds G Q @z):Nc @q @F (aP 10 ds) G:=by
 obtain⟨A,B,R1,R2,S1,S2,r,s,k,v,a,b,rfl,⟨dA,dB,wA,wB,hs,hn⟩,q⟩:=h;have lA:=k8 dA;have lB:=k8 dB;have kA:∀r∈A,Kn (mA A) r:=λr hr=>Gu dA _ hr;have kB:∀r∈B,Kn @ap r:=λr hr=>Gu dB _ hr;have hsl:s.length<=24:=lB s (by rw[wB.e];simp);obtain⟨dT,_⟩:=FX (k:=k) (v:=v) dA dB wA.e wB.e hs hn;unfold Nc;simp![bh,b8,aR,aq,ar,aP,aO,dC,aK,aF,jw,fK,aN,pI,cw,bK,ends];refine⟨A,0,rfl,⟨dA,@d⟩,λp1 f1=>ie (.new f1) f1 ax ?_⟩;refine rM ⟨B,@ax,by rw[jW],⟨dB,@d⟩,λp2 f2=>ie (.new f2) f2 ax ?_⟩;refine JE.gS (JE.gS ?_);simp only[↓cb,↓iD];refine rM (rM ?_);simp only[↓cb];refine⟨_,_,rfl,⟨@d,by rw[jW,jW];lia⟩,?_⟩;refine⟨A,a,rfl,⟨λr h=>by have:=lA r h;lia,mM wA.mem⟩,?_⟩;refine⟨B,b,rfl,⟨λr h=>by have:=lB r h;lia,mM wB.mem⟩,?_⟩;rw[wB.str dB.dn];simp only[↓cY,↓cb];refine⟨B,b,S1,S2,s,v,rfl,⟨dB,wB⟩,bW (bW ?_)⟩;have rl:(@b4).length=s.length:=(qV s v).length_eq;refine⟨@b4,mB A B,rfl,⟨@d,aau (kB s (by rw[wB.e];simp)) λp hp=>(qV s v).mem_iff.mp hp⟩,bW ?_⟩;refine bW (bW ⟨A,mA A,rfl,⟨@d,λr hr=>⟨by have:=lA r hr;lia,kA r hr⟩⟩,bW ?_⟩);refine⟨a,_,mA A,rfl,zA.kU,bW (bW ?_)⟩;have dnA:FJ (A.map @bg):=(Nw dA (LD dA 0)).dn;have wA':=wA.gI dA.dn kA;refine⟨A.map @bg,rs (mA A) a,_,gI @ap (@b4),rfl,IsL.enc _,⟨dnA,wA'.mem,by rw[au];lia,λr hr=>?_,by rw[BN];lia⟩,?_⟩
 .obtain⟨x,hx,rfl⟩:=List.mem_map.mp hr;rw[BN];have:=lA x hx;lia
 rw[wA'.put dnA];simp!;refine jz (IsL.enc B) λp3 Kx=>?_;rw[mJ,<-iZ];refine jz (IsL.enc B) λp4 hp4=>?_;rw[Oi,<-i5];have l4:=dI.new (o:=.lst ((B.drop (S1.length+1)).map enc)) hp4;refine jB (.ref (l4 _ _ ax)) (.ref ax) (xW (by simp only[au,bO,bP];lia)) λp5 hp5=>?_;rw[<-aC];refine fM (((dI.new Kx).trans l4).trans (.new hp5)) (((dI.new Kx).trans l4).free hp5) ax ?_;have eB:B.take S1.length++B.drop (S1.length+1)=S1++S2:=by rw[wB.e];exact rest_eq _ _ _
 have sub:∀x∈S1++S2,x∈B:=λx hx=>by
  rw[wB.e];rcases List.mem_append.mp hx with h |h<;>simp[h]
 have YK:(S1++S2).length<=3:=by
  have:=dB.str;rw[wB.e] at this;simp only[aA,ag] at this ⊢;lia
 rw[eB];refine bW ⟨S1++S2,mB A B,rfl,⟨@d,λr hr=>⟨by have:=lB r (sub r hr);lia,kB r (sub r hr)⟩⟩,?_⟩;simp!;have lT:(R1.map @bg++((gI (mA A) r).take k++gI @ap (@b4)++(gI (mA A) r).drop k)::R2.map @bg).length+((S1++S2).map (gI @ap)).length<=3:=by
  have:=dT.str;unfold w4 Bp at this;simp only[aA,ag,au] at this ⊢;lia
 refine jB (IsL.enc _) (IsL.enc _) (xW (by simp only[au] at lT ⊢;lia)) λp6 hp6=>?_;rw[<-aC];have eT:(R1.map @bg++((gI (mA A) r).take k++gI @ap (@b4)++(gI (mA A) r).drop k)::R2.map @bg)++(S1++S2).map (gI @ap)=@cl:=by
  unfold w4 Bp;rw[Wj,RQ,RP,aC]
 rw[eT];refine fM (.new hp6) hp6 ax ?_;refine⟨_,rfl,⟨by have:=dT.str;lia,λr hr=>by have:=k8 dT r hr;lia⟩,λp as G' h=>bW (q p as G' h)⟩
def IA:gq :=
 (bJ (bh (b8 (aR jf (aq @j (aq @H aK)))) (aF 4))
 (bJ (bh (b8 (aR jf (aq @p (aq (jw ja (aq @R aK)) aK)))) (aF 5))
 (bJ (fK (qM nE (aq (aN Lp (aN fk (jw ja @aR) (jw ja (aq @p aK))) @E) (aq (aN fk (jw ja (aq @R aK)) (jw ja (aq (ar 5) aK))) aK))))
 (bJ (fK (qM iI (aq @j (aq @m aK))))
 (bJ (bh (qM iI (aq @p (aq @O aK))) (aF 6))
 (bJ sY
 (bJ sY
 (bJ sY
 sY))))))))
def Cr:iS:=λds G Q E=>∃(A B:Rows) (a b:T2),ds=[enc A,enc a,enc B,enc b]/\(Dr A/\Dr B)/\((4<@cF\/12<@ax+@bi)/\E ⟨"TooMany",[]⟩ (λ_=>none)\/(@cF<=4/\@ax+@bi<=12)/\(a∉bI A 0\/b∉bI B 0)/\E ⟨"NoSpot",[]⟩ (λ_=>none))
theorem U7(ds)(G)(Q)(E)(h:Cr ds G Q E):IA E @F (aP 10 ds) G:=by
 obtain⟨A,B,a,b,rfl,⟨dA,dB⟩,hh⟩:=h;have nA:=sE dA;have fA:=dA.BX;have lA:=k8 dA;have lB:=k8 dB;unfold IA;simp![bh,b8,aR,aq,ar,aP,aO,dC,aK,aF,jw,fK,ends];refine⟨A,0,rfl,⟨dA,@d⟩,λp1 f1=>ie (.new f1) f1 ax ?_⟩;refine rM ⟨B,@ax,by rw[jW],⟨dB,@d⟩,λp2 f2=>ie (.new f2) f2 ax ?_⟩;simp![qM,aq,aN,jw,ar,aK,dC];refine JE.gS (JE.gS ?_);simp only[↓cb,↓iD];refine rM (rM ?_);simp only[↓cb];rcases hh with ⟨h1,q⟩ |⟨⟨h1,h2⟩,h3,q⟩
 .refine⟨_,_,rfl,λ_=>q,λz1 z2=>?_⟩;rw[jW,jW] at z2;lia
 .refine⟨_,_,rfl,λz=>?_,λ_ _=>?_⟩
  .rw[jW,jW] at z;lia
  .simp![qM];refine⟨A,a,rfl,λr h=>by have:=lA r h;lia,λha=>?_,λ_=>q⟩;simp![qM];exact⟨B,b,rfl,λr h=>by have:=lB r h;lia,λhb=>absurd hb (h3.resolve_left λz=>z ha),λ_=>q⟩
def uS:gq :=
 (bJ (bh (eS aK) (aF 4))
 (bJ (Fu Cr (aq @j (aq @m (aq @p (aq @O aK)))) 5 ["TooMany","NoSpot","KnotError"] (bh (eS (aq (A9 ["TooMany","NoSpot","KnotError"] ["TooMany"] (ar 5)) (aq (A9 ["TooMany","NoSpot","KnotError"] ["NoSpot"] (ar 5)) aK))) (aF 4)))
 (bK (b8 @R))))
def jS:iS:=λds G Q _=>∃(A B:Rows) (a b:T2) (t:Bool),ds=[enc A,enc a,enc B,enc b]/\(Dr A/\Dr B/\(t=true/\(4<@cF\/12<@ax+@bi)\/t=false/\(@cF<=4/\@ax+@bi<=12)/\(a∉bI A 0\/b∉bI B 0)))/\Q (.dc [.bl t,.bl (!t)]) G
theorem DW(ds)(G)(Q)(h:jS ds G Q @z):uS @q @F (aP 6 ds) G:=by
 obtain⟨A,B,a,b,t,rfl,⟨dA,dB,hh⟩,q⟩:=h;unfold uS;simp![bh,eS,aK,aF,ends,aP,aO,yf,Fu,aq,ar,bK,b8];refine⟨@g,λp f=>?_⟩;have e1:(["TooMany","NoSpot","KnotError"]:@v).contains "TooMany"=true:=@g
 have e2:(["TooMany","NoSpot","KnotError"]:@v).contains "NoSpot"=true:=@g
 have e3:(["NoSpot"]:@v).contains "TooMany"=false:=@g
 have e4:(["TooMany"]:@v).contains "NoSpot"=false:=@g
 have e5:(["TooMany"]:@v).contains "TooMany"=true:=@g
 have e6:(["NoSpot"]:@v).contains "NoSpot"=true:=@g
 refine⟨A,B,a,b,rfl,⟨dA,dB⟩,?_⟩;rcases hh with ⟨rfl,h1⟩ |⟨rfl,h1,h2⟩
 .refine .inl ⟨h1,@g,?_⟩;simp![A9,ar,e1,e5,e3];refine⟨@g,λp1 f1=>?_⟩;exact Ab ((dI.new f).trans (.new f1)) ((dI.new f).free f1) ax (ss:=[.bl true,.bl false]) (zr.same _) q
 .refine .inr ⟨h1,h2,@g,?_⟩;simp![A9,ar,e2,e4,e6];refine⟨@g,λp1 f1=>?_⟩;exact Ab ((dI.new f).trans (.new f1)) ((dI.new f).free f1) ax (ss:=[.bl false,.bl true]) (zr.same _) q
end JT
namespace JG
open K2.P K2.J K2.JB
open K2.JF (Ct gT je L6 Kj vo vU sI DQ vM)
open K2.Hw (gK)
open K2.Oz (HR)
open K2.T (HL)
open K2.Y (Po L ND NZ fF fW gU fE jE bS GQ)
open K2.KD (hW)
open K2.KC (rh cR iF)
theorem L8{A:Rows}(h:HL G G' p as (A.map λr=>@aI))(le:dI G0 G)(Jk:dI G' G2):Fz G2 (λa=>(G0 a).isNone) @aw (enc A):=by
 rw[hW];have fr:∀a,G a=none->(G0 a).isNone=true:=λa ha=>by rw[le.free ha];rfl
 exact .ref (Jk _ _ h.gp) (fr _ h.fp) (JF.Y3 as _ h.len (λa ha=>fr a (h.fr a ha)) λi a r h1 h2=>Jk _ _ (h.at' i a r h1 h2))
theorem RZ{A B:Rows}{G:Gp}{Q:DK}(q:Q (enc A) G):fQ (enc [A,B]) (.int 0) G Q:=JE.gQ (xs:=[A,B]) (i:=0) rfl q
theorem RY{A B:Rows}{G:Gp}{Q:DK}(q:Q (enc B) G):fQ (enc [A,B]) (.int 1) G Q:=JE.gQ (xs:=[A,B]) (i:=1) rfl q
theorem GP{neg:Bool}{A B:Rows}{p:Nat}{G:Gp}{Q:DK}(g:G p=some (.lst [enc A,enc B]))(q:Q (.bl (if neg then false else true)) G):t9 neg (enc [A,B]) @aw G Q :=
 .inl ⟨_,_,Enc.sn G 8 [A,B] @t,.ref g (uL G 7 @t [A,B]),by
  rw[show(D.dc ([A,B].map enc))=enc [A,B] from rfl,Enc.eqv];cases neg<;>simpa using q⟩
end JG
namespace JT
open K2.P K2.J K2.JB K2.JG
open K2.JE (gQ gS ot oq)
open K2.JF (gT Ct vM DQ)
open K2.Mo (rs Gf FJ spl CH CG xY xX gG jO mJ kc z8 sF mM)
open K2.Hw (gK)
open K2.D4 (M Kn gI Nb)
open K2.KC (rh cR iF)
open K2.Y (Po L ND NZ fF fW gU fE)
theorem Uz{neg:Bool}{r:@r}{p:Nat}{G:Gp}{Q:DK}(g:G p=some (.lst []))(q:Q (.bl (if neg then !decide (r=[]) else decide (r=[]))) G):zT neg (enc r) @aw G Q:=by
 refine⟨.dc (@aI),.dc [],uL _ 7 @t r,.ref g .El,?_⟩;have e:i7 (.dc (@aI)) (.dc [])=decide (r=[]):=by cases r<;>rfl
 rw[e];cases neg<;>exact q
theorem zL{α:Type}{l:@o}{x:α}(h:l[i]?=@aa):l.take (i+1)=l.take i++[x]:=by
 rw[List.take_add_one,h];rfl
theorem Im{α:Type}{l:@o}{x:α}(h:l[i]?=@aa):l=l.take i++x::l.drop (i+1):=by
 obtain⟨hi,e⟩:=List.getElem?_eq_some_iff.mp h;rw[<-e,List.getElem_cons_drop_succ_eq_drop,dJ]
noncomputable def nul(r:@r)(k:Nat):List T2:=if r=[] then [⟨(k:Int),2⟩] else []
theorem YD(h:r=[]):nul r k=[⟨(k:Int),2⟩]:=if_pos h
theorem SM(h:r≠[]):nul r k=[]:=if_neg h
def yn:gq :=
 (bJ (bh (eS aK) (aF 1))
 (bJ (di (u6 (jw ja @aR)) (aF 2) (bJ (d6 (fI (aN @bI (aN fQ @j @p) (eS aK))) (fK (mi D9 j7 @m (aq (eQ (aq @p (aq @a8 aK))) aK))) cj)
 (di (la (aN fQ @j @p)) (aF 3) (fK (mi D9 j7 @m (aq (eQ (aq (aN fQ @O @H) (aq (aN fQ @O @E) aK))) aK))))))
 (bK (b8 @m))))
def og:iS:=Wb Dr λrows=>@bp
theorem Ht(ds)(G)(Q)(h:og ds G Q @z):yn @q @F (aP 4 ds) G:=by
 obtain⟨rows,rfl,dr,q⟩:=h;have dr:@Z:=dr;have BX:=dr.BX;have sl:=zN dr;have str:=dr.str;unfold yn;simp![bh,eS,aK,aF,ends,aP,aO];refine⟨@g,λd hd=>?_⟩;refine cX (λτ G'=>(∃a b,τ=[@aF,some (.ref d),a,b])/\@G/\G' d=some (.lst ((@bp).map enc))) ?_ ?_
 .intro N hN;simp![di,jw,aq,ar,aK];refine gS ?_;simp only[↓fH];refine⟨@d,@d,?_⟩;rw[c9,ot];refine cT (xs:=fG rows.length) (f:=λk:Nat=>D.int (k:Int)) (λks τ G'=>(∃a b,τ=[@aF,some (.ref d),a,b])/\@G/\G' d=some (.lst ((bI (@cM) 0).map enc))) ⟨@al,.new hd,ax⟩ @aA ?_ ?_
  .rintro ks k post τ G1 N2 e ⟨⟨a1,a2,rfl⟩,l1,gd1⟩ kF;obtain⟨ek,hk⟩:=oq e;subst ek;obtain⟨r,hr⟩:∃r,rows[ks.length]?=@aD:=⟨_,az hk⟩;have esp:bI (rows.take (ks.length+1)) 0=bI (@cM) 0++bN r @cq:=by
    rw[zL hr,oZ,bI,bI,bE,bO,nq @c,mD]
   have afz:(bI (@cM) 0).length+(bN r @cq).length<=27:=by
    have:=oZ (rows.take (ks.length+1)) (rows.drop (ks.length+1)) 0;rw[dJ] at this;rw[this,aA,esp,aA] at sl;lia
   rw[show(ks++[ks.length]).length=ks.length+1 by simp] at kF;rw[esp] at kF;generalize bI (@cM) 0=L at *;simp only[aF,↓ao,↓ai];refine cX (λτ G'=>(∃b,τ=[@aF,some (.ref d),some (.int @cq),b])/\@G/\G' d=some (.lst ((L++nul r ks.length).map enc))) ?_ ?_
   .intro N3 Bu;simp![d6,aN,ar,eS,aK,fK,mi,aq,eQ,dC,cj];refine gQ hr ⟨@g,λp hp=>Uz ax ?_⟩;have npd:d≠p:=by ext c;rw[gd1] at hp;cases hp
    by_cases c:r=[]
    .simp![c,decide_true,cu npd,gd1];refine⟨@g,Cq @bK,Bu _ _ ⟨@A,(l1.trans @ar).put hd,?_⟩⟩;rw[ax,YD c,aC];rfl
    .simp![c,decide_false];refine Bu _ _ ⟨@A,l1.trans @ar,?_⟩;rw[SM c,bE,cu npd];exact gd1
   .rintro _ G3 ⟨⟨b,rfl⟩,l3,gd3⟩;simp![di,aN,ar];refine gQ hr (gR ?_);refine cT (xs:=r) (λpp τ G'=>(∃b,τ=[@aF,some (.ref d),some (.int @cq),b])/\@G/\G' d=some (.lst (((L++nul r ks.length)++pp.map T3.s).map enc))) ⟨@A,l3,by rw[aM,bE];exact gd3⟩ @aA ?_ ?_
    .rintro pp t pt τ G4 N4 e4 ⟨⟨b,rfl⟩,l4,gd4⟩ hN4;have pX:r≠[]:=by rw[e4];simp
     have eo:bN r @cq=r.map T3.s:=by unfold bN;rw[if_neg pX]
     have hl4:((L++nul r ks.length)++pp.map T3.s).length<=1000:=by
      rw[SM pX,bE];rw[eo,au] at afz;have:=congrArg dh e4;rw[aA,ag] at this;rw[aA,au];lia
     simp![aF,fK,mi,ar,kz,gd4,aq,eQ,aN,dC,VH,HK,aK];refine⟨@g,Cq (by rw[au];exact hl4),hN4 _ _ ⟨@A,l4.put hd,?_⟩⟩;rw[ax,aC (l₁:=pp),<-aS,aC (l₁:=(L++nul r ks.length)++pp.map T3.s)];rfl
    .rintro τ G4 ⟨⟨b,rfl⟩,l4,gd4⟩;refine kF _ _ ⟨@al,l4,?_⟩;rw[gd4];unfold bN;by_cases c:r=[]
     .rw[if_pos c,YD c,c,aM,bE]
     .rw[if_neg c,SM c,bE]
  .rintro τ G' ⟨⟨a,b,rfl⟩,l,gd⟩;refine hN _ _ ⟨@al,l,?_⟩;rw[ig,wW] at gd;exact gd
 .rintro _ G' ⟨⟨a,b,rfl⟩,l,gd⟩;simp![bK,b8,ar];exact fM l hd gd q
def yr:gq :=
 (bJ (di (u6 (jw ja @aR)) (aF 2) (bJ (d6 (vn (fI (aN @bI (aN fQ @j @p) (eS aK))) (fI (aN @bI @m (eQ (aq @p (aq @a8 aK)))))) (bK (b8 (eQ (aq @p (aq @H aK))))) cj)
 (di (u6 (jw ja (aq (aN fQ @j @p) aK))) (aF 3) (d6 (fI (aN @bI (eQ (aq (aN fQ (aN fQ (aN fQ @j @p) @O) @H) (aq (aN fQ (aN fQ (aN fQ @j @p) @O) @E) aK))) @m)) (bK (b8 (eQ (aq @p (aq (aN fk @O @E) aK))))) cj))))
 (bK (b8 (eQ (aq (HJ ID @E) (aq @H aK))))))
def oj:iS:=λds G Q _=>∃(rows:Rows) (s:T2),ds=[enc rows,enc s]/\(@Z/\s∈@bp)/\∀(R1 R2:Rows) (r:@r) (k:Nat) (G':Gp),@G->Wh rows s R1 R2 r k->Q (.tup [.int (R1.length:Int),.int (k:Int)]) G'
theorem Hv(ds)(G)(Q)(h:oj ds G Q @z):yr @q @F (aP 4 ds) G:=by
 obtain⟨rows,s,rfl,⟨dr,hs⟩,q⟩:=h;have str:=dr.str;have rl:=k8 dr;unfold yr;refine cX (λτ G'=>False) ?_ λ_ _ h=>h.elim;intro N hN;simp![di,jw,aq,ar,aP,aO,aK,ends];refine gS ?_;simp only[↓fH];refine⟨@d,@d,?_⟩;rw[c9,ot];refine cT (xs:=fG rows.length) (f:=λk:Nat=>D.int (k:Int)) (λks τ G'=>(∃a b,τ=[@aF,some (enc s),a,b])/\@G/\s∉bI (@cM) 0) ⟨@al,.refl _,(λh=>@aS)⟩ @aA ?_ ?_
 .rintro ks k post τ G1 N2 e ⟨⟨a1,a2,rfl⟩,l1,no⟩ kF;obtain⟨ek,hk⟩:=oq e;subst ek;obtain⟨r,hr⟩:∃r,rows[ks.length]?=@aD:=⟨_,az hk⟩;have hrl:=rl r (cp hr);have esp:bI (rows.take (ks.length+1)) 0=bI (@cM) 0++bN r @cq:=by
   rw[zL hr,oZ,bI,bI,bE,bO,nq @c,mD]
  have sp:=Im hr;have tl:(@cM).length=ks.length:=by rw[bO];lia
  rw[show(ks++[ks.length]).length=ks.length+1 by simp] at kF;simp only[aF,↓ao,↓ai];refine cX (λτ G'=>(∃b,τ=[@aF,some (enc s),some (.int @cq),b])/\@G/\¬ (r=[]/\s=⟨@cq,2⟩)) ?_ ?_
  .intro N3 Bu;simp![d6,vn,aN,ar,eS,aK,eQ,aq,dC,bK,b8,cj];refine gQ hr ⟨@g,λp hp=>Uz ax ?_⟩;by_cases c:r=[]
   .simp![c,decide_true];refine⟨@g,Gd (x:=s) (y:=(⟨@cq,2⟩:T2)) @t ?_⟩;by_cases c2:s=⟨@cq,2⟩
    .simp![c2,decide_true];refine⟨@g,bW ?_⟩;have:=q (@cM) (rows.drop (ks.length+1)) r 0 _ (l1.trans (.new (o:=.lst []) hp)) ⟨sp,.inr ⟨c,by rw[tl];exact c2,rfl⟩⟩;rw[tl] at this;ext g
    .simp![c2,decide_false];exact Bu _ _ ⟨@A,l1.trans @ar,λz=>c2 z.2⟩
   .simp![c,decide_false];exact Bu _ _ ⟨@A,l1.trans @ar,λz=>c z.1⟩
  .rintro _ G3 ⟨⟨b,rfl⟩,l3,no3⟩;simp![di,jw,aq,aN,ar,aK];refine gQ hr (gS ?_);simp only[↓fH];refine⟨@d,@d,?_⟩;rw[c9,ot];refine cT (xs:=fG r.length) (f:=λk:Nat=>D.int (k:Int)) (λjs τ G'=>G3=G'/\(∃b,τ=[@aF,some (enc s),some (.int @cq),b])/\s∉(r.take js.length).map T3.s) ⟨rfl,@A,(λh=>@aS)⟩ @aA ?_ ?_
   .rintro js j Yy τ _ N4 e4 ⟨rfl,⟨b,rfl⟩,no4⟩ hN4;obtain⟨ej,hj⟩:=oq e4;subst ej;obtain⟨t,ht⟩:∃t,r[js.length]?=some t:=⟨_,az hj⟩;have tl2:(r.take js.length).length=js.length:=by rw[bO];lia
    simp![aF,d6,aN,eQ,aq,ar,dC,aK,bK,b8,cj];refine gQ hr (gQ ht ?_);rw[kz,dS,VH];refine gQ hr (gQ ht ?_);rw[kz,dS,HK];refine⟨@g,Gd (x:=t.s) (y:=s) @t ?_⟩;by_cases c2:t.s=s
    .simp![c2,decide_true];refine⟨@g,bW ?_⟩;have:=q (@cM) (rows.drop (ks.length+1)) r (js.length+1) _ l3 ⟨sp,.inl ⟨_,t,_,Im ht,c2,by rw[tl2]⟩⟩;rw[tl] at this;ext g
    .simp![c2,decide_false];refine hN4 _ _ ⟨rfl,@A,?_⟩;rw[show(js++[js.length]).length=js.length+1 by simp,zL ht,aC];intro z;rcases List.mem_append.mp z with z |z
     .exact no4 z
     .exact c2 (List.mem_singleton.mp z).symm
   .rintro τ _ ⟨rfl,⟨b,rfl⟩,no4⟩;refine kF _ _ ⟨@al,l3,?_⟩;rw[esp];intro z;rcases List.mem_append.mp z with z |z
    .exact no z
    .unfold bN at z;rw[ig,wW] at no4;split at z
     .rename_i c;exact no3 ⟨c,List.mem_singleton.mp z⟩
     .exact no4 z
 .rintro τ G' ⟨_,_,no⟩;rw[ig,wW] at no;exact(no hs).elim
end JT
namespace JT
open K2.P K2.J K2.JB
open K2.JG
open K2.JE (gQ gS ot oq)
open K2.JF (gT Ct vM DQ)
open K2.Mo (mJ kc z8 sF mM FJ)
open K2.Hw (gK)
open K2.D4 (M Kn gI Nb)
open K2.KC (rh cR iF)
open K2.Y (Po L ND NZ fF fW gU fE)
def tF:gq :=
 (bJ (bh kC (aF 2))
 (bJ (di (la (jw qv (aq (aR cR @aR) aK))) (aF 3) (bh (aN fk @m (jw ja (aq @p aK))) (iH @p @O)))
 (bJ (bh (eS aK) (aF 4))
 (bJ (di (la @j) (aF 5) (fK (mi D9 j7 @R (aq (b8 (e7 3 [2] (la (ar 5)) (gY (cq (aF 0) (cq (aF 1) (cq (aF 2) gH)))) none (eQ (aq (aN fQ @O @j) (aq @m (aq @p aK)))))) aK))))
 (bK (b8 @R))))))
def kT:iS:=λds G Q _=>∃(rows:Rows) (k:Nat),ds=[enc rows,.int ((k+1:Nat):Int)]/\(@Z/\k<=1000)/\∀(p:Nat) (G':Gp),@G->G p=none->G' p=some (.lst ((rows.map (gI (iV (@T) k))).map enc))->Q @aw G'
theorem BD(ds)(G)(Q)(h:kT ds G Q @z):tF @q @F (aP 6 ds) G:=by
 obtain⟨rows,k,rfl,⟨d,hk⟩,q⟩:=h;have BX:=d.BX;have str:=d.str;have rle:=k8 d;have nl:=sE d;have nnd:=rz d;unfold tF;simp![bh,kC,aF,ends,aP,aO];intro p hp;refine cX (λτ G'=>(∃a,τ=[@aF,some (.int ((k+1:Nat):Int)),@aq,a,none,none])/\@G/\G' p=some (.gz (bb (iV (@T) k)))) ?_ ?_
 .intro N hN;simp![di,jw,aq,aR,ar,aK];refine⟨rows,rfl,(show rows.flatten.length<=500 by lia),?_⟩;have ol:=iF rows.flatten;refine xu (IsL.enc (@cS)) @c λp2 f2=>?_;have en:Vy (@cS)=@T:=rfl;rw[en];simp only[NO,ax];have n2:p≠p2:=by ext c;rw[ax] at f2;cases f2
  refine cT (xs:=@T) (λpre τ G'=>(∃a,τ=[@aF,some (.int ((k+1:Nat):Int)),@aq,a,none,none])/\@G/\G' p2=some (.lst ((@T).map enc))/\G' p=some (.gz (bb (iV pre k)))) ⟨@A,(dI.new hp).trans (.new f2),ax,by rw[cu n2];exact ax⟩ (λ_ _ _ h=>h.2.2.1) ?_ ?_
  .rintro pre x post τ G' N2 e ⟨⟨a,rfl⟩,le,g2,gp⟩ kF;have hx:x∉pre:=by
    rw[e] at nnd;exact λz=>(List.nodup_append.mp nnd).2.2 _ z _ (br ..) rfl
   have hl:pre.length<(@T).length:=@a6
   rw[y8];simp![aF,bh,aN,ar,jw,aq,aK,iH];refine D4.UQ gp ?_;simp only[↓cb];refine gw (l:=iV pre k) (i:=x) (v:=((k+1:Nat):Int)+(((iV pre k).length:Nat):Int)) gp (Cq (by rw[jW];lia)) ?_;refine kF _ _ ⟨@A,le.put hp,by rw[cu (cO n2)];exact g2,?_⟩;rw[ax,JG.j0 (by rw[rm];exact hx),IP,jW];show _=some (GO.gz (bb (iV pre k++[(x,((k+pre.length+1:Nat):Int))])));rw[show((k+1:Nat):Int)+(pre.length:Int)=((k+pre.length+1:Nat):Int) by lia]
  .rintro τ G' ⟨⟨a,rfl⟩,le,g2,gp⟩;exact hN _ _ ⟨@A,le,gp⟩
 rintro _ G1 ⟨⟨a,rfl⟩,le1,gp⟩;simp![bh,eS,aK,aF];refine⟨@g,λp3 f3=>?_⟩;have n3:p≠p3:=by ext c;rw[gp] at f3;cases f3
 have f3':=le1.free f3;refine cX (λτ G'=>(∃b,τ=[@aF,some (.int ((k+1:Nat):Int)),@aq,a,some (.ref p3),b])/\@G/\G' p3=some (.lst ((rows.map (gI (iV (@T) k))).map enc))) ?_ ?_
 .intro N hN;simp![di,ar];refine gR ?_;refine cT (xs:=rows) (λpre τ G'=>(∃b,τ=[@aF,some (.int ((k+1:Nat):Int)),@aq,a,some (.ref p3),b])/\@G/\G' p=some (.gz (bb (iV (@T) k)))/\G' p3=some (.lst ((pre.map (gI (iV (@T) k))).map enc))) ⟨@A,le1.trans (.new f3),by rw[cu n3];exact gp,ax⟩ @aA ?_ ?_
  .rintro pre r post τ G' N2 e ⟨⟨b,rfl⟩,le,gd,g3⟩ kF;have hr:r∈rows:=@a6
   have hrl:=rle r hr;have kn:=Gu d k hr;have rV:pre.length<rows.length:=@a6
   simp![aF,fK,mi,ar,g3,aq,b8,e7,aK];refine gR ⟨xW @bK,?_⟩;refine jq (xs:=r) (λpr acc τ G2=>G'=G2/\(∃a b c,τ=[a,b,c,@aq])/\acc=(gI (iV (@T) k) pr).map enc) ⟨rfl,⟨_,_,_,rfl⟩,rfl⟩ @ca ?_ ?_
   .rintro pr x po acc τ G2 N3 e2 ⟨rfl,⟨a,b,c,rfl⟩,rfl⟩ Bu;obtain⟨v,hv⟩:=Option.isSome_iff_exists.mp (kn x (by rw[e2];simp));rw[kz];simp![gY,cq,aF,gH,eQ,aq,aN,ar,aK];refine RX (k:=x.a) (v:=v) gd hv ?_;refine⟨@g,Bu _ _ _ ⟨rfl,⟨_,_,_,rfl⟩,?_⟩⟩;unfold gI;rw[aC,aC];have:Nb (iV (@T) k) x=⟨v,x.b,x.c⟩:=by unfold Nb;rw[hv];rfl
    simp only[ak,aM,this,kz];rfl
   .rintro acc τ G2 ⟨rfl,_,rfl⟩ p4 f4;refine fM (xs:=gI (iV (@T) k) r) (.new f4) f4 ax ?_;simp only[g3];refine⟨Cq (by rw[au,au];lia),kF _ _ ⟨@A,le.put f3',by rw[cu n3];exact gd,?_⟩⟩;rw[ax,aC,aC];rfl
  .rintro τ G' ⟨⟨b,rfl⟩,le,gd,g3⟩;exact hN _ _ ⟨@A,le,g3⟩
 rintro _ G4 ⟨⟨b,rfl⟩,le4,g4⟩;simp![bK,b8,ar];exact bW (q p3 G4 le4 f3' g4)
def CA:gq :=
 (bJ (bh (aR oj (aq @j (aq @m aK))) (aF 4))
 (bJ (bh (aR oj (aq @p (aq @O aK))) (aF 5))
 (bJ (bh (b8 (aR kT (aq @j (aq @E aK)))) (aF 6))
 (bJ (bh (aR kT (aq @p (aq (aN fk @E (jw ja (aq (aR cR @aR) aK))) aK))) (aF 7))
 (bJ (bh (b8 (aN fQ (ar 7) (aN fQ (ar 5) @H))) (aF 8))
 (bJ (bh (b8 (aN fk (pI (ar 8) (ib (aN fQ (ar 5) @E)) cw) (pI (ar 8) cw (ib (aN fQ (ar 5) @E))))) (aF 8))
 (bJ (bh (aN fQ (ar 6) (aN fQ @R @H)) (aF 9))
 (bJ (bh (b8 (aN fk (aN fk (pI (ar 9) cw (ib (aN fQ @R @E))) (ar 8)) (pI (ar 9) (ib (aN fQ @R @E)) cw))) (iH (ar 6) (aN fQ @R @H)))
 (bJ (bh (b8 (aN fk (aN fk (ar 6) (pI (ar 7) cw (ib (aN fQ (ar 5) @H)))) (pI (ar 7) (ib (aN fk (aN fQ (ar 5) @H) @E)) cw))) (aF 6))
 (bK (b8 (e7 1 [] (la (ar 6)) (aF 0) none (b8 (aR gT (aq (b8 @j) aK)))))))))))))))
def w6:iS:=λds G Q _=>∃(A B:Rows) (a b:T2),ds=[enc A,enc a,enc B,enc b]/\(Dr A/\Dr B/\a∈bI A 0/\b∈bI B 0/\@cF<=4/\@ax+@bi<=12)/\∀(R1 R2 S1 S2:Rows) (r s:@r) (k v:Nat),Wh A a R1 R2 r k->Wh B b S1 S2 s v->Q (enc ((@cl).map gK)) G
theorem MH(ds)(G)(Q)(h:w6 ds G Q @z):CA @q @F (aP 10 ds) G:=by
 obtain⟨A,B,a,b,rfl,⟨dA,dB,ha,hb,hs,hn⟩,q⟩:=h;have lA:=k8 dA;have lB:=k8 dB;have sA:=dA.str;have sB:=dB.str;have tA:=Zi.twice dA;unfold CA;simp![bh,aR,aq,ar,aP,aO,aK,aF,b8,dC,aN,jw,pI,cw,iH,bK,e7,ends];refine⟨A,a,rfl,⟨dA,ha⟩,λR1 R2 r k G1 l1 wA=>?_⟩;refine⟨B,b,rfl,⟨dB,hb⟩,λS1 S2 s v G2 l2 wB=>?_⟩;have q:=q R1 R2 S1 S2 r s k v wA wB;obtain⟨dT,_⟩:=FX (k:=k) (v:=v) dA dB wA.e wB.e hs hn;refine⟨A,0,rfl,⟨dA,@d⟩,λp3 G3 l3 f3 g3=>bW ?_⟩;refine⟨A,rfl,(show A.flatten.length<=500 by lia),gS ?_⟩;rw[show(rh A.flatten).length=@ax from(BK _).symm];simp only[↓cb,↓dS,↓jm];refine⟨B,@ax,by rw[show((1:Int)+(@ax:Int))=((@ax+1:Nat):Int) by lia],⟨dB,@d⟩,λp4 G4 l4 f4 g4=>?_⟩;have gA:G4 p3=some (.lst ((A.map @bg).map enc)):=l4 _ _ g3;have gB:G4 p4=some (.lst ((B.map (gI @ap)).map enc)):=g4;have eA:A.map @bg=R1.map @bg++gI (mA A) r::R2.map @bg:=by
  conv=>lhs;arg 2;rw[wA.e]
  simp
 have eB:B.map (gI @ap)=S1.map (gI @ap)++gI @ap s::S2.map (gI @ap):=by
  conv=>lhs;arg 2;rw[wB.e]
  simp
 have hr:(gI (mA A) r).length<=24:=by rw[BN];exact lA r (by rw[wA.e];simp)
 have hsl:(gI @ap s).length<=24:=by rw[BN];exact lB s (by rw[wB.e];simp)
 have nR1:(R1.map @bg).length=R1.length:=au _;have nS1:(S1.map (gI @ap)).length=S1.length:=au _;have h3:(R1.map @bg).length+(R2.map @bg).length+1<=3:=by
  rw[wA.e] at sA;simp only[aA,ag] at sA;simp only[au];lia
 have h4:(S1.map (gI @ap)).length+(S2.map (gI @ap)).length+1<=3:=by
  rw[wB.e] at sB;simp only[aA,ag] at sB;simp only[au];lia
 have eT:(R1.map @bg++((gI (mA A) r).take k++((gI @ap s).drop v++(gI @ap s).take v)++(gI (mA A) r).drop k)::R2.map @bg)++(S1.map (gI @ap)++S2.map (gI @ap))=@cl:=rfl;have n34:p4≠p3:=by ext c;rw[g3] at f4;cases f4
 have lG:dI G G4:=((l1.trans l2).trans l3).trans l4;have fA:G p3=none:=(l1.trans l2).free f3;rw[eA] at gA;rw[eB] at gB;rw[<-nR1,<-nS1];generalize @cl=T at *;generalize R1.map @bg=P1 at *;generalize R2.map @bg=P2 at *;generalize S1.map (gI @ap)=Q1 at *;generalize S2.map (gI @ap)=Q2 at *;generalize gI (mA A) r=u at *;generalize gI @ap s=w at *;clear eA eB l4 l3 l2 l1 g3 g4;have t0:∀x y:D,rN [x,y] 0=@aa:=λ_ _=>rfl;have t1:∀x y:D,rN [x,y] 1=some y:=λ_ _=>rfl;simp![t0];refine uY (.ref gB) sF (bW ?_);simp only[t1,↓cY];refine jz (IsL.enc w) λp5 f5=>?_;rw[kc,<-i5];refine jz (IsL.enc w) λp6 f6=>?_;rw[mJ,<-iZ];have l6:=dI.new (o:=.lst ((w.take v).map enc)) f6;refine jB (.ref (l6 _ _ ax)) (.ref ax) (xW (by simp only[au,bO,bP];lia)) λp7 f7=>?_;rw[<-aC];refine fM (((dI.new f5).trans l6).trans (.new f7)) (((dI.new f5).trans l6).free f7) ax ?_;refine uY (.ref gA) sF ?_;refine jz (IsL.enc u) λp8 f8=>?_;rw[mJ,<-iZ];refine jB (.ref ax) (IsL.enc (w.drop v++w.take v)) (xW (by simp only[au,bO,aA,bP];lia)) λp9 f9=>?_;rw[<-aC];have l9:=(dI.new (o:=.lst ((u.take k).map enc)) f8).trans (dI.new (o:=.lst ((u.take k++(w.drop v++w.take v)).map enc)) f9);refine jz (IsL.enc u) λp10 f10=>?_;rw[kc,<-i5];have l10:=dI.new (o:=.lst ((u.drop k).map enc)) f10;refine jB (.ref (l10 _ _ ax)) (.ref ax) (xW (by simp only[au,bO,aA,bP];lia)) λp11 f11=>?_;rw[<-aC];refine fM (xs:=u.take k++(w.drop v++w.take v)++u.drop k) ((l9.trans l10).trans (.new f11)) ((l9.trans l10).free f11) ax ?_;unfold wC;have ei:Gx ((P1++u::P2).map (enc (α:=@r))).length ((P1.length:Nat):Int)=some P1.length:=by
  unfold Gx;rw[if_pos @c,if_pos (by rw[au];simp;lia)];simp
 simp only[gA,ei];have e6:((P1++u::P2).map enc).set P1.length (enc (u.take k++(w.drop v++w.take v)++u.drop k))=(P1++(u.take k++(w.drop v++w.take v)++u.drop k)::P2).map enc:=by
  rw[aC,ak];have:P1.length=(P1.map (enc (α:=@r))).length:=by rw[au]
  rw[this,Vo _ _ @J];simp
 rw[e6];generalize hX:P1++(u.take k++(w.drop v++w.take v)++u.drop k)::P2=X at *;have gB':dw G4 p3 (.lst (X.map enc)) p4=some (.lst ((Q1++w::Q2).map enc)):=by rw[cu n34];exact gB
 have gX:dw G4 p3 (.lst (X.map enc)) p3=some (.lst (X.map enc)):=ax;have lX:dI G (dw G4 p3 (.lst (X.map enc))):=lG.put fA;generalize dw G4 p3 (.lst (X.map enc))=G5 at *;have aka:X.length<=3:=by rw[<-hX];simp only[aA,ag];lia
 refine jz (.ref gB') λp12 f12=>?_;rw[mJ,<-iZ];have YK:=dI.new (o:=.lst (((Q1++w::Q2).take Q1.length).map enc)) f12;refine jB (.ref (YK _ _ gX)) (.ref ax) (xW (by simp only[au,bO];lia)) λp13 f13=>?_;rw[<-aC];have l13:=YK.trans (dI.new (o:=.lst ((X++(Q1++w::Q2).take Q1.length).map enc)) f13);refine jz (.ref (l13 _ _ gB')) λp14 f14=>?_;rw[Oi,<-i5];have l14:=dI.new (o:=.lst (((Q1++w::Q2).drop (Q1.length+1)).map enc)) f14;refine jB (.ref (l14 _ _ ax)) (.ref ax) (xW (by simp only[au,bO,aA,bP,ag];lia)) λp15 f15=>?_;rw[<-aC];have eX:X++(Q1++w::Q2).take Q1.length++(Q1++w::Q2).drop (Q1.length+1)=T:=by rw[aS,rest_eq];exact eT
 refine fM (xs:=X++(Q1++w::Q2).take Q1.length++(Q1++w::Q2).drop (Q1.length+1)) ((l13.trans l14).trans (.new f15)) ((l13.trans l14).free f15) ax ?_;rw[eX];have rT:=k8 dT;refine gR ⟨xW (by rw[au];have:=dT.str;lia),?_⟩;refine jq (xs:=T) (λpr acc τ G2=>G5=G2/\(∃a,τ=[a])/\acc=(pr.map gK).map enc) ⟨rfl,@A,rfl⟩ @ca ?_ ?_
 .rintro pr x po acc τ G2 N3 e2 ⟨rfl,⟨a,rfl⟩,rfl⟩ Bu;simp![aF,b8,aR,aq,ar,aK];have hx:x∈T:=by rw[e2];simp
  refine bW ⟨x,rfl,⟨by have:=rT x hx;lia,Ct dT x hx⟩,bW (Bu _ _ _ ⟨rfl,@A,?_⟩)⟩;rw[aC,aC];rfl
 .rintro acc τ G2 ⟨rfl,⟨a,rfl⟩,rfl⟩ p f;exact fM (xs:=T.map gK) (lX.trans (.new f)) (lX.free f) ax q
end JT
namespace JT
open K2.P K2.J K2.JB
open K2.JE (gQ gS ot oq)
open K2.KC (rh cR iF)
open K2.Y (Po L ND NZ fF fW gU fE)
theorem acs(d:@Z)(h:(⟨i,2⟩:T2)∈@bp):∃R1 R2:Rows,rows=R1++[]::R2/\i=R1.length:=by
 obtain⟨R1,R2,r,k,w⟩:=Yk h;rcases w.h with ⟨P,x,Q,rfl,hx,_⟩ |⟨rfl,hs,_⟩
 .have hx2:x.b=2:=congrArg T2.b hx;have:=d.way x (by rw[w.e];simp);lia
 .exact⟨R1,R2,w.e,congrArg T2.a hs⟩
theorem acu(d:@Z)(hn:n∉@cS)(hw:w=0\/w=1):(⟨n,w⟩:T2)∉@bp:=λz=>by
 obtain⟨R1,R2,r,k,wh⟩:=Yk z;rcases wh.h with ⟨P,x,Q,rfl,hx,_⟩ |⟨rfl,hs,_⟩
 .have hp:x∈rows.flatten:=by rw[wh.e];simp
  have ea:x.a=n:=congrArg T2.a hx;refine hn ?_;unfold rh;rcases d.way x hp with h0 |h1
  .exact List.mem_map.mpr ⟨x,List.mem_filter.mpr ⟨hp,by simp[h0]⟩,ea⟩
  .exact List.mem_map.mpr ⟨_,List.mem_filter.mpr ⟨d.CY x hp,by simp[h1]⟩,ea⟩
 .have:w=2:=congrArg T2.b hs;lia
def uU:gq :=
 (bJ (bh (aR cR @aR) (aF 2))
 (bJ (d6 (fI (aN @bI (aN pC @m (dC (.int 3))) @H)) (bK (b8 (eQ (aq (aR jT (aq @p (aq (aN fk @E (aN pC (aN uZ @m (dC (.int 3))) (dC (.int 999)))) aK))) (aq (aN pC (aN uZ @m (dC (.int 6))) @a8) aK))))) cj)
 (bJ (d6 (vn (fI (aN @bI (aN pC @m (dC (.int 3))) @E)) (fI (aN (zT true) (aN fQ @j @H) (eS aK)))) (bK (b8 (eQ (aq @H (aq @a8 aK))))) cj)
 (bK (b8 (eQ (aq (aN fk (jw ja @aR) (aN pC (aN uZ @m (dC (.int 3))) (dC (.int 5)))) (aq @a8 aK))))))))
def lJ:iS:=λds G Q _=>∃(rows:Rows) (c:Int),ds=[enc rows,.int c]/\(@Z/\1<=rows.length)/\∀(s:T2) (G':Gp),@G->s∉@bp->Q (enc s) G'
theorem DY(ds)(G)(Q)(h:lJ ds G Q @z):uU @q @F (aP 3 ds) G:=by
 obtain⟨rows,c,rfl,⟨d,h1⟩,q⟩:=h;have BX:=d.BX;have ol:=iF rows.flatten;unfold uU;simp![bh,aR,aq,ar,aP,aO,aK,aF,ends];refine⟨rows,rfl,(show rows.flatten.length<=500 by lia),?_⟩;refine cX (λτ G'=>G=G'/\τ=[@aF,some (.int c),some (enc (@cS))]) ?_ ?_
 .intro N hN;simp![d6,aN,ar,dC,bK,b8,eQ,aq,aR,aK,cj];refine⟨@g,_,_,@S,@S,?_⟩;simp![my];by_cases c1:c % 3=0
  .have c1':(c % 3 == 0)=true:=by simpa using c1
   simp only[c1',↓if_true];refine⟨@g,@g,@g,_,@cS,_,rfl,IsL.enc _,⟨@d,@d,@d⟩,λm m1 m2 m3=>?_⟩;simp!;refine⟨@g,@g,@g,@g,bW (q ⟨m,c / 6 % 2⟩ _ (.refl _) (acu d m1 @c))⟩
  .have c1':(c % 3 == 0)=false:=by simpa using c1
   simp only[c1',↓aj,↓if_false];exact hN _ _ @a_
 rintro _ _ ⟨rfl,rfl⟩;refine cX (λτ G'=>@G/\τ=[@aF,some (.int c),some (enc (@cS))]) ?_ ?_
 .intro N hN;simp![d6,vn,aN,ar,dC,eS,aK,bK,b8,eQ,aq,cj];refine⟨@g,_,_,@S,@S,?_⟩;simp![my];by_cases c1:c % 3=1
  .have c1':(c % 3 == 1)=true:=by simpa using c1
   simp only[c1',↓if_true];obtain⟨r,hr⟩:∃r,rows[0]?=@aD:=⟨_,az @c⟩;refine gQ (i:=0) hr ⟨@g,λp hp=>Uz ax ?_⟩;by_cases c2:r=[]
   .simp![c2,decide_true];exact hN _ _ ⟨.new hp,rfl⟩
   .simp![c2,decide_false];refine⟨@g,bW (q ⟨0,2⟩ _ @ar λz=>?_)⟩;obtain⟨R1,R2,e,i0⟩:=acs d z;have:R1=[]:=List.length_eq_zero_iff.mp @c;rw[e,this] at hr;exact c2 (by injection hr with hr;exact hr.symm)
  .have c1':(c % 3 == 1)=false:=by simpa using c1
   simp only[c1',↓aj,↓if_false];exact hN _ _ ⟨.refl _,rfl⟩
 rintro _ G' ⟨le,rfl⟩;simp![bK,b8,eQ,aq,aN,jw,ar,aK,dC];refine gS ?_;simp only[↓cb];refine⟨@g,@g,@g,@g,bW (q ⟨(rows.length:Int)+c / 3 % 5,2⟩ _ le λz=>?_)⟩;obtain⟨R1,R2,e,i0⟩:=acs d z;have:=congrArg dh e;rw[aA,ag] at this;lia
noncomputable def Zh:Po:=[(2,-1),(-2,-1)]
theorem ad0(g):∀T:Po,L (lp g) T=-(L (λj=>g (2+j)) T)-L (λj=>g (-2+j)) T
 |[]=>rfl
 | p::T=>by
  rw[L,L,L,ad0 g T];have e1:lp g p.1=-(g (2+p.1))-g (-2+p.1):=by
   show -(g (p.1+2))-g (p.1-2)=_;rw[HA p.1 2,show p.1-2=-2+p.1 by lia]
  rw[e1,Int.mul_sub,Int.mul_neg];lia
theorem adZ(g)(T):L g (fW Zh T)=L (lp g) T:=by
 rw[Y.zq,ad0];show(-1)*L (λj=>g (2+j)) T+((-1)*L (λj=>g (-2+j)) T+0)=_;lia
def tG:gq :=
 (bK (b8 (DN (aR gU @aR) (aN (t9 false) (aR fE (aq (b8 (Oh @a8 (HJ ID @E) (HJ ID @a8) (HJ ID @E))) (aq (b8 @j) aK))) (aR fE (aq (b8 @m) (aq (b8 @p) aK)))))))
def nF:iS:=λds G Q _=>∃T TA TB:Po,ds=[.kU (bb T),.kU (bb TA),.kU (bb TB)]/\((ND T/\NZ T/\2*T.length<=SZ/\fF T<oG)/\(ND TA/\ND TB/\TA.length*TB.length<=SZ/\fF TA<oG/\fF TB<oG)/\∀g,L (lp g) T=L g (fW TA TB))/\Q (.bl true) G
theorem BE(ds)(G)(Q)(h:nF ds G Q @z):tG @q @F (aP 3 ds) G:=by
 obtain⟨T,TA,TB,rfl,⟨⟨t1,t2,t3,t4⟩,⟨a1,a2,a3,a4,a5⟩,e⟩,q⟩:=h;unfold tG;simp![bK,b8,aR,aq,ar,aP,aK,aN,Oh,dC,HJ,ends];refine⟨_,T,rfl,⟨rfl,t1⟩,t2,?_⟩;simp only[↓aY,↓if_true];have lb:fF Zh<oG:=by unfold oG;exact bC (show fF Zh<2 ^ 10 by decide) (ff @t @t)
 refine⟨⟨rfl,rfl,rfl⟩,λp1 f1=>ie (kvs:=bb Zh) (.new f1) f1 ax (bW ?_)⟩;refine⟨_,_,Zh,T,rfl,⟨rfl,by unfold ND Zh;decide⟩,⟨rfl,t1⟩,t3,⟨lb,t4⟩,λp2 f2=>bW (bW ?_)⟩;refine⟨_,_,TA,TB,rfl,⟨rfl,a1⟩,⟨rfl,a2⟩,a3,⟨a4,a5⟩,λp3 f3=>?_⟩;have n23:p2≠p3:=by ext c;rw[ax] at f3;cases f3
 refine R0 (l:=fW Zh T) (m:=fW TA TB) (zA.ref (by rw[cu n23];exact ax)) (zA.ref ax) ?_;have ee:BA (fW Zh T) (fW TA TB)=true:=Y.GQ (Y.qX _ _) (Y.qX _ _) (Y.yx _) (Y.yx _) λg=>by
  rw[adZ];exact e g
 simp![ee];exact BW ((dI.new f2).trans (.new f3)) q
end JT
namespace JT
open K2.P K2.J K2.JB
open K2.JG (L8 RZ RY GP MB vQ Gj)
open K2.JE (gQ gS ot oq iJ VJ)
open K2.JF (Ct gT je L6 Kj vo vU sI DQ vM)
open K2.Hw (gK)
open K2.Oz (HR)
open K2.T (HL)
open K2.KD (hW)
open K2.KC (rh cR iF)
open K2.Y (Po L ND NZ fF fW gU fE jE bS)
theorem Ja(a k m:Nat):min (a+k) m-min a m<=k:=by
 cases Nat.le_total a m with
 |inl h=>
  rw[nq h];exact aU (Nat.sub_le_sub_right (Nat.min_le_left _ _) _) (VP (nv ..))
 |inr h=>
  rw[Nat.min_eq_right h,Nat.sub_eq_zero_of_le (Nat.min_le_right _ _)];exact cI _
theorem UL(xs:@o){k:Int}{n:Nat}(h:0<=a)(h0:0<=k)(h1:k<=n):(cut xs (some a) (some (a+k))).length<=n:=by
 unfold cut kI;simp only;rw[if_neg (Int.not_lt.mpr h),if_neg (Int.not_lt.mpr (Int.add_nonneg h h0)),Int.toNat_add h h0];exact aU (List.length_take_le ..) (aU (Ja ..) (Int.toNat_le.mpr h1))
theorem EG(h:1<=rows.length):1<=(@bp).length:=by
 cases rows with
 |nil=>simp at h
 | cons r rs=>
  rw[bI,aA];have:1<=(bN r ((0:Nat):Int)).length:=by
   unfold bN;split
   .simp
   .rename_i c;rw[au];exact List.length_pos_iff.mpr c
  lia
theorem agO(h:VJ fs [s]):∃a:Nat,fs=[(a:Int)]/\(a:Int)<s:=by
 match fs,h with
 |[a],h=>
  obtain⟨⟨h1,h2⟩,_⟩:=h;exact⟨a.toNat,by rw[gF h1],by rw[gF h1];exact h2⟩
theorem agN(h:VJ fs [s,t]):∃(a:Int) (b:Nat),fs=[a,(b:Int)]/\0<=a/\a<s/\(b:Int)<t:=by
 match fs,h with
 |[a,b],h=>
  obtain⟨⟨h1,h2⟩,⟨h3,h4⟩,_⟩:=h;exact⟨a,b.toNat,by rw[gF h3],h1,h2,by rw[gF h3];exact h4⟩
theorem Y5{a b c e:Bool}{p:Nat}{G:Gp}{Q:DK}(g:G p=some (.lst [.bl c,.bl e]))(q:Q (.bl ((a == c)&&(b == e))) G):t9 false (.dc [.bl a,.bl b]) @aw G Q:=by
 refine .inl ⟨_,_,.wJ (.bl _) (.wJ (.bl _) .El),.ref g (.wJ (.bl _) (.wJ (.bl _) .El)),?_⟩;have e:i7 (.dc [.bl a,.bl b]) (.dc [.bl c,.bl e])=((a == c)&&(b == e)):=by cases a<;>cases b<;>cases c<;>cases e<;>rfl
 rw[e];exact q
abbrev ZC:iS:=EI
def RS:gq :=
 (bJ (bh (aR bS (aq @j (aq @H aK))) (aF 1))
 (bJ (bh (eS (aq (aN fk @E (aN pC @m (dC (.int 3)))) (aq (aN fk @E (aN pC (aN uZ @m (dC (.int 3))) (dC (.int 3)))) aK))) (aF 2))
 (bJ (d6 (fI (aN (t9 true) (aN pC (aN uZ @m (dC (.int 9))) (dC (.int 4))) @E)) (bh (aN fk @E (aN pC (aN uZ @m (dC (.int 3))) (aN Lp (dC (.int 4)) (aN fQ @p @H)))) (iH @p @E)) cj)
 (bJ (bh (dC (.int 4)) (aF 3))
 (bJ (d6 (fI (aN (t9 false) (aN pC (aR bS (aq @j (aq @E aK))) (dC (.int 4))) @E)) (bh (dC (.int 11)) (aF 3)) cj)
 (bJ (bh (b8 (aR gi (aq (b8 (pI @j (ib (dC (.int 6))) (ib (aN fk (dC (.int 6)) (aN pC (aR bS (aq @j (aq @a8 aK))) @O))))) (aq (b8 (aN fQ @p @H)) (aq (b8 (dC (.int 999))) aK))))) (aF 4))
 (bJ (bh (b8 (aR gi (aq (b8 (pI @j (ib (dC (.int 16))) (ib (aN fk (dC (.int 16)) (aN pC (aR bS (aq @j (aq (dC (.int 3)) aK))) @O))))) (aq (b8 (aN fQ @p @E)) (aq (b8 (dC (.int 12))) aK))))) (aF 5))
 (bJ (bh (eS (aq (aR og (aq @R aK)) (aq (aR og (aq (ar 5) aK)) aK))) (aF 6))
 (bJ (bh (aR iJ (aq (b8 (aR bS (aq @j (aq (dC (.int 4)) aK)))) (aq (b8 (eS (aq (dC (.int 10)) (aq (jw ja (aq (aN fQ (ar 6) @H) aK)) aK)))) aK))) (Ma (cq (aF 7) (cq (aF 8) gH))))
 (bJ (bh (aN fQ (aN fQ (ar 6) @H) (ar 8)) (aF 9))
 (bJ (bh (aN fQ (aN fQ (ar 6) @E) (aN fQ (aR iJ (aq (b8 (aR bS (aq @j (aq (dC (.int 5)) aK)))) (aq (b8 (eS (aq (jw ja (aq (aN fQ (ar 6) @E) aK)) aK))) aK))) @H)) (aF 10))
 (bJ (d6 (fI (aN (t9 false) (ar 7) @H)) (bh (aR lJ (aq @R (aq (aR bS (aq @j (aq (dC (.int 5)) aK))) aK))) (aF 9)) cj)
 (bJ (d6 (fI (aN (t9 false) (ar 7) @E)) (bh (aR lJ (aq (ar 5) (aq (aR bS (aq @j (aq (dC (.int 5)) aK))) aK))) (aF 10)) cj)
 (bJ (bh (b8 (eS (aq (aR iC (aq (b8 @R) aK)) (aq (aR iC (aq (b8 (ar 5)) aK)) aK)))) (aF 11))
 (bJ (bh (aN fk (jw ja (aq (aR cR (aq @R aK)) aK)) (jw ja (aq (aR cR (aq (ar 5) aK)) aK))) (aF 12))
 (bJ (d6 (A8 (fI (aN Wo (aN fk (aN fQ @p @H) (aN fQ @p @E)) (dC (.int 4)))) (fI (aN Wo (ar 12) (dC (.int 12))))) (bK (b8 (aN (t9 false) (aR jS (aq (aN fQ (ar 11) @H) (aq (ar 9) (aq (aN fQ (ar 11) @E) (aq (ar 10) aK))))) (eS (aq (dC (.bl true)) (aq (dC (.bl false)) aK)))))) cj)
 (bJ (d6 (fI (aN ZN (ar 7) @a8)) (bK (b8 (aN (t9 false) (aR jS (aq (aN fQ (ar 11) @H) (aq (ar 9) (aq (aN fQ (ar 11) @E) (aq (ar 10) aK))))) (eS (aq (dC (.bl false)) (aq (dC (.bl true)) aK)))))) cj)
 (bJ (bh (b8 (aR w6 (aq @R (aq (ar 9) (aq (ar 5) (aq (ar 10) aK)))))) (aF 13))
 (bJ (bh (aR x9 (aq (b8 (aN fQ (ar 11) @H)) (aq (b8 (ar 9)) (aq (b8 (aN fQ (ar 11) @E)) (aq (b8 (ar 10)) aK))))) (aF 14))
 (bJ (d6 (A8 (ly (fI (vm je (aq (ar 14) (aq (ar 13) aK))))) (fI (aN (t9 true) (ar 11) (eS (aq @R (aq (ar 5) aK)))))) (bK (b8 (dC (.bl false)))) cj)
 (bJ (d6 (vn (fI (aN ZN (ar 12) (dC (.int 7)))) (ly (fI (aR nF (aq (vm mj (aq (ar 14) aK)) (aq (aR mj (aq (b8 @R) aK)) (aq (aR mj (aq (b8 (ar 5)) aK)) aK))))))) (bK (b8 (dC (.bl false)))) cj)
 (bJ (di (la (ar 14)) (aF 15) (fK (mi D9 j7 (ar 15) (aq (eQ (aq @E (aq @H (aq @E aK)))) aK))))
 (bK (b8 (DN (aN (t9 false) (ar 11) (eS (aq @R (aq (ar 5) aK)))) (vm je (aq (aR x9 (aq (b8 (aN fQ (ar 11) @H)) (aq (b8 (ar 9)) (aq (b8 (aN fQ (ar 11) @E)) (aq (b8 (ar 10)) aK))))) (aq (ar 13) aK))))))))))))))))))))))))))))
theorem abo(ds)(G)(Q)(h:ZC ds G Q @z):RS @q @F (aP 16 ds) G:=by
 obtain⟨ns,rfl,hl,hG,q⟩:=h;unfold RS;simp![bh,aR,aq,ar,aP,aO,dC,aK,aF,eS,aN,ends];refine⟨ns,0,rfl,@g,?_⟩;generalize jE ns 0=c0;simp only[↓eD,↓cb,↓fV];refine⟨@g,@g,@g,@g,@g,λp2 f2=>?_⟩;refine cX (λτ G'=>∃s0 s1:Nat,(1<=s0/\s0<=3)/\(1<=s1/\s1<=3)/\G' p2=some (.lst [.int s0,.int s1])/\τ=[some (.dc (@av)),some (.int c0),@bS,none,none,none,none,none,none,none,none,none,none,none,none,none]) ?_ ?_
 .intro N hN;simp![d6,aN,ar,dC,bh,iH,cj];refine⟨@g,@g,@g,yu ?_⟩;by_cases c:c0 / 9 % 4=1
  .simp![c,decide_true];refine hN _ _ ⟨(1+c0 % 3).toNat,(1+c0 / 3 % 3).toNat,@d,@d,?_,rfl⟩;rw[ax,gF @c,gF @c]
  .simp![c,decide_false];have a0:∀x y:D,rN [x,y] 0=@aa:=λ_ _=>rfl;have z1:∀x y:D,Gx [x,y].length 1=some 1:=λ_ _=>rfl;refine⟨@g,@g,?_⟩;rw[mF ax (a0 _ _)];simp only[↓iD,↓eD,↓cb];have h1:=nC (c0 / 3) (show 4-(1+c0 % 3)≠0 by lia);have h2:=kE (c0 / 3) (show 0<4-(1+c0 % 3) by lia);refine⟨@d,?_⟩;unfold wC;simp only[ax,z1];refine hN _ _ ⟨(1+c0 % 3).toNat,(1+c0 / 3 % (4-(1+c0 % 3))).toNat,@d,@d,?_,rfl⟩;rw[ax,gF @c,gF @c];rfl
 rintro _ G0 ⟨s0,s1,hs0,hs1,g2,rfl⟩;simp![bh,dC,aF];refine cX (λτ G'=>G0=G'/\∃m:Int,0<m/\m<=11/\τ=[some (.dc (@av)),some (.int c0),@bS,some (.int m),none,none,none,none,none,none,none,none,none,none,none,none]) ?_ ?_
 .intro N hN;simp![d6,aN,aR,aq,ar,dC,aK,bh,aF,cj];refine⟨ns,1,rfl,@g,?_⟩;simp only[↓eD];refine⟨@g,yu ?_⟩;by_cases c:jE ns 1 % 4=1
  .simp![c,decide_true];exact hN _ _ ⟨rfl,11,@g,@g,rfl⟩
  .simp![c,decide_false];exact hN _ _ ⟨rfl,4,@g,@g,rfl⟩
 rintro _ _ ⟨rfl,m,m0,m11,rfl⟩;simp![bh,b8,aR,aq,pI,ar,dC,aN,aK,aF,eS,jw];refine⟨ns,2,rfl,@g,?_⟩;simp only[↓eD,↓cb,↓cY];refine⟨@d,?_⟩;have k0:=nC (jE ns 2) (show m≠0 by lia);have k1:=kE (jE ns 2) m0;have k2:=nC (jE ns 3) (show m≠0 by lia);have k3:=kE (jE ns 3) m0;generalize jE ns 2 % m=ka at k0 k1;have a0:∀x y:D,rN [x,y] 0=@aa:=λ_ _=>rfl;have a1:∀x y:D,rN [x,y] 1=some y:=λ_ _=>rfl;rw[qu];intro pS fS;have cl1:(cut ns (some 6) (some (6+ka))).length<=10:=UL ns @t k0 @c;generalize cut ns (some 6) (some (6+ka))=cells at cl1;refine fM (xs:=cells) (.new fS) fS ax ?_;rw[mF g2 (a0 _ _)];refine bW (bW ⟨_,cells,s0,999,rfl,IsL.enc cells,⟨@d,hs0,@g,@g⟩,λA dA lA fA=>bW ?_⟩);refine⟨ns,3,rfl,@g,?_⟩;simp only[↓eD,↓cb,↓cY];refine⟨@d,?_⟩;generalize jE ns 3 % m=kb at k2 k3;rw[qu];intro pS2 fS2;have cl2:(cut ns (some 16) (some (16+kb))).length<=10:=UL ns @t k2 @c;generalize cut ns (some 16) (some (16+kb))=Mu at cl2;refine fM (xs:=Mu) (.new fS2) fS2 ax ?_;rw[mF g2 (a1 _ _)];refine bW (bW ⟨_,Mu,s1,12,rfl,IsL.enc Mu,⟨@d,hs1,@g,@g⟩,λB dB lB fB=>bW ?_⟩);have nA:(rh A.flatten).length=@ax:=(BK _).symm;have nB:(rh B.flatten).length=@bi:=(BK _).symm;have tA:=Zi.twice dA;have tB:=Zi.twice dB;have rA:=k8 dA;have rB:=k8 dB;have spA:=zN dA;have spB:=zN dB;have ajk:=EG (rows:=A) @c;have ajj:=EG (rows:=B) @c;refine⟨A,rfl,dA,⟨B,rfl,dB,⟨@g,λp6 f6=>?_⟩⟩⟩;show bS _ (dw G0 p6 (.lst [enc (bI A 0),enc (bI B 0)])) _ _;have n26:p2≠p6:=by ext c;rw[g2] at f6;cases f6
 have g6:dw G0 p6 (.lst [enc (bI A 0),enc (bI B 0)]) p6=some (.lst [enc (bI A 0),enc (bI B 0)]):=ax;have XH:dw G0 p6 (.lst [enc (bI A 0),enc (bI B 0)]) p2=some (.lst [.int s0,.int s1]):=by rw[cu n26];exact g2
 generalize dw G0 p6 (.lst [enc (bI A 0),enc (bI B 0)])=G4 at g6 XH;refine⟨ns,4,rfl,@g,bW ?_⟩;rw[mF g6 (a0 _ _)];refine gS ⟨@g,λp7 f7=>?_⟩;refine fM (xs:=[(10:Int),((bI A 0).length:Int)]) (.new f7) f7 ax ?_;refine⟨_,[(10:Int),((bI A 0).length:Int)],rfl,⟨(pR rfl:2<=10),λs hs=>?_⟩,λfs dg=>?_⟩
 .rcases List.mem_cons.mp hs with rfl |hs
  .decide
  .rw[List.mem_singleton.mp hs];lia
 obtain⟨sM,at',rfl,lk0,lk1,AZ⟩:=agN dg;show Ma (cq (aF 7) (cq (aF 8) gH)) _ (.dc [.int sM,.int at']) _ _ _;simp![Ma,qm,cq,aF,gH,bh,aN,ar,dC,aR,aq,b8,aK,eS,jw];obtain⟨a,ha⟩:∃a,(bI A 0)[at']?=some a:=⟨_,az @c⟩;rw[mF g6 (a0 _ _)];refine gQ ha ?_;rw[mF g6 (a1 _ _)];refine⟨ns,5,rfl,@g,bW ?_⟩;rw[mF g6 (a1 _ _)];refine gS ⟨@g,λp8 f8=>?_⟩;refine fM (xs:=[((bI B 0).length:Int)]) (.new f8) f8 ax ?_;refine⟨_,[((bI B 0).length:Int)],rfl,⟨(pR rfl:1<=10),λs hs=>by rw[List.mem_singleton.mp hs];lia⟩,λfs2 dg2=>?_⟩;obtain⟨bt,rfl,hbt⟩:=agO dg2;obtain⟨b,hb⟩:∃b,(bI B 0)[bt]?=some b:=⟨_,az @c⟩;refine gQ (i:=0) rfl ?_;rw[y8];refine gQ hb ?_;have am:=cp ha;have bm:=cp hb;refine cX (λτ G'=>dI G4 G'/\∃a':T2,(sM=0->a'∉bI A 0)/\(sM≠0->a'=a)/\τ=[some (.dc (@av)),some (.int c0),@bS,some (.int m),some (enc A),some (enc B),some (.ref p6),some (.int sM),some (.int at'),some (enc a'),some (enc b),none,none,none,none,none]) ?_ ?_
 .intro N hN;simp![d6,aN,ar,dC,bh,aR,aq,aK,aF,cj];refine yu ?_;by_cases c:sM=0
  .subst c;simp![decide_true];refine⟨ns,5,rfl,@g,⟨A,_,rfl,⟨dA,@d⟩,λs G' le hs=>?_⟩⟩;exact hN _ _ ⟨le,s,λ_=>hs,λz=>absurd rfl z,rfl⟩
  .simp![c,decide_false];exact hN _ _ ⟨.refl _,a,λz=>absurd z c,λ_=>rfl,rfl⟩
 rintro _ G5 ⟨le5,a',ha1,ha2,rfl⟩;refine cX (λτ G'=>dI G4 G'/\∃b':T2,(sM=1->b'∉bI B 0)/\(sM≠1->b'=b)/\τ=[some (.dc (@av)),some (.int c0),@bS,some (.int m),some (enc A),some (enc B),some (.ref p6),some (.int sM),some (.int at'),some (enc a'),some (enc b'),none,none,none,none,none]) ?_ ?_
 .intro N hN;simp![d6,aN,ar,dC,bh,aR,aq,aK,aF,cj];refine yu ?_;by_cases c:sM=1
  .subst c;simp![decide_true];refine⟨ns,5,rfl,@g,⟨B,_,rfl,⟨dB,@d⟩,λs G' le hs=>?_⟩⟩;exact hN _ _ ⟨le5.trans le,s,λ_=>hs,λz=>absurd rfl z,rfl⟩
  .simp![c,decide_false];exact hN _ _ ⟨le5,b,λz=>absurd z c,λ_=>rfl,rfl⟩
 rintro _ G6 ⟨le6,b',hb1,hb2,rfl⟩;have g26:=le6 _ _ XH;clear le5 g6 XH f6 f7 f8 le6;simp![bh,b8,eS,aq,aR,ar,aK,aF,aN,jw];refine bW ⟨A.map λr=>@aI,by rw[hW],by rw[au];lia,λG7 q1 bs1 hl1=>?_⟩;refine bW ⟨B.map λr=>@aI,by rw[hW],by rw[au];lia,λG8 q2 bs2 Bt=>?_⟩;refine⟨@g,λq3 f3=>?_⟩;have l4:dI G6 (dw G8 q3 (.lst [.ref q1,.ref q2])):=hl1.le.trans (Bt.le.trans (.new f3));refine Ab l4 ((hl1.le.trans Bt.le).free f3) ax (ss:=[enc A,enc B]) (.cons (L8 hl1 (.refl _) (Bt.le.trans (.new f3))) (.cons (L8 Bt hl1.le (.new f3)) .nil)) ?_;rw[show D.dc [enc A,enc B]=enc [A,B] from rfl];refine⟨A,rfl,(show A.flatten.length<=500 by lia),gS ⟨B,rfl,(show B.flatten.length<=500 by lia),gS ?_⟩⟩;rw[nA,nB];simp only[↓cb];refine cX (λτ G'=>G6=G'/\(s0+s1<=4/\@ax+@bi<=12)/\τ=[some (.dc (@av)),some (.int c0),@bS,some (.int m),some (enc A),some (enc B),some (.ref p6),some (.int sM),some (.int at'),some (enc a'),some (enc b'),some (enc [A,B]),some (.int ((@ax:Int)+(@bi:Int))),none,none,none]) ?_ ?_
 .intro N hN;have ref:(4<@cF\/12<@ax+@bi)->aN (t9 false) (aR jS (aq (aN fQ (ar 11) @H) (aq (ar 9) (aq (aN fQ (ar 11) @E) (aq (ar 10) aK))))) (eS (aq (dC (.bl true)) (aq (dC (.bl false)) aK))) @q [some (.dc (@av)),some (.int c0),@bS,some (.int m),some (enc A),some (enc B),some (.ref p6),some (.int sM),some (.int at'),some (enc a'),some (enc b'),some (enc [A,B]),some (.int ((@ax:Int)+(@bi:Int))),none,none,none] G6 (λx G1=>QC G1 x Q):=λhh=>by
   simp![aN,aR,aq,ar,dC,aK,eS];refine RZ (RY ⟨A,B,a',b',true,rfl,⟨dA,dB,.inl ⟨rfl,hh⟩⟩,?_⟩);refine⟨@g,λp7 f7=>Y5 ax (bW (q _))⟩
  simp![d6,A8,aN,ar,dC,bK,b8,aR,aq,aK,eS,cj];rw[mF g26 (a0 _ _),mF g26 (a1 _ _)];simp only[↓cb,↓jg,↓aY];by_cases c:(4:Int)<(s0:Int)+s1
  .simp only[decide_eq_true c,↓if_true];exact ref (.inl @c)
  .by_cases c2:(12:Int)<(@ax:Int)+(@bi:Int)
   .simp![decide_eq_false c,decide_eq_true c2];exact ref (.inr @c)
   .simp![decide_eq_false c,decide_eq_false c2];exact hN _ _ ⟨rfl,@d,rfl⟩
 rintro _ _ ⟨rfl,⟨hs,hn⟩,rfl⟩;have Ea:@cF<=4:=@d
 refine cX (λτ G'=>G6=G'/\2<=sM/\τ=[some (.dc (@av)),some (.int c0),@bS,some (.int m),some (enc A),some (enc B),some (.ref p6),some (.int sM),some (.int at'),some (enc a'),some (enc b'),some (enc [A,B]),some (.int ((@ax:Int)+(@bi:Int))),none,none,none]) ?_ ?_
 .intro N hN;simp![d6,aN,ar,dC,bK,b8,aR,aq,aK,eS,cj];by_cases c:sM<2
  .simp only[decide_eq_true c,↓if_true];refine RZ (RY ⟨A,B,a',b',false,rfl,⟨dA,dB,.inr ⟨rfl,⟨Ea,hn⟩,?_⟩⟩,?_⟩)
   .by_cases z:sM=0
    .exact .inl (ha1 z)
    .exact .inr (hb1 @c)
   .exact⟨@g,λp7 f7=>Y5 ax (bW (q _))⟩
  .simp only[decide_eq_false c,↓aj,↓if_false];exact hN _ _ ⟨rfl,@d,rfl⟩
 rintro _ _ ⟨rfl,hlk,rfl⟩;have am':a'∈bI A 0:=by rw[ha2 @c];exact am
 have bm':b'∈bI B 0:=by rw[hb2 @c];exact bm
 simp![bh,b8,aR,aq,ar,aK,aF,aN,dC];refine⟨A,B,a',b',rfl,⟨dA,dB,am',bm',Ea,hn⟩,λR1 R2 S1 S2 r s k v wA wB=>bW ?_⟩;have abU:∀{G:Gp} {Q:DK},(∀p as G',HR G G' p as ((@cl).map gK)->Q @aw G')->x9 [enc A,enc a',enc B,enc b'] G Q @z:=λh=>⟨A,B,R1,R2,S1,S2,r,s,k,v,a',b',rfl,⟨dA,dB,wA,wB,Ea,hn⟩,h⟩;obtain⟨dT,bT⟩:=FX (k:=k) (v:=v) dA dB wA.e wB.e Ea hn;obtain⟨dD,bD⟩:=DQ dT λr _=>vM r;have tD0:((@cl).map gK).flatten.length=A.flatten.length+B.flatten.length:=by
  rw[(JF.RN λr _=>vM r).2.1.length_eq];unfold w4;rw[xU.length_eq,aA];have e:∀(m:D4.M) (X:Rows),(X.map (D4.gI m)).flatten.length=X.flatten.length:=λm X=>by rw[Gj,vQ,au]
  have eA:=e (JG.mA A) A;have eB:=e (JG.mB A B) B
  conv at eA=>lhs;arg 1;arg 1;arg 2;rw[wA.e]
  conv at eB=>lhs;arg 1;arg 1;arg 2;rw[wB.e]
  rw[aC,ak] at eA eB;rw[eA,eB]
 have bL:∀g,brk ((@cl).map gK) (lp g)=brk A (JG.Pf (brk B) g):=λg=>by rw[bD,bT]
 have rD:=k8 dD;generalize (@cl).map gK=T at *;clear dT bT bD;have szD:T.length<=1000/\∀x∈T,x.length<=1000:=⟨by have:=dD.str;lia,λx hx=>by have:=rD x hx;lia⟩;refine RZ (bW (bW (RY (bW (bW (abU λp1 as1 G1 hr1=>?_))))));refine cX (λτ G'=>dI G1 G'/\τ=[some (.dc (@av)),some (.int c0),@bS,some (.int m),some (enc A),some (enc B),some (.ref p6),some (.int sM),some (.int at'),some (enc a'),some (enc b'),some (enc [A,B]),some (.int ((@ax:Int)+(@bi:Int))),some (enc T),some (.ref p1),none]) ?_ ?_
 .intro N hN;simp![d6,A8,ly,↓vo,aq,ar,aK,bK,b8,dC,cj,aN,eS];refine vU hr1 szD ?_;simp!;refine⟨@g,λp7 f7=>GP ax ?_⟩;simp!;exact hN _ _ ⟨.new f7,rfl⟩
 rintro _ G3 ⟨le3,rfl⟩;have hA:=Yh.NR hr1 le3;refine cX (λτ G'=>dI G3 G'/\τ=[some (.dc (@av)),some (.int c0),@bS,some (.int m),some (enc A),some (enc B),some (.ref p6),some (.int sM),some (.int at'),some (enc a'),some (enc b'),some (enc [A,B]),some (.int ((@ax:Int)+(@bi:Int))),some (enc T),some (.ref p1),none]) ?_ ?_
 .intro N hN;simp![d6,vn,aN,ar,dC,ly,aR,aq,b8,aK,bK,cj];by_cases c6:(@ax:Int)+(@bi:Int)<7
  .simp![c6,decide_true,↓vo,aq,ar,aK];refine sI hA dD @c λU bU=>?_;refine bW ⟨A,rfl,⟨dA,@d⟩,λTA bA=>bW ⟨B,rfl,⟨dB,@d⟩,λTB bB=>?_⟩⟩;have n1:=MB bA;have n2:=MB bB;have lA1:lo A<=A.length:=dM _ _;have lB1:lo B<=B.length:=dM _ _;have pr:fF TA*fF TB<=4194304:=by
    refine aU (uC n1 n2) ?_;have e:8 ^ @ax*2 ^ lo A*(8 ^ @bi*2 ^ lo B)=8 ^ (@ax+@bi)*2 ^ (lo A+lo B):=by
     rw[Nat.pow_add,Nat.pow_add,Nat.mul_mul_mul_comm]
    rw[e];refine aU (uC (ff (n:=8) @t (show _<=6 by lia)) (ff (n:=2) @t (show _<=4 by lia))) @t
   have lt:TA.length*TB.length<=SZ:=aU (uC (xf bA.nz) (xf bB.nz)) (aU pr @t);refine⟨U,TA,TB,rfl,⟨⟨bU.nd,bU.nz,?_,bU.big⟩,⟨bA.nd,bB.nd,lt,bA.big,bB.big⟩,λg=>?_⟩,?_⟩
   .have:=bU.len;exact aU (Ce 2 this) @t
   .rw[bU.val,bL,Y.zq,<-bA.val];congr 1;funext i;show brk B (sh i g)=_;rw[<-bB.val];congr 1;funext j;show g (j+i)=g (i+j);rw[HA]
   .simp!;exact hN _ _ ⟨.refl _,rfl⟩
  .simp![c6,decide_false];exact hN _ _ ⟨.refl _,rfl⟩
 rintro _ G5 ⟨le5,rfl⟩;have hB:=Yh.NR hA le5;have HK:∀a∈as1,∃r:@r,r.length<=24/\G5 a=some (.lst (@aI)):=λa ha=>by
  obtain⟨r,hr,e⟩:=L6 hB ha;exact⟨r,rD r hr,e⟩
 refine cX (λτ G'=>∃x,τ=[some (.dc (@av)),some (.int c0),@bS,some (.int m),some (enc A),some (enc B),some (.ref p6),some (.int sM),some (.int at'),some (enc a'),some (enc b'),some (enc [A,B]),some (.int ((@ax:Int)+(@bi:Int))),some (enc T),some (.ref p1),x]) ?_ ?_
 .intro N hN;simp![di,ar,NO,hB.gp];refine cT (xs:=as1) (f:=D.ref) (λpre τ G'=>(∃x,τ=[some (.dc (@av)),some (.int c0),@bS,some (.int m),some (enc A),some (enc B),some (.ref p6),some (.int sM),some (.int at'),some (enc a'),some (enc b'),some (enc [A,B]),some (.int ((@ax:Int)+(@bi:Int))),some (enc T),some (.ref p1),x])/\G' p1=some (.lst (as1.map D.ref))/\∀(i a:Nat),pre.length<=i->as1[i]?=some a->∃r:@r,r.length<=24/\G' a=some (.lst (@aI))) ⟨@A,hB.gp,λi a _ h=>HK a (cp h)⟩ (λ_ _ _ h=>h.2.1) ?_ ?_
  .rintro pre b post τ G' N2 e ⟨⟨x,rfl⟩,gp,AZ⟩ kF;have hb:as1[pre.length]?=some b:=@a6
   obtain⟨r,rl,gb⟩:=AZ pre.length b @J hb;simp![aF,fK,mi,ar,gb,aq,eQ,dC,aK];refine⟨@g,Cq @bK,kF _ _ ⟨@A,?_,λi a h0 h1=>?_⟩⟩
   .rw[cu (by ext c;exact hB.np (cp hb))];exact gp
   .rw[aA,cP] at h0;have pX:a≠b:=by
     ext c;have h3:=@c8;have h4:=List.getElem?_eq_some_iff.mp hb;exact List.pairwise_iff_getElem.mp hB.nd pre.length i h4.1 h3.1 @c (h4.2.trans h3.2.symm)
    rw[cu pX];exact AZ i a @c h1
  .rintro τ G' ⟨⟨x,rfl⟩,_⟩;exact hN _ _ @A
 rintro _ G8 ⟨x,rfl⟩;simp![bK,b8,aN,ar,eS,aq,aK,↓vo,aR,dC];refine⟨@g,λp7 f7=>GP ax ?_⟩;simp!;refine RZ (bW (bW (RY (bW (bW (abU λp9 as9 G9 hr9=>?_))))));refine vU hr9 szD ?_;exact bW (q _)
end JT
end K2
end
namespace Fin
open PySem PySem.Spec PyProof.Rows L2 K2
open K2.JB hiding gi
open K2.JE (iJ wU gi vG)
open K2.JF (gT wR je Bi)
open K2.JG (jf zk lI vC)
open K2.JT
open K2.K29 (iI wQ)
open K2.KC (cR zo)
open K2.Yh (vL FG fC vA)
open K2.D4 (fD vB eL tU)
open K2.Mo (jO Bg gG tT)
open K2.P (jR vD iw vE k7 D1 sk DV jP Bh gP zj)
open K2.Y
noncomputable abbrev nl:@v:=["bool","dict","enumerate","int","isinstance","len","list","min","range","sorted","tuple","zip"]
structure Al(K:aw):Prop where
 n:Ox K nl
 F46:l0 K "_law_cell_at" (top 46)
 F48:l0 K "_law_pick" (top 48)
 F55:l0 K "_law_digits" (top 55)
 F53:l0 K "_law_free" (top 53)
 F52:l0 K "_law_copy" (top 52)
 F54:l0 K "_law_put" (top 54)
 F56:l0 K "_law_drawing" (top 56)
 F58:l0 K "_law_spots" (top 58)
 F57:l0 K "_law_names" (top 57)
 F66:l0 K "_law_no_spot" (top 66)
 F8:l0 K "passings_of" (top 8)
 F11:l0 K "names_of" (top 11)
 F21:l0 K "numbering" (top 21)
 F20:l0 K "refuse_many" (top 20)
 F13:l0 K "spots_on" (top 13)
 F15:l0 K "string_of" (top 15)
 F25:l0 K "tied" (top 25)
 F62:l0 K "_law_refused" (top 62)
 F63:l0 K "_law_found" (top 63)
 F61:l0 K "_law_numbered" (top 61)
 F59:l0 K "_law_seated" (top 59)
 F64:l0 K "_law_due" (top 64)
 F22:l0 K "renamed_row" (top 22)
 F24:l0 K "ring_behind" (top 24)
 F17:l0 K "with_put" (top 17)
 F18:l0 K "renamed_spot" (top 18)
 F23:l0 K "renamed_rows" (top 23)
 F9:l0 K "seated" (top 9)
 F10:l0 K "seated_rows" (top 10)
 F47:l0 K "_law_whole" (top 47)
 F60:l0 K "_law_rows" (top 60)
 F49:l0 K "_law_poly" (top 49)
 F50:l0 K "_law_pared" (top 50)
 F51:l0 K "_law_product" (top 51)
 F65:l0 K "_law_balanced" (top 65)
 F12:l0 K "hand_of" (top 12)
 F14:l0 K "next_of" (top 14)
 F38:l0 K "plan_of" (top 38)
 F40:l0 K "far_ends" (top 40)
 F39:l0 K "whole_plan" (top 39)
 F28:l0 K "without_noughts" (top 28)
 F30:l0 K "times" (top 30)
 F32:l0 K "raised" (top 32)
 F41:l0 K "joined_plan" (top 41)
 F36:l0 K "joints" (top 36)
 F31:l0 K "shifted" (top 31)
 F37:l0 K "power_at" (top 37)
 F29:l0 K "added" (top 29)
 F42:l0 K "opened_at" (top 42)
 F43:l0 K "opened" (top 43)
 F44:l0 K "bracket" (top 44)
 vp:CsZ K "MOST_STRINGS" 3
 rL:CsZ K "MOST_CROSSINGS" 12
 OL:XcZ K "TooMany"
 Rj:XcZ K "NoSpot"
 i0:IoZ K "NoSpot" ["TooMany","NoSpot","KnotError"] ["NoSpot"]
 i1:IoZ K "TooMany" ["TooMany","NoSpot","KnotError"] ["TooMany"]
 z2:CtZ K "KnotError" ["TooMany","NoSpot","KnotError"]
 Hg:CsZ K "ALONG" 0
 Qp:CsZ K "AGAINST" 1
 Uo:GdZ K "LOOP" [(2,-1),(-2,-1)]
section
seal PySem.binaryOp PySem.compareOp PySem.unaryOp pJ xA eU wO HM U4 Be Bf Kd oH abm pL K2.Fx K2.ja K2.vq K2.MA K2.qv K2.Qq K2.vn K2.DN K2.bh K2.aN K2.dC K2.jw K2.aR K2.vm K2.qM K2.e7 K2.aq K2.kC K2.tS K2.Oh K2.Ba K2.Ql K2.Og K2.fK K2.di K2.b8 K2.JW K2.dIf K2.d6 K2.JV K2.A9 K2.eS K2.mi K2.sY K2.cj K2.aK K2.cw K2.ly K2.Of K2.A8 K2.ib K2.sW K2.bK K2.bJ K2.pI K2.fI K2.Fu K2.eQ K2.HJ K2.ar K2.GV K2.cq K2.Ma K2.aF K2.gH K2.iH K2.Dq K2.gY K2.lx K2.yQ K2.Dk K2.iL K2.sP K2.yN K2.u6 K2.la K2.LY K2.j7 K2.vS K2.C4 K2.C3 K2.sH K2.C0 K2.fk K2.zT K2.t9 K2.uZ K2.Wo K2.O7 K2.fQ K2.ZN K2.Wl K2.pC K2.Lq K2.ER K2.ID K2.Lp
theorem fX(h:autoParam (pJ X b t) Aui._auto_1):pJ X b t:=h
theorem ZG:kZ ["_law_script","_law_shape","_law_strings","_law_most","_law_one","_law_other","_law_spots_here","_law_lack","_law_at","_law_spot","_law_other_spot","_law_handed","_law_many","_law_due_here","_law_found_here","_law_row"] ["_law_script"] (cy (top 67)):=scm
variable {V:ML} (Y:Ee V) (A:Al V.K)
include Y A
theorem DC:mz V 1 "_law_cell_at" ["_law_script","_law_k"] bS :=
 nJ ["_law_script","_law_k"] Y A.n A.F46 DZ @N
theorem JK:mz V 1 "_law_pick" ["_law_cell","_law_prime","_law_many"] gf :=
 nJ ["_law_cell","_law_prime","_law_many"] Y A.n A.F48 Kg @N
theorem wL:mz V 2 "_law_digits" ["_law_cell","_law_sizes"] iJ :=
 have:=JK Y A;nJ ["_law_cell","_law_sizes","_law_primes","_law_left","_law_found_here","_law_at","_law_size"] Y A.n A.F55 wU @N
theorem A2:mz V 1 "_law_free" ["_law_names_here","_law_name"] jT :=
 nJ ["_law_names_here","_law_name"] Y A.n A.F53 vF @N
theorem A3:mz V 1 "_law_copy" ["_law_rows_here"] iC :=
 nJ ["_law_rows_here"] Y A.n A.F52 vH @N
theorem Mg:mz V 2 "_law_put" ["_law_rows_here","_law_at","_law_place","_law_more"] sr :=
 have:=A3 Y A;nJ ["_law_rows_here","_law_at","_law_place","_law_more","_law_made"] Y A.n A.F54 MG @N
theorem DB:mz V 3 "_law_drawing" ["_law_cells","_law_strings","_law_spread"] gi :=
 have:=wL Y A;have:=A2 Y A;have:=Mg Y A;nJ ["_law_cells","_law_strings","_law_spread","_law_rows_here","_law_names_here","_law_cell","_law_part","_law_name","_law_way"] Y A.n A.F56 vG @N
theorem GF:mz V 1 "_law_spots" ["_law_rows_here"] og :=
 nJ ["_law_rows_here","_law_spots_here","_law_at","_law_passing"] Y A.n A.F58 Ht @N
theorem oE:mz V 1 "_law_names" ["_law_rows_here"] cR :=
 nJ ["_law_rows_here","_law_names_here","_law_row","_law_passing"] Y A.n A.F57 zo @N
theorem DA:mz V 2 "_law_no_spot" ["_law_rows_here","_law_cell"] lJ :=
 have:=oE Y A;have:=A2 Y A;nJ ["_law_rows_here","_law_cell","_law_names_here"] Y A.n A.F66 DY @N
theorem vg:mz V 1 "passings_of" ["rows"] jR :=
 nJ ["rows","passings","row"] Y A.n A.F8 vD @N
theorem A1:mz V 2 "names_of" ["drawing"] iw :=
 have:=vg Y A;nJ ["drawing"] Y A.n A.F11 vE @N
theorem yZ:mz V 3 "numbering" ["drawing","start"] jf :=
 have:=A1 Y A;nJ ["drawing","start","numbers","number","name"] Y A.n A.F21 zk @N
theorem Bx:CEZ V 1 "refuse_many" ["strings","crossings"] nE :=
 have:=A.vp;have:=A.rL;have:=A.OL;aa1 ["strings","crossings"] Y A.n A.F20 BC @N
theorem qr:mz V 1 "spots_on" ["row","string"] jP :=
 nJ ["row","string"] Y A.n A.F13 Bh @N
theorem Er:CEZ V 2 "string_of" ["drawing","spot"] iI :=
 have:=A.Rj;have:=qr Y A;aa1 ["drawing","spot","string","row"] Y A.n A.F15 wQ @N
theorem Ut:CEZ V 4 "tied" ["one","spot","other","other_spot"] Cr :=
 have:=yZ Y A;have:=Bx Y A;have:=Er Y A;aa1 ["one","spot","other","other_spot","names","other_names","string","put_in","rows","others"] Y A.n A.F25 U7 @N
theorem Dx:mz V 5 "_law_refused" ["_law_one","_law_spot","_law_other","_law_other_spot"] jS :=
 have:=A.i0;have:=A.i1;have:=A.z2;have:=Ut Y A;nJ ["_law_one","_law_spot","_law_other","_law_other_spot","_law_told","e"] Y A.n A.F62 DW @N
theorem GH:mz V 1 "_law_found" ["_law_rows_here","_law_spot"] oj :=
 nJ ["_law_rows_here","_law_spot","_law_at","_law_k"] Y A.n A.F63 Hv @N
theorem By:mz V 2 "_law_numbered" ["_law_rows_here","_law_begin"] kT :=
 have:=oE Y A;nJ ["_law_rows_here","_law_begin","_law_numbers","_law_name","_law_made","_law_row"] Y A.n A.F61 BD @N
theorem Es:mz V 1 "_law_seated" ["_law_row"] gT :=
 nJ ["_law_row","_law_at","_law_k"] Y A.n A.F59 wR @N
theorem Mh:mz V 3 "_law_due" ["_law_one","_law_spot","_law_other","_law_other_spot"] w6 :=
 have:=GH Y A;have:=By Y A;have:=oE Y A;have:=Es Y A;nJ ["_law_one","_law_spot","_law_other","_law_other_spot","_law_first","_law_second","_law_made","_law_more","_law_line","_law_row"] Y A.n A.F64 MH @N
theorem Dv:mz V 1 "refuse_many" ["strings","crossings"] lI :=
 have:=A.vp;have:=A.rL;nJ ["strings","crossings"] Y A.n A.F20 vC @N
theorem sS:mz V 2 "string_of" ["drawing","spot"] gP :=
 have:=qr Y A;nJ ["drawing","spot","string","row"] Y A.n A.F15 zj @N
theorem ve:mz V 1 "renamed_row" ["row","names"] fD :=
 nJ ["row","names"] Y A.n A.F22 vB @N
theorem Du:mz V 3 "ring_behind" ["drawing","spot"] pb :=
 have:=sS Y A;have:=qr Y A;nJ ["drawing","spot","string","row","start"] Y A.n A.F24 DU @N
theorem JA:mz V 3 "with_put" ["drawing","spot","passings"] jO :=
 have:=sS Y A;have:=qr Y A;nJ ["drawing","spot","passings","string","rows","place"] Y A.n A.F17 Bg @N
theorem Bv:mz V 1 "renamed_spot" ["spot","names"] gG :=
 nJ ["spot","names"] Y A.n A.F18 tT @N
theorem Bw:mz V 2 "renamed_rows" ["drawing","names"] eL :=
 have:=ve Y A;nJ ["drawing","names"] Y A.n A.F23 tU @N
theorem Qe:mz V 1 "seated" ["row"] vL :=
 nJ ["row","start"] Y A.n A.F9 FG @N
theorem Dt:mz V 2 "seated_rows" ["rows"] fC :=
 have:=Qe Y A;nJ ["rows"] Y A.n A.F10 vA @N
theorem XM:mz V 4 "tied" ["one","spot","other","other_spot"] x9 :=
 have:=yZ Y A;have:=Dv Y A;have:=sS Y A;have:=ve Y A;have:=Du Y A;have:=JA Y A;have:=Bv Y A;have:=Bw Y A;have:=Dt Y A;nJ ["one","spot","other","other_spot","names","other_names","string","put_in","rows","others"] Y A.n A.F25 Yg @N
theorem y0:mz V 1 "_law_whole" ["_law_found_here"] eN :=
 nJ ["_law_found_here"] Y A.n A.F47 Hs @N
theorem JI:mz V 2 "_law_rows" ["_law_found_here","_law_due_here"] je :=
 have:=y0 Y A;nJ ["_law_found_here","_law_due_here","_law_row","_law_passing","_law_number"] Y A.n A.F60 Bi @N
theorem JJ:mz V 2 "_law_poly" ["_law_found_here"] gU :=
 have:=y0 Y A;nJ ["_law_found_here","_law_at"] Y A.n A.F49 Kf @N
theorem GG:mz V 1 "_law_pared" ["_law_one"] oh :=
 nJ ["_law_one","_law_kept","_law_at"] Y A.n A.F50 Hu @N
theorem Dy:mz V 2 "_law_product" ["_law_one","_law_other"] fE :=
 have:=GG Y A;nJ ["_law_one","_law_other","_law_total","_law_at","_law_more"] Y A.n A.F51 DX @N
theorem Bz:mz V 3 "_law_balanced" ["_law_told","_law_one","_law_other"] nF :=
 have:=JJ Y A;have:=Dy Y A;nJ ["_law_told","_law_one","_law_other"] Y A.n A.F65 BE @N
theorem Mi:mz V 2 "hand_of" ["drawing","name"] k7 :=
 have:=vg Y A;nJ ["drawing","name","passing"] Y A.n A.F12 D1 @N
theorem Mf:mz V 1 "next_of" ["drawing"] sk :=
 nJ ["drawing","behind","row","passing","follower"] Y A.n A.F14 DV @N
theorem Dw:mz V 1 "plan_of" ["far"] sg :=
 nJ ["far"] Y A.n A.F38 MF @N
theorem A4:mz V 1 "far_ends" ["threads"] qg :=
 nJ ["threads","far","one","other"] Y A.n A.F40 Kh @N
theorem Ep:mz V 2 "whole_plan" ["drawing"] qI :=
 have:=Mf Y A;have:=Dw Y A;have:=A4 Y A;nJ ["drawing","threads"] Y A.n A.F39 Ez @N
theorem lg:mz V 1 "without_noughts" ["sums"] fU :=
 nJ ["sums","kept","power","number"] Y A.n A.F28 xB @N
theorem JC:mz V 2 "times" ["one","other"] lH :=
 have:=lg Y A;nJ ["one","other","sums","power","number","other_power","other_number","both"] Y A.n A.F30 U6 @N
theorem Fo:mz V 3 "raised" ["one","count"] lr :=
 have:=JC Y A;nJ ["one","count","product","step"] Y A.n A.F32 Qw @N
theorem DD:mz V 2 "joined_plan" ["plan","pairs"] pe :=
 have:=A4 Y A;have:=Dw Y A;nJ ["plan","pairs","far","closed","one","other","before","after"] Y A.n A.F41 D0 @N
theorem Qg:mz V 1 "joints" ["name","split"] zP :=
 have:=A.Hg;nJ ["name","split"] Y A.n A.F36 Qy @N
theorem Me:mz V 2 "shifted" ["one","by","factor"] jQ :=
 have:=lg Y A;nJ ["one","by","factor","sums","power","number"] Y A.n A.F31 ME @N
theorem JH:mz V 1 "power_at" ["hand","split"] uJ :=
 have:=A.Hg;nJ ["hand","split"] Y A.n A.F37 Ke @N
theorem Uu:mz V 2 "added" ["one","other"] pg :=
 have:=lg Y A;nJ ["one","other","sums","power","number"] Y A.n A.F29 U8 @N
theorem GD:mz V 4 "opened_at" ["sums","name","hand"] si :=
 have:=A.Qp;have:=A.Hg;have:=A.Uo;have:=DD Y A;have:=Qg Y A;have:=Me Y A;have:=JH Y A;have:=JC Y A;have:=Fo Y A;have:=Uu Y A;nJ ["sums","name","hand","after","plan","poly","split","made","part","kept"] Y A.n A.F42 Hr @N
theorem Qf:mz V 5 "opened" ["drawing","names"] zO :=
 have:=A.Uo;have:=Mi Y A;have:=Ep Y A;have:=Fo Y A;have:=GD Y A;nJ ["drawing","names","hands","loose","sums","name","hand"] Y A.n A.F43 Qx @N
theorem Mj:mz V 6 "bracket" ["drawing"] mj :=
 have:=Qf Y A;have:=A1 Y A;nJ ["drawing"] Y A.n A.F44 MI @N
theorem aa2   (F:VI V.K "law" "law" (top 67) f fd):vI V.P V.w V.K V.mg V.base MN 7 f fd ["_law_script"] (Eh V.K K2.EI) :=
 have:=DC Y A;have:=DB Y A;have:=GF Y A;have:=wL Y A;have:=DA Y A;have:=A3 Y A;have:=oE Y A;have:=Dx Y A;have:=Mh Y A;have:=XM Y A;have:=JI Y A;have:=Bz Y A;have:=Mj Y A;agC ZG Y A.n F abo @N
end
theorem all_mk {l:FO}  {K:aw}    {dl:gc} (X:K.In h) (G:h.Ns bR mg) (hfa:mg "law"=some (.ref fa)) (FL:At K "law" (top 67) fl dl) (A:Al K):
  ∃fd:gc,(∀(s:aB) (v:Value),BindsTo s fd ⟨[v],[]⟩ [("_law_script",v)])/\∀base:Heap,K.In base->base.Ns bR mg->vI l.prog w K mg base MN 7 fa fd ["_law_script"] (Eh K K2.EI):=by
 have e:=hfa.symm.trans (PySem.W.mg_of X G FL.a);cases e;obtain⟨Fa,Fl⟩:=FL;obtain⟨oc,od,kV,doc,pm,an,i8,ct,Nt,rfl,lk,NU⟩:=Fl.ex;refine⟨lU "law" "law" (jD (top 67)) (fN (top 67)) (cy (top 67)) .none kV doc pm an i8 ct,λs v=>.of_eq rfl,λbase _ _=>?_⟩;exact aa2 (V:=⟨l.prog,w,K,mg,base⟩) ⟨X,G⟩ A Fl
end Fin
end
end
end Internal
open Internal
open PySem PySem.W PyProof.Rows
set_option maxRecDepth 100000 in
set_option maxHeartbeats 0 in
theorem PySem.Challenge.cw_knotwise_k64_whole_tied_holds : PySem.Challenge.rw_knotwise_k64_whole_tied.Holds := by
 w_on
 refine K2.P9 (q:=Fin.hQ) (K:=Fin.hK) (as:=Fin.hA) (N:=(12+(1+(1294+1295)))) Fin.aaT (@br) (@br) (λ_=>@br) (λ_=>@br) Fin.aaU (by rfl) (by rfl) (by rfl) (by rfl) Fin.aaS ⟨rfl,rfl,rfl,rfl,rfl,@bB⟩ ?hw ?hc
 (case hw=>w_witness2)
 k_fill
 refine K2.Tp (l:=PySem.Challenge.rw_knotwise_k64_whole_tied) (k:=7) (x:="_law_script") rfl rfl ⟨rfl,@g,@g⟩ (λw h Y=>Y) ?F
 case F=>
  intro w mg fa h KX G hmg;exact Fin.all_mk KX G hmg K2.Zd ⟨(by repeat first |exact K2.Xn |refine K2.SU ?_),K2.dH,K2.dH,K2.dH,K2.dH,K2.dH,K2.dH,K2.dH,K2.dH,K2.dH,K2.dH,K2.dH,K2.dH,K2.dH,K2.dH,K2.dH,K2.dH,K2.dH,K2.dH,K2.dH,K2.dH,K2.dH,K2.dH,K2.dH,K2.dH,K2.dH,K2.dH,K2.dH,K2.dH,K2.dH,K2.dH,K2.dH,K2.dH,K2.dH,K2.dH,K2.dH,K2.dH,K2.dH,K2.dH,K2.dH,K2.dH,K2.dH,K2.dH,K2.dH,K2.dH,K2.dH,K2.dH,K2.dH,K2.dH,K2.dH,K2.dH,K2.dH,K2.GZ,K2.GZ,K2.Ri,K2.Ri,⟨_,by k_is,by show _=_;first |k_is |kit_is,(K2.mem_cons (K2.mem_cons (K2.mem_cons K2.Gr ⟨_,by k_is,by first |k_is |kit_is,(K2.oY (x:="KnotError")).xi⟩) ⟨_,by k_is,by first |k_is |kit_is,(K2.oY (x:="NoSpot")).xi⟩) ⟨_,by k_is,by first |k_is |kit_is,(K2.oY (x:="TooMany")).xi⟩)⟩,⟨_,by k_is,by show _=_;first |k_is |kit_is,(K2.mem_cons (K2.mem_cons (K2.mem_cons K2.Gr ⟨_,by k_is,by first |k_is |kit_is,(K2.oY (x:="KnotError")).xi⟩) ⟨_,by k_is,by first |k_is |kit_is,(K2.oY (x:="NoSpot")).xi⟩) ⟨_,by k_is,by first |k_is |kit_is,(K2.oY (x:="TooMany")).xi⟩)⟩,⟨_,K2.oY,(K2.mem_cons (K2.mem_cons (K2.mem_cons K2.Gr ⟨_,K2.oY,K2.RG⟩) ⟨_,K2.oY,K2.RG⟩) ⟨_,K2.oY,K2.RG⟩)⟩,K2.GZ,K2.GZ,K2.aaY⟩
