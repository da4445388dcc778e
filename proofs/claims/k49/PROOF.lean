import PyProof.Rows.All
import Wide.All
import OpenK.AllK
import Wide.FinOn
import Lean
import PyProof.EqAt
import PyProof.EqKinds
import PyProof.TupleCall
import PySem.Challenge.RW_knotwise_k49_whole_linking_kept
open Array renaming getD_eq_getD_getElem? -> bo, getElem?_eq_getElem -> bq, length_toList -> bS, getElem?_toList -> cq, getElem?_eq_none -> lZ, mk -> mP, getD -> sr, toList_filterMap -> O3
open Array.Perm renaming refl -> nR
open Bool renaming false_eq_true -> aj, and_eq_true -> aP, not_false -> a9, not_true -> bI, noConfusion -> bO, or_eq_true -> dP, false_ne_true -> hX, true_and -> jR, not_eq_true' -> jS, and_eq_true_iff -> jY, false_or -> CP, false_and -> Lj, and_false -> Ll, beq_eq_decide_eq -> SY
open Classical renaming byContradiction -> cO, choose -> SX
open False renaming elim -> bZ
open ForInStep renaming yield -> uM
open Int renaming toNat_natCast -> dw, emod_lt_of_pos -> jl, emod_nonneg -> lT, toNat_of_nonneg -> qt, toNat -> uL, neg_mul -> Jj
open List renaming getElem?_cons_zero -> aa, getElem?_cons_succ -> ae, length_cons -> af, length_map -> ag, set_cons_zero -> ai, length_nil -> ao, map_cons -> aq, set_cons_succ -> au, length_append -> av, getElem?_eq_getElem -> az, cons_append -> aA, nil_append -> aB, mem_cons_of_mem -> aC, map_append -> aF, mem_cons_self -> aJ, map_nil -> aK, replicate -> aN, size_toArray -> aW, flatten_cons -> aX, getElem?_append_right -> aY, getElem?_map -> aZ, getD_eq_getElem?_getD -> bc, mem_cons -> bf, filter_append -> bg, append_assoc -> bp, getElem?_append_left -> bA, append_nil -> bC, mem_append_right -> bD, mem_of_getElem? -> bE, not_mem_nil -> bH, mem_append_left -> bM, nodup_cons -> bT, getElem_mem -> bU, mem_singleton -> bV, length_take -> cf, take_append_drop -> cw, length_drop -> cx, mem_map_of_mem -> cy, flatMap_cons -> cz, length_singleton -> cH, length_filter_le -> cI, map_map -> cP, range -> cR, pairwise_map -> cS, nodup_append -> cT, length -> c7, getElem?_set_self -> dh, getElem_map -> dj, getElem_of_mem -> dI, getElem?_set_ne -> dU, map_congr_left -> eD, length_set -> eE, find?_cons -> eF, filter_cons -> eG, perm_ext_iff_of_nodup -> eX, getElem?_of_mem -> eZ, append_of_mem -> e7, nodup_nil -> fj, foldl_cons -> fk, flatten_append -> fB, length_replicate -> fF, mem_of_find?_eq_some -> gf, pairwise_flatMap -> gi, getElem?_modify -> gI, flatMap_append -> gS, drop_eq_getElem_cons -> h8, length_range -> iE, find?_eq_none -> je, getElem?_eq_none -> jD, ext_getElem? -> jQ, lookup_cons -> kB, all_eq_true -> kC, pairwise_singleton -> lK, mem_append -> lL, map -> lM, getElem_range -> lN, getElem?_replicate -> lO, take_of_length_le -> mh, drop_eq_nil_of_le -> mi, reverse_cons -> mK, foldl_append -> mL, find?_append -> mM, mem_map -> nQ, take_append_of_le_length -> nZ, mem_flatMap -> oa, any_cons -> oW, perm_append_comm_assoc -> qg, mem_filter -> qh, lookup -> qi, find?_some -> qj, nodup_iff_pairwise_ne -> qN, zipIdx_append -> rh, length_erase_of_mem -> tZ, getElem?_take_of_lt -> t4, map_id -> uW, zipIdx_cons -> vt, length_pos_of_mem -> vV, flatMap_singleton -> vW, set_getElem_self -> yf, map_set -> yg, mem_erase_of_ne -> za, idxOf_le_length -> zb, idxOf_cons_self -> zc, filterMap_cons -> AA, take_nil -> CM, getElem?_drop -> CN, drop_nil -> CO, take_succ_eq_append_getElem -> C1, idxOf_append -> DI, set_nil -> EJ, take_length -> Gj, flatten_nil -> Gk, mem_zipIdx_iff_getElem? -> GB, countP_eq_length_filter -> GC, of_mem_zip -> IL, filter -> IM, take_left -> Le, rel_of_pairwise_cons -> Lf, pairwise_iff_getElem -> Lg, mem_or_eq_of_mem_set -> Lh, drop_left -> Li, Nodup -> MT, pairwise_mergeSort -> OV, map_take -> OW, map_drop -> OX, filter_cons_of_neg -> OY, eraseIdx_cons_succ -> OZ, all_cons -> O0, find?_cons_of_pos -> Pt, find?_cons_of_neg -> Pu, drop_of_length_le -> Pw, getElem?_toArray -> SR, all_map -> SS, Perm -> SV, replicate_succ' -> Tp, pairwise_append -> Tq, mem_of_mem_drop -> Tr, getElem?_zipIdx -> Ts
open List.Nodup renaming length_le_of_subset -> lQ
open List.Pairwise renaming imp_of_mem -> oO, filter -> si
open List.Perm renaming swap -> lP, eq_of_pairwise -> Gm, append_right -> IP, append -> SU
open Nat renaming le_refl -> aR, ne_of_lt -> br, lt_of_lt_of_le -> bY, zero_le -> b9, le_trans -> cm, not_lt_zero -> dv, lt_irrefl -> eU, lt_succ_self -> fQ, le_add_right -> hV, lt_succ_of_lt -> iK, zero_add -> jJ, le_of_ble_eq_true -> jK, succ_pos -> k6, mod_lt -> qf, sub_self -> rH, lt_of_le_of_lt -> rJ, le_succ -> vp, add_sub_cancel_left -> vq, succ_le_succ -> vU, le_of_succ_le_succ -> v9, ne_of_gt -> yq, min_eq_left -> yr, le_of_lt -> Gi, succ_add -> Tj, sub_zero -> Tn, le_of_eq -> To
open Ne renaming symm -> eB
open Option renaming isSome_map -> CL
open Option.some renaming inj -> bW
open Prod.mk renaming injEq -> Ji
open PyProof.Rows renaming callWith_type1 -> dW, IntsAre -> kF, callWith_builtin1 -> kZ, slot_tuple_getitem -> ye, seqObj -> y9, preSum_getD -> C0, AllBare -> EL, envOfC -> Gx
open PyProof.Rows.F renaming plain_set_update_loop -> wa, entry_set_update_loop -> Tu
open PySem renaming wpAny_bind -> aw, Shared -> aE, wpAny_pure -> aL, sizeLine -> bw, starEach -> bF, mainGlobals -> bJ, Program -> bR, wpAny_loadPart' -> cA, sizeLine_eq -> cN, bootBuiltins -> c8, Around -> dD, FuncData -> dQ, wpAny_holding -> fR, wpAny_Call_Name_kw -> fT, compareOp -> fU, wpAny_newObj_type -> gm, ReadsAll -> gB, foldedSetIterable -> gU, codeAny_builtin -> gX, SetTable -> ix, mem_of_lookup -> iP, plainId_quiet -> jb, wpAny_call_entry -> jn, sysModules -> jC, backTo -> jP, wpAny_passesOwn -> jZ, treeTable -> j0, Params -> j4, wpAny_pyIter_list -> ky, binaryOp -> kA, tupleKind_room_in1 -> mY, importedModules -> mZ, wpAny_truthy_bool -> oI, wpAny_setState_of -> oJ, wpAny_mono -> oK, argBest -> oM, OsState -> oN, wpAny_seqItems -> oV, builtinLookup_eq_fast -> oY, wpAny_forIn_list -> qp, wpAny_updateSeq -> rP, swapsWith -> rQ, sliceBounds -> rR, richCompare -> rT, codeAny -> rW, wpAny_pyIter_tuple -> uS, codeAny_mono -> uU, NameKind -> uV, ofAClassStatement -> vZ, assignEach -> v5, wpAny_callSpecial?_slot -> yk, holding -> ym, attributeBase -> yn, richCompare_meets_room -> zS, wpAny_specialOf -> Bc, wpAny_execs_nil -> Be, typeLookup_type -> Bf, tupleKind -> Bg, letOwnedTupleGo -> Bh, wpAny_tryCatch -> DC, pyNext -> DD, isSubtype_type -> DE, carriedByValue -> DG, wpAny_setEntries_of -> EE, wpAny_letGo -> EF, assign -> Gy, wpAny_truthy_dict -> IZ, spliced -> I0, searchCouldBeSeen -> Ja, relabel -> Jb, callerA -> Jc, call_meets -> Jd, wpAny_typeOf -> K1, wpAny_callSpecialIfBound?_slot -> K4, pyIter -> K5, call -> K8, wpAny_isInstance -> MO, wpAny_askSetting -> MP, bindArgs -> OU, wpAny_of_eq -> Pl, valueAt -> Pm, hashByValue -> Po, getItem -> Pp, Within -> Pq, wpAny_setField -> Te
open PySem.Around renaming under_plainId -> fN, under -> O4
open PySem.AutoSeq1 renaming sub_tuple_tuple -> qO, sub_list_list -> Jl
open PySem.Builtin.Builtins renaming bindParams -> yh
open PySem.Builtin.List renaming listTooLong -> jL, listLengthHint -> mN, listExtendWith -> mO, listSameRef -> C2, listItems -> EK
open PySem.Builtin.Slice renaming slicePlaces -> jg, sliceAdjust -> nU, sliceApplied -> AB
open PySem.Builtin.Tuple renaming tupleExact -> jF, tupleCompareSizes -> wb
open PySem.Calls renaming spliced_cons -> i9, spliced_nil -> sk, Name_function_global -> IQ
open PySem.Challenge renaming rw_knotwise_k49_whole_linking_kept -> bh
open PySem.Code renaming isFrame -> SW
open PySem.F renaming plain_min_loop -> jf, slot_tuple_lt -> mf, plainAttrs_list -> se, args_tuple_lt_2 -> sf, entry_tuple_lt -> uJ, slot_dict_get -> vo, slot_list_lt -> v7, args_tuple_add_2 -> IK, slot_list_index -> Jf, entry_tuple_add -> Jg, args_dict_get_3 -> Jh, entry_min_loop -> Jk, slot_tuple_add -> La, entry_dict_get -> Lc, args_list_lt_2 -> Ld, slot_set_iter -> MR, entry_list_lt -> MS
open PySem.Heap renaming get?_push_of_some -> aG, lt_size -> aQ, get?_push_size -> a8, get?_update_other -> cV, size_push -> dE, get?_update_self -> gk, SameBut -> rj, size_update -> Gn, get?_none_of_le -> Tt
open PySem.Heap.IsSliceOf renaming new -> GD
open PySem.Heap.SameBut renaming update -> jE
open PySem.IsTupleKey renaming typeIs -> O1
open PySem.NameKind renaming free -> kD
open PySem.Obj renaming mapSeq -> gC, data_mapFields -> jk, putSet -> uK, isFreed_of_fields -> Ti
open PySem.Paired renaming length -> Az
open PySem.PassesOwn renaming never -> Th
open PySem.PyData renaming depthAll -> b7, eqv -> v8
open PySem.SeqAt renaming items_eqAt -> nT, any_by_data -> r8, readOf -> DH
open PySem.SetTable renaming below -> Gh, fill -> IJ
open PySem.Shared renaming TypeIs -> K7
open PySem.Str renaming ofString -> Gg
open PySem.Value renaming ref -> fe, none -> gK, int -> rX, bool -> yc, str -> Gz, type -> K6
open PySem.W renaming Frag -> ay, emptyDict -> fV, boot_heap -> gN, kas_rev -> gW, findIn -> gY, instObj -> ic, kia_one -> jc, fnOf -> jd, kas_place -> j3, boot_drawn -> kz, kas_desc -> lJ, nsIn -> qe, keepIn -> qr, kas_asc -> rV, SharedT -> rZ, plainGet -> tY, topFrame -> uT, boot_toks -> v3, lookIn -> yd, plainGet_of -> yp, callWith_K -> zT, kas_descPart -> Bi, methodObj -> Bj, hasDictIn -> Bl, takerIn -> EH, OpenLaw -> EI, codeIn -> GA, cellsFrom_some -> K9, isFn -> MQ, openGood -> OT, kas_tail3 -> Pn, plainOver -> Tg
open PySem.W.KasT renaming ret -> yt
open PySem.Walks renaming list -> CZ, tuple -> Tf
open Sum renaming inl -> EG, inr -> Je
open True renaming intro -> iY
set_option hygiene false
set_option compiler.extract_closed false
local macro_rules
|`(@I)=>`(.inl rfl)
|`(@a0)=>`(.inr rfl)
|`(@ab)=>`(‹_›)
|`(@f)=>`(by decide)
|`(@r)=>`((@f))
|`(@N)=>`((·.1))
|`(@cO)=>`(K w.params)
|`(@bj)=>`(by kernel_rfl)
|`(@am)=>`(some r)
|`(@D)=>`(List Str)
local macro_rules
|`(@C)=>`(List Value)
|`(@ae)=>`(.type "tuple")
|`(@a9)=>`((.type "dict"))
|`(@bu)=>`((.str "knotwise.errors" 187))
|`(@cj)=>`((.type "type"))
|`(@df)=>`((.type "ValueError"))
|`(@bv)=>`((.ref 24))
|`(@dM)=>`(.type "BaseException")
|`(@ca)=>`((.type "object"))
|`(@ap)=>`(.false)
local macro_rules
|`(@dN)=>`((some (.builtin "ValueError.__new__")))
|`(@af)=>`((.bool .true))
|`(@F)=>`((.str "knotwise.moves" 485))
|`(@bo)=>`((.ref 297))
|`(@aL)=>`((.type "code"))
|`(@bp)=>`((.int 2 0))
|`(@o)=>`((.int 0 0))
|`(@aG)=>`((.int 3 0))
|`(@aA)=>`((.int 181 0))
|`(@dE)=>`((some (.builtin "object.__new__")))
local macro_rules
|`(@db)=>`((.type "builtin_function_or_method"))
|`(@bC)=>`((.str "law_knotwise_k49_whole_linking_kept" 946))
|`(@b9)=>`((.str "knotwise.drawings" 303))
|`(@bm)=>`((.str "knotwise.fits" 386))
|`(@aI)=>`(List Addr)
|`(@dk)=>`((.builtin "object.__init_subclass__"))
|`(@z)=>`(List V)
|`(@cK)=>`(Vals xs us)
|`(@ak)=>`(some x)
|`(@T)=>`(some u)
local macro_rules
|`(@bn)=>`(RelV v u)
|`(@M)=>`(.int i)
|`(@cn)=>`(List (Key×V))
|`(@ac)=>`(List Key)
|`(@co)=>`(List (@ac×V))
|`(@cd)=>`(List (Str×V))
|`(@bW)=>`(Heap->Prop)
|`(@j)=>`(some o)
|`(@bz)=>`(H b=none)
|`(@aO)=>`(h.get? a)
local macro_rules
|`(@Z)=>`(.type "list")
|`(@aD)=>`((.ref f))
|`(@s)=>`(List α)
|`(@an)=>`(h'.get? b)
|`(@bD)=>`(h.get? b=@j)
|`(@v)=>`(List (Addr×Obj))
|`(@aU)=>`(Str->Option Value)
|`(@b3)=>`(List Env)
|`(@ag)=>`(aE->Prop)
|`(@J)=>`(Value->@ag)
local macro_rules
|`(@cG)=>`(sc.names.lookup x)
|`(@bB)=>`(some .local)
|`(@a2)=>`(some .cell)
|`(@aW)=>`(some c)
|`(@cx)=>`(X.env.cells.lookup x=@aW)
|`(@bk)=>`(X.calm=true)
|`(@cT)=>`(b≠X.env.locals)
|`(@Q)=>`(some v)
|`(@m)=>`(Inv X pins σ H s)
|`(@au)=>`(s.heap.get? b)
local macro_rules
|`(@aN)=>`(λp hp=>?_)
|`(@L)=>`(by simp)
|`(@i)=>`((@L))
|`(@cs)=>`(by simpa using hb)
|`(@da)=>`(X.env.scope.names.lookup x)
|`(@dD)=>`(List.getElem?_eq_some_iff.mp hi)
|`(@cR)=>`(s.heap.get? a)
|`(@bP)=>`({s with heap:=h'})
|`(@bs)=>`(Hp->Prop)
|`(@t)=>`(λ_ _=>False)
local macro_rules
|`(@de)=>`(Inv X pins σ H' s')
|`(@q)=>`((model X.prog X.w))
|`(@c6)=>`(autoParam ((x == ("__debug__":Str))=false) Ad._auto_1)
|`(@aF)=>`(I.tok _)
|`(@S)=>`(⟨_,rfl⟩)
|`(@aX)=>`(List Expr)
|`(@bw)=>`((.lst xs))
|`(@bL)=>`(Array Value)
|`(@ar)=>`(.ref a)
|`(@U)=>`((@ar))
local macro_rules
|`(@bU)=>`({s with heap:=h',toks:=tk})
|`(@ao)=>`(⟨rfl,rfl⟩)
|`(@bf)=>`(.ref s.heap.objs.size)
|`(@X)=>`((aR _))
|`(@bx)=>`(RelV x v)
|`(@d)=>`(by lia)
|`(@c)=>`((@d))
|`(@P)=>`(.int _)
|`(@aP)=>`((.ref C))
|`(@R)=>`((model prog w))
local macro_rules
|`(@aR)=>`(s.heap.objs.size+1)
|`(@cr)=>`(by simp at h)
|`(@bZ)=>`(by simpa using h)
|`(@dh)=>`(List.mem_cons.mp h)
|`(@ci)=>`(Vals vs us)
|`(@c9)=>`(I.dS.fresh @X)
|`(@di)=>`(by simpa using h1)
|`(@b0)=>`(by simpa using h2)
|`(@dC)=>`(Gx qual scope s.heap.objs.size f cd)
|`(@dc)=>`(by simpa using hi)
local macro_rules
|`(@u)=>`(List Int)
|`(@aC)=>`(.ref l)
|`(@aa)=>`(.ref b)
|`(@cZ)=>`(s.heap.get? l)
|`(@dy)=>`(decide_eq_false @c)
|`(@aT)=>`(Option Int)
|`(@dq)=>`(jm items.size 0 lo)
|`(@dP)=>`(jm items.size items.size hi-@dq)
|`(@cV)=>`((ns.map V.int))
|`(@dI)=>`(HT.jm xs.length 0 lo)
local macro_rules
|`(@V)=>`(.ref p)
|`(@cD)=>`(DecidableEq κ)
|`(@cy)=>`((λz=>nomatch z))
|`(@a3)=>`((cD st))
|`(@e)=>`(List D)
|`(@aJ)=>`(List (D×D))
|`(@c4)=>`(List (Str×D))
|`(@E)=>`(Gp->Prop)
|`(@bc)=>`(Option D)
|`(@bJ)=>`(some (.lst ds))
local macro_rules
|`(@cw)=>`(itemsOf x G)
|`(@aH)=>`(C == "int")
|`(@aM)=>`(some d)
|`(@bT)=>`(@e->(@E)->@E)
|`(@bd)=>`((λ_=>True))
|`(@aE)=>`(List Nat)
|`(@p)=>`((@t))
|`(@bg)=>`(ns.map D.int)
|`(@O)=>`(eQ G G')
|`(@bG)=>`(Nat->Bool)
local macro_rules
|`(@aB)=>`(.int a)
|`(@W)=>`(DecidableEq α)
|`(@ai)=>`(Enc α)
|`(@aY)=>`((xs.map enc))
|`(@c2)=>`(List (κ×α))
|`(@a8)=>`(by cases h)
|`(@dK)=>`(min xs.length ys.length)
|`(@al)=>`(by decide +kernel)
|`(@dm)=>`(leap m p.i p.perturb)
|`(@bX)=>`(runEnd m x.1-x.1)
local macro_rules
|`(@bO)=>`(Array Nat)
|`(@cv)=>`(xs.getD k 0)
|`(@bI)=>`(below t.place j)
|`(@bV)=>`((probeStart t h))
|`(@du)=>`(List.mem_map.mp hx)
|`(@cz)=>`(some (some @aP))
|`(@bt)=>`(bu K H vs ds)
|`(@bl)=>`(cX K H v d)
|`(@cY)=>`(.tup (k.map gy))
|`(@ck)=>`((λ_=>trivial))
local macro_rules
|`(@cl)=>`((λ_ _ _=>trivial))
|`(@aQ)=>`((λ_ _ _ _=>trivial))
|`(@a4)=>`((.new hp))
|`(@be)=>`(mX X.K H G)
|`(@ch)=>`(I2 X pins σ H τ G s)
|`(@b_)=>`(Mv X.K H G H' G')
|`(@bK)=>`((rg X pins σ H G Q))
|`(@c8)=>`(Mv X.K H G H1 G1)
|`(@bh)=>`(eS X a ta)
|`(@c1)=>`(eval a X.env)
local macro_rules
|`(@bY)=>`((Dv X.K H G Q))
|`(@cE)=>`(m1.trans m2)
|`(@cQ)=>`(λ_ _ z=>z.trans m1)
|`(@dr)=>`(by simpa using hl)
|`(@ds)=>`(by simpa using q1)
|`(@dL)=>`(autoParam (bF (e::es) X.env=(false,eval e X.env)::bF es X.env) Ar._auto_1)
|`(@dg)=>`(((jP pos (bF es X.env)).any @N=false))
|`(@c5)=>`(⟨_,a8 _ rfl,rfl,rfl⟩)
|`(@ay)=>`(.refl ab)
|`(@dv)=>`(∀x,gU iter X.env x=pure x)
local macro_rules
|`(@dR)=>`(s.heap.IsList l bz.toArray)
|`(@cg)=>`(λ_ _ z=>.of z)
|`(@ce)=>`(X.A.units+64<cLine)
|`(@aq)=>`((l6 false))
|`(@b4)=>`(.Name y py)
|`(@cm)=>`((dH X N scope C s H fp))
|`(@dw)=>`(.ref s2.heap.objs.size)
|`(@cL)=>`((.ListComp elt [⟨tg,iter,ifs,0⟩] scope pos))
|`(@cp)=>`(dH X N scope s3.heap.objs.size s3 H3 fp)
|`(@dz)=>`((show X.A.in1.handled=none from I.ok.hd hc))
local macro_rules
|`(@dn)=>`(aT Nn.length ds)
|`(@B)=>`((ends Q))
|`(@c0)=>`(i<bz.length)
|`(@bH)=>`((gA p (n-1)))
|`(@b2)=>`(min xs.size ys.size)
|`(@cA)=>`((xs.getD j .cY))
|`(@cB)=>`((ys.getD j .cY))
|`(@az)=>`(zs.getD i .cY)
|`(@dJ)=>`(s1.heap.push (revObj l ((bz.toArray.size:Int)-1)))
|`(@dl)=>`(s.heap.get? Dd)
local macro_rules
|`(@bM)=>`(i<zs.length)
|`(@dp)=>`(p.toList.map λi=>vs.getD i .cY)
|`(@aK)=>`(TK prog w)
|`(@a5)=>`((@aK).hash k)
|`(@dx)=>`(c<s.heap.objs.size)
|`(@aV)=>`(by rw[ag];lia)
|`(@c_)=>`(List.mem_map.mp h)
|`(@dQ)=>`(autoParam (bF (e::es) X.env=(false,eval e X.env)::bF es X.env) Ac._auto_1)
|`(@cC)=>`(Mz tg XN fr)
|`(@w)=>`(List T3)
local macro_rules
|`(@a7)=>`(rows.flatten.map T3.s)
|`(@dO)=>`(rows.flatten.length<=1000)
|`(@g)=>`((ak 0))
|`(@k)=>`((ak 1))
|`(@y)=>`((ak 2))
|`(@aj)=>`(enc rows)
|`(@G)=>`(some (@aj))
|`(@ax)=>`(some (@V))
|`(@dU)=>`(pre.flatten.length+r.length<=rows.flatten.length)
|`(@dG)=>`(rows.flatten.filter λp=>p.b == 0)
local macro_rules
|`(@dj)=>`(rows.flatten.length<64)
|`(@ah)=>`((ah @g aH))
|`(@as)=>`((dC (.int 0)))
|`(@ad)=>`((dC (.int 2)))
|`(@cH)=>`(handOf rows n)
|`(@cJ)=>`((λ_ _ _ _ _=>trivial))
|`(@bi)=>`(List (T2×T2))
|`(@cN)=>`(rows.flatten.length<=500)
|`(@bF)=>`(pairsOf rows)
|`(@aw)=>`((dM (@bF)))
local macro_rules
|`(@H)=>`((dC (.int 1)))
|`(@Y)=>`((ak 4))
|`(@A)=>`((ak 3))
|`(@cq)=>`(some (.ref d))
|`(@bN)=>`(r.map enc)
|`(@n)=>`(Dr rows)
|`(@bE)=>`(p∈rows.flatten)
|`(@cM)=>`(List.mem_cons.mp hp)
|`(@l)=>`(names rows)
|`(@c3)=>`(List.mem_map.mp z)
local macro_rules
|`(@bA)=>`((@l).length)
|`(@a1)=>`(⟨n,0⟩)
|`(@ba)=>`(⟨n,1⟩)
|`(@dS)=>`(List.getElem?_eq_some_iff.mp h)
|`(@cX)=>`(as.map D.ref)
|`(@dT)=>`(List.getElem?_eq_some_iff.mp h1)
|`(@av)=>`(bL rows 0)
|`(@cF)=>`(rows.zipIdx 0)
|`(@cP)=>`(s∈bK p.1 (p.2:Int))
|`(@b1)=>`(⟨_,_,rfl⟩)
local macro_rules
|`(@dB)=>`((zeros rows.length))
|`(@aS)=>`(lu rows.flatten)
|`(@b5)=>`(r.take k)
|`(@b6)=>`(r.drop k)
|`(@dV)=>`(Option.map_eq_some_iff.mp hr)
|`(@cS)=>`(congrArg T2.a e)
|`(@c7)=>`(rows.map bN)
|`(@cI)=>`((aM fG @g @as))
|`(@cc)=>`((R1.length:Nat))
|`(@aZ)=>`(R1++r::R2)
local macro_rules
|`(@b8)=>`(λp=>!decide (p.a∈ns))
|`(@a_)=>`(iQ ns rows)
|`(@dt)=>`(List.mem_map.mpr ⟨p,hp,rfl⟩)
|`(@dA)=>`(List.mem_singleton.mpr rfl)
|`(@dH)=>`(rows.flatten.length<=20)
|`(@bb)=>`(⟨a,0⟩)
|`(@dd)=>`(raw rows a b o u t h)
|`(@cU)=>`(OQ rows a b o u t h)
|`(@bq)=>`(handOf rows a)
|`(@cf)=>`(handOf rows b)
local macro_rules
|`(@a6)=>`(uc rows a b c t)
|`(@bS)=>`(some (.int c))
|`(@b7)=>`(pX ps p.s)
|`(@bQ)=>`(chg rows ps)
|`(@cW)=>`(IV rows a b c t)
|`(@bR)=>`(oQ rows a b c t)
|`(@br)=>`(zK rows)
|`(@dF)=>`(some (.int rows.length))
|`(@K)=>`(λ_ _ _ _ _ _ _=>fh)
|`(@cb)=>`(["drawing"])
local macro_rules
|`(@ct)=>`(["self","drawing"])
local macro_rules
|`(tactic|ext e)=>`(tactic|(dsimp only))
|`(tactic|ext f)=>`(tactic|(exact .nil))
|`(tactic|ext d)=>`(tactic|(rintro rfl))
|`(tactic|ext c)=>`(tactic|(subst this))
|`(tactic|ext y)=>`(tactic|(intro X hP hw hK hc i pins s σ H E I hf st hg))
|`(tactic|ext g)=>`(tactic|(exact this))
|`(tactic|ext m)=>`(tactic|(first |obtain⟨_,rfl⟩:=eg h1 |obtain⟨_,rfl⟩:=d6 h1 |obtain⟨_,rfl⟩:=d8 h1))
|`(tactic|ext n)=>`(tactic|(first |obtain⟨_,rfl⟩:=eg h2 |obtain⟨_,rfl⟩:=d6 h2 |obtain⟨_,rfl⟩:=d8 h2))
|`(tactic|ext v)=>`(tactic|(rcases h with rfl |⟨a,rfl,e⟩))
|`(tactic|ext l)=>`(tactic|(constructor))
local macro_rules
|`(tactic|ext i)=>`(tactic|(intro E pins s σ H τ G Q hE I h))
|`(tactic|ext t)=>`(tactic|(intro E pins s σ H τ G D hE I h))
|`(tactic|ext j)=>`(tactic|(exact q1.elim))
|`(tactic|ext w)=>`(tactic|(obtain⟨vs,hv,rs⟩:=ab.lst hg))
|`(tactic|ext u)=>`(tactic|(intro pins s σ H G x y dx dy v u Q I ab rx ry dX dY q))
|`(tactic|ext k)=>`(tactic|(.exact q.elim))
|`(tactic|ext q)=>`(tactic|(exact bO (show false=true from ht)))
|`(tactic|ext A)=>`(tactic|(intro pins s σ H G xs ds us Q I ab rx rd q))
|`(tactic|ext p)=>`(tactic|(simpa using this))
|`(tactic|ext s)=>`(tactic|(rw[if_neg (by intro z;cases z)]))
local macro_rules
|`(tactic|ext B)=>`(tactic|(rcases List.mem_append.mp h with h |h))
|`(tactic|ext z)=>`(tactic|(refine Di ?_;simp only[aO,aj,if_false]))
|`(tactic|ext r)=>`(tactic|(rintro _ _ ⟨rfl,rfl⟩))
|`(tactic|ext o)=>`(tactic|(simp only[↓aO,↓aj,↓if_false]))
set_option Elab.async false
set_option linter.all false
set_option maxRecDepth 100000
set_option maxHeartbeats 4000000
set_option genSizeOf false
set_option genInjectivity false
set_option compiler.extract_closed false
namespace Internal
noncomputable section
theorem Ac(h:0=0:=by kernel_rfl):0=0:=h
theorem Ad(h:0=0:=by decide):0=0:=h
theorem Ai(h:0=0:=by intro _;rfl):0=0:=h
theorem Ak(h:0=0:=by decide +kernel):0=0:=h
theorem Am(h:0=0:=by exact aJ):0=0:=h
theorem An(h:0=0:=by exact jK rfl):0=0:=h
theorem Ao(h:0=0:=by first |exact @I |exact @a0 |exact .inr (@I) |exact .inr (@a0) |assumption):0=0:=h
theorem Aq(h:0=0:=by k_is):0=0:=h
theorem Ar(h:0=0:=by rfl):0=0:=h
theorem Aua(h:0=0:=by exact scm):0=0:=h
theorem Aub(h:0=0:=by intro _ _ _ _ _ _ us hl;rcases us with _ |⟨_,_ |⟨_,_ |⟨_,_ |⟨_,_ |⟨_,_⟩⟩⟩⟩⟩<;>first |rfl |(simp at hl;done)):0=0:=h
theorem Auc(h:0=0:=by intro ds G Q E h;iterate 14 (first |done |(obtain⟨e,_⟩:=h;(subst e);rfl) |(obtain⟨_,h⟩:=h))):0=0:=h
theorem Aud(h:0=0:=by intro _;kernel_rfl):0=0:=h
theorem Aue(h:0=0:=by exact K2.Pf):0=0:=h
theorem Auf(h:0=0:=by(repeat intro _);show _=_;kernel_rfl):0=0:=h
theorem Aug(h:0=0:=by exact K2.Y8):0=0:=h
theorem Auh(h:0=0:=by exact K2.X7):0=0:=h
theorem Aui(h:0=0:=by repeat' first |(show eS _ _ _;first |(show eS _ _ (ak _);exact pvK) |(show eS _ _ (dC _);first |exact UI |exact UC |exact XH |exact LN |exact UL @ab @ab) |(show eS _ _ (aM _ _ _);first |refine XC @ab ?_ ?_ (λ_ _=>rfl) |refine XB ?_ ?_ ?_ |refine UM ?_ ?_ ?_ (JX _)) |refine XE ?_ |(show eS _ _ (aS _ _);refine adJ @ab @ab ?_) |refine UB ?_ |refine UH ?_ |(show eS _ _ (c6 _ _ _);refine UN @ab ?_) |(show eS _ _ (mU _ gb _ _);refine pmK se PySem.F.slot_list_append PySem.F.type_list_append Bm J1 ?_ ?_) |refine Nz ?_ ?_ ?_ |(show eS _ _ (eC _ _ _ _ _ _);refine XF @ab ?_ (λ_ _ _ _ _=>?_) (λ_ _ _ _=>?_) λ_ _ _ _=>?_) |(show eS _ _ (jV nP _);refine XI OC Ze @ab @ab ?_) |(show eS _ _ (iW _ _ _ _);refine NA ?_ ?_ ?_) |refine Xz ?_ ?_ |(show eS _ _ (oE _ _ _);refine UG @ab @ab ?_) |exact UJ |(show eS _ _ (jV tQ _);refine ptK KJ MD @ab @ab ?_) |refine XA ?_ ?_ |refine UO ?_ ?_ |(show eS _ _ (jV Iq _);refine XI (OB rfl @ab) Zc @ab @ab ?_) |(show eS _ _ (mU _ sZ _ _);refine pmK se Jf PySem.F.type_list_index Bm (NO @ab) ?_ ?_) |(show eS _ _ (Oy _ _);first |refine LO _ @r Pf ?_ Pf ?_ Zf ?_ |refine LO _ @r Pf ?_ Pf ?_ VG ?_) |(show eS _ _ (Eo _);refine Qw rfl Pf ?_ Pf ?_ ?_) |(show eS _ _ (mU _ ui _ _);refine pmK se PySem.F.slot_list_extend PySem.F.type_list_extend Bm J0 ?_ ?_) |(show eS _ _ (jV pY _);refine XI (Du rfl @ab) yU @ab @ab ?_) |(show eS _ _ (jV Sl _);refine XI (OA rfl) Zb @ab @ab ?_) |(show eS _ _ (jV Cv _);refine XI (KI rfl @ab) Zd @ab @ab ?_) |(show eS _ _ (jV _ _);refine BK rfl @ab Pf ?_ Pf ?_ ?_) |(show eS _ _ (jV Sr _);refine XI (OD rfl) Zg @ab @ab ?_) |(show eS _ _ (jV (nM _) _);refine XI (Dt rfl @ab) yU @ab @ab ?_) |(show eS _ _ (Il _ _);refine Qu ?_ ?_) |refine XD ?_ ?_ ?_ |(show eS _ _ (mU _ D0 _ _);refine pmK PySem.F.plainAttrs_dict vo PySem.F.type_dict_get PF (QM @ab) ?_ ?_) |refine UE ?_ |refine UD ?_) |(show zO _ _ _;first |(show zO _ _ (ah _ _);refine paK ?_ ?_) |exact AQ) |(show tT _ _ _;first |refine Nt ?_ ?_ |exact Qf |refine Qe ?_) |(show yY _ _ _;first |(show yY _ _ (bx _ _);first |refine Xr @ab @ab ?_ (λ_ _ _ _ _=>?_) (λ_ _ _ _=>?_) λ_ _ _ _=>?_ |refine psK @ab ?_ |refine pqK ?_ ?_) |refine Ul ?_ |refine Xs ?_ ?_ ?_ |(show yY _ _ (fy _ _ _);refine pfK Th ?_ ?_ ?_) |(show yY _ _ (cW _);refine pxK ?_) |(show yY _ _ (ja _ _ _ _);refine Uj @ab ?_ ?_) |exact Nv |refine Um ?_ |refine Nu Th ?_ ?_) |(show pZ _ _ _;first |(show pZ _ _ (l6 _);first |exact X0 @ab |exact XW @ab) |exact UY |exact UW |exact UX |exact UU |exact QD |(show pZ _ _ (CS _);first |exact XY @ab |exact ND @ab) |exact XX @ab |exact XZ) |(show CW _ _ _;first |(show CW _ _ (aI _);exact pgK @ab) |(show CW _ _ (pR _ _);refine pyK @ab ?_ ?_) |(show CW _ _ (pQ _);refine Ux rfl ?_ ?_)) |(show EB _ _ _;first |(show EB _ _ (eW _);first |refine Fb ?_ ?_ ?_ (JX _) |refine Fb ?_ ?_ ?_ (by with_unfolding_all rfl) |refine Nr ?_ |refine pzK ?_) |refine Ui ?_ |refine SF.pt ?_) |(show IB _ _ _ _;first |refine Uw ?_ |(show IB _ _ _ (vc _);refine JP Pf ?_ ?_) |(show IB _ _ _ (B8 _);refine Qp Pf ?_ ?_) |(show IB _ _ _ (Rc _ _);refine Uv Pf ?_ ?_ ?_)) |(show ZV _ _ _;first |refine Ql ?_ |exact Qm) |(show KN _ _ _;first |(show KN _ _ (hU _ _);refine Ny ?_ ?_) |exact Qq) |refine aaH @ab @ab ?_ |exact QN |(show SF _ _ _;first |refine Ug ?_ ?_ |refine Xp ?_ ?_ |refine Qc ?_ |refine Ue ?_) |exact TF |(show _=none;exact noX @ab @ab) |refine Oj ?_ |exact .none |exact RG |refine .some ?_):0=0:=h
theorem Ay(h:0=0:=by exact λ_ _=>⟨_,by with_unfolding_all rfl⟩):0=0:=h
namespace L2
open PySem PySem.Spec PyProof.Rows
noncomputable def gQ(s:Stmt):Arguments:=match s with
 |.FunctionDef _ a _ _ _ _ _ _ _ _=>a
 |_=>{posonlyargs:=[],args:=[],vararg:=none,kwonlyargs:=[],kw_defaults:=[],kwarg:=none,defaults:=[]}
noncomputable def fx(s:Stmt):List Stmt:=match s with
 |.FunctionDef _ _ b _ _ _ _ _ _ _=>b
 |_=>[]
noncomputable def cD(s:Stmt):Scope:=match s with
 |.FunctionDef _ _ _ _ _ _ sc _ _ _=>sc
 |_=>{kind:=.function,names:=[],isGenerator:=false,isCoroutine:=false}
end L2
namespace K2
open PySem PySem.W PySem.Spec PyProof.Rows PySem.Calls
theorem NX(e:opening p=plainProg p.main.scope.names)(hN:Nat.ble 600 N=true)(f:∀s,fenceModules? p s=some s)
  (h:∀(w:World) (os:oN),(topFrom j0 p w N ⟨gN w.params,mP [],kz,v3,os⟩).map (λs=>(openSeen q loose (mZ p.main.body) Xt true s,Yf s))=some (OT q loose,Ya w)):LeftO p q loose Xt Yf Ya N:=λw=>by
 obtain⟨⟨h',gs,d,k,os⟩,e1,e2⟩:=Option.map_eq_some_iff.mp (boot_open e hN f w);obtain⟨rfl,rfl,rfl,rfl⟩:h'=gN w.params/\gs=mP []/\d=kz/\k=v3:=by simpa using e2
 unfold openEnds;rw[e1];exact h w os
noncomputable abbrev Lq(l:OpenLaw)(q:bR):Bool:=chainsOk q&&opensWell l.row.prog&&(frees l.row.toRowW&&l.row.within.isEmpty)
noncomputable abbrev PA(l:OpenLaw)(q:bR)(s:aE):Bool:=xlAt q [] s&&recOk l.row.records s
theorem Og{K:j4->Frag}(ok:l.wellSaid=true)(e:opening l.row.prog=plainProg l.row.prog.main.scope.names)(hN:Nat.ble 600 N=true)(f:∀s,fenceModules? l.row.prog s=some s)(hK:∀P,as=(K P).map @N)
  (h:∀(w:World) (os:oN),(topFrom j0 l.row.prog w N ⟨gN w.params,mP [],kz,v3,os⟩).map (λs=>(openSeen q loose (mZ l.row.prog.main.body) (PA l q) true s,as.map s.heap.get?))=some (OT q loose,(@cO).map λp=>some p.2))
  (hd:defOf q l.row.name=some (d,[])) (hp:l.row.prog.theDef l.row.name=some (d.params,d.body,d.scope)) (hk:kwWritten? d.params.kwonlyargs d.params.kw_defaults=some []) (hr:(!l.row.writes||l.row.records.isEmpty)=true) (ht:Lq l q=true) (hb:l.row.prog.bare) (hw:l.row.toRowW.promised)
  (c:WalkO q loose (XL q []) (InK K) l.row.toRowW d [] λf vs=>K8 f vs):l.Holds :=
 holds_law ok λk1=>holds_open (NX (Yf:=Hook.obs (kHook K as hK)) (Ya:=Hook.val (kHook K as hK)) e hN f h) (Hook.of (kHook K as hK)) (Hook.keeps (kHook K as hK)) (λs x=>xl_of s (Bool.and_eq_true_iff.mp x).1) XL.keeps hd hp hk (λs x=>recFacts_of (Bool.and_eq_true_iff.mp x).2) hr k1 ht hb hw c
noncomputable def wj(tb:String->Option Builtin)(p:bR)(w:World)(pL:Nat)(ann:Option Value):Nat->rZ->Thread->Option rZ
 |0,_,_=>none
 | n+1,s,t=>match through t with
  |true=>some s
  | false=>match stepOk pL ann t with
   |false=>none
   |true=>match stepT (denote tb) p w s t with
    |some (s',t')=>wj tb p w pL ann n s' t'
    |none=>none
theorem T4:∀{n:Nat} {s s':rZ} {t:Thread},wj tb p w pL ann n s t=some s'->topRun tb p w pL ann n s.abs t=some s'.abs:=by
 intro n;induction n with
 |zero=>intro s s' t h;cases h
 | succ n ih=>
  intro s s' t h;unfold wj at h;unfold topRun;cases ht:through t with
  |true=>rw[ht] at h;cases h;rfl
  | false=>
   rw[ht] at h;cases hk:stepOk pL ann t with
   |false=>rw[hk] at h;cases h
   | true=>
    rw[hk] at h;cases hs:stepT (denote tb) p w s t with
    |none=>rw[hs] at h;cases h
    |some r=>
     obtain⟨jX,adk⟩:=r;rw[hs] at h;rw[stepT_spec hs];exact ih h
noncomputable def bt(l:List Obj):BT:=(l.foldl (λ(p:BT×Nat) o=>(p.1.ins p.2 o,p.2+1)) (BT.nil,0)).1
noncomputable def Sv(P:j4)(os:oN):rZ:=⟨bt (gN P).objs.toList,(gN P).objs.size,(gN P).life,mP [],kz,v3,os⟩
theorem OG(P)(os):(Sv P os).abs=⟨gN P,mP [],kz,v3,os⟩:=@bj
noncomputable abbrev LY{α:Type}(p q)(loose)(Xt)(Yf:aE->α)(P)(s):=((staticsOk (mZ p.main.body) (gN P) s.heap&&namesBound p s.heap&&gensDone s&&laidKept (gN P) s.heap),openSeen q loose (mZ p.main.body) Xt true s,Yf s)
noncomputable def goB(tb:String->Option Builtin)(p:bR)(w:World)(pL:Nat)(ann:Option Value):Nat->rZ->Thread->Option (rZ×Thread)
 |0,s,t=>some (s,t)
 | n+1,s,t=>match through t with
  |true=>none
  | false=>match stepOk pL ann t with
   |false=>none
   |true=>match stepT (denote tb) p w s t with
    |some (s',t')=>goB tb p w pL ann n s' t'
    |none=>none
section
variable {tb:String->Option Builtin} {p:bR} {w:World} {pL:Nat} {ann:Option Value} {b:List Stmt} {env:Env} {c:Code} {q pos p':Pos}
theorem YG:∀{n:Nat} {s s':rZ} {t t':Thread},goB tb p w pL ann n s t=some (s',t')->topGo tb p w pL ann n s.abs t=some (s'.abs,t'):=by
 intro n;induction n with
 |zero=>intro s s' t t' h;cases h;rfl
 | succ n ih=>
  intro s s' t t' h;unfold goB at h;unfold topGo;cases ht:through t with
  |true=>rw[ht] at h;cases h
  | false=>
   rw[ht] at h;cases hk:stepOk pL ann t with
   |false=>rw[hk] at h;cases h
   | true=>
    rw[hk] at h;cases hs:stepT (denote tb) p w s t with
    |none=>rw[hs] at h;cases h
    |some r=>
     obtain⟨jX,adk⟩:=r;rw[hs] at h;rw[stepT_spec hs];exact ih h
theorem Oz(h1:goB tb p w pL ann nA s0 (topStub p)=some (sA,⟨denote tb (.body b env),c,pos,[uT q]⟩))(h2:segRunT tb p w pL ann 1 nB sA (blockOf b env c pos [uT q])=some (.next,sB,c,p'))
  (k:topRun tb p w pL ann N sB.abs (restOf b env c p' [uT q])=@am):topRun tb p w pL ann (nA+(nB+N)) s0.abs (topStub p)=@am:=go_top (YG h1) (piece_block (segRun_of h2) k)
theorem Sd(k)(h:segRunT tb p w pL ann 1 n s (piecesOf (b.take k) env c pos [uT q])=some (.next,s',c,p'))
  (hk:topRun tb p w pL ann N s'.abs (restOf (b.drop k) env c p' [uT q])=@am):topRun tb p w pL ann (n+N) s.abs (restOf b env c pos [uT q])=@am:=by
 have:=piece_app (segRun_of h) hk
 rwa[cw] at this
end
theorem QS{σ α β γ:Type}{o:Option σ}{F:σ->α×β×γ}{a:α}{b:β}{c:γ}(h1:o.map (λs=>((F s).1,(F s).2.2))=some (a,c))(h2:o.map (λs=>(F s).2.1)=some b):o.map F=some (a,b,c):=by
 cases o with
 |none=>cases h1
 |some s=>
  have e1:=bW h1;have e2:(F s).2.1=b:=bW h2;show some ((F s).1,(F s).2.1,(F s).2.2)=_;rw[e2,show(F s).1=a from congrArg @N e1,show(F s).2.2=c from congrArg (·.2) e1]
theorem TH{p q:bR}{loose:@D}{Xt:aE->Bool}{α:Type}{Yf:aE->α}{Ya:World->α}{N M:Nat}{w:World}{os:oN}{U5:Nat}{ann:Option Value}{sL:rZ}{tL:Thread}
  (hz:((gN w.params).isNs bJ,(gN w.params).objs.size,(gN w.params).nsMap bJ "__annotations__")=(true,U5,ann))
  (h:(wj j0 p w U5 ann M sL tL).map (λs=>LY p q loose Xt Yf w.params s.abs)=some (true,OT q loose,Ya w))
  (k:∀r,topRun j0 p w U5 ann M sL.abs tL=@am->topRun j0 p w U5 ann N (Sv w.params os).abs (topStub p)=@am):
  (topFrom j0 p w N ⟨gN w.params,mP [],kz,v3,os⟩).map (λs=>(openSeen q loose (mZ p.main.body) Xt true s,Yf s))=some (OT q loose,Ya w):=by
 obtain⟨s,e1,e2⟩:=Option.map_eq_some_iff.mp h;have r:=k _ (T4 e1);rw[OG] at r;obtain⟨z1,z2,z3⟩:_/\_/\_:=by simpa only[Ji] using hz
 obtain⟨l1,l2,l3⟩:_/\_/\_:=by simpa only[Ji] using e2
 have t:topFrom j0 p w N ⟨gN w.params,mP [],kz,v3,os⟩=some s.abs:=by
  unfold topFrom;ext e;have g:((mP []:Array GenState).size == 0)=true:=rfl;rw[z1,z2,z3,g,jR,r];dsimp only[Option.bind_some];rw[l1]
 rw[t];exact congrArg some (Prod.ext l2 l3)
end K2
namespace Fin
open PySem PySem.Spec PyProof.Rows L2 K2
noncomputable def top(i:Nat):Stmt:=PySem.Challenge.pw_knotwise_k49_whole_linking_kept.main.body.getD i (.Pass ⟨0,0,0,0⟩)
def BN(i j:Nat):Stmt:=match top i with |.ClassDef _ _ _ b _ _ _ _ _ _ _=>b.getD j (.Pass ⟨0,0,0,0⟩) |s=>s
noncomputable section
open PySem.W PySem.Calls
noncomputable def hC (n:Str) (t:Nat) (l:@C):Obj:=⟨.type "code",none,.fields (.str n t::.str n (t+1)::.str "/claim/cut.py" (t+2)::l).toArray,#[]⟩
noncomputable def hI(n:Int):Value:=.int n 0
noncomputable def hR(n:Nat):Value:=.ref n
noncomputable def hN:Value:=.none
noncomputable def hT:Value:=.bool true
noncomputable def hS (n:Nat):Value:=.str "/claim/cut.py" n
noncomputable def hD(n:Str)(t:Nat)(l a:Int)(r:Nat)(x y z:Value)(u:Nat):Obj:=hC n t [hI l,hI a,hI 0,hI 0,hI 3,hR r,hT,hI 181,hR (r+1),hN,x,y,z,hI (u-1),hI l,hS u]
noncomputable abbrev hF (i:Nat) (n:Str) (m c:Value):Obj:=⟨.type "function",none,.func (jd n n (gQ (top i)) (fx (top i)) (cD (top i)) .none .none .none m none c .none),#[]⟩
noncomputable abbrev hM (i j:Nat) (n q:Str) (m c:Value):Obj:=⟨.type "function",none,.func (jd n q (gQ (BN i j)) (fx (BN i j)) (cD (BN i j)) .none .none .none m none c .none),#[]⟩
noncomputable abbrev hE(P:j4)(s:Str)(t:Nat)(v:Value):DictEntry:=⟨PyData.keyHash P s,.str s t,v⟩
noncomputable def hQ:bR:=PySem.W.view PySem.Challenge.pw_knotwise_k49_whole_linking_kept [1,2,3,4,5,6,7,9,10,11,12,13,14,15,16,17,19,20,22,23,24,25,26,27,28,29,30,31,32,34,35,36,37,38,39,40,41,42,43,44,45,46,47,48,49,51,52,53,54,55,56,57,58,59,60,61,62,63,64,65,66,67,68,69]
noncomputable def o0:Obj:=⟨(@ae),none,(.seq #[] 0),#[]⟩
def o1 (P:j4):Obj:=⟨@a9,none,(.dict #[hE P "__module__" 196 @bu,hE P "__firstlineno__" 200 (.int 2 199),hE P "__static_attributes__" 201 (.ref 22),hE P "__weakref__" 203 (.ref 25),hE P "__doc__" 204 .none] 3),#[]⟩
noncomputable def o2:Obj:=⟨@cj,none,(.cls ⟨"KnotError",[@df],[@bv,@df,(.type "Exception"),(@dM),@ca],23,"KnotError",.true,[],[(.ref 37),(.ref 49),(.ref 61),(.ref 73),(.ref 85),(.ref 97)],@ap,none,@ap⟩),#[(some (.ref 15)),none,(some (.str "KnotError" 189)),(some (.str "KnotError" 197)),@dN,(some @af)]⟩
noncomputable def o3:Obj:=⟨(.type "getset_descriptor"),none,(.fields #[(.str "__weakref__" 202),@bv,(.builtin "ExceptionGroup.__weakref__"),.none]),#[]⟩
noncomputable def o4:Obj:=⟨(@ae),none,(.seq #[@bv] 0),#[]⟩
def o5 (P:j4):Obj:=⟨@a9,none,(.dict #[hE P "__module__" 214 @bu,hE P "__firstlineno__" 218 (.int 4 217),hE P "__static_attributes__" 219 (.ref 35),hE P "__doc__" 220 .none] 2),#[]⟩
noncomputable def o6:Obj:=⟨@cj,none,(.cls ⟨"NoName",[@bv],[(.ref 37),@bv,@df,(.type "Exception"),(@dM),@ca],36,"NoName",.true,[],[],@ap,none,@ap⟩),#[(some (.ref 28)),none,(some (.str "NoName" 207)),(some (.str "NoName" 215)),@dN,(some @af)]⟩
def o7 (P:j4):Obj:=⟨@a9,none,(.dict #[hE P "__module__" 230 @bu,hE P "__firstlineno__" 234 (.int 6 233),hE P "__static_attributes__" 235 (.ref 47),hE P "__doc__" 236 .none] 2),#[]⟩
noncomputable def o8:Obj:=⟨@cj,none,(.cls ⟨"NameTaken",[@bv],[(.ref 49),@bv,@df,(.type "Exception"),(@dM),@ca],48,"NameTaken",.true,[],[],@ap,none,@ap⟩),#[(some (.ref 40)),none,(some (.str "NameTaken" 223)),(some (.str "NameTaken" 231)),@dN,(some @af)]⟩
def o9 (P:j4):Obj:=⟨@a9,none,(.dict #[hE P "__module__" 246 @bu,hE P "__firstlineno__" 250 (.int 8 249),hE P "__static_attributes__" 251 (.ref 59),hE P "__doc__" 252 .none] 2),#[]⟩
noncomputable def o10:Obj:=⟨@cj,none,(.cls ⟨"NoSpot",[@bv],[(.ref 61),@bv,@df,(.type "Exception"),(@dM),@ca],60,"NoSpot",.true,[],[],@ap,none,@ap⟩),#[(some (.ref 52)),none,(some (.str "NoSpot" 239)),(some (.str "NoSpot" 247)),@dN,(some @af)]⟩
def o11 (P:j4):Obj:=⟨@a9,none,(.dict #[hE P "__module__" 262 @bu,hE P "__firstlineno__" 266 (.int 10 265),hE P "__static_attributes__" 267 (.ref 71),hE P "__doc__" 268 .none] 2),#[]⟩
noncomputable def o12:Obj:=⟨@cj,none,(.cls ⟨"TooMany",[@bv],[(.ref 73),@bv,@df,(.type "Exception"),(@dM),@ca],72,"TooMany",.true,[],[],@ap,none,@ap⟩),#[(some (.ref 64)),none,(some (.str "TooMany" 255)),(some (.str "TooMany" 263)),@dN,(some @af)]⟩
def o13 (P:j4):Obj:=⟨@a9,none,(.dict #[hE P "__module__" 278 @bu,hE P "__firstlineno__" 282 (.int 12 281),hE P "__static_attributes__" 283 (.ref 83),hE P "__doc__" 284 .none] 2),#[]⟩
noncomputable def o14:Obj:=⟨@cj,none,(.cls ⟨"NoFit",[@bv],[(.ref 85),@bv,@df,(.type "Exception"),(@dM),@ca],84,"NoFit",.true,[],[],@ap,none,@ap⟩),#[(some (.ref 76)),none,(some (.str "NoFit" 271)),(some (.str "NoFit" 279)),@dN,(some @af)]⟩
def o15 (P:j4):Obj:=⟨@a9,none,(.dict #[hE P "__module__" 294 @bu,hE P "__firstlineno__" 298 (.int 14 297),hE P "__static_attributes__" 299 (.ref 95),hE P "__doc__" 300 .none] 2),#[]⟩
noncomputable def o16:Obj:=⟨@cj,none,(.cls ⟨"NoMove",[@bv],[(.ref 97),@bv,@df,(.type "Exception"),(@dM),@ca],96,"NoMove",.true,[],[],@ap,none,@ap⟩),#[(some (.ref 88)),none,(some (.str "NoMove" 287)),(some (.str "NoMove" 295)),@dN,(some @af)]⟩
def o17 (P:j4):Obj:=⟨@a9,none,(.dict #[hE P "__module__" 569 @F,hE P "__firstlineno__" 573 (.int 167 572),hE P "__static_attributes__" 574 (.ref 295),hE P "__dict__" 576 (.ref 298),hE P "__weakref__" 578 (.ref 299),hE P "__doc__" 579 .none] 4),#[]⟩
noncomputable def o18:Obj:=⟨(.type "getset_descriptor"),none,(.fields #[(.str "__dict__" 575),@bo,(.builtin "function.__dict__"),(.builtin "function.__dict__#set")]),#[]⟩
noncomputable def o19:Obj:=⟨(.type "getset_descriptor"),none,(.fields #[(.str "__weakref__" 577),@bo,(.builtin "ExceptionGroup.__weakref__"),.none]),#[]⟩
noncomputable def Zy:Obj:=⟨(@ae),none,(.seq #[@bo] 0),#[]⟩
noncomputable def o21:Obj:=⟨@aL,none,(.fields #[(.str "__init__" 594),(.str "Uncurl.__init__" 595),(.str "/claim/cut.py" 596),(.int 171 0),@bp,@o,@o,@aG,(.ref 309),@af,@aA,(.ref 310),.none,(.ref 311),(.ref 312),(.ref 313),(.int 599 0),(.int 171 0),(.str "/claim/cut.py" 600)]),#[]⟩
noncomputable def o22:Obj:=⟨@aL,none,(.fields #[(.str "told" 602),(.str "Uncurl.told" 603),(.str "/claim/cut.py" 604),(.int 174 0),(.int 1 0),@o,@o,@aG,(.ref 316),@af,@aA,(.ref 317),.none,(.ref 318),(.ref 319),(.ref 320),(.int 606 0),(.int 174 0),(.str "/claim/cut.py" 607)]),#[]⟩
noncomputable def o23:Obj:=⟨@aL,none,(.fields #[(.str "refuse" 609),(.str "Uncurl.refuse" 610),(.str "/claim/cut.py" 611),(.int 177 0),@bp,@o,@o,@aG,(.ref 323),@af,@aA,(.ref 324),.none,(.ref 325),(.ref 326),(.ref 327),(.int 614 0),(.int 177 0),(.str "/claim/cut.py" 615)]),#[]⟩
noncomputable def o24:Obj:=⟨@aL,none,(.fields #[(.str "done" 617),(.str "Uncurl.done" 618),(.str "/claim/cut.py" 619),@aA,@bp,@o,@o,@aG,(.ref 330),@af,@aA,(.ref 331),.none,(.ref 332),(.ref 333),(.ref 334),(.int 622 0),@aA,(.str "/claim/cut.py" 623)]),#[]⟩
noncomputable def o25:Obj:=⟨@aL,none,(.fields #[(.str "back" 625),(.str "Uncurl.back" 626),(.str "/claim/cut.py" 627),(.int 185 0),@bp,@o,@o,@aG,(.ref 337),@af,@aA,(.ref 338),.none,(.ref 339),(.ref 340),(.ref 341),(.int 634 0),(.int 185 0),(.str "/claim/cut.py" 635)]),#[]⟩
noncomputable def o26:Obj:=⟨@aL,none,(.fields #[(.str "renamed" 637),(.str "Uncurl.renamed" 638),(.str "/claim/cut.py" 639),(.int 193 0),@bp,@o,@o,@aG,(.ref 344),@af,@aA,(.ref 345),.none,(.ref 346),(.ref 347),(.ref 348),(.int 642 0),(.int 193 0),(.str "/claim/cut.py" 643)]),#[]⟩
noncomputable def o27:Obj:=⟨(@ae),none,(.seq #[(.str "name" 645)] 0),#[]⟩
def o28 (P:j4):Obj:=⟨@a9,none,(.dict #[hE P "__module__" 589 @F,hE P "__firstlineno__" 593 (.int 169 592),hE P "__init__" 601 (.ref 315),hE P "told" 608 (.ref 322),hE P "refuse" 616 (.ref 329),hE P "done" 624 (.ref 336),hE P "back" 636 (.ref 343),hE P "renamed" 644 (.ref 350),hE P "__static_attributes__" 646 (.ref 351),hE P "__doc__" 647 .none] 2),#[]⟩
noncomputable def o29:Obj:=⟨@cj,none,(.cls ⟨"Uncurl",[@bo],[(.ref 353),@bo,@ca],352,"Uncurl",.true,[],[],@ap,none,@ap⟩),#[(some (.ref 302)),none,(some (.str "Uncurl" 582)),(some (.str "Uncurl" 590)),@dE,(some @af)]⟩
noncomputable def U1:Obj:=⟨@db,none,(.fields #[(.builtin "type.__prepare__"),@cj]),#[]⟩
noncomputable def oy:Obj:=⟨.none,none,(.fields #[]),#[]⟩
noncomputable def hK(P:j4):ay:=(nat_lit 2,⟨.none,none,(.dict #[] 0),#[]⟩) ::
(nat_lit 3,⟨@a9,none,(.dict #[hE P "__name__" 165 @bC,hE P "__doc__" 166 .none,hE P "__package__" 167 .none,hE P "__loader__" 168 (.builtin "__main__.__loader__#opaque"),hE P "__spec__" 169 .none,hE P "__annotations__" 170 (.ref 6),hE P "__builtins__" 171 (.ref 4),hE P "__file__" 173 (.str "/claim/cut.py" 172),hE P "__cached__" 174 .none,hE P "KnotError" 206 @bv,hE P "NoName" 222 (.ref 37),hE P "NameTaken" 238 (.ref 49),hE P "NoSpot" 254 (.ref 61),hE P "TooMany" 270 (.ref 73),hE P "NoFit" 286 (.ref 85),hE P "NoMove" 302 (.ref 97),hE P "MOST_CROSSINGS" 306 (.int 12 305),hE P "passings_of" 315 (.ref 106),hE P "seated" 323 (.ref 113),hE P "seated_rows" 329 (.ref 118),hE P "names_of" 335 (.ref 123),hE P "hand_of" 344 (.ref 130),hE P "spots_on" 350 (.ref 135),hE P "next_of" 361 (.ref 142),hE P "string_of" 371 (.ref 149),hE P "writhe" 379 (.ref 154),hE P "linking" 385 (.ref 159),hE P "neighbours" 396 (.ref 166),hE P "uncurl_fits" 404 (.ref 173),hE P "part_fits" 414 (.ref 180),hE P "in_turn" 423 (.ref 187),hE P "slide_pairs" 437 (.ref 194),hE P "slide_fits" 443 (.ref 199),hE P "lessening" 450 (.ref 206),hE P "uncurls_in" 456 (.ref 211),hE P "overs_in_turn" 467 (.ref 218),hE P "parts_in" 473 (.ref 223),hE P "slides_in" 484 (.ref 230),hE P "refuse_unknown" 496 (.ref 237),hE P "refuse_unfit" 503 (.ref 244),hE P "refuse_new" 513 (.ref 251),hE P "with_put" 525 (.ref 258),hE P "taken_out" 531 (.ref 263),hE P "spot_ahead" 537 (.ref 268),hE P "first_in_turn" 547 (.ref 275),hE P "with_changed" 553 (.ref 280),hE P "renamed_spot" 561 (.ref 287),hE P "Move" 581 @bo,hE P "Uncurl" 649 (.ref 353),hE P "Curl" 712 (.ref 400),hE P "Part" 786 (.ref 454),hE P "Lay" 866 (.ref 508),hE P "Slide" 938 (.ref 562),hE P "move_of" 945 (.ref 571),hE P "_law_cell_at" 955 (.ref 578),hE P "_law_whole" 962 (.ref 585),hE P "_law_pick" 971 (.ref 592),hE P "_law_copy" 977 (.ref 597),hE P "_law_free" 985 (.ref 604),hE P "_law_put" 996 (.ref 611),hE P "_law_digits" 1009 (.ref 618),hE P "_law_drawing" 1015 (.ref 623),hE P "_law_names" 1025 (.ref 630),hE P "_law_hands" 1035 (.ref 637),hE P "_law_spots" 1045 (.ref 644),hE P "_law_curl" 1055 (.ref 651),hE P "_law_lay" 1069 (.ref 658),hE P "_law_lesser" 1075 (.ref 663),hE P "_law_move" 1086 (.ref 670),hE P "_law_pairs" 1104 (.ref 677),hE P "_law_triangle" 1118 (.ref 684),hE P "_law_more" 1126 (.ref 691),hE P "law" 1140 (.ref 698)] 73),#[]⟩) ::
(nat_lit 15,⟨(@ae),none,(.seq #[@df] 0),#[]⟩) ::
(nat_lit 22,o0) ::
(nat_lit 23,o1 P) ::
(nat_lit 24,o2) ::
(nat_lit 25,o3) ::
(nat_lit 28,o4) ::
(nat_lit 35,o0) ::
(nat_lit 36,o5 P) ::
(nat_lit 37,o6) ::
(nat_lit 40,o4) ::
(nat_lit 47,o0) ::
(nat_lit 48,o7 P) ::
(nat_lit 49,o8) ::
(nat_lit 52,o4) ::
(nat_lit 59,o0) ::
(nat_lit 60,o9 P) ::
(nat_lit 61,o10) ::
(nat_lit 64,o4) ::
(nat_lit 71,o0) ::
(nat_lit 72,o11 P) ::
(nat_lit 73,o12) ::
(nat_lit 76,o4) ::
(nat_lit 83,o0) ::
(nat_lit 84,o13 P) ::
(nat_lit 85,o14) ::
(nat_lit 88,o4) ::
(nat_lit 95,o0) ::
(nat_lit 96,o15 P) ::
(nat_lit 97,o16) ::
(nat_lit 105,hD "passings_of" 307 18 1 100 (hR 102) (hR 103) (hR 104) 314) ::
(nat_lit 106,hF 10 "passings_of" @b9 (.ref 105)) ::
(nat_lit 112,hD "seated" 316 23 1 107 (hR 109) (hR 110) (hR 111) 322) ::
(nat_lit 113,hF 11 "seated" @b9 (.ref 112)) ::
(nat_lit 117,hD "seated_rows" 324 28 1 114 hN hN (hR 116) 328) ::
(nat_lit 118,hF 12 "seated_rows" @b9 (.ref 117)) ::
(nat_lit 122,hD "names_of" 330 30 1 119 hN hN (hR 121) 334) ::
(nat_lit 123,hF 13 "names_of" @b9 (.ref 122)) ::
(nat_lit 129,hD "hand_of" 336 32 2 124 (hR 126) (hR 127) (hR 128) 343) ::
(nat_lit 130,hF 14 "hand_of" @b9 (.ref 129)) ::
(nat_lit 134,hD "spots_on" 345 37 2 131 hN hN (hR 133) 349) ::
(nat_lit 135,hF 15 "spots_on" @b9 (.ref 134)) ::
(nat_lit 141,hD "next_of" 351 41 1 136 (hR 138) (hR 139) (hR 140) 360) ::
(nat_lit 142,hF 16 "next_of" @b9 (.ref 141)) ::
(nat_lit 148,hD "string_of" 362 47 2 143 (hR 145) (hR 146) (hR 147) 370) ::
(nat_lit 149,hF 17 "string_of" @b9 (.ref 148)) ::
(nat_lit 153,hD "writhe" 374 53 1 150 hN hN (hR 152) 378) ::
(nat_lit 154,hF 19 "writhe" (.str "knotwise.marks" 372) (.ref 153)) ::
(nat_lit 158,hD "linking" 380 55 1 155 hN hN (hR 157) 384) ::
(nat_lit 159,hF 20 "linking" (.str "knotwise.marks" 372) (.ref 158)) ::
(nat_lit 165,hD "neighbours" 388 66 3 160 (hR 162) (hR 163) (hR 164) 395) ::
(nat_lit 166,hF 22 "neighbours" @bm (.ref 165)) ::
(nat_lit 172,hD "uncurl_fits" 397 68 2 167 (hR 169) (hR 170) (hR 171) 403) ::
(nat_lit 173,hF 23 "uncurl_fits" @bm (.ref 172)) ::
(nat_lit 179,hD "part_fits" 405 70 3 174 (hR 176) (hR 177) (hR 178) 413) ::
(nat_lit 180,hF 24 "part_fits" @bm (.ref 179)) ::
(nat_lit 186,hD "in_turn" 415 75 3 181 (hR 183) (hR 184) (hR 185) 422) ::
(nat_lit 187,hF 25 "in_turn" @bm (.ref 186)) ::
(nat_lit 193,hD "slide_pairs" 424 79 5 188 (hR 190) (hR 191) (hR 192) 436) ::
(nat_lit 194,hF 26 "slide_pairs" @bm (.ref 193)) ::
(nat_lit 198,hD "slide_fits" 438 84 5 195 hN hN (hR 197) 442) ::
(nat_lit 199,hF 27 "slide_fits" @bm (.ref 198)) ::
(nat_lit 205,hD "lessening" 444 89 1 200 (hR 202) (hR 203) (hR 204) 449) ::
(nat_lit 206,hF 28 "lessening" @bm (.ref 205)) ::
(nat_lit 210,hD "uncurls_in" 451 91 1 207 hN hN (hR 209) 455) ::
(nat_lit 211,hF 29 "uncurls_in" @bm (.ref 210)) ::
(nat_lit 217,hD "overs_in_turn" 457 93 1 212 (hR 214) (hR 215) (hR 216) 466) ::
(nat_lit 218,hF 30 "overs_in_turn" @bm (.ref 217)) ::
(nat_lit 222,hD "parts_in" 468 101 1 219 hN hN (hR 221) 472) ::
(nat_lit 223,hF 31 "parts_in" @bm (.ref 222)) ::
(nat_lit 229,hD "slides_in" 474 104 1 224 (hR 226) (hR 227) (hR 228) 483) ::
(nat_lit 230,hF 32 "slides_in" @bm (.ref 229)) ::
(nat_lit 236,hD "refuse_unknown" 487 114 2 231 (hR 233) (hR 234) (hR 235) 495) ::
(nat_lit 237,hF 34 "refuse_unknown" @F (.ref 236)) ::
(nat_lit 243,hD "refuse_unfit" 497 119 1 238 (hR 240) (hR 241) (hR 242) 502) ::
(nat_lit 244,hF 35 "refuse_unfit" @F (.ref 243)) ::
(nat_lit 250,hD "refuse_new" 504 122 2 245 (hR 247) (hR 248) (hR 249) 512) ::
(nat_lit 251,hF 36 "refuse_new" @F (.ref 250)) ::
(nat_lit 257,hD "with_put" 514 130 3 252 (hR 254) (hR 255) (hR 256) 524) ::
(nat_lit 258,hF 37 "with_put" @F (.ref 257)) ::
(nat_lit 262,hD "taken_out" 526 136 2 259 hN hN (hR 261) 530) ::
(nat_lit 263,hF 38 "taken_out" @F (.ref 262)) ::
(nat_lit 267,hD "spot_ahead" 532 141 3 264 hN hN (hR 266) 536) ::
(nat_lit 268,hF 39 "spot_ahead" @F (.ref 267)) ::
(nat_lit 274,hD "first_in_turn" 538 149 4 269 (hR 271) (hR 272) (hR 273) 546) ::
(nat_lit 275,hF 40 "first_in_turn" @F (.ref 274)) ::
(nat_lit 279,hD "with_changed" 548 153 2 276 hN hN (hR 278) 552) ::
(nat_lit 280,hF 41 "with_changed" @F (.ref 279)) ::
(nat_lit 286,hD "renamed_spot" 554 163 2 281 (hR 283) (hR 284) (hR 285) 560) ::
(nat_lit 287,hF 42 "renamed_spot" @F (.ref 286)) ::
(nat_lit 295,o0) ::
(nat_lit 296,o17 P) ::
(nat_lit 297,⟨@cj,none,(.cls ⟨"Move",[@ca],[@bo,@ca],296,"Move",.true,[],[(.ref 353),(.ref 400),(.ref 454),(.ref 508),(.ref 562)],@ap,none,@ap⟩),#[none,none,(some (.str "Move" 562)),(some (.str "Move" 570)),@dE,(some @af)]⟩) ::
(nat_lit 298,o18) ::
(nat_lit 299,o19) ::
(nat_lit 302,Zy) ::
(nat_lit 314,o21) ::
(nat_lit 315,hM 44 0 "__init__" "Uncurl.__init__" @F (.ref 314)) ::
(nat_lit 321,o22) ::
(nat_lit 322,hM 44 1 "told" "Uncurl.told" @F (.ref 321)) ::
(nat_lit 328,o23) ::
(nat_lit 329,hM 44 2 "refuse" "Uncurl.refuse" @F (.ref 328)) ::
(nat_lit 335,o24) ::
(nat_lit 336,hM 44 3 "done" "Uncurl.done" @F (.ref 335)) ::
(nat_lit 342,o25) ::
(nat_lit 343,hM 44 4 "back" "Uncurl.back" @F (.ref 342)) ::
(nat_lit 349,o26) ::
(nat_lit 350,hM 44 5 "renamed" "Uncurl.renamed" @F (.ref 349)) ::
(nat_lit 351,o27) ::
(nat_lit 352,o28 P) ::
(nat_lit 353,o29) ::
(nat_lit 356,Zy) ::
(nat_lit 368,⟨@aL,none,(.fields #[(.str "__init__" 662),(.str "Curl.__init__" 663),(.str "/claim/cut.py" 664),(.int 197 0),(.int 5 0),@o,@o,@aG,(.ref 363),@af,@aA,(.ref 364),.none,(.ref 365),(.ref 366),(.ref 367),(.int 670 0),(.int 197 0),(.str "/claim/cut.py" 671)]),#[]⟩) ::
(nat_lit 369,hM 45 0 "__init__" "Curl.__init__" @F (.ref 368)) ::
(nat_lit 375,⟨@aL,none,(.fields #[(.str "told" 673),(.str "Curl.told" 674),(.str "/claim/cut.py" 675),(.int 203 0),(.int 1 0),@o,@o,@aG,(.ref 370),@af,@aA,(.ref 371),.none,(.ref 372),(.ref 373),(.ref 374),(.int 677 0),(.int 203 0),(.str "/claim/cut.py" 678)]),#[]⟩) ::
(nat_lit 376,hM 45 1 "told" "Curl.told" @F (.ref 375)) ::
(nat_lit 382,⟨@aL,none,(.fields #[(.str "done" 680),(.str "Curl.done" 681),(.str "/claim/cut.py" 682),(.int 206 0),@bp,@o,@o,@aG,(.ref 377),@af,@aA,(.ref 378),.none,(.ref 379),(.ref 380),(.ref 381),(.int 686 0),(.int 206 0),(.str "/claim/cut.py" 687)]),#[]⟩) ::
(nat_lit 383,hM 45 2 "done" "Curl.done" @F (.ref 382)) ::
(nat_lit 389,⟨@aL,none,(.fields #[(.str "back" 689),(.str "Curl.back" 690),(.str "/claim/cut.py" 691),(.int 211 0),@bp,@o,@o,@aG,(.ref 384),@af,@aA,(.ref 385),.none,(.ref 386),(.ref 387),(.ref 388),(.int 694 0),(.int 211 0),(.str "/claim/cut.py" 695)]),#[]⟩) ::
(nat_lit 390,hM 45 3 "back" "Curl.back" @F (.ref 389)) ::
(nat_lit 396,⟨@aL,none,(.fields #[(.str "renamed" 697),(.str "Curl.renamed" 698),(.str "/claim/cut.py" 699),(.int 215 0),@bp,@o,@o,@aG,(.ref 391),@af,@aA,(.ref 392),.none,(.ref 393),(.ref 394),(.ref 395),(.int 702 0),(.int 215 0),(.str "/claim/cut.py" 703)]),#[]⟩) ::
(nat_lit 397,hM 45 4 "renamed" "Curl.renamed" @F (.ref 396)) ::
(nat_lit 398,⟨(@ae),none,(.seq #[(.str "first" 705),(.str "hand" 706),(.str "name" 707),(.str "spot" 708)] 0),#[]⟩) ::
(nat_lit 399,⟨@a9,none,(.dict #[hE P "__module__" 657 @F,hE P "__firstlineno__" 661 (.int 195 660),hE P "__init__" 672 (.ref 369),hE P "told" 679 (.ref 376),hE P "done" 688 (.ref 383),hE P "back" 696 (.ref 390),hE P "renamed" 704 (.ref 397),hE P "__static_attributes__" 709 (.ref 398),hE P "__doc__" 710 .none] 2),#[]⟩) ::
(nat_lit 400,⟨@cj,none,(.cls ⟨"Curl",[@bo],[(.ref 400),@bo,@ca],399,"Curl",.true,[],[],@ap,none,@ap⟩),#[(some (.ref 356)),none,(some (.str "Curl" 650)),(some (.str "Curl" 658)),@dE,(some @af)]⟩) ::
(nat_lit 403,Zy) ::
(nat_lit 415,⟨@aL,none,(.fields #[(.str "__init__" 725),(.str "Part.__init__" 726),(.str "/claim/cut.py" 727),(.int 219 0),@aG,@o,@o,@aG,(.ref 410),@af,@aA,(.ref 411),.none,(.ref 412),(.ref 413),(.ref 414),(.int 731 0),(.int 219 0),(.str "/claim/cut.py" 732)]),#[]⟩) ::
(nat_lit 416,hM 46 0 "__init__" "Part.__init__" @F (.ref 415)) ::
(nat_lit 422,⟨@aL,none,(.fields #[(.str "told" 734),(.str "Part.told" 735),(.str "/claim/cut.py" 736),(.int 223 0),(.int 1 0),@o,@o,@aG,(.ref 417),@af,@aA,(.ref 418),.none,(.ref 419),(.ref 420),(.ref 421),(.int 738 0),(.int 223 0),(.str "/claim/cut.py" 739)]),#[]⟩) ::
(nat_lit 423,hM 46 1 "told" "Part.told" @F (.ref 422)) ::
(nat_lit 429,⟨@aL,none,(.fields #[(.str "refuse" 741),(.str "Part.refuse" 742),(.str "/claim/cut.py" 743),(.int 226 0),@bp,@o,@o,@aG,(.ref 424),@af,@aA,(.ref 425),.none,(.ref 426),(.ref 427),(.ref 428),(.int 746 0),(.int 226 0),(.str "/claim/cut.py" 747)]),#[]⟩) ::
(nat_lit 430,hM 46 2 "refuse" "Part.refuse" @F (.ref 429)) ::
(nat_lit 436,⟨@aL,none,(.fields #[(.str "done" 749),(.str "Part.done" 750),(.str "/claim/cut.py" 751),(.int 230 0),@bp,@o,@o,@aG,(.ref 431),@af,@aA,(.ref 432),.none,(.ref 433),(.ref 434),(.ref 435),(.int 754 0),(.int 230 0),(.str "/claim/cut.py" 755)]),#[]⟩) ::
(nat_lit 437,hM 46 3 "done" "Part.done" @F (.ref 436)) ::
(nat_lit 443,⟨@aL,none,(.fields #[(.str "back" 757),(.str "Part.back" 758),(.str "/claim/cut.py" 759),(.int 234 0),@bp,@o,@o,@aG,(.ref 438),@af,@aA,(.ref 439),.none,(.ref 440),(.ref 441),(.ref 442),(.int 770 0),(.int 234 0),(.str "/claim/cut.py" 771)]),#[]⟩) ::
(nat_lit 444,hM 46 4 "back" "Part.back" @F (.ref 443)) ::
(nat_lit 450,⟨@aL,none,(.fields #[(.str "renamed" 773),(.str "Part.renamed" 774),(.str "/claim/cut.py" 775),(.int 246 0),@bp,@o,@o,@aG,(.ref 445),@af,@aA,(.ref 446),.none,(.ref 447),(.ref 448),(.ref 449),(.int 778 0),(.int 246 0),(.str "/claim/cut.py" 779)]),#[]⟩) ::
(nat_lit 451,hM 46 5 "renamed" "Part.renamed" @F (.ref 450)) ::
(nat_lit 452,⟨(@ae),none,(.seq #[(.str "name" 781),(.str "second" 782)] 0),#[]⟩) ::
(nat_lit 453,⟨@a9,none,(.dict #[hE P "__module__" 720 @F,hE P "__firstlineno__" 724 (.int 217 723),hE P "__init__" 733 (.ref 416),hE P "told" 740 (.ref 423),hE P "refuse" 748 (.ref 430),hE P "done" 756 (.ref 437),hE P "back" 772 (.ref 444),hE P "renamed" 780 (.ref 451),hE P "__static_attributes__" 783 (.ref 452),hE P "__doc__" 784 .none] 2),#[]⟩) ::
(nat_lit 454,⟨@cj,none,(.cls ⟨"Part",[@bo],[(.ref 454),@bo,@ca],453,"Part",.true,[],[],@ap,none,@ap⟩),#[(some (.ref 403)),none,(some (.str "Part" 713)),(some (.str "Part" 721)),@dE,(some @af)]⟩) ::
(nat_lit 457,Zy) ::
(nat_lit 469,⟨@aL,none,(.fields #[(.str "__init__" 799),(.str "Lay.__init__" 800),(.str "/claim/cut.py" 801),(.int 250 0),(.int 7 0),@o,@o,@aG,(.ref 464),@af,@aA,(.ref 465),.none,(.ref 466),(.ref 467),(.ref 468),(.int 809 0),(.int 250 0),(.str "/claim/cut.py" 810)]),#[]⟩) ::
(nat_lit 470,hM 47 0 "__init__" "Lay.__init__" @F (.ref 469)) ::
(nat_lit 476,⟨@aL,none,(.fields #[(.str "told" 812),(.str "Lay.told" 813),(.str "/claim/cut.py" 814),(.int 258 0),(.int 1 0),@o,@o,@aG,(.ref 471),@af,@aA,(.ref 472),.none,(.ref 473),(.ref 474),(.ref 475),(.int 816 0),(.int 258 0),(.str "/claim/cut.py" 817)]),#[]⟩) ::
(nat_lit 477,hM 47 1 "told" "Lay.told" @F (.ref 476)) ::
(nat_lit 483,⟨@aL,none,(.fields #[(.str "passings" 819),(.str "Lay.passings" 820),(.str "/claim/cut.py" 821),(.int 261 0),@bp,@o,@o,@aG,(.ref 478),@af,@aA,(.ref 479),.none,(.ref 480),(.ref 481),(.ref 482),(.int 824 0),(.int 261 0),(.str "/claim/cut.py" 825)]),#[]⟩) ::
(nat_lit 484,hM 47 2 "passings" "Lay.passings" @F (.ref 483)) ::
(nat_lit 490,⟨@aL,none,(.fields #[(.str "done" 827),(.str "Lay.done" 828),(.str "/claim/cut.py" 829),(.int 264 0),@bp,@o,@o,@aG,(.ref 485),@af,@aA,(.ref 486),.none,(.ref 487),(.ref 488),(.ref 489),(.int 834 0),(.int 264 0),(.str "/claim/cut.py" 835)]),#[]⟩) ::
(nat_lit 491,hM 47 3 "done" "Lay.done" @F (.ref 490)) ::
(nat_lit 497,⟨@aL,none,(.fields #[(.str "back" 837),(.str "Lay.back" 838),(.str "/claim/cut.py" 839),(.int 272 0),@bp,@o,@o,@aG,(.ref 492),@af,@aA,(.ref 493),.none,(.ref 494),(.ref 495),(.ref 496),(.int 842 0),(.int 272 0),(.str "/claim/cut.py" 843)]),#[]⟩) ::
(nat_lit 498,hM 47 4 "back" "Lay.back" @F (.ref 497)) ::
(nat_lit 504,⟨@aL,none,(.fields #[(.str "renamed" 845),(.str "Lay.renamed" 846),(.str "/claim/cut.py" 847),(.int 276 0),@bp,@o,@o,@aG,(.ref 499),@af,@aA,(.ref 500),.none,(.ref 501),(.ref 502),(.ref 503),(.int 854 0),(.int 276 0),(.str "/claim/cut.py" 855)]),#[]⟩) ::
(nat_lit 505,hM 47 5 "renamed" "Lay.renamed" @F (.ref 504)) ::
(nat_lit 506,⟨(@ae),none,(.seq #[(.str "hand" 857),(.str "name" 858),(.str "over" 859),(.str "second" 860),(.str "turned" 861),(.str "under" 862)] 0),#[]⟩) ::
(nat_lit 507,⟨@a9,none,(.dict #[hE P "__module__" 794 @F,hE P "__firstlineno__" 798 (.int 248 797),hE P "__init__" 811 (.ref 470),hE P "told" 818 (.ref 477),hE P "passings" 826 (.ref 484),hE P "done" 836 (.ref 491),hE P "back" 844 (.ref 498),hE P "renamed" 856 (.ref 505),hE P "__static_attributes__" 863 (.ref 506),hE P "__doc__" 864 .none] 2),#[]⟩) ::
(nat_lit 508,⟨@cj,none,(.cls ⟨"Lay",[@bo],[(.ref 508),@bo,@ca],507,"Lay",.true,[],[],@ap,none,@ap⟩),#[(some (.ref 457)),none,(some (.str "Lay" 787)),(some (.str "Lay" 795)),@dE,(some @af)]⟩) ::
(nat_lit 511,Zy) ::
(nat_lit 523,⟨@aL,none,(.fields #[(.str "__init__" 879),(.str "Slide.__init__" 880),(.str "/claim/cut.py" 881),(.int 284 0),(.int 5 0),@o,@o,@aG,(.ref 518),@af,@aA,(.ref 519),.none,(.ref 520),(.ref 521),(.ref 522),(.int 887 0),(.int 284 0),(.str "/claim/cut.py" 888)]),#[]⟩) ::
(nat_lit 524,hM 48 0 "__init__" "Slide.__init__" @F (.ref 523)) ::
(nat_lit 530,⟨@aL,none,(.fields #[(.str "told" 890),(.str "Slide.told" 891),(.str "/claim/cut.py" 892),(.int 290 0),(.int 1 0),@o,@o,@aG,(.ref 525),@af,@aA,(.ref 526),.none,(.ref 527),(.ref 528),(.ref 529),(.int 894 0),(.int 290 0),(.str "/claim/cut.py" 895)]),#[]⟩) ::
(nat_lit 531,hM 48 1 "told" "Slide.told" @F (.ref 530)) ::
(nat_lit 537,⟨@aL,none,(.fields #[(.str "refuse" 897),(.str "Slide.refuse" 898),(.str "/claim/cut.py" 899),(.int 293 0),@bp,@o,@o,@aG,(.ref 532),@af,@aA,(.ref 533),.none,(.ref 534),(.ref 535),(.ref 536),(.int 902 0),(.int 293 0),(.str "/claim/cut.py" 903)]),#[]⟩) ::
(nat_lit 538,hM 48 2 "refuse" "Slide.refuse" @F (.ref 537)) ::
(nat_lit 544,⟨@aL,none,(.fields #[(.str "done" 905),(.str "Slide.done" 906),(.str "/claim/cut.py" 907),(.int 297 0),@bp,@o,@o,@aG,(.ref 539),@af,@aA,(.ref 540),.none,(.ref 541),(.ref 542),(.ref 543),(.int 910 0),(.int 297 0),(.str "/claim/cut.py" 911)]),#[]⟩) ::
(nat_lit 545,hM 48 3 "done" "Slide.done" @F (.ref 544)) ::
(nat_lit 551,⟨@aL,none,(.fields #[(.str "back" 913),(.str "Slide.back" 914),(.str "/claim/cut.py" 915),(.int 301 0),@bp,@o,@o,@aG,(.ref 546),@af,@aA,(.ref 547),.none,(.ref 548),(.ref 549),(.ref 550),(.int 918 0),(.int 301 0),(.str "/claim/cut.py" 919)]),#[]⟩) ::
(nat_lit 552,hM 48 4 "back" "Slide.back" @F (.ref 551)) ::
(nat_lit 558,⟨@aL,none,(.fields #[(.str "renamed" 921),(.str "Slide.renamed" 922),(.str "/claim/cut.py" 923),(.int 305 0),@bp,@o,@o,@aG,(.ref 553),@af,@aA,(.ref 554),.none,(.ref 555),(.ref 556),(.ref 557),(.int 928 0),(.int 305 0),(.str "/claim/cut.py" 929)]),#[]⟩) ::
(nat_lit 559,hM 48 5 "renamed" "Slide.renamed" @F (.ref 558)) ::
(nat_lit 560,⟨(@ae),none,(.seq #[(.str "name" 931),(.str "second" 932),(.str "third" 933),(.str "turn" 934)] 0),#[]⟩) ::
(nat_lit 561,⟨@a9,none,(.dict #[hE P "__module__" 874 @F,hE P "__firstlineno__" 878 (.int 282 877),hE P "__init__" 889 (.ref 524),hE P "told" 896 (.ref 531),hE P "refuse" 904 (.ref 538),hE P "done" 912 (.ref 545),hE P "back" 920 (.ref 552),hE P "renamed" 930 (.ref 559),hE P "__static_attributes__" 935 (.ref 560),hE P "__doc__" 936 .none] 2),#[]⟩) ::
(nat_lit 562,⟨@cj,none,(.cls ⟨"Slide",[@bo],[(.ref 562),@bo,@ca],561,"Slide",.true,[],[],@ap,none,@ap⟩),#[(some (.ref 511)),none,(some (.str "Slide" 867)),(some (.str "Slide" 875)),@dE,(some @af)]⟩) ::
(nat_lit 570,hD "move_of" 939 309 1 565 (hR 567) (hR 568) (hR 569) 944) ::
(nat_lit 571,hF 49 "move_of" @F (.ref 570)) ::
(nat_lit 577,hD "_law_cell_at" 948 322 2 572 (hR 574) (hR 575) (hR 576) 954) ::
(nat_lit 578,hF 51 "_law_cell_at" @bC (.ref 577)) ::
(nat_lit 584,hD "_law_whole" 956 326 1 579 (hR 581) (hR 582) (hR 583) 961) ::
(nat_lit 585,hF 52 "_law_whole" @bC (.ref 584)) ::
(nat_lit 591,hD "_law_pick" 963 328 3 586 (hR 588) (hR 589) (hR 590) 970) ::
(nat_lit 592,hF 53 "_law_pick" @bC (.ref 591)) ::
(nat_lit 596,hD "_law_copy" 972 330 1 593 hN hN (hR 595) 976) ::
(nat_lit 597,hF 54 "_law_copy" @bC (.ref 596)) ::
(nat_lit 603,hD "_law_free" 978 332 2 598 (hR 600) (hR 601) (hR 602) 984) ::
(nat_lit 604,hF 55 "_law_free" @bC (.ref 603)) ::
(nat_lit 610,hD "_law_put" 986 336 4 605 (hR 607) (hR 608) (hR 609) 995) ::
(nat_lit 611,hF 56 "_law_put" @bC (.ref 610)) ::
(nat_lit 617,hD "_law_digits" 997 341 2 612 (hR 614) (hR 615) (hR 616) 1008) ::
(nat_lit 618,hF 57 "_law_digits" @bC (.ref 617)) ::
(nat_lit 622,hD "_law_drawing" 1010 352 3 619 hN hN (hR 621) 1014) ::
(nat_lit 623,hF 58 "_law_drawing" @bC (.ref 622)) ::
(nat_lit 629,hD "_law_names" 1016 362 1 624 (hR 626) (hR 627) (hR 628) 1024) ::
(nat_lit 630,hF 59 "_law_names" @bC (.ref 629)) ::
(nat_lit 636,hD "_law_hands" 1026 369 1 631 (hR 633) (hR 634) (hR 635) 1034) ::
(nat_lit 637,hF 60 "_law_hands" @bC (.ref 636)) ::
(nat_lit 643,hD "_law_spots" 1036 375 1 638 (hR 640) (hR 641) (hR 642) 1044) ::
(nat_lit 644,hF 61 "_law_spots" @bC (.ref 643)) ::
(nat_lit 650,hD "_law_curl" 1046 383 2 645 (hR 647) (hR 648) (hR 649) 1054) ::
(nat_lit 651,hF 62 "_law_curl" @bC (.ref 650)) ::
(nat_lit 657,hD "_law_lay" 1056 387 2 652 (hR 654) (hR 655) (hR 656) 1068) ::
(nat_lit 658,hF 63 "_law_lay" @bC (.ref 657)) ::
(nat_lit 662,hD "_law_lesser" 1070 397 3 659 hN hN (hR 661) 1074) ::
(nat_lit 663,hF 64 "_law_lesser" @bC (.ref 662)) ::
(nat_lit 669,hD "_law_move" 1076 404 3 664 (hR 666) (hR 667) (hR 668) 1085) ::
(nat_lit 670,hF 65 "_law_move" @bC (.ref 669)) ::
(nat_lit 676,hD "_law_pairs" 1087 412 2 671 (hR 673) (hR 674) (hR 675) 1103) ::
(nat_lit 677,hF 66 "_law_pairs" @bC (.ref 676)) ::
(nat_lit 683,hD "_law_triangle" 1105 427 2 678 (hR 680) (hR 681) (hR 682) 1117) ::
(nat_lit 684,hF 67 "_law_triangle" @bC (.ref 683)) ::
(nat_lit 690,hD "_law_more" 1119 438 2 685 (hR 687) (hR 688) (hR 689) 1125) ::
(nat_lit 691,hF 68 "_law_more" @bC (.ref 690)) ::
(nat_lit 697,hD "law" 1127 444 1 692 (hR 694) (hR 695) (hR 696) 1139) ::
(nat_lit 698,hF 69 "law" @bC (.ref 697))::[]
noncomputable def hA:@aI:=[2,3,15,22,23,24,25,28,35,36,37,40,47,48,49,52,59,60,61,64,71,72,73,76,83,84,85,88,95,96,97,105,106,112,113,117,118,122,123,129,130,134,135,141,142,148,149,153,154,158,159,165,166,172,173,179,180,186,187,193,194,198,199,205,206,210,211,217,218,222,223,229,230,236,237,243,244,250,251,257,258,262,263,267,268,274,275,279,280,286,287,295,296,297,298,299,302,314,315,321,322,328,329,335,336,342,343,349,350,351,352,353,356,368,369,375,376,382,383,389,390,396,397,398,399,400,403,415,416,422,423,429,430,436,437,443,444,450,451,452,453,454,457,469,470,476,477,483,484,490,491,497,498,504,505,506,507,508,511,523,524,530,531,537,538,544,545,551,552,558,559,560,561,562,570,571,577,578,584,585,591,592,596,597,603,604,610,611,617,618,622,623,629,630,636,637,643,644,650,651,657,658,662,663,669,670,676,677,683,684,690,691,697,698]
noncomputable abbrev hG(st:Stmt)(n q:Str)(g b:Addr):Obj:=⟨.none,none,.func ⟨n,q,gQ st,.stmts (fx st),cD st,g,[],.none,.none,.none,.none,none,.none,.none,b⟩,#[]⟩
noncomputable def cE:Env:={scope:=PySem.Challenge.rw_knotwise_k49_whole_linking_kept.row.prog.main.scope,locals:=mainNs,globals:=mainNs,cells:=[],code:=(.ref 13),frame:=some 14}
noncomputable def cB:List Stmt:=behindTheImports PySem.Challenge.rw_knotwise_k49_whole_linking_kept.row.prog
def cC:Code:=.body cB cE
noncomputable def cQ:Pos:=⟨0,0,0,0⟩
noncomputable def cr0(P:j4)(t:List Obj):List Obj:=boot_o_4 P ::
boot_o_5 P ::
boot_o_6 P ::
boot_o_7 P ::
boot_o_8 P ::
boot_o_9 P ::
boot_o_10 P ::
o0::t
noncomputable def cr1 (P:j4) (t:List Obj):List Obj:=hC "<module>" 182 [hI 1,hI 0,hI 0,hI 0,hI 0,hR 11,(.bool @ap),hI 181,hR 12,hN,hN,hN,hN,hI 185,hI 1,hS 186] ::
⟨(.type "frame"),none,.plain,#[(some (.ref 13)),(some (.ref 3)),(some (.ref 3)),none,(some (.str "__main__" 164)),none,(some (.ref 0))]⟩::t
noncomputable def cL0(P:j4):List Obj:=boot_o_0 P ::
boot_o_1 P ::
boot_o_2 P ::
boot_o_3 P ::
cr0 P (⟨.none,none,(.fields #[]),#[]⟩ ::
cr1 P ([]))
noncomputable def cS0(w:World)(os:oN):rZ:=⟨K2.bt (cL0 w.params),15,{},mP [],kz,187,os⟩
noncomputable def cL1(P:j4):List Obj:=boot_o_0 P ::
boot_o_1 P ::
boot_o_2 P ::
boot_o_3 P ::
cr0 P (⟨.none,none,(.fields #[]),#[]⟩ ::
cr1 P ([]))
noncomputable def cS1(w:World)(os:oN):rZ:=⟨K2.bt (cL1 w.params),15,{},mP [],kz,187,os⟩
noncomputable def cL2(P:j4):List Obj:=boot_o_0 P ::
boot_o_1 P ::
boot_o_2 P ::
⟨@a9,none,(.dict #[hE P "__name__" 165 @F,hE P "__doc__" 166 .none,hE P "__package__" 167 .none,hE P "__loader__" 168 (.builtin "__main__.__loader__#opaque"),hE P "__spec__" 169 .none,hE P "__annotations__" 170 (.ref 6),hE P "__builtins__" 171 (.ref 4),hE P "__file__" 173 (.str "/claim/cut.py" 172),hE P "__cached__" 174 .none,hE P "KnotError" 206 @bv,hE P "NoName" 222 (.ref 37),hE P "NameTaken" 238 (.ref 49),hE P "NoSpot" 254 (.ref 61),hE P "TooMany" 270 (.ref 73),hE P "NoFit" 286 (.ref 85),hE P "NoMove" 302 (.ref 97),hE P "MOST_CROSSINGS" 306 (.int 12 305),hE P "passings_of" 315 (.ref 106),hE P "seated" 323 (.ref 113),hE P "seated_rows" 329 (.ref 118),hE P "names_of" 335 (.ref 123),hE P "hand_of" 344 (.ref 130),hE P "spots_on" 350 (.ref 135),hE P "next_of" 361 (.ref 142),hE P "string_of" 371 (.ref 149),hE P "writhe" 379 (.ref 154),hE P "linking" 385 (.ref 159),hE P "neighbours" 396 (.ref 166),hE P "uncurl_fits" 404 (.ref 173),hE P "part_fits" 414 (.ref 180),hE P "in_turn" 423 (.ref 187),hE P "slide_pairs" 437 (.ref 194),hE P "slide_fits" 443 (.ref 199),hE P "lessening" 450 (.ref 206),hE P "uncurls_in" 456 (.ref 211),hE P "overs_in_turn" 467 (.ref 218),hE P "parts_in" 473 (.ref 223),hE P "slides_in" 484 (.ref 230),hE P "refuse_unknown" 496 (.ref 237),hE P "refuse_unfit" 503 (.ref 244),hE P "refuse_new" 513 (.ref 251),hE P "with_put" 525 (.ref 258),hE P "taken_out" 531 (.ref 263),hE P "spot_ahead" 537 (.ref 268),hE P "first_in_turn" 547 (.ref 275),hE P "with_changed" 553 (.ref 280),hE P "renamed_spot" 561 (.ref 287),hE P "Move" 581 @bo,hE P "Uncurl" 649 (.ref 353)] 49),#[]⟩ ::
cr0 P (⟨.none,none,(.fields #[@bp,@o,(.ref 20),(.int 4 0),@o,(.ref 33),(.int 6 0),@o,(.ref 45),(.int 8 0),@o,(.ref 57),(.int 10 0),@o,(.ref 69),(.int 12 0),@o,(.ref 81),(.int 14 0),@o,(.ref 93),(.int 18 0),@o,(.ref 105),(.int 23 0),@o,(.ref 112),(.int 28 0),@o,(.ref 117),(.int 30 0),@o,(.ref 122),(.int 32 0),@o,(.ref 129),(.int 37 0),@o,(.ref 134),(.int 41 0),@o,(.ref 141),(.int 47 0),@o,(.ref 148),(.int 53 0),@o,(.ref 153),(.int 55 0),@o,(.ref 158),(.int 66 0),@o,(.ref 165),(.int 68 0),@o,(.ref 172),(.int 70 0),@o,(.ref 179),(.int 75 0),@o,(.ref 186),(.int 79 0),@o,(.ref 193),(.int 84 0),@o,(.ref 198),(.int 89 0),@o,(.ref 205),(.int 91 0),@o,(.ref 210),(.int 93 0),@o,(.ref 217),(.int 101 0),@o,(.ref 222),(.int 104 0),@o,(.ref 229),(.int 114 0),@o,(.ref 236),(.int 119 0),@o,(.ref 243),(.int 122 0),@o,(.ref 250),(.int 130 0),@o,(.ref 257),(.int 136 0),@o,(.ref 262),(.int 141 0),@o,(.ref 267),(.int 149 0),@o,(.ref 274),(.int 153 0),@o,(.ref 279),(.int 163 0),@o,(.ref 286),(.int 167 0),@o,(.ref 293),(.int 169 0),@o,(.ref 307)]),#[]⟩ ::
cr1 P (⟨(@ae),none,(.seq #[@df] 0),#[]⟩ ::
U1 ::
⟨@a9,none,(.dict #[hE P "__module__" 196 @bu,hE P "__qualname__" 198 (.str "KnotError" 197),hE P "__firstlineno__" 200 (.int 2 199),hE P "__static_attributes__" 201 (.ref 22)] 4),#[]⟩ ::
o0 ::
oy ::
hC "KnotError" 191 [hI 2,hI 0,hI 0,hI 0,hI 0,hR 18,(.bool @ap),hI 181,hR 19,hN,hN,hN,hN,hI 194,hI 2,hS 195] ::
⟨(.type "frame"),none,.plain,#[(some (.ref 20)),(some (.ref 3)),(some (.ref 17)),none,(some @bu),none,(some (.ref 0))]⟩ ::
o0 ::
o1 P ::
o2 ::
o3 ::
⟨(.type "super"),none,(.fields #[@bv,@bv,@bv]),#[]⟩ ::
⟨@db,none,(.fields #[@dk,@bv]),#[]⟩ ::
o4 ::
U1 ::
⟨@a9,none,(.dict #[hE P "__module__" 214 @bu,hE P "__qualname__" 216 (.str "NoName" 215),hE P "__firstlineno__" 218 (.int 4 217),hE P "__static_attributes__" 219 (.ref 35)] 4),#[]⟩ ::
o0 ::
oy ::
hC "NoName" 209 [hI 4,hI 0,hI 0,hI 0,hI 0,hR 31,(.bool @ap),hI 181,hR 32,hN,hN,hN,hN,hI 212,hI 4,hS 213] ::
⟨(.type "frame"),none,.plain,#[(some (.ref 33)),(some (.ref 3)),(some (.ref 30)),none,(some @bu),none,(some (.ref 0))]⟩ ::
o0 ::
o5 P ::
o6 ::
⟨(.type "super"),none,(.fields #[(.ref 37),(.ref 37),(.ref 37)]),#[]⟩ ::
⟨@db,none,(.fields #[@dk,(.ref 37)]),#[]⟩ ::
o4 ::
U1 ::
⟨@a9,none,(.dict #[hE P "__module__" 230 @bu,hE P "__qualname__" 232 (.str "NameTaken" 231),hE P "__firstlineno__" 234 (.int 6 233),hE P "__static_attributes__" 235 (.ref 47)] 4),#[]⟩ ::
o0 ::
oy ::
hC "NameTaken" 225 [hI 6,hI 0,hI 0,hI 0,hI 0,hR 43,(.bool @ap),hI 181,hR 44,hN,hN,hN,hN,hI 228,hI 6,hS 229] ::
⟨(.type "frame"),none,.plain,#[(some (.ref 45)),(some (.ref 3)),(some (.ref 42)),none,(some @bu),none,(some (.ref 0))]⟩ ::
o0 ::
o7 P ::
o8 ::
⟨(.type "super"),none,(.fields #[(.ref 49),(.ref 49),(.ref 49)]),#[]⟩ ::
⟨@db,none,(.fields #[@dk,(.ref 49)]),#[]⟩ ::
o4 ::
U1 ::
⟨@a9,none,(.dict #[hE P "__module__" 246 @bu,hE P "__qualname__" 248 (.str "NoSpot" 247),hE P "__firstlineno__" 250 (.int 8 249),hE P "__static_attributes__" 251 (.ref 59)] 4),#[]⟩ ::
o0 ::
oy ::
hC "NoSpot" 241 [hI 8,hI 0,hI 0,hI 0,hI 0,hR 55,(.bool @ap),hI 181,hR 56,hN,hN,hN,hN,hI 244,hI 8,hS 245] ::
⟨(.type "frame"),none,.plain,#[(some (.ref 57)),(some (.ref 3)),(some (.ref 54)),none,(some @bu),none,(some (.ref 0))]⟩ ::
o0 ::
o9 P ::
o10 ::
⟨(.type "super"),none,(.fields #[(.ref 61),(.ref 61),(.ref 61)]),#[]⟩ ::
⟨@db,none,(.fields #[@dk,(.ref 61)]),#[]⟩ ::
o4 ::
U1 ::
⟨@a9,none,(.dict #[hE P "__module__" 262 @bu,hE P "__qualname__" 264 (.str "TooMany" 263),hE P "__firstlineno__" 266 (.int 10 265),hE P "__static_attributes__" 267 (.ref 71)] 4),#[]⟩ ::
o0 ::
oy ::
hC "TooMany" 257 [hI 10,hI 0,hI 0,hI 0,hI 0,hR 67,(.bool @ap),hI 181,hR 68,hN,hN,hN,hN,hI 260,hI 10,hS 261] ::
⟨(.type "frame"),none,.plain,#[(some (.ref 69)),(some (.ref 3)),(some (.ref 66)),none,(some @bu),none,(some (.ref 0))]⟩ ::
o0 ::
o11 P ::
o12 ::
⟨(.type "super"),none,(.fields #[(.ref 73),(.ref 73),(.ref 73)]),#[]⟩ ::
⟨@db,none,(.fields #[@dk,(.ref 73)]),#[]⟩ ::
o4 ::
U1 ::
⟨@a9,none,(.dict #[hE P "__module__" 278 @bu,hE P "__qualname__" 280 (.str "NoFit" 279),hE P "__firstlineno__" 282 (.int 12 281),hE P "__static_attributes__" 283 (.ref 83)] 4),#[]⟩ ::
o0 ::
oy ::
hC "NoFit" 273 [hI 12,hI 0,hI 0,hI 0,hI 0,hR 79,(.bool @ap),hI 181,hR 80,hN,hN,hN,hN,hI 276,hI 12,hS 277] ::
⟨(.type "frame"),none,.plain,#[(some (.ref 81)),(some (.ref 3)),(some (.ref 78)),none,(some @bu),none,(some (.ref 0))]⟩ ::
o0 ::
o13 P ::
o14 ::
⟨(.type "super"),none,(.fields #[(.ref 85),(.ref 85),(.ref 85)]),#[]⟩ ::
⟨@db,none,(.fields #[@dk,(.ref 85)]),#[]⟩ ::
o4 ::
U1 ::
⟨@a9,none,(.dict #[hE P "__module__" 294 @bu,hE P "__qualname__" 296 (.str "NoMove" 295),hE P "__firstlineno__" 298 (.int 14 297),hE P "__static_attributes__" 299 (.ref 95)] 4),#[]⟩ ::
o0 ::
oy ::
hC "NoMove" 289 [hI 14,hI 0,hI 0,hI 0,hI 0,hR 91,(.bool @ap),hI 181,hR 92,hN,hN,hN,hN,hI 292,hI 14,hS 293] ::
⟨(.type "frame"),none,.plain,#[(some (.ref 93)),(some (.ref 3)),(some (.ref 90)),none,(some @bu),none,(some (.ref 0))]⟩ ::
o0 ::
o15 P ::
o16 ::
⟨(.type "super"),none,(.fields #[(.ref 97),(.ref 97),(.ref 97)]),#[]⟩ ::
⟨@db,none,(.fields #[@dk,(.ref 97)]),#[]⟩ ::
o0 ::
oy ::
⟨(@ae),none,(.seq #[(.str "rows" 310),(.str "passings" 311),(.str "row" 312)] 0),#[]⟩ ::
o0 ::
hG (top 10) "passings_of" "passings_of" 0 0 ::
hD "passings_of" 307 18 1 100 (hR 102) (hR 103) (hR 104) 314 ::
hF 10 "passings_of" @b9 (.ref 105) ::
o0 ::
oy ::
⟨(@ae),none,(.seq #[(.str "row" 319),(.str "start" 320)] 0),#[]⟩ ::
o0 ::
hG (top 11) "seated" "seated" 0 0 ::
hD "seated" 316 23 1 107 (hR 109) (hR 110) (hR 111) 322 ::
hF 11 "seated" @b9 (.ref 112) ::
o0 ::
oy ::
hG (top 12) "seated_rows" "seated_rows" 0 0 ::
hD "seated_rows" 324 28 1 114 hN hN (hR 116) 328 ::
hF 12 "seated_rows" @b9 (.ref 117) ::
o0 ::
oy ::
hG (top 13) "names_of" "names_of" 0 0 ::
hD "names_of" 330 30 1 119 hN hN (hR 121) 334 ::
hF 13 "names_of" @b9 (.ref 122) ::
o0 ::
oy ::
⟨(@ae),none,(.seq #[(.str "drawing" 339),(.str "name" 340),(.str "passing" 341)] 0),#[]⟩ ::
o0 ::
hG (top 14) "hand_of" "hand_of" 0 0 ::
hD "hand_of" 336 32 2 124 (hR 126) (hR 127) (hR 128) 343 ::
hF 14 "hand_of" @b9 (.ref 129) ::
o0 ::
oy ::
hG (top 15) "spots_on" "spots_on" 0 0 ::
hD "spots_on" 345 37 2 131 hN hN (hR 133) 349 ::
hF 15 "spots_on" @b9 (.ref 134) ::
o0 ::
oy ::
⟨(@ae),none,(.seq #[(.str "drawing" 354),(.str "behind" 355),(.str "row" 356),(.str "passing" 357),(.str "follower" 358)] 0),#[]⟩ ::
o0 ::
hG (top 16) "next_of" "next_of" 0 0 ::
hD "next_of" 351 41 1 136 (hR 138) (hR 139) (hR 140) 360 ::
hF 16 "next_of" @b9 (.ref 141) ::
o0 ::
oy ::
⟨(@ae),none,(.seq #[(.str "drawing" 365),(.str "spot" 366),(.str "string" 367),(.str "row" 368)] 0),#[]⟩ ::
o0 ::
hG (top 17) "string_of" "string_of" 0 0 ::
hD "string_of" 362 47 2 143 (hR 145) (hR 146) (hR 147) 370 ::
hF 17 "string_of" @b9 (.ref 148) ::
o0 ::
oy ::
hG (top 19) "writhe" "writhe" 0 0 ::
hD "writhe" 374 53 1 150 hN hN (hR 152) 378 ::
hF 19 "writhe" (.str "knotwise.marks" 372) (.ref 153) ::
o0 ::
oy ::
hG (top 20) "linking" "linking" 0 0 ::
hD "linking" 380 55 1 155 hN hN (hR 157) 384 ::
hF 20 "linking" (.str "knotwise.marks" 372) (.ref 158) ::
o0 ::
oy ::
⟨(@ae),none,(.seq #[(.str "behind" 391),(.str "one" 392),(.str "other" 393)] 0),#[]⟩ ::
o0 ::
hG (top 22) "neighbours" "neighbours" 0 0 ::
hD "neighbours" 388 66 3 160 (hR 162) (hR 163) (hR 164) 395 ::
hF 22 "neighbours" @bm (.ref 165) ::
o0 ::
oy ::
⟨(@ae),none,(.seq #[(.str "drawing" 400),(.str "name" 401)] 0),#[]⟩ ::
o0 ::
hG (top 23) "uncurl_fits" "uncurl_fits" 0 0 ::
hD "uncurl_fits" 397 68 2 167 (hR 169) (hR 170) (hR 171) 403 ::
hF 23 "uncurl_fits" @bm (.ref 172) ::
o0 ::
oy ::
⟨(@ae),none,(.seq #[(.str "drawing" 408),(.str "name" 409),(.str "second" 410),(.str "behind" 411)] 0),#[]⟩ ::
o0 ::
hG (top 24) "part_fits" "part_fits" 0 0 ::
hD "part_fits" 405 70 3 174 (hR 176) (hR 177) (hR 178) 413 ::
hF 24 "part_fits" @bm (.ref 179) ::
o0 ::
oy ::
⟨(@ae),none,(.seq #[(.str "one" 418),(.str "other" 419),(.str "turn" 420)] 0),#[]⟩ ::
o0 ::
hG (top 25) "in_turn" "in_turn" 0 0 ::
hD "in_turn" 415 75 3 181 (hR 183) (hR 184) (hR 185) 422 ::
hF 25 "in_turn" @bm (.ref 186) ::
o0 ::
oy ::
⟨(@ae),none,(.seq #[(.str "drawing" 427),(.str "name" 428),(.str "second" 429),(.str "third" 430),(.str "turn" 431),(.str "first_hand" 432),(.str "second_hand" 433),(.str "third_hand" 434)] 0),#[]⟩ ::
o0 ::
hG (top 26) "slide_pairs" "slide_pairs" 0 0 ::
hD "slide_pairs" 424 79 5 188 (hR 190) (hR 191) (hR 192) 436 ::
hF 26 "slide_pairs" @bm (.ref 193) ::
o0 ::
oy ::
hG (top 27) "slide_fits" "slide_fits" 0 0 ::
hD "slide_fits" 438 84 5 195 hN hN (hR 197) 442 ::
hF 27 "slide_fits" @bm (.ref 198) ::
o0 ::
oy ::
⟨(@ae),none,(.seq #[(.str "drawing" 447)] 0),#[]⟩ ::
o0 ::
hG (top 28) "lessening" "lessening" 0 0 ::
hD "lessening" 444 89 1 200 (hR 202) (hR 203) (hR 204) 449 ::
hF 28 "lessening" @bm (.ref 205) ::
o0 ::
oy ::
hG (top 29) "uncurls_in" "uncurls_in" 0 0 ::
hD "uncurls_in" 451 91 1 207 hN hN (hR 209) 455 ::
hF 29 "uncurls_in" @bm (.ref 210) ::
o0 ::
oy ::
⟨(@ae),none,(.seq #[(.str "drawing" 460),(.str "behind" 461),(.str "pairs" 462),(.str "name" 463),(.str "after" 464)] 0),#[]⟩ ::
o0 ::
hG (top 30) "overs_in_turn" "overs_in_turn" 0 0 ::
hD "overs_in_turn" 457 93 1 212 (hR 214) (hR 215) (hR 216) 466 ::
hF 30 "overs_in_turn" @bm (.ref 217) ::
o0 ::
oy ::
hG (top 31) "parts_in" "parts_in" 0 0 ::
hD "parts_in" 468 101 1 219 hN hN (hR 221) 472 ::
hF 31 "parts_in" @bm (.ref 222) ::
o0 ::
oy ::
⟨(@ae),none,(.seq #[(.str "drawing" 477),(.str "slides" 478),(.str "one" 479),(.str "other" 480),(.str "third" 481)] 0),#[]⟩ ::
o0 ::
hG (top 32) "slides_in" "slides_in" 0 0 ::
hD "slides_in" 474 104 1 224 (hR 226) (hR 227) (hR 228) 483 ::
hF 32 "slides_in" @bm (.ref 229) ::
o0 ::
oy ::
⟨(@ae),none,(.seq #[(.str "drawing" 490),(.str "names" 491),(.str "known" 492),(.str "name" 493)] 0),#[]⟩ ::
o0 ::
hG (top 34) "refuse_unknown" "refuse_unknown" 0 0 ::
hD "refuse_unknown" 487 114 2 231 (hR 233) (hR 234) (hR 235) 495 ::
hF 34 "refuse_unknown" @F (.ref 236) ::
o0 ::
oy ::
⟨(@ae),none,(.seq #[(.str "fits" 500)] 0),#[]⟩ ::
o0 ::
hG (top 35) "refuse_unfit" "refuse_unfit" 0 0 ::
hD "refuse_unfit" 497 119 1 238 (hR 240) (hR 241) (hR 242) 502 ::
hF 35 "refuse_unfit" @F (.ref 243) ::
o0 ::
oy ::
⟨(@ae),none,(.seq #[(.str "drawing" 507),(.str "names" 508),(.str "taken" 509),(.str "name" 510)] 0),#[]⟩ ::
o0 ::
hG (top 36) "refuse_new" "refuse_new" 0 0 ::
hD "refuse_new" 504 122 2 245 (hR 247) (hR 248) (hR 249) 512 ::
hF 36 "refuse_new" @F (.ref 250) ::
o0 ::
oy ::
⟨(@ae),none,(.seq #[(.str "drawing" 517),(.str "spot" 518),(.str "passings" 519),(.str "string" 520),(.str "rows" 521),(.str "place" 522)] 0),#[]⟩ ::
o0 ::
hG (top 37) "with_put" "with_put" 0 0 ::
hD "with_put" 514 130 3 252 (hR 254) (hR 255) (hR 256) 524 ::
hF 37 "with_put" @F (.ref 257) ::
o0 ::
oy ::
hG (top 38) "taken_out" "taken_out" 0 0 ::
hD "taken_out" 526 136 2 259 hN hN (hR 261) 530 ::
hF 38 "taken_out" @F (.ref 262) ::
o0 ::
oy ::
hG (top 39) "spot_ahead" "spot_ahead" 0 0 ::
hD "spot_ahead" 532 141 3 264 hN hN (hR 266) 536 ::
hF 39 "spot_ahead" @F (.ref 267) ::
o0 ::
oy ::
⟨(@ae),none,(.seq #[(.str "drawing" 541),(.str "name" 542),(.str "second" 543),(.str "way" 544)] 0),#[]⟩ ::
o0 ::
hG (top 40) "first_in_turn" "first_in_turn" 0 0 ::
hD "first_in_turn" 538 149 4 269 (hR 271) (hR 272) (hR 273) 546 ::
hF 40 "first_in_turn" @F (.ref 274) ::
o0 ::
oy ::
hG (top 41) "with_changed" "with_changed" 0 0 ::
hD "with_changed" 548 153 2 276 hN hN (hR 278) 552 ::
hF 41 "with_changed" @F (.ref 279) ::
o0 ::
oy ::
⟨(@ae),none,(.seq #[(.str "spot" 557),(.str "names" 558)] 0),#[]⟩ ::
o0 ::
hG (top 42) "renamed_spot" "renamed_spot" 0 0 ::
hD "renamed_spot" 554 163 2 281 (hR 283) (hR 284) (hR 285) 560 ::
hF 42 "renamed_spot" @F (.ref 286) ::
o0 ::
U1 ::
⟨@a9,none,(.dict #[hE P "__module__" 569 @F,hE P "__qualname__" 571 (.str "Move" 570),hE P "__firstlineno__" 573 (.int 167 572),hE P "__static_attributes__" 574 (.ref 295)] 4),#[]⟩ ::
o0 ::
oy ::
hC "Move" 564 [hI 167,hI 0,hI 0,hI 0,hI 0,hR 291,(.bool @ap),hI 181,hR 292,hN,hN,hN,hN,hI 567,hI 167,hS 568] ::
⟨(.type "frame"),none,.plain,#[(some (.ref 293)),(some (.ref 3)),(some (.ref 290)),none,(some @F),none,(some (.ref 0))]⟩ ::
o0 ::
o17 P ::
⟨@cj,none,(.cls ⟨"Move",[@ca],[@bo,@ca],296,"Move",.true,[],[(.ref 353)],@ap,none,@ap⟩),#[none,none,(some (.str "Move" 562)),(some (.str "Move" 570)),@dE,(some @af)]⟩ ::
o18 ::
o19 ::
⟨(.type "super"),none,(.fields #[@bo,@bo,@bo]),#[]⟩ ::
⟨@db,none,(.fields #[@dk,@bo]),#[]⟩ ::
Zy ::
U1 ::
⟨@a9,none,(.dict #[hE P "__module__" 589 @F,hE P "__qualname__" 591 (.str "Uncurl" 590),hE P "__firstlineno__" 593 (.int 169 592),hE P "__init__" 601 (.ref 315),hE P "told" 608 (.ref 322),hE P "refuse" 616 (.ref 329),hE P "done" 624 (.ref 336),hE P "back" 636 (.ref 343),hE P "renamed" 644 (.ref 350),hE P "__static_attributes__" 646 (.ref 351)] 10),#[]⟩ ::
o0 ::
⟨.none,none,(.fields #[(.int 171 0),(.int 4 0),(.ref 314),(.int 174 0),(.int 4 0),(.ref 321),(.int 177 0),(.int 4 0),(.ref 328),@aA,(.int 4 0),(.ref 335),(.int 185 0),(.int 4 0),(.ref 342),(.int 193 0),(.int 4 0),(.ref 349)]),#[]⟩ ::
hC "Uncurl" 584 [hI 169,hI 0,hI 0,hI 0,hI 0,hR 305,(.bool @ap),hI 181,hR 306,hN,hN,hN,hN,hI 587,hI 169,hS 588] ::
⟨(.type "frame"),none,.plain,#[(some (.ref 307)),(some (.ref 3)),(some (.ref 304)),none,(some @F),none,(some (.ref 0))]⟩ ::
o0 ::
oy ::
⟨(@ae),none,(.seq #[(.str "self" 597),(.str "name" 598)] 0),#[]⟩ ::
o0 ::
hG (BN 44 0) "__init__" "Uncurl.__init__" 0 0 ::
o21 ::
hM 44 0 "__init__" "Uncurl.__init__" @F (.ref 314) ::
o0 ::
oy ::
⟨(@ae),none,(.seq #[(.str "self" 605)] 0),#[]⟩ ::
o0 ::
hG (BN 44 1) "told" "Uncurl.told" 0 0 ::
o22 ::
hM 44 1 "told" "Uncurl.told" @F (.ref 321) ::
o0 ::
oy ::
⟨(@ae),none,(.seq #[(.str "self" 612),(.str "drawing" 613)] 0),#[]⟩ ::
o0 ::
hG (BN 44 2) "refuse" "Uncurl.refuse" 0 0 ::
o23 ::
hM 44 2 "refuse" "Uncurl.refuse" @F (.ref 328) ::
o0 ::
oy ::
⟨(@ae),none,(.seq #[(.str "self" 620),(.str "drawing" 621)] 0),#[]⟩ ::
o0 ::
hG (BN 44 3) "done" "Uncurl.done" 0 0 ::
o24 ::
hM 44 3 "done" "Uncurl.done" @F (.ref 335) ::
o0 ::
oy ::
⟨(@ae),none,(.seq #[(.str "self" 628),(.str "drawing" 629),(.str "over" 630),(.str "under" 631),(.str "first" 632),(.str "spot" 633)] 0),#[]⟩ ::
o0 ::
hG (BN 44 4) "back" "Uncurl.back" 0 0 ::
o25 ::
hM 44 4 "back" "Uncurl.back" @F (.ref 342) ::
o0 ::
oy ::
⟨(@ae),none,(.seq #[(.str "self" 640),(.str "names" 641)] 0),#[]⟩ ::
o0 ::
hG (BN 44 5) "renamed" "Uncurl.renamed" 0 0 ::
o26 ::
hM 44 5 "renamed" "Uncurl.renamed" @F (.ref 349) ::
o27 ::
o28 P ::
o29 ::
⟨(.type "super"),none,(.fields #[(.ref 353),(.ref 353),(.ref 353)]),#[]⟩ ::
⟨@db,none,(.fields #[@dk,(.ref 353)]),#[]⟩ ::
[]))
noncomputable def cS2(w:World)(os:oN):rZ:=⟨K2.bt (cL2 w.params),356,{},mP [],kz,650,os⟩
noncomputable def hL:@D:=[]
noncomputable abbrev Wq(w)(os):=K2.wj j0 PySem.Challenge.rw_knotwise_k49_whole_linking_kept.row.prog w 11 (some (.ref 6)) 2270 (cS2 w os) (restOf (cB.drop 45) cE cC ⟨169,0,194,54⟩ [uT cQ])
theorem aeY(w)(os):(Wq w os).map (λs=>(K2.LY PySem.Challenge.rw_knotwise_k49_whole_linking_kept.row.prog hQ hL (K2.PA bh hQ) (λs=>hA.map s.heap.get?) w.params s.abs).2.1)=some (OT hQ hL):=@bj
theorem aeZ(w)(os):(Wq w os).map (λs=>((K2.LY PySem.Challenge.rw_knotwise_k49_whole_linking_kept.row.prog hQ hL (K2.PA bh hQ) (λs=>hA.map s.heap.get?) w.params s.abs).1,(K2.LY PySem.Challenge.rw_knotwise_k49_whole_linking_kept.row.prog hQ hL (K2.PA bh hQ) (λs=>hA.map s.heap.get?) w.params s.abs).2.2))=some (true,(hK w.params).map λp=>some p.2):=@bj
theorem h_z (P):((gN P).isNs bJ,(gN P).objs.size,(gN P).nsMap bJ "__annotations__")=(true,11,(some (.ref 6))):=@bj
theorem abm(w)(os):K2.goB j0 PySem.Challenge.rw_knotwise_k49_whole_linking_kept.row.prog w 11 (some (.ref 6)) 12 (K2.Sv w.params os) (topStub PySem.Challenge.rw_knotwise_k49_whole_linking_kept.row.prog)=some (cS0 w os,⟨denote j0 cC,cC,⟨0,0,0,0⟩,[uT cQ]⟩):=@bj
theorem abn(w)(os):segRunT j0 PySem.Challenge.rw_knotwise_k49_whole_linking_kept.row.prog w 11 (some (.ref 6)) 1 1 (cS0 w os) (blockOf cB cE cC ⟨0,0,0,0⟩ [uT cQ])=some (.next,cS1 w os,cC,⟨0,0,0,0⟩):=@bj
theorem aeX(w)(os):segRunT j0 PySem.Challenge.rw_knotwise_k49_whole_linking_kept.row.prog w 11 (some (.ref 6)) 1 3004 (cS1 w os) (piecesOf (cB.take 45) cE cC ⟨0,0,0,0⟩ [uT cQ])=some (.next,cS2 w os,cC,⟨169,0,194,54⟩):=@bj
theorem YF(w)(os):(topFrom j0 (bh).row.prog w (12+(1+(3004+2270))) ⟨gN w.params,mP [],kz,v3,os⟩).map (λs=>(openSeen hQ hL (mZ (bh).row.prog.main.body) (K2.PA bh hQ) true s,hA.map s.heap.get?))=some (OT hQ hL,(hK w.params).map λp=>some p.2) :=
 K2.TH (Yf:=λs=>hA.map s.heap.get?) (Ya:=λw=>(hK w.params).map λp=>some p.2) (h_z w.params) (K2.QS (aeZ w os) (aeY w os)) λ_ k=>K2.Oz (abm w os) (abn w os) <| K2.Sd 45 (aeX w os) <| k
theorem YE:(bh).wellSaid=true:=@bj
theorem YD:K2.Lq bh hQ=true:=@bj
end
end Fin
namespace L2
open PySem PySem.Spec PyProof.Rows
abbrev Key:=Sum Int Str
noncomputable def D5:Key->Value->Bool
 |.inl k,v=>Value.isInt k v
 |.inr x,v=>Value.isStrOf x v
noncomputable def ad8(w:World):Key->Int
 |.inl k=>hashInt k
 |.inr x=>hashStr w x
theorem gz:∀{k:Key} {v:Value},D5 k v=true->(∃i t,k=EG i/\v=rX i t)\/(∃x t,k=Je x/\v=Gz x t)
 |.inl i,v,h=>by
  obtain⟨t,e⟩:=Value.isInt_shape (k:=i) (v:=v) h;exact .inl ⟨i,t,rfl,e⟩
 |.inr x,v,h=>by
  obtain⟨t,e⟩:=Value.isStrOf_shape (x:=x) (v:=v) h;exact .inr ⟨x,t,rfl,e⟩
theorem N7(i)(t):D5 (.inl i) (.int i t)=true:=by simp[D5,Value.isInt]
theorem N6(x)(t):D5 (.inr x) (.str x t)=true:=by simp[D5,Value.isStrOf]
theorem Q4(a b):decide ((EG a:Key)=EG b)=(a == b):=by
 by_cases e:a=b
 .subst e;simp
 .have h:¬ (EG a:Key)=EG b:=λq=>e (Sum.inl.inj q);rw[decide_eq_false h];exact(beq_eq_false_iff_ne.mpr e).symm
theorem Q3(a b):decide ((Je a:Key)=Je b)=decide (a=b):=by
 by_cases e:a=b
 .subst e;simp
 .have h:¬ (Je a:Key)=Je b:=λq=>e (Sum.inr.inj q);rw[decide_eq_false h,decide_eq_false e]
theorem Yo(a)(b):decide ((EG a:Key)=Je b)=false:=decide_eq_false (λq=>nomatch q)
theorem Yn(a)(b):decide ((Je a:Key)=EG b)=false:=decide_eq_false (λq=>nomatch q)
def f9(prog)(w):PySem.KeyKind prog w Key where
 is:=D5
 hash:=ad8 w
 inj:=λv a b ha hb=>by
  rcases gz ha with ⟨i,t,rfl,rfl⟩ |⟨x,t,rfl,rfl⟩
  .rcases gz hb with ⟨j,u,rfl,e⟩ |⟨y,u,rfl,e⟩
   .injection e with e1 _;rw[e1]
   .exact nomatch e
  .rcases gz hb with ⟨j,u,rfl,e⟩ |⟨y,u,rfl,e⟩
   .exact nomatch e
   .injection e with e1 _;rw[e1]
 byValue:=λk v h=>by
  rcases gz h with ⟨i,t,rfl,rfl⟩ |⟨x,t,rfl,rfl⟩<;>rfl
 pyHash:=λhv h=>by
  rcases gz hv with ⟨i,t,rfl,rfl⟩ |⟨x,t,rfl,rfl⟩
  .exact wpAny_pyHash_int h
  .exact wpAny_pyHash_str h
 eqBool:=λhu hv h=>by
  rcases gz hu with ⟨i,t,rfl,rfl⟩ |⟨x,t,rfl,rfl⟩
  .rcases gz hv with ⟨j,u,rfl,rfl⟩ |⟨y,u,rfl,rfl⟩
   .rw[Q4] at h;exact wpAny_eqBool_int h
   .rw[Yo] at h;exact SeqAt.EqAt.int_str i t y u _ _ _ _ h
  .rcases gz hv with ⟨j,u,rfl,rfl⟩ |⟨y,u,rfl,rfl⟩
   .rw[Yn] at h;exact SeqAt.EqAt.str_int x t j u _ _ _ _ h
   .rw[Q3] at h;exact wpAny_eqBool_str h
 «strs»:=λk x t v h=>by
  rcases gz h with ⟨i,u,rfl,e⟩ |⟨y,u,rfl,e⟩
  .exact nomatch e
  .injection e with e1 _
   subst e1;cases v<;>rfl
theorem Hw(prog)(w)(i)(t):(f9 prog w).is (.inl i) (.int i t)=true:=N7 i t
theorem Hv(prog)(w)(x)(t):(f9 prog w).is (.inr x) (.str x t)=true:=N6 x t
inductive V where
 |cY |bl (b:Bool) |int (i:Int) |str (x:Str) |WA (b:Array UInt8) |iQ (b:UInt64) |ref (a:Addr) |ty (n:String)
def RelV:V->Value->Prop
 |.cY,u=>u=gK
 |.bl b,u=>u=yc b
 |.int i,u=>∃t,u=rX i t
 |.str x,u=>∃t,u=Gz x t
 |.WA b,u=>∃t,u=Value.bytes b t
 |.iQ b,u=>∃t,u=Value.float b t
 |.ref a,u=>u=fe a
 |.ty n,u=>u=K6 n
abbrev Vals:@z->@C->Prop:=Paired RelV
theorem Vals.length(r:@cK):xs.length=us.length:=Az r
theorem Vals.get:∀{xs:@z} {us:@C} {i:Nat} {x:V},@cK->xs[i]?=@ak->∃u,us[i]?=@T/\RelV x u:=by
 intro xs us i x h;induction h generalizing i with
 |nil=>intro e;cases e
 |cons r t ih=>
  intro e;cases i with
  |zero=>cases e;exact⟨_,rfl,r⟩
  |succ i=>exact ih e
theorem Vals.set(r:RelV x u):∀{xs:@z} {us:@C} (i:Nat),@cK->Vals (xs.set i x) (us.set i u):=by
 intro xs us i h;induction h generalizing i with
 |nil=>rw[EJ,EJ];ext f
 |cons q t ih=>
  cases i with
  |zero=>exact .cons r t
  |succ i=>exact .cons q (ih i)
theorem Vals.append:∀{xs ys:@z} {us ws:@C},@cK->Vals ys ws->Vals (xs++ys) (us++ws):=by
 intro xs ys us ws h s;induction h with
 |nil=>exact s
 |cons r t ih=>exact .cons r ih
theorem Vals.take:∀{xs:@z} {us:@C} (n:Nat),@cK->Vals (xs.take n) (us.take n):=by
 intro xs us n h;induction h generalizing n with
 |nil=>rw[CM,CM];ext f
 |cons r t ih=>
  cases n with
  |zero=>ext f
  |succ n=>exact .cons r (ih n)
theorem Vals.drop:∀{xs:@z} {us:@C} (n:Nat),@cK->Vals (xs.drop n) (us.drop n):=by
 intro xs us n h;induction h generalizing n with
 |nil=>rw[CO,CO];ext f
 |cons r t ih=>
  cases n with
  |zero=>exact .cons r t
  |succ n=>exact ih n
def rE:Option V->Option Value->Prop
 |some v,some u=>@bn
 |none,none=>True
 |_,_=>False
def KV:List (κ×V)->List (κ×Value)->Prop:=Paired λ(p:κ×V) (q:κ×Value)=>p.1=q.1/\RelV p.2 q.2
noncomputable def kV:Key->V
 |.inl i=>@M
 |.inr x=>.str x
inductive HO where
 |lst (xs:@z)
 |tup (xs:@z)
 |dK (bB:@cn) |dT (bB:@co)
 |set (S:Int->Bool) (n:Nat)
 |ins (C dx:Addr) (fs:@cd)
 |own (x:Addr)
 |xd (fs:@cd)
 |met (f x:Addr)
 |rng (lo hi:Int)
 |nY (o:Obj) (u:HO)
 |VW (q:Str)
 |ext (φ:@bW)
abbrev Hp:=Addr->Option HO
noncomputable def upd(H:Hp)(a:Addr)(o:HO):Hp:=λb=>if b=a then @j else H b
theorem dq:upd H a o a=@j:=by unfold upd;rw[if_pos rfl]
theorem ck(h:b≠a):upd H a o b=H b:=by unfold upd;rw[if_neg h]
theorem aaD{H:Hp}{a b:Addr}{o u:HO}(h:H a=@j)(h':H b=@T)(d:o≠u):a≠b:=by
 intro e;subst e;rw[h] at h';exact d (bW h')
theorem e8{H:Hp}{a b:Addr}{o:HO}(h:H a=@j)(h':@bz):a≠b:=by
 intro e;subst e;rw[h] at h';cases h'
section
variable (P:bR) (w:World)
def iD(H:Hp)(h:Heap)(a:Addr):HO->Prop
 |.lst xs=>xs.length<=bw/\∃(bz:@C) (n:Nat),Vals xs bz/\@aO=some {cls:=@Z,data:=.seq bz.toArray n}
 |.tup xs=>xs.length<=bw/\∃bz:@C,Vals xs bz/\IsTup h a bz.toArray
 |.dK bB=>bB.length<=bw/\(a == jC)=false/\∃vs,KV bB vs/\h.DictOf (f9 P w) a vs
 | .dT bB=>bB.length<=bw/\(a == jC)=false/\∃xs:List (@ac×Addr×Value),
   Paired (λ(p:@ac×V) (q:@ac×Addr×Value)=>p.1=q.1/\H q.2.1=some (.tup (p.1.map kV))/\RelV p.2 q.2.2) bB xs /\
   ∃o es ep,@aO=@j/\o.ExactDict/\o.data=.dict es ep/\es.toList=xs.map (entryOfKey (Bg (f9 P w)))/\(xs.map @N).Nodup
 |.set S n=>h.SetOf (intKind P w) a S n
 | .ins C dx fs=>H dx=some (.own a)/\fs.length<=1000/\dx≠a/\@aO=some (ic C dx) /\
   ∃mA,h.Ns1 dx mA/\(∀f,rE (fs.lookup f) (mA f))/\Pq mA (fs.map @N)
 |.own _=>∃o,@aO=@j
 |.xd fs=>∃mA,h.Ns1 a mA/\∀f,rE (fs.lookup f) (mA f)
 |.rng lo hi=>∃t u v,@aO=some {cls:=.type "range",data:=.fields #[.int lo t,.int hi u,.int 1 v]}
 |.nY o u=>@aO=@j/\iD H h a u
 |.VW q=>∃ps,@aO=some {cls:=.none,data:=.fields ps}/\TriplesOk ps.toList/\∀pos cv,codeAmong pos ps.toList=some cv->∃c',cv=.ref c'/\H c'=some (.own a)/\h.CodeRec (.ref c') q
 |.met f x=>@aO=some (Bj @aD (.ref x))
 |.ext φ=>φ h/\(∃o,@aO=@j)/\∀h1 h2:Heap,φ h1->(∀o,h1.get? a=@j->h2.get? a=@j)->φ h2
def vT(H:Hp)(h:Heap):Prop:=∀a o,H a=@j->iD P w H h a o
end
section
variable {P:bR} {w:World} {H H':Hp} {h h':Heap} {a:Addr} {o:HO}
theorem iD.lt(x:iD P w H h a o):a<h.objs.size:=by
 cases o with
 |lst xs=>obtain⟨_,_,_,_,e⟩:=x;exact aQ e
 |tup xs=>obtain⟨_,_,_,p⟩:=x;exact p.lt
 |dK bB=>obtain⟨_,_,_,_,o,_,_,e,_⟩:=x;exact aQ e
 |dT bB=>obtain⟨_,_,_,_,o,_,_,e,_⟩:=x;exact aQ e
 |set S n=>obtain⟨o,_,_,_,e,_⟩:=x;exact aQ e
 |ins C dx fs=>obtain⟨_,_,_,e,_⟩:=x;exact aQ e
 |own y=>obtain⟨_,e⟩:=x;exact aQ e
 |xd fs=>obtain⟨_,⟨_,_,_,e,_⟩,_⟩:=x;exact aQ e
 |rng lo hi=>obtain⟨_,_,_,e⟩:=x;exact aQ e
 |nY ob u=>obtain⟨e,_⟩:=x;exact aQ e
 |VW q=>obtain⟨_,e,_⟩:=x;exact aQ e
 |met f y=>exact aQ (show @aO=some _ from x)
 |ext φ=>obtain⟨_,⟨_,e⟩,_⟩:=x;exact aQ e
theorem Paired.aaJ:∀{l₁:@s} {Yb:List β},Paired F l₁ Yb->(∀a b,F a b->G a b)->Paired G l₁ Yb:=by
 intro l₁ Yb h f;induction h with
 |nil=>ext f
 |cons r t ih=>exact .cons (f _ _ r) ih
theorem iD.oP(x:iD P w H h a o)(k:∀b u,(b=a\/H b=some (.own a))->h.get? b=@T->@an=@T)
  (ho:∀b,H b=some (.own a)->H' b=some (.own a)) (ht:∀b xs,H b=some (.tup xs)->H' b=some (.tup xs)):iD P w H' h' a o:=by
 induction o with
 |lst xs=>obtain⟨z,bz,n,r,e⟩:=x;exact⟨z,bz,n,r,k _ _ (@I) e⟩
 |tup xs=>obtain⟨z,bz,r,ob,e,c⟩:=x;exact⟨z,bz,r,ob,k _ _ (@I) e,c⟩
 |dK bB=>obtain⟨z,y,vs,r,ob,es,ep,e,c⟩:=x;exact⟨z,y,vs,r,ob,es,ep,k _ _ (@I) e,c⟩
 |dT bB=>
  obtain⟨z,y,xs,r,ob,es,ep,e,c⟩:=x;exact⟨z,y,xs,Paired.aaJ r λp q z=>⟨z.1,ht _ _ z.2.1,z.2.2⟩,ob,es,ep,k _ _ (@I) e,c⟩
 |set S n=>obtain⟨ob,es,ep,t,e,c⟩:=x;exact⟨ob,es,ep,t,k _ _ (@I) e,c⟩
 |ins C dx fs=>
  obtain⟨d,z,ne,e,mA,⟨od,es,ep,e2,c⟩,r⟩:=x;exact⟨ho _ d,z,ne,k _ _ (@I) e,mA,⟨od,es,ep,k _ _ (.inr d) e2,c⟩,r⟩
 |own y=>obtain⟨ob,e⟩:=x;exact⟨ob,k _ _ (@I) e⟩
 |xd fs=>obtain⟨mA,⟨od,es,ep,e,c⟩,r⟩:=x;exact⟨mA,⟨od,es,ep,k _ _ (@I) e,c⟩,r⟩
 |rng lo hi=>obtain⟨t,u,v,e⟩:=x;exact⟨t,u,v,k _ _ (@I) e⟩
 |nY ob u ih=>obtain⟨e,q⟩:=x;exact⟨k _ _ (@I) e,ih q⟩
 |VW q=>
  obtain⟨ps,e,t,z⟩:=x;refine⟨ps,k _ _ (@I) e,t,λpos cv y=>?_⟩;obtain⟨c',e1,e2,c2,oc,vs,tq,e3,e4,r⟩:=z pos cv y;cases e3;exact⟨c',e1,ho _ e2,c',oc,vs,tq,rfl,k _ _ (.inr e2) e4,r⟩
 |met f y=>
  have e:@aO=some (Bj @aD (.ref y)):=x;show h'.get? a=some (Bj @aD (.ref y));exact k a _ (@I) e
 |ext φ=>obtain⟨p,⟨o,e⟩,st⟩:=x;exact⟨st _ _ p λo q=>k _ _ (@I) q,⟨o,k _ _ (@I) e⟩,st⟩
theorem vT.lt(x:vT P w H h)(e:H a=@j):a<h.objs.size:=(x a o e).lt
theorem vT.fresh(x:vT P w H h)(e:h.objs.size<=a):H a=none:=by
 cases q:H a with
 |none=>rfl
 |some u=>exact absurd (bY (x.lt q) e) (eU _)
theorem vT.kept(x:vT P w H h)(k:∀b u,h.get? b=@T->@an=@T):vT P w H h':=λa o e=>
 (x a o e).oP (λb u _ q=>k b u q) (λ_ q=>q) λ_ _ q=>q
theorem vT.laid(x:vT P w H h)(k:∀b u,h.get? b=@T->@an=@T)(hp:h.objs.size<=a)(new:iD P w (upd H a o) h' a o):vT P w (upd H a o) h':=λb u e=>by
 have hn:=x.fresh hp;by_cases hb:b=a
 .subst hb;rw[dq] at e;cases e;exact new
 .rw[ck hb] at e;exact(x b u e).oP (λc v _ q=>k c v q) (λc q=>by rw[ck (e8 q hn)];exact q) λc xs q=>by rw[ck (e8 q hn)];exact q
end
def Rd(H:Hp)(a:Addr)(u:HO):Prop:=H a=@T\/∃o,H a=some (.nY o u)
theorem Rd.ok(r:Rd H a u)(x:vT P w H h):iD P w H h a u:=by
 rcases r with r |⟨o,r⟩
 .exact x a u r
 .obtain⟨_,q⟩:=x a _ r;exact q
def Mut:Option HO->Prop
 |some (.lst _)=>True
 |some (.dK _)=>True
 |some (.dT _)=>True
 |some (.set _ _)=>True
 |some (.ins _ _ _)=>True
 |some (.ext _)=>True
 |_=>False
section
variable {P:bR} {w:World} {H:Hp} {h h':Heap} {x e:Addr} {o':HO}
theorem vT.write(ok:vT P w H h)(mu:Mut (H x))(he:e=x\/H e=some (.own x))(k:∀b u,b≠e->h.get? b=@T->@an=@T)(ZJ:∃u,h'.get? e=@T)
  (new:iD P w (upd H x o') h' x o'):vT P w (upd H x o') h':=λb u q=>by
 have aay:∀c y,H c=some (.own y)->c≠x:=λc y r z=>by subst z;rw[r] at mu;exact mu
 have adS:∀c xs,H c=some (.tup xs)->c≠x:=λc xs r z=>by subst z;rw[r] at mu;exact mu
 by_cases hb:b=x
 .subst hb;rw[dq] at q;cases q;exact new
 .rw[ck hb] at q;by_cases YC:b=e
  .have q':H b=some (.own x):=by
    rcases he with z |z
    .exact absurd (YC.trans z) hb
    .rw[YC];exact z
   rw[q] at q';cases q';obtain⟨v,hv⟩:=ZJ;exact⟨v,by rw[YC];exact hv⟩
  .refine(ok b u q).oP (λc v hc r=>k c v ?_ r) (λc r=>by rw[ck (aay c b r)];exact r) λc xs r=>by rw[ck (adS c xs r)];exact r
   rcases hc with rfl |hc
   .exact YC
   .rintro rfl;rcases he with z |z
    .exact aay c b hc z
    .rw[hc] at z;cases z;exact hb rfl
end
structure Un(fs ex:@aI)(H H':Hp)(h h':Heap):Prop where
 keep:∀b o,@bD->@bz->b∉fs->b∉ex->@an=@j
 slot:∀b o,@bD->@bz->b∈fs->b∉ex->∃sl,@an=some {o with slots:=sl}
 free:∀b o,@bD->@bz->b∉ex->H' b=none
 there:∀b o,@bD->b∉ex->∃o',@an=some o'
 C4:∀b xs,H b=some (.tup xs)->H' b=some (.tup xs)
 B9:∀b o u,H b=some (.nY o u)->H' b=some (.nY o u)
 C6:∀b q,H b=some (.VW q)->H' b=some (.VW q)
 Dh:∀b x,H b=some (.own x)->H' b=some (.own x)
section
variable {fs fs' ex ex':@aI} {H H1 H2:Hp} {h h1 h2 h':Heap} {a x e:Addr} {o:HO}
theorem Un.any(u:Un fs ex H H1 h h1)(q:h.get? b=some ob)(n:@bz)(hx:b∉ex):∃sl,h1.get? b=some {ob with slots:=sl}:=by
 by_cases hb:b∈fs
 .exact u.slot b ob q n hb hx
 .exact⟨ob.slots,u.keep b ob q n hb hx⟩
theorem Un.kept(k:∀b u,h.get? b=@T->@an=@T):Un fs ex H H h h' :=
 ⟨λb ob q _ _ _=>k b ob q,λb ob q _ _ _=>⟨ob.slots,k b ob q⟩,λ_ _ _ n _=>n,λb ob q _=>⟨ob,k b ob q⟩,λ_ _ q=>q,λ_ _ _ q=>q,λ_ _ q=>q,λ_ _ q=>q⟩
theorem Un.refl:Un fs ex H H h h:=Un.kept λ_ _ q=>q
theorem Un.laid(k:∀b u,h.get? b=@T->@an=@T)(hp:h.objs.size<=a)(hn:H a=none):Un fs ex H (upd H a o) h h' where
 keep:=λb u q _ _ _=>k b u q
 slot:=λb u q _ _ _=>⟨u.slots,k b u q⟩
 free:=λb u q n _=>by rw[ck (br (bY (aQ q) hp))];exact n
 there:=λb u q _=>⟨u,k b u q⟩
 C4:=λb xs q=>by rw[ck (e8 q hn)];exact q
 B9:=λb u xs q=>by rw[ck (e8 q hn)];exact q
 C6:=λb ps q=>by rw[ck (e8 q hn)];exact q
 Dh:=λb ps q=>by rw[ck (e8 q hn)];exact q
theorem Un.write(mu:Mut (H x))(he:e=x\/H e=some (.own x))(k:∀b u,b≠e->h.get? b=@T->@an=@T)(ZJ:∃u,h'.get? e=@T):Un fs ex H (upd H x o) h h':=by
 have hx:∀b,@bz->b≠x:=λb n z=>by subst z;rw[n] at mu;exact mu
 have hb:∀b,@bz->b≠e:=λb n z=>by
  subst z;rcases he with r |r
  .exact hx b n r
  .rw[n] at r;cases r
 have hm:∀b u,H b=@T->¬ Mut (@T)->b≠x:=λb u q nm z=>by subst z;rw[q] at mu;exact nm mu
 refine⟨λb u q n _ _=>k b u (hb b n) q,λb u q n _ _=>⟨u.slots,k b u (hb b n) q⟩,λb u q n _=>by rw[ck (hx b n)];exact n,λb u q _=>?_,
  λb xs q=>by rw[ck (hm b _ q λz=>z)];exact q,λb u xs q=>by rw[ck (hm b _ q λz=>z)];exact q,λb ps q=>by rw[ck (hm b _ q λz=>z)];exact q,λb ps q=>by rw[ck (hm b _ q λz=>z)];exact q⟩
 by_cases YC:b=e
 .subst YC;exact ZJ
 .exact⟨u,k b u YC q⟩
end
noncomputable def trk(h:Heap)(H:Hp):@aI:=(cR h.objs.size).filter λa=>(H a).isSome
def Ft(h:Heap)(H:Hp):Heap:=PySem.W.hideAll h (trk h H)
theorem Of(h)(H):(Ft h H).objs.size=h.objs.size:=PySem.W.hideAll_size _ _
theorem Ru{h:Heap}{H:Hp}{b:Addr}{o:Obj}(e:@bD)(n:@bz):(Ft h H).get? b=@j :=
 PySem.W.hideAll_get _ e λhm=>by
  have q:(H b).isSome=true:=(List.mem_filter.mp hm).2;rw[n] at q;simp at q
theorem U0(e:(Ft h H).get? b=@j):@bD/\@bz:=by
 have e':@bD:=PySem.W.of_hideAll (trk h H) e;refine⟨e',?_⟩;cases q:H b with
 |none=>rfl
 |some x=>
  have hm:b∈trk h H:=List.mem_filter.mpr ⟨List.mem_range.mpr (aQ e'),by simp[q]⟩;have z:(Ft h H).get? b=none:=PySem.W.hideAll_none (trk h H) hm;rw[z] at e;cases e
noncomputable def qL(g h:Heap)(L:Addr):@v:=(cR h.objs.size).filterMap λa=>if a=L\/(g.get? a).isSome=true then none else(@aO).map λo=>(a,o)
theorem lx(h1:a≠L)(h2:g.get? a=none)(h3:@aO=@j):(a,o)∈qL g h L :=
 List.mem_filterMap.mpr ⟨a,List.mem_range.mpr (aQ h3),by simp[h1,h2,h3]⟩
theorem BL(hp:p∈qL g h L):p.1≠L/\g.get? p.1=none/\h.get? p.1=some p.2:=by
 obtain⟨b,_,e⟩:=List.mem_filterMap.mp hp;split at e
 .cases e
 .rename_i hn;cases q:h.get? b with
  |none=>rw[q] at e;simp at e
  |some u=>
   rw[q] at e;simp only[Option.map_some,Option.some.injEq] at e;subst e;refine⟨λz=>hn (.inl z),?_,q⟩;show g.get? b=none;cases r:g.get? b with
   |none=>rfl
   |some v=>exact(hn (.inr (by simp[r]))).elim
def rest(g h:Heap)(L d:Addr):@v:=(qL g h L).filter λp=>decide (p.1≠d)
theorem w7:News g L h (qL g h L):=λp hp=>let ⟨a,b,c⟩:=BL hp;⟨c,a,b⟩
structure Mod(K:ay)(mg:@aU)(base:Heap):Prop where
 Vc:K.In base
 glob:base.Ns bJ mg
 blt:∃mb,base.Ns builtinsNs mb/\∀x:Str,x≠"__name__"->mb x=c8 x
 nolimit:base.NoLimit
structure Cx where
 prog:bR
 w:World
 K:ay
 mg:@aU
 base:Heap
 A:dD
 N:@D
 nV:aE
 SJ:Hp
 env:Env
 outer:@b3
 stack:@b3
 ex:@aI
 fn:Str->Bool
 calm:Bool
 pn:@v
 xe:@J
noncomputable def Pg(l:@b3):@aI:=l.filterMap (·.frame)
abbrev Cx.fs(X:Cx):@aI:=Pg X.outer
def Vis(sc:Scope)(x:Str):Prop:=@cG=@bB\/@cG=@a2\/@cG=some .free
def Loc(sc:Scope)(x:Str):Prop:=@cG=@bB\/@cG=@a2
def Look(env:Env)(h:Heap)(m:@aU)(x:Str)(u:Value):Prop :=
 (env.kindOf x=@bB/\m x=@T)\/((env.kindOf x=@a2\/env.kindOf x=some .free)/\∃c,env.cells.lookup x=@aW/\h.IsCell c (@T))
structure Cx.Ok(X:Cx):Prop where
 mod:Mod X.K X.mg X.base
 kind:X.env.scope.kind=.function
 glob:X.env.globals=bJ
 blt:X.env.builtins=builtinsNs
 above:X.nV.heap.objs.size<=X.env.locals
 inj:∀x y c,@cx->X.env.cells.lookup y=@aW->x=y
 has:∀x,(X.env.kindOf x=@a2\/X.env.kindOf x=some .free)->∃c,@cx
 cab:∀x c,X.fn x=true->@cx->X.nV.heap.objs.size<=c
 hd:@bk->X.A.handled=none
 frames:X.A.frames=some X.stack
 stk:X.stack=X.outer\/(X.stack=X.env::X.outer/\X.env.frame=some X.env.locals)
 exf:∀b∈X.ex,@cT/\∀x c,@cx->c≠b
 bs:∀b o,X.base.get? b=@j->X.nV.heap.get? b=@j/\X.SJ b=none
 S8:X.base.objs.size<=X.nV.heap.objs.size
 NJ:∀b o,X.base.get? b=@j->b∉X.ex
 RV:∀b∈X.ex,b∉X.fs
 z8:X.nV.heap.FunFrames X.base X.outer
 YK:∀b∈X.fs,X.SJ b=none
structure Inv(X:Cx)(pins:@v)(σ:List (Option V))(H:Hp)(s:aE):Prop where
 ok:X.Ok
 os:s.os=X.nV.os
 bare:EL s.gens
 base:Un X.fs X.ex X.SJ H X.nV.heap s.heap
 loc:∃m,s.heap.Ns X.env.locals m/\∀(i:Nat) (x:Str) (v:V),X.N[i]?=@ak->σ[i]?=some (@Q)->Vis X.env.scope x->∃u,@bn/\Look X.env s.heap m x u
 cell:∀x c,@cx->∃v,s.heap.IsCell c v
 free:H X.env.locals=none
 qX:∀x c,@cx->H c=none
 pin:∀p∈X.pn++pins,s.heap.get? p.1=some p.2/\H p.1=none/\p.1≠X.env.locals/\p.1∉X.fs/\∀v,p.2.data≠.cell v
 dS:vT X.prog X.w H s.heap
 len:σ.length=X.N.length
section
variable {X:Cx} {pins:@v} {σ:List (Option V)} {H H':Hp} {s:aE} {h':Heap}
theorem Cx.Ok.adU(ok:X.Ok)(e:X.base.get? b=@j):b∉X.fs:=λhb=>by
 have:=(ok.z8.mem hb).1;rw[e] at this;cases this
theorem Inv.bs(I:@m):∀b o,X.base.get? b=@j->@au=@j/\@bz:=λb o e=>
 ⟨I.base.keep b o (I.ok.bs b o e).1 (I.ok.bs b o e).2 (I.ok.adU e) (I.ok.NJ b o e),I.base.free b o (I.ok.bs b o e).1 (I.ok.bs b o e).2 (I.ok.NJ b o e)⟩
theorem Inv.bk(I:@m):∀b o,X.base.get? b=@j->@au=@j:=λb o e=>(I.bs b o e).1
theorem Inv.mod(I:@m):Mod X.K X.mg X.base:=I.ok.mod
theorem Inv.D7(I:@m):X.K.In s.heap:=I.ok.mod.Vc.keeps I.bk
theorem Inv.fr(I:@m):∃m,Fr X.base X.env.locals s.heap m :=
 let ⟨m,hn,_⟩:=I.loc
 ⟨m,hn,I.bk,cm I.ok.S8 I.ok.above⟩
theorem Inv.lt(I:@m):X.env.locals<s.heap.objs.size:=let ⟨_,hn,_⟩:=I.loc;hn.lt
theorem Inv.sz(I:@m):X.nV.heap.objs.size<=s.heap.objs.size:=cm I.ok.above (Gi I.lt)
theorem Inv.adT(I:@m)(h:s.heap.objs.size<=a):a∉X.fs:=λhb=>by
 obtain⟨_,o,ho,_⟩:=I.ok.z8.mem hb;exact absurd (bY (aQ ho) (cm I.sz h)) (eU _)
theorem Inv.Y6(I:@m):∀x c,@cx->c≠X.env.locals:=λx c e z=>by
 obtain⟨v,o,ho,hd⟩:=I.cell x c e;obtain⟨m,⟨o',es,ep,Rm,Kl,_⟩,_⟩:=I.loc;rw[z,Rm] at ho;cases ho;rw[Kl] at hd;cases hd
theorem Inv.z8(I:@m):s.heap.FunFrames X.base X.outer:=by
 have all:∀(l:@b3),(∀b∈Pg l,b∈X.fs)->X.nV.heap.FunFrames X.base l->s.heap.FunFrames X.base l:=by
  intro l;induction l with
  |nil=>intro _ _;trivial
  |cons env r ih=>
   intro hs hl;obtain⟨hk,⟨L,o,hf,hn,ho,hd⟩,hr⟩:=hl;have hL:L∈X.fs:=hs L (by unfold Pg;rw[AA,hf];exact aJ);obtain⟨sl,e⟩:=I.base.slot L o ho (I.ok.YK L hL) hL λz=>I.ok.RV L z hL;exact⟨hk,⟨L,_,hf,hn,e,hd⟩,ih (λb hb=>hs b (by unfold Pg;rw[AA,hf];exact aC _ hb)) hr⟩
 exact all X.outer (λ_ hb=>hb) I.ok.z8
theorem Inv.stack(I:@m):s.heap.FunFrames X.base X.stack:=by
 rcases I.ok.stk with e |⟨e,hf⟩
 .rw[e];exact I.z8
 .rw[e];obtain⟨m,hn,_⟩:=I.loc;refine .cons (by rw[I.ok.kind];decide) hf hn ?_ I.z8;exact Tt (cm I.ok.S8 I.ok.above)
theorem Inv.Jr(I:@m):∀b∈Pg X.stack,b∈X.env.locals::X.fs:=λb hb=>by
 rcases I.ok.stk with e |⟨e,hf⟩
 .rw[e] at hb;exact aC _ hb
 .rw[e] at hb;unfold Pg at hb;rw[AA,hf] at hb;exact hb
theorem Inv.Lw(I:@m):∀b∈Pg X.stack,@bz:=λb hb=>by
 rcases List.mem_cons.mp (I.Jr b hb) with e |hb
 .rw[e];exact I.free
 .obtain⟨_,o,ho,_⟩:=I.ok.z8.mem hb;exact I.base.free b o ho (I.ok.YK b hb) λz=>I.ok.RV b z hb
theorem Inv.step{ch:@aI}(I:@m)
  (Wn:∀b∈ch,(b∈X.ex\/X.nV.heap.objs.size<=b)/\@cT/\(∀x c,@cx->c≠b)/\∀p∈X.pn++pins,p.1≠b)
  (keep:∀b o,@cT->b∉X.fs->b∉ch->@au=@j->@bz->@an=@j)
  (slot:∀b o,@cT->b∈X.fs->b∉ch->@au=@j->@bz->∃sl,@an=some {o with slots:=sl}) (free:∀b o,b∉ch->@au=@j->@bz->H' b=none)
  (there:∀b o,b∉ch->@au=@j->∃o',@an=some o')
  (C4:∀b xs,H b=some (.tup xs)->H' b=some (.tup xs)) (B9:∀b o u,H b=some (.nY o u)->H' b=some (.nY o u)) (C6:∀b q,H b=some (.VW q)->H' b=some (.VW q)) (Dh:∀b x,H b=some (.own x)->H' b=some (.own x))
  (ns:∀m,s.heap.Ns X.env.locals m->h'.Ns X.env.locals m) (dS:vT X.prog X.w H' h') (hg:EL g'):
  Inv X pins σ H' {s with heap:=h',gens:=g',drawn:=d',toks:=t'}:=by
 have neL:∀b o,X.nV.heap.get? b=@j->@cT:=λb o e=>br (bY (aQ e) I.ok.above);have neC:∀b o,X.nV.heap.get? b=@j->b∉X.ex->b∉ch:=λb o e hx hb=>by
  rcases(Wn b hb).1 with z |z
  .exact hx z
  .exact absurd (bY (aQ e) z) (eU _)
 have cellK:∀x c,@cx->∀v,s.heap.IsCell c v->h'.IsCell c v:=λx c e v ⟨o,ho,hd⟩=>by
  have nch:c∉ch:=λz=>(Wn c z).2.2.1 x c e rfl;by_cases hc:c∈X.fs
  .obtain⟨sl,q⟩:=slot c o (I.Y6 x c e) hc nch ho (I.qX x c e);exact⟨_,q,hd⟩
  .exact⟨o,keep c o (I.Y6 x c e) hc nch ho (I.qX x c e),hd⟩
 refine⟨I.ok,I.os,hg,⟨λb o e n hb hx=>?_,λb o e n hb hx=>?_,λb o e n hx=>?_,λb o e hx=>?_,λb xs e=>C4 b xs (I.base.C4 b xs e),λb o xs e=>B9 b o xs (I.base.B9 b o xs e),λb ps e=>?_,λb x e=>Dh b x (I.base.Dh b x e)⟩,?_,λx c e=>?_,?_,λx c e=>?_,@aN,dS,I.len⟩
 .exact keep b o (neL b o e) hb (neC b o e hx) (I.base.keep b o e n hb hx) (I.base.free b o e n hx)
 .obtain⟨sl,e1⟩:=I.base.slot b o e n hb hx;obtain⟨sl',e2⟩:=slot b _ (neL b o e) hb (neC b o e hx) e1 (I.base.free b o e n hx);exact⟨sl',e2⟩
 .obtain⟨o',e1⟩:=I.base.there b o e hx;exact free b o' (neC b o e hx) e1 (I.base.free b o e n hx)
 .obtain⟨o',e1⟩:=I.base.there b o e hx;exact there b o' (neC b o e hx) e1
 .exact C6 b _ (I.base.C6 b ps e)
 .obtain⟨m,hn,hl⟩:=I.loc;refine⟨m,ns m hn,λi x v e1 e2 e3=>?_⟩;obtain⟨u,r,l⟩:=hl i x v e1 e2 e3;refine⟨u,r,?_⟩;rcases l with l |⟨k,c,e,z⟩
  .exact .inl l
  .exact .inr ⟨k,c,e,cellK x c e _ z⟩
 .obtain⟨v,z⟩:=I.cell x c e;exact⟨v,cellK x c e v z⟩
 .obtain⟨m,⟨o,_,_,ho,_⟩,_⟩:=I.loc;exact free _ o (λz=>(Wn _ z).2.1 rfl) ho I.free
 .obtain⟨v,o,ho,hd⟩:=I.cell x c e;exact free c o (λz=>(Wn c z).2.2.1 x c e rfl) ho (I.qX x c e)
 .obtain⟨e,n,ne,nf,d⟩:=I.pin p hp;have nch:p.1∉ch:=λz=>(Wn p.1 z).2.2.2 p hp rfl;exact⟨keep p.1 p.2 ne nf nch e n,free p.1 p.2 nch e n,ne,nf,d⟩
theorem Inv.un(I:@m)(u:Un X.fs [] H H' s.heap h')(dS:vT X.prog X.w H' h'):Inv X pins σ H' {s with heap:=h',toks:=t'}:=by
 obtain⟨m,⟨o,es,ep,ho,r⟩,_⟩:=id I.loc;obtain⟨sl,hL⟩:=u.any ho I.free @i;exact I.step (g':=s.gens) (d':=s.drawn) (ch:=[]) (λ_ z=>nomatch z) (λb o _ hb _ e n=>u.keep b o e n hb @i) (λb o _ hb _ e n=>u.slot b o e n hb @i) (λb o _ e n=>u.free b o e n @i) (λb o _ e=>u.there b o e @i) u.C4 u.B9 u.C6 u.Dh (λm' hm=>by
  obtain⟨o',es',ep',Rm,r'⟩:=hm;rw[ho] at Rm;cases Rm;exact⟨_,es',ep',hL,r'⟩) dS I.bare
theorem Inv.call(I:@m)(u:Un (Pg X.stack) ch H H' s.heap h')(dS:vT X.prog X.w H' h')(hg:EL g')
  (Wn:∀b∈ch,(b∈X.ex\/X.nV.heap.objs.size<=b)/\@cT/\(∀x c,@cx->c≠b)/\∀p∈X.pn++pins,p.1≠b):
  Inv X pins σ H' {s with heap:=h',gens:=g',drawn:=d',toks:=t'}:=by
 obtain⟨m,⟨o,es,ep,ho,r⟩,_⟩:=id I.loc;obtain⟨sl,hL⟩:=u.any ho I.free λz=>(Wn _ z).2.1 rfl;exact I.step (ch:=ch) Wn (λb o hL hb hc e n=>u.keep b o e n (λz=>(List.mem_cons.mp (I.Jr b z)).elim hL hb) hc) (λb o _ _ hc e n=>u.any e n hc) (λb o hc e n=>u.free b o e n hc) (λb o hc e=>u.there b o e hc) u.C4 u.B9 u.C6 u.Dh (λm' hm=>by
  obtain⟨o',es',ep',Rm,r'⟩:=hm;rw[ho] at Rm;cases Rm;exact⟨_,es',ep',hL,r'⟩) dS hg
theorem Inv.turned(I:@m)(k:∀b o,b≠it->@au=@j->@an=@j)(hn:H it=none)(hL:it≠X.env.locals)
  (h1:it∈X.ex\/X.nV.heap.objs.size<=it) (h2:∀x c,@cx->c≠it) (h3:∀p∈X.pn++pins,p.1≠it):Inv X pins σ H {s with heap:=h',toks:=t'}:=by
 have nit:∀b u,H b=@T->b≠it:=λb u e z=>by rw[z,hn] at e;cases e
 refine I.step (g':=s.gens) (d':=s.drawn) (ch:=[it]) (λb hb=>?_) (λb o _ _ hc e _=>k b o (λz=>hc (by simp[z])) e) (λb o _ _ hc e _=>⟨o.slots,k b o (λz=>hc (by simp[z])) e⟩) (λ_ _ _ _ n=>n)
  (λb o hc e=>⟨o,k b o (λz=>hc (by simp[z])) e⟩) (λ_ _ e=>e) (λ_ _ _ e=>e) (λ_ _ e=>e) (λ_ _ e=>e) (λm hm=>?_) (λb u e=>?_) I.bare
 .have e:b=it:=@cs
  subst e;exact⟨h1,hL,h2,h3⟩
 .obtain⟨o,es,ep,ho,r⟩:=hm;exact⟨o,es,ep,k _ o (eB hL) ho,r⟩
 .refine(I.dS b u e).oP (λc v hc q=>k c v ?_ q) (λ_ q=>q) λ_ _ q=>q;rcases hc with z |z
  .rw[z];exact nit b u e
  .exact nit c _ z
theorem Inv.tok(I:@m)(t):Inv X pins σ H {s with toks:=t}:=I.un (h':=s.heap) (t':=t) Un.refl I.dS
theorem Inv.kept(I:@m)(k:∀b u,@au=@T->@an=@T):Inv X pins σ H {s with heap:=h',toks:=t'}:=I.un (Un.kept k) (I.dS.kept k)
theorem Inv.laid(I:@m)(k:∀b u,@au=@T->@an=@T)(hp:s.heap.objs.size<=a)(new:iD X.prog X.w (upd H a o) h' a o):
  Inv X pins σ (upd H a o) {s with heap:=h',toks:=t'}:=I.un (Un.laid k hp (I.dS.fresh hp)) (I.dS.laid k hp new)
theorem Inv.write(I:@m)(mu:Mut (H x))(he:e=x\/H e=some (.own x))(k:∀b u,b≠e->@au=@T->@an=@T)(ZJ:∃u,h'.get? e=@T)
  (new:iD X.prog X.w (upd H x o) h' x o):Inv X pins σ (upd H x o) {s with heap:=h',toks:=t'}:=I.un (Un.write mu he k ZJ) (I.dS.write mu he k ZJ new)
theorem Inv.LM(I:@m)(h:∀p∈V6,s.heap.get? p.1=some p.2/\H p.1=none/\p.1≠X.env.locals/\p.1∉X.fs/\∀v,p.2.data≠.cell v):Inv X V6 σ H s :=
 ⟨I.ok,I.os,I.bare,I.base,I.loc,I.cell,I.free,I.qX,λp hp=>(List.mem_append.mp hp).elim (λz=>I.pin p (bM _ z)) (h p),I.dS,I.len⟩
theorem Hs{N:@D}(hN:N.Nodup){j:Nat}(a:N[i]?=@ak)(b:N[j]?=@ak):i=j:=by
 obtain⟨h1,e1⟩:=List.getElem?_eq_some_iff.mp a;obtain⟨h2,e2⟩:=List.getElem?_eq_some_iff.mp b;exact(List.getElem_inj hN).mp (e1.trans e2.symm)
theorem DM{M:Model}{A:dD}{E:@J}{i:Nat}{x:Str}{v:V}{u:Value}{Q:Unit->@ag}(I:@m)(hN:X.N.Nodup)(hi:X.N[i]?=@ak)(hx:Loc X.env.scope x)(r:@bn)
  (h:∀s',Inv X pins (σ.set i (@Q)) H s'->(∃a,rj a s.heap s'.heap/\(a=X.env.locals\/X.env.cells.lookup x=some a))->Q () s') (hf:autoParam (X.fn x=true\/@da=@bB) Ao._auto_1):wpAny M A (storeName X.env x u) Q E s:=by
 obtain⟨m,hn,hl⟩:=id I.loc;have aeU:(X.env.scope.kind == .class||(X.env.scope.kind == .module&&X.env.locals != X.env.globals))=false:=by rw[I.ok.kind];rfl
 have aa9:i<σ.length:=by rw[I.len];exact(@dD).1
 have Y6:=I.Y6;have tracked:∀{a:Addr} {h':Heap},(∃o,@cR=@j/\H a=none)->rj a s.heap h'->vT X.prog X.w H h':=λ{a h'} ha hs b ob e=>by
  obtain⟨_,_,qV⟩:=ha;refine(I.dS b ob e).oP (λc w' hc q=>(hs.2 c ?_).trans q) (λ_ q=>q) λ_ _ q=>q;ext d;rcases hc with rfl |hc
  .rw[qV] at e;cases e
  .rw[qV] at hc;cases hc
 rcases hx with hk |hk
 .refine wpAny_storeName_local hk hn (λh' Oe hs=>?_) aeU;obtain⟨oL,_,_,hoL,_⟩:=id hn;refine h _ ⟨I.ok,I.os,I.bare,⟨λb o e n hb hx=>?_,λb o e n hb hx=>?_,I.base.free,λb o e hx=>?_,I.base.C4,I.base.B9,I.base.C6,I.base.Dh⟩,⟨_,Oe,λj y v' e1 e2 e3=>?_⟩,λy c e=>?_,I.free,I.qX,@aN,tracked ⟨oL,hoL,I.free⟩ hs,by simpa using I.len⟩ ⟨_,hs,@I⟩
  .exact(hs.2 b (br (bY (aQ e) I.ok.above))).trans (I.base.keep b o e n hb hx)
  .obtain⟨sl,e1⟩:=I.base.slot b o e n hb hx;exact⟨sl,(hs.2 b (br (bY (aQ e) I.ok.above))).trans e1⟩
  .obtain⟨o',e1⟩:=I.base.there b o e hx;exact⟨o',(hs.2 b (br (bY (aQ e) I.ok.above))).trans e1⟩
  .by_cases hj:j=i
   .subst hj;rw[hi] at e1;cases e1;rw[dh aa9] at e2;cases e2;exact⟨u,r,.inl ⟨hk,@L⟩⟩
   .rw[dU (eB hj)] at e2;obtain⟨u',r',q⟩:=hl j y v' e1 e2 e3;refine⟨u',r',?_⟩;rcases q with ⟨k,e⟩ |⟨k,c,e,z⟩
    .refine .inl ⟨k,?_⟩;have:y≠x:=λe=>hj (Hs hN e1 (e ▸ hi));simp[this,e]
    .exact .inr ⟨k,c,e,z.sameBut hs (Y6 y c e)⟩
  .obtain⟨w',z⟩:=I.cell y c e;exact⟨w',z.sameBut hs (Y6 y c e)⟩
  .obtain⟨e,n,ne,nf,d⟩:=I.pin p hp;exact⟨(hs.2 p.1 ne).trans e,n,ne,nf,d⟩
 .have hfn:X.fn x=true:=by
   rcases hf with z |z
   .exact z
   .rw[z] at hk;cases hk
  obtain⟨c,hc⟩:=I.ok.has x (.inl hk);obtain⟨w',z⟩:=I.cell x c hc;refine wpAny_storeName_cell I.ok.kind hk hc z (λh' Wo hs=>?_);obtain⟨oc,ZG,aeB⟩:=id z;refine h @bP ⟨I.ok,I.os,I.bare,⟨λb o e n hb hx=>?_,λb o e n hb hx=>?_,I.base.free,λb o e hx=>?_,I.base.C4,I.base.B9,I.base.C6,I.base.Dh⟩,⟨m,hn.sameBut hs (eB (Y6 x c hc)),λj y v' e1 e2 e3=>?_⟩,λy c' e=>?_,I.free,I.qX,@aN,tracked ⟨oc,ZG,I.qX x c hc⟩ hs,by simpa using I.len⟩ ⟨c,hs,.inr hc⟩
  .exact(hs.2 b (br (bY (aQ e) (I.ok.cab x c hfn hc)))).trans (I.base.keep b o e n hb hx)
  .obtain⟨sl,e1⟩:=I.base.slot b o e n hb hx;exact⟨sl,(hs.2 b (br (bY (aQ e) (I.ok.cab x c hfn hc)))).trans e1⟩
  .obtain⟨o',e1⟩:=I.base.there b o e hx;exact⟨o',(hs.2 b (br (bY (aQ e) (I.ok.cab x c hfn hc)))).trans e1⟩
  .by_cases hj:j=i
   .subst hj;rw[hi] at e1;cases e1;rw[dh aa9] at e2;cases e2;exact⟨u,r,.inr ⟨.inl hk,c,hc,Wo⟩⟩
   .rw[dU (eB hj)] at e2;obtain⟨u',r',q⟩:=hl j y v' e1 e2 e3;refine⟨u',r',?_⟩;rcases q with q |⟨k,c',e,z'⟩
    .exact .inl q
    .refine .inr ⟨k,c',e,z'.sameBut hs ?_⟩;ext d;exact hj (Hs hN e1 (I.ok.inj _ _ _ e hc ▸ hi))
  .by_cases hcc:c'=c
   .subst hcc;exact⟨_,Wo⟩
   .obtain⟨w2,z2⟩:=I.cell y c' e;exact⟨w2,z2.sameBut hs hcc⟩
  .obtain⟨e,n,ne,nf,d⟩:=I.pin p hp;refine⟨(hs.2 p.1 ?_).trans e,n,ne,nf,d⟩;intro q;rw[q,ZG] at e;have q':oc=p.2:=bW e;exact d w' (by rw[<-q'];exact aeB)
theorem GS{M:Model}{A:dD}{E:@J}{i:Nat}{x:Str}{v:V}{u:Value}{Q:Unit->@ag}(I:@m)(hN:X.N.Nodup)(hi:X.N[i]?=@ak)(hx:Loc X.env.scope x)(r:@bn)
  (h:∀s',Inv X pins (σ.set i (@Q)) H s'->Q () s') (hf:autoParam (X.fn x=true\/@da=@bB) Ao._auto_1):wpAny M A (storeName X.env x u) Q E s :=
 DM I hN hi hx r (λs' I' _=>h s' I') hf
end
abbrev XK:=Value->Option Addr->@bs
abbrev St:=List (Option V)
abbrev VK:=V->@bs
abbrev TE:=St->Hp->VK->Prop
abbrev TT:=St->Hp->(Bool->@bs)->Prop
abbrev TA:=St->Hp->(@z->@bs)->Prop
structure Ends where
 nx:St->@bs
 rt:VK
 bk:St->@bs:=@t
 ct:St->@bs:=@t
abbrev TS:=Ends->St->@bs
def EP(X:Cx)(pins:@v)(σ:St)(Q:VK)(u:Value)(s':aE):Prop:=∃v H',@de/\@bn/\Q v H'
def TP(X:Cx)(pins:@v)(σ:St)(Q:Bool->@bs)(b:Bool)(s':aE):Prop:=∃H',@de/\Q b H'
def SP(X:Cx)(pins:@v)(D:Ends)(f:Flow)(s':aE):Prop :=
 match f with
 |.next=>∃jT H',Inv X pins jT H' s'/\D.nx jT H'
 |.brk=>∃jT H',Inv X pins jT H' s'/\D.bk jT H'
 |.cont=>∃jT H',Inv X pins jT H' s'/\D.ct jT H'
 |.ret u=>∃v jT H',Inv X pins jT H' s'/\@bn/\D.rt v H'
def PE(X:Cx)(e:Expr)(t:TE):Prop :=
 ∀(pins:@v) (s:aE) (σ:St) (H:Hp) (Q:VK),@m->t σ H Q->wpAny @q X.A (eval e X.env) (EP X pins σ Q) X.xe s
def ZU(X:Cx)(st:List Stmt)(t:TS):Prop :=
 ∀(pins:@v) (s:aE) (σ:St) (H:Hp) (D:Ends),@m->t D σ H->wpAny @q X.A (execs st X.env) (SP X pins D) X.xe s
theorem gT(h:wpAny M A t Q E s)(hQ:∀a s,Q a s->Q' a s):wpAny M A t Q' E s:=oK h hQ λ_ _ x=>x
section
variable {X:Cx}
def adn(i:Nat):TE:=λσ H Q=>∃v,σ[i]?=some (@Q)/\Q v H
def tC(v:V):TE:=λ_ H Q=>Q v H
theorem Xv    (hN:X.N[i]?=@ak) (hv:Vis X.env.scope x) (hd:@c6) (Pe:autoParam ((x == ("__classdict__":Str))=false) Ad._auto_1):PE X (.Name x pos) (adn i):=by
 intro pins s σ H Q I h;obtain⟨v,e,h⟩:=h;obtain⟨m,hn,hl⟩:=I.loc;obtain⟨u,r,l⟩:=hl i x v hN e hv;have fin:EP X pins σ Q u s:=⟨v,H,I,r,h⟩;rcases l with ⟨hk,hm⟩ |⟨hk,c,hc,qW⟩
 .exact wpAny_Name (wpAny_loadName_local I.ok.kind hk hn hm fin) hd
 .rcases hk with hk |hk
  .exact wpAny_Name (wpAny_loadName_cell I.ok.kind hk hc qW fin) hd
  .exact wpAny_Name (wpAny_loadName_free I.ok.kind hk hc qW fin Pe) hd
theorem Xy{i j pos}:PE X (.Constant (@M) j pos) (tC (@M)):=λ_ _ _ H _ I h=>wpAny_Constant_int ⟨@M,H,@aF,@S,h⟩
theorem aao{b j pos}:PE X (.Constant (.bool b) j pos) (tC (.bl b)):=λ_ _ _ H _ I h=>Constant_bool ⟨.bl b,H,I,rfl,h⟩
theorem Xx{j pos}:PE X (.Constant .none j pos) (tC .cY):=λ_ _ _ H _ I h=>Constant_none ⟨.cY,H,I,rfl,h⟩
theorem Xw{x j pos}:PE X (.Constant (.str x) j pos) (tC (.str x)):=λ_ _ _ H _ I h=>Calls.Constant_str ⟨.str x,H,@aF,@S,h⟩
def Gl(X:Cx)(x:Str):Prop:=X.env.kindOf x=some .globalImplicit
theorem Fm{E:@J}{pins:@v}{s:aE}{σ:St}{H:Hp}{x:Str}{u:Value}{pos:Pos}{Q:@J}(I:@m)(hg:Gl X x)(hm:X.mg x=@T)(h:Q u s)
  (hd:@c6):wpAny @q X.A (eval (.Name x pos) X.env) Q E s :=
 IQ I.ok.kind hg (Calls.loadGlobal_global (by rw[I.ok.glob];exact I.mod.glob.keeps I.bk) hm h) hd
theorem nC{E:@J}{pins:@v}{s:aE}{σ:St}{H:Hp}{x:Str}{u:Value}{pos:Pos}{Q:@J}(I:@m)(hg:Gl X x)(hm:X.mg x=none)(hv:c8 x=@T)(h:Q u s)
  (hn:autoParam (x≠"__name__") Ad._auto_1) (hd:@c6):wpAny @q X.A (eval (.Name x pos) X.env) Q E s:=by
 obtain⟨mb,h1,h2⟩:=I.mod.blt;exact IQ I.ok.kind hg (Calls.loadGlobal_builtin (by rw[I.ok.glob];exact I.mod.glob.keeps I.bk) hm (by rw[I.ok.blt];exact h1.keeps I.bk) ((h2 x hn).trans hv) h) hd
theorem Uz     (hg:Gl X x) (hm:X.mg x=@T) (r:@bn) (hd:@c6):PE X (.Name x pos) (tC v) :=
 λ_ _ _ H _ I h=>Fm I hg hm ⟨v,H,I,r,h⟩ hd
variable {a b:Expr} {ta tb:TE} {pos:Pos}
def tB(t:TE):TT:=λσ H Q=>t σ H λx H1=>∃c,x=.bl c/\Q c H1
variable {tA tB':TT} {rest:@aX}
end
def qZ(K:ay)(H:Hp)(a:Addr)(xs:@z):Prop :=
 Rd H a @bw \/
  ∃(o:Obj) (bz:@bL) (n:Nat),K.lookup a=@j/\o.cls=@Z/\o.dict=none/\o.data=.seq bz n/\bz.size<=bw/\Vals xs bz.toList
def Cy(K:ay)(H:Hp)(a:Addr)(xs:@z):Prop :=
 Rd H a (.tup xs) \/
  ∃(o:Obj) (bz:@bL) (n:Nat),K.lookup a=@j/\o.cls=@ae/\o.data=.seq bz n/\bz.size<=bw/\Vals xs bz.toList
noncomputable def afm:Value->Option V
 |.none=>some .cY
 |.bool b=>some (.bl b)
 |.int i _=>some (@M)
 |.str x _=>some (.str x)
 |.bytes b _=>some (.WA b)
 |.float b _=>some (.iQ b)
 |.ref a=>some @U
 |.type n=>some (.ty n)
 |_=>none
theorem RelV.abs(r:RelV x u):afm u=@ak:=by
 cases x with
 |cY=>cases r;rfl
 |bl _=>cases r;rfl
 |int _=>obtain⟨t,rfl⟩:=r;rfl
 |str _=>obtain⟨t,rfl⟩:=r;rfl
 |WA _=>obtain⟨t,rfl⟩:=r;rfl
 |iQ _=>obtain⟨t,rfl⟩:=r;rfl
 |ref _=>cases r;rfl
 |ty _=>cases r;rfl
theorem RelV.inj(r:RelV x u)(q:RelV y u):x=y:=bW (r.abs.symm.trans q.abs)
theorem Vals.inj:∀{xs ys:@z} {us:@C},@cK->Vals ys us->xs=ys:=by
 intro xs ys us h;induction h generalizing ys with
 |nil=>intro k;cases k;rfl
 |cons r t ih=>
  intro k;cases k with
  |cons r' t'=>rw[r.inj r',ih t']
section
variable {X:Cx} {pins:@v} {σ:St} {H:Hp} {s:aE} {a:Addr} {xs ys:@z}
theorem qZ.of{K:ay}(h:H a=some @bw):qZ K H a xs:=.inl (.inl h)
theorem Cy.of{K:ay}(h:H a=some (.tup xs)):Cy K H a xs:=.inl (.inl h)
theorem Inv.list(I:@m)(h:qZ X.K H a xs):∃bz:@C,Vals xs bz/\PlainL s.heap a bz.toArray/\xs.length<=bw:=by
 rcases h with h |⟨o,bz,n,hk,hc,hd,hs,hz,r⟩
 .obtain⟨z,bz,n,r,e⟩:=h.ok I.dS;exact⟨bz,r,⟨_,n,e,rfl,rfl,rfl⟩,z⟩
 .refine⟨bz.toList,r,⟨o,n,I.D7 a o hk,hc,hd,by simpa using hs⟩,?_⟩;have e:=r.length;simp only[bS] at e;lia
theorem Inv.tuple(I:@m)(h:Cy X.K H a xs):∃bz:@C,Vals xs bz/\IsTup s.heap a bz.toArray/\xs.length<=bw:=by
 rcases h with h |⟨o,bz,n,hk,hc,hs,hz,r⟩
 .obtain⟨z,bz,r,p⟩:=h.ok I.dS;exact⟨bz,r,p,z⟩
 .refine⟨bz.toList,r,⟨o,I.D7 a o hk,hc,n,by simpa using hs⟩,?_⟩;have e:=r.length;simp only[bS] at e;lia
theorem Inv.xc(I:@m)(h:qZ X.K H a xs)(h':qZ X.K H a ys):xs=ys:=by
 obtain⟨bz,r,⟨o,n,e,_,_,d⟩,_⟩:=I.list h;obtain⟨its',r',⟨o',n',e',_,_,d'⟩,_⟩:=I.list h';rw[e] at e';cases e';rw[d] at d';injection d' with d1 _
 have:bz=its':=by simpa using congrArg Array.toList d1
 ext c;exact r.inj r'
theorem Inv.MZ(I:@m)(h:Cy X.K H a xs)(h':Cy X.K H a ys):xs=ys:=by
 obtain⟨bz,r,⟨o,e,_,n,d⟩,_⟩:=I.tuple h;obtain⟨its',r',⟨o',e',_,n',d'⟩,_⟩:=I.tuple h';rw[e] at e';cases e';rw[d] at d';injection d' with d1 _
 have:bz=its':=by simpa using congrArg Array.toList d1
 ext c;exact r.inj r'
end
noncomputable abbrev Cx.C3(X:Cx)(E:@J):Cx:={X with xe:=E}
abbrev Cx.X3(X:Cx):Cx:=X.C3 @t
theorem Cx.Ok.C3{X:Cx}(ok:X.Ok)(E):(X.C3 E).Ok :=
 ⟨ok.mod,ok.kind,ok.glob,ok.blt,ok.above,ok.inj,ok.has,ok.cab,ok.hd,ok.frames,ok.stk,ok.exf,ok.bs,ok.S8,ok.NJ,ok.RV,ok.z8,ok.YK⟩
theorem Cx.Ok.sD{X:Cx}(ok:(X.C3 E).Ok):X.Ok :=
 ⟨ok.mod,ok.kind,ok.glob,ok.blt,ok.above,ok.inj,ok.has,ok.cab,ok.hd,ok.frames,ok.stk,ok.exf,ok.bs,ok.S8,ok.NJ,ok.RV,ok.z8,ok.YK⟩
section
variable {X:Cx} {pins:@v} {σ:St} {H:Hp} {s:aE} {E:@J}
theorem Inv.C3(I:@m)(E):Inv (X.C3 E) pins σ H s:=⟨I.ok.C3 E,I.os,I.bare,I.base,I.loc,I.cell,I.free,I.qX,I.pin,I.dS,I.len⟩
theorem Inv.sD(I:Inv (X.C3 E) pins σ H s):@m:=⟨I.ok.sD,I.os,I.bare,I.base,I.loc,I.cell,I.free,I.qX,I.pin,I.dS,I.len⟩
theorem SP.sD(h:SP (X.C3 E) pins D f s'):SP X pins D f s':=by
 cases f with
 |next=>obtain⟨jT,H',I,q⟩:=h;exact⟨jT,H',I.sD,q⟩
 |brk=>obtain⟨jT,H',I,q⟩:=h;exact⟨jT,H',I.sD,q⟩
 |cont=>obtain⟨jT,H',I,q⟩:=h;exact⟨jT,H',I.sD,q⟩
 |ret u=>obtain⟨v,jT,H',I,r,q⟩:=h;exact⟨v,jT,H',I.sD,r,q⟩
theorem ZU.X3{st:List Stmt}(h:ZU X.X3 st t):ZU X st t:=λpins s σ H D I hw=>
 oK (h pins s σ H D (I.C3 _) hw) (λ_ _ q=>q.sD) λ_ _ z=>bZ z
end
section
variable {X:Cx} {st:Stmt} {rest:List Stmt} {t u:TS} {e:Expr} {te:TE} {pos:Pos}
theorem Inv.quiet(I:@m):interactive X.env=false:=by simp[interactive,I.ok.kind]
end
abbrev afp:=V->V->V->Hp->(@bs)->Prop
def afs(X:Cx)(t:afp):Prop :=
 ∀(pins:@v) (s:aE) (σ:St) (H:Hp) (o i v:V) (ov iv u:Value) (Q:@bs),@m->RelV o ov->RelV i iv->@bn->t o i v H Q ->
  wpAny @q X.A (setItem ov iv u) (λ_ s'=>∃H',@de/\Q H') X.xe s
structure It where
 go:Nat->@bs
 yld:Nat->Hp->V->@bs
 stop:Nat->@bs
def qc(X:Cx)(pins:@v)(H:Hp)(b:Addr):Prop :=
 @bz/\@cT/\b∉X.fs/\(b∈X.ex\/X.nV.heap.objs.size<=b)/\(∀x c,@cx->c≠b)/\∀p∈X.pn++pins,p.1≠b
theorem Inv.Om{X:Cx}{pins:@v}{σ:St}{H H':Hp}{s:aE}{b:Addr}(I:@m)(hb:s.heap.objs.size<=b)(hn:H' b=none):qc X pins H' b:=by
 refine⟨hn,yq (bY I.lt hb),I.adT hb,.inr (cm I.sz hb),λx c e z=>?_,λp hp z=>?_⟩
 .obtain⟨v,q⟩:=I.cell x c e;exact absurd (bY q.lt (by rw[z];exact hb)) (eU _)
 .exact absurd (bY (aQ (I.pin p hp).1) (by rw[z];exact hb)) (eU _)
structure Turn(P:bR)(w:World)(K:ay)(tg:Expr)(J:It)(fp:@aI)(it:Addr)(tn:Nat->@bW):Prop where
 mem:it∈fp
 obj:∀i h,tn i h->∀b∈fp,∃o,@bD/\∀v,o.data≠.cell v
 keep:∀i h h',tn i h->(∀b∈fp,∀o,@bD->@an=@j)->tn i h'
 item:∀(X:Cx),X.prog=P->X.w=w->X.K=K->@bk->∀(i:Nat) (pins:@v) (s:aE) (σ:St) (H:Hp) (E:@J),@m->(∀b∈fp,qc X pins H b)->tn i s.heap->J.go i H ->
  wpAny (model P w) X.A (DD (.ref it)) (λr s1=>∃u,r=@T /\
   wpAny (model P w) X.A (Bh tg (.ref it) u) (λ_ s2=>∃x H',Inv X pins σ H' s2/\RelV x u/\J.yld i H x H'/\tn (i+1) s2.heap/\∀b∈fp,H' b=none) E s1) E s
 done:∀(X:Cx),X.prog=P->X.w=w->X.K=K->@bk->∀(i:Nat) (pins:@v) (s:aE) (σ:St) (H:Hp) (E:@J),@m->(∀b∈fp,qc X pins H b)->tn i s.heap->J.stop i H ->
  wpAny (model P w) X.A (DD (.ref it)) (λr s1=>r=none/\Inv X pins σ H s1) E s
 self:∀(A:dD) (i:Nat) (s:aE) (Q:@J) (E:@J),tn i s.heap->Q (.ref it) s->wpAny (model P w) A (K5 (.ref it)) Q E s
abbrev TI:=St->Hp->(It->@bs)->Prop
def PIE(X:Cx)(pins:@v)(σ:St)(tg:Expr)(R:It->@bs)(Wi:Value)(s2:aE):Prop :=
 ∃(it:Addr) (fp:@aI) (tn:Nat->@bW) (J:It) (H':Hp),Wi=.ref it/\Inv X pins σ H' s2/\Turn X.prog X.w X.K tg J fp it tn/\tn 0 s2.heap/\(∀b∈fp,qc X pins H' b)/\R J H'
theorem RF{M:Model}{A:dD}{E:@J}{s:aE}{tg:Expr}{it:Addr}{u:Value}{o:Obj}{n:String}{vs:@bL}{Q:Unit->@ag}(ho:s.heap.get? it=@j)(hc:o.cls=.type n)(hd:o.data=.fields vs)
    (hn:["enumerate","zip","dict_itemiterator","dict_reverseitemiterator","odict_iterator","itertools.zip_longest","itertools.pairwise"].contains n=false) (hQ:Q () s):wpAny M A (Bh tg (.ref it) u) Q E s:=by
  unfold Bh;cases tg<;>first
    |exact aL hQ
    |(cases u<;>first
        |exact aL hQ
        | (refine aw (wpAny_load ho ?_)
           rw[hc,hd];show wpAny M A (if(["enumerate","zip","dict_itemiterator","dict_reverseitemiterator","odict_iterator","itertools.zip_longest","itertools.pairwise"].contains n&&vs[0]? == some (rawInt _))=true then _ else _) Q E s;rw[if_neg (by intro h;rw[hn,Lj] at h;cases h)];exact aL hQ))
noncomputable def Itl(K:ay)(a:Addr):It :=
 ⟨λi H=>∃xs x,qZ K H a xs/\xs[i]?=@ak,λi H x H'=>H'=H/\∀xs,qZ K H a xs->xs[i]?=@ak,λi H=>∃xs,qZ K H a xs/\xs.length<=i⟩
noncomputable def Itt(K:ay)(a:Addr):It :=
 ⟨λi H=>∃xs x,Cy K H a xs/\xs[i]?=@ak,λi H x H'=>H'=H/\∀xs,Cy K H a xs->xs[i]?=@ak,λi H=>∃xs,Cy K H a xs/\xs.length<=i⟩
noncomputable def Itr(lo:Int)(n:Nat):It:=⟨λi _=>i<n,λi H x H'=>H'=H/\x=.int (lo+i),λi _=>n<=i⟩
theorem MX{K:ay}(a it):Turn P w K tg (Itl K a) [it] it (λi h=>h.IsListIter it a i) where
 mem:=@L
 obj:=λi h st b hb=>by
  have e:b=it:=@cs
  subst e;obtain⟨o,e,c,d⟩:=st;exact⟨o,e,λv z=>by rw[d] at z;cases z⟩
 keep:=λi h h' st k=>st.at λo e=>k it @i o e
 item:=by
  ext y;subst hP hw hK;obtain⟨xs,x,hq,hx⟩:=hg;obtain⟨bz,rv,p,hz⟩:=I.list hq;obtain⟨u,hu,ru⟩:=rv.get hx;obtain⟨f0,f1,f2,f3,f4,f5⟩:=hf it @i;refine wpAny_pyNext_list_item st p.isList (x:=u) (by simpa using hu) λh' Gq sb=>?_;have I1:Inv X pins σ H @bP:=I.turned (t':=s.toks) (λb o hb e=>(sb.2 b hb).trans e) f0 f1 f3 f4 f5;obtain⟨o,e,c,d⟩:=id Gq;exact⟨u,rfl,RF (s:=@bP) e c d @r ⟨x,H,I1,ru,⟨rfl,λys hy=>by rw[I.xc hy hq];exact hx⟩,Gq,λb hb=>(hf b hb).1⟩⟩
 done:=by
  ext y;subst hP hw hK;obtain⟨xs,hq,hx⟩:=hg;obtain⟨bz,rv,p,hz⟩:=I.list hq;obtain⟨f0,f1,f2,f3,f4,f5⟩:=hf it @i;have hl:=rv.length;exact wpAny_pyNext_list_end (I.ok.hd hc) st p.isList (by simp;lia) λh' eb=>⟨rfl,I.turned (t':=s.toks) (λb o hb e=>eb b o hb e) f0 f1 f3 f4 f5⟩
 self:=λ_ _ _ _ _ st h=>wpAny_pyIter_listiter st h
theorem Jn{K:ay}(a it):Turn P w K tg (Itt K a) [it] it (λi h=>h.IsTupleIter it a i) where
 mem:=@L
 obj:=λi h st b hb=>by
  have e:b=it:=@cs
  subst e;obtain⟨o,e,c,d⟩:=st;exact⟨o,e,λv z=>by rw[d] at z;cases z⟩
 keep:=λi h h' st k=>st.at λo e=>k it @i o e
 item:=by
  ext y;subst hP hw hK;obtain⟨xs,x,hq,hx⟩:=hg;obtain⟨bz,rv,p,hz⟩:=I.tuple hq;obtain⟨u,hu,ru⟩:=rv.get hx;obtain⟨f0,f1,f2,f3,f4,f5⟩:=hf it @i;refine wpAny_pyNext_tuple_item st (show s.heap.IsTuple a bz.toArray from p) (x:=u) (by simpa using hu) λh' Gq sb=>?_;have I1:Inv X pins σ H @bP:=I.turned (t':=s.toks) (λb o hb e=>(sb.2 b hb).trans e) f0 f1 f3 f4 f5;obtain⟨o,e,c,d⟩:=id Gq;exact⟨u,rfl,RF (s:=@bP) e c d @r ⟨x,H,I1,ru,⟨rfl,λys hy=>by rw[I.MZ hy hq];exact hx⟩,Gq,λb hb=>(hf b hb).1⟩⟩
 done:=by
  ext y;subst hP hw hK;obtain⟨xs,hq,hx⟩:=hg;obtain⟨bz,rv,p,hz⟩:=I.tuple hq;obtain⟨f0,f1,f2,f3,f4,f5⟩:=hf it @i;have hl:=rv.length;exact wpAny_pyNext_tuple_end (I.ok.hd hc) st (show s.heap.IsTuple a bz.toArray from p) (by simp;lia) λh' eb=>⟨rfl,I.turned (t':=s.toks) (λb o hb e=>eb b o hb e) f0 f1 f3 f4 f5⟩
 self:=λ_ _ _ _ _ st h=>wpAny_pyIter_tupleiter st h
theorem Jo{K:ay}(it)(lo)(n):Turn P w K tg (Itr lo n) [it] it (λi h=>IsRangeIter h it (lo+(i:Nat)*1) ((n:Int)-(i:Nat)) 1) where
 mem:=@L
 obj:=λi h st b hb=>by
  have e:b=it:=@cs
  subst e;exact⟨_,st,λv z=>by
   have z':Data.fields _=Data.cell v:=z;cases z'⟩
 keep:=λi h h' st k=>k it @i _ st
 item:=by
  ext y;subst hP hw hK;obtain⟨f0,f1,f2,f3,f4,f5⟩:=hf it @i;have W:=Walks.range (prog:=X.prog) (w:=X.w) (I.ok.hd hc) it lo 1 n;refine W.item i s _ _ hg st λv h' tk hv Gq kk=>?_;obtain⟨t,rfl⟩:=hv;have I1:Inv X pins σ H @bU:=I.turned (λb o hb e=>kk b o (@cs) e) f0 f1 f3 f4 f5;refine⟨_,rfl,RF (s:=@bU) (n:="range_iterator") Gq rfl rfl @r ⟨.int (lo+i),H,I1,⟨t,?_⟩,@ao,Gq,λb hb=>(hf b hb).1⟩⟩;rw[Int.mul_one]
 done:=by
  ext y;subst hP hw hK;obtain⟨f0,f1,f2,f3,f4,f5⟩:=hf it @i;exact wpAny_pyNext_range_end (I.ok.hd hc) st (by have:n<=i:=hg;lia) λh' eb=>⟨rfl,I.turned (t':=s.toks) (λb o hb e=>eb b o hb e) f0 f1 f3 f4 f5⟩
 self:=λ_ _ _ _ _ st h=>wpAny_pyIter_rangeiter st h
section
variable {X:Cx} {tg:Expr}
theorem Qb{pins:@v}{σ:St}{H:Hp}{s:aE}{R:It->@bs}{E:@J}{lo hi:Int}{t u v:Tok}{tk:Nat}(I:@m)(h1:-(2 ^ 62)<=lo)(h2:lo<2 ^ 62)(h3:-(2 ^ 62)<=hi)(h4:hi<2 ^ 62)
  (q:R (Itr lo (hi-lo).toNat) H):wpAny @q X.A (K5 (@bf)) (PIE X pins σ tg R) E {s with heap:=s.heap.push {cls:=.type "range",data:=.fields #[.int lo t,.int hi u,.int 1 v]},toks:=tk}:=by
 refine wpAny_pyIter_range (IsRange.new ..) (small_one h1 h2 h3 h4) ?_;have I1:Inv X pins σ H {s with heap:=s.heap.push {cls:=.type "range",data:=.fields #[.int lo t,.int hi u,.int 1 v]},toks:=tk}:=I.kept λb o e=>aG _ e
 refine⟨(s.heap.push {cls:=.type "range",data:=.fields #[.int lo t,.int hi u,.int 1 v]}).objs.size,[(s.heap.push {cls:=.type "range",data:=.fields #[.int lo t,.int hi u,.int 1 v]}).objs.size],_,_,H,rfl,
  I1.kept (t':=tk) λb o e=>aG _ e,Jo _ lo (hi-lo).toNat,?_,λb hb=>?_,q⟩
 .have e1:lo+((0:Nat):Int)*1=lo:=@L
  have e2:(((hi-lo).toNat:Nat):Int)-((0:Nat):Int)=Builtin.Range.rangeSize lo hi 1:=by rw[rangeSize_one];split<;>lia
  show IsRangeIter _ _ (lo+((0:Nat):Int)*1) ((((hi-lo).toNat:Nat):Int)-((0:Nat):Int)) 1;rw[e1,e2];exact a8 _ rfl
 .have e:b=(s.heap.push {cls:=.type "range",data:=.fields #[.int lo t,.int hi u,.int 1 v]}).objs.size:=@cs
  subst e;exact I1.Om @X (I1.dS.fresh @X)
noncomputable def sX(fp:@aI)(h:Heap):@v:=fp.filterMap λb=>(h.get? b).map λo=>(b,o)
theorem qE(hb:b∈fp)(e:@bD):(b,o)∈sX fp h:=List.mem_filterMap.mpr ⟨b,hb,by rw[e];rfl⟩
theorem NH(hp:p∈sX fp h):p.1∈fp/\h.get? p.1=some p.2:=by
 obtain⟨b,hb,e⟩:=List.mem_filterMap.mp hp;cases q:h.get? b with
 |none=>rw[q] at e;cases e
 |some o=>
  rw[q] at e;have e':(b,o)=p:=bW e;subst e';exact⟨hb,q⟩
theorem Inv.pinned(I:@m)(hf:∀b∈fp,qc X pins H b)(ho:∀b∈fp,∃o,@au=@j/\∀v,o.data≠.cell v):Inv X (pins++sX fp s.heap) σ H s :=
 I.LM λp hp=>(List.mem_append.mp hp).elim (λz=>I.pin p (bD _ z)) λz=>by
  obtain⟨hb,e⟩:=NH z;obtain⟨f0,f1,f2,_⟩:=hf p.1 hb;obtain⟨o,e',d⟩:=ho p.1 hb;rw[e] at e';cases e';exact⟨e,f0,f1,f2,d⟩
theorem Inv.we(I:Inv X (pins++pl) σ H s):@m:=I.LM λp hp=>I.pin p (bD _ (bM _ hp))
end
abbrev R2:=V->V->Hp->VK->Prop
def OM(X:Cx)(f:Value->Value->Sem Value)(r:R2):Prop :=
 ∀(pins:@v) (s:aE) (σ:St) (H:Hp) (x y:V) (v u:Value) (Q:VK),@m->@bx->RelV y u->r x y H Q ->
  wpAny @q X.A (f v u) (EP X pins σ Q) X.xe s
def UnR(X:Cx)(f:Value->Sem Value)(r:V->Hp->VK->Prop):Prop :=
 ∀(pins:@v) (s:aE) (σ:St) (H:Hp) (x:V) (v:Value) (Q:VK),@m->@bx->r x H Q ->
  wpAny @q X.A (f v) (EP X pins σ Q) X.xe s
def WL(X:Cx)(f:Value)(r:@z->Hp->VK->Prop):Prop :=
 ∀(pins:@v) (s:aE) (σ:St) (H:Hp) (xs:@z) (us:@C) (Q:VK),@m->@cK->r xs H Q ->
  wpAny @q X.A (call f us) (EP X pins σ Q) X.xe s
def afo(X:Cx)(r:V->Hp->(Bool->@bs)->Prop):Prop :=
 ∀(pins:@v) (s:aE) (σ:St) (H:Hp) (x:V) (v:Value) (Q:Bool->@bs),@m->@bx->r x H Q ->
  wpAny @q X.A (truthy v) (TP X pins σ Q) X.xe s
def rI(C:Int->Int->Prop)(g:Int->Int->V):R2:=λx y H Q=>∃i j,x=@M/\y=.int j/\C i j/\Q (g i j) H
def Zx(g:Int->Int->V):R2:=λx y H Q=>∃i j,x=@M/\y=.int j/\Q (g i j) H
def rU(g:Int->V):V->Hp->VK->Prop:=λx H Q=>∃i,x=@M/\Q (g i) H
section
variable {X:Cx} {a b c:Expr} {ta tb tc:TE} {pos:Pos}
theorem opI{f:Value->Value->Sem Value}{C:Int->Int->Prop}{g:Int->Int->Int}
  (rule:∀(i j:Int) (t u:Tok) (s:aE) (Q:@J) (E:@J),C i j->Q (.int (g i j) s.toks) {s with toks:=s.toks+1}->wpAny @q X.A (f (.int i t) (.int j u)) Q E s):
  OM X f (rI C λi j=>.int (g i j)):=by
 intro pins s σ H x y v u Q I rx ry h;obtain⟨i,j,rfl,rfl,hc,q⟩:=h;obtain⟨t,rfl⟩:=rx;obtain⟨t',rfl⟩:=ry;exact rule i j t t' s _ _ hc ⟨.int (g i j),H,@aF,@S,q⟩
theorem aas{f:Value->Value->Sem Value}{g:Int->Int->Int}
  (rule:∀(i j:Int) (t u:Tok) (s:aE) (Q:@J) (E:@J),Q (.int (g i j) s.toks) {s with toks:=s.toks+1}->wpAny @q X.A (f (.int i t) (.int j u)) Q E s):
  OM X f (Zx λi j=>.int (g i j)):=by
 intro pins s σ H x y v u Q I rx ry h;obtain⟨i,j,rfl,rfl,q⟩:=h;obtain⟨t,rfl⟩:=rx;obtain⟨t',rfl⟩:=ry;exact rule i j t t' s _ _ ⟨.int (g i j),H,@aF,@S,q⟩
theorem aat{f:Value->Value->Sem Value}{g:Int->Int->Bool}
  (rule:∀(i j:Int) (t u:Tok) (s:aE) (Q:@J) (E:@J),Q (.bool (g i j)) s->wpAny @q X.A (f (.int i t) (.int j u)) Q E s):
  OM X f (Zx λi j=>.bl (g i j)):=by
 intro pins s σ H x y v u Q I rx ry h;obtain⟨i,j,rfl,rfl,q⟩:=h;obtain⟨t,rfl⟩:=rx;obtain⟨t',rfl⟩:=ry;exact rule i j t t' s _ _ ⟨.bl (g i j),H,I,rfl,q⟩
def afC(i j:Int):Prop:=0<j/\j<1073741824
def Zu(i j:Int):Prop:=(-(2 ^ 64)<i/\i<2 ^ 64)\/(-(2 ^ 64)<j/\j<2 ^ 64)
theorem Zu.ok(h:Zu i j):IntMulOk i j:=by
 rcases h with ⟨h1,h2⟩ |⟨h1,h2⟩
 .exact .of_left (intBits_le_64 h1 h2)
 .exact .of_right (intBits_le_64 h1 h2)
theorem XU:OM X (kA .Add) (Zx λi j=>.int (i+j)):=aas λ_ _ _ _ _ _ _ q=>add_int q
theorem XQ:OM X (kA .Sub) (Zx λi j=>.int (i-j)):=aas λ_ _ _ _ _ _ _ q=>sub_int q
theorem XR:OM X (kA .Mult) (rI Zu λi j=>.int (i*j)):=opI λ_ _ _ _ _ _ _ hc q=>mul_int q hc.ok
theorem US:OM X (kA .FloorDiv) (rI afC λi j=>.int (i / j)):=opI λi j _ _ _ _ _ hc q=>by
 have h1:(0:Int)<j:=hc.1;have h2:j<1073741824:=hc.2;exact floordiv_int @c (by rw[Int.fdiv_eq_ediv_of_nonneg i @c];exact q) (.inl (PyProof.noPylong_small @c))
theorem XS:OM X (kA .Mod) (rI (λ_ j=>0<j) λi j=>.int (i % j)):=opI λi j _ _ _ _ _ hc q=>by
 have h1:(0:Int)<j:=hc;exact mod_int' @c (by rw[Int.fmod_eq_emod_of_nonneg i @c];exact q)
theorem unI{f:Value->Sem Value}{g:Int->Int}
  (rule:∀(i:Int) (t:Tok) (s:aE) (Q:@J) (E:@J),Q (.int (g i) s.toks) {s with toks:=s.toks+1}->wpAny @q X.A (f (.int i t)) Q E s):
  UnR X f (rU λi=>.int (g i)):=by
 intro pins s σ H x v Q I rx h;obtain⟨i,rfl,q⟩:=h;obtain⟨t,rfl⟩:=rx;exact rule i t s _ _ ⟨.int (g i),H,@aF,@S,q⟩
theorem WW:UnR X (unaryOp .USub) (rU λi=>.int (-i)):=unI λ_ _ _ _ _ q=>neg_int q
end
section
variable {X:Cx} {a b c:Expr} {ta tb tc:TE} {pos:Pos}
theorem aaq:OM X (fU .Lt) (Zx λi j=>.bl (decide (i<j))):=aat λ_ _ _ _ _ _ _ q=>lt_int q
theorem aar:OM X (fU .Gt) (Zx λi j=>.bl (decide (j<i))):=aat λ_ _ _ _ _ _ _ q=>gt_int q
theorem JX(b)(h:autoParam (op≠.In) Ad._auto_1)(h2:autoParam (op≠.NotIn) Ad._auto_1):behindInMarks op b=false:=by
 have e1:(op == CmpOp.In)=false:=by cases op<;>first |rfl |exact absurd rfl h
 have e2:(op == CmpOp.NotIn)=false:=by cases op<;>first |rfl |exact absurd rfl h2
 cases b with
 |Set es k _=>
  show(k == 0&&(op == .In||op == .NotIn)&&es.all (constantsAlone 8))=false;rw[e1,e2,Bool.or_false,Ll,Lj]
 |_=>rfl
def Zk(K:ay)(x:V)(H:Hp)(k:Bool):Prop :=
 match x with
 |.cY=>k=false
 |.bl b=>k=b
 |.int i=>k=(i != 0)
 |.str y=>y.length<=bw/\k=((y.length:Int) != 0)
 |.WA y=>y.size<=bw/\k=((y.size:Int) != 0)
 |.ref p=>(∃xs,qZ K H p xs/\k=!xs.isEmpty)\/(∃xs,Cy K H p xs/\k=!xs.isEmpty)\/∃bB,H p=some (.dK bB)/\k=!bB.isEmpty
 |_=>False
theorem Ke(r:KV bB vs):(!vs.isEmpty)=!bB.isEmpty:=by
 cases r<;>rfl
theorem B5(r:Vals xs bz):(!bz.toArray.isEmpty)=!xs.isEmpty:=by
 cases r<;>simp
theorem BW:(bw:Nat)<2 ^ 63:=by rw[cN];decide
theorem WY:afo X (λx H Q=>∃k,Zk X.K x H k/\Q k H):=by
 intro pins s σ H x v Q I rx h;obtain⟨k,e,q⟩:=h;have hl:=BW;have hs:bw=16777216:=cN;cases x with
 |cY=>
  cases rx;have e':k=false:=e;subst e';exact truthy_none ⟨H,I,q⟩
 |bl b=>
  cases rx;have e':k=b:=e;subst e';exact oI ⟨H,I,q⟩
 |int i=>
  obtain⟨t,rfl⟩:=rx;have e':k=(i != 0):=e;subst e';exact PySem.P.truthy_int ⟨H,I,q⟩
 |str y=>
  obtain⟨t,rfl⟩:=rx;obtain⟨hy,e'⟩:y.length<=bw/\k=((y.length:Int) != 0):=e;subst e';exact PySem.P.truthy_str @c ⟨H,@aF,q⟩
 |WA y=>
  obtain⟨t,rfl⟩:=rx;obtain⟨hy,e'⟩:y.size<=bw/\k=((y.size:Int) != 0):=e;subst e';exact PySem.W.truthy_bytes @c ⟨H,@aF,q⟩
 |ref p=>
  cases rx;have e':(∃xs,qZ X.K H p xs/\k=!xs.isEmpty)\/(∃xs,Cy X.K H p xs/\k=!xs.isEmpty)\/∃bB,H p=some (.dK bB)/\k=!bB.isEmpty:=e;rcases e' with ⟨xs,hx,e'⟩ |⟨xs,hx,e'⟩ |⟨bB,hx,e'⟩
  .subst e';obtain⟨bz,r,pl,hz⟩:=I.list hx;have hlen:=r.length;exact wpAny_truthy_list pl.isList (by simp only[aW];lia) ⟨H,@aF,by rw[B5 r];exact q⟩
  .subst e';obtain⟨bz,r,pl,hz⟩:=I.tuple hx;have hlen:=r.length;exact truthy_tuple pl (by simp only[aW];lia) ⟨H,@aF,by rw[B5 r];exact q⟩
  .subst e';obtain⟨hz,hS,vs,r,m⟩:bB.length<=bw/\(p == jC)=false/\∃vs,KV bB vs/\s.heap.DictOf (f9 X.prog X.w) p vs:=I.dS p _ hx;have hlen:bB.length=vs.length:=Az r;exact IZ hS m @c ⟨H,@aF,by rw[Ke r];exact q⟩
 |_=>exact(show False from e).elim
theorem JU:OM X (kA .Add) (λx y H Q=>∃i j,x=.str i/\y=.str j/\i.length+j.length<=bw/\Q (.str (i++j)) H):=by
 intro pins s σ H x y v u Q I rx ry h;obtain⟨i,j,rfl,rfl,hz,q⟩:=h;obtain⟨t,rfl⟩:=rx;obtain⟨t',rfl⟩:=ry;exact add_str (λt' tk=>⟨.str (i++j),H,@aF,@S,q⟩) hz
theorem vals1(r:Vals [x] us):∃u,us=[u]/\RelV x u:=by
 cases r with
 |cons r1 r2=>cases r2;exact⟨_,rfl,r1⟩
theorem vals2(r:Vals [x,y] us):∃u w',us=[u,w']/\RelV x u/\RelV y w':=by
 cases r with
 |cons r1 r2=>
  cases r2 with
  |cons r3 r4=>cases r4;exact⟨_,_,rfl,r1,r3⟩
def abX(K:ay)(x:V)(H:Hp)(n:Nat):Prop :=
 match x with
 |.str y=>y.length<=bw/\n=y.length
 |.WA y=>y.size<=bw/\n=y.size
 |.ref p=>(∃xs,qZ K H p xs/\n=xs.length)\/∃xs,Cy K H p xs/\n=xs.length
 |_=>False
theorem Sk:WL X (.builtin "len") (λxs H Q=>∃x n,xs=[x]/\abX X.K x H n/\Q (.int n) H):=by
 intro pins s σ H xs us Q I r h;obtain⟨x,n,rfl,e,q⟩:=h;obtain⟨u,rfl,rx⟩:=vals1 r;have hl:=BW;have hs:bw=16777216:=cN;cases x with
 |str y=>
  obtain⟨t,rfl⟩:=rx;obtain⟨hy,e'⟩:y.length<=bw/\n=y.length:=e;subst e';exact len_str @c ⟨@P,H,@aF,@S,q⟩
 |WA y=>
  obtain⟨t,rfl⟩:=rx;obtain⟨hy,e'⟩:y.size<=bw/\n=y.size:=e;subst e';exact PySem.W.len_bytes @c ⟨@P,H,@aF,@S,q⟩
 |ref p=>
  cases rx;have e':(∃xs,qZ X.K H p xs/\n=xs.length)\/∃xs,Cy X.K H p xs/\n=xs.length:=e;rcases e' with ⟨xs,hx,e'⟩ |⟨xs,hx,e'⟩
  .subst e';obtain⟨bz,r',pl,hz⟩:=I.list hx;have hlen:=r'.length;exact Calls.call_len_list pl.isList (by simp only[aW];lia) ⟨.int xs.length,H,@aF,⟨_,by simp only[aW];rw[hlen]⟩,q⟩
  .subst e';obtain⟨bz,r',pl,hz⟩:=I.tuple hx;have hlen:=r'.length;exact len_tuple pl (by simp only[aW];lia) ⟨.int xs.length,H,@aF,⟨_,by simp only[aW];rw[hlen]⟩,q⟩
 |_=>exact(show False from e).elim
end
structure KO(h:Heap)(x dx C:Addr)(mA:@aU):Prop where
 obj:h.get? x=some (ic C dx)
 ns:h.Ns1 dx mA
 ne:dx≠x
theorem NV{h:Heap}(n:h.Ns1 dx mA):∃od,h.get? dx=some od/\∀name,yd name od=some (mA name):=by
 obtain⟨o,es,ep,ho,hd,hk,_,hm⟩:=n;refine⟨o,ho,λname=>?_⟩;have e:=hm name;unfold nsFind findBy at e;rw[<-Array.find?_toList] at e;unfold yd;rw[hd];ext e;split
 .rename_i y q;rw[q] at e;exact congrArg some e
 .rename_i q;rw[q] at e;have a:es.toList.any (·.refKey)=false:=by
   rw[List.any_eq_false];intro y hy;obtain⟨z,t,aeK⟩:=hk y (Array.mem_toList_iff.mp hy);simp[DictEntry.refKey,aeK]
  have a':¬ es.toList.any (·.refKey)=true:=by rw[a];exact hX
  rw[if_neg a'];exact congrArg some e
theorem KO.look(I:KO h x dx C mA):∃od,PySem.W.InstAt h x (ic C dx) C (some od)/\∀name,yd name od=some (mA name) :=
 let ⟨od,ho,hl⟩:=NV I.ns
 ⟨od,⟨I.obj,rfl,rfl,ho⟩,hl⟩
section
variable {prog:bR} {w:World} {A:dD} {E:@J} {s:aE} {K:ay} {x dx C f:Addr} {mA:@aU} {name:Str} {v:Value}
theorem get_map{expr:Bool}{Q:@J}(X:K.In s.heap)(I:KO s.heap x dx C mA)(hg:tY K C name=true)(hh:Bl K C=true)
  (ha:gY K @aP name=some none) (hv:mA name=@Q) (S6:PySem.W.handedIn v=true) (h:Q v {s with toks:=s.toks+1}):
  wpAny @R A (getAttr (.ref x) name expr) Q E s:=by
 obtain⟨od,J,hl⟩:=I.look;exact PySem.W.get_value X J (yp hg).1 (PySem.W.findObj_own hh ha rfl (by rw[hl,hv])) S6 h
theorem RH{pl:Sem Bool}{Q:Value×@C->@ag}(X:K.In s.heap)(I:KO s.heap x dx C mA)(hg:tY K C name=true)
  (hf:gY K @aP name=some (some @aD)) (ht:MQ K @aD=true) (hv:mA name=none) (h:Q (.ref f,[.ref x]) s):
  wpAny @R A (getMethod (.ref x) name pl) Q E s:=by
 obtain⟨od,J,hl⟩:=I.look;exact PySem.W.method_fn X J (yp hg).1 (yp hg).2 hf (beq_iff_eq.mp ht) (by show(yd name od).map (·.isSome)=some false;rw[hl,hv];rfl) h
theorem TY{ns:@D}{Q:Unit->@ag}(X:K.In s.heap)(I:KO s.heap x dx C mA)
  (hs:gY K @aP "__setattr__"=some (some (.builtin "object.__setattr__"))) (hp:Tg K C=true) (ht:EH K C name=some none) (hh:Bl K C=true)
  (hw:Pq mA ns) (hsz:ns.length<=bw)
  (h:∀h',KO h' x dx C (λy=>if y=name then @Q else mA y)->rj dx s.heap h'->Q () {s with heap:=h',toks:=s.toks+2}):
  wpAny @R A (setAttr (.ref x) name v) Q E s:=by
 obtain⟨od,J,hl⟩:=I.look;refine PySem.W.set_plain X J hs (PySem.W.osa_open (s:={s with toks:=s.toks+1}) (r:=none) X J hp ht λb=>?_);obtain⟨cd,hc,Kl⟩:=PySem.W.any_some hh;have hx:s.heap.get? x=some ⟨.ref C,some dx,.plain,#[]⟩:=I.obj;refine aw (aL (aw (aw (wpAny_loadPart hx (aw (PySem.W.Looks.here (s:={s with toks:=s.toks+1}) (PySem.W.looks_clsIn X hc) ?_))))));rw[Kl];refine aL (a:=some dx) (aw (aL (aw ?_)));refine wpAny_nsSet1 (s:={s with toks:=s.toks+1}) I.ns λh' hn2 CU=>?_;obtain⟨oD,esD,epD,hoD,hdD,hcD⟩:=hn2.count (PySem.Within.cons name v hw);refine aw (wpAny_lookBehind hoD (by rw[hdD];exact pastItsLine_dict (cm hcD (by rw[af];lia))) ?_);exact aL (h _ ⟨(CU.2 _ (eB I.ne)).trans I.obj,hn2,I.ne⟩ CU)
theorem QO(X:K.In s.heap)(hm:PySem.W.makesIn K C=true)
  (hi:gY K @aP "__init__"=some (some @aD)) (hf:PySem.W.typeIn K @aD=some (.type "function"))
  (h:rW @R (A.under (.builtin "type.__call__" ⟨.ref C::vs,kw⟩)) (.call @aD ⟨.ref (@aR)::vs,kw⟩) (PySem.W.InitBack (@aR) R)
   {s with heap:=(s.heap.push fV).push (ic C s.heap.objs.size)}):
  rW @R A (.call @aP ⟨vs,kw⟩) R s:=by
 obtain⟨hh,g,d,t,os⟩:=s;exact PySem.W.make_core (PySem.W.makes_of X hm) (PySem.W.looks_findIn X hi) (λself=>PySem.W.bind_fn X self hf) (@I) h
end
noncomputable def nW(f:Str)(v:V):@cd->@cd
 |[]=>[(f,v)]
 |(g,x)::r=>if g=f then(g,v)::r else(g,x)::nW f v r
theorem zx(f g)(v):∀fs:@cd,(nW f v fs).lookup g=if g=f then @Q else fs.lookup g
 |[]=>by
  show qi g [(f,v)]=_;by_cases h:g=f
  .have hb:(g == f)=true:=beq_iff_eq.mpr h;simp only[qi,hb,if_pos h]
  .have hb:(g == f)=false:=beq_eq_false_iff_ne.mpr h;simp only[qi,hb,if_neg h]
 | (k,x)::r=>by
  have ih:=zx f g v r;rw[show nW f v ((k,x)::r)=(if k=f then(k,v)::r else(k,x)::nW f v r) from rfl];by_cases hk:k=f
  .rw[if_pos hk];by_cases h:g=k
   .have hb:(g == k)=true:=beq_iff_eq.mpr h;simp only[qi,hb,if_pos (h.trans hk)]
   .have hb:(g == k)=false:=beq_eq_false_iff_ne.mpr h;simp only[qi,hb,if_neg (λe:g=f=>h (e.trans hk.symm))]
  .rw[if_neg hk];by_cases h:g=k
   .have hb:(g == k)=true:=beq_iff_eq.mpr h;simp only[qi,hb,if_neg (λe:g=f=>hk (h.symm.trans e))]
   .have hb:(g == k)=false:=beq_eq_false_iff_ne.mpr h;simp only[qi,hb];exact ih
theorem yJ(f)(v):∀fs:@cd,f∈(nW f v fs).map @N/\∀g,g∈fs.map @N->g∈(nW f v fs).map @N
 |[]=>⟨by simp[nW],λg h=>@cr⟩
 | (k,x)::r=>by
  obtain⟨i1,i2⟩:=yJ f v r;rw[show nW f v ((k,x)::r)=(if k=f then(k,v)::r else(k,x)::nW f v r) from rfl];by_cases hk:k=f
  .rw[if_pos hk];subst hk;exact⟨@L,λg h=>@bZ⟩
  .rw[if_neg hk];refine⟨?_,λg h=>?_⟩
   .rw[aq];exact aC _ i1
   .rw[aq] at h ⊢;rcases @dh with e |e
    .exact List.mem_cons.mpr (.inl e)
    .exact aC _ (i2 g e)
theorem zA(f)(v):∀fs:@cd,(nW f v fs).length<=fs.length+1
 |[]=>by simp[nW]
 |(k,x)::r=>by
  have ih:=zA f v r;rw[show nW f v ((k,x)::r)=(if k=f then(k,v)::r else(k,x)::nW f v r) from rfl];by_cases hk:k=f
  .rw[if_pos hk,af,af];lia
  .rw[if_neg hk,af,af];lia
theorem rE.some_of(r:rE (@Q) o):∃u,o=@T/\@bn:=by
 cases o with
 |none=>exact(show False from r).elim
 |some u=>exact⟨u,rfl,r⟩
theorem rE.none_of(r:rE none o):o=none:=by
 cases o with
 |none=>rfl
 |some u=>exact(show False from r).elim
theorem Oi(r:@bn):PySem.W.handedIn u=true:=by
 cases v with
 |cY=>cases(show u=gK from r);rfl
 |bl b=>cases(show u=yc b from r);rfl
 |int i=>obtain⟨t,e⟩:=(show ∃t,u=rX i t from r);cases e;rfl
 |str x=>obtain⟨t,e⟩:=(show ∃t,u=Gz x t from r);cases e;rfl
 |WA b=>obtain⟨t,e⟩:=(show ∃t,u=Value.bytes b t from r);cases e;rfl
 |iQ b=>obtain⟨t,e⟩:=(show ∃t,u=Value.float b t from r);cases e;rfl
 |ref a=>cases(show u=fe a from r);rfl
 |ty n=>cases(show u=K6 n from r);rfl
section
variable {P:bR} {w:World} {H H':Hp} {h h':Heap} {a C dx:Addr} {fs fs':@cd}
theorem mE(dS:vT P w H h)(e:H a=some (.ins C dx fs)):∃mA,KO h a dx C mA/\(∀f,rE (fs.lookup f) (mA f))/\Pq mA (fs.map @N)/\fs.length<=1000/\H dx=some (.own a):=by
 obtain⟨d,z,ne,ob,mA,n,r,q⟩:=(show iD P w H h a (.ins C dx fs) from dS a _ e);exact⟨mA,⟨ob,n,ne⟩,r,q,z,d⟩
end
structure WJ(K:ay)(C:Addr):Prop where
 pg:tY K C Str.empty=true
 hd:Bl K C=true
 po:Tg K C=true
 sa:gY K @aP "__setattr__"=some (some (.builtin "object.__setattr__"))
theorem WJ.get{K:ay}(c:WJ K C)(f):tY K C f=true:=c.pg
def CH(K:ay)(C:Addr)(f:Str):Prop:=gY K @aP f=some none
theorem CH.ZZ{K:ay}(n:CH K C f):EH K C f=some none:=by
 unfold EH;rw[show gY K @aP f=some none from n];rfl
structure Meth(K:ay)(C:Addr)(m:Str)(f:Addr):Prop where
 at_:gY K @aP m=some (some @aD)
 fn:MQ K @aD=true
 kp:qr K @aD=true
section
variable {X:Cx} {pins:@v} {σ:St} {H:Hp} {s:aE} {a C dx:Addr} {fs:@cd} {f:Str} {v:V} {A:dD} {E:@J}
theorem Kn(I:@m)(e:H a=some (.ins C dx fs))(c:WJ X.K C)(n:CH X.K C f)(l:fs.lookup f=@Q)
  (h:∀u s',Inv X pins σ H s'->@bn->Q u s'):wpAny @q A (getAttr @U f b) Q E s:=by
 obtain⟨mA,O,r,_,_,_⟩:=mE I.dS e;obtain⟨u,hu,ru⟩:=rE.some_of (v:=v) (o:=mA f) (by rw[<-l];exact r f);exact get_map I.D7 O (c.get f) c.hd n hu (Oi ru) (h u _ (@aF) ru)
theorem Km{m:Str}{g:Addr}{pl:Sem Bool}{Q:Value×@C->@ag}(I:@m)(e:H a=some (.ins C dx fs))(c:WJ X.K C)(k:Meth X.K C m g)(l:fs.lookup m=none)
  (h:Q (.ref g,[@ar]) s):wpAny @q A (getMethod @U m pl) Q E s:=by
 obtain⟨mA,O,r,_,_,_⟩:=mE I.dS e;have hn:mA m=none:=rE.none_of (by rw[<-l];exact r m);exact RH I.D7 O (c.get m) k.at_ k.fn hn h
theorem JG{y:V}{u:Value}{Q:Unit->@ag}(I:@m)(e:H a=some (.ins C dx fs))(c:WJ X.K C)(n:CH X.K C f)(hl:fs.length<1000)(ry:RelV y u)
  (h:∀s',Inv X pins σ (upd H a (.ins C dx (nW f y fs))) s'->Q () s'):wpAny @q A (setAttr @U f u) Q E s:=by
 obtain⟨mA,O,r,wi,_,ho⟩:=mE I.dS e;have hz:(fs.map @N).length<=bw:=by rw[ag,cN];lia
 refine TY I.D7 O c.sa c.po n.ZZ c.hd wi hz λh' O' sb=>h _ ?_;have hd:∃o,h'.get? dx=@j:=let ⟨o,_,_,e',_⟩:=O'.ns;⟨o,e'⟩
 refine I.write (x:=a) (e:=dx) (by rw[e];exact iY) (.inr ho) (λb q hb z=>(sb.2 b hb).trans z) hd ?_;refine⟨by rw[ck O.ne];exact ho,?_,O.ne,O'.obj,_,O'.ns,λg=>?_,λg hg=>?_⟩
 .have:=zA f y fs;lia
 .show rE ((nW f y fs).lookup g) (if g=f then @T else mA g);rw[zx];by_cases q:g=f
  .rw[if_pos q,if_pos q];exact ry
  .rw[if_neg q,if_neg q];exact r g
 .by_cases q:g=f
  .rw[q];exact(yJ f y fs).1
  .refine(yJ f y fs).2 g (wi g λz=>hg ?_);show(if g=f then @T else mA g)=none;rw[if_neg q];exact z
theorem Inv.made(I:@m):Inv X pins σ (upd (upd H s.heap.objs.size (.own (@aR))) (@aR) (.ins C s.heap.objs.size []))
  {s with heap:=(s.heap.push fV).push (ic C s.heap.objs.size)}:=by
 have e1:(s.heap.push fV).get? s.heap.objs.size=some fV:=a8 s.heap rfl;have e2:((s.heap.push fV).push (ic C s.heap.objs.size)).get? (@aR)=some (ic C s.heap.objs.size):=by
  have:=a8 (s.heap.push fV) (o:=ic C s.heap.objs.size) rfl
  rwa[dE] at this
 have e3:(s.heap.push fV).Ns s.heap.objs.size (λ_=>none):=⟨fV,#[],_,e1,rfl,(λe he=>absurd he @i),λ_=>rfl⟩;have I1:=I.laid (a:=s.heap.objs.size) (o:=.own (@aR)) (h':=s.heap.push fV) (t':=s.toks) (λb u q=>aG _ q) @X ⟨_,e1⟩;refine I1.laid (a:=@aR) (o:=.ins C s.heap.objs.size []) (t':=s.toks) (λb u q=>aG _ q) (To (dE _ _)) ?_;have ne:s.heap.objs.size≠@aR:=br (fQ _);refine⟨by rw[ck ne,dq],b9 _,ne,e2,λ_=>none,(Heap.Ns1.of_empty e3).at λo q=>aG _ q,λ_=>iY,λy hy=>absurd rfl hy⟩
theorem VH(hb:yn e f env (eval e env)=eval e env)
  (h:wpAny @R A (eval e env) (λo fP=>wpAny @R A (getAttr o f true) Q E fP) E s):wpAny @R A (eval (.Attribute e f pos) env) Q E s :=
 Attribute_any_ h (by rw[arm_eval_Attribute,hb])
end
structure jj(k:Nat)(A:dD):Prop where
 hd:A.handled=none
 dp:A.depth+3*k+5<recursionLimit
 un:A.units+16*k+200<cLine
theorem jj.mono(r:jj k A)(h:j<=k):jj j A:=⟨r.hd,by have:=r.dp;lia,by have:=r.un;lia⟩
theorem jj.deeper(r:jj (k+1) A)(env):jj k (A.deeper env) :=
 ⟨r.hd,by have:=r.dp;show A.depth+1+3*k+5<_;lia,by have:=r.un;show A.units+3+16*k+200<_;lia⟩
theorem J4 {A:dD}   :(A.under (.builtin "type.__call__" ⟨.ref C::us,kw⟩)).depth=A.depth+1:=by
 first |rfl |simp[O4,Code.weight,Code.isCreation,Code.isGuard,Code.isCaller,Code.frames,SW,guardIds]
theorem J3 {A:dD}   :(A.under (.builtin "type.__call__" ⟨.ref C::us,kw⟩)).units=A.units+1:=by
 first |rfl |simp[O4,Code.cUnits,Code.frames,SW]
theorem jj.make   (r:jj (k+1) A) (C) (us) (kw):jj k (A.under (.builtin "type.__call__" ⟨.ref C::us,kw⟩)) :=
 ⟨r.hd,by have:=r.dp;rw[J4];lia,by have:=r.un;rw[J3];lia⟩
theorem jj.depth(r:jj k A):A.depth<recursionLimit:=by have:=r.dp;lia
theorem jj.units(r:jj k A):A.units+64<cLine:=by have:=r.un;lia
theorem jj.EN(r:jj k A):A.units<cLine:=by have:=r.un;lia
abbrev Sp:=@z->Hp->VK->XK->Prop
abbrev K0:=@b3->Hp->aE->XK->@J
structure KZ(P:bR)(w:World)(K:ay)(mg:@aU)(base:Heap)(A:dD)(outer:@b3)(s:aE)(H:Hp):Prop where
 frames:A.frames=some outer
 mod:Mod K mg base
 bs:∀b o,base.get? b=@j->@au=@j/\@bz
 S8:base.objs.size<=s.heap.objs.size
 z8:s.heap.FunFrames base outer
 YK:∀b∈Pg outer,@bz
 dS:vT P w H s.heap
 bare:EL s.gens
def CE(outer:@b3)(P:bR)(w:World)(H:Hp)(s:aE)(Q:VK)(u:Value)(s':aE):Prop :=
 ∃v H',s'.os=s.os/\EL s'.gens/\Un (Pg outer) [] H H' s.heap s'.heap/\vT P w H' s'.heap/\@bn/\Q v H'
def CR(CX:K0)(outer:@b3)(P:bR)(w:World)(H:Hp)(s:aE)(Q:VK)(E:XK)(r:Result)(s':aE):Prop :=
 match r with
 |.ok (.ret u)=>CE outer P w H s Q u s'
 |.ok _=>False
 |.error e=>CX outer H s E e s'
structure rG(P:bR)(w:World)(K:ay)(mg:@aU)(base:Heap)(CX:K0)(k:Nat)(f:Addr)(fd:dQ)(ps:@D)(sp:Sp):Prop where
 len:∀vs H Q E,sp vs H Q E->vs.length=ps.length
 run:∀(A:dD) (outer:@b3) (s:aE) (H:Hp) (args:Args) (us:@C) (vs:@z) (Q:VK) (E:XK),jj k A->KZ P w K mg base A outer s H->BindsTo s fd args (ps.zip us)->@ci->sp vs H Q E ->
  rW (model P w) A (.call @aD args) (CR CX outer P w H s Q E) s
theorem KZ.make{K:ay}(e:KZ P w K mg base A outer s H)(C)(us)(kw):
  KZ P w K mg base (A.under (.builtin "type.__call__" ⟨.ref C::us,kw⟩)) outer s H:=⟨by first |exact e.frames |(simpa[O4,Code.envs,SW,pushEnvs] using e.frames),e.mod,e.bs,e.S8,e.z8,e.YK,e.dS,e.bare⟩
section
variable {X:Cx} {pins:@v} {σ:St} {H:Hp} {s s':aE}
theorem Inv.abE(I:@m):KZ X.prog X.w X.K X.mg X.base X.A X.stack s H :=
 ⟨I.ok.frames,I.ok.mod,I.bs,cm I.ok.S8 I.sz,I.stack,I.Lw,I.dS,I.bare⟩
theorem Inv.after(I:@m)(h:CE X.stack X.prog X.w H s Q u s'):EP X pins σ Q u s':=by
 obtain⟨v,H',os,bare,un,dS,r,q⟩:=h;obtain⟨hh,g,d,t,os'⟩:=s';obtain rfl:os'=s.os:=os;exact⟨v,H',I.call (h':=hh) (g':=g) (d':=d) (t':=t) (ch:=[]) un dS bare (λb z=>absurd z @i),r,q⟩
end
def Binds(K:ay)(fd:dQ)(ps:@D)(ds:@C):Prop :=
 ∀(s:aE) (us:@C),K.In s.heap->(us++ds).length=ps.length->BindsTo s fd ⟨us,[]⟩ (ps.zip (us++ds))
theorem Binds.all{K:ay}(h:∀us:@C,us.length=ps.length->OU fd ⟨us,[]⟩=pure (ps.zip us)):Binds K fd ps []:=λs us _ hl=>by
 rw[bC] at hl ⊢;exact .of_eq (h us hl)
def Passes(CX:K0)(X:Cx)(E:XK):Prop:=∀(pins:@v) (σ:St) (H:Hp) (s:aE) (e:Value) (s':aE),@m->CX X.stack H s E e s'->X.xe e s'
section
variable {X:Cx} {CX:K0} {k:Nat} {f C:Addr} {fd:dQ} {ps:@D} {sp:Sp} {YT:@z} {ds:@C} {E:XK} {x m:Str} {p pos apos:Pos} {e o:Expr} {es:@aX} {ta:TE} {t:TA}
theorem P5(F:rG X.prog X.w X.K X.mg X.base CX k f fd ps sp)(hr:jj k X.A)(hb:Binds X.K fd ps ds)(hd:Vals YT ds)(hx:Passes CX X E)
  (I:@m) (r:@ci) (h:sp (vs++YT) H Q E):wpAny @q X.A (call @aD us) (EP X pins σ Q) X.xe s:=by
 have r2:Vals (vs++YT) (us++ds):=r.append hd;have hl:(us++ds).length=ps.length:=by rw[<-r2.length];exact F.len _ _ _ _ h
 refine wpAny_call (uU (F.run X.A X.stack s H ⟨us,[]⟩ (us++ds) (vs++YT) Q E hr I.abE (hb s us I.D7 hl) r2 h) λr s' hq=>?_);cases r with
 |error e=>exact hx pins σ H s e s' I hq
 |ok fl=>
  cases fl with
  |ret u=>exact I.after hq
  |next=>exact bZ hq
  |brk=>exact bZ hq
  |cont=>exact bZ hq
structure Mk(K:ay)(C f:Addr):Prop where
 makes:PySem.W.makesIn K C=true
 init:gY K @aP "__init__"=some (some @aD)
 fn:MQ K @aD=true
 kp:qr K @aP=true
theorem P2{pins:@v}{σ:St}{H:Hp}{s:aE}{Q:VK}{us:@C}{vs:@z}(M:Mk X.K C f)(F:rG X.prog X.w X.K X.mg X.base CX k f fd ps sp)(hr:jj (k+1) X.A)(hb:Binds X.K fd ps ds)(hd:Vals YT ds)
  (hx:Passes CX X E) (I:@m) (r:@ci)
  (h:∀x dx,H x=none->H dx=none->dx≠x->sp (.ref x::(vs++YT)) (upd (upd H dx (.own x)) x (.ins C dx [])) (λv H2=>v=.cY/\Q (.ref x) H2) E):
  wpAny @q X.A (call @aP us) (EP X pins σ Q) X.xe s:=by
 have hq:=h (@aR) s.heap.objs.size (I.dS.fresh (vp _)) (@c9) (br (fQ _));have I2:=Inv.made (C:=C) I;have r2:Vals (V.ref (@aR)::(vs++YT)) (fe (@aR)::(us++ds)):=.cons rfl (r.append hd);have hl:(fe (@aR)::us++ds).length=ps.length:=by
  have e:=r2.length;rw[F.len _ _ _ _ hq] at e;exact e.symm
 refine wpAny_call (QO (f:=f) I.D7 M.makes M.init (beq_iff_eq.mp M.fn) (uU (F.run _ X.stack _ _ ⟨fe (@aR)::us,[]⟩ (fe (@aR)::(us++ds)) _ _ E (hr.make C us [])
  (I2.abE.make C us []) (hb _ (fe (@aR)::us) I2.D7 hl) r2 hq) λr s' Od=>?_))
 cases r with
 |error e=>exact hx pins σ _ _ e s' I2 Od
 | ok fl=>
  cases fl with
  |ret u=>
   obtain⟨v,H',I3,rv,ev,q3⟩:=I2.after Od;subst ev;exact⟨rv,⟨V.ref (@aR),H',I3,rfl,q3⟩⟩
  |next=>exact bZ Od
  |brk=>exact bZ Od
  |cont=>exact bZ Od
end
structure ku(N P:@D)(sc:Scope):Prop where
 kind:sc.kind=.function
 co:sc.isCoroutine=false
 gen:sc.isGenerator=false
 nd:N.Nodup
 pre:N.take P.length=P
 par:∀x∈P,@cG=@bB\/@cG=@a2
 X4:∀y∈sc.names,y.2≠.free
theorem Ew{kindOf:Str->Option uV}:∀{binds:List (Str×Value)} {m:@aU},(∀v,(x,v)∉binds)->bindL kindOf binds m x=m x
 |[],_,_=>rfl
 | (n,v)::r,m,h=>by
  unfold bindL;rw[Ew λw hw=>h w (aC _ hw)];split
  .have:x≠n:=by ext d;exact h v aJ
   simp[this]
  .rfl
theorem Ez{kindOf:Str->Option uV}:∀{binds:List (Str×Value)} {m:@aU},(∀v,(x,v)∉binds)->bindC kindOf binds m x=m x
 |[],_,_=>rfl
 | (n,v)::r,m,h=>by
  unfold bindC;rw[Ez λw hw=>h w (aC _ hw)];split
  .rfl
  .have:x≠n:=by ext d;exact h v aJ
   simp[this]
theorem Ey{kindOf:Str->Option uV}{x:Str}{v:Value}:∀{P:@D} {vs:@C} {i:Nat} {m:@aU},P.Nodup->P[i]?=@ak->vs[i]?=@Q->kindOf x=@bB ->
  bindL kindOf (P.zip vs) m x=@Q
 |[],_,_,_,_,h,_,_=>@cr
 |_::_,[],_,_,_,_,h,_=>@cr
 |p::P,w::vs,0,m,nd,h1,h2,hk=>by
  simp at h1 h2;subst h1;subst h2;show bindL kindOf ((p,w)::P.zip vs) m p=_;unfold bindL;rw[Ew λv hv=>(List.nodup_cons.mp nd).1 (IL hv).1,if_pos hk];simp
 |p::P,w::vs,i+1,m,nd,h1,h2,hk=>by
  show bindL kindOf ((p,w)::P.zip vs) m x=_;unfold bindL;exact Ey (i:=i) (List.nodup_cons.mp nd).2 (@di) (@b0) hk
theorem EA{kindOf:Str->Option uV}{x:Str}{v:Value}:∀{P:@D} {vs:@C} {i:Nat} {m:@aU},P.Nodup->P[i]?=@ak->vs[i]?=@Q->kindOf x≠@bB ->
  bindC kindOf (P.zip vs) m x=@Q
 |[],_,_,_,_,h,_,_=>@cr
 |_::_,[],_,_,_,_,h,_=>@cr
 |p::P,w::vs,0,m,nd,h1,h2,hk=>by
  simp at h1 h2;subst h1;subst h2;show bindC kindOf ((p,w)::P.zip vs) m p=_;unfold bindC;rw[Ez λv hv=>(List.nodup_cons.mp nd).1 (IL hv).1,if_neg hk];simp
 |p::P,w::vs,i+1,m,nd,h1,h2,hk=>by
  show bindC kindOf ((p,w)::P.zip vs) m x=_;unfold bindC;exact EA (i:=i) (List.nodup_cons.mp nd).2 (@di) (@b0) hk
noncomputable def start(N:@D)(vs:@z):St:=vs.map some++aN (N.length-vs.length) none
noncomputable def FR(CX:K0)(P:bR)(w:World)(K:ay)(mg:@aU)(base:Heap)(N:@D)(qual:Str)(scope:Scope)(f:Addr)(cd:Value)(A:dD)(outer:@b3)(s:aE)(H:Hp)(E:XK):Cx where
 prog:=P
 w:=w
 K:=K
 mg:=mg
 base:=base
 A:=A.deeper (@dC)
 N:=N
 nV:=s
 SJ:=H
 env:=@dC
 outer:=outer
 stack:=@dC::outer
 ex:=[]
 calm:=true
 fn:=λ_=>true
 pn:=[]
 xe:=λe s'=>wpAny (model P w) (A.deeper (@dC)) (leaving (@dC) e) (λ_ Xh=>CX outer H s E e Xh) (λe' Xh=>CX outer H s E e' Xh) s'
theorem Ip{sc:Scope}(h:@cG=@a2):∃c,(cellsFrom n sc.names []).lookup x=@aW:=by
 have q:=K9 sc.names n [] (.inl h);exact Option.isSome_iff_exists.mp q
theorem N8{K:ay}
  (S:ku N ps scope) (hd:A.handled=none) (e0:KZ P w K mg base A outer s H) (hl:vs.length=ps.length) (r:@ci)
  (x:InCallC s s.heap.objs.size (bindL (@dC).kindOf (ps.zip us) λ_=>none) (cellsFrom (@aR) scope.names []) (bindC (@dC).kindOf (ps.zip us) λ_=>none) s1):
  Inv (FR CX P w K mg base N qual scope f cd A outer s H E) [] (start N vs) H s1:=by
 have oX:ps.length<=N.length:=by have:=congrArg c7 S.pre;rw[cf] at this;lia
 obtain⟨h1,tk,rfl,hk⟩:=x.done;have noA:∀b:Addr,b∉(FR CX P w K mg base N qual scope f cd A outer s H E).ex:=λb z=>absurd (show b∈([]:@aI) from z) @i;refine⟨⟨e0.mod,S.kind,rfl,rfl,aR _,λy z c h1 h2=>?_,λy hy=>?_,λy c _ h=>?_,λ_=>hd,Around.frames_deeper e0.frames,.inr @ao,λb z=>absurd z (noA b),e0.bs,e0.S8,λb _ _=>noA b,λb z=>absurd z (noA b),e0.z8,e0.YK⟩,
  rfl,e0.bare,Un.kept hk,⟨_,x.toInCall.ns,λi y v h1 h2 h3=>?_⟩,λy c h=>⟨_,x.cell y c h⟩,e0.dS.fresh @X,λy c h=>?_,λp hp=>absurd (show p∈([]:@v) from hp) @i,e0.dS.kept hk,?_⟩
 .exact name_of_addr x.apart (iP h1) (iP h2)
 .have hy:scope.names.lookup y=@a2\/scope.names.lookup y=some .free:=hy;rcases hy with hy |hy
  .exact Ip hy
  .exact absurd rfl (S.X4 _ (iP hy))
 .exact Gi (x.above y c (iP h))
 .have hi:i<vs.length:=by
   unfold start at h2;by_cases hi:i<vs.length
   .exact hi
   .rw[aY (@dc)] at h2;rw[lO] at h2;split at h2<;>cases h2
  have ha:vs[i]?=@Q:=by
   unfold start at h2;rw[bA (@dc),aZ] at h2;cases e:vs[i]? with
   |none=>rw[e] at h2;cases h2
   |some a=>rw[e] at h2;cases h2;rfl
  obtain⟨u,hu,rv⟩:=r.get ha;have hp:ps[i]?=some y:=by
   rw[<-S.pre,t4 @c];exact h1
  have ndP:ps.Nodup:=by rw[<-S.pre];exact S.nd.sublist (List.take_sublist _ _)
  refine⟨u,rv,?_⟩;rcases S.par y (bE hp) with k |k
  .exact .inl ⟨k,Ey ndP hp hu k⟩
  .obtain⟨c,e⟩:=Ip (n:=@aR) k;refine .inr ⟨.inl k,c,e,?_⟩;have q:=x.cell y c e;rw[EA ndP hp hu (by show scope.names.lookup y≠_;rw[k];decide)] at q;exact q
 .exact e0.dS.fresh (Gi (x.above y c (iP h)))
 .unfold start;show _=N.length;rw[av,ag,fF];lia
theorem abz{K:ay}{kV:Value}
     (lk:K.lookup f=some ⟨oc,od,.func (jd name qual params body scope dV kV doc pm an i7 ct),JS⟩) (Pe:GA K i7 qual=true) (S:ku N ps scope)
  (len:∀vs H Q E,sp vs H Q E->vs.length=ps.length)
  (Rx:∀(A:dD) (outer:@b3) (s:aE) (H:Hp) (vs:@z) (Q:VK) (E:XK),jj k (A.deeper (Gx qual scope s.heap.objs.size f i7))->sp vs H Q E ->
   ∃t,ZU (FR CX P w K mg base N qual scope f i7 A outer s H E) body t/\t {nx:=λ_ H'=>Q .cY H',rt:=Q} (start N vs) H):
  rG P w K mg base CX (k+1) f (jd name qual params body scope dV kV doc pm an i7 ct) ps sp:=by
 refine⟨len,λA outer s H args us vs Q E hr e0 hb r Rh=>?_⟩;have hl:=len _ _ _ _ Rh;have KX:K.In s.heap:=e0.mod.Vc.keeps λb o e=>(e0.bs b o e).1;have lim:s.heap.NoLimit:=e0.mod.nolimit.keeps λb o e=>(e0.bs b o e).1;have Eb:∀y∈ps.zip us,scope.names.lookup y.1=@bB\/(scope.names.lookup y.1=@a2/\((cellsFrom (@aR) scope.names []).lookup y.1).isSome=true):=λ⟨n,v⟩ hy=>by
  rcases S.par n (IL hy).1 with q |q
  .exact .inl q
  .exact .inr ⟨q,K9 _ _ _ (.inl q)⟩
 refine codeAny_call_function hr.depth (KX _ _ lk) rfl S.co S.gen rfl (PySem.W.codeRec_of KX Pe) (hb _ _ _ _ ?_);refine wpAny_newFunctionEnv_cells S.kind Eb λenv he s1 x=>?_;subst he;refine⟨lim.keeps x.toInCall.keep,codeAny_func ?_⟩;obtain⟨t,ht,hq⟩:=Rx A outer s H vs Q E (hr.deeper _) Rh;have I:Inv (FR CX P w K mg base N qual scope f i7 A outer s H E) [] (start N vs) H s1:=N8 S hr.hd e0 hl r x;refine oK (ht [] s1 (start N vs) H _ I hq) (λfl s' hs=>?_) λe s' hs=>hs;have fin:∀{jT:St} {H':Hp} {v:V} {u:Value},Inv (FR CX P w K mg base N qual scope f i7 A outer s H E) [] jT H' s'->@bn->Q v H'->CE outer P w H s Q u s' :=
  λ{jT H' v u} J rv q=>⟨v,H',J.os,J.bare,J.base,J.dS,rv,q⟩
 cases fl with
 |ret u=>
  obtain⟨v,jT,H',J,rv,q⟩:=hs;exact fin J rv q
 |next=>
  obtain⟨jT,H',J,q⟩:=hs;exact fin (v:=V.cY) (u:=gK) J rfl q
 |brk=>
  obtain⟨_,_,_,q⟩:=hs;exact bZ q
 |cont=>
  obtain⟨_,_,_,q⟩:=hs;exact bZ q
end L2
namespace HT
open PySem PyProof.Rows
noncomputable def lexLt:@u->@u->Bool
 |[],[]=>false
 |[],_::_=>true
 |_::_,[]=>false
 |x::xs,y::ys=>if x=y then lexLt xs ys else decide (x<y)
theorem Kc(x y)(xs ys):lexLt (x::xs) (y::ys)=if x=y then lexLt xs ys else decide (x<y):=rfl
theorem Dj:lexLt [] []=false:=rfl
theorem BZ(y)(ys):lexLt [] (y::ys)=true:=rfl
theorem B0(x)(xs):lexLt (x::xs) []=false:=rfl
theorem RY(A)(s)(a)(t)(c)(u):∃e,SeqAt.EqAt A s (.int a t) (.int c u) e/\(e=true↔a=c) :=
 ⟨(a == c),SeqAt.EqAt.int_int a t c u,@L⟩
theorem BG(A)(s)(a)(t)(c)(u)(prog)(w)(E)(Q)(h:Q (.bool (decide (a<c))) s):
  wpAny @R A (rT .Lt (.int a t) (.int c u)) Q E s :=
 (PyProof.Rows.lt_int h:wpAny @R A (fU .Lt (.int a t) (.int c u)) Q E s)
section
open PySem.SeqAt
open PySem.AutoSeq1 (wpAny_loadPart')
open PySem.MeetsSeq PySem.MeetsSeq2 PySem.MeetsSeq3
theorem C5(l b)(items oR)(n n2)(dd Mp)(sl LB)(ns ms)(hi:kF items.toList ns)(hj:kF oR.toList ms):
  Meets (Builtin.«tuple.__lt__» ⟨[@aC,@aa],[]⟩)
   (λ_ R s=>@cZ=some {cls:=@ae,dict:=dd,data:=.seq items n,slots:=sl}/\@au=some {cls:=@ae,dict:=Mp,data:=.seq oR n2,slots:=LB} /\
    R (.ok (.ret (.bool (lexLt ns ms)))) s) :=
 .of_wp λprog w A R s h=>by
  obtain⟨hp,g,d,tk,os⟩:=s;obtain⟨hl,hb,h⟩:=h;have f2:=qO;have z1:items.size=ns.length:=by rw[<-hi.length];simp
  have z2:oR.size=ms.length:=by rw[<-hj.length];simp
  wp_walk using cA hl,cA hb,qp _ (λrest b s'=>b.1=none/\s'=⟨hp,g,d,tk,os⟩/\∃(vs ws:@C) (U2 Zz:@u),rest=vs.zip ws /\
   kF vs U2/\kF ws Zz/\U2.length+oR.size=Zz.length+items.size/\R (.ok (.ret (.bool (lexLt U2 Zz)))) ⟨hp,g,d,tk,os⟩) _
  case turn=>
   rintro⟨y,x⟩ rest b s' ⟨HQ,rfl,vs,ws,U2,Zz,hz,hvi,hwi,hlen,hR⟩;cases hvi with
   |nil=>rw[List.zip_nil_left] at hz;cases hz
   | cons a t aek=>
    cases hwi with
    |nil=>rw[List.zip_nil_right] at hz;cases hz
    | cons c u aei=>
     rw[List.zip_cons_cons] at hz;injection hz with hyx Rk
     injection hyx with hy hx
     subst hy hx;rw[Kc] at hR;simp only[af] at hlen;obtain⟨e,he,aba⟩:=RY A.in1 ⟨hp,g,d,tk,os⟩ a t c u;refine aw (he prog w _ _ ?_);cases e with
     |true=>
      rw[if_pos (aba.mp rfl)] at hR
      wp_walk
      exact⟨rfl,rfl,_,_,_,_,Rk,aek,aei,@d,hR⟩
     |false=>
      rw[if_neg (λq=>absurd (aba.mpr q) hX)] at hR;have hri:=BG A.in1 ⟨hp,g,d,tk,os⟩ a t c u prog w
      wp_walk using hri
      exact⟨_,rfl,by simpa using hR⟩
  case fin=>
   rintro⟨b1,b2⟩ s' ⟨HQ,rfl,vs,ws,U2,Zz,hz,hvi,hwi,hlen,hR⟩;simp only at HQ;subst HQ;have hv:lexLt U2 Zz=decide (items.size<oR.size):=by
    cases hvi with
    | nil=>
     cases hwi with
     |nil=>
      simp only[ao] at hlen;rw[Dj];exact(@dy).symm
     |cons c u hw=>
      simp only[ao,af] at hlen;rw[BZ];exact(decide_eq_true @c).symm
    | cons a t hv=>
     cases hwi with
     |nil=>
      simp only[ao,af] at hlen;rw[B0];exact(@dy).symm
     |cons c u hw=>
      rw[List.zip_cons_cons] at hz;cases hz
   rw[hv] at hR
   wp_walk
   exact⟨_,rfl,by simpa[wb] using hR⟩
  case h=>
   exact⟨rfl,rfl,items.toList,oR.toList,ns,ms,rfl,hi,hj,@d,h⟩
end
section
variable {prog:bR} {w:World} {A:dD} {E:@J} {s:aE}
theorem BR{l b:Addr}{items oR:@bL}{ns ms:@u}{Q:@J}(hl:IsTup s.heap l items)(hb:IsTup s.heap b oR)(hi:kF items.toList ns)(hj:kF oR.toList ms)
  (hu:A.units<cLine) (h:Q (.bool (lexLt ns ms)) s):wpAny @R A (fU .Lt (@aC) (@aa)) Q E s:=by
 obtain⟨⟨cls,dd,data,sl⟩,ho,hc,n,hd⟩:=id hl;obtain⟨⟨Se,Mp,data2,LB⟩,Ea,Fu,n2,hd2⟩:=id hb;simp only at hc hd Fu hd2;subst hc hd Fu hd2;exact zS (op:=.Lt) ⟨_,ho,rfl⟩ ⟨_,Ea,rfl⟩ mf uJ (sf _ _) (C5 l b items oR n n2 dd Mp sl LB ns ms hi hj)
  ⟨ho,Ea,show yc (lexLt ns ms)≠Value.notImplemented/\Q (.bool (lexLt ns ms)) s from⟨(λx=>nomatch x),h⟩⟩ hu
theorem VD{t b:Addr}{vs ws:@C}{Q:@J}(ht:IsTup s.heap t vs.toArray)(hb:IsTup s.heap b ws.toArray)(hv:vs≠[])
  (h1:ws=[]->Q (.ref t) s) (h2:ws≠[]->Q (@bf) {s with heap:=s.heap.push {cls:=@ae,data:=.seq (vs++ws).toArray}})
  (hsz:vs.length+ws.length<=bw):wpAny @R A (kA .Add (.ref t) (@aa)) Q E s:=by
 obtain⟨⟨cls,dd,data,sl⟩,ho,hc,n,hd⟩:=id ht;obtain⟨⟨Se,Mp,data2,LB⟩,Ea,Fu,n2,hd2⟩:=id hb;simp only at hc hd Fu hd2;subst hc hd Fu hd2;have e:vs.toArray++ws.toArray=(vs++ws).toArray:=@L
 by_cases hw:ws=[]
 .exact concat_meets ⟨_,ho,rfl⟩ ⟨_,Ea,rfl⟩ noFill_tuple_add seq_tuple_add La Jg (IK _ _)
   (tuple_addW1 t b vs.toArray ws.toArray n n2 dd Mp sl LB (by simpa using hv) (by simp[hw])) ⟨ho,Ea,h1 hw⟩
 .refine concat_meets ⟨_,ho,rfl⟩ ⟨_,Ea,rfl⟩ noFill_tuple_add seq_tuple_add La Jg (IK _ _)
   (tuple_addW2 t b vs.toArray ws.toArray n n2 dd Mp sl LB (by simpa using hv) (by simpa using hw) (by rw[aW,aW];exact hsz)) ⟨ho,Ea,?_⟩
  rw[e];exact h2 hw
noncomputable def jm(n d:Nat):@aT->Nat
 |none=>d
 |some v=>if v<0 then(v+(n:Int)).toNat else min v.toNat n
theorem Xg(n d)(hd:d<=n)(o):jm n d o<=n:=by
 cases o with
 |none=>exact hd
 |some v=>
  show(if v<0 then(v+(n:Int)).toNat else min v.toNat n)<=n;by_cases hv:v<0
  .rw[if_pos hv];lia
  .rw[if_neg hv];exact Nat.min_le_right _ _
theorem MA(v)(n d:Nat):(if v<0 then max (v+(n:Int)) 0 else min v (n:Int))=((jm n d (@Q):Nat):Int):=by
 show(if v<0 then max (v+(n:Int)) 0 else min v (n:Int))=(((if v<0 then(v+(n:Int)).toNat else min v.toNat n):Nat):Int);by_cases hv:v<0
 .simp only[if_pos hv];lia
 .simp only[if_neg hv];lia
theorem KL(lo hi)(n:Nat):nU lo hi 1 (n:Int)=(((jm n 0 lo:Nat):Int),((jm n n hi:Nat):Int)):=by
 have h1:¬ ((1:Int)<0):=@d
 unfold nU;simp only[h1,if_false];refine Prod.ext ?_ ?_
 .cases lo with
  |none=>rfl
  |some v=>exact MA v n 0
 .cases hi with
  |none=>rfl
  |some v=>exact MA v n n
theorem JO(i j:Nat):jg (i:Int) (j:Int) 1=j-i:=by
 unfold jg;have h1:(1:Int)>0:=@d
 simp only[h1,if_true,Int.ediv_one];split<;>lia
theorem Bu{v:Value}{o:@aT}{Q:@aT->@ag}(p:IsPart v o)(h:Q o s):wpAny @R A (Builtin.Slice.slicePartIndex v) Q E s:=by
 cases p with
 |none=>exact slicePart_none h
 |int i t=>exact slicePart_int h
theorem yw{sl:Addr}{vl vu:Value}{lo hi:@aT}{n:Nat}{Q:Int×Int×Nat->@ag}(hs:s.heap.IsSliceOf sl vl vu .none)(pl:IsPart vl lo)(pu:IsPart vu hi)
  (h:Q (((jm n 0 lo:Nat):Int),1,jm n n hi-jm n 0 lo) s):wpAny @R A (AB (.ref sl) (pure (n:Int))) Q E s:=by
 obtain⟨os,hos,hcs,hds⟩:=id hs;unfold AB Builtin.Slice.sliceFields;refine aw (aw (wpAny_field hos hds (x:=vl) rfl (aw (wpAny_field hos hds (x:=vu) rfl (aw (wpAny_field hos hds (x:=.none) rfl (aL ?_)))))));refine aw (slicePart_none ?_);show wpAny _ _ (if((1:Int) == 0)=true then _ else _) _ _ s;rw[if_neg @r];refine aw (Bu pl (aw (Bu pu (aw (aL ?_)))));show wpAny _ _ (match nU lo hi 1 (n:Int) with |(lo,hi)=>pure (lo,(1:Int),jg lo hi 1)) _ _ s;rw[KL lo hi n];show wpAny _ _ (pure (((jm n 0 lo:Nat):Int),(1:Int),jg ((jm n 0 lo:Nat):Int) ((jm n n hi:Nat):Int) 1)) _ _ s;rw[JO];exact aL h
theorem Qo(xs:@bL)(i k:Nat):((cR k).filterMap λ(m:Nat)=>xs[((i:Int)+(m:Int)*1).toNat]?).toArray=((xs.toList.drop i).take k).toArray:=by
 have e:(λ(m:Nat)=>xs[((i:Int)+(m:Int)*1).toNat]?)=λm=>xs[i+m]?:=by
  funext m;have:((i:Int)+(m:Int)*1).toNat=i+m:=@d
  rw[this]
 rw[e];have:=pick_run xs i k;rw[List.filterMap_map] at this;have e2:((λx=>xs[x]?)∘λx=>i+x)=λm=>xs[i+m]?:=rfl;rw[e2] at this;rw[this]
theorem xt{t sl:Addr}{items:@bL}{vl vu:Value}{lo hi:@aT}{Q:@J}(ht:IsTup s.heap t items)(hs:s.heap.IsSliceOf sl vl vu .none)(pl:IsPart vl lo)(pu:IsPart vu hi)
  (hw:¬ (@dq=0/\jm items.size items.size hi=items.size))
  (h:Q (@bf) {s with heap:=s.heap.push {cls:=@ae,data:=.seq ((items.toList.drop (@dq)).take (@dP)).toArray}})
  (hsz:items.size<=bw):wpAny @R A (Pp (.ref t) (.ref sl)) Q E s:=by
 have L9:sizeOk (.seq ((items.toList.drop (@dq)).take (@dP)).toArray):=by
  show((items.toList.drop (@dq)).take (@dP)).toArray.size<=bw;rw[aW];exact cm (cm (List.length_take_le' _ _) (by rw[cx,bS];exact Nat.sub_le _ _)) hsz
 have hj:jm items.size items.size hi<=items.size:=Xg _ _ @X hi;obtain⟨os,hos,hcs,hds⟩:=id hs;have hTs:s.TypeIs (.ref sl) "slice":=⟨os,hos,hcs⟩;unfold Pp
 try with_reducible refine fR ?_
 first |refine aw (aL ?_) |skip
 refine aw (wpAny_sequenceKey ht.typeIs @r ?_);refine aw (yk (name:=Gg "__getitem__") ht.typeIs ye
  (jn ye ht.typeIs entry_tuple_getitem ?_ (args_tuple_getitem _ _)))
 show wpAny _ _ (Builtin.Tuple.tupleItemsOf (.ref t) >>= _) _ _ s;refine aw (tupleItemsOf_ ht ?_);refine aw (K1 hTs ?_);rw[if_pos @r];refine aw (yw hs pl pu ?_);have Yx:¬ ((((@dq:Nat):Int) == 0&&(1:Int) == 1&&(@dP) == items.size)=true):=by
  intro q;rw[aP,aP] at q;have q1:((@dq:Nat):Int)=0:=eq_of_beq q.1.1;have q2:@dP=items.size:=eq_of_beq q.2;exact hw ⟨@d,@d⟩
 show wpAny _ _ (if(((@dq:Nat):Int) == 0&&(1:Int) == 1&&(@dP) == items.size)=true then _ else _) _ _ s;rw[if_neg Yx,Qo]
 first
  |exact aw (m:=jF _) (gm (aL ⟨_,rfl,aL h⟩) L9)
  |exact aw (m:=jF _) (gm (aw (aL (aL ⟨_,rfl,aL h⟩))) L9)
  |exact aw (aw (m:=jF _) (gm (aL (aL ⟨_,rfl,aL h⟩)) L9))
  |exact aw (aw (m:=jF _) (gm (aL ⟨_,rfl,aL h⟩) L9))
end
end HT
namespace L2
open PySem PySem.Spec PyProof.Rows
abbrev TO:=St->Hp->(@aT->@bs)->Prop
theorem intsAre_of:∀{us:@C},Vals @cV us->kF us ns:=by
 induction ns with
 |nil=>intro us r;rw[aK] at r;cases r;ext f
 | cons n ns ih=>
  intro us r;rw[aq] at r;cases r with
  |cons r1 r2=>
   obtain⟨t,e⟩:=r1;subst e;exact .cons n t (ih r2)
section
variable {X:Cx} {e:Expr} {te:TE} {lo hi:Option Expr} {tl th:TO} {pos p2:Pos}
def SlR(X:Cx)(r:V->@aT->@aT->Hp->VK->Prop):Prop :=
 ∀(pins:@v) (s:aE) (σ:St) (H:Hp) (x:V) (v vl vu:Value) (lo hi:@aT) (sl:Addr) (Q:VK),@m->@bx->s.heap.IsSliceOf sl vl vu .none->IsPart vl lo->IsPart vu hi->r x lo hi H Q ->
  ∃T id,typeLookup (.type T) "__getitem__"=pure (some (.builtin id))/\s.TypeIs v T/\wpAny @q X.A (Pp v (.ref sl)) (EP X pins σ Q) X.xe s
def Im(xs:@z)(lo hi:@aT):@z:=(xs.drop (@dI)).take (HT.jm xs.length xs.length hi-@dI)
theorem zM(xs)(lo hi):(Im xs lo hi).length<=xs.length:=by
 unfold Im;rw[cf,cx];lia
def adB(K:ay):V->@aT->@aT->Hp->VK->Prop:=λx lo hi H Q=>∃a xs,x=@ar/\Cy K H a xs /\
 ¬ (@dI=0/\HT.jm xs.length xs.length hi=xs.length)/\∀p,H p=none->Q (@V) (upd H p (.tup (Im xs lo hi)))
theorem Xd:SlR X (adB X.K):=by
 intro pins s σ H x v vl vu lo hi sl Q I rx hs pl pu h;obtain⟨a,xs,rfl,hx,hw,q⟩:=h;cases rx;obtain⟨bz,r,ht,hz⟩:=I.tuple hx;have hlen:bz.toArray.size=xs.length:=by rw[aW];exact r.length.symm
 refine⟨"tuple",_,PyProof.Rows.slot_tuple_getitem.lookup,ht.typeIs,?_⟩;refine HT.xt ht hs pl pu (by rw[hlen];exact hw) ?_ (by rw[hlen];exact hz);rw[hlen];refine⟨@bf,_,I.laid (t':=s.toks) (o:=.tup (Im xs lo hi)) (λb ob q=>aG _ q) @X ?_,rfl,q _ (@c9)⟩;exact⟨cm (zM xs lo hi) hz,_,(r.drop (@dI)).take (HT.jm xs.length xs.length hi-@dI),IsTup.new _ _⟩
def adD(K:ay):R2:=λx y H Q=>∃a b ns ms,x=@ar/\y=@aa/\Cy K H a @cV/\Cy K H b (ms.map V.int)/\Q (.bl (HT.lexLt ns ms)) H
theorem XT(hu:X.A.units<cLine):OM X (fU .Lt) (adD X.K):=by
 intro pins s σ H x y v u Q I rx ry h;obtain⟨a,b,ns,ms,rfl,rfl,ha,hb,q⟩:=h;cases rx;cases ry;obtain⟨bz,r1,p1,_⟩:=I.tuple ha;obtain⟨uQ,r2,p2,_⟩:=I.tuple hb;have i1:kF bz.toArray.toList ns:=intsAre_of r1;have i2:kF uQ.toArray.toList ms:=intsAre_of r2;exact HT.BR p1 p2 i1 i2 hu ⟨.bl (HT.lexLt ns ms),H,I,rfl,q⟩
def aai(K:ay):R2:=λx y H Q=>∃a b xs ys,x=@ar/\y=@aa/\Cy K H a xs/\Cy K H b ys/\xs≠[]/\xs.length+ys.length<=bw /\
 (ys=[]->Q @U H)/\(ys≠[]->∀p,H p=none->Q (@V) (upd H p (.tup (xs++ys))))
theorem Vals.Fg(r:@cK):us=[]↔xs=[]:=by
 cases r with
 |nil=>simp
 |cons _ _=>simp
theorem UT:OM X (kA .Add) (aai X.K):=by
 intro pins s σ H x y v u Q I rx ry h;obtain⟨a,b,xs,ys,rfl,rfl,ha,hb,hx,hz,q1,q2⟩:=h;cases rx;cases ry;obtain⟨bz,r1,p1,_⟩:=I.tuple ha;obtain⟨uQ,r2,p2,_⟩:=I.tuple hb;refine HT.VD p1 p2 (λz=>hx (r1.Fg.mp z)) (λz=>⟨@ar,H,I,rfl,q1 (r2.Fg.mp z)⟩) (λz=>?_) (by rw[<-r1.length,<-r2.length];exact hz);refine⟨@bf,_,I.laid (t':=s.toks) (o:=.tup (xs++ys)) (λb ob q=>aG _ q) @X ?_,rfl,q2 (λw=>z (r2.Fg.mpr w)) _ (@c9)⟩;exact⟨by rw[av];exact hz,_,r1.append r2,IsTup.new _ _⟩
end
noncomputable def D8(n:Nat)(i:Int):Option Nat:=if 0<=i then(if i<n then some i.toNat else none) else if -(n:Int)<=i then some (i+n).toNat else none
def nS{α:Type}(xs:@s)(i:Int):Option α:=(D8 xs.length i).bind λj=>xs[j]?
theorem L6(h:D8 n i=some j):seqIndex? i n=some j/\j<n/\-(n:Int)<=i/\i<n:=by
 unfold D8 at h;by_cases h0:0<=i
 .rw[if_pos h0] at h;by_cases h1:i<n
  .rw[if_pos h1] at h;have e:i.toNat=j:=bW h;exact⟨by rw[seqIndex_of h0 h1,e],@d,@d,h1⟩
  .rw[if_neg h1] at h;cases h
 .rw[if_neg h0] at h;by_cases h1:-(n:Int)<=i
  .rw[if_pos h1] at h;have e:(i+n).toNat=j:=bW h;exact⟨by rw[seqIndex_neg @c h1,e],@d,h1,@d⟩
  .rw[if_neg h1] at h;cases h
theorem MG(h:nS xs i=@Q):∃j,seqIndex? i xs.length=some j/\xs[j]?=@Q/\j<xs.length/\-(xs.length:Int)<=i/\i<xs.length:=by
 unfold nS at h;cases e:D8 xs.length i with
 |none=>rw[e] at h;cases h
 |some j=>
  rw[e] at h;obtain⟨h1,h2,h3,h4⟩:=L6 e;exact⟨j,h1,h,h2,h3,h4⟩
def VM(b:Expr):Prop:=∀o i,subscripted b false o i=operate [o,i] (Pp o i)
def IxR(X:Cx)(r:R2):Prop :=
 ∀(value slice:Expr) (pins:@v) (s:aE) (σ:St) (H:Hp) (x y:V) (v u:Value) (Q:VK),@m->@bx->RelV y u->r x y H Q ->
  subscripted slice false v u=operate [v,u] (Pp v u)->wpAny @q X.A (subscriptTail value slice v u) (EP X pins σ Q) X.xe s
def MtR(X:Cx)(id:String)(r:V->@z->Hp->VK->Prop):Prop :=
 ∀(pins:@v) (s:aE) (σ:St) (H:Hp) (x:V) (xs:@z) (v:Value) (us:@C) (Q:VK),@m->@bx->@cK->r x xs H Q ->
  wpAny @q X.A (call (.builtin id) (v::us)) (EP X pins σ Q) X.xe s
section
variable {X:Cx} {a b:Expr} {ta tb:TE} {pos:Pos}
def adF(K:ay):R2:=λx y H Q=>∃p xs i v,x=@V/\y=@M/\qZ K H p xs/\nS xs i=@Q/\Q v H
def adE(K:ay):R2:=λx y H Q=>∃p xs i v,x=@V/\y=@M/\Cy K H p xs/\nS xs i=@Q/\Q v H
theorem L5:IxR X (adF X.K):=by
 intro value slice pins s σ H x y v u Q I rx ry h hs;obtain⟨p,xs,i,z,rfl,rfl,hq,he,q⟩:=h;cases rx;obtain⟨t,rfl⟩:=ry;obtain⟨bz,r,pl,hz⟩:=I.list hq;obtain⟨j,h1,h2,h3,h4,h5⟩:=MG he;obtain⟨w,ew,vE⟩:=r.get h2;have hl:=r.length;have hn:=BW;have fin:EP X pins σ Q w s:=⟨z,H,I,vE,q⟩;by_cases h0:0<=i
 .have hj:i.toNat=j:=by
   rw[seqIndex_of h0 h5] at h1;exact bW h1
  exact item_listR pl.isList h0 @c (by rw[hj];simpa using ew) fin hs
 .have hj:(i+(bz.toArray.size:Int)).toNat=j:=by
   rw[seqIndex_neg @c h4] at h1;rw[aW,<-hl];exact bW h1
  exact subscriptTail_builtinR (x:=w) pl.isList.typeIs slot_list_getitem.lookup
   (wpAny_getItem_list_neg (Q:=λr s'=>r=w/\EP X pins σ Q r s') pl.isList @c (by rw[aW]<;>lia) @c (by rw[hj];simpa using ew) ⟨rfl,fin⟩) hs
theorem Yp:IxR X (adE X.K):=by
 intro value slice pins s σ H x y v u Q I rx ry h hs;obtain⟨p,xs,i,z,rfl,rfl,hq,he,q⟩:=h;cases rx;obtain⟨t,rfl⟩:=ry;obtain⟨bz,r,pl,hz⟩:=I.tuple hq;obtain⟨j,h1,h2,h3,h4,h5⟩:=MG he;obtain⟨w,ew,vE⟩:=r.get h2;have hl:=r.length;have hn:=BW;have fin:EP X pins σ Q w s:=⟨z,H,I,vE,q⟩;exact subscriptTail_builtinR (x:=w) pl.typeIs slot_tuple_getitem.lookup
  (getItem_tuple (j:=j) (Q:=λr s'=>r=w/\EP X pins σ Q r s') pl @c @c (by rw[aW,<-hl];exact h1) (by simpa using ew) ⟨rfl,fin⟩) hs
theorem J2 (bz:@C) (n j) (u):gC (·.setIfInBounds j u) {cls:=@Z,data:=.seq bz.toArray n}={cls:=@Z,data:=.seq (bz.set j u).toArray n}:=by
 simp[gC]
theorem Inv.lst(I:@m)(h:H p=some @bw):
  ∃(bz:@C) (n:Nat),Vals xs bz/\s.heap.get? p=some {cls:=@Z,data:=.seq bz.toArray n}/\xs.length<=bw:=by
 obtain⟨z,bz,n,r,e⟩:=I.dS p _ h;exact⟨bz,n,r,e,z⟩
theorem Inv.Yj{pins:@v}{σ:St}{H:Hp}{s:aE}{p:Addr}{xs ys:@z}{bz its':@C}{n n':Nat}{f:Obj->Obj}(I:@m)(h:H p=some @bw)
  (ho:s.heap.get? p=some {cls:=@Z,data:=.seq bz.toArray n}) (hf:f {cls:=@Z,data:=.seq bz.toArray n}={cls:=@Z,data:=.seq its'.toArray n'}) (r:Vals ys its') (hz:ys.length<=bw) (t:Nat):
  Inv X pins σ (upd H p (.lst ys)) {s with heap:=s.heap.update p f,toks:=t}:=by
 have e:(s.heap.update p f).get? p=some {cls:=@Z,data:=.seq its'.toArray n'}:=by
  rw[gk f ho (by rw[hf]<;>rfl),hf]
 refine I.write (x:=p) (e:=p) (by rw[h];trivial) (@I) (λb u hb q=>(cV _ _ (eB hb)).trans q) ⟨_,e⟩ ?_;exact⟨hz,its',n',r,e⟩
def aaf:V->V->V->Hp->(@bs)->Prop:=λo i v H Q=>∃p xs k j,o=@V/\i=.int k/\H p=some @bw/\D8 xs.length k=some j/\Q (upd H p (.lst (xs.set j v)))
theorem set_list:afs X aaf:=by
 intro pins s σ H o i v ov iv u Q I ro ri rv h;obtain⟨p,xs,k,j,rfl,rfl,hp,hj,q⟩:=h;cases ro;obtain⟨t,rfl⟩:=ri;obtain⟨bz,n,r,ho,hz⟩:=I.lst hp;obtain⟨h1,h2,h3,h4⟩:=L6 hj;have hl:=r.length;have hn:=BW;have I':Inv X pins σ (upd H p (.lst (xs.set j v))) {s with heap:=s.heap.update p (gC (·.setIfInBounds j u))} :=
  I.Yj hp ho (J2 bz n j u) (r.set rv j) (by rw[eE];exact hz) s.toks
 by_cases h0:0<=k
 .have hk:k.toNat=j:=by
   rw[seqIndex_of h0 h4] at h1;exact bW h1
  exact PySem.W.ki_setAt ho h0 @c (by rw[aW,<-hl];exact h4) (by rw[hk];exact⟨_,I',q⟩)
 .have hk:(k+(bz.toArray.size:Int)).toNat=j:=by
   rw[seqIndex_neg @c h3] at h1;rw[aW,<-hl];exact bW h1
  exact PySem.W.ki_setBack ho @c (by rw[aW,<-hl];exact h3) @c (by rw[hk];exact⟨_,I',q⟩)
theorem E1(lo hi)(n):(rR lo hi none n).1=((HT.jm n 0 lo:Nat):Int)/\(rR lo hi none n).2.1=((HT.jm n n hi:Nat):Int)/\(rR lo hi none n).2.2=1:=by
 refine⟨?_,?_,rfl⟩
 .cases lo with
  |none=>simp[rR,HT.jm]
  |some i=>
   simp only[rR,HT.jm,Option.getD_none,show(1:Int)>0 by decide,if_true];by_cases h:i<0
   .simp only[h,if_true]<;>lia
   .simp only[h,if_false]<;>lia
 .cases hi with
  |none=>simp[rR,HT.jm]
  |some i=>
   simp only[rR,HT.jm,Option.getD_none,show(1:Int)>0 by decide,if_true];by_cases h:i<0
   .simp only[h,if_true]<;>lia
   .simp only[h,if_false]<;>lia
theorem C9(bz:@C)(lo hi):slicePick bz.toArray lo hi none=((bz.drop (HT.jm bz.length 0 lo)).take (HT.jm bz.length bz.length hi-HT.jm bz.length 0 lo)).toArray:=by
 obtain⟨h1,h2,h3⟩:=E1 lo hi bz.toArray.size;unfold slicePick;rw[h1,h2,h3];simp only[sliceRange_one,pick_run,aW]<;>rfl
def adC(K:ay):V->@aT->@aT->Hp->VK->Prop:=λx lo hi H Q=>∃a xs,x=@ar/\qZ K H a xs/\∀p,H p=none->Q (@V) (upd H p (.lst (Im xs lo hi)))
theorem LA:SlR X (adC X.K):=by
 intro pins s σ H x v vl vu lo hi sl Q I rx hs pl pu h;obtain⟨a,xs,rfl,hx,q⟩:=h;cases rx;obtain⟨bz,r,ht,hz⟩:=I.list hx;have hlen:=r.length;refine⟨"list",_,slot_list_getitem.lookup,ht.isList.typeIs,?_⟩;refine wpAny_getItem_list_slice ht.isList hs pl pu .none @i ?_ (by rw[aW]<;>lia);rw[C9,<-hlen];refine⟨@bf,_,I.laid (t':=s.toks) (o:=.lst (Im xs lo hi)) (λb ob q=>aG _ q) @X ?_,rfl,q _ (@c9)⟩;exact⟨cm (zM xs lo hi) hz,_,0,(r.drop (@dI)).take (HT.jm xs.length xs.length hi-@dI),a8 _ rfl⟩
theorem FU:WL X (@Z) (λxs H Q=>∃p ys,xs=[@V]/\(qZ X.K H p ys\/Cy X.K H p ys)/\∀l,H l=none->Q (@aC) (upd H l (.lst ys))):=by
 intro pins s σ H xs us Q I r h;obtain⟨p,ys,rfl,hq,q⟩:=h;obtain⟨u,rfl,rx⟩:=vals1 r;cases rx;have fin:∀(bz:@C),Vals ys bz->ys.length<=bw->∀(h':Heap) (c':Nat),(∀b o',@au=some o'->@an=some o') ->
   h'.get? s.heap.objs.size=some {cls:=@Z,dict:=none,data:=.seq bz.toArray c',slots:=#[]}->EP X pins σ Q (@bf) @bP:=λbz r' hz h' c' kp e=>
  ⟨@bf,_,I.laid (t':=s.toks) kp @X (show iD X.prog X.w _ h' _ (.lst ys) from⟨hz,bz,c',r',e⟩),rfl,q _ (@c9)⟩
 rcases hq with hq |hq
 .obtain⟨bz,r',pl,hz⟩:=I.list hq;have hlen:=r'.length;obtain⟨o,ho,hc,n,hd⟩:=pl.isList;exact call_list_seq p (@I) ho hc hd (λh' c' kp e=>fin bz r' hz h' c' kp e) (by simp only[aW]<;>lia)
 .obtain⟨bz,r',pl,hz⟩:=I.tuple hq;have hlen:=r'.length;obtain⟨o,ho,hc,n,hd⟩:=pl;exact call_list_seq p (@a0) ho hc hd (λh' c' kp e=>fin bz r' hz h' c' kp e) (by simp only[aW]<;>lia)
def tyV(K:ay)(T:String)(x:V)(H:Hp):Prop:=match x with
 |.str _=>T="str"
 |.int _=>T="int"
 | .ref p=>(T="list"/\∃xs,qZ K H p xs)\/(T="tuple"/\∃o,K.lookup p=@j/\o.cls=@ae/\o.dict=none) \/
   (T="dict"/\((∃bB,H p=some (.dK bB))\/∃bB,H p=some (.dT bB)))\/(T="set"/\∃S n,H p=some (.set S n))
 |_=>False
theorem EO(I:@m)(r:@bx)(ty:tyV X.K T x H):
  s.TypeIs v T/\∀a,v=@ar->∃ob,@cR=some ob/\ob.dict=none:=by
 cases x with
 |str z=>
  obtain⟨t,rfl⟩:=r;cases(show T="str" from ty);exact⟨typeIs_str s z t,λ_ e=>nomatch e⟩
 |int i=>
  obtain⟨t,rfl⟩:=r;cases(show T="int" from ty);exact⟨typeIs_int s i t,λ_ e=>nomatch e⟩
 | ref p=>
  cases r;rcases ty with ⟨rfl,xs,hq⟩ |⟨rfl,o,hk,hc,hd⟩ |⟨rfl,hk⟩ |⟨rfl,S,n,hk⟩
  .obtain⟨bz,_,pl,_⟩:=I.list hq;refine⟨pl.isList.typeIs,λa e=>?_⟩;cases e;obtain⟨o,n,e,c,hd,_⟩:=pl;exact⟨o,e,hd⟩
  .refine⟨⟨o,I.D7 p o hk,hc⟩,λa e=>?_⟩;cases e;exact⟨o,I.D7 _ o hk,hd⟩
  .have z:∃o,s.heap.get? p=@j/\o.ExactDict:=by
    rcases hk with ⟨bB,hk⟩ |⟨bB,hk⟩
    .obtain⟨_,_,_,_,o,_,_,e,ex,_⟩:=I.dS p _ hk;exact⟨o,e,ex⟩
    .obtain⟨_,_,_,_,o,_,_,e,ex,_⟩:=I.dS p _ hk;exact⟨o,e,ex⟩
   obtain⟨o,e,ex⟩:=z;refine⟨⟨o,e,ex.1⟩,λa e2=>?_⟩;cases e2;exact⟨o,e,ex.2.1⟩
  .obtain⟨o,_,_,_,e,ex,_⟩:=I.dS p _ hk;refine⟨⟨o,e,ex.1⟩,λa e2=>?_⟩;cases e2;exact⟨o,e,ex.2.1⟩
 |_=>exact bZ ty
variable {o e:Expr} {es:@aX} {to:TE} {t:TA} {name:Str} {apos uR:Pos} {T id:String} {r:V->@z->Hp->VK->Prop}
/- xs.append(e),list.index on a aaI tuple .. are MtR facts of 06m -/
end
def MtM(X:Cx)(id:String)(r:V->@z->Hp->VK->Prop):Prop :=
 ∀(pins:@v) (s:aE) (σ:St) (H:Hp) (x:V) (xs:@z) (v:Value) (us:@C) (Q:VK),@m->@bx->@cK->r x xs H Q ->
  wpAny @q X.A (call (.builtin id) (v::us)) (EP X pins σ Q) X.xe s
theorem Vals.one:∀{x:V} {us:@C},Vals [x] us->∃u,us=[u]/\RelV x u:=by
 intro x us h;cases h with
 |cons r t=>cases t;exact⟨_,rfl,r⟩
section
variable {X:Cx} {pins:@v} {σ:St} {H:Hp} {s:aE} {l b:Addr} {xs ys zs:@z}
theorem Inv.aaQ{bz its':@C}{n:Nat}{f:@bL->@bL}{t':Nat}(I:@m)(hH:H l=some @bw)
  (e:@cZ=some {cls:=@Z,data:=.seq bz.toArray n}) (hf:f bz.toArray=its'.toArray) (hv:Vals ys its') (hz:ys.length<=bw):
  Inv X pins σ (upd H l (.lst ys)) {s with heap:=s.heap.update l (gC f),toks:=t'}:=by
 have q:=PySem.IsL.update e f;rw[hf] at q;refine I.write (x:=l) (e:=l) (by rw[hH];exact trivial) (@I) (λb' u hb hu=>(cV s.heap (gC f) (eB hb)).trans hu) ⟨_,q⟩ ?_;exact⟨hz,its',_,hv,q⟩
theorem Inv.ad1(I:@m)(hv:Vals ys bz)(hz:ys.length<=bw):
  Inv X pins σ (upd H s.heap.objs.size (.lst ys)) {s with heap:=s.heap.push {cls:=@Z,data:=.seq bz.toArray},toks:=t'} :=
 I.laid (λ_ _ q=>aG _ q) @X ⟨hz,bz,0,hv,a8 _ rfl⟩
theorem Inv.aaP (I:@m) (hH:H l=some @bw):xs.length<=bw/\∃(bz:@C) (n:Nat),Vals xs bz/\xs.length=bz.length/\@cZ=some {cls:=@Z,data:=.seq bz.toArray n}:=by
 obtain⟨z,bz,n,r,e⟩:=I.dS l _ hH;exact⟨z,bz,n,r,r.length,e⟩
theorem QI(h:n<=bw):jL n=false:=by
 unfold jL;exact @dy
end
section
variable {X:Cx}
def Ud:V->@z->Hp->VK->Prop:=λx vs H Q=>∃l xs y,x=@aC/\vs=[y]/\H l=some @bw/\xs.length<bw/\Q .cY (upd H l (.lst (xs++[y])))
theorem DZ:MtM X "list.append" Ud:=by
 intro pins s σ H x vs v us Q I rx rv h;obtain⟨l,xs,y,rfl,rfl,hH,hz,q⟩:=h;cases rx;obtain⟨u,rfl,ru⟩:=rv.one;obtain⟨z,bz,n,r,hl,e⟩:=I.aaP hH;refine Jd F.slot_list_append ⟨_,e,rfl⟩ F.entry_list_append (F.args_list_append_2 _ _) (PySem.list_append l bz.toArray n u (by rw[aW];lia)) ⟨e,?_⟩;refine⟨.cY,_,I.aaQ (its':=bz++[u]) hH e @i (r.append (.cons ru .nil)) ?_,rfl,q⟩;rw[av,cH];lia
end
section
variable {κ:Type} [@cD]
noncomputable def mj(bB:List (κ×V))(k:κ):Option V:=(bB.find? λkv=>decide (kv.1=k)).map (·.2)
noncomputable def putK(bB:List (κ×V))(k:κ)(v:V):List (κ×V) :=
 if(bB.any λkv=>decide (kv.1=k))=true then bB.map (λkv=>if kv.1=k then(kv.1,v) else kv) else bB++[(k,v)]
theorem sy{k:κ}(e:p.1=k):mj (p::r) k=some p.2:=by simp[mj,eF,e]
theorem sC{k:κ}(e:¬ p.1=k):mj (p::r) k=mj r k:=by simp[mj,eF,e]
theorem GL(k):∀bB:List (κ×V),(bB.any λkv=>decide (kv.1=k))=(mj bB k).isSome
 |[]=>rfl
 |p::r=>by
  rw[oW];by_cases e:p.1=k
  .simp only[sy e,decide_eq_true e,Bool.true_or,Option.isSome_some]
  .rw[sC e,decide_eq_false e,CP];exact GL k r
theorem zy(bB)(k:κ)(v):(putK bB k v).length<=bB.length+1:=by
 unfold putK;split
 .rw[ag];lia
 .rw[av,af,ao];lia
theorem rE.pP(r:rE o u):o.isSome=u.isSome:=by
 cases o with
 |none=>cases u with
  |none=>rfl
  |some _=>exact(show False from r).elim
 |some _=>cases u with
  |none=>exact(show False from r).elim
  |some _=>rfl
theorem rE.getD(r:rE o u)(rd:RelV d d'):RelV (o.getD d) (u.getD d'):=by
 cases o with
 |none=>cases u with
  |none=>exact rd
  |some _=>exact(show False from r).elim
 |some _=>cases u with
  |none=>exact(show False from r).elim
  |some _=>exact r
theorem KV.val(r:KV bB vs)(k:κ):rE (mj bB k) (Pm vs k):=by
 unfold KV at r;induction r with
 |nil=>exact iY
 | @cons p q ps qs h t ih=>
  obtain⟨h1,h2⟩:=h;by_cases e:p.1=k
  .have e':q.1=k:=h1.symm.trans e;have b:Pm (q::qs) k=some q.2:=by simp[Pm,eF,e']
   rw[sy e,b];exact h2
  .have e':¬ q.1=k:=λz=>e (h1.trans z);have b:Pm (q::qs) k=Pm qs k:=by simp[Pm,eF,e']
   rw[sC e,b];exact ih
theorem KV.any(r:KV bB vs)(k:κ):(bB.any λkv=>decide (kv.1=k))=vs.any λkv=>decide (kv.1=k):=by
 unfold KV at r;induction r with
 |nil=>rfl
 |cons h t ih=>rw[oW,oW,ih,h.1]
theorem KV.P8(r:KV bB vs)(k:κ)(ry:RelV y u):
  KV (bB.map λkv=>if kv.1=k then(kv.1,y) else kv) (vs.map λkv=>if kv.1=k then(kv.1,u) else kv):=by
 unfold KV at r ⊢;induction r with
 |nil=>ext f
 |@cons p q ps qs h t ih=>
  rw[aq,aq];refine .cons ?_ ih;obtain⟨h1,h2⟩:=h;by_cases e:p.1=k
  .rw[if_pos e,if_pos (h1.symm.trans e)];exact⟨h1,ry⟩
  .rw[if_neg e,if_neg (λz=>e (h1.trans z))];exact⟨h1,h2⟩
theorem KV.put(r:KV bB vs)(k:κ)(ry:RelV y u):KV (putK bB k y) (stored vs k u):=by
 unfold putK stored;rw[r.any k];by_cases e:(vs.any λkv=>decide (kv.1=k))=true
 .rw[if_pos e,if_pos e];exact r.P8 k ry
 .rw[if_neg e,if_neg e];exact Paired.snoc r ⟨rfl,ry⟩
theorem KV.length{vs:List (κ×Value)}(r:KV bB vs):bB.length=vs.length:=Az r
end
theorem D6(r:RelV (kV k) u):(f9 P w).is k u=true:=by
 cases k with
 |inl i=>obtain⟨t,e⟩:=(show ∃t,u=rX i t from r);subst e;exact Hw P w i t
 |inr x=>obtain⟨t,e⟩:=(show ∃t,u=Gz x t from r);subst e;exact Hv P w x t
theorem D9:∀{ks:@ac} {us:@C},Vals (ks.map kV) us->ItemsAre (f9 P w) ks us
 |[],_,r=>by rw[aK] at r;cases r;ext f
 |k::ks,_,r=>by
  rw[aq] at r;cases r with
  |cons h t=>exact .cons (D6 h) (D9 t)
abbrev KT(H:Hp):@co->List (@ac×Addr×Value)->Prop:=Paired λp q=>p.1=q.1/\H q.2.1=some (.tup (p.1.map kV))/\RelV p.2 q.2.2
theorem KT.val(r:KT H bB xs)(k):rE (mj bB k) ((atKey xs k).map (·.2)):=by
 induction r with
 |nil=>exact iY
 | @cons p q ps qs h t ih=>
  obtain⟨h1,_,h2⟩:=h;by_cases e:p.1=k
  .have e':q.1=k:=h1.symm.trans e;have b:atKey (q::qs) k=some q.2:=by simp[atKey,eF,e']
   rw[sy e,b];exact h2
  .have e':¬ q.1=k:=λz=>e (h1.trans z);have b:atKey (q::qs) k=atKey qs k:=by simp[atKey,eF,e']
   rw[sC e,b];exact ih
theorem KT.P8(r:KT H bB xs)(k)(ry:RelV y u):
  KT H (bB.map λkv=>if kv.1=k then(kv.1,y) else kv) (xs.map (putAt k u)):=by
 induction r with
 |nil=>ext f
 |@cons p q ps qs h t ih=>
  rw[aq,aq];refine .cons ?_ ih;obtain⟨h1,h2,h3⟩:=h;unfold putAt;by_cases e:p.1=k
  .rw[if_pos e,if_pos (h1.symm.trans e)];exact⟨h1,h2,ry⟩
  .rw[if_neg e,if_neg (λz=>e (h1.trans z))];exact⟨h1,h2,h3⟩
theorem KT.put(r:KT H bB xs)(k)(hb:H b=some (.tup (k.map kV)))(ry:RelV y u):
  KT H (putK bB k y) (storedH xs k b u):=by
 have e:(bB.any λkv=>decide (kv.1=k))=(atKey xs k).isSome:=by
  rw[GL,(r.val k).pP,CL]
 unfold putK storedH;rw[e];by_cases q:(atKey xs k).isSome=true
 .rw[if_pos q,if_pos q];exact r.P8 k ry
 .rw[if_neg q,if_neg q];exact Paired.snoc r ⟨rfl,hb,ry⟩
theorem KT.keeps(r:KT H bB xs)(ht:∀b ys,H b=some (.tup ys)->H' b=some (.tup ys)):KT H' bB xs :=
 Paired.aaJ r λ_ _ z=>⟨z.1,ht _ _ z.2.1,z.2.2⟩
section
variable {P:bR} {w:World} {H:Hp} {h:Heap} {a:Addr}
theorem V4(ok:vT P w H h)(e:Rd H a u):iD P w H h a u:=e.ok ok
theorem vi(ok:vT P w H h)(e:Rd H a (.dK bB)):bB.length<=bw/\(a == jC)=false/\∃vs,KV bB vs/\h.DictOf (f9 P w) a vs :=
 show iD P w H h a (.dK bB) from V4 ok e
theorem Ml(ok:vT P w H h)(e:H a=some (.dK bB)):bB.length<=bw/\(a == jC)=false/\∃vs,KV bB vs/\h.DictOf (f9 P w) a vs:=vi ok (.inl e)
theorem tj(ok:vT P w H h)(e:H a=some (.tup (ks.map kV))):(Bg (f9 P w)).is h ks a:=by
 obtain⟨_,bz,r,o,h1,h2,n,h3⟩:=(show iD P w H h a (.tup (ks.map kV)) from ok a _ e);exact⟨o,bz.toArray,n,h1,h2,h3,by simpa using D9 r⟩
theorem zL(ok:vT P w H h)(e:Rd H a (.dT bB)):bB.length<=bw/\(a == jC)=false /\
  ∃xs,KT H bB xs/\h.DictOfH (Bg (f9 P w)) a xs:=by
 obtain⟨z,y,xs,r,o,es,ep,h1,h2,h3,h4,h5⟩:=(show iD P w H h a (.dT bB) from V4 ok e);refine⟨z,y,xs,r,o,es,ep,h1,h2,h3,h4,λx hx=>?_,h5⟩;have all:∀{l:@co} {m:List (@ac×Addr×Value)},KT H l m->∀x∈m,(Bg (f9 P w)).is h x.1 x.2.1:=by
  intro l m q;induction q with
  |nil=>intro x hx;exact nomatch hx
  |@cons p q ps qs hq t ih=>
   intro x hx;rcases List.mem_cons.mp hx with e |hx
   .subst e;exact tj ok (by rw[<-hq.1];exact hq.2.1)
   .exact ih x hx
 exact all r x hx
theorem Ww(ok:vT P w H h)(e:H a=some (.dT bB)):bB.length<=bw/\(a == jC)=false /\
  ∃xs,KT H bB xs/\h.DictOfH (Bg (f9 P w)) a xs:=zL ok (.inl e)
end
def Ax(H:Hp)(a:Addr)(y:V)(r:Option V):Prop :=
 (∃bB k,Rd H a (.dK bB)/\y=kV k/\r=mj bB k)\/∃bB k b,Rd H a (.dT bB)/\y=@aa/\H b=some (.tup (k.map kV))/\r=mj bB k
def OS(H:Hp)(a:Addr)(y v:V)(H':Hp):Prop :=
 (∃bB k,H a=some (.dK bB)/\y=kV k/\bB.length<bw/\H'=upd H a (.dK (putK bB k v))) \/
 ∃bB k b,H a=some (.dT bB)/\y=@aa/\H b=some (.tup (k.map kV))/\bB.length<bw/\H'=upd H a (.dT (putK bB k v))
theorem Ax.k{H:Hp}{a:Addr}{bB:@cn}{k:Key}(e:H a=some (.dK bB)):Ax H a (kV k) (mj bB k):=.inl ⟨bB,k,.inl e,rfl,rfl⟩
theorem Ax.t{H:Hp}{a b:Addr}{bB:@co}{k:@ac}(e:H a=some (.dT bB))(eb:H b=some (.tup (k.map kV))):Ax H a (@aa) (mj bB k):=.inr ⟨bB,k,b,.inl e,rfl,eb,rfl⟩
theorem OS.k{H:Hp}{a:Addr}{bB:@cn}{k:Key}{v:V}(e:H a=some (.dK bB))(hl:bB.length<bw):OS H a (kV k) v (upd H a (.dK (putK bB k v))):=.inl ⟨bB,k,e,rfl,hl,rfl⟩
theorem OS.t{H:Hp}{a b:Addr}{bB:@co}{k:@ac}{v:V}(e:H a=some (.dT bB))(eb:H b=some (.tup (k.map kV)))(hl:bB.length<bw):
  OS H a (@aa) v (upd H a (.dT (putK bB k v))):=.inr ⟨bB,k,b,e,rfl,eb,hl,rfl⟩
section
variable {X:Cx} {pins:@v} {σ:St} {H:Hp} {s:aE} {a:Addr} {y v:V} {u r:Value} {o:Option V} {A:dD} {E:@J}
theorem Inv.big(I:@m):jC<s.heap.objs.size:=by
 have h:bJ<s.heap.objs.size:=(I.mod.glob.keeps I.bk).lt;exact Nat.lt_trans @r h
theorem yR(hu:A.units+1<cLine)(I:@m)(g:Ax H a y (@Q))(ry:RelV y u)(h:∀w' s',Inv X pins σ H s'->RelV v w'->Q w' s'):
  wpAny @q A (Pp @U u) Q E s:=by
 rcases g with ⟨bB,k,e,ey,l⟩ |⟨bB,k,b,e,ey,eb,l⟩
 .subst ey;obtain⟨z,hd,vs,rel,dd⟩:=vi I.dS e;obtain⟨w',hw,vE⟩:=rE.some_of (v:=v) (o:=Pm vs k) (by rw[l];exact rel.val k);exact wpAny_getItem_of (D6 ry) dd.mapOf hw (h w' _ (@aF) vE)
 .subst ey;cases(show u=fe b from ry);obtain⟨z,hd,xs,rel,dd⟩:=zL I.dS e;obtain⟨w',hw,vE⟩:=rE.some_of (v:=v) (o:=(atKey xs k).map (·.2)) (by rw[l];exact rel.val k);obtain⟨p,hp,nX⟩:=Option.map_eq_some_iff.mp hw;refine wpAny_getItem_heap (mY hu) (tj I.dS eb) dd hp ?_;rw[nX];exact h w' _ (@aF) vE
theorem abI{Q:@J}(hu:A.units+1<cLine)(I:@m)(g:Ax H a y o)(ry:RelV y u)(h:∀s',Inv X pins σ H s'->Q (.bool o.isSome) s'):
  wpAny @q A (fU .In u @U) Q E s:=by
 rcases g with ⟨bB,k,e,ey,l⟩ |⟨bB,k,b,e,ey,eb,l⟩
 .subst ey;obtain⟨z,hd,vs,rel,dd⟩:=vi I.dS e;refine wpAny_in_of (D6 ry) hd dd.mapOf ?_;rw[<-(rel.val k).pP,<-l];exact h _ (@aF)
 .subst ey;cases(show u=fe b from ry);obtain⟨z,hd,xs,rel,dd⟩:=zL I.dS e;refine wpAny_in_heap (mY hu) (tj I.dS eb) hd dd ?_;have q:=(rel.val k).pP;rw[CL] at q;rw[<-q,<-l];exact h _ (@aF)
theorem Mr{Q:@J}(hu:A.units+1<cLine)(I:@m)(g:Ax H a y o)(ry:RelV y u)(h:∀s',Inv X pins σ H s'->Q (.bool (!o.isSome)) s'):
  wpAny @q A (fU .NotIn u @U) Q E s:=by
 rcases g with ⟨bB,k,e,ey,l⟩ |⟨bB,k,b,e,ey,eb,l⟩
 .subst ey;obtain⟨z,hd,vs,rel,dd⟩:=vi I.dS e;refine wpAny_notIn_of (D6 ry) hd dd.mapOf ?_;rw[<-(rel.val k).pP,<-l];exact h _ (@aF)
 .subst ey;cases(show u=fe b from ry);obtain⟨z,hd,xs,rel,dd⟩:=zL I.dS e;refine wpAny_notIn_heap (mY hu) (tj I.dS eb) hd dd ?_;have q:=(rel.val k).pP;rw[CL] at q;rw[<-q,<-l];exact h _ (@aF)
theorem Mq(I:@m)(mu:Mut (H a))(hs:rj a s.heap h')(he:∃q,h'.get? a=some q)(new:iD X.prog X.w (upd H a ob) h' a ob):
  Inv X pins σ (upd H a ob) {s with heap:=h',toks:=t'} :=
 I.write (x:=a) (e:=a) mu (@I) (λb q hb z=>(hs.2 b hb).trans z) he new
theorem YY(z:bB.length<=bw)(hd:(a == jC)=false)(rel:KV bB vs)(dd:h'.DictOf (f9 P w) a vs):
  iD P w H' h' a (.dK bB):=⟨z,hd,vs,rel,dd⟩
theorem Ow{H':Hp}{Q:Unit->@ag}(hu:A.units+1<cLine)(I:@m)(g:OS H a y v H')(ry:RelV y u)(rv:RelV v r)(h:∀s',@de->Q () s'):
  wpAny @q A (setItem @U u r) Q E s:=by
 rcases g with ⟨bB,k,e,ey,l,eH⟩ |⟨bB,k,b,e,ey,eb,l,eH⟩
 .subst ey eH;obtain⟨z,hd,vs,rel,dd⟩:=Ml I.dS e;have hz:vs.length<=bw:=by rw[<-rel.length];exact z
  have hl:(putK bB k v).length<=bw:=by have:=zy bB k v;lia
  refine wpAny_setItem_pairs (hsz:=hz) (D6 ry) dd λh' dd' hs=>h _ ?_;have he:∃q,h'.get? a=some q:=let ⟨q,_,_,hq,_⟩:=dd';⟨q,hq⟩
  exact Mq I (by rw[e];exact iY) hs he (YY hl hd (rel.put k rv) dd')
 .subst ey eH;cases(show u=fe b from ry);obtain⟨z,hd,xs,rel,dd⟩:=Ww I.dS e;have hz:xs.length<=bw:=by rw[<-Az rel];exact z
  have hl:(putK bB k v).length<=bw:=by have:=zy bB k v;lia
  refine wpAny_setItem_heap (hsz:=hz) (mY hu) (tj I.dS eb) dd λh' dd' hs=>h _ ?_;obtain⟨q,es,ep,hq,h2,h3,h4,_,h5⟩:=dd';refine Mq I (by rw[e];exact iY) hs ⟨q,hq⟩ ⟨hl,hd,_,(rel.put k eb rv).keeps λc ys ec=>?_,q,es,ep,hq,h2,h3,h4,h5⟩;rw[ck (aaD ec e @cy)];exact ec
end
section
variable {X:Cx} {pins:@v} {σ:St} {H:Hp} {s:aE} {a:Addr} {bB:@cn} {k:Key} {u:Value} {A:dD} {E:@J}
theorem Wy {Q:@J} (I:@m) (e:Rd H a (.dK bB)) (h:∀t s',Inv X pins σ H s'->Q (.int bB.length t) s'):wpAny @q A (call (.builtin "len") [@ar]) Q E s:=by
 obtain⟨z,hd,vs,rel,dd⟩:=vi I.dS e;refine call_len_dict hd dd (by rw[<-rel.length];rw[cN] at z;lia) ?_;rw[<-rel.length];exact h _ _ (@aF)
theorem Vw{Q:Bool->@ag}(I:@m)(e:Rd H a (.dK bB))(h:∀s',Inv X pins σ H s'->Q (!bB.isEmpty) s'):wpAny @q A (truthy @U) Q E s:=by
 obtain⟨z,hd,vs,rel,dd⟩:=vi I.dS e;refine IZ hd dd (by rw[<-rel.length];rw[cN] at z;lia) ?_;have q:bB.isEmpty=vs.isEmpty:=by cases rel<;>rfl
 rw[<-q];exact h _ (@aF)
end
theorem tM         (I:@m) (g:Ax H a y o):s.TypeIs @U "dict":=by
 rcases g with ⟨bB,k,e,_,_⟩ |⟨bB,k,b,e,_,_,_⟩
 .obtain⟨_,_,vs,_,dd⟩:=vi I.dS e;exact dd.typeIs
 .obtain⟨_,_,xs,_,dd⟩:=zL I.dS e;exact dd.typeIs
theorem R7    (h:Heap) (hb:jC<h.objs.size):iD P w H (h.push {cls:=.type "dict",data:=.dict #[]}) h.objs.size (.dK []) :=
 ⟨b9 _,beq_eq_false_iff_ne.mpr (eB (br hb)),[],.nil,Heap.DictOf.new h⟩
def W0:TE:=λ_ H Q=>∀p,H p=none->Q (@V) (upd H p (.dK []))
section
variable {X:Cx} {pos:Pos}
theorem Qt:PE X (.Dict [] [] pos) W0:=λpins s σ H Q I h=>
 wpAny_Dict_empty ⟨@bf,_,I.laid (a:=s.heap.objs.size) (o:=.dK []) (t':=s.toks) (λ_ _ q=>aG _ q) @X (R7 s.heap I.big),rfl,h _ (@c9)⟩
end
def IsD(H:Hp)(a:Addr):Prop:=(∃bB,Rd H a (.dK bB))\/∃bB,Rd H a (.dT bB)
theorem Q8(I:@m)(d:IsD H a):
  s.TypeIs @U "dict"/\(∀b,fe a=@aa->∃ob,@au=some ob/\ob.dict=none)/\(a == jC)=false:=by
 rcases d with ⟨bB,e⟩ |⟨bB,e⟩
 .obtain⟨_,hd,vs,_,dd⟩:=vi I.dS e;refine⟨dd.typeIs,λb q=>?_,hd⟩;cases q;obtain⟨ob,_,_,h1,h2,_⟩:=dd;exact⟨ob,h1,h2.2.1⟩
 .obtain⟨_,hd,xs,_,dd⟩:=zL I.dS e;refine⟨dd.typeIs,λb q=>?_,hd⟩;cases q;obtain⟨ob,_,_,h1,h2,_⟩:=dd;exact⟨ob,h1,h2.2.1⟩
section
variable {X:Cx} {pins:@v} {σ:St} {H:Hp} {s:aE} {a:Addr} {y d:V} {u r:Value} {o:Option V} {A:dD} {E:@J}
theorem YZ(hu:A.units+1<cLine)(I:@m)(g:Ax H a y o)(ry:RelV y u)(rd:RelV d r)(h:∀w' s',Inv X pins σ H s'->RelV (o.getD d) w'->Q w' s'):
  wpAny @q A (call (.builtin "dict.get") [@ar,u,r]) Q E s:=by
 rcases g with ⟨bB,k,e,ey,l⟩ |⟨bB,k,b,e,ey,eb,l⟩
 .subst ey;obtain⟨z,hd,vs,rel,dd⟩:=vi I.dS e;refine call_meetsIn vo dd.typeIs Lc (Jh _ _ _) (meets_dict_get_default (f9 X.prog X.w) a (D6 ry) hd r) ⟨_,dd.mapOf,h _ _ (@aF) ?_⟩;rw[l];exact(rel.val k).getD rd
 .subst ey;cases(show u=fe b from ry);obtain⟨z,hd,xs,rel,dd⟩:=zL I.dS e;refine call_meetsIn vo dd.typeIs Lc (Jh _ _ _) (meetsH_dict_get_default (Bg (f9 X.prog X.w)) a b hd r) ⟨mY hu,k,xs,tj I.dS eb,dd,h _ _ (@aF) ?_⟩;rw[l];exact(rel.val k).getD rd
end
end L2
namespace Att
open PySem PySem.W PySem.Calls PyProof.Rows
theorem zY:∀(ns:@u) (vs:@C),WellAll P h vs (ns.map WData.int)->kF vs ns:=by
 intro ns;induction ns with
 |nil=>
  intro vs w;rw[aK] at w;cases w;ext f
 | cons n ns ih=>
  intro vs w;rw[aq] at w;cases w with
  |cons a b=>
   cases a;exact .cons _ _ (ih _ b)
theorem Nf{l:OpenLaw}(hn:l.most=some n)
  (Vf:l.row.toRowW.claim.pre args=true) (hwl:WellAll P h vals args):
  ∃a vs ns,vals=[fe a]/\args=[WData.list (ns.map WData.int)]/\@aO=some {cls:=@Z,data:=.seq vs.toArray}/\kF vs ns/\ns.length<=n:=by
 have hsh:WShape.hasAll [] args [.list .int]=true:=(pre_splitW Vf).1;have hc:l.pre.holds [] {args:=args}=true:=(pre_splitW Vf).2;obtain⟨d,r,rfl,h1,h2⟩:=hasAllW_cons hsh;obtain rfl:=hasAllW_nil h2;obtain⟨xs,rfl,h3⟩:=hasW_list h1;obtain⟨ns,rfl⟩:=items_int h3;have hlen:ns.length<=n:=by
  unfold OpenLaw.pre at hc;have h4:(WTm.not (.lt (.lit (.int (n:Int))) (.len (.arg 0)))).holds [] {args:=[.list (ns.map .int)]}=true:=by
   have h4:=(holds_andW hc).1;rw[hn] at h4;exact h4
  have h5:=condW_of h4 (w_not (w_lt w_lit (w_len_list (w_arg rfl))));rw[ag] at h5;refine Nat.le_of_not_lt λq=>?_;have q':(n:Int)<((ns.length:Nat):Int):=@d
  first
   |(rw[decide_eq_true q'] at h5;exact absurd h5 @r)
   |(simp at h5;lia)
 cases hwl with
 |cons w1 w2=>
  cases w2;cases w1 with
  |list ho xr=>exact⟨_,_,ns,rfl,rfl,ho,zY ns _ xr,hlen⟩
theorem Nx(l:OpenLaw)(args):l.row.toRowW.claim.post args (.bool true) args=true :=
 postW_of (r:=l.row.toRowW) (X:=(true == true))
  (show WShape.has [] (.bool true) .bool=true by first |rfl |decide |simp[WShape.has,WShape.arms,WShape.armsAll])
  (show(WTm.eq .res (.lit (.bool true))).value [] {args:=args,res:=some (.bool true),after:=args}=some (.bool (true == true)) from w_eq_bool (w_res rfl) w_lit) rfl
theorem Iv{l:OpenLaw}{n:Nat}{q:bR}{loose:@D}{XP:(@aU)->@bW}{YP:World->@bW}{d:DefRec}
  (hn:l.most=some n) (hdf:d.params.defaults=[])
  (call:∀(w:World) (nV fP:aE) (mg mb:@aU) (fa:Addr) (o:Obj) (pm cd doc:Value) (a:Addr) (vs:@C) (ns:@u),
   Ground q loose [] XP w nV mg mb fP.heap->YP w fP.heap ->
   fP.heap.get? fa=@j->o.data=.func (docDef d.name d.params d.body d.scope pm cd doc)->fP.heap.CodeRec cd d.name->mg d.name=some (.ref fa) ->
   fP.heap.get? a=some {cls:=@Z,data:=.seq vs.toArray}->kF vs ns->ns.length<=n->fP.gens=#[] ->
   rW (model l.prog w) Jc (.call (.ref fa) ⟨[@ar],[]⟩) (λr s'=>r=.ok (.ret (.bool true))/\OldK fP.heap s'.heap/\s'.os=fP.os/\EL s'.gens) fP):
  WalkO q loose XP YP l.row.toRowW d [] (λf vs=>K8 f vs):=by
 intro w nV fP mg mb G Y fa o pm cd doc dV kV ho hd Pe hD hmg hg args vals as Vf aiY hrd hwl hlo;obtain rfl:dV=.none:=Dflts.none hD hdf;obtain rfl:kV=.none:=Dflts.noKw hD;obtain⟨a,vs,ns,rfl,rfl,Yw,hints,hlen⟩:=Nf hn Vf hwl;refine enter_call (uU (call w nV fP mg mb fa o pm cd doc a vs ns G Y ho (fd_plain hd) Pe hmg Yw hints hlen hg) λr s' hq=>?_);obtain⟨rfl,h2,h3,h4⟩:=hq;exact⟨.inl ⟨.bool true,.bool true,[],rfl,λ_=>rfl,.bool true,Nx l _,λ_=>⟨List.Pairwise.nil,λ_ hm=>(nomatch hm)⟩⟩,h2,h3,h4⟩
end Att
namespace L2
open PySem PySem.Spec PyProof.Rows
theorem DL:∀{vs:@C} {ns:@u},kF vs ns->Vals @cV vs
 |_,_,.nil=>.nil
 |_,_,.cons n t h=>.cons ⟨t,rfl⟩ (DL h)
def VP(H:Hp):Prop:=∀b,@bz\/∃o xs,H b=some (.nY o @bw)
theorem QZ{K:ay}
  (KX:K.In fP.heap) (Fs:fP.heap.Ns bJ mg) (hb:fP.heap.Ns builtinsNs mb) (hbb:∀x:Str,x≠"__name__"->mb x=c8 x) (aeJ:fP.heap.NoLimit) (hg:fP.gens=#[])
  (ha:fP.heap.get? a=some {cls:=@Z,data:=.seq vs.toArray}) (hi:kF vs ns) (hl:ns.length<=bw) (hr:jj k Jc)
  (F:∀base:Heap,K.In base->base.Ns bJ mg->rG P w K mg base CX k fa fd [x] sp) (abl:∀(s:aE) (u:Value),BindsTo s fd ⟨[u],[]⟩ [(x,u)])
  (Rh:∀H:Hp,VP H->qZ K H a @cV->sp [@ar] H (λv _=>v=.bl true) λ_ _ _=>False)
  (hCX:∀H e s',CX [] H fP (λ_ _ _=>False) e s'->False):
  rW (model P w) Jc (.call (.ref fa) ⟨[@ar],[]⟩) (λr s'=>r=.ok (.ret (.bool true))/\OldK fP.heap s'.heap/\s'.os=fP.os/\EL s'.gens) fP:=by
 have rv:=DL hi;have ad2:=hi.length;have core:∀H:Hp,VP H->qZ K H a @cV->vT P w H fP.heap->(∀b,H b≠none->b=a)->(H a≠none->K.lookup a=none) ->
   rW (model P w) Jc (.call (.ref fa) ⟨[@ar],[]⟩) (λr s'=>r=.ok (.ret (.bool true))/\OldK fP.heap s'.heap/\s'.os=fP.os/\EL s'.gens) fP:=by
  intro H hO hS dS hA hK;have MF:∀{b:Addr} {o:Obj},fP.heap.get? b=@j->@bz->(Ft fP.heap H).get? b=@j:=λe n=>Ru e n;have noA:∀{b:Addr} {o:Obj} {es:Array DictEntry} {ep:Nat},fP.heap.get? b=@j->o.data=.dict es ep->@bz:=λ{b o es ep} e d=>by
   cases q:H b with
   |none=>rfl
   |some u=>
    have e':b=a:=hA b (by rw[q];simp);subst e';rw[ha] at e;cases e;have d':Data.seq vs.toArray _=Data.dict es ep:=d;cases d'
  have nsK:∀{b:Addr} {m:@aU},fP.heap.Ns b m->(Ft fP.heap H).Ns b m:=λ{b m} ⟨o,es,ep,e,d,r⟩=>⟨o,es,ep,MF e (noA e d),d,r⟩;have hKb:K.In (Ft fP.heap H):=λb o e=>MF (KX b o e) (by
   cases q:H b with
   |none=>rfl
   |some u=>
    have e':b=a:=hA b (by rw[q];simp);subst e';rw[hK (by rw[q];simp)] at e;cases e)
  have hM:Mod K mg (Ft fP.heap H):=⟨hKb,nsK Fs,⟨mb,nsK hb,hbb⟩,let ⟨mc,h1,h2⟩:=aeJ;⟨mc,nsK h1,h2⟩⟩;have e0:KZ P w K mg (Ft fP.heap H) Jc [] fP H:=⟨rfl,hM,λb o e=>U0 e,To (Of _ _),trivial,λb hb=>absurd (show b∈([]:@aI) from hb) @i,dS,.of_eq hg⟩;refine uU ((F _ hKb (nsK Fs)).run Jc [] fP H ⟨[@ar],[]⟩ [@ar] [@ar] _ _ hr e0 (abl fP @U) (.cons rfl .nil) (Rh H hO hS)) λr s' h=>?_;cases r with
  |error e=>exact(hCX H e s' h).elim
  | ok fl=>
   cases fl with
   |next=>exact bZ h
   |brk=>exact bZ h
   |cont=>exact bZ h
   | ret u=>
    obtain⟨v,H',os,bare,un,aeA,r',q⟩:=h;have q':v=.bl true:=q;subst q';obtain rfl:u=yc true:=r';refine⟨rfl,OldK.of_keep λb o e=>?_,os,bare⟩;cases q:H b with
    |none=>exact un.keep b o e q (by intro z;exact absurd (show b∈([]:@aI) from z) @i) @i
    |some u=>
     rcases hO b with z |⟨ob,xs,z⟩
     .rw[q] at z;cases z
     .have z2:=un.B9 b ob _ z;obtain⟨e1,_⟩:=dS b _ z;obtain⟨e2,_⟩:=aeA b _ z2;rw[e] at e1;cases e1;exact e2
 cases hk:K.lookup a with
 |some o=>
  have e:=KX a o hk;rw[ha] at e;cases e;refine core (λ_=>none) (λ_=>@I) (.inr ⟨_,vs.toArray,_,hk,rfl,rfl,rfl,by rw[aW,ad2];exact hl,by simpa using rv⟩) (λb u z=>by have z':(none:Option HO)=@T:=z;cases z') (λb z=>absurd rfl z) λz=>absurd rfl z
 | none=>
  refine core (λb=>if b=a then some (.nY {cls:=@Z,data:=.seq vs.toArray} (.lst @cV)) else none) (λb=>?_) (.inl (.inr ⟨{cls:=@Z,data:=.seq vs.toArray},if_pos rfl⟩)) (λb u z=>?_) (λb z=>?_) λ_=>hk
  .by_cases hb:b=a
   .exact .inr ⟨_,_,if_pos hb⟩
   .exact .inl (if_neg hb)
  .by_cases hb:b=a
   .have z':=(if_pos hb).symm.trans z;cases z';subst hb;exact⟨ha,by rw[ag];exact hl,vs,_,rv,ha⟩
   .have z':=(if_neg hb).symm.trans z;cases z'
  .by_cases hb:b=a
   .exact hb
   .exact absurd (if_neg hb) z
theorem Tz{l:EI}{n k:Nat}{q:bR}{loose:@D}{XP:(@aU)->@bW}{YP:World->@bW}{d:DefRec}{K:j4->ay}{CX:World->K0}{sp:World->Sp}{x:Str}
  (hn:l.most=some n) (hn2:n<=bw) (hdf:d.params.defaults=[]) (hr:jj k Jc)
  (hY:∀(w:World) (h:Heap),YP w h->(@cO).In h)
  (F:∀(w:World) (mg:@aU) (fa:Addr) (h:Heap),(@cO).In h->h.Ns bJ mg->mg d.name=some (.ref fa) ->
   ∃fd:dQ,(∀(s:aE) (u:Value),BindsTo s fd ⟨[u],[]⟩ [(x,u)]) /\
    ∀base:Heap,(@cO).In base->base.Ns bJ mg->rG l.prog w (@cO) mg base (CX w) k fa fd [x] (sp w))
  (Rh:∀(w:World) (H:Hp) (a:Addr) (ns:@u),ns.length<=n->VP H->qZ (@cO) H a @cV->sp w [@ar] H (λv _=>v=.bl true) λ_ _ _=>False)
  (hCX:∀(w:World) (H:Hp) (s:aE) (e:Value) (s':aE),CX w [] H s (λ_ _ _=>False) e s'->False):
  PySem.W.WalkO q loose XP YP l.row.toRowW d [] (λf vs=>K8 f vs):=by
 refine Att.Iv hn hdf λw nV fP mg mb fa o pm cd doc a vs ns G Y ho hd Pe hmg Yw hints hlen hg=>?_;have KX:=hY w _ Y;obtain⟨fd,hb,hF⟩:=F w mg fa _ KX G.T.g hmg;exact QZ KX G.T.g G.T.b G.T.builtins G.T.nolimit hg Yw hints (cm hlen hn2) hr hF hb (λH hO hS=>Rh w H a ns hlen hO hS) λH e s'=>hCX w H fP e s'
end L2
/- THE aj6 ac3 (shape;LID,My.* are afE):
   My.Adr:a structure of the addresses ahx ahp agq names (classes,ZK);My.Txt K t:a structure (Prop) of the equations over K;
   My.adl:{K} {implicit addresses ..} (e1:nsIn K bJ "law"=some (some (.ref f))) (e2:K.lookup f=some ⟨oc,od,.func (fnOf "law" "law" params body scope dV kV doc pm an i7 ct),sl⟩) (e3:codeIn K i7 "law"=true) ..:∃t,My.Txt K t
(the tactic k_is has no namespace:write k_is) -/
namespace L2
open PySem PySem.Spec PyProof.Rows
abbrev yb:K0:=λ_ _ _ _ _ _=>False
abbrev E0:XK:=λ_ _ _=>False
theorem QA:Passes yb X E0:=λ_ _ _ _ _ _ _ h=>h.elim
structure Ta(K:ay)(x qual:Str)(st:Stmt)(f:Addr)(fd:dQ):Prop where
 ex:∃(oc:Value) (od:Option Addr) (kV doc pm:Value) (an:Option Addr) (i7 ct:Value) (JS:Array (Option Value)),
  fd=jd x qual (gQ st) (fx st) @a3 .none kV doc pm an i7 ct/\K.lookup f=some ⟨oc,od,.func fd,JS⟩/\GA K i7 qual=true
 kp:qr K @aD=true
section
variable {P:bR} {w:World} {K:ay} {mg:@aU} {base:Heap}
theorem Ta.ok{st:Stmt}(F:Ta K x qual st f fd)(S:ku N ps @a3)(len:∀vs H Q E,sp vs H Q E->vs.length=ps.length)
  (Rx:∀(i7:Value) (A:dD) (outer:@b3) (s:aE) (H:Hp) (vs:@z) (Q:VK) (E:XK),jj k (A.deeper (Gx qual @a3 s.heap.objs.size f i7))->sp vs H Q E ->
   ∃t,ZU (FR yb P w K mg base N qual @a3 f i7 A outer s H E).X3 (fx st) t/\t {nx:=λ_ H'=>Q .cY H',rt:=Q} (start N vs) H):rG P w K mg base yb (k+1) f fd ps sp:=by
 obtain⟨oc,od,kV,doc,pm,an,i7,ct,JS,rfl,lk,Pe⟩:=F.ex;refine abz lk Pe S len λA outer s H vs Q E hr Rh=>?_;obtain⟨t,h,q⟩:=Rx i7 A outer s H vs Q E hr Rh;exact⟨t,h.X3,q⟩
theorem Ta.binds{st:Stmt}(F:Ta K x qual st f fd)
  (h:∀(kV doc pm:Value) (an:Option Addr) (i7 ct:Value) (us:@C),us.length=ps.length->OU (jd x qual (gQ st) (fx st) @a3 .none kV doc pm an i7 ct) ⟨us,[]⟩=pure (ps.zip us)):Binds K fd ps []:=by
 obtain⟨oc,od,kV,doc,pm,an,i7,ct,JS,rfl,lk,Pe⟩:=F.ex;exact .all (h kV doc pm an i7 ct)
theorem RN{st:Stmt}{kV:Value}(l:K.lookup f=some ⟨oc,od,.func (jd x qual (gQ st) (fx st) @a3 .none kV doc pm an i7 ct),JS⟩)
  (c:GA K i7 qual=true) (k:qr K @aD=true):Ta K x qual st f (jd x qual (gQ st) (fx st) @a3 .none kV doc pm an i7 ct):=⟨⟨oc,od,kV,doc,pm,an,i7,ct,JS,rfl,l,c⟩,k⟩
end
end L2
section
namespace K2
open PySem (Str)
abbrev PK:=List (List (@u))
inductive D where
 |cY |bl (b:Bool) |int (i:Int) |str (x:Str) |tup (ds:@e) |dg (ds:@e) |vX (bB:@aJ) |ref (a:Nat) |exc (c:Str) |Ie (c:Str) (ns:@D) (ds:@e) |E5 (bB:List (PK×D))
 deriving Inhabited
inductive GO where
 |lst (ds:@e)
 |kU (bB:@aJ)
 |ins (c:Str) (fs:@c4)
 |KG (bB:List (PK×D))
abbrev Gp:=Nat->Option GO
noncomputable def cJ(G:Gp)(a:Nat)(o:GO):Gp:=λb=>if b=a then @j else G b
theorem ax:cJ G a o a=@j:=by unfold cJ;rw[if_pos rfl]
theorem cL(h:b≠a):cJ G a o b=G b:=by unfold cJ;rw[if_neg h]
noncomputable abbrev SZ:Nat:=16777216
structure Ex where
 cls:Str
 ajO:@c4
abbrev l8:=Ex->@E
abbrev iw:=List (@bc)
abbrev DK:=D->@E
abbrev gE:=l8->iw->Gp->DK->Prop
abbrev yX:=l8->iw->Gp->(Bool->@E)->Prop
abbrev Bb:=l8->iw->Gp->(@e->@E)->Prop
structure lG where
 nx:iw->@E
 rt:DK
 bk:iw->@E
 ct:iw->@E
abbrev fZ:=l8->lG->iw->@E
abbrev gM:=@e->Gp->DK->l8->Prop
abbrev Gv:=D->D->Gp->DK->Prop
noncomputable def D8(n:Nat)(i:Int):Option Nat:=if 0<=i then(if i<n then some i.toNat else none) else if -(n:Int)<=i then some (i+n).toNat else none
def nS{α:Type}(xs:@s)(i:Int):Option α:=(D8 xs.length i).bind λj=>xs[j]?
noncomputable def jm(n d:Nat):@aT->Nat
 |none=>d
 |some v=>if v<0 then(v+(n:Int)).toNat else min v.toNat n
def cut{α:Type}(xs:@s)(lo hi:@aT):@s:=(xs.drop (jm xs.length 0 lo)).take (jm xs.length xs.length hi-jm xs.length 0 lo)
mutual
noncomputable def iq:D->D->Bool
 |.cY,.cY=>true
 |.bl a,.bl b=>a == b
 |.bl a,.int b=>(if a then 1 else 0) == b
 |.int a,.bl b=>a == (if b then 1 else 0)
 |.int a,.int b=>a == b
 |.str a,.str b=>a == b
 |.tup a,.tup b=>lE a b
 |.dg a,.dg b=>lE a b
 |_,_=>false
noncomputable def lE:@e->@e->Bool
 |[],[]=>true
 |a::r,b::t=>iq a b&&lE r t
 |_,_=>false
end
mutual
noncomputable def nr:D->Bool
 |.ref _=>false
 |.exc _=>false
 |.Ie _ _ _=>false
 |.vX _=>false
 |.E5 _=>false
 |.str x=>x.cps.all (·<0x110000)
 |.tup ds=>qm ds
 |.dg ds=>qm ds
 |_=>true
noncomputable def qm:@e->Bool
 |[]=>true
 |d::r=>nr d&&qm r
end
class inductive Sn (G:Gp):Nat->D->D->Prop
 |cY {n:Nat}:Sn G n .cY .cY
 |bl {n:Nat} (b:Bool):Sn G n (.bl b) (.bl b)
 |int {n:Nat} (i:Int):Sn G n (@M) (@M)
 |str {n:Nat} (x:Str) (h:x.cps.all (·<0x110000)=true):Sn G n (.str x) (.str x)
 |vA {n:Nat}:Sn G (n+1) (.tup []) (.tup [])
 |fH {n:Nat} {d s:D} {ds ss:@e}:Sn G n d s->Sn G (n+1) (.tup ds) (.tup ss)->Sn G (n+1) (.tup (d::ds)) (.tup (s::ss))
 |zV {n:Nat}:Sn G (n+1) (.dg []) (.dg [])
 |u7 {n:Nat} {d s:D} {ds ss:@e}:Sn G n d s->Sn G (n+1) (.dg ds) (.dg ss)->Sn G (n+1) (.dg (d::ds)) (.dg (s::ss))
 |ref {n:Nat} {a:Nat} {ds ss:@e}:G a=@bJ->Sn G n (.dg ds) (.dg ss)->Sn G n @U (.dg ss)
noncomputable abbrev SN:Nat:=8
theorem Sn.nr(h:Sn G n d t):K2.nr t=true:=by
 induction h with
 |cY=>rfl
 |bl b=>rfl
 |int i=>rfl
 |str x h=>exact h
 |vA=>rfl
 |fH _ _ Ob Oa=>
  show(K2.nr _&&K2.qm _)=true;rw[Ob];exact Oa
 |zV=>rfl
 |u7 _ _ Ob Oa=>
  show(K2.nr _&&K2.qm _)=true;rw[Ob];exact Oa
 |ref _ _ ih=>exact ih
noncomputable def plD(k:PK):D:=.tup (k.map λr=>.tup (r.map λt=>.tup (t.map D.int)))
noncomputable def gG:D->Bool
 |.int _=>true
 |.str _=>true
 |_=>false
def Jq:D->Gp->Option Bool
 |.cY,_=>some false
 |.bl b,_=>some b
 |.int i,_=>some (i != 0)
 |.str x,_=>if x.length<=SZ then some ((x.length:Int) != 0) else none
 |.tup ds,_=>some (!ds.isEmpty)
 |.dg ds,_=>some (!ds.isEmpty)
 |.exc _,_=>none
 |.Ie _ _ _,_=>none
 |.E5 _,_=>none
 |.vX bB,_=>if(bB.all λp=>gG p.1)=true then some (!bB.isEmpty) else none
 |.ref a,G=>match G a with
  |some (.lst ds)=>some (!ds.isEmpty)
  |some (.kU bB)=>if(bB.all λp=>gG p.1)=true then some (!bB.isEmpty) else none
  |_=>none
def ak(i:Nat):gE:=λ_ τ G Q=>match τ[i]? with
 |some (some d)=>Q d G
 |_=>False
def dC(d:D):gE:=λ_ _ G Q=>Q d G
def aH:Bb:=λ_ _ G Q=>Q [] G
def ah(a:gE)(r:Bb):Bb:=λE τ G Q=>a E τ G λx G1=>r E τ G1 λxs G2=>Q (x::xs) G2
def dN(t:Bb):gE:=λE τ G Q=>t E τ G λds G1=>ds.length<=SZ/\Q (.tup ds) G1
def c9(t:Bb):gE:=λE τ G Q=>t E τ G λds G1=>ds.length<=SZ/\∀p,G1 p=none->Q (@V) (cJ G1 p (.lst ds))
def aM(r:Gv)(a b:gE):gE:=λE τ G Q=>a E τ G λx G1=>b E τ G1 λy G2=>r x y G2 Q
def yS(r:D->Gp->DK->Prop)(a:gE):gE:=λE τ G Q=>a E τ G λx G1=>r x G1 Q
def jN(G:Gp)(o:GO)(Q:DK):Prop:=∀p,G p=none->Q (@V) (cJ G p o)
def MulOk(i j:Int):Prop:=(-(2 ^ 64)<i/\i<2 ^ 64)\/(-(2 ^ 64)<j/\j<2 ^ 64)
noncomputable def pM:D->Gp->Option (@e)
 |.dg ds,_=>some ds
 |.ref a,G=>match G a with
  |some (.lst ds)=>some ds
  |_=>none
 |_,_=>none
def F3(x y:D)(G:Gp)(Q:DK):Prop:=match pM x G,pM y G with
 |some xs,some ys=>xs.length+ys.length<=SZ/\jN G (.lst (xs++ys)) Q
 |_,_=>False
def ik:Gv
 |.int i,.int j,G,Q=>Q (.int (i+j)) G
 |.str a,.str b,G,Q=>a.length+b.length<=SZ/\Q (.str (a++b)) G
 |.tup a,.tup b,G,Q=>a≠[]/\a.length+b.length<=SZ/\Q (.tup (a++b)) G
 |x,y,G,Q=>F3 x y G Q
def BH:Gv
 |.int i,.int j,G,Q=>Q (.int (i-j)) G
 |_,_,_,_=>False
def my:Gv
 |.int i,.int j,G,Q=>MulOk i j/\Q (.int (i*j)) G
 |_,_,_,_=>False
def rq:Gv
 |.int i,.int j,G,Q=>0<j/\Q (.int (i % j)) G
 |_,_,_,_=>False
def wY:Gv
 |.int i,.int j,G,Q=>0<j/\j<2 ^ 30/\Q (.int (i / j)) G
 |_,_,_,_=>False
def Df:D->Gp->DK->Prop
 |.int i,G,Q=>Q (.int (-i)) G
 |_,_,_=>False
def l6(neg:Bool):Gv:=λx y G Q=>∃a b,Sn G SN x a/\Sn G SN y b/\Q (.bl (if neg then !iq a b else iq a b)) G
noncomputable def lexLt:@u->@u->Bool
 |[],[]=>false
 |[],_::_=>true
 |_::_,[]=>false
 |x::xs,y::ys=>if x=y then lexLt xs ys else decide (x<y)
def Zw:Gv
 |.int i,.int j,G,Q=>Q (.bl (decide (i<j))) G
 |.tup a,.tup b,G,Q=>∃xs ys,a=xs.map D.int/\b=ys.map D.int/\Q (.bl (lexLt xs ys)) G
 |_,_,_,_=>False
def rLe:Gv
 |.int i,.int j,G,Q=>Q (.bl (decide (i<=j))) G
 |_,_,_,_=>False
def rGt:Gv
 |.int i,.int j,G,Q=>Q (.bl (decide (i>j))) G
 |_,_,_,_=>False
def rGe:Gv
 |.int i,.int j,G,Q=>Q (.bl (decide (i>=j))) G
 |_,_,_,_=>False
def Nj(neg:Bool):D->Gp->DK->Prop:=λx G Q=>match x with
 |.cY=>Q (.bl (!neg)) G
 |_=>Q (.bl neg) G
noncomputable def itemsOf:D->Gp->Option (@e)
 |.tup ds,_=>some ds
 |.dg ds,_=>some ds
 |.ref a,G=>match G a with
  |some (.lst ds)=>some ds
  |_=>none
 |_,_=>none
def vM:D->Bool
 |.tup ds=>ds.all gG
 |_=>false
def iM(bB:@aJ)(k:D):Bool:=(gG k&&bB.all λp=>gG p.1)||(vM k&&bB.all λp=>vM p.1)
def look(bB:@aJ)(k:D):@bc:=(bB.find? λp=>iq p.1 k).map (·.2)
def put(bB:@aJ)(k v:D):@aJ :=
 if(bB.any λp=>iq p.1 k)=true then bB.map (λp=>if iq p.1 k=true then(p.1,v) else p) else bB++[(k,v)]
def CS(neg:Bool):Gv:=λx y G Q=>match y with
 |.ref a=>(match G a with
  |some (.kU bB)=>iM bB x=true/\Q (.bl (if neg then !(look bB x).isSome else(look bB x).isSome)) G
  |some (.lst ds)=>∃s ss,Sn G SN x s/\Sn G SN (.dg ds) (.dg ss)/\Q (.bl (if neg then !ss.any (iq · s) else ss.any (iq · s))) G
  |_=>False)
 |.vX bB=>bB≠[]/\iM bB x=true/\Q (.bl (if neg then !(look bB x).isSome else(look bB x).isSome)) G
 |.tup ds=>∃s ss,Sn G SN x s/\Sn G SN (.dg ds) (.dg ss)/\Q (.bl (if neg then !ss.any (iq · s) else ss.any (iq · s))) G
 |.dg ds=>∃s ss,Sn G SN x s/\Sn G SN (.dg ds) (.dg ss)/\Q (.bl (if neg then !ss.any (iq · s) else ss.any (iq · s))) G
 |_=>False
def fG:Gv
 |.tup ds,.int i,G,Q=>(match nS ds i with
  |some d=>Q d G
  |none=>False)
 |.dg ds,.int i,G,Q=>(match nS ds i with
  |some d=>Q d G
  |none=>False)
 |.vX bB,k,G,Q=>iM bB k=true/\(match look bB k with
  |some d=>Q d G
  |none=>False)
 | .ref a,k,G,Q=>(match G a with
  | some (.lst ds)=>(match k with
   |.int i=>(match nS ds i with
    |some d=>Q d G
    |none=>False)
   |_=>False)
  |some (.kU bB)=>iM bB k=true/\(match look bB k with
   |some d=>Q d G
   |none=>False)
  |_=>False)
 |_,_,_,_=>False
abbrev Zl:=l8->iw->Gp->(@aT->@E)->Prop
def eO:Zl:=λ_ _ G Q=>Q none G
def jB(t:gE):Zl:=λE τ G Q=>t E τ G λx G1=>match x with
 |.int i=>Q (some i) G1
 |_=>False
def T9:D->@aT->@aT->Gp->DK->Prop
 |.tup ds,lo,hi,G,Q=>¬ (jm ds.length 0 lo=0/\jm ds.length ds.length hi=ds.length)/\Q (.tup (cut ds lo hi)) G
 |.dg ds,lo,hi,G,Q=>jN G (.lst (cut ds lo hi)) Q
 |.ref a,lo,hi,G,Q=>(match G a with
  |some (.lst ds)=>jN G (.lst (cut ds lo hi)) Q
  |_=>False)
 |_,_,_,_,_=>False
def vY(a:gE)(lo hi:Zl):gE:=λE τ G Q=>a E τ G λx G1=>lo E τ G1 λl G2=>hi E τ G2 λh G3=>T9 x l h G3 Q
def eW(a:gE):yX:=λE τ G Q=>a E τ G λx G1=>match Jq x G1 with
 |some b=>Q b G1
 |none=>False
def xM(a b:yX):yX:=λE τ G Q=>a E τ G λc G1=>if c=true then b E τ G1 Q else Q false G1
def Mu(a b:yX):yX:=λE τ G Q=>a E τ G λc G1=>if c=true then Q true G1 else b E τ G1 Q
def vP(a:yX):yX:=λE τ G Q=>a E τ G λc G1=>Q (!c) G1
def Ep(a b:gE):gE:=λE τ G Q=>a E τ G λx G1=>match Jq x G1 with
 |some true=>b E τ G1 Q
 |some false=>Q x G1
 |none=>False
def Ox(a b:gE):gE:=λE τ G Q=>a E τ G λx G1=>match Jq x G1 with
 |some true=>Q x G1
 |some false=>b E τ G1 Q
 |none=>False
def Mw(a:gE):gE:=λE τ G Q=>a E τ G λx G1=>match Jq x G1 with
 |some c=>Q (.bl (!c)) G1
 |none=>False
def dIf(c:yX)(a b:gE):gE:=λE τ G Q=>c E τ G λk G1=>if k=true then a E τ G1 Q else b E τ G1 Q
def aS(sp:gM)(t:Bb):gE:=λE τ G Q=>t E τ G λds G1=>sp ds G1 Q @t
def jV(r:@e->Gp->DK->Prop)(t:Bb):gE:=λE τ G Q=>t E τ G λds G1=>r ds G1 Q
def vw(x:D)(G:Gp):Prop:=match x with
 |.ref a=>(match G a with
  |some (.lst _)=>True
  |_=>False)
 |.dg _=>True
 |_=>False
def tyC(x:D)(G:Gp):Prop:=match x with
 |.vX _=>True
 |.ref a=>(match G a with
  |some (.kU _)=>True
  |_=>False)
 |_=>False
def tyS(x:D)(_:Gp):Prop:=match x with
 |.str _=>True
 |_=>False
def mU(ty:D->@E)(r:D->@e->Gp->DK->Prop)(o:gE)(t:Bb):gE:=λE τ G Q=>o E τ G λx G1=>ty x G1/\t E τ G1 λds G2=>r x ds G2 Q
def lenOf:D->Gp->Option Nat
 |.tup ds,_=>some ds.length
 |.dg ds,_=>some ds.length
 |.str x,_=>if x.length<=SZ then some x.length else none
 |.vX bB,_=>if(bB.all λp=>gG p.1)=true then some bB.length else none
 |.ref a,G=>match G a with
  |some (.lst ds)=>some ds.length
  |some (.kU bB)=>if(bB.all λp=>gG p.1)=true then some bB.length else none
  |_=>none
 |_,_=>none
def nP(ds:@e)(G:Gp)(Q:DK):Prop:=match ds with
 |[x]=>(match lenOf x G with
  |some n=>Q (.int (n:Int)) G
  |none=>False)
 |_=>False
def tQ(ds:@e)(G:Gp)(Q:DK):Prop:=match ds with
 |[x]=>(match @cw with
  |some xs=>jN G @bw Q
  |none=>False)
 |_=>False
noncomputable def Yr(C:String):D->Gp->Option Bool
 |.cY,_=>some false
 |.bl _,_=>some (C == "bool" || @aH)
 |.int _,_=>some (@aH)
 |.str _,_=>some (C == "str")
 |.tup _,_=>some (C == "tuple")
 |.dg _,_=>some (C == "list")
 |.vX _,_=>some (C == "dict")
 |.exc _,_=>none
 |.Ie _ _ _,_=>none
 |.E5 _,_=>none
 |.ref a,G=>match G a with
  |some (.lst _)=>some (C == "list")
  |some (.kU _)=>some (C == "dict")
  |_=>none
def Oy(C:String)(a:gE):gE:=λE τ G Q=>a E τ G λx G1=>match Yr C x G1 with
 |some b=>Q (.bl b) G1
 |none=>False
def Sr(ds:@e)(G:Gp)(Q:DK):Prop:=match ds with
 |[x]=>∃bs:List Bool,@cw=some (bs.map D.bl)/\Q (.bl (bs.all id)) G
 |_=>False
def gb(x:D)(ds:@e)(G:Gp)(Q:DK):Prop:=match x,ds with
 |.ref a,[d]=>(match G a with
  |some (.lst xs)=>xs.length<SZ/\Q .cY (cJ G a (.lst (xs++[d])))
  |_=>False)
 |_,_=>False
def ui(x:D)(ds:@e)(G:Gp)(Q:DK):Prop:=match x,ds with
 |.ref a,[y]=>(match G a,pM y G with
  |some (.lst xs),some ys=>xs.length+ys.length<=SZ/\Q .cY (cJ G a (.lst (xs++ys)))
  |_,_=>False)
 |_,_=>False
def U6(x:D)(ds:@e)(G:Gp)(Q:DK):Prop:=match x,ds with
 |.ref a,[.int i,d]=>(match G a with
  |some (.lst xs)=>0<=i/\i<=xs.length/\xs.length<SZ/\Q .cY (cJ G a (.lst (xs.take i.toNat++d::xs.drop i.toNat)))
  |_=>False)
 |_,_=>False
def sZ(x:D)(ds:@e)(G:Gp)(Q:DK):Prop:=match ds with
 |[d]=>vw x G/\∃xs s ss,@cw=some xs/\Sn G SN d s/\Sn G SN (.dg xs) (.dg ss)/\(match ss.findIdx? (iq · s) with
  |some k=>Q (.int (k:Int)) G
  |none=>False)
 |_=>False
def Hz(x:D)(ds:@e)(G:Gp)(Q:DK):Prop:=match x,ds with
 | .ref a,[k,d]=>(match G a with
  |some (.kU bB)=>iM bB k=true/\gG k=true/\(match look bB k with
   |some v=>Q v G
   |none=>bB.length<SZ/\Q d (cJ G a (.kU (put bB k d))))
  |_=>False)
 |_,_=>False
def b8:fZ:=λ_ K τ G=>K.nx τ G
def bG(a b:fZ):fZ:=λE K τ G=>a E {K with nx:=b E K} τ G
def cW(a:gE):fZ:=λE K τ G=>a E τ G λ_ G1=>K.nx τ G1
def bQ(a:gE):fZ:=λE K τ G=>a E τ G K.rt
def Mt:fZ:=λ_ K _ G=>K.rt .cY G
def du(c:yX)(a b:fZ):fZ:=λE K τ G=>c E τ G λk G1=>if k=true then a E K τ G1 else b E K τ G1
def oT:fZ:=λ_ _ _ _=>False
abbrev CV:=l8->D->iw->Gp->(iw->@E)->Prop
abbrev F4:=l8->@e->iw->Gp->(iw->@E)->Prop
def aI(i:Nat):CV:=λ_ d τ G Q=>Q (τ.set i (@aM)) G
def rD:F4:=λ_ ds τ G Q=>match ds with
 |[]=>Q τ G
 |_=>False
def hU(t:CV)(r:F4):F4:=λE ds τ G Q=>match ds with
 |d::ds=>t E d τ G λrk G1=>r E ds rk G1 Q
 |_=>False
def pQ(t:F4):CV:=λE d τ G Q=>match d with
 |.tup ds=>t E ds τ G Q
 |_=>False
def zh(o k d:D)(G:Gp)(Q:@E):Prop:=match o with
 | .ref a=>(match G a with
  | some (.lst xs)=>(match k with
   |.int i=>(match D8 xs.length i with
    |some j=>Q (cJ G a (.lst (xs.set j d)))
    |none=>False)
   |_=>False)
  |some (.kU bB)=>iM bB k=true/\bB.length<SZ/\Q (cJ G a (.kU (put bB k d)))
  |_=>False)
 |_=>False
def pR(o k:gE):CV:=λE d τ G Q=>o E τ G λx G1=>k E τ G1 λy G2=>zh x y d G2 λG3=>Q τ G3
def bx(a:gE)(g:CV):fZ:=λE K τ G=>a E τ G λx G1=>g E x τ G1 K.nx
abbrev SD:=l8->iw->Gp->(@bT)->Prop
def hZ(a:gE):SD:=λE τ G R=>a E τ G λx G1=>match x with
 |.tup ds=>R ds @bd G1
 |.dg ds=>R ds @bd G1
 |.ref p=>(match G1 p with
  |some (.lst ds)=>R ds (λG2=>G2 p=@bJ) G1
  |_=>False)
 |_=>False
noncomputable def ij(lo:Int)(n:Nat):@e:=(cR n).map λ(i:Nat)=>D.int (lo+(i:Int))
def vc(a:gE):SD:=λE τ G R=>a E τ G λx G1=>match x with
 |.int n=>-(2 ^ 62)<=n/\n<2 ^ 62/\R (ij 0 n.toNat) @bd G1
 |_=>False
def zE(g:CV)(body:fZ)(ok:@E):@e->fZ
 |[]=>λ_ K τ G=>ok G/\K.nx τ G
 |d::r=>λE K τ G=>ok G/\g E d τ G λrk G1=>body E {K with nx:=zE g body ok r E K,ct:=zE g body ok r E K,bk:=K.nx} rk G1
def fy(i:SD)(g:CV)(body:fZ):fZ:=λE K τ G=>i E τ G λds ok G1=>zE g body ok ds E K τ G1
def GI(c:yX)(body:fZ):Nat->fZ
 |0=>λ_ _ _ _=>False
 |n+1=>λE K τ G=>c E τ G λk G1=>if k=true then body E {K with nx:=GI c body n E K,ct:=GI c body n E K,bk:=K.nx} τ G1 else K.nx τ G1
def FQ(c:yX)(body:fZ):fZ:=λE K τ G=>∃n,GI c body n E K τ G
def iX(g:CV)(c:Option yX)(e:gE)(ok:@E):@e->l8->iw->Gp->@e->(@e->@E)->Prop
 |[],_,_,G,acc,Q=>ok G/\Q acc G
 |d::r,E,τ,G,acc,Q=>ok G/\g E d τ G λrk G1=>match c with
  |none=>e E rk G1 λx G2=>iX g c e ok r E rk G2 (acc++[x]) Q
  |some c=>c E rk G1 λk G2=>if k=true then e E rk G2 λx G3=>iX g (@aW) e ok r E rk G3 (acc++[x]) Q else iX g (@aW) e ok r E rk G2 acc Q
noncomputable def Cs(m:Nat)(fr:@aE)(τ:iw):iw:=aN m none++fr.map λi=>(τ[i]?).getD none
def eC(m:Nat)(fr:@aE)(i:SD)(g:CV)(c:Option yX)(e:gE):gE:=λE τ G Q=>
 i E τ G λds ok G1=>ds.length<=SZ/\iX g c e ok ds @p (Cs m fr τ) G1 [] λxs G2=>jN G2 @bw Q
noncomputable abbrev tI(ns:@u):D:=.tup (@bg)
noncomputable def adZ:@u->@aT
 |[]=>none
 |a::r=>some (r.foldl (λm x=>if x<m then x else m) a)
def adY:List (@u)->Option (@u)
 |[]=>none
 |a::r=>some (r.foldl (λm x=>if lexLt x m=true then x else m) a)
def Iq(ds:@e)(G:Gp)(Q:DK):Prop:=match ds with
 |[x]=>(∃ns m,@cw=some (@bg)/\adZ ns=some m/\Q (.int m) G)\/∃nss m,@cw=some (nss.map tI)/\adY nss=some m/\Q (tI m) G
 |_=>False
def Ag:gE:=λ_ _ G Q=>jN G (.kU []) Q
def eQ(G G':Gp):Prop:=∀a o,G a=@j->G' a=@j
theorem eQ.refl(G):eQ G G:=λ_ _ h=>h
theorem eQ.trans(a:eQ G G1)(b:eQ G1 G2):eQ G G2:=λc o h=>b c o (a c o h)
theorem eQ.new{G:Gp}{p:Nat}{o:GO}(h:G p=none):eQ G (cJ G p o):=λa ob e=>by
 by_cases ha:a=p
 .subst ha;rw[h] at e;cases e
 .rw[cL ha];exact e
theorem eQ.free(l:@O)(h:G' p=none):G p=none:=by
 cases q:G p with
 |none=>rfl
 |some o=>rw[l p o q] at h;cases h
theorem eQ.put(l:@O)(h:G p=none):eQ G (cJ G' p o):=λa ob e=>by
 by_cases ha:a=p
 .subst ha;rw[h] at e;cases e
 .rw[cL ha];exact l a ob e
noncomputable def ends(Q:DK):lG:=⟨λ_ G=>Q .cY G,Q,@t,@t⟩
noncomputable def aT(n:Nat)(ds:@e):iw:=ds.map some++aN (n-ds.length) none
def Rf(x:D)(G1:Gp)(R:@bT):Prop:=match x with
 |.tup ds=>R ds @bd G1
 |.dg ds=>R ds @bd G1
 |.ref p=>(match G1 p with
  |some (.lst ds)=>R ds (λG2=>G2 p=@bJ) G1
  |_=>False)
 |_=>False
def QB(x:D)(G1:Gp)(Q:@aT->@E):Prop:=match x with
 |.int i=>Q (some i) G1
 |_=>False
def uX(x:D)(G1:Gp)(Q:Bool->@E):Prop:=match Jq x G1 with
 |some b=>Q b G1
 |none=>False
def V3(x:D)(G1:Gp)(R:@bT):Prop:=match x with
 |.int n=>-(2 ^ 62)<=n/\n<2 ^ 62/\R (ij 0 n.toNat) @bd G1
 |_=>False
def isAt(C:String)(x:D)(G1:Gp)(Q:DK):Prop:=match Yr C x G1 with
 |some b=>Q (.bl b) G1
 |none=>False
theorem eV:ik (@M) (.int j) G Q=Q (.int (i+j)) G:=rfl
theorem wZ:ik (.tup a) (.tup b) G Q=(a≠[]/\a.length+b.length<=SZ/\Q (.tup (a++b)) G):=rfl
theorem ju:BH (@M) (.int j) G Q=Q (.int (i-j)) G:=rfl
theorem jv:my (@M) (.int j) G Q=(MulOk i j/\Q (.int (i*j)) G):=rfl
theorem jw:rq (@M) (.int j) G Q=(0<j/\Q (.int (i % j)) G):=rfl
theorem kM:wY (@M) (.int j) G Q=(0<j/\j<2 ^ 30/\Q (.int (i / j)) G):=rfl
theorem lq:Df (@M) G Q=Q (.int (-i)) G:=rfl
theorem qB:Zw (@M) (.int j) G Q=Q (.bl (decide (i<j))) G:=rfl
theorem AJ:rLe (@M) (.int j) G Q=Q (.bl (decide (i<=j))) G:=rfl
theorem wX:rGt (@M) (.int j) G Q=Q (.bl (decide (i>j))) G:=rfl
theorem AN:rGe (@M) (.int j) G Q=Q (.bl (decide (i>=j))) G:=rfl
theorem Ua(h:nS ds i=@aM):fG (.dg ds) (@M) G Q=Q d G:=by unfold fG;simp only[h]
theorem Ub{a:Nat}{ds:@e}{i:Int}{d:D}{G:Gp}{Q:DK}(h1:G a=@bJ)(h:nS ds i=@aM):fG @U (@M) G Q=Q d G:=by unfold fG;simp only[h1,h]
theorem qA:T9 (.tup ds) lo hi G Q=(¬ (jm ds.length 0 lo=0/\jm ds.length ds.length hi=ds.length)/\Q (.tup (cut ds lo hi)) G):=rfl
theorem ug:T9 (.dg ds) lo hi G Q=jN G (.lst (cut ds lo hi)) Q:=rfl
theorem T8{a:Nat}{ds:@e}{lo hi:@aT}{G:Gp}{Q:DK}(h:G a=@bJ):T9 @U lo hi G Q=jN G (.lst (cut ds lo hi)) Q:=by unfold T9;simp only[h]
theorem nO:nP [.dg ds] G Q=Q (.int (ds.length:Int)) G:=rfl
theorem xO:nP [.tup ds] G Q=Q (.int (ds.length:Int)) G:=rfl
theorem So{a:Nat}{ds:@e}{G:Gp}{Q:DK}(h:G a=@bJ):nP [@ar] G Q=Q (.int (ds.length:Int)) G:=by unfold nP lenOf;simp only[h]
theorem cM:hZ a E τ G R=a E τ G λx G1=>Rf x G1 R:=by
 unfold hZ Rf;rfl
theorem qG:Rf (.dg ds) G R=R ds @bd G:=rfl
theorem A1:Rf (.tup ds) G R=R ds @bd G:=rfl
theorem A3{a:Nat}{ds:@e}{G:Gp}{R:@bT}(h:G a=@bJ):Rf @U G R=R ds (λG2=>G2 a=@bJ) G:=by unfold Rf;simp only[h]
theorem gR:jB t E τ G Q=t E τ G λx G1=>QB x G1 Q:=rfl
theorem fE:QB (@M) G Q=Q (some i) G:=rfl
theorem bP:eW a E τ G Q=a E τ G λx G1=>uX x G1 Q:=rfl
theorem aO:uX (.bl b) G Q=Q b G:=rfl
theorem M0{a:Nat}{ds:@e}{G:Gp}{Q:Bool->@E}(h:G a=@bJ):uX @U G Q=Q (!ds.isEmpty) G:=by unfold uX Jq;simp only[h]
theorem jA:vc a E τ G R=a E τ G λx G1=>V3 x G1 R:=rfl
theorem iF:V3 (.int n) G R=(-(2 ^ 62)<=n/\n<2 ^ 62/\R (ij 0 n.toNat) @bd G):=rfl
theorem xK:Oy C a E τ G Q=a E τ G λx G1=>isAt C x G1 Q:=rfl
theorem tm    :isAt C (@M) G Q=Q (.bl (@aH)) G:=rfl
theorem xk    :isAt C (.tup ds) G Q=Q (.bl (C == "tuple")) G:=rfl
theorem pW:Ep a b E τ G Q=a E τ G λx G1=>uX x G1 λk G2=>if k=true then b E τ G2 Q else Q x G2:=by
 unfold Ep uX;refine congrArg (a E τ G) ?_;funext x G1;cases Jq x G1 with
 |none=>rfl
 |some k=>cases k<;>simp
theorem uD:Ox a b E τ G Q=a E τ G λx G1=>uX x G1 λk G2=>if k=true then Q x G2 else b E τ G2 Q:=by
 unfold Ox uX;refine congrArg (a E τ G) ?_;funext x G1;cases Jq x G1 with
 |none=>rfl
 |some k=>cases k<;>simp
theorem tO:Mw a E τ G Q=a E τ G λx G1=>uX x G1 λk G2=>Q (.bl (!k)) G2:=rfl
theorem pH:ik @U y G Q=F3 @U y G Q:=by cases y<;>rfl
theorem pG:ik (.dg a) y G Q=F3 (.dg a) y G Q:=by cases y<;>rfl
theorem wW:T9 @U lo hi G Q=(match G a with
  |some (.lst ds)=>jN G (.lst (cut ds lo hi)) Q
  |_=>False):=rfl
theorem AK:fG @U k G Q=(match G a with
  | some (.lst ds)=>(match k with
   |.int i=>(match nS ds i with
    |some d=>Q d G
    |none=>False)
   |_=>False)
  |some (.kU bB)=>iM bB k=true/\(match look bB k with
   |some d=>Q d G
   |none=>False)
  |_=>False):=by unfold fG;cases k<;>rfl
theorem cU:fG (.tup ds) (@M) G Q=(match nS ds i with
  |some d=>Q d G
  |none=>False):=rfl
theorem iU:fG (.dg ds) (@M) G Q=(match nS ds i with
  |some d=>Q d G
  |none=>False):=rfl
theorem uI:tQ [@ar] G Q=(match G a with
  |some (.lst ds)=>jN G (.lst ds) Q
  |_=>False):=by
 unfold tQ itemsOf;cases h:G a with
 |none=>simp only[h]
 |some g=>cases g<;>simp only[h]
theorem cZ:gb @U [d] G Q=(match G a with
  |some (.lst xs)=>xs.length<SZ/\Q .cY (cJ G a (.lst (xs++[d])))
  |_=>False):=rfl
theorem ly:ui @U [y] G Q=(match G a,pM y G with
  |some (.lst xs),some ys=>xs.length+ys.length<=SZ/\Q .cY (cJ G a (.lst (xs++ys)))
  |_,_=>False):=rfl
theorem oz:U6 @U [@M,d] G Q=(match G a with
  |some (.lst xs)=>0<=i/\i<=xs.length/\xs.length<SZ/\Q .cY (cJ G a (.lst (xs.take i.toNat++d::xs.drop i.toNat)))
  |_=>False):=rfl
theorem jI:Hz @U [k,d] G Q=(match G a with
  |some (.kU bB)=>iM bB k=true/\gG k=true/\(match look bB k with
   |some v=>Q v G
   |none=>bB.length<SZ/\Q d (cJ G a (.kU (put bB k d))))
  |_=>False):=rfl
theorem xm:Rf (@V) G R=(match G p with
  |some (.lst ds)=>R ds (λG2=>G2 p=@bJ) G
  |_=>False):=rfl
theorem A0    :isAt C (.bl b) G Q=Q (.bl (C == "bool" || @aH)) G:=rfl
theorem gr:vw @U G=(match G a with
  |some (.lst _)=>True
  |_=>False):=rfl
theorem wg:tyC @U G=(match G a with
  |some (.kU _)=>True
  |_=>False):=rfl
theorem AF:vw (.dg ds) G=True:=rfl
theorem E8:fG (.vX bB) k G Q=(iM bB k=true/\(match look bB k with
  |some d=>Q d G
  |none=>False)):=by unfold fG;cases k<;>rfl
theorem AE:tyS (.str x) G=True:=rfl
noncomputable def Dq(R:@bG)(G:Gp):Gp:=λa=>if R a=true then none else G a
mutual
inductive Fz (G:Gp) (R:@bG):D->D->Prop
 |same (d:D):Fz G R d d
 |tup {ds ss:@e}:y8 G R ds ss->Fz G R (.tup ds) (.tup ss)
 |dg {ds ss:@e}:y8 G R ds ss->Fz G R (.dg ds) (.dg ss)
 |ref {a:Nat} {ds ss:@e}:G a=@bJ->R a=true->y8 G R ds ss->Fz G R @U (.dg ss)
 |kU {a:Nat} {bB Wg:@aJ}:G a=some (.kU bB)->R a=true->KY G R bB Wg->Fz G R @U (.vX Wg)
 |KG {a:Nat} {bB Wg:List (PK×D)}:G a=some (.KG bB)->R a=true->y8 G R (bB.map λp=>p.2) (Wg.map λp=>p.2)->bB.map (λp=>p.1)=Wg.map (λp=>p.1)->Fz G R @U (.E5 Wg)
inductive y8 (G:Gp) (R:@bG):@e->@e->Prop
 |nil:y8 G R [] []
 |cons {d s:D} {ds ss:@e}:Fz G R d s->y8 G R ds ss->y8 G R (d::ds) (s::ss)
inductive KY (G:Gp) (R:@bG):@aJ->@aJ->Prop
 |nil:KY G R [] []
 |cons {k d s:D} {ds ss:@aJ}:Fz G R d s->KY G R ds ss->KY G R ((k,d)::ds) ((k,s)::ss)
end
theorem KY.same:∀(bB:@aJ),KY G R bB bB
 |[]=>.nil
 |(k,v)::r=>.cons (.same v) (KY.same r)
def OR(G:Gp)(x:D)(Q:DK):Prop:=∃(R:@bG) (t:D),Fz G R x t/\Q t (Dq R G)
def cG(e:gE):gE:=λE τ G Q=>e E τ G λx G1=>OR G1 x Q
def Sb(i:Nat)(t:fZ):fZ:=λE K τ G=>t E {K with nx:=λrk G1=>match rk[i]? with
 |some (some d)=>OR G1 d λt G2=>K.nx (rk.set i (some t)) G2
 |_=>False} τ G
theorem y8.same:∀(ds:@e),y8 G R ds ds
 |[]=>.nil
 |d::ds=>.cons (.same d) (y8.same ds)
theorem Cp(l:eQ G G1):Dq (λa=>(G a).isNone) G1=G:=by
 funext a;unfold Dq;cases h:G a with
 |none=>simp[h]
 |some o=>simp[l a o h,h]
theorem Ov(l:eQ G G1)(hp:G p=none)(h1:G1 p=@j):Dq (λa=>(G a).isNone&&decide (a≠p)) G1=cJ G p o:=by
 funext a;unfold Dq cJ;by_cases ha:a=p
 .subst ha;simp[h1]
 .cases h:G a with
  |none=>simp[ha,h]
  |some o=>simp[l a o h,ha,h]
theorem cp{G:Gp}{d:D}{Q:DK}(q:Q d G):OR G d Q:=⟨λ_=>false,d,.same d,by
 have e:Dq (λ_=>false) G=G:=by funext a;simp[Dq]
 rw[e];exact q⟩
theorem um{G G1:Gp}{d:D}{Q:DK}(l:eQ G G1)(q:Q d G):OR G1 d Q:=⟨_,d,.same d,by rw[Cp l];exact q⟩
theorem Ko{G G1:Gp}{p:Nat}{o:GO}{Q:DK}(l:eQ G G1)(hp:G p=none)(h1:G1 p=@j)(q:Q (@V) (cJ G p o)):OR G1 (@V) Q :=
 ⟨_,@V,.same _,by rw[Ov l hp h1];exact q⟩
theorem qH{G G1:Gp}{p:Nat}{ds ss:@e}{Q:DK}(l:eQ G G1)(hp:G p=none)(h1:G1 p=@bJ)(hs:y8 G1 (λa=>(G a).isNone) ds ss)(q:Q (.dg ss) G):OR G1 (@V) Q :=
 ⟨_,.dg ss,.ref h1 (by simp[hp]) hs,by rw[Cp l];exact q⟩
theorem RL{G G1:Gp}{p:Nat}{bB:@aJ}{Q:DK}(l:eQ G G1)(hp:G p=none)(h1:G1 p=some (.kU bB))(q:Q (.vX bB) G):OR G1 (@V) Q :=
 ⟨λa=>(G a).isNone,.vX bB,.kU h1 (by simp[hp]) (.same _),by rw[Cp l];exact q⟩
def DN:gM:=λds G Q _=>∃ns:@u,ds=[.dg (@bg)]/\ns.length<=63/\(∀a,G a=none)/\∀G',Q (.bl true) G'
theorem b6{a b:fZ}{E:l8}{K:lG}{τ:iw}{G:Gp}(P:iw->@E)(h1:∀N,(∀τ G,P τ G->N τ G)->a E {K with nx:=N} τ G)(h2:∀τ G,P τ G->b E K τ G):bG a b E K τ G:=h1 (b E K) h2
theorem ff:bG a b E K τ G=a E {K with nx:=b E K} τ G:=rfl
theorem dO:bG (bx a g) b E K τ G=bx a g E {K with nx:=b E K} τ G:=rfl
theorem g6:bG (cW a) b E K τ G=cW a E {K with nx:=b E K} τ G:=rfl
theorem Vz{g:CV}{c:Option yX}{e:gE}{ok:@E}{ds:@e}{E:l8}{τ:iw}{G:Gp}{Q:@e->@E}(I:@e->@e->iw->@E)
  (h0:I [] [] τ G) (dS:∀pre acc τ G,I pre acc τ G->ok G)
  (step:∀(pre:@e) (d:D) (post acc:@e) τ G (N:iw->@e->@E),ds=pre++d::post->I pre acc τ G->(∀CQ yW G2,I (pre++[d]) yW CQ G2->N CQ yW G2) ->
   g E d τ G λrk G1=>match c with
    |none=>e E rk G1 λx G2=>N rk (acc++[x]) G2
    |some c=>c E rk G1 λk G2=>if k=true then e E rk G2 λx G3=>N rk (acc++[x]) G3 else N rk acc G2)
  (fin:∀acc τ G,I ds acc τ G->Q acc G):iX g c e ok ds E τ G [] Q:=by
 have main:∀(post pre acc:@e) τ G,ds=pre++post->I pre acc τ G->iX g c e ok post E τ G acc Q:=by
  intro post;induction post with
  |nil=>
   intro pre acc τ G e h;rw[bC] at e;subst e;exact⟨dS _ _ _ _ h,fin _ _ _ h⟩
  |cons d post ih=>
   intro pre acc τ G e' h;refine⟨dS _ _ _ _ h,?_⟩;have:=step pre d post acc τ G (λCQ yW G2=>iX g c e ok post E CQ G2 yW Q) e' h λCQ yW G2 h2=>ih (pre++[d]) yW CQ G2 (by rw[e',bp];rfl) h2;cases c with
   |none=>ext g
   |some c=>ext g
 exact main ds [] [] τ G rfl h0
theorem Sn.rI:∀(ns:@u),Sn G (n+1) (.dg (@bg)) (.dg (@bg))
 |[]=>.zV
 |i::ns=>.u7 (@M) (Sn.rI ns)
theorem qJ(a b)(r t):lE (a::r) (b::t)=(iq a b&&lE r t):=rfl
theorem nI(a b):iq (@aB) (.int b)=(a == b):=rfl
theorem KA(a b):iq (.tup a) (.tup b)=lE a b:=rfl
theorem Ik{α:Type} [@W](a b)(as bs:@s):(decide (a=b)&&decide (as=bs))=decide (a::as=b::bs):=by
 by_cases h:a=b<;>by_cases h2:as=bs<;>simp[h,h2]
set_option genInjectivity true in structure T2 where
 a:Int
 b:Int
 deriving DecidableEq
set_option genInjectivity true in structure T3 where
 a:Int
 b:Int
 c:Int
 deriving DecidableEq
class Enc (α:Type) [@W] where
 enc:α->D
 dep:Nat
 eqv:∀a b,iq (enc a) (enc b)=decide (a=b)
 sn:∀(G:Gp) (n:Nat) (a:α),dep<=n->Sn G n (enc a) (enc a)
open Enc (enc)
instance:Enc Int where
 enc:=D.int
 dep:=0
 eqv:=λa b=>rfl
 sn:=λG n a _=>@aB
instance:Enc Bool where
 enc:=D.bl
 dep:=0
 eqv:=λa b=>SY a b
 sn:=λG n a _=>.bl a
instance:Enc T2 where
 enc:=λt=>.tup [.int t.a,.int t.b]
 dep:=1
 eqv:=λx y=>by
  cases x;cases y;rw[KA,qJ,qJ,nI,nI];simp only[T2.mk.injEq];rename_i a b c d;by_cases h:a=c<;>by_cases h2:b=d<;>simp[h,h2,show lE [] []=true from rfl]
 sn:=λG n t h=>by
  obtain⟨m,rfl⟩:∃m,n=m+1:=⟨n-1,@d⟩;exact .fH (@P) (.fH (@P) .vA)
instance:Enc T3 where
 enc:=λt=>.tup [.int t.a,.int t.b,.int t.c]
 dep:=1
 eqv:=λx y=>by
  cases x;cases y;rw[KA,qJ,qJ,qJ,nI,nI,nI];simp only[T3.mk.injEq];rename_i a b e c d f;by_cases h:a=c<;>by_cases h2:b=d<;>by_cases h3:e=f<;>simp[h,h2,h3,show lE [] []=true from rfl]
 sn:=λG n t h=>by
  obtain⟨m,rfl⟩:∃m,n=m+1:=⟨n-1,@d⟩;exact .fH (@P) (.fH (@P) (.fH (@P) .vA))
instance {α β:Type} [@W] [DecidableEq β] [@ai] [Enc β]:Enc (α×β) where
 enc:=λt=>.tup [enc t.1,enc t.2]
 dep:=max (Enc.dep α) (Enc.dep β)+1
 eqv:=λx y=>by
  cases x;cases y;rw[KA,qJ,qJ,Enc.eqv,Enc.eqv];simp only[Ji];rename_i a b c d;by_cases h:a=c<;>by_cases h2:b=d<;>simp[h,h2,show lE [] []=true from rfl]
 sn:=λG n t h=>by
  obtain⟨m,rfl⟩:∃m,n=m+1:=⟨n-1,@d⟩;exact .fH (Enc.sn _ _ _ @c) (.fH (Enc.sn _ _ _ @c) .vA)
theorem Ig [@W] [@ai]:∀(a b:@s),lE (a.map enc) (b.map enc)=decide (a=b)
 |[],[]=>(decide_eq_true rfl).symm
 |[],b::bs=>(decide_eq_false @cy).symm
 |a::as,[]=>(decide_eq_false @cy).symm
 |a::as,b::bs=>by
  show(iq (enc a) (enc b)&&lE (as.map enc) (bs.map enc))=_;rw[Enc.eqv,Ig as bs,Ik]
theorem sJ [@W] [@ai](G)(n)(h:Enc.dep α<=n):∀(xs:@s),Sn G (n+1) (.dg @aY) (.dg @aY)
 |[]=>.zV
 |a::as=>.u7 (Enc.sn _ _ _ h) (sJ G n h as)
instance {α:Type} [@W] [@ai]:Enc (@s) where
 enc:=λxs=>.dg @aY
 dep:=Enc.dep α+1
 eqv:=λa b=>by
  show lE _ _=_;exact Ig a b
 sn:=λG n t h=>by
  obtain⟨m,rfl⟩:∃m,n=m+1:=⟨n-1,@d⟩;exact sJ G m @c t
section
variable {α:Type} [@W] [@ai]
theorem A9(L:@s)(t):(L.map enc).any (iq · (enc t))=decide (t∈L):=by
 induction L with
 |nil=>simp
 |cons a r ih=>
  simp only[aq,oW,Enc.eqv,ih,bf];by_cases h:a=t
  .simp[h]
  .have h':¬ t=a:=λz=>h z.symm;by_cases h2:t∈r<;>simp[h,h',h2]
theorem Ia(L:@s)(h:m∈L):(L.map enc).findIdx? (iq · (enc m))=some (L.idxOf m):=by
 induction L with
 |nil=>cases h
 | cons a r ih=>
  rw[aq,List.findIdx?_cons,Enc.eqv,List.idxOf_cons];by_cases e:a=m
  .simp[e]
  .have hm:m∈r:=by rcases @dh with z |z;exact absurd z.symm e;exact z
   rw[ih hm];have z:(a == m)=false:=by simpa using e
   simp[e,z]
end
section
variable {κ α:Type} [@cD] [Enc κ] [@W] [@ai]
noncomputable def gc(l:@c2):@aJ:=l.map λp=>(enc p.1,enc p.2)
noncomputable def fi(l:@c2)(k:κ):Option α:=(l.find? λp=>p.1=k).map (·.2)
noncomputable def jO(l:@c2)(k:κ)(v:α):@c2:=if(l.any λp=>p.1=k)=true then l.map (λp=>if p.1=k then(p.1,v) else p) else l++[(k,v)]
theorem HF(l:@c2)(k):look (gc l) (enc k)=(fi l k).map enc:=by
 unfold look fi gc;induction l with
 |nil=>rfl
 |cons p r ih=>
  rw[aq,eF,eF];simp only[Enc.eqv];by_cases h:p.1=k
  .simp[h]
  .simp only[h,decide_false];exact ih
theorem Uh(l)(k:κ)(v:α):put (gc l) (enc k) (enc v)=gc (jO l k v):=by
 unfold put jO;have e:((gc l).any λp=>iq p.1 (enc k))=l.any λp=>decide (p.1=k):=by
  unfold gc;rw[List.any_map];congr 1;funext p;exact Enc.eqv _ _
 rw[e];split
 .unfold gc;rw[cP,cP];refine eD λp _=>?_;simp only[Function.comp,Enc.eqv,decide_eq_true_eq];split<;>rfl
 .unfold gc;rw[aF];rfl
theorem mW(l)(k j:κ)(v:α):fi (jO l k v) j=if k=j then @Q else fi l j:=by
 unfold jO;split
 .rename_i h;unfold fi;induction l with
  |nil=>simp at h
  | cons p r ih=>
   rw[aq,eF,eF];by_cases h1:p.1=k
   .rw [if_pos h1];by_cases h2:k=j
    .simp[h1,h2]
    .have:¬ p.1=j:=λz=>h2 (h1.symm.trans z);simp only[this,decide_false,h2,if_false];by_cases h3:(r.any λp=>decide (p.1=k))=true
     .have:=ih h3;rw[if_neg h2] at this;ext g
     .congr 1;have:r.map (λp=>if p.1=k then(p.1,v) else p)=r:=by
       conv=>rhs;rw[<-uW r]
       refine eD λq hq=>?_;rw[if_neg];rfl;intro z;exact h3 (List.any_eq_true.mpr ⟨q,hq,by simpa using z⟩)
      rw[this]
   .rw[if_neg h1];have h3:(r.any λp=>decide (p.1=k))=true:=by simpa[h1] using h
    by_cases h2:p.1=j
    .have:¬ k=j:=λz=>h1 (h2.trans z.symm);simp[h2,this]
    .simp only[h2,decide_false];exact ih h3
 .rename_i h;unfold fi;rw[mM];by_cases h2:k=j
  .subst h2;have:l.find? (λp=>decide (p.1=k))=none:=by
    rw[je];intro p hp z;exact h (List.any_eq_true.mpr ⟨p,hp,z⟩)
   rw[this];simp
  .simp[h2]
theorem tR(l)(k:κ)(v:α):(jO l k v).length<=l.length+1:=by
 unfold jO;split<;>simp
end
class qM (κ:Type) [@cD] [Enc κ] where
 ok:(∀k:κ,gG (enc k)=true)\/∀k:κ,vM (enc k)=true
instance:qM Int:=⟨.inl λ_=>rfl⟩
instance:qM T2:=⟨.inr λ_=>rfl⟩
instance:qM T3:=⟨.inr λ_=>rfl⟩
theorem vL [@cD] [Enc κ] [qM κ] [@W] [@ai](l:@c2)(k:κ):iM (gc l) (enc k)=true:=by
 unfold iM gc;rcases qM.ok (κ:=κ) with h |h
 .rw[dP];left;rw[h k,jR,SS,kC];intro p _;exact h p.1
 .rw[dP];right;rw[h k,jR,SS,kC];intro p _;exact h p.1
end K2
end
section
namespace K2
open PySem (Str)
open Enc (enc)
mutual
noncomputable def qo:D->D->Bool
 |.int a,.int b=>decide (a<b)
 |.tup a,.tup b=>kR a b
 |.dg a,.dg b=>kR a b
 |_,_=>false
noncomputable def kR:@e->@e->Bool
 |[],[]=>false
 |[],_::_=>true
 |_::_,[]=>false
 |x::xs,y::ys=>if iq x y=true then kR xs ys else qo x y
end
theorem nv(x y)(xs ys):kR (x::xs) (y::ys)=if iq x y=true then kR xs ys else qo x y:=rfl
theorem LV(a b):qo (@aB) (.int b)=decide (a<b):=rfl
inductive kW where
 |int |tup (l:List kW) |lst (s:kW)
mutual
noncomputable def di:kW->D->Bool
 |.int,.int _=>true
 |.tup l,.tup ds=>fK l ds
 |.lst s,.dg ds=>g8 s ds
 |_,_=>false
noncomputable def fK:List kW->@e->Bool
 |[],[]=>true
 |s::l,d::ds=>di s d&&fK l ds
 |_,_=>false
noncomputable def g8:kW->@e->Bool
 |_,[]=>true
 |s,d::ds=>di s d&&g8 s ds
end
theorem eg(h:di .int a=true):∃i,a=@M:=by cases a<;>first |exact⟨_,rfl⟩ |exact bO (show false=true from h)
theorem d6(h:di (.tup l) a=true):∃x,a=.tup x:=by cases a<;>first |exact⟨_,rfl⟩ |exact bO (show false=true from h)
theorem d8(h:di (.lst l) a=true):∃x,a=.dg x:=by cases a<;>first |exact⟨_,rfl⟩ |exact bO (show false=true from h)
mutual
noncomputable def Wx:kW->Nat
 |.int=>0
 |.tup l=>Ou l+1
 |.lst s=>Wx s+1
noncomputable def Ou:List kW->Nat
 |[]=>0
 |s::l=>max (Wx s) (Ou l)
end
def aau(sh:kW):Bool:=decide (Wx sh<=7)&&(match sh with
 |.tup []=>false
 |_=>true)
def S2(a b:D):Bool:=!qo b a
def sI(ds:@e):@e:=ds.mergeSort S2
class cF (α:Type) [@W] [@ai] where
 lt:α->α->Bool
 Dc:kW
 Oh:∀a:α,di Dc (enc a)=true
 ZA:∀a b:α,qo (enc a) (enc b)=lt a b
 S5:∀a,lt a a=false
 trans:∀a b c,lt a b=true->lt b c=true->lt a c=true
 TG:∀a b,lt a b=false->lt b a=false->a=b
instance:cF Int where
 lt:=λa b=>decide (a<b)
 Dc:=.int
 Oh:=λ_=>rfl
 ZA:=λa b=>rfl
 S5:=λa=>@L
 trans:=λa b c h1 h2=>by simp at *;lia
 TG:=λa b h1 h2=>by simp at *;lia
noncomputable def xh{α:Type} [@W](lt:α->α->Bool):@s->@s->Bool
 |[],[]=>false
 |[],_::_=>true
 |_::_,[]=>false
 |x::xs,y::ys=>if x=y then xh lt xs ys else lt x y
theorem BY [@W](lt)(x y)(xs ys:@s):xh lt (x::xs) (y::ys)=if x=y then xh lt xs ys else lt x y:=rfl
section
variable {α:Type} [@W] {lt:α->α->Bool}
theorem xg:∀x:@s,xh lt x x=false
 |[]=>rfl
 |a::x=>by simp only[BY,if_true];exact xg x
theorem xf(t:∀a b,lt a b=false->lt b a=false->a=b):∀(x y:@s),xh lt x y=false->xh lt y x=false->x=y
 |[],[],_,_=>rfl
 |[],_::_,h,_=>@a8
 |_::_,[],_,h=>@a8
 |a::x,b::y,h1,h2=>by
  simp only[BY] at h1 h2;by_cases e:a=b
  .subst e;simp only[if_true] at h1 h2;rw[xf t x y h1 h2]
  .rw[if_neg e] at h1;rw[if_neg (eB e)] at h2;exact absurd (t a b h1 h2) e
theorem qF(ir:∀a,lt a a=false)(tr:∀a b c,lt a b=true->lt b c=true->lt a c=true):∀(x y z:@s),xh lt x y=true->xh lt y z=true->xh lt x z=true
 |[],[],_,h,_=>@a8
 |[],_::_,[],_,h=>@a8
 |[],_::_,_::_,_,_=>rfl
 |_::_,[],_,h,_=>@a8
 |_::_,_::_,[],_,h=>@a8
 | a::x,b::y,c::z,h1,h2=>by
  simp only[BY] at h1 h2 ⊢;by_cases e1:a=b
  .subst e1;simp only[if_true] at h1;by_cases e2:a=c
   .subst e2;simp only[if_true] at h2 ⊢;exact qF ir tr x y z h1 h2
   .rw[if_neg e2] at h2 ⊢;exact h2
  .rw[if_neg e1] at h1;by_cases e2:b=c
   .subst e2;rw[if_neg e1];exact h1
   .rw[if_neg e2] at h2;have h3:=tr _ _ _ h1 h2;rw[if_neg (by ext d;rw[ir] at h3;cases h3)];exact h3
end
theorem w8 [@W] [@ai] [cF α]:∀(x y:@s),kR (x.map enc) (y.map enc)=xh (cF.lt (α:=α)) x y
 |[],[]=>rfl
 |[],_::_=>rfl
 |_::_,[]=>rfl
 |a::x,b::y=>by simp only[aq,nv,BY,Enc.eqv,w8 x y,cF.ZA,decide_eq_true_eq]
theorem Ec [@W] [@ai] [cF α]:∀(x:@s),g8 (cF.Dc α) (x.map enc)=true
 |[]=>rfl
 |a::x=>by simp only[aq,g8,cF.Oh,Ec x,Bool.and_self]
instance {α:Type} [@W] [@ai] [cF α]:cF (@s) where
 lt:=xh cF.lt
 Dc:=.lst (cF.Dc α)
 Oh:=λa=>Ec a
 ZA:=λa b=>w8 a b
 S5:=xg
 trans:=qF cF.S5 cF.trans
 TG:=xf cF.TG
noncomputable def T2.l(t:T2):@u:=[t.a,t.b]
noncomputable def T3.l(t:T3):@u:=[t.a,t.b,t.c]
instance:cF T2 where
 lt:=λx y=>xh (λa b=>decide (a<b)) x.l y.l
 Dc:=.tup [.int,.int]
 Oh:=λ_=>rfl
 ZA:=λa b=>w8 a.l b.l
 S5:=λa=>xg _
 trans:=λa b c=>qF (α:=Int) cF.S5 cF.trans _ _ _
 TG:=λ⟨a,b⟩ ⟨c,d⟩ h1 h2=>by
  have:=xf (α:=Int) cF.TG _ _ h1 h2;simpa[T2.l] using this
instance:cF T3 where
 lt:=λx y=>xh (λa b=>decide (a<b)) x.l y.l
 Dc:=.tup [.int,.int,.int]
 Oh:=λ_=>rfl
 ZA:=λa b=>w8 a.l b.l
 S5:=λa=>xg _
 trans:=λa b c=>qF (α:=Int) cF.S5 cF.trans _ _ _
 TG:=λ⟨a,b,e⟩ ⟨c,d,f⟩ h1 h2=>by
  have:=xf (α:=Int) cF.TG _ _ h1 h2;simpa[T3.l] using this
section
variable {α:Type} [@W] [@ai] [cF α]
noncomputable def AY(a b:α):Bool:=!cF.lt b a
def Gr(xs:@s):@s:=xs.mergeSort AY
theorem Nb(xs:@s):sI @aY=(Gr xs).map enc:=by
 unfold sI Gr;symm;exact List.map_mergeSort λa _ b _=>by unfold AY S2;rw[cF.ZA]
theorem yI(a b c:α)(h1:AY a b=true)(h2:AY b c=true):AY a c=true:=by
 unfold AY at *;simp only[jS] at *;cases h:cF.lt c a with
 |false=>rfl
 | true=>
  by_cases e:a=b
  .subst e;rw[h] at h2;cases h2
  .have RC:cF.lt a b=true:=by
    cases q:cF.lt a b with
    |true=>rfl
    |false=>exact absurd (cF.TG _ _ q h1) e
   rw[cF.trans _ _ _ h RC] at h2;cases h2
theorem NY(a b:α):(AY a b||AY b a)=true:=by
 unfold AY;cases h:cF.lt b a with
 |false=>rfl
 |true=>
  cases h2:cF.lt a b with
  |false=>rfl
  |true=>have:=cF.trans _ _ _ h h2;rw[cF.S5] at this;cases this
theorem B1(a b:α)(h1:AY a b=true)(h2:AY b a=true):a=b:=by
 unfold AY at *;exact cF.TG a b (@b0) (@di)
theorem ph(xs:@s):(Gr xs).Perm xs:=List.mergeSort_perm xs AY
theorem Bq(xs:@s):(Gr xs).Pairwise λa b=>AY a b=true:=OV yI NY xs
theorem C8:∀{xs ys:@s},xs.Perm ys->xs.Pairwise (λa b=>AY a b=true)->ys.Pairwise (λa b=>AY a b=true)->xs=ys:=by
 intro xs ys hp h1 h2;exact Gm (λa b _ _ h h'=>B1 a b h h') h1 h2 hp
theorem Ly{x:α}:x∈Gr xs↔x∈xs:=(ph xs).mem_iff
theorem TQ(xs:@s):(Gr xs).length=xs.length:=(ph xs).length_eq
theorem t6{xs:@s}(h:xs.Nodup):(Gr xs).Nodup:=(ph xs).nodup_iff.mpr h
end
end K2
end
section
namespace K2
open PySem (Str)
mutual
theorem kT:∀(sh:kW) (a:D),di sh a=true->iq a a=true
 |.int,.int i,_=>by show(i == i)=true;exact beq_self_eq_true i
 |.tup l,.tup xs,h=>by show lE xs xs=true;exact zI l xs h
 |.lst l,.dg xs,h=>by show lE xs xs=true;exact zJ l xs h
theorem zI:∀(l:List kW) (xs:@e),fK l xs=true->lE xs xs=true
 |[],[],_=>rfl
 |s::l,x::xs,h=>by
  have h:(di s x&&fK l xs)=true:=h;rw[aP] at h;show(iq x x&&lE xs xs)=true;rw[kT s x h.1,zI l xs h.2];rfl
theorem zJ:∀(s:kW) (xs:@e),g8 s xs=true->lE xs xs=true
 |_,[],_=>rfl
 |s,x::xs,h=>by
  have h:(di s x&&g8 s xs)=true:=h;rw[aP] at h;show(iq x x&&lE xs xs)=true;rw[kT s x h.1,zJ s xs h.2];rfl
end
theorem YQ(s)(ih:∀(a b:D),di s a=true->di s b=true->iq a b=true->a=b):∀(xs ys:@e),g8 s xs=true->g8 s ys=true->lE xs ys=true->xs=ys:=by
 intro xs;induction xs with
 |nil=>intro ys _ _ h;cases ys with
  |nil=>rfl
  |cons _ _=>cases h
 | cons x xs ihx=>
  intro ys h1 h2 h;cases ys with
  |nil=>cases h
  |cons y ys=>
   have h1:(di s x&&g8 s xs)=true:=h1;have h2:(di s y&&g8 s ys)=true:=h2;have h:(iq x y&&lE xs ys)=true:=h;rw[aP] at h1 h2 h;rw[ih x y h1.1 h2.1 h.1,ihx ys h1.2 h2.2 h.2]
mutual
theorem qY:∀(sh:kW) (a b:D),di sh a=true->di sh b=true->iq a b=true->a=b
 |.int,a,b,h1,h2,h=>by
  ext m
  ext n
  rw[nI] at h;rw[beq_iff_eq.mp h]
 |.tup l,a,b,h1,h2,h=>by
  ext m
  ext n
  rw[RX l _ _ h1 h2 h]
 |.lst l,a,b,h1,h2,h=>by
  ext m
  ext n
  rw[YQ l (qY l) _ _ h1 h2 h]
theorem RX:∀(l:List kW) (xs ys:@e),fK l xs=true->fK l ys=true->lE xs ys=true->xs=ys
 | [],xs,ys,h1,h2,_=>by
  cases xs with
  |nil=>cases ys with
   |nil=>rfl
   |cons _ _=>cases h2
  |cons _ _=>cases h1
 | s::l,xs,ys,h1,h2,h=>by
  cases xs with
  |nil=>cases h1
  | cons x xs=>
   cases ys with
   |nil=>cases h2
   |cons y ys=>
    have h1:(di s x&&fK l xs)=true:=h1;have h2:(di s y&&fK l ys)=true:=h2;have h:(iq x y&&lE xs ys)=true:=h;rw[aP] at h1 h2 h;rw[qY s x y h1.1 h2.1 h.1,RX l xs ys h1.2 h2.2 h.2]
end
theorem QQ(s)(ih:∀(a b:D),di s a=true->di s b=true->qo a b=false->qo b a=false->a=b):∀(xs ys:@e),g8 s xs=true->g8 s ys=true->kR xs ys=false->kR ys xs=false->xs=ys:=by
 intro xs;induction xs with
 |nil=>intro ys _ _ h _;cases ys with
  |nil=>rfl
  |cons _ _=>cases h
 | cons x xs ihx=>
  intro ys h1 h2 h3 h4;cases ys with
  |nil=>cases h4
  | cons y ys=>
   have h1:(di s x&&g8 s xs)=true:=h1;have h2:(di s y&&g8 s ys)=true:=h2;rw[aP] at h1 h2;simp only[nv] at h3 h4;by_cases e:iq x y=true
   .have exy:=qY s x y h1.1 h2.1 e;subst exy;rw[if_pos e] at h3 h4;rw[ihx ys h1.2 h2.2 h3 h4]
   .rw[if_neg e] at h3;by_cases e2:iq y x=true
    .have:=qY s y x h2.1 h1.1 e2;ext c;exact absurd e2 e
    .rw[if_neg e2] at h4;have:=ih x y h1.1 h2.1 h3 h4;ext c;exact absurd (kT s x h1.1) e
mutual
theorem AV:∀(sh:kW) (a b:D),di sh a=true->di sh b=true->qo a b=false->qo b a=false->a=b
 |.int,a,b,h1,h2,h3,h4=>by
  ext m
  ext n
  simp[LV] at h3 h4;congr 1;lia
 |.tup l,a,b,h1,h2,h3,h4=>by
  ext m
  ext n
  rw[HA l _ _ h1 h2 h3 h4]
 |.lst l,a,b,h1,h2,h3,h4=>by
  ext m
  ext n
  rw[QQ l (AV l) _ _ h1 h2 h3 h4]
theorem HA:∀(l:List kW) (xs ys:@e),fK l xs=true->fK l ys=true->kR xs ys=false->kR ys xs=false->xs=ys
 | [],xs,ys,h1,h2,_,_=>by
  cases xs with
  |nil=>cases ys with
   |nil=>rfl
   |cons _ _=>cases h2
  |cons _ _=>cases h1
 | s :: l,xs,ys,h1,h2,h3,h4=>by
  cases xs with
  |nil=>cases h1
  | cons x xs=>
   cases ys with
   |nil=>cases h2
   | cons y ys=>
    have h1:(di s x&&fK l xs)=true:=h1;have h2:(di s y&&fK l ys)=true:=h2;rw[aP] at h1 h2;simp only[nv] at h3 h4;by_cases e:iq x y=true
    .have exy:=qY s x y h1.1 h2.1 e;subst exy;rw[if_pos e] at h3 h4;rw[HA l xs ys h1.2 h2.2 h3 h4]
    .rw[if_neg e] at h3;by_cases e2:iq y x=true
     .have:=qY s y x h2.1 h1.1 e2;ext c;exact absurd e2 e
     .rw[if_neg e2] at h4;have:=AV s x y h1.1 h2.1 h3 h4;ext c;exact absurd (kT s x h1.1) e
end
mutual
theorem Fj:∀(sh:kW) (a:D),di sh a=true->qo a a=false
 |.int,.int i,_=>by rw[LV];exact decide_eq_false (Int.lt_irrefl _)
 |.tup l,.tup xs,h=>by show kR xs xs=false;exact HB l xs h
 |.lst l,.dg xs,h=>by show kR xs xs=false;exact HC l xs h
theorem HB:∀(l:List kW) (xs:@e),fK l xs=true->kR xs xs=false
 |[],[],_=>rfl
 |s::l,x::xs,h=>by
  have h:(di s x&&fK l xs)=true:=h;rw[aP] at h;simp only[nv,kT s x h.1,if_true];exact HB l xs h.2
theorem HC:∀(s:kW) (xs:@e),g8 s xs=true->kR xs xs=false
 |_,[],_=>rfl
 |s,x::xs,h=>by
  have h:(di s x&&g8 s xs)=true:=h;rw[aP] at h;simp only[nv,kT s x h.1,if_true];exact HC s xs h.2
end
theorem Ka(s)(ih:∀(a b c:D),di s a=true->di s b=true->di s c=true->qo a b=true->qo b c=true->qo a c=true):∀(xs ys zs:@e),g8 s xs=true->g8 s ys=true->g8 s zs=true->kR xs ys=true->kR ys zs=true->kR xs zs=true:=by
 intro xs;induction xs with
 | nil=>
  intro ys zs _ _ _ h4 h5;cases ys with
  |nil=>cases h4
  |cons _ _=>cases zs with
   |nil=>cases h5
   |cons _ _=>rfl
 | cons x xs ihx=>
  intro ys zs h1 h2 h3 h4 h5;cases ys with
  |nil=>cases h4
  | cons y ys=>
   cases zs with
   |nil=>cases h5
   | cons z zs=>
    have h1:(di s x&&g8 s xs)=true:=h1;have h2:(di s y&&g8 s ys)=true:=h2;have h3:(di s z&&g8 s zs)=true:=h3;rw[aP] at h1 h2 h3;simp only[nv] at h4 h5 ⊢;by_cases e1:iq x y=true
    .have:=qY s x y h1.1 h2.1 e1;ext c;rw[if_pos e1] at h4;by_cases e2:iq x z=true
     .rw[if_pos e2] at h5 ⊢;exact ihx ys zs h1.2 h2.2 h3.2 h4 h5
     .rw[if_neg e2] at h5 ⊢;exact h5
    .rw[if_neg e1] at h4;by_cases e2:iq y z=true
     .have:=qY s y z h2.1 h3.1 e2;ext c;rw[if_neg e1];exact h4
     .rw[if_neg e2] at h5;have h6:=ih x y z h1.1 h2.1 h3.1 h4 h5;rw[if_neg (λe3=>by
       have:=qY s x z h1.1 h3.1 e3;ext c;rw[Fj s x h1.1] at h6;cases h6)]
      exact h6
mutual
theorem uj:∀(sh:kW) (a b c:D),di sh a=true->di sh b=true->di sh c=true->qo a b=true->qo b c=true->qo a c=true
 |.int,a,b,c,h1,h2,h3,h4,h5=>by
  ext m
  ext n
  first |obtain⟨_,rfl⟩:=eg h3 |obtain⟨_,rfl⟩:=d6 h3 |obtain⟨_,rfl⟩:=d8 h3
  simp[LV] at *;lia
 |.tup l,a,b,c,h1,h2,h3,h4,h5=>by
  ext m
  ext n
  first |obtain⟨_,rfl⟩:=eg h3 |obtain⟨_,rfl⟩:=d6 h3 |obtain⟨_,rfl⟩:=d8 h3
  exact BS l _ _ _ h1 h2 h3 h4 h5
 |.lst l,a,b,c,h1,h2,h3,h4,h5=>by
  ext m
  ext n
  first |obtain⟨_,rfl⟩:=eg h3 |obtain⟨_,rfl⟩:=d6 h3 |obtain⟨_,rfl⟩:=d8 h3
  exact Ka l (uj l) _ _ _ h1 h2 h3 h4 h5
theorem BS:∀(l:List kW) (xs ys zs:@e),fK l xs=true->fK l ys=true->fK l zs=true->kR xs ys=true->kR ys zs=true->kR xs zs=true
 | [],xs,ys,zs,h1,h2,_,h,_=>by
  cases xs with
  |nil=>cases ys with
   |nil=>cases h
   |cons _ _=>cases h2
  |cons _ _=>cases h1
 | s :: l,xs,ys,zs,h1,h2,h3,h4,h5=>by
  cases xs with
  |nil=>cases h1
  | cons x xs=>
   cases ys with
   |nil=>cases h2
   | cons y ys=>
    cases zs with
    |nil=>cases h3
    | cons z zs=>
     have h1:(di s x&&fK l xs)=true:=h1;have h2:(di s y&&fK l ys)=true:=h2;have h3:(di s z&&fK l zs)=true:=h3;rw[aP] at h1 h2 h3;simp only[nv] at h4 h5 ⊢;by_cases e1:iq x y=true
     .have:=qY s x y h1.1 h2.1 e1;ext c;rw[if_pos e1] at h4;by_cases e2:iq x z=true
      .rw[if_pos e2] at h5 ⊢;exact BS l xs ys zs h1.2 h2.2 h3.2 h4 h5
      .rw[if_neg e2] at h5 ⊢;exact h5
     .rw[if_neg e1] at h4;by_cases e2:iq y z=true
      .have:=qY s y z h2.1 h3.1 e2;ext c;rw[if_neg e1];exact h4
      .rw[if_neg e2] at h5;have h6:=uj s x y z h1.1 h2.1 h3.1 h4 h5;rw[if_neg (λe3=>by
        have:=qY s x z h1.1 h3.1 e3;ext c;rw[Fj s x h1.1] at h6;cases h6)]
       exact h6
end
theorem yG(sh)(h1:di sh a=true)(h2:di sh b=true)(h:qo a b=true):qo b a=false:=by
 cases q:qo b a with
 |false=>rfl
 |true=>have:=uj sh a b a h1 h2 h1 h q;rw[Fj sh a h1] at this;cases this
theorem vJ(sh)(h1:di sh a=true)(h2:di sh b=true)(h3:di sh c=true)(q1:qo b a=false)(q2:qo c b=false):qo c a=false:=by
 cases h:qo c a with
 |false=>rfl
 | true=>
  exfalso;cases q:qo a b with
  |false=>
   have:=AV sh a b h1 h2 q q1;ext c;rw[h] at q2;cases q2
  |true=>rw[uj sh c a b h3 h1 h2 h q] at q2;cases q2
theorem wx(sh)(hx:∀x∈xs,di sh x=true)(hp:ys.Perm xs)(hs:ys.Pairwise λa b=>qo b a=false):sI xs=ys:=by
 have hy:∀y∈ys,di sh y=true:=λy h=>hx y (hp.mem_iff.mp h);have p1:(sI xs).Perm xs:=List.mergeSort_perm xs S2;have hz:∀z∈sI xs,di sh z=true:=λz h=>hx z (p1.mem_iff.mp h);have s1:(sI xs).Pairwise λa b=>qo b a=false:=by
  let ZW:List {d:D // di sh d=true}:=xs.attach.map λx=>⟨x.1,hx x.1 x.2⟩
  have ex:xs=ZW.map @N:=by
   simp only[ZW,cP]
   conv=>lhs;rw[<-List.attach_map_subtype_val xs]
   rfl
  have e2:sI xs=(ZW.mergeSort λa b=>S2 a.1 b.1).map @N:=by
   unfold sI;rw[ex];exact(List.map_mergeSort (r:=λ(a b:{d:D // di sh d=true})=>S2 a.1 b.1) (s:=S2) (f:=λx=>x.1) (l:=ZW) λa _ b _=>rfl).symm
  rw[e2,cS]
  have:=OV (le:=λ(a b:{d:D // di sh d=true})=>S2 a.1 b.1) (λa b c h1 h2=>by
   unfold S2 at *;simp only[jS] at *;exact vJ sh a.2 b.2 c.2 h1 h2) (λa b=>by
   unfold S2;cases q:qo b.1 a.1 with
   |false=>rfl
   |true=>rw[yG sh b.2 a.2 q];rfl) ZW
  exact this.imp λh=>by unfold S2 at h;simpa using h
 refine Gm (le:=λa b=>qo b a=false) (λa b ha hb h h'=>?_) s1 hs (p1.trans hp.symm);exact AV sh a b (hz a ha) (hy b hb) h' h
end K2
end
section
namespace K2
open PySem (Str)
open Enc (enc)
noncomputable def kE(k:Nat):@e->@e
 |[]=>[]
 |d::r=>.tup [.int (k:Int),d]::kE (k+1) r
theorem Ek:∀(ds:@e) (k i:Nat),(kE k ds)[i]?=(ds[i]?).map λd=>D.tup [.int ((k+i:Nat):Int),d]
 |[],k,i=>by simp[kE]
 |d::r,k,0=>by simp[kE]
 |d::r,k,i+1=>by
  rw[kE,ae,Ek r (k+1) i,ae];congr 1;funext x;congr 3;lia
theorem Ej:∀(ds:@e) (k:Nat),(kE k ds).length=ds.length
 |[],_=>rfl
 |d::r,k=>by rw[kE,af,af,Ej r]
def xl(x:D)(G1:Gp)(R:@bT):Prop:=match x with
 |.dg ds=>R (kE 0 ds) @bd G1
 |.ref p=>(match G1 p with
  |some (.lst ds)=>R (kE 0 ds) (λG2=>G2 p=@bJ) G1
  |_=>False)
 |_=>False
def B8(a:gE):SD:=λE τ G R=>a E τ G λx G1=>xl x G1 R
def adO(P:D->@E):@e->@E
 |[x],G=>P x G
 |_,_=>False
def adN(P:D->D->@E):@e->@E
 |[x,y],G=>P x y G
 |_,_=>False
noncomputable def uN:@e->@e->@e
 |x::xs,y::ys=>.tup [x,y]::uN xs ys
 |_,_=>[]
theorem GG:∀(xs ys:@e) (i:Nat),(uN xs ys)[i]?=(xs[i]?).bind λx=>(ys[i]?).map λy=>D.tup [x,y]
 |[],ys,i=>by simp[uN]
 |x::xs,[],i=>by cases h:(x::xs)[i]?<;>simp[uN]
 |x::xs,y::ys,0=>by simp[uN]
 |x::xs,y::ys,i+1=>by rw[uN,ae,GG xs ys i,ae,ae]
theorem GF:∀(xs ys:@e),(uN xs ys).length=@dK
 |[],ys=>by simp[uN]
 |x::xs,[]=>by simp[uN]
 |x::xs,y::ys=>by rw[uN,af,GF xs ys,af,af];lia
noncomputable def BV(x:D)(G:Gp):Option (@e×(@E)):=match x with
 |.dg ds=>some (ds,λ_=>True)
 |.ref p=>(match G p with
  |some (.lst ds)=>some (ds,λG2=>G2 p=@bJ)
  |_=>none)
 |_=>none
def B7(x y:D)(G1:Gp)(R:@bT):Prop:=match BV x G1,BV y G1 with
 |some (xs,k1),some (ys,k2)=>R (uN xs ys) (λG2=>k1 G2/\k2 G2) G1
 |_,_=>False
def Rc(a b:gE):SD:=λE τ G R=>a E τ G λx G1=>b E τ G1 λy G2=>B7 x y G2 R
def IsL(G:Gp)(d:D)(ds:@e):Prop:=d=.dg ds\/∃a,d=@ar/\G a=@bJ
theorem IsL.dg:IsL G (.dg ds) ds:=@I
theorem IsL.enc [@W] [@ai](xs:@s):IsL G (enc xs) @aY:=@I
theorem IsL.ref{G:Gp}{a:Nat}{ds:@e}(h:G a=@bJ):IsL G @U ds:=.inr ⟨a,rfl,h⟩
theorem IsL.mono(h:IsL G d ds)(l:@O):IsL G' d ds:=by
 rcases h with h |⟨a,h,e⟩
 .exact .inl h
 .exact .inr ⟨a,h,l a _ e⟩
theorem Yu{G:Gp}{d:D}{ds:@e}{R:@bT}(h:IsL G d ds)(k:∀ok:@E,(∀G',@O->ok G')->R ds ok G):Rf d G R:=by
 ext v
 .exact k _ λ_ _=>trivial
 .rw[A3 e];exact k _ λG' l=>l a _ e
theorem PJ{G:Gp}{d:D}{ds:@e}{Q:Bool->@E}(h:IsL G d ds)(k:Q (!ds.isEmpty) G):uX d G Q:=by
 ext v
 .exact k
 .rw[M0 e];exact k
theorem vN(h:IsL G d ds):itemsOf d G=some ds:=by
 ext v
 .rfl
 .unfold itemsOf;simp only[e]
theorem PD(h:IsL G d ds):vw d G:=by
 ext v
 .trivial
 .unfold vw;simp only[e]
theorem sV(h:IsL G d ds)(k:jN G (.lst (cut ds lo hi)) Q):T9 d lo hi G Q:=by
 ext v
 .exact k
 .rw[T8 e];exact k
theorem mJ{G:Gp}{d:D}{ds:@e}{Q:DK}(h:IsL G d ds)(k:Q (.int (ds.length:Int)) G):nP [d] G Q:=by
 ext v
 .exact k
 .rw[So e];exact k
theorem Ir(h:IsL G d ds)(k:jN G (.lst ds) Q):tQ [d] G Q:=by
 unfold tQ;simp only[vN h];exact k
theorem fL{G:Gp}{d x:D}{ds:@e}{i:Int}{Q:DK}(h:IsL G d ds)(e:nS ds i=@ak)(k:Q x G):fG d (@M) G Q:=by
 rcases h with rfl |⟨a,rfl,e2⟩
 .rw[Ua e];exact k
 .rw[Ub e2 e];exact k
theorem ny(h:IsL G d ds):pM d G=some ds:=by
 ext v
 .rfl
 .unfold pM;simp only[e]
theorem VJ(h:IsL G d ds)(h':IsL G e es)(hz:ds.length+es.length<=SZ)(k:jN G (.lst (ds++es)) Q):F3 d e G Q:=by
 unfold F3;simp only[ny h,ny h'];exact⟨hz,k⟩
theorem mz(h:IsL G d ds)(h':IsL G e es)(hz:ds.length+es.length<=SZ)(k:jN G (.lst (ds++es)) Q):ik d e G Q:=by
 have:=VJ h h' hz k;rcases h with rfl |⟨a,rfl,_⟩
 .rw[pG];ext g
 .rw[pH];ext g
theorem Cq(xs:@s)(i)(h:i<=xs.length):cut xs (some (i:Int)) none=xs.drop i:=by
 unfold cut jm;simp only;rw[if_neg @c,dw,yr h];exact mh (by rw[cx];lia)
theorem KH(xs:@s)(i)(h:i<=xs.length):cut xs none (some (i:Int))=xs.take i:=by
 unfold cut jm;simp only;rw[if_neg @c,dw,yr h];simp
theorem oF(f:α->β)(xs)(lo hi):cut (xs.map f) lo hi=(cut xs lo hi).map f:=by
 unfold cut;rw[ag,OW,OX]
theorem i8(xs:@s){k:Int}(h0:0<=k)(h1:k<xs.length):nS xs k=some (xs[k.toNat]'(@d)):=by
 unfold nS D8;rw[if_pos h0,if_pos h1];show xs[k.toNat]?=_;exact az @c
def TV [@W] [@ai] [DecidableEq β] [Enc β](pre:α->Prop)(f:α->β):gM:=λds G Q _=>∃a:α,ds=[enc a]/\pre a/\Q (enc (f a)) G
def Z4 [@W] [@ai] [DecidableEq β] [Enc β] [DecidableEq γ] [Enc γ](pre:α->β->Prop)(f:α->β->γ):gM:=λds G Q _=>∃(a:α) (b:β),ds=[enc a,enc b]/\pre a b/\Q (enc (f a b)) G
section
variable {κ α:Type} [@cD] [Enc κ] [@W] [@ai] {l:@c2} {G G':Gp} {d:D}
def IsR(_:Gp)(d:D)(l:@c2):Prop:=d=.vX (gc l)
end
abbrev TF2:=l8->iw->Gp->(@D->@E)->Prop
def Eo(a:gE):gE:=λE τ G Q=>a E τ G λx G1=>∃ds,pM x G1=some ds/\jN G1 (.lst ds.reverse) Q
def Sl(ds:@e)(G:Gp)(Q:DK):Prop:=match ds with
 |[x]=>∃ns:@u,vw x G/\@cw=some (@bg)/\(ns.length<=1000/\∀n∈ns,-1000<=n/\n<=1000)/\Q (.int ns.sum) G
 |_=>False
end K2
end
section
namespace K2
open PySem (Str)
def D0(x:D)(ds:@e)(G:Gp)(Q:DK):Prop:=match x,ds with
 |.ref a,[k,d]=>∃bB,G a=some (.kU bB)/\iM bB k=true/\Q ((look bB k).getD d) G
 |_,_=>False
theorem QP{κ α:Type} [@cD] [Enc κ] [qM κ] [@W] [@ai]{a:Nat}{l:@c2}{k:κ}{e:α}{G:Gp}{Q:DK}(h:G a=some (.kU (gc l)))(q:Q (Enc.enc ((fi l k).getD e)) G):D0 @U [Enc.enc k,Enc.enc e] G Q:=by
 refine⟨_,h,vL _ _,?_⟩;have:(look (gc l) (Enc.enc k)).getD (Enc.enc e)=Enc.enc ((fi l k).getD e):=by
  rw[HF];cases fi l k<;>rfl
 rw[this];exact q
end K2
end
section
namespace K2
open PySem (Str)
open Enc (enc)
noncomputable def h2(t:T2):Int:=PySem.reduceHash (PySem.Builtin.Tuple.tupleHashOf [PySem.hashInt t.a,PySem.hashInt t.b])
end K2
end
section
namespace K2
open PySem (Str)
def SA(al:@D)(f:Str)(x:D)(G:Gp)(Q:DK):Prop:=∃a c fs d,x=@ar/\G a=some (.ins c fs)/\c∈al/\fs.lookup f=@aM/\Q d G
def c6(al:@D)(f:Str)(te:gE):gE:=λE τ G Q=>te E τ G λx G1=>SA al f x G1 Q
end K2
namespace K2
open PySem (Str)
noncomputable def putD(f:Str)(d:D):@c4->@c4
 |[]=>[(f,d)]
 |(g,x)::r=>if g=f then(g,d)::r else(g,x)::putD f d r
def ja(al:@D)(f:Str)(to tv:gE):fZ:=λE K τ G=>tv E τ G λd G1=>to E τ G1 λx G2=>∃a c fs,x=@ar/\G2 a=some (.ins c fs)/\c∈al/\fs.length<1000/\K.nx τ (cJ G2 a (.ins c (putD f d fs)))
def oE(c:Str)(sp:gM)(t:Bb):gE:=λE τ G Q=>t E τ G λds G1=>∀p,G1 p=none->sp (@V::ds) (cJ G1 p (.ins c [])) (λv G2=>v=.cY/\Q (@V) G2) @t
end K2
namespace K2
open PySem (Str)
def iW(ms:List (Str×gM))(m:Str)(to:gE)(t:Bb):gE:=λE τ G Q=>to E τ G λx G1=>∃a c fs sp,x=@ar/\G1 a=some (.ins c fs)/\(c,sp)∈ms/\fs.lookup m=none/\t E τ G1 λds G2=>sp (x::ds) G2 Q @t
end K2
end
local macro_rules | `(tactic|simp! $[[$a,*]]? $[$l:location]?)=>match a with |some a=>`(tactic|simp only[↓aa,↓ae,↓ai,↓ao,↓af,↓au,↓aK,↓aq,↓aA,↓aB,↓K2.bP,↓K2.aO,↓aj,↓if_false,↓if_true,↓K2.cU,↓K2.cM,↓K2.dO,↓a9,↓bI,↓K2.gr,↓K2.cZ,↓K2.g6,↓K2.gR,↓K2.fE,↓K2.kM,↓K2.jA,↓true_and,↓K2.eV,↓K2.ff,↓K2.jw,↓K2.lq,↓K2.qB,↓K2.ug,↓K2.qG,↓K2.iF,↓K2.pW,↓K2.uD,↓K2.ju,↓K2.jv,↓K2.iU,↓K2.qA,↓K2.nO,↓K2.wg,↓K2.cG,↓K2.aT,↓K2.ends,↓K2.aM,↓K2.yS,↓K2.ak,↓K2.jV,↓K2.mU,↓K2.ah,↓K2.aH,↓K2.bQ,↓K2.Mt,↓K2.cW,↓K2.bx,↓K2.aI,↓K2.dC,↓K2.b8,↓K2.dN,↓K2.c9,↓K2.Ag,↓K2.xK,↓K2.xM,↓K2.Mu,↓K2.vP,↓K2.tO,↓K2.vY,↓K2.eO,↓K2.aS,↓K2.eC,↓K2.wZ,↓K2.pH,↓K2.pG,↓K2.AJ,↓K2.wX,↓K2.AN,↓K2.wW,↓K2.xO,↓K2.uI,↓K2.ly,↓K2.oz,↓K2.jI,↓K2.AF,↓K2.AE,↓and_true,↓K2.A1,↓K2.tm,↓K2.A0,↓K2.xk,↓aN,$a,*] $[$l:location]?) |none=>`(tactic|simp only[↓aa,↓ae,↓ai,↓ao,↓af,↓au,↓aK,↓aq,↓aA,↓aB,↓K2.bP,↓K2.aO,↓aj,↓if_false,↓if_true,↓K2.cU,↓K2.cM,↓K2.dO,↓a9,↓bI,↓K2.gr,↓K2.cZ,↓K2.g6,↓K2.gR,↓K2.fE,↓K2.kM,↓K2.jA,↓true_and,↓K2.eV,↓K2.ff,↓K2.jw,↓K2.lq,↓K2.qB,↓K2.ug,↓K2.qG,↓K2.iF,↓K2.pW,↓K2.uD,↓K2.ju,↓K2.jv,↓K2.iU,↓K2.qA,↓K2.nO,↓K2.wg,↓K2.cG,↓K2.aT,↓K2.ends,↓K2.aM,↓K2.yS,↓K2.ak,↓K2.jV,↓K2.mU,↓K2.ah,↓K2.aH,↓K2.bQ,↓K2.Mt,↓K2.cW,↓K2.bx,↓K2.aI,↓K2.dC,↓K2.b8,↓K2.dN,↓K2.c9,↓K2.Ag,↓K2.xK,↓K2.xM,↓K2.Mu,↓K2.vP,↓K2.tO,↓K2.vY,↓K2.eO,↓K2.aS,↓K2.eC,↓K2.wZ,↓K2.pH,↓K2.pG,↓K2.AJ,↓K2.wX,↓K2.AN,↓K2.wW,↓K2.xO,↓K2.uI,↓K2.ly,↓K2.oz,↓K2.jI,↓K2.AF,↓K2.AE,↓and_true,↓K2.A1,↓K2.tm,↓K2.A0,↓K2.xk,↓aN] $[$l:location]?)
section
namespace K2
open PySem (Str)
def aag(x:D)(k:@aT)(G:Gp)(Q:DK):Prop:=k=some (-1)/\∃a b,pM x G=some [a,b]/\jN G (.lst [b,a]) Q
def Il(ta:gE)(ts:Zl):gE:=λE τ G Q=>ta E τ G λx G1=>ts E τ G1 λk G2=>aag x k G2 Q
noncomputable def only(a:Nat)(o:GO):Gp:=λb=>if b=a then @j else none
def oS(ws:List (Str×List kW))(d:D):Bool:=match d with
 |.tup (.str w::ds)=>(match ws.lookup w with
  |some l=>fK l ds
  |none=>false)
 |_=>false
noncomputable def Tx(a b:Str):Bool:=decide (a.cps.toList<b.cps.toList)
def Fi(a b:D):Bool:=match a,b with
 |.tup (.str w::xs),.tup (.str v::ys)=>if w=v then kR xs ys else Tx w v
 |_,_=>false
def adP(ws:List (Str×List kW)):Bool:=ws.all λp=>decide (Ou p.2<=6)&&p.1.cps.all λx=>decide (x<1114112)
def nM(ws:List (Str×List kW))(ds:@e)(G:Gp)(Q:DK):Prop:=match ds with
 |[x]=>∃xs,vw x G/\@cw=some xs/\(xs.all (oS ws)=true/\adP ws=true/\xs.length<64)/\∀ys,ys.Perm xs->(ys.Pairwise λa b=>Fi b a=false)->jN G (.lst ys) Q
 |_=>False
theorem mF(h:oS ws d=true):∃w l ds,d=.tup (.str w::ds)/\ws.lookup w=some l/\fK l ds=true:=by
 unfold oS at h;split at h
 .rename_i w ds;cases q:ws.lookup w with
  |none=>rw[q] at h;cases h
  |some l=>rw[q] at h;exact⟨w,l,ds,rfl,q,h⟩
 .cases h
theorem kQ:Fi (.tup (.str w::xs)) (.tup (.str v::ys))=if w=v then kR xs ys else Tx w v:=rfl
theorem MV(h:Tx a b=true):Tx b a=false:=by
 have h:a.cps.toList<b.cps.toList:=of_decide_eq_true h;exact decide_eq_false λz=>List.lt_irrefl _ (List.lt_trans h z)
theorem Jm(h1:Tx b a=false)(h2:Tx c b=false):Tx c a=false:=by
 have h1:=of_decide_eq_false h1;have h2:=of_decide_eq_false h2;exact decide_eq_false λz=>by
  have:=List.le_trans (List.not_lt.mp h1) (List.not_lt.mp h2);exact List.not_lt.mpr this z
theorem Tw(h1:Tx a b=false)(h2:Tx b a=false):a=b:=by
 have h1:=of_decide_eq_false h1;have h2:=of_decide_eq_false h2;have e:=List.le_antisymm (List.not_lt.mp h2) (List.not_lt.mp h1);cases a;cases b;congr 1;exact Array.toList_inj.mp e
theorem D1(h1:oS ws a=true)(h2:oS ws b=true)(h:Fi a b=true):Fi b a=false:=by
 obtain⟨w,l,xs,rfl,e1,s1⟩:=mF h1;obtain⟨v,l',ys,rfl,e2,s2⟩:=mF h2;rw[kQ] at h ⊢;by_cases e:w=v
 .subst e;rw[e1] at e2;cases e2;rw[if_pos rfl] at h ⊢;exact yG (.tup l) (a:=.tup xs) (b:=.tup ys) s1 s2 h
 .rw[if_neg e] at h;rw[if_neg (eB e)];exact MV h
theorem J9(h1:oS ws a=true)(h2:oS ws b=true)(h3:oS ws c=true)(q1:Fi b a=false)(q2:Fi c b=false):Fi c a=false:=by
 obtain⟨w,l,xs,rfl,e1,s1⟩:=mF h1;obtain⟨v,l',ys,rfl,e2,s2⟩:=mF h2;obtain⟨u,l2,zs,rfl,e3,s3⟩:=mF h3;rw[kQ] at q1 q2 ⊢;by_cases wv:v=w
 .subst wv;rw[e1] at e2;cases e2;rw[if_pos rfl] at q1;by_cases uv:u=v
  .subst uv;rw[e1] at e3;cases e3;rw[if_pos rfl] at q2 ⊢;exact vJ (.tup l) (a:=.tup xs) (b:=.tup ys) (c:=.tup zs) s1 s2 s3 q1 q2
  .rw[if_neg uv] at q2 ⊢;exact q2
 .rw[if_neg wv] at q1;by_cases uv:u=v
  .subst uv;rw[if_neg wv];exact q1
  .rw[if_neg uv] at q2;by_cases uw:u=w
   .subst uw;exact absurd (Tw q1 q2) wv
   .rw[if_neg uw];exact Jm q1 q2
end K2
end
section
namespace K2
open Enc (enc)
def pY(ds:@e)(G:Gp)(Q:DK):Prop:=match ds with
 |[x]=>∃ns:@u,vw x G/\@cw=some (ns.map enc)/\ns.length<64/\jN G (.lst ((Gr ns).map enc)) Q
 |_=>False
theorem zN{xs:@u}(h:IsL G d @aY)(hl:xs.length<64)(k:jN G (.lst ((Gr xs).map enc)) Q):pY [d] G Q:=⟨xs,PD h,vN h,hl,k⟩
end K2
end
section
namespace K2
def Cv(ds:@e)(G:Gp)(Q:DK):Prop:=match ds with
 |[.tup [.int a,.int b]]=>Q (.int (if a<b then b else a)) G
 |_=>False
end K2
namespace K2
open Enc (enc)
def mV(ds:@e)(G:Gp)(Q:DK):Prop:=match ds with
 |[x]=>∃l:List T2,pM x G=some (l.map enc)/\l.length<64/\∀m:List T2,m.Nodup->(∀y,y∈m↔y∈l)->jN G (.lst ((Gr m).map enc)) Q
 |_=>False
end K2
end
section
namespace K2
noncomputable def uni(G2 G1:Gp):Gp:=λa=>match G2 a with
 |some o=>@j
 |none=>G1 a
mutual
noncomputable def noD:D->Bool
 |.cY=>true
 |.bl _=>true
 |.int _=>true
 |.str _=>true
 |.tup ds=>X5 ds
 |.dg ds=>X5 ds
 |_=>false
noncomputable def X5:@e->Bool
 |[]=>true
 |d::r=>noD d&&X5 r
end
end K2
end
section
namespace K2.S
open PySem PySem.SetTable
noncomputable def f5(m i:Nat):Nat:=(i*5+1) % (m+1)
noncomputable def S4(m:Nat):Nat->Nat->Nat
 |0,i=>i
 |k+1,i=>S4 m k (f5 m i)
theorem AZ(m):∀(a b i:Nat),S4 m (a+b) i=S4 m b (S4 m a i)
 |0,b,i=>by rw[jJ];rfl
 |a+1,b,i=>by rw[Tj];exact AZ m a b (f5 m i)
def Mk(m:Nat):Prop:=m=7\/m=31\/m=127
noncomputable def orb(m:Nat):Nat->Nat->@aE
 |0,_=>[]
 |k+1,i=>i::orb m k (f5 m i)
theorem Fe(m):∀(n i e:Nat),e∈orb m n i->∃k,k<n/\S4 m k i=e
 |0,_,_,h=>@a8
 |n+1,i,e,h=>by
  rcases @dh with rfl |h
  .exact⟨0,k6 _,rfl⟩
  .obtain⟨k,hk,q⟩:=Fe m n (f5 m i) e h;exact⟨k+1,Nat.succ_lt_succ hk,q⟩
theorem UR(h:Mk m):(∀e,e<m+1->e∈orb m (m+1) 0)/\S4 m (m+1) 0=0:=by
 have key:∀m,((cR (m+1)).all λe=>(orb m (m+1) 0).contains e)=true->S4 m (m+1) 0=0->(∀e,e<m+1->e∈orb m (m+1) 0)/\S4 m (m+1) 0=0:=λm h1 h2=>
  ⟨λe he=>by simpa using (List.all_eq_true.mp h1) e (List.mem_range.mpr he),h2⟩
 rcases h with rfl |rfl |rfl
 .exact key _ (@al) (@al)
 .exact key _ (@al) (@al)
 .exact key _ (@al) (@al)
theorem cover(h:Mk m)(hi:i<m+1)(he:e<m+1):∃k,k<m+1/\S4 m k i=e:=by
 obtain⟨all,back⟩:=UR h;obtain⟨a,ha,qa⟩:=Fe m _ _ _ (all i hi);obtain⟨b,hb,qb⟩:=Fe m _ _ _ (all e he);by_cases c:a<=b
 .refine⟨b-a,@d,?_⟩;rw[<-qa,<-AZ,show a+(b-a)=b by lia,qb]
 .refine⟨m+1-a+b,@d,?_⟩;rw[<-qa,<-AZ,show a+(m+1-a+b)=(m+1)+b by lia,AZ,back,qb]
noncomputable def lp(m:Nat):Nat->Nat×Nat->Nat×Nat
 |0,x=>x
 |k+1,x=>lp m k (leap m x.1 x.2)
theorem QR(m):∀(a b:Nat) (x:Nat×Nat),lp m (a+b) x=lp m b (lp m a x)
 |0,b,i=>by rw[jJ];rfl
 |a+1,b,i=>by rw[Tj];exact QR m a b _
theorem LX(m):∀(k:Nat) (x:Nat×Nat),(lp m k x).2=x.2 / 32 ^ k
 |0,x=>by rw[Nat.pow_zero,Nat.div_one];rfl
 |k+1,x=>by
  show(lp m k _).2=_;rw[LX m k];show x.2 / 32 / 32 ^ k=_;rw[Nat.div_div_eq_div_mul,Nat.pow_succ,Nat.mul_comm]
theorem LW(m):∀(k i:Nat),lp m k (i,0)=(S4 m k i,0)
 |0,_=>rfl
 |k+1,i=>by
  show lp m k ((i*5+1+0 / 32) % (m+1),0 / 32)=_;rw[Nat.zero_div,Nat.add_zero];exact LW m k _
theorem We(m):∀(k:Nat) (x:Nat×Nat),x.1<m+1->(lp m k x).1<m+1
 |0,_,h=>h
 |k+1,x,_=>We m k _ (qf _ (k6 m))
theorem HE(h:Mk m)(h1:x.1<m+1)(h2:x.2<2 ^ 64)(he:e<m+1):∃k,k<m+14/\(lp m k x).1=e:=by
 have z:(lp m 13 x).2=0:=by
  rw[LX];exact Nat.div_eq_of_lt (bY h2 @r)
 obtain⟨k,hk,q⟩:=cover h (We m 13 x h1) he;refine⟨13+k,@d,?_⟩;rw[QR,show lp m 13 x=((lp m 13 x).1,0) from by rw[<-z],LW];exact q
noncomputable def C7(m:Nat)(p:Probe):Probe :=
 if p.more>0 then {p with j:=p.j+1,more:=p.more-1} else
 {p with j:=(@dm).1,more:=runEnd m (@dm).1-(@dm).1,i:=(@dm).1,perturb:=(@dm).2}
noncomputable def eY(m:Nat):Nat->Probe->Probe
 |0,p=>p
 |k+1,p=>eY m k (C7 m p)
theorem jo(m):∀(a b:Nat) (p:Probe),eY m (a+b) p=eY m b (eY m a p)
 |0,b,p=>by rw[jJ];rfl
 |a+1,b,p=>by rw[Tj];exact jo m a b _
theorem M8(m k)(p):eY m (k+1) p=C7 m (eY m k p):=jo m k 1 p
noncomputable def OH(m:Nat)(x:Nat×Nat):Probe:={j:=x.1,more:=@bX,i:=x.1,perturb:=x.2,dummy:=none}
theorem more_le(m i):runEnd m i-i<=9:=by unfold runEnd;split<;>lia
theorem wC(m):∀(n:Nat) (p:Probe),p.more=n->p.dummy=none->eY m (n+1) p=OH m (@dm)
 |0,p,h,hd=>by
  show C7 m p=_;unfold C7;rw[if_neg @c];obtain⟨j,mo,i,pe,d⟩:=p;cases hd;rfl
 |n+1,p,h,hd=>by
  show eY m (n+1) (C7 m p)=_;have e:C7 m p={p with j:=p.j+1,more:=p.more-1}:=by unfold C7;rw[if_pos @c]
  rw[e];exact wC m n _ (by show p.more-1=n;lia) hd
theorem abP(m):∀(k:Nat) (x:Nat×Nat),∃n,n<=10*k/\eY m n (OH m x)=OH m (lp m k x)
 |0,x=>⟨0,aR _,rfl⟩
 |k+1,x=>by
  obtain⟨n,hn,q⟩:=abP m k (leap m x.1 x.2);refine⟨(@bX+1)+n,?_,?_⟩
  .have:=more_le m x.1;lia
  .rw[jo,wC m (@bX) (OH m x) rfl rfl];exact q
structure Pb(m:Nat)(p:Probe):Prop where
 hi:p.i<m+1
 hp:p.perturb<2 ^ 64
 hm:p.more<=9
 hd:p.dummy=none
theorem Pb.leap(h:Pb m p):(@dm).1<m+1/\(@dm).2<2 ^ 64 :=
 ⟨qf _ (k6 m),rJ (Nat.div_le_self _ _) h.hp⟩
theorem Pb.C7(h:Pb m p):Pb m (C7 m p):=by
 unfold S.C7;split
 .exact⟨h.hi,h.hp,cm (Nat.sub_le _ _) h.hm,h.hd⟩
 .exact⟨h.leap.1,h.leap.2,more_le _ _,h.hd⟩
theorem Pb.eY:∀(k:Nat) {p:Probe},Pb m p->Pb m (eY m k p)
 |0,_,h=>h
 |k+1,_,h=>Pb.eY k h.C7
theorem Pb.cover(hm:Mk m)(h:Pb m p)(he:e<m+1):∃n,n<10*turns m/\(S.eY m n p).j=e:=by
 obtain⟨k,hk,q⟩:=HE hm h.leap.1 h.leap.2 he;obtain⟨n,hn,q2⟩:=abP m k (SetTable.leap m p.i p.perturb);refine⟨p.more+1+n,?_,?_⟩
 .have:=h.hm;unfold turns;lia
 .rw[jo,wC m p.more p rfl h.hd,q2];exact q
theorem Pb.start(t:ix)(h):Pb t.mask (t.probeStart h):=by
 refine⟨qf _ (k6 _),?_,more_le _ _,rfl⟩;show bits h<2 ^ 64;unfold bits;have h1:0<=h % (2 ^ 64:Int):=lT _ @r;have h2:h % (2 ^ 64:Int)<2 ^ 64:=jl _ @r;lia
end K2.S
end
section
namespace K2.S
open PySem PySem.SetTable
def Up(xs:@bO):Prop:=∀a b,a<b->b<xs.size->xs.getD a 0<xs.getD b 0
theorem RK(xs:@bO)(h:k<xs.size)(a b):xs.getD k a=xs.getD k b:=by
 rw[bo,bo,bq h];rfl
theorem Fv(up:Up xs)(j):∀(fuel lo hi:Nat),hi-lo<=fuel->lo<=hi->hi<=xs.size->(∀k,k<lo->@cv<j)->(∀k,hi<=k->k<xs.size->j<=@cv) ->
  below.go xs j fuel lo hi<=xs.size/\(∀k,k<below.go xs j fuel lo hi->@cv<j)/\(∀k,below.go xs j fuel lo hi<=k->k<xs.size->j<=@cv)
 |0,lo,hi,h1,h2,h3,h4,h5=>by
  have e:lo=hi:=@d
  subst e;exact⟨h3,h4,h5⟩
 | fuel+1,lo,hi,h1,h2,h3,h4,h5=>by
  show(below.go xs j (fuel+1) lo hi)<=_/\_;unfold below.go;by_cases c:lo<hi
  .rw[if_pos c];have hm:(lo+hi) / 2<xs.size:=@d
   ext e;rw[RK xs hm j 0];by_cases q:xs.getD ((lo+hi) / 2) 0<j
   .rw[if_pos q];refine Fv up j fuel _ _ @c @c h3 (λk hk=>?_) h5;by_cases e:k=(lo+hi) / 2
    .rw[e];exact q
    .exact Nat.lt_trans (up _ _ @c hm) q
   .rw[if_neg q];refine Fv up j fuel _ _ @c @c @c h4 λk hk hs=>?_;by_cases e:k=(lo+hi) / 2
    .rw[e];lia
    .have:=up ((lo+hi) / 2) k @c hs;lia
  .rw[if_neg c];exact⟨@d,h4,λk hk hs=>h5 k @c hs⟩
theorem qK(up:Up xs)(j):below xs j<=xs.size/\(∀k,k<below xs j->@cv<j)/\(∀k,below xs j<=k->k<xs.size->j<=@cv) :=
 Fv up j _ _ _ @c @c @c (λk h=>@d) (λk h1 h2=>@d)
theorem below_at(up:Up xs)(hk:k<xs.size):below xs (@cv)=k:=by
 obtain⟨h1,h2,h3⟩:=qK up (@cv);by_cases a:below xs (@cv)<k
 .have:=h3 _ @X @c;have:=up _ _ a hk;lia
 .by_cases b:k<below xs (@cv)
  .have:=h2 _ b;lia
  .lia
def Full(xs:@bO)(j:Nat):Prop:=∃k,k<xs.size/\@cv=j
theorem Up.inj(up:Up xs)(ha:a<xs.size)(hb:b<xs.size)(e:xs.getD a 0=xs.getD b 0):a=b:=by
 by_cases c:a<b
 .have:=up _ _ c hb;lia
 .by_cases d:b<a
  .have:=up _ _ d ha;lia
  .lia
theorem RI(xs:@bO)(h:k<xs.size):xs[k]?=some (@cv):=by
 rw[bo,bq h];rfl
theorem DO{t:ix}(up:Up t.place)(hk:k<t.place.size):t.slot (t.place.getD k 0)=.live k:=by
 unfold slot;ext e;rw[below_at up hk,RI _ hk];rw[if_pos @i]
theorem JA{t:ix}(up:Up t.place)(dm:t.dummies=#[])(h:¬ Full t.place j):t.slot j=.empty:=by
 unfold slot;ext e;have n1:(t.place[@bI]? == some j)=false:=by
  rw[Bool.eq_false_iff];intro q;have q:=beq_iff_eq.mp q;obtain⟨lt,e⟩:=Array.getElem?_eq_some_iff.mp q;exact h ⟨_,lt,by rw[bo,q];rfl⟩
 rw[n1,dm];rfl
theorem JC{t:ix}(up:Up t.place)(dm:t.dummies=#[])(j):(¬ Full t.place j/\t.slot j=.empty)\/(∃k,k<t.place.size/\t.place.getD k 0=j/\t.slot j=.live k):=by
 by_cases h:Full t.place j
 .obtain⟨k,hk,e⟩:=h;exact .inr ⟨k,hk,e,e ▸ DO up hk⟩
 .exact .inl ⟨h,JA up dm h⟩
theorem Hn(up:Up t.place)(dm:t.dummies=#[])(hashAt)(h):∀(fuel:Nat) (p:Probe),Pb t.mask p->(∃n,n<fuel/\¬ Full t.place (eY t.mask n p).j) ->
    ∃ n met,probe.go t hashAt h fuel p=some met/\(∀n',n'<n->∃k,k<t.place.size/\t.place.getD k 0=(eY t.mask n' p).j/\hashAt k≠h) /\
      ((¬ Full t.place (eY t.mask n p).j/\met=.empty (eY t.mask n p).j none) \/
       (∃k,k<t.place.size/\t.place.getD k 0=(eY t.mask n p).j/\hashAt k=h/\met=.candidate (eY t.mask n p).j k (eY t.mask (n+1) p)))
  |0,_,_,⟨n,hn,_⟩=>absurd hn (dv _)
  | fuel+1,p,hp,⟨n,hn,hf⟩=>by
    rcases JC up dm p.j with ⟨nf,e⟩ |⟨k,hk,ek,e⟩
    . refine⟨0,.empty p.j p.dummy,?_,λn' z=>absurd z (dv _),.inl ⟨nf,by rw[hp.hd];rfl⟩⟩
      unfold probe.go;rw[e]
    · by_cases q:hashAt k=h
      . refine⟨0,.candidate p.j k (t.advance p),?_,λn' z=>absurd z (dv _),.inr ⟨k,hk,ek,q,rfl⟩⟩
        unfold probe.go;rw[e];ext e;rw[if_pos (beq_iff_eq.mpr q)]
      . have hn0:∃m,n=m+1:=by
          cases n with
          |zero=>exact absurd ⟨k,hk,ek⟩ hf
          |succ m=>exact⟨m,rfl⟩
        obtain⟨m,rfl⟩:=hn0;obtain⟨n',met,g,all,fin⟩:=Hn up dm hashAt h fuel (C7 t.mask p) hp.C7 ⟨m,@d,hf⟩;refine⟨n'+1,met,?_,λn'' z=>?_,fin⟩
        . unfold probe.go
          rw[e];ext e;rw[if_neg (λz=>q (beq_iff_eq.mp z))];exact g
        . cases n'' with
          |zero=>exact⟨k,hk,ek,q⟩
          |succ n''=>exact all n'' @c
end K2.S
end
section
namespace K2.S
open PySem PySem.SetTable
abbrev En:=Array (Int×Value)
noncomputable def hk(es:En)(k:Nat):Int:=(es[k]?.map @N).getD 0
structure S9(t:ix)(es:En):Prop where
 ms:Mk t.mask
 dm:t.dummies=#[]
 sz:t.place.size=es.size
 up:Up t.place
 le:∀k,k<t.place.size->t.place.getD k 0<=t.mask
 gJ:t.place.size<=t.mask
 way:∀k,k<t.place.size->∃n,(eY t.mask n (probeStart t (hk es k))).j=t.place.getD k 0/\∀n',n'<n->Full t.place (eY t.mask n' (probeStart t (hk es k))).j
theorem Rb(up:Up xs)(all:∀e,e<=m->Full xs e):∀e,e<=m->∀k,k<xs.size->@cv=e->e<=k
 |0,_,_,_,_=>b9 _
 | e+1,he,k,hk,q=>by
  obtain⟨k',Pc,q'⟩:=all e @c;have ih:=Rb up all e @c k' Pc q';have:k'<k:=by
   by_cases c:k'<k
   .exact c
   .by_cases d:k=k'
    .subst d;lia
    .have:=up k k' @c Pc;lia
  lia
theorem Nc(up:Up xs)(gJ:xs.size<=m):∃e,e<=m/\¬ Full xs e:=by
 apply cO;intro no;have all:∀e,e<=m->Full xs e:=λe he=>cO λz=>no ⟨e,he,z⟩;obtain⟨k,hk,q⟩:=all m @X;have:=Rb up all m @X k hk q;lia
theorem Ck(O:S9 t es)(p)(hp:Pb t.mask p):∃N,N<10*turns t.mask/\¬ Full t.place (eY t.mask N p).j/\∀n,n<N->Full t.place (eY t.mask n p).j:=by
 obtain⟨e,he,hf⟩:=Nc O.up O.gJ;obtain⟨n0,hn,q⟩:=hp.cover O.ms (show e<t.mask+1 by lia);have:∀n,n<=n0->(∃N,N<10*turns t.mask/\¬ Full t.place (eY t.mask N p).j/\∀n,n<N->Full t.place (eY t.mask n p).j)\/(∀n',n'<n->Full t.place (eY t.mask n' p).j):=by
  intro n;induction n with
  |zero=>intro _;exact .inr λn' z=>absurd z (dv _)
  | succ n ih=>
   intro Oe;rcases ih @c with a |a
   .exact .inl a
   .by_cases c:Full t.place (eY t.mask n p).j
    .refine .inr λn' z=>?_;by_cases d:n'=n
     .rw[d];exact c
     .exact a n' @c
    .exact .inl ⟨n,@d,c,a⟩
 rcases this n0 @X with a |a
 .exact a
 .exact⟨n0,hn,by rw[q];exact hf,a⟩
theorem iC(xs)(p)(x:α)(hp:p<=xs.size):(insertAt xs p x).size=xs.size+1:=by
 rw[<-bS,toList_insertAt,av,af,cf,cx,bS];lia
theorem mE(xs)(p)(x:α)(hp:p<=xs.size)(k):(insertAt xs p x)[k]?=if k<p then xs[k]? else if k=p then @ak else xs[k-1]?:=by
 rw[<-cq,toList_insertAt];have hl:(xs.toList.take p).length=p:=by rw[cf,bS];lia
 by_cases c:k<p
 .rw[if_pos c,bA @c,t4 c,cq]
 .rw[if_neg c,aY @c,hl];by_cases d:k=p
  .subst d;rw[if_pos rfl,rH];rfl
  .rw[if_neg d,show k-p=(k-p-1)+1 by lia,ae,CN,show p+(k-p-1)=k-1 by lia,cq]
theorem jz(xs)(p x)(hp:p<=xs.size)(k):(insertAt xs p x).getD k 0=if k<p then @cv else if k=p then x else xs.getD (k-1) 0:=by
 rw[bo,mE xs p x hp];split
 .rw[bo]
 .split
  .rfl
  .rw[bo]
theorem Nl(t:ix)(dm:t.dummies=#[])(j):t.put j=({t with place:=insertAt t.place (@bI) j},@bI):=by
 unfold SetTable.put;ext e;rw[dm];have:has #[] j=false:=rfl;rw[this];cases t;cases dm;rfl
theorem HS(hp:p<=xs.size):Full (insertAt xs p j) e↔Full xs e\/e=j:=by
 ext l
 .rintro⟨k,hk,q⟩;rw[iC xs p j hp] at hk;rw[jz xs p j hp] at q;by_cases c:k<p
  .rw[if_pos c] at q;exact .inl ⟨k,@d,q⟩
  .rw[if_neg c] at q;by_cases d:k=p
   .rw[if_pos d] at q;exact .inr q.symm
   .rw[if_neg d] at q;exact .inl ⟨k-1,@d,q⟩
 .rintro(⟨k,hk,q⟩ |q)
  .by_cases c:k<p
   .exact⟨k,by rw[iC xs p j hp];lia,by rw[jz xs p j hp,if_pos c];exact q⟩
   .exact⟨k+1,by rw[iC xs p j hp];lia,by rw[jz xs p j hp,if_neg @c,if_neg @c];exact q⟩
  .exact⟨p,by rw[iC xs p j hp];lia,by rw[jz xs p j hp,if_neg @c,if_pos rfl];exact q.symm⟩
theorem S9.add(O:S9 t es)(h1:¬ Full t.place (eY t.mask N @bV).j)(h2:∀n,n<N->Full t.place (eY t.mask n @bV).j)
  (hj:(eY t.mask N @bV).j<=t.mask) (room:t.place.size+1<=t.mask)  (e1:t'.mask=t.mask) (e2:t'.dummies=t.dummies)
  (e3:t'.place=insertAt t.place (below t.place (eY t.mask N @bV).j) (eY t.mask N @bV).j):
  S9 t' (insertAt es (below t.place (eY t.mask N @bV).j) (h,x)):=by
 generalize ej:(eY t.mask N @bV).j=j at *;obtain⟨b1,b2,b3⟩:=qK O.up j;generalize @bI=p at *;have Sy:p<=es.size:=by rw[<-O.sz];exact b1
 have W2:t'.place.size=t.place.size+1:=by rw[e3,iC _ _ _ b1]
 have Fq:∀h,probeStart t' h=probeStart t h:=λh=>by unfold probeStart;rw[e1]
 have fl:∀e,Full t.place e->Full t'.place e:=λe z=>by rw[e3];exact(HS b1).mpr (.inl z)
 refine⟨by rw[e1];exact O.ms,e2.trans O.dm,by rw[W2,iC _ _ _ Sy,O.sz],?_,?_,by rw[W2,e1];exact room,?_⟩
 .intro a b ab hb;rw[W2] at hb;rw[e3,jz _ _ _ b1,jz _ _ _ b1];by_cases c1:a<p
  .rw[if_pos c1];by_cases c2:b<p
   .rw[if_pos c2];exact O.up a b ab @c
   .rw[if_neg c2];by_cases c3:b=p
    .rw[if_pos c3];exact b2 a c1
    .rw[if_neg c3];by_cases c4:a=b-1
     .lia
     .exact O.up a (b-1) @c @c
  .rw[if_neg c1,if_neg (@d:¬ b<p),if_neg (@d:¬ b=p)];by_cases c3:a=p
   .rw[if_pos c3];have:=b3 (b-1) @c @c;by_cases c5:t.place.getD (b-1) 0=j
    .exact absurd ⟨b-1,@d,c5⟩ h1
    .lia
   .rw[if_neg c3];exact O.up (a-1) (b-1) @c @c
 .intro k hk;rw[W2] at hk;rw[e3,jz _ _ _ b1,e1];by_cases c1:k<p
  .rw[if_pos c1];exact O.le k @c
  .rw[if_neg c1];by_cases c2:k=p
   .rw[if_pos c2];exact hj
   .rw[if_neg c2];exact O.le (k-1) @c
 .intro k hk;rw[W2] at hk;have key:∀k',k'<t.place.size->hk=hk->(insertAt es p (h,x))[k]?=es[k']?->t'.place.getD k 0=t.place.getD k' 0 ->
    ∃n,(eY t'.mask n (probeStart t' (S.hk (insertAt es p (h,x)) k))).j=t'.place.getD k 0/\∀n',n'<n->Full t'.place (eY t'.mask n' (probeStart t' (S.hk (insertAt es p (h,x)) k))).j:=by
   intro k' Pc _ ee ep;obtain⟨n,q1,q2⟩:=O.way k' Pc;have eh:S.hk (insertAt es p (h,x)) k=S.hk es k':=by unfold S.hk;rw[ee]
   rw[eh,Fq,e1,ep];exact⟨n,q1,λn' z=>fl _ (q2 n' z)⟩
  by_cases c1:k<p
  .refine key k @c rfl ?_ ?_
   .rw[mE _ _ _ Sy,if_pos c1]
   .rw[e3,jz _ _ _ b1,if_pos c1]
  .by_cases c2:k=p
   .have eh:S.hk (insertAt es p (h,x)) k=h:=by unfold S.hk;rw[mE _ _ _ Sy,if_neg c1,if_pos c2];rfl
    rw[eh,Fq,e1,e3,jz _ _ _ b1,if_neg c1,if_pos c2];refine⟨N,ej,λn' z=>?_⟩;exact(HS b1).mpr (.inl (h2 n' z))
   .refine key (k-1) @c rfl ?_ ?_
    .rw[mE _ _ _ Sy,if_neg c1,if_neg c2]
    .rw[e3,jz _ _ _ b1,if_neg c1,if_neg c2]
end K2.S
end
section
namespace K2.S
open PySem PySem.SetTable
theorem V0(m)(x):∀n,n<=@bX->eY m n (OH m x)={OH m x with j:=x.1+n,more:=@bX-n}
 |0,_=>rfl
 |n+1,h=>by
  rw[M8,V0 m x n @c];unfold C7;ext e;rw[if_pos @c];rfl
theorem E4(h:i<m+1)(hn:n<=runEnd m i-i):i+n<m+1:=by
 unfold runEnd at hn;split at hn<;>lia
noncomputable def ow(o:Array (Option Nat))(j:Nat):Option Nat:=o.getD j none
theorem UQ(h:j<o.size):o.getD j (some 0)=ow o j:=by
 unfold ow;rw[bo,bo,bq h];rfl
theorem V8(h:ow o j=some k):j<o.size:=by
 apply cO;intro z;unfold ow at h;rw[bo,lZ @c] at h;cases h
theorem Eg(sz:o.size=m+1):∀(fuel:Nat) (x:Nat×Nat),x.1<m+1->(∃k,k<fuel/\ow o (lp m k x).1=none) ->
  ∃n j,layClean.free m o fuel x.1 x.2=some j/\(eY m n (OH m x)).j=j/\j<m+1/\ow o j=none/\∀n',n'<n->(eY m n' (OH m x)).j<m+1/\ow o (eY m n' (OH m x)).j≠none
 |0,_,_,⟨_,h,_⟩=>absurd h (dv _)
 | fuel+1,x,hx,⟨k,hk,q⟩=>by
  have pe:∀n,n<=@bX->(o.getD (x.1+n) (some 0))=ow o (x.1+n):=λn hn=>UQ (by rw[sz];exact E4 hx hn);have pj:∀n,n<=@bX->(eY m n (OH m x)).j=x.1+n:=λn hn=>by rw[V0 m x n hn]
  have hre:x.1<=runEnd m x.1:=by unfold runEnd;split<;>lia
  cases hf:(cR (runEnd m x.1+1-x.1)).find? λk=>(o.getD (x.1+k) (some 0)).isNone with
  | some n=>
   obtain⟨h1,h2,h3⟩:=List.find?_range_eq_some.mp hf;have hn:n<=@bX:=by have:=List.mem_range.mp h2;lia
   rw[pe n hn] at h1;refine⟨n,x.1+n,?_,pj n hn,E4 hx hn,Option.isNone_iff_eq_none.mp h1,λn' z=>?_⟩
   .unfold layClean.free;rw[hf]
   .have Oe:n'<=@bX:=@d
    have:=h3 n' z;rw[pe n' Oe] at this;rw[pj n' Oe];refine⟨E4 hx Oe,λe=>?_⟩;rw[e] at this;cases this
  | none=>
   have h3:=List.find?_range_eq_none.mp hf;have all:∀n',n'<=@bX->ow o (x.1+n')≠none:=λn' Oe e=>by
    have:=h3 n' @c;rw[pe n' Oe,e] at this;cases this
   obtain⟨k,rfl⟩:∃k',k=k'+1:=by
    cases k with
    |zero=>exact absurd q (all 0 (b9 _))
    |succ k=>exact⟨k,rfl⟩
   obtain⟨n,j,g,gj,hj,gn,ga⟩:=Eg sz fuel (leap m x.1 x.2) (qf _ (k6 m)) ⟨k,@d,q⟩;refine⟨(@bX+1)+n,j,?_,?_,hj,gn,λn' z=>?_⟩
   .unfold layClean.free;rw[hf];exact g
   .rw[jo,wC m (@bX) (OH m x) rfl rfl];exact gj
   .by_cases c:n'<=@bX
    .rw[pj n' c];exact⟨E4 hx c,all n' c⟩
    .have e:n'=(@bX+1)+(n'-(@bX+1)):=@d
     rw[e,jo,wC m (@bX) (OH m x) rfl rfl];exact ga _ @c
theorem pig:∀(L:Nat) (l:@aE),l.Nodup->(∀x∈l,x<L)->l.length<=L
 |0,l,_,h=>by
  cases l with
  |nil=>exact aR _
  |cons a r=>exact absurd (h a aJ) (dv _)
 | L+1,l,hn,h=>by
  have:=pig L (l.erase L) (hn.erase L) λx hx=>by
   have:=(hn.mem_erase_iff).mp hx;have:=h x this.2;lia
  rw[List.length_erase] at this;split at this<;>lia
def Fq(m:Nat)(h:Int):Probe:=OH m (bits h % (m+1),bits h)
structure Lay(m:Nat)(hs:@u)(o:Array (Option Nat)):Prop where
 sz:o.size=m+1
 lt:∀j k,ow o j=some k->k<hs.length
 one:∀k,k<hs.length->∃j,ow o j=some k
 uni:∀j j' k,ow o j=some k->ow o j'=some k->j=j'
 way:∀j k,ow o j=some k->∃n,(eY m n (Fq m (hs.getD k 0))).j=j/\∀n',n'<n->ow o (eY m n' (Fq m (hs.getD k 0))).j≠none
theorem Lay.nil(m):Lay m [] (Array.replicate (m+1) none):=by
 have no:∀j,ow (Array.replicate (m+1) none) j=none:=λj=>by
  unfold ow;rw[bo,Array.getElem?_replicate];split<;>rfl
 refine⟨Array.size_replicate,λj k h=>?_,λk h=>absurd h (dv _),λj j' k h=>?_,λj k h=>?_⟩<;>(rw[no] at h;cases h)
theorem Lay.free(L:Lay m hs o)(gJ:hs.length<=m):∃j,j<m+1/\ow o j=none:=by
 apply cO;intro no;have all:∀j,j<m+1->ow o j≠none:=λj hj e=>no ⟨j,hj,e⟩;have nd:((cR (m+1)).map λj=>(ow o j).getD 0).Nodup:=by
  rw[qN,cS];refine oO (λ{a b} ha hb iV e=>?_) (List.nodup_iff_pairwise_ne.mp (List.nodup_range (n:=m+1)));obtain⟨x,hx⟩:=Option.ne_none_iff_exists'.mp (all a (List.mem_range.mp ha));obtain⟨y,hy⟩:=Option.ne_none_iff_exists'.mp (all b (List.mem_range.mp hb));rw[hx,hy] at e;have e:x=y:=e;subst e;exact iV (L.uni a b x hx hy)
 have:=pig hs.length _ nd λx hx=>by
  obtain⟨j,hj,rfl⟩:=@du;obtain⟨k,e⟩:=Option.ne_none_iff_exists'.mp (all j (List.mem_range.mp hj));rw[e];exact L.lt j k e
 rw[ag,iE] at this;lia
theorem JR(hj:j<o.size)(i):ow (o.setIfInBounds j (some k)) i=if j=i then some k else ow o i:=by
 unfold ow;rw[bo,Array.getElem?_setIfInBounds];by_cases c:j=i
 .rw[if_pos c,if_pos c,if_pos hj];rfl
 .rw[if_neg c,if_neg c,bo]
theorem Lay.step(hm:Mk m)(L:Lay m hs o)(gJ:hs.length<=m)(h):
  ∃j,layClean.free m o (turns m) (bits h % (m+1)) (bits h)=some j/\Lay m (hs++[h]) (o.setIfInBounds j (some hs.length)):=by
 obtain⟨e,he,hf⟩:=L.free gJ;have hb:bits h<2 ^ 64:=by
  unfold bits;have h1:0<=h % (2 ^ 64:Int):=lT _ @r;have h2:h % (2 ^ 64:Int)<2 ^ 64:=jl _ @r;lia
 have hx:bits h % (m+1)<m+1:=qf _ (k6 m);obtain⟨k,hk,q⟩:=HE hm (x:=(bits h % (m+1),bits h)) hx hb he;obtain⟨n,j,g,gj,hj,gn,ga⟩:=Eg L.sz (turns m) (bits h % (m+1),bits h) hx ⟨k,by unfold turns;lia,by rw[q];exact hf⟩;have hjs:j<o.size:=by rw[L.sz];exact hj
 have old:∀i k,ow o i=some k->ow (o.setIfInBounds j (some hs.length)) i=some k:=λi k z=>by
  rw[JR hjs,if_neg (λz2:j=i=>by rw[<-z2,gn] at z;cases z)];exact z
 have inv:∀i k,ow (o.setIfInBounds j (some hs.length)) i=some k->(i=j/\k=hs.length)\/(i≠j/\ow o i=some k/\k<hs.length):=λi k z=>by
  rw[JR hjs] at z;by_cases c:j=i
  .rw[if_pos c] at z;cases z;exact .inl ⟨c.symm,rfl⟩
  .rw[if_neg c] at z;exact .inr ⟨λz2=>c z2.symm,z,L.lt _ _ z⟩
 have nn:∀i,ow o i≠none->ow (o.setIfInBounds j (some hs.length)) i≠none:=λi z=>by
  obtain⟨k,e⟩:=Option.ne_none_iff_exists'.mp z;rw[old i k e];exact λz=>by cases z
 refine⟨j,g,⟨by rw[Array.size_setIfInBounds];exact L.sz,λi k z=>?_,λk hk=>?_,λi i' k z z'=>?_,λi k z=>?_⟩⟩
 .rw[av,cH];rcases inv i k z with ⟨_,rfl⟩ |⟨_,_,hk⟩<;>lia
 .rw[av,cH] at hk;by_cases c:k=hs.length
  .exact⟨j,by rw[JR hjs,if_pos rfl,c]⟩
  .obtain⟨i,z⟩:=L.one k @c;exact⟨i,old i k z⟩
 .rcases inv i k z with ⟨a,b⟩ |⟨a,b,c⟩<;>rcases inv i' k z' with ⟨a',b'⟩ |⟨a',b',c'⟩
  .rw[a,a']
  .lia
  .lia
  .exact L.uni i i' k b b'
 .rcases inv i k z with ⟨a,b⟩ |⟨a,b,c⟩
  .have e:(hs++[h]).getD k 0=h:=by rw[b,bc,aY @X,rH];rfl
   rw[e,a];exact⟨n,gj,λn' z=>nn _ (ga n' z).2⟩
  .have e:(hs++[h]).getD k 0=hs.getD k 0:=by rw[bc,bA c,<-bc]
   rw[e];obtain⟨n,q1,q2⟩:=L.way i k b;exact⟨n,q1,λn' z=>nn _ (q2 n' z)⟩
theorem L0(hm:Mk m):∀(hs:@u) (S7:@u) (o:Array (Option Nat)),Lay m S7 o->S7.length+hs.length<=m+1 ->
  ∃o',hs.foldl (λacc h=>do
   let (owner,k) ← acc
   let j ← layClean.free m owner (turns m) (bits h % (m+1)) (bits h)
   pure (owner.setIfInBounds j (some k),k+1)) (some (o,S7.length))=some (o',(S7++hs).length)/\Lay m (S7++hs) o'
 |[],S7,o,L,_=>⟨o,by rw[bC];rfl,by rw[bC];exact L⟩
 |h::hs,S7,o,L,gJ=>by
  obtain⟨j,g,L'⟩:=L.step hm (by rw[af] at gJ;lia) h;obtain⟨o',e,L''⟩:=L0 hm hs (S7++[h]) _ L' (by rw[av,cH];rw[af] at gJ;lia);rw[bp,List.singleton_append] at e L'';refine⟨o',?_,L''⟩;rw[fk];rw[av,cH] at e;rw[<-e];congr 1;show(do let j ← layClean.free m o (turns m) (bits h % (m+1)) (bits h);pure (o.setIfInBounds j (some S7.length),S7.length+1))=_;rw[g];rfl
theorem HH(hm:Mk m)(hs)(gJ:hs.size<=m+1):∃o,layClean m hs=@j/\Lay m hs.toList o:=by
 obtain⟨o,e,L⟩:=L0 hm hs.toList [] _ (Lay.nil m) (by rw[ao,bS];lia);refine⟨o,?_,L⟩;unfold layClean;rw[<-Array.foldl_toList];rw[ao] at e;rw[e];rfl
end K2.S
end
section
namespace K2.S
open PySem PySem.SetTable
theorem RP(es:En):∀(l:@aE),(∀k∈l,k<es.size)->l.filterMap (es[·]?)=l.map λk=>es.getD k (0,.none)
 |[],_=>rfl
 |k::l,h=>by
  have hk:k<es.size:=h k aJ;have e:es[k]?=some (es.getD k (0,.none)):=by rw[bo,bq hk];rfl
  rw[List.filterMap_cons_some e,aq,RP es l λx hx=>h x (aC _ hx)]
theorem Q0(hm:Mk m)(es:En)(gJ:es.size<=m)(finger moves)(led plain):
  ∃t' order,laid m finger moves led plain (es.map @N)=some (t',order)/\t'.mask=m/\t'.led=led/\t'.plain=plain/\(order.filterMap (es[·]?)).size=es.size /\
   SV (order.filterMap (es[·]?)).toList es.toList/\S9 t' (order.filterMap (es[·]?))/\order.toList.Perm (cR es.size):=by
 obtain⟨o,e,L⟩:=HH hm (es.map @N) (by rw[Array.size_map];lia);have hl:(es.map @N).toList.length=es.size:=by rw[bS,Array.size_map]
 generalize hlv:((cR (m+1)).filterMap λj=>(o.getD j none).map (j,·))=lv;have mem:∀p:Nat×Nat,p∈lv↔ow o p.1=some p.2:=by
  rintro⟨j,k⟩;rw[<-hlv,List.mem_filterMap];ext l
  .rintro⟨a,_,q⟩;obtain⟨b,hb,q⟩:=Option.map_eq_some_iff.mp q;cases q;exact hb
  .intro q;exact⟨j,List.mem_range.mpr (by have:=V8 q;rw[L.sz] at this;ext g),Option.map_eq_some_iff.mpr ⟨k,q,rfl⟩⟩
 have asc:lv.Pairwise λa b=>a.1<b.1:=by
  rw[<-hlv];refine List.Pairwise.filterMap _ (λa a' r b hb b' HQ=>?_) (List.pairwise_lt_range (n:=m+1));obtain⟨_,_,rfl⟩:=Option.map_eq_some_iff.mp hb;obtain⟨_,_,rfl⟩:=Option.map_eq_some_iff.mp HQ;exact r
 have nd:(lv.map (·.2)).Nodup:=by
  rw[qN,cS];refine oO (λ{a b} ha hb r e=>?_) asc;have h1:=(mem a).mp ha;have h2:=(mem b).mp hb;rw[e] at h1;have:=L.uni _ _ _ h1 h2;lia
 have pm:(lv.map (·.2)).Perm (cR es.size):=by
  refine(eX nd List.nodup_range).mpr λk=>?_;rw[List.mem_range,nQ];ext l
  .rintro⟨p,hp,rfl⟩;have:=L.lt _ _ ((mem p).mp hp);rw[hl] at this;ext g
  .intro hk;obtain⟨j,q⟩:=L.one k (by rw[hl];exact hk);exact⟨(j,k),(mem _).mpr q,rfl⟩
 have ll:lv.length=es.size:=by have:=pm.length_eq;rw[ag,iE] at this;ext g
 have inb:∀k∈lv.map (·.2),k<es.size:=λk hk=>List.mem_range.mp (pm.mem_iff.mp hk);have es':((lv.map (·.2)).toArray.filterMap (es[·]?)).toList=lv.map λp=>es.getD p.2 (0,.none):=by
  rw[O3,RP es _ inb,cP];rfl
 have pes:SV ((lv.map (·.2)).toArray.filterMap (es[·]?)).toList es.toList:=by
  rw[O3];refine(pm.filterMap _).trans ?_;rw[filterMap_getElem?_range]
 have ges:∀i,((lv.map (·.2)).toArray.filterMap (es[·]?))[i]?=lv[i]?.map λp:Nat×Nat=>es.getD p.2 (0,.none):=λi=>by
  rw[<-cq,es',aZ]
 have szs:((lv.map (·.2)).toArray.filterMap (es[·]?)).size=es.size:=by
  rw[<-bS,pes.length_eq,bS]
 have gpl:∀i (hi:i<lv.length),(lv.map @N).toArray.getD i 0=lv[i].1:=λi hi=>by
  rw[bo,SR,aZ,az hi];rfl
 have zU:(lv.map @N).toArray.size=es.size:=by rw[aW,ag,ll]
 have ful:∀j,ow o j≠none->Full (lv.map @N).toArray j:=λj z=>by
  obtain⟨k,q⟩:=Option.ne_none_iff_exists'.mp z;obtain⟨i,hi,ei⟩:=dI ((mem (j,k)).mpr q);exact⟨i,by rw[zU,<-ll];exact hi,by rw[gpl i hi,ei]⟩
 refine⟨{mask:=m,place:=(lv.map @N).toArray,dummies:=#[],finger,led,moves,plain},(lv.map (·.2)).toArray,?_,rfl,rfl,rfl,szs,pes,?_,pm⟩
 .unfold laid;rw[e];show some _=some _;rw[hlv]
 .refine⟨hm,rfl,by show(lv.map @N).toArray.size=_;rw[zU,szs],?_,?_,by show(lv.map @N).toArray.size<=m;rw[zU];exact gJ,?_⟩
  .intro a b ab hb;have hb:b<lv.length:=by rw[ll,<-zU];exact hb
   show(lv.map @N).toArray.getD a 0<(lv.map @N).toArray.getD b 0;rw[gpl a @c,gpl b hb];exact List.pairwise_iff_getElem.mp asc a b @c hb ab
  .intro k hk;have hk:k<lv.length:=by rw[ll,<-zU];exact hk
   show(lv.map @N).toArray.getD k 0<=m;rw[gpl k hk];have:=V8 ((mem _).mp (bU hk));rw[L.sz] at this;lia
  .intro k hk;have hk:k<lv.length:=by rw[ll,<-zU];exact hk
   have hi:=(mem _).mp (bU hk);have vd:=inb lv[k].2 (cy (bU hk));have eh:S.hk ((lv.map (·.2)).toArray.filterMap (es[·]?)) k=(es.map @N).toList.getD lv[k].2 0:=by
    unfold S.hk;rw[ges,az hk,bc,cq,Array.getElem?_map,bq vd];show(es.getD lv[k].2 (0,.none)).1=(es[lv[k].2]).1;rw[bo,bq vd];rfl
   rw[eh];obtain⟨n,q1,q2⟩:=L.way _ _ hi;refine⟨n,?_,λn' z=>ful _ (q2 n' z)⟩;show _=(lv.map @N).toArray.getD k 0;rw[gpl k hk];exact q1
theorem Vb(hm:Mk m)(es:En)(gJ:es.size<=m)(finger moves)(led plain):
  ∃t' order,laid m finger moves led plain (es.map @N)=some (t',order)/\t'.mask=m/\t'.led=led/\t'.plain=plain/\(order.filterMap (es[·]?)).size=es.size /\
   SV (order.filterMap (es[·]?)).toList es.toList/\S9 t' (order.filterMap (es[·]?)):=by
 obtain⟨t',order,h1,h2,h3,h4,h5,h6,h7,_⟩:=Q0 hm es gJ finger moves led plain;exact⟨t',order,h1,h2,h3,h4,h5,h6,h7⟩
end K2.S
end
section
namespace K2
open PySem PySem.Spec PyProof.Rows L2
def ZR(K:ay)(H:Hp)(a:Addr)(xs:@z):Prop :=
 (∃o,H a=some (.nY o @bw)) \/
  ∃(o:Obj) (bz:@bL) (n:Nat),K.lookup a=@j/\o.cls=@Z/\o.dict=none/\o.data=.seq bz n/\bz.size<=bw/\Vals xs bz.toList
theorem ZR.sq{K:ay}(h:ZR K H a xs):qZ K H a xs:=by
 rcases h with ⟨o,h⟩ |h
 .exact .inl (.inr ⟨o,h⟩)
 .exact .inr h
noncomputable def gy:Key->D
 |.inl i=>@M
 |.inr x=>.str x
def ExcAt(K:ay)(H:Hp)(a:Addr)(c:Str):Prop:=∃(o:Obj) (C:Addr),H a=some (.nY o (.ext λh=>@aO=@j))/\o.cls=.ref C/\qe K bJ c=@cz
def ML(K:ay)(H:Hp)(a:Addr)(c:Str)(ns:@D)(vs:@z):Prop:=∃(o:Obj) (C dx:Addr) (od:Obj) (fs:@cd),H a=some (.nY o (.ext λh=>@aO=@j))/\o.cls=.ref C/\qe K bJ c=@cz/\o.dict=some dx/\H dx=some (.nY od (.xd fs))/\PySem.W.notCls o=true/\fs.map @N=ns/\fs.map (·.2)=vs
noncomputable def hsT(hs:@u):Int:=reduceHash (Builtin.Tuple.tupleHashOf hs)
def hP(k:PK):Int:=hsT (k.map λr=>hsT (r.map λt=>hsT (t.map hashInt)))
def PDo(a:Addr)(xs:List (PK×Addr×Value))(h:Heap):Prop:=xs.length<=bw/\(a == jC)=false/\∃(o:Obj) (es:Array DictEntry) (ep:Nat),@aO=@j/\o.ExactDict/\o.data=.dict es ep/\es.toList=xs.map (λx=>⟨hP x.1,.ref x.2.1,x.2.2⟩)/\(xs.map @N).Nodup
def abT(bB:List (PK×D))(ks vs:@z)(xs:List (PK×Addr×Value)):Prop:=bB.map (λp=>p.1)=xs.map (λx=>x.1)/\ks=xs.map (λx=>V.ref x.2.1)/\Vals vs (xs.map λx=>x.2.2)
mutual
inductive cX (K:ay) (H:Hp):V->D->Prop
 |cY:cX K H .cY .cY
 |bl (b:Bool):cX K H (.bl b) (.bl b)
 |int (i:Int):cX K H (@M) (@M)
 |str (x:Str):cX K H (.str x) (.str x)
 |tup {a:Addr} {vs:@z} {ds:@e}:H a=some (.tup vs)->@bt->cX K H @U (.tup ds)
 |dg {a:Addr} {vs:@z} {ds:@e}:ZR K H a vs->@bt->cX K H @U (.dg ds)
 |vG {a:Addr} {o:Obj} {kv:@cn} {bB:@aJ}:H a=some (.nY o (.dK kv))->rO K H kv bB->cX K H @U (.vX bB)
 |vF {a:Addr} {o:Obj} {kv:@co} {bB:@aJ}:H a=some (.nY o (.dT kv))->tX K H kv bB->cX K H @U (.vX bB)
 |ref (a:Addr):cX K H @U @U
 |exc {a:Addr} {c:Str}:ExcAt K H a c->cX K H @U (.exc c)
 |Ie {a:Addr} {c:Str} {ns:@D} {vs:@z} {ds:@e}:ML K H a c ns vs->@bt->cX K H @U (.Ie c ns ds)
 |E5 {a:Addr} {o:Obj} {xs:List (PK×Addr×Value)} {ks vs:@z} {bB:List (PK×D)}:H a=some (.nY o (.ext (PDo a xs)))->abT bB ks vs xs->bu K H ks (bB.map λp=>plD p.1)->bu K H vs (bB.map λp=>p.2)->cX K H @U (.E5 bB)
inductive bu (K:ay) (H:Hp):@z->@e->Prop
 |nil:bu K H [] []
 |cons {v:V} {d:D} {vs:@z} {ds:@e}:@bl->@bt->bu K H (v::vs) (d::ds)
inductive rO (K:ay) (H:Hp):@cn->@aJ->Prop
 |nil:rO K H [] []
 |cons {k:Key} {v:V} {d:D} {r:@cn} {t:@aJ}:@bl->rO K H r t->rO K H ((k,v)::r) ((gy k,d)::t)
inductive tX (K:ay) (H:Hp):@co->@aJ->Prop
 |nil:tX K H [] []
 |cons {k:@ac} {v:V} {d:D} {r:@co} {t:@aJ}:@bl->tX K H r t->tX K H ((k,v)::r) ((@cY,d)::t)
end
structure Kp(H H':Hp):Prop where
 tup:∀a xs,H a=some (.tup xs)->H' a=some (.tup xs)
 nY:∀a o u,H a=some (.nY o u)->H' a=some (.nY o u)
theorem Kp.refl(H):Kp H H:=⟨λ_ _ h=>h,λ_ _ _ h=>h⟩
theorem Kp.trans(a:Kp H H1)(b:Kp H1 H2):Kp H H2:=⟨λc xs h=>b.tup c xs (a.tup c xs h),λc o u h=>b.nY c o u (a.nY c o u h)⟩
theorem Kp.sqT{K:ay}(k:Kp H H')(h:Cy K H a xs):Cy K H' a xs:=by
 rcases h with(h |⟨o,h⟩) |h
 .exact .inl (.inl (k.tup _ _ h))
 .exact .inl (.inr ⟨o,k.nY _ _ _ h⟩)
 .exact .inr h
theorem Kp.W9{K:ay}(k:Kp H H')(h:ZR K H a xs):ZR K H' a xs:=by
 rcases h with ⟨o,h⟩ |h
 .exact .inl ⟨o,k.nY _ _ _ h⟩
 .exact .inr h
theorem ExcAt.mono{K:ay}(k:Kp H H')(h:ExcAt K H a c):ExcAt K H' a c :=
 let ⟨o,C,h1,h2,h3⟩:=h
 ⟨o,C,k.nY _ _ _ h1,h2,h3⟩
theorem ML.mono{K:ay}(k:Kp H H')(h:ML K H a c ns vs):ML K H' a c ns vs :=
 let ⟨o,C,dx,od,fs,h1,h2,h3,h4,h5,h6⟩:=h
 ⟨o,C,dx,od,fs,k.nY _ _ _ h1,h2,h3,h4,k.nY _ _ _ h5,h6⟩
theorem bu.Kg{K:ay}{H:Hp}{P:@z->@e->Prop}(h0:P [] [])(h1:∀{v:V} {d:D} {vs:@z} {ds:@e},@bl->@bt->P vs ds->P (v::vs) (d::ds)){vs:@z}{ds:@e}(h:@bt):P vs ds :=
 bu.rec (motive_1:=λ_ _ _=>True) (motive_2:=λvs ds _=>P vs ds) (motive_3:=λ_ _ _=>True) (motive_4:=λ_ _ _=>True) trivial @ck @ck @ck @cl @cl @cl @cl @ck @ck @cl (λ_ _ _ _ _ _=>trivial) h0 (λa b _ ih=>h1 a b ih) trivial @aQ trivial @aQ h
theorem cX.mono{K:ay}(k:Kp H H'):∀{v:V} {d:D},@bl->cX K H' v d:=λh=>
 cX.rec (motive_1:=λv d _=>cX K H' v d) (motive_2:=λv d _=>bu K H' v d) (motive_3:=λv d _=>rO K H' v d) (motive_4:=λv d _=>tX K H' v d)
  .cY .bl .int .str (λh _ r=>.tup (k.tup _ _ h) r) (λh _ r=>.dg (k.W9 h) r) (λh _ r=>.vG (k.nY _ _ _ h) r) (λh _ r=>.vF (k.nY _ _ _ h) r) .ref (λh=>.exc (h.mono k)) (λh _ r=>.Ie (h.mono k) r) (λh z _ _ r1 r2=>.E5 (k.nY _ _ _ h) z r1 r2) .nil (λ_ _ a b=>.cons a b) .nil (λ_ _ a b=>.cons a b) .nil (λ_ _ a b=>.cons a b) h
theorem bu.mono{K:ay}(k:Kp H H')(h:bu K H v d):bu K H' v d :=
 bu.Kg (P:=λv d=>bu K H' v d) .nil (λr _ ih=>.cons (r.mono k) ih) h
theorem rO.mono{K:ay}(k:Kp H H')(h:rO K H v d):rO K H' v d :=
 rO.rec (motive_1:=λv d _=>cX K H' v d) (motive_2:=λv d _=>bu K H' v d) (motive_3:=λv d _=>rO K H' v d) (motive_4:=λv d _=>tX K H' v d)
  .cY .bl .int .str (λh _ r=>.tup (k.tup _ _ h) r) (λh _ r=>.dg (k.W9 h) r) (λh _ r=>.vG (k.nY _ _ _ h) r) (λh _ r=>.vF (k.nY _ _ _ h) r) .ref (λh=>.exc (h.mono k)) (λh _ r=>.Ie (h.mono k) r) (λh z _ _ r1 r2=>.E5 (k.nY _ _ _ h) z r1 r2) .nil (λ_ _ a b=>.cons a b) .nil (λ_ _ a b=>.cons a b) .nil (λ_ _ a b=>.cons a b) h
theorem tX.mono{K:ay}(k:Kp H H')(h:tX K H v d):tX K H' v d :=
 tX.rec (motive_1:=λv d _=>cX K H' v d) (motive_2:=λv d _=>bu K H' v d) (motive_3:=λv d _=>rO K H' v d) (motive_4:=λv d _=>tX K H' v d)
  .cY .bl .int .str (λh _ r=>.tup (k.tup _ _ h) r) (λh _ r=>.dg (k.W9 h) r) (λh _ r=>.vG (k.nY _ _ _ h) r) (λh _ r=>.vF (k.nY _ _ _ h) r) .ref (λh=>.exc (h.mono k)) (λh _ r=>.Ie (h.mono k) r) (λh z _ _ r1 r2=>.E5 (k.nY _ _ _ h) z r1 r2) .nil (λ_ _ a b=>.cons a b) .nil (λ_ _ a b=>.cons a b) .nil (λ_ _ a b=>.cons a b) h
theorem bu.length{K:ay}:∀{vs:@z} {ds:@e},@bt->vs.length=ds.length:=λh=>
 bu.Kg (P:=λvs ds=>vs.length=ds.length) rfl (λ_ _ ih=>congrArg (· + 1) ih) h
theorem bu.get{K:ay}:∀{vs:@z} {ds:@e} {i:Nat} {d:D},@bt->ds[i]?=@aM->∃v,vs[i]?=@Q/\@bl:=by
 intro vs ds i d h;refine bu.Kg (P:=λvs ds=>∀(i:Nat) (d:D),ds[i]?=@aM->∃v,vs[i]?=@Q/\@bl) (λi d e=>by cases e) (λr _ ih i d e=>?_) h i d;cases i with
 |zero=>cases e;exact⟨_,rfl,r⟩
 |succ i=>exact ih i d e
theorem bu.append{K:ay}:∀{vs ws:@z} {ds es:@e},@bt->bu K H ws es->bu K H (vs++ws) (ds++es):=λ{_ ws _ es} h s=>
 bu.Kg (P:=λvs ds=>bu K H (vs++ws) (ds++es)) s (λr _ ih=>.cons r ih) h
theorem bu.take{K:ay}:∀{vs:@z} {ds:@e} (n:Nat),@bt->bu K H (vs.take n) (ds.take n):=λ{_ _} n h=>
 bu.Kg (P:=λvs ds=>∀n,bu K H (vs.take n) (ds.take n)) (λn=>by rw[CM,CM];ext f) (λr _ ih n=>by
  cases n with
  |zero=>ext f
  |succ n=>exact .cons r (ih n)) h n
theorem bu.drop{K:ay}:∀{vs:@z} {ds:@e} (n:Nat),@bt->bu K H (vs.drop n) (ds.drop n):=λ{_ _} n h=>
 bu.Kg (P:=λvs ds=>∀n,bu K H (vs.drop n) (ds.drop n)) (λn=>by rw[CO,CO];ext f) (λr t ih n=>by
  cases n with
  |zero=>exact .cons r t
  |succ n=>exact ih n) h n
theorem bu.set{K:ay}(r:@bl):∀{vs:@z} {ds:@e} (i:Nat),@bt->bu K H (vs.set i v) (ds.set i d):=λ{_ _} i h=>
 bu.Kg (P:=λvs ds=>∀i,bu K H (vs.set i v) (ds.set i d)) (λi=>by rw[EJ,EJ];ext f) (λq t ih i=>by
  cases i with
  |zero=>exact .cons r t
  |succ i=>exact .cons q (ih i)) h i
theorem bu.one{K:ay}:∀{vs:@z} {d:D},bu K H vs [d]->∃v,vs=[v]/\@bl:=by
 intro vs d h;cases h with
 |cons r t=>cases t;exact⟨_,rfl,r⟩
theorem bu.two{K:ay}:∀{vs:@z} {d e:D},bu K H vs [d,e]->∃v u,vs=[v,u]/\@bl/\cX K H u e:=by
 intro vs d e h;cases h with
 |cons r t=>
  obtain⟨u,rfl,q⟩:=bu.one t;exact⟨_,_,rfl,r,q⟩
theorem bu.zero{K:ay}:∀{vs:@z},bu K H vs []->vs=[]
 |_,.nil=>rfl
theorem bu.ints{K:ay}:∀{vs:@z} {ns:@u},bu K H vs (@bg)->vs=ns.map V.int:=by
 intro vs ns;induction ns generalizing vs with
 |nil=>intro h;exact h.zero
 | cons n ns ih=>
  intro h;cases h with
  |cons r t=>
   cases r;rw[ih t];rfl
theorem bu.LS{K:ay}:∀(ns:@u),bu K H @cV (@bg)
 |[]=>.nil
 |n::ns=>.cons (.int n) (bu.LS ns)
theorem rO.ind{K:ay}{H:Hp}{motive:∀(kv:@cn) (bB:@aJ),rO K H kv bB->Prop}(nil:motive [] [] .nil)
  (cons:∀{k:Key} {v:V} {d:D} {r:@cn} {t:@aJ} (re:@bl) (rs:rO K H r t),motive r t rs->motive ((k,v)::r) ((gy k,d)::t) (.cons re rs)):∀{kv:@cn} {bB:@aJ} (h:rO K H kv bB),motive kv bB h:=λh=>
 rO.rec (motive_1:=λ_ _ _=>True) (motive_2:=λ_ _ _=>True) (motive_3:=motive) (motive_4:=λ_ _ _=>True) trivial @ck @ck @ck @cl @cl @cl @cl @ck @ck @cl (λ_ _ _ _ _ _=>trivial) trivial @aQ nil (λa b _ ih=>cons a b ih) trivial @aQ h
theorem tX.ind{K:ay}{H:Hp}{motive:∀(kv:@co) (bB:@aJ),tX K H kv bB->Prop}(nil:motive [] [] .nil)
  (cons:∀{k:@ac} {v:V} {d:D} {r:@co} {t:@aJ} (re:@bl) (rs:tX K H r t),motive r t rs->motive ((k,v)::r) ((@cY,d)::t) (.cons re rs)):∀{kv:@co} {bB:@aJ} (h:tX K H kv bB),motive kv bB h:=λh=>
 tX.rec (motive_1:=λ_ _ _=>True) (motive_2:=λ_ _ _=>True) (motive_3:=λ_ _ _=>True) (motive_4:=motive) trivial @ck @ck @ck @cl @cl @cl @cl @ck @ck @cl (λ_ _ _ _ _ _=>trivial) trivial @aQ trivial @aQ nil (λa b _ ih=>cons a b ih) h
theorem rO.length{K:ay}:∀{v:@cn} {d:@aJ},rO K H v d->v.length=d.length:=λh=>
 rO.ind (motive:=λv d _=>v.length=d.length) rfl (λ_ _ ih=>congrArg (· + 1) ih) h
theorem tX.length{K:ay}:∀{v:@co} {d:@aJ},tX K H v d->v.length=d.length:=λh=>
 tX.ind (motive:=λv d _=>v.length=d.length) rfl (λ_ _ ih=>congrArg (· + 1) ih) h
def SQ(K:ay)(H:Hp)(a:Addr):GO->Prop
 |.lst ds=>∃vs,H a=some (.lst vs)/\@bt
 |.kU bB=>(∃kv,H a=some (.dK kv)/\rO K H kv bB)\/∃kv,H a=some (.dT kv)/\tX K H kv bB
 |.ins c fs=>∃C dx fv,H a=some (.ins C dx fv)/\qe K bJ c=@cz/\fv.map @N=fs.map @N/\bu K H (fv.map (·.2)) (fs.map (·.2))
 |.KG bB=>∃xs ks vs,H a=some (.ext (PDo a xs))/\abT bB ks vs xs/\bu K H ks (bB.map λp=>plD p.1)/\bu K H vs (bB.map λp=>p.2)
def mX(K:ay)(H:Hp)(G:Gp):Prop:=∀a g,G a=some g->SQ K H a g
theorem SQ.dk{K:ay}{H:Hp}{a:Addr}{kv:@cn}{bB:@aJ}(h:H a=some (.dK kv))(r:rO K H kv bB):SQ K H a (.kU bB):=.inl ⟨kv,h,r⟩
theorem SQ.mono{K:ay}(k:Kp H H')(e:H' a=H a)(h:SQ K H a g):SQ K H' a g:=by
 cases g with
 |lst ds=>obtain⟨vs,q,r⟩:=h;exact⟨vs,e.trans q,r.mono k⟩
 |ins c fs=>obtain⟨C,dx,fv,q,h1,h2,r⟩:=h;exact⟨C,dx,fv,e.trans q,h1,h2,r.mono k⟩
 |KG bB=>obtain⟨xs,ks,vs,q,h1,r1,r2⟩:=h;exact⟨xs,ks,vs,e.trans q,h1,r1.mono k,r2.mono k⟩
 |kU bB=>
  rcases h with ⟨kv,q,r⟩ |⟨kv,q,r⟩
  .exact .inl ⟨kv,e.trans q,r.mono k⟩
  .exact .inr ⟨kv,e.trans q,r.mono k⟩
theorem SQ.tracked{K:ay}(h:SQ K H a g):H a≠none:=by
 cases g with
 |lst ds=>obtain⟨vs,q,r⟩:=h;rw[q];simp
 |ins c fs=>obtain⟨C,dx,fv,q,_⟩:=h;rw[q];simp
 |KG bB=>obtain⟨xs,ks,vs,q,_⟩:=h;rw[q];simp
 |kU bB=>
  rcases h with ⟨kv,q,r⟩ |⟨kv,q,r⟩
  .rw[q];simp
  .rw[q];simp
theorem mX.free{K:ay}(h:mX K H G)(e:H a=none):G a=none:=by
 cases q:G a with
 |none=>rfl
 |some g=>exact absurd e (h a g q).tracked
theorem mX.aaz{K:ay}(h:mX K H G)(e:H a=some (.tup xs)):G a=none:=by
 cases q:G a with
 |none=>rfl
 | some g=>
  have z:=h a g q;cases g with
  |lst ds=>obtain⟨vs,q,r⟩:=z;rw[e] at q;cases q
  |ins c fs=>obtain⟨C,dx,fv,q,_⟩:=z;rw[e] at q;cases q
  |KG bB=>obtain⟨xs,ks,vs,q,_⟩:=z;rw[e] at q;cases q
  |kU bB=>
   rcases z with ⟨kv,q,r⟩ |⟨kv,q,r⟩
   .rw[e] at q;cases q
   .rw[e] at q;cases q
theorem mX.aaA{K:ay}(h:mX K H G)(e:H a=some (.nY o u)):G a=none:=by
 cases q:G a with
 |none=>rfl
 | some g=>
  have z:=h a g q;cases g with
  |lst ds=>obtain⟨vs,q,r⟩:=z;rw[e] at q;cases q
  |ins c fs=>obtain⟨C,dx,fv,q,_⟩:=z;rw[e] at q;cases q
  |KG bB=>obtain⟨xs,ks,vs,q,_⟩:=z;rw[e] at q;cases q
  |kU bB=>
   rcases z with ⟨kv,q,r⟩ |⟨kv,q,r⟩
   .rw[e] at q;cases q
   .rw[e] at q;cases q
structure Mv(K:ay)(H:Hp)(G:Gp)(H':Hp)(G':Gp):Prop where
 keep:∀a o,H a=@j->G a=none->H' a=@j/\G' a=none
 oP:∀a,G a≠none->H' a≠none
 ab:mX K H' G'
theorem Mv.refl{K:ay}(h:mX K H G):Mv K H G H G:=⟨λ_ _ e n=>⟨e,n⟩,λa n=>by
 cases q:G a with
 |none=>exact absurd q n
 |some g=>exact(h a g q).tracked,h⟩
theorem Mv.trans{K:ay}(a:Mv K H G H1 G1)(b:Mv K H1 G1 H2 G2):Mv K H G H2 G2 :=
 ⟨λc o e n=>let ⟨e1,n1⟩:=a.keep c o e n;b.keep c o e1 n1,λc n=>by
  have h1:=a.oP c n;cases q:G1 c with
  |some g=>exact b.oP c (by rw[q];simp)
  |none=>
   cases q1:H1 c with
   |none=>exact absurd q1 h1
   |some o=>rw[(b.keep c o q1 q).1];simp,b.ab⟩
theorem Mv.kp{K:ay}(m:Mv K H G H' G')(h:mX K H G):Kp H H' :=
 ⟨λa xs e=>(m.keep a _ e (h.aaz e)).1,λa o u e=>(m.keep a _ e (h.aaA e)).1⟩
theorem Kp.new{H:Hp}{p:Addr}{o:HO}(hp:H p=none):Kp H (upd H p o):=⟨λa xs e=>by rw[ck (e8 e hp)];exact e,λa ob u e=>by rw[ck (e8 e hp)];exact e⟩
theorem Kp.putL{H:Hp}{p:Addr}{xs:@z}{o:HO}(hp:H p=some @bw):Kp H (upd H p o) :=
 ⟨λa ys e=>by rw[ck (by ext d;rw[hp] at e;cases e)];exact e,λa ob u e=>by rw[ck (by ext d;rw[hp] at e;cases e)];exact e⟩
theorem Mv.new{K:ay}(h:mX K H G)(hp:H p=none)(ho:SQ K (upd H p o) p g):Mv K H G (upd H p o) (cJ G p g) where
 keep:=λa ob e n=>by
  have ne:=e8 e hp;exact⟨by rw[ck ne];exact e,by rw[cL ne];exact n⟩
 oP:=λa n=>by
  have ne:a≠p:=by ext d;exact n (h.free hp)
  rw[ck ne];exact(Mv.refl h).oP a n
 ab:=λa g' e=>by
  by_cases ha:a=p
  .subst ha;rw[ax] at e;cases e;exact ho
  .rw[cL ha] at e;exact(h a g' e).mono @a4 (ck ha)
theorem Mv.Mb{K:ay}(h:mX K H G)(hp:H p=none):Mv K H G (upd H p o) G where
 keep:=λa ob e n=>⟨by rw[ck (e8 e hp)];exact e,n⟩
 oP:=λa n=>by
  have ne:a≠p:=by ext d;exact n (h.free hp)
  rw[ck ne];exact(Mv.refl h).oP a n
 ab:=λa g' e=>by
  have ne:a≠p:=by ext d;rw[h.free hp] at e;cases e
  exact(h a g' e).mono @a4 (ck ne)
theorem Mv.put{K:ay}(h:mX K H G)(hg:G p=some g0)(k:Kp H (upd H p o))(ho:SQ K (upd H p o) p g):Mv K H G (upd H p o) (cJ G p g) where
 keep:=λa ob e n=>by
  have ne:a≠p:=by ext d;rw[hg] at n;cases n
  exact⟨by rw[ck ne];exact e,by rw[cL ne];exact n⟩
 oP:=λa n=>by
  by_cases ha:a=p
  .subst ha;rw[dq];simp
  .rw[ck ha];exact(Mv.refl h).oP a n
 ab:=λa g' e=>by
  by_cases ha:a=p
  .subst ha;rw[ax] at e;cases e;exact ho
  .rw[cL ha] at e;exact(h a g' e).mono k (ck ha)
theorem mX.lst{K:ay}(h:mX K H G)(e:G a=@bJ):∃vs,H a=some (.lst vs)/\@bt:=h a _ e
theorem Mv.zW{K:ay}(h:mX K H G)(hp:H p=none)(r:@bt):Mv K H G (upd H p (.lst vs)) (cJ G p (.lst ds)) :=
 .new h hp ⟨vs,dq,r.mono @a4⟩
theorem Mv.putL{K:ay}(h:mX K H G)(hg:G p=some (.lst ds0))(hp:H p=some (.lst vs0))(r:@bt):Mv K H G (upd H p (.lst vs)) (cJ G p (.lst ds)) :=
 .put h hg (.putL hp) ⟨vs,dq,r.mono (.putL hp)⟩
structure Td(K:ay)(H:Hp)(σ:L2.St)(τ:iw):Prop where
 len:σ.length=τ.length
 at':∀(i:Nat) (d:D),τ[i]?=some (@aM)->∃v,σ[i]?=some (@Q)/\@bl
theorem Td.mono{K:ay}(k:Kp H H')(a:Td K H σ τ):Td K H' σ τ :=
 ⟨a.len,λi d e=>let ⟨v,h1,h2⟩:=a.at' i d e;⟨v,h1,h2.mono k⟩⟩
theorem Td.set{K:ay}(a:Td K H σ τ)(i)(r:@bl):Td K H (σ.set i (@Q)) (τ.set i (@aM)):=by
 refine⟨by rw[eE,eE];exact a.len,λj e h=>?_⟩;by_cases hj:i=j
 .subst hj;by_cases hi:i<τ.length
  .rw[dh hi] at h;cases h;exact⟨v,by rw[dh (by rw[a.len];exact hi)],r⟩
  .rw[List.set_eq_of_length_le @c] at h;rw[jD @c] at h;cases h
 .rw[dU hj] at h;obtain⟨w,h1,h2⟩:=a.at' j e h;exact⟨w,by rw[dU hj];exact h1,h2⟩
structure I2(X:Cx)(pins:@v)(σ:L2.St)(H:Hp)(τ:iw)(G:Gp)(s:aE):Prop where
 inv:@m
 st:Td X.K H σ τ
 ab:@be
theorem I2.mv(I:@ch)(I':@de)(m:@b_):I2 X pins σ H' τ G' s' :=
 ⟨I',I.st.mono (m.kp I.ab),m.ab⟩
def CXe(P:bR)(w:World):K0:=λouter H s E e s'=>∃(a C t:Addr) (B:Heap) (H':Hp),e=@ar/\s'.os=s.os/\EL s'.gens/\Un (Pg outer) [] H H' s.heap s'.heap/\vT P w H' s'.heap /\
 (∀b o,s'.heap.get? b=@j->b∉Pg outer->(@au≠none\/H' b≠none)->B.get? b=@j)/\PySem.Heap.FlyingW B outer a @aP (.ref t) s'.heap/\H' a=none/\@cR=none/\E @aP none H'
def exK(K:ay)(mg:@aU)(E:l8):XK:=λcls _ H=>∃(ex:Ex) (C:Addr) (G:Gp),cls=.ref C/\mg ex.cls=some @aP/\mX K H G/\E ex G
structure Lk(X:Cx)(E:l8):Prop where
 made:∀(pins:@v) (σ:L2.St) (H:Hp) (s:aE) (h1:Heap) (a C:Addr) (args:@C) (ex:Ex) (G:Gp),@m->@be->PySem.Heap.MadeExcOf s.heap h1 a @aP args->X.mg ex.cls=some @aP->E ex G->X.xe @U {s with heap:=h1}
 pass:∀(pins:@v) (σ:L2.St) (H:Hp) (s s':aE) (e:Value),@m->CXe X.prog X.w X.stack H s (exK X.K X.mg E) e s'->X.xe e s'
theorem Lk.none(h:∀ex G,¬ E ex G):Lk X E where
 made:=λ_ _ _ _ _ _ _ _ ex _ _ _ _ _ z=>absurd z (h ex _)
 pass:=λ_ _ _ _ _ _ _ hc=>by
  obtain⟨_,_,_,_,_,_,_,_,_,_,_,_,_,_,hz⟩:=hc;obtain⟨ex,_,_,_,_,_,z⟩:=hz;exact absurd z (h ex _)
inductive rg (X:Cx) (pins:@v) (σ:L2.St) (H:Hp) (G:Gp) (Q:DK) (u:Value) (s':aE):Prop
 |mk (v:V) (H':Hp) (d:D) (G':Gp) (i:@de) (m:@b_) (r:@bn) (rd:cX X.K H' v d) (q:Q d G'):rg X pins σ H G Q u s'
inductive ZP (X:Cx) (pins:@v) (σ:L2.St) (H:Hp) (G:Gp) (Q:Bool->@E) (b:Bool) (s':aE):Prop
 |mk (H':Hp) (G':Gp) (i:@de) (m:@b_) (q:Q b G'):ZP X pins σ H G Q b s'
inductive AP2 (X:Cx) (pins:@v) (σ:L2.St) (H:Hp) (G:Gp) (Q:@e->@E) (us:@C) (s':aE):Prop
 |mk (vs:@z) (H':Hp) (ds:@e) (G':Gp) (i:@de) (m:@b_) (r:@ci) (rd:bu X.K H' vs ds) (q:Q ds G'):AP2 X pins σ H G Q us s'
inductive SPn (X:Cx) (pins:@v) (H:Hp) (G:Gp) (P:iw->@E) (s':aE):Prop
 |mk (jT:L2.St) (H':Hp) (rm:iw) (G':Gp) (i:I2 X pins jT H' rm G' s') (m:@b_) (q:P rm G'):SPn X pins H G P s'
inductive SPr (X:Cx) (pins:@v) (H:Hp) (G:Gp) (P:D->@E) (u:Value) (s':aE):Prop
 |mk (v:V) (jT:L2.St) (H':Hp) (d:D) (G':Gp) (i:Inv X pins jT H' s') (m:@b_) (r:@bn) (rd:cX X.K H' v d) (q:P d G'):SPr X pins H G P u s'
def Zm(X:Cx)(pins:@v)(H:Hp)(G:Gp)(D:lG)(f:Flow)(s':aE):Prop :=
 match f with
 |.next=>SPn X pins H G D.nx s'
 |.brk=>SPn X pins H G D.bk s'
 |.cont=>SPn X pins H G D.ct s'
 |.ret u=>SPr X pins H G D.rt u s'
def eS(X:Cx)(e:Expr)(t:gE):Prop :=
 ∀(E:l8) (pins:@v) (s:aE) (σ:L2.St) (H:Hp) (τ:iw) (G:Gp) (Q:DK),Lk X E->@ch->t E τ G Q->wpAny @q X.A (eval e X.env) @bK X.xe s
def EB(X:Cx)(e:Expr)(t:yX):Prop :=
 ∀(E:l8) (pins:@v) (s:aE) (σ:L2.St) (H:Hp) (τ:iw) (G:Gp) (Q:Bool->@E),Lk X E->@ch->t E τ G Q->wpAny @q X.A (isTrue e X.env (eval e X.env)) (ZP X pins σ H G Q) X.xe s
def SF(X:Cx)(e:Expr)(t:yX):Prop :=
 ∀(wh:Sem Value) (E:l8) (pins:@v) (s:aE) (σ:L2.St) (H:Hp) (τ:iw) (G:Gp) (Q:Bool->@E),Lk X E->@ch->t E τ G Q->wpAny @q X.A (isTrue e X.env wh) (ZP X pins σ H G Q) X.xe s
def zO(X:Cx)(es:@aX)(t:Bb):Prop :=
 ∀(pos:Pos) (E:l8) (pins:@v) (s:aE) (σ:L2.St) (H:Hp) (τ:iw) (G:Gp) (Q:@e->@E),Lk X E->@ch->t E τ G Q->wpAny @q X.A (I0 (jP pos (bF es X.env))) (AP2 X pins σ H G Q) X.xe s
def yY(X:Cx)(st:Stmt)(t:fZ):Prop :=
 ∀(E:l8) (pins:@v) (s:aE) (σ:L2.St) (H:Hp) (τ:iw) (G:Gp) (D:lG),Lk X E->@ch->t E D τ G->wpAny @q X.A (exec st X.env) (Zm X pins H G D) X.xe s
def tT(X:Cx)(st:List Stmt)(t:fZ):Prop :=
 ∀(E:l8) (pins:@v) (s:aE) (σ:L2.St) (H:Hp) (τ:iw) (G:Gp) (D:lG),Lk X E->@ch->t E D τ G->wpAny @q X.A (execs st X.env) (Zm X pins H G D) X.xe s
theorem Zm.trans{D:lG}(m:@c8)(h:Zm X pins H1 G1 D f s'):Zm X pins H G D f s':=by
 cases f with
 |next=>obtain⟨jT,H',rm,G',I,m',q⟩:=h;exact⟨jT,H',rm,G',I,m.trans m',q⟩
 |brk=>obtain⟨jT,H',rm,G',I,m',q⟩:=h;exact⟨jT,H',rm,G',I,m.trans m',q⟩
 |cont=>obtain⟨jT,H',rm,G',I,m',q⟩:=h;exact⟨jT,H',rm,G',I,m.trans m',q⟩
 |ret u=>obtain⟨v,jT,H',d,G',I,m',r,rd,q⟩:=h;exact⟨v,jT,H',d,G',I,m.trans m',r,rd,q⟩
section
variable {X:Cx} {a b c:Expr} {ta tb tc:gE} {pos:Pos}
theorem kG(ha:@bh)(hE:Lk X E)(I:@ch)(h:ta E τ G R)
  (k:∀v H1 d G1 u s1,I2 X pins σ H1 τ G1 s1->@c8->@bn->cX X.K H1 v d->R d G1->Q u s1):wpAny @q X.A (@c1) Q X.xe s :=
 gT (ha E pins s σ H τ G R hE I h) (by rintro u s1 ⟨v,H1,d,G1,I1,m,r,rd,q⟩;exact k v H1 d G1 u s1 (I.mv I1 m) m r rd q)
theorem rg.trans(m:@c8)(h:rg X pins σ H1 G1 Q u s'):rg X pins σ H G Q u s':=by
 obtain⟨v,H',d,G',I,m',r,rd,q⟩:=h;exact⟨v,H',d,G',I,m.trans m',r,rd,q⟩
theorem ZP.trans(m:@c8)(h:ZP X pins σ H1 G1 Q u s'):ZP X pins σ H G Q u s':=by
 obtain⟨H',G',I,m',r⟩:=h;exact⟨H',G',I,m.trans m',r⟩
theorem UA   (hN:X.N[i]?=@ak) (hv:Vis X.env.scope x) (hd:@c6) (Pe:autoParam ((x == ("__classdict__":Str))=false) Ad._auto_1):eS X (.Name x pos) (ak i):=by
 ext i;unfold ak at h;split at h
 .rename_i d e;obtain⟨v,h1,h2⟩:=I.st.at' i d e;exact gT (Xv hN hv hd Pe pins s σ H (λv' H'=>v'=v/\H'=H) I.inv ⟨v,h1,rfl,rfl⟩) λu s1 Vi=>by
   obtain⟨v',H',I1,r,e1,e2⟩:=Vi;subst e1;subst e2;exact⟨_,_,d,G,I1,.refl I.ab,r,h2,h⟩
 .exact h.elim
theorem pJ(h:PE X e (tC v))(r:∀K H,@bl):eS X e (dC d):=by
 intro E pins s σ H τ G Q hE I hq;exact gT (h pins s σ H (λv' H'=>v'=v/\H'=H) I.inv @ao) λu s1 Vh=>by
  obtain⟨v',H',I1,rr,e1,e2⟩:=Vh;subst e1;subst e2;exact⟨_,_,d,G,I1,.refl I.ab,rr,r _ _,hq⟩
theorem UI{i j}:eS X (.Constant (@M) j pos) (dC (@M)):=pJ Xy λ_ _=>@M
def pZ(X:Cx)(f:Value->Value->Sem Value)(r:Gv):Prop :=
 ∀(pins:@v) (s:aE) (σ:L2.St) (H:Hp) (G:Gp) (x y:V) (dx dy:D) (v u:Value) (Q:DK),@m->@be->@bx->RelV y u->cX X.K H x dx->cX X.K H y dy->r dx dy G Q ->
  wpAny @q X.A (f v u) @bK X.xe s
def Zj(X:Cx)(f:Value->Sem Value)(r:D->Gp->DK->Prop):Prop :=
 ∀(pins:@v) (s:aE) (σ:L2.St) (H:Hp) (G:Gp) (x:V) (dx:D) (v:Value) (Q:DK),@m->@be->@bx->cX X.K H x dx->r dx G Q ->
  wpAny @q X.A (f v) @bK X.xe s
def kY(X:Cx)(f:Value)(r:@e->Gp->DK->Prop):Prop :=
 ∀(pins:@v) (s:aE) (σ:L2.St) (H:Hp) (G:Gp) (xs:@z) (ds:@e) (us:@C) (Q:DK),@m->@be->@cK->bu X.K H xs ds->r ds G Q ->
  wpAny @q X.A (call f us) @bK X.xe s
abbrev Dv(K:ay)(H:Hp)(G:Gp)(Q:DK):VK:=λv H'=>∃d G',Mv K H G H' G'/\cX K H' v d/\Q d G'
theorem rg.of(h:EP X pins σ @bY u s'):rg X pins σ H G Q u s':=by
 obtain⟨v,H',I,r,d,G',m,rd,q⟩:=h;exact⟨v,H',d,G',I,m,r,rd,q⟩
theorem Sw(ha:@bh)(hb:eS X b tb){R:D->D->@E}(hE:Lk X E)(I:@ch)
  (h:ta E τ G λx G1=>tb E τ G1 λy G2=>R x y G2)  {f:Value->Value->Sem Value}
  (hf:∀v u s2 x y dx dy H2 G2,I2 X pins σ H2 τ G2 s2->Mv X.K H G H2 G2->@bx->RelV y u->cX X.K H2 x dx->cX X.K H2 y dy->R dx dy G2->wpAny @q X.A (f v u) Q X.xe s2):
  wpAny @q X.A (@c1) (λv fP=>wpAny @q X.A (eval b X.env) (λu jX=>wpAny @q X.A (f v u) Q X.xe jX) X.xe fP) X.xe s:=by
 refine kG ha hE I h λx H1 dx G1 v s1 I1 m1 r1 jH q1=>?_;refine kG hb hE I1 q1 λy H2 dy G2 u s2 lY m2 r2 De q2=>?_;exact hf v u s2 x y dx dy H2 G2 lY (@cE) r1 r2 (jH.mono (m2.kp I1.ab)) De q2
theorem XB(ho:pZ X (kA op) r)(ha:@bh)(hb:eS X b tb):eS X (.BinOp a op b pos) (aM r ta tb):=by
 ext i;exact wpAny_BinOp (Sw ha hb hE I h λv u s2 x y dx dy H2 G2 lY m rx ry dX dY q=>gT (ho pins s2 σ H2 G2 x y dx dy v u Q lY.inv lY.ab rx ry dX dY q) λ_ _ z=>z.trans m)
theorem Xz(ho:Zj X (unaryOp op) r)(ha:@bh):eS X (.UnaryOp op a pos) (yS r ta):=by
 ext i;exact UnaryOp_ (kG ha hE I h λx H1 dx G1 v s1 I1 m1 r1 jH q1=>gT (ho pins s1 σ H1 G1 x dx v Q I1.inv I1.ab r1 jH q1) @cQ)
theorem UM(ho:pZ X (fU op) r)(ha:@bh)(hb:eS X b tb)(hm:behindInMarks op b=false):eS X (.Compare a [op] [b] pos) (aM r ta tb):=by
 ext i;exact wpAny_Compare1 (Sw ha hb hE I h λv u s2 x y dx dy H2 G2 lY m rx ry dX dY q=>gT (ho pins s2 σ H2 G2 x y dx dy v u Q lY.inv lY.ab rx ry dX dY q) λ_ _ z=>z.trans m) hm
end
theorem ZX{K:ay}(ab:mX K H G)(r:cX K H x d)(e:Jq d G=some k):(∃p,x=@V/\Rd H p (.dT [])/\k=false)\/(∃p kv,x=@V/\Rd H p (.dK kv)/\k=!kv.isEmpty)\/Zk K x H k:=by
 have R8:∀bB:@aJ,(if(bB.all λp=>gG p.1)=true then some (!bB.isEmpty) else none)=some k->∀p,((∃kv,Rd H p (.dK kv)/\rO K H kv bB)\/∃kv,Rd H p (.dT kv)/\tX K H kv bB) ->
   (∃p',V.ref p=.ref p'/\Rd H p' (.dT [])/\k=false)\/(∃p' kv,V.ref p=.ref p'/\Rd H p' (.dK kv)/\k=!kv.isEmpty)\/Zk K (@V) H k:=by
  intro bB e p z;by_cases ha:(bB.all λp=>gG p.1)=true
  .rw[if_pos ha] at e;cases e;rcases z with ⟨kv,hv,rs⟩ |⟨kv,hv,rs⟩
   .right;left;refine⟨p,kv,rfl,hv,?_⟩;cases rs<;>rfl
   .left;cases rs with
    |nil=>exact⟨p,rfl,hv,rfl⟩
    |cons _ _=>simp[gG] at ha
  .rw[if_neg ha] at e;cases e
 cases r with
 |cY=>right;right;cases e;rfl
 |bl b=>right;right;cases e;rfl
 |int i=>right;right;cases e;rfl
 |str y=>
  right;right;unfold Jq at e;dsimp only at e;by_cases h:y.length<=SZ
  .rw[if_pos h] at e;cases e;exact⟨by rw[cN];exact h,rfl⟩
  .rw[if_neg h] at e;cases e
 |tup h rs=>
  right;right;cases e;refine .inr (.inl ⟨_,.of h,?_⟩);cases rs<;>rfl
 |dg h rs=>
  right;right;cases e;refine .inl ⟨_,h.sq,?_⟩;cases rs<;>rfl
 |vG h rs=>exact R8 _ e _ (.inl ⟨_,.inr ⟨_,h⟩,rs⟩)
 |vF h rs=>exact R8 _ e _ (.inr ⟨_,.inr ⟨_,h⟩,rs⟩)
 |exc h=>simp[Jq] at e
 |Ie h _=>simp[Jq] at e
 |E5 _ _ _ _=>simp[Jq] at e
 | ref a=>
  unfold Jq at e;dsimp only at e;cases q:G a with
  |none=>rw[q] at e;cases e
  | some g=>
   rw[q] at e;have z:=ab a g q;cases g with
   |lst ds=>
    right;right;obtain⟨vs,hv,rs⟩:=z;cases e;refine .inl ⟨vs,.of hv,?_⟩;cases rs<;>rfl
   |ins _ _=>cases e
   |KG _=>cases e
   |kU bB=>
    refine R8 bB e a ?_;rcases z with ⟨kv,hv,rs⟩ |⟨kv,hv,rs⟩
    .exact .inl ⟨kv,.inl hv,rs⟩
    .exact .inr ⟨kv,.inl hv,rs⟩
section
variable {X:Cx} {a b c:Expr} {ta tb tc:gE} {pos:Pos}
def abS(X:Cx):Prop:=∀(pins:@v) (s:aE) (σ:L2.St) (H:Hp) (G:Gp) (x:V) (d:D) (v:Value) (k:Bool) (Q:Bool->@ag),@m->@be->@bx->cX X.K H x d->Jq d G=some k ->
  (∀s',Inv X pins σ H s'->Q k s')->wpAny @q X.A (truthy v) Q X.xe s
theorem Jp:abS X:=by
 intro pins s σ H G x d v k Q I ab rx rd e q;rcases ZX ab rd e with ⟨p,rfl,hv,hk⟩ |⟨p,kv,rfl,hv,hk⟩ |h
 .obtain⟨z,hS,xs,rel,o,es,ep,ho,hx,Kl,hl,nd⟩:=hv.ok I.dS;have hxs:xs=[]:=by cases rel;rfl
  subst hxs;have he:es=#[]:=@dr
  subst he;cases rx;have dd:s.heap.DictOf (f9 X.prog X.w) p []:=⟨o,#[],ep,ho,hx,Kl,(λ_ h=>@cr),.nil,fj⟩;refine IZ hS dd @i ?_;subst hk;exact q _ (@aF)
 .cases rx;subst hk;exact Vw I hv q
 .exact gT (WY pins s σ H x v (λk' H'=>k'=k/\H'=H) I rx ⟨k,h,rfl,rfl⟩) λk' s' Vi=>by
   obtain⟨H',I',e1,e2⟩:=Vi;subst e1;subst e2;exact q s' I'
theorem Nq(ha:@bh)(he:autoParam (∀whole,isTrue a X.env whole=(do let v ← whole;standAt a.pos;ym [v] (truthy v))) Ai._auto_1):EB X a (eW ta):=by
 ext i;refine isTrue_plain (kG ha hE I h λx H1 d G1 v s1 I1 m1 r1 jH q1=>?_) (he _)
 try dsimp only at q1
 split at q1
 .rename_i k e;exact Jp pins s1 σ H1 G1 x d v k _ I1.inv I1.ab r1 jH e λs' I'=>⟨H1,G1,I',m1,q1⟩
 .exact q1.elim
theorem Fb(ho:pZ X (fU op) r)(ha:@bh)(hb:eS X b tb)(hm:behindInMarks op b=false):EB X (.Compare a [op] [b] pos) (eW (aM r ta tb)):=by
 ext i;refine wpAny_isTrue_Compare1 (kG ha hE I h λx H1 dx G1 v s1 I1 m1 r1 jH q1=>kG hb hE I1 q1 λy H2 dy G2 u s2 lY m2 r2 De q2=>
  gT (ho pins s2 σ H2 G2 x y dx dy v u _ lY.inv lY.ab r1 r2 (jH.mono (m2.kp I1.ab)) De q2) ?_) hm
 rintro c s3 ⟨z,H3,dz,G3,I3,m3,r3,rd3,q3⟩
 try dsimp only at q3
 split at q3
 .rename_i k e;exact Jp pins s3 σ H3 G3 z dz c k _ I3 m3.ab r3 rd3 e λs' I'=>⟨H3,G3,I',(@cE).trans m3,q3⟩
 .exact q3.elim
variable {tA tB:yX} {rest:@aX}
theorem SF.pt(h:SF X e t):EB X e t:=λE pins s σ H τ G Q hE I q=>h _ E pins s σ H τ G Q hE I q
theorem M4(ha:EB X a tA)(hE:Lk X E)(I:@ch)(h:tA E τ G R)
  (k:∀c H1 G1 s1,I2 X pins σ H1 τ G1 s1->@c8->R c G1->Q c s1):wpAny @q X.A (isTrue a X.env (@c1)) Q X.xe s :=
 gT (ha E pins s σ H τ G R hE I h) (by rintro c s1 ⟨H1,G1,I1,m,q⟩;exact k c H1 G1 s1 (I.mv I1 m) m q)
theorem Qc(ha:EB X a tA):SF X (.BoolOp .And [a] pos) tA:=by
 intro wh E pins s σ H τ G Q hE I h;refine isTrue_and (gT (ha E pins s σ H τ G Q hE I h) λc s1 e=>?_);cases c with
 |true=>exact isTrue_and_nil e
 |false=>exact e
theorem Ue(ha:EB X a tA):SF X (.BoolOp .Or [a] pos) tA:=by
 intro wh E pins s σ H τ G Q hE I h;refine isTrue_or (gT (ha E pins s σ H τ G Q hE I h) λc s1 e=>?_);cases c with
 |false=>exact isTrue_or_nil e
 |true=>exact e
theorem Ug(ha:EB X a tA)(hb:SF X (.BoolOp .And (b::rest) pos) tB):SF X (.BoolOp .And (a::b::rest) pos) (xM tA tB):=by
 intro wh E pins s σ H τ G Q hE I h;refine isTrue_and (M4 ha hE I h λc H1 G1 s1 I1 m1 q1=>?_);cases c with
 |true=>exact gT (hb wh E pins s1 σ H1 τ G1 Q hE I1 (@ds)) @cQ
 |false=>exact⟨H1,G1,I1.inv,m1,@ds⟩
theorem Xp(ha:EB X a tA)(hb:SF X (.BoolOp .Or (b::rest) pos) tB):SF X (.BoolOp .Or (a::b::rest) pos) (Mu tA tB):=by
 intro wh E pins s σ H τ G Q hE I h;refine isTrue_or (M4 ha hE I h λc H1 G1 s1 I1 m1 q1=>?_);cases c with
 |false=>exact gT (hb wh E pins s1 σ H1 τ G1 Q hE I1 (@ds)) @cQ
 |true=>exact⟨H1,G1,I1.inv,m1,@ds⟩
theorem Ui(ha:EB X a tA):EB X (.UnaryOp .Not a pos) (vP tA):=by
 ext i;exact isTrue_not (gT (ha E pins s σ H τ G (λc H1=>Q (!c) H1) hE I h) (by rintro c s' ⟨H',G',i,m,q⟩;exact⟨H',G',i,m,q⟩))
theorem UD{op}(h:eS X a t):eS X (.BoolOp op [a] pos) t:=λE pins s σ H τ G Q hE I hw=>BoolOp_one (h E pins s σ H τ G Q hE I hw)
theorem UO(ha:@bh)(hb:eS X (.BoolOp .And (b::rest) pos) tb):eS X (.BoolOp .And (a::b::rest) pos) (Ep ta tb):=by
 ext i;refine BoolOp_and (kG ha hE I h λx H1 d G1 v s1 I1 m1 r1 jH q1=>?_)
 try dsimp only at q1
 split at q1
 .rename_i e;exact Jp pins s1 σ H1 G1 x d v true _ I1.inv I1.ab r1 jH e λs' I'=>gT (hb E pins s' σ H1 τ G1 Q hE ⟨I',I1.st,I1.ab⟩ q1) @cQ
 .rename_i e;exact Jp pins s1 σ H1 G1 x d v false _ I1.inv I1.ab r1 jH e λs' I'=>⟨x,H1,d,G1,I',m1,r1,jH,q1⟩
 .exact q1.elim
theorem XA(ha:@bh)(hb:eS X (.BoolOp .Or (b::rest) pos) tb):eS X (.BoolOp .Or (a::b::rest) pos) (Ox ta tb):=by
 ext i;refine BoolOp_or (kG ha hE I h λx H1 d G1 v s1 I1 m1 r1 jH q1=>?_)
 try dsimp only at q1
 split at q1
 .rename_i e;exact Jp pins s1 σ H1 G1 x d v true _ I1.inv I1.ab r1 jH e λs' I'=>⟨x,H1,d,G1,I',m1,r1,jH,q1⟩
 .rename_i e;exact Jp pins s1 σ H1 G1 x d v false _ I1.inv I1.ab r1 jH e λs' I'=>gT (hb E pins s' σ H1 τ G1 Q hE ⟨I',I1.st,I1.ab⟩ q1) @cQ
 .exact q1.elim
theorem UE(ha:@bh):eS X (.UnaryOp .Not a pos) (Mw ta):=by
 ext i;refine UnaryOp_ (kG ha hE I h λx H1 d G1 v s1 I1 m1 r1 jH q1=>?_)
 try dsimp only at q1
 split at q1
 .rename_i k e;exact not_of (Jp pins s1 σ H1 G1 x d v k _ I1.inv I1.ab r1 jH e λs' I'=>⟨.bl (!k),H1,.bl (!k),G1,I',m1,rfl,.bl _,q1⟩)
 .exact q1.elim
theorem XD(hc:EB X c tA)(ha:@bh)(hb:eS X b tb):eS X (.IfExp c a b pos) (dIf tA ta tb):=by
 ext i;refine wpAny_IfExp (M4 hc hE I h λd H1 G1 s1 I1 m1 q1=>?_);cases d with
 |true=>exact gT (ha E pins s1 σ H1 τ G1 Q hE I1 (@ds)) @cQ
 |false=>exact gT (hb E pins s1 σ H1 τ G1 Q hE I1 (@ds)) @cQ
variable {e:Expr} {es:@aX} {te:gE} {t:Bb}
theorem AQ:zO X [] aH:=λ_ _ _ _ _ H _ G Q _ I h=>sk ⟨[],H,[],G,I.inv,.refl I.ab,.nil,.nil,h⟩
theorem sY(ha:eS X e te)(hr:zO X es t)(hs:@dL):zO X (e::es) (ah te t):=by
 intro pos E pins s σ H τ G Q hE I h;rw[hs];show wpAny _ _ (I0 ((false,eval e X.env)::jP pos (bF es X.env))) _ _ s;refine i9 (kG ha hE I h λx H1 d G1 u s1 I1 m1 r1 jH q1=>?_);exact gT (hr pos E pins s1 σ H1 τ G1 _ hE I1 q1) (by rintro us s2 ⟨xs,H2,ds,G2,lY,m2,r2,De,q2⟩;exact⟨x::xs,H2,d::ds,G2,lY,@cE,.cons r1 r2,.cons (jH.mono (m2.kp I1.ab)) De,q2⟩)
theorem Bo(ha:zO X es t)(pos)(hE:Lk X E)(I:@ch)(h:t E τ G R)
  (k:∀vs H1 ds G1 us s1,I2 X pins σ H1 τ G1 s1->@c8->@ci->bu X.K H1 vs ds->R ds G1->Q us s1):wpAny @q X.A (I0 (jP pos (bF es X.env))) Q X.xe s :=
 gT (ha pos E pins s σ H τ G R hE I h) (by rintro us s1 ⟨vs,H1,ds,G1,I1,m,r,rd,q⟩;exact k vs H1 ds G1 us s1 (I.mv I1 m) m r rd q)
theorem UB{x1}(h:zO X es t):eS X (.Tuple es x1 pos) (dN t):=by
 intro E pins s σ H τ G Q hE I hq;refine wpAny_Tuple_spliced (Bo h pos hE I hq ?_);rintro xs H1 ds G1 us s1 I1 m1 r rd ⟨z,q⟩;refine⟨by rw[<-r.length,rd.length,cN];exact z,?_⟩;have hf:H1 s1.heap.objs.size=none:=I1.inv.dS.fresh @X;refine⟨.ref s1.heap.objs.size,upd H1 s1.heap.objs.size (.tup xs),.tup ds,G1,I1.inv.laid (t':=s1.toks) (λb u e=>aG _ e) @X ?_,m1.trans (.Mb I1.ab hf),rfl,?_,q⟩
 .exact⟨by rw[rd.length,cN];exact z,us,r,⟨_,a8 _ rfl,rfl,_,rfl⟩⟩
 .exact .tup dq (rd.mono (.new hf))
theorem UH(h:zO X es t):eS X (.List es pos) (c9 t):=by
 intro E pins s σ H τ G Q hE I hq;refine wpAny_List_spliced (Bo h pos hE I hq ?_);rintro xs H1 ds G1 us s1 I1 m1 r rd ⟨z,q⟩;refine⟨by rw[<-r.length,rd.length,cN];exact z,?_⟩;have hf:H1 s1.heap.objs.size=none:=I1.inv.dS.fresh @X;refine⟨.ref s1.heap.objs.size,upd H1 s1.heap.objs.size @bw,.ref _,cJ G1 s1.heap.objs.size (.lst ds),I1.inv.laid (t':=s1.toks) (λb u e=>aG _ e) @X ?_,m1.trans (.zW I1.ab hf rd),rfl,.ref _,q _ (I1.ab.free hf)⟩;exact⟨by rw[rd.length,cN];exact z,us,0,r,a8 _ rfl⟩
def mx(K:ay)(sp:gM):Sp:=λvs H Q _=>∃ds G Q2,@bt/\mX K H G/\sp ds G Q2 @p/\∀d G' v H',Q2 d G'->Mv K H G H' G'->cX K H' v d->Q v H'
variable {k:Nat} {f:Addr} {fd:dQ} {ps:@D} {sp:gM} {x:Str} {p:Pos} {r:@e->Gp->DK->Prop} {id:String}
theorem Qy(F:rG X.prog X.w X.K X.mg X.base yb k f fd ps (mx X.K sp))(hr:jj k X.A)(hg:Gl X x)(hm:X.mg x=some @aD)(hk:qr X.K @aD=true)(hb:Binds X.K fd ps [])
  (ha:zO X (e::es) t) (HP:@c6) (he:@dL) (oX:autoParam @dg Ar._auto_1):
  eS X (.Call (.Name x p) (e::es) [] pos) (λE τ G Q=>aS (λds G1 Q1 _=>sp ds G1 Q1 @t) t E τ G Q):=by
 ext i;refine fT (Fm I.inv hg hm ?_ HP);refine zT (h₀:=X.base) I.inv.ok.mod.Vc hk (Bo ha pos hE I h λvs H1 ds G1 us s1 I1 m1 r rd q=>⟨I1.inv.D7,?_⟩) he oX;refine gT (P5 F hr hb .nil QA I1.inv r (Q:=Dv X.K H1 G1 Q) ?_) λ_ _ z=>(rg.of z).trans m1;rw[bC];exact⟨ds,G1,Q,rd,I1.ab,q,λd G' v H' q' m' V5=>⟨d,G',m',V5,q'⟩⟩
theorem NC (hc:kY X (.builtin id) r) (hg:Gl X x) (hm:X.mg x=none) (hv:c8 x=some (.builtin id)) (ha:zO X (e::es) t) (hn:autoParam (x≠"__name__") Ad._auto_1) (HP:@c6)
  (he:@dL) (oX:autoParam @dg Ar._auto_1):eS X (.Call (.Name x p) (e::es) [] pos) (jV r t):=by
 ext i;refine fT (nC I.inv hg hm hv ?_ hn HP);exact kZ (Bo ha pos hE I h λvs H1 ds G1 us s1 I1 m1 r1 jH q1=>gT (hc pins s1 σ H1 G1 vs ds us Q I1.inv I1.ab r1 jH q1) @cQ) he oX
variable {st:Stmt} {sts:List Stmt} {u v:fZ}
theorem Qf:tT X [] b8:=λ_ _ _ σ H τ G _ _ I h=>Be ⟨σ,H,τ,G,I,.refl I.ab,h⟩
theorem Nt(h1:yY X st u)(h2:tT X sts v):tT X (st::sts) (bG u v):=by
 ext t;refine wpAny_execs_cons (gT (h1 E pins s σ H τ G {D with nx:=v E D} hE I h) λf s1 q=>?_);cases f with
 |next=>
  obtain⟨jT,H',rm,G',I',m,q⟩:=q;exact gT (h2 E pins s1 jT H' rm G' D hE I' q) λ_ _ z=>z.trans m
 |ret v=>exact q
 |brk=>exact q
 |cont=>exact q
theorem Qe(h1:yY X st u):tT X [st] u:=by
 ext t;refine wpAny_execs_cons (gT (h1 E pins s σ H τ G D hE I h) λf s1 q=>?_);cases f with
 |next=>exact Be q
 |ret v=>exact q
 |brk=>exact q
 |cont=>exact q
theorem Ul(he:eS X e te):yY X (.Return (some e) pos) (bQ te):=by
 ext t;exact wpAny_Return_some (gT (he E pins s σ H τ G _ hE I h) (by rintro v s1 ⟨x,H1,d,G1,I1,m,r1,rd,q1⟩;exact⟨x,σ,H1,d,G1,I1,m,r1,rd,q1⟩))
theorem Xs(hc:EB X c tA)(ha:tT X sa u)(hb:tT X sb v):yY X (.If c sa sb pos) (du tA u v):=by
 ext t;refine wpAny_If (M4 hc hE I h λd H1 G1 s1 I1 m1 q1=>?_);cases d with
 |true=>exact gT (ha E pins s1 σ H1 τ G1 D hE I1 (@ds)) @cQ
 |false=>exact gT (hb E pins s1 σ H1 τ G1 D hE I1 (@ds)) @cQ
def CW(X:Cx)(target:Expr)(t:CV):Prop :=
 ∀(E:l8) (pins:@v) (s:aE) (σ:L2.St) (H:Hp) (τ:iw) (G:Gp) (w:V) (d:D) (u:Value) (Q:iw->@E),Lk X E->@ch->RelV w u->cX X.K H w d->t E d τ G Q ->
  wpAny @q X.A (Gy target X.env u) (λ_ s'=>∃jT H' rm G',I2 X pins jT H' rm G' s'/\@b_/\Q rm G') X.xe s
def KN(X:Cx)(ts:@aX)(t:F4):Prop :=
 ∀(E:l8) (pins:@v) (s:aE) (σ:L2.St) (H:Hp) (τ:iw) (G:Gp) (ws:@z) (ds:@e) (us:@C) (Q:iw->@E),Lk X E->@ch->Vals ws us->bu X.K H ws ds->t E ds τ G Q ->
  wpAny @q X.A (assignInOrder ((v5 ts X.env).map (·.2)) us) (λ_ s'=>∃jT H' rm G',I2 X pins jT H' rm G' s'/\@b_/\Q rm G') X.xe s
theorem Qr(hN:X.N.Nodup)(hi:X.N[i]?=@ak)(hx:Loc X.env.scope x)(hf:autoParam (X.fn x=true\/@da=@bB) Ao._auto_1):CW X (.Name x pos) (aI i):=by
 intro E pins s σ H τ G w d u Q hE I r rd h;exact wpAny_assign_Name (GS I.inv hN hi hx r (λs' I'=>⟨_,H,_,G,⟨I',I.st.set i rd,I.ab⟩,.refl I.ab,h⟩) hf)
theorem Qq:KN X [] rD:=by
 intro E pins s σ H τ G ws ds us Q hE I r rd h;unfold rD at h;split at h
 .have e:=rd.zero;subst e;cases r;exact assignInOrder_nil ⟨σ,H,τ,G,I,.refl I.ab,h⟩
 .exact h.elim
theorem Ny{t:CV}{u:F4}(h1:CW X e t)(h2:KN X es u)
  (hs:autoParam ((v5 (e::es) X.env).map (·.2)=Gy e X.env::(v5 es X.env).map (·.2)) Ar._auto_1):KN X (e::es) (hU t u):=by
 intro E pins s σ H τ G ws ds us Q hE I r rd h;unfold hU at h;split at h
 .cases rd with
  | cons jH De=>
   cases r with
   |cons r1 r2=>
    rw[hs];refine assignInOrder_cons (gT (h1 E pins s σ H τ G _ _ _ _ hE I r1 jH h) ?_);rintro _ s1 ⟨σ1,H1,rk,G1,I1,m1,q1⟩;exact gT (h2 E pins s1 σ1 H1 rk G1 _ _ _ Q hE I1 r2 (De.mono (m1.kp I.ab)) q1) (by rintro _ _ ⟨σ2,H2,CQ,G2,lY,m2,q2⟩;exact⟨σ2,H2,CQ,G2,lY,@cE,q2⟩)
 .exact h.elim
theorem Ux{t:F4}(hc:@bk)(h:KN X es t)(hgl:∀E ds τ G Q,t E ds τ G Q->ds.length=n)
  (hn:autoParam ((v5 es X.env).length=n) Ar._auto_1) (Fq:autoParam ((v5 es X.env).findIdx? @N=none) Ar._auto_1):CW X (.Tuple es k pos) (pQ t):=by
 intro E pins s σ H τ G w d u Q hE I r rd hw;unfold pQ at hw;split at hw
 .cases rd with
  |tup hq rs=>
   cases r;obtain⟨bz,rv,ht,hz⟩:=I.inv.tuple (.of hq);refine assign_Tuple_tuple (I.inv.ok.hd hc) ht (by rw[hn,aW,<-rv.length,rs.length];exact(hgl _ _ _ _ _ hw).symm) Fq λh' hx=>?_;have I1:Inv X pins σ H @bP:=I.inv.kept (t':=s.toks) λb o e=>hx b o (br (aQ e)) e;exact h E pins _ σ H τ G _ _ _ Q hE ⟨I1,I.st,I.ab⟩ (by simpa using rv) rs hw
 .exact hw.elim
theorem RG:∀E ds τ G Q,rD E ds τ G Q->ds.length=0:=by
 intro E ds τ G Q h;cases ds with
 |nil=>rfl
 |cons _ _=>exact h.elim
theorem Ol{t:CV}{u:F4}(h:∀E ds τ G Q,u E ds τ G Q->ds.length=n)(hm:∀E d τ G (Q Q':iw->@E),t E d τ G Q->(∀rm G',Q rm G'->Q' rm G')->t E d τ G Q')(hx:∀E d τ G,¬ t E d τ G @t):
  ∀E ds τ G Q,hU t u E ds τ G Q->ds.length=n+1:=by
 intro E ds τ G Q q;cases ds with
 |nil=>exact q.elim
 |cons d ds=>
  by_cases hl:ds.length=n
  .rw[af,hl]
  .exact absurd (hm E d τ G _ @p q λrm G' z=>hl (h _ _ _ _ _ z)) (hx E d τ G)
theorem Uq(he:eS X e te)(hg:CW X tg g)(hs:autoParam (swapsWithSole [tg] e pos.line X.env=pure false) Ar._auto_1)(hw:autoParam (swappedStores [tg] e X.env=pure none) Ar._auto_1)
  (h1:autoParam ((v5 [tg] X.env).map (·.2)=[Gy tg X.env]) Ar._auto_1):yY X (.Assign [tg] e pos) (bx te g):=by
 ext t;refine wpAny_Assign_stores (kG he hE I h λx H1 d G1 v s1 I1 m1 r1 jH q1=>?_) hs hw;rw[h1];exact gT (hg E pins s1 σ H1 τ G1 x d v _ hE I1 r1 jH q1) (by rintro _ s2 ⟨σ2,H2,CQ,G2,lY,m2,q2⟩;exact⟨σ2,H2,CQ,G2,lY,@cE,q2⟩)
theorem Uk(hN:X.N.Nodup)(hi:X.N[i]?=@ak)(hx:Loc X.env.scope x)(he:eS X e te)(hs:autoParam (rQ e (some (.Name x pos')) pos.line X.env=pure false) Ar._auto_1)(hf:autoParam (X.fn x=true\/@da=@bB) Ao._auto_1):
  yY X (.Assign [.Name x pos'] e pos) (bx te (aI i)):=by
 ext t;refine wpAny_Assign_Name (kG he hE I h λy H1 d G1 v s1 I1 m1 r1 jH q1=>?_) hs;exact GS I1.inv hN hi hx r1 (λs2 lY=>⟨_,H1,_,G1,⟨lY,I1.st.set i jH,I1.ab⟩,m1,q1⟩) hf
theorem Qi(he:eS X e te)(hs:autoParam (rQ e none pos.line X.env=pure false) Ar._auto_1):yY X (.Expr e pos) (cW te):=by
 ext t;exact wpAny_Expr_any (kG he hE I h λy H1 d G1 v s1 I1 m1 r1 jH q1=>⟨σ,H1,τ,G1,I1,m1,q1⟩) I.inv.quiet hs
end
def WD(K:ay)(J:It)(H':Hp)(ds:@e)(ok:@E):Prop :=
 ∀i H1 G1,Kp H' H1->mX K H1 G1->ok G1->(∀d,ds[i]?=@aM->J.go i H1/\∀x H2,J.yld i H1 x H2->cX K H2 x d/\Mv K H1 G1 H2 G1)/\(ds.length<=i->J.stop i H1)
inductive OL (X:Cx) (pins:@v) (σ:L2.St) (tg:Expr) (H:Hp) (G:Gp) (R:@bT) (Wi:Value) (s2:aE):Prop
 |mk (it:Addr) (fp:@aI) (tn:Nat->@bW) (J:It) (H':Hp) (G':Gp) (ds:@e) (ok:@E) (e:Wi=.ref it) (i:Inv X pins σ H' s2) (m:@b_) (T:Turn X.prog X.w X.K tg J fp it tn) (t0:tn 0 s2.heap) (f:∀b∈fp,qc X pins H' b)
  (wk:WD X.K J H' ds ok) (q:R ds ok G'):OL X pins σ tg H G R Wi s2
def IB(X:Cx)(tg iter:Expr)(wi:SD):Prop :=
 ∀(E:l8) (pins:@v) (s:aE) (σ:L2.St) (H:Hp) (τ:iw) (G:Gp) (R:@bT),Lk X E->@ch->wi E τ G R ->
  wpAny @q X.A (eval iter X.env) (λv s1=>wpAny @q X.A (K5 v) (OL X pins σ tg H G R) X.xe s1) X.xe s
section
variable {X:Cx} {tg:Expr} {a b:Expr} {ta tb:gE} {pos p:Pos}
theorem LZ{pins:@v}{σ:L2.St}{H H1:Hp}{G G1:Gp}{s1:aE}{l:Addr}{vs:@z}{ds:@e}{ok:@E}{R:@bT}(I1:Inv X pins σ H1 s1)(m:@c8)(hq:qZ X.K H1 l vs)
  (hk:∀H2 G2,Kp H1 H2->mX X.K H2 G2->ok G2->∃ws,qZ X.K H2 l ws/\bu X.K H2 ws ds) (q:R ds ok G1):wpAny @q X.A (K5 (@aC)) (OL X pins σ tg H G R) X.xe s1:=by
 obtain⟨bz,rv,pl,hz⟩:=I1.list hq;refine ky pl.isList ?_;refine⟨s1.heap.objs.size,[s1.heap.objs.size],_,_,H1,G1,ds,ok,rfl,I1.kept (t':=s1.toks) λb o e=>aG _ e,m,MX l _,@c5,λb hb=>?_,λi H2 G2 k ab o=>?_,q⟩
 .have e:b=s1.heap.objs.size:=@cs
  subst e;exact I1.Om @X (I1.dS.fresh @X)
 .obtain⟨ws,hw,rd⟩:=hk H2 G2 k ab o;refine⟨λd hd=>?_,λhl=>⟨ws,hw,by rw[rd.length];exact hl⟩⟩;obtain⟨v,hv,r⟩:=rd.get hd;refine⟨⟨ws,v,hw,hv⟩,?_⟩;rintro x H3 ⟨e,y⟩;subst e;have:=y ws hw;rw[hv] at this;cases this;exact⟨r,@ay⟩
theorem WX{pins:@v}{σ:L2.St}{H H1:Hp}{G G1:Gp}{s1:aE}{l:Addr}{vs:@z}{ds:@e}{R:@bT}(I1:Inv X pins σ H1 s1)(m:@c8)(hq:Cy X.K H1 l vs)(rd:bu X.K H1 vs ds)
  (q:R ds @bd G1):wpAny @q X.A (K5 (@aC)) (OL X pins σ tg H G R) X.xe s1:=by
 obtain⟨bz,rv,pl,hz⟩:=I1.tuple hq;refine uS (show s1.heap.IsTuple l bz.toArray from pl) ?_;refine⟨s1.heap.objs.size,[s1.heap.objs.size],_,_,H1,G1,ds,_,rfl,I1.kept (t':=s1.toks) λb o e=>aG _ e,m,Jn l _,@c5,λb hb=>?_,λi H2 G2 k ab _=>?_,q⟩
 .have e:b=s1.heap.objs.size:=@cs
  subst e;exact I1.Om @X (I1.dS.fresh @X)
 .have hw:=k.sqT hq;have De:=rd.mono k;refine⟨λd hd=>?_,λhl=>⟨vs,hw,by rw[rd.length];exact hl⟩⟩;obtain⟨v,hv,r⟩:=De.get hd;refine⟨⟨vs,v,hw,hv⟩,?_⟩;rintro x H3 ⟨e,y⟩;subst e;have:=y vs hw;rw[hv] at this;cases this;exact⟨r,@ay⟩
theorem Uw(ha:@bh):IB X tg a (hZ ta):=by
 intro E pins s σ H τ G R hE I h;refine kG ha hE I h λx H1 d G1 v s1 I1 m1 r1 jH q1=>?_;cases jH with
 |tup hq rs=>cases r1;exact WX I1.inv m1 (.of hq) rs q1
 |dg hq rs=>cases r1;exact LZ I1.inv m1 hq.sq (λH2 G2 k ab _=>⟨_,(k.W9 hq).sq,rs.mono k⟩) q1
 |ref p=>
  cases r1;dsimp only at q1;split at q1
  .rename_i ds e;obtain⟨vs,hv,rs⟩:=I1.ab.lst e;refine LZ I1.inv m1 (.of hv) (λH2 G2 k ab o=>?_) q1;obtain⟨ws,hw,vE⟩:=ab.lst o;exact⟨ws,.of hw,vE⟩
  .exact q1.elim
 |vG _ _=>ext j
 |vF _ _=>ext j
 |cY=>ext j
 |bl _=>ext j
 |int _=>ext j
 |str _=>ext j
 |exc _=>ext j
 |Ie _ _=>ext j
 |E5 _ _ _ _=>ext j
theorem Xm{pins:@v}{σ:L2.St}{H H1:Hp}{G G1:Gp}{s:aE}{R:@bT}{lo hi:Int}{t u v:Tok}{tk:Nat}(I:Inv X pins σ H1 s)(m:@c8)(h1:-(2 ^ 62)<=lo)(h2:lo<2 ^ 62)(h3:-(2 ^ 62)<=hi)(h4:hi<2 ^ 62)
  (q:R (ij lo (hi-lo).toNat) @bd G1):wpAny @q X.A (K5 (@bf)) (OL X pins σ tg H G R) X.xe {s with heap:=s.heap.push {cls:=.type "range",data:=.fields #[.int lo t,.int hi u,.int 1 v]},toks:=tk}:=by
 refine gT (Qb (tg:=tg) I h1 h2 h3 h4 (R:=λJ H'=>J=Itr lo (hi-lo).toNat/\H'=H1) @ao) ?_;rintro Wi s2 ⟨it,fp,tn,J,H',e,lY,T,st,fo,eJ,eH⟩;subst eJ;subst eH;refine⟨it,fp,tn,_,H',G1,_,_,e,lY,m,T,st,fo,λi H2 G2 k ab _=>⟨λd hd=>?_,λhl=>?_⟩,q⟩
 .unfold ij at hd;rw[aZ] at hd;cases zD:(cR (hi-lo).toNat)[i]? with
  |none=>rw[zD] at hd;cases hd
  |some j=>
   rw[zD] at hd;obtain⟨vd,ej⟩:=List.getElem?_eq_some_iff.mp zD;rw[iE] at vd;rw[lN] at ej;subst ej;cases hd;refine⟨vd,?_⟩;rintro x H3 ⟨e1,e2⟩;subst e1;subst e2;exact⟨@P,@ay⟩
 .unfold ij at hl;rw[ag,iE] at hl;exact hl
theorem JP (hg:Gl X "range") (hm:X.mg "range"=none) (ha:@bh) (hs:autoParam (bF [a] X.env=[(false,@c1)]) Ar._auto_1):IB X tg (.Call (.Name "range" p) [a] [] pos) (vc ta):=by
 intro E pins s σ H τ G R hE I h;have hA:zO X [a] (ah ta aH):=sY ha AQ hs;refine Call_ (nC I.inv hg hm boot_range (dW (Bo hA pos hE I (R:=λds G1=>match ds with |[.int n]=>-(2 ^ 62)<=n/\n<2 ^ 62/\R (ij 0 n.toNat) @bd G1 |_=>False) ?_ λvs H1 ds G1 us s1 I1 m1 r1 jH q1=>?_) hs rfl))
 .show ta E τ G _;have e:(λ(x:D) (G1:Gp)=>match [x] with |[.int n]=>-(2 ^ 62)<=n/\n<2 ^ 62/\R (ij 0 n.toNat) @bd G1 |_=>False)=λx G1=>match x with |.int n=>-(2 ^ 62)<=n/\n<2 ^ 62/\R (ij 0 n.toNat) @bd G1 |_=>False:=by
   funext x G1;cases x<;>rfl
  exact e ▸ h
 .split at q1
  .rename_i n;obtain⟨w,rfl,JH⟩:=jH.one;cases JH;obtain⟨u,rfl,ru⟩:=r1.one;obtain⟨t,rfl⟩:=ru;obtain⟨q1,q2,q⟩:=q1;exact call_range_1 (Xm I1.inv m1 @c @c q1 q2 (by simpa using q))
  .exact q1.elim
theorem Uo(hp:PassesOwn @q X.A X.env X.xe)(hc:@bk)(hi:IB X tg iter wi)(hg:CW X tg g)(hb:tT X body t)
  (hs:autoParam (@dv) Ai._auto_1):yY X (.For tg iter body [] pos) (fy wi g t):=by
 ext t;refine wpAny_For (gT (hi E pins s σ H τ G _ hE I h) λv s1 h1=>gT h1 λWi s2 h2=>?_) hs;obtain⟨it,fp,tn,J,H2,G2,ds,ok,e,lY,m2,T,S1,f2,wk,q⟩:=h2;subst e;have W6:∀{H':Hp},(∀b∈fp,H' b=none)->∀b∈fp,qc X pins H' b:=λhn b hb=>⟨hn b hb,(f2 b hb).2⟩;refine codeAny_forLoop_any (λn s'=>∃i jT H' rm G',I2 X pins jT H' rm G' s'/\@b_/\Kp H2 H'/\tn i s'.heap/\(∀b∈fp,H' b=none)/\n=ds.length-i/\i<=ds.length/\zE g t ok (ds.drop i) E D rm G') ?_ ds.length
  ⟨0,σ,H2,τ,G2,I.mv lY m2,m2,.refl _,S1,λb hb=>(f2 b hb).1,rfl,b9 _,q⟩
 rintro n s3 ⟨i,Tv,H3,WO,G3,I3,m3,k3,st3,fr3,rfl,hle,w3⟩;by_cases vd:i<ds.length
 .rw[h8 vd] at w3;obtain⟨ok3,w3⟩:=w3;obtain⟨go,yl⟩:=(wk i H3 G3 k3 I3.ab ok3).1 ds[i] (by simp[vd]);refine jZ hp (gT (T.item X rfl rfl rfl hc i pins s3 Tv H3 X.xe I3.inv (W6 fr3) st3 go) ?_);rintro r s4 ⟨u,hr,h4⟩;subst hr;refine jZ hp (gT h4 ?_);rintro _ s5 ⟨x,H5,I5,r5,y5,st5,fr5⟩;obtain⟨rd5,m5⟩:=yl x H5 y5;have I5':=I5.pinned (W6 fr5) (T.obj _ _ st5);have J5:I2 X (pins++sX fp s5.heap) Tv H5 WO G3 s5:=⟨I5',I3.st.mono (m5.kp I3.ab),m5.ab⟩;refine jZ hp (gT (hg E _ s5 Tv H5 WO G3 x ds[i] u _ hE J5 r5 rd5 w3) ?_);rintro _ s6 ⟨σ6,H6,τ6,G6,I6,m6,q6⟩;refine jZ hp (gT (hb E _ s6 σ6 H6 τ6 G6 _ hE I6 q6) λf s7 q7=>?_);have again:∀{O6:L2.St} {H7:Hp} {O5:iw} {G7:Gp},I2 X (pins++sX fp s5.heap) O6 H7 O5 G7 s7->Mv X.K H6 G6 H7 G7->zE g t ok (ds.drop (i+1)) E D O5 G7 ->
    ∃m,m<ds.length-i/\∃i jT H' rm G',I2 X pins jT H' rm G' s7/\@b_/\Kp H2 H'/\tn i s7.heap/\(∀b∈fp,H' b=none)/\m=ds.length-i/\i<=ds.length/\zE g t ok (ds.drop i) E D rm G':=λ{O6 H7 O5 G7} I7 m7 n7=>by
   have mm:=m5.trans (m6.trans m7);refine⟨ds.length-(i+1),@d,i+1,O6,H7,O5,G7,⟨I7.inv.we,I7.st,I7.ab⟩,m3.trans mm,k3.trans (mm.kp I3.ab),T.keep _ _ _ st5 λb hb o e=>(I7.inv.pin (b,o) (bD _ (bD _ (qE hb e)))).1,λb hb=>?_,rfl,vd,n7⟩;obtain⟨o,e,d⟩:=T.obj _ _ st5 b hb;exact(I7.inv.pin (b,o) (bD _ (bD _ (qE hb e)))).2.1
  cases f with
  |next=>obtain⟨O6,H7,O5,G7,I7,m7,n7⟩:=q7;exact again I7 m7 n7
  |cont=>obtain⟨O6,H7,O5,G7,I7,m7,n7⟩:=q7;exact again I7 m7 n7
  |brk=>obtain⟨O6,H7,O5,G7,I7,m7,q7⟩:=q7;exact⟨O6,H7,O5,G7,⟨I7.inv.we,I7.st,I7.ab⟩,m3.trans (m5.trans (m6.trans m7)),q7⟩
  |ret v=>obtain⟨x7,O6,H7,d7,G7,I7,m7,r7,rd7,q7⟩:=q7;exact⟨x7,O6,H7,d7,G7,I7.we,m3.trans (m5.trans (m6.trans m7)),r7,rd7,q7⟩
 .have hn:ds.length<=i:=@d
  rw[mi hn] at w3;obtain⟨ok3,qn⟩:=w3;have stop:=(wk i H3 G3 k3 I3.ab ok3).2 hn;refine jZ hp (gT (T.done X rfl rfl rfl hc i pins s3 Tv H3 X.xe I3.inv (W6 fr3) st3 stop) ?_);rintro r s4 ⟨hr,I4⟩;subst hr;exact Be ⟨Tv,H3,WO,G3,⟨I4,I3.st,I3.ab⟩,m3,qn⟩
theorem Nu(hp:PassesOwn @q X.A X.env X.xe)(hc:EB X c tc)(hb:tT X body t):yY X (.While c body [] pos) (FQ tc t):=by
 ext t;obtain⟨n0,w0⟩:=h;refine wpAny_While (codeAny_whileLoop (λn s'=>∃jT H' rm G',I2 X pins jT H' rm G' s'/\@b_/\GI tc t n E D rm G') ?_ n0 ⟨σ,H,τ,G,I,.refl I.ab,w0⟩);rintro n s1 ⟨σ1,H1,rk,G1,I1,m1,w1⟩;cases n with
 |zero=>exact w1.elim
 | succ n=>
  refine jZ hp (M4 hc hE I1 w1 λb H2 G2 s2 lY m2 q2=>?_);cases b with
  |true=>
   rw[if_pos rfl] at q2 ⊢;refine jZ hp (gT (hb E pins s2 σ1 H2 rk G2 _ hE lY q2) λf s3 q3=>?_);cases f with
   |next=>obtain⟨Tv,H3,WO,G3,I3,m3,n3⟩:=q3;exact⟨n,fQ _,Tv,H3,WO,G3,I3,m1.trans (m2.trans m3),n3⟩
   |cont=>obtain⟨Tv,H3,WO,G3,I3,m3,n3⟩:=q3;exact⟨n,fQ _,Tv,H3,WO,G3,I3,m1.trans (m2.trans m3),n3⟩
   |brk=>exact q3.trans (@cE)
   |ret v=>exact q3.trans (@cE)
  |false=>
   rw[if_neg hX] at q2 ⊢;exact Be ⟨σ1,H2,rk,G2,lY,@cE,q2⟩
end
theorem E3(n d)(o):HT.jm n d o=jm n d o:=by cases o<;>rfl
theorem bu.cut{K:ay}(r:@bt)(lo hi):bu K H (Im vs lo hi) (K2.cut ds lo hi):=by
 unfold Im K2.cut;rw[E3,E3,r.length];exact(r.drop _).take _
theorem bu.nS{K:ay}(r:@bt)(h:K2.nS ds i=@aM):∃v,L2.nS vs i=@Q/\@bl:=by
 unfold K2.nS at h;cases e:K2.D8 ds.length i with
 |none=>rw[e] at h;cases h
 |some j=>
  rw[e] at h;obtain⟨v,h1,h2⟩:=r.get (show ds[j]?=@aM from h);refine⟨v,?_,h2⟩;show(L2.D8 vs.length i).bind _=_;have e':L2.D8 vs.length i=some j:=by rw[r.length];exact e
  rw[e'];exact h1
section
variable {X:Cx} {a b c e:Expr} {ta tb tc te:gE} {pos p2:Pos}
theorem iu(I:@m)(ab:@be)(rx:@bx)(rd:cX X.K H x d)(hi:pM d G=some zs):
  ∃l vs bz,v=@aC/\Vals vs bz/\bu X.K H vs zs/\@dR/\vs.length<=bw:=by
 cases rd with
 |dg hq rs=>
  cases hi;cases rx;obtain⟨bz,rv,pl,hz⟩:=I.list hq.sq;exact⟨_,_,bz,rfl,rv,rs,pl.isList,hz⟩
 | ref l=>
  unfold pM at hi;dsimp only at hi;cases hg:G l with
  |none=>rw[hg] at hi;cases hi
  | some gg=>
   rw[hg] at hi;cases gg with
   |lst ds=>
    cases hi;cases rx;ext w;obtain⟨bz,rv,pl,hz⟩:=I.list (.of hv);exact⟨_,_,bz,rfl,rv,rs,pl.isList,hz⟩
   |ins _ _=>cases hi
   |KG _=>cases hi
   |kU _=>cases hi
 |_=>cases hi
theorem kO(I:@m)(F0:Fr X.base X.env.locals s.heap m)(F:Fr X.base X.env.locals h' m)(N:News X.base X.env.locals h' (qL X.base s.heap X.env.locals)):
  (∀b o,@cT->@au=@j->@an=@j)/\∀m',s.heap.Ns X.env.locals m'->h'.Ns X.env.locals m':=by
 refine⟨λb o hb e=>?_,λm' hm=>?_⟩
 .cases q:X.base.get? b with
  |some u=>
   have:=I.bk b u q;rw[e] at this;cases this;exact F.keep b _ q
  |none=>exact(N (b,o) (lx hb q e)).1
 .have e1:=hm.eq_nsMap;have e2:=F0.ns.eq_nsMap;rw[e1,<-e2];exact F.ns
theorem mT{a:Addr}:∀{o:HO},iD P w H h a o->∃ob,@aO=some ob:=by
 intro o x;cases o with
 |lst _=>obtain⟨_,_,_,_,e⟩:=x;exact⟨_,e⟩
 |tup _=>obtain⟨_,_,_,ob,e,_⟩:=x;exact⟨ob,e⟩
 |dK _=>obtain⟨_,_,_,_,ob,_,_,e,_⟩:=x;exact⟨ob,e⟩
 |dT _=>obtain⟨_,_,_,_,ob,_,_,e,_⟩:=x;exact⟨ob,e⟩
 |set _ _=>obtain⟨ob,_,_,_,e,_⟩:=x;exact⟨ob,e⟩
 |ins _ _ _=>obtain⟨_,_,_,e,_⟩:=x;exact⟨_,e⟩
 |own _=>exact x
 |xd _=>obtain⟨_,⟨ob,_,_,e,_⟩,_⟩:=x;exact⟨ob,e⟩
 |met _ _=>exact⟨_,x⟩
 |rng _ _=>obtain⟨_,_,_,e⟩:=x;exact⟨_,e⟩
 |nY _ _=>exact⟨_,x.1⟩
 |VW _=>obtain⟨_,e,_⟩:=x;exact⟨_,e⟩
 |ext _=>exact x.2.1
theorem xw{a:Addr}(ok:vT P w H h)(e:@aO=none):H a=none:=by
 cases q:H a with
 |none=>rfl
 |some o=>
  obtain⟨ob,z⟩:=mT (ok a o q);rw[e] at z;cases z
theorem Inv.HJ(I:@m){a:Addr}(k:∀b o,@cT->@au=@j->@an=@j)(ns:∀m',s.heap.Ns X.env.locals m'->h'.Ns X.env.locals m')
  (hp:@cR=none) (new:iD X.prog X.w (upd H a o) h' a o):Inv X pins σ (upd H a o) {s with heap:=h',toks:=t'}:=by
 have hn:H a=none:=xw I.dS hp;have ne:∀b u,H b=@T->b≠a:=λb u e=>e8 e hn;have nL:∀b u,H b=@T->@cT:=λb u e=>e8 e I.free;have ht:∀b u,@au=@T->b≠a:=λb u e z=>by subst z;rw[hp] at e;cases e
 have thL:∃o',h'.get? X.env.locals=some o':=by
  obtain⟨m,hm,_⟩:=I.loc;obtain⟨o',_,_,ho,_⟩:=ns m hm;exact⟨o',ho⟩
 refine I.step (g':=s.gens) (d':=s.drawn) (ch:=[]) (λb hb=>absurd hb @i) (λb o hL _ _ e _=>k b o hL e) (λb o hL _ _ e _=>⟨o.slots,k b o hL e⟩) (λb o _ e n=>by rw[ck (ht b o e)];exact n)
  (λb o _ e=>?_) (λb xs e=>by rw[ck (ne _ _ e)];exact e) (λb o u e=>by rw[ck (ne _ _ e)];exact e) (λb ps e=>by rw[ck (ne _ _ e)];exact e) (λb ps e=>by rw[ck (ne _ _ e)];exact e) ns (λb u e=>?_) I.bare
 .by_cases hb:b=X.env.locals
  .rw[hb];exact thL
  .exact⟨o,k b o hb e⟩
 .by_cases hb:b=a
  .subst hb;rw[dq] at e;cases e;exact new
  .rw[ck hb] at e;refine(I.dS b u e).oP (λc v hc r=>k c v ?_ r) (λc z=>by rw[ck (ne _ _ z)];exact z) (λc xs z=>by rw[ck (ne _ _ z)];exact z);rcases hc with rfl |hc
   .exact nL _ _ e
   .exact nL _ _ hc
theorem UY:pZ X (kA .Add) ik:=by
 ext u;have lists:F3 dx dy G Q->wpAny @q X.A (kA .Add v u) @bK X.xe s:=by
  intro q;unfold F3 at q;split at q
  .rename_i xs ys e1 e2;obtain⟨hz,q⟩:=q;obtain⟨l,vs,bz,rfl,rv,rs,hl,_⟩:=iu I ab rx dX e1;obtain⟨b,ws,uQ,rfl,Ng,V1,hb,_⟩:=iu I ab ry dY e2;obtain⟨m,F0⟩:=I.fr;have hsz:bz.length+uQ.length<=bw:=by rw[<-rv.length,<-Ng.length,rs.length,V1.length,cN];exact hz
   refine PyProof.Rows.add_lists F0 w7 hl hb (λh' F N=>?_) hsz;obtain⟨kk,ns⟩:=kO I F0 F λp hp=>N p (aC _ hp);have hp:H s.heap.objs.size=none:=@c9;refine⟨@bf,upd H s.heap.objs.size (.lst (vs++ws)),.ref _,_,Inv.HJ (t':=s.toks) I kk ns (Tt @X) ?_,.zW ab hp (rs.append V1),rfl,.ref _,q _ (ab.free hp)⟩;exact⟨by rw[av,rv.length,Ng.length];exact hsz,bz++uQ,0,rv.append Ng,(N _ aJ).1⟩
  ext k
 cases dX with
 |int i=>
  cases dY with
  |int j=>exact gT (XU pins s σ H _ _ v u @bY I rx ry ⟨i,j,rfl,rfl,_,_,@ay,@P,q⟩) @cg
  |_=>exact lists q
 | str i=>
  cases dY with
  |str j=>
   obtain⟨hz,q⟩:=q;exact gT (JU pins s σ H _ _ v u @bY I rx ry ⟨i,j,rfl,rfl,by rw[cN];exact hz,_,_,@ay,.str _,q⟩) @cg
  |_=>exact lists q
 | tup h1 r1=>
  cases dY with
  |tup h2 r2=>
   obtain⟨hn,hz,q⟩:=q;refine gT (UT pins s σ H _ _ v u @bY I rx ry ⟨_,_,_,_,rfl,rfl,.of h1,.of h2,?_,?_,λe=>?_,λe p hp=>?_⟩) @cg
   .rintro rfl;cases r1;exact hn rfl
   .rw[r1.length,r2.length,cN];exact hz
   .subst e;cases r2;rw[bC] at q;exact⟨_,_,@ay,.tup h1 r1,q⟩
   .exact⟨_,_,.Mb ab hp,.tup dq ((r1.append r2).mono @a4),q⟩
  |_=>exact lists q
 |ref l=>exact lists (by rw[pH] at q;exact q)
 |dg _ _=>exact lists (by rw[pG] at q;exact q)
 |_=>exact lists (by cases dY<;>exact q)
theorem UU:pZ X (kA .Sub) BH:=by
 ext u;cases dX with
 |int i=>
  cases dY with
  |int j=>exact gT (XQ pins s σ H _ _ v u @bY I rx ry ⟨i,j,rfl,rfl,_,_,@ay,@P,q⟩) @cg
  |_=>exact bZ q
 |_=>exact bZ q
theorem UW:pZ X (kA .Mult) my:=by
 ext u;cases dX with
 |int i=>
  cases dY with
  |int j=>exact gT (XR pins s σ H _ _ v u @bY I rx ry ⟨i,j,rfl,rfl,q.1,_,_,@ay,@P,q.2⟩) @cg
  |_=>exact bZ q
 |_=>exact bZ q
theorem UX:pZ X (kA .Mod) rq:=by
 ext u;cases dX with
 |int i=>
  cases dY with
  |int j=>exact gT (XS pins s σ H _ _ v u @bY I rx ry ⟨i,j,rfl,rfl,q.1,_,_,@ay,@P,q.2⟩) @cg
  |_=>exact bZ q
 |_=>exact bZ q
theorem QD:pZ X (kA .FloorDiv) wY:=by
 ext u;cases dX with
 |int i=>
  cases dY with
  |int j=>exact gT (US pins s σ H _ _ v u @bY I rx ry ⟨i,j,rfl,rfl,⟨q.1,q.2.1⟩,_,_,@ay,@P,q.2.2⟩) @cg
  |_=>exact bZ q
 |_=>exact bZ q
theorem XX(hu:X.A.units<cLine):pZ X (fU .Lt) Zw:=by
 ext u;cases dX with
 |int i=>
  cases dY with
  |int j=>exact gT (aaq pins s σ H _ _ v u @bY I rx ry ⟨i,j,rfl,rfl,_,_,@ay,.bl _,q⟩) @cg
  |_=>exact bZ q
 | tup h1 r1=>
  cases dY with
  | tup h2 r2=>
   obtain⟨xs,ys,e1,e2,q⟩:=q;subst e1 e2;have z1:=r1.ints;have z2:=r2.ints;subst z1 z2;have el:∀xs ys:@u,HT.lexLt xs ys=K2.lexLt xs ys:=by
    intro xs;induction xs with
    |nil=>intro ys;cases ys<;>rfl
    |cons x xs ih=>intro ys;cases ys with
     |nil=>rfl
     |cons y ys=>unfold HT.lexLt K2.lexLt;rw[ih]
   exact gT (XT hu pins s σ H _ _ v u @bY I rx ry ⟨_,_,xs,ys,rfl,rfl,.of h1,.of h2,_,_,@ay,.bl _,by rw[el];exact q⟩) @cg
  |_=>exact bZ q
 |_=>exact bZ q
theorem XZ:pZ X (fU .Gt) rGt:=by
 ext u;cases dX with
 |int i=>
  cases dY with
  |int j=>exact gT (aar pins s σ H _ _ v u @bY I rx ry ⟨i,j,rfl,rfl,_,_,@ay,.bl _,q⟩) @cg
  |_=>exact bZ q
 |_=>exact bZ q
mutual
noncomputable def pd:D->PyData
 |.cY=>.none
 |.bl b=>.bool b
 |.int i=>@M
 |.str x=>.str x
 |.tup ds=>.tuple (kN ds)
 |.dg ds=>.list (kN ds)
 |.vX _=>.none
 |.exc _=>.none
 |.Ie _ _ _=>.none
 |.E5 _=>.none
 |.ref _=>.none
noncomputable def kN:@e->List PyData
 |[]=>[]
 |d::r=>pd d::kN r
end
mutual
theorem tJ:∀(s t:D),nr s=true->nr t=true->v8 (pd s) (pd t)=iq s t
 |.cY,t,_,ht=>by cases t<;>first |rfl |(ext q)
 |.bl a,t,_,ht=>by cases t<;>first |rfl |(ext q)
 |.int a,t,_,ht=>by cases t<;>first |rfl |(ext q)
 |.str a,t,_,ht=>by cases t<;>first |rfl |(ext q)
 |.tup a,t,hs,ht=>by
  cases t with
  |tup b=>exact FJ a b hs ht
  |ref _=>ext q
  |exc _=>ext q
  |Ie _ _ _=>ext q
  |E5 _=>ext q
  |vX _=>ext q
  |_=>rfl
 |.dg a,t,hs,ht=>by
  cases t with
  |dg b=>exact FJ a b hs ht
  |ref _=>ext q
  |exc _=>ext q
  |Ie _ _ _=>ext q
  |E5 _=>ext q
  |vX _=>ext q
  |_=>rfl
 |.ref _,_,hs,_=>bO (show false=true from hs)
 |.exc _,_,hs,_=>bO (show false=true from hs)
 |.Ie _ _ _,_,hs,_=>bO (show false=true from hs)
 |.E5 _,_,hs,_=>bO (show false=true from hs)
 |.vX _,_,hs,_=>bO (show false=true from hs)
theorem FJ:∀(s t:@e),qm s=true->qm t=true->PyData.eqvAll (kN s) (kN t)=lE s t
 |[],[],_,_=>rfl
 |[],_::_,_,_=>rfl
 |_::_,[],_,_=>rfl
 |a::r,b::t,hs,ht=>by
  have ZD:nr a=true/\qm r=true:=(jY).mp hs;have Rg:nr b=true/\qm t=true:=(jY).mp ht;show(v8 (pd a) (pd b)&&PyData.eqvAll (kN r) (kN t))=(iq a b&&lE r t);rw[tJ a b ZD.1 Rg.1,FJ r t ZD.2 Rg.2]
end
mutual
theorem ji:∀(s:D),nr s=true->(pd s).canLay0=true
 |.cY,_=>rfl
 |.bl a,_=>rfl
 |.int a,_=>rfl
 |.str a,h=>h
 |.tup a,h=>xi a h
 |.dg a,h=>xi a h
 |.exc _,_=>rfl
 |.Ie _ _ _,_=>rfl
 |.E5 _,_=>rfl
 |.ref _,_=>rfl
 |.vX _,_=>rfl
theorem xi:∀(s:@e),qm s=true->PyData.canLayAll0 (kN s)=true
 |[],_=>rfl
 |a::r,h=>by
  have h':nr a=true/\qm r=true:=(jY).mp h;show((pd a).canLay0&&PyData.canLayAll0 (kN r))=true;rw[ji a h'.1,xi r h'.2];rfl
end
theorem Co(h:Sn G n d t):(pd t).depth<=n:=by
 induction h with
 |cY=>exact b9 _
 |bl b=>exact b9 _
 |int i=>exact b9 _
 |str x h=>exact b9 _
 |vA=>exact vU (b9 _)
 |fH _ _ Ob Oa=>
  exact vU (Nat.max_le.mpr ⟨Ob,v9 Oa⟩)
 |zV=>exact vU (b9 _)
 |u7 _ _ Ob Oa=>
  exact vU (Nat.max_le.mpr ⟨Ob,v9 Oa⟩)
 |ref _ _ ih=>exact ih
theorem iG(I:@m)(ab:@be)(h:Sn G n d t):
  (∀v u,cX X.K H v d->@bn->∃as,Reads s.heap u (pd t) as) /\
  (∀ds ss,(d=.dg ds/\t=.dg ss)\/(d=.tup ds/\t=.tup ss)->∀vs us,bu X.K H vs ds->@ci->∃as,gB s.heap us (kN ss) as):=by
 have VV:∀{ds ss:@e},(∀vs us,bu X.K H vs ds->@ci->∃as,gB s.heap us (kN ss) as)->∀v u,cX X.K H v (.tup ds)->@bn->∃as,Reads s.heap u (pd (.tup ss)) as:=by
  intro ds ss k v u r ru;cases r with
  |tup hq rs=>
   cases ru;obtain⟨bz,rv,⟨o,ho,hc,n,hd⟩,hz⟩:=I.tuple (.of hq);obtain⟨as,ra⟩:=k _ bz rs rv;exact⟨as,.tuple ho hc hd (by simpa using ra)⟩
 have V2:∀{ds ss:@e},(∀vs us,bu X.K H vs ds->@ci->∃as,gB s.heap us (kN ss) as)->∀v u,cX X.K H v (.dg ds)->@bn->∃as,Reads s.heap u (pd (.dg ss)) as:=by
  intro ds ss k v u r ru;cases r with
  |dg hq rs=>
   cases ru;obtain⟨bz,rv,pl,hz⟩:=I.list hq.sq;obtain⟨o,ho,hc,n,hd⟩:=pl.isList;obtain⟨as,ra⟩:=k _ bz rs rv;exact⟨_,.list ho hc hd (by simpa using ra)⟩
 induction h with
 |cY=>exact⟨λv u r ru=>by cases r;cases ru;exact⟨_,.none⟩,λds ss e=>by rcases e with ⟨e,_⟩ |⟨e,_⟩<;>cases e⟩
 |bl b=>exact⟨λv u r ru=>by cases r;cases ru;exact⟨_,.bool b⟩,λds ss e=>by rcases e with ⟨e,_⟩ |⟨e,_⟩<;>cases e⟩
 |int i=>exact⟨λv u r ru=>by cases r;obtain⟨t,rfl⟩:=ru;exact⟨_,.int i t⟩,λds ss e=>by rcases e with ⟨e,_⟩ |⟨e,_⟩<;>cases e⟩
 |str x hx=>exact⟨λv u r ru=>by cases r;obtain⟨t,rfl⟩:=ru;exact⟨_,.str x t⟩,λds ss e=>by rcases e with ⟨e,_⟩ |⟨e,_⟩<;>cases e⟩
 | vA=>
  have k:∀vs us,bu X.K H vs []->@ci->∃as,gB s.heap us (kN []) as:=λvs us r ru=>by
   have e:=r.zero;subst e;cases ru;exact⟨_,.nil⟩
  refine⟨VV k,λds ss e=>?_⟩;rcases e with ⟨e,_⟩ |⟨e,e2⟩
  .cases e
  .cases e;cases e2;exact k
 | fH h1 h2 Ob Oa=>
  have k2:=Oa.2 _ _ (.inr @ao);have k:∀vs us,bu X.K H vs (_::_)->@ci->∃as,gB s.heap us (kN (_::_)) as:=λvs us r ru=>by
   cases r with
   | cons r1 r2=>
    cases ru with
    |cons u1 u2=>
     obtain⟨as,ra⟩:=Ob.1 _ _ r1 u1;obtain⟨bs,rb⟩:=k2 _ _ r2 u2;exact⟨_,.cons ra rb⟩
  refine⟨VV k,λds ss e=>?_⟩;rcases e with ⟨e,_⟩ |⟨e,e2⟩
  .cases e
  .cases e;cases e2;exact k
 | zV=>
  have k:∀vs us,bu X.K H vs []->@ci->∃as,gB s.heap us (kN []) as:=λvs us r ru=>by
   have e:=r.zero;subst e;cases ru;exact⟨_,.nil⟩
  refine⟨V2 k,λds ss e=>?_⟩;rcases e with ⟨e,e2⟩ |⟨e,_⟩
  .cases e;cases e2;exact k
  .cases e
 | u7 h1 h2 Ob Oa=>
  have k2:=Oa.2 _ _ (.inl @ao);have k:∀vs us,bu X.K H vs (_::_)->@ci->∃as,gB s.heap us (kN (_::_)) as:=λvs us r ru=>by
   cases r with
   | cons r1 r2=>
    cases ru with
    |cons u1 u2=>
     obtain⟨as,ra⟩:=Ob.1 _ _ r1 u1;obtain⟨bs,rb⟩:=k2 _ _ r2 u2;exact⟨_,.cons ra rb⟩
  refine⟨V2 k,λds ss e=>?_⟩;rcases e with ⟨e,e2⟩ |⟨e,_⟩
  .cases e;cases e2;exact k
  .cases e
 |ref hg h1 ih=>
  refine⟨λv u r ru=>?_,λds ss e=>by rcases e with ⟨e,_⟩ |⟨e,_⟩<;>cases e⟩;cases r;cases ru;ext w;obtain⟨bz,rv,pl,hz⟩:=I.list (.of hv);obtain⟨o,ho,hc,n,hd⟩:=pl.isList;obtain⟨as,ra⟩:=ih.2 _ _ (.inl @ao) vs bz rs rv;exact⟨_,.list ho hc hd (by simpa using ra)⟩
theorem X0(hu:@ce):pZ X (fU .Eq) @aq:=by
 ext u;obtain⟨a,b,sa,sb,q⟩:=q;obtain⟨as,ra⟩:=(iG I ab sa).1 x v dX rx;obtain⟨bs,rb⟩:=(iG I ab sb).1 y u dY ry;have d1:=Co sa;refine SeqAt.compareEq_reads ra rb (ji _ sa.nr) (ji _ sb.nr) (by unfold SN at d1;lia) ?_;rw[tJ _ _ sa.nr sb.nr];exact⟨.bl _,H,.bl _,G,I,@ay,rfl,.bl _,q⟩
theorem XW(hu:@ce):pZ X (fU .NotEq) (l6 true):=by
 ext u;obtain⟨a,b,sa,sb,q⟩:=q;obtain⟨as,ra⟩:=(iG I ab sa).1 x v dX rx;obtain⟨bs,rb⟩:=(iG I ab sb).1 y u dY ry;have d1:=Co sa;refine SeqAt.compareNe_reads ra rb (ji _ sa.nr) (ji _ sb.nr) (by unfold SN at d1;lia) ?_;rw[tJ _ _ sa.nr sb.nr];exact⟨.bl _,H,.bl _,G,I,@ay,rfl,.bl _,q⟩
end
theorem xI(j k):iq (gy j) (gy k)=decide (j=k):=by
 cases j with
 |inl a=>cases k with
  |inl b=>rw[Q4];rfl
  |inr b=>exact(decide_eq_false @cy).symm
 |inr a=>cases k with
  |inl b=>exact(decide_eq_false @cy).symm
  |inr b=>rw[Q3];exact(SY a b)
theorem Ei:∀(js ks:@ac),lE (js.map gy) (ks.map gy)=decide (js=ks)
 |[],[]=>(decide_eq_true rfl).symm
 |[],_::_=>(decide_eq_false @cy).symm
 |_::_,[]=>(decide_eq_false @cy).symm
 |j::js,k::ks=>by
  show(iq (gy j) (gy k)&&lE (js.map gy) (ks.map gy))=_;rw[xI,Ei js ks,Ik]
theorem xH(js ks:@ac):iq (.tup (js.map gy)) (.tup (ks.map gy))=decide (js=ks):=by
 exact Ei js ks
section
variable {K:ay} {H:Hp}
theorem Fo(h:gG d=true):∃k:Key,d=gy k:=by
 cases d with
 |int i=>exact⟨.inl i,rfl⟩
 |str x=>exact⟨.inr x,rfl⟩
 |_=>exact absurd h (by simp[gG])
theorem L3:∀{ds:@e},ds.all gG=true->∃ks:@ac,ds=ks.map gy
 |[],_=>⟨[],rfl⟩
 |d::r,h=>by
  rw[O0,aP] at h;obtain⟨k,rfl⟩:=Fo h.1;obtain⟨ks,rfl⟩:=L3 h.2;exact⟨k::ks,rfl⟩
theorem L4(h:vM d=true):∃ks:@ac,d=.tup (ks.map gy):=by
 cases d with
 |tup ds=>obtain⟨ks,rfl⟩:=L3 (ds:=ds) h;exact⟨ks,rfl⟩
 |_=>exact absurd h (by simp[vM])
theorem E7(r:cX K H v (gy k)):v=kV k:=by
 cases k with
 |inl i=>cases r;rfl
 |inr x=>cases r;rfl
theorem Hi:∀{vs:@z} {ks:@ac},bu K H vs (ks.map gy)->vs=ks.map kV
 |_,[],r=>r.zero
 |_,k::ks,r=>by
  rw[aq] at r;cases r with
  |cons r1 r2=>rw[E7 r1,Hi r2];rfl
theorem wF{ks:@ac}(r:cX K H v (.tup (ks.map gy))):∃b,v=@aa/\H b=some (.tup (ks.map kV)):=by
 cases r with
 |tup h rs=>have e:=Hi rs;subst e;exact⟨_,rfl,h⟩
theorem rO.look(r:rO K H kv bB)(k):(∃v d,mj kv k=@Q/\K2.look bB (gy k)=@aM/\@bl)\/(mj kv k=none/\K2.look bB (gy k)=none):=by
 induction r using rO.ind with
 |nil=>exact .inr @ao
 | @cons j v d r t rd rs ih=>
  by_cases e:j=k
  .left;refine⟨v,d,sy (p:=(j,v)) e,?_,rd⟩;unfold K2.look;rw[Pt (by show iq (gy j) (gy k)=true;rw[xI];exact decide_eq_true e)];rfl
  .have e1:mj ((j,v)::r) k=mj r k:=sC (p:=(j,v)) e;have e2:K2.look ((gy j,d)::t) (gy k)=K2.look t (gy k):=by
    unfold K2.look;rw[Pu (by show ¬ iq (gy j) (gy k)=true;rw[xI];simpa using e)]
   rw[e1,e2];exact ih
theorem tX.look(r:tX K H kv bB)(k):(∃v d,mj kv k=@Q/\K2.look bB (@cY)=@aM/\@bl)\/(mj kv k=none/\K2.look bB (@cY)=none):=by
 induction r using tX.ind with
 |nil=>exact .inr @ao
 | @cons j v d r t rd rs ih=>
  by_cases e:j=k
  .left;refine⟨v,d,sy (p:=(j,v)) e,?_,rd⟩;unfold K2.look;rw[Pt (by show iq (.tup (j.map gy)) (@cY)=true;rw[xH];exact decide_eq_true e)];rfl
  .have e1:mj ((j,v)::r) k=mj r k:=sC (p:=(j,v)) e;have e2:K2.look ((.tup (j.map gy),d)::t) (@cY)=K2.look t (@cY):=by
    unfold K2.look;rw[Pu (by show ¬ iq (.tup (j.map gy)) (@cY)=true;rw[xH];simpa using e)]
   rw[e1,e2];exact ih
theorem rO.any(r:rO K H kv bB)(k):(kv.any λp=>decide (p.1=k))=bB.any λp=>iq p.1 (gy k):=by
 induction r using rO.ind with
 |nil=>rfl
 |@cons j v d r t rd rs ih=>simp only[oW];rw[ih,xI]
theorem tX.any(r:tX K H kv bB)(k):(kv.any λp=>decide (p.1=k))=bB.any λp=>iq p.1 (@cY):=by
 induction r using tX.ind with
 |nil=>rfl
 |@cons j v d r t rd rs ih=>simp only[oW];rw[ih,xH]
theorem rO.put(r:rO K H kv bB)(k)(rd:@bl):rO K H (putK kv k v) (K2.put bB (gy k) d):=by
 unfold putK K2.put;rw[r.any k];by_cases h:(bB.any λp=>iq p.1 (gy k))=true
 .rw[if_pos h,if_pos h];clear h;induction r using rO.ind with
  |nil=>ext f
  |@cons j w e r t re rs ih=>
   simp only[aq];rw[xI];by_cases e:j=k
   .simp only[e,if_true,decide_true];exact .cons rd ih
   .simp only[e,if_false,decide_false,aj];exact .cons re ih
 .rw[if_neg h,if_neg h];clear h;induction r using rO.ind with
  |nil=>exact .cons rd .nil
  |cons re rs ih=>exact .cons re ih
theorem tX.put(r:tX K H kv bB)(k)(rd:@bl):tX K H (putK kv k v) (K2.put bB (@cY) d):=by
 unfold putK K2.put;rw[r.any k];by_cases h:(bB.any λp=>iq p.1 (@cY))=true
 .rw[if_pos h,if_pos h];clear h;induction r using tX.ind with
  |nil=>ext f
  |@cons j w e r t re rs ih=>
   simp only[aq];rw[xH];by_cases e:j=k
   .simp only[e,if_true,decide_true];exact .cons rd ih
   .simp only[e,if_false,decide_false,aj];exact .cons re ih
 .rw[if_neg h,if_neg h];clear h;induction r using tX.ind with
  |nil=>exact .cons rd .nil
  |cons re rs ih=>exact .cons re ih
end
theorem Kp.putD{H:Hp}{p:Addr}{o o':HO}(hp:H p=@j)(h:(∃k,o=.dK k)\/∃k,o=.dT k):Kp H (upd H p o') :=
 ⟨λa ys e=>by rw[ck (by ext d;rw[hp] at e;rcases h with ⟨_,rfl⟩ |⟨_,rfl⟩<;>cases e)];exact e,λa ob u e=>by rw[ck (by ext d;rw[hp] at e;rcases h with ⟨_,rfl⟩ |⟨_,rfl⟩<;>cases e)];exact e⟩
section
variable {X:Cx} {pins:@v} {σ:L2.St} {H:Hp} {s:aE} {G:Gp} {a:Addr} {bB:@aJ} {k:D} {y:V}
theorem toT(I:@m)(e:H a=some (.dK [])):Inv X pins σ (upd H a (.dT [])) s:=by
 obtain⟨z,hd,vs,rel,dd⟩:=Ml I.dS e;have hv:vs=[]:=by cases rel;rfl
 subst hv;obtain⟨o,es,ep,ho,hx,Kl,hko,hl,nd⟩:=dd;have he:es=#[]:=by
  cases hq:es.toList with
  |nil=>simpa using hq
  |cons _ _=>rw[hq] at hl;cases hl
 subst he;exact I.write (h':=s.heap) (t':=s.toks) (x:=a) (e:=a) (by rw[e];exact iY) (@I) (λb u _ q=>q) ⟨o,ho⟩ ⟨b9 _,hd,[],.nil,o,#[],ep,ho,hx,Kl,rfl,fj⟩
theorem toK(I:@m)(e:H a=some (.dT [])):Inv X pins σ (upd H a (.dK [])) s:=by
 obtain⟨z,hd,xs,rel,o,es,ep,ho,hx,Kl,hl,nd⟩:=I.dS a _ e;have hv:xs=[]:=by cases rel;rfl
 subst hv;have he:es=#[]:=@dr
 subst he;exact I.write (h':=s.heap) (t':=s.toks) (x:=a) (e:=a) (by rw[e];exact iY) (@I) (λb u _ q=>q) ⟨o,ho⟩ ⟨b9 _,hd,[],.nil,o,#[],ep,ho,hx,Kl,(λ_ h=>@cr),.nil,fj⟩
theorem LU(ab:@be)(hg:G a=some (.kU bB))(k:Kp H (upd H a o))(ho:SQ X.K (upd H a o) a (.kU bB)):Mv X.K H G (upd H a o) G:=by
 have m:=Mv.put ab hg k ho;have e:cJ G a (.kU bB)=G:=by
  funext b;unfold cJ;split
  .rename_i z;rw[z,hg]
  .rfl
 rw[e] at m;exact m
theorem Mm(I:@m)(ab:@be)(hg:G a=some (.kU bB))(hk:iM bB k=true)(ry:cX X.K H y k):
  ∃H',Inv X pins σ H' s/\Mv X.K H G H' G/\((∃(kv:@cn) (kk:Key),H' a=some (.dK kv)/\rO X.K H' kv bB/\k=gy kk/\y=kV kk)\/∃(kv:@co) (kk:@ac) (b:Addr),H' a=some (.dT kv)/\tX X.K H' kv bB/\k=.tup (kk.map gy)/\y=@aa/\H' b=some (.tup (kk.map kV))):=by
 unfold iM at hk;rw[dP,aP,aP] at hk;rcases hk with ⟨h1,h2⟩ |⟨h1,h2⟩
 .obtain⟨kk,rfl⟩:=Fo h1;have ey:=E7 ry;subst ey;rcases ab a _ hg with ⟨kv,hv,rs⟩ |⟨kv,hv,rs⟩
  .exact⟨H,I,@ay,.inl ⟨kv,kk,hv,rs,rfl,rfl⟩⟩
  .cases rs with
   |nil=>
    refine⟨_,toK I hv,LU ab hg (.putD hv (.inr @S)) (.inl ⟨[],dq,.nil⟩),.inl ⟨[],kk,dq,.nil,rfl,rfl⟩⟩
   |cons _ _=>simp[gG] at h2
 .obtain⟨kk,rfl⟩:=L4 h1;obtain⟨b,rfl,hb⟩:=wF ry;rcases ab a _ hg with ⟨kv,hv,rs⟩ |⟨kv,hv,rs⟩
  .cases rs with
   |nil=>
    have kp:Kp H (upd H a (.dT [])):=.putD hv (.inl @S);exact⟨_,toT I hv,LU ab hg kp (.inr ⟨[],dq,.nil⟩),.inr ⟨[],kk,b,dq,.nil,rfl,rfl,kp.tup _ _ hb⟩⟩
   |@cons j _ _ _ _ _ _=>cases j<;>simp[gy,vM] at h2
  .exact⟨H,I,@ay,.inr ⟨kv,kk,b,hv,rs,rfl,rfl,hb⟩⟩
theorem Cn(I:@m)(ab:@be)(hg:G a=some (.kU bB))(hk:iM bB k=true)(ry:cX X.K H y k):
  ∃H' o,Inv X pins σ H' s/\Mv X.K H G H' G/\Ax H' a y o/\o.isSome=(look bB k).isSome/\∀d,look bB k=@aM->∃v,o=@Q/\cX X.K H' v d:=by
 obtain⟨H',I',m,h⟩:=Mm I ab hg hk ry;rcases h with ⟨kv,kk,hv,rs,rfl,rfl⟩ |⟨kv,kk,b,hv,rs,rfl,rfl,hb⟩
 .refine⟨H',mj kv kk,I',m,.k hv,?_,λd hd=>?_⟩
  .rcases rs.look kk with ⟨v,d,e1,e2,_⟩ |⟨e1,e2⟩<;>rw[e1,e2]<;>rfl
  .rcases rs.look kk with ⟨v,d',e1,e2,r⟩ |⟨e1,e2⟩
   .rw[e2] at hd;cases hd;exact⟨v,e1,r⟩
   .rw[e2] at hd;cases hd
 .refine⟨H',mj kv kk,I',m,.t hv hb,?_,λd hd=>?_⟩
  .rcases rs.look kk with ⟨v,d,e1,e2,_⟩ |⟨e1,e2⟩<;>rw[e1,e2]<;>rfl
  .rcases rs.look kk with ⟨v,d',e1,e2,r⟩ |⟨e1,e2⟩
   .rw[e2] at hd;cases hd;exact⟨v,e1,r⟩
   .rw[e2] at hd;cases hd
theorem E6(I:@m)(rd:cX X.K H x (.vX bB))(hk:iM bB k=true)(ry:cX X.K H y k):
  ∃a o,x=@ar/\(bB=[]\/Ax H a y o)/\o.isSome=(look bB k).isSome/\∀d,look bB k=@aM->∃v,o=@Q/\cX X.K H v d:=by
 unfold iM at hk;rw[dP,aP,aP] at hk;cases rd with
 | vG h rs=>
  rename_i a ob kv;rcases hk with ⟨h1,h2⟩ |⟨h1,h2⟩
  .obtain⟨kk,rfl⟩:=Fo h1;have ey:=E7 ry;subst ey;refine⟨a,mj kv kk,rfl,.inr (.inl ⟨kv,kk,.inr ⟨_,h⟩,rfl,rfl⟩),?_,λd hd=>?_⟩
   .rcases rs.look kk with ⟨v,d,e1,e2,_⟩ |⟨e1,e2⟩<;>rw[e1,e2]<;>rfl
   .rcases rs.look kk with ⟨v,d',e1,e2,r⟩ |⟨e1,e2⟩
    .rw[e2] at hd;cases hd;exact⟨v,e1,r⟩
    .rw[e2] at hd;cases hd
  .cases rs with
   |nil=>exact⟨a,none,rfl,@I,rfl,λd hd=>by cases hd⟩
   |cons _ _=>
    rename_i kx _ _ _ _ _ _;rw[O0,aP] at h2;cases kx<;>exact absurd h2.1 (by simp[gy,vM])
 | vF h rs=>
  rename_i a ob kv;rcases hk with ⟨h1,h2⟩ |⟨h1,h2⟩
  .cases rs with
   |nil=>exact⟨a,none,rfl,@I,rfl,λd hd=>by cases hd⟩
   |cons _ _=>
    rw[O0,aP] at h2;exact absurd h2.1 (by simp[gG])
  .obtain⟨kk,rfl⟩:=L4 h1;obtain⟨b,rfl,hb⟩:=wF ry;refine⟨a,mj kv kk,rfl,.inr (.inr ⟨kv,kk,b,.inr ⟨_,h⟩,rfl,hb,rfl⟩),?_,λd hd=>?_⟩
   .rcases rs.look kk with ⟨v,d,e1,e2,_⟩ |⟨e1,e2⟩<;>rw[e1,e2]<;>rfl
   .rcases rs.look kk with ⟨v,d',e1,e2,r⟩ |⟨e1,e2⟩
    .rw[e2] at hd;cases hd;exact⟨v,e1,r⟩
    .rw[e2] at hd;cases hd
theorem R9(I:@m)(ab:@be)(hg:G a=some (.kU bB))(hk:iM bB k=true)(hz:bB.length<SZ)(ry:cX X.K H y k)(rv:cX X.K H v d):
  ∃H' H'',Inv X pins σ H' s/\OS H' a y v H''/\Mv X.K H G H'' (cJ G a (.kU (put bB k d))):=by
 obtain⟨H',I',m,h⟩:=Mm I ab hg hk ry;have rv':=rv.mono (m.kp ab);have sz:bw=16777216:=cN;rcases h with ⟨kv,kk,hv,rs,rfl,rfl⟩ |⟨kv,kk,b,hv,rs,rfl,rfl,hb⟩
 .have kp:Kp H' (upd H' a (.dK (putK kv kk v))):=.putD hv (.inl @S);exact⟨H',_,I',.k hv (by rw[rs.length,sz];exact hz),m.trans (.put m.ab hg kp (.inl ⟨_,dq,(rs.put kk rv').mono kp⟩))⟩
 .have kp:Kp H' (upd H' a (.dT (putK kv kk v))):=.putD hv (.inr @S);exact⟨H',_,I',.t hv hb (by rw[rs.length,sz];exact hz),m.trans (.put m.ab hg kp (.inr ⟨_,dq,(rs.put kk rv').mono kp⟩))⟩
end
section
variable {X:Cx} {a b c e:Expr} {es:@aX} {ta tb tc te:gE} {t:Bb} {pos p p2 apos uR:Pos} {x:Str}
theorem XH{j}:eS X (.Constant (.bool k) j pos) (dC (.bl k)):=pJ aao λ_ _=>.bl k
theorem LN{j}:eS X (.Constant .none j pos) (dC .cY):=pJ Xx λ_ _=>.cY
theorem UC{j}:eS X (.Constant (.str y) j pos) (dC (.str y)):=pJ Xw λ_ _=>.str y
theorem Nv{st:Stmt}:yY X st oT:=λ_ _ _ _ _ _ _ _ _ _ h=>h.elim
theorem TF:Zj X (unaryOp .USub) Df:=by
 intro pins s σ H G x dx v Q I ab rx dX q;cases dX with
 |int i=>exact gT (WW pins s σ H _ v @bY I rx ⟨i,rfl,_,_,@ay,@P,q⟩) @cg
 |_=>exact bZ q
theorem XC(hu:@ce)(ha:@bh)(hb:eS X b tb)(hs:VM b):eS X (.Subscript a b pos) (aM fG ta tb):=by
 ext i;refine Subscript_ (Sw ha hb hE I h λv u s2 x y dx dy H2 G2 J m rx ry dX dY q=>?_);have fin:∀{rb:R2},IxR X rb->rb x y H2 (Dv X.K H2 G2 Q)->wpAny @q X.A (subscriptTail a b v u) @bK X.xe s2:=λhr hq=>
  gT (hr a b pins s2 σ H2 x y v u _ J.inv rx ry hq (hs _ _)) λ_ _ z=>(rg.of z).trans m
 cases dX with
 | tup hq rs=>
  cases dY with
  |int i=>
   rw[cU] at q;split at q
   .rename_i d hd;obtain⟨w,hw,vE⟩:=rs.nS hd;exact fin Yp ⟨_,_,i,w,rfl,rfl,.of hq,hw,d,G2,.refl J.ab,vE,q⟩
   ext k
  |_=>exact bZ q
 | dg hq rs=>
  cases dY with
  |int i=>
   rw[iU] at q;split at q
   .rename_i d hd;obtain⟨w,hw,vE⟩:=rs.nS hd;exact fin L5 ⟨_,_,i,w,rfl,rfl,hq.sq,hw,d,G2,.refl J.ab,vE,q⟩
   ext k
  |_=>exact bZ q
 | vG h rs=>
  rw[E8] at q;obtain⟨hk,q⟩:=q;split at q
  .rename_i d hd;obtain⟨a',o,ea,g,_,hv⟩:=E6 J.inv (.vG h rs) hk dY;obtain⟨w,rfl,vE⟩:=hv d hd;cases ea;rcases g with rfl |g
   .cases hd
   .cases rx;exact tail_any (tM J.inv g) PySem.F.slot_dict_getitem.lookup (yR @c J.inv g ry λw' s3 I4 rv=>⟨w,H2,d,G2,I4,m,rv,vE,q⟩) (hs _ _)
  ext k
 | vF h rs=>
  rw[E8] at q;obtain⟨hk,q⟩:=q;split at q
  .rename_i d hd;obtain⟨a',o,ea,g,_,hv⟩:=E6 J.inv (.vF h rs) hk dY;obtain⟨w,rfl,vE⟩:=hv d hd;cases ea;rcases g with rfl |g
   .cases hd
   .cases rx;exact tail_any (tM J.inv g) PySem.F.slot_dict_getitem.lookup (yR @c J.inv g ry λw' s3 I4 rv=>⟨w,H2,d,G2,I4,m,rv,vE,q⟩) (hs _ _)
  ext k
 | ref l=>
  rw[AK] at q;split at q
  .rename_i ds hl;obtain⟨vs,hv,rs⟩:=J.ab.lst hl;cases dY with
   |int i=>
    dsimp only at q;split at q
    .rename_i d hd;obtain⟨w,hw,vE⟩:=rs.nS hd;exact fin L5 ⟨_,_,i,w,rfl,rfl,.of hv,hw,d,G2,.refl J.ab,vE,q⟩
    ext k
   |_=>exact bZ q
  .rename_i bB hl;obtain⟨hk,q⟩:=q;split at q
   .rename_i d hd;obtain⟨H3,o,I3,m3,g,_,hv⟩:=Cn J.inv J.ab hl hk dY;obtain⟨w,rfl,vE⟩:=hv d hd;cases rx;exact tail_any (tM I3 g) PySem.F.slot_dict_getitem.lookup (yR @c I3 g ry λw' s3 I4 rv=>⟨w,H3,d,G2,I4,m.trans m3,rv,vE,q⟩) (hs _ _)
   ext k
  ext k
 |_=>exact bZ q
def ZV(X:Cx)(e:Option Expr)(t:Zl):Prop :=
 ∀(E:l8) (pins:@v) (s:aE) (σ:L2.St) (H:Hp) (τ:iw) (G:Gp) (Q:@aT->@E),Lk X E->@ch->t E τ G Q ->
  wpAny @q X.A (evalPart e X.env) (λu s'=>∃o H' G',@de/\@b_/\IsPart u o/\Q o G') X.xe s
theorem Qm:ZV X none eO:=by
 ext i;rw[evalPart_none];exact aL ⟨none,H,G,I.inv,.refl I.ab,.none,h⟩
theorem Ql(h:eS X e te):ZV X (some e) (jB te):=by
 intro E pins s σ H τ G Q hE I hw;rw[evalPart_some];refine kG h hE I hw λx H1 d G1 u s1 I1 m1 r1 jH q1=>?_;cases jH with
 |int i=>
  obtain⟨t,rfl⟩:=r1;exact⟨some i,H1,G1,I1.inv,m1,.int i t,q1⟩
 |_=>exact bZ q1
theorem Nz{lo:Option Expr}(he:@bh)(hl:ZV X lo tl)(hu:ZV X hi th):eS X (.Subscript a (.Slice lo hi none p2) pos) (vY ta tl th):=by
 ext i;refine Subscript_ (kG he hE I h λx H1 d G1 v s1 I1 m1 r1 jH q1=>?_);refine wpAny_Slice (gT (hl E pins s1 σ H1 τ G1 _ hE I1 q1) ?_);rintro vl s2 ⟨l,H2,G2,lY,m2,pl,q2⟩;refine gT (hu E pins s2 σ H2 τ G2 _ hE (I1.mv lY m2) q2) ?_;rintro vu s3 ⟨r,H3,G3,I3,m3,pu,q3⟩;rw[evalPart_none];refine aL ?_;have m13:=m2.trans m3;have mm:=m1.trans m13;have I4:Inv X pins σ H3 {s3 with heap:=s3.heap.push {cls:=.type "slice",data:=.fields #[vl,vu,.none]}}:=I3.kept (t':=s3.toks) λb ob q=>aG _ q;have rd3:=jH.mono (m13.kp I1.ab);have WC:=m3.ab;have key:∀{rb:V->@aT->@aT->Hp->VK->Prop},SlR X rb->rb x l r H3 (Dv X.K H3 G3 Q)->wpAny @q X.A (subscriptTail a (.Slice lo hi none p2) v (.ref s3.heap.objs.size)) @bK X.xe {s3 with heap:=s3.heap.push {cls:=.type "slice",data:=.fields #[vl,vu,.none]}}:=λhr hq=>by
  obtain⟨T,id,hT,ht,hg⟩:=hr pins {s3 with heap:=s3.heap.push {cls:=.type "slice",data:=.fields #[vl,vu,.none]}} σ H3 x v vl vu l r s3.heap.objs.size _ I4 r1 (GD ..) pl pu hq;exact gT (tail_any (ops:=[.ref s3.heap.objs.size,v]) ht hT hg (by with_unfolding_all rfl)) λ_ _ z=>(rg.of z).trans mm
 cases rd3 with
 |tup hq rs=>
  obtain⟨hw,q⟩:=q3;refine key Xd ⟨_,_,rfl,.of hq,?_,λp hp=>⟨_,G3,.Mb WC hp,.tup dq ((rs.cut l r).mono @a4),q⟩⟩;rw[E3,E3,rs.length];exact hw
 |dg hq rs=>exact key LA ⟨_,_,rfl,hq.sq,λp hp=>⟨_,_,.zW WC hp (rs.cut l r),.ref _,q3 p (WC.free hp)⟩⟩
 |ref g=>
  rw[wW] at q3;split at q3
  .rename_i ds hg;obtain⟨vs,hv,rs⟩:=WC.lst hg;exact key LA ⟨_,_,rfl,.of hv,λp hp=>⟨_,_,.zW WC hp (rs.cut l r),.ref _,q3 p (WC.free hp)⟩⟩
  .exact q3.elim
 |_=>exact bZ q3
theorem UP(ss)(s)(h1:qm ss=true)(h2:nr s=true):((kN ss).any λy=>v8 y (pd s))=ss.any (iq · s):=by
 induction ss with
 |nil=>rfl
 |cons d r ih=>
  have h':nr d=true/\qm r=true:=(jY).mp h1;show(v8 (pd d) (pd s)||(kN r).any _)=_;rw[ih h'.2,tJ d s h'.1 h2];rfl
theorem Mn(h:Sn G (n+1) (.dg ds) (.dg ss)):b7 (kN ss)<=n:=by
 exact v9 (Co h)
theorem Fp(hu:@ce)(neg:Bool){pins:@v}{s:aE}{σ:L2.St}{H:Hp}{G:Gp}{x y:V}{dx t:D}{ds ss:@e}{v u:Value}{Q:DK}(I:@m)(ab:@be)(rx:@bx)(dX:cX X.K H x dx)
  (hy:(∃l vs bz,u=@aC/\Vals vs bz/\bu X.K H vs ds/\(@dR\/s.heap.IsTuple l bz.toArray))) (s1:Sn G SN dx t) (s2:Sn G SN (.dg ds) (.dg ss))
  (q:Q (.bl (if neg then !ss.any (iq · t) else ss.any (iq · t))) G):wpAny @q X.A (fU (if neg then .NotIn else .In) v u) @bK X.xe s:=by
 obtain⟨l,vs,bz,rfl,rv,rs,hl⟩:=hy;obtain⟨as,ra⟩:=(iG I ab s1).1 x v dX rx;obtain⟨bs,rb⟩:=(iG I ab s2).2 ds ss (.inl @ao) vs bz rs rv;have d2:=Mn (n:=7) s2;have n2:qm ss=true:=s2.nr;have B2:=xi _ n2;have e:=UP ss t n2 s1.nr;have yL:X.A.units+1+min (b7 (kN ss)) (pd t).depth<cLine:=@d
 have Qa:gB s.heap bz.toArray.toList (kN ss) bs:=by simpa using rb
 have fin:∀k:Bool,k=(if neg then !ss.any (iq · t) else ss.any (iq · t))->rg X pins σ H G Q (.bool k) s:=λk hk=>by subst hk;exact⟨.bl _,H,.bl _,G,I,@ay,rfl,.bl _,q⟩
 cases neg with
 |false=>
  rcases hl with hl |hl
  .exact SeqAt.in_listAt _ hl (nT Qa ra B2 (ji _ s1.nr) yL) (by rw[r8 Qa B2,e];exact fin _ rfl)
  .exact SeqAt.in_tupleAt _ hl (nT Qa ra B2 (ji _ s1.nr) yL) (by rw[r8 Qa B2,e];exact fin _ rfl)
 |true=>
  rcases hl with hl |hl
  .exact SeqAt.notIn_listAt _ hl (nT Qa ra B2 (ji _ s1.nr) yL) (by rw[r8 Qa B2,e];exact fin _ rfl)
  .exact SeqAt.notIn_tupleAt _ hl (nT Qa ra B2 (ji _ s1.nr) yL) (by rw[r8 Qa B2,e];exact fin _ rfl)
theorem Ra(hu:@ce)(neg){x:V}(I:@m)(ab:@be)(rx:@bx)(ry:RelV y u)(dY:cX X.K H y (.vX bB))(dX:cX X.K H x dx)
  (q:CS neg dx (.vX bB) G Q):wpAny @q X.A (fU (if neg then .NotIn else .In) v u) @bK X.xe s:=by
 obtain⟨iV,hk,q⟩:=q;have go:∀(a:Addr) (o:Option V),y=@ar->Ax H a x o->o.isSome=(look bB dx).isSome->wpAny @q X.A (fU (if neg then .NotIn else .In) v u) @bK X.xe s:=by
  intro a o ea g ho;subst ea;cases ry;cases neg with
  |false=>exact abI @c I g rx λs3 I4=>⟨.bl _,H,.bl _,G,I4,@ay,rfl,.bl _,by rw[ho];exact q⟩
  |true=>exact Mr @c I g rx λs3 I4=>⟨.bl _,H,.bl _,G,I4,@ay,rfl,.bl _,by rw[ho];exact q⟩
 obtain⟨a,o,ea,g,ho,_⟩:=E6 I dY hk dX;rcases g with rfl |g
 .exact absurd rfl iV
 .exact go a o ea g ho
theorem LR(hu:@ce)(neg):pZ X (fU (if neg then .NotIn else .In)) (CS neg):=by
 ext u;cases dY with
 |tup hq rs=>
  obtain⟨t,ss,s1,s2,q⟩:=q;cases ry;obtain⟨bz,rv,pl,hz⟩:=I.tuple (.of hq);exact Fp hu neg (y:=x) I ab rx dX ⟨_,_,bz,rfl,rv,rs,.inr pl⟩ s1 s2 q
 |dg hq rs=>
  obtain⟨t,ss,s1,s2,q⟩:=q;cases ry;obtain⟨bz,rv,pl,hz⟩:=I.list hq.sq;exact Fp hu neg (y:=x) I ab rx dX ⟨_,_,bz,rfl,rv,rs,.inl pl.isList⟩ s1 s2 q
 |vG h rs=>exact Ra hu neg I ab rx ry (.vG h rs) dX q
 |vF h rs=>exact Ra hu neg I ab rx ry (.vF h rs) dX q
 | ref l=>
  unfold CS at q;dsimp only at q;split at q
  .rename_i bB hl;obtain⟨hk,q⟩:=q;obtain⟨H3,o,I3,m3,g,ho,_⟩:=Cn I ab hl hk dX;cases ry;cases neg with
   |false=>exact abI @c I3 g rx λs3 I4=>⟨.bl _,H3,.bl _,G,I4,m3,rfl,.bl _,by rw[ho];exact q⟩
   |true=>exact Mr @c I3 g rx λs3 I4=>⟨.bl _,H3,.bl _,G,I4,m3,rfl,.bl _,by rw[ho];exact q⟩
  .rename_i ds hl;obtain⟨t,ss,s1,s2,q⟩:=q;cases ry;obtain⟨vs,hv,rs⟩:=ab.lst hl;obtain⟨bz,rv,pl,hz⟩:=I.list (.of hv);exact Fp hu neg (y:=x) I ab rx dX ⟨_,_,bz,rfl,rv,rs,.inl pl.isList⟩ s1 s2 q
  ext k
 |_=>exact bZ q
theorem XY(hu:@ce):pZ X (fU .In) (CS false):=LR hu false
theorem ND(hu:@ce):pZ X (fU .NotIn) (CS true):=LR hu true
end
section
variable {X:Cx} {a b c e o:Expr} {es:@aX} {ta tb tc te to:gE} {t:Bb} {pos p p2 apos uR:Pos} {x name:Str} {id T:String}
theorem OC:kY X (.builtin "len") nP:=by
 ext A;unfold nP at q;split at q
 .rename_i x;obtain⟨v,rfl,r⟩:=rd.one;have TB:∀(n:Nat),abX X.K v H n->Q (.int (n:Int)) G->wpAny @q X.A (call (.builtin "len") us) @bK X.xe s:=λn hn hq=>
   gT (Sk pins s σ H [v] us @bY I rx ⟨v,n,rfl,hn,_,_,@ay,@P,hq⟩) @cg
  have sz:bw=16777216:=cN;cases r with
  |tup hq rs=>exact TB _ (.inr ⟨_,.of hq,by rw[rs.length]⟩) q
  |dg hq rs=>exact TB _ (.inl ⟨_,hq.sq,by rw[rs.length]⟩) q
  |str y=>
   unfold lenOf at q;dsimp only at q;by_cases hz:y.length<=SZ
   .rw[if_pos hz] at q;exact TB _ ⟨by rw[sz];exact hz,rfl⟩ q
   .rw[if_neg hz] at q;exact q.elim
  |vG h rs=>
   rename_i l o kv bB;obtain⟨u,rfl,ru⟩:=rx.one;cases ru;unfold lenOf at q;dsimp only at q;by_cases ha:(bB.all λp=>gG p.1)=true
   .rw[if_pos ha] at q;exact Wy I (.inr ⟨_,h⟩) λt s' I'=>⟨.int kv.length,H,_,G,I',@ay,⟨t,rfl⟩,@P,by rw[rs.length];exact q⟩
   .rw[if_neg ha] at q;exact q.elim
  | vF h rs=>
   rename_i l o kv bB;obtain⟨u,rfl,ru⟩:=rx.one;cases ru;unfold lenOf at q;dsimp only at q;by_cases ha:(bB.all λp=>gG p.1)=true
   .rw[if_pos ha] at q;cases rs with
    |nil=>
     obtain⟨z,hS,xs,rel,ob,es,ep,ho,hx,Kl,hl,nd⟩:=(I.dS l _ h).2;have hxs:xs=[]:=by cases rel;rfl
     subst hxs;have he:es=#[]:=@dr
     subst he;have dd:s.heap.DictOf (f9 X.prog X.w) l []:=⟨ob,#[],ep,ho,hx,Kl,(λ_ h=>@cr),.nil,fj⟩;refine call_len_dict hS dd @i ?_;exact⟨.int 0,H,_,G,@aF,@ay,@S,@P,q⟩
    |cons _ _=>simp[gG] at ha
   .rw[if_neg ha] at q;exact q.elim
  | ref l=>
   unfold lenOf at q;dsimp only at q;cases hg:G l with
   |none=>rw[hg] at q;exact q.elim
   | some g=>
    rw[hg] at q;cases g with
    |lst ds=>
     ext w;exact TB _ (.inl ⟨_,.of hv,by rw[rs.length]⟩) q
    |ins _ _=>exact q.elim
    |KG _=>exact q.elim
    | kU bB=>
     obtain⟨u,rfl,ru⟩:=rx.one;cases ru;dsimp only at q;by_cases ha:(bB.all λp=>gG p.1)=true
     .rw[if_pos ha] at q;rcases ab l _ hg with ⟨kv,hv,rs⟩ |⟨kv,hv,rs⟩
      .exact Wy I (.inl hv) λt s' I'=>⟨.int kv.length,H,_,G,I',@ay,⟨t,rfl⟩,@P,by rw[rs.length];exact q⟩
      .cases rs with
       |nil=>
        obtain⟨z,hd,vs,rel,dd⟩:=Ml (toK I hv).dS dq;have hvs:vs=[]:=by cases rel;rfl
        subst hvs;refine call_len_dict hd dd @i ?_;exact⟨.int 0,H,_,G,@aF,@ay,@S,@P,q⟩
       |cons _ _=>simp[gG] at ha
     .rw[if_neg ha] at q;exact q.elim
  |_=>exact bZ q
 ext k
theorem KJ:kY X (@Z) tQ:=by
 ext A;unfold tQ at q;split at q
 .rename_i x;obtain⟨v,rfl,r⟩:=rd.one;have via:∀(l:Addr) (ys:@z) (zs:@e),v=@aC->(qZ X.K H l ys\/Cy X.K H l ys)->bu X.K H ys zs->jN G (.lst zs) Q->wpAny @q X.A (call (@Z) us) @bK X.xe s:=λl ys zs e h rs hq=>by
   subst e;exact gT (FU pins s σ H _ us @bY I rx ⟨l,ys,rfl,h,λp hp=>⟨_,_,.zW ab hp rs,.ref _,hq p (ab.free hp)⟩⟩) @cg
  cases r with
  |tup hq rs=>exact via _ _ _ rfl (.inr (.of hq)) rs q
  |dg hq rs=>exact via _ _ _ rfl (.inl hq.sq) rs q
  | ref l=>
   unfold itemsOf at q;dsimp only at q;cases hg:G l with
   |none=>rw[hg] at q;exact q.elim
   | some g=>
    rw[hg] at q;cases g with
    |lst ds=>
     ext w;exact via _ _ _ rfl (.inl (.of hv)) rs q
    |ins _ _=>exact q.elim
    |KG _=>exact q.elim
    |kU bB=>exact q.elim
  |_=>exact bZ q
 ext k
theorem JQ  (hc:kY X (.type T) r) (hg:Gl X x) (hm:X.mg x=none) (hv:c8 x=some (.type T)) (ha:zO X (e::es) t) (hn:autoParam (x≠"__name__") Ad._auto_1) (HP:@c6)
  (he:@dL) (oX:autoParam @dg Ar._auto_1):eS X (.Call (.Name x p) (e::es) [] pos) (jV r t):=by
 ext i;refine fT (nC I.inv hg hm hv ?_ hn HP);exact dW (Bo ha pos hE I h λvs H1 ds G1 us s1 I1 m1 r1 jH q1=>gT (hc pins s1 σ H1 G1 vs ds us Q I1.inv I1.ab r1 jH q1) @cQ) he oX
theorem Yl (K):∀C∈["int","bool","list","tuple","dict","str"],∀T∈["NoneType","bool","int","str","tuple","list","dict"],PySem.W.kitOne K (.type T) (.type C)=some (T == C||(T == "bool" && @aH)):=by
 intro C hC T hT;simp only[bf,bH,or_false] at hC hT;rcases hC with rfl |rfl |rfl |rfl |rfl |rfl<;>rcases hT with rfl |rfl |rfl |rfl |rfl |rfl |rfl<;>kernel_rfl
theorem Q7 (C:String) (hC:C∈["int","bool","list","tuple","dict","str"]) {pins:@v} {s:aE} {σ:L2.St} {H:Hp} {G:Gp} {v:V} {d:D} {u:Value} {k:Bool} {Q:DK} (I:@m) (ab:@be) (ru:@bn) (r:cX X.K H v d)
  (hk:Yr C d G=some k) (q:Q (.bl k) G):wpAny @q X.A (call (.builtin "isinstance") [u,.type C]) @bK X.xe s:=by
 have fin:∀tk,rg X pins σ H G Q (.bool k) {s with toks:=tk}:=λtk=>⟨.bl k,H,.bl k,G,@aF,@ay,rfl,.bl k,q⟩;have hl:∀T∈["NoneType","bool","int","str","tuple","list","dict"],k=(T == C||(T == "bool" && @aH))->PySem.W.kitOne X.K (.type T) (.type C)=some k:=λT hT e=>by rw[Yl X.K C hC T hT,e]
 have tl:∀{l:Addr} {o:Obj},@cZ=@j->o.cls=@Z->k=("list" == C||("list" == "bool" && @aH))->v=@aC->wpAny @q X.A (call (.builtin "isinstance") [u,.type C]) @bK X.xe s:=λho hc e ev=>by
  subst ev;cases ru;exact jc PySem.W.kitx_list I.D7 ⟨_,ho,hc⟩ (hl "list" @r e) @cy fin
 have td:∀{l:Addr} {o:Obj},@cZ=@j->o.cls=.type "dict"->k=("dict" == C||("dict" == "bool" && @aH))->v=@aC->wpAny @q X.A (call (.builtin "isinstance") [u,.type C]) @bK X.xe s:=λho hc e ev=>by
  subst ev;cases ru;exact jc PySem.W.kitx_dict I.D7 ⟨_,ho,hc⟩ (hl "dict" @r e) @cy fin
 have oU:∀P:String->Prop,(∀C'∈["int","bool","list","tuple","dict","str"],P C')->P C:=λP h=>h C hC;cases r with
 | cY=>
  cases ru;have e:k=("NoneType" == C||("NoneType" == "bool" && @aH)):=by
   have:k=false:=(bW hk).symm;rw[this];exact oU (λC=>false=("NoneType" == C||("NoneType" == "bool" && @aH))) @r
  exact jc PySem.W.kitx_none I.D7 iY (hl _ @r e) @cy fin
 | bl y=>
  cases ru;have e:k=("bool" == C||("bool" == "bool" && @aH)):=by
   have:k=(C == "bool" || @aH):=(bW hk).symm;rw[this];exact oU (λC=>(C == "bool" || @aH)=("bool" == C||("bool" == "bool" && @aH))) @r
  exact jc PySem.W.kitx_bool I.D7 iY (hl _ @r e) @cy fin
 | int y=>
  obtain⟨t,rfl⟩:=ru;have e:k=("int" == C||("int" == "bool" && @aH)):=by
   have:k=(@aH):=(bW hk).symm;rw[this];exact oU (λC=>(@aH)=("int" == C||("int" == "bool" && @aH))) @r
  exact jc PySem.W.kitx_int I.D7 iY (hl _ @r e) @cy fin
 | str y=>
  obtain⟨t,rfl⟩:=ru;have e:k=("str" == C||("str" == "bool" && @aH)):=by
   have:k=(C == "str"):=(bW hk).symm;rw[this];exact oU (λC=>(C == "str")=("str" == C||("str" == "bool" && @aH))) @r
  exact jc PySem.W.kitx_str I.D7 iY (hl _ @r e) @cy fin
 | tup hq rs=>
  cases ru;have e:k=("tuple" == C||("tuple" == "bool" && @aH)):=by
   have:k=(C == "tuple"):=(bW hk).symm;rw[this];exact oU (λC=>(C == "tuple")=("tuple" == C||("tuple" == "bool" && @aH))) @r
  obtain⟨bz,rv,⟨o,h1,h2,_⟩,hz⟩:=I.tuple (.of hq);exact jc PySem.W.kitx_tuple I.D7 ⟨o,h1,h2⟩ (hl _ @r e) @cy fin
 |dg hq rs=>
  obtain⟨bz,rv,pl,hz⟩:=I.list hq.sq;obtain⟨o,h1,h2,_⟩:=pl.isList;refine tl h1 h2 ?_ rfl;have:k=(C == "list"):=(bW hk).symm;rw[this];exact oU (λC=>(C == "list")=("list" == C||("list" == "bool" && @aH))) @r
 | vG h rs=>
  have e:k=("dict" == C||("dict" == "bool" && @aH)):=by
   have:k=(C == "dict"):=(bW hk).symm;rw[this];exact oU (λC=>(C == "dict")=("dict" == C||("dict" == "bool" && @aH))) @r
  obtain⟨_,_,vs,_,ob,_,_,h1,h2,_⟩:=vi I.dS (.inr ⟨_,h⟩);exact td h1 h2.1 e rfl
 | vF h rs=>
  have e:k=("dict" == C||("dict" == "bool" && @aH)):=by
   have:k=(C == "dict"):=(bW hk).symm;rw[this];exact oU (λC=>(C == "dict")=("dict" == C||("dict" == "bool" && @aH))) @r
  obtain⟨_,_,ys,_,ob,_,_,h1,h2,_⟩:=zL I.dS (.inr ⟨_,h⟩);exact td h1 h2.1 e rfl
 |exc h=>simp[Yr] at hk
 |Ie h _=>simp[Yr] at hk
 |E5 _ _ _ _=>simp[Yr] at hk
 | ref l=>
  unfold Yr at hk;dsimp only at hk;cases hg:G l with
  |none=>rw[hg] at hk;cases hk
  | some g=>
   rw[hg] at hk;cases g with
   |lst ds=>
    ext w;obtain⟨bz,rv,pl,hz⟩:=I.list (.of hv);obtain⟨o,h1,h2,_⟩:=pl.isList;refine tl h1 h2 ?_ rfl;have:k=(C == "list"):=(bW hk).symm;rw[this];exact oU (λC=>(C == "list")=("list" == C||("list" == "bool" && @aH))) @r
   |ins _ _=>cases hk
   |KG _=>cases hk
   | kU bB=>
    have e:k=("dict" == C||("dict" == "bool" && @aH)):=by
     have:k=(C == "dict"):=(bW hk).symm;rw[this];exact oU (λC=>(C == "dict")=("dict" == C||("dict" == "bool" && @aH))) @r
    rcases ab l _ hg with ⟨kv,hv,rs⟩ |⟨kv,hv,rs⟩
    .obtain⟨_,_,vs,_,ob,_,_,h1,h2,_⟩:=Ml I.dS hv;exact td h1 h2.1 e rfl
    .obtain⟨_,_,ys,_,ob,_,_,h1,h2,_⟩:=Ww I.dS hv;exact td h1 h2.1 e rfl
theorem LO (C) (hC:C∈["int","bool","list","tuple","dict","str"])   (hg:Gl X "isinstance") (hm:X.mg "isinstance"=none) (hgC:Gl X y) (hmC:X.mg y=none) (hvC:c8 y=some (.type C)) (ha:@bh) (hn:autoParam (y≠"__name__") Ad._auto_1) (HP:autoParam ((y == ("__debug__":Str))=false) Ad._auto_1)
  (he:autoParam (bF [a,@b4] X.env=(false,@c1)::bF [@b4] X.env) Ar._auto_1) (oX:autoParam ((jP pos (bF [Expr.Name y py] X.env)).any @N=false) Ar._auto_1) (he2:autoParam (bF [@b4] X.env=[(false,eval (@b4) X.env)]) Ar._auto_1):
  eS X (.Call (.Name "isinstance" p) [a,@b4] [] pos) (Oy C ta):=by
 ext i;refine fT (nC I.inv hg hm PyProof.Rows.boot_isinstance ?_);refine kZ ?_ he oX;rw[he];show wpAny _ _ (I0 ((false,@c1)::jP pos (bF [@b4] X.env))) _ _ s;refine i9 (kG ha hE I h λv H1 d G1 u s1 I1 m1 r1 jH q1=>?_);rw[he2];show wpAny _ _ (I0 [(false,eval (@b4) X.env)]) _ _ s1;refine i9 (nC I1.inv hgC hmC hvC (sk ?_) hn HP)
 try dsimp only at q1
 split at q1
 .rename_i k hk;exact gT (Q7 C hC I1.inv I1.ab r1 jH hk q1) @cQ
 .exact q1.elim
end
section
variable {X:Cx} {a b c e o:Expr} {es:@aX} {ta tb tc te to:gE} {t:Bb} {pos p p2 apos uR:Pos} {x name:Str} {id T:String}
def OO(X:Cx)(id:String)(r:D->@e->Gp->DK->Prop):Prop :=
 ∀(pins:@v) (s:aE) (σ:L2.St) (H:Hp) (G:Gp) (x:V) (d:D) (xs:@z) (ds:@e) (v:Value) (us:@C) (Q:DK),@m->@be->@bx->cX X.K H x d->@cK->bu X.K H xs ds->r d ds G Q ->
  wpAny @q X.A (call (.builtin id) (v::us)) @bK X.xe s
def VL(X:Cx)(T:String)(ty:D->@E):Prop:=∀(pins:@v) (s:aE) (σ:L2.St) (H:Hp) (G:Gp) (x:V) (d:D) (v:Value),@m->@be->@bx->cX X.K H x d->ty d G ->
  s.TypeIs v T/\∀a,v=@ar->∃ob,@cR=some ob/\ob.dict=none
theorem Bm:VL X "list" vw:=by
 intro pins s σ H G x d v I ab r rd h;cases rd with
 |dg hq rs=>exact EO I r (.inl ⟨rfl,_,hq.sq⟩)
 |ref l=>
  unfold vw at h;dsimp only at h;split at h
  .rename_i ds hg;ext w;exact EO I r (.inl ⟨rfl,vs,.of hv⟩)
  .exact h.elim
 |_=>exact bZ h
theorem PF:VL X "dict" tyC:=by
 intro pins s σ H G x d v I ab r rd h;cases rd with
 |vG q rs=>
  cases r;obtain⟨t1,t2,_⟩:=Q8 I (.inl ⟨_,.inr ⟨_,q⟩⟩);exact⟨t1,t2⟩
 |vF q rs=>
  cases r;obtain⟨t1,t2,_⟩:=Q8 I (.inr ⟨_,.inr ⟨_,q⟩⟩);exact⟨t1,t2⟩
 | ref l=>
  unfold tyC at h;dsimp only at h;split at h
  .rename_i bB hg;rcases ab l _ hg with ⟨kv,hv,rs⟩ |⟨kv,hv,rs⟩
   .exact EO I r (.inr (.inr (.inl ⟨rfl,.inl ⟨kv,hv⟩⟩)))
   .exact EO I r (.inr (.inr (.inl ⟨rfl,.inr ⟨kv,hv⟩⟩)))
  .exact h.elim
 |_=>exact bZ h
theorem XG   (pa:PlainAttrs T) (slot:Slot T name id) (hty:typeOf (.builtin id)=pure (.type "method_descriptor")) (ht:VL X T ty) (hm:OO X id r) (ho:eS X o to) (ha:zO X (e::es) t)
  (Ry:autoParam (yn o name X.env (eval o X.env)=eval o X.env) Ar._auto_1)
  (Vk:autoParam (((jP uR (bF (e::es) X.env)).all (λx=>!x.1)&&(backToKw uR (keywordEach [] X.env)).all (λx=>x.1.isSome)
   && decide ((e::es).length+([]:List Keyword).length+(if([]:List Keyword).isEmpty then 0 else 1)<30))=true) Ar._auto_1)
  (Rp:autoParam ((apos.endLine == uR.line)=true) Ar._auto_1) (hs:@dL) (Kj:autoParam ((jP uR (bF es X.env)).any @N=false) Ar._auto_1):
  eS X (.Call (.Attribute o name apos) (e::es) [] uR) (mU ty r to t):=by
 ext i;refine wpAny_Call_method_late Ry Vk Rp rfl (kG ho hE I h ?_);rintro x H1 d G1 v s1 I1 m1 r1 jH ⟨hy,q1⟩;obtain⟨h1,h2⟩:=ht pins s1 σ H1 G1 x d v I1.inv I1.ab r1 jH hy;refine⟨T,id,pa,slot,hty,h1,h2,?_⟩;have hA:=ha uR E pins s1 σ H1 τ G1 _ hE I1 q1;rw[hs] at hA ⊢;refine Calls.callWith_builtin (by show(false||(jP uR (bF es X.env)).any @N)=false;rw[Kj]<;>rfl) (Calls.evalArgs_plain ?_);exact gT hA (by rintro us s2 ⟨vs,H2,ds,G2,lY,m2,r2,De,q2⟩;exact gT (hm pins s2 σ H2 G2 x d vs ds v us Q lY m2.ab r1 (jH.mono (m2.kp I1.ab)) r2 De q2) λ_ _ z=>z.trans (@cE))
theorem J1:OO X "list.append" gb:=by
 intro pins s σ H G x d xs ds v us Q I ab rx rd Xi Gs q;unfold gb at q;split at q
 .rename_i l d';cases rd;obtain⟨w,rfl,vE⟩:=Gs.one;split at q
  .rename_i zs hg;obtain⟨hz,q⟩:=q;ext w;exact gT (DZ pins s σ H _ _ v us @bY I rx Xi ⟨l,vs,w,rfl,rfl,hv,by rw[rs.length,cN];exact hz,_,_,.putL ab hg hv (rs.append (.cons vE .nil)),.cY,q⟩) @cg
  ext k
 ext k
theorem Kz(l)(xs)(n)(b)(ys)(n2)(dd)(sl)(Wl:¬(!xs.isEmpty&&jL (xs.size+ys.size))=true)(hx:xs.size<=bw)(hxy:xs.size+ys.size<=bw+1):
  Meets (Builtin.«list.extend» ⟨[@aC,@aa],[]⟩) (λ_ R s=>@cZ=some {cls:=@Z,dict:=none,data:=.seq xs n,slots:=#[]}/\@au=some {cls:=@Z,dict:=dd,data:=.seq ys n2,slots:=sl}/\R (.ok (.ret gK)) {s with heap:=s.heap.update l (gC λx=>x++ys),toks:=s.toks}) :=
 .of_wp λprog w A R s h=>by
  obtain⟨hp,g,d,tk,os⟩:=s;obtain⟨h1,h2,h3⟩:=h;have e1:=AutoSeq1.idx_int;have e2:=qO;have e3:=Jl;have e4:=AutoSeq1.sub_tuple_list;have e5:=AutoSeq1.sub_list_tuple;have ZC:(xs++ys).size<=bw+1:=by rw[Array.size_append];exact hxy
  wp_walk using (rP h1 rfl (hz:=hx) (_hz':=ZC)),cA h1,cA h2
  exact⟨_,rfl,h3⟩
theorem J0:OO X "list.extend" ui:=by
 intro pins s σ H G x d xs ds v us Q I ab rx rd Xi Gs q;unfold ui at q;split at q
 .rename_i l y;cases rd;obtain⟨w,rfl,vE⟩:=Gs.one;obtain⟨u,rfl,ru⟩:=Xi.one;split at q
  .rename_i zs ys hg hg2;obtain⟨hz,q⟩:=q;ext w;obtain⟨b,ws,uQ,rfl,Ng,V1,hb,_⟩:=iu I ab ru vE hg2;cases rx;obtain⟨z,bz,n,r,hl,e⟩:=I.aaP hv;obtain⟨⟨cl,dd,dt,sl⟩,ho,xp,n2,hdt⟩:=hb;simp only at xp hdt;subst xp hdt;have h1:=Ng.length;have h2:=V1.length;have h3:=rs.length;have h4:=r.length;have h5:bw=16777216:=cN;have h6:SZ=16777216:=rfl;have hsz:bz.toArray.size+uQ.toArray.size<=bw:=by rw[aW,aW];lia
   have Wl:¬ (!bz.toArray.isEmpty&&jL (bz.toArray.size+uQ.toArray.size))=true:=by
    rw[QI hsz,Ll];exact hX
   refine Jd F.slot_list_extend ⟨_,e,rfl⟩ F.entry_list_extend (F.args_list_extend_2 _ _) (Kz l bz.toArray n b uQ.toArray n2 dd sl Wl (by rw[aW];lia) @c) ⟨e,ho,?_⟩;refine⟨.cY,_,.cY,_,I.aaQ (its':=bz++uQ) hv e @i (r.append Ng) ?_,.putL ab hg hv (rs.append V1),rfl,.cY,q⟩;rw[av];lia
  ext k
 ext k
theorem NO (hu : X.A.units + 64<cLine):OO X "list.index" sZ := by
  intro pins s σ H G x d xs ds v us Q I ab rx rd Xi Gs q;unfold sZ at q;split at q
  . rename_i d'
    obtain⟨hy,zs,sn,ss,hi,s1,s2,q⟩ := q;obtain⟨w,rfl,vE⟩ := Gs.one;obtain⟨u,rfl,ru⟩ := Xi.one;have lists:∃l vs bz,v=@aC/\Vals vs bz/\bu X.K H vs zs/\@dR/\vs.length<=bw := by
      cases rd with
      | dg hq rs=>
        cases hi;cases rx;obtain⟨bz,rv,pl,hz⟩ := I.list hq.sq;exact⟨_,_,bz,rfl,rv,rs,pl.isList,hz⟩
      | ref l=>
        unfold itemsOf at hi;dsimp only at hi;cases hg:G l with
        |none=> rw[hg] at hi;cases hi
        | some g=>
          rw[hg] at hi;cases g with
          | lst ds=>
            cases hi;cases rx;obtain⟨vs,hv,rs⟩ := ab.lst hg;obtain⟨bz,rv,pl,hz⟩ := I.list (.of hv);exact⟨_,_,bz,rfl,rv,rs,pl.isList,hz⟩
          |ins _ _=> cases hi
          |KG _=> cases hi
          |kU _=> cases hi
      |_=> exact bZ hy
    obtain⟨l,vs,bz,rfl,rv,rs,hl,hz⟩ := lists;obtain⟨as,ra⟩ := (iG I ab s1).1 w u vE ru;obtain⟨bs,rb⟩ := (iG I ab s2).2 zs ss (.inl @ao) vs bz rs rv;have d2 := Mn (n := 7) s2;have n2:qm ss=true := s2.nr;have B2 := xi _ n2;have yL:X.A.units + 1 + min (b7 (kN ss)) (pd sn).depth<cLine := @d
    have Qa:gB s.heap bz.toArray.toList (kN ss) bs := by simpa using rb
    have mp := SeqAt.readsAll_map _ _ _ B2 Qa;split at q
    . rename_i k hk
      obtain⟨vd,aeO,Yx⟩ := List.findIdx?_eq_some_iff_getElem.mp hk;have pdl:∀(zz:@e),(kN zz).length=zz.length := by
        intro zz;induction zz with
        |nil=> rfl
        |cons a r ih=> exact congrArg Nat.succ ih
      have hlen:bz.length=ss.length := by
        have := congrArg c7 mp;rw[ag,pdl] at this;ext p
      have at_ : ∀ (m : Nat) (h1:m<bz.toArray.size) (h2:m<ss.length),v8 (DH s.heap bz.toArray[m]) (pd sn)=iq ss[m] sn := by
        intro m h1 h2;have e1:(bz.toArray.toList.map (DH s.heap))[m]?=(kN ss)[m]? := by rw[mp]
        have pdg:∀(zz:@e) (m:Nat) (h:m<zz.length),(kN zz)[m]?=some (pd zz[m]) := by
          intro zz;induction zz with
          |nil=> intro m h;simp at h
          | cons a r ih=> intro m h;cases m with
            |zero=> rfl
            |succ m=> exact ih m (Nat.lt_of_succ_lt_succ h)
        rw[pdg ss m h2] at e1;have h1':m<bz.length := @di
        have e2:DH s.heap bz.toArray[m]=pd ss[m] := by
          simpa[h1'] using e1
        rw [e2];have nrm:nr ss[m]=true := by
          have:∀(zz:@e) (m:Nat) (h:m<zz.length),qm zz=true -> nr zz[m]=true := by
            intro zz;induction zz with
            |nil=> intro m h;simp at h
            | cons a r ih => intro m h hn; have Oe:nr a=true/\qm r=true := (jY).mp hn
                             cases m with
                             |zero=> exact Oe.1
                             |succ m=> exact ih m (@bZ) Oe.2
          exact this ss m h2 n2
        exact tJ _ _ nrm s1.nr
      have sz:bw=16777216 := cN;have hvl:vs.length=bz.length := rv.length;obtain⟨⟨cls,dd,data,sl⟩,ho,hc,n,hd⟩ := id hl;simp only at hc hd;subst hc hd;have hki:k<bz.toArray.size := by rw[aW];lia
      refine Jd Jf ⟨_,ho,rfl⟩ PySem.F.entry_list_index (PySem.F.args_list_index_2 _ _)
        (SeqAt.list_indexAt l bz.toArray n dd sl u (λy=> v8 (DH s.heap y) (pd sn)) k hki @c ?_ ?_) ⟨ho,nT Qa ra B2 (ji _ s1.nr) yL,?_⟩
      . rw[at_ k hki vd];exact aeO
      . intro m hm hmk
        have YA:m<ss.length := @d
        rw[at_ m hm YA];simpa using Yx m hmk
      . exact⟨.int k,H,.int k,G,@aF,@ay,@S,@P,q⟩
    . exact q.elim
  . exact q.elim
theorem UJ:eS X (.Dict [] [] pos) Ag:=by
 ext i;exact gT (Qt pins s σ H @bY I.inv λp hp=>⟨_,_,.new I.ab hp (.dk dq .nil),.ref _,h p (I.ab.free hp)⟩) @cg
end
noncomputable def gO(env:Env):List (Str×uV)->List (Str×Addr)->List (Str×Addr)
 |[],acc=>acc
 |(n,k)::r,acc=>if k=.free then gO env r ((n,(env.cells.lookup n).getD 0)::acc) else gO env r acc
theorem vQ(env)(f)(hf:∀n k c,f (n,k) c=if(k == kD)=true then(cellOf env n >>= λa=>pure (uM ((n,a)::c))) else pure (uM c)):
  ∀(ns:List (Str×uV)) (acc:List (Str×Addr)),(∀x∈ns,x.2=.free->∃c,env.cells.lookup x.1=@aW)->forIn ns acc f=(pure (gO env ns acc):Sem (List (Str×Addr)))
 |[],acc,_=>rfl
 | (n,k)::r,acc,h=>by
  rw[List.forIn_cons,hf];have hr:∀x∈r,x.2=.free->∃c,env.cells.lookup x.1=@aW:=λx hx=>h x (aC _ hx);by_cases hk:k=.free
  .subst hk;obtain⟨c,hc⟩:=h (n,.free) aJ rfl;have ec:cellOf env n=pure c:=by unfold cellOf;rw[hc]
   rw[if_pos @r,ec,pure_bind,pure_bind];show forIn r ((n,c)::acc) f=_;rw[vQ env f hf r _ hr];show _=(pure (gO env ((n,.free)::r) acc):Sem (List (Str×Addr)));rw[gO,if_pos rfl,hc];rfl
  .rw[if_neg (by simpa using hk),pure_bind];show forIn r acc f=_;rw[vQ env f hf r _ hr];show _=(pure (gO env ((n,k)::r) acc):Sem (List (Str×Addr)));rw[gO,if_neg hk]
theorem Ds(h:∀x∈scope.names,x.2=.free->∃c,env.cells.lookup x.1=@aW):closureFor scope env=pure (gO env scope.names []):=by
 unfold closureFor;ext e;rw[vQ env _ (λn k c=>?_) scope.names [] h]
 .rfl
 .by_cases hk:(k == kD)=true
  .simp only[hk,if_true]
  .simp only[hk,if_false,aj]
theorem wo:∀{ns:List (Str×uV)} {acc:List (Str×Addr)},(∀y∈ns,y.2=.free->∃c,env.cells.lookup y.1=@aW)->(∀y c,acc.lookup y=@aW->env.cells.lookup y=@aW)->(gO env ns acc).lookup x=@aW->env.cells.lookup x=@aW
 |[],_,_,ha,e=>ha _ _ e
 | (n,k)::r,acc,h,ha,e=>by
  have hr:∀y∈r,y.2=.free->∃c,env.cells.lookup y.1=@aW:=λy hy=>h y (aC _ hy);unfold gO at e;by_cases hk:k=.free
  .rw[if_pos hk] at e;refine wo hr (λy c' q=>?_) e;rw[kB] at q;by_cases hy:(y == n)=true
   .rw[hy] at q;have e1:y=n:=eq_of_beq hy;subst e1;obtain⟨c0,hc0⟩:=h (y,k) aJ hk;rw[hc0] at q ⊢;exact q
   .have hy':(y == n)=false:=by simpa using hy
    rw[hy'] at q;exact ha y c' q
  .rw[if_neg hk] at e;exact wo hr ha e
theorem qu:∀{ns:List (Str×uV)} {acc:List (Str×Addr)},((x,kD)∈ns\/∃c,acc.lookup x=@aW)->∃c,(gO env ns acc).lookup x=@aW
 |[],_,h=>by rcases h with h |h;exact absurd h @i;exact h
 | (n,k)::r,acc,h=>by
  unfold gO;have grow:∀a,(∃c,acc.lookup x=@aW)->∃c,((n,a)::acc).lookup x=@aW:=λa Vi=>by
   obtain⟨c,hc⟩:=Vi;rw[kB];by_cases hy:(x == n)=true
   .rw[hy];exact⟨_,rfl⟩
   .have hy':(x == n)=false:=by simpa using hy
    rw[hy'];exact⟨c,hc⟩
  by_cases hk:k=.free
  .rw[if_pos hk];refine qu ?_;rcases h with h |h
   .rcases @dh with e |h
    .injection e with e1 e2
     subst e1;exact .inr ⟨(env.cells.lookup x).getD 0,by rw[kB];simp⟩
    .exact .inl h
   .exact .inr (grow _ h)
  .rw[if_neg hk];refine qu ?_;rcases h with h |h
   .rcases @dh with e |h
    .injection e with e1 e2
     exact absurd e2.symm hk
    .exact .inl h
   .exact .inr h
abbrev dH(X:Cx)(N:@D)(scope:Scope)(C:Addr)(s:aE)(H:Hp)(fp:@aI):Cx :=
 {X with env:=compEnvC scope (gO X.env scope.names []) C X.env,N:=N,nV:=s,SJ:=H,outer:=X.stack,stack:=X.stack,ex:=fp,fn:=λ_=>false,pn:=[],xe:=@t}
theorem wG(h:(Jb scope env).names.lookup x=@a2\/(Jb scope env).names.lookup x=some .free)(qW:∀y∈scope.names,y.2≠.cell):(x,kD)∈scope.names:=by
 have go:∀k,(Jb scope env).names.lookup x=some k->k=.cell\/k=.free->(x,kD)∈scope.names:=by
  intro k hk hkk;have hm:=iP hk;unfold Jb at hm;dsimp only at hm;obtain⟨⟨n,j⟩,hj,e⟩:=List.mem_map.mp hm;dsimp only at e;by_cases hc:(j == kD&&env.scope.kind == .function&&env.kindOf n == @a2)=true
  .rw[if_pos hc] at e;rw[aP,aP] at hc;injection e with e1 e2
   have ej:j=.free:=eq_of_beq hc.1.1;rw[ej,e1] at hj;exact hj
  .rw[if_neg hc] at e;injection e with e1 e2
   subst e1;rcases hkk with r |r
   .exact absurd (e2.trans r) (qW _ hj)
   .rw[e2.trans r] at hj;exact hj
 rcases h with h |h
 .exact go _ h (@I)
 .exact go _ h (@a0)
section
variable {X:Cx} {N:@D} {scope:Scope} {fp:@aI} {pins:@v} {σ:L2.St} {H:Hp} {s:aE} {C:Addr}
theorem Y5(I:@m)(qW:∀y∈scope.names,y.2≠.cell)(Eb:scope.kind=.function)(qV:∀y∈scope.names,y.2=.free->X.env.kindOf y.1=@a2)(hC:s.heap.objs.size<=C)(hfp:∀b∈fp,qc X pins H b/\b<s.heap.objs.size):(dH X N scope C s H fp).Ok:=by
 have xp:∀y∈scope.names,y.2=.free->∃c,X.env.cells.lookup y.1=@aW:=λy hy hf=>I.ok.has _ (.inl (qV y hy hf));have WZ:∀x c,(gO X.env scope.names []).lookup x=@aW->@cx:=λx c e=>wo xp (λy c q=>by simp at q) e;refine⟨I.ok.mod,Eb,I.ok.glob,I.ok.blt,hC,λx y c h1 h2=>I.ok.inj x y c (WZ x c h1) (WZ y c h2),λx hx=>?_,λx c h=>absurd h @i,I.ok.hd,I.ok.frames,@I,λb hb=>?_,I.bs,cm I.ok.S8 I.sz,λb o e hb=>?_,λb hb=>?_,I.stack,I.Lw⟩
 .exact qu (.inl (wG hx qW))
 .obtain⟨⟨f0,f1,f2,f3,f4,f5⟩,vd⟩:=hfp b hb;exact⟨br (bY vd hC),λx c e=>f4 x c (WZ x c e)⟩
 .obtain⟨⟨f0,f1,f2,f3,f4,f5⟩,vd⟩:=hfp b hb;rcases f3 with f3 |f3
  .exact I.ok.NJ b o e f3
  .exact absurd (bY (aQ e) (cm I.ok.S8 f3)) (eU _)
 .obtain⟨⟨f0,f1,f2,f3,f4,f5⟩,vd⟩:=hfp b hb;intro z;rcases List.mem_cons.mp (I.Jr b z) with e |e
  .exact f1 e
  .exact f2 e
theorem VA{fr:@aE}(I:@m)(ok:(dH X N scope s.heap.objs.size s H fp).Ok)(YB:∀y∈scope.names,y.2≠.cell)(qV:∀y∈scope.names,y.2=.free->X.env.kindOf y.1=@a2)(hN:N.length=m+fr.length)
  (hfr:∀j i x,fr[j]?=some i->N[m+j]?=@ak->X.N[i]?=@ak/\@da=@a2/\(Jb scope X.env).names.lookup x=@a2) (Fs:∃mm,rB.Ns s.heap.objs.size mm) (hk:∀b o,@au=@j->rB.get? b=@j):
  Inv (dH X N scope s.heap.objs.size s H fp) [] (aN m none++fr.map λi=>(σ[i]?).getD none) H {s with heap:=rB,toks:=tk}:=by
 have xp:∀y∈scope.names,y.2=.free->∃c,X.env.cells.lookup y.1=@aW:=λy hy hf=>I.ok.has _ (.inl (qV y hy hf));have WZ:∀x c,(gO X.env scope.names []).lookup x=@aW->@cx:=λx c e=>wo xp (λy c q=>by simp at q) e;obtain⟨mm,Fs⟩:=Fs;refine⟨ok,rfl,I.bare,Un.kept hk,⟨mm,Fs,λi x v h1 h2 h3=>?_⟩,λx c e=>?_,@c9,λx c e=>?_,λp hp=>absurd hp @i,I.dS.kept hk,?_⟩
 ·by_cases hi:i<m
  .rw[bA (@dc),lO] at h2;split at h2<;>cases h2
  .obtain⟨j,rfl⟩:∃j,i=m+j:=⟨i-m,@d⟩;rw[aY @i,fF,vq,aZ] at h2;cases hj:fr[j]? with
   |none=>rw[hj] at h2;cases h2
   | some k=>
    rw[hj] at h2;have RD:(σ[k]?).getD none=@Q:=@b0
    have Pc:σ[k]?=some (@Q):=by
     cases q:σ[k]? with
     |none=>rw[q] at RD;cases RD
     |some o=>rw[q] at RD;simp at RD;rw[RD]
    obtain⟨e1,e2,e3⟩:=hfr j k x hj h1;obtain⟨m0,hn0,hl0⟩:=I.loc;obtain⟨u,r,l⟩:=hl0 k x v e1 Pc (.inr (.inl e2));refine⟨u,r,.inr ⟨.inl e3,?_⟩⟩;rcases l with ⟨l1,_⟩ |⟨_,c,hc,qW⟩
    .have:@da=@bB:=l1;rw[e2] at this;cases this
    .have hx:(x,kD)∈scope.names:=wG (.inl e3) YB;obtain⟨c',Wo⟩:=qu (env:=X.env) (x:=x) (ns:=scope.names) (acc:=[]) (.inl hx);have:=WZ x c' Wo;rw[hc] at this;have ec:c=c':=bW this;subst ec;obtain⟨oc,ZG,hd⟩:=qW;exact⟨c,Wo,oc,hk _ _ ZG,hd⟩
 .obtain⟨v,oc,ZG,hd⟩:=I.cell x c (WZ x c e);exact⟨v,oc,hk _ _ ZG,hd⟩
 .exact I.qX x c (WZ x c e)
 .rw[av,fF,ag];exact hN.symm
theorem FT{prog:bR}{w:World}{A:dD}{R:Result->@ag}{s:aE}{elt target iter:Expr}{ifs:@aX}{sc:Scope}{pos:Pos}{it acc:Value}{env:Env}(J:Nat->@ag)
  (turn:∀n s,J n s->wpAny @R A (DD it) (λr fP=>match r with
   |none=>R (.ok .next) fP
   | some v=>wpAny @R A (Bh target it v) (λ_ Z0=>wpAny @R A (Gy target env v) (λ_ jX=>
     wpAny @R A (forIn ifs true λc r=>if r=true then do let ok ← isTrue c env (eval c env);pure (uM ok) else pure (uM r)) (λk PO=>
      if k=true then wpAny @R A (eval elt env) (λx M6=>wpAny @R A (call (.builtin "list.append") [acc,x]) (λ_ PN=>∃m,m<n/\J m PN) @p M6) @p PO
      else ∃m,m<n/\J m PO) @p jX) @p Z0) @p fP) @p s) (n:Nat) (h:J n s):
  rW @R A (.compLoop (.ListComp elt [⟨target,iter,ifs,0⟩] sc pos) 0 it acc env) R s:=by
 have no:∀{α:Type} {t:Sem α} {Q:α->@ag} {E:@J} {s:aE},wpAny @R A t Q @p s->wpAny @R A t Q E s:=λh=>oK h (λ_ _ q=>q) λ_ _ z=>z.elim;refine codeAny_loop rfl J (λn s hJ=>?_) n h;show wpAny _ A ((compTurn (.ListComp elt [⟨target,iter,ifs,0⟩] sc pos) 0 it acc env).onRaise (λx=>do noteFrame x env;theTreesLotGoes x)) _ _ s;refine wpAny_noted ?_;rw[compTurn_list];refine aw (wpAny_standAt (aw (gT (no (turn n s hJ)) λr fP rB=>?_)));cases r with
 |none=>exact aL rB
 |some v=>
  refine aw (gT (no rB) λ_ jX Ki=>aw (gT (no Ki) λ_ PO aec=>aw (gT (no aec) λk M6 aaV=>?_)));cases k with
  |false=>exact aL ⟨rfl,aaV⟩
  |true=>exact aw (aw (gT (no aaV) λx PN aeb=>aw (gT (no aeb) λ_ ahA aea=>aL (aL ⟨rfl,aea⟩))))
def CompEnd(X:Cx)(pins:@v)(σ:L2.St)(H:Hp)(G:Gp)(Q:DK)(C Dd:Addr)(s':aE):Prop :=
 ∃m H' G',@de/\s'.heap.Ns C m/\qc X pins H' C/\@b_/\Q (.ref Dd) G'
inductive VO (Xc:Cx):@aX->Option yX->Prop
 |none:VO Xc [] none
 |some {c:Expr} {t:yX}:EB Xc c t->VO Xc [c] (some t)
theorem Es{τ:iw}{G G2:Gp}{H2:Hp}{s2:aE}{tg elt iter:Expr}{ifs:@aX}{pos:Pos}{m:Nat}{fr:@aE}{E:l8}{g:CV}{c:Option yX}{te:gE}{J:It}{tn:Nat->@bW}{it:Addr}{ds:@e}{ok:@E}{Q:DK}{Rr:Value->Addr->Result->@ag}{E0:@J}
  (hc:@bk) (qW:∀y∈scope.names,y.2≠.cell) (Eb:scope.kind=.function) (qV:∀y∈scope.names,y.2=.free->X.env.kindOf y.1=@a2) (hN:N.length=m+fr.length)
  (hfr:∀j i x,fr[j]?=some i->N[m+j]?=@ak->X.N[i]?=@ak/\@da=@a2/\(Jb scope X.env).names.lookup x=@a2)
  (hg:∀C s H fp,CW @cm tg g) (hi:∀C s H fp,VO @cm ifs c) (he:∀C s H fp,eS @cm elt te)
  (I:I2 X pins σ H2 τ G2 s2) (m2:Mv X.K H G H2 G2) (T:Turn X.prog X.w X.K tg J fp it tn) (S1:tn 0 s2.heap) (f2:∀b∈fp,qc X pins H2 b) (wk:WD X.K J H2 ds ok) (hz:ds.length<=SZ)
  (hE0:∀ex G,¬ E ex G) (q:iX g c te ok ds E (Cs m fr τ) G2 [] λxs G3=>jN G3 @bw Q)
  (fin:∀C s',CompEnd X pins σ H G Q C s2.heap.objs.size s'->Rr (@dw) C (.ok .next) s'):
  wpAny @q X.A (newList []) (λacc PO=>wpAny @q X.A (newFunctionEnv scope X.env.globals (gO X.env scope.names []) [] X.env.qual none .none (some X.env)) (λabM M6=>
   rW @q X.A (.compStart @cL 0 (.ref it) acc {abM with scope:=Jb scope X.env}) (Rr acc abM.locals) M6) E0 PO) E0 s2:=by
 have sz:bw=16777216:=cN;have yN:H2 s2.heap.objs.size=none:=I.inv.dS.fresh @X;have YH:G2 s2.heap.objs.size=none:=I.ab.free yN;refine gm (wpAny_newFunctionEnv qW (by intro y hy;simp at hy) (λrB Rn Ri=>?_) Eb);dsimp only at Rn Ri ⊢;have I3:Inv X pins σ (upd H2 s2.heap.objs.size (.lst [])) {s2 with heap:=s2.heap.push {cls:=@Z,data:=.seq ([]:@C).toArray},toks:=s2.toks}:=I.inv.ad1 (ys:=[]) .nil (b9 _);generalize hs3:({s2 with heap:=s2.heap.push {cls:=@Z,data:=.seq ([]:@C).toArray},toks:=s2.toks}:aE)=s3 at I3;generalize hH3:upd H2 s2.heap.objs.size (.lst [])=H3 at I3;have eH3:∀b,b≠s2.heap.objs.size->H3 b=H2 b:=λb hb=>by rw[<-hH3,ck hb]
 have HN:s3.heap=s2.heap.push {cls:=@Z,data:=.seq ([]:@C).toArray}:=by rw[<-hs3]
 have Z6:s3.heap.objs.size=s2.heap.objs.size+1:=by rw[HN,dE]
 have Rv:∀b∈fp,b<s2.heap.objs.size:=λb hb=>by
  obtain⟨o,e,_⟩:=T.obj _ _ S1 b hb;exact aQ e
 have abd:∀b∈fp,qc X pins H3 b/\b<s3.heap.objs.size:=λb hb=>by
  have hb2:=Rv b hb;obtain⟨f0,f1⟩:=f2 b hb;exact⟨⟨by rw[eH3 b (br hb2)];exact f0,f1⟩,bY hb2 (by rw[Z6];exact vp _)⟩
 have okc:(@cp).Ok:=Y5 I3 qW Eb qV @X abd;have Wm:∀b o,s3.heap.get? b=@j->rB.get? b=@j:=λb o e=>by
  have hb:b<s3.heap.objs.size:=aQ e;refine Ri.extBut b o ?_ (aG _ ?_)
  .rw[<-HN];exact br hb
  .rw[<-HN];exact e
 have aeC:∃mm,rB.Ns s3.heap.objs.size mm:=⟨_,by rw[HN];exact Rn⟩;have I4:=VA (tk:=s3.toks+([]:List (Str×Value)).length) I3 okc qW qV hN hfr aeC Wm;have ad7:Kp H2 H3:=by rw[<-hH3];exact .new yN
 have WC:mX X.K H3 G2:=by rw[<-hH3];exact(Mv.Mb I.ab yN).ab
 have mv3:Mv X.K H2 G2 H3 G2:=by rw[<-hH3];exact .Mb I.ab yN
 have st3:Td X.K H3 (aN m none++fr.map λi=>(σ[i]?).getD none) (Cs m fr τ):=by
  refine⟨by unfold Cs;rw[av,av,ag,ag,fF,fF],λi d h2=>?_⟩;unfold Cs at h2;by_cases hi:i<m
  .rw[bA (@dc),lO] at h2;split at h2<;>cases h2
  .obtain⟨j,rfl⟩:∃j,i=m+j:=⟨i-m,@d⟩;rw[aY @i,fF,vq,aZ] at h2;rw[aY @i,fF,vq,aZ];cases hj:fr[j]? with
   |none=>rw[hj] at h2;cases h2
   | some k=>
    rw[hj] at h2;have RD:(τ[k]?).getD none=@aM:=@b0
    have Pc:τ[k]?=some (@aM):=by
     cases qq:τ[k]? with
     |none=>rw[qq] at RD;cases RD
     |some o=>rw[qq] at RD;simp at RD;rw[RD]
    obtain⟨v,e1,e2⟩:=I.st.at' k d Pc;exact⟨v,by simp[e1],e2.mono ad7⟩
 have hD3:H3 s2.heap.objs.size=some (.lst []):=by rw[<-hH3,dq]
 have Z3:tn 0 rB:=T.keep _ _ _ S1 λb hb o e=>Wm b o (by rw[HN];exact aG _ e);have PU:∀{Hc:Hp},(∀b∈fp,Hc b=none)->∀b∈fp,qc (@cp) [] Hc b:=λhn b hb=>
  ⟨hn b hb,(okc.exf b hb).1,okc.RV b hb,.inl hb,λx c e=>(okc.exf b hb).2 x c e,λp hp=>absurd hp @i⟩
 have neD:∀b∈fp,b≠s2.heap.objs.size:=λb hb=>br (Rv b hb);have loop:rW @q X.A (.compLoop @cL 0 (.ref it) (@dw) (@cp).env) (Rr (@dw) s3.heap.objs.size)
   {s3 with heap:=rB,toks:=s3.toks+([]:List (Str×Value)).length}:=by
  refine FT (λn s'=>∃i S0 Hc Px Gc vR xS,I2 (@cp) [] S0 Hc Px Gc s'/\Gc s2.heap.objs.size=none/\Hc s2.heap.objs.size=some (.lst vR)/\bu X.K Hc vR xS/\xS.length<=i/\Mv X.K H2 G2 Hc Gc/\tn i s'.heap/\(∀b∈fp,Hc b=none) /\
   n=ds.length-i/\i<=ds.length/\iX g c te ok (ds.drop i) E Px Gc xS λxs G3=>jN G3 @bw Q) ?_ ds.length
   ⟨0,_,H3,_,G2,[],[],⟨I4,st3,WC⟩,YH,hD3,.nil,aR _,mv3,Z3,λb hb=>by rw[eH3 b (neD b hb)];exact(f2 b hb).1,rfl,b9 _,q⟩
  rintro n s4 ⟨i,S0,Hc,Px,Gc,vR,xS,Ic,gD,hD,rA,hA,mc,stc,frc,rfl,hle,wq⟩;have kpc:Kp H2 Hc:=mc.kp I.ab;by_cases vd:i<ds.length
  .rw [h8 vd] at wq;obtain⟨okG,wq⟩:=wq;obtain⟨go,yl⟩:=(wk i Hc Gc kpc Ic.ab okG).1 ds[i] (by simp[vd]);refine gT (T.item (@cp) rfl rfl rfl hc i [] s4 S0 Hc @p Ic.inv (PU frc) stc go) ?_;rintro r s5 ⟨u,hr,h5⟩;subst hr;refine gT h5 ?_;rintro _ s6 ⟨x,H6,I6,r6,y6,st6,fr6⟩;obtain⟨rd6,m6⟩:=yl x H6 y6;have I6':=I6.pinned (PU fr6) (T.obj _ _ st6);have J6:I2 (@cp) ([]++sX fp s6.heap) S0 H6 Px Gc s6:=⟨I6',Ic.st.mono (m6.kp Ic.ab),m6.ab⟩;have back:∀{σ9:L2.St} {H9:Hp} {τ9:iw} {G9:Gp} {s9:aE} {aV:@z} {aD:@e},I2 (@cp) ([]++sX fp s6.heap) σ9 H9 τ9 G9 s9->Mv X.K H2 G2 H9 G9->G9 s2.heap.objs.size=none->H9 s2.heap.objs.size=some (.lst aV)->bu X.K H9 aV aD->aD.length<=i+1 ->
     (iX g c te ok (ds.drop (i+1)) E τ9 G9 aD λxs G3=>jN G3 @bw Q)->∃mm,mm<ds.length-i/\∃i S0 Hc Px Gc vR xS,I2 (@cp) [] S0 Hc Px Gc s9/\Gc s2.heap.objs.size=none/\Hc s2.heap.objs.size=some (.lst vR)/\bu X.K Hc vR xS/\xS.length<=i /\
      Mv X.K H2 G2 Hc Gc/\tn i s9.heap/\(∀b∈fp,Hc b=none)/\mm=ds.length-i/\i<=ds.length/\iX g c te ok (ds.drop i) E Px Gc xS λxs G3=>jN G3 @bw Q:=λ{σ9 H9 τ9 G9 s9 aV aD} I9 m9 g9 h9 r9 l9 n9=>by
    refine⟨ds.length-(i+1),@d,i+1,σ9,H9,τ9,G9,aV,aD,⟨I9.inv.we,I9.st,I9.ab⟩,g9,h9,r9,l9,m9,T.keep _ _ _ st6 λb hb o e=>(I9.inv.pin (b,o) (bD _ (bD _ (qE hb e)))).1,λb hb=>?_,rfl,vd,n9⟩;obtain⟨o,e,d⟩:=T.obj _ _ st6 b hb;exact(I9.inv.pin (b,o) (bD _ (bD _ (qE hb e)))).2.1
   have mc6:=mc.trans m6;have hD6:=m6.keep _ _ hD gD;refine gT (hg _ _ _ _ E _ s6 S0 H6 Px Gc x ds[i] u _ (Lk.none hE0) J6 r6 rd6 wq) ?_;rintro _ s7 ⟨O6,H7,O5,G7,I7,m7,q7⟩;have hD7:=m7.keep _ _ hD6.1 gD;have mc7:=mc6.trans m7;have rA7:=rA.mono ((m6.trans m7).kp Ic.ab);have abF:∀(H8:Hp) (G8:Gp) (s8:aE),I2 (@cp) ([]++sX fp s6.heap) O6 H8 O5 G8 s8->Mv X.K H7 G7 H8 G8->(te E O5 G8 λy G9=>iX g c te ok (ds.drop (i+1)) E O5 G9 (xS++[y]) λxs G3=>jN G3 @bw Q) ->
     wpAny @q X.A (eval elt (@cp).env) (λy M6=>wpAny @q X.A (call (.builtin "list.append") [@dw,y]) (λ_ PN=>∃mm,mm<ds.length-i/\∃i S0 Hc Px Gc vR xS,I2 (@cp) [] S0 Hc Px Gc PN/\Gc s2.heap.objs.size=none/\Hc s2.heap.objs.size=some (.lst vR)/\bu X.K Hc vR xS/\xS.length<=i /\
      Mv X.K H2 G2 Hc Gc/\tn i PN.heap/\(∀b∈fp,Hc b=none)/\mm=ds.length-i/\i<=ds.length/\iX g c te ok (ds.drop i) E Px Gc xS λxs G3=>jN G3 @bw Q) @p M6) @p s8:=λH8 G8 s8 I8 m8 q8=>by
    refine kG (he _ _ _ _) (Lk.none hE0) I8 q8 λv H9 d9 G9 u9 s9 I9 m9 r9 rd9 q9=>?_;have m79:=m8.trans m9;have hD9:=m79.keep _ _ hD7.1 hD7.2;have rA9:=rA7.mono (m79.kp I7.ab);have mc9:=mc7.trans m79;refine gT (DZ (X:=@cp) _ s9 O6 H9 (@dw) [v] _ [u9] (λ_ H'=>H'=upd H9 s2.heap.objs.size (.lst (vR++[v]))) I9.inv rfl (.cons r9 .nil)
     ⟨_,vR,v,rfl,rfl,hD9.1,by rw[rA.length,sz];have:SZ=16777216:=rfl;lia,rfl⟩) ?_
    rintro _ s10 ⟨v10,H10,I10,_,e10⟩;subst e10;have kpA:Kp H9 (upd H9 s2.heap.objs.size (.lst (vR++[v]))):=.putL hD9.1;have abA:mX X.K (upd H9 s2.heap.objs.size (.lst (vR++[v]))) G9:=λa g' e=>by
     have ne:a≠s2.heap.objs.size:=by ext d;rw[hD9.2] at e;cases e
     exact(I9.ab a g' e).mono kpA (ck ne)
    have mA:Mv X.K H2 G2 (upd H9 s2.heap.objs.size (.lst (vR++[v]))) G9:=⟨λa o e n=>by
      have ne:a≠s2.heap.objs.size:=e8 e yN;obtain⟨e1,e2⟩:=mc9.keep a o e n;exact⟨by rw[ck ne];exact e1,e2⟩,λa n=>by
      by_cases ha:a=s2.heap.objs.size
      .rw[ha,dq];simp
      .rw[ck ha];exact mc9.oP a n,abA⟩
    exact back ⟨I10,I9.st.mono kpA,abA⟩ mA hD9.2 dq ((rA9.append (.cons rd9 .nil)).mono kpA) (by rw[av,cH];lia) q9
   cases hi s3.heap.objs.size s3 H3 fp with
   |none=>
    refine wpAny_tests_nil ?_;rw[if_pos rfl];exact abF H7 G7 s7 I7 (.refl I7.ab) q7
   | some abk=>
    refine wpAny_tests_one (M4 abk (Lk.none hE0) I7 q7 λk H8 G8 s8 I8 m8 q8=>?_);cases k with
    |true=>
     rw[if_pos rfl] at q8 ⊢;exact abF H8 G8 s8 I8 m8 q8
    |false=>
     rw[if_neg hX] at q8 ⊢;have hD8:=m8.keep _ _ hD7.1 hD7.2;exact back I8 (mc7.trans m8) hD8.2 hD8.1 (rA7.mono (m8.kp I7.ab)) @c q8
  .have hn:ds.length<=i:=@d
   rw[mi hn] at wq;obtain⟨okG,qn⟩:=wq;have stop:=(wk i Hc Gc kpc Ic.ab okG).2 hn;refine gT (T.done (@cp) rfl rfl rfl hc i [] s4 S0 Hc @p Ic.inv (PU frc) stc stop) ?_;rintro r s5 ⟨hr,I5⟩;subst hr;refine fin s3.heap.objs.size s5 ?_;obtain⟨mm,aeD,_⟩:=I5.loc;have hC5:Hc s3.heap.objs.size=none:=I5.free;have I6:Inv X pins σ Hc s5:=by
    obtain⟨h5,g5,d5,t5,o5⟩:=s5;have eo:o5=s3.os:=I5.os;subst eo;exact I3.call (h':=h5) (g':=g5) (d':=d5) (t':=t5) (ch:=fp) I5.base I5.dS I5.bare λb hb=>by
     obtain⟨⟨f0,f1,f2',f3,f4,f5⟩,hl⟩:=abd b hb;exact⟨f3,f1,f4,f5⟩
   have mvF:Mv X.K H2 G2 Hc (cJ Gc s2.heap.objs.size (.lst xS)):=⟨λa o e n=>by
     have ne:a≠s2.heap.objs.size:=e8 e yN;obtain⟨e1,e2⟩:=mc.keep a o e n;exact⟨e1,by rw[cL ne];exact e2⟩,mc.oP,λa g' e=>by
     by_cases ha:a=s2.heap.objs.size
     .subst ha;rw[ax] at e;cases e;exact⟨vR,hD,rA⟩
     .rw[cL ha] at e;exact Ic.ab a g' e⟩
   exact⟨mm,Hc,_,I6,aeD,I3.Om @X hC5,m2.trans mvF,qn _ gD⟩
 have all:rW @q X.A (.compStart @cL 0 (.ref it) (@dw) (@cp).env) (Rr (@dw) s3.heap.objs.size)
   {s3 with heap:=rB,toks:=s3.toks+([]:List (Str×Value)).length}:=codeAny_compStart_list loop (T.self _ 0 _ _ _ Z3 loop)
 subst hs3;exact all
end
section
variable {X:Cx} {N:@D} {scope:Scope} {tg elt iter:Expr} {ifs:@aX} {pos:Pos} {m:Nat} {fr:@aE} {wi:SD} {g:CV} {c:Option yX} {te:gE}
structure CK(X:Cx)(N:@D)(scope:Scope)(m:Nat)(fr:@aE):Prop where
 cell:∀y∈scope.names,y.2≠.cell
 kind:scope.kind=.function
 names:∀y∈scope.names,y.2=.local->scope.names.lookup y.1=@bB
 free:∀y∈scope.names,y.2=.free->X.env.kindOf y.1=@a2
 len:N.length=m+fr.length
 at':∀j i x,fr[j]?=some i->N[m+j]?=@ak->X.N[i]?=@ak/\@da=@a2/\(Jb scope X.env).names.lookup x=@a2
theorem CK.closed(k:CK X N scope m fr)(I:@m):closureFor scope X.env=pure (gO X.env scope.names []) :=
 Ds λy hy hf=>I.ok.has _ (.inl (k.free y hy hf))
theorem NB(hc:@bk)(k:CK X N scope m fr)(hi:IB X tg iter wi)(hg:∀C s H fp,CW @cm tg g)(Rt:∀C s H fp,VO @cm ifs c)(he:∀C s H fp,eS @cm elt te)
  (hs:autoParam (@dv) Ai._auto_1):eS X @cL (eC m fr wi g c te):=by
 ext i;rw[eval_ListComp];refine wpAny_comprehension_free (use:=none) rfl hs (k.closed I.inv) k.kind k.names (gT (hi E pins s σ H τ G _ hE I h) λxv fP rB=>gT rB λWi jX Ki=>?_);obtain⟨it,fp,tn,J,H2,G2,ds,ok,e,lY,m2,T,S1,f2,wk,hz,q⟩:=Ki;subst e;refine Es (Rr:=λacc C=>compPost @q X.A X.xe none @bK acc C) hc k.cell k.kind k.free k.len k.at' hg Rt he (I.mv lY m2) m2 T S1 f2 wk hz (λ_ _ z=>z) q ?_;rintro C s' ⟨mm,H',G',I',Fs,fpC,mv,q'⟩;refine⟨mm,Fs,λh' ZD=>?_⟩;obtain⟨f0,f1,_,f3,f4,f5⟩:=fpC;exact⟨.ref _,H',.ref _,G',I'.turned (t':=s'.toks) (λb o hb e=>ZD.extBut b o hb e) f0 f1 f3 f4 f5,mv,rfl,.ref _,q'⟩
theorem Hm(hN:X.N.Nodup)(hyi:X.N[i]?=some y)(hy:X.env.scope.names.lookup y=@bB)(hc:@bk)(k:CK X N scope m fr)(hi:IB X tg iter wi)(hg:∀C s H fp,CW @cm tg g)
  (Rt:∀C s H fp,VO @cm ifs c) (he:∀C s H fp,eS @cm elt te) (hsw:autoParam (rQ @cL (some (@b4)) GY.line X.env=pure true) Ar._auto_1)
  (hs:autoParam (@dv) Ai._auto_1):yY X (.Assign [@b4] @cL GY) (bx (eC m fr wi g c te) (aI i)):=by
 ext t;rw[exec_Assign_Name_used _ _ _ _ hsw];refine aw (wpAny_standAt (aw ?_));show wpAny _ X.A (do let _ ← comprehension (.ListComp elt [⟨tg,iter,ifs,0⟩] scope pos) scope X.env _ (newList []) false (eval iter X.env) (some (Gy (.Name y py) X.env))) _ _ s;refine aw (gT (wpAny_comprehension_free (use:=some (Gy (@b4) X.env)) (Q:=λ_ s'=>Zm X pins H G D .next s') rfl hs (k.closed I.inv) k.kind k.names (gT (hi E pins s σ H τ G _ hE I h) λxv fP rB=>gT rB λWi jX Ki=>?_)) λ_ s' hq=>aL (aL hq));obtain⟨it,fp,tn,J,H2,G2,ds,ok,e,lY,m2,T,S1,f2,wk,hz,q⟩:=Ki;subst e;refine Es (Rr:=λacc C=>compPost @q X.A X.xe (some (Gy (@b4) X.env)) (λ_ s'=>Zm X pins H G D .next s') acc C) hc k.cell k.kind k.free k.len k.at' hg Rt he (I.mv lY m2) m2 T S1 f2 wk hz (λ_ _ z=>z) q ?_;rintro C s' ⟨mm,H',G',I',Fs,fpC,mv,q'⟩;show wpAny @q X.A (Gy (@b4) X.env (.ref jX.heap.objs.size)) _ X.xe s';obtain⟨f0,f1,_,f3,f4,f5⟩:=fpC;refine wpAny_assign_Name (DM (v:=.ref jX.heap.objs.size) I' hN hyi (.inl hy) rfl (?_) (.inr hy));rintro s3 I3 ⟨a,hsb,ha⟩;have hCa:C≠a:=by
  rcases ha with rfl |ha
  .exact f1
  .exact λe=>f4 y a ha e.symm
 refine⟨mm,Fs.sameBut hsb hCa,λh' ZD=>?_⟩;exact⟨_,H',_,G',⟨I3.turned (t':=s3.toks) (λb o hb e=>ZD.extBut b o hb e) f0 f1 f3 f4 f5,(I.st.mono (mv.kp I.ab)).set i (.ref _),mv.ab⟩,mv,q'⟩
theorem Oj(h:∀E ds τ G Q,u E ds τ G Q->ds.length=n):∀E ds τ G Q,hU (aI i) u E ds τ G Q->ds.length=n+1 :=
 Ol h (λ_ _ _ _ _ _ q k=>k _ _ q) λ_ _ _ _ q=>q
theorem range_all(bs:List Bool):(cR bs.length).all (λi=>bs.getD i true)=bs.all id:=by
 rw[Bool.eq_iff_iff,kC,kC];ext l
 .intro h b hb;obtain⟨i,hi,e⟩:=dI hb;have:=h i (List.mem_range.mpr hi);rw[bc,az hi,e] at this;ext g
 .intro h i hi;have zD:=List.mem_range.mp hi;rw[bc,az zD];exact h _ (bU zD)
theorem By{K:ay}:∀{vs:@z} {bs:List Bool} {bz:@C},bu K H vs (bs.map D.bl)->Vals vs bz->bz=bs.map yc
 |_,[],_,r,h=>by rw[aK] at r;rw[r.zero] at h;cases h;rfl
 | _,b::bs,_,r,h=>by
  rw[aq] at r;cases r with
  | cons r1 r2=>
   cases r1;cases h with
   |cons h1 h2=>
    cases h1;rw[By r2 h2];rfl
theorem vK(I:@m)(ab:@be)(rx:@bx)(rd:cX X.K H x d)(hi:itemsOf d G=some zs):
  ∃l vs bz,v=@aC/\Vals vs bz/\bu X.K H vs zs/\(@dR\/s.heap.IsTuple l bz.toArray)/\vs.length<=bw:=by
 cases rd with
 |dg hq rs=>
  cases hi;cases rx;obtain⟨bz,rv,pl,hz⟩:=I.list hq.sq;exact⟨_,_,bz,rfl,rv,rs,.inl pl.isList,hz⟩
 |tup hq rs=>
  cases hi;cases rx;obtain⟨bz,rv,pl,hz⟩:=I.tuple (.of hq);exact⟨_,_,bz,rfl,rv,rs,.inr pl,hz⟩
 | ref l=>
  unfold itemsOf at hi;dsimp only at hi;cases hg:G l with
  |none=>rw[hg] at hi;cases hi
  | some gg=>
   rw[hg] at hi;cases gg with
   |lst ds=>
    cases hi;cases rx;ext w;obtain⟨bz,rv,pl,hz⟩:=I.list (.of hv);exact⟨_,_,bz,rfl,rv,rs,.inl pl.isList,hz⟩
   |ins _ _=>cases hi
   |KG _=>cases hi
   |kU _=>cases hi
 |_=>cases hi
theorem OD (hc:@bk):kY X (.builtin "all") Sr:=by
 ext A;unfold Sr at q;split at q
 .rename_i x;obtain⟨bs,hb,q⟩:=q;obtain⟨v,rfl,r⟩:=rd.one;obtain⟨u,rfl,ru⟩:=rx.one;obtain⟨l,vs,bz,rfl,rv,rs,hl,hz⟩:=vK I ab ru r hb;have ei:=By rs rv;have hlen:bz.length=bs.length:=by rw[ei,ag]
  have iV:∀{o:Obj},@cZ=@j->l≠s.heap.objs.size:=λe=>br (aQ e);have tr:TruthOf X.prog X.w X.A.in1 (λi v=>bz.toArray[i]?=@Q) (λi=>bs.getD i true):=λi v s' Q' E' hv hq=>by
   subst ei;have S6:(bs.map yc)[i]?=@Q:=by simpa using hv
   rw[aZ] at S6;cases hbi:bs[i]? with
   |none=>rw[hbi] at S6;cases S6
   |some b=>
    rw[hbi] at S6;cases S6;dsimp only at hq;rw[bc,hbi] at hq;exact oI hq
  have fin:∀h' tk,(∀b o,b∉[s.heap.objs.size]->@au=@j->@an=@j)->rg X pins σ H G Q (.bool ((cR bz.toArray.size).all λi=>bs.getD i true)) @bU:=λh' tk hk=>by
   rw[aW,hlen,range_all];exact⟨.bl _,H,.bl _,G,I.kept λb o e=>hk b o (by simpa using br (aQ e)) e,@ay,rfl,.bl _,q⟩
  rcases hl with hl |hl
  .refine call_all_walk (ky hl ?_);obtain⟨o,ho,xp,n,hd⟩:=id hl;exact⟨s.heap.objs.size,_,_,_,_,_,_,rfl,CZ (A:=X.A.in1) @dz _ l (iV ho) bz.toArray,⟨@c5,⟨o,aG _ ho,xp,n,hd⟩⟩,tr,λh' tk hk=>fin h' tk λb o hb e=>hk b o hb (aG _ e)⟩
  .refine call_all_walk (uS hl ?_);obtain⟨o,ho,xp,n,hd⟩:=id hl;exact⟨s.heap.objs.size,_,_,_,_,_,_,rfl,Tf (A:=X.A.in1) @dz _ l (iV ho) bz.toArray,⟨@c5,⟨o,aG _ ho,xp,n,hd⟩⟩,tr,λh' tk hk=>fin h' tk λb o hb e=>hk b o hb (aG _ e)⟩
 ext k
theorem Xq(h:tT X body t2)(hE:Lk X E):ZU X body (λD σ H=>∃(τ:iw) (G:Gp) (D2:lG),Td X.K H σ τ/\@be/\t2 E D2 τ G /\
  (∀jT H' rm G',@b_->D2.nx rm G'->D.nx jT H')/\(∀v H' d G',@b_->cX X.K H' v d->D2.rt d G'->D.rt v H')/\(∀τ G,¬ D2.bk τ G)/\(∀τ G,¬ D2.ct τ G)):=by
 rintro pins s σ H D I ⟨τ,G,D2,st,ab,q,k1,k2,k3,k4⟩;refine gT (h E pins s σ H τ G D2 hE ⟨I,st,ab⟩ q) λf s1 z=>?_;cases f with
 |next=>obtain⟨jT,H',rm,G',J,mv,z⟩:=z;exact⟨jT,H',J.inv,k1 jT H' rm G' mv z⟩
 |brk=>obtain⟨jT,H',rm,G',J,mv,z⟩:=z;exact(k3 _ _ z).elim
 |cont=>obtain⟨jT,H',rm,G',J,mv,z⟩:=z;exact(k4 _ _ z).elim
 |ret u=>obtain⟨v,jT,H',d,G',J,mv,r,rd,z⟩:=z;exact⟨v,jT,H',J,r,k2 v H' d G' mv rd z⟩
theorem PV{K:ay}(r:@bt):Td K H (L2.start Nn vs) (@dn):=by
 unfold L2.start aT;refine⟨by simp[r.length],λi d h=>?_⟩;by_cases hi:i<ds.length
 .rw[bA (@dc),aZ] at h;cases hd:ds[i]? with
  |none=>rw[hd] at h;cases h
  |some d'=>
   rw[hd] at h;have e:d'=d:=@bZ
   subst e;obtain⟨v,h1,h2⟩:=r.get hd;refine⟨v,?_,h2⟩;rw[bA (by simpa[r.length] using hi),aZ,h1];rfl
 .rw[aY (@dc),lO] at h;split at h<;>cases h
theorem A5{P:bR}{w:World}{K:ay}{mg:@aU}{base:Heap}{x qual:Str}{st:Stmt}{f:Addr}{fd:dQ}{Nn ps:@D}{k:Nat}{sp:gM}{rd:fZ}(F:Ta K x qual st f fd)(S:ku Nn ps @a3)(len:∀ds G Q E,sp ds G Q E->ds.length=ps.length)
  (hr:∀ds G Q,sp ds G Q @p->rd @p @B (@dn) G)
  (hb:∀(i7:Value) (A:dD) (outer:@b3) (s:aE) (H:Hp) (E:XK),jj k (A.deeper (Gx qual @a3 s.heap.objs.size f i7))->tT (FR yb P w K mg base Nn qual @a3 f i7 A outer s H E).X3 (fx st) rd):rG P w K mg base yb (k+1) f fd ps (mx K sp):=by
 refine F.ok S ((by rintro vs H Q E ⟨ds,G,Q2,r,ab,q,_⟩;exact by rw[r.length];exact len _ _ _ _ q)) ?_;rintro i7 A outer s H vs Q E aa0 ⟨ds,G,Q2,r,ab,q,kk⟩;refine⟨_,Xq (hb i7 A outer s H E aa0) (E:=@t) (Lk.none λ_ _ z=>z),?_⟩;exact⟨@dn,G,ends Q2,PV r,ab,hr ds G Q2 q,λjT H' rm G' mv z=>kk _ _ _ _ z mv .cY,λv H' d G' mv rdv z=>kk _ _ _ _ z mv rdv,λ_ _ z=>z,λ_ _ z=>z⟩
section
variable {prog:bR} {w:World} {A:dD} {R:Result->@ag} {It0:Addr} {fq wr:@aI} {n:Nat} {P:Nat->Value->Prop} {Sx:Nat->@bW}
theorem X6(W:Walks prog w A.in1 It0 fq wr n P Sx)(bt:Nat->@bG)(T:@bW)(B:Addr)(hB:B∉fq)(hT:∀h h',T h->(∀b o,b∉wr->b≠B->@bD->@an=@j)->T h')
  (cmp:∀i j x y s (Q:@J) (E:@J),T s.heap->P i x->P j y->Q (.bool (bt i j)) s->wpAny @R A.in1 (rT .Lt x y) Q E s):
  ∀(k j:Nat) (s:aE) (best:Value) (cc:Nat),n-(j+1)=k->j+1<=n->Sx (j+1) s.heap->T s.heap->P (oM bt j) best ->
  s.heap.get? B=some {cls:=@Z,dict:=none,data:=.seq #[best,best] cc,slots:=#[]} ->
  (∀v h' tk,P (oM bt (n-1)) v->(∀b o,b∉wr->b≠B->@au=@j->@an=@j)->R (.ok (.ret v)) @bU) ->
  rW @R A (.builtin "min.loop" ⟨[.ref It0,.none,.ref B],[]⟩) R s:=by
 have hBw:B∉wr:=λz=>hB (W.sub _ z);have nm:(toString "min"++toString ".loop":String)="min.loop":=@f
 intro k;induction k with
 |zero=>
  intro j s best cc hk hj hs ht hp hb hR;have ej:j+1=n:=@d
  refine gX Jk ?_;rw[fN jf _];show wpAny _ A.in1 (seqItems? (.ref B) >>= _) _ _ s;refine aw (oV hb rfl ?_);show wpAny _ A.in1 (tryCatch (DD (.ref It0)) _ >>= _) _ _ s;refine aw (DC (W.done s _ _ (ej ▸ hs) λh' tk kept=>?_));have HQ:=kept B _ hBw hb;show wpAny _ A.in1 (updateSeq B (λ_=>#[]) >>= _) _ _ _;refine aw ?_;refine rP HQ rfl (aw (EF (aL ?_)));exact hR best _ tk (by rw[<-ej];exact hp) λb o z1 z2 e=>(cV _ _ (eB z2)).trans (kept b o z1 e)
 | succ k ih=>
  intro j s best cc hk hj hs ht hp hb hR;have lt:j+1<n:=@d
  refine gX Jk ?_;rw[fN jf _];show wpAny _ A.in1 (seqItems? (.ref B) >>= _) _ _ s;refine aw (oV hb rfl ?_);show wpAny _ A.in1 (tryCatch (DD (.ref It0)) _ >>= _) _ _ s;refine aw (DC (W.item (j+1) s _ _ lt hs λv h' tk pv Gq kept=>?_));have HQ:=kept B _ hBw hb;have Rg:T h':=hT _ _ ht λb o z1 _ e=>kept b o z1 e;show wpAny _ A.in1 (tryCatch (ym [v,v] (rT .Lt v best >>= _)) _ >>= _) _ _ _;refine aw (DC (fR (aw (cmp (j+1) (oM bt j) v best _ _ _ Rg pv hp ?_))));refine aw (fR (oI ?_));refine aw (EF (aL ?_));cases hbt:bt (j+1) (oM bt j) with
  |true=>
   simp only[if_true];refine aw ?_;refine rP HQ rfl (aw (EF ?_));rw[nm];refine aL ⟨jb jf _,ih (j+1) _ v _ @c lt (W.frame _ _ _ Gq λb z o e=>?_) (hT _ _ Rg λb o _ z2 e=>?_) (by simp only[oM,hbt,if_true];exact pv) (gk _ HQ rfl) λv' h'' PM pv' kk=>?_⟩
   .exact(cV _ _ (λz':B=b=>hB (by rw[z'];exact z))).trans e
   .exact(cV _ _ (eB z2)).trans e
   .exact hR v' h'' PM pv' λb o z1 z2 e=>kk b o z1 z2 ((cV _ _ (eB z2)).trans (kept b o z1 e))
  |false=>
   simp only[aj,if_false];refine aw (EF ?_);rw[nm];refine aL ⟨jb jf _,ih (j+1) _ best cc @c lt Gq Rg (by simp only[oM,hbt,aj,if_false];exact hp) HQ λv' h'' PM pv' kk=>?_⟩;exact hR v' h'' PM pv' λb o z1 z2 e=>kk b o z1 z2 (kept b o z1 e)
end
theorem Hx{prog:bR}{w:World}{A:dD}{E:@J}{s:aE}{x:Value}{Q:@J}
  (h:wpAny @R A.in1 (K5 x) (λit jX=>∃(I:Addr) (fq wr:@aI) (n:Nat) (P:Nat->Value->Prop) (Sx:Nat->@bW) (bt:Nat->@bG) (T:@bW),it=.ref I/\Walks prog w A.in1 I fq wr n P Sx/\Sx 0 jX.heap/\(∀b∈fq,b<jX.heap.objs.size)/\0<n/\T jX.heap/\(∀(h h':Heap) (B:Addr),jX.heap.objs.size<=B->T h->(∀b o,b∉wr->b≠B->@bD->@an=@j)->T h') /\
   (∀i j x y s (Q:@J) (E:@J),T s.heap->P i x->P j y->Q (.bool (bt i j)) s->wpAny @R A.in1 (rT .Lt x y) Q E s) /\
   ∀v h' tk,P (oM bt (n-1)) v->(∀b o,b∉wr->jX.heap.get? b=@j->@an=@j)->Q v {jX with heap:=h',toks:=tk}) E s):
  wpAny @R A (call (.builtin "min") [x]) Q E s:=by
 have nm:(toString "min"++toString ".loop":String)="min.loop":=@f
 refine call_function_tree F.kind_min F.plain_min F.entry_min (F.args_min1 _) ?_;show wpAny _ A.in1 (yh "min" ["key","default"] 0 ⟨[],[]⟩ >>= _) _ _ s;refine aw (Pl (show yh "min" ["key","default"] 0 ⟨[],[]⟩=pure [none,none] from rfl) ?_);refine aw (aL ?_);refine aw (oK h (λit jX Ki=>?_) λ_ _ e=>e);obtain⟨I,fq,wr,n,P,Sx,bt,T,rfl,W,Fq,hfp,hn,ht,hT,cmp,hQ⟩:=Ki;refine aw (gm ?_);have Ws:jX.heap.objs.size∉fq:=λz=>eU _ (hfp _ z);have hSw:jX.heap.objs.size∉wr:=λz=>Ws (W.sub _ z);rw[nm];generalize hh:jX.heap.push {cls:=@Z,data:=.seq ([]:@C).toArray}=hp;have hb:hp.get? jX.heap.objs.size=some {cls:=@Z,dict:=none,data:=.seq #[] 0,slots:=#[]}:=by rw[<-hh];exact a8 _ rfl
 have old:∀b o,jX.heap.get? b=@j->hp.get? b=@j:=λb o e=>by rw[<-hh];exact aG _ e
 have st0:Sx 0 hp:=W.frame _ _ _ Fq λb _ o e=>old b o e;have ht0:T hp:=hT _ _ _ @X ht λb o _ _ e=>old b o e;refine aL ⟨jb jf _,?_⟩;refine gX Jk ?_;rw[fN jf _];show wpAny _ A.in1 (seqItems? (.ref jX.heap.objs.size) >>= _) _ _ _;refine aw (oV hb rfl ?_);show wpAny _ A.in1 (tryCatch (DD (.ref I)) _ >>= _) _ _ _;refine aw (DC (W.item 0 _ _ _ hn st0 λv h' tk pv Gq kept=>?_));have HQ:=kept _ _ hSw hb;show wpAny _ A.in1 (updateSeq jX.heap.objs.size (λ_=>#[v,v]) >>= _) _ _ _;refine aw ?_;refine rP HQ rfl ?_;rw[nm];refine aL ⟨jb jf _,X6 W bt T _ Ws (λh h'=>hT h h' _ @X) cmp _ 0 _ v _ rfl hn (W.frame _ _ _ Gq λb z o e=>?_) (hT _ _ _ @X (hT _ _ _ @X ht0 λb o z1 _ e=>kept b o z1 e) λb o _ z2 e=>?_) pv (gk _ HQ rfl) λv' h'' PM pv' kk=>?_⟩
 .exact(cV _ _ (λz':jX.heap.objs.size=b=>Ws (by rw[z'];exact z))).trans e
 .exact(cV _ _ (eB z2)).trans e
 .refine hQ v' h'' PM pv' λb o z1 e=>?_;have nb:b≠jX.heap.objs.size:=br (aQ e);exact kk b o z1 nb ((cV _ _ (eB nb)).trans (kept b o z1 (old b o e)))
theorem Iz{α:Type}(lt:α->α->Bool)(l)(a)(f:Nat->α)(hf:∀i,i<l.length+1->f i=(a::l).getD i a):
  f (oM (λi j=>lt (f i) (f j)) l.length)=l.foldl (λm x=>if lt x m=true then x else m) a:=by
 have key:∀k,k<=l.length->f (oM (λi j=>lt (f i) (f j)) k)=(l.take k).foldl (λm x=>if lt x m=true then x else m) a:=by
  intro k;induction k with
  |zero=>intro _;rw[oM,hf 0 @c];rfl
  | succ k ih=>
   intro hk;have ih':=ih @c;rw[C1 @c,mL,<-ih'];have e:f (k+1)=l[k]:=by
    rw[hf (k+1) @c,bc];simp[show k<l.length by lia]
   show f (if lt (f (k+1)) (f (oM _ k))=true then k+1 else oM _ k)=(if lt l[k] _=true then l[k] else _);rw[<-e];split<;>rfl
 rw[key l.length @X,Gj]
theorem OB (hc:@bk) (hu:X.A.units + 64<cLine):kY X (.builtin "min") Iq := by
  ext A;unfold Iq at q;split at q
  . rename_i x
    obtain⟨v, rfl, r⟩ := rd.one;obtain⟨u,rfl,ru⟩ := rx.one;have main:∀{α:Type} (zs:@s) (a:α) (enc:α -> D) (lt:α -> α -> Bool) (T:Heap -> Prop),@cw=some ((a::zs).map enc) -> T s.heap -> (∀(h h':Heap) (B:Addr),s.heap.objs.size<=B -> T h -> (∀b o,b<s.heap.objs.size -> b≠B -> @bD -> @an=@j) -> T h') ->
        (∀y z vy vz uy uz (s':aE) (Q':Value -> aE -> Prop) (E':Value -> aE -> Prop),T s'.heap -> cX X.K H vy (enc y) -> RelV vy uy -> cX X.K H vz (enc z) -> RelV vz uz -> Q' (.bool (lt y z)) s' -> wpAny @q X.A.in1 (rT .Lt uy uz) Q' E' s') ->
        Q (enc (zs.foldl (λm x=> if lt x m=true then x else m) a)) G -> wpAny @q X.A (call (.builtin "min") [u]) @bK X.xe s := by
      intro α zs a enc lt T hi ht hT cmp hq;obtain⟨l,vs,bz,rfl,rv,rs,hl,hz⟩ := vK I ab ru r hi;have hlen:bz.length=zs.length + 1 := by rw[<-rv.length,rs.length,ag,af]
      have iV:∀{o:Obj},@cZ=@j -> l≠s.heap.objs.size := λe=> br (aQ e);have at_:∀i uu,bz.toArray[i]?=some uu -> ∃vv,RelV vv uu/\cX X.K H vv (enc ((a::zs).getD i a)) := λi uu e=> by
        have e':bz[i]?=some uu := by simpa using e
        have zD:@c0 := (List.getElem?_eq_some_iff.mp e').1;have hd:((a::zs).map enc)[i]?=some (enc ((a::zs).getD i a)) := by
          rw[aZ,bc];cases h9:(a::zs)[i]? with
          |none=> rw[List.getElem?_eq_none_iff] at h9;simp at h9;lia
          |some z=> rfl
        obtain⟨vv,h1,h2⟩ := rs.get hd;obtain⟨uu',h3,h4⟩ := rv.get h1;rw[e'] at h3;cases h3;exact⟨vv,h4,h2⟩
      have abL:∀i j p9 q9 s' (Q':Value -> aE -> Prop) (E':Value -> aE -> Prop),T s'.heap -> bz.toArray[i]?=some p9 -> bz.toArray[j]?=some q9 -> Q' (.bool (lt ((a::zs).getD i a) ((a::zs).getD j a))) s' -> wpAny @q X.A.in1 (rT .Lt p9 q9) Q' E' s' := λi j p9 q9 s' Q' E' t' h1 h2 h3=> by
        obtain⟨v1,r1,d1⟩ := at_ i p9 h1;obtain⟨v2,r2,d2⟩ := at_ j q9 h2;exact cmp _ _ v1 v2 p9 q9 s' Q' E' t' d1 r1 d2 r2 h3
      have fin:∀vv h' tk,bz.toArray[oM (λi j=> lt ((a::zs).getD i a) ((a::zs).getD j a)) (bz.toArray.size-1)]?=some vv -> (∀b o,b∉[s.heap.objs.size] -> @au=@j -> @an=@j) -> rg X pins σ H G Q vv {s with heap := h',toks := tk} := λvv h' tk e hk=> by
        obtain⟨v1,r1,d1⟩ := at_ _ vv e;have es:bz.toArray.size-1=zs.length := by rw[aW];lia
        rw[es,Iz lt zs a (λi=> (a::zs).getD i a) (λi _=> rfl)] at d1;exact⟨v1,H,_,G,I.kept λb o e=> hk b o (by simpa using br (aQ e)) e,@ay,r1,d1,hq⟩
      have Rl:0<bz.toArray.size := by rw[aW];lia
      have hTp:∀(oo:Obj),T (s.heap.push oo) := λoo=> hT _ _ (s.heap.objs.size + 1) (vp _) ht λb o hb _ e=> aG _ e;have hT2:∀(oo:Obj) (h h':Heap) (B:Addr),(s.heap.push oo).objs.size<=B -> T h -> (∀b o,b∉[s.heap.objs.size] -> b≠B -> @bD -> @an=@j) -> T h' := λoo h h' B hB t kk=> hT h h' B (by rw[dE] at hB;exact Nat.le_of_succ_le hB) t λb o hb hn e=> kk b o (by simpa using br hb) hn e;rcases hl with hl |hl
      . refine Hx (ky hl ?_)
        obtain⟨o,ho,xp,n,hd⟩ := id hl;exact⟨s.heap.objs.size,_,_,_,_,_,_,T,rfl,CZ (A := X.A.in1) @dz _ l (iV ho) bz.toArray,⟨@c5,⟨o,aG _ ho,xp,n,hd⟩⟩,
          fun b hb => by rcases(@cs:b=s.heap.objs.size\/b=l) with rfl |rfl
                         . rw[dE];exact fQ _
                         . rw[dE];exact iK (aQ ho),Rl,hTp _,hT2 _,abL,λvv h' tk e hk=> fin vv h' tk e λb o hb e=> hk b o hb (aG _ e)⟩
      . refine Hx (uS hl ?_)
        obtain⟨o,ho,xp,n,hd⟩ := id hl;exact⟨s.heap.objs.size,_,_,_,_,_,_,T,rfl,Tf (A := X.A.in1) @dz _ l (iV ho) bz.toArray,⟨@c5,⟨o,aG _ ho,xp,n,hd⟩⟩,
          fun b hb => by rcases(@cs:b=s.heap.objs.size\/b=l) with rfl |rfl
                         . rw[dE];exact fQ _
                         . rw[dE];exact iK (aQ ho),Rl,hTp _,hT2 _,abL,λvv h' tk e hk=> fin vv h' tk e λb o hb e=> hk b o hb (aG _ e)⟩
    rcases q with ⟨ns,mm,hi,hm,q⟩ |⟨nss,mm,hi,hm,q⟩
    . cases ns with
      |nil=> cases hm
      | cons a zs=>
        cases hm;have e:(λm x:Int=> if x<m then x else m)=λm x=> if decide (x<m)=true then x else m := by funext m x;simp
        rw[e] at q;refine main zs a D.int (λx y=> decide (x<y)) (λ_=> True) hi trivial (λ_ _ _ _ _ _=> trivial) (λy z vy vz uy uz s' Q' E' _ d1 r1 d2 r2 hq=> ?_) q;cases d1;cases d2;obtain⟨t1,rfl⟩ := r1;obtain⟨t2,rfl⟩ := r2;exact HT.BG X.A.in1 s' y t1 z t2 X.prog X.w E' Q' hq
    . cases nss with
      |nil=> cases hm
      | cons a zs=>
        cases hm;have el:∀xs ys:@u,HT.lexLt xs ys=K2.lexLt xs ys := by
          intro xs;induction xs with
          |nil=> intro ys;cases ys<;>rfl
          | cons x xs ih=> intro ys;cases ys with
            |nil=> rfl
            |cons y ys=> unfold HT.lexLt K2.lexLt;rw[ih]
        refine main zs a tI K2.lexLt (λh=> ∀b o,b<s.heap.objs.size -> @au=@j -> @bD) hi (λb o _ e=> e) (λh h' B hB t kk b o hb e=> kk b o hb (br (bY hb hB)) (t b o hb e)) (λy z vy vz uy uz s' Q' E' t' d1 r1 d2 r2 hq=> ?_) q;cases d1 with
        | tup h1 rs1=>
          cases d2 with
          | tup h2 V1=>
            cases r1;cases r2;have z1 := rs1.ints;have z2 := V1.ints;subst z1 z2;obtain⟨Q6,Zv,⟨o1,ho1,hc1,n1,hd1⟩,_⟩ := I.tuple (.of h1);obtain⟨uQ,Ng,⟨o2,Ea,Fu,n2,hd2⟩,_⟩ := I.tuple (.of h2);have p1:IsTup s'.heap _ Q6.toArray := ⟨o1,t' _ _ (aQ ho1) ho1,hc1,n1,hd1⟩;have p2:IsTup s'.heap _ uQ.toArray := ⟨o2,t' _ _ (aQ Ea) Ea,Fu,n2,hd2⟩;rw[<-el] at hq;have i1:kF Q6.toArray.toList y := intsAre_of Zv;have i2:kF uQ.toArray.toList z := intsAre_of Ng;exact(HT.BR p1 p2 i1 i2 (show X.A.units + 1<cLine by lia) hq:wpAny @q X.A.in1 (fU .Lt _ _) Q' E' s')
  . exact q.elim
noncomputable def adz(scope sc:Scope):List (Str×uV):=scope.names.map λ(n,k)=>if(k == .free&&sc.kind == .function&&sc.names.lookup n == @a2) then(n,.cell) else(n,k)
def uF(N:@D)(scope:Scope)(m:Nat)(fr:@aE)(sc:Scope)(XN:@D):Bool :=
 scope.names.all (λy=>decide (y.2≠.cell))&&decide (scope.kind=.function)&&scope.names.all (λy=>!decide (y.2=.local)||decide (scope.names.lookup y.1=@bB)) &&
 scope.names.all (λy=>!decide (y.2=.free)||decide (sc.names.lookup y.1=@a2))&&decide (N.length=m+fr.length) &&
 (cR fr.length).all (λj=>match fr[j]?,N[m+j]? with
  |some i,some x=>decide (XN[i]?=@ak)&&decide (@cG=@a2)&&decide ((adz scope sc).lookup x=@a2)
  |_,_=>false)
theorem Et(hsc:X.env.scope=sc)(hXN:X.N=XN)(hb:uF N scope m fr sc XN=true):CK X N scope m fr:=by
 subst hsc hXN;unfold uF at hb;simp only[aP] at hb;obtain⟨⟨⟨⟨⟨h1,h2⟩,h3⟩,h4⟩,h5⟩,h6⟩:=hb;refine⟨λy hy=>of_decide_eq_true (List.all_eq_true.mp h1 y hy),of_decide_eq_true h2,λy hy hl=>?_,λy hy hl=>?_,of_decide_eq_true h5,λj i x e1 e2=>?_⟩
 .have:=List.all_eq_true.mp h3 y hy;simp only[hl,decide_true,bI,CP] at this;exact of_decide_eq_true this
 .have:=List.all_eq_true.mp h4 y hy;simp only[hl,decide_true,bI,CP] at this;exact of_decide_eq_true this
 .have hj:j<fr.length:=(List.getElem?_eq_some_iff.mp e1).1;have:=List.all_eq_true.mp h6 j (List.mem_range.mpr hj);rw[e1,e2] at this;simp only[aP] at this;exact⟨of_decide_eq_true this.1.1,of_decide_eq_true this.1.2,of_decide_eq_true this.2⟩
theorem Qx(N)(hi:IB X tg iter wi)(hg:∀C s H fp,CW @cm tg g)(Rt:∀C s H fp,VO @cm ifs c)(he:∀C s H fp,eS @cm elt te)
  (hsc:autoParam (X.env.scope=sc) Ar._auto_1) (hXN:autoParam (X.N=XN) Ar._auto_1) (hb:autoParam (uF N scope m fr sc XN=true) Ak._auto_1) (hc:autoParam (@bk) Ar._auto_1) (hs:autoParam (@dv) Ai._auto_1):eS X @cL (eC m fr wi g c te) :=
 NB hc (Et hsc hXN hb) hi hg Rt he hs
theorem Qh(N)(hN:X.N.Nodup)(hyi:X.N[i]?=some y)(hy:X.env.scope.names.lookup y=@bB)(hi:IB X tg iter wi)(hg:∀C s H fp,CW @cm tg g)
  (Rt:∀C s H fp,VO @cm ifs c) (he:∀C s H fp,eS @cm elt te) (hsc:autoParam (X.env.scope=sc) Ar._auto_1) (hXN:autoParam (X.N=XN) Ar._auto_1) (hb:autoParam (uF N scope m fr sc XN=true) Ak._auto_1) (hc:autoParam (@bk) Ar._auto_1)
  (hsw:autoParam (rQ @cL (some (@b4)) GY.line X.env=pure true) Ar._auto_1) (hs:autoParam (@dv) Ai._auto_1):
  yY X (.Assign [@b4] @cL GY) (bx (eC m fr wi g c te) (aI i)) :=
 Hm hN hyi hy hc (Et hsc hXN hb) hi hg Rt he hsw hs
theorem NZ{K:ay}{ns:@u}(hO:VP H)(hS:qZ K H a @cV)(hl:ns.length<=63):mx K DN [@ar] H (λv _=>v=.bl true) λ_ _ _=>False:=by
 have hF:ZR K H a @cV:=by
  rcases hS with(h |⟨o,h⟩) |h
  .rcases hO a with z |⟨o,xs,z⟩
   .rw[z] at h;cases h
   .rw[z] at h;cases h
  .exact .inl ⟨o,h⟩
  .exact .inr h
 refine⟨[.dg (@bg)],λ_=>none,λd _=>d=.bl true,.cons (.dg hF (bu.LS ns)) .nil,λa g e=>(by cases e),⟨ns,rfl,hl,λ_=>rfl,λ_=>rfl⟩,λd G' v H' e mv r=>?_⟩;subst e;cases r;rfl
theorem QY{l:EI}{q:bR}{loose:@D}{XP:(@aU)->@bW}{YP:World->@bW}{d:DefRec}{K:j4->ay}{k:Nat}{x:Str}(hn:l.most=some 63)(hdf:d.params.defaults=[])(hr:jj k Jc)
  (hY:∀(w:World) (h:Heap),YP w h->(@cO).In h)
  (F:∀(w:World) (mg:@aU) (fa:Addr) (h:Heap),(@cO).In h->h.Ns bJ mg->mg d.name=some (.ref fa) ->
   ∃fd:dQ,(∀(s:aE) (u:Value),BindsTo s fd ⟨[u],[]⟩ [(x,u)])/\∀base:Heap,(@cO).In base->base.Ns bJ mg->rG l.prog w (@cO) mg base yb k fa fd [x] (mx (@cO) DN)):
  PySem.W.WalkO q loose XP YP l.row.toRowW d [] (λf vs=>K8 f vs) :=
 L2.Tz (n:=63) (k:=k) (x:=x) (CX:=λ_=>yb) (sp:=λw=>mx (@cO) DN) hn @r hdf hr hY F (λ_ _ _ _ hl hO hS=>NZ hO hS hl) λ_ _ _ _ _ z=>z
end
noncomputable def Sj:HO->Bool
 |.lst _=>true
 |.dK _=>true
 |.dT _=>true
 |.ext _=>true
 |_=>false
def pU(h:Heap)(S:Addr->Bool)(H:Hp):Hp:=λa=>match H a with
 |some u=>if(Sj u&&S a)=true then(match @aO with
  |some o=>some (.nY o u)
  |none=>@T) else @T
 |none=>none
section
variable {h:Heap} {S:Addr->Bool} {H:Hp} {a:Addr}
theorem Kr(n:∀u,H a=@T->Sj u=false):pU h S H a=H a:=by
 unfold pU;cases e:H a with
 |none=>rfl
 |some u=>simp only[n u e,Lj,aj,if_false]
theorem Ca(hs:S a=false):pU h S H a=H a:=by
 unfold pU;cases e:H a with
 |none=>rfl
 |some u=>simp only[hs,Ll,aj,if_false]
theorem xu{u:HO}{o:Obj}(hs:S a=true)(e:H a=@T)(hu:Sj u=true)(ho:@aO=@j):pU h S H a=some (.nY o u):=by
 unfold pU;simp only[e,hs,hu,Bool.and_self,if_true,ho]
theorem pT(e:H a=none):pU h S H a=none:=by unfold pU;rw[e]
theorem mG{u:HO}(e:H a=@T)(hu:Sj u=false):pU h S H a=@T:=by rw[Kr (λv z=>by rw[e] at z;cases z;exact hu)];exact e
theorem uo:Kp H (pU h S H):=⟨λa xs e=>mG e rfl,λa o u e=>mG e rfl⟩
end
section
variable {X:Cx} {pins:@v} {σ:L2.St} {H:Hp} {s:aE} {G:Gp}
theorem Inv.freeze(I:@m)(S):Inv X pins σ (pU s.heap S H) s where
  ok := I.ok
  os := I.os
  bare := I.bare
  base := { keep := I.base.keep,slot := I.base.slot,there := I.base.there
            free := λb o q n hx=> pT (I.base.free b o q n hx)
            C4 := λb xs q=> mG (I.base.C4 b xs q) rfl
            B9 := λb o u q=> mG (I.base.B9 b o u q) rfl
            C6 := λb ps q=> mG (I.base.C6 b ps q) rfl
            Dh := λb x q=> mG (I.base.Dh b x q) rfl}
  loc := I.loc
  cell := I.cell
  free := pT I.free
  qX := λx c e=> pT (I.qX x c e)
  pin := λp hp=> let ⟨h1,h2,h3⟩ := I.pin p hp;⟨h1,pT h2,h3⟩
  dS := fun a o q=> by
    have st:∀u,H a=@T -> iD X.prog X.w (pU s.heap S H) s.heap a u := λu e=>
      (I.dS a u e).oP (λb v _ r=> r) (λb r=> mG r rfl) (λb xs r=> mG r rfl)
    cases e:H a with
    |none=> rw[pT e] at q;cases q
    | some u=>
      by_cases hc:Sj u=true
      · by_cases hs:S a=true
        . obtain⟨ob,ho⟩ := mT (I.dS a _ e)
          rw[xu hs e hc ho] at q;cases q;exact⟨ho,st _ e⟩
        . rw[Ca (by simpa using hs),e] at q
          cases q;exact st _ e
      . rw[mG e (by simpa using hc)] at q
        cases q;exact st _ e
  len := I.len
noncomputable def pz(R:@bG)(G:Gp):Addr->Bool:=λa=>R a&&(G a).isSome
theorem Ef(I:@m)(ab:@be)(R):Mv X.K H G (pU s.heap (pz R G) H) (Dq R G) where
 keep:=λa o e n=>by
  refine⟨by rw[Ca (by simp[pz,n])];exact e,?_⟩;unfold Dq;split
  .rfl
  .exact n
 oP:=λa n=>by
  cases q:G a with
  |none=>exact absurd q n
  | some g=>
   have t:=(ab a g q).tracked;cases e:H a with
   |none=>exact absurd e t
   |some u=>
    unfold pU;rw[e];ext e;split
    .split<;>simp
    .simp
 ab:=λa g e=>by
  unfold Dq at e;split at e
  .cases e
  .rename_i hr;exact(ab a g e).mono uo (Ca (by simp[pz,hr]))
theorem RM(I:@m)(ab:@be):∀{d t:D} {v:V},Fz G R d t->cX X.K H v d->cX X.K (pU s.heap (pz R G) H) v t:=by
 intro d t v h;revert v;refine Fz.rec (motive_1:=λd t _=>∀{v:V},cX X.K H v d->cX X.K (pU s.heap (pz R G) H) v t)
  (motive_2:=λds ts _=>∀{vs:@z},bu X.K H vs ds->bu X.K (pU s.heap (pz R G) H) vs ts)
  (motive_3:=λds ts _=>(∀{vs:@cn},rO X.K H vs ds->rO X.K (pU s.heap (pz R G) H) vs ts)/\∀{vs:@co},tX X.K H vs ds->tX X.K (pU s.heap (pz R G) H) vs ts)
  ?_ ?_ ?_ ?_ ?_ ?_ ?_ ?_ ?_ ?_ h
 .intro d v r;exact r.mono uo
 .intro ds ss _ ih v r;cases r with
  |tup h rs=>exact .tup (uo.tup _ _ h) (ih rs)
 .intro ds ss _ ih v r;cases r with
  |dg h rs=>exact .dg (uo.W9 h) (ih rs)
 .intro a ds ss g hr _ ih v r;cases r;obtain⟨vs,hv,rs⟩:=ab a _ g;obtain⟨ob,ho⟩:=mT (I.dS a _ hv);exact .dg (.inl ⟨_,xu (by simp[pz,hr,g]) hv rfl ho⟩) (ih rs)
 .intro a ds ss g hr _ ih v r;cases r;rcases ab a _ g with ⟨kv,hv,rs⟩ |⟨kv,hv,rs⟩
  .obtain⟨ob,ho⟩:=mT (I.dS a _ hv);exact .vG (xu (by simp[pz,hr,g]) hv rfl ho) (ih.1 rs)
  .obtain⟨ob,ho⟩:=mT (I.dS a _ hv);exact .vF (xu (by simp[pz,hr,g]) hv rfl ho) (ih.2 rs)
 .intro a bB Wg g hr _ ek ih v r;cases r;obtain⟨xs,ks,vs,hv,rel,r1,r2⟩:=ab a _ g;obtain⟨ob,ho⟩:=mT (I.dS a _ hv);have e2:(Wg.map λp=>plD p.1)=bB.map λp=>plD p.1:=by
   have:=congrArg (lM plD) ek;rw[cP,cP] at this;exact this.symm
  exact .E5 (xu (by simp[pz,hr,g]) hv rfl ho) ⟨ek.symm.trans rel.1,rel.2⟩ (by rw[e2];exact r1.mono uo) (ih r2)
 .intro vs r;cases r;ext f
 .intro d s ds ss _ _ i1 i2 vs r;cases r with
  |cons r rs=>exact .cons (i1 r) (i2 rs)
 .exact⟨λr=>by cases r;ext f,λr=>by cases r;ext f⟩
 .intro k d s ds ss _ _ i1 i2;exact⟨λr=>by cases r with |cons r rs=>exact .cons (i1 r) (i2.1 rs),λr=>by cases r with |cons r rs=>exact .cons (i1 r) (i2.2 rs)⟩
variable {e:Expr} {te:gE} {st:Stmt} {t:fZ}
theorem XE(he:eS X e te):eS X e (cG te):=by
 ext i;refine gT (he E pins s σ H τ G _ hE I h) ?_;rintro u s1 ⟨v,H1,d,G1,I1,m,r,rd,R,t,hf,q⟩;exact⟨v,_,t,_,Inv.freeze I1 _,m.trans (Ef I1 m.ab R),r,RM I1 m.ab hf rd,q⟩
theorem Um(h1:yY X st t):yY X st (Sb i t):=by
 ext t;refine gT (h1 E pins s σ H τ G _ hE I h) λf s1 z=>?_;cases f with
 | next=>
  obtain⟨jT,H',rm,G',I',m,q⟩:=z;simp only at q;split at q
  .rename_i d hd;obtain⟨R,t,hf,q⟩:=q;obtain⟨v,hv,rv⟩:=I'.st.at' i d hd;have a1:=(I'.st.mono (H':=pU s1.heap (pz R G') H') uo).set i (RM I'.inv I'.ab hf rv);have es:jT.set i (@Q)=jT:=by
    have hi:i<jT.length:=(List.getElem?_eq_some_iff.mp hv).1;have e2:=(List.getElem?_eq_some_iff.mp hv).2;rw[<-e2];exact yf hi
   rw[es] at a1;have m2:=Ef I'.inv I'.ab R;exact⟨jT,_,_,_,⟨Inv.freeze I'.inv _,a1,m2.ab⟩,m.trans m2,q⟩
  ext k
 |ret v=>exact z
 |brk=>exact z
 |cont=>exact z
end
theorem Ze:c8 "len"=some (.builtin "len"):=@al
theorem Zc:c8 "min"=some (.builtin "min"):=@al
theorem Zd:c8 "max"=some (.builtin "max"):=@al
theorem Zb:c8 "sum"=some (.builtin "sum"):=@al
theorem Zg:c8 "all"=some (.builtin "all"):=@al
theorem yU:c8 "sorted"=some (.builtin "sorted"):=@al
theorem MD:c8 "list"=some (@Z):=@al
theorem Zf:c8 "int"=some (.type "int"):=@al
theorem VG:c8 "bool"=some (.type "bool"):=@al
end K2
end
section
namespace L2
open PySem PySem.Spec PyProof.Rows
section
variable {X:Cx} {pins:@v} {σ:St} {H:Hp} {s:aE} {h':Heap}
theorem Inv.AG{fp:@aI}(I:@m)(hf:∀b∈fp,qc X pins H b)(k:∀b o,b∉fp->@au=@j->@an=@j):Inv X pins σ H {s with heap:=h',toks:=t'}:=by
 have nt:∀b u,H b=@T->b∉fp:=λb u e z=>by rw[(hf b z).1] at e;cases e
 refine I.step (g':=s.gens) (d':=s.drawn) (ch:=fp) (λb hb=>?_) (λb o _ _ hc e _=>k b o hc e) (λb o _ _ hc e _=>⟨o.slots,k b o hc e⟩) (λ_ _ _ _ n=>n)
  (λb o hc e=>⟨o,k b o hc e⟩) (λ_ _ e=>e) (λ_ _ _ e=>e) (λ_ _ e=>e) (λ_ _ e=>e) (λm hm=>?_) (λb u e=>?_) I.bare
 .obtain⟨f0,f1,f2,f3,f4,f5⟩:=hf b hb;exact⟨f3,f1,f4,f5⟩
 .obtain⟨o,es,ep,ho,r⟩:=hm;exact⟨o,es,ep,k _ _ (λz=>(hf _ z).2.1 rfl) ho,r⟩
 .refine(I.dS b u e).oP (λc v hc r=>k c v ?_ r) (λ_ z=>z) (λ_ _ z=>z);rcases hc with rfl |hc
  .exact nt _ _ e
  .exact nt _ _ hc
theorem Inv.Lp{fp:@aI}(I:@m)(hf:∀b∈fp,qc X pins H b)(k:∀b o,b∉fp->@au=@j->@an=@j)(hT:s.heap.objs.size<=T)
  (new:iD X.prog X.w (upd H T (.tup vs)) h' T (.tup vs)):Inv X pins σ (upd H T (.tup vs)) {s with heap:=h',toks:=t'}:=by
 have hn:H T=none:=I.dS.fresh hT;have ht:∀b o,@au=@j->b≠T:=λb o e z=>by subst z;exact absurd (aQ e) (Nat.not_lt.mpr hT)
 have nt:∀b u,H b=@T->b∉fp:=λb u e z=>by rw[(hf b z).1] at e;cases e
 have ne:∀b u,H b=@T->b≠T:=λb u e=>e8 e hn;refine I.step (g':=s.gens) (d':=s.drawn) (ch:=fp) (λb hb=>?_) (λb o _ _ hc e _=>k b o hc e) (λb o _ _ hc e _=>⟨o.slots,k b o hc e⟩) (λb o _ e n=>by rw[ck (ht b o e)];exact n)
  (λb o hc e=>⟨o,k b o hc e⟩) (λb xs e=>by rw[ck (ne _ _ e)];exact e) (λb o u e=>by rw[ck (ne _ _ e)];exact e) (λb ps e=>by rw[ck (ne _ _ e)];exact e) (λb ps e=>by rw[ck (ne _ _ e)];exact e) (λm hm=>?_) (λb u e=>?_) I.bare
 .obtain⟨f0,f1,f2,f3,f4,f5⟩:=hf b hb;exact⟨f3,f1,f4,f5⟩
 .obtain⟨o,es,ep,ho,r⟩:=hm;exact⟨o,es,ep,k _ _ (λz=>(hf _ z).2.1 rfl) ho,r⟩
 .by_cases hb:b=T
  .subst hb;rw[dq] at e;cases e;exact new
  .rw[ck hb] at e;refine(I.dS b u e).oP (λc v hc r=>k c v ?_ r) (λc z=>by rw[ck (ne _ _ z)];exact z) (λc xs z=>by rw[ck (ne _ _ z)];exact z);rcases hc with rfl |hc
   .exact nt _ _ e
   .exact nt _ _ hc
theorem qc.upd(h:qc X pins H b)(hb:b≠T):qc X pins (L2.upd H T o) b:=by
 obtain⟨f0,r⟩:=h;exact⟨by rw[ck hb];exact f0,r⟩
end
def Ite(K:ay)(a:Addr):It :=
  ⟨λi H=>∃xs x,qZ K H a xs/\xs[i]?=@ak,
   λi H v H'=>∃T y,v=.ref T/\H T=none/\H'=upd H T (.tup [@M,y])/\∀xs,qZ K H a xs->xs[i]?=some y,
   λi H=>∃xs,qZ K H a xs/\xs.length<=i⟩
theorem MY{K:ay}(a e it)(iV:e≠it):
  Turn P w K (.Tuple elts kk pos) (Ite K a) [e,it] e (λi h=>(∃old,IsEnum h e it i old)/\h.IsListIter it a i) where
 mem:=@L
 obj:=λi h Vi b hb=>by
  obtain⟨⟨old,he⟩,hit⟩:=Vi;rcases List.mem_cons.mp hb with rfl |hb
  .exact⟨_,he,λv z=>by cases z⟩
  .have e:b=it:=@cs
   subst e;obtain⟨o,e,c,d⟩:=hit;exact⟨o,e,λv z=>by rw[d] at z;cases z⟩
 keep:=(by rintro i h h' ⟨⟨old,he⟩,hit⟩ k;exact⟨⟨old,k e @i _ he⟩,hit.at λo q=>k it @i o q⟩)
 item:=by
  ext y;obtain⟨⟨old,he⟩,hit⟩:=st;subst hP hw hK;obtain⟨xs,x,hq,hx⟩:=hg;obtain⟨bz,rv,p,hz⟩:=I.list hq;obtain⟨u,hu,ru⟩:=rv.get hx;have hTn:H s.heap.objs.size=none:=@c9;have heT:e≠s.heap.objs.size:=br (aQ he);have hiT:it≠s.heap.objs.size:=by obtain⟨o,q,_⟩:=hit;exact br (aQ q)
  refine wpAny_pyNext_enum_item he hit p.isList (x:=u) (by simpa using hu) iV λh' ho aeN hT hsz kk=>?_;refine⟨_,rfl,?_⟩;have I1:Inv X pins σ (upd H s.heap.objs.size (.tup [@M,x])) {s with heap:=h',toks:=s.toks+1} :=
   I.Lp (fp:=[e,it]) hf (λb o hb q=>kk b o (λz=>hb (by simp[z])) (λz=>hb (by simp[z])) q) @X
    ⟨by show 2<=bw;decide,[.int i s.toks,u],.cons @S (.cons ru .nil),⟨_,hT,rfl,_,rfl⟩⟩
  refine wpAny_letOwnedTupleGo_enum (s:={s with heap:=h',toks:=s.toks+1}) ho λh2 he2 CU=>?_;have f1:∀b∈[e,it],qc X pins (upd H s.heap.objs.size (.tup [@M,x])) b:=λb hb=>(hf b hb).upd (by
   rcases List.mem_cons.mp hb with rfl |hb
   .exact heT
   .rw[List.mem_singleton.mp hb];exact hiT)
  have I2:Inv X pins σ (upd H s.heap.objs.size (.tup [@M,x])) {s with heap:=h2,toks:=s.toks+1} :=
   Inv.AG (s:={s with heap:=h',toks:=s.toks+1}) (t':=s.toks+1) (fp:=[e,it]) I1 f1 λb o hb q=>(CU.2 b (λz=>hb (by simp[z]))).trans q
  refine⟨@bf,_,I2,rfl,⟨_,x,rfl,hTn,rfl,λys hy=>by rw[I.xc hy hq];exact hx⟩,⟨⟨u,?_⟩,?_⟩,λb hb=>(f1 b hb).1⟩
  .simpa using he2
  .exact aeN.at λo q=>(CU.2 it (eB iV)).trans q
 done:=by
  ext y;obtain⟨⟨old,he⟩,hit⟩:=st;subst hP hw hK;obtain⟨xs,hq,hx⟩:=hg;obtain⟨bz,rv,p,hz⟩:=I.list hq;have hl:=rv.length;refine wpAny_pyNext_enum_end (I.ok.hd hc) he hit p.isList (by simp;lia) λh' eb=>⟨rfl,?_⟩;exact I.AG (t':=s.toks) (fp:=[e,it]) hf λb o hb q=>eb b o (λz=>hb (by simp[z])) q
 self:=(by rintro A i s Q E ⟨⟨old,he⟩,_⟩ h;exact wpAny_pyIter_enum he h)
end L2
namespace K2
open PySem PySem.Spec PyProof.Rows L2
section
variable {X:Cx} {elts:@aX} {kk:Nat} {PL:Pos} {a b:Expr} {ta tb:gE} {pos p:Pos}
theorem Mi{pins:@v}{σ:L2.St}{H H1:Hp}{G G1:Gp}{s1:aE}{l:Addr}{vs:@z}{ds:@e}{ok:@E}{R:@bT}(I1:Inv X pins σ H1 s1)(m:@c8)(hq:qZ X.K H1 l vs)
  (hk:∀H2 G2,Kp H1 H2->mX X.K H2 G2->ok G2->∃ws,qZ X.K H2 l ws/\bu X.K H2 ws ds) (q:R (kE 0 ds) ok G1):
  wpAny @q X.A (call (.type "enumerate") [@aC]) (λv s2=>wpAny @q X.A (K5 v) (OL X pins σ (.Tuple elts kk PL) H G R) X.xe s2) X.xe s1:=by
 obtain⟨bz,rv,pl,hz⟩:=I1.list hq;refine call_enumerate_list pl.isList λh' he hit hsz kp=>?_;refine wpAny_pyIter_enum he ?_;refine⟨_,[s1.heap.objs.size+1,s1.heap.objs.size],_,_,H1,G1,kE 0 ds,ok,rfl,I1.kept (t':=s1.toks) kp,m,MY l _ _ (Nat.succ_ne_self _),⟨⟨_,he⟩,hit⟩,λb hb=>?_,λi H2 G2 k ab o=>?_,q⟩
 .have HQ:s1.heap.objs.size<=b:=by
   rcases List.mem_cons.mp hb with rfl |hb
   .lia
   .rw[List.mem_singleton.mp hb];exact aR _
  exact I1.Om HQ (I1.dS.fresh HQ)
 .obtain⟨ws,hw,rd⟩:=hk H2 G2 k ab o;refine⟨λd hd=>?_,λhl=>⟨ws,hw,by rw[rd.length,<-Ej ds 0];exact hl⟩⟩;rw[Ek] at hd;cases hdi:ds[i]? with
  |none=>rw[hdi] at hd;cases hd
  |some d'=>
   rw[hdi] at hd;obtain⟨v,hv,r⟩:=rd.get hdi;refine⟨⟨ws,v,hw,hv⟩,?_⟩;rintro x H3 ⟨T,y,ex,hT,e3,hy⟩;subst ex e3;have:=hy ws hw;rw[hv] at this;cases this;have ed:D.tup [.int ((0+i:Nat):Int),d']=d:=by simpa using hd
   subst ed;refine⟨.tup dq (.cons (by rw[jJ];exact @P) (.cons (r.mono (.new hT)) .nil)),.Mb ab hT⟩
theorem FW:c8 "enumerate"=some (.type "enumerate"):=@al
theorem Za:c8 "zip"=some (.type "zip"):=@al
theorem Qp (hg:Gl X "enumerate") (hm:X.mg "enumerate"=none) (ha:@bh) (hs:autoParam (bF [a] X.env=[(false,@c1)]) Ar._auto_1):IB X (.Tuple elts kk PL) (.Call (.Name "enumerate" p) [a] [] pos) (B8 ta):=by
 intro E pins s σ H τ G R hE I h;have hA:zO X [a] (ah ta aH):=sY ha AQ hs;refine Call_ (nC I.inv hg hm FW (dW (Bo hA pos hE I (R:=adO λx G1=>xl x G1 R) h λvs H1 ds G1 us s1 I1 m1 r1 jH q1=>?_) hs rfl))
 match ds,q1 with
 | [x],q1=>
  change xl x G1 R at q1;obtain⟨w,rfl,JH⟩:=jH.one;obtain⟨u,rfl,ru⟩:=r1.one;cases JH with
  |dg hq rs=>cases ru;exact Mi I1.inv m1 hq.sq (λH2 G2 k ab _=>⟨_,(k.W9 hq).sq,rs.mono k⟩) q1
  |ref p=>
   cases ru;unfold xl at q1;dsimp only at q1;split at q1
   .rename_i ds e;obtain⟨vs,hv,rs⟩:=I1.ab.lst e;refine Mi I1.inv m1 (.of hv) (λH2 G2 k ab o=>?_) q1;obtain⟨ws,hw,vE⟩:=ab.lst o;exact⟨ws,.of hw,vE⟩
   .exact q1.elim
  |tup _ _=>ext j
  |vG _ _=>ext j
  |vF _ _=>ext j
  |cY=>ext j
  |bl _=>ext j
  |int _=>ext j
  |str _=>ext j
  |exc _=>ext j
  |Ie _ _=>ext j
  |E5 _ _ _ _=>ext j
 |[],q1=>ext j
 |_::_::_,q1=>ext j
end
end K2
end
section
namespace K2
open PySem PySem.Spec PyProof.Rows L2
section
variable {X:Cx} {o i a b:Expr} {to ti ta tb:gE} {pos p:Pos}
theorem Uy(hu:@ce)(ho:eS X o to)(hi:eS X i ti)
  (ha:autoParam (∀v,Gy (.Subscript o i pos) X.env v=(do
   let ov ← ym [v] (eval o X.env)
   let iv ← ym [v,ov] (eval i X.env)
   standAt pos
   ym [v,ov,iv] (setItem ov iv v)
   release [v,ov,iv] [])) Ai._auto_1):CW X (.Subscript o i pos) (pR to ti):=by
 intro E pins s σ H τ G w d u Q hE I r rd h;rw[ha];refine aw (fR (kG ho hE I h λx H1 dx G1 ov s1 I1 m1 r1 jH q1=>?_));refine aw (fR (kG hi hE I1 q1 λy H2 dy G2 iv s2 lY m2 r2 De q2=>?_));refine aw (wpAny_standAt (aw (fR ?_)));have m12:=@cE;have V5:=rd.mono (m12.kp I.ab);have Gq:=I.st.mono (m12.kp I.ab);have rx':=jH.mono (m2.kp I1.ab);unfold zh at q2;split at q2
 .rename_i l;cases rx';cases r1;split at q2
  .rename_i xs hg;obtain⟨vs,hv,rs⟩:=lY.ab.lst hg;split at q2
   .rename_i k;cases De;split at q2
    .rename_i j hj;have m3:Mv X.K H2 G2 (upd H2 l (.lst (vs.set j w))) (cJ G2 l (.lst (xs.set j d))):=.putL lY.ab hg hv (rs.set V5 j);refine gT (set_list pins s2 σ H2 (@aC) (.int k) w _ _ _ (λH3=>H3=upd H2 l (.lst (vs.set j w))) lY.inv rfl r2 r ⟨l,vs,k,j,rfl,rfl,hv,?_,rfl⟩) ?_
     .rw[rs.length];exact hj
     .rintro _ s3 ⟨H3,I3,e3⟩;subst e3;exact wpAny_release ⟨σ,_,τ,_,⟨I3,Gq.mono (m3.kp lY.ab),m3.ab⟩,m12.trans m3,q2⟩
    .exact q2.elim
   .exact q2.elim
  .rename_i bB hg;obtain⟨hk,hz,q⟩:=q2;obtain⟨H3,H4,I3,dp,m3⟩:=R9 lY.inv lY.ab hg hk hz De V5;exact Ow @c I3 dp r2 r λs4 I4=>wpAny_release ⟨σ,H4,τ,_,⟨I4,Gq.mono (m3.kp lY.ab),m3.ab⟩,m12.trans m3,q⟩
  .exact q2.elim
 .exact q2.elim
end
end K2
end
section
namespace L2
open PySem PySem.Spec PyProof.Rows
theorem wu(I:@m)(hq:qZ X.K H l xs)(hf:qc X pins H b):l≠b:=by
 ext d;obtain⟨f0,f1,f2,f3,f4,f5⟩:=hf;rcases hq with(h |⟨o,h⟩) |⟨o,bz,n,h,_⟩
 .rw[f0] at h;cases h
 .rw[f0] at h;cases h
 .have hb:=I.ok.mod.Vc _ _ h;rcases f3 with f3 |f3
  .exact I.ok.NJ _ _ hb f3
  .exact absurd (aQ (I.ok.bs _ _ hb).1) (Nat.not_lt.mpr f3)
def Itz(K:ay)(a b:Addr):It :=
  ⟨λi H=>∃xs x ys y,qZ K H a xs/\xs[i]?=@ak/\qZ K H b ys/\ys[i]?=some y,
   λi H v H'=>∃T x y,v=.ref T/\H T=none/\H'=upd H T (.tup [x,y])/\(∀xs,qZ K H a xs->xs[i]?=@ak)/\∀ys,qZ K H b ys->ys[i]?=some y,
   λi H=>∃xs ys,qZ K H a xs/\qZ K H b ys/\(xs.length<=i\/ys.length<=i)⟩
structure abR(z TI TO i1 i2 a b:Addr)(i:Nat)(h:Heap):Prop where
 hz:IsZip h z TI TO .none
 hI:IsPair h TI (.ref i1) (.ref i2)
 hO:∃x y,IsPair h TO x y
 h1:h.IsListIter i1 a i
 h2:h.IsListIter i2 b i
theorem PH{K:ay}(a b z TI TO i1 i2)(nd:[z,TI,TO,i1,i2].Nodup):
  Turn P w K (.Tuple elts kk pos) (Itz K a b) [z,TI,TO,i1,i2] z (abR z TI TO i1 i2 a b) where
 mem:=@L
 obj:=λi h st c hc=>by
  simp only[bf,bH,or_false] at hc;rcases hc with rfl |rfl |rfl |rfl |rfl
  .exact⟨_,st.hz,λv q=>by cases q⟩
  .exact⟨_,st.hI,λv q=>by cases q⟩
  .obtain⟨x,y,h⟩:=st.hO;exact⟨_,h,λv q=>by cases q⟩
  .obtain⟨o,e,_,d⟩:=st.h1;exact⟨o,e,λv q=>by rw[d] at q;cases q⟩
  .obtain⟨o,e,_,d⟩:=st.h2;exact⟨o,e,λv q=>by rw[d] at q;cases q⟩
 keep:=λi h h' st k=>⟨k _ @i _ st.hz,k _ @i _ st.hI,let ⟨x,y,q⟩:=st.hO;⟨x,y,k _ @i _ q⟩,st.h1.at λo q=>k _ @i o q,st.h2.at λo q=>k _ @i o q⟩
 item:=by
  ext y;subst hP hw hK;obtain⟨xs,x,ys,y,Wj,hx,IT,hy⟩:=hg;obtain⟨Q6,Zv,p1,hz1⟩:=I.list Wj;obtain⟨uQ,Ng,p2,hz2⟩:=I.list IT;obtain⟨u1,hu1,ru1⟩:=Zv.get hx;obtain⟨u2,hu2,ru2⟩:=Ng.get hy;obtain⟨xo,yo,hO⟩:=st.hO;have ap:∀c∈[z,TI,TO,i1,i2],a≠c/\b≠c:=λc hc=>⟨wu I Wj (hf c hc),wu I IT (hf c hc)⟩;simp only[bT,bf,bH,or_false,not_or] at nd;obtain⟨⟨n1,n2,n3,n4⟩,⟨n5,n6,n7⟩,⟨n8,n9⟩,n10,_⟩:=nd;have Dz:ZipApart z TI TO i1 i2 a b:=⟨eB n1,eB n2,eB n3,eB n4,n5,n6,n7,n8,n9,n10,(ap z @i).1,(ap TO @i).1,(ap i1 @i).1,(ap i2 @i).1,(ap z @i).2,(ap TO @i).2,(ap i1 @i).2,(ap i2 @i).2⟩;have hTn:H s.heap.objs.size=none:=@c9;have inH:∀c∈[z,TI,TO,i1,i2],c≠s.heap.objs.size:=λc hc=>by
   simp only[bf,bH,or_false] at hc;rcases hc with rfl |rfl |rfl |rfl |rfl
   .exact br (aQ st.hz)
   .exact br (aQ st.hI)
   .exact br (aQ hO)
   .obtain⟨o,e,_⟩:=st.h1;exact br (aQ e)
   .obtain⟨o,e,_⟩:=st.h2;exact br (aQ e)
  refine wpAny_pyNext_zip_item Dz st.hz st.hI hO st.h1 st.h2 p1.isList p2.isList (x:=u1) (y:=u2) (by simpa using hu1) (by simpa using hu2) λh' a1 a2 a3 a4 a5 a6 a7=>?_;refine⟨_,rfl,?_⟩;have k1:∀c o,c∉[z,TI,TO,i1,i2]->s.heap.get? c=@j->h'.get? c=@j:=λc o hc q=>
   a7 c o (λe=>hc (by simp[e])) (λe=>hc (by simp[e])) (λe=>hc (by simp[e])) (λe=>hc (by simp[e])) q
  have I1:Inv X pins σ (upd H s.heap.objs.size (.tup [x,y])) @bP :=
   I.Lp (t':=s.toks) (fp:=[z,TI,TO,i1,i2]) hf k1 @X ⟨by show 2<=bw;decide,[u1,u2],.cons ru1 (.cons ru2 .nil),⟨_,a5,rfl,_,rfl⟩⟩
  refine wpAny_letOwnedTupleGo_zip (s:=@bP) a1 λh2 hz2 CU=>?_;have f1:∀c∈[z,TI,TO,i1,i2],qc X pins (upd H s.heap.objs.size (.tup [x,y])) c:=λc hc=>(hf c hc).upd (inH c hc);have I2:Inv X pins σ (upd H s.heap.objs.size (.tup [x,y])) {s with heap:=h2} :=
   Inv.AG (s:=@bP) (t':=s.toks) (fp:=[z,TI,TO,i1,i2]) I1 f1 λc o hc q=>(CU.2 c (λe=>hc (by simp[e]))).trans q
  have hI':IsPair h' TI (.ref i1) (.ref i2):=a7 TI _ (eB n1) n5 n6 n7 st.hI;refine⟨@bf,_,I2,rfl,⟨_,x,y,rfl,hTn,rfl,λzs hs=>by rw[I.xc hs Wj];exact hx,λzs hs=>by rw[I.xc hs IT];exact hy⟩,⟨hz2,?_,⟨u1,u2,?_⟩,?_,?_⟩,λc hc=>(f1 c hc).1⟩
  .exact(CU.2 TI (eB n1)).trans hI'
  .exact(CU.2 TO (eB n2)).trans a2
  .exact a3.at λo q=>(CU.2 i1 (eB n3)).trans q
  .exact a4.at λo q=>(CU.2 i2 (eB n4)).trans q
 done:=by
  ext y;subst hP hw hK;obtain⟨xs,ys,Wj,IT,hx⟩:=hg;obtain⟨Q6,Zv,p1,hz1⟩:=I.list Wj;obtain⟨uQ,Ng,p2,hz2⟩:=I.list IT;have Ma:=Zv.length;have Pa:=Ng.length;obtain⟨xo,yo,hO⟩:=st.hO;have ap:∀c∈[z,TI,TO,i1,i2],a≠c/\b≠c:=λc hc=>⟨wu I Wj (hf c hc),wu I IT (hf c hc)⟩;simp only[bT,bf,bH,or_false,not_or] at nd;obtain⟨⟨n1,n2,n3,n4⟩,⟨n5,n6,n7⟩,⟨n8,n9⟩,n10,_⟩:=nd;have Dz:ZipApart z TI TO i1 i2 a b:=⟨eB n1,eB n2,eB n3,eB n4,n5,n6,n7,n8,n9,n10,(ap z @i).1,(ap TO @i).1,(ap i1 @i).1,(ap i2 @i).1,(ap z @i).2,(ap TO @i).2,(ap i1 @i).2,(ap i2 @i).2⟩;refine wpAny_pyNext_zip_end (I.ok.hd hc) Dz st.hz st.hI hO st.h1 st.h2 p1.isList p2.isList (by
   rcases hx with hx |hx
   .left;simp;lia
   .right;simp;lia) λh' k1=>⟨rfl,?_⟩
  exact I.AG (t':=s.toks) (fp:=[z,TI,TO,i1,i2]) hf λc o hc q=>k1 c o (λe=>hc (by simp[e])) (λe=>hc (by simp[e])) (λe=>hc (by simp[e])) (λe=>hc (by simp[e])) q
 self:=λA i s Q E st h=>wpAny_pyIter_zip st.hz h
end L2
namespace K2
open PySem PySem.Spec PyProof.Rows L2
section
variable {X:Cx} {elts:@aX} {kk:Nat} {PL:Pos} {a b:Expr} {ta tb:gE} {pos p:Pos}
theorem HD(I:@m)(ab:@be)(rx:@bx)(rd:cX X.K H x d)(hi:BV d G=some (ds,ok)):
  ∃l vs,v=@aC/\qZ X.K H l vs/\bu X.K H vs ds/\∀H2 G2,Kp H H2->mX X.K H2 G2->ok G2->∃ws,qZ X.K H2 l ws/\bu X.K H2 ws ds:=by
 cases rd with
 |dg hq rs=>cases hi;cases rx;exact⟨_,_,rfl,hq.sq,rs,λH2 G2 k ab _=>⟨_,(k.W9 hq).sq,rs.mono k⟩⟩
 | ref l=>
  unfold BV at hi;dsimp only at hi;cases hg:G l with
  |none=>rw[hg] at hi;cases hi
  | some gg=>
   rw[hg] at hi;cases gg with
   |lst zs=>
    cases hi;cases rx;ext w;refine⟨_,_,rfl,.of hv,rs,λH2 G2 k ab o=>?_⟩;obtain⟨ws,hw,vE⟩:=ab.lst o;exact⟨ws,.of hw,vE⟩
   |ins _ _=>cases hi
   |KG _=>cases hi
   |kU _=>cases hi
 |_=>cases hi
theorem Uv (hg:Gl X "zip") (hm:X.mg "zip"=none) (ha:@bh) (hb:eS X b tb) (hs:autoParam (bF [a,b] X.env=[(false,@c1),(false,eval b X.env)]) Ar._auto_1) (CU:autoParam (bF [b] X.env=[(false,eval b X.env)]) Ar._auto_1):
  IB X (.Tuple elts kk PL) (.Call (.Name "zip" p) [a,b] [] pos) (Rc ta tb):=by
 intro E pins s σ H τ G R hE I h;have hA:zO X [a,b] (ah ta (ah tb aH)):=sY ha (sY hb AQ CU) (by rw[hs,CU]);refine Call_ (nC I.inv hg hm Za (dW (Bo hA pos hE I (R:=adN λx y G1=>B7 x y G1 R) h λvs H1 ds G1 us s1 I1 m1 r1 jH q1=>?_) (by rw[hs,CU]) (by rw[CU];rfl)))
 match ds,q1 with
 | [x,y],q1=>
  change B7 x y G1 R at q1;obtain⟨w1,w2,rfl,JH,rw2⟩:=jH.two;obtain⟨u1,u2,rfl,ru1,ru2⟩:=vals2 r1;unfold B7 at q1;split at q1
  .rename_i xs k1 ys k2 e1 e2;obtain⟨l1,v1,rfl,Wj,rs1,st1⟩:=HD I1.inv I1.ab ru1 JH e1;obtain⟨l2,v2,rfl,IT,V1,S1⟩:=HD I1.inv I1.ab ru2 rw2 e2;obtain⟨Q6,Zv,pl1,_⟩:=I1.inv.list Wj;obtain⟨uQ,Ng,pl2,_⟩:=I1.inv.list IT;refine call_zip_2 pl1.isList pl2.isList λh' z1 z2 z3 z4 z5 z6 z7=>?_;refine wpAny_pyIter_zip z1 ?_;refine⟨_,[s1.heap.objs.size+4,s1.heap.objs.size+2,s1.heap.objs.size+3,s1.heap.objs.size,s1.heap.objs.size+1],_,_,H1,G1,uN xs ys,_,rfl,I1.inv.kept (t':=s1.toks) z7,m1,
    PH l1 l2 _ _ _ _ _ @i,⟨z1,z2,⟨_,_,z3⟩,z4,z5⟩,λc hc=>?_,λi H2 G2 k ab o=>?_,q1⟩
   .have Wo:s1.heap.objs.size<=c:=by
     simp only[bf,bH,or_false] at hc;rcases hc with rfl |rfl |rfl |rfl |rfl
     .exact hV _ _
     .exact hV _ _
     .exact hV _ _
     .exact aR _
     .exact hV _ _
    exact I1.inv.Om Wo (I1.inv.dS.fresh Wo)
   .obtain⟨ws1,hw1,jH⟩:=st1 H2 G2 k ab o.1;obtain⟨ws2,hw2,De⟩:=S1 H2 G2 k ab o.2;refine⟨λd hd=>?_,λhl=>⟨ws1,ws2,hw1,hw2,?_⟩⟩
    .rw[GG] at hd;cases hx:xs[i]? with
     |none=>rw[hx] at hd;cases hd
     | some x'=>
      cases hy:ys[i]? with
      |none=>rw[hx,hy] at hd;cases hd
      |some y'=>
       rw[hx,hy] at hd;have ed:D.tup [x',y']=d:=by simpa using hd
       subst ed;obtain⟨vx,hvx,rx⟩:=jH.get hx;obtain⟨vy,hvy,ry⟩:=De.get hy;refine⟨⟨ws1,vx,ws2,vy,hw1,hvx,hw2,hvy⟩,?_⟩;rintro v H3 ⟨T,px,py,ex,hT,e3,hx3,hy3⟩;subst ex e3;have q1:=hx3 ws1 hw1;have q2:=hy3 ws2 hw2;rw[hvx] at q1;rw[hvy] at q2;cases q1;cases q2;exact⟨.tup dq (.cons (rx.mono (.new hT)) (.cons (ry.mono (.new hT)) .nil)),.Mb ab hT⟩
    .rw[GF] at hl;rw[jH.length,De.length];lia
  .exact q1.elim
 |[],q1=>ext j
 |[_],q1=>ext j
 |_::_::_::_,q1=>ext j
end
end K2
end
section
namespace K2
open PySem PySem.W PyProof.Rows
noncomputable def iL(lt:Nat->@bG):KasT α->α
 |.ret a=>a
 |.ask i j k=>iL lt (k (lt i j))
theorem mR(lt)(f:α->KasT β):∀t:KasT α,iL lt (t.bind f)=iL lt (f (iL lt t))
 |.ret _=>rfl
 |.ask i j k=>mR lt f (k (lt i j))
noncomputable abbrev gA(p:@bO)(k:Nat):Nat:=p.getD k 0
theorem Ed(p)(k):gA p k=(p[k]?).getD 0:=by
 unfold gA;rw[bo]
structure MJ(lt:Nat->@bG):Prop where
 asymm:∀i j,lt i j=true->lt j i=false
 trans:∀i j k,lt j i=false->lt k j=false->lt k i=false
theorem MJ.refl(w:MJ lt)(i):lt i i=false:=by
 cases h:lt i i with
 |false=>rfl
 |true=>rw[w.asymm _ _ h] at h;cases h
def Up(lt:Nat->@bG)(p:@bO)(m:Nat):Prop:=∀i j,i<=j->j<m->lt (gA p j) (gA p i)=false
def Dn(lt:Nat->@bG)(p:@bO)(m:Nat):Prop:=∀i j,i<=j->j<m->lt (gA p i) (gA p j)=false
section
variable {lt:Nat->@bG}
theorem Up.more(w:MJ lt)(h1:1<=n)(h:Up lt p n)(hs:∀k,n<=k->k<m->lt (gA p k) (gA p (k-1))=false):Up lt p m:=by
 intro i j Dk hjm;induction j with
 |zero=>
  have:i=0:=@d
  ext c;exact w.refl _
 | succ j ih=>
  by_cases hj:j+1<n
  .exact h i (j+1) Dk hj
  .by_cases e:i=j+1
   .subst e;exact w.refl _
   .have h1:=ih @c @c;have h2:=hs (j+1) @c hjm;exact w.trans _ _ _ h1 h2
theorem LD(p):∀(f n:Nat),n<=iL lt (rV p f n)/\iL lt (rV p f n)<=n+f/\(∀k,n<=k->k<iL lt (rV p f n)->lt (gA p k) (gA p (k-1))=false) /\
  (iL lt (rV p f n)<n+f->lt (gA p (iL lt (rV p f n))) (gA p (iL lt (rV p f n)-1))=true):=by
 intro f;induction f with
 |zero=>intro n;exact⟨aR _,aR _,λk h1 h2=>absurd (show k<n from h2) @c,λh=>absurd (show n<n+0 from h) @c⟩
 | succ f ih=>
  intro n;have e:iL lt (rV p (f+1) n)=if lt (gA p n) @bH=true then n else iL lt (rV p f (n+1)):=by
   show iL lt (if lt (gA p n) @bH=true then yt n else rV p f (n+1))=_;split<;>rfl
  rw[e];by_cases c:lt (gA p n) @bH=true
  .rw[if_pos c];exact⟨aR _,@d,λk h1 h2=>absurd h2 @c,λ_=>c⟩
  .rw[if_neg c];obtain⟨h1,h2,h3,h4⟩:=ih (n+1);refine⟨@d,@d,λk k1 k2=>?_,λh=>h4 @c⟩;by_cases e:k=n
   .subst e;simpa using c
   .exact h3 k @c k2
theorem iH(hj:j<=p.size)(k):gA (gW p i j) k=if i<=k/\k<j then gA p (i+j-1-k) else gA p k:=by
 rw[Ed,gW,getElem?_mirror_all hj];split<;>rw[Ed]
theorem ni(p)(i j):(gW p i j).size=p.size:=mirror_size _ _ _ _
theorem ke(p)(i j):(gW p i j).Perm p:=mirror_perm _ _ _ _
theorem Dn.rev(w:MJ lt)(hn:n<=p.size)(h:Dn lt p n)(he:∀k,a<=k->k<n->lt @bH (gA p k)=false):Dn lt (gW p a n) n:=by
 intro i j Dk hjn;rw[iH hn,iH hn];by_cases hi:a<=i
 .rw[if_pos ⟨hi,@d⟩,if_pos ⟨@d,hjn⟩];exact w.trans _ _ _ (he (a+n-1-j) @c @c) (h (a+n-1-i) (n-1) @c @c)
 .rw[if_neg @c];by_cases hj:a<=j
  .rw[if_pos ⟨hj,hjn⟩];exact h i (a+n-1-j) @c @c
  .rw[if_neg @c];exact h i j Dk hjn
def Eqs(lt:Nat->@bG)(p:@bO)(n q:Nat):Prop:=q+1<=n/\∀k,n-(q+1)<=k->k<n->lt @bH (gA p k)=false
theorem Dn.one(w:MJ lt)(h1:1<=n)(h:Dn lt p n)(hc:lt @bH (gA p n)=false):Dn lt p (n+1):=by
 intro i j Dk hj;by_cases e:j=n
 .subst e;by_cases e2:i=j
  .subst e2;exact w.refl _
  .exact w.trans _ _ _ hc (h i (j-1) @c @c)
 .exact h i j Dk @c
theorem P6(w:MJ lt):∀(f:Nat) (p:@bO) (n q:Nat),n+f<=p.size->Dn lt p n->Eqs lt p n q->∃p' n' q',iL lt (lJ f p n q)=(p',n',q')/\p'.Perm p/\p'.size=p.size/\n<=n'/\n'<=n+f/\Dn lt p' n'/\Eqs lt p' n' q':=by
 intro f;induction f with
 |zero=>intro p n q _ hd he;exact⟨p,n,q,rfl,nR _,rfl,aR _,aR _,hd,he⟩
 | succ f ih=>
  intro p n q hs hd he;have h1:1<=n:=by have:=he.1;lia
  have e:iL lt (lJ (f+1) p n q)=if lt (gA p n) @bH=true then(if q>0 then iL lt (lJ f (gW p (n-(q+1)) n) (n+1) 0) else iL lt (lJ f p (n+1) 0))
    else if lt @bH (gA p n)=true then(p,n,q) else iL lt (lJ f p (n+1) (q+1)):=by
   show iL lt (if lt (gA p n) @bH=true then(if q>0 then lJ f (gW p (n-(q+1)) n) (n+1) 0 else lJ f p (n+1) 0) else .ask @bH (gA p n) λd=>if d=true then .ret (p,n,q) else lJ f p (n+1) (q+1))=_;split
   .split<;>rfl
   .show iL lt (if lt @bH (gA p n)=true then yt (p,n,q) else lJ f p (n+1) (q+1))=_;split<;>rfl
  rw[e];by_cases c:lt (gA p n) @bH=true
  .rw [if_pos c];have ca:=w.asymm _ _ c;by_cases hq:q>0
   .rw[if_pos hq];have d1:Dn lt (gW p (n-(q+1)) n) n:=hd.rev w @c he.2;have en:gA (gW p (n-(q+1)) n) n=gA p n:=by rw[iH @c,if_neg @c]
    have ca':lt (gA (gW p (n-(q+1)) n) (n-1)) (gA (gW p (n-(q+1)) n) n)=false:=by
     rw[en,iH @c];split
     .-- an item of the acn is above p n
      exact w.trans _ _ _ ca (hd _ (n-1) @c @c)
     .exact ca
    obtain⟨p',n',q',z,h2,h3,h4,h5,h6,h7⟩:=ih (gW p (n-(q+1)) n) (n+1) 0 (by rw[ni];lia) (d1.one w h1 ca') ⟨@d,λk k1 k2=>by
     have:k=n:=@d
     ext c;exact w.refl _⟩
    exact⟨p',n',q',z,h2.trans (ke _ _ _),h3.trans (ni _ _ _),@d,@d,h6,h7⟩
   .rw[if_neg hq];obtain⟨p',n',q',z,h2,h3,h4,h5,h6,h7⟩:=ih p (n+1) 0 @c (hd.one w h1 ca) ⟨@d,λk k1 k2=>by
     have:k=n:=@d
     ext c;exact w.refl _⟩
    exact⟨p',n',q',z,h2,h3,@d,@d,h6,h7⟩
  .rw[if_neg c];have c':lt (gA p n) @bH=false:=by simpa using c
   by_cases d:lt @bH (gA p n)=true
   .rw[if_pos d];exact⟨p,n,q,rfl,nR _,rfl,aR _,@d,hd,he⟩
   .rw[if_neg d];have d':lt @bH (gA p n)=false:=by simpa using d
    obtain⟨p',n',q',z,h2,h3,h4,h5,h6,h7⟩:=ih p (n+1) (q+1) @c (hd.one w h1 d') ⟨by have:=he.1;lia,λk k1 k2=>by
     rw[Nat.add_sub_cancel];by_cases e:k=n
     .subst e;exact w.refl _
     .exact w.trans _ _ _ (he.2 k @c @c) c'⟩
    exact⟨p',n',q',z,h2,h3,@d,@d,h6,h7⟩
theorem Dn.up(hn:n<=p.size)(h:Dn lt p n):Up lt (gW p 0 n) n:=by
 intro i j Dk hjn;rw[iH hn,iH hn,if_pos ⟨@d,hjn⟩,if_pos ⟨@d,@d⟩];exact h _ _ @c @c
theorem Hd(w:MJ lt)(h1:1<=n)(hn:n<=nrem)(hs:nrem<=p.size)(h:Dn lt p n):∃p' m,iL lt (Pn n nrem p)=(m,p')/\p'.Perm p/\p'.size=p.size/\n<=m/\m<=nrem/\Up lt p' m:=by
 obtain⟨a1,a2,a3,_⟩:=LD (lt:=lt) (gW p 0 n) (nrem-n) n;refine⟨gW p 0 n,iL lt (rV (gW p 0 n) (nrem-n) n),by rw[Pn,mR];rfl,ke _ _ _,ni _ _ _,a1,@d,?_⟩;exact(h.up @c).more w h1 a3
theorem wD(w:MJ lt)(h1:1<=n)(hn:n<nrem)(hs:nrem<=p.size)(h:Dn lt p n)(hc:lt @bH (gA p n)=false):
  ∃p' m,iL lt (Bi n nrem p)=(m,p')/\p'.Perm p/\p'.size=p.size/\n<=m/\m<=nrem/\Up lt p' m:=by
 obtain⟨p1,n1,q1,z,z2,z3,z4,z5,z6,z7⟩:=P6 w (nrem-(n+1)) p (n+1) 0 @c (h.one w h1 hc) ⟨@d,λk k1 k2=>by
  have:k=n:=@d
  ext c;exact w.refl _⟩
 rw[Bi,mR,z];show ∃p' m,iL lt (if q1>0 then Pn n1 nrem (gW p1 (n1-(q1+1)) n1) else Pn n1 nrem p1)=(m,p')/\_;by_cases hq:q1>0
 .rw[if_pos hq];obtain⟨p',m,y1,y2,y3,y4,y5,y6⟩:=Hd (nrem:=nrem) w (p:=gW p1 (n1-(q1+1)) n1) @c @c (by rw[ni];lia) (z6.rev w @c z7.2);exact⟨p',m,y1,(y2.trans (ke _ _ _)).trans z2,(y3.trans (ni _ _ _)).trans z3,@d,y5,y6⟩
 .rw[if_neg hq];obtain⟨p',m,y1,y2,y3,y4,y5,y6⟩:=Hd (nrem:=nrem) w (p:=p1) @c @c @c z6;exact⟨p',m,y1,y2.trans z2,y3.trans z3,@d,y5,y6⟩
theorem Ni(w:MJ lt)(h1:1<=nrem)(hs:nrem<=p.size):∃p' m,iL lt (kas_count nrem p)=(m,p')/\p'.Perm p/\p'.size=p.size/\1<=m/\m<=nrem/\Up lt p' m:=by
 obtain⟨a1,a2,a3,a4⟩:=LD (lt:=lt) p (nrem-1) 1;rw[kas_count,mR];generalize iL lt (rV p (nrem-1) 1)=n at a1 a2 a3 a4;have u1:Up lt p 1:=λi j Dk hj=>by
  have:i=j:=@d
  ext c;exact w.refl _
 have up:Up lt p n:=u1.more w @X a3;by_cases e:n=nrem
 .subst e;rw[if_pos @i];exact⟨p,n,rfl,nR _,rfl,a1,aR _,up⟩
 .rw [if_neg (by simpa using e)];have hb:=a4 @c;by_cases h2:n>1
  .rw[if_pos h2];show ∃p' m,iL lt (if lt (gA p 0) @bH=true then yt (n,p) else Bi n nrem (gW p 0 n))=(m,p')/\_;by_cases c:lt (gA p 0) @bH=true
   .rw[if_pos c];exact⟨p,n,rfl,nR _,rfl,a1,@d,up⟩
   .rw[if_neg c];have c':lt (gA p 0) @bH=false:=by simpa using c
    have all:∀i j,i<n->j<n->lt (gA p i) (gA p j)=false:=λi j hi hj=>
     w.trans _ _ _ (w.trans _ _ _ (up j (n-1) @c @c) c') (up 0 i @c hi)
    have d1:Dn lt (gW p 0 n) n:=λi j Dk hj=>by
     rw[iH @c,iH @c,if_pos ⟨@d,@d⟩,if_pos ⟨@d,hj⟩];exact all _ _ @c @c
    have hl:lt (gA (gW p 0 n) (n-1)) (gA (gW p 0 n) n)=false:=by
     rw[iH @c,iH @c,if_pos ⟨@d,@d⟩,if_neg @c];exact w.trans _ _ _ (w.asymm _ _ hb) (all _ _ @c @c)
    obtain⟨p',m,y1,y2,y3,y4,y5,y6⟩:=wD (nrem:=nrem) w (p:=gW p 0 n) a1 @c (by rw[ni];lia) d1 hl;exact⟨p',m,y1,y2.trans (ke _ _ _),y3.trans (ni _ _ _),@d,y5,y6⟩
  .rw[if_neg h2];have e1:n=1:=@d
   subst e1;have d1:Dn lt p 1:=λi j Dk hj=>by
    have:i=j:=@d
    ext c;exact w.refl _
   obtain⟨p',m,y1,y2,y3,y4,y5,y6⟩:=wD (nrem:=nrem) w (p:=p) @X @c hs d1 (w.asymm _ _ hb);exact⟨p',m,y1,y2,y3,@d,y5,y6⟩
theorem Nh(w:MJ lt):∀(f l r:Nat),l<=r->r<=k->r-l<=f->Up lt p k->(∀i,i<l->lt (gA p k) (gA p i)=false)->(∀i,r<=i->i<k->lt (gA p k) (gA p i)=true) ->
  ∃m,iL lt (j3 p k f l r)=m/\m<=k/\(∀i,i<m->lt (gA p k) (gA p i)=false)/\(∀i,m<=i->i<k->lt (gA p k) (gA p i)=true):=by
 intro f;induction f with
 |zero=>
  intro l r hlr hrk hf up h1 h2;have:l=r:=@d
  ext c;exact⟨l,rfl,hrk,h1,h2⟩
 | succ f ih=>
  intro l r hlr hrk hf up h1 h2;have e:iL lt (j3 p k (f+1) l r)=if l>=r then l else if lt (gA p k) (gA p ((l+r) / 2))=true then iL lt (j3 p k f l ((l+r) / 2)) else iL lt (j3 p k f ((l+r) / 2+1) r):=by
   show iL lt (if l>=r then yt l else .ask (gA p k) (gA p ((l+r) / 2)) λc=>if c=true then j3 p k f l ((l+r) / 2) else j3 p k f ((l+r) / 2+1) r)=_;split
   .rfl
   .show iL lt (if lt (gA p k) (gA p ((l+r) / 2))=true then j3 p k f l ((l+r) / 2) else j3 p k f ((l+r) / 2+1) r)=_;split<;>rfl
  rw[e];by_cases c:l>=r
  .rw[if_pos c];have:l=r:=@d
   ext c;exact⟨l,rfl,hrk,h1,h2⟩
  .rw[if_neg c];by_cases d:lt (gA p k) (gA p ((l+r) / 2))=true
   .rw[if_pos d];refine ih l ((l+r) / 2) @c @c @c up h1 λi i1 i2=>?_;cases q:lt (gA p k) (gA p i) with
    |true=>rfl
    |false=>rw[w.trans _ _ _ (up ((l+r) / 2) i i1 i2) q] at d;cases d
   .rw[if_neg d];refine ih ((l+r) / 2+1) r @c hrk @c up (λi hi=>?_) h2;exact w.trans _ _ _ (up i ((l+r) / 2) @c @c) (by simpa using d)
theorem Ee(hs:src<p.size)(hd:d<=src)(k):gA (bubble p src d) k=if k=src-d then gA p src else if src-d<k/\k<=src then gA p (k-1) else gA p k:=by
 rw[Ed,getElem?_bubble hs d hd,Ed p src,Ed p (k-1),Ed p k];by_cases h1:k=src-d
 .rw[if_pos h1,if_pos h1]
 .rw[if_neg h1,if_neg h1];by_cases h2:src-d<k/\k<=src
  .rw[if_pos h2,if_pos h2]
  .rw[if_neg h2,if_neg h2]
theorem T1(w:MJ lt):∀(f:Nat) (p:@bO) (k:Nat),k+f<=p.size->Up lt p k->∃p',iL lt (kas_bin f p k)=p'/\p'.Perm p/\p'.size=p.size/\Up lt p' (k+f):=by
 intro f;induction f with
 |zero=>intro p k _ up;exact⟨p,rfl,nR _,rfl,up⟩
 | succ f ih=>
  intro p k hs up;obtain⟨m,e,hm,h1,h2⟩:=Nh w k 0 k (b9 _) @X @X up (λi hi=>absurd hi @c) (λi i1 i2=>absurd i1 @c);have up':Up lt (bubble p k (k-m)) (k+1):=by
   intro i j Dk hj;rw[Ee @c @c,Ee @c @c];have ek:k-(k-m)=m:=@d
   rw[ek];by_cases j1:j=m
   .rw[if_pos j1];by_cases i1:i=m
    .rw[if_pos i1];exact w.refl _
    .rw[if_neg i1,if_neg @c];exact h1 i @c
   .rw[if_neg j1];by_cases j2:m<j/\j<=k
    .rw[if_pos j2];by_cases i1:i=m
     .rw[if_pos i1];exact w.asymm _ _ (h2 (j-1) @c @c)
     .rw[if_neg i1];by_cases i2:m<i/\i<=k
      .rw[if_pos i2];exact up _ _ @c @c
      .rw[if_neg i2];exact up _ _ @c @c
    .rw[if_neg j2,if_neg @c,if_neg @c];exact up _ _ Dk @c
  obtain⟨p',z,z1,z2,z3⟩:=ih (bubble p k (k-m)) (k+1) (by rw[bubble_size];lia) up';refine⟨p',?_,z1.trans (bubble_perm _ _ _),z2.trans (bubble_size _ _ _),by rw[show k+(f+1)=k+1+f by lia];exact z3⟩;rw[kas_bin,mR,e];exact z
theorem He(w:MJ lt)(h1:1<=n):∃p,iL lt (kas_sort n)=p/\p.toList.Perm (cR n)/\p.size=n/\Up lt p n:=by
 obtain⟨p,m,z,z1,z2,z3,z4,z5⟩:=Ni w (p:=(cR n).toArray) h1 @i;have zs:p.size=n:=by rw[z2];simp
 have zp:p.toList.Perm (cR n):=by simpa using z1.toList
 rw[kas_sort,mR,z];show ∃q,iL lt (if m<n then kas_bin (n-max m 1) p (max m 1) else .ret p)=q/\_;by_cases c:m<n
 .rw[if_pos c];have em:max m 1=m:=@d
  rw[em];obtain⟨p',y,y1,y2,y3⟩:=T1 w (n-m) p m @c z5;exact⟨p',y,(by simpa using y1.toList:p'.toList.Perm p.toList).trans zp,y2.trans zs,by rw[show n=m+(n-m) by lia];exact y3⟩
 .rw[if_neg c];have:m=n:=@d
  ext c;exact⟨p,rfl,zp,zs,z5⟩
end
end K2
end
section
namespace K2
open PySem PySem.Spec PyProof.Rows L2
open PySem.AutoSeq1 (wpAny_loadPart')
open PySem.MeetsSeq PySem.MeetsSeq2 PySem.MeetsSeq3 PySem.SeqAt
def CI(A:dD)(s:aE)(y x:Value)(b:Bool):Prop :=
 ∀(prog:bR) (w:World) (E:@J) (Q:@J),Q (.bool b) s->wpAny @R A (rT .Lt y x) Q E s
noncomputable def uP(e l:@bG)(n m:Nat):Nat->@bG
 |0,_=>decide (n<m)
 |f+1,i=>if e i=true then uP e l n m f (i+1) else l i
theorem U7(l b)(xs ys)(n m)(dd de)(sl sm)(e lt)(k):
  ∀ i:Nat,i<=@b2->@b2-i=k->Meets (Builtin.«list.__eq__.loop» ⟨[@aC,@aa,rawInt i,rawInt 0],[]⟩)
   (λA R s=>@cZ=some {cls:=@Z,dict:=dd,data:=.seq xs n,slots:=sl}/\@au=some {cls:=@Z,dict:=de,data:=.seq ys m,slots:=sm} /\
    (∀j (h1:j<xs.size) (h2:j<ys.size),EqAt A.in1 s xs[j] ys[j] (e j)/\CI A.in1 s xs[j] ys[j] (lt j)) /\
    R (.ok (.ret (.bool (uP e lt xs.size ys.size k i)))) s):=by
 induction k with
 | zero=>
  intro i hi hk prog w A R s h;obtain⟨hp,g,d,tk,os⟩:=s;obtain⟨hl,hb,he,h⟩:=h
  wp_walk using cA hl,cA hb
  by_cases c:xs.size<=ys.size
  .have h1:xs[((i:Nat):Int).toNat]?=none:=by simp;lia
   rw[h1]
   wp_walk using cA hl,cA hb
   exact h
  .have h2:ys[((i:Nat):Int).toNat]?=none:=by simp;lia
   rw[h2];cases q:xs[((i:Nat):Int).toNat]? with
   |none=>
    wp_walk using cA hl,cA hb
    exact h
   |some v=>
    wp_walk using cA hl,cA hb
    exact h
 | succ k ih=>
  intro i hi hk prog w A R s h;obtain⟨hp,g,d,tk,os⟩:=s;obtain⟨hl,hb,he,h⟩:=h
  wp_walk using cA hl,cA hb
  have l1:i<xs.size:=@d
  have l2:i<ys.size:=@d
  have h1:xs[((i:Nat):Int).toNat]?=some xs[i]:=by simp[l1]
  have h2:ys[((i:Nat):Int).toNat]?=some ys[i]:=by simp[l2]
  have hc:((i:Int)+1)=((i+1:Nat):Int):=by push_cast;rfl
  rw[h1,h2];refine aw ((he i l1 l2).1 prog w _ _ ?_);cases q:e i with
  | true=>
   rw[uP,q,if_pos rfl] at h
   wp_walk
   rw[hc];exact⟨jb plain_eq_loop _,gX entry_eq_loop (by
    rw[fN plain_eq_loop _];exact ih (i+1) @c @c prog w A R _ ⟨hl,hb,he,h⟩)⟩
  |false=>
   rw[uP,q,if_neg @i] at h
   wp_walk using cA hl,cA hb
   rw[h1,h2];have hri:=(he i l1 l2).2 prog w
   wp_walk using hri
   exact h
theorem D4(l b)(xs ys)(n m)(dd de)(sl sm)(e lt):
  Meets (Builtin.«list.__lt__» ⟨[@aC,@aa],[]⟩)
   (λA R s=>@cZ=some {cls:=@Z,dict:=dd,data:=.seq xs n,slots:=sl}/\@au=some {cls:=@Z,dict:=de,data:=.seq ys m,slots:=sm} /\
    (∀j (h1:j<xs.size) (h2:j<ys.size),EqAt A.in1 s xs[j] ys[j] (e j)/\CI A.in1 s xs[j] ys[j] (lt j)) /\
    R (.ok (.ret (.bool (uP e lt xs.size ys.size (@b2) 0)))) s):=by
 intro prog w A R s h;obtain⟨hp,g,d,tk,os⟩:=s;obtain⟨hl,hb,he,h⟩:=h;have f3:=Jl
 wp_walk using cA hl,cA hb
 exact⟨jb plain_eq_loop _,gX entry_eq_loop (by
  rw[fN plain_eq_loop _];exact U7 l b xs ys n m dd de sl sm e lt _ 0 (b9 _) rfl prog w A R _ ⟨hl,hb,he,h⟩)⟩
theorem Bn(l b)(xs ys)(n m)(dd de)(sl sm)(e lt):
  Meets (Builtin.«tuple.__lt__» ⟨[@aC,@aa],[]⟩)
   (λA R s=>@cZ=some {cls:=@ae,dict:=dd,data:=.seq xs n,slots:=sl}/\@au=some {cls:=@ae,dict:=de,data:=.seq ys m,slots:=sm} /\
    (∀j (h1:j<xs.size) (h2:j<ys.size),EqAt A.in1 s xs[j] ys[j] (e j)/\CI A.in1 s xs[j] ys[j] (lt j)) /\
    R (.ok (.ret (.bool (uP e lt xs.size ys.size (@b2) 0)))) s) :=
 .of_wp λprog w A R s h=>by
  obtain⟨hp,g,d,tk,os⟩:=s;obtain⟨hl,hb,he,h⟩:=h;have f2:=qO;have zl:(xs.toList.zip ys.toList).length=@b2:=@L
  wp_walk using cA hl,cA hb,qp _ (λrest c s'=>c.1=none/\s'=⟨hp,g,d,tk,os⟩/\∃i,i<=@b2/\rest=(xs.toList.zip ys.toList).drop i /\
   R (.ok (.ret (.bool (uP e lt xs.size ys.size (@b2-i) i)))) ⟨hp,g,d,tk,os⟩) _
  case turn=>
   rintro⟨y,x⟩ rest c s' ⟨hc,rfl,i,hi,hz,hR⟩;have il:i<@b2:=by
    have:=congrArg c7 hz;rw[cx,zl,af] at this;lia
   have l1:i<xs.size:=@d
   have l2:i<ys.size:=@d
   rw[h8 (by rw[zl];exact il)] at hz;injection hz with hyx Rk
   have ey:y=xs[i]/\x=ys[i]:=by simpa using hyx
   obtain⟨rfl,rfl⟩:=ey;obtain⟨k,ek⟩:∃k,@b2-i=k+1:=⟨@b2-i-1,@d⟩;rw[ek,uP] at hR;refine aw ((he i l1 l2).1 prog w _ _ ?_);cases q:e i with
   |true=>
    rw[q,if_pos rfl] at hR
    wp_walk
    exact⟨rfl,rfl,i+1,@d,Rk,by rw[show @b2-(i+1)=k by lia];exact hR⟩
   |false=>
    rw[q,if_neg @i] at hR;have hri:=(he i l1 l2).2 prog w
    wp_walk using hri
    exact⟨_,rfl,by simpa using hR⟩
  case fin=>
   rintro⟨c1,c2⟩ s' ⟨hc,rfl,i,hi,hz,hR⟩;simp only at hc;subst hc;have il:@b2-i=0:=by
    have:=congrArg c7 hz;rw[cx,zl,ao] at this;lia
   rw[il,uP] at hR
   wp_walk
   exact⟨_,rfl,by simpa[wb] using hR⟩
  case h=>
   exact⟨rfl,rfl,0,b9 _,rfl,@bZ⟩
theorem NQ(hl:s.heap.IsList l xs)(hb:s.heap.IsList b ys)(hu:A.units<cLine)
  (he:∀j (h1:j<xs.size) (h2:j<ys.size),EqAt A.in1 s xs[j] ys[j] (e j)/\CI A.in1 s xs[j] ys[j] (lt j)):CI A s (@aC) (@aa) (uP e lt xs.size ys.size (@b2) 0):=by
 intro prog w E Q hq;obtain⟨⟨cls,dd,data,sl⟩,ho,hc,n,hd⟩:=id hl;obtain⟨⟨Se,Mp,data2,LB⟩,Ea,Fu,n2,hd2⟩:=id hb;simp only at hc hd Fu hd2;subst hc hd Fu hd2;exact zS (op:=.Lt) ⟨_,ho,rfl⟩ ⟨_,Ea,rfl⟩ v7 MS (Ld _ _) (D4 l b xs ys n n2 dd Mp sl LB e lt)
  ⟨ho,Ea,he,(λx=>nomatch x),hq⟩ hu
theorem Kb(hl:s.heap.IsTuple l xs)(hb:s.heap.IsTuple b ys)(hu:A.units<cLine)
  (he:∀j (h1:j<xs.size) (h2:j<ys.size),EqAt A.in1 s xs[j] ys[j] (e j)/\CI A.in1 s xs[j] ys[j] (lt j)):CI A s (@aC) (@aa) (uP e lt xs.size ys.size (@b2) 0):=by
 intro prog w E Q hq;obtain⟨⟨cls,dd,data,sl⟩,ho,hc,n,hd⟩:=id hl;obtain⟨⟨Se,Mp,data2,LB⟩,Ea,Fu,n2,hd2⟩:=id hb;simp only at hc hd Fu hd2;subst hc hd Fu hd2;exact zS (op:=.Lt) ⟨_,ho,rfl⟩ ⟨_,Ea,rfl⟩ mf uJ (sf _ _) (Bn l b xs ys n n2 dd Mp sl LB e lt)
  ⟨ho,Ea,he,(λx=>nomatch x),hq⟩ hu
theorem pO(xs ys:@e):∀(k i:Nat),i<=@dK->@dK-i=k ->
  uP (λj=>iq @cA @cB) (λj=>qo @cA @cB) xs.length ys.length k i=kR (xs.drop i) (ys.drop i)
 | 0,i,hi,hk=>by
  rw[uP];by_cases c:xs.length<=ys.length
  .have e1:xs.drop i=[]:=mi @c;rw[e1];cases q:ys.drop i with
   |nil=>
    have:=congrArg c7 q;rw[cx,ao] at this;exact @dy
   |cons y r=>
    have:=congrArg c7 q;rw[cx,af] at this;exact decide_eq_true @c
  .have e1:ys.drop i=[]:=mi @c;rw[e1];cases q:xs.drop i with
   |nil=>
    have:=congrArg c7 q;rw[cx,ao] at this;exact @dy
   |cons y r=>exact @dy
 |k+1,i,hi,hk=>by
  have l1:i<xs.length:=@d
  have l2:i<ys.length:=@d
  rw[uP,h8 l1,h8 l2,nv,pO xs ys k (i+1) @c @c];have g1:xs.getD i .cY=xs[i]:=by rw[bc,az l1];rfl
  have g2:ys.getD i .cY=ys[i]:=by rw[bc,az l2];rfl
  rw[g1,g2]
theorem kg:∀{ds:@e} {vs:@C} {as:@aI},gB h vs (kN ds) as->∀j (hj:j<vs.length),∃bs,Reads h vs[j] (pd (ds.getD j .cY)) bs
 |[],vs,as,r,j,hj=>by cases r;exact absurd hj (dv _)
 |d::ds,_,_,.cons (v:=v) (vs:=vs) r1 r2,j,hj=>by
  cases j with
  |zero=>exact⟨_,r1⟩
  |succ j=>exact kg r2 j (by simpa using hj)
theorem readsAll_len:∀{ds:@e} {vs:@C} {as:@aI},gB h vs (kN ds) as->vs.length=ds.length
 |[],_,_,r=>by cases r;rfl
 |d::ds,_,_,.cons r1 r2=>by rw[af,af,readsAll_len r2]
theorem qD:∀{ds:@e},qm ds=true->∀j,nr (ds.getD j .cY)=true
 |[],_,j=>by rw[List.getD_nil];rfl
 |d::ds,h,0=>by
  have h:(nr d&&qm ds)=true:=h;rw[aP] at h;simpa using h.1
 |d::ds,h,j+1=>by
  have h:(nr d&&qm ds)=true:=h;rw[aP] at h;simpa using qD h.2 j
theorem lF:∀(ds:@e) (j:Nat),(pd (ds.getD j .cY)).depth<=b7 (kN ds)
 |[],j=>by rw[List.getD_nil];exact aR _
 |d::ds,0=>by
  show(pd d).depth<=b7 (pd d::kN ds);simp only[b7];lia
 |d::ds,j+1=>by
  have:=lF ds j;show(pd (ds.getD j .cY)).depth<=b7 (pd d::kN ds);simp only[b7];lia
theorem tw:∀{l:List kW} {ds:@e},fK l ds=true->∀j,j<ds.length->∃s∈l,di s (ds.getD j .cY)=true/\l[j]?=some s
 |[],[],_,j,hj=>absurd hj (dv _)
 |[],_::_,h,_,_=>@a8
 |_::_,[],h,_,_=>@a8
 |s::l,d::ds,h,0,_=>by
  have h:(di s d&&fK l ds)=true:=h;rw[aP] at h;exact⟨s,@L,by simpa using h.1,@L⟩
 |s::l,d::ds,h,j+1,hj=>by
  have h:(di s d&&fK l ds)=true:=h;rw[aP] at h;obtain⟨s',h1,h2,h3⟩:=tw h.2 j (by simpa using hj);exact⟨s',aC _ h1,@b0,by simpa using h3⟩
theorem tx:∀{s:kW} {ds:@e},g8 s ds=true->∀j,j<ds.length->di s (ds.getD j .cY)=true
 |s,[],_,j,hj=>absurd hj (dv _)
 |s,d::ds,h,0,_=>by
  have h:(di s d&&g8 s ds)=true:=h;rw[aP] at h;simpa using h.1
 |s,d::ds,h,j+1,hj=>by
  have h:(di s d&&g8 s ds)=true:=h;rw[aP] at h;simpa using tx h.2 j (by simpa using hj)
theorem FK{vs ws:@bL}(r1:gB s.heap vs.toList (kN xs) as)(r2:gB s.heap ws.toList (kN ys) bs)(n1:qm xs=true)(n2:qm ys=true)
  (hu:A.units+b7 (kN xs)<cLine) (j) (h1) (h2:j<ws.size):EqAt A s vs[j] ws[j] (iq @cA @cB):=by
 obtain⟨as',q1⟩:=kg r1 j (@di);obtain⟨bs',q2⟩:=kg r2 j (@b0);have m1:=qD n1 j;have m2:=qD n2 j;have dp:=lF xs j;have:=eqAt_reads (pd @cA) (pd @cB) A s _ _ _ _ q1 q2 (ji _ m1) (ji _ m2) @c;rw[tJ _ _ m1 m2] at this;ext p
theorem BU:∀(n:Nat) (sh:kW) (a b:D) (A:dD) (s:aE) (u v:Value) (as bs:@aI),(pd a).depth<=n->di sh a=true->di sh b=true->nr a=true->nr b=true->Reads s.heap u (pd a) as->Reads s.heap v (pd b) bs->A.units+n<cLine->CI A s u v (qo a b):=by
 intro n;induction n using Nat.strongRecOn with
 |_ n ih=>
 intro sh a b A s u v as bs hn h1 h2 n1 n2 r1 r2 hu;cases sh with
 |int=>
  ext m
  ext n
  cases r1;cases r2;intro prog w E Q hq;exact HT.BG A s _ _ _ _ prog w E Q hq
 | tup l=>
  ext m
  ext n
  rename_i xs ys;have n1:qm xs=true:=n1;have n2:qm ys=true:=n2;cases r1 with
  | tuple k1 k2 k3 k4=>
   cases r2 with
   | tuple m1 m2 m3 m4=>
    rename_i p o vs c p' o' ws c';have hd:(pd (.tup xs)).depth=b7 (kN xs)+1:=rfl;obtain⟨n',rfl⟩:∃n',n=n'+1:=⟨n-1,@d⟩;have z1:=readsAll_len k4;have z2:=readsAll_len m4;have e1:vs.size=xs.length:=by simpa using z1
    have e2:ws.size=ys.length:=by simpa using z2
    have base:=Kb (A:=A) (s:=s) (e:=λj=>iq @cA @cB) (lt:=λj=>qo @cA @cB) ⟨_,k1,k2,_,k3⟩ ⟨_,m1,m2,_,m3⟩ @c (λj j1 j2=>by
     refine⟨FK k4 m4 n1 n2 (by show A.units+1+_<_;lia) j j1 j2,?_⟩;obtain⟨as',q1⟩:=kg k4 j (by simpa using j1);obtain⟨bs',q2⟩:=kg m4 j (by simpa using j2);obtain⟨sj,hsj,g1,g2⟩:=tw (l:=l) (ds:=xs) h1 j @c;obtain⟨sj',aeq,g1',g2'⟩:=tw (l:=l) (ds:=ys) h2 j @c;rw[g2] at g2';cases g2';have dp:=lF xs j;have:=ih n' @c sj @cA @cB A.in1 s _ _ _ _ @c g1 g1' (qD n1 j) (qD n2 j) q1 q2 (by show A.units+1+n'<cLine;lia);ext p)
    have fin:=pO xs ys (@dK) 0 (b9 _) rfl;rw[e1,e2,fin] at base;exact base
 | lst l=>
  ext m
  ext n
  rename_i xs ys;have n1:qm xs=true:=n1;have n2:qm ys=true:=n2;cases r1 with
  | list k1 k2 k3 k4=>
   cases r2 with
   | list m1 m2 m3 m4=>
    rename_i p o vs c p' as' o' ws c' bs';have hd:(pd (.dg xs)).depth=b7 (kN xs)+1:=rfl;obtain⟨n',rfl⟩:∃n',n=n'+1:=⟨n-1,@d⟩;have z1:=readsAll_len k4;have z2:=readsAll_len m4;have e1:vs.size=xs.length:=by simpa using z1
    have e2:ws.size=ys.length:=by simpa using z2
    have base:=NQ (A:=A) (s:=s) (e:=λj=>iq @cA @cB) (lt:=λj=>qo @cA @cB) ⟨_,k1,k2,_,k3⟩ ⟨_,m1,m2,_,m3⟩ @c (λj j1 j2=>by
     refine⟨FK k4 m4 n1 n2 (by show A.units+1+_<_;lia) j j1 j2,?_⟩;obtain⟨as',q1⟩:=kg k4 j (by simpa using j1);obtain⟨bs',q2⟩:=kg m4 j (by simpa using j2);have dp:=lF xs j;have:=ih n' @c l @cA @cB A.in1 s _ _ _ _ @c (tx (s:=l) (ds:=xs) h1 j @c) (tx (s:=l) (ds:=ys) h2 j @c) (qD n1 j) (qD n2 j) q1 q2 (by show A.units+1+n'<cLine;lia);ext p)
    have fin:=pO xs ys (@dK) 0 (b9 _) rfl;rw[e1,e2,fin] at base;exact base
end K2
end
section
namespace K2
open PySem PySem.Spec PyProof.Rows L2 PySem.W
section
variable {prog:bR} {w:World} {A:dD} {E:@J} {s:aE}
theorem GZ {at':Addr} {bz:@C} {n:Nat} {P:PySem.Fin->@ag} (zZ:s.heap.get? at'=some (y9 "list" bz.toArray n)) (gJ:bz.length<2)
  (done:P (.done (.ret .none)) {s with heap:=sortedHeap s.heap at' bz bz.toArray}):wpAny @R A (Builtin.«list.sort» ⟨[.ref at'],[]⟩) P E s:=by
 rw[list_sort_plain];have lt':at'<s.heap.objs.size:=aQ zZ;refine aw (listItems_at zZ rfl (aw (listUpdate_at zZ rfl ?_)));obtain⟨c,hc⟩:∃c,(s.heap.update at' (gC λ_=>#[])).get? at'=some (y9 "list" #[] c):=⟨_,get?_update_seq zZ (λ_=>#[])⟩;refine aw (seqEpoch_at hc rfl (aw (wpAny_newTuple (aw (wpAny_newList (fR ?_))))));have h6:(((s.heap.update at' (gC λ_=>#[])).push (y9 "tuple" bz.toArray 0)).push (y9 "list" #[] 0)).get? at'=some (y9 "list" #[] c):=by
  rw[Heap.get?_push_ne _ _ _ (by rw[size_push',Gn];exact br (iK lt')),Heap.get?_push_ne _ _ _ (by rw[Gn];exact br lt')];exact hc
 show wpAny @R A _ P E {s with heap:=((s.heap.update at' (gC λ_=>#[])).push (y9 "tuple" bz.toArray 0)).push (y9 "list" #[] 0)};ext e;have sz2:bz.toArray.size<2:=by simpa using gJ
 rw[if_pos sz2,if_pos sz2];refine aw (aL ?_);rw[StateT.run_pure];refine aw (aL ?_);ext e;have es:(bz.toArray.zip bz.toArray).map (·.2)=bz.toArray:=by
  apply Array.toList_inj.mp;simp[List.map_snd_zip]
 refine aw (seqEpoch_at h6 rfl (aw (listUpdate_at h6 rfl ?_ (hsz2:=by rw[show(arrOf (SortSt.mk' general' (bz.toArray.zip bz.toArray) #[] 7 none)).map (·.2)=bz.toArray from es,cN];simp;lia))));simp only[bne_self_eq_false,aj,if_false];refine aL ?_;rw[show(arrOf (SortSt.mk' general' (bz.toArray.zip bz.toArray) #[] 7 none)).map (·.2)=bz.toArray from es];exact done
theorem Jx{l:Addr}{bz:@C}{Q:@J}(hl:@dR)(gJ:bz.length<2)
  (done:Q (.ref (@aR)) {s with heap:=sortedAll s.heap bz bz.toArray}):wpAny @R A (call (.builtin "sorted") [@aC]) Q E s:=by
 refine Calls.call_function_entry kind_sorted plain_sorted entry_sorted (args_sorted1 _) ?_;unfold Builtin.«sorted»;refine aw (m:=checkCount "sorted" 1 1 _) (aL (aw (collect_list hl (aw (wpAny_newList ?_)))));have e1:((s.heap.push (y9 "list" #[] 0)).update s.heap.objs.size (gC (·++bz.toArray))).objs.size=@aR:=by rw[Gn,size_push']
 have e2:(((s.heap.push (y9 "list" #[] 0)).update s.heap.objs.size (gC (·++bz.toArray))).push (y9 "list" bz.toArray 0)).get? (@aR)=some (y9 "list" bz.toArray 0):=by
  rw[<-e1];exact a8 _ rfl
 show wpAny _ _ _ _ _ {s with heap:=((s.heap.push (y9 "list" #[] 0)).update s.heap.objs.size (gC (·++bz.toArray))).push (y9 "list" bz.toArray 0)};rw[e1];refine aw (fR (jn slot_list_sort ⟨_,e2,rfl⟩ entry_list_sort (GZ e2 gJ ⟨_,rfl,?_⟩) (args_list_sort _)));exact aL ⟨_,rfl,done⟩
end
section
open PySem.SeqAt
def SG(A:dD)(s:aE)(y x:Value)(b:Bool):Prop :=
 ∀(prog:bR) (w:World) (E:@J) (Q:Bool->@ag),Q b s->wpAny @R A (oneLt' true y x) Q E s
theorem JV(hl:s.heap.IsList l xs)(hb:s.heap.IsList b ys)(hu:A.units<cLine)
  (he:∀j (h1:j<xs.size) (h2:j<ys.size),EqAt A.in1 s xs[j] ys[j] (e j)/\CI A.in1 s xs[j] ys[j] (lt j)):SG A s (@aC) (@aa) (uP e lt xs.size ys.size (@b2) 0):=by
 intro prog w E Q hq;obtain⟨⟨cls,dd,data,sl⟩,ho,hc,n,hd⟩:=id hl;obtain⟨⟨Se,Mp,data2,LB⟩,Ea,Fu,n2,hd2⟩:=id hb;simp only at hc hd Fu hd2;subst hc hd Fu hd2;rw[oneLt'_eq];simp only[if_true];refine aw (wpAny_cRoomFor hu (aw (K4 (T:="list") ⟨_,ho,rfl⟩ v7 ?_)));exact Jd v7 ⟨_,ho,rfl⟩ MS (Ld _ _) (D4 l b xs ys n n2 dd Mp sl LB e lt) ⟨ho,Ea,he,oI hq⟩
theorem Hr(hl:s.heap.IsTuple l xs)(hb:s.heap.IsTuple b ys)(hu:A.units<cLine)
  (he:∀j (h1:j<xs.size) (h2:j<ys.size),EqAt A.in1 s xs[j] ys[j] (e j)/\CI A.in1 s xs[j] ys[j] (lt j)):SG A s (@aC) (@aa) (uP e lt xs.size ys.size (@b2) 0):=by
 intro prog w E Q hq;obtain⟨⟨cls,dd,data,sl⟩,ho,hc,n,hd⟩:=id hl;obtain⟨⟨Se,Mp,data2,LB⟩,Ea,Fu,n2,hd2⟩:=id hb;simp only at hc hd Fu hd2;subst hc hd Fu hd2;rw[oneLt'_eq];simp only[if_true];refine aw (wpAny_cRoomFor hu (aw (K4 (T:="tuple") ⟨_,ho,rfl⟩ mf ?_)));exact Jd mf ⟨_,ho,rfl⟩ uJ (sf _ _) (Bn l b xs ys n n2 dd Mp sl LB e lt) ⟨ho,Ea,he,oI hq⟩
theorem HK{vs ws:@bL}(r1:gB s.heap vs.toList (kN xs) as)(r2:gB s.heap ws.toList (kN ys) bs)(n1:qm xs=true)(n2:qm ys=true)(hd:b7 (kN xs)<=n)
  (hu:A.units+n<cLine) (hs:∀j,j<xs.length->j<ys.length->∃sh,di sh @cA=true/\di sh @cB=true) (j) (h1) (h2:j<ws.size):
  EqAt A s vs[j] ws[j] (iq @cA @cB)/\CI A s vs[j] ws[j] (qo @cA @cB):=by
 have z1:=readsAll_len r1;have z2:=readsAll_len r2;have e1:vs.size=xs.length:=by simpa using z1
 have e2:ws.size=ys.length:=by simpa using z2
 refine⟨FK r1 r2 n1 n2 @c j h1 h2,?_⟩;obtain⟨as',q1⟩:=kg r1 j (@di);obtain⟨bs',q2⟩:=kg r2 j (@b0);obtain⟨sh,g1,g2⟩:=hs j @c @c;have dp:=lF xs j;have:=BU n sh @cA @cB A s _ _ _ _ @c g1 g2 (qD n1 j) (qD n2 j) q1 q2 hu;ext p
theorem zv(hn:(pd a).depth<=n)(h1:di sh a=true)(h2:di sh b=true)(n1:nr a=true)(n2:nr b=true)(r1:Reads s.heap u (pd a) as)(r2:Reads s.heap v (pd b) bs)
  (hu:A.units+n<cLine):SG A s u v (qo a b):=by
 cases sh with
 |int=>
  ext m
  ext n
  cases r1;cases r2;intro prog w E Q hq;exact oneLt_int hq
 | tup l=>
  ext m
  ext n
  rename_i xs ys;have n1:qm xs=true:=n1;have n2:qm ys=true:=n2;cases r1 with
  | tuple k1 k2 k3 k4=>
   cases r2 with
   | tuple m1 m2 m3 m4=>
    rename_i p o vs c p' o' ws c';have hd:(pd (.tup xs)).depth=b7 (kN xs)+1:=rfl;obtain⟨n',rfl⟩:∃n',n=n'+1:=⟨n-1,@d⟩;have z1:=readsAll_len k4;have z2:=readsAll_len m4;have e1:vs.size=xs.length:=by simpa using z1
    have e2:ws.size=ys.length:=by simpa using z2
    have base:=Hr (A:=A) (s:=s) ⟨_,k1,k2,_,k3⟩ ⟨_,m1,m2,_,m3⟩ @c (HK (A:=A.in1) (n:=n') k4 m4 n1 n2 @c (by show A.units+1+n'<cLine;lia) λj j1 j2=>by
     obtain⟨sj,hsj,g1,g2⟩:=tw (l:=l) (ds:=xs) h1 j j1;obtain⟨sj',aeq,g1',g2'⟩:=tw (l:=l) (ds:=ys) h2 j j2;rw[g2] at g2';cases g2';exact⟨sj,g1,g1'⟩)
    have fin:=pO xs ys (@dK) 0 (b9 _) rfl;rw[e1,e2,fin] at base;exact base
 | lst l=>
  ext m
  ext n
  rename_i xs ys;have n1:qm xs=true:=n1;have n2:qm ys=true:=n2;cases r1 with
  | list k1 k2 k3 k4=>
   cases r2 with
   |list m1 m2 m3 m4=>
    rename_i p o vs c p' as' o' ws c' bs';have hd:(pd (.dg xs)).depth=b7 (kN xs)+1:=rfl;obtain⟨n',rfl⟩:∃n',n=n'+1:=⟨n-1,@d⟩;have z1:=readsAll_len k4;have z2:=readsAll_len m4;have e1:vs.size=xs.length:=by simpa using z1
    have e2:ws.size=ys.length:=by simpa using z2
    have base:=JV (A:=A) (s:=s) ⟨_,k1,k2,_,k3⟩ ⟨_,m1,m2,_,m3⟩ @c (HK (A:=A.in1) (n:=n') k4 m4 n1 n2 @c (by show A.units+1+n'<cLine;lia) λj j1 j2=>⟨l,tx (s:=l) (ds:=xs) h1 j j1,tx (s:=l) (ds:=ys) h2 j j2⟩);have fin:=pO xs ys (@dK) 0 (b9 _) rfl;rw[e1,e2,fin] at base;exact base
theorem xj{prog:bR}{w:World}{A:dD}{s:aE}{b fin:Bool}{Q:Bool->@ag}{n:Nat}(hu:A.units+n<cLine):∀(l:List kW) (xs ys:@e) (vs ws:@C) (as bs:@aI) (i:Nat),fK l xs=true->fK l ys=true->qm xs=true->qm ys=true ->
  gB s.heap vs (kN xs) as->gB s.heap ws (kN ys) bs->b7 (kN xs)<=n->fin=false->Q (kR xs ys) s->KatLex prog w A b fin Q (vs.zip ws) i s:=by
 intro l xs;induction xs generalizing l with
 | nil=>
  intro ys vs ws as bs i h1 h2 n1 n2 r1 r2 hd hf hq;cases r1;cases l with
  |nil=>
   cases ys with
   |nil=>cases r2;subst hf;exact hq
   |cons _ _=>cases h2
  |cons _ _=>cases h1
 | cons x xs ih=>
  intro ys vs ws as bs i h1 h2 n1 n2 r1 r2 hd hf hq;cases l with
  |nil=>cases h1
  |cons sh l=>
  cases ys with
  |nil=>cases h2
  |cons y ys=>
  cases r1 with
  |@cons v vs _ _ _ _ a1 a2=>
  cases r2 with
  |@cons u ws _ _ _ _ b1 b2=>
  have h1:(di sh x&&fK l xs)=true:=h1;have h2:(di sh y&&fK l ys)=true:=h2;have n1:(nr x&&qm xs)=true:=n1;have n2:(nr y&&qm ys)=true:=n2;rw[aP] at h1 h2 n1 n2;have hd1:(pd x).depth<=n/\b7 (kN xs)<=n:=by
   have hd:b7 (pd x::kN xs)<=n:=hd;simp only[b7] at hd;lia
  show KatLex prog w A b fin Q ((v,u)::vs.zip ws) i s;have eq:=eqAt_reads (pd x) (pd y) A s _ _ _ _ a1 b1 (ji _ n1.1) (ji _ n2.1) @c;rw[tJ _ _ n1.1 n2.1] at eq;refine kat_cons (eq prog w _ _ ?_);rw[nv] at hq;cases q:iq x y with
  |true=>
   rw[q,if_pos rfl] at hq;exact kat_yes (ih l ys vs ws _ _ (i+1) h1.2 h2.2 n1.2 n2.2 a2 b2 hd1.2 hf hq)
  |false=>
   rw[q,if_neg @i] at hq;refine kat_no ?_;cases c:(b&&i == 0) with
   |true=>exact zv hd1.1 h1.1 h2.1 n1.1 n2.1 a1 b1 hu prog w _ Q hq
   |false=>exact kat_one v u (BU n sh x y A s _ _ _ _ hd1.1 h1.1 h2.1 n1.1 n2.1 a1 b1 hu prog w _ _ hq)
end
def lH(n:Nat)(P:α->Prop):KasT α->Prop
 |.ret a=>P a
 |.ask i j k=>i<n/\j<n/\∀b,lH n P (k b)
theorem lH.bind:∀{t:KasT α},lH n P t->(∀a,P a->lH n P' (f a))->lH n P' (t.bind f)
 |.ret a,q,h=>h a q
 |.ask i j k,⟨q1,q2,q3⟩,h=>⟨q1,q2,λb=>lH.bind (q3 b) h⟩
theorem B3{α:Type}{n:Nat}{lt:Nat->@bG}{cmp:Nat->Nat->(Bool->@ag)->@ag}{s:aE}{Q:α->@ag}(hc:∀i j,i<n->j<n->∀C:Bool->@ag,C (lt i j) s->cmp i j C s):
  ∀(t:KasT α),lH n @bd t->Q (iL lt t) s->t.kasWp cmp Q s
 |.ret a,_,q=>q
 |.ask i j k,⟨h1,h2,h3⟩,q=>hc i j h1 h2 _ (B3 hc (k (lt i j)) (h3 _) q)
def Bd(n:Nat)(p:@bO):Prop:=0<n/\∀x∈p,x<n
theorem Bd.at(h:Bd n p)(k):p.getD k 0<n:=by
 by_cases hk:k<p.size
 .have:p.getD k 0=p[k]:=by simp[sr,hk]
  rw[this];exact h.2 _ (Array.getElem_mem hk)
 .have:p.getD k 0=0:=by simp[sr,hk]
  rw[this];exact h.1
theorem Bd.perm(h:Bd n p)(hp:q.Perm p):Bd n q:=⟨h.1,λx hx=>h.2 x (hp.mem_iff.mp hx)⟩
theorem FY(h:Bd n p):∀(f k:Nat),lH n @bd (rV p f k)
 |0,k=>trivial
 |f+1,k=>⟨h.at _,h.at _,λb=>by
  show lH n _ (if b=true then yt k else rV p f (k+1));split
  .trivial
  .exact FY h f (k+1)⟩
theorem xR:∀(f:Nat) (p:@bO) (k q:Nat),Bd n p->lH n (λr=>Bd n r.1) (lJ f p k q)
 |0,p,k,q,h=>h
 | f+1,p,k,q,h=>⟨h.at _,h.at _,λb=>by
  show lH n _ (if b=true then(if q>0 then lJ f (gW p (k-(q+1)) k) (k+1) 0 else lJ f p (k+1) 0) else .ask (p.getD (k-1) 0) (p.getD k 0) λd=>if d=true then .ret (p,k,q) else lJ f p (k+1) (q+1));split
  .split
   .exact xR f _ _ _ (h.perm (ke _ _ _))
   .exact xR f _ _ _ h
  .refine⟨h.at _,h.at _,λd=>?_⟩;show lH n _ (if d=true then yt (p,k,q) else lJ f p (k+1) (q+1));split
   .exact h
   .exact xR f _ _ _ h⟩
theorem Iw(h:Bd n p)(k m):lH n (λr=>Bd n r.2) (Pn k m p) :=
 lH.bind (FY (h.perm (ke _ _ _)) _ _) λ_ _=>h.perm (ke _ _ _)
theorem xQ(h:Bd n p)(k m):lH n (λr=>Bd n r.2) (Bi k m p) :=
 lH.bind (xR _ _ _ _ h) λr hr=>by
  split
  .exact Iw (hr.perm (ke _ _ _)) _ _
  .exact Iw hr _ _
theorem OI(h:Bd n p)(m):lH n (λr=>Bd n r.2) (kas_count m p) :=
 lH.bind (FY h _ _) λk _=>by
  split
  .exact h
  .split
   .refine⟨h.at _,h.at _,λb=>?_⟩;show lH n _ (if b=true then yt (k,p) else Bi k m (gW p 0 k));split
    .exact h
    .exact xQ (h.perm (ke _ _ _)) _ _
   .exact xQ h _ _
theorem yV(h:Bd n p)(k):∀(f l r:Nat),lH n @bd (j3 p k f l r)
 |0,l,r=>trivial
 | f+1,l,r=>by
  show lH n _ (if l>=r then yt l else .ask (p.getD k 0) (p.getD ((l+r) / 2) 0) λc=>if c=true then j3 p k f l ((l+r) / 2) else j3 p k f ((l+r) / 2+1) r);split
  .trivial
  .refine⟨h.at _,h.at _,λb=>?_⟩;show lH n _ (if b=true then j3 p k f l ((l+r) / 2) else j3 p k f ((l+r) / 2+1) r);split
   .exact yV h k f _ _
   .exact yV h k f _ _
theorem MI:∀(f:Nat) (p:@bO) (k:Nat),Bd n p->lH n @bd (kas_bin f p k)
 |0,p,k,h=>trivial
 |f+1,p,k,h=>lH.bind (yV h k _ _ _) λl _=>MI f _ _ (h.perm (bubble_perm _ _ _))
theorem Iy(h:0<n):lH n @bd (kas_sort n) :=
 lH.bind (OI ⟨h,λx hx=>by simpa using hx⟩ n) λr hr=>by
  split
  .exact MI _ _ _ hr
  .trivial
mutual
theorem sM{h h':Heap}(hk:∀b o vs n,o.data=.seq vs n->@bD->@an=@j):∀(d:D) {v:Value} {as:@aI},nr d=true->Reads h v (pd d) as->Reads h' v (pd d) as
 |.cY,_,_,_,r=>by cases r;exact .none
 |.bl b,_,_,_,r=>by cases r;exact .bool b
 |.int i,_,_,_,r=>by cases r;exact .int i _
 |.str x,_,_,_,r=>by cases r;exact .str x _
 |.tup ds,_,_,n,r=>by
  cases r with
  |tuple h1 h2 h3 h4=>exact .tuple (hk _ _ _ _ h3 h1) h2 h3 (nj hk ds n h4)
 |.dg ds,_,_,n,r=>by
  cases r with
  |list h1 h2 h3 h4=>exact .list (hk _ _ _ _ h3 h1) h2 h3 (nj hk ds n h4)
 |.vX _,_,_,n,_=>by cases n
 |.ref _,_,_,n,_=>by cases n
 |.exc _,_,_,n,_=>by cases n
theorem nj{h h':Heap}(hk:∀b o vs n,o.data=.seq vs n->@bD->@an=@j):∀(ds:@e) {vs:@C} {as:@aI},qm ds=true->gB h vs (kN ds) as->gB h' vs (kN ds) as
 |[],_,_,_,r=>by cases r;ext f
 |d::ds,_,_,n,r=>by
  have n:(nr d&&qm ds)=true:=n;rw[aP] at n;cases r with
  |cons r1 r2=>exact .cons (sM hk d n.1 r1) (nj hk ds n.2 r2)
end
mutual
theorem Jz(G:Gp):∀(sh:kW) (d:D) (n:Nat),di sh d=true->Wx sh<=n->Sn G n d d
 |.int,.int i,n,_,_=>@M
 |.tup l,.tup ds,n,h,hn=>by
  have hn:Ou l+1<=n:=hn;obtain⟨m,rfl⟩:∃m,n=m+1:=⟨n-1,@d⟩;exact EX G l ds m h @c
 |.lst s,.dg ds,n,h,hn=>by
  have hn:Wx s+1<=n:=hn;obtain⟨m,rfl⟩:∃m,n=m+1:=⟨n-1,@d⟩;exact Lz G s ds m h @c
theorem EX(G:Gp):∀(l:List kW) (ds:@e) (m:Nat),fK l ds=true->Ou l<=m->Sn G (m+1) (.tup ds) (.tup ds)
 |[],[],m,_,_=>.vA
 |s::l,d::ds,m,h,hm=>by
  have h:(di s d&&fK l ds)=true:=h;have hm:max (Wx s) (Ou l)<=m:=hm;rw[aP] at h;exact .fH (Jz G s d m h.1 @c) (EX G l ds m h.2 @c)
theorem Lz(G:Gp):∀(s:kW) (ds:@e) (m:Nat),g8 s ds=true->Wx s<=m->Sn G (m+1) (.dg ds) (.dg ds)
 |s,[],m,_,_=>.zV
 |s,d::ds,m,h,hm=>by
  have h:(di s d&&g8 s ds)=true:=h;rw[aP] at h;exact .u7 (Jz G s d m h.1 hm) (Lz G s ds m h.2 hm)
end
theorem getD_at{α:Type}(xs:@s)(d)(h):xs.getD i d=xs[i]:=by
 rw[bc,az h];rfl
theorem nq{α:Type}(xs)(d:α):(cR xs.length).map (λi=>xs.getD i d)=xs:=by
 refine List.ext_getElem @i λi h1 h2=>?_;rw[dj,lN];exact getD_at _ _ h2
theorem GN:∀(zs:@e) (vs:@C),(∀z∈zs,di (.tup (s1::l)) z=true)->(∀i,i<vs.length->∃as,Reads h (vs.getD i .none) (pd (@az)) as)->vs.length=zs.length ->
  ∃fs,KatTups h vs fs/\fs.length=vs.length/\∀f∈fs,∃d as,di s1 d=true/\Reads h f (pd d) as:=by
 intro zs;induction zs with
 |nil=>
  intro vs _ _ h;have:vs=[]:=List.length_eq_zero_iff.mp h;ext c;exact⟨[],trivial,rfl,λ_ h=>@a8⟩
 |cons z zs ih=>
 intro vs hs hr hl;cases vs with
 |nil=>cases hl
 | cons v vs=>
  obtain⟨fs,h1,h2,h3⟩:=ih vs (λz hz=>hs z (aC _ hz)) (λi hi=>by
   obtain⟨as,r⟩:=hr (i+1) (@dc);exact⟨as,by simpa using r⟩) (@dr)
  obtain⟨as,r⟩:=hr 0 @i;have hz:=hs z @i;simp only[List.getD_cons_zero] at r;cases z<;>first |(cases hz;done) |skip
  rename_i ds;cases ds with
  |nil=>cases hz
  | cons d ds=>
   have hz:(di s1 d&&fK l ds)=true:=hz;rw[aP] at hz;cases r with
   | tuple k1 k2 k3 k4=>
    rename_i p o ws c;have k5:gB h ws.toList (pd d::kN ds) as:=k4;cases q:ws.toList with
    |nil=>rw[q] at k5;cases k5
    | cons f rest=>
     rw[q] at k5;cases k5 with
     | cons r1 r2=>
      have hf:ws[0]?=some f:=by
       have:ws.toList[0]?=some f:=by rw[q];rfl
       ext p
      refine⟨f::fs,.cons k1 k2 k3 hf h1,by simp[h2],λg hg=>?_⟩;rcases List.mem_cons.mp hg with rfl |hg
      .exact⟨d,_,hz.1,r1⟩
      .exact h3 g hg
noncomputable def PC:kW->Value
 |.int=>.type "int"
 |.tup _=>@ae
 |.lst _=>@Z
theorem D3(hs:di sh d=true)(r:Reads h v (pd d) as):Looks M h (typeOf v) (PC sh):=by
 cases sh with
 |int=>
  cases d<;>first |(cases hs;done) |skip
  cases r;exact .now
 | tup l=>
  cases d<;>first |(cases hs;done) |skip
  cases r with
  |tuple k1 k2 k3 k4=>
   rename_i p o ws c;have:Looks M h (typeOf (@V)) o.cls:=(Looks.ld k1).andThen .now;rw[k2] at this;ext g
 | lst l=>
  cases d<;>first |(cases hs;done) |skip
  cases r with
  |list k1 k2 k3 k4=>
   rename_i p o ws c as;have:Looks M h (typeOf (@V)) o.cls:=(Looks.ld k1).andThen .now;rw[k2] at this;ext g
theorem N5{prog:bR}{w:World}{A:dD}{s:aE}{E:@J}{Q:Bool->@ag}{n:Nat}{b:Bool}{l:List kW}{a c:D}{u v:Value}{as bs:@aI}(hn:(pd a).depth<=n+1)(h1:di (.tup l) a=true)(h2:di (.tup l) c=true)(n1:nr a=true)(n2:nr c=true)
  (r1:Reads s.heap u (pd a) as) (r2:Reads s.heap v (pd c) bs) (hu:A.units+n<cLine) (hq:Q (qo a c) s):wpAny @R A (keyLt' (tuples' b) u v) Q E s:=by
 ext m
 ext n
 rename_i xs ys;cases r1 with
 | tuple k1 k2 k3 k4=>
  cases r2 with
  | tuple m1 m2 m3 m4=>
   rename_i p o vs c p' o' ws c';have z1:=readsAll_len k4;have z2:=readsAll_len m4;have e1:vs.size=xs.length:=by simpa using z1
   have e2:ws.size=ys.length:=by simpa using z2
   have el:∀(l:List kW) (xs ys:@e),fK l xs=true->fK l ys=true->xs.length=ys.length:=by
    intro l;induction l with
    | nil=>
     intro xs ys h1 h2;cases xs with
     |nil=>cases ys with
      |nil=>rfl
      |cons _ _=>cases h2
     |cons _ _=>cases h1
    | cons s l ih=>
     intro xs ys h1 h2;cases xs with
     |nil=>cases h1
     | cons x xs=>
      cases ys with
      |nil=>cases h2
      |cons y ys=>
       have h1:(di s x&&fK l xs)=true:=h1;have h2:(di s y&&fK l ys)=true:=h2;rw[aP] at h1 h2;rw[af,af,ih xs ys h1.2 h2.2]
   have hd:(pd (.tup xs)).depth=b7 (kN xs)+1:=rfl;refine kat_lt k1 k3 m1 m3 (xj (n:=n) hu l xs ys _ _ _ _ 0 h1 h2 n1 n2 k4 m4 @c (decide_eq_false (by rw[e1,e2,el l xs ys h1 h2];lia)) hq)
section
variable {X:Cx}
theorem yH(ty:vw x G)(hi:@cw=some zs):pM x G=some zs:=by
 cases x<;>first |exact ty.elim |exact hi
end
section
variable {X:Cx}
theorem Lo:∀(ks:@z) (us:@C),ks.length=us.length->(∀i (h1:i<ks.length) (h2:i<us.length),RelV ks[i] us[i])->Vals ks us
 |[],[],_,_=>.nil
 |[],_::_,h,_=>@a8
 |_::_,[],h,_=>@a8
 |k::ks,u::us,h,hr=>.cons (hr 0 @i @i) (Lo ks us (@bZ) λi h1 h2=>hr (i+1) (@di) (@b0))
end
end K2
end
section
namespace L2
open PySem PySem.Spec PyProof.Rows
theorem NI:typeLookup (.type "list_reverseiterator") "__len__"=pure none:=by rw[Bf,oY];kernel_rfl
theorem Rq:typeLookup (.type "list_reverseiterator") "__length_hint__"=pure (some (.builtin "list_reverseiterator.__length_hint__")):=by rw[Bf,oY];kernel_rfl
section
variable {prog:bR} {w:World} {A:dD} {E:@J} {s:aE}
theorem QX{I l:Addr}{items:@bL}{Q:@J}(hh:A.handled=none)(hl:s.heap.IsList l items)(hI:s.heap.IsRevIter I l ((items.size:Int)-1))(iV:l≠I)(hn:items.size<=bw)
  (hQ:∀h' tk Cw c',(∀b o,b≠I->@au=@j->@an=@j)->h'.get? s.heap.objs.size=some {cls:=@Z,dict:=none,data:=.seq Cw c',slots:=#[]}->ItemsOf (λi v=>items[items.size-1-i]?=@Q) Cw items.size->Q (@bf) @bU):
  wpAny @R A (call (@Z) [.ref I]) Q E s:=by
 have lI:I<s.heap.objs.size:=by obtain⟨o,e,_⟩:=hI;exact aQ e
 have ll:l<s.heap.objs.size:=by obtain⟨o,e,_⟩:=hl;exact aQ e
 refine callType_codes (Q₁:=λobj fP=>obj=@bf/\fP={s with heap:=s.heap.push {cls:=@Z,data:=.seq #[]}}) PySem.F.called_list (PySem.F.typeCall_list_1 _) PySem.F.entry_list_init
  (code_list_new _ @ao) λobj fP rB=>?_
 obtain⟨rfl,rfl⟩:=rB;have hS:(s.heap.push {cls:=@Z,data:=.seq #[]}).get? s.heap.objs.size=some {cls:=@Z,data:=.seq #[]}:=a8 _ rfl;refine⟨⟨_,hS,rfl⟩,PySem.F.args_list_init_2 _ _,?_⟩;show wpAny _ _ (do let old ← EK (.ref s.heap.objs.size);Builtin.List.listUpdate (.ref s.heap.objs.size) (λ_=>#[]);letGo old.toList.reverse;mO (.ref s.heap.objs.size) (.ref I) .none) _ _ _;refine aw ?_;unfold EK;refine aw (oV hS rfl (aL ?_));show wpAny _ _ (updateSeq s.heap.objs.size (λ_=>#[]) >>= λ_=>letGo (#[]:@bL).toList.reverse >>= λ_=>mO (@bf) (.ref I) .none) _ _ _;refine aw (rP hS rfl ?_);have Wr:=gk (gC (λ_=>(#[]:@bL))) hS rfl;have oth:∀b o,@au=@j->((s.heap.push {cls:=@Z,data:=.seq #[]}).update s.heap.objs.size (gC (λ_=>(#[]:@bL)))).get? b=@j :=
  λb o e=>(cV _ _ (yq (aQ e))).trans (aG _ e)
 refine aw (EF ?_);have W:=Walks.listRev (prog:=prog) (w:=w) (A:=A.in1.in1) hh I l iV items;have st:(λ(i:Nat) (h:Heap)=>i<=items.size/\h.IsRevIter I l ((items.size:Int)-1-(i:Int))/\h.IsList l items) 0 ((s.heap.push {cls:=@Z,data:=.seq #[]}).update s.heap.objs.size (gC (λ_=>(#[]:@bL)))) :=
  ⟨b9 _,by have:=hI.at (λo e=>oth I o e);ext p,hl.at λo e=>oth l o e⟩
 generalize (s.heap.push {cls:=@Z,data:=.seq #[]}).update s.heap.objs.size (gC (λ_=>(#[]:@bL)))=h2 at Wr oth st;have hT:K7 {s with heap:=h2} (.ref I) "list_reverseiterator":=st.2.1.typeIs;have hSI:s.heap.objs.size≠I:=yq lI;have Ws:s.heap.objs.size∉[I,l]:=by simp only[bf,bH,or_false,not_or];exact⟨hSI,yq ll⟩
 unfold mO;refine aw (K1 hT ?_);have h1:C2 (@bf) (.ref I)=false:=by simp[C2,hSI]
 rw[if_neg (by rw[h1];decide)];refine aw (wpAny_pyIter_revIter (s:={s with heap:=h2}) st.2.1 ?_);refine aw (fR ?_);unfold mN;refine aw (Bc hT NI ?_);show wpAny _ _ (specialOf (fe I) (Gg "__length_hint__") >>= _) _ _ _;refine aw (Bc hT Rq ?_);generalize Mb:("list_reverseiterator.__length_hint__":String)=id0
 wp_delta
 rw[show splitId id0=some ("list_reverseiterator","__length_hint__") from by subst Mb;decide +kernel];subst Mb;refine aw (MO (b:=true) hT (by rw[DE];kernel_rfl) ?_);refine aL ?_;rw[if_neg @r];obtain⟨c₀,abp⟩:∃c₀,h2.get? s.heap.objs.size=some {cls:=@Z,data:=.seq #[] c₀}:=⟨_,Wr⟩;refine aL ⟨jb PySem.F.plain_extend_loop _,codeAny_extend_loopS W.toS hn _ Ws _ items.size 0 _ #[] c₀ rfl (b9 _) st abp (ItemsOf.nil _) λs' Cw c' hm Vm RB=>?_⟩;rw[Moved.eq_with hm];refine⟨rfl,hQ s'.heap s'.toks Cw c' (λb o hb e=>hm.heap b o (λYz=>?_) (oth b o e)) Vm RB⟩;rcases List.mem_cons.mp Yz with e' |Yz
 .exact absurd (aQ e) (by rw[e'];exact eU _)
 .exact hb (List.mem_singleton.mp Yz)
end
end L2
namespace K2
open PySem PySem.Spec PyProof.Rows L2 PySem.W
section
variable {X:Cx}
variable {es:@aX} {t:TF2} {e v1 v2:Expr} {te:gE} {pos:Pos} {c:Str} {k:Nat}
theorem GK:∀{vs:@z} {us:@C} {v:V} {u:Value},@ci->@bn->Vals (vs++[v]) (us++[u])
 |_,_,_,_,.nil,h=>.cons h .nil
 |_,_,_,_,.cons a r,h=>.cons a (GK r h)
theorem GJ:∀{vs:@z} {us:@C},@ci->Vals vs.reverse us.reverse
 |_,_,.nil=>.nil
 |_,_,.cons h r=>by rw[mK,mK];exact GK (GJ r) h
theorem Hh{K:ay}:∀{vs:@z} {ds:@e},@bt->bu K H vs.reverse ds.reverse
 |_,_,.nil=>.nil
 |_,_,.cons h r=>by rw[mK,mK];exact(Hh r).append (.cons h .nil)
theorem Iu:c8 "reversed"=some (.type "reversed"):=@al
variable {a:Expr} {ta:gE} {p p2 yB:Pos}
theorem Qw (hc:@bk) (hg:Gl X "list") (hm:X.mg "list"=none) (hg2:Gl X "reversed") (YA:X.mg "reversed"=none) (ha:@bh) (hs:autoParam (bF [a] X.env=[(false,@c1)]) Ar._auto_1)
  (CU:autoParam (bF [.Call (.Name "reversed" p2) [a] [] yB] X.env=[(false,eval (.Call (.Name "reversed" p2) [a] [] yB) X.env)]) Ar._auto_1):
  eS X (.Call (.Name "list" p) [.Call (.Name "reversed" p2) [a] [] yB] [] pos) (Eo ta):=by
 ext i;refine fT (nC I.inv hg hm MD ?_);refine dW ?_ CU rfl;rw[CU];show wpAny _ _ (I0 ((false,eval (.Call (.Name "reversed" p2) [a] [] yB) X.env)::jP pos (bF [] X.env))) _ _ s;refine i9 ?_;refine fT (nC I.inv hg2 YA Iu ?_);refine dW ?_ hs rfl;rw[hs];show wpAny _ _ (I0 ((false,@c1)::jP yB (bF [] X.env))) _ _ s;refine i9 (kG ha hE I h λx H1 d G1 u s1 I1 m1 r1 jH q1=>?_);refine sk ?_;obtain⟨ds,hd,q⟩:=q1;obtain⟨l,vs,bz,rfl,rv,rs,hl,hz⟩:=iu I1.inv I1.ab r1 jH hd;have hzl:bz.toArray.size<=bw:=by rw[aW,<-rv.length];exact hz
 refine call_reversed_list hl ?_;refine sk ?_;have ll:l<s1.heap.objs.size:=by obtain⟨o,e,_⟩:=hl;exact aQ e
 have Pa:(@dJ).IsList l bz.toArray:=hl.at λo e=>aG _ e;have hI2:(@dJ).IsRevIter s1.heap.objs.size l ((bz.toArray.size:Int)-1):=@c5;have lY:Inv X pins σ H1 {s1 with heap:=@dJ}:=I1.inv.kept (t':=s1.toks) λb o e=>aG _ e;refine QX (s:={s1 with heap:=@dJ}) (I1.inv.ok.hd hc) Pa hI2 (br ll) hzl λh' tk Cw c' kk Vm RB=>?_;have eq:Cw.toList=bz.reverse:=by
  refine jQ λj=>?_;by_cases hj:j<Cw.size
  .have h1:=RB.2 j Cw[j] (bq hj);have hs:Cw.size=bz.length:=by rw[RB.1];simp
   rw[List.getElem?_reverse @c,cq,bq hj,<-h1];simp
  .have hs:Cw.size=bz.length:=by rw[RB.1];simp
   rw[jD (by rw[bS];lia),jD (by rw[List.length_reverse];lia)]
 have hsz:(@dJ).objs.size=s1.heap.objs.size+1:=dE _ _;have hle:s1.heap.objs.size<=(@dJ).objs.size:=by rw[hsz];exact vp _
 have hp:H1 (@dJ).objs.size=none:=I1.inv.dS.fresh hle;refine⟨.ref _,upd H1 _ (.lst vs.reverse),.ref _,_,I1.inv.laid (t':=tk) (λb u e=>kk b u (br (aQ e)) (aG _ e)) hle ⟨by rw[List.length_reverse];exact hz,Cw.toList,c',by rw[eq];exact GJ rv,by simpa using Vm⟩,m1.trans (.zW I1.ab hp (Hh rs)),rfl,.ref _,q _ (I1.ab.free hp)⟩
theorem Jw(hc:@bk)(hu:@ce)(I:@m)(ab:@be)
  (K:PySem.W.KdlSrc X.prog X.w T r d n P OK) (aez:OK s.heap)   (hlen:vs.length=n) (hP:∀i u (h:i<vs.length),P i u->RelV vs[i] u) (rs:bu X.K H vs zs) (sh) (hz:∀z∈zs,di sh z=true) (dS:aau sh=true) (h64:zs.length<64)
  (q:jN G (.lst (sI zs)) Q):wpAny @q X.A (call (.builtin "sorted") [.ref r]) @bK X.xe s:=by
 have Pa:=rs.length;have hsz:bw=16777216:=cN;obtain⟨m,F0⟩:=I.fr;have nL:∀b o vs n,o.data=.seq vs n->@au=@j->@cT:=λb o vs n e1 e2 z=>by
  obtain⟨o',es,ep,Rm,Kl,_⟩:=F0.ns;rw[z,Rm] at e2;cases e2;rw[Kl] at e1;cases e1
 unfold aau at dS;rw[aP] at dS;have hdp:Wx sh<=7:=of_decide_eq_true dS.1;have sn:∀z∈zs,Sn G 7 z z:=λz h=>Jz G sh z 7 (hz z h) hdp;refine kdu_sorted K (I.ok.hd hc) F0 w7 aez @c λDd h0 tk bz F1 N1 vd hl0 hP'=>?_;have Ma:vs.length=bz.length:=@d
 have rv:Vals vs bz:=Lo vs bz Ma λi h1 h2=>hP i bz[i] h1 (hP' i bz[i] (az h2));by_cases gJ:bz.length<2
 .have e2:h0.get? Dd=some (y9 "list" bz.toArray 0):=(N1 _ aJ).1;refine jn slot_list_sort ⟨_,e2,rfl⟩ entry_list_sort (GZ (s:={s with heap:=h0,toks:=tk}) e2 gJ ⟨_,rfl,?_⟩) (args_list_sort _);obtain⟨kk,ns⟩:=kO I F0 F1 λp hp=>N1 p (aC _ hp);have hD:@dl=none:=by
   have nD:=N1 _ aJ;cases qd:@dl with
   |none=>rfl
   |some o=>exact absurd (vd _ (lx nD.2.1 nD.2.2 qd)) (eU _)
  have hp:H Dd=none:=xw I.dS hD;have hDL:Dd≠X.env.locals:=(N1 _ aJ).2.1;obtain⟨e3,h3⟩:=sortedHeap_at (out:=bz.toArray) e2;have es:sI zs=zs:=wx sh hz (.refl _) (by
   match zs,Pa,gJ with
   |[],_,_=>ext f
   |[z],_,_=>exact lK _ _
   |_::_::_,h,f=>exact absurd f (by rw[<-Ma,h];simp))
  rw[es] at q;refine⟨.ref Dd,upd H Dd (.lst vs),.ref _,_,Inv.HJ (t':=tk) I (λb o hb e=>?_) (λm' hm=>?_) hD ⟨@d,bz,e3,rv,h3⟩,.zW ab hp rs,rfl,.ref _,q _ (ab.free hp)⟩
  .have hb2:b≠Dd:=λz=>by rw[z,hD] at e;cases e
   have e4:=kk b o hb e;rw[sortedHeap_old hb2 (aQ e4)];exact e4
  .obtain⟨o,es,ep,ho,r⟩:=ns m' hm;exact⟨o,es,ep,by rw[sortedHeap_old (eB hDL) (aQ ho)];exact ho,r⟩
 have nz:0<zs.length:=@d
 refine kat_lsort (vs:=bz) F1 N1 (.head λq hq z=>absurd (vd q hq) (by rw[z];exact eU _)) @i @c @c λe1 h' F N=>?_;obtain⟨kk,ns⟩:=kO I F0 F λp hp=>N p (aC _ hp);have Gs:∀i,@c0->∃as,Reads h' (bz.getD i .none) (pd (@az)) as:=λi hi=>by
  have i1:@bM:=@d
  have i2:i<vs.length:=@d
  have g1:@az=zs[i]:=getD_at _ _ i1;have g2:bz.getD i .none=bz[i]:=getD_at _ _ hi;obtain⟨v,hv,rdv⟩:=rs.get (az i1);obtain⟨u,yL,Xj⟩:=rv.get hv;rw[az hi] at yL;cases yL;obtain⟨as,r⟩:=(iG I ab (sn _ (bU i1))).1 v _ rdv Xj;rw[g1,g2];exact⟨as,sM (λb o vs n e1 e2=>kk b o (nL b o vs n e1 e2) e2) _ (sn _ (bU i1)).nr r⟩
 have Dc:∀i,@bM->di sh (@az)=true:=λi hi=>by rw[getD_at _ _ hi];exact hz _ (bU hi)
 have X2:∀i,@bM->nr (@az)=true:=λi hi=>by rw[getD_at _ _ hi];exact(sn _ (bU hi)).nr
 have dpz:∀i,@bM->(pd (@az)).depth<=7:=λi hi=>by rw[getD_at _ _ hi];exact Co (sn _ (bU hi))
 let zz:Nat->D:=λi=>if @bM then @az else zs.getD 0 .cY
 have Py:∀i,di sh (zz i)=true:=λi=>by
  show di sh (if @bM then @az else zs.getD 0 .cY)=true;split
  .exact Dc i (by assumption)
  .exact Dc 0 nz
 let lt:Nat->@bG:=λi j=>qo (zz i) (zz j)
 have swo:MJ lt:=⟨λi j h=>yG sh (Py i) (Py j) h,λi j k h1 h2=>vJ sh (Py i) (Py j) (Py k) h1 h2⟩;have lte:∀i j,@bM->j<zs.length->lt i j=qo (@az) (zs.getD j .cY):=λi j hi hj=>by
  show qo (if @bM then _ else _) (if j<zs.length then _ else _)=_;rw[if_pos hi,if_pos hj]
 obtain⟨p,ep,tu,psz,hup⟩:=He swo (n:=bz.length) @c;have hA2:X.A.in1.in1.units=X.A.units+2:=rfl;have ask:∀κ:SortKind,(∀i j,@c0->j<bz.length->∀C:Bool->@ag,C (qo (@az) (zs.getD j .cY)) @bU->kas_ask X.prog X.w X.A.in1.in1 κ bz i j C @bU) ->
   (kas_sort bz.length).kasWp (kas_ask X.prog X.w X.A.in1.in1 κ bz) (λp Xh=>KasFin X.base X.env.locals m Dd e1 (p.toList.map λi=>bz.getD i gK) (λs3=>rg X pins σ H G Q (.ref Dd) s3) Xh) @bU:=by
  intro κ hk;refine B3 (lt:=lt) (n:=bz.length) (λi j i1 i2 C hC=>hk i j i1 i2 C (by rw[<-lte i j @c @c];exact hC)) _ (Iy @c) ?_;rw[ep];refine KasFin.intro (g:=λo=>(Dd,o)::qL X.base s.heap X.env.locals) F N (.head (λq hq z=>absurd (vd q hq) (by rw[z];exact eU _))) λh2 c F2 N2=>?_;obtain⟨k2,ns2⟩:=kO I F0 F2 λp hp=>N2 p (aC _ hp);have hD:@dl=none:=by
   have nD:=N _ aJ;cases qd:@dl with
   |none=>rfl
   |some o=>exact absurd (vd _ (lx nD.2.1 nD.2.2 qd)) (eU _)
  have hp:H Dd=none:=xw I.dS hD;have rvp:Vals (@dp) (p.toList.map λi=>bz.getD i gK):=by
   have:∀(ps:@aE),(∀i∈ps,@c0)->Vals (ps.map λi=>vs.getD i .cY) (ps.map λi=>bz.getD i gK):=by
    intro ps;induction ps with
    |nil=>intro _;ext f
    |cons i ps ih=>
     intro hh;have hi:=hh i @i;refine .cons ?_ (ih λj hj=>hh j (aC _ hj));have i2:i<vs.length:=@d
     obtain⟨u,yL,Xj⟩:=rv.get (az i2);rw[az hi] at yL;cases yL;show RelV (vs.getD i .cY) (bz.getD i .none);rw[getD_at _ _ i2,getD_at _ _ hi];exact Xj
   exact this _ λi hi=>by simpa using tu.mem_iff.mp hi
  have rsp:bu X.K H (@dp) (p.toList.map λi=>@az):=by
   have:∀(ps:@aE),(∀i∈ps,@c0)->bu X.K H (ps.map λi=>vs.getD i .cY) (ps.map λi=>@az):=by
    intro ps;induction ps with
    |nil=>intro _;ext f
    |cons i ps ih=>
     intro hh;have hi:=hh i @i;refine .cons ?_ (ih λj hj=>hh j (aC _ hj));have i2:i<vs.length:=@d
     have i1:@bM:=@d
     obtain⟨v,hv,r⟩:=rs.get (az i1);rw[az i2] at hv;cases hv;show cX X.K H (vs.getD i .cY) (@az);rw[getD_at _ _ i2,getD_at _ _ i1];exact r
   exact this _ λi hi=>by simpa using tu.mem_iff.mp hi
  have es:sI zs=p.toList.map λi=>@az:=by
   refine wx sh hz ?_ ?_
   .have h1:(p.toList.map λi=>@az).Perm ((cR zs.length).map λi=>@az):=by
     have:bz.length=zs.length:=@d
     rw[<-this];exact tu.map _
    rw[nq] at h1;exact h1
   .rw[cS,Lg];intro i j hi hj Dk;have g1:gA p i=p.toList[i]:=by
     have:i<p.size:=@dc
     simp[gA,sr,this]
    have g2:gA p j=p.toList[j]:=by
     have:j<p.size:=by simpa using hj
     simp[gA,sr,this]
    have bi:p.toList[i]<bz.length:=by simpa using tu.mem_iff.mp (bU hi)
    have bj:p.toList[j]<bz.length:=by simpa using tu.mem_iff.mp (bU hj)
    have:=hup i j @c (by have:j<p.toList.length:=hj;rw[bS,psz] at this;ext g);rw[g1,g2,lte _ _ @c @c] at this;ext g
  rw[es] at q;have ln:(@dp).length<=bw:=by rw[ag,bS,psz];lia
  refine⟨.ref Dd,upd H Dd (.lst (@dp)),.ref _,_,Inv.HJ (t':=tk) I k2 ns2 hD ?_,.zW ab hp rsp,rfl,.ref _,q _ (ab.free hp)⟩;exact⟨ln,_,c,rvp,(N2 _ aJ).1⟩
 have gen:∀i j,@c0->j<bz.length->∀C:Bool->@ag,C (qo (@az) (zs.getD j .cY)) @bU->wpAny @q X.A.in1.in1 (keyLt' oneType' (bz.getD i gK) (bz.getD j gK)) C @p @bU:=by
  intro i j hi hj C hC;obtain⟨as,r1⟩:=Gs i hi;obtain⟨bs,r2⟩:=Gs j hj;rw[keyLt'_oneType];exact zv (s:=@bU) (n:=7) (dpz i @c) (Dc i @c) (Dc j @c) (X2 i @c) (X2 j @c) r1 r2 (by rw[hA2];lia) X.prog X.w _ C hC
 have lk:∀v∈bz,Looks @q h' (typeOf v) (PC sh):=λv hv=>by
  obtain⟨i,hi,rfl⟩:=dI hv;obtain⟨as,r⟩:=Gs i hi;rw[getD_at _ _ hi] at r;exact D3 (Dc i @c) r
 cases sh with
 |int=>exact kas_kind (s:=@bU) (T:=.type "int") @c lk rfl rfl (ask oneType' gen)
 |lst ss=>exact kas_kind (s:=@bU) (T:=@Z) @c lk rfl rfl (ask oneType' gen)
 | tup ss=>
  cases ss with
  |nil=>exact absurd dS.2 @i
  |cons s1 ss=>
   obtain⟨fs,t1,t2,t3⟩:=GN (h:=h') zs bz hz Gs @c;refine kat_kind (s:=@bU) (T:=PC s1) t1 @c (λf hf=>?_) (by cases s1<;>rfl) (ask _ λi j hi hj C hC=>?_)
   .obtain⟨d,as,h1,h2⟩:=t3 f hf;exact D3 h1 h2
   .obtain⟨as,r1⟩:=Gs i hi;obtain⟨bs,r2⟩:=Gs j hj;exact N5 (s:=@bU) (n:=7) (by have:=dpz i @c;lia) (Dc i @c) (Dc j @c) (X2 i @c) (X2 j @c) r1 r2 (by rw[hA2];lia) hC
end
end K2
end
section
namespace K2
open PySem PySem.Spec PyProof.Rows L2 PySem.W
section
variable {X:Cx}
theorem ze:∀(ns:@u) (j:Nat),(∀n∈ns,-1000<=n/\n<=1000)->-1000*(ns.length:Int)<=(ns.take j).sum/\(ns.take j).sum<=1000*(ns.length:Int)
 |[],j,_=>@L
 |n::ns,0,_=>by simp only[List.take_zero,List.sum_nil,af];lia
 |n::ns,j+1,h=>by
  have h1:=h n @i;have:=ze ns j λm hm=>h m (aC _ hm);rw[List.take_succ_cons,List.sum_cons,af];lia
theorem OA (hc:@bk):kY X (.builtin "sum") Sl:=by
 ext A;unfold Sl at q;split at q
 .rename_i x;obtain⟨ns,ty,hi,⟨hn,hb⟩,q⟩:=q;obtain⟨w1,rfl,JH⟩:=rd.one;obtain⟨u,rfl,ru⟩:=rx.one;obtain⟨l,vs,bz,rfl,rv,rs,hl,_⟩:=iu I ab ru JH (yH ty hi);have ev:=rs.ints;subst ev;have hlen:bz.length=ns.length:=by rw[<-rv.length,ag]
  obtain⟨o,ho,xp,n,hd⟩:=id hl;have iV:l≠s.heap.objs.size:=br (aQ ho);refine call_sum_walk (ky hl ?_);refine⟨s.heap.objs.size,_,_,_,_,_,λi=>ns.getD i 0,rfl,CZ (A:=X.A.in1) @dz _ l iV bz.toArray,⟨@c5,⟨o,aG _ ho,xp,n,hd⟩⟩,λb hb=>?_,λi v hv=>?_,λj hj=>?_,λh' tk t' hk=>?_⟩
  .rcases(@cs:b=s.heap.objs.size\/b=l) with rfl |rfl
   .rw[dE];exact fQ _
   .rw[dE];exact iK (aQ ho)
  .have S6:bz[i]?=@Q:=by simpa using hv
   have zD:@c0:=(List.getElem?_eq_some_iff.mp S6).1;have Pd:i<ns.length:=@d
   obtain⟨u,yL,ru⟩:=rv.get (i:=i) (x:=.int ns[i]) (by rw[aZ,az Pd];rfl);rw[S6] at yL;cases yL;obtain⟨t,rfl⟩:=ru;refine⟨t,?_⟩;have e9:ns.getD i 0=ns[i]:=by rw[bc,az Pd];rfl
   show rX ns[i] t=rX (ns.getD i 0) t;rw[e9]
  .have hj':j<ns.length:=by rw[<-hlen];simpa using hj
   have e1:ns.getD j 0=ns[j]:=by rw[bc,az hj'];rfl
   have b1:=hb ns[j] (bU hj');have b2:=ze ns (j+1) hb;rw[C0];ext e;rw[e1];unfold InLong;lia
  .have e:preSum (λi=>ns.getD i 0) bz.toArray.size=ns.sum:=by
    rw[C0,aW,hlen,Gj]
   rw[e];refine⟨@P,H,@P,G,I.kept (t':=tk) λb o e=>hk b o (by simpa using br (aQ e)) (aG _ e),@ay,@S,@P,q⟩
 ext k
end
end K2
end
section
namespace K2
open PySem PySem.Spec PyProof.Rows L2
section
variable {X:Cx}
def Xo(neg:Bool):Gv:=λx y G Q=>match y with
 |.cY=>Nj neg x G Q
 |_=>False
theorem aaC(r:@bx)(rd:cX X.K H x dx)(h:dx≠.cY):v≠.none:=by
 intro z;subst z;cases rd with
 |cY=>exact h rfl
 |bl b=>cases r
 |int i=>obtain⟨t,e⟩:=r;cases e
 |str x=>obtain⟨t,e⟩:=r;cases e
 |_=>cases r
theorem Uc(h:x≠.cY)(q:Nj neg x G Q):Q (.bl neg) G:=by
 cases x with
 |cY=>exact absurd rfl h
 |_=>exact q
theorem NF:pZ X (fU .IsNot) (Xo true):=by
 ext u;unfold Xo at q;split at q
 .cases dY;cases ry;by_cases h:dx=.cY
  .subst h;cases dX;cases rx;exact isnot_none_none ⟨.bl false,H,.bl false,G,I,@ay,rfl,.bl _,q⟩
  .exact isnot_none_ne (aaC rx dX h) ⟨.bl true,H,.bl true,G,I,@ay,rfl,.bl _,Uc h q⟩
 ext k
variable {a:Expr} {ta:gE} {pos p:Pos}
end
noncomputable def kp1:HO->Bool
 |.tup _=>true
 |.nY _ (.lst _)=>true
 |.nY _ (.dK _)=>true
 |.nY _ (.dT _)=>true
 |.nY _ (.ext _)=>true
 |.nY _ (.xd _)=>true
 |_=>false
def hr(H:Hp):Hp:=λb=>(H b).bind λo=>if kp1 o=true then @j else none
noncomputable def subIn(K:ay)(C:Addr)(v:Value):Bool:=match K.lookup C with
 |some ⟨_,_,.cls cd,_⟩=>cd.mro.contains v
 |_=>false
theorem Si{l:@D}{P:Str->Prop}{x:Str}(h:P x)(t:∀c,l.contains c=true->P c):∀c,(x::l).contains c=true->P c:=λc hc=>by
 rw[List.contains_cons,dP] at hc;rcases hc with hc |hc
 .rw[beq_iff_eq.mp hc];exact h
 .exact t c hc
section
variable {X:Cx} {e:Expr} {te:gE} {pos:Pos}
theorem scm(h1:autoParam (sc.kind=.function) Ar._auto_1)(h2:autoParam (sc.isCoroutine=false) Ar._auto_1)(h3:autoParam (sc.isGenerator=false) Ar._auto_1)(h4:autoParam N.Nodup Ak._auto_1)(h5:autoParam (N.take ps.length=ps) Ar._auto_1)
  (h6:autoParam (∀x∈ps,@cG=@bB\/@cG=@a2) Ak._auto_1) (h7:autoParam (∀y∈sc.names,y.2≠.free) Ak._auto_1):ku N ps sc:=⟨h1,h2,h3,h4,h5,h6,h7⟩
end
section
variable {X:Cx} {a b c:Expr} {ta tb tc:gE} {pos:Pos}
theorem UK     (hg:Gl X x) (hm:X.mg x=some (.int i t)) (hd:@c6):eS X (.Name x p) (dC (@M)):=pJ (Uz (v:=@M) hg hm ⟨t,rfl⟩ hd) λ_ _=>@M
end
end K2
end
section
namespace K2.S
open PySem PySem.Spec PyProof.Rows L2 PySem.SetTable
section
variable {prog:bR} {w:World} {A:dD} {E:@J} {s:aE}
abbrev TK(prog)(w):HeapKind prog w (@ac):=Bg (f9 prog w)
theorem L7(x:(@aK).is h k b)(e:∀o,@bD->@an=@j):(@aK).is h' k b:=by
 obtain⟨o,items,n,ho,r⟩:=x;exact⟨o,items,n,e o ho,r⟩
theorem Kd(x:(@aK).is h k b)(y:(@aK).is h k' b):k=k':=(@aK).inj x y
def SK(B:Addr->Prop)(prog:bR)(w:World)(h:Heap)(es:En)(ks:List (@ac)):Prop :=
 ks.length=es.size/\∀(i:Nat) (e:Int×Value),es[i]?=some e->∃(k:@ac) (b:Addr),ks[i]?=some k/\e.2=@aa/\(@aK).is h k b/\e.1=@a5/\B b
theorem sv{a:Addr}{o:Obj}{es:En}{ep:Nat}{t:ix}{Q:(En×Nat×ix)->@ag}(ho:@cR=@j)(hd:o.data=.set es ep t)(O:S9 t es)(h:Q (es,ep,t) s):
  wpAny @R A (setState a) Q E s :=
 oJ ho hd (by unfold SetTable.fits IJ;rw[O.sz,O.dm];have:=O.gJ;have:=O.sz;simp;lia) h
theorem Io(n)(h:DG v=true):vZ n v=pure false:=by
 cases v<;>first |(unfold vZ;rfl) |(exact bO (show false=true from h))
theorem PB{k:@ac}{b:Addr}(hx:(@aK).is s.heap k b){Q:Bool->@ag}(h:Q false s):wpAny @R A (vZ 8 (@aa)) Q E s:=by
 have hT:s.TypeIs (@aa) "tuple":=O1 hx;obtain⟨o,items,n,ho,_,hd,hi⟩:=hx;unfold vZ;refine aw (K1 hT ?_);ext e;rw[if_pos (beq_self_eq_true _)];refine aw (aL ?_);ext s;refine aw (oV ho hd ?_);ext e;refine aw ?_;show wpAny _ _ (forIn items _ _) _ _ s;rw[<-Array.forIn_toList];refine qp _ (λrest r s'=>r.1=none/\s'=s/\∀v∈rest,DG v=true) _ ?_ ?_ _ _ ⟨rfl,rfl,hi.byValue⟩
 .rintro v rest r s' ⟨hr,rfl,xr⟩;rw[Io _ (xr v aJ)];refine aw (aL ?_);ext s;exact aL ⟨rfl,rfl,λu yL=>xr u (aC _ yL)⟩
 .rintro⟨r1,r2⟩ s' ⟨hr,rfl,_⟩;simp only at hr;subst hr;exact aL h
theorem MU{x:Value}{k:@ac}{b:Addr}(ex:x=@aa)(hx:(@aK).is s.heap k b){l:@C}(hl:∀y∈l,∃k' b',y=.ref b'/\(@aK).is s.heap k' b'){Q:Bool->@ag}(h:Q false s):
  wpAny @R A (Ja x l) Q E s:=by
 subst ex;unfold Ja;refine aw ?_;refine qp _ (λrest r s'=>r.1=none/\s'=s/\∀y∈rest,∃k' b',y=.ref b'/\(@aK).is s.heap k' b') _ ?_ ?_ _ _ ⟨rfl,rfl,hl⟩
 .rintro v rest r s' ⟨hr,rfl,xr⟩;obtain⟨k',b',rfl,hv⟩:=xr v aJ;have go:∀y∈rest,∃k' b',y=.ref b'/\(@aK).is s'.heap k' b':=λu yL=>xr u (aC _ yL);ext e;by_cases c:(b == b'||DG (@aa)&&DG (.ref b'))=true
  .rw[if_pos c];exact aL ⟨rfl,rfl,go⟩
  .rw[if_neg c];refine aw (wpAny_eqIsQuiet_tuple hx ?_);ext s;refine aw (wpAny_eqIsQuiet_tuple hv ?_);ext s;refine aw (PB hx ?_);ext s;refine aw (PB hv ?_);ext s;exact aL ⟨rfl,rfl,go⟩
 .rintro⟨r1,r2⟩ s' ⟨hr,rfl,_⟩;simp only at hr;subst hr;exact aL h
theorem DJ{a:Addr}{o:Obj}{es:En}{ep:Nat}{t:ix}{ks:List (@ac)}{k:@ac}{b:Addr}(hu:(@aK).room A)(ho:@cR=@j)(hd:o.data=.set es ep t)(O:S9 t es){B:Addr->Prop}(M:SK B prog w s.heap es ks)(hx:(@aK).is s.heap k b)
  {N:Nat} (h1:¬ Full t.place (eY t.mask N (probeStart t (@a5))).j) (h2:∀n,n<N->Full t.place (eY t.mask n (probeStart t (@a5))).j) {Q:SetFound->@ag}
  (yes:k∈ks->Q (.there none) s) (no:k∉ks->Q (.free (eY t.mask N (probeStart t (@a5))).j false) s):
  ∀(fuel n:Nat) (st:Option Probe),N-n<fuel->n<=N->st.getD (probeStart t (@a5))=eY t.mask n (probeStart t (@a5)) ->
   (∀n',n'<n->∀i,i<t.place.size->t.place.getD i 0=(eY t.mask n' (probeStart t (@a5))).j->ks[i]?≠some k) ->
   wpAny @R A (setSearchFrom a (@aa) (@a5) true fuel st) Q E s
 |0,n,st,hf,_,_,_=>absurd hf (dv _)
 | fuel+1,n,st,hf,hn,Fq,past=>by
  generalize hh:@a5=h at *;show wpAny _ _ (setState a >>= _) _ _ s;refine aw (sv ho hd O ?_);ext e;have gw:t.gaveWay=false:=by
   unfold SetTable.gaveWay;rcases O.ms with e |e |e<;>rw[e]<;>rfl
  rw[gw,if_neg (by intro z;cases z),Fq];have pb:Pb t.mask (eY t.mask n @bV):=Pb.eY n (Pb.start t h);obtain⟨N',hN',hf',_⟩:=Ck O _ pb;obtain⟨n1,met,g,ba,fin⟩:=Hn O.up O.dm (S.hk es) h (10*turns t.mask) _ pb ⟨N',hN',hf'⟩;rw[show eY t.mask n1 (eY t.mask n @bV)=eY t.mask (n+n1) @bV from(jo _ _ _ _).symm,show eY t.mask (n1+1) (eY t.mask n @bV)=eY t.mask (n+n1+1) @bV from(jo _ n (n1+1) _).symm] at fin;generalize hP:t.probe _ h (eY t.mask n @bV)=P;have eP:P=some met:=hP.symm.trans g;subst eP;ext e;have le:n+n1<=N:=by
   apply cO;intro z;obtain⟨i,hi,e,_⟩:=ba (N-n) @c;rw[<-jo,show n+(N-n)=N by lia] at e;exact h1 ⟨i,hi,e⟩
  have hki:∀i,i<t.place.size->ks[i]?=some k->S.hk es i=h:=by
   intro i hi e;have zD:i<es.size:=by rw[<-O.sz];exact hi
   obtain⟨k',b',q1,_,_,q4⟩:=M.2 i _ (bq zD);rw[e] at q1;cases q1;unfold S.hk;rw[bq zD,<-hh];exact q4.1
  have V7:∀n',n'<n+n1->∀i,i<t.place.size->t.place.getD i 0=(eY t.mask n' @bV).j->ks[i]?≠some k:=by
   intro n' Oe i hi e ek;by_cases c:n'<n
   .exact past n' c i hi e ek
   .obtain⟨i',zD,e',ne⟩:=ba (n'-n) @c;rw[<-jo,show n+(n'-n)=n' by lia] at e';have:=O.up.inj hi zD (e.trans e'.symm);ext c;exact ne (hki i hi ek)
  rcases fin with ⟨nf,rfl⟩ |⟨i,hi,pi,agN,rfl⟩
  .have eN:n+n1=N:=by
    by_cases c:n+n1<N
    .exact absurd (h2 _ c) nf
    .lia
   rw[eN];ext e;refine aL (no λhk=>?_);obtain⟨i,hi,e⟩:=dI hk;have ek:ks[i]?=some k:=by rw[az hi,e]
   have zD:i<t.place.size:=by rw[O.sz,<-M.1];exact hi
   obtain⟨n0,w1,w2⟩:=O.way i zD;rw[hki i zD ek] at w1 w2;have lt:n0<N:=by
    apply cO;intro z;by_cases c:n0=N
    .subst c;exact h1 ⟨i,zD,w1.symm⟩
    .exact h1 (w2 N @c)
   exact V7 n0 @c i zD w1.symm ek
  .have zD:i<es.size:=by rw[<-O.sz];exact hi
   obtain⟨k',b',q1,q2,q3,q4⟩:=M.2 i _ (bq zD);have nN:n+n1≠N:=λz=>h1 ⟨i,hi,by rw[<-z];exact pi⟩;have red:∀(l:@C) (m:Sem SetFound),(∀y∈l,∃k' b',y=.ref b'/\(@aK).is s.heap k' b')->wpAny @R A m Q E s ->
     wpAny @R A (if(!t.led)=true then(Ja (@aa) l >>= λr=>if r=true then((unsupported "set:the-search-would-show-the-table":Sem PUnit) >>= λ_=>m) else m) else m) Q E s:=by
    intro l m hl hm;cases t.led with
    |true=>ext s;exact hm
    |false=>
     rw[if_pos (show(!false)=true from rfl)];refine aw (MU rfl hx hl ?_);ext s;exact hm
   refine red _ _ (λy hy=>?_) ?_
   .obtain⟨e,he,rfl⟩:=List.mem_map.mp hy;rw[Array.toList_filter] at he;have he:=(List.mem_filter.mp he).1;obtain⟨m,hm,em⟩:=dI he;obtain⟨k2,b2,_,z2,z3,_⟩:=M.2 m e (by rw[<-cq,az hm,em]);exact⟨k2,b2,z2,z3⟩
   .rw[bq zD];generalize he0:es[i]=e0 at q2 q4 ⊢;obtain⟨h0,y⟩:=e0;have q2:y=.ref b':=q2;subst q2;ext e;refine aw (fR ((@aK).eqBool hu q3 hx ?_));refine aw (sv ho hd O ?_);ext e;by_cases c:k'=k
    .rw[decide_eq_true c,if_pos (show(true&&true)=true from rfl)];subst c;exact aL (yes (bE q1))
    .rw[decide_eq_false c,if_neg (by intro z;cases z)];have sm:t.sameMemory t.moves t.mask=some true:=by unfold SetTable.sameMemory;rw[if_pos (beq_self_eq_true _)]
     rw[sm];ext e;rw[if_pos (show true=true from rfl),show t.slot (eY t.mask (n+n1) @bV).j=.live i from pi ▸ DO O.up hi];ext e;rw[bq zD,he0];ext e;refine aw ?_;unfold isSame;ext e;rw[if_pos (beq_self_eq_true b')];refine aL (aw (aL ?_));rw[if_pos (show true=true from rfl)];ext e;ext s;have aac:=DJ hu ho hd O M hx (N:=N) (Q:=Q) (by rw[hh];exact h1) (by rw[hh];exact h2) yes (by rw[hh];exact no) fuel (n+n1+1) (some (eY t.mask (n+n1+1) @bV));rw[hh] at aac;refine aac @c @c rfl λn' Oe i2 ZI e2 ek=>?_;by_cases c2:n'<n+n1
     .exact V7 n' c2 i2 ZI e2 ek
     .have:n'=n+n1:=@d
      ext c;have:=O.up.inj ZI hi (e2.trans pi.symm);ext c;rw[q1] at ek;cases ek;exact c rfl
end
end K2.S
end
section
namespace K2.S
open PySem PySem.Spec PyProof.Rows L2 PySem.SetTable
section
variable {B:Addr->Prop} {prog:bR} {w:World} {A:dD} {E:@J} {s:aE}
theorem SK.keep(M:SK B prog w h es ks)(e:∀b o,B b->@bD->(∃items n,o.data=.seq items n)->@an=@j):SK B prog w h' es ks:=by
 refine⟨M.1,λi x hx=>?_⟩;obtain⟨k,b,q1,q2,q3,q4⟩:=M.2 i x hx;refine⟨k,b,q1,q2,?_,q4⟩;obtain⟨o,items,n,ho,hc,hd,r⟩:=q3;exact⟨o,items,n,e b o q4.2 ho ⟨items,n,hd⟩,hc,hd,r⟩
theorem SK.perm(M:SK B prog w h es ks)(p:SV es'.toList es.toList):∃O9,SK B prog w h es' O9/\O9.Perm ks:=by
 classical
 let Kf:Int×Value->@ac:=λe=>if z:∃k,∃b,e.2=@aa/\(@aK).is h k b then SX z else []
 have at_:∀e∈es.toList,∃b,e.2=@aa/\(@aK).is h (Kf e) b/\e.1=(@aK).hash (Kf e)/\B b:=by
  intro e he;obtain⟨i,hi,ei⟩:=dI he;obtain⟨k,b,q1,q2,q3,q4⟩:=M.2 i e (by rw[<-cq,az hi,ei]);have z:∃k,∃b,e.2=@aa/\(@aK).is h k b:=⟨k,b,q2,q3⟩;have ek:Kf e=SX z:=dif_pos z;obtain⟨b2,e2,i2⟩:=Classical.choose_spec z;rw[q2] at e2;cases e2;have:=Kd q3 i2;rw[ek,<-this];exact⟨b,q2,q3,q4⟩
 have eks:ks=es.toList.map Kf:=by
  refine jQ λi=>?_;rw[aZ];by_cases hi:i<es.size
  .obtain⟨k,b,q1,q2,q3,q4⟩:=M.2 i _ (bq hi);rw[q1,cq,bq hi];obtain⟨b2,z1,z2,_⟩:=at_ es[i] (Array.getElem_mem_toList hi);rw[q2] at z1;cases z1;rw[Kd q3 z2];rfl
  .rw[jD (by rw[M.1];lia),cq,lZ @c];rfl
 refine⟨es'.toList.map Kf,⟨by rw[ag,bS],λi e he=>?_⟩,by rw[eks];exact p.map _⟩;have hm:e∈es'.toList:=bE (by rw[cq];exact he);obtain⟨b,z1,z2,z3⟩:=at_ e (p.mem_iff.mp hm);exact⟨Kf e,b,by rw[aZ,cq,he];rfl,z1,z2,z3⟩
theorem SK.ins(M:SK B prog w h es ks)(hx:(@aK).is h k b)(hB:B b)(hp:p<=es.size):
  SK B prog w h (insertAt es p (@a5,@aa)) (ks.take p++k::ks.drop p):=by
 have lk:(ks.take p).length=p:=by rw[cf,M.1];lia
 refine⟨by rw[av,af,lk,cx,iC _ _ _ hp,M.1];lia,λi e he=>?_⟩;rw[mE _ _ _ hp] at he;by_cases c:i<p
 .rw[if_pos c] at he;obtain⟨k',b',q⟩:=M.2 i e he;exact⟨k',b',by rw[bA @c,t4 c];exact q.1,q.2⟩
 .rw[if_neg c] at he;by_cases d:i=p
  .rw[if_pos d] at he;cases he;exact⟨k,b,by rw[aY @c,lk,d,rH];rfl,rfl,hx,rfl,hB⟩
  .rw[if_neg d] at he;obtain⟨k',b',q⟩:=M.2 (i-1) e he;exact⟨k',b',by rw[aY @c,lk,show i-p=(i-p-1)+1 by lia,ae,CN,show p+(i-p-1)=i-1 by lia];exact q.1,q.2⟩
def KW(k:@ac):Prop:=∀x∈k,∃i,x=EG i
def SE(B:Addr->Prop)(prog:bR)(w:World)(h:Heap)(a:Addr)(led:Bool)(ks:List (@ac)):Prop :=
 ∃o es ep t,@aO=@j/\o.ExactSet/\o.data=.set es ep t/\S9 t es/\t.tooFull=false/\t.led=led/\((∀k∈ks,KW k)->t.plain=true)/\SK B prog w h es ks
theorem int_at(hi:ItemsAre (f9 prog w) k vs)(c:KW k)(hv:v∈vs):∃t:Int×Tok,v=.int t.1 t.2:=by
 induction hi with
 |nil=>cases hv
 | cons h _ ih=>
  rcases List.mem_cons.mp hv with e |hv
  .subst e;obtain⟨i,rfl⟩:=c _ aJ;rcases gz (k:=.inl i) h with ⟨j,t,e,rfl⟩ |⟨_,_,e,_⟩
   .exact⟨(j,t),rfl⟩
   .cases e
  .exact ih (λx hx=>c x (aC _ hx)) hv
theorem WS{k:@ac}{b:Addr}(hx:(@aK).is s.heap k b){Q:Bool->@ag}(h:∀r,(KW k->r=true)->Q r s):wpAny @R A (Po 8 (@aa)) Q E s:=by
 have hT:s.TypeIs (@aa) "tuple":=O1 hx;obtain⟨o,items,n,ho,_,hd,hi⟩:=hx;unfold Po;refine aw (Bc hT F.slot_tuple_hash.lookup ?_);show wpAny _ _ (seqItems? (@aa) >>= _) _ _ s;refine aw (oV ho hd ?_);refine aw ?_;show wpAny _ _ (forIn items _ _) _ _ s;rw[<-Array.forIn_toList];have hb:∀v∈items.toList,∃r,Po 7 v=pure r/\(KW k->r=true):=by
  intro v hv0;by_cases c:KW k
  .obtain⟨t,e⟩:=int_at hi c hv0;subst e;exact⟨true,rfl,λ_=>rfl⟩
  .have hv:=hi.byValue v hv0;cases v<;>first |exact⟨_,rfl,λz=>absurd z c⟩ |(exact bO (show false=true from hv))
 refine qp _ (λrest r s'=>r.1=none/\s'=s/\∀v∈rest,∃r,Po 7 v=pure r/\(KW k->r=true)) _ ?_ ?_ _ _ ⟨rfl,rfl,hb⟩
 .rintro v rest r s' ⟨hr,rfl,xr⟩;obtain⟨x,hv,hx1⟩:=xr v aJ;rw[hv];refine aw (aL ?_);cases x with
  |true=>
   ext s;exact aL ⟨rfl,rfl,λu yL=>xr u (aC _ yL)⟩
  |false=>
   rw[if_pos (show(!false)=true from rfl)];exact aL (aL (h _ hx1))
 .rintro⟨r1,r2⟩ s' ⟨hr,rfl,_⟩;simp only at hr;subst hr;exact aL (h _ λ_=>rfl)
theorem PQ(hm:Mk m)(h1:¬ n*5>=m*3)(h2:(n+1)*5>=m*3)(h3:n<76):Mk (sizeAbove (grown (n+1))-1)/\n+1<=sizeAbove (grown (n+1))-1/\¬ (n+1)*5>=(sizeAbove (grown (n+1))-1)*3/\sizeAbove (grown (n+1))<=128:=by
 rcases hm with rfl |rfl |rfl
 .have:n=4:=@d
  ext c;exact⟨.inr (.inl @r),@f,@f,@f⟩
 .have:n=18:=@d
  ext c;exact⟨.inr (.inr @r),@f,@f,@f⟩
 .lia
end
end K2.S
end
section
namespace K2.S
open PySem PySem.Spec PyProof.Rows L2 PySem.SetTable
section
variable {B:Addr->Prop} {prog:bR} {w:World} {A:dD} {E:@J} {s:aE}
theorem P4(h:i<m+1):i+(runEnd m i-i)<=m:=by
 unfold runEnd;split<;>lia
theorem Z1(h:p.j+p.more<=m):(C7 m p).j+(C7 m p).more<=m:=by
 unfold C7;by_cases c:p.more>0
 .rw[if_pos c];ext e;lia
 .rw[if_neg c];exact P4 (qf _ (k6 m))
theorem PT:∀(n:Nat) {p:Probe},p.j+p.more<=m->(eY m n p).j+(eY m n p).more<=m
 |0,_,h=>h
 |n+1,_,h=>PT n (Z1 h)
theorem LJ{h:Heap}(ho:@aO=@j)(hd:o.data=.set es ep t)(es')(t'):
  (h.update a (uK es' t')).get? a=some {o with data:=.set es' (ep+1) t'}:=by
 have:=gk (uK es' t') ho (by rw[putSet_of es' t' hd];rfl);rw[putSet_of es' t' hd] at this;ext g
theorem sW{h:Heap}(ho:@aO=@j)(hd:o.data=.set es ep t)(f):∀b o',h.get? b=some o'->(∃items n,o'.data=.seq items n)->(h.update a f).get? b=some o':=by
 rintro b o' e ⟨items,n,q⟩;have nb:a≠b:=λz=>by subst z;rw[ho] at e;cases e;rw[hd] at q;cases q
 exact(cV _ _ nb).trans e
theorem Fw(t:ix)(dm:t.dummies=#[]):t.tooFull=decide (t.place.size*5>=t.mask*3):=by
 unfold SetTable.tooFull IJ;rw[dm];rfl
theorem WT{a:Addr}{led:Bool}{ks:List (@ac)}{k:@ac}{b:Addr}(hu:(@aK).room A)(hS:SE B prog w s.heap a led ks)(hx:(@aK).is s.heap k b)(hB:B b)(gJ:ks.length<76){Q:Bool->@ag}
  (h:∀h' O9 r,(k∈ks->O9=ks)->(k∉ks->O9.Perm (k::ks))->rj a s.heap h'->SE B prog w h' a led O9->Q r @bP):
  wpAny @R A (setAddHashed a (@aa) (@a5)) Q E s:=by
 obtain⟨o,es,ep,t,ho,hex,hd,O,nf,hl,hpn,M⟩:=hS;have hsz:es.size<76:=by rw[<-M.1];exact gJ
 obtain⟨N,hN,h1,h2⟩:=Ck O _ (Pb.start t (@a5));have hN':N<100000:=by
  have:t.mask<=127:=by rcases O.ms with e |e |e<;>lia
  unfold turns at hN;lia
 unfold setAddHashed setAddHashedIn;refine fR (aw (sv ho hd O ?_));ext e;rw[show byScan (@aa) es=false from rfl,if_neg (by intro z;cases z)];unfold setSearch;refine aw (DJ hu ho hd O M hx h1 h2 (λhk=>?_) (λhk=>?_) 100000 0 none @c (b9 _) rfl (λn' z=>absurd z (dv _)))
 .dsimp only;refine aL ?_;have e:s={s with heap:=s.heap}:=by cases s;rfl
  rw[e];exact h s.heap ks false (λ_=>rfl) (λz=>absurd hk z) (Heap.SameBut.refl a s.heap) ⟨o,es,ep,t,ho,hex,hd,O,nf,hl,hpn,M⟩
 .dsimp only;refine aw (sv ho hd O ?_);ext e;rw[Nl t O.dm];ext e;obtain⟨j,ej⟩:∃j,(eY t.mask N (probeStart t (@a5))).j=j:=@S;rw[ej];have hj:j<=t.mask:=by
   rw[<-ej];exact cm (hV _ _) (PT N (P4 (qf _ (k6 t.mask))))
  have nf':¬ t.place.size*5>=t.mask*3:=by rw[Fw t O.dm] at nf;exact of_decide_eq_false nf
  have room:t.place.size+1<=t.mask:=by rcases O.ms with e |e |e<;>lia
  have Sy:@bI<=es.size:=by rw[<-O.sz];exact(qK O.up j).1
  have rest:∀t':ix,t'.mask=t.mask->t'.dummies=t.dummies->t'.place=insertAt t.place (@bI) j->t'.led=t.led->((∀x∈k::ks,KW x)->t'.plain=true) ->
    wpAny @R A (do
     storeSet a (insertAt es (below t.place j) ((TK prog w).hash k,.ref b)) t'
     if(!false&&t'.tooFull)=true then do
      setRelay a (grown (es.size+1))
      pure true
     else pure true) Q E s:=by
   intro t' e1 e2 e3 e4 e5;have O':S9 t' (insertAt es (@bI) (@a5,@aa)):=by
    have:=O.add (x:=@aa) h1 h2 (by rw[ej];exact hj) room e1 e2 (by rw[ej];exact e3);rw[ej] at this;ext g
   have M':=M.ins hx hB Sy;have W2:t'.place.size=es.size+1:=by rw[O'.sz,iC _ _ _ Sy]
   have pk:(ks.take (@bI)++k::ks.drop (@bI)).Perm (k::ks):=by
    refine List.perm_middle.trans ?_;rw[cw]
   refine aw (wpAny_storeSet_of ho hd ?_ (by rw[iC _ _ _ Sy,cN];lia));have g1:=LJ ho hd (insertAt es (@bI) (@a5,@aa)) t';have M1:=M'.keep (h':=s.heap.update a (uK (insertAt es (@bI) (@a5,@aa)) t')) (λc o _=>sW ho hd _ c o);have sb1:=jE s.heap a (uK (insertAt es (@bI) (@a5,@aa)) t');cases tf:t'.tooFull with
   |false=>
    ext s;exact aL (h _ _ true (λz=>absurd z hk) (λ_=>pk) sb1 ⟨_,_,_,_,g1,hex,rfl,O',tf,e4.trans hl,λz=>e5 λx hx=>z x (pk.mem_iff.mpr hx),M1⟩)
   |true=>
    rw[if_pos (show(!false&&true)=true from rfl)];rw[Fw t' O'.dm,W2,e1] at tf;obtain⟨m1,m2,m3,m4⟩:=PQ O.ms (n:=es.size) (by rw[<-O.sz];exact nf') (of_decide_eq_true tf) hsz;refine aw ?_;unfold setRelay;refine aw (sv (s:={s with heap:=s.heap.update a (uK (insertAt es (@bI) (@a5,@aa)) t')}) g1 rfl O' ?_);ext e;rw[if_neg (by rw[cN];lia)];obtain⟨t2,order,el,l1,l2,l3,l4,l5,O2⟩:=Vb m1 (insertAt es (@bI) (@a5,@aa)) (by rw[iC _ _ _ Sy];exact m2) t'.finger (t'.movedTo (sizeAbove (grown (es.size+1))-1)) t'.led t'.plain;have er:t'.relaid ((insertAt es (@bI) (@a5,fe b)).map @N) (grown (es.size+1))=some (t2,order):=el;rw[er];refine aw (Pl (a:=(order.filterMap ((insertAt es (@bI) (@a5,fe b))[·]?),t2)) ?_ ?_)
    .show (if(_ != _)=true then _ else _)=_;rw[if_neg (by rw[l4,bne_self_eq_false];intro z;cases z)]
    obtain⟨ks2,M2,pm⟩:=M1.perm l5;refine wpAny_storeSet_of g1 rfl ?_ (by rw[l4,iC _ _ _ Sy,cN];lia);have g2:=LJ g1 rfl (order.filterMap ((insertAt es (@bI) (@a5,fe b))[·]?)) t2;have M3:=M2.keep (h':=(s.heap.update a (uK (insertAt es (@bI) (@a5,@aa)) t')).update a (uK (order.filterMap ((insertAt es (@bI) (@a5,fe b))[·]?)) t2)) (λc o _=>sW g1 rfl _ c o);refine aL (h _ ks2 true (λz=>absurd z hk) (λ_=>pm.trans pk) (sb1.trans (jE _ a _)) ⟨_,_,_,_,g2,hex,rfl,O2,?_,by rw[l2,e4];exact hl,λz=>l3.trans (e5 λx hx=>z x ((pm.trans pk).mem_iff.mpr hx)),M3⟩);rw[Fw t2 O2.dm,O2.sz,l4,iC _ _ _ Sy,l1];exact decide_eq_false m3
  cases hp:t.plain with
  |true=>
   rw[if_pos (show true=true from rfl)];refine aw (WS hx λr hr=>?_);cases r with
   |true=>exact rest _ rfl rfl rfl rfl λ_=>rfl
   |false=>exact rest _ rfl rfl rfl rfl λz=>hr (z k aJ)
  |false=>
   ext s;exact aw (aL (rest _ rfl rfl rfl rfl λz=>by have:=hpn λx hx=>z x (aC _ hx);rw[hp] at this;ext g))
end
end K2.S
end
section
namespace K2.S
open PySem PySem.Spec PyProof.Rows L2 PySem.SetTable
section
variable {B:Addr->Prop} {prog:bR} {w:World} {A:dD} {E:@J} {s:aE}
noncomputable def IU (w:World):Bool:=w.params.followText "set-order"
def Bv (w:World):Obj:={cls:=.type "set",dict:=none,data:=.set #[] 0 (.fresh 0 0 (!IU w))}
theorem TZ(e:@aO=some (Bv w)):SE B prog w h a (!IU w) []:=by
 refine⟨_,#[],0,.fresh 0 0 (!IU w),e,⟨rfl,rfl,rfl⟩,rfl,⟨@I,rfl,rfl,λa b _ z=>absurd z (dv _),λk z=>absurd z (dv _),b9 _,λk z=>absurd z (dv _)⟩,rfl,rfl,(λ_=>rfl),rfl,λi e he=>?_⟩;cases he
theorem Z2 (x:Value) {Q:@J} (h:Q (@bf) {s with heap:=s.heap.push (Bv w)}):rW @R A (.call (.builtin "set.__new__") ⟨[.type "set",x],[]⟩) (wants Q E) s:=by
 refine codeAny_of_tree (show wpAny _ A.in1 (do checkBuiltinCall "set.__new__" ⟨[.type "set",x],[]⟩;again (.builtin "set.__new__" ⟨[.type "set",x],[]⟩)) _ _ s from ?_);refine aw (Pl (F.newCall_set_1 x) (aL ⟨jb F.plain_set_new _,gX F.entry_set_new ?_⟩));rw[fN F.plain_set_new _];unfold Builtin.«set.__new__» Builtin.Frozenset.newClass;have HM:=sub_set_self;obtain⟨hp,g,d,tk,os⟩:=s;dsimp only at h ⊢
 wp_walk
 refine MP (aL ?_);ext e;simp only[newObj];refine aw (wpAny_alloc (aL (aL h)))
variable {R:Result->@ag} {I:Addr} {fp wr:@aI} {G:Array GenState->Array GenState->Prop} {n:Nat} {P:Nat->Value->Prop} {St:Nat->@ag}
noncomputable def RA(acc:List (@ac))(k:@ac):Bool:=acc.any λx=>decide (x=k)
theorem xq:RA acc k=true↔k∈acc:=by
 unfold RA;rw[List.any_eq_true];exact⟨λ⟨x,hx,e⟩=>of_decide_eq_true e ▸ hx,λh=>⟨k,h,decide_eq_true rfl⟩⟩
def oZ(acc:List (@ac))(k:@ac):List (@ac):=if RA acc k=true then acc else acc++[k]
def ded(l:List (@ac)):List (@ac):=l.foldl oZ []
theorem M9(acc)(k):(oZ acc k).length<=acc.length+1:=by
 unfold oZ;split
 .lia
 .rw[av,cH];exact aR _
theorem SE.keeps(x:SE B prog w h a b ks)(k:∀c o,(c=a\/B c)->h.get? c=@j->h'.get? c=@j):SE B prog w h' a b ks:=by
 obtain⟨o,es,ep,t,e,r1,r2,r3,r4,r5,r6,M⟩:=x;exact⟨o,es,ep,t,k a o (@I) e,r1,r2,r3,r4,r5,r6,M.keep λc o z e _=>k c o (.inr z) e⟩
theorem W4{b:Bool}(W:WalksS prog w A.in1 I fp wr G n P St)(S:Addr)(Ws:S∉fp)(T:@bW)(key:Nat->@ac)(gJ:n<=76)(hu:(@aK).room A.in1)
  (hT:∀h,T h->∀i v,P i v->∃c,v=.ref c/\(@aK).is h (key i) c/\B c) (hTk:∀h h',T h->(∀c o,c∉S::wr->h.get? c=@j->h'.get? c=@j)->T h')
  (hW:∀c,B c->c∉wr):
  ∀(k i:Nat) (s:aE) (acc ks:List (@ac)),n-i=k->i<=n->acc.length<=i->ks.Perm acc->St i s->T s.heap->SE B prog w s.heap S b ks ->
   (∀s' O9,Moved (S::wr) G s s'->O9.Perm (((List.range' i k).map key).foldl oZ acc)->T s'.heap->SE B prog w s'.heap S b O9->R (.ok (.ret .none)) s') ->
   rW @R A (.builtin "set.update.loop" ⟨[.ref S,.ref I],[]⟩) R s:=by
 have hSw:S∉wr:=λh=>Ws (W.sub _ h);have HM:∀c∈wr,c∈S::wr:=λc hc=>aC _ hc;intro k;induction k with
 |zero=>
  intro i s acc ks hk hi ha hp Fq ht hS hR;have Pd:i=n:=@d
  subst Pd;refine gX Tu ?_;rw[fN wa _];show wpAny _ A.in1 (DD (.ref I) >>= _) _ _ s;refine aw (W.done s _ _ Fq λs' hm=>(show wpAny _ A.in1 (ret gK) _ _ s' from aL (hR s' ks (hm.mono HM) hp (hTk _ _ ht λc o hc e=>hm.heap c o (λz=>hc (HM c z)) e) (hS.keeps λc o z e=>hm.heap c o (λq=>?_) e))));rcases z with rfl |z
  .exact hSw q
  .exact hW c z q
 | succ k ih=>
  intro i s acc ks hk hi ha hp Fq ht hS hR;have vd:i<n:=@d
  refine gX Tu ?_;rw[fN wa _];show wpAny _ A.in1 (DD (.ref I) >>= _) _ _ s;refine aw (W.item i s _ _ vd Fq λv s' hP aep hm=>?_);have Rg:T s'.heap:=hTk _ _ ht λc o hc e=>hm.heap c o (λz=>hc (HM c z)) e;obtain⟨c,rfl,hx,hB⟩:=hT _ Rg i v hP;have Vm:SE B prog w s'.heap S b ks:=hS.keeps λc o z e=>hm.heap c o (λq=>by
   rcases z with rfl |z
   .exact hSw q
   .exact hW c z q) e
  show wpAny _ A.in1 (ym [fe c] (setAdd S (.ref c)) >>= _) _ _ s';refine aw (fR ?_);unfold setAdd;refine fR (aw ((@aK).pyHash hu hx ?_));refine WT (s:={s' with toks:=s'.toks+(@aK).draws (key i)}) hu Vm hx hB (by rw[hp.length_eq];lia) λh' O9 r Pd Yx hsb hS2=>?_;have ZY:T h':=hTk _ _ Rg λc o hc e=>by rw[hsb.2 c (λz:c=S=>hc (by rw[z];exact aJ))];exact e
  have A4:O9.Perm (oZ acc (key i)):=by
   unfold oZ;by_cases z:RA acc (key i)=true
   .rw[if_pos z,Pd (hp.mem_iff.mpr (xq.mp z))];exact hp
   .rw[if_neg z];exact(Yx λq=>z (xq.mpr (hp.mem_iff.mp q))).trans ((hp.cons _).trans (List.perm_append_singleton _ _).symm)
  refine aL ⟨jb wa _,ih (i+1) _ (oZ acc (key i)) O9 @c vd (cm (M9 _ _) @c) A4 (W.frame _ s' _ _ aep (hV _ _) λc hc o e=>?_) ZY hS2 λs2 ks2 YA IT ht2 hS3=>?_⟩
  .rw[hsb.2 c (λz:c=S=>Ws (by rw[<-z];exact hc))];exact e
  .refine hR s2 ks2 (Moved.trans W.gtrans ((hm.mono HM).then_heap (hV _ _) λc o hc e=>?_) YA) IT ht2 hS3;rw[hsb.2 c (λz:c=S=>hc (by rw[z];exact aJ))];exact e
end
end K2.S
end
section
namespace K2.S
open PySem PySem.Spec PyProof.Rows L2 PySem.SetTable
section
variable {prog:bR} {w:World} {A:dD} {E:@J} {s:aE}
set_option maxRecDepth 100000 in
theorem W5{l:Addr}{items:@bL}{Q:@J}(hh:A.handled=none)(hu:A.units+64<cLine)(hl:s.heap.IsList l items)(key:Nat->@ac)(gJ:items.size<=76)(aem:∀(i:Nat) (v:Value),items[i]?=@Q->∃c,v=.ref c/\(@aK).is s.heap (key i) c)
  (h:∀(h':Heap) (tk:Nat) (ks:List (@ac)),SE (λc=>@dx/\fe c∈items.toList) prog w h' s.heap.objs.size (!IU w) ks->ks.Perm (ded ((cR items.size).map key))->(∀c o,@dx->s.heap.get? c=@j->h'.get? c=@j)->Q (@bf) @bU):
  wpAny @R A (call (.type "set") [@aC]) Q E s:=by
 obtain⟨c,tl,aiO⟩:=F.called_set.mro;have agH:=F.called_set.made;have HM:=F.called_set.sub;refine wpAny_call (codeAny_of_tree (show wpAny _ _ (callAny (.type "set") _) _ _ _ from ?_));refine aL ⟨Code.quiet_builtin _ (@al),gX F.entry_type_call ?_⟩;rw[Around.under_plain (weight_type_call_type "set" [@aC] []) rfl];have h1:=F.called_set.notType;have h2:=F.called_set.canCreate;have hct:=F.typeCall_set_1 (@aC)
 repeat (any_goals(first |assumption |wp_step))
 refine uU (Z2 (@aC) (E:=E) (Q:=λobj fP=>obj=@bf/\fP={s with heap:=s.heap.push (Bv w)}) @ao) λr s1 hr=>?_;cases r with
 |error e=>exact hr
 | ok fl=>
  cases fl with
  | ret obj=>
   obtain⟨rfl,rfl⟩:=hr;have hS:(s.heap.push (Bv w)).get? s.heap.objs.size=some (Bv w):=a8 _ rfl;have hT:K7 {s with heap:=s.heap.push (Bv w)} (@bf) "set":=⟨_,hS,rfl⟩;have hli:=F.called_set.init.lookup;have hbi:=F.called_set.init.bind (@bf)
   repeat (any_goals(first |assumption |wp_step))
   refine uU (codeAny_call_builtin (R:=wants (λr jX=>r=.none/\∃h' tk ks,jX=@bU/\SE (λc=>@dx/\fe c∈items.toList) prog w h' s.heap.objs.size (!IU w) ks/\ks.Perm (ded ((cR items.size).map key)) /\
     (∀c o,@dx->s.heap.get? c=@j->h'.get? c=@j)) E) F.called_set.init.plain F.entry_set_init (check_set_init_1 hT ?_)) λadv jX Rj=>?_
   .obtain⟨⟨ah8,aaw,afS,XO⟩,hol,xp,nl,hdl⟩:=hl;simp only at xp hdl;subst xp hdl;have aey:(s.heap.push (Bv w)).get? l=some {cls:=@Z,dict:=aaw,data:=.seq items nl,slots:=XO}:=aG _ hol;have aiD:=F.sub_list_set;have aiE:=F.sub_list_frozenset;have iV:(K6 "list" == K6 "dict")=false:=@f
    have Ma:(s.heap.push (Bv w)).IsList l items:=⟨_,aey,rfl,nl,rfl⟩;unfold Bv at *;unfold Builtin.«set.__init__» noKeywords Builtin.Frozenset.updateFrom;generalize hPI:K5=PI
    wp_walk
    subst hPI;refine ky Ma (aw (wpAny_runValue ?_));have hlS:l<s.heap.objs.size:=aQ hol;have hh3:A.in1.in1.in1.handled=none:=by simp[hh]
    have hsz:(s.heap.push (Bv w)).objs.size=@aR:=dE _ _;unfold Bv at hsz;have hIn:∀c,@dx->c∉[(s.heap.push {cls:=.type "set",dict:=none,data:=.set #[] 0 (.fresh 0 0 (!IU w))}).objs.size]:=λc hc=>by
     rw[hsz];simp only[bV];lia
    refine W4 (B:=(λc=>@dx/\fe c∈items.toList)) (b:=!IU w) ((CZ hh3 _ l (by rw[hsz];exact br (iK hlS)) items).toS) s.heap.objs.size (by rw[hsz];simp only[bf,bH,or_false,not_or];exact⟨br (fQ _),yq hlS⟩)
     (λh=>∀c o,@dx->s.heap.get? c=@j->h.get? c=@j) key gJ (by show A.in1.in1.in1.units<cLine;show A.units+1+1+1<cLine;lia) (λh ht i v hP=>?h1) (λh h' ht k c o hc e=>k c o ?h2 (ht c o hc e)) (λc hc=>hIn c hc.1) (items.size-0) 0 _ [] [] @c (b9 _) @X (List.Perm.refl _) ⟨@c5,Ma.push _⟩
     (λc o hc e=>aG _ (aG _ e)) ?hS0 ?hR
    case h1=>
     obtain⟨c,e1,e2⟩:=aem i v hP;obtain⟨o,_,_,eo,_⟩:=id e2;exact⟨c,e1,L7 e2 λo e=>ht c o (aQ e) e,aQ eo,by rw[<-e1];exact Array.mem_toList_iff.mpr (Array.mem_of_getElem? hP)⟩
    case h2=>
     intro z;rcases List.mem_cons.mp z with z |z
     .exact absurd z (br hc)
     .exact hIn c hc z
    case hS0=>exact TZ (aG _ hS)
    case hR=>
     intro s' ks hm hq ht Vm;obtain⟨h',g',d',ZY,os'⟩:=s';cases(show g'=s.gens from hm.gens);cases(show d'=s.drawn from hm.drawn);cases(show os'=s.os from hm.os);refine aL (show wpAny _ _ (ret gK) _ _ _ from aL ⟨rfl,h',ZY,ks,rfl,Vm,?_,ht⟩);rw[Tn,<-List.range_eq_range'] at hq;exact hq
   .cases adv with
    |error e=>exact Rj
    | ok abB=>
     cases abB with
     |ret r=>
      obtain⟨rfl,h',tk,ks,rfl,Vm,hq,Pc⟩:=Rj
      repeat (any_goals(first |assumption |wp_step))
      exact h _ _ ks Vm hq Pc
     |_=>exact Rj.elim
  |_=>exact hr.elim
end
end K2.S
end
section
namespace K2
open PySem PySem.Spec PyProof.Rows L2 PySem.W
section
variable {X:Cx} {a:Expr} {ta:Bb} {pos p yB p2:Pos}
theorem VF:c8 "set"=some (.type "set"):=by first |rfl |decide +kernel
def tk(k:@ac):D:=@cY
end
end K2
end
section
namespace K2
open PySem PySem.Spec PyProof.Rows L2
section
variable {X:Cx}
theorem QM (hu:@ce):OO X "dict.get" D0:=by
 intro pins s σ H G x d xs ds v us Q I ab rx rd Xi Gs q;unfold D0 at q;split at q
 .rename_i a k d';obtain⟨bB,hg,hk,q⟩:=q;cases rd;obtain⟨w,w2,rfl,JH,rw2⟩:=Gs.two;obtain⟨u1,u2,rfl,ru1,ru2⟩:=vals2 Xi;cases rx;obtain⟨H',o,I',m,g,e1,e2⟩:=Cn I ab hg hk JH;refine YZ (d:=w2) @c I' g ru1 ru2 λw' s' I2 rr=>?_;cases hl:look bB k with
  |some d2=>
   obtain⟨v',ho,rr'⟩:=e2 d2 hl;subst ho;rw[hl] at q;exact⟨v',H',d2,G,I2,m,rr,rr',q⟩
  | none=>
   rw[hl] at e1 q;have ho:o=none:=by cases o with
    |none=>rfl
    |some _=>cases e1
   subst ho;exact⟨w2,H',d',G,I2,m,rr,rw2.mono (m.kp ab),q⟩
 ext k
end
end K2
end
section
namespace K2.S
open PySem PySem.Spec PyProof.Rows L2 PySem.SetTable
namespace F5
theorem slot_next:Slot "set_iterator" "__next__" "set_iterator.__next__" :=
 .of (owner:="set_iterator") (n:="__next__") (by rw[Bf,oY];kernel_rfl) (@al) (@al) (@al) (by first |exact .inl (@al) |exact .inr (@al)) (by rw[DE];kernel_rfl)
theorem entry_next:entryFor table "set_iterator.__next__"=some Builtin.«set_iterator.__next__»:=entryFor_of_tree (@bj)
theorem DP:Slot "set_iterator" "__iter__" "set_iterator.__iter__" :=
 .of (owner:="set_iterator") (n:="__iter__") (by rw[Bf,oY];kernel_rfl) (@al) (@al) (@al) (by first |exact .inl (@al) |exact .inr (@al)) (by rw[DE];kernel_rfl)
theorem KC:entryFor table "set_iterator.__iter__"=some Builtin.«dict_keyiterator.__iter__»:=entryFor_alias (id':="dict_keyiterator.__iter__") (@bj) rfl (@al) (@bj)
theorem Ih:entryFor table "set.__iter__"=some Builtin.«frozenset.__iter__»:=entryFor_alias (id':="frozenset.__iter__") (@bj) rfl (@al) (@bj)
theorem own:Manifest.owners.lookup (String.ofList ['r','o','t','a','r','e','t','i','_','t','e','s'].reverse)=some Manifest.sig_set_iterator:=@bj
theorem args_next (a):argsOk "set_iterator.__next__" ⟨[a],[]⟩:=by
 unfold argsOk;rw[signature?_of (id:="set_iterator.__next__") (n:=['_','_','t','x','e','n','_','_']) (o:=['r','o','t','a','r','e','t','i','_','t','e','s']) (@bj) own];kernel_rfl
theorem OJ (a):argsOk "set_iterator.__iter__" ⟨[a],[]⟩:=by
 unfold argsOk;rw[signature?_of (id:="set_iterator.__iter__") (n:=['_','_','r','e','t','i','_','_']) (o:=['r','o','t','a','r','e','t','i','_','t','e','s']) (@bj) own];kernel_rfl
end F5
noncomputable def Js(pl:@bO)(i:Nat):Nat:=if i=0 then 0 else pl.getD (i-1) 0+1
theorem Sz(up:Up xs)(h:i<=xs.size):below xs (Js xs i)=i:=by
 obtain⟨h1,h2,h3⟩:=qK up (Js xs i);unfold Js at h1 h2 h3 ⊢;by_cases c:i=0
 .rw[if_pos c] at h1 h2 h3 ⊢;apply cO;intro z;have:=h2 0 @c;lia
 .rw[if_neg c] at h1 h2 h3 ⊢;apply cO;intro z;by_cases q:below xs (xs.getD (i-1) 0+1)<i
  .have:=h3 (i-1) @c @c;lia
  .have a1:=h2 i @c;have a2:=up (i-1) i @c @c;lia
section
variable {prog:bR} {w:World} {A:dD} {E:@J} {s:aE}
abbrev tb(w:World)(mk:Nat)(pl dm:@bO)(fg mv:Nat):ix:={mask:=mk,place:=pl,dummies:=dm,finger:=fg,led:=!IU w,moves:=mv,plain:=true}
structure Wk(w:World)(o:Obj)(es:En)(ep:Nat)(mk:Nat)(pl dm:@bO)(fg mv:Nat):Prop where
 ex:o.ExactSet
 dd:o.data=.set es ep (tb w mk pl dm fg mv)
 fit:(tb w mk pl dm fg mv).fits es.size=true
 sz:pl.size=es.size
 up:Up pl
def ord(w:World)(a:Addr)(ep:Nat)(es:En):En:=if IU w=true then pickOrder (w.params.setOrder a ep) es else es
def slt(w:World)(pl:@bO)(i:Nat):Nat:=if IU w=true then 0 else Js pl i
noncomputable abbrev adt (a:Addr) (sl i n ep:Nat):Obj:={cls:=.type "set_iterator",data:=.fields #[.int sl 0,.int i 0,@ar,.int n 0,.int ep 0]}
def ZQ (h:Heap) (it a:Addr) (sl i n ep:Nat):Prop:=∃o,h.get? it=@j/\o.cls=.type "set_iterator"/\o.data=.fields #[.int sl 0,.int i 0,@ar,.int n 0,.int ep 0]
theorem ZQ.ty   (x:ZQ s.heap it a sl i n ep):s.TypeIs (.ref it) "set_iterator":=by
 obtain⟨o,h,c,_⟩:=x;exact⟨o,h,c⟩
theorem FV{Q:Bool->@ag}(h:Q (IU w) s):wpAny @R A setsByText Q E s:=by
 unfold setsByText;exact aw (MP (aL h))
variable {es:En} {mk fg mv:Nat} {pl dm:@bO} {a it:Addr} {o:Obj} {ep:Nat}
theorem PX{Q:@J}(ho:@cR=@j)(W:Wk w o es ep mk pl dm fg mv)
  (hQ:Q (@bf) {s with heap:=s.heap.push (adt a 0 0 es.size ep)}):wpAny @R A (K5 @U) Q E s:=by
 have ty:s.TypeIs @U "set":=⟨o,ho,W.ex.1⟩;refine wpAny_pyIter_slot ty MR (jn MR ty F5.Ih ?_ (PySem.F.args_set_iter_1 _));unfold Builtin.«frozenset.__iter__» Builtin.Frozenset.slot0 slotArgs;simp only[List.isEmpty_nil,bI,aj,↓reduceIte,bind_assoc,ao,bne_self_eq_false];unfold Builtin.Frozenset.addrOf Builtin.Frozenset.sizeOf;refine aw (aL ?_)
 try ext e
 refine aw (aL (aw (aw (EE ho W.dd W.fit (aL ?_)))));refine aw ?_;unfold setDrawn;refine aw (oJ ho W.dd W.fit ?_);ext e;refine aw (FV (aL ?_));split
 .rename_i z;exact absurd z (by cases IU w<;>exact hX)
 .refine aw (aL ?_);unfold setEpoch;refine aw (aw (oJ ho W.dd W.fit (aL ?_)));unfold newFields;refine aw (gm (aL ⟨_,rfl,"set_iterator",_,⟨_,a8 _ rfl,rfl⟩,F5.slot_next.lookup,?_⟩) (by size_fits));exact hQ
theorem TL(hb:IU w=true)(ho:@cR=@j)(W:Wk w o es ep mk pl dm fg mv):wpAny @R A (setWalk a) (λr s'=>r=pickOrder (w.params.setOrder a ep) es/\s'=s) @p s:=by
 unfold setWalk;refine aw (oJ ho W.dd W.fit ?_);ext e;refine aw (FV ?_);rw[hb,if_pos rfl];exact aw (MP (aL @ao))
theorem Lx(hi:i<=es.size)(ho:@cR=@j)(W:Wk w o es ep mk pl dm fg mv):wpAny @R A (setNext a (slt w pl i) i ep) (λr s'=>r=((ord w a ep es)[i]?).map (λe=>(e.2,slt w pl (i+1)))/\s'=s) @p s:=by
 unfold setNext;refine aw (oJ ho W.dd W.fit ?_);ext e;refine aw (FV ?_);cases hb:IU w with
 |true=>
  rw[if_pos rfl,if_neg @i];refine aw (oK (TL hb ho W) (λr s' z=>?_) λ_ _ z=>z);obtain⟨rfl,rfl⟩:=z;refine aL ⟨?_,rfl⟩;unfold ord slt;rw[hb];rfl
 | false=>
  rw[if_neg @i];have sl:slt w pl i=Js pl i:=by unfold slt;rw[hb];rfl
  have sl1:slt w pl (i+1)=pl.getD i 0+1:=by unfold slt;rw[hb];rfl
  have bl:Gh pl (Js pl i)=i:=Sz W.up (by rw[W.sz];exact hi);split
  .rename_i z;exact absurd z hX
  .refine aw (show wpAny @R A (if(!(!IU w)&&!es.isEmpty)=true then unsupported "set:maker-not-led" else pure ()) _ _ s from ?_);rw[if_neg (by rw[hb];simp)];refine aL (aL ⟨?_,rfl⟩);show(match es[Gh pl (slt w pl i)]?,pl[Gh pl (slt w pl i)]? with
    |some (_,x),some j=>some (x,j+1)
    |_,_=>none)=_
   rw[sl,bl,sl1];unfold ord;rw[hb,if_neg @i];by_cases c:i<es.size
   .have hp:i<pl.size:=by rw[W.sz];exact c
    rw[bq c,bq hp];simp[sr,hp]
   .rw[lZ @c];rfl
theorem TM{i:Nat}{Q:Option Value->@ag}(ki:ZQ s.heap it a (slt w pl i) i es.size ep)(ho:@cR=@j)(W:Wk w o es ep mk pl dm fg mv)(hi:i<=es.size){e:Int×Value}(he:(ord w a ep es)[i]?=some e)
  (hQ:∀h',ZQ h' it a (slt w pl (i+1)) (i+1) es.size ep->rj it s.heap h'->Q (some e.2) @bP):wpAny @R A (DD (.ref it)) Q E s:=by
 obtain⟨oi,ZF,hci,Vj⟩:=id ki;unfold DD;refine aw (wpAny_attempt (yk (name:=Gg "__next__") ki.ty F5.slot_next (jn F5.slot_next ki.ty F5.entry_next ?_ (F5.args_next _))));unfold Builtin.«set_iterator.__next__» slotArgs;refine aw (aL ?_);refine aw (wpAny_fieldsOf ZF Vj ?_);show wpAny _ _ (setEntries a >>= _) _ _ s;refine aw (EE ho W.dd W.fit ?_);rw[if_neg @i];show wpAny _ _ (setNext a (uL (slt w pl i:Int)) (uL (i:Int)) (uL (ep:Int)) >>= _) _ _ s;rw[dw,dw,dw];refine aw (oK (Lx hi ho W) (λr s' z=>?_) λ_ _ z=>z.elim);obtain⟨rfl,rfl⟩:=z;rw[he];show wpAny _ _ (setField (.ref it) 0 (rawInt (slt w pl (i+1):Int)) >>= _) _ _ _;refine aw (Te ZF Vj @i ?_);have g1:=gk (Obj.mapFields (·.setIfInBounds 0 (rawInt (slt w pl (i+1):Int)))) ZF (Ti (jk Vj _));refine aw (Te g1 (jk Vj _) @i ?_);have g2:=gk (Obj.mapFields (·.setIfInBounds 1 (rawInt ((i:Int)+1)))) g1 (Ti (jk (jk Vj _) _));refine aL ⟨_,rfl,aL (hQ _ ⟨_,g2,?_,?_⟩ ((jE ..).trans (jE ..)))⟩
 .rw[Obj.cls_mapFields,Obj.cls_mapFields];exact hci
 .rw[jk (jk Vj _)];simp[rawInt]
theorem W8{Q:Option Value->@ag}(calm:A.handled=none)(ki:ZQ s.heap it a (slt w pl es.size) es.size es.size ep)(ho:@cR=@j)(W:Wk w o es ep mk pl dm fg mv)(hl:(ord w a ep es).size=es.size)
  (hQ:∀h',Heap.ExtBut it s.heap h'->Q none @bP):wpAny @R A (DD (.ref it)) Q E s:=by
 obtain⟨oi,ZF,hci,Vj⟩:=id ki;unfold DD;refine aw (wpAny_attempt (yk (name:=Gg "__next__") ki.ty F5.slot_next (jn F5.slot_next ki.ty F5.entry_next ?_ (F5.args_next _))));unfold Builtin.«set_iterator.__next__» slotArgs;refine aw (aL (aw (wpAny_fieldsOf ZF Vj ?_)));show wpAny _ _ (setEntries a >>= _) _ _ s;refine aw (EE ho W.dd W.fit ?_);rw[if_neg @i];show wpAny _ _ (setNext a (uL (slt w pl es.size:Int)) (uL (es.size:Int)) (uL (ep:Int)) >>= _) _ _ s;rw[dw,dw,dw];refine aw (oK (Lx @X ho W) (λr s' z=>?_) λ_ _ z=>z.elim);obtain⟨rfl,rfl⟩:=z;rw[lZ @c];show wpAny _ _ (setField (.ref it) 2 .none >>= _) _ _ _;refine aw (Te ZF Vj @i ?_);show wpAny _ _ (newExc (.type "StopIteration") [] >>= _) _ _ _;refine aw ?_;simp only[newExc,newTuple];refine aw (gm (aw (m:=firstArgMember _ _) (Pl (a:=gK) (by first |rfl |(simp only[firstArgMember];rfl)) (gm ?_ (by size_fits)))) (by size_fits));unfold raiseNew;refine aw (wpAny_handled ?_);rw[show A.in1.handled=none from calm];refine aw (aL (wpAny_throw ?_));refine aw (MO (T:="StopIteration") (b:=true) ⟨_,a8 _ rfl,rfl⟩ isSubtype_stop (?_));exact aL (hQ _ (((jE ..).extBut.push _).push _))
theorem RJ{α:Type}:∀(l:@s) (i:Nat) (h:i<l.length),(l[i]::l.eraseIdx i).Perm l
 |x::r,0,_=>.refl _
 |x::r,i+1,h=>by
  rw[List.getElem_cons_succ,OZ];exact(lP _ _ _).trans (.cons _ (RJ r i (@bZ)))
theorem DV(next):∀(f k:Nat) (l:@s) (out:Array α),l.length<=f->(pickOrder.go next f k l out).toList.Perm (out.toList++l)
 |0,k,l,out,h=>by
  have:l=[]:=List.length_eq_zero_iff.mp @c;ext c;rw[bC];exact .refl _
 | f+1,k,l,out,h=>by
  unfold pickOrder.go;cases l with
  |nil=>simp
  |cons x r=>
   have hi:next k % (x::r).length<(x::r).length:=qf _ @i;rw[az hi];ext e;refine(DV next f (k+1) _ _ (by rw[List.length_eraseIdx_of_lt hi];simp at h ⊢;lia)).trans ?_;rw[Array.toList_push,bp];exact .append_left _ (RJ _ _ hi)
theorem Hq(w)(a)(ep)(es):(ord w a ep es).toList.Perm es.toList:=by
 unfold ord;split
 .unfold pickOrder;have:=DV (w.params.setOrder a ep) es.size 0 es.toList #[] @i;ext p
 .exact .refl _
theorem pK(w)(a)(ep)(es):(ord w a ep es).size=es.size:=by have:=(Hq w a ep es).length_eq;ext p
theorem PW(hh:A.handled=none)(iV:a≠it)(W:Wk w o es ep mk pl dm fg mv):
  PySem.Walks prog w A it [it,a] [it] es.size (λi v=>∃e,(ord w a ep es)[i]?=some e/\v=e.2) (λi h=>ZQ h it a (slt w pl i) i es.size ep/\@aO=@j) where
 sub:=λc hc=>by simp at hc;simp[hc]
 frame:=λi h h' st hk=>⟨let ⟨o,e,r⟩:=st.1;⟨o,hk it @i o e,r⟩,hk a @i o st.2⟩
 item:=λi s Q E hi st hQ=>by
  have zD:i<(ord w a ep es).size:=by rw[pK];exact hi
  have he:(ord w a ep es)[i]?=some (ord w a ep es)[i]:=bq zD;exact TM st.1 st.2 W (Gi hi) he λh' Gq sb=>hQ _ h' s.toks ⟨_,he,rfl⟩ ⟨Gq,(sb.2 a iV).trans st.2⟩ λc o hc e=>(sb.2 c (by simpa using hc)).trans e
 done:=λs Q E st hQ=>W8 hh st.1 st.2 W (pK ..) λh' eb=>hQ h' s.toks λc o hc e=>eb c o (by simpa using hc) e
 self:=λi s Q E st hQ=>by
  refine wpAny_pyIter_slot st.1.ty F5.DP (jn F5.DP st.1.ty F5.KC ?_ (F5.OJ _));show wpAny _ _ (ret (.ref it)) _ _ s;exact aL ⟨_,rfl,"set_iterator",_,st.1.ty,F5.slot_next.lookup,hQ⟩
theorem TN {r:Addr} {Q:Bool->@ag} (hT:s.TypeIs (.ref r) "set") (h:Q false s):wpAny @R A (mN (.ref r)) Q E s:=by
 unfold mN;refine aw (Bc hT PySem.F.slot_set_len.lookup ?_);generalize Mb:("set.__len__":String)=id0
 wp_delta
 rw[show splitId id0=some ("set","__len__") from by subst Mb;decide +kernel];subst Mb;refine aw (MO (T:="set") (b:=true) hT (by rw[DE];kernel_rfl) (wpAny_ite_split (λRC=>absurd RC @r) λ_=>?_));exact wpAny_ite_split (λ_=>aw (K1 hT (aL h))) λRC=>absurd (@al) RC
theorem W7(W:Wk w o es ep mk pl dm fg mv):
  PySem.W.KdlSrc prog w "set" a a es.size (λi v=>∃e,(ord w a ep es)[i]?=some e/\v=e.2) (λh=>@aO=@j) where
 type:=λs dS=>⟨o,dS,W.ex.1⟩
 there:=λh dS=>⟨aQ dS,aQ dS⟩
 keep:=λh h' dS hk=>hk a (@I) o dS
 notList:=@f
 notTuple:=@f
 hint:=λA E s Q dS hq=>TN ⟨o,dS,W.ex.1⟩ hq
 iter:=λA s hh dS=>⟨_,_,(λE Q hq=>PX dS W hq),PW hh (br (aQ dS)) W,⟨⟨_,a8 _ rfl,rfl,by unfold slt Js;simp⟩,aG _ dS⟩⟩
end
end K2.S
end
section
namespace K2
open PySem PySem.Spec PyProof.Rows L2 PySem.W
open Enc (enc)
section
variable {X:Cx}
theorem Q9{K:ay}:∀{ns:@u} {vs:@z} {bz:@C},bu K H vs (ns.map enc)->Vals vs bz->kF bz ns:=by
 intro ns;induction ns with
 |nil=>intro vs bz r v;cases r;cases v;ext f
 | cons n ns ih=>
  intro vs bz r v;cases r with
  |cons r1 r2=>
   cases r1;cases v with
   |cons v1 v2=>obtain⟨t,rfl⟩:=(show ∃t,_=rX n t from v1);exact .cons _ _ (ih r2 v2)
theorem N9{K:ay}(h:kF bz ns):Vals @cV bz/\bu K H @cV (ns.map enc):=by
 induction h with
 |nil=>exact⟨.nil,.nil⟩
 |cons _ _ _ ih=>exact⟨.cons @S ih.1,.cons (@P) ih.2⟩
theorem Du (hc:@bk) (hu:@ce):kY X (.builtin "sorted") pY:=by
 ext A;unfold pY at q;split at q
 .rename_i x;obtain⟨ns,ty,hi,h64,q⟩:=q;obtain⟨w1,rfl,JH⟩:=rd.one;obtain⟨u,rfl,ru⟩:=rx.one;obtain⟨l,vs,bz,rfl,rv,rs,hl,_⟩:=iu I ab ru JH (yH ty hi);obtain⟨m,F0⟩:=I.fr;refine kso_sorted F0 w7 hl (Q9 rs rv) h64 λDd vs' U2 c h' F N vd ia il pm so _=>?_;obtain⟨k2,ns2⟩:=kO I F0 F λp hp=>N p (aC _ hp);have hD:@dl=none:=by
   have nD:=N _ aJ;cases qd:@dl with
   |none=>rfl
   |some o=>exact absurd (vd _ (lx nD.2.1 nD.2.2 qd)) (eU _)
  have hp:H Dd=none:=xw I.dS hD;have es:Gr ns=U2:=C8 ((ph ns).trans pm.symm) (Bq ns) (so.imp λh=>by unfold AY;exact(by simpa[cF.lt] using h));rw[es] at q;have hsz:bw=16777216:=cN;obtain⟨rv',rs'⟩:=N9 (K:=X.K) (H:=H) ia;refine⟨.ref Dd,upd H Dd (.lst (U2.map V.int)),.ref _,_,Inv.HJ (t':=s.toks) I k2 ns2 hD ?_,.zW ab hp rs',rfl,.ref _,q _ (ab.free hp)⟩;exact⟨@aV,_,c,rv',(N _ aJ).1⟩
 ext k
end
end K2
end
section
namespace K2
open PySem PySem.Spec PyProof.Rows L2 PySem.W
open PySem.MeetsSeq PySem.MeetsSeq2 PySem.MeetsSeq3 PySem.SeqAt
theorem QT{α β:Type} [BEq α] [LawfulBEq α]{k:α}{v:β}:∀{l:List (α×β)},l.lookup k=@Q->(k,v)∈l:=by
 intro l;induction l with
 |nil=>intro h;cases h
 |cons p l ih=>
  obtain⟨a,b⟩:=p;intro h;rw[kB] at h;cases hb:k == a with
  |true=>rw[hb] at h;cases h;rw[eq_of_beq hb];exact aJ
  |false=>rw[hb] at h;exact aC _ (ih h)
theorem ET:∀(zs:@e) (vs:@C),(∀z∈zs,oS ws z=true)->(∀i,i<vs.length->∃as,Reads h (vs.getD i .none) (pd (@az)) as)->vs.length=zs.length ->
  ∃fs,KatTups h vs fs/\fs.length=vs.length/\∀f∈fs,∃x t,f=Gz x t:=by
 intro zs;induction zs with
 |nil=>
  intro vs _ _ h;have:vs=[]:=List.length_eq_zero_iff.mp h;ext c;exact⟨[],trivial,rfl,λ_ h=>@a8⟩
 |cons z zs ih=>
 intro vs hs hr hl;cases vs with
 |nil=>cases hl
 | cons v vs=>
  obtain⟨fs,h1,h2,h3⟩:=ih vs (λz hz=>hs z (aC _ hz)) (λi hi=>by
   obtain⟨as,r⟩:=hr (i+1) (@dc);exact⟨as,by simpa using r⟩) (@dr)
  obtain⟨as,r⟩:=hr 0 @i;obtain⟨w,l,ds,rfl,_,_⟩:=mF (hs z @i);simp only[List.getD_cons_zero] at r;cases r with
  | tuple k1 k2 k3 k4=>
   rename_i p o ws c;have k5:gB h ws.toList (pd (.str w)::kN ds) as:=k4;cases q:ws.toList with
   |nil=>rw[q] at k5;cases k5
   | cons f rest=>
    rw[q] at k5;cases k5 with
    | cons r1 r2=>
     have hf:ws[0]?=some f:=by
      have:ws.toList[0]?=some f:=by rw[q];rfl
      ext p
     refine⟨f::fs,.cons k1 k2 k3 hf h1,by simp[h2],λg hg=>?_⟩;rcases List.mem_cons.mp hg with rfl |hg
     .cases r1;exact⟨_,_,rfl⟩
     .exact h3 g hg
theorem yM:∀{l:List kW} {xs:@e},fK l xs=true->xs.length=l.length
 |[],[],_=>rfl
 |[],_::_,h=>@a8
 |_::_,[],h=>@a8
 |s::l,x::xs,h=>by
  have h:(di s x&&fK l xs)=true:=h;rw[aP] at h;rw[af,af,yM h.2]
theorem Vd{prog:bR}{w:World}{A:dD}{s:aE}{E:@J}{Q:Bool->@ag}{n:Nat}{ws:List (Str×List kW)}{a c:D}{u v:Value}{as bs:@aI}(hn:(pd a).depth<=n+1)(h1:oS ws a=true)(h2:oS ws c=true)(n1:nr a=true)(n2:nr c=true)
  (r1:Reads s.heap u (pd a) as) (r2:Reads s.heap v (pd c) bs) (hu:A.units+n<cLine) (hq:Q (Fi a c) s):wpAny @R A (keyLt' (tuples' true) u v) Q E s:=by
 obtain⟨w1,l,xs,rfl,e1,s1⟩:=mF h1;obtain⟨w2,l',ys,rfl,e2,s2⟩:=mF h2;have n1:(nr (.str w1)&&qm xs)=true:=n1;have n2:(nr (.str w2)&&qm ys)=true:=n2;rw[aP] at n1 n2;have hd:(pd (.tup (.str w1::xs))).depth=b7 (pd (.str w1)::kN xs)+1:=rfl;have hd2:b7 (kN xs)<=n:=by
  rw[hd] at hn;simp only[b7] at hn;lia
 cases r1 with
 | tuple k1 k2 k3 k4=>
  cases r2 with
  | tuple m1 m2 m3 m4=>
   rename_i p o vs c p' o' us c';have z1:=readsAll_len (ds:=.str w1::xs) k4;have z2:=readsAll_len (ds:=.str w2::ys) m4;have g1:vs.size=xs.length+1:=by simpa using z1
   have g2:us.size=ys.length+1:=by simpa using z2
   refine kat_lt k1 k3 m1 m3 ?_;have k5:gB s.heap vs.toList (pd (.str w1)::kN xs) as:=k4;have m5:gB s.heap us.toList (pd (.str w2)::kN ys) bs:=m4;generalize aeR:decide (vs.size<us.size)=fin;generalize vs.toList=vl at k5;generalize us.toList=ul at m5;cases k5 with
   |@cons v1 vr _ _ _ _ a1 a2=>
   cases m5 with
   |@cons u1 ur _ _ _ _ b1 b2=>
   show KatLex prog w A true fin Q ((v1,u1)::vr.zip ur) 0 s;have eq:=eqAt_reads (pd (.str w1)) (pd (.str w2)) A s _ _ _ _ a1 b1 (ji _ n1.1) (ji _ n2.1) (by show _+0<_;lia);rw[tJ _ _ n1.1 n2.1] at eq;refine kat_cons (eq prog w _ _ ?_);have ee:iq (.str w1) (.str w2)=decide (w1=w2):=by
    show(w1 == w2)=_;by_cases z:w1=w2
    .rw[z];simp
    .simp[z]
   rw[ee];rw[kQ] at hq;by_cases z:w1=w2
   .subst z;rw[e1] at e2;cases e2;rw[decide_eq_true rfl];rw[if_pos rfl] at hq;have lf:fin=false:=by
     rw[<-aeR];have:=yM s1;have:=yM s2;exact @dy
    exact kat_yes (xj (n:=n) hu l xs ys vr ur _ _ 1 s1 s2 n1.2 n2.2 a2 b2 hd2 lf hq)
   .rw[decide_eq_false z];rw[if_neg z] at hq;refine kat_no ?_;cases a1;cases b1;exact oneLt_str hq
section
variable {X:Cx}
theorem Dt  (hc:@bk) (hu:@ce):kY X (.builtin "sorted") (nM ws):=by
 ext A;unfold nM at q;split at q
 .rename_i x;obtain⟨zs,ty,hi,⟨xr,dS,h64⟩,q⟩:=q;obtain⟨w1,rfl,JH⟩:=rd.one;obtain⟨u,rfl,ru⟩:=rx.one;obtain⟨l,vs,bz,rfl,rv,rs,hl,_⟩:=iu I ab ru JH (yH ty hi);have Ma:=rv.length;have Pa:=rs.length;have hsz:bw=16777216:=cN;have hz:∀z∈zs,oS ws z=true:=λz h=>List.all_eq_true.mp xr z h;by_cases gJ:bz.length<2
  .refine Jx hl gJ ?_;obtain⟨e,he⟩:=sortedAll_at s.heap bz bz.toArray;have hp:H (@aR)=none:=I.dS.fresh (vp _);have es:zs.Pairwise λa b=>Fi b a=false:=by
    match zs,Pa,gJ with
    |[],_,_=>ext f
    |[z],_,_=>exact lK _ _
    |_::_::_,h,f=>exact absurd f (by rw[<-Ma,h];simp)
   have q:=q zs (.refl _) es;refine⟨.ref (@aR),upd H (@aR) (.lst vs),.ref _,_,I.laid (t':=s.toks) (λb o e=>sortedAll_old e) (vp _) ?_,.zW ab hp rs,rfl,.ref _,q _ (ab.free hp)⟩;exact⟨@d,bz,e,rv,he⟩
  .obtain⟨m,F0⟩:=I.fr;have nz:0<zs.length:=@d
   have nL:∀b o vs n,o.data=.seq vs n->@au=@j->@cT:=λb o vs n e1 e2 z=>by
    obtain⟨o',es,ep,Rm,Kl,_⟩:=F0.ns;rw[z,Rm] at e2;cases e2;rw[Kl] at e1;cases e1
   have sn:∀z∈zs,Sn G 7 z z:=λz h=>by
    obtain⟨w,l,ds,rfl,e1,e2⟩:=mF (hz z h);have hm:(w,l)∈ws:=QT e1;have ho:=List.all_eq_true.mp dS _ hm;rw[aP] at ho;exact .fH (.str w ho.2) (EX G l ds 6 e2 (of_decide_eq_true ho.1))
   refine kat_sorted F0 w7 hl @c @c λDd e1 h' F N vd=>?_;obtain⟨kk,ns⟩:=kO I F0 F λp hp=>N p (aC _ hp);have Gs:∀i,@c0->∃as,Reads h' (bz.getD i .none) (pd (@az)) as:=λi hi=>by
    have i1:@bM:=@d
    have i2:i<vs.length:=@d
    have g1:@az=zs[i]:=getD_at _ _ i1;have g2:bz.getD i .none=bz[i]:=getD_at _ _ hi;obtain⟨v,hv,rdv⟩:=rs.get (az i1);obtain⟨u,yL,Xj⟩:=rv.get hv;rw[az hi] at yL;cases yL;obtain⟨as,r⟩:=(iG I ab (sn _ (bU i1))).1 v _ rdv Xj;rw[g1,g2];exact⟨as,sM (λb o vs n e1 e2=>kk b o (nL b o vs n e1 e2) e2) _ (sn _ (bU i1)).nr r⟩
   have Dc:∀i,@bM->oS ws (@az)=true:=λi hi=>by rw[getD_at _ _ hi];exact hz _ (bU hi)
   have X2:∀i,@bM->nr (@az)=true:=λi hi=>by rw[getD_at _ _ hi];exact(sn _ (bU hi)).nr
   have dpz:∀i,@bM->(pd (@az)).depth<=7:=λi hi=>by rw[getD_at _ _ hi];exact Co (sn _ (bU hi))
   let zz:Nat->D:=λi=>if @bM then @az else zs.getD 0 .cY
   have Py:∀i,oS ws (zz i)=true:=λi=>by
    show oS ws (if @bM then @az else zs.getD 0 .cY)=true;split
    .exact Dc i (by assumption)
    .exact Dc 0 nz
   let lt:Nat->@bG:=λi j=>Fi (zz i) (zz j)
   have swo:MJ lt:=⟨λi j h=>D1 (Py i) (Py j) h,λi j k h1 h2=>J9 (Py i) (Py j) (Py k) h1 h2⟩;have lte:∀i j,@bM->j<zs.length->lt i j=Fi (@az) (zs.getD j .cY):=λi j hi hj=>by
    show Fi (if @bM then _ else _) (if j<zs.length then _ else _)=_;rw[if_pos hi,if_pos hj]
   obtain⟨p,ep,tu,psz,hup⟩:=He swo (n:=bz.length) @c;have hA2:X.A.in1.in1.units=X.A.units+2:=rfl;have ask:∀κ:SortKind,(∀i j,@c0->j<bz.length->∀C:Bool->@ag,C (Fi (@az) (zs.getD j .cY)) @bP->kas_ask X.prog X.w X.A.in1.in1 κ bz i j C @bP) ->
     (kas_sort bz.length).kasWp (kas_ask X.prog X.w X.A.in1.in1 κ bz) (λp Xh=>KasFin X.base X.env.locals m Dd e1 (p.toList.map λi=>bz.getD i gK) (λs3=>rg X pins σ H G Q (.ref Dd) s3) Xh) @bP:=by
    intro κ hk;refine B3 (lt:=lt) (n:=bz.length) (λi j i1 i2 C hC=>hk i j i1 i2 C (by rw[<-lte i j @c @c];exact hC)) _ (Iy @c) ?_;rw[ep];refine KasFin.intro (g:=λo=>(Dd,o)::qL X.base s.heap X.env.locals) F N (.head (λq hq z=>absurd (vd q hq) (by rw[z];exact eU _))) λh2 c F2 N2=>?_;obtain⟨k2,ns2⟩:=kO I F0 F2 λp hp=>N2 p (aC _ hp);have hD:@dl=none:=by
     have nD:=N _ aJ;cases qd:@dl with
     |none=>rfl
     |some o=>exact absurd (vd _ (lx nD.2.1 nD.2.2 qd)) (eU _)
    have hp:H Dd=none:=xw I.dS hD;have rvp:Vals (@dp) (p.toList.map λi=>bz.getD i gK):=by
     have:∀(ps:@aE),(∀i∈ps,@c0)->Vals (ps.map λi=>vs.getD i .cY) (ps.map λi=>bz.getD i gK):=by
      intro ps;induction ps with
      |nil=>intro _;ext f
      |cons i ps ih=>
       intro hh;have hi:=hh i @i;refine .cons ?_ (ih λj hj=>hh j (aC _ hj));have i2:i<vs.length:=@d
       obtain⟨u,yL,Xj⟩:=rv.get (az i2);rw[az hi] at yL;cases yL;show RelV (vs.getD i .cY) (bz.getD i .none);rw[getD_at _ _ i2,getD_at _ _ hi];exact Xj
     exact this _ λi hi=>by simpa using tu.mem_iff.mp hi
    have rsp:bu X.K H (@dp) (p.toList.map λi=>@az):=by
     have:∀(ps:@aE),(∀i∈ps,@c0)->bu X.K H (ps.map λi=>vs.getD i .cY) (ps.map λi=>@az):=by
      intro ps;induction ps with
      |nil=>intro _;ext f
      |cons i ps ih=>
       intro hh;have hi:=hh i @i;refine .cons ?_ (ih λj hj=>hh j (aC _ hj));have i2:i<vs.length:=@d
       have i1:@bM:=@d
       obtain⟨v,hv,r⟩:=rs.get (az i1);rw[az i2] at hv;cases hv;show cX X.K H (vs.getD i .cY) (@az);rw[getD_at _ _ i2,getD_at _ _ i1];exact r
     exact this _ λi hi=>by simpa using tu.mem_iff.mp hi
    have q:=q (p.toList.map λi=>@az) (by
      have h1:(p.toList.map λi=>@az).Perm ((cR zs.length).map λi=>@az):=by
       have:bz.length=zs.length:=@d
       rw[<-this];exact tu.map _
      rw[nq] at h1;exact h1) (by
      rw[cS,Lg];intro i j hi hj Dk;have g1:gA p i=p.toList[i]:=by
       have:i<p.size:=@dc
       simp[gA,sr,this]
      have g2:gA p j=p.toList[j]:=by
       have:j<p.size:=by simpa using hj
       simp[gA,sr,this]
      have bi:p.toList[i]<bz.length:=by simpa using tu.mem_iff.mp (bU hi)
      have bj:p.toList[j]<bz.length:=by simpa using tu.mem_iff.mp (bU hj)
      have:=hup i j @c (by have:j<p.toList.length:=hj;rw[bS,psz] at this;ext g);rw[g1,g2,lte _ _ @c @c] at this;ext g)
    have ln:(@dp).length<=bw:=by rw[ag,bS,psz];lia
    refine⟨.ref Dd,upd H Dd (.lst (@dp)),.ref _,_,Inv.HJ (t':=s.toks) I k2 ns2 hD ?_,.zW ab hp rsp,rfl,.ref _,q _ (ab.free hp)⟩;exact⟨ln,_,c,rvp,(N2 _ aJ).1⟩
   obtain⟨fs,t1,t2,t3⟩:=ET (h:=h') zs bz hz Gs @c;refine kat_kind (s:=@bP) (T:=.type "str") t1 @c (λf hf=>?_) rfl (ask _ λi j hi hj C hC=>?_)
   .obtain⟨x,t,rfl⟩:=t3 f hf;exact .now
   .obtain⟨as,r1⟩:=Gs i hi;obtain⟨bs,r2⟩:=Gs j hj;exact Vd (s:=@bP) (n:=7) (by have:=dpz i @c;lia) (Dc i @c) (Dc j @c) (X2 i @c) (X2 j @c) r1 r2 (by rw[hA2];lia) hC
 ext k
end
end K2
end
section
namespace K2
open PySem PySem.Spec PyProof.Rows L2 PySem.W
section
variable {X:Cx}
theorem KI (hc:@bk) (hu:X.A.units + 64<cLine):kY X (.builtin "max") Cv := by
  ext A;unfold Cv at q;split at q
  . rename_i a b
    obtain⟨v,rfl,r⟩ := rd.one;obtain⟨u,rfl,ru⟩ := rx.one;obtain⟨l,vs,bz,rfl,rv,rs,hl,hz⟩ := vK I ab ru r rfl;have hlen:bz.length=2 := by rw[<-rv.length,rs.length];rfl
    have at_:∀i uu,bz.toArray[i]?=some uu -> ∃t,uu=rX ([a,b].getD i a) t := λi uu e=> by
      have e':bz[i]?=some uu := by simpa using e
      have zD:@c0 := (List.getElem?_eq_some_iff.mp e').1;have hd:([D.int a,D.int b]:@e)[i]?=some (D.int ([a,b].getD i a)) := by
        match i,zD with
        |0,_=> rfl
        |1,_=> rfl
        |n + 2,h=> lia
      obtain⟨vv,h1,h2⟩ := rs.get hd;obtain⟨uu',h3,h4⟩ := rv.get h1;rw[e'] at h3;cases h3;cases h2;exact h4
    have fin:∀vv h' tk,bz.toArray[oM (λi j=> decide ([a,b].getD i a>[a,b].getD j a)) (bz.toArray.size-1)]?=some vv -> (∀b o,b∉[s.heap.objs.size] -> @au=@j -> @an=@j) -> rg X pins σ H G Q vv {s with heap := h',toks := tk} := λvv h' tk e hk=> by
      obtain⟨t,rfl⟩ := at_ _ vv e;have es:bz.toArray.size-1=1 := by rw[aW];lia
      rw[es];have ev:[a,b].getD (oM (λi j=> decide ([a,b].getD i a>[a,b].getD j a)) 1) a=if a<b then b else a := by
        show [a,b].getD (if decide (b>a)=true then 1 else 0) a=_;by_cases c:a<b
        . rw[if_pos c,if_pos (by simpa using c)];rfl
        . rw[if_neg c,if_neg (by simpa using c)];rfl
      rw[ev];exact⟨@P,H,_,G,I.kept λb o e=> hk b o (by simpa using br (aQ e)) e,@ay,@S,@P,q⟩
    have Rl:0<bz.toArray.size := by rw[aW];lia
    have iV:∀{o:Obj},@cZ=@j -> l≠s.heap.objs.size := λe=> br (aQ e);rcases hl with hl |hl
    . refine call_max_walk (ky hl ?_)
      obtain⟨o,ho,xp,n,hd⟩ := id hl;exact⟨s.heap.objs.size,_,_,_,_,_,_,rfl,CZ (A := X.A.in1) @dz _ l (iV ho) bz.toArray,⟨@c5,⟨o,aG _ ho,xp,n,hd⟩⟩,
        fun b hb => by rcases(@cs:b=s.heap.objs.size\/b=l) with rfl |rfl
                       . rw[dE];exact fQ _
                       . rw[dE];exact iK (aQ ho),Rl,CmpOf.ints_gt (λi=> [a,b].getD i a) at_,λvv h' tk e hk=> fin vv h' tk e λb o hb e=> hk b o hb (aG _ e)⟩
    . refine call_max_walk (uS hl ?_)
      obtain⟨o,ho,xp,n,hd⟩ := id hl;exact⟨s.heap.objs.size,_,_,_,_,_,_,rfl,Tf (A := X.A.in1) @dz _ l (iV ho) bz.toArray,⟨@c5,⟨o,aG _ ho,xp,n,hd⟩⟩,
        fun b hb => by rcases(@cs:b=s.heap.objs.size\/b=l) with rfl |rfl
                       . rw[dE];exact fQ _
                       . rw[dE];exact iK (aQ ho),Rl,CmpOf.ints_gt (λi=> [a,b].getD i a) at_,λvv h' tk e hk=> fin vv h' tk e λb o hb e=> hk b o hb (aG _ e)⟩
  . exact q.elim
end
section
variable {X:Cx} {a:Expr} {ta:Bb} {pos p yB p2:Pos}
noncomputable def Ls(t:T2):@ac:=[.inl t.a,.inl t.b]
theorem Lr(h:Ls x=Ls y):x=y:=by
 cases x;cases y;unfold Ls at h;injection h with h1 h2
 injection h2 with h2 _
 cases h1;cases h2;rfl
theorem X8(l:List T2):l.map (Enc.enc:T2->D)=(l.map Ls).map tk:=by rw[cP];rfl
theorem Sa:∀(l acc:List (@ac)),acc.Nodup->(l.foldl S.oZ acc).Nodup/\∀k,k∈l.foldl S.oZ acc↔k∈acc\/k∈l
 |[],acc,h=>⟨h,λk=>⟨.inl,λz=>z.elim id λq=>by cases q⟩⟩
 | x::l,acc,h=>by
  rw[fk];have hs:(S.oZ acc x).Nodup/\∀k,k∈S.oZ acc x↔k∈acc\/k=x:=by
   unfold S.oZ;by_cases c:S.RA acc x=true
   .rw[if_pos c];exact⟨h,λk=>⟨.inl,λz=>z.elim id λe=>e ▸ S.xq.mp c⟩⟩
   .rw[if_neg c];refine⟨?_,λk=>by rw[lL,bV]⟩;rw[cT];refine⟨h,@L,λu hu v hv e=>?_⟩;rw[List.mem_singleton.mp hv] at e;subst e;exact c (S.xq.mpr hu)
  obtain⟨h1,h2⟩:=Sa l _ hs.1;refine⟨h1,λk=>(h2 k).trans ?_⟩;rw[hs.2,bf,or_assoc]
theorem Wh:∀(ks:List (@ac)),(∀k∈ks,∃t,k=Ls t)->∃m:List T2,ks=m.map Ls
 |[],_=>⟨[],rfl⟩
 |k::ks,h=>by
  obtain⟨t,rfl⟩:=h k aJ;obtain⟨m,rfl⟩:=Wh ks λx hx=>h x (aC _ hx);exact⟨t::m,rfl⟩
theorem LG{K:ay}:∀(vs:@z) (zs:@e),vs.length=zs.length->(∀(i:Nat) (v:V) (z:D),vs[i]?=@Q->zs[i]?=some z->cX K H v z)->bu K H vs zs
 |[],[],_,_=>.nil
 |[],_::_,h,_=>@a8
 |_::_,[],h,_=>@a8
 |v::vs,z::zs,h,hr=>.cons (hr 0 v z rfl rfl) (LG vs zs (@bZ) λi u y h1 h2=>hr (i+1) u y h1 h2)
noncomputable def vOf(v:Value):V:=match v with
 |.ref b=>@aa
 |_=>.cY
theorem BK (hc:@bk) (hu:@ce) (hg:Gl X "sorted") (hm:X.mg "sorted"=none) (hg2:Gl X "set") (YA:X.mg "set"=none) (ha:zO X [a] ta) (hs:autoParam (bF [a] X.env=(false,@c1)::bF [] X.env) Ar._auto_1)
  (CU:autoParam (bF [.Call (.Name "set" p2) [a] [] yB] X.env=(false,eval (.Call (.Name "set" p2) [a] [] yB) X.env)::bF [] X.env) Ar._auto_1) (oX:autoParam ((jP pos (bF [] X.env)).any @N=false) Ar._auto_1) (aex:autoParam ((jP yB (bF [] X.env)).any @N=false) Ar._auto_1):
  eS X (.Call (.Name "sorted" p) [.Call (.Name "set" p2) [a] [] yB] [] pos) (jV mV ta):=by
 ext i;refine fT (nC I.inv hg hm yU (kZ ?_ CU oX));rw[CU];show wpAny _ _ (I0 ((false,eval (.Call (.Name "set" p2) [a] [] yB) X.env)::jP pos (bF [] X.env))) _ _ s;refine i9 (fT (nC I.inv hg2 YA VF (dW (Bo ha yB hE I h λvs H1 ds G1 us s1 I1 m1 r1 jH q1=>?_) hs aex)));unfold mV at q1;split at q1
 .rename_i x;obtain⟨tl,hlo,hlen,q⟩:=q1;obtain⟨w1,rfl,JH⟩:=jH.one;obtain⟨u,rfl,ru⟩:=r1.one;obtain⟨l,vs,bz,rfl,rv,rs,hL,hz⟩:=iu I1.inv I1.ab ru JH hlo;rw[X8] at rs;have kll:(tl.map Ls).length=tl.length:=ag _;have klt:∀k∈tl.map Ls,∃t∈tl,k=Ls t:=λk hk=>by obtain⟨t,ht,e⟩:=List.mem_map.mp hk;exact⟨t,ht,e.symm⟩
  have Vc:∀t,Ls t∈tl.map Ls↔t∈tl:=λt=>⟨λh=>by obtain⟨t',h1,e⟩:=@c_;rw[<-Lr e];exact h1,cy⟩;generalize tl.map Ls=kl at rs kll klt Vc;have li:bz.length=kl.length:=by rw[<-rv.length,rs.length,ag]
  have at_:∀(i:Nat) (v:Value),bz.toArray[i]?=@Q->∃c,v=.ref c/\(S.TK X.prog X.w).is s1.heap (kl.getD i []) c:=λi v hv=>by
   have hv:bz[i]?=@Q:=by rw[SR] at hv;exact hv
   have hi:i<kl.length:=by have:=(List.getElem?_eq_some_iff.mp hv).1;lia
   have hd:(kl.map tk)[i]?=some (tk (kl.getD i [])):=by rw[aZ,bc,az hi];rfl
   obtain⟨vv,h1,h2⟩:=rs.get hd;obtain⟨uu,h3,h4⟩:=rv.get h1;rw[hv] at h3;cases h3;obtain⟨c,rfl,hb⟩:=wF h2;cases h4;exact⟨c,rfl,tj I1.inv.dS hb⟩
  refine S.W5 (I1.inv.ok.hd hc) hu hL (λi=>kl.getD i []) (by rw[aW,li];lia) at_ λh' ZY ks S' hp kp=>?_;rw[(show jP pos (bF [] X.env)=[] from rfl)];refine aL ?_;obtain⟨o,es,ep,t,ho,hex,hd,O,tf,hld,hpn,M⟩:=S';have hp:ks.Perm (kl.foldl S.oZ []):=by
   rw[aW,li,nq] at hp;exact hp
  obtain⟨dn,dm⟩:=Sa kl [] fj;have Ym:∀k,k∈ks↔k∈kl:=λk=>(hp.mem_iff.trans (dm k)).trans ⟨λz=>z.elim (λq=>by cases q) id,.inr⟩;have pn:t.plain=true:=hpn λk hk=>by
   obtain⟨y,_,rfl⟩:=klt k ((Ym k).mp hk);intro x hx;rcases List.mem_cons.mp hx with e |hx
   .exact⟨_,e⟩
   .exact⟨_,List.mem_singleton.mp hx⟩
  have abf:t.fits es.size=true:=by unfold SetTable.fits IJ;rw[O.sz,O.dm];have:=O.gJ;have:=O.sz;simp;lia
  obtain⟨mk,pl,dmm,fg,ld,mv,pln⟩:=t;have e1:ld=!S.IU X.w:=hld;have e2:pln=true:=pn;subst e1 e2;have W:S.Wk X.w o es ep mk pl dmm fg mv:=⟨hex,hd,abf,O.sz,O.up⟩;obtain⟨ks2,M2,pk2⟩:=M.perm (es':=S.ord X.w s1.heap.objs.size ep es) (S.Hq ..);obtain⟨m,rfl⟩:=Wh ks2 λk hk=>by
   obtain⟨y,_,e⟩:=klt k ((Ym k).mp (pk2.mem_iff.mp hk));exact⟨y,e⟩
  have nd2:(m.map Ls).Nodup:=pk2.nodup_iff.mpr (hp.nodup_iff.mpr dn);have nd:m.Nodup:=by
   rw[qN,cS] at nd2;exact List.nodup_iff_pairwise_ne.mpr (nd2.imp λ{x y} h e=>h (by rw[e]))
  have mm:∀y,y∈m↔y∈tl:=λy=>by
   rw[<-Vc y,<-Ym,<-pk2.mem_iff];exact⟨cy,λh=>by obtain⟨z,hz,e⟩:=@c_;rw[<-Lr e];exact hz⟩
  have kp':∀b u,s1.heap.get? b=@T->@an=@T:=λb u e=>kp b u (aQ e) e;have I3:=I1.inv.kept (t':=ZY) kp';have I4:=I1.mv I3 (.refl I1.ab);have ml:m.length=es.size:=by have:=M2.1;rw[ag,S.pK] at this;ext g
  have at2:∀(i:Nat) (e:Int×Value) (y:T2),(S.ord X.w s1.heap.objs.size ep es)[i]?=some e->m[i]?=some y->∃b,e.2=@aa/\cX X.K H1 (@aa) (Enc.enc y):=λi e y he hy=>by
   obtain⟨k,b,q1,q2,q3,_,_,q5⟩:=M2.2 i e he;have ek:k=Ls y:=by
    rw[aZ,hy] at q1;exact(bW q1).symm
   subst ek;refine⟨b,q2,?_⟩;obtain⟨j,hj,ej⟩:=dI q5;have hj:j<bz.length:=hj;have hj1:bz[j]?=some (@aa):=by rw[az hj];exact congrArg some ej
   have hj2:j<kl.length:=@d
   have hdj:(kl.map tk)[j]?=some (tk (kl.getD j [])):=by rw[aZ,bc,az hj2];rfl
   obtain⟨vv,h1,h2⟩:=rs.get hdj;obtain⟨uu,h3,h4⟩:=rv.get h1;rw[hj1] at h3;cases h3;obtain⟨c,rfl,hb⟩:=wF h2;cases h4;have i1:=S.L7 (tj I1.inv.dS hb) λo e=>kp' _ o e;rw[S.Kd i1 q3] at h2;exact h2
  refine oK (Jw hc hu I4.inv I4.ab (S.W7 W) ho (vs:=(S.ord X.w s1.heap.objs.size ep es).toList.map λe=>vOf e.2) (zs:=m.map Enc.enc) (by rw[ag,bS,S.pK]) (λi u hi hP=>?_) (LG _ _ ?_ λi v z hv ZC=>?_) (cF.Dc T2) (λz ZC=>?_) @r ?_ ?_) (λr s' ⟨v,H2,d,G2,I2,m2,r2,De,q2⟩=>⟨v,H2,d,G2,I2,@cE,r2,De,q2⟩) λ_ _ z=>z
  .obtain⟨e,he,rfl⟩:=hP;have ZI:i<m.length:=by rw[ag,bS,S.pK] at hi;lia
   obtain⟨b,e1,_⟩:=at2 i e m[i] he (az ZI);have:(S.ord X.w s1.heap.objs.size ep es).toList[i]'(by rw[ag] at hi;exact hi)=e:=by
    rw[<-cq] at he;exact(List.getElem?_eq_some_iff.mp he).2
   rw[dj,this,e1];rfl
  .rw[ag,ag,bS,S.pK,ml]
  .rw[aZ] at hv ZC;obtain⟨e,he,rfl⟩:=Option.map_eq_some_iff.mp hv;obtain⟨y,hy,rfl⟩:=Option.map_eq_some_iff.mp ZC;rw[cq] at he;obtain⟨b,e1,e2⟩:=at2 i e y he hy;rw[e1];exact e2
  .obtain⟨y,_,rfl⟩:=List.mem_map.mp ZC;exact cF.Oh y
  .rw[ag];exact rJ (lQ nd λy hy=>(mm y).mp hy) hlen
  .rw[Nb];exact q m nd mm
 .exact q1.elim
end
end K2
end
section
namespace K2
open PySem PySem.Spec PyProof.Rows L2
section
variable {X:Cx} {a st:Expr} {ta:gE} {ts:Zl} {p2 pos:Pos}
theorem Qn(u v):slicePick #[u,v] none none (some (-1))=#[v,u]:=@bj
theorem Qu(he:@bh)(hs:ZV X (some st) ts)(HM:autoParam (∀l k:Addr,∃ops,subscripted (.Slice none none (some st) p2) false (@aC) (.ref k)=operate ops (Pp (@aC) (.ref k))) Ay._auto_1):eS X (.Subscript a (.Slice none none (some st) p2) pos) (Il ta ts):=by
 ext i;refine Subscript_ (kG he hE I h λx H1 d G1 v s1 I1 m1 r1 jH q1=>?_);refine wpAny_Slice ?_;rw[evalPart_none];refine aL ?_;refine aL ?_;refine gT (hs E pins s1 σ H1 τ G1 _ hE I1 q1) ?_;rintro vk s3 ⟨k,H3,G3,I3,m3,pk,rfl,xa,xb,hl,q⟩;have mm:=m1.trans m3;have rd3:=jH.mono (m3.kp I1.ab);have I4:Inv X pins σ H3 {s3 with heap:=s3.heap.push {cls:=.type "slice",data:=.fields #[.none,.none,vk]}}:=I3.kept (t':=s3.toks) λb ob q=>aG _ q;obtain⟨l,vs,bz,rfl,rv,rs,hL,hz⟩:=iu I3 m3.ab r1 rd3 hl;cases rs with
 | cons ra rs=>cases rs with
  | cons rb rs=>cases rs with
   | nil=>
    cases rv with
    | cons ua rv=>cases rv with
     | cons ub rv=>cases rv with
      |nil=>
       rename_i va vb ka kb;have hT:K7 {s3 with heap:=s3.heap.push {cls:=.type "slice",data:=.fields #[.none,.none,vk]}} (@aC) "list":=(hL.push _).typeIs;obtain⟨ops,ho⟩:=HM l s3.heap.objs.size;refine gT (tail_any (Q:=rg X pins σ H3 G3 Q) (ops:=ops) hT slot_list_getitem.lookup ?_ ho) λ_ _ z=>z.trans mm;refine wpAny_getItem_list_slice (hL.push _) (GD ..) .none .none pk @i ?_ (by size_fits);rw[show([ka,kb]:@C).toArray=#[ka,kb] from rfl,Qn];have hf:H3 (s3.heap.push {cls:=.type "slice",data:=.fields #[.none,.none,vk]}).objs.size=none:=I4.dS.fresh @X;refine⟨.ref _,upd H3 _ (.lst [vb,va]),.ref _,cJ G3 _ (.lst [xb,xa]),I4.laid (t':=s3.toks) (o:=.lst [vb,va]) (λb u e=>aG _ e) @X ⟨jK rfl,[kb,ka],0,.cons ub (.cons ua .nil),a8 _ rfl⟩,.zW m3.ab hf (.cons rb (.cons ra .nil)),rfl,.ref _,q _ (m3.ab.free hf)⟩
end
section
variable {X:Cx}
theorem Nr{j}(ha:@bh):EB X (.Compare a [.IsNot] [.Constant .none j p] pos) (eW (yS (Nj true) ta)) :=
 show EB X _ (eW (aM (Xo true) ta (dC .cY))) from Fb NF ha LN (JX _)
end
def VR(K:ay)(f c:Str):Prop:=∃C,qe K bJ c=@cz/\WJ K C/\CH K C f
theorem JI{K:ay}:∀{fs:@c4} {fv:@cd},fv.map @N=fs.map @N->bu K H (fv.map (·.2)) (fs.map (·.2))->fs.lookup f=@aM->∃v,fv.lookup f=@Q/\@bl:=by
 intro fs;induction fs with
 |nil=>intro fv _ _ h;cases h
 | cons p fs ih=>
  intro fv hn r h;cases fv with
  |nil=>cases hn
  | cons q fv=>
   rw[aq,aq] at hn;injection hn with h1 h2
   cases r with
   | cons r1 r2=>
    obtain⟨pk,pd⟩:=p;obtain⟨qk,qv⟩:=q;have h1:qk=pk:=h1;subst h1;rw[kB] at h ⊢;cases hb:f == qk with
    |true=>
     rw[hb] at h;cases h;exact⟨qv,rfl,r1⟩
    |false=>
     rw[hb] at h;exact ih h2 r2 h
section
variable {X:Cx} {e:Expr} {te:gE} {f:Str} {al:@D} {pos:Pos}
theorem Qz(cl:∀c∈al,VR X.K f c)(he:eS X e te)(hb:autoParam (yn e f X.env (eval e X.env)=eval e X.env) Ar._auto_1):eS X (.Attribute e f pos) (c6 al f te):=by
 ext i;refine VH hb (kG he hE I h λx H1 d G1 u s1 I1 m1 r1 jH q1=>?_);obtain⟨a,c,fs,d',rfl,hg,hc,hl,q⟩:=q1;cases jH;cases r1;obtain⟨C,dx,fv,hH,Fs,hn,rs⟩:=I1.ab a _ hg;obtain⟨C',Kk,xp,Yy⟩:=cl c hc;rw[Fs] at Kk;cases Kk;obtain⟨v,hv,rv⟩:=JI hn rs hl;exact Kn I1.inv hH xp Yy hv λu' s2 I2 ru=>⟨v,H1,d',G1,I2,m1,ru,rv,q⟩
end
theorem Nm:∀{fs:@c4} {fv:@cd},fv.map @N=fs.map @N->(nW f v fv).map @N=(putD f d fs).map @N:=by
 intro fs;induction fs with
 |nil=>
  intro fv h;have:fv=[]:=@bZ
  ext c;rfl
 | cons p fs ih=>
  intro fv h;cases fv with
  |nil=>cases h
  |cons q fv=>
   obtain⟨pk,pd⟩:=p;obtain⟨qk,qv⟩:=q;rw[aq,aq] at h;injection h with h1 h2
   have h1:qk=pk:=h1;subst h1;unfold nW putD;split
   .rw[aq,aq,h2]
   .rw[aq,aq,ih h2]
theorem Qd{K:ay}(rv:@bl):∀{fs:@c4} {fv:@cd},fv.map @N=fs.map @N->bu K H (fv.map (·.2)) (fs.map (·.2))->bu K H ((nW f v fv).map (·.2)) ((putD f d fs).map (·.2)):=by
 intro fs;induction fs with
 |nil=>
  intro fv h _;have:fv=[]:=@bZ
  ext c;exact .cons rv .nil
 | cons p fs ih=>
  intro fv h r;cases fv with
  |nil=>cases h
  | cons q fv=>
   obtain⟨pk,pd⟩:=p;obtain⟨qk,qv⟩:=q;rw[aq,aq] at h;injection h with h1 h2
   have h1:qk=pk:=h1;subst h1;cases r with
   |cons r1 r2=>
    unfold nW putD;split
    .exact .cons rv r2
    .exact .cons r1 (ih h2 r2)
theorem Kp.adG{H:Hp}{p:Addr}{C dx:Addr}{fv:@cd}{o:HO}(hp:H p=some (.ins C dx fv)):Kp H (upd H p o) :=
 ⟨λa xs e=>by rw[ck (by ext d;rw[hp] at e;cases e)];exact e,λa ob u e=>by rw[ck (by ext d;rw[hp] at e;cases e)];exact e⟩
section
variable {X:Cx} {o value:Expr} {to tv:gE} {f:Str} {al:@D} {pos pos':Pos}
theorem Qg(cl:∀c∈al,VR X.K f c)(ho:eS X o to)(hv:eS X value tv)(hs:autoParam (rQ value (some (.Attribute o f pos')) pos.line X.env=pure false) Ar._auto_1):yY X (.Assign [.Attribute o f pos'] value pos) (ja al f to tv):=by
 ext t;refine plainObj_wpAny_Assign_Attribute (kG hv hE I h λy H1 d G1 u s1 I1 m1 r1 jH q1=>kG ho hE I1 q1 λx H2 d2 G2 ov s2 lY m2 r2 De q2=>?_) hs;obtain⟨a,c,fs,rfl,hg,hc,hl,q⟩:=q2;cases De;cases r2;obtain⟨C,dx,fv,hH,Fs,hn,rs⟩:=lY.ab a _ hg;obtain⟨C',Kk,xp,Yy⟩:=cl c hc;rw[Fs] at Kk;cases Kk;have hlen:fv.length=fs.length:=by have:=congrArg c7 hn;ext p
 have adA:=jH.mono (m2.kp I1.ab);refine JG lY.inv hH xp Yy @c r1 λs3 I3=>?_;have k:Kp H2 (upd H2 a (.ins C dx (nW f y fv))):=.adG hH;have m3:Mv X.K H2 G2 (upd H2 a (.ins C dx (nW f y fv))) (cJ G2 a (.ins c (putD f d fs))):=.put lY.ab hg k ⟨C,dx,nW f y fv,dq,Fs,Nm hn,(Qd adA hn rs).mono k⟩;exact⟨σ,_,τ,_,lY.mv I3 m3,(@cE).trans m3,q⟩
end
section
variable {X:Cx} {k:Nat} {C f:Addr} {fd:dQ} {ps:@D} {sp:gM} {x:Str} {p pos:Pos} {e:Expr} {es:@aX} {t:Bb}
theorem Qv(M:Mk X.K C f)(Fs:qe X.K bJ x=@cz)(F:rG X.prog X.w X.K X.mg X.base yb k f fd ps (mx X.K sp))(hr:jj (k+1) X.A)(hg:Gl X x)(hm:X.mg x=some @aP)(hb:Binds X.K fd ps [])
  (ha:zO X (e::es) t) (HP:@c6) (he:@dL) (oX:autoParam @dg Ar._auto_1):
  eS X (.Call (.Name x p) (e::es) [] pos) (oE x sp t):=by
 ext i;refine fT (Fm I.inv hg hm ?_ HP);refine zT (h₀:=X.base) I.inv.ok.mod.Vc M.kp (Bo ha pos hE I h λvs H1 ds G1 us s1 I1 m1 r rd q=>⟨I1.inv.D7,?_⟩) he oX;refine gT (P2 M F hr hb .nil QA I1.inv r (Q:=Dv X.K H1 G1 Q) λy dx hy hdx iV=>?_) λ_ _ z=>(rg.of z).trans m1;rw[bC];have m2:Mv X.K H1 G1 (upd H1 dx (.own y)) G1:=.Mb I1.ab hdx;have hy2:(upd H1 dx (.own y)) y=none:=by rw[ck iV.symm];exact hy
 have m3:Mv X.K (upd H1 dx (.own y)) G1 (upd (upd H1 dx (.own y)) y (.ins C dx [])) (cJ G1 y (.ins x [])):=.new m2.ab hy2 ⟨C,dx,[],dq,Fs,rfl,.nil⟩;have m:=m2.trans m3;refine⟨.ref y::ds,cJ G1 y (.ins x []),λv G2=>v=.cY/\Q (.ref y) G2,.cons (.ref y) (rd.mono (m.kp I1.ab)),m.ab,q y (I1.ab.free hy),λd G' v H' q' m' V5=>?_⟩;obtain⟨rfl,q'⟩:=q';cases V5;exact⟨rfl,.ref y,G',m.trans m',.ref y,q'⟩
end
theorem NU:∀(fs:@c4) (fv:@cd),fv.map @N=fs.map @N->fs.lookup m=none->fv.lookup m=none:=by
 intro fs;induction fs with
 |nil=>
  intro fv h _;have:fv=[]:=@bZ
  ext c;rfl
 | cons p fs ih=>
  intro fv h hl;cases fv with
  |nil=>cases h
  |cons q fv=>
   obtain⟨pk,pd⟩:=p;obtain⟨qk,qv⟩:=q;rw[aq,aq] at h;injection h with h1 h2
   have h1:qk=pk:=h1;subst h1;rw[kB] at hl ⊢;cases hb:m == qk with
   |true=>rw[hb] at hl;cases hl
   |false=>rw[hb] at hl;exact ih fv h2 hl
section
variable {X:Cx} {k:Nat} {C f:Addr} {fd:dQ} {ps:@D} {sp:gM} {cn m:Str} {apos pos:Pos} {o e:Expr} {es:@aX} {to:gE} {t:Bb}
structure MK(K:ay)(cn m:Str)(C f:Addr):Prop where
 ns:qe K bJ cn=@cz
 cl:WJ K C
 me:Meth K C m f
end
def OP(X:Cx)(m:Str)(p:Str×gM):Prop:=∃(C f:Addr) (fd:dQ) (ps:@D) (k:Nat),MK X.K p.1 m C f/\rG X.prog X.w X.K X.mg X.base yb k f fd ps (mx X.K p.2)/\jj k X.A/\Binds X.K fd ps []
theorem QN:∀p∈([]:List (Str×gM)),OP X m p:=λp h=>@a8
theorem NP(M:MK X.K c m C f)(F:rG X.prog X.w X.K X.mg X.base yb k f fd ps (mx X.K sp))(hr:jj k X.A)(hb:Binds X.K fd ps [])(t:∀p∈ms,OP X m p):∀p∈(c,sp)::ms,OP X m p:=λp h=>by
 rcases @dh with rfl |h
 .exact⟨C,f,fd,ps,k,M,F,hr,hb⟩
 .exact t p h
section
variable {X:Cx} {ms:List (Str×gM)} {m:Str} {apos pos:Pos} {o e:Expr} {es:@aX} {to:gE} {t:Bb}
theorem NA(Ms:∀p∈ms,OP X m p)(ho:eS X o to)(ha:zO X (e::es) t)
  (Fq:@dL) (oX:autoParam @dg Ar._auto_1)
  (ht:autoParam (eval (.Call (.Attribute o m apos) (e::es) [] pos) X.env=(do
   let ov ← eval o X.env
   standAt apos.atName
   let (f,first) ← ym [ov] (getMethod ov m pl)
   callWith pos f first (jP pos (bF (e::es) X.env)) (backToKw pos (keywordEach [] X.env)))) Ar._auto_1):
  eS X (.Call (.Attribute o m apos) (e::es) [] pos) (iW ms m to t):=by
 ext i;refine PySem.W.methodCall_KW (pl:=pl) (kG ho hE I h λx H1 d G1 u s1 I1 m1 r1 jH q1=>?_) ht;obtain⟨a,c,fs,sp,rfl,hg,hms,hl,q⟩:=q1;obtain⟨C,f,fd,ps,k,M,F,hr,hb⟩:=Ms _ hms;cases jH;cases r1;obtain⟨C',dx,fv,hH,Fs,hn,rs⟩:=I1.ab a _ hg;have Kk:=M.ns.symm.trans Fs;cases Kk;refine Km I1.inv hH M.cl M.me (NU fs fv hn hl) ?_;refine zT (first:=[@ar]) (h₀:=X.base) I.inv.ok.mod.Vc M.me.kp (Bo ha pos hE I1 q λvs H2 ds G2 us s2 lY m2 r rd q2=>⟨lY.inv.D7,?_⟩) Fq oX;refine gT (P5 (us:=@ar::us) (vs:=@ar::vs) F hr hb .nil QA lY.inv (.cons rfl r) (Q:=Dv X.K H2 G2 Q) ?_) λ_ _ z=>(rg.of z).trans (@cE);rw[bC];exact⟨@ar::ds,G2,Q,.cons @U rd,lY.ab,q2,λd G' v H' q' m' V5=>⟨d,G',m',V5,q'⟩⟩
end
end K2
end
section
namespace K2
open PySem PySem.W PySem.Spec PyProof.Rows L2
structure CAt(K:Frag)(cn:Str)(C:Addr):Prop where
 ns:nsIn K bJ cn=@cz
 cl:WJ K C
theorem Y8 {K:Frag}   (a:autoParam (nsIn K bJ cn=@cz) Aq._auto_1) (pg:autoParam (plainGet K C Str.empty=true) Aq._auto_1) (hd:autoParam (hasDictIn K C=true) Aq._auto_1) (po:autoParam (plainOver K C=true) Aq._auto_1) (sa:autoParam (findIn K @aP "__setattr__"=some (some (.builtin "object.__setattr__"))) Aq._auto_1):CAt K cn C:=⟨a,⟨pg,hd,po,sa⟩⟩
structure Zs(K:Frag)(C:Addr)(m q:Str)(st:Stmt)(f:Addr)(fd:dQ):Prop where
 at_:findIn K @aP m=some (some @aD)
 fn:isFn K @aD=true
 F:L2.Ta K m q st f fd
theorem X7{K:Frag}{st:Stmt}{kV:Value}(a:autoParam (findIn K @aP m=some (some @aD)) Aq._auto_1)(fn:autoParam (isFn K @aD=true) Aq._auto_1)(l:autoParam (K.lookup f=some ⟨oc,od,.func (fnOf m q (L2.gQ st) (L2.fx st) (L2.cD st) .none kV doc pm an i7 ct),JS⟩) Aq._auto_1)
  (c:autoParam (codeIn K i7 q=true) Aq._auto_1) (k:autoParam (keepIn K @aD=true) Aq._auto_1):Zs K C m q st f (fnOf m q (L2.gQ st) (L2.fx st) (L2.cD st) .none kV doc pm an i7 ct):=⟨a,fn,L2.RN l c k⟩
theorem Zs.me{K:Frag}{st:Stmt}(z:Zs K C m q st f fd)(c:CAt K cn C):MK K cn m C f:=⟨c.ns,c.cl,⟨z.at_,z.fn,z.F.kp⟩⟩
theorem Zs.maker {K:Frag}   {st:Stmt}   (z:Zs K C "__init__" q st f fd) (mk:makesIn K C=true) (kp:keepIn K @aP=true):Mk K C f:=⟨mk,z.at_,z.fn,kp⟩
structure afA(P:bR)(w:World)(K:Frag)(mg:@aU)(base:Heap)(CX:L2.K0)(k:Nat)(f:Addr)(fd:dQ)(C:Addr)(cn m:Str)(ps:@D)(sp:L2.Sp):Prop where
 ok:L2.rG P w K mg base CX k f fd ps sp
 bi:L2.Binds K fd ps []
 me:MK K cn m C f
structure afB(P:bR)(w:World)(K:Frag)(mg:@aU)(base:Heap)(k:Nat)(f:Addr)(fd:dQ)(C:Addr)(cn:Str)(ps:@D)(sp:L2.Sp):Prop where
 ok:L2.rG P w K mg base yb k f fd ps sp
 bi:L2.Binds K fd ps []
 mkr:Mk K C f
 ns:nsIn K bJ cn=@cz
 mg:mg cn=some @aP
end K2
end
section
namespace K2
open PySem PySem.W PySem.Spec PyProof.Rows PySem.Calls
structure At(K:Frag)(x:Str)(st:Stmt)(f:Addr)(fd:dQ):Prop where
 a:nsIn K bJ x=some (some @aD)
 F:L2.Ta K x x st f fd
theorem WB{K:Frag}{st:Stmt}(a:autoParam (nsIn K bJ x=some (some @aD)) Aq._auto_1)(l:autoParam (K.lookup f=some ⟨oc,od,.func (fnOf x x (L2.gQ st) (L2.fx st) (L2.cD st) .none kV doc pm an i7 ct),JS⟩) Aq._auto_1)
  (c:autoParam (codeIn K i7 x=true) Aq._auto_1) (k:autoParam (keepIn K @aD=true) Aq._auto_1):At K x st f (fnOf x x (L2.gQ st) (L2.fx st) (L2.cD st) .none kV doc pm an i7 ct):=⟨a,L2.RN l c k⟩
structure Cal(P:bR)(w:World)(K:Frag)(mg:@aU)(base:Heap)(CX:L2.K0)(k:Nat)(f:Addr)(fd:dQ)(x:Str)(ps:@D)(sp:L2.Sp):Prop where
 ok:L2.rG P w K mg base CX k f fd ps sp
 mg:mg x=some @aD
 kp:keepIn K @aD=true
 bi:L2.Binds K fd ps []
end K2
end
section
namespace K2
open PySem PySem.W PySem.Spec PyProof.Rows L2
structure MM where
 P:bR
 w:World
 K:Frag
 mg:@aU
 base:Heap
inductive IY (V:MM):Prop
 |mk {h:Heap}:V.K.In h->h.Ns bJ V.mg->IY V
theorem IY.mg{V:MM}(Y:IY V)(a:nsIn V.K bJ x=some (@Q)):V.mg x=@Q:=by obtain⟨X,G⟩:=Y;exact mg_of X G a
theorem IY.no{V:MM}(Y:IY V)(a:nsIn V.K bJ x=some none):V.mg x=none:=by obtain⟨X,G⟩:=Y;exact mg_none_of X G a
inductive ClZ (V:MM) (CX:K0) (k:Nat) (x:Str) (ps:@D) (sp:Sp):Prop
 |mk {f:Addr} {fd:dQ}:Cal V.P V.w V.K V.mg V.base CX k f fd x ps sp->ClZ V CX k x ps sp
abbrev ma(V:MM)(k:Nat)(x:Str)(ps:@D)(sp:gM):Prop:=ClZ V yb k x ps (mx V.K sp)
inductive md (K:Frag) (x:Str) (st:Stmt):Prop
 |mk {f:Addr} {fd:dQ}:At K x st f fd->md K x st
theorem eA{K:Frag}{st:Stmt}{kV:Value}(a:autoParam (nsIn K bJ x=some (some @aD)) Aq._auto_1)(l:autoParam (K.lookup f=some ⟨oc,od,.func (fnOf x x (L2.gQ st) (L2.fx st) (L2.cD st) .none kV doc pm an i7 ct),JS⟩) Aq._auto_1)
  (c:autoParam (codeIn K i7 x=true) Aq._auto_1) (k:autoParam (keepIn K @aD=true) Aq._auto_1):md K x st:=⟨WB a l c k⟩
theorem fo3{V:MM}{x:Str}{st:Stmt}{ps:@D}{k:Nat}{sp:gM}{rd:fZ}(Nn:@D)(Y:IY V)(F:md V.K x st)
  (hr:∀ds G Q,sp ds G Q @p->rd @p @B (@dn) G)
  (hb:∀{f:Addr} {i7:Value} {A:dD} {outer:@b3} {s:aE} {H:Hp} {E:XK},jj k (A.deeper (Gx x @a3 s.heap.objs.size f i7))->Nn.Nodup->tT (FR yb V.P V.w V.K V.mg V.base Nn x @a3 f i7 A outer s H E).X3 (fx st) rd)
  (S:autoParam (ku Nn ps @a3) Aua._auto_1)
  (bn:autoParam (∀(kV doc pm:Value) (an:Option Addr) (i7 ct:Value) (us:@C),us.length=ps.length->OU (fnOf x x (gQ st) (fx st) @a3 .none kV doc pm an i7 ct) ⟨us,[]⟩=pure (ps.zip us)) Aub._auto_1)
  (len:autoParam (∀ds G Q E,sp ds G Q E->ds.length=ps.length) Auc._auto_1):ma V (k+1) x ps sp:=by
 obtain⟨z⟩:=F;exact⟨⟨A5 z.F S len hr λ_ _ _ _ _ _ r=>hb r S.nd,Y.mg z.a,z.F.kp,z.F.binds bn⟩⟩
noncomputable def WV(sc:Scope)(x:Str):Bool:=match @cG with
 |some .local=>true
 |some .cell=>true
 |some .free=>true
 |_=>false
noncomputable def U9(sc:Scope)(x:Str):Bool:=match @cG with
 |some .local=>true
 |some .cell=>true
 |_=>false
theorem WU(h:WV sc x=true):Vis sc x:=by
 unfold WV at h;split at h
 .exact .inl (by assumption)
 .exact .inr (.inl (by assumption))
 .exact .inr (.inr (by assumption))
 .cases h
theorem QU(h:U9 sc x=true):Loc sc x:=by
 unfold U9 at h;split at h
 .exact .inl (by assumption)
 .exact .inr (by assumption)
 .cases h
theorem Pf(h:autoParam (X.env.kindOf x=some .globalImplicit) Ac._auto_1):Gl X x:=h
noncomputable def okN (x:Str):Bool:=!(x == ("__debug__":Str))&&!(x == ("__classdict__":Str))
theorem okN.d  (h:okN x=true):(x == ("__debug__":Str))=false:=by unfold okN at h;simp only[aP,jS] at h;exact h.1
theorem okN.c  (h:okN x=true):(x == ("__classdict__":Str))=false:=by unfold okN at h;simp only[aP,jS] at h;exact h.2
section
variable {X:Cx} {x:Str} {i:Nat} {pos pos':Pos} {e:Expr} {te:gE} {es:@aX} {t:Bb}
theorem pvK(hN:autoParam (X.N[i]?=@ak) Ac._auto_1)(hv:autoParam (WV X.env.scope x=true) Ac._auto_1)(hd:autoParam (okN x=true) Ac._auto_1):eS X (.Name x pos) (ak i):=UA hN (WU hv) (okN.d hd) (okN.c hd)
theorem pgK(hN:X.N.Nodup)(hi:autoParam (X.N[i]?=@ak) Ac._auto_1)(hx:autoParam (U9 X.env.scope x=true) Ac._auto_1)(hf:autoParam ((X.fn x||@da == @bB)=true) Ac._auto_1):CW X (.Name x pos) (aI i) :=
 Qr hN hi (QU hx) (by rcases(dP _ _).mp hf with h |h;exact .inl h;exact .inr (eq_of_beq h))
theorem psK(hN:X.N.Nodup)(he:eS X e te)(hi:autoParam (X.N[i]?=@ak) Ac._auto_1)(hx:autoParam (U9 X.env.scope x=true) Ac._auto_1)(hs:autoParam (rQ e (some (.Name x pos')) pos.line X.env=pure false) Ac._auto_1)(hf:autoParam ((X.fn x||@da == @bB)=true) Ac._auto_1):
  yY X (.Assign [.Name x pos'] e pos) (bx te (aI i)):=Uk hN hi (QU hx) he hs (by rcases(dP _ _).mp hf with h |h;exact .inl h;exact .inr (eq_of_beq h))
theorem paK(ha:eS X e te)(hr:zO X es t)(hs:@dQ):zO X (e::es) (ah te t):=sY ha hr hs
end
def Ph(K:Frag)(l:@D):Prop:=∀x∈l,nsIn K bJ x=some none
theorem U3{K:Frag}:Ph K []:=λx h=>@a8
theorem QH{K:Frag}(t:Ph K l)(h:autoParam (nsIn K bJ x=some none) Aq._auto_1):Ph K (x::l):=λy hy=>by
 rcases List.mem_cons.mp hy with rfl |hy
 .exact h
 .exact t y hy
structure NmZ(X:Cx)(N:@D)(sc:Scope):Prop where
 n:X.N=N
 s:X.env.scope=sc
noncomputable def nmE:Expr->Str
 |.Name x _=>x
 |_=>""
def Mz(tg:Expr)(XN:@D)(fr:@aE):@D:=(match tg with
 |.Tuple es _ _=>es.map nmE
 |e=>[nmE e])++fr.map λi=>XN.getD i ""
noncomputable abbrev VX(X:Cx):MM:=⟨X.prog,X.w,X.K,X.mg,X.base⟩
section
variable {X:Cx} {l XN:@D} {x:Str} {sc scope:Scope} {tg elt iter:Expr} {ifs:@aX} {pos:Pos} {m:Nat} {fr:@aE} {wi:SD} {g:CV} {c:Option yX} {te:gE}
theorem noX(Y:IY (VX X))(N:Ph X.K l)(h:autoParam (x∈l) Ad._auto_1):X.mg x=none:=Y.no (N x h)
theorem XF(hx:NmZ X XN sc)(hi:IB X tg iter wi)(hg:(@cC).Nodup->∀C s H fp,CW (dH X (@cC) scope C s H fp) tg g)(Rt:∀C s H fp,VO (dH X (@cC) scope C s H fp) ifs c)(he:∀C s H fp,eS (dH X (@cC) scope C s H fp) elt te)
  (hn:autoParam ((@cC).Nodup) Ak._auto_1) (hb:autoParam (uF (@cC) scope m fr sc XN=true) Ak._auto_1) (hc:autoParam (@bk) Ac._auto_1) (hs:autoParam (@dv) Aud._auto_1):eS X @cL (eC m fr wi g c te) :=
 Qx (@cC) hi (hg hn) Rt he hx.s hx.n hb hc hs
theorem Xr(hx:NmZ X XN sc)(hN:X.N.Nodup)(hi:IB X tg iter wi)(hg:(@cC).Nodup->∀C s H fp,CW (dH X (@cC) scope C s H fp) tg g)(Rt:∀C s H fp,VO (dH X (@cC) scope C s H fp) ifs c)(he:∀C s H fp,eS (dH X (@cC) scope C s H fp) elt te)
  (hyi:autoParam (X.N[i]?=some y) Ac._auto_1) (hy:autoParam (X.env.scope.names.lookup y=@bB) Ac._auto_1) (hn:autoParam ((@cC).Nodup) Ak._auto_1) (hb:autoParam (uF (@cC) scope m fr sc XN=true) Ak._auto_1) (hc:autoParam (@bk) Ac._auto_1)
  (hsw:autoParam (rQ @cL (some (@b4)) GY.line X.env=pure true) Ar._auto_1) (hs:autoParam (@dv) Aud._auto_1):
  yY X (.Assign [@b4] @cL GY) (bx (eC m fr wi g c te) (aI i)) :=
 Qh (@cC) hN hyi hy hi (hg hn) Rt he hx.s hx.n hb hc hsw hs
end
def CsZ(K:Frag)(x:Str)(i:Int):Prop:=∃t:Tok,nsIn K bJ x=some (some (.int i t))
theorem Y4{K:Frag}(h:autoParam (nsIn K bJ x=some (some (.int i t))) Aq._auto_1):CsZ K x i:=⟨t,h⟩
section
variable {X:Cx} {x:Str} {p px pos:Pos}
theorem UL  (Y:IY (VX X)) (c:CsZ X.K x i) (hg:autoParam (Gl X x) Aue._auto_1) (hd:@c6):eS X (.Name x p) (dC (@M)):=by
 obtain⟨t,h⟩:=c;exact UK hg (Y.mg h) hd
end
section
variable {X:Cx} {e:Expr} {es:@aX} {t:Bb} {pos p:Pos} {x:Str} {k n:Nat} {ps:@D} {sp:gM}
theorem adJ(c:ma (VX X) k x ps sp)(hr:jj n X.A)(ha:zO X (e::es) t)(hk:autoParam (Nat.ble k n=true) Ac._auto_1)(hg:autoParam (Gl X x) Aue._auto_1)(HP:autoParam (okN x=true) Ac._auto_1)(he:@dQ)(oX:autoParam @dg Ac._auto_1):
  eS X (.Call (.Name x p) (e::es) [] pos) (aS sp t):=by
 obtain⟨c⟩:=c;exact Qy c.ok (hr.mono (jK hk)) hg c.mg c.kp c.bi ha (okN.d HP) he oX
end
theorem mem_cons{p:Str->Prop}(t:∀c,l.contains c=true->p c)(h:p x):∀c,(x::l).contains c=true->p c:=Si h t
section
variable {X:Cx} {x name id T:_root_.String} {l:@D} {y:Str} {a b o e c:Expr} {es:@aX} {ta tb to te:gE} {t:Bb} {p pos apos uR PL:Pos} {r:@e->Gp->DK->Prop} {tg iter:Expr} {body:List Stmt} {wi:SD} {g:CV} {u:fZ}
theorem XI (hc:kY X (.builtin id) r) (hv:c8 y=some (.builtin id)) (Y:IY (VX X)) (N:Ph X.K l) (ha:zO X (e::es) t) (h:autoParam (y∈l) Ad._auto_1) (hg:autoParam (Gl X y) Aue._auto_1) (hn:autoParam (y≠"__name__") Ad._auto_1) (HP:autoParam (okN y=true) Ac._auto_1)
  (he:@dQ) (oX:autoParam @dg Ac._auto_1):eS X (.Call (.Name y p) (e::es) [] pos) (jV r t):=NC hc hg (Y.no (N _ h)) hv ha hn (okN.d HP) he oX
theorem ptK (hc:kY X (.type T) r) (hv:c8 y=some (.type T)) (Y:IY (VX X)) (N:Ph X.K l) (ha:zO X (e::es) t) (h:autoParam (y∈l) Ad._auto_1) (hg:autoParam (Gl X y) Aue._auto_1) (hn:autoParam (y≠"__name__") Ad._auto_1) (HP:autoParam (okN y=true) Ac._auto_1)
  (he:@dQ) (oX:autoParam @dg Ac._auto_1):eS X (.Call (.Name y p) (e::es) [] pos) (jV r t):=JQ hc hg (Y.no (N _ h)) hv ha hn (okN.d HP) he oX
theorem pmK {name:Str}  {r:D->@e->Gp->DK->Prop} (pa:PlainAttrs T) (slot:Slot T name id) (hty:typeOf (.builtin id)=pure (.type "method_descriptor")) (ht:VL X T ty) (hm:OO X id r) (ho:eS X o to) (ha:zO X (e::es) t)
  (Ry:autoParam (yn o name X.env (eval o X.env)=eval o X.env) Ac._auto_1)
  (Vk:autoParam (((jP uR (bF (e::es) X.env)).all (λx=>!x.1)&&(backToKw uR (keywordEach [] X.env)).all (λx=>x.1.isSome)
   && decide ((e::es).length+([]:List Keyword).length+(if([]:List Keyword).isEmpty then 0 else 1)<30))=true) Ac._auto_1)
  (Rp:autoParam ((apos.endLine == uR.line)=true) Ac._auto_1) (hs:@dQ) (Kj:autoParam ((jP uR (bF es X.env)).any @N=false) Ac._auto_1):
  eS X (.Call (.Attribute o name apos) (e::es) [] uR) (mU ty r to t):=XG pa slot hty ht hm ho ha Ry Vk Rp hs Kj
theorem pfK(hp:PassesOwn @q X.A X.env X.xe)(hi:IB X tg iter wi)(hg:CW X tg g)(hb:tT X body u)(hc:autoParam (@bk) Ac._auto_1)(hs:autoParam (@dv) Aud._auto_1):yY X (.For tg iter body [] pos) (fy wi g u):=Uo hp hc hi hg hb hs
theorem pxK(he:eS X e te)(hs:autoParam (rQ e none pos.line X.env=pure false) Ac._auto_1):yY X (.Expr e pos) (cW te):=Qi he hs
theorem pqK(he:eS X e te)(hg:CW X tg g)(hs:autoParam (swapsWithSole [tg] e pos.line X.env=pure false) Ac._auto_1)(hw:autoParam (swappedStores [tg] e X.env=pure none) Ac._auto_1)(h1:autoParam ((v5 [tg] X.env).map (·.2)=[Gy tg X.env]) Ac._auto_1):yY X (.Assign [tg] e pos) (bx te g):=Uq he hg hs hw h1
theorem pzK(ha:@bh)(he:autoParam (∀whole,isTrue a X.env whole=(do let v ← whole;standAt a.pos;ym [v] (truthy v))) Aud._auto_1):EB X a (eW ta):=Nq ha he
theorem pyK(hu:@ce)(ho:eS X o to)(hi:eS X i ti)
  (ha:autoParam (∀v,Gy (.Subscript o i pos) X.env v=(do
   let ov ← ym [v] (eval o X.env)
   let iv ← ym [v,ov] (eval i X.env)
   standAt pos
   ym [v,ov,iv] (setItem ov iv v)
   release [v,ov,iv] [])) Aud._auto_1):CW X (.Subscript o i pos) (pR to ti):=Uy hu ho hi ha
end
def SO:@D->(@C->Prop)->Prop
 |[],P=>P []
 |_::r,P=>∀a,SO r λus=>P (a::us)
theorem Ba:∀(ps:@D) {P:@C->Prop},SO ps P->∀us:@C,us.length=ps.length->P us
 |[],_,h,[],_=>h
 |_::ps,_,h,a::us,e=>Ba ps (h a) us (Nat.succ.inj e)
abbrev Y1(V:MM)(Nn:@D)(x:Str)(sc:Scope)(f:Addr)(i7:Value)(A:dD)(outer:@b3)(s:aE)(H:Hp)(E:XK):Cx:=(FR yb V.P V.w V.K V.mg V.base Nn x sc f i7 A outer s H E).X3
abbrev BdZ(V:MM)(l:@D)(k:Nat)(Nn:@D)(x:Str)(sc:Scope)(b:List Stmt)(rd:fZ):Prop:=∀{f:Addr} {i7:Value} {A:dD} {outer:@b3} {s:aE} {H:Hp} {E:XK},jj k (Y1 V Nn x sc f i7 A outer s H E).A->(Y1 V Nn x sc f i7 A outer s H E).A.units+64<cLine->(Y1 V Nn x sc f i7 A outer s H E).A.units<cLine->(Y1 V Nn x sc f i7 A outer s H E).N.Nodup->NmZ (Y1 V Nn x sc f i7 A outer s H E) Nn sc->IY (VX (Y1 V Nn x sc f i7 A outer s H E))->Ph V.K l->tT (Y1 V Nn x sc f i7 A outer s H E) b rd
section
variable {V:MM} {x:Str} {st:Stmt} {ps l:@D} {k:Nat} {sp:gM} {rd:fZ}
theorem nF(Nn:@D)(Y:IY V)(N:Ph V.K l)(F:md V.K x st)(hr:∀ds G Q,sp ds G Q @p->rd @p @B (@dn) G)(hb:BdZ V l k Nn x @a3 (fx st) rd)
  (S:autoParam (ku Nn ps @a3) Aua._auto_1)
  (bn:autoParam (∀(kV doc pm:Value) (an:Option Addr) (i7 ct:Value),SO ps λus=>OU (fnOf x x (gQ st) (fx st) @a3 .none kV doc pm an i7 ct) ⟨us,[]⟩=pure (ps.zip us)) Auf._auto_1)
  (len:autoParam (∀ds G Q E,sp ds G Q E->ds.length=ps.length) Auc._auto_1):ma V (k+1) x ps sp :=
 fo3 Nn Y F hr (λ{f i7 A outer s H E} r nd=>hb r r.units r.EN nd @ao Y N) S (λa b c d e f us hl=>Ba ps (bn a b c d e f) us hl) len
theorem aff{f:Addr}{fd:dQ}{Nn:@D}(S:ku Nn ps @a3)(Y:IY V)(N:Ph V.K l)(F:Ta V.K x x st f fd)(hr:∀ds G Q,sp ds G Q @p->rd @p @B (@dn) G)(hb:BdZ V l k Nn x @a3 (fx st) rd)
  (len:autoParam (∀ds G Q E,sp ds G Q E->ds.length=ps.length) Auc._auto_1):rG V.P V.w V.K V.mg V.base yb (k+1) f fd ps (mx V.K sp) :=
 A5 F S len hr λi7 A outer s H E r=>hb r r.units r.EN S.nd @ao Y N
end
def WM(K:Frag)(cn:Str):Prop:=∃C:Addr,CAt K cn C
theorem gL{K:Frag}(h:autoParam (CAt K cn C) Aug._auto_1):WM K cn:=⟨C,h⟩
inductive Gw (K:Frag) (cn m q:Str) (st:Stmt):Prop
 |mk {C f:Addr} {fd:dQ}:nsIn K bJ cn=@cz->Zs K C m q st f fd->Gw K cn m q st
theorem km{K:Frag}{st:Stmt}(h:autoParam (nsIn K bJ cn=@cz) Aq._auto_1)(z:autoParam (Zs K C m q st f fd) Auh._auto_1):Gw K cn m q st:=⟨h,z⟩
def Zp(K:Frag)(cn:Str):Prop:=∃C:Addr,nsIn K bJ cn=@cz/\makesIn K C=true/\keepIn K @aP=true
theorem BP{K:Frag}(h:autoParam (nsIn K bJ cn=@cz) Aq._auto_1)(h1:autoParam (makesIn K C=true) Aq._auto_1)(h2:autoParam (keepIn K @aP=true) Aq._auto_1):Zp K cn:=⟨C,h,h1,h2⟩
def WI(K:Frag)(l:List (Str×Str)):Prop:=∀p∈l,VR K p.2 p.1
theorem Vo{K:Frag}:WI K []:=λx h=>@a8
theorem fX{K:Frag}(t:WI K l)(a:WM K c)(h:autoParam (nsIn K bJ c=@cz) Aq._auto_1)(n:autoParam (findIn K @aP f=some none) Aq._auto_1):WI K ((c,f)::l):=λy hy=>by
 rcases List.mem_cons.mp hy with rfl |hy
 .obtain⟨D,a⟩:=a;have e:=a.ns.symm.trans h;cases e;exact⟨_,h,a.cl,n⟩
 .exact t y hy
inductive Pk (V:MM) (CX:K0) (k:Nat) (cn m:Str) (ps:@D) (sp:Sp):Prop
 |mk {f:Addr} {fd:dQ} {C:Addr}:afA V.P V.w V.K V.mg V.base CX k f fd C cn m ps sp->Pk V CX k cn m ps sp
inductive WK (V:MM) (k:Nat) (cn:Str) (ps:@D) (sp:gM):Prop
 |mk {f:Addr} {fd:dQ} {C:Addr}:afB V.P V.w V.K V.mg V.base k f fd C cn ps (mx V.K sp)->WK V k cn ps sp
section
variable {X:Cx} {e o a value:Expr} {es:@aX} {te to ta tv:gE} {f x m cn y:Str} {al all sub l ps:@D} {fl:List (Str×Str)} {pos p pos' py:Pos} {t:Bb} {k n:Nat} {sp:gM} {ms:List (Str×gM)}
theorem WI.get(z:WI X.K fl)(h:(al.all λc=>decide ((c,f)∈fl))=true):∀c∈al,VR X.K f c:=λc hc=>z (c,f) (of_decide_eq_true (List.all_eq_true.mp h c hc))
theorem UN(z:WI X.K fl)(he:eS X e te)(h:autoParam ((al.all λc=>decide ((c,f)∈fl))=true) Ac._auto_1)(hb:autoParam (yn e f X.env (eval e X.env)=eval e X.env) Ac._auto_1):eS X (.Attribute e f pos) (c6 al f te):=Qz (z.get h) he hb
theorem Uj(z:WI X.K fl)(ho:eS X o to)(hv:eS X value tv)(h:autoParam ((al.all λc=>decide ((c,f)∈fl))=true) Ac._auto_1)(hs:autoParam (rQ value (some (.Attribute o f pos')) pos.line X.env=pure false) Ac._auto_1):yY X (.Assign [.Attribute o f pos'] value pos) (ja al f to tv):=Qg (z.get h) ho hv hs
theorem UG(c:WK (VX X) k x ps sp)(hr:jj n X.A)(ha:zO X (e::es) t)(hk:autoParam (Nat.ble (k+1) n=true) Ac._auto_1)(hg:autoParam (Gl X x) Aue._auto_1)(HP:autoParam (okN x=true) Ac._auto_1)(he:@dQ)(oX:autoParam @dg Ac._auto_1):
  eS X (.Call (.Name x p) (e::es) [] pos) (oE x sp t):=by
 obtain⟨c⟩:=c;exact Qv c.mkr c.ns c.ok (hr.mono (jK hk)) hg c.mg c.bi ha (okN.d HP) he oX
theorem aaH(c:Pk (VX X) yb k cn m ps (mx X.K sp))(hr:jj n X.A)(t:∀p∈ms,OP X m p)(hk:autoParam (Nat.ble k n=true) Ac._auto_1):∀p∈(cn,sp)::ms,OP X m p:=by
 obtain⟨c⟩:=c;exact NP c.me c.ok (hr.mono (jK hk)) c.bi t
end
section
variable {V:MM} {cn m q:Str} {st:Stmt} {ps l:@D} {k:Nat} {sp:gM} {rd:fZ}
theorem Fx(Nn:@D)(Y:IY V)(N:Ph V.K l)(c:WM V.K cn)(F:Gw V.K cn m q st)(hr:∀ds G Q,sp ds G Q @p->rd @p @B (@dn) G)(hb:BdZ V l k Nn q @a3 (fx st) rd)
  (S:autoParam (ku Nn ps @a3) Aua._auto_1)
  (bn:autoParam (∀(kV doc pm:Value) (an:Option Addr) (i7 ct:Value),SO ps λus=>OU (fnOf m q (gQ st) (fx st) @a3 .none kV doc pm an i7 ct) ⟨us,[]⟩=pure (ps.zip us)) Auf._auto_1)
  (len:autoParam (∀ds G Q E,sp ds G Q E->ds.length=ps.length) Auc._auto_1):Pk V yb (k+1) cn m ps (mx V.K sp):=by
 obtain⟨C,c⟩:=c;obtain⟨h,z⟩:=F;have e:=c.ns.symm.trans h;cases e;exact⟨⟨A5 z.F S len hr λi7 A outer s H E r=>hb r r.units r.EN S.nd @ao Y N,z.F.binds λa b c d e f us hl=>Ba ps (bn a b c d e f) us hl,z.me c⟩⟩
theorem RO (Nn:@D) (Y:IY V) (N:Ph V.K l) (c:Zp V.K cn) (F:Gw V.K cn "__init__" q st) (hr:∀ds G Q,sp ds G Q @p->rd @p @B (@dn) G) (hb:BdZ V l k Nn q @a3 (fx st) rd)
  (S:autoParam (ku Nn ps @a3) Aua._auto_1)
  (bn:autoParam (∀(kV doc pm:Value) (an:Option Addr) (i7 ct:Value),SO ps λus=>OU (fnOf "__init__" q (gQ st) (fx st) @a3 .none kV doc pm an i7 ct) ⟨us,[]⟩=pure (ps.zip us)) Auf._auto_1)
  (len:autoParam (∀ds G Q E,sp ds G Q E->ds.length=ps.length) Auc._auto_1):WK V (k+1) cn ps sp:=by
 obtain⟨C,c,mk,kp⟩:=c;obtain⟨h,z⟩:=F;have e:=c.symm.trans h;cases e;exact⟨⟨A5 z.F S len hr λi7 A outer s H E r=>hb r r.units r.EN S.nd @ao Y N,z.F.binds λa b c d e f us hl=>Ba ps (bn a b c d e f) us hl,z.maker mk kp,c,Y.mg c⟩⟩
end
end K2
end
section
namespace K2
open PySem (Str)
open Enc (enc)
theorem R3 [@W] [@ai](xs:@s):(enc xs:D)=.dg @aY:=rfl
theorem fM{α:Type} [@W] [@ai]{G G1:Gp}{p:Nat}{xs:@s}{Q:DK}(l:eQ G G1)(hp:G p=none)(h1:G1 p=some (.lst @aY))(q:Q (enc xs) G):OR G1 (@V) Q :=
 qH l hp h1 (y8.same _) q
theorem dZ{α:Type}{f:α->D}{g:CV}{body:fZ}{ok:@E}{xs:@s}{E:l8}{K:lG}{τ:iw}{G:Gp}(I:@s->iw->@E)
  (h0:I [] τ G) (dS:∀pre τ G,I pre τ G->ok G)
  (step:∀(pre:@s) (x:α) (post:@s) τ G (N:iw->@E),xs=pre++x::post->I pre τ G->(∀CQ G2,I (pre++[x]) CQ G2->N CQ G2) ->
   g E (f x) τ G λrk G1=>body E {K with nx:=N,ct:=N,bk:=K.nx} rk G1)
  (fin:∀τ G,I xs τ G->K.nx τ G):zE g body ok (xs.map f) E K τ G:=by
 have main:∀(post pre:@s) τ G,xs=pre++post->I pre τ G->zE g body ok (post.map f) E K τ G:=by
  intro post;induction post with
  |nil=>
   intro pre τ G e h;rw[bC] at e;subst e;exact⟨dS _ _ _ h,fin _ _ h⟩
  |cons d post ih=>
   intro pre τ G e h;refine⟨dS _ _ _ h,?_⟩;exact step pre d post τ G _ e h λCQ G2 h2=>ih (pre++[d]) CQ G2 (by rw[e,bp];rfl) h2
 exact main xs [] τ G rfl h0
theorem gH{α:Type}{f:α->D}{g:CV}{c:Option yX}{e:gE}{ok:@E}{xs:@s}{E:l8}{τ:iw}{G:Gp}{Q:@e->@E}(I:@s->@e->iw->@E)
  (h0:I [] [] τ G) (dS:∀pre acc τ G,I pre acc τ G->ok G)
  (step:∀(pre:@s) (x:α) (post:@s) (acc:@e) τ G (N:iw->@e->@E),xs=pre++x::post->I pre acc τ G->(∀CQ yW G2,I (pre++[x]) yW CQ G2->N CQ yW G2) ->
   g E (f x) τ G λrk G1=>match c with
    |none=>e E rk G1 λx G2=>N rk (acc++[x]) G2
    |some c=>c E rk G1 λk G2=>if k=true then e E rk G2 λx G3=>N rk (acc++[x]) G3 else N rk acc G2)
  (fin:∀acc τ G,I xs acc τ G->Q acc G):iX g c e ok (xs.map f) E τ G [] Q:=by
 have main:∀(post pre:@s) (acc:@e) τ G,xs=pre++post->I pre acc τ G->iX g c e ok (post.map f) E τ G acc Q:=by
  intro post;induction post with
  |nil=>
   intro pre acc τ G e h;rw[bC] at e;subst e;exact⟨dS _ _ _ _ h,fin _ _ _ h⟩
  |cons d post ih=>
   intro pre acc τ G e' h;refine⟨dS _ _ _ _ h,?_⟩;have:=step pre d post acc τ G (λCQ yW G2=>iX g c e ok (post.map f) E CQ G2 yW Q) e' h λCQ yW G2 h2=>ih (pre++[d]) yW CQ G2 (by rw[e',bp];rfl) h2;cases c with
   |none=>ext g
   |some c=>ext g
 exact main xs [] [] τ G rfl h0
theorem fu{α:Type} [@W] [@ai]{xs:@s}{G:Gp}{R:@bT}(h:R @aY @bd G):Rf (enc xs) G R:=h
theorem zB{α:Type} [@W] [@ai]{xs:@s}{G:Gp}{R:@bT}(h:R (kE 0 @aY) @bd G):xl (enc xs) G R:=h
theorem zf(h:n<=1000):n<=SZ:=by unfold SZ;lia
theorem uO(h:n<=1000):n<SZ:=by unfold SZ;lia
abbrev Rows:=List (@w)
noncomputable def T3.s(p:T3):T2:=⟨p.a,p.b⟩
structure Dr(rows:Rows):Prop where
 nd:(@a7).Nodup
 way:∀p∈rows.flatten,p.b=0\/p.b=1
 hand:∀p∈rows.flatten,p.c=1\/p.c=-1
 rz:∀p∈rows.flatten,(⟨p.a,1-p.b,p.c⟩:T3)∈rows.flatten
 gJ:rows.flatten.length<=24
 str:rows.length<=3
namespace P
def j7:gM:=TV (λrows:Rows=>@dO) λrows=>rows.flatten
def sQ:fZ :=
 (bG (bx (c9 aH) (aI 1))
 (bG (fy (hZ @g) (aI 2) (cW (mU vw ui @k (ah @y aH))))
 (bQ (cG @k))))
theorem CB(ds)(G)(Q)(h:j7 ds G Q @t):sQ @p @B (aT 3 ds) G:=by
 obtain⟨rows,rfl,hl,q⟩:=h;unfold sQ;simp only[ends,aT,aq,aK,af,ao,aN,aA,aB,dO,bx,c9,aH,aI,au,ai];refine⟨@f,@aN⟩;refine b6 (λτ G'=>(∃b,τ=[@G,@ax,b])/\@O/\G' p=some (.lst (rows.flatten.map enc))) ?_ ?_
 .intro N hN;simp only[fy,cM,ak,aa];refine fu ?_;refine dZ (xs:=rows) (λpre τ G'=>(∃b,τ=[@G,@ax,b])/\@O/\G' p=some (.lst (pre.flatten.map enc))) ⟨@S,.new hp,ax⟩ @aQ ?_ ?_
  .rintro pre r post τ G' N2 e ⟨⟨b,rfl⟩,l,gp⟩ l7;have hlen:@dU:=by
    rw[e];simp only[fB,aX,av];lia
   simp only[aI,cW,mU,ak,au,ai,ae,aa,gr,gp,ah,aH,ly,ny (IsL.enc r),true_and];refine⟨zf (by simp only[ag];lia),?_⟩;refine l7 _ _ ⟨@S,l.put hp,?_⟩;rw[ax];simp
  .rintro τ G' ⟨⟨b,rfl⟩,l,gp⟩;exact hN _ _ ⟨@S,l,gp⟩
 .rintro _ G' ⟨⟨b,rfl⟩,l,gp⟩;simp only[bQ,cG,ak,ae,aa];exact fM l hp gp q
theorem nJ(p:T3):(enc p:D)=.tup [.int p.a,.int p.b,.int p.c]:=rfl
theorem YS(p:T2):(enc p:D)=.tup [.int p.a,.int p.b]:=rfl
theorem mI(i):(enc i:D)=@M:=rfl
theorem Ah{r:@e}:nS (a::r) 0=some a:=by
 rw[i8 _ @c @i];rfl
theorem MH{r:@e}:nS (a::b::r) 1=some b:=by
 rw[i8 _ @c (by simp;lia)];rfl
theorem at2{r:@e}:nS (a::b::c::r) 2=@aW:=by
 rw[i8 _ @c (by simp;lia)];rfl
def names(rows:Rows):@u:=Gr ((@dG).map (·.a))
def aU:gM:=TV (λrows:Rows=>@dj) names
noncomputable def handOf(rows:Rows)(n:Int):Int:=((rows.flatten.find? λp=>p.a == n).map (·.c)).getD 0
def fO:gM:=Z4 (λ(rows:Rows) (n:Int)=>@dO/\∃p∈rows.flatten,p.a=n) handOf
def BF:fZ :=
 (bG (fy (hZ (aS j7 @ah)) (aI 2) (du (eW (aM @aq (aM fG @y @as) @k)) (bQ (cG (aM fG @y @ad))) b8))
 oT)
theorem KU(ds)(G)(Q)(h:fO ds G Q @t):BF @p @B (aT 3 ds) G:=by
 obtain⟨rows,n,rfl,⟨hl,hn⟩,q⟩:=h;unfold BF;refine b6 (λτ G'=>False) ?_ (λ_ _ h=>h.elim);intro N hN;simp only[fy,aT,aq,aK,af,ao,aN,aA,aB,ends,cM,aS,ah,ak,aa,aH];refine⟨rows,rfl,hl,fu ?_⟩;refine dZ (xs:=rows.flatten) (λpre τ G'=>G=G'/\(∃a,τ=[@G,some (enc n),a])/\∀p∈pre,p.a≠n) ⟨rfl,@S,@L⟩ @aQ ?_ ?_
 .rintro pre x post τ G' N2 e ⟨rfl,⟨a,rfl⟩,hp⟩ l7;simp only[aI,du,mI,nJ,au,ai,bQ,cG,aM,ak,ae,aa,dC,cU,at2,b8,bP,Ah];refine⟨_,_,@P,@P,?_⟩;simp only[aj,nI,if_false,aO];by_cases hx:x.a=n
  .simp only[hx,beq_self_eq_true,if_true];refine cp ?_;have:@cH=x.c:=by
    unfold handOf;have:rows.flatten.find? (λp=>p.a == n)=@ak:=by
     rw[e,mM];have:pre.find? (λp=>p.a == n)=none:=by
      rw[je];intro p A4;simpa using hp p A4
     rw[this];simp[hx]
    rw[this];rfl
   rw[<-this];exact q
  .have:(x.a == n)=false:=by simpa using hx
   simp only[this,aj,if_false];refine l7 _ _ ⟨rfl,@S,λp A4=>?_⟩;rcases List.mem_append.mp A4 with h |h
   .exact hp p h
   .rw[List.mem_singleton.mp h];exact hx
 .rintro τ G' ⟨rfl,_,hp⟩;obtain⟨p,Vh,nX⟩:=hn;exact absurd nX (hp p Vh)
def bK(row:@w)(i:Int):List T2:=if row=[] then [⟨i,2⟩] else row.map T3.s
def oe:gM:=Z4 (λ(row:@w) (_:Int)=>row.length<=1000) bK
def zj:fZ :=
 (bG (du (vP (eW @g)) (bQ (cG (c9 (ah (dN (ah @k (ah @ad aH))) aH)))) b8)
 (bQ (cG (eC 1 [] (hZ @g) (aI 0) none (vY @g eO (jB @ad))))))
theorem ID(ds)(G)(Q)(h:oe ds G Q @t):zj @p @B (aT 2 ds) G:=by
 obtain⟨row,i,rfl,hl,q⟩:=h;unfold zj;refine b6 (λτ G'=>G=G'/\τ=[some (enc row),some (enc i)]/\row≠[]) ?_ ?_
 .intro N hN;simp only[du,vP,aT,aq,aK,af,ao,aA,aB,bQ,cG,c9,ah,dN,ak,ae,aa,dC,aH,ends,b8,bP];refine PJ (IsL.enc row) ?_;cases row with
  |nil=>
   simp only[aK,List.isEmpty_nil,bI,a9,if_true];refine⟨@f,@f,λp hp=>fM (xs:=[(⟨i,2⟩:T2)]) @a4 hp ax ?_⟩;exact q
  |cons a r=>
   simp only[aq,List.isEmpty_cons,a9,bI,aj,if_false];exact hN _ _ ⟨rfl,rfl,@L⟩
 rintro _ _ ⟨rfl,rfl,iV⟩;simp only[bQ,cG,eC,ends,cM,ak,aa];refine fu ⟨zf (by rw[ag];exact hl),?_⟩;refine gH (xs:=row) (λpre acc τ G'=>G=G'/\(∃a,τ=[a])/\acc=(pre.map T3.s).map enc) ⟨rfl,@S,rfl⟩ @cJ ?_ ?_
 .rintro pre x post acc τ G' N e ⟨rfl,⟨a,rfl⟩,rfl⟩ hN;simp only[aI,vY,ak,nJ,ai,aa,eO,qA,af,ao,gR,dC,fE];refine⟨@f,hN _ _ _ ⟨rfl,@S,?_⟩⟩;rw[aF,aF];rfl
 .rintro acc τ G' ⟨rfl,⟨a,rfl⟩,rfl⟩ p hp;refine fM @a4 hp ax ?_;have:bK row i=row.map T3.s:=by unfold bK;rw[if_neg iV]
  rw[<-this];exact q
noncomputable def bL:Rows->Nat->List T2
 |[],_=>[]
 |r::rs,k=>bK r (k:Int)++bL rs (k+1)
theorem qw:∀(a b:Rows) (k:Nat),bL (a++b) k=bL a k++bL b (k+a.length)
 |[],b,k=>by simp[bL]
 |r::a,b,k=>by rw[aA,bL,bL,qw a b (k+1),bp,af];congr 3;lia
theorem R0(xs:List (@w)):kE 0 @aY=(xs.zipIdx 0).map λp=>D.tup [.int (p.2:Int),enc p.1]:=by
 have:∀(xs:List (@w)) (k:Nat),kE k @aY=(xs.zipIdx k).map λp=>D.tup [.int (p.2:Int),enc p.1]:=by
  intro xs;induction xs with
  |nil=>intro k;rfl
  |cons x xs ih=>intro k;rw[aq,kE,ih,vt,aq]
 exact this xs 0
theorem wc{α:Type}{xs:@s}{pre post:List (α×Nat)}{x:α×Nat}(h:xs.zipIdx 0=pre++x::post):∃l r,xs=l++x.1::r/\x.2=l.length/\pre=l.zipIdx 0:=by
 have e1:xs=(pre.map @N)++x.1::post.map @N:=by
  have:=congrArg (lM @N) h;rw[List.zipIdx_map_fst] at this;rw[this];simp
 have hl:pre.length<(xs.zipIdx 0).length:=by rw[h];simp
 have hx:(xs.zipIdx 0)[pre.length]?=@ak:=by rw[h];simp
 refine⟨pre.map @N,post.map @N,e1,?_,?_⟩
 .rw[Ts] at hx;rw[ag];cases q:xs[pre.length]? with
  |none=>rw[q] at hx;cases hx
  |some y=>rw[q] at hx;simp at hx;rw[<-hx]
 .have:(pre.map @N).zipIdx 0=(xs.zipIdx 0).take pre.length:=by
   conv=>rhs;rw[e1,rh]
   rw[nZ @i];rw[mh @i]
  rw[this,h];simp
theorem abK{c:D}:cut [a,b,c] none (some 2)=[a,b]:=rfl
theorem NS [@W] [@ai](xs:@s)(G):BV (enc xs) G=some (xs.map enc,λ_=>True):=rfl
theorem NR{a:Nat}{ds:@e}{G:Gp}(h:G a=@bJ):BV @U G=some (ds,λG2=>G2 a=@bJ):=by unfold BV;simp only[h]
theorem GH [@W] [@ai] [DecidableEq β] [Enc β]:∀(xs:@s) (ys:List β),uN @aY (ys.map enc)=(xs.zip ys).map λp=>D.tup [enc p.1,enc p.2]
 |[],ys=>by simp[uN]
 |x::xs,[]=>by simp[uN]
 |x::xs,y::ys=>by simp[uN,GH xs ys]
theorem ud{κ α:Type} [@cD] [Enc κ] [qM κ] [@W] [@ai]{a:Nat}{l:@c2}{k:κ}{v:α}{G:Gp}{Q:@E}(h:G a=some (.kU (gc l)))(hl:l.length<=1000)(q:Q (cJ G a (.kU (gc (jO l k v))))):zh @U (enc k) (enc v) G Q:=by
 unfold zh;simp only[h];refine⟨vL l k,?_,by rw[Uh];exact q⟩;unfold gc;rw[ag];exact uO hl
noncomputable def gu(r:@w):@w:=r.drop 1++r.take 1
def pairsOf(rows:Rows):List (T3×T3):=rows.flatMap λr=>r.zip (gu r)
def dM(ps:List (T3×T3)):@bi:=ps.foldl (λl p=>jO l p.1.s p.2.s) []
theorem NL(ps):(dM ps).length<=ps.length:=by
 have:∀(ps:List (T3×T3)) (l:@bi),(ps.foldl (λl p=>jO l p.1.s p.2.s) l).length<=l.length+ps.length:=by
  intro ps;induction ps with
  |nil=>intro l;simp
  |cons p ps ih=>
   intro l;rw[fk,af];have h1:=ih (jO l p.1.s p.2.s);have h2:=tR l p.1.s p.2.s;lia
 simpa[dM] using this ps []
theorem JY(ps)(p):dM (ps++[p])=jO (dM ps) p.1.s p.2.s:=by unfold dM;rw[mL];rfl
def kH:gM:=λds G Q _=>∃rows:Rows,ds=[@aj]/\@cN/\Q (.vX (gc @aw)) G
theorem pairs_len(rows):(@bF).length<=rows.flatten.length:=by
 unfold pairsOf;induction rows with
 |nil=>simp
 |cons r rs ih=>simp only[cz,aX,av,List.length_zip];lia
def Bz:fZ :=
 (bG (bx Ag (aI 1))
 (bG (fy (hZ @g) (aI 2) (fy (Rc @y (aM ik (vY @y (jB @H) eO) (vY @y eO (jB @H)))) (pQ (hU (aI 3) (hU (aI 4) rD))) (bx (vY @Y eO (jB @ad)) (pR @k (vY @A eO (jB @ad))))))
 (bQ (cG @k))))
theorem KP(ds)(G)(Q)(h:kH ds G Q @t):Bz @p @B (aT 5 ds) G:=by
 obtain⟨rows,rfl,hl,q⟩:=h;unfold Bz;simp only[ends,aT,aq,aK,af,ao,aN,aA,aB,dO,bx,Ag,jN,aI,au,ai];intro d hd;refine b6 (λτ G'=>(∃a b c,τ=[@G,@cq,a,b,c])/\@O/\G' d=some (.kU (gc @aw))) ?_ ?_
 .intro N hN;simp only[fy,cM,ak,aa];refine fu ?_;refine dZ (xs:=rows) (λpre τ G'=>(∃a b c,τ=[@G,@cq,a,b,c])/\@O/\G' d=some (.kU (gc (dM (pairsOf pre))))) ⟨⟨_,_,_,rfl⟩,.new hd,ax⟩ @aQ ?_ ?_
  .rintro pre r post τ G' N2 e ⟨⟨a,b,c,rfl⟩,l,gd⟩ l7;have hr:@dU:=by
    rw[e];simp only[fB,aX,av];lia
   simp only[aI,fy,Rc,ak,au,ai,ae,aa,aM,vY,eO,gR,dC,fE];refine sV (IsL.enc r) λp1 h1=>?_;refine sV (IsL.enc r) λp2 h2=>?_;have d1:d≠p1:=by ext d;rw[gd] at h1;cases h1
   have l1:=l.trans (eQ.new (o:=.lst (cut (@bN) (some 1) none)) h1);have d2:d≠p2:=by ext d;rw[cL d1,gd] at h2;cases h2
   have h12:p1≠p2:=by ext d;rw[ax] at h2;cases h2
   refine mz (IsL.ref (by rw[cL h12,ax])) (IsL.ref ax) ?_ λp3 h3=>?_
   .rw[oF,oF,ag,ag];have e1:(cut r (some 1) none).length<=r.length:=by unfold cut;rw[cf,cx];lia
    have e2:(cut r none (some 1)).length<=r.length:=by unfold cut;rw[cf,cx];lia
    exact zf @c
   have d3:d≠p3:=by ext d;rw[cL d2,cL d1,gd] at h3;cases h3
   have et:cut (@bN) (some 1) none++cut (@bN) none (some 1)=(gu r).map enc:=by
    rw[oF,oF,<-aF];congr 1;cases r with
    |nil=>rfl
    |cons x r=>rw[show(1:Int)=((1:Nat):Int) from rfl,Cq _ _ @i,KH _ _ @i];rfl
   rw[et];generalize hG3:cJ (cJ (cJ G' p1 (.lst (cut (@bN) (some 1) none))) p2 (.lst (cut (@bN) none (some 1)))) p3 (.lst ((gu r).map enc))=G3;have g3:G3 p3=some (.lst ((gu r).map enc)):=by rw[<-hG3,ax]
   have YJ:G3 d=some (.kU (gc (dM (pairsOf pre)))):=by rw[<-hG3,cL d3,cL d2,cL d1];exact gd
   have l3:eQ G G3:=by rw[<-hG3];exact(l1.trans (.new h2)).trans (.new h3)
   unfold B7;rw[NS,NR g3];ext e;rw[GH];refine dZ (xs:=r.zip (gu r)) (λpp τ G'=>(∃a b c,τ=[@G,@cq,a,b,c])/\@O/\G' d=some (.kU (gc (dM (pairsOf pre++pp))))/\G' p3=some (.lst ((gu r).map enc)))
    ⟨⟨_,_,_,rfl⟩,l3,by rw[bC];exact YJ,g3⟩ (λ_ _ _ h=>⟨trivial,h.2.2.2⟩) ?_ ?_
   .rintro pp x post τ G4 N3 e4 ⟨⟨a,b,c,rfl⟩,l4,YI,Md⟩ oB;have hz:(pairsOf pre++pp).length<=1000:=by
     have:=pairs_len pre;have h5:pp.length<(r.zip (gu r)).length:=by rw[e4];simp
     rw[List.length_zip] at h5;rw[av];lia
    simp only[pQ,hU,aI,rD,bx,vY,ak,nJ,au,ai,ae,aa,eO,pR,qA,af,ao,gR,dC,fE,abK];refine⟨@f,@f,?_⟩;refine ud (k:=x.1.s) (v:=x.2.s) YI (cm (NL _) hz) ?_;refine oB _ _ ⟨⟨_,_,_,rfl⟩,l4.put hd,?_,by rw[cL (eB d3)];exact Md⟩;rw[ax,<-bp,JY]
   .rintro τ G4 ⟨⟨a,b,c,rfl⟩,l4,YI,Md⟩;refine l7 _ _ ⟨⟨_,_,_,rfl⟩,l4,?_⟩;have:pairsOf (pre++[r])=pairsOf pre++r.zip (gu r):=by unfold pairsOf;simp
    rw[this];exact YI
  .rintro τ G' ⟨⟨a,b,c,rfl⟩,l,gd⟩;exact hN _ _ ⟨⟨_,_,_,rfl⟩,l,gd⟩
 .rintro _ G' ⟨⟨a,b,c,rfl⟩,l,gd⟩;simp only[bQ,cG,ak,ae,aa];exact RL l hd gd q
noncomputable def lft(s:T2):T3:=⟨s.a,s.b,0⟩
end P
end K2
end
section
namespace K2
namespace Y
theorem jx:∀(xs ys:@u),xs.Nodup->(∀x∈xs,x∈ys)->xs.length<=ys.length
 |[],_,_,_=>b9 _
 |x::xs,ys,hn,h=>by
  rw[bT] at hn;have:=jx xs (ys.erase x) hn.2 λy hy=>(za (show y≠x from λz=>hn.1 (by rw[<-z];exact hy))).mpr (h y (aC _ hy));have hx:=h x @i;rw[tZ hx] at this;have:=vV hx;rw[af];lia
end Y
end K2
end
section
namespace K2
open PySem (Str)
open Enc (enc)
theorem LI{α:Type} [@W] [@ai]{neg:Bool}{x:α}{xs:@s}{G:Gp}{Q:DK}(hd:Enc.dep α<=7)(q:Q (.bl (if neg then !decide (x∈xs) else decide (x∈xs))) G):CS neg (enc x) (enc xs) G Q:=by
 refine⟨enc x,xs.map enc,Enc.sn _ _ _ (by unfold SN;lia),sJ G 7 hd xs,?_⟩;rw[A9];exact q
theorem gx{α:Type} [@W] [@ai]{neg:Bool}{x y:α}{G:Gp}{Q:DK}(hd:Enc.dep α<=8)(q:Q (.bl (if neg then !decide (x=y) else decide (x=y))) G):l6 neg (enc x) (enc y) G Q:=by
 refine⟨enc x,enc y,Enc.sn _ _ _ hd,Enc.sn _ _ _ hd,?_⟩;rw[Enc.eqv];exact q
class Gf (α:Type) [@W] [@ai] [cF α] where
 mn:∀{x:D} {G:Gp} {xs:@s} {Q:DK},@cw=some @aY->xs≠[]->(∀m∈xs,(∀y∈xs,AY m y=true)->Q (enc m) G)->Iq [x] G Q
theorem kS [@W] [@ai] [cF α]:∀(r:@s) (a:α),r.foldl (λm x=>if cF.lt x m=true then x else m) a∈a::r/\∀y∈a::r,AY (r.foldl (λm x=>if cF.lt x m=true then x else m) a) y=true
 |[],a=>⟨@L,λy hy=>by rw[List.mem_singleton.mp hy];unfold AY;rw[List.foldl_nil,cF.S5];rfl⟩
 | b :: r,a=>by
  rw[fk];by_cases c:cF.lt b a=true
  .rw[if_pos c];obtain⟨h1,h2⟩:=kS r b;refine⟨aC _ h1,λy hy=>?_⟩;rcases List.mem_cons.mp hy with rfl |hy
   .refine yI _ _ _ (h2 b @i) ?_;unfold AY;cases q:cF.lt y b with
    |false=>rfl
    |true=>have:=cF.trans _ _ _ q c;rw[cF.S5] at this;cases this
   .exact h2 y hy
  .rw[if_neg c];obtain⟨h1,h2⟩:=kS r a;refine⟨?_,λy hy=>?_⟩
   .rcases List.mem_cons.mp h1 with h |h
    .rw[h];simp
    .exact aC _ (aC _ h)
   .rcases List.mem_cons.mp hy with rfl |hy
    .exact h2 y @i
    .rcases List.mem_cons.mp hy with rfl |hy
     .refine yI _ _ _ (h2 a @i) ?_;unfold AY;simpa using c
     .exact h2 y (aC _ hy)
instance:Gf Int where
 mn:=by
  intro x G xs Q hi iV k;cases xs with
  |nil=>exact absurd rfl iV
  | cons a r=>
   obtain⟨h1,h2⟩:=kS r a;refine .inl ⟨a::r,_,hi,rfl,?_⟩;have:(λ(m x:Int)=>if x<m then x else m)=λm x=>if cF.lt x m=true then x else m:=by
    funext m x;show(if x<m then x else m)=if decide (x<m)=true then x else m
    simp
   show Q (enc (r.foldl (λm x=>if x<m then x else m) a)) G;rw[this];exact k _ h1 h2
theorem BX:∀(x y:@u),xh (λa b=>decide (a<b)) x y=lexLt x y
 |[],[]=>rfl
 |[],_::_=>rfl
 |_::_,[]=>rfl
 |a::x,b::y=>by simp only[BY,lexLt,BX x y]
instance:Gf T3 where
 mn:=by
  intro x G xs Q hi iV k;cases xs with
  |nil=>exact absurd rfl iV
  | cons a r=>
   obtain⟨h1,h2⟩:=kS r a;have ei:@cw=some (((a::r).map T3.l).map tI):=by rw[hi,cP];rfl
   refine .inr ⟨(a::r).map T3.l,_,ei,rfl,?_⟩;have:∀(r:@w) (a:T3),(r.map T3.l).foldl (λm x=>if lexLt x m=true then x else m) a.l=(r.foldl (λm x=>if cF.lt x m=true then x else m) a).l:=by
    intro r;induction r with
    |nil=>intro a;rfl
    | cons b r ih=>
     intro a;rw[aq,fk,fk];have e:(if lexLt b.l a.l=true then b.l else a.l)=(if cF.lt b a=true then b else a).l:=by
      have:cF.lt b a=lexLt b.l a.l:=BX _ _;rw[this];split<;>rfl
     rw[e];exact ih _
   rw[this r a];exact k _ h1 h2
namespace P
section
variable {α:Type} [@W] [@ai] [cF α] [qM α] [Gf α]
theorem FZ [@cD]{k:κ}{v:β}(h:∃p∈l,p.1=k):(jO l k v).length=l.length:=by
 unfold jO;rw[if_pos (by obtain⟨p,h1,h2⟩:=h;exact List.any_eq_true.mpr ⟨p,h1,@b0⟩),ag]
end
end P
namespace P
theorem IA [@cD]{k:κ}{v:β}(h:k∉l.map @N):jO l k v=l++[(k,v)]:=by
 unfold jO;rw[if_neg];intro q;obtain⟨p,h1,h2⟩:=List.any_eq_true.mp q;exact h (List.mem_map.mpr ⟨p,h1,@b0⟩)
theorem HU{γ:Type} [@cD](kf:γ->κ)(vf:γ->β):∀(ps:List γ) (l:List (κ×β)),(l.map @N++ps.map kf).Nodup->ps.foldl (λl p=>jO l (kf p) (vf p)) l=l++ps.map λp=>(kf p,vf p)
 |[],l,_=>@L
 | p::ps,l,h=>by
  rw[fk,IA (λz=>by
   rw[aq,cT] at h;exact h.2.2 _ z _ @i rfl),HU kf vf ps _ (@bZ)]
  simp
theorem tS [@cD]:∀{l:List (κ×β)} {p:κ×β},(l.map @N).Nodup->p∈l->fi l p.1=some p.2
 |q::l,p,hn,h=>by
  unfold fi;rw[eF];rcases @dh with rfl |h
  .simp
  .rw[aq,bT] at hn;have:q.1≠p.1:=λz=>hn.1 (by rw[z];exact cy h);simp only[this,decide_false];exact tS hn.2 h
theorem Hy [@cD]{k:κ}(h:fi l k=@Q):(k,v)∈l:=by
 unfold fi at h;cases q:l.find? (λp=>decide (p.1=k)) with
 |none=>rw[q] at h;cases h
 |some p=>
  rw[q] at h;have h1:=qj q;have h2:=gf q;simp at h h1;rw[<-h,<-h1];exact h2
theorem zd(r):(gu r).length=r.length:=by unfold gu;rw[av,cx,cf];lia
theorem ES(r):(gu r).Perm r:=by
 unfold gu;exact List.perm_append_comm.trans (by rw[cw])
theorem yD(rows):(@bF).map @N=rows.flatten:=by
 unfold pairsOf;induction rows with
 |nil=>rfl
 |cons r rs ih=>
  rw[cz,aF,ih,aX];congr 1;rw[List.map_fst_zip];rw[zd];exact aR _
theorem yC(rows):((@bF).map (·.2)).Perm rows.flatten:=by
 unfold pairsOf;induction rows with
 |nil=>exact .refl _
 |cons r rs ih=>
  rw[cz,aF,aX];refine SU ?_ ih;rw[List.map_snd_zip]
  .exact ES r
  .rw[zd];exact aR _
variable {rows:Rows}
theorem Kq(d:@n):((@bF).map λp=>p.1.s).Nodup:=by
 have:((@bF).map λp=>p.1.s)=@a7:=by rw[<-yD,cP];rfl
 rw[this];exact d.nd
theorem Xa(d:@n):((@bF).map λp=>p.2.s).Nodup:=by
 have:((@bF).map λp=>p.2.s)=((@bF).map (·.2)).map T3.s:=by rw[cP];rfl
 rw[this,((yC rows).map T3.s).nodup_iff];exact d.nd
theorem w6(d:@n):dM (@bF)=(@bF).map λp=>(p.1.s,p.2.s):=by
 unfold dM;rw[HU (λp:T3×T3=>p.1.s) (λp=>p.2.s) _ _ (by simpa using Kq d)];rfl
def pas(rows:Rows)(s:T2):T3:=(rows.flatten.find? λp=>decide (p.s=s)).getD ⟨0,0,0⟩
def nxt(rows:Rows)(s:T2):T2:=(fi ((@bF).map λp=>(p.1.s,p.2.s)) s).getD s
theorem LP(d:@n)(h:@bE):pas rows p.s=p:=by
 unfold pas;cases q:rows.flatten.find? (λx=>decide (x.s=p.s)) with
 |none=>rw[je] at q;exact absurd @i (q p h)
 | some x=>
  have h1:=qj q;have h2:=gf q;have h1:x.s=p.s:=@di
  have:∀(L:@w),(L.map T3.s).Nodup->x∈L->p∈L->x=p:=by
   intro L;induction L with
   |nil=>intro _ h;cases h
   | cons y L ih=>
    intro hn hx hp;rw[aq,bT] at hn;rcases List.mem_cons.mp hx with e1 |hx2
    .rcases @cM with e2 |nX
     .rw[e1,e2]
     .exact absurd (by rw[<-e1,h1];exact cy nX) hn.1
    .rcases @cM with e2 |nX
     .exact absurd (by rw[<-e2,<-h1];exact cy hx2) hn.1
     .exact ih hn.2 hx2 nX
  exact this _ d.nd h2 h
theorem JW(d:@n)(h:(p,q)∈@bF):fi ((@bF).map λp=>(p.1.s,p.2.s)) p.s=some q.s/\nxt rows p.s=q.s:=by
 have:=tS (l:=(@bF).map λp=>(p.1.s,p.2.s)) (p:=(p.s,q.s)) (by rw[cP];exact Kq d) (List.mem_map.mpr ⟨_,h,rfl⟩);refine⟨this,?_⟩;unfold nxt;rw[this];rfl
theorem Rz(h:@bE):∃q,(p,q)∈@bF/\q∈rows.flatten:=by
 rw[<-yD] at h;obtain⟨x,hx,rfl⟩:=@c_;exact⟨x.2,hx,(yC rows).mem_iff.mp (cy hx)⟩
noncomputable def om(p:T3):T3:=⟨p.a,1-p.b,p.c⟩
theorem QF(d:@n)(h:@bE):om p∈rows.flatten:=d.rz p h
theorem V9(p):om (om p)=p:=by
 unfold om;cases p;simp only[T3.mk.injEq,true_and,and_true];lia
theorem bX:n∈@l↔∃p∈rows.flatten,p.b=0/\p.a=n:=by
 unfold names;rw[Ly,nQ];ext l
 .rintro⟨p,h,rfl⟩;obtain⟨h1,h2⟩:=List.mem_filter.mp h;exact⟨p,h1,@b0,rfl⟩
 .rintro⟨p,h1,h2,rfl⟩;exact⟨p,List.mem_filter.mpr ⟨h1,@b0⟩,rfl⟩
theorem eK(d:@n)(h:@bE):handOf rows p.a=p.c:=by
 unfold handOf;cases q:rows.flatten.find? (λx=>x.a == p.a) with
 |none=>rw[je] at q;exact absurd @i (q p h)
 | some x=>
  have h1:x.a=p.a:=by simpa using qj q
  have h2:=gf q;show x.c=p.c;have hw:=d.way p h;have hw2:=d.way x h2;by_cases e:x.b=p.b
  .have:x.s=p.s:=by unfold T3.s;rw[h1,e]
   have e1:=LP d h2;rw[this,LP d h] at e1;rw[e1]
  .have:(om x).s=p.s:=by unfold T3.s om;rw[h1];congr 1;ext e;lia
   have e1:=LP d (QF d h2);rw[this,LP d h] at e1;rw[e1];rfl
end P
namespace Y
theorem oA{α:Type}{l pre post:@s}{x:α}(e:l=pre++x::post):pre.length<l.length:=by
 have:=congrArg c7 e;rw[av,af] at this;lia
end Y
namespace JB
open K2.P
theorem sub_len'{α:Type} [@W]:∀(xs ys:@s),xs.Nodup->(∀x∈xs,x∈ys)->xs.length<=ys.length
 |[],_,_,_=>b9 _
 |x::xs,ys,hn,h=>by
  rw[bT] at hn;have:=sub_len' xs (ys.erase x) hn.2 λy hy=>(za (show y≠x from λz=>hn.1 (by rw[<-z];exact hy))).mpr (h y (aC _ hy));have hx:=h x @i;rw[tZ hx] at this;have:=vV hx;rw[af];lia
end JB
namespace JB
open K2.P
variable {rows:Rows}
theorem iB(d:@n):(@l).Nodup:=by
 unfold names;refine t6 ?_;have h:=d.nd;have:∀{L:@w},(L.map T3.s).Nodup->((L.filter λp=>p.b == 0).map (·.a)).Nodup:=by
  intro L;induction L with
  |nil=>intro _;exact fj
  | cons p L ih=>
   intro h;rw[aq,bT] at h;rw[eG];split
   .rename_i hp;rw[aq,bT];refine⟨λz=>h.1 ?_,ih h.2⟩;obtain⟨q,hq,e⟩:=@c3;have Od:=List.mem_filter.mp hq;refine List.mem_map.mpr ⟨q,Od.1,?_⟩;have b1:p.b=0:=by simpa using hp
    have b2:q.b=0:=by simpa using Od.2
    show(⟨q.a,q.b⟩:T2)=⟨p.a,p.b⟩;rw[e,b1,b2]
   .exact ih h.2
 exact this h
theorem JZ(d:@n):2*@bA<=rows.flatten.length:=by
 have h:=sub_len' ((@l).flatMap λn=>[(@a1:T2),@ba]) (@a7) ?_ ?_
 .have:((@l).flatMap λn=>[(@a1:T2),@ba]).length=2*@bA:=by
   generalize @l=l;induction l with
   |nil=>rfl
   |cons n l ih=>rw[cz,av,ih];simp only[af,ao];lia
  rw[this,ag] at h;exact h
 .have:∀{l:@u},l.Nodup->(l.flatMap λn=>[(@a1:T2),@ba]).Nodup:=by
   intro l;induction l with
   |nil=>intro _;exact fj
   |cons n l ih=>
    intro h;rw[bT] at h;rw[cz,cT];refine⟨@L,ih h.2,λa ha b hb e=>?_⟩;obtain⟨m,hm,hb⟩:=List.mem_flatMap.mp hb;have ea:a.a=n:=by simp only[bf,bH,or_false] at ha;rcases ha with rfl |rfl<;>rfl
    have eb:b.a=m:=by simp only[bf,bH,or_false] at hb;rcases hb with rfl |rfl<;>rfl
    rw[e,eb] at ea;exact h.1 (ea ▸ hm)
  exact this (iB d)
 .intro s hs;obtain⟨n,hn,hs⟩:=List.mem_flatMap.mp hs;obtain⟨p,hp,w,rfl⟩:=bX.mp hn;simp only[bf,bH,or_false] at hs;rcases hs with rfl |rfl
  .exact List.mem_map.mpr ⟨p,hp,by show(⟨p.a,p.b⟩:T2)=_;rw[w]⟩
  .exact List.mem_map.mpr ⟨_,d.rz p hp,by show(⟨p.a,1-p.b⟩:T2)=_;rw[w];rfl⟩
theorem abh(d:@n)(h:n∈@l):∃p∈rows.flatten,p.a=n:=by
 obtain⟨p,hp,_,e⟩:=bX.mp h;exact⟨p,hp,e⟩
theorem Xk(d:@n):∀r∈rows,r.length<=24:=λr hr=>by
 have h1:=d.gJ;obtain⟨a,b,e⟩:=e7 hr;rw[e,fB,aX,av,av] at h1;lia
end JB
end K2
end
section
namespace K2
namespace JB
open K2.P
theorem tH{α β:Type}(f:α->List β):∀{rows:@s} {i:Nat} {r r':α},rows[i]?=@am->((rows.set i r').flatMap f).Perm (f r'++(rows.eraseIdx i).flatMap f)
 |[],_,_,_,h=>@cr
 |a::rows,0,r,r',h=>by rw[ai,cz,List.eraseIdx_cons_zero]
 |a::rows,i+1,r,r',h=>by
  rw[au,cz,OZ,cz];refine((tH f (rows:=rows) (i:=i) (r:=r) (@bZ)).append_left _).trans ?_;rw[<-bp,<-bp];exact List.perm_append_comm.append_right _
theorem Kw{α β:Type}(f:α->List β){rows:@s}{r:α}(h:rows[i]?=@am):(rows.flatMap f).Perm (f r++(rows.eraseIdx i).flatMap f):=by
 have:=tH f (r':=r) h;have e:rows.set i r=rows:=by
  obtain⟨hi,e⟩:=@dS;rw[<-e];exact yf hi
 rw[e] at this;ext g
theorem RR{rows:Rows}(h:rows[i]?=@am):(rows.set i r').flatten.Perm (r'++(rows.eraseIdx i).flatten):=by
 have:=tH (λr:@w=>r) (r':=r') h;simpa[List.flatMap_id'] using this
theorem Vq{rows:Rows}(h:rows[i]?=@am):rows.flatten.Perm (r++(rows.eraseIdx i).flatten):=by
 have:=Kw (λr:@w=>r) h;simpa[List.flatMap_id'] using this
end JB
end K2
end
section
namespace K2
open PySem (Str)
open Enc (enc)
namespace T
abbrev Tb:=List (@u)
noncomputable def bump(t:Tb)(i j:Nat)(h:Int):Tb:=if i=j then t else t.modify i λr=>r.modify j (· + h)
theorem zw{α:Type}(t:@s)(i j)(f g)(h:i=j->∀x,f (g x)=g (f x)):(t.modify i f).modify j g=(t.modify j g).modify i f:=by
 refine jQ λm=>?_;simp only[gI];cases t[m]? with
 |none=>simp
 |some x=>
  by_cases h1:i=m<;>by_cases h2:j=m<;>simp[h1,h2];exact(h (h1.trans h2.symm) x).symm
theorem Eu(t)(i j)(h)(c d)(k):bump (bump t i j h) c d k=bump (bump t c d k) i j h:=by
 unfold bump;split<;>split<;>first |rfl |skip
 refine zw _ _ _ _ _ λ_ r=>?_;refine zw _ _ _ _ _ λ_ x=>?_;lia
theorem Su(t)(i j)(h):(bump t i j h).length=t.length:=by unfold bump;split<;>simp
def Sq(n:Nat)(t:Tb):Prop:=t.length=n/\∀r∈t,r.length=n
theorem MC(hs:Sq n t)(i j)(h):Sq n (bump t i j h):=by
 refine⟨by rw[Su];exact hs.1,?_⟩;unfold bump;split
 .exact hs.2
 .intro r hr;obtain⟨m,hm⟩:=eZ hr;rw[gI] at hm;cases e:t[m]? with
  |none=>rw[e] at hm;simp at hm
  |some r0=>
   rw[e] at hm;have hl:=hs.2 r0 (bE e);by_cases z:i=m
   .simp[z] at hm;rw[<-hm];simpa using hl
   .simp[z] at hm;rw[<-hm];exact hl
noncomputable def zeros(n:Nat):Tb:=aN n (aN n 0)
theorem su(n):Sq n (zeros n):=⟨by simp[zeros],λr hr=>by rw[zeros] at hr;rw[(List.mem_replicate.mp hr).2];simp⟩
theorem BO{α:Type}(t:@s)(i)(f)(x)(h:t[i]?=@ak):t.modify i f=t.set i (f x):=by
 refine jQ λm=>?_;rw[gI];by_cases z:i=m
 .subst z;rw[dh (@dS).1,h];simp
 .rw[dU z];simp[z]
theorem VE(hs:Sq n t)(hi:i<n)(hj:j<n)(h)(Dk:i≠j):∃r x,t[i]?=@am/\r[j]?=@ak/\bump t i j h=t.set i (r.set j (x+h)):=by
 obtain⟨r,hr⟩:∃r,t[i]?=@am:=⟨t[i]'(by rw[hs.1];exact hi),az _⟩;have hl:=hs.2 r (bE hr);obtain⟨x,hx⟩:∃x,r[j]?=@ak:=⟨r[j]'(by rw[hl];exact hj),az _⟩;refine⟨r,x,hr,hx,?_⟩;unfold bump;rw[if_neg Dk,BO t i _ r hr,BO r j _ x hx]
structure HL(G G':Gp)(p0:Nat)(as:@aE)(rs:List (@e)):Prop where
 le:@O
 fp:G p0=none
 gp:G' p0=some (.lst (@cX))
 np:p0∉as
 nd:as.Nodup
 fr:∀a∈as,G a=none
 len:as.length=rs.length
 at':∀(i a:Nat) (r:@e),as[i]?=some a->rs[i]?=@am->G' a=some (.lst r)
theorem HL.ext(h:HL G G' p0 as rs)(l:eQ G' G''):HL G G'' p0 as rs :=
 ⟨h.le.trans l,h.fp,l _ _ h.gp,h.np,h.nd,h.fr,h.len,λi a r h1 h2=>l _ _ (h.at' i a r h1 h2)⟩
theorem HL.row(h:HL G G' p0 as rs){i:Nat}(hr:rs[i]?=@am):∃a,as[i]?=some a/\G' a=some (.lst r)/\nS (@cX) (i:Int)=some @U:=by
 have hi:i<as.length:=by rw[h.len];exact(List.getElem?_eq_some_iff.mp hr).1
 refine⟨as[i],az hi,h.at' i _ r (az hi) hr,?_⟩;rw[i8 _ @c (@aV)];simp
theorem Ht{as:@aE}(hn:as.Nodup){j:Nat}(h1:as[i]?=some a)(h2:as[j]?=some a):i=j:=by
 have g1:=@dT;have g2:=List.getElem?_eq_some_iff.mp h2;have pw:=List.pairwise_iff_getElem.mp hn;rcases Nat.lt_trichotomy i j with lt |eq |gt
 .exact absurd (g1.2.trans g2.2.symm) (pw i j g1.1 g2.1 lt)
 .exact eq
 .exact absurd (g2.2.trans g1.2.symm) (pw j i g2.1 g1.1 gt)
theorem HL.put(h:HL G G' p0 as rs)(ha:as[j]?=some a):HL G (cJ G' a (.lst r')) p0 as (rs.set j r'):=by
 have hm:a∈as:=bE ha;have hj:j<as.length:=(List.getElem?_eq_some_iff.mp ha).1;refine⟨h.le.put (h.fr a hm),h.fp,?_,h.np,h.nd,h.fr,by rw[eE];exact h.len,λi b r hb hr=>?_⟩
 .rw[cL (by ext d;exact h.np hm)];exact h.gp
 .by_cases e:i=j
  .subst e;rw[ha] at hb;cases hb;rw[dh (by have:=h.len;lia)] at hr;cases hr;exact ax
  .have:b≠a:=by ext d;exact e (Ht h.nd hb ha)
   rw[cL this];rw[dU (λz=>e z.symm)] at hr;exact h.at' i b r hb hr
theorem QJ{as:@aE}(h:∀i k a:Nat,i<k->as[i]?=some a->as[k]?=some a->False):as.Nodup:=by
 refine List.pairwise_iff_getElem.mpr λi k hi hk hik z=>?_;exact h i k as[i] hik (az hi) (by rw[az hk,z])
theorem HL.P8(h:HL G G' p0 as rs)(hj:j<as.length)(ga:G' a=some (.lst r'))(na:a∉as)(fa:G a=none)(np:a≠p0):HL G (cJ G' p0 (.lst ((as.set j a).map D.ref))) p0 (as.set j a) (rs.set j r'):=by
 have Pd:∀b,b∈as.set j a->b=a\/b∈as:=λb hb=>by
  rcases Lh hb with z |z
  .exact .inr z
  .exact .inl z
 refine⟨h.le.put h.fp,h.fp,ax,λz=>?_,?_,λb hb=>?_,by rw[eE,eE];exact h.len,λi b r hb hr=>?_⟩
 .rcases Pd _ z with z |z
  .exact np z.symm
  .exact h.np z
 .refine QJ λi k b hik h1 h2=>?_;by_cases e1:j=i
  .subst e1;rw[dh hj] at h1;rw[dU @c] at h2;cases h1;exact na (bE h2)
  .rw[dU e1] at h1;by_cases e2:j=k
   .subst e2;rw[dh hj] at h2;cases h2;exact na (bE h1)
   .rw[dU e2] at h2;have:=Ht h.nd h1 h2;lia
 .rcases Pd b hb with z |z
  .rw[z];exact fa
  .exact h.fr b z
 .have hb0:b≠p0:=by
   ext d;rcases Pd b (bE hb) with z |z
   .exact np z.symm
   .exact h.np z
  rw[cL hb0];by_cases e:j=i
  .subst e;rw[dh hj] at hb;rw[dh (by rw[<-h.len];exact hj)] at hr;cases hb;cases hr;exact ga
  .rw[dU e] at hb hr;exact h.at' i b r hb hr
theorem HL.fz{G G':Gp}{p0:Nat}{as:@aE}{rs:List (@e)}(h:HL G G' p0 as rs){Q:DK}(q:Q (.dg (rs.map D.dg)) G):OR G' (.ref p0) Q:=by
 refine qH h.le h.fp h.gp (ss:=rs.map D.dg) ?_ q;have:∀(as:@aE) (rs:List (@e)),as.length=rs.length->(∀a∈as,G a=none)->(∀(i a:Nat) (r:@e),as[i]?=some a->rs[i]?=@am->G' a=some (.lst r))->y8 G' (λa=>(G a).isNone) (@cX) (rs.map D.dg):=by
  intro as;induction as with
  |nil=>intro rs hl _ _;cases rs with
   |nil=>ext f
   |cons _ _=>cases hl
  | cons a as ih=>
   intro rs hl hf zZ;cases rs with
   |nil=>cases hl
   |cons r rs=>
    refine .cons (.ref (zZ 0 a r rfl rfl) (by simp[hf a @i]) (y8.same _)) ?_;exact ih rs (@dr) (λb hb=>hf b (aC _ hb)) λi b s h1 h2=>zZ (i+1) b s h1 h2
 exact this as rs h.len h.fr h.at'
theorem HL.sn{t:Tb}(h:HL G G' p0 as (t.map λr=>r.map D.int)):Sn G' SN (.ref p0) (enc t):=by
 refine .ref h.gp ?_;have:∀(as:@aE) (t:Tb),as.length=t.length->(∀(i a:Nat) (r:@u),as[i]?=some a->t[i]?=@am->G' a=some (.lst (r.map D.int)))->Sn G' 8 (.dg (@cX)) (.dg (t.map enc)):=by
  intro as;induction as with
  |nil=>intro t hl _;cases t with
   |nil=>exact .zV
   |cons _ _=>cases hl
  | cons a as ih=>
   intro t hl zZ;cases t with
   |nil=>cases hl
   |cons r t=>
    refine .u7 (.ref (zZ 0 a r rfl rfl) (Sn.rI r)) ?_;exact ih t (@dr) λi b s h1 h2=>zZ (i+1) b s h1 h2
 exact this as t (by rw[h.len,ag]) λi a r h1 h2=>h.at' i a _ h1 (by rw[aZ,h2];rfl)
end T
namespace P
variable {rows:Rows}
theorem Ju(h:@bE):p.s∈@av:=by
 have:∀(rs:Rows) (k:Nat),p∈rs.flatten->p.s∈bL rs k:=by
  intro rs;induction rs with
  |nil=>intro k h;cases h
  |cons r rs ih=>
   intro k h;rw[bL,lL];rw[aX,lL] at h;rcases h with h |h
   .left;unfold bK;rw[if_neg (by ext d;cases h)];exact cy h
   .exact .inr (ih _ h)
 exact this rows 0 h
theorem Jt(rows):(@av).length<=rows.flatten.length+rows.length:=by
 have:∀(rs:Rows) (k:Nat),(bL rs k).length<=rs.flatten.length+rs.length:=by
  intro rs;induction rs with
  |nil=>intro k;simp[bL]
  | cons r rs ih=>
   intro k;have:=ih (k+1);rw[bL,av,aX,av,af];have:(bK r (k:Int)).length<=r.length+1:=by
    unfold bK;split<;>simp
   lia
 exact this rows 0
theorem yv(d:@n):(@av).length<=27:=by
 have:=Jt rows;have:=d.gJ;have:=d.str;lia
end P
namespace P
variable {rows:Rows}
def ie(rows:Rows)(s:T2):Nat:=(((@cF).find? λp=>decide (@cP)).map (·.2)).getD 0
def ig:gM:=λds G Q _=>∃(rows:Rows) (s:T2),ds=[@aj,enc s]/\((∀r∈rows,r.length<=1000)/\∃p∈@cF,@cP)/\Q (.int (ie rows s)) G
def wI:fZ :=
 (bG (fy (B8 @g) (pQ (hU (aI 2) (hU (aI 3) rD))) (du (eW (aM (CS false) @k (aS oe (ah @A (ah @y aH))))) (bQ (cG @y)) b8))
 oT)
theorem F7(ds)(G)(Q)(h:ig ds G Q @t):wI @p @B (aT 4 ds) G:=by
 obtain⟨rows,s,rfl,⟨hr,hs⟩,q⟩:=h;unfold wI;refine b6 (λτ G'=>False) ?_ (λ_ _ h=>h.elim);intro N hN;simp only[fy,B8,ak,aT,aq,aK,af,ao,aN,aA,aB,aa,ends];refine zB ?_;rw[R0];refine dZ (xs:=@cF) (λpre τ G'=>G=G'/\(∃a b,τ=[@G,some (enc s),a,b])/\∀p∈pre,s∉bK p.1 (p.2:Int)) ⟨rfl,@b1,λ_ h=>@a8⟩ @aQ ?_ ?_
 .rintro pre x post τ G' N2 e ⟨rfl,⟨a,b,rfl⟩,hp⟩ l7;obtain⟨lf,rt,e1,e2,e3⟩:=wc e;simp only[pQ,hU,aI,rD,du,au,ai,bQ,cG,ak,ae,aa,b8,bP,aM,aS,ah,aH];refine⟨x.1,(x.2:Int),rfl,hr x.1 (by rw[e1];simp),?_⟩;refine LI @r ?_;simp only[aj,if_false,aO];by_cases hx:s∈bK x.1 (x.2:Int)
  .simp only[hx,decide_true,aj,if_false,if_true];have:ie rows s=x.2:=by
    unfold ie;have:(@cF).find? (λp=>decide (@cP))=@ak:=by
     rw[e,mM];have:pre.find? (λp=>decide (@cP))=none:=by
      rw[je];intro p h;simpa using hp p h
     rw[this];simp[hx]
    rw[this];rfl
   rw[<-this];exact cp q
  .simp only[hx,decide_false,aj,if_false];refine l7 _ _ ⟨rfl,@b1,λp h=>?_⟩;ext B
   .exact hp p h
   .rw[List.mem_singleton.mp h];exact hx
 .rintro τ G' ⟨rfl,_,hp⟩;obtain⟨p,h1,h2⟩:=hs;exact absurd h2 (hp p h1)
theorem Lu(h:∃p∈@cF,@cP):∃p∈@cF,@cP/\ie rows s=p.2:=by
 unfold ie;cases q:(@cF).find? λp=>decide (@cP) with
 |none=>
  rw[je] at q;obtain⟨p,h1,h2⟩:=h;exact absurd (@b0) (q p h1)
 |some p=>exact⟨p,gf q,by simpa using qj q,rfl⟩
theorem JK(n):ij 0 n=((cR n).map λ(i:Nat)=>(i:Int)).map enc:=by
 unfold ij;rw[cP];refine eD λi _=>?_;show D.int (0+(i:Int))=D.int (i:Int);rw[Int.zero_add]
end P
namespace Y
def sS:fZ :=
 (bG (du (eW (aM Zw @k (jV nP @ah))) (bQ (cG (aM fG @g @k))) b8)
 (bQ (cG @as)))
noncomputable def jW(ns:@u)(k:Int):Int:=ns.getD k.toNat 0
def cK:gM:=λds G Q _=>∃(ns:@u) (k:Int),ds=[.dg (@bg),.int k]/\0<=k/\Q (.int (jW ns k)) G
theorem tW(ds)(G)(Q)(h:cK ds G Q @t):sS @p @B (aT 2 ds) G:=by
 obtain⟨ns,k,rfl,h0,q⟩:=h;unfold sS;simp only[bG,du,aT,aq,aK,af,ao,aA,aB,bQ,cG,aM,ak,aa,ae,ends,iU,b8,dC,bP,jV,ah,aH,nO,qB,aO];split
 .rename_i h;have h1:k<(@bg).length:=@bZ
  rw[i8 _ h0 h1];simp only[dj];rw[ag] at h1;have e:jW ns k=ns[k.toNat]:=by unfold jW;rw[bc,az @c];rfl
  rw[<-e];exact cp q
 .rename_i h;have h1:¬ k<(@bg).length:=@bZ
  rw[ag] at h1;have e:jW ns k=0:=by unfold jW;rw[bc,jD @c];rfl
  rw[<-e];exact cp q
def wM:fZ :=
 (bQ (cG (Ep (Oy "int" @g) (Mw (Oy "bool" @g)))))
def fC:gM:=λds G Q _=>∃i:Int,ds=[@M]/\Q (.bl true) G
theorem xW(ds)(G)(Q)(h:fC ds G Q @t):wM @p @B (aT 1 ds) G:=by
 obtain⟨i,rfl,q⟩:=h;unfold wM;simp only[bQ,cG,aT,aq,aK,af,ao,aA,aB,ends,pW,tO,xK,ak,aa,tm,aO];simpa using cp q
def zm:fZ :=
 (bQ (cG (aM rq (aM rq (aM my @g (dC (.int 48271))) @k) @y)))
noncomputable def pick(c p m:Int):Int:=c*48271 % p % m
def fI:gM:=λds G Q _=>∃c p m:Int,ds=[.int c,.int p,.int m]/\(0<p/\0<m)/\Q (.int (pick c p m)) G
theorem zR(ds)(G)(Q)(h:fI ds G Q @t):zm @p @B (aT 3 ds) G:=by
 obtain⟨c,p,m,rfl,⟨hp,hm⟩,q⟩:=h;unfold zm;simp only[bQ,cG,aM,ak,aT,aq,aK,af,ao,aA,aB,aa,dC,ae,ends,jv,jw];exact⟨.inr ⟨@f,@f⟩,hp,hm,cp q⟩
theorem mC(c p)(h:0<m):0<=pick c p m:=lT _ @c
theorem mD(c p)(h:0<m):pick c p m<m:=jl _ h
end Y
namespace rF
open K2.T
open K2.P (names handOf ie bK aU fO ig)
open K2.Y (jW pick mC mD cK fC fI jx oA)
theorem Mh(i j):iq (@M) (.int j)=decide (i=j):=Enc.eqv i j
theorem fY [@W] [@ai](rs:List (@s)):(enc rs:D)=.dg ((rs.map λr=>@bN).map D.dg):=by
 show D.dg _=_;rw[cP];rfl
def ot:fZ :=
 (bQ (cG (eC 1 [] (hZ @g) (aI 0) none (jV tQ @ah))))
def dJ:gM:=λds G Q _=>∃rs:List (@e),ds=[.dg (rs.map D.dg)]/\rs.length<=1000/\∀G' p0 as,HL G G' p0 as rs->Q (.ref p0) G'
theorem oH(ds)(G)(Q)(h:dJ ds G Q @t):ot @p @B (aT 1 ds) G:=by
 obtain⟨rs,rfl,hl,q⟩:=h;unfold ot;simp only[bQ,cG,eC,aT,aq,aK,af,ao,aA,aB,ends,cM,ak,aa,qG];refine⟨zf (by rw[ag];exact hl),?_⟩;refine gH (xs:=rs) (λpre acc τ G'=>(∃a,τ=[a])/\∃as:@aE,acc=@cX/\@O/\as.Nodup/\(∀a∈as,G a=none)/\as.length=pre.length/\(∀(i a:Nat) (r:@e),as[i]?=some a->pre[i]?=@am->G' a=some (.lst r))) ?_ @cJ ?_ ?_
 .exact⟨@S,[],rfl,.refl G,fj,λ_ h=>by(cases h),rfl,λi a r h=>@cr⟩
 .rintro pre r post acc τ G' N e ⟨⟨a,rfl⟩,as,rfl,le,nd,fr,ln,zZ⟩ hN;simp only[aI,jV,ah,ak,ai,aa,aH];refine Ir (IsL.dg) @aN;have Yy:p∉as:=λz=>by
   obtain⟨i,hi⟩:=eZ z;have h1:i<pre.length:=by rw[<-ln];exact(@dD).1
   have:=zZ i p pre[i] hi (az h1);rw[hp] at this;cases this
  refine hN _ _ _ ⟨@S,as++[p],@L,le.trans @a4,?_,λb hb=>?_,by rw[av,av,ln];rfl,λi b r2 h1 h2=>?_⟩
  .rw[cT];exact⟨nd,@L,λx hx y hy=>by rw[bV] at hy;subst hy;intro z;exact Yy (z ▸ hx)⟩
  .rcases List.mem_append.mp hb with z |z
   .exact fr b z
   .rw[bV] at z;rw[z];exact le.free hp
  ·by_cases hi:i<as.length
   .rw[bA hi] at h1;rw[bA (by rw[<-ln];exact hi)] at h2;have:=zZ i b r2 h1 h2;exact(eQ.new hp) _ _ this
   .rw[aY @c] at h1;rw[aY @c] at h2;have:i-as.length=0:=by
     have:=(@dT).1;simp at this;lia
    rw[this] at h1;rw[show i-pre.length=0 by lia] at h2;simp at h1 h2;subst h1 h2;exact ax
 .rintro acc τ G' ⟨⟨a,rfl⟩,as,rfl,le,nd,fr,ln,zZ⟩ p hp;have Yy:p∉as:=λz=>by
   obtain⟨i,hi⟩:=eZ z;have h1:i<rs.length:=by rw[<-ln];exact(@dD).1
   have:=zZ i p rs[i] hi (az h1);rw[hp] at this;cases this
  refine cp (q _ p as ⟨le.trans @a4,le.free hp,ax,Yy,nd,fr,ln,λi b r h1 h2=>?_⟩);exact(eQ.new hp) _ _ (zZ i b r h1 h2)
def oq:fZ :=
 (bG (FQ (eW (aM (CS false) @k @g)) (bx (aM ik (aM rq @k (dC (.int 999))) @H) (aI 1)))
 (bQ (cG @k)))
noncomputable def fnx(n:Int):Int:=n % 999+1
noncomputable def fit(n:Int):Nat->Int
 |0=>n
 |k+1=>fnx (fit n k)
theorem Cj(h1:1<=n)(h2:n<=999):∀k:Nat,fit n k=(n-1+k) % 999+1
 |0=>by show n=_;lia
 |k+1=>by
  show fnx (fit n k)=_;rw[Cj h1 h2 k];unfold fnx;lia
theorem RU{ns:@u}(h1:1<=n)(h2:n<=999)(hl:ns.length<=500):∃k,k<=ns.length/\fit n k∉ns:=by
 apply cO;intro Yx;have xr:∀k,k<=ns.length->fit n k∈ns:=λk hk=>cO λz=>Yx ⟨k,hk,z⟩;have nd:((cR (ns.length+1)).map λk=>fit n k).Nodup:=by
  refine List.pairwise_iff_getElem.mpr λi j hi hj Dk=>?_;simp only[ag,iE] at hi hj;rw[dj,dj,lN,lN,Cj h1 h2,Cj h1 h2];lia
 have:=jx _ ns nd λx hx=>by
  obtain⟨k,hk,rfl⟩:=@du;exact xr k (by have:=List.mem_range.mp hk;lia)
 simp at this;lia
def eI:gM:=λds G Q _=>∃(d:D) (ns:@u) (n:Int),ds=[d,.int n]/\IsL G d (@bg)/\(ns.length<=500/\1<=n/\n<=999)/\∀m:Int,m∉ns->1<=m->m<=999->Q (.int m) G
theorem Hl{G:Gp}{d:D}{ns:@u}{i:Int}{Q:DK}(h:IsL G d (@bg))(k:Q (.bl (decide (i∈ns))) G):CS false (@M) d G Q:=by
 have e:(@bg).any (λx=>iq x (@M))=decide (i∈ns):=A9 ns i;rcases h with rfl |⟨a,rfl,g⟩
 .refine⟨@M,@bg,@P,Sn.rI ns,?_⟩;simp only[aj,if_false];rw[e];exact k
 .unfold CS;simp only[g];refine⟨@M,@bg,@P,Sn.rI ns,?_⟩;simp only[aj,if_false];rw[e];exact k
theorem oG(ds)(G)(Q)(h:eI ds G Q @t):oq @p @B (aT 2 ds) G:=by
 obtain⟨d,ns,n,rfl,hd,⟨hl,h1,h2⟩,q⟩:=h;unfold oq;refine b6 (λτ G'=>G=G'/\∃m:Int,(m∉ns/\1<=m/\m<=999)/\τ=[@aM,some (.int m)]) ?_ ?_
 .intro N hN;obtain⟨k,hk,qV⟩:=RU h1 h2 hl;have main:∀(j:Nat),j<=k->GI (eW (aM (CS false) @k @g)) (bx (aM ik (aM rq @k (dC (.int 999))) @H) (aI 1)) (j+1) @p {ends Q with nx:=N} [@aM,some (.int (fit n (k-j)))] G:=by
   intro j;induction j with
   |zero=>
    intro _;show GI _ _ (0+1) _ _ _ _;rw[GI];simp only[bx,aM,ak,ae,aa,dC,aI,ends,au,ai,jw,eV,bP];refine Hl hd ?_;simp only[Tn,qV,decide_false,aO,aj,if_false];have:=Cj h1 h2 k;exact hN _ _ ⟨rfl,_,⟨qV,@d,@d⟩,rfl⟩
   | succ j ih=>
    intro hj;rw[GI];simp only[bx,aM,ak,ae,aa,dC,aI,ends,au,ai,jw,eV,bP];refine Hl hd ?_;have hb:=Cj h1 h2 (k-(j+1));by_cases hm:fit n (k-(j+1))∈ns
    .simp only[hm,decide_true,aO,if_true];refine⟨@f,?_⟩;have e:fit n (k-(j+1)) % 999+1=fit n (k-j):=by
      rw[show k-j=(k-(j+1))+1 by lia];rfl
     rw[e];exact ih @c
    .simp only[hm,decide_false,aO,aj,if_false];exact hN _ _ ⟨rfl,_,⟨hm,@d,@d⟩,rfl⟩
  have:=main k @X;rw[rH] at this;exact⟨k+1,this⟩
 .rintro _ _ ⟨rfl,m,⟨m1,m2,m3⟩,rfl⟩;simp only[bQ,cG,ak,ae,aa,ends];exact cp (q m m1 m2 m3)
noncomputable abbrev dT(t:Tb):List (@e):=t.map λr=>r.map D.int
theorem Y0(t)(i)(r):(dT t).set i (r.map D.int)=dT (t.set i r):=by unfold dT;rw[yg]
theorem abJ{i:Nat}(h:t[i]?=@am):(dT t)[i]?=some (r.map D.int):=by unfold dT;rw[aZ,h];rfl
theorem Zi{xs:@u}{j:Nat}(h:xs[j]?=@ak):nS (xs.map D.int) (j:Int)=some (.int x):=by
 obtain⟨hj,e⟩:=@dS;rw[i8 _ @c (@aV)];simp[e]
theorem Yq(h:j<n):D8 n (j:Int)=some j:=by
 unfold D8;rw[if_pos @c,if_pos @c];simp
theorem OF(h:HL G G' p0 as (dT t))(hs:Sq n t)(hi:i<n)(hj:j<n)(Dk:i≠j)(x):
  ∃(a:Nat) (r:@u) (y:Int),as[i]?=some a/\nS (@cX) (i:Int)=some @U/\G' a=some (.lst (r.map D.int))/\r.length=n/\nS (r.map D.int) (j:Int)=some (.int y)/\HL G (cJ G' a (.lst ((r.map D.int).set j (.int (y+x))))) p0 as (dT (bump t i j x)):=by
 obtain⟨r,y,e1,e2,e3⟩:=VE hs hi hj x Dk;obtain⟨a,ea,ga,ia⟩:=h.row (abJ e1);refine⟨a,r,y,ea,ia,ga,hs.2 r (bE e1),Zi e2,?_⟩;have:=h.put (r':=(r.set j (y+x)).map D.int) ea;rw[Y0,<-e3] at this;rw[yg] at this;ext g
theorem YR(t):(enc t:D)=.dg ((dT t).map D.dg):=fY t
def pN(rows:Rows)(t:Tb)(n:Int):Tb:=bump t (ie rows @a1) (ie rows @ba) (@cH)
def AX(rows:Rows):Tb:=(@l).foldl (pN rows) @dB
theorem xx(rows):∀(ns:@u) (t:Tb),Sq n t->Sq n (ns.foldl (pN rows) t)
 |[],_,h=>h
 |m::ns,t,h=>xx rows ns _ (MC h _ _ _)
structure Lk(rows:Rows):Prop where
 dr:@n
 sp:∀n∈@l,∀w:Int,w=0\/w=1->(∃p∈@cF,(⟨n,w⟩:T2)∈bK p.1 (p.2:Int))/\ie rows ⟨n,w⟩<rows.length
 hd:∀n∈@l,∃p∈rows.flatten,p.a=n
def BB:fZ :=
 (bG (bx (c9 aH) (aI 1))
 (bG (fy (hZ @g) (aI 2) (cW (mU vw gb @k (ah (eC 1 [] (hZ @g) (aI 0) none @as) aH))))
 (bG (fy (hZ (aS aU @ah)) (aI 3) (bG (bx (aS ig (ah @g (ah (dN (ah @A (ah @as aH))) aH))) (aI 4))
 (bG (bx (aS ig (ah @g (ah (dN (ah @A (ah @H aH))) aH))) (aI 5))
 (du (eW (aM (l6 true) @Y (ak 5))) (bx (aM ik (aM fG (aM fG @k @Y) (ak 5)) (aS fO (ah @g (ah @A aH)))) (pR (aM fG @k @Y) (ak 5))) b8))))
 (bQ (cG @k)))))
def kI:gM:=λds G Q _=>∃rows:Rows,ds=[@aj]/\Lk rows/\∀G' p0 as,HL G G' p0 as (dT (AX rows))->Q (.ref p0) G'
theorem LF(d:@n):∀r∈rows,r.length<=1000:=λr hr=>by
 have:r.length<=rows.flatten.length:=by
  obtain⟨l,m,e⟩:=e7 hr;rw[e,fB,aX,av,av];lia
 have:=d.gJ;lia
theorem CC(ds)(G)(Q)(h:kI ds G Q @t):BB @p @B (aT 6 ds) G:=by
 obtain⟨rows,rfl,lk,q⟩:=h;have gJ:=lk.dr.gJ;have str:=lk.dr.str;unfold BB;simp only[ends,aT,aq,aK,af,ao,aN,aA,aB,dO,bx,c9,aH,aI,au,ai];refine⟨@f,λp0 f0=>?_⟩;refine b6 (λτ G'=>(∃a b c d,τ=[@G,some (.ref p0),a,b,c,d])/\∃as,HL G G' p0 as (dT @dB)) ?_ ?_
 .intro N hN;simp only[fy,cM,ak,aa];refine fu ?_;refine dZ (xs:=rows) (λpre τ G'=>(∃a b c d,τ=[@G,some (.ref p0),a,b,c,d])/\∃as,HL G G' p0 as (dT (aN pre.length (aN rows.length 0)))) ?_ @aQ ?_ ?_
  .exact⟨⟨_,_,_,_,rfl⟩,[],.new f0,f0,ax,@L,fj,λ_ h=>by(cases h),rfl,λi a r h=>@cr⟩
  .rintro pre r post τ G' N2 e ⟨⟨a,b,c,d,rfl⟩,as,hh⟩ l7;have hlp:=oA e;simp only[aI,cW,mU,ak,au,ai,ae,aa,gr,hh.gp,ah,eC,aH,cZ,cM,true_and];refine fu ⟨zf (by rw[ag];show rows.length<=1000;lia),?_⟩;refine gH (xs:=rows) (λpre acc τ G2=>G'=G2/\(∃a,τ=[a])/\acc=(aN pre.length (0:Int)).map D.int) ⟨rfl,@S,rfl⟩ @cJ ?_ ?_
   .rintro BJ x aam acc τ G2 N3 e2 ⟨rfl,⟨a,rfl⟩,rfl⟩ oB;simp only[aI,dC,ai];refine oB _ _ _ ⟨rfl,@S,?_⟩;rw[av,cH,Tp];simp
   .rintro acc τ G2 ⟨rfl,⟨a,rfl⟩,rfl⟩ p1 f1;have hh1:=hh.ext (eQ.new (o:=.lst ((aN rows.length (0:Int)).map D.int)) f1);simp only[hh1.gp];have hal:as.length<=1000:=by rw[hh.len];unfold dT;rw[ag,fF];lia
    refine⟨uO (by rw[ag];exact hal),?_⟩;have hn:∀o,G' p1≠@j:=λo z=>by rw[f1] at z;cases z
    have n1:p1∉as:=λz=>by
     obtain⟨j,hj⟩:=eZ z;have hjl:j<(dT (aN pre.length (aN rows.length (0:Int)))).length:=by rw[<-hh.len];exact(List.getElem?_eq_some_iff.mp hj).1
     exact hn _ (hh.at' j p1 _ hj (az hjl))
    have n0:p1≠p0:=λz=>hn _ (by rw[z];exact hh.gp);refine l7 _ _ ⟨⟨_,_,_,_,rfl⟩,as++[p1],hh1.le.put hh.fp,hh.fp,?_,?_,?_,?_,?_,?_⟩
    .rw[ax];simp
    .intro z;rcases List.mem_append.mp z with z |z
     .exact hh.np z
     .rw[bV] at z;exact n0 z.symm
    .rw[cT];exact⟨hh.nd,@L,λx hx y hy=>by rw[bV] at hy;subst hy;intro z;exact n1 (z ▸ hx)⟩
    .intro b hb;rcases List.mem_append.mp hb with z |z
     .exact hh.fr b z
     .rw[bV] at z;rw[z];exact hh.le.free f1
    .have:=hh.len;unfold dT at this ⊢;rw[av,this];simp
    .intro i b r2 h1 h2;have hl:=hh.len;have hb0:b≠p0:=by
      ext d;rcases List.mem_append.mp (bE h1) with z |z
      .exact hh.np z
      .rw[bV] at z;exact n0 z.symm
     rw[cL hb0];have hrr:r2=(aN rows.length (0:Int)).map D.int:=by
      unfold dT at h2;rw[aZ] at h2;cases e3:(aN (pre++[r]).length (aN rows.length (0:Int)))[i]? with
      |none=>rw[e3] at h2;cases h2
      |some w=>
       rw[e3] at h2;have:=(List.mem_replicate.mp (bE e3)).2;ext c;cases h2;rfl
     by_cases hi:i<as.length
     .rw[bA hi] at h1;have ZI:i<(dT (aN pre.length (aN rows.length (0:Int)))).length:=by rw[<-hl];exact hi
      have h3:=hh1.at' i b _ h1 (az ZI);rw[h3,hrr];congr 2;unfold dT;simp
     .rw[aY @c] at h1;have:i-as.length=0:=by
       have:=(@dT).1;simp at this;lia
      rw[this] at h1;simp at h1;subst h1;rw[hrr];exact ax
  .rintro τ G' ⟨⟨a,b,c,d,rfl⟩,as,hh⟩;exact hN _ _ ⟨⟨_,_,_,_,rfl⟩,as,hh⟩
 rintro _ G1 ⟨⟨a,b,c,d,rfl⟩,as,hh⟩;refine b6 (λτ G'=>(∃a b c d,τ=[@G,some (.ref p0),a,b,c,d])/\HL G G' p0 as (dT (AX rows))) ?_ ?_
 .intro N hN;simp only[fy,cM,aS,ah,ak,aa,aH];refine⟨rows,rfl,(show @dj by lia),fu ?_⟩;refine dZ (xs:=@l) (λpre τ G'=>(∃a b c d,τ=[@G,some (.ref p0),a,b,c,d])/\HL G G' p0 as (dT (pre.foldl (pN rows) @dB))) ⟨⟨_,_,_,_,rfl⟩,hh⟩ @aQ ?_ ?_
  .rintro pre n post τ G' N2 e ⟨⟨a,b,c,d,rfl⟩,h2⟩ l7;have hn:n∈@l:=by rw[e];simp
   obtain⟨s0,i0⟩:=lk.sp n hn 0 (@I);obtain⟨s1,i1⟩:=lk.sp n hn 1 (@a0);have sq:=xx rows pre _ (su rows.length);have eN:(pre++[n]).foldl (pN rows) @dB=bump (pre.foldl (pN rows) @dB) (ie rows @a1) (ie rows @ba) (@cH):=by rw[mL];rfl
   simp only[aI,P.mI,au,ai,ff,bx,aS,ah,ak,aa,dN,ae,dC,aH,af,ao,du,aM,pR,b8,bP];refine⟨@f,rows,@a1,rfl,⟨LF lk.dr,s0⟩,?_⟩;refine⟨@f,rows,@ba,rfl,⟨LF lk.dr,s1⟩,?_⟩;refine⟨_,_,@P,@P,?_⟩;simp only[Mh,if_true,aO];by_cases Dk:ie rows @a1=ie rows @ba
   .have e2:((ie rows @a1:Int)=(ie rows @ba:Int)):=@d
    simp only[e2,decide_true,bI,aj,if_false];refine l7 _ _ ⟨⟨_,_,_,_,rfl⟩,?_⟩;rw[eN];have:bump (pre.foldl (pN rows) @dB) (ie rows @a1) (ie rows @ba) (@cH)=pre.foldl (pN rows) @dB:=by unfold bump;rw[if_pos Dk]
    rw[this];exact h2
   .have e2:¬ ((ie rows @a1:Int)=(ie rows @ba:Int)):=@d
    simp only[e2,decide_false,a9,if_true];obtain⟨a1,r,y,ea,ia,ga,rl,jy,h3⟩:=OF h2 sq i0 i1 Dk (@cH);refine fL (IsL.ref h2.gp) ia (fL (IsL.ref ga) jy ?_);refine⟨rows,n,rfl,⟨@d,lk.hd n hn⟩,?_⟩;simp only[P.mI,eV];refine fL (IsL.ref h2.gp) ia ?_;unfold zh;simp only[ga,ag,rl,Yq i1];refine l7 _ _ ⟨⟨_,_,_,_,rfl⟩,?_⟩;rw[eN];exact h3
  .rintro τ G' ⟨⟨a,b,c,d,rfl⟩,h2⟩;exact hN _ _ ⟨⟨_,_,_,_,rfl⟩,h2⟩
 rintro _ G2 ⟨⟨a,b,c,d,rfl⟩,h2⟩;simp only[bQ,cG,ak,ae,aa];exact cp (q _ p0 as h2)
def wr(rows:Rows):Int:=((@l).map (handOf rows)).sum
end rF
namespace rF
open K2.T
open K2.P (names handOf ie bK aU fO ig Lu)
open K2.Y (jW pick mC mD cK fC fI jx oA)
section
variable {S:Nat} {rows:Rows} {cs:List Cr}
theorem qx:∀{rows:Rows},(@a7).Nodup->∀{i j:Nat} {r s:@w} {p q:T3},rows[i]?=@am->rows[j]?=some s->p∈r->q∈s->p.s=q.s->i=j
 |[],_,i,j,r,s,p,q,h,_,_,_,_=>@a8
 |t::rows,hn,0,0,r,s,p,q,_,_,_,_,_=>rfl
 |t::rows,hn,0,j+1,r,s,p,q,h1,h2,hp,hq,e=>by
  cases h1;rw[aX,aF,cT] at hn;refine absurd e (hn.2.2 _ (cy hp) _ ?_);exact cy (List.mem_flatten.mpr ⟨s,bE h2,hq⟩)
 |t::rows,hn,i+1,0,r,s,p,q,h1,h2,hp,hq,e=>by
  cases h2;rw[aX,aF,cT] at hn;refine absurd e.symm (hn.2.2 _ (cy hq) _ ?_);exact cy (List.mem_flatten.mpr ⟨r,bE h1,hp⟩)
 |t::rows,hn,i+1,j+1,r,s,p,q,h1,h2,hp,hq,e=>by
  rw[aX,aF,cT] at hn;have:=qx hn.2.1 (i:=i) (j:=j) h1 h2 hp hq e;lia
theorem TR{i:Nat}(h:rows[i]?=@am)(hp:p∈r):∃q∈@cF,p.s∈bK q.1 (q.2:Int):=by
 refine⟨(r,i),by rw[GB];exact h,?_⟩;unfold bK;rw[if_neg (by ext d;cases hp)];exact cy hp
theorem wt(nd:(@a7).Nodup)(h:rows[i]?=@am)(hp:p∈r)(hw:p.b≠2):ie rows p.s=i:=by
 obtain⟨q,h1,h2,h3⟩:=Lu (TR h hp);rw[h3];rw[GB] at h1;unfold bK at h2;split at h2
 .rw[bV] at h2;exact absurd (congrArg T2.b h2) hw
 .obtain⟨x,hx,e⟩:=List.mem_map.mp h2;exact(qx nd h h1 hp hx e.symm).symm
theorem fold_congr{α β:Type}{f g:β->α->β}:∀(l:@s) (b:β),(∀b,∀x∈l,f b x=g b x)->l.foldl f b=l.foldl g b
 |[],_,_=>rfl
 |x::l,b,h=>by
  rw[fk,fk,h b x @i];exact fold_congr l _ λb y hy=>h b y (aC _ hy)
theorem Eh{α β:Type}{f:β->α->β}(hc:∀b x y,f (f b x) y=f (f b y) x){l m:@s}(p:l.Perm m):∀b,l.foldl f b=m.foldl f b:=by
 induction p with
 |nil=>intro b;rfl
 |cons x _ ih=>intro b;exact ih _
 |swap x y l=>intro b;simp only[fk];rw[hc]
 |trans _ _ Ob Oa=>intro b;rw[Ob,Oa]
end
structure AL(G G':Gp)(as:@aE)(rs:List (@e)):Prop where
 le:@O
 nd:as.Nodup
 fr:∀a∈as,G a=none
 len:as.length=rs.length
 at':∀(i a:Nat) (r:@e),as[i]?=some a->rs[i]?=@am->G' a=some (.lst r)
theorem AL.nil(G):AL G G [] []:=⟨.refl G,fj,λ_ h=>by(cases h),rfl,λi a r h=>@cr⟩
theorem AL.new(h:AL G G' as rs)(hp:G' p=none):p∉as:=λz=>by
 obtain⟨i,hi⟩:=eZ z;have h1:i<rs.length:=by rw[<-h.len];exact(@dD).1
 have:=h.at' i p rs[i] hi (az h1);rw[hp] at this;cases this
theorem AL.push(h:AL G G' as rs)(hp:G' p=none)(r):AL G (cJ G' p (.lst r)) (as++[p]) (rs++[r]):=by
 refine⟨h.le.trans @a4,?_,λb hb=>?_,by rw[av,av,h.len];rfl,λi b r2 h1 h2=>?_⟩
 .rw[cT];exact⟨h.nd,@L,λx hx y hy=>by rw[bV] at hy;subst hy;intro z;exact h.new hp (z ▸ hx)⟩
 .rcases List.mem_append.mp hb with z |z
  .exact h.fr b z
  .rw[bV] at z;rw[z];exact h.le.free hp
 ·by_cases hi:i<as.length
  .rw[bA hi] at h1;rw[bA (by rw[<-h.len];exact hi)] at h2;exact(eQ.new hp) _ _ (h.at' i b r2 h1 h2)
  .have ln:=h.len;rw[aY @c] at h1;rw[aY @c] at h2;have:i-as.length=0:=by
    have:=(@dT).1;simp at this;lia
   rw[this] at h1;rw[show i-rs.length=0 by lia] at h2;simp at h1 h2;subst h1 h2;exact ax
theorem AL.top(h:AL G G' as rs)(hp:G' p=none):HL G (cJ G' p (.lst (@cX))) p as rs :=
 ⟨h.le.trans @a4,h.le.free hp,ax,h.new hp,h.nd,h.fr,h.len,λi b r h1 h2=>(eQ.new hp) _ _ (h.at' i b r h1 h2)⟩
theorem uE:Sb i t E K τ G=t E {K with nx:=λrk G1=>match rk[i]? with
 |some (some d)=>OR G1 d λt G2=>K.nx (rk.set i (some t)) G2
 |_=>False} τ G:=rfl
theorem YO [@W] [@ai](a:α):iq (enc a) (enc a)=true:=by rw[Enc.eqv];simp
end rF
namespace WH
open K2.P
section
variable {α β:Type} [@W] [DecidableEq β]
variable {V:@s} {R:α->α->Prop}
variable {f:α->α}
theorem QL:∀(xs ys:@s),xs.Nodup->(∀x∈xs,x∈ys)->xs.length<=ys.length
 |[],_,_,_=>b9 _
 |x::xs,ys,hn,h=>by
  rw[bT] at hn;have:=QL xs (ys.erase x) hn.2 λy hy=>(za (show y≠x from λz=>hn.1 (by rw[<-z];exact hy))).mpr (h y (aC _ hy));have hx:=h x @i;rw[tZ hx] at this;have:=vV hx;rw[af];lia
end
end WH
namespace rN
open K2.P
structure HR(G G':Gp)(p0:Nat)(as:@aE)(rs:Rows):Prop where
 le:@O
 fp:G p0=none
 gp:G' p0=some (.lst (@cX))
 np:p0∉as
 nd:as.Nodup
 fr:∀a∈as,G a=none
 len:as.length=rs.length
 at':∀(i a:Nat) (r:@w),as[i]?=some a->rs[i]?=@am->G' a=some (.lst (@bN))
theorem HR.fz{G G':Gp}{p0:Nat}{as:@aE}{rs:Rows}(h:HR G G' p0 as rs){Q:DK}(q:Q (enc rs) G):OR G' (.ref p0) Q:=by
 refine qH h.le h.fp h.gp (ss:=rs.map enc) ?_ q;have:∀(as:@aE) (rs:Rows),as.length=rs.length->(∀a∈as,G a=none)->(∀(i a:Nat) (r:@w),as[i]?=some a->rs[i]?=@am->G' a=some (.lst (@bN)))->y8 G' (λa=>(G a).isNone) (@cX) (rs.map enc):=by
  intro as;induction as with
  |nil=>intro rs hl _ _;cases rs with
   |nil=>ext f
   |cons _ _=>cases hl
  | cons a as ih=>
   intro rs hl hf zZ;cases rs with
   |nil=>cases hl
   |cons r rs=>
    refine .cons (.ref (zZ 0 a r rfl rfl) (by simp[hf a @i]) (y8.same _)) ?_;exact ih rs (@dr) (λb hb=>hf b (aC _ hb)) λi b s h1 h2=>zZ (i+1) b s h1 h2
 exact this as rs h.len h.fr h.at'
theorem Ve{G G2:Gp}{d:D}{ds:@e}{R:@bT}(h:IsL G d ds)(l:eQ G G2)(k:∀ok:@E,(∀G',@O->ok G')->R ds ok G2):Rf d G2 R:=by
 ext v
 .exact k _ λ_ _=>trivial
 .rw[A3 (l a _ e)];exact k _ λG' l=>l a _ e
theorem lB:∀{rs:Rows},r∈rs->r.length<=rs.flatten.length
 |a::rs,h=>by
  rw[aX,av];rcases @dh with rfl |h
  .lia
  .have:=lB h;lia
end rN
namespace WH
open K2.P
variable {rows:Rows}
theorem iB(d:@n):(@l).Nodup:=by
 unfold names;refine t6 ?_;have h:(@dG).Pairwise λp q=>p.s≠q.s:=by
  have:=d.nd;unfold MT at this;rw[cS] at this;exact this.filter _
 unfold MT;rw[cS];refine h.imp_of_mem λ{p q} hp hq ne z=>ne ?_;have h1:p.b=0:=by simpa using (List.mem_filter.mp hp).2
 have h2:q.b=0:=by simpa using (List.mem_filter.mp hq).2
 unfold T3.s;rw[z,h1,h2]
theorem twice(d:@n):rows.flatten.length=2*@bA:=by
 have e0:@bA=(@dG).length:=by unfold names;rw[TQ,ag]
 have nd:rows.flatten.Nodup:=by
  have:=d.nd;unfold MT at this;rw[cS] at this;exact this.imp λ{u v} q z=>q (by rw[z])
 have h1:rows.flatten.length=(@dG).length+(rows.flatten.filter λp=>!(p.b == 0)).length:=by
  rw[<-GC,<-GC];rw[List.length_eq_countP_add_countP (λp:T3=>p.b == 0) (l:=rows.flatten)];congr 1;refine List.countP_congr λx _=>?_;simp
 have Wa:∀{L:@w},L.Nodup->(L.map om).Nodup:=by
  intro L h;unfold MT;rw[cS];exact h.imp λ{u v} q z=>q (by rw[<-V9 u,z,V9])
 have a1:=QL ((@dG).map om) (rows.flatten.filter λp=>!(p.b == 0)) (Wa (nd.filter _)) λx hx=>by
  obtain⟨p,hp,rfl⟩:=@du;obtain⟨h1,h2⟩:=List.mem_filter.mp hp;have h2:p.b=0:=@b0
  refine List.mem_filter.mpr ⟨QF d h1,?_⟩;show(!(1-p.b == 0))=true;rw[h2];rfl
 have a2:=QL ((rows.flatten.filter λp=>!(p.b == 0)).map om) (@dG) (Wa (nd.filter _)) λx hx=>by
  obtain⟨p,hp,rfl⟩:=@du;obtain⟨h1,h2⟩:=List.mem_filter.mp hp;have h2:p.b≠0:=@b0
  have h3:=(d.way p h1).resolve_left h2;refine List.mem_filter.mpr ⟨QF d h1,?_⟩;show(1-p.b == 0)=true;rw[h3];rfl
 rw[ag] at a1 a2;lia
end WH
namespace Gd
open K2.P K2.T
open K2.rF (AL dJ fnx fY uE Mh)
open K2.Y (jW pick mC mD cK fC fI jx oA)
theorem yK:du c a b E K τ G=c E τ G λk G1=>if k=true then a E K τ G1 else b E K τ G1:=rfl
theorem eq_int(i j):iq (@M) (.int j)=decide (i=j):=Enc.eqv i j
theorem at2(a b c:D):nS [a,b,c] 2=@aW:=rfl
noncomputable def lu(L:@w):@u:=(L.filter λp=>p.b == 0).map (·.a)
def dB:gM:=TV (λrows:Rows=>@cN) λrows=>@aS
def wQ:fZ :=
 (bG (bx (c9 aH) (aI 1))
 (bG (fy (hZ @g) (aI 2) (fy (hZ @y) (aI 3) (du (eW (aM @aq (aM fG @A @H) @as)) (cW (mU vw gb @k (ah (aM fG @A @as) aH))) b8)))
 (bQ (cG @k))))
theorem iO(L):(lu L).length<=L.length:=by unfold lu;rw[ag];exact cI _ _
theorem UZ(a b):lu (a++b)=lu a++lu b:=by unfold lu;rw[bg,aF]
theorem xZ(ds)(G)(Q)(h:dB ds G Q @t):wQ @p @B (aT 4 ds) G:=by
 obtain⟨rows,rfl,hl,q⟩:=h;unfold wQ;simp only[ends,aT,aq,aK,af,ao,aN,aA,aB,dO,bx,c9,aH,aI,au,ai];refine⟨@f,@aN⟩;refine b6 (λτ G'=>(∃a b,τ=[@G,@ax,a,b])/\@O/\G' p=some (.lst ((@aS).map enc))) ?_ ?_
 .intro N hN;simp only[fy,cM,ak,aa];refine fu ?_;refine dZ (xs:=rows) (λpre τ G'=>(∃a b,τ=[@G,@ax,a,b])/\@O/\G' p=some (.lst ((lu pre.flatten).map enc))) ⟨@b1,.new hp,ax⟩ @aQ ?_ ?_
  .rintro pre r post τ G' N2 e ⟨⟨a,b,rfl⟩,l,gp⟩ l7;have hlen:@dU:=by
    rw[e];simp only[fB,aX,av];lia
   simp only[aI,fy,au,ai,cM,ak,ae,aa];refine fu ?_;refine dZ (xs:=r) (λpp τ G'=>(∃a b,τ=[@G,@ax,a,b])/\@O/\G' p=some (.lst ((lu (pre.flatten++pp)).map enc))) ⟨@b1,l,by rw[bC];exact gp⟩ @aQ ?_ ?_
   .rintro pp t pt τ G4 N3 e4 ⟨⟨a,b,rfl⟩,l4,Md⟩ oB;have hpp:pp.length<r.length:=by have:=congrArg c7 e4;simp at this;lia
    have hz:=iO (pre.flatten++pp);rw[av] at hz;simp only[aI,nJ,au,ai,yK,cW,mU,ak,ae,aa,gr,ah,aM,dC,aH,cZ,cU,Ah,b8,bP,MH];refine⟨_,_,@P,@P,?_⟩;rw[eq_int];have eu:lu (pre.flatten++(pp++[t]))=lu (pre.flatten++pp)++lu [t]:=by rw[<-bp,UZ]
    by_cases hb:t.b=0
    .simp only[aj,hb,decide_true,bI,if_false,aO,Md,true_and,if_true];refine⟨uO (@aV),oB _ _ ⟨@b1,l4.put hp,?_⟩⟩;rw[ax,eu,aF];have:lu [t]=[t.a]:=by simp[lu,hb]
     rw[this];rfl
    .simp only[aj,hb,decide_false,a9,if_false,aO];refine oB _ _ ⟨@b1,l4,?_⟩;have:lu [t]=[]:=by simp[lu,hb]
     rw[eu,this,bC];exact Md
   .rintro τ G4 ⟨⟨a,b,rfl⟩,l4,Md⟩;refine l7 _ _ ⟨@b1,l4,?_⟩;have:(pre++[r]).flatten=pre.flatten++r:=@L
    rw[this];exact Md
  .rintro τ G' ⟨⟨a,b,rfl⟩,l,gp⟩;exact hN _ _ ⟨@b1,l,gp⟩
 .rintro _ G' ⟨⟨a,b,rfl⟩,l,gp⟩;simp only[bQ,cG,ak,ae,aa];exact fM l hp gp q
def rC(L:@w):List (Int×Int):=L.foldl (λl p=>jO l p.a p.c) []
def wR:fZ :=
 (bG (bx Ag (aI 1))
 (bG (fy (hZ @g) (aI 2) (fy (hZ @y) (aI 3) (bx (aM fG @A @ad) (pR @k (aM fG @A @as)))))
 (bQ (cG @k))))
def gv:gM:=λds G Q _=>∃rows:Rows,ds=[@aj]/\@cN/\Q (.vX (gc (rC rows.flatten))) G
theorem VI [@cD](l)(k:κ)(v:β):(jO l k v).length<=l.length+1:=by
 by_cases h:∃p∈l,p.1=k
 .rw[FZ h];lia
 .rw[IA (λz=>by obtain⟨p,hp,e⟩:=@c3;exact h ⟨p,hp,e⟩),av];exact aR _
theorem nE:∀(L:@w) (l:List (Int×Int)),(L.foldl (λl p=>jO l p.a p.c) l).length<=l.length+L.length
 |[],l=>@L
 |p::L,l=>by
  rw[fk];have h1:=nE L (jO l p.a p.c);have h2:=VI l p.a p.c;rw[af];lia
theorem x8(ds)(G)(Q)(h:gv ds G Q @t):wR @p @B (aT 4 ds) G:=by
 obtain⟨rows,rfl,hl,q⟩:=h;unfold wR;simp only[ends,aT,aq,aK,af,ao,aN,aA,aB,dO,bx,Ag,jN,aI,au,ai];intro p hp;refine b6 (λτ G'=>(∃a b,τ=[@G,@ax,a,b])/\@O/\G' p=some (.kU (gc (rC rows.flatten)))) ?_ ?_
 .intro N hN;simp only[fy,cM,ak,aa];refine fu ?_;refine dZ (xs:=rows) (λpre τ G'=>(∃a b,τ=[@G,@ax,a,b])/\@O/\G' p=some (.kU (gc (rC pre.flatten)))) ⟨@b1,.new hp,ax⟩ @aQ ?_ ?_
  .rintro pre r post τ G' N2 e ⟨⟨a,b,rfl⟩,l,gp⟩ l7;have hlen:@dU:=by
    rw[e];simp only[fB,aX,av];lia
   simp only[aI,fy,au,ai,cM,ak,ae,aa];refine fu ?_;refine dZ (xs:=r) (λpp τ G'=>(∃a b,τ=[@G,@ax,a,b])/\@O/\G' p=some (.kU (gc (rC (pre.flatten++pp))))) ⟨@b1,l,by rw[bC];exact gp⟩ @aQ ?_ ?_
   .rintro pp t pt τ G4 N3 e4 ⟨⟨a,b,rfl⟩,l4,Md⟩ oB;have hpp:pp.length<r.length:=by have:=congrArg c7 e4;simp at this;lia
    have hz:=nE (pre.flatten++pp) [];rw[av] at hz;simp only[aI,bx,aM,ak,nJ,au,ai,ae,aa,dC,pR,cU,Ah,at2];refine P.ud (k:=t.a) (v:=t.c) Md (by show(rC (pre.flatten++pp)).length<=1000;rw[ao] at hz;unfold rC;lia) ?_;refine oB _ _ ⟨@b1,l4.put hp,?_⟩;have eh:rC (pre.flatten++(pp++[t]))=jO (rC (pre.flatten++pp)) t.a t.c:=by
     rw[<-bp];unfold rC;exact mL ..
    rw[ax,eh]
   .rintro τ G4 ⟨⟨a,b,rfl⟩,l4,Md⟩;refine l7 _ _ ⟨@b1,l4,?_⟩;rw[Md,fB,List.flatten_singleton]
  .rintro τ G' ⟨⟨a,b,rfl⟩,l,gp⟩;exact hN _ _ ⟨@b1,l,gp⟩
 .rintro _ G' ⟨⟨a,b,rfl⟩,l,gp⟩;simp only[bQ,cG,ak,ae,aa];exact RL l hp gp q
theorem A2{G G2:Gp}{d:D}{ds:@e}{R:@bT}(h:IsL G d ds)(l:eQ G G2)(k:∀ok:@E,(∀G',@O->ok G')->R ds ok G2):Rf d G2 R:=by
 ext v
 .exact k _ λ_ _=>trivial
 .rw[A3 (l _ _ e)];exact k _ λG' le=>le _ _ e
end Gd
namespace JB
open K2.T
open K2.P (names handOf aU fO bX eK pairsOf)
open K2.Y (jW pick mC mD cK fC fI oA)
open K2.rF (AL fY uE)
open K2.Gd (A2 lu iO)
def dJ:gM:=rF.dJ
def ot:fZ :=
 (bQ (cG (eC 1 [] (hZ @g) (aI 0) none (jV tQ @ah))))
theorem oH(ds)(G)(Q)(h:dJ ds G Q @t):ot @p @B (aT 1 ds) G:=rF.oH ds G Q h
def eI:gM:=rF.eI
def oq:fZ :=
 (bG (FQ (eW (aM (CS false) @k @g)) (bx (aM ik (aM rq @k (dC (.int 999))) @H) (aI 1)))
 (bQ (cG @k)))
theorem oG(ds)(G)(Q)(h:eI ds G Q @t):oq @p @B (aT 2 ds) G:=rF.oG ds G Q h
def BC:fZ :=
 (bG (bx (aS dJ @ah) (aI 4))
 (bG (bx (aM rq @y (aM ik (jV nP (ah (aM fG @Y @k) aH)) @H)) (aI 2))
 (bG (bx (aM ik (aM ik (vY (aM fG @Y @k) eO (jB @y)) @A) (vY (aM fG @Y @k) (jB @y) eO)) (pR @Y @k))
 (bQ (cG @Y)))))
def iS:gM:=λds G Q _=>∃(rs:List (@e)) (i:Nat) (pl:Int) (more:@e),ds=[.dg (rs.map D.dg),@M,.int pl,.dg more]/\(i<rs.length/\rs.length<=1000/\(∀r∈rs,r.length<=500)/\more.length<=100)/\∀(r:@e) (k:Nat),rs[i]?=@am->k<=r.length->(k:Int)=pl % ((r.length:Int)+1)->Q (.dg ((rs.set i (@b5++more++@b6)).map D.dg)) G
theorem CD(ds)(G)(Q)(h:iS ds G Q @t):BC @p @B (aT 5 ds) G:=by
 obtain⟨rs,i,pl,more,rfl,⟨hi,hl,hr,hm⟩,q⟩:=h;unfold BC;simp only[ends,aT,aq,aK,af,ao,aN,aA,aB,dO,bx,aS,ah,ak,aa,aH,aI,au,ai,aM,ae,jV,dC,vY,eO,pR,bQ,cG,gR];refine⟨rs,rfl,hl,λG1 p0 as h1=>?_⟩;obtain⟨r,er⟩:∃r,rs[i]?=@am:=⟨rs[i],az hi⟩;have hrl:=hr r (bE er);obtain⟨a,ea,ga,ia⟩:=h1.row (i:=i) (r:=r) er;refine fL (IsL.ref h1.gp) ia (mJ (IsL.ref ga) ?_);simp only[eV,jw,fE];refine⟨@d,?_⟩;have c1:0<=pl % ((r.length:Int)+1):=lT _ @c;have c2:pl % ((r.length:Int)+1)<(r.length:Int)+1:=jl _ @c;generalize ec:pl % ((r.length:Int)+1)=c at c1 c2;obtain⟨k,rfl⟩:∃k:Nat,c=(k:Int):=⟨c.toNat,@d⟩;have hk:k<=r.length:=@d
 refine fL (IsL.ref h1.gp) ia (sV (IsL.ref ga) λp1 f1=>?_);rw[KH _ _ hk];have l1:=eQ.new (o:=.lst (@b5)) f1;refine mz (IsL.ref ax) (IsL.dg) (by rw[cf];exact zf @c) λp2 f2=>?_;have l2:=eQ.new (o:=.lst (@b5++more)) f2;have l12:=l1.trans l2;refine fL (IsL.ref (l12 _ _ h1.gp)) ia (sV (IsL.ref (l12 _ _ ga)) λp3 f3=>?_);rw[Cq _ _ hk];have l3:=eQ.new (o:=.lst (@b6)) f3;refine mz (IsL.ref (l3 _ _ ax)) (IsL.ref ax) (by simp only[av,cf,cx];exact zf @c) λp4 f4=>?_;have l4:=eQ.new (o:=.lst (@b5++more++@b6)) f4;have h4:=h1.ext ((l12.trans l3).trans l4);have hn:∀o,G1 p4≠@j:=λo z=>by
  have:=(l12.trans l3) _ _ z;rw[f4] at this;cases this
 have n4:p4∉as:=λz=>by
  obtain⟨j,hj⟩:=eZ z;have hjl:j<rs.length:=by rw[<-h1.len];exact(List.getElem?_eq_some_iff.mp hj).1
  exact hn _ (h1.at' j p4 _ hj (az hjl))
 have n0:p4≠p0:=λz=>hn _ (by rw[z];exact h1.gp);have hf4:G p4=none:=by
  cases e:G p4 with
  |none=>rfl
  |some o=>exact absurd (h1.le _ _ e) (hn o)
 have hj:i<as.length:=(List.getElem?_eq_some_iff.mp ea).1;have h5:=h4.P8 (r':=@b5++more++@b6) hj ax n4 hf4 n0;unfold zh;simp only[h4.gp];have ei:D8 (@cX).length (i:Int)=some i:=by
  unfold D8;rw[if_pos @c,if_pos (@aV)];simp
 simp only[ei];have es:(@cX).set i (.ref p4)=(as.set i p4).map D.ref:=by rw[yg]
 rw[es];refine h5.fz ?_;exact q r k er hk ec.symm
theorem BI{α:Type} [@W] [@ai]{G:Gp}{Q:DK}{rows:List (@s)}{i:Nat}{pl:Int}{more:@s}(h:i<rows.length/\rows.length<=1000/\(∀r∈rows,r.length<=500)/\more.length<=100)
  (q:∀(r:@s) (k:Nat),rows[i]?=@am->k<=r.length->(k:Int)=pl % ((r.length:Int)+1)->Q (enc (rows.set i (@b5++more++@b6))) G):iS [@aj,@M,.int pl,enc more] G Q @t:=by
 refine⟨rows.map λr=>@bN,i,pl,more.map enc,by rw[fY];rfl,⟨by rw[ag];exact h.1,by rw[ag];exact h.2.1,λr hr=>?_,by rw[ag];exact h.2.2.2⟩,λr k hr hk e=>?_⟩
 .obtain⟨r',Oc,rfl⟩:=List.mem_map.mp hr;rw[ag];exact h.2.2.1 r' Oc
 .rw[aZ] at hr;obtain⟨r',Oc,rfl⟩:=@dV;rw[ag] at hk e;have:=q r' k Oc hk e;rw[fY,yg,aF,aF,OW,OX] at this;ext g
theorem Dr.two(d:@n)(hm:∀p∈rows.flatten,p.a≠m)(hh:h=1\/h=-1)(hp:R.flatten.Perm (⟨m,1,h⟩::⟨m,0,h⟩::rows.flatten))(gJ:rows.flatten.length<=22)(str:R.length<=3):Dr R:=by
 have mem:∀p,p∈R.flatten↔p=⟨m,1,h⟩\/p=⟨m,0,h⟩\/@bE:=λp=>by rw[hp.mem_iff,bf,bf]
 refine⟨?_,λp h1=>?_,λp h1=>?_,λp h1=>?_,?_,str⟩
 .refine(hp.map T3.s).nodup_iff.mpr ?_;rw[aq,aq,bT,bT];have out:∀w:Int,(⟨m,w⟩:T2)∉@a7:=λw z=>by
   obtain⟨p,A4,e⟩:=@c3;injection e with e1 _
   exact hm p A4 e1
  refine⟨λz=>?_,out 0,d.nd⟩;rcases List.mem_cons.mp z with z |z
  .injection z with _ z2;cases z2
  .exact out 1 z
 .rcases(mem p).mp h1 with rfl |rfl |h1
  .exact @a0
  .exact @I
  .exact d.way p h1
 .rcases(mem p).mp h1 with rfl |rfl |h1
  .exact hh
  .exact hh
  .exact d.hand p h1
 .rcases(mem p).mp h1 with rfl |rfl |h1
  .exact(mem _).mpr (.inr (@I))
  .exact(mem _).mpr (@I)
  .exact(mem _).mpr (.inr (.inr (d.rz p h1)))
 .rw[hp.length_eq,af,af];lia
theorem Dr.nil(h:S<=3):Dr (aN S []):=by
 have e:(aN S ([]:@w)).flatten=[]:=by
  rw[List.flatten_eq_nil_iff];intro l hl;exact(List.mem_replicate.mp hl).2
 refine⟨by rw[e];exact fj,@aN,@aN,@aN,by rw[e];simp,@bZ⟩<;>rw[e] at hp<;>cases hp
theorem tp{rows:Rows}(hr:rows[i]?=@am):(rows.set i (@b5++more++@b6)).flatten.Perm (more++rows.flatten):=by
 refine(RR hr).trans ?_;refine List.Perm.trans ?_ ((Vq hr).symm.append_left _);rw[<-bp];refine IP _ ?_
 conv=>rhs;rw[<-cw k r]
 rw[<-bp];exact List.perm_append_comm.append_right _
def afv(rows:Rows)(ns:@u):Prop:=∀p∈rows.flatten,p.a∈ns
def gF:gM:=λds G Q _=>∃(d:D) (cells:@u) (S:Nat) (sp:Int),ds=[d,.int S,.int sp]/\IsL G d (cells.map D.int)/\(cells.length<=12/\(1<=S/\S<=3)/\1<=sp/\sp<=999) /\
 ∀rows:Rows,@n->rows.length=S->rows.flatten.length=2*cells.length->Q (@aj) G
end JB
namespace JB
open K2.P
open K2.Y (cK fI jW pick mC mD)
open K2.rF (fY)
open K2.Gd (lu iO dB)
variable {rows:Rows}
def wr(rows:Rows):Int:=((@l).map (handOf rows)).sum
def DR:fZ :=
 (bQ (cG (jV Sl (ah (eC 1 [0] (hZ (aS aU @ah)) (aI 0) none (aS fO (ah @k @ah))) aH))))
def mQ:gM:=λds G Q _=>∃rows:Rows,ds=[@aj]/\@n/\Q (.int (wr rows)) G
theorem EC(ds)(G)(Q)(h:mQ ds G Q @t):DR @p @B (aT 1 ds) G:=by
 obtain⟨rows,rfl,d,q⟩:=h;have gJ:=d.gJ;have nl:=JZ d;unfold DR;simp only[bQ,cG,jV,ah,eC,aT,aq,aK,af,ao,aA,aB,aH,ends,cM,aS,ak,aa];refine⟨rows,rfl,(show @dj by lia),fu ⟨zf (by rw[ag];show(@l).length<=1000;lia),?_⟩⟩;refine gH (xs:=@l) (λpre acc τ G'=>G=G'/\(∃a,τ=[a,@G])/\acc=(pre.map (handOf rows)).map D.int) ⟨rfl,@S,rfl⟩ @cJ ?_ ?_
 .rintro pre n post acc τ G' N e ⟨rfl,⟨a,rfl⟩,rfl⟩ hN;have hn:n∈@l:=by rw[e];simp
  simp only[aI,aS,ah,ak,mI,ai,ae,aa,aH];refine⟨rows,n,rfl,⟨@d,abh d hn⟩,?_⟩;refine hN _ _ _ ⟨rfl,@S,?_⟩;rw[aF,aF];rfl
 .rintro acc τ G' ⟨rfl,⟨a,rfl⟩,rfl⟩ p hp;refine⟨(@l).map (handOf rows),PD (IsL.ref ax),vN (IsL.ref ax),⟨@aV,λn hn=>?_⟩,um @a4 q⟩;obtain⟨m,hm,rfl⟩:=List.mem_map.mp hn;obtain⟨p,A4,_,e⟩:=bX.mp hm;have:=d.hand p A4;rw[<-eK d A4,e] at this;lia
end JB
end K2
end
section
set_option maxHeartbeats 1000000
namespace K2
namespace J
noncomputable def sg(b:Bool):Int:=if b then 1 else -1
end J
end K2
end
section
namespace K2
open Enc (enc)
namespace JD
open K2.P K2.J K2.JB
noncomputable def Fd(o:Bool)(p q:T3):@w:=if o then [p,q] else [q,p]
def DT(a b c h0 h1 h2:Int)(o m u:Bool):List (@w):=[Fd o ⟨a,0,h0⟩ ⟨b,0,h1⟩,Fd m ⟨a,1,h0⟩ ⟨c,0,h2⟩,Fd u ⟨b,1,h1⟩ ⟨c,1,h2⟩]
section
variable {a b c:Int} {o m u s:Bool}
theorem Z7(b):sg b=1\/sg b=-1:=by cases b<;>simp[sg]
theorem Z8(x y z):sg x*sg y*sg z=1\/sg x*sg y*sg z=-1:=by cases x<;>cases y<;>cases z<;>decide
end
end JD
end K2
end
section
namespace K2
open PySem (Str)
open Enc (enc)
namespace JE
open K2.P K2.J K2.JB
open K2.Y (jW pick mC mD cK fC fI oA)
open K2.rF (AL fY uE)
open K2.Gd (A2 lu iO)
def Dg(f s:Int):Prop:=0<=f/\f<s
def Pj:@u->@u->Prop
 |[],[]=>True
 |f::fs,s::ss=>Dg f s/\Pj fs ss
 |_,_=>False
noncomputable def prim:@u:=[10007,10009,10037,10039,10061,10067,10069,10079,10091,10093]
def u5:fZ :=
 (bG (bx (c9 (ah (dC (.int 10007)) (ah (dC (.int 10009)) (ah (dC (.int 10037)) (ah (dC (.int 10039)) (ah (dC (.int 10061)) (ah (dC (.int 10067)) (ah (dC (.int 10069)) (ah (dC (.int 10079)) (ah (dC (.int 10091)) (ah (dC (.int 10093)) aH))))))))))) (aI 2))
 (bG (bx (aM wY @g @ad) (aI 3))
 (bG (bx (c9 aH) (aI 4))
 (bG (fy (B8 @k) (pQ (hU (aI 5) (hU (aI 6) rD))) (du (eW (aM @aq (aM rq @g @ad) @as)) (bG (cW (mU vw gb @Y (ah (aM rq @A (ak 6)) aH)))
 (bx (aM wY @A (ak 6)) (aI 3))) (cW (mU vw gb @Y (ah (aS fI (ah @g (ah (aM fG @y (ak 5)) (ah (ak 6) aH)))) aH)))))
 (bQ (cG @Y))))))
def da:gM:=λds G Q _=>∃(cell:Int) (wB:@u),ds=[.int cell,enc wB]/\(wB.length<=10/\∀s∈wB,1<=s/\s<=10000)/\∀fs:@u,Pj fs wB->Q (enc fs) G
theorem FI:∀{fs ss:@u} {f s:Int},Pj fs ss->Dg f s->Pj (fs++[f]) (ss++[s])
 |[],[],_,_,_,k=>⟨k,trivial⟩
 |_::_,[],_,_,h,_=>h.elim
 |[],_::_,_,_,h,_=>h.elim
 |_::_,_::_,_,_,h,k=>⟨h.1,FI h.2 k⟩
theorem Ky:∀{fs ss:@u},Pj fs ss->fs.length=ss.length
 |[],[],_=>rfl
 |_::_,[],h=>h.elim
 |[],_::_,h=>h.elim
 |_::_,_::_,h=>by rw[af,af,Ky h.2]
theorem RZ(xs:@u):kE 0 @aY=(xs.zipIdx 0).map λp=>D.tup [.int (p.2:Int),.int p.1]:=by
 have:∀(xs:@u) (k:Nat),kE k @aY=(xs.zipIdx k).map λp=>D.tup [.int (p.2:Int),.int p.1]:=by
  intro xs;induction xs with
  |nil=>intro k;rfl
  |cons x xs ih=>
   intro k;show D.tup [.int (k:Int),.int x]::kE (k+1) @aY=_;rw[ih (k+1)];rfl
 exact this xs 0
theorem vm(ds)(G)(Q)(h:da ds G Q @t):u5 @p @B (aT 7 ds) G:=by
 obtain⟨cell,wB,rfl,⟨hl,hs⟩,q⟩:=h;unfold u5;simp only[↓dO,bx,c9,ah,dC,aH,↓af,↓ao,aI,aM,ak,aT,↓aq,↓aK,aN,↓aA,↓aB,↓au,↓ai,↓aa,↓kM,ends];refine⟨@f,λp2 f2=>⟨@f,@f,@f,λp4 f4=>?_⟩⟩;have n24:p2≠p4:=λz=>by rw[<-z,ax] at f4;cases f4
 have f4':G p4=none:=(eQ.new f2).free f4;refine b6 (λτ G'=>∃fs:@u,Pj fs wB/\@O/\G' p4=some (.lst (fs.map enc))/\∃a3 a5 a6,τ=[some (.int cell),some (enc wB),some (.ref p2),a3,some (.ref p4),a5,a6]) ?_ ?_
 .intro N hN;simp![fy,B8,ak];refine zB ?_;rw[RZ];refine dZ (xs:=wB.zipIdx 0) (λpre τ G'=>∃(fs:@u) (left:Int) (a5 a6:@bc),Pj fs (pre.map @N)/\@O/\G' p2=some (.lst (prim.map D.int))/\G' p4=some (.lst (fs.map enc))/\τ=[some (.int cell),some (enc wB),some (.ref p2),some (.int left),some (.ref p4),a5,a6])
   ⟨[],_,_,_,trivial,(eQ.new f2).trans (.new f4),by rw[cL n24,ax];rfl,ax,rfl⟩ @aQ ?_ ?_
  .rintro pre x post τ G' N2 e ⟨fs,left,a5,a6,fa,le,g2,g4,rfl⟩ l7;obtain⟨lf,rt,e1,e2,e3⟩:=wc e;have hx:1<=x.1/\x.1<=10000:=hs x.1 (by rw[e1];simp);have hlf:lf.length<10:=by have:=congrArg c7 e1;simp at this;lia
   simp![pQ,hU,aI,rD,du,aM,ak,dC,cW,mU,ah,aH,bx,aS];refine⟨@f,_,_,@P,@P,?_⟩;simp![nI];by_cases c:cell % 2=0
   .have c':(cell % 2 == 0)=true:=by simpa using c
    simp![c',g4];refine⟨@d,by rw[ag];exact uO (by have:=Ky fa;rw[this,e3,ag,List.length_zipIdx];lia),@d,@d,?_⟩;refine l7 _ _ ⟨fs++[left % x.1],_,_,_,by rw[aF];exact FI fa ⟨lT _ @c,jl _ @c⟩,le.put f4',by rw[cL n24];exact g2,by rw[ax,aF];rfl,rfl⟩
   .have c':(cell % 2 == 0)=false:=by simpa using c
    simp![c',g4];rw[AK,g2];have ea:∃pr:Int,nS (prim.map D.int) (x.2:Int)=some (.int pr)/\1<=pr/\pr<=10093:=by
     have hk:x.2<prim.length:=by rw[e2];exact hlf
     refine⟨prim[x.2],?_,?_⟩
     .rw[i8 _ @c (@aV)];simp only[dw,dj]
     .have:∀y∈prim,1<=y/\y<=10093:=@f
      exact this _ (bU hk)
    obtain⟨pr,ea,JN,pr2⟩:=ea;simp only[ea];refine⟨_,_,_,rfl,⟨@d,@d⟩,?_⟩;simp only[g4];refine⟨by rw[ag];exact uO (by have:=Ky fa;rw[this,e3,ag,List.length_zipIdx];lia),?_⟩;refine l7 _ _ ⟨fs++[pick cell pr x.1],_,_,_,by rw[aF];exact FI fa ⟨mC _ _ @c,mD _ _ @c⟩,le.put f4',by rw[cL n24];exact g2,by rw[ax,aF];rfl,rfl⟩
  .rintro τ G' ⟨fs,left,a5,a6,fa,le,g2,g4,rfl⟩;rw[List.zipIdx_map_fst] at fa;exact hN _ _ ⟨fs,fa,le,g4,_,_,_,rfl⟩
 .rintro _ G' ⟨fs,fa,le,g4,a3,a5,a6,rfl⟩;simp![bQ,cG,ak];exact fM le f4' g4 (q fs fa)
section
variable (a b c d e f:D)
theorem x0:nS [a,b,c,d,e,f] 0=some a:=rfl
theorem x1:nS [a,b,c,d,e,f] 1=some b:=rfl
theorem x2:nS [a,b,c,d,e,f] (2+2*0)=@aW:=rfl
theorem x3:nS [a,b,c,d,e,f] (3+2*0)=@aM:=rfl
theorem x4:nS [a,b,c,d,e,f] (2+2*1)=some e:=rfl
theorem x5:nS [a,b,c,d,e,f] (3+2*1)=some f:=rfl
end
def sR:fZ :=
 (bG (Sb 3 (bx (eC 1 [] (vc @k) (aI 0) none (c9 aH)) (aI 3)))
 (bG (bx (c9 aH) (aI 4))
 (bG (fy (hZ @g) (aI 5) (bG (bx (aS da (ah (cG (ak 5)) (ah (cG (c9 (ah @y (ah @ad (ah @k (ah (dC (.int 10000)) (ah @k (ah (dC (.int 10000)) aH)))))))) aH))) (aI 6))
 (bG (bx (aS eI (ah @Y (ah (aM ik @H (aM fG (ak 6) @as)) aH))) (aI 7))
 (bG (cW (mU vw gb @Y (ah (ak 7) aH)))
 (fy (vc @ad) (aI 8) (bx (cG (aS iS (ah (cG @A) (ah (cG (aM fG (ak 6) (aM ik @ad (aM my @ad (ak 8))))) (ah (cG (aM fG (ak 6) (aM ik (dC (.int 3)) (aM my @ad (ak 8))))) (ah (cG (c9 (ah (dN (ah (ak 7) (ah (ak 8) (ah (aM BH @H (aM my @ad (aM fG (ak 6) @H))) aH)))) aH))) aH)))))) (aI 3)))))))
 (bQ (cG @A)))))
def gF:gM:=JB.gF
theorem tV(ds)(G)(Q)(h:gF ds G Q @t):sR @p @B (aT 9 ds) G:=by
 obtain⟨d,cells,S,sp,rfl,hd,⟨xp,⟨hS1,hS3⟩,sp1,sp2⟩,q⟩:=h;unfold sR;simp only[ends,aT,aq,aK,af,ao,aN,aA,aB,ff,uE,bx,eC,aI,au,ai,ae,aa,c9,aH,jA,ak,iF,dw];have aa2:(-(2 ^ 62):Int)<=(S:Int)/\(S:Int)<2 ^ 62:=@d
 refine⟨aa2.1,aa2.2,zf (by simp[ij];lia),?_⟩;refine Vz (λpre acc τ G'=>(∃a,τ=[a])/\∃as:@aE,acc=@cX/\AL G G' as (aN pre.length [])) ⟨@S,[],rfl,.nil G⟩ @cJ ?_ ?_
 .rintro pre x post acc τ G' N e ⟨⟨a,rfl⟩,as,rfl,al⟩ hN;simp only[aI,c9,aH,ao,ai];refine⟨@f,λp hp=>hN _ _ _ ⟨@S,as++[p],@L,?_⟩⟩;rw[av,cH,Tp];exact al.push hp []
 rintro acc τ G' ⟨⟨a,rfl⟩,as,rfl,al⟩ p3 f3;refine(al.top f3).fz ?_;have e3:D.dg ((aN (ij 0 S).length ([]:@e)).map D.dg)=enc (aN S ([]:@w)):=by
  rw[fY];simp[ij]
 rw[e3];clear al f3 p3 as G' a e3;refine⟨@f,λp6 f6=>?_⟩;simp only[fy];simp only[cM,ak,aa];refine A2 hd (.new f6) λok dS=>?_;refine dZ (xs:=cells) (f:=D.int) (λpre τ G'=>@O/\∃(rows:Rows) (ns:@u) (a1 a2 a3 a4:@bc),(@n/\rows.length=S/\rows.flatten.length=2*pre.length/\ns.length=pre.length/\afv rows ns)/\G' p6=some (.lst (@bg)) /\
  τ=[@aM,some (.int S),some (.int sp),@G,some (.ref p6),a1,a2,a3,a4]) ⟨.new f6,_,[],_,_,_,_,⟨Dr.nil hS3,@L,@L,rfl,λp hp=>by simp at hp⟩,ax,rfl⟩ (λ_ _ _ h=>dS _ h.1) ?_ ?_
 .rintro pre x post τ G' N2 e ⟨le,rows,ns,a1,a2,a3,a4,⟨dr,hlen,hfl,hcs,ZH⟩,g6',rfl⟩ l7;have hlp:=oA e;simp only[aI,au,ai,ff,bx,aS,ah,cG,ak,ae,aa,c9,dC,aH,af,ao,aM,cW,mU,gr,cZ];refine cp ⟨@f,λp7 f7=>?_⟩;refine fM (xs:=([sp,2,(S:Int),10000,(S:Int),10000]:@u)) (.new f7) f7 ax ?_;refine⟨_,_,rfl,⟨@L,λs hs=>by simp only[bf,bH,or_false] at hs;lia⟩,λfs fa=>?_⟩
  match fs,fa with
  |[d0,d1,d2,d3,d4,d5],⟨⟨a0,b0⟩,⟨a1',b1⟩,⟨a2',b2⟩,⟨a3',b3⟩,⟨a4',b4⟩,⟨a5',b5⟩,_⟩=>
  have e6:(enc [d0,d1,d2,d3,d4,d5]:D)=.dg [.int d0,.int d1,.int d2,.int d3,.int d4,.int d5]:=rfl;rw[e6];simp only[iU,x0,eV];refine⟨.ref p6,ns,_,rfl,IsL.ref g6',⟨@d,@d,@d⟩,λm m1 m2 m3=>?_⟩;simp only[g6',true_and];refine⟨uO (@aV),?_⟩;have le2:eQ G (cJ G' p6 (.lst (@bg++[.int m]))):=le.put f6;have g62:(cJ G' p6 (.lst (@bg++[.int m]))) p6=some (.lst (@bg++[.int m])):=ax;generalize cJ G' p6 (.lst (@bg++[.int m]))=G2 at le2 g62;have hh:(1-2*d1)=1\/(1-2*d1)=-1:=@d
  simp only[fy];simp only[jA,dC,iF];refine⟨@f,@f,?_⟩;have er:ij 0 (uL 2)=([0,1]:@u).map D.int:=rfl;rw[er];have rl:=Xk dr;have fw:=dr.gJ;obtain⟨i,rfl⟩:∃i:Nat,d2=(i:Int):=⟨d2.toNat,@d⟩;obtain⟨j,rfl⟩:∃i:Nat,d4=(i:Int):=⟨d4.toNat,@d⟩;have hmf:∀p∈rows.flatten,p.a≠m:=λp hp z=>m1 (z ▸ ZH p hp);refine dZ (xs:=([0,1]:@u)) (f:=D.int) (λBJ τ G3=>G2=G3/\∃(R:Rows) (b1:@bc),((BJ=[]/\R=rows)\/(∃(i:Nat) (r:@w) (k:Nat),BJ=[0]/\i<S/\rows[i]?=@am/\R=rows.set i (@b5++[⟨m,0,1-2*d1⟩]++@b6))\/(BJ=[0,1]/\Dr R/\R.length=S/\R.flatten.Perm (⟨m,1,1-2*d1⟩::⟨m,0,1-2*d1⟩::rows.flatten))) /\
   τ=[@aM,some (.int S),some (.int sp),some (enc R),some (.ref p6),some (.int x),some (.dg [.int d0,.int d1,@M,.int d3,.int j,.int d5]),some (.int m),b1]) ⟨rfl,rows,_,.inl @ao,rfl⟩ @aQ ?_ ?_
  .rintro BJ w aam τ G3 N3 e2 ⟨rfl,R,b1,J,rfl⟩ oB;have Y9:(BJ=[]/\w=0)\/(BJ=[0]/\w=1):=by
    cases BJ with
    |nil=>cases e2;exact .inl @ao
    | cons u BJ=>
     cases BJ with
     |nil=>cases e2;exact .inr @ao
     |cons v BJ=>
      have:=congrArg c7 e2;simp at this
   rcases Y9 with ⟨rfl,rfl⟩ |⟨rfl,rfl⟩
   .have eR:R=rows:=by
     rcases J with ⟨_,z⟩ |⟨_,_,_,z,_⟩ |⟨z,_⟩
     .exact z
     .cases z
     .cases z
    subst eR;simp only[aI,bx,cG,aS,ah,ak,au,ai,ae,aa,aM,dC,c9,dN,aH,af,ao,iU,x1,jv,ju,eV,x3,x2];refine cp ⟨.inl ⟨@f,@f⟩,cp ⟨.inl ⟨@f,@f⟩,cp ?_⟩⟩;refine⟨.inl ⟨@f,@f⟩,@f,@f,λpa fa=>?_⟩;refine fM (xs:=[(⟨m,0,1-2*d1⟩:T3)]) (.new fa) fa ax ?_;refine BI (rows:=R) (more:=[(⟨m,0,1-2*d1⟩:T3)]) ⟨by rw[hlen];lia,by rw[hlen];lia,λr hr=>by have:=rl r hr;lia,@L⟩ λr k hr hk ek=>cp ?_;exact oB _ _ ⟨rfl,_,_,.inr (.inl ⟨i,r,k,rfl,@d,hr,rfl⟩),rfl⟩
   .obtain⟨i',r,k,hi,hr,rfl⟩:∃(i:Nat) (r:@w) (k:Nat),i<S/\rows[i]?=@am/\R=rows.set i (@b5++[⟨m,0,1-2*d1⟩]++@b6):=by
     rcases J with ⟨z,_⟩ |⟨i,r,k,_,z⟩ |⟨z,_⟩
     .cases z
     .exact⟨i,r,k,z⟩
     .cases z
    simp only[aI,bx,cG,aS,ah,ak,au,ai,ae,aa,aM,dC,c9,dN,aH,af,ao,iU,x1,jv,ju,eV,x5,x4];refine cp ⟨.inl ⟨@f,@f⟩,cp ⟨.inl ⟨@f,@f⟩,cp ?_⟩⟩;refine⟨.inl ⟨@f,@f⟩,@f,@f,λpa fa=>?_⟩;refine fM (xs:=[(⟨m,1,1-2*d1⟩:T3)]) (.new fa) fa ax ?_;refine BI (more:=[(⟨m,1,1-2*d1⟩:T3)]) ⟨by rw[eE,hlen];lia,by rw[eE,hlen];lia,λr2 hr2=>?_,@L⟩ λr' k' Oc Pc ek'=>cp ?_
    .rcases Lh hr2 with z |z
     .have:=rl r2 z;lia
     .have:=rl r (bE hr);rw[z,av,av,cH,cf,cx];lia
    have pf:=(tp (k:=k') (more:=[⟨m,1,1-2*d1⟩]) Oc).trans ((tp (k:=k) (more:=[⟨m,0,1-2*d1⟩]) hr).append_left _);have dr2:=K2.JB.Dr.two dr hmf hh pf @c (by rw[eE,eE];lia);exact oB _ _ ⟨rfl,_,_,.inr (.inr ⟨rfl,dr2,by rw[eE,eE];exact hlen,pf⟩),rfl⟩
  .rintro τ G3 ⟨rfl,R,b1,J,rfl⟩;obtain⟨drn,ln,pf⟩:Dr R/\R.length=S/\R.flatten.Perm (⟨m,1,1-2*d1⟩::⟨m,0,1-2*d1⟩::rows.flatten):=by
    rcases J with ⟨z,_⟩ |⟨_,_,_,z,_⟩ |⟨_,z⟩
    .cases z
    .cases z
    .exact z
   refine l7 _ _ ⟨le2,R,ns++[m],_,_,_,_,⟨drn,ln,by rw[pf.length_eq,af,af,av,cH];lia,by rw[av,av,hcs];rfl,@aN⟩,?_,rfl⟩
   .rcases List.mem_cons.mp (pf.mem_iff.mp hp) with rfl |hp
    .simp
    .rcases @cM with rfl |hp
     .simp
     .exact bM _ (ZH p hp)
   .rw[g62,aF];rfl
 .rintro τ G' ⟨le,rows,ns,a1,a2,a3,a4,⟨dr,hlen,hfl,hcs,ZH⟩,g6',rfl⟩;simp only[bQ,cG,ak,ae,aa];exact um le (q rows dr hlen hfl)
end JE
namespace JE
open K2.P K2.J K2.JB
open K2.Y (jW pick mC mD cK fC fI oA)
open K2.rF (AL fY uE)
open K2.Gd (A2 lu iO)
theorem abG [@W] [@ai]{xs:@s}{i:Nat}(h:xs[i]?=@am):nS @aY (i:Int)=some (enc r):=by
 have hi:=(@dS).1;rw[i8 _ @c (@aV)];simp only[dw,dj];have:=(@dS).2;rw[this]
theorem yx{α:Type} [@W] [@ai]{xs:@s}{i:Nat}{r:α}{G:Gp}{Q:DK}(h:xs[i]?=@am)(q:Q (enc r) G):fG (enc xs) (@M) G Q:=by
 show fG (.dg @aY) (@M) G Q;rw[iU,abG h];exact q
theorem MB{α:Type} [@W] [@ai]{r:@s}{G:Gp}{Q:DK}(q:Q (.int (r.length:Int)) G):nP [enc r] G Q:=by
 show nP [.dg (@bN)] G Q;rw[nO,ag];exact q
theorem AI(n):ij 0 n=(cR n).map λk:Nat=>D.int (k:Int):=by
 rw[JK,cP];rfl
theorem uf(e:cR n=pre++x::post):x=pre.length/\x<n:=by
 have h1:=congrArg (λl=>l[pre.length]?) e;simp only[aY @X,rH,aa] at h1;have hl:pre.length<n:=by have:=congrArg c7 e;simp at this;lia
 rw[az (by rw[iE];exact hl),lN] at h1;injection h1 with h1
 exact⟨h1.symm,@d⟩
end JE
namespace rf
open K2.P
def kn:@w->T3
 |[]=>⟨0,0,0⟩
 |a::r=>r.foldl (λm x=>if cF.lt x m=true then x else m) a
theorem lz(h:r≠[]):kn r∈r:=by
 cases r with
 |nil=>exact absurd rfl h
 |cons a r=>exact(kS r a).1
theorem uk(hy:y∈r):AY (kn r) y=true:=by
 cases r with
 |nil=>cases hy
 |cons a r=>exact(kS r a).2 y hy
def bN(r:@w):@w:=r.drop (r.idxOf (kn r))++r.take (r.idxOf (kn r))
theorem tP{x:D}{G:Gp}{r:@w}{Q:DK}(hi:@cw=some (@bN))(iV:r≠[])(q:Q (enc (kn r)) G):Iq [x] G Q :=
 Gf.mn hi iV λm hm hl=>by
  have:m=kn r:=B1 _ _ (hl _ (lz iV)) (uk hm);rw[this];exact q
theorem nu{x:D}{G:Gp}{r:@w}{Q:DK}(ht:vw x G)(hi:@cw=some (@bN))(iV:r≠[])(q:Q (.int ((r.idxOf (kn r):Nat):Int)) G):sZ x [enc (kn r)] G Q:=by
 refine⟨ht,@bN,enc (kn r),@bN,hi,Enc.sn G 8 _ @r,sJ G 7 @r r,?_⟩;have e:(@bN).findIdx? (iq · (enc (kn r)))=some (r.idxOf (kn r)):=by
  have hf:(λy:T3=>iq (enc y) (enc (kn r)))=λy=>y == kn r:=by
   funext y;rw[Enc.eqv];by_cases h:y=kn r<;>simp[h]
  rw[List.findIdx?_map];show List.findIdx? (λy=>iq (enc y) (enc (kn r))) r=_;rw[hf];have hm:=lz iV;rw[List.idxOf];rw[List.findIdx?_eq_some_iff_findIdx_eq];exact⟨List.findIdx_lt_length.mpr ⟨_,hm,@L⟩,rfl⟩
 rw[e];exact q
end rf
namespace K3
open K2.P K2.rN
theorem AM{α:Type} [@W] [@ai]{neg:Bool}{x:α}{xs:@s}{a:Nat}{G:Gp}{Q:DK}(hd:Enc.dep α<=7)(h:G a=some (.lst @aY))(q:Q (.bl (if neg then !decide (x∈xs) else decide (x∈xs))) G):CS neg (enc x) @U G Q:=by
 unfold CS;simp only[h];refine⟨_,_,Enc.sn G 8 x @c,sJ G 7 hd xs,?_⟩;rw[A9];exact q
theorem yK:du c a b E K τ G=c E τ G λk G1=>if k=true then a E K τ G1 else b E K τ G1:=rfl
end K3
namespace K3
open K2.P K2.rN
noncomputable def ins(r:@w)(k:Nat)(p:T3):@w:=@b5++p::@b6
structure DF(L:@w):Prop where
 nd:(L.map T3.s).Nodup
 way:∀p∈L,p.b=0\/p.b=1
 hand:∀p∈L,p.c=1\/p.c=-1
 rz:∀p∈L,(⟨p.a,1-p.b,p.c⟩:T3)∈L
theorem DF.perm(h:DF L)(p:L'.Perm L):DF L' :=
 ⟨(p.map _).nodup_iff.mpr h.nd,λx hx=>h.way x (p.mem_iff.mp hx),λx hx=>h.hand x (p.mem_iff.mp hx),λx hx=>p.mem_iff.mpr (h.rz x (p.mem_iff.mp hx))⟩
theorem DF.add(h:DF L)(hm:m∉L.map (·.a))(hh:hd=1\/hd=-1):DF (⟨m,1,hd⟩::⟨m,0,hd⟩::L):=by
 have no:∀w,(⟨m,w⟩:T2)∉L.map T3.s:=λw z=>by
  obtain⟨p,hp,e⟩:=@c3;exact hm (List.mem_map.mpr ⟨p,hp,by have:=@cS;ext g⟩)
 refine⟨?_,?_,?_,?_⟩
 .rw[aq,aq,bT,bT];refine⟨λz=>?_,no 0,h.nd⟩;rcases List.mem_cons.mp z with e |z
  .have:=congrArg T2.b e;exact absurd (show(1:Int)=0 from this) @r
  .exact no 1 z
 .intro p hp;rcases @cM with rfl |hp
  .exact @a0
  .rcases @cM with rfl |hp
   .exact @I
   .exact h.way p hp
 .intro p hp;rcases @cM with rfl |hp
  .exact hh
  .rcases @cM with rfl |hp
   .exact hh
   .exact h.hand p hp
 .intro p hp;rcases @cM with rfl |hp
  .exact aC _ aJ
  .rcases @cM with rfl |hp
   .exact aJ
   .exact aC _ (aC _ (h.rz p hp))
end K3
namespace vn
open K2.P
open K2.rf (bN kn)
noncomputable def mS(r:@w)(k:Nat):@w:=@b6++@b5
end vn
namespace vn
open K2.P
open K2.rf (bN kn lz uk)
theorem lj(r)(k):(mS r k).Perm r:=by
 unfold mS;exact List.perm_append_comm.trans (by rw[cw])
theorem E2(hx:x=kn r)(e:r=a++x::b)(hn:x∉a):bN r=x::b++a:=by
 have hi:r.idxOf (kn r)=a.length:=by
  rw[<-hx,e,DI,if_neg hn,zc];simp
 unfold bN;rw[hi,e,Li,Le]
theorem NT(p:r'.Perm r)(iV:r≠[]):kn r'=kn r:=by
 have aeF:r'≠[]:=λz=>iV (by rw[z] at p;exact p.symm.eq_nil);exact B1 _ _ (uk (p.mem_iff.mpr (lz iV))) (uk (p.mem_iff.mp (lz aeF)))
theorem pA(hn:(r.map T3.s).Nodup)(k):bN (mS r k)=bN r:=by
 by_cases iV:r=[]
 .subst iV;unfold mS;simp
 have nd:r.Nodup:=by
  refine List.Pairwise.imp ?_ (List.pairwise_map.mp hn);intro a b h e;exact h (congrArg _ e)
 have hl:=NT (lj r k) iV;obtain⟨a,b,e⟩:=e7 (lz iV);generalize hx:kn r=x at e;rw[hx] at hl;have hnd:(a++x::b).Nodup:=by rw[<-e];exact nd
 rw[cT] at hnd;have ha:x∉a:=λz=>hnd.2.2 x z x aJ rfl;have hb:x∉b:=(List.nodup_cons.mp hnd.2.1).1;rw[E2 hx.symm e ha];by_cases hk:k<=a.length
 .have e2:mS r k=a.drop k++x::(b++a.take k):=by
   unfold mS;rw[e,List.drop_append_of_le_length hk,nZ hk];simp
  rw[E2 hl.symm e2 λz=>ha (Tr z)];simp only[aA,bp,cw]
 .obtain⟨j,rfl⟩:∃j,k=a.length+(j+1):=⟨k-a.length-1,@d⟩;have e2:mS r (a.length+(j+1))=(b.drop j++a)++x::b.take j:=by
   unfold mS;rw[e,List.drop_length_add_append,List.take_length_add_append,List.drop_succ_cons,List.take_succ_cons];simp
  rw[E2 hl.symm e2 λz=>(List.mem_append.mp z).elim (λz=>hb (Tr z)) ha];simp only[aA,<-bp,cw]
inductive Ro:Rows->Rows->Prop
 |nil:Ro [] []
 |cons {r x:@w} {rs xs:Rows}:(∃k,k<=r.length/\x=mS r k)->Ro rs xs->Ro (r::rs) (x::xs)
end vn
namespace vn
open K2.P
open K2.rf (bN kn lz uk)
open K2.rN (HR HR.fz)
open K2.K3 (DF)
theorem T5{r:@w}{k:Nat}{G:Gp}{Q:DK}{d:D}(hd:IsL G d (@bN))(hk:k<=r.length)(hl:r.length<=1000)(q:∀p G1,eQ G G1->G p=none->G1 p=some (.lst ((mS r k).map enc))->Q (@V) G1):
  T9 d (some (k:Int)) none G λx G1=>T9 d none (some (k:Int)) G1 λy G2=>ik x y G2 Q:=by
 refine sV hd ?_;rw[oF,Cq r k hk];intro p hp;refine sV (hd.mono @a4) ?_;rw[oF,KH r k hk];intro p2 nX;have aeE:p≠p2:=λz=>by rw[<-z,ax] at nX;cases nX
 have g1:cJ (cJ G p (.lst ((@b6).map enc))) p2 (.lst ((@b5).map enc)) p=some (.lst ((@b6).map enc)):=by rw[cL aeE,ax]
 have gl:eQ G (cJ (cJ G p (.lst ((@b6).map enc))) p2 (.lst ((@b5).map enc))):=(eQ.new hp).trans (.new nX);show F3 _ _ _ _;unfold F3;rw[ny (IsL.ref (ds:=(@b6).map enc) g1),ny (IsL.ref (ds:=(@b5).map enc) ax)];refine⟨zf (by simp;lia),λp3 zC=>?_⟩;refine q _ _ (gl.trans (.new zC)) (gl.free zC) ?_;rw[ax];unfold mS;rw[aF]
end vn
end K2
end
section
namespace K2
open Enc (enc)
namespace yj
open K2.P K2.vn
open K2.rf (bN kn lz uk)
open K2.K3 (DF)
theorem iN(a b):mS (a++b) a.length=b++a:=by unfold mS;rw[Li,Le]
theorem qy(hk:k<=r.length)(hj:j<=r.length):∃i,i<=r.length/\mS (mS r k) j=mS r i:=by
 obtain⟨a,b,rfl,rfl⟩:∃a b,r=a++b/\k=a.length:=⟨@b5,@b6,(cw k r).symm,by rw[cf];lia⟩;rw[iN];rw[av] at hj;by_cases h:j<=b.length
 .obtain⟨b1,b2,rfl,rfl⟩:∃b1 b2,b=b1++b2/\j=b1.length:=⟨b.take j,b.drop j,(cw j b).symm,by rw[cf];lia⟩;refine⟨(a++b1).length,@L,?_⟩;rw[bp,iN,<-bp a b1 b2,iN,bp]
 .obtain⟨i,rfl⟩:∃i,j=b.length+i:=⟨j-b.length,@d⟩;obtain⟨a1,a2,rfl,rfl⟩:∃a1 a2,a=a1++a2/\i=a1.length:=⟨a.take i,a.drop i,(cw i a).symm,by rw[cf];lia⟩;refine⟨a1.length,@L,?_⟩;rw[<-bp,show b.length+a1.length=(b++a1).length by simp,iN,bp a1 a2 b,iN,bp]
theorem pB(hk:k<=r.length):∃i,i<=(mS r k).length/\r=mS (mS r k) i:=by
 obtain⟨a,b,rfl,rfl⟩:∃a b,r=a++b/\k=a.length:=⟨@b5,@b6,(cw k r).symm,by rw[cf];lia⟩;rw[iN];exact⟨b.length,@L,(iN b a).symm⟩
theorem qz(r)(k):(mS r k).length=r.length:=(lj r k).length_eq
theorem fD:∀rows:Rows,Ro rows rows
 |[]=>.nil
 |r::rows=>.cons ⟨0,b9 _,by unfold mS;simp⟩ (fD rows)
theorem gh(h1:Ro r1 r2):Ro r2 r3->Ro r1 r3:=by
 induction h1 generalizing r3 with
 |nil=>intro h;exact h
 | cons q _ ih=>
  intro h;cases h with
  |cons q2 h2=>
   obtain⟨k,hk,rfl⟩:=q;obtain⟨j,hj,rfl⟩:=q2;rw[qz] at hj;exact .cons (qy hk hj) (ih h2)
theorem gV(h:Ro r1 r2):Ro r2 r1:=by
 induction h with
 |nil=>ext f
 |cons q _ ih=>
  obtain⟨k,hk,rfl⟩:=q;exact .cons (pB hk) ih
theorem cj(rows):Ro rows (@c7):=by
 induction rows with
 |nil=>ext f
 |cons r rows ih=>exact .cons ⟨_,zb,rfl⟩ ih
end yj
end K2
end
section
namespace K2
open PySem (Str)
open Enc (enc)
namespace yj
open K2.P
open K2.vn (mS Ro)
open K2.rf (bN kn tP nu)
open K2.rN (HR HR.fz)
def DS:fZ :=
 (bG (du (vP (eW @g)) (bQ (cG (c9 aH))) b8)
 (bG (bx (mU vw sZ @g (ah (jV Iq @ah) aH)) (aI 1))
 (bQ (cG (aM ik (vY @g (jB @k) eO) (vY @g eO (jB @k)))))))
def t8:gM:=λds G Q _=>∃r:@w,ds=[enc r]/\r.length<=1000/\∀p,G p=none->Q (@V) (cJ G p (.lst ((bN r).map enc)))
theorem ED(ds)(G)(Q)(h:t8 ds G Q @t):DS @p @B (aT 2 ds) G:=by
 obtain⟨r,rfl,hl,q⟩:=h;unfold DS;refine b6 (λτ G'=>G=G'/\r≠[]/\τ=[some (enc r),none]) ?_ ?_
 .intro N hN;simp only[du,vP,aT,aq,aK,af,ao,aN,aA,aB,bQ,cG,c9,aH,ends,b8,bP,ak,aa];cases r with
  |nil=>exact⟨@f,λp hp=>Ko @a4 hp ax (q p hp)⟩
  |cons a t=>exact hN _ _ ⟨rfl,@L,rfl⟩
 .rintro _ _ ⟨rfl,iV,rfl⟩;simp only[ends,dO,bx,mU,ak,aa,ah,jV,aH,aI,bQ,cG,aM,vY,au,ai,eO,gR,ae];refine⟨trivial,tP rfl iV (nu trivial rfl iV ?_)⟩;have hkl:r.idxOf (kn r)<=r.length:=zb;refine vn.T5 (IsL.enc r) hkl hl λp G1 l f g=>?_;exact Ko l f g (q p f)
def sP:fZ :=
 (bQ (cG (eC 1 [] (hZ @g) (aI 0) none (aS t8 @ah))))
def cg:gM:=λds G Q _=>∃rows:Rows,ds=[@aj]/\(rows.length<=1000/\∀r∈rows,r.length<=1000)/\∀p as G',HR G G' p as (@c7)->Q (@V) G'
theorem tU(ds)(G)(Q)(h:cg ds G Q @t):sP @p @B (aT 1 ds) G:=by
 obtain⟨rows,rfl,⟨hl,hr⟩,q⟩:=h;unfold sP;simp only[bQ,cG,eC,aT,aq,aK,af,ao,aA,aB,ends,cM,ak,aa];refine fu ⟨zf (by rw[ag];exact hl),?_⟩;refine gH (xs:=rows) (λpre acc τ G'=>(∃a,τ=[a])/\∃bs:@aE,acc=bs.map D.ref/\bs.length=pre.length/\bs.Nodup/\(∀a∈bs,G a=none)/\@O/\∀(i a:Nat) (r:@w),bs[i]?=some a->pre[i]?=@am->G' a=some (.lst ((bN r).map enc))) ⟨@S,[],rfl,rfl,fj,(λa h=>@a8),.refl _,λi a r h=>@cr⟩ @cJ ?_ ?_
 .rintro pre r post acc τ G' N e ⟨⟨a,rfl⟩,bs,rfl,hl,nd,fr,le,zZ⟩ hN;simp only[aI,aS,ah,ak,ai,aa,aH];refine⟨r,rfl,hr r (by rw[e];simp),@aN⟩;have hnb:p∉bs:=λz=>by
   obtain⟨i,hi⟩:=eZ z;have h1:i<pre.length:=by rw[<-hl];exact(@dD).1
   rw[zZ i p pre[i] hi (az h1)] at hp;cases hp
  refine hN _ _ _ ⟨@S,bs++[p],@L,by simp[hl],?_,?_,le.trans @a4,?_⟩
  .rw[cT];refine⟨nd,@L,λa h b hb e=>?_⟩;rw[bV] at hb;subst hb e;exact hnb h
  .intro a h0;rcases List.mem_append.mp h0 with h |h
   .exact fr a h
   .rw[bV] at h;subst h;exact le.free hp
  .intro i b s h1 h2;by_cases hi:i<bs.length
   .rw[bA hi] at h1;rw[bA @c] at h2;have:b≠p:=by ext d;exact hnb (bE h1)
    rw[cL this];exact zZ i b s h1 h2
   .rw[aY @c] at h1 h2;have i0:i-bs.length=0:=by have:=(@dT).1;simp at this;lia
    rw[i0] at h1;rw[<-hl,i0] at h2;simp at h1 h2;subst h1 h2;exact ax
 .rintro acc τ G5 ⟨⟨a',rfl⟩,bs,rfl,hl,nd,fr,le,zZ⟩ p3 zC;refine cp (q p3 bs _ ⟨le.trans (.new zC),le.free zC,ax,λz=>?_,nd,fr,by rw[ag];exact hl,λi b r h1 h2=>?_⟩)
  .obtain⟨i,hi⟩:=eZ z;have h1:i<rows.length:=by rw[<-hl];exact(@dD).1
   rw[zZ i p3 rows[i] hi (az h1)] at zC;cases zC
  .rw[aZ] at h2;obtain⟨r',Oc,rfl⟩:=Option.map_eq_some_iff.mp h2;exact(eQ.new zC) _ _ (zZ i b r' h1 Oc)
end yj
end K2
end
section
namespace K2
open Enc (enc)
namespace JF
open K2.P K2.J K2.JB
open K2.rF (AX pN xx)
open K2.T (Tb Sq bump MC zeros su)
theorem GX{rows:Rows}(h:s∈@a7):∃p∈@cF,@cP:=by
 obtain⟨q,hq,rfl⟩:=@c_;obtain⟨r,hr,hqr⟩:=List.mem_flatten.mp hq;obtain⟨i,hi,e⟩:=dI hr;refine⟨(r,i),List.mem_zipIdx_iff_getElem?.mpr (by simp only;rw[az hi,e]),?_⟩;unfold bK;rw[if_neg (by intro z;rw[show r=[] from z] at hqr;cases hqr)];exact List.mem_map.mpr ⟨q,hqr,rfl⟩
theorem W3(h:∃p∈@cF,@cP):ie rows s<rows.length:=by
 unfold ie;cases c:(@cF).find? λp=>decide (@cP) with
 |none=>
  obtain⟨p,hp,hs⟩:=h;have:=List.find?_eq_none.mp c p hp;simp[hs] at this
 |some p=>
  have hm:=gf c;have:=List.mem_zipIdx_iff_getElem?.mp hm;exact(List.getElem?_eq_some_iff.mp this).1
theorem Wf(d:@n):rF.Lk rows:=by
 have on:∀n∈@l,∀w:Int,w=0\/w=1->(⟨n,w⟩:T2)∈@a7:=λn hn w hw=>by
  obtain⟨p,hp,h0,rfl⟩:=bX.mp hn;rcases hw with rfl |rfl
  .exact List.mem_map.mpr ⟨p,hp,by show(⟨p.a,p.b⟩:T2)=_;rw[h0]⟩
  .exact List.mem_map.mpr ⟨_,d.rz p hp,by show(⟨p.a,1-p.b⟩:T2)=_;rw[h0];rfl⟩
 exact⟨d,λn hn w hw=>⟨GX (on n hn w hw),W3 (GX (on n hn w hw))⟩,λn hn=>by
  obtain⟨p,hp,_,e⟩:=bX.mp hn;exact⟨p,hp,e⟩⟩
end JF
end K2
end
section
namespace K2
open PySem (Str)
open Enc (enc)
namespace Mo
open K2.P
theorem EM:cJ (cJ G p a) p b=cJ G p b:=by
 funext c;unfold cJ;by_cases h:c=p<;>simp[h]
theorem at_{al:@D}{f c:Str}{a:Nat}{fs:@c4}{d:D}{G:Gp}{Q:DK}(h:G a=some (.ins c fs))(q:Q d G)(hc:autoParam (c∈al) Am._auto_1)(hl:autoParam (fs.lookup f=@aM) Ar._auto_1):SA al f @U G Q:=⟨a,c,fs,d,rfl,h,hc,hl,q⟩
def setAt(al:@D)(f:Str)(x d:D)(G:Gp)(K:@E):Prop:=∃a c fs,x=@ar/\G a=some (.ins c fs)/\c∈al/\fs.length<1000/\K (cJ G a (.ins c (putD f d fs)))
theorem tN:ja al f to tv E K τ G=tv E τ G λd G1=>to E τ G1 λx G2=>setAt al f x d G2 (K.nx τ):=rfl
theorem GU{al:@D}{f c:Str}{a:Nat}{fs:@c4}{d:D}{G:Gp}{K:@E}(h:G a=some (.ins c fs))(q:K (cJ G a (.ins c (putD f d fs))))(hc:autoParam (c∈al) Am._auto_1)(hl:autoParam (fs.length<1000) An._auto_1):setAt al f @U d G K:=⟨a,c,fs,rfl,h,hc,hl,q⟩
inductive iR where
 |un (n:Int)
 |cu (n:Int) (s:T2) (f h:Int)
 |pa (a b:Int)
 |la (a b:Int) (o u:T2) (t h:Int)
 |sl (a b c t:Int)
noncomputable def cn:iR->Str
 |.un _=>"Uncurl" |.cu ..=>"Curl" |.pa ..=>"Part" |.la ..=>"Lay" |.sl ..=>"Slide"
noncomputable def wd:iR->Str
 |.un _=>"uncurl" |.cu ..=>"curl" |.pa ..=>"part" |.la ..=>"lay" |.sl ..=>"slide"
def ar:iR->@e
 |.un n=>[.int n] |.cu n s f h=>[.int n,enc s,.int f,.int h] |.pa a b=>[@aB,.int b] |.la a b o u t h=>[@aB,.int b,enc o,enc u,.int t,.int h] |.sl a b c t=>[@aB,.int b,.int c,.int t]
def fl:iR->@c4
 |.un n=>[("name",.int n)] |.cu n s f h=>[("name",.int n),("spot",enc s),("first",.int f),("hand",.int h)] |.pa a b=>[("name",@aB),("second",.int b)] |.la a b o u t h=>[("name",@aB),("second",.int b),("over",enc o),("under",enc u),("turned",.int t),("hand",.int h)] |.sl a b c t=>[("name",@aB),("second",.int b),("third",.int c),("turn",.int t)]
def td(m:iR):D:=.tup (.str (wd m)::ar m)
def ob(m:iR):GO:=.ins (cn m) (fl m)
abbrev Tc(G:Gp)(p:Nat)(m:iR):Prop:=G p=some (ob m)
def nk:fZ :=
 (ja ["Uncurl"] "name" @g @k)
def jM:gM:=λds G Q _=>∃(p:Nat) (n:Int),ds=[@V,.int n]/\G p=some (.ins "Uncurl" [])/\Q .cY (cJ G p (ob (.un n)))
theorem vS(ds)(G)(Q)(h:jM ds G Q @t):nk @p @B (aT 2 ds) G:=by
 obtain⟨p,n,rfl,g,q⟩:=h;unfold nk;simp only[ends,aT,aq,aK,af,ao,aA,aB,tN,ak,ae,aa];refine GU g ?_;exact q
def pF:fZ :=
 (bG (ja ["Curl"] "name" @g @k)
 (bG (ja ["Curl"] "spot" @g @y)
 (bG (ja ["Curl"] "first" @g @A)
 (ja ["Curl"] "hand" @g @Y))))
def kK:gM:=λds G Q _=>∃(p:Nat) (n:Int) (s:T2) (f:Int) (h:Int),ds=[@V,.int n,enc s,.int f,.int h]/\G p=some (.ins "Curl" [])/\Q .cY (cJ G p (ob (.cu n s f h)))
theorem y7(ds)(G)(Q)(h:kK ds G Q @t):pF @p @B (aT 5 ds) G:=by
 obtain⟨p,n,s,f,h,rfl,g,q⟩:=h;unfold pF;simp only[ends,aT,aq,aK,af,ao,aA,aB,ff,tN,ak,ae,aa];refine GU g ?_;refine GU ax ?_;refine GU ax ?_;refine GU ax ?_;simp only[EM];exact q
def pE:fZ :=
 (bG (ja ["Part"] "name" @g @k)
 (ja ["Part"] "second" @g @y))
def kJ:gM:=λds G Q _=>∃(p:Nat) (a:Int) (b:Int),ds=[@V,@aB,.int b]/\G p=some (.ins "Part" [])/\Q .cY (cJ G p (ob (.pa a b)))
theorem y0(ds)(G)(Q)(h:kJ ds G Q @t):pE @p @B (aT 3 ds) G:=by
 obtain⟨p,a,b,rfl,g,q⟩:=h;unfold pE;simp only[ends,aT,aq,aK,af,ao,aA,aB,ff,tN,ak,ae,aa];refine GU g ?_;refine GU ax ?_;simp only[EM];exact q
def qU:fZ :=
 (bG (ja ["Lay"] "name" @g @k)
 (bG (ja ["Lay"] "second" @g @y)
 (bG (ja ["Lay"] "over" @g @A)
 (bG (ja ["Lay"] "under" @g @Y)
 (bG (ja ["Lay"] "turned" @g (ak 5))
 (ja ["Lay"] "hand" @g (ak 6)))))))
def lW:gM:=λds G Q _=>∃(p:Nat) (a:Int) (b:Int) (o:T2) (u:T2) (t:Int) (h:Int),ds=[@V,@aB,.int b,enc o,enc u,.int t,.int h]/\G p=some (.ins "Lay" [])/\Q .cY (cJ G p (ob (.la a b o u t h)))
theorem Aw(ds)(G)(Q)(h:lW ds G Q @t):qU @p @B (aT 7 ds) G:=by
 obtain⟨p,a,b,o,u,t,h,rfl,g,q⟩:=h;unfold qU;simp only[ends,aT,aq,aK,af,ao,aA,aB,ff,tN,ak,ae,aa];refine GU g ?_;refine GU ax ?_;refine GU ax ?_;refine GU ax ?_;refine GU ax ?_;refine GU ax ?_;simp only[EM];exact q
def ou:fZ :=
 (bG (ja ["Slide"] "name" @g @k)
 (bG (ja ["Slide"] "second" @g @y)
 (bG (ja ["Slide"] "third" @g @A)
 (ja ["Slide"] "turn" @g @Y))))
def j8:gM:=λds G Q _=>∃(p:Nat) (a:Int) (b:Int) (c:Int) (t:Int),ds=[@V,@aB,.int b,.int c,.int t]/\G p=some (.ins "Slide" [])/\Q .cY (cJ G p (ob (.sl a b c t)))
theorem x9(ds)(G)(Q)(h:j8 ds G Q @t):ou @p @B (aT 5 ds) G:=by
 obtain⟨p,a,b,c,t,rfl,g,q⟩:=h;unfold ou;simp only[ends,aT,aq,aK,af,ao,aA,aB,ff,tN,ak,ae,aa];refine GU g ?_;refine GU ax ?_;refine GU ax ?_;refine GU ax ?_;simp only[EM];exact q
end Mo
namespace Mo
open K2.P
theorem Wv{neg:Bool}{a:Str}{G:Gp}{Q:DK}(q:Q (.bl (!neg)) G)(ha:autoParam (a.cps.all (·<0x110000)=true) Ak._auto_1):l6 neg (.str a) (.str a) G Q:=⟨_,_,.str a ha,.str a ha,by
 have:iq (.str a) (.str a)=true:=by show(a == a)=true;exact beq_self_eq_true a
 rw[this];cases neg<;>exact q⟩
theorem Di{neg:Bool}{a b:Str}{G:Gp}{Q:DK}(q:Q (.bl neg) G)(h:autoParam ((a == b)=false) Ak._auto_1)(ha:autoParam (a.cps.all (·<0x110000)=true) Ak._auto_1)(hb:autoParam (b.cps.all (·<0x110000)=true) Ak._auto_1):l6 neg (.str a) (.str b) G Q:=⟨_,_,.str a ha,.str b hb,by
 have:iq (.str a) (.str b)=false:=h;rw[this];cases neg<;>exact q⟩
theorem Ii(s:T2):(enc s:D)=.tup [.int s.a,.int s.b]:=rfl
def BA:fZ :=
 (bG (du (eW (aM @aq @cI (dC (.str "uncurl")))) (bQ (cG (oE "Uncurl" jM (ah (aM fG @g @H) aH)))) b8)
 (bG (du (eW (aM @aq @cI (dC (.str "curl")))) (bQ (cG (oE "Curl" kK (ah (aM fG @g @H) (ah (aM fG @g @ad) (ah (aM fG @g (dC (.int 3))) (ah (aM fG @g (dC (.int 4))) aH))))))) b8)
 (bG (du (eW (aM @aq @cI (dC (.str "part")))) (bQ (cG (oE "Part" kJ (ah (aM fG @g @H) (ah (aM fG @g @ad) aH))))) b8)
 (bG (du (eW (aM @aq @cI (dC (.str "lay")))) (bQ (cG (oE "Lay" lW (ah (aM fG @g @H) (ah (aM fG @g @ad) (ah (aM fG @g (dC (.int 3))) (ah (aM fG @g (dC (.int 4))) (ah (aM fG @g (dC (.int 5))) (ah (aM fG @g (dC (.int 6))) aH))))))))) b8)
 (bG (du (eW (aM @aq @cI (dC (.str "slide")))) (bQ (cG (oE "Slide" j8 (ah (aM fG @g @H) (ah (aM fG @g @ad) (ah (aM fG @g (dC (.int 3))) (ah (aM fG @g (dC (.int 4))) aH))))))) b8)
 oT)))))
def vB:gM:=λds G Q _=>∃m:iR,ds=[td m]/\∀p,G p=none->Q (@V) (cJ G p (ob m))
theorem KQ(ds)(G)(Q)(h:vB ds G Q @t):BA @p @B (aT 1 ds) G:=by
 obtain⟨m,rfl,q⟩:=h;unfold BA;cases m with
 |un n=>
  simp only[ends,aT,td,wd,ar,aq,aK,af,ao,aA,aB,ff,du,bQ,cG,oE,ah,aM,ak,aa,dC,aH,cU,MH,b8,bP,Ah];refine Wv ?_;simp only[a9,aO,if_true];exact λp hp=>⟨p,n,rfl,ax,rfl,cp (by rw[EM];exact q p hp)⟩
 |cu n s f h=>
  simp only[ends,aT,td,wd,ar,aq,aK,af,ao,aA,aB,ff,du,bQ,cG,oE,ah,aM,ak,aa,dC,aH,cU,MH,b8,bP,Ah];ext z;refine Wv ?_;simp only[a9,aO,if_true];exact λp hp=>⟨p,n,s,f,h,rfl,ax,rfl,cp (by rw[EM];exact q p hp)⟩
 |pa a b=>
  simp only[ends,aT,td,wd,ar,aq,aK,af,ao,aA,aB,ff,du,bQ,cG,oE,ah,aM,ak,aa,dC,aH,cU,MH,b8,bP,Ah];ext z;ext z;refine Wv ?_;simp only[a9,aO,if_true];exact λp hp=>⟨p,a,b,rfl,ax,rfl,cp (by rw[EM];exact q p hp)⟩
 |la a b o u t h=>
  simp only[ends,aT,td,wd,ar,aq,aK,af,ao,aA,aB,ff,du,bQ,cG,oE,ah,aM,ak,aa,dC,aH,cU,MH,b8,bP,Ah];ext z;ext z;ext z;refine Wv ?_;simp only[a9,aO,if_true];exact λp hp=>⟨p,a,b,o,u,t,h,rfl,ax,rfl,cp (by rw[EM];exact q p hp)⟩
 |sl a b c t=>
  simp only[ends,aT,td,wd,ar,aq,aK,af,ao,aA,aB,ff,du,bQ,cG,oE,ah,aM,ak,aa,dC,aH,cU,MH,b8,bP,Ah];ext z;ext z;ext z;ext z;refine Wv ?_;simp only[a9,aO,if_true];exact λp hp=>⟨p,a,b,c,t,rfl,ax,rfl,cp (by rw[EM];exact q p hp)⟩
end Mo
namespace Mo
open K2.P
open K2.rf (bN)
open K2.vn (mS Ro lj pA)
open K2.yj (iN qy pB qz fD gh gV cj)
def iJ(r x:@w):Prop:=∃k,k<=r.length/\x=mS r k
theorem iJ.refl(r):iJ r r:=⟨0,b9 _,by simp[mS]⟩
theorem iJ.trans(h:iJ a b)(h2:iJ b c):iJ a c:=by
 obtain⟨k,hk,rfl⟩:=h;obtain⟨j,hj,rfl⟩:=h2;rw[qz] at hj;exact qy hk hj
theorem iJ.app(a b):iJ (a++b) (b++a):=⟨a.length,@L,(iN a b).symm⟩
theorem iJ.perm(h:iJ a b):b.Perm a:=by
 obtain⟨k,_,rfl⟩:=h;exact lj a k
theorem iJ.parts(h:iJ a b):∃u v,a=u++v/\b=v++u:=by
 obtain⟨k,_,rfl⟩:=h;exact⟨a.take k,a.drop k,(cw k a).symm,rfl⟩
theorem iJ.of(h1:a=u++v)(h2:b=v++u):iJ a b:=by rw[h1,h2];exact .app u v
theorem iJ.flat(h:iJ a b):iJ (a.flatMap f) (b.flatMap f):=by
 obtain⟨u,v,rfl,rfl⟩:=h.parts;exact .of (u:=u.flatMap f) (v:=v.flatMap f) (by rw[gS]) (by rw[gS])
theorem iJ.abC(h:iJ a b):iJ (a.filter f) (b.filter f):=by
 obtain⟨u,v,rfl,rfl⟩:=h.parts;exact .of (u:=u.filter f) (v:=v.filter f) (by rw[bg]) (by rw[bg])
theorem iJ.map(h:iJ a b):iJ (a.map f) (b.map f):=by
 obtain⟨u,v,rfl,rfl⟩:=h.parts;exact .of (u:=u.map f) (v:=v.map f) (by rw[aF]) (by rw[aF])
theorem iJ.adu(h:iJ a b)(nd:(a.map T3.s).Nodup):bN b=bN a:=by
 obtain⟨k,_,rfl⟩:=h;exact pA nd k
theorem Bx(r):iJ r (bN r):=⟨_,zb,rfl⟩
theorem iJ.nil(h:iJ [] b):b=[]:=by have:=h.perm;exact this.eq_nil
theorem iJ.uniq(h:iJ (f::T) r)(nd:(r.map T3.s).Nodup):mS r (r.map T3.s |>.idxOf f.s)=f::T:=by
 obtain⟨u,v,e,rfl⟩:=h.parts;cases u with
 |nil=>
  rw[aB] at e;subst e;simp[mS]
 | cons g u=>
  rw[aA] at e;injection e with e1 e2
  subst e1 e2;have hn:f.s∉v.map T3.s:=λz=>by
   rw[aF,cT] at nd;exact nd.2.2 _ z _ (aJ) rfl
  have:((v++f::u).map T3.s).idxOf f.s=v.length:=by
   rw[aF,DI,if_neg hn,aq,zc];simp
  rw[this,iN];rfl
structure ya(rows:Rows):Prop where
 nd:(@a7).Nodup
 way:∀p∈rows.flatten,p.b=0\/p.b=1
theorem _root_.Internal.K2.Dr.dn(d:@n):ya rows:=⟨d.nd,d.way⟩
def JN(s:T2)(ps:@w)(p:T3):@w:=if p.s=s then p::ps else [p]
def jh(s:T2)(ps:@w)(k:Nat)(r:@w):@w:=(if s=⟨k,2⟩ then ps else [])++r.flatMap (JN s ps)
noncomputable def lr(s:T2)(ps:@w):Rows->Nat->Rows
 |[],_=>[]
 |r::rs,k=>jh s ps k r::lr s ps rs (k+1)
theorem w4(s)(ps):∀(a b:Rows) (k:Nat),lr s ps (a++b) k=lr s ps a k++lr s ps b (k+a.length)
 |[],b,k=>by simp[lr]
 |r::a,b,k=>by
  rw[aA,lr,lr,w4 s ps a b (k+1),aA,af];congr 3;lia
theorem ux:∀{r:@w},(∀p∈r,p.s≠s)->r.flatMap (JN s ps)=r
 |[],_=>rfl
 |a::r,h=>by
  rw[cz,ux λp hp=>h p (aC _ hp)];unfold JN;rw[if_neg (h a aJ)];rfl
theorem pI:∀{R:Rows} {k:Nat},(∀p∈R.flatten,p.s≠s)->(∀j:Nat,k<=j->j<k+R.length->s≠⟨j,2⟩)->lr s ps R k=R
 |[],k,_,_=>rfl
 |r::R,k,h,h2=>by
  rw[lr,pI (λp hp=>h p (by rw[aX];exact bD _ hp)) (λj h3 h4=>h2 j @c (by rw[af];lia))];unfold jh;rw[if_neg (h2 k @X (by rw[af];lia)),aB,ux λp hp=>h p (by rw[aX];exact bM _ hp)]
inductive Spl (rows:Rows) (s:T2):Prop
 |at (R1 R2:Rows) (A B:@w) (x:T3) (e:rows=R1++(A++x::B)::R2) (hs:x.s=s)
 |mt (R1 R2:Rows) (e:rows=R1++[]::R2) (hs:s=⟨@cc,2⟩)
theorem PY:∀{rows:Rows} {k:Nat},s∈bL rows k->(∃R1 R2 A B x,rows=R1++(A++x::B)::R2/\x.s=s)\/∃R1 R2:Rows,rows=R1++[]::R2/\s=⟨((k+R1.length:Nat):Int),2⟩
 |[],_,h=>@a8
 | r::rs,k,h=>by
  rw[bL] at h;ext B
  .unfold bK at h;split at h
   .rename_i e;rw[bV] at h;exact .inr ⟨[],rs,by rw[e];rfl,h⟩
   .obtain⟨x,hx,e⟩:=@c_;obtain⟨A,B,e2⟩:=e7 hx;exact .inl ⟨[],rs,A,B,x,by rw[e2];rfl,e⟩
  .rcases PY h with ⟨R1,R2,A,B,x,e,e2⟩ |⟨R1,R2,e,e2⟩
   .exact .inl ⟨r::R1,R2,A,B,x,by rw[e];rfl,e2⟩
   .exact .inr ⟨r::R1,R2,by rw[e];rfl,by rw[e2,af];congr 2;lia⟩
theorem zU(h:s∈@av):Spl rows s:=by
 rcases PY h with ⟨R1,R2,A,B,x,e,e2⟩ |⟨R1,R2,e,e2⟩
 .exact .at R1 R2 A B x e e2
 .exact .mt R1 R2 e (by rw[e2,jJ])
theorem s_b(p:T3):p.s.b=p.b:=rfl
theorem ya.Wc(d:ya rows)(h:@bE)(j):p.s≠⟨j,2⟩:=λe=>by
 have:=congrArg T2.b e;rw[s_b] at this;have h2:p.b=2:=this;rcases d.way p h with h |h<;>lia
theorem dG(R1 R2)(r:@w):(@aZ).flatten=R1.flatten++(r++R2.flatten):=by rw[fB,aX]
theorem yA(d:ya (R1++(A++x::B)::R2)):lr x.s ps (R1++(A++x::B)::R2) 0=R1++(A++x::(ps++B))::R2:=by
 have nd:=d.nd;rw[dG] at nd;simp only[aF,aq,bp,aA] at nd;have nd1:=List.nodup_append.mp nd;have nd2:=List.nodup_append.mp nd1.2.1;have nd3:=List.nodup_cons.mp nd2.2.1;have hx:x∈(R1++(A++x::B)::R2).flatten:=by rw[dG];simp
 have h1:∀p∈R1.flatten,p.s≠x.s:=λp hp e=>nd1.2.2 _ (List.mem_map.mpr ⟨p,hp,e⟩) _ @i rfl;have h2:∀p∈A,p.s≠x.s:=λp hp e=>nd2.2.2 _ (List.mem_map.mpr ⟨p,hp,e⟩) _ @i rfl;have h3:∀p∈B,p.s≠x.s:=λp hp e=>nd3.1 (bM _ (List.mem_map.mpr ⟨p,hp,e⟩));have h4:∀p∈R2.flatten,p.s≠x.s:=λp hp e=>nd3.1 (bD _ (List.mem_map.mpr ⟨p,hp,e⟩));rw[w4,lr,pI h1 λj _ _=>d.Wc hx _,pI h4 λj _ _=>d.Wc hx _];congr 2;unfold jh;rw[if_neg (d.Wc hx _),aB,gS,cz,ux h2,ux h3];congr 1;unfold JN;rw[if_pos rfl];rfl
theorem yy(d:ya (R1++[]::R2)):lr ⟨@cc,2⟩ ps (R1++[]::R2) 0=R1++ps::R2:=by
 have h1:∀p∈R1.flatten,p.s≠⟨@cc,2⟩:=λp hp=>d.Wc (by rw[dG];simp[hp]) _;have h4:∀p∈R2.flatten,p.s≠⟨@cc,2⟩:=λp hp=>d.Wc (by rw[dG];simp[hp]) _;have ne:∀j:Nat,j≠R1.length->(⟨@cc,2⟩:T2)≠⟨(j:Nat),2⟩:=λj hj e=>by
  have:=@cS;simp only at this;lia
 rw[w4,lr,pI h1 λj _ hj=>ne j @c,pI h4 λj hj _=>ne j @c];congr 2;unfold jh;rw[if_pos (by rw[jJ])];simp
theorem GR(h:s∈bK r @cc)(hn:∀p∈R1.zipIdx 0,s∉bK p.1 (p.2:Int)):ie (@aZ) s=R1.length:=by
 unfold ie;rw[rh,mM];have:(List.zipIdx R1 0).find? (λp=>decide (@cP))=none:=List.find?_eq_none.mpr λp hp=>by simpa using hn p hp
 rw[this,Option.none_or,vt,eF];have h':s∈bK r ((0+R1.length:Nat):Int):=by rw[jJ];exact h
 simp only[h',decide_true];simp
theorem Pz{R:Rows}(h:p∈R.zipIdx 0):p.1∈R/\p.2<R.length:=by
 obtain⟨i,hi⟩:=eZ h;rw[Ts] at hi;obtain⟨r,hr,e⟩:=Option.map_eq_some_iff.mp hi;subst e;exact⟨bE hr,by have:=(List.getElem?_eq_some_iff.mp hr).1;ext p⟩
theorem wt(d:ya (R1++(A++x::B)::R2)):ie (R1++(A++x::B)::R2) x.s=R1.length:=by
 have hx:x∈(R1++(A++x::B)::R2).flatten:=by rw[dG];simp
 refine GR (by unfold bK;rw[if_neg @i];simp) @aN;obtain⟨h1,h2⟩:=Pz hp;unfold bK;split
 .rw[bV];exact d.Wc hx _
 .intro z;obtain⟨y,hy,e⟩:=@c3;have nd:=d.nd;rw[dG,aF] at nd;exact(List.nodup_append.mp nd).2.2 _ (List.mem_map.mpr ⟨y,List.mem_flatten.mpr ⟨_,h1,hy⟩,e⟩) _ @i rfl
theorem Lv(d:ya (R1++[]::R2)):ie (R1++[]::R2) ⟨@cc,2⟩=R1.length:=by
 refine GR (by unfold bK;rw[if_pos rfl];simp) @aN;obtain⟨h1,h2⟩:=Pz hp;unfold bK;split
 .rw[bV];intro e;have:=@cS;simp only at this;lia
 .intro z;obtain⟨y,hy,e⟩:=@c3;exact d.Wc (by rw[dG];exact bM _ (List.mem_flatten.mpr ⟨_,h1,hy⟩)) _ e
end Mo
namespace Mo
open K2.P
open K2.rf (bN)
open K2.vn (mS Ro lj pA)
open K2.yj (iN qy pB qz fD gh gV cj)
def OkS(s:T2)(rows:Rows)(k:Nat):Prop:=∀(j:Nat) (r:@w),rows[j]?=@am->s=⟨((k+j:Nat):Int),2⟩->r=[]
theorem Ff(d:ya rows)(h:Spl rows s):OkS s rows 0:=by
 intro j r hj e;cases h with
 | «at» R1 R2 A B x e1 hs=>
  subst e1 hs;exact absurd e (d.Wc (by rw[dG];simp) _)
 |mt R1 R2 e1 hs=>
  subst e1 hs;have:=@cS;simp only[jJ] at this;have hj':j=R1.length:=@d
  subst hj';simpa using hj.symm
theorem JL(h:Ro rows Hf):∀{k:Nat},OkS s rows k->Ro (lr s ps rows k) (lr s ps Hf k):=by
 induction h with
 |nil=>intro k _;ext f
 |@cons r x rs xs q _ ih=>
  intro k ok;refine .cons ?_ (ih λj r' hj e=>ok (j+1) r' (by simpa using hj) (by rw[e];congr 2;lia));have q:iJ r x:=q;show iJ _ _;unfold jh;by_cases hs:s=⟨(k:Nat),2⟩
  .have:r=[]:=ok 0 r rfl (by simpa using hs);ext c;rw[q.nil];exact .refl _
  .rw[if_neg hs,aB,aB];exact q.flat
theorem Ro.ad4(h:Ro a b):b.length=a.length:=by
 induction h with
 |nil=>rfl
 |cons _ _ ih=>rw[af,af,ih]
theorem Br(h:Ro a b):∀{k:Nat},s∈bL a k->s∈bL b k:=by
 induction h with
 |nil=>intro k h;exact h
 | @cons r x rs xs q _ ih=>
  intro k h;have q:iJ r x:=q;rw[bL] at h ⊢;ext B
  .refine bM _ ?_;unfold bK at h ⊢;by_cases hr:r=[]
   .subst hr;rw[q.nil];exact h
   .rw[if_neg hr] at h;have hx:x≠[]:=λz=>hr (by have:=q.perm;rw[z] at this;exact this.symm.eq_nil);rw[if_neg hx];exact((q.perm.map T3.s).mem_iff).mpr h
  .exact bD _ (ih h)
theorem i6(h:Ro a b):b.flatten.Perm a.flatten:=by
 induction h with
 |nil=>exact .refl _
 |cons q _ ih=>
  have q:iJ _ _:=q;rw[aX,aX];exact q.perm.append ih
theorem ya.ro(d:ya a)(h:Ro a b):ya b :=
 ⟨((i6 h).map T3.s).nodup_iff.mpr d.nd,λp hp=>d.way p ((i6 h).mem_iff.mp hp)⟩
theorem _root_.Internal.K2.Dr.ro(d:Dr a)(h:Ro a b):Dr b :=
 ⟨(d.dn.ro h).nd,(d.dn.ro h).way,λp hp=>d.hand p ((i6 h).mem_iff.mp hp),λp hp=>(i6 h).mem_iff.mpr (d.rz p ((i6 h).mem_iff.mp hp)),by rw[(i6 h).length_eq];exact d.gJ,by rw[Ro.ad4 h];exact d.str⟩
theorem ya.row(d:ya rows)(h:r∈rows):(r.map T3.s).Nodup:=by
 obtain⟨A,B,rfl⟩:=e7 h;have:=d.nd;rw[dG,aF,aF] at this;exact(List.nodup_append.mp (List.nodup_append.mp this).2.1).1
theorem P1(h:Ro a b):(∀r∈a,(r.map T3.s).Nodup)->b.map bN=a.map bN:=by
 induction h with
 |nil=>intro _;rfl
 |cons q _ ih=>
  intro hn;have q:iJ _ _:=q;rw[aq,aq,ih λr hr=>hn r (aC _ hr),q.adu (hn _ aJ)]
theorem ya.Ha(d:ya a)(h:Ro a b):b.map bN=a.map bN:=P1 h λr hr=>d.row hr
noncomputable def iQ(ns:@u)(rows:Rows):Rows:=rows.map (IM @b8)
theorem RQ(h:Ro a b):Ro (iQ ns a) (iQ ns b):=by
 induction h with
 |nil=>ext f
 |cons q _ ih=>
  have q:iJ _ _:=q;exact .cons (show iJ _ _ from q.abC) ih
theorem uA{ns:@u}{r:@w}(h:∀p∈r,p.a∉ns):r.filter (@b8)=r:=List.filter_eq_self.mpr λp hp=>by simpa using h p hp
theorem xG{ns:@u}{r:@w}(h:∀p∈r,p.a∈ns):r.filter (@b8)=[]:=List.filter_eq_nil_iff.mpr λp hp=>by simpa using h p hp
theorem Ib{ns:@u}(hp:∀p∈ps,p.a∈ns):∀{r:@w},(∀p∈r,p.a∉ns)->(r.flatMap (JN s ps)).filter (@b8)=r
 |[],_=>rfl
 |a::r,h=>by
  rw[cz,bg,Ib hp λp hp=>h p (aC _ hp)];have h1:([a]:@w).filter (@b8)=[a]:=uA λp hp=>by rw[List.mem_singleton.mp hp];exact h a aJ
  unfold JN;split
  .rw[show a::ps=[a]++ps from rfl,bg,h1,xG hp];rfl
  .rw[h1];rfl
theorem Me(hp:∀p∈ps,p.a∈ns):∀{rows:Rows} {k:Nat},(∀p∈rows.flatten,p.a∉ns)->iQ ns (lr s ps rows k)=rows
 |[],_,_=>rfl
 |r::rows,k,h=>by
  show(jh s ps k r).filter _::iQ ns (lr s ps rows (k+1))=_;rw[Me hp λp hp=>h p (by rw[aX];exact bD _ hp)];unfold jh;rw[bg,Ib hp λp hp=>h p (by rw[aX];exact bM _ hp)];congr 1;split
  .rw[xG hp];rfl
  .rfl
theorem kh(d:ya rows)(h:Spl rows s):(lr s ps rows 0).flatten.Perm (ps++rows.flatten):=by
 cases h with
 | «at» R1 R2 A B x e hs=>
  subst e hs;rw[yA d,dG,dG];simp only[bp,aA];have:(R1.flatten++(A++x::(ps++(B++R2.flatten))))=(R1.flatten++(A++[x]))++(ps++(B++R2.flatten)):=@L
  rw[this];have e2:ps++(R1.flatten++(A++x::(B++R2.flatten)))=ps++((R1.flatten++(A++[x]))++(B++R2.flatten)):=@L
  rw[e2];exact qg _ _ _
 |mt R1 R2 e hs=>
  subst e hs;rw[yy d,dG,dG,aB];exact qg _ _ _
theorem mB(s)(ps):∀(rows:Rows) (k:Nat),(lr s ps rows k).length=rows.length
 |[],_=>rfl
 |r::rows,k=>by rw[lr,af,af,mB s ps rows (k+1)]
noncomputable def cps(n f h:Int):@w:=[⟨n,f,h⟩,⟨n,1-f,h⟩]
theorem Vx(d:@n)(hs:s∈@av)(hn:∀p∈rows.flatten,p.a≠n)(hf:f=0\/f=1)(hh:h=1\/h=-1)(hl:rows.flatten.length<=22):Dr (lr s (cps n f h) rows 0):=by
 have pp:=kh (ps:=cps n f h) d.dn (zU hs);have mem:∀p,p∈(lr s (cps n f h) rows 0).flatten↔p=⟨n,f,h⟩\/p=⟨n,1-f,h⟩\/@bE:=λp=>by
  rw[pp.mem_iff];simp[cps]
 have fr:∀w:Int,(⟨n,w⟩:T2)∉@a7:=λw z=>by
  obtain⟨p,hp,e⟩:=@c3;exact hn p hp (@cS)
 refine⟨?_,?_,?_,?_,?_,?_⟩
 .rw[(pp.map T3.s).nodup_iff,aF,cT];refine⟨?_,d.nd,?_⟩
  .have:(⟨n,f⟩:T2)≠⟨n,1-f⟩:=λe=>by have:=congrArg T2.b e;simp only at this;lia
   simp[cps,T3.s,this]
  .intro a ha b hb e;subst e;simp only[cps,aq,aK,bf,bH,or_false] at ha;rcases ha with rfl |rfl
   .exact fr f hb
   .exact fr (1-f) hb
 .intro p hp;rcases(mem p).mp hp with rfl |rfl |hp
  .exact hf
  .show 1-f=0\/1-f=1;lia
  .exact d.way p hp
 .intro p hp;rcases(mem p).mp hp with rfl |rfl |hp
  .exact hh
  .exact hh
  .exact d.hand p hp
 .intro p hp;rcases(mem p).mp hp with rfl |rfl |hp
  .exact(mem _).mpr (.inr (@I))
  .exact(mem _).mpr (.inl (by show(⟨n,1-(1-f),h⟩:T3)=_;congr 1;lia))
  .exact(mem _).mpr (.inr (.inr (d.rz p hp)))
 .rw[pp.length_eq,av];simp only[cps,af,ao];lia
 .rw[mB];exact d.str
theorem Lm(h:(∃A B,r=A++p::q::B)\/(∃M,r=q::M++[p])\/(r=[p]/\q=p)):(p,q)∈r.zip (gu r):=by
 have go:∀i:Nat,r[i]?=some p->(gu r)[i]?=some q->(p,q)∈r.zip (gu r):=λi h1 h2=>bE (i:=i) (List.getElem?_zip_eq_some.mpr ⟨h1,h2⟩);rcases h with ⟨A,B,rfl⟩ |⟨M,rfl⟩ |⟨rfl,rfl⟩
 .refine go A.length @i ?_;unfold gu;rw[bA @i,CN,Nat.add_comm,aY @c];simp
 .refine go (M.length+1) ?_ ?_
  .rw[aY @i];simp
  .unfold gu;rw[aY @i];simp
 .exact go 0 rfl rfl
theorem iJ.adj(h:iJ (p::q::T) r):(p,q)∈r.zip (gu r):=by
 obtain⟨u,v,e,rfl⟩:=h.parts;refine Lm ?_
 match u,e with
 |[],e=>exact .inl ⟨[],T,by simpa using e.symm⟩
 |[a],e=>
  simp at e;obtain⟨rfl,rfl⟩:=e;exact .inr (.inl ⟨T,rfl⟩)
 |a::b::u,e=>
  simp at e;obtain⟨rfl,rfl,rfl⟩:=e;exact .inl ⟨v,u,rfl⟩
theorem iJ.one(h:iJ [p] r):r=[p]:=by have:=h.perm;exact List.perm_singleton.mp this
theorem DW(h:x∈r.zip (gu r)):x∈pairsOf (@aZ):=by
 unfold pairsOf;rw[gS,cz];exact bD _ (bM _ h)
theorem kj(d:Dr (@aZ))(h:iJ (p::q::T) r):fi (dM (pairsOf (@aZ))) p.s=some q.s:=by
 rw[w6 d];exact(JW d (DW h.adj)).1
theorem w5(d:Dr (@aZ))(h:iJ [p] r):fi (dM (pairsOf (@aZ))) p.s=some p.s:=by
 rw[w6 d];refine(JW d (DW ?_)).1;rw[h.one];exact Lm (.inr (.inr @ao))
structure Cu(rows:Rows)(n:Int)(s:T2)(y z:T3):Prop where
 ex:∃(R1 R2:Rows) (r M:@w),rows=@aZ/\iJ (y::z::M) r/\((M=[]/\s=⟨@cc,2⟩)\/∃M' x,M=M'++[x]/\x.s=s)/\∀p∈M,p.a≠n
theorem Wz(d:ya rows)(hs:s∈@av)(hn:∀p∈rows.flatten,p.a≠n):Cu ((lr s (cps n f h) rows 0).map bN) n s ⟨n,f,h⟩ ⟨n,1-f,h⟩:=by
 cases zU hs with
 | «at» R1 R2 A B x e hx=>
  subst e hx;rw[yA d,aF,aq];refine⟨_,_,_,B++(A++[x]),rfl,?_,.inr ⟨B++A,x,@L,rfl⟩,λp hp=>hn p ?_⟩
  .refine iJ.trans ?_ (Bx _);refine .of (u:=⟨n,f,h⟩::⟨n,1-f,h⟩::B) (v:=A++[x]) @i (by simp[cps])
  .rw[dG];simp only[lL,bf,bH,or_false] at hp ⊢;rcases hp with h |h |h
   .exact .inr (.inl (.inr (.inr h)))
   .exact .inr (.inl (.inl h))
   .exact .inr (.inl (.inr (.inl h)))
 |mt R1 R2 e hx=>
  subst e hx;rw[yy d,aF,aq];exact⟨_,_,_,[],rfl,Bx _,.inl ⟨rfl,by rw[ag]⟩,λp hp=>by cases hp⟩
end Mo
namespace K3
open K2.P K2.rN
def aU:gM:=λds G Q _=>∃rows:Rows,ds=[@aj]/\@dj/\∀p,G p=none->Q (@V) (cJ G p (.lst ((@l).map enc)))
noncomputable def Bs:Rows->Nat->List (T2×Int)
 |[],_=>[]
 |r::rs,k=>(bK r (k:Int)).map (λs=>(s,(k:Int)))++Bs rs (k+1)
theorem zg:∀(rows:Rows) (k:Nat),(Bs rows k).map @N=bL rows k
 |[],k=>rfl
 |r::rs,k=>by
  rw[Bs,bL,aF,zg rs,cP];congr 1
  conv=>rhs;rw[<-uW (bK r (k:Int))]
  rfl
end K3
namespace Mo
open K2.P hiding aU
open K2.K3 (aU AM)
open K2.rf (bN)
open K2.rN (HR)
open K2.yj (cg)
theorem Hk{κ α:Type} [@cD] [Enc κ] [qM κ] [@W] [@ai]{l:@c2}{k:κ}{v:α}{G:Gp}{Q:DK}(hv:fi l k=@Q)(q:Q (enc v) G):fG (.vX (gc l)) (enc k) G Q:=by
 rw[E8,HF,hv];exact⟨vL l k,q⟩
def u3:fZ :=
 (bQ (cG (Ox (aM @aq (aM fG @g @k) @y) (aM @aq (aM fG @g @y) @k))))
def jr:gM:=λds G Q _=>∃(l:@bi) (a b va vb:T2),ds=[.vX (gc l),enc a,enc b]/\(fi l a=some va/\fi l b=some vb)/\Q (.bl (decide (va=b)||decide (vb=a))) G
theorem Dy(ds)(G)(Q)(h:jr ds G Q @t):u3 @p @B (aT 3 ds) G:=by
 obtain⟨l,a,b,va,vb,rfl,⟨ha,hb⟩,q⟩:=h;unfold u3;simp only[bQ,cG,aT,aq,aK,af,ao,aA,aB,ends,uD,aM,ak,aa,ae];refine Hk ha (gx @r ?_);simp only[aj,if_false,aO];by_cases h1:va=b
 .simp only[h1,decide_true,if_true];rw[h1] at q;simp only[decide_true,Bool.true_or] at q;exact cp q
 .simp only[h1,decide_false,aj,if_false];refine Hk hb (gx @r ?_);simp only[h1,decide_false,CP] at q;exact cp q
def sN:fZ :=
 (bQ (cG (aS jr (ah (aS kH @ah) (ah (dN (ah @k (ah @as aH))) (ah (dN (ah @k (ah @H aH))) aH))))))
def j5:gM:=λds G Q _=>∃(rows:Rows) (n:Int) (v0 v1:T2),ds=[@aj,.int n]/\(@cN/\fi @aw @a1=some v0/\fi @aw @ba=some v1)/\Q (.bl (decide (v0=@ba)||decide (v1=@a1))) G
theorem Cz(ds)(G)(Q)(h:j5 ds G Q @t):sN @p @B (aT 2 ds) G:=by
 obtain⟨rows,n,v0,v1,rfl,⟨hl,h0,h1⟩,q⟩:=h;unfold sN;simp only[bQ,cG,aS,ah,ak,aT,aq,aK,af,ao,aA,aB,aa,aH,dN,ae,dC,ends];exact⟨rows,rfl,hl,⟨@f,@f,_,@a1,@ba,v0,v1,rfl,⟨h0,h1⟩,cp q⟩⟩
def oh:fZ :=
 (bG (bx (aS aU @ah) (aI 2))
 (fy (hZ @k) (aI 3) (du (eW (aM (CS true) @A @y)) oT b8)))
def gP:gM:=λds G Q _=>∃(rows:Rows) (d:D) (ns:@u),ds=[@aj,d]/\IsL G d (ns.map enc)/\(@dj/\∀n∈ns,n∈@l)/\∀G',@O->Q .cY G'
theorem xU(ds)(G)(Q)(h:gP ds G Q @t):oh @p @B (aT 4 ds) G:=by
 obtain⟨rows,d,ns,rfl,hd,⟨hl,hn⟩,q⟩:=h;unfold oh;simp only[ends,aT,aq,aK,af,ao,aN,aA,aB,dO,bx,aS,ah,ak,aa,aH,aI,au,ai];refine⟨rows,rfl,hl,@aN⟩;have le:=eQ.new (o:=.lst ((@l).map enc)) hp;simp only[fy,cM,ak,ae,aa];refine Yu (hd.mono le) λok dS=>?_;refine dZ (xs:=ns) (λpre τ G'=>cJ G p (.lst ((@l).map enc))=G'/\∃a,τ=[@G,@aM,@ax,a]) ⟨rfl,_,rfl⟩ (λ_ _ G' h=>dS G' (by rw[h.1];exact .refl _)) ?_ ?_
 .rintro pre n post τ G' N e ⟨rfl,a,rfl⟩ hN;simp only[aI,du,au,ai,b8,bP,aM,ak,ae,aa];refine AM (x:=n) (xs:=@l) @r ax ?_;have:n∈@l:=hn n (by rw[e];simp);simp only[this,decide_true,bI,if_true,aO,aj,if_false];exact hN _ _ ⟨rfl,_,rfl⟩
 .rintro τ G' ⟨rfl,a,rfl⟩;exact q _ le
def qQ:fZ :=
 (du (vP (eW @g)) oT b8)
def iA:gM:=λds G Q _=>∃b:Bool,ds=[.bl b]/\b=true/\Q .cY G
theorem Ap(ds)(G)(Q)(h:iA ds G Q @t):qQ @p @B (aT 1 ds) G:=by
 obtain⟨b,rfl,rfl,q⟩:=h;unfold qQ;simp only[du,vP,aT,aq,aK,af,ao,aA,aB,ends,b8,bP,ak,aa,aO,bI,aj,if_false];exact q
def u0:fZ :=
 (bG (bx (aS aU @ah) (aI 2))
 (bG (du (eW (aM rGt (aM ik (jV nP (ah @y aH)) (jV nP (ah @k aH))) (dC (.int 12)))) oT b8)
 (fy (hZ @k) (aI 3) (bG (du (eW (aM (CS false) @A @y)) oT b8)
 (cW (mU vw gb @y (ah @A aH)))))))
def k8:gM:=λds G Q _=>∃(rows:Rows) (d:D) (ns:@u),ds=[@aj,d]/\IsL G d (ns.map enc)/\(@dj/\@bA+ns.length<=12/\ns.Nodup/\∀n∈ns,n∉@l)/\∀G',@O->Q .cY G'
theorem Dx(ds)(G)(Q)(h:k8 ds G Q @t):u0 @p @B (aT 4 ds) G:=by
 obtain⟨rows,d,ns,rfl,hd,⟨hl,hm,nd,hn⟩,q⟩:=h;unfold u0;simp only[ends,aT,aq,aK,af,ao,aN,aA,aB,dO,bx,aS,ah,ak,aa,aH,aI,au,ai];refine⟨rows,rfl,hl,@aN⟩;have le:=eQ.new (o:=.lst ((@l).map enc)) hp;have gp:=ax (G:=G) (a:=p) (o:=.lst ((@l).map enc));have hdp:d≠@V:=λe=>by
  rcases hd with e1 |⟨a,e1,e2⟩
  .rw[e] at e1;cases e1
  .rw[e] at e1;cases e1;rw[hp] at e2;cases e2
 generalize cJ G p (.lst ((@l).map enc))=G1 at le gp ⊢;simp only[ff,du,b8,bP,aM,jV,ah,ak,ae,aa,aH,dC];refine mJ (.ref gp) (mJ (hd.mono le) ?_);simp only[ag,eV,wX,aO];have:¬ (@bA:Int)+(ns.length:Int)>12:=@d
 simp only[this,decide_false,aj,fy,cM,ak,ae,aa,if_false];refine rN.Ve hd le λok okG=>?_;refine dZ (xs:=ns) (λpre τ G'=>@O/\G' p=some (.lst ((@l++pre).map enc))/\∃a,τ=[@G,@aM,@ax,a]) ⟨le,by rw[bC];exact gp,_,rfl⟩ (λ_ _ G' h=>okG G' h.1) ?_ ?_
 .rintro pre n post τ G' N e ⟨l,g,a,rfl⟩ hN;simp only[aI,au,ai,ff,du,b8,cW,mU,ak,ae,aa,gr,ah,aH,cZ,bP,aM];refine AM (x:=n) (xs:=@l++pre) @r g ?_;have h1:n∉@l++pre:=λz=>by
   rcases List.mem_append.mp z with z |z
   .exact hn n (by rw[e];simp) z
   .rw[e,cT] at nd;exact nd.2.2 n z n (aJ) rfl
  simp only[aj,h1,decide_false,a9,if_false,aO,g,true_and];refine⟨?_,hN _ _ ⟨l.put hp,?_,_,rfl⟩⟩
  .have:=congrArg c7 e;simp at this;exact uO (by rw[ag,av];lia)
  .rw[ax,<-bp,aF (l₁:=@l++pre)];rfl
 .rintro τ G' ⟨l,g,a,rfl⟩;exact q _ l
theorem Vn:∀{a a' b b':@e},y8 G R a a'->y8 G R b b'->y8 G R (a++b) (a'++b'):=by
 intro a a' b b' h1 h2;induction a generalizing a' with
 |nil=>cases h1;exact h2
 |cons x a ih=>cases h1 with |cons h t=>exact .cons h (ih t)
theorem Q5{α:Type} [@W] [@ai]{xs:@s}{x:α}{G:Gp}{Q:DK}(hd:Enc.dep α<=7)(h:x∈xs)(q:Q (.int ((xs.idxOf x:Nat):Int)) G):sZ (enc xs) [enc x] G Q:=by
 refine⟨trivial,xs.map enc,enc x,xs.map enc,rfl,Enc.sn _ _ _ (by unfold SN;lia),sJ G 7 hd xs,?_⟩;rw[Ia xs h];exact q
theorem Fh{α:Type}{R1 R2:@s}{r:α}{f:α->D}:nS ((@aZ).map f) (@cc:Int)=some (f r):=by
 rw[i8 _ @c (by rw[ag];simp;lia)];simp
theorem GW(h:s∈@av):∃p∈@cF,@cP:=by
 cases zU h with
 | «at» R1 R2 A B x e hx=>
  subst e hx;refine⟨(A++x::B,R1.length),by rw[rh,vt];simp,?_⟩;unfold bK;rw[if_neg @i];simp
 |mt R1 R2 e hx=>
  subst e hx;refine⟨([],R1.length),by rw[rh,vt];simp,?_⟩;unfold bK;rw[if_pos rfl];simp
theorem Nk(d:ya rows)(h:s∈@av):∃(R1 R2:Rows) (r:@w) (k:Nat),rows=@aZ/\ie rows s=R1.length/\s∈bK r @cc/\(bK r @cc).idxOf s=k/\k<=r.length/\∀ps,lr s ps rows 0=R1++(r.take (k+1)++ps++r.drop (k+1))::R2:=by
 cases zU h with
 | «at» R1 R2 A B x e hx=>
  subst e hx;have hi:(bK (A++x::B) @cc).idxOf x.s=A.length:=by
   have nd:=d.row (r:=A++x::B) @i;have hn:x.s∉A.map T3.s:=λz=>by
    rw[aF,cT] at nd;exact nd.2.2 _ z _ aJ rfl
   unfold bK;rw[if_neg @i,aF,DI,if_neg hn,aq,zc];simp
  refine⟨R1,R2,A++x::B,A.length,rfl,wt d,by unfold bK;rw[if_neg @i];simp,hi,@L,λps=>?_⟩;rw[yA d];have e:A++x::B=(A++[x])++B:=@L
  have hl:A.length+1=(A++[x]).length:=@L
  rw[e,hl,Le,Li];simp
 |mt R1 R2 e hx=>
  subst e hx;refine⟨R1,R2,[],0,rfl,Lv d,by unfold bK;rw[if_pos rfl];simp,by unfold bK;rw[if_pos rfl];simp,aR _,λps=>?_⟩;rw[yy d];simp
theorem Z9(n d i:Nat):jm n d (some (i:Int))=min i n:=by
 show(if((i:Int)<0) then((i:Int)+(n:Int)).toNat else min (i:Int).toNat n)=_;rw[if_neg @c];simp
theorem Mx(xs:@s)(i:Nat):cut xs none (some (i:Int))=xs.take i:=by
 unfold cut;rw[Z9];show(xs.drop 0).take (min i xs.length-0)=_;rw[List.drop_zero,Tn];exact List.take_eq_take_iff.mpr @c
theorem Er(xs:@s)(i:Nat):cut xs (some (i:Int)) none=xs.drop i:=by
 unfold cut;rw[Z9];show(xs.drop (min i xs.length)).take (xs.length-min i xs.length)=_;rw[mh (by rw[cx];lia)];by_cases h:i<=xs.length
 .rw[yr h]
 .rw[Nat.min_eq_right @c,Pw @c,Pw @c]
def zi:fZ :=
 (bG (bx (aS ig (ah @g (ah @k aH))) (aI 3))
 (bG (bx (jV tQ @ah) (aI 4))
 (bG (bx (aM ik (mU vw sZ (aS oe (ah (aM fG @Y @A) (ah @A aH))) (ah @k aH)) @H) (aI 5))
 (bG (bx (aM ik (aM ik (vY (aM fG @Y @A) eO (jB (ak 5))) @y) (vY (aM fG @Y @A) (jB (ak 5)) eO)) (pR @Y @A))
 (bQ (cG @Y))))))
def jU:gM:=λds G Q _=>∃(rows:Rows) (s:T2) (d:D) (ps:@w),ds=[@aj,enc s,d]/\IsL G d (ps.map enc)/\(ya rows/\s∈@av/\rows.length<=500/\(∀r∈rows,r.length<=500)/\ps.length<=100)/\Q (enc (lr s ps rows 0)) G
theorem IC(ds)(G)(Q)(h:jU ds G Q @t):zi @p @B (aT 6 ds) G:=by
 obtain⟨rows,s,d,ps,rfl,hd,⟨dn,hs,hl,hr,hps⟩,q⟩:=h;obtain⟨R1,R2,r,k,e,es,hsr,hk,hkl,aew⟩:=Nk dn hs;rw[aew] at q;unfold zi;simp only[ends,aT,aq,aK,af,ao,aN,aA,aB,dO,bx,aS,ah,ak,aa,ae,aH,aI,au,ai,jV,aM,mU,dC,vY,eO,gR];refine⟨rows,s,rfl,⟨λr h=>by have:=hr r h;lia,GW hs⟩,?_⟩;rw[es];simp only[cG,aT,ends,bP,aM,yS,ak,jV,mU,ah,aH,bQ,Mt,cW,bx,aI,dC,b8,dN,c9,Ag,xK,xM,Mu,vP,pW,uD,tO,vY,gR,eO,cM,jA,aS,eC,eV,wZ,pH,pG,ju,jv,jw,kM,lq,qB,AJ,wX,AN,cU,iU,qA,ug,wW,nO,xO,uI,cZ,ly,oz,jI,gr,wg,AF,AE,true_and,and_true,qG,A1,fE,aO,iF,tm,A0,xk,aq,aK,aA,aB,aa,ae,ai,au,af,ao,aN,if_true,if_false,bI,a9,aj,dO,g6];refine Ir (IsL.enc rows) λp4 Vg=>?_;have l1:=eQ.new (o:=.lst (rows.map enc)) Vg;have g4:=ax (G:=G) (a:=p4) (o:=.lst (rows.map enc));generalize cJ G p4 (.lst (rows.map enc))=G1 at l1 g4 ⊢;subst e;have hrl:=hr r @i;refine fL (.ref g4) Fh ?_;refine⟨r,_,rfl,(show r.length<=1000 by lia),?_⟩;refine⟨trivial,Q5 @r hsr ?_⟩;rw[hk];simp only[eV,fE];have ek:((k:Nat):Int)+1=((k+1:Nat):Int):=@d
 rw[ek];refine fL (.ref g4) Fh ?_;refine sV (IsL.enc r) λp1 Vh=>?_;rw[Mx,<-OW];have l2:=eQ.new (o:=.lst ((r.take (k+1)).map enc)) Vh;refine mz (.ref ax) (hd.mono (l1.trans l2)) (zf (by simp only[ag,cf];lia)) λp2 nX=>?_;have l3:=eQ.new (o:=.lst ((r.take (k+1)).map enc++ps.map enc)) nX;refine fL (.ref (l3 _ _ (l2 _ _ g4))) Fh ?_;refine sV (IsL.enc r) λp3 zC=>?_;rw[Er,<-OX];have l4:=eQ.new (o:=.lst ((r.drop (k+1)).map enc)) zC;refine mz (.ref (l4 _ _ ax)) (.ref ax) (zf (by simp only[av,ag,cf,cx];lia)) λp5 hp5=>?_;have e5:(r.take (k+1)).map enc++ps.map enc++(r.drop (k+1)).map enc=(r.take (k+1)++ps++r.drop (k+1)).map (enc (α:=T3)):=@L
 rw[e5];generalize r.take (k+1)++ps++r.drop (k+1)=r' at q ⊢;have l5:=eQ.new (o:=.lst (r'.map enc)) hp5;have g5:=ax (G:=cJ (cJ (cJ G1 p1 (.lst ((r.take (k+1)).map enc))) p2 (.lst ((r.take (k+1)).map enc++ps.map enc))) p3 (.lst ((r.drop (k+1)).map enc))) (a:=p5) (o:=.lst (r'.map enc));have l15:=((l2.trans l3).trans l4).trans l5;have iV:p5≠p4:=by
  ext d;rw[((l2.trans l3).trans l4) _ _ g4] at hp5;cases hp5
 have hf5:G p5=none:=(l1.trans ((l2.trans l3).trans l4)).free hp5;generalize cJ (cJ (cJ (cJ G1 p1 (.lst ((r.take (k+1)).map enc))) p2 (.lst ((r.take (k+1)).map enc++ps.map enc))) p3 (.lst ((r.drop (k+1)).map enc))) p5 (.lst (r'.map enc))=G5 at l15 g5 ⊢;simp only[pR,ak,ae,aa,bQ,cG];unfold zh;simp only[l15 _ _ g4];have ei:D8 ((@aZ).map (enc (α:=@w))).length (@cc:Int)=some R1.length:=by
  unfold D8;rw[if_pos @c,if_pos (by rw[ag];simp;lia)];simp
 simp only[ei];have e6:((@aZ).map enc).set R1.length (.ref p5)=R1.map enc++D.ref p5::R2.map enc:=by
  rw[aF,aq];have:R1.length=(R1.map (enc (α:=@w))).length:=by rw[ag]
  rw[this,List.set_append_right _ _ @X];simp
 rw[e6];have hle:eQ G (cJ G5 p4 (.lst (R1.map enc++D.ref p5::R2.map enc))):=(l1.trans l15).put Vg;have q':Q (.dg (R1.map enc++D.dg (r'.map enc)::R2.map enc)) G:=by
  have:(enc (R1++r'::R2):D)=.dg (R1.map enc++D.dg (r'.map enc)::R2.map enc):=by rw[R3,aF];rfl
  rw[<-this];exact q
 refine qH hle Vg ax (Vn (y8.same _) (.cons (.ref ?_ ?_ (y8.same _)) (y8.same _))) q'
 .rw[cL iV];exact g5
 .simp[hf5]
theorem aah{α:Type} [@W] [@ai]{neg:Bool}{x:α}{xs:@s}{d:D}{G:Gp}{Q:DK}(hd:Enc.dep α<=7)(h:IsL G d @aY)(q:Q (.bl (if neg then !decide (x∈xs) else decide (x∈xs))) G):CS neg (enc x) d G Q:=by
 ext v
 .exact LI hd q
 .exact AM hd e q
def wH:fZ :=
 (bG (bx (c9 aH) (aI 2))
 (bG (fy (hZ @g) (aI 3) (cW (mU vw gb @y (ah (cG (eC 1 [1] (hZ @A) (aI 0) (some (eW (aM (CS true) @cI @k))) @g)) aH))))
 (bQ (cG (aS cg (ah (cG @y) aH))))))
def mq:gM:=λds G Q _=>∃(rows:Rows) (d:D) (ns:@u),ds=[@aj,d]/\IsL G d (ns.map enc)/\(rows.length<=500/\∀r∈rows,r.length<=500)/\∀p as G',HR G G' p as ((@a_).map bN)->Q (@V) G'
theorem F6(ds)(G)(Q)(h:mq ds G Q @t):wH @p @B (aT 4 ds) G:=by
 obtain⟨rows,d,ns,rfl,hd,⟨hl,hr⟩,q⟩:=h;unfold wH;simp only[ends,aT,aq,aK,af,ao,aN,aA,aB,dO,bx,c9,aH,aI,au,ai];refine⟨@f,@aN⟩;refine b6 (λτ G'=>@O/\G' p=some (.lst ((@a_).map enc))/\∃a,τ=[@G,@aM,@ax,a]) ?_ ?_
 .intro N hN;simp only[fy,cM,ak,aa];refine fu ?_;refine dZ (xs:=rows) (λpre τ G'=>@O/\G' p=some (.lst ((iQ ns pre).map enc))/\∃a,τ=[@G,@aM,@ax,a]) ⟨.new hp,ax,_,rfl⟩ @aQ ?_ ?_
  .rintro pre r post τ G' N2 e ⟨l,g,a,rfl⟩ l7;have hrl:=hr r (by rw[e];simp);have oX:pre.length<rows.length:=by have:=congrArg c7 e;simp at this;lia
   simp only[aI,cW,mU,ak,au,ai,ae,aa,gr,g,ah,cG,eC,aH,cZ,cM,true_and];refine fu ⟨zf (@aV),?_⟩;refine gH (xs:=r) (λpr acc τ G2=>G'=G2/\acc=(pr.filter @b8).map enc/\∃b,τ=[b,@aM]) ⟨rfl,rfl,_,rfl⟩ @cJ ?_ ?_
   .rintro pr t po acc τ G2 N3 e3 ⟨rfl,rfl,b,rfl⟩ oB;simp only[aI,nJ,ai,ak,aa,bP,aM,dC,ae,cU,Ah];refine aah (x:=t.a) @r (hd.mono l) ?_;simp only[if_true,aO];by_cases ht:t.a∈ns
    .simp only[ht,decide_true,bI,aj,if_false];exact oB _ _ _ ⟨rfl,by rw[bg];simp[ht],_,rfl⟩
    .simp only[ht,decide_false,a9,if_true];exact oB _ _ _ ⟨rfl,by rw[bg,aF];simp[ht,nJ],_,rfl⟩
   .rintro acc τ G2 ⟨rfl,rfl,b,rfl⟩ p2 nX;refine fM (xs:=r.filter @b8) (.new nX) nX ax ?_;simp only[g];refine⟨uO (by rw[ag];unfold iQ;rw[ag];lia),l7 _ _ ⟨l.put hp,?_,_,rfl⟩⟩;rw[ax];unfold iQ;rw[aF,aF];rfl
  .rintro τ G' ⟨l,g,a,rfl⟩;exact hN _ _ ⟨l,g,a,rfl⟩
 .rintro _ G' ⟨l,g,a,rfl⟩;simp only[bQ,cG,aS,ah,ak,ae,aa,aH];refine fM (xs:=@a_) l hp g ?_;refine⟨@a_,rfl,⟨by unfold iQ;rw[ag];lia,λr h=>?_⟩,λp' as G2 hr2=>cp (q p' as G2 hr2)⟩;obtain⟨r',Oc,rfl⟩:=@c_;have:=hr r' Oc;have h2:=cI (λp:T3=>!decide (p.a∈ns)) r';lia
end Mo
namespace K3
open K2.P K2.rN
theorem Na(h:rows≠[])(k):Bs rows k≠[]:=by
 cases rows with
 |nil=>exact absurd rfl h
 |cons r rs=>
  rw[Bs];intro z;have:=(List.append_eq_nil_iff.mp z).1;rw[List.map_eq_nil_iff] at this;unfold bK at this;split at this
  .cases this
  .rename_i h0;exact h0 (List.map_eq_nil_iff.mp this)
end K3
namespace JT
open K2.P K2.J K2.JB
open K2.JE (yx MB AI uf)
open K2.Mo (lr ya zU yA yy wt Lv jU Mx Er Q5 Fh GW)
open K2.rf (bN)
open K2.Gd (lu dB iO)
theorem abD{neg:Bool}{r:@w}{p:Nat}{G:Gp}{Q:DK}(g:G p=some (.lst []))(q:Q (.bl (if neg then !decide (r=[]) else decide (r=[]))) G):l6 neg (enc r) (@V) G Q:=by
 refine⟨.dg (@bN),.dg [],sJ _ 7 @r r,.ref g .zV,?_⟩;have e:iq (.dg (@bN)) (.dg [])=decide (r=[]):=by cases r<;>rfl
 rw[e];cases neg<;>exact q
theorem M5{α:Type}{l:@s}{x:α}(h:l[i]?=@ak):l.take (i+1)=l.take i++[x]:=by
 rw[List.take_add_one,h];rfl
noncomputable def nul(r:@w)(k:Nat):List T2:=if r=[] then [⟨(k:Int),2⟩] else []
theorem Wb(h:r=[]):nul r k=[⟨(k:Int),2⟩]:=if_pos h
theorem QG(h:r≠[]):nul r k=[]:=if_neg h
def wN:fZ :=
 (bG (bx (c9 aH) (aI 1))
 (bG (fy (vc (jV nP @ah)) (aI 2) (bG (du (eW (aM @aq (aM fG @g @y) (c9 aH))) (cW (mU vw gb @k (ah (dN (ah @y (ah @ad aH))) aH))) b8)
 (fy (hZ (aM fG @g @y)) (aI 3) (cW (mU vw gb @k (ah (dN (ah (aM fG @A @as) (ah (aM fG @A @H) aH))) aH))))))
 (bQ (cG @k))))
def i3:gM:=TV Dr λrows=>@av
theorem xX(ds)(G)(Q)(h:i3 ds G Q @t):wN @p @B (aT 4 ds) G:=by
 obtain⟨rows,rfl,dr,q⟩:=h;have dr:@n:=dr;have gJ:=dr.gJ;have sl:=yv dr;have str:=dr.str;unfold wN;simp only[↓dO,bx,c9,aH,↓ao,aI,ends,aT,↓aq,↓aK,↓af,aN,↓aA,↓aB,↓au,↓ai];refine⟨@f,λd hd=>?_⟩;refine b6 (λτ G'=>(∃a b,τ=[@G,@cq,a,b])/\@O/\G' d=some (.lst ((@av).map enc))) ?_ ?_
 .intro N hN;simp![fy,jV,ah,ak,aH];refine MB ?_;simp only[↓iF];refine⟨@d,@d,?_⟩;rw[dw,AI];refine dZ (xs:=cR rows.length) (f:=λk:Nat=>D.int (k:Int)) (λks τ G'=>(∃a b,τ=[@G,@cq,a,b])/\@O/\G' d=some (.lst ((bL (rows.take ks.length) 0).map enc))) ⟨@b1,.new hd,ax⟩ @aQ ?_ ?_
  .rintro ks k post τ G1 N2 e ⟨⟨a1,a2,rfl⟩,l1,gd1⟩ l7;obtain⟨ek,hk⟩:=uf e;subst ek;obtain⟨r,hr⟩:∃r,rows[ks.length]?=@am:=⟨_,az hk⟩;have esp:bL (rows.take (ks.length+1)) 0=bL (rows.take ks.length) 0++bK r (ks.length:Int):=by
    rw[M5 hr,qw,bL,bL,bC,cf,yr @c,jJ]
   have ad3:(bL (rows.take ks.length) 0).length+(bK r (ks.length:Int)).length<=27:=by
    have:=qw (rows.take (ks.length+1)) (rows.drop (ks.length+1)) 0;rw[cw] at this;rw[this,av,esp,av] at sl;lia
   rw[show(ks++[ks.length]).length=ks.length+1 by simp] at l7;rw[esp] at l7;generalize bL (rows.take ks.length) 0=L at *;simp only[aI,↓au,↓ai];refine b6 (λτ G'=>(∃b,τ=[@G,@cq,some (.int (ks.length:Int)),b])/\@O/\G' d=some (.lst ((L++nul r ks.length).map enc))) ?_ ?_
   .intro N3 oB;simp![du,aM,ak,c9,aH,cW,mU,ah,dN,dC,b8];refine yx hr ⟨@f,λp hp=>abD ax ?_⟩;have npd:d≠p:=by ext d;rw[gd1] at hp;cases hp
    by_cases c:r=[]
    .simp![c,decide_true,cL npd,gd1];refine⟨@f,uO (@aV),oB _ _ ⟨@S,(l1.trans @a4).put hd,?_⟩⟩;rw[ax,Wb c,aF];rfl
    .simp![c,decide_false];refine oB _ _ ⟨@S,l1.trans @a4,?_⟩;rw[QG c,bC,cL npd];exact gd1
   .rintro _ G3 ⟨⟨b,rfl⟩,l3,YJ⟩;simp![fy,aM,ak];refine yx hr (fu ?_);refine dZ (xs:=r) (λpp τ G'=>(∃b,τ=[@G,@cq,some (.int (ks.length:Int)),b])/\@O/\G' d=some (.lst (((L++nul r ks.length)++pp.map T3.s).map enc))) ⟨@S,l3,by rw[aK,bC];exact YJ⟩ @aQ ?_ ?_
    .rintro pp t pt τ G4 N4 e4 ⟨⟨b,rfl⟩,l4,YI⟩ hN4;have iV:r≠[]:=by rw[e4];simp
     have eo:bK r (ks.length:Int)=r.map T3.s:=by unfold bK;rw[if_neg iV]
     have hl4:((L++nul r ks.length)++pp.map T3.s).length<=1000:=by
      rw[QG iV,bC];rw[eo,ag] at ad3;have:=congrArg c7 e4;rw[av,af] at this;rw[av,ag];lia
     simp![aI,cW,mU,ak,nJ,YI,ah,dN,aM,dC,Ah,MH,aH];refine⟨@f,uO (by rw[ag];exact hl4),hN4 _ _ ⟨@S,l4.put hd,?_⟩⟩;rw[ax,aF (l₁:=pp),<-bp,aF (l₁:=(L++nul r ks.length)++pp.map T3.s)];rfl
    .rintro τ G4 ⟨⟨b,rfl⟩,l4,YI⟩;refine l7 _ _ ⟨@b1,l4,?_⟩;rw[YI];unfold bK;by_cases c:r=[]
     .rw[if_pos c,Wb c,c,aK,bC]
     .rw[if_neg c,QG c,bC]
  .rintro τ G' ⟨⟨a,b,rfl⟩,l,gd⟩;refine hN _ _ ⟨@b1,l,?_⟩;rw[iE,Gj] at gd;exact gd
 .rintro _ G' ⟨⟨a,b,rfl⟩,l,gd⟩;simp![bQ,cG,ak];exact fM l hd gd q
end JT
namespace Mo
open K2.P
open K2.rf (bN)
open K2.vn (mS Ro lj pA)
open K2.yj (iN qy pB qz fD gh gV cj)
theorem iJ.begun(h:iJ (M++[x]) (A++x::B))(nd:((A++x::B).map T3.s).Nodup):M=B++A:=by
 have h1:iJ (x::M) (A++x::B):=iJ.trans (iJ.app [x] M) h;have h2:iJ (x::(B++A)) (A++x::B):=iJ.of (u:=x::B) (v:=A) @i @i;have e:=(h1.uniq nd).symm.trans (h2.uniq nd);injection e
theorem P7(h:iJ r x):Ro (@aZ) (R1++x::R2):=by
 induction R1 with
 |nil=>exact .cons h (fD R2)
 |cons a R1 ih=>exact .cons (show iJ a a from .refl a) ih
theorem Vp(h1:∀p∈R1.flatten,p.a∉ns)(h2:∀p∈R2.flatten,p.a∉ns):iQ ns (@aZ)=R1++r.filter (@b8)::R2:=by
 have go:∀R:Rows,(∀p∈R.flatten,p.a∉ns)->R.map (IM @b8)=R:=λR h=>by
  have:R.map (IM @b8)=R.map id:=eD λr hr=>uA λp hp=>h p (List.mem_flatten.mpr ⟨r,hr,hp⟩);rw[this,uW]
 unfold iQ;rw[aF,aq,go R1 h1,go R2 h2]
theorem QK(nd:((@aZ).flatten.map T3.s).Nodup):(∀p∈R1.flatten,∀q∈r,p.s≠q.s)/\∀p∈R2.flatten,∀q∈r,p.s≠q.s:=by
 rw[dG,aF,aF] at nd;have n1:=List.nodup_append.mp nd;have n2:=List.nodup_append.mp n1.2.1;exact⟨λp hp q hq e=>n1.2.2 _ (@dt) _ (bM _ (List.mem_map.mpr ⟨q,hq,e.symm⟩)) rfl,λp hp q hq e=>n2.2.2 _ (List.mem_map.mpr ⟨q,hq,rfl⟩) _ (List.mem_map.mpr ⟨p,hp,e⟩) rfl⟩
theorem YX(d:ya rows):ya (@a_):=by
 have sub:∀rows:Rows,(@a_).flatten=rows.flatten.filter (@b8):=by
  intro rows;induction rows with
  |nil=>rfl
  |cons r rows ih=>
   show(r.filter _++(@a_).flatten)=_;rw[ih,aX,bg]
 refine⟨?_,@aN⟩
 .rw[sub];exact List.Nodup.sublist ((List.filter_sublist).map _) d.nd
 .rw[sub] at hp;exact d.way p (List.mem_filter.mp hp).1
theorem QE(d:ya (@aZ))(ro:iJ (⟨n,f,h⟩::⟨n,1-f,h⟩::M) r)(hf:f=0\/f=1):(∀p∈R1.flatten,p.a∉[n])/\∀p∈R2.flatten,p.a∉[n]:=by
 have nm:=QK d.nd;have y1:(⟨n,f,h⟩:T3)∈r:=ro.perm.mem_iff.mpr aJ;have y2:(⟨n,1-f,h⟩:T3)∈r:=ro.perm.mem_iff.mpr (aC _ aJ);have go:∀p:T3,(p.b=0\/p.b=1)->(∀q∈r,p.s≠q.s)->p.a∉[n]:=λp hb hq z=>by
  have z:=List.mem_singleton.mp z;have:p.b=f\/p.b=1-f:=@d
  rcases this with e |e
  .exact hq _ y1 (show(⟨p.a,p.b⟩:T2)=⟨n,f⟩ by rw[z,e])
  .exact hq _ y2 (show(⟨p.a,p.b⟩:T2)=⟨n,1-f⟩ by rw[z,e])
 exact⟨λp hp=>go p (d.way p (by rw[dG];simp[hp])) (nm.1 p hp),λp hp=>go p (d.way p (by rw[dG];simp[hp])) (nm.2 p hp)⟩
theorem Y3(d:ya rows)(c:Cu rows n s ⟨n,f,h⟩ ⟨n,1-f,h⟩)(hf:f=0\/f=1):s∈bL (iQ [n] rows) 0/\Ro (lr s (cps n f h) (iQ [n] rows) 0) rows:=by
 obtain⟨R1,R2,r,M,e,ro,hM,hn⟩:=c.ex;subst e;obtain⟨o1,o2⟩:=QE d ro hf;have dF:=YX (ns:=[n]) d;rw[Vp o1 o2] at dF ⊢;have roF:iJ M (r.filter λp=>!decide (p.a∈[n])):=by
  have h1:=ro.abC (f:=λp:T3=>!decide (p.a∈[n]));have e1:(⟨n,f,h⟩::⟨n,1-f,h⟩::M:@w).filter (λp=>!decide (p.a∈[n]))=M:=by
   rw[OY @i,OY @i];exact uA λp hp z=>hn p hp (List.mem_singleton.mp z)
  rw[e1] at h1;exact h1
 generalize r.filter (λp=>!decide (p.a∈[n]))=r' at roF dF ⊢;rcases hM with ⟨rfl,hs⟩ |⟨M',x,rfl,hs⟩
 .rw[roF.nil] at dF ⊢;refine⟨?_,?_⟩
  .rw[qw,bL,hs];unfold bK;simp
  .rw[hs,yy dF];exact P7 ro
 .have hx:x∈r':=roF.perm.mem_iff.mpr @i;obtain⟨A,B,rfl⟩:=e7 hx;subst hs;refine⟨Ju (by rw[dG];simp),?_⟩;rw[yA dF];have eM:=roF.begun (dF.row @i);subst eM;refine P7 (iJ.trans ?_ ro);exact .of (u:=A++[x]) (v:=⟨n,f,h⟩::⟨n,1-f,h⟩::B) (by simp[cps]) @i
end Mo
namespace Mo
open K2.P hiding aU
open K2.rf (bN)
open K2.rN (HR)
open K2.vn (mS Ro)
open K2.yj (cg fD)
theorem xn(h:HR G1 G' p as rs)(l:eQ G G1):HR G G' p as rs :=
 ⟨l.trans h.le,l.free h.fp,h.gp,h.np,h.nd,λa ha=>l.free (h.fr a ha),h.len,h.at'⟩
theorem tK(d:@n):rows.length<=500/\(∀r∈rows,r.length<=500)/\@dj:=by
 have:=d.gJ;have h3:=d.str;refine⟨@d,λr hr=>?_,@d⟩;have:=rN.lB hr;lia
structure UnF(rows:Rows)(n:Int)(v0 v1:T2):Prop where
 len:@dj
 nm:n∈@l
 h0:fi @aw @a1=some v0
 h1:fi @aw @ba=some v1
 ft:v0=@ba\/v1=@a1
def pD:fZ :=
 (bG (cW (aS gP (ah @k (ah (c9 (ah (c6 ["Uncurl"] "name" @g) aH)) aH))))
 (cW (aS iA (ah (aS j5 (ah @k (ah (c6 ["Uncurl"] "name" @g) aH))) aH))))
def i5:gM:=λds G Q _=>∃(p:Nat) (n:Int) (rows:Rows) (v0 v1:T2),ds=[@V,@aj]/\Tc G p (.un n)/\UnF rows n v0 v1/\∀G',@O->Q .cY G'
theorem yZ(ds)(G)(Q)(h:i5 ds G Q @t):pD @p @B (aT 2 ds) G:=by
 obtain⟨p,n,rows,v0,v1,rfl,g,u,q⟩:=h;have hlen:=u.len;unfold pD;simp only[ends,aT,aq,aK,af,ao,aA,aB,g6,cW,aS,ah,ak,ae,aa,c9,c6,aH];refine at_ g ⟨@f,λpl oX=>?_⟩;refine⟨rows,_,[n],rfl,.ref ax,⟨u.len,λm hm=>by rw[List.mem_singleton.mp hm];exact u.nm⟩,λG1 l1=>?_⟩;have L:=(eQ.new oX).trans l1;refine at_ (L _ _ g) ?_;refine⟨rows,n,v0,v1,rfl,⟨@d,u.h0,u.h1⟩,_,rfl,?_,q _ L⟩;rw[dP,decide_eq_true_iff,decide_eq_true_iff];exact u.ft
def sT:fZ :=
 (bG (cW (iW [("Uncurl",i5)] "refuse" @g (ah @k aH)))
 (bQ (cG (aS mq (ah @k (ah (c9 (ah (c6 ["Uncurl"] "name" @g) aH)) aH))))))
def iT:gM:=λds G Q _=>∃(p:Nat) (n:Int) (rows:Rows) (v0 v1:T2),ds=[@V,@aj]/\Tc G p (.un n)/\(UnF rows n v0 v1/\rows.length<=500)/\∀q as G',HR G G' q as ((iQ [n] rows).map bN)->Q (.ref q) G'
theorem CF(ds)(G)(Q)(h:iT ds G Q @t):sT @p @B (aT 2 ds) G:=by
 obtain⟨p,n,rows,v0,v1,rfl,g,⟨u,hl⟩,q⟩:=h;have hlen:=u.len;unfold sT;simp only[ends,aT,aq,aK,af,ao,aA,aB,g6,cW,iW,ak,aa,ah,ae,aH,bQ,cG,aS,c9,c6];refine⟨p,_,_,i5,rfl,g,@dA,rfl,⟨p,n,rows,v0,v1,rfl,g,u,λG1 l1=>?_⟩⟩;refine at_ (l1 _ _ g) ⟨@f,λpl oX=>?_⟩;refine⟨rows,_,[n],rfl,.ref ax,⟨hl,λr hr=>by have:=rN.lB hr;lia⟩,λp' as G' hr=>cp (q p' as G' (xn hr (l1.trans (.new oX))))⟩
theorem Y2(d:@n)(hf:f=0\/f=1)(c:Cu rows n s ⟨n,f,h⟩ ⟨n,1-f,h⟩):∃v0 v1,UnF rows n v0 v1:=by
 obtain⟨R1,R2,r,M,e,ro,hM,hn⟩:=c.ex;subst e;have nx1:=kj d ro;have y1:(⟨n,f,h⟩:T3)∈r:=ro.perm.mem_iff.mpr aJ;have y2:(⟨n,1-f,h⟩:T3)∈r:=ro.perm.mem_iff.mpr (aC _ aJ);have iny:(⟨n,f,h⟩:T3)∈(@aZ).flatten:=by rw[dG];simp[y1]
 have inz:(⟨n,1-f,h⟩:T3)∈(@aZ).flatten:=by rw[dG];simp[y2]
 obtain⟨w,hw,_⟩:=Rz inz;have nx2:=(JW d hw).1;rw[<-w6 d] at nx2;have hlen:=(tK d).2.2;rcases hf with rfl |rfl
 .exact⟨_,_,hlen,bX.mpr ⟨_,iny,rfl,rfl⟩,nx1,nx2,@I⟩
 .exact⟨_,_,hlen,bX.mpr ⟨_,inz,rfl,rfl⟩,nx2,nx1,@a0⟩
end Mo
namespace Mo
open K2.P
open K2.rf (bN)
open K2.vn (mS Ro lj pA)
open K2.yj (iN qy pB qz fD gh gV cj)
structure Pr(rows:Rows)(s:T2)(y z:T3):Prop where
 ex:∃(R1 R2:Rows) (r M:@w),rows=@aZ/\iJ (y::z::M) r/\((M=[]/\s=⟨@cc,2⟩)\/∃M' x,M=M'++[x]/\x.s=s)
theorem Xl(h:iJ L r)(nd:(r.map T3.s).Nodup):(L.map T3.s).Nodup:=((h.perm.map T3.s).nodup_iff).mp nd
theorem DU(d:ya rows)(e:rows=@aZ)(ro:iJ (y::z::M) r):(∀p∈R1.flatten,p.s∉[y.s,z.s])/\(∀p∈R2.flatten,p.s∉[y.s,z.s])/\(∀p∈M,p.s∉[y.s,z.s])/\y.s≠z.s:=by
 subst e;have nm:=QK d.nd;have y1:y∈r:=ro.perm.mem_iff.mpr aJ;have y2:z∈r:=ro.perm.mem_iff.mpr (aC _ aJ);have nd:=Xl ro (d.row @i);rw[aq,aq,bT,bT] at nd;have two:∀(p:T3),p.s≠y.s->p.s≠z.s->p.s∉[y.s,z.s]:=λp h1 h2 h=>by
  rcases @dh with h |h
  .exact h1 h
  .exact h2 (List.mem_singleton.mp h)
 refine⟨λp hp=>two p (nm.1 p hp y y1) (nm.1 p hp z y2),λp hp=>two p (nm.2 p hp y y1) (nm.2 p hp z y2),λp hp=>two p (λh=>nd.1 (aC _ (List.mem_map.mpr ⟨p,hp,h⟩))) (λh=>nd.2.1 (List.mem_map.mpr ⟨p,hp,h⟩)),λh=>nd.1 (by rw[h];exact aJ)⟩
theorem Qj(d:ya rows)(hs:s∈@av):Pr (lr s [y,z] rows 0) s y z:=by
 cases zU hs with
 | «at» R1 R2 A B x e hx=>
  subst e hx;rw[yA d];exact⟨_,_,_,B++(A++[x]),rfl,.of (u:=y::z::B) (v:=A++[x]) @i @i,.inr ⟨B++A,x,@L,rfl⟩⟩
 |mt R1 R2 e hx=>
  subst e hx;rw[yy d];exact⟨_,_,_,[],rfl,.refl _,.inl @ao⟩
theorem Hg(h:Ro (@aZ) b):∃Zn r' ZS,b=Zn++r'::ZS/\iJ r r'/\Zn.length=R1.length:=by
 induction R1 generalizing b with
 |nil=>cases h with |cons q h=>exact⟨[],_,_,rfl,q,rfl⟩
 | cons a R1 ih=>
  cases h with
  |cons q h=>
   obtain⟨Zn,r',ZS,rfl,hr,hl⟩:=ih h;exact⟨_::Zn,r',ZS,rfl,hr,by rw[af,af,hl]⟩
theorem Pr.ro(c:Pr a s y z)(h:Ro a b):Pr b s y z:=by
 obtain⟨R1,R2,r,M,e,ro,hM⟩:=c.ex;subst e;obtain⟨Zn,r',ZS,rfl,hr,hl⟩:=Hg h;refine⟨Zn,ZS,r',M,rfl,ro.trans hr,?_⟩;rw[hl];exact hM
theorem JM(ro:iJ (y::z::M) r):∃s,Pr (@aZ) s y z:=by
 rcases List.eq_nil_or_concat M with rfl |⟨M',x,rfl⟩
 .exact⟨_,R1,R2,r,[],rfl,ro,.inl @ao⟩
 .exact⟨_,R1,R2,r,M'.concat x,rfl,ro,.inr ⟨M',x,@L,rfl⟩⟩
theorem Np(R1 R2)(r):lr s ps (@aZ) 0=lr s ps R1 0++jh s ps R1.length r::lr s ps R2 (R1.length+1):=by
 rw[w4,lr];simp
theorem Ur(c:Pr rows s y z)(hu:u≠y.s)(hk:OkS u rows 0):∃s',Pr (lr u ps rows 0) s' y z:=by
 obtain⟨R1,R2,r,M,e,ro,_⟩:=c.ex;subst e;rw[Np];have iV:u≠⟨@cc,2⟩:=λz0=>by
  have:=hk R1.length r @i (by rw[z0];simp);ext c;have:=ro.perm;exact absurd this.symm.eq_nil @i
 have aes:jh u ps R1.length r=r.flatMap (JN u ps):=by unfold jh;rw[if_neg iV,aB]
 rw[aes];have h2:=ro.flat (f:=JN u ps);have e1:(y::z::M).flatMap (JN u ps)=y::z::((if z.s=u then ps else [])++M.flatMap (JN u ps)):=by
  rw[cz,cz];unfold JN;rw[if_neg λq=>hu q.symm];split<;>simp
 rw[e1] at h2;exact JM h2
theorem Mg{ns:@u}(hp:∀p∈ps,p.a∈ns):∀{r:@w},(r.flatMap (JN s ps)).filter (@b8)=r.filter (@b8)
 |[]=>rfl
 |a::r=>by
  rw[cz,bg,Mg hp,show a::r=[a]++r from rfl,bg];congr 1;unfold JN;split
  .rw[show a::ps=[a]++ps from rfl,bg,xG hp,bC]
  .rfl
theorem Cg(hp:∀p∈ps,p.a∈ns):∀{rows:Rows} {k:Nat},iQ ns (lr s ps rows k)=@a_
 |[],_=>rfl
 |r::rows,k=>by
  show(jh s ps k r).filter _::iQ ns (lr s ps rows (k+1))=r.filter _::@a_;rw[Cg hp];unfold jh;rw[bg,Mg hp];congr 1;split
  .rw[xG hp];rfl
  .rfl
theorem YM(h:∀p∈rows.flatten,p.a∉ns):@a_=rows:=by
 unfold iQ;have:rows.map (IM @b8)=rows.map id:=eD λr hr=>uA λp hp=>h p (List.mem_flatten.mpr ⟨r,hr,hp⟩);rw[this,uW]
end Mo
namespace Mo
open K2.P
open K2.rf (bN)
open K2.vn (mS Ro lj pA)
open K2.yj (iN qy pB qz fD gh gV cj)
open K2.K3 (DF)
noncomputable def AW(a b w h:Int):@w:=[⟨a,w,h⟩,⟨b,w,-h⟩]
def Gu(a b t h:Int):@w:=if t=0 then AW a b 1 h else [⟨b,1,-h⟩,⟨a,1,h⟩]
theorem BQ(a b t h):(Gu a b t h).Perm (AW a b 1 h):=by
 unfold Gu AW;split
 .exact .refl _
 .exact .swap _ _ _
structure OQ(rows:Rows)(a b:Int)(o u:T2)(t h:Int):Prop where
 d:@n
 gJ:@dH
 ne:a≠b
 fa:∀p∈rows.flatten,p.a≠a
 fb:∀p∈rows.flatten,p.a≠b
 ho:o∈@av
 hu:u∈bL (lr o (AW a b 0 h) rows 0) 0
 hn:u≠@bb
 ht:t=0\/t=1
 hh:h=1\/h=-1
def MW(rows:Rows)(a b:Int)(o:T2)(h:Int):Rows:=lr o (AW a b 0 h) rows 0
def raw(rows:Rows)(a b:Int)(o u:T2)(t h:Int):Rows:=lr u (Gu a b t h) (MW rows a b o h) 0
def laid(rows:Rows)(a b:Int)(o u:T2)(t h:Int):Rows:=(@dd).map bN
theorem yu(c:@cU):ya (MW rows a b o h):=by
 have pp:=kh (ps:=AW a b 0 h) c.d.dn (zU c.ho);have fr:∀(n:Int),(∀p∈rows.flatten,p.a≠n)->∀w:Int,(⟨n,w⟩:T2)∉@a7:=λn hn w z=>by
  obtain⟨p,hp,e⟩:=@c3;exact hn p hp (@cS)
 refine⟨?_,@aN⟩
 .show((lr o (AW a b 0 h) rows 0).flatten.map T3.s).Nodup;rw[(pp.map T3.s).nodup_iff,aF];show(@bb::⟨b,0⟩::@a7).Nodup;rw[bT,bT];refine⟨λz=>?_,fr b c.fb 0,c.d.nd⟩;rcases List.mem_cons.mp z with z |z
  .exact c.ne (congrArg T2.a z)
  .exact fr a c.fa 0 z
 .rcases List.mem_append.mp (pp.mem_iff.mp hp) with h |h
  .simp only[AW,bf,bH,or_false] at h;rcases h with rfl |rfl<;>exact @I
  .exact c.d.way p h
theorem Hj(c:@cU):(@dd).flatten.Perm (⟨b,1,-h⟩::⟨b,0,-h⟩::⟨a,1,h⟩::⟨a,0,h⟩::rows.flatten):=by
 have p1:=kh (ps:=AW a b 0 h) c.d.dn (zU c.ho);have p2:=kh (ps:=Gu a b t h) (yu c) (zU c.hu);refine p2.trans (((BQ a b t h).append p1).trans ?_);show(([⟨a,1,h⟩,⟨b,1,-h⟩]:@w)++(([⟨a,0,h⟩,⟨b,0,-h⟩]:@w)++rows.flatten)).Perm _;simp only[aA,aB];refine(lP _ _ _).trans (.cons _ ?_);refine(List.Perm.cons _ (lP _ _ _)).trans ?_;exact lP _ _ _
theorem JJ(c:@cU):Dr (@dd):=by
 have df:DF rows.flatten:=⟨c.d.nd,c.d.way,c.d.hand,c.d.rz⟩;have d1:=df.add (m:=a) (hd:=h) (λz=>by obtain⟨p,hp,e⟩:=@c3;exact c.fa p hp e) c.hh;have d2:=d1.add (m:=b) (hd:=-h) (λz=>by
  obtain⟨p,hp,e⟩:=@c3;rcases @cM with rfl |hp
  .exact c.ne e
  .rcases @cM with rfl |hp
   .exact c.ne e
   .exact c.fb p hp e) (by have:=c.hh;lia)
 have d3:=d2.perm (Hj c);have hf:=c.gJ;refine⟨d3.nd,d3.way,d3.hand,d3.rz,?_,?_⟩
 .rw[(Hj c).length_eq];simp only[af];lia
 .show (lr u (Gu a b t h) (lr o (AW a b 0 h) rows 0) 0).length<=3;rw[mB,mB];exact c.d.str
structure VN(rows:Rows)(a b h:Int):Prop where
 d:@n
 ne:a≠b
 hh:h=1\/h=-1
 ov:(∃s,Pr rows s ⟨a,0,h⟩ ⟨b,0,-h⟩)\/∃s,Pr rows s ⟨b,0,-h⟩ ⟨a,0,h⟩
 un:(∃s,Pr rows s ⟨a,1,h⟩ ⟨b,1,-h⟩)\/∃s,Pr rows s ⟨b,1,-h⟩ ⟨a,1,h⟩
theorem Xn(c:@cU):VN (@dd) a b h:=by
 have p1:Pr (MW rows a b o h) o ⟨a,0,h⟩ ⟨b,0,-h⟩:=Qj c.d.dn c.ho;have p2:=Ur (ps:=Gu a b t h) p1 c.hn (Ff (yu c) (zU c.hu));refine⟨JJ c,c.ne,c.hh,.inl p2,?_⟩;unfold raw;rcases c.ht with rfl |rfl
 .have e:Gu a b 0 h=[⟨a,1,h⟩,⟨b,1,-h⟩]:=rfl;rw[e];exact .inl ⟨u,Qj (yu c) c.hu⟩
 .have e:Gu a b 1 h=[⟨b,1,-h⟩,⟨a,1,h⟩]:=rfl;rw[e];exact .inr ⟨u,Qj (yu c) c.hu⟩
theorem VN.ro(c:VN x a b h)(r:Ro x y):VN y a b h :=
 ⟨c.d.ro r,c.ne,c.hh,c.ov.imp (λ⟨s,p⟩=>⟨s,p.ro r⟩) λ⟨s,p⟩=>⟨s,p.ro r⟩,c.un.imp (λ⟨s,p⟩=>⟨s,p.ro r⟩) λ⟨s,p⟩=>⟨s,p.ro r⟩⟩
theorem T7(c:@cU)(ns)(ha:a∈ns)(hb:b∈ns)(hn:∀n∈ns,n=a\/n=b):iQ ns (@dd)=rows:=by
 have h0:∀p∈AW a b 0 h,p.a∈ns:=λp hp=>by simp only[AW,bf,bH,or_false] at hp;rcases hp with rfl |rfl<;>assumption
 have h1:∀p∈Gu a b t h,p.a∈ns:=λp hp=>by
  have hp:=(BQ a b t h).mem_iff.mp hp;simp only[AW,bf,bH,or_false] at hp;rcases hp with rfl |rfl<;>assumption
 unfold raw MW;rw[Cg h1,Cg h0];exact YM λp hp z=>by
  rcases hn _ z with e |e
  .exact c.fa p hp e
  .exact c.fb p hp e
structure Lb(rows:Rows)(a b:Int)(F O:Int)(o u:T2)(t h:Int):Prop where
 nm:(F=a/\O=b)\/(F=b/\O=a)
 ht:t=0\/t=1
 hh:h=1\/h=-1
 ho:o∈bL (iQ [a,b] rows) 0
 hn:u≠⟨F,0⟩
 ex:∃Y,Ro (lr o (AW F O 0 h) (iQ [a,b] rows) 0) Y/\ya Y/\u∈bL Y 0/\Ro (lr u (Gu F O t h) Y 0) rows
end Mo
namespace IX
open K2.P hiding aU
open K2.Mo
open K2.rf (bN kn tP nu)
open K2.rN (HR)
open K2.vn (mS Ro)
open K2.yj (cg fD)
theorem Hb(r):(bN r).length=r.length:=(Bx r).perm.length_eq
end IX
namespace Mo
open K2.P hiding aU
open K2.rf (bN)
open K2.rN (HR)
open K2.vn (mS Ro)
open K2.yj (cg fD)
structure CuF(rows:Rows)(n:Int)(s:T2):Prop where
 d:@n
 gJ:rows.flatten.length<=22
 hs:s∈@av
 fr:∀p∈rows.flatten,p.a≠n
theorem NN(d:@n)(h:rows.flatten.length<=22):@bA<=11:=by
 have:=WH.twice d;lia
theorem zu(d:ya rows)(h:s∈@av):∀r∈lr s ps rows 0,r.length<=rows.flatten.length+ps.length:=λr hr=>by
 have h1:=rN.lB hr;rw[(kh (ps:=ps) d (zU h)).length_eq,av] at h1;lia
def wV:fZ :=
 (bG (cW (aS k8 (ah @k (ah (c9 (ah (c6 ["Curl"] "name" @g) aH)) aH))))
 (bG (bx (c9 (ah (dN (ah (c6 ["Curl"] "name" @g) (ah (c6 ["Curl"] "first" @g) (ah (c6 ["Curl"] "hand" @g) aH)))) (ah (dN (ah (c6 ["Curl"] "name" @g) (ah (aM BH @H (c6 ["Curl"] "first" @g)) (ah (c6 ["Curl"] "hand" @g) aH)))) aH))) (aI 2))
 (bQ (cG (aS cg (ah (aS jU (ah @k (ah (c6 ["Curl"] "spot" @g) (ah @y aH)))) aH))))))
def kd:gM:=λds G Q _=>∃(p:Nat) (n:Int) (s:T2) (f h:Int) (rows:Rows),ds=[@V,@aj]/\Tc G p (.cu n s f h)/\CuF rows n s/\∀q as G',HR G G' q as ((lr s (cps n f h) rows 0).map bN)->Q (.ref q) G'
theorem Gb(ds)(G)(Q)(h:kd ds G Q @t):wV @p @B (aT 3 ds) G:=by
 obtain⟨p,n,s,f,h,rows,rfl,g,c,q⟩:=h;obtain⟨Ma,Pa,hl3⟩:=tK c.d;have Vk:=c.gJ;unfold wV;simp only[ends,aT,aq,aK,af,ao,aN,aA,aB,g6,cW,aS,ah,ak,ae,aa,c9,c6,aH,dO,bx,dN,aM,dC,aI,bQ,cG,au,ai];refine at_ g ⟨@f,λpl oX=>?_⟩;refine⟨rows,_,[n],rfl,.ref ax,⟨hl3,by have:=NN c.d c.gJ;simp;lia,@L,λm hm z=>?_⟩,λG1 l1=>?_⟩
 .rw[List.mem_singleton.mp hm] at z;obtain⟨x,hx,_,e⟩:=bX.mp z;exact c.fr x hx e
 have L:=(eQ.new oX).trans l1;have g1:=L _ _ g;refine at_ g1 (at_ g1 (at_ g1 ⟨@f,at_ g1 (at_ g1 ?_)⟩));simp only[ju];refine at_ g1 ⟨@f,@f,λp2 nX=>?_⟩;have l2:=eQ.new (o:=.lst ((cps n f h).map enc)) nX;refine at_ (l2 _ _ g1) ?_;refine⟨rows,s,_,cps n f h,rfl,.ref ax,⟨c.d.dn,c.hs,Ma,Pa,by simp[cps]⟩,?_⟩;refine⟨_,rfl,⟨by rw[mB];lia,λr hr=>?_⟩,λq' as G' hr=>cp (q q' as G' (xn hr (L.trans l2)))⟩;have:=zu (ps:=cps n f h) c.d.dn c.hs r hr;rw[show(cps n f h).length=2 from rfl] at this;lia
end Mo
namespace Mo
open K2.P hiding aU
open K2.rf (bN)
open K2.rN (HR)
open K2.vn (mS Ro)
open K2.yj (cg fD cj)
def qT:fZ :=
 (bQ (cG (c9 (ah (dN (ah (c6 ["Lay"] "name" @g) (ah @k (ah (c6 ["Lay"] "hand" @g) aH)))) (ah (dN (ah (c6 ["Lay"] "second" @g) (ah @k (ah (yS Df (c6 ["Lay"] "hand" @g)) aH)))) aH)))))
def fJ:gM:=λds G Q _=>∃(p:Nat) (a b:Int) (o u:T2) (t h w:Int),ds=[@V,.int w]/\Tc G p (.la a b o u t h)/\∀q,G q=none->Q (.ref q) (cJ G q (.lst ((AW a b w h).map enc)))
theorem Av(ds)(G)(Q)(h:fJ ds G Q @t):qT @p @B (aT 2 ds) G:=by
 obtain⟨p,a,b,o,u,t,h,w,rfl,g,q⟩:=h;unfold qT;simp![bQ,cG,c9,ah,dN,c6,ak,aT,aH,yS,ends];refine at_ g (at_ g ⟨@f,at_ g (at_ g ?_)⟩);simp only[↓lq];exact⟨@f,@f,λq' Od=>cp (q q' Od)⟩
theorem TC(c:@cU):(MW rows a b o h).length<=500/\∀r∈MW rows a b o h,r.length<=500:=by
 have:=c.d.str;have:=c.gJ;refine⟨by unfold MW;rw[mB];lia,λr hr=>?_⟩;have:=zu (ps:=AW a b 0 h) c.d.dn c.ho r hr;rw[show(AW a b 0 h).length=2 from rfl] at this;lia
theorem T6(c:@cU):(@dd).length<=500/\∀r∈@dd,r.length<=500:=by
 obtain⟨h1,h2,_⟩:=tK (JJ c);exact⟨h1,h2⟩
theorem NM(d:@n)(h:@dH):@bA<=10:=by
 have:=WH.twice d;lia
def zt:fZ :=
 (bG (cW (aS k8 (ah @k (ah (c9 (ah (c6 ["Lay"] "name" @g) (ah (c6 ["Lay"] "second" @g) aH))) aH))))
 (bG (du (eW (aM @aq (c6 ["Lay"] "under" @g) (dN (ah (c6 ["Lay"] "name" @g) (ah @as aH))))) oT b8)
 (bG (bx (aS jU (ah @k (ah (c6 ["Lay"] "over" @g) (ah (iW [("Lay",fJ)] "passings" @g (ah @as aH)) aH)))) (aI 2))
 (bG (bx (dIf (eW (aM @aq (c6 ["Lay"] "turned" @g) @as)) (iW [("Lay",fJ)] "passings" @g (ah @H aH)) (Il (iW [("Lay",fJ)] "passings" @g (ah @H aH)) (jB (yS Df @H)))) (aI 3))
 (bQ (cG (aS cg (ah (aS jU (ah @y (ah (c6 ["Lay"] "under" @g) (ah @A aH)))) aH))))))))
def lh:gM:=λds G Q _=>∃(p:Nat) (a b:Int) (o u:T2) (t h:Int) (rows:Rows),ds=[@V,@aj]/\Tc G p (.la a b o u t h)/\@cU/\∀q as G',HR G G' q as (laid rows a b o u t h)->Q (.ref q) G'
theorem IH(ds)(G)(Q)(h:lh ds G Q @t):zt @p @B (aT 4 ds) G:=by
 obtain⟨p,a,b,o,u,t,h,rows,rfl,g,c,q⟩:=h;obtain⟨Ma,Pa,hl3⟩:=tK c.d;unfold zt;refine b6 (λτ G'=>@O/\τ=[@ax,@G,none,none]) ?_ ?_
 .intro N hN;simp![cW,aS,ah,ak,aT,aN,c9,c6,aH];refine at_ g (at_ g ⟨@f,λpl oX=>?_⟩);refine⟨rows,_,[a,b],rfl,.ref ax,⟨hl3,by have:=NM c.d c.gJ;simp;lia,by simp[c.ne],λm hm z=>?_⟩,λG1 l1=>hN _ _ ⟨(eQ.new oX).trans l1,rfl⟩⟩;obtain⟨x,hx,_,e⟩:=bX.mp z;simp only[bf,bH,or_false] at hm;rcases hm with rfl |rfl
  .exact c.fa x hx e
  .exact c.fb x hx e
 rintro _ G1 ⟨l1,rfl⟩;have g1:=l1 _ _ g;refine b6 (λτ G'=>G1=G'/\τ=[@ax,@G,none,none]) ?_ ?_
 .intro N hN;simp![du,aM,c6,ak,dN,ah,dC,aH,ends,b8];refine at_ g1 (at_ g1 ⟨@f,?_⟩);refine gx (x:=u) (y:=(@bb:T2)) @r ?_;rw[show decide (u=(@bb:T2))=false from decide_eq_false c.hn];simp!;exact hN _ _ @ao
 ext r;refine b6 (λτ G'=>@O/\τ=[@ax,@G,some (enc (MW rows a b o h)),none]) ?_ ?_
 .intro N hN;simp![bx,aS,ah,ak,c6,iW,dC,aH,aI];refine at_ g1 ⟨p,_,_,fJ,rfl,g1,@dA,rfl,⟨p,a,b,o,u,t,h,0,rfl,g1,λq2 IT=>?_⟩⟩;exact⟨rows,o,_,AW a b 0 h,rfl,.ref ax,⟨c.d.dn,c.ho,Ma,Pa,by simp[AW]⟩,hN _ _ ⟨l1.trans (.new IT),rfl⟩⟩
 clear g1 l1;rintro _ G1 ⟨l1,rfl⟩;have g1:=l1 _ _ g;refine b6 (λτ G'=>∃q3,@O/\G' q3=some (.lst ((Gu a b t h).map enc))/\τ=[@ax,@G,some (enc (MW rows a b o h)),some (.ref q3)]) ?_ ?_
 .intro N hN;simp![bx,dIf,aM,c6,ak,dC,iW,ah,aH,aI];refine at_ g1 ?_;refine gx (α:=Int) (x:=t) (y:=0) @r ?_;by_cases ht:t=0
  .rw[show decide (t=0)=true from decide_eq_true ht];simp!;refine⟨p,_,_,fJ,rfl,g1,@dA,rfl,⟨p,a,b,o,u,t,h,1,rfl,g1,λq2 IT=>hN _ _ ⟨q2,l1.trans (.new IT),?_,rfl⟩⟩⟩;unfold Gu;rw[if_pos ht];exact ax
  .rw[show decide (t=0)=false from decide_eq_false ht];simp![Il,iW,ak,ah,dC,aH,yS];refine⟨p,_,_,fJ,rfl,g1,@dA,rfl,⟨p,a,b,o,u,t,h,1,rfl,g1,λq2 IT=>?_⟩⟩;simp!;refine⟨rfl,_,_,ny (.ref ax),λq3 hq3=>hN _ _ ⟨q3,(l1.trans (.new IT)).trans (.new hq3),?_,rfl⟩⟩;unfold Gu;rw[if_neg ht];exact ax
 clear g1 l1;rintro _ G1 ⟨q3,l1,gq,rfl⟩;simp![bQ,cG,aS,ah,ak,c6,aH,ends];refine at_ (l1 _ _ g) ?_;obtain⟨u1,u2⟩:=TC c;refine⟨_,u,_,Gu a b t h,rfl,.ref gq,⟨yu c,c.hu,u1,u2,by rw[(BQ a b t h).length_eq];simp[AW]⟩,?_⟩;obtain⟨r1,r2⟩:=T6 c;exact⟨_,rfl,⟨cm r1 @r,λr hr=>cm (r2 r hr) @r⟩,λq' as G' hr=>cp (q q' as G' (xn hr l1))⟩
def vI(rows:Rows)(n:Int):Prop:=n∈@l/\∃p∈rows.flatten,p.a=n
def Qs(rows:Rows)(a b:Int)(rp rn rL rK:T2):Bool:=!decide (@bq=@cf)&&((decide (rp=⟨b,0⟩)||decide (rn=@bb))&&(decide (rL=⟨b,1⟩)||decide (rK=⟨a,1⟩)))
structure ZT(rows:Rows)(a b:Int)(rp rn rL rK:T2):Prop where
 len:@dj
 na:vI rows a
 nb:vI rows b
 h0:fi @aw @bb=some rp
 h1:fi @aw ⟨b,0⟩=some rn
 h2:fi @aw ⟨a,1⟩=some rL
 h3:fi @aw ⟨b,1⟩=some rK
def wK:fZ :=
 (bG (du (eW (aM @aq (aS fO (ah @g (ah @k aH))) (aS fO (ah @g (ah @y aH))))) (bQ (cG (dC (.bl false)))) b8)
 (bG (bx (aS kH @ah) (aI 3))
 (bQ (cG (Ep (aS jr (ah @A (ah (dN (ah @k (ah @as aH))) (ah (dN (ah @y (ah @as aH))) aH)))) (aS jr (ah @A (ah (dN (ah @k (ah @H aH))) (ah (dN (ah @y (ah @H aH))) aH)))))))))
def mw:gM:=λds G Q _=>∃(rows:Rows) (a b:Int) (rp rn rL rK:T2),ds=[@aj,@aB,.int b]/\ZT rows a b rp rn rL rK/\Q (.bl (Qs rows a b rp rn rL rK)) G
theorem F8(ds)(G)(Q)(h:mw ds G Q @t):wK @p @B (aT 4 ds) G:=by
 obtain⟨rows,a,b,rp,rn,rL,rK,rfl,c,q⟩:=h;have hl:=c.len;unfold wK;refine b6 (λτ G'=>G=G'/\@bq≠@cf/\τ=[@G,some (@aB),some (.int b),none]) ?_ ?_
 .intro N hN;simp![du,aM,aS,ah,ak,aT,aN,aH,bQ,cG,dC,ends,b8];refine⟨rows,a,rfl,⟨@d,c.na.2⟩,rows,b,rfl,⟨@d,c.nb.2⟩,?_⟩;refine gx (α:=Int) @r ?_;by_cases h:@bq=@cf
  .rw[show decide (@bq=@cf)=true from decide_eq_true h];simp!;unfold Qs at q;rw[decide_eq_true h] at q;exact cp q
  .rw[show decide (@bq=@cf)=false from decide_eq_false h];simp!;exact hN _ _ ⟨rfl,h,rfl⟩
 rintro _ _ ⟨rfl,iV,rfl⟩;unfold Qs at q;rw[decide_eq_false iV,a9,jR] at q;simp![bx,aS,ah,ak,aH,aI,bQ,cG,dN,dC,ends];refine⟨rows,rfl,@d,⟨@f,@f,_,@bb,⟨b,0⟩,rp,rn,rfl,⟨c.h0,c.h1⟩,?_⟩⟩;cases hb:(decide (rp=(⟨b,0⟩:T2))||decide (rn=(@bb:T2))) with
 |false=>
  rw[hb] at q;ext o;exact cp q
 |true=>
  rw[hb,jR] at q;simp only[↓aO,↓if_true];exact⟨@f,@f,_,⟨a,1⟩,⟨b,1⟩,rL,rK,rfl,⟨c.h2,c.h3⟩,cp q⟩
end Mo
namespace Mo
open K2.P hiding aU
open K2.rf (bN)
open K2.rN (HR)
open K2.vn (mS Ro)
open K2.yj (cg fD cj)
def sU:fZ :=
 (bG (cW (aS gP (ah @k (ah (c9 (ah (c6 ["Part"] "name" @g) (ah (c6 ["Part"] "second" @g) aH))) aH))))
 (cW (aS iA (ah (aS mw (ah @k (ah (c6 ["Part"] "name" @g) (ah (c6 ["Part"] "second" @g) aH)))) aH))))
def j9:gM:=λds G Q _=>∃(p:Nat) (a b:Int) (rows:Rows) (rp rn rL rK:T2),ds=[@V,@aj]/\Tc G p (.pa a b)/\(ZT rows a b rp rn rL rK/\Qs rows a b rp rn rL rK=true)/\∀G',@O->Q .cY G'
theorem CG(ds)(G)(Q)(h:j9 ds G Q @t):sU @p @B (aT 2 ds) G:=by
 obtain⟨p,a,b,rows,rp,rn,rL,rK,rfl,g,⟨c,hp⟩,q⟩:=h;unfold sU;simp![cW,aS,ah,ak,aT,c9,c6,aH,ends];refine at_ g (at_ g ⟨@f,λpl oX=>?_⟩);refine⟨rows,_,[a,b],rfl,.ref ax,⟨c.len,λm hm=>?_⟩,λG1 l1=>?_⟩
 .simp only[bf,bH,or_false] at hm;rcases hm with rfl |rfl
  .exact c.na.1
  .exact c.nb.1
 have L:=(eQ.new oX).trans l1;refine at_ (L _ _ g) (at_ (L _ _ g) ?_);exact⟨rows,a,b,rp,rn,rL,rK,rfl,c,_,rfl,hp,q _ L⟩
def wU:fZ :=
 (bG (cW (iW [("Part",j9)] "refuse" @g (ah @k aH)))
 (bQ (cG (aS mq (ah @k (ah (c9 (ah (c6 ["Part"] "name" @g) (ah (c6 ["Part"] "second" @g) aH))) aH))))))
def kc:gM:=λds G Q _=>∃(p:Nat) (a b:Int) (rows:Rows) (rp rn rL rK:T2),ds=[@V,@aj]/\Tc G p (.pa a b)/\(ZT rows a b rp rn rL rK/\Qs rows a b rp rn rL rK=true/\rows.length<=500)/\∀q as G',HR G G' q as ((iQ [a,b] rows).map bN)->Q (.ref q) G'
theorem Ga(ds)(G)(Q)(h:kc ds G Q @t):wU @p @B (aT 2 ds) G:=by
 obtain⟨p,a,b,rows,rp,rn,rL,rK,rfl,g,⟨c,hp,hl⟩,q⟩:=h;have hlen:=c.len;unfold wU;simp![cW,iW,ak,aT,ah,aH,bQ,cG,aS,c9,c6,ends];refine⟨p,_,_,j9,rfl,g,@dA,rfl,⟨p,a,b,rows,rp,rn,rL,rK,rfl,g,⟨c,hp⟩,λG1 l1=>?_⟩⟩;refine at_ (l1 _ _ g) (at_ (l1 _ _ g) ⟨@f,λpl oX=>?_⟩);exact⟨rows,_,[a,b],rfl,.ref ax,⟨hl,λr hr=>by have:=rN.lB hr;lia⟩,λp' as G' hr=>cp (q p' as G' (xn hr (l1.trans (.new oX))))⟩
theorem AH(d:@n)(ne:a≠b)(h:(∃s,Pr rows s ⟨a,w,ha⟩ ⟨b,w,hb⟩)\/∃s,Pr rows s ⟨b,w,hb⟩ ⟨a,w,ha⟩):∃v,fi @aw ⟨a,w⟩=@Q/\((v=⟨b,w⟩/\∃s,Pr rows s ⟨a,w,ha⟩ ⟨b,w,hb⟩)\/(v≠⟨b,w⟩/\∃s,Pr rows s ⟨b,w,hb⟩ ⟨a,w,ha⟩)):=by
 have one:∀{s:T2} {y z:T3},Pr rows s y z->fi @aw y.s=some z.s:=λc=>by
  obtain⟨R1,R2,r,M,e,ro,_⟩:=c.ex;subst e;exact kj d ro
 rcases h with ⟨s,c⟩ |⟨s,c⟩
 .exact⟨_,one c,.inl ⟨rfl,s,c⟩⟩
 .obtain⟨R1,R2,r,M,e,ro,hM⟩:=c.ex;subst e;cases M with
  |nil=>
   have ro2:iJ [⟨a,w,ha⟩,⟨b,w,hb⟩] r:=iJ.trans (iJ.app [⟨a,w,ha⟩] [⟨b,w,hb⟩]) ro;exact⟨_,kj d ro2,.inl ⟨rfl,JM ro2⟩⟩
  |cons m M=>
   have ro2:iJ (⟨a,w,ha⟩::m::(M++[⟨b,w,hb⟩])) r:=iJ.trans (iJ.of (u:=⟨a,w,ha⟩::m::M) (v:=[⟨b,w,hb⟩]) @i @i) ro;refine⟨_,kj d ro2,.inr ⟨λz=>?_,s,c⟩⟩;have:=(DU d.dn rfl ro).2.2.1 m aJ;exact this (by rw[z];exact aJ)
theorem VN.mem(c:VN rows a b h):(⟨a,0,h⟩:T3)∈rows.flatten/\(⟨b,0,-h⟩:T3)∈rows.flatten/\(⟨a,1,h⟩:T3)∈rows.flatten/\(⟨b,1,-h⟩:T3)∈rows.flatten:=by
 have two:∀{s:T2} {y z:T3},Pr rows s y z->y∈rows.flatten/\z∈rows.flatten:=λp=>by
  obtain⟨R1,R2,r,M,e,ro,_⟩:=p.ex;subst e;have y1:=ro.perm.mem_iff.mpr (aJ);have y2:=ro.perm.mem_iff.mpr (aC _ aJ);exact⟨by rw[dG];simp[y1],by rw[dG];simp[y2]⟩
 have h1:(⟨a,0,h⟩:T3)∈rows.flatten/\(⟨b,0,-h⟩:T3)∈rows.flatten:=by
  rcases c.ov with ⟨s,p⟩ |⟨s,p⟩
  .exact two p
  .exact⟨(two p).2,(two p).1⟩
 have h2:(⟨a,1,h⟩:T3)∈rows.flatten/\(⟨b,1,-h⟩:T3)∈rows.flatten:=by
  rcases c.un with ⟨s,p⟩ |⟨s,p⟩
  .exact two p
  .exact⟨(two p).2,(two p).1⟩
 exact⟨h1.1,h1.2,h2.1,h2.2⟩
theorem XJ(c:VN rows a b h):∃rp rn rL rK,ZT rows a b rp rn rL rK/\Qs rows a b rp rn rL rK=true:=by
 obtain⟨m1,m2,m3,m4⟩:=c.mem;obtain⟨rp,e0,c0⟩:=AH c.d c.ne c.ov;obtain⟨rL,e1,c1⟩:=AH c.d c.ne c.un;obtain⟨rn,e2,c2⟩:=AH c.d c.ne.symm c.ov.symm;obtain⟨rK,e3,c3⟩:=AH c.d c.ne.symm c.un.symm;have one:∀{s:T2} {y z:T3},Pr rows s y z->fi @aw y.s=some z.s:=λp=>by
  obtain⟨R1,R2,r,M,e,ro,_⟩:=p.ex;subst e;exact kj c.d ro
 refine⟨rp,rn,rL,rK,⟨(tK c.d).2.2,⟨bX.mpr ⟨_,m1,rfl,rfl⟩,_,m1,rfl⟩,⟨bX.mpr ⟨_,m2,rfl,rfl⟩,_,m2,rfl⟩,e0,e2,e1,e3⟩,?_⟩;have ha:@bq=h:=eK c.d m1;have hb:@cf=-h:=eK c.d m2;unfold Qs;rw[ha,hb];have iV:¬ h=-h:=by have:=c.hh;lia
 rw[decide_eq_false iV,a9,jR,aP,dP,dP,decide_eq_true_iff,decide_eq_true_iff,decide_eq_true_iff,decide_eq_true_iff];refine⟨?_,?_⟩
 .rcases c0 with ⟨h,_⟩ |⟨_,s,p⟩
  .exact .inl h
  .have:=one p;rw[show(⟨b,0,-h⟩:T3).s=⟨b,0⟩ from rfl,e2] at this;injection this with this
   exact .inr this
 .rcases c1 with ⟨h,_⟩ |⟨_,s,p⟩
  .exact .inl h
  .have:=one p;rw[show(⟨b,1,-h⟩:T3).s=⟨b,1⟩ from rfl,e3] at this;injection this with this
   exact .inr this
end Mo
namespace IX
open K2.P hiding aU
open K2.Mo
open K2.rf (bN kn tP nu)
open K2.rN (HR)
open K2.vn (mS Ro)
open K2.yj (cg fD cj)
theorem E9{α:Type} [@W] [@ai]{neg:Bool}{x:α}{xs:@s}{G:Gp}{Q:DK}(hd:Enc.dep α<=7)(q:Q (.bl (if neg then !decide (x∈xs) else decide (x∈xs))) G):CS neg (enc x) (.tup @aY) G Q:=by
 refine⟨enc x,xs.map enc,Enc.sn _ _ _ (by unfold SN;lia),sJ G 7 hd xs,?_⟩;rw[A9];exact q
theorem ZN{r:@e}:nS (a::b::c::d::e::r) 4=some e:=by
 rw[i8 _ @r (by simp;lia)];rfl
theorem GQ (n) (s) (f h):td (.cu n s f h)=.tup [.str "curl",.int n,enc s,.int f,.int h]:=rfl
def Zh(rows:Rows)(n:Int)(s:T2)(f h:Int):Rows:=(lr s (cps n f h) rows 0).map bN
end IX
namespace Mo
open K2.P hiding aU
open K2.rf (bN)
open K2.rN (HR)
open K2.vn (mS Ro)
open K2.yj (cg fD cj)
noncomputable def EV(x y:T2)(t:Int):T2×T2:=if t=1 then(x,y) else(y,x)
def BE:fZ :=
 (bG (du (eW (aM @aq @y @H)) (bQ (cG (dN (ah @g (ah @k aH))))) b8)
 (bQ (cG (dN (ah @k @ah)))))
def nh:gM:=λds G Q _=>∃(x y:T2) (t:Int),ds=[enc x,enc y,.int t]/\Q (enc (EV x y t)) G
theorem KS(ds)(G)(Q)(h:nh ds G Q @t):BE @p @B (aT 3 ds) G:=by
 obtain⟨x,y,t,rfl,q⟩:=h;unfold BE EV at *;simp![du,aM,ak,aT,dC,bQ,cG,dN,ah,aH,ends,b8];refine gx (x:=t) (y:=(1:Int)) @r ?_;by_cases ht:t=1
 .rw[if_pos ht] at q;simp![ht,decide_true];exact⟨@f,cp q⟩
 .rw[if_neg ht] at q;simp![ht,decide_false];exact⟨@f,cp q⟩
def uc(rows:Rows)(a b c t:Int):@bi:=[EV @bb ⟨b,0⟩ t,EV ⟨a,1⟩ ⟨c,0⟩ (t*@cf*handOf rows c),EV ⟨b,1⟩ ⟨c,1⟩ (t*@bq*handOf rows c)]
structure WE(rows:Rows)(a b c t:Int):Prop where
 d:@n
 na:vI rows a
 nb:vI rows b
 nc:vI rows c
 ht:t=1\/t=-1
theorem lC(d:@n)(h:vI rows n):@cH=1\/@cH=-1:=by
 obtain⟨p,hp,e⟩:=h.2;rw[<-e,eK d hp];exact d.hand p hp
def sO:fZ :=
 (bG (bx (aS fO (ah @g (ah @k aH))) (aI 5))
 (bG (bx (aS fO (ah @g (ah @y aH))) (aI 6))
 (bG (bx (aS fO (ah @g (ah @A aH))) (aI 7))
 (bQ (cG (c9 (ah (aS nh (ah (dN (ah @k (ah @as aH))) (ah (dN (ah @y (ah @as aH))) (ah @Y aH)))) (ah (aS nh (ah (dN (ah @k (ah @H aH))) (ah (dN (ah @A (ah @as aH))) (ah (aM my (aM my @Y (ak 6)) (ak 7)) aH)))) (ah (aS nh (ah (dN (ah @y (ah @H aH))) (ah (dN (ah @A (ah @H aH))) (ah (aM my (aM my @Y (ak 5)) (ak 7)) aH)))) aH)))))))))
def j6:gM:=λds G Q _=>∃(rows:Rows) (a b c t:Int),ds=[@aj,@aB,.int b,.int c,.int t]/\WE rows a b c t/\Q (enc (@a6)) G
theorem CA(ds)(G)(Q)(h:j6 ds G Q @t):sO @p @B (aT 8 ds) G:=by
 obtain⟨rows,a,b,c,t,rfl,⟨d,na,nb,nc,ht⟩,q⟩:=h;have ha:=lC d na;have hb:=lC d nb;have hc:=lC d nc;have hl:=d.gJ;have m1:t*@cf=1\/t*@cf=-1:=by rcases ht with rfl |rfl<;>rcases hb with h |h<;>rw[h]<;>decide
 have m2:t*@bq=1\/t*@bq=-1:=by rcases ht with rfl |rfl<;>rcases ha with h |h<;>rw[h]<;>decide
 unfold sO;simp![bx,aS,ah,ak,aT,aN,aH,aI,bQ,cG,c9,dN,dC,aM,ends];refine⟨rows,a,rfl,⟨@d,na.2⟩,⟨rows,b,rfl,⟨@d,nb.2⟩,⟨rows,c,rfl,⟨@d,nc.2⟩,?_⟩⟩⟩;simp!;have mul:∀{x y:Int} {G:Gp} {Q:DK},(x=1\/x=-1)->(y=1\/y=-1)->Q (.int (x*y)) G->my (.int x) (.int y) G Q:=λhx hy q=>by
  rcases hx with rfl |rfl<;>rcases hy with rfl |rfl<;>exact⟨.inl ⟨@f,@f⟩,q⟩
 refine⟨@f,@f,⟨@bb,⟨b,0⟩,t,rfl,⟨@f,@f,?_⟩⟩⟩;refine mul ht hb (mul m1 hc ?_);refine⟨⟨a,1⟩,⟨c,0⟩,_,rfl,⟨@f,@f,?_⟩⟩;refine mul ht ha (mul m2 hc ?_);refine⟨⟨b,1⟩,⟨c,1⟩,_,rfl,⟨@f,@aN⟩⟩;exact fM (xs:=@a6) @a4 hp ax q
def vD(rows:Rows)(a b c t:Int):Bool:=!decide (b=a)&&(!decide (c∈[a,b])&&(@a6).all λp=>decide (fi @aw p.1=some p.2))
theorem NK(d:@n)(h:@bE):∃v,fi @aw p.s=@Q:=by
 obtain⟨r,hr,hp⟩:=List.mem_flatten.mp h;obtain⟨R1,R2,rfl⟩:=e7 hr;obtain⟨A,B,rfl⟩:=e7 hp;have ro:iJ (p::(B++A)) (A++p::B):=iJ.of (u:=p::B) (v:=A) rfl rfl;cases hBA:B++A with
 |nil=>rw[hBA] at ro;exact⟨_,w5 d ro⟩
 |cons q T=>rw[hBA] at ro;exact⟨_,kj d ro⟩
theorem BM(d:@n)(h:vI rows n)(hw:w=0\/w=1):∃p∈rows.flatten,p.s=⟨n,w⟩:=by
 obtain⟨p,hp,hb,ha⟩:=bX.mp h.1;rcases hw with rfl |rfl
 .exact⟨p,hp,by show(⟨p.a,p.b⟩:T2)=_;rw[hb,ha]⟩
 .refine⟨_,d.rz p hp,?_⟩;show(⟨p.a,1-p.b⟩:T2)=_;rw[hb,ha];rfl
theorem kP(d:@n)(h:vI rows n)(hw:w=0\/w=1):∃v,fi @aw ⟨n,w⟩=@Q:=by
 obtain⟨p,hp,e⟩:=BM d h hw;rw[<-e];exact NK d hp
theorem Xb(s:WE rows a b c t)(h:p∈@a6):∃v,fi @aw p.1=@Q:=by
 unfold uc at h;simp only[bf,bH,or_false] at h;rcases h with rfl |rfl |rfl<;>(unfold EV;split)
 .exact kP s.d s.na (@I)
 .exact kP s.d s.nb (@I)
 .exact kP s.d s.na (@a0)
 .exact kP s.d s.nc (@I)
 .exact kP s.d s.nb (@a0)
 .exact kP s.d s.nc (@a0)
def uZ:fZ :=
 (bG (du (Mu (eW (aM @aq @y @k)) (eW (aM (CS false) @A (dN (ah @k (ah @y aH)))))) (bQ (cG (dC (.bl false)))) b8)
 (bG (bx (aS kH @ah) (aI 5))
 (bQ (cG (jV Sr (ah (eC 2 [5] (hZ (aS j6 (ah @g (ah @k (ah @y (ah @A (ah @Y aH))))))) (pQ (hU (aI 0) (hU (aI 1) rD))) none (aM @aq (aM fG @y @g) @k)) aH))))))
def jq:gM:=λds G Q _=>∃(rows:Rows) (a b c t:Int),ds=[@aj,@aB,.int b,.int c,.int t]/\WE rows a b c t/\Q (.bl (vD rows a b c t)) G
theorem Dw(ds)(G)(Q)(h:jq ds G Q @t):uZ @p @B (aT 6 ds) G:=by
 obtain⟨rows,a,b,c,t,rfl,s,q⟩:=h;have hl:=s.d.gJ;unfold uZ;refine b6 (λτ G'=>G=G'/\b≠a/\c∉[a,b]/\τ=[@G,some (@aB),some (.int b),@bS,some (.int t),none]) ?_ ?_
 .intro N hN;simp![du,Mu,aM,ak,aT,aN,bQ,cG,dC,ends,b8,dN,ah,aH];refine gx (x:=b) (y:=a) @r ?_;by_cases hb:b=a
  .rw[show decide (b=a)=true from decide_eq_true hb];simp!;unfold vD at q;rw[decide_eq_true hb] at q;exact cp q
  .rw[show decide (b=a)=false from decide_eq_false hb];simp!;refine⟨@f,IX.E9 (x:=c) (xs:=[a,b]) @r ?_⟩;by_cases hc:c∈[a,b]
   .rw[show decide (c∈[a,b])=true from decide_eq_true hc];simp!;unfold vD at q;rw[decide_eq_false hb,decide_eq_true hc] at q;exact cp q
   .rw[show decide (c∈[a,b])=false from decide_eq_false hc];simp!;exact hN _ _ ⟨rfl,hb,hc,rfl⟩
 rintro _ _ ⟨rfl,hb,hc,rfl⟩;unfold vD at q;rw[decide_eq_false hb,decide_eq_false hc,a9,jR,jR] at q;simp![bx,aS,ah,ak,aH,aI,bQ,cG,jV,eC,ends];refine⟨rows,rfl,@d,?_⟩;refine⟨rows,a,b,c,t,rfl,s,fu ⟨zf (by simp[uc]),?_⟩⟩;refine gH (xs:=@a6) (λpr acc τ G2=>G=G2/\acc=(pr.map λp=>decide (fi @aw p.1=some p.2)).map D.bl/\∃x y,τ=[x,y,some (.vX (gc @aw))]) ⟨rfl,rfl,_,_,rfl⟩ @cJ ?_ ?_
 .rintro pr p po acc τ G2 N3 e3 ⟨rfl,rfl,x,y,rfl⟩ oB;obtain⟨v,hv⟩:=Xb s (by rw[e3];simp:p∈@a6);show pQ _ _ (.tup [enc p.1,enc p.2]) _ _ _;simp![pQ,hU,aI,rD,aM,ak];refine Hk hv ?_;refine(gx (x:=v) (y:=p.2) @r ?_);simp only[↓aj,↓if_false];refine oB _ _ _ ⟨rfl,?_,_,_,rfl⟩;rw[aF,aF,aq,hv];simp
 .rintro acc τ G2 ⟨rfl,rfl,x,y,rfl⟩ p2 nX;refine⟨(@a6).map λp=>decide (fi @aw p.1=some p.2),by simp only[itemsOf,ax],?_⟩;rw[SS];exact um (.new nX) q
noncomputable def par:@bi->@bi->@bi
 |l,[]=>l
 |l,p::ps=>par (jO (jO l p.1 p.2) p.2 p.1) ps
theorem Ho(p):∀(ps l:@bi),par l (ps++[p])=jO (jO (par l ps) p.1 p.2) p.2 p.1
 |[],_=>rfl
 |_::ps,_=>Ho p ps _
def pX(ps:@bi)(s:T2):T2:=(fi (par [] ps) s).getD s
def A8(rows:Rows)(ps:@bi)(p:T3):T3:=⟨(@b7).a,(@b7).b,handOf rows (@b7).a⟩
def chg(rows:Rows)(ps:@bi):Rows:=rows.map (lM (A8 rows ps))
theorem tR{k v:T2}:(jO l k v).length<=l.length+1:=by
 unfold jO;split<;>simp
theorem LQ:∀(ps l:@bi),(par l ps).length<=l.length+2*ps.length
 |[],_=>by simp[par]
 |p::ps,l=>by
  have:=LQ ps (jO (jO l p.1 p.2) p.2 p.1);have h1:=tR (l:=l) (k:=p.1) (v:=p.2);have h2:=tR (l:=jO l p.1 p.2) (k:=p.2) (v:=p.1);rw[par,af];lia
def qP:fZ :=
 (bG (bx Ag (aI 2))
 (bG (fy (hZ @k) (pQ (hU (aI 3) (hU (aI 4) rD))) (bG (bx @Y (pR @y @A))
 (bx @A (pR @y @Y))))
 (bG (bx (c9 aH) (aI 5))
 (bG (fy (hZ @g) (aI 6) (bG (bx (eC 1 [2] (hZ (ak 6)) (aI 0) none (mU tyC D0 @k (ah (vY @g eO (jB @ad)) (ah (vY @g eO (jB @ad)) aH)))) (aI 7))
 (cW (mU vw gb (ak 5) (ah (cG (eC 1 [0] (hZ (ak 7)) (aI 0) none (dN (ah @cI (ah (aM fG @g @H) (ah (aS fO (ah @k (ah @cI aH))) aH)))))) aH)))))
 (bQ (cG (aS cg (ah (cG (ak 5)) aH))))))))
def lU:gM:=λds G Q _=>∃(rows:Rows) (ps:@bi),ds=[@aj,enc ps]/\(rows.length<=500/\@cN/\ps.length<=10/\∀p∈rows.flatten,∃p'∈rows.flatten,p'.a=(@b7).a)/\∀p as G',HR G G' p as ((@bQ).map bN)->Q (@V) G'
theorem Aj(ds)(G)(Q)(h:lU ds G Q @t):qP @p @B (aT 8 ds) G:=by
 obtain⟨rows,ps,rfl,⟨hl,hf,hps,Pd⟩,q⟩:=h;unfold qP;simp only[↓dO,bx,Ag,jN,aI,ends,aT,↓aq,↓aK,↓af,↓ao,aN,↓aA,↓aB,↓au,↓ai];intro d hd;refine b6 (λτ G'=>@O/\G' d=some (.kU (gc (par [] ps)))/\∃a b,τ=[@G,some (enc ps),@cq,a,b,none,none,none]) ?_ ?_
 .intro N hN;simp![fy,ak];refine fu ?_;refine dZ (xs:=ps) (λpre τ G'=>@O/\G' d=some (.kU (gc (par [] pre)))/\∃a b,τ=[@G,some (enc ps),@cq,a,b,none,none,none]) ⟨.new hd,ax,_,_,rfl⟩ @aQ ?_ (λτ G' h=>hN τ G' h);rintro pre p post τ G' N2 e ⟨l,gd,a,b,rfl⟩ l7;have oX:pre.length<ps.length:=by have:=congrArg c7 e;simp at this;lia
  have h1:=LQ pre [];have h2:=tR (l:=par [] pre) (k:=p.1) (v:=p.2);show pQ _ _ (.tup [enc p.1,enc p.2]) _ _ _;simp![pQ,hU,aI,rD,bx,ak,pR];rw[ao] at h1;refine P.ud gd @c ?_;refine P.ud ax @c ?_;refine l7 _ _ ⟨(l.put hd).put hd,?_,_,_,rfl⟩;rw[ax,Ho]
 rintro _ G1 ⟨l1,gd,a,b,rfl⟩;refine b6 (λτ G'=>∃p,G1 p=none/\@O/\G' d=some (.kU (gc (par [] ps)))/\G' p=some (.lst [])/\τ=[@G,some (enc ps),@cq,a,b,@ax,none,none]) ?_ ?_
 .intro N hN;simp![bx,c9,aH,aI];refine⟨@f,λp hp=>hN _ _ ⟨p,hp,l1.trans @a4,eQ.new hp _ _ gd,ax,rfl⟩⟩
 rintro _ G2 ⟨p,fp,l2,gd2,gp,rfl⟩;have fp0:=l1.free fp;have hdp:d≠p:=by ext d;rw[gp] at gd2;cases gd2
 refine b6 (λτ G'=>@O/\G' p=some (.lst ((@bQ).map enc))/\∃x y,τ=[@G,some (enc ps),@cq,a,b,@ax,x,y]) ?_ ?_
 .intro N hN;simp![fy,ak];refine fu ?_;refine dZ (xs:=rows) (λpre τ G'=>@O/\G' d=some (.kU (gc (par [] ps)))/\G' p=some (.lst ((pre.map (lM (A8 rows ps))).map enc))/\∃x y,τ=[@G,some (enc ps),@cq,a,b,@ax,x,y]) ⟨l2,gd2,gp,_,_,rfl⟩ @aQ ?_ (λτ G' h=>hN τ G' ⟨h.1,h.2.2.1,h.2.2.2⟩);rintro pre r post τ G3 N2 e ⟨l3,YJ,gp3,x,y,rfl⟩ l7;have oX:pre.length<rows.length:=by have:=congrArg c7 e;simp at this;lia
  have aeu:∀t∈r,t∈rows.flatten:=λt ht=>List.mem_flatten.mpr ⟨r,by rw[e];simp,ht⟩;have hrl:r.length<=500:=cm (rN.lB (by rw[e];simp:r∈rows)) hf;refine b6 (λτ G'=>∃p7,G3 p7=none/\eQ G3 G'/\G' p7=some (.lst ((r.map λt=>pX ps t.s).map enc))/\τ=[@G,some (enc ps),@cq,a,b,@ax,some (enc r),some (.ref p7)]) ?_ ?_
  .intro N hN;simp![bx,eC,ak,aI];refine fu ⟨zf (@aV),?_⟩;refine gH (xs:=r) (λpr acc τ G2=>G3=G2/\acc=(pr.map λt:T3=>pX ps t.s).map enc/\∃b,τ=[b,@cq]) ⟨rfl,rfl,_,rfl⟩ @cJ ?_ ?_
   .rintro pr t po acc τ G4 N3 e3 ⟨rfl,rfl,b,rfl⟩ oB;simp![aI,mU,ak,↓nJ,ah,vY,eO,dC,aH,↓abK];refine⟨by simp only[YJ],@f,@f,?_⟩;exact QP (k:=t.s) (e:=t.s) YJ (oB _ _ _ ⟨rfl,by rw[aF,aF];rfl,_,rfl⟩)
   .rintro acc τ G4 ⟨rfl,rfl,b,rfl⟩ p2 nX;exact hN _ _ ⟨p2,nX,.new nX,ax,rfl⟩
  rintro _ G4 ⟨p7,f7,l4,g7,rfl⟩;simp![cW,mU,ak,ah,cG,eC,aH];have Md:=l4 _ _ gp3;rw[A3 g7];refine⟨by simp only[Md],zf (by rw[ag,ag];lia),?_⟩;refine gH (xs:=r.map λt=>pX ps t.s) (λpr acc τ G5=>G4=G5/\acc=(pr.map λs:T2=>(⟨s.a,s.b,handOf rows s.a⟩:T3)).map enc/\∃b,τ=[b,@G]) ⟨rfl,rfl,_,rfl⟩ (λ_ _ _ _ h=>h.1 ▸ g7) ?_ ?_
  .rintro pr s po acc τ G5 N3 e3 ⟨rfl,rfl,z,rfl⟩ oB;have hs:s∈r.map λt=>pX ps t.s:=by rw[e3];simp
   obtain⟨t,ht,es⟩:=List.mem_map.mp hs;obtain⟨t',Rg,e'⟩:=Pd t (aeu t ht);simp![aI,dN,ah,aM,ak,↓Ii,dC,↓Ah,↓MH,aS,aH];refine⟨rows,s.a,rfl,⟨@d,t',Rg,by rw[e',<-es]⟩,⟨@f,oB _ _ _ ⟨rfl,by rw[aF,aF];rfl,_,rfl⟩⟩⟩
  .rintro acc τ G5 ⟨rfl,rfl,z,rfl⟩ p2 nX;refine fM (xs:=(r.map λt=>pX ps t.s).map λs:T2=>(⟨s.a,s.b,handOf rows s.a⟩:T3)) (.new nX) nX ax ?_;simp only[Md];refine⟨uO (by rw[ag,ag];lia),l7 _ _ ⟨(l3.trans l4).put fp0,by rw[cL hdp];exact l4 _ _ YJ,?_,_,_,rfl⟩⟩;have em:(r.map λt=>pX ps t.s).map (λs:T2=>(⟨s.a,s.b,handOf rows s.a⟩:T3))=r.map (A8 rows ps):=cP;rw[ax,em,aF,aF];rfl
 rintro _ G3 ⟨l3,gp3,x,y,rfl⟩;simp![bQ,cG,aS,ah,ak,aH];refine fM (xs:=@bQ) l3 fp0 gp3 ?_;refine⟨@bQ,rfl,⟨by unfold chg;rw[ag];lia,λr h=>?_⟩,λp' as G2 hr2=>cp (q p' as G2 hr2)⟩;obtain⟨r',Oc,rfl⟩:=@c_;have:=rN.lB Oc;rw[ag];lia
end Mo
namespace Mo
open K2.P hiding aU
open K2.rf (bN)
open K2.vn (mS Ro)
open K2.yj (fD cj gh gV)
noncomputable def yi(ps:@bi):List T2:=ps.flatMap λp=>[p.1,p.2]
theorem Ci(p)(ps):yi (p::ps)=p.1::p.2::yi ps:=rfl
theorem AP:∀{ps l:@bi},s∉yi ps->fi (par l ps) s=fi l s
 |[],_,_=>rfl
 |p::ps,l,h=>by
  rw[Ci,bf,bf] at h;rw[par,AP λz=>h (.inr (.inr z)),mW,mW,if_neg λz=>h (.inr (.inl z.symm)),if_neg λz=>h (.inl z.symm)]
theorem QC:∀{ps l:@bi},(yi ps).Nodup->∀p∈ps,fi (par l ps) p.1=some p.2/\fi (par l ps) p.2=some p.1
 |q::ps,l,nd,p,hp=>by
  rw[Ci,bT,bT,bf] at nd;obtain⟨n1,n2,n3⟩:=nd;rcases @cM with rfl |hp
  .rw[par,AP λz=>n1 (.inr z),AP n2,mW,mW,mW,if_neg λz=>n1 (.inl z.symm),if_pos rfl,if_pos rfl];exact⟨rfl,rfl⟩
  .rw[par];exact QC n3 p hp
theorem nK(nd:(yi ps).Nodup)(hp:p∈ps):pX ps p.1=p.2/\pX ps p.2=p.1:=by
 obtain⟨h1,h2⟩:=QC (l:=[]) nd p hp;unfold pX;rw[h1,h2];exact⟨rfl,rfl⟩
theorem uG(h:s∉yi ps):pX ps s=s:=by
 unfold pX;rw[AP h];rfl
theorem kr:s∈yi ps↔∃p∈ps,s=p.1\/s=p.2:=by
 unfold yi;rw[oa];simp
theorem VB(nd:(yi ps).Nodup)(h:s∈yi ps):pX ps s∈yi ps:=by
 obtain⟨p,hp,rfl |rfl⟩:=kr.mp h
 .rw[(nK nd hp).1];exact kr.mpr ⟨p,hp,@a0⟩
 .rw[(nK nd hp).2];exact kr.mpr ⟨p,hp,@I⟩
theorem A7(nd:(yi ps).Nodup)(s):pX ps (pX ps s)=s:=by
 by_cases h:s∈yi ps
 .obtain⟨p,hp,rfl |rfl⟩:=kr.mp h
  .rw[(nK nd hp).1,(nK nd hp).2]
  .rw[(nK nd hp).2,(nK nd hp).1]
 .rw[uG h,uG h]
noncomputable def M7(ps:@bi):@bi:=ps.map λp=>(p.2,p.1)
theorem Bp:∀ps:@bi,(yi (M7 ps)).Perm (yi ps)
 |[]=>.refl _
 |p::ps=>by
  show(p.2::p.1::yi (M7 ps)).Perm (p.1::p.2::yi ps);exact(lP _ _ _).trans (((Bp ps).cons _).cons _)
theorem Sf(nd:(yi ps).Nodup)(s):pX (M7 ps) s=pX ps s:=by
 have nd':(yi (M7 ps)).Nodup:=(Bp ps).nodup_iff.mpr nd;by_cases h:s∈yi ps
 .obtain⟨p,hp,e⟩:=kr.mp h;have A4:(p.2,p.1)∈M7 ps:=@dt;have h1:=nK nd hp;have h2:=nK nd' A4;rcases e with rfl |rfl
  .rw[h1.1];exact h2.2
  .rw[h1.2];exact h2.1
 .rw[uG h,uG λz=>h ((Bp ps).mem_iff.mp z)]
theorem TX(RC:a≠b)(hac:a≠c)(hbc:b≠c):(yi (@a6)).Nodup:=by
 have key:∀x y t,[(EV x y t).1,(EV x y t).2].Perm [x,y]:=λx y t=>by
  unfold EV;split
  .exact .refl _
  .exact .swap _ _ _
 have hp:(yi (@a6)).Perm [@bb,⟨b,0⟩,⟨a,1⟩,⟨c,0⟩,⟨b,1⟩,⟨c,1⟩]:=by
  show([_,_]++([_,_]++([_,_]++[]))).Perm ([_,_]++([_,_]++([_,_]++[])));exact(key _ _ _).append ((key _ _ _).append ((key _ _ _).append (.refl _)))
 rw[hp.nodup_iff];simp[RC,hac,hbc]
end Mo
namespace Mo
open K2.P hiding aU
open K2.rf (bN)
open K2.vn (mS Ro)
open K2.yj (fD cj gh gV)
theorem vH(d:@n)(h:@bE):∃R1 R2 r,rows=@aZ/\((∃q T,iJ (p::q::T) r/\fi @aw p.s=some q.s)\/(iJ [p] r/\fi @aw p.s=some p.s)):=by
 obtain⟨r,hr,hp⟩:=List.mem_flatten.mp h;obtain⟨R1,R2,rfl⟩:=e7 hr;obtain⟨A,B,rfl⟩:=e7 hp;have ro:iJ (p::(B++A)) (A++p::B):=iJ.of (u:=p::B) (v:=A) rfl rfl;refine⟨R1,R2,_,rfl,?_⟩;cases hBA:B++A with
 |nil=>rw[hBA] at ro;exact .inr ⟨ro,w5 d ro⟩
 |cons q T=>rw[hBA] at ro;exact .inl ⟨q,T,ro,kj d ro⟩
theorem U4(d:Dr a)(h:Ro a b)(hp:p∈a.flatten):fi (dM (pairsOf b)) p.s=fi (dM (pairsOf a)) p.s:=by
 obtain⟨R1,R2,r,rfl,e⟩:=vH d hp;have db:=d.ro h;obtain⟨Zn,r',ZS,rfl,ro,_⟩:=Hg h;rcases e with ⟨q,T,e,n⟩ |⟨e,n⟩
 .rw[n];exact kj db (e.trans ro)
 .rw[n];exact w5 db (e.trans ro)
variable {rows:Rows} {ps:@bi}
structure Sx(rows:Rows)(ps:@bi):Prop where
 d:@n
 nd:(yi ps).Nodup
 hs:∀s∈yi ps,s∈@a7
theorem xN(rows)(ps):(@bQ).flatten=rows.flatten.map (A8 rows ps):=by
 unfold chg;generalize A8 rows ps=f;induction rows with
 |nil=>rfl
 |cons r rows ih=>rw[aq,aX,aX,aF,ih]
theorem Sx.TU(x:Sx rows ps)(h:s∈@a7):pX ps s∈@a7:=by
 by_cases hs:s∈yi ps
 .exact x.hs _ (VB x.nd hs)
 .rw[uG hs];exact h
theorem uH(x:Sx rows ps):q∈(@bQ).flatten↔q.s∈@a7/\q.c=handOf rows q.a:=by
 rw[xN,nQ];ext l
 .rintro⟨p,hp,rfl⟩;exact⟨x.TU (@dt),rfl⟩
 .rintro⟨hq,hc⟩;obtain⟨p,hp,e⟩:=List.mem_map.mp (x.TU hq);refine⟨p,hp,?_⟩;have e2:@b7=q.s:=by rw[e,A7 x.nd]
  show(⟨(@b7).a,(@b7).b,handOf rows (@b7).a⟩:T3)=q;rw[e2];show(⟨q.a,q.b,handOf rows q.a⟩:T3)=q;rw[<-hc]
theorem Ct(x:Sx rows ps):Dr (@bQ):=by
 have d:=x.d;have at':∀q∈(@bQ).flatten,∃p∈rows.flatten,p.s=q.s/\p.c=q.c:=λq hq=>by
  obtain⟨h1,h2⟩:=(uH x).mp hq;obtain⟨p,hp,e⟩:=List.mem_map.mp h1;refine⟨p,hp,e,?_⟩;rw[h2,<-eK d hp];rw[show p.a=q.a from @cS]
 refine⟨?_,?_,?_,?_,?_,?_⟩
 .rw[xN,cP];show(rows.flatten.map λp=>@b7).Nodup;have:(rows.flatten.map λp=>@b7)=(@a7).map (pX ps):=by rw[cP];rfl
  rw[this];refine List.pairwise_map.mpr (d.nd.imp λ{s t} Fq e=>Fq ?_);have:=congrArg (pX ps) e;rw[A7 x.nd,A7 x.nd] at this;ext g
 .intro q hq;obtain⟨p,hp,e,_⟩:=at' q hq;have:=d.way p hp;rw[show p.b=q.b from congrArg T2.b e] at this;ext g
 .intro q hq;obtain⟨p,hp,_,e⟩:=at' q hq;have:=d.hand p hp;rw[e] at this;ext g
 .intro q hq;obtain⟨p,hp,e,ec⟩:=at' q hq;have hm:=d.rz p hp;rw[show p.a=q.a from @cS,show p.b=q.b from congrArg T2.b e,ec] at hm;refine(uH x).mpr ⟨List.mem_map.mpr ⟨_,hm,rfl⟩,?_⟩;exact((uH x).mp hq).2
 .rw[xN,ag];exact d.gJ
 .unfold chg;rw[ag];exact d.str
theorem Sh(x:Sx rows ps)(hp:@bE):handOf (@bQ) p.a=handOf rows p.a:=by
 have hq:(⟨p.a,p.b,handOf rows p.a⟩:T3)∈(@bQ).flatten:=(uH x).mpr ⟨@dt,rfl⟩;exact eK (Ct x) hq
theorem Sg(x:Sx rows ps)(hp:@bE)(h:fi @aw p.s=@Q):fi (dM (pairsOf (@bQ))) (@b7)=some (pX ps v):=by
 have dc:=Ct x;obtain⟨R1,R2,r,e,c⟩:=vH x.d hp;have ec:@bQ=R1.map (lM (A8 rows ps))++r.map (A8 rows ps)::R2.map (lM (A8 rows ps)):=by
  have:@bQ=(@aZ).map (lM (A8 rows ps)):=by rw[<-e];rfl
  rw[this,aF,aq]
 rcases c with ⟨q,T,c,n⟩ |⟨c,n⟩
 .rw[h] at n;injection n with n
  rw[n];rw[ec] at dc ⊢;exact kj (p:=A8 rows ps p) (q:=A8 rows ps q) dc c.map
 .rw[h] at n;injection n with n
  rw[n];rw[ec] at dc ⊢;exact w5 (p:=A8 rows ps p) dc c.map
theorem VC(x:Sx rows ps)(e:∀s,pX ps' s=pX ps s):chg (@bQ) ps'=rows:=by
 show(rows.map (lM (A8 rows ps))).map (lM (A8 (@bQ) ps'))=rows;rw[cP]
 conv=>rhs;rw[<-uW rows]
 refine eD λr hr=>?_;show(r.map (A8 rows ps)).map (A8 (@bQ) ps')=r;rw[cP]
 conv=>rhs;rw[<-uW r]
 refine eD @aN;have ZE:@bE:=List.mem_flatten.mpr ⟨r,hr,hp⟩;show A8 (@bQ) ps' (A8 rows ps p)=p;unfold A8;rw[show(T3.s ⟨(@b7).a,(@b7).b,handOf rows (@b7).a⟩:T2)=@b7 from rfl,e,A7 x.nd];show(⟨p.a,p.b,handOf (@bQ) p.a⟩:T3)=p;rw[Sh x ZE,eK x.d ZE]
end Mo
namespace Mo
open K2.P hiding aU
open K2.rf (bN)
open K2.vn (mS Ro)
open K2.yj (fD cj gh gV)
theorem X9(h:Ro a b):Ro (a.map (lM f)) (b.map (lM f)):=by
 induction h with
 |nil=>ext f
 |cons q _ ih=>
  have q:iJ _ _:=q;exact .cons (show iJ _ _ from q.map) ih
theorem Vl(d:Dr a)(h:Ro a b)(hp:p∈a.flatten):handOf b p.a=handOf a p.a:=by
 rw[eK d hp];exact eK (d.ro h) ((i6 h).mem_iff.mpr hp)
theorem Y7(x:Sx a ps)(h:Ro a b):Ro (chg a ps) (chg b ps):=by
 have e:chg b ps=b.map (lM (A8 a ps)):=by
  show b.map (lM (A8 b ps))=_;refine eD λr hr=>eD @aN;have ZE:p∈a.flatten:=(i6 h).mem_iff.mp (List.mem_flatten.mpr ⟨r,hr,hp⟩);obtain⟨p',A4,e⟩:=List.mem_map.mp (x.TU (List.mem_map.mpr ⟨p,ZE,rfl⟩));have:=Vl x.d h A4;rw[show p'.a=(@b7).a from @cS] at this;unfold A8;rw[this]
 rw[e];exact X9 h
structure IV(rows:Rows)(a b c t:Int):Prop where
 n:WE rows a b c t
 f:vD rows a b c t=true
variable {rows:Rows} {a b c t:Int}
theorem wA:vD rows a b c t=true↔b≠a/\c≠a/\c≠b/\∀p∈@a6,fi @aw p.1=some p.2:=by
 unfold vD;rw[aP,aP,kC];simp only[jS,decide_eq_false_iff_not,decide_eq_true_iff,bf,bH,or_false,not_or,and_assoc,ne_eq]
theorem PZ(s:WE rows a b c t):∀x∈yi (@a6),x∈@a7:=λx hx=>by
 obtain⟨p,hp,e⟩:=kr.mp hx;have six:x∈([@bb,⟨b,0⟩,⟨a,1⟩,⟨c,0⟩,⟨b,1⟩,⟨c,1⟩]:List T2):=by
  unfold uc EV at hp;simp only[bf,bH,or_false] at hp;rcases hp with rfl |rfl |rfl<;>(split at e)<;>rcases e with rfl |rfl<;>simp
 have go:∀{n w:Int},vI rows n->(w=0\/w=1)->(⟨n,w⟩:T2)∈@a7:=λhn hw=>by
  obtain⟨p,hp,e⟩:=BM s.d hn hw;exact List.mem_map.mpr ⟨p,hp,e⟩
 simp only[bf,bH,or_false] at six;rcases six with rfl |rfl |rfl |rfl |rfl |rfl
 .exact go s.na (@I)
 .exact go s.nb (@I)
 .exact go s.na (@a0)
 .exact go s.nc (@I)
 .exact go s.nb (@a0)
 .exact go s.nc (@a0)
theorem IV.sx(s:@cW):Sx rows (@a6):=by
 obtain⟨h1,h2,h3,_⟩:=wA.mp s.f;exact⟨s.n.d,TX (eB h1) (eB h2) (eB h3),PZ s.n⟩
theorem EU(h:t=1\/t=-1):EV x y (-t)=((EV x y t).2,(EV x y t).1):=by
 unfold EV;rcases h with rfl |rfl<;>rfl
theorem sg2(hx:x=1\/x=-1)(hy:y=1\/y=-1)(hz:z=1\/z=-1):x*y*z=1\/x*y*z=-1:=by
 rcases hx with rfl |rfl<;>rcases hy with rfl |rfl<;>rcases hz with rfl |rfl<;>decide
theorem G0(s:WE rows a b c t)(h:∀n,vI rows n->handOf Hf n=@cH):uc Hf a b c (-t)=M7 (@a6):=by
 have ha:=lC s.d s.na;have hb:=lC s.d s.nb;have hc:=lC s.d s.nc;unfold uc;rw[h a s.na,h b s.nb,h c s.nc,Jj,Jj,Jj,Jj,EU s.ht,EU (sg2 s.ht hb hc),EU (sg2 s.ht ha hc)];rfl
def oQ(rows:Rows)(a b c t:Int):Rows:=(chg rows (@a6)).map bN
theorem wy(rows)(a b c t):Ro (chg rows (@a6)) (@bR):=cj _
theorem IV.dr(s:@cW):Dr (@bR):=(Ct s.sx).ro (wy ..)
theorem wz(s:@cW):q∈(@bR).flatten↔q.s∈@a7/\q.c=handOf rows q.a:=by
 rw[(i6 (wy rows a b c t)).mem_iff];exact uH s.sx
theorem DQ(s:@cW)(h:vI rows n):handOf (@bR) n=@cH:=by
 obtain⟨p,hp,rfl⟩:=h.2;have hq:(⟨p.a,p.b,handOf rows p.a⟩:T3)∈(@bR).flatten:=(wz s).mpr ⟨@dt,rfl⟩;exact eK s.dr hq
theorem EZ(s:@cW)(h:vI rows n):vI (@bR) n:=by
 obtain⟨p,hp,hb,ha⟩:=bX.mp h.1;have hq:(⟨p.a,p.b,handOf rows p.a⟩:T3)∈(@bR).flatten:=(wz s).mpr ⟨@dt,rfl⟩;exact⟨bX.mpr ⟨_,hq,hb,ha⟩,_,hq,ha⟩
theorem IV.back(s:@cW):IV (@bR) a b c (-t):=by
 obtain⟨h1,h2,h3,h4⟩:=wA.mp s.f;refine⟨⟨s.dr,EZ s s.n.na,EZ s s.n.nb,EZ s s.n.nc,by have:=s.n.ht;lia⟩,wA.mpr ⟨h1,h2,h3,?_⟩⟩;rw[G0 s.n λn hn=>DQ s hn];intro p hp;obtain⟨p',A4,rfl⟩:=List.mem_map.mp hp;obtain⟨e1,e2⟩:=nK s.sx.nd A4;have hx:p'.1∈@a7:=s.sx.hs _ (kr.mpr ⟨p',A4,@I⟩);obtain⟨p0,Vi,e0⟩:=@du;have n1:=h4 p' A4;rw[<-e0] at n1;have n2:=Sg s.sx Vi n1;rw[e0,e1,e2] at n2;have hy:p'.2∈@a7:=s.sx.hs _ (kr.mpr ⟨p',A4,@a0⟩);have hq:(⟨p'.2.a,p'.2.b,handOf rows p'.2.a⟩:T3)∈(chg rows (@a6)).flatten:=(uH s.sx).mpr ⟨hy,rfl⟩;have:=U4 (Ct s.sx) (wy rows a b c t) hq;show fi (dM (pairsOf (@bR))) p'.2=some p'.1;rw[<-n2];ext g
theorem Nd(s:@cW):oQ (@bR) a b c (-t)=@c7:=by
 have e:∀z,pX (uc (@bR) a b c (-t)) z=pX (@a6) z:=λz=>by
  rw[G0 s.n λn hn=>DQ s hn];exact Sf s.sx.nd z
 have hc:=VC s.sx e;have sxc:Sx (chg rows (@a6)) (uc (@bR) a b c (-t)):=⟨Ct s.sx,s.back.sx.nd,λz hz=>by
  obtain⟨q,hq,e⟩:=List.mem_map.mp (s.back.sx.hs z hz);exact List.mem_map.mpr ⟨q,(i6 (wy rows a b c t)).mem_iff.mp hq,e⟩⟩
 have r:=Y7 sxc (wy rows a b c t);rw[hc] at r;exact s.n.d.dn.Ha r
end Mo
namespace Mo
open K2.P hiding aU
open K2.rf (bN)
open K2.rN (HR)
open K2.vn (mS Ro)
open K2.yj (cg fD cj)
def qS:fZ :=
 (bG (cW (aS gP (ah @k (ah (c9 (ah (c6 ["Slide"] "name" @g) (ah (c6 ["Slide"] "second" @g) (ah (c6 ["Slide"] "third" @g) aH)))) aH))))
 (cW (aS iA (ah (aS jq (ah @k (ah (c6 ["Slide"] "name" @g) (ah (c6 ["Slide"] "second" @g) (ah (c6 ["Slide"] "third" @g) (ah (c6 ["Slide"] "turn" @g) aH)))))) aH))))
def jG:gM:=λds G Q _=>∃(p:Nat) (a b c t:Int) (rows:Rows),ds=[@V,@aj]/\Tc G p (.sl a b c t)/\@cW/\∀G',@O->Q .cY G'
theorem Au(ds)(G)(Q)(h:jG ds G Q @t):qS @p @B (aT 2 ds) G:=by
 obtain⟨p,a,b,c,t,rows,rfl,g,s,q⟩:=h;unfold qS;simp![cW,aS,ah,ak,aT,c9,c6,aH,ends];refine at_ g (at_ g (at_ g ⟨@f,λpl oX=>?_⟩));refine⟨rows,_,[a,b,c],rfl,.ref ax,⟨(tK s.n.d).2.2,λm hm=>?_⟩,λG1 l1=>?_⟩
 .simp only[bf,bH,or_false] at hm;rcases hm with rfl |rfl |rfl
  .exact s.n.na.1
  .exact s.n.nb.1
  .exact s.n.nc.1
 have L:=(eQ.new oX).trans l1;refine at_ (L _ _ g) (at_ (L _ _ g) (at_ (L _ _ g) (at_ (L _ _ g) ?_)));exact⟨rows,a,b,c,t,rfl,s.n,_,rfl,s.f,q _ L⟩
def u6:fZ :=
 (bG (cW (iW [("Slide",jG)] "refuse" @g (ah @k aH)))
 (bQ (cG (aS lU (ah @k (ah (aS j6 (ah @k (ah (c6 ["Slide"] "name" @g) (ah (c6 ["Slide"] "second" @g) (ah (c6 ["Slide"] "third" @g) (ah (c6 ["Slide"] "turn" @g) aH)))))) aH))))))
def jt:gM:=λds G Q _=>∃(p:Nat) (a b c t:Int) (rows:Rows),ds=[@V,@aj]/\Tc G p (.sl a b c t)/\@cW/\∀q as G',HR G G' q as (@bR)->Q (.ref q) G'
theorem DB(ds)(G)(Q)(h:jt ds G Q @t):u6 @p @B (aT 2 ds) G:=by
 obtain⟨p,a,b,c,t,rows,rfl,g,s,q⟩:=h;have d:=s.n.d;unfold u6;simp![cW,iW,ak,aT,ah,aH,bQ,cG,aS,c6,ends];refine⟨p,_,_,jG,rfl,g,@dA,rfl,⟨p,a,b,c,t,rows,rfl,g,s,λG1 l1=>?_⟩⟩;refine at_ (l1 _ _ g) (at_ (l1 _ _ g) (at_ (l1 _ _ g) (at_ (l1 _ _ g) ?_)));refine⟨rows,a,b,c,t,rfl,s.n,rows,@a6,rfl,⟨by have:=d.str;lia,by have:=d.gJ;lia,by simp[uc],λx hx=>?_⟩,λp' as G' hr=>cp (q p' as G' (xn hr l1))⟩;obtain⟨y,hy,e⟩:=List.mem_map.mp (s.sx.TU (List.mem_map.mpr ⟨x,hx,rfl⟩));exact⟨y,hy,@cS⟩
end Mo
namespace CJ
open K2.P hiding aU
open K2.Mo
open K2.rf (bN)
open K2.rN (HR)
open K2.vn (mS Ro)
open K2.yj (fD cj gh gV)
open K2.K3 (yK)
open K2.Gd (rC nE)
theorem Mc:∀(L:@w) (l:List (Int×Int)) (n:Int),fi (L.foldl (λl p=>jO l p.a p.c) l) n=(((L.reverse.find? λp=>decide (p.a=n)).map (·.c)).or (fi l n))
 |[],l,n=>@L
 | p::L,l,n=>by
  rw[fk,Mc L,mK,mM];cases h:L.reverse.find? λp=>decide (p.a=n) with
  |some q=>simp
  |none=>
   simp only[Option.map_none,Option.none_or,eF,List.find?_nil];rw[mW];by_cases c:p.a=n
   .simp[c]
   .simp[c]
theorem Rw(d:@n)(h:n∈@l):fi (rC rows.flatten) n=some (@cH):=by
 unfold rC;rw[Mc];obtain⟨p,hp,_,e⟩:=bX.mp h;cases q:rows.flatten.reverse.find? λp=>decide (p.a=n) with
 |none=>
  have:=List.find?_eq_none.mp q p (List.mem_reverse.mpr hp);simp[e] at this
 |some r=>
  have h1:=List.mem_reverse.mp (gf q);have h2:r.a=n:=by have:=qj q;ext p
  subst h2;rw[eK d h1];rfl
end CJ
namespace CJ
open K2.P hiding aU
open K2.Mo
open K2.rf (bN)
open K2.rN (HR)
open K2.Gd (rC nE)
theorem sE (a b):td (.pa a b)=.tup [.str "part",@aB,.int b]:=rfl
theorem ng (a b c t):td (.sl a b c t)=.tup [.str "slide",@aB,.int b,.int c,.int t]:=rfl
end CJ
namespace IX
open K2.P hiding aU
open K2.Mo
open K2.rf (bN kn tP nu)
open K2.rN (HR)
open K2.vn (mS Ro)
open K2.yj (cg fD cj gh gV)
theorem FX(c:CuF rows n s)(hf:f=0\/f=1)(hh:h=1\/h=-1):Dr (Zh rows n s f h) :=
 (Vx c.d c.hs c.fr hf hh c.gJ).ro (cj _)
theorem ME(c:CuF rows n s)(hf:f=0\/f=1)(hh:h=1\/h=-1):(iQ [n] (Zh rows n s f h)).map bN=@c7:=by
 have h1:iQ [n] (lr s (cps n f h) rows 0)=rows:=Me (λp hp=>by simp[cps] at hp;rcases hp with rfl |rfl<;>simp) λp hp z=>c.fr p hp (List.mem_singleton.mp z);have h2:=RQ (ns:=[n]) (cj (lr s (cps n f h) rows 0));rw[h1] at h2;exact c.d.dn.Ha h2
end IX
namespace SI
open K2.P hiding aU
open K2.Mo
open K2.rf (bN)
open K2.rN (HR)
open K2.K3 (yK)
open K2.vn (mS Ro)
open K2.yj (cg fD cj gh gV)
open K2.IX (ZN E9)
theorem GP (a b) (o u) (t h):td (.la a b o u t h)=.tup [.str "lay",@aB,.int b,enc o,enc u,.int t,.int h]:=rfl
end SI
namespace SI
open K2.P hiding aU
open K2.Mo
open K2.rf (bN)
open K2.rN (HR)
open K2.vn (mS Ro)
open K2.yj (cg fD cj gh gV)
open K2.IX (ZN Hb)
variable {rows:Rows} {a b:Int} {o u:T2} {t h:Int}
theorem Fn(c:@cU):Dr (laid rows a b o u t h):=(JJ c).ro (cj _)
theorem L1(c:@cU):VN (laid rows a b o u t h) a b h:=(Xn c).ro (cj _)
theorem HI(c:@cU)(ha:a∈ns)(hb:b∈ns)(hn:∀n∈ns,n=a\/n=b):(iQ ns (laid rows a b o u t h)).map bN=@c7:=by
 have h2:=RQ (ns:=ns) (cj (@dd));rw[T7 c ns ha hb hn] at h2;exact c.d.dn.Ha h2
end SI
namespace CJ
open K2.P hiding aU
open K2.Mo
open K2.rf (bN)
open K2.rN (HR)
open K2.IX (ZN E9 Zh GQ)
open K2.SI (GP)
def kX(rows:Rows):iR->Prop
 |.un n=>∃(f h:Int) (s:T2),(f=0\/f=1)/\Cu rows n s ⟨n,f,h⟩ ⟨n,1-f,h⟩
 |.cu n s f h=>CuF rows n s/\(f=0\/f=1)/\(h=1\/h=-1)
 |.pa a b=>∃h,VN rows a b h
 |.la a b o u t h=>@cU
 |.sl a b c t=>@cW
def rM(rows:Rows):iR->Rows
 |.un n=>(iQ [n] rows).map bN
 |.cu n s f h=>Zh rows n s f h
 |.pa a b=>(iQ [a,b] rows).map bN
 |.la a b o u t h=>laid rows a b o u t h
 |.sl a b c t=>@bR
theorem wm (n):td (.un n)=.tup [.str "uncurl",.int n]:=rfl
end CJ
namespace CJ
open K2.P hiding aU
open K2.Mo
open K2.rf (bN)
open K2.vn (mS Ro)
open K2.yj (fD cj gh gV)
open K2.IX (Zh FX ME)
open K2.SI (Fn L1 HI)
theorem tG(ns):∀rows:Rows,(@a_).flatten=rows.flatten.filter (@b8)
 |[]=>rfl
 |r::rows=>by
  show r.filter _++(@a_).flatten=_;rw[tG ns rows,aX,bg]
theorem xF:p∈(@a_).flatten↔@bE/\p.a∉ns:=by
 rw[tG,qh];simp
theorem Cm(d:@n):Dr (@a_):=by
 have hl:(@a_).flatten.length<=rows.flatten.length:=by rw[tG];exact cI _ _
 refine⟨?_,λp hp=>d.way p (xF.mp hp).1,λp hp=>d.hand p (xF.mp hp).1,@aN,?_,?_⟩
 .rw[tG];exact d.nd.sublist (List.filter_sublist.map _)
 .obtain⟨h1,h2⟩:=xF.mp hp;exact xF.mpr ⟨d.rz p h1,h2⟩
 .have:=d.gJ;lia
 .unfold iQ;rw[ag];exact d.str
inductive Bk (rows:Rows):iR->iR->Prop
 |un {n f h:Int} {s:T2}:(f=0\/f=1)->Cu rows n s ⟨n,f,h⟩ ⟨n,1-f,h⟩->Bk rows (.un n) (.cu n s f h)
 |cu {n f h:Int} {s:T2}:Bk rows (.cu n s f h) (.un n)
 |pa {a b F O t h:Int} {o u:T2}:Lb rows a b F O o u t h->Bk rows (.pa a b) (.la F O o u t h)
 |la {a b t h:Int} {o u:T2}:Bk rows (.la a b o u t h) (.pa a b)
 |sl {a b c t:Int}:Bk rows (.sl a b c t) (.sl a b c (-t))
theorem yF(d:@n)(f:kX rows m):Dr (rM rows m):=by
 cases m with
 |un n=>exact(Cm d).ro (cj _)
 |cu n s w h=>exact FX f.1 f.2.1 f.2.2
 |pa a b=>exact(Cm d).ro (cj _)
 |la a b o u t h=>exact Fn f
 |sl a b c t=>exact f.dr
theorem xP(d:@n)(gJ:@dH)(f:kX rows m)(bk:Bk rows m m'):kX (rM rows m) m'/\rM (rM rows m) m'=@c7:=by
 have fl:∀ns,((@a_).map bN).flatten.length<=20:=λns=>by
  rw[(i6 (cj (@a_))).length_eq,tG];exact cm (cI _ _) gJ
 have fr:∀ns n,n∈ns->∀p∈((@a_).map bN).flatten,p.a≠n:=λns n hn p hp e=>by
  have:=(xF.mp ((i6 (cj (@a_))).mem_iff.mp hp)).2;rw[e] at this;exact this hn
 cases bk with
 | @un n w h s hw c=>
  obtain⟨Rh,hro⟩:=Y3 d.dn c hw;have dX:Dr (iQ [n] rows):=Cm d;have hh:h=1\/h=-1:=by
   obtain⟨R1,R2,r,M,e,ro,_⟩:=c.ex;have:(⟨n,w,h⟩:T3)∈rows.flatten:=by
    rw[e,dG];have:=ro.perm.mem_iff.mpr (aJ (a:=(⟨n,w,h⟩:T3)) (l:=⟨n,1-w,h⟩::M));simp[this]
   exact d.hand _ this
  refine⟨⟨⟨dX.ro (cj _),cm (fl [n]) @r,Br (cj _) Rh,fr [n] n @i⟩,hw,hh⟩,?_⟩;have r1:=JL (s:=s) (ps:=cps n w h) (cj (iQ [n] rows)) (Ff dX.dn (zU Rh));exact d.dn.Ha (gh (gV hro) r1)
 |@cu n w h s=>
  obtain⟨c,hf,hh⟩:=f;exact⟨⟨w,h,s,hf,Wz d.dn c.hs c.fr⟩,ME c hf hh⟩
 | @pa a b F O t h o u lb=>
  obtain⟨h',pf⟩:=f;obtain⟨nm,ht,hh,ho,hn,Y,rY,dY,hu,rU⟩:=lb;have dX:Dr (iQ [a,b] rows):=Cm d;have r1:=JL (s:=o) (ps:=AW F O 0 h) (cj (iQ [a,b] rows)) (Ff dX.dn (zU ho));have r2:Ro Y (MW ((iQ [a,b] rows).map bN) F O o h):=gh (gV rY) r1;have r3:=JL (s:=u) (ps:=Gu F O t h) r2 (Ff dY (zU hu));have hF:F∈[a,b]:=by rcases nm with ⟨rfl,rfl⟩ |⟨rfl,rfl⟩<;>simp
  have hO:O∈[a,b]:=by rcases nm with ⟨rfl,rfl⟩ |⟨rfl,rfl⟩<;>simp
  have iV:F≠O:=by
   rcases nm with ⟨rfl,rfl⟩ |⟨rfl,rfl⟩
   .exact pf.ne
   .exact pf.ne.symm
  refine⟨⟨dX.ro (cj _),fl _,iV,fr _ F hF,fr _ O hO,Br (cj _) ho,Br r2 hu,hn,ht,hh⟩,?_⟩;exact d.dn.Ha (gh (gV rU) r3)
 |@la a b t h o u=>
  exact⟨⟨h,L1 f⟩,HI f @i @i @i⟩
 |@sl a b c t=>exact⟨f.back,Nd f⟩
end CJ
namespace CJ
open K2.P hiding aU
open K2.Mo
open K2.rf (bN)
open K2.vn (mS Ro)
variable {rows:Rows}
theorem Xf(d:@n)(hx:x∈rows.flatten)(hy:y∈rows.flatten)(e:x.s=y.s):x=y:=by
 have h1:=eK d hx;have h2:=eK d hy;have ea:x.a=y.a:=@cS;have eb:x.b=y.b:=congrArg T2.b e;rw[ea,h2] at h1;cases x;cases y;simp only at ea eb h1;rw[ea,eb,h1]
theorem AO(d:@n)(hx:x∈rows.flatten)(hy:y∈rows.flatten)(ne:x.s≠y.s)(h:fi @aw x.s=some y.s):∃s,Pr rows s x y:=by
 obtain⟨R1,R2,r,e,c⟩:=vH d hx;rcases c with ⟨q,T,ro,n⟩ |⟨ro,n⟩
 .rw[h] at n;injection n with n
  have hq:q∈rows.flatten:=by
   rw[e,dG];have:=ro.perm.mem_iff.mpr (aC x (aJ (a:=q) (l:=T)));simp[this]
  have:y=q:=Xf d hy hq n;ext c;rw[e];exact JM ro
 .rw[h] at n;injection n with n
  exact absurd n.symm ne
theorem RT(d:@n)(hn:vI rows n)(h:fi @aw @a1=some @ba\/fi @aw @ba=some @a1):kX rows (.un n):=by
 have go:∀{w:Int},(w=0\/w=1)->fi @aw ⟨n,w⟩=some ⟨n,1-w⟩->kX rows (.un n):=λ{w} hw h=>by
  obtain⟨x,hx,ex⟩:=BM d hn hw;have ea:x.a=n:=congrArg T2.a ex;have eb:x.b=w:=congrArg T2.b ex;have hm:=d.rz x hx;have ne:x.s≠(⟨x.a,1-x.b,x.c⟩:T3).s:=λz=>by
   have:x.b=1-x.b:=congrArg T2.b z;lia
  obtain⟨s,pr⟩:=AO d hx hm ne (by
   show fi _ x.s=some (⟨x.a,1-x.b⟩:T2);rw[ex,ea,eb];exact h)
  have e1:x=⟨n,w,x.c⟩:=by cases x;simp only at ea eb;rw[ea,eb]
  rw[ea,eb] at pr;obtain⟨R1,R2,r,M,e,ro,hM⟩:=pr.ex;obtain⟨_,_,o3,_⟩:=DU d.dn e ro;refine⟨w,x.c,s,hw,⟨R1,R2,r,M,e,by rw[e1] at ro;exact ro,hM,λp hp en=>?_⟩⟩;have ZE:@bE:=by
   rw[e,dG];have:=ro.perm.mem_iff.mpr (aC x (aC (⟨n,1-w,x.c⟩:T3) hp));simp[this]
  refine o3 p hp ?_;have hb:=d.way p ZE;have hs:p.s=⟨p.a,p.b⟩:=rfl;rw[hs,en,ex];show(⟨n,p.b⟩:T2)∈[⟨n,w⟩,⟨n,1-w⟩];have:p.b=w\/p.b=1-w:=@d
  rcases this with h |h<;>rw[h]<;>simp
 rcases h with h |h
 .exact go (w:=0) (@I) h
 .exact go (w:=1) (@a0) h
theorem YN(d:@n)(c:ZT rows a b rp rn rL rK)(ne:a≠b)(h:Qs rows a b rp rn rL rK=true):kX rows (.pa a b):=by
 unfold Qs at h;rw[aP,aP,dP,dP,decide_eq_true_iff,decide_eq_true_iff,decide_eq_true_iff,decide_eq_true_iff] at h;obtain⟨hh,h0,h1⟩:=h;have hh:@bq≠@cf:=by simpa using hh
 have ha:=lC d c.na;have hb:=lC d c.nb;have key:∀{w:Int} {va vb:T2},(w=0\/w=1)->fi @aw ⟨a,w⟩=some va->fi @aw ⟨b,w⟩=some vb->(va=⟨b,w⟩\/vb=⟨a,w⟩)->(∃s,Pr rows s ⟨a,w,@bq⟩ ⟨b,w,-@bq⟩)\/∃s,Pr rows s ⟨b,w,-@bq⟩ ⟨a,w,@bq⟩:=λ{w va vb} hw ea eb hv=>by
  obtain⟨x,hx,ex⟩:=BM d c.na hw;obtain⟨y,hy,ey⟩:=BM d c.nb hw;have e1:x=⟨a,w,@bq⟩:=by
   have h:=eK d hx;have i1:x.a=a:=congrArg T2.a ex;have i2:x.b=w:=congrArg T2.b ex;rw[i1] at h;cases x;simp only at i1 i2 h;rw[i1,i2,h]
  have e2:y=⟨b,w,-@bq⟩:=by
   have h:=eK d hy;have i1:y.a=b:=congrArg T2.a ey;have i2:y.b=w:=congrArg T2.b ey;rw[i1] at h;have:@cf=-@bq:=@d
   rw[this] at h;cases y;simp only at i1 i2 h;rw[i1,i2,<-h]
  have nes:x.s≠y.s:=by rw[ex,ey];exact λz=>ne (congrArg T2.a z)
  rcases hv with rfl |rfl
  .left;have:=AO d hx hy nes (by rw[ex,ey];exact ea);rw[e1,e2] at this;ext g
  .right;have:=AO d hy hx nes.symm (by rw[ex,ey];exact eb);rw[e1,e2] at this;ext g
 exact⟨@bq,d,ne,ha,key (@I) c.h0 c.h1 h0,key (@a0) c.h2 c.h3 h1⟩
end CJ
end K2
end
section
namespace K2
namespace IW
open K2.P hiding aU
open K2.Mo
open K2.CJ
open K2.rf (bN)
open K2.vn (Ro)
open K2.yj (cj)
open K2.IX (Zh FX)
open K2.T (bump Eu Sq zeros su)
open K2.rF (AX pN xx qx wt Eh fold_congr)
def In(rows:Rows)(i:Nat)(p:T3):Prop:=∃r,rows[i]?=@am/\p∈r
theorem in_of(h:@bE):∃i,In rows i p:=by
 obtain⟨r,hr,hp⟩:=List.mem_flatten.mp h;obtain⟨i,hi,e⟩:=dI hr;exact⟨i,r,by rw[az hi,e],hp⟩
theorem In.mem(h:In rows i p):@bE:=by
 obtain⟨r,hr,hp⟩:=h;exact List.mem_flatten.mpr ⟨r,bE hr,hp⟩
theorem In.str(d:@n)(h:In rows i p):ie rows p.s=i:=by
 obtain⟨r,hr,hp⟩:=h;have hw:=d.way p (In.mem ⟨r,hr,hp⟩);exact wt d.nd hr hp (by rcases hw with e |e<;>rw[e]<;>decide)
structure Sm(R S:Rows):Prop where
 len:R.length=S.length
 dr:Dr R
 ds:Dr S
 sub:∀i p,In R i p->In S i p
theorem Sm.at_(h:Sm R S)(hn:n∈names R):ie R @a1=ie S @a1/\ie R @ba=ie S @ba/\handOf R n=handOf S n:=by
 obtain⟨p,hp,pb,rfl⟩:=bX.mp hn;obtain⟨i,hi⟩:=in_of hp;have s0:p.s=⟨p.a,0⟩:=by unfold T3.s;rw[pb]
 have A4:=h.dr.rz p hp;obtain⟨j,hj⟩:=in_of A4;have s1:(⟨p.a,1-p.b,p.c⟩:T3).s=⟨p.a,1⟩:=by unfold T3.s;rw[pb];rfl
 refine⟨?_,?_,?_⟩
 .rw[<-s0,hi.str h.dr,(h.sub _ _ hi).str h.ds]
 .rw[<-s1,hj.str h.dr,(h.sub _ _ hj).str h.ds]
 .rw[eK h.dr hp,eK h.ds (h.sub _ _ hi).mem]
theorem NW(R):∀b x y,pN R (pN R b x) y=pN R (pN R b y) x:=λb x y=>Eu ..
theorem w9(h:Sm R S)(ns)(hn:(names S).Perm (ns++names R))(hz:∀t,Sq S.length t->ns.foldl (pN S) t=t):AX R=AX S:=by
 unfold AX;rw[Eh (NW S) hn,mL,hz _ (su _),h.len];refine fold_congr _ _ λb n hn=>?_;obtain⟨a,b',c⟩:=h.at_ hn;unfold pN;rw[a,b',c]
theorem ue(r):(bN r).Perm r:=by
 unfold bN;exact List.perm_append_comm.trans (by rw[cw])
theorem iB(d:@n):(@l).Nodup:=by
 unfold names;refine t6 ?_;have h:=d.nd;have:∀{L:@w},(L.map T3.s).Nodup->((L.filter λp=>p.b == 0).map (·.a)).Nodup:=by
  intro L;induction L with
  |nil=>intro _;exact fj
  | cons p L ih=>
   intro h;rw[aq,bT] at h;rw[eG];split
   .rename_i hp;rw[aq,bT];refine⟨λz=>h.1 ?_,ih h.2⟩;obtain⟨q,hq,e⟩:=@c3;have Od:=List.mem_filter.mp hq;refine List.mem_map.mpr ⟨q,Od.1,?_⟩;have b1:p.b=0:=by simpa using hp
    have b2:q.b=0:=by simpa using Od.2
    show(⟨q.a,q.b⟩:T2)=⟨p.a,p.b⟩;rw[e,b1,b2]
   .exact ih h.2
 exact this h
theorem Kh:In ((@a_).map bN) i p↔In rows i p/\p.a∉ns:=by
 unfold In;ext l
 .rintro⟨r,hr,hp⟩;rw[aZ] at hr;obtain⟨r1,h1,rfl⟩:=@dV;unfold iQ at h1;rw[aZ] at h1;obtain⟨r0,h0,rfl⟩:=Option.map_eq_some_iff.mp h1;have hp:=(ue _).mem_iff.mp hp;obtain⟨a,b⟩:=List.mem_filter.mp hp;exact⟨⟨r0,h0,a⟩,by simpa using b⟩
 .rintro⟨⟨r0,h0,hp⟩,ha⟩;refine⟨bN (r0.filter @b8),?_,(ue _).mem_iff.mpr (List.mem_filter.mpr ⟨hp,by simpa using ha⟩)⟩;unfold iQ;rw[aZ,aZ,h0];rfl
theorem Bt(d:@n):Sm ((@a_).map bN) rows :=
 ⟨by unfold iQ;rw[ag,ag],(Cm d).ro (cj _),d,λi p h=>(Kh.mp h).1⟩
theorem DX(d:@n):(@l).Nodup:=iB d
theorem uq(d:@n)(nd:ns.Nodup)(hn:∀n∈ns,n∈@l):(@l).Perm (ns++names ((@a_).map bN)):=by
 have s:=Bt (ns:=ns) d;have key:∀m,m∈names ((@a_).map bN)↔m∈@l/\m∉ns:=λm=>by
  rw[bX,bX];ext l
  .rintro⟨p,hp,b,rfl⟩;obtain⟨i,hi⟩:=in_of hp;obtain⟨a,c⟩:=Kh.mp hi;exact⟨⟨p,a.mem,b,rfl⟩,c⟩
  .rintro⟨⟨p,hp,b,rfl⟩,c⟩;obtain⟨i,hi⟩:=in_of hp;exact⟨p,(Kh.mpr ⟨hi,c⟩).mem,b,rfl⟩
 refine(eX (DX d) ?_).mpr λm=>?_
 .refine List.nodup_append.mpr ⟨nd,DX s.dr,λa ha b hb e=>?_⟩;subst e;exact((key _).mp hb).2 ha
 .rw[lL,key];ext l
  .intro h;by_cases z:m∈ns
   .exact .inl z
   .exact .inr ⟨h,z⟩
  .rintro(h |h)
   .exact hn _ h
   .exact h.1
theorem B6(h:Pr rows s y z):∃i,In rows i y/\In rows i z:=by
 obtain⟨R1,R2,r,M,e,ro,_⟩:=h.ex;have hr:rows[R1.length]?=@am:=by rw[e];simp
 exact⟨R1.length,⟨r,hr,ro.perm.mem_iff.mpr @i⟩,⟨r,hr,ro.perm.mem_iff.mpr @i⟩⟩
theorem L8(h:Cu rows n s y z):∃i,In rows i y/\In rows i z:=by
 obtain⟨R1,R2,r,M,e,ro,_⟩:=h.ex;have hr:rows[R1.length]?=@am:=by rw[e];simp
 exact⟨R1.length,⟨r,hr,ro.perm.mem_iff.mpr @i⟩,⟨r,hr,ro.perm.mem_iff.mpr @i⟩⟩
theorem OE:bump t i i h=t:=by unfold bump;rw[if_pos rfl]
theorem Ss(t)(i j)(h):bump (bump t i j h) i j (-h)=t:=by
 unfold bump;by_cases e:i=j
 .rw[if_pos e,if_pos e]
 .rw [if_neg e,if_neg e];refine jQ λk=>?_;rw[gI,gI];by_cases z:i=k
  .subst z;cases t[i]? with
   |none=>rfl
   | some r=>
    have:(r.modify j λx=>x+h).modify j (λx=>x+-h)=r:=by
     refine jQ λm=>?_;rw[gI,gI];by_cases y:j=m
     .subst y;cases r[j]? with
      |none=>simp
      |some x=>simp;lia
     .cases r[m]?<;>simp[y]
    ext p
  .cases t[k]?<;>simp[z]
theorem QV(d:@n)(f:kX rows (.un n)):AX (rM rows (.un n))=AX rows:=by
 obtain⟨w,h,s,hw,c⟩:=f;obtain⟨i,h0,h1⟩:=L8 c;have two:ie rows @a1=i/\ie rows @ba=i/\n∈@l:=by
  have a:=h0.str d;have b:=h1.str d;rcases hw with rfl |rfl
  .exact⟨a,b,bX.mpr ⟨_,h0.mem,rfl,rfl⟩⟩
  .exact⟨b,a,bX.mpr ⟨_,h1.mem,rfl,rfl⟩⟩
 refine w9 (Bt d) [n] (uq d @i (by simpa using two.2.2)) λt _=>?_;show pN rows t n=t;unfold pN;rw[two.1,two.2.1,OE]
theorem QW(d:@n)(f:kX rows (.pa a b)):AX (rM rows (.pa a b))=AX rows:=by
 obtain⟨h,c⟩:=f;have ov:∃i,In rows i ⟨a,0,h⟩/\In rows i ⟨b,0,-h⟩:=by
  rcases c.ov with ⟨s,p⟩ |⟨s,p⟩
  .exact B6 p
  .obtain⟨i,x,y⟩:=B6 p;exact⟨i,y,x⟩
 have un:∃i,In rows i ⟨a,1,h⟩/\In rows i ⟨b,1,-h⟩:=by
  rcases c.un with ⟨s,p⟩ |⟨s,p⟩
  .exact B6 p
  .obtain⟨i,x,y⟩:=B6 p;exact⟨i,y,x⟩
 obtain⟨i,o1,o2⟩:=ov;obtain⟨j,u1,u2⟩:=un;have ha:a∈@l:=bX.mpr ⟨_,o1.mem,rfl,rfl⟩;have hb:b∈@l:=bX.mpr ⟨_,o2.mem,rfl,rfl⟩;refine w9 (Bt d) [a,b] (uq d (by simpa using c.ne) (by intro n hn;rcases List.mem_cons.mp hn with rfl |hn;exact ha;rw[bV] at hn;subst hn;exact hb)) λt sq=>?_;show pN rows (pN rows t a) b=t;unfold pN;have e1:ie rows @bb=i:=o1.str d;have e2:ie rows ⟨b,0⟩=i:=o2.str d;have e3:ie rows ⟨a,1⟩=j:=u1.str d;have e4:ie rows ⟨b,1⟩=j:=u2.str d;have e5:@bq=h:=eK d o1.mem;have e6:@cf=-h:=eK d o2.mem;rw[e1,e2,e3,e4,e5,e6];exact Ss t i j h
theorem RS:∀{ps:@bi},(yi ps).Nodup->∀{u:T2×T2},u∈ps->u.1≠u.2
 |q::ps,nd,u,hu,e=>by
  rw[Ci,bT,bT,bf] at nd;rcases List.mem_cons.mp hu with rfl |hu
  .exact nd.1 (.inl e)
  .exact RS nd.2.2 hu e
theorem X1(d:@n)(hx:x∈@a7)(hy:y∈@a7)(ne:x≠y)(h:fi @aw x=some y):∃i p q,In rows i p/\In rows i q/\p.s=x/\q.s=y:=by
 obtain⟨p,hp,rfl⟩:=@du;obtain⟨q,hq,rfl⟩:=List.mem_map.mp hy;obtain⟨s,pr⟩:=AO d hp hq ne h;obtain⟨i,a,b⟩:=B6 pr;exact⟨i,p,q,a,b,rfl,rfl⟩
theorem VZ(s:@cW):Sm (@bR) rows:=by
 have d:=s.n.d;have x:=s.sx;obtain⟨_,_,_,nx⟩:=wA.mp s.f;refine⟨by unfold oQ chg;rw[ag,ag],s.dr,d,?_⟩;rintro i q ⟨r,hr,hq⟩;unfold oQ at hr;rw[aZ] at hr;obtain⟨r1,h1,rfl⟩:=@dV;have hq:=(ue _).mem_iff.mp hq;unfold chg at h1;rw[aZ] at h1;obtain⟨r0,h0,rfl⟩:=Option.map_eq_some_iff.mp h1;obtain⟨p,hp,rfl⟩:=List.mem_map.mp hq;have ip:In rows i p:=⟨r0,h0,hp⟩;have go:∃q0,In rows i q0/\q0.s=pX (@a6) p.s:=by
  by_cases z:p.s∈yi (@a6)
  .obtain⟨u,hu,e⟩:=kr.mp z;have n1:=x.hs u.1 (kr.mpr ⟨u,hu,@I⟩);have n2:=x.hs u.2 (kr.mpr ⟨u,hu,@a0⟩);have ne:u.1≠u.2:=λe=>RS x.nd hu e;obtain⟨k,y,z,iy,iz,ey,ez⟩:=X1 d n1 n2 ne (nx u hu);have uniq:∀{v:T3},In rows k v->v.s=p.s->k=i:=λhv e=>by
    obtain⟨rv,h1,h2⟩:=hv;exact qx d.nd h1 h0 h2 hp e
   rcases e with e |e
   .rw[e,(nK x.nd hu).1];have:=uniq iy (by rw[ey,e]);ext c;exact⟨z,iz,ez⟩
   .rw[e,(nK x.nd hu).2];have:=uniq iz (by rw[ez,e]);ext c;exact⟨y,iy,ey⟩
  .exact⟨p,ip,(uG z).symm⟩
 obtain⟨q0,hq0,e⟩:=go;have:A8 rows (@a6) p=q0:=by
  unfold A8;rw[<-e];have:=eK d hq0.mem;cases q0;simp only[T3.s] at this ⊢;rw[this]
 rw[this];exact hq0
theorem Yk(s:@cW):AX (@bR)=AX rows:=by
 have m:=VZ s;refine w9 m [] ?_ λt _=>rfl;refine(eX (iB m.ds) (iB m.dr)).mpr λn=>?_;rw[bX,bX];ext l
 .rintro⟨p,hp,b0,rfl⟩;exact⟨p,(wz s).mpr ⟨@dt,(eK m.ds hp).symm⟩,b0,rfl⟩
 .rintro⟨p,hp,b0,rfl⟩;obtain⟨i,hi⟩:=in_of hp;exact⟨p,(m.sub _ _ hi).mem,b0,rfl⟩
theorem EY(d:@n):Sm (@c7) rows:=by
 refine⟨by rw[ag],d.ro (cj _),d,λi p h=>?_⟩;obtain⟨r,hr,hp⟩:=h;rw[aZ] at hr;obtain⟨r0,h0,rfl⟩:=@dV;exact⟨r0,h0,(ue _).mem_iff.mp hp⟩
theorem Bw(d:@n):(@l).Perm (names (@c7)):=by
 have m:=EY d;refine(eX (iB m.ds) (iB m.dr)).mpr λn=>?_;rw[bX,bX];have e:∀p,p∈(@c7).flatten↔@bE:=λp=>(i6 (cj rows)).mem_iff;ext l
 .rintro⟨p,hp,h⟩;exact⟨p,(e p).mpr hp,h⟩
 .rintro⟨p,hp,h⟩;exact⟨p,(e p).mp hp,h⟩
theorem HG(d:@n):AX (@c7)=AX rows:=w9 (EY d) [] (Bw d) λ_ _=>rfl
theorem Va(d:@n)(gJ:@dH)(f:kX rows m):AX (rM rows m)=AX rows:=by
 cases m with
 |un n=>exact QV d f
 |pa a b=>exact QW d f
 |sl a b c t=>exact Yk f
 |cu n s w h=>
  obtain⟨g,e⟩:=xP d gJ f .cu;rw[<-QV (yF d f) g,e,HG d]
 |la a b o u t h=>
  obtain⟨g,e⟩:=xP d gJ f .la;rw[<-QW (yF d f) g,e,HG d]
open K2.rF (wr)
theorem PS{l:@u}(h:l.Perm m):l.sum=m.sum:=by
 induction h with
 |nil=>rfl
 |cons x _ ih=>simp[ih]
 |swap x y l=>simp;lia
 |trans _ _ a b=>rw[a,b]
theorem AD(h:Sm R S)(hn:(names S).Perm (ns++names R)):wr S=(ns.map (handOf S)).sum+wr R:=by
 unfold wr;rw[PS (hn.map _),aF,List.sum_append];congr 2;refine eD λn hn=>?_;exact(h.at_ hn).2.2.symm
def mor(rows:Rows):iR->Int
 |.cu _ _ _ h=>h
 |.un n=>-@cH
 |_=>0
theorem VS(d:@n)(f:kX rows (.un n)):wr rows=@cH+wr (rM rows (.un n)):=by
 obtain⟨w,h,s,hw,c⟩:=f;obtain⟨i,h0,h1⟩:=L8 c;have hn:n∈@l:=by
  rcases hw with rfl |rfl
  .exact bX.mpr ⟨_,h0.mem,rfl,rfl⟩
  .exact bX.mpr ⟨_,h1.mem,rfl,rfl⟩
 have:=AD (Bt (ns:=[n]) d) (uq d @i (by simpa using hn));show _=_+wr ((iQ [n] rows).map bN);ext p
theorem VT(d:@n)(f:kX rows (.pa a b)):wr rows=wr (rM rows (.pa a b)):=by
 obtain⟨h,c⟩:=f;have o1:(⟨a,0,h⟩:T3)∈rows.flatten/\(⟨b,0,-h⟩:T3)∈rows.flatten:=by
  rcases c.ov with ⟨s,p⟩ |⟨s,p⟩
  .obtain⟨i,x,y⟩:=B6 p;exact⟨x.mem,y.mem⟩
  .obtain⟨i,x,y⟩:=B6 p;exact⟨y.mem,x.mem⟩
 have ha:a∈@l:=bX.mpr ⟨_,o1.1,rfl,rfl⟩;have hb:b∈@l:=bX.mpr ⟨_,o1.2,rfl,rfl⟩;have:=AD (Bt (ns:=[a,b]) d) (uq d (by simpa using c.ne) (by intro n hn;rcases List.mem_cons.mp hn with rfl |hn;exact ha;rw[bV] at hn;subst hn;exact hb));have e1:@bq=h:=eK d o1.1;have e2:@cf=-h:=eK d o1.2;rw[aq,aq,aK,e1,e2] at this;rw[this];show _=wr ((iQ [a,b] rows).map bN);simp only[List.sum_cons,List.sum_nil];lia
theorem Ln(d:@n):wr (@c7)=wr rows:=by
 have:=AD (EY d) (ns:=[]) (Bw d);simpa using this.symm
theorem Vy(f:kX rows (.cu n s w h)):handOf (rM rows (.cu n s w h)) n=h:=by
 have c:=Wz (f:=w) (h:=h) f.1.d.dn f.1.hs f.1.fr;obtain⟨i,x,_⟩:=L8 c;exact eK (FX f.1 f.2.1 f.2.2) x.mem
theorem WR(d:@n)(gJ:@dH)(f:kX rows m):wr (rM rows m)=wr rows+mor rows m:=by
 cases m with
 |un n=>have:=VS d f;show _=_+-@cH;lia
 |pa a b=>have:=VT d f;show _=_+0;lia
 | sl a b c t=>
  have m:=VZ f;have e:(@l).Perm ([]++names (@bR)):=by
   refine(eX (iB m.ds) (iB m.dr)).mpr λn=>?_;rw[bX,bX];ext l
   .rintro⟨p,hp,b0,rfl⟩;exact⟨p,(wz f).mpr ⟨@dt,(eK m.ds hp).symm⟩,b0,rfl⟩
   .rintro⟨p,hp,b0,rfl⟩;obtain⟨i,hi⟩:=in_of hp;exact⟨p,(m.sub _ _ hi).mem,b0,rfl⟩
  have:=AD m e;show wr (@bR)=_+0;rw[this];simp
 |cu n s w h=>
  obtain⟨g,e⟩:=xP d gJ f .cu;have h1:=VS (yF d f) g;rw[e,Ln d] at h1;have hh:handOf (rM rows (.cu n s w h)) n=h:=Vy f;rw[hh] at h1;show _=_+h;lia
 |la a b o u t h=>
  obtain⟨g,e⟩:=xP d gJ f .la;have h1:=VT (yF d f) g;rw[e,Ln d] at h1;show _=_+0;lia
end IW
end K2
end
section
namespace K2
open PySem (Str)
open Enc (enc)
namespace CY
open K2.P hiding aU
open K2.Mo
variable {rows:Rows}
def N(rows:Rows)(s:T2):Option T2:=fi @aw s
theorem WG(d:@n):N rows s=@Q↔(s,v)∈(@bF).map λp=>(p.1.s,p.2.s):=by
 unfold N;rw[w6 d];refine⟨Hy,tS ?_⟩;rw[cP];exact Kq d
theorem abU(d:@n)(h:N rows s=@Q)(h':N rows s'=@Q):s=s':=by
 rw[WG d] at h h';obtain⟨p,hp,e⟩:=@c_;obtain⟨q,hq,e'⟩:=List.mem_map.mp h';have nd:=Xa d;have:p=q:=by
  obtain⟨i,hi,rfl⟩:=dI hp;obtain⟨j,hj,rfl⟩:=dI hq;have pw:=List.pairwise_iff_getElem.mp nd;have ee:(@bF)[i].2.s=(@bF)[j].2.s:=(congrArg Prod.snd e).trans (congrArg Prod.snd e').symm;rcases Nat.lt_trichotomy i j with c |c |c
  .exact absurd (by rw[dj,dj];exact ee) (pw i j (by rw[ag];exact hi) (by rw[ag];exact hj) c)
  .subst c;rfl
  .exact absurd (by rw[dj,dj];exact ee.symm) (pw j i (by rw[ag];exact hj) (by rw[ag];exact hi) c)
 ext c;exact(congrArg Prod.fst e).symm.trans (congrArg Prod.fst e')
theorem fW(d:@n)(h:n∈@l):vI rows n:=by
 obtain⟨p,hp,_,e⟩:=bX.mp h;exact⟨h,p,hp,e⟩
theorem ON(d:@n)(h:N rows s=@Q):s.a∈@l/\v.a∈@l:=by
 rw[WG d] at h;obtain⟨p,hp,e⟩:=@c_;have nm:∀{q:T3},q∈rows.flatten->q.a∈@l:=λ{q} hq=>by
  rw[bX];rcases d.way q hq with w |w
  .exact⟨q,hq,w,rfl⟩
  .exact⟨_,d.rz q hq,by simp[w],rfl⟩
 have h1:p.1∈rows.flatten:=by rw[<-yD rows];exact cy hp
 have h2:p.2∈rows.flatten:=(yC rows).mem_iff.mp (cy hp);have e1:p.1.s=s:=congrArg Prod.fst e;have e2:p.2.s=v:=congrArg Prod.snd e;rw[<-e1,<-e2];exact⟨nm h1,nm h2⟩
def O7(rows:Rows)(a b:Int):Bool:=!decide (@bq=@cf)&&((decide (N rows @bb=some ⟨b,0⟩)||decide (N rows ⟨b,0⟩=some @bb))&&(decide (N rows ⟨a,1⟩=some ⟨b,1⟩)||decide (N rows ⟨b,1⟩=some ⟨a,1⟩)))
def VU(rows:Rows)(n:Int):Bool:=decide (N rows @a1=some @ba)||decide (N rows @ba=some @a1)
def ZM(rows:Rows)(a b:Int):Bool:=decide (N rows @bb=some ⟨b,0⟩)||decide (N rows ⟨b,0⟩=some @bb)
theorem pq{α:Type} [@W]{o:Option α}{v w:α}(h:o=@Q):decide (v=w)=decide (o=some w):=by
 subst h;by_cases c:v=w
 .rw[decide_eq_true c,decide_eq_true (by rw[c])]
 .rw[decide_eq_false c,decide_eq_false λz=>c (by injection z)]
theorem paN(d:@n)(ha:a∈@l)(hb:b∈@l):∃rp rn rL rK,ZT rows a b rp rn rL rK/\Qs rows a b rp rn rL rK=O7 rows a b:=by
 have ia:=fW d ha;have ib:=fW d hb;obtain⟨rp,h0⟩:=kP d ia (w:=0) (@I);obtain⟨rn,h1⟩:=kP d ib (w:=0) (@I);obtain⟨rL,h2⟩:=kP d ia (w:=1) (@a0);obtain⟨rK,h3⟩:=kP d ib (w:=1) (@a0);refine⟨rp,rn,rL,rK,⟨by have:=d.gJ;lia,ia,ib,h0,h1,h2,h3⟩,?_⟩;unfold Qs O7 N;rw[pq h0,pq h1,pq h2,pq h3]
theorem Hu(d:@n):(@l).Pairwise λa b=>a<b:=by
 have h1:(@l).Pairwise λa b=>AY a b=true:=Bq _;have h2:(@l).Pairwise λa b=>a≠b:=WH.iB d;refine(h1.and h2).imp λ{a b} h=>?_;have:(!decide (b<a))=true:=h.1;have:¬ b<a:=by ext p
 have:=h.2;lia
def Vu(rows:Rows):List iR:=(@l).flatMap λa=>((@l).filter λb=>decide (a<b)&&O7 rows a b).map λb=>iR.pa a b
def Vs(rows:Rows)(a b c:Int):List iR:=([-1,1].filter λt=>vD rows a b c t).map λt=>iR.sl a b c t
def YV(rows:Rows):List iR:=(@l).flatMap λa=>(@l).flatMap λb=>if ZM rows a b=true then(@l).flatMap λc=>Vs rows a b c else []
def Ot(rows:Rows):List iR:=((@l).filter λn=>VU rows n).map λn=>iR.un n
def zK(rows:Rows):List iR:=Vu rows++YV rows++Ot rows
def zX(x y:iR):Prop:=Fi (td x) (td y)=true
theorem Ys(h:a<b):iq (@aB) (.int b)=false:=by
 show(a == b)=false;simp;lia
theorem Yt(a):iq (@aB) (@aB)=true:=by
 show(a == a)=true;simp
theorem J8(h:a<b)(xs ys):kR (@aB::xs) (.int b::ys)=true:=by
 rw[nv,Ys h,LV,decide_eq_true h];rfl
theorem J7(a)(xs ys):kR (@aB::xs) (@aB::ys)=kR xs ys:=by
 rw[nv,Yt];rfl
theorem sE (a b):td (.pa a b)=.tup [.str "part",@aB,.int b]:=rfl
theorem ng (a b c t):td (.sl a b c t)=.tup [.str "slide",@aB,.int b,.int c,.int t]:=rfl
theorem wm (n):td (.un n)=.tup [.str "uncurl",.int n]:=rfl
theorem Yi(h:a<a')(b b'):zX (.pa a b) (.pa a' b'):=by
 unfold zX;rw[sE,sE,kQ,if_pos rfl];exact J8 h _ _
theorem Yh(h:b<b'):zX (.pa a b) (.pa a b'):=by
 unfold zX;rw[sE,sE,kQ,if_pos rfl,J7];exact J8 h _ _
theorem Yg(h:a<a')(b b' c c' t t'):zX (.sl a b c t) (.sl a' b' c' t'):=by
 unfold zX;rw[ng,ng,kQ,if_pos rfl];exact J8 h _ _
theorem Ye(h:b<b')(c c' t t'):zX (.sl a b c t) (.sl a b' c' t'):=by
 unfold zX;rw[ng,ng,kQ,if_pos rfl,J7];exact J8 h _ _
theorem Yd(h:c<c')(t t'):zX (.sl a b c t) (.sl a b c' t'):=by
 unfold zX;rw[ng,ng,kQ,if_pos rfl,J7,J7];exact J8 h _ _
theorem Yc(h:t<t'):zX (.sl a b c t) (.sl a b c t'):=by
 unfold zX;rw[ng,ng,kQ,if_pos rfl,J7,J7,J7];exact J8 h _ _
theorem aaO(a b c e f t):zX (.pa a b) (.sl c e f t):=by unfold zX;rw[sE,ng,kQ,if_neg @r];decide
theorem aaN(a b n):zX (.pa a b) (.un n):=by unfold zX;rw[sE,wm,kQ,if_neg @r];decide
theorem aaM(a b c t n):zX (.sl a b c t) (.un n):=by unfold zX;rw[ng,wm,kQ,if_neg @r];decide
theorem aaL(h:n<m):zX (.un n) (.un m):=by unfold zX;rw[wm,wm,kQ,if_pos rfl];exact J8 h _ _
theorem xJ:m∈Vs rows a b c↔∃t,(t=-1\/t=1)/\vD rows a b c t=true/\m=.sl a b c t:=by
 unfold Vs;rw[nQ];ext l
 .rintro⟨t,h,rfl⟩;rw[qh] at h;exact⟨t,by simpa using h.1,h.2,rfl⟩
 .rintro⟨t,h1,h2,rfl⟩;exact⟨t,List.mem_filter.mpr ⟨@di,h2⟩,rfl⟩
theorem uB:m∈YV rows↔∃a b c t,(a∈@l/\b∈@l/\c∈@l)/\ZM rows a b=true/\(t=-1\/t=1)/\vD rows a b c t=true/\m=.sl a b c t:=by
 unfold YV;simp only[oa];ext l
 .rintro⟨a,ha,b,hb,h⟩;split at h
  .rename_i hbs;obtain⟨c,hc,h⟩:=List.mem_flatMap.mp h;obtain⟨t,h1,h2,rfl⟩:=xJ.mp h;exact⟨a,b,c,t,⟨ha,hb,hc⟩,hbs,h1,h2,rfl⟩
  .cases h
 .rintro⟨a,b,c,t,⟨ha,hb,hc⟩,hbs,h1,h2,rfl⟩;refine⟨a,ha,b,hb,?_⟩;rw[if_pos hbs];exact List.mem_flatMap.mpr ⟨c,hc,xJ.mpr ⟨t,h1,h2,rfl⟩⟩
theorem uC:m∈Vu rows↔∃a b,(a∈@l/\b∈@l)/\a<b/\O7 rows a b=true/\m=.pa a b:=by
 unfold Vu;simp only[oa,nQ,qh,aP,decide_eq_true_eq];ext l
 .rintro⟨a,ha,b,⟨hb,h1,h2⟩,rfl⟩;exact⟨a,b,⟨ha,hb⟩,h1,h2,rfl⟩
 .rintro⟨a,b,⟨ha,hb⟩,h1,h2,rfl⟩;exact⟨a,ha,b,⟨hb,h1,h2⟩,rfl⟩
theorem A6:m∈Ot rows↔∃n,n∈@l/\VU rows n=true/\m=.un n:=by
 unfold Ot;simp only[nQ,qh];ext l
 .rintro⟨n,⟨h1,h2⟩,rfl⟩;exact⟨n,h1,h2,rfl⟩
 .rintro⟨n,h1,h2,rfl⟩;exact⟨n,⟨h1,h2⟩,rfl⟩
theorem R5(d:@n):(Vu rows).Pairwise zX:=by
 have s:=Hu d;unfold Vu;rw[gi];refine⟨λa _=>?_,s.imp λ{a a'} h x hx y hy=>?_⟩
 .rw[cS];exact(s.filter _).imp λh=>Yh h
 .obtain⟨b,_,rfl⟩:=@du;obtain⟨b',_,rfl⟩:=List.mem_map.mp hy;exact Yi h _ _
theorem R4(d:@n):(YV rows).Pairwise zX:=by
 have s:=Hu d;have inB:∀{a b:Int} {x:iR},x∈(if ZM rows a b=true then(@l).flatMap λc=>Vs rows a b c else [])->∃c t,x=.sl a b c t:=λ{a b x} h=>by
  split at h
  .obtain⟨c,_,h⟩:=List.mem_flatMap.mp h;obtain⟨t,_,_,rfl⟩:=xJ.mp h;exact⟨c,t,rfl⟩
  .cases h
 unfold YV;rw[gi];refine⟨λa _=>?_,s.imp λ{a a'} h x hx y hy=>?_⟩
 .rw[gi];refine⟨λb _=>?_,s.imp λ{b b'} h x hx y hy=>?_⟩
  .split
   .rw[gi];refine⟨λc _=>?_,s.imp λ{c c'} h x hx y hy=>?_⟩
    .unfold Vs;rw[cS];refine si _ ?_;exact .cons (λt ht=>Yc (by rw[List.mem_singleton.mp ht];decide)) (lK _ _)
    .obtain⟨t,_,_,rfl⟩:=xJ.mp hx;obtain⟨t',_,_,rfl⟩:=xJ.mp hy;exact Yd h _ _
   .exact .nil
  .obtain⟨c,t,rfl⟩:=inB hx;obtain⟨c',t',rfl⟩:=inB hy;exact Ye h _ _ _ _
 .obtain⟨b,_,hx⟩:=List.mem_flatMap.mp hx;obtain⟨b',_,hy⟩:=List.mem_flatMap.mp hy;obtain⟨c,t,rfl⟩:=inB hx;obtain⟨c',t',rfl⟩:=inB hy;exact Yg h _ _ _ _ _ _
theorem YU(d:@n):(@br).Pairwise zX:=by
 unfold zK;rw[Tq,Tq];refine⟨⟨R5 d,R4 d,λx hx y hy=>?_⟩,?_,λx hx y hy=>?_⟩
 .obtain⟨a,b,_,_,_,rfl⟩:=uC.mp hx;obtain⟨c,e,f,t,_,_,_,_,rfl⟩:=uB.mp hy;exact aaO ..
 .unfold Ot;rw[cS];exact((Hu d).filter _).imp λh=>aaL h
 .obtain⟨n,_,_,rfl⟩:=A6.mp hy;rcases List.mem_append.mp hx with hx |hx
  .obtain⟨a,b,_,_,_,rfl⟩:=uC.mp hx;exact aaN ..
  .obtain⟨c,e,f,t,_,_,_,_,rfl⟩:=uB.mp hx;exact aaM ..
noncomputable def WQ:List (Str×List kW):=[("part",[.int,.int]),("slide",[.int,.int,.int,.int]),("uncurl",[.int])]
theorem FN(h:m∈@br):oS WQ (td m)=true:=by
 ext B
 .rcases List.mem_append.mp h with h |h
  .obtain⟨a,b,_,_,_,rfl⟩:=uC.mp h;rfl
  .obtain⟨c,e,f,t,_,_,_,_,rfl⟩:=uB.mp h;rfl
 .obtain⟨n,_,_,rfl⟩:=A6.mp h;rfl
theorem U8(h:oS WQ (td m)=true):¬ zX m m:=λz=>by
 have:=D1 h h z;rw[show Fi (td m) (td m)=true from z] at this;cases this
theorem KD(d:@n)(hp:ys.Perm ((@br).map td))(hs:ys.Pairwise λa b=>Fi b a=false):ys=(@br).map td:=by
 have h1:((@br).map td).Pairwise λa b=>Fi a b=true:=by rw[cS];exact YU d
 have go:∀(l ys:@e),ys.Perm l->l.Pairwise (λa b=>Fi a b=true)->ys.Pairwise (λa b=>Fi b a=false)->ys=l:=by
  intro l;induction l with
  |nil=>intro ys h _ _;exact h.eq_nil
  | cons x l ih=>
   intro ys hp hl hs;cases ys with
   |nil=>exact absurd hp.symm.eq_nil @i
   | cons y ys=>
    have hy:y=x:=by
     rcases List.mem_cons.mp (hp.mem_iff.mp aJ) with e |hy
     .exact e
     .have hx:=hp.symm.mem_iff.mp (aJ (a:=x) (l:=l));rcases List.mem_cons.mp hx with e |hx
      .exact e.symm
      .have:=Lf hs hx;rw[Lf hl hy] at this;cases this
    subst hy;rw[ih ys (List.Perm.cons_inv hp) hl.of_cons hs.of_cons]
 exact go _ _ hp h1 hs
end CY
namespace CY
open K2.P hiding aU
open K2.Mo
variable {rows:Rows}
def O8(rows:Rows)(a:Int):List T2:=match N rows @bb with
 |some v=>if v.b=0 then [⟨a,v.a⟩] else []
 |none=>[]
def CT(rows:Rows):List T2:=(@l).flatMap (O8 rows)
theorem AS:p∈O8 rows a↔p.a=a/\N rows @bb=some ⟨p.b,0⟩:=by
 unfold O8;cases h:N rows @bb with
 |none=>simp
 |some v=>
  obtain⟨x,y⟩:=v;obtain⟨pa,pb⟩:=p;by_cases c:y=0
  .subst c;simp;intro _;exact⟨Eq.symm,Eq.symm⟩
  .simp[c]
theorem ox(d:@n):p∈CT rows↔N rows ⟨p.a,0⟩=some ⟨p.b,0⟩:=by
 unfold CT;rw[oa];ext l
 .rintro⟨a,_,h⟩;obtain⟨rfl,h⟩:=AS.mp h;exact h
 .intro h;exact⟨p.a,(ON d h).1,AS.mpr ⟨rfl,h⟩⟩
theorem Fc(a):(O8 rows a).length<=1:=by
 unfold O8;split
 .split<;>simp
 .simp
theorem lg{α β:Type}(f:α->List β)(k)(h:∀a,(f a).length<=k):∀l:@s,(l.flatMap f).length<=k*l.length
 |[]=>@L
 |a::l=>by
  rw[cz,av,af,Nat.mul_succ];have:=h a;have:=lg f k h l;lia
theorem AR(rows):(CT rows).length<=@bA:=by
 have:=lg (O8 rows) 1 Fc (@l);unfold CT;lia
theorem XM(d:@n):(CT rows).Pairwise λp q=>p.a≠q.a:=by
 unfold CT;rw[gi];refine⟨λa _=>?_,(Hu d).imp λ{a a'} h x hx y hy=>?_⟩
 .have:=Fc (rows:=rows) a
  match O8 rows a,this with
  |[],_=>ext f
  |[p],_=>exact lK _ _
  |_::_::_,h=>simp at h
 .rw[(AS.mp hx).1,(AS.mp hy).1];lia
noncomputable def mm(p:T2):T2:=⟨if p.b<p.a then p.b else p.a,if p.a<p.b then p.b else p.a⟩
def LL(rows:Rows)(m:List T2):List iR:=(m.filter λp=>O7 rows p.a p.b).map λp=>iR.pa p.a p.b
def IS(rows:Rows)(p:T2)(c:Int):List iR:=(if vD rows p.a p.b c 1=true then [iR.sl p.a p.b c 1] else [])++(if vD rows p.b p.a c (-1)=true then [iR.sl p.b p.a c (-1)] else [])
def LK(rows:Rows):List iR:=(CT rows).flatMap λp=>(@l).flatMap λc=>IS rows p c
theorem qC:m∈IS rows p c↔(vD rows p.a p.b c 1=true/\m=.sl p.a p.b c 1)\/(vD rows p.b p.a c (-1)=true/\m=.sl p.b p.a c (-1)):=by
 unfold IS;rw[lL];ext l
 .rintro(h |h)
  .split at h
   .rename_i c;exact .inl ⟨c,List.mem_singleton.mp h⟩
   .cases h
  .split at h
   .rename_i c;exact .inr ⟨c,List.mem_singleton.mp h⟩
   .cases h
 .rintro(⟨h,rfl⟩ |⟨h,rfl⟩)
  .left;rw[if_pos h];simp
  .right;rw[if_pos h];simp
theorem P0(d:@n)(h:vD rows a b c t=true):(t=1->N rows @bb=some ⟨b,0⟩)/\(t=-1->N rows ⟨b,0⟩=some @bb)/\(N rows ⟨a,1⟩=some ⟨c,0⟩\/N rows ⟨c,0⟩=some ⟨a,1⟩):=by
 obtain⟨_,_,_,h⟩:=wA.mp h;have h1:=h (EV @bb ⟨b,0⟩ t) (by simp[uc]);have h2:=h (EV ⟨a,1⟩ ⟨c,0⟩ (t*@cf*handOf rows c)) (by simp[uc]);refine⟨?_,?_,?_⟩
 .rintro rfl;unfold EV at h1;rw[if_pos rfl] at h1;exact h1
 .rintro rfl;unfold EV at h1;rw[if_neg @r] at h1;exact h1
 .unfold EV at h2;split at h2
  .exact .inl h2
  .exact .inr h2
theorem Us(d:@n):m∈LK rows↔m∈YV rows:=by
 rw[uB];unfold LK;simp only[oa];ext l
 .rintro⟨p,hp,c,hc,h⟩;have hp:=(ox d).mp hp;have nm:=ON d hp;rcases qC.mp h with ⟨hf,rfl⟩ |⟨hf,rfl⟩
  .exact⟨p.a,p.b,c,1,⟨nm.1,nm.2,hc⟩,by unfold ZM;rw[decide_eq_true hp];rfl,@a0,hf,rfl⟩
  .exact⟨p.b,p.a,c,-1,⟨nm.2,nm.1,hc⟩,by unfold ZM;rw[decide_eq_true hp,Bool.or_true],@I,hf,rfl⟩
 .rintro⟨a,b,c,t,⟨ha,hb,hc⟩,_,ht,h,rfl⟩;obtain⟨h1,h2,_⟩:=P0 d h;rcases ht with rfl |rfl
  .exact⟨⟨b,a⟩,(ox d).mpr (h2 rfl),c,hc,qC.mpr (.inr ⟨h,rfl⟩)⟩
  .exact⟨⟨a,b⟩,(ox d).mpr (h1 rfl),c,hc,qC.mpr (.inl ⟨h,rfl⟩)⟩
theorem Xu(d:@n):(LK rows).Nodup:=by
 show List.Pairwise (·≠·) _;unfold LK;rw[gi];refine⟨λp _=>?_,(XM d).imp λ{p q} h x hx y hy e=>?_⟩
 .rw[gi];refine⟨λc _=>?_,(Hu d).imp λ{c c'} h x hx y hy e=>?_⟩
  .unfold IS;split<;>split<;>simp<;>(intro e;injection e;lia)
  .subst e;rcases qC.mp hx with ⟨_,rfl⟩ |⟨_,rfl⟩<;>rcases qC.mp hy with ⟨_,e⟩ |⟨_,e⟩<;>injection e<;>lia
 .subst e;obtain⟨c,_,hx⟩:=List.mem_flatMap.mp hx;obtain⟨c',_,hy⟩:=List.mem_flatMap.mp hy;rcases qC.mp hx with ⟨_,rfl⟩ |⟨_,rfl⟩<;>rcases qC.mp hy with ⟨_,e⟩ |⟨_,e⟩<;>injection e<;>first |lia |(rename_i e1 e2 e3 e4;first |exact h e1 |exact h e2)
theorem Wd{l:List iR}(h:l.Pairwise zX)(hw:∀m∈l,oS WQ (td m)=true):l.Nodup:=by
 refine oO (λ{a b} ha _ h e=>?_) h;subst e;exact U8 (hw a ha) h
theorem Qk(d:@n)(nd:m.Nodup)(hm:∀y,y∈m↔y∈(CT rows).map mm):(LL rows m).Perm (Vu rows):=by
 refine(eX ?_ ?_).mpr λx=>?_
 .unfold LL;show List.Pairwise (·≠·) _;rw[cS];refine(si _ nd).imp λ{p q} h e=>h ?_;injection e with e1 e2
  cases p;cases q;simp only at e1 e2;rw[e1,e2]
 .exact Wd (R5 d) λm hm=>FN (bM _ (bM _ hm))
 .rw [uC];unfold LL;simp only[nQ,qh];ext l
  .rintro⟨p,⟨hp,hf⟩,rfl⟩;obtain⟨q,hq,rfl⟩:=List.mem_map.mp ((hm p).mp hp);have hq:=(ox d).mp hq;have nm:=ON d hq;have iV:handOf rows (mm q).a≠handOf rows (mm q).b:=by
    unfold O7 at hf;simp only[aP,jS,decide_eq_false_iff_not] at hf;exact hf.1
   have RC:q.a≠q.b:=λe=>iV (by unfold mm;rw[e]);refine⟨(mm q).a,(mm q).b,?_,?_,hf,rfl⟩
   .unfold mm;simp only;ext l
    .split
     .exact nm.2
     .exact nm.1
    .split
     .exact nm.2
     .exact nm.1
   .unfold mm;simp only;split<;>split<;>lia
  .rintro⟨a,b,⟨ha,hb⟩,RC,hf,rfl⟩;refine⟨⟨a,b⟩,⟨(hm _).mpr ?_,hf⟩,rfl⟩;unfold O7 at hf;simp only[aP,dP,decide_eq_true_eq] at hf;rcases hf.2.1 with h |h
   .refine List.mem_map.mpr ⟨⟨a,b⟩,(ox d).mpr h,?_⟩;unfold mm;simp only;rw[if_neg @c,if_pos RC]
   .refine List.mem_map.mpr ⟨⟨b,a⟩,(ox d).mpr h,?_⟩;unfold mm;simp only;rw[if_pos RC,if_neg @c]
theorem Nw(d:@n)(nd:m.Nodup)(hm:∀y,y∈m↔y∈(CT rows).map mm):(LL rows m++LK rows++Ot rows).Perm (@br):=by
 refine IP _ (SU (Qk d nd hm) ?_);exact(eX (Xu d) (Wd (R4 d) λm hm=>FN (bM _ (bD _ hm)))).mpr λx=>Us d
theorem Kx{l:@u}{P Q:Int->Prop}(nd:l.Nodup)(h:∀c∈l,p c=true->P c\/Q c)(hP:∀c c',P c->P c'->c=c')(hQ:∀c c',Q c->Q c'->c=c'):(l.filter p).length<=2:=by
 have nf:(l.filter p).Nodup:=si _ nd;have hf:∀c∈l.filter p,P c\/Q c:=λc hc=>h c (List.mem_filter.mp hc).1 (List.mem_filter.mp hc).2
 match l.filter p,nf,hf with
 |[],_,_=>simp
 |[_],_,_=>simp
 |[_,_],_,_=>simp
 |x::y::z::r,nf,hf=>
  exfalso;simp only[bT,bf,not_or] at nf;obtain⟨⟨xy,xz,_⟩,⟨yz,_⟩,_⟩:=nf;have h1:=hf x @i;have h2:=hf y @i;have h3:=hf z @i;rcases h1 with h1 |h1<;>rcases h2 with h2 |h2<;>rcases h3 with h3 |h3<;>first |exact xy (hP _ _ h1 h2) |exact xy (hQ _ _ h1 h2) |exact xz (hP _ _ h1 h3) |exact xz (hQ _ _ h1 h3) |exact yz (hP _ _ h2 h3) |exact yz (hQ _ _ h2 h3)
theorem EW(d:@n)(a b t):((@l).filter λc=>vD rows a b c t).length<=2:=by
 refine Kx (P:=λc=>N rows ⟨a,1⟩=some ⟨c,0⟩) (Q:=λc=>N rows ⟨c,0⟩=some ⟨a,1⟩) (WH.iB d) (λc _ h=>(P0 d h).2.2) (λc c' h h'=>?_) λc c' h h'=>?_
 .rw[h] at h';injection h' with h'
  injection h'
 .have:=abU d h h';injection this
theorem ER(p q)(f g:Int->iR):∀l:@u,(l.flatMap λc=>(if p c=true then [f c] else [])++(if q c=true then [g c] else [])).length=(l.filter p).length+(l.filter q).length
 |[]=>rfl
 |c::l=>by
  rw[cz,av,ER p q f g l,eG,eG];split<;>split<;>simp<;>lia
theorem Ut(d:@n):(LK rows).length<=4*@bA:=by
 have h:=lg (λp:T2=>(@l).flatMap λc=>IS rows p c) 4 (λp=>by
  show((@l).flatMap λc=>(if vD rows p.a p.b c 1=true then [iR.sl p.a p.b c 1] else [])++(if vD rows p.b p.a c (-1)=true then [iR.sl p.b p.a c (-1)] else [])).length<=4;rw[ER (λc=>vD rows p.a p.b c 1) (λc=>vD rows p.b p.a c (-1)) (λc=>iR.sl p.a p.b c 1) (λc=>iR.sl p.b p.a c (-1))];have h1:=EW d p.a p.b 1;have h2:=EW d p.b p.a (-1);lia) (CT rows)
 have:=AR rows;unfold LK;lia
theorem Uu(nd:m.Nodup)(hm:∀y,y∈m↔y∈(CT rows).map mm):(LL rows m).length<=@bA:=by
 have h1:m.length<=((CT rows).map mm).length:=lQ nd λy hy=>(hm y).mp hy;have h2:=cI (λp:T2=>O7 rows p.a p.b) m;have:=AR rows;unfold LL;rw[ag] at h1 ⊢;lia
theorem FP(rows):(Ot rows).length<=@bA:=by
 unfold Ot;rw[ag];exact cI _ _
end CY
namespace CY
open K2.P hiding aU
open K2.K3 (aU)
open K2.Mo
variable {rows:Rows}
theorem nmL(d:@n):@bA<=24:=by
 have h:=(ph ((@dG).map λp:T3=>p.a)).length_eq;rw[ag] at h;have h2:=cI (λp:T3=>p.b == 0) rows.flatten;have:=d.gJ;show(Gr _).length<=24;lia
def pC:fZ :=
 (bG (bx (aS kH @ah) (aI 1))
 (bG (bx (c9 aH) (aI 2))
 (bG (fy (hZ (aS aU @ah)) (aI 3) (bG (bx (aM fG @k (dN (ah @A (ah @as aH)))) (aI 4))
 (du (eW (aM @aq (aM fG @Y @H) @as)) (cW (mU vw gb @y (ah (dN (ah @A (ah (aM fG @Y @as) aH))) aH))) b8)))
 (bQ (cG @y)))))
def gZ:gM:=λds G Q _=>∃rows:Rows,ds=[@aj]/\@n/\Q (enc (CT rows)) G
theorem p8(ds)(G)(Q)(h:gZ ds G Q @t):pC @p @B (aT 5 ds) G:=by
 obtain⟨rows,rfl,d,q⟩:=h;have gJ:=d.gJ;have nl:=nmL d;unfold pC;simp only[↓dO,bx,aS,ah,ak,aT,↓aq,↓aK,↓af,↓ao,aN,↓aA,↓aB,↓aa,aH,aI,c9,ends,↓au,↓ai];refine⟨rows,rfl,(show @cN by lia),?_⟩;simp only[↓cG,↓aT,↓ends,↓bP,↓aM,↓yS,↓ak,↓jV,↓mU,↓ah,↓aH,↓bQ,↓Mt,↓cW,↓bx,↓aI,↓dC,↓b8,↓dN,↓c9,↓Ag,↓xK,↓xM,↓Mu,↓vP,↓pW,↓uD,↓tO,↓vY,↓gR,↓eO,↓cM,↓jA,↓aS,↓eC,↓eV,↓wZ,↓pH,↓pG,↓ju,↓jv,↓jw,↓kM,↓lq,↓qB,↓AJ,↓wX,↓AN,↓cU,↓iU,↓qA,↓ug,↓wW,↓nO,↓xO,↓uI,↓cZ,↓ly,↓oz,↓jI,↓gr,↓wg,↓AF,↓AE,↓true_and,↓and_true,↓qG,↓A1,↓fE,↓aO,↓iF,↓tm,↓A0,↓xk,↓aq,↓aK,↓aA,↓aB,↓aa,↓ae,↓ai,↓au,↓af,↓ao,↓aN,↓if_true,↓if_false,↓bI,↓a9,↓aj,↓dO,↓g6];refine⟨@f,@aN⟩;refine b6 (λτ G'=>@O/\G' p=some (.lst ((CT rows).map enc))/\∃a b,τ=[@G,some (.vX (gc @aw)),@ax,a,b]) ?_ ?_
 .intro N0 hN;simp![fy,aS,ah,ak,aH];refine⟨rows,rfl,@d,λp3 zC=>?_⟩;have n3:p≠p3:=by ext d;rw[ax] at zC;cases zC
  simp only[xm,ax];refine dZ (xs:=@l) (λpre τ G'=>@O/\G' p3=some (.lst ((@l).map enc))/\G' p=some (.lst ((pre.flatMap (O8 rows)).map enc))/\∃a b,τ=[@G,some (.vX (gc @aw)),@ax,a,b]) ⟨(eQ.new hp).trans (.new zC),ax,by rw[cL n3];exact ax,_,_,rfl⟩ (λ_ _ _ h=>h.2.1) ?_ ?_
  .rintro pre n post τ G' N2 e ⟨l,g3,gp,a,b,rfl⟩ l7;have hn:n∈@l:=by rw[e];simp
   obtain⟨v,hv⟩:=kP d (fW d hn) (w:=0) (@I);have oX:(pre.flatMap (O8 rows)).length<=24:=by
    have h1:=lg (O8 rows) 1 Fc pre;have:=congrArg c7 e;rw[av] at this;lia
   have hN':N rows @a1=@Q:=hv;simp![aI,bx,aM,ak,mI,dN,ah,dC,aH];refine⟨@f,Hk (k:=(@a1:T2)) hv ?_⟩;simp![du,aM,ak,Ii,dC,MH,cW,mU,ah,dN,aH,b8];refine gx (x:=v.b) (y:=(0:Int)) @r ?_;rw[gS,vW] at l7;by_cases c:v.b=0
   .simp![c,decide_true,gp,Ah];refine⟨@f,uO (@aV),l7 _ _ ⟨l.put hp,by rw[cL (eB n3)];exact g3,?_,_,_,rfl⟩⟩;rw[ax,aF];unfold O8;rw[hN'];simp only[c,if_true];rfl
   .simp![c,decide_false];refine l7 _ _ ⟨l,g3,?_,_,_,rfl⟩;unfold O8;rw[hN'];simp only[c,if_false,bC];exact gp
  .rintro τ G' ⟨l,_,gp,a,b,rfl⟩;exact hN _ _ ⟨l,gp,_,_,rfl⟩
 .rintro _ G' ⟨l,gp,a,b,rfl⟩;simp![bQ,cG,ak];exact fM l hp gp q
def uY:fZ :=
 (bQ (cG (eC 1 [0] (hZ (aS aU @ah)) (aI 0) (some (eW (aS j5 (ah @k @ah)))) (dN (ah (dC (.str "uncurl")) @ah)))))
def k7:gM:=λds G Q _=>∃rows:Rows,ds=[@aj]/\@n/\Q (.dg ((Ot rows).map td)) G
theorem vj(ds)(G)(Q)(h:k7 ds G Q @t):uY @p @B (aT 1 ds) G:=by
 obtain⟨rows,rfl,d,q⟩:=h;have gJ:=d.gJ;have nl:=nmL d;unfold uY;simp![bQ,cG,eC,aS,ah,ak,aT,aH,ends];refine⟨rows,rfl,@d,λp3 zC=>?_⟩;simp only[xm,ax];refine⟨zf (@aV),?_⟩;refine gH (xs:=@l) (λpr acc τ G2=>cJ G p3 (.lst ((@l).map enc))=G2/\acc=((pr.filter λn=>VU rows n).map λn=>td (.un n))/\∃b,τ=[b,@G]) ⟨rfl,rfl,_,rfl⟩ (λ_ _ _ G2 h=>by rw[<-h.1];exact ax) ?_ ?_
 .rintro pr n po acc τ G2 N3 e3 ⟨rfl,rfl,b,rfl⟩ oB;have hn:n∈@l:=by rw[e3];simp
  obtain⟨v0,h0⟩:=kP d (fW d hn) (w:=0) (@I);obtain⟨v1,h1⟩:=kP d (fW d hn) (w:=1) (@a0);simp![aI,aS,ah,ak,mI,aH,dN,dC];refine⟨rows,n,v0,v1,rfl,⟨@d,h0,h1⟩,?_⟩;have eu:(decide (v0=(@ba:T2))||decide (v1=(@a1:T2)))=VU rows n:=by
   unfold VU N;rw[pq h0,pq h1]
  rw[eu];cases c:VU rows n with
  |true=>
   simp only[↓aO,↓if_true];refine⟨@f,oB _ _ _ ⟨rfl,?_,_,rfl⟩⟩;rw[bg,aF,eG,c];rfl
  |false=>
   ext o;refine oB _ _ _ ⟨rfl,?_,_,rfl⟩;rw[bg,aF,eG,c];simp
 .rintro acc τ G2 ⟨rfl,rfl,b,rfl⟩ p4 Vg;have le:=(eQ.new (o:=.lst ((@l).map enc)) zC);refine qH (ss:=(Ot rows).map td) (le.trans (.new Vg)) (le.free Vg) ax ?_ q;unfold Ot;rw[cP];exact y8.same _
end CY
namespace CY
open K2.P hiding aU
open K2.K3 (aU)
open K2.Mo
variable {rows:Rows}
theorem GV{l:List T2}(hm:∀y,y∈m↔y∈l):∀y,y∈Gr m↔y∈l:=λy=>Ly.trans (hm y)
def zk:fZ :=
 (bG (bx (jV mV (ah (eC 1 [] (hZ (aS gZ @ah)) (aI 0) none (dN (ah (jV Iq @ah) (ah (jV Cv @ah) aH)))) aH)) (aI 1))
 (bQ (cG (eC 2 [0] (hZ @k) (pQ (hU (aI 0) (hU (aI 1) rD))) (some (eW (aS mw (ah @y (ah @g (ah @k aH)))))) (dN (ah (dC (.str "part")) (ah @g (ah @k aH))))))))
def og:gM:=λds G Q _=>∃rows:Rows,ds=[@aj]/\@n/\∀m:List T2,m.Nodup->(∀y,y∈m↔y∈(CT rows).map mm)->Q (.dg ((LL rows m).map td)) G
theorem zP(ds)(G)(Q)(h:og ds G Q @t):zk @p @B (aT 2 ds) G:=by
 obtain⟨rows,rfl,d,q⟩:=h;have gJ:=d.gJ;have nl:=nmL d;have ol:=AR rows;unfold zk;simp![bx,jV,ah,eC,aS,ak,aT,aN,aH,aI,bQ,cG,ends];refine⟨rows,rfl,d,fu ⟨zf (@aV),?_⟩⟩;refine gH (xs:=CT rows) (λpr acc τ G2=>G=G2/\acc=(pr.map mm).map enc/\∃b,τ=[b]) ⟨rfl,rfl,_,rfl⟩ @cJ ?_ ?_
 .rintro pr x po acc τ G2 N3 e3 ⟨rfl,rfl,b,rfl⟩ oB;simp![aI,dN,ah,jV,ak,Ii,aH];refine .inl ⟨[x.a,x.b],_,rfl,rfl,?_⟩;show Cv [.tup [.int x.a,.int x.b]] _ _;unfold Cv;refine⟨@f,oB _ _ _ ⟨rfl,?_,_,rfl⟩⟩;rw[aF,aF];rfl
 .rintro acc τ G2 ⟨rfl,rfl,b,rfl⟩ p1 Vh;show mV [.ref p1] _ _;unfold mV;refine⟨(CT rows).map mm,by unfold pM;simp only[ax],@aV,λm nd hm p2 nX=>?_⟩;have le:=(eQ.new (o:=.lst (((CT rows).map mm).map enc)) Vh);have hm':=GV hm;have nd':(Gr m).Nodup:=t6 nd;have hml:(Gr m).length<=(CT rows).length:=by
   have:=lQ nd' λy hy=>(hm' y).mp hy
   rwa[ag] at this
  have q:=q (Gr m) nd' hm';generalize Gr m=ms at hm' nd' hml q nX;simp only[xm,ax];refine⟨zf (@aV),?_⟩;refine gH (xs:=ms) (λpr acc τ G2=>cJ (cJ G p1 (.lst (((CT rows).map mm).map enc))) p2 (.lst (ms.map enc))=G2/\acc=((pr.filter λp=>O7 rows p.a p.b).map λp=>td (.pa p.a p.b))/\∃b c,τ=[b,c,@G]) ⟨rfl,rfl,_,_,rfl⟩ (λ_ _ _ G2 h=>by rw[<-h.1];exact ax) ?_ ?_
  .rintro pr x po acc τ G2 N3 e3 ⟨rfl,rfl,b,c,rfl⟩ oB;have hx:x∈ms:=by rw[e3];simp
   obtain⟨y,hy,rfl⟩:=List.mem_map.mp ((hm' x).mp hx);have nm:=ON d ((ox d).mp hy);have ha:(mm y).a∈@l:=by
    unfold mm;simp only;split
    .exact nm.2
    .exact nm.1
   have hb:(mm y).b∈@l:=by
    unfold mm;simp only;split
    .exact nm.2
    .exact nm.1
   obtain⟨rp,rn,rL,rK,pn,ef⟩:=paN d ha hb;generalize mm y=z at *;simp![pQ,Ii,hU,aI,rD,aS,ah,ak,aH,dN,dC];refine⟨rows,z.a,z.b,rp,rn,rL,rK,rfl,pn,?_⟩;rw[ef];cases c:O7 rows z.a z.b with
   |true=>
    simp only[↓aO,↓if_true];refine⟨@f,oB _ _ _ ⟨rfl,?_,_,_,rfl⟩⟩;rw[bg,aF,eG,c];rfl
   |false=>
    ext o;refine oB _ _ _ ⟨rfl,?_,_,_,rfl⟩;rw[bg,aF,eG,c];simp
  .rintro acc τ G2 ⟨rfl,rfl,b,c,rfl⟩ p4 Vg;have le2:=le.trans (eQ.new (o:=.lst (ms.map enc)) nX);refine qH (ss:=(LL rows ms).map td) (le2.trans (.new Vg)) (le2.free Vg) ax ?_ q;have e:(LL rows ms).map td=(ms.filter λp=>O7 rows p.a p.b).map λp=>td (.pa p.a p.b):=by unfold LL;rw[cP];rfl
   rw[e];exact y8.same _
theorem adH(d:@n)(p):((@l).flatMap λc=>IS rows p c).length<=4:=by
 show((@l).flatMap λc=>(if vD rows p.a p.b c 1=true then [iR.sl p.a p.b c 1] else [])++(if vD rows p.b p.a c (-1)=true then [iR.sl p.b p.a c (-1)] else [])).length<=4;rw[ER (λc=>vD rows p.a p.b c 1) (λc=>vD rows p.b p.a c (-1)) (λc=>iR.sl p.a p.b c 1) (λc=>iR.sl p.b p.a c (-1))];have h1:=EW d p.a p.b 1;have h2:=EW d p.b p.a (-1);lia
def wJ:fZ :=
 (bG (bx (c9 aH) (aI 1))
 (bG (fy (hZ (aS gZ @ah)) (pQ (hU (aI 2) (hU (aI 3) rD))) (fy (hZ (aS aU @ah)) (aI 4) (bG (du (eW (aS jq (ah @g (ah @y (ah @A (ah @Y (ah @H aH))))))) (cW (mU vw gb @k (ah (dN (ah (dC (.str "slide")) (ah @y (ah @A (ah @Y (ah @H aH)))))) aH))) b8)
 (du (eW (aS jq (ah @g (ah @A (ah @y (ah @Y (ah (yS Df @H) aH))))))) (cW (mU vw gb @k (ah (dN (ah (dC (.str "slide")) (ah @A (ah @y (ah @Y (ah (yS Df @H) aH)))))) aH))) b8))))
 (bQ (cG @k))))
def mr:gM:=λds G Q _=>∃rows:Rows,ds=[@aj]/\@n/\Q (.dg ((LK rows).map td)) G
theorem xT(ds)(G)(Q)(h:mr ds G Q @t):wJ @p @B (aT 5 ds) G:=by
 obtain⟨rows,rfl,d,q⟩:=h;have gJ:=d.gJ;have nl:=nmL d;have ol:=AR rows;unfold wJ;simp only[↓dO,bx,c9,aH,↓ao,aI,ends,aT,↓aq,↓aK,↓af,aN,↓aA,↓aB,↓au,↓ai];refine⟨@f,@aN⟩;refine b6 (λτ G'=>@O/\G' p=some (.lst ((LK rows).map td))/\∃a b c,τ=[@G,@ax,a,b,c]) ?_ ?_
 .intro N0 hN;simp![fy,aS,ah,ak,aH];refine⟨rows,rfl,d,fu ?_⟩;refine dZ (xs:=CT rows) (λpre τ G'=>@O/\G' p=some (.lst ((pre.flatMap λp=>(@l).flatMap λc=>IS rows p c).map td))/\∃a b c,τ=[@G,@ax,a,b,c]) ⟨.new hp,ax,_,_,_,rfl⟩ @aQ ?_ ?_
  .rintro pre x post τ G' N2 e ⟨l,gp,a,b,c,rfl⟩ l7;have hx:x∈CT rows:=by rw[e];simp
   have nm:=ON d ((ox d).mp hx);have oX:pre.length<=24:=by have:=congrArg c7 e;rw[av] at this;lia
   simp![pQ,Ii,hU,aI,rD,fy,aS,ah,ak,aH];refine⟨rows,rfl,@d,λp3 zC=>?_⟩;have n3:p≠p3:=by ext d;rw[gp] at zC;cases zC
   simp only[xm,ax];rw[gS,vW] at l7;generalize hL:(pre.flatMap λp=>(@l).flatMap λc=>IS rows p c)=L at gp l7;have hLl:L.length<=96:=by
    rw[<-hL];have:=lg (λp:T2=>(@l).flatMap λc=>IS rows p c) 4 (λp=>adH d p) pre;lia
   refine dZ (xs:=@l) (λcs τ G'=>@O/\G' p3=some (.lst ((@l).map enc))/\G' p=some (.lst ((L++cs.flatMap λc=>IS rows x c).map td))/\∃c,τ=[@G,@ax,some (.int x.a),some (.int x.b),c]) ⟨l.trans (.new zC),ax,by rw[cL n3,List.flatMap_nil,bC];exact gp,_,rfl⟩ (λ_ _ _ h=>h.2.1) ?_ ?_
   .rintro cs n po τ G2 N3 e3 ⟨l2,g3,gp2,c,rfl⟩ oB;have hn:n∈@l:=by rw[e3];simp
    have xp:cs.length<=24:=by have:=congrArg c7 e3;rw[av] at this;lia
    have hMl:(L++cs.flatMap λc=>IS rows x c).length<=144:=by
     have h3:∀(c:Int),(IS rows x c).length<=2:=λc=>by unfold IS;rw[av];split<;>split<;>simp
     have:=lg (λc=>IS rows x c) 2 h3 cs;rw[av];lia
    rw[gS,vW,<-bp] at oB;generalize (L++cs.flatMap λc=>IS rows x c)=M at gp2 oB hMl;have s1:WE rows x.a x.b n 1:=⟨d,fW d nm.1,fW d nm.2,fW d hn,@I⟩;have s2:WE rows x.b x.a n (-1):=⟨d,fW d nm.2,fW d nm.1,fW d hn,@a0⟩;simp only[aI,↓au,↓ai,mI];refine b6 (λτ G'=>@O/\G' p3=some (.lst ((@l).map enc))/\G' p=some (.lst ((M++(if vD rows x.a x.b n 1=true then [iR.sl x.a x.b n 1] else [])).map td))/\τ=[@G,@ax,some (.int x.a),some (.int x.b),some (.int n)]) ?_ ?_
    .intro N4 hN4;simp![du,aS,ah,ak,dC,aH,cW,mU,dN,b8];refine⟨rows,x.a,x.b,n,1,rfl,s1,?_⟩;cases cc:vD rows x.a x.b n 1 with
     |true=>
      simp![gp2];refine⟨@f,uO (@aV),hN4 _ _ ⟨l2.put hp,by rw[cL (eB n3)];exact g3,?_,rfl⟩⟩;rw[ax,cc,if_pos rfl,aF];rfl
     |false=>
      ext o;refine hN4 _ _ ⟨l2,g3,?_,rfl⟩;rw[cc,if_neg @r,bC];exact gp2
    .rintro _ G5 ⟨l5,g5,gp5,rfl⟩;have ae3:(M++(if vD rows x.a x.b n 1=true then [iR.sl x.a x.b n 1] else [])).length<=145:=by
      rw[av];split<;>simp<;>lia
     have eT:IS rows x n=(if vD rows x.a x.b n 1=true then [iR.sl x.a x.b n 1] else [])++(if vD rows x.b x.a n (-1)=true then [iR.sl x.b x.a n (-1)] else []):=rfl;rw[eT,<-bp] at oB;generalize (M++(if vD rows x.a x.b n 1=true then [iR.sl x.a x.b n 1] else []))=M2 at gp5 oB ae3;simp![du,aS,ah,ak,yS,dC,aH,cW,mU,dN,b8];refine⟨rows,x.b,x.a,n,-1,rfl,s2,?_⟩;cases cc:vD rows x.b x.a n (-1) with
     |true=>
      simp![gp5];refine⟨@f,uO (@aV),oB _ _ ⟨l5.put hp,by rw[cL (eB n3)];exact g5,?_,_,rfl⟩⟩;rw[ax,cc,if_pos rfl,aF];rfl
     |false=>
      ext o;refine oB _ _ ⟨l5,g5,?_,_,rfl⟩;rw[cc,if_neg @r,bC];exact gp5
   .rintro τ G2 ⟨l2,_,gp2,c,rfl⟩;exact l7 _ _ ⟨l2,gp2,_,_,_,rfl⟩
  .rintro τ G' ⟨l,gp,a,b,c,rfl⟩;exact hN _ _ ⟨l,gp,_,_,_,rfl⟩
 .rintro _ G' ⟨l,gp,a,b,c,rfl⟩;simp![bQ,cG,ak];exact qH (ss:=(LK rows).map td) l hp gp (y8.same _) q
theorem TJ{l:List iR}(h:∀m∈l,oS WQ (td m)=true):(l.map td).all (oS WQ)=true:=by
 rw[kC];intro x hx;obtain⟨m,hm,rfl⟩:=@du;exact h m hm
def wL:fZ :=
 (bQ (cG (jV (nM [("part",[.int,.int]),("slide",[.int,.int,.int,.int]),("uncurl",[.int])]) (ah (aM ik (aM ik (aS og @ah) (aS mr @ah)) (aS k7 @ah)) aH))))
def iZ:gM:=λds G Q _=>∃rows:Rows,ds=[@aj]/\(@n/\@bA<=10)/\Q (.dg ((@br).map td)) G
theorem xV(ds)(G)(Q)(h:iZ ds G Q @t):wL @p @B (aT 1 ds) G:=by
 obtain⟨rows,rfl,⟨d,hn⟩,q⟩:=h;unfold wL;simp![bQ,cG,jV,ah,aM,aS,ak,aT,aH,ends];refine⟨rows,rfl,d,λm nd hm=>⟨rows,rfl,d,?_⟩⟩;have l1:=Uu (rows:=rows) nd hm;have l2:=Ut d;have l3:=FP rows;have pp:=Nw d nd hm;refine mz .dg .dg (zf (by rw[ag,ag];lia)) λp1 Vh=>?_;rw[<-aF];refine⟨rows,rfl,d,?_⟩;refine mz (.ref ax) .dg (zf (by rw[ag,av,ag];lia)) λp2 nX=>?_;rw[<-aF];show nM WQ [.ref p2] _ _;unfold nM;have hw:∀x∈LL rows m++LK rows++Ot rows,oS WQ (td x)=true:=λx hx=>FN (pp.mem_iff.mp hx);refine⟨(LL rows m++LK rows++Ot rows).map td,by simp only[vw,ax],by simp only[itemsOf,ax],⟨TJ hw,@al,by rw[ag,av,av];lia⟩,λys hy hs p3 zC=>?_⟩;have e:=KD d (hy.trans (pp.map td)) hs;subst e;have le:=(eQ.new (o:=.lst ((LL rows m++LK rows).map td)) Vh).trans (eQ.new (o:=.lst ((LL rows m++LK rows++Ot rows).map td)) nX);exact qH (ss:=(@br).map td) (le.trans (.new zC)) (le.free zC) ax (y8.same _) q
end CY
namespace CY
open K2.P hiding aU
open K2.Mo
open K2.Gd (rC nE gv)
variable {rows:Rows}
def Vt(rows:Rows)(a:Int)(bs:@u):List iR:=(bs.filter λb=>decide (a<b)&&O7 rows a b).map λb=>iR.pa a b
theorem R6(a)(bs):(Vt rows a bs).length<=bs.length:=by
 unfold Vt;rw[ag];exact cI _ _
end CY
namespace CY
open K2.P hiding aU
open K2.Mo
open K2.Gd (rC nE gv)
variable {rows:Rows}
def duB(rows:Rows)(a b:Int):List iR:=if ZM rows a b=true then(@l).flatMap λc=>Vs rows a b c else []
theorem Vr(a b c):(Vs rows a b c).length<=2:=by
 unfold Vs;rw[ag];exact cI _ _
theorem Vv(nl:@bA<=10)(a b):(duB rows a b).length<=20:=by
 unfold duB;split
 .have:=lg (λc=>Vs rows a b c) 2 (Vr a b) (@l);lia
 .simp
theorem Em(nl:@bA<=10):(Vu rows).length<=100:=by
 have:=lg (λa=>Vt rows a (@l)) 10 (λa=>by have:=R6 (rows:=rows) a (@l);lia) (@l);show((@l).flatMap λa=>Vt rows a (@l)).length<=100;lia
theorem El(nl:@bA<=10):(YV rows).length<=2000:=by
 have:=lg (λa=>(@l).flatMap λb=>duB rows a b) 200 (λa=>by have:=lg (λb=>duB rows a b) 20 (Vv nl a) (@l);lia) (@l);show((@l).flatMap λa=>(@l).flatMap λb=>duB rows a b).length<=2000;lia
end CY
namespace K29
open K2.P K2.rN
open K2.K3
variable {rows:Rows}
theorem t7(h:rows≠[]):@av≠[]:=λz=>by
 have:=Na h 0;have e:=zg rows 0;rw[z] at e;exact this (List.map_eq_nil_iff.mp e)
end K29
namespace SI
open K2.P hiding aU
open K2.Mo
open K2.rf (bN)
open K2.rN (HR)
open K2.IX (ZN)
open K2.K29 (t7)
open K2.K3 (DF)
theorem VY:∀{rows:Rows} {k:Nat},@bE->p.s∈bL rows k
 |r::rows,k,h=>by
  rw[bL];rcases List.mem_append.mp (@bZ:p∈r++rows.flatten) with h |h
  .refine bM _ ?_;unfold bK;rw[if_neg (List.ne_nil_of_mem h)];exact List.mem_map.mpr ⟨p,h,rfl⟩
  .exact bD _ (VY h)
end SI
namespace CY
open K2.P hiding aU
open K2.Mo
variable {rows:Rows}
theorem LH{α:Type} [@W] [@ai]{xs:@s}{d:D}{k:Int}{G:Gp}{Q:DK}(h:IsL G d @aY)(h0:0<=k)(h1:k<xs.length)(q:∀x∈xs,Q (enc x) G):fG d (.int k) G Q:=by
 have hi:k.toNat<xs.length:=@d
 refine fL (x:=enc (xs[k.toNat])) h ?_ (q _ (bU hi));rw[i8 _ h0 (@aV),dj]
end CY
namespace CJ
open K2.P hiding aU
open K2.Mo
open K2.Gd (rC nE gv)
open K2.CY (Vu uC paN fW ON)
variable {rows:Rows}
noncomputable def adds:iR->Nat
 |.cu ..=>2 |.la ..=>4 |_=>0
def Ge(rows:Rows)(m:iR):Prop:=kX rows m/\adds m=0
theorem Mf(d:@n)(h:m∈Vu rows):Ge rows m:=by
 obtain⟨a,b,⟨ha,hb⟩,lt,hp,rfl⟩:=uC.mp h;obtain⟨rp,rn,rL,rK,pn,ef⟩:=paN d ha hb;exact⟨YN d pn @c (by rw[ef];exact hp),rfl⟩
end CJ
namespace K23
open K2.P hiding aU
open K2.Mo
open K2.rf (bN)
open K2.rN (HR)
open K2.Gd (rC gv)
def oj:fZ :=
 (bQ (cG (jV pY (ah (eC 1 [] (hZ (aS j7 @ah)) (aI 0) (some (eW (aM @aq (aM fG @g @H) @as))) @cI) aH))))
theorem zQ(ds)(G)(Q)(h:K3.aU ds G Q @t):oj @p @B (aT 1 ds) G:=by
 obtain⟨rows,rfl,hl,q⟩:=h;unfold oj;simp![bQ,cG,jV,ah,eC,aS,ak,aT,aH,ends];refine⟨rows,rfl,(show @dO by lia),fu ⟨zf (by rw[ag];show @dO;lia),?_⟩⟩;refine gH (xs:=rows.flatten) (λpre acc τ G'=>G=G'/\(∃a,τ=[a])/\acc=((pre.filter λp=>p.b == 0).map (·.a)).map enc) ⟨rfl,@S,rfl⟩ @cJ ?_ ?_
 .rintro pre x post acc τ G' N e ⟨rfl,⟨a,rfl⟩,rfl⟩ hN;simp![aI,aM,ak,↓nJ,dC,↓MH,↓Ah];refine⟨_,_,@P,@P,?_⟩;simp![nI];split
  .rename_i h;refine hN _ _ _ ⟨rfl,@S,?_⟩;simp[bg,eG,h,mI]
  .rename_i h;refine hN _ _ _ ⟨rfl,@S,?_⟩;simp[bg,eG,h]
 .rintro acc τ G' ⟨rfl,⟨a,rfl⟩,rfl⟩ p hp;refine zN (IsL.ref ax) (by rw[ag];exact rJ (cI _ _) hl) λp2 nX=>?_;exact Ko ((eQ.new hp).trans (.new nX)) ((eQ.new hp).free nX) ax (q _ ((eQ.new hp).free nX))
end K23
namespace IW
open K2.P hiding aU
open K2.Mo
open K2.CJ (kX rM)
open K2.CY (LH)
open K2.K29 (t7)
open K2.JT (i3)
open K2.JE (da Pj Dg)
open K2.JB (eI)
open K2.Gd (dB lu iO)
theorem yE(d:@n)(h:m∉@aS):∀p∈rows.flatten,p.a≠m:=λp hp e=>by
 refine h ?_;unfold lu;rcases d.way p hp with w |w
 .exact List.mem_map.mpr ⟨p,List.mem_filter.mpr ⟨hp,by simp[w]⟩,e⟩
 .exact List.mem_map.mpr ⟨⟨p.a,1-p.b,p.c⟩,List.mem_filter.mpr ⟨d.rz p hp,by simp[w]⟩,e⟩
def zr:fZ :=
 (bG (bx (aS i3 @ah) (aI 2))
 (bG (bx (aS da (ah (cG @k) (ah (cG (c9 (ah (dC (.int 5)) (ah (dC (.int 999)) (ah (jV nP (ah @y aH)) (ah @ad (ah @ad aH))))))) aH))) (aI 3))
 (bQ (cG (dN (ah (dC (.str "curl")) (ah (aS eI (ah (aS dB @ah) (ah (aM ik @H (aM fG @A @H)) aH))) (ah (aM fG @y (aM fG @A @ad)) (ah (aM fG @A (dC (.int 3))) (ah (aM BH @H (aM my @ad (aM fG @A (dC (.int 4))))) aH))))))))))
def sH:gM:=λds G Q _=>∃(rows:Rows) (c:Int),ds=[@aj,.int c]/\(@n/\rows≠[]/\@dH)/\∀n s f h,kX rows (.cu n s f h)->Q (td (.cu n s f h)) G
theorem IG(ds)(G)(Q)(h:sH ds G Q @t):zr @p @B (aT 4 ds) G:=by
 obtain⟨rows,c,rfl,⟨d,iV,gJ⟩,q⟩:=h;have sl:=yv d;have pos:=List.length_pos_iff.mpr (t7 iV);have ol:=iO rows.flatten;unfold zr;refine b6 (λτ G'=>G=G'/\τ=[@G,@bS,some (enc (@av)),none]) ?_ ?_
 .intro N hN;simp![bx,aS,ah,ak,aT,aN,aH,aI];exact⟨rows,rfl,d,hN _ _ @ao⟩
 ext r;refine b6 (λτ G'=>G=G'/\∃a b k e f:Int,(0<=b/\b<999)/\(0<=k/\k<(@av).length)/\(0<=e/\e<2)/\(0<=f/\f<2)/\τ=[@G,@bS,some (enc (@av)),some (enc [a,b,k,e,f])]) ?_ ?_
 .intro N hN;simp![bx,aS,ah,cG,ak,c9,dC,jV,aH,aI];refine cp (mJ (IsL.enc (@av)) ?_);rw[ag];refine⟨@f,@aN⟩;refine fM (xs:=[5,999,((@av).length:Int),2,2]) @a4 hp ax ?_;refine⟨c,_,rfl,⟨@L,λs hs=>by simp at hs;lia⟩,λfs hf=>?_⟩
  match fs,hf with
  |[a,b,k,e,f],⟨_,hb,hk,he,hf,_⟩=>exact hN _ _ ⟨rfl,a,b,k,e,f,hb,hk,he,hf,rfl⟩
 rintro _ _ ⟨rfl,a,b,k,e,f,hb,hk,he,hf,rfl⟩;simp![bQ,cG,dN,ah,dC,aS,ak,aH,aM,ends];refine⟨rows,rfl,(show @cN by lia),fL (x:=.int b) (IsL.enc [a,b,k,e,f]) rfl ?_⟩;simp only[↓eV];refine⟨_,@aS,1+b,rfl,IsL.enc _,@d,λm hm h1 h2=>fL (x:=.int k) (IsL.enc [a,b,k,e,f]) rfl (LH (IsL.enc (@av)) hk.1 hk.2 λs hs=>fL (x:=.int e) (IsL.enc [a,b,k,e,f]) rfl (fL (x:=.int f) (IsL.enc [a,b,k,e,f]) rfl ?_))⟩;simp only[↓jv,↓ju];refine⟨by first |exact .inl ⟨@f,@f⟩ |exact .inr ⟨@f,@f⟩,@f,?_⟩;exact cp (q m s e (1-2*f) ⟨⟨d,cm gJ @r,hs,yE d hm⟩,@d,@d⟩)
theorem sW(h:u≠o\/o.b≠2):∀(rows:Rows) (k:Nat),u∈bL rows k->u∈bL (lr o ps rows k) k
 |[],k,hu=>hu
 | r ::rs,k,hu=>by
  rw[lr,bL];rw[bL] at hu;refine List.mem_append.mpr ?_;rcases List.mem_append.mp hu with hv |hv
  .clear hu;have hu:=hv;clear hv;left;unfold bK at hu;split at hu
   .rename_i e;subst e;rw[bV] at hu;subst hu;have:jh o ps k []=[]:=by
     unfold jh;rw[if_neg]
     .rfl
     .intro e;rcases h with h |h
      .exact h e.symm
      .exact h (by rw[e])
    rw[this];exact @dA
   .obtain⟨p,hp,rfl⟩:=List.mem_map.mp hu;have hm:p∈jh o ps k r:=by
     unfold jh;refine bD _ (List.mem_flatMap.mpr ⟨p,hp,?_⟩);unfold JN;split<;>simp
    unfold bK;rw[if_neg (List.ne_nil_of_mem hm)];exact List.mem_map.mpr ⟨p,hm,rfl⟩
  .exact .inr (sW h rs (k+1) hv)
theorem Jv(hf:∀p∈rows.flatten,p.a≠n)(h:(⟨n,w⟩:T2)∈@av)(hw:autoParam (w≠2) Ad._auto_1):False:=by
 have go:∀(rs:Rows) (k:Nat),(∀p∈rs.flatten,p.a≠n)->(⟨n,w⟩:T2)∈bL rs k->False:=by
  intro rs;induction rs with
  |nil=>intro k _ h;cases h
  | cons r rs ih=>
   intro k hf h;rw[bL] at h;ext B
   .unfold bK at h;split at h
    .rw[bV] at h;exact hw (congrArg T2.b h)
    .obtain⟨p,hp,e⟩:=@c_;exact hf p (by rw[aX];exact bM _ hp) (@cS)
   .exact ih _ (λp hp=>hf p (by rw[aX];exact bD _ hp)) h
 exact go rows 0 hf h
def BD:fZ :=
 (bG (bx (aS i3 @ah) (aI 2))
 (bG (bx (aS da (ah (cG @k) (ah (cG (c9 (ah (dC (.int 5)) (ah (dC (.int 999)) (ah (dC (.int 999)) (ah (jV nP (ah @y aH)) (ah (jV nP (ah @y aH)) (ah (dC (.int 6)) (ah @ad (ah @ad aH)))))))))) aH))) (aI 3))
 (bG (bx (aS eI (ah (aS dB @ah) (ah (aM ik @H (aM fG @A @H)) aH))) (aI 4))
 (bG (bx (aS eI (ah (aM ik (aS dB @ah) (c9 (ah @Y aH))) (ah (aM ik @H (aM fG @A @ad)) aH))) (aI 5))
 (bG (bx (aM fG @y (aM fG @A (dC (.int 3)))) (aI 6))
 (bG (bx (aM fG @y (aM fG @A (dC (.int 4)))) (aI 7))
 (bG (du (Mu (eW (aM @aq (aM fG @A (dC (.int 5))) @as)) (xM (eW (aM @aq (aM fG (ak 6) @H) @ad)) (eW (aM @aq (ak 7) (ak 6))))) (bx (dN (ah (ak 5) (ah @as aH))) (aI 7)) b8)
 (bQ (cG (dN (ah (dC (.str "lay")) (ah @Y (ah (ak 5) (ah (ak 6) (ah (ak 7) (ah (aM fG @A (dC (.int 6))) (ah (aM BH @H (aM my @ad (aM fG @A (dC (.int 7))))) aH)))))))))))))))))
def vC:gM:=λds G Q _=>∃(rows:Rows) (c:Int),ds=[@aj,.int c]/\(@n/\rows≠[]/\@dH)/\∀m,kX rows m->(∃a b o u t h,m=.la a b o u t h)->Q (td m) G
theorem KR(ds)(G)(Q)(h:vC ds G Q @t):BD @p @B (aT 8 ds) G:=by
 obtain⟨rows,c,rfl,⟨d,iV,gJ⟩,q⟩:=h;have sl:=yv d;have pos:=List.length_pos_iff.mpr (t7 iV);have ol:=iO rows.flatten;unfold BD
 let T:@bc->@bc->@bc->@bc->@bc->iw:=λx3 x4 x5 x6 x7=>[@G,@bS,some (enc (@av)),x3,x4,x5,x6,x7]
 refine b6 (λτ G'=>G=G'/\τ=T none none none none none) ?_ ?_
 .intro N hN;simp![bx,aS,ah,ak,aT,aN,aH,aI];exact⟨rows,rfl,d,hN _ _ @ao⟩
 ext r;refine b6 (λτ G'=>G=G'/\∃v a b k l e f g:Int,(0<=a/\a<999)/\(0<=b/\b<999)/\(0<=k/\k<(@av).length)/\(0<=l/\l<(@av).length)/\(0<=f/\f<2)/\(0<=g/\g<2)/\τ=T (some (enc [v,a,b,k,l,e,f,g])) none none none none) ?_ ?_
 .intro N hN;simp![bx,aS,ah,cG,ak,c9,dC,jV,aH,aI,T];refine cp (mJ (IsL.enc (@av)) (mJ (IsL.enc (@av)) ?_));rw[ag];refine⟨@f,@aN⟩;refine fM (xs:=[5,999,999,((@av).length:Int),((@av).length:Int),6,2,2]) @a4 hp ax ?_;refine⟨c,_,rfl,⟨@L,λs hs=>by simp at hs;lia⟩,λfs hf=>?_⟩
  match fs,hf with
  |[v,a,b,k,l,e,f,g],⟨_,ha,hb,hk,hl,_,hf,hg,_⟩=>exact hN _ _ ⟨rfl,v,a,b,k,l,e,f,g,ha,hb,hk,hl,hf,hg,rfl⟩
 rintro _ _ ⟨rfl,v,a,b,k,l,e,f,g,ha,hb,hk,hl,hf,hg,rfl⟩;refine b6 (λτ G'=>G=G'/\∃n,n∉@aS/\τ=T (some (enc [v,a,b,k,l,e,f,g])) (some (.int n)) none none none) ?_ ?_
 .intro N hN;simp![bx,aS,ah,ak,aH,aM,dC,aI,T];refine⟨rows,rfl,(show @cN by lia),fL (x:=@aB) (IsL.enc [v,a,b,k,l,e,f,g]) rfl ?_⟩;simp only[↓eV];exact⟨_,@aS,1+a,rfl,IsL.enc _,@d,λm hm h1 h2=>hN _ _ ⟨rfl,m,hm,rfl⟩⟩
 rintro _ _ ⟨rfl,n,hn,rfl⟩;refine b6 (λτ G'=>@O/\∃m,m∉@aS++[n]/\τ=T (some (enc [v,a,b,k,l,e,f,g])) (some (.int n)) (some (.int m)) none none) ?_ ?_
 .intro N hN;simp![bx,aS,ah,aM,ak,aH,c9,dC,aI,T];refine⟨rows,rfl,(show @cN by lia),⟨@f,λp1 f1=>?_⟩⟩;refine mz (IsL.enc (@aS)) (.ref ax) (zf (by simp only[ag,af,ao];lia)) λp2 f2=>?_;refine fL (x:=.int b) (IsL.enc [v,a,b,k,l,e,f,g]) rfl ?_;simp only[↓eV];exact⟨_,@aS++[n],1+b,rfl,.ref (by rw[ax,aF];rfl),⟨by rw[av];simp;lia,@d,@d⟩,λm hm h1 h2=>hN _ _ ⟨(eQ.new f1).trans (.new f2),m,hm,rfl⟩⟩
 rintro _ G2 ⟨l2,m,hm,rfl⟩;have hm1:m∉@aS:=λz=>hm (bM _ z);have ZH:n≠m:=λz=>hm (by rw[z];simp);refine b6 (λτ G'=>G2=G'/\∃o,o∈@av/\τ=T (some (enc [v,a,b,k,l,e,f,g])) (some (.int n)) (some (.int m)) (some (enc o)) none) ?_ ?_
 .intro N hN;simp![bx,aM,ak,dC,aI,T];exact fL (x:=.int k) (IsL.enc [v,a,b,k,l,e,f,g]) rfl (LH (IsL.enc (@av)) hk.1 hk.2 λs hs=>hN _ _ ⟨rfl,s,hs,rfl⟩)
 rintro _ _ ⟨rfl,o,ho,rfl⟩;refine b6 (λτ G'=>G2=G'/\∃u,u∈@av/\τ=T (some (enc [v,a,b,k,l,e,f,g])) (some (.int n)) (some (.int m)) (some (enc o)) (some (enc u))) ?_ ?_
 .intro N hN;simp![bx,aM,ak,dC,aI,T];exact fL (x:=.int l) (IsL.enc [v,a,b,k,l,e,f,g]) rfl (LH (IsL.enc (@av)) hl.1 hl.2 λs hs=>hN _ _ ⟨rfl,s,hs,rfl⟩)
 rintro _ _ ⟨rfl,u,hu,rfl⟩;refine b6 (λτ G'=>G2=G'/\∃w,(w=⟨m,0⟩\/(w∈@av/\(w≠o\/o.b≠2)))/\τ=T (some (enc [v,a,b,k,l,e,f,g])) (some (.int n)) (some (.int m)) (some (enc o)) (some (enc w))) ?_ ?_
 .intro N hN;simp![du,Mu,aM,ak,dC,bx,dN,ah,aH,aI,b8,xM,T];refine fL (x:=.int e) (IsL.enc [v,a,b,k,l,e,f,g]) rfl (gx (x:=e) (y:=(0:Int)) @r ?_);by_cases c1:e=0
  .subst c1;simp![decide_true];exact⟨@f,hN _ _ ⟨rfl,⟨m,0⟩,@I,rfl⟩⟩
  simp![c1,decide_false,YS,MH];refine gx (x:=o.b) (y:=(2:Int)) @r ?_;by_cases c2:o.b=2
  .simp![c2,decide_true];have z:∀{Q:DK},Q (.bl (decide (u=o))) G2->l6 false (.tup [.int u.a,.int u.b]) (.tup [.int o.a,.int 2]) G2 Q:=λh=>by
    rw[<-c2];exact gx (x:=u) (y:=o) @r h
   refine z ?_;by_cases c3:u=o
   .simp![c3,decide_true];exact⟨@f,hN _ _ ⟨rfl,⟨m,0⟩,@I,by rw[<-c2];rfl⟩⟩
   .simp![c3,decide_false];exact hN _ _ ⟨rfl,u,.inr ⟨hu,.inl c3⟩,by rw[<-c2];rfl⟩
  .simp![c2,decide_false];exact hN _ _ ⟨rfl,u,.inr ⟨hu,.inr c2⟩,rfl⟩
 rintro _ _ ⟨rfl,w,hw,rfl⟩;simp![bQ,cG,dN,ah,dC,ak,aM,aH,ends,T];refine fL (x:=.int f) (IsL.enc [v,a,b,k,l,e,f,g]) rfl (fL (x:=.int g) (IsL.enc [v,a,b,k,l,e,f,g]) rfl ?_);simp only[↓jv,↓ju];have fn:=yE d hn;have fm:=yE d hm1;have hh:(1-2*g=1\/1-2*g=-1):=@d
 have pp:=kh (ps:=AW n m 0 (1-2*g)) d.dn (zU ho);have L:OQ rows n m o w f (1-2*g):=by
  refine⟨d,gJ,ZH,fn,fm,ho,?_,?_,@d,hh⟩
  .rcases hw with rfl |⟨h1,h2⟩
   .exact SI.VY (pp.mem_iff.mpr (bM _ (show(⟨m,0,-(1-2*g)⟩:T3)∈AW n m 0 (1-2*g) by simp[AW])))
   .exact sW h2 rows 0 h1
  .rcases hw with rfl |⟨h1,_⟩
   .exact λz=>ZH (congrArg T2.a z).symm
   .rintro rfl;exact Jv fn h1
 refine⟨by first |exact .inl ⟨@f,@f⟩ |exact .inr ⟨@f,@f⟩,@f,?_⟩;exact um l2 (q (.la n m o w f (1-2*g)) L ⟨_,_,_,_,_,_,rfl⟩)
open K2.JB (dJ)
open K2.rF (fY)
open K2.T (HL.fz)
open K2.CY (zK iZ uB A6 fW VU N)
open K2.CJ (Ge Mf adds RT)
theorem FO(d:@n)(h:m∈@br):Ge rows m:=by
 unfold zK at h;ext B
 .rcases List.mem_append.mp h with h |h
  .exact Mf d h
  .obtain⟨a,b,c,t,⟨ha,hb,hc⟩,_,ht,hs,rfl⟩:=uB.mp h;exact⟨⟨⟨d,fW d ha,fW d hb,fW d hc,ht.symm⟩,hs⟩,rfl⟩
 .obtain⟨n,hn,hu,rfl⟩:=A6.mp h;refine⟨RT d (fW d hn) ?_,rfl⟩;unfold VU at hu;rcases(dP _ _).mp hu with c |c
  .exact .inl (of_decide_eq_true c)
  .exact .inr (of_decide_eq_true c)
end IW
namespace IW
open K2.P hiding aU
open K2.Mo
open K2.CJ (kX rM Ge adds sE ng wm)
open K2.IX (GQ)
open K2.SI (GP)
open K2.JE (da Pj Dg)
open K2.JB (dJ)
open K2.rF (fY)
open K2.T (HL.fz)
open K2.CY (zK iZ Em El FP)
theorem Z5(G)(m):Sn G 6 (td m) (td m):=by
 have s:∀x:Str,x.cps.all (·<0x110000)=true->Sn G 5 (.str x) (.str x):=λx h=>.str x h;have t2:∀x:T2,Sn G 5 (enc x) (enc x):=λx=>.fH (@P) (.fH (@P) .vA);cases m with
 |un n=>exact .fH (s "uncurl" (@al)) (.fH (@P) .vA)
 |cu n p f h=>exact .fH (s "curl" (@al)) (.fH (@P) (.fH (t2 p) (.fH (@P) (.fH (@P) .vA))))
 |pa a b=>exact .fH (s "part" (@al)) (.fH (@P) (.fH (@P) .vA))
 |la a b o u t h=>exact .fH (s "lay" (@al)) (.fH (@P) (.fH (@P) (.fH (t2 o) (.fH (t2 u) (.fH (@P) (.fH (@P) .vA))))))
 |sl a b c t=>exact .fH (s "slide" (@al)) (.fH (@P) (.fH (@P) (.fH (@P) (.fH (@P) .vA))))
theorem Jy(G):∀ms:List iR,Sn G 7 (.dg (ms.map td)) (.dg (ms.map td))
 |[]=>.zV
 |m::ms=>.u7 (Z5 G m) (Jy G ms)
theorem Sn.up(h:Sn G n d t):Sn G (n+1) d t:=by
 induction h with
 |cY=>exact .cY
 |bl b=>exact .bl b
 |int i=>exact @M
 |str x h=>exact .str x h
 |vA=>exact .vA
 |fH _ _ a b=>exact .fH a b
 |zV=>exact .zV
 |u7 _ _ a b=>exact .u7 a b
 |ref g _ ih=>exact .ref g ih
theorem RW{neg:Bool}{ms:List iR}{x:D}{p:Nat}{G:Gp}{Q:DK}(hx:Sn G 7 x (.dg (ms.map td)))(g:G p=some (.lst []))(q:Q (.bl (if neg then !decide (ms=[]) else decide (ms=[]))) G):l6 neg x (@V) G Q:=by
 refine⟨.dg (ms.map td),.dg [],Sn.up hx,.ref g .zV,?_⟩;have e:iq (.dg (ms.map td)) (.dg [])=decide (ms=[]):=by cases ms<;>rfl
 rw[e];cases neg<;>exact q
noncomputable def B4:iR->Bool
 |.sl ..=>true
 |_=>false
def u4:fZ :=
 (bG (bx (cG (aS iZ (ah (cG (aS dJ @ah)) aH))) (aI 3))
 (bG (du (xM (eW @y) (eW (aM (l6 true) (eC 1 [] (hZ @A) (aI 0) (some (eW (aM @aq @cI (dC (.str "slide"))))) @g) (c9 aH)))) (Sb 3 (bx (eC 1 [] (hZ @A) (aI 0) (some (eW (aM @aq @cI (dC (.str "slide"))))) @g) (aI 3))) b8)
 (bG (du (eW (aM @aq @A (c9 aH))) (bQ (cG (dC .cY))) b8)
 (bQ (cG (aM fG @A (aM fG (aS da (ah (cG @k) (ah (cG (c9 (ah (dC (.int 5)) (ah (jV nP (ah @A aH)) aH)))) aH))) @H)))))))
def k9:gM:=λds G Q _=>∃(rows:Rows) (c:Int) (b:Bool),ds=[@aj,.int c,.bl b]/\(@n/\@bA<=10)/\Q .cY G/\∀m,Ge rows m->Q (td m) G
theorem DA(ds)(G)(Q)(h:k9 ds G Q @t):u4 @p @B (aT 4 ds) G:=by
 obtain⟨rows,c,b,rfl,⟨d,gJ⟩,q0,q⟩:=h;obtain⟨Ma,Pa,hl3⟩:=tK d;have dl:(@br).length<=3000:=by
  have l1:=Em gJ;have l2:=El gJ;have l3:=FP rows;unfold zK;rw[av,av];lia
 unfold u4;refine b6 (λτ G'=>G=G'/\τ=[@G,@bS,some (.bl b),some (.dg ((@br).map td))]) ?_ ?_
 .intro N hN;simp![bx,cG,aS,ah,ak,aT,aN,aH,aI];refine⟨_,by rw[fY],@aV,λG' p as hh=>HL.fz hh ?_⟩;rw[<-fY];exact⟨rows,rfl,⟨d,gJ⟩,cp (hN _ _ @ao)⟩
 ext r;have comp:∀{G1:Gp} {τ0:iw} {Q:@e->@E},(∃a,τ0=[a])->Q (((@br).filter B4).map td) G1->iX (aI 0) (some (eW (aM @aq (aM fG @g (dC (D.int 0))) (dC (D.str "slide"))))) @g @bd ((@br).map td) @p τ0 G1 [] Q:=by
  rintro G1 τ0 Q ⟨a0,rfl⟩ hQ;refine gH (xs:=@br) (λpr acc τ G'=>G1=G'/\acc=(pr.filter B4).map td/\∃a,τ=[a]) ⟨rfl,rfl,_,rfl⟩ @cJ ?_ ?_
  .rintro pr x po acc τ G' N e ⟨rfl,rfl,a,rfl⟩ hN;cases x with
   |sl a b c t=>
    simp![aI,aM,ak,ng,dC,↓Ah];refine Wv ?_;simp only[↓aO,↓a9,↓if_true];exact hN _ _ _ ⟨rfl,by rw[bg,aF];rfl,_,rfl⟩
   |un n=>
    simp![aI,aM,ak,wm,dC,↓Ah];refine Di ?_;ext o;exact hN _ _ _ ⟨rfl,by simp[bg,B4],_,rfl⟩
   |pa a b=>
    simp![aI,aM,ak,sE,dC,↓Ah];refine Di ?_;ext o;exact hN _ _ _ ⟨rfl,by simp[bg,B4],_,rfl⟩
   |cu n s f h=>
    simp![aI,aM,ak,GQ,dC,↓Ah];refine Di ?_;ext o;exact hN _ _ _ ⟨rfl,by simp[bg,B4],_,rfl⟩
   |la a b o u t h=>
    simp![aI,aM,ak,GP,dC,↓Ah];refine Di ?_;ext o;exact hN _ _ _ ⟨rfl,by simp[bg,B4],_,rfl⟩
  .rintro acc τ G' ⟨rfl,rfl,a,rfl⟩;exact hQ
 refine b6 (λτ G'=>@O/\∃ms:List iR,(∀m∈ms,Ge rows m)/\ms.length<=3000/\τ=[@G,@bS,some (.bl b),some (.dg (ms.map td))]) ?_ ?_
 .intro N hN;simp![du,xM,ak,aM,eC,c9,aH,ends,b8];cases b with
  |false=>
   simp only[↓aj,↓if_false];exact hN _ _ ⟨.refl G,@br,λm hm=>FO d hm,dl,rfl⟩
  |true=>
   simp only[↓if_true];refine⟨(by show _<=16777216;rw[ag];lia),comp @S λp hp=>⟨@f,λp2 nX=>?_⟩⟩;have ne:p≠p2:=by ext d;rw[ax] at nX;cases nX
   refine RW (ms:=(@br).filter B4) (.ref (by rw[cL ne];exact ax) (Jy _ _)) ax ?_;have L:eQ G (cJ (cJ G p (.lst (((@br).filter B4).map td))) p2 (.lst [])):=(eQ.new hp).trans (.new nX);by_cases z:(@br).filter B4=[]
   .simp![z,decide_true];rw[z] at L;exact hN _ _ ⟨L,@br,λm hm=>FO d hm,dl,rfl⟩
   .simp![z,decide_false,rF.uE,bx,eC,ak,aI];refine⟨(by show _<=16777216;rw[ag];lia),comp @S λp3 zC=>?_⟩;refine qH (ss:=((@br).filter B4).map td) (L.trans (.new zC)) (L.free zC) ax (y8.same _) ?_;exact hN _ _ ⟨.refl G,(@br).filter B4,λm hm=>FO d (List.mem_filter.mp hm).1,cm (cI _ _) dl,rfl⟩
 rintro _ G1 ⟨l1,ms,hms,ml,rfl⟩;refine b6 (λτ G'=>@O/\ms≠[]/\τ=[@G,@bS,some (.bl b),some (.dg (ms.map td))]) ?_ ?_
 .intro N hN;simp![du,aM,ak,c9,aH,bQ,cG,dC,ends,b8];refine⟨@f,λp hp=>RW (Jy _ ms) ax ?_⟩;by_cases z:ms=[]
  .simp![z,decide_true];exact um (l1.trans @a4) q0
  .simp![z,decide_false];exact hN _ _ ⟨l1.trans @a4,z,rfl⟩
 rintro _ G2 ⟨l2,ne,rfl⟩;simp![bQ,cG,aM,ak,aS,ah,c9,dC,jV,aH,ends];have pos:=List.length_pos_iff.mpr ne;refine cp ?_;rw[ag];refine⟨@f,λp hp=>fM (xs:=[5,(ms.length:Int)]) @a4 hp ax ⟨c,_,rfl,⟨@L,λs hs=>by simp at hs;lia⟩,λfs hf=>?_⟩⟩
 match fs,hf with
 |[a,k],⟨_,hk,_⟩=>
  have hk1:=hk.1;have hk2:=hk.2;have hi:k.toNat<ms.length:=@d
  refine fL (x:=.int k) (IsL.enc [a,k]) rfl (fL (x:=td ms[k.toNat]) (@I) ?_ (um l2 (q _ (hms _ (bU hi)))));rw[i8 _ hk1 (@aV),dj]
end IW
namespace CY
open K2.P hiding aU
open K2.Mo
open K2.rN (HR)
open K2.rf (bN)
open K2.K3 (DF)
variable {rows:Rows}
theorem kL(R:Rows):(R.map bN).flatten.length=R.flatten.length:=by
 induction R with
 |nil=>rfl
 |cons r R ih=>rw[aq,aX,aX,av,av,ih,IX.Hb]
theorem FH(ns)(R):(iQ ns R).flatten.length<=R.flatten.length:=by
 unfold iQ;induction R with
 |nil=>exact aR _
 |cons r R ih=>
  rw[aq,aX,aX,av,av];have:=cI (λp:T3=>!decide (p.a∈ns)) r;lia
end CY
namespace CJ
open K2.P hiding aU
open K2.Mo
open K2.rf (bN)
open K2.rN (HR)
open K2.IX (Zh)
open K2.SI (Fn)
open K2.CY (kL FH)
variable {rows:Rows} {m m':iR}
noncomputable def ZL:List (Str×gM):=[("Uncurl",iT),("Curl",kd),("Part",kc),("Lay",lh),("Slide",jt)]
theorem Wu (w:Str) (h:w="done"\/w="back"\/w="told"):(fl m).lookup w=none:=by
 rcases h with rfl |rfl |rfl<;>cases m<;>rfl
theorem Ij(d:@n)(f:kX rows m):∃sp:gM,((cn m,sp):Str×gM)∈ZL/\∀{G:Gp} {p:Nat} {Q:DK},Tc G p m->(∀x as G',HR G G' x as (rM rows m)->Q (.ref x) G')->sp [@V,@aj] G Q @t:=by
 have str:=d.str;cases m with
 |un n=>
  obtain⟨w,h,s,hw,c⟩:=f;obtain⟨v0,v1,u⟩:=Y2 d hw c;exact⟨iT,by simp[cn,ZL],λ{_ p _} g q=>⟨p,n,rows,v0,v1,rfl,g,⟨u,@d⟩,q⟩⟩
 |cu n s w h=>exact⟨kd,by simp[cn,ZL],λ{_ p _} g q=>⟨p,n,s,w,h,rows,rfl,g,f.1,q⟩⟩
 |pa a b=>
  obtain⟨h,pf⟩:=f;obtain⟨rp,rn,rL,rK,pn,ef⟩:=XJ pf;exact⟨kc,by simp[cn,ZL],λ{_ p _} g q=>⟨p,a,b,rows,rp,rn,rL,rK,rfl,g,⟨pn,ef,@d⟩,q⟩⟩
 |la a b o u t h=>exact⟨lh,by simp[cn,ZL],λ{_ p _} g q=>⟨p,a,b,o,u,t,h,rows,rfl,g,f,q⟩⟩
 |sl a b c t=>exact⟨jt,by simp[cn,ZL],λ{_ p _} g q=>⟨p,a,b,c,t,rows,rfl,g,f,q⟩⟩
theorem AU(d:@n)(f:kX rows m):(rM rows m).flatten.length<=rows.flatten.length+adds m/\(rM rows m).length=rows.length:=by
 cases m with
 |un n=>exact⟨by show((iQ [n] rows).map bN).flatten.length<=_;rw[kL];exact FH _ _,by show((iQ [n] rows).map bN).length=_;unfold iQ;rw[ag,ag]⟩
 |pa a b=>exact⟨by show((iQ [a,b] rows).map bN).flatten.length<=_;rw[kL];exact FH _ _,by show((iQ [a,b] rows).map bN).length=_;unfold iQ;rw[ag,ag]⟩
 |cu n s w h=>
  obtain⟨c,_⟩:=f;refine⟨?_,by show((lr s (cps n w h) rows 0).map bN).length=_;rw[ag,mB]⟩;show((lr s (cps n w h) rows 0).map bN).flatten.length<=_;rw[kL,(kh d.dn (zU c.hs)).length_eq,av];show 2+_<=_+2;lia
 |la a b o u t h=>
  refine⟨?_,by show((@dd).map bN).length=_;rw[ag];unfold raw MW;rw[mB,mB]⟩;show((@dd).map bN).flatten.length<=_;rw[kL];show(lr u (Gu a b t h) (MW rows a b o h) 0).flatten.length<=_;have:(Gu a b t h).length=2:=by unfold Gu;split<;>rfl
  rw[(kh (yu f) (zU f.hu)).length_eq,av,this];unfold MW;rw[(kh d.dn (zU f.ho)).length_eq,av];show 2+(2+_)<=_+4;lia
 |sl a b c t=>
  refine⟨?_,by show((chg rows (@a6)).map bN).length=_;unfold chg;rw[ag,ag]⟩;show((chg rows (@a6)).map bN).flatten.length<=_;rw[kL,xN,ag];exact hV _ _
end CJ
namespace IW
open K2.P hiding aU
open K2.Mo
open K2.CJ (kX rM Ge adds AU)
open K2.JE (da Pj Dg)
open K2.Gd (dB lu iO)
theorem NG(d:@n):2*(@aS).length=rows.flatten.length/\(@aS).length=@bA:=by
 have h1:=WH.twice d;have h2:@bA=(@aS).length:=by unfold names lu;exact(ph _).length_eq
 lia
def zo:fZ :=
 (bG (bx (jV nP (ah (aS dB @ah) aH)) (aI 3))
 (bG (bx (aM fG (aS da (ah (cG @k) (ah (cG (c9 (ah (dC (.int 5)) aH))) aH))) @as) (aI 4))
 (bG (du (xM (eW (aM @aq @Y @as)) (eW (aM Zw @A @y))) (bQ (cG (aS sH (ah @g (ah @k aH))))) b8)
 (bG (du (xM (eW (aM @aq @Y @H)) (eW (aM Zw (aM ik @A @H) @y))) (bQ (cG (aS vC (ah @g (ah @k aH))))) b8)
 (bQ (cG (aS k9 (ah @g (ah @k (ah (Ox (aM @aq @Y @ad) (aM @aq @Y (dC (.int 3)))) aH))))))))))
def sF:gM:=λds G Q _=>∃(rows:Rows) (c:Int),ds=[@aj,.int c,.int 8]/\(@n/\rows≠[]/\rows.flatten.length<=16)/\Q .cY G/\∀m,kX rows m->(rM rows m).flatten.length<=16->Q (td m) G
theorem IE(ds)(G)(Q)(h:sF ds G Q @t):zo @p @B (aT 5 ds) G:=by
 obtain⟨rows,c,rfl,⟨d,iV,gJ⟩,q0,q⟩:=h;obtain⟨e1,e2⟩:=NG d;have ql:∀m,kX rows m->rows.flatten.length+adds m<=16->Q (td m) G:=λm f h=>q m f (cm (AU d f).1 h);unfold zo;refine b6 (λτ G'=>G=G'/\τ=[@G,@bS,some (.int 8),some (.int (@aS).length),none]) ?_ ?_
 .intro N hN;simp![bx,jV,ah,aS,ak,aT,aN,aH,aI];refine⟨rows,rfl,(show @cN by lia),mJ (IsL.enc (@aS)) ?_⟩;rw[ag];exact hN _ _ @ao
 ext r;generalize hk:(@aS).length=many at *;refine b6 (λτ G'=>G=G'/\∃k:Int,τ=[@G,@bS,some (.int 8),some (.int many),some (.int k)]) ?_ ?_
 .intro N hN;simp![bx,aM,aS,ah,cG,ak,c9,dC,aH,aI];refine cp ⟨@f,λp hp=>fM (xs:=[(5:Int)]) @a4 hp ax ⟨c,_,rfl,⟨@L,λs hs=>by simp at hs;lia⟩,λfs hf=>?_⟩⟩
  match fs,hf with
  |[k],_=>exact fL (x:=.int k) (IsL.enc [k]) rfl (hN _ _ ⟨rfl,k,rfl⟩)
 rintro _ _ ⟨rfl,k,rfl⟩;refine b6 (λτ G'=>G=G'/\τ=[@G,@bS,some (.int 8),some (.int many),some (.int k)]) ?_ ?_
 .intro N hN;simp![du,xM,aM,ak,dC,bQ,cG,aS,ah,aH,ends,b8];refine gx (x:=k) (y:=(0:Int)) @r ?_;by_cases c1:k=0
  .simp![c1,decide_true];by_cases c2:(many:Int)<8
   .simp only[c2,decide_true,↓if_true];exact⟨rows,c,rfl,⟨d,iV,@d⟩,λn s f h F=>cp (ql _ F (by show _+2<=16;lia))⟩
   .simp![c2,decide_false];exact hN _ _ ⟨rfl,by rw[c1]⟩
  .simp![c1,decide_false];exact hN _ _ @ao
 ext r;refine b6 (λτ G'=>G=G'/\τ=[@G,@bS,some (.int 8),some (.int many),some (.int k)]) ?_ ?_
 .intro N hN;simp![du,xM,aM,ak,dC,bQ,cG,aS,ah,aH,ends,b8];refine gx (x:=k) (y:=(1:Int)) @r ?_;by_cases c1:k=1
  .simp![c1,decide_true];by_cases c2:(many:Int)+1<8
   .simp only[c2,decide_true,↓if_true];exact⟨rows,c,rfl,⟨d,iV,@d⟩,λm F ⟨a,b,o,u,t,h,e⟩=>cp (ql _ F (by rw[e];show _+4<=16;lia))⟩
   .simp![c2,decide_false];exact hN _ _ ⟨rfl,by rw[c1]⟩
  .simp![c1,decide_false];exact hN _ _ @ao
 ext r;have fin:∀b:Bool,k9 [@aj,.int c,.bl b] G (λx G1=>OR G1 x Q) @t:=λb=>⟨rows,c,b,rfl,⟨d,@d⟩,cp q0,λm F=>cp (ql m F.1 (by rw[F.2];lia))⟩;simp![bQ,cG,aS,ah,ak,aM,dC,aH,ends];refine gx (x:=k) (y:=(2:Int)) @r ?_;by_cases c1:k=2
 .simp![c1,decide_true];exact fin true
 .simp![c1,decide_false];refine gx (x:=k) (y:=(3:Int)) @r ?_;exact fin _
end IW
namespace JD
open K2.P K2.J K2.JB
open K2.Y (cK fI jW pick mC mD)
open K2.rF (fY)
open K2.Gd (lu iO dB)
theorem LC(h:x=0\/x=1):1-2*x=sg (decide (x=0)):=by rcases h with rfl |rfl<;>rfl
theorem Mj(x:Int):x % 2=0\/x % 2=1:=@d
theorem DY(h:x=1\/x=-1):MulOk x y:=.inl ⟨@d,@d⟩
def wO:fZ :=
 (bG (bx (aM BH @H (aM my @ad (aM rq @k @ad))) (aI 2))
 (bG (bx (aM BH @H (aM my @ad (aM rq (aM wY @k @ad) @ad))) (aI 3))
 (bG (bx (aM BH @H (aM my @ad (aM rq (aM wY @k (dC (.int 4))) @ad))) (aI 4))
 (bG (bx (aM BH @H (aM my @ad (aM rq (aM wY @k (dC (.int 8))) @ad))) (aI 5))
 (bG (bx (aM my (aM my (ak 5) @y) @A) (aI 6))
 (bG (bx (aM my (aM my (ak 5) @y) @Y) (aI 7))
 (bG (bx (aM my (aM my (ak 5) @A) @Y) (aI 8))
 (bG (bx (c9 (ah (cG (c9 (ah (dN (ah @cI (ah @as (ah (ak 6) aH)))) (ah (dN (ah (aM fG @g @H) (ah @as (ah (ak 7) aH)))) aH)))) (ah (cG (c9 (ah (dN (ah @cI (ah @H (ah (ak 6) aH)))) (ah (dN (ah (aM fG @g @ad) (ah @as (ah (ak 8) aH)))) aH)))) aH))) (aI 9))
 (bG (cW (mU vw gb (ak 9) (ah (cG (c9 (ah (dN (ah (aM fG @g @H) (ah @H (ah (ak 7) aH)))) (ah (dN (ah (aM fG @g @ad) (ah @H (ah (ak 8) aH)))) aH)))) aH)))
 (bG (bx (c9 (ah @y (ah @A (ah @Y aH)))) (aI 10))
 (bG (fy (vc (dC (.int 3))) (aI 11) (du (eW (aM @aq (aM fG (ak 10) (ak 11)) (yS Df @H))) (bx (cG (Eo (aM fG (ak 9) (ak 11)))) (pR (ak 9) (ak 11))) b8))
 (bQ (cG (ak 9))))))))))))))
def i4:gM:=λds G Q _=>∃(a b c cell:Int),ds=[.dg [@aB,.int b,.int c],.int cell]/\∀o m u s:Bool,Q (enc (DT a b c (sg s*sg o*sg m) (sg s*sg o*sg u) (sg s*sg m*sg u) o m u)) G
theorem xY(ds)(G)(Q)(h:i4 ds G Q @t):wO @p @B (aT 12 ds) G:=by
 obtain⟨a,b,c,cell,rfl,q⟩:=h;unfold wO;simp only[↓dO,bx,aM,dC,ak,aT,↓aq,↓aK,↓af,↓ao,aN,↓aA,↓aB,↓ae,↓aa,↓jw,↓jv,↓ju,aI,↓au,↓ai,↓kM,c9,ah,cG,dN,↓iU,aH,↓g6,cW,mU,↓gr,↓cZ,ends];have e1:=LC (Mj cell);have e2:=LC (Mj (cell / 2));have e3:=LC (Mj (cell / 4));have e4:=LC (Mj (cell / 8));rw[e1,e2,e3,e4];generalize decide (cell % 2=0)=o;generalize decide (cell / 2 % 2=0)=m;generalize decide (cell / 4 % 2=0)=u;generalize decide (cell / 8 % 2=0)=s;have ss:=Z7 s;have so:sg s*sg o=1\/sg s*sg o=-1:=by cases s<;>cases o<;>decide
 have sm:sg s*sg m=1\/sg s*sg m=-1:=by cases s<;>cases m<;>decide
 have m2:∀{x:Int},MulOk 2 x:=.inl ⟨@f,@f⟩;refine⟨@f,m2,@f,@f,@f,m2,@f,@f,@f,m2,@f,@f,@f,m2,DY ss,DY so,DY ss,DY so,DY ss,DY sm,?_⟩;generalize hh0:sg s*sg o*sg m=h0;generalize hh1:sg s*sg o*sg u=h1;generalize hh2:sg s*sg m*sg u=h2;simp only[Ah,MH,at2];refine⟨@f,@f,@f,λp1 f1=>?_⟩;refine fM (xs:=[(⟨a,0,h0⟩:T3),⟨b,0,h1⟩]) (.new f1) f1 ax ?_;refine⟨@f,@f,@f,λp2 f2=>?_⟩;refine fM (xs:=[(⟨a,1,h0⟩:T3),⟨c,0,h2⟩]) (.new f2) f2 ax ?_;refine⟨@f,λp f=>?_⟩;simp only[ax];refine⟨trivial,@f,@f,@f,λp3 f3=>?_⟩;have h3:p≠p3:=by ext d;rw[ax] at f3;cases f3
 refine fM (xs:=[(⟨b,1,h1⟩:T3),⟨c,1,h2⟩]) (.new f3) f3 ax ?_;simp only[ax];refine⟨uO @i,@f,λp4 f4=>?_⟩;have eu:∀o1 o2,cJ (cJ G p o1) p o2=cJ G p o2:=λo1 o2=>by funext z;unfold cJ;split<;>rfl
 rw[eu] at f4 ⊢;have h4:p≠p4:=by ext d;rw[ax] at f4;cases f4
 have le:eQ G (cJ (cJ G p (.lst ((DT a b c h0 h1 h2 true true true).map enc))) p4 (.lst [.int (sg o),.int (sg m),.int (sg u)])):=(eQ.new f).trans (.new f4);have gp:(cJ (cJ G p (.lst ((DT a b c h0 h1 h2 true true true).map enc))) p4 (.lst [.int (sg o),.int (sg m),.int (sg u)])) p=some (.lst ((DT a b c h0 h1 h2 true true true).map enc)):=by rw[cL h4,ax]
 have g4:(cJ (cJ G p (.lst ((DT a b c h0 h1 h2 true true true).map enc))) p4 (.lst [.int (sg o),.int (sg m),.int (sg u)])) p4=some (.lst [.int (sg o),.int (sg m),.int (sg u)]):=ax;show bG _ _ _ _ _ (cJ (cJ G p (.lst ((DT a b c h0 h1 h2 true true true).map enc))) p4 (.lst [.int (sg o),.int (sg m),.int (sg u)]));generalize cJ (cJ G p (.lst ((DT a b c h0 h1 h2 true true true).map enc))) p4 (.lst [.int (sg o),.int (sg m),.int (sg u)])=G1 at le gp g4;have C7:∀(G':Gp) (k:Nat) (xs:List (@w)) (y:@w) (bb:Bool) (τ:iw) (N:iw->@E),k<3->xs.length=3->@O->G' p4=some (.lst [.int (sg o),.int (sg m),.int (sg u)])->G' p=some (.lst @aY)->xs[k]?=some y->nS [D.int (sg o),.int (sg m),.int (sg u)] (k:Int)=some (.int (sg bb))->τ[9]?=some (@ax)->τ[10]?=some (some (.ref p4))->τ[11]?=some (some (.int k))->y.length<=2 ->
   (∀G2,eQ G G2->G2 p4=some (.lst [.int (sg o),.int (sg m),.int (sg u)])->G2 p=some (.lst ((xs.set k (if bb then y else y.reverse)).map enc))->N τ G2) ->
   du (eW (aM @aq (aM fG (ak 10) (ak 11)) (yS Df @H))) (bx (cG (Eo (aM fG (ak 9) (ak 11)))) (pR (ak 9) (ak 11))) b8 @p {nx:=N,rt:=Q,bk:=N,ct:=N} τ G':=by
  intro G' k xs y bb τ N hk hxl S3 Wt RE hy ha t9 t10 t11 hyl hN;have hky:k<xs.length:=(List.getElem?_eq_some_iff.mp hy).1;have hyk:xs[k]=y:=(List.getElem?_eq_some_iff.mp hy).2;have ap:nS @aY (k:Int)=some (enc y):=by
   rw[i8 _ @c (@aV)];simp only[dw,dj,hyk]
  simp only[du,bP,aM,yS,ak,t9,t10,t11,dC,lq];rw[AK,Wt];simp only[ha];refine⟨_,_,@P,@P,?_⟩;simp only[aO,nI,aj,if_false];cases bb with
  | true=>
   simp only[sg,if_true,show((1:Int) == -1)=false from rfl,aj,if_false,b8];refine hN G' S3 Wt ?_;have:xs.set k (if true=true then y else y.reverse)=xs:=by
    simp only[if_true];rw[<-hyk];exact yf hky
   rw[this];exact RE
  | false=>
   simp only[sg,aj,if_false,show((-1:Int) == -1)=true from rfl,if_true,bx,cG,Eo,aM,ak,t9,t11];rw[AK,RE];simp only[ap];refine⟨y.map enc,ny (IsL.enc y),λp5 f5=>?_⟩;rw[<-List.map_reverse];refine fM (xs:=y.reverse) (.new f5) f5 ax ?_;simp only[pR,ak,t9,t11];unfold zh;simp only[RE];have ei:D8 (xs.map (enc (α:=@w))).length (k:Int)=some k:=by
    unfold D8;rw[if_pos @c,if_pos (@aV)];simp
   simp only[ei];refine hN _ (S3.put f) (by rw[cL (eB h4)];exact Wt) ?_;rw[ax,yg];rfl
 refine b6 (λτ G'=>(∃ZO,τ=[some (.dg [@aB,.int b,.int c]),some (.int cell),some (.int (sg o)),some (.int (sg m)),some (.int (sg u)),some (.int (sg s)),some (.int h0),some (.int h1),some (.int h2),@ax,some (.ref p4),ZO])/\@O/\G' p=some (.lst ((DT a b c h0 h1 h2 o m u).map enc))) ?_ ?_
 .intro N hN;simp![fy,dC];refine⟨@f,@f,?_⟩;have er:ij 0 (uL 3)=([0,1,2]:@aE).map λk:Nat=>D.int (k:Int):=rfl;rw[er];refine dZ (xs:=([0,1,2]:@aE)) (f:=λk:Nat=>D.int (k:Int)) (λpre τ G'=>(∃ZO,τ=[some (.dg [@aB,.int b,.int c]),some (.int cell),some (.int (sg o)),some (.int (sg m)),some (.int (sg u)),some (.int (sg s)),some (.int h0),some (.int h1),some (.int h2),@ax,some (.ref p4),ZO])/\@O/\G' p4=some (.lst [.int (sg o),.int (sg m),.int (sg u)])/\G' p=some (.lst ((DT a b c h0 h1 h2 (if pre.length=0 then true else o) (if pre.length<=1 then true else m) (if pre.length<=2 then true else u)).map enc)))
   ⟨@S,le,g4,gp⟩ @aQ ?_ ?_
  .rintro pre x post τ G' N2 e ⟨⟨ZO,rfl⟩,S3,Wt,RE⟩ l7;have cs:(pre=[]/\x=0)\/(pre=[0]/\x=1)\/(pre=[0,1]/\x=2):=by
    cases pre with
    |nil=>cases e;exact .inl @ao
    | cons v0 pre=>
     cases pre with
     |nil=>cases e;exact .inr (.inl @ao)
     | cons v1 pre=>
      cases pre with
      |nil=>cases e;exact .inr (.inr @ao)
      |cons v2 pre=>
       have:=congrArg c7 e;simp at this
   simp only[aI,ai,au];rcases cs with ⟨rfl,rfl⟩ |⟨rfl,rfl⟩ |⟨rfl,rfl⟩
   .refine C7 G' 0 _ _ o _ N2 @r rfl S3 Wt RE rfl rfl rfl rfl rfl (by simp[Fd]) λG2 l2 g2 z=>l7 _ _ ⟨@S,l2,g2,?_⟩;rw[z];cases o<;>rfl
   .refine C7 G' 1 _ _ m _ N2 @r rfl S3 Wt RE rfl rfl rfl rfl rfl (by simp[Fd]) λG2 l2 g2 z=>l7 _ _ ⟨@S,l2,g2,?_⟩;rw[z];cases o<;>cases m<;>rfl
   .refine C7 G' 2 _ _ u _ N2 @r rfl S3 Wt RE rfl rfl rfl rfl rfl (by simp[Fd]) λG2 l2 g2 z=>l7 _ _ ⟨@S,l2,g2,?_⟩;rw[z];cases o<;>cases m<;>cases u<;>rfl
  .rintro τ G' ⟨⟨ZO,rfl⟩,S3,Wt,RE⟩;exact hN _ _ ⟨@S,S3,RE⟩
 .rintro _ G' ⟨⟨ZO,rfl⟩,S3,RE⟩;simp![bQ,cG,ak];refine fM S3 f RE ?_;rw[<-hh0,<-hh1,<-hh2];exact q o m u s
end JD
namespace IW
open K2.P hiding aU
open K2.Mo
open K2.CJ (kX rM Ge adds sE ng wm Rw)
open K2.IX (GQ ZN)
open K2.SI (GP)
open K2.Gd (gv rC)
def zq:fZ :=
 (bG (du (eW (aM @aq (aM fG @k @as) (dC (.str "curl")))) (bQ (cG (aM fG @k (dC (.int 4))))) b8)
 (bG (du (eW (aM @aq (aM fG @k @as) (dC (.str "uncurl")))) (bQ (cG (yS Df (aM fG (aS gv @ah) (aM fG @k @H))))) b8)
 (bQ (cG @as))))
def sG:gM:=λds G Q _=>∃(rows:Rows) (m:iR),ds=[@aj,td m]/\(@n/\kX rows m)/\Q (.int (mor rows m)) G
theorem IF(ds)(G)(Q)(h:sG ds G Q @t):zq @p @B (aT 2 ds) G:=by
 obtain⟨rows,m,rfl,⟨d,f⟩,q⟩:=h;obtain⟨Ma,Pa,hl3⟩:=tK d;unfold zq;cases m with
 |cu n s w h=>
  rw[GQ];simp![du,aM,ak,aT,dC,↓Ah,bQ,cG,ends,b8,yS,aS,ah,aH];refine Wv ?_;simp![↓ZN];exact cp q
 | un n=>
  have hn:n∈@l:=by
   obtain⟨w,h,s,hw,c⟩:=f;obtain⟨i,h0,h1⟩:=L8 c;rcases hw with rfl |rfl
   .exact bX.mpr ⟨_,h0.mem,rfl,rfl⟩
   .exact bX.mpr ⟨_,h1.mem,rfl,rfl⟩
  rw[wm];simp![du,aM,ak,aT,dC,↓Ah,bQ,cG,ends,b8,yS,aS,ah,aH];refine Di ?_;ext o;refine Wv ?_;simp![↓MH];refine⟨rows,rfl,(show @cN by lia),Hk (k:=n) (Rw d hn) ?_⟩;exact cp q
 |pa a b=>
  rw[sE];simp![du,aM,ak,aT,dC,↓Ah,bQ,cG,ends,b8,yS,aS,ah,aH];refine Di ?_;ext o;refine Di ?_;ext o;exact cp q
 |la a b o u t h=>
  rw[GP];simp![du,aM,ak,aT,dC,↓Ah,bQ,cG,ends,b8,yS,aS,ah,aH];refine Di ?_;ext o;refine Di ?_;ext o;exact cp q
 |sl a b c t=>
  rw[ng];simp![du,aM,ak,aT,dC,↓Ah,bQ,cG,ends,b8,yS,aS,ah,aH];refine Di ?_;ext o;refine Di ?_;ext o;exact cp q
open K2.JB (iS BI Dr.two tp eI)
open K2.JE (da Pj Dg yx AI uf)
open K2.JD (i4 DT Fd Z8)
open K2.Gd (dB lu iO)
theorem uh(o)(p q):(Fd o p q).Perm [p,q]:=by
 cases o
 .exact lP ..
 .exact .refl _
theorem six{h2:Int}:(DT a b c h0 h1 h2 o m u).flatten.Perm [⟨c,1,h2⟩,⟨c,0,h2⟩,⟨b,1,h1⟩,⟨b,0,h1⟩,⟨a,1,h0⟩,⟨a,0,h0⟩]:=by
 unfold DT;simp only[aX,Gk,bC];refine((uh ..).append ((uh ..).append (uh ..))).trans ?_;rw[List.perm_iff_count];intro x;simp only[List.count_append,List.count_cons,List.count_nil];lia
theorem YW(d:@n){h2:Int}(gJ:rows.flatten.length<=18)(ha:a∉@aS)(hb:b∉@aS++[a])(hc:c∉@aS++[a,b])(e0:h0=1\/h0=-1)(e1:h1=1\/h1=-1)(e2:h2=1\/h2=-1)
  (str:R.length<=3) (hp:R.flatten.Perm ((DT a b c h0 h1 h2 o m u).flatten++rows.flatten)):Dr R:=by
 have fa:=yE d ha;have fb:=yE d λz=>hb (bM _ z);have fc:=yE d λz=>hc (bM _ z);have ba:b≠a:=λz=>hb (by simp[z]);have ca:c≠a:=λz=>hc (by simp[z]);have cb:c≠b:=λz=>hc (by simp[z]);have one:∀L:@w,[L].flatten=L:=λL=>by rw[aX,Gk,bC]
 have d1:Dr [⟨a,1,h0⟩::⟨a,0,h0⟩::rows.flatten]:=Dr.two d fa e0 (by rw[one]) @c @i;have d2:Dr [⟨b,1,h1⟩::⟨b,0,h1⟩::⟨a,1,h0⟩::⟨a,0,h0⟩::rows.flatten]:=by
  refine Dr.two (m:=b) (h:=h1) d1 (@aN) e1 (by rw[one,one]) (by rw[one];simp only[af];lia) @i;rw[one,bf,bf] at hp;rcases hp with rfl |rfl |hp
  .exact ba.symm
  .exact ba.symm
  .exact fb p hp
 refine Dr.two (m:=c) (h:=h2) d2 (@aN) e2 (hp.trans ?_) (by rw[one];simp only[af];lia) str
 .rw[one,bf,bf,bf,bf] at hp;rcases hp with rfl |rfl |rfl |rfl |hp
  .exact cb.symm
  .exact cb.symm
  .exact ca.symm
  .exact ca.symm
  .exact fc p hp
 .rw[one];exact six.append_right _
end IW
namespace IW
open K2.P hiding aU
open K2.Mo
open K2.JB (iS BI Dr.two tp eI)
open K2.JE (da Pj Dg yx AI uf)
open K2.JD (i4 DT Fd Z8)
open K2.Gd (dB lu iO)
theorem PG:∀l:List (@w),(∀r∈l,r.length<=2)->l.flatten.length<=2*l.length
 |[],_=>@L
 |r::l,h=>by
  rw[aX,av,af];have h1:=h r aJ;have h2:=PG l λr hr=>h r (aC _ hr);lia
def qR:fZ :=
 (bG (bx (cG (aS dB @ah)) (aI 2))
 (bG (bx (c9 aH) (aI 3))
 (bG (bx (jV nP @ah) (aI 4))
 (bG (bx (aS da (ah (cG @k) (ah (cG (c9 (ah (dC (.int 16)) (ah (dC (.int 999)) (ah (dC (.int 999)) (ah (dC (.int 999)) (ah @Y (ah @Y (ah @Y (ah (dC (.int 10000)) (ah (dC (.int 10000)) (ah (dC (.int 10000)) aH)))))))))))) aH))) (aI 5))
 (bG (fy (vc (dC (.int 3))) (aI 6) (cW (mU vw gb @A (ah (aS eI (ah (aM ik @y @A) (ah (aM ik @H (aM fG (ak 5) (aM ik @H (ak 6)))) aH))) aH))))
 (bG (bx (cG (aS i4 (ah (cG @A) (ah (cG (aM fG (ak 5) @as)) aH)))) (aI 7))
 (bG (fy (vc (dC (.int 3))) (aI 6) (bx (cG (aS iS (ah (cG @g) (ah (cG (aM fG (ak 5) (aM ik (dC (.int 4)) (ak 6)))) (ah (cG (aM fG (ak 5) (aM ik (dC (.int 7)) (ak 6)))) (ah (cG (aM fG (ak 7) (ak 6))) aH)))))) (aI 0)))
 (bQ (cG @g)))))))))
def lV:gM:=λds G Q _=>∃(rows:Rows) (c:Int),ds=[@aj,.int c]/\(@n/\rows≠[]/\rows.flatten.length<=10)/\∀R:Rows,Dr R->R.length=rows.length->R.flatten.length=rows.flatten.length+6->Q (enc R) G
theorem As(ds)(G)(Q)(h:lV ds G Q @t):qR @p @B (aT 8 ds) G:=by
 obtain⟨rows,c,rfl,⟨d,iV,gJ⟩,q⟩:=h;have ol:=iO rows.flatten;have rl:=List.length_pos_iff.mpr iV;have r3:=d.str;unfold qR
 let T:@bc->@bc->@bc->@bc->@bc->@bc->iw:=λx3 x4 x5 x6 x7 x0=>[x0,@bS,some (enc (@aS)),x3,x4,x5,x6,x7]
 refine b6 (λτ G'=>G=G'/\τ=T none none none none none (@G)) ?_ ?_
 .intro N hN;simp![bx,cG,aS,ah,ak,aT,aN,aH,aI];exact⟨rows,rfl,(show @cN by lia),cp (hN _ _ @ao)⟩
 ext r;refine b6 (λτ G'=>∃p,G p=none/\G'=cJ G p (.lst [])/\τ=T (@ax) none none none none (@G)) ?_ ?_
 .intro N hN;simp![bx,c9,aH,aI,T];exact⟨@f,λp hp=>hN _ _ ⟨p,hp,rfl,rfl⟩⟩
 rintro _ _ ⟨p,hp,rfl,rfl⟩;have g0:cJ G p (.lst []) p=some (.lst (([]:@u).map enc)):=ax;have l0:eQ G (cJ G p (.lst [])):=.new hp;generalize cJ G p (.lst [])=G1 at g0 l0;refine b6 (λτ G'=>G1=G'/\τ=T (@ax) (@dF) none none none (@G)) ?_ ?_
 .intro N hN;simp![bx,jV,ah,ak,aH,aI,T];refine mJ (IsL.enc rows) ?_;rw[ag];exact hN _ _ @ao
 ext r;refine b6 (λτ G'=>G1=G'/\∃v a b e i j k x y z:Int,((0<=a/\a<999)/\(0<=b/\b<999)/\(0<=e/\e<999))/\((0<=i/\i<rows.length)/\(0<=j/\j<rows.length)/\(0<=k/\k<rows.length))/\τ=T (@ax) (@dF) (some (enc [v,a,b,e,i,j,k,x,y,z])) none none (@G)) ?_ ?_
 .intro N hN;simp![bx,aS,ah,cG,ak,c9,dC,aH,aI,T];refine cp ⟨@f,λp2 nX=>fM (xs:=[16,999,999,999,(rows.length:Int),(rows.length:Int),(rows.length:Int),10000,10000,10000]) (.new nX) nX ax ⟨c,_,rfl,⟨@L,λs hs=>by simp at hs;lia⟩,λfs hf=>?_⟩⟩
  match fs,hf with
  |[v,a,b,e,i,j,k,x,y,z],⟨_,ha,hb,he,hi,hj,hk,_⟩=>exact hN _ _ ⟨rfl,v,a,b,e,i,j,k,x,y,z,⟨ha,hb,he⟩,⟨hi,hj,hk⟩,rfl⟩
 rintro _ _ ⟨rfl,v,a,b,e,i,j,k,x,y,z,⟨ha,hb,he⟩,⟨hi,hj,hk⟩,rfl⟩;generalize hP:[v,a,b,e,i,j,k,x,y,z]=P;have dig:∀t:Nat,t<3->∃w:Int,nS (P.map enc) (1+(0+(t:Int)))=some (.int w)/\0<=w/\w<999:=by
  intro t ht;subst hP
  match t,ht with
  |0,_=>exact⟨a,rfl,ha⟩
  |1,_=>exact⟨b,rfl,hb⟩
  |2,_=>exact⟨e,rfl,he⟩
 refine b6 (λτ G'=>@O/\∃n1 n2 n3:Int,(n1∉@aS/\n2∉@aS++[n1]/\n3∉@aS++[n1,n2])/\G' p=some (.lst ([n1,n2,n3].map enc))/\∃u,τ=T (@ax) (@dF) (some (enc P)) u none (@G)) ?_ ?_
 .intro N hN;simp![fy,dC,ends,T];refine⟨@f,@f,?_⟩;unfold ij;refine dZ (xs:=cR (3:Int).toNat) (λpre τ G'=>@O/\∃ns:@u,(ns.length=pre.length/\∀(i:Nat) (m:Int),ns[i]?=some m->m∉@aS++ns.take i)/\G' p=some (.lst (ns.map enc))/\∃u,τ=T (@ax) (@dF) (some (enc P)) u none (@G)) ⟨l0,[],⟨rfl,λi m h=>@cr⟩,g0,_,rfl⟩ @aQ ?_ ?_
  .rintro pre t post τ G2 N2 et ⟨l2,ns,⟨hl,hf⟩,g2,u,rfl⟩ l7;have ht:t=pre.length/\t<3:=uf (n:=3) et;obtain⟨w,hw,w0,w1⟩:=dig t ht.2;have nl:ns.length<=2:=@d
   simp![aI,cW,mU,ak,ah,aS,aM,dC,aH,T];refine⟨by rw[g2];trivial,?_⟩;refine mz (IsL.enc (@aS)) (.ref g2) (zf (by simp only[ag];lia)) λp2 f2=>?_;refine fL (x:=.int w) (IsL.enc P) hw ?_;simp only[↓eV];refine⟨_,@aS++ns,1+w,rfl,.ref (by rw[ax,aF];rfl),⟨by rw[av];lia,@d,@d⟩,λm hm h1 h2=>?_⟩;have ne:p≠p2:=by ext d;rw[g2] at f2;cases f2
   simp only[cL ne,g2];refine⟨uO (@aV),l7 _ _ ⟨(l2.trans (.new f2)).put hp,ns++[m],⟨by simp[hl],?_⟩,by rw[ax,aF];rfl,_,rfl⟩⟩;intro i m' hi;rcases Nat.lt_or_ge i ns.length with h |h
   .rw[bA h] at hi;rw[nZ @c];exact hf i m' hi
   .have:i=ns.length:=by
     obtain⟨h3,_⟩:=@dD;rw[av,cH] at h3;lia
    ext c;rw[aY @X,rH] at hi;cases hi;rw[List.take_left' rfl];exact hm
  .rintro τ G2 ⟨l2,ns,⟨hl,hf⟩,g2,u,rfl⟩
   match ns,hl with
   |[n1,n2,n3],_=>
    exact hN _ _ ⟨l2,n1,n2,n3,⟨by simpa using hf 0 n1 rfl,by simpa using hf 1 n2 rfl,by simpa using hf 2 n3 rfl⟩,g2,u,rfl⟩
 rintro _ G2 ⟨l2,n1,n2,n3,⟨f1,f2,f3⟩,g2,u,rfl⟩;refine b6 (λτ G'=>G=G'/\∃(h0 h1 h2:Int) (o m w:Bool),((h0=1\/h0=-1)/\(h1=1\/h1=-1)/\(h2=1\/h2=-1))/\∃x3,τ=T x3 (@dF) (some (enc P)) u (some (enc (DT n1 n2 n3 h0 h1 h2 o m w))) (@G)) ?_ ?_
 .intro N hN;simp![bx,cG,aS,ah,ak,aM,dC,aH,aI,T];refine fM (xs:=[n1,n2,n3]) l2 hp g2 (fL (x:=.int v) (IsL.enc P) (by rw[<-hP];rfl) (cp ⟨n1,n2,n3,v,rfl,λo m w s=>cp ?_⟩));exact hN _ _ ⟨rfl,_,_,_,o,m,w,⟨Z8 ..,Z8 ..,Z8 ..⟩,_,rfl⟩
 rintro _ _ ⟨rfl,h0,h1,h2,o,m,w,⟨e0,e1,e2⟩,x3,rfl⟩;have p3:(DT n1 n2 n3 h0 h1 h2 o m w).length=3:=rfl;have pl:∀r∈DT n1 n2 n3 h0 h1 h2 o m w,r.length<=2:=by
  intro r hr;unfold DT at hr;simp only[bf,bH,or_false] at hr;rcases hr with rfl |rfl |rfl<;>exact To (uh ..).length_eq
 have fin:∀R:Rows,R.length=rows.length->R.flatten.Perm ((DT n1 n2 n3 h0 h1 h2 o m w).flatten++rows.flatten)->Dr R/\R.flatten.length=rows.flatten.length+6:=λR h1' A4=>by
  refine⟨YW d @c f1 f2 f3 e0 e1 e2 @c A4,?_⟩;rw[A4.length_eq,av,six.length_eq];simp only[af,ao];lia
 generalize DT n1 n2 n3 h0 h1 h2 o m w=PR at p3 pl fin;have afj:∀t:Nat,t<3->∃(s:Nat) (r:Int),nS (P.map enc) (4+(0+(t:Int)))=some (.int s)/\s<rows.length/\nS (P.map enc) (7+(0+(t:Int)))=some (.int r):=by
  intro t ht;subst hP
  match t,ht with
  |0,_=>exact⟨i.toNat,x,by rw[qt hi.1];rfl,@d,rfl⟩
  |1,_=>exact⟨j.toNat,y,by rw[qt hj.1];rfl,@d,rfl⟩
  |2,_=>exact⟨k.toNat,z,by rw[qt hk.1];rfl,@d,rfl⟩
 refine b6 (λτ G'=>G=G'/\∃R:Rows,(R.length=rows.length/\R.flatten.Perm (PR.flatten++rows.flatten))/\∃u,τ=T x3 (@dF) (some (enc P)) u (some (enc PR)) (some (enc R))) ?_ ?_
 .intro N hN;simp![fy,dC,ends,T];refine⟨@f,@f,?_⟩;unfold ij;refine dZ (xs:=cR (3:Int).toNat) (λpre τ G'=>G=G'/\∃R:Rows,(R.length=rows.length/\R.flatten.Perm ((PR.take pre.length).flatten++rows.flatten))/\∃u,τ=T x3 (@dF) (some (enc P)) u (some (enc PR)) (some (enc R))) ⟨rfl,rows,⟨rfl,@L⟩,_,rfl⟩ @aQ ?_ ?_
  .rintro pre t post τ G2 N2 et ⟨rfl,R,⟨hl,Yv⟩,u,rfl⟩ l7;have ht:t=pre.length/\t<3:=uf (n:=3) et;obtain⟨s,r,hs,sl,hr⟩:=afj t ht.2;have tl:t<PR.length:=@d
   have fl:R.flatten.length<=100:=by
    rw[Yv.length_eq,av];have h1:=PG (PR.take pre.length) λr hr=>pl r (List.mem_of_mem_take hr);have h2:=List.length_take_le pre.length PR;lia
   simp![aI,bx,cG,aS,ah,ak,aM,dC,aH,T];refine cp (fL (x:=.int s) (IsL.enc P) hs (cp (fL (x:=.int r) (IsL.enc P) hr (cp ?_))));have z:(0:Int)+(t:Int)=(t:Int):=Int.zero_add _;rw[z];refine yx (xs:=PR) (az tl) (cp (BI (rows:=R) (more:=PR[t]) ⟨@d,@d,λr hr=>cm (rN.lB hr) @c,cm (pl _ (bU tl)) @r⟩ λr' k' Oc Pc _=>cp (l7 _ _ ⟨rfl,_,⟨by rw[eE];exact hl,?_⟩,_,rfl⟩)));refine(tp Oc).trans ((Yv.append_left _).trans ?_);rw[av,cH,<-ht.1,C1 tl,fB,aX,Gk,bC,bp];exact qg ..
  .rintro τ G2 ⟨rfl,R,⟨hl,Yv⟩,u,rfl⟩;refine hN _ _ ⟨rfl,R,⟨hl,?_⟩,u,rfl⟩;rw[mh (by simp;lia)] at Yv;exact Yv
 rintro _ _ ⟨rfl,R,⟨hl,Yv⟩,u,rfl⟩;simp![bQ,cG,ak,ends,T];obtain⟨dR,lR⟩:=fin R hl Yv;exact cp (q R dR hl lR)
end IW
namespace CJ
open K2.P hiding aU
open K2.Mo
open K2.rf (bN)
open K2.vn (Ro)
open K2.yj (cj)
open K2.rN (HR HR.fz)
open K2.CY (kL)
open K2.K3 (DF yK)
variable {rows:Rows} {m m':iR}
theorem aaU{i:Nat}{a b:fZ}{E:l8}{K:lG}{τ:iw}{G:Gp}(h:τ[i]?=some (some (td m)))(k:a E K τ G):du (eW (yS (Nj true) (ak i))) a b E K τ G:=by
 rw[yK];simp only[bP,yS,ak,h];show ite (true=true) (a E K τ G) (b E K τ G);rw[if_pos rfl];exact k
end CJ
namespace IW
open K2.P hiding aU
open K2.Mo
open K2.CJ (kX rM Ge adds yF AU Ij Wu)
open K2.JB (dJ mQ)
open K2.JE (gF)
open K2.rF (fY kI AX dT)
open K2.T (HL.fz HL.sn)
open K2.Y (jW cK fC)
def P9:fZ :=
 (bG (bx (aM ik @H (aM rq (aS cK (ah @g (ah @as aH))) (dC (.int 3)))) (aI 1))
 (bG (bx (cG (aS gF (ah (cG (vY @g (jB (dC (.int 3))) (jB (aM ik (dC (.int 3)) (aM rq (aS cK (ah @g (ah @H aH))) (dC (.int 5))))))) (ah (cG @k) (ah (cG (dC (.int 999))) aH))))) (aI 2))
 (bG (du (eW (aM @aq (aM rq (aS cK (ah @g (ah @ad aH))) @ad) @H)) (bx (cG (aS lV (ah (cG @y) (ah (cG (aM wY (aS cK (ah @g (ah @ad aH))) @ad)) aH)))) (aI 2)) b8)
 (bG (bx (cG (aS kI (ah (cG (aS dJ (ah @y aH))) aH))) (aI 3))
 (bG (bx (aS mQ (ah (cG (aS dJ (ah @y aH))) aH)) (aI 4))
 (bG (fy (hZ (vY @g (jB (dC (.int 5))) (jB (dC (.int 63))))) (aI 5) (bG (bx (aS sF (ah @y (ah (ak 5) (ah (dC (.int 8)) aH)))) (aI 6))
 (du (eW (yS (Nj true) (ak 6))) (bG (bx (aM ik @Y (aS sG (ah @y (ah (ak 6) aH)))) (aI 4))
 (bG (bx (cG (iW [("Uncurl",iT),("Curl",kd),("Part",kc),("Lay",lh),("Slide",jt)] "done" (aS vB (ah (ak 6) aH)) (ah (cG (aS dJ (ah @y aH))) aH))) (aI 2))
 (bG (bx (aS mQ (ah (cG @y) aH)) (aI 7))
 (du (Mu (eW (aM (l6 true) (aS kI (ah (cG @y) aH)) @A)) (Mu (vP (eW (aS fC (ah (ak 7) aH)))) (eW (aM (l6 true) (ak 7) @Y)))) (bQ (cG (dC (.bl false)))) b8)))) b8)))
 (bQ (cG (aM @aq (jV nP (ah @A aH)) @k)))))))))
theorem Zo(ds)(G)(Q)(h:DN ds G Q @t):P9 @p @B (aT 8 ds) G:=by
 obtain⟨ns,rfl,hl,hG,q⟩:=h;unfold P9
 let T:D->@bc->@bc->@bc->@bc->@bc->@bc->iw:=λs h x3 x4 x5 x6 x7=>[some (.dg (@bg)),some s,h,x3,x4,x5,x6,x7]
 have copy:∀{A:Rows} {G:Gp} {Q:DK},A.length<=1000->Q (enc A) G->dJ [enc A] G (λx G1=>OR G1 x Q) @t:=λ{A G Q} hA qq=>by
  refine⟨_,by rw[fY],@aV,λG' p as hh=>HL.fz hh ?_⟩;rw[<-fY];exact qq
 refine b6 (λτ G'=>G=G'/\∃S:Nat,(1<=S/\S<=3)/\τ=T (.int S) none none none none none none) ?_ ?_
 .intro N hN;simp![bx,aM,dC,aS,ah,ak,aT,aN,aH,aI];refine⟨ns,0,rfl,@f,⟨@f,?_⟩⟩;refine hN _ _ ⟨rfl,(1+jW ns 0 % 3).toNat,@d,?_⟩;rw[qt @c]
 rintro _ _ ⟨rfl,S,hS,rfl⟩;refine b6 (λτ G'=>G=G'/\∃R:Rows,(Dr R/\R.length=S/\R.flatten.length<=8)/\τ=T (.int S) (some (enc R)) none none none none none) ?_ ?_
 .intro N hN;simp![bx,cG,aS,ah,vY,ak,dC,aM,aH,aI,T];refine⟨ns,1,rfl,@f,⟨@f,?_⟩⟩;simp only[↓eV,↓fE];have k0:=lT (jW ns 1) (show(5:Int)≠0 by decide);have k1:=jl (jW ns 1) (show(0:Int)<5 by decide);generalize jW ns 1 % 5=ka at k0 k1;rw[oF];intro pS fS;have cl1:(cut ns (some 3) (some (3+ka))).length<=4:=by
   unfold cut jm;simp only;rw[if_neg @c,if_neg @c];simp only[cf,cx];lia
  generalize cut ns (some 3) (some (3+ka))=cells at cl1;refine fM (xs:=cells) (.new fS) fS ax (cp (cp ⟨_,cells,S,999,rfl,IsL.enc cells,⟨@d,hS,@f,@f⟩,λA dA lA fA=>cp ?_⟩));exact hN _ _ ⟨rfl,A,⟨dA,lA,@d⟩,rfl⟩
 rintro _ _ ⟨rfl,R,⟨d,rS,gJ⟩,rfl⟩;refine b6 (λτ G'=>G=G'/\∃R:Rows,(Dr R/\R.length=S/\R.flatten.length<=16)/\τ=T (.int S) (some (enc R)) none none none none none) ?_ ?_
 .intro N hN;simp![du,aM,aS,ah,ak,dC,aH,bx,cG,aI,b8,T];refine⟨ns,2,rfl,@f,⟨@f,gx (x:=jW ns 2 % 2) (y:=(1:Int)) @r ?_⟩⟩;by_cases c:jW ns 2 % 2=1
  .simp![c,decide_true];refine cp ⟨ns,2,rfl,@f,@f,@f,cp ⟨R,_,rfl,⟨d,by ext d;simp at rS;lia,@d⟩,λR' d' l' f'=>cp (hN _ _ ⟨rfl,R',⟨d',@d,@d⟩,rfl⟩)⟩⟩
  .simp![c,decide_false];exact hN _ _ ⟨rfl,R,⟨d,rS,@d⟩,rfl⟩
 clear gJ d rS;rintro _ _ ⟨rfl,R,⟨d,rS,gJ⟩,rfl⟩;refine b6 (λτ G'=>G=G'/\τ=T (.int S) (some (enc R)) (some (enc (AX R))) none none none none) ?_ ?_
 .intro N hN;simp![bx,cG,aS,ah,ak,aH,aI,T];refine copy @c ⟨R,rfl,JF.Wf d,λG' p as hh=>HL.fz hh ?_⟩;exact hN _ _ ⟨rfl,by rw[rF.YR]⟩
 ext r;refine b6 (λτ G'=>G=G'/\τ=T (.int S) (some (enc R)) (some (enc (AX R))) (some (.int (rF.wr R))) none none none) ?_ ?_
 .intro N hN;simp![bx,aS,ah,cG,ak,aH,aI,T];exact copy @c ⟨R,rfl,d,hN _ _ @ao⟩
 ext r;have lS:(AX R).length=S:=by
  have:=(rF.xx R (names R) _ (K2.T.su R.length)).1;exact this.trans rS
 generalize hL:AX R=L at *;refine b6 (λτ G'=>∃x2 x4 x5 x6 x7,τ=T (.int S) x2 (some (enc L)) x4 x5 x6 x7) ?_ ?_
 .intro N hN;simp![fy,vY,ak,dC,ends,T];rw[oF];intro pl oX;have cl:(cut ns (some 5) (some 63)).length<=63:=by
   unfold cut jm;simp only;rw[if_neg @c,if_neg @c];simp only[cf,cx];lia
  generalize cut ns (some 5) (some 63)=cs at cl;simp only[xm,ax];refine dZ (xs:=cs) (f:=D.int) (λpre τ G'=>∃(R:Rows) (x5 x6 x7:@bc),(Dr R/\R.length=S/\R.flatten.length<=16/\AX R=L)/\G' pl=some (.lst (cs.map D.int))/\τ=T (.int S) (some (enc R)) (some (enc L)) (some (.int (rF.wr R))) x5 x6 x7) ⟨R,none,none,none,⟨d,rS,gJ,hL⟩,ax,rfl⟩ (λ_ _ _ ⟨_,_,_,_,_,h,_⟩=>h) ?_ ?_
  .clear hL gJ d rS;rintro pre c post τ G5 N2 e ⟨R,x5,x6,x7,⟨d,rS,gJ,hL⟩,gl,rfl⟩ l7;have iV:R≠[]:=by ext d;simp at rS;lia
   refine b6 (λτ G'=>G5=G'/\((∃m,(kX R m/\(rM R m).flatten.length<=16)/\τ=T (.int S) (some (enc R)) (some (enc L)) (some (.int (rF.wr R))) (@bS) (some (td m)) x7)\/τ=T (.int S) (some (enc R)) (some (enc L)) (some (.int (rF.wr R))) (@bS) (some .cY) x7)) ?_ ?_
   .intro N hN;simp![bx,aS,ah,ak,dC,aH,aI,T];exact⟨R,c,rfl,⟨d,iV,gJ⟩,hN _ _ ⟨rfl,@a0⟩,λm f h=>hN _ _ ⟨rfl,.inl ⟨m,⟨f,h⟩,rfl⟩⟩⟩
   rintro _ _ ⟨rfl,⟨m,⟨f,ml⟩,rfl⟩ |rfl⟩
   .obtain⟨w,a,etd⟩:∃w a,td m=.tup (w::a):=by cases m<;>exact⟨_,_,rfl⟩
    have dm:=yF d f;have lm:=(AU d f).2;refine CJ.aaU (m:=m) rfl ?_;refine b6 (λτ G'=>G5=G'/\τ=T (.int S) (some (enc R)) (some (enc L)) (some (.int (rF.wr (rM R m)))) (@bS) (some (td m)) x7) ?_ ?_
    .intro N3 oB;simp![bx,aM,ak,aS,ah,aH,aI,T];refine⟨R,m,rfl,⟨d,f⟩,?_⟩;exact oB _ _ ⟨rfl,by rw[WR d @c f]⟩
    ext r;refine b6 (λτ G'=>G' pl=some (.lst (cs.map D.int))/\τ=T (.int S) (some (enc (rM R m))) (some (enc L)) (some (.int (rF.wr (rM R m)))) (@bS) (some (td m)) x7) ?_ ?_
    .intro N3 oB;obtain⟨sd,hsd,rd⟩:=Ij d f;simp![bx,cG,iW,aS,ah,ak,aH,aI,T];refine⟨m,rfl,λp hp=>⟨p,cn m,fl m,sd,rfl,ax,hsd,Wu _ (@I),?_⟩⟩;have npl:pl≠p:=by ext d;rw[gl] at hp;cases hp
     exact copy @c (rd ax λx as G8 hr=>hr.fz (oB _ _ ⟨by rw[cL npl];exact gl,rfl⟩))
    rintro _ G6 ⟨gl6,rfl⟩;refine b6 (λτ G'=>G6=G'/\τ=T (.int S) (some (enc (rM R m))) (some (enc L)) (some (.int (rF.wr (rM R m)))) (@bS) (some (td m)) (some (.int (rF.wr (rM R m))))) ?_ ?_
    .intro N3 oB;simp![bx,aS,ah,cG,ak,aH,aI,T];exact cp ⟨rM R m,rfl,dm,oB _ _ @ao⟩
    ext r;simp![du,Mu,aM,aS,ah,cG,ak,aH,bQ,dC,b8,vP,T];refine cp ⟨rM R m,rfl,JF.Wf dm,λG7 p0 as hh=>?_⟩;have eL:AX (rM R m)=L:=by rw[Va d @c f,hL]
    rw[eL] at hh;refine⟨enc L,enc L,HL.sn (t:=L) hh,Enc.sn _ _ _ @r,?_⟩;rw[rF.YO];simp!;refine⟨_,rfl,?_⟩;simp!;refine gx (x:=rF.wr (rM R m)) (y:=rF.wr (rM R m)) @r ?_;rw[show decide (rF.wr (rM R m)=rF.wr (rM R m))=true from decide_eq_true rfl];simp!;exact l7 _ _ ⟨rM R m,_,_,_,⟨dm,@d,ml,eL⟩,hh.le _ _ gl6,rfl⟩
   .simp![du,yS,ak,bx,aM,aS,ah,aH,aI,cG,Mu,bQ,dC,b8,vP,T];exact l7 _ _ ⟨R,_,_,_,⟨d,rS,gJ,hL⟩,gl,rfl⟩
  .rintro τ G5 ⟨R,x5,x6,x7,_,_,rfl⟩;exact hN _ _ ⟨_,_,_,_,_,rfl⟩
 rintro _ G2 ⟨x2,x4,x5,x6,x7,rfl⟩;simp![bQ,cG,aM,jV,ah,ak,aH,ends,T];refine mJ (IsL.enc L) ?_;rw[ag];refine gx (x:=(L.length:Int)) (y:=(S:Int)) @r ?_;rw[lS,show decide ((S:Int)=(S:Int))=true from decide_eq_true rfl];exact cp (q _)
end IW
namespace IW
open K2.P hiding aU
open K2.Mo
theorem F9(ds)(G)(Q)(h:P.aU ds G Q @t):K23.oj @p @B (aT 1 ds) G:=by
 obtain⟨rows,rfl,hl,q⟩:=h;unfold K23.oj;simp![bQ,cG,jV,ah,eC,aS,ak,aT,aH,ends];refine⟨rows,rfl,(show @dO by lia),fu ⟨zf (by rw[ag];show @dO;lia),?_⟩⟩;refine gH (xs:=rows.flatten) (λpre acc τ G'=>G=G'/\(∃a,τ=[a])/\acc=((pre.filter λp=>p.b == 0).map (·.a)).map enc) ⟨rfl,@S,rfl⟩ @cJ ?_ ?_
 .rintro pre x post acc τ G' N e ⟨rfl,⟨a,rfl⟩,rfl⟩ hN;simp![aI,aM,ak,↓nJ,dC,↓MH,↓Ah];refine⟨_,_,@P,@P,?_⟩;simp![nI];split
  .rename_i h;refine hN _ _ _ ⟨rfl,@S,?_⟩;simp[bg,eG,h,mI]
  .rename_i h;refine hN _ _ _ ⟨rfl,@S,?_⟩;simp[bg,eG,h]
 .rintro acc τ G' ⟨rfl,⟨a,rfl⟩,rfl⟩ p hp;refine zN (IsL.ref ax) (by rw[ag];exact rJ (cI _ _) hl) λp2 nX=>?_;exact fM (xs:=@l) ((eQ.new hp).trans (.new nX)) ((eQ.new hp).free nX) ax q
end IW
end K2
end
namespace Fin
open PySem PySem.Spec PyProof.Rows L2 K2
open K2.JB (dJ oH eI oG iS CD mQ EC)
open K2.JD (i4 xY)
open K2.JE (da vm gF tV)
open K2.JT (i3 xX)
open K2.K23 (zQ)
open K2.CY (gZ p8 og zP mr xT k7 vj iZ xV)
open K2.K3 (aU)
open K2.rF (kI CC)
open K2.Gd (dB xZ gv x8)
open K2.IW
open K2.yj (t8 ED cg tU)
open K2.Mo
open K2.P hiding aU
open K2.Y (cK tW fI zR fC xW)
noncomputable abbrev nl:@D:=["all","bool","enumerate","int","isinstance","len","list","max","min","range","reversed","set","sorted","sum","zip"]
noncomputable abbrev fl:List (Str×Str):=[("Uncurl","name"),("Curl","name"),("Curl","spot"),("Curl","first"),("Curl","hand"),("Part","name"),("Part","second"),("Lay","name"),("Lay","second"),("Lay","over"),("Lay","under"),("Lay","turned"),("Lay","hand"),("Slide","name"),("Slide","second"),("Slide","third"),("Slide","turn")]
structure Al(K:ay):Prop where
 n:Ph K nl
 F51:md K "_law_cell_at" (top 51)
 F53:md K "_law_pick" (top 53)
 F57:md K "_law_digits" (top 57)
 F55:md K "_law_free" (top 55)
 F54:md K "_law_copy" (top 54)
 F56:md K "_law_put" (top 56)
 F58:md K "_law_drawing" (top 58)
 F59:md K "_law_names" (top 59)
 F66:md K "_law_pairs" (top 66)
 F67:md K "_law_triangle" (top 67)
 F10:md K "passings_of" (top 10)
 F13:md K "names_of" (top 13)
 F15:md K "spots_on" (top 15)
 F17:md K "string_of" (top 17)
 F14:md K "hand_of" (top 14)
 F20:md K "linking" (top 20)
 F19:md K "writhe" (top 19)
 F61:md K "_law_spots" (top 61)
 F62:md K "_law_curl" (top 62)
 F63:md K "_law_lay" (top 63)
 F16:md K "next_of" (top 16)
 F30:md K "overs_in_turn" (top 30)
 F22:md K "neighbours" (top 22)
 F24:md K "part_fits" (top 24)
 F31:md K "parts_in" (top 31)
 F25:md K "in_turn" (top 25)
 F26:md K "slide_pairs" (top 26)
 F27:md K "slide_fits" (top 27)
 F32:md K "slides_in" (top 32)
 F23:md K "uncurl_fits" (top 23)
 F29:md K "uncurls_in" (top 29)
 F28:md K "lessening" (top 28)
 F64:md K "_law_lesser" (top 64)
 F65:md K "_law_move" (top 65)
 F60:md K "_law_hands" (top 60)
 F68:md K "_law_more" (top 68)
 F49:md K "move_of" (top 49)
 F34:md K "refuse_unknown" (top 34)
 F35:md K "refuse_unfit" (top 35)
 F11:md K "seated" (top 11)
 F12:md K "seated_rows" (top 12)
 F38:md K "taken_out" (top 38)
 F36:md K "refuse_new" (top 36)
 F37:md K "with_put" (top 37)
 F41:md K "with_changed" (top 41)
 F52:md K "_law_whole" (top 52)
 II:WM K "Uncurl"
 Zt:WM K "Curl"
 SM:WM K "Part"
 WN:WM K "Lay"
 MN:WM K "Slide"
 SH:Zp K "Uncurl"
 Zr:Zp K "Curl"
 Zq:Zp K "Part"
 abW:Zp K "Lay"
 VQ:Zp K "Slide"
 acd:Gw K "Uncurl" "__init__" "Uncurl.__init__" (BN 44 0)
 ab9:Gw K "Curl" "__init__" "Curl.__init__" (BN 45 0)
 ab7:Gw K "Part" "__init__" "Part.__init__" (BN 46 0)
 ab4:Gw K "Lay" "__init__" "Lay.__init__" (BN 47 0)
 ab0:Gw K "Slide" "__init__" "Slide.__init__" (BN 48 0)
 acb:Gw K "Uncurl" "refuse" "Uncurl.refuse" (BN 44 2)
 aca:Gw K "Uncurl" "done" "Uncurl.done" (BN 44 3)
 ab8:Gw K "Curl" "done" "Curl.done" (BN 45 2)
 ab6:Gw K "Part" "refuse" "Part.refuse" (BN 46 2)
 ab5:Gw K "Part" "done" "Part.done" (BN 46 3)
 ab2:Gw K "Lay" "passings" "Lay.passings" (BN 47 2)
 ab1:Gw K "Lay" "done" "Lay.done" (BN 47 3)
 abZ:Gw K "Slide" "refuse" "Slide.refuse" (BN 48 2)
 abY:Gw K "Slide" "done" "Slide.done" (BN 48 3)
 l:WI K fl
 yT:CsZ K "MOST_CROSSINGS" 12
section
seal PySem.binaryOp PySem.compareOp PySem.unaryOp tT yY eS zO EB SF IB CW KN pZ Zj kY K2.Sr K2.nP K2.tQ K2.Cv K2.Iq K2.pY K2.mV K2.nM K2.Sl K2.xM K2.Ep K2.bx K2.c6 K2.aM K2.dC K2.jV K2.aS K2.eC K2.ah K2.Ag K2.cW K2.fy K2.cG K2.Sb K2.dIf K2.du K2.Oy K2.Eo K2.c9 K2.oE K2.iW K2.mU K2.oT K2.b8 K2.aH K2.eO K2.vP K2.Mw K2.Mu K2.Ox K2.jB K2.bQ K2.Il K2.bG K2.ja K2.vY K2.eW K2.dN K2.yS K2.ak K2.FQ K2.hU K2.aI K2.rD K2.pR K2.pQ K2.B8 K2.vc K2.hZ K2.Rc K2.gb K2.ui K2.D0 K2.sZ K2.ik K2.l6 K2.wY K2.rGt K2.CS K2.Nj K2.fG K2.Zw K2.rq K2.my K2.Df K2.BH
theorem fh(h:autoParam (tT X b t) Aui._auto_1):tT X b t:=h
theorem Xe:ku ["_law_script","_law_strings","_law_here","_law_due","_law_total","_law_cell","_law_told","_law_found"] ["_law_script"] (cD (top 69)):=scm
variable {V:MM} (Y:IY V) (A:Al V.K)
include Y A
theorem Cd:ma V 1 "_law_cell_at" ["_law_script","_law_k"] cK :=
 nF ["_law_script","_law_k"] Y A.n A.F51 tW @K
theorem HW:ma V 1 "_law_pick" ["_law_cell","_law_prime","_law_many"] fI :=
 nF ["_law_cell","_law_prime","_law_many"] Y A.n A.F53 zR @K
theorem iI:ma V 2 "_law_digits" ["_law_cell","_law_sizes"] da :=
 have:=HW Y A;nF ["_law_cell","_law_sizes","_law_primes","_law_left","_law_found","_law_at","_law_size"] Y A.n A.F57 vm @K
theorem oC:ma V 1 "_law_free" ["_law_names_here","_law_name"] eI :=
 nF ["_law_names_here","_law_name"] Y A.n A.F55 oG @K
theorem tF:ma V 1 "_law_copy" ["_law_rows"] dJ :=
 nF ["_law_rows"] Y A.n A.F54 oH @K
theorem Cb:ma V 2 "_law_put" ["_law_rows","_law_at","_law_place","_law_more_here"] iS :=
 have:=tF Y A;nF ["_law_rows","_law_at","_law_place","_law_more_here","_law_made"] Y A.n A.F56 CD @K
theorem Cc:ma V 3 "_law_drawing" ["_law_cells","_law_strings","_law_spread"] gF :=
 have:=iI Y A;have:=oC Y A;have:=Cb Y A;nF ["_law_cells","_law_strings","_law_spread","_law_rows","_law_names_here","_law_cell","_law_part","_law_name","_law_way"] Y A.n A.F58 tV @K
theorem mH:ma V 1 "_law_names" ["_law_rows"] dB :=
 nF ["_law_rows","_law_names_here","_law_row","_law_passing"] Y A.n A.F59 xZ @K
theorem FD:ma V 1 "_law_pairs" ["_law_names_here","_law_cell"] i4 :=
 nF ["_law_names_here","_law_cell","_law_over","_law_middle","_law_under","_law_sign","_law_one","_law_two","_law_three","_law_pairs_here","_law_signs","_law_k"] Y A.n A.F66 xY @K
theorem Aa:ma V 3 "_law_triangle" ["_law_rows","_law_cell"] lV :=
 have:=mH Y A;have:=iI Y A;have:=oC Y A;have:=FD Y A;have:=Cb Y A;nF ["_law_rows","_law_cell","_law_names_here","_law_fresh","_law_many","_law_part","_law_k","_law_pairs_here"] Y A.n A.F67 As @K
theorem nG:ma V 1 "passings_of" ["rows"] j7 :=
 nF ["rows","passings","row"] Y A.n A.F10 CB @K
theorem lD:ma V 2 "names_of" @cb aU :=
 have:=nG Y A;nF @cb Y A.n A.F13 zQ @K
theorem zF:ma V 2 "names_of" @cb K2.P.aU :=
 have:=nG Y A;nF @cb Y A.n A.F13 F9 @K
theorem zH:ma V 1 "spots_on" ["row","string"] oe :=
 nF ["row","string"] Y A.n A.F15 ID @K
theorem xB:ma V 2 "string_of" ["drawing","spot"] ig :=
 have:=zH Y A;nF ["drawing","spot","string","row"] Y A.n A.F17 F7 @K
theorem nH:ma V 2 "hand_of" ["drawing","name"] fO :=
 have:=nG Y A;nF ["drawing","name","passing"] Y A.n A.F14 KU @K
theorem Kt:ma V 3 "linking" @cb kI :=
 have:=zF Y A;have:=xB Y A;have:=nH Y A;nF ["drawing","sums","string","name","above","below"] Y A.n A.F20 CC @K
theorem Oo:ma V 3 "writhe" @cb mQ :=
 have:=zF Y A;have:=nH Y A;nF @cb Y A.n A.F19 EC @K
theorem xD:ma V 1 "_law_spots" ["_law_rows"] i3 :=
 nF ["_law_rows","_law_spots_here","_law_at","_law_passing"] Y A.n A.F61 xX @K
theorem HZ:ma V 3 "_law_curl" ["_law_rows","_law_cell"] sH :=
 have:=xD Y A;have:=iI Y A;have:=oC Y A;have:=mH Y A;nF ["_law_rows","_law_cell","_law_spots_here","_law_part"] Y A.n A.F62 IG @K
theorem Ku:ma V 3 "_law_lay" ["_law_rows","_law_cell"] vC :=
 have:=xD Y A;have:=iI Y A;have:=oC Y A;have:=mH Y A;nF ["_law_rows","_law_cell","_law_spots_here","_law_part","_law_name","_law_second","_law_over","_law_under"] Y A.n A.F63 KR @K
theorem qI:ma V 1 "next_of" @cb kH :=
 nF ["drawing","behind","row","passing","follower"] Y A.n A.F16 KP @K
theorem pV:ma V 3 "overs_in_turn" @cb gZ :=
 have:=qI Y A;have:=lD Y A;nF ["drawing","behind","pairs","name","after"] Y A.n A.F30 p8 @K
theorem vh:ma V 1 "neighbours" ["behind","one","other"] jr :=
 nF ["behind","one","other"] Y A.n A.F22 Dy @K
theorem xC:ma V 3 "part_fits" ["drawing","name","second"] mw :=
 have:=nH Y A;have:=qI Y A;have:=vh Y A;nF ["drawing","name","second","behind"] Y A.n A.F24 F8 @K
theorem HV:ma V 4 "parts_in" @cb og :=
 have:=pV Y A;have:=xC Y A;nF ["drawing","pairs"] Y A.n A.F31 zP @K
theorem Kv:ma V 1 "in_turn" ["one","other","turn"] nh :=
 nF ["one","other","turn"] Y A.n A.F25 KS @K
theorem tE:ma V 3 "slide_pairs" ["drawing","name","second","third","turn"] j6 :=
 have:=nH Y A;have:=Kv Y A;nF ["drawing","name","second","third","turn","first_hand","second_hand","third_hand"] Y A.n A.F26 CA @K
theorem ve:ma V 4 "slide_fits" ["drawing","name","second","third","turn"] jq :=
 have:=qI Y A;have:=tE Y A;nF ["drawing","name","second","third","turn","behind"] Y A.n A.F27 Dw @K
theorem Fy:ma V 5 "slides_in" @cb mr :=
 have:=pV Y A;have:=lD Y A;have:=ve Y A;nF ["drawing","slides","one","other","third"] Y A.n A.F32 xT @K
theorem tD:ma V 2 "uncurl_fits" ["drawing","name"] j5 :=
 have:=vh Y A;have:=qI Y A;nF ["drawing","name"] Y A.n A.F23 Cz @K
theorem Dl:ma V 3 "uncurls_in" @cb k7 :=
 have:=lD Y A;have:=tD Y A;nF @cb Y A.n A.F29 vj @K
theorem FA:ma V 6 "lessening" @cb iZ :=
 have:=HV Y A;have:=Fy Y A;have:=Dl Y A;nF @cb Y A.n A.F28 xV @K
theorem Dm:ma V 7 "_law_lesser" ["_law_rows","_law_cell","_law_slides_first"] k9 :=
 have:=FA Y A;have:=tF Y A;have:=iI Y A;nF ["_law_rows","_law_cell","_law_slides_first","_law_some"] Y A.n A.F64 DA @K
theorem HX:ma V 8 "_law_move" ["_law_rows","_law_cell","_law_most"] sF :=
 have:=mH Y A;have:=iI Y A;have:=HZ Y A;have:=Ku Y A;have:=Dm Y A;nF ["_law_rows","_law_cell","_law_most","_law_many","_law_kind"] Y A.n A.F65 IE @K
theorem FE:ma V 1 "_law_hands" ["_law_rows"] gv :=
 nF ["_law_rows","_law_hands_here","_law_row","_law_passing"] Y A.n A.F60 x8 @K
theorem HY:ma V 2 "_law_more" ["_law_rows","_law_told"] sG :=
 have:=FE Y A;nF ["_law_rows","_law_told"] Y A.n A.F68 IF @K
theorem vO:WK V 1 "Uncurl" ["self","name"] jM :=
 have:=A.l;RO ["self","name"] Y A.n A.SH A.acd vS @K
theorem yQ:WK V 1 "Curl" ["self","name","spot","first","hand"] kK :=
 have:=A.l;RO ["self","name","spot","first","hand"] Y A.n A.Zr A.ab9 y7 @K
theorem yP:WK V 1 "Part" ["self","name","second"] kJ :=
 have:=A.l;RO ["self","name","second"] Y A.n A.Zq A.ab7 y0 @K
theorem Af:WK V 1 "Lay" ["self","name","second","over","under","turned","hand"] lW :=
 have:=A.l;RO ["self","name","second","over","under","turned","hand"] Y A.n A.abW A.ab4 Aw @K
theorem xE:WK V 1 "Slide" ["self","name","second","third","turn"] j8 :=
 have:=A.l;RO ["self","name","second","third","turn"] Y A.n A.VQ A.ab0 x9 @K
theorem Ks:ma V 3 "move_of" ["told"] vB :=
 have:=vO Y A;have:=yQ Y A;have:=yP Y A;have:=Af Y A;have:=xE Y A;nF ["told"] Y A.n A.F49 KQ @K
theorem kq:ma V 3 "refuse_unknown" ["drawing","names"] gP :=
 have:=lD Y A;nF ["drawing","names","known","name"] Y A.n A.F34 xU @K
theorem lX:ma V 1 "refuse_unfit" ["fits"] iA :=
 nF ["fits"] Y A.n A.F35 Ap @K
theorem yO:Pk V yb 4 "Uncurl" "refuse" @ct (mx V.K i5) :=
 have:=A.l;have:=kq Y A;have:=lX Y A;have:=tD Y A;Fx @ct Y A.n A.II A.acb yZ @K
theorem Oq:ma V 1 "seated" ["row"] t8 :=
 nF ["row","start"] Y A.n A.F11 ED @K
theorem ko:ma V 2 "seated_rows" ["rows"] cg :=
 have:=Oq Y A;nF ["rows"] Y A.n A.F12 tU @K
theorem xA:ma V 3 "taken_out" ["drawing","names"] mq :=
 have:=ko Y A;nF ["drawing","names","rows","row"] Y A.n A.F38 F6 @K
theorem Ce:Pk V yb 5 "Uncurl" "done" @ct (mx V.K iT) :=
 have:=A.l;have:=yO Y A;have:=xA Y A;Fx @ct Y A.n A.II A.aca CF @K
theorem vg:ma V 3 "refuse_new" ["drawing","names"] k8 :=
 have:=A.yT;have:=lD Y A;nF ["drawing","names","taken","name"] Y A.n A.F36 Dx @K
theorem zG:ma V 3 "with_put" ["drawing","spot","passings"] jU :=
 have:=xB Y A;have:=zH Y A;nF ["drawing","spot","passings","string","rows","place"] Y A.n A.F37 IC @K
theorem FG:Pk V yb 4 "Curl" "done" @ct (mx V.K kd) :=
 have:=A.l;have:=vg Y A;have:=ko Y A;have:=zG Y A;Fx ["self","drawing","passings"] Y A.n A.Zt A.ab8 Gb @K
theorem Cf:Pk V yb 4 "Part" "refuse" @ct (mx V.K j9) :=
 have:=A.l;have:=kq Y A;have:=lX Y A;have:=xC Y A;Fx @ct Y A.n A.SM A.ab6 CG @K
theorem FF:Pk V yb 5 "Part" "done" @ct (mx V.K kc) :=
 have:=A.l;have:=Cf Y A;have:=xA Y A;Fx @ct Y A.n A.SM A.ab5 Ga @K
theorem Ae:Pk V yb 1 "Lay" "passings" ["self","way"] (mx V.K fJ) :=
 have:=A.l;Fx ["self","way"] Y A.n A.WN A.ab2 Av @K
theorem H0:Pk V yb 4 "Lay" "done" @ct (mx V.K lh) :=
 have:=A.l;have:=vg Y A;have:=zG Y A;have:=Ae Y A;have:=ko Y A;Fx ["self","drawing","above","unders"] Y A.n A.WN A.ab1 IH @K
theorem Ab:Pk V yb 5 "Slide" "refuse" @ct (mx V.K jG) :=
 have:=A.l;have:=kq Y A;have:=lX Y A;have:=ve Y A;Fx @ct Y A.n A.MN A.abZ Au @K
theorem z9:ma V 3 "with_changed" ["drawing","pairs"] lU :=
 have:=nH Y A;have:=ko Y A;nF ["drawing","pairs","partner","one","other","rows","row","spots"] Y A.n A.F41 Aj @K
theorem Dp:Pk V yb 6 "Slide" "done" @ct (mx V.K jt) :=
 have:=A.l;have:=Ab Y A;have:=z9 Y A;have:=tE Y A;Fx @ct Y A.n A.MN A.abY DB @K
theorem FC:ma V 1 "_law_whole" ["_law_found"] fC :=
 nF ["_law_found"] Y A.n A.F52 xW @K
theorem YL   (F:Ta V.K "law" "law" (top 69) f fd):rG V.P V.w V.K V.mg V.base yb 9 f fd ["_law_script"] (mx V.K K2.DN) :=
 have:=Cd Y A;have:=Cc Y A;have:=Aa Y A;have:=Kt Y A;have:=tF Y A;have:=Oo Y A;have:=HX Y A;have:=HY Y A;have:=Ks Y A;have:=Ce Y A;have:=FG Y A;have:=FF Y A;have:=H0 Y A;have:=Dp Y A;have:=FC Y A;aff Xe Y A.n F Zo @K
end
theorem all_mk {l:EI}  {K:ay}   {fl:Addr} {dl:dQ} (X:K.In h) (G:h.Ns bJ mg) (hfa:mg "law"=some (.ref fa)) (FL:At K "law" (top 69) fl dl) (A:Al K):
  ∃fd:dQ,(∀(s:aE) (v:Value),BindsTo s fd ⟨[v],[]⟩ [("_law_script",v)])/\∀base:Heap,K.In base->base.Ns bJ mg->rG l.prog w K mg base yb 9 fa fd ["_law_script"] (mx K K2.DN):=by
 have e:=hfa.symm.trans (PySem.W.mg_of X G FL.a);cases e;obtain⟨Fa,Fl⟩:=FL;obtain⟨oc,od,kV,doc,pm,an,i7,ct,JS,rfl,lk,Pe⟩:=Fl.ex;refine⟨jd "law" "law" (gQ (top 69)) (fx (top 69)) (cD (top 69)) .none kV doc pm an i7 ct,λs v=>.of_eq rfl,λbase _ _=>?_⟩;exact YL (V:=⟨l.prog,w,K,mg,base⟩) ⟨X,G⟩ A Fl
end Fin
end
end Internal
open Internal
open PySem PySem.W PyProof.Rows
set_option maxRecDepth 100000 in
set_option maxHeartbeats 0 in
theorem PySem.Challenge.cw_knotwise_k49_whole_linking_kept_holds : PySem.Challenge.rw_knotwise_k49_whole_linking_kept.Holds := by
 w_on
 refine K2.Og (q:=Fin.hQ) (K:=Fin.hK) (as:=Fin.hA) (N:=(12+(1+(3004+2270)))) Fin.YE (@bj) (@bj) (λ_=>@bj) (λ_=>@bj) Fin.YF (by rfl) (by rfl) (by rfl) (by rfl) Fin.YD ⟨rfl,rfl,rfl,rfl,rfl,@al⟩ ?hw ?hc
 (case hw=>w_witness2)
 k_fill
 refine K2.QY (l:=bh) (k:=9) (x:="_law_script") rfl rfl ⟨rfl,@f,@f⟩ (λw h Y=>Y) ?F
 case F=>
  intro w mg fa h KX G hmg;exact Fin.all_mk KX G hmg K2.WB ⟨(by repeat first |exact K2.U3 |refine K2.QH ?_),K2.eA,K2.eA,K2.eA,K2.eA,K2.eA,K2.eA,K2.eA,K2.eA,K2.eA,K2.eA,K2.eA,K2.eA,K2.eA,K2.eA,K2.eA,K2.eA,K2.eA,K2.eA,K2.eA,K2.eA,K2.eA,K2.eA,K2.eA,K2.eA,K2.eA,K2.eA,K2.eA,K2.eA,K2.eA,K2.eA,K2.eA,K2.eA,K2.eA,K2.eA,K2.eA,K2.eA,K2.eA,K2.eA,K2.eA,K2.eA,K2.eA,K2.eA,K2.eA,K2.eA,K2.eA,K2.eA,K2.gL,K2.gL,K2.gL,K2.gL,K2.gL,K2.BP,K2.BP,K2.BP,K2.BP,K2.BP,K2.km,K2.km,K2.km,K2.km,K2.km,K2.km,K2.km,K2.km,K2.km,K2.km,K2.km,K2.km,K2.km,K2.km,(K2.fX (K2.fX (K2.fX (K2.fX (K2.fX (K2.fX (K2.fX (K2.fX (K2.fX (K2.fX (K2.fX (K2.fX (K2.fX (K2.fX (K2.fX (K2.fX (K2.fX K2.Vo K2.gL) K2.gL) K2.gL) K2.gL) K2.gL) K2.gL) K2.gL) K2.gL) K2.gL) K2.gL) K2.gL) K2.gL) K2.gL) K2.gL) K2.gL) K2.gL) K2.gL),K2.Y4⟩
