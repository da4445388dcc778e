import PyProof.Rows.All
import Wide.All
import OpenK.AllK
import Wide.FinOn
import Lean
import PyProof.EqAt
import PyProof.EqKinds
import PyProof.TupleCall
import PySem.Challenge.RW_knotwise_k25_moves_refused
open Array renaming mk -> mF, length_toList -> zJ
open Bool renaming false_eq_true -> ag, not_false -> aI, not_true -> aK, and_eq_true -> bg, noConfusion -> bu, or_eq_true -> dQ, false_ne_true -> hU, true_and -> jQ, and_eq_true_iff -> j4, not_eq_true' -> mE, false_or -> uv, false_and -> zI, and_false -> J3, true_or -> QH, beq_eq_decide_eq -> QI
open Classical renaming byContradiction -> e9
open False renaming elim -> bE
open ForInStep renaming yield -> t4
open Int renaming toNat_natCast -> fu, emod_lt_of_pos -> lU, emod_nonneg -> qf, neg_mul -> Iv
open List renaming getElem?_cons_zero -> ae, getElem?_cons_succ -> af, length_cons -> ai, set_cons_zero -> aj, set_cons_succ -> ao, length_nil -> aq, map_cons -> av, cons_append -> aw, length_map -> ax, nil_append -> ay, map_nil -> aF, map_append -> aH, length_append -> aM, replicate -> aN, mem_cons_of_mem -> aP, mem_cons_self -> aQ, size_toArray -> aZ, not_mem_nil -> bf, getElem?_eq_getElem -> bo, flatten_cons -> br, filter_append -> bC, append_nil -> bH, getElem?_append_right -> bL, append_assoc -> bM, mem_cons -> bN, mem_append_right -> b4, getElem?_append_left -> cm, length_take -> cz, take_append_drop -> cH, flatMap_cons -> cJ, getElem_map -> cP, length -> cU, length_drop -> cZ, nodup_cons -> c5, length_range -> c6, map_congr_left -> dh, getElem?_map -> dB, range -> dG, length_singleton -> dO, find?_cons -> dP, filter_cons_of_neg -> d0, getD_eq_getElem?_getD -> d6, mem_append_left -> ee, append_of_mem -> eD, nodup_append -> eR, mem_of_getElem? -> eS, getElem?_set_ne -> eT, getElem?_set_self -> fi, map_map -> fA, length_set -> fB, length_replicate -> fC, flatten_append -> gx, mem_singleton -> gY, length_filter_le -> gZ, flatMap_append -> iP, nodup_nil -> i7, take_of_length_le -> jc, foldl_cons -> jC, map -> kS, all_eq_true -> kT, mem_map_of_mem -> kY, mem_append -> lP, getElem_range -> lQ, getElem?_replicate -> lR, find?_eq_none -> lS, find?_append -> mD, getElem?_eq_none -> nH, zipIdx_cons -> nR, lookup_cons -> nS, idxOf_le_length -> oC, getElem?_of_mem -> oE, any_cons -> oR, lookup -> pW, filter -> pX, zipIdx_append -> qX, mem_of_find?_eq_some -> rk, pairwise_map -> tD, length_erase_of_mem -> tE, isEmpty_cons -> tF, filter_congr -> tG, map_take -> uo, map_id -> uq, map_drop -> ur, isEmpty_nil -> u7, getElem_mem -> vc, filter_cons -> vd, length_pos_of_mem -> vN, mem_erase_of_ne -> yR, idxOf_cons_self -> yS, filterMap_cons -> Aa, take_nil -> Ck, drop_nil -> Cm, idxOf_append -> Dc, foldl_append -> De, set_nil -> Eb, take_append_of_le_length -> FD, countP_eq_length_filter -> FV, perm_append_comm_assoc -> HL, of_mem_zip -> HM, length_zip -> HN, find?_some -> HP, take_left -> JY, drop_left -> JZ, drop_eq_getElem_cons -> J0, filterMap_cons_some -> Lr, Nodup -> Lu, filter_cons_of_pos -> Nl, all_cons -> Nm, find?_cons_of_pos -> NF, find?_cons_of_neg -> NG, drop_of_length_le -> NH, drop_eq_nil_of_le -> NI, eq_nil_or_concat -> QD, all_map -> QE, mem_of_mem_drop -> Q0, getElem?_zipIdx -> Q3
open List.Nodup renaming sublist -> Ls
open List.Perm renaming swap -> vO
open Nat renaming le_refl -> bb, ne_of_lt -> bO, lt_of_lt_of_le -> bQ, le_trans -> cY, le_of_ble_eq_true -> dg, zero_le -> eB, lt_irrefl -> jY, lt_succ_self -> kW, zero_add -> nK, min_eq_left -> qe, add_sub_cancel_left -> u6, succ_le_succ -> vL, le_add_right -> vM, le_of_succ_le_succ -> vS, ble -> AO, mod_lt -> Nk, sub_zero -> QX, sub_self -> QY, le_of_lt -> QZ
open Ne renaming symm -> dA
open Option renaming bind_some -> tZ, isSome_map -> Cj
open Option.some renaming inj -> bV
open Prod.mk renaming injEq -> Iu
open PyProof.Rows renaming callWith_builtin1 -> hV, callWith_type1 -> iO, IntsAre -> k7, boot_isinstance -> md, slot_tuple_getitem -> xV, envOfC -> AJ, AllBare -> AP
open PySem renaming Shared -> aL, wpAny_bind -> aR, starEach -> aT, mainGlobals -> bj, sizeLine -> bB, wpAny_pure -> bI, Program -> bY, FuncData -> cG, sizeLine_eq -> cX, bootBuiltins -> dj, wpAny_Call_Name_kw -> eG, Around -> eI, backTo -> eW, compareOp -> eZ, foldedSetIterable -> gH, wpAny_mono -> iq, wpAny_holding -> iu, mem_of_lookup -> iI, sysModules -> jA, assignEach -> jB, wpAny_passesOwn -> j8, wpAny_execs_nil -> j9, treeTable -> kc, swapsWith -> kd, Params -> kg, wpAny_newObj_type -> kP, binaryOp -> kR, wpAny_execs_cons -> lO, tupleKind_room_in1 -> mJ, importedModules -> mK, OsState -> mL, codeAny_mono -> oS, holding -> qb, ReadsAll -> qW, sliceBounds -> rE, argBest -> rF, NameKind -> um, codeAny -> u3, richCompare -> yb, keywordEach -> yc, bindArgs -> yd, attributeBase -> ye, ExceptHandler -> yg, wpAny_updateSeq -> AF, wpAny_loadPart' -> AG, letOwnedTupleGo -> AH, codeAny_builtin -> AK, assign -> AL, wpAny_call -> Ci, wpAny_tryCatch -> C8, spliced -> D7, wpAny_standAt -> FK, wpAny_pyIter_tuple -> FO, tupleKind -> FP, plainId_quiet -> FQ, getMethod -> FR, wpAny_truthy_dict -> Ie, wpAny_truthy_bool -> Ig, wpAny_pyIter_list -> Ih, wpAny_Assign_Name -> Ii, standAt -> Ij, relabel -> Ik, callerA -> Il, call -> JU, backToKw -> Nj, wpAny_letGo -> Nw, valueAt -> Nx, noteFrame -> Ny, getItem -> Nz, excClassObj -> NA, Within -> NC, ExcAttrBase -> NJ, wpAny_seqItems -> QT
open PySem.Around renaming under_plainId -> xY, under -> Np
open PySem.AutoSeq1 renaming sub_tuple_tuple -> FY
open PySem.Builtin.Builtins renaming bindParams -> xX
open PySem.Builtin.List renaming listTooLong -> jH
open PySem.Builtin.Slice renaming slicePlaces -> jj, sliceAdjust -> nM, sliceApplied -> Ab
open PySem.Builtin.Tuple renaming tupleExact -> jD
open PySem.Calls renaming spliced_cons -> gM, spliced_nil -> rJ, Name_function_global -> HS, evalArgs_plain -> QG
open PySem.Code renaming isFrame -> QF
open PySem.Expr renaming Name -> HQ
open PySem.F renaming plain_min_loop -> ji, plainAttrs_list -> k6, slot_dict_get -> u5, attrBase_ValueError -> Ea, args_tuple_add_2 -> HK, slot_list_index -> Ip, entry_tuple_add -> Iq, args_dict_get_3 -> Ir, entry_min_loop -> Iw, slot_tuple_add -> JW, entry_dict_get -> JX
open PySem.Heap renaming get?_push_of_some -> aW, lt_size -> ba, get?_push_size -> cj, get?_update_other -> dD, size_push -> i8, FlyingW -> oB, get?_update_self -> xW, SameBut -> Ec, get?_none_of_le -> Q4
open PySem.Heap.IsSliceOf renaming new -> FW
open PySem.NameKind renaming free -> kX
open PySem.Obj renaming mapSeq -> yQ
open PySem.Paired renaming length -> z9
open PySem.PassesOwn renaming never -> QW
open PySem.PyData renaming eqv -> vR, depthAll -> FC
open PySem.SeqAt renaming items_eqAt -> nI, any_by_data -> rH, readOf -> C9
open PySem.Value renaming ref -> fN, bool -> xT, int -> FT, none -> JT, str -> NB
open PySem.W renaming Frag -> aB, kia_one -> eA, emptyDict -> e7, callWith_K -> fy, boot_heap -> gh, nsIn -> gI, findIn -> gL, instObj -> hZ, keepIn -> iN, fnOf -> jh, boot_drawn -> kQ, excIn -> nJ, kitOne -> qc, SharedT -> rG, plainGet -> tx, topFrame -> uk, methodCall_KW -> u4, boot_toks -> vQ, lookIn -> xU, plainGet_of -> yf, findIn -> AI, methodObj -> AM, hasDictIn -> AN, takerIn -> D8, OpenLaw -> D9, codeIn -> FU, cellsFrom_some -> JV, isFn -> Lq, openGood -> Ni, hideAll_get -> ND, of_hideAll -> QC, plainOver -> QU, kitx_none -> QV
open Sum renaming inr -> Im, inl -> Io
open True renaming intro -> iB
set_option hygiene false
set_option compiler.extract_closed false
local macro_rules
|`(@E)=>`(.inl rfl)
|`(@c)=>`(by decide)
|`(@n)=>`(List Str)
|`(@D)=>`(List Value)
|`(@U)=>`(.type "tuple")
|`(@ah)=>`((.str "knotwise.errors" 187))
|`(@Q)=>`((.bool .true))
|`(@F)=>`((.str "knotwise.moves" 430))
|`(@u)=>`((.int 0 0))
|`(@ac)=>`((.str "law_knotwise_k25_moves_refused" 891))
local macro_rules
|`(@j)=>`(some o)
|`(@H)=>`(List α)
|`(@X)=>`(h'.get? b)
|`(@A)=>`(List (Addr×Obj))
|`(@aa)=>`(Str->Option Value)
|`(@M)=>`(Value->aL->Prop)
|`(@aj)=>`(X.env.cells.lookup x=some c)
|`(@o)=>`(Inv X pins σ H s)
|`(@Z)=>`(s.heap.get? b)
|`(@k)=>`((by simp))
local macro_rules
|`(@f)=>`(λ_ _=>False)
|`(@r)=>`((model X.prog X.w))
|`(@m)=>`(.ref a)
|`(@R)=>`(⟨rfl,rfl⟩)
|`(@e)=>`(by lia)
|`(@z)=>`((.ref C))
|`(@T)=>`((model prog w))
|`(@ai)=>`(s.heap.objs.size+1)
|`(@I)=>`(List Int)
|`(@i)=>`(List D)
local macro_rules
|`(@t)=>`(Gp->Prop)
|`(@ad)=>`(ns.map D.int)
|`(@w)=>`(cO G G')
|`(@V)=>`(DecidableEq α)
|`(@Y)=>`((λ_ _ _ _=>trivial))
|`(@af)=>`((aT (e::es) X.env=(false,eval e X.env)::aT es X.env))
|`(@G)=>`((ic false))
|`(@al)=>`(de X N scope s3.heap.objs.size s3 H3 fp)
|`(@q)=>`((ends Q))
|`(@W)=>`(by decide +kernel)
local macro_rules
|`(@B)=>`(List T3)
|`(@ak)=>`(rows.flatten.map T3.s)
|`(@d)=>`((ak 0))
|`(@g)=>`((ak 1))
|`(@l)=>`((ak 2))
|`(@L)=>`(enc rows)
|`(@p)=>`(some (@L))
|`(@K)=>`(some (.ref p))
|`(@C)=>`((dC (.int 0)))
|`(@N)=>`((dC (.int 2)))
local macro_rules
|`(@O)=>`((cD (pairsOf rows)))
|`(@s)=>`((dC (.int 1)))
|`(@J)=>`(Dr rows)
|`(@y)=>`(names rows)
|`(@ag)=>`(List.mem_singleton.mpr rfl)
|`(@ab)=>`(handOf rows a)
|`(@ae)=>`(["NoName","NameTaken","NoSpot","TooMany","NoFit","NoMove"])
|`(@v)=>`(λ_ _ _ _ _ _ _=>cf)
|`(@P)=>`(["self","drawing"])
|`(@S)=>`(by first |k_is |kit_is)
local macro_rules
|`(tactic|ext c)=>`(tactic|(intro E pins s σ H τ G Q hE I h))
|`(tactic|ext d)=>`(tactic|(simp only[↓aC,↓ag,↓if_false]))
set_option Elab.async false
set_option linter.all false
set_option maxRecDepth 100000
set_option maxHeartbeats 4000000
set_option genSizeOf false
set_option genInjectivity false
set_option compiler.extract_closed false
namespace Internal
noncomputable section
theorem Ac(h:0=0:=by kernel_rfl):0=0:=h
theorem Ad(h:0=0:=by decide):0=0:=h
theorem Ae(h:0=0:=by first |rfl |decide):0=0:=h
theorem Af(h:0=0:=by first |k_is |rfl):0=0:=h
theorem Ai(h:0=0:=by intro _;rfl):0=0:=h
theorem Ak(h:0=0:=by decide +kernel):0=0:=h
theorem Am(h:0=0:=by exact aQ):0=0:=h
theorem An(h:0=0:=by exact dg rfl):0=0:=h
theorem Ao(h:0=0:=by first |exact @E |exact .inr rfl |exact .inr (@E) |exact .inr (.inr rfl) |assumption):0=0:=h
theorem Aq(h:0=0:=by k_is):0=0:=h
theorem Ar(h:0=0:=by rfl):0=0:=h
theorem W5(h:0=0:=by exact scm):0=0:=h
theorem Aub(h:0=0:=by intro _ _ _ _ _ _ us hl;rcases us with _ |⟨_,_ |⟨_,_ |⟨_,_ |⟨_,_ |⟨_,_⟩⟩⟩⟩⟩<;>first |rfl |(simp at hl;done)):0=0:=h
theorem UC(h:0=0:=by intro ds G Q E h;iterate 14 (first |done |(obtain⟨e,_⟩:=h;(subst e);rfl) |(obtain⟨_,h⟩:=h))):0=0:=h
theorem ZD(h:0=0:=by intro _;kernel_rfl):0=0:=h
theorem JR(h:0=0:=by exact K2.Nv):0=0:=h
theorem Auf(h:0=0:=by exact K2.cw):0=0:=h
theorem ZC(h:0=0:=by(repeat intro _);show _=_;kernel_rfl):0=0:=h
theorem Auh(h:0=0:=by exact K2.WI):0=0:=h
theorem Aui(h:0=0:=by exact K2.VI):0=0:=h
theorem Auj(h:0=0:=by exact⟨rfl,rfl,rfl⟩):0=0:=h
theorem Auk(h:0=0:=by repeat' first |(show dw _ _ _;first |(show dw _ _ (ak _);exact pvK) |(show dw _ _ (dC _);first |exact R7 |exact RY |exact Vs |exact Kj |exact Sa ‹_› ‹_›) |(show dw _ _ (aG _ _ _);first |refine Vn ‹_› ?_ ?_ (λ_ _=>rfl) |refine Vm ?_ ?_ ?_ |refine Sb ?_ ?_ ?_ (IY _)) |refine Vp ?_ |(show dw _ _ (aO _ _);refine aaA ‹_› ‹_› ?_) |(show dw _ _ (bh _ _ _);refine Sd ‹_› ?_) |refine RX ?_ |refine R4 ?_ |(show dw _ _ (gJ iL _);refine ZJ M0 WL ‹_› ‹_› ?_) |(show dw _ _ (iZ _ du _ _);refine X8 k6 PySem.F.slot_list_append PySem.F.type_list_append vY Je ?_ ?_) |refine LZ ?_ ?_ ?_ |(show dw _ _ (cW _ _ _ _);refine L7 ?_ ?_ ?_) |(show dw _ _ (gv _ _ _);refine R3 ‹_› ‹_› ?_) |refine Vk ?_ ?_ |refine Vo ?_ ?_ ?_ |(show dw _ _ (eK _ _ _ _ _ _);refine Vq ‹_› ?_ (λ_ _ _ _ _=>?_) (λ_ _ _ _=>?_) λ_ _ _ _=>?_) |(show dw _ _ (fW _ _ _ _);refine IS ?_ ?_ ?_) |(show dw _ _ (gG _ _ _);refine aaB ‹_› ‹_› ‹_› ?_) |(show dw _ _ (qV _ _ _);refine R6 ‹_› ‹_› ‹_› ?_) |(show dw _ _ (gJ oA _);refine ptK JF Li ‹_› ‹_› ?_) |exact R8 |(show dw _ _ (kM _ _);refine aaz ‹_› ‹_› ?_) |(show dw _ _ (E8 _ _);first |refine Ah _ (@c) Nv ?_ Nv ?_ Li ?_ |refine Ah _ (@c) Nv ?_ Nv ?_ Qo ?_ |refine Ah _ (@c) Nv ?_ Nv ?_ Tc ?_ |refine Ah _ (@c) Nv ?_ Nv ?_ Qn ?_) |(show dw _ _ (iZ _ oI _ _);refine X8 k6 Ip PySem.F.type_list_index vY (Mm ‹_›) ?_ ?_) |(show dw _ _ (gJ nz _);refine ZJ (CO rfl ‹_›) M4 ‹_› ‹_› ?_) |refine Vl ?_ ?_ |(show dw _ _ (gJ Hn _);refine ZJ (MZ rfl ‹_›) WK ‹_› ‹_› ?_) |refine Se ?_ ?_ |(show dw _ _ (BU _ _);refine OK ?_ ?_) |(show dw _ _ (iZ _ Bf _ _);refine X8 PySem.F.plainAttrs_dict u5 PySem.F.type_dict_get NQ (O3 ‹_›) ?_ ?_) |(show dw _ _ (iZ _ tK _ _);refine X8 k6 PySem.F.slot_list_insert PySem.F.type_list_insert vY Jc ?_ ?_) |(show dw _ _ (iZ _ tM _ _);refine X8 k6 PySem.F.slot_list_extend PySem.F.type_list_extend vY Jd ?_ ?_) |(show dw _ _ (gJ Qm _);refine ZJ (M3 rfl) WM ‹_› ‹_› ?_) |(show dw _ _ (DR _ _);refine R5 ‹_› ‹_› ‹_› ?_) |refine R0 ?_ |(show dw _ _ (gJ cInt _);refine ptK M1 Qo ‹_› ‹_› ?_) |refine RZ ?_) |(show rg _ _ _;first |(show rg _ _ (ah _ _);refine paK ?_ ?_) |exact Ap) |(show ma _ _ _;first |refine LU ?_ ?_ |exact Ou |refine Ot ?_) |(show ui _ _ _;first |(show ui _ _ (aS _ _);first |refine Vc ‹_› ‹_› ?_ (λ_ _ _ _ _=>?_) (λ_ _ _ _=>?_) λ_ _ _ _=>?_ |refine psK ‹_› ?_ |refine pqK ?_ ?_) |refine RL ?_ |refine Ve ?_ ?_ ?_ |(show ui _ _ (bw _);refine pxK ?_) |(show ui _ _ (c4 _ _ _);first |refine pfK QW ?_ ?_ ?_ |refine pfK PassesOwn.leaving ?_ ?_ ?_) |exact LW |(show ui _ _ (jg _ _ _ _);refine RJ ‹_› ?_ ?_) |(show ui _ _ (fV _ _);refine Vd ‹_› ‹_› ?_) |refine LV QW ?_ ?_ |refine RM ?_ |refine Ov ?_) |(show pS _ _ _;first |(show pS _ _ (ic _);first |exact VC ‹_› |exact Vy ‹_›) |exact Sk |exact Sl |(show pS _ _ (uN _);first |exact VA ‹_› |exact Mf ‹_›) |exact Sj |exact Si |exact OT |exact VB |exact Vz ‹_›) |(show CP _ _ _;first |(show CP _ _ (bX _);first |refine EB ?_ ?_ ?_ (IY _) |refine EB ?_ ?_ ?_ (by with_unfolding_all rfl) |refine LS ?_ |refine pzK ?_) |refine RI ?_ |refine Qw.pt ?_) |(show AD _ _ _;first |(show AD _ _ (aE _);exact pgK ‹_›) |(show AD _ _ (kI _);refine RS rfl ?_ ?_) |(show AD _ _ (q4 _ _);refine pyK ‹_› ?_ ?_) |(show AD _ _ (MQ _);refine RU rfl ?_ ?_)) |refine Yr ‹_› ‹_› ?_ |exact O4 |(show Hx _ _ _ _;first |refine RR ?_ |(show Hx _ _ _ (lN _);refine IP Nv ?_ ?_) |(show Hx _ _ _ (Bw _);refine OG Nv ?_ ?_) |(show Hx _ _ _ (Pq _ _);refine RQ Nv ?_ ?_ ?_)) |(show XB _ _ _;first |refine OB ?_ |exact OC) |(show Qw _ _ _;first |refine Vb ?_ ?_ |refine RG ?_ ?_ |refine RF ?_ |refine Ol ?_) |(show Hy _ _ _;first |(show Hy _ _ (ez _ _);refine LY ?_ ?_) |exact OH) |refine Yq ‹_› ‹_› ?_ |exact Mp |exact Ra |(show FH _ _ _ _;first |refine Rh (λEX=>?_) ?_ |refine UR ?_ ?_ |exact UQ |(show FH _ _ _ (sR _ _ _ _ _ _ _);refine tbM ‹_› ‹_› ‹_› ?_ (λ_=>?_) (λ_=>?_) λ_=>?_) |refine XJ (λEX=>?_) ?_ ?_ |(show FH _ _ _ (DQ _ _ _ _ _);refine tbR ‹_› ‹_› ‹_› ‹_› ‹_› (λ_=>?_) λ_=>?_)) |(show _=none;exact noX ‹_› ‹_›) |refine MO ?_ |exact PR |exact .none |refine .some ?_):0=0:=h
theorem Ax(h:0=0:=by k_exc):0=0:=h
theorem Ay(h:0=0:=by exact λ_ _=>⟨_,by with_unfolding_all rfl⟩):0=0:=h
namespace L2
open PySem PySem.Spec PyProof.Rows
noncomputable def fm(s:Stmt):Arguments:=match s with
 |.FunctionDef _ a _ _ _ _ _ _ _ _=>a
 |_=>{posonlyargs:=[],args:=[],vararg:=none,kwonlyargs:=[],kw_defaults:=[],kwarg:=none,defaults:=[]}
noncomputable def c7(s:Stmt):List Stmt:=match s with
 |.FunctionDef _ _ b _ _ _ _ _ _ _=>b
 |_=>[]
noncomputable def bK(s:Stmt):Scope:=match s with
 |.FunctionDef _ _ _ _ _ _ sc _ _ _=>sc
 |_=>{kind:=.function,names:=[],isGenerator:=false,isCoroutine:=false}
end L2
namespace K2
open PySem PySem.W PySem.Spec PyProof.Rows PySem.Calls
theorem Mz(e:opening p=plainProg p.main.scope.names)(hN:AO 600 N=true)(f:∀s,fenceModules? p s=some s)
  (h:∀(w:World) (os:mL),(topFrom kc p w N ⟨gh w.params,mF [],kQ,vQ,os⟩).map (λs=>(openSeen q loose (mK p.main.body) Xt true s,Yf s))=some (Ni q loose,Ya w)):LeftO p q loose Xt Yf Ya N:=λw=>by
 obtain⟨⟨h',gs,d,k,os⟩,e1,e2⟩:=Option.map_eq_some_iff.mp (boot_open e hN f w);obtain⟨rfl,rfl,rfl,rfl⟩:h'=gh w.params/\gs=mF []/\d=kQ/\k=vQ:=by simpa using e2
 unfold openEnds;rw[e1];exact h w os
noncomputable abbrev J8(l:OpenLaw)(q:bY):Bool:=chainsOk q&&opensWell l.row.prog&&(frees l.row.toRowW&&l.row.within.isEmpty)
noncomputable abbrev NM(l:OpenLaw)(q:bY)(s:aL):Bool:=xlAt q [] s&&recOk l.row.records s
theorem ML{K:kg->Frag}(ok:l.wellSaid=true)(e:opening l.row.prog=plainProg l.row.prog.main.scope.names)(hN:AO 600 N=true)(f:∀s,fenceModules? l.row.prog s=some s)(hK:∀P,as=(K P).map (·.1))
  (h:∀(w:World) (os:mL),(topFrom kc l.row.prog w N ⟨gh w.params,mF [],kQ,vQ,os⟩).map (λs=>(openSeen q loose (mK l.row.prog.main.body) (NM l q) true s,as.map s.heap.get?))=some (Ni q loose,(K w.params).map λp=>some p.2))
  (hd:defOf q l.row.name=some (d,[])) (hp:l.row.prog.theDef l.row.name=some (d.params,d.body,d.scope)) (hk:kwWritten? d.params.kwonlyargs d.params.kw_defaults=some []) (hr:(!l.row.writes||l.row.records.isEmpty)=true) (ht:J8 l q=true) (hb:l.row.prog.bare) (hw:l.row.toRowW.promised)
  (c:WalkO q loose (XL q []) (InK K) l.row.toRowW d [] λf vs=>JU f vs):l.Holds :=
 holds_law ok λk1=>holds_open (Mz (Yf:=Hook.obs (kHook K as hK)) (Ya:=Hook.val (kHook K as hK)) e hN f h) (Hook.of (kHook K as hK)) (Hook.keeps (kHook K as hK)) (λs x=>xl_of s (Bool.and_eq_true_iff.mp x).1) XL.keeps hd hp hk (λs x=>recFacts_of (Bool.and_eq_true_iff.mp x).2) hr k1 ht hb hw c
noncomputable def v3(tb:String->Option Builtin)(p:bY)(w:World)(pA:Nat)(ann:Option Value):Nat->rG->Thread->Option rG
 |0,_,_=>none
 | n+1,s,t=>match through t with
  |true=>some s
  | false=>match stepOk pA ann t with
   |false=>none
   |true=>match stepT (denote tb) p w s t with
    |some (s',t')=>v3 tb p w pA ann n s' t'
    |none=>none
theorem Rt:∀{n:Nat} {s s':rG} {t:Thread},v3 tb p w pA ann n s t=some s'->topRun tb p w pA ann n s.abs t=some s'.abs:=by
 intro n;induction n with
 |zero=>intro s s' t h;cases h
 | succ n ih=>
  intro s s' t h;unfold v3 at h;unfold topRun;cases ht:through t with
  |true=>rw[ht] at h;cases h;rfl
  | false=>
   rw[ht] at h;cases hk:stepOk pA ann t with
   |false=>rw[hk] at h;cases h
   | true=>
    rw[hk] at h;cases hs:stepT (denote tb) p w s t with
    |none=>rw[hs] at h;cases h
    |some r=>
     obtain⟨iQ,aah⟩:=r;rw[hs] at h;rw[stepT_spec hs];exact ih h
noncomputable def bt(l:List Obj):BT:=(l.foldl (λ(p:BT×Nat) o=>(p.1.ins p.2 o,p.2+1)) (BT.nil,0)).1
noncomputable def Qp(P:kg)(os:mL):rG:=⟨bt (gh P).objs.toList,(gh P).objs.size,(gh P).life,mF [],kQ,vQ,os⟩
theorem M6(P)(os):(Qp P os).abs=⟨gh P,mF [],kQ,vQ,os⟩:=by kernel_rfl
noncomputable abbrev Kv{α:Type}(p q)(loose)(Xt)(Yf:aL->α)(P)(s):=((staticsOk (mK p.main.body) (gh P) s.heap&&namesBound p s.heap&&gensDone s&&laidKept (gh P) s.heap),openSeen q loose (mK p.main.body) Xt true s,Yf s)
noncomputable def Y9(tb:String->Option Builtin)(p:bY)(w:World)(pA:Nat)(ann:Option Value):Nat->rG->Thread->Option (rG×Thread)
 |0,s,t=>some (s,t)
 | n+1,s,t=>match through t with
  |true=>none
  | false=>match stepOk pA ann t with
   |false=>none
   |true=>match stepT (denote tb) p w s t with
    |some (s',t')=>Y9 tb p w pA ann n s' t'
    |none=>none
section
variable {tb:String->Option Builtin} {p:bY} {w:World} {pA:Nat} {ann:Option Value} {b:List Stmt} {env:Env} {c:Code} {q pos p':Pos}
theorem Wk:∀{n:Nat} {s s':rG} {t t':Thread},Y9 tb p w pA ann n s t=some (s',t')->topGo tb p w pA ann n s.abs t=some (s'.abs,t'):=by
 intro n;induction n with
 |zero=>intro s s' t t' h;cases h;rfl
 | succ n ih=>
  intro s s' t t' h;unfold Y9 at h;unfold topGo;cases ht:through t with
  |true=>rw[ht] at h;cases h
  | false=>
   rw[ht] at h;cases hk:stepOk pA ann t with
   |false=>rw[hk] at h;cases h
   | true=>
    rw[hk] at h;cases hs:stepT (denote tb) p w s t with
    |none=>rw[hs] at h;cases h
    |some r=>
     obtain⟨iQ,aah⟩:=r;rw[hs] at h;rw[stepT_spec hs];exact ih h
theorem MY(h1:Y9 tb p w pA ann nA s0 (topStub p)=some (sA,⟨denote tb (.body b env),c,pos,[uk q]⟩))(h2:segRunT tb p w pA ann 1 nB sA (blockOf b env c pos [uk q])=some (.next,sB,c,p'))
  (k:topRun tb p w pA ann N sB.abs (restOf b env c p' [uk q])=some r):topRun tb p w pA ann (nA+(nB+N)) s0.abs (topStub p)=some r:=go_top (Wk h1) (piece_block (segRun_of h2) k)
theorem Qd(k)(h:segRunT tb p w pA ann 1 n s (piecesOf (b.take k) env c pos [uk q])=some (.next,s',c,p'))
  (hk:topRun tb p w pA ann N s'.abs (restOf (b.drop k) env c p' [uk q])=some r):topRun tb p w pA ann (n+N) s.abs (restOf b env c pos [uk q])=some r:=by
 have:=piece_app (segRun_of h) hk
 rwa[cH] at this
end
theorem O8{σ α β γ:Type}{o:Option σ}{F:σ->α×β×γ}{a:α}{b:β}{c:γ}(h1:o.map (λs=>((F s).1,(F s).2.2))=some (a,c))(h2:o.map (λs=>(F s).2.1)=some b):o.map F=some (a,b,c):=by
 cases o with
 |none=>cases h1
 |some s=>
  have e1:=bV h1;have e2:(F s).2.1=b:=bV h2;show some ((F s).1,(F s).2.1,(F s).2.2)=_;rw[e2,show(F s).1=a from congrArg (·.1) e1,show(F s).2.2=c from congrArg (·.2) e1]
theorem Rf{p q:bY}{loose:@n}{Xt:aL->Bool}{α:Type}{Yf:aL->α}{Ya:World->α}{N M:Nat}{w:World}{os:mL}{Sv:Nat}{ann:Option Value}{sL:rG}{tL:Thread}
  (hz:((gh w.params).isNs bj,(gh w.params).objs.size,(gh w.params).nsMap bj "__annotations__")=(true,Sv,ann))
  (h:(v3 kc p w Sv ann M sL tL).map (λs=>Kv p q loose Xt Yf w.params s.abs)=some (true,Ni q loose,Ya w))
  (k:∀r,topRun kc p w Sv ann M sL.abs tL=some r->topRun kc p w Sv ann N (Qp w.params os).abs (topStub p)=some r):
  (topFrom kc p w N ⟨gh w.params,mF [],kQ,vQ,os⟩).map (λs=>(openSeen q loose (mK p.main.body) Xt true s,Yf s))=some (Ni q loose,Ya w):=by
 obtain⟨s,e1,e2⟩:=Option.map_eq_some_iff.mp h;have r:=k _ (Rt e1);rw[M6] at r;obtain⟨z1,z2,z3⟩:_/\_/\_:=by simpa only[Iu] using hz
 obtain⟨l1,l2,l3⟩:_/\_/\_:=by simpa only[Iu] using e2
 have t:topFrom kc p w N ⟨gh w.params,mF [],kQ,vQ,os⟩=some s.abs:=by
  unfold topFrom;dsimp only;have g:((mF []:Array GenState).size == 0)=true:=rfl;rw[z1,z2,z3,g,jQ,r];dsimp only[tZ];rw[l1]
 rw[t];exact congrArg some (Prod.ext l2 l3)
end K2
namespace Fin
open PySem PySem.Spec PyProof.Rows L2 K2
noncomputable def top(i:Nat):Stmt:=PySem.Challenge.pw_knotwise_k25_moves_refused.main.body.getD i (.Pass ⟨0,0,0,0⟩)
def x8(i j:Nat):Stmt:=match top i with |.ClassDef _ _ _ b _ _ _ _ _ _ _=>b.getD j (.Pass ⟨0,0,0,0⟩) |s=>s
noncomputable section
open PySem.W PySem.Calls
noncomputable def hC (n:Str) (t:Nat) (l:@D):Obj:=⟨.type "code",none,.fields (.str n t::.str n (t+1)::.str "/claim/cut.py" (t+2)::l).toArray,#[]⟩
noncomputable def hI(n:Int):Value:=.int n 0
noncomputable def hR(n:Nat):Value:=.ref n
noncomputable def hN:Value:=.none
noncomputable def hT:Value:=.bool true
noncomputable def hS (n:Nat):Value:=.str "/claim/cut.py" n
noncomputable def hD(n:Str)(t:Nat)(l a:Int)(r:Nat)(x y z:Value)(u:Nat):Obj:=hC n t [hI l,hI a,hI 0,hI 0,hI 3,hR r,hT,hI 181,hR (r+1),hN,x,y,z,hI (u-1),hI l,hS u]
noncomputable abbrev hF (i:Nat) (n:Str) (m c:Value):Obj:=⟨.type "function",none,.func (jh n n (fm (top i)) (c7 (top i)) (bK (top i)) .none .none .none m none c .none),#[]⟩
noncomputable abbrev hM (i j:Nat) (n q:Str) (m c:Value):Obj:=⟨.type "function",none,.func (jh n q (fm (x8 i j)) (c7 (x8 i j)) (bK (x8 i j)) .none .none .none m none c .none),#[]⟩
noncomputable abbrev hE(P:kg)(s:Str)(t:Nat)(v:Value):DictEntry:=⟨PyData.keyHash P s,.str s t,v⟩
noncomputable def hQ:bY:=PySem.W.view PySem.Challenge.pw_knotwise_k25_moves_refused [1,2,3,4,5,6,7,9,10,11,12,13,14,15,16,17,19,20,21,22,23,24,26,27,28,29,30,31,32,33,34,35,36,37,38,39,40,41,43,44,45,46,47,48,49,50,51,52,53,54,55,56,57,58,59,60,61,62,63,64,65,66,67,68,69]
noncomputable def o0:Obj:=⟨(@U),none,(.seq #[] 0),#[]⟩
def o1 (P:kg):Obj:=⟨(.type "dict"),none,(.dict #[hE P "__module__" 196 @ah,hE P "__firstlineno__" 200 (.int 2 199),hE P "__static_attributes__" 201 (.ref 22),hE P "__weakref__" 203 (.ref 25),hE P "__doc__" 204 .none] 3),#[]⟩
noncomputable def o2:Obj:=⟨(.type "type"),none,(.cls ⟨"KnotError",[(.type "ValueError")],[(.ref 24),(.type "ValueError"),(.type "Exception"),(.type "BaseException"),(.type "object")],23,"KnotError",.true,[],[(.ref 37),(.ref 49),(.ref 61),(.ref 73),(.ref 85),(.ref 97)],.false,none,.false⟩),#[(some (.ref 15)),none,(some (.str "KnotError" 189)),(some (.str "KnotError" 197)),(some (.builtin "ValueError.__new__")),(some @Q)]⟩
noncomputable def o3:Obj:=⟨(.type "getset_descriptor"),none,(.fields #[(.str "__weakref__" 202),(.ref 24),(.builtin "ExceptionGroup.__weakref__"),.none]),#[]⟩
noncomputable def o4:Obj:=⟨(@U),none,(.seq #[(.ref 24)] 0),#[]⟩
def o5 (P:kg):Obj:=⟨(.type "dict"),none,(.dict #[hE P "__module__" 214 @ah,hE P "__firstlineno__" 218 (.int 4 217),hE P "__static_attributes__" 219 (.ref 35),hE P "__doc__" 220 .none] 2),#[]⟩
noncomputable def o6:Obj:=⟨(.type "type"),none,(.cls ⟨"NoName",[(.ref 24)],[(.ref 37),(.ref 24),(.type "ValueError"),(.type "Exception"),(.type "BaseException"),(.type "object")],36,"NoName",.true,[],[],.false,none,.false⟩),#[(some (.ref 28)),none,(some (.str "NoName" 207)),(some (.str "NoName" 215)),(some (.builtin "ValueError.__new__")),(some @Q)]⟩
def o7 (P:kg):Obj:=⟨(.type "dict"),none,(.dict #[hE P "__module__" 230 @ah,hE P "__firstlineno__" 234 (.int 6 233),hE P "__static_attributes__" 235 (.ref 47),hE P "__doc__" 236 .none] 2),#[]⟩
noncomputable def o8:Obj:=⟨(.type "type"),none,(.cls ⟨"NameTaken",[(.ref 24)],[(.ref 49),(.ref 24),(.type "ValueError"),(.type "Exception"),(.type "BaseException"),(.type "object")],48,"NameTaken",.true,[],[],.false,none,.false⟩),#[(some (.ref 40)),none,(some (.str "NameTaken" 223)),(some (.str "NameTaken" 231)),(some (.builtin "ValueError.__new__")),(some @Q)]⟩
def o9 (P:kg):Obj:=⟨(.type "dict"),none,(.dict #[hE P "__module__" 246 @ah,hE P "__firstlineno__" 250 (.int 8 249),hE P "__static_attributes__" 251 (.ref 59),hE P "__doc__" 252 .none] 2),#[]⟩
noncomputable def o10:Obj:=⟨(.type "type"),none,(.cls ⟨"NoSpot",[(.ref 24)],[(.ref 61),(.ref 24),(.type "ValueError"),(.type "Exception"),(.type "BaseException"),(.type "object")],60,"NoSpot",.true,[],[],.false,none,.false⟩),#[(some (.ref 52)),none,(some (.str "NoSpot" 239)),(some (.str "NoSpot" 247)),(some (.builtin "ValueError.__new__")),(some @Q)]⟩
def o11 (P:kg):Obj:=⟨(.type "dict"),none,(.dict #[hE P "__module__" 262 @ah,hE P "__firstlineno__" 266 (.int 10 265),hE P "__static_attributes__" 267 (.ref 71),hE P "__doc__" 268 .none] 2),#[]⟩
noncomputable def o12:Obj:=⟨(.type "type"),none,(.cls ⟨"TooMany",[(.ref 24)],[(.ref 73),(.ref 24),(.type "ValueError"),(.type "Exception"),(.type "BaseException"),(.type "object")],72,"TooMany",.true,[],[],.false,none,.false⟩),#[(some (.ref 64)),none,(some (.str "TooMany" 255)),(some (.str "TooMany" 263)),(some (.builtin "ValueError.__new__")),(some @Q)]⟩
def o13 (P:kg):Obj:=⟨(.type "dict"),none,(.dict #[hE P "__module__" 278 @ah,hE P "__firstlineno__" 282 (.int 12 281),hE P "__static_attributes__" 283 (.ref 83),hE P "__doc__" 284 .none] 2),#[]⟩
noncomputable def o14:Obj:=⟨(.type "type"),none,(.cls ⟨"NoFit",[(.ref 24)],[(.ref 85),(.ref 24),(.type "ValueError"),(.type "Exception"),(.type "BaseException"),(.type "object")],84,"NoFit",.true,[],[],.false,none,.false⟩),#[(some (.ref 76)),none,(some (.str "NoFit" 271)),(some (.str "NoFit" 279)),(some (.builtin "ValueError.__new__")),(some @Q)]⟩
def o15 (P:kg):Obj:=⟨(.type "dict"),none,(.dict #[hE P "__module__" 294 @ah,hE P "__firstlineno__" 298 (.int 14 297),hE P "__static_attributes__" 299 (.ref 95),hE P "__doc__" 300 .none] 2),#[]⟩
noncomputable def o16:Obj:=⟨(.type "type"),none,(.cls ⟨"NoMove",[(.ref 24)],[(.ref 97),(.ref 24),(.type "ValueError"),(.type "Exception"),(.type "BaseException"),(.type "object")],96,"NoMove",.true,[],[],.false,none,.false⟩),#[(some (.ref 88)),none,(some (.str "NoMove" 287)),(some (.str "NoMove" 295)),(some (.builtin "ValueError.__new__")),(some @Q)]⟩
def o17 (P:kg):Obj:=⟨(.type "dict"),none,(.dict #[hE P "__module__" 514 @F,hE P "__firstlineno__" 518 (.int 130 517),hE P "__static_attributes__" 519 (.ref 254),hE P "__dict__" 521 (.ref 257),hE P "__weakref__" 523 (.ref 258),hE P "__doc__" 524 .none] 4),#[]⟩
noncomputable def o18:Obj:=⟨(.type "getset_descriptor"),none,(.fields #[(.str "__dict__" 520),(.ref 256),(.builtin "function.__dict__"),(.builtin "function.__dict__#set")]),#[]⟩
noncomputable def o19:Obj:=⟨(.type "getset_descriptor"),none,(.fields #[(.str "__weakref__" 522),(.ref 256),(.builtin "ExceptionGroup.__weakref__"),.none]),#[]⟩
noncomputable def Xf:Obj:=⟨(@U),none,(.seq #[(.ref 256)] 0),#[]⟩
noncomputable def o21:Obj:=⟨(.type "code"),none,(.fields #[(.str "__init__" 539),(.str "Uncurl.__init__" 540),(.str "/claim/cut.py" 541),(.int 134 0),(.int 2 0),@u,@u,(.int 3 0),(.ref 268),@Q,(.int 181 0),(.ref 269),.none,(.ref 270),(.ref 271),(.ref 272),(.int 544 0),(.int 134 0),(.str "/claim/cut.py" 545)]),#[]⟩
noncomputable def o22:Obj:=⟨(.type "code"),none,(.fields #[(.str "told" 547),(.str "Uncurl.told" 548),(.str "/claim/cut.py" 549),(.int 137 0),(.int 1 0),@u,@u,(.int 3 0),(.ref 275),@Q,(.int 181 0),(.ref 276),.none,(.ref 277),(.ref 278),(.ref 279),(.int 551 0),(.int 137 0),(.str "/claim/cut.py" 552)]),#[]⟩
noncomputable def o23:Obj:=⟨(.type "code"),none,(.fields #[(.str "refuse" 554),(.str "Uncurl.refuse" 555),(.str "/claim/cut.py" 556),(.int 140 0),(.int 2 0),@u,@u,(.int 3 0),(.ref 282),@Q,(.int 181 0),(.ref 283),.none,(.ref 284),(.ref 285),(.ref 286),(.int 559 0),(.int 140 0),(.str "/claim/cut.py" 560)]),#[]⟩
noncomputable def o24:Obj:=⟨(.type "code"),none,(.fields #[(.str "done" 562),(.str "Uncurl.done" 563),(.str "/claim/cut.py" 564),(.int 144 0),(.int 2 0),@u,@u,(.int 3 0),(.ref 289),@Q,(.int 181 0),(.ref 290),.none,(.ref 291),(.ref 292),(.ref 293),(.int 567 0),(.int 144 0),(.str "/claim/cut.py" 568)]),#[]⟩
noncomputable def o25:Obj:=⟨(.type "code"),none,(.fields #[(.str "back" 570),(.str "Uncurl.back" 571),(.str "/claim/cut.py" 572),(.int 148 0),(.int 2 0),@u,@u,(.int 3 0),(.ref 296),@Q,(.int 181 0),(.ref 297),.none,(.ref 298),(.ref 299),(.ref 300),(.int 579 0),(.int 148 0),(.str "/claim/cut.py" 580)]),#[]⟩
noncomputable def o26:Obj:=⟨(.type "code"),none,(.fields #[(.str "renamed" 582),(.str "Uncurl.renamed" 583),(.str "/claim/cut.py" 584),(.int 156 0),(.int 2 0),@u,@u,(.int 3 0),(.ref 303),@Q,(.int 181 0),(.ref 304),.none,(.ref 305),(.ref 306),(.ref 307),(.int 587 0),(.int 156 0),(.str "/claim/cut.py" 588)]),#[]⟩
noncomputable def o27:Obj:=⟨(@U),none,(.seq #[(.str "name" 590)] 0),#[]⟩
def o28 (P:kg):Obj:=⟨(.type "dict"),none,(.dict #[hE P "__module__" 534 @F,hE P "__firstlineno__" 538 (.int 132 537),hE P "__init__" 546 (.ref 274),hE P "told" 553 (.ref 281),hE P "refuse" 561 (.ref 288),hE P "done" 569 (.ref 295),hE P "back" 581 (.ref 302),hE P "renamed" 589 (.ref 309),hE P "__static_attributes__" 591 (.ref 310),hE P "__doc__" 592 .none] 2),#[]⟩
noncomputable def o29:Obj:=⟨(.type "type"),none,(.cls ⟨"Uncurl",[(.ref 256)],[(.ref 312),(.ref 256),(.type "object")],311,"Uncurl",.true,[],[],.false,none,.false⟩),#[(some (.ref 261)),none,(some (.str "Uncurl" 527)),(some (.str "Uncurl" 535)),(some (.builtin "object.__new__")),(some @Q)]⟩
noncomputable def Sq:Obj:=⟨(.type "builtin_function_or_method"),none,(.fields #[(.builtin "type.__prepare__"),(.type "type")]),#[]⟩
noncomputable def qZ:Obj:=⟨.none,none,(.fields #[]),#[]⟩
noncomputable def hK(P:kg):aB:=(nat_lit 2,⟨.none,none,(.dict #[] 0),#[]⟩) ::
(nat_lit 3,⟨(.type "dict"),none,(.dict #[hE P "__name__" 165 @ac,hE P "__doc__" 166 .none,hE P "__package__" 167 .none,hE P "__loader__" 168 (.builtin "__main__.__loader__#opaque"),hE P "__spec__" 169 .none,hE P "__annotations__" 170 (.ref 6),hE P "__builtins__" 171 (.ref 4),hE P "__file__" 173 (.str "/claim/cut.py" 172),hE P "__cached__" 174 .none,hE P "KnotError" 206 (.ref 24),hE P "NoName" 222 (.ref 37),hE P "NameTaken" 238 (.ref 49),hE P "NoSpot" 254 (.ref 61),hE P "TooMany" 270 (.ref 73),hE P "NoFit" 286 (.ref 85),hE P "NoMove" 302 (.ref 97),hE P "MOST_CROSSINGS" 306 (.int 12 305),hE P "passings_of" 315 (.ref 106),hE P "seated" 323 (.ref 113),hE P "seated_rows" 329 (.ref 118),hE P "names_of" 335 (.ref 123),hE P "hand_of" 344 (.ref 130),hE P "spots_on" 350 (.ref 135),hE P "next_of" 361 (.ref 142),hE P "string_of" 371 (.ref 149),hE P "neighbours" 382 (.ref 156),hE P "uncurl_fits" 390 (.ref 163),hE P "part_fits" 400 (.ref 170),hE P "in_turn" 409 (.ref 177),hE P "slide_pairs" 423 (.ref 184),hE P "slide_fits" 429 (.ref 189),hE P "refuse_unknown" 441 (.ref 196),hE P "refuse_unfit" 448 (.ref 203),hE P "refuse_new" 458 (.ref 210),hE P "with_put" 470 (.ref 217),hE P "taken_out" 476 (.ref 222),hE P "spot_ahead" 482 (.ref 227),hE P "first_in_turn" 492 (.ref 234),hE P "with_changed" 498 (.ref 239),hE P "renamed_spot" 506 (.ref 246),hE P "Move" 526 (.ref 256),hE P "Uncurl" 594 (.ref 312),hE P "Curl" 657 (.ref 359),hE P "Part" 731 (.ref 413),hE P "Lay" 811 (.ref 467),hE P "Slide" 883 (.ref 521),hE P "move_of" 890 (.ref 530),hE P "_law_cell_at" 900 (.ref 537),hE P "_law_whole" 907 (.ref 544),hE P "_law_mixed" 914 (.ref 551),hE P "_law_names" 924 (.ref 558),hE P "_law_free" 933 (.ref 565),hE P "_law_crossed" 939 (.ref 570),hE P "_law_spots" 949 (.ref 577),hE P "_law_put" 962 (.ref 584),hE P "_law_begun" 972 (.ref 591),hE P "_law_wholes" 981 (.ref 598),hE P "_law_same" 991 (.ref 605),hE P "_law_hands" 1001 (.ref 612),hE P "_law_next" 1012 (.ref 619),hE P "_law_pairs" 1021 (.ref 626),hE P "_law_slides" 1039 (.ref 633),hE P "_law_slid" 1056 (.ref 640),hE P "_law_beside" 1065 (.ref 647),hE P "_law_parts" 1076 (.ref 654),hE P "_law_laid" 1086 (.ref 661),hE P "_law_without" 1092 (.ref 666),hE P "_law_made" 1101 (.ref 673),hE P "_law_due_of_new" 1112 (.ref 680),hE P "_law_due_of" 1126 (.ref 687),hE P "_law_classes" 1134 (.ref 694),hE P "_law_asked" 1148 (.ref 701),hE P "_law_told_by" 1167 (.ref 708),hE P "law" 1173 (.ref 713)] 74),#[]⟩) ::
(nat_lit 15,⟨(@U),none,(.seq #[(.type "ValueError")] 0),#[]⟩) ::
(nat_lit 22,o0) ::
(nat_lit 23,o1 P) ::
(nat_lit 24,o2) ::
(nat_lit 25,o3) ::
(nat_lit 28,o4) ::
(nat_lit 35,o0) ::
(nat_lit 36,o5 P) ::
(nat_lit 37,o6) ::
(nat_lit 40,o4) ::
(nat_lit 47,o0) ::
(nat_lit 48,o7 P) ::
(nat_lit 49,o8) ::
(nat_lit 52,o4) ::
(nat_lit 59,o0) ::
(nat_lit 60,o9 P) ::
(nat_lit 61,o10) ::
(nat_lit 64,o4) ::
(nat_lit 71,o0) ::
(nat_lit 72,o11 P) ::
(nat_lit 73,o12) ::
(nat_lit 76,o4) ::
(nat_lit 83,o0) ::
(nat_lit 84,o13 P) ::
(nat_lit 85,o14) ::
(nat_lit 88,o4) ::
(nat_lit 95,o0) ::
(nat_lit 96,o15 P) ::
(nat_lit 97,o16) ::
(nat_lit 105,hD "passings_of" 307 18 1 100 (hR 102) (hR 103) (hR 104) 314) ::
(nat_lit 106,hF 10 "passings_of" (.str "knotwise.drawings" 303) (.ref 105)) ::
(nat_lit 112,hD "seated" 316 23 1 107 (hR 109) (hR 110) (hR 111) 322) ::
(nat_lit 113,hF 11 "seated" (.str "knotwise.drawings" 303) (.ref 112)) ::
(nat_lit 117,hD "seated_rows" 324 28 1 114 hN hN (hR 116) 328) ::
(nat_lit 118,hF 12 "seated_rows" (.str "knotwise.drawings" 303) (.ref 117)) ::
(nat_lit 122,hD "names_of" 330 30 1 119 hN hN (hR 121) 334) ::
(nat_lit 123,hF 13 "names_of" (.str "knotwise.drawings" 303) (.ref 122)) ::
(nat_lit 129,hD "hand_of" 336 32 2 124 (hR 126) (hR 127) (hR 128) 343) ::
(nat_lit 130,hF 14 "hand_of" (.str "knotwise.drawings" 303) (.ref 129)) ::
(nat_lit 134,hD "spots_on" 345 37 2 131 hN hN (hR 133) 349) ::
(nat_lit 135,hF 15 "spots_on" (.str "knotwise.drawings" 303) (.ref 134)) ::
(nat_lit 141,hD "next_of" 351 41 1 136 (hR 138) (hR 139) (hR 140) 360) ::
(nat_lit 142,hF 16 "next_of" (.str "knotwise.drawings" 303) (.ref 141)) ::
(nat_lit 148,hD "string_of" 362 47 2 143 (hR 145) (hR 146) (hR 147) 370) ::
(nat_lit 149,hF 17 "string_of" (.str "knotwise.drawings" 303) (.ref 148)) ::
(nat_lit 155,hD "neighbours" 374 53 3 150 (hR 152) (hR 153) (hR 154) 381) ::
(nat_lit 156,hF 19 "neighbours" (.str "knotwise.fits" 372) (.ref 155)) ::
(nat_lit 162,hD "uncurl_fits" 383 55 2 157 (hR 159) (hR 160) (hR 161) 389) ::
(nat_lit 163,hF 20 "uncurl_fits" (.str "knotwise.fits" 372) (.ref 162)) ::
(nat_lit 169,hD "part_fits" 391 57 3 164 (hR 166) (hR 167) (hR 168) 399) ::
(nat_lit 170,hF 21 "part_fits" (.str "knotwise.fits" 372) (.ref 169)) ::
(nat_lit 176,hD "in_turn" 401 62 3 171 (hR 173) (hR 174) (hR 175) 408) ::
(nat_lit 177,hF 22 "in_turn" (.str "knotwise.fits" 372) (.ref 176)) ::
(nat_lit 183,hD "slide_pairs" 410 66 5 178 (hR 180) (hR 181) (hR 182) 422) ::
(nat_lit 184,hF 23 "slide_pairs" (.str "knotwise.fits" 372) (.ref 183)) ::
(nat_lit 188,hD "slide_fits" 424 71 5 185 hN hN (hR 187) 428) ::
(nat_lit 189,hF 24 "slide_fits" (.str "knotwise.fits" 372) (.ref 188)) ::
(nat_lit 195,hD "refuse_unknown" 432 77 2 190 (hR 192) (hR 193) (hR 194) 440) ::
(nat_lit 196,hF 26 "refuse_unknown" @F (.ref 195)) ::
(nat_lit 202,hD "refuse_unfit" 442 82 1 197 (hR 199) (hR 200) (hR 201) 447) ::
(nat_lit 203,hF 27 "refuse_unfit" @F (.ref 202)) ::
(nat_lit 209,hD "refuse_new" 449 85 2 204 (hR 206) (hR 207) (hR 208) 457) ::
(nat_lit 210,hF 28 "refuse_new" @F (.ref 209)) ::
(nat_lit 216,hD "with_put" 459 93 3 211 (hR 213) (hR 214) (hR 215) 469) ::
(nat_lit 217,hF 29 "with_put" @F (.ref 216)) ::
(nat_lit 221,hD "taken_out" 471 99 2 218 hN hN (hR 220) 475) ::
(nat_lit 222,hF 30 "taken_out" @F (.ref 221)) ::
(nat_lit 226,hD "spot_ahead" 477 104 3 223 hN hN (hR 225) 481) ::
(nat_lit 227,hF 31 "spot_ahead" @F (.ref 226)) ::
(nat_lit 233,hD "first_in_turn" 483 112 4 228 (hR 230) (hR 231) (hR 232) 491) ::
(nat_lit 234,hF 32 "first_in_turn" @F (.ref 233)) ::
(nat_lit 238,hD "with_changed" 493 116 2 235 hN hN (hR 237) 497) ::
(nat_lit 239,hF 33 "with_changed" @F (.ref 238)) ::
(nat_lit 245,hD "renamed_spot" 499 126 2 240 (hR 242) (hR 243) (hR 244) 505) ::
(nat_lit 246,hF 34 "renamed_spot" @F (.ref 245)) ::
(nat_lit 254,o0) ::
(nat_lit 255,o17 P) ::
(nat_lit 256,⟨(.type "type"),none,(.cls ⟨"Move",[(.type "object")],[(.ref 256),(.type "object")],255,"Move",.true,[],[(.ref 312),(.ref 359),(.ref 413),(.ref 467),(.ref 521)],.false,none,.false⟩),#[none,none,(some (.str "Move" 507)),(some (.str "Move" 515)),(some (.builtin "object.__new__")),(some @Q)]⟩) ::
(nat_lit 257,o18) ::
(nat_lit 258,o19) ::
(nat_lit 261,Xf) ::
(nat_lit 273,o21) ::
(nat_lit 274,hM 36 0 "__init__" "Uncurl.__init__" @F (.ref 273)) ::
(nat_lit 280,o22) ::
(nat_lit 281,hM 36 1 "told" "Uncurl.told" @F (.ref 280)) ::
(nat_lit 287,o23) ::
(nat_lit 288,hM 36 2 "refuse" "Uncurl.refuse" @F (.ref 287)) ::
(nat_lit 294,o24) ::
(nat_lit 295,hM 36 3 "done" "Uncurl.done" @F (.ref 294)) ::
(nat_lit 301,o25) ::
(nat_lit 302,hM 36 4 "back" "Uncurl.back" @F (.ref 301)) ::
(nat_lit 308,o26) ::
(nat_lit 309,hM 36 5 "renamed" "Uncurl.renamed" @F (.ref 308)) ::
(nat_lit 310,o27) ::
(nat_lit 311,o28 P) ::
(nat_lit 312,o29) ::
(nat_lit 315,Xf) ::
(nat_lit 327,⟨(.type "code"),none,(.fields #[(.str "__init__" 607),(.str "Curl.__init__" 608),(.str "/claim/cut.py" 609),(.int 160 0),(.int 5 0),@u,@u,(.int 3 0),(.ref 322),@Q,(.int 181 0),(.ref 323),.none,(.ref 324),(.ref 325),(.ref 326),(.int 615 0),(.int 160 0),(.str "/claim/cut.py" 616)]),#[]⟩) ::
(nat_lit 328,hM 37 0 "__init__" "Curl.__init__" @F (.ref 327)) ::
(nat_lit 334,⟨(.type "code"),none,(.fields #[(.str "told" 618),(.str "Curl.told" 619),(.str "/claim/cut.py" 620),(.int 166 0),(.int 1 0),@u,@u,(.int 3 0),(.ref 329),@Q,(.int 181 0),(.ref 330),.none,(.ref 331),(.ref 332),(.ref 333),(.int 622 0),(.int 166 0),(.str "/claim/cut.py" 623)]),#[]⟩) ::
(nat_lit 335,hM 37 1 "told" "Curl.told" @F (.ref 334)) ::
(nat_lit 341,⟨(.type "code"),none,(.fields #[(.str "done" 625),(.str "Curl.done" 626),(.str "/claim/cut.py" 627),(.int 169 0),(.int 2 0),@u,@u,(.int 3 0),(.ref 336),@Q,(.int 181 0),(.ref 337),.none,(.ref 338),(.ref 339),(.ref 340),(.int 631 0),(.int 169 0),(.str "/claim/cut.py" 632)]),#[]⟩) ::
(nat_lit 342,hM 37 2 "done" "Curl.done" @F (.ref 341)) ::
(nat_lit 348,⟨(.type "code"),none,(.fields #[(.str "back" 634),(.str "Curl.back" 635),(.str "/claim/cut.py" 636),(.int 174 0),(.int 2 0),@u,@u,(.int 3 0),(.ref 343),@Q,(.int 181 0),(.ref 344),.none,(.ref 345),(.ref 346),(.ref 347),(.int 639 0),(.int 174 0),(.str "/claim/cut.py" 640)]),#[]⟩) ::
(nat_lit 349,hM 37 3 "back" "Curl.back" @F (.ref 348)) ::
(nat_lit 355,⟨(.type "code"),none,(.fields #[(.str "renamed" 642),(.str "Curl.renamed" 643),(.str "/claim/cut.py" 644),(.int 178 0),(.int 2 0),@u,@u,(.int 3 0),(.ref 350),@Q,(.int 181 0),(.ref 351),.none,(.ref 352),(.ref 353),(.ref 354),(.int 647 0),(.int 178 0),(.str "/claim/cut.py" 648)]),#[]⟩) ::
(nat_lit 356,hM 37 4 "renamed" "Curl.renamed" @F (.ref 355)) ::
(nat_lit 357,⟨(@U),none,(.seq #[(.str "first" 650),(.str "hand" 651),(.str "name" 652),(.str "spot" 653)] 0),#[]⟩) ::
(nat_lit 358,⟨(.type "dict"),none,(.dict #[hE P "__module__" 602 @F,hE P "__firstlineno__" 606 (.int 158 605),hE P "__init__" 617 (.ref 328),hE P "told" 624 (.ref 335),hE P "done" 633 (.ref 342),hE P "back" 641 (.ref 349),hE P "renamed" 649 (.ref 356),hE P "__static_attributes__" 654 (.ref 357),hE P "__doc__" 655 .none] 2),#[]⟩) ::
(nat_lit 359,⟨(.type "type"),none,(.cls ⟨"Curl",[(.ref 256)],[(.ref 359),(.ref 256),(.type "object")],358,"Curl",.true,[],[],.false,none,.false⟩),#[(some (.ref 315)),none,(some (.str "Curl" 595)),(some (.str "Curl" 603)),(some (.builtin "object.__new__")),(some @Q)]⟩) ::
(nat_lit 362,Xf) ::
(nat_lit 374,⟨(.type "code"),none,(.fields #[(.str "__init__" 670),(.str "Part.__init__" 671),(.str "/claim/cut.py" 672),(.int 182 0),(.int 3 0),@u,@u,(.int 3 0),(.ref 369),@Q,(.int 181 0),(.ref 370),.none,(.ref 371),(.ref 372),(.ref 373),(.int 676 0),(.int 182 0),(.str "/claim/cut.py" 677)]),#[]⟩) ::
(nat_lit 375,hM 38 0 "__init__" "Part.__init__" @F (.ref 374)) ::
(nat_lit 381,⟨(.type "code"),none,(.fields #[(.str "told" 679),(.str "Part.told" 680),(.str "/claim/cut.py" 681),(.int 186 0),(.int 1 0),@u,@u,(.int 3 0),(.ref 376),@Q,(.int 181 0),(.ref 377),.none,(.ref 378),(.ref 379),(.ref 380),(.int 683 0),(.int 186 0),(.str "/claim/cut.py" 684)]),#[]⟩) ::
(nat_lit 382,hM 38 1 "told" "Part.told" @F (.ref 381)) ::
(nat_lit 388,⟨(.type "code"),none,(.fields #[(.str "refuse" 686),(.str "Part.refuse" 687),(.str "/claim/cut.py" 688),(.int 189 0),(.int 2 0),@u,@u,(.int 3 0),(.ref 383),@Q,(.int 181 0),(.ref 384),.none,(.ref 385),(.ref 386),(.ref 387),(.int 691 0),(.int 189 0),(.str "/claim/cut.py" 692)]),#[]⟩) ::
(nat_lit 389,hM 38 2 "refuse" "Part.refuse" @F (.ref 388)) ::
(nat_lit 395,⟨(.type "code"),none,(.fields #[(.str "done" 694),(.str "Part.done" 695),(.str "/claim/cut.py" 696),(.int 193 0),(.int 2 0),@u,@u,(.int 3 0),(.ref 390),@Q,(.int 181 0),(.ref 391),.none,(.ref 392),(.ref 393),(.ref 394),(.int 699 0),(.int 193 0),(.str "/claim/cut.py" 700)]),#[]⟩) ::
(nat_lit 396,hM 38 3 "done" "Part.done" @F (.ref 395)) ::
(nat_lit 402,⟨(.type "code"),none,(.fields #[(.str "back" 702),(.str "Part.back" 703),(.str "/claim/cut.py" 704),(.int 197 0),(.int 2 0),@u,@u,(.int 3 0),(.ref 397),@Q,(.int 181 0),(.ref 398),.none,(.ref 399),(.ref 400),(.ref 401),(.int 715 0),(.int 197 0),(.str "/claim/cut.py" 716)]),#[]⟩) ::
(nat_lit 403,hM 38 4 "back" "Part.back" @F (.ref 402)) ::
(nat_lit 409,⟨(.type "code"),none,(.fields #[(.str "renamed" 718),(.str "Part.renamed" 719),(.str "/claim/cut.py" 720),(.int 209 0),(.int 2 0),@u,@u,(.int 3 0),(.ref 404),@Q,(.int 181 0),(.ref 405),.none,(.ref 406),(.ref 407),(.ref 408),(.int 723 0),(.int 209 0),(.str "/claim/cut.py" 724)]),#[]⟩) ::
(nat_lit 410,hM 38 5 "renamed" "Part.renamed" @F (.ref 409)) ::
(nat_lit 411,⟨(@U),none,(.seq #[(.str "name" 726),(.str "second" 727)] 0),#[]⟩) ::
(nat_lit 412,⟨(.type "dict"),none,(.dict #[hE P "__module__" 665 @F,hE P "__firstlineno__" 669 (.int 180 668),hE P "__init__" 678 (.ref 375),hE P "told" 685 (.ref 382),hE P "refuse" 693 (.ref 389),hE P "done" 701 (.ref 396),hE P "back" 717 (.ref 403),hE P "renamed" 725 (.ref 410),hE P "__static_attributes__" 728 (.ref 411),hE P "__doc__" 729 .none] 2),#[]⟩) ::
(nat_lit 413,⟨(.type "type"),none,(.cls ⟨"Part",[(.ref 256)],[(.ref 413),(.ref 256),(.type "object")],412,"Part",.true,[],[],.false,none,.false⟩),#[(some (.ref 362)),none,(some (.str "Part" 658)),(some (.str "Part" 666)),(some (.builtin "object.__new__")),(some @Q)]⟩) ::
(nat_lit 416,Xf) ::
(nat_lit 428,⟨(.type "code"),none,(.fields #[(.str "__init__" 744),(.str "Lay.__init__" 745),(.str "/claim/cut.py" 746),(.int 213 0),(.int 7 0),@u,@u,(.int 3 0),(.ref 423),@Q,(.int 181 0),(.ref 424),.none,(.ref 425),(.ref 426),(.ref 427),(.int 754 0),(.int 213 0),(.str "/claim/cut.py" 755)]),#[]⟩) ::
(nat_lit 429,hM 39 0 "__init__" "Lay.__init__" @F (.ref 428)) ::
(nat_lit 435,⟨(.type "code"),none,(.fields #[(.str "told" 757),(.str "Lay.told" 758),(.str "/claim/cut.py" 759),(.int 221 0),(.int 1 0),@u,@u,(.int 3 0),(.ref 430),@Q,(.int 181 0),(.ref 431),.none,(.ref 432),(.ref 433),(.ref 434),(.int 761 0),(.int 221 0),(.str "/claim/cut.py" 762)]),#[]⟩) ::
(nat_lit 436,hM 39 1 "told" "Lay.told" @F (.ref 435)) ::
(nat_lit 442,⟨(.type "code"),none,(.fields #[(.str "passings" 764),(.str "Lay.passings" 765),(.str "/claim/cut.py" 766),(.int 224 0),(.int 2 0),@u,@u,(.int 3 0),(.ref 437),@Q,(.int 181 0),(.ref 438),.none,(.ref 439),(.ref 440),(.ref 441),(.int 769 0),(.int 224 0),(.str "/claim/cut.py" 770)]),#[]⟩) ::
(nat_lit 443,hM 39 2 "passings" "Lay.passings" @F (.ref 442)) ::
(nat_lit 449,⟨(.type "code"),none,(.fields #[(.str "done" 772),(.str "Lay.done" 773),(.str "/claim/cut.py" 774),(.int 227 0),(.int 2 0),@u,@u,(.int 3 0),(.ref 444),@Q,(.int 181 0),(.ref 445),.none,(.ref 446),(.ref 447),(.ref 448),(.int 779 0),(.int 227 0),(.str "/claim/cut.py" 780)]),#[]⟩) ::
(nat_lit 450,hM 39 3 "done" "Lay.done" @F (.ref 449)) ::
(nat_lit 456,⟨(.type "code"),none,(.fields #[(.str "back" 782),(.str "Lay.back" 783),(.str "/claim/cut.py" 784),(.int 235 0),(.int 2 0),@u,@u,(.int 3 0),(.ref 451),@Q,(.int 181 0),(.ref 452),.none,(.ref 453),(.ref 454),(.ref 455),(.int 787 0),(.int 235 0),(.str "/claim/cut.py" 788)]),#[]⟩) ::
(nat_lit 457,hM 39 4 "back" "Lay.back" @F (.ref 456)) ::
(nat_lit 463,⟨(.type "code"),none,(.fields #[(.str "renamed" 790),(.str "Lay.renamed" 791),(.str "/claim/cut.py" 792),(.int 239 0),(.int 2 0),@u,@u,(.int 3 0),(.ref 458),@Q,(.int 181 0),(.ref 459),.none,(.ref 460),(.ref 461),(.ref 462),(.int 799 0),(.int 239 0),(.str "/claim/cut.py" 800)]),#[]⟩) ::
(nat_lit 464,hM 39 5 "renamed" "Lay.renamed" @F (.ref 463)) ::
(nat_lit 465,⟨(@U),none,(.seq #[(.str "hand" 802),(.str "name" 803),(.str "over" 804),(.str "second" 805),(.str "turned" 806),(.str "under" 807)] 0),#[]⟩) ::
(nat_lit 466,⟨(.type "dict"),none,(.dict #[hE P "__module__" 739 @F,hE P "__firstlineno__" 743 (.int 211 742),hE P "__init__" 756 (.ref 429),hE P "told" 763 (.ref 436),hE P "passings" 771 (.ref 443),hE P "done" 781 (.ref 450),hE P "back" 789 (.ref 457),hE P "renamed" 801 (.ref 464),hE P "__static_attributes__" 808 (.ref 465),hE P "__doc__" 809 .none] 2),#[]⟩) ::
(nat_lit 467,⟨(.type "type"),none,(.cls ⟨"Lay",[(.ref 256)],[(.ref 467),(.ref 256),(.type "object")],466,"Lay",.true,[],[],.false,none,.false⟩),#[(some (.ref 416)),none,(some (.str "Lay" 732)),(some (.str "Lay" 740)),(some (.builtin "object.__new__")),(some @Q)]⟩) ::
(nat_lit 470,Xf) ::
(nat_lit 482,⟨(.type "code"),none,(.fields #[(.str "__init__" 824),(.str "Slide.__init__" 825),(.str "/claim/cut.py" 826),(.int 247 0),(.int 5 0),@u,@u,(.int 3 0),(.ref 477),@Q,(.int 181 0),(.ref 478),.none,(.ref 479),(.ref 480),(.ref 481),(.int 832 0),(.int 247 0),(.str "/claim/cut.py" 833)]),#[]⟩) ::
(nat_lit 483,hM 40 0 "__init__" "Slide.__init__" @F (.ref 482)) ::
(nat_lit 489,⟨(.type "code"),none,(.fields #[(.str "told" 835),(.str "Slide.told" 836),(.str "/claim/cut.py" 837),(.int 253 0),(.int 1 0),@u,@u,(.int 3 0),(.ref 484),@Q,(.int 181 0),(.ref 485),.none,(.ref 486),(.ref 487),(.ref 488),(.int 839 0),(.int 253 0),(.str "/claim/cut.py" 840)]),#[]⟩) ::
(nat_lit 490,hM 40 1 "told" "Slide.told" @F (.ref 489)) ::
(nat_lit 496,⟨(.type "code"),none,(.fields #[(.str "refuse" 842),(.str "Slide.refuse" 843),(.str "/claim/cut.py" 844),(.int 256 0),(.int 2 0),@u,@u,(.int 3 0),(.ref 491),@Q,(.int 181 0),(.ref 492),.none,(.ref 493),(.ref 494),(.ref 495),(.int 847 0),(.int 256 0),(.str "/claim/cut.py" 848)]),#[]⟩) ::
(nat_lit 497,hM 40 2 "refuse" "Slide.refuse" @F (.ref 496)) ::
(nat_lit 503,⟨(.type "code"),none,(.fields #[(.str "done" 850),(.str "Slide.done" 851),(.str "/claim/cut.py" 852),(.int 260 0),(.int 2 0),@u,@u,(.int 3 0),(.ref 498),@Q,(.int 181 0),(.ref 499),.none,(.ref 500),(.ref 501),(.ref 502),(.int 855 0),(.int 260 0),(.str "/claim/cut.py" 856)]),#[]⟩) ::
(nat_lit 504,hM 40 3 "done" "Slide.done" @F (.ref 503)) ::
(nat_lit 510,⟨(.type "code"),none,(.fields #[(.str "back" 858),(.str "Slide.back" 859),(.str "/claim/cut.py" 860),(.int 264 0),(.int 2 0),@u,@u,(.int 3 0),(.ref 505),@Q,(.int 181 0),(.ref 506),.none,(.ref 507),(.ref 508),(.ref 509),(.int 863 0),(.int 264 0),(.str "/claim/cut.py" 864)]),#[]⟩) ::
(nat_lit 511,hM 40 4 "back" "Slide.back" @F (.ref 510)) ::
(nat_lit 517,⟨(.type "code"),none,(.fields #[(.str "renamed" 866),(.str "Slide.renamed" 867),(.str "/claim/cut.py" 868),(.int 268 0),(.int 2 0),@u,@u,(.int 3 0),(.ref 512),@Q,(.int 181 0),(.ref 513),.none,(.ref 514),(.ref 515),(.ref 516),(.int 873 0),(.int 268 0),(.str "/claim/cut.py" 874)]),#[]⟩) ::
(nat_lit 518,hM 40 5 "renamed" "Slide.renamed" @F (.ref 517)) ::
(nat_lit 519,⟨(@U),none,(.seq #[(.str "name" 876),(.str "second" 877),(.str "third" 878),(.str "turn" 879)] 0),#[]⟩) ::
(nat_lit 520,⟨(.type "dict"),none,(.dict #[hE P "__module__" 819 @F,hE P "__firstlineno__" 823 (.int 245 822),hE P "__init__" 834 (.ref 483),hE P "told" 841 (.ref 490),hE P "refuse" 849 (.ref 497),hE P "done" 857 (.ref 504),hE P "back" 865 (.ref 511),hE P "renamed" 875 (.ref 518),hE P "__static_attributes__" 880 (.ref 519),hE P "__doc__" 881 .none] 2),#[]⟩) ::
(nat_lit 521,⟨(.type "type"),none,(.cls ⟨"Slide",[(.ref 256)],[(.ref 521),(.ref 256),(.type "object")],520,"Slide",.true,[],[],.false,none,.false⟩),#[(some (.ref 470)),none,(some (.str "Slide" 812)),(some (.str "Slide" 820)),(some (.builtin "object.__new__")),(some @Q)]⟩) ::
(nat_lit 529,hD "move_of" 884 272 1 524 (hR 526) (hR 527) (hR 528) 889) ::
(nat_lit 530,hF 41 "move_of" @F (.ref 529)) ::
(nat_lit 536,hD "_law_cell_at" 893 285 2 531 (hR 533) (hR 534) (hR 535) 899) ::
(nat_lit 537,hF 43 "_law_cell_at" @ac (.ref 536)) ::
(nat_lit 543,hD "_law_whole" 901 289 1 538 (hR 540) (hR 541) (hR 542) 906) ::
(nat_lit 544,hF 44 "_law_whole" @ac (.ref 543)) ::
(nat_lit 550,hD "_law_mixed" 908 291 1 545 (hR 547) (hR 548) (hR 549) 913) ::
(nat_lit 551,hF 45 "_law_mixed" @ac (.ref 550)) ::
(nat_lit 557,hD "_law_names" 915 293 1 552 (hR 554) (hR 555) (hR 556) 923) ::
(nat_lit 558,hF 46 "_law_names" @ac (.ref 557)) ::
(nat_lit 564,hD "_law_free" 925 300 2 559 (hR 561) (hR 562) (hR 563) 932) ::
(nat_lit 565,hF 47 "_law_free" @ac (.ref 564)) ::
(nat_lit 569,hD "_law_crossed" 934 305 2 566 hN hN (hR 568) 938) ::
(nat_lit 570,hF 48 "_law_crossed" @ac (.ref 569)) ::
(nat_lit 576,hD "_law_spots" 940 317 1 571 (hR 573) (hR 574) (hR 575) 948) ::
(nat_lit 577,hF 49 "_law_spots" @ac (.ref 576)) ::
(nat_lit 583,hD "_law_put" 950 325 3 578 (hR 580) (hR 581) (hR 582) 961) ::
(nat_lit 584,hF 50 "_law_put" @ac (.ref 583)) ::
(nat_lit 590,hD "_law_begun" 963 337 1 585 (hR 587) (hR 588) (hR 589) 971) ::
(nat_lit 591,hF 51 "_law_begun" @ac (.ref 590)) ::
(nat_lit 597,hD "_law_wholes" 973 345 2 592 (hR 594) (hR 595) (hR 596) 980) ::
(nat_lit 598,hF 52 "_law_wholes" @ac (.ref 597)) ::
(nat_lit 604,hD "_law_same" 982 352 2 599 (hR 601) (hR 602) (hR 603) 990) ::
(nat_lit 605,hF 53 "_law_same" @ac (.ref 604)) ::
(nat_lit 611,hD "_law_hands" 992 362 1 606 (hR 608) (hR 609) (hR 610) 1000) ::
(nat_lit 612,hF 54 "_law_hands" @ac (.ref 611)) ::
(nat_lit 618,hD "_law_next" 1002 368 1 613 (hR 615) (hR 616) (hR 617) 1011) ::
(nat_lit 619,hF 55 "_law_next" @ac (.ref 618)) ::
(nat_lit 625,hD "_law_pairs" 1013 375 3 620 (hR 622) (hR 623) (hR 624) 1020) ::
(nat_lit 626,hF 56 "_law_pairs" @ac (.ref 625)) ::
(nat_lit 632,hD "_law_slides" 1022 377 3 627 (hR 629) (hR 630) (hR 631) 1038) ::
(nat_lit 633,hF 57 "_law_slides" @ac (.ref 632)) ::
(nat_lit 639,hD "_law_slid" 1040 388 2 634 (hR 636) (hR 637) (hR 638) 1055) ::
(nat_lit 640,hF 58 "_law_slid" @ac (.ref 639)) ::
(nat_lit 646,hD "_law_beside" 1057 402 3 641 (hR 643) (hR 644) (hR 645) 1064) ::
(nat_lit 647,hF 59 "_law_beside" @ac (.ref 646)) ::
(nat_lit 653,hD "_law_parts" 1066 404 3 648 (hR 650) (hR 651) (hR 652) 1075) ::
(nat_lit 654,hF 60 "_law_parts" @ac (.ref 653)) ::
(nat_lit 660,hD "_law_laid" 1077 409 2 655 (hR 657) (hR 658) (hR 659) 1085) ::
(nat_lit 661,hF 61 "_law_laid" @ac (.ref 660)) ::
(nat_lit 665,hD "_law_without" 1087 415 2 662 hN hN (hR 664) 1091) ::
(nat_lit 666,hF 62 "_law_without" @ac (.ref 665)) ::
(nat_lit 672,hD "_law_made" 1093 420 2 667 (hR 669) (hR 670) (hR 671) 1100) ::
(nat_lit 673,hF 63 "_law_made" @ac (.ref 672)) ::
(nat_lit 679,hD "_law_due_of_new" 1102 429 3 674 (hR 676) (hR 677) (hR 678) 1111) ::
(nat_lit 680,hF 64 "_law_due_of_new" @ac (.ref 679)) ::
(nat_lit 686,hD "_law_due_of" 1113 443 2 681 (hR 683) (hR 684) (hR 685) 1125) ::
(nat_lit 687,hF 65 "_law_due_of" @ac (.ref 686)) ::
(nat_lit 693,hD "_law_classes" 1127 462 1 688 (hR 690) (hR 691) (hR 692) 1133) ::
(nat_lit 694,hF 66 "_law_classes" @ac (.ref 693)) ::
(nat_lit 700,hD "_law_asked" 1135 479 3 695 (hR 697) (hR 698) (hR 699) 1147) ::
(nat_lit 701,hF 67 "_law_asked" @ac (.ref 700)) ::
(nat_lit 707,hD "_law_told_by" 1149 496 2 702 (hR 704) (hR 705) (hR 706) 1166) ::
(nat_lit 708,hF 68 "_law_told_by" @ac (.ref 707)) ::
(nat_lit 712,hD "law" 1168 520 1 709 hN hN (hR 711) 1172) ::
(nat_lit 713,hF 69 "law" @ac (.ref 712))::[]
noncomputable def hA:List Addr:=[2,3,15,22,23,24,25,28,35,36,37,40,47,48,49,52,59,60,61,64,71,72,73,76,83,84,85,88,95,96,97,105,106,112,113,117,118,122,123,129,130,134,135,141,142,148,149,155,156,162,163,169,170,176,177,183,184,188,189,195,196,202,203,209,210,216,217,221,222,226,227,233,234,238,239,245,246,254,255,256,257,258,261,273,274,280,281,287,288,294,295,301,302,308,309,310,311,312,315,327,328,334,335,341,342,348,349,355,356,357,358,359,362,374,375,381,382,388,389,395,396,402,403,409,410,411,412,413,416,428,429,435,436,442,443,449,450,456,457,463,464,465,466,467,470,482,483,489,490,496,497,503,504,510,511,517,518,519,520,521,529,530,536,537,543,544,550,551,557,558,564,565,569,570,576,577,583,584,590,591,597,598,604,605,611,612,618,619,625,626,632,633,639,640,646,647,653,654,660,661,665,666,672,673,679,680,686,687,693,694,700,701,707,708,712,713]
noncomputable abbrev hG(st:Stmt)(n q:Str)(g b:Addr):Obj:=⟨.none,none,.func ⟨n,q,fm st,.stmts (c7 st),bK st,g,[],.none,.none,.none,.none,none,.none,.none,b⟩,#[]⟩
noncomputable def cE:Env:={scope:=PySem.Challenge.rw_knotwise_k25_moves_refused.row.prog.main.scope,locals:=mainNs,globals:=mainNs,cells:=[],code:=(.ref 13),frame:=some 14}
noncomputable def cB:List Stmt:=behindTheImports PySem.Challenge.rw_knotwise_k25_moves_refused.row.prog
def cC:Code:=.body cB cE
noncomputable def cQ:Pos:=⟨0,0,0,0⟩
noncomputable def cr0(P:kg)(t:List Obj):List Obj:=boot_o_4 P ::
boot_o_5 P ::
boot_o_6 P ::
boot_o_7 P ::
boot_o_8 P ::
boot_o_9 P ::
boot_o_10 P ::
o0::t
noncomputable def cr1 (P:kg) (t:List Obj):List Obj:=hC "<module>" 182 [hI 1,hI 0,hI 0,hI 0,hI 0,hR 11,(.bool .false),hI 181,hR 12,hN,hN,hN,hN,hI 185,hI 1,hS 186] ::
⟨(.type "frame"),none,.plain,#[(some (.ref 13)),(some (.ref 3)),(some (.ref 3)),none,(some (.str "__main__" 164)),none,(some (.ref 0))]⟩::t
noncomputable def cL0(P:kg):List Obj:=boot_o_0 P ::
boot_o_1 P ::
boot_o_2 P ::
boot_o_3 P ::
cr0 P (⟨.none,none,(.fields #[]),#[]⟩ ::
cr1 P ([]))
noncomputable def cS0(w:World)(os:mL):rG:=⟨K2.bt (cL0 w.params),15,{},mF [],kQ,187,os⟩
noncomputable def cL1(P:kg):List Obj:=boot_o_0 P ::
boot_o_1 P ::
boot_o_2 P ::
boot_o_3 P ::
cr0 P (⟨.none,none,(.fields #[]),#[]⟩ ::
cr1 P ([]))
noncomputable def cS1(w:World)(os:mL):rG:=⟨K2.bt (cL1 w.params),15,{},mF [],kQ,187,os⟩
noncomputable def cL2(P:kg):List Obj:=boot_o_0 P ::
boot_o_1 P ::
boot_o_2 P ::
⟨(.type "dict"),none,(.dict #[hE P "__name__" 165 @F,hE P "__doc__" 166 .none,hE P "__package__" 167 .none,hE P "__loader__" 168 (.builtin "__main__.__loader__#opaque"),hE P "__spec__" 169 .none,hE P "__annotations__" 170 (.ref 6),hE P "__builtins__" 171 (.ref 4),hE P "__file__" 173 (.str "/claim/cut.py" 172),hE P "__cached__" 174 .none,hE P "KnotError" 206 (.ref 24),hE P "NoName" 222 (.ref 37),hE P "NameTaken" 238 (.ref 49),hE P "NoSpot" 254 (.ref 61),hE P "TooMany" 270 (.ref 73),hE P "NoFit" 286 (.ref 85),hE P "NoMove" 302 (.ref 97),hE P "MOST_CROSSINGS" 306 (.int 12 305),hE P "passings_of" 315 (.ref 106),hE P "seated" 323 (.ref 113),hE P "seated_rows" 329 (.ref 118),hE P "names_of" 335 (.ref 123),hE P "hand_of" 344 (.ref 130),hE P "spots_on" 350 (.ref 135),hE P "next_of" 361 (.ref 142),hE P "string_of" 371 (.ref 149),hE P "neighbours" 382 (.ref 156),hE P "uncurl_fits" 390 (.ref 163),hE P "part_fits" 400 (.ref 170),hE P "in_turn" 409 (.ref 177),hE P "slide_pairs" 423 (.ref 184),hE P "slide_fits" 429 (.ref 189),hE P "refuse_unknown" 441 (.ref 196),hE P "refuse_unfit" 448 (.ref 203),hE P "refuse_new" 458 (.ref 210),hE P "with_put" 470 (.ref 217),hE P "taken_out" 476 (.ref 222),hE P "spot_ahead" 482 (.ref 227),hE P "first_in_turn" 492 (.ref 234),hE P "with_changed" 498 (.ref 239),hE P "renamed_spot" 506 (.ref 246),hE P "Move" 526 (.ref 256),hE P "Uncurl" 594 (.ref 312)] 42),#[]⟩ ::
cr0 P (⟨.none,none,(.fields #[(.int 2 0),@u,(.ref 20),(.int 4 0),@u,(.ref 33),(.int 6 0),@u,(.ref 45),(.int 8 0),@u,(.ref 57),(.int 10 0),@u,(.ref 69),(.int 12 0),@u,(.ref 81),(.int 14 0),@u,(.ref 93),(.int 18 0),@u,(.ref 105),(.int 23 0),@u,(.ref 112),(.int 28 0),@u,(.ref 117),(.int 30 0),@u,(.ref 122),(.int 32 0),@u,(.ref 129),(.int 37 0),@u,(.ref 134),(.int 41 0),@u,(.ref 141),(.int 47 0),@u,(.ref 148),(.int 53 0),@u,(.ref 155),(.int 55 0),@u,(.ref 162),(.int 57 0),@u,(.ref 169),(.int 62 0),@u,(.ref 176),(.int 66 0),@u,(.ref 183),(.int 71 0),@u,(.ref 188),(.int 77 0),@u,(.ref 195),(.int 82 0),@u,(.ref 202),(.int 85 0),@u,(.ref 209),(.int 93 0),@u,(.ref 216),(.int 99 0),@u,(.ref 221),(.int 104 0),@u,(.ref 226),(.int 112 0),@u,(.ref 233),(.int 116 0),@u,(.ref 238),(.int 126 0),@u,(.ref 245),(.int 130 0),@u,(.ref 252),(.int 132 0),@u,(.ref 266)]),#[]⟩ ::
cr1 P (⟨(@U),none,(.seq #[(.type "ValueError")] 0),#[]⟩ ::
Sq ::
⟨(.type "dict"),none,(.dict #[hE P "__module__" 196 @ah,hE P "__qualname__" 198 (.str "KnotError" 197),hE P "__firstlineno__" 200 (.int 2 199),hE P "__static_attributes__" 201 (.ref 22)] 4),#[]⟩ ::
o0 ::
qZ ::
hC "KnotError" 191 [hI 2,hI 0,hI 0,hI 0,hI 0,hR 18,(.bool .false),hI 181,hR 19,hN,hN,hN,hN,hI 194,hI 2,hS 195] ::
⟨(.type "frame"),none,.plain,#[(some (.ref 20)),(some (.ref 3)),(some (.ref 17)),none,(some @ah),none,(some (.ref 0))]⟩ ::
o0 ::
o1 P ::
o2 ::
o3 ::
⟨(.type "super"),none,(.fields #[(.ref 24),(.ref 24),(.ref 24)]),#[]⟩ ::
⟨(.type "builtin_function_or_method"),none,(.fields #[(.builtin "object.__init_subclass__"),(.ref 24)]),#[]⟩ ::
o4 ::
Sq ::
⟨(.type "dict"),none,(.dict #[hE P "__module__" 214 @ah,hE P "__qualname__" 216 (.str "NoName" 215),hE P "__firstlineno__" 218 (.int 4 217),hE P "__static_attributes__" 219 (.ref 35)] 4),#[]⟩ ::
o0 ::
qZ ::
hC "NoName" 209 [hI 4,hI 0,hI 0,hI 0,hI 0,hR 31,(.bool .false),hI 181,hR 32,hN,hN,hN,hN,hI 212,hI 4,hS 213] ::
⟨(.type "frame"),none,.plain,#[(some (.ref 33)),(some (.ref 3)),(some (.ref 30)),none,(some @ah),none,(some (.ref 0))]⟩ ::
o0 ::
o5 P ::
o6 ::
⟨(.type "super"),none,(.fields #[(.ref 37),(.ref 37),(.ref 37)]),#[]⟩ ::
⟨(.type "builtin_function_or_method"),none,(.fields #[(.builtin "object.__init_subclass__"),(.ref 37)]),#[]⟩ ::
o4 ::
Sq ::
⟨(.type "dict"),none,(.dict #[hE P "__module__" 230 @ah,hE P "__qualname__" 232 (.str "NameTaken" 231),hE P "__firstlineno__" 234 (.int 6 233),hE P "__static_attributes__" 235 (.ref 47)] 4),#[]⟩ ::
o0 ::
qZ ::
hC "NameTaken" 225 [hI 6,hI 0,hI 0,hI 0,hI 0,hR 43,(.bool .false),hI 181,hR 44,hN,hN,hN,hN,hI 228,hI 6,hS 229] ::
⟨(.type "frame"),none,.plain,#[(some (.ref 45)),(some (.ref 3)),(some (.ref 42)),none,(some @ah),none,(some (.ref 0))]⟩ ::
o0 ::
o7 P ::
o8 ::
⟨(.type "super"),none,(.fields #[(.ref 49),(.ref 49),(.ref 49)]),#[]⟩ ::
⟨(.type "builtin_function_or_method"),none,(.fields #[(.builtin "object.__init_subclass__"),(.ref 49)]),#[]⟩ ::
o4 ::
Sq ::
⟨(.type "dict"),none,(.dict #[hE P "__module__" 246 @ah,hE P "__qualname__" 248 (.str "NoSpot" 247),hE P "__firstlineno__" 250 (.int 8 249),hE P "__static_attributes__" 251 (.ref 59)] 4),#[]⟩ ::
o0 ::
qZ ::
hC "NoSpot" 241 [hI 8,hI 0,hI 0,hI 0,hI 0,hR 55,(.bool .false),hI 181,hR 56,hN,hN,hN,hN,hI 244,hI 8,hS 245] ::
⟨(.type "frame"),none,.plain,#[(some (.ref 57)),(some (.ref 3)),(some (.ref 54)),none,(some @ah),none,(some (.ref 0))]⟩ ::
o0 ::
o9 P ::
o10 ::
⟨(.type "super"),none,(.fields #[(.ref 61),(.ref 61),(.ref 61)]),#[]⟩ ::
⟨(.type "builtin_function_or_method"),none,(.fields #[(.builtin "object.__init_subclass__"),(.ref 61)]),#[]⟩ ::
o4 ::
Sq ::
⟨(.type "dict"),none,(.dict #[hE P "__module__" 262 @ah,hE P "__qualname__" 264 (.str "TooMany" 263),hE P "__firstlineno__" 266 (.int 10 265),hE P "__static_attributes__" 267 (.ref 71)] 4),#[]⟩ ::
o0 ::
qZ ::
hC "TooMany" 257 [hI 10,hI 0,hI 0,hI 0,hI 0,hR 67,(.bool .false),hI 181,hR 68,hN,hN,hN,hN,hI 260,hI 10,hS 261] ::
⟨(.type "frame"),none,.plain,#[(some (.ref 69)),(some (.ref 3)),(some (.ref 66)),none,(some @ah),none,(some (.ref 0))]⟩ ::
o0 ::
o11 P ::
o12 ::
⟨(.type "super"),none,(.fields #[(.ref 73),(.ref 73),(.ref 73)]),#[]⟩ ::
⟨(.type "builtin_function_or_method"),none,(.fields #[(.builtin "object.__init_subclass__"),(.ref 73)]),#[]⟩ ::
o4 ::
Sq ::
⟨(.type "dict"),none,(.dict #[hE P "__module__" 278 @ah,hE P "__qualname__" 280 (.str "NoFit" 279),hE P "__firstlineno__" 282 (.int 12 281),hE P "__static_attributes__" 283 (.ref 83)] 4),#[]⟩ ::
o0 ::
qZ ::
hC "NoFit" 273 [hI 12,hI 0,hI 0,hI 0,hI 0,hR 79,(.bool .false),hI 181,hR 80,hN,hN,hN,hN,hI 276,hI 12,hS 277] ::
⟨(.type "frame"),none,.plain,#[(some (.ref 81)),(some (.ref 3)),(some (.ref 78)),none,(some @ah),none,(some (.ref 0))]⟩ ::
o0 ::
o13 P ::
o14 ::
⟨(.type "super"),none,(.fields #[(.ref 85),(.ref 85),(.ref 85)]),#[]⟩ ::
⟨(.type "builtin_function_or_method"),none,(.fields #[(.builtin "object.__init_subclass__"),(.ref 85)]),#[]⟩ ::
o4 ::
Sq ::
⟨(.type "dict"),none,(.dict #[hE P "__module__" 294 @ah,hE P "__qualname__" 296 (.str "NoMove" 295),hE P "__firstlineno__" 298 (.int 14 297),hE P "__static_attributes__" 299 (.ref 95)] 4),#[]⟩ ::
o0 ::
qZ ::
hC "NoMove" 289 [hI 14,hI 0,hI 0,hI 0,hI 0,hR 91,(.bool .false),hI 181,hR 92,hN,hN,hN,hN,hI 292,hI 14,hS 293] ::
⟨(.type "frame"),none,.plain,#[(some (.ref 93)),(some (.ref 3)),(some (.ref 90)),none,(some @ah),none,(some (.ref 0))]⟩ ::
o0 ::
o15 P ::
o16 ::
⟨(.type "super"),none,(.fields #[(.ref 97),(.ref 97),(.ref 97)]),#[]⟩ ::
⟨(.type "builtin_function_or_method"),none,(.fields #[(.builtin "object.__init_subclass__"),(.ref 97)]),#[]⟩ ::
o0 ::
qZ ::
⟨(@U),none,(.seq #[(.str "rows" 310),(.str "passings" 311),(.str "row" 312)] 0),#[]⟩ ::
o0 ::
hG (top 10) "passings_of" "passings_of" 0 0 ::
hD "passings_of" 307 18 1 100 (hR 102) (hR 103) (hR 104) 314 ::
hF 10 "passings_of" (.str "knotwise.drawings" 303) (.ref 105) ::
o0 ::
qZ ::
⟨(@U),none,(.seq #[(.str "row" 319),(.str "start" 320)] 0),#[]⟩ ::
o0 ::
hG (top 11) "seated" "seated" 0 0 ::
hD "seated" 316 23 1 107 (hR 109) (hR 110) (hR 111) 322 ::
hF 11 "seated" (.str "knotwise.drawings" 303) (.ref 112) ::
o0 ::
qZ ::
hG (top 12) "seated_rows" "seated_rows" 0 0 ::
hD "seated_rows" 324 28 1 114 hN hN (hR 116) 328 ::
hF 12 "seated_rows" (.str "knotwise.drawings" 303) (.ref 117) ::
o0 ::
qZ ::
hG (top 13) "names_of" "names_of" 0 0 ::
hD "names_of" 330 30 1 119 hN hN (hR 121) 334 ::
hF 13 "names_of" (.str "knotwise.drawings" 303) (.ref 122) ::
o0 ::
qZ ::
⟨(@U),none,(.seq #[(.str "drawing" 339),(.str "name" 340),(.str "passing" 341)] 0),#[]⟩ ::
o0 ::
hG (top 14) "hand_of" "hand_of" 0 0 ::
hD "hand_of" 336 32 2 124 (hR 126) (hR 127) (hR 128) 343 ::
hF 14 "hand_of" (.str "knotwise.drawings" 303) (.ref 129) ::
o0 ::
qZ ::
hG (top 15) "spots_on" "spots_on" 0 0 ::
hD "spots_on" 345 37 2 131 hN hN (hR 133) 349 ::
hF 15 "spots_on" (.str "knotwise.drawings" 303) (.ref 134) ::
o0 ::
qZ ::
⟨(@U),none,(.seq #[(.str "drawing" 354),(.str "behind" 355),(.str "row" 356),(.str "passing" 357),(.str "follower" 358)] 0),#[]⟩ ::
o0 ::
hG (top 16) "next_of" "next_of" 0 0 ::
hD "next_of" 351 41 1 136 (hR 138) (hR 139) (hR 140) 360 ::
hF 16 "next_of" (.str "knotwise.drawings" 303) (.ref 141) ::
o0 ::
qZ ::
⟨(@U),none,(.seq #[(.str "drawing" 365),(.str "spot" 366),(.str "string" 367),(.str "row" 368)] 0),#[]⟩ ::
o0 ::
hG (top 17) "string_of" "string_of" 0 0 ::
hD "string_of" 362 47 2 143 (hR 145) (hR 146) (hR 147) 370 ::
hF 17 "string_of" (.str "knotwise.drawings" 303) (.ref 148) ::
o0 ::
qZ ::
⟨(@U),none,(.seq #[(.str "behind" 377),(.str "one" 378),(.str "other" 379)] 0),#[]⟩ ::
o0 ::
hG (top 19) "neighbours" "neighbours" 0 0 ::
hD "neighbours" 374 53 3 150 (hR 152) (hR 153) (hR 154) 381 ::
hF 19 "neighbours" (.str "knotwise.fits" 372) (.ref 155) ::
o0 ::
qZ ::
⟨(@U),none,(.seq #[(.str "drawing" 386),(.str "name" 387)] 0),#[]⟩ ::
o0 ::
hG (top 20) "uncurl_fits" "uncurl_fits" 0 0 ::
hD "uncurl_fits" 383 55 2 157 (hR 159) (hR 160) (hR 161) 389 ::
hF 20 "uncurl_fits" (.str "knotwise.fits" 372) (.ref 162) ::
o0 ::
qZ ::
⟨(@U),none,(.seq #[(.str "drawing" 394),(.str "name" 395),(.str "second" 396),(.str "behind" 397)] 0),#[]⟩ ::
o0 ::
hG (top 21) "part_fits" "part_fits" 0 0 ::
hD "part_fits" 391 57 3 164 (hR 166) (hR 167) (hR 168) 399 ::
hF 21 "part_fits" (.str "knotwise.fits" 372) (.ref 169) ::
o0 ::
qZ ::
⟨(@U),none,(.seq #[(.str "one" 404),(.str "other" 405),(.str "turn" 406)] 0),#[]⟩ ::
o0 ::
hG (top 22) "in_turn" "in_turn" 0 0 ::
hD "in_turn" 401 62 3 171 (hR 173) (hR 174) (hR 175) 408 ::
hF 22 "in_turn" (.str "knotwise.fits" 372) (.ref 176) ::
o0 ::
qZ ::
⟨(@U),none,(.seq #[(.str "drawing" 413),(.str "name" 414),(.str "second" 415),(.str "third" 416),(.str "turn" 417),(.str "first_hand" 418),(.str "second_hand" 419),(.str "third_hand" 420)] 0),#[]⟩ ::
o0 ::
hG (top 23) "slide_pairs" "slide_pairs" 0 0 ::
hD "slide_pairs" 410 66 5 178 (hR 180) (hR 181) (hR 182) 422 ::
hF 23 "slide_pairs" (.str "knotwise.fits" 372) (.ref 183) ::
o0 ::
qZ ::
hG (top 24) "slide_fits" "slide_fits" 0 0 ::
hD "slide_fits" 424 71 5 185 hN hN (hR 187) 428 ::
hF 24 "slide_fits" (.str "knotwise.fits" 372) (.ref 188) ::
o0 ::
qZ ::
⟨(@U),none,(.seq #[(.str "drawing" 435),(.str "names" 436),(.str "known" 437),(.str "name" 438)] 0),#[]⟩ ::
o0 ::
hG (top 26) "refuse_unknown" "refuse_unknown" 0 0 ::
hD "refuse_unknown" 432 77 2 190 (hR 192) (hR 193) (hR 194) 440 ::
hF 26 "refuse_unknown" @F (.ref 195) ::
o0 ::
qZ ::
⟨(@U),none,(.seq #[(.str "fits" 445)] 0),#[]⟩ ::
o0 ::
hG (top 27) "refuse_unfit" "refuse_unfit" 0 0 ::
hD "refuse_unfit" 442 82 1 197 (hR 199) (hR 200) (hR 201) 447 ::
hF 27 "refuse_unfit" @F (.ref 202) ::
o0 ::
qZ ::
⟨(@U),none,(.seq #[(.str "drawing" 452),(.str "names" 453),(.str "taken" 454),(.str "name" 455)] 0),#[]⟩ ::
o0 ::
hG (top 28) "refuse_new" "refuse_new" 0 0 ::
hD "refuse_new" 449 85 2 204 (hR 206) (hR 207) (hR 208) 457 ::
hF 28 "refuse_new" @F (.ref 209) ::
o0 ::
qZ ::
⟨(@U),none,(.seq #[(.str "drawing" 462),(.str "spot" 463),(.str "passings" 464),(.str "string" 465),(.str "rows" 466),(.str "place" 467)] 0),#[]⟩ ::
o0 ::
hG (top 29) "with_put" "with_put" 0 0 ::
hD "with_put" 459 93 3 211 (hR 213) (hR 214) (hR 215) 469 ::
hF 29 "with_put" @F (.ref 216) ::
o0 ::
qZ ::
hG (top 30) "taken_out" "taken_out" 0 0 ::
hD "taken_out" 471 99 2 218 hN hN (hR 220) 475 ::
hF 30 "taken_out" @F (.ref 221) ::
o0 ::
qZ ::
hG (top 31) "spot_ahead" "spot_ahead" 0 0 ::
hD "spot_ahead" 477 104 3 223 hN hN (hR 225) 481 ::
hF 31 "spot_ahead" @F (.ref 226) ::
o0 ::
qZ ::
⟨(@U),none,(.seq #[(.str "drawing" 486),(.str "name" 487),(.str "second" 488),(.str "way" 489)] 0),#[]⟩ ::
o0 ::
hG (top 32) "first_in_turn" "first_in_turn" 0 0 ::
hD "first_in_turn" 483 112 4 228 (hR 230) (hR 231) (hR 232) 491 ::
hF 32 "first_in_turn" @F (.ref 233) ::
o0 ::
qZ ::
hG (top 33) "with_changed" "with_changed" 0 0 ::
hD "with_changed" 493 116 2 235 hN hN (hR 237) 497 ::
hF 33 "with_changed" @F (.ref 238) ::
o0 ::
qZ ::
⟨(@U),none,(.seq #[(.str "spot" 502),(.str "names" 503)] 0),#[]⟩ ::
o0 ::
hG (top 34) "renamed_spot" "renamed_spot" 0 0 ::
hD "renamed_spot" 499 126 2 240 (hR 242) (hR 243) (hR 244) 505 ::
hF 34 "renamed_spot" @F (.ref 245) ::
o0 ::
Sq ::
⟨(.type "dict"),none,(.dict #[hE P "__module__" 514 @F,hE P "__qualname__" 516 (.str "Move" 515),hE P "__firstlineno__" 518 (.int 130 517),hE P "__static_attributes__" 519 (.ref 254)] 4),#[]⟩ ::
o0 ::
qZ ::
hC "Move" 509 [hI 130,hI 0,hI 0,hI 0,hI 0,hR 250,(.bool .false),hI 181,hR 251,hN,hN,hN,hN,hI 512,hI 130,hS 513] ::
⟨(.type "frame"),none,.plain,#[(some (.ref 252)),(some (.ref 3)),(some (.ref 249)),none,(some @F),none,(some (.ref 0))]⟩ ::
o0 ::
o17 P ::
⟨(.type "type"),none,(.cls ⟨"Move",[(.type "object")],[(.ref 256),(.type "object")],255,"Move",.true,[],[(.ref 312)],.false,none,.false⟩),#[none,none,(some (.str "Move" 507)),(some (.str "Move" 515)),(some (.builtin "object.__new__")),(some @Q)]⟩ ::
o18 ::
o19 ::
⟨(.type "super"),none,(.fields #[(.ref 256),(.ref 256),(.ref 256)]),#[]⟩ ::
⟨(.type "builtin_function_or_method"),none,(.fields #[(.builtin "object.__init_subclass__"),(.ref 256)]),#[]⟩ ::
Xf ::
Sq ::
⟨(.type "dict"),none,(.dict #[hE P "__module__" 534 @F,hE P "__qualname__" 536 (.str "Uncurl" 535),hE P "__firstlineno__" 538 (.int 132 537),hE P "__init__" 546 (.ref 274),hE P "told" 553 (.ref 281),hE P "refuse" 561 (.ref 288),hE P "done" 569 (.ref 295),hE P "back" 581 (.ref 302),hE P "renamed" 589 (.ref 309),hE P "__static_attributes__" 591 (.ref 310)] 10),#[]⟩ ::
o0 ::
⟨.none,none,(.fields #[(.int 134 0),(.int 4 0),(.ref 273),(.int 137 0),(.int 4 0),(.ref 280),(.int 140 0),(.int 4 0),(.ref 287),(.int 144 0),(.int 4 0),(.ref 294),(.int 148 0),(.int 4 0),(.ref 301),(.int 156 0),(.int 4 0),(.ref 308)]),#[]⟩ ::
hC "Uncurl" 529 [hI 132,hI 0,hI 0,hI 0,hI 0,hR 264,(.bool .false),hI 181,hR 265,hN,hN,hN,hN,hI 532,hI 132,hS 533] ::
⟨(.type "frame"),none,.plain,#[(some (.ref 266)),(some (.ref 3)),(some (.ref 263)),none,(some @F),none,(some (.ref 0))]⟩ ::
o0 ::
qZ ::
⟨(@U),none,(.seq #[(.str "self" 542),(.str "name" 543)] 0),#[]⟩ ::
o0 ::
hG (x8 36 0) "__init__" "Uncurl.__init__" 0 0 ::
o21 ::
hM 36 0 "__init__" "Uncurl.__init__" @F (.ref 273) ::
o0 ::
qZ ::
⟨(@U),none,(.seq #[(.str "self" 550)] 0),#[]⟩ ::
o0 ::
hG (x8 36 1) "told" "Uncurl.told" 0 0 ::
o22 ::
hM 36 1 "told" "Uncurl.told" @F (.ref 280) ::
o0 ::
qZ ::
⟨(@U),none,(.seq #[(.str "self" 557),(.str "drawing" 558)] 0),#[]⟩ ::
o0 ::
hG (x8 36 2) "refuse" "Uncurl.refuse" 0 0 ::
o23 ::
hM 36 2 "refuse" "Uncurl.refuse" @F (.ref 287) ::
o0 ::
qZ ::
⟨(@U),none,(.seq #[(.str "self" 565),(.str "drawing" 566)] 0),#[]⟩ ::
o0 ::
hG (x8 36 3) "done" "Uncurl.done" 0 0 ::
o24 ::
hM 36 3 "done" "Uncurl.done" @F (.ref 294) ::
o0 ::
qZ ::
⟨(@U),none,(.seq #[(.str "self" 573),(.str "drawing" 574),(.str "over" 575),(.str "under" 576),(.str "first" 577),(.str "spot" 578)] 0),#[]⟩ ::
o0 ::
hG (x8 36 4) "back" "Uncurl.back" 0 0 ::
o25 ::
hM 36 4 "back" "Uncurl.back" @F (.ref 301) ::
o0 ::
qZ ::
⟨(@U),none,(.seq #[(.str "self" 585),(.str "names" 586)] 0),#[]⟩ ::
o0 ::
hG (x8 36 5) "renamed" "Uncurl.renamed" 0 0 ::
o26 ::
hM 36 5 "renamed" "Uncurl.renamed" @F (.ref 308) ::
o27 ::
o28 P ::
o29 ::
⟨(.type "super"),none,(.fields #[(.ref 312),(.ref 312),(.ref 312)]),#[]⟩ ::
⟨(.type "builtin_function_or_method"),none,(.fields #[(.builtin "object.__init_subclass__"),(.ref 312)]),#[]⟩ ::
[]))
noncomputable def cS2(w:World)(os:mL):rG:=⟨K2.bt (cL2 w.params),315,{},mF [],kQ,595,os⟩
noncomputable def hL:@n:=[]
noncomputable abbrev T6(w)(os):=K2.v3 kc PySem.Challenge.rw_knotwise_k25_moves_refused.row.prog w 11 (some (.ref 6)) 2534 (cS2 w os) (restOf (cB.drop 37) cE cC ⟨132,0,157,54⟩ [uk cQ])
theorem abS(w)(os):(T6 w os).map (λs=>(K2.Kv PySem.Challenge.rw_knotwise_k25_moves_refused.row.prog hQ hL (K2.NM PySem.Challenge.rw_knotwise_k25_moves_refused hQ) (λs=>hA.map s.heap.get?) w.params s.abs).2.1)=some (Ni hQ hL):=by kernel_rfl
theorem abT(w)(os):(T6 w os).map (λs=>((K2.Kv PySem.Challenge.rw_knotwise_k25_moves_refused.row.prog hQ hL (K2.NM PySem.Challenge.rw_knotwise_k25_moves_refused hQ) (λs=>hA.map s.heap.get?) w.params s.abs).1,(K2.Kv PySem.Challenge.rw_knotwise_k25_moves_refused.row.prog hQ hL (K2.NM PySem.Challenge.rw_knotwise_k25_moves_refused hQ) (λs=>hA.map s.heap.get?) w.params s.abs).2.2))=some (true,(hK w.params).map λp=>some p.2):=by kernel_rfl
theorem h_z (P):((gh P).isNs bj,(gh P).objs.size,(gh P).nsMap bj "__annotations__")=(true,11,(some (.ref 6))):=by kernel_rfl
theorem Y3(w)(os):K2.Y9 kc PySem.Challenge.rw_knotwise_k25_moves_refused.row.prog w 11 (some (.ref 6)) 12 (K2.Qp w.params os) (topStub PySem.Challenge.rw_knotwise_k25_moves_refused.row.prog)=some (cS0 w os,⟨denote kc cC,cC,⟨0,0,0,0⟩,[uk cQ]⟩):=by kernel_rfl
theorem Y4(w)(os):segRunT kc PySem.Challenge.rw_knotwise_k25_moves_refused.row.prog w 11 (some (.ref 6)) 1 1 (cS0 w os) (blockOf cB cE cC ⟨0,0,0,0⟩ [uk cQ])=some (.next,cS1 w os,cC,⟨0,0,0,0⟩):=by kernel_rfl
theorem abR(w)(os):segRunT kc PySem.Challenge.rw_knotwise_k25_moves_refused.row.prog w 11 (some (.ref 6)) 1 2796 (cS1 w os) (piecesOf (cB.take 37) cE cC ⟨0,0,0,0⟩ [uk cQ])=some (.next,cS2 w os,cC,⟨132,0,157,54⟩):=by kernel_rfl
theorem Wi(w)(os):(topFrom kc (PySem.Challenge.rw_knotwise_k25_moves_refused).row.prog w (12+(1+(2796+2534))) ⟨gh w.params,mF [],kQ,vQ,os⟩).map (λs=>(openSeen hQ hL (mK (PySem.Challenge.rw_knotwise_k25_moves_refused).row.prog.main.body) (K2.NM PySem.Challenge.rw_knotwise_k25_moves_refused hQ) true s,hA.map s.heap.get?))=some (Ni hQ hL,(hK w.params).map λp=>some p.2) :=
 K2.Rf (Yf:=λs=>hA.map s.heap.get?) (Ya:=λw=>(hK w.params).map λp=>some p.2) (h_z w.params) (K2.O8 (abT w os) (abS w os)) λ_ k=>K2.MY (Y3 w os) (Y4 w os) <| K2.Qd 37 (abR w os) <| k
theorem Wh:(PySem.Challenge.rw_knotwise_k25_moves_refused).wellSaid=true:=by kernel_rfl
theorem Wg:K2.J8 PySem.Challenge.rw_knotwise_k25_moves_refused hQ=true:=by kernel_rfl
end
end Fin
namespace L2
open PySem PySem.Spec PyProof.Rows
abbrev Key:=Sum Int Str
noncomputable def DB:Key->Value->Bool
 |.inl k,v=>Value.isInt k v
 |.inr x,v=>Value.isStrOf x v
noncomputable def aa2(w:World):Key->Int
 |.inl k=>hashInt k
 |.inr x=>hashStr w x
theorem gu:∀{k:Key} {v:Value},DB k v=true->(∃i t,k=Io i/\v=FT i t)\/(∃x t,k=Im x/\v=NB x t)
 |.inl i,v,h=>by
  obtain⟨t,e⟩:=Value.isInt_shape (k:=i) (v:=v) h;exact .inl ⟨i,t,rfl,e⟩
 |.inr x,v,h=>by
  obtain⟨t,e⟩:=Value.isStrOf_shape (x:=x) (v:=v) h;exact .inr ⟨x,t,rfl,e⟩
theorem MF(i)(t):DB (.inl i) (.int i t)=true:=by simp[DB,Value.isInt]
theorem ME(x)(t):DB (.inr x) (.str x t)=true:=by simp[DB,Value.isStrOf]
theorem Pd(a b):decide ((Io a:Key)=Io b)=(a == b):=by
 by_cases e:a=b
 .subst e;simp
 .have h:¬ (Io a:Key)=Io b:=λq=>e (Sum.inl.inj q);rw[decide_eq_false h];exact(beq_eq_false_iff_ne.mpr e).symm
theorem Pc(a b):decide ((Im a:Key)=Im b)=decide (a=b):=by
 by_cases e:a=b
 .subst e;simp
 .have h:¬ (Im a:Key)=Im b:=λq=>e (Sum.inr.inj q);rw[decide_eq_false h,decide_eq_false e]
theorem VU(a)(b):decide ((Io a:Key)=Im b)=false:=decide_eq_false (λq=>nomatch q)
theorem VT(a)(b):decide ((Im a:Key)=Io b)=false:=decide_eq_false (λq=>nomatch q)
def fU(prog)(w):PySem.KeyKind prog w Key where
 is:=DB
 hash:=aa2 w
 inj:=λv a b ha hb=>by
  rcases gu ha with ⟨i,t,rfl,rfl⟩ |⟨x,t,rfl,rfl⟩
  .rcases gu hb with ⟨j,u,rfl,e⟩ |⟨y,u,rfl,e⟩
   .injection e with e1 _;rw[e1]
   .exact nomatch e
  .rcases gu hb with ⟨j,u,rfl,e⟩ |⟨y,u,rfl,e⟩
   .exact nomatch e
   .injection e with e1 _;rw[e1]
 byValue:=λk v h=>by
  rcases gu h with ⟨i,t,rfl,rfl⟩ |⟨x,t,rfl,rfl⟩<;>rfl
 pyHash:=λhv h=>by
  rcases gu hv with ⟨i,t,rfl,rfl⟩ |⟨x,t,rfl,rfl⟩
  .exact wpAny_pyHash_int h
  .exact wpAny_pyHash_str h
 eqBool:=λhu hv h=>by
  rcases gu hu with ⟨i,t,rfl,rfl⟩ |⟨x,t,rfl,rfl⟩
  .rcases gu hv with ⟨j,u,rfl,rfl⟩ |⟨y,u,rfl,rfl⟩
   .rw[Pd] at h;exact wpAny_eqBool_int h
   .rw[VU] at h;exact SeqAt.EqAt.int_str i t y u _ _ _ _ h
  .rcases gu hv with ⟨j,u,rfl,rfl⟩ |⟨y,u,rfl,rfl⟩
   .rw[VT] at h;exact SeqAt.EqAt.str_int x t j u _ _ _ _ h
   .rw[Pc] at h;exact wpAny_eqBool_str h
 «strs»:=λk x t v h=>by
  rcases gu h with ⟨i,u,rfl,e⟩ |⟨y,u,rfl,e⟩
  .exact nomatch e
  .injection e with e1 _
   subst e1;cases v<;>rfl
theorem Gz(prog)(w)(i)(t):(fU prog w).is (.inl i) (.int i t)=true:=MF i t
theorem Gy(prog)(w)(x)(t):(fU prog w).is (.inr x) (.str x t)=true:=ME x t
inductive V where
 |ff |bl (b:Bool) |int (i:Int) |str (x:Str) |Ud (b:Array UInt8) |i6 (b:UInt64) |ref (a:Addr) |ty (n:String)
def RelV:V->Value->Prop
 |.ff,u=>u=JT
 |.bl b,u=>u=xT b
 |.int i,u=>∃t,u=FT i t
 |.str x,u=>∃t,u=NB x t
 |.Ud b,u=>∃t,u=Value.bytes b t
 |.i6 b,u=>∃t,u=Value.float b t
 |.ref a,u=>u=fN a
 |.ty n,u=>u=Value.type n
abbrev Vals:List V->@D->Prop:=Paired RelV
theorem Vals.length(r:Vals xs us):xs.length=us.length:=z9 r
theorem Vals.get:∀{xs:List V} {us:@D} {i:Nat} {x:V},Vals xs us->xs[i]?=some x->∃u,us[i]?=some u/\RelV x u:=by
 intro xs us i x h;induction h generalizing i with
 |nil=>intro e;cases e
 |cons r t ih=>
  intro e;cases i with
  |zero=>cases e;exact⟨_,rfl,r⟩
  |succ i=>exact ih e
theorem Vals.set(r:RelV x u):∀{xs:List V} {us:@D} (i:Nat),Vals xs us->Vals (xs.set i x) (us.set i u):=by
 intro xs us i h;induction h generalizing i with
 |nil=>rw[Eb,Eb];exact .nil
 |cons q t ih=>
  cases i with
  |zero=>exact .cons r t
  |succ i=>exact .cons q (ih i)
theorem Vals.append:∀{xs ys:List V} {us ws:@D},Vals xs us->Vals ys ws->Vals (xs++ys) (us++ws):=by
 intro xs ys us ws h s;induction h with
 |nil=>exact s
 |cons r t ih=>exact .cons r ih
theorem Vals.take:∀{xs:List V} {us:@D} (n:Nat),Vals xs us->Vals (xs.take n) (us.take n):=by
 intro xs us n h;induction h generalizing n with
 |nil=>rw[Ck,Ck];exact .nil
 |cons r t ih=>
  cases n with
  |zero=>exact .nil
  |succ n=>exact .cons r (ih n)
theorem Vals.drop:∀{xs:List V} {us:@D} (n:Nat),Vals xs us->Vals (xs.drop n) (us.drop n):=by
 intro xs us n h;induction h generalizing n with
 |nil=>rw[Cm,Cm];exact .nil
 |cons r t ih=>
  cases n with
  |zero=>exact .cons r t
  |succ n=>exact ih n
def rf:Option V->Option Value->Prop
 |some v,some u=>RelV v u
 |none,none=>True
 |_,_=>False
def KV:List (κ×V)->List (κ×Value)->Prop:=Paired λ(p:κ×V) (q:κ×Value)=>p.1=q.1/\RelV p.2 q.2
noncomputable def kV:Key->V
 |.inl i=>.int i
 |.inr x=>.str x
inductive HO where
 |lst (xs:List V)
 |tup (xs:List V)
 |dK (bx:List (Key×V)) |dT (bx:List (List Key×V))
 |set (S:Int->Bool) (n:Nat)
 |ins (C dx:Addr) (fs:List (Str×V))
 |own (x:Addr)
 |xd (fs:List (Str×V))
 |met (f x:Addr)
 |X1 (lo hi:Int)
 |kU (o:Obj) (u:HO)
 |Rg (q:Str)
 |ext (φ:Heap->Prop)
abbrev Hp:=Addr->Option HO
noncomputable def upd(H:Hp)(a:Addr)(o:HO):Hp:=λb=>if b=a then @j else H b
theorem cR:upd H a o a=@j:=by unfold upd;rw[if_pos rfl]
theorem bP(h:b≠a):upd H a o b=H b:=by unfold upd;rw[if_neg h]
theorem Yo{H:Hp}{a b:Addr}{o u:HO}(h:H a=@j)(h':H b=some u)(d:o≠u):a≠b:=by
 intro e;subst e;rw[h] at h';exact d (bV h')
theorem eE{H:Hp}{a b:Addr}{o:HO}(h:H a=@j)(h':H b=none):a≠b:=by
 intro e;subst e;rw[h] at h';cases h'
section
variable (P:bY) (w:World)
def fJ(H:Hp)(h:Heap)(a:Addr):HO->Prop
 |.lst xs=>xs.length<=bB/\∃(b9:@D) (n:Nat),Vals xs b9/\h.get? a=some {cls:=.type "list",data:=.seq b9.toArray n}
 |.tup xs=>xs.length<=bB/\∃b9:@D,Vals xs b9/\IsTup h a b9.toArray
 |.dK bx=>bx.length<=bB/\(a == jA)=false/\∃vs,KV bx vs/\h.DictOf (fU P w) a vs
 | .dT bx=>bx.length<=bB/\(a == jA)=false/\∃xs:List (List Key×Addr×Value),
   Paired (λ(p:List Key×V) (q:List Key×Addr×Value)=>p.1=q.1/\H q.2.1=some (.tup (p.1.map kV))/\RelV p.2 q.2.2) bx xs /\
   ∃o es ep,h.get? a=@j/\o.ExactDict/\o.data=.dict es ep/\es.toList=xs.map (entryOfKey (FP (fU P w)))/\(xs.map (·.1)).Nodup
 |.set S n=>h.SetOf (intKind P w) a S n
 | .ins C dx fs=>H dx=some (.own a)/\fs.length<=1000/\dx≠a/\h.get? a=some (hZ C dx) /\
   ∃mA,h.Ns1 dx mA/\(∀f,rf (fs.lookup f) (mA f))/\NC mA (fs.map (·.1))
 |.own _=>∃o,h.get? a=@j
 |.xd fs=>∃mA,h.Ns1 a mA/\∀f,rf (fs.lookup f) (mA f)
 |.X1 lo hi=>∃t u v,h.get? a=some {cls:=.type "range",data:=.fields #[.int lo t,.int hi u,.int 1 v]}
 |.kU o u=>h.get? a=@j/\fJ H h a u
 |.Rg q=>∃ps,h.get? a=some {cls:=.none,data:=.fields ps}/\TriplesOk ps.toList/\∀pos cv,codeAmong pos ps.toList=some cv->∃c',cv=.ref c'/\H c'=some (.own a)/\h.CodeRec (.ref c') q
 |.met f x=>h.get? a=some (AM (.ref f) (.ref x))
 |.ext φ=>φ h/\(∃o,h.get? a=@j)/\∀h1 h2:Heap,φ h1->(∀o,h1.get? a=@j->h2.get? a=@j)->φ h2
def oQ(H:Hp)(h:Heap):Prop:=∀a o,H a=@j->fJ P w H h a o
end
section
variable {P:bY} {w:World} {H H':Hp} {h h':Heap} {a:Addr} {o:HO}
theorem fJ.lt(x:fJ P w H h a o):a<h.objs.size:=by
 cases o with
 |lst xs=>obtain⟨_,_,_,_,e⟩:=x;exact ba e
 |tup xs=>obtain⟨_,_,_,p⟩:=x;exact p.lt
 |dK bx=>obtain⟨_,_,_,_,o,_,_,e,_⟩:=x;exact ba e
 |dT bx=>obtain⟨_,_,_,_,o,_,_,e,_⟩:=x;exact ba e
 |set S n=>obtain⟨o,_,_,_,e,_⟩:=x;exact ba e
 |ins C dx fs=>obtain⟨_,_,_,e,_⟩:=x;exact ba e
 |own y=>obtain⟨_,e⟩:=x;exact ba e
 |xd fs=>obtain⟨_,⟨_,_,_,e,_⟩,_⟩:=x;exact ba e
 |X1 lo hi=>obtain⟨_,_,_,e⟩:=x;exact ba e
 |kU ob u=>obtain⟨e,_⟩:=x;exact ba e
 |Rg q=>obtain⟨_,e,_⟩:=x;exact ba e
 |met f y=>exact ba (show h.get? a=some _ from x)
 |ext φ=>obtain⟨_,⟨_,e⟩,_⟩:=x;exact ba e
theorem Paired.VL:∀{l₁:@H} {VM:List β},Paired F l₁ VM->(∀a b,F a b->G a b)->Paired G l₁ VM:=by
 intro l₁ VM h f;induction h with
 |nil=>exact .nil
 |cons r t ih=>exact .cons (f _ _ r) ih
theorem fJ.i9(x:fJ P w H h a o)(k:∀b u,(b=a\/H b=some (.own a))->h.get? b=some u->@X=some u)
  (ho:∀b,H b=some (.own a)->H' b=some (.own a)) (ht:∀b xs,H b=some (.tup xs)->H' b=some (.tup xs)):fJ P w H' h' a o:=by
 induction o with
 |lst xs=>obtain⟨z,b9,n,r,e⟩:=x;exact⟨z,b9,n,r,k _ _ (@E) e⟩
 |tup xs=>obtain⟨z,b9,r,ob,e,c⟩:=x;exact⟨z,b9,r,ob,k _ _ (@E) e,c⟩
 |dK bx=>obtain⟨z,y,vs,r,ob,es,ep,e,c⟩:=x;exact⟨z,y,vs,r,ob,es,ep,k _ _ (@E) e,c⟩
 |dT bx=>
  obtain⟨z,y,xs,r,ob,es,ep,e,c⟩:=x;exact⟨z,y,xs,Paired.VL r λp q z=>⟨z.1,ht _ _ z.2.1,z.2.2⟩,ob,es,ep,k _ _ (@E) e,c⟩
 |set S n=>obtain⟨ob,es,ep,t,e,c⟩:=x;exact⟨ob,es,ep,t,k _ _ (@E) e,c⟩
 |ins C dx fs=>
  obtain⟨d,z,ne,e,mA,⟨od,es,ep,e2,c⟩,r⟩:=x;exact⟨ho _ d,z,ne,k _ _ (@E) e,mA,⟨od,es,ep,k _ _ (.inr d) e2,c⟩,r⟩
 |own y=>obtain⟨ob,e⟩:=x;exact⟨ob,k _ _ (@E) e⟩
 |xd fs=>obtain⟨mA,⟨od,es,ep,e,c⟩,r⟩:=x;exact⟨mA,⟨od,es,ep,k _ _ (@E) e,c⟩,r⟩
 |X1 lo hi=>obtain⟨t,u,v,e⟩:=x;exact⟨t,u,v,k _ _ (@E) e⟩
 |kU ob u ih=>obtain⟨e,q⟩:=x;exact⟨k _ _ (@E) e,ih q⟩
 |Rg q=>
  obtain⟨ps,e,t,z⟩:=x;refine⟨ps,k _ _ (@E) e,t,λpos cv y=>?_⟩;obtain⟨c',e1,e2,c2,oc,vs,tq,e3,e4,r⟩:=z pos cv y;cases e3;exact⟨c',e1,ho _ e2,c',oc,vs,tq,rfl,k _ _ (.inr e2) e4,r⟩
 |met f y=>
  have e:h.get? a=some (AM (.ref f) (.ref y)):=x;show h'.get? a=some (AM (.ref f) (.ref y));exact k a _ (@E) e
 |ext φ=>obtain⟨p,⟨o,e⟩,st⟩:=x;exact⟨st _ _ p λo q=>k _ _ (@E) q,⟨o,k _ _ (@E) e⟩,st⟩
theorem oQ.lt(x:oQ P w H h)(e:H a=@j):a<h.objs.size:=(x a o e).lt
theorem oQ.fresh(x:oQ P w H h)(e:h.objs.size<=a):H a=none:=by
 cases q:H a with
 |none=>rfl
 |some u=>exact absurd (bQ (x.lt q) e) (jY _)
theorem oQ.kept(x:oQ P w H h)(k:∀b u,h.get? b=some u->@X=some u):oQ P w H h':=λa o e=>
 (x a o e).i9 (λb u _ q=>k b u q) (λ_ q=>q) λ_ _ q=>q
theorem oQ.laid(x:oQ P w H h)(k:∀b u,h.get? b=some u->@X=some u)(hp:h.objs.size<=a)(new:fJ P w (upd H a o) h' a o):oQ P w (upd H a o) h':=λb u e=>by
 have hn:=x.fresh hp;by_cases hb:b=a
 .subst hb;rw[cR] at e;cases e;exact new
 .rw[bP hb] at e;exact(x b u e).i9 (λc v _ q=>k c v q) (λc q=>by rw[bP (eE q hn)];exact q) λc xs q=>by rw[bP (eE q hn)];exact q
end
def Rd(H:Hp)(a:Addr)(u:HO):Prop:=H a=some u\/∃o,H a=some (.kU o u)
theorem Rd.ok(r:Rd H a u)(x:oQ P w H h):fJ P w H h a u:=by
 rcases r with r |⟨o,r⟩
 .exact x a u r
 .obtain⟨_,q⟩:=x a _ r;exact q
def Zq:Option HO->Prop
 |some (.lst _)=>True
 |some (.dK _)=>True
 |some (.dT _)=>True
 |some (.set _ _)=>True
 |some (.ins _ _ _)=>True
 |some (.ext _)=>True
 |_=>False
section
variable {P:bY} {w:World} {H:Hp} {h h':Heap} {x e:Addr} {o':HO}
theorem oQ.write(ok:oQ P w H h)(mu:Zq (H x))(he:e=x\/H e=some (.own x))(k:∀b u,b≠e->h.get? b=some u->@X=some u)(Xk:∃u,h'.get? e=some u)
  (new:fJ P w (upd H x o') h' x o'):oQ P w (upd H x o') h':=λb u q=>by
 have Yi:∀c y,H c=some (.own y)->c≠x:=λc y r z=>by subst z;rw[r] at mu;exact mu
 have aaL:∀c xs,H c=some (.tup xs)->c≠x:=λc xs r z=>by subst z;rw[r] at mu;exact mu
 by_cases hb:b=x
 .subst hb;rw[cR] at q;cases q;exact new
 .rw[bP hb] at q;by_cases Wf:b=e
  .have q':H b=some (.own x):=by
    rcases he with z |z
    .exact absurd (Wf.trans z) hb
    .rw[Wf];exact z
   rw[q] at q';cases q';obtain⟨v,hv⟩:=Xk;exact⟨v,by rw[Wf];exact hv⟩
  .refine(ok b u q).i9 (λc v hc r=>k c v ?_ r) (λc r=>by rw[bP (Yi c b r)];exact r) λc xs r=>by rw[bP (aaL c xs r)];exact r
   rcases hc with rfl |hc
   .exact Wf
   .rintro rfl;rcases he with z |z
    .exact Yi c b hc z
    .rw[hc] at z;cases z;exact hb rfl
end
structure Un(fs ex:List Addr)(H H':Hp)(h h':Heap):Prop where
 keep:∀b o,h.get? b=@j->H b=none->b∉fs->b∉ex->@X=@j
 slot:∀b o,h.get? b=@j->H b=none->b∈fs->b∉ex->∃sl,@X=some {o with slots:=sl}
 free:∀b o,h.get? b=@j->H b=none->b∉ex->H' b=none
 there:∀b o,h.get? b=@j->b∉ex->∃o',@X=some o'
 rM:∀b xs,H b=some (.tup xs)->H' b=some (.tup xs)
 q5:∀b o u,H b=some (.kU o u)->H' b=some (.kU o u)
 yk:∀b q,H b=some (.Rg q)->H' b=some (.Rg q)
 wO:∀b x,H b=some (.own x)->H' b=some (.own x)
section
variable {fs fs' ex ex':List Addr} {H H1 H2:Hp} {h h1 h2 h':Heap} {a x e:Addr} {o:HO}
theorem Un.any(u:Un fs ex H H1 h h1)(q:h.get? b=some ob)(n:H b=none)(hx:b∉ex):∃sl,h1.get? b=some {ob with slots:=sl}:=by
 by_cases hb:b∈fs
 .exact u.slot b ob q n hb hx
 .exact⟨ob.slots,u.keep b ob q n hb hx⟩
theorem Un.kept(k:∀b u,h.get? b=some u->@X=some u):Un fs ex H H h h' :=
 ⟨λb ob q _ _ _=>k b ob q,λb ob q _ _ _=>⟨ob.slots,k b ob q⟩,λ_ _ _ n _=>n,λb ob q _=>⟨ob,k b ob q⟩,λ_ _ q=>q,λ_ _ _ q=>q,λ_ _ q=>q,λ_ _ q=>q⟩
theorem Un.refl:Un fs ex H H h h:=Un.kept λ_ _ q=>q
theorem Un.laid(k:∀b u,h.get? b=some u->@X=some u)(hp:h.objs.size<=a)(hn:H a=none):Un fs ex H (upd H a o) h h' where
 keep:=λb u q _ _ _=>k b u q
 slot:=λb u q _ _ _=>⟨u.slots,k b u q⟩
 free:=λb u q n _=>by rw[bP (bO (bQ (ba q) hp))];exact n
 there:=λb u q _=>⟨u,k b u q⟩
 rM:=λb xs q=>by rw[bP (eE q hn)];exact q
 q5:=λb u xs q=>by rw[bP (eE q hn)];exact q
 yk:=λb ps q=>by rw[bP (eE q hn)];exact q
 wO:=λb ps q=>by rw[bP (eE q hn)];exact q
theorem Un.write(mu:Zq (H x))(he:e=x\/H e=some (.own x))(k:∀b u,b≠e->h.get? b=some u->@X=some u)(Xk:∃u,h'.get? e=some u):Un fs ex H (upd H x o) h h':=by
 have hx:∀b,H b=none->b≠x:=λb n z=>by subst z;rw[n] at mu;exact mu
 have hb:∀b,H b=none->b≠e:=λb n z=>by
  subst z;rcases he with r |r
  .exact hx b n r
  .rw[n] at r;cases r
 have hm:∀b u,H b=some u->¬ Zq (some u)->b≠x:=λb u q nm z=>by subst z;rw[q] at mu;exact nm mu
 refine⟨λb u q n _ _=>k b u (hb b n) q,λb u q n _ _=>⟨u.slots,k b u (hb b n) q⟩,λb u q n _=>by rw[bP (hx b n)];exact n,λb u q _=>?_,
  λb xs q=>by rw[bP (hm b _ q λz=>z)];exact q,λb u xs q=>by rw[bP (hm b _ q λz=>z)];exact q,λb ps q=>by rw[bP (hm b _ q λz=>z)];exact q,λb ps q=>by rw[bP (hm b _ q λz=>z)];exact q⟩
 by_cases Wf:b=e
 .subst Wf;exact Xk
 .exact⟨u,k b u Wf q⟩
end
noncomputable def ZF(h:Heap)(H:Hp):List Addr:=(dG h.objs.size).filter λa=>(H a).isSome
def ER(h:Heap)(H:Hp):Heap:=PySem.W.hideAll h (ZF h H)
theorem MK(h)(H):(ER h H).objs.size=h.objs.size:=PySem.W.hideAll_size _ _
theorem PC{h:Heap}{H:Hp}{b:Addr}{o:Obj}(e:h.get? b=@j)(n:H b=none):(ER h H).get? b=@j :=
 ND _ e λhm=>by
  have q:(H b).isSome=true:=(List.mem_filter.mp hm).2;rw[n] at q;simp at q
theorem So(e:(ER h H).get? b=@j):h.get? b=@j/\H b=none:=by
 have e':h.get? b=@j:=QC (ZF h H) e;refine⟨e',?_⟩;cases q:H b with
 |none=>rfl
 |some x=>
  have hm:b∈ZF h H:=List.mem_filter.mpr ⟨List.mem_range.mpr (ba e'),by simp[q]⟩;have z:(ER h H).get? b=none:=PySem.W.hideAll_none (ZF h H) hm;rw[z] at e;cases e
noncomputable def xD(g h:Heap)(L:Addr):@A:=(dG h.objs.size).filterMap λa=>if a=L\/(g.get? a).isSome=true then none else(h.get? a).map λo=>(a,o)
theorem ze(h1:a≠L)(h2:g.get? a=none)(h3:h.get? a=@j):(a,o)∈xD g h L :=
 List.mem_filterMap.mpr ⟨a,List.mem_range.mpr (ba h3),by simp[h1,h2,h3]⟩
theorem A9(hp:p∈xD g h L):p.1≠L/\g.get? p.1=none/\h.get? p.1=some p.2:=by
 obtain⟨b,_,e⟩:=List.mem_filterMap.mp hp;split at e
 .cases e
 .rename_i hn;cases q:h.get? b with
  |none=>rw[q] at e;simp at e
  |some u=>
   rw[q] at e;simp only[Option.map_some,Option.some.injEq] at e;subst e;refine⟨λz=>hn (.inl z),?_,q⟩;show g.get? b=none;cases r:g.get? b with
   |none=>rfl
   |some v=>exact(hn (.inr (by simp[r]))).elim
def rest(g h:Heap)(L d:Addr):@A:=(xD g h L).filter λp=>decide (p.1≠d)
theorem Gx:News g L h (xD g h L):=λp hp=>let ⟨a,b,c⟩:=A9 hp;⟨c,a,b⟩
structure Mod(K:aB)(mg:@aa)(base:Heap):Prop where
 MD:K.In base
 glob:base.Ns bj mg
 blt:∃mb,base.Ns builtinsNs mb/\∀x:Str,x≠"__name__"->mb x=dj x
 nolimit:base.NoLimit
structure Cx where
 prog:bY
 w:World
 K:aB
 mg:@aa
 base:Heap
 A:eI
 N:@n
 iR:aL
 Nd:Hp
 env:Env
 outer:List Env
 stack:List Env
 ex:List Addr
 fn:Str->Bool
 calm:Bool
 pn:@A
 xe:@M
noncomputable def tQ(l:List Env):List Addr:=l.filterMap (·.frame)
abbrev Cx.fs(X:Cx):List Addr:=tQ X.outer
def Z6(sc:Scope)(x:Str):Prop:=sc.names.lookup x=some .local\/sc.names.lookup x=some .cell\/sc.names.lookup x=some .free
def Loc(sc:Scope)(x:Str):Prop:=sc.names.lookup x=some .local\/sc.names.lookup x=some .cell
def Look(env:Env)(h:Heap)(m:@aa)(x:Str)(u:Value):Prop :=
 (env.kindOf x=some .local/\m x=some u)\/((env.kindOf x=some .cell\/env.kindOf x=some .free)/\∃c,env.cells.lookup x=some c/\h.IsCell c (some u))
structure Cx.Ok(X:Cx):Prop where
 mod:Mod X.K X.mg X.base
 kind:X.env.scope.kind=.function
 glob:X.env.globals=bj
 blt:X.env.builtins=builtinsNs
 above:X.iR.heap.objs.size<=X.env.locals
 inj:∀x y c,@aj->X.env.cells.lookup y=some c->x=y
 has:∀x,(X.env.kindOf x=some .cell\/X.env.kindOf x=some .free)->∃c,@aj
 Xu:∀x c,X.fn x=true->@aj->X.iR.heap.objs.size<=c
 hd:X.calm=true->X.A.handled=none
 frames:X.A.frames=some X.stack
 XR:X.stack=X.outer\/(X.stack=X.env::X.outer/\X.env.frame=some X.env.locals)
 Zc:∀b∈X.ex,b≠X.env.locals/\∀x c,@aj->c≠b
 bs:∀b o,X.base.get? b=@j->X.iR.heap.get? b=@j/\X.Nd b=none
 M5:X.base.objs.size<=X.iR.heap.objs.size
 IZ:∀b o,X.base.get? b=@j->b∉X.ex
 MU:∀b∈X.ex,b∉X.fs
 vB:X.iR.heap.FunFrames X.base X.outer
 KR:∀b∈X.fs,X.Nd b=none
structure Inv(X:Cx)(pins:@A)(σ:List (Option V))(H:Hp)(s:aL):Prop where
 ok:X.Ok
 os:s.os=X.iR.os
 bare:AP s.gens
 base:Un X.fs X.ex X.Nd H X.iR.heap s.heap
 loc:∃m,s.heap.Ns X.env.locals m/\∀(i:Nat) (x:Str) (v:V),X.N[i]?=some x->σ[i]?=some (some v)->Z6 X.env.scope x->∃u,RelV v u/\Look X.env s.heap m x u
 cell:∀x c,@aj->∃v,s.heap.IsCell c v
 free:H X.env.locals=none
 jX:∀x c,@aj->H c=none
 pin:∀p∈X.pn++pins,s.heap.get? p.1=some p.2/\H p.1=none/\p.1≠X.env.locals/\p.1∉X.fs/\∀v,p.2.data≠.cell v
 c8:oQ X.prog X.w H s.heap
 len:σ.length=X.N.length
section
variable {X:Cx} {pins:@A} {σ:List (Option V)} {H H':Hp} {s:aL} {h':Heap}
theorem Cx.Ok.aaN(ok:X.Ok)(e:X.base.get? b=@j):b∉X.fs:=λhb=>by
 have:=(ok.vB.mem hb).1;rw[e] at this;cases this
theorem Inv.bs(I:@o):∀b o,X.base.get? b=@j->@Z=@j/\H b=none:=λb o e=>
 ⟨I.base.keep b o (I.ok.bs b o e).1 (I.ok.bs b o e).2 (I.ok.aaN e) (I.ok.IZ b o e),I.base.free b o (I.ok.bs b o e).1 (I.ok.bs b o e).2 (I.ok.IZ b o e)⟩
theorem Inv.bk(I:@o):∀b o,X.base.get? b=@j->@Z=@j:=λb o e=>(I.bs b o e).1
theorem Inv.mod(I:@o):Mod X.K X.mg X.base:=I.ok.mod
theorem Inv.sD(I:@o):X.K.In s.heap:=I.ok.mod.MD.keeps I.bk
theorem Inv.fr(I:@o):∃m,Fr X.base X.env.locals s.heap m :=
 let ⟨m,hn,_⟩:=I.loc
 ⟨m,hn,I.bk,cY I.ok.M5 I.ok.above⟩
theorem Inv.lt(I:@o):X.env.locals<s.heap.objs.size:=let ⟨_,hn,_⟩:=I.loc;hn.lt
theorem Inv.sz(I:@o):X.iR.heap.objs.size<=s.heap.objs.size:=cY I.ok.above (QZ I.lt)
theorem Inv.aaM(I:@o)(h:s.heap.objs.size<=a):a∉X.fs:=λhb=>by
 obtain⟨_,o,ho,_⟩:=I.ok.vB.mem hb;exact absurd (bQ (ba ho) (cY I.sz h)) (jY _)
theorem Inv.S8(I:@o):∀x c,@aj->c≠X.env.locals:=λx c e z=>by
 obtain⟨v,o,ho,hd⟩:=I.cell x c e;obtain⟨m,⟨o',es,ep,V9,PI,_⟩,_⟩:=I.loc;rw[z,V9] at ho;cases ho;rw[PI] at hd;cases hd
theorem Inv.vB(I:@o):s.heap.FunFrames X.base X.outer:=by
 have all:∀(l:List Env),(∀b∈tQ l,b∈X.fs)->X.iR.heap.FunFrames X.base l->s.heap.FunFrames X.base l:=by
  intro l;induction l with
  |nil=>intro _ _;trivial
  |cons env r ih=>
   intro hs hl;obtain⟨hk,⟨L,o,hf,hn,ho,hd⟩,hr⟩:=hl;have hL:L∈X.fs:=hs L (by unfold tQ;rw[Aa,hf];exact aQ);obtain⟨sl,e⟩:=I.base.slot L o ho (I.ok.KR L hL) hL λz=>I.ok.MU L z hL;exact⟨hk,⟨L,_,hf,hn,e,hd⟩,ih (λb hb=>hs b (by unfold tQ;rw[Aa,hf];exact aP _ hb)) hr⟩
 exact all X.outer (λ_ hb=>hb) I.ok.vB
theorem Inv.stack(I:@o):s.heap.FunFrames X.base X.stack:=by
 rcases I.ok.XR with e |⟨e,hf⟩
 .rw[e];exact I.vB
 .rw[e];obtain⟨m,hn,_⟩:=I.loc;refine .cons (by rw[I.ok.kind];decide) hf hn ?_ I.vB;exact Q4 (cY I.ok.M5 I.ok.above)
theorem Inv.IC(I:@o):∀b∈tQ X.stack,b∈X.env.locals::X.fs:=λb hb=>by
 rcases I.ok.XR with e |⟨e,hf⟩
 .rw[e] at hb;exact aP _ hb
 .rw[e] at hb;unfold tQ at hb;rw[Aa,hf] at hb;exact hb
theorem Inv.Eg(I:@o):∀b∈tQ X.stack,H b=none:=λb hb=>by
 rcases List.mem_cons.mp (I.IC b hb) with e |hb
 .rw[e];exact I.free
 .obtain⟨_,o,ho,_⟩:=I.ok.vB.mem hb;exact I.base.free b o ho (I.ok.KR b hb) λz=>I.ok.MU b z hb
theorem Inv.step{ch:List Addr}(I:@o)
  (QQ:∀b∈ch,(b∈X.ex\/X.iR.heap.objs.size<=b)/\b≠X.env.locals/\(∀x c,@aj->c≠b)/\∀p∈X.pn++pins,p.1≠b)
  (keep:∀b o,b≠X.env.locals->b∉X.fs->b∉ch->@Z=@j->H b=none->@X=@j)
  (slot:∀b o,b≠X.env.locals->b∈X.fs->b∉ch->@Z=@j->H b=none->∃sl,@X=some {o with slots:=sl}) (free:∀b o,b∉ch->@Z=@j->H b=none->H' b=none)
  (there:∀b o,b∉ch->@Z=@j->∃o',@X=some o')
  (rM:∀b xs,H b=some (.tup xs)->H' b=some (.tup xs)) (q5:∀b o u,H b=some (.kU o u)->H' b=some (.kU o u)) (yk:∀b q,H b=some (.Rg q)->H' b=some (.Rg q)) (wO:∀b x,H b=some (.own x)->H' b=some (.own x))
  (ns:∀m,s.heap.Ns X.env.locals m->h'.Ns X.env.locals m) (c8:oQ X.prog X.w H' h') (hg:AP g'):
  Inv X pins σ H' {s with heap:=h',gens:=g',drawn:=d',toks:=t'}:=by
 have neL:∀b o,X.iR.heap.get? b=@j->b≠X.env.locals:=λb o e=>bO (bQ (ba e) I.ok.above);have ZM:∀b o,X.iR.heap.get? b=@j->b∉X.ex->b∉ch:=λb o e hx hb=>by
  rcases(QQ b hb).1 with z |z
  .exact hx z
  .exact absurd (bQ (ba e) z) (jY _)
 have cellK:∀x c,@aj->∀v,s.heap.IsCell c v->h'.IsCell c v:=λx c e v ⟨o,ho,hd⟩=>by
  have Yp:c∉ch:=λz=>(QQ c z).2.2.1 x c e rfl;by_cases hc:c∈X.fs
  .obtain⟨sl,q⟩:=slot c o (I.S8 x c e) hc Yp ho (I.jX x c e);exact⟨_,q,hd⟩
  .exact⟨o,keep c o (I.S8 x c e) hc Yp ho (I.jX x c e),hd⟩
 refine⟨I.ok,I.os,hg,⟨λb o e n hb hx=>?_,λb o e n hb hx=>?_,λb o e n hx=>?_,λb o e hx=>?_,λb xs e=>rM b xs (I.base.rM b xs e),λb o xs e=>q5 b o xs (I.base.q5 b o xs e),λb ps e=>?_,λb x e=>wO b x (I.base.wO b x e)⟩,?_,λx c e=>?_,?_,λx c e=>?_,λp hp=>?_,c8,I.len⟩
 .exact keep b o (neL b o e) hb (ZM b o e hx) (I.base.keep b o e n hb hx) (I.base.free b o e n hx)
 .obtain⟨sl,e1⟩:=I.base.slot b o e n hb hx;obtain⟨sl',e2⟩:=slot b _ (neL b o e) hb (ZM b o e hx) e1 (I.base.free b o e n hx);exact⟨sl',e2⟩
 .obtain⟨o',e1⟩:=I.base.there b o e hx;exact free b o' (ZM b o e hx) e1 (I.base.free b o e n hx)
 .obtain⟨o',e1⟩:=I.base.there b o e hx;exact there b o' (ZM b o e hx) e1
 .exact yk b _ (I.base.yk b ps e)
 .obtain⟨m,hn,hl⟩:=I.loc;refine⟨m,ns m hn,λi x v e1 e2 e3=>?_⟩;obtain⟨u,r,l⟩:=hl i x v e1 e2 e3;refine⟨u,r,?_⟩;rcases l with l |⟨k,c,e,z⟩
  .exact .inl l
  .exact .inr ⟨k,c,e,cellK x c e _ z⟩
 .obtain⟨v,z⟩:=I.cell x c e;exact⟨v,cellK x c e v z⟩
 .obtain⟨m,⟨o,_,_,ho,_⟩,_⟩:=I.loc;exact free _ o (λz=>(QQ _ z).2.1 rfl) ho I.free
 .obtain⟨v,o,ho,hd⟩:=I.cell x c e;exact free c o (λz=>(QQ c z).2.2.1 x c e rfl) ho (I.jX x c e)
 .obtain⟨e,n,ne,nf,d⟩:=I.pin p hp;have Yp:p.1∉ch:=λz=>(QQ p.1 z).2.2.2 p hp rfl;exact⟨keep p.1 p.2 ne nf Yp e n,free p.1 p.2 Yp e n,ne,nf,d⟩
theorem Inv.un(I:@o)(u:Un X.fs [] H H' s.heap h')(c8:oQ X.prog X.w H' h'):Inv X pins σ H' {s with heap:=h',toks:=t'}:=by
 obtain⟨m,⟨o,es,ep,ho,r⟩,_⟩:=id I.loc;obtain⟨sl,hL⟩:=u.any ho I.free @k;exact I.step (g':=s.gens) (d':=s.drawn) (ch:=[]) (λ_ z=>nomatch z) (λb o _ hb _ e n=>u.keep b o e n hb @k) (λb o _ hb _ e n=>u.slot b o e n hb @k) (λb o _ e n=>u.free b o e n @k) (λb o _ e=>u.there b o e @k) u.rM u.q5 u.yk u.wO (λm' hm=>by
  obtain⟨o',es',ep',V9,r'⟩:=hm;rw[ho] at V9;cases V9;exact⟨_,es',ep',hL,r'⟩) c8 I.bare
theorem Inv.call(I:@o)(u:Un (tQ X.stack) ch H H' s.heap h')(c8:oQ X.prog X.w H' h')(hg:AP g')
  (QQ:∀b∈ch,(b∈X.ex\/X.iR.heap.objs.size<=b)/\b≠X.env.locals/\(∀x c,@aj->c≠b)/\∀p∈X.pn++pins,p.1≠b):
  Inv X pins σ H' {s with heap:=h',gens:=g',drawn:=d',toks:=t'}:=by
 obtain⟨m,⟨o,es,ep,ho,r⟩,_⟩:=id I.loc;obtain⟨sl,hL⟩:=u.any ho I.free λz=>(QQ _ z).2.1 rfl;exact I.step (ch:=ch) QQ (λb o hL hb hc e n=>u.keep b o e n (λz=>(List.mem_cons.mp (I.IC b z)).elim hL hb) hc) (λb o _ _ hc e n=>u.any e n hc) (λb o hc e n=>u.free b o e n hc) (λb o hc e=>u.there b o e hc) u.rM u.q5 u.yk u.wO (λm' hm=>by
  obtain⟨o',es',ep',V9,r'⟩:=hm;rw[ho] at V9;cases V9;exact⟨_,es',ep',hL,r'⟩) c8 hg
theorem Inv.turned(I:@o)(k:∀b o,b≠it->@Z=@j->@X=@j)(hn:H it=none)(hL:it≠X.env.locals)
  (h1:it∈X.ex\/X.iR.heap.objs.size<=it) (h2:∀x c,@aj->c≠it) (h3:∀p∈X.pn++pins,p.1≠it):Inv X pins σ H {s with heap:=h',toks:=t'}:=by
 have nit:∀b u,H b=some u->b≠it:=λb u e z=>by rw[z,hn] at e;cases e
 refine I.step (g':=s.gens) (d':=s.drawn) (ch:=[it]) (λb hb=>?_) (λb o _ _ hc e _=>k b o (λz=>hc (by simp[z])) e) (λb o _ _ hc e _=>⟨o.slots,k b o (λz=>hc (by simp[z])) e⟩) (λ_ _ _ _ n=>n)
  (λb o hc e=>⟨o,k b o (λz=>hc (by simp[z])) e⟩) (λ_ _ e=>e) (λ_ _ _ e=>e) (λ_ _ e=>e) (λ_ _ e=>e) (λm hm=>?_) (λb u e=>?_) I.bare
 .have e:b=it:=by simpa using hb
  subst e;exact⟨h1,hL,h2,h3⟩
 .obtain⟨o,es,ep,ho,r⟩:=hm;exact⟨o,es,ep,k _ o (dA hL) ho,r⟩
 .refine(I.c8 b u e).i9 (λc v hc q=>k c v ?_ q) (λ_ q=>q) λ_ _ q=>q;rcases hc with z |z
  .rw[z];exact nit b u e
  .exact nit c _ z
theorem Inv.tok(I:@o)(t):Inv X pins σ H {s with toks:=t}:=I.un (h':=s.heap) (t':=t) Un.refl I.c8
theorem Inv.kept(I:@o)(k:∀b u,@Z=some u->@X=some u):Inv X pins σ H {s with heap:=h',toks:=t'}:=I.un (Un.kept k) (I.c8.kept k)
theorem Inv.laid(I:@o)(k:∀b u,@Z=some u->@X=some u)(hp:s.heap.objs.size<=a)(new:fJ X.prog X.w (upd H a o) h' a o):
  Inv X pins σ (upd H a o) {s with heap:=h',toks:=t'}:=I.un (Un.laid k hp (I.c8.fresh hp)) (I.c8.laid k hp new)
theorem Inv.write(I:@o)(mu:Zq (H x))(he:e=x\/H e=some (.own x))(k:∀b u,b≠e->@Z=some u->@X=some u)(Xk:∃u,h'.get? e=some u)
  (new:fJ X.prog X.w (upd H x o) h' x o):Inv X pins σ (upd H x o) {s with heap:=h',toks:=t'}:=I.un (Un.write mu he k Xk) (I.c8.write mu he k Xk new)
theorem Inv.Ki(I:@o)(h:∀p∈TG,s.heap.get? p.1=some p.2/\H p.1=none/\p.1≠X.env.locals/\p.1∉X.fs/\∀v,p.2.data≠.cell v):Inv X TG σ H s :=
 ⟨I.ok,I.os,I.bare,I.base,I.loc,I.cell,I.free,I.jX,λp hp=>(List.mem_append.mp hp).elim (λz=>I.pin p (ee _ z)) (h p),I.c8,I.len⟩
theorem Ba{N:@n}(hN:N.Nodup){j:Nat}(a:N[i]?=some x)(b:N[j]?=some x):i=j:=by
 obtain⟨h1,e1⟩:=List.getElem?_eq_some_iff.mp a;obtain⟨h2,e2⟩:=List.getElem?_eq_some_iff.mp b;exact(List.getElem_inj hN).mp (e1.trans e2.symm)
theorem yn{M:Model}{A:eI}{E:@M}{i:Nat}{x:Str}{v:V}{u:Value}{Q:Unit->aL->Prop}(I:@o)(hN:X.N.Nodup)(hi:X.N[i]?=some x)(hx:Loc X.env.scope x)(r:RelV v u)
  (h:∀s',Inv X pins (σ.set i (some v)) H s'->(∃a,Ec a s.heap s'.heap/\(a=X.env.locals\/X.env.cells.lookup x=some a))->Q () s') (hf:autoParam (X.fn x=true\/X.env.scope.names.lookup x=some .local) Ao._auto_1):wpAny M A (storeName X.env x u) Q E s:=by
 obtain⟨m,hn,hl⟩:=id I.loc;have PJ:(X.env.scope.kind == .class||(X.env.scope.kind == .module&&X.env.locals != X.env.globals))=false:=by rw[I.ok.kind];rfl
 have YO:i<σ.length:=by rw[I.len];exact(List.getElem?_eq_some_iff.mp hi).1
 have S8:=I.S8;have tracked:∀{a:Addr} {h':Heap},(∃o,s.heap.get? a=@j/\H a=none)->Ec a s.heap h'->oQ X.prog X.w H h':=λ{a h'} ha hs b ob e=>by
  obtain⟨_,_,nj⟩:=ha;refine(I.c8 b ob e).i9 (λc w' hc q=>(hs.2 c ?_).trans q) (λ_ q=>q) λ_ _ q=>q;rintro rfl;rcases hc with rfl |hc
  .rw[nj] at e;cases e
  .rw[nj] at hc;cases hc
 rcases hx with hk |hk
 .refine wpAny_storeName_local hk hn (λh' MI hs=>?_) PJ;obtain⟨oL,_,_,ZU,_⟩:=id hn;refine h _ ⟨I.ok,I.os,I.bare,⟨λb o e n hb hx=>?_,λb o e n hb hx=>?_,I.base.free,λb o e hx=>?_,I.base.rM,I.base.q5,I.base.yk,I.base.wO⟩,⟨_,MI,λj y v' e1 e2 e3=>?_⟩,λy c e=>?_,I.free,I.jX,λp hp=>?_,tracked ⟨oL,ZU,I.free⟩ hs,by simpa using I.len⟩ ⟨_,hs,@E⟩
  .exact(hs.2 b (bO (bQ (ba e) I.ok.above))).trans (I.base.keep b o e n hb hx)
  .obtain⟨sl,e1⟩:=I.base.slot b o e n hb hx;exact⟨sl,(hs.2 b (bO (bQ (ba e) I.ok.above))).trans e1⟩
  .obtain⟨o',e1⟩:=I.base.there b o e hx;exact⟨o',(hs.2 b (bO (bQ (ba e) I.ok.above))).trans e1⟩
  .by_cases hj:j=i
   .subst hj;rw[hi] at e1;cases e1;rw[fi YO] at e2;cases e2;exact⟨u,r,.inl ⟨hk,by simp⟩⟩
   .rw[eT (dA hj)] at e2;obtain⟨u',r',q⟩:=hl j y v' e1 e2 e3;refine⟨u',r',?_⟩;rcases q with ⟨k,e⟩ |⟨k,c,e,z⟩
    .refine .inl ⟨k,?_⟩;have:y≠x:=λe=>hj (Ba hN e1 (e ▸ hi));simp[this,e]
    .exact .inr ⟨k,c,e,z.sameBut hs (S8 y c e)⟩
  .obtain⟨w',z⟩:=I.cell y c e;exact⟨w',z.sameBut hs (S8 y c e)⟩
  .obtain⟨e,n,ne,nf,d⟩:=I.pin p hp;exact⟨(hs.2 p.1 ne).trans e,n,ne,nf,d⟩
 .have hfn:X.fn x=true:=by
   rcases hf with z |z
   .exact z
   .rw[z] at hk;cases hk
  obtain⟨c,hc⟩:=I.ok.has x (.inl hk);obtain⟨w',z⟩:=I.cell x c hc;refine wpAny_storeName_cell I.ok.kind hk hc z (λh' KL hs=>?_);obtain⟨oc,Xj,abo⟩:=id z;refine h {s with heap:=h'} ⟨I.ok,I.os,I.bare,⟨λb o e n hb hx=>?_,λb o e n hb hx=>?_,I.base.free,λb o e hx=>?_,I.base.rM,I.base.q5,I.base.yk,I.base.wO⟩,⟨m,hn.sameBut hs (dA (S8 x c hc)),λj y v' e1 e2 e3=>?_⟩,λy c' e=>?_,I.free,I.jX,λp hp=>?_,tracked ⟨oc,Xj,I.jX x c hc⟩ hs,by simpa using I.len⟩ ⟨c,hs,.inr hc⟩
  .exact(hs.2 b (bO (bQ (ba e) (I.ok.Xu x c hfn hc)))).trans (I.base.keep b o e n hb hx)
  .obtain⟨sl,e1⟩:=I.base.slot b o e n hb hx;exact⟨sl,(hs.2 b (bO (bQ (ba e) (I.ok.Xu x c hfn hc)))).trans e1⟩
  .obtain⟨o',e1⟩:=I.base.there b o e hx;exact⟨o',(hs.2 b (bO (bQ (ba e) (I.ok.Xu x c hfn hc)))).trans e1⟩
  .by_cases hj:j=i
   .subst hj;rw[hi] at e1;cases e1;rw[fi YO] at e2;cases e2;exact⟨u,r,.inr ⟨.inl hk,c,hc,KL⟩⟩
   .rw[eT (dA hj)] at e2;obtain⟨u',r',q⟩:=hl j y v' e1 e2 e3;refine⟨u',r',?_⟩;rcases q with q |⟨k,c',e,z'⟩
    .exact .inl q
    .refine .inr ⟨k,c',e,z'.sameBut hs ?_⟩;rintro rfl;exact hj (Ba hN e1 (I.ok.inj _ _ _ e hc ▸ hi))
  .by_cases hcc:c'=c
   .subst hcc;exact⟨_,KL⟩
   .obtain⟨w2,z2⟩:=I.cell y c' e;exact⟨w2,z2.sameBut hs hcc⟩
  .obtain⟨e,n,ne,nf,d⟩:=I.pin p hp;refine⟨(hs.2 p.1 ?_).trans e,n,ne,nf,d⟩;intro q;rw[q,Xj] at e;have q':oc=p.2:=bV e;exact d w' (by rw[<-q'];exact abo)
theorem F8{M:Model}{A:eI}{E:@M}{i:Nat}{x:Str}{v:V}{u:Value}{Q:Unit->aL->Prop}(I:@o)(hN:X.N.Nodup)(hi:X.N[i]?=some x)(hx:Loc X.env.scope x)(r:RelV v u)
  (h:∀s',Inv X pins (σ.set i (some v)) H s'->Q () s') (hf:autoParam (X.fn x=true\/X.env.scope.names.lookup x=some .local) Ao._auto_1):wpAny M A (storeName X.env x u) Q E s :=
 yn I hN hi hx r (λs' I' _=>h s' I') hf
theorem Inv.Lg(I:@o)(ho:s'.os=s.os)(u:Un (tQ X.stack) ch H H' s.heap s'.heap)(c8:oQ X.prog X.w H' s'.heap)(hg:AP s'.gens)
  (QQ:∀b∈ch,(b∈X.ex\/X.iR.heap.objs.size<=b)/\b≠X.env.locals/\(∀x c,@aj->c≠b)/\∀p∈X.pn++pins,p.1≠b):Inv X pins σ H' s':=by
 obtain⟨h',g',d',t',o'⟩:=s';have e:o'=s.os:=ho;subst e;exact I.call (g':=g') (t':=t') (d':=d') u c8 hg QQ
end
abbrev XK:=Value->Option Addr->Hp->Prop
abbrev St:=List (Option V)
abbrev VK:=V->Hp->Prop
abbrev TE:=St->Hp->VK->Prop
abbrev TT:=St->Hp->(Bool->Hp->Prop)->Prop
abbrev TA:=St->Hp->(List V->Hp->Prop)->Prop
structure Ends where
 nx:St->Hp->Prop
 rt:VK
 bk:St->Hp->Prop:=@f
 ct:St->Hp->Prop:=@f
abbrev TS:=Ends->St->Hp->Prop
def EP(X:Cx)(pins:@A)(σ:St)(Q:VK)(u:Value)(s':aL):Prop:=∃v H',Inv X pins σ H' s'/\RelV v u/\Q v H'
def TP(X:Cx)(pins:@A)(σ:St)(Q:Bool->Hp->Prop)(b:Bool)(s':aL):Prop:=∃H',Inv X pins σ H' s'/\Q b H'
def SP(X:Cx)(pins:@A)(D:Ends)(f:Flow)(s':aL):Prop :=
 match f with
 |.next=>∃iJ H',Inv X pins iJ H' s'/\D.nx iJ H'
 |.brk=>∃iJ H',Inv X pins iJ H' s'/\D.bk iJ H'
 |.cont=>∃iJ H',Inv X pins iJ H' s'/\D.ct iJ H'
 |.ret u=>∃v iJ H',Inv X pins iJ H' s'/\RelV v u/\D.rt v H'
def PE(X:Cx)(e:Expr)(t:TE):Prop :=
 ∀(pins:@A) (s:aL) (σ:St) (H:Hp) (Q:VK),@o->t σ H Q->wpAny @r X.A (eval e X.env) (EP X pins σ Q) X.xe s
def XA(X:Cx)(st:List Stmt)(t:TS):Prop :=
 ∀(pins:@A) (s:aL) (σ:St) (H:Hp) (D:Ends),@o->t D σ H->wpAny @r X.A (execs st X.env) (SP X pins D) X.xe s
theorem fY(h:wpAny M A t Q E s)(hQ:∀a s,Q a s->Q' a s):wpAny M A t Q' E s:=iq h hQ λ_ _ x=>x
section
variable {X:Cx}
def aaj(i:Nat):TE:=λσ H Q=>∃v,σ[i]?=some (some v)/\Q v H
def tC(v:V):TE:=λ_ H Q=>Q v H
theorem Vg    (hN:X.N[i]?=some x) (hv:Z6 X.env.scope x) (hd:autoParam ((x == ("__debug__":Str))=false) Ad._auto_1) (KJ:autoParam ((x == ("__classdict__":Str))=false) Ad._auto_1):PE X (.Name x pos) (aaj i):=by
 intro pins s σ H Q I h;obtain⟨v,e,h⟩:=h;obtain⟨m,hn,hl⟩:=I.loc;obtain⟨u,r,l⟩:=hl i x v hN e hv;have fin:EP X pins σ Q u s:=⟨v,H,I,r,h⟩;rcases l with ⟨hk,hm⟩ |⟨hk,c,hc,qQ⟩
 .exact wpAny_Name (wpAny_loadName_local I.ok.kind hk hn hm fin) hd
 .rcases hk with hk |hk
  .exact wpAny_Name (wpAny_loadName_cell I.ok.kind hk hc qQ fin) hd
  .exact wpAny_Name (wpAny_loadName_free I.ok.kind hk hc qQ fin KJ) hd
theorem Vj{i j pos}:PE X (.Constant (.int i) j pos) (tC (.int i)):=λ_ _ _ H _ I h=>wpAny_Constant_int ⟨.int i,H,I.tok _,⟨_,rfl⟩,h⟩
theorem Yb{b j pos}:PE X (.Constant (.bool b) j pos) (tC (.bl b)):=λ_ _ _ H _ I h=>Constant_bool ⟨.bl b,H,I,rfl,h⟩
theorem Vi{j pos}:PE X (.Constant .none j pos) (tC .ff):=λ_ _ _ H _ I h=>Constant_none ⟨.ff,H,I,rfl,h⟩
theorem Vh{x j pos}:PE X (.Constant (.str x) j pos) (tC (.str x)):=λ_ _ _ H _ I h=>Calls.Constant_str ⟨.str x,H,I.tok _,⟨_,rfl⟩,h⟩
def Gl(X:Cx)(x:Str):Prop:=X.env.kindOf x=some .globalImplicit
theorem mr{E:@M}{pins:@A}{s:aL}{σ:St}{H:Hp}{x:Str}{u:Value}{pos:Pos}{Q:@M}(I:@o)(hg:Gl X x)(hm:X.mg x=some u)(h:Q u s)
  (hd:autoParam ((x == ("__debug__":Str))=false) Ad._auto_1):wpAny @r X.A (eval (.Name x pos) X.env) Q E s :=
 HS I.ok.kind hg (Calls.loadGlobal_global (by rw[I.ok.glob];exact I.mod.glob.keeps I.bk) hm h) hd
theorem oJ{E:@M}{pins:@A}{s:aL}{σ:St}{H:Hp}{x:Str}{u:Value}{pos:Pos}{Q:@M}(I:@o)(hg:Gl X x)(hm:X.mg x=none)(hv:dj x=some u)(h:Q u s)
  (hn:autoParam (x≠"__name__") Ad._auto_1) (hd:autoParam ((x == ("__debug__":Str))=false) Ad._auto_1):wpAny @r X.A (eval (.Name x pos) X.env) Q E s:=by
 obtain⟨mb,h1,h2⟩:=I.mod.blt;exact HS I.ok.kind hg (Calls.loadGlobal_builtin (by rw[I.ok.glob];exact I.mod.glob.keeps I.bk) hm (by rw[I.ok.blt];exact h1.keeps I.bk) ((h2 x hn).trans hv) h) hd
theorem RV     (hg:Gl X x) (hm:X.mg x=some u) (r:RelV v u) (hd:autoParam ((x == ("__debug__":Str))=false) Ad._auto_1):PE X (.Name x pos) (tC v) :=
 λ_ _ _ H _ I h=>mr I hg hm ⟨v,H,I,r,h⟩ hd
variable {a b:Expr} {ta tb:TE} {pos:Pos}
def tB(t:TE):TT:=λσ H Q=>t σ H λx H1=>∃c,x=.bl c/\Q c H1
variable {tA tB':TT} {rest:List Expr}
end
def qE(K:aB)(H:Hp)(a:Addr)(xs:List V):Prop :=
 Rd H a (.lst xs) \/
  ∃(o:Obj) (b9:Array Value) (n:Nat),K.lookup a=@j/\o.cls=.type "list"/\o.dict=none/\o.data=.seq b9 n/\b9.size<=bB/\Vals xs b9.toList
def B2(K:aB)(H:Hp)(a:Addr)(xs:List V):Prop :=
 Rd H a (.tup xs) \/
  ∃(o:Obj) (b9:Array Value) (n:Nat),K.lookup a=@j/\o.cls=@U/\o.data=.seq b9 n/\b9.size<=bB/\Vals xs b9.toList
noncomputable def acj:Value->Option V
 |.none=>some .ff
 |.bool b=>some (.bl b)
 |.int i _=>some (.int i)
 |.str x _=>some (.str x)
 |.bytes b _=>some (.Ud b)
 |.float b _=>some (.i6 b)
 |.ref a=>some (@m)
 |.type n=>some (.ty n)
 |_=>none
theorem RelV.abs(r:RelV x u):acj u=some x:=by
 cases x with
 |ff=>cases r;rfl
 |bl _=>cases r;rfl
 |int _=>obtain⟨t,rfl⟩:=r;rfl
 |str _=>obtain⟨t,rfl⟩:=r;rfl
 |Ud _=>obtain⟨t,rfl⟩:=r;rfl
 |i6 _=>obtain⟨t,rfl⟩:=r;rfl
 |ref _=>cases r;rfl
 |ty _=>cases r;rfl
theorem RelV.inj(r:RelV x u)(q:RelV y u):x=y:=bV (r.abs.symm.trans q.abs)
theorem Vals.inj:∀{xs ys:List V} {us:@D},Vals xs us->Vals ys us->xs=ys:=by
 intro xs ys us h;induction h generalizing ys with
 |nil=>intro k;cases k;rfl
 |cons r t ih=>
  intro k;cases k with
  |cons r' t'=>rw[r.inj r',ih t']
section
variable {X:Cx} {pins:@A} {σ:St} {H:Hp} {s:aL} {a:Addr} {xs ys:List V}
theorem qE.of{K:aB}(h:H a=some (.lst xs)):qE K H a xs:=.inl (.inl h)
theorem B2.of{K:aB}(h:H a=some (.tup xs)):B2 K H a xs:=.inl (.inl h)
theorem Inv.list(I:@o)(h:qE X.K H a xs):∃b9:@D,Vals xs b9/\PlainL s.heap a b9.toArray/\xs.length<=bB:=by
 rcases h with h |⟨o,b9,n,hk,hc,hd,hs,hz,r⟩
 .obtain⟨z,b9,n,r,e⟩:=h.ok I.c8;exact⟨b9,r,⟨_,n,e,rfl,rfl,rfl⟩,z⟩
 .refine⟨b9.toList,r,⟨o,n,I.sD a o hk,hc,hd,by simpa using hs⟩,?_⟩;have e:=r.length;simp only[zJ] at e;lia
theorem Inv.tuple(I:@o)(h:B2 X.K H a xs):∃b9:@D,Vals xs b9/\IsTup s.heap a b9.toArray/\xs.length<=bB:=by
 rcases h with h |⟨o,b9,n,hk,hc,hs,hz,r⟩
 .obtain⟨z,b9,r,p⟩:=h.ok I.c8;exact⟨b9,r,p,z⟩
 .refine⟨b9.toList,r,⟨o,I.sD a o hk,hc,n,by simpa using hs⟩,?_⟩;have e:=r.length;simp only[zJ] at e;lia
theorem Inv.wV(I:@o)(h:qE X.K H a xs)(h':qE X.K H a ys):xs=ys:=by
 obtain⟨b9,r,⟨o,n,e,_,_,d⟩,_⟩:=I.list h;obtain⟨its',r',⟨o',n',e',_,_,d'⟩,_⟩:=I.list h';rw[e] at e';cases e';rw[d] at d';injection d' with d1 _
 have:b9=its':=by simpa using congrArg Array.toList d1
 subst this;exact r.inj r'
theorem Inv.LB(I:@o)(h:B2 X.K H a xs)(h':B2 X.K H a ys):xs=ys:=by
 obtain⟨b9,r,⟨o,e,_,n,d⟩,_⟩:=I.tuple h;obtain⟨its',r',⟨o',e',_,n',d'⟩,_⟩:=I.tuple h';rw[e] at e';cases e';rw[d] at d';injection d' with d1 _
 have:b9=its':=by simpa using congrArg Array.toList d1
 subst this;exact r.inj r'
end
noncomputable abbrev Cx.jZ(X:Cx)(E:@M):Cx:={X with xe:=E}
abbrev Cx.VE(X:Cx):Cx:=X.jZ @f
theorem Cx.Ok.jZ{X:Cx}(ok:X.Ok)(E):(X.jZ E).Ok :=
 ⟨ok.mod,ok.kind,ok.glob,ok.blt,ok.above,ok.inj,ok.has,ok.Xu,ok.hd,ok.frames,ok.XR,ok.Zc,ok.bs,ok.M5,ok.IZ,ok.MU,ok.vB,ok.KR⟩
theorem Cx.Ok.jk{X:Cx}(ok:(X.jZ E).Ok):X.Ok :=
 ⟨ok.mod,ok.kind,ok.glob,ok.blt,ok.above,ok.inj,ok.has,ok.Xu,ok.hd,ok.frames,ok.XR,ok.Zc,ok.bs,ok.M5,ok.IZ,ok.MU,ok.vB,ok.KR⟩
section
variable {X:Cx} {pins:@A} {σ:St} {H:Hp} {s:aL} {E:@M}
theorem Inv.jZ(I:@o)(E):Inv (X.jZ E) pins σ H s:=⟨I.ok.jZ E,I.os,I.bare,I.base,I.loc,I.cell,I.free,I.jX,I.pin,I.c8,I.len⟩
theorem Inv.jk(I:Inv (X.jZ E) pins σ H s):@o:=⟨I.ok.jk,I.os,I.bare,I.base,I.loc,I.cell,I.free,I.jX,I.pin,I.c8,I.len⟩
theorem SP.jk(h:SP (X.jZ E) pins D f s'):SP X pins D f s':=by
 cases f with
 |next=>obtain⟨iJ,H',I,q⟩:=h;exact⟨iJ,H',I.jk,q⟩
 |brk=>obtain⟨iJ,H',I,q⟩:=h;exact⟨iJ,H',I.jk,q⟩
 |cont=>obtain⟨iJ,H',I,q⟩:=h;exact⟨iJ,H',I.jk,q⟩
 |ret u=>obtain⟨v,iJ,H',I,r,q⟩:=h;exact⟨v,iJ,H',I.jk,r,q⟩
theorem XA.VE{st:List Stmt}(h:XA X.VE st t):XA X st t:=λpins s σ H D I hw=>
 iq (h pins s σ H D (I.jZ _) hw) (λ_ _ q=>q.jk) λ_ _ z=>bE z
end
section
variable {X:Cx} {st:Stmt} {rest:List Stmt} {t u:TS} {e:Expr} {te:TE} {pos:Pos}
theorem Inv.quiet(I:@o):interactive X.env=false:=by simp[interactive,I.ok.kind]
end
abbrev aco:=V->V->V->Hp->(Hp->Prop)->Prop
def acr(X:Cx)(t:aco):Prop :=
 ∀(pins:@A) (s:aL) (σ:St) (H:Hp) (o i v:V) (ov iv u:Value) (Q:Hp->Prop),@o->RelV o ov->RelV i iv->RelV v u->t o i v H Q ->
  wpAny @r X.A (setItem ov iv u) (λ_ s'=>∃H',Inv X pins σ H' s'/\Q H') X.xe s
structure It where
 go:Nat->Hp->Prop
 yld:Nat->Hp->V->Hp->Prop
 stop:Nat->Hp->Prop
def pU(X:Cx)(pins:@A)(H:Hp)(b:Addr):Prop :=
 H b=none/\b≠X.env.locals/\b∉X.fs/\(b∈X.ex\/X.iR.heap.objs.size<=b)/\(∀x c,@aj->c≠b)/\∀p∈X.pn++pins,p.1≠b
theorem Inv.MR{X:Cx}{pins:@A}{σ:St}{H H':Hp}{s:aL}{b:Addr}(I:@o)(hb:s.heap.objs.size<=b)(hn:H' b=none):pU X pins H' b:=by
 refine⟨hn,Nat.ne_of_gt (bQ I.lt hb),I.aaM hb,.inr (cY I.sz hb),λx c e z=>?_,λp hp z=>?_⟩
 .obtain⟨v,q⟩:=I.cell x c e;exact absurd (bQ q.lt (by rw[z];exact hb)) (jY _)
 .exact absurd (bQ (ba (I.pin p hp).1) (by rw[z];exact hb)) (jY _)
structure Turn(P:bY)(w:World)(K:aB)(tg:Expr)(J:It)(fp:List Addr)(it:Addr)(tn:Nat->Heap->Prop):Prop where
 mem:it∈fp
 obj:∀i h,tn i h->∀b∈fp,∃o,h.get? b=@j/\∀v,o.data≠.cell v
 keep:∀i h h',tn i h->(∀b∈fp,∀o,h.get? b=@j->@X=@j)->tn i h'
 item:∀(X:Cx),X.prog=P->X.w=w->X.K=K->X.calm=true->∀(i:Nat) (pins:@A) (s:aL) (σ:St) (H:Hp) (E:@M),@o->(∀b∈fp,pU X pins H b)->tn i s.heap->J.go i H ->
  wpAny (model P w) X.A (pyNext (.ref it)) (λr s1=>∃u,r=some u /\
   wpAny (model P w) X.A (AH tg (.ref it) u) (λ_ s2=>∃x H',Inv X pins σ H' s2/\RelV x u/\J.yld i H x H'/\tn (i+1) s2.heap/\∀b∈fp,H' b=none) E s1) E s
 done:∀(X:Cx),X.prog=P->X.w=w->X.K=K->X.calm=true->∀(i:Nat) (pins:@A) (s:aL) (σ:St) (H:Hp) (E:@M),@o->(∀b∈fp,pU X pins H b)->tn i s.heap->J.stop i H ->
  wpAny (model P w) X.A (pyNext (.ref it)) (λr s1=>r=none/\Inv X pins σ H s1) E s
 self:∀(A:eI) (i:Nat) (s:aL) (Q:@M) (E:@M),tn i s.heap->Q (.ref it) s->wpAny (model P w) A (pyIter (.ref it)) Q E s
abbrev TI:=St->Hp->(It->Hp->Prop)->Prop
def PIE(X:Cx)(pins:@A)(σ:St)(tg:Expr)(R:It->Hp->Prop)(TU:Value)(s2:aL):Prop :=
 ∃(it:Addr) (fp:List Addr) (tn:Nat->Heap->Prop) (J:It) (H':Hp),TU=.ref it/\Inv X pins σ H' s2/\Turn X.prog X.w X.K tg J fp it tn/\tn 0 s2.heap/\(∀b∈fp,pU X pins H' b)/\R J H'
theorem PQ{M:Model}{A:eI}{E:@M}{s:aL}{tg:Expr}{it:Addr}{u:Value}{o:Obj}{n:String}{vs:Array Value}{Q:Unit->aL->Prop}(ho:s.heap.get? it=@j)(hc:o.cls=.type n)(hd:o.data=.fields vs)
    (hn:["enumerate","zip","dict_itemiterator","dict_reverseitemiterator","odict_iterator","itertools.zip_longest","itertools.pairwise"].contains n=false) (hQ:Q () s):wpAny M A (AH tg (.ref it) u) Q E s:=by
  unfold AH;cases tg<;>first
    |exact bI hQ
    |(cases u<;>first
        |exact bI hQ
        | (refine aR (wpAny_load ho ?_)
           rw[hc,hd];show wpAny M A (if(["enumerate","zip","dict_itemiterator","dict_reverseitemiterator","odict_iterator","itertools.zip_longest","itertools.pairwise"].contains n&&vs[0]? == some (rawInt _))=true then _ else _) Q E s;rw[if_neg (by intro h;rw[hn,zI] at h;cases h)];exact bI hQ))
noncomputable def Itl(K:aB)(a:Addr):It :=
 ⟨λi H=>∃xs x,qE K H a xs/\xs[i]?=some x,λi H x H'=>H'=H/\∀xs,qE K H a xs->xs[i]?=some x,λi H=>∃xs,qE K H a xs/\xs.length<=i⟩
noncomputable def Itt(K:aB)(a:Addr):It :=
 ⟨λi H=>∃xs x,B2 K H a xs/\xs[i]?=some x,λi H x H'=>H'=H/\∀xs,B2 K H a xs->xs[i]?=some x,λi H=>∃xs,B2 K H a xs/\xs.length<=i⟩
noncomputable def Itr(lo:Int)(n:Nat):It:=⟨λi _=>i<n,λi H x H'=>H'=H/\x=.int (lo+i),λi _=>n<=i⟩
theorem Lz{K:aB}(a it):Turn P w K tg (Itl K a) [it] it (λi h=>h.IsListIter it a i) where
 mem:=by simp
 obj:=λi h st b hb=>by
  have e:b=it:=by simpa using hb
  subst e;obtain⟨o,e,c,d⟩:=st;exact⟨o,e,λv z=>by rw[d] at z;cases z⟩
 keep:=λi h h' st k=>st.at λo e=>k it @k o e
 item:=by
  intro X hP hw hK hc i pins s σ H E I hf st hg;subst hP hw hK;obtain⟨xs,x,hq,hx⟩:=hg;obtain⟨b9,rv,p,hz⟩:=I.list hq;obtain⟨u,hu,ru⟩:=rv.get hx;obtain⟨f0,f1,f2,f3,f4,f5⟩:=hf it @k;refine wpAny_pyNext_list_item st p.isList (x:=u) (by simpa using hu) λh' HV sb=>?_;have I1:Inv X pins σ H {s with heap:=h'}:=I.turned (t':=s.toks) (λb o hb e=>(sb.2 b hb).trans e) f0 f1 f3 f4 f5;obtain⟨o,e,c,d⟩:=id HV;exact⟨u,rfl,PQ (s:={s with heap:=h'}) e c d (@c) ⟨x,H,I1,ru,⟨rfl,λys hy=>by rw[I.wV hy hq];exact hx⟩,HV,λb hb=>(hf b hb).1⟩⟩
 done:=by
  intro X hP hw hK hc i pins s σ H E I hf st hg;subst hP hw hK;obtain⟨xs,hq,hx⟩:=hg;obtain⟨b9,rv,p,hz⟩:=I.list hq;obtain⟨f0,f1,f2,f3,f4,f5⟩:=hf it @k;have hl:=rv.length;exact wpAny_pyNext_list_end (I.ok.hd hc) st p.isList (by simp;lia) λh' eb=>⟨rfl,I.turned (t':=s.toks) (λb o hb e=>eb b o hb e) f0 f1 f3 f4 f5⟩
 self:=λ_ _ _ _ _ st h=>wpAny_pyIter_listiter st h
theorem Iy{K:aB}(a it):Turn P w K tg (Itt K a) [it] it (λi h=>h.IsTupleIter it a i) where
 mem:=by simp
 obj:=λi h st b hb=>by
  have e:b=it:=by simpa using hb
  subst e;obtain⟨o,e,c,d⟩:=st;exact⟨o,e,λv z=>by rw[d] at z;cases z⟩
 keep:=λi h h' st k=>st.at λo e=>k it @k o e
 item:=by
  intro X hP hw hK hc i pins s σ H E I hf st hg;subst hP hw hK;obtain⟨xs,x,hq,hx⟩:=hg;obtain⟨b9,rv,p,hz⟩:=I.tuple hq;obtain⟨u,hu,ru⟩:=rv.get hx;obtain⟨f0,f1,f2,f3,f4,f5⟩:=hf it @k;refine wpAny_pyNext_tuple_item st (show s.heap.IsTuple a b9.toArray from p) (x:=u) (by simpa using hu) λh' HV sb=>?_;have I1:Inv X pins σ H {s with heap:=h'}:=I.turned (t':=s.toks) (λb o hb e=>(sb.2 b hb).trans e) f0 f1 f3 f4 f5;obtain⟨o,e,c,d⟩:=id HV;exact⟨u,rfl,PQ (s:={s with heap:=h'}) e c d (@c) ⟨x,H,I1,ru,⟨rfl,λys hy=>by rw[I.LB hy hq];exact hx⟩,HV,λb hb=>(hf b hb).1⟩⟩
 done:=by
  intro X hP hw hK hc i pins s σ H E I hf st hg;subst hP hw hK;obtain⟨xs,hq,hx⟩:=hg;obtain⟨b9,rv,p,hz⟩:=I.tuple hq;obtain⟨f0,f1,f2,f3,f4,f5⟩:=hf it @k;have hl:=rv.length;exact wpAny_pyNext_tuple_end (I.ok.hd hc) st (show s.heap.IsTuple a b9.toArray from p) (by simp;lia) λh' eb=>⟨rfl,I.turned (t':=s.toks) (λb o hb e=>eb b o hb e) f0 f1 f3 f4 f5⟩
 self:=λ_ _ _ _ _ st h=>wpAny_pyIter_tupleiter st h
theorem Iz{K:aB}(it)(lo)(n):Turn P w K tg (Itr lo n) [it] it (λi h=>IsRangeIter h it (lo+(i:Nat)*1) ((n:Int)-(i:Nat)) 1) where
 mem:=by simp
 obj:=λi h st b hb=>by
  have e:b=it:=by simpa using hb
  subst e;exact⟨_,st,λv z=>by
   have z':Data.fields _=Data.cell v:=z;cases z'⟩
 keep:=λi h h' st k=>k it @k _ st
 item:=by
  intro X hP hw hK hc i pins s σ H E I hf st hg;subst hP hw hK;obtain⟨f0,f1,f2,f3,f4,f5⟩:=hf it @k;have W:=Walks.range (prog:=X.prog) (w:=X.w) (I.ok.hd hc) it lo 1 n;refine W.item i s _ _ hg st λv h' tk hv HV kk=>?_;obtain⟨t,rfl⟩:=hv;have I1:Inv X pins σ H {s with heap:=h',toks:=tk}:=I.turned (λb o hb e=>kk b o (by simpa using hb) e) f0 f1 f3 f4 f5;refine⟨_,rfl,PQ (s:={s with heap:=h',toks:=tk}) (n:="range_iterator") HV rfl rfl (@c) ⟨.int (lo+i),H,I1,⟨t,?_⟩,@R,HV,λb hb=>(hf b hb).1⟩⟩;rw[Int.mul_one]
 done:=by
  intro X hP hw hK hc i pins s σ H E I hf st hg;subst hP hw hK;obtain⟨f0,f1,f2,f3,f4,f5⟩:=hf it @k;exact wpAny_pyNext_range_end (I.ok.hd hc) st (by have:n<=i:=hg;lia) λh' eb=>⟨rfl,I.turned (t':=s.toks) (λb o hb e=>eb b o hb e) f0 f1 f3 f4 f5⟩
 self:=λ_ _ _ _ _ st h=>wpAny_pyIter_rangeiter st h
section
variable {X:Cx} {tg:Expr}
theorem Oi{pins:@A}{σ:St}{H:Hp}{s:aL}{R:It->Hp->Prop}{E:@M}{lo hi:Int}{t u v:Tok}{tk:Nat}(I:@o)(h1:-(2 ^ 62)<=lo)(h2:lo<2 ^ 62)(h3:-(2 ^ 62)<=hi)(h4:hi<2 ^ 62)
  (q:R (Itr lo (hi-lo).toNat) H):wpAny @r X.A (pyIter (.ref s.heap.objs.size)) (PIE X pins σ tg R) E {s with heap:=s.heap.push {cls:=.type "range",data:=.fields #[.int lo t,.int hi u,.int 1 v]},toks:=tk}:=by
 refine wpAny_pyIter_range (IsRange.new ..) (small_one h1 h2 h3 h4) ?_;have I1:Inv X pins σ H {s with heap:=s.heap.push {cls:=.type "range",data:=.fields #[.int lo t,.int hi u,.int 1 v]},toks:=tk}:=I.kept λb o e=>aW _ e
 refine⟨(s.heap.push {cls:=.type "range",data:=.fields #[.int lo t,.int hi u,.int 1 v]}).objs.size,[(s.heap.push {cls:=.type "range",data:=.fields #[.int lo t,.int hi u,.int 1 v]}).objs.size],_,_,H,rfl,
  I1.kept (t':=tk) λb o e=>aW _ e,Iz _ lo (hi-lo).toNat,?_,λb hb=>?_,q⟩
 .have e1:lo+((0:Nat):Int)*1=lo:=by simp
  have e2:(((hi-lo).toNat:Nat):Int)-((0:Nat):Int)=Builtin.Range.rangeSize lo hi 1:=by rw[rangeSize_one];split<;>lia
  show IsRangeIter _ _ (lo+((0:Nat):Int)*1) ((((hi-lo).toNat:Nat):Int)-((0:Nat):Int)) 1;rw[e1,e2];exact cj _ rfl
 .have e:b=(s.heap.push {cls:=.type "range",data:=.fields #[.int lo t,.int hi u,.int 1 v]}).objs.size:=by simpa using hb
  subst e;exact I1.MR (bb _) (I1.c8.fresh (bb _))
noncomputable def sr(fp:List Addr)(h:Heap):@A:=fp.filterMap λb=>(h.get? b).map λo=>(b,o)
theorem qr(hb:b∈fp)(e:h.get? b=@j):(b,o)∈sr fp h:=List.mem_filterMap.mpr ⟨b,hb,by rw[e];rfl⟩
theorem Mh(hp:p∈sr fp h):p.1∈fp/\h.get? p.1=some p.2:=by
 obtain⟨b,hb,e⟩:=List.mem_filterMap.mp hp;cases q:h.get? b with
 |none=>rw[q] at e;cases e
 |some o=>
  rw[q] at e;have e':(b,o)=p:=bV e;subst e';exact⟨hb,q⟩
theorem Inv.pinned(I:@o)(hf:∀b∈fp,pU X pins H b)(ho:∀b∈fp,∃o,@Z=@j/\∀v,o.data≠.cell v):Inv X (pins++sr fp s.heap) σ H s :=
 I.Ki λp hp=>(List.mem_append.mp hp).elim (λz=>I.pin p (b4 _ z)) λz=>by
  obtain⟨hb,e⟩:=Mh z;obtain⟨f0,f1,f2,_⟩:=hf p.1 hb;obtain⟨o,e',d⟩:=ho p.1 hb;rw[e] at e';cases e';exact⟨e,f0,f1,f2,d⟩
theorem Inv.vV(I:Inv X (pins++pl) σ H s):@o:=I.Ki λp hp=>I.pin p (b4 _ (ee _ hp))
end
abbrev R2:=V->V->Hp->VK->Prop
def M9(X:Cx)(f:Value->Value->Sem Value)(r:R2):Prop :=
 ∀(pins:@A) (s:aL) (σ:St) (H:Hp) (x y:V) (v u:Value) (Q:VK),@o->RelV x v->RelV y u->r x y H Q ->
  wpAny @r X.A (f v u) (EP X pins σ Q) X.xe s
def UnR(X:Cx)(f:Value->Sem Value)(r:V->Hp->VK->Prop):Prop :=
 ∀(pins:@A) (s:aL) (σ:St) (H:Hp) (x:V) (v:Value) (Q:VK),@o->RelV x v->r x H Q ->
  wpAny @r X.A (f v) (EP X pins σ Q) X.xe s
def UB(X:Cx)(f:Value)(r:List V->Hp->VK->Prop):Prop :=
 ∀(pins:@A) (s:aL) (σ:St) (H:Hp) (xs:List V) (us:@D) (Q:VK),@o->Vals xs us->r xs H Q ->
  wpAny @r X.A (call f us) (EP X pins σ Q) X.xe s
def acn(X:Cx)(r:V->Hp->(Bool->Hp->Prop)->Prop):Prop :=
 ∀(pins:@A) (s:aL) (σ:St) (H:Hp) (x:V) (v:Value) (Q:Bool->Hp->Prop),@o->RelV x v->r x H Q ->
  wpAny @r X.A (truthy v) (TP X pins σ Q) X.xe s
def rI(C:Int->Int->Prop)(g:Int->Int->V):R2:=λx y H Q=>∃i j,x=.int i/\y=.int j/\C i j/\Q (g i j) H
def Xd(g:Int->Int->V):R2:=λx y H Q=>∃i j,x=.int i/\y=.int j/\Q (g i j) H
def rU(g:Int->V):V->Hp->VK->Prop:=λx H Q=>∃i,x=.int i/\Q (g i) H
section
variable {X:Cx} {a b c:Expr} {ta tb tc:TE} {pos:Pos}
theorem opI{f:Value->Value->Sem Value}{C:Int->Int->Prop}{g:Int->Int->Int}
  (rule:∀(i j:Int) (t u:Tok) (s:aL) (Q:@M) (E:@M),C i j->Q (.int (g i j) s.toks) {s with toks:=s.toks+1}->wpAny @r X.A (f (.int i t) (.int j u)) Q E s):
  M9 X f (rI C λi j=>.int (g i j)):=by
 intro pins s σ H x y v u Q I rx ry h;obtain⟨i,j,rfl,rfl,hc,q⟩:=h;obtain⟨t,rfl⟩:=rx;obtain⟨t',rfl⟩:=ry;exact rule i j t t' s _ _ hc ⟨.int (g i j),H,I.tok _,⟨_,rfl⟩,q⟩
theorem Yg{f:Value->Value->Sem Value}{g:Int->Int->Int}
  (rule:∀(i j:Int) (t u:Tok) (s:aL) (Q:@M) (E:@M),Q (.int (g i j) s.toks) {s with toks:=s.toks+1}->wpAny @r X.A (f (.int i t) (.int j u)) Q E s):
  M9 X f (Xd λi j=>.int (g i j)):=by
 intro pins s σ H x y v u Q I rx ry h;obtain⟨i,j,rfl,rfl,q⟩:=h;obtain⟨t,rfl⟩:=rx;obtain⟨t',rfl⟩:=ry;exact rule i j t t' s _ _ ⟨.int (g i j),H,I.tok _,⟨_,rfl⟩,q⟩
theorem Yh{f:Value->Value->Sem Value}{g:Int->Int->Bool}
  (rule:∀(i j:Int) (t u:Tok) (s:aL) (Q:@M) (E:@M),Q (.bool (g i j)) s->wpAny @r X.A (f (.int i t) (.int j u)) Q E s):
  M9 X f (Xd λi j=>.bl (g i j)):=by
 intro pins s σ H x y v u Q I rx ry h;obtain⟨i,j,rfl,rfl,q⟩:=h;obtain⟨t,rfl⟩:=rx;obtain⟨t',rfl⟩:=ry;exact rule i j t t' s _ _ ⟨.bl (g i j),H,I,rfl,q⟩
def acC(i j:Int):Prop:=0<j/\j<1073741824
def W4(i j:Int):Prop:=(-(2 ^ 64)<i/\i<2 ^ 64)\/(-(2 ^ 64)<j/\j<2 ^ 64)
theorem W4.ok(h:W4 i j):IntMulOk i j:=by
 rcases h with ⟨h1,h2⟩ |⟨h1,h2⟩
 .exact .of_left (intBits_le_64 h1 h2)
 .exact .of_right (intBits_le_64 h1 h2)
theorem Vx:M9 X (kR .Add) (Xd λi j=>.int (i+j)):=Yg λ_ _ _ _ _ _ _ q=>add_int q
theorem Vt:M9 X (kR .Sub) (Xd λi j=>.int (i-j)):=Yg λ_ _ _ _ _ _ _ q=>sub_int q
theorem Vu:M9 X (kR .Mult) (rI W4 λi j=>.int (i*j)):=opI λ_ _ _ _ _ _ _ hc q=>mul_int q hc.ok
theorem Sg:M9 X (kR .FloorDiv) (rI acC λi j=>.int (i / j)):=opI λi j _ _ _ _ _ hc q=>by
 have h1:(0:Int)<j:=hc.1;have h2:j<1073741824:=hc.2;exact floordiv_int (@e) (by rw[Int.fdiv_eq_ediv_of_nonneg i (@e)];exact q) (.inl (PyProof.noPylong_small (@e)))
theorem Vv:M9 X (kR .Mod) (rI (λ_ j=>0<j) λi j=>.int (i % j)):=opI λi j _ _ _ _ _ hc q=>by
 have h1:(0:Int)<j:=hc;exact mod_int' (@e) (by rw[Int.fmod_eq_emod_of_nonneg i (@e)];exact q)
theorem unI{f:Value->Sem Value}{g:Int->Int}
  (rule:∀(i:Int) (t:Tok) (s:aL) (Q:@M) (E:@M),Q (.int (g i) s.toks) {s with toks:=s.toks+1}->wpAny @r X.A (f (.int i t)) Q E s):
  UnR X f (rU λi=>.int (g i)):=by
 intro pins s σ H x v Q I rx h;obtain⟨i,rfl,q⟩:=h;obtain⟨t,rfl⟩:=rx;exact rule i t s _ _ ⟨.int (g i),H,I.tok _,⟨_,rfl⟩,q⟩
theorem UK:UnR X (unaryOp .USub) (rU λi=>.int (-i)):=unI λ_ _ _ _ _ q=>neg_int q
end
section
variable {X:Cx} {a b c:Expr} {ta tb tc:TE} {pos:Pos}
theorem Yd:M9 X (eZ .Lt) (Xd λi j=>.bl (decide (i<j))):=Yh λ_ _ _ _ _ _ _ q=>lt_int q
theorem Ye:M9 X (eZ .Gt) (Xd λi j=>.bl (decide (j<i))):=Yh λ_ _ _ _ _ _ _ q=>gt_int q
theorem IY(b)(h:autoParam (op≠.In) Ad._auto_1)(h2:autoParam (op≠.NotIn) Ad._auto_1):behindInMarks op b=false:=by
 have e1:(op == CmpOp.In)=false:=by cases op<;>first |rfl |exact absurd rfl h
 have e2:(op == CmpOp.NotIn)=false:=by cases op<;>first |rfl |exact absurd rfl h2
 cases b with
 |Set es k _=>
  show(k == 0&&(op == .In||op == .NotIn)&&es.all (constantsAlone 8))=false;rw[e1,e2,Bool.or_false,J3,zI]
 |_=>rfl
def WS(K:aB)(x:V)(H:Hp)(k:Bool):Prop :=
 match x with
 |.ff=>k=false
 |.bl b=>k=b
 |.int i=>k=(i != 0)
 |.str y=>y.length<=bB/\k=((y.length:Int) != 0)
 |.Ud y=>y.size<=bB/\k=((y.size:Int) != 0)
 |.ref p=>(∃xs,qE K H p xs/\k=!xs.isEmpty)\/(∃xs,B2 K H p xs/\k=!xs.isEmpty)\/∃bx,H p=some (.dK bx)/\k=!bx.isEmpty
 |_=>False
theorem Jn(r:KV bx vs):(!vs.isEmpty)=!bx.isEmpty:=by
 cases r<;>rfl
theorem Bu(r:Vals xs b9):(!b9.toArray.isEmpty)=!xs.isEmpty:=by
 cases r<;>simp
theorem Bl:(bB:Nat)<2 ^ 63:=by rw[cX];decide
theorem UN:acn X (λx H Q=>∃k,WS X.K x H k/\Q k H):=by
 intro pins s σ H x v Q I rx h;obtain⟨k,e,q⟩:=h;have hl:=Bl;have hs:bB=16777216:=cX;cases x with
 |ff=>
  cases rx;have e':k=false:=e;subst e';exact truthy_none ⟨H,I,q⟩
 |bl b=>
  cases rx;have e':k=b:=e;subst e';exact Ig ⟨H,I,q⟩
 |int i=>
  obtain⟨t,rfl⟩:=rx;have e':k=(i != 0):=e;subst e';exact PySem.P.truthy_int ⟨H,I,q⟩
 |str y=>
  obtain⟨t,rfl⟩:=rx;obtain⟨hy,e'⟩:y.length<=bB/\k=((y.length:Int) != 0):=e;subst e';exact PySem.P.truthy_str (@e) ⟨H,I.tok _,q⟩
 |Ud y=>
  obtain⟨t,rfl⟩:=rx;obtain⟨hy,e'⟩:y.size<=bB/\k=((y.size:Int) != 0):=e;subst e';exact PySem.W.truthy_bytes (@e) ⟨H,I.tok _,q⟩
 |ref p=>
  cases rx;have e':(∃xs,qE X.K H p xs/\k=!xs.isEmpty)\/(∃xs,B2 X.K H p xs/\k=!xs.isEmpty)\/∃bx,H p=some (.dK bx)/\k=!bx.isEmpty:=e;rcases e' with ⟨xs,hx,e'⟩ |⟨xs,hx,e'⟩ |⟨bx,hx,e'⟩
  .subst e';obtain⟨b9,r,pl,hz⟩:=I.list hx;have hlen:=r.length;exact wpAny_truthy_list pl.isList (by simp only[aZ];lia) ⟨H,I.tok _,by rw[Bu r];exact q⟩
  .subst e';obtain⟨b9,r,pl,hz⟩:=I.tuple hx;have hlen:=r.length;exact truthy_tuple pl (by simp only[aZ];lia) ⟨H,I.tok _,by rw[Bu r];exact q⟩
  .subst e';obtain⟨hz,hS,vs,r,m⟩:bx.length<=bB/\(p == jA)=false/\∃vs,KV bx vs/\s.heap.DictOf (fU X.prog X.w) p vs:=I.c8 p _ hx;have hlen:bx.length=vs.length:=z9 r;exact Ie hS m (@e) ⟨H,I.tok _,by rw[Jn r];exact q⟩
 |_=>exact(show False from e).elim
theorem IW:M9 X (kR .Add) (λx y H Q=>∃i j,x=.str i/\y=.str j/\i.length+j.length<=bB/\Q (.str (i++j)) H):=by
 intro pins s σ H x y v u Q I rx ry h;obtain⟨i,j,rfl,rfl,hz,q⟩:=h;obtain⟨t,rfl⟩:=rx;obtain⟨t',rfl⟩:=ry;exact add_str (λt' tk=>⟨.str (i++j),H,I.tok _,⟨_,rfl⟩,q⟩) hz
theorem vals1(r:Vals [x] us):∃u,us=[u]/\RelV x u:=by
 cases r with
 |cons r1 r2=>cases r2;exact⟨_,rfl,r1⟩
theorem vals2(r:Vals [x,y] us):∃u w',us=[u,w']/\RelV x u/\RelV y w':=by
 cases r with
 |cons r1 r2=>
  cases r2 with
  |cons r3 r4=>cases r4;exact⟨_,_,rfl,r1,r3⟩
def Zs(K:aB)(x:V)(H:Hp)(n:Nat):Prop :=
 match x with
 |.str y=>y.length<=bB/\n=y.length
 |.Ud y=>y.size<=bB/\n=y.size
 |.ref p=>(∃xs,qE K H p xs/\n=xs.length)\/∃xs,B2 K H p xs/\n=xs.length
 |_=>False
theorem Qk:UB X (.builtin "len") (λxs H Q=>∃x n,xs=[x]/\Zs X.K x H n/\Q (.int n) H):=by
 intro pins s σ H xs us Q I r h;obtain⟨x,n,rfl,e,q⟩:=h;obtain⟨u,rfl,rx⟩:=vals1 r;have hl:=Bl;have hs:bB=16777216:=cX;cases x with
 |str y=>
  obtain⟨t,rfl⟩:=rx;obtain⟨hy,e'⟩:y.length<=bB/\n=y.length:=e;subst e';exact len_str (@e) ⟨.int _,H,I.tok _,⟨_,rfl⟩,q⟩
 |Ud y=>
  obtain⟨t,rfl⟩:=rx;obtain⟨hy,e'⟩:y.size<=bB/\n=y.size:=e;subst e';exact PySem.W.len_bytes (@e) ⟨.int _,H,I.tok _,⟨_,rfl⟩,q⟩
 |ref p=>
  cases rx;have e':(∃xs,qE X.K H p xs/\n=xs.length)\/∃xs,B2 X.K H p xs/\n=xs.length:=e;rcases e' with ⟨xs,hx,e'⟩ |⟨xs,hx,e'⟩
  .subst e';obtain⟨b9,r',pl,hz⟩:=I.list hx;have hlen:=r'.length;exact Calls.call_len_list pl.isList (by simp only[aZ];lia) ⟨.int xs.length,H,I.tok _,⟨_,by simp only[aZ];rw[hlen]⟩,q⟩
  .subst e';obtain⟨b9,r',pl,hz⟩:=I.tuple hx;have hlen:=r'.length;exact len_tuple pl (by simp only[aZ];lia) ⟨.int xs.length,H,I.tok _,⟨_,by simp only[aZ];rw[hlen]⟩,q⟩
 |_=>exact(show False from e).elim
end
structure JI(h:Heap)(x dx C:Addr)(mA:@aa):Prop where
 obj:h.get? x=some (hZ C dx)
 ns:h.Ns1 dx mA
 ne:dx≠x
theorem Mx{h:Heap}(n:h.Ns1 dx mA):∃od,h.get? dx=some od/\∀name,xU name od=some (mA name):=by
 obtain⟨o,es,ep,ho,hd,hk,_,hm⟩:=n;refine⟨o,ho,λname=>?_⟩;have e:=hm name;unfold nsFind findBy at e;rw[<-Array.find?_toList] at e;unfold xU;rw[hd];dsimp only;split
 .rename_i y q;rw[q] at e;exact congrArg some e
 .rename_i q;rw[q] at e;have a:es.toList.any (·.refKey)=false:=by
   rw[List.any_eq_false];intro y hy;obtain⟨z,t,abB⟩:=hk y (Array.mem_toList_iff.mp hy);simp[DictEntry.refKey,abB]
  have a':¬ es.toList.any (·.refKey)=true:=by rw[a];exact hU
  rw[if_neg a'];exact congrArg some e
theorem JI.look(I:JI h x dx C mA):∃od,PySem.W.InstAt h x (hZ C dx) C (some od)/\∀name,xU name od=some (mA name) :=
 let ⟨od,ho,hl⟩:=Mx I.ns
 ⟨od,⟨I.obj,rfl,rfl,ho⟩,hl⟩
section
variable {prog:bY} {w:World} {A:eI} {E:@M} {s:aL} {K:aB} {x dx C f:Addr} {mA:@aa} {name:Str} {v:Value}
theorem get_map{expr:Bool}{Q:@M}(X:K.In s.heap)(I:JI s.heap x dx C mA)(hg:tx K C name=true)(hh:AN K C=true)
  (ha:gL K @z name=some none) (hv:mA name=some v) (V2:PySem.W.handedIn v=true) (h:Q v {s with toks:=s.toks+1}):
  wpAny @T A (getAttr (.ref x) name expr) Q E s:=by
 obtain⟨od,J,hl⟩:=I.look;exact PySem.W.get_value X J (yf hg).1 (PySem.W.findObj_own hh ha rfl (by rw[hl,hv])) V2 h
theorem PS{pl:Sem Bool}{Q:Value×@D->aL->Prop}(X:K.In s.heap)(I:JI s.heap x dx C mA)(hg:tx K C name=true)
  (hf:gL K @z name=some (some (.ref f))) (ht:Lq K (.ref f)=true) (hv:mA name=none) (h:Q (.ref f,[.ref x]) s):
  wpAny @T A (FR (.ref x) name pl) Q E s:=by
 obtain⟨od,J,hl⟩:=I.look;exact PySem.W.method_fn X J (yf hg).1 (yf hg).2 hf (beq_iff_eq.mp ht) (by show(xU name od).map (·.isSome)=some false;rw[hl,hv];rfl) h
theorem Rp{ns:@n}{Q:Unit->aL->Prop}(X:K.In s.heap)(I:JI s.heap x dx C mA)
  (hs:gL K @z "__setattr__"=some (some (.builtin "object.__setattr__"))) (hp:QU K C=true) (ht:D8 K C name=some none) (hh:AN K C=true)
  (hw:NC mA ns) (hsz:ns.length<=bB)
  (h:∀h',JI h' x dx C (λy=>if y=name then some v else mA y)->Ec dx s.heap h'->Q () {s with heap:=h',toks:=s.toks+2}):
  wpAny @T A (setAttr (.ref x) name v) Q E s:=by
 obtain⟨od,J,hl⟩:=I.look;refine PySem.W.set_plain X J hs (PySem.W.osa_open (s:={s with toks:=s.toks+1}) (r:=none) X J hp ht λb=>?_);obtain⟨cd,hc,PI⟩:=PySem.W.any_some hh;have hx:s.heap.get? x=some ⟨.ref C,some dx,.plain,#[]⟩:=I.obj;refine aR (bI (aR (aR (wpAny_loadPart hx (aR (PySem.W.Looks.here (s:={s with toks:=s.toks+1}) (PySem.W.looks_clsIn X hc) ?_))))));rw[PI];refine bI (a:=some dx) (aR (bI (aR ?_)));refine wpAny_nsSet1 (s:={s with toks:=s.toks+1}) I.ns λh' ZV HZ=>?_;obtain⟨oD,esD,epD,hoD,PH,SK⟩:=ZV.count (PySem.Within.cons name v hw);refine aR (wpAny_lookBehind hoD (by rw[PH];exact pastItsLine_dict (cY SK (by rw[ai];lia))) ?_);exact bI (h _ ⟨(HZ.2 _ (dA I.ne)).trans I.obj,ZV,I.ne⟩ HZ)
theorem O5(X:K.In s.heap)(hm:PySem.W.makesIn K C=true)
  (hi:gL K @z "__init__"=some (some (.ref f))) (hf:PySem.W.typeIn K (.ref f)=some (.type "function"))
  (h:u3 @T (A.under (.builtin "type.__call__" ⟨.ref C::vs,kw⟩)) (.call (.ref f) ⟨.ref (@ai)::vs,kw⟩) (PySem.W.InitBack (@ai) R)
   {s with heap:=(s.heap.push e7).push (hZ C s.heap.objs.size)}):
  u3 @T A (.call @z ⟨vs,kw⟩) R s:=by
 obtain⟨hh,g,d,t,os⟩:=s;exact PySem.W.make_core (PySem.W.makes_of X hm) (PySem.W.looks_findIn X hi) (λself=>PySem.W.bind_fn X self hf) (@E) h
end
noncomputable def nN(f:Str)(v:V):List (Str×V)->List (Str×V)
 |[]=>[(f,v)]
 |(g,x)::r=>if g=f then(g,v)::r else(g,x)::nN f v r
theorem zg(f g)(v):∀fs:List (Str×V),(nN f v fs).lookup g=if g=f then some v else fs.lookup g
 |[]=>by
  show pW g [(f,v)]=_;by_cases h:g=f
  .have hb:(g == f)=true:=beq_iff_eq.mpr h;simp only[pW,hb,if_pos h]
  .have hb:(g == f)=false:=beq_eq_false_iff_ne.mpr h;simp only[pW,hb,if_neg h]
 | (k,x)::r=>by
  have ih:=zg f g v r;rw[show nN f v ((k,x)::r)=(if k=f then(k,v)::r else(k,x)::nN f v r) from rfl];by_cases hk:k=f
  .rw[if_pos hk];by_cases h:g=k
   .have hb:(g == k)=true:=beq_iff_eq.mpr h;simp only[pW,hb,if_pos (h.trans hk)]
   .have hb:(g == k)=false:=beq_eq_false_iff_ne.mpr h;simp only[pW,hb,if_neg (λe:g=f=>h (e.trans hk.symm))]
  .rw[if_neg hk];by_cases h:g=k
   .have hb:(g == k)=true:=beq_iff_eq.mpr h;simp only[pW,hb,if_neg (λe:g=f=>hk (h.symm.trans e))]
   .have hb:(g == k)=false:=beq_eq_false_iff_ne.mpr h;simp only[pW,hb];exact ih
theorem yz(f)(v):∀fs:List (Str×V),f∈(nN f v fs).map (·.1)/\∀g,g∈fs.map (·.1)->g∈(nN f v fs).map (·.1)
 |[]=>⟨by simp[nN],λg h=>by simp at h⟩
 | (k,x)::r=>by
  obtain⟨i1,i2⟩:=yz f v r;rw[show nN f v ((k,x)::r)=(if k=f then(k,v)::r else(k,x)::nN f v r) from rfl];by_cases hk:k=f
  .rw[if_pos hk];subst hk;exact⟨by simp,λg h=>by simpa using h⟩
  .rw[if_neg hk];refine⟨?_,λg h=>?_⟩
   .rw[av];exact aP _ i1
   .rw[av] at h ⊢;rcases List.mem_cons.mp h with e |e
    .exact List.mem_cons.mpr (.inl e)
    .exact aP _ (i2 g e)
theorem zi(f)(v):∀fs:List (Str×V),(nN f v fs).length<=fs.length+1
 |[]=>by simp[nN]
 |(k,x)::r=>by
  have ih:=zi f v r;rw[show nN f v ((k,x)::r)=(if k=f then(k,v)::r else(k,x)::nN f v r) from rfl];by_cases hk:k=f
  .rw[if_pos hk,ai,ai];lia
  .rw[if_neg hk,ai,ai];lia
theorem rf.some_of(r:rf (some v) o):∃u,o=some u/\RelV v u:=by
 cases o with
 |none=>exact(show False from r).elim
 |some u=>exact⟨u,rfl,r⟩
theorem rf.none_of(r:rf none o):o=none:=by
 cases o with
 |none=>rfl
 |some u=>exact(show False from r).elim
theorem MN(r:RelV v u):PySem.W.handedIn u=true:=by
 cases v with
 |ff=>cases(show u=JT from r);rfl
 |bl b=>cases(show u=xT b from r);rfl
 |int i=>obtain⟨t,e⟩:=(show ∃t,u=FT i t from r);cases e;rfl
 |str x=>obtain⟨t,e⟩:=(show ∃t,u=NB x t from r);cases e;rfl
 |Ud b=>obtain⟨t,e⟩:=(show ∃t,u=Value.bytes b t from r);cases e;rfl
 |i6 b=>obtain⟨t,e⟩:=(show ∃t,u=Value.float b t from r);cases e;rfl
 |ref a=>cases(show u=fN a from r);rfl
 |ty n=>cases(show u=Value.type n from r);rfl
section
variable {P:bY} {w:World} {H H':Hp} {h h':Heap} {a C dx:Addr} {fs fs':List (Str×V)}
theorem EL(c8:oQ P w H h)(e:H a=some (.ins C dx fs)):∃mA,JI h a dx C mA/\(∀f,rf (fs.lookup f) (mA f))/\NC mA (fs.map (·.1))/\fs.length<=1000/\H dx=some (.own a):=by
 obtain⟨d,z,ne,ob,mA,n,r,q⟩:=(show fJ P w H h a (.ins C dx fs) from c8 a _ e);exact⟨mA,⟨ob,n,ne⟩,r,q,z,d⟩
end
structure Uz(K:aB)(C:Addr):Prop where
 pg:tx K C Str.empty=true
 hd:AN K C=true
 po:QU K C=true
 sa:gL K @z "__setattr__"=some (some (.builtin "object.__setattr__"))
theorem Uz.get{K:aB}(c:Uz K C)(f):tx K C f=true:=c.pg
def Ce(K:aB)(C:Addr)(f:Str):Prop:=gL K @z f=some none
theorem Ce.XM{K:aB}(n:Ce K C f):D8 K C f=some none:=by
 unfold D8;rw[show gL K @z f=some none from n];rfl
structure Meth(K:aB)(C:Addr)(m:Str)(f:Addr):Prop where
 at_:gL K @z m=some (some (.ref f))
 fn:Lq K (.ref f)=true
 kp:iN K (.ref f)=true
section
variable {X:Cx} {pins:@A} {σ:St} {H:Hp} {s:aL} {a C dx:Addr} {fs:List (Str×V)} {f:Str} {v:V} {A:eI} {E:@M}
theorem Js(I:@o)(e:H a=some (.ins C dx fs))(c:Uz X.K C)(n:Ce X.K C f)(l:fs.lookup f=some v)
  (h:∀u s',Inv X pins σ H s'->RelV v u->Q u s'):wpAny @r A (getAttr (@m) f b) Q E s:=by
 obtain⟨mA,O,r,_,_,_⟩:=EL I.c8 e;obtain⟨u,hu,ru⟩:=rf.some_of (v:=v) (o:=mA f) (by rw[<-l];exact r f);exact get_map I.sD O (c.get f) c.hd n hu (MN ru) (h u _ (I.tok _) ru)
theorem vA{m:Str}{g:Addr}{pl:Sem Bool}{Q:Value×@D->aL->Prop}(I:@o)(e:H a=some (.ins C dx fs))(c:Uz X.K C)(k:Meth X.K C m g)(l:fs.lookup m=none)
  (h:Q (.ref g,[@m]) s):wpAny @r A (FR (@m) m pl) Q E s:=by
 obtain⟨mA,O,r,_,_,_⟩:=EL I.c8 e;have hn:mA m=none:=rf.none_of (by rw[<-l];exact r m);exact PS I.sD O (c.get m) k.at_ k.fn hn h
theorem IE{y:V}{u:Value}{Q:Unit->aL->Prop}(I:@o)(e:H a=some (.ins C dx fs))(c:Uz X.K C)(n:Ce X.K C f)(hl:fs.length<1000)(ry:RelV y u)
  (h:∀s',Inv X pins σ (upd H a (.ins C dx (nN f y fs))) s'->Q () s'):wpAny @r A (setAttr (@m) f u) Q E s:=by
 obtain⟨mA,O,r,wi,_,ho⟩:=EL I.c8 e;have hz:(fs.map (·.1)).length<=bB:=by rw[ax,cX];lia
 refine Rp I.sD O c.sa c.po n.XM c.hd wi hz λh' O' sb=>h _ ?_;have hd:∃o,h'.get? dx=@j:=let ⟨o,_,_,e',_⟩:=O'.ns;⟨o,e'⟩
 refine I.write (x:=a) (e:=dx) (by rw[e];exact iB) (.inr ho) (λb q hb z=>(sb.2 b hb).trans z) hd ?_;refine⟨by rw[bP O.ne];exact ho,?_,O.ne,O'.obj,_,O'.ns,λg=>?_,λg hg=>?_⟩
 .have:=zi f y fs;lia
 .show rf ((nN f y fs).lookup g) (if g=f then some u else mA g);rw[zg];by_cases q:g=f
  .rw[if_pos q,if_pos q];exact ry
  .rw[if_neg q,if_neg q];exact r g
 .by_cases q:g=f
  .rw[q];exact(yz f y fs).1
  .refine(yz f y fs).2 g (wi g λz=>hg ?_);show(if g=f then some u else mA g)=none;rw[if_neg q];exact z
theorem Inv.made(I:@o):Inv X pins σ (upd (upd H s.heap.objs.size (.own (@ai))) (@ai) (.ins C s.heap.objs.size []))
  {s with heap:=(s.heap.push e7).push (hZ C s.heap.objs.size)}:=by
 have e1:(s.heap.push e7).get? s.heap.objs.size=some e7:=cj s.heap rfl;have e2:((s.heap.push e7).push (hZ C s.heap.objs.size)).get? (@ai)=some (hZ C s.heap.objs.size):=by
  have:=cj (s.heap.push e7) (o:=hZ C s.heap.objs.size) rfl
  rwa[i8] at this
 have e3:(s.heap.push e7).Ns s.heap.objs.size (λ_=>none):=⟨e7,#[],_,e1,rfl,(λe he=>absurd he @k),λ_=>rfl⟩;have I1:=I.laid (a:=s.heap.objs.size) (o:=.own (@ai)) (h':=s.heap.push e7) (t':=s.toks) (λb u q=>aW _ q) (bb _) ⟨_,e1⟩;refine I1.laid (a:=@ai) (o:=.ins C s.heap.objs.size []) (t':=s.toks) (λb u q=>aW _ q) (Nat.le_of_eq (i8 _ _)) ?_;have ne:s.heap.objs.size≠@ai:=bO (kW _);refine⟨by rw[bP ne,cR],eB _,ne,e2,λ_=>none,(Heap.Ns1.of_empty e3).at λo q=>aW _ q,λ_=>iB,λy hy=>absurd rfl hy⟩
theorem Tf(hb:ye e f env (eval e env)=eval e env)
  (h:wpAny @T A (eval e env) (λo eU=>wpAny @T A (getAttr o f true) Q E eU) E s):wpAny @T A (eval (.Attribute e f pos) env) Q E s :=
 Attribute_any_ h (by rw[arm_eval_Attribute,hb])
end
structure fM(k:Nat)(A:eI):Prop where
 hd:A.handled=none
 dp:A.depth+3*k+5<recursionLimit
 un:A.units+16*k+200<cLine
theorem fM.mono(r:fM k A)(h:j<=k):fM j A:=⟨r.hd,by have:=r.dp;lia,by have:=r.un;lia⟩
theorem fM.deeper(r:fM (k+1) A)(env):fM k (A.deeper env) :=
 ⟨r.hd,by have:=r.dp;show A.depth+1+3*k+5<_;lia,by have:=r.un;show A.units+3+16*k+200<_;lia⟩
theorem Ji {A:eI}   :(A.under (.builtin "type.__call__" ⟨.ref C::us,kw⟩)).depth=A.depth+1:=by
 first |rfl |simp[Np,Code.weight,Code.isCreation,Code.isGuard,Code.isCaller,Code.frames,QF,guardIds]
theorem Jh {A:eI}   :(A.under (.builtin "type.__call__" ⟨.ref C::us,kw⟩)).units=A.units+1:=by
 first |rfl |simp[Np,Code.cUnits,Code.frames,QF]
theorem fM.make   (r:fM (k+1) A) (C) (us) (kw):fM k (A.under (.builtin "type.__call__" ⟨.ref C::us,kw⟩)) :=
 ⟨r.hd,by have:=r.dp;rw[Ji];lia,by have:=r.un;rw[Jh];lia⟩
theorem fM.depth(r:fM k A):A.depth<recursionLimit:=by have:=r.dp;lia
theorem fM.units(r:fM k A):A.units+64<cLine:=by have:=r.un;lia
theorem fM.yj(r:fM k A):A.units<cLine:=by have:=r.un;lia
abbrev Sp:=List V->Hp->VK->XK->Prop
abbrev JQ:=List Env->Hp->aL->XK->@M
structure Fx(P:bY)(w:World)(K:aB)(mg:@aa)(base:Heap)(A:eI)(outer:List Env)(s:aL)(H:Hp):Prop where
 frames:A.frames=some outer
 mod:Mod K mg base
 bs:∀b o,base.get? b=@j->@Z=@j/\H b=none
 M5:base.objs.size<=s.heap.objs.size
 vB:s.heap.FunFrames base outer
 KR:∀b∈tQ outer,H b=none
 c8:oQ P w H s.heap
 bare:AP s.gens
def CE(outer:List Env)(P:bY)(w:World)(H:Hp)(s:aL)(Q:VK)(u:Value)(s':aL):Prop :=
 ∃v H',s'.os=s.os/\AP s'.gens/\Un (tQ outer) [] H H' s.heap s'.heap/\oQ P w H' s'.heap/\RelV v u/\Q v H'
def CR(CX:JQ)(outer:List Env)(P:bY)(w:World)(H:Hp)(s:aL)(Q:VK)(E:XK)(r:Result)(s':aL):Prop :=
 match r with
 |.ok (.ret u)=>CE outer P w H s Q u s'
 |.ok _=>False
 |.error e=>CX outer H s E e s'
structure lu(P:bY)(w:World)(K:aB)(mg:@aa)(base:Heap)(CX:JQ)(k:Nat)(f:Addr)(fd:cG)(ps:@n)(sp:Sp):Prop where
 len:∀vs H Q E,sp vs H Q E->vs.length=ps.length
 run:∀(A:eI) (outer:List Env) (s:aL) (H:Hp) (args:Args) (us:@D) (vs:List V) (Q:VK) (E:XK),fM k A->Fx P w K mg base A outer s H->BindsTo s fd args (ps.zip us)->Vals vs us->sp vs H Q E ->
  u3 (model P w) A (.call (.ref f) args) (CR CX outer P w H s Q E) s
theorem Fx.make{K:aB}(e:Fx P w K mg base A outer s H)(C)(us)(kw):
  Fx P w K mg base (A.under (.builtin "type.__call__" ⟨.ref C::us,kw⟩)) outer s H:=⟨by first |exact e.frames |(simpa[Np,Code.envs,QF,pushEnvs] using e.frames),e.mod,e.bs,e.M5,e.vB,e.KR,e.c8,e.bare⟩
section
variable {X:Cx} {pins:@A} {σ:St} {H:Hp} {s s':aL}
theorem Inv.S4(I:@o):Fx X.prog X.w X.K X.mg X.base X.A X.stack s H :=
 ⟨I.ok.frames,I.ok.mod,I.bs,cY I.ok.M5 I.sz,I.stack,I.Eg,I.c8,I.bare⟩
theorem Inv.after(I:@o)(h:CE X.stack X.prog X.w H s Q u s'):EP X pins σ Q u s':=by
 obtain⟨v,H',os,bare,un,c8,r,q⟩:=h;obtain⟨hh,g,d,t,os'⟩:=s';obtain rfl:os'=s.os:=os;exact⟨v,H',I.call (h':=hh) (g':=g) (d':=d) (t':=t) (ch:=[]) un c8 bare (λb z=>absurd z @k),r,q⟩
end
def Binds(K:aB)(fd:cG)(ps:@n)(ds:@D):Prop :=
 ∀(s:aL) (us:@D),K.In s.heap->(us++ds).length=ps.length->BindsTo s fd ⟨us,[]⟩ (ps.zip (us++ds))
theorem Binds.all{K:aB}(h:∀us:@D,us.length=ps.length->yd fd ⟨us,[]⟩=pure (ps.zip us)):Binds K fd ps []:=λs us _ hl=>by
 rw[bH] at hl ⊢;exact .of_eq (h us hl)
def Passes(CX:JQ)(X:Cx)(E:XK):Prop:=∀(pins:@A) (σ:St) (H:Hp) (s:aL) (e:Value) (s':aL),@o->CX X.stack H s E e s'->X.xe e s'
section
variable {X:Cx} {CX:JQ} {k:Nat} {f C:Addr} {fd:cG} {ps:@n} {sp:Sp} {Ww:List V} {ds:@D} {E:XK} {x m:Str} {p pos apos:Pos} {e o:Expr} {es:List Expr} {ta:TE} {t:TA}
theorem yq(F:lu X.prog X.w X.K X.mg X.base CX k f fd ps sp)(hr:fM k X.A)(hb:Binds X.K fd ps ds)(hd:Vals Ww ds)(hx:Passes CX X E)
  (I:@o) (r:Vals vs us) (h:sp (vs++Ww) H Q E):wpAny @r X.A (call (.ref f) us) (EP X pins σ Q) X.xe s:=by
 have r2:Vals (vs++Ww) (us++ds):=r.append hd;have hl:(us++ds).length=ps.length:=by rw[<-r2.length];exact F.len _ _ _ _ h
 refine Ci (oS (F.run X.A X.stack s H ⟨us,[]⟩ (us++ds) (vs++Ww) Q E hr I.S4 (hb s us I.sD hl) r2 h) λr s' hq=>?_);cases r with
 |error e=>exact hx pins σ H s e s' I hq
 |ok fl=>
  cases fl with
  |ret u=>exact I.after hq
  |next=>exact bE hq
  |brk=>exact bE hq
  |cont=>exact bE hq
structure Mk(K:aB)(C f:Addr):Prop where
 makes:PySem.W.makesIn K C=true
 init:gL K @z "__init__"=some (some (.ref f))
 fn:Lq K (.ref f)=true
 kp:iN K @z=true
theorem Oa{pins:@A}{σ:St}{H:Hp}{s:aL}{Q:VK}{us:@D}{vs:List V}(M:Mk X.K C f)(F:lu X.prog X.w X.K X.mg X.base CX k f fd ps sp)(hr:fM (k+1) X.A)(hb:Binds X.K fd ps ds)(hd:Vals Ww ds)
  (hx:Passes CX X E) (I:@o) (r:Vals vs us)
  (h:∀x dx,H x=none->H dx=none->dx≠x->sp (.ref x::(vs++Ww)) (upd (upd H dx (.own x)) x (.ins C dx [])) (λv H2=>v=.ff/\Q (.ref x) H2) E):
  wpAny @r X.A (call @z us) (EP X pins σ Q) X.xe s:=by
 have hq:=h (@ai) s.heap.objs.size (I.c8.fresh (Nat.le_succ _)) (I.c8.fresh (bb _)) (bO (kW _));have I2:=Inv.made (C:=C) I;have r2:Vals (V.ref (@ai)::(vs++Ww)) (fN (@ai)::(us++ds)):=.cons rfl (r.append hd);have hl:(fN (@ai)::us++ds).length=ps.length:=by
  have e:=r2.length;rw[F.len _ _ _ _ hq] at e;exact e.symm
 refine Ci (O5 (f:=f) I.sD M.makes M.init (beq_iff_eq.mp M.fn) (oS (F.run _ X.stack _ _ ⟨fN (@ai)::us,[]⟩ (fN (@ai)::(us++ds)) _ _ E (hr.make C us [])
  (I2.S4.make C us []) (hb _ (fN (@ai)::us) I2.sD hl) r2 hq) λr s' Cq=>?_))
 cases r with
 |error e=>exact hx pins σ _ _ e s' I2 Cq
 | ok fl=>
  cases fl with
  |ret u=>
   obtain⟨v,H',I3,rv,ev,q3⟩:=I2.after Cq;subst ev;exact⟨rv,⟨V.ref (@ai),H',I3,rfl,q3⟩⟩
  |next=>exact bE Cq
  |brk=>exact bE Cq
  |cont=>exact bE Cq
end
structure ip(N P:@n)(sc:Scope):Prop where
 kind:sc.kind=.function
 co:sc.isCoroutine=false
 gen:sc.isGenerator=false
 nd:N.Nodup
 pre:N.take P.length=P
 par:∀x∈P,sc.names.lookup x=some .local\/sc.names.lookup x=some .cell
 VF:∀y∈sc.names,y.2≠.free
theorem DW{kindOf:Str->Option um}:∀{binds:List (Str×Value)} {m:@aa},(∀v,(x,v)∉binds)->bindL kindOf binds m x=m x
 |[],_,_=>rfl
 | (n,v)::r,m,h=>by
  unfold bindL;rw[DW λw hw=>h w (aP _ hw)];split
  .have:x≠n:=by rintro rfl;exact h v aQ
   simp[this]
  .rfl
theorem DY{kindOf:Str->Option um}:∀{binds:List (Str×Value)} {m:@aa},(∀v,(x,v)∉binds)->bindC kindOf binds m x=m x
 |[],_,_=>rfl
 | (n,v)::r,m,h=>by
  unfold bindC;rw[DY λw hw=>h w (aP _ hw)];split
  .rfl
  .have:x≠n:=by rintro rfl;exact h v aQ
   simp[this]
theorem DX{kindOf:Str->Option um}{x:Str}{v:Value}:∀{P:@n} {vs:@D} {i:Nat} {m:@aa},P.Nodup->P[i]?=some x->vs[i]?=some v->kindOf x=some .local ->
  bindL kindOf (P.zip vs) m x=some v
 |[],_,_,_,_,h,_,_=>by simp at h
 |_::_,[],_,_,_,_,h,_=>by simp at h
 |p::P,w::vs,0,m,nd,h1,h2,hk=>by
  simp at h1 h2;subst h1;subst h2;show bindL kindOf ((p,w)::P.zip vs) m p=_;unfold bindL;rw[DW λv hv=>(List.nodup_cons.mp nd).1 (HM hv).1,if_pos hk];simp
 |p::P,w::vs,i+1,m,nd,h1,h2,hk=>by
  show bindL kindOf ((p,w)::P.zip vs) m x=_;unfold bindL;exact DX (i:=i) (List.nodup_cons.mp nd).2 (by simpa using h1) (by simpa using h2) hk
theorem DZ{kindOf:Str->Option um}{x:Str}{v:Value}:∀{P:@n} {vs:@D} {i:Nat} {m:@aa},P.Nodup->P[i]?=some x->vs[i]?=some v->kindOf x≠some .local ->
  bindC kindOf (P.zip vs) m x=some v
 |[],_,_,_,_,h,_,_=>by simp at h
 |_::_,[],_,_,_,_,h,_=>by simp at h
 |p::P,w::vs,0,m,nd,h1,h2,hk=>by
  simp at h1 h2;subst h1;subst h2;show bindC kindOf ((p,w)::P.zip vs) m p=_;unfold bindC;rw[DY λv hv=>(List.nodup_cons.mp nd).1 (HM hv).1,if_neg hk];simp
 |p::P,w::vs,i+1,m,nd,h1,h2,hk=>by
  show bindC kindOf ((p,w)::P.zip vs) m x=_;unfold bindC;exact DZ (i:=i) (List.nodup_cons.mp nd).2 (by simpa using h1) (by simpa using h2) hk
noncomputable def start(N:@n)(vs:List V):St:=vs.map some++aN (N.length-vs.length) none
noncomputable def vE(CX:JQ)(P:bY)(w:World)(K:aB)(mg:@aa)(base:Heap)(N:@n)(qual:Str)(scope:Scope)(f:Addr)(cd:Value)(A:eI)(outer:List Env)(s:aL)(H:Hp)(E:XK):Cx where
 prog:=P
 w:=w
 K:=K
 mg:=mg
 base:=base
 A:=A.deeper (AJ qual scope s.heap.objs.size f cd)
 N:=N
 iR:=s
 Nd:=H
 env:=AJ qual scope s.heap.objs.size f cd
 outer:=outer
 stack:=AJ qual scope s.heap.objs.size f cd::outer
 ex:=[]
 calm:=true
 fn:=λ_=>true
 pn:=[]
 xe:=λe s'=>wpAny (model P w) (A.deeper (AJ qual scope s.heap.objs.size f cd)) (leaving (AJ qual scope s.heap.objs.size f cd) e) (λ_ s''=>CX outer H s E e s'') (λe' s''=>CX outer H s E e' s'') s'
theorem Hm{sc:Scope}(h:sc.names.lookup x=some .cell):∃c,(cellsFrom n sc.names []).lookup x=some c:=by
 have q:=JV sc.names n [] (.inl h);exact Option.isSome_iff_exists.mp q
theorem MG{K:aB}
  (S:ip N ps scope) (hd:A.handled=none) (e0:Fx P w K mg base A outer s H) (hl:vs.length=ps.length) (r:Vals vs us)
  (x:InCallC s s.heap.objs.size (bindL (AJ qual scope s.heap.objs.size f cd).kindOf (ps.zip us) λ_=>none) (cellsFrom (@ai) scope.names []) (bindC (AJ qual scope s.heap.objs.size f cd).kindOf (ps.zip us) λ_=>none) s1):
  Inv (vE CX P w K mg base N qual scope f cd A outer s H E) [] (start N vs) H s1:=by
 have fX:ps.length<=N.length:=by have:=congrArg cU S.pre;rw[cz] at this;lia
 obtain⟨h1,tk,rfl,hk⟩:=x.done;have Ym:∀b:Addr,b∉(vE CX P w K mg base N qual scope f cd A outer s H E).ex:=λb z=>absurd (show b∈([]:List Addr) from z) @k;refine⟨⟨e0.mod,S.kind,rfl,rfl,bb _,λy z c h1 h2=>?_,λy hy=>?_,λy c _ h=>?_,λ_=>hd,Around.frames_deeper e0.frames,.inr @R,λb z=>absurd z (Ym b),e0.bs,e0.M5,λb _ _=>Ym b,λb z=>absurd z (Ym b),e0.vB,e0.KR⟩,
  rfl,e0.bare,Un.kept hk,⟨_,x.toInCall.ns,λi y v h1 h2 h3=>?_⟩,λy c h=>⟨_,x.cell y c h⟩,e0.c8.fresh (bb _),λy c h=>?_,λp hp=>absurd (show p∈([]:@A) from hp) @k,e0.c8.kept hk,?_⟩
 .exact name_of_addr x.apart (iI h1) (iI h2)
 .have hy:scope.names.lookup y=some .cell\/scope.names.lookup y=some .free:=hy;rcases hy with hy |hy
  .exact Hm hy
  .exact absurd rfl (S.VF _ (iI hy))
 .exact QZ (x.above y c (iI h))
 .have hi:i<vs.length:=by
   unfold start at h2;by_cases hi:i<vs.length
   .exact hi
   .rw[bL (by simpa using hi)] at h2;rw[lR] at h2;split at h2<;>cases h2
  have ha:vs[i]?=some v:=by
   unfold start at h2;rw[cm (by simpa using hi),dB] at h2;cases e:vs[i]? with
   |none=>rw[e] at h2;cases h2
   |some a=>rw[e] at h2;cases h2;rfl
  obtain⟨u,hu,rv⟩:=r.get ha;have hp:ps[i]?=some y:=by
   rw[<-S.pre,List.getElem?_take_of_lt (@e)];exact h1
  have ndP:ps.Nodup:=by rw[<-S.pre];exact S.nd.sublist (List.take_sublist _ _)
  refine⟨u,rv,?_⟩;rcases S.par y (eS hp) with k |k
  .exact .inl ⟨k,DX ndP hp hu k⟩
  .obtain⟨c,e⟩:=Hm (n:=@ai) k;refine .inr ⟨.inl k,c,e,?_⟩;have q:=x.cell y c e;rw[DZ ndP hp hu (by show scope.names.lookup y≠_;rw[k];decide)] at q;exact q
 .exact e0.c8.fresh (QZ (x.above y c (iI h)))
 .unfold start;show _=N.length;rw[aM,ax,fC];lia
theorem T9{K:aB}{kV:Value}
     (lk:K.lookup f=some ⟨oc,od,.func (jh name qual params body scope dV kV doc pm an fT ct),HX⟩) (KJ:FU K fT qual=true) (S:ip N ps scope)
  (len:∀vs H Q E,sp vs H Q E->vs.length=ps.length)
  (PL:∀(A:eI) (outer:List Env) (s:aL) (H:Hp) (vs:List V) (Q:VK) (E:XK),fM k (A.deeper (AJ qual scope s.heap.objs.size f fT))->sp vs H Q E ->
   ∃t,XA (vE CX P w K mg base N qual scope f fT A outer s H E) body t/\t {nx:=λ_ H'=>Q .ff H',rt:=Q} (start N vs) H):
  lu P w K mg base CX (k+1) f (jh name qual params body scope dV kV doc pm an fT ct) ps sp:=by
 refine⟨len,λA outer s H args us vs Q E hr e0 hb r EN=>?_⟩;have hl:=len _ _ _ _ EN;have KX:K.In s.heap:=e0.mod.MD.keeps λb o e=>(e0.bs b o e).1;have lim:s.heap.NoLimit:=e0.mod.nolimit.keeps λb o e=>(e0.bs b o e).1;have DG:∀y∈ps.zip us,scope.names.lookup y.1=some .local\/(scope.names.lookup y.1=some .cell/\((cellsFrom (@ai) scope.names []).lookup y.1).isSome=true):=λ⟨n,v⟩ hy=>by
  rcases S.par n (HM hy).1 with q |q
  .exact .inl q
  .exact .inr ⟨q,JV _ _ _ (.inl q)⟩
 refine codeAny_call_function hr.depth (KX _ _ lk) rfl S.co S.gen rfl (PySem.W.codeRec_of KX KJ) (hb _ _ _ _ ?_);refine wpAny_newFunctionEnv_cells S.kind DG λenv he s1 x=>?_;subst he;refine⟨lim.keeps x.toInCall.keep,codeAny_func ?_⟩;obtain⟨t,ht,hq⟩:=PL A outer s H vs Q E (hr.deeper _) EN;have I:Inv (vE CX P w K mg base N qual scope f fT A outer s H E) [] (start N vs) H s1:=MG S hr.hd e0 hl r x;refine iq (ht [] s1 (start N vs) H _ I hq) (λfl s' hs=>?_) λe s' hs=>hs;have fin:∀{iJ:St} {H':Hp} {v:V} {u:Value},Inv (vE CX P w K mg base N qual scope f fT A outer s H E) [] iJ H' s'->RelV v u->Q v H'->CE outer P w H s Q u s' :=
  λ{iJ H' v u} J rv q=>⟨v,H',J.os,J.bare,J.base,J.c8,rv,q⟩
 cases fl with
 |ret u=>
  obtain⟨v,iJ,H',J,rv,q⟩:=hs;exact fin J rv q
 |next=>
  obtain⟨iJ,H',J,q⟩:=hs;exact fin (v:=V.ff) (u:=JT) J rfl q
 |brk=>
  obtain⟨_,_,_,q⟩:=hs;exact bE q
 |cont=>
  obtain⟨_,_,_,q⟩:=hs;exact bE q
end L2
namespace HT
open PySem PyProof.Rows
noncomputable def lexLt:@I->@I->Bool
 |[],[]=>false
 |[],_::_=>true
 |_::_,[]=>false
 |x::xs,y::ys=>if x=y then lexLt xs ys else decide (x<y)
theorem Jl(x y)(xs ys):lexLt (x::xs) (y::ys)=if x=y then lexLt xs ys else decide (x<y):=rfl
theorem CB:lexLt [] []=false:=rfl
theorem Bo(y)(ys):lexLt [] (y::ys)=true:=rfl
theorem Bp(x)(xs):lexLt (x::xs) []=false:=rfl
theorem P2(A)(s)(a)(t)(c)(u):∃e,SeqAt.EqAt A s (.int a t) (.int c u) e/\(e=true↔a=c) :=
 ⟨(a == c),SeqAt.EqAt.int_int a t c u,by simp⟩
theorem Gs(A)(s)(a)(t)(c)(u)(prog)(w)(E)(Q)(h:Q (.bool (decide (a<c))) s):
  wpAny @T A (yb .Lt (.int a t) (.int c u)) Q E s :=
 (PyProof.Rows.lt_int h:wpAny @T A (eZ .Lt (.int a t) (.int c u)) Q E s)
section
open PySem.SeqAt
open PySem.AutoSeq1 (wpAny_loadPart')
open PySem.MeetsSeq PySem.MeetsSeq2 PySem.MeetsSeq3
theorem Ct(l b)(items oM)(n n2)(dd Xs)(sl Rn)(ns ms)(hi:k7 items.toList ns)(hj:k7 oM.toList ms):
  Meets (Builtin.«tuple.__lt__» ⟨[.ref l,.ref b],[]⟩)
   (λ_ R s=>s.heap.get? l=some {cls:=@U,dict:=dd,data:=.seq items n,slots:=sl}/\@Z=some {cls:=@U,dict:=Xs,data:=.seq oM n2,slots:=Rn} /\
    R (.ok (.ret (.bool (lexLt ns ms)))) s) :=
 .of_wp λprog w A R s h=>by
  obtain⟨hp,g,d,tk,os⟩:=s;obtain⟨hl,hb,h⟩:=h;have f2:=FY;have z1:items.size=ns.length:=by rw[<-hi.length];simp
  have z2:oM.size=ms.length:=by rw[<-hj.length];simp
  wp_walk using AG hl,AG hb,wpAny_forIn_list _ (λrest b s'=>b.1=none/\s'=⟨hp,g,d,tk,os⟩/\∃(vs ws:@D) (Sr Xh:@I),rest=vs.zip ws /\
   k7 vs Sr/\k7 ws Xh/\Sr.length+oM.size=Xh.length+items.size/\R (.ok (.ret (.bool (lexLt Sr Xh)))) ⟨hp,g,d,tk,os⟩) _
  case turn=>
   rintro⟨y,x⟩ rest b s' ⟨GR,rfl,vs,ws,Sr,Xh,hz,hvi,ZR,hlen,hR⟩;cases hvi with
   |nil=>rw[List.zip_nil_left] at hz;cases hz
   | cons a t abb=>
    cases ZR with
    |nil=>rw[List.zip_nil_right] at hz;cases hz
    | cons c u aa9=>
     rw[List.zip_cons_cons] at hz;injection hz with hyx YF
     injection hyx with hy hx
     subst hy hx;rw[Jl] at hR;simp only[ai] at hlen;obtain⟨e,he,YQ⟩:=P2 A.in1 ⟨hp,g,d,tk,os⟩ a t c u;refine aR (he prog w _ _ ?_);cases e with
     |true=>
      rw[if_pos (YQ.mp rfl)] at hR
      wp_walk
      exact⟨rfl,rfl,_,_,_,_,YF,abb,aa9,@e,hR⟩
     |false=>
      rw[if_neg (λq=>absurd (YQ.mpr q) hU)] at hR;have hri:=Gs A.in1 ⟨hp,g,d,tk,os⟩ a t c u prog w
      wp_walk using hri
      exact⟨_,rfl,by simpa using hR⟩
  case fin=>
   rintro⟨b1,b2⟩ s' ⟨GR,rfl,vs,ws,Sr,Xh,hz,hvi,ZR,hlen,hR⟩;simp only at GR;subst GR;have hv:lexLt Sr Xh=decide (items.size<oM.size):=by
    cases hvi with
    | nil=>
     cases ZR with
     |nil=>
      simp only[aq] at hlen;rw[CB];exact(decide_eq_false (@e)).symm
     |cons c u hw=>
      simp only[aq,ai] at hlen;rw[Bo];exact(decide_eq_true (@e)).symm
    | cons a t hv=>
     cases ZR with
     |nil=>
      simp only[aq,ai] at hlen;rw[Bp];exact(decide_eq_false (@e)).symm
     |cons c u hw=>
      rw[List.zip_cons_cons] at hz;cases hz
   rw[hv] at hR
   wp_walk
   exact⟨_,rfl,by simpa[Builtin.Tuple.tupleCompareSizes] using hR⟩
  case h=>
   exact⟨rfl,rfl,items.toList,oM.toList,ns,ms,rfl,hi,hj,@e,h⟩
end
section
variable {prog:bY} {w:World} {A:eI} {E:@M} {s:aL}
theorem Bg{l b:Addr}{items oM:Array Value}{ns ms:@I}{Q:@M}(hl:IsTup s.heap l items)(hb:IsTup s.heap b oM)(hi:k7 items.toList ns)(hj:k7 oM.toList ms)
  (hu:A.units<cLine) (h:Q (.bool (lexLt ns ms)) s):wpAny @T A (eZ .Lt (.ref l) (.ref b)) Q E s:=by
 obtain⟨⟨cls,dd,data,sl⟩,ho,hc,n,hd⟩:=id hl;obtain⟨⟨acg,Xs,data2,Rn⟩,QP,We,n2,hd2⟩:=id hb;simp only at hc hd We hd2;subst hc hd We hd2;exact richCompare_meets_room (op:=.Lt) ⟨_,ho,rfl⟩ ⟨_,QP,rfl⟩ PySem.F.slot_tuple_lt PySem.F.entry_tuple_lt (PySem.F.args_tuple_lt_2 _ _) (Ct l b items oM n n2 dd Xs sl Rn ns ms hi hj)
  ⟨ho,QP,show xT (lexLt ns ms)≠Value.notImplemented/\Q (.bool (lexLt ns ms)) s from⟨(λx=>nomatch x),h⟩⟩ hu
theorem Tb{t b:Addr}{vs ws:@D}{Q:@M}(ht:IsTup s.heap t vs.toArray)(hb:IsTup s.heap b ws.toArray)(hv:vs≠[])
  (h1:ws=[]->Q (.ref t) s) (h2:ws≠[]->Q (.ref s.heap.objs.size) {s with heap:=s.heap.push {cls:=@U,data:=.seq (vs++ws).toArray}})
  (hsz:vs.length+ws.length<=bB):wpAny @T A (kR .Add (.ref t) (.ref b)) Q E s:=by
 obtain⟨⟨cls,dd,data,sl⟩,ho,hc,n,hd⟩:=id ht;obtain⟨⟨acg,Xs,data2,Rn⟩,QP,We,n2,hd2⟩:=id hb;simp only at hc hd We hd2;subst hc hd We hd2;have e:vs.toArray++ws.toArray=(vs++ws).toArray:=by simp
 by_cases hw:ws=[]
 .exact concat_meets ⟨_,ho,rfl⟩ ⟨_,QP,rfl⟩ noFill_tuple_add seq_tuple_add JW Iq (HK _ _)
   (tuple_addW1 t b vs.toArray ws.toArray n n2 dd Xs sl Rn (by simpa using hv) (by simp[hw])) ⟨ho,QP,h1 hw⟩
 .refine concat_meets ⟨_,ho,rfl⟩ ⟨_,QP,rfl⟩ noFill_tuple_add seq_tuple_add JW Iq (HK _ _)
   (tuple_addW2 t b vs.toArray ws.toArray n n2 dd Xs sl Rn (by simpa using hv) (by simpa using hw) (by rw[aZ,aZ];exact hsz)) ⟨ho,QP,?_⟩
  rw[e];exact h2 hw
noncomputable def jl(n d:Nat):Option Int->Nat
 |none=>d
 |some v=>if v<0 then(v+(n:Int)).toNat else min v.toNat n
theorem U2(n d)(hd:d<=n)(o):jl n d o<=n:=by
 cases o with
 |none=>exact hd
 |some v=>
  show(if v<0 then(v+(n:Int)).toNat else min v.toNat n)<=n;by_cases hv:v<0
  .rw[if_pos hv];lia
  .rw[if_neg hv];exact Nat.min_le_right _ _
theorem Ld(v)(n d:Nat):(if v<0 then max (v+(n:Int)) 0 else min v (n:Int))=((jl n d (some v):Nat):Int):=by
 show(if v<0 then max (v+(n:Int)) 0 else min v (n:Int))=(((if v<0 then(v+(n:Int)).toNat else min v.toNat n):Nat):Int);by_cases hv:v<0
 .simp only[if_pos hv];lia
 .simp only[if_neg hv];lia
theorem JH(lo hi)(n:Nat):nM lo hi 1 (n:Int)=(((jl n 0 lo:Nat):Int),((jl n n hi:Nat):Int)):=by
 have h1:¬ ((1:Int)<0):=@e
 unfold nM;simp only[h1,if_false];refine Prod.ext ?_ ?_
 .cases lo with
  |none=>rfl
  |some v=>exact Ld v n 0
 .cases hi with
  |none=>rfl
  |some v=>exact Ld v n n
theorem IM(i j:Nat):jj (i:Int) (j:Int) 1=j-i:=by
 unfold jj;have h1:(1:Int)>0:=@e
 simp only[h1,if_true,Int.ediv_one];split<;>lia
theorem AW{v:Value}{o:Option Int}{Q:Option Int->aL->Prop}(p:IsPart v o)(h:Q o s):wpAny @T A (Builtin.Slice.slicePartIndex v) Q E s:=by
 cases p with
 |none=>exact slicePart_none h
 |int i t=>exact slicePart_int h
theorem yp{sl:Addr}{vl vu:Value}{lo hi:Option Int}{n:Nat}{Q:Int×Int×Nat->aL->Prop}(hs:s.heap.IsSliceOf sl vl vu .none)(pl:IsPart vl lo)(pu:IsPart vu hi)
  (h:Q (((jl n 0 lo:Nat):Int),1,jl n n hi-jl n 0 lo) s):wpAny @T A (Ab (.ref sl) (pure (n:Int))) Q E s:=by
 obtain⟨os,YH,hcs,ZY⟩:=id hs;unfold Ab Builtin.Slice.sliceFields;refine aR (aR (wpAny_field YH ZY (x:=vl) rfl (aR (wpAny_field YH ZY (x:=vu) rfl (aR (wpAny_field YH ZY (x:=.none) rfl (bI ?_)))))));refine aR (slicePart_none ?_);show wpAny _ _ (if((1:Int) == 0)=true then _ else _) _ _ s;rw[if_neg (@c)];refine aR (AW pl (aR (AW pu (aR (bI ?_)))));show wpAny _ _ (match nM lo hi 1 (n:Int) with |(lo,hi)=>pure (lo,(1:Int),jj lo hi 1)) _ _ s;rw[JH lo hi n];show wpAny _ _ (pure (((jl n 0 lo:Nat):Int),(1:Int),jj ((jl n 0 lo:Nat):Int) ((jl n n hi:Nat):Int) 1)) _ _ s;rw[IM];exact bI h
theorem OF(xs:Array Value)(i k:Nat):((dG k).filterMap λ(m:Nat)=>xs[((i:Int)+(m:Int)*1).toNat]?).toArray=((xs.toList.drop i).take k).toArray:=by
 have e:(λ(m:Nat)=>xs[((i:Int)+(m:Int)*1).toNat]?)=λm=>xs[i+m]?:=by
  funext m;have:((i:Int)+(m:Int)*1).toNat=i+m:=@e
  rw[this]
 rw[e];have:=pick_run xs i k;rw[List.filterMap_map] at this;have e2:((λx=>xs[x]?)∘λx=>i+x)=λm=>xs[i+m]?:=rfl;rw[e2] at this;rw[this]
theorem xc{t sl:Addr}{items:Array Value}{vl vu:Value}{lo hi:Option Int}{Q:@M}(ht:IsTup s.heap t items)(hs:s.heap.IsSliceOf sl vl vu .none)(pl:IsPart vl lo)(pu:IsPart vu hi)
  (hw:¬ (jl items.size 0 lo=0/\jl items.size items.size hi=items.size))
  (h:Q (.ref s.heap.objs.size) {s with heap:=s.heap.push {cls:=@U,data:=.seq ((items.toList.drop (jl items.size 0 lo)).take (jl items.size items.size hi-jl items.size 0 lo)).toArray}})
  (hsz:items.size<=bB):wpAny @T A (Nz (.ref t) (.ref sl)) Q E s:=by
 have KG:sizeOk (.seq ((items.toList.drop (jl items.size 0 lo)).take (jl items.size items.size hi-jl items.size 0 lo)).toArray):=by
  show((items.toList.drop (jl items.size 0 lo)).take (jl items.size items.size hi-jl items.size 0 lo)).toArray.size<=bB;rw[aZ];exact cY (cY (List.length_take_le' _ _) (by rw[cZ,zJ];exact Nat.sub_le _ _)) hsz
 have hj:jl items.size items.size hi<=items.size:=U2 _ _ (bb _) hi;obtain⟨os,YH,hcs,ZY⟩:=id hs;have hTs:s.TypeIs (.ref sl) "slice":=⟨os,YH,hcs⟩;unfold Nz
 try with_reducible refine iu ?_
 first |refine aR (bI ?_) |skip
 refine aR (wpAny_sequenceKey ht.typeIs (@c) ?_);refine aR (wpAny_callSpecial?_slot (name:=Str.ofString "__getitem__") ht.typeIs xV
  (wpAny_call_entry xV ht.typeIs entry_tuple_getitem ?_ (args_tuple_getitem _ _)))
 show wpAny _ _ (Builtin.Tuple.tupleItemsOf (.ref t) >>= _) _ _ s;refine aR (tupleItemsOf_ ht ?_);refine aR (wpAny_typeOf hTs ?_);rw[if_pos (@c)];refine aR (yp hs pl pu ?_);have Nu:¬ ((((jl items.size 0 lo:Nat):Int) == 0&&(1:Int) == 1&&(jl items.size items.size hi-jl items.size 0 lo) == items.size)=true):=by
  intro q;rw[bg,bg] at q;have q1:((jl items.size 0 lo:Nat):Int)=0:=eq_of_beq q.1.1;have q2:jl items.size items.size hi-jl items.size 0 lo=items.size:=eq_of_beq q.2;exact hw ⟨@e,@e⟩
 show wpAny _ _ (if(((jl items.size 0 lo:Nat):Int) == 0&&(1:Int) == 1&&(jl items.size items.size hi-jl items.size 0 lo) == items.size)=true then _ else _) _ _ s;rw[if_neg Nu,OF]
 first
  |exact aR (m:=jD _) (kP (bI ⟨_,rfl,bI h⟩) KG)
  |exact aR (m:=jD _) (kP (aR (bI (bI ⟨_,rfl,bI h⟩))) KG)
  |exact aR (aR (m:=jD _) (kP (bI (bI ⟨_,rfl,bI h⟩)) KG))
  |exact aR (aR (m:=jD _) (kP (bI ⟨_,rfl,bI h⟩) KG))
end
end HT
namespace L2
open PySem PySem.Spec PyProof.Rows
abbrev TO:=St->Hp->(Option Int->Hp->Prop)->Prop
theorem intsAre_of:∀{us:@D},Vals (ns.map V.int) us->k7 us ns:=by
 induction ns with
 |nil=>intro us r;rw[aF] at r;cases r;exact .nil
 | cons n ns ih=>
  intro us r;rw[av] at r;cases r with
  |cons r1 r2=>
   obtain⟨t,e⟩:=r1;subst e;exact .cons n t (ih r2)
section
variable {X:Cx} {e:Expr} {te:TE} {lo hi:Option Expr} {tl th:TO} {pos p2:Pos}
def SlR(X:Cx)(r:V->Option Int->Option Int->Hp->VK->Prop):Prop :=
 ∀(pins:@A) (s:aL) (σ:St) (H:Hp) (x:V) (v vl vu:Value) (lo hi:Option Int) (sl:Addr) (Q:VK),@o->RelV x v->s.heap.IsSliceOf sl vl vu .none->IsPart vl lo->IsPart vu hi->r x lo hi H Q ->
  ∃T id,typeLookup (.type T) "__getitem__"=pure (some (.builtin id))/\s.TypeIs v T/\wpAny @r X.A (Nz v (.ref sl)) (EP X pins σ Q) X.xe s
def Hl(xs:List V)(lo hi:Option Int):List V:=(xs.drop (HT.jl xs.length 0 lo)).take (HT.jl xs.length xs.length hi-HT.jl xs.length 0 lo)
theorem zr(xs)(lo hi):(Hl xs lo hi).length<=xs.length:=by
 unfold Hl;rw[cz,cZ];lia
def aat(K:aB):V->Option Int->Option Int->Hp->VK->Prop:=λx lo hi H Q=>∃a xs,x=@m/\B2 K H a xs /\
 ¬ (HT.jl xs.length 0 lo=0/\HT.jl xs.length xs.length hi=xs.length)/\∀p,H p=none->Q (.ref p) (upd H p (.tup (Hl xs lo hi)))
theorem UY:SlR X (aat X.K):=by
 intro pins s σ H x v vl vu lo hi sl Q I rx hs pl pu h;obtain⟨a,xs,rfl,hx,hw,q⟩:=h;cases rx;obtain⟨b9,r,ht,hz⟩:=I.tuple hx;have hlen:b9.toArray.size=xs.length:=by rw[aZ];exact r.length.symm
 refine⟨"tuple",_,PyProof.Rows.slot_tuple_getitem.lookup,ht.typeIs,?_⟩;refine HT.xc ht hs pl pu (by rw[hlen];exact hw) ?_ (by rw[hlen];exact hz);rw[hlen];refine⟨.ref s.heap.objs.size,_,I.laid (t':=s.toks) (o:=.tup (Hl xs lo hi)) (λb ob q=>aW _ q) (bb _) ?_,rfl,q _ (I.c8.fresh (bb _))⟩;exact⟨cY (zr xs lo hi) hz,_,(r.drop (HT.jl xs.length 0 lo)).take (HT.jl xs.length xs.length hi-HT.jl xs.length 0 lo),IsTup.new _ _⟩
def aav(K:aB):R2:=λx y H Q=>∃a b ns ms,x=@m/\y=.ref b/\B2 K H a (ns.map V.int)/\B2 K H b (ms.map V.int)/\Q (.bl (HT.lexLt ns ms)) H
theorem Vw(hu:X.A.units<cLine):M9 X (eZ .Lt) (aav X.K):=by
 intro pins s σ H x y v u Q I rx ry h;obtain⟨a,b,ns,ms,rfl,rfl,ha,hb,q⟩:=h;cases rx;cases ry;obtain⟨b9,r1,p1,_⟩:=I.tuple ha;obtain⟨ug,r2,p2,_⟩:=I.tuple hb;have i1:k7 b9.toArray.toList ns:=intsAre_of r1;have i2:k7 ug.toArray.toList ms:=intsAre_of r2;exact HT.Bg p1 p2 i1 i2 hu ⟨.bl (HT.lexLt ns ms),H,I,rfl,q⟩
def X6(K:aB):R2:=λx y H Q=>∃a b xs ys,x=@m/\y=.ref b/\B2 K H a xs/\B2 K H b ys/\xs≠[]/\xs.length+ys.length<=bB /\
 (ys=[]->Q (@m) H)/\(ys≠[]->∀p,H p=none->Q (.ref p) (upd H p (.tup (xs++ys))))
theorem Vals.EH(r:Vals xs us):us=[]↔xs=[]:=by
 cases r with
 |nil=>simp
 |cons _ _=>simp
theorem Sh:M9 X (kR .Add) (X6 X.K):=by
 intro pins s σ H x y v u Q I rx ry h;obtain⟨a,b,xs,ys,rfl,rfl,ha,hb,hx,hz,q1,q2⟩:=h;cases rx;cases ry;obtain⟨b9,r1,p1,_⟩:=I.tuple ha;obtain⟨ug,r2,p2,_⟩:=I.tuple hb;refine HT.Tb p1 p2 (λz=>hx (r1.EH.mp z)) (λz=>⟨@m,H,I,rfl,q1 (r2.EH.mp z)⟩) (λz=>?_) (by rw[<-r1.length,<-r2.length];exact hz);refine⟨.ref s.heap.objs.size,_,I.laid (t':=s.toks) (o:=.tup (xs++ys)) (λb ob q=>aW _ q) (bb _) ?_,rfl,q2 (λw=>z (r2.EH.mpr w)) _ (I.c8.fresh (bb _))⟩;exact⟨by rw[aM];exact hz,_,r1.append r2,IsTup.new _ _⟩
end
noncomputable def HY(n:Nat)(i:Int):Option Nat:=if 0<=i then(if i<n then some i.toNat else none) else if -(n:Int)<=i then some (i+n).toNat else none
def mH{α:Type}(xs:@H)(i:Int):Option α:=(HY xs.length i).bind λj=>xs[j]?
theorem KA(h:HY n i=some j):seqIndex? i n=some j/\j<n/\-(n:Int)<=i/\i<n:=by
 unfold HY at h;by_cases h0:0<=i
 .rw[if_pos h0] at h;by_cases h1:i<n
  .rw[if_pos h1] at h;have e:i.toNat=j:=bV h;exact⟨by rw[seqIndex_of h0 h1,e],@e,@e,h1⟩
  .rw[if_neg h1] at h;cases h
 .rw[if_neg h0] at h;by_cases h1:-(n:Int)<=i
  .rw[if_pos h1] at h;have e:(i+n).toNat=j:=bV h;exact⟨by rw[seqIndex_neg (@e) h1,e],@e,h1,@e⟩
  .rw[if_neg h1] at h;cases h
theorem Ll(h:mH xs i=some v):∃j,seqIndex? i xs.length=some j/\xs[j]?=some v/\j<xs.length/\-(xs.length:Int)<=i/\i<xs.length:=by
 unfold mH at h;cases e:HY xs.length i with
 |none=>rw[e] at h;cases h
 |some j=>
  rw[e] at h;obtain⟨h1,h2,h3,h4⟩:=KA e;exact⟨j,h1,h,h2,h3,h4⟩
def Ti(b:Expr):Prop:=∀o i,subscripted b false o i=operate [o,i] (Nz o i)
def IxR(X:Cx)(r:R2):Prop :=
 ∀(value slice:Expr) (pins:@A) (s:aL) (σ:St) (H:Hp) (x y:V) (v u:Value) (Q:VK),@o->RelV x v->RelV y u->r x y H Q ->
  subscripted slice false v u=operate [v,u] (Nz v u)->wpAny @r X.A (subscriptTail value slice v u) (EP X pins σ Q) X.xe s
def MtR(X:Cx)(id:String)(r:V->List V->Hp->VK->Prop):Prop :=
 ∀(pins:@A) (s:aL) (σ:St) (H:Hp) (x:V) (xs:List V) (v:Value) (us:@D) (Q:VK),@o->RelV x v->Vals xs us->r x xs H Q ->
  wpAny @r X.A (call (.builtin id) (v::us)) (EP X pins σ Q) X.xe s
section
variable {X:Cx} {a b:Expr} {ta tb:TE} {pos:Pos}
def aax(K:aB):R2:=λx y H Q=>∃p xs i v,x=.ref p/\y=.int i/\qE K H p xs/\mH xs i=some v/\Q v H
def aaw(K:aB):R2:=λx y H Q=>∃p xs i v,x=.ref p/\y=.int i/\B2 K H p xs/\mH xs i=some v/\Q v H
theorem Kz:IxR X (aax X.K):=by
 intro value slice pins s σ H x y v u Q I rx ry h hs;obtain⟨p,xs,i,z,rfl,rfl,hq,he,q⟩:=h;cases rx;obtain⟨t,rfl⟩:=ry;obtain⟨b9,r,pl,hz⟩:=I.list hq;obtain⟨j,h1,h2,h3,h4,h5⟩:=Ll he;obtain⟨w,ew,vh⟩:=r.get h2;have hl:=r.length;have hn:=Bl;have fin:EP X pins σ Q w s:=⟨z,H,I,vh,q⟩;by_cases h0:0<=i
 .have hj:i.toNat=j:=by
   rw[seqIndex_of h0 h5] at h1;exact bV h1
  exact item_listR pl.isList h0 (@e) (by rw[hj];simpa using ew) fin hs
 .have hj:(i+(b9.toArray.size:Int)).toNat=j:=by
   rw[seqIndex_neg (@e) h4] at h1;rw[aZ,<-hl];exact bV h1
  exact subscriptTail_builtinR (x:=w) pl.isList.typeIs slot_list_getitem.lookup
   (wpAny_getItem_list_neg (Q:=λr s'=>r=w/\EP X pins σ Q r s') pl.isList (@e) (by rw[aZ]<;>lia) (@e) (by rw[hj];simpa using ew) ⟨rfl,fin⟩) hs
theorem VV:IxR X (aaw X.K):=by
 intro value slice pins s σ H x y v u Q I rx ry h hs;obtain⟨p,xs,i,z,rfl,rfl,hq,he,q⟩:=h;cases rx;obtain⟨t,rfl⟩:=ry;obtain⟨b9,r,pl,hz⟩:=I.tuple hq;obtain⟨j,h1,h2,h3,h4,h5⟩:=Ll he;obtain⟨w,ew,vh⟩:=r.get h2;have hl:=r.length;have hn:=Bl;have fin:EP X pins σ Q w s:=⟨z,H,I,vh,q⟩;exact subscriptTail_builtinR (x:=w) pl.typeIs slot_tuple_getitem.lookup
  (getItem_tuple (j:=j) (Q:=λr s'=>r=w/\EP X pins σ Q r s') pl (@e) (@e) (by rw[aZ,<-hl];exact h1) (by simpa using ew) ⟨rfl,fin⟩) hs
theorem Jg (b9:@D) (n j) (u):yQ (·.setIfInBounds j u) {cls:=.type "list",data:=.seq b9.toArray n}={cls:=.type "list",data:=.seq (b9.set j u).toArray n}:=by
 simp[yQ]
theorem Inv.lst(I:@o)(h:H p=some (.lst xs)):
  ∃(b9:@D) (n:Nat),Vals xs b9/\s.heap.get? p=some {cls:=.type "list",data:=.seq b9.toArray n}/\xs.length<=bB:=by
 obtain⟨z,b9,n,r,e⟩:=I.c8 p _ h;exact⟨b9,n,r,e,z⟩
theorem Inv.VN{pins:@A}{σ:St}{H:Hp}{s:aL}{p:Addr}{xs ys:List V}{b9 its':@D}{n n':Nat}{f:Obj->Obj}(I:@o)(h:H p=some (.lst xs))
  (ho:s.heap.get? p=some {cls:=.type "list",data:=.seq b9.toArray n}) (hf:f {cls:=.type "list",data:=.seq b9.toArray n}={cls:=.type "list",data:=.seq its'.toArray n'}) (r:Vals ys its') (hz:ys.length<=bB) (t:Nat):
  Inv X pins σ (upd H p (.lst ys)) {s with heap:=s.heap.update p f,toks:=t}:=by
 have e:(s.heap.update p f).get? p=some {cls:=.type "list",data:=.seq its'.toArray n'}:=by
  rw[xW f ho (by rw[hf]<;>rfl),hf]
 refine I.write (x:=p) (e:=p) (by rw[h];trivial) (@E) (λb u hb q=>(dD _ _ (dA hb)).trans q) ⟨_,e⟩ ?_;exact⟨hz,its',n',r,e⟩
def X3:V->V->V->Hp->(Hp->Prop)->Prop:=λo i v H Q=>∃p xs k j,o=.ref p/\i=.int k/\H p=some (.lst xs)/\HY xs.length k=some j/\Q (upd H p (.lst (xs.set j v)))
theorem set_list:acr X X3:=by
 intro pins s σ H o i v ov iv u Q I ro ri rv h;obtain⟨p,xs,k,j,rfl,rfl,hp,hj,q⟩:=h;cases ro;obtain⟨t,rfl⟩:=ri;obtain⟨b9,n,r,ho,hz⟩:=I.lst hp;obtain⟨h1,h2,h3,h4⟩:=KA hj;have hl:=r.length;have hn:=Bl;have I':Inv X pins σ (upd H p (.lst (xs.set j v))) {s with heap:=s.heap.update p (yQ (·.setIfInBounds j u))} :=
  I.VN hp ho (Jg b9 n j u) (r.set rv j) (by rw[fB];exact hz) s.toks
 by_cases h0:0<=k
 .have hk:k.toNat=j:=by
   rw[seqIndex_of h0 h4] at h1;exact bV h1
  exact PySem.W.ki_setAt ho h0 (@e) (by rw[aZ,<-hl];exact h4) (by rw[hk];exact⟨_,I',q⟩)
 .have hk:(k+(b9.toArray.size:Int)).toNat=j:=by
   rw[seqIndex_neg (@e) h3] at h1;rw[aZ,<-hl];exact bV h1
  exact PySem.W.ki_setBack ho (@e) (by rw[aZ,<-hl];exact h3) (@e) (by rw[hk];exact⟨_,I',q⟩)
theorem Ej(lo hi)(n):(rE lo hi none n).1=((HT.jl n 0 lo:Nat):Int)/\(rE lo hi none n).2.1=((HT.jl n n hi:Nat):Int)/\(rE lo hi none n).2.2=1:=by
 refine⟨?_,?_,rfl⟩
 .cases lo with
  |none=>simp[rE,HT.jl]
  |some i=>
   simp only[rE,HT.jl,Option.getD_none,show(1:Int)>0 by decide,if_true];by_cases h:i<0
   .simp only[h,if_true]<;>lia
   .simp only[h,if_false]<;>lia
 .cases hi with
  |none=>simp[rE,HT.jl]
  |some i=>
   simp only[rE,HT.jl,Option.getD_none,show(1:Int)>0 by decide,if_true];by_cases h:i<0
   .simp only[h,if_true]<;>lia
   .simp only[h,if_false]<;>lia
theorem Cz(b9:@D)(lo hi):slicePick b9.toArray lo hi none=((b9.drop (HT.jl b9.length 0 lo)).take (HT.jl b9.length b9.length hi-HT.jl b9.length 0 lo)).toArray:=by
 obtain⟨h1,h2,h3⟩:=Ej lo hi b9.toArray.size;unfold slicePick;rw[h1,h2,h3];simp only[sliceRange_one,pick_run,aZ]<;>rfl
def aau(K:aB):V->Option Int->Option Int->Hp->VK->Prop:=λx lo hi H Q=>∃a xs,x=@m/\qE K H a xs/\∀p,H p=none->Q (.ref p) (upd H p (.lst (Hl xs lo hi)))
theorem Kf:SlR X (aau X.K):=by
 intro pins s σ H x v vl vu lo hi sl Q I rx hs pl pu h;obtain⟨a,xs,rfl,hx,q⟩:=h;cases rx;obtain⟨b9,r,ht,hz⟩:=I.list hx;have hlen:=r.length;refine⟨"list",_,slot_list_getitem.lookup,ht.isList.typeIs,?_⟩;refine wpAny_getItem_list_slice ht.isList hs pl pu .none @k ?_ (by rw[aZ]<;>lia);rw[Cz,<-hlen];refine⟨.ref s.heap.objs.size,_,I.laid (t':=s.toks) (o:=.lst (Hl xs lo hi)) (λb ob q=>aW _ q) (bb _) ?_,rfl,q _ (I.c8.fresh (bb _))⟩;exact⟨cY (zr xs lo hi) hz,_,0,(r.drop (HT.jl xs.length 0 lo)).take (HT.jl xs.length xs.length hi-HT.jl xs.length 0 lo),cj _ rfl⟩
theorem Fc:UB X (.type "list") (λxs H Q=>∃p ys,xs=[.ref p]/\(qE X.K H p ys\/B2 X.K H p ys)/\∀l,H l=none->Q (.ref l) (upd H l (.lst ys))):=by
 intro pins s σ H xs us Q I r h;obtain⟨p,ys,rfl,hq,q⟩:=h;obtain⟨u,rfl,rx⟩:=vals1 r;cases rx;have fin:∀(b9:@D),Vals ys b9->ys.length<=bB->∀(h':Heap) (c':Nat),(∀b o',@Z=some o'->@X=some o') ->
   h'.get? s.heap.objs.size=some {cls:=.type "list",dict:=none,data:=.seq b9.toArray c',slots:=#[]}->EP X pins σ Q (.ref s.heap.objs.size) {s with heap:=h'}:=λb9 r' hz h' c' kp e=>
  ⟨.ref s.heap.objs.size,_,I.laid (t':=s.toks) kp (bb _) (show fJ X.prog X.w _ h' _ (.lst ys) from⟨hz,b9,c',r',e⟩),rfl,q _ (I.c8.fresh (bb _))⟩
 rcases hq with hq |hq
 .obtain⟨b9,r',pl,hz⟩:=I.list hq;have hlen:=r'.length;obtain⟨o,ho,hc,n,hd⟩:=pl.isList;exact call_list_seq p (@E) ho hc hd (λh' c' kp e=>fin b9 r' hz h' c' kp e) (by simp only[aZ]<;>lia)
 .obtain⟨b9,r',pl,hz⟩:=I.tuple hq;have hlen:=r'.length;obtain⟨o,ho,hc,n,hd⟩:=pl;exact call_list_seq p (.inr rfl) ho hc hd (λh' c' kp e=>fin b9 r' hz h' c' kp e) (by simp only[aZ]<;>lia)
def tyV(K:aB)(T:String)(x:V)(H:Hp):Prop:=match x with
 |.str _=>T="str"
 |.int _=>T="int"
 | .ref p=>(T="list"/\∃xs,qE K H p xs)\/(T="tuple"/\∃o,K.lookup p=@j/\o.cls=@U/\o.dict=none) \/
   (T="dict"/\((∃bx,H p=some (.dK bx))\/∃bx,H p=some (.dT bx)))\/(T="set"/\∃S n,H p=some (.set S n))
 |_=>False
theorem Ed(I:@o)(r:RelV x v)(ty:tyV X.K T x H):
  s.TypeIs v T/\∀a,v=@m->∃ob,s.heap.get? a=some ob/\ob.dict=none:=by
 cases x with
 |str z=>
  obtain⟨t,rfl⟩:=r;cases(show T="str" from ty);exact⟨typeIs_str s z t,λ_ e=>nomatch e⟩
 |int i=>
  obtain⟨t,rfl⟩:=r;cases(show T="int" from ty);exact⟨typeIs_int s i t,λ_ e=>nomatch e⟩
 | ref p=>
  cases r;rcases ty with ⟨rfl,xs,hq⟩ |⟨rfl,o,hk,hc,hd⟩ |⟨rfl,hk⟩ |⟨rfl,S,n,hk⟩
  .obtain⟨b9,_,pl,_⟩:=I.list hq;refine⟨pl.isList.typeIs,λa e=>?_⟩;cases e;obtain⟨o,n,e,c,hd,_⟩:=pl;exact⟨o,e,hd⟩
  .refine⟨⟨o,I.sD p o hk,hc⟩,λa e=>?_⟩;cases e;exact⟨o,I.sD _ o hk,hd⟩
  .have z:∃o,s.heap.get? p=@j/\o.ExactDict:=by
    rcases hk with ⟨bx,hk⟩ |⟨bx,hk⟩
    .obtain⟨_,_,_,_,o,_,_,e,ex,_⟩:=I.c8 p _ hk;exact⟨o,e,ex⟩
    .obtain⟨_,_,_,_,o,_,_,e,ex,_⟩:=I.c8 p _ hk;exact⟨o,e,ex⟩
   obtain⟨o,e,ex⟩:=z;refine⟨⟨o,e,ex.1⟩,λa e2=>?_⟩;cases e2;exact⟨o,e,ex.2.1⟩
  .obtain⟨o,_,_,_,e,ex,_⟩:=I.c8 p _ hk;refine⟨⟨o,e,ex.1⟩,λa e2=>?_⟩;cases e2;exact⟨o,e,ex.2.1⟩
 |_=>exact bE ty
variable {o e:Expr} {es:List Expr} {to:TE} {t:TA} {name:Str} {apos mB:Pos} {T id:String} {r:V->List V->Hp->VK->Prop}
/- xs.append(e),list.index on a Ys tuple .. are MtR facts of 06m -/
end
def MtM(X:Cx)(id:String)(r:V->List V->Hp->VK->Prop):Prop :=
 ∀(pins:@A) (s:aL) (σ:St) (H:Hp) (x:V) (xs:List V) (v:Value) (us:@D) (Q:VK),@o->RelV x v->Vals xs us->r x xs H Q ->
  wpAny @r X.A (call (.builtin id) (v::us)) (EP X pins σ Q) X.xe s
theorem Vals.one:∀{x:V} {us:@D},Vals [x] us->∃u,us=[u]/\RelV x u:=by
 intro x us h;cases h with
 |cons r t=>cases t;exact⟨_,rfl,r⟩
section
variable {X:Cx} {pins:@A} {σ:St} {H:Hp} {s:aL} {l b:Addr} {xs ys zs:List V}
theorem Inv.VP{b9 its':@D}{n:Nat}{f:Array Value->Array Value}{t':Nat}(I:@o)(hH:H l=some (.lst xs))
  (e:s.heap.get? l=some {cls:=.type "list",data:=.seq b9.toArray n}) (hf:f b9.toArray=its'.toArray) (hv:Vals ys its') (hz:ys.length<=bB):
  Inv X pins σ (upd H l (.lst ys)) {s with heap:=s.heap.update l (yQ f),toks:=t'}:=by
 have q:=PySem.IsL.update e f;rw[hf] at q;refine I.write (x:=l) (e:=l) (by rw[hH];exact trivial) (@E) (λb' u hb hu=>(dD s.heap (yQ f) (dA hb)).trans hu) ⟨_,q⟩ ?_;exact⟨hz,its',_,hv,q⟩
theorem Inv.aaV(I:@o)(hv:Vals ys b9)(hz:ys.length<=bB):
  Inv X pins σ (upd H s.heap.objs.size (.lst ys)) {s with heap:=s.heap.push {cls:=.type "list",data:=.seq b9.toArray},toks:=t'} :=
 I.laid (λ_ _ q=>aW _ q) (bb _) ⟨hz,b9,0,hv,cj _ rfl⟩
theorem Inv.VO (I:@o) (hH:H l=some (.lst xs)):xs.length<=bB/\∃(b9:@D) (n:Nat),Vals xs b9/\xs.length=b9.length/\s.heap.get? l=some {cls:=.type "list",data:=.seq b9.toArray n}:=by
 obtain⟨z,b9,n,r,e⟩:=I.c8 l _ hH;exact⟨z,b9,n,r,r.length,e⟩
theorem OZ(h:n<=bB):jH n=false:=by
 unfold jH;exact decide_eq_false (@e)
end
section
variable {X:Cx}
def RE:V->List V->Hp->VK->Prop:=λx vs H Q=>∃l xs y,x=.ref l/\vs=[y]/\H l=some (.lst xs)/\xs.length<bB/\Q .ff (upd H l (.lst (xs++[y])))
theorem Dx:MtM X "list.append" RE:=by
 intro pins s σ H x vs v us Q I rx rv h;obtain⟨l,xs,y,rfl,rfl,hH,hz,q⟩:=h;cases rx;obtain⟨u,rfl,ru⟩:=rv.one;obtain⟨z,b9,n,r,hl,e⟩:=I.VO hH;refine call_meets F.slot_list_append ⟨_,e,rfl⟩ F.entry_list_append (F.args_list_append_2 _ _) (PySem.list_append l b9.toArray n u (by rw[aZ];lia)) ⟨e,?_⟩;refine⟨.ff,_,I.VP (its':=b9++[u]) hH e @k (r.append (.cons ru .nil)) ?_,rfl,q⟩;rw[aM,dO];lia
end
section
variable {κ:Type} [DecidableEq κ]
noncomputable def mh(bx:List (κ×V))(k:κ):Option V:=(bx.find? λkv=>decide (kv.1=k)).map (·.2)
noncomputable def putK(bx:List (κ×V))(k:κ)(v:V):List (κ×V) :=
 if(bx.any λkv=>decide (kv.1=k))=true then bx.map (λkv=>if kv.1=k then(kv.1,v) else kv) else bx++[(k,v)]
theorem rK{k:κ}(e:p.1=k):mh (p::r) k=some p.2:=by simp[mh,dP,e]
theorem rL{k:κ}(e:¬ p.1=k):mh (p::r) k=mh r k:=by simp[mh,dP,e]
theorem F5(k):∀bx:List (κ×V),(bx.any λkv=>decide (kv.1=k))=(mh bx k).isSome
 |[]=>rfl
 |p::r=>by
  rw[oR];by_cases e:p.1=k
  .simp only[rK e,decide_eq_true e,QH,Option.isSome_some]
  .rw[rL e,decide_eq_false e,uv];exact F5 k r
theorem zh(bx)(k:κ)(v):(putK bx k v).length<=bx.length+1:=by
 unfold putK;split
 .rw[ax];lia
 .rw[aM,ai,aq];lia
theorem rf.pC(r:rf o u):o.isSome=u.isSome:=by
 cases o with
 |none=>cases u with
  |none=>rfl
  |some _=>exact(show False from r).elim
 |some _=>cases u with
  |none=>exact(show False from r).elim
  |some _=>rfl
theorem rf.getD(r:rf o u)(rd:RelV d d'):RelV (o.getD d) (u.getD d'):=by
 cases o with
 |none=>cases u with
  |none=>exact rd
  |some _=>exact(show False from r).elim
 |some _=>cases u with
  |none=>exact(show False from r).elim
  |some _=>exact r
theorem KV.val(r:KV bx vs)(k:κ):rf (mh bx k) (Nx vs k):=by
 unfold KV at r;induction r with
 |nil=>exact iB
 | @cons p q ps qs h t ih=>
  obtain⟨h1,h2⟩:=h;by_cases e:p.1=k
  .have e':q.1=k:=h1.symm.trans e;have b:Nx (q::qs) k=some q.2:=by simp[Nx,dP,e']
   rw[rK e,b];exact h2
  .have e':¬ q.1=k:=λz=>e (h1.trans z);have b:Nx (q::qs) k=Nx qs k:=by simp[Nx,dP,e']
   rw[rL e,b];exact ih
theorem KV.any(r:KV bx vs)(k:κ):(bx.any λkv=>decide (kv.1=k))=vs.any λkv=>decide (kv.1=k):=by
 unfold KV at r;induction r with
 |nil=>rfl
 |cons h t ih=>rw[oR,oR,ih,h.1]
theorem KV.U7(r:KV bx vs)(k:κ)(ry:RelV y u):
  KV (bx.map λkv=>if kv.1=k then(kv.1,y) else kv) (vs.map λkv=>if kv.1=k then(kv.1,u) else kv):=by
 unfold KV at r ⊢;induction r with
 |nil=>exact .nil
 |@cons p q ps qs h t ih=>
  rw[av,av];refine .cons ?_ ih;obtain⟨h1,h2⟩:=h;by_cases e:p.1=k
  .rw[if_pos e,if_pos (h1.symm.trans e)];exact⟨h1,ry⟩
  .rw[if_neg e,if_neg (λz=>e (h1.trans z))];exact⟨h1,h2⟩
theorem KV.put(r:KV bx vs)(k:κ)(ry:RelV y u):KV (putK bx k y) (stored vs k u):=by
 unfold putK stored;rw[r.any k];by_cases e:(vs.any λkv=>decide (kv.1=k))=true
 .rw[if_pos e,if_pos e];exact r.U7 k ry
 .rw[if_neg e,if_neg e];exact Paired.snoc r ⟨rfl,ry⟩
theorem KV.length{vs:List (κ×Value)}(r:KV bx vs):bx.length=vs.length:=z9 r
end
theorem DC(r:RelV (kV k) u):(fU P w).is k u=true:=by
 cases k with
 |inl i=>obtain⟨t,e⟩:=(show ∃t,u=FT i t from r);subst e;exact Gz P w i t
 |inr x=>obtain⟨t,e⟩:=(show ∃t,u=NB x t from r);subst e;exact Gy P w x t
theorem DD:∀{ks:List Key} {us:@D},Vals (ks.map kV) us->ItemsAre (fU P w) ks us
 |[],_,r=>by rw[aF] at r;cases r;exact .nil
 |k::ks,_,r=>by
  rw[av] at r;cases r with
  |cons h t=>exact .cons (DC h) (DD t)
abbrev KT(H:Hp):List (List Key×V)->List (List Key×Addr×Value)->Prop:=Paired λp q=>p.1=q.1/\H q.2.1=some (.tup (p.1.map kV))/\RelV p.2 q.2.2
theorem KT.val(r:KT H bx xs)(k):rf (mh bx k) ((atKey xs k).map (·.2)):=by
 induction r with
 |nil=>exact iB
 | @cons p q ps qs h t ih=>
  obtain⟨h1,_,h2⟩:=h;by_cases e:p.1=k
  .have e':q.1=k:=h1.symm.trans e;have b:atKey (q::qs) k=some q.2:=by simp[atKey,dP,e']
   rw[rK e,b];exact h2
  .have e':¬ q.1=k:=λz=>e (h1.trans z);have b:atKey (q::qs) k=atKey qs k:=by simp[atKey,dP,e']
   rw[rL e,b];exact ih
theorem KT.U7(r:KT H bx xs)(k)(ry:RelV y u):
  KT H (bx.map λkv=>if kv.1=k then(kv.1,y) else kv) (xs.map (putAt k u)):=by
 induction r with
 |nil=>exact .nil
 |@cons p q ps qs h t ih=>
  rw[av,av];refine .cons ?_ ih;obtain⟨h1,h2,h3⟩:=h;unfold putAt;by_cases e:p.1=k
  .rw[if_pos e,if_pos (h1.symm.trans e)];exact⟨h1,h2,ry⟩
  .rw[if_neg e,if_neg (λz=>e (h1.trans z))];exact⟨h1,h2,h3⟩
theorem KT.put(r:KT H bx xs)(k)(hb:H b=some (.tup (k.map kV)))(ry:RelV y u):
  KT H (putK bx k y) (storedH xs k b u):=by
 have e:(bx.any λkv=>decide (kv.1=k))=(atKey xs k).isSome:=by
  rw[F5,(r.val k).pC,Cj]
 unfold putK storedH;rw[e];by_cases q:(atKey xs k).isSome=true
 .rw[if_pos q,if_pos q];exact r.U7 k ry
 .rw[if_neg q,if_neg q];exact Paired.snoc r ⟨rfl,hb,ry⟩
theorem KT.keeps(r:KT H bx xs)(ht:∀b ys,H b=some (.tup ys)->H' b=some (.tup ys)):KT H' bx xs :=
 Paired.VL r λ_ _ z=>⟨z.1,ht _ _ z.2.1,z.2.2⟩
section
variable {P:bY} {w:World} {H:Hp} {h:Heap} {a:Addr}
theorem TF(ok:oQ P w H h)(e:Rd H a u):fJ P w H h a u:=e.ok ok
theorem uX(ok:oQ P w H h)(e:Rd H a (.dK bx)):bx.length<=bB/\(a == jA)=false/\∃vs,KV bx vs/\h.DictOf (fU P w) a vs :=
 show fJ P w H h a (.dK bx) from TF ok e
theorem K1(ok:oQ P w H h)(e:H a=some (.dK bx)):bx.length<=bB/\(a == jA)=false/\∃vs,KV bx vs/\h.DictOf (fU P w) a vs:=uX ok (.inl e)
theorem yA(ok:oQ P w H h)(e:H a=some (.tup (ks.map kV))):(FP (fU P w)).is h ks a:=by
 obtain⟨_,b9,r,o,h1,h2,n,h3⟩:=(show fJ P w H h a (.tup (ks.map kV)) from ok a _ e);exact⟨o,b9.toArray,n,h1,h2,h3,by simpa using DD r⟩
theorem zq(ok:oQ P w H h)(e:Rd H a (.dT bx)):bx.length<=bB/\(a == jA)=false /\
  ∃xs,KT H bx xs/\h.DictOfH (FP (fU P w)) a xs:=by
 obtain⟨z,y,xs,r,o,es,ep,h1,h2,h3,h4,h5⟩:=(show fJ P w H h a (.dT bx) from TF ok e);refine⟨z,y,xs,r,o,es,ep,h1,h2,h3,h4,λx hx=>?_,h5⟩;have all:∀{l:List (List Key×V)} {m:List (List Key×Addr×Value)},KT H l m->∀x∈m,(FP (fU P w)).is h x.1 x.2.1:=by
  intro l m q;induction q with
  |nil=>intro x hx;exact nomatch hx
  |@cons p q ps qs hq t ih=>
   intro x hx;rcases List.mem_cons.mp hx with e |hx
   .subst e;exact yA ok (by rw[<-hq.1];exact hq.2.1)
   .exact ih x hx
 exact all r x hx
theorem Ua(ok:oQ P w H h)(e:H a=some (.dT bx)):bx.length<=bB/\(a == jA)=false /\
  ∃xs,KT H bx xs/\h.DictOfH (FP (fU P w)) a xs:=zq ok (.inl e)
end
def z8(H:Hp)(a:Addr)(y:V)(r:Option V):Prop :=
 (∃bx k,Rd H a (.dK bx)/\y=kV k/\r=mh bx k)\/∃bx k b,Rd H a (.dT bx)/\y=.ref b/\H b=some (.tup (k.map kV))/\r=mh bx k
def Nf(H:Hp)(a:Addr)(y v:V)(H':Hp):Prop :=
 (∃bx k,H a=some (.dK bx)/\y=kV k/\bx.length<bB/\H'=upd H a (.dK (putK bx k v))) \/
 ∃bx k b,H a=some (.dT bx)/\y=.ref b/\H b=some (.tup (k.map kV))/\bx.length<bB/\H'=upd H a (.dT (putK bx k v))
theorem z8.k{H:Hp}{a:Addr}{bx:List (Key×V)}{k:Key}(e:H a=some (.dK bx)):z8 H a (kV k) (mh bx k):=.inl ⟨bx,k,.inl e,rfl,rfl⟩
theorem z8.t{H:Hp}{a b:Addr}{bx:List (List Key×V)}{k:List Key}(e:H a=some (.dT bx))(eb:H b=some (.tup (k.map kV))):z8 H a (.ref b) (mh bx k):=.inr ⟨bx,k,b,.inl e,rfl,eb,rfl⟩
theorem Nf.k{H:Hp}{a:Addr}{bx:List (Key×V)}{k:Key}{v:V}(e:H a=some (.dK bx))(hl:bx.length<bB):Nf H a (kV k) v (upd H a (.dK (putK bx k v))):=.inl ⟨bx,k,e,rfl,hl,rfl⟩
theorem Nf.t{H:Hp}{a b:Addr}{bx:List (List Key×V)}{k:List Key}{v:V}(e:H a=some (.dT bx))(eb:H b=some (.tup (k.map kV)))(hl:bx.length<bB):
  Nf H a (.ref b) v (upd H a (.dT (putK bx k v))):=.inr ⟨bx,k,b,e,rfl,eb,hl,rfl⟩
section
variable {X:Cx} {pins:@A} {σ:St} {H:Hp} {s:aL} {a:Addr} {y v:V} {u r:Value} {o:Option V} {A:eI} {E:@M}
theorem Inv.big(I:@o):jA<s.heap.objs.size:=by
 have h:bj<s.heap.objs.size:=(I.mod.glob.keeps I.bk).lt;exact Nat.lt_trans (@c) h
theorem yH(hu:A.units+1<cLine)(I:@o)(g:z8 H a y (some v))(ry:RelV y u)(h:∀w' s',Inv X pins σ H s'->RelV v w'->Q w' s'):
  wpAny @r A (Nz (@m) u) Q E s:=by
 rcases g with ⟨bx,k,e,ey,l⟩ |⟨bx,k,b,e,ey,eb,l⟩
 .subst ey;obtain⟨z,hd,vs,rel,dd⟩:=uX I.c8 e;obtain⟨w',hw,vh⟩:=rf.some_of (v:=v) (o:=Nx vs k) (by rw[l];exact rel.val k);exact wpAny_getItem_of (DC ry) dd.mapOf hw (h w' _ (I.tok _) vh)
 .subst ey;cases(show u=fN b from ry);obtain⟨z,hd,xs,rel,dd⟩:=zq I.c8 e;obtain⟨w',hw,vh⟩:=rf.some_of (v:=v) (o:=(atKey xs k).map (·.2)) (by rw[l];exact rel.val k);obtain⟨p,hp,oq⟩:=Option.map_eq_some_iff.mp hw;refine wpAny_getItem_heap (mJ hu) (yA I.c8 eb) dd hp ?_;rw[oq];exact h w' _ (I.tok _) vh
theorem Ze{Q:@M}(hu:A.units+1<cLine)(I:@o)(g:z8 H a y o)(ry:RelV y u)(h:∀s',Inv X pins σ H s'->Q (.bool o.isSome) s'):
  wpAny @r A (eZ .In u (@m)) Q E s:=by
 rcases g with ⟨bx,k,e,ey,l⟩ |⟨bx,k,b,e,ey,eb,l⟩
 .subst ey;obtain⟨z,hd,vs,rel,dd⟩:=uX I.c8 e;refine wpAny_in_of (DC ry) hd dd.mapOf ?_;rw[<-(rel.val k).pC,<-l];exact h _ (I.tok _)
 .subst ey;cases(show u=fN b from ry);obtain⟨z,hd,xs,rel,dd⟩:=zq I.c8 e;refine wpAny_in_heap (mJ hu) (yA I.c8 eb) hd dd ?_;have q:=(rel.val k).pC;rw[Cj] at q;rw[<-q,<-l];exact h _ (I.tok _)
theorem K7{Q:@M}(hu:A.units+1<cLine)(I:@o)(g:z8 H a y o)(ry:RelV y u)(h:∀s',Inv X pins σ H s'->Q (.bool (!o.isSome)) s'):
  wpAny @r A (eZ .NotIn u (@m)) Q E s:=by
 rcases g with ⟨bx,k,e,ey,l⟩ |⟨bx,k,b,e,ey,eb,l⟩
 .subst ey;obtain⟨z,hd,vs,rel,dd⟩:=uX I.c8 e;refine wpAny_notIn_of (DC ry) hd dd.mapOf ?_;rw[<-(rel.val k).pC,<-l];exact h _ (I.tok _)
 .subst ey;cases(show u=fN b from ry);obtain⟨z,hd,xs,rel,dd⟩:=zq I.c8 e;refine wpAny_notIn_heap (mJ hu) (yA I.c8 eb) hd dd ?_;have q:=(rel.val k).pC;rw[Cj] at q;rw[<-q,<-l];exact h _ (I.tok _)
theorem K6(I:@o)(mu:Zq (H a))(hs:Ec a s.heap h')(he:∃q,h'.get? a=some q)(new:fJ X.prog X.w (upd H a ob) h' a ob):
  Inv X pins σ (upd H a ob) {s with heap:=h',toks:=t'} :=
 I.write (x:=a) (e:=a) mu (@E) (λb q hb z=>(hs.2 b hb).trans z) he new
theorem Wy(z:bx.length<=bB)(hd:(a == jA)=false)(rel:KV bx vs)(dd:h'.DictOf (fU P w) a vs):
  fJ P w H' h' a (.dK bx):=⟨z,hd,vs,rel,dd⟩
theorem MW{H':Hp}{Q:Unit->aL->Prop}(hu:A.units+1<cLine)(I:@o)(g:Nf H a y v H')(ry:RelV y u)(rv:RelV v r)(h:∀s',Inv X pins σ H' s'->Q () s'):
  wpAny @r A (setItem (@m) u r) Q E s:=by
 rcases g with ⟨bx,k,e,ey,l,eH⟩ |⟨bx,k,b,e,ey,eb,l,eH⟩
 .subst ey eH;obtain⟨z,hd,vs,rel,dd⟩:=K1 I.c8 e;have hz:vs.length<=bB:=by rw[<-rel.length];exact z
  have hl:(putK bx k v).length<=bB:=by have:=zh bx k v;lia
  refine wpAny_setItem_pairs (hsz:=hz) (DC ry) dd λh' Wz hs=>h _ ?_;have he:∃q,h'.get? a=some q:=let ⟨q,_,_,hq,_⟩:=Wz;⟨q,hq⟩
  exact K6 I (by rw[e];exact iB) hs he (Wy hl hd (rel.put k rv) Wz)
 .subst ey eH;cases(show u=fN b from ry);obtain⟨z,hd,xs,rel,dd⟩:=Ua I.c8 e;have hz:xs.length<=bB:=by rw[<-z9 rel];exact z
  have hl:(putK bx k v).length<=bB:=by have:=zh bx k v;lia
  refine wpAny_setItem_heap (hsz:=hz) (mJ hu) (yA I.c8 eb) dd λh' Wz hs=>h _ ?_;obtain⟨q,es,ep,hq,h2,h3,h4,_,h5⟩:=Wz;refine K6 I (by rw[e];exact iB) hs ⟨q,hq⟩ ⟨hl,hd,_,(rel.put k eb rv).keeps λc ys ec=>?_,q,es,ep,hq,h2,h3,h4,h5⟩;rw[bP (Yo ec e (λz=>nomatch z))];exact ec
end
section
variable {X:Cx} {pins:@A} {σ:St} {H:Hp} {s:aL} {a:Addr} {bx:List (Key×V)} {k:Key} {u:Value} {A:eI} {E:@M}
theorem Ub {Q:@M} (I:@o) (e:Rd H a (.dK bx)) (h:∀t s',Inv X pins σ H s'->Q (.int bx.length t) s'):wpAny @r A (call (.builtin "len") [@m]) Q E s:=by
 obtain⟨z,hd,vs,rel,dd⟩:=uX I.c8 e;refine call_len_dict hd dd (by rw[<-rel.length];rw[cX] at z;lia) ?_;rw[<-rel.length];exact h _ _ (I.tok _)
theorem S5{Q:Bool->aL->Prop}(I:@o)(e:Rd H a (.dK bx))(h:∀s',Inv X pins σ H s'->Q (!bx.isEmpty) s'):wpAny @r A (truthy (@m)) Q E s:=by
 obtain⟨z,hd,vs,rel,dd⟩:=uX I.c8 e;refine Ie hd dd (by rw[<-rel.length];rw[cX] at z;lia) ?_;have q:bx.isEmpty=vs.isEmpty:=by cases rel<;>rfl
 rw[<-q];exact h _ (I.tok _)
end
theorem sQ         (I:@o) (g:z8 H a y o):s.TypeIs (@m) "dict":=by
 rcases g with ⟨bx,k,e,_,_⟩ |⟨bx,k,b,e,_,_,_⟩
 .obtain⟨_,_,vs,_,dd⟩:=uX I.c8 e;exact dd.typeIs
 .obtain⟨_,_,xs,_,dd⟩:=zq I.c8 e;exact dd.typeIs
theorem P8    (h:Heap) (hb:jA<h.objs.size):fJ P w H (h.push {cls:=.type "dict",data:=.dict #[]}) h.objs.size (.dK []) :=
 ⟨eB _,beq_eq_false_iff_ne.mpr (dA (bO hb)),[],.nil,Heap.DictOf.new h⟩
def US:TE:=λ_ H Q=>∀p,H p=none->Q (.ref p) (upd H p (.dK []))
section
variable {X:Cx} {pos:Pos}
theorem OJ:PE X (.Dict [] [] pos) US:=λpins s σ H Q I h=>
 wpAny_Dict_empty ⟨.ref s.heap.objs.size,_,I.laid (a:=s.heap.objs.size) (o:=.dK []) (t':=s.toks) (λ_ _ q=>aW _ q) (bb _) (P8 s.heap I.big),rfl,h _ (I.c8.fresh (bb _))⟩
end
def IsD(H:Hp)(a:Addr):Prop:=(∃bx,Rd H a (.dK bx))\/∃bx,Rd H a (.dT bx)
theorem Ph(I:@o)(d:IsD H a):
  s.TypeIs (@m) "dict"/\(∀b,fN a=.ref b->∃ob,@Z=some ob/\ob.dict=none)/\(a == jA)=false:=by
 rcases d with ⟨bx,e⟩ |⟨bx,e⟩
 .obtain⟨_,hd,vs,_,dd⟩:=uX I.c8 e;refine⟨dd.typeIs,λb q=>?_,hd⟩;cases q;obtain⟨ob,_,_,h1,h2,_⟩:=dd;exact⟨ob,h1,h2.2.1⟩
 .obtain⟨_,hd,xs,_,dd⟩:=zq I.c8 e;refine⟨dd.typeIs,λb q=>?_,hd⟩;cases q;obtain⟨ob,_,_,h1,h2,_⟩:=dd;exact⟨ob,h1,h2.2.1⟩
section
variable {X:Cx} {pins:@A} {σ:St} {H:Hp} {s:aL} {a:Addr} {y d:V} {u r:Value} {o:Option V} {A:eI} {E:@M}
theorem WA(hu:A.units+1<cLine)(I:@o)(g:z8 H a y o)(ry:RelV y u)(rd:RelV d r)(h:∀w' s',Inv X pins σ H s'->RelV (o.getD d) w'->Q w' s'):
  wpAny @r A (call (.builtin "dict.get") [@m,u,r]) Q E s:=by
 rcases g with ⟨bx,k,e,ey,l⟩ |⟨bx,k,b,e,ey,eb,l⟩
 .subst ey;obtain⟨z,hd,vs,rel,dd⟩:=uX I.c8 e;refine call_meetsIn u5 dd.typeIs JX (Ir _ _ _) (meets_dict_get_default (fU X.prog X.w) a (DC ry) hd r) ⟨_,dd.mapOf,h _ _ (I.tok _) ?_⟩;rw[l];exact(rel.val k).getD rd
 .subst ey;cases(show u=fN b from ry);obtain⟨z,hd,xs,rel,dd⟩:=zq I.c8 e;refine call_meetsIn u5 dd.typeIs JX (Ir _ _ _) (meetsH_dict_get_default (FP (fU X.prog X.w)) a b hd r) ⟨mJ hu,k,xs,yA I.c8 eb,dd,h _ _ (I.tok _) ?_⟩;rw[l];exact(rel.val k).getD rd
end
end L2
namespace Att
open PySem PySem.W PySem.Calls PyProof.Rows
theorem zM:∀(ns:@I) (vs:@D),WellAll P h vs (ns.map WData.int)->k7 vs ns:=by
 intro ns;induction ns with
 |nil=>
  intro vs w;rw[aF] at w;cases w;exact .nil
 | cons n ns ih=>
  intro vs w;rw[av] at w;cases w with
  |cons a b=>
   cases a;exact .cons _ _ (ih _ b)
theorem LJ{l:OpenLaw}(hn:l.most=some n)
  (yC:l.row.toRowW.claim.pre args=true) (hwl:WellAll P h vals args):
  ∃a vs ns,vals=[fN a]/\args=[WData.list (ns.map WData.int)]/\h.get? a=some {cls:=.type "list",data:=.seq vs.toArray}/\k7 vs ns/\ns.length<=n:=by
 have hsh:WShape.hasAll [] args [.list .int]=true:=(pre_splitW yC).1;have hc:l.pre.holds [] {args:=args}=true:=(pre_splitW yC).2;obtain⟨d,r,rfl,h1,h2⟩:=hasAllW_cons hsh;obtain rfl:=hasAllW_nil h2;obtain⟨xs,rfl,h3⟩:=hasW_list h1;obtain⟨ns,rfl⟩:=items_int h3;have hlen:ns.length<=n:=by
  unfold OpenLaw.pre at hc;have h4:(WTm.not (.lt (.lit (.int (n:Int))) (.len (.arg 0)))).holds [] {args:=[.list (ns.map .int)]}=true:=by
   have h4:=(holds_andW hc).1;rw[hn] at h4;exact h4
  have h5:=condW_of h4 (w_not (w_lt w_lit (w_len_list (w_arg rfl))));rw[ax] at h5;refine Nat.le_of_not_lt λq=>?_;have q':(n:Int)<((ns.length:Nat):Int):=@e
  first
   |(rw[decide_eq_true q'] at h5;exact absurd h5 (@c))
   |(simp at h5;lia)
 cases hwl with
 |cons w1 w2=>
  cases w2;cases w1 with
  |list ho oN=>exact⟨_,_,ns,rfl,rfl,ho,zM ns _ oN,hlen⟩
theorem LX(l:OpenLaw)(args):l.row.toRowW.claim.post args (.bool true) args=true :=
 postW_of (r:=l.row.toRowW) (X:=(true == true))
  (show WShape.has [] (.bool true) .bool=true by first |rfl |decide |simp[WShape.has,WShape.arms,WShape.armsAll])
  (show(WTm.eq .res (.lit (.bool true))).value [] {args:=args,res:=some (.bool true),after:=args}=some (.bool (true == true)) from w_eq_bool (w_res rfl) w_lit) rfl
theorem Hq{l:OpenLaw}{n:Nat}{q:bY}{loose:@n}{XP:(@aa)->Heap->Prop}{YP:World->Heap->Prop}{d:DefRec}
  (hn:l.most=some n) (YV:d.params.defaults=[])
  (call:∀(w:World) (iR eU:aL) (mg mb:@aa) (fa:Addr) (o:Obj) (pm cd doc:Value) (a:Addr) (vs:@D) (ns:@I),
   Ground q loose [] XP w iR mg mb eU.heap->YP w eU.heap ->
   eU.heap.get? fa=@j->o.data=.func (docDef d.name d.params d.body d.scope pm cd doc)->eU.heap.CodeRec cd d.name->mg d.name=some (.ref fa) ->
   eU.heap.get? a=some {cls:=.type "list",data:=.seq vs.toArray}->k7 vs ns->ns.length<=n->eU.gens=#[] ->
   u3 (model l.prog w) Il (.call (.ref fa) ⟨[@m],[]⟩) (λr s'=>r=.ok (.ret (.bool true))/\OldK eU.heap s'.heap/\s'.os=eU.os/\AP s'.gens) eU):
  WalkO q loose XP YP l.row.toRowW d [] (λf vs=>JU f vs):=by
 intro w iR eU mg mb G Y fa o pm cd doc dV kV ho hd KJ hD YL hg args vals as yC af2 hrd hwl hlo;obtain rfl:dV=.none:=Dflts.none hD YV;obtain rfl:kV=.none:=Dflts.noKw hD;obtain⟨a,vs,ns,rfl,rfl,V8,hints,hlen⟩:=LJ hn yC hwl;refine enter_call (oS (call w iR eU mg mb fa o pm cd doc a vs ns G Y ho (fd_plain hd) KJ YL V8 hints hlen hg) λr s' hq=>?_);obtain⟨rfl,h2,h3,h4⟩:=hq;exact⟨.inl ⟨.bool true,.bool true,[],rfl,λ_=>rfl,.bool true,LX l _,λ_=>⟨List.Pairwise.nil,λ_ hm=>(nomatch hm)⟩⟩,h2,h3,h4⟩
end Att
namespace L2
open PySem PySem.Spec PyProof.Rows
theorem Dh:∀{vs:@D} {ns:@I},k7 vs ns->Vals (ns.map V.int) vs
 |_,_,.nil=>.nil
 |_,_,.cons n t h=>.cons ⟨t,rfl⟩ (Dh h)
def Tn(H:Hp):Prop:=∀b,H b=none\/∃o xs,H b=some (.kU o (.lst xs))
theorem Pb{K:aB}
  (KX:K.In eU.heap) (vt:eU.heap.Ns bj mg) (hb:eU.heap.Ns builtinsNs mb) (hbb:∀x:Str,x≠"__name__"->mb x=dj x) (abx:eU.heap.NoLimit) (hg:eU.gens=#[])
  (ha:eU.heap.get? a=some {cls:=.type "list",data:=.seq vs.toArray}) (hi:k7 vs ns) (hl:ns.length<=bB) (hr:fM k Il)
  (F:∀base:Heap,K.In base->base.Ns bj mg->lu P w K mg base CX k fa fd [x] sp) (Y0:∀(s:aL) (u:Value),BindsTo s fd ⟨[u],[]⟩ [(x,u)])
  (EN:∀H:Hp,Tn H->qE K H a (ns.map V.int)->sp [@m] H (λv _=>v=.bl true) λ_ _ _=>False)
  (hCX:∀H e s',CX [] H eU (λ_ _ _=>False) e s'->False):
  u3 (model P w) Il (.call (.ref fa) ⟨[@m],[]⟩) (λr s'=>r=.ok (.ret (.bool true))/\OldK eU.heap s'.heap/\s'.os=eU.os/\AP s'.gens) eU:=by
 have rv:=Dh hi;have aaW:=hi.length;have core:∀H:Hp,Tn H->qE K H a (ns.map V.int)->oQ P w H eU.heap->(∀b,H b≠none->b=a)->(H a≠none->K.lookup a=none) ->
   u3 (model P w) Il (.call (.ref fa) ⟨[@m],[]⟩) (λr s'=>r=.ok (.ret (.bool true))/\OldK eU.heap s'.heap/\s'.os=eU.os/\AP s'.gens) eU:=by
  intro H hO hS c8 hA hK;have Lj:∀{b:Addr} {o:Obj},eU.heap.get? b=@j->H b=none->(ER eU.heap H).get? b=@j:=λe n=>PC e n;have Ym:∀{b:Addr} {o:Obj} {es:Array DictEntry} {ep:Nat},eU.heap.get? b=@j->o.data=.dict es ep->H b=none:=λ{b o es ep} e d=>by
   cases q:H b with
   |none=>rfl
   |some u=>
    have e':b=a:=hA b (by rw[q];simp);subst e';rw[ha] at e;cases e;have d':Data.seq vs.toArray _=Data.dict es ep:=d;cases d'
  have ZL:∀{b:Addr} {m:@aa},eU.heap.Ns b m->(ER eU.heap H).Ns b m:=λ{b m} ⟨o,es,ep,e,d,r⟩=>⟨o,es,ep,Lj e (Ym e d),d,r⟩;have hKb:K.In (ER eU.heap H):=λb o e=>Lj (KX b o e) (by
   cases q:H b with
   |none=>rfl
   |some u=>
    have e':b=a:=hA b (by rw[q];simp);subst e';rw[hK (by rw[q];simp)] at e;cases e)
  have hM:Mod K mg (ER eU.heap H):=⟨hKb,ZL vt,⟨mb,ZL hb,hbb⟩,let ⟨mc,h1,h2⟩:=abx;⟨mc,ZL h1,h2⟩⟩;have e0:Fx P w K mg (ER eU.heap H) Il [] eU H:=⟨rfl,hM,λb o e=>So e,Nat.le_of_eq (MK _ _),trivial,λb hb=>absurd (show b∈([]:List Addr) from hb) @k,c8,.of_eq hg⟩;refine oS ((F _ hKb (ZL vt)).run Il [] eU H ⟨[@m],[]⟩ [@m] [@m] _ _ hr e0 (Y0 eU (@m)) (.cons rfl .nil) (EN H hO hS)) λr s' h=>?_;cases r with
  |error e=>exact(hCX H e s' h).elim
  | ok fl=>
   cases fl with
   |next=>exact bE h
   |brk=>exact bE h
   |cont=>exact bE h
   | ret u=>
    obtain⟨v,H',os,bare,un,Bx,r',q⟩:=h;have q':v=.bl true:=q;subst q';obtain rfl:u=xT true:=r';refine⟨rfl,OldK.of_keep λb o e=>?_,os,bare⟩;cases q:H b with
    |none=>exact un.keep b o e q (by intro z;exact absurd (show b∈([]:List Addr) from z) @k) @k
    |some u=>
     rcases hO b with z |⟨ob,xs,z⟩
     .rw[q] at z;cases z
     .have z2:=un.q5 b ob _ z;obtain⟨e1,_⟩:=c8 b _ z;obtain⟨e2,_⟩:=Bx b _ z2;rw[e] at e1;cases e1;exact e2
 cases hk:K.lookup a with
 |some o=>
  have e:=KX a o hk;rw[ha] at e;cases e;refine core (λ_=>none) (λ_=>@E) (.inr ⟨_,vs.toArray,_,hk,rfl,rfl,rfl,by rw[aZ,aaW];exact hl,by simpa using rv⟩) (λb u z=>by have z':(none:Option HO)=some u:=z;cases z') (λb z=>absurd rfl z) λz=>absurd rfl z
 | none=>
  refine core (λb=>if b=a then some (.kU {cls:=.type "list",data:=.seq vs.toArray} (.lst (ns.map V.int))) else none) (λb=>?_) (.inl (.inr ⟨{cls:=.type "list",data:=.seq vs.toArray},if_pos rfl⟩)) (λb u z=>?_) (λb z=>?_) λ_=>hk
  .by_cases hb:b=a
   .exact .inr ⟨_,_,if_pos hb⟩
   .exact .inl (if_neg hb)
  .by_cases hb:b=a
   .have z':=(if_pos hb).symm.trans z;cases z';subst hb;exact⟨ha,by rw[ax];exact hl,vs,_,rv,ha⟩
   .have z':=(if_neg hb).symm.trans z;cases z'
  .by_cases hb:b=a
   .exact hb
   .exact absurd (if_neg hb) z
theorem Q7{l:D9}{n k:Nat}{q:bY}{loose:@n}{XP:(@aa)->Heap->Prop}{YP:World->Heap->Prop}{d:DefRec}{K:kg->aB}{CX:World->JQ}{sp:World->Sp}{x:Str}
  (hn:l.most=some n) (ZV:n<=bB) (YV:d.params.defaults=[]) (hr:fM k Il)
  (hY:∀(w:World) (h:Heap),YP w h->(K w.params).In h)
  (F:∀(w:World) (mg:@aa) (fa:Addr) (h:Heap),(K w.params).In h->h.Ns bj mg->mg d.name=some (.ref fa) ->
   ∃fd:cG,(∀(s:aL) (u:Value),BindsTo s fd ⟨[u],[]⟩ [(x,u)]) /\
    ∀base:Heap,(K w.params).In base->base.Ns bj mg->lu l.prog w (K w.params) mg base (CX w) k fa fd [x] (sp w))
  (EN:∀(w:World) (H:Hp) (a:Addr) (ns:@I),ns.length<=n->Tn H->qE (K w.params) H a (ns.map V.int)->sp w [@m] H (λv _=>v=.bl true) λ_ _ _=>False)
  (hCX:∀(w:World) (H:Hp) (s:aL) (e:Value) (s':aL),CX w [] H s (λ_ _ _=>False) e s'->False):
  PySem.W.WalkO q loose XP YP l.row.toRowW d [] (λf vs=>JU f vs):=by
 refine Att.Hq hn YV λw iR eU mg mb fa o pm cd doc a vs ns G Y ho hd KJ YL V8 hints hlen hg=>?_;have KX:=hY w _ Y;obtain⟨fd,hb,hF⟩:=F w mg fa _ KX G.T.g YL;exact Pb KX G.T.g G.T.b G.T.builtins G.T.nolimit hg V8 hints (cY hlen ZV) hr hF hb (λH hO hS=>EN w H a ns hlen hO hS) λH e s'=>hCX w H eU e s'
end L2
/- THE ahh Z7 (shape;LID,My.* are acD):
   My.Adr:a structure of the addresses aeK aeE adu names (classes,Xo);My.Txt K t:a structure (Prop) of the equations over K;
   My.aai:{K} {implicit addresses ..} (e1:nsIn K bj "law"=some (some (.ref f))) (e2:K.lookup f=some ⟨oc,od,.func (fnOf "law" "law" params body scope dV kV doc pm an fT ct),sl⟩) (e3:codeIn K fT "law"=true) ..:∃t,My.Txt K t
(the tactic k_is has no namespace:write k_is) -/
namespace L2
open PySem PySem.Spec PyProof.Rows
abbrev tu:JQ:=λ_ _ _ _ _ _=>False
abbrev E0:XK:=λ_ _ _=>False
theorem Kk:Passes tu X E0:=λ_ _ _ _ _ _ _ h=>h.elim
structure Qy(K:aB)(x qual:Str)(st:Stmt)(f:Addr)(fd:cG):Prop where
 ex:∃(oc:Value) (od:Option Addr) (kV doc pm:Value) (an:Option Addr) (fT ct:Value) (HX:Array (Option Value)),
  fd=jh x qual (fm st) (c7 st) (bK st) .none kV doc pm an fT ct/\K.lookup f=some ⟨oc,od,.func fd,HX⟩/\FU K fT qual=true
 kp:iN K (.ref f)=true
section
variable {P:bY} {w:World} {K:aB} {mg:@aa} {base:Heap}
theorem Qy.ok{st:Stmt}(F:Qy K x qual st f fd)(S:ip N ps (bK st))(len:∀vs H Q E,sp vs H Q E->vs.length=ps.length)
  (PL:∀(fT:Value) (A:eI) (outer:List Env) (s:aL) (H:Hp) (vs:List V) (Q:VK) (E:XK),fM k (A.deeper (AJ qual (bK st) s.heap.objs.size f fT))->sp vs H Q E ->
   ∃t,XA (vE tu P w K mg base N qual (bK st) f fT A outer s H E).VE (c7 st) t/\t {nx:=λ_ H'=>Q .ff H',rt:=Q} (start N vs) H):lu P w K mg base tu (k+1) f fd ps sp:=by
 obtain⟨oc,od,kV,doc,pm,an,fT,ct,HX,rfl,lk,KJ⟩:=F.ex;refine T9 lk KJ S len λA outer s H vs Q E hr EN=>?_;obtain⟨t,h,q⟩:=PL fT A outer s H vs Q E hr EN;exact⟨t,h.VE,q⟩
theorem Qy.binds{st:Stmt}(F:Qy K x qual st f fd)
  (h:∀(kV doc pm:Value) (an:Option Addr) (fT ct:Value) (us:@D),us.length=ps.length->yd (jh x qual (fm st) (c7 st) (bK st) .none kV doc pm an fT ct) ⟨us,[]⟩=pure (ps.zip us)):Binds K fd ps []:=by
 obtain⟨oc,od,kV,doc,pm,an,fT,ct,HX,rfl,lk,KJ⟩:=F.ex;exact .all (h kV doc pm an fT ct)
theorem PW{st:Stmt}{kV:Value}(l:K.lookup f=some ⟨oc,od,.func (jh x qual (fm st) (c7 st) (bK st) .none kV doc pm an fT ct),HX⟩)
  (c:FU K fT qual=true) (k:iN K (.ref f)=true):Qy K x qual st f (jh x qual (fm st) (c7 st) (bK st) .none kV doc pm an fT ct):=⟨⟨oc,od,kV,doc,pm,an,fT,ct,HX,rfl,l,c⟩,k⟩
end
end L2
section
namespace K2
open PySem (Str)
abbrev PK:=List (List (@I))
inductive D where
 |ff |bl (b:Bool) |int (i:Int) |str (x:Str) |tup (ds:@i) |dR (ds:@i) |pZ (bx:List (D×D)) |ref (a:Nat) |exc (c:Str) |Cr (c:Str) (ns:@n) (ds:@i) |Dp (bx:List (PK×D))
 deriving Inhabited
inductive GO where
 |lst (ds:@i)
 |jG (bx:List (D×D))
 |ins (c:Str) (fs:List (Str×D))
 |Ia (bx:List (PK×D))
abbrev Gp:=Nat->Option GO
noncomputable def ck(G:Gp)(a:Nat)(o:GO):Gp:=λb=>if b=a then @j else G b
theorem az:ck G a o a=@j:=by unfold ck;rw[if_pos rfl]
theorem dm(h:b≠a):ck G a o b=G b:=by unfold ck;rw[if_neg h]
noncomputable abbrev SZ:Nat:=16777216
structure Ex where
 cls:Str
 agW:List (Str×D)
abbrev iM:=Ex->@t
abbrev ik:=List (Option D)
abbrev DK:=D->@t
abbrev fh:=iM->ik->Gp->DK->Prop
abbrev yJ:=iM->ik->Gp->(Bool->@t)->Prop
abbrev sV:=iM->ik->Gp->(@i->@t)->Prop
structure kN where
 nx:ik->@t
 rt:DK
 bk:ik->@t
 ct:ik->@t
abbrev da:=iM->kN->ik->@t
abbrev di:=@i->Gp->DK->iM->Prop
abbrev FJ:=D->D->Gp->DK->Prop
noncomputable def HY(n:Nat)(i:Int):Option Nat:=if 0<=i then(if i<n then some i.toNat else none) else if -(n:Int)<=i then some (i+n).toNat else none
def mH{α:Type}(xs:@H)(i:Int):Option α:=(HY xs.length i).bind λj=>xs[j]?
noncomputable def jl(n d:Nat):Option Int->Nat
 |none=>d
 |some v=>if v<0 then(v+(n:Int)).toNat else min v.toNat n
def cut{α:Type}(xs:@H)(lo hi:Option Int):@H:=(xs.drop (jl xs.length 0 lo)).take (jl xs.length xs.length hi-jl xs.length 0 lo)
mutual
noncomputable def jf:D->D->Bool
 |.ff,.ff=>true
 |.bl a,.bl b=>a == b
 |.bl a,.int b=>(if a then 1 else 0) == b
 |.int a,.bl b=>a == (if b then 1 else 0)
 |.int a,.int b=>a == b
 |.str a,.str b=>a == b
 |.tup a,.tup b=>kL a b
 |.dR a,.dR b=>kL a b
 |_,_=>false
noncomputable def kL:@i->@i->Bool
 |[],[]=>true
 |a::r,b::t=>jf a b&&kL r t
 |_,_=>false
end
mutual
noncomputable def nr:D->Bool
 |.ref _=>false
 |.exc _=>false
 |.Cr _ _ _=>false
 |.pZ _=>false
 |.Dp _=>false
 |.str x=>x.cps.all (·<0x110000)
 |.tup ds=>EF ds
 |.dR ds=>EF ds
 |_=>true
noncomputable def EF:@i->Bool
 |[]=>true
 |d::r=>nr d&&EF r
end
class inductive Sn (G:Gp):Nat->D->D->Prop
 |ff {n:Nat}:Sn G n .ff .ff
 |bl {n:Nat} (b:Bool):Sn G n (.bl b) (.bl b)
 |int {n:Nat} (i:Int):Sn G n (.int i) (.int i)
 |str {n:Nat} (x:Str) (h:x.cps.all (·<0x110000)=true):Sn G n (.str x) (.str x)
 |F6 {n:Nat}:Sn G (n+1) (.tup []) (.tup [])
 |qG {n:Nat} {d s:D} {ds ss:@i}:Sn G n d s->Sn G (n+1) (.tup ds) (.tup ss)->Sn G (n+1) (.tup (d::ds)) (.tup (s::ss))
 |Es {n:Nat}:Sn G (n+1) (.dR []) (.dR [])
 |A7 {n:Nat} {d s:D} {ds ss:@i}:Sn G n d s->Sn G (n+1) (.dR ds) (.dR ss)->Sn G (n+1) (.dR (d::ds)) (.dR (s::ss))
 |ref {n:Nat} {a:Nat} {ds ss:@i}:G a=some (.lst ds)->Sn G n (.dR ds) (.dR ss)->Sn G n (@m) (.dR ss)
noncomputable abbrev SN:Nat:=8
theorem Sn.nr(h:Sn G n d t):K2.nr t=true:=by
 induction h with
 |ff=>rfl
 |bl b=>rfl
 |int i=>rfl
 |str x h=>exact h
 |F6=>rfl
 |qG _ _ Pp Pn=>
  show(K2.nr _&&K2.EF _)=true;rw[Pp];exact Pn
 |Es=>rfl
 |A7 _ _ Pp Pn=>
  show(K2.nr _&&K2.EF _)=true;rw[Pp];exact Pn
 |ref _ _ ih=>exact ih
noncomputable def X9(k:PK):D:=.tup (k.map λr=>.tup (r.map λt=>.tup (t.map D.int)))
noncomputable def fS:D->Bool
 |.int _=>true
 |.str _=>true
 |_=>false
def HU:D->Gp->Option Bool
 |.ff,_=>some false
 |.bl b,_=>some b
 |.int i,_=>some (i != 0)
 |.str x,_=>if x.length<=SZ then some ((x.length:Int) != 0) else none
 |.tup ds,_=>some (!ds.isEmpty)
 |.dR ds,_=>some (!ds.isEmpty)
 |.exc _,_=>none
 |.Cr _ _ _,_=>none
 |.Dp _,_=>none
 |.pZ bx,_=>if(bx.all λp=>fS p.1)=true then some (!bx.isEmpty) else none
 |.ref a,G=>match G a with
  |some (.lst ds)=>some (!ds.isEmpty)
  |some (.jG bx)=>if(bx.all λp=>fS p.1)=true then some (!bx.isEmpty) else none
  |_=>none
def ak(i:Nat):fh:=λ_ τ G Q=>match τ[i]? with
 |some (some d)=>Q d G
 |_=>False
def dC(d:D):fh:=λ_ _ G Q=>Q d G
def aA:sV:=λ_ _ G Q=>Q [] G
def ah(a:fh)(r:sV):sV:=λE τ G Q=>a E τ G λx G1=>r E τ G1 λxs G2=>Q (x::xs) G2
def bJ(t:sV):fh:=λE τ G Q=>t E τ G λds G1=>ds.length<=SZ/\Q (.tup ds) G1
def cg(t:sV):fh:=λE τ G Q=>t E τ G λds G1=>ds.length<=SZ/\∀p,G1 p=none->Q (.ref p) (ck G1 p (.lst ds))
def aG(r:FJ)(a b:fh):fh:=λE τ G Q=>a E τ G λx G1=>b E τ G1 λy G2=>r x y G2 Q
def rq(r:D->Gp->DK->Prop)(a:fh):fh:=λE τ G Q=>a E τ G λx G1=>r x G1 Q
def jN(G:Gp)(o:GO)(Q:DK):Prop:=∀p,G p=none->Q (.ref p) (ck G p o)
def MulOk(i j:Int):Prop:=(-(2 ^ 64)<i/\i<2 ^ 64)\/(-(2 ^ 64)<j/\j<2 ^ 64)
noncomputable def qP:D->Gp->Option (@i)
 |.dR ds,_=>some ds
 |.ref a,G=>match G a with
  |some (.lst ds)=>some ds
  |_=>none
 |_,_=>none
def BZ(x y:D)(G:Gp)(Q:DK):Prop:=match qP x G,qP y G with
 |some xs,some ys=>xs.length+ys.length<=SZ/\jN G (.lst (xs++ys)) Q
 |_,_=>False
def iK:FJ
 |.int i,.int j,G,Q=>Q (.int (i+j)) G
 |.str a,.str b,G,Q=>a.length+b.length<=SZ/\Q (.str (a++b)) G
 |.tup a,.tup b,G,Q=>a≠[]/\a.length+b.length<=SZ/\Q (.tup (a++b)) G
 |x,y,G,Q=>BZ x y G Q
def CA:FJ
 |.int i,.int j,G,Q=>Q (.int (i-j)) G
 |_,_,_,_=>False
def ud:FJ
 |.int i,.int j,G,Q=>MulOk i j/\Q (.int (i*j)) G
 |_,_,_,_=>False
def jJ:FJ
 |.int i,.int j,G,Q=>0<j/\Q (.int (i % j)) G
 |_,_,_,_=>False
def wM:FJ
 |.int i,.int j,G,Q=>0<j/\j<2 ^ 30/\Q (.int (i / j)) G
 |_,_,_,_=>False
def vi:D->Gp->DK->Prop
 |.int i,G,Q=>Q (.int (-i)) G
 |_,_,_=>False
def ic(neg:Bool):FJ:=λx y G Q=>∃a b,Sn G SN x a/\Sn G SN y b/\Q (.bl (if neg then !jf a b else jf a b)) G
noncomputable def lexLt:@I->@I->Bool
 |[],[]=>false
 |[],_::_=>true
 |_::_,[]=>false
 |x::xs,y::ys=>if x=y then lexLt xs ys else decide (x<y)
def X5:FJ
 |.int i,.int j,G,Q=>Q (.bl (decide (i<j))) G
 |.tup a,.tup b,G,Q=>∃xs ys,a=xs.map D.int/\b=ys.map D.int/\Q (.bl (lexLt xs ys)) G
 |_,_,_,_=>False
def rLe:FJ
 |.int i,.int j,G,Q=>Q (.bl (decide (i<=j))) G
 |_,_,_,_=>False
def Va:FJ
 |.int i,.int j,G,Q=>Q (.bl (decide (i>j))) G
 |_,_,_,_=>False
def rGe:FJ
 |.int i,.int j,G,Q=>Q (.bl (decide (i>=j))) G
 |_,_,_,_=>False
def EA(neg:Bool):D->Gp->DK->Prop:=λx G Q=>match x with
 |.ff=>Q (.bl (!neg)) G
 |_=>Q (.bl neg) G
noncomputable def itemsOf:D->Gp->Option (@i)
 |.tup ds,_=>some ds
 |.dR ds,_=>some ds
 |.ref a,G=>match G a with
  |some (.lst ds)=>some ds
  |_=>none
 |_,_=>none
def vp:D->Bool
 |.tup ds=>ds.all fS
 |_=>false
def iF(bx:List (D×D))(k:D):Bool:=(fS k&&bx.all λp=>fS p.1)||(vp k&&bx.all λp=>vp p.1)
def look(bx:List (D×D))(k:D):Option D:=(bx.find? λp=>jf p.1 k).map (·.2)
def put(bx:List (D×D))(k v:D):List (D×D) :=
 if(bx.any λp=>jf p.1 k)=true then bx.map (λp=>if jf p.1 k=true then(p.1,v) else p) else bx++[(k,v)]
def uN(neg:Bool):FJ:=λx y G Q=>match y with
 |.ref a=>(match G a with
  |some (.jG bx)=>iF bx x=true/\Q (.bl (if neg then !(look bx x).isSome else(look bx x).isSome)) G
  |some (.lst ds)=>∃s ss,Sn G SN x s/\Sn G SN (.dR ds) (.dR ss)/\Q (.bl (if neg then !ss.any (jf · s) else ss.any (jf · s))) G
  |_=>False)
 |.pZ bx=>bx≠[]/\iF bx x=true/\Q (.bl (if neg then !(look bx x).isSome else(look bx x).isSome)) G
 |.tup ds=>∃s ss,Sn G SN x s/\Sn G SN (.dR ds) (.dR ss)/\Q (.bl (if neg then !ss.any (jf · s) else ss.any (jf · s))) G
 |.dR ds=>∃s ss,Sn G SN x s/\Sn G SN (.dR ds) (.dR ss)/\Q (.bl (if neg then !ss.any (jf · s) else ss.any (jf · s))) G
 |_=>False
def cK:FJ
 |.tup ds,.int i,G,Q=>(match mH ds i with
  |some d=>Q d G
  |none=>False)
 |.dR ds,.int i,G,Q=>(match mH ds i with
  |some d=>Q d G
  |none=>False)
 |.pZ bx,k,G,Q=>iF bx k=true/\(match look bx k with
  |some d=>Q d G
  |none=>False)
 | .ref a,k,G,Q=>(match G a with
  | some (.lst ds)=>(match k with
   |.int i=>(match mH ds i with
    |some d=>Q d G
    |none=>False)
   |_=>False)
  |some (.jG bx)=>iF bx k=true/\(match look bx k with
   |some d=>Q d G
   |none=>False)
  |_=>False)
 |_,_,_,_=>False
abbrev WT:=iM->ik->Gp->(Option Int->@t)->Prop
def bU:WT:=λ_ _ G Q=>Q none G
def gW(t:fh):WT:=λE τ G Q=>t E τ G λx G1=>match x with
 |.int i=>Q (some i) G1
 |_=>False
def Oj:D->Option Int->Option Int->Gp->DK->Prop
 |.tup ds,lo,hi,G,Q=>¬ (jl ds.length 0 lo=0/\jl ds.length ds.length hi=ds.length)/\Q (.tup (cut ds lo hi)) G
 |.dR ds,lo,hi,G,Q=>jN G (.lst (cut ds lo hi)) Q
 |.ref a,lo,hi,G,Q=>(match G a with
  |some (.lst ds)=>jN G (.lst (cut ds lo hi)) Q
  |_=>False)
 |_,_,_,_,_=>False
def lT(a:fh)(lo hi:WT):fh:=λE τ G Q=>a E τ G λx G1=>lo E τ G1 λl G2=>hi E τ G2 λh G3=>Oj x l h G3 Q
def bX(a:fh):yJ:=λE τ G Q=>a E τ G λx G1=>match HU x G1 with
 |some b=>Q b G1
 |none=>False
def qA(a b:yJ):yJ:=λE τ G Q=>a E τ G λc G1=>if c=true then b E τ G1 Q else Q false G1
def sT(a b:yJ):yJ:=λE τ G Q=>a E τ G λc G1=>if c=true then Q true G1 else b E τ G1 Q
def iG(a:yJ):yJ:=λE τ G Q=>a E τ G λc G1=>Q (!c) G1
def DS(a b:fh):fh:=λE τ G Q=>a E τ G λx G1=>match HU x G1 with
 |some true=>b E τ G1 Q
 |some false=>Q x G1
 |none=>False
def MX(a b:fh):fh:=λE τ G Q=>a E τ G λx G1=>match HU x G1 with
 |some true=>Q x G1
 |some false=>b E τ G1 Q
 |none=>False
def K8(a:fh):fh:=λE τ G Q=>a E τ G λx G1=>match HU x G1 with
 |some c=>Q (.bl (!c)) G1
 |none=>False
def E9(c:yJ)(a b:fh):fh:=λE τ G Q=>c E τ G λk G1=>if k=true then a E τ G1 Q else b E τ G1 Q
def aO(sp:di)(t:sV):fh:=λE τ G Q=>t E τ G λds G1=>sp ds G1 Q @f
def gJ(r:@i->Gp->DK->Prop)(t:sV):fh:=λE τ G Q=>t E τ G λds G1=>r ds G1 Q
def pY(x:D)(G:Gp):Prop:=match x with
 |.ref a=>(match G a with
  |some (.lst _)=>True
  |_=>False)
 |.dR _=>True
 |_=>False
def XG(x:D)(G:Gp):Prop:=match x with
 |.pZ _=>True
 |.ref a=>(match G a with
  |some (.jG _)=>True
  |_=>False)
 |_=>False
def tyS(x:D)(_:Gp):Prop:=match x with
 |.str _=>True
 |_=>False
def iZ(ty:D->@t)(r:D->@i->Gp->DK->Prop)(o:fh)(t:sV):fh:=λE τ G Q=>o E τ G λx G1=>ty x G1/\t E τ G1 λds G2=>r x ds G2 Q
def lenOf:D->Gp->Option Nat
 |.tup ds,_=>some ds.length
 |.dR ds,_=>some ds.length
 |.str x,_=>if x.length<=SZ then some x.length else none
 |.pZ bx,_=>if(bx.all λp=>fS p.1)=true then some bx.length else none
 |.ref a,G=>match G a with
  |some (.lst ds)=>some ds.length
  |some (.jG bx)=>if(bx.all λp=>fS p.1)=true then some bx.length else none
  |_=>none
 |_,_=>none
def iL(ds:@i)(G:Gp)(Q:DK):Prop:=match ds with
 |[x]=>(match lenOf x G with
  |some n=>Q (.int (n:Int)) G
  |none=>False)
 |_=>False
def oA(ds:@i)(G:Gp)(Q:DK):Prop:=match ds with
 |[x]=>(match itemsOf x G with
  |some xs=>jN G (.lst xs) Q
  |none=>False)
 |_=>False
noncomputable def TV(C:String):D->Gp->Option Bool
 |.ff,_=>some false
 |.bl _,_=>some (C == "bool" || C == "int")
 |.int _,_=>some (C == "int")
 |.str _,_=>some (C == "str")
 |.tup _,_=>some (C == "tuple")
 |.dR _,_=>some (C == "list")
 |.pZ _,_=>some (C == "dict")
 |.exc _,_=>none
 |.Cr _ _ _,_=>none
 |.Dp _,_=>none
 |.ref a,G=>match G a with
  |some (.lst _)=>some (C == "list")
  |some (.jG _)=>some (C == "dict")
  |_=>none
def E8(C:String)(a:fh):fh:=λE τ G Q=>a E τ G λx G1=>match TV C x G1 with
 |some b=>Q (.bl b) G1
 |none=>False
def Qm(ds:@i)(G:Gp)(Q:DK):Prop:=match ds with
 |[x]=>∃bs:List Bool,itemsOf x G=some (bs.map D.bl)/\Q (.bl (bs.all id)) G
 |_=>False
def du(x:D)(ds:@i)(G:Gp)(Q:DK):Prop:=match x,ds with
 |.ref a,[d]=>(match G a with
  |some (.lst xs)=>xs.length<SZ/\Q .ff (ck G a (.lst (xs++[d])))
  |_=>False)
 |_,_=>False
def tM(x:D)(ds:@i)(G:Gp)(Q:DK):Prop:=match x,ds with
 |.ref a,[y]=>(match G a,qP y G with
  |some (.lst xs),some ys=>xs.length+ys.length<=SZ/\Q .ff (ck G a (.lst (xs++ys)))
  |_,_=>False)
 |_,_=>False
def tK(x:D)(ds:@i)(G:Gp)(Q:DK):Prop:=match x,ds with
 |.ref a,[.int i,d]=>(match G a with
  |some (.lst xs)=>0<=i/\i<=xs.length/\xs.length<SZ/\Q .ff (ck G a (.lst (xs.take i.toNat++d::xs.drop i.toNat)))
  |_=>False)
 |_,_=>False
def oI(x:D)(ds:@i)(G:Gp)(Q:DK):Prop:=match ds with
 |[d]=>pY x G/\∃xs s ss,itemsOf x G=some xs/\Sn G SN d s/\Sn G SN (.dR xs) (.dR ss)/\(match ss.findIdx? (jf · s) with
  |some k=>Q (.int (k:Int)) G
  |none=>False)
 |_=>False
def GB(x:D)(ds:@i)(G:Gp)(Q:DK):Prop:=match x,ds with
 | .ref a,[k,d]=>(match G a with
  |some (.jG bx)=>iF bx k=true/\fS k=true/\(match look bx k with
   |some v=>Q v G
   |none=>bx.length<SZ/\Q d (ck G a (.jG (put bx k d))))
  |_=>False)
 |_,_=>False
def aX:da:=λ_ K τ G=>K.nx τ G
def aU(a b:da):da:=λE K τ G=>a E {K with nx:=b E K} τ G
def bw(a:fh):da:=λE K τ G=>a E τ G λ_ G1=>K.nx τ G1
def bc(a:fh):da:=λE K τ G=>a E τ G K.rt
def Hi:da:=λ_ K _ G=>K.rt .ff G
def bF(c:yJ)(a b:da):da:=λE K τ G=>c E τ G λk G1=>if k=true then a E K τ G1 else b E K τ G1
def dJ:da:=λ_ _ _ _=>False
abbrev B1:=iM->D->ik->Gp->(ik->@t)->Prop
abbrev B0:=iM->@i->ik->Gp->(ik->@t)->Prop
def aE(i:Nat):B1:=λ_ d τ G Q=>Q (τ.set i (some d)) G
def lh:B0:=λ_ ds τ G Q=>match ds with
 |[]=>Q τ G
 |_=>False
def ez(t:B1)(r:B0):B0:=λE ds τ G Q=>match ds with
 |d::ds=>t E d τ G λuw G1=>r E ds uw G1 Q
 |_=>False
def kI(t:B0):B1:=λE d τ G Q=>match d with
 |.tup ds=>t E ds τ G Q
 |_=>False
def Gi(o k d:D)(G:Gp)(Q:@t):Prop:=match o with
 | .ref a=>(match G a with
  | some (.lst xs)=>(match k with
   |.int i=>(match HY xs.length i with
    |some j=>Q (ck G a (.lst (xs.set j d)))
    |none=>False)
   |_=>False)
  |some (.jG bx)=>iF bx k=true/\bx.length<SZ/\Q (ck G a (.jG (put bx k d)))
  |_=>False)
 |_=>False
def q4(o k:fh):B1:=λE d τ G Q=>o E τ G λx G1=>k E τ G1 λy G2=>Gi x y d G2 λG3=>Q τ G3
def aS(a:fh)(g:B1):da:=λE K τ G=>a E τ G λx G1=>g E x τ G1 K.nx
abbrev Qv:=iM->ik->Gp->(@i->(@t)->@t)->Prop
def ig(a:fh):Qv:=λE τ G R=>a E τ G λx G1=>match x with
 |.tup ds=>R ds (λ_=>True) G1
 |.dR ds=>R ds (λ_=>True) G1
 |.ref p=>(match G1 p with
  |some (.lst ds)=>R ds (λG2=>G2 p=some (.lst ds)) G1
  |_=>False)
 |_=>False
noncomputable def fe(lo:Int)(n:Nat):@i:=(dG n).map λ(i:Nat)=>D.int (lo+(i:Int))
def lN(a:fh):Qv:=λE τ G R=>a E τ G λx G1=>match x with
 |.int n=>-(2 ^ 62)<=n/\n<2 ^ 62/\R (fe 0 n.toNat) (λ_=>True) G1
 |_=>False
def uQ(g:B1)(body:da)(ok:@t):@i->da
 |[]=>λ_ K τ G=>ok G/\K.nx τ G
 |d::r=>λE K τ G=>ok G/\g E d τ G λuw G1=>body E {K with nx:=uQ g body ok r E K,ct:=uQ g body ok r E K,bk:=K.nx} uw G1
def c4(i:Qv)(g:B1)(body:da):da:=λE K τ G=>i E τ G λds ok G1=>uQ g body ok ds E K τ G1
def zK(c:yJ)(body:da):Nat->da
 |0=>λ_ _ _ _=>False
 |n+1=>λE K τ G=>c E τ G λk G1=>if k=true then body E {K with nx:=zK c body n E K,ct:=zK c body n E K,bk:=K.nx} τ G1 else K.nx τ G1
def E7(c:yJ)(body:da):da:=λE K τ G=>∃n,zK c body n E K τ G
def jO(g:B1)(c:Option yJ)(e:fh)(ok:@t):@i->iM->ik->Gp->@i->(@i->@t)->Prop
 |[],_,_,G,acc,Q=>ok G/\Q acc G
 |d::r,E,τ,G,acc,Q=>ok G/\g E d τ G λuw G1=>match c with
  |none=>e E uw G1 λx G2=>jO g c e ok r E uw G2 (acc++[x]) Q
  |some c=>c E uw G1 λk G2=>if k=true then e E uw G2 λx G3=>jO g (some c) e ok r E uw G3 (acc++[x]) Q else jO g (some c) e ok r E uw G2 acc Q
noncomputable def vF(m:Nat)(fr:List Nat)(τ:ik):ik:=aN m none++fr.map λi=>(τ[i]?).getD none
def eK(m:Nat)(fr:List Nat)(i:Qv)(g:B1)(c:Option yJ)(e:fh):fh:=λE τ G Q=>
 i E τ G λds ok G1=>ds.length<=SZ/\jO g c e ok ds (@f) (vF m fr τ) G1 [] λxs G2=>jN G2 (.lst xs) Q
noncomputable abbrev tI(ns:@I):D:=.tup (@ad)
noncomputable def aaT:@I->Option Int
 |[]=>none
 |a::r=>some (r.foldl (λm x=>if x<m then x else m) a)
def aaS:List (@I)->Option (@I)
 |[]=>none
 |a::r=>some (r.foldl (λm x=>if lexLt x m=true then x else m) a)
def Hn(ds:@i)(G:Gp)(Q:DK):Prop:=match ds with
 |[x]=>(∃ns m,itemsOf x G=some (@ad)/\aaT ns=some m/\Q (.int m) G)\/∃ZK m,itemsOf x G=some (ZK.map tI)/\aaS ZK=some m/\Q (tI m) G
 |_=>False
def sU:fh:=λ_ _ G Q=>jN G (.jG []) Q
def cO(G G':Gp):Prop:=∀a o,G a=@j->G' a=@j
theorem cO.refl(G):cO G G:=λ_ _ h=>h
theorem cO.trans(a:cO G G1)(b:cO G1 G2):cO G G2:=λc o h=>b c o (a c o h)
theorem cO.new{G:Gp}{p:Nat}{o:GO}(h:G p=none):cO G (ck G p o):=λa ob e=>by
 by_cases ha:a=p
 .subst ha;rw[h] at e;cases e
 .rw[dm ha];exact e
theorem cO.free(l:@w)(h:G' p=none):G p=none:=by
 cases q:G p with
 |none=>rfl
 |some o=>rw[l p o q] at h;cases h
theorem cO.put(l:@w)(h:G p=none):cO G (ck G' p o):=λa ob e=>by
 by_cases ha:a=p
 .subst ha;rw[h] at e;cases e
 .rw[dm ha];exact l a ob e
noncomputable def ends(Q:DK):kN:=⟨λ_ G=>Q .ff G,Q,@f,@f⟩
noncomputable def aJ(n:Nat)(ds:@i):ik:=ds.map some++aN (n-ds.length) none
def QM(x:D)(G1:Gp)(R:@i->(@t)->@t):Prop:=match x with
 |.tup ds=>R ds (λ_=>True) G1
 |.dR ds=>R ds (λ_=>True) G1
 |.ref p=>(match G1 p with
  |some (.lst ds)=>R ds (λG2=>G2 p=some (.lst ds)) G1
  |_=>False)
 |_=>False
def OR(x:D)(G1:Gp)(Q:Option Int->@t):Prop:=match x with
 |.int i=>Q (some i) G1
 |_=>False
def rN(x:D)(G1:Gp)(Q:Bool->@t):Prop:=match HU x G1 with
 |some b=>Q b G1
 |none=>False
def TC(x:D)(G1:Gp)(R:@i->(@t)->@t):Prop:=match x with
 |.int n=>-(2 ^ 62)<=n/\n<2 ^ 62/\R (fe 0 n.toNat) (λ_=>True) G1
 |_=>False
def isAt(C:String)(x:D)(G1:Gp)(Q:DK):Prop:=match TV C x G1 with
 |some b=>Q (.bl b) G1
 |none=>False
theorem dN:iK (.int i) (.int j) G Q=Q (.int (i+j)) G:=rfl
theorem sk:iK (.tup a) (.tup b) G Q=(a≠[]/\a.length+b.length<=SZ/\Q (.tup (a++b)) G):=rfl
theorem iW:CA (.int i) (.int j) G Q=Q (.int (i-j)) G:=rfl
theorem mY:ud (.int i) (.int j) G Q=(MulOk i j/\Q (.int (i*j)) G):=rfl
theorem cV:jJ (.int i) (.int j) G Q=(0<j/\Q (.int (i % j)) G):=rfl
theorem iE:wM (.int i) (.int j) G Q=(0<j/\j<2 ^ 30/\Q (.int (i / j)) G):=rfl
theorem fx:vi (.int i) G Q=Q (.int (-i)) G:=rfl
theorem tJ:X5 (.int i) (.int j) G Q=Q (.bl (decide (i<j))) G:=rfl
theorem wJ:rLe (.int i) (.int j) G Q=Q (.bl (decide (i<=j))) G:=rfl
theorem lA:Va (.int i) (.int j) G Q=Q (.bl (decide (i>j))) G:=rfl
theorem wL:rGe (.int i) (.int j) G Q=Q (.bl (decide (i>=j))) G:=rfl
theorem RA(h:mH ds i=some d):cK (.dR ds) (.int i) G Q=Q d G:=by unfold cK;simp only[h]
theorem RC{a:Nat}{ds:@i}{i:Int}{d:D}{G:Gp}{Q:DK}(h1:G a=some (.lst ds))(h:mH ds i=some d):cK (@m) (.int i) G Q=Q d G:=by unfold cK;simp only[h1,h]
theorem fH:Oj (.tup ds) lo hi G Q=(¬ (jl ds.length 0 lo=0/\jl ds.length ds.length hi=ds.length)/\Q (.tup (cut ds lo hi)) G):=rfl
theorem wI:Oj (.dR ds) lo hi G Q=jN G (.lst (cut ds lo hi)) Q:=rfl
theorem Rz{a:Nat}{ds:@i}{lo hi:Option Int}{G:Gp}{Q:DK}(h:G a=some (.lst ds)):Oj (@m) lo hi G Q=jN G (.lst (cut ds lo hi)) Q:=by unfold Oj;simp only[h]
theorem pQ:iL [.dR ds] G Q=Q (.int (ds.length:Int)) G:=rfl
theorem pP:iL [.tup ds] G Q=Q (.int (ds.length:Int)) G:=rfl
theorem Ql{a:Nat}{ds:@i}{G:Gp}{Q:DK}(h:G a=some (.lst ds)):iL [@m] G Q=Q (.int (ds.length:Int)) G:=by unfold iL lenOf;simp only[h]
theorem cq:ig a E τ G R=a E τ G λx G1=>QM x G1 R:=by
 unfold ig QM;rfl
theorem w8:QM (.dR ds) G R=R ds (λ_=>True) G:=rfl
theorem tO:QM (.tup ds) G R=R ds (λ_=>True) G:=rfl
theorem Av{a:Nat}{ds:@i}{G:Gp}{R:@i->(@t)->@t}(h:G a=some (.lst ds)):QM (@m) G R=R ds (λG2=>G2 a=some (.lst ds)) G:=by unfold QM;simp only[h]
theorem cM:gW t E τ G Q=t E τ G λx G1=>OR x G1 Q:=rfl
theorem b8:OR (.int i) G Q=Q (some i) G:=rfl
theorem aY:bX a E τ G Q=a E τ G λx G1=>rN x G1 Q:=rfl
theorem aC:rN (.bl b) G Q=Q b G:=rfl
theorem Di{a:Nat}{ds:@i}{G:Gp}{Q:Bool->@t}(h:G a=some (.lst ds)):rN (@m) G Q=Q (!ds.isEmpty) G:=by unfold rN HU;simp only[h]
theorem eQ:lN a E τ G R=a E τ G λx G1=>TC x G1 R:=rfl
theorem dI:TC (.int n) G R=(-(2 ^ 62)<=n/\n<2 ^ 62/\R (fe 0 n.toNat) (λ_=>True) G):=rfl
theorem mz:E8 C a E τ G Q=a E τ G λx G1=>isAt C x G1 Q:=rfl
theorem pE    :isAt C (.int i) G Q=Q (.bl (C == "int")) G:=rfl
theorem pD    :isAt C (.tup ds) G Q=Q (.bl (C == "tuple")) G:=rfl
theorem Pj {C:String} {a:Nat} {ds:@i} {G:Gp} {Q:DK} (h:G a=some (.lst ds)):isAt C (@m) G Q=Q (.bl (C == "list")) G:=by unfold isAt TV;simp only[h]
theorem ny:DS a b E τ G Q=a E τ G λx G1=>rN x G1 λk G2=>if k=true then b E τ G2 Q else Q x G2:=by
 unfold DS rN;refine congrArg (a E τ G) ?_;funext x G1;cases HU x G1 with
 |none=>rfl
 |some k=>cases k<;>simp
theorem qz:MX a b E τ G Q=a E τ G λx G1=>rN x G1 λk G2=>if k=true then Q x G2 else b E τ G2 Q:=by
 unfold MX rN;refine congrArg (a E τ G) ?_;funext x G1;cases HU x G1 with
 |none=>rfl
 |some k=>cases k<;>simp
theorem pM:K8 a E τ G Q=a E τ G λx G1=>rN x G1 λk G2=>Q (.bl (!k)) G2:=rfl
theorem jv:iK (@m) y G Q=BZ (@m) y G Q:=by cases y<;>rfl
theorem ng:iK (.dR a) y G Q=BZ (.dR a) y G Q:=by cases y<;>rfl
theorem lz:Oj (@m) lo hi G Q=(match G a with
  |some (.lst ds)=>jN G (.lst (cut ds lo hi)) Q
  |_=>False):=rfl
theorem RB:cK (@m) k G Q=(match G a with
  | some (.lst ds)=>(match k with
   |.int i=>(match mH ds i with
    |some d=>Q d G
    |none=>False)
   |_=>False)
  |some (.jG bx)=>iF bx k=true/\(match look bx k with
   |some d=>Q d G
   |none=>False)
  |_=>False):=by unfold cK;cases k<;>rfl
theorem bG:cK (.tup ds) (.int i) G Q=(match mH ds i with
  |some d=>Q d G
  |none=>False):=rfl
theorem mZ:cK (.dR ds) (.int i) G Q=(match mH ds i with
  |some d=>Q d G
  |none=>False):=rfl
theorem pO:oA [@m] G Q=(match G a with
  |some (.lst ds)=>jN G (.lst ds) Q
  |_=>False):=by
 unfold oA itemsOf;cases h:G a with
 |none=>simp only[h]
 |some g=>cases g<;>simp only[h]
theorem cb:du (@m) [d] G Q=(match G a with
  |some (.lst xs)=>xs.length<SZ/\Q .ff (ck G a (.lst (xs++[d])))
  |_=>False):=rfl
theorem jW:tM (@m) [y] G Q=(match G a,qP y G with
  |some (.lst xs),some ys=>xs.length+ys.length<=SZ/\Q .ff (ck G a (.lst (xs++ys)))
  |_,_=>False):=rfl
theorem jV:tK (@m) [.int i,d] G Q=(match G a with
  |some (.lst xs)=>0<=i/\i<=xs.length/\xs.length<SZ/\Q .ff (ck G a (.lst (xs.take i.toNat++d::xs.drop i.toNat)))
  |_=>False):=rfl
theorem iA:GB (@m) [k,d] G Q=(match G a with
  |some (.jG bx)=>iF bx k=true/\fS k=true/\(match look bx k with
   |some v=>Q v G
   |none=>bx.length<SZ/\Q d (ck G a (.jG (put bx k d))))
  |_=>False):=rfl
theorem w6    :isAt C (.bl b) G Q=Q (.bl (C == "bool" || C == "int")) G:=rfl
theorem dU:pY (@m) G=(match G a with
  |some (.lst _)=>True
  |_=>False):=rfl
theorem qi:XG (@m) G=(match G a with
  |some (.jG _)=>True
  |_=>False):=rfl
theorem vX:pY (.dR ds) G=True:=rfl
theorem Ez:cK (.pZ bx) k G Q=(iF bx k=true/\(match look bx k with
  |some d=>Q d G
  |none=>False)):=by unfold cK;cases k<;>rfl
theorem vW:tyS (.str x) G=True:=rfl
noncomputable def CM(R:Nat->Bool)(G:Gp):Gp:=λa=>if R a=true then none else G a
mutual
inductive Fz (G:Gp) (R:Nat->Bool):D->D->Prop
 |same (d:D):Fz G R d d
 |tup {ds ss:@i}:Cf G R ds ss->Fz G R (.tup ds) (.tup ss)
 |dR {ds ss:@i}:Cf G R ds ss->Fz G R (.dR ds) (.dR ss)
 |ref {a:Nat} {ds ss:@i}:G a=some (.lst ds)->R a=true->Cf G R ds ss->Fz G R (@m) (.dR ss)
 |jG {a:Nat} {bx TQ:List (D×D)}:G a=some (.jG bx)->R a=true->JP G R bx TQ->Fz G R (@m) (.pZ TQ)
 |Ia {a:Nat} {bx TQ:List (PK×D)}:G a=some (.Ia bx)->R a=true->Cf G R (bx.map λp=>p.2) (TQ.map λp=>p.2)->bx.map (λp=>p.1)=TQ.map (λp=>p.1)->Fz G R (@m) (.Dp TQ)
inductive Cf (G:Gp) (R:Nat->Bool):@i->@i->Prop
 |nil:Cf G R [] []
 |cons {d s:D} {ds ss:@i}:Fz G R d s->Cf G R ds ss->Cf G R (d::ds) (s::ss)
inductive JP (G:Gp) (R:Nat->Bool):List (D×D)->List (D×D)->Prop
 |nil:JP G R [] []
 |cons {k d s:D} {ds ss:List (D×D)}:Fz G R d s->JP G R ds ss->JP G R ((k,d)::ds) ((k,s)::ss)
end
theorem JP.same:∀(bx:List (D×D)),JP G R bx bx
 |[]=>.nil
 |(k,v)::r=>.cons (.same v) (JP.same r)
def D5(G:Gp)(x:D)(Q:DK):Prop:=∃(R:Nat->Bool) (t:D),Fz G R x t/\Q t (CM R G)
def b5(e:fh):fh:=λE τ G Q=>e E τ G λx G1=>D5 G1 x Q
def Qb(i:Nat)(t:da):da:=λE K τ G=>t E {K with nx:=λuw G1=>match uw[i]? with
 |some (some d)=>D5 G1 d λt G2=>K.nx (uw.set i (some t)) G2
 |_=>False} τ G
theorem Cf.same:∀(ds:@i),Cf G R ds ds
 |[]=>.nil
 |d::ds=>.cons (.same d) (Cf.same ds)
theorem xB(l:cO G G1):CM (λa=>(G a).isNone) G1=G:=by
 funext a;unfold CM;cases h:G a with
 |none=>simp[h]
 |some o=>simp[l a o h,h]
theorem MV(l:cO G G1)(hp:G p=none)(h1:G1 p=@j):CM (λa=>(G a).isNone&&decide (a≠p)) G1=ck G p o:=by
 funext a;unfold CM ck;by_cases ha:a=p
 .subst ha;simp[h1]
 .cases h:G a with
  |none=>simp[ha,h]
  |some o=>simp[l a o h,ha,h]
theorem cF{G:Gp}{d:D}{Q:DK}(q:Q d G):D5 G d Q:=⟨λ_=>false,d,.same d,by
 have e:CM (λ_=>false) G=G:=by funext a;simp[CM]
 rw[e];exact q⟩
theorem jb{G G1:Gp}{d:D}{Q:DK}(l:cO G G1)(q:Q d G):D5 G1 d Q:=⟨_,d,.same d,by rw[xB l];exact q⟩
theorem Ju{G G1:Gp}{p:Nat}{o:GO}{Q:DK}(l:cO G G1)(hp:G p=none)(h1:G1 p=@j)(q:Q (.ref p) (ck G p o)):D5 G1 (.ref p) Q :=
 ⟨_,.ref p,.same _,by rw[MV l hp h1];exact q⟩
theorem ES{G G1:Gp}{p:Nat}{ds ss:@i}{Q:DK}(l:cO G G1)(hp:G p=none)(h1:G1 p=some (.lst ds))(hs:Cf G1 (λa=>(G a).isNone) ds ss)(q:Q (.dR ss) G):D5 G1 (.ref p) Q :=
 ⟨_,.dR ss,.ref h1 (by simp[hp]) hs,by rw[xB l];exact q⟩
theorem Jt{G G1:Gp}{p:Nat}{bx:List (D×D)}{Q:DK}(l:cO G G1)(hp:G p=none)(h1:G1 p=some (.jG bx))(q:Q (.pZ bx) G):D5 G1 (.ref p) Q :=
 ⟨λa=>(G a).isNone,.pZ bx,.jG h1 (by simp[hp]) (.same _),by rw[xB l];exact q⟩
theorem Wn{G G1:Gp}{d t:D}{Q:DK}(l:cO G G1)(hs:Fz G1 (λa=>(G a).isNone) d t)(q:Q t G):D5 G1 d Q :=
 ⟨_,t,hs,by rw[xB l];exact q⟩
def Dk:di:=λds G Q _=>∃ns:@I,ds=[.dR (@ad)]/\ns.length<=63/\(∀a,G a=none)/\∀G',Q (.bl true) G'
theorem bp{a b:da}{E:iM}{K:kN}{τ:ik}{G:Gp}(P:ik->@t)(h1:∀N,(∀τ G,P τ G->N τ G)->a E {K with nx:=N} τ G)(h2:∀τ G,P τ G->b E K τ G):aU a b E K τ G:=h1 (b E K) h2
theorem bZ:aU a b E K τ G=a E {K with nx:=b E K} τ G:=rfl
theorem bT:aU (aS a g) b E K τ G=aS a g E {K with nx:=b E K} τ G:=rfl
theorem cN:aU (bw a) b E K τ G=bw a E {K with nx:=b E K} τ G:=rfl
theorem BA{g:B1}{body:da}{ok:@t}{ds:@i}{E:iM}{K:kN}{τ:ik}{G:Gp}(I:@i->ik->@t)
  (h0:I [] τ G) (c8:∀pre τ G,I pre τ G->ok G)
  (step:∀(pre:@i) (d:D) (post:@i) τ G (N:ik->@t),ds=pre++d::post->I pre τ G->(∀Df G2,I (pre++[d]) Df G2->N Df G2) ->
   g E d τ G λuw G1=>body E {K with nx:=N,ct:=N,bk:=K.nx} uw G1)
  (fin:∀τ G,I ds τ G->K.nx τ G):uQ g body ok ds E K τ G:=by
 have main:∀(post pre:@i) τ G,ds=pre++post->I pre τ G->uQ g body ok post E K τ G:=by
  intro post;induction post with
  |nil=>
   intro pre τ G e h;rw[bH] at e;subst e;exact⟨c8 _ _ _ h,fin _ _ h⟩
  |cons d post ih=>
   intro pre τ G e h;refine⟨c8 _ _ _ h,?_⟩;exact step pre d post τ G _ e h λDf G2 h2=>ih (pre++[d]) Df G2 (by rw[e,bM];rfl) h2
 exact main ds [] τ G rfl h0
theorem Sn.tI:∀(ns:@I),Sn G (n+1) (.tup (@ad)) (.tup (@ad))
 |[]=>.F6
 |i::ns=>.qG (.int i) (Sn.tI ns)
theorem qy(a b)(r t):kL (a::r) (b::t)=(jf a b&&kL r t):=rfl
theorem sP(a b):jf (.int a) (.int b)=(a == b):=rfl
theorem JB(a b):jf (.tup a) (.tup b)=kL a b:=rfl
theorem BR{α:Type} [@V](a b)(as bs:@H):(decide (a=b)&&decide (as=bs))=decide (a::as=b::bs):=by
 by_cases h:a=b<;>by_cases h2:as=bs<;>simp[h,h2]
theorem DN:∀(a b:@I),kL (a.map D.int) (b.map D.int)=decide (a=b)
 |[],[]=>(decide_eq_true rfl).symm
 |[],b::bs=>(decide_eq_false (λz=>nomatch z)).symm
 |a::as,[]=>(decide_eq_false (λz=>nomatch z)).symm
 |a::as,b::bs=>by
  show(decide (a=b)&&kL (as.map D.int) (bs.map D.int))=_;rw[DN as bs,BR]
theorem Wu(a b):jf (tI a) (tI b)=decide (a=b):=by
 show kL _ _=_;exact DN a b
set_option genInjectivity true in structure T2 where
 a:Int
 b:Int
 deriving DecidableEq
set_option genInjectivity true in structure T3 where
 a:Int
 b:Int
 c:Int
 deriving DecidableEq
class Enc (α:Type) [@V] where
 enc:α->D
 dep:Nat
 eqv:∀a b,jf (enc a) (enc b)=decide (a=b)
 sn:∀(G:Gp) (n:Nat) (a:α),dep<=n->Sn G n (enc a) (enc a)
open Enc (enc)
instance:Enc Int where
 enc:=D.int
 dep:=0
 eqv:=λa b=>rfl
 sn:=λG n a _=>.int a
instance:Enc Bool where
 enc:=D.bl
 dep:=0
 eqv:=λa b=>QI a b
 sn:=λG n a _=>.bl a
instance:Enc T2 where
 enc:=λt=>.tup [.int t.a,.int t.b]
 dep:=1
 eqv:=λx y=>by
  cases x;cases y;rw[JB,qy,qy,sP,sP];simp only[T2.mk.injEq];rename_i a b c d;by_cases h:a=c<;>by_cases h2:b=d<;>simp[h,h2,show kL [] []=true from rfl]
 sn:=λG n t h=>by
  obtain⟨m,rfl⟩:∃m,n=m+1:=⟨n-1,@e⟩;exact .qG (.int _) (.qG (.int _) .F6)
instance:Enc T3 where
 enc:=λt=>.tup [.int t.a,.int t.b,.int t.c]
 dep:=1
 eqv:=λx y=>by
  cases x;cases y;rw[JB,qy,qy,qy,sP,sP,sP];simp only[T3.mk.injEq];rename_i a b e c d f;by_cases h:a=c<;>by_cases h2:b=d<;>by_cases h3:e=f<;>simp[h,h2,h3,show kL [] []=true from rfl]
 sn:=λG n t h=>by
  obtain⟨m,rfl⟩:∃m,n=m+1:=⟨n-1,@e⟩;exact .qG (.int _) (.qG (.int _) (.qG (.int _) .F6))
instance {α β:Type} [@V] [DecidableEq β] [Enc α] [Enc β]:Enc (α×β) where
 enc:=λt=>.tup [enc t.1,enc t.2]
 dep:=max (Enc.dep α) (Enc.dep β)+1
 eqv:=λx y=>by
  cases x;cases y;rw[JB,qy,qy,Enc.eqv,Enc.eqv];simp only[Iu];rename_i a b c d;by_cases h:a=c<;>by_cases h2:b=d<;>simp[h,h2,show kL [] []=true from rfl]
 sn:=λG n t h=>by
  obtain⟨m,rfl⟩:∃m,n=m+1:=⟨n-1,@e⟩;exact .qG (Enc.sn _ _ _ (@e)) (.qG (Enc.sn _ _ _ (@e)) .F6)
theorem Hg [@V] [Enc α]:∀(a b:@H),kL (a.map enc) (b.map enc)=decide (a=b)
 |[],[]=>(decide_eq_true rfl).symm
 |[],b::bs=>(decide_eq_false (λz=>nomatch z)).symm
 |a::as,[]=>(decide_eq_false (λz=>nomatch z)).symm
 |a::as,b::bs=>by
  show(jf (enc a) (enc b)&&kL (as.map enc) (bs.map enc))=_;rw[Enc.eqv,Hg as bs,BR]
theorem vg [@V] [Enc α](G)(n)(h:Enc.dep α<=n):∀(xs:@H),Sn G (n+1) (.dR (xs.map enc)) (.dR (xs.map enc))
 |[]=>.Es
 |a::as=>.A7 (Enc.sn _ _ _ h) (vg G n h as)
instance {α:Type} [@V] [Enc α]:Enc (@H) where
 enc:=λxs=>.dR (xs.map enc)
 dep:=Enc.dep α+1
 eqv:=λa b=>by
  show kL _ _=_;exact Hg a b
 sn:=λG n t h=>by
  obtain⟨m,rfl⟩:∃m,n=m+1:=⟨n-1,@e⟩;exact vg G m (@e) t
section
variable {α:Type} [@V] [Enc α]
theorem Fg(L:@H)(t):(L.map enc).any (jf · (enc t))=decide (t∈L):=by
 induction L with
 |nil=>simp
 |cons a r ih=>
  simp only[av,oR,Enc.eqv,ih,bN];by_cases h:a=t
  .simp[h]
  .have h':¬ t=a:=λz=>h z.symm;by_cases h2:t∈r<;>simp[h,h',h2]
theorem He(L:@H)(h:m∈L):(L.map enc).findIdx? (jf · (enc m))=some (L.idxOf m):=by
 induction L with
 |nil=>cases h
 | cons a r ih=>
  rw[av,List.findIdx?_cons,Enc.eqv,List.idxOf_cons];by_cases e:a=m
  .simp[e]
  .have hm:m∈r:=by rcases List.mem_cons.mp h with z |z;exact absurd z.symm e;exact z
   rw[ih hm];have z:(a == m)=false:=by simpa using e
   simp[e,z]
end
section
variable {κ α:Type} [DecidableEq κ] [Enc κ] [@V] [Enc α]
noncomputable def c9(l:List (κ×α)):List (D×D):=l.map λp=>(enc p.1,enc p.2)
noncomputable def dM(l:List (κ×α))(k:κ):Option α:=(l.find? λp=>p.1=k).map (·.2)
noncomputable def jP(l:List (κ×α))(k:κ)(v:α):List (κ×α):=if(l.any λp=>p.1=k)=true then l.map (λp=>if p.1=k then(p.1,v) else p) else l++[(k,v)]
theorem GI(l:List (κ×α))(k):look (c9 l) (enc k)=(dM l k).map enc:=by
 unfold look dM c9;induction l with
 |nil=>rfl
 |cons p r ih=>
  rw[av,dP,dP];simp only[Enc.eqv];by_cases h:p.1=k
  .simp[h]
  .simp only[h,decide_false];exact ih
theorem RH(l)(k:κ)(v:α):put (c9 l) (enc k) (enc v)=c9 (jP l k v):=by
 unfold put jP;have e:((c9 l).any λp=>jf p.1 (enc k))=l.any λp=>decide (p.1=k):=by
  unfold c9;rw[List.any_map];congr 1;funext p;exact Enc.eqv _ _
 rw[e];split
 .unfold c9;rw[fA,fA];refine dh λp _=>?_;simp only[Function.comp,Enc.eqv,decide_eq_true_eq];split<;>rfl
 .unfold c9;rw[aH];rfl
theorem mI(l)(k j:κ)(v:α):dM (jP l k v) j=if k=j then some v else dM l j:=by
 unfold jP;split
 .rename_i h;unfold dM;induction l with
  |nil=>simp at h
  | cons p r ih=>
   rw[av,dP,dP];by_cases h1:p.1=k
   .rw [if_pos h1];by_cases h2:k=j
    .simp[h1,h2]
    .have:¬ p.1=j:=λz=>h2 (h1.symm.trans z);simp only[this,decide_false,h2,if_false];by_cases h3:(r.any λp=>decide (p.1=k))=true
     .have:=ih h3;rw[if_neg h2] at this;exact this
     .congr 1;have:r.map (λp=>if p.1=k then(p.1,v) else p)=r:=by
       conv=>rhs;rw[<-uq r]
       refine dh λq hq=>?_;rw[if_neg];rfl;intro z;exact h3 (List.any_eq_true.mpr ⟨q,hq,by simpa using z⟩)
      rw[this]
   .rw[if_neg h1];have h3:(r.any λp=>decide (p.1=k))=true:=by simpa[h1] using h
    by_cases h2:p.1=j
    .have:¬ k=j:=λz=>h1 (h2.trans z.symm);simp[h2,this]
    .simp only[h2,decide_false];exact ih h3
 .rename_i h;unfold dM;rw[mD];by_cases h2:k=j
  .subst h2;have:l.find? (λp=>decide (p.1=k))=none:=by
    rw[lS];intro p hp z;exact h (List.any_eq_true.mpr ⟨p,hp,z⟩)
   rw[this];simp
  .simp[h2]
theorem pR(l)(k:κ)(v:α):(jP l k v).length<=l.length+1:=by
 unfold jP;split<;>simp
end
class qF (κ:Type) [DecidableEq κ] [Enc κ] where
 ok:(∀k:κ,fS (enc k)=true)\/∀k:κ,vp (enc k)=true
instance:qF Int:=⟨.inl λ_=>rfl⟩
instance:qF T2:=⟨.inr λ_=>rfl⟩
instance:qF T3:=⟨.inr λ_=>rfl⟩
theorem vo [DecidableEq κ] [Enc κ] [qF κ] [@V] [Enc α](l:List (κ×α))(k:κ):iF (c9 l) (enc k)=true:=by
 unfold iF c9;rcases qF.ok (κ:=κ) with h |h
 .rw[dQ];left;rw[h k,jQ,QE,kT];intro p _;exact h p.1
 .rw[dQ];right;rw[h k,jQ,QE,kT];intro p _;exact h p.1
end K2
end
section
namespace K2
open PySem (Str)
open Enc (enc)
mutual
noncomputable def Jk:D->D->Bool
 |.int a,.int b=>decide (a<b)
 |.tup a,.tup b=>pB a b
 |.dR a,.dR b=>pB a b
 |_,_=>false
noncomputable def pB:@i->@i->Bool
 |[],[]=>false
 |[],_::_=>true
 |_::_,[]=>false
 |x::xs,y::ys=>if jf x y=true then pB xs ys else Jk x y
end
theorem vn(x y)(xs ys):pB (x::xs) (y::ys)=if jf x y=true then pB xs ys else Jk x y:=rfl
theorem O7(a b):Jk (.int a) (.int b)=decide (a<b):=rfl
inductive ya where
 |int |tup (l:List ya) |lst (s:ya)
mutual
noncomputable def gF:ya->D->Bool
 |.int,.int _=>true
 |.tup l,.tup ds=>je l ds
 |.lst s,.dR ds=>iH s ds
 |_,_=>false
noncomputable def je:List ya->@i->Bool
 |[],[]=>true
 |s::l,d::ds=>gF s d&&je l ds
 |_,_=>false
noncomputable def iH:ya->@i->Bool
 |_,[]=>true
 |s,d::ds=>gF s d&&iH s ds
end
theorem gE(h:gF .int a=true):∃i,a=.int i:=by cases a<;>first |exact⟨_,rfl⟩ |exact bu (show false=true from h)
theorem gB(h:gF (.tup l) a=true):∃x,a=.tup x:=by cases a<;>first |exact⟨_,rfl⟩ |exact bu (show false=true from h)
theorem gC(h:gF (.lst l) a=true):∃x,a=.dR x:=by cases a<;>first |exact⟨_,rfl⟩ |exact bu (show false=true from h)
mutual
noncomputable def Xq:ya->Nat
 |.int=>0
 |.tup l=>P6 l+1
 |.lst s=>Xq s+1
noncomputable def P6:List ya->Nat
 |[]=>0
 |s::l=>max (Xq s) (P6 l)
end
class cy (α:Type) [@V] [Enc α] where
 lt:α->α->Bool
 UZ:ya
 PM:∀a:α,gF UZ (enc a)=true
 Yt:∀a b:α,Jk (enc a) (enc b)=lt a b
 QL:∀a,lt a a=false
 trans:∀a b c,lt a b=true->lt b c=true->lt a c=true
 Rc:∀a b,lt a b=false->lt b a=false->a=b
instance:cy Int where
 lt:=λa b=>decide (a<b)
 UZ:=.int
 PM:=λ_=>rfl
 Yt:=λa b=>rfl
 QL:=λa=>by simp
 trans:=λa b c h1 h2=>by simp at *;lia
 Rc:=λa b h1 h2=>by simp at *;lia
noncomputable def wY{α:Type} [@V](lt:α->α->Bool):@H->@H->Bool
 |[],[]=>false
 |[],_::_=>true
 |_::_,[]=>false
 |x::xs,y::ys=>if x=y then wY lt xs ys else lt x y
theorem Bn [@V](lt)(x y)(xs ys:@H):wY lt (x::xs) (y::ys)=if x=y then wY lt xs ys else lt x y:=rfl
section
variable {α:Type} [@V] {lt:α->α->Bool}
theorem wX:∀x:@H,wY lt x x=false
 |[]=>rfl
 |a::x=>by simp only[Bn,if_true];exact wX x
theorem wW(t:∀a b,lt a b=false->lt b a=false->a=b):∀(x y:@H),wY lt x y=false->wY lt y x=false->x=y
 |[],[],_,_=>rfl
 |[],_::_,h,_=>by cases h
 |_::_,[],_,h=>by cases h
 |a::x,b::y,h1,h2=>by
  simp only[Bn] at h1 h2;by_cases e:a=b
  .subst e;simp only[if_true] at h1 h2;rw[wW t x y h1 h2]
  .rw[if_neg e] at h1;rw[if_neg (dA e)] at h2;exact absurd (t a b h1 h2) e
theorem qt(ir:∀a,lt a a=false)(tr:∀a b c,lt a b=true->lt b c=true->lt a c=true):∀(x y z:@H),wY lt x y=true->wY lt y z=true->wY lt x z=true
 |[],[],_,h,_=>by cases h
 |[],_::_,[],_,h=>by cases h
 |[],_::_,_::_,_,_=>rfl
 |_::_,[],_,h,_=>by cases h
 |_::_,_::_,[],_,h=>by cases h
 | a::x,b::y,c::z,h1,h2=>by
  simp only[Bn] at h1 h2 ⊢;by_cases e1:a=b
  .subst e1;simp only[if_true] at h1;by_cases e2:a=c
   .subst e2;simp only[if_true] at h2 ⊢;exact qt ir tr x y z h1 h2
   .rw[if_neg e2] at h2 ⊢;exact h2
  .rw[if_neg e1] at h1;by_cases e2:b=c
   .subst e2;rw[if_neg e1];exact h1
   .rw[if_neg e2] at h2;have h3:=tr _ _ _ h1 h2;rw[if_neg (by rintro rfl;rw[ir] at h3;cases h3)];exact h3
end
theorem wU [@V] [Enc α] [cy α]:∀(x y:@H),pB (x.map enc) (y.map enc)=wY (cy.lt (α:=α)) x y
 |[],[]=>rfl
 |[],_::_=>rfl
 |_::_,[]=>rfl
 |a::x,b::y=>by simp only[av,vn,Bn,Enc.eqv,wU x y,cy.Yt,decide_eq_true_eq]
theorem DH [@V] [Enc α] [cy α]:∀(x:@H),iH (cy.UZ α) (x.map enc)=true
 |[]=>rfl
 |a::x=>by simp only[av,iH,cy.PM,DH x,Bool.and_self]
instance {α:Type} [@V] [Enc α] [cy α]:cy (@H) where
 lt:=wY cy.lt
 UZ:=.lst (cy.UZ α)
 PM:=λa=>DH a
 Yt:=λa b=>wU a b
 QL:=wX
 trans:=qt cy.QL cy.trans
 Rc:=wW cy.Rc
noncomputable def T2.l(t:T2):@I:=[t.a,t.b]
noncomputable def T3.l(t:T3):@I:=[t.a,t.b,t.c]
instance:cy T2 where
 lt:=λx y=>wY (λa b=>decide (a<b)) x.l y.l
 UZ:=.tup [.int,.int]
 PM:=λ_=>rfl
 Yt:=λa b=>wU a.l b.l
 QL:=λa=>wX _
 trans:=λa b c=>qt (α:=Int) cy.QL cy.trans _ _ _
 Rc:=λ⟨a,b⟩ ⟨c,d⟩ h1 h2=>by
  have:=wW (α:=Int) cy.Rc _ _ h1 h2;simpa[T2.l] using this
instance:cy T3 where
 lt:=λx y=>wY (λa b=>decide (a<b)) x.l y.l
 UZ:=.tup [.int,.int,.int]
 PM:=λ_=>rfl
 Yt:=λa b=>wU a.l b.l
 QL:=λa=>wX _
 trans:=λa b c=>qt (α:=Int) cy.QL cy.trans _ _ _
 Rc:=λ⟨a,b,e⟩ ⟨c,d,f⟩ h1 h2=>by
  have:=wW (α:=Int) cy.Rc _ _ h1 h2;simpa[T3.l] using this
section
variable {α:Type} [@V] [Enc α] [cy α]
noncomputable def Co(a b:α):Bool:=!cy.lt b a
def Rl(xs:@H):@H:=xs.mergeSort Co
theorem yy(a b c:α)(h1:Co a b=true)(h2:Co b c=true):Co a c=true:=by
 unfold Co at *;simp only[mE] at *;cases h:cy.lt c a with
 |false=>rfl
 | true=>
  by_cases e:a=b
  .subst e;rw[h] at h2;cases h2
  .have DI:cy.lt a b=true:=by
    cases q:cy.lt a b with
    |true=>rfl
    |false=>exact absurd (cy.Rc _ _ q h1) e
   rw[cy.trans _ _ _ h DI] at h2;cases h2
theorem MA(a b:α):(Co a b||Co b a)=true:=by
 unfold Co;cases h:cy.lt b a with
 |false=>rfl
 |true=>
  cases h2:cy.lt a b with
  |false=>rfl
  |true=>have:=cy.trans _ _ _ h h2;rw[cy.QL] at this;cases this
theorem Bq(a b:α)(h1:Co a b=true)(h2:Co b a=true):a=b:=by
 unfold Co at *;exact cy.Rc a b (by simpa using h2) (by simpa using h1)
theorem rO(xs:@H):(Rl xs).Perm xs:=List.mergeSort_perm xs Co
theorem ID(xs:@H):(Rl xs).Pairwise λa b=>Co a b=true:=List.pairwise_mergeSort yy MA xs
theorem Cy:∀{xs ys:@H},xs.Perm ys->xs.Pairwise (λa b=>Co a b=true)->ys.Pairwise (λa b=>Co a b=true)->xs=ys:=by
 intro xs ys hp h1 h2;exact List.Perm.eq_of_pairwise (λa b _ _ h h'=>Bq a b h h') h1 h2 hp
theorem Rk{x:α}:x∈Rl xs↔x∈xs:=(rO xs).mem_iff
theorem Kb(xs:@H):(Rl xs).length=xs.length:=(rO xs).length_eq
theorem LF{xs:@H}(h:xs.Nodup):(Rl xs).Nodup:=(rO xs).nodup_iff.mpr h
end
end K2
end
section
namespace K2
open PySem (Str)
mutual
theorem lr:∀(sh:ya) (a:D),gF sh a=true->jf a a=true
 |.int,.int i,_=>by show(i == i)=true;exact beq_self_eq_true i
 |.tup l,.tup xs,h=>by show kL xs xs=true;exact zo l xs h
 |.lst l,.dR xs,h=>by show kL xs xs=true;exact zp l xs h
theorem zo:∀(l:List ya) (xs:@i),je l xs=true->kL xs xs=true
 |[],[],_=>rfl
 |s::l,x::xs,h=>by
  have h:(gF s x&&je l xs)=true:=h;rw[bg] at h;show(jf x x&&kL xs xs)=true;rw[lr s x h.1,zo l xs h.2];rfl
theorem zp:∀(s:ya) (xs:@i),iH s xs=true->kL xs xs=true
 |_,[],_=>rfl
 |s,x::xs,h=>by
  have h:(gF s x&&iH s xs)=true:=h;rw[bg] at h;show(jf x x&&kL xs xs)=true;rw[lr s x h.1,zp s xs h.2];rfl
end
theorem Wt(s)(ih:∀(a b:D),gF s a=true->gF s b=true->jf a b=true->a=b):∀(xs ys:@i),iH s xs=true->iH s ys=true->kL xs ys=true->xs=ys:=by
 intro xs;induction xs with
 |nil=>intro ys _ _ h;cases ys with
  |nil=>rfl
  |cons _ _=>cases h
 | cons x xs Yy=>
  intro ys h1 h2 h;cases ys with
  |nil=>cases h
  |cons y ys=>
   have h1:(gF s x&&iH s xs)=true:=h1;have h2:(gF s y&&iH s ys)=true:=h2;have h:(jf x y&&kL xs ys)=true:=h;rw[bg] at h1 h2 h;rw[ih x y h1.1 h2.1 h.1,Yy ys h1.2 h2.2 h.2]
mutual
theorem qU:∀(sh:ya) (a b:D),gF sh a=true->gF sh b=true->jf a b=true->a=b
 |.int,a,b,h1,h2,h=>by
  first |obtain⟨_,rfl⟩:=gE h1 |obtain⟨_,rfl⟩:=gB h1 |obtain⟨_,rfl⟩:=gC h1
  first |obtain⟨_,rfl⟩:=gE h2 |obtain⟨_,rfl⟩:=gB h2 |obtain⟨_,rfl⟩:=gC h2
  rw[sP] at h;rw[beq_iff_eq.mp h]
 |.tup l,a,b,h1,h2,h=>by
  first |obtain⟨_,rfl⟩:=gE h1 |obtain⟨_,rfl⟩:=gB h1 |obtain⟨_,rfl⟩:=gC h1
  first |obtain⟨_,rfl⟩:=gE h2 |obtain⟨_,rfl⟩:=gB h2 |obtain⟨_,rfl⟩:=gC h2
  rw[P1 l _ _ h1 h2 h]
 |.lst l,a,b,h1,h2,h=>by
  first |obtain⟨_,rfl⟩:=gE h1 |obtain⟨_,rfl⟩:=gB h1 |obtain⟨_,rfl⟩:=gC h1
  first |obtain⟨_,rfl⟩:=gE h2 |obtain⟨_,rfl⟩:=gB h2 |obtain⟨_,rfl⟩:=gC h2
  rw[Wt l (qU l) _ _ h1 h2 h]
theorem P1:∀(l:List ya) (xs ys:@i),je l xs=true->je l ys=true->kL xs ys=true->xs=ys
 | [],xs,ys,h1,h2,_=>by
  cases xs with
  |nil=>cases ys with
   |nil=>rfl
   |cons _ _=>cases h2
  |cons _ _=>cases h1
 | s::l,xs,ys,h1,h2,h=>by
  cases xs with
  |nil=>cases h1
  | cons x xs=>
   cases ys with
   |nil=>cases h2
   |cons y ys=>
    have h1:(gF s x&&je l xs)=true:=h1;have h2:(gF s y&&je l ys)=true:=h2;have h:(jf x y&&kL xs ys)=true:=h;rw[bg] at h1 h2 h;rw[qU s x y h1.1 h2.1 h.1,P1 l xs ys h1.2 h2.2 h.2]
end
theorem O6(s)(ih:∀(a b:D),gF s a=true->gF s b=true->Jk a b=false->Jk b a=false->a=b):∀(xs ys:@i),iH s xs=true->iH s ys=true->pB xs ys=false->pB ys xs=false->xs=ys:=by
 intro xs;induction xs with
 |nil=>intro ys _ _ h _;cases ys with
  |nil=>rfl
  |cons _ _=>cases h
 | cons x xs Yy=>
  intro ys h1 h2 h3 h4;cases ys with
  |nil=>cases h4
  | cons y ys=>
   have h1:(gF s x&&iH s xs)=true:=h1;have h2:(gF s y&&iH s ys)=true:=h2;rw[bg] at h1 h2;simp only[vn] at h3 h4;by_cases e:jf x y=true
   .have exy:=qU s x y h1.1 h2.1 e;subst exy;rw[if_pos e] at h3 h4;rw[Yy ys h1.2 h2.2 h3 h4]
   .rw[if_neg e] at h3;by_cases e2:jf y x=true
    .have:=qU s y x h2.1 h1.1 e2;subst this;exact absurd e2 e
    .rw[if_neg e2] at h4;have:=ih x y h1.1 h2.1 h3 h4;subst this;exact absurd (lr s x h1.1) e
mutual
theorem Kt:∀(sh:ya) (a b:D),gF sh a=true->gF sh b=true->Jk a b=false->Jk b a=false->a=b
 |.int,a,b,h1,h2,h3,h4=>by
  first |obtain⟨_,rfl⟩:=gE h1 |obtain⟨_,rfl⟩:=gB h1 |obtain⟨_,rfl⟩:=gC h1
  first |obtain⟨_,rfl⟩:=gE h2 |obtain⟨_,rfl⟩:=gB h2 |obtain⟨_,rfl⟩:=gC h2
  simp[O7] at h3 h4;congr 1;lia
 |.tup l,a,b,h1,h2,h3,h4=>by
  first |obtain⟨_,rfl⟩:=gE h1 |obtain⟨_,rfl⟩:=gB h1 |obtain⟨_,rfl⟩:=gC h1
  first |obtain⟨_,rfl⟩:=gE h2 |obtain⟨_,rfl⟩:=gB h2 |obtain⟨_,rfl⟩:=gC h2
  rw[GD l _ _ h1 h2 h3 h4]
 |.lst l,a,b,h1,h2,h3,h4=>by
  first |obtain⟨_,rfl⟩:=gE h1 |obtain⟨_,rfl⟩:=gB h1 |obtain⟨_,rfl⟩:=gC h1
  first |obtain⟨_,rfl⟩:=gE h2 |obtain⟨_,rfl⟩:=gB h2 |obtain⟨_,rfl⟩:=gC h2
  rw[O6 l (Kt l) _ _ h1 h2 h3 h4]
theorem GD:∀(l:List ya) (xs ys:@i),je l xs=true->je l ys=true->pB xs ys=false->pB ys xs=false->xs=ys
 | [],xs,ys,h1,h2,_,_=>by
  cases xs with
  |nil=>cases ys with
   |nil=>rfl
   |cons _ _=>cases h2
  |cons _ _=>cases h1
 | s :: l,xs,ys,h1,h2,h3,h4=>by
  cases xs with
  |nil=>cases h1
  | cons x xs=>
   cases ys with
   |nil=>cases h2
   | cons y ys=>
    have h1:(gF s x&&je l xs)=true:=h1;have h2:(gF s y&&je l ys)=true:=h2;rw[bg] at h1 h2;simp only[vn] at h3 h4;by_cases e:jf x y=true
    .have exy:=qU s x y h1.1 h2.1 e;subst exy;rw[if_pos e] at h3 h4;rw[GD l xs ys h1.2 h2.2 h3 h4]
    .rw[if_neg e] at h3;by_cases e2:jf y x=true
     .have:=qU s y x h2.1 h1.1 e2;subst this;exact absurd e2 e
     .rw[if_neg e2] at h4;have:=Kt s x y h1.1 h2.1 h3 h4;subst this;exact absurd (lr s x h1.1) e
end
mutual
theorem Ku:∀(sh:ya) (a:D),gF sh a=true->Jk a a=false
 |.int,.int i,_=>by rw[O7];exact decide_eq_false (Int.lt_irrefl _)
 |.tup l,.tup xs,h=>by show pB xs xs=false;exact GF l xs h
 |.lst l,.dR xs,h=>by show pB xs xs=false;exact GG l xs h
theorem GF:∀(l:List ya) (xs:@i),je l xs=true->pB xs xs=false
 |[],[],_=>rfl
 |s::l,x::xs,h=>by
  have h:(gF s x&&je l xs)=true:=h;rw[bg] at h;simp only[vn,lr s x h.1,if_true];exact GF l xs h.2
theorem GG:∀(s:ya) (xs:@i),iH s xs=true->pB xs xs=false
 |_,[],_=>rfl
 |s,x::xs,h=>by
  have h:(gF s x&&iH s xs)=true:=h;rw[bg] at h;simp only[vn,lr s x h.1,if_true];exact GG s xs h.2
end
theorem Jj(s)(ih:∀(a b c:D),gF s a=true->gF s b=true->gF s c=true->Jk a b=true->Jk b c=true->Jk a c=true):∀(xs ys zs:@i),iH s xs=true->iH s ys=true->iH s zs=true->pB xs ys=true->pB ys zs=true->pB xs zs=true:=by
 intro xs;induction xs with
 | nil=>
  intro ys zs _ _ _ h4 h5;cases ys with
  |nil=>cases h4
  |cons _ _=>cases zs with
   |nil=>cases h5
   |cons _ _=>rfl
 | cons x xs Yy=>
  intro ys zs h1 h2 h3 h4 h5;cases ys with
  |nil=>cases h4
  | cons y ys=>
   cases zs with
   |nil=>cases h5
   | cons z zs=>
    have h1:(gF s x&&iH s xs)=true:=h1;have h2:(gF s y&&iH s ys)=true:=h2;have h3:(gF s z&&iH s zs)=true:=h3;rw[bg] at h1 h2 h3;simp only[vn] at h4 h5 ⊢;by_cases e1:jf x y=true
    .have:=qU s x y h1.1 h2.1 e1;subst this;rw[if_pos e1] at h4;by_cases e2:jf x z=true
     .rw[if_pos e2] at h5 ⊢;exact Yy ys zs h1.2 h2.2 h3.2 h4 h5
     .rw[if_neg e2] at h5 ⊢;exact h5
    .rw[if_neg e1] at h4;by_cases e2:jf y z=true
     .have:=qU s y z h2.1 h3.1 e2;subst this;rw[if_neg e1];exact h4
     .rw[if_neg e2] at h5;have h6:=ih x y z h1.1 h2.1 h3.1 h4 h5;rw[if_neg (λe3=>by
       have:=qU s x z h1.1 h3.1 e3;subst this;rw[Ku s x h1.1] at h6;cases h6)]
      exact h6
mutual
theorem DA:∀(sh:ya) (a b c:D),gF sh a=true->gF sh b=true->gF sh c=true->Jk a b=true->Jk b c=true->Jk a c=true
 |.int,a,b,c,h1,h2,h3,h4,h5=>by
  first |obtain⟨_,rfl⟩:=gE h1 |obtain⟨_,rfl⟩:=gB h1 |obtain⟨_,rfl⟩:=gC h1
  first |obtain⟨_,rfl⟩:=gE h2 |obtain⟨_,rfl⟩:=gB h2 |obtain⟨_,rfl⟩:=gC h2
  first |obtain⟨_,rfl⟩:=gE h3 |obtain⟨_,rfl⟩:=gB h3 |obtain⟨_,rfl⟩:=gC h3
  simp[O7] at *;lia
 |.tup l,a,b,c,h1,h2,h3,h4,h5=>by
  first |obtain⟨_,rfl⟩:=gE h1 |obtain⟨_,rfl⟩:=gB h1 |obtain⟨_,rfl⟩:=gC h1
  first |obtain⟨_,rfl⟩:=gE h2 |obtain⟨_,rfl⟩:=gB h2 |obtain⟨_,rfl⟩:=gC h2
  first |obtain⟨_,rfl⟩:=gE h3 |obtain⟨_,rfl⟩:=gB h3 |obtain⟨_,rfl⟩:=gC h3
  exact Bh l _ _ _ h1 h2 h3 h4 h5
 |.lst l,a,b,c,h1,h2,h3,h4,h5=>by
  first |obtain⟨_,rfl⟩:=gE h1 |obtain⟨_,rfl⟩:=gB h1 |obtain⟨_,rfl⟩:=gC h1
  first |obtain⟨_,rfl⟩:=gE h2 |obtain⟨_,rfl⟩:=gB h2 |obtain⟨_,rfl⟩:=gC h2
  first |obtain⟨_,rfl⟩:=gE h3 |obtain⟨_,rfl⟩:=gB h3 |obtain⟨_,rfl⟩:=gC h3
  exact Jj l (DA l) _ _ _ h1 h2 h3 h4 h5
theorem Bh:∀(l:List ya) (xs ys zs:@i),je l xs=true->je l ys=true->je l zs=true->pB xs ys=true->pB ys zs=true->pB xs zs=true
 | [],xs,ys,zs,h1,h2,_,h,_=>by
  cases xs with
  |nil=>cases ys with
   |nil=>cases h
   |cons _ _=>cases h2
  |cons _ _=>cases h1
 | s :: l,xs,ys,zs,h1,h2,h3,h4,h5=>by
  cases xs with
  |nil=>cases h1
  | cons x xs=>
   cases ys with
   |nil=>cases h2
   | cons y ys=>
    cases zs with
    |nil=>cases h3
    | cons z zs=>
     have h1:(gF s x&&je l xs)=true:=h1;have h2:(gF s y&&je l ys)=true:=h2;have h3:(gF s z&&je l zs)=true:=h3;rw[bg] at h1 h2 h3;simp only[vn] at h4 h5 ⊢;by_cases e1:jf x y=true
     .have:=qU s x y h1.1 h2.1 e1;subst this;rw[if_pos e1] at h4;by_cases e2:jf x z=true
      .rw[if_pos e2] at h5 ⊢;exact Bh l xs ys zs h1.2 h2.2 h3.2 h4 h5
      .rw[if_neg e2] at h5 ⊢;exact h5
     .rw[if_neg e1] at h4;by_cases e2:jf y z=true
      .have:=qU s y z h2.1 h3.1 e2;subst this;rw[if_neg e1];exact h4
      .rw[if_neg e2] at h5;have h6:=DA s x y z h1.1 h2.1 h3.1 h4 h5;rw[if_neg (λe3=>by
        have:=qU s x z h1.1 h3.1 e3;subst this;rw[Ku s x h1.1] at h6;cases h6)]
       exact h6
end
end K2
end
section
namespace K2
open PySem (Str)
open Enc (enc)
noncomputable def nv(k:Nat):@i->@i
 |[]=>[]
 |d::r=>.tup [.int (k:Int),d]::nv (k+1) r
theorem DP:∀(ds:@i) (k i:Nat),(nv k ds)[i]?=(ds[i]?).map λd=>D.tup [.int ((k+i:Nat):Int),d]
 |[],k,i=>by simp[nv]
 |d::r,k,0=>by simp[nv]
 |d::r,k,i+1=>by
  rw[nv,af,DP r (k+1) i,af];congr 1;funext x;congr 3;lia
theorem DO:∀(ds:@i) (k:Nat),(nv k ds).length=ds.length
 |[],_=>rfl
 |d::r,k=>by rw[nv,ai,ai,DO r]
def w7(x:D)(G1:Gp)(R:@i->(@t)->@t):Prop:=match x with
 |.dR ds=>R (nv 0 ds) (λ_=>True) G1
 |.ref p=>(match G1 p with
  |some (.lst ds)=>R (nv 0 ds) (λG2=>G2 p=some (.lst ds)) G1
  |_=>False)
 |_=>False
def Bw(a:fh):Qv:=λE τ G R=>a E τ G λx G1=>w7 x G1 R
def aaH(P:D->@t):@i->@t
 |[x],G=>P x G
 |_,_=>False
def aaG(P:D->D->@t):@i->@t
 |[x,y],G=>P x y G
 |_,_=>False
noncomputable def t6:@i->@i->@i
 |x::xs,y::ys=>.tup [x,y]::t6 xs ys
 |_,_=>[]
theorem F1:∀(xs ys:@i) (i:Nat),(t6 xs ys)[i]?=(xs[i]?).bind λx=>(ys[i]?).map λy=>D.tup [x,y]
 |[],ys,i=>by simp[t6]
 |x::xs,[],i=>by cases h:(x::xs)[i]?<;>simp[t6]
 |x::xs,y::ys,0=>by simp[t6]
 |x::xs,y::ys,i+1=>by rw[t6,af,F1 xs ys i,af,af]
theorem FZ:∀(xs ys:@i),(t6 xs ys).length=min xs.length ys.length
 |[],ys=>by simp[t6]
 |x::xs,[]=>by simp[t6]
 |x::xs,y::ys=>by rw[t6,ai,FZ xs ys,ai,ai];lia
noncomputable def Bi(x:D)(G:Gp):Option (@i×(@t)):=match x with
 |.dR ds=>some (ds,λ_=>True)
 |.ref p=>(match G p with
  |some (.lst ds)=>some (ds,λG2=>G2 p=some (.lst ds))
  |_=>none)
 |_=>none
def Bv(x y:D)(G1:Gp)(R:@i->(@t)->@t):Prop:=match Bi x G1,Bi y G1 with
 |some (xs,k1),some (ys,k2)=>R (t6 xs ys) (λG2=>k1 G2/\k2 G2) G1
 |_,_=>False
def Pq(a b:fh):Qv:=λE τ G R=>a E τ G λx G1=>b E τ G1 λy G2=>Bv x y G2 R
def IsL(G:Gp)(d:D)(ds:@i):Prop:=d=.dR ds\/∃a,d=@m/\G a=some (.lst ds)
theorem IsL.enc [@V] [Enc α](xs:@H):IsL G (enc xs) (xs.map enc):=@E
theorem IsL.ref{G:Gp}{a:Nat}{ds:@i}(h:G a=some (.lst ds)):IsL G (@m) ds:=.inr ⟨a,rfl,h⟩
theorem IsL.mono(h:IsL G d ds)(l:@w):IsL G' d ds:=by
 rcases h with h |⟨a,h,e⟩
 .exact .inl h
 .exact .inr ⟨a,h,l a _ e⟩
theorem Jo{G:Gp}{d:D}{ds:@i}{R:@i->(@t)->@t}(h:IsL G d ds)(k:∀ok:@t,(∀G',@w->ok G')->R ds ok G):QM d G R:=by
 rcases h with rfl |⟨a,rfl,e⟩
 .exact k _ λ_ _=>trivial
 .rw[Av e];exact k _ λG' l=>l a _ e
theorem KC {G:Gp} {d:D} {ds:@i} {C:String} {Q:DK} (h:IsL G d ds) (k:Q (.bl (C == "list")) G):isAt C d G Q:=by
 rcases h with rfl |⟨a,rfl,e⟩
 .exact k
 .rw[Pj e];exact k
theorem AQ{G:Gp}{d:D}{ds:@i}{Q:Bool->@t}(h:IsL G d ds)(k:Q (!ds.isEmpty) G):rN d G Q:=by
 rcases h with rfl |⟨a,rfl,e⟩
 .exact k
 .rw[Di e];exact k
theorem Bt(h:IsL G d ds):itemsOf d G=some ds:=by
 rcases h with rfl |⟨a,rfl,e⟩
 .rfl
 .unfold itemsOf;simp only[e]
theorem UL(h:IsL G d ds):pY d G:=by
 rcases h with rfl |⟨a,rfl,e⟩
 .trivial
 .unfold pY;simp only[e]
theorem lW(h:IsL G d ds)(k:jN G (.lst (cut ds lo hi)) Q):Oj d lo hi G Q:=by
 rcases h with rfl |⟨a,rfl,e⟩
 .exact k
 .rw[Rz e];exact k
theorem d8{G:Gp}{d:D}{ds:@i}{Q:DK}(h:IsL G d ds)(k:Q (.int (ds.length:Int)) G):iL [d] G Q:=by
 rcases h with rfl |⟨a,rfl,e⟩
 .exact k
 .rw[Ql e];exact k
theorem BY(h:IsL G d ds)(k:jN G (.lst ds) Q):oA [d] G Q:=by
 unfold oA;simp only[Bt h];exact k
theorem dS{G:Gp}{d x:D}{ds:@i}{i:Int}{Q:DK}(h:IsL G d ds)(e:mH ds i=some x)(k:Q x G):cK d (.int i) G Q:=by
 rcases h with rfl |⟨a,rfl,e2⟩
 .rw[RA e];exact k
 .rw[RC e2 e];exact k
theorem jx(h:IsL G d ds):qP d G=some ds:=by
 rcases h with rfl |⟨a,rfl,e⟩
 .rfl
 .unfold qP;simp only[e]
theorem Lm(h:IsL G d ds)(h':IsL G e es)(hz:ds.length+es.length<=SZ)(k:jN G (.lst (ds++es)) Q):BZ d e G Q:=by
 unfold BZ;simp only[jx h,jx h'];exact⟨hz,k⟩
theorem qp(h:IsL G d ds)(h':IsL G e es)(hz:ds.length+es.length<=SZ)(k:jN G (.lst (ds++es)) Q):iK d e G Q:=by
 have:=Lm h h' hz k;rcases h with rfl |⟨a,rfl,_⟩
 .rw[ng];exact this
 .rw[jv];exact this
theorem BV(xs:@H)(i)(h:i<=xs.length):cut xs (some (i:Int)) none=xs.drop i:=by
 unfold cut jl;simp only;rw[if_neg (@e),fu,qe h];exact jc (by rw[cZ];lia)
theorem JD(xs:@H)(i)(h:i<=xs.length):cut xs none (some (i:Int))=xs.take i:=by
 unfold cut jl;simp only;rw[if_neg (@e),fu,qe h];simp
theorem oz(f:α->β)(xs)(lo hi):cut (xs.map f) lo hi=(cut xs lo hi).map f:=by
 unfold cut;rw[ax,uo,ur]
theorem eY(xs:@H){k:Int}(h0:0<=k)(h1:k<xs.length):mH xs k=some (xs[k.toNat]'(@e)):=by
 unfold mH HY;rw[if_pos h0,if_pos h1];show xs[k.toNat]?=_;exact bo (@e)
theorem mX(h:fe 0 n=pre++d::post):d=.int (pre.length:Int)/\pre.length<n:=by
 have hl:pre.length<n:=by
  have:=congrArg cU h;simp[fe] at this;lia
 have:=congrArg (λl=>l[pre.length]?) h;simp only[fe,dB,List.getElem?_range hl] at this;rw[bL (bb _)] at this;simp at this;exact⟨this.symm,hl⟩
def UW [@V] [Enc α] [DecidableEq β] [Enc β](pre:α->Prop)(f:α->β):di:=λds G Q _=>∃a:α,ds=[enc a]/\pre a/\Q (enc (f a)) G
def XT [@V] [Enc α] [DecidableEq β] [Enc β] [DecidableEq γ] [Enc γ](pre:α->β->Prop)(f:α->β->γ):di:=λds G Q _=>∃(a:α) (b:β),ds=[enc a,enc b]/\pre a b/\Q (enc (f a b)) G
abbrev TF2:=iM->ik->Gp->(@n->@t)->Prop
end K2
end
section
namespace K2
def fV(x:PySem.Str)(t:sV):da:=λE _ τ G=>t E τ G λds G1=>ds.length<=SZ/\E ⟨x,[]⟩ G1
end K2
namespace K2
open PySem (Str)
def qV(all sub:@n)(a:fh):fh:=λE τ G Q=>a E τ G λx G1=>match x with
 |.ff=>Q (.bl false) G1
 |.exc c=>all.contains c=true/\Q (.bl (sub.contains c)) G1
 |.Cr c _ _=>all.contains c=true/\Q (.bl (sub.contains c)) G1
 |_=>False
end K2
namespace K2
open PySem (Str)
def kM(sp:di)(t:sV):fh:=λE τ G Q=>t E τ G λds G1=>sp ds G1 Q E
end K2
end
section
namespace K2
open PySem (Str)
open Enc (enc)
def cInt(ds:@i)(G:Gp)(Q:DK):Prop:=match ds with
 |[.bl b]=>Q (.int (if b=true then 1 else 0)) G
 |_=>False
def DR(all:@n)(a:fh):fh:=λE τ G Q=>a E τ G λx G1=>match x with
 |.exc c=>all.contains c=true/\Q (.bl true) G1
 |.Cr c _ _=>all.contains c=true/\Q (.bl true) G1
 |_=>False
end K2
end
section
namespace K2
open PySem (Str)
def Bf(x:D)(ds:@i)(G:Gp)(Q:DK):Prop:=match x,ds with
 |.ref a,[k,d]=>∃bx,G a=some (.jG bx)/\iF bx k=true/\Q ((look bx k).getD d) G
 |_,_=>False
theorem GC{κ α:Type} [DecidableEq κ] [Enc κ] [qF κ] [@V] [Enc α]{a:Nat}{l:List (κ×α)}{k:κ}{e:α}{G:Gp}{Q:DK}(h:G a=some (.jG (c9 l)))(q:Q (Enc.enc ((dM l k).getD e)) G):Bf (@m) [Enc.enc k,Enc.enc e] G Q:=by
 refine⟨_,h,vo _ _,?_⟩;have:(look (c9 l) (Enc.enc k)).getD (Enc.enc e)=Enc.enc ((dM l k).getD e):=by
  rw[GI];cases dM l k<;>rfl
 rw[this];exact q
end K2
end
section
namespace K2
open PySem (Str)
open Enc (enc)
noncomputable def h2(t:T2):Int:=PySem.reduceHash (PySem.Builtin.Tuple.tupleHashOf [PySem.hashInt t.a,PySem.hashInt t.b])
def BS(t:da):da:=λ_ K τ G=>t (@f) K τ G
end K2
end
section
namespace K2
open PySem (Str)
def Qr(al:@n)(f:Str)(x:D)(G:Gp)(Q:DK):Prop:=∃a c fs d,x=@m/\G a=some (.ins c fs)/\c∈al/\fs.lookup f=some d/\Q d G
def bh(al:@n)(f:Str)(te:fh):fh:=λE τ G Q=>te E τ G λx G1=>Qr al f x G1 Q
end K2
namespace K2
open PySem (Str)
noncomputable def putD(f:Str)(d:D):List (Str×D)->List (Str×D)
 |[]=>[(f,d)]
 |(g,x)::r=>if g=f then(g,d)::r else(g,x)::putD f d r
def jg(al:@n)(f:Str)(to tv:fh):da:=λE K τ G=>tv E τ G λd G1=>to E τ G1 λx G2=>∃a c fs,x=@m/\G2 a=some (.ins c fs)/\c∈al/\fs.length<1000/\K.nx τ (ck G2 a (.ins c (putD f d fs)))
def gv(c:Str)(sp:di)(t:sV):fh:=λE τ G Q=>t E τ G λds G1=>∀p,G1 p=none->sp (.ref p::ds) (ck G1 p (.ins c [])) (λv G2=>v=.ff/\Q (.ref p) G2) @f
end K2
namespace K2
open PySem (Str)
def cW(ms:List (Str×di))(m:Str)(to:fh)(t:sV):fh:=λE τ G Q=>to E τ G λx G1=>∃a c fs sp,x=@m/\G1 a=some (.ins c fs)/\(c,sp)∈ms/\fs.lookup m=none/\t E τ G1 λds G2=>sp (x::ds) G2 Q @f
end K2
end
section
namespace K2
open PySem (Str)
def MQ(t:B0):B1:=λE d τ G Q=>match qP d G with
 |some ds=>t E ds τ G Q
 |none=>False
end K2
namespace K2
open PySem (Str)
def X4(x:D)(k:Option Int)(G:Gp)(Q:DK):Prop:=k=some (-1)/\∃a b,qP x G=some [a,b]/\jN G (.lst [b,a]) Q
def BU(ta:fh)(ts:WT):fh:=λE τ G Q=>ta E τ G λx G1=>ts E τ G1 λk G2=>X4 x k G2 Q
end K2
end
section
namespace K2
open PySem (Str)
def fW(ms:List (Str×di))(m:Str)(to:fh)(t:sV):fh:=λE τ G Q=>to E τ G λx G1=>∃a c fs sp,x=@m/\G1 a=some (.ins c fs)/\(c,sp)∈ms/\fs.lookup m=none/\t E τ G1 λds G2=>sp (x::ds) G2 Q E
noncomputable def only(a:Nat)(o:GO):Gp:=λb=>if b=a then @j else none
theorem As:only a o a=@j:=by unfold only;rw[if_pos rfl]
end K2
end
section
namespace K2
open Enc (enc)
def nz(ds:@i)(G:Gp)(Q:DK):Prop:=match ds with
 |[x]=>∃ns:@I,pY x G/\itemsOf x G=some (ns.map enc)/\ns.length<64/\jN G (.lst ((Rl ns).map enc)) Q
 |_=>False
theorem zu{xs:@I}(h:IsL G d (xs.map enc))(hl:xs.length<64)(k:jN G (.lst ((Rl xs).map enc)) Q):nz [d] G Q:=⟨xs,UL h,Bt h,hl,k⟩
end K2
end
section
namespace K2
open PySem (Str)
def yI(a b:da):da:=λE K τ G=>a E K τ G\/b E K τ G
def gG(sn sx:di)(t:sV):fh:=λE τ G Q=>t E τ G λds G1=>sn ds G1 Q (@f)\/sx ds G1 Q E
def DQ(sp:di)(t:sV)(i:Nat)(cat:@n)(th:da):da:=λ_ K τ G=>
 t (@f) τ G λds G1=>sp ds (λ_=>none) (@f) λex _=>cat.contains ex.cls=true /\
  th (@f) ⟨λj5 G'=>K.nx (j5.set i none) G',@f,@f,@f⟩ (τ.set i (some (.exc ex.cls))) G1
def sR(ms:List (Str×di))(m:Str)(to:fh)(t:sV)(i:Nat)(cat:@n)(th:da):da:=λ_ K τ G=>
 to (@f) τ G λx G1=>∃a c fs sp,x=@m/\G1 a=some (.ins c fs)/\(c,sp)∈ms/\fs.lookup m=none/\t (@f) τ G1 λds G2=>G2 a=some (.ins c fs) /\
  sp (x::ds) (only a (.ins c fs)) (@f) λex G'=>G' a=some (.ins c fs)/\cat.contains ex.cls=true /\
   th (@f) ⟨λj5 G3=>K.nx (j5.set i none) G3,@f,@f,@f⟩ (τ.set i (some (.exc ex.cls))) G2
end K2
end
local macro_rules | `(tactic|simp! $[[$a,*]]? $[$l:location]?)=>match a with |some a=>`(tactic|simp only[↓ae,↓af,↓aj,↓ao,↓aq,↓ai,↓K2.aY,↓av,↓aF,↓aw,↓ay,↓K2.aC,↓if_true,↓ag,↓if_false,↓K2.bG,↓K2.bT,↓aK,↓K2.bZ,↓K2.cN,↓K2.cM,↓K2.b8,↓aI,↓K2.fH,↓K2.cb,↓K2.dU,↓K2.dN,↓K2.fx,↓K2.cq,↓K2.cV,↓K2.eQ,↓K2.lz,↓K2.lA,↓true_and,↓K2.mz,↓K2.iW,↓K2.iE,↓K2.qi,↓K2.ny,↓K2.qz,↓K2.jv,$a,*] $[$l:location]?) |none=>`(tactic|simp only[↓ae,↓af,↓aj,↓ao,↓aq,↓ai,↓K2.aY,↓av,↓aF,↓aw,↓ay,↓K2.aC,↓if_true,↓ag,↓if_false,↓K2.bG,↓K2.bT,↓aK,↓K2.bZ,↓K2.cN,↓K2.cM,↓K2.b8,↓aI,↓K2.fH,↓K2.cb,↓K2.dU,↓K2.dN,↓K2.fx,↓K2.cq,↓K2.cV,↓K2.eQ,↓K2.lz,↓K2.lA,↓true_and,↓K2.mz,↓K2.iW,↓K2.iE,↓K2.qi,↓K2.ny,↓K2.qz,↓K2.jv] $[$l:location]?)
section
namespace K2
open PySem PySem.Spec PyProof.Rows L2
def Xy(K:aB)(H:Hp)(a:Addr)(xs:List V):Prop :=
 (∃o,H a=some (.kU o (.lst xs))) \/
  ∃(o:Obj) (b9:Array Value) (n:Nat),K.lookup a=@j/\o.cls=.type "list"/\o.dict=none/\o.data=.seq b9 n/\b9.size<=bB/\Vals xs b9.toList
theorem Xy.sq{K:aB}(h:Xy K H a xs):qE K H a xs:=by
 rcases h with ⟨o,h⟩ |h
 .exact .inl (.inr ⟨o,h⟩)
 .exact .inr h
noncomputable def fL:Key->D
 |.inl i=>.int i
 |.inr x=>.str x
def ExcAt(K:aB)(H:Hp)(a:Addr)(c:Str):Prop:=∃(o:Obj) (C:Addr),H a=some (.kU o (.ext λh=>h.get? a=@j))/\o.cls=.ref C/\gI K bj c=some (some @z)
def Lp(K:aB)(H:Hp)(a:Addr)(c:Str)(ns:@n)(vs:List V):Prop:=∃(o:Obj) (C dx:Addr) (od:Obj) (fs:List (Str×V)),H a=some (.kU o (.ext λh=>h.get? a=@j))/\o.cls=.ref C/\gI K bj c=some (some @z)/\o.dict=some dx/\H dx=some (.kU od (.xd fs))/\PySem.W.notCls o=true/\fs.map (·.1)=ns/\fs.map (·.2)=vs
noncomputable def hsT(hs:@I):Int:=reduceHash (Builtin.Tuple.tupleHashOf hs)
def hP(k:PK):Int:=hsT (k.map λr=>hsT (r.map λt=>hsT (t.map hashInt)))
def PDo(a:Addr)(xs:List (PK×Addr×Value))(h:Heap):Prop:=xs.length<=bB/\(a == jA)=false/\∃(o:Obj) (es:Array DictEntry) (ep:Nat),h.get? a=@j/\o.ExactDict/\o.data=.dict es ep/\es.toList=xs.map (λx=>⟨hP x.1,.ref x.2.1,x.2.2⟩)/\(xs.map (·.1)).Nodup
def Zp(bx:List (PK×D))(ks vs:List V)(xs:List (PK×Addr×Value)):Prop:=bx.map (λp=>p.1)=xs.map (λx=>x.1)/\ks=xs.map (λx=>V.ref x.2.1)/\Vals vs (xs.map λx=>x.2.2)
mutual
inductive cI (K:aB) (H:Hp):V->D->Prop
 |ff:cI K H .ff .ff
 |bl (b:Bool):cI K H (.bl b) (.bl b)
 |int (i:Int):cI K H (.int i) (.int i)
 |str (x:Str):cI K H (.str x) (.str x)
 |tup {a:Addr} {vs:List V} {ds:@i}:H a=some (.tup vs)->bq K H vs ds->cI K H (@m) (.tup ds)
 |dR {a:Addr} {vs:List V} {ds:@i}:Xy K H a vs->bq K H vs ds->cI K H (@m) (.dR ds)
 |uc {a:Addr} {o:Obj} {kv:List (Key×V)} {bx:List (D×D)}:H a=some (.kU o (.dK kv))->rj K H kv bx->cI K H (@m) (.pZ bx)
 |t9 {a:Addr} {o:Obj} {kv:List (List Key×V)} {bx:List (D×D)}:H a=some (.kU o (.dT kv))->rD K H kv bx->cI K H (@m) (.pZ bx)
 |ref (a:Addr):cI K H (@m) (@m)
 |exc {a:Addr} {c:Str}:ExcAt K H a c->cI K H (@m) (.exc c)
 |Cr {a:Addr} {c:Str} {ns:@n} {vs:List V} {ds:@i}:Lp K H a c ns vs->bq K H vs ds->cI K H (@m) (.Cr c ns ds)
 |Dp {a:Addr} {o:Obj} {xs:List (PK×Addr×Value)} {ks vs:List V} {bx:List (PK×D)}:H a=some (.kU o (.ext (PDo a xs)))->Zp bx ks vs xs->bq K H ks (bx.map λp=>X9 p.1)->bq K H vs (bx.map λp=>p.2)->cI K H (@m) (.Dp bx)
inductive bq (K:aB) (H:Hp):List V->@i->Prop
 |nil:bq K H [] []
 |cons {v:V} {d:D} {vs:List V} {ds:@i}:cI K H v d->bq K H vs ds->bq K H (v::vs) (d::ds)
inductive rj (K:aB) (H:Hp):List (Key×V)->List (D×D)->Prop
 |nil:rj K H [] []
 |cons {k:Key} {v:V} {d:D} {r:List (Key×V)} {t:List (D×D)}:cI K H v d->rj K H r t->rj K H ((k,v)::r) ((fL k,d)::t)
inductive rD (K:aB) (H:Hp):List (List Key×V)->List (D×D)->Prop
 |nil:rD K H [] []
 |cons {k:List Key} {v:V} {d:D} {r:List (List Key×V)} {t:List (D×D)}:cI K H v d->rD K H r t->rD K H ((k,v)::r) ((.tup (k.map fL),d)::t)
end
structure Kp(H H':Hp):Prop where
 tup:∀a xs,H a=some (.tup xs)->H' a=some (.tup xs)
 kU:∀a o u,H a=some (.kU o u)->H' a=some (.kU o u)
theorem Kp.refl(H):Kp H H:=⟨λ_ _ h=>h,λ_ _ _ h=>h⟩
theorem Kp.trans(a:Kp H H1)(b:Kp H1 H2):Kp H H2:=⟨λc xs h=>b.tup c xs (a.tup c xs h),λc o u h=>b.kU c o u (a.kU c o u h)⟩
theorem Kp.sqT{K:aB}(k:Kp H H')(h:B2 K H a xs):B2 K H' a xs:=by
 rcases h with(h |⟨o,h⟩) |h
 .exact .inl (.inl (k.tup _ _ h))
 .exact .inl (.inr ⟨o,k.kU _ _ _ h⟩)
 .exact .inr h
theorem Kp.UU{K:aB}(k:Kp H H')(h:Xy K H a xs):Xy K H' a xs:=by
 rcases h with ⟨o,h⟩ |h
 .exact .inl ⟨o,k.kU _ _ _ h⟩
 .exact .inr h
theorem ExcAt.mono{K:aB}(k:Kp H H')(h:ExcAt K H a c):ExcAt K H' a c :=
 let ⟨o,C,h1,h2,h3⟩:=h
 ⟨o,C,k.kU _ _ _ h1,h2,h3⟩
theorem Lp.mono{K:aB}(k:Kp H H')(h:Lp K H a c ns vs):Lp K H' a c ns vs :=
 let ⟨o,C,dx,od,fs,h1,h2,h3,h4,h5,h6⟩:=h
 ⟨o,C,dx,od,fs,k.kU _ _ _ h1,h2,h3,h4,k.kU _ _ _ h5,h6⟩
theorem bq.GK{K:aB}{H:Hp}{P:List V->@i->Prop}(h0:P [] [])(h1:∀{v:V} {d:D} {vs:List V} {ds:@i},cI K H v d->bq K H vs ds->P vs ds->P (v::vs) (d::ds)){vs:List V}{ds:@i}(h:bq K H vs ds):P vs ds :=
 bq.rec (motive_1:=λ_ _ _=>True) (motive_2:=λvs ds _=>P vs ds) (motive_3:=λ_ _ _=>True) (motive_4:=λ_ _ _=>True) trivial (λ_=>trivial) (λ_=>trivial) (λ_=>trivial) (λ_ _ _=>trivial) (λ_ _ _=>trivial) (λ_ _ _=>trivial) (λ_ _ _=>trivial) (λ_=>trivial) (λ_=>trivial) (λ_ _ _=>trivial) (λ_ _ _ _ _ _=>trivial) h0 (λa b _ ih=>h1 a b ih) trivial @Y trivial @Y h
theorem cI.mono{K:aB}(k:Kp H H'):∀{v:V} {d:D},cI K H v d->cI K H' v d:=λh=>
 cI.rec (motive_1:=λv d _=>cI K H' v d) (motive_2:=λv d _=>bq K H' v d) (motive_3:=λv d _=>rj K H' v d) (motive_4:=λv d _=>rD K H' v d)
  .ff .bl .int .str (λh _ r=>.tup (k.tup _ _ h) r) (λh _ r=>.dR (k.UU h) r) (λh _ r=>.uc (k.kU _ _ _ h) r) (λh _ r=>.t9 (k.kU _ _ _ h) r) .ref (λh=>.exc (h.mono k)) (λh _ r=>.Cr (h.mono k) r) (λh z _ _ r1 r2=>.Dp (k.kU _ _ _ h) z r1 r2) .nil (λ_ _ a b=>.cons a b) .nil (λ_ _ a b=>.cons a b) .nil (λ_ _ a b=>.cons a b) h
theorem bq.mono{K:aB}(k:Kp H H')(h:bq K H v d):bq K H' v d :=
 bq.GK (P:=λv d=>bq K H' v d) .nil (λr _ ih=>.cons (r.mono k) ih) h
theorem rj.mono{K:aB}(k:Kp H H')(h:rj K H v d):rj K H' v d :=
 rj.rec (motive_1:=λv d _=>cI K H' v d) (motive_2:=λv d _=>bq K H' v d) (motive_3:=λv d _=>rj K H' v d) (motive_4:=λv d _=>rD K H' v d)
  .ff .bl .int .str (λh _ r=>.tup (k.tup _ _ h) r) (λh _ r=>.dR (k.UU h) r) (λh _ r=>.uc (k.kU _ _ _ h) r) (λh _ r=>.t9 (k.kU _ _ _ h) r) .ref (λh=>.exc (h.mono k)) (λh _ r=>.Cr (h.mono k) r) (λh z _ _ r1 r2=>.Dp (k.kU _ _ _ h) z r1 r2) .nil (λ_ _ a b=>.cons a b) .nil (λ_ _ a b=>.cons a b) .nil (λ_ _ a b=>.cons a b) h
theorem rD.mono{K:aB}(k:Kp H H')(h:rD K H v d):rD K H' v d :=
 rD.rec (motive_1:=λv d _=>cI K H' v d) (motive_2:=λv d _=>bq K H' v d) (motive_3:=λv d _=>rj K H' v d) (motive_4:=λv d _=>rD K H' v d)
  .ff .bl .int .str (λh _ r=>.tup (k.tup _ _ h) r) (λh _ r=>.dR (k.UU h) r) (λh _ r=>.uc (k.kU _ _ _ h) r) (λh _ r=>.t9 (k.kU _ _ _ h) r) .ref (λh=>.exc (h.mono k)) (λh _ r=>.Cr (h.mono k) r) (λh z _ _ r1 r2=>.Dp (k.kU _ _ _ h) z r1 r2) .nil (λ_ _ a b=>.cons a b) .nil (λ_ _ a b=>.cons a b) .nil (λ_ _ a b=>.cons a b) h
theorem bq.length{K:aB}:∀{vs:List V} {ds:@i},bq K H vs ds->vs.length=ds.length:=λh=>
 bq.GK (P:=λvs ds=>vs.length=ds.length) rfl (λ_ _ ih=>congrArg (· + 1) ih) h
theorem bq.get{K:aB}:∀{vs:List V} {ds:@i} {i:Nat} {d:D},bq K H vs ds->ds[i]?=some d->∃v,vs[i]?=some v/\cI K H v d:=by
 intro vs ds i d h;refine bq.GK (P:=λvs ds=>∀(i:Nat) (d:D),ds[i]?=some d->∃v,vs[i]?=some v/\cI K H v d) (λi d e=>by cases e) (λr _ ih i d e=>?_) h i d;cases i with
 |zero=>cases e;exact⟨_,rfl,r⟩
 |succ i=>exact ih i d e
theorem bq.append{K:aB}:∀{vs ws:List V} {ds es:@i},bq K H vs ds->bq K H ws es->bq K H (vs++ws) (ds++es):=λ{_ ws _ es} h s=>
 bq.GK (P:=λvs ds=>bq K H (vs++ws) (ds++es)) s (λr _ ih=>.cons r ih) h
theorem bq.take{K:aB}:∀{vs:List V} {ds:@i} (n:Nat),bq K H vs ds->bq K H (vs.take n) (ds.take n):=λ{_ _} n h=>
 bq.GK (P:=λvs ds=>∀n,bq K H (vs.take n) (ds.take n)) (λn=>by rw[Ck,Ck];exact .nil) (λr _ ih n=>by
  cases n with
  |zero=>exact .nil
  |succ n=>exact .cons r (ih n)) h n
theorem bq.drop{K:aB}:∀{vs:List V} {ds:@i} (n:Nat),bq K H vs ds->bq K H (vs.drop n) (ds.drop n):=λ{_ _} n h=>
 bq.GK (P:=λvs ds=>∀n,bq K H (vs.drop n) (ds.drop n)) (λn=>by rw[Cm,Cm];exact .nil) (λr t ih n=>by
  cases n with
  |zero=>exact .cons r t
  |succ n=>exact ih n) h n
theorem bq.set{K:aB}(r:cI K H v d):∀{vs:List V} {ds:@i} (i:Nat),bq K H vs ds->bq K H (vs.set i v) (ds.set i d):=λ{_ _} i h=>
 bq.GK (P:=λvs ds=>∀i,bq K H (vs.set i v) (ds.set i d)) (λi=>by rw[Eb,Eb];exact .nil) (λq t ih i=>by
  cases i with
  |zero=>exact .cons r t
  |succ i=>exact .cons q (ih i)) h i
theorem bq.one{K:aB}:∀{vs:List V} {d:D},bq K H vs [d]->∃v,vs=[v]/\cI K H v d:=by
 intro vs d h;cases h with
 |cons r t=>cases t;exact⟨_,rfl,r⟩
theorem bq.two{K:aB}:∀{vs:List V} {d e:D},bq K H vs [d,e]->∃v u,vs=[v,u]/\cI K H v d/\cI K H u e:=by
 intro vs d e h;cases h with
 |cons r t=>
  obtain⟨u,rfl,q⟩:=bq.one t;exact⟨_,_,rfl,r,q⟩
theorem bq.zero{K:aB}:∀{vs:List V},bq K H vs []->vs=[]
 |_,.nil=>rfl
theorem bq.ints{K:aB}:∀{vs:List V} {ns:@I},bq K H vs (@ad)->vs=ns.map V.int:=by
 intro vs ns;induction ns generalizing vs with
 |nil=>intro h;exact h.zero
 | cons n ns ih=>
  intro h;cases h with
  |cons r t=>
   cases r;rw[ih t];rfl
theorem bq.Ko{K:aB}:∀(ns:@I),bq K H (ns.map V.int) (@ad)
 |[]=>.nil
 |n::ns=>.cons (.int n) (bq.Ko ns)
theorem rj.ind{K:aB}{H:Hp}{motive:∀(kv:List (Key×V)) (bx:List (D×D)),rj K H kv bx->Prop}(nil:motive [] [] .nil)
  (cons:∀{k:Key} {v:V} {d:D} {r:List (Key×V)} {t:List (D×D)} (re:cI K H v d) (rs:rj K H r t),motive r t rs->motive ((k,v)::r) ((fL k,d)::t) (.cons re rs)):∀{kv:List (Key×V)} {bx:List (D×D)} (h:rj K H kv bx),motive kv bx h:=λh=>
 rj.rec (motive_1:=λ_ _ _=>True) (motive_2:=λ_ _ _=>True) (motive_3:=motive) (motive_4:=λ_ _ _=>True) trivial (λ_=>trivial) (λ_=>trivial) (λ_=>trivial) (λ_ _ _=>trivial) (λ_ _ _=>trivial) (λ_ _ _=>trivial) (λ_ _ _=>trivial) (λ_=>trivial) (λ_=>trivial) (λ_ _ _=>trivial) (λ_ _ _ _ _ _=>trivial) trivial @Y nil (λa b _ ih=>cons a b ih) trivial @Y h
theorem rD.ind{K:aB}{H:Hp}{motive:∀(kv:List (List Key×V)) (bx:List (D×D)),rD K H kv bx->Prop}(nil:motive [] [] .nil)
  (cons:∀{k:List Key} {v:V} {d:D} {r:List (List Key×V)} {t:List (D×D)} (re:cI K H v d) (rs:rD K H r t),motive r t rs->motive ((k,v)::r) ((.tup (k.map fL),d)::t) (.cons re rs)):∀{kv:List (List Key×V)} {bx:List (D×D)} (h:rD K H kv bx),motive kv bx h:=λh=>
 rD.rec (motive_1:=λ_ _ _=>True) (motive_2:=λ_ _ _=>True) (motive_3:=λ_ _ _=>True) (motive_4:=motive) trivial (λ_=>trivial) (λ_=>trivial) (λ_=>trivial) (λ_ _ _=>trivial) (λ_ _ _=>trivial) (λ_ _ _=>trivial) (λ_ _ _=>trivial) (λ_=>trivial) (λ_=>trivial) (λ_ _ _=>trivial) (λ_ _ _ _ _ _=>trivial) trivial @Y trivial @Y nil (λa b _ ih=>cons a b ih) h
theorem rj.length{K:aB}:∀{v:List (Key×V)} {d:List (D×D)},rj K H v d->v.length=d.length:=λh=>
 rj.ind (motive:=λv d _=>v.length=d.length) rfl (λ_ _ ih=>congrArg (· + 1) ih) h
theorem rD.length{K:aB}:∀{v:List (List Key×V)} {d:List (D×D)},rD K H v d->v.length=d.length:=λh=>
 rD.ind (motive:=λv d _=>v.length=d.length) rfl (λ_ _ ih=>congrArg (· + 1) ih) h
def QB(K:aB)(H:Hp)(a:Addr):GO->Prop
 |.lst ds=>∃vs,H a=some (.lst vs)/\bq K H vs ds
 |.jG bx=>(∃kv,H a=some (.dK kv)/\rj K H kv bx)\/∃kv,H a=some (.dT kv)/\rD K H kv bx
 |.ins c fs=>∃C dx fv,H a=some (.ins C dx fv)/\gI K bj c=some (some @z)/\fv.map (·.1)=fs.map (·.1)/\bq K H (fv.map (·.2)) (fs.map (·.2))
 |.Ia bx=>∃xs ks vs,H a=some (.ext (PDo a xs))/\Zp bx ks vs xs/\bq K H ks (bx.map λp=>X9 p.1)/\bq K H vs (bx.map λp=>p.2)
def j7(K:aB)(H:Hp)(G:Gp):Prop:=∀a g,G a=some g->QB K H a g
theorem QB.dk{K:aB}{H:Hp}{a:Addr}{kv:List (Key×V)}{bx:List (D×D)}(h:H a=some (.dK kv))(r:rj K H kv bx):QB K H a (.jG bx):=.inl ⟨kv,h,r⟩
theorem QB.mono{K:aB}(k:Kp H H')(e:H' a=H a)(h:QB K H a g):QB K H' a g:=by
 cases g with
 |lst ds=>obtain⟨vs,q,r⟩:=h;exact⟨vs,e.trans q,r.mono k⟩
 |ins c fs=>obtain⟨C,dx,fv,q,h1,h2,r⟩:=h;exact⟨C,dx,fv,e.trans q,h1,h2,r.mono k⟩
 |Ia bx=>obtain⟨xs,ks,vs,q,h1,r1,r2⟩:=h;exact⟨xs,ks,vs,e.trans q,h1,r1.mono k,r2.mono k⟩
 |jG bx=>
  rcases h with ⟨kv,q,r⟩ |⟨kv,q,r⟩
  .exact .inl ⟨kv,e.trans q,r.mono k⟩
  .exact .inr ⟨kv,e.trans q,r.mono k⟩
theorem QB.tracked{K:aB}(h:QB K H a g):H a≠none:=by
 cases g with
 |lst ds=>obtain⟨vs,q,r⟩:=h;rw[q];simp
 |ins c fs=>obtain⟨C,dx,fv,q,_⟩:=h;rw[q];simp
 |Ia bx=>obtain⟨xs,ks,vs,q,_⟩:=h;rw[q];simp
 |jG bx=>
  rcases h with ⟨kv,q,r⟩ |⟨kv,q,r⟩
  .rw[q];simp
  .rw[q];simp
theorem j7.free{K:aB}(h:j7 K H G)(e:H a=none):G a=none:=by
 cases q:G a with
 |none=>rfl
 |some g=>exact absurd e (h a g q).tracked
theorem j7.Yj{K:aB}(h:j7 K H G)(e:H a=some (.tup xs)):G a=none:=by
 cases q:G a with
 |none=>rfl
 | some g=>
  have z:=h a g q;cases g with
  |lst ds=>obtain⟨vs,q,r⟩:=z;rw[e] at q;cases q
  |ins c fs=>obtain⟨C,dx,fv,q,_⟩:=z;rw[e] at q;cases q
  |Ia bx=>obtain⟨xs,ks,vs,q,_⟩:=z;rw[e] at q;cases q
  |jG bx=>
   rcases z with ⟨kv,q,r⟩ |⟨kv,q,r⟩
   .rw[e] at q;cases q
   .rw[e] at q;cases q
theorem j7.Yl{K:aB}(h:j7 K H G)(e:H a=some (.kU o u)):G a=none:=by
 cases q:G a with
 |none=>rfl
 | some g=>
  have z:=h a g q;cases g with
  |lst ds=>obtain⟨vs,q,r⟩:=z;rw[e] at q;cases q
  |ins c fs=>obtain⟨C,dx,fv,q,_⟩:=z;rw[e] at q;cases q
  |Ia bx=>obtain⟨xs,ks,vs,q,_⟩:=z;rw[e] at q;cases q
  |jG bx=>
   rcases z with ⟨kv,q,r⟩ |⟨kv,q,r⟩
   .rw[e] at q;cases q
   .rw[e] at q;cases q
structure Mv(K:aB)(H:Hp)(G:Gp)(H':Hp)(G':Gp):Prop where
 keep:∀a o,H a=@j->G a=none->H' a=@j/\G' a=none
 i9:∀a,G a≠none->H' a≠none
 ab:j7 K H' G'
theorem Mv.refl{K:aB}(h:j7 K H G):Mv K H G H G:=⟨λ_ _ e n=>⟨e,n⟩,λa n=>by
 cases q:G a with
 |none=>exact absurd q n
 |some g=>exact(h a g q).tracked,h⟩
theorem Mv.trans{K:aB}(a:Mv K H G H1 G1)(b:Mv K H1 G1 H2 G2):Mv K H G H2 G2 :=
 ⟨λc o e n=>let ⟨e1,n1⟩:=a.keep c o e n;b.keep c o e1 n1,λc n=>by
  have h1:=a.i9 c n;cases q:G1 c with
  |some g=>exact b.i9 c (by rw[q];simp)
  |none=>
   cases q1:H1 c with
   |none=>exact absurd q1 h1
   |some o=>rw[(b.keep c o q1 q).1];simp,b.ab⟩
theorem Mv.kp{K:aB}(m:Mv K H G H' G')(h:j7 K H G):Kp H H' :=
 ⟨λa xs e=>(m.keep a _ e (h.Yj e)).1,λa o u e=>(m.keep a _ e (h.Yl e)).1⟩
theorem Kp.new{H:Hp}{p:Addr}{o:HO}(hp:H p=none):Kp H (upd H p o):=⟨λa xs e=>by rw[bP (eE e hp)];exact e,λa ob u e=>by rw[bP (eE e hp)];exact e⟩
theorem Kp.putL{H:Hp}{p:Addr}{xs:List V}{o:HO}(hp:H p=some (.lst xs)):Kp H (upd H p o) :=
 ⟨λa ys e=>by rw[bP (by rintro rfl;rw[hp] at e;cases e)];exact e,λa ob u e=>by rw[bP (by rintro rfl;rw[hp] at e;cases e)];exact e⟩
theorem Mv.new{K:aB}(h:j7 K H G)(hp:H p=none)(ho:QB K (upd H p o) p g):Mv K H G (upd H p o) (ck G p g) where
 keep:=λa ob e n=>by
  have ne:=eE e hp;exact⟨by rw[bP ne];exact e,by rw[dm ne];exact n⟩
 i9:=λa n=>by
  have ne:a≠p:=by rintro rfl;exact n (h.free hp)
  rw[bP ne];exact(Mv.refl h).i9 a n
 ab:=λa g' e=>by
  by_cases ha:a=p
  .subst ha;rw[az] at e;cases e;exact ho
  .rw[dm ha] at e;exact(h a g' e).mono (.new hp) (bP ha)
theorem Mv.SH{K:aB}(h:j7 K H G)(hp:H p=none):Mv K H G (upd H p o) G where
 keep:=λa ob e n=>⟨by rw[bP (eE e hp)];exact e,n⟩
 i9:=λa n=>by
  have ne:a≠p:=by rintro rfl;exact n (h.free hp)
  rw[bP ne];exact(Mv.refl h).i9 a n
 ab:=λa g' e=>by
  have ne:a≠p:=by rintro rfl;rw[h.free hp] at e;cases e
  exact(h a g' e).mono (.new hp) (bP ne)
theorem Mv.put{K:aB}(h:j7 K H G)(hg:G p=some g0)(k:Kp H (upd H p o))(ho:QB K (upd H p o) p g):Mv K H G (upd H p o) (ck G p g) where
 keep:=λa ob e n=>by
  have ne:a≠p:=by rintro rfl;rw[hg] at n;cases n
  exact⟨by rw[bP ne];exact e,by rw[dm ne];exact n⟩
 i9:=λa n=>by
  by_cases ha:a=p
  .subst ha;rw[cR];simp
  .rw[bP ha];exact(Mv.refl h).i9 a n
 ab:=λa g' e=>by
  by_cases ha:a=p
  .subst ha;rw[az] at e;cases e;exact ho
  .rw[dm ha] at e;exact(h a g' e).mono k (bP ha)
theorem j7.lst{K:aB}(h:j7 K H G)(e:G a=some (.lst ds)):∃vs,H a=some (.lst vs)/\bq K H vs ds:=h a _ e
theorem Mv.Ja{K:aB}(h:j7 K H G)(hp:H p=none)(r:bq K H vs ds):Mv K H G (upd H p (.lst vs)) (ck G p (.lst ds)) :=
 .new h hp ⟨vs,cR,r.mono (.new hp)⟩
theorem Mv.putL{K:aB}(h:j7 K H G)(hg:G p=some (.lst ds0))(hp:H p=some (.lst vs0))(r:bq K H vs ds):Mv K H G (upd H p (.lst vs)) (ck G p (.lst ds)) :=
 .put h hg (.putL hp) ⟨vs,cR,r.mono (.putL hp)⟩
structure Nh(K:aB)(H:Hp)(σ:L2.St)(τ:ik):Prop where
 len:σ.length=τ.length
 at':∀(i:Nat) (d:D),τ[i]?=some (some d)->∃v,σ[i]?=some (some v)/\cI K H v d
theorem Nh.mono{K:aB}(k:Kp H H')(a:Nh K H σ τ):Nh K H' σ τ :=
 ⟨a.len,λi d e=>let ⟨v,h1,h2⟩:=a.at' i d e;⟨v,h1,h2.mono k⟩⟩
theorem Nh.set{K:aB}(a:Nh K H σ τ)(i)(r:cI K H v d):Nh K H (σ.set i (some v)) (τ.set i (some d)):=by
 refine⟨by rw[fB,fB];exact a.len,λj e h=>?_⟩;by_cases hj:i=j
 .subst hj;by_cases hi:i<τ.length
  .rw[fi hi] at h;cases h;exact⟨v,by rw[fi (by rw[a.len];exact hi)],r⟩
  .rw[List.set_eq_of_length_le (@e)] at h;rw[nH (@e)] at h;cases h
 .rw[eT hj] at h;obtain⟨w,h1,h2⟩:=a.at' j e h;exact⟨w,by rw[eT hj];exact h1,h2⟩
structure I2(X:Cx)(pins:@A)(σ:L2.St)(H:Hp)(τ:ik)(G:Gp)(s:aL):Prop where
 inv:@o
 st:Nh X.K H σ τ
 ab:j7 X.K H G
theorem I2.mv(I:I2 X pins σ H τ G s)(I':Inv X pins σ H' s')(m:Mv X.K H G H' G'):I2 X pins σ H' τ G' s' :=
 ⟨I',I.st.mono (m.kp I.ab),m.ab⟩
def vK(P:bY)(w:World):JQ:=λouter H s E e s'=>∃(a C t:Addr) (B:Heap) (H':Hp),e=@m/\s'.os=s.os/\AP s'.gens/\Un (tQ outer) [] H H' s.heap s'.heap/\oQ P w H' s'.heap /\
 (∀b o,s'.heap.get? b=@j->b∉tQ outer->(@Z≠none\/H' b≠none)->B.get? b=@j)/\oB B outer a @z (.ref t) s'.heap/\H' a=none/\s.heap.get? a=none/\E @z none H'
def Xp(K:aB)(mg:@aa)(E:iM):XK:=λcls _ H=>∃(ex:Ex) (C:Addr) (G:Gp),cls=.ref C/\mg ex.cls=some @z/\j7 K H G/\E ex G
structure Lk(X:Cx)(E:iM):Prop where
 made:∀(pins:@A) (σ:L2.St) (H:Hp) (s:aL) (h1:Heap) (a C:Addr) (args:@D) (ex:Ex) (G:Gp),@o->j7 X.K H G->PySem.Heap.MadeExcOf s.heap h1 a @z args->X.mg ex.cls=some @z->E ex G->X.xe (@m) {s with heap:=h1}
 pass:∀(pins:@A) (σ:L2.St) (H:Hp) (s s':aL) (e:Value),@o->vK X.prog X.w X.stack H s (Xp X.K X.mg E) e s'->X.xe e s'
theorem Lk.none(h:∀ex G,¬ E ex G):Lk X E where
 made:=λ_ _ _ _ _ _ _ _ ex _ _ _ _ _ z=>absurd z (h ex _)
 pass:=λ_ _ _ _ _ _ _ hc=>by
  obtain⟨_,_,_,_,_,_,_,_,_,_,_,_,_,_,hz⟩:=hc;obtain⟨ex,_,_,_,_,_,z⟩:=hz;exact absurd z (h ex _)
inductive qa (X:Cx) (pins:@A) (σ:L2.St) (H:Hp) (G:Gp) (Q:DK) (u:Value) (s':aL):Prop
 |mk (v:V) (H':Hp) (d:D) (G':Gp) (i:Inv X pins σ H' s') (m:Mv X.K H G H' G') (r:RelV v u) (rd:cI X.K H' v d) (q:Q d G'):qa X pins σ H G Q u s'
inductive Xx (X:Cx) (pins:@A) (σ:L2.St) (H:Hp) (G:Gp) (Q:Bool->@t) (b:Bool) (s':aL):Prop
 |mk (H':Hp) (G':Gp) (i:Inv X pins σ H' s') (m:Mv X.K H G H' G') (q:Q b G'):Xx X pins σ H G Q b s'
inductive AP2 (X:Cx) (pins:@A) (σ:L2.St) (H:Hp) (G:Gp) (Q:@i->@t) (us:@D) (s':aL):Prop
 |mk (vs:List V) (H':Hp) (ds:@i) (G':Gp) (i:Inv X pins σ H' s') (m:Mv X.K H G H' G') (r:Vals vs us) (rd:bq X.K H' vs ds) (q:Q ds G'):AP2 X pins σ H G Q us s'
inductive Z8 (X:Cx) (pins:@A) (H:Hp) (G:Gp) (P:ik->@t) (s':aL):Prop
 |mk (iJ:L2.St) (H':Hp) (j5:ik) (G':Gp) (i:I2 X pins iJ H' j5 G' s') (m:Mv X.K H G H' G') (q:P j5 G'):Z8 X pins H G P s'
inductive SPr (X:Cx) (pins:@A) (H:Hp) (G:Gp) (P:D->@t) (u:Value) (s':aL):Prop
 |mk (v:V) (iJ:L2.St) (H':Hp) (d:D) (G':Gp) (i:Inv X pins iJ H' s') (m:Mv X.K H G H' G') (r:RelV v u) (rd:cI X.K H' v d) (q:P d G'):SPr X pins H G P u s'
def FI(X:Cx)(pins:@A)(H:Hp)(G:Gp)(D:kN)(f:Flow)(s':aL):Prop :=
 match f with
 |.next=>Z8 X pins H G D.nx s'
 |.brk=>Z8 X pins H G D.bk s'
 |.cont=>Z8 X pins H G D.ct s'
 |.ret u=>SPr X pins H G D.rt u s'
def dw(X:Cx)(e:Expr)(t:fh):Prop :=
 ∀(E:iM) (pins:@A) (s:aL) (σ:L2.St) (H:Hp) (τ:ik) (G:Gp) (Q:DK),Lk X E->I2 X pins σ H τ G s->t E τ G Q->wpAny @r X.A (eval e X.env) (qa X pins σ H G Q) X.xe s
def CP(X:Cx)(e:Expr)(t:yJ):Prop :=
 ∀(E:iM) (pins:@A) (s:aL) (σ:L2.St) (H:Hp) (τ:ik) (G:Gp) (Q:Bool->@t),Lk X E->I2 X pins σ H τ G s->t E τ G Q->wpAny @r X.A (isTrue e X.env (eval e X.env)) (Xx X pins σ H G Q) X.xe s
def Qw(X:Cx)(e:Expr)(t:yJ):Prop :=
 ∀(wh:Sem Value) (E:iM) (pins:@A) (s:aL) (σ:L2.St) (H:Hp) (τ:ik) (G:Gp) (Q:Bool->@t),Lk X E->I2 X pins σ H τ G s->t E τ G Q->wpAny @r X.A (isTrue e X.env wh) (Xx X pins σ H G Q) X.xe s
def rg(X:Cx)(es:List Expr)(t:sV):Prop :=
 ∀(pos:Pos) (E:iM) (pins:@A) (s:aL) (σ:L2.St) (H:Hp) (τ:ik) (G:Gp) (Q:@i->@t),Lk X E->I2 X pins σ H τ G s->t E τ G Q->wpAny @r X.A (D7 (eW pos (aT es X.env))) (AP2 X pins σ H G Q) X.xe s
def ui(X:Cx)(st:Stmt)(t:da):Prop :=
 ∀(E:iM) (pins:@A) (s:aL) (σ:L2.St) (H:Hp) (τ:ik) (G:Gp) (D:kN),Lk X E->I2 X pins σ H τ G s->t E D τ G->wpAny @r X.A (exec st X.env) (FI X pins H G D) X.xe s
def ma(X:Cx)(st:List Stmt)(t:da):Prop :=
 ∀(E:iM) (pins:@A) (s:aL) (σ:L2.St) (H:Hp) (τ:ik) (G:Gp) (D:kN),Lk X E->I2 X pins σ H τ G s->t E D τ G->wpAny @r X.A (execs st X.env) (FI X pins H G D) X.xe s
theorem FI.trans{D:kN}(m:Mv X.K H G H1 G1)(h:FI X pins H1 G1 D f s'):FI X pins H G D f s':=by
 cases f with
 |next=>obtain⟨iJ,H',j5,G',I,m',q⟩:=h;exact⟨iJ,H',j5,G',I,m.trans m',q⟩
 |brk=>obtain⟨iJ,H',j5,G',I,m',q⟩:=h;exact⟨iJ,H',j5,G',I,m.trans m',q⟩
 |cont=>obtain⟨iJ,H',j5,G',I,m',q⟩:=h;exact⟨iJ,H',j5,G',I,m.trans m',q⟩
 |ret u=>obtain⟨v,iJ,H',d,G',I,m',r,rd,q⟩:=h;exact⟨v,iJ,H',d,G',I,m.trans m',r,rd,q⟩
section
variable {X:Cx} {a b c:Expr} {ta tb tc:fh} {pos:Pos}
theorem j0(ha:dw X a ta)(hE:Lk X E)(I:I2 X pins σ H τ G s)(h:ta E τ G R)
  (k:∀v H1 d G1 u s1,I2 X pins σ H1 τ G1 s1->Mv X.K H G H1 G1->RelV v u->cI X.K H1 v d->R d G1->Q u s1):wpAny @r X.A (eval a X.env) Q X.xe s :=
 fY (ha E pins s σ H τ G R hE I h) (by rintro u s1 ⟨v,H1,d,G1,I1,m,r,rd,q⟩;exact k v H1 d G1 u s1 (I.mv I1 m) m r rd q)
theorem qa.trans(m:Mv X.K H G H1 G1)(h:qa X pins σ H1 G1 Q u s'):qa X pins σ H G Q u s':=by
 obtain⟨v,H',d,G',I,m',r,rd,q⟩:=h;exact⟨v,H',d,G',I,m.trans m',r,rd,q⟩
theorem Xx.trans(m:Mv X.K H G H1 G1)(h:Xx X pins σ H1 G1 Q u s'):Xx X pins σ H G Q u s':=by
 obtain⟨H',G',I,m',r⟩:=h;exact⟨H',G',I,m.trans m',r⟩
theorem RW   (hN:X.N[i]?=some x) (hv:Z6 X.env.scope x) (hd:autoParam ((x == ("__debug__":Str))=false) Ad._auto_1) (KJ:autoParam ((x == ("__classdict__":Str))=false) Ad._auto_1):dw X (.Name x pos) (ak i):=by
 ext c;unfold ak at h;split at h
 .rename_i d e;obtain⟨v,h1,h2⟩:=I.st.at' i d e;exact fY (Vg hN hv hd KJ pins s σ H (λv' H'=>v'=v/\H'=H) I.inv ⟨v,h1,rfl,rfl⟩) λu s1 Py=>by
   obtain⟨v',H',I1,r,e1,e2⟩:=Py;subst e1;subst e2;exact⟨_,_,d,G,I1,.refl I.ab,r,h2,h⟩
 .exact h.elim
theorem pq(h:PE X e (tC v))(r:∀K H,cI K H v d):dw X e (dC d):=by
 intro E pins s σ H τ G Q hE I hq;exact fY (h pins s σ H (λv' H'=>v'=v/\H'=H) I.inv @R) λu s1 TY=>by
  obtain⟨v',H',I1,rr,e1,e2⟩:=TY;subst e1;subst e2;exact⟨_,_,d,G,I1,.refl I.ab,rr,r _ _,hq⟩
theorem R7{i j}:dw X (.Constant (.int i) j pos) (dC (.int i)):=pq Vj λ_ _=>.int i
def pS(X:Cx)(f:Value->Value->Sem Value)(r:FJ):Prop :=
 ∀(pins:@A) (s:aL) (σ:L2.St) (H:Hp) (G:Gp) (x y:V) (dx dy:D) (v u:Value) (Q:DK),@o->j7 X.K H G->RelV x v->RelV y u->cI X.K H x dx->cI X.K H y dy->r dx dy G Q ->
  wpAny @r X.A (f v u) (qa X pins σ H G Q) X.xe s
def WR(X:Cx)(f:Value->Sem Value)(r:D->Gp->DK->Prop):Prop :=
 ∀(pins:@A) (s:aL) (σ:L2.St) (H:Hp) (G:Gp) (x:V) (dx:D) (v:Value) (Q:DK),@o->j7 X.K H G->RelV x v->cI X.K H x dx->r dx G Q ->
  wpAny @r X.A (f v) (qa X pins σ H G Q) X.xe s
def nG(X:Cx)(f:Value)(r:@i->Gp->DK->Prop):Prop :=
 ∀(pins:@A) (s:aL) (σ:L2.St) (H:Hp) (G:Gp) (xs:List V) (ds:@i) (us:@D) (Q:DK),@o->j7 X.K H G->Vals xs us->bq X.K H xs ds->r ds G Q ->
  wpAny @r X.A (call f us) (qa X pins σ H G Q) X.xe s
abbrev zR(K:aB)(H:Hp)(G:Gp)(Q:DK):VK:=λv H'=>∃d G',Mv K H G H' G'/\cI K H' v d/\Q d G'
theorem qa.of(h:EP X pins σ (zR X.K H G Q) u s'):qa X pins σ H G Q u s':=by
 obtain⟨v,H',I,r,d,G',m,rd,q⟩:=h;exact⟨v,H',d,G',I,m,r,rd,q⟩
theorem Qq(ha:dw X a ta)(hb:dw X b tb){R:D->D->@t}(hE:Lk X E)(I:I2 X pins σ H τ G s)
  (h:ta E τ G λx G1=>tb E τ G1 λy G2=>R x y G2)  {f:Value->Value->Sem Value}
  (hf:∀v u s2 x y dx dy H2 G2,I2 X pins σ H2 τ G2 s2->Mv X.K H G H2 G2->RelV x v->RelV y u->cI X.K H2 x dx->cI X.K H2 y dy->R dx dy G2->wpAny @r X.A (f v u) Q X.xe s2):
  wpAny @r X.A (eval a X.env) (λv eU=>wpAny @r X.A (eval b X.env) (λu iQ=>wpAny @r X.A (f v u) Q X.xe iQ) X.xe eU) X.xe s:=by
 refine j0 ha hE I h λx H1 dx G1 v s1 I1 m1 r1 jd q1=>?_;refine j0 hb hE I1 q1 λy H2 dy G2 u s2 j6 m2 r2 Ey q2=>?_;exact hf v u s2 x y dx dy H2 G2 j6 (m1.trans m2) r1 r2 (jd.mono (m2.kp I1.ab)) Ey q2
theorem Vm(ho:pS X (kR op) r)(ha:dw X a ta)(hb:dw X b tb):dw X (.BinOp a op b pos) (aG r ta tb):=by
 ext c;exact wpAny_BinOp (Qq ha hb hE I h λv u s2 x y dx dy H2 G2 j6 m rx ry dX dY q=>fY (ho pins s2 σ H2 G2 x y dx dy v u Q j6.inv j6.ab rx ry dX dY q) λ_ _ z=>z.trans m)
theorem Vk(ho:WR X (unaryOp op) r)(ha:dw X a ta):dw X (.UnaryOp op a pos) (rq r ta):=by
 ext c;exact UnaryOp_ (j0 ha hE I h λx H1 dx G1 v s1 I1 m1 r1 jd q1=>fY (ho pins s1 σ H1 G1 x dx v Q I1.inv I1.ab r1 jd q1) λ_ _ z=>z.trans m1)
theorem Sb(ho:pS X (eZ op) r)(ha:dw X a ta)(hb:dw X b tb)(hm:behindInMarks op b=false):dw X (.Compare a [op] [b] pos) (aG r ta tb):=by
 ext c;exact wpAny_Compare1 (Qq ha hb hE I h λv u s2 x y dx dy H2 G2 j6 m rx ry dX dY q=>fY (ho pins s2 σ H2 G2 x y dx dy v u Q j6.inv j6.ab rx ry dX dY q) λ_ _ z=>z.trans m) hm
end
theorem XH{K:aB}(ab:j7 K H G)(r:cI K H x d)(e:HU d G=some k):(∃p,x=.ref p/\Rd H p (.dT [])/\k=false)\/(∃p kv,x=.ref p/\Rd H p (.dK kv)/\k=!kv.isEmpty)\/WS K x H k:=by
 have P9:∀bx:List (D×D),(if(bx.all λp=>fS p.1)=true then some (!bx.isEmpty) else none)=some k->∀p,((∃kv,Rd H p (.dK kv)/\rj K H kv bx)\/∃kv,Rd H p (.dT kv)/\rD K H kv bx) ->
   (∃p',V.ref p=.ref p'/\Rd H p' (.dT [])/\k=false)\/(∃p' kv,V.ref p=.ref p'/\Rd H p' (.dK kv)/\k=!kv.isEmpty)\/WS K (.ref p) H k:=by
  intro bx e p z;by_cases ha:(bx.all λp=>fS p.1)=true
  .rw[if_pos ha] at e;cases e;rcases z with ⟨kv,hv,rs⟩ |⟨kv,hv,rs⟩
   .right;left;refine⟨p,kv,rfl,hv,?_⟩;cases rs<;>rfl
   .left;cases rs with
    |nil=>exact⟨p,rfl,hv,rfl⟩
    |cons _ _=>simp[fS] at ha
  .rw[if_neg ha] at e;cases e
 cases r with
 |ff=>right;right;cases e;rfl
 |bl b=>right;right;cases e;rfl
 |int i=>right;right;cases e;rfl
 |str y=>
  right;right;unfold HU at e;dsimp only at e;by_cases h:y.length<=SZ
  .rw[if_pos h] at e;cases e;exact⟨by rw[cX];exact h,rfl⟩
  .rw[if_neg h] at e;cases e
 |tup h rs=>
  right;right;cases e;refine .inr (.inl ⟨_,.of h,?_⟩);cases rs<;>rfl
 |dR h rs=>
  right;right;cases e;refine .inl ⟨_,h.sq,?_⟩;cases rs<;>rfl
 |uc h rs=>exact P9 _ e _ (.inl ⟨_,.inr ⟨_,h⟩,rs⟩)
 |t9 h rs=>exact P9 _ e _ (.inr ⟨_,.inr ⟨_,h⟩,rs⟩)
 |exc h=>simp[HU] at e
 |Cr h _=>simp[HU] at e
 |Dp _ _ _ _=>simp[HU] at e
 | ref a=>
  unfold HU at e;dsimp only at e;cases q:G a with
  |none=>rw[q] at e;cases e
  | some g=>
   rw[q] at e;have z:=ab a g q;cases g with
   |lst ds=>
    right;right;obtain⟨vs,hv,rs⟩:=z;cases e;refine .inl ⟨vs,.of hv,?_⟩;cases rs<;>rfl
   |ins _ _=>cases e
   |Ia _=>cases e
   |jG bx=>
    refine P9 bx e a ?_;rcases z with ⟨kv,hv,rs⟩ |⟨kv,hv,rs⟩
    .exact .inl ⟨kv,.inl hv,rs⟩
    .exact .inr ⟨kv,.inl hv,rs⟩
section
variable {X:Cx} {a b c:Expr} {ta tb tc:fh} {pos:Pos}
def Zo(X:Cx):Prop:=∀(pins:@A) (s:aL) (σ:L2.St) (H:Hp) (G:Gp) (x:V) (d:D) (v:Value) (k:Bool) (Q:Bool->aL->Prop),@o->j7 X.K H G->RelV x v->cI X.K H x d->HU d G=some k ->
  (∀s',Inv X pins σ H s'->Q k s')->wpAny @r X.A (truthy v) Q X.xe s
theorem IA:Zo X:=by
 intro pins s σ H G x d v k Q I ab rx rd e q;rcases XH ab rd e with ⟨p,rfl,hv,hk⟩ |⟨p,kv,rfl,hv,hk⟩ |h
 .obtain⟨z,hS,xs,rel,o,es,ep,ho,hx,PI,hl,nd⟩:=hv.ok I.c8;have hxs:xs=[]:=by cases rel;rfl
  subst hxs;have he:es=#[]:=by simpa using hl
  subst he;cases rx;have dd:s.heap.DictOf (fU X.prog X.w) p []:=⟨o,#[],ep,ho,hx,PI,(λ_ h=>by simp at h),.nil,i7⟩;refine Ie hS dd @k ?_;subst hk;exact q _ (I.tok _)
 .cases rx;subst hk;exact S5 I hv q
 .exact fY (UN pins s σ H x v (λk' H'=>k'=k/\H'=H) I rx ⟨k,h,rfl,rfl⟩) λk' s' Py=>by
   obtain⟨H',I',e1,e2⟩:=Py;subst e1;subst e2;exact q s' I'
theorem LR(ha:dw X a ta)(he:autoParam (∀whole,isTrue a X.env whole=(do let v ← whole;Ij a.pos;qb [v] (truthy v))) Ai._auto_1):CP X a (bX ta):=by
 ext c;refine isTrue_plain (j0 ha hE I h λx H1 d G1 v s1 I1 m1 r1 jd q1=>?_) (he _)
 try dsimp only at q1
 split at q1
 .rename_i k e;exact IA pins s1 σ H1 G1 x d v k _ I1.inv I1.ab r1 jd e λs' I'=>⟨H1,G1,I',m1,q1⟩
 .exact q1.elim
theorem EB(ho:pS X (eZ op) r)(ha:dw X a ta)(hb:dw X b tb)(hm:behindInMarks op b=false):CP X (.Compare a [op] [b] pos) (bX (aG r ta tb)):=by
 ext c;refine wpAny_isTrue_Compare1 (j0 ha hE I h λx H1 dx G1 v s1 I1 m1 r1 jd q1=>j0 hb hE I1 q1 λy H2 dy G2 u s2 j6 m2 r2 Ey q2=>
  fY (ho pins s2 σ H2 G2 x y dx dy v u _ j6.inv j6.ab r1 r2 (jd.mono (m2.kp I1.ab)) Ey q2) ?_) hm
 rintro c s3 ⟨z,H3,dz,G3,I3,m3,r3,X2,q3⟩
 try dsimp only at q3
 split at q3
 .rename_i k e;exact IA pins s3 σ H3 G3 z dz c k _ I3 m3.ab r3 X2 e λs' I'=>⟨H3,G3,I',(m1.trans m2).trans m3,q3⟩
 .exact q3.elim
variable {tA tB:yJ} {rest:List Expr}
theorem Qw.pt(h:Qw X e t):CP X e t:=λE pins s σ H τ G Q hE I q=>h _ E pins s σ H τ G Q hE I q
theorem IB(ha:CP X a tA)(hE:Lk X E)(I:I2 X pins σ H τ G s)(h:tA E τ G R)
  (k:∀c H1 G1 s1,I2 X pins σ H1 τ G1 s1->Mv X.K H G H1 G1->R c G1->Q c s1):wpAny @r X.A (isTrue a X.env (eval a X.env)) Q X.xe s :=
 fY (ha E pins s σ H τ G R hE I h) (by rintro c s1 ⟨H1,G1,I1,m,q⟩;exact k c H1 G1 s1 (I.mv I1 m) m q)
theorem Ol(ha:CP X a tA):Qw X (.BoolOp .And [a] pos) tA:=by
 intro wh E pins s σ H τ G Q hE I h;refine isTrue_and (fY (ha E pins s σ H τ G Q hE I h) λc s1 e=>?_);cases c with
 |true=>exact isTrue_and_nil e
 |false=>exact e
theorem RF(ha:CP X a tA):Qw X (.BoolOp .Or [a] pos) tA:=by
 intro wh E pins s σ H τ G Q hE I h;refine isTrue_or (fY (ha E pins s σ H τ G Q hE I h) λc s1 e=>?_);cases c with
 |false=>exact isTrue_or_nil e
 |true=>exact e
theorem RG(ha:CP X a tA)(hb:Qw X (.BoolOp .And (b::rest) pos) tB):Qw X (.BoolOp .And (a::b::rest) pos) (qA tA tB):=by
 intro wh E pins s σ H τ G Q hE I h;refine isTrue_and (IB ha hE I h λc H1 G1 s1 I1 m1 q1=>?_);cases c with
 |true=>exact fY (hb wh E pins s1 σ H1 τ G1 Q hE I1 (by simpa using q1)) λ_ _ z=>z.trans m1
 |false=>exact⟨H1,G1,I1.inv,m1,by simpa using q1⟩
theorem Vb(ha:CP X a tA)(hb:Qw X (.BoolOp .Or (b::rest) pos) tB):Qw X (.BoolOp .Or (a::b::rest) pos) (sT tA tB):=by
 intro wh E pins s σ H τ G Q hE I h;refine isTrue_or (IB ha hE I h λc H1 G1 s1 I1 m1 q1=>?_);cases c with
 |false=>exact fY (hb wh E pins s1 σ H1 τ G1 Q hE I1 (by simpa using q1)) λ_ _ z=>z.trans m1
 |true=>exact⟨H1,G1,I1.inv,m1,by simpa using q1⟩
theorem RI(ha:CP X a tA):CP X (.UnaryOp .Not a pos) (iG tA):=by
 ext c;exact isTrue_not (fY (ha E pins s σ H τ G (λc H1=>Q (!c) H1) hE I h) (by rintro c s' ⟨H',G',i,m,q⟩;exact⟨H',G',i,m,q⟩))
theorem RZ{op}(h:dw X a t):dw X (.BoolOp op [a] pos) t:=λE pins s σ H τ G Q hE I hw=>BoolOp_one (h E pins s σ H τ G Q hE I hw)
theorem Se(ha:dw X a ta)(hb:dw X (.BoolOp .And (b::rest) pos) tb):dw X (.BoolOp .And (a::b::rest) pos) (DS ta tb):=by
 ext c;refine BoolOp_and (j0 ha hE I h λx H1 d G1 v s1 I1 m1 r1 jd q1=>?_)
 try dsimp only at q1
 split at q1
 .rename_i e;exact IA pins s1 σ H1 G1 x d v true _ I1.inv I1.ab r1 jd e λs' I'=>fY (hb E pins s' σ H1 τ G1 Q hE ⟨I',I1.st,I1.ab⟩ q1) λ_ _ z=>z.trans m1
 .rename_i e;exact IA pins s1 σ H1 G1 x d v false _ I1.inv I1.ab r1 jd e λs' I'=>⟨x,H1,d,G1,I',m1,r1,jd,q1⟩
 .exact q1.elim
theorem Vl(ha:dw X a ta)(hb:dw X (.BoolOp .Or (b::rest) pos) tb):dw X (.BoolOp .Or (a::b::rest) pos) (MX ta tb):=by
 ext c;refine BoolOp_or (j0 ha hE I h λx H1 d G1 v s1 I1 m1 r1 jd q1=>?_)
 try dsimp only at q1
 split at q1
 .rename_i e;exact IA pins s1 σ H1 G1 x d v true _ I1.inv I1.ab r1 jd e λs' I'=>⟨x,H1,d,G1,I',m1,r1,jd,q1⟩
 .rename_i e;exact IA pins s1 σ H1 G1 x d v false _ I1.inv I1.ab r1 jd e λs' I'=>fY (hb E pins s' σ H1 τ G1 Q hE ⟨I',I1.st,I1.ab⟩ q1) λ_ _ z=>z.trans m1
 .exact q1.elim
theorem R0(ha:dw X a ta):dw X (.UnaryOp .Not a pos) (K8 ta):=by
 ext c;refine UnaryOp_ (j0 ha hE I h λx H1 d G1 v s1 I1 m1 r1 jd q1=>?_)
 try dsimp only at q1
 split at q1
 .rename_i k e;exact not_of (IA pins s1 σ H1 G1 x d v k _ I1.inv I1.ab r1 jd e λs' I'=>⟨.bl (!k),H1,.bl (!k),G1,I',m1,rfl,.bl _,q1⟩)
 .exact q1.elim
theorem Vo(hc:CP X c tA)(ha:dw X a ta)(hb:dw X b tb):dw X (.IfExp c a b pos) (E9 tA ta tb):=by
 ext c;refine wpAny_IfExp (IB hc hE I h λd H1 G1 s1 I1 m1 q1=>?_);cases d with
 |true=>exact fY (ha E pins s1 σ H1 τ G1 Q hE I1 (by simpa using q1)) λ_ _ z=>z.trans m1
 |false=>exact fY (hb E pins s1 σ H1 τ G1 Q hE I1 (by simpa using q1)) λ_ _ z=>z.trans m1
variable {e:Expr} {es:List Expr} {te:fh} {t:sV}
theorem Ap:rg X [] aA:=λ_ _ _ _ _ H _ G Q _ I h=>rJ ⟨[],H,[],G,I.inv,.refl I.ab,.nil,.nil,h⟩
theorem sv(ha:dw X e te)(hr:rg X es t)(hs:autoParam @af Ar._auto_1):rg X (e::es) (ah te t):=by
 intro pos E pins s σ H τ G Q hE I h;rw[hs];show wpAny _ _ (D7 ((false,eval e X.env)::eW pos (aT es X.env))) _ _ s;refine gM (j0 ha hE I h λx H1 d G1 u s1 I1 m1 r1 jd q1=>?_);exact fY (hr pos E pins s1 σ H1 τ G1 _ hE I1 q1) (by rintro us s2 ⟨xs,H2,ds,G2,j6,m2,r2,Ey,q2⟩;exact⟨x::xs,H2,d::ds,G2,j6,m1.trans m2,.cons r1 r2,.cons (jd.mono (m2.kp I1.ab)) Ey,q2⟩)
theorem t7(ha:rg X es t)(pos)(hE:Lk X E)(I:I2 X pins σ H τ G s)(h:t E τ G R)
  (k:∀vs H1 ds G1 us s1,I2 X pins σ H1 τ G1 s1->Mv X.K H G H1 G1->Vals vs us->bq X.K H1 vs ds->R ds G1->Q us s1):wpAny @r X.A (D7 (eW pos (aT es X.env))) Q X.xe s :=
 fY (ha pos E pins s σ H τ G R hE I h) (by rintro us s1 ⟨vs,H1,ds,G1,I1,m,r,rd,q⟩;exact k vs H1 ds G1 us s1 (I.mv I1 m) m r rd q)
theorem RX{x1}(h:rg X es t):dw X (.Tuple es x1 pos) (bJ t):=by
 intro E pins s σ H τ G Q hE I hq;refine wpAny_Tuple_spliced (t7 h pos hE I hq ?_);rintro xs H1 ds G1 us s1 I1 m1 r rd ⟨z,q⟩;refine⟨by rw[<-r.length,rd.length,cX];exact z,?_⟩;have hf:H1 s1.heap.objs.size=none:=I1.inv.c8.fresh (bb _);refine⟨.ref s1.heap.objs.size,upd H1 s1.heap.objs.size (.tup xs),.tup ds,G1,I1.inv.laid (t':=s1.toks) (λb u e=>aW _ e) (bb _) ?_,m1.trans (.SH I1.ab hf),rfl,?_,q⟩
 .exact⟨by rw[rd.length,cX];exact z,us,r,⟨_,cj _ rfl,rfl,_,rfl⟩⟩
 .exact .tup cR (rd.mono (.new hf))
theorem R4(h:rg X es t):dw X (.List es pos) (cg t):=by
 intro E pins s σ H τ G Q hE I hq;refine wpAny_List_spliced (t7 h pos hE I hq ?_);rintro xs H1 ds G1 us s1 I1 m1 r rd ⟨z,q⟩;refine⟨by rw[<-r.length,rd.length,cX];exact z,?_⟩;have hf:H1 s1.heap.objs.size=none:=I1.inv.c8.fresh (bb _);refine⟨.ref s1.heap.objs.size,upd H1 s1.heap.objs.size (.lst xs),.ref _,ck G1 s1.heap.objs.size (.lst ds),I1.inv.laid (t':=s1.toks) (λb u e=>aW _ e) (bb _) ?_,m1.trans (.Ja I1.ab hf rd),rfl,.ref _,q _ (I1.ab.free hf)⟩;exact⟨by rw[rd.length,cX];exact z,us,0,r,cj _ rfl⟩
def j3(K:aB)(sp:di):Sp:=λvs H Q _=>∃ds G Q2,bq K H vs ds/\j7 K H G/\sp ds G Q2 (@f)/\∀d G' v H',Q2 d G'->Mv K H G H' G'->cI K H' v d->Q v H'
variable {k:Nat} {f:Addr} {fd:cG} {ps:@n} {sp:di} {x:Str} {p:Pos} {r:@i->Gp->DK->Prop} {id:String}
theorem OP(F:lu X.prog X.w X.K X.mg X.base tu k f fd ps (j3 X.K sp))(hr:fM k X.A)(hg:Gl X x)(hm:X.mg x=some (.ref f))(hk:iN X.K (.ref f)=true)(hb:Binds X.K fd ps [])
  (ha:rg X (e::es) t) (qw:autoParam ((x == ("__debug__":Str))=false) Ad._auto_1) (he:autoParam @af Ar._auto_1) (fX:autoParam ((eW pos (aT es X.env)).any (·.1)=false) Ar._auto_1):
  dw X (.Call (.Name x p) (e::es) [] pos) (λE τ G Q=>aO (λds G1 Q1 _=>sp ds G1 Q1 @f) t E τ G Q):=by
 ext c;refine eG (mr I.inv hg hm ?_ qw);refine fy (h₀:=X.base) I.inv.ok.mod.MD hk (t7 ha pos hE I h λvs H1 ds G1 us s1 I1 m1 r rd q=>⟨I1.inv.sD,?_⟩) he fX;refine fY (yq F hr hb .nil Kk I1.inv r (Q:=zR X.K H1 G1 Q) ?_) λ_ _ z=>(qa.of z).trans m1;rw[bH];exact⟨ds,G1,Q,rd,I1.ab,q,λd G' v H' q' m' A6=>⟨d,G',m',A6,q'⟩⟩
theorem Md (hc:nG X (.builtin id) r) (hg:Gl X x) (hm:X.mg x=none) (hv:dj x=some (.builtin id)) (ha:rg X (e::es) t) (hn:autoParam (x≠"__name__") Ad._auto_1) (qw:autoParam ((x == ("__debug__":Str))=false) Ad._auto_1)
  (he:autoParam @af Ar._auto_1) (fX:autoParam ((eW pos (aT es X.env)).any (·.1)=false) Ar._auto_1):dw X (.Call (.Name x p) (e::es) [] pos) (gJ r t):=by
 ext c;refine eG (oJ I.inv hg hm hv ?_ hn qw);exact hV (t7 ha pos hE I h λvs H1 ds G1 us s1 I1 m1 r1 jd q1=>fY (hc pins s1 σ H1 G1 vs ds us Q I1.inv I1.ab r1 jd q1) λ_ _ z=>z.trans m1) he fX
variable {st:Stmt} {sts:List Stmt} {u v:da}
theorem Ou:ma X [] aX:=λ_ _ _ σ H τ G _ _ I h=>j9 ⟨σ,H,τ,G,I,.refl I.ab,h⟩
theorem LU(h1:ui X st u)(h2:ma X sts v):ma X (st::sts) (aU u v):=by
 intro E pins s σ H τ G D hE I h;refine lO (fY (h1 E pins s σ H τ G {D with nx:=v E D} hE I h) λf s1 q=>?_);cases f with
 |next=>
  obtain⟨iJ,H',j5,G',I',m,q⟩:=q;exact fY (h2 E pins s1 iJ H' j5 G' D hE I' q) λ_ _ z=>z.trans m
 |ret v=>exact q
 |brk=>exact q
 |cont=>exact q
theorem Ot(h1:ui X st u):ma X [st] u:=by
 intro E pins s σ H τ G D hE I h;refine lO (fY (h1 E pins s σ H τ G D hE I h) λf s1 q=>?_);cases f with
 |next=>exact j9 q
 |ret v=>exact q
 |brk=>exact q
 |cont=>exact q
theorem RL(he:dw X e te):ui X (.Return (some e) pos) (bc te):=by
 intro E pins s σ H τ G D hE I h;exact wpAny_Return_some (fY (he E pins s σ H τ G _ hE I h) (by rintro v s1 ⟨x,H1,d,G1,I1,m,r1,rd,q1⟩;exact⟨x,σ,H1,d,G1,I1,m,r1,rd,q1⟩))
theorem Ve(hc:CP X c tA)(ha:ma X sa u)(hb:ma X sb v):ui X (.If c sa sb pos) (bF tA u v):=by
 intro E pins s σ H τ G D hE I h;refine wpAny_If (IB hc hE I h λd H1 G1 s1 I1 m1 q1=>?_);cases d with
 |true=>exact fY (ha E pins s1 σ H1 τ G1 D hE I1 (by simpa using q1)) λ_ _ z=>z.trans m1
 |false=>exact fY (hb E pins s1 σ H1 τ G1 D hE I1 (by simpa using q1)) λ_ _ z=>z.trans m1
def AD(X:Cx)(target:Expr)(t:B1):Prop :=
 ∀(E:iM) (pins:@A) (s:aL) (σ:L2.St) (H:Hp) (τ:ik) (G:Gp) (w:V) (d:D) (u:Value) (Q:ik->@t),Lk X E->I2 X pins σ H τ G s->RelV w u->cI X.K H w d->t E d τ G Q ->
  wpAny @r X.A (AL target X.env u) (λ_ s'=>∃iJ H' j5 G',I2 X pins iJ H' j5 G' s'/\Mv X.K H G H' G'/\Q j5 G') X.xe s
def Hy(X:Cx)(ts:List Expr)(t:B0):Prop :=
 ∀(E:iM) (pins:@A) (s:aL) (σ:L2.St) (H:Hp) (τ:ik) (G:Gp) (ws:List V) (ds:@i) (us:@D) (Q:ik->@t),Lk X E->I2 X pins σ H τ G s->Vals ws us->bq X.K H ws ds->t E ds τ G Q ->
  wpAny @r X.A (assignInOrder ((jB ts X.env).map (·.2)) us) (λ_ s'=>∃iJ H' j5 G',I2 X pins iJ H' j5 G' s'/\Mv X.K H G H' G'/\Q j5 G') X.xe s
theorem OI(hN:X.N.Nodup)(hi:X.N[i]?=some x)(hx:Loc X.env.scope x)(hf:autoParam (X.fn x=true\/X.env.scope.names.lookup x=some .local) Ao._auto_1):AD X (.Name x pos) (aE i):=by
 intro E pins s σ H τ G w d u Q hE I r rd h;exact wpAny_assign_Name (F8 I.inv hN hi hx r (λs' I'=>⟨_,H,_,G,⟨I',I.st.set i rd,I.ab⟩,.refl I.ab,h⟩) hf)
theorem OH:Hy X [] lh:=by
 intro E pins s σ H τ G ws ds us Q hE I r rd h;unfold lh at h;split at h
 .have e:=rd.zero;subst e;cases r;exact assignInOrder_nil ⟨σ,H,τ,G,I,.refl I.ab,h⟩
 .exact h.elim
theorem LY{t:B1}{u:B0}(h1:AD X e t)(h2:Hy X es u)
  (hs:autoParam ((jB (e::es) X.env).map (·.2)=AL e X.env::(jB es X.env).map (·.2)) Ar._auto_1):Hy X (e::es) (ez t u):=by
 intro E pins s σ H τ G ws ds us Q hE I r rd h;unfold ez at h;split at h
 .cases rd with
  | cons jd Ey=>
   cases r with
   |cons r1 r2=>
    rw[hs];refine assignInOrder_cons (fY (h1 E pins s σ H τ G _ _ _ _ hE I r1 jd h) ?_);rintro _ s1 ⟨ZE,H1,uw,G1,I1,m1,q1⟩;exact fY (h2 E pins s1 ZE H1 uw G1 _ _ _ Q hE I1 r2 (Ey.mono (m1.kp I.ab)) q1) (by rintro _ _ ⟨σ2,H2,Df,G2,j6,m2,q2⟩;exact⟨σ2,H2,Df,G2,j6,m1.trans m2,q2⟩)
 .exact h.elim
theorem RS{t:B0}(hc:X.calm=true)(h:Hy X es t)(hgl:∀E ds τ G Q,t E ds τ G Q->ds.length=n)
  (hn:autoParam ((jB es X.env).length=n) Ar._auto_1) (w9:autoParam ((jB es X.env).findIdx? (·.1)=none) Ar._auto_1):AD X (.Tuple es k pos) (kI t):=by
 intro E pins s σ H τ G w d u Q hE I r rd hw;unfold kI at hw;split at hw
 .cases rd with
  |tup hq rs=>
   cases r;obtain⟨b9,rv,ht,hz⟩:=I.inv.tuple (.of hq);refine assign_Tuple_tuple (I.inv.ok.hd hc) ht (by rw[hn,aZ,<-rv.length,rs.length];exact(hgl _ _ _ _ _ hw).symm) w9 λh' hx=>?_;have I1:Inv X pins σ H {s with heap:=h'}:=I.inv.kept (t':=s.toks) λb o e=>hx b o (bO (ba e)) e;exact h E pins _ σ H τ G _ _ _ Q hE ⟨I1,I.st,I.ab⟩ (by simpa using rv) rs hw
 .exact hw.elim
theorem PR:∀E ds τ G Q,lh E ds τ G Q->ds.length=0:=by
 intro E ds τ G Q h;cases ds with
 |nil=>rfl
 |cons _ _=>exact h.elim
theorem MP{t:B1}{u:B0}(h:∀E ds τ G Q,u E ds τ G Q->ds.length=n)(hm:∀E d τ G (Q Q':ik->@t),t E d τ G Q->(∀j5 G',Q j5 G'->Q' j5 G')->t E d τ G Q')(hx:∀E d τ G,¬ t E d τ G @f):
  ∀E ds τ G Q,ez t u E ds τ G Q->ds.length=n+1:=by
 intro E ds τ G Q q;cases ds with
 |nil=>exact q.elim
 |cons d ds=>
  by_cases hl:ds.length=n
  .rw[ai,hl]
  .exact absurd (hm E d τ G _ (@f) q λj5 G' z=>hl (h _ _ _ _ _ z)) (hx E d τ G)
theorem RO(he:dw X e te)(hg:AD X tg g)(hs:autoParam (swapsWithSole [tg] e pos.line X.env=pure false) Ar._auto_1)(hw:autoParam (swappedStores [tg] e X.env=pure none) Ar._auto_1)
  (h1:autoParam ((jB [tg] X.env).map (·.2)=[AL tg X.env]) Ar._auto_1):ui X (.Assign [tg] e pos) (aS te g):=by
 intro E pins s σ H τ G D hE I h;refine wpAny_Assign_stores (j0 he hE I h λx H1 d G1 v s1 I1 m1 r1 jd q1=>?_) hs hw;rw[h1];exact fY (hg E pins s1 σ H1 τ G1 x d v _ hE I1 r1 jd q1) (by rintro _ s2 ⟨σ2,H2,Df,G2,j6,m2,q2⟩;exact⟨σ2,H2,Df,G2,j6,m1.trans m2,q2⟩)
theorem RK(hN:X.N.Nodup)(hi:X.N[i]?=some x)(hx:Loc X.env.scope x)(he:dw X e te)(hs:autoParam (kd e (some (.Name x pos')) pos.line X.env=pure false) Ar._auto_1)(hf:autoParam (X.fn x=true\/X.env.scope.names.lookup x=some .local) Ao._auto_1):
  ui X (.Assign [.Name x pos'] e pos) (aS te (aE i)):=by
 intro E pins s σ H τ G D hE I h;refine Ii (j0 he hE I h λy H1 d G1 v s1 I1 m1 r1 jd q1=>?_) hs;exact F8 I1.inv hN hi hx r1 (λs2 j6=>⟨_,H1,_,G1,⟨j6,I1.st.set i jd,I1.ab⟩,m1,q1⟩) hf
theorem Oy(he:dw X e te)(hs:autoParam (kd e none pos.line X.env=pure false) Ar._auto_1):ui X (.Expr e pos) (bw te):=by
 intro E pins s σ H τ G D hE I h;exact wpAny_Expr_any (j0 he hE I h λy H1 d G1 v s1 I1 m1 r1 jd q1=>⟨σ,H1,τ,G1,I1,m1,q1⟩) I.inv.quiet hs
end
def Ui(K:aB)(J:It)(H':Hp)(ds:@i)(ok:@t):Prop :=
 ∀i H1 G1,Kp H' H1->j7 K H1 G1->ok G1->(∀d,ds[i]?=some d->J.go i H1/\∀x H2,J.yld i H1 x H2->cI K H2 x d/\Mv K H1 G1 H2 G1)/\(ds.length<=i->J.stop i H1)
inductive M8 (X:Cx) (pins:@A) (σ:L2.St) (tg:Expr) (H:Hp) (G:Gp) (R:@i->(@t)->@t) (TU:Value) (s2:aL):Prop
 |mk (it:Addr) (fp:List Addr) (tn:Nat->Heap->Prop) (J:It) (H':Hp) (G':Gp) (ds:@i) (ok:@t) (e:TU=.ref it) (i:Inv X pins σ H' s2) (m:Mv X.K H G H' G') (T:Turn X.prog X.w X.K tg J fp it tn) (t0:tn 0 s2.heap) (f:∀b∈fp,pU X pins H' b)
  (wk:Ui X.K J H' ds ok) (q:R ds ok G'):M8 X pins σ tg H G R TU s2
def Hx(X:Cx)(tg iter:Expr)(wi:Qv):Prop :=
 ∀(E:iM) (pins:@A) (s:aL) (σ:L2.St) (H:Hp) (τ:ik) (G:Gp) (R:@i->(@t)->@t),Lk X E->I2 X pins σ H τ G s->wi E τ G R ->
  wpAny @r X.A (eval iter X.env) (λv s1=>wpAny @r X.A (pyIter v) (M8 X pins σ tg H G R) X.xe s1) X.xe s
section
variable {X:Cx} {tg:Expr} {a b:Expr} {ta tb:fh} {pos p:Pos}
theorem Kw{pins:@A}{σ:L2.St}{H H1:Hp}{G G1:Gp}{s1:aL}{l:Addr}{vs:List V}{ds:@i}{ok:@t}{R:@i->(@t)->@t}(I1:Inv X pins σ H1 s1)(m:Mv X.K H G H1 G1)(hq:qE X.K H1 l vs)
  (hk:∀H2 G2,Kp H1 H2->j7 X.K H2 G2->ok G2->∃ws,qE X.K H2 l ws/\bq X.K H2 ws ds) (q:R ds ok G1):wpAny @r X.A (pyIter (.ref l)) (M8 X pins σ tg H G R) X.xe s1:=by
 obtain⟨b9,rv,pl,hz⟩:=I1.list hq;refine Ih pl.isList ?_;refine⟨s1.heap.objs.size,[s1.heap.objs.size],_,_,H1,G1,ds,ok,rfl,I1.kept (t':=s1.toks) λb o e=>aW _ e,m,Lz l _,⟨_,cj _ rfl,rfl,rfl⟩,λb hb=>?_,λi H2 G2 k ab o=>?_,q⟩
 .have e:b=s1.heap.objs.size:=by simpa using hb
  subst e;exact I1.MR (bb _) (I1.c8.fresh (bb _))
 .obtain⟨ws,hw,rd⟩:=hk H2 G2 k ab o;refine⟨λd hd=>?_,λhl=>⟨ws,hw,by rw[rd.length];exact hl⟩⟩;obtain⟨v,hv,r⟩:=rd.get hd;refine⟨⟨ws,v,hw,hv⟩,?_⟩;rintro x H3 ⟨e,y⟩;subst e;have:=y ws hw;rw[hv] at this;cases this;exact⟨r,.refl ab⟩
theorem UM{pins:@A}{σ:L2.St}{H H1:Hp}{G G1:Gp}{s1:aL}{l:Addr}{vs:List V}{ds:@i}{R:@i->(@t)->@t}(I1:Inv X pins σ H1 s1)(m:Mv X.K H G H1 G1)(hq:B2 X.K H1 l vs)(rd:bq X.K H1 vs ds)
  (q:R ds (λ_=>True) G1):wpAny @r X.A (pyIter (.ref l)) (M8 X pins σ tg H G R) X.xe s1:=by
 obtain⟨b9,rv,pl,hz⟩:=I1.tuple hq;refine FO (show s1.heap.IsTuple l b9.toArray from pl) ?_;refine⟨s1.heap.objs.size,[s1.heap.objs.size],_,_,H1,G1,ds,_,rfl,I1.kept (t':=s1.toks) λb o e=>aW _ e,m,Iy l _,⟨_,cj _ rfl,rfl,rfl⟩,λb hb=>?_,λi H2 G2 k ab _=>?_,q⟩
 .have e:b=s1.heap.objs.size:=by simpa using hb
  subst e;exact I1.MR (bb _) (I1.c8.fresh (bb _))
 .have hw:=k.sqT hq;have Ey:=rd.mono k;refine⟨λd hd=>?_,λhl=>⟨vs,hw,by rw[rd.length];exact hl⟩⟩;obtain⟨v,hv,r⟩:=Ey.get hd;refine⟨⟨vs,v,hw,hv⟩,?_⟩;rintro x H3 ⟨e,y⟩;subst e;have:=y vs hw;rw[hv] at this;cases this;exact⟨r,.refl ab⟩
theorem RR(ha:dw X a ta):Hx X tg a (ig ta):=by
 intro E pins s σ H τ G R hE I h;refine j0 ha hE I h λx H1 d G1 v s1 I1 m1 r1 jd q1=>?_;cases jd with
 |tup hq rs=>cases r1;exact UM I1.inv m1 (.of hq) rs q1
 |dR hq rs=>cases r1;exact Kw I1.inv m1 hq.sq (λH2 G2 k ab _=>⟨_,(k.UU hq).sq,rs.mono k⟩) q1
 |ref p=>
  cases r1;dsimp only at q1;split at q1
  .rename_i ds e;obtain⟨vs,hv,rs⟩:=I1.ab.lst e;refine Kw I1.inv m1 (.of hv) (λH2 G2 k ab o=>?_) q1;obtain⟨ws,hw,vh⟩:=ab.lst o;exact⟨ws,.of hw,vh⟩
  .exact q1.elim
 |uc _ _=>exact q1.elim
 |t9 _ _=>exact q1.elim
 |ff=>exact q1.elim
 |bl _=>exact q1.elim
 |int _=>exact q1.elim
 |str _=>exact q1.elim
 |exc _=>exact q1.elim
 |Cr _ _=>exact q1.elim
 |Dp _ _ _ _=>exact q1.elim
theorem U6{pins:@A}{σ:L2.St}{H H1:Hp}{G G1:Gp}{s:aL}{R:@i->(@t)->@t}{lo hi:Int}{t u v:Tok}{tk:Nat}(I:Inv X pins σ H1 s)(m:Mv X.K H G H1 G1)(h1:-(2 ^ 62)<=lo)(h2:lo<2 ^ 62)(h3:-(2 ^ 62)<=hi)(h4:hi<2 ^ 62)
  (q:R (fe lo (hi-lo).toNat) (λ_=>True) G1):wpAny @r X.A (pyIter (.ref s.heap.objs.size)) (M8 X pins σ tg H G R) X.xe {s with heap:=s.heap.push {cls:=.type "range",data:=.fields #[.int lo t,.int hi u,.int 1 v]},toks:=tk}:=by
 refine fY (Oi (tg:=tg) I h1 h2 h3 h4 (R:=λJ H'=>J=Itr lo (hi-lo).toNat/\H'=H1) @R) ?_;rintro TU s2 ⟨it,fp,tn,J,H',e,j6,T,st,fo,eJ,eH⟩;subst eJ;subst eH;refine⟨it,fp,tn,_,H',G1,_,_,e,j6,m,T,st,fo,λi H2 G2 k ab _=>⟨λd hd=>?_,λhl=>?_⟩,q⟩
 .unfold fe at hd;rw[dB] at hd;cases Wb:(dG (hi-lo).toNat)[i]? with
  |none=>rw[Wb] at hd;cases hd
  |some j=>
   rw[Wb] at hd;obtain⟨DE,ej⟩:=List.getElem?_eq_some_iff.mp Wb;rw[c6] at DE;rw[lQ] at ej;subst ej;cases hd;refine⟨DE,?_⟩;rintro x H3 ⟨e1,e2⟩;subst e1;subst e2;exact⟨.int _,.refl ab⟩
 .unfold fe at hl;rw[ax,c6] at hl;exact hl
theorem IP (hg:Gl X "range") (hm:X.mg "range"=none) (ha:dw X a ta) (hs:autoParam (aT [a] X.env=[(false,eval a X.env)]) Ar._auto_1):Hx X tg (.Call (.Name "range" p) [a] [] pos) (lN ta):=by
 intro E pins s σ H τ G R hE I h;have hA:rg X [a] (ah ta aA):=sv ha Ap hs;refine Call_ (oJ I.inv hg hm boot_range (iO (t7 hA pos hE I (R:=λds G1=>match ds with |[.int n]=>-(2 ^ 62)<=n/\n<2 ^ 62/\R (fe 0 n.toNat) (λ_=>True) G1 |_=>False) ?_ λvs H1 ds G1 us s1 I1 m1 r1 jd q1=>?_) hs rfl))
 .show ta E τ G _;have e:(λ(x:D) (G1:Gp)=>match [x] with |[.int n]=>-(2 ^ 62)<=n/\n<2 ^ 62/\R (fe 0 n.toNat) (λ_=>True) G1 |_=>False)=λx G1=>match x with |.int n=>-(2 ^ 62)<=n/\n<2 ^ 62/\R (fe 0 n.toNat) (λ_=>True) G1 |_=>False:=by
   funext x G1;cases x<;>rfl
  exact e ▸ h
 .split at q1
  .rename_i n;obtain⟨w,rfl,LK⟩:=jd.one;cases LK;obtain⟨u,rfl,ru⟩:=r1.one;obtain⟨t,rfl⟩:=ru;obtain⟨q1,q2,q⟩:=q1;exact call_range_1 (U6 I1.inv m1 (@e) (@e) q1 q2 (by simpa using q))
  .exact q1.elim
theorem RN(hp:PassesOwn @r X.A X.env X.xe)(hc:X.calm=true)(hi:Hx X tg iter wi)(hg:AD X tg g)(hb:ma X body t)
  (hs:autoParam (∀x,gH iter X.env x=pure x) Ai._auto_1):ui X (.For tg iter body [] pos) (c4 wi g t):=by
 intro E pins s σ H τ G D hE I h;refine wpAny_For (fY (hi E pins s σ H τ G _ hE I h) λv s1 h1=>fY h1 λTU s2 h2=>?_) hs;obtain⟨it,fp,tn,J,H2,G2,ds,ok,e,j6,m2,T,QK,f2,wk,q⟩:=h2;subst e;have UT:∀{H':Hp},(∀b∈fp,H' b=none)->∀b∈fp,pU X pins H' b:=λhn b hb=>⟨hn b hb,(f2 b hb).2⟩;refine codeAny_forLoop_any (λn s'=>∃i iJ H' j5 G',I2 X pins iJ H' j5 G' s'/\Mv X.K H G H' G'/\Kp H2 H'/\tn i s'.heap/\(∀b∈fp,H' b=none)/\n=ds.length-i/\i<=ds.length/\uQ g t ok (ds.drop i) E D j5 G') ?_ ds.length
  ⟨0,σ,H2,τ,G2,I.mv j6 m2,m2,.refl _,QK,λb hb=>(f2 b hb).1,rfl,eB _,q⟩
 rintro n s3 ⟨i,Q5,H3,UD,G3,I3,m3,k3,ZG,fr3,rfl,hle,w3⟩;by_cases DE:i<ds.length
 .rw[J0 DE] at w3;obtain⟨ok3,w3⟩:=w3;obtain⟨go,yl⟩:=(wk i H3 G3 k3 I3.ab ok3).1 ds[i] (by simp[DE]);refine j8 hp (fY (T.item X rfl rfl rfl hc i pins s3 Q5 H3 X.xe I3.inv (UT fr3) ZG go) ?_);rintro r s4 ⟨u,hr,h4⟩;subst hr;refine j8 hp (fY h4 ?_);rintro _ s5 ⟨x,H5,I5,r5,y5,st5,fr5⟩;obtain⟨rd5,m5⟩:=yl x H5 y5;have I5':=I5.pinned (UT fr5) (T.obj _ _ st5);have J5:I2 X (pins++sr fp s5.heap) Q5 H5 UD G3 s5:=⟨I5',I3.st.mono (m5.kp I3.ab),m5.ab⟩;refine j8 hp (fY (hg E _ s5 Q5 H5 UD G3 x ds[i] u _ hE J5 r5 rd5 w3) ?_);rintro _ s6 ⟨σ6,H6,τ6,G6,I6,m6,q6⟩;refine j8 hp (fY (hb E _ s6 σ6 H6 τ6 G6 _ hE I6 q6) λf s7 q7=>?_);have again:∀{Nr:L2.St} {H7:Hp} {Nq:ik} {G7:Gp},I2 X (pins++sr fp s5.heap) Nr H7 Nq G7 s7->Mv X.K H6 G6 H7 G7->uQ g t ok (ds.drop (i+1)) E D Nq G7 ->
    ∃m,m<ds.length-i/\∃i iJ H' j5 G',I2 X pins iJ H' j5 G' s7/\Mv X.K H G H' G'/\Kp H2 H'/\tn i s7.heap/\(∀b∈fp,H' b=none)/\m=ds.length-i/\i<=ds.length/\uQ g t ok (ds.drop i) E D j5 G':=λ{Nr H7 Nq G7} I7 m7 n7=>by
   have mm:=m5.trans (m6.trans m7);refine⟨ds.length-(i+1),@e,i+1,Nr,H7,Nq,G7,⟨I7.inv.vV,I7.st,I7.ab⟩,m3.trans mm,k3.trans (mm.kp I3.ab),T.keep _ _ _ st5 λb hb o e=>(I7.inv.pin (b,o) (b4 _ (b4 _ (qr hb e)))).1,λb hb=>?_,rfl,DE,n7⟩;obtain⟨o,e,d⟩:=T.obj _ _ st5 b hb;exact(I7.inv.pin (b,o) (b4 _ (b4 _ (qr hb e)))).2.1
  cases f with
  |next=>obtain⟨Nr,H7,Nq,G7,I7,m7,n7⟩:=q7;exact again I7 m7 n7
  |cont=>obtain⟨Nr,H7,Nq,G7,I7,m7,n7⟩:=q7;exact again I7 m7 n7
  |brk=>obtain⟨Nr,H7,Nq,G7,I7,m7,q7⟩:=q7;exact⟨Nr,H7,Nq,G7,⟨I7.inv.vV,I7.st,I7.ab⟩,m3.trans (m5.trans (m6.trans m7)),q7⟩
  |ret v=>obtain⟨x7,Nr,H7,d7,G7,I7,m7,r7,rd7,q7⟩:=q7;exact⟨x7,Nr,H7,d7,G7,I7.vV,m3.trans (m5.trans (m6.trans m7)),r7,rd7,q7⟩
 .have hn:ds.length<=i:=@e
  rw[NI hn] at w3;obtain⟨ok3,qn⟩:=w3;have stop:=(wk i H3 G3 k3 I3.ab ok3).2 hn;refine j8 hp (fY (T.done X rfl rfl rfl hc i pins s3 Q5 H3 X.xe I3.inv (UT fr3) ZG stop) ?_);rintro r s4 ⟨hr,I4⟩;subst hr;exact j9 ⟨Q5,H3,UD,G3,⟨I4,I3.st,I3.ab⟩,m3,qn⟩
theorem LV(hp:PassesOwn @r X.A X.env X.xe)(hc:CP X c tc)(hb:ma X body t):ui X (.While c body [] pos) (E7 tc t):=by
 intro E pins s σ H τ G D hE I h;obtain⟨n0,w0⟩:=h;refine wpAny_While (codeAny_whileLoop (λn s'=>∃iJ H' j5 G',I2 X pins iJ H' j5 G' s'/\Mv X.K H G H' G'/\zK tc t n E D j5 G') ?_ n0 ⟨σ,H,τ,G,I,.refl I.ab,w0⟩);rintro n s1 ⟨ZE,H1,uw,G1,I1,m1,w1⟩;cases n with
 |zero=>exact w1.elim
 | succ n=>
  refine j8 hp (IB hc hE I1 w1 λb H2 G2 s2 j6 m2 q2=>?_);cases b with
  |true=>
   rw[if_pos rfl] at q2 ⊢;refine j8 hp (fY (hb E pins s2 ZE H2 uw G2 _ hE j6 q2) λf s3 q3=>?_);cases f with
   |next=>obtain⟨Q5,H3,UD,G3,I3,m3,n3⟩:=q3;exact⟨n,kW _,Q5,H3,UD,G3,I3,m1.trans (m2.trans m3),n3⟩
   |cont=>obtain⟨Q5,H3,UD,G3,I3,m3,n3⟩:=q3;exact⟨n,kW _,Q5,H3,UD,G3,I3,m1.trans (m2.trans m3),n3⟩
   |brk=>exact q3.trans (m1.trans m2)
   |ret v=>exact q3.trans (m1.trans m2)
  |false=>
   rw[if_neg hU] at q2 ⊢;exact j9 ⟨ZE,H2,uw,G2,j6,m1.trans m2,q2⟩
end
theorem En(n d)(o):HT.jl n d o=jl n d o:=by cases o<;>rfl
theorem bq.cut{K:aB}(r:bq K H vs ds)(lo hi):bq K H (Hl vs lo hi) (K2.cut ds lo hi):=by
 unfold Hl K2.cut;rw[En,En,r.length];exact(r.drop _).take _
theorem bq.mH{K:aB}(r:bq K H vs ds)(h:K2.mH ds i=some d):∃v,L2.mH vs i=some v/\cI K H v d:=by
 unfold K2.mH at h;cases e:K2.HY ds.length i with
 |none=>rw[e] at h;cases h
 |some j=>
  rw[e] at h;obtain⟨v,h1,h2⟩:=r.get (show ds[j]?=some d from h);refine⟨v,?_,h2⟩;show(L2.HY vs.length i).bind _=_;have e':L2.HY vs.length i=some j:=by rw[r.length];exact e
  rw[e'];exact h1
section
variable {X:Cx} {a b c e:Expr} {ta tb tc te:fh} {pos p2:Pos}
theorem nE(I:@o)(ab:j7 X.K H G)(rx:RelV x v)(rd:cI X.K H x d)(hi:qP d G=some zs):
  ∃l vs b9,v=.ref l/\Vals vs b9/\bq X.K H vs zs/\s.heap.IsList l b9.toArray/\vs.length<=bB:=by
 cases rd with
 |dR hq rs=>
  cases hi;cases rx;obtain⟨b9,rv,pl,hz⟩:=I.list hq.sq;exact⟨_,_,b9,rfl,rv,rs,pl.isList,hz⟩
 | ref l=>
  unfold qP at hi;dsimp only at hi;cases hg:G l with
  |none=>rw[hg] at hi;cases hi
  | some gg=>
   rw[hg] at hi;cases gg with
   |lst ds=>
    cases hi;cases rx;obtain⟨vs,hv,rs⟩:=ab.lst hg;obtain⟨b9,rv,pl,hz⟩:=I.list (.of hv);exact⟨_,_,b9,rfl,rv,rs,pl.isList,hz⟩
   |ins _ _=>cases hi
   |Ia _=>cases hi
   |jG _=>cases hi
 |_=>cases hi
theorem Dw(I:@o)(F0:Fr X.base X.env.locals s.heap m)(F:Fr X.base X.env.locals h' m)(N:News X.base X.env.locals h' (xD X.base s.heap X.env.locals)):
  (∀b o,b≠X.env.locals->@Z=@j->@X=@j)/\∀m',s.heap.Ns X.env.locals m'->h'.Ns X.env.locals m':=by
 refine⟨λb o hb e=>?_,λm' hm=>?_⟩
 .cases q:X.base.get? b with
  |some u=>
   have:=I.bk b u q;rw[e] at this;cases this;exact F.keep b _ q
  |none=>exact(N (b,o) (ze hb q e)).1
 .have e1:=hm.eq_nsMap;have e2:=F0.ns.eq_nsMap;rw[e1,<-e2];exact F.ns
theorem mG{a:Addr}:∀{o:HO},fJ P w H h a o->∃ob,h.get? a=some ob:=by
 intro o x;cases o with
 |lst _=>obtain⟨_,_,_,_,e⟩:=x;exact⟨_,e⟩
 |tup _=>obtain⟨_,_,_,ob,e,_⟩:=x;exact⟨ob,e⟩
 |dK _=>obtain⟨_,_,_,_,ob,_,_,e,_⟩:=x;exact⟨ob,e⟩
 |dT _=>obtain⟨_,_,_,_,ob,_,_,e,_⟩:=x;exact⟨ob,e⟩
 |set _ _=>obtain⟨ob,_,_,_,e,_⟩:=x;exact⟨ob,e⟩
 |ins _ _ _=>obtain⟨_,_,_,e,_⟩:=x;exact⟨_,e⟩
 |own _=>exact x
 |xd _=>obtain⟨_,⟨ob,_,_,e,_⟩,_⟩:=x;exact⟨ob,e⟩
 |met _ _=>exact⟨_,x⟩
 |X1 _ _=>obtain⟨_,_,_,e⟩:=x;exact⟨_,e⟩
 |kU _ _=>exact⟨_,x.1⟩
 |Rg _=>obtain⟨_,e,_⟩:=x;exact⟨_,e⟩
 |ext _=>exact x.2.1
theorem KS{a:Addr}(ok:oQ P w H h)(e:h.get? a=none):H a=none:=by
 cases q:H a with
 |none=>rfl
 |some o=>
  obtain⟨ob,z⟩:=mG (ok a o q);rw[e] at z;cases z
theorem Inv.TN(I:@o){a:Addr}(k:∀b o,b≠X.env.locals->@Z=@j->@X=@j)(ns:∀m',s.heap.Ns X.env.locals m'->h'.Ns X.env.locals m')
  (hp:s.heap.get? a=none) (new:fJ X.prog X.w (upd H a o) h' a o):Inv X pins σ (upd H a o) {s with heap:=h',toks:=t'}:=by
 have hn:H a=none:=KS I.c8 hp;have ne:∀b u,H b=some u->b≠a:=λb u e=>eE e hn;have nL:∀b u,H b=some u->b≠X.env.locals:=λb u e=>eE e I.free;have ht:∀b u,@Z=some u->b≠a:=λb u e z=>by subst z;rw[hp] at e;cases e
 have thL:∃o',h'.get? X.env.locals=some o':=by
  obtain⟨m,hm,_⟩:=I.loc;obtain⟨o',_,_,ho,_⟩:=ns m hm;exact⟨o',ho⟩
 refine I.step (g':=s.gens) (d':=s.drawn) (ch:=[]) (λb hb=>absurd hb @k) (λb o hL _ _ e _=>k b o hL e) (λb o hL _ _ e _=>⟨o.slots,k b o hL e⟩) (λb o _ e n=>by rw[bP (ht b o e)];exact n)
  (λb o _ e=>?_) (λb xs e=>by rw[bP (ne _ _ e)];exact e) (λb o u e=>by rw[bP (ne _ _ e)];exact e) (λb ps e=>by rw[bP (ne _ _ e)];exact e) (λb ps e=>by rw[bP (ne _ _ e)];exact e) ns (λb u e=>?_) I.bare
 .by_cases hb:b=X.env.locals
  .rw[hb];exact thL
  .exact⟨o,k b o hb e⟩
 .by_cases hb:b=a
  .subst hb;rw[cR] at e;cases e;exact new
  .rw[bP hb] at e;refine(I.c8 b u e).i9 (λc v hc r=>k c v ?_ r) (λc z=>by rw[bP (ne _ _ z)];exact z) (λc xs z=>by rw[bP (ne _ _ z)];exact z);rcases hc with rfl |hc
   .exact nL _ _ e
   .exact nL _ _ hc
theorem Sl:pS X (kR .Add) iK:=by
 intro pins s σ H G x y dx dy v u Q I ab rx ry dX dY q;have lists:BZ dx dy G Q->wpAny @r X.A (kR .Add v u) (qa X pins σ H G Q) X.xe s:=by
  intro q;unfold BZ at q;split at q
  .rename_i xs ys e1 e2;obtain⟨hz,q⟩:=q;obtain⟨l,vs,b9,rfl,rv,rs,hl,_⟩:=nE I ab rx dX e1;obtain⟨b,ws,ug,rfl,LL,Tz,hb,_⟩:=nE I ab ry dY e2;obtain⟨m,F0⟩:=I.fr;have hsz:b9.length+ug.length<=bB:=by rw[<-rv.length,<-LL.length,rs.length,Tz.length,cX];exact hz
   refine PyProof.Rows.add_lists F0 Gx hl hb (λh' F N=>?_) hsz;obtain⟨kk,ns⟩:=Dw I F0 F λp hp=>N p (aP _ hp);have hp:H s.heap.objs.size=none:=I.c8.fresh (bb _);refine⟨.ref s.heap.objs.size,upd H s.heap.objs.size (.lst (vs++ws)),.ref _,_,Inv.TN (t':=s.toks) I kk ns (Q4 (bb _)) ?_,.Ja ab hp (rs.append Tz),rfl,.ref _,q _ (ab.free hp)⟩;exact⟨by rw[aM,rv.length,LL.length];exact hsz,b9++ug,0,rv.append LL,(N _ aQ).1⟩
  .exact q.elim
 cases dX with
 |int i=>
  cases dY with
  |int j=>exact fY (Vx pins s σ H _ _ v u (zR X.K H G Q) I rx ry ⟨i,j,rfl,rfl,_,_,.refl ab,.int _,q⟩) λ_ _ z=>.of z
  |_=>exact lists q
 | str i=>
  cases dY with
  |str j=>
   obtain⟨hz,q⟩:=q;exact fY (IW pins s σ H _ _ v u (zR X.K H G Q) I rx ry ⟨i,j,rfl,rfl,by rw[cX];exact hz,_,_,.refl ab,.str _,q⟩) λ_ _ z=>.of z
  |_=>exact lists q
 | tup h1 r1=>
  cases dY with
  |tup h2 r2=>
   obtain⟨hn,hz,q⟩:=q;refine fY (Sh pins s σ H _ _ v u (zR X.K H G Q) I rx ry ⟨_,_,_,_,rfl,rfl,.of h1,.of h2,?_,?_,λe=>?_,λe p hp=>?_⟩) λ_ _ z=>.of z
   .rintro rfl;cases r1;exact hn rfl
   .rw[r1.length,r2.length,cX];exact hz
   .subst e;cases r2;rw[bH] at q;exact⟨_,_,.refl ab,.tup h1 r1,q⟩
   .exact⟨_,_,.SH ab hp,.tup cR ((r1.append r2).mono (.new hp)),q⟩
  |_=>exact lists q
 |ref l=>exact lists (by rw[jv] at q;exact q)
 |dR _ _=>exact lists (by rw[ng] at q;exact q)
 |_=>exact lists (by cases dY<;>exact q)
theorem Si:pS X (kR .Sub) CA:=by
 intro pins s σ H G x y dx dy v u Q I ab rx ry dX dY q;cases dX with
 |int i=>
  cases dY with
  |int j=>exact fY (Vt pins s σ H _ _ v u (zR X.K H G Q) I rx ry ⟨i,j,rfl,rfl,_,_,.refl ab,.int _,q⟩) λ_ _ z=>.of z
  |_=>exact bE q
 |_=>exact bE q
theorem Sj:pS X (kR .Mult) ud:=by
 intro pins s σ H G x y dx dy v u Q I ab rx ry dX dY q;cases dX with
 |int i=>
  cases dY with
  |int j=>exact fY (Vu pins s σ H _ _ v u (zR X.K H G Q) I rx ry ⟨i,j,rfl,rfl,q.1,_,_,.refl ab,.int _,q.2⟩) λ_ _ z=>.of z
  |_=>exact bE q
 |_=>exact bE q
theorem Sk:pS X (kR .Mod) jJ:=by
 intro pins s σ H G x y dx dy v u Q I ab rx ry dX dY q;cases dX with
 |int i=>
  cases dY with
  |int j=>exact fY (Vv pins s σ H _ _ v u (zR X.K H G Q) I rx ry ⟨i,j,rfl,rfl,q.1,_,_,.refl ab,.int _,q.2⟩) λ_ _ z=>.of z
  |_=>exact bE q
 |_=>exact bE q
theorem OT:pS X (kR .FloorDiv) wM:=by
 intro pins s σ H G x y dx dy v u Q I ab rx ry dX dY q;cases dX with
 |int i=>
  cases dY with
  |int j=>exact fY (Sg pins s σ H _ _ v u (zR X.K H G Q) I rx ry ⟨i,j,rfl,rfl,⟨q.1,q.2.1⟩,_,_,.refl ab,.int _,q.2.2⟩) λ_ _ z=>.of z
  |_=>exact bE q
 |_=>exact bE q
theorem Vz(hu:X.A.units<cLine):pS X (eZ .Lt) X5:=by
 intro pins s σ H G x y dx dy v u Q I ab rx ry dX dY q;cases dX with
 |int i=>
  cases dY with
  |int j=>exact fY (Yd pins s σ H _ _ v u (zR X.K H G Q) I rx ry ⟨i,j,rfl,rfl,_,_,.refl ab,.bl _,q⟩) λ_ _ z=>.of z
  |_=>exact bE q
 | tup h1 r1=>
  cases dY with
  | tup h2 r2=>
   obtain⟨xs,ys,e1,e2,q⟩:=q;subst e1 e2;have z1:=r1.ints;have z2:=r2.ints;subst z1 z2;have el:∀xs ys:@I,HT.lexLt xs ys=K2.lexLt xs ys:=by
    intro xs;induction xs with
    |nil=>intro ys;cases ys<;>rfl
    |cons x xs ih=>intro ys;cases ys with
     |nil=>rfl
     |cons y ys=>unfold HT.lexLt K2.lexLt;rw[ih]
   exact fY (Vw hu pins s σ H _ _ v u (zR X.K H G Q) I rx ry ⟨_,_,xs,ys,rfl,rfl,.of h1,.of h2,_,_,.refl ab,.bl _,by rw[el];exact q⟩) λ_ _ z=>.of z
  |_=>exact bE q
 |_=>exact bE q
theorem VB:pS X (eZ .Gt) Va:=by
 intro pins s σ H G x y dx dy v u Q I ab rx ry dX dY q;cases dX with
 |int i=>
  cases dY with
  |int j=>exact fY (Ye pins s σ H _ _ v u (zR X.K H G Q) I rx ry ⟨i,j,rfl,rfl,_,_,.refl ab,.bl _,q⟩) λ_ _ z=>.of z
  |_=>exact bE q
 |_=>exact bE q
mutual
noncomputable def pd:D->PyData
 |.ff=>.none
 |.bl b=>.bool b
 |.int i=>.int i
 |.str x=>.str x
 |.tup ds=>.tuple (xZ ds)
 |.dR ds=>.list (xZ ds)
 |.pZ _=>.none
 |.exc _=>.none
 |.Cr _ _ _=>.none
 |.Dp _=>.none
 |.ref _=>.none
noncomputable def xZ:@i->List PyData
 |[]=>[]
 |d::r=>pd d::xZ r
end
mutual
theorem BN:∀(s t:D),nr s=true->nr t=true->vR (pd s) (pd t)=jf s t
 |.ff,t,_,ht=>by cases t<;>first |rfl |(exact bu (show false=true from ht))
 |.bl a,t,_,ht=>by cases t<;>first |rfl |(exact bu (show false=true from ht))
 |.int a,t,_,ht=>by cases t<;>first |rfl |(exact bu (show false=true from ht))
 |.str a,t,_,ht=>by cases t<;>first |rfl |(exact bu (show false=true from ht))
 |.tup a,t,hs,ht=>by
  cases t with
  |tup b=>exact E6 a b hs ht
  |ref _=>exact bu (show false=true from ht)
  |exc _=>exact bu (show false=true from ht)
  |Cr _ _ _=>exact bu (show false=true from ht)
  |Dp _=>exact bu (show false=true from ht)
  |pZ _=>exact bu (show false=true from ht)
  |_=>rfl
 |.dR a,t,hs,ht=>by
  cases t with
  |dR b=>exact E6 a b hs ht
  |ref _=>exact bu (show false=true from ht)
  |exc _=>exact bu (show false=true from ht)
  |Cr _ _ _=>exact bu (show false=true from ht)
  |Dp _=>exact bu (show false=true from ht)
  |pZ _=>exact bu (show false=true from ht)
  |_=>rfl
 |.ref _,_,hs,_=>bu (show false=true from hs)
 |.exc _,_,hs,_=>bu (show false=true from hs)
 |.Cr _ _ _,_,hs,_=>bu (show false=true from hs)
 |.Dp _,_,hs,_=>bu (show false=true from hs)
 |.pZ _,_,hs,_=>bu (show false=true from hs)
theorem E6:∀(s t:@i),EF s=true->EF t=true->PyData.eqvAll (xZ s) (xZ t)=kL s t
 |[],[],_,_=>rfl
 |[],_::_,_,_=>rfl
 |_::_,[],_,_=>rfl
 |a::r,b::t,hs,ht=>by
  have GL:nr a=true/\EF r=true:=(j4).mp hs;have QO:nr b=true/\EF t=true:=(j4).mp ht;show(vR (pd a) (pd b)&&PyData.eqvAll (xZ r) (xZ t))=(jf a b&&kL r t);rw[BN a b GL.1 QO.1,E6 r t GL.2 QO.2]
end
mutual
theorem oK:∀(s:D),nr s=true->(pd s).canLay0=true
 |.ff,_=>rfl
 |.bl a,_=>rfl
 |.int a,_=>rfl
 |.str a,h=>h
 |.tup a,h=>wZ a h
 |.dR a,h=>wZ a h
 |.exc _,_=>rfl
 |.Cr _ _ _,_=>rfl
 |.Dp _,_=>rfl
 |.ref _,_=>rfl
 |.pZ _,_=>rfl
theorem wZ:∀(s:@i),EF s=true->PyData.canLayAll0 (xZ s)=true
 |[],_=>rfl
 |a::r,h=>by
  have h':nr a=true/\EF r=true:=(j4).mp h;show((pd a).canLay0&&PyData.canLayAll0 (xZ r))=true;rw[oK a h'.1,wZ r h'.2];rfl
end
theorem JC(h:Sn G n d t):(pd t).depth<=n:=by
 induction h with
 |ff=>exact eB _
 |bl b=>exact eB _
 |int i=>exact eB _
 |str x h=>exact eB _
 |F6=>exact vL (eB _)
 |qG _ _ Pp Pn=>
  exact vL (Nat.max_le.mpr ⟨Pp,vS Pn⟩)
 |Es=>exact vL (eB _)
 |A7 _ _ Pp Pn=>
  exact vL (Nat.max_le.mpr ⟨Pp,vS Pn⟩)
 |ref _ _ ih=>exact ih
theorem jU(I:@o)(ab:j7 X.K H G)(h:Sn G n d t):
  (∀v u,cI X.K H v d->RelV v u->∃as,Reads s.heap u (pd t) as) /\
  (∀ds ss,(d=.dR ds/\t=.dR ss)\/(d=.tup ds/\t=.tup ss)->∀vs us,bq X.K H vs ds->Vals vs us->∃as,qW s.heap us (xZ ss) as):=by
 have Tv:∀{ds ss:@i},(∀vs us,bq X.K H vs ds->Vals vs us->∃as,qW s.heap us (xZ ss) as)->∀v u,cI X.K H v (.tup ds)->RelV v u->∃as,Reads s.heap u (pd (.tup ss)) as:=by
  intro ds ss k v u r ru;cases r with
  |tup hq rs=>
   cases ru;obtain⟨b9,rv,⟨o,ho,hc,n,hd⟩,hz⟩:=I.tuple (.of hq);obtain⟨as,ra⟩:=k _ b9 rs rv;exact⟨as,.tuple ho hc hd (by simpa using ra)⟩
 have TB:∀{ds ss:@i},(∀vs us,bq X.K H vs ds->Vals vs us->∃as,qW s.heap us (xZ ss) as)->∀v u,cI X.K H v (.dR ds)->RelV v u->∃as,Reads s.heap u (pd (.dR ss)) as:=by
  intro ds ss k v u r ru;cases r with
  |dR hq rs=>
   cases ru;obtain⟨b9,rv,pl,hz⟩:=I.list hq.sq;obtain⟨o,ho,hc,n,hd⟩:=pl.isList;obtain⟨as,ra⟩:=k _ b9 rs rv;exact⟨_,.list ho hc hd (by simpa using ra)⟩
 induction h with
 |ff=>exact⟨λv u r ru=>by cases r;cases ru;exact⟨_,.none⟩,λds ss e=>by rcases e with ⟨e,_⟩ |⟨e,_⟩<;>cases e⟩
 |bl b=>exact⟨λv u r ru=>by cases r;cases ru;exact⟨_,.bool b⟩,λds ss e=>by rcases e with ⟨e,_⟩ |⟨e,_⟩<;>cases e⟩
 |int i=>exact⟨λv u r ru=>by cases r;obtain⟨t,rfl⟩:=ru;exact⟨_,.int i t⟩,λds ss e=>by rcases e with ⟨e,_⟩ |⟨e,_⟩<;>cases e⟩
 |str x hx=>exact⟨λv u r ru=>by cases r;obtain⟨t,rfl⟩:=ru;exact⟨_,.str x t⟩,λds ss e=>by rcases e with ⟨e,_⟩ |⟨e,_⟩<;>cases e⟩
 | F6=>
  have k:∀vs us,bq X.K H vs []->Vals vs us->∃as,qW s.heap us (xZ []) as:=λvs us r ru=>by
   have e:=r.zero;subst e;cases ru;exact⟨_,.nil⟩
  refine⟨Tv k,λds ss e=>?_⟩;rcases e with ⟨e,_⟩ |⟨e,e2⟩
  .cases e
  .cases e;cases e2;exact k
 | qG h1 h2 Pp Pn=>
  have k2:=Pn.2 _ _ (.inr @R);have k:∀vs us,bq X.K H vs (_::_)->Vals vs us->∃as,qW s.heap us (xZ (_::_)) as:=λvs us r ru=>by
   cases r with
   | cons r1 r2=>
    cases ru with
    |cons u1 u2=>
     obtain⟨as,ra⟩:=Pp.1 _ _ r1 u1;obtain⟨bs,rb⟩:=k2 _ _ r2 u2;exact⟨_,.cons ra rb⟩
  refine⟨Tv k,λds ss e=>?_⟩;rcases e with ⟨e,_⟩ |⟨e,e2⟩
  .cases e
  .cases e;cases e2;exact k
 | Es=>
  have k:∀vs us,bq X.K H vs []->Vals vs us->∃as,qW s.heap us (xZ []) as:=λvs us r ru=>by
   have e:=r.zero;subst e;cases ru;exact⟨_,.nil⟩
  refine⟨TB k,λds ss e=>?_⟩;rcases e with ⟨e,e2⟩ |⟨e,_⟩
  .cases e;cases e2;exact k
  .cases e
 | A7 h1 h2 Pp Pn=>
  have k2:=Pn.2 _ _ (.inl @R);have k:∀vs us,bq X.K H vs (_::_)->Vals vs us->∃as,qW s.heap us (xZ (_::_)) as:=λvs us r ru=>by
   cases r with
   | cons r1 r2=>
    cases ru with
    |cons u1 u2=>
     obtain⟨as,ra⟩:=Pp.1 _ _ r1 u1;obtain⟨bs,rb⟩:=k2 _ _ r2 u2;exact⟨_,.cons ra rb⟩
  refine⟨TB k,λds ss e=>?_⟩;rcases e with ⟨e,e2⟩ |⟨e,_⟩
  .cases e;cases e2;exact k
  .cases e
 |ref hg h1 ih=>
  refine⟨λv u r ru=>?_,λds ss e=>by rcases e with ⟨e,_⟩ |⟨e,_⟩<;>cases e⟩;cases r;cases ru;obtain⟨vs,hv,rs⟩:=ab.lst hg;obtain⟨b9,rv,pl,hz⟩:=I.list (.of hv);obtain⟨o,ho,hc,n,hd⟩:=pl.isList;obtain⟨as,ra⟩:=ih.2 _ _ (.inl @R) vs b9 rs rv;exact⟨_,.list ho hc hd (by simpa using ra)⟩
theorem VC(hu:X.A.units+64<cLine):pS X (eZ .Eq) @G:=by
 intro pins s σ H G x y dx dy v u Q I ab rx ry dX dY q;obtain⟨a,b,sa,sb,q⟩:=q;obtain⟨as,ra⟩:=(jU I ab sa).1 x v dX rx;obtain⟨bs,rb⟩:=(jU I ab sb).1 y u dY ry;have d1:=JC sa;refine SeqAt.compareEq_reads ra rb (oK _ sa.nr) (oK _ sb.nr) (by unfold SN at d1;lia) ?_;rw[BN _ _ sa.nr sb.nr];exact⟨.bl _,H,.bl _,G,I,.refl ab,rfl,.bl _,q⟩
theorem Vy(hu:X.A.units+64<cLine):pS X (eZ .NotEq) (ic true):=by
 intro pins s σ H G x y dx dy v u Q I ab rx ry dX dY q;obtain⟨a,b,sa,sb,q⟩:=q;obtain⟨as,ra⟩:=(jU I ab sa).1 x v dX rx;obtain⟨bs,rb⟩:=(jU I ab sb).1 y u dY ry;have d1:=JC sa;refine SeqAt.compareNe_reads ra rb (oK _ sa.nr) (oK _ sb.nr) (by unfold SN at d1;lia) ?_;rw[BN _ _ sa.nr sb.nr];exact⟨.bl _,H,.bl _,G,I,.refl ab,rfl,.bl _,q⟩
end
theorem xA(j k):jf (fL j) (fL k)=decide (j=k):=by
 cases j with
 |inl a=>cases k with
  |inl b=>rw[Pd];rfl
  |inr b=>exact(decide_eq_false (λz=>nomatch z)).symm
 |inr a=>cases k with
  |inl b=>exact(decide_eq_false (λz=>nomatch z)).symm
  |inr b=>rw[Pc];exact(QI a b)
theorem DM:∀(js ks:List Key),kL (js.map fL) (ks.map fL)=decide (js=ks)
 |[],[]=>(decide_eq_true rfl).symm
 |[],_::_=>(decide_eq_false (λz=>nomatch z)).symm
 |_::_,[]=>(decide_eq_false (λz=>nomatch z)).symm
 |j::js,k::ks=>by
  show(jf (fL j) (fL k)&&kL (js.map fL) (ks.map fL))=_;rw[xA,DM js ks,BR]
theorem xy(js ks:List Key):jf (.tup (js.map fL)) (.tup (ks.map fL))=decide (js=ks):=by
 exact DM js ks
section
variable {K:aB} {H:Hp}
theorem EK(h:fS d=true):∃k:Key,d=fL k:=by
 cases d with
 |int i=>exact⟨.inl i,rfl⟩
 |str x=>exact⟨.inr x,rfl⟩
 |_=>exact absurd h (by simp[fS])
theorem Kx:∀{ds:@i},ds.all fS=true->∃ks:List Key,ds=ks.map fL
 |[],_=>⟨[],rfl⟩
 |d::r,h=>by
  rw[Nm,bg] at h;obtain⟨k,rfl⟩:=EK h.1;obtain⟨ks,rfl⟩:=Kx h.2;exact⟨k::ks,rfl⟩
theorem Ky(h:vp d=true):∃ks:List Key,d=.tup (ks.map fL):=by
 cases d with
 |tup ds=>obtain⟨ks,rfl⟩:=Kx (ds:=ds) h;exact⟨ks,rfl⟩
 |_=>exact absurd h (by simp[vp])
theorem Ew(r:cI K H v (fL k)):v=kV k:=by
 cases k with
 |inl i=>cases r;rfl
 |inr x=>cases r;rfl
theorem Gn:∀{vs:List V} {ks:List Key},bq K H vs (ks.map fL)->vs=ks.map kV
 |_,[],r=>r.zero
 |_,k::ks,r=>by
  rw[av] at r;cases r with
  |cons r1 r2=>rw[Ew r1,Gn r2];rfl
theorem Gq{ks:List Key}(r:cI K H v (.tup (ks.map fL))):∃b,v=.ref b/\H b=some (.tup (ks.map kV)):=by
 cases r with
 |tup h rs=>have e:=Gn rs;subst e;exact⟨_,rfl,h⟩
theorem rj.look(r:rj K H kv bx)(k):(∃v d,mh kv k=some v/\K2.look bx (fL k)=some d/\cI K H v d)\/(mh kv k=none/\K2.look bx (fL k)=none):=by
 induction r using rj.ind with
 |nil=>exact .inr @R
 | @cons j v d r t rd rs ih=>
  by_cases e:j=k
  .left;refine⟨v,d,rK (p:=(j,v)) e,?_,rd⟩;unfold K2.look;rw[NF (by show jf (fL j) (fL k)=true;rw[xA];exact decide_eq_true e)];rfl
  .have e1:mh ((j,v)::r) k=mh r k:=rL (p:=(j,v)) e;have e2:K2.look ((fL j,d)::t) (fL k)=K2.look t (fL k):=by
    unfold K2.look;rw[NG (by show ¬ jf (fL j) (fL k)=true;rw[xA];simpa using e)]
   rw[e1,e2];exact ih
theorem rD.look(r:rD K H kv bx)(k):(∃v d,mh kv k=some v/\K2.look bx (.tup (k.map fL))=some d/\cI K H v d)\/(mh kv k=none/\K2.look bx (.tup (k.map fL))=none):=by
 induction r using rD.ind with
 |nil=>exact .inr @R
 | @cons j v d r t rd rs ih=>
  by_cases e:j=k
  .left;refine⟨v,d,rK (p:=(j,v)) e,?_,rd⟩;unfold K2.look;rw[NF (by show jf (.tup (j.map fL)) (.tup (k.map fL))=true;rw[xy];exact decide_eq_true e)];rfl
  .have e1:mh ((j,v)::r) k=mh r k:=rL (p:=(j,v)) e;have e2:K2.look ((.tup (j.map fL),d)::t) (.tup (k.map fL))=K2.look t (.tup (k.map fL)):=by
    unfold K2.look;rw[NG (by show ¬ jf (.tup (j.map fL)) (.tup (k.map fL))=true;rw[xy];simpa using e)]
   rw[e1,e2];exact ih
theorem rj.any(r:rj K H kv bx)(k):(kv.any λp=>decide (p.1=k))=bx.any λp=>jf p.1 (fL k):=by
 induction r using rj.ind with
 |nil=>rfl
 |@cons j v d r t rd rs ih=>simp only[oR];rw[ih,xA]
theorem rD.any(r:rD K H kv bx)(k):(kv.any λp=>decide (p.1=k))=bx.any λp=>jf p.1 (.tup (k.map fL)):=by
 induction r using rD.ind with
 |nil=>rfl
 |@cons j v d r t rd rs ih=>simp only[oR];rw[ih,xy]
theorem rj.put(r:rj K H kv bx)(k)(rd:cI K H v d):rj K H (putK kv k v) (K2.put bx (fL k) d):=by
 unfold putK K2.put;rw[r.any k];by_cases h:(bx.any λp=>jf p.1 (fL k))=true
 .rw[if_pos h,if_pos h];clear h;induction r using rj.ind with
  |nil=>exact .nil
  |@cons j w e r t re rs ih=>
   simp only[av];rw[xA];by_cases e:j=k
   .simp only[e,if_true,decide_true];exact .cons rd ih
   .simp only[e,if_false,decide_false,ag];exact .cons re ih
 .rw[if_neg h,if_neg h];clear h;induction r using rj.ind with
  |nil=>exact .cons rd .nil
  |cons re rs ih=>exact .cons re ih
theorem rD.put(r:rD K H kv bx)(k)(rd:cI K H v d):rD K H (putK kv k v) (K2.put bx (.tup (k.map fL)) d):=by
 unfold putK K2.put;rw[r.any k];by_cases h:(bx.any λp=>jf p.1 (.tup (k.map fL)))=true
 .rw[if_pos h,if_pos h];clear h;induction r using rD.ind with
  |nil=>exact .nil
  |@cons j w e r t re rs ih=>
   simp only[av];rw[xy];by_cases e:j=k
   .simp only[e,if_true,decide_true];exact .cons rd ih
   .simp only[e,if_false,decide_false,ag];exact .cons re ih
 .rw[if_neg h,if_neg h];clear h;induction r using rD.ind with
  |nil=>exact .cons rd .nil
  |cons re rs ih=>exact .cons re ih
end
theorem Kp.putD{H:Hp}{p:Addr}{o o':HO}(hp:H p=@j)(h:(∃k,o=.dK k)\/∃k,o=.dT k):Kp H (upd H p o') :=
 ⟨λa ys e=>by rw[bP (by rintro rfl;rw[hp] at e;rcases h with ⟨_,rfl⟩ |⟨_,rfl⟩<;>cases e)];exact e,λa ob u e=>by rw[bP (by rintro rfl;rw[hp] at e;rcases h with ⟨_,rfl⟩ |⟨_,rfl⟩<;>cases e)];exact e⟩
section
variable {X:Cx} {pins:@A} {σ:L2.St} {H:Hp} {s:aL} {G:Gp} {a:Addr} {bx:List (D×D)} {k:D} {y:V}
theorem toT(I:@o)(e:H a=some (.dK [])):Inv X pins σ (upd H a (.dT [])) s:=by
 obtain⟨z,hd,vs,rel,dd⟩:=K1 I.c8 e;have hv:vs=[]:=by cases rel;rfl
 subst hv;obtain⟨o,es,ep,ho,hx,PI,hko,hl,nd⟩:=dd;have he:es=#[]:=by
  cases hq:es.toList with
  |nil=>simpa using hq
  |cons _ _=>rw[hq] at hl;cases hl
 subst he;exact I.write (h':=s.heap) (t':=s.toks) (x:=a) (e:=a) (by rw[e];exact iB) (@E) (λb u _ q=>q) ⟨o,ho⟩ ⟨eB _,hd,[],.nil,o,#[],ep,ho,hx,PI,rfl,i7⟩
theorem toK(I:@o)(e:H a=some (.dT [])):Inv X pins σ (upd H a (.dK [])) s:=by
 obtain⟨z,hd,xs,rel,o,es,ep,ho,hx,PI,hl,nd⟩:=I.c8 a _ e;have hv:xs=[]:=by cases rel;rfl
 subst hv;have he:es=#[]:=by simpa using hl
 subst he;exact I.write (h':=s.heap) (t':=s.toks) (x:=a) (e:=a) (by rw[e];exact iB) (@E) (λb u _ q=>q) ⟨o,ho⟩ ⟨eB _,hd,[],.nil,o,#[],ep,ho,hx,PI,(λ_ h=>by simp at h),.nil,i7⟩
theorem Kr(ab:j7 X.K H G)(hg:G a=some (.jG bx))(k:Kp H (upd H a o))(ho:QB X.K (upd H a o) a (.jG bx)):Mv X.K H G (upd H a o) G:=by
 have m:=Mv.put ab hg k ho;have e:ck G a (.jG bx)=G:=by
  funext b;unfold ck;split
  .rename_i z;rw[z,hg]
  .rfl
 rw[e] at m;exact m
theorem K4(I:@o)(ab:j7 X.K H G)(hg:G a=some (.jG bx))(hk:iF bx k=true)(ry:cI X.K H y k):
  ∃H',Inv X pins σ H' s/\Mv X.K H G H' G/\((∃(kv:List (Key×V)) (kk:Key),H' a=some (.dK kv)/\rj X.K H' kv bx/\k=fL kk/\y=kV kk)\/∃(kv:List (List Key×V)) (kk:List Key) (b:Addr),H' a=some (.dT kv)/\rD X.K H' kv bx/\k=.tup (kk.map fL)/\y=.ref b/\H' b=some (.tup (kk.map kV))):=by
 unfold iF at hk;rw[dQ,bg,bg] at hk;rcases hk with ⟨h1,h2⟩ |⟨h1,h2⟩
 .obtain⟨kk,rfl⟩:=EK h1;have ey:=Ew ry;subst ey;rcases ab a _ hg with ⟨kv,hv,rs⟩ |⟨kv,hv,rs⟩
  .exact⟨H,I,.refl ab,.inl ⟨kv,kk,hv,rs,rfl,rfl⟩⟩
  .cases rs with
   |nil=>
    refine⟨_,toK I hv,Kr ab hg (.putD hv (.inr ⟨_,rfl⟩)) (.inl ⟨[],cR,.nil⟩),.inl ⟨[],kk,cR,.nil,rfl,rfl⟩⟩
   |cons _ _=>simp[fS] at h2
 .obtain⟨kk,rfl⟩:=Ky h1;obtain⟨b,rfl,hb⟩:=Gq ry;rcases ab a _ hg with ⟨kv,hv,rs⟩ |⟨kv,hv,rs⟩
  .cases rs with
   |nil=>
    have kp:Kp H (upd H a (.dT [])):=.putD hv (.inl ⟨_,rfl⟩);exact⟨_,toT I hv,Kr ab hg kp (.inr ⟨[],cR,.nil⟩),.inr ⟨[],kk,b,cR,.nil,rfl,rfl,kp.tup _ _ hb⟩⟩
   |@cons j _ _ _ _ _ _=>cases j<;>simp[fL,vp] at h2
  .exact⟨H,I,.refl ab,.inr ⟨kv,kk,b,hv,rs,rfl,rfl,hb⟩⟩
theorem BQ(I:@o)(ab:j7 X.K H G)(hg:G a=some (.jG bx))(hk:iF bx k=true)(ry:cI X.K H y k):
  ∃H' o,Inv X pins σ H' s/\Mv X.K H G H' G/\z8 H' a y o/\o.isSome=(look bx k).isSome/\∀d,look bx k=some d->∃v,o=some v/\cI X.K H' v d:=by
 obtain⟨H',I',m,h⟩:=K4 I ab hg hk ry;rcases h with ⟨kv,kk,hv,rs,rfl,rfl⟩ |⟨kv,kk,b,hv,rs,rfl,rfl,hb⟩
 .refine⟨H',mh kv kk,I',m,.k hv,?_,λd hd=>?_⟩
  .rcases rs.look kk with ⟨v,d,e1,e2,_⟩ |⟨e1,e2⟩<;>rw[e1,e2]<;>rfl
  .rcases rs.look kk with ⟨v,d',e1,e2,r⟩ |⟨e1,e2⟩
   .rw[e2] at hd;cases hd;exact⟨v,e1,r⟩
   .rw[e2] at hd;cases hd
 .refine⟨H',mh kv kk,I',m,.t hv hb,?_,λd hd=>?_⟩
  .rcases rs.look kk with ⟨v,d,e1,e2,_⟩ |⟨e1,e2⟩<;>rw[e1,e2]<;>rfl
  .rcases rs.look kk with ⟨v,d',e1,e2,r⟩ |⟨e1,e2⟩
   .rw[e2] at hd;cases hd;exact⟨v,e1,r⟩
   .rw[e2] at hd;cases hd
theorem Ep(I:@o)(rd:cI X.K H x (.pZ bx))(hk:iF bx k=true)(ry:cI X.K H y k):
  ∃a o,x=@m/\(bx=[]\/z8 H a y o)/\o.isSome=(look bx k).isSome/\∀d,look bx k=some d->∃v,o=some v/\cI X.K H v d:=by
 unfold iF at hk;rw[dQ,bg,bg] at hk;cases rd with
 | uc h rs=>
  rename_i a ob kv;rcases hk with ⟨h1,h2⟩ |⟨h1,h2⟩
  .obtain⟨kk,rfl⟩:=EK h1;have ey:=Ew ry;subst ey;refine⟨a,mh kv kk,rfl,.inr (.inl ⟨kv,kk,.inr ⟨_,h⟩,rfl,rfl⟩),?_,λd hd=>?_⟩
   .rcases rs.look kk with ⟨v,d,e1,e2,_⟩ |⟨e1,e2⟩<;>rw[e1,e2]<;>rfl
   .rcases rs.look kk with ⟨v,d',e1,e2,r⟩ |⟨e1,e2⟩
    .rw[e2] at hd;cases hd;exact⟨v,e1,r⟩
    .rw[e2] at hd;cases hd
  .cases rs with
   |nil=>exact⟨a,none,rfl,@E,rfl,λd hd=>by cases hd⟩
   |cons _ _=>
    rename_i kx _ _ _ _ _ _;rw[Nm,bg] at h2;cases kx<;>exact absurd h2.1 (by simp[fL,vp])
 | t9 h rs=>
  rename_i a ob kv;rcases hk with ⟨h1,h2⟩ |⟨h1,h2⟩
  .cases rs with
   |nil=>exact⟨a,none,rfl,@E,rfl,λd hd=>by cases hd⟩
   |cons _ _=>
    rw[Nm,bg] at h2;exact absurd h2.1 (by simp[fS])
  .obtain⟨kk,rfl⟩:=Ky h1;obtain⟨b,rfl,hb⟩:=Gq ry;refine⟨a,mh kv kk,rfl,.inr (.inr ⟨kv,kk,b,.inr ⟨_,h⟩,rfl,hb,rfl⟩),?_,λd hd=>?_⟩
   .rcases rs.look kk with ⟨v,d,e1,e2,_⟩ |⟨e1,e2⟩<;>rw[e1,e2]<;>rfl
   .rcases rs.look kk with ⟨v,d',e1,e2,r⟩ |⟨e1,e2⟩
    .rw[e2] at hd;cases hd;exact⟨v,e1,r⟩
    .rw[e2] at hd;cases hd
theorem Qa(I:@o)(ab:j7 X.K H G)(hg:G a=some (.jG bx))(hk:iF bx k=true)(hz:bx.length<SZ)(ry:cI X.K H y k)(rv:cI X.K H v d):
  ∃H' H'',Inv X pins σ H' s/\Nf H' a y v H''/\Mv X.K H G H'' (ck G a (.jG (put bx k d))):=by
 obtain⟨H',I',m,h⟩:=K4 I ab hg hk ry;have ZI:=rv.mono (m.kp ab);have sz:bB=16777216:=cX;rcases h with ⟨kv,kk,hv,rs,rfl,rfl⟩ |⟨kv,kk,b,hv,rs,rfl,rfl,hb⟩
 .have kp:Kp H' (upd H' a (.dK (putK kv kk v))):=.putD hv (.inl ⟨_,rfl⟩);exact⟨H',_,I',.k hv (by rw[rs.length,sz];exact hz),m.trans (.put m.ab hg kp (.inl ⟨_,cR,(rs.put kk ZI).mono kp⟩))⟩
 .have kp:Kp H' (upd H' a (.dT (putK kv kk v))):=.putD hv (.inr ⟨_,rfl⟩);exact⟨H',_,I',.t hv hb (by rw[rs.length,sz];exact hz),m.trans (.put m.ab hg kp (.inr ⟨_,cR,(rs.put kk ZI).mono kp⟩))⟩
end
section
variable {X:Cx} {a b c e:Expr} {es:List Expr} {ta tb tc te:fh} {t:sV} {pos p p2 apos mB:Pos} {x:Str}
theorem Vs{j}:dw X (.Constant (.bool k) j pos) (dC (.bl k)):=pq Yb λ_ _=>.bl k
theorem Kj{j}:dw X (.Constant .none j pos) (dC .ff):=pq Vi λ_ _=>.ff
theorem RY{j}:dw X (.Constant (.str y) j pos) (dC (.str y)):=pq Vh λ_ _=>.str y
theorem LW{st:Stmt}:ui X st dJ:=λ_ _ _ _ _ _ _ _ _ _ h=>h.elim
theorem Ra:WR X (unaryOp .USub) vi:=by
 intro pins s σ H G x dx v Q I ab rx dX q;cases dX with
 |int i=>exact fY (UK pins s σ H _ v (zR X.K H G Q) I rx ⟨i,rfl,_,_,.refl ab,.int _,q⟩) λ_ _ z=>.of z
 |_=>exact bE q
theorem Vn(hu:X.A.units+64<cLine)(ha:dw X a ta)(hb:dw X b tb)(hs:Ti b):dw X (.Subscript a b pos) (aG cK ta tb):=by
 ext c;refine Subscript_ (Qq ha hb hE I h λv u s2 x y dx dy H2 G2 J m rx ry dX dY q=>?_);have fin:∀{rb:R2},IxR X rb->rb x y H2 (zR X.K H2 G2 Q)->wpAny @r X.A (subscriptTail a b v u) (qa X pins σ H G Q) X.xe s2:=λhr hq=>
  fY (hr a b pins s2 σ H2 x y v u _ J.inv rx ry hq (hs _ _)) λ_ _ z=>(qa.of z).trans m
 cases dX with
 | tup hq rs=>
  cases dY with
  |int i=>
   rw[bG] at q;split at q
   .rename_i d hd;obtain⟨w,hw,vh⟩:=rs.mH hd;exact fin VV ⟨_,_,i,w,rfl,rfl,.of hq,hw,d,G2,.refl J.ab,vh,q⟩
   .exact q.elim
  |_=>exact bE q
 | dR hq rs=>
  cases dY with
  |int i=>
   rw[mZ] at q;split at q
   .rename_i d hd;obtain⟨w,hw,vh⟩:=rs.mH hd;exact fin Kz ⟨_,_,i,w,rfl,rfl,hq.sq,hw,d,G2,.refl J.ab,vh,q⟩
   .exact q.elim
  |_=>exact bE q
 | uc h rs=>
  rw[Ez] at q;obtain⟨hk,q⟩:=q;split at q
  .rename_i d hd;obtain⟨a',o,ea,g,_,hv⟩:=Ep J.inv (.uc h rs) hk dY;obtain⟨w,rfl,vh⟩:=hv d hd;cases ea;rcases g with rfl |g
   .cases hd
   .cases rx;exact tail_any (sQ J.inv g) PySem.F.slot_dict_getitem.lookup (yH (@e) J.inv g ry λw' s3 I4 rv=>⟨w,H2,d,G2,I4,m,rv,vh,q⟩) (hs _ _)
  .exact q.elim
 | t9 h rs=>
  rw[Ez] at q;obtain⟨hk,q⟩:=q;split at q
  .rename_i d hd;obtain⟨a',o,ea,g,_,hv⟩:=Ep J.inv (.t9 h rs) hk dY;obtain⟨w,rfl,vh⟩:=hv d hd;cases ea;rcases g with rfl |g
   .cases hd
   .cases rx;exact tail_any (sQ J.inv g) PySem.F.slot_dict_getitem.lookup (yH (@e) J.inv g ry λw' s3 I4 rv=>⟨w,H2,d,G2,I4,m,rv,vh,q⟩) (hs _ _)
  .exact q.elim
 | ref l=>
  rw[RB] at q;split at q
  .rename_i ds hl;obtain⟨vs,hv,rs⟩:=J.ab.lst hl;cases dY with
   |int i=>
    dsimp only at q;split at q
    .rename_i d hd;obtain⟨w,hw,vh⟩:=rs.mH hd;exact fin Kz ⟨_,_,i,w,rfl,rfl,.of hv,hw,d,G2,.refl J.ab,vh,q⟩
    .exact q.elim
   |_=>exact bE q
  .rename_i bx hl;obtain⟨hk,q⟩:=q;split at q
   .rename_i d hd;obtain⟨H3,o,I3,m3,g,_,hv⟩:=BQ J.inv J.ab hl hk dY;obtain⟨w,rfl,vh⟩:=hv d hd;cases rx;exact tail_any (sQ I3 g) PySem.F.slot_dict_getitem.lookup (yH (@e) I3 g ry λw' s3 I4 rv=>⟨w,H3,d,G2,I4,m.trans m3,rv,vh,q⟩) (hs _ _)
   .exact q.elim
  .exact q.elim
 |_=>exact bE q
def XB(X:Cx)(e:Option Expr)(t:WT):Prop :=
 ∀(E:iM) (pins:@A) (s:aL) (σ:L2.St) (H:Hp) (τ:ik) (G:Gp) (Q:Option Int->@t),Lk X E->I2 X pins σ H τ G s->t E τ G Q ->
  wpAny @r X.A (evalPart e X.env) (λu s'=>∃o H' G',Inv X pins σ H' s'/\Mv X.K H G H' G'/\IsPart u o/\Q o G') X.xe s
theorem OC:XB X none bU:=by
 ext c;rw[evalPart_none];exact bI ⟨none,H,G,I.inv,.refl I.ab,.none,h⟩
theorem OB(h:dw X e te):XB X (some e) (gW te):=by
 intro E pins s σ H τ G Q hE I hw;rw[evalPart_some];refine j0 h hE I hw λx H1 d G1 u s1 I1 m1 r1 jd q1=>?_;cases jd with
 |int i=>
  obtain⟨t,rfl⟩:=r1;exact⟨some i,H1,G1,I1.inv,m1,.int i t,q1⟩
 |_=>exact bE q1
theorem LZ{lo:Option Expr}(he:dw X a ta)(hl:XB X lo tl)(hu:XB X hi th):dw X (.Subscript a (.Slice lo hi none p2) pos) (lT ta tl th):=by
 ext c;refine Subscript_ (j0 he hE I h λx H1 d G1 v s1 I1 m1 r1 jd q1=>?_);refine wpAny_Slice (fY (hl E pins s1 σ H1 τ G1 _ hE I1 q1) ?_);rintro vl s2 ⟨l,H2,G2,j6,m2,pl,q2⟩;refine fY (hu E pins s2 σ H2 τ G2 _ hE (I1.mv j6 m2) q2) ?_;rintro vu s3 ⟨r,H3,G3,I3,m3,pu,q3⟩;rw[evalPart_none];refine bI ?_;have m13:=m2.trans m3;have mm:=m1.trans m13;have I4:Inv X pins σ H3 {s3 with heap:=s3.heap.push {cls:=.type "slice",data:=.fields #[vl,vu,.none]}}:=I3.kept (t':=s3.toks) λb ob q=>aW _ q;have X2:=jd.mono (m13.kp I1.ab);have Ug:=m3.ab;have key:∀{rb:V->Option Int->Option Int->Hp->VK->Prop},SlR X rb->rb x l r H3 (zR X.K H3 G3 Q)->wpAny @r X.A (subscriptTail a (.Slice lo hi none p2) v (.ref s3.heap.objs.size)) (qa X pins σ H G Q) X.xe {s3 with heap:=s3.heap.push {cls:=.type "slice",data:=.fields #[vl,vu,.none]}}:=λhr hq=>by
  obtain⟨T,id,hT,ht,hg⟩:=hr pins {s3 with heap:=s3.heap.push {cls:=.type "slice",data:=.fields #[vl,vu,.none]}} σ H3 x v vl vu l r s3.heap.objs.size _ I4 r1 (FW ..) pl pu hq;exact fY (tail_any (ops:=[.ref s3.heap.objs.size,v]) ht hT hg (by with_unfolding_all rfl)) λ_ _ z=>(qa.of z).trans mm
 cases X2 with
 |tup hq rs=>
  obtain⟨hw,q⟩:=q3;refine key UY ⟨_,_,rfl,.of hq,?_,λp hp=>⟨_,G3,.SH Ug hp,.tup cR ((rs.cut l r).mono (.new hp)),q⟩⟩;rw[En,En,rs.length];exact hw
 |dR hq rs=>exact key Kf ⟨_,_,rfl,hq.sq,λp hp=>⟨_,_,.Ja Ug hp (rs.cut l r),.ref _,q3 p (Ug.free hp)⟩⟩
 |ref g=>
  rw[lz] at q3;split at q3
  .rename_i ds hg;obtain⟨vs,hv,rs⟩:=Ug.lst hg;exact key Kf ⟨_,_,rfl,.of hv,λp hp=>⟨_,_,.Ja Ug hp (rs.cut l r),.ref _,q3 p (Ug.free hp)⟩⟩
  .exact q3.elim
 |_=>exact bE q3
theorem Sf(ss)(s)(h1:EF ss=true)(h2:nr s=true):((xZ ss).any λy=>vR y (pd s))=ss.any (jf · s):=by
 induction ss with
 |nil=>rfl
 |cons d r ih=>
  have h':nr d=true/\EF r=true:=(j4).mp h1;show(vR (pd d) (pd s)||(xZ r).any _)=_;rw[ih h'.2,BN d s h'.1 h2];rfl
theorem K5(h:Sn G (n+1) (.dR ds) (.dR ss)):FC (xZ ss)<=n:=by
 exact vS (JC h)
theorem EM(hu:X.A.units+64<cLine)(neg:Bool){pins:@A}{s:aL}{σ:L2.St}{H:Hp}{G:Gp}{x y:V}{dx t:D}{ds ss:@i}{v u:Value}{Q:DK}(I:@o)(ab:j7 X.K H G)(rx:RelV x v)(dX:cI X.K H x dx)
  (hy:(∃l vs b9,u=.ref l/\Vals vs b9/\bq X.K H vs ds/\(s.heap.IsList l b9.toArray\/s.heap.IsTuple l b9.toArray))) (s1:Sn G SN dx t) (s2:Sn G SN (.dR ds) (.dR ss))
  (q:Q (.bl (if neg then !ss.any (jf · t) else ss.any (jf · t))) G):wpAny @r X.A (eZ (if neg then .NotIn else .In) v u) (qa X pins σ H G Q) X.xe s:=by
 obtain⟨l,vs,b9,rfl,rv,rs,hl⟩:=hy;obtain⟨as,ra⟩:=(jU I ab s1).1 x v dX rx;obtain⟨bs,rb⟩:=(jU I ab s2).2 ds ss (.inl @R) vs b9 rs rv;have d2:=K5 (n:=7) s2;have n2:EF ss=true:=s2.nr;have Br:=wZ _ n2;have e:=Sf ss t n2 s1.nr;have QN:X.A.units+1+min (FC (xZ ss)) (pd t).depth<cLine:=@e
 have Oh:qW s.heap b9.toArray.toList (xZ ss) bs:=by simpa using rb
 have fin:∀k:Bool,k=(if neg then !ss.any (jf · t) else ss.any (jf · t))->qa X pins σ H G Q (.bool k) s:=λk hk=>by subst hk;exact⟨.bl _,H,.bl _,G,I,.refl ab,rfl,.bl _,q⟩
 cases neg with
 |false=>
  rcases hl with hl |hl
  .exact SeqAt.in_listAt _ hl (nI Oh ra Br (oK _ s1.nr) QN) (by rw[rH Oh Br,e];exact fin _ rfl)
  .exact SeqAt.in_tupleAt _ hl (nI Oh ra Br (oK _ s1.nr) QN) (by rw[rH Oh Br,e];exact fin _ rfl)
 |true=>
  rcases hl with hl |hl
  .exact SeqAt.notIn_listAt _ hl (nI Oh ra Br (oK _ s1.nr) QN) (by rw[rH Oh Br,e];exact fin _ rfl)
  .exact SeqAt.notIn_tupleAt _ hl (nI Oh ra Br (oK _ s1.nr) QN) (by rw[rH Oh Br,e];exact fin _ rfl)
theorem Pm(hu:X.A.units+64<cLine)(neg){x:V}(I:@o)(ab:j7 X.K H G)(rx:RelV x v)(ry:RelV y u)(dY:cI X.K H y (.pZ bx))(dX:cI X.K H x dx)
  (q:uN neg dx (.pZ bx) G Q):wpAny @r X.A (eZ (if neg then .NotIn else .In) v u) (qa X pins σ H G Q) X.xe s:=by
 obtain⟨kO,hk,q⟩:=q;have go:∀(a:Addr) (o:Option V),y=@m->z8 H a x o->o.isSome=(look bx dx).isSome->wpAny @r X.A (eZ (if neg then .NotIn else .In) v u) (qa X pins σ H G Q) X.xe s:=by
  intro a o ea g ho;subst ea;cases ry;cases neg with
  |false=>exact Ze (@e) I g rx λs3 I4=>⟨.bl _,H,.bl _,G,I4,.refl ab,rfl,.bl _,by rw[ho];exact q⟩
  |true=>exact K7 (@e) I g rx λs3 I4=>⟨.bl _,H,.bl _,G,I4,.refl ab,rfl,.bl _,by rw[ho];exact q⟩
 obtain⟨a,o,ea,g,ho,_⟩:=Ep I dY hk dX;rcases g with rfl |g
 .exact absurd rfl kO
 .exact go a o ea g ho
theorem Km(hu:X.A.units+64<cLine)(neg):pS X (eZ (if neg then .NotIn else .In)) (uN neg):=by
 intro pins s σ H G x y dx dy v u Q I ab rx ry dX dY q;cases dY with
 |tup hq rs=>
  obtain⟨t,ss,s1,s2,q⟩:=q;cases ry;obtain⟨b9,rv,pl,hz⟩:=I.tuple (.of hq);exact EM hu neg (y:=x) I ab rx dX ⟨_,_,b9,rfl,rv,rs,.inr pl⟩ s1 s2 q
 |dR hq rs=>
  obtain⟨t,ss,s1,s2,q⟩:=q;cases ry;obtain⟨b9,rv,pl,hz⟩:=I.list hq.sq;exact EM hu neg (y:=x) I ab rx dX ⟨_,_,b9,rfl,rv,rs,.inl pl.isList⟩ s1 s2 q
 |uc h rs=>exact Pm hu neg I ab rx ry (.uc h rs) dX q
 |t9 h rs=>exact Pm hu neg I ab rx ry (.t9 h rs) dX q
 | ref l=>
  unfold uN at q;dsimp only at q;split at q
  .rename_i bx hl;obtain⟨hk,q⟩:=q;obtain⟨H3,o,I3,m3,g,ho,_⟩:=BQ I ab hl hk dX;cases ry;cases neg with
   |false=>exact Ze (@e) I3 g rx λs3 I4=>⟨.bl _,H3,.bl _,G,I4,m3,rfl,.bl _,by rw[ho];exact q⟩
   |true=>exact K7 (@e) I3 g rx λs3 I4=>⟨.bl _,H3,.bl _,G,I4,m3,rfl,.bl _,by rw[ho];exact q⟩
  .rename_i ds hl;obtain⟨t,ss,s1,s2,q⟩:=q;cases ry;obtain⟨vs,hv,rs⟩:=ab.lst hl;obtain⟨b9,rv,pl,hz⟩:=I.list (.of hv);exact EM hu neg (y:=x) I ab rx dX ⟨_,_,b9,rfl,rv,rs,.inl pl.isList⟩ s1 s2 q
  .exact q.elim
 |_=>exact bE q
theorem VA(hu:X.A.units+64<cLine):pS X (eZ .In) (uN false):=Km hu false
theorem Mf(hu:X.A.units+64<cLine):pS X (eZ .NotIn) (uN true):=Km hu true
end
section
variable {X:Cx} {a b c e o:Expr} {es:List Expr} {ta tb tc te to:fh} {t:sV} {pos p p2 apos mB:Pos} {x name:Str} {id T:String}
theorem M0:nG X (.builtin "len") iL:=by
 intro pins s σ H G xs ds us Q I ab rx rd q;unfold iL at q;split at q
 .rename_i x;obtain⟨v,rfl,r⟩:=rd.one;have Q8:∀(n:Nat),Zs X.K v H n->Q (.int (n:Int)) G->wpAny @r X.A (call (.builtin "len") us) (qa X pins σ H G Q) X.xe s:=λn hn hq=>
   fY (Qk pins s σ H [v] us (zR X.K H G Q) I rx ⟨v,n,rfl,hn,_,_,.refl ab,.int _,hq⟩) λ_ _ z=>.of z
  have sz:bB=16777216:=cX;cases r with
  |tup hq rs=>exact Q8 _ (.inr ⟨_,.of hq,by rw[rs.length]⟩) q
  |dR hq rs=>exact Q8 _ (.inl ⟨_,hq.sq,by rw[rs.length]⟩) q
  |str y=>
   unfold lenOf at q;dsimp only at q;by_cases hz:y.length<=SZ
   .rw[if_pos hz] at q;exact Q8 _ ⟨by rw[sz];exact hz,rfl⟩ q
   .rw[if_neg hz] at q;exact q.elim
  |uc h rs=>
   rename_i l o kv bx;obtain⟨u,rfl,ru⟩:=rx.one;cases ru;unfold lenOf at q;dsimp only at q;by_cases ha:(bx.all λp=>fS p.1)=true
   .rw[if_pos ha] at q;exact Ub I (.inr ⟨_,h⟩) λt s' I'=>⟨.int kv.length,H,_,G,I',.refl ab,⟨t,rfl⟩,.int _,by rw[rs.length];exact q⟩
   .rw[if_neg ha] at q;exact q.elim
  | t9 h rs=>
   rename_i l o kv bx;obtain⟨u,rfl,ru⟩:=rx.one;cases ru;unfold lenOf at q;dsimp only at q;by_cases ha:(bx.all λp=>fS p.1)=true
   .rw[if_pos ha] at q;cases rs with
    |nil=>
     obtain⟨z,hS,xs,rel,ob,es,ep,ho,hx,PI,hl,nd⟩:=(I.c8 l _ h).2;have hxs:xs=[]:=by cases rel;rfl
     subst hxs;have he:es=#[]:=by simpa using hl
     subst he;have dd:s.heap.DictOf (fU X.prog X.w) l []:=⟨ob,#[],ep,ho,hx,PI,(λ_ h=>by simp at h),.nil,i7⟩;refine call_len_dict hS dd @k ?_;exact⟨.int 0,H,_,G,I.tok _,.refl ab,⟨_,rfl⟩,.int _,q⟩
    |cons _ _=>simp[fS] at ha
   .rw[if_neg ha] at q;exact q.elim
  | ref l=>
   unfold lenOf at q;dsimp only at q;cases hg:G l with
   |none=>rw[hg] at q;exact q.elim
   | some g=>
    rw[hg] at q;cases g with
    |lst ds=>
     obtain⟨vs,hv,rs⟩:=ab.lst hg;exact Q8 _ (.inl ⟨_,.of hv,by rw[rs.length]⟩) q
    |ins _ _=>exact q.elim
    |Ia _=>exact q.elim
    | jG bx=>
     obtain⟨u,rfl,ru⟩:=rx.one;cases ru;dsimp only at q;by_cases ha:(bx.all λp=>fS p.1)=true
     .rw[if_pos ha] at q;rcases ab l _ hg with ⟨kv,hv,rs⟩ |⟨kv,hv,rs⟩
      .exact Ub I (.inl hv) λt s' I'=>⟨.int kv.length,H,_,G,I',.refl ab,⟨t,rfl⟩,.int _,by rw[rs.length];exact q⟩
      .cases rs with
       |nil=>
        obtain⟨z,hd,vs,rel,dd⟩:=K1 (toK I hv).c8 cR;have hvs:vs=[]:=by cases rel;rfl
        subst hvs;refine call_len_dict hd dd @k ?_;exact⟨.int 0,H,_,G,I.tok _,.refl ab,⟨_,rfl⟩,.int _,q⟩
       |cons _ _=>simp[fS] at ha
     .rw[if_neg ha] at q;exact q.elim
  |_=>exact bE q
 .exact q.elim
theorem JF:nG X (.type "list") oA:=by
 intro pins s σ H G xs ds us Q I ab rx rd q;unfold oA at q;split at q
 .rename_i x;obtain⟨v,rfl,r⟩:=rd.one;have W9:∀(l:Addr) (ys:List V) (zs:@i),v=.ref l->(qE X.K H l ys\/B2 X.K H l ys)->bq X.K H ys zs->jN G (.lst zs) Q->wpAny @r X.A (call (.type "list") us) (qa X pins σ H G Q) X.xe s:=λl ys zs e h rs hq=>by
   subst e;exact fY (Fc pins s σ H _ us (zR X.K H G Q) I rx ⟨l,ys,rfl,h,λp hp=>⟨_,_,.Ja ab hp rs,.ref _,hq p (ab.free hp)⟩⟩) λ_ _ z=>.of z
  cases r with
  |tup hq rs=>exact W9 _ _ _ rfl (.inr (.of hq)) rs q
  |dR hq rs=>exact W9 _ _ _ rfl (.inl hq.sq) rs q
  | ref l=>
   unfold itemsOf at q;dsimp only at q;cases hg:G l with
   |none=>rw[hg] at q;exact q.elim
   | some g=>
    rw[hg] at q;cases g with
    |lst ds=>
     obtain⟨vs,hv,rs⟩:=ab.lst hg;exact W9 _ _ _ rfl (.inl (.of hv)) rs q
    |ins _ _=>exact q.elim
    |Ia _=>exact q.elim
    |jG bx=>exact q.elim
  |_=>exact bE q
 .exact q.elim
theorem IT  (hc:nG X (.type T) r) (hg:Gl X x) (hm:X.mg x=none) (hv:dj x=some (.type T)) (ha:rg X (e::es) t) (hn:autoParam (x≠"__name__") Ad._auto_1) (qw:autoParam ((x == ("__debug__":Str))=false) Ad._auto_1)
  (he:autoParam @af Ar._auto_1) (fX:autoParam ((eW pos (aT es X.env)).any (·.1)=false) Ar._auto_1):dw X (.Call (.Name x p) (e::es) [] pos) (gJ r t):=by
 ext c;refine eG (oJ I.inv hg hm hv ?_ hn qw);exact iO (t7 ha pos hE I h λvs H1 ds G1 us s1 I1 m1 r1 jd q1=>fY (hc pins s1 σ H1 G1 vs ds us Q I1.inv I1.ab r1 jd q1) λ_ _ z=>z.trans m1) he fX
theorem VS (K):∀C∈["int","bool","list","tuple","dict","str"],∀T∈["NoneType","bool","int","str","tuple","list","dict"],qc K (.type T) (.type C)=some (T == C||(T == "bool" && C == "int")):=by
 intro C hC T hT;simp only[bN,bf,or_false] at hC hT;rcases hC with rfl |rfl |rfl |rfl |rfl |rfl<;>rcases hT with rfl |rfl |rfl |rfl |rfl |rfl |rfl<;>kernel_rfl
theorem Pg (C:String) (hC:C∈["int","bool","list","tuple","dict","str"]) {pins:@A} {s:aL} {σ:L2.St} {H:Hp} {G:Gp} {v:V} {d:D} {u:Value} {k:Bool} {Q:DK} (I:@o) (ab:j7 X.K H G) (ru:RelV v u) (r:cI X.K H v d)
  (hk:TV C d G=some k) (q:Q (.bl k) G):wpAny @r X.A (call (.builtin "isinstance") [u,.type C]) (qa X pins σ H G Q) X.xe s:=by
 have fin:∀tk,qa X pins σ H G Q (.bool k) {s with toks:=tk}:=λtk=>⟨.bl k,H,.bl k,G,I.tok _,.refl ab,rfl,.bl k,q⟩;have hl:∀T∈["NoneType","bool","int","str","tuple","list","dict"],k=(T == C||(T == "bool" && C == "int"))->qc X.K (.type T) (.type C)=some k:=λT hT e=>by rw[VS X.K C hC T hT,e]
 have tl:∀{l:Addr} {o:Obj},s.heap.get? l=@j->o.cls=.type "list"->k=("list" == C||("list" == "bool" && C == "int"))->v=.ref l->wpAny @r X.A (call (.builtin "isinstance") [u,.type C]) (qa X pins σ H G Q) X.xe s:=λho hc e ev=>by
  subst ev;cases ru;exact eA PySem.W.kitx_list I.sD ⟨_,ho,hc⟩ (hl "list" (@c) e) (λz=>nomatch z) fin
 have td:∀{l:Addr} {o:Obj},s.heap.get? l=@j->o.cls=.type "dict"->k=("dict" == C||("dict" == "bool" && C == "int"))->v=.ref l->wpAny @r X.A (call (.builtin "isinstance") [u,.type C]) (qa X pins σ H G Q) X.xe s:=λho hc e ev=>by
  subst ev;cases ru;exact eA PySem.W.kitx_dict I.sD ⟨_,ho,hc⟩ (hl "dict" (@c) e) (λz=>nomatch z) fin
 have oP:∀P:String->Prop,(∀C'∈["int","bool","list","tuple","dict","str"],P C')->P C:=λP h=>h C hC;cases r with
 | ff=>
  cases ru;have e:k=("NoneType" == C||("NoneType" == "bool" && C == "int")):=by
   have:k=false:=(bV hk).symm;rw[this];exact oP (λC=>false=("NoneType" == C||("NoneType" == "bool" && C == "int"))) (@c)
  exact eA QV I.sD iB (hl _ (@c) e) (λz=>nomatch z) fin
 | bl y=>
  cases ru;have e:k=("bool" == C||("bool" == "bool" && C == "int")):=by
   have:k=(C == "bool" || C == "int"):=(bV hk).symm;rw[this];exact oP (λC=>(C == "bool" || C == "int")=("bool" == C||("bool" == "bool" && C == "int"))) (@c)
  exact eA PySem.W.kitx_bool I.sD iB (hl _ (@c) e) (λz=>nomatch z) fin
 | int y=>
  obtain⟨t,rfl⟩:=ru;have e:k=("int" == C||("int" == "bool" && C == "int")):=by
   have:k=(C == "int"):=(bV hk).symm;rw[this];exact oP (λC=>(C == "int")=("int" == C||("int" == "bool" && C == "int"))) (@c)
  exact eA PySem.W.kitx_int I.sD iB (hl _ (@c) e) (λz=>nomatch z) fin
 | str y=>
  obtain⟨t,rfl⟩:=ru;have e:k=("str" == C||("str" == "bool" && C == "int")):=by
   have:k=(C == "str"):=(bV hk).symm;rw[this];exact oP (λC=>(C == "str")=("str" == C||("str" == "bool" && C == "int"))) (@c)
  exact eA PySem.W.kitx_str I.sD iB (hl _ (@c) e) (λz=>nomatch z) fin
 | tup hq rs=>
  cases ru;have e:k=("tuple" == C||("tuple" == "bool" && C == "int")):=by
   have:k=(C == "tuple"):=(bV hk).symm;rw[this];exact oP (λC=>(C == "tuple")=("tuple" == C||("tuple" == "bool" && C == "int"))) (@c)
  obtain⟨b9,rv,⟨o,h1,h2,_⟩,hz⟩:=I.tuple (.of hq);exact eA PySem.W.kitx_tuple I.sD ⟨o,h1,h2⟩ (hl _ (@c) e) (λz=>nomatch z) fin
 |dR hq rs=>
  obtain⟨b9,rv,pl,hz⟩:=I.list hq.sq;obtain⟨o,h1,h2,_⟩:=pl.isList;refine tl h1 h2 ?_ rfl;have:k=(C == "list"):=(bV hk).symm;rw[this];exact oP (λC=>(C == "list")=("list" == C||("list" == "bool" && C == "int"))) (@c)
 | uc h rs=>
  have e:k=("dict" == C||("dict" == "bool" && C == "int")):=by
   have:k=(C == "dict"):=(bV hk).symm;rw[this];exact oP (λC=>(C == "dict")=("dict" == C||("dict" == "bool" && C == "int"))) (@c)
  obtain⟨_,_,vs,_,ob,_,_,h1,h2,_⟩:=uX I.c8 (.inr ⟨_,h⟩);exact td h1 h2.1 e rfl
 | t9 h rs=>
  have e:k=("dict" == C||("dict" == "bool" && C == "int")):=by
   have:k=(C == "dict"):=(bV hk).symm;rw[this];exact oP (λC=>(C == "dict")=("dict" == C||("dict" == "bool" && C == "int"))) (@c)
  obtain⟨_,_,ys,_,ob,_,_,h1,h2,_⟩:=zq I.c8 (.inr ⟨_,h⟩);exact td h1 h2.1 e rfl
 |exc h=>simp[TV] at hk
 |Cr h _=>simp[TV] at hk
 |Dp _ _ _ _=>simp[TV] at hk
 | ref l=>
  unfold TV at hk;dsimp only at hk;cases hg:G l with
  |none=>rw[hg] at hk;cases hk
  | some g=>
   rw[hg] at hk;cases g with
   |lst ds=>
    obtain⟨vs,hv,rs⟩:=ab.lst hg;obtain⟨b9,rv,pl,hz⟩:=I.list (.of hv);obtain⟨o,h1,h2,_⟩:=pl.isList;refine tl h1 h2 ?_ rfl;have:k=(C == "list"):=(bV hk).symm;rw[this];exact oP (λC=>(C == "list")=("list" == C||("list" == "bool" && C == "int"))) (@c)
   |ins _ _=>cases hk
   |Ia _=>cases hk
   | jG bx=>
    have e:k=("dict" == C||("dict" == "bool" && C == "int")):=by
     have:k=(C == "dict"):=(bV hk).symm;rw[this];exact oP (λC=>(C == "dict")=("dict" == C||("dict" == "bool" && C == "int"))) (@c)
    rcases ab l _ hg with ⟨kv,hv,rs⟩ |⟨kv,hv,rs⟩
    .obtain⟨_,_,vs,_,ob,_,_,h1,h2,_⟩:=K1 I.c8 hv;exact td h1 h2.1 e rfl
    .obtain⟨_,_,ys,_,ob,_,_,h1,h2,_⟩:=Ua I.c8 hv;exact td h1 h2.1 e rfl
theorem Ah (C) (hC:C∈["int","bool","list","tuple","dict","str"])   (hg:Gl X "isinstance") (hm:X.mg "isinstance"=none) (SI:Gl X y) (YM:X.mg y=none) (hvC:dj y=some (.type C)) (ha:dw X a ta) (hn:autoParam (y≠"__name__") Ad._auto_1) (qw:autoParam ((y == ("__debug__":Str))=false) Ad._auto_1)
  (he:autoParam (aT [a,.Name y py] X.env=(false,eval a X.env)::aT [.Name y py] X.env) Ar._auto_1) (fX:autoParam ((eW pos (aT [HQ y py] X.env)).any (·.1)=false) Ar._auto_1) (PG:autoParam (aT [.Name y py] X.env=[(false,eval (.Name y py) X.env)]) Ar._auto_1):
  dw X (.Call (.Name "isinstance" p) [a,.Name y py] [] pos) (E8 C ta):=by
 ext c;refine eG (oJ I.inv hg hm md ?_);refine hV ?_ he fX;rw[he];show wpAny _ _ (D7 ((false,eval a X.env)::eW pos (aT [.Name y py] X.env))) _ _ s;refine gM (j0 ha hE I h λv H1 d G1 u s1 I1 m1 r1 jd q1=>?_);rw[PG];show wpAny _ _ (D7 [(false,eval (.Name y py) X.env)]) _ _ s1;refine gM (oJ I1.inv SI YM hvC (rJ ?_) hn qw)
 try dsimp only at q1
 split at q1
 .rename_i k hk;exact fY (Pg C hC I1.inv I1.ab r1 jd hk q1) λ_ _ z=>z.trans m1
 .exact q1.elim
end
section
variable {X:Cx} {a b c e o:Expr} {es:List Expr} {ta tb tc te to:fh} {t:sV} {pos p p2 apos mB:Pos} {x name:Str} {id T:String}
def JN(X:Cx)(id:String)(r:D->@i->Gp->DK->Prop):Prop :=
 ∀(pins:@A) (s:aL) (σ:L2.St) (H:Hp) (G:Gp) (x:V) (d:D) (xs:List V) (ds:@i) (v:Value) (us:@D) (Q:DK),@o->j7 X.K H G->RelV x v->cI X.K H x d->Vals xs us->bq X.K H xs ds->r d ds G Q ->
  wpAny @r X.A (call (.builtin id) (v::us)) (qa X pins σ H G Q) X.xe s
def Th(X:Cx)(T:String)(ty:D->@t):Prop:=∀(pins:@A) (s:aL) (σ:L2.St) (H:Hp) (G:Gp) (x:V) (d:D) (v:Value),@o->j7 X.K H G->RelV x v->cI X.K H x d->ty d G ->
  s.TypeIs v T/\∀a,v=@m->∃ob,s.heap.get? a=some ob/\ob.dict=none
theorem vY:Th X "list" pY:=by
 intro pins s σ H G x d v I ab r rd h;cases rd with
 |dR hq rs=>exact Ed I r (.inl ⟨rfl,_,hq.sq⟩)
 |ref l=>
  unfold pY at h;dsimp only at h;split at h
  .rename_i ds hg;obtain⟨vs,hv,rs⟩:=ab.lst hg;exact Ed I r (.inl ⟨rfl,vs,.of hv⟩)
  .exact h.elim
 |_=>exact bE h
theorem NQ:Th X "dict" XG:=by
 intro pins s σ H G x d v I ab r rd h;cases rd with
 |uc q rs=>
  cases r;obtain⟨t1,t2,_⟩:=Ph I (.inl ⟨_,.inr ⟨_,q⟩⟩);exact⟨t1,t2⟩
 |t9 q rs=>
  cases r;obtain⟨t1,t2,_⟩:=Ph I (.inr ⟨_,.inr ⟨_,q⟩⟩);exact⟨t1,t2⟩
 | ref l=>
  unfold XG at h;dsimp only at h;split at h
  .rename_i bx hg;rcases ab l _ hg with ⟨kv,hv,rs⟩ |⟨kv,hv,rs⟩
   .exact Ed I r (.inr (.inr (.inl ⟨rfl,.inl ⟨kv,hv⟩⟩)))
   .exact Ed I r (.inr (.inr (.inl ⟨rfl,.inr ⟨kv,hv⟩⟩)))
  .exact h.elim
 |_=>exact bE h
theorem Vr   (pa:PlainAttrs T) (slot:Slot T name id) (hty:typeOf (.builtin id)=pure (.type "method_descriptor")) (ht:Th X T ty) (hm:JN X id r) (ho:dw X o to) (ha:rg X (e::es) t)
  (GQ:autoParam (ye o name X.env (eval o X.env)=eval o X.env) Ar._auto_1)
  (SJ:autoParam (((eW mB (aT (e::es) X.env)).all (λx=>!x.1)&&(Nj mB (yc [] X.env)).all (λx=>x.1.isSome)
   && decide ((e::es).length+([]:List Keyword).length+(if([]:List Keyword).isEmpty then 0 else 1)<30))=true) Ar._auto_1)
  (PA:autoParam ((apos.endLine == mB.line)=true) Ar._auto_1) (hs:autoParam @af Ar._auto_1) (Jq:autoParam ((eW mB (aT es X.env)).any (·.1)=false) Ar._auto_1):
  dw X (.Call (.Attribute o name apos) (e::es) [] mB) (iZ ty r to t):=by
 ext c;refine wpAny_Call_method_late GQ SJ PA rfl (j0 ho hE I h ?_);rintro x H1 d G1 v s1 I1 m1 r1 jd ⟨hy,q1⟩;obtain⟨h1,h2⟩:=ht pins s1 σ H1 G1 x d v I1.inv I1.ab r1 jd hy;refine⟨T,id,pa,slot,hty,h1,h2,?_⟩;have hA:=ha mB E pins s1 σ H1 τ G1 _ hE I1 q1;rw[hs] at hA ⊢;refine Calls.callWith_builtin (by show(false||(eW mB (aT es X.env)).any (·.1))=false;rw[Jq]<;>rfl) (QG ?_);exact fY hA (by rintro us s2 ⟨vs,H2,ds,G2,j6,m2,r2,Ey,q2⟩;exact fY (hm pins s2 σ H2 G2 x d vs ds v us Q j6 m2.ab r1 (jd.mono (m2.kp I1.ab)) r2 Ey q2) λ_ _ z=>z.trans (m1.trans m2))
theorem Je:JN X "list.append" du:=by
 intro pins s σ H G x d xs ds v us Q I ab rx rd Rq Rw q;unfold du at q;split at q
 .rename_i l d';cases rd;obtain⟨w,rfl,vh⟩:=Rw.one;split at q
  .rename_i zs hg;obtain⟨hz,q⟩:=q;obtain⟨vs,hv,rs⟩:=ab.lst hg;exact fY (Dx pins s σ H _ _ v us (zR X.K H G Q) I rx Rq ⟨l,vs,w,rfl,rfl,hv,by rw[rs.length,cX];exact hz,_,_,.putL ab hg hv (rs.append (.cons vh .nil)),.ff,q⟩) λ_ _ z=>.of z
  .exact q.elim
 .exact q.elim
theorem JA(l)(xs)(n)(b)(ys)(n2)(dd)(sl)(TZ:¬(!xs.isEmpty&&jH (xs.size+ys.size))=true)(hx:xs.size<=bB)(hxy:xs.size+ys.size<=bB+1):
  Meets (Builtin.«list.extend» ⟨[.ref l,.ref b],[]⟩) (λ_ R s=>s.heap.get? l=some {cls:=.type "list",dict:=none,data:=.seq xs n,slots:=#[]}/\@Z=some {cls:=.type "list",dict:=dd,data:=.seq ys n2,slots:=sl}/\R (.ok (.ret JT)) {s with heap:=s.heap.update l (yQ λx=>x++ys),toks:=s.toks}) :=
 .of_wp λprog w A R s h=>by
  obtain⟨hp,g,d,tk,os⟩:=s;obtain⟨h1,h2,h3⟩:=h;have e1:=AutoSeq1.idx_int;have e2:=FY;have e3:=AutoSeq1.sub_list_list;have e4:=AutoSeq1.sub_tuple_list;have e5:=AutoSeq1.sub_list_tuple;have hz':(xs++ys).size<=bB+1:=by rw[Array.size_append];exact hxy
  wp_walk using (AF h1 rfl (hz:=hx) (_hz':=hz')),AG h1,AG h2
  exact⟨_,rfl,h3⟩
theorem Jd:JN X "list.extend" tM:=by
 intro pins s σ H G x d xs ds v us Q I ab rx rd Rq Rw q;unfold tM at q;split at q
 .rename_i l y;cases rd;obtain⟨w,rfl,vh⟩:=Rw.one;obtain⟨u,rfl,ru⟩:=Rq.one;split at q
  .rename_i zs ys hg Wc;obtain⟨hz,q⟩:=q;obtain⟨vs,hv,rs⟩:=ab.lst hg;obtain⟨b,ws,ug,rfl,LL,Tz,hb,_⟩:=nE I ab ru vh Wc;cases rx;obtain⟨z,b9,n,r,hl,e⟩:=I.VO hv;obtain⟨⟨cl,dd,dt,sl⟩,ho,FF,n2,hdt⟩:=hb;simp only at FF hdt;subst FF hdt;have h1:=LL.length;have h2:=Tz.length;have h3:=rs.length;have h4:=r.length;have h5:bB=16777216:=cX;have h6:SZ=16777216:=rfl;have hsz:b9.toArray.size+ug.toArray.size<=bB:=by rw[aZ,aZ];lia
   have TZ:¬ (!b9.toArray.isEmpty&&jH (b9.toArray.size+ug.toArray.size))=true:=by
    rw[OZ hsz,J3];exact hU
   refine call_meets F.slot_list_extend ⟨_,e,rfl⟩ F.entry_list_extend (F.args_list_extend_2 _ _) (JA l b9.toArray n b ug.toArray n2 dd sl TZ (by rw[aZ];lia) (@e)) ⟨e,ho,?_⟩;refine⟨.ff,_,.ff,_,I.VP (its':=b9++ug) hv e @k (r.append LL) ?_,.putL ab hg hv (rs.append Tz),rfl,.ff,q⟩;rw[aM];lia
  .exact q.elim
 .exact q.elim
theorem V0{b9:@D}(hk:k<=b9.length):(b9.toArray.extract 0 k).push u++b9.toArray.extract k=(b9.take k++u::b9.drop k).toArray:=by
 simp[List.extract_eq_take_drop];rw[jc (by rw[cZ];lia)]
theorem Jc:JN X "list.insert" tK:=by
 intro pins s σ H G x d xs ds v us Q I ab rx rd Rq Rw q;unfold tK at q;split at q
 .rename_i l i d';cases rd;obtain⟨w,w2,rfl,LK,XX⟩:=Rw.two;cases LK;split at q
  .rename_i zs hg;obtain⟨h0,h1,hz,q⟩:=q;obtain⟨vs,hv,rs⟩:=ab.lst hg;obtain⟨u1,u2,rfl,⟨t,rfl⟩,U3⟩:=vals2 Rq;cases rx;obtain⟨z,b9,n,r,hl,e⟩:=I.VO hv;have sz:bB=16777216:=cX;have hlen:b9.length=zs.length:=by rw[<-hl,rs.length]
   have hs:SZ=16777216:=rfl;have abH:¬ (!Builtin.List.listFitsIndex i)=true:=by
    rw[fitsIndex_both (@e) (@e)];exact hU
   refine call_meets F.slot_list_insert ⟨_,e,rfl⟩ F.entry_list_insert (F.args_list_insert_3 _ _ _)
    (AutoSeq1.list_insert_list_int_val_1 l b9.toArray n i t u2 abH (by rw[aZ];lia)) ⟨e,?_⟩
   have hi:i.toNat<=b9.length:=@e
   refine⟨.ff,_,.ff,_,I.VP (its':=b9.take i.toNat++u2::b9.drop i.toNat) (ys:=vs.take i.toNat++w2::vs.drop i.toNat) hv e ?_ ((r.take _).append (.cons U3 (r.drop _))) ?_,.putL ab hg hv ((rs.take _).append (.cons XX (rs.drop _))),rfl,.ff,q⟩
   .dsimp only;have e1:(if i<0 then(i+(b9.toArray.size:Int)).toNat else min i.toNat b9.toArray.size)=i.toNat:=by
     rw[if_neg (@e),aZ];lia
    rw[e1];exact V0 hi
   .rw[aM,ai,cz,cZ];lia
  .exact q.elim
 .exact q.elim
theorem Mm (hu : X.A.units + 64<cLine):JN X "list.index" oI := by
  intro pins s σ H G x d xs ds v us Q I ab rx rd Rq Rw q;unfold oI at q;split at q
  . rename_i d'
    obtain⟨hy,zs,sn,ss,hi,s1,s2,q⟩ := q;obtain⟨w,rfl,vh⟩ := Rw.one;obtain⟨u,rfl,ru⟩ := Rq.one;have lists:∃l vs b9,v=.ref l/\Vals vs b9/\bq X.K H vs zs/\s.heap.IsList l b9.toArray/\vs.length<=bB := by
      cases rd with
      | dR hq rs=>
        cases hi;cases rx;obtain⟨b9,rv,pl,hz⟩ := I.list hq.sq;exact⟨_,_,b9,rfl,rv,rs,pl.isList,hz⟩
      | ref l=>
        unfold itemsOf at hi;dsimp only at hi;cases hg:G l with
        |none=> rw[hg] at hi;cases hi
        | some g=>
          rw[hg] at hi;cases g with
          | lst ds=>
            cases hi;cases rx;obtain⟨vs,hv,rs⟩ := ab.lst hg;obtain⟨b9,rv,pl,hz⟩ := I.list (.of hv);exact⟨_,_,b9,rfl,rv,rs,pl.isList,hz⟩
          |ins _ _=> cases hi
          |Ia _=> cases hi
          |jG _=> cases hi
      |_=> exact bE hy
    obtain⟨l,vs,b9,rfl,rv,rs,hl,hz⟩ := lists;obtain⟨as,ra⟩ := (jU I ab s1).1 w u vh ru;obtain⟨bs,rb⟩ := (jU I ab s2).2 zs ss (.inl @R) vs b9 rs rv;have d2 := K5 (n := 7) s2;have n2:EF ss=true := s2.nr;have Br := wZ _ n2;have QN:X.A.units + 1 + min (FC (xZ ss)) (pd sn).depth<cLine := @e
    have Oh:qW s.heap b9.toArray.toList (xZ ss) bs := by simpa using rb
    have mp := SeqAt.readsAll_map _ _ _ Br Oh;split at q
    . rename_i k hk
      obtain⟨DE,abE,Nu⟩ := List.findIdx?_eq_some_iff_getElem.mp hk;have pdl:∀(zz:@i),(xZ zz).length=zz.length := by
        intro zz;induction zz with
        |nil=> rfl
        |cons a r ih=> exact congrArg Nat.succ ih
      have hlen:b9.length=ss.length := by
        have := congrArg cU mp;rw[ax,pdl] at this;simpa using this
      have at_ : ∀ (m : Nat) (h1:m<b9.toArray.size) (h2:m<ss.length),vR (C9 s.heap b9.toArray[m]) (pd sn)=jf ss[m] sn := by
        intro m h1 h2;have e1:(b9.toArray.toList.map (C9 s.heap))[m]?=(xZ ss)[m]? := by rw[mp]
        have pdg:∀(zz:@i) (m:Nat) (h:m<zz.length),(xZ zz)[m]?=some (pd zz[m]) := by
          intro zz;induction zz with
          |nil=> intro m h;simp at h
          | cons a r ih=> intro m h;cases m with
            |zero=> rfl
            |succ m=> exact ih m (Nat.lt_of_succ_lt_succ h)
        rw[pdg ss m h2] at e1;have h1':m<b9.length := by simpa using h1
        have e2:C9 s.heap b9.toArray[m]=pd ss[m] := by
          simpa[h1'] using e1
        rw [e2];have nrm:nr ss[m]=true := by
          have:∀(zz:@i) (m:Nat) (h:m<zz.length),EF zz=true -> nr zz[m]=true := by
            intro zz;induction zz with
            |nil=> intro m h;simp at h
            | cons a r ih => intro m h hn; have MI:nr a=true/\EF r=true := (j4).mp hn
                             cases m with
                             |zero=> exact MI.1
                             |succ m=> exact ih m (by simpa using h) MI.2
          exact this ss m h2 n2
        exact BN _ _ nrm s1.nr
      have sz:bB=16777216 := cX;have hvl:vs.length=b9.length := rv.length;obtain⟨⟨cls,dd,data,sl⟩,ho,hc,n,hd⟩ := id hl;simp only at hc hd;subst hc hd;have hki:k<b9.toArray.size := by rw[aZ];lia
      refine call_meets Ip ⟨_,ho,rfl⟩ PySem.F.entry_list_index (PySem.F.args_list_index_2 _ _)
        (SeqAt.list_indexAt l b9.toArray n dd sl u (λy=> vR (C9 s.heap y) (pd sn)) k hki (@e) ?_ ?_) ⟨ho,nI Oh ra Br (oK _ s1.nr) QN,?_⟩
      . rw[at_ k hki DE];exact abE
      . intro m hm hmk
        have hm2:m<ss.length := @e
        rw[at_ m hm hm2];simpa using Nu m hmk
      . exact⟨.int k,H,.int k,G,I.tok _,.refl ab,⟨_,rfl⟩,.int _,q⟩
    . exact q.elim
  . exact q.elim
theorem R8:dw X (.Dict [] [] pos) sU:=by
 ext c;exact fY (OJ pins s σ H (zR X.K H G Q) I.inv λp hp=>⟨_,_,.new I.ab hp (.dk cR .nil),.ref _,h p (I.ab.free hp)⟩) λ_ _ z=>.of z
end
noncomputable def gi(env:Env):List (Str×um)->List (Str×Addr)->List (Str×Addr)
 |[],acc=>acc
 |(n,k)::r,acc=>if k=.free then gi env r ((n,(env.cells.lookup n).getD 0)::acc) else gi env r acc
theorem vG(env)(f)(hf:∀n k c,f (n,k) c=if(k == kX)=true then(cellOf env n >>= λa=>pure (t4 ((n,a)::c))) else pure (t4 c)):
  ∀(ns:List (Str×um)) (acc:List (Str×Addr)),(∀x∈ns,x.2=.free->∃c,env.cells.lookup x.1=some c)->forIn ns acc f=(pure (gi env ns acc):Sem (List (Str×Addr)))
 |[],acc,_=>rfl
 | (n,k)::r,acc,h=>by
  rw[List.forIn_cons,hf];have hr:∀x∈r,x.2=.free->∃c,env.cells.lookup x.1=some c:=λx hx=>h x (aP _ hx);by_cases hk:k=.free
  .subst hk;obtain⟨c,hc⟩:=h (n,.free) aQ rfl;have ec:cellOf env n=pure c:=by unfold cellOf;rw[hc]
   rw[if_pos (@c),ec,pure_bind,pure_bind];show forIn r ((n,c)::acc) f=_;rw[vG env f hf r _ hr];show _=(pure (gi env ((n,.free)::r) acc):Sem (List (Str×Addr)));rw[gi,if_pos rfl,hc];rfl
  .rw[if_neg (by simpa using hk),pure_bind];show forIn r acc f=_;rw[vG env f hf r _ hr];show _=(pure (gi env ((n,k)::r) acc):Sem (List (Str×Addr)));rw[gi,if_neg hk]
theorem CN(h:∀x∈scope.names,x.2=.free->∃c,env.cells.lookup x.1=some c):closureFor scope env=pure (gi env scope.names []):=by
 unfold closureFor;dsimp only;rw[vG env _ (λn k c=>?_) scope.names [] h]
 .rfl
 .by_cases hk:(k == kX)=true
  .simp only[hk,if_true]
  .simp only[hk,if_false,ag]
theorem v5:∀{ns:List (Str×um)} {acc:List (Str×Addr)},(∀y∈ns,y.2=.free->∃c,env.cells.lookup y.1=some c)->(∀y c,acc.lookup y=some c->env.cells.lookup y=some c)->(gi env ns acc).lookup x=some c->env.cells.lookup x=some c
 |[],_,_,ha,e=>ha _ _ e
 | (n,k)::r,acc,h,ha,e=>by
  have hr:∀y∈r,y.2=.free->∃c,env.cells.lookup y.1=some c:=λy hy=>h y (aP _ hy);unfold gi at e;by_cases hk:k=.free
  .rw[if_pos hk] at e;refine v5 hr (λy c' q=>?_) e;rw[nS] at q;by_cases hy:(y == n)=true
   .rw[hy] at q;have e1:y=n:=eq_of_beq hy;subst e1;obtain⟨c0,hc0⟩:=h (y,k) aQ hk;rw[hc0] at q ⊢;exact q
   .have V1:(y == n)=false:=by simpa using hy
    rw[V1] at q;exact ha y c' q
  .rw[if_neg hk] at e;exact v5 hr ha e
theorem qj:∀{ns:List (Str×um)} {acc:List (Str×Addr)},((x,kX)∈ns\/∃c,acc.lookup x=some c)->∃c,(gi env ns acc).lookup x=some c
 |[],_,h=>by rcases h with h |h;exact absurd h @k;exact h
 | (n,k)::r,acc,h=>by
  unfold gi;have grow:∀a,(∃c,acc.lookup x=some c)->∃c,((n,a)::acc).lookup x=some c:=λa Py=>by
   obtain⟨c,hc⟩:=Py;rw[nS];by_cases hy:(x == n)=true
   .rw[hy];exact⟨_,rfl⟩
   .have V1:(x == n)=false:=by simpa using hy
    rw[V1];exact⟨c,hc⟩
  by_cases hk:k=.free
  .rw[if_pos hk];refine qj ?_;rcases h with h |h
   .rcases List.mem_cons.mp h with e |h
    .injection e with e1 e2
     subst e1;exact .inr ⟨(env.cells.lookup x).getD 0,by rw[nS];simp⟩
    .exact .inl h
   .exact .inr (grow _ h)
  .rw[if_neg hk];refine qj ?_;rcases h with h |h
   .rcases List.mem_cons.mp h with e |h
    .injection e with e1 e2
     exact absurd e2.symm hk
    .exact .inl h
   .exact .inr h
abbrev de(X:Cx)(N:@n)(scope:Scope)(C:Addr)(s:aL)(H:Hp)(fp:List Addr):Cx :=
 {X with env:=compEnvC scope (gi X.env scope.names []) C X.env,N:=N,iR:=s,Nd:=H,outer:=X.stack,stack:=X.stack,ex:=fp,fn:=λ_=>false,pn:=[],xe:=@f}
theorem wa(h:(Ik scope env).names.lookup x=some .cell\/(Ik scope env).names.lookup x=some .free)(qQ:∀y∈scope.names,y.2≠.cell):(x,kX)∈scope.names:=by
 have go:∀k,(Ik scope env).names.lookup x=some k->k=.cell\/k=.free->(x,kX)∈scope.names:=by
  intro k hk hkk;have hm:=iI hk;unfold Ik at hm;dsimp only at hm;obtain⟨⟨n,j⟩,hj,e⟩:=List.mem_map.mp hm;dsimp only at e;by_cases hc:(j == kX&&env.scope.kind == .function&&env.kindOf n == some .cell)=true
  .rw[if_pos hc] at e;rw[bg,bg] at hc;injection e with e1 e2
   have ej:j=.free:=eq_of_beq hc.1.1;rw[ej,e1] at hj;exact hj
  .rw[if_neg hc] at e;injection e with e1 e2
   subst e1;rcases hkk with r |r
   .exact absurd (e2.trans r) (qQ _ hj)
   .rw[e2.trans r] at hj;exact hj
 rcases h with h |h
 .exact go _ h (@E)
 .exact go _ h (.inr rfl)
section
variable {X:Cx} {N:@n} {scope:Scope} {fp:List Addr} {pins:@A} {σ:L2.St} {H:Hp} {s:aL} {C:Addr}
theorem WE(I:@o)(qQ:∀y∈scope.names,y.2≠.cell)(DG:scope.kind=.function)(nj:∀y∈scope.names,y.2=.free->X.env.kindOf y.1=some .cell)(hC:s.heap.objs.size<=C)(YT:∀b∈fp,pU X pins H b/\b<s.heap.objs.size):(de X N scope C s H fp).Ok:=by
 have FF:∀y∈scope.names,y.2=.free->∃c,X.env.cells.lookup y.1=some c:=λy hy hf=>I.ok.has _ (.inl (nj y hy hf));have UP:∀x c,(gi X.env scope.names []).lookup x=some c->@aj:=λx c e=>v5 FF (λy c q=>by simp at q) e;refine⟨I.ok.mod,DG,I.ok.glob,I.ok.blt,hC,λx y c h1 h2=>I.ok.inj x y c (UP x c h1) (UP y c h2),λx hx=>?_,λx c h=>absurd h @k,I.ok.hd,I.ok.frames,@E,λb hb=>?_,I.bs,cY I.ok.M5 I.sz,λb o e hb=>?_,λb hb=>?_,I.stack,I.Eg⟩
 .exact qj (.inl (wa hx qQ))
 .obtain⟨⟨f0,f1,f2,f3,f4,f5⟩,DE⟩:=YT b hb;exact⟨bO (bQ DE hC),λx c e=>f4 x c (UP x c e)⟩
 .obtain⟨⟨f0,f1,f2,f3,f4,f5⟩,DE⟩:=YT b hb;rcases f3 with f3 |f3
  .exact I.ok.IZ b o e f3
  .exact absurd (bQ (ba e) (cY I.ok.M5 f3)) (jY _)
 .obtain⟨⟨f0,f1,f2,f3,f4,f5⟩,DE⟩:=YT b hb;intro z;rcases List.mem_cons.mp (I.IC b z) with e |e
  .exact f1 e
  .exact f2 e
theorem S7{fr:List Nat}(I:@o)(ok:(de X N scope s.heap.objs.size s H fp).Ok)(Wd:∀y∈scope.names,y.2≠.cell)(nj:∀y∈scope.names,y.2=.free->X.env.kindOf y.1=some .cell)(hN:N.length=m+fr.length)
  (T4:∀j i x,fr[j]?=some i->N[m+j]?=some x->X.N[i]?=some x/\X.env.scope.names.lookup x=some .cell/\(Ik scope X.env).names.lookup x=some .cell) (vt:∃mm,uh.Ns s.heap.objs.size mm) (hk:∀b o,@Z=@j->uh.get? b=@j):
  Inv (de X N scope s.heap.objs.size s H fp) [] (aN m none++fr.map λi=>(σ[i]?).getD none) H {s with heap:=uh,toks:=tk}:=by
 have FF:∀y∈scope.names,y.2=.free->∃c,X.env.cells.lookup y.1=some c:=λy hy hf=>I.ok.has _ (.inl (nj y hy hf));have UP:∀x c,(gi X.env scope.names []).lookup x=some c->@aj:=λx c e=>v5 FF (λy c q=>by simp at q) e;obtain⟨mm,vt⟩:=vt;refine⟨ok,rfl,I.bare,Un.kept hk,⟨mm,vt,λi x v h1 h2 h3=>?_⟩,λx c e=>?_,I.c8.fresh (bb _),λx c e=>?_,λp hp=>absurd hp @k,I.c8.kept hk,?_⟩
 ·by_cases hi:i<m
  .rw[cm (by simpa using hi),lR] at h2;split at h2<;>cases h2
  .obtain⟨j,rfl⟩:∃j,i=m+j:=⟨i-m,@e⟩;rw[bL @k,fC,u6,dB] at h2;cases hj:fr[j]? with
   |none=>rw[hj] at h2;cases h2
   | some k=>
    rw[hj] at h2;have PO:(σ[k]?).getD none=some v:=by simpa using h2
    have YN:σ[k]?=some (some v):=by
     cases q:σ[k]? with
     |none=>rw[q] at PO;cases PO
     |some o=>rw[q] at PO;simp at PO;rw[PO]
    obtain⟨e1,e2,e3⟩:=T4 j k x hj h1;obtain⟨m0,hn0,hl0⟩:=I.loc;obtain⟨u,r,l⟩:=hl0 k x v e1 YN (.inr (.inl e2));refine⟨u,r,.inr ⟨.inl e3,?_⟩⟩;rcases l with ⟨l1,_⟩ |⟨_,c,hc,qQ⟩
    .have:X.env.scope.names.lookup x=some .local:=l1;rw[e2] at this;cases this
    .have hx:(x,kX)∈scope.names:=wa (.inl e3) Wd;obtain⟨c',KL⟩:=qj (env:=X.env) (x:=x) (ns:=scope.names) (acc:=[]) (.inl hx);have:=UP x c' KL;rw[hc] at this;have ec:c=c':=bV this;subst ec;obtain⟨oc,Xj,hd⟩:=qQ;exact⟨c,KL,oc,hk _ _ Xj,hd⟩
 .obtain⟨v,oc,Xj,hd⟩:=I.cell x c (UP x c e);exact⟨v,oc,hk _ _ Xj,hd⟩
 .exact I.jX x c (UP x c e)
 .rw[aM,fC,ax];exact hN.symm
theorem Fb{prog:bY}{w:World}{A:eI}{R:Result->aL->Prop}{s:aL}{elt target iter:Expr}{ifs:List Expr}{sc:Scope}{pos:Pos}{it acc:Value}{env:Env}(J:Nat->aL->Prop)
  (turn:∀n s,J n s->wpAny @T A (pyNext it) (λr eU=>match r with
   |none=>R (.ok .next) eU
   | some v=>wpAny @T A (AH target it v) (λ_ XO=>wpAny @T A (AL target env v) (λ_ iQ=>
     wpAny @T A (forIn ifs true λc r=>if r=true then do let ok ← isTrue c env (eval c env);pure (t4 ok) else pure (t4 r)) (λk ym=>
      if k=true then wpAny @T A (eval elt env) (λx LC=>wpAny @T A (call (.builtin "list.append") [acc,x]) (λ_ NY=>∃m,m<n/\J m NY) (@f) LC) (@f) ym
      else ∃m,m<n/\J m ym) (@f) iQ) (@f) XO) (@f) eU) (@f) s) (n:Nat) (h:J n s):
  u3 @T A (.compLoop (.ListComp elt [⟨target,iter,ifs,0⟩] sc pos) 0 it acc env) R s:=by
 have no:∀{α:Type} {t:Sem α} {Q:α->aL->Prop} {E:@M} {s:aL},wpAny @T A t Q (@f) s->wpAny @T A t Q E s:=λh=>iq h (λ_ _ q=>q) λ_ _ z=>z.elim;refine codeAny_loop rfl J (λn s hJ=>?_) n h;show wpAny _ A ((compTurn (.ListComp elt [⟨target,iter,ifs,0⟩] sc pos) 0 it acc env).onRaise (λx=>do Ny x env;theTreesLotGoes x)) _ _ s;refine wpAny_noted ?_;rw[compTurn_list];refine aR (FK (aR (fY (no (turn n s hJ)) λr eU uh=>?_)));cases r with
 |none=>exact bI uh
 |some v=>
  refine aR (fY (no uh) λ_ iQ Jp=>aR (fY (no Jp) λ_ ym aa6=>aR (fY (no aa6) λk LC Yz=>?_)));cases k with
  |false=>exact bI ⟨rfl,Yz⟩
  |true=>exact aR (aR (fY (no Yz) λx NY aa5=>aR (fY (no aa5) λ_ aeO aa4=>bI (bI ⟨rfl,aa4⟩))))
def CompEnd(X:Cx)(pins:@A)(σ:L2.St)(H:Hp)(G:Gp)(Q:DK)(C Dd:Addr)(s':aL):Prop :=
 ∃m H' G',Inv X pins σ H' s'/\s'.heap.Ns C m/\pU X pins H' C/\Mv X.K H G H' G'/\Q (.ref Dd) G'
inductive Tj (Xc:Cx):List Expr->Option yJ->Prop
 |none:Tj Xc [] none
 |some {c:Expr} {t:yJ}:CP Xc c t->Tj Xc [c] (some t)
theorem DU{τ:ik}{G G2:Gp}{H2:Hp}{s2:aL}{tg elt iter:Expr}{ifs:List Expr}{pos:Pos}{m:Nat}{fr:List Nat}{E:iM}{g:B1}{c:Option yJ}{te:fh}{J:It}{tn:Nat->Heap->Prop}{it:Addr}{ds:@i}{ok:@t}{Q:DK}{Rr:Value->Addr->Result->aL->Prop}{E0:@M}
  (hc:X.calm=true) (qQ:∀y∈scope.names,y.2≠.cell) (DG:scope.kind=.function) (nj:∀y∈scope.names,y.2=.free->X.env.kindOf y.1=some .cell) (hN:N.length=m+fr.length)
  (T4:∀j i x,fr[j]?=some i->N[m+j]?=some x->X.N[i]?=some x/\X.env.scope.names.lookup x=some .cell/\(Ik scope X.env).names.lookup x=some .cell)
  (hg:∀C s H fp,AD (de X N scope C s H fp) tg g) (hi:∀C s H fp,Tj (de X N scope C s H fp) ifs c) (he:∀C s H fp,dw (de X N scope C s H fp) elt te)
  (I:I2 X pins σ H2 τ G2 s2) (m2:Mv X.K H G H2 G2) (T:Turn X.prog X.w X.K tg J fp it tn) (QK:tn 0 s2.heap) (f2:∀b∈fp,pU X pins H2 b) (wk:Ui X.K J H2 ds ok) (hz:ds.length<=SZ)
  (hE0:∀ex G,¬ E ex G) (q:jO g c te ok ds E (vF m fr τ) G2 [] λxs G3=>jN G3 (.lst xs) Q)
  (fin:∀C s',CompEnd X pins σ H G Q C s2.heap.objs.size s'->Rr (.ref s2.heap.objs.size) C (.ok .next) s'):
  wpAny @r X.A (newList []) (λacc ym=>wpAny @r X.A (newFunctionEnv scope X.env.globals (gi X.env scope.names []) [] X.env.qual none .none (some X.env)) (λZl LC=>
   u3 @r X.A (.compStart (.ListComp elt [⟨tg,iter,ifs,0⟩] scope pos) 0 (.ref it) acc {Zl with scope:=Ik scope X.env}) (Rr acc Zl.locals) LC) E0 ym) E0 s2:=by
 have sz:bB=16777216:=cX;have yE:H2 s2.heap.objs.size=none:=I.inv.c8.fresh (bb _);have Wl:G2 s2.heap.objs.size=none:=I.ab.free yE;refine kP (wpAny_newFunctionEnv qQ (by intro y hy;simp at hy) (λuh Pz Pt=>?_) DG);dsimp only at Pz Pt ⊢;have I3:Inv X pins σ (upd H2 s2.heap.objs.size (.lst [])) {s2 with heap:=s2.heap.push {cls:=.type "list",data:=.seq ([]:@D).toArray},toks:=s2.toks}:=I.inv.aaV (ys:=[]) .nil (eB _);generalize hs3:({s2 with heap:=s2.heap.push {cls:=.type "list",data:=.seq ([]:@D).toArray},toks:=s2.toks}:aL)=s3 at I3;generalize Y6:upd H2 s2.heap.objs.size (.lst [])=H3 at I3;have eH3:∀b,b≠s2.heap.objs.size->H3 b=H2 b:=λb hb=>by rw[<-Y6,bP hb]
 have GP:s3.heap=s2.heap.push {cls:=.type "list",data:=.seq ([]:@D).toArray}:=by rw[<-hs3]
 have XU:s3.heap.objs.size=s2.heap.objs.size+1:=by rw[GP,i8]
 have PD:∀b∈fp,b<s2.heap.objs.size:=λb hb=>by
  obtain⟨o,e,_⟩:=T.obj _ _ QK b hb;exact ba e
 have YS:∀b∈fp,pU X pins H3 b/\b<s3.heap.objs.size:=λb hb=>by
  have Y2:=PD b hb;obtain⟨f0,f1⟩:=f2 b hb;exact⟨⟨by rw[eH3 b (bO Y2)];exact f0,f1⟩,bQ Y2 (by rw[XU];exact Nat.le_succ _)⟩
 have Xe:(@al).Ok:=WE I3 qQ DG nj (bb _) YS;have T1:∀b o,s3.heap.get? b=@j->uh.get? b=@j:=λb o e=>by
  have hb:b<s3.heap.objs.size:=ba e;refine Pt.extBut b o ?_ (aW _ ?_)
  .rw[<-GP];exact bO hb
  .rw[<-GP];exact e
 have abp:∃mm,uh.Ns s3.heap.objs.size mm:=⟨_,by rw[GP];exact Pz⟩;have I4:=S7 (tk:=s3.toks+([]:List (Str×Value)).length) I3 Xe qQ nj hN T4 abp T1;have aa1:Kp H2 H3:=by rw[<-Y6];exact .new yE
 have Ug:j7 X.K H3 G2:=by rw[<-Y6];exact(Mv.SH I.ab yE).ab
 have mv3:Mv X.K H2 G2 H3 G2:=by rw[<-Y6];exact .SH I.ab yE
 have ZG:Nh X.K H3 (aN m none++fr.map λi=>(σ[i]?).getD none) (vF m fr τ):=by
  refine⟨by unfold vF;rw[aM,aM,ax,ax,fC,fC],λi d h2=>?_⟩;unfold vF at h2;by_cases hi:i<m
  .rw[cm (by simpa using hi),lR] at h2;split at h2<;>cases h2
  .obtain⟨j,rfl⟩:∃j,i=m+j:=⟨i-m,@e⟩;rw[bL @k,fC,u6,dB] at h2;rw[bL @k,fC,u6,dB];cases hj:fr[j]? with
   |none=>rw[hj] at h2;cases h2
   | some k=>
    rw[hj] at h2;have PO:(τ[k]?).getD none=some d:=by simpa using h2
    have YN:τ[k]?=some (some d):=by
     cases qq:τ[k]? with
     |none=>rw[qq] at PO;cases PO
     |some o=>rw[qq] at PO;simp at PO;rw[PO]
    obtain⟨v,e1,e2⟩:=I.st.at' k d YN;exact⟨v,by simp[e1],e2.mono aa1⟩
 have hD3:H3 s2.heap.objs.size=some (.lst []):=by rw[<-Y6,cR]
 have XS:tn 0 uh:=T.keep _ _ _ QK λb hb o e=>T1 b o (by rw[GP];exact aW _ e);have NZ:∀{Hc:Hp},(∀b∈fp,Hc b=none)->∀b∈fp,pU (@al) [] Hc b:=λhn b hb=>
  ⟨hn b hb,(Xe.Zc b hb).1,Xe.MU b hb,.inl hb,λx c e=>(Xe.Zc b hb).2 x c e,λp hp=>absurd hp @k⟩
 have neD:∀b∈fp,b≠s2.heap.objs.size:=λb hb=>bO (PD b hb);have loop:u3 @r X.A (.compLoop (.ListComp elt [⟨tg,iter,ifs,0⟩] scope pos) 0 (.ref it) (.ref s2.heap.objs.size) (@al).env) (Rr (.ref s2.heap.objs.size) s3.heap.objs.size)
   {s3 with heap:=uh,toks:=s3.toks+([]:List (Str×Value)).length}:=by
  refine Fb (λn s'=>∃i QJ Hc NK Gc vH xE,I2 (@al) [] QJ Hc NK Gc s'/\Gc s2.heap.objs.size=none/\Hc s2.heap.objs.size=some (.lst vH)/\bq X.K Hc vH xE/\xE.length<=i/\Mv X.K H2 G2 Hc Gc/\tn i s'.heap/\(∀b∈fp,Hc b=none) /\
   n=ds.length-i/\i<=ds.length/\jO g c te ok (ds.drop i) E NK Gc xE λxs G3=>jN G3 (.lst xs) Q) ?_ ds.length
   ⟨0,_,H3,_,G2,[],[],⟨I4,ZG,Ug⟩,Wl,hD3,.nil,bb _,mv3,XS,λb hb=>by rw[eH3 b (neD b hb)];exact(f2 b hb).1,rfl,eB _,q⟩
  rintro n s4 ⟨i,QJ,Hc,NK,Gc,vH,xE,Ic,gD,hD,rA,hA,mc,stc,frc,rfl,hle,wq⟩;have kpc:Kp H2 Hc:=mc.kp I.ab;by_cases DE:i<ds.length
  .rw [J0 DE] at wq;obtain⟨Sm,wq⟩:=wq;obtain⟨go,yl⟩:=(wk i Hc Gc kpc Ic.ab Sm).1 ds[i] (by simp[DE]);refine fY (T.item (@al) rfl rfl rfl hc i [] s4 QJ Hc (@f) Ic.inv (NZ frc) stc go) ?_;rintro r s5 ⟨u,hr,h5⟩;subst hr;refine fY h5 ?_;rintro _ s6 ⟨x,H6,I6,r6,y6,st6,fr6⟩;obtain⟨rd6,m6⟩:=yl x H6 y6;have I6':=I6.pinned (NZ fr6) (T.obj _ _ st6);have J6:I2 (@al) ([]++sr fp s6.heap) QJ H6 NK Gc s6:=⟨I6',Ic.st.mono (m6.kp Ic.ab),m6.ab⟩;have back:∀{XD:L2.St} {H9:Hp} {W6:ik} {G9:Gp} {s9:aL} {aV:List V} {aD:@i},I2 (@al) ([]++sr fp s6.heap) XD H9 W6 G9 s9->Mv X.K H2 G2 H9 G9->G9 s2.heap.objs.size=none->H9 s2.heap.objs.size=some (.lst aV)->bq X.K H9 aV aD->aD.length<=i+1 ->
     (jO g c te ok (ds.drop (i+1)) E W6 G9 aD λxs G3=>jN G3 (.lst xs) Q)->∃mm,mm<ds.length-i/\∃i QJ Hc NK Gc vH xE,I2 (@al) [] QJ Hc NK Gc s9/\Gc s2.heap.objs.size=none/\Hc s2.heap.objs.size=some (.lst vH)/\bq X.K Hc vH xE/\xE.length<=i /\
      Mv X.K H2 G2 Hc Gc/\tn i s9.heap/\(∀b∈fp,Hc b=none)/\mm=ds.length-i/\i<=ds.length/\jO g c te ok (ds.drop i) E NK Gc xE λxs G3=>jN G3 (.lst xs) Q:=λ{XD H9 W6 G9 s9 aV aD} I9 m9 g9 h9 r9 l9 n9=>by
    refine⟨ds.length-(i+1),@e,i+1,XD,H9,W6,G9,aV,aD,⟨I9.inv.vV,I9.st,I9.ab⟩,g9,h9,r9,l9,m9,T.keep _ _ _ st6 λb hb o e=>(I9.inv.pin (b,o) (b4 _ (b4 _ (qr hb e)))).1,λb hb=>?_,rfl,DE,n9⟩;obtain⟨o,e,d⟩:=T.obj _ _ st6 b hb;exact(I9.inv.pin (b,o) (b4 _ (b4 _ (qr hb e)))).2.1
   have mc6:=mc.trans m6;have hD6:=m6.keep _ _ hD gD;refine fY (hg _ _ _ _ E _ s6 QJ H6 NK Gc x ds[i] u _ (Lk.none hE0) J6 r6 rd6 wq) ?_;rintro _ s7 ⟨Nr,H7,Nq,G7,I7,m7,q7⟩;have Z3:=m7.keep _ _ hD6.1 gD;have mc7:=mc6.trans m7;have rA7:=rA.mono ((m6.trans m7).kp Ic.ab);have Zd:∀(H8:Hp) (G8:Gp) (s8:aL),I2 (@al) ([]++sr fp s6.heap) Nr H8 Nq G8 s8->Mv X.K H7 G7 H8 G8->(te E Nq G8 λy G9=>jO g c te ok (ds.drop (i+1)) E Nq G9 (xE++[y]) λxs G3=>jN G3 (.lst xs) Q) ->
     wpAny @r X.A (eval elt (@al).env) (λy LC=>wpAny @r X.A (call (.builtin "list.append") [.ref s2.heap.objs.size,y]) (λ_ NY=>∃mm,mm<ds.length-i/\∃i QJ Hc NK Gc vH xE,I2 (@al) [] QJ Hc NK Gc NY/\Gc s2.heap.objs.size=none/\Hc s2.heap.objs.size=some (.lst vH)/\bq X.K Hc vH xE/\xE.length<=i /\
      Mv X.K H2 G2 Hc Gc/\tn i NY.heap/\(∀b∈fp,Hc b=none)/\mm=ds.length-i/\i<=ds.length/\jO g c te ok (ds.drop i) E NK Gc xE λxs G3=>jN G3 (.lst xs) Q) (@f) LC) (@f) s8:=λH8 G8 s8 I8 m8 q8=>by
    refine j0 (he _ _ _ _) (Lk.none hE0) I8 q8 λv H9 d9 G9 u9 s9 I9 m9 r9 rd9 q9=>?_;have m79:=m8.trans m9;have Z2:=m79.keep _ _ Z3.1 Z3.2;have rA9:=rA7.mono (m79.kp I7.ab);have mc9:=mc7.trans m79;refine fY (Dx (X:=@al) _ s9 Nr H9 (.ref s2.heap.objs.size) [v] _ [u9] (λ_ H'=>H'=upd H9 s2.heap.objs.size (.lst (vH++[v]))) I9.inv rfl (.cons r9 .nil)
     ⟨_,vH,v,rfl,rfl,Z2.1,by rw[rA.length,sz];have:SZ=16777216:=rfl;lia,rfl⟩) ?_
    rintro _ s10 ⟨v10,H10,I10,_,e10⟩;subst e10;have kpA:Kp H9 (upd H9 s2.heap.objs.size (.lst (vH++[v]))):=.putL Z2.1;have abA:j7 X.K (upd H9 s2.heap.objs.size (.lst (vH++[v]))) G9:=λa g' e=>by
     have ne:a≠s2.heap.objs.size:=by rintro rfl;rw[Z2.2] at e;cases e
     exact(I9.ab a g' e).mono kpA (bP ne)
    have mA:Mv X.K H2 G2 (upd H9 s2.heap.objs.size (.lst (vH++[v]))) G9:=⟨λa o e n=>by
      have ne:a≠s2.heap.objs.size:=eE e yE;obtain⟨e1,e2⟩:=mc9.keep a o e n;exact⟨by rw[bP ne];exact e1,e2⟩,λa n=>by
      by_cases ha:a=s2.heap.objs.size
      .rw[ha,cR];simp
      .rw[bP ha];exact mc9.i9 a n,abA⟩
    exact back ⟨I10,I9.st.mono kpA,abA⟩ mA Z2.2 cR ((rA9.append (.cons rd9 .nil)).mono kpA) (by rw[aM,dO];lia) q9
   cases hi s3.heap.objs.size s3 H3 fp with
   |none=>
    refine wpAny_tests_nil ?_;rw[if_pos rfl];exact Zd H7 G7 s7 I7 (.refl I7.ab) q7
   | some YX=>
    refine wpAny_tests_one (IB YX (Lk.none hE0) I7 q7 λk H8 G8 s8 I8 m8 q8=>?_);cases k with
    |true=>
     rw[if_pos rfl] at q8 ⊢;exact Zd H8 G8 s8 I8 m8 q8
    |false=>
     rw[if_neg hU] at q8 ⊢;have hD8:=m8.keep _ _ Z3.1 Z3.2;exact back I8 (mc7.trans m8) hD8.2 hD8.1 (rA7.mono (m8.kp I7.ab)) (@e) q8
  .have hn:ds.length<=i:=@e
   rw[NI hn] at wq;obtain⟨Sm,qn⟩:=wq;have stop:=(wk i Hc Gc kpc Ic.ab Sm).2 hn;refine fY (T.done (@al) rfl rfl rfl hc i [] s4 QJ Hc (@f) Ic.inv (NZ frc) stc stop) ?_;rintro r s5 ⟨hr,I5⟩;subst hr;refine fin s3.heap.objs.size s5 ?_;obtain⟨mm,abq,_⟩:=I5.loc;have hC5:Hc s3.heap.objs.size=none:=I5.free;have I6:Inv X pins σ Hc s5:=by
    obtain⟨h5,g5,d5,t5,o5⟩:=s5;have eo:o5=s3.os:=I5.os;subst eo;exact I3.call (h':=h5) (g':=g5) (d':=d5) (t':=t5) (ch:=fp) I5.base I5.c8 I5.bare λb hb=>by
     obtain⟨⟨f0,f1,f2',f3,f4,f5⟩,hl⟩:=YS b hb;exact⟨f3,f1,f4,f5⟩
   have mvF:Mv X.K H2 G2 Hc (ck Gc s2.heap.objs.size (.lst xE)):=⟨λa o e n=>by
     have ne:a≠s2.heap.objs.size:=eE e yE;obtain⟨e1,e2⟩:=mc.keep a o e n;exact⟨e1,by rw[dm ne];exact e2⟩,mc.i9,λa g' e=>by
     by_cases ha:a=s2.heap.objs.size
     .subst ha;rw[az] at e;cases e;exact⟨vH,hD,rA⟩
     .rw[dm ha] at e;exact Ic.ab a g' e⟩
   exact⟨mm,Hc,_,I6,abq,I3.MR (bb _) hC5,m2.trans mvF,qn _ gD⟩
 have all:u3 @r X.A (.compStart (.ListComp elt [⟨tg,iter,ifs,0⟩] scope pos) 0 (.ref it) (.ref s2.heap.objs.size) (@al).env) (Rr (.ref s2.heap.objs.size) s3.heap.objs.size)
   {s3 with heap:=uh,toks:=s3.toks+([]:List (Str×Value)).length}:=codeAny_compStart_list loop (T.self _ 0 _ _ _ XS loop)
 subst hs3;exact all
end
section
variable {X:Cx} {N:@n} {scope:Scope} {tg elt iter:Expr} {ifs:List Expr} {pos:Pos} {m:Nat} {fr:List Nat} {wi:Qv} {g:B1} {c:Option yJ} {te:fh}
structure Cg(X:Cx)(N:@n)(scope:Scope)(m:Nat)(fr:List Nat):Prop where
 cell:∀y∈scope.names,y.2≠.cell
 kind:scope.kind=.function
 names:∀y∈scope.names,y.2=.local->scope.names.lookup y.1=some .local
 free:∀y∈scope.names,y.2=.free->X.env.kindOf y.1=some .cell
 len:N.length=m+fr.length
 at':∀j i x,fr[j]?=some i->N[m+j]?=some x->X.N[i]?=some x/\X.env.scope.names.lookup x=some .cell/\(Ik scope X.env).names.lookup x=some .cell
theorem Cg.closed(k:Cg X N scope m fr)(I:@o):closureFor scope X.env=pure (gi X.env scope.names []) :=
 CN λy hy hf=>I.ok.has _ (.inl (k.free y hy hf))
theorem Ma(hc:X.calm=true)(k:Cg X N scope m fr)(hi:Hx X tg iter wi)(hg:∀C s H fp,AD (de X N scope C s H fp) tg g)(PB:∀C s H fp,Tj (de X N scope C s H fp) ifs c)(he:∀C s H fp,dw (de X N scope C s H fp) elt te)
  (hs:autoParam (∀x,gH iter X.env x=pure x) Ai._auto_1):dw X (.ListComp elt [⟨tg,iter,ifs,0⟩] scope pos) (eK m fr wi g c te):=by
 ext c;rw[eval_ListComp];refine wpAny_comprehension_free (use:=none) rfl hs (k.closed I.inv) k.kind k.names (fY (hi E pins s σ H τ G _ hE I h) λxv eU uh=>fY uh λTU iQ Jp=>?_);obtain⟨it,fp,tn,J,H2,G2,ds,ok,e,j6,m2,T,QK,f2,wk,hz,q⟩:=Jp;subst e;refine DU (Rr:=λacc C=>compPost @r X.A X.xe none (qa X pins σ H G Q) acc C) hc k.cell k.kind k.free k.len k.at' hg PB he (I.mv j6 m2) m2 T QK f2 wk hz (λ_ _ z=>z) q ?_;rintro C s' ⟨mm,H',G',I',vt,fpC,mv,q'⟩;refine⟨mm,vt,λh' GL=>?_⟩;obtain⟨f0,f1,_,f3,f4,f5⟩:=fpC;exact⟨.ref _,H',.ref _,G',I'.turned (t':=s'.toks) (λb o hb e=>GL.extBut b o hb e) f0 f1 f3 f4 f5,mv,rfl,.ref _,q'⟩
theorem Gw(hN:X.N.Nodup)(YB:X.N[i]?=some y)(hy:X.env.scope.names.lookup y=some .local)(hc:X.calm=true)(k:Cg X N scope m fr)(hi:Hx X tg iter wi)(hg:∀C s H fp,AD (de X N scope C s H fp) tg g)
  (PB:∀C s H fp,Tj (de X N scope C s H fp) ifs c) (he:∀C s H fp,dw (de X N scope C s H fp) elt te) (YC:autoParam (kd (.ListComp elt [⟨tg,iter,ifs,0⟩] scope pos) (some (.Name y py)) Ge.line X.env=pure true) Ar._auto_1)
  (hs:autoParam (∀x,gH iter X.env x=pure x) Ai._auto_1):ui X (.Assign [.Name y py] (.ListComp elt [⟨tg,iter,ifs,0⟩] scope pos) Ge) (aS (eK m fr wi g c te) (aE i)):=by
 intro E pins s σ H τ G D hE I h;rw[exec_Assign_Name_used _ _ _ _ YC];refine aR (FK (aR ?_));show wpAny _ X.A (do let _ ← comprehension (.ListComp elt [⟨tg,iter,ifs,0⟩] scope pos) scope X.env _ (newList []) false (eval iter X.env) (some (AL (.Name y py) X.env))) _ _ s;refine aR (fY (wpAny_comprehension_free (use:=some (AL (.Name y py) X.env)) (Q:=λ_ s'=>FI X pins H G D .next s') rfl hs (k.closed I.inv) k.kind k.names (fY (hi E pins s σ H τ G _ hE I h) λxv eU uh=>fY uh λTU iQ Jp=>?_)) λ_ s' hq=>bI (bI hq));obtain⟨it,fp,tn,J,H2,G2,ds,ok,e,j6,m2,T,QK,f2,wk,hz,q⟩:=Jp;subst e;refine DU (Rr:=λacc C=>compPost @r X.A X.xe (some (AL (.Name y py) X.env)) (λ_ s'=>FI X pins H G D .next s') acc C) hc k.cell k.kind k.free k.len k.at' hg PB he (I.mv j6 m2) m2 T QK f2 wk hz (λ_ _ z=>z) q ?_;rintro C s' ⟨mm,H',G',I',vt,fpC,mv,q'⟩;show wpAny @r X.A (AL (.Name y py) X.env (.ref iQ.heap.objs.size)) _ X.xe s';obtain⟨f0,f1,_,f3,f4,f5⟩:=fpC;refine wpAny_assign_Name (yn (v:=.ref iQ.heap.objs.size) I' hN YB (.inl hy) rfl (?_) (.inr hy));rintro s3 I3 ⟨a,hsb,ha⟩;have hCa:C≠a:=by
  rcases ha with rfl |ha
  .exact f1
  .exact λe=>f4 y a ha e.symm
 refine⟨mm,vt.sameBut hsb hCa,λh' GL=>?_⟩;exact⟨_,H',_,G',⟨I3.turned (t':=s3.toks) (λb o hb e=>GL.extBut b o hb e) f0 f1 f3 f4 f5,(I.st.mono (mv.kp I.ab)).set i (.ref _),mv.ab⟩,mv,q'⟩
theorem MO(h:∀E ds τ G Q,u E ds τ G Q->ds.length=n):∀E ds τ G Q,ez (aE i) u E ds τ G Q->ds.length=n+1 :=
 MP h (λ_ _ _ _ _ _ q k=>k _ _ q) λ_ _ _ _ q=>q
theorem range_all(bs:List Bool):(dG bs.length).all (λi=>bs.getD i true)=bs.all id:=by
 rw[Bool.eq_iff_iff,kT,kT];constructor
 .intro h b hb;obtain⟨i,hi,e⟩:=List.getElem_of_mem hb;have:=h i (List.mem_range.mpr hi);rw[d6,bo hi,e] at this;exact this
 .intro h i hi;have Wb:=List.mem_range.mp hi;rw[d6,bo Wb];exact h _ (vc Wb)
theorem AX{K:aB}:∀{vs:List V} {bs:List Bool} {b9:@D},bq K H vs (bs.map D.bl)->Vals vs b9->b9=bs.map xT
 |_,[],_,r,h=>by rw[aF] at r;rw[r.zero] at h;cases h;rfl
 | _,b::bs,_,r,h=>by
  rw[av] at r;cases r with
  | cons r1 r2=>
   cases r1;cases h with
   |cons h1 h2=>
    cases h1;rw[AX r2 h2];rfl
theorem Bj(I:@o)(ab:j7 X.K H G)(rx:RelV x v)(rd:cI X.K H x d)(hi:itemsOf d G=some zs):
  ∃l vs b9,v=.ref l/\Vals vs b9/\bq X.K H vs zs/\(s.heap.IsList l b9.toArray\/s.heap.IsTuple l b9.toArray)/\vs.length<=bB:=by
 cases rd with
 |dR hq rs=>
  cases hi;cases rx;obtain⟨b9,rv,pl,hz⟩:=I.list hq.sq;exact⟨_,_,b9,rfl,rv,rs,.inl pl.isList,hz⟩
 |tup hq rs=>
  cases hi;cases rx;obtain⟨b9,rv,pl,hz⟩:=I.tuple (.of hq);exact⟨_,_,b9,rfl,rv,rs,.inr pl,hz⟩
 | ref l=>
  unfold itemsOf at hi;dsimp only at hi;cases hg:G l with
  |none=>rw[hg] at hi;cases hi
  | some gg=>
   rw[hg] at hi;cases gg with
   |lst ds=>
    cases hi;cases rx;obtain⟨vs,hv,rs⟩:=ab.lst hg;obtain⟨b9,rv,pl,hz⟩:=I.list (.of hv);exact⟨_,_,b9,rfl,rv,rs,.inl pl.isList,hz⟩
   |ins _ _=>cases hi
   |Ia _=>cases hi
   |jG _=>cases hi
 |_=>cases hi
theorem M3 (hc:X.calm=true):nG X (.builtin "all") Qm:=by
 intro pins s σ H G xs ds us Q I ab rx rd q;unfold Qm at q;split at q
 .rename_i x;obtain⟨bs,hb,q⟩:=q;obtain⟨v,rfl,r⟩:=rd.one;obtain⟨u,rfl,ru⟩:=rx.one;obtain⟨l,vs,b9,rfl,rv,rs,hl,hz⟩:=Bj I ab ru r hb;have ei:=AX rs rv;have hlen:b9.length=bs.length:=by rw[ei,ax]
  have kO:∀{o:Obj},s.heap.get? l=@j->l≠s.heap.objs.size:=λe=>bO (ba e);have tr:TruthOf X.prog X.w X.A.in1 (λi v=>b9.toArray[i]?=some v) (λi=>bs.getD i true):=λi v s' Q' E' hv hq=>by
   subst ei;have V2:(bs.map xT)[i]?=some v:=by simpa using hv
   rw[dB] at V2;cases hbi:bs[i]? with
   |none=>rw[hbi] at V2;cases V2
   |some b=>
    rw[hbi] at V2;cases V2;dsimp only at hq;rw[d6,hbi] at hq;exact Ig hq
  have fin:∀h' tk,(∀b o,b∉[s.heap.objs.size]->@Z=@j->@X=@j)->qa X pins σ H G Q (.bool ((dG b9.toArray.size).all λi=>bs.getD i true)) {s with heap:=h',toks:=tk}:=λh' tk hk=>by
   rw[aZ,hlen,range_all];exact⟨.bl _,H,.bl _,G,I.kept λb o e=>hk b o (by simpa using bO (ba e)) e,.refl ab,rfl,.bl _,q⟩
  rcases hl with hl |hl
  .refine call_all_walk (Ih hl ?_);obtain⟨o,ho,FF,n,hd⟩:=id hl;exact⟨s.heap.objs.size,_,_,_,_,_,_,rfl,Walks.list (A:=X.A.in1) (show X.A.in1.handled=none from I.ok.hd hc) _ l (kO ho) b9.toArray,⟨⟨_,cj _ rfl,rfl,rfl⟩,⟨o,aW _ ho,FF,n,hd⟩⟩,tr,λh' tk hk=>fin h' tk λb o hb e=>hk b o hb (aW _ e)⟩
  .refine call_all_walk (FO hl ?_);obtain⟨o,ho,FF,n,hd⟩:=id hl;exact⟨s.heap.objs.size,_,_,_,_,_,_,rfl,Walks.tuple (A:=X.A.in1) (show X.A.in1.handled=none from I.ok.hd hc) _ l (kO ho) b9.toArray,⟨⟨_,cj _ rfl,rfl,rfl⟩,⟨o,aW _ ho,FF,n,hd⟩⟩,tr,λh' tk hk=>fin h' tk λb o hb e=>hk b o hb (aW _ e)⟩
 .exact q.elim
theorem Oq(h:ma X body t2)(hE:Lk X E):XA X body (λD σ H=>∃(τ:ik) (G:Gp) (D2:kN),Nh X.K H σ τ/\j7 X.K H G/\t2 E D2 τ G /\
  (∀iJ H' j5 G',Mv X.K H G H' G'->D2.nx j5 G'->D.nx iJ H')/\(∀v H' d G',Mv X.K H G H' G'->cI X.K H' v d->D2.rt d G'->D.rt v H')/\(∀τ G,¬ D2.bk τ G)/\(∀τ G,¬ D2.ct τ G)):=by
 rintro pins s σ H D I ⟨τ,G,D2,st,ab,q,k1,k2,k3,k4⟩;refine fY (h E pins s σ H τ G D2 hE ⟨I,st,ab⟩ q) λf s1 z=>?_;cases f with
 |next=>obtain⟨iJ,H',j5,G',J,mv,z⟩:=z;exact⟨iJ,H',J.inv,k1 iJ H' j5 G' mv z⟩
 |brk=>obtain⟨iJ,H',j5,G',J,mv,z⟩:=z;exact(k3 _ _ z).elim
 |cont=>obtain⟨iJ,H',j5,G',J,mv,z⟩:=z;exact(k4 _ _ z).elim
 |ret u=>obtain⟨v,iJ,H',d,G',J,mv,r,rd,z⟩:=z;exact⟨v,iJ,H',J,r,k2 v H' d G' mv rd z⟩
theorem F9{K:aB}(r:bq K H vs ds):Nh K H (L2.start Nn vs) (aJ Nn.length ds):=by
 unfold L2.start aJ;refine⟨by simp[r.length],λi d h=>?_⟩;by_cases hi:i<ds.length
 .rw[cm (by simpa using hi),dB] at h;cases hd:ds[i]? with
  |none=>rw[hd] at h;cases h
  |some d'=>
   rw[hd] at h;have e:d'=d:=by simpa using h
   subst e;obtain⟨v,h1,h2⟩:=r.get hd;refine⟨v,?_,h2⟩;rw[cm (by simpa[r.length] using hi),dB,h1];rfl
 .rw[bL (by simpa using hi),lR] at h;split at h<;>cases h
theorem Az{P:bY}{w:World}{K:aB}{mg:@aa}{base:Heap}{x qual:Str}{st:Stmt}{f:Addr}{fd:cG}{Nn ps:@n}{k:Nat}{sp:di}{rd:da}(F:Qy K x qual st f fd)(S:ip Nn ps (bK st))(len:∀ds G Q E,sp ds G Q E->ds.length=ps.length)
  (hr:∀ds G Q,sp ds G Q (@f)->rd (@f) @q (aJ Nn.length ds) G)
  (hb:∀(fT:Value) (A:eI) (outer:List Env) (s:aL) (H:Hp) (E:XK),fM k (A.deeper (AJ qual (bK st) s.heap.objs.size f fT))->ma (vE tu P w K mg base Nn qual (bK st) f fT A outer s H E).VE (c7 st) rd):lu P w K mg base tu (k+1) f fd ps (j3 K sp):=by
 refine F.ok S ((by rintro vs H Q E ⟨ds,G,Q2,r,ab,q,_⟩;exact by rw[r.length];exact len _ _ _ _ q)) ?_;rintro fT A outer s H vs Q E Pu ⟨ds,G,Q2,r,ab,q,kk⟩;refine⟨_,Oq (hb fT A outer s H E Pu) (E:=@f) (Lk.none λ_ _ z=>z),?_⟩;exact⟨aJ Nn.length ds,G,ends Q2,F9 r,ab,hr ds G Q2 q,λiJ H' j5 G' mv z=>kk _ _ _ _ z mv .ff,λv H' d G' mv rdv z=>kk _ _ _ _ z mv rdv,λ_ _ z=>z,λ_ _ z=>z⟩
section
variable {prog:bY} {w:World} {A:eI} {R:Result->aL->Prop} {It0:Addr} {fq wr:List Addr} {n:Nat} {P:Nat->Value->Prop} {Sx:Nat->Heap->Prop}
theorem VH(W:Walks prog w A.in1 It0 fq wr n P Sx)(bt:Nat->Nat->Bool)(T:Heap->Prop)(B:Addr)(hB:B∉fq)(hT:∀h h',T h->(∀b o,b∉wr->b≠B->h.get? b=@j->@X=@j)->T h')
  (cmp:∀i j x y s (Q:@M) (E:@M),T s.heap->P i x->P j y->Q (.bool (bt i j)) s->wpAny @T A.in1 (yb .Lt x y) Q E s):
  ∀(k j:Nat) (s:aL) (best:Value) (cc:Nat),n-(j+1)=k->j+1<=n->Sx (j+1) s.heap->T s.heap->P (rF bt j) best ->
  s.heap.get? B=some {cls:=.type "list",dict:=none,data:=.seq #[best,best] cc,slots:=#[]} ->
  (∀v h' tk,P (rF bt (n-1)) v->(∀b o,b∉wr->b≠B->@Z=@j->@X=@j)->R (.ok (.ret v)) {s with heap:=h',toks:=tk}) ->
  u3 @T A (.builtin "min.loop" ⟨[.ref It0,.none,.ref B],[]⟩) R s:=by
 have hBw:B∉wr:=λz=>hB (W.sub _ z);have nm:(toString "min"++toString ".loop":String)="min.loop":=@c
 intro k;induction k with
 |zero=>
  intro j s best cc hk hj hs ht hp hb hR;have ej:j+1=n:=@e
  refine AK Iw ?_;rw[xY ji _];show wpAny _ A.in1 (seqItems? (.ref B) >>= _) _ _ s;refine aR (QT hb rfl ?_);show wpAny _ A.in1 (tryCatch (pyNext (.ref It0)) _ >>= _) _ _ s;refine aR (C8 (W.done s _ _ (ej ▸ hs) λh' tk kept=>?_));have GR:=kept B _ hBw hb;show wpAny _ A.in1 (updateSeq B (λ_=>#[]) >>= _) _ _ _;refine aR ?_;refine AF GR rfl (aR (Nw (bI ?_)));exact hR best _ tk (by rw[<-ej];exact hp) λb o z1 z2 e=>(dD _ _ (dA z2)).trans (kept b o z1 e)
 | succ k ih=>
  intro j s best cc hk hj hs ht hp hb hR;have lt:j+1<n:=@e
  refine AK Iw ?_;rw[xY ji _];show wpAny _ A.in1 (seqItems? (.ref B) >>= _) _ _ s;refine aR (QT hb rfl ?_);show wpAny _ A.in1 (tryCatch (pyNext (.ref It0)) _ >>= _) _ _ s;refine aR (C8 (W.item (j+1) s _ _ lt hs λv h' tk pv HV kept=>?_));have GR:=kept B _ hBw hb;have QO:T h':=hT _ _ ht λb o z1 _ e=>kept b o z1 e;show wpAny _ A.in1 (tryCatch (qb [v,v] (yb .Lt v best >>= _)) _ >>= _) _ _ _;refine aR (C8 (iu (aR (cmp (j+1) (rF bt j) v best _ _ _ QO pv hp ?_))));refine aR (iu (Ig ?_));refine aR (Nw (bI ?_));cases hbt:bt (j+1) (rF bt j) with
  |true=>
   simp only[if_true];refine aR ?_;refine AF GR rfl (aR (Nw ?_));rw[nm];refine bI ⟨FQ ji _,ih (j+1) _ v _ (@e) lt (W.frame _ _ _ HV λb z o e=>?_) (hT _ _ QO λb o _ z2 e=>?_) (by simp only[rF,hbt,if_true];exact pv) (xW _ GR rfl) λv' Y8 NT X7 kk=>?_⟩
   .exact(dD _ _ (λz':B=b=>hB (by rw[z'];exact z))).trans e
   .exact(dD _ _ (dA z2)).trans e
   .exact hR v' Y8 NT X7 λb o z1 z2 e=>kk b o z1 z2 ((dD _ _ (dA z2)).trans (kept b o z1 e))
  |false=>
   simp only[ag,if_false];refine aR (Nw ?_);rw[nm];refine bI ⟨FQ ji _,ih (j+1) _ best cc (@e) lt HV QO (by simp only[rF,hbt,ag,if_false];exact hp) GR λv' Y8 NT X7 kk=>?_⟩;exact hR v' Y8 NT X7 λb o z1 z2 e=>kk b o z1 z2 (kept b o z1 e)
end
theorem GA{prog:bY}{w:World}{A:eI}{E:@M}{s:aL}{x:Value}{Q:@M}
  (h:wpAny @T A.in1 (pyIter x) (λit iQ=>∃(I:Addr) (fq wr:List Addr) (n:Nat) (P:Nat->Value->Prop) (Sx:Nat->Heap->Prop) (bt:Nat->Nat->Bool) (T:Heap->Prop),it=.ref I/\Walks prog w A.in1 I fq wr n P Sx/\Sx 0 iQ.heap/\(∀b∈fq,b<iQ.heap.objs.size)/\0<n/\T iQ.heap/\(∀(h h':Heap) (B:Addr),iQ.heap.objs.size<=B->T h->(∀b o,b∉wr->b≠B->h.get? b=@j->@X=@j)->T h') /\
   (∀i j x y s (Q:@M) (E:@M),T s.heap->P i x->P j y->Q (.bool (bt i j)) s->wpAny @T A.in1 (yb .Lt x y) Q E s) /\
   ∀v h' tk,P (rF bt (n-1)) v->(∀b o,b∉wr->iQ.heap.get? b=@j->@X=@j)->Q v {iQ with heap:=h',toks:=tk}) E s):
  wpAny @T A (call (.builtin "min") [x]) Q E s:=by
 have nm:(toString "min"++toString ".loop":String)="min.loop":=@c
 refine call_function_tree F.kind_min F.plain_min F.entry_min (F.args_min1 _) ?_;show wpAny _ A.in1 (xX "min" ["key","default"] 0 ⟨[],[]⟩ >>= _) _ _ s;refine aR (wpAny_of_eq (show xX "min" ["key","default"] 0 ⟨[],[]⟩=pure [none,none] from rfl) ?_);refine aR (bI ?_);refine aR (iq h (λit iQ Jp=>?_) λ_ _ e=>e);obtain⟨I,fq,wr,n,P,Sx,bt,T,rfl,W,w9,YT,hn,ht,hT,cmp,hQ⟩:=Jp;refine aR (kP ?_);have hSf:iQ.heap.objs.size∉fq:=λz=>jY _ (YT _ z);have hSw:iQ.heap.objs.size∉wr:=λz=>hSf (W.sub _ z);rw[nm];generalize hh:iQ.heap.push {cls:=.type "list",data:=.seq ([]:@D).toArray}=hp;have hb:hp.get? iQ.heap.objs.size=some {cls:=.type "list",dict:=none,data:=.seq #[] 0,slots:=#[]}:=by rw[<-hh];exact cj _ rfl
 have old:∀b o,iQ.heap.get? b=@j->hp.get? b=@j:=λb o e=>by rw[<-hh];exact aW _ e
 have Eh:Sx 0 hp:=W.frame _ _ _ w9 λb _ o e=>old b o e;have ht0:T hp:=hT _ _ _ (bb _) ht λb o _ _ e=>old b o e;refine bI ⟨FQ ji _,?_⟩;refine AK Iw ?_;rw[xY ji _];show wpAny _ A.in1 (seqItems? (.ref iQ.heap.objs.size) >>= _) _ _ _;refine aR (QT hb rfl ?_);show wpAny _ A.in1 (tryCatch (pyNext (.ref I)) _ >>= _) _ _ _;refine aR (C8 (W.item 0 _ _ _ hn Eh λv h' tk pv HV kept=>?_));have GR:=kept _ _ hSw hb;show wpAny _ A.in1 (updateSeq iQ.heap.objs.size (λ_=>#[v,v]) >>= _) _ _ _;refine aR ?_;refine AF GR rfl ?_;rw[nm];refine bI ⟨FQ ji _,VH W bt T _ hSf (λh h'=>hT h h' _ (bb _)) cmp _ 0 _ v _ rfl hn (W.frame _ _ _ HV λb z o e=>?_) (hT _ _ _ (bb _) (hT _ _ _ (bb _) ht0 λb o z1 _ e=>kept b o z1 e) λb o _ z2 e=>?_) pv (xW _ GR rfl) λv' Y8 NT X7 kk=>?_⟩
 .exact(dD _ _ (λz':iQ.heap.objs.size=b=>hSf (by rw[z'];exact z))).trans e
 .exact(dD _ _ (dA z2)).trans e
 .refine hQ v' Y8 NT X7 λb o z1 e=>?_;have nb:b≠iQ.heap.objs.size:=bO (ba e);exact kk b o z1 nb ((dD _ _ (dA nb)).trans (kept b o z1 (old b o e)))
theorem Hs{α:Type}(lt:α->α->Bool)(l)(a)(f:Nat->α)(hf:∀i,i<l.length+1->f i=(a::l).getD i a):
  f (rF (λi j=>lt (f i) (f j)) l.length)=l.foldl (λm x=>if lt x m=true then x else m) a:=by
 have key:∀k,k<=l.length->f (rF (λi j=>lt (f i) (f j)) k)=(l.take k).foldl (λm x=>if lt x m=true then x else m) a:=by
  intro k;induction k with
  |zero=>intro _;rw[rF,hf 0 (@e)];rfl
  | succ k ih=>
   intro hk;have ih':=ih (@e);rw[List.take_succ_eq_append_getElem (@e),De,<-ih'];have e:f (k+1)=l[k]:=by
    rw[hf (k+1) (@e),d6];simp[show k<l.length by lia]
   show f (if lt (f (k+1)) (f (rF _ k))=true then k+1 else rF _ k)=(if lt l[k] _=true then l[k] else _);rw[<-e];split<;>rfl
 rw[key l.length (bb _),List.take_length]
theorem MZ (hc:X.calm=true) (hu:X.A.units + 64<cLine):nG X (.builtin "min") Hn := by
  intro pins s σ H G xs ds us Q I ab rx rd q;unfold Hn at q;split at q
  . rename_i x
    obtain⟨v, rfl, r⟩ := rd.one;obtain⟨u,rfl,ru⟩ := rx.one;have main:∀{α:Type} (zs:@H) (a:α) (enc:α -> D) (lt:α -> α -> Bool) (T:Heap -> Prop),itemsOf x G=some ((a::zs).map enc) -> T s.heap -> (∀(h h':Heap) (B:Addr),s.heap.objs.size<=B -> T h -> (∀b o,b<s.heap.objs.size -> b≠B -> h.get? b=@j -> @X=@j) -> T h') ->
        (∀y z vy vz uy uz (s':aL) (Q':Value -> aL -> Prop) (E':Value -> aL -> Prop),T s'.heap -> cI X.K H vy (enc y) -> RelV vy uy -> cI X.K H vz (enc z) -> RelV vz uz -> Q' (.bool (lt y z)) s' -> wpAny @r X.A.in1 (yb .Lt uy uz) Q' E' s') ->
        Q (enc (zs.foldl (λm x=> if lt x m=true then x else m) a)) G -> wpAny @r X.A (call (.builtin "min") [u]) (qa X pins σ H G Q) X.xe s := by
      intro α zs a enc lt T hi ht hT cmp hq;obtain⟨l,vs,b9,rfl,rv,rs,hl,hz⟩ := Bj I ab ru r hi;have hlen:b9.length=zs.length + 1 := by rw[<-rv.length,rs.length,ax,ai]
      have kO:∀{o:Obj},s.heap.get? l=@j -> l≠s.heap.objs.size := λe=> bO (ba e);have at_:∀i uu,b9.toArray[i]?=some uu -> ∃vv,RelV vv uu/\cI X.K H vv (enc ((a::zs).getD i a)) := λi uu e=> by
        have e':b9[i]?=some uu := by simpa using e
        have Wb:i<b9.length := (List.getElem?_eq_some_iff.mp e').1;have hd:((a::zs).map enc)[i]?=some (enc ((a::zs).getD i a)) := by
          rw[dB,d6];cases h9:(a::zs)[i]? with
          |none=> rw[List.getElem?_eq_none_iff] at h9;simp at h9;lia
          |some z=> rfl
        obtain⟨vv,h1,h2⟩ := rs.get hd;obtain⟨uu',h3,h4⟩ := rv.get h1;rw[e'] at h3;cases h3;exact⟨vv,h4,h2⟩
      have Zk:∀i j p9 q9 s' (Q':Value -> aL -> Prop) (E':Value -> aL -> Prop),T s'.heap -> b9.toArray[i]?=some p9 -> b9.toArray[j]?=some q9 -> Q' (.bool (lt ((a::zs).getD i a) ((a::zs).getD j a))) s' -> wpAny @r X.A.in1 (yb .Lt p9 q9) Q' E' s' := λi j p9 q9 s' Q' E' t' h1 h2 h3=> by
        obtain⟨v1,r1,d1⟩ := at_ i p9 h1;obtain⟨v2,r2,d2⟩ := at_ j q9 h2;exact cmp _ _ v1 v2 p9 q9 s' Q' E' t' d1 r1 d2 r2 h3
      have fin:∀vv h' tk,b9.toArray[rF (λi j=> lt ((a::zs).getD i a) ((a::zs).getD j a)) (b9.toArray.size-1)]?=some vv -> (∀b o,b∉[s.heap.objs.size] -> @Z=@j -> @X=@j) -> qa X pins σ H G Q vv {s with heap := h',toks := tk} := λvv h' tk e hk=> by
        obtain⟨v1,r1,d1⟩ := at_ _ vv e;have es:b9.toArray.size-1=zs.length := by rw[aZ];lia
        rw[es,Hs lt zs a (λi=> (a::zs).getD i a) (λi _=> rfl)] at d1;exact⟨v1,H,_,G,I.kept λb o e=> hk b o (by simpa using bO (ba e)) e,.refl ab,r1,d1,hq⟩
      have vq:0<b9.toArray.size := by rw[aZ];lia
      have hTp:∀(oo:Obj),T (s.heap.push oo) := λoo=> hT _ _ (s.heap.objs.size + 1) (Nat.le_succ _) ht λb o hb _ e=> aW _ e;have hT2:∀(oo:Obj) (h h':Heap) (B:Addr),(s.heap.push oo).objs.size<=B -> T h -> (∀b o,b∉[s.heap.objs.size] -> b≠B -> h.get? b=@j -> @X=@j) -> T h' := λoo h h' B hB t kk=> hT h h' B (by rw[i8] at hB;exact Nat.le_of_succ_le hB) t λb o hb hn e=> kk b o (by simpa using bO hb) hn e;rcases hl with hl |hl
      . refine GA (Ih hl ?_)
        obtain⟨o,ho,FF,n,hd⟩ := id hl;exact⟨s.heap.objs.size,_,_,_,_,_,_,T,rfl,Walks.list (A := X.A.in1) (show X.A.in1.handled=none from I.ok.hd hc) _ l (kO ho) b9.toArray,⟨⟨_,cj _ rfl,rfl,rfl⟩,⟨o,aW _ ho,FF,n,hd⟩⟩,
          fun b hb => by rcases(by simpa using hb:b=s.heap.objs.size\/b=l) with rfl |rfl
                         . rw[i8];exact kW _
                         . rw[i8];exact Nat.lt_succ_of_lt (ba ho),vq,hTp _,hT2 _,Zk,λvv h' tk e hk=> fin vv h' tk e λb o hb e=> hk b o hb (aW _ e)⟩
      . refine GA (FO hl ?_)
        obtain⟨o,ho,FF,n,hd⟩ := id hl;exact⟨s.heap.objs.size,_,_,_,_,_,_,T,rfl,Walks.tuple (A := X.A.in1) (show X.A.in1.handled=none from I.ok.hd hc) _ l (kO ho) b9.toArray,⟨⟨_,cj _ rfl,rfl,rfl⟩,⟨o,aW _ ho,FF,n,hd⟩⟩,
          fun b hb => by rcases(by simpa using hb:b=s.heap.objs.size\/b=l) with rfl |rfl
                         . rw[i8];exact kW _
                         . rw[i8];exact Nat.lt_succ_of_lt (ba ho),vq,hTp _,hT2 _,Zk,λvv h' tk e hk=> fin vv h' tk e λb o hb e=> hk b o hb (aW _ e)⟩
    rcases q with ⟨ns,mm,hi,hm,q⟩ |⟨ZK,mm,hi,hm,q⟩
    . cases ns with
      |nil=> cases hm
      | cons a zs=>
        cases hm;have e:(λm x:Int=> if x<m then x else m)=λm x=> if decide (x<m)=true then x else m := by funext m x;simp
        rw[e] at q;refine main zs a D.int (λx y=> decide (x<y)) (λ_=> True) hi trivial (λ_ _ _ _ _ _=> trivial) (λy z vy vz uy uz s' Q' E' _ d1 r1 d2 r2 hq=> ?_) q;cases d1;cases d2;obtain⟨t1,rfl⟩ := r1;obtain⟨t2,rfl⟩ := r2;exact HT.Gs X.A.in1 s' y t1 z t2 X.prog X.w E' Q' hq
    . cases ZK with
      |nil=> cases hm
      | cons a zs=>
        cases hm;have el:∀xs ys:@I,HT.lexLt xs ys=K2.lexLt xs ys := by
          intro xs;induction xs with
          |nil=> intro ys;cases ys<;>rfl
          | cons x xs ih=> intro ys;cases ys with
            |nil=> rfl
            |cons y ys=> unfold HT.lexLt K2.lexLt;rw[ih]
        refine main zs a tI K2.lexLt (λh=> ∀b o,b<s.heap.objs.size -> @Z=@j -> h.get? b=@j) hi (λb o _ e=> e) (λh h' B hB t kk b o hb e=> kk b o hb (bO (bQ hb hB)) (t b o hb e)) (λy z vy vz uy uz s' Q' E' t' d1 r1 d2 r2 hq=> ?_) q;cases d1 with
        | tup h1 rs1=>
          cases d2 with
          | tup h2 Tz=>
            cases r1;cases r2;have z1 := rs1.ints;have z2 := Tz.ints;subst z1 z2;obtain⟨Pf,Xa,⟨o1,ho1,Xl,n1,hd1⟩,_⟩ := I.tuple (.of h1);obtain⟨ug,LL,⟨o2,QP,We,n2,hd2⟩,_⟩ := I.tuple (.of h2);have p1:IsTup s'.heap _ Pf.toArray := ⟨o1,t' _ _ (ba ho1) ho1,Xl,n1,hd1⟩;have p2:IsTup s'.heap _ ug.toArray := ⟨o2,t' _ _ (ba QP) QP,We,n2,hd2⟩;rw[<-el] at hq;have i1:k7 Pf.toArray.toList y := intsAre_of Xa;have i2:k7 ug.toArray.toList z := intsAre_of LL;exact(HT.Bg p1 p2 i1 i2 (show X.A.units + 1<cLine by lia) hq:wpAny @r X.A.in1 (eZ .Lt _ _) Q' E' s')
  . exact q.elim
noncomputable def aap(scope sc:Scope):List (Str×um):=scope.names.map λ(n,k)=>if(k == .free&&sc.kind == .function&&sc.names.lookup n == some .cell) then(n,.cell) else(n,k)
def tV(N:@n)(scope:Scope)(m:Nat)(fr:List Nat)(sc:Scope)(XN:@n):Bool :=
 scope.names.all (λy=>decide (y.2≠.cell))&&decide (scope.kind=.function)&&scope.names.all (λy=>!decide (y.2=.local)||decide (scope.names.lookup y.1=some .local)) &&
 scope.names.all (λy=>!decide (y.2=.free)||decide (sc.names.lookup y.1=some .cell))&&decide (N.length=m+fr.length) &&
 (dG fr.length).all (λj=>match fr[j]?,N[m+j]? with
  |some i,some x=>decide (XN[i]?=some x)&&decide (sc.names.lookup x=some .cell)&&decide ((aap scope sc).lookup x=some .cell)
  |_,_=>false)
theorem DV(YE:X.env.scope=sc)(Y5:X.N=XN)(hb:tV N scope m fr sc XN=true):Cg X N scope m fr:=by
 subst YE Y5;unfold tV at hb;simp only[bg] at hb;obtain⟨⟨⟨⟨⟨h1,h2⟩,h3⟩,h4⟩,h5⟩,h6⟩:=hb;refine⟨λy hy=>of_decide_eq_true (List.all_eq_true.mp h1 y hy),of_decide_eq_true h2,λy hy hl=>?_,λy hy hl=>?_,of_decide_eq_true h5,λj i x e1 e2=>?_⟩
 .have:=List.all_eq_true.mp h3 y hy;simp only[hl,decide_true,aK,uv] at this;exact of_decide_eq_true this
 .have:=List.all_eq_true.mp h4 y hy;simp only[hl,decide_true,aK,uv] at this;exact of_decide_eq_true this
 .have hj:j<fr.length:=(List.getElem?_eq_some_iff.mp e1).1;have:=List.all_eq_true.mp h6 j (List.mem_range.mpr hj);rw[e1,e2] at this;simp only[bg] at this;exact⟨of_decide_eq_true this.1.1,of_decide_eq_true this.1.2,of_decide_eq_true this.2⟩
theorem OO(N)(hi:Hx X tg iter wi)(hg:∀C s H fp,AD (de X N scope C s H fp) tg g)(PB:∀C s H fp,Tj (de X N scope C s H fp) ifs c)(he:∀C s H fp,dw (de X N scope C s H fp) elt te)
  (YE:autoParam (X.env.scope=sc) Ar._auto_1) (Y5:autoParam (X.N=XN) Ar._auto_1) (hb:autoParam (tV N scope m fr sc XN=true) Ak._auto_1) (hc:autoParam (X.calm=true) Ar._auto_1) (hs:autoParam (∀x,gH iter X.env x=pure x) Ai._auto_1):dw X (.ListComp elt [⟨tg,iter,ifs,0⟩] scope pos) (eK m fr wi g c te) :=
 Ma hc (DV YE Y5 hb) hi hg PB he hs
theorem Ox(N)(hN:X.N.Nodup)(YB:X.N[i]?=some y)(hy:X.env.scope.names.lookup y=some .local)(hi:Hx X tg iter wi)(hg:∀C s H fp,AD (de X N scope C s H fp) tg g)
  (PB:∀C s H fp,Tj (de X N scope C s H fp) ifs c) (he:∀C s H fp,dw (de X N scope C s H fp) elt te) (YE:autoParam (X.env.scope=sc) Ar._auto_1) (Y5:autoParam (X.N=XN) Ar._auto_1) (hb:autoParam (tV N scope m fr sc XN=true) Ak._auto_1) (hc:autoParam (X.calm=true) Ar._auto_1)
  (YC:autoParam (kd (.ListComp elt [⟨tg,iter,ifs,0⟩] scope pos) (some (.Name y py)) Ge.line X.env=pure true) Ar._auto_1) (hs:autoParam (∀x,gH iter X.env x=pure x) Ai._auto_1):
  ui X (.Assign [.Name y py] (.ListComp elt [⟨tg,iter,ifs,0⟩] scope pos) Ge) (aS (eK m fr wi g c te) (aE i)) :=
 Gw hN YB hy hc (DV YE Y5 hb) hi hg PB he YC hs
theorem MB{K:aB}{ns:@I}(hO:Tn H)(hS:qE K H a (ns.map V.int))(hl:ns.length<=63):j3 K Dk [@m] H (λv _=>v=.bl true) λ_ _ _=>False:=by
 have hF:Xy K H a (ns.map V.int):=by
  rcases hS with(h |⟨o,h⟩) |h
  .rcases hO a with z |⟨o,xs,z⟩
   .rw[z] at h;cases h
   .rw[z] at h;cases h
  .exact .inl ⟨o,h⟩
  .exact .inr h
 refine⟨[.dR (@ad)],λ_=>none,λd _=>d=.bl true,.cons (.dR hF (bq.Ko ns)) .nil,λa g e=>(by cases e),⟨ns,rfl,hl,λ_=>rfl,λ_=>rfl⟩,λd G' v H' e mv r=>?_⟩;subst e;cases r;rfl
theorem Pa{l:D9}{q:bY}{loose:@n}{XP:(@aa)->Heap->Prop}{YP:World->Heap->Prop}{d:DefRec}{K:kg->aB}{k:Nat}{x:Str}(hn:l.most=some 63)(YV:d.params.defaults=[])(hr:fM k Il)
  (hY:∀(w:World) (h:Heap),YP w h->(K w.params).In h)
  (F:∀(w:World) (mg:@aa) (fa:Addr) (h:Heap),(K w.params).In h->h.Ns bj mg->mg d.name=some (.ref fa) ->
   ∃fd:cG,(∀(s:aL) (u:Value),BindsTo s fd ⟨[u],[]⟩ [(x,u)])/\∀base:Heap,(K w.params).In base->base.Ns bj mg->lu l.prog w (K w.params) mg base tu k fa fd [x] (j3 (K w.params) Dk)):
  PySem.W.WalkO q loose XP YP l.row.toRowW d [] (λf vs=>JU f vs) :=
 L2.Q7 (n:=63) (k:=k) (x:=x) (CX:=λ_=>tu) (sp:=λw=>j3 (K w.params) Dk) hn (@c) YV hr hY F (λ_ _ _ _ hl hO hS=>MB hO hS hl) λ_ _ _ _ _ z=>z
end
noncomputable def Qj:HO->Bool
 |.lst _=>true
 |.dK _=>true
 |.dT _=>true
 |.ext _=>true
 |_=>false
def pI(h:Heap)(S:Addr->Bool)(H:Hp):Hp:=λa=>match H a with
 |some u=>if(Qj u&&S a)=true then(match h.get? a with
  |some o=>some (.kU o u)
  |none=>some u) else some u
 |none=>none
section
variable {h:Heap} {S:Addr->Bool} {H:Hp} {a:Addr}
theorem Jv(n:∀u,H a=some u->Qj u=false):pI h S H a=H a:=by
 unfold pI;cases e:H a with
 |none=>rfl
 |some u=>simp only[n u e,zI,ag,if_false]
theorem By(hs:S a=false):pI h S H a=H a:=by
 unfold pI;cases e:H a with
 |none=>rfl
 |some u=>simp only[hs,J3,ag,if_false]
theorem xf{u:HO}{o:Obj}(hs:S a=true)(e:H a=some u)(hu:Qj u=true)(ho:h.get? a=@j):pI h S H a=some (.kU o u):=by
 unfold pI;simp only[e,hs,hu,Bool.and_self,if_true,ho]
theorem pH(e:H a=none):pI h S H a=none:=by unfold pI;rw[e]
theorem my{u:HO}(e:H a=some u)(hu:Qj u=false):pI h S H a=some u:=by rw[Jv (λv z=>by rw[e] at z;cases z;exact hu)];exact e
theorem tP:Kp H (pI h S H):=⟨λa xs e=>my e rfl,λa o u e=>my e rfl⟩
end
section
variable {X:Cx} {pins:@A} {σ:L2.St} {H:Hp} {s:aL} {G:Gp}
theorem Inv.freeze(I:@o)(S):Inv X pins σ (pI s.heap S H) s where
  ok := I.ok
  os := I.os
  bare := I.bare
  base := { keep := I.base.keep,slot := I.base.slot,there := I.base.there
            free := λb o q n hx=> pH (I.base.free b o q n hx)
            rM := λb xs q=> my (I.base.rM b xs q) rfl
            q5 := λb o u q=> my (I.base.q5 b o u q) rfl
            yk := λb ps q=> my (I.base.yk b ps q) rfl
            wO := λb x q=> my (I.base.wO b x q) rfl}
  loc := I.loc
  cell := I.cell
  free := pH I.free
  jX := λx c e=> pH (I.jX x c e)
  pin := λp hp=> let ⟨h1,h2,h3⟩ := I.pin p hp;⟨h1,pH h2,h3⟩
  c8 := fun a o q=> by
    have st:∀u,H a=some u -> fJ X.prog X.w (pI s.heap S H) s.heap a u := λu e=>
      (I.c8 a u e).i9 (λb v _ r=> r) (λb r=> my r rfl) (λb xs r=> my r rfl)
    cases e:H a with
    |none=> rw[pH e] at q;cases q
    | some u=>
      by_cases hc:Qj u=true
      · by_cases hs:S a=true
        . obtain⟨ob,ho⟩ := mG (I.c8 a _ e)
          rw[xf hs e hc ho] at q;cases q;exact⟨ho,st _ e⟩
        . rw[By (by simpa using hs),e] at q
          cases q;exact st _ e
      . rw[my e (by simpa using hc)] at q
        cases q;exact st _ e
  len := I.len
noncomputable def oT(R:Nat->Bool)(G:Gp):Addr->Bool:=λa=>R a&&(G a).isSome
theorem DJ(I:@o)(ab:j7 X.K H G)(R):Mv X.K H G (pI s.heap (oT R G) H) (CM R G) where
 keep:=λa o e n=>by
  refine⟨by rw[By (by simp[oT,n])];exact e,?_⟩;unfold CM;split
  .rfl
  .exact n
 i9:=λa n=>by
  cases q:G a with
  |none=>exact absurd q n
  | some g=>
   have t:=(ab a g q).tracked;cases e:H a with
   |none=>exact absurd e t
   |some u=>
    unfold pI;rw[e];dsimp only;split
    .split<;>simp
    .simp
 ab:=λa g e=>by
  unfold CM at e;split at e
  .cases e
  .rename_i hr;exact(ab a g e).mono tP (By (by simp[oT,hr]))
theorem PU(I:@o)(ab:j7 X.K H G):∀{d t:D} {v:V},Fz G R d t->cI X.K H v d->cI X.K (pI s.heap (oT R G) H) v t:=by
 intro d t v h;revert v;refine Fz.rec (motive_1:=λd t _=>∀{v:V},cI X.K H v d->cI X.K (pI s.heap (oT R G) H) v t)
  (motive_2:=λds ts _=>∀{vs:List V},bq X.K H vs ds->bq X.K (pI s.heap (oT R G) H) vs ts)
  (motive_3:=λds ts _=>(∀{vs:List (Key×V)},rj X.K H vs ds->rj X.K (pI s.heap (oT R G) H) vs ts)/\∀{vs:List (List Key×V)},rD X.K H vs ds->rD X.K (pI s.heap (oT R G) H) vs ts)
  ?_ ?_ ?_ ?_ ?_ ?_ ?_ ?_ ?_ ?_ h
 .intro d v r;exact r.mono tP
 .intro ds ss _ ih v r;cases r with
  |tup h rs=>exact .tup (tP.tup _ _ h) (ih rs)
 .intro ds ss _ ih v r;cases r with
  |dR h rs=>exact .dR (tP.UU h) (ih rs)
 .intro a ds ss g hr _ ih v r;cases r;obtain⟨vs,hv,rs⟩:=ab a _ g;obtain⟨ob,ho⟩:=mG (I.c8 a _ hv);exact .dR (.inl ⟨_,xf (by simp[oT,hr,g]) hv rfl ho⟩) (ih rs)
 .intro a ds ss g hr _ ih v r;cases r;rcases ab a _ g with ⟨kv,hv,rs⟩ |⟨kv,hv,rs⟩
  .obtain⟨ob,ho⟩:=mG (I.c8 a _ hv);exact .uc (xf (by simp[oT,hr,g]) hv rfl ho) (ih.1 rs)
  .obtain⟨ob,ho⟩:=mG (I.c8 a _ hv);exact .t9 (xf (by simp[oT,hr,g]) hv rfl ho) (ih.2 rs)
 .intro a bx TQ g hr _ ek ih v r;cases r;obtain⟨xs,ks,vs,hv,rel,r1,r2⟩:=ab a _ g;obtain⟨ob,ho⟩:=mG (I.c8 a _ hv);have e2:(TQ.map λp=>X9 p.1)=bx.map λp=>X9 p.1:=by
   have:=congrArg (kS X9) ek;rw[fA,fA] at this;exact this.symm
  exact .Dp (xf (by simp[oT,hr,g]) hv rfl ho) ⟨ek.symm.trans rel.1,rel.2⟩ (by rw[e2];exact r1.mono tP) (ih r2)
 .intro vs r;cases r;exact .nil
 .intro d s ds ss _ _ i1 i2 vs r;cases r with
  |cons r rs=>exact .cons (i1 r) (i2 rs)
 .exact⟨λr=>by cases r;exact .nil,λr=>by cases r;exact .nil⟩
 .intro k d s ds ss _ _ i1 i2;exact⟨λr=>by cases r with |cons r rs=>exact .cons (i1 r) (i2.1 rs),λr=>by cases r with |cons r rs=>exact .cons (i1 r) (i2.2 rs)⟩
variable {e:Expr} {te:fh} {st:Stmt} {t:da}
theorem Vp(he:dw X e te):dw X e (b5 te):=by
 ext c;refine fY (he E pins s σ H τ G _ hE I h) ?_;rintro u s1 ⟨v,H1,d,G1,I1,m,r,rd,R,t,hf,q⟩;exact⟨v,_,t,_,Inv.freeze I1 _,m.trans (DJ I1 m.ab R),r,PU I1 m.ab hf rd,q⟩
theorem RM(h1:ui X st t):ui X st (Qb i t):=by
 intro E pins s σ H τ G D hE I h;refine fY (h1 E pins s σ H τ G _ hE I h) λf s1 z=>?_;cases f with
 | next=>
  obtain⟨iJ,H',j5,G',I',m,q⟩:=z;simp only at q;split at q
  .rename_i d hd;obtain⟨R,t,hf,q⟩:=q;obtain⟨v,hv,rv⟩:=I'.st.at' i d hd;have a1:=(I'.st.mono (H':=pI s1.heap (oT R G') H') tP).set i (PU I'.inv I'.ab hf rv);have es:iJ.set i (some v)=iJ:=by
    have hi:i<iJ.length:=(List.getElem?_eq_some_iff.mp hv).1;have e2:=(List.getElem?_eq_some_iff.mp hv).2;rw[<-e2];exact List.set_getElem_self hi
   rw[es] at a1;have m2:=DJ I'.inv I'.ab R;exact⟨iJ,_,_,_,⟨Inv.freeze I'.inv _,a1,m2.ab⟩,m.trans m2,q⟩
  .exact q.elim
 |ret v=>exact z
 |brk=>exact z
 |cont=>exact z
end
theorem WL:dj "len"=some (.builtin "len"):=@W
theorem WK:dj "min"=some (.builtin "min"):=@W
theorem WM:dj "all"=some (.builtin "all"):=@W
theorem M4:dj "sorted"=some (.builtin "sorted"):=@W
theorem Li:dj "list"=some (.type "list"):=@W
theorem Qn:dj "tuple"=some (@U):=@W
theorem Qo:dj "int"=some (.type "int"):=@W
theorem Tc:dj "bool"=some (.type "bool"):=@W
end K2
end
section
namespace L2
open PySem PySem.Spec PyProof.Rows
section
variable {X:Cx} {pins:@A} {σ:St} {H:Hp} {s:aL} {h':Heap}
theorem Inv.Ag{fp:List Addr}(I:@o)(hf:∀b∈fp,pU X pins H b)(k:∀b o,b∉fp->@Z=@j->@X=@j):Inv X pins σ H {s with heap:=h',toks:=t'}:=by
 have nt:∀b u,H b=some u->b∉fp:=λb u e z=>by rw[(hf b z).1] at e;cases e
 refine I.step (g':=s.gens) (d':=s.drawn) (ch:=fp) (λb hb=>?_) (λb o _ _ hc e _=>k b o hc e) (λb o _ _ hc e _=>⟨o.slots,k b o hc e⟩) (λ_ _ _ _ n=>n)
  (λb o hc e=>⟨o,k b o hc e⟩) (λ_ _ e=>e) (λ_ _ _ e=>e) (λ_ _ e=>e) (λ_ _ e=>e) (λm hm=>?_) (λb u e=>?_) I.bare
 .obtain⟨f0,f1,f2,f3,f4,f5⟩:=hf b hb;exact⟨f3,f1,f4,f5⟩
 .obtain⟨o,es,ep,ho,r⟩:=hm;exact⟨o,es,ep,k _ _ (λz=>(hf _ z).2.1 rfl) ho,r⟩
 .refine(I.c8 b u e).i9 (λc v hc r=>k c v ?_ r) (λ_ z=>z) (λ_ _ z=>z);rcases hc with rfl |hc
  .exact nt _ _ e
  .exact nt _ _ hc
theorem Inv.J7{fp:List Addr}(I:@o)(hf:∀b∈fp,pU X pins H b)(k:∀b o,b∉fp->@Z=@j->@X=@j)(hT:s.heap.objs.size<=T)
  (new:fJ X.prog X.w (upd H T (.tup vs)) h' T (.tup vs)):Inv X pins σ (upd H T (.tup vs)) {s with heap:=h',toks:=t'}:=by
 have hn:H T=none:=I.c8.fresh hT;have ht:∀b o,@Z=@j->b≠T:=λb o e z=>by subst z;exact absurd (ba e) (Nat.not_lt.mpr hT)
 have nt:∀b u,H b=some u->b∉fp:=λb u e z=>by rw[(hf b z).1] at e;cases e
 have ne:∀b u,H b=some u->b≠T:=λb u e=>eE e hn;refine I.step (g':=s.gens) (d':=s.drawn) (ch:=fp) (λb hb=>?_) (λb o _ _ hc e _=>k b o hc e) (λb o _ _ hc e _=>⟨o.slots,k b o hc e⟩) (λb o _ e n=>by rw[bP (ht b o e)];exact n)
  (λb o hc e=>⟨o,k b o hc e⟩) (λb xs e=>by rw[bP (ne _ _ e)];exact e) (λb o u e=>by rw[bP (ne _ _ e)];exact e) (λb ps e=>by rw[bP (ne _ _ e)];exact e) (λb ps e=>by rw[bP (ne _ _ e)];exact e) (λm hm=>?_) (λb u e=>?_) I.bare
 .obtain⟨f0,f1,f2,f3,f4,f5⟩:=hf b hb;exact⟨f3,f1,f4,f5⟩
 .obtain⟨o,es,ep,ho,r⟩:=hm;exact⟨o,es,ep,k _ _ (λz=>(hf _ z).2.1 rfl) ho,r⟩
 .by_cases hb:b=T
  .subst hb;rw[cR] at e;cases e;exact new
  .rw[bP hb] at e;refine(I.c8 b u e).i9 (λc v hc r=>k c v ?_ r) (λc z=>by rw[bP (ne _ _ z)];exact z) (λc xs z=>by rw[bP (ne _ _ z)];exact z);rcases hc with rfl |hc
   .exact nt _ _ e
   .exact nt _ _ hc
theorem pU.upd(h:pU X pins H b)(hb:b≠T):pU X pins (L2.upd H T o) b:=by
 obtain⟨f0,r⟩:=h;exact⟨by rw[bP hb];exact f0,r⟩
end
def Ite(K:aB)(a:Addr):It :=
  ⟨λi H=>∃xs x,qE K H a xs/\xs[i]?=some x,
   λi H v H'=>∃T y,v=.ref T/\H T=none/\H'=upd H T (.tup [.int i,y])/\∀xs,qE K H a xs->xs[i]?=some y,
   λi H=>∃xs,qE K H a xs/\xs.length<=i⟩
theorem LA{K:aB}(a e it)(kO:e≠it):
  Turn P w K (.Tuple elts kk pos) (Ite K a) [e,it] e (λi h=>(∃old,IsEnum h e it i old)/\h.IsListIter it a i) where
 mem:=by simp
 obj:=λi h Py b hb=>by
  obtain⟨⟨old,he⟩,hit⟩:=Py;rcases List.mem_cons.mp hb with rfl |hb
  .exact⟨_,he,λv z=>by cases z⟩
  .have e:b=it:=by simpa using hb
   subst e;obtain⟨o,e,c,d⟩:=hit;exact⟨o,e,λv z=>by rw[d] at z;cases z⟩
 keep:=(by rintro i h h' ⟨⟨old,he⟩,hit⟩ k;exact⟨⟨old,k e @k _ he⟩,hit.at λo q=>k it @k o q⟩)
 item:=by
  intro X hP hw hK hc i pins s σ H E I hf st hg;obtain⟨⟨old,he⟩,hit⟩:=st;subst hP hw hK;obtain⟨xs,x,hq,hx⟩:=hg;obtain⟨b9,rv,p,hz⟩:=I.list hq;obtain⟨u,hu,ru⟩:=rv.get hx;have hTn:H s.heap.objs.size=none:=I.c8.fresh (bb _);have heT:e≠s.heap.objs.size:=bO (ba he);have hiT:it≠s.heap.objs.size:=by obtain⟨o,q,_⟩:=hit;exact bO (ba q)
  refine wpAny_pyNext_enum_item he hit p.isList (x:=u) (by simpa using hu) kO λh' ho abC hT hsz kk=>?_;refine⟨_,rfl,?_⟩;have I1:Inv X pins σ (upd H s.heap.objs.size (.tup [.int i,x])) {s with heap:=h',toks:=s.toks+1} :=
   I.J7 (fp:=[e,it]) hf (λb o hb q=>kk b o (λz=>hb (by simp[z])) (λz=>hb (by simp[z])) q) (bb _)
    ⟨by show 2<=bB;decide,[.int i s.toks,u],.cons ⟨_,rfl⟩ (.cons ru .nil),⟨_,hT,rfl,_,rfl⟩⟩
  refine wpAny_letOwnedTupleGo_enum (s:={s with heap:=h',toks:=s.toks+1}) ho λh2 PG HZ=>?_;have f1:∀b∈[e,it],pU X pins (upd H s.heap.objs.size (.tup [.int i,x])) b:=λb hb=>(hf b hb).upd (by
   rcases List.mem_cons.mp hb with rfl |hb
   .exact heT
   .rw[List.mem_singleton.mp hb];exact hiT)
  have I2:Inv X pins σ (upd H s.heap.objs.size (.tup [.int i,x])) {s with heap:=h2,toks:=s.toks+1} :=
   Inv.Ag (s:={s with heap:=h',toks:=s.toks+1}) (t':=s.toks+1) (fp:=[e,it]) I1 f1 λb o hb q=>(HZ.2 b (λz=>hb (by simp[z]))).trans q
  refine⟨.ref s.heap.objs.size,_,I2,rfl,⟨_,x,rfl,hTn,rfl,λys hy=>by rw[I.wV hy hq];exact hx⟩,⟨⟨u,?_⟩,?_⟩,λb hb=>(f1 b hb).1⟩
  .simpa using PG
  .exact abC.at λo q=>(HZ.2 it (dA kO)).trans q
 done:=by
  intro X hP hw hK hc i pins s σ H E I hf st hg;obtain⟨⟨old,he⟩,hit⟩:=st;subst hP hw hK;obtain⟨xs,hq,hx⟩:=hg;obtain⟨b9,rv,p,hz⟩:=I.list hq;have hl:=rv.length;refine wpAny_pyNext_enum_end (I.ok.hd hc) he hit p.isList (by simp;lia) λh' eb=>⟨rfl,?_⟩;exact I.Ag (t':=s.toks) (fp:=[e,it]) hf λb o hb q=>eb b o (λz=>hb (by simp[z])) q
 self:=(by rintro A i s Q E ⟨⟨old,he⟩,_⟩ h;exact wpAny_pyIter_enum he h)
end L2
namespace K2
open PySem PySem.Spec PyProof.Rows L2
section
variable {X:Cx} {elts:List Expr} {kk:Nat} {NS:Pos} {a b:Expr} {ta tb:fh} {pos p:Pos}
theorem KY{pins:@A}{σ:L2.St}{H H1:Hp}{G G1:Gp}{s1:aL}{l:Addr}{vs:List V}{ds:@i}{ok:@t}{R:@i->(@t)->@t}(I1:Inv X pins σ H1 s1)(m:Mv X.K H G H1 G1)(hq:qE X.K H1 l vs)
  (hk:∀H2 G2,Kp H1 H2->j7 X.K H2 G2->ok G2->∃ws,qE X.K H2 l ws/\bq X.K H2 ws ds) (q:R (nv 0 ds) ok G1):
  wpAny @r X.A (call (.type "enumerate") [.ref l]) (λv s2=>wpAny @r X.A (pyIter v) (M8 X pins σ (.Tuple elts kk NS) H G R) X.xe s2) X.xe s1:=by
 obtain⟨b9,rv,pl,hz⟩:=I1.list hq;refine call_enumerate_list pl.isList λh' he hit hsz kp=>?_;refine wpAny_pyIter_enum he ?_;refine⟨_,[s1.heap.objs.size+1,s1.heap.objs.size],_,_,H1,G1,nv 0 ds,ok,rfl,I1.kept (t':=s1.toks) kp,m,LA l _ _ (Nat.succ_ne_self _),⟨⟨_,he⟩,hit⟩,λb hb=>?_,λi H2 G2 k ab o=>?_,q⟩
 .have GR:s1.heap.objs.size<=b:=by
   rcases List.mem_cons.mp hb with rfl |hb
   .lia
   .rw[List.mem_singleton.mp hb];exact bb _
  exact I1.MR GR (I1.c8.fresh GR)
 .obtain⟨ws,hw,rd⟩:=hk H2 G2 k ab o;refine⟨λd hd=>?_,λhl=>⟨ws,hw,by rw[rd.length,<-DO ds 0];exact hl⟩⟩;rw[DP] at hd;cases hdi:ds[i]? with
  |none=>rw[hdi] at hd;cases hd
  |some d'=>
   rw[hdi] at hd;obtain⟨v,hv,r⟩:=rd.get hdi;refine⟨⟨ws,v,hw,hv⟩,?_⟩;rintro x H3 ⟨T,y,ex,hT,e3,hy⟩;subst ex e3;have:=hy ws hw;rw[hv] at this;cases this;have ed:D.tup [.int ((0+i:Nat):Int),d']=d:=by simpa using hd
   subst ed;refine⟨.tup cR (.cons (by rw[nK];exact .int _) (.cons (r.mono (.new hT)) .nil)),.SH ab hT⟩
theorem Fd:dj "enumerate"=some (.type "enumerate"):=@W
theorem WJ:dj "zip"=some (.type "zip"):=@W
theorem OG (hg:Gl X "enumerate") (hm:X.mg "enumerate"=none) (ha:dw X a ta) (hs:autoParam (aT [a] X.env=[(false,eval a X.env)]) Ar._auto_1):Hx X (.Tuple elts kk NS) (.Call (.Name "enumerate" p) [a] [] pos) (Bw ta):=by
 intro E pins s σ H τ G R hE I h;have hA:rg X [a] (ah ta aA):=sv ha Ap hs;refine Call_ (oJ I.inv hg hm Fd (iO (t7 hA pos hE I (R:=aaH λx G1=>w7 x G1 R) h λvs H1 ds G1 us s1 I1 m1 r1 jd q1=>?_) hs rfl))
 match ds,q1 with
 | [x],q1=>
  change w7 x G1 R at q1;obtain⟨w,rfl,LK⟩:=jd.one;obtain⟨u,rfl,ru⟩:=r1.one;cases LK with
  |dR hq rs=>cases ru;exact KY I1.inv m1 hq.sq (λH2 G2 k ab _=>⟨_,(k.UU hq).sq,rs.mono k⟩) q1
  |ref p=>
   cases ru;unfold w7 at q1;dsimp only at q1;split at q1
   .rename_i ds e;obtain⟨vs,hv,rs⟩:=I1.ab.lst e;refine KY I1.inv m1 (.of hv) (λH2 G2 k ab o=>?_) q1;obtain⟨ws,hw,vh⟩:=ab.lst o;exact⟨ws,.of hw,vh⟩
   .exact q1.elim
  |tup _ _=>exact q1.elim
  |uc _ _=>exact q1.elim
  |t9 _ _=>exact q1.elim
  |ff=>exact q1.elim
  |bl _=>exact q1.elim
  |int _=>exact q1.elim
  |str _=>exact q1.elim
  |exc _=>exact q1.elim
  |Cr _ _=>exact q1.elim
  |Dp _ _ _ _=>exact q1.elim
 |[],q1=>exact q1.elim
 |_::_::_,q1=>exact q1.elim
end
end K2
end
section
namespace K2
open PySem PySem.Spec PyProof.Rows L2
section
variable {X:Cx} {o i a b:Expr} {to ti ta tb:fh} {pos p:Pos}
theorem RT(hu:X.A.units+64<cLine)(ho:dw X o to)(hi:dw X i ti)
  (ha:autoParam (∀v,AL (.Subscript o i pos) X.env v=(do
   let ov ← qb [v] (eval o X.env)
   let iv ← qb [v,ov] (eval i X.env)
   Ij pos
   qb [v,ov,iv] (setItem ov iv v)
   release [v,ov,iv] [])) Ai._auto_1):AD X (.Subscript o i pos) (q4 to ti):=by
 intro E pins s σ H τ G w d u Q hE I r rd h;rw[ha];refine aR (iu (j0 ho hE I h λx H1 dx G1 ov s1 I1 m1 r1 jd q1=>?_));refine aR (iu (j0 hi hE I1 q1 λy H2 dy G2 iv s2 j6 m2 r2 Ey q2=>?_));refine aR (FK (aR (iu ?_)));have ZP:=m1.trans m2;have A6:=rd.mono (ZP.kp I.ab);have HV:=I.st.mono (ZP.kp I.ab);have rx':=jd.mono (m2.kp I1.ab);unfold Gi at q2;split at q2
 .rename_i l;cases rx';cases r1;split at q2
  .rename_i xs hg;obtain⟨vs,hv,rs⟩:=j6.ab.lst hg;split at q2
   .rename_i k;cases Ey;split at q2
    .rename_i j hj;have m3:Mv X.K H2 G2 (upd H2 l (.lst (vs.set j w))) (ck G2 l (.lst (xs.set j d))):=.putL j6.ab hg hv (rs.set A6 j);refine fY (set_list pins s2 σ H2 (.ref l) (.int k) w _ _ _ (λH3=>H3=upd H2 l (.lst (vs.set j w))) j6.inv rfl r2 r ⟨l,vs,k,j,rfl,rfl,hv,?_,rfl⟩) ?_
     .rw[rs.length];exact hj
     .rintro _ s3 ⟨H3,I3,e3⟩;subst e3;exact wpAny_release ⟨σ,_,τ,_,⟨I3,HV.mono (m3.kp j6.ab),m3.ab⟩,ZP.trans m3,q2⟩
    .exact q2.elim
   .exact q2.elim
  .rename_i bx hg;obtain⟨hk,hz,q⟩:=q2;obtain⟨H3,H4,I3,dp,m3⟩:=Qa j6.inv j6.ab hg hk hz Ey A6;exact MW (@e) I3 dp r2 r λs4 I4=>wpAny_release ⟨σ,H4,τ,_,⟨I4,HV.mono (m3.kp j6.ab),m3.ab⟩,ZP.trans m3,q⟩
  .exact q2.elim
 .exact q2.elim
end
end K2
end
section
namespace L2
open PySem PySem.Spec PyProof.Rows
theorem v7(I:@o)(hq:qE X.K H l xs)(hf:pU X pins H b):l≠b:=by
 rintro rfl;obtain⟨f0,f1,f2,f3,f4,f5⟩:=hf;rcases hq with(h |⟨o,h⟩) |⟨o,b9,n,h,_⟩
 .rw[f0] at h;cases h
 .rw[f0] at h;cases h
 .have hb:=I.ok.mod.MD _ _ h;rcases f3 with f3 |f3
  .exact I.ok.IZ _ _ hb f3
  .exact absurd (ba (I.ok.bs _ _ hb).1) (Nat.not_lt.mpr f3)
def Itz(K:aB)(a b:Addr):It :=
  ⟨λi H=>∃xs x ys y,qE K H a xs/\xs[i]?=some x/\qE K H b ys/\ys[i]?=some y,
   λi H v H'=>∃T x y,v=.ref T/\H T=none/\H'=upd H T (.tup [x,y])/\(∀xs,qE K H a xs->xs[i]?=some x)/\∀ys,qE K H b ys->ys[i]?=some y,
   λi H=>∃xs ys,qE K H a xs/\qE K H b ys/\(xs.length<=i\/ys.length<=i)⟩
structure Zm(z TI TO i1 i2 a b:Addr)(i:Nat)(h:Heap):Prop where
 hz:IsZip h z TI TO .none
 hI:IsPair h TI (.ref i1) (.ref i2)
 hO:∃x y,IsPair h TO x y
 h1:h.IsListIter i1 a i
 h2:h.IsListIter i2 b i
theorem NR{K:aB}(a b z TI TO i1 i2)(nd:[z,TI,TO,i1,i2].Nodup):
  Turn P w K (.Tuple elts kk pos) (Itz K a b) [z,TI,TO,i1,i2] z (Zm z TI TO i1 i2 a b) where
 mem:=by simp
 obj:=λi h st c hc=>by
  simp only[bN,bf,or_false] at hc;rcases hc with rfl |rfl |rfl |rfl |rfl
  .exact⟨_,st.hz,λv q=>by cases q⟩
  .exact⟨_,st.hI,λv q=>by cases q⟩
  .obtain⟨x,y,h⟩:=st.hO;exact⟨_,h,λv q=>by cases q⟩
  .obtain⟨o,e,_,d⟩:=st.h1;exact⟨o,e,λv q=>by rw[d] at q;cases q⟩
  .obtain⟨o,e,_,d⟩:=st.h2;exact⟨o,e,λv q=>by rw[d] at q;cases q⟩
 keep:=λi h h' st k=>⟨k _ @k _ st.hz,k _ @k _ st.hI,let ⟨x,y,q⟩:=st.hO;⟨x,y,k _ @k _ q⟩,st.h1.at λo q=>k _ @k o q,st.h2.at λo q=>k _ @k o q⟩
 item:=by
  intro X hP hw hK hc i pins s σ H E I hf st hg;subst hP hw hK;obtain⟨xs,x,ys,y,TX,hx,Cp,hy⟩:=hg;obtain⟨Pf,Xa,p1,hz1⟩:=I.list TX;obtain⟨ug,LL,p2,YA⟩:=I.list Cp;obtain⟨u1,hu1,XY⟩:=Xa.get hx;obtain⟨u2,hu2,U3⟩:=LL.get hy;obtain⟨xo,yo,hO⟩:=st.hO;have ap:∀c∈[z,TI,TO,i1,i2],a≠c/\b≠c:=λc hc=>⟨v7 I TX (hf c hc),v7 I Cp (hf c hc)⟩;simp only[c5,bN,bf,or_false,not_or] at nd;obtain⟨⟨n1,n2,n3,n4⟩,⟨n5,n6,n7⟩,⟨n8,n9⟩,n10,_⟩:=nd;have Dz:ZipApart z TI TO i1 i2 a b:=⟨dA n1,dA n2,dA n3,dA n4,n5,n6,n7,n8,n9,n10,(ap z @k).1,(ap TO @k).1,(ap i1 @k).1,(ap i2 @k).1,(ap z @k).2,(ap TO @k).2,(ap i1 @k).2,(ap i2 @k).2⟩;have hTn:H s.heap.objs.size=none:=I.c8.fresh (bb _);have inH:∀c∈[z,TI,TO,i1,i2],c≠s.heap.objs.size:=λc hc=>by
   simp only[bN,bf,or_false] at hc;rcases hc with rfl |rfl |rfl |rfl |rfl
   .exact bO (ba st.hz)
   .exact bO (ba st.hI)
   .exact bO (ba hO)
   .obtain⟨o,e,_⟩:=st.h1;exact bO (ba e)
   .obtain⟨o,e,_⟩:=st.h2;exact bO (ba e)
  refine wpAny_pyNext_zip_item Dz st.hz st.hI hO st.h1 st.h2 p1.isList p2.isList (x:=u1) (y:=u2) (by simpa using hu1) (by simpa using hu2) λh' a1 a2 a3 a4 a5 a6 a7=>?_;refine⟨_,rfl,?_⟩;have k1:∀c o,c∉[z,TI,TO,i1,i2]->s.heap.get? c=@j->h'.get? c=@j:=λc o hc q=>
   a7 c o (λe=>hc (by simp[e])) (λe=>hc (by simp[e])) (λe=>hc (by simp[e])) (λe=>hc (by simp[e])) q
  have I1:Inv X pins σ (upd H s.heap.objs.size (.tup [x,y])) {s with heap:=h'} :=
   I.J7 (t':=s.toks) (fp:=[z,TI,TO,i1,i2]) hf k1 (bb _) ⟨by show 2<=bB;decide,[u1,u2],.cons XY (.cons U3 .nil),⟨_,a5,rfl,_,rfl⟩⟩
  refine wpAny_letOwnedTupleGo_zip (s:={s with heap:=h'}) a1 λh2 YA HZ=>?_;have f1:∀c∈[z,TI,TO,i1,i2],pU X pins (upd H s.heap.objs.size (.tup [x,y])) c:=λc hc=>(hf c hc).upd (inH c hc);have I2:Inv X pins σ (upd H s.heap.objs.size (.tup [x,y])) {s with heap:=h2} :=
   Inv.Ag (s:={s with heap:=h'}) (t':=s.toks) (fp:=[z,TI,TO,i1,i2]) I1 f1 λc o hc q=>(HZ.2 c (λe=>hc (by simp[e]))).trans q
  have hI':IsPair h' TI (.ref i1) (.ref i2):=a7 TI _ (dA n1) n5 n6 n7 st.hI;refine⟨.ref s.heap.objs.size,_,I2,rfl,⟨_,x,y,rfl,hTn,rfl,λzs hs=>by rw[I.wV hs TX];exact hx,λzs hs=>by rw[I.wV hs Cp];exact hy⟩,⟨YA,?_,⟨u1,u2,?_⟩,?_,?_⟩,λc hc=>(f1 c hc).1⟩
  .exact(HZ.2 TI (dA n1)).trans hI'
  .exact(HZ.2 TO (dA n2)).trans a2
  .exact a3.at λo q=>(HZ.2 i1 (dA n3)).trans q
  .exact a4.at λo q=>(HZ.2 i2 (dA n4)).trans q
 done:=by
  intro X hP hw hK hc i pins s σ H E I hf st hg;subst hP hw hK;obtain⟨xs,ys,TX,Cp,hx⟩:=hg;obtain⟨Pf,Xa,p1,hz1⟩:=I.list TX;obtain⟨ug,LL,p2,YA⟩:=I.list Cp;have EO:=Xa.length;have Aw:=LL.length;obtain⟨xo,yo,hO⟩:=st.hO;have ap:∀c∈[z,TI,TO,i1,i2],a≠c/\b≠c:=λc hc=>⟨v7 I TX (hf c hc),v7 I Cp (hf c hc)⟩;simp only[c5,bN,bf,or_false,not_or] at nd;obtain⟨⟨n1,n2,n3,n4⟩,⟨n5,n6,n7⟩,⟨n8,n9⟩,n10,_⟩:=nd;have Dz:ZipApart z TI TO i1 i2 a b:=⟨dA n1,dA n2,dA n3,dA n4,n5,n6,n7,n8,n9,n10,(ap z @k).1,(ap TO @k).1,(ap i1 @k).1,(ap i2 @k).1,(ap z @k).2,(ap TO @k).2,(ap i1 @k).2,(ap i2 @k).2⟩;refine wpAny_pyNext_zip_end (I.ok.hd hc) Dz st.hz st.hI hO st.h1 st.h2 p1.isList p2.isList (by
   rcases hx with hx |hx
   .left;simp;lia
   .right;simp;lia) λh' k1=>⟨rfl,?_⟩
  exact I.Ag (t':=s.toks) (fp:=[z,TI,TO,i1,i2]) hf λc o hc q=>k1 c o (λe=>hc (by simp[e])) (λe=>hc (by simp[e])) (λe=>hc (by simp[e])) (λe=>hc (by simp[e])) q
 self:=λA i s Q E st h=>wpAny_pyIter_zip st.hz h
end L2
namespace K2
open PySem PySem.Spec PyProof.Rows L2
section
variable {X:Cx} {elts:List Expr} {kk:Nat} {NS:Pos} {a b:Expr} {ta tb:fh} {pos p:Pos}
theorem GH(I:@o)(ab:j7 X.K H G)(rx:RelV x v)(rd:cI X.K H x d)(hi:Bi d G=some (ds,ok)):
  ∃l vs,v=.ref l/\qE X.K H l vs/\bq X.K H vs ds/\∀H2 G2,Kp H H2->j7 X.K H2 G2->ok G2->∃ws,qE X.K H2 l ws/\bq X.K H2 ws ds:=by
 cases rd with
 |dR hq rs=>cases hi;cases rx;exact⟨_,_,rfl,hq.sq,rs,λH2 G2 k ab _=>⟨_,(k.UU hq).sq,rs.mono k⟩⟩
 | ref l=>
  unfold Bi at hi;dsimp only at hi;cases hg:G l with
  |none=>rw[hg] at hi;cases hi
  | some gg=>
   rw[hg] at hi;cases gg with
   |lst zs=>
    cases hi;cases rx;obtain⟨vs,hv,rs⟩:=ab.lst hg;refine⟨_,_,rfl,.of hv,rs,λH2 G2 k ab o=>?_⟩;obtain⟨ws,hw,vh⟩:=ab.lst o;exact⟨ws,.of hw,vh⟩
   |ins _ _=>cases hi
   |Ia _=>cases hi
   |jG _=>cases hi
 |_=>cases hi
theorem RQ (hg:Gl X "zip") (hm:X.mg "zip"=none) (ha:dw X a ta) (hb:dw X b tb) (hs:autoParam (aT [a,b] X.env=[(false,eval a X.env),(false,eval b X.env)]) Ar._auto_1) (HZ:autoParam (aT [b] X.env=[(false,eval b X.env)]) Ar._auto_1):
  Hx X (.Tuple elts kk NS) (.Call (.Name "zip" p) [a,b] [] pos) (Pq ta tb):=by
 intro E pins s σ H τ G R hE I h;have hA:rg X [a,b] (ah ta (ah tb aA)):=sv ha (sv hb Ap HZ) (by rw[hs,HZ]);refine Call_ (oJ I.inv hg hm WJ (iO (t7 hA pos hE I (R:=aaG λx y G1=>Bv x y G1 R) h λvs H1 ds G1 us s1 I1 m1 r1 jd q1=>?_) (by rw[hs,HZ]) (by rw[HZ];rfl)))
 match ds,q1 with
 | [x,y],q1=>
  change Bv x y G1 R at q1;obtain⟨w1,w2,rfl,LK,XX⟩:=jd.two;obtain⟨u1,u2,rfl,XY,U3⟩:=vals2 r1;unfold Bv at q1;split at q1
  .rename_i xs k1 ys k2 e1 e2;obtain⟨l1,v1,rfl,TX,rs1,st1⟩:=GH I1.inv I1.ab XY LK e1;obtain⟨l2,v2,rfl,Cp,Tz,QK⟩:=GH I1.inv I1.ab U3 XX e2;obtain⟨Pf,Xa,pl1,_⟩:=I1.inv.list TX;obtain⟨ug,LL,pl2,_⟩:=I1.inv.list Cp;refine call_zip_2 pl1.isList pl2.isList λh' z1 z2 z3 z4 z5 z6 z7=>?_;refine wpAny_pyIter_zip z1 ?_;refine⟨_,[s1.heap.objs.size+4,s1.heap.objs.size+2,s1.heap.objs.size+3,s1.heap.objs.size,s1.heap.objs.size+1],_,_,H1,G1,t6 xs ys,_,rfl,I1.inv.kept (t':=s1.toks) z7,m1,
    NR l1 l2 _ _ _ _ _ @k,⟨z1,z2,⟨_,_,z3⟩,z4,z5⟩,λc hc=>?_,λi H2 G2 k ab o=>?_,q1⟩
   .have KL:s1.heap.objs.size<=c:=by
     simp only[bN,bf,or_false] at hc;rcases hc with rfl |rfl |rfl |rfl |rfl
     .exact vM _ _
     .exact vM _ _
     .exact vM _ _
     .exact bb _
     .exact vM _ _
    exact I1.inv.MR KL (I1.inv.c8.fresh KL)
   .obtain⟨ws1,hw1,jd⟩:=st1 H2 G2 k ab o.1;obtain⟨ws2,ZS,Ey⟩:=QK H2 G2 k ab o.2;refine⟨λd hd=>?_,λhl=>⟨ws1,ws2,hw1,ZS,?_⟩⟩
    .rw[F1] at hd;cases hx:xs[i]? with
     |none=>rw[hx] at hd;cases hd
     | some x'=>
      cases hy:ys[i]? with
      |none=>rw[hx,hy] at hd;cases hd
      |some y'=>
       rw[hx,hy] at hd;have ed:D.tup [x',y']=d:=by simpa using hd
       subst ed;obtain⟨vx,hvx,rx⟩:=jd.get hx;obtain⟨vy,hvy,ry⟩:=Ey.get hy;refine⟨⟨ws1,vx,ws2,vy,hw1,hvx,ZS,hvy⟩,?_⟩;rintro v H3 ⟨T,px,py,ex,hT,e3,hx3,hy3⟩;subst ex e3;have q1:=hx3 ws1 hw1;have q2:=hy3 ws2 ZS;rw[hvx] at q1;rw[hvy] at q2;cases q1;cases q2;exact⟨.tup cR (.cons (rx.mono (.new hT)) (.cons (ry.mono (.new hT)) .nil)),.SH ab hT⟩
    .rw[FZ] at hl;rw[jd.length,Ey.length];lia
  .exact q1.elim
 |[],q1=>exact q1.elim
 |[_],q1=>exact q1.elim
 |_::_::_::_,q1=>exact q1.elim
end
end K2
end
section
namespace K2
open PySem PySem.Spec PyProof.Rows L2 PySem.W
mutual
theorem Gr{h h':Heap}(hk:∀b o vs n,o.data=.seq vs n->h.get? b=@j->@X=@j):∀(d:D) {v:Value} {as:List Addr},nr d=true->Reads h v (pd d) as->Reads h' v (pd d) as
 |.ff,_,_,_,r=>by cases r;exact .none
 |.bl b,_,_,_,r=>by cases r;exact .bool b
 |.int i,_,_,_,r=>by cases r;exact .int i _
 |.str x,_,_,_,r=>by cases r;exact .str x _
 |.tup ds,_,_,n,r=>by
  cases r with
  |tuple h1 h2 h3 h4=>exact .tuple (hk _ _ _ _ h3 h1) h2 h3 (mU hk ds n h4)
 |.dR ds,_,_,n,r=>by
  cases r with
  |list h1 h2 h3 h4=>exact .list (hk _ _ _ _ h3 h1) h2 h3 (mU hk ds n h4)
 |.pZ _,_,_,n,_=>by cases n
 |.ref _,_,_,n,_=>by cases n
 |.exc _,_,_,n,_=>by cases n
theorem mU{h h':Heap}(hk:∀b o vs n,o.data=.seq vs n->h.get? b=@j->@X=@j):∀(ds:@i) {vs:@D} {as:List Addr},EF ds=true->qW h vs (xZ ds) as->qW h' vs (xZ ds) as
 |[],_,_,_,r=>by cases r;exact .nil
 |d::ds,_,_,n,r=>by
  have n:(nr d&&EF ds)=true:=n;rw[bg] at n;cases r with
  |cons r1 r2=>exact .cons (Gr hk d n.1 r1) (mU hk ds n.2 r2)
end
mutual
theorem N7(G:Gp):∀(sh:ya) (d:D) (n:Nat),gF sh d=true->Xq sh<=n->Sn G n d d
 |.int,.int i,n,_,_=>.int i
 |.tup l,.tup ds,n,h,hn=>by
  have hn:P6 l+1<=n:=hn;obtain⟨m,rfl⟩:∃m,n=m+1:=⟨n-1,@e⟩;exact Kd G l ds m h (@e)
 |.lst s,.dR ds,n,h,hn=>by
  have hn:Xq s+1<=n:=hn;obtain⟨m,rfl⟩:∃m,n=m+1:=⟨n-1,@e⟩;exact Ke G s ds m h (@e)
theorem Kd(G:Gp):∀(l:List ya) (ds:@i) (m:Nat),je l ds=true->P6 l<=m->Sn G (m+1) (.tup ds) (.tup ds)
 |[],[],m,_,_=>.F6
 |s::l,d::ds,m,h,hm=>by
  have h:(gF s d&&je l ds)=true:=h;have hm:max (Xq s) (P6 l)<=m:=hm;rw[bg] at h;exact .qG (N7 G s d m h.1 (@e)) (Kd G l ds m h.2 (@e))
theorem Ke(G:Gp):∀(s:ya) (ds:@i) (m:Nat),iH s ds=true->Xq s<=m->Sn G (m+1) (.dR ds) (.dR ds)
 |s,[],m,_,_=>.Es
 |s,d::ds,m,h,hm=>by
  have h:(gF s d&&iH s ds)=true:=h;rw[bg] at h;exact .A7 (N7 G s d m h.1 hm) (Ke G s ds m h.2 hm)
end
section
variable {X:Cx}
theorem Mr(ty:pY x G)(hi:itemsOf x G=some zs):qP x G=some zs:=by
 cases x<;>first |exact ty.elim |exact hi
end
section
variable {X:Cx}
theorem M1:nG X (.type "int") cInt:=by
 intro pins s σ H G xs ds us Q I ab rx rd q;unfold cInt at q;split at q
 .rename_i b;obtain⟨w1,rfl,LK⟩:=rd.one;obtain⟨u,rfl,ru⟩:=rx.one;cases LK;cases ru;refine call_int_bool ?_;exact⟨.int _,H,.int _,G,I.tok _,.refl ab,⟨_,rfl⟩,.int _,q⟩
 .exact q.elim
variable {a:Expr} {ta:fh} {pos p afc p2:Pos}
end
end K2
end
section
namespace K2
open PySem PySem.Spec PyProof.Rows L2
section
variable {X:Cx}
def U9(neg:Bool):FJ:=λx y G Q=>match y with
 |.ff=>EA neg x G Q
 |_=>False
theorem Yn(r:RelV x v)(rd:cI X.K H x dx)(h:dx≠.ff):v≠.none:=by
 intro z;subst z;cases rd with
 |ff=>exact h rfl
 |bl b=>cases r
 |int i=>obtain⟨t,e⟩:=r;cases e
 |str x=>obtain⟨t,e⟩:=r;cases e
 |_=>cases r
theorem RD(h:x≠.ff)(q:EA neg x G Q):Q (.bl neg) G:=by
 cases x with
 |ff=>exact absurd rfl h
 |_=>exact q
theorem Mg:pS X (eZ .IsNot) (U9 true):=by
 intro pins s σ H G x y dx dy v u Q I ab rx ry dX dY q;unfold U9 at q;split at q
 .cases dY;cases ry;by_cases h:dx=.ff
  .subst h;cases dX;cases rx;exact isnot_none_none ⟨.bl false,H,.bl false,G,I,.refl ab,rfl,.bl _,q⟩
  .exact isnot_none_ne (Yn rx dX h) ⟨.bl true,H,.bl true,G,I,.refl ab,rfl,.bl _,RD h q⟩
 .exact q.elim
variable {a:Expr} {ta:fh} {pos p:Pos}
end
section
variable {K:aB} {h:Heap} {C:Addr} {Cs:@D} {newId:String}
theorem Ws{P:Prop}
  (q:PySem.W.excIn.match_1 (λ_ _=>Bool) m sl f (λ_ _=>false)=true)
  (k:∀C' bm k0 k1 k2 k3 n k5,m=.ref C'::bm->sl=[k0,k1,k2,k3,some (.builtin n),k5]->f C' bm k0 k1 k2 k3 n k5=true->P):P:=by
 have no:false=true->P:=λz=>bu z;cases m with
 |nil=>exact no q
 | cons v bm=>
  cases v with
  | ref C'=>
   obtain _ |⟨k0,_ |⟨k1,_ |⟨k2,_ |⟨k3,_ |⟨_ |w,sl⟩⟩⟩⟩⟩:=sl
   iterate 6 exact no q
   cases w with
   |builtin n=>
    obtain _ |⟨k5,_ |_⟩:=sl
    .exact no q
    .exact k C' bm k0 k1 k2 k3 n k5 rfl rfl q
    .exact no q
   |_=>exact no q
  |_=>exact no q
inductive Qz (h:Heap) (C:Addr) (Cs:@D) (newId:String):Prop
 |mk (bm N nm qn bs hdct sn sub ab col dd k0 k1 k2 k3 k5 mN) (o:h.get? C=some (NA nm qn C N bs bm hdct sn sub ab col dd k0 k1 k2 k3 k5 newId)) (n:h.Ns N mN) (i:mN "__init__"=none) (t:OwnTail h Cs bm):Qz h C Cs newId
theorem E5(Y:K.In h)(q:nJ K C Cs newId=true):Qz h C Cs newId:=by
 unfold nJ at q;split at q
 rotate_left
 .cases q
 rename_i dd cd sl ho;refine Ws q λC' bm k0 k1 k2 k3 n k5 hm hs q=>?_;obtain⟨nm,bs,mro,ns,qn,hd,sn,sub,ab,col,del⟩:=cd;obtain⟨sl⟩:=sl;subst hm hs;have q:(C' == C&&n == newId&&!del&&PySem.W.tailIn K Cs bm&&PySem.W.nsOkIn K ns&&gI K ns "__init__" == some none)=true:=q;simp only[bg,beq_iff_eq,mE] at q;obtain⟨⟨⟨⟨⟨e1,e2⟩,e3⟩,e4⟩,e5⟩,e6⟩:=q;subst e1 e2 e3;exact⟨bm,_,_,_,_,_,_,_,_,_,dd,k0,k1,k2,k3,k5,_,Y _ _ ho,.of_isNs (PySem.W.isNs_of_in Y e5),PySem.W.nsMap_none_of_in Y e5 e6,PySem.W.tail_of_in Y e4⟩
end
section
variable {X:Cx} {x:Str} {C:Addr} {Cs:@D} {B newId Pl:String} {e0:Expr} {es:List Expr} {np mB pos:Pos} {t:sV}
theorem IK(g:Gp->Gp)(hgg:∀H G,j7 X.K H G->j7 X.K H (g G))(hg:Gl X x)(hm:X.mg x=some @z)(q:nJ X.K C Cs newId=true)(FB:ExcBaseFacts B newId Pl Cs)(hc:X.calm=true)(ha:rg X (e0::es) t)
  (qw:autoParam ((x == ("__debug__":Str))=false) Ad._auto_1) (he:autoParam (aT (e0::es) X.env=(false,eval e0 X.env)::aT es X.env) Ar._auto_1) (fX:autoParam ((eW mB (aT es X.env)).any (·.1)=false) Ar._auto_1):
  ui X (.Raise (some (.Call (.Name x np) (e0::es) [] mB)) none pos) (λE _ τ G=>t E τ G λds G1=>ds.length<=SZ/\E ⟨x,[]⟩ (g G1)):=by
 intro E pins s σ H τ G D hE I h;obtain⟨tl,N,nm,qn,bs,hdct,sn,sub,ab,col,dd,k0,k1,k2,k3,k5,mN,hC,hN,hni,T⟩:=E5 I.inv.ok.mod.MD q;refine wpAny_Raise_call_subT (C:=C) (nm:=nm) (q:=qn) (N:=N) (bs:=bs) (bm:=tl) (hdct:=hdct) (sn:=sn) (sub:=sub) (ab:=ab) (col:=col) (dd:=dd) (k0:=k0) (k1:=k1) (k2:=k2) (k3:=k3) (k5:=k5)
  FB (mN:=mN) (T.hasType FB.hasBase) (I.inv.ok.hd hc) (by rw[he];show(false||(eW mB (aT es X.env)).any (·.1))=false;rw[fX];rfl) hni (mr I.inv hg hm ⟨rfl,?_⟩ qw)
 have w:=t7 (Q:=λus s2=>us.length<=bB/\(∀b o,X.base.get? b=@j->s2.heap.get? b=@j)/\∀h' e,Heap.MadeExcOf s2.heap h' e @z us->X.xe (.ref e) {s2 with heap:=h'}) ha mB hE I h
  λvs H1 ds G1 us s1 I1 m1 r rd z=>⟨by rw[<-r.length,rd.length,cX];exact z.1,I1.inv.bk,λh' e hx=>hE.made pins σ H1 s1 h' e C us ⟨x,[]⟩ _ I1.inv (hgg _ _ I1.ab) hx hm z.2⟩
 rw[he] at w ⊢;exact QG (iq w (λus s2 h2=>⟨rfl,h2.1,h2.2.1 _ _ hC,hN.keeps h2.2.1,T.keeps h2.2.1,h2.2.2⟩) λ_ _ y=>y)
theorem IJ(hg:Gl X x)(hm:X.mg x=some @z)(q:nJ X.K C Cs newId=true)(FB:ExcBaseFacts B newId Pl Cs)(hc:X.calm=true)(ha:rg X (e0::es) t)
  (qw:autoParam ((x == ("__debug__":Str))=false) Ad._auto_1) (he:autoParam (aT (e0::es) X.env=(false,eval e0 X.env)::aT es X.env) Ar._auto_1) (fX:autoParam ((eW mB (aT es X.env)).any (·.1)=false) Ar._auto_1):
  ui X (.Raise (some (.Call (.Name x np) (e0::es) [] mB)) none pos) (fV x t):=IK id (λ_ _ z=>z) hg hm q FB hc ha qw he fX
end
theorem _root_.Internal.L2.fJ.there(x:fJ P w H h a o):∃ob,h.get? a=some ob:=by
 cases o with
 |lst xs=>obtain⟨_,_,_,_,e⟩:=x;exact⟨_,e⟩
 |tup xs=>obtain⟨_,_,_,ob,e,_⟩:=x;exact⟨_,e⟩
 |dK bx=>obtain⟨_,_,_,_,o,_,_,e,_⟩:=x;exact⟨_,e⟩
 |dT bx=>obtain⟨_,_,_,_,o,_,_,e,_⟩:=x;exact⟨_,e⟩
 |set S n=>obtain⟨o,_,_,_,e,_⟩:=x;exact⟨_,e⟩
 |ins C dx fs=>obtain⟨_,_,_,e,_⟩:=x;exact⟨_,e⟩
 |own y=>exact x
 |xd fs=>obtain⟨_,⟨_,_,_,e,_⟩,_⟩:=x;exact⟨_,e⟩
 |X1 lo hi=>obtain⟨_,_,_,e⟩:=x;exact⟨_,e⟩
 |kU ob u=>obtain⟨e,_⟩:=x;exact⟨_,e⟩
 |Rg ps=>obtain⟨_,e,_⟩:=x;exact⟨_,e⟩
 |met f y=>exact⟨_,x⟩
 |ext φ=>obtain⟨_,e,_⟩:=x;exact e
theorem IV{h1 B:Heap}(I:Inv X pins σ H1 s1)(w9:X.stack=X.env::X.outer)(KH:X.env.frame=some X.env.locals)(hex:X.ex=[])
  (Yx:∀b o,s1.heap.get? b=@j->h1.get? b=@j) (hB:∀b o,s1.heap.get? b=@j->b∉tQ X.stack->(X.iR.heap.get? b≠none\/H1 b≠none)->B.get? b=@j) (i9:B.StaysIn h') (up:h1.UpToSlots h'):
  Un (tQ X.outer) [] X.Nd H1 X.iR.heap h'/\oQ X.prog X.w H1 h'/\∀b o,@X=@j->b∉tQ X.outer->(X.iR.heap.get? b≠none\/H1 b≠none)->B.get? b=@j:=by
 have efr:tQ X.stack=X.env.locals::tQ X.outer:=by rw[w9];unfold tQ;rw[Lr KH]
 have OY:∀b,b∉tQ X.outer->b≠X.env.locals->b∉tQ X.stack:=λb h1 h2 h3=>by
  rw[efr] at h3;rcases List.mem_cons.mp h3 with e |e
  .exact h2 e
  .exact h1 e
 have old:∀b o,X.iR.heap.get? b=@j->b≠X.env.locals:=λb o q=>bO (bQ (ba q) I.ok.above);have tr:∀b u,H1 b=some u->b∉tQ X.stack:=λb u q hb=>by rw[I.Eg b hb] at q;cases q
 have nx:∀b:Addr,b∉X.ex:=λb=>by rw[hex];exact bf
 have frame:∀b o,b∈tQ X.outer->s1.heap.get? b=@j->∃sl,@X=some {o with slots:=sl}:=λb o hb e=>by
  obtain⟨_,o2,e2,nf⟩:=I.stack.mem (show b∈tQ X.stack by rw[efr];exact .tail _ hb);rw[e] at e2;cases e2;exact up b o (Yx b o e) nf
 have go:∀b o,s1.heap.get? b=@j->b∉tQ X.stack->(X.iR.heap.get? b≠none\/H1 b≠none)->@X=@j:=λb o e n c=>i9 b o (hB b o e n c);refine⟨⟨λb o q n hb _=>?_,λb o q n hb _=>?_,λb o q n _=>I.base.free b o q n (nx b),λb o q _=>?_,I.base.rM,I.base.q5,I.base.yk,I.base.wO⟩,λa o q=>?_,λb o e hb hc=>?_⟩
 .exact go b o (I.base.keep b o q n hb (nx b)) (OY b hb (old b o q)) (.inl (by rw[q];simp))
 .obtain⟨sl,e⟩:=I.base.slot b o q n hb (nx b);obtain⟨Rn,e2⟩:=frame b _ hb e;exact⟨Rn,e2⟩
 .obtain⟨o',e⟩:=I.base.there b o q (nx b);by_cases hb:b∈tQ X.outer
  .obtain⟨Rn,e2⟩:=frame b _ hb e;exact⟨_,e2⟩
  .exact⟨o',go b o' e (OY b hb (old b o q)) (.inl (by rw[q];simp))⟩
 .refine(I.c8 a o q).i9 (λb u hb e=>?_) (λb r=>r) (λb xs r=>r);rcases hb with rfl |hb
  .exact go b u e (tr b _ q) (.inr (by rw[q];simp))
  .exact go b u e (tr b _ hb) (.inr (by rw[hb];simp))
 .have n:b∉tQ X.stack:=by
   rcases hc with hc |hc
   .cases q:X.iR.heap.get? b with
    |none=>exact absurd q hc
    |some o0=>exact OY b hb (old b o0 q)
   .cases q:H1 b with
    |none=>exact absurd q hc
    |some u=>exact tr b u q
  have:∃o1,s1.heap.get? b=some o1:=by
   rcases hc with hc |hc
   .cases q:X.iR.heap.get? b with
    |none=>exact absurd q hc
    |some o0=>exact I.base.there b o0 q (nx b)
   .cases q:H1 b with
    |none=>exact absurd q hc
    |some u=>exact(I.c8 b u q).there
  obtain⟨o1,e1⟩:=this;have e2:=go b o1 e1 n hc;rw[e] at e2;cases e2;exact hB b o e1 n hc
section
variable {P:bY} {w:World} {K:aB} {mg:@aa} {base:Heap} {N:@n} {qual:Str} {scope:Scope} {f:Addr} {cd:Value} {A:eI} {outer:List Env} {s:aL} {H:Hp} {Ek:XK} {E2:iM}
theorem Yu(ke:∀ex C H' G',E2 ex G'->j7 K H' G'->mg ex.cls=some @z->Ek @z none H'):Lk (vE (vK P w) P w K mg base N qual scope f cd A outer s H Ek) E2 where
 made:=λpins σ H1 s1 h1 a C args ex G1 I DI hx hm hE=>by
  show wpAny (model P w) _ (leaving _ (@m)) _ _ _;refine wpAny_leaves_madeW (h:=s1.heap) (base:=PySem.W.hideAll s1.heap (tQ (vE (vK P w) P w K mg base N qual scope f cd A outer s H Ek).stack)) I.ok.frames rfl (λb o q=>QC _ q)
   (PySem.W.funFrames_hide I.stack λenv he b hb=>List.mem_filterMap.mpr ⟨env,he,hb⟩) hx λh' t fl tup tn up=>?_
  obtain⟨un,c8,hB⟩:=IV I rfl rfl rfl hx.keeps (λb o e n _=>ND _ e n) fl.1 up;refine⟨a,C,t,_,H1,rfl,I.os,I.bare,un,c8,hB,fl,?_,?_,ke ex C H1 G1 hE DI hm⟩
  .cases q:H1 a with
   |none=>rfl
   |some u=>
    obtain⟨o,e⟩:=(I.c8 a u q).there;have:=hx.new;rw[e] at this;cases this
  .cases q:s.heap.get? a with
   |none=>rfl
   |some o=>
    obtain⟨o',e⟩:=I.base.there a o q bf;have:=hx.new;rw[e] at this;cases this
 pass:=λpins σ H1 s1 s' e I Py=>by
  obtain⟨a,C,t,B,H',e1,os,bare,un,c8,hB,fl,ha,hs,ex,C',G2,e2,hm,DI,hE⟩:=Py;subst e1;cases e2;show wpAny (model P w) _ (leaving _ (@m)) _ _ _;have I':Inv (vE (vK P w) P w K mg base N qual scope f cd A outer s H Ek) pins σ H' s':=by
   obtain⟨hh,g,d,t,os'⟩:=s';obtain rfl:os'=s1.os:=os;exact I.call (h':=hh) (g':=g) (d':=d) (t':=t) (ch:=[]) un c8 bare (λb z=>absurd z @k)
  refine wpAny_leaves_onW I.ok.frames rfl fl λh' fl' up=>?_;obtain⟨Rb,Bx,hB'⟩:=IV I' rfl rfl rfl (λ_ _ e=>e) (λb o e n c=>hB b o e n (c.imp (λz=>by
   cases q:@Z with
   |none=>exact absurd q z
   |some o0=>obtain⟨o1,e1⟩:=I.base.there b o0 q bf;rw[e1];simp) id)) fl'.1 up
  refine⟨a,C,t,B,H',rfl,I'.os,I'.bare,Rb,Bx,hB',fl',ha,?_,ke ex C H' G2 hE DI hm⟩;cases q:s.heap.get? a with
  |none=>rfl
  |some o=>obtain⟨o1,e1⟩:=I.base.there a o q bf;rw[e1] at hs;cases hs
end
def hW(K:aB)(mg:@aa)(sp:di):Sp:=λvs H Q E=>∃ds G Q2 E2,bq K H vs ds/\j7 K H G/\sp ds G Q2 E2/\(∀d G' v H',Q2 d G'->Mv K H G H' G'->cI K H' v d->Q v H') /\
 ∀(ex:Ex) (C:Addr) (H':Hp) (G':Gp),E2 ex G'->j7 K H' G'->mg ex.cls=some @z->E @z none H'
theorem KQ{P:bY}{w:World}{K:aB}{mg:@aa}{base:Heap}{x qual:Str}{st:Stmt}{f:Addr}{fd:cG}{Nn ps:@n}{k:Nat}{sp:di}{rd:da}(F:Qy K x qual st f fd)(S:ip Nn ps (bK st))(len:∀ds G Q E,sp ds G Q E->ds.length=ps.length)
  (hr:∀ds G Q E,sp ds G Q E->rd E @q (aJ Nn.length ds) G)
  (hb:∀(fT:Value) (A:eI) (outer:List Env) (s:aL) (H:Hp) (E:XK),fM k (A.deeper (AJ qual (bK st) s.heap.objs.size f fT))->ma (vE (vK P w) P w K mg base Nn qual (bK st) f fT A outer s H E) (c7 st) rd):lu P w K mg base (vK P w) (k+1) f fd ps (hW K mg sp):=by
 obtain⟨oc,od,kV,doc,pm,an,fT,ct,HX,rfl,lk,KJ⟩:=F.ex;refine T9 lk KJ S ((by rintro vs H Q E ⟨ds,G,Q2,E2,r,ab,q,_⟩;exact by rw[r.length];exact len _ _ _ _ q)) ?_;rintro A outer s H vs Q E Pu ⟨ds,G,Q2,E2,r,ab,q,kk,ke⟩;refine⟨_,Oq (hb fT A outer s H E Pu) (Yu ke),?_⟩;exact⟨aJ Nn.length ds,G,ends Q2,F9 r,ab,hr ds G Q2 E2 q,λiJ H' j5 G' mv z=>kk _ _ _ _ z mv .ff,λv H' d G' mv rdv z=>kk _ _ _ _ z mv rdv,λ_ _ z=>z,λ_ _ z=>z⟩
noncomputable def Jm:HO->Bool
 |.tup _=>true
 |.kU _ (.lst _)=>true
 |.kU _ (.dK _)=>true
 |.kU _ (.dT _)=>true
 |.kU _ (.ext _)=>true
 |.kU _ (.xd _)=>true
 |_=>false
def hr(H:Hp):Hp:=λb=>(H b).bind λo=>if Jm o=true then @j else none
noncomputable def hj(H1 H':Hp):Hp:=λb=>match H1 b with
 |some o=>@j
 |none=>H' b
section
variable {P:bY} {w:World} {K:aB} {H H1 H':Hp} {h h':Heap} {b:Addr} {o:HO} {fs:List Addr}
theorem lC(q:hr H b=@j):H b=@j/\Jm o=true:=by
 unfold hr at q;cases e:H b with
 |none=>rw[e] at q;cases q
 |some u=>
  rw[e] at q;simp only[tZ] at q;by_cases k:Jm u=true
  .rw[if_pos k] at q;cases q;exact⟨rfl,k⟩
  .rw[if_neg k] at q;cases q
theorem pG(q:H b=@j)(k:Jm o=true):hr H b=@j:=by unfold hr;rw[q,tZ,if_pos k]
theorem mw(q:H b=none):hr H b=none:=by unfold hr;rw[q];rfl
theorem Pw(q:H b=@j)(k:Jm o=false):hr H b=none:=by unfold hr;rw[q,tZ,if_neg (by rw[k];exact hU)]
theorem Jr(x:oQ P w H h):oQ P w (hr H) h:=λa o q=>by
 obtain⟨e,k⟩:=lC q;have y:=x a o e;cases o with
 |tup xs=>exact y
 | kU ob u=>
  cases u with
  |lst _=>exact y
  |dK _=>exact y
  |ext _=>exact y
  |xd _=>exact y
  |dT bx=>
   obtain⟨e1,z,n,xs,r,rest⟩:=y;exact⟨e1,z,n,xs,L2.Paired.VL r (λp q z=>⟨z.1,pG z.2.1 rfl,z.2.2⟩),rest⟩
  |_=>exact bu (show false=true from k)
 |_=>exact bu (show false=true from k)
theorem ni(q:H1 b=@j):hj H1 H' b=@j:=by unfold hj;rw[q]
theorem lg(q:H1 b=none):hj H1 H' b=H' b:=by unfold hj;rw[q]
theorem join(un:Un fs [] (hr H1) H' h h')(k1:oQ P w H1 h)(k2:oQ P w H' h')(fr:∀b∈fs,H1 b=none):
  Un fs [] H1 (hj H1 H') h h'/\oQ P w (hj H1 H') h'/\Kp H' (hj H1 H')/\∀b u,(∀o,H1 b=@j->Jm o=false\/∃ob v,o=.kU ob v)->H1 b≠none->h.get? b=some u->@X=some u:=by
 have nx:∀c:Addr,c∉([]:List Addr):=λc=>bf;have Yk:∀c u,H1 c=some u->c∉fs:=λc u q z=>by rw[fr c z] at q;cases q
 have rz:∀c u v,H1 c=some u->H' c=some v->u=v/\Jm u=true:=λc u v q q'=>by
  cases k:Jm u with
  |false=>
   obtain⟨ob,e⟩:=(k1 c u q).there;have:=un.free c ob e (Pw q k) (nx c);rw[this] at q';cases q'
  |true=>
   have r:=pG q k;cases u with
   |tup xs=>have:=un.rM c xs r;rw[q'] at this;cases this;exact⟨rfl,rfl⟩
   |kU ob x=>have:=un.q5 c ob x r;rw[q'] at this;cases this;exact⟨rfl,rfl⟩
   |_=>exact bu (show false=true from k)
 have same:∀b u,(∀o,H1 b=@j->Jm o=false\/∃ob v,o=.kU ob v)->H1 b≠none->h.get? b=some u->@X=some u:=λb u hh hn e=>by
  cases q:H1 b with
  |none=>exact absurd q hn
  | some o=>
   cases k:Jm o with
   |false=>exact un.keep b u e (Pw q k) (Yk b o q) (nx b)
   |true=>
    rcases hh o q with z |⟨ob,v,rfl⟩
    .rw[z] at k;cases k
    .have h1:=(k2 b _ (un.q5 b ob v (pG q k))).1;have h2:=(k1 b _ q).1;rw[h2] at e;cases e;exact h1
 refine⟨⟨λc u e n hc hx=>un.keep c u e (mw n) hc hx,λc u e n hc hx=>un.slot c u e (mw n) hc hx,λc u e n hx=>?_,λc u e hx=>un.there c u e hx,λc xs q=>ni q,λc ob u q=>ni q,λc ps q=>ni q,λc x q=>ni q⟩,λc o q=>?_,⟨λc xs q=>?_,λc ob u q=>?_⟩,same⟩
 .rw[lg n];exact un.free c u e (mw n) hx
 .cases q1:H1 c with
  | some o1=>
   rw[ni q1] at q;cases q;by_cases ht:∃xs,o=.tup xs
   .obtain⟨xs,rfl⟩:=ht;exact k2 c _ (un.rM c xs (pG q1 rfl))
   .refine(k1 c o q1).i9 (λd u hd e=>?_) (λd r=>ni r) (λd xs r=>ni r);rcases hd with rfl |hd
    .refine same d u (λo' e'=>?_) (by rw[q1];simp) e;rw[q1] at e';cases e';cases o with
     |tup xs=>exact absurd ⟨xs,rfl⟩ ht
     |kU ob v=>exact .inr ⟨ob,v,rfl⟩
     |_=>exact @E
    .refine same d u (λo' e'=>?_) (by rw[hd];simp) e;rw[hd] at e';cases e';exact @E
  | none=>
   rw[lg q1] at q;refine(k2 c o q).i9 (λd u _ e=>e) (λd r=>?_) (λd xs r=>?_)
   .cases q2:H1 d with
    |none=>rw[lg q2];exact r
    |some u=>obtain⟨rfl,k⟩:=rz d u _ q2 r;exact bu (show false=true from k)
   .cases q2:H1 d with
    |none=>rw[lg q2];exact r
    |some u=>obtain⟨rfl,k⟩:=rz d u _ q2 r;exact ni q2
 .cases q2:H1 c with
  |none=>rw[lg q2];exact q
  |some u=>obtain⟨rfl,k⟩:=rz c u _ q2 q;exact ni q2
 .cases q2:H1 c with
  |none=>rw[lg q2];exact q
  |some v=>obtain⟨rfl,k⟩:=rz c v _ q2 q;exact ni q2
end
theorem cI.hr{K:aB}(h:cI K H v d):cI K (K2.hr H) v d :=
 cI.rec (motive_1:=λv d _=>cI K (K2.hr H) v d) (motive_2:=λv d _=>bq K (K2.hr H) v d) (motive_3:=λv d _=>rj K (K2.hr H) v d) (motive_4:=λv d _=>rD K (K2.hr H) v d)
  .ff .bl .int .str (λh _ r=>.tup (pG h rfl) r) (λh _ r=>.dR (h.imp (λq=>q.elim λo q=>⟨o,pG q rfl⟩) id) r) (λh _ r=>.uc (pG h rfl) r) (λh _ r=>.t9 (pG h rfl) r) .ref (λh=>.exc (by obtain⟨o,C,h1,h2,h3⟩:=h;exact⟨o,C,pG h1 rfl,h2,h3⟩)) (λh _ r=>.Cr (by obtain⟨o,C,dx,od,fs,h1,h2,h3,h4,h5,h6⟩:=h;exact⟨o,C,dx,od,fs,pG h1 rfl,h2,h3,h4,pG h5 rfl,h6⟩) r) (λh z _ _ r1 r2=>.Dp (pG h rfl) z r1 r2) .nil (λ_ _ a b=>.cons a b) .nil (λ_ _ a b=>.cons a b) .nil (λ_ _ a b=>.cons a b) h
theorem bq.hr{K:aB}(h:bq K H v d):bq K (K2.hr H) v d :=
 bq.GK (P:=λv d=>bq K (K2.hr H) v d) .nil (λr _ ih=>.cons r.hr ih) h
section
variable {M:Model} {A:eI} {E:@M}
variable {nm q nm' q':Str} {C N D N':Addr} {bs bm bs' Z5:@D} {hdct T5:Bool} {sn sn':@n} {sub XQ:@D} {ab FG:Bool} {col Zj:Option Bool} {dd Wz:Option Addr} {k0 k1 k2 k3 k5 k0' k1' k2' k3' k5':Option Value} {newId VG:String}
theorem Mq{h:Heap}{g:Array GenState}{d:Drawn}{t:Nat}{os:mL}{e:Addr}{oe:Obj}{Q:Bool->aL->Prop}
  (hC:h.get? C=some (NA nm q C N bs bm hdct sn sub ab col dd k0 k1 k2 k3 k5 newId)) (hD:h.get? D=some (NA nm' q' D N' bs' Z5 T5 sn' XQ FG Zj Wz k0' k1' k2' k3' k5' VG))
  (he:h.get? e=some oe) (PJ:oe.cls=.ref C) (GQ:Z5.contains (.type "BaseException")=true)
  (hq:Q ((fN C::bm).contains (.ref D)) ⟨h,g,d,t,os⟩):wpAny M A (excMatches (.ref e) (.ref D)) Q E ⟨h,g,d,t,os⟩:=by
 have hcB:(fN D::Z5).contains (.type "BaseException")=true:=by rw[List.contains_cons,GQ,Bool.or_true]
 have f:=tc_notTuple;generalize hb:(fN C::bm).contains (.ref D)=r at hq;unfold excMatches
 repeat (first |(with_reducible refine wpAny_loadPart_at he ?_;rw[PJ]) |with_reducible refine wpAny_loadPart_at hD ?_ |(with_reducible refine wpAny_isSubtype_exc hD ?_;rw[hcB]) |(with_reducible refine wpAny_isSubtype_exc hC ?_;rw[hb]) |wp_step)
 cases r
 .wp_walk;exact hq
 .wp_walk;exact hq
end
section
variable {X:Cx} {pins:@A} {σ:L2.St} {H1:Hp} {G1:Gp} {s1:aL} {k:Nat} {f:Addr} {fd:cG} {ps:@n} {sp:di}
theorem TM(ab:j7 X.K H1 G1):Mv X.K H1 G1 (hj H1 H') G1:=by
 have kp:Kp H1 (hj H1 H'):=⟨λa xs e=>ni e,λa o u e=>ni e⟩;have FG:j7 X.K (hj H1 H') G1:=λa g e=>(ab a g e).mono kp (by
  cases q:H1 a with
  |none=>exact absurd q (ab a g e).tracked
  |some o=>exact ni q)
 exact⟨λa o e n=>⟨ni e,n⟩,λa n=>by
  cases q:G1 a with
  |none=>exact absurd q n
  |some g=>exact(FG a g q).tracked,FG⟩
theorem Ob(F:lu X.prog X.w X.K X.mg X.base (vK X.prog X.w) k f fd ps (hW X.K X.mg sp))(hr:fM k X.A)(hb:Binds X.K fd ps [])(I:Inv X pins σ H1 s1)(ab:j7 X.K H1 G1)(r:Vals vs us)(rd:bq X.K H1 vs ds)
  (h:sp ds (λ_=>none) Q2 E2):wpAny @r X.A (call (.ref f) us)
   (λu s'=>∃v d G' Hj,Inv X pins σ Hj s'/\Mv X.K H1 G1 Hj G1/\RelV v u/\cI X.K Hj v d/\Q2 d G')
   (λe s'=>∃(a C t:Addr) (B:Heap) (ex:Ex) (Hj:Hp),e=@m/\Inv X pins σ Hj s'/\Mv X.K H1 G1 Hj G1/\oB B X.stack a @z (.ref t) s'.heap /\
    (∀b o,s'.heap.get? b=@j->b∉tQ X.stack->(s1.heap.get? b≠none\/Hj b≠none)->B.get? b=@j)/\Hj a=none/\s1.heap.get? a=none/\X.mg ex.cls=some @z/\∃G',E2 ex G') s1:=by
 have EN:hW X.K X.mg sp vs (K2.hr H1) (λv H'=>∃d G',cI X.K H' v d/\Q2 d G') (Xp X.K X.mg E2) :=
  ⟨ds,λ_=>none,Q2,E2,rd.hr,(λ_ _ z=>by cases z),h,λd G' v H' q _ A6=>⟨d,G',A6,q⟩,λex C H' G' q FG hm=>⟨ex,C,G',rfl,hm,FG,q⟩⟩
 have hl:us.length=ps.length:=by rw[<-r.length];exact F.len _ _ _ _ EN
 have e0:=I.S4;have e1:Fx X.prog X.w X.K X.mg X.base X.A X.stack s1 (K2.hr H1):=⟨e0.frames,e0.mod,λb o q=>⟨(e0.bs b o q).1,mw (e0.bs b o q).2⟩,e0.M5,e0.vB,λb z=>mw (e0.KR b z),Jr e0.c8,e0.bare⟩;have YZ:=hb s1 us I.sD (by rw[bH];exact hl);rw[bH] at YZ;refine Ci (oS (F.run X.A X.stack s1 (K2.hr H1) ⟨us,[]⟩ us vs _ _ hr e1 YZ r EN) λres s' hq=>?_);cases res with
 | error e=>
  obtain⟨a,C,t,B,H',rfl,os,bare,un,c8,hB,fl,ha,hs,ex,C',G2,ec,hm,_,hE⟩:=hq;cases ec;obtain⟨Rb,Bx,_,_⟩:=join un I.c8 c8 e0.KR;have h1a:H1 a=none:=by
   cases q:H1 a with
   |none=>rfl
   |some u=>obtain⟨o,e⟩:=(I.c8 a u q).there;rw[e] at hs;cases hs
  refine⟨a,C,t,B,ex,hj H1 H',rfl,I.Lg (ch:=[]) os Rb Bx bare (λb z=>absurd z @k),TM ab,fl,λb o e n c=>hB b o e n ?_,by rw[lg h1a];exact ha,hs,hm,G2,hE⟩;rcases c with c |c
  .exact .inl c
  .cases q:H1 b with
   |none=>rw[lg q] at c;exact .inr c
   |some u=>obtain⟨o1,e1⟩:=(I.c8 b u q).there;exact .inl (by rw[e1];simp)
 | ok fl=>
  cases fl with
  |ret u=>
   obtain⟨v,H',os,bare,un,c8,rv,d,G',A6,q⟩:=hq;obtain⟨Rb,Bx,kp,_⟩:=join un I.c8 c8 e0.KR;exact⟨v,d,G',hj H1 H',I.Lg (ch:=[]) os Rb Bx bare (λb z=>absurd z @k),TM ab,rv,A6.mono kp,q⟩
  |next=>exact bE hq
  |brk=>exact bE hq
  |cont=>exact bE hq
end
section
variable {X:Cx} {pins:@A} {σ:L2.St} {H H1:Hp} {s s1:aL} {h6 B:Heap} {a:Addr} {o:Obj} {u:HO}
theorem Lf{h:Heap}(up:h.UpToSlots h')(z:h.IsCell c v):h'.IsCell c v:=by
 obtain⟨o,ho,hd⟩:=z;obtain⟨sl,e⟩:=up c o ho (λvs q=>by rw[hd] at q;cases q);exact⟨_,e,hd⟩
theorem OD(I:@o)(w9:X.stack=X.env::X.outer)(KH:X.env.frame=some X.env.locals)(hp:p∈X.pn++pins):p.1∉tQ X.stack:=λz=>by
 obtain⟨_,_,h3,h4,_⟩:=I.pin p hp;rw[w9] at z;unfold tQ at z;rw[Lr KH] at z;rcases List.mem_cons.mp z with e |e
 .exact h3 e
 .exact h4 e
theorem D4(I:@o)(I1:Inv X pins σ H1 s1)(w9:X.stack=X.env::X.outer)(KH:X.env.frame=some X.env.locals)(hex:X.ex=[])
    (hB:∀b o,@Z=@j -> b∉tQ X.stack -> (s1.heap.get? b≠none\/H b≠none) -> B.get? b=@j) (i9:B.StaysIn h6) (up:s.heap.UpToSlots h6) (tk):Inv X pins σ H {s with heap := h6,toks := tk} := by
  have z := IV I w9 KH hex (λ_ _ e=> e) (λb o e n c=> hB b o e n (c.imp (λc=> by
    cases q:X.iR.heap.get? b with
    |none=> exact absurd q c
    |some o0=> obtain⟨o1,e1⟩ := I1.base.there b o0 q (by rw[hex];exact bf);rw[e1];simp) id)) i9 up
  exact { ok := I.ok,os := I.os,bare := I.bare
          base := by rw[hex];exact z.1
          loc := by
            obtain⟨m,hn,hl⟩ := I.loc;exact⟨m,up.ns hn,λi x v e1 e2 e3=> let ⟨u,r,q⟩ := hl i x v e1 e2 e3;⟨u,r,q.imp id λ⟨k,c,e,y⟩=> ⟨k,c,e,Lf up y⟩⟩⟩
          cell := λx c e=> let ⟨v,y⟩ := I.cell x c e;⟨v,Lf up y⟩
          free := I.free,jX := I.jX
          pin := λp hp=> by
            obtain⟨h1,h2⟩ := I.pin p hp;exact⟨i9 _ _ (hB p.1 p.2 h1 (OD I w9 KH hp) (.inl (by rw[(I1.pin p hp).1];simp))),h2⟩
          c8 := z.2.1
          len := I.len}
theorem Nc(I:@o)(ha:H a=none)(hn:X.iR.heap.get? a=none)(nl:a≠X.env.locals)(nc:∀x c,@aj -> c≠a)(np:∀p∈X.pn ++ pins,p.1≠a)(new:fJ X.prog X.w (upd H a u) s.heap a u):
    Inv X pins σ (upd H a u) s := by
  have ne:∀b v,H b=some v -> b≠a := λb v q e=> by rw[e,ha] at q;cases q
  exact { ok := I.ok,os := I.os,bare := I.bare
          base := ⟨I.base.keep,I.base.slot,λb o q n hx=> by
            have:b≠a := λe=> by rw[e,hn] at q;cases q
            rw[bP this];exact I.base.free b o q n hx,I.base.there,λb xs q=> by have r := I.base.rM b xs q;rw[bP (ne _ _ r)];exact r,λb o v q=> by have r := I.base.q5 b o v q;rw[bP (ne _ _ r)];exact r,
            λb ps q=> by have r := I.base.yk b ps q;rw[bP (ne _ _ r)];exact r,
            λb x q=> by have r := I.base.wO b x q;rw[bP (ne _ _ r)];exact r⟩
          loc := I.loc,cell := I.cell
          free := by rw[bP (dA nl)];exact I.free
          jX := λx c e=> by rw[bP (nc x c e)];exact I.jX x c e
          pin := λp hp=> by obtain⟨h1,h2,h3⟩ := I.pin p hp;exact⟨h1,by rw[bP (np p hp)];exact h2,h3⟩
          c8 := λb v q=> by
            by_cases e:b=a
            . subst e;rw[cR] at q;cases q;exact new
            . rw[bP e] at q
              exact(I.c8 b v q).i9 (λ_ _ _ y=> y) (λc r=> by rw[bP (ne _ _ r)];exact r) (λc xs r=> by rw[bP (ne _ _ r)];exact r)
          len := I.len}
noncomputable abbrev marked(X:Cx)(v:Value):Cx:={X with A:=X.A.mark (some v),calm:=false,xe:=@f}
theorem Tp(ok:X.Ok):(marked X v).Ok :=
 ⟨ok.mod,ok.kind,ok.glob,ok.blt,ok.above,ok.inj,ok.has,ok.Xu,λz=>(by cases z),ok.frames,ok.XR,ok.Zc,ok.bs,ok.M5,ok.IZ,ok.MU,ok.vB,ok.KR⟩
theorem HH(I:@o):Inv (marked X v) pins σ H s:=⟨Tp I.ok,I.os,I.bare,I.base,I.loc,I.cell,I.free,I.jX,I.pin,I.c8,I.len⟩
theorem JO(ok:X.Ok)(I:Inv (marked X v) pins σ H s):@o:=⟨ok,I.os,I.bare,I.base,I.loc,I.cell,I.free,I.jX,I.pin,I.c8,I.len⟩
theorem UJ{M:Model}{A:eI}{E:Value -> aL -> Prop}{i:Nat}{n:Str}{pos:Pos}{Q:Unit -> aL -> Prop}(I:@o)(hN:X.N.Nodup)(hi:X.N[i]?=some n)(hk:X.env.scope.names.lookup n=some .local)
    (h:∀s',Inv X pins (σ.set i none) H s' -> Q () s'):wpAny M A (do bindName X.env n .none;unbindBehindTheSuite X.env n pos) Q E s := by
  obtain⟨m,hn,hl⟩ := id I.loc;have PJ:(X.env.scope.kind == .class || (X.env.scope.kind == .module && X.env.locals != X.env.globals))=false := by rw[I.ok.kind];rfl
  obtain⟨oL,_,_,ZU,_⟩ := id hn;refine wpAny_nameGoes_keeps hk hn PJ λh' v MI hs=> h _ ?_;have low:∀b o,X.iR.heap.get? b=@j -> b≠X.env.locals := λb o e=> bO (bQ (ba e) I.ok.above)
  exact { ok := I.ok,os := I.os,bare := I.bare
          base := ⟨λb o e n hb hx=> (hs.2 b (low b o e)).trans (I.base.keep b o e n hb hx),λb o e n hb hx=> by
              obtain⟨sl,e1⟩ := I.base.slot b o e n hb hx;exact⟨sl,(hs.2 b (low b o e)).trans e1⟩,I.base.free,λb o e hx=> by
              obtain⟨o',e1⟩ := I.base.there b o e hx;exact⟨o',(hs.2 b (low b o e)).trans e1⟩,I.base.rM,I.base.q5,I.base.yk,I.base.wO⟩
          loc := ⟨_,MI,fun j y v' e1 e2 e3=> by
            by_cases hj:j=i
            . subst hj
              by_cases DE:j<σ.length
              . rw[fi DE] at e2;cases e2
              . rw[nH (by rw[fB];lia)] at e2;cases e2
            . rw[eT (dA hj)] at e2
              obtain⟨u',r',q⟩ := hl j y v' e1 e2 e3;refine⟨u',r',?_⟩;rcases q with ⟨k,e⟩ |⟨k,c,e,z⟩
              . refine .inl ⟨k,?_⟩
                have:y≠n := λe=> hj (Ba hN e1 (e ▸ hi));simp[this,e]
              . exact .inr ⟨k,c,e,z.sameBut hs (I.S8 y c e)⟩⟩
          cell := λy c e=> by
            obtain⟨w',z⟩ := I.cell y c e;exact⟨w',z.sameBut hs (I.S8 y c e)⟩
          free := I.free,jX := I.jX
          pin := λp hp=> by
            obtain⟨h1,h2,h3,h4⟩ := I.pin p hp;exact⟨(hs.2 p.1 h3).trans h1,h2,h3,h4⟩
          c8 := λb ob e=> by
            refine(I.c8 b ob e).i9 (λc w' hc q=> (hs.2 c ?_).trans q) (λ_ q=> q) λ_ _ q=> q;rintro rfl;rcases hc with rfl |hc
            . rw[I.free] at e;cases e
            . rw[I.free] at hc;cases hc
          len := by rw[fB];exact I.len}
end
theorem Ng{K:aB}(a:Nh K H σ τ)(i):Nh K H (σ.set i none) (τ.set i none):=by
 refine⟨by rw[fB,fB];exact a.len,λj e h=>?_⟩;by_cases hj:i=j
 .subst hj;by_cases hi:i<τ.length
  .rw[fi hi] at h;cases h
  .rw[nH (by rw[fB];lia)] at h;cases h
 .rw[eT hj] at h;obtain⟨w,h1,h2⟩:=a.at' j e h;exact⟨w,by rw[eT hj];exact h1,h2⟩
noncomputable def subIn(K:aB)(C:Addr)(v:Value):Bool:=match K.lookup C with
 |some ⟨_,_,.cls cd,_⟩=>cd.mro.contains v
 |_=>false
theorem Ri{K:aB}
  (Y:K.In h) (hC:h.get? C=some (NA nm q C N bs bm hdct sn sub ab col dd k0 k1 k2 k3 k5 newId)) (e:subIn K C v=true):(fN C::bm).contains v=true:=by
 unfold subIn at e;split at e
 .rename_i ho;have:=Y _ _ ho;rw[hC] at this;cases this;exact e
 .cases e
section
variable {X:Cx} {x cn n:Str} {D f:Addr} {fd:cG} {ps:@n} {k i:Nat} {sp:di} {Z4:@D} {newD:String} {cat:@n} {e:Expr} {es:List Expr} {p np pos ep vq tp:Pos} {Eh:Stmt} {lH:List Stmt} {t:sV} {th:da}
structure HJ(X:Cx):Prop where
 st:X.stack=X.env::X.outer
 fr:X.env.frame=some X.env.locals
 ex:X.ex=[]
structure Clause(X:Cx)(i:Nat)(n cn:Str)(D:Addr)(cat:@n):Prop where
 nd:X.N.Nodup
 rz:X.N[i]?=some n
 loc:X.env.scope.names.lookup n=some .local
 gl:Gl X cn
 mg:X.mg cn=some (.ref D)
 cls:∃Z4 newD,nJ X.K D Z4 newD=true/\Z4.contains (.type "BaseException")=true
 cat:∀c,cat.contains c=true->∃C Cs newId,gI X.K bj c=some (some @z)/\nJ X.K C Cs newId=true/\subIn X.K C (.ref D)=true
theorem zt{ex:Ex}(A0:HJ X)(L:Clause X i n cn D cat)(SE:∀v,ma (marked X v) (Eh::lH) th)(J1:Inv X pins σ H1 s1)(st1:Nh X.K H1 σ τ)(ab1:j7 X.K H1 G1)(m1:Mv X.K H G H1 G1)
  (I':Inv X pins σ Hj s') (mv:Mv X.K H1 G1 Hj G1) (fl:oB B X.stack a @z (.ref t0) s'.heap) (hB:∀b o,s'.heap.get? b=@j->b∉tQ X.stack->(s1.heap.get? b≠none\/Hj b≠none)->B.get? b=@j)
  (Xm:Hj a=none) (GL:s1.heap.get? a=none) (MJ:X.mg ex.cls=some @z) (KL:cat.contains ex.cls=true)
  (q':th (@f) ⟨λj5 G'=>Dn.nx (j5.set i none) G',@f,@f,@f⟩ (τ.set i (some (.exc ex.cls))) G1) (PH:(cn == ("__debug__":Str))=false):
  wpAny @r X.A (Ny (@m) X.env) (λ_ iQ=>wpAny @r X.A (setFlight (@m) none) (λ_ ym=>wpAny @r X.A (handleBy (@m) X.env [.ExceptHandler (some (.Name cn np)) (some n) (Eh::lH) vq]) (FI X pins H G Dn) X.xe ym) X.xe iQ) X.xe s':=by
 obtain⟨w9,KH,hex⟩:=A0;obtain⟨hN,hi,hl,hgD,hmD,⟨Z4,newD,qD,bD⟩,abL⟩:=L;obtain⟨C',Cs,newId,vt,qC,V3⟩:=abL ex.cls KL;have eC:C'=C:=by
  have:=PySem.W.mg_of J1.ok.mod.MD J1.ok.mod.glob vt;rw[MJ] at this;cases this;rfl
 subst eC;rw[w9] at fl;refine wpAny_looks_onW (L:=X.env.locals) (by rw[<-w9];exact J1.ok.frames) KH fl λh4 held up4=>?_;refine wpAny_landsW held λh5 fl5 up5=>?_;have I5:Inv X pins σ Hj {s' with heap:=h5}:=D4 I' J1 w9 KH hex hB fl5.1 (up4.trans up5) _;refine wpAny_handleBy_cons (codeAny_handlers_test ?_) (by intro z;cases z);refine mr (X:=marked X (@m)) (HH I5) hgD hmD ?_ PH;obtain⟨bm,N,nm,qn,bs,hdct,sn,sub,ab,col,dd,k0,k1,k2,k3,k5,mN,hC,_,_,T⟩:=E5 I5.sD qC;obtain⟨Z5,N',nm',qn',bs',T5,sn',XQ,FG,Zj,Wz,k0',k1',k2',k3',k5',mN',hD,_,_,T'⟩:=E5 I5.sD qD;obtain⟨oe,he5,hce⟩:=fl5.there;refine Mq hC hD he5 hce (T'.hasType bD) ?_;rw[Ri I5.sD hC V3];refine codeAny_handlers_suite_as ?_;refine lands_againW fl5 λh6 fl6 up6=>?_;have I6:Inv X pins σ Hj {s' with heap:=h6}:=D4 I' J1 w9 KH hex hB fl6.1 ((up4.trans up5).trans up6) _;obtain⟨VD,he6,hc6⟩:=fl6.there;have nl:a≠X.env.locals:=λz=>by
  obtain⟨m,⟨oL,_,_,ZU,_⟩,_⟩:=J1.loc;rw[z,ZU] at GL;cases GL
 have nc:∀y c,X.env.cells.lookup y=some c->c≠a:=λy c ec z=>by
  obtain⟨v,o,ho,_⟩:=J1.cell y c ec;rw[z,GL] at ho;cases ho
 have npn:∀q∈X.pn++pins,q.1≠a:=λq hq z=>by
  have:=(J1.pin q hq).1;rw[z,GL] at this;cases this
 have hn:X.iR.heap.get? a=none:=by
  cases q0:X.iR.heap.get? a with
  |none=>rfl
  |some o=>obtain⟨o1,e1⟩:=J1.base.there a o q0 (by rw[hex];exact bf);rw[e1] at GL;cases GL
 have I7:=Nc (u:=.kU VD (.ext λh=>h.get? a=some VD)) I6 Xm hn nl nc npn ⟨he6,he6,⟨_,he6⟩,λh1 h2 q k=>k _ q⟩;have mvT:Mv X.K Hj G1 (upd Hj a (.kU VD (.ext λh=>h.get? a=some VD))) G1:=.SH mv.ab Xm;have kp7:Kp H1 (upd Hj a (.kU VD (.ext λh=>h.get? a=some VD))):=(mv.trans mvT).kp ab1;refine yn (v:=@m) I7 hN hi (.inl hl) rfl (λs8 I8 _=>?_) (.inr hl);refine iq (SE (@m) (@f) pins s8 _ _ (τ.set i (some (.exc ex.cls))) G1 _ (Lk.none λ_ _ z=>z)
  ⟨HH I8,(st1.mono kp7).set i (.exc ⟨VD,C',cR,hc6,vt⟩),mvT.ab⟩ q') (λfw s9 q9=>?_) (λ_ _ z=>z.elim)
 cases fw with
 |next=>
  obtain⟨XD,H9,W6,G9,I9,m9,q9⟩:=q9;exact UJ (JO J1.ok I9.inv) hN hi hl λs10 I10=>⟨XD.set i none,H9,W6.set i none,G9,⟨I10,Ng I9.st i,I9.ab⟩,m1.trans (mv.trans (mvT.trans m9)),q9⟩
 |brk=>obtain⟨_,_,_,_,_,_,z⟩:=q9;exact z.elim
 |cont=>obtain⟨_,_,_,_,_,_,z⟩:=q9;exact z.elim
 |ret u=>obtain⟨_,_,_,_,_,_,_,_,_,z⟩:=q9;exact z.elim
theorem Mb(F:lu X.prog X.w X.K X.mg X.base (vK X.prog X.w) k f fd ps (hW X.K X.mg sp))(hr:fM k X.A)(hg:Gl X x)(hm:X.mg x=some (.ref f))(hk:iN X.K (.ref f)=true)(hb:Binds X.K fd ps [])
  (ha:rg X (e::es) t) (qw:autoParam ((x == ("__debug__":Str))=false) Ad._auto_1) (he:autoParam @af Ar._auto_1) (fX:autoParam ((eW pos (aT es X.env)).any (·.1)=false) Ar._auto_1):
  dw X (.Call (.Name x p) (e::es) [] pos) (kM sp t):=by
 ext c;refine eG (mr I.inv hg hm ?_ qw);refine fy (h₀:=X.base) I.inv.ok.mod.MD hk (t7 ha pos hE I h λvs H1 ds G1 us s1 I1 m1 r rd q=>⟨I1.inv.sD,?_⟩) he fX;refine fY (yq (E:=Xp X.K X.mg E) F hr hb .nil (λpins σ H s e s' I hq=>hE.pass pins σ H s s' e I hq) I1.inv r (Q:=zR X.K H1 G1 Q) ?_) λ_ _ z=>(qa.of z).trans m1;rw[bH];exact⟨ds,G1,Q,E,rd,I1.ab,q,λd G' v H' q' m' A6=>⟨d,G',m',A6,q'⟩,λex C H' G' q' FG MJ=>⟨ex,C,G',rfl,MJ,FG,q'⟩⟩
end
end K2
end
section
namespace K2
open PySem PySem.Spec PyProof.Rows L2 PySem.W PySem.Calls PySem.Builtin PySem.Builtin.Getset_descriptor
section
variable {prog:bY} {w:World} {A:eI} {E:@M} {s:aL} {K:aB} {a C:Addr} {ox:Obj}
theorem S3 {Q:Option Value->aL->Prop} {B:String} {Cs:@D} (FB:NJ B Cs) (X:K.In s.heap) (hx:s.heap.get? a=some ox) (hc:ox.cls=.ref C) (hga:AI K @z "__getattribute__"=some (some (.builtin "BaseException.__getattribute__"))) (hgn:AI K @z "__getattr__"=some none)
  (hA:AI K @z "__class__"=some (some (.builtin "object.__class__"))) (hG:specialIn K (.builtin "object.__class__") "__get__"=some (some (.builtin "getset_descriptor.__get__"))) (hT:takesIn K (.builtin "object.__class__")=some true) (hm:mroIn K C (.type "object")=some true) (hmB:mroIn K C (.type "BaseException")=some true)
  (h:Q (some @z) {s with toks:=s.toks+1}):wpAny @T A (getAttr? (@m) "__class__") Q E s:=by
 obtain⟨hh,g,d,t,os⟩:=s;have L0:Looks @T hh (typeOf (@m)) @z:=hc ▸ (Looks.ld hx).andThen .now;have L1:=looks_findIn (M:=model prog w) X hga;have L2:=looks_findIn (M:=model prog w) X hgn;have L5:=looks_mroIn (M:=model prog w) X hm;have L3:Looks @T hh (Builtin.ObjectAttr.find (@m) @z "__class__") (.bind (.builtin "getset_descriptor.__get__") (.builtin "object.__class__")):=by
  refine(looks_findIn X hA).andThen ((looks_specialIn X hG:Looks @T hh (Builtin.ObjectAttr.getOf (some (.builtin "object.__class__"))) _).andThen ?_);refine((looks_takesIn X hT).andThen .now:Looks @T hh (Builtin.ObjectAttr.dataDescriptor? (some (.builtin "object.__class__")) (some (.builtin "getset_descriptor.__get__"))) (some (.builtin "getset_descriptor.__get__",.builtin "object.__class__"))).andThen ?_;exact Looks.tag .now
 have L4:=looks_mroIn (M:=model prog w) X hmB;have ZQ:(Value.builtin "BaseException.__getattribute__" == Value.builtin "object.__getattribute__")=false:=@W
 unfold getAttr? getAttrBy? getAttrBy;refine aR (wpAny_mkText (aR (wpAny_attempt (iu (aR (L0.at (aR (L1.at ?_))))))));dsimp only;rw[if_neg (by rw[ZQ];simp)];unfold getAttrByItsOwn hookBefore callGetattribute;have f3:=FB.ga.bind (@m);have fin:u3 @T A (.call (.builtin "BaseException.__getattribute__") ⟨[@m,.str "__class__" t],[]⟩) (λr s'=>r=.ok (.ret @z)/\s'=⟨hh,g,d,t+1,os⟩) ⟨hh,g,d,t+1,os⟩:=by
  refine codeAny_call_builtin FB.ga.plain F.entry_bexc_ga ?_;have hk:builtinKind "BaseException.__getattribute__"=some .slot:=@W
  have V4:splitId "BaseException.__getattribute__"=some ("BaseException","__getattribute__"):=@W
  have ha:=F.args_bexc_ga (@m) (.str "__class__" t);have LI:Looks @T hh (isInstance (@m) (.type "BaseException")) true:=L0.andThen L4;simp only[checkBuiltinCall,hk,V4];refine aR (LI.at ?_);simp only[aK,ag,if_false];have body:wpAny @T A.in1 (Builtin.«object.__getattribute__» ⟨[@m,.str "__class__" t],[]⟩)
    (λfin s'=>fin=.done (.ret @z)/\s'=⟨hh,g,d,t+1,os⟩) (@f) ⟨hh,g,d,t+1,os⟩:=by
   unfold Builtin.«object.__getattribute__»;refine aR (bI ?_);refine aR (bI ?_);refine aR (L0.at (aR (L3.at ?_)));show wpAny _ _ (Builtin.ObjectAttr.bindTo (.builtin "getset_descriptor.__get__") (.builtin "object.__class__") (@m) @z) _ _ _;show wpAny _ _ (do let v ← qb [.builtin "object.__class__"] (call (.builtin "getset_descriptor.__get__") [.builtin "object.__class__",.ref a,.ref C]);ret v) _ _ _;refine aR (iu (Ci ?_));refine codeAny_call_builtin KF.slot_gs.plain KF.entry_gs (KF.slot_gs.check _ _ _ _ _ _ _ _ KF.type_class (KF.args_gs _ _ _) ?_);unfold Builtin.«getset_descriptor.__get__» descrGet;rw[dga_obj];refine aR (bI ?_);unfold descrGetter descrCheckInstance descrNameAndClass isInstance;simp only[KF.owner_class]
   repeat lk
   refine⟨Code.quiet_builtin _ (@W),AK KF.entry_class ?_⟩;unfold Builtin.«object.__class__» shownTypeOf
   repeat lk
   exact⟨rfl,rfl⟩
  have go:∀z:Sem Unit,z=pure ()->∀(P:Unit->aL->Prop) (E':@M) s',P () s'->wpAny @T A.in1 z P E' s':=λz e P E' s' hp=>by rw[e];exact bI hp
  refine go _ ha _ _ _ (iq body ?_ (λ_ _ z=>z.elim));rintro fin s' ⟨e1,e2⟩;subst e1;exact⟨rfl,e2⟩
 refine aR (L2.at (aR (wpAny_attempt (iu ?_))));simp only[zI,ag,if_false];unfold boundAndCalled;rw[f3];refine aR (bI (Ci (oS fin ?_)));rintro r s' ⟨e1,e2⟩;subst e1;subst e2;exact bI (bI h)
structure D6(K:aB)(C:Addr):Prop where
 ga:AI K @z "__getattribute__"=some (some (.builtin "BaseException.__getattribute__"))
 gn:AI K @z "__getattr__"=some none
 rz:AI K @z "__class__"=some (some (.builtin "object.__class__"))
 sp:specialIn K (.builtin "object.__class__") "__get__"=some (some (.builtin "getset_descriptor.__get__"))
 tk:takesIn K (.builtin "object.__class__")=some true
 mo:mroIn K C (.type "object")=some true
 mb:mroIn K C (.type "BaseException")=some true
 is:(clsIn K C).isSome=true
theorem w4(FB:NJ B Cs)(Z:D6 K C):KitX K (@m) @z (λh=>∃o,h.get? a=@j/\o.cls=.ref C) where
 ty:=by rintro M h _ ⟨o,hx,hc⟩;exact hc ▸ (Looks.ld hx).andThen .now
 it:=λM h X _=>by
  have SK:=Z.is;unfold clsIn at SK;split at SK
  .rename_i ho;intro A' Q' E' s' k q;unfold isType loadHead;exact aR (wpAny_loadPart (k _ _ (X _ _ ho)) (bI q))
  .cases SK
 ne:=λh tp dd b9 n sl X htp=>by
  have SK:=Z.is;refine Bool.eq_false_iff.mpr λq=>?_;have e:C=tp:=Value.ref.inj (beq_iff_eq.mp q);subst e;unfold clsIn at SK;split at SK
  .rename_i ho;have z:=(X _ _ ho).symm.trans htp;cases z
  .cases SK
 ca:=λX ⟨o,hx,hc⟩ k=>S3 FB X hx hc Z.ga Z.gn Z.rz Z.sp Z.tk Z.mo Z.mb k
end
end K2
end
section
namespace K2
open PySem PySem.Spec PyProof.Rows L2
theorem Qi{l:@n}{P:Str->Prop}{x:Str}(h:P x)(t:∀c,l.contains c=true->P c):∀c,(x::l).contains c=true->P c:=λc hc=>by
 rw[List.contains_cons,dQ] at hc;rcases hc with hc |hc
 .rw[beq_iff_eq.mp hc];exact h
 .exact t c hc
section
variable {X:Cx} {a:Expr} {ta:fh} {p pos:Pos} {B:String} {Cs:@D} {all sub:@n}
theorem ON    (FB:NJ B Cs) (hg:Gl X "isinstance") (hm:X.mg "isinstance"=none) (SI:Gl X y) (YM:X.mg y=some @z) (abr:qc X.K (.type "NoneType") @z=some false)
  (PF:∀c,all.contains c=true->∃C',gI X.K bj c=some (some (.ref C'))/\qc X.K (.ref C') @z=some (sub.contains c)/\D6 X.K C') (ha:dw X a ta) (qw:autoParam ((y == ("__debug__":Str))=false) Ad._auto_1)
  (he:autoParam (aT [a,.Name y py] X.env=(false,eval a X.env)::aT [.Name y py] X.env) Ar._auto_1) (fX:autoParam ((eW pos (aT [HQ y py] X.env)).any (·.1)=false) Ar._auto_1) (PG:autoParam (aT [.Name y py] X.env=[(false,eval (.Name y py) X.env)]) Ar._auto_1):
  dw X (.Call (.Name "isinstance" p) [a,.Name y py] [] pos) (qV all sub ta):=by
 ext c;refine eG (oJ I.inv hg hm md ?_);refine hV ?_ he fX;rw[he];show wpAny _ _ (D7 ((false,eval a X.env)::eW pos (aT [.Name y py] X.env))) _ _ s;refine gM (j0 ha hE I h λv H1 d G1 u s1 I1 m1 r1 jd q1=>?_);rw[PG];show wpAny _ _ (D7 [(false,eval (.Name y py) X.env)]) _ _ s1;refine gM (mr I1.inv SI YM (rJ ?_) qw);have fin:∀b tk,Q (.bl b) G1->qa X pins σ H G Q (.bool b) {s1 with toks:=tk}:=λb tk q=>
  ⟨.bl b,H1,.bl b,G1,I1.inv.tok _,m1,rfl,.bl b,q⟩
 cases jd with
 |ff=>
  cases r1;exact eA QV I1.inv.sD iB abr (λz=>nomatch z) λtk=>fin false tk q1
 |exc h0=>
  cases r1;obtain⟨o,C',e1,e2,e3⟩:=h0;obtain⟨oN,q2⟩:=q1;obtain⟨C2,e4,k1,k2⟩:=PF _ oN;rw[e3] at e4;cases e4;exact eA (w4 FB k2) I1.inv.sD ⟨o,(I1.inv.c8 _ _ e1).1,e2⟩ k1 (λz=>nomatch z) λtk=>fin _ tk q2
 |Cr h0 _=>
  cases r1;obtain⟨o,C',_,_,_,e1,e2,e3,_⟩:=h0;obtain⟨oN,q2⟩:=q1;obtain⟨C2,e4,k1,k2⟩:=PF _ oN;rw[e3] at e4;cases e4;exact eA (w4 FB k2) I1.inv.sD ⟨o,(I1.inv.c8 _ _ e1).1,e2⟩ k1 (λz=>nomatch z) λtk=>fin _ tk q2
 |_=>exact q1.elim
end
section
variable {X:Cx} {a:Expr} {ta:fh} {p pos:Pos} {B:String} {Cs:@D} {all:@n}
theorem zQ:dj "ValueError"=some (.type "ValueError"):=by first |rfl |decide +kernel
theorem OM  (FB:NJ B Cs) (hg:Gl X "isinstance") (hm:X.mg "isinstance"=none) (SI:Gl X "ValueError") (YM:X.mg "ValueError"=none)
  (PF:∀c,all.contains c=true->∃C',gI X.K bj c=some (some (.ref C'))/\qc X.K (.ref C') (.type "ValueError")=some true/\D6 X.K C') (ha:dw X a ta)
  (he:autoParam (aT [a,.Name "ValueError" py] X.env=(false,eval a X.env)::aT [.Name "ValueError" py] X.env) Ar._auto_1) (fX:autoParam ((eW pos (aT [HQ "ValueError" py] X.env)).any (·.1)=false) Ar._auto_1) (PG:autoParam (aT [.Name "ValueError" py] X.env=[(false,eval (.Name "ValueError" py) X.env)]) Ar._auto_1):
  dw X (.Call (.Name "isinstance" p) [a,.Name "ValueError" py] [] pos) (DR all ta):=by
 ext c;refine eG (oJ I.inv hg hm md (hV ?_ he fX));rw[he];show wpAny _ _ (D7 ((false,eval a X.env)::eW pos (aT [.Name "ValueError" py] X.env))) _ _ s;refine gM (j0 ha hE I h λv H1 d G1 u s1 I1 m1 r1 jd q1=>?_);rw[PG];show wpAny _ _ (D7 [(false,eval (.Name "ValueError" py) X.env)]) _ _ s1;refine gM (oJ I1.inv SI YM zQ (rJ ?_));have fin:∀b tk,Q (.bl b) G1->qa X pins σ H G Q (.bool b) {s1 with toks:=tk}:=λb tk q=>
  ⟨.bl b,H1,.bl b,G1,I1.inv.tok _,m1,rfl,.bl b,q⟩
 cases jd with
 |exc h0=>
  cases r1;obtain⟨o,C',e1,e2,e3⟩:=h0;obtain⟨oN,q2⟩:=q1;obtain⟨C2,e4,k1,k2⟩:=PF _ oN;rw[e3] at e4;cases e4;exact eA (w4 FB k2) I1.inv.sD ⟨o,(I1.inv.c8 _ _ e1).1,e2⟩ k1 (λz=>nomatch z) λtk=>fin _ tk q2
 |Cr h0 _=>
  cases r1;obtain⟨o,C',_,_,_,e1,e2,e3,_⟩:=h0;obtain⟨oN,q2⟩:=q1;obtain⟨C2,e4,k1,k2⟩:=PF _ oN;rw[e3] at e4;cases e4;exact eA (w4 FB k2) I1.inv.sD ⟨o,(I1.inv.c8 _ _ e1).1,e2⟩ k1 (λz=>nomatch z) λtk=>fin _ tk q2
 |_=>exact q1.elim
end
section
variable {X:Cx} {e:Expr} {te:fh} {pos:Pos}
theorem scm(h1:autoParam (sc.kind=.function) Ar._auto_1)(h2:autoParam (sc.isCoroutine=false) Ar._auto_1)(h3:autoParam (sc.isGenerator=false) Ar._auto_1)(h4:autoParam N.Nodup Ak._auto_1)(h5:autoParam (N.take ps.length=ps) Ar._auto_1)
  (h6:autoParam (∀x∈ps,sc.names.lookup x=some .local\/sc.names.lookup x=some .cell) Ak._auto_1) (h7:autoParam (∀y∈sc.names,y.2≠.free) Ak._auto_1):ip N ps sc:=⟨h1,h2,h3,h4,h5,h6,h7⟩
end
section
variable {X:Cx} {a b c:Expr} {ta tb tc:fh} {pos:Pos}
theorem R9     (hg:Gl X x) (hm:X.mg x=some (.int i t)) (hd:autoParam ((x == ("__debug__":Str))=false) Ad._auto_1):dw X (.Name x p) (dC (.int i)):=pq (RV (v:=.int i) hg hm ⟨t,rfl⟩ hd) λ_ _=>.int i
end
section
variable {X:Cx}
theorem LS{j}(ha:dw X a ta):CP X (.Compare a [.IsNot] [.Constant .none j p] pos) (bX (rq (EA true) ta)) :=
 show CP X _ (bX (aG (U9 true) ta (dC .ff))) from EB Mg ha Kj (IY _)
end
section
variable {X:Cx}
theorem O3 (hu:X.A.units+64<cLine):JN X "dict.get" Bf:=by
 intro pins s σ H G x d xs ds v us Q I ab rx rd Rq Rw q;unfold Bf at q;split at q
 .rename_i a k d';obtain⟨bx,hg,hk,q⟩:=q;cases rd;obtain⟨w,w2,rfl,LK,XX⟩:=Rw.two;obtain⟨u1,u2,rfl,XY,U3⟩:=vals2 Rq;cases rx;obtain⟨H',o,I',m,g,e1,e2⟩:=BQ I ab hg hk LK;refine WA (d:=w2) (@e) I' g XY U3 λw' s' I2 rr=>?_;cases hl:look bx k with
  |some d2=>
   obtain⟨v',ho,rr'⟩:=e2 d2 hl;subst ho;rw[hl] at q;exact⟨v',H',d2,G,I2,m,rr,rr',q⟩
  | none=>
   rw[hl] at e1 q;have ho:o=none:=by cases o with
    |none=>rfl
    |some _=>cases e1
   subst ho;exact⟨w2,H',d',G,I2,m,rr,XX.mono (m.kp ab),q⟩
 .exact q.elim
end
end K2
end
section
namespace K2
open PySem PySem.Spec PyProof.Rows L2 PySem.W
open Enc (enc)
section
variable {X:Cx}
theorem Pk{K:aB}:∀{ns:@I} {vs:List V} {b9:@D},bq K H vs (ns.map enc)->Vals vs b9->k7 b9 ns:=by
 intro ns;induction ns with
 |nil=>intro vs b9 r v;cases r;cases v;exact .nil
 | cons n ns ih=>
  intro vs b9 r v;cases r with
  |cons r1 r2=>
   cases r1;cases v with
   |cons v1 v2=>obtain⟨t,rfl⟩:=(show ∃t,_=FT n t from v1);exact .cons _ _ (ih r2 v2)
theorem MH{K:aB}(h:k7 b9 ns):Vals (ns.map V.int) b9/\bq K H (ns.map V.int) (ns.map enc):=by
 induction h with
 |nil=>exact⟨.nil,.nil⟩
 |cons _ _ _ ih=>exact⟨.cons ⟨_,rfl⟩ ih.1,.cons (.int _) ih.2⟩
theorem CO (hc:X.calm=true) (hu:X.A.units+64<cLine):nG X (.builtin "sorted") nz:=by
 intro pins s σ H G xs ds us Q I ab rx rd q;unfold nz at q;split at q
 .rename_i x;obtain⟨ns,ty,hi,h64,q⟩:=q;obtain⟨w1,rfl,LK⟩:=rd.one;obtain⟨u,rfl,ru⟩:=rx.one;obtain⟨l,vs,b9,rfl,rv,rs,hl,_⟩:=nE I ab ru LK (Mr ty hi);obtain⟨m,F0⟩:=I.fr;refine kso_sorted F0 Gx hl (Pk rs rv) h64 λDd vs' Sr c h' F N DE ia il pm so _=>?_;obtain⟨k2,ns2⟩:=Dw I F0 F λp hp=>N p (aP _ hp);have hD:s.heap.get? Dd=none:=by
   have nD:=N _ aQ;cases qd:s.heap.get? Dd with
   |none=>rfl
   |some o=>exact absurd (DE _ (ze nD.2.1 nD.2.2 qd)) (jY _)
  have hp:H Dd=none:=KS I.c8 hD;have es:Rl ns=Sr:=Cy ((rO ns).trans pm.symm) (ID ns) (so.imp λh=>by unfold Co;exact(by simpa[cy.lt] using h));rw[es] at q;have hsz:bB=16777216:=cX;obtain⟨ZI,LN⟩:=MH (K:=X.K) (H:=H) ia;refine⟨.ref Dd,upd H Dd (.lst (Sr.map V.int)),.ref _,_,Inv.TN (t':=s.toks) I k2 ns2 hD ?_,.Ja ab hp LN,rfl,.ref _,q _ (ab.free hp)⟩;exact⟨by rw[ax];lia,_,c,ZI,(N _ aQ).1⟩
 .exact q.elim
end
end K2
end
section
namespace K2
open PySem PySem.Spec PyProof.Rows L2
section
variable {X:Cx} {x cn n:Str} {D f:Addr} {fd:cG} {ps:@n} {k i:Nat} {sp:di} {cat:@n} {e c:Expr} {es:List Expr} {p np pos ep vq tp aa3:Pos} {Eh:Stmt} {lH:List Stmt} {t:sV} {th u v:da} {tA:yJ} {hs:List yg} {body sa sb:List Stmt}
def XC(X:Cx)(hs:List yg)(Q:Flow->aL->Prop):@M:=λe eU=>wpAny @r X.A (Ny e X.env) (λ_ iQ=>wpAny @r X.A (setFlight e none) (λ_ ym=>wpAny @r X.A (handleBy e X.env hs) Q X.xe ym) X.xe iQ) X.xe eU
def FH(X:Cx)(hs:List yg)(body:List Stmt)(t:da):Prop :=
 ∀(pins:@A) (s:aL) (σ:L2.St) (H0:Hp) (G0:Gp) (H:Hp) (τ:ik) (G:Gp) (Dn:kN),Mv X.K H0 G0 H G->I2 X pins σ H τ G s->t (@f) Dn τ G ->
  wpAny @r X.A (execs body X.env) (FI X pins H0 G0 Dn) (XC X hs (FI X pins H0 G0 Dn)) s
theorem Ov(hb:FH X (h0::hs) body v):ui X (.Try body (h0::hs) [] [] tp) (BS v):=by
 intro E pins s σ H τ G Dn hE I h;refine wpAny_Try_except ?_;refine iq (hb pins s σ H G H τ G Dn (.refl I.ab) I h) (λfl s1 q=>?_) λ_ _ z=>z;cases fl with
 |next=>exact j9 q
 |brk=>exact q
 |cont=>exact q
 |ret u=>exact q
theorem XJ(hc:∀EX,CP (X.jZ EX) c tA)(ha:FH X hs sa u)(hb:FH X hs sb v):FH X hs [.If c sa sb aa3] (bF tA u v):=by
 intro pins s σ H0 G0 H τ G Dn m0 I h;refine lO ?_;have fin:∀(fl:Flow) (s':aL),FI X pins H0 G0 Dn fl s'->(match fl with |.next=>wpAny @r X.A (execs [] X.env) (FI X pins H0 G0 Dn) (XC X hs (FI X pins H0 G0 Dn)) s' |f=>FI X pins H0 G0 Dn f s'):=λfl s' q=>by
  cases fl with
  |next=>exact j9 q
  |brk=>exact q
  |cont=>exact q
  |ret u=>exact q
 generalize Wj:XC X hs (FI X pins H0 G0 Dn)=EX at fin;have I0:I2 (X.jZ EX) pins σ H τ G s:=⟨I.inv.jZ EX,I.st,I.ab⟩;refine wpAny_If (IB (X:=X.jZ EX) (hc EX) (Lk.none λ_ _ z=>z) I0 h λd H1 G1 s1 I1 m1 q1=>?_);have J1:I2 X pins σ H1 τ G1 s1:=⟨I1.inv.jk,I1.st,I1.ab⟩;subst Wj;cases d with
 |true=>exact iq (ha pins s1 σ H0 G0 H1 τ G1 Dn (m0.trans m1) J1 (by simpa using q1)) fin λ_ _ z=>z
 |false=>exact iq (hb pins s1 σ H0 G0 H1 τ G1 Dn (m0.trans m1) J1 (by simpa using q1)) fin λ_ _ z=>z
end
section
variable {prog:bY} {w:World} {A:eI} {E:@M}
theorem xC{x1}(hh:A.handled=none)(ht:s.heap.IsList t items)
  (hn:(jB elts env).length=items.size) (YD:(jB elts env).findIdx? (·.1)=none)
  (h:∀h',Heap.ExtBut s.heap.objs.size s.heap h'->wpAny @T A (assignInOrder ((jB elts env).map (·.2)) items.toList) Q E {s with heap:=h'}):
  wpAny @T A (AL (.Tuple elts x1 pos) env (.ref t)) Q E s:=by
 rw[assign_Tuple];refine aR (FK ?_);unfold unpack;rw[hn,YD];exact aR (iu (PySem.W.kun_itemsOf hh ht h))
end
section
variable {X:Cx} {es:List Expr} {pos:Pos}
theorem RU(hc:X.calm=true)(h:Hy X es t)(hgl:∀E ds τ G Q,t E ds τ G Q->ds.length=n)
  (hn:autoParam ((jB es X.env).length=n) Ar._auto_1) (w9:autoParam ((jB es X.env).findIdx? (·.1)=none) Ar._auto_1):AD X (.Tuple es k pos) (MQ t):=by
 intro E pins s σ H τ G w d u Q hE I r rd hw;unfold MQ at hw;have W9:∀(l:Addr) (ys:List V) (zs:@i),w=.ref l->qE X.K H l ys->bq X.K H ys zs->t E zs τ G Q->wpAny @r X.A (AL (.Tuple es k pos) X.env u) (λ_ s'=>∃iJ H' j5 G',I2 X pins iJ H' j5 G' s'/\Mv X.K H G H' G'/\Q j5 G') X.xe s:=λl ys zs e hq rs hw=>by
  subst e;cases r;obtain⟨b9,rv,pl,hz⟩:=I.inv.list hq;refine xC (I.inv.ok.hd hc) pl.isList (by rw[hn,aZ,<-rv.length,rs.length];exact(hgl _ _ _ _ _ hw).symm) w9 λh' hx=>?_;have I1:Inv X pins σ H {s with heap:=h'}:=I.inv.kept (t':=s.toks) λb o e=>hx b o (bO (ba e)) e;exact h E pins _ σ H τ G _ _ _ Q hE ⟨I1,I.st,I.ab⟩ (by simpa using rv) rs hw
 cases rd with
 |dR hq rs=>exact W9 _ _ _ rfl hq.sq rs hw
 | ref l=>
  unfold qP at hw;dsimp only at hw;cases hg:G l with
  |none=>rw[hg] at hw;exact hw.elim
  | some g=>
   rw[hg] at hw;cases g with
   |lst ds=>
    obtain⟨vs,hv,rs⟩:=I.ab.lst hg;exact W9 _ _ _ rfl (.of hv) rs hw
   |ins _ _=>exact hw.elim
   |Ia _=>exact hw.elim
   |jG bx=>exact hw.elim
 |_=>exact bE hw
end
section
variable {X:Cx} {a st:Expr} {ta:fh} {ts:WT} {p2 pos:Pos}
theorem OE(u v):slicePick #[u,v] none none (some (-1))=#[v,u]:=by kernel_rfl
theorem OK(he:dw X a ta)(hs:XB X (some st) ts)(V3:autoParam (∀l k:Addr,∃ops,subscripted (.Slice none none (some st) p2) false (.ref l) (.ref k)=operate ops (Nz (.ref l) (.ref k))) Ay._auto_1):dw X (.Subscript a (.Slice none none (some st) p2) pos) (BU ta ts):=by
 ext c;refine Subscript_ (j0 he hE I h λx H1 d G1 v s1 I1 m1 r1 jd q1=>?_);refine wpAny_Slice ?_;rw[evalPart_none];refine bI ?_;refine bI ?_;refine fY (hs E pins s1 σ H1 τ G1 _ hE I1 q1) ?_;rintro vk s3 ⟨k,H3,G3,I3,m3,pk,rfl,xa,xb,hl,q⟩;have mm:=m1.trans m3;have X2:=jd.mono (m3.kp I1.ab);have I4:Inv X pins σ H3 {s3 with heap:=s3.heap.push {cls:=.type "slice",data:=.fields #[.none,.none,vk]}}:=I3.kept (t':=s3.toks) λb ob q=>aW _ q;obtain⟨l,vs,b9,rfl,rv,rs,hL,hz⟩:=nE I3 m3.ab r1 X2 hl;cases rs with
 | cons ra rs=>cases rs with
  | cons rb rs=>cases rs with
   | nil=>
    cases rv with
    | cons ua rv=>cases rv with
     | cons ub rv=>cases rv with
      |nil=>
       rename_i va vb ka kb;have hT:Shared.TypeIs {s3 with heap:=s3.heap.push {cls:=.type "slice",data:=.fields #[.none,.none,vk]}} (.ref l) "list":=(hL.push _).typeIs;obtain⟨ops,ho⟩:=V3 l s3.heap.objs.size;refine fY (tail_any (Q:=qa X pins σ H3 G3 Q) (ops:=ops) hT slot_list_getitem.lookup ?_ ho) λ_ _ z=>z.trans mm;refine wpAny_getItem_list_slice (hL.push _) (FW ..) .none .none pk @k ?_ (by size_fits);rw[show([ka,kb]:@D).toArray=#[ka,kb] from rfl,OE];have hf:H3 (s3.heap.push {cls:=.type "slice",data:=.fields #[.none,.none,vk]}).objs.size=none:=I4.c8.fresh (bb _);refine⟨.ref _,upd H3 _ (.lst [vb,va]),.ref _,ck G3 _ (.lst [xb,xa]),I4.laid (t':=s3.toks) (o:=.lst [vb,va]) (λb u e=>aW _ e) (bb _) ⟨dg rfl,[kb,ka],0,.cons ub (.cons ua .nil),cj _ rfl⟩,.Ja m3.ab hf (.cons rb (.cons ra .nil)),rfl,.ref _,q _ (m3.ab.free hf)⟩
end
def Tt(K:aB)(f c:Str):Prop:=∃C,gI K bj c=some (some @z)/\Uz K C/\Ce K C f
theorem IG{K:aB}:∀{fs:List (Str×D)} {fv:List (Str×V)},fv.map (·.1)=fs.map (·.1)->bq K H (fv.map (·.2)) (fs.map (·.2))->fs.lookup f=some d->∃v,fv.lookup f=some v/\cI K H v d:=by
 intro fs;induction fs with
 |nil=>intro fv _ _ h;cases h
 | cons p fs ih=>
  intro fv hn r h;cases fv with
  |nil=>cases hn
  | cons q fv=>
   rw[av,av] at hn;injection hn with h1 h2
   cases r with
   | cons r1 r2=>
    obtain⟨pk,pd⟩:=p;obtain⟨qk,qv⟩:=q;have h1:qk=pk:=h1;subst h1;rw[nS] at h ⊢;cases hb:f == qk with
    |true=>
     rw[hb] at h;cases h;exact⟨qv,rfl,r1⟩
    |false=>
     rw[hb] at h;exact ih h2 r2 h
section
variable {X:Cx} {e:Expr} {te:fh} {f:Str} {al:@n} {pos:Pos}
theorem OQ(cl:∀c∈al,Tt X.K f c)(he:dw X e te)(hb:autoParam (ye e f X.env (eval e X.env)=eval e X.env) Ar._auto_1):dw X (.Attribute e f pos) (bh al f te):=by
 ext c;refine Tf hb (j0 he hE I h λx H1 d G1 u s1 I1 m1 r1 jd q1=>?_);obtain⟨a,c,fs,d',rfl,hg,hc,hl,q⟩:=q1;cases jd;cases r1;obtain⟨C,dx,fv,hH,vt,hn,rs⟩:=I1.ab a _ hg;obtain⟨C',vr,FF,hna⟩:=cl c hc;rw[vt] at vr;cases vr;obtain⟨v,hv,rv⟩:=IG hn rs hl;exact Js I1.inv hH FF hna hv λu' s2 I2 ru=>⟨v,H1,d',G1,I2,m1,ru,rv,q⟩
end
theorem LP:∀{fs:List (Str×D)} {fv:List (Str×V)},fv.map (·.1)=fs.map (·.1)->(nN f v fv).map (·.1)=(putD f d fs).map (·.1):=by
 intro fs;induction fs with
 |nil=>
  intro fv h;have:fv=[]:=by simpa using h
  subst this;rfl
 | cons p fs ih=>
  intro fv h;cases fv with
  |nil=>cases h
  |cons q fv=>
   obtain⟨pk,pd⟩:=p;obtain⟨qk,qv⟩:=q;rw[av,av] at h;injection h with h1 h2
   have h1:qk=pk:=h1;subst h1;unfold nN putD;split
   .rw[av,av,h2]
   .rw[av,av,ih h2]
theorem Oo{K:aB}(rv:cI K H v d):∀{fs:List (Str×D)} {fv:List (Str×V)},fv.map (·.1)=fs.map (·.1)->bq K H (fv.map (·.2)) (fs.map (·.2))->bq K H ((nN f v fv).map (·.2)) ((putD f d fs).map (·.2)):=by
 intro fs;induction fs with
 |nil=>
  intro fv h _;have:fv=[]:=by simpa using h
  subst this;exact .cons rv .nil
 | cons p fs ih=>
  intro fv h r;cases fv with
  |nil=>cases h
  | cons q fv=>
   obtain⟨pk,pd⟩:=p;obtain⟨qk,qv⟩:=q;rw[av,av] at h;injection h with h1 h2
   have h1:qk=pk:=h1;subst h1;cases r with
   |cons r1 r2=>
    unfold nN putD;split
    .exact .cons rv r2
    .exact .cons r1 (ih h2 r2)
theorem Kp.aay{H:Hp}{p:Addr}{C dx:Addr}{fv:List (Str×V)}{o:HO}(hp:H p=some (.ins C dx fv)):Kp H (upd H p o) :=
 ⟨λa xs e=>by rw[bP (by rintro rfl;rw[hp] at e;cases e)];exact e,λa ob u e=>by rw[bP (by rintro rfl;rw[hp] at e;cases e)];exact e⟩
section
variable {X:Cx} {o value:Expr} {to tv:fh} {f:Str} {al:@n} {pos pos':Pos}
theorem Ow(cl:∀c∈al,Tt X.K f c)(ho:dw X o to)(hv:dw X value tv)(hs:autoParam (kd value (some (.Attribute o f pos')) pos.line X.env=pure false) Ar._auto_1):ui X (.Assign [.Attribute o f pos'] value pos) (jg al f to tv):=by
 intro E pins s σ H τ G D hE I h;refine plainObj_wpAny_Assign_Attribute (j0 hv hE I h λy H1 d G1 u s1 I1 m1 r1 jd q1=>j0 ho hE I1 q1 λx H2 d2 G2 ov s2 j6 m2 r2 Ey q2=>?_) hs;obtain⟨a,c,fs,rfl,hg,hc,hl,q⟩:=q2;cases Ey;cases r2;obtain⟨C,dx,fv,hH,vt,hn,rs⟩:=j6.ab a _ hg;obtain⟨C',vr,FF,hna⟩:=cl c hc;rw[vt] at vr;cases vr;have hlen:fv.length=fs.length:=by have:=congrArg cU hn;simpa using this
 have aar:=jd.mono (m2.kp I1.ab);refine IE j6.inv hH FF hna (@e) r1 λs3 I3=>?_;have k:Kp H2 (upd H2 a (.ins C dx (nN f y fv))):=.aay hH;have m3:Mv X.K H2 G2 (upd H2 a (.ins C dx (nN f y fv))) (ck G2 a (.ins c (putD f d fs))):=.put j6.ab hg k ⟨C,dx,nN f y fv,cR,vt,LP hn,(Oo aar hn rs).mono k⟩;exact⟨σ,_,τ,_,j6.mv I3 m3,(m1.trans m2).trans m3,q⟩
end
section
variable {X:Cx} {k:Nat} {C f:Addr} {fd:cG} {ps:@n} {sp:di} {x:Str} {p pos:Pos} {e:Expr} {es:List Expr} {t:sV}
theorem OL(M:Mk X.K C f)(vt:gI X.K bj x=some (some @z))(F:lu X.prog X.w X.K X.mg X.base tu k f fd ps (j3 X.K sp))(hr:fM (k+1) X.A)(hg:Gl X x)(hm:X.mg x=some @z)(hb:Binds X.K fd ps [])
  (ha:rg X (e::es) t) (qw:autoParam ((x == ("__debug__":Str))=false) Ad._auto_1) (he:autoParam @af Ar._auto_1) (fX:autoParam ((eW pos (aT es X.env)).any (·.1)=false) Ar._auto_1):
  dw X (.Call (.Name x p) (e::es) [] pos) (gv x sp t):=by
 ext c;refine eG (mr I.inv hg hm ?_ qw);refine fy (h₀:=X.base) I.inv.ok.mod.MD M.kp (t7 ha pos hE I h λvs H1 ds G1 us s1 I1 m1 r rd q=>⟨I1.inv.sD,?_⟩) he fX;refine fY (Oa M F hr hb .nil Kk I1.inv r (Q:=zR X.K H1 G1 Q) λy dx hy hdx kO=>?_) λ_ _ z=>(qa.of z).trans m1;rw[bH];have m2:Mv X.K H1 G1 (upd H1 dx (.own y)) G1:=.SH I1.ab hdx;have hy2:(upd H1 dx (.own y)) y=none:=by rw[bP kO.symm];exact hy
 have m3:Mv X.K (upd H1 dx (.own y)) G1 (upd (upd H1 dx (.own y)) y (.ins C dx [])) (ck G1 y (.ins x [])):=.new m2.ab hy2 ⟨C,dx,[],cR,vt,rfl,.nil⟩;have m:=m2.trans m3;refine⟨.ref y::ds,ck G1 y (.ins x []),λv G2=>v=.ff/\Q (.ref y) G2,.cons (.ref y) (rd.mono (m.kp I1.ab)),m.ab,q y (I1.ab.free hy),λd G' v H' q' m' A6=>?_⟩;obtain⟨rfl,q'⟩:=q';cases A6;exact⟨rfl,.ref y,G',m.trans m',.ref y,q'⟩
end
theorem yx:∀(fs:List (Str×D)) (fv:List (Str×V)),fv.map (·.1)=fs.map (·.1)->fs.lookup m=none->fv.lookup m=none:=by
 intro fs;induction fs with
 |nil=>
  intro fv h _;have:fv=[]:=by simpa using h
  subst this;rfl
 | cons p fs ih=>
  intro fv h hl;cases fv with
  |nil=>cases h
  |cons q fv=>
   obtain⟨pk,pd⟩:=p;obtain⟨qk,qv⟩:=q;rw[av,av] at h;injection h with h1 h2
   have h1:qk=pk:=h1;subst h1;rw[nS] at hl ⊢;cases hb:m == qk with
   |true=>rw[hb] at hl;cases hl
   |false=>rw[hb] at hl;exact ih fv h2 hl
section
variable {X:Cx} {k:Nat} {C f:Addr} {fd:cG} {ps:@n} {sp:di} {cn m:Str} {apos pos:Pos} {o e:Expr} {es:List Expr} {to:fh} {t:sV}
structure D1(K:aB)(cn m:Str)(C f:Addr):Prop where
 ns:gI K bj cn=some (some @z)
 cl:Uz K C
 me:Meth K C m f
end
def Na(X:Cx)(m:Str)(p:Str×di):Prop:=∃(C f:Addr) (fd:cG) (ps:@n) (k:Nat),D1 X.K p.1 m C f/\lu X.prog X.w X.K X.mg X.base tu k f fd ps (j3 X.K p.2)/\fM k X.A/\Binds X.K fd ps []
theorem O4:∀p∈([]:List (Str×di)),Na X m p:=λp h=>by cases h
theorem Mn(M:D1 X.K c m C f)(F:lu X.prog X.w X.K X.mg X.base tu k f fd ps (j3 X.K sp))(hr:fM k X.A)(hb:Binds X.K fd ps [])(t:∀p∈ms,Na X m p):∀p∈(c,sp)::ms,Na X m p:=λp h=>by
 rcases List.mem_cons.mp h with rfl |h
 .exact⟨C,f,fd,ps,k,M,F,hr,hb⟩
 .exact t p h
section
variable {X:Cx} {ms:List (Str×di)} {m:Str} {apos pos:Pos} {o e:Expr} {es:List Expr} {to:fh} {t:sV}
theorem L7(Ms:∀p∈ms,Na X m p)(ho:dw X o to)(ha:rg X (e::es) t)
  (w9:autoParam @af Ar._auto_1) (fX:autoParam ((eW pos (aT es X.env)).any (·.1)=false) Ar._auto_1)
  (ht:autoParam (eval (.Call (.Attribute o m apos) (e::es) [] pos) X.env=(do
   let ov ← eval o X.env
   Ij apos.atName
   let (f,first) ← qb [ov] (FR ov m pl)
   callWith pos f first (eW pos (aT (e::es) X.env)) (Nj pos (yc [] X.env)))) Ar._auto_1):
  dw X (.Call (.Attribute o m apos) (e::es) [] pos) (cW ms m to t):=by
 ext c;refine u4 (pl:=pl) (j0 ho hE I h λx H1 d G1 u s1 I1 m1 r1 jd q1=>?_) ht;obtain⟨a,c,fs,sp,rfl,hg,YK,hl,q⟩:=q1;obtain⟨C,f,fd,ps,k,M,F,hr,hb⟩:=Ms _ YK;cases jd;cases r1;obtain⟨C',dx,fv,hH,vt,hn,rs⟩:=I1.ab a _ hg;have vr:=M.ns.symm.trans vt;cases vr;refine vA I1.inv hH M.cl M.me (yx fs fv hn hl) ?_;refine fy (first:=[@m]) (h₀:=X.base) I.inv.ok.mod.MD M.me.kp (t7 ha pos hE I1 q λvs H2 ds G2 us s2 j6 m2 r rd q2=>⟨j6.inv.sD,?_⟩) w9 fX;refine fY (yq (us:=@m::us) (vs:=@m::vs) F hr hb .nil Kk j6.inv (.cons rfl r) (Q:=zR X.K H2 G2 Q) ?_) λ_ _ z=>(qa.of z).trans (m1.trans m2);rw[bH];exact⟨@m::ds,G2,Q,.cons (@m) rd,j6.ab,q2,λd G' v H' q' m' A6=>⟨d,G',m',A6,q'⟩⟩
end
end K2
end
section
namespace K2
open PySem PySem.W PySem.Spec PyProof.Rows L2
structure CAt(K:Frag)(cn:Str)(C:Addr):Prop where
 ns:nsIn K bj cn=some (some @z)
 cl:Uz K C
theorem WI {K:Frag}   (a:autoParam (nsIn K bj cn=some (some @z)) Aq._auto_1) (pg:autoParam (plainGet K C Str.empty=true) Aq._auto_1) (hd:autoParam (hasDictIn K C=true) Aq._auto_1) (po:autoParam (plainOver K C=true) Aq._auto_1) (sa:autoParam (AI K @z "__setattr__"=some (some (.builtin "object.__setattr__"))) Aq._auto_1):CAt K cn C:=⟨a,⟨pg,hd,po,sa⟩⟩
structure W2(K:Frag)(C:Addr)(m q:Str)(st:Stmt)(f:Addr)(fd:cG):Prop where
 at_:AI K @z m=some (some (.ref f))
 fn:isFn K (.ref f)=true
 F:L2.Qy K m q st f fd
theorem VI{K:Frag}{st:Stmt}{kV:Value}(a:autoParam (AI K @z m=some (some (.ref f))) Aq._auto_1)(fn:autoParam (isFn K (.ref f)=true) Aq._auto_1)(l:autoParam (K.lookup f=some ⟨oc,od,.func (fnOf m q (L2.fm st) (L2.c7 st) (L2.bK st) .none kV doc pm an fT ct),HX⟩) Aq._auto_1)
  (c:autoParam (codeIn K fT q=true) Aq._auto_1) (k:autoParam (keepIn K (.ref f)=true) Aq._auto_1):W2 K C m q st f (fnOf m q (L2.fm st) (L2.c7 st) (L2.bK st) .none kV doc pm an fT ct):=⟨a,fn,L2.PW l c k⟩
theorem W2.me{K:Frag}{st:Stmt}(z:W2 K C m q st f fd)(c:CAt K cn C):D1 K cn m C f:=⟨c.ns,c.cl,⟨z.at_,z.fn,z.F.kp⟩⟩
theorem W2.maker {K:Frag}   {st:Stmt}   (z:W2 K C "__init__" q st f fd) (mk:makesIn K C=true) (kp:keepIn K @z=true):Mk K C f:=⟨mk,z.at_,z.fn,kp⟩
structure acA(P:bY)(w:World)(K:Frag)(mg:@aa)(base:Heap)(CX:L2.JQ)(k:Nat)(f:Addr)(fd:cG)(C:Addr)(cn m:Str)(ps:@n)(sp:L2.Sp):Prop where
 ok:L2.lu P w K mg base CX k f fd ps sp
 bi:L2.Binds K fd ps []
 me:D1 K cn m C f
structure acB(P:bY)(w:World)(K:Frag)(mg:@aa)(base:Heap)(k:Nat)(f:Addr)(fd:cG)(C:Addr)(cn:Str)(ps:@n)(sp:L2.Sp):Prop where
 ok:L2.lu P w K mg base tu k f fd ps sp
 bi:L2.Binds K fd ps []
 mkr:Mk K C f
 ns:nsIn K bj cn=some (some @z)
 mg:mg cn=some @z
end K2
end
section
namespace K2
open PySem PySem.Spec PyProof.Rows L2
def vw(H:Hp)(a dx:Addr):Hp:=λb=>if b=a then H b else if b=dx then H b else hr H b
def jw(H1 H':Hp)(a tT:Addr):Hp:=λb=>if b=a then H' b else if b=tT then some (.own a) else hj H1 (hr H') b
section
variable {P:bY} {w:World} {K:aB} {H1 H':Hp} {G1:Gp} {h h':Heap} {a b dx tT C C':Addr} {o:HO} {fs:List Addr} {fv SQ:List (Str×V)} {c:Str} {gs:List (Str×D)}
theorem vU(q:H1 b=none):vw H1 a dx b=none:=by
 unfold vw;split
 .exact q
 .split
  .exact q
  .exact mw q
theorem NP(q:H1 b=@j)(k:Jm o=false)(na:b≠a)(nd:b≠dx):vw H1 a dx b=none:=by unfold vw;rw[if_neg na,if_neg nd];exact Pw q k
theorem Dg(q:H1 b=@j)(k:Jm o=true):vw H1 a dx b=@j:=by
 unfold vw;split
 .exact q
 .split
  .exact q
  .exact pG q k
theorem XF:vw H1 a dx a=H1 a:=by unfold vw;rw[if_pos rfl]
theorem UG(h:dx≠a):vw H1 a dx dx=H1 dx:=by unfold vw;rw[if_neg h,if_pos rfl]
theorem TR:Kp (hr H1) (vw H1 a dx):=⟨λ_ _ e=>Dg (lC e).1 (lC e).2,λ_ _ _ e=>Dg (lC e).1 (lC e).2⟩
theorem V7(x:oQ P w H1 h)(ea:H1 a=some (.ins C dx fv)):oQ P w (vw H1 a dx) h:=λb o q=>by
 obtain⟨ed,rest⟩:=(show fJ P w H1 h a (.ins C dx fv) from x a _ ea);have Z0:dx≠a:=rest.2.1;by_cases na:b=a
 .subst na;rw[XF,ea] at q;cases q;exact⟨(UG Z0).trans ed,rest⟩
 by_cases nd:b=dx
 .subst nd;rw[UG Z0,ed] at q;cases q;exact(x b _ ed).there
 .unfold vw at q;rw[if_neg na,if_neg nd] at q;exact(Jr x b o q).i9 (λ_ _ _ y=>y) (λc r=>bu (show false=true from(lC r).2)) (λc xs r=>Dg (lC r).1 (lC r).2)
theorem joinM(un:Un fs [] (vw H1 a dx) H' h h')(k1:oQ P w H1 h)(k2:oQ P w H' h')(fr:∀b∈fs,H1 b=none)(ea:H1 a=some (.ins C dx fv))(K0:H' a=some (.ins C' tT SQ)):
  Un fs [] H1 (jw H1 H' a tT) h h'/\oQ P w (jw H1 H' a tT) h'/\Kp H1 (jw H1 H' a tT)/\Kp (hr H') (jw H1 H' a tT)/\∀b o,H1 b=@j->b≠a->jw H1 H' a tT b=@j:=by
 have nx:∀c:Addr,c∉([]:List Addr):=λc=>bf;have no:∀{p:Prop},false=true->p:=λz=>bu z;obtain⟨ed,_,Z0,_⟩:=(show fJ P w H1 h a (.ins C dx fv) from k1 a _ ea);have oa:=(show fJ P w H' h' a (.ins C' tT SQ) from k2 a _ K0);obtain⟨Wv,_,YW,_⟩:=id oa;have ed2:H' dx=some (.own a):=un.wO _ _ ((UG Z0).trans ed);have rz:∀b u v,H1 b=some u->H' b=some v->b≠a->b≠dx->u=v/\Jm u=true:=λb u v q q' na nd=>by
  cases ku:Jm u with
  |false=>obtain⟨ob,eo⟩:=(k1 b u q).there;have:=un.free b ob eo (NP q ku na nd) (nx _);rw[q'] at this;cases this
  |true=>
   have r:=Dg (a:=a) (dx:=dx) q ku;cases u with
   |tup xs=>have:=un.rM _ _ r;rw[q'] at this;cases this;exact⟨rfl,rfl⟩
   |kU ob x=>have:=un.q5 _ _ _ r;rw[q'] at this;cases this;exact⟨rfl,rfl⟩
   |_=>exact no ku
 have hdx:tT=dx\/H1 tT=none:=by
  by_cases e:tT=dx
  .exact .inl e
  .right;cases q:H1 tT with
   |none=>rfl
   |some u=>obtain⟨rfl,k⟩:=rz _ _ _ q Wv YW e;exact no k
 have same:∀b o,H1 b=@j->b≠a->jw H1 H' a tT b=@j:=λb o q na=>by
  unfold jw;rw[if_neg na];by_cases e:b=tT
  .rw[if_pos e];rcases hdx with z |z
   .rw[e,z,ed] at q;exact q
   .rw[e,z] at q;cases q
  .rw[if_neg e];exact ni q
 have new:∀b o,hr H' b=@j->jw H1 H' a tT b=@j:=λb o q=>by
  obtain⟨q',k⟩:=lC q;have na:b≠a:=λz=>by rw[z,K0] at q';cases q';exact no k
  have nd:b≠tT:=λz=>by rw[z,Wv] at q';cases q';exact no k
  have ZN:b≠dx:=λz=>by rw[z,ed2] at q';cases q';exact no k
  cases q1:H1 b with
  |none=>unfold jw;rw[if_neg na,if_neg nd,lg q1];exact q
  |some u=>obtain⟨rfl,_⟩:=rz b u o q1 q' na ZN;exact same b u q1 na
 have nin:∀b u,H1 b=some u->b∉fs:=λb u q z=>by rw[fr b z] at q;cases q
 have naT:∀b xs,H1 b=some (.tup xs)->b≠a:=λb xs q z=>by rw[z,ea] at q;cases q
 have naF:∀b ob u,H1 b=some (.kU ob u)->b≠a:=λb ob u q z=>by rw[z,ea] at q;cases q
 have naO:∀b x,H1 b=some (.own x)->b≠a:=λb x q z=>by rw[z,ea] at q;cases q
 refine⟨⟨λc u e n hc hx=>un.keep c u e (vU n) hc hx,λc u e n hc hx=>un.slot c u e (vU n) hc hx,λc u e n hx=>?_,λc u e hx=>un.there c u e hx,λc xs q=>same c _ q (naT c xs q),λc ob u q=>same c _ q (naF c ob u q),
  λc ps q=>same c _ q (λz=>by rw[z,ea] at q;cases q),λc x q=>same c _ q (naO c x q)⟩,λc o q=>?_,⟨λc xs q=>same c _ q (naT c xs q),λc ob u q=>same c _ q (naF c ob u q)⟩,⟨λc xs q=>new c _ q,λc ob u q=>new c _ q⟩,same⟩
 .have hn:=un.free c u e (vU n) hx;have na:c≠a:=λz=>by rw[z,ea] at n;cases n
  have nd:c≠tT:=λz=>by rw[z,Wv] at hn;cases hn
  unfold jw;rw[if_neg na,if_neg nd,lg n];exact mw hn
 ·by_cases na:c=a
  .subst na;unfold jw at q;rw[if_pos rfl,K0] at q;cases q;obtain⟨_,rest⟩:=oa;exact⟨by unfold jw;rw[if_neg YW,if_pos rfl],rest⟩
  by_cases nd:c=tT
  .subst nd;unfold jw at q;rw[if_neg na,if_pos rfl] at q;cases q;exact(k2 c _ Wv).there
  cases q1:H1 c with
  | some o1=>
   have:=same c o1 q1 na;rw[this] at q;cases q;by_cases ht:∃xs,o=.tup xs
   .obtain⟨xs,rfl⟩:=ht;exact k2 c _ (un.rM c xs (Dg q1 rfl))
   ·by_cases cd:c=dx
    .subst cd;rw[ed] at q1;cases q1;obtain⟨ob,eo⟩:=(k1 c _ ed).there;exact un.there c ob eo (nx _)
    .refine(k1 c o q1).i9 (λd u hd e=>?_) (λd r=>same d _ r (naO d _ r)) (λd xs r=>same d _ r (naT d xs r));rcases hd with rfl |hd
     .cases ko:Jm o with
      |false=>exact un.keep _ u e (NP q1 ko na cd) (nin _ _ q1) (nx _)
      | true=>
       cases o with
       |tup xs=>exact absurd ⟨xs,rfl⟩ ht
       |kU ob v=>
        have h1:=(k2 d _ (un.q5 d ob v (Dg q1 ko))).1;have h2:=(k1 d _ q1).1;rw[h2] at e;cases e;exact h1
       |_=>exact no ko
     .refine un.keep d u e (NP hd rfl (naO d _ hd) λz=>?_) (nin _ _ hd) (nx _);rw[z,ed] at hd;cases hd;exact na rfl
  |none=>
   unfold jw at q;rw[if_neg na,if_neg nd,lg q1] at q;exact(Jr k2 c o q).i9 (λd u _ e=>e) (λd r=>no (lC r).2) (λd xs r=>new d _ r)
theorem TL(ab:j7 K H1 G1)(hg:G1 a=some (.ins c gs))(K0:H' a=some (.ins C tT SQ))(vt:gI K bj c=some (some @z))(hn:SQ.map (·.1)=gs.map (·.1))(rs:bq K H' (SQ.map (·.2)) (gs.map (·.2)))
  (k1:Kp H1 (jw H1 H' a tT)) (k2:Kp (hr H') (jw H1 H' a tT)) (same:∀b o,H1 b=@j->b≠a->jw H1 H' a tT b=@j):Mv K H1 G1 (jw H1 H' a tT) G1:=by
 have FG:j7 K (jw H1 H' a tT) G1:=λb g e=>by
  by_cases na:b=a
  .subst na;rw[hg] at e;cases e;exact⟨C,tT,SQ,by unfold jw;rw[if_pos rfl];exact K0,vt,hn,rs.hr.mono k2⟩
  .cases q:H1 b with
   |none=>exact absurd q (ab b g e).tracked
   |some o=>exact(ab b g e).mono k1 (by rw[same b o q na,q])
 exact⟨λb o e n=>⟨same b o e (λz=>by subst z;rw[hg] at n;cases n),n⟩,λb n=>by
  cases q:G1 b with
  |none=>exact absurd q n
  |some g=>exact(FG b g q).tracked,FG⟩
end
section
variable {X:Cx} {pins:@A} {σ:L2.St} {H1:Hp} {G1:Gp} {s1:aL} {k:Nat} {f:Addr} {fd:cG} {ps:@n} {sp:di}
theorem LM(F:lu X.prog X.w X.K X.mg X.base (vK X.prog X.w) k f fd ps (hW X.K X.mg sp))(hr:fM k X.A)(hb:Binds X.K fd ps [])(I:Inv X pins σ H1 s1)(ab:j7 X.K H1 G1)
  (hg:G1 a=some (.ins c gs)) (r:Vals vs us) (rd:bq X.K H1 vs ds) (h:sp ds (only a (.ins c gs)) Q2 E2) (hQ:∀d G',Q2 d G'->G' a=some (.ins c gs)) (hE:∀ex G',E2 ex G'->G' a=some (.ins c gs)):wpAny @r X.A (call (.ref f) us)
   (λu s'=>∃d G' Hj,Inv X pins σ Hj s'/\Mv X.K H1 G1 Hj G1/\Q2 d G')
   (λe s'=>∃(a C t:Addr) (B:Heap) (ex:Ex) (Hj:Hp),e=@m/\Inv X pins σ Hj s'/\Mv X.K H1 G1 Hj G1/\oB B X.stack a @z (.ref t) s'.heap /\
    (∀b o,s'.heap.get? b=@j->b∉tQ X.stack->(s1.heap.get? b≠none\/Hj b≠none)->B.get? b=@j)/\Hj a=none/\s1.heap.get? a=none/\X.mg ex.cls=some @z/\∃G',E2 ex G') s1:=by
 obtain⟨C0,dx,fv,ea,vt,hn,rs⟩:=ab a _ hg;have EN:hW X.K X.mg sp vs (vw H1 a dx) (λv H'=>∃d G',j7 X.K H' G'/\Q2 d G') (Xp X.K X.mg E2) :=
  ⟨ds,only a (.ins c gs),Q2,E2,rd.hr.mono TR,(λb g z=>by
   unfold only at z;split at z
   .rename_i e;subst e;cases z;exact⟨C0,dx,fv,XF.trans ea,vt,hn,rs.hr.mono TR⟩
   .cases z),h,λd G' v H' q mv _=>⟨d,G',mv.ab,q⟩,λex C H' G' q FG hm=>⟨ex,C,G',rfl,hm,FG,q⟩⟩
 have hl:us.length=ps.length:=by rw[<-r.length];exact F.len _ _ _ _ EN
 have e0:=I.S4;have e1:Fx X.prog X.w X.K X.mg X.base X.A X.stack s1 (vw H1 a dx):=⟨e0.frames,e0.mod,λb o q=>⟨(e0.bs b o q).1,vU (e0.bs b o q).2⟩,e0.M5,e0.vB,λb z=>vU (e0.KR b z),V7 e0.c8 ea,e0.bare⟩;have YZ:=hb s1 us I.sD (by rw[bH];exact hl);rw[bH] at YZ;refine Ci (oS (F.run X.A X.stack s1 (vw H1 a dx) ⟨us,[]⟩ us vs _ _ hr e1 YZ r EN) λres s' hq=>?_);cases res with
 | error e=>
  obtain⟨a0,C,t,B,H',rfl,os,bare,un,c8,hB,fl,ha,hs,ex,C',G2,ec,hm,ab2,hE2⟩:=hq;cases ec;obtain⟨C1,tT,SQ,K0,vr,MI,LN⟩:=ab2 a _ (hE _ _ hE2);obtain⟨Rb,Bx,VR,VQ,same⟩:=joinM un I.c8 c8 e0.KR ea K0;have Wv:H' tT=some (.own a):=(show fJ X.prog X.w H' s'.heap a (.ins C1 tT SQ) from c8 a _ K0).1;have h1a:H1 a0=none:=by
   cases q:H1 a0 with
   |none=>rfl
   |some u=>obtain⟨o,e⟩:=(I.c8 a0 u q).there;rw[e] at hs;cases hs
  refine⟨a0,C,t,B,ex,jw H1 H' a tT,rfl,I.Lg (ch:=[]) os Rb Bx bare (λb z=>absurd z @k),TL ab hg K0 vr MI LN VR VQ same,fl,λb o e n c=>hB b o e n ?_,?_,hs,hm,G2,hE2⟩
  .rcases c with c |c
   .exact .inl c
   .cases q:H1 b with
    |some u=>obtain⟨o1,e1⟩:=(I.c8 b u q).there;exact .inl (by rw[e1];simp)
    |none=>
     right;intro z;apply c;unfold jw;have na:b≠a:=λy=>by rw[y,K0] at z;cases z
     have nd:b≠tT:=λy=>by rw[y,Wv] at z;cases z
     rw[if_neg na,if_neg nd,lg q];exact mw z
  .unfold jw;have na:a0≠a:=λy=>by rw[y,K0] at ha;cases ha
   have nd:a0≠tT:=λy=>by rw[y,Wv] at ha;cases ha
   rw[if_neg na,if_neg nd,lg h1a];exact mw ha
 | ok fl=>
  cases fl with
  |ret u=>
   obtain⟨v,H',os,bare,un,c8,rv,d,G',ab2,q⟩:=hq;obtain⟨C1,tT,SQ,K0,vr,MI,LN⟩:=ab2 a _ (hQ _ _ q);obtain⟨Rb,Bx,VR,VQ,same⟩:=joinM un I.c8 c8 e0.KR ea K0;exact⟨d,G',jw H1 H' a tT,I.Lg (ch:=[]) os Rb Bx bare (λb z=>absurd z @k),TL ab hg K0 vr MI LN VR VQ same,q⟩
  |next=>exact bE hq
  |brk=>exact bE hq
  |cont=>exact bE hq
end
def zF(X:Cx)(m:Str)(p:Str×di):Prop:=∃(C f:Addr) (fd:cG) (ps:@n) (k:Nat),D1 X.K p.1 m C f/\lu X.prog X.w X.K X.mg X.base (vK X.prog X.w) k f fd ps (hW X.K X.mg p.2)/\fM k X.A/\Binds X.K fd ps []
theorem Mp:∀p∈([]:List (Str×di)),zF X m p:=λp h=>by cases h
theorem Jf(M:D1 X.K c m C f)(F:lu X.prog X.w X.K X.mg X.base (vK X.prog X.w) k f fd ps (hW X.K X.mg sp))(hr:fM k X.A)(hb:Binds X.K fd ps [])(t:∀p∈ms,zF X m p):∀p∈(c,sp)::ms,zF X m p:=λp h=>by
 rcases List.mem_cons.mp h with rfl |h
 .exact⟨C,f,fd,ps,k,M,F,hr,hb⟩
 .exact t p h
section
variable {X:Cx} {ms:List (Str×di)} {m cn:Str} {D:Addr} {cat:@n} {apos pos np vq ep:Pos} {o e:Expr} {es:List Expr} {to:fh} {t:sV} {th:da} {Eh:Stmt} {lH:List Stmt}
theorem IS(Ms:∀p∈ms,zF X m p)(ho:dw X o to)(ha:rg X (e::es) t)
  (w9:autoParam @af Ar._auto_1) (fX:autoParam ((eW pos (aT es X.env)).any (·.1)=false) Ar._auto_1)
  (ht:autoParam (eval (.Call (.Attribute o m apos) (e::es) [] pos) X.env=(do
   let ov ← eval o X.env
   Ij apos.atName
   let (f,first) ← qb [ov] (FR ov m pl)
   callWith pos f first (eW pos (aT (e::es) X.env)) (Nj pos (yc [] X.env)))) Ar._auto_1):
  dw X (.Call (.Attribute o m apos) (e::es) [] pos) (fW ms m to t):=by
 ext c;refine u4 (pl:=pl) (j0 ho hE I h λx H1 d G1 u s1 I1 m1 r1 jd q1=>?_) ht;obtain⟨a,c,fs,sp,rfl,hg,YK,hl,q⟩:=q1;obtain⟨C,f,fd,ps,k,M,F,hr,hb⟩:=Ms _ YK;cases jd;cases r1;obtain⟨C',dx,fv,hH,vt,hn,rs⟩:=I1.ab a _ hg;have vr:=M.ns.symm.trans vt;cases vr;refine vA I1.inv hH M.cl M.me (yx fs fv hn hl) ?_;refine fy (first:=[@m]) (h₀:=X.base) I.inv.ok.mod.MD M.me.kp (t7 ha pos hE I1 q λvs H2 ds G2 us s2 j6 m2 r rd q2=>⟨j6.inv.sD,?_⟩) w9 fX;refine fY (yq (E:=Xp X.K X.mg E) (us:=@m::us) (vs:=@m::vs) F hr hb .nil (λpins σ H s e s' I hq=>hE.pass pins σ H s s' e I hq) j6.inv (.cons rfl r) (Q:=zR X.K H2 G2 Q) ?_) λ_ _ z=>(qa.of z).trans (m1.trans m2);rw[bH];exact⟨@m::ds,G2,Q,E,.cons (@m) rd,j6.ab,q2,λd G' v H' q' m' A6=>⟨d,G',m',A6,q'⟩,λex C H' G' q' FG MJ=>⟨ex,C,G',rfl,MJ,FG,q'⟩⟩
end
section
variable {X:Cx} {hs:List yg} {st:Stmt} {body rest:List Stmt} {u v:da}
theorem UR(ha:FH X hs body u)(hb:FH X hs body v):FH X hs body (yI u v):=λpins s σ H0 G0 H τ G Dn m I h=>h.elim (ha pins s σ H0 G0 H τ G Dn m I) (hb pins s σ H0 G0 H τ G Dn m I)
theorem UQ:FH X hs [] aX:=λpins s σ H0 G0 H τ G Dn m I h=>j9 ⟨σ,H,τ,G,I,m,h⟩
theorem Rh(h1:∀EX,ui (X.jZ EX) st u)(h2:FH X hs rest v):FH X hs (st::rest) (aU u v):=by
 intro pins s σ H0 G0 H τ G Dn m0 I h;generalize Wj:XC X hs (FI X pins H0 G0 Dn)=EX;have I0:I2 (X.jZ EX) pins σ H τ G s:=⟨I.inv.jZ EX,I.st,I.ab⟩;refine lO (iq (h1 EX (@f) pins s σ H τ G {Dn with nx:=v (@f) Dn} (Lk.none λ_ _ z=>z) I0 h) (λf s1 q=>?_) λ_ _ z=>z);subst Wj;cases f with
 |next=>
  obtain⟨iJ,H',j5,G',I',m,q⟩:=q;exact h2 pins s1 iJ H0 G0 H' j5 G' Dn (m0.trans m) ⟨I'.inv.jk,I'.st,I'.ab⟩ q
 |ret u=>obtain⟨v,iJ,H',d,G',i,m,r,rd,q⟩:=q;exact⟨v,iJ,H',d,G',i.jk,m0.trans m,r,rd,q⟩
 |brk=>obtain⟨iJ,H',j5,G',I',m,q⟩:=q;exact⟨iJ,H',j5,G',⟨I'.inv.jk,I'.st,I'.ab⟩,m0.trans m,q⟩
 |cont=>obtain⟨iJ,H',j5,G',I',m,q⟩:=q;exact⟨iJ,H',j5,G',⟨I'.inv.jk,I'.st,I'.ab⟩,m0.trans m,q⟩
end
section
variable {X:Cx} {ms:List (Str×di)} {x y m cn n:Str} {D f:Addr} {fd:cG} {ps:@n} {k i:Nat} {sp:di} {cat:@n} {e o:Expr} {es:List Expr} {p py np pos apos ep vq:Pos} {Eh:Stmt} {lH rest:List Stmt} {t:sV} {to:fh} {th:da}
theorem NV(A0:HJ X)(L:Clause X i n cn D cat)(SE:∀v,ma (marked X v) (Eh::lH) th)
  (F:lu X.prog X.w X.K X.mg X.base (vK X.prog X.w) k f fd ps (hW X.K X.mg sp)) (hr:fM k X.A) (hg:Gl X x) (hm:X.mg x=some (.ref f)) (hk:iN X.K (.ref f)=true) (hb:Binds X.K fd ps [])
  (ha:∀EX,rg (X.jZ EX) (e::es) t)
  (qw:autoParam ((x == ("__debug__":Str))=false) Ad._auto_1) (PH:autoParam ((cn == ("__debug__":Str))=false) Ad._auto_1) (he:autoParam @af Ar._auto_1) (fX:autoParam ((eW pos (aT es X.env)).any (·.1)=false) Ar._auto_1)
  (hs:autoParam (kd (.Call (.Name x p) (e::es) [] pos) (some (.Name y py)) ep.line X.env=pure false) Ar._auto_1):
  FH X [.ExceptHandler (some (.Name cn np)) (some n) (Eh::lH) vq] (.Assign [.Name y py] (.Call (.Name x p) (e::es) [] pos) ep::rest) (DQ sp t i cat th):=by
 intro pins s σ H0 G0 H τ G Dn m0 I h;refine lO (Ii ?_ hs);unfold XC;generalize Wj:(λ(e:Value) (eU:aL)=>wpAny @r X.A (Ny e X.env) (λ_ iQ=>wpAny @r X.A (setFlight e none) (λ_ ym=>wpAny @r X.A (handleBy e X.env [.ExceptHandler (some (.Name cn np)) (some n) (Eh::lH) vq]) (FI X pins H0 G0 Dn) X.xe ym) X.xe iQ) X.xe eU)=EX;refine eG (mr I.inv hg hm ?_ qw);have I0:I2 (X.jZ EX) pins σ H τ G s:=⟨I.inv.jZ EX,I.st,I.ab⟩;refine fy (h₀:=X.base) I.inv.ok.mod.MD hk (t7 (X:=X.jZ EX) (ha EX) pos (Lk.none λ_ _ z=>z) I0 h λvs H1 ds G1 us s1 I1 m1 r rd q=>⟨I1.inv.sD,?_⟩) he fX;have J1:Inv X pins σ H1 s1:=I1.inv.jk;refine iq (Ob F hr hb J1 I1.ab r rd q) ?_ ?_
 .rintro u s' ⟨v,d,G',Hj,I',mv,rv,A6,q'⟩;exact q'.elim
 .rintro ev s' ⟨a,C,t0,B,ex,Hj,ea,I',mv,fl,hB,Xm,GL,MJ,_,KL,q'⟩;subst ea;subst Wj;exact zt A0 L SE J1 I1.st I1.ab (m0.trans m1) I' mv fl hB Xm GL MJ KL q' PH
theorem NU  (A0:HJ X) (L:Clause X i n cn D cat) (SE:∀v,ma (marked X v) (Eh::lH) th) (Ms:∀p∈ms,zF X m p) (ho:∀EX,dw (X.jZ EX) o to) (ha:∀EX,rg (X.jZ EX) (e::es) t) (PH:autoParam ((cn == ("__debug__":Str))=false) Ad._auto_1)
  (w9:autoParam @af Ar._auto_1) (fX:autoParam ((eW pos (aT es X.env)).any (·.1)=false) Ar._auto_1)
  (ht:autoParam (eval (.Call (.Attribute o m apos) (e::es) [] pos) X.env=(do
   let ov ← eval o X.env
   Ij apos.atName
   let (f,first) ← qb [ov] (FR ov m pl)
   callWith pos f first (eW pos (aT (e::es) X.env)) (Nj pos (yc [] X.env)))) Ar._auto_1)
  (hs:autoParam (kd (.Call (.Attribute o m apos) (e::es) [] pos) (some (.Name y py)) ep.line X.env=pure false) Ar._auto_1):
  FH X [.ExceptHandler (some (.Name cn np)) (some n) (Eh::lH) vq] (.Assign [.Name y py] (.Call (.Attribute o m apos) (e::es) [] pos) ep::rest) (sR ms m to t i cat th):=by
 intro pins s σ H0 G0 H τ G Dn m0 I h;refine lO (Ii ?_ hs);unfold XC;generalize Wj:(λ(e:Value) (eU:aL)=>wpAny @r X.A (Ny e X.env) (λ_ iQ=>wpAny @r X.A (setFlight e none) (λ_ ym=>wpAny @r X.A (handleBy e X.env [.ExceptHandler (some (.Name cn np)) (some n) (Eh::lH) vq]) (FI X pins H0 G0 Dn) X.xe ym) X.xe iQ) X.xe eU)=EX;have I0:I2 (X.jZ EX) pins σ H τ G s:=⟨I.inv.jZ EX,I.st,I.ab⟩;refine u4 (pl:=pl) (j0 (X:=X.jZ EX) (ho EX) (Lk.none λ_ _ z=>z) I0 h λx H1 d G1 u s1 I1 m1 r1 jd q1=>?_) ht;obtain⟨a,c,fs,sp,rfl,hg,YK,hl,q⟩:=q1;obtain⟨C,f,fd,ps,k,M,F,hr,hb⟩:=Ms _ YK;cases jd;cases r1;obtain⟨C',dx,fv,hH,vt,hn,rs⟩:=I1.ab a _ hg;have vr:=M.ns.symm.trans vt;cases vr;refine vA I1.inv.jk hH M.cl M.me (yx fs fv hn hl) ?_;refine fy (first:=[@m]) (h₀:=X.base) I.inv.ok.mod.MD M.me.kp (t7 (X:=X.jZ EX) (ha EX) pos (Lk.none λ_ _ z=>z) I1 q λvs H2 ds G2 us s2 j6 m2 r rd q2=>⟨j6.inv.sD,?_⟩) w9 fX;have J2:Inv X pins σ H2 s2:=j6.inv.jk;have mm:=m0.trans (m1.trans m2);refine iq (LM (us:=@m::us) (vs:=@m::vs) F hr hb J2 j6.ab q2.1 (.cons rfl r) (.cons (@m) rd) q2.2 (λ_ _ z=>z.elim) (λ_ _ z=>z.1)) ?_ ?_
 .rintro u s' ⟨d,G',Hj,I',mv,q'⟩;exact q'.elim
 .rintro ev s' ⟨a0,C0,t0,B,ex,Hj,ea,I',mv,fl,hB,Xm,GL,MJ,G',_,KL,q'⟩;subst ea;subst Wj;exact zt A0 L SE J2 j6.st j6.ab mm I' mv fl hB Xm GL MJ KL q' PH
theorem Mc(FN:lu X.prog X.w X.K X.mg X.base tu k f fd ps (j3 X.K sn))(hr:fM k X.A)(hg:Gl X x)(hm:X.mg x=some (.ref f))(hk:iN X.K (.ref f)=true)(hb:Binds X.K fd ps [])
  (FX:lu X.prog X.w X.K X.mg X.base (vK X.prog X.w) k' f' fd' ps' (hW X.K X.mg sp)) (Px:fM k' X.A) (MJ:X.mg x=some (.ref f')) (GR:Binds X.K fd' ps' [])
  (ha:rg X (e::es) t) (qw:autoParam ((x == ("__debug__":Str))=false) Ad._auto_1) (he:autoParam @af Ar._auto_1) (fX:autoParam ((eW pos (aT es X.env)).any (·.1)=false) Ar._auto_1):
  dw X (.Call (.Name x p) (e::es) [] pos) (gG sn sp t):=by
 ext c;have ef:=hm.symm.trans MJ;cases ef;refine eG (mr I.inv hg hm ?_ qw);refine fy (h₀:=X.base) I.inv.ok.mod.MD hk (t7 ha pos hE I h λvs H1 ds G1 us s1 I1 m1 r rd q=>⟨I1.inv.sD,?_⟩) he fX;rcases q with q |q
 .refine fY (yq FN hr hb .nil Kk I1.inv r (Q:=zR X.K H1 G1 Q) ?_) λ_ _ z=>(qa.of z).trans m1;rw[bH];exact⟨ds,G1,Q,rd,I1.ab,q,λd G' v H' q' m' A6=>⟨d,G',m',A6,q'⟩⟩
 .refine fY (yq (E:=Xp X.K X.mg E) FX Px GR .nil (λpins σ H s e s' I hq=>hE.pass pins σ H s s' e I hq) I1.inv r (Q:=zR X.K H1 G1 Q) ?_) λ_ _ z=>(qa.of z).trans m1;rw[bH];exact⟨ds,G1,Q,E,rd,I1.ab,q,λd G' v H' q' m' A6=>⟨d,G',m',A6,q'⟩,λex C H' G' q' FG MJ=>⟨ex,C,G',rfl,MJ,FG,q'⟩⟩
end
end K2
end
section
namespace K2
open PySem PySem.W PySem.Spec PyProof.Rows PySem.Calls
structure At(K:Frag)(x:Str)(st:Stmt)(f:Addr)(fd:cG):Prop where
 a:nsIn K bj x=some (some (.ref f))
 F:L2.Qy K x x st f fd
theorem Ue{K:Frag}{st:Stmt}(a:autoParam (nsIn K bj x=some (some (.ref f))) Aq._auto_1)(l:autoParam (K.lookup f=some ⟨oc,od,.func (fnOf x x (L2.fm st) (L2.c7 st) (L2.bK st) .none kV doc pm an fT ct),HX⟩) Aq._auto_1)
  (c:autoParam (codeIn K fT x=true) Aq._auto_1) (k:autoParam (keepIn K (.ref f)=true) Aq._auto_1):At K x st f (fnOf x x (L2.fm st) (L2.c7 st) (L2.bK st) .none kV doc pm an fT ct):=⟨a,L2.PW l c k⟩
structure Cal(P:bY)(w:World)(K:Frag)(mg:@aa)(base:Heap)(CX:L2.JQ)(k:Nat)(f:Addr)(fd:cG)(x:Str)(ps:@n)(sp:L2.Sp):Prop where
 ok:L2.lu P w K mg base CX k f fd ps sp
 mg:mg x=some (.ref f)
 kp:keepIn K (.ref f)=true
 bi:L2.Binds K fd ps []
end K2
end
section
namespace K2
open PySem PySem.W PySem.Spec PyProof.Rows L2
structure Fw where
 P:bY
 w:World
 K:Frag
 mg:@aa
 base:Heap
inductive zG (V:Fw):Prop
 |mk {h:Heap}:V.K.In h->h.Ns bj V.mg->zG V
theorem zG.mg{V:Fw}(Y:zG V)(a:nsIn V.K bj x=some (some v)):V.mg x=some v:=by obtain⟨X,G⟩:=Y;exact mg_of X G a
theorem zG.no{V:Fw}(Y:zG V)(a:nsIn V.K bj x=some none):V.mg x=none:=by obtain⟨X,G⟩:=Y;exact mg_none_of X G a
inductive ClZ (V:Fw) (CX:JQ) (k:Nat) (x:Str) (ps:@n) (sp:Sp):Prop
 |mk {f:Addr} {fd:cG}:Cal V.P V.w V.K V.mg V.base CX k f fd x ps sp->ClZ V CX k x ps sp
abbrev lG(V:Fw)(k:Nat)(x:Str)(ps:@n)(sp:di):Prop:=ClZ V tu k x ps (j3 V.K sp)
abbrev QA(V:Fw)(k:Nat)(x:Str)(ps:@n)(sp:di):Prop:=ClZ V (vK V.P V.w) k x ps (hW V.K V.mg sp)
inductive lx (K:Frag) (x:Str) (st:Stmt):Prop
 |mk {f:Addr} {fd:cG}:At K x st f fd->lx K x st
theorem dv{K:Frag}{st:Stmt}{kV:Value}(a:autoParam (nsIn K bj x=some (some (.ref f))) Aq._auto_1)(l:autoParam (K.lookup f=some ⟨oc,od,.func (fnOf x x (L2.fm st) (L2.c7 st) (L2.bK st) .none kV doc pm an fT ct),HX⟩) Aq._auto_1)
  (c:autoParam (codeIn K fT x=true) Aq._auto_1) (k:autoParam (keepIn K (.ref f)=true) Aq._auto_1):lx K x st:=⟨Ue a l c k⟩
theorem fo3{V:Fw}{x:Str}{st:Stmt}{ps:@n}{k:Nat}{sp:di}{rd:da}(Nn:@n)(Y:zG V)(F:lx V.K x st)
  (hr:∀ds G Q,sp ds G Q (@f)->rd (@f) @q (aJ Nn.length ds) G)
  (hb:∀{f:Addr} {fT:Value} {A:eI} {outer:List Env} {s:aL} {H:Hp} {E:XK},fM k (A.deeper (AJ x (bK st) s.heap.objs.size f fT))->Nn.Nodup->ma (vE tu V.P V.w V.K V.mg V.base Nn x (bK st) f fT A outer s H E).VE (c7 st) rd)
  (S:autoParam (ip Nn ps (bK st)) W5._auto_1)
  (bn:autoParam (∀(kV doc pm:Value) (an:Option Addr) (fT ct:Value) (us:@D),us.length=ps.length->yd (fnOf x x (fm st) (c7 st) (bK st) .none kV doc pm an fT ct) ⟨us,[]⟩=pure (ps.zip us)) Aub._auto_1)
  (len:autoParam (∀ds G Q E,sp ds G Q E->ds.length=ps.length) UC._auto_1):lG V (k+1) x ps sp:=by
 obtain⟨z⟩:=F;exact⟨⟨Az z.F S len hr λ_ _ _ _ _ _ r=>hb r S.nd,Y.mg z.a,z.F.kp,z.F.binds bn⟩⟩
theorem foE{V:Fw}{x:Str}{st:Stmt}{ps:@n}{k:Nat}{sp:di}{rd:da}(Nn:@n)(Y:zG V)(F:lx V.K x st)
  (hr:∀ds G Q E,sp ds G Q E->rd E @q (aJ Nn.length ds) G)
  (hb:∀{f:Addr} {fT:Value} {A:eI} {outer:List Env} {s:aL} {H:Hp} {E:XK},fM k (A.deeper (AJ x (bK st) s.heap.objs.size f fT))->Nn.Nodup->ma (vE (vK V.P V.w) V.P V.w V.K V.mg V.base Nn x (bK st) f fT A outer s H E) (c7 st) rd)
  (S:autoParam (ip Nn ps (bK st)) W5._auto_1)
  (bn:autoParam (∀(kV doc pm:Value) (an:Option Addr) (fT ct:Value) (us:@D),us.length=ps.length->yd (fnOf x x (fm st) (c7 st) (bK st) .none kV doc pm an fT ct) ⟨us,[]⟩=pure (ps.zip us)) Aub._auto_1)
  (len:autoParam (∀ds G Q E,sp ds G Q E->ds.length=ps.length) UC._auto_1):QA V (k+1) x ps sp:=by
 obtain⟨z⟩:=F;exact⟨⟨KQ z.F S len hr λ_ _ _ _ _ _ r=>hb r S.nd,Y.mg z.a,z.F.kp,z.F.binds bn⟩⟩
structure Zn(K:Frag)(x:Str)(C:Addr):Prop where
 ns:nsIn K bj x=some (some @z)
 ex:excIn K C [.type "ValueError",.type "Exception",.type "BaseException",.type "object"] "ValueError.__new__"=true
 xi:D6 K C
theorem cw {K:Frag}   (ns:autoParam (nsIn K bj x=some (some @z)) Aq._auto_1) (ex:autoParam (excIn K C [.type "ValueError",.type "Exception",.type "BaseException",.type "object"] "ValueError.__new__"=true) Ax._auto_1)
  (x0:autoParam (AI K @z "__getattribute__"=some (some (.builtin "BaseException.__getattribute__"))) Af._auto_1) (x1:autoParam (AI K @z "__getattr__"=some none) Af._auto_1) (x2:autoParam (AI K @z "__class__"=some (some (.builtin "object.__class__"))) Af._auto_1)
  (x3:autoParam (specialIn K (.builtin "object.__class__") "__get__"=some (some (.builtin "getset_descriptor.__get__"))) Af._auto_1) (x4:autoParam (takesIn K (.builtin "object.__class__")=some true) Af._auto_1) (x5:autoParam (mroIn K C (.type "object")=some true) Af._auto_1) (x6:autoParam (mroIn K C (.type "BaseException")=some true) Af._auto_1) (x7:autoParam ((clsIn K C).isSome=true) Af._auto_1):Zn K x C:=⟨ns,ex,⟨x0,x1,x2,x3,x4,x5,x6,x7⟩⟩
theorem Dm{K:Frag}{D:Value}(l:autoParam (K.lookup C=some ⟨oc,od,.cls cd,sl⟩) Aq._auto_1)(m:autoParam (cd.mro.contains D=true) Ae._auto_1):subIn K C D=true:=by unfold subIn;rw[l];exact m
abbrev Kn0 (K:Frag) (C:Addr):Prop:=kitOne K (.type "NoneType") @z=some false
noncomputable def UI(sc:Scope)(x:Str):Bool:=match sc.names.lookup x with
 |some .local=>true
 |some .cell=>true
 |some .free=>true
 |_=>false
noncomputable def Sy(sc:Scope)(x:Str):Bool:=match sc.names.lookup x with
 |some .local=>true
 |some .cell=>true
 |_=>false
theorem UH(h:UI sc x=true):Z6 sc x:=by
 unfold UI at h;split at h
 .exact .inl (by assumption)
 .exact .inr (.inl (by assumption))
 .exact .inr (.inr (by assumption))
 .cases h
theorem O9(h:Sy sc x=true):Loc sc x:=by
 unfold Sy at h;split at h
 .exact .inl (by assumption)
 .exact .inr (by assumption)
 .cases h
theorem Nv(h:autoParam (X.env.kindOf x=some .globalImplicit) Ac._auto_1):Gl X x:=h
noncomputable def okN (x:Str):Bool:=!(x == ("__debug__":Str))&&!(x == ("__classdict__":Str))
theorem okN.d  (h:okN x=true):(x == ("__debug__":Str))=false:=by unfold okN at h;simp only[bg,mE] at h;exact h.1
theorem okN.c  (h:okN x=true):(x == ("__classdict__":Str))=false:=by unfold okN at h;simp only[bg,mE] at h;exact h.2
section
variable {X:Cx} {x:Str} {i:Nat} {pos pos':Pos} {e:Expr} {te:fh} {es:List Expr} {t:sV}
theorem pvK(hN:autoParam (X.N[i]?=some x) Ac._auto_1)(hv:autoParam (UI X.env.scope x=true) Ac._auto_1)(hd:autoParam (okN x=true) Ac._auto_1):dw X (.Name x pos) (ak i):=RW hN (UH hv) (okN.d hd) (okN.c hd)
theorem pgK(hN:X.N.Nodup)(hi:autoParam (X.N[i]?=some x) Ac._auto_1)(hx:autoParam (Sy X.env.scope x=true) Ac._auto_1)(hf:autoParam ((X.fn x||X.env.scope.names.lookup x == some .local)=true) Ac._auto_1):AD X (.Name x pos) (aE i) :=
 OI hN hi (O9 hx) (by rcases(dQ _ _).mp hf with h |h;exact .inl h;exact .inr (eq_of_beq h))
theorem psK(hN:X.N.Nodup)(he:dw X e te)(hi:autoParam (X.N[i]?=some x) Ac._auto_1)(hx:autoParam (Sy X.env.scope x=true) Ac._auto_1)(hs:autoParam (kd e (some (.Name x pos')) pos.line X.env=pure false) Ac._auto_1)(hf:autoParam ((X.fn x||X.env.scope.names.lookup x == some .local)=true) Ac._auto_1):
  ui X (.Assign [.Name x pos'] e pos) (aS te (aE i)):=RK hN hi (O9 hx) he hs (by rcases(dQ _ _).mp hf with h |h;exact .inl h;exact .inr (eq_of_beq h))
theorem paK(ha:dw X e te)(hr:rg X es t)(hs:autoParam @af Ac._auto_1):rg X (e::es) (ah te t):=sv ha hr hs
end
def HG(K:Frag)(l:@n):Prop:=∀x∈l,nsIn K bj x=some none
theorem Ss{K:Frag}:HG K []:=λx h=>by cases h
theorem OX{K:Frag}(t:HG K l)(h:autoParam (nsIn K bj x=some none) Aq._auto_1):HG K (x::l):=λy hy=>by
 rcases List.mem_cons.mp hy with rfl |hy
 .exact h
 .exact t y hy
structure Z9(X:Cx)(N:@n)(sc:Scope):Prop where
 n:X.N=N
 s:X.env.scope=sc
noncomputable def nmE:Expr->Str
 |.Name x _=>x
 |_=>""
def Lc(tg:Expr)(XN:@n)(fr:List Nat):@n:=(match tg with
 |.Tuple es _ _=>es.map nmE
 |e=>[nmE e])++fr.map λi=>XN.getD i ""
noncomputable abbrev VX(X:Cx):Fw:=⟨X.prog,X.w,X.K,X.mg,X.base⟩
section
variable {X:Cx} {l XN:@n} {x:Str} {sc scope:Scope} {tg elt iter:Expr} {ifs:List Expr} {pos:Pos} {m:Nat} {fr:List Nat} {wi:Qv} {g:B1} {c:Option yJ} {te:fh}
theorem noX(Y:zG (VX X))(N:HG X.K l)(h:autoParam (x∈l) Ad._auto_1):X.mg x=none:=Y.no (N x h)
theorem Vq(hx:Z9 X XN sc)(hi:Hx X tg iter wi)(hg:(Lc tg XN fr).Nodup->∀C s H fp,AD (de X (Lc tg XN fr) scope C s H fp) tg g)(PB:∀C s H fp,Tj (de X (Lc tg XN fr) scope C s H fp) ifs c)(he:∀C s H fp,dw (de X (Lc tg XN fr) scope C s H fp) elt te)
  (hn:autoParam ((Lc tg XN fr).Nodup) Ak._auto_1) (hb:autoParam (tV (Lc tg XN fr) scope m fr sc XN=true) Ak._auto_1) (hc:autoParam (X.calm=true) Ac._auto_1) (hs:autoParam (∀x,gH iter X.env x=pure x) ZD._auto_1):dw X (.ListComp elt [⟨tg,iter,ifs,0⟩] scope pos) (eK m fr wi g c te) :=
 OO (Lc tg XN fr) hi (hg hn) PB he hx.s hx.n hb hc hs
theorem Vc(hx:Z9 X XN sc)(hN:X.N.Nodup)(hi:Hx X tg iter wi)(hg:(Lc tg XN fr).Nodup->∀C s H fp,AD (de X (Lc tg XN fr) scope C s H fp) tg g)(PB:∀C s H fp,Tj (de X (Lc tg XN fr) scope C s H fp) ifs c)(he:∀C s H fp,dw (de X (Lc tg XN fr) scope C s H fp) elt te)
  (YB:autoParam (X.N[i]?=some y) Ac._auto_1) (hy:autoParam (X.env.scope.names.lookup y=some .local) Ac._auto_1) (hn:autoParam ((Lc tg XN fr).Nodup) Ak._auto_1) (hb:autoParam (tV (Lc tg XN fr) scope m fr sc XN=true) Ak._auto_1) (hc:autoParam (X.calm=true) Ac._auto_1)
  (YC:autoParam (kd (.ListComp elt [⟨tg,iter,ifs,0⟩] scope pos) (some (.Name y py)) Ge.line X.env=pure true) Ar._auto_1) (hs:autoParam (∀x,gH iter X.env x=pure x) ZD._auto_1):
  ui X (.Assign [.Name y py] (.ListComp elt [⟨tg,iter,ifs,0⟩] scope pos) Ge) (aS (eK m fr wi g c te) (aE i)) :=
 Ox (Lc tg XN fr) hN YB hy hi (hg hn) PB he hx.s hx.n hb hc YC hs
end
def CsZ(K:Frag)(x:Str)(i:Int):Prop:=∃t:Tok,nsIn K bj x=some (some (.int i t))
theorem WD{K:Frag}(h:autoParam (nsIn K bj x=some (some (.int i t))) Aq._auto_1):CsZ K x i:=⟨t,h⟩
section
variable {X:Cx} {x:Str} {p px pos:Pos}
theorem Sa  (Y:zG (VX X)) (c:CsZ X.K x i) (hg:autoParam (Gl X x) JR._auto_1) (hd:autoParam ((x == ("__debug__":Str))=false) Ad._auto_1):dw X (.Name x p) (dC (.int i)):=by
 obtain⟨t,h⟩:=c;exact R9 hg (Y.mg h) hd
end
section
variable {X:Cx} {e:Expr} {es:List Expr} {t:sV} {pos p:Pos} {x:Str} {k n:Nat} {ps:@n} {sp:di}
theorem aaz (c:QA (VX X) k x ps sp) (hr:fM n X.A) (ha:rg X (e::es) t) (hk:autoParam (k<=n) An._auto_1) (hg:autoParam (Gl X x) JR._auto_1) (qw:autoParam ((x == ("__debug__":Str))=false) Ad._auto_1) (he:autoParam @af Ac._auto_1) (fX:autoParam ((eW pos (aT es X.env)).any (·.1)=false) Ac._auto_1):
  dw X (.Call (.Name x p) (e::es) [] pos) (kM sp t):=by
 obtain⟨c⟩:=c;exact Mb c.ok (hr.mono hk) hg c.mg c.kp c.bi ha qw he fX
theorem aaA(c:lG (VX X) k x ps sp)(hr:fM n X.A)(ha:rg X (e::es) t)(hk:autoParam (AO k n=true) Ac._auto_1)(hg:autoParam (Gl X x) JR._auto_1)(qw:autoParam (okN x=true) Ac._auto_1)(he:autoParam @af Ac._auto_1)(fX:autoParam ((eW pos (aT es X.env)).any (·.1)=false) Ac._auto_1):
  dw X (.Call (.Name x p) (e::es) [] pos) (aO sp t):=by
 obtain⟨c⟩:=c;exact OP c.ok (hr.mono (dg hk)) hg c.mg c.kp c.bi ha (okN.d qw) he fX
end
def Uh(K:Frag)(x:Str):Prop:=∃C:Addr,Zn K x C
theorem yh{K:Frag}(h:autoParam (Zn K x C) Auf._auto_1):Uh K x:=⟨C,h⟩
theorem oj{p:Str->Prop}:∀c,([]:@n).contains c=true->p c:=λc h=>by cases h
theorem mem_cons{p:Str->Prop}(t:∀c,l.contains c=true->p c)(h:p x):∀c,(x::l).contains c=true->p c:=Qi h t
def ZA(K:Frag)(cn:Str)(cat:@n):Prop:=∃D:Addr,Zn K cn D/\∀c,cat.contains c=true->∃C:Addr,Zn K c C/\subIn K C (.ref D)=true
def W3(K:Frag)(y:Str)(all sub:@n):Prop:=∃C:Addr,nsIn K bj y=some (some @z)/\Kn0 K C/\∀c,all.contains c=true->∃C':Addr,nsIn K bj c=some (some (.ref C'))/\kitOne K (.ref C') @z=some (sub.contains c)/\D6 K C'
section
variable {X:Cx} {x cn n y:Str} {ps:@n} {k i j m:Nat} {sp:di} {cat all sub l:@n} {e e0 a:Expr} {es:List Expr} {p np pos mB ep vq tp py:Pos} {Eh:Stmt} {lH:List Stmt} {t:sV} {th:da} {ta:fh}
theorem ZA.el{q:Prop}(Y:zG (VX X))(z:ZA X.K cn cat)(hN:X.N.Nodup)(h1:X.N[i]?=some n)(h2:X.env.scope.names.lookup n=some .local)(h3:Gl X cn)(k:∀D,Clause X i n cn D cat->q):q:=by
 obtain⟨D,d,z⟩:=z;exact k D ⟨hN,h1,h2,h3,Y.mg d.ns,⟨_,_,d.ex,rfl⟩,λc hc=>let ⟨C,x,s⟩:=z c hc;⟨C,_,_,x.ns,x.ex,s⟩⟩
theorem R6 (Y:zG (VX X)) (N:HG X.K l) (z:W3 X.K y all sub) (ha:dw X a ta) (h:autoParam (("isinstance":Str)∈l) Ad._auto_1) (hg:autoParam (Gl X "isinstance") JR._auto_1) (SI:autoParam (Gl X y) JR._auto_1) (qw:autoParam ((y == ("__debug__":Str))=false) Ad._auto_1)
  (he:autoParam (aT [a,.Name y py] X.env=(false,eval a X.env)::aT [.Name y py] X.env) Ac._auto_1) (fX:autoParam ((eW pos (aT [HQ y py] X.env)).any (·.1)=false) Ac._auto_1) (PG:autoParam (aT [.Name y py] X.env=[(false,eval (.Name y py) X.env)]) Ac._auto_1):
  dw X (.Call (.Name "isinstance" p) [a,.Name y py] [] pos) (qV all sub ta):=by
 obtain⟨C,h1,h2,h3⟩:=z;exact ON Ea hg (Y.no (N _ h)) SI (Y.mg h1) h2 h3 ha qw he fX PG
end
section
variable {X:Cx} {x name id T:_root_.String} {l:@n} {y:Str} {a b o e c:Expr} {es:List Expr} {ta tb to te:fh} {t:sV} {p pos apos mB NS:Pos} {r:@i->Gp->DK->Prop} {tg iter:Expr} {body:List Stmt} {wi:Qv} {g:B1} {u:da}
theorem ZJ (hc:nG X (.builtin id) r) (hv:dj y=some (.builtin id)) (Y:zG (VX X)) (N:HG X.K l) (ha:rg X (e::es) t) (h:autoParam (y∈l) Ad._auto_1) (hg:autoParam (Gl X y) JR._auto_1) (hn:autoParam (y≠"__name__") Ad._auto_1) (qw:autoParam (okN y=true) Ac._auto_1)
  (he:autoParam @af Ac._auto_1) (fX:autoParam ((eW pos (aT es X.env)).any (·.1)=false) Ac._auto_1):dw X (.Call (.Name y p) (e::es) [] pos) (gJ r t):=Md hc hg (Y.no (N _ h)) hv ha hn (okN.d qw) he fX
theorem ptK (hc:nG X (.type T) r) (hv:dj y=some (.type T)) (Y:zG (VX X)) (N:HG X.K l) (ha:rg X (e::es) t) (h:autoParam (y∈l) Ad._auto_1) (hg:autoParam (Gl X y) JR._auto_1) (hn:autoParam (y≠"__name__") Ad._auto_1) (qw:autoParam (okN y=true) Ac._auto_1)
  (he:autoParam @af Ac._auto_1) (fX:autoParam ((eW pos (aT es X.env)).any (·.1)=false) Ac._auto_1):dw X (.Call (.Name y p) (e::es) [] pos) (gJ r t):=IT hc hg (Y.no (N _ h)) hv ha hn (okN.d qw) he fX
theorem X8 {name:Str}  {r:D->@i->Gp->DK->Prop} (pa:PlainAttrs T) (slot:Slot T name id) (hty:typeOf (.builtin id)=pure (.type "method_descriptor")) (ht:Th X T ty) (hm:JN X id r) (ho:dw X o to) (ha:rg X (e::es) t)
  (GQ:autoParam (ye o name X.env (eval o X.env)=eval o X.env) Ac._auto_1)
  (SJ:autoParam (((eW mB (aT (e::es) X.env)).all (λx=>!x.1)&&(Nj mB (yc [] X.env)).all (λx=>x.1.isSome)
   && decide ((e::es).length+([]:List Keyword).length+(if([]:List Keyword).isEmpty then 0 else 1)<30))=true) Ac._auto_1)
  (PA:autoParam ((apos.endLine == mB.line)=true) Ac._auto_1) (hs:autoParam @af Ac._auto_1) (Jq:autoParam ((eW mB (aT es X.env)).any (·.1)=false) Ac._auto_1):
  dw X (.Call (.Attribute o name apos) (e::es) [] mB) (iZ ty r to t):=Vr pa slot hty ht hm ho ha GQ SJ PA hs Jq
theorem pfK(hp:PassesOwn @r X.A X.env X.xe)(hi:Hx X tg iter wi)(hg:AD X tg g)(hb:ma X body u)(hc:autoParam (X.calm=true) Ac._auto_1)(hs:autoParam (∀x,gH iter X.env x=pure x) ZD._auto_1):ui X (.For tg iter body [] pos) (c4 wi g u):=RN hp hc hi hg hb hs
theorem pxK(he:dw X e te)(hs:autoParam (kd e none pos.line X.env=pure false) Ac._auto_1):ui X (.Expr e pos) (bw te):=Oy he hs
theorem pqK(he:dw X e te)(hg:AD X tg g)(hs:autoParam (swapsWithSole [tg] e pos.line X.env=pure false) Ac._auto_1)(hw:autoParam (swappedStores [tg] e X.env=pure none) Ac._auto_1)(h1:autoParam ((jB [tg] X.env).map (·.2)=[AL tg X.env]) Ac._auto_1):ui X (.Assign [tg] e pos) (aS te g):=RO he hg hs hw h1
theorem pzK(ha:dw X a ta)(he:autoParam (∀whole,isTrue a X.env whole=(do let v ← whole;Ij a.pos;qb [v] (truthy v))) ZD._auto_1):CP X a (bX ta):=LR ha he
theorem pyK(hu:X.A.units+64<cLine)(ho:dw X o to)(hi:dw X i ti)
  (ha:autoParam (∀v,AL (.Subscript o i pos) X.env v=(do
   let ov ← qb [v] (eval o X.env)
   let iv ← qb [v,ov] (eval i X.env)
   Ij pos
   qb [v,ov,iv] (setItem ov iv v)
   release [v,ov,iv] [])) ZD._auto_1):AD X (.Subscript o i pos) (q4 to ti):=RT hu ho hi ha
end
def JS:@n->(@D->Prop)->Prop
 |[],P=>P []
 |_::r,P=>∀a,JS r λus=>P (a::us)
theorem tX:∀(ps:@n) {P:@D->Prop},JS ps P->∀us:@D,us.length=ps.length->P us
 |[],_,h,[],_=>h
 |_::ps,_,h,a::us,e=>tX ps (h a) us (Nat.succ.inj e)
abbrev WB(V:Fw)(Nn:@n)(x:Str)(sc:Scope)(f:Addr)(fT:Value)(A:eI)(outer:List Env)(s:aL)(H:Hp)(E:XK):Cx:=(vE tu V.P V.w V.K V.mg V.base Nn x sc f fT A outer s H E).VE
abbrev WH(V:Fw)(Nn:@n)(x:Str)(sc:Scope)(f:Addr)(fT:Value)(A:eI)(outer:List Env)(s:aL)(H:Hp)(E:XK):Cx:=vE (vK V.P V.w) V.P V.w V.K V.mg V.base Nn x sc f fT A outer s H E
abbrev BdZ(V:Fw)(l:@n)(k:Nat)(Nn:@n)(x:Str)(sc:Scope)(b:List Stmt)(rd:da):Prop:=∀{f:Addr} {fT:Value} {A:eI} {outer:List Env} {s:aL} {H:Hp} {E:XK},fM k (WB V Nn x sc f fT A outer s H E).A->(WB V Nn x sc f fT A outer s H E).A.units+64<cLine->(WB V Nn x sc f fT A outer s H E).A.units<cLine->(WB V Nn x sc f fT A outer s H E).N.Nodup->Z9 (WB V Nn x sc f fT A outer s H E) Nn sc->zG (VX (WB V Nn x sc f fT A outer s H E))->HG V.K l->ma (WB V Nn x sc f fT A outer s H E) b rd
abbrev BeZ(V:Fw)(l:@n)(k:Nat)(Nn:@n)(x:Str)(sc:Scope)(b:List Stmt)(rd:da):Prop:=∀{f:Addr} {fT:Value} {A:eI} {outer:List Env} {s:aL} {H:Hp} {E:XK},fM k (WH V Nn x sc f fT A outer s H E).A->(WH V Nn x sc f fT A outer s H E).A.units+64<cLine->(WH V Nn x sc f fT A outer s H E).A.units<cLine->(WH V Nn x sc f fT A outer s H E).N.Nodup->Z9 (WH V Nn x sc f fT A outer s H E) Nn sc->zG (VX (WH V Nn x sc f fT A outer s H E))->HG V.K l->ma (WH V Nn x sc f fT A outer s H E) b rd
section
variable {V:Fw} {x:Str} {st:Stmt} {ps l:@n} {k:Nat} {sp:di} {rd:da}
theorem mf(Nn:@n)(Y:zG V)(N:HG V.K l)(F:lx V.K x st)(hr:∀ds G Q,sp ds G Q (@f)->rd (@f) @q (aJ Nn.length ds) G)(hb:BdZ V l k Nn x (bK st) (c7 st) rd)
  (S:autoParam (ip Nn ps (bK st)) W5._auto_1)
  (bn:autoParam (∀(kV doc pm:Value) (an:Option Addr) (fT ct:Value),JS ps λus=>yd (fnOf x x (fm st) (c7 st) (bK st) .none kV doc pm an fT ct) ⟨us,[]⟩=pure (ps.zip us)) ZC._auto_1)
  (len:autoParam (∀ds G Q E,sp ds G Q E->ds.length=ps.length) UC._auto_1):lG V (k+1) x ps sp :=
 fo3 Nn Y F hr (λ{f fT A outer s H E} r nd=>hb r r.units r.yj nd @R Y N) S (λa b c d e f us hl=>tX ps (bn a b c d e f) us hl) len
theorem MS(Nn:@n)(Y:zG V)(N:HG V.K l)(F:lx V.K x st)(hr:∀ds G Q E,sp ds G Q E->rd E @q (aJ Nn.length ds) G)(hb:BeZ V l k Nn x (bK st) (c7 st) rd)
  (S:autoParam (ip Nn ps (bK st)) W5._auto_1)
  (bn:autoParam (∀(kV doc pm:Value) (an:Option Addr) (fT ct:Value),JS ps λus=>yd (fnOf x x (fm st) (c7 st) (bK st) .none kV doc pm an fT ct) ⟨us,[]⟩=pure (ps.zip us)) ZC._auto_1)
  (len:autoParam (∀ds G Q E,sp ds G Q E->ds.length=ps.length) UC._auto_1):QA V (k+1) x ps sp :=
 foE Nn Y F hr (λ{f fT A outer s H E} r nd=>hb r r.units r.yj nd @R Y N) S (λa b c d e f us hl=>tX ps (bn a b c d e f) us hl) len
theorem ab6{f:Addr}{fd:cG}{Nn:@n}(S:ip Nn ps (bK st))(Y:zG V)(N:HG V.K l)(F:Qy V.K x x st f fd)(hr:∀ds G Q,sp ds G Q (@f)->rd (@f) @q (aJ Nn.length ds) G)(hb:BdZ V l k Nn x (bK st) (c7 st) rd)
  (len:autoParam (∀ds G Q E,sp ds G Q E->ds.length=ps.length) UC._auto_1):lu V.P V.w V.K V.mg V.base tu (k+1) f fd ps (j3 V.K sp) :=
 Az F S len hr λfT A outer s H E r=>hb r r.units r.yj S.nd @R Y N
end
def Tu(K:Frag)(cn:Str):Prop:=∃C:Addr,CAt K cn C
theorem fZ{K:Frag}(h:autoParam (CAt K cn C) Auh._auto_1):Tu K cn:=⟨C,h⟩
inductive AE (K:Frag) (cn m q:Str) (st:Stmt):Prop
 |mk {C f:Addr} {fd:cG}:nsIn K bj cn=some (some @z)->W2 K C m q st f fd->AE K cn m q st
theorem ie{K:Frag}{st:Stmt}(h:autoParam (nsIn K bj cn=some (some @z)) Aq._auto_1)(z:autoParam (W2 K C m q st f fd) Aui._auto_1):AE K cn m q st:=⟨h,z⟩
def WY(K:Frag)(cn:Str):Prop:=∃C:Addr,nsIn K bj cn=some (some @z)/\makesIn K C=true/\keepIn K @z=true
theorem Be{K:Frag}(h:autoParam (nsIn K bj cn=some (some @z)) Aq._auto_1)(h1:autoParam (makesIn K C=true) Aq._auto_1)(h2:autoParam (keepIn K @z=true) Aq._auto_1):WY K cn:=⟨C,h,h1,h2⟩
def Uk(K:Frag)(l:List (Str×Str)):Prop:=∀p∈l,Tt K p.2 p.1
theorem SR{K:Frag}:Uk K []:=λx h=>by cases h
theorem fg{K:Frag}(t:Uk K l)(a:Tu K c)(h:autoParam (nsIn K bj c=some (some @z)) Aq._auto_1)(n:autoParam (AI K @z f=some none) Aq._auto_1):Uk K ((c,f)::l):=λy hy=>by
 rcases List.mem_cons.mp hy with rfl |hy
 .obtain⟨D,a⟩:=a;have e:=a.ns.symm.trans h;cases e;exact⟨_,h,a.cl,n⟩
 .exact t y hy
inductive u0 (V:Fw) (CX:JQ) (k:Nat) (cn m:Str) (ps:@n) (sp:Sp):Prop
 |mk {f:Addr} {fd:cG} {C:Addr}:acA V.P V.w V.K V.mg V.base CX k f fd C cn m ps sp->u0 V CX k cn m ps sp
inductive UA (V:Fw) (k:Nat) (cn:Str) (ps:@n) (sp:di):Prop
 |mk {f:Addr} {fd:cG} {C:Addr}:acB V.P V.w V.K V.mg V.base k f fd C cn ps (j3 V.K sp)->UA V k cn ps sp
section
variable {X:Cx} {e o a value:Expr} {es:List Expr} {te to ta tv:fh} {f x m cn y:Str} {al all sub l ps:@n} {fl:List (Str×Str)} {pos p pos' py:Pos} {t:sV} {k n:Nat} {sp:di} {ms:List (Str×di)}
theorem Uk.get(z:Uk X.K fl)(h:(al.all λc=>decide ((c,f)∈fl))=true):∀c∈al,Tt X.K f c:=λc hc=>z (c,f) (of_decide_eq_true (List.all_eq_true.mp h c hc))
theorem Sd(z:Uk X.K fl)(he:dw X e te)(h:autoParam ((al.all λc=>decide ((c,f)∈fl))=true) Ac._auto_1)(hb:autoParam (ye e f X.env (eval e X.env)=eval e X.env) Ac._auto_1):dw X (.Attribute e f pos) (bh al f te):=OQ (z.get h) he hb
theorem RJ(z:Uk X.K fl)(ho:dw X o to)(hv:dw X value tv)(h:autoParam ((al.all λc=>decide ((c,f)∈fl))=true) Ac._auto_1)(hs:autoParam (kd value (some (.Attribute o f pos')) pos.line X.env=pure false) Ac._auto_1):ui X (.Assign [.Attribute o f pos'] value pos) (jg al f to tv):=Ow (z.get h) ho hv hs
theorem R3(c:UA (VX X) k x ps sp)(hr:fM n X.A)(ha:rg X (e::es) t)(hk:autoParam (AO (k+1) n=true) Ac._auto_1)(hg:autoParam (Gl X x) JR._auto_1)(qw:autoParam (okN x=true) Ac._auto_1)(he:autoParam @af Ac._auto_1)(fX:autoParam ((eW pos (aT es X.env)).any (·.1)=false) Ac._auto_1):
  dw X (.Call (.Name x p) (e::es) [] pos) (gv x sp t):=by
 obtain⟨c⟩:=c;exact OL c.mkr c.ns c.ok (hr.mono (dg hk)) hg c.mg c.bi ha (okN.d qw) he fX
theorem Yr(c:u0 (VX X) tu k cn m ps (j3 X.K sp))(hr:fM n X.A)(t:∀p∈ms,Na X m p)(hk:autoParam (AO k n=true) Ac._auto_1):∀p∈(cn,sp)::ms,Na X m p:=by
 obtain⟨c⟩:=c;exact Mn c.me c.ok (hr.mono (dg hk)) c.bi t
end
section
variable {V:Fw} {cn m q:Str} {st:Stmt} {ps l:@n} {k:Nat} {sp:di} {rd:da}
theorem xg(Nn:@n)(Y:zG V)(N:HG V.K l)(c:Tu V.K cn)(F:AE V.K cn m q st)(hr:∀ds G Q,sp ds G Q (@f)->rd (@f) @q (aJ Nn.length ds) G)(hb:BdZ V l k Nn q (bK st) (c7 st) rd)
  (S:autoParam (ip Nn ps (bK st)) W5._auto_1)
  (bn:autoParam (∀(kV doc pm:Value) (an:Option Addr) (fT ct:Value),JS ps λus=>yd (fnOf m q (fm st) (c7 st) (bK st) .none kV doc pm an fT ct) ⟨us,[]⟩=pure (ps.zip us)) ZC._auto_1)
  (len:autoParam (∀ds G Q E,sp ds G Q E->ds.length=ps.length) UC._auto_1):u0 V tu (k+1) cn m ps (j3 V.K sp):=by
 obtain⟨C,c⟩:=c;obtain⟨h,z⟩:=F;have e:=c.ns.symm.trans h;cases e;exact⟨⟨Az z.F S len hr λfT A outer s H E r=>hb r r.units r.yj S.nd @R Y N,z.F.binds λa b c d e f us hl=>tX ps (bn a b c d e f) us hl,z.me c⟩⟩
theorem PY (Nn:@n) (Y:zG V) (N:HG V.K l) (c:WY V.K cn) (F:AE V.K cn "__init__" q st) (hr:∀ds G Q,sp ds G Q (@f)->rd (@f) @q (aJ Nn.length ds) G) (hb:BdZ V l k Nn q (bK st) (c7 st) rd)
  (S:autoParam (ip Nn ps (bK st)) W5._auto_1)
  (bn:autoParam (∀(kV doc pm:Value) (an:Option Addr) (fT ct:Value),JS ps λus=>yd (fnOf "__init__" q (fm st) (c7 st) (bK st) .none kV doc pm an fT ct) ⟨us,[]⟩=pure (ps.zip us)) ZC._auto_1)
  (len:autoParam (∀ds G Q E,sp ds G Q E->ds.length=ps.length) UC._auto_1):UA V (k+1) cn ps sp:=by
 obtain⟨C,c,mk,kp⟩:=c;obtain⟨h,z⟩:=F;have e:=c.symm.trans h;cases e;exact⟨⟨Az z.F S len hr λfT A outer s H E r=>hb r r.units r.yj S.nd @R Y N,z.F.binds λa b c d e f us hl=>tX ps (bn a b c d e f) us hl,z.maker mk kp,c,Y.mg c⟩⟩
end
def VeZ (K:Frag) (all:@n):Prop:=∀c,all.contains c=true->∃C:Addr,nsIn K bj c=some (some @z)/\kitOne K @z (.type "ValueError")=some true/\D6 K C
section
variable {X:Cx} {e o a:Expr} {es:List Expr} {to ta:fh} {x y m cn n:Str} {all l ps ps' cat:@n} {pos p py np apos ep vq:Pos} {t:sV} {k k' i r:Nat} {sn sp:di} {ms:List (Str×di)} {Eh:Stmt} {lH rest:List Stmt} {th:da}
theorem Yq(c:u0 (VX X) (vK X.prog X.w) k cn m ps (hW X.K X.mg sp))(hr:fM r X.A)(t:∀p∈ms,zF X m p)(hk:autoParam (AO k r=true) Ac._auto_1):∀p∈(cn,sp)::ms,zF X m p:=by
 obtain⟨c⟩:=c;exact Jf c.me c.ok (hr.mono (dg hk)) c.bi t
theorem aaB(c:lG (VX X) k x ps sn)(c':QA (VX X) k' x ps' sp)(hr:fM r X.A)(ha:rg X (e::es) t)(hk:autoParam (AO k r=true) Ac._auto_1)(YN:autoParam (AO k' r=true) Ac._auto_1)(hg:autoParam (Gl X x) JR._auto_1)(qw:autoParam (okN x=true) Ac._auto_1)(he:autoParam @af Ac._auto_1)(fX:autoParam ((eW pos (aT es X.env)).any (·.1)=false) Ac._auto_1):
  dw X (.Call (.Name x p) (e::es) [] pos) (gG sn sp t):=by
 obtain⟨c⟩:=c;obtain⟨c'⟩:=c';exact Mc c.ok (hr.mono (dg hk)) hg c.mg c.kp c.bi c'.ok (hr.mono (dg YN)) c'.mg c'.bi ha (okN.d qw) he fX
theorem tbR(Y:zG (VX X))(z:ZA X.K cn cat)(hN:X.N.Nodup)(c:QA (VX X) k x ps sp)(hr:fM r X.A)(ha:∀EX,rg (X.jZ EX) (e::es) t)(SE:∀v,ma (marked X v) (Eh::lH) th)(hk:autoParam (AO k r=true) Ac._auto_1)(hg:autoParam (Gl X x) JR._auto_1)(h1:autoParam (X.N[i]?=some n) Ac._auto_1)(h2:autoParam (X.env.scope.names.lookup n=some .local) Ac._auto_1)(h3:autoParam (Gl X cn) JR._auto_1)(A0:autoParam (HJ X) Auj._auto_1)
  (qw:autoParam (okN x=true) Ac._auto_1) (PH:autoParam (okN cn=true) Ac._auto_1) (he:autoParam @af Ac._auto_1) (fX:autoParam ((eW pos (aT es X.env)).any (·.1)=false) Ac._auto_1)
  (hs:autoParam (kd (.Call (.Name x p) (e::es) [] pos) (some (.Name y py)) ep.line X.env=pure false) Ac._auto_1):
  FH X [.ExceptHandler (some (.Name cn np)) (some n) (Eh::lH) vq] (.Assign [.Name y py] (.Call (.Name x p) (e::es) [] pos) ep::rest) (DQ sp t i cat th):=by
 obtain⟨c⟩:=c;exact z.el Y hN h1 h2 h3 λD L=>NV A0 L SE c.ok (hr.mono (dg hk)) hg c.mg c.kp c.bi ha (okN.d qw) (okN.d PH) he fX hs
theorem tbM(Y:zG (VX X))(z:ZA X.K cn cat)(hN:X.N.Nodup)(Ms:∀p∈ms,zF X m p)(ho:∀EX,dw (X.jZ EX) o to)(ha:∀EX,rg (X.jZ EX) (e::es) t)(SE:∀v,ma (marked X v) (Eh::lH) th)(h1:autoParam (X.N[i]?=some n) Ac._auto_1)(h2:autoParam (X.env.scope.names.lookup n=some .local) Ac._auto_1)(h3:autoParam (Gl X cn) JR._auto_1)(A0:autoParam (HJ X) Auj._auto_1)(PH:autoParam (okN cn=true) Ac._auto_1)
  (w9:autoParam @af Ac._auto_1) (fX:autoParam ((eW pos (aT es X.env)).any (·.1)=false) Ac._auto_1)
  (ht:autoParam (eval (.Call (.Attribute o m apos) (e::es) [] pos) X.env=(do
   let ov ← eval o X.env
   Ij apos.atName
   let (f,first) ← qb [ov] (FR ov m pl)
   callWith pos f first (eW pos (aT (e::es) X.env)) (Nj pos (yc [] X.env)))) Ar._auto_1)
  (hs:autoParam (kd (.Call (.Attribute o m apos) (e::es) [] pos) (some (.Name y py)) ep.line X.env=pure false) Ac._auto_1):
  FH X [.ExceptHandler (some (.Name cn np)) (some n) (Eh::lH) vq] (.Assign [.Name y py] (.Call (.Attribute o m apos) (e::es) [] pos) ep::rest) (sR ms m to t i cat th) :=
 z.el Y hN h1 h2 h3 λD L=>NU A0 L SE Ms ho ha (okN.d PH) w9 fX ht hs
theorem Vd(Y:zG (VX X))(z:Uh X.K x)(ha:rg X (e::es) t)(hg:autoParam (Gl X x) JR._auto_1)(hc:autoParam (X.calm=true) Ac._auto_1)(qw:autoParam (okN x=true) Ac._auto_1)(he:autoParam @af Ac._auto_1)(fX:autoParam ((eW ep (aT es X.env)).any (·.1)=false) Ac._auto_1):
  ui X (.Raise (some (.Call (.Name x np) (e::es) [] ep)) none pos) (fV x t):=by
 obtain⟨C,z⟩:=z;exact IJ hg (Y.mg z.ns) z.ex PySem.F.excBase_ValueError hc ha (okN.d qw) he fX
theorem R5 (Y:zG (VX X)) (N:HG X.K l) (z:VeZ X.K all) (ha:dw X a ta) (h:autoParam (("isinstance":Str)∈l) Ad._auto_1) (h':autoParam (("ValueError":Str)∈l) Ad._auto_1) (hg:autoParam (Gl X "isinstance") JR._auto_1) (SI:autoParam (Gl X "ValueError") JR._auto_1)
  (he:autoParam (aT [a,.Name "ValueError" py] X.env=(false,eval a X.env)::aT [.Name "ValueError" py] X.env) Ac._auto_1) (fX:autoParam ((eW pos (aT [HQ "ValueError" py] X.env)).any (·.1)=false) Ac._auto_1) (PG:autoParam (aT [.Name "ValueError" py] X.env=[(false,eval (.Name "ValueError" py) X.env)]) Ac._auto_1):
  dw X (.Call (.Name "isinstance" p) [a,.Name "ValueError" py] [] pos) (DR all ta) :=
 OM Ea hg (Y.no (N _ h)) SI (Y.no (N _ h')) z ha he fX PG
end
section
variable {V:Fw} {cn m q:Str} {st:Stmt} {ps l:@n} {k:Nat} {sp:di} {rd:da}
theorem yF(Nn:@n)(Y:zG V)(N:HG V.K l)(c:Tu V.K cn)(F:AE V.K cn m q st)(hr:∀ds G Q E,sp ds G Q E->rd E @q (aJ Nn.length ds) G)(hb:BeZ V l k Nn q (bK st) (c7 st) rd)
  (S:autoParam (ip Nn ps (bK st)) W5._auto_1)
  (bn:autoParam (∀(kV doc pm:Value) (an:Option Addr) (fT ct:Value),JS ps λus=>yd (fnOf m q (fm st) (c7 st) (bK st) .none kV doc pm an fT ct) ⟨us,[]⟩=pure (ps.zip us)) ZC._auto_1)
  (len:autoParam (∀ds G Q E,sp ds G Q E->ds.length=ps.length) UC._auto_1):u0 V (vK V.P V.w) (k+1) cn m ps (hW V.K V.mg sp):=by
 obtain⟨C,c⟩:=c;obtain⟨h,z⟩:=F;have e:=c.ns.symm.trans h;cases e;exact⟨⟨KQ z.F S len hr λfT A outer s H E r=>hb r r.units r.yj S.nd @R Y N,z.F.binds λa b c d e f us hl=>tX ps (bn a b c d e f) us hl,z.me c⟩⟩
end
end K2
end
section
namespace K2
open PySem (Str)
open Enc (enc)
theorem P4 [@V] [Enc α](xs:@H):(enc xs:D)=.dR (xs.map enc):=rfl
theorem ij{α:Type} [@V] [Enc α]{G G1:Gp}{p:Nat}{xs:@H}{Q:DK}(l:cO G G1)(hp:G p=none)(h1:G1 p=some (.lst (xs.map enc)))(q:Q (enc xs) G):D5 G1 (.ref p) Q :=
 ES l hp h1 (Cf.same _) q
theorem cT{α:Type}{f:α->D}{g:B1}{body:da}{ok:@t}{xs:@H}{E:iM}{K:kN}{τ:ik}{G:Gp}(I:@H->ik->@t)
  (h0:I [] τ G) (c8:∀pre τ G,I pre τ G->ok G)
  (step:∀(pre:@H) (x:α) (post:@H) τ G (N:ik->@t),xs=pre++x::post->I pre τ G->(∀Df G2,I (pre++[x]) Df G2->N Df G2) ->
   g E (f x) τ G λuw G1=>body E {K with nx:=N,ct:=N,bk:=K.nx} uw G1)
  (fin:∀τ G,I xs τ G->K.nx τ G):uQ g body ok (xs.map f) E K τ G:=by
 have main:∀(post pre:@H) τ G,xs=pre++post->I pre τ G->uQ g body ok (post.map f) E K τ G:=by
  intro post;induction post with
  |nil=>
   intro pre τ G e h;rw[bH] at e;subst e;exact⟨c8 _ _ _ h,fin _ _ h⟩
  |cons d post ih=>
   intro pre τ G e h;refine⟨c8 _ _ _ h,?_⟩;exact step pre d post τ G _ e h λDf G2 h2=>ih (pre++[d]) Df G2 (by rw[e,bM];rfl) h2
 exact main xs [] τ G rfl h0
theorem gX{α:Type}{f:α->D}{g:B1}{c:Option yJ}{e:fh}{ok:@t}{xs:@H}{E:iM}{τ:ik}{G:Gp}{Q:@i->@t}(I:@H->@i->ik->@t)
  (h0:I [] [] τ G) (c8:∀pre acc τ G,I pre acc τ G->ok G)
  (step:∀(pre:@H) (x:α) (post:@H) (acc:@i) τ G (N:ik->@i->@t),xs=pre++x::post->I pre acc τ G->(∀Df M7 G2,I (pre++[x]) M7 Df G2->N Df M7 G2) ->
   g E (f x) τ G λuw G1=>match c with
    |none=>e E uw G1 λx G2=>N uw (acc++[x]) G2
    |some c=>c E uw G1 λk G2=>if k=true then e E uw G2 λx G3=>N uw (acc++[x]) G3 else N uw acc G2)
  (fin:∀acc τ G,I xs acc τ G->Q acc G):jO g c e ok (xs.map f) E τ G [] Q:=by
 have main:∀(post pre:@H) (acc:@i) τ G,xs=pre++post->I pre acc τ G->jO g c e ok (post.map f) E τ G acc Q:=by
  intro post;induction post with
  |nil=>
   intro pre acc τ G e h;rw[bH] at e;subst e;exact⟨c8 _ _ _ _ h,fin _ _ _ h⟩
  |cons d post ih=>
   intro pre acc τ G e' h;refine⟨c8 _ _ _ _ h,?_⟩;have:=step pre d post acc τ G (λDf M7 G2=>jO g c e ok (post.map f) E Df G2 M7 Q) e' h λDf M7 G2 h2=>ih (pre++[d]) M7 Df G2 (by rw[e',bM];rfl) h2;cases c with
   |none=>exact this
   |some c=>exact this
 exact main xs [] [] τ G rfl h0
theorem dZ{α:Type} [@V] [Enc α]{xs:@H}{G:Gp}{R:@i->(@t)->@t}(h:R (xs.map enc) (λ_=>True) G):QM (enc xs) G R:=h
theorem zj{α:Type} [@V] [Enc α]{xs:@H}{G:Gp}{R:@i->(@t)->@t}(h:R (nv 0 (xs.map enc)) (λ_=>True) G):w7 (enc xs) G R:=h
theorem Cn(h:n<=1000):n<=SZ:=by unfold SZ;lia
theorem qY(h:n<=1000):n<SZ:=by unfold SZ;lia
abbrev Rows:=List (@B)
noncomputable def T3.s(p:T3):T2:=⟨p.a,p.b⟩
structure Dr(rows:Rows):Prop where
 nd:(@ak).Nodup
 way:∀p∈rows.flatten,p.b=0\/p.b=1
 hand:∀p∈rows.flatten,p.c=1\/p.c=-1
 ue:∀p∈rows.flatten,(⟨p.a,1-p.b,p.c⟩:T3)∈rows.flatten
 zm:rows.flatten.length<=24
 str:rows.length<=3
namespace P
def kn:di:=UW (λrows:Rows=>rows.flatten.length<=1000) λrows=>rows.flatten
def rW:da :=
 (aU (aS (cg aA) (aE 1))
 (aU (c4 (ig @d) (aE 2) (bw (iZ pY tM @g (ah @l aA))))
 (bc (b5 @g))))
theorem B6(ds)(G)(Q)(h:kn ds G Q @f):rW (@f) @q (aJ 3 ds) G:=by
 obtain⟨rows,rfl,hl,q⟩:=h;unfold rW;simp only[ends,aJ,av,aF,ai,aq,aN,aw,ay,bT,aS,cg,aA,aE,ao,aj];refine⟨@c,λp hp=>?_⟩;refine bp (λτ G'=>(∃b,τ=[@p,@K,b])/\@w/\G' p=some (.lst (rows.flatten.map enc))) ?_ ?_
 .intro N hN;simp only[c4,cq,ak,ae];refine dZ ?_;refine cT (xs:=rows) (λpre τ G'=>(∃b,τ=[@p,@K,b])/\@w/\G' p=some (.lst (pre.flatten.map enc))) ⟨⟨_,rfl⟩,.new hp,az⟩ @Y ?_ ?_
  .rintro pre r post τ G' N2 e ⟨⟨b,rfl⟩,l,gp⟩ nP;have hlen:pre.flatten.length+r.length<=rows.flatten.length:=by
    rw[e];simp only[gx,br,aM];lia
   simp only[aE,bw,iZ,ak,ao,aj,af,ae,dU,gp,ah,aA,jW,jx (IsL.enc r),true_and];refine⟨Cn (by simp only[ax];lia),?_⟩;refine nP _ _ ⟨⟨_,rfl⟩,l.put hp,?_⟩;rw[az];simp
  .rintro τ G' ⟨⟨b,rfl⟩,l,gp⟩;exact hN _ _ ⟨⟨_,rfl⟩,l,gp⟩
 .rintro _ G' ⟨⟨b,rfl⟩,l,gp⟩;simp only[bc,b5,ak,af,ae];exact ij l hp gp q
theorem iY(p:T3):(enc p:D)=.tup [.int p.a,.int p.b,.int p.c]:=rfl
theorem KZ(i):(enc i:D)=.int i:=rfl
theorem rB{r:@i}:mH (a::r) 0=some a:=by
 rw[eY _ (@e) @k];rfl
theorem rz{r:@i}:mH (a::b::r) 1=some b:=by
 rw[eY _ (@e) (by simp;lia)];rfl
theorem at2{r:@i}:mH (a::b::c::r) 2=some c:=by
 rw[eY _ (@e) (by simp;lia)];rfl
def names(rows:Rows):@I:=Rl ((rows.flatten.filter λp=>p.b == 0).map (·.a))
noncomputable def handOf(rows:Rows)(n:Int):Int:=((rows.flatten.find? λp=>p.a == n).map (·.c)).getD 0
def fQ:di:=XT (λ(rows:Rows) (n:Int)=>rows.flatten.length<=1000/\∃p∈rows.flatten,p.a=n) handOf
def A4:da :=
 (aU (c4 (ig (aO kn (ah @d aA))) (aE 2) (bF (bX (aG @G (aG cK @l @C) @g)) (bc (b5 (aG cK @l @N))) aX))
 dJ)
theorem JM(ds)(G)(Q)(h:fQ ds G Q @f):A4 (@f) @q (aJ 3 ds) G:=by
 obtain⟨rows,n,rfl,⟨hl,hn⟩,q⟩:=h;unfold A4;refine bp (λτ G'=>False) ?_ (λ_ _ h=>h.elim);intro N hN;simp only[c4,aJ,av,aF,ai,aq,aN,aw,ay,ends,cq,aO,ah,ak,ae,aA];refine⟨rows,rfl,hl,dZ ?_⟩;refine cT (xs:=rows.flatten) (λpre τ G'=>G=G'/\(∃a,τ=[@p,some (enc n),a])/\∀p∈pre,p.a≠n) ⟨rfl,⟨_,rfl⟩,by simp⟩ @Y ?_ ?_
 .rintro pre x post τ G' N2 e ⟨rfl,⟨a,rfl⟩,hp⟩ nP;simp only[aE,bF,KZ,iY,ao,aj,bc,b5,aG,ak,af,ae,dC,bG,at2,aX,aY,rB];refine⟨_,_,.int _,.int _,?_⟩;simp only[ag,sP,if_false,aC];by_cases hx:x.a=n
  .simp only[hx,beq_self_eq_true,if_true];refine cF ?_;have:handOf rows n=x.c:=by
    unfold handOf;have:rows.flatten.find? (λp=>p.a == n)=some x:=by
     rw[e,mD];have:pre.find? (λp=>p.a == n)=none:=by
      rw[lS];intro p FE;simpa using hp p FE
     rw[this];simp[hx]
    rw[this];rfl
   rw[<-this];exact q
  .have:(x.a == n)=false:=by simpa using hx
   simp only[this,ag,if_false];refine nP _ _ ⟨rfl,⟨_,rfl⟩,λp FE=>?_⟩;rcases List.mem_append.mp FE with h |h
   .exact hp p h
   .rw[List.mem_singleton.mp h];exact hx
 .rintro τ G' ⟨rfl,_,hp⟩;obtain⟨p,TY,oq⟩:=hn;exact absurd oq (hp p TY)
def bS(row:@B)(i:Int):List T2:=if row=[] then [⟨i,2⟩] else row.map T3.s
def jR:di:=XT (λ(row:@B) (_:Int)=>row.length<=1000) bS
def yW:da :=
 (aU (bF (iG (bX @d)) (bc (b5 (cg (ah (bJ (ah @g (ah @N aA))) aA)))) aX)
 (bc (b5 (eK 1 [] (ig @d) (aE 0) none (lT @d bU (gW @N))))))
theorem HB(ds)(G)(Q)(h:jR ds G Q @f):yW (@f) @q (aJ 2 ds) G:=by
 obtain⟨row,i,rfl,hl,q⟩:=h;unfold yW;refine bp (λτ G'=>G=G'/\τ=[some (enc row),some (enc i)]/\row≠[]) ?_ ?_
 .intro N hN;simp only[bF,iG,aJ,av,aF,ai,aq,aw,ay,bc,b5,cg,ah,bJ,ak,af,ae,dC,aA,ends,aX,aY];refine AQ (IsL.enc row) ?_;cases row with
  |nil=>
   simp only[aF,u7,aK,aI,if_true];refine⟨@c,@c,λp hp=>ij (xs:=[(⟨i,2⟩:T2)]) (.new hp) hp az ?_⟩;exact q
  |cons a r=>
   simp only[av,tF,aI,aK,ag,if_false];exact hN _ _ ⟨rfl,rfl,by simp⟩
 rintro _ _ ⟨rfl,rfl,kO⟩;simp only[bc,b5,eK,ends,cq,ak,ae];refine dZ ⟨Cn (by rw[ax];exact hl),?_⟩;refine gX (xs:=row) (λpre acc τ G'=>G=G'/\(∃a,τ=[a])/\acc=(pre.map T3.s).map enc) ⟨rfl,⟨_,rfl⟩,rfl⟩ (λ_ _ _ _ _=>trivial) ?_ ?_
 .rintro pre x post acc τ G' N e ⟨rfl,⟨a,rfl⟩,rfl⟩ hN;simp only[aE,lT,ak,iY,aj,ae,bU,fH,ai,aq,cM,dC,b8];refine⟨@c,hN _ _ _ ⟨rfl,⟨_,rfl⟩,?_⟩⟩;rw[aH,aH];rfl
 .rintro acc τ G' ⟨rfl,⟨a,rfl⟩,rfl⟩ p hp;refine ij (.new hp) hp az ?_;have:bS row i=row.map T3.s:=by unfold bS;rw[if_neg kO]
  rw[<-this];exact q
noncomputable def bz:Rows->Nat->List T2
 |[],_=>[]
 |r::rs,k=>bS r (k:Int)++bz rs (k+1)
theorem mM:∀(a b:Rows) (k:Nat),bz (a++b) k=bz a k++bz b (k+a.length)
 |[],b,k=>by simp[bz]
 |r::a,b,k=>by rw[aw,bz,bz,mM a b (k+1),bM,ai];congr 3;lia
theorem Hh(xs:List (@B)):nv 0 (xs.map enc)=(xs.zipIdx 0).map λp=>D.tup [.int (p.2:Int),enc p.1]:=by
 have:∀(xs:List (@B)) (k:Nat),nv k (xs.map enc)=(xs.zipIdx k).map λp=>D.tup [.int (p.2:Int),enc p.1]:=by
  intro xs;induction xs with
  |nil=>intro k;rfl
  |cons x xs ih=>intro k;rw[av,nv,ih,nR,av]
 exact this xs 0
theorem vT{α:Type}{xs:@H}{pre post:List (α×Nat)}{x:α×Nat}(h:xs.zipIdx 0=pre++x::post):∃l r,xs=l++x.1::r/\x.2=l.length/\pre=l.zipIdx 0:=by
 have e1:xs=(pre.map (·.1))++x.1::post.map (·.1):=by
  have:=congrArg (kS (·.1)) h;rw[List.zipIdx_map_fst] at this;rw[this];simp
 have hl:pre.length<(xs.zipIdx 0).length:=by rw[h];simp
 have hx:(xs.zipIdx 0)[pre.length]?=some x:=by rw[h];simp
 refine⟨pre.map (·.1),post.map (·.1),e1,?_,?_⟩
 .rw[Q3] at hx;rw[ax];cases q:xs[pre.length]? with
  |none=>rw[q] at hx;cases hx
  |some y=>rw[q] at hx;simp at hx;rw[<-hx]
 .have:(pre.map (·.1)).zipIdx 0=(xs.zipIdx 0).take pre.length:=by
   conv=>rhs;rw[e1,qX]
   rw[FD @k];rw[jc @k]
  rw[this,h];simp
theorem Zh{c:D}:cut [a,b,c] none (some 2)=[a,b]:=rfl
theorem Mu [@V] [Enc α](xs:@H)(G):Bi (enc xs) G=some (xs.map enc,λ_=>True):=rfl
theorem Mt{a:Nat}{ds:@i}{G:Gp}(h:G a=some (.lst ds)):Bi (@m) G=some (ds,λG2=>G2 a=some (.lst ds)):=by unfold Bi;simp only[h]
theorem F2 [@V] [Enc α] [DecidableEq β] [Enc β]:∀(xs:@H) (ys:List β),t6 (xs.map enc) (ys.map enc)=(xs.zip ys).map λp=>D.tup [enc p.1,enc p.2]
 |[],ys=>by simp[t6]
 |x::xs,[]=>by simp[t6]
 |x::xs,y::ys=>by simp[t6,F2 xs ys]
theorem k8{κ α:Type} [DecidableEq κ] [Enc κ] [qF κ] [@V] [Enc α]{a:Nat}{l:List (κ×α)}{k:κ}{v:α}{G:Gp}{Q:@t}(h:G a=some (.jG (c9 l)))(hl:l.length<=1000)(q:Q (ck G a (.jG (c9 (jP l k v))))):Gi (@m) (enc k) (enc v) G Q:=by
 unfold Gi;simp only[h];refine⟨vo l k,?_,by rw[RH];exact q⟩;unfold c9;rw[ax];exact qY hl
noncomputable def dH(r:@B):@B:=r.drop 1++r.take 1
def pairsOf(rows:Rows):List (T3×T3):=rows.flatMap λr=>r.zip (dH r)
def cD(ps:List (T3×T3)):List (T2×T2):=ps.foldl (λl p=>jP l p.1.s p.2.s) []
theorem Dv(ps):(cD ps).length<=ps.length:=by
 have:∀(ps:List (T3×T3)) (l:List (T2×T2)),(ps.foldl (λl p=>jP l p.1.s p.2.s) l).length<=l.length+ps.length:=by
  intro ps;induction ps with
  |nil=>intro l;simp
  |cons p ps ih=>
   intro l;rw[jC,ai];have h1:=ih (jP l p.1.s p.2.s);have h2:=pR l p.1.s p.2.s;lia
 simpa[cD] using this ps []
theorem Bb(ps)(p):cD (ps++[p])=jP (cD ps) p.1.s p.2.s:=by unfold cD;rw[De];rfl
def jI:di:=λds G Q _=>∃rows:Rows,ds=[@L]/\rows.flatten.length<=500/\Q (.pZ (c9 @O)) G
theorem pairs_len(rows):(pairsOf rows).length<=rows.flatten.length:=by
 unfold pairsOf;induction rows with
 |nil=>simp
 |cons r rs ih=>simp only[cJ,br,aM,HN];lia
def AY:da :=
 (aU (aS sU (aE 1))
 (aU (c4 (ig @d) (aE 2) (c4 (Pq @l (aG iK (lT @l (gW @s) bU) (lT @l bU (gW @s)))) (kI (ez (aE 3) (ez (aE 4) lh))) (aS (lT (ak 4) bU (gW @N)) (q4 @g (lT (ak 3) bU (gW @N))))))
 (bc (b5 @g))))
theorem JJ(ds)(G)(Q)(h:jI ds G Q @f):AY (@f) @q (aJ 5 ds) G:=by
 obtain⟨rows,rfl,hl,q⟩:=h;unfold AY;simp only[ends,aJ,av,aF,ai,aq,aN,aw,ay,bT,aS,sU,jN,aE,ao,aj];intro d hd;refine bp (λτ G'=>(∃a b c,τ=[@p,some (.ref d),a,b,c])/\@w/\G' d=some (.jG (c9 @O))) ?_ ?_
 .intro N hN;simp only[c4,cq,ak,ae];refine dZ ?_;refine cT (xs:=rows) (λpre τ G'=>(∃a b c,τ=[@p,some (.ref d),a,b,c])/\@w/\G' d=some (.jG (c9 (cD (pairsOf pre))))) ⟨⟨_,_,_,rfl⟩,.new hd,az⟩ @Y ?_ ?_
  .rintro pre r post τ G' N2 e ⟨⟨a,b,c,rfl⟩,l,gd⟩ nP;have hr:pre.flatten.length+r.length<=rows.flatten.length:=by
    rw[e];simp only[gx,br,aM];lia
   simp only[aE,c4,Pq,ak,ao,aj,af,ae,aG,lT,bU,cM,dC,b8];refine lW (IsL.enc r) λp1 h1=>?_;refine lW (IsL.enc r) λp2 h2=>?_;have d1:d≠p1:=by rintro rfl;rw[gd] at h1;cases h1
   have l1:=l.trans (cO.new (o:=.lst (cut (r.map enc) (some 1) none)) h1);have d2:d≠p2:=by rintro rfl;rw[dm d1,gd] at h2;cases h2
   have h12:p1≠p2:=by rintro rfl;rw[az] at h2;cases h2
   refine qp (IsL.ref (by rw[dm h12,az])) (IsL.ref az) ?_ λp3 h3=>?_
   .rw[oz,oz,ax,ax];have e1:(cut r (some 1) none).length<=r.length:=by unfold cut;rw[cz,cZ];lia
    have e2:(cut r none (some 1)).length<=r.length:=by unfold cut;rw[cz,cZ];lia
    exact Cn (@e)
   have d3:d≠p3:=by rintro rfl;rw[dm d2,dm d1,gd] at h3;cases h3
   have et:cut (r.map enc) (some 1) none++cut (r.map enc) none (some 1)=(dH r).map enc:=by
    rw[oz,oz,<-aH];congr 1;cases r with
    |nil=>rfl
    |cons x r=>rw[show(1:Int)=((1:Nat):Int) from rfl,BV _ _ @k,JD _ _ @k];rfl
   rw[et];generalize hG3:ck (ck (ck G' p1 (.lst (cut (r.map enc) (some 1) none))) p2 (.lst (cut (r.map enc) none (some 1)))) p3 (.lst ((dH r).map enc))=G3;have g3:G3 p3=some (.lst ((dH r).map enc)):=by rw[<-hG3,az]
   have PT:G3 d=some (.jG (c9 (cD (pairsOf pre)))):=by rw[<-hG3,dm d3,dm d2,dm d1];exact gd
   have l3:cO G G3:=by rw[<-hG3];exact(l1.trans (.new h2)).trans (.new h3)
   unfold Bv;rw[Mu,Mt g3];dsimp only;rw[F2];refine cT (xs:=r.zip (dH r)) (λpp τ G'=>(∃a b c,τ=[@p,some (.ref d),a,b,c])/\@w/\G' d=some (.jG (c9 (cD (pairsOf pre++pp))))/\G' p3=some (.lst ((dH r).map enc)))
    ⟨⟨_,_,_,rfl⟩,l3,by rw[bH];exact PT,g3⟩ (λ_ _ _ h=>⟨trivial,h.2.2.2⟩) ?_ ?_
   .rintro pp x post τ G4 N3 e4 ⟨⟨a,b,c,rfl⟩,l4,KO,KN⟩ vP;have hz:(pairsOf pre++pp).length<=1000:=by
     have:=pairs_len pre;have h5:pp.length<(r.zip (dH r)).length:=by rw[e4];simp
     rw[HN] at h5;rw[aM];lia
    simp only[kI,ez,aE,lh,aS,lT,ak,iY,ao,aj,af,ae,bU,q4,fH,ai,aq,cM,dC,b8,Zh];refine⟨@c,@c,?_⟩;refine k8 (k:=x.1.s) (v:=x.2.s) KO (cY (Dv _) hz) ?_;refine vP _ _ ⟨⟨_,_,_,rfl⟩,l4.put hd,?_,by rw[dm (dA d3)];exact KN⟩;rw[az,<-bM,Bb]
   .rintro τ G4 ⟨⟨a,b,c,rfl⟩,l4,KO,KN⟩;refine nP _ _ ⟨⟨_,_,_,rfl⟩,l4,?_⟩;have:pairsOf (pre++[r])=pairsOf pre++r.zip (dH r):=by unfold pairsOf;simp
    rw[this];exact KO
  .rintro τ G' ⟨⟨a,b,c,rfl⟩,l,gd⟩;exact hN _ _ ⟨⟨_,_,_,rfl⟩,l,gd⟩
 .rintro _ G' ⟨⟨a,b,c,rfl⟩,l,gd⟩;simp only[bc,b5,ak,af,ae];exact Jt l hd gd q
noncomputable def lft(s:T2):T3:=⟨s.a,s.b,0⟩
end P
theorem jF{α:Type} [@V] [Enc α]{neg:Bool}{x:α}{xs:@H}{G:Gp}{Q:DK}(hd:Enc.dep α<=7)(q:Q (.bl (if neg then !decide (x∈xs) else decide (x∈xs))) G):uN neg (enc x) (enc xs) G Q:=by
 refine⟨enc x,xs.map enc,Enc.sn _ _ _ (by unfold SN;lia),vg G 7 hd xs,?_⟩;rw[Fg];exact q
theorem b7{α:Type} [@V] [Enc α]{neg:Bool}{x y:α}{G:Gp}{Q:DK}(hd:Enc.dep α<=8)(q:Q (.bl (if neg then !decide (x=y) else decide (x=y))) G):ic neg (enc x) (enc y) G Q:=by
 refine⟨enc x,enc y,Enc.sn _ _ _ hd,Enc.sn _ _ _ hd,?_⟩;rw[Enc.eqv];exact q
class Fy (α:Type) [@V] [Enc α] [cy α] where
 mn:∀{x:D} {G:Gp} {xs:@H} {Q:DK},itemsOf x G=some (xs.map enc)->xs≠[]->(∀m∈xs,(∀y∈xs,Co m y=true)->Q (enc m) G)->Hn [x] G Q
theorem lj [@V] [Enc α] [cy α]:∀(r:@H) (a:α),r.foldl (λm x=>if cy.lt x m=true then x else m) a∈a::r/\∀y∈a::r,Co (r.foldl (λm x=>if cy.lt x m=true then x else m) a) y=true
 |[],a=>⟨by simp,λy hy=>by rw[List.mem_singleton.mp hy];unfold Co;rw[List.foldl_nil,cy.QL];rfl⟩
 | b :: r,a=>by
  rw[jC];by_cases c:cy.lt b a=true
  .rw[if_pos c];obtain⟨h1,h2⟩:=lj r b;refine⟨aP _ h1,λy hy=>?_⟩;rcases List.mem_cons.mp hy with rfl |hy
   .refine yy _ _ _ (h2 b @k) ?_;unfold Co;cases q:cy.lt y b with
    |false=>rfl
    |true=>have:=cy.trans _ _ _ q c;rw[cy.QL] at this;cases this
   .exact h2 y hy
  .rw[if_neg c];obtain⟨h1,h2⟩:=lj r a;refine⟨?_,λy hy=>?_⟩
   .rcases List.mem_cons.mp h1 with h |h
    .rw[h];simp
    .exact aP _ (aP _ h)
   .rcases List.mem_cons.mp hy with rfl |hy
    .exact h2 y @k
    .rcases List.mem_cons.mp hy with rfl |hy
     .refine yy _ _ _ (h2 a @k) ?_;unfold Co;simpa using c
     .exact h2 y (aP _ hy)
instance:Fy Int where
 mn:=by
  intro x G xs Q hi kO k;cases xs with
  |nil=>exact absurd rfl kO
  | cons a r=>
   obtain⟨h1,h2⟩:=lj r a;refine .inl ⟨a::r,_,hi,rfl,?_⟩;have:(λ(m x:Int)=>if x<m then x else m)=λm x=>if cy.lt x m=true then x else m:=by
    funext m x;show(if x<m then x else m)=if decide (x<m)=true then x else m
    simp
   show Q (enc (r.foldl (λm x=>if x<m then x else m) a)) G;rw[this];exact k _ h1 h2
theorem Bm:∀(x y:@I),wY (λa b=>decide (a<b)) x y=lexLt x y
 |[],[]=>rfl
 |[],_::_=>rfl
 |_::_,[]=>rfl
 |a::x,b::y=>by simp only[Bn,lexLt,Bm x y]
instance:Fy T3 where
 mn:=by
  intro x G xs Q hi kO k;cases xs with
  |nil=>exact absurd rfl kO
  | cons a r=>
   obtain⟨h1,h2⟩:=lj r a;have ei:itemsOf x G=some (((a::r).map T3.l).map tI):=by rw[hi,fA];rfl
   refine .inr ⟨(a::r).map T3.l,_,ei,rfl,?_⟩;have:∀(r:@B) (a:T3),(r.map T3.l).foldl (λm x=>if lexLt x m=true then x else m) a.l=(r.foldl (λm x=>if cy.lt x m=true then x else m) a).l:=by
    intro r;induction r with
    |nil=>intro a;rfl
    | cons b r ih=>
     intro a;rw[av,jC,jC];have e:(if lexLt b.l a.l=true then b.l else a.l)=(if cy.lt b a=true then b else a).l:=by
      have:cy.lt b a=lexLt b.l a.l:=Bm _ _;rw[this];split<;>rfl
     rw[e];exact ih _
   rw[this r a];exact k _ h1 h2
namespace P
section
variable {α:Type} [@V] [Enc α] [cy α] [qF α] [Fy α]
theorem Ff [DecidableEq κ]{k:κ}{v:β}(h:∃p∈l,p.1=k):(jP l k v).length=l.length:=by
 unfold jP;rw[if_pos (by obtain⟨p,h1,h2⟩:=h;exact List.any_eq_true.mpr ⟨p,h1,by simpa using h2⟩),ax]
end
end P
namespace P
theorem Ht [DecidableEq κ]{k:κ}{v:β}(h:k∉l.map (·.1)):jP l k v=l++[(k,v)]:=by
 unfold jP;rw[if_neg];intro q;obtain⟨p,h1,h2⟩:=List.any_eq_true.mp q;exact h (List.mem_map.mpr ⟨p,h1,by simpa using h2⟩)
theorem GS{γ:Type} [DecidableEq κ](kf:γ->κ)(vf:γ->β):∀(ps:List γ) (l:List (κ×β)),(l.map (·.1)++ps.map kf).Nodup->ps.foldl (λl p=>jP l (kf p) (vf p)) l=l++ps.map λp=>(kf p,vf p)
 |[],l,_=>by simp
 | p::ps,l,h=>by
  rw[jC,Ht (λz=>by
   rw[av,eR] at h;exact h.2.2 _ z _ @k rfl),GS kf vf ps _ (by simpa using h)]
  simp
theorem zv [DecidableEq κ]:∀{l:List (κ×β)} {p:κ×β},(l.map (·.1)).Nodup->p∈l->dM l p.1=some p.2
 |q::l,p,hn,h=>by
  unfold dM;rw[dP];rcases List.mem_cons.mp h with rfl |h
  .simp
  .rw[av,c5] at hn;have:q.1≠p.1:=λz=>hn.1 (by rw[z];exact kY h);simp only[this,decide_false];exact zv hn.2 h
theorem yT(r):(dH r).length=r.length:=by unfold dH;rw[aM,cZ,cz];lia
theorem Ee(r):(dH r).Perm r:=by
 unfold dH;exact List.perm_append_comm.trans (by rw[cH])
theorem Dt(rows):(pairsOf rows).map (·.1)=rows.flatten:=by
 unfold pairsOf;induction rows with
 |nil=>rfl
 |cons r rs ih=>
  rw[cJ,aH,ih,br];congr 1;rw[List.map_fst_zip];rw[yT];exact bb _
theorem Me(rows):((pairsOf rows).map (·.2)).Perm rows.flatten:=by
 unfold pairsOf;induction rows with
 |nil=>exact .refl _
 |cons r rs ih=>
  rw[cJ,aH,br];refine List.Perm.append ?_ ih;rw[List.map_snd_zip]
  .exact Ee r
  .rw[yT];exact bb _
variable {rows:Rows}
theorem PX(d:@J):((pairsOf rows).map λp=>p.1.s).Nodup:=by
 have:((pairsOf rows).map λp=>p.1.s)=@ak:=by rw[<-Dt,fA];rfl
 rw[this];exact d.nd
theorem Bc(d:@J):cD (pairsOf rows)=(pairsOf rows).map λp=>(p.1.s,p.2.s):=by
 unfold cD;rw[GS (λp:T3×T3=>p.1.s) (λp=>p.2.s) _ _ (by simpa using PX d)];rfl
def pas(rows:Rows)(s:T2):T3:=(rows.flatten.find? λp=>decide (p.s=s)).getD ⟨0,0,0⟩
def nxt(rows:Rows)(s:T2):T2:=(dM ((pairsOf rows).map λp=>(p.1.s,p.2.s)) s).getD s
theorem Kl(d:@J)(h:p∈rows.flatten):pas rows p.s=p:=by
 unfold pas;cases q:rows.flatten.find? (λx=>decide (x.s=p.s)) with
 |none=>rw[lS] at q;exact absurd @k (q p h)
 | some x=>
  have h1:=HP q;have h2:=rk q;have h1:x.s=p.s:=by simpa using h1
  have:∀(L:@B),(L.map T3.s).Nodup->x∈L->p∈L->x=p:=by
   intro L;induction L with
   |nil=>intro _ h;cases h
   | cons y L ih=>
    intro hn hx hp;rw[av,c5] at hn;rcases List.mem_cons.mp hx with e1 |ZQ
    .rcases List.mem_cons.mp hp with e2 |oq
     .rw[e1,e2]
     .exact absurd (by rw[<-e1,h1];exact kY oq) hn.1
    .rcases List.mem_cons.mp hp with e2 |oq
     .exact absurd (by rw[<-e2,<-h1];exact kY ZQ) hn.1
     .exact ih hn.2 ZQ oq
  exact this _ d.nd h2 h
theorem IX(d:@J)(h:(p,q)∈pairsOf rows):dM ((pairsOf rows).map λp=>(p.1.s,p.2.s)) p.s=some q.s/\nxt rows p.s=q.s:=by
 have:=zv (l:=(pairsOf rows).map λp=>(p.1.s,p.2.s)) (p:=(p.s,q.s)) (by rw[fA];exact PX d) (List.mem_map.mpr ⟨_,h,rfl⟩);refine⟨this,?_⟩;unfold nxt;rw[this];rfl
theorem PN(h:p∈rows.flatten):∃q,(p,q)∈pairsOf rows/\q∈rows.flatten:=by
 rw[<-Dt] at h;obtain⟨x,hx,rfl⟩:=List.mem_map.mp h;exact⟨x.2,hx,(Me rows).mem_iff.mp (kY hx)⟩
noncomputable def om(p:T3):T3:=⟨p.a,1-p.b,p.c⟩
theorem OW(d:@J)(h:p∈rows.flatten):om p∈rows.flatten:=d.ue p h
theorem TH(p):om (om p)=p:=by
 unfold om;cases p;simp only[T3.mk.injEq,true_and,and_true];lia
theorem d4:n∈@y↔∃p∈rows.flatten,p.b=0/\p.a=n:=by
 unfold names;rw[Rk,List.mem_map];constructor
 .rintro⟨p,h,rfl⟩;obtain⟨h1,h2⟩:=List.mem_filter.mp h;exact⟨p,h1,by simpa using h2,rfl⟩
 .rintro⟨p,h1,h2,rfl⟩;exact⟨p,List.mem_filter.mpr ⟨h1,by simpa using h2⟩,rfl⟩
theorem gK(d:@J)(h:p∈rows.flatten):handOf rows p.a=p.c:=by
 unfold handOf;cases q:rows.flatten.find? (λx=>x.a == p.a) with
 |none=>rw[lS] at q;exact absurd @k (q p h)
 | some x=>
  have h1:x.a=p.a:=by simpa using HP q
  have h2:=rk q;show x.c=p.c;have hw:=d.way p h;have ZS:=d.way x h2;by_cases e:x.b=p.b
  .have:x.s=p.s:=by unfold T3.s;rw[h1,e]
   have e1:=Kl d h2;rw[this,Kl d h] at e1;rw[e1]
  .have:(om x).s=p.s:=by unfold T3.s om;rw[h1];congr 1;dsimp only;lia
   have e1:=Kl d (OW d h2);rw[this,Kl d h] at e1;rw[e1];rfl
end P
namespace P
variable {rows:Rows}
theorem ve(h:p∈rows.flatten):p.s∈bz rows 0:=by
 have:∀(rs:Rows) (k:Nat),p∈rs.flatten->p.s∈bz rs k:=by
  intro rs;induction rs with
  |nil=>intro k h;cases h
  |cons r rs ih=>
   intro k h;rw[bz,lP];rw[br,lP] at h;rcases h with h |h
   .left;unfold bS;rw[if_neg (by rintro rfl;cases h)];exact kY h
   .exact .inr (ih _ h)
 exact this rows 0 h
theorem AV(rows):(bz rows 0).length<=rows.flatten.length+rows.length:=by
 have:∀(rs:Rows) (k:Nat),(bz rs k).length<=rs.flatten.length+rs.length:=by
  intro rs;induction rs with
  |nil=>intro k;simp[bz]
  | cons r rs ih=>
   intro k;have:=ih (k+1);rw[bz,aM,br,aM,ai];have:(bS r (k:Int)).length<=r.length+1:=by
    unfold bS;split<;>simp
   lia
 exact this rows 0
end P
namespace lF
open K2.P
def zb:da :=
 (aU (bF (bX (aG X5 @g (gJ iL (ah @d aA)))) (bc (b5 (aG cK @d @g))) aX)
 (bc (b5 @C)))
noncomputable def gw(ns:@I)(k:Int):Int:=ns.getD k.toNat 0
def nV:di:=λds G Q _=>∃(ns:@I) (k:Int),ds=[.dR (@ad),.int k]/\0<=k/\Q (.int (gw ns k)) G
theorem zE(ds)(G)(Q)(h:nV ds G Q @f):zb (@f) @q (aJ 2 ds) G:=by
 obtain⟨ns,k,rfl,h0,q⟩:=h;unfold zb;simp only[aU,bF,aJ,av,aF,ai,aq,aw,ay,bc,b5,aG,ak,ae,af,ends,mZ,aX,dC,aY,gJ,ah,aA,pQ,tJ,aC];split
 .rename_i h;have h1:k<(@ad).length:=by simpa using h
  rw[eY _ h0 h1];simp only[cP];rw[ax] at h1;have e:gw ns k=ns[k.toNat]:=by unfold gw;rw[d6,bo (@e)];rfl
  rw[<-e];exact cF q
 .rename_i h;have h1:¬ k<(@ad).length:=by simpa using h
  rw[ax] at h1;have e:gw ns k=0:=by unfold gw;rw[d6,nH (@e)];rfl
  rw[<-e];exact cF q
structure HR(G G':Gp)(p0:Nat)(as:List Nat)(rs:Rows):Prop where
 le:@w
 fp:G p0=none
 gp:G' p0=some (.lst (as.map D.ref))
 np:p0∉as
 nd:as.Nodup
 fr:∀a∈as,G a=none
 len:as.length=rs.length
 at':∀(i a:Nat) (r:@B),as[i]?=some a->rs[i]?=some r->G' a=some (.lst (r.map enc))
theorem HR.put(h:HR G G' p0 as rs)(ha:as[j]?=some a):HR G (ck G' a (.lst (r'.map enc))) p0 as (rs.set j r'):=by
 have hm:a∈as:=eS ha;have hj:j<as.length:=(List.getElem?_eq_some_iff.mp ha).1;refine⟨h.le.put (h.fr a hm),h.fp,?_,h.np,h.nd,h.fr,by rw[fB];exact h.len,λi b r hb hr=>?_⟩
 .rw[dm (by rintro rfl;exact h.np hm)];exact h.gp
 ·by_cases e:i=j
  .subst e;rw[ha] at hb;cases hb;rw[fi (by have:=h.len;lia)] at hr;cases hr;exact az
  .have:b≠a:=by
    rintro rfl;have h1:=List.getElem?_eq_some_iff.mp hb;have h2:=List.getElem?_eq_some_iff.mp ha;have pw:=List.pairwise_iff_getElem.mp h.nd;rcases Nat.lt_trichotomy i j with lt |eq |gt
    .exact pw i j h1.1 h2.1 lt (h1.2.trans h2.2.symm)
    .exact e eq
    .exact pw j i h2.1 h1.1 gt (h2.2.trans h1.2.symm)
   rw[dm this];rw[eT (λz=>e z.symm)] at hr;exact h.at' i b r hb hr
theorem HR.fz{G G':Gp}{p0:Nat}{as:List Nat}{rs:Rows}(h:HR G G' p0 as rs){Q:DK}(q:Q (enc rs) G):D5 G' (.ref p0) Q:=by
 refine ES h.le h.fp h.gp (ss:=rs.map enc) ?_ q;have:∀(as:List Nat) (rs:Rows),as.length=rs.length->(∀a∈as,G a=none)->(∀(i a:Nat) (r:@B),as[i]?=some a->rs[i]?=some r->G' a=some (.lst (r.map enc)))->Cf G' (λa=>(G a).isNone) (as.map D.ref) (rs.map enc):=by
  intro as;induction as with
  |nil=>intro rs hl _ _;cases rs with
   |nil=>exact .nil
   |cons _ _=>cases hl
  | cons a as ih=>
   intro rs hl hf MM;cases rs with
   |nil=>cases hl
   |cons r rs=>
    refine .cons (.ref (MM 0 a r rfl rfl) (by simp[hf a @k]) (Cf.same _)) ?_;exact ih rs (by simpa using hl) (λb hb=>hf b (aP _ hb)) λi b s h1 h2=>MM (i+1) b s h1 h2
 exact this as rs h.len h.fr h.at'
theorem Gh(hr:r'.Perm (x::r)):∀(rs:Rows) (j:Nat),rs[j]?=some r->(rs.set j r').flatten.Perm (x::rs.flatten)
 |[],j,h=>by cases h
 |s::rs,0,h=>by
  cases h;rw[aj,br,br];exact hr.append_right _
 |s::rs,j+1,h=>by
  rw[ao,br,br];exact((Gh hr rs j h).append_left s).trans List.perm_middle
theorem KD{G G2:Gp}{d:D}{ds:@i}{R:@i->(@t)->@t}(h:IsL G d ds)(l:cO G G2)(k:∀ok:@t,(∀G',@w->ok G')->R ds ok G2):QM d G2 R:=by
 rcases h with rfl |⟨a,rfl,e⟩
 .exact k _ λ_ _=>trivial
 .rw[Av (l a _ e)];exact k _ λG' l=>l a _ e
theorem gT:∀{rs:Rows},r∈rs->r.length<=rs.flatten.length
 |a::rs,h=>by
  rw[br,aM];rcases List.mem_cons.mp h with rfl |h
  .lia
  .have:=gT h;lia
theorem NW(x)(r:@B)(i):(r.take i++x::r.drop i).Perm (x::r):=by
 refine List.perm_middle.trans (.cons _ ?_);rw[cH]
end lF
namespace Mo
open K2.P
theorem oF:ck (ck G p a) p b=ck G p b:=by
 funext c;unfold ck;by_cases h:c=p<;>simp[h]
theorem at_{al:@n}{f c:Str}{a:Nat}{fs:List (Str×D)}{d:D}{G:Gp}{Q:DK}(h:G a=some (.ins c fs))(q:Q d G)(hc:autoParam (c∈al) Am._auto_1)(hl:autoParam (fs.lookup f=some d) Ar._auto_1):Qr al f (@m) G Q:=⟨a,c,fs,d,rfl,h,hc,hl,q⟩
def setAt(al:@n)(f:Str)(x d:D)(G:Gp)(K:@t):Prop:=∃a c fs,x=@m/\G a=some (.ins c fs)/\c∈al/\fs.length<1000/\K (ck G a (.ins c (putD f d fs)))
theorem sS:jg al f to tv E K τ G=tv E τ G λd G1=>to E τ G1 λx G2=>setAt al f x d G2 (K.nx τ):=rfl
theorem Gb{al:@n}{f c:Str}{a:Nat}{fs:List (Str×D)}{d:D}{G:Gp}{K:@t}(h:G a=some (.ins c fs))(q:K (ck G a (.ins c (putD f d fs))))(hc:autoParam (c∈al) Am._auto_1)(hl:autoParam (fs.length<1000) An._auto_1):setAt al f (@m) d G K:=⟨a,c,fs,rfl,h,hc,hl,q⟩
inductive tj where
 |un (n:Int)
 |cu (n:Int) (s:T2) (f h:Int)
 |pa (a b:Int)
 |la (a b:Int) (o u:T2) (t h:Int)
 |sl (a b c t:Int)
noncomputable def cn:tj->Str
 |.un _=>"Uncurl" |.cu ..=>"Curl" |.pa ..=>"Part" |.la ..=>"Lay" |.sl ..=>"Slide"
noncomputable def wd:tj->Str
 |.un _=>"uncurl" |.cu ..=>"curl" |.pa ..=>"part" |.la ..=>"lay" |.sl ..=>"slide"
def ar:tj->@i
 |.un n=>[.int n] |.cu n s f h=>[.int n,enc s,.int f,.int h] |.pa a b=>[.int a,.int b] |.la a b o u t h=>[.int a,.int b,enc o,enc u,.int t,.int h] |.sl a b c t=>[.int a,.int b,.int c,.int t]
def fl:tj->List (Str×D)
 |.un n=>[("name",.int n)] |.cu n s f h=>[("name",.int n),("spot",enc s),("first",.int f),("hand",.int h)] |.pa a b=>[("name",.int a),("second",.int b)] |.la a b o u t h=>[("name",.int a),("second",.int b),("over",enc o),("under",enc u),("turned",.int t),("hand",.int h)] |.sl a b c t=>[("name",.int a),("second",.int b),("third",.int c),("turn",.int t)]
def td(m:tj):D:=.tup (.str (wd m)::ar m)
def ob(m:tj):GO:=.ins (cn m) (fl m)
abbrev zH(G:Gp)(p:Nat)(m:tj):Prop:=G p=some (ob m)
def mW:da :=
 (jg ["Uncurl"] "name" @d @g)
def fR:di:=λds G Q _=>∃(p:Nat) (n:Int),ds=[.ref p,.int n]/\G p=some (.ins "Uncurl" [])/\Q .ff (ck G p (ob (.un n)))
theorem vJ(ds)(G)(Q)(h:fR ds G Q @f):mW (@f) @q (aJ 2 ds) G:=by
 obtain⟨p,n,rfl,g,q⟩:=h;unfold mW;simp only[ends,aJ,av,aF,ai,aq,aw,ay,sS,ak,af,ae];refine Gb g ?_;exact q
def oZ:da :=
 (aU (jg ["Curl"] "name" @d @g)
 (aU (jg ["Curl"] "spot" @d @l)
 (aU (jg ["Curl"] "first" @d (ak 3))
 (jg ["Curl"] "hand" @d (ak 4)))))
def gR:di:=λds G Q _=>∃(p:Nat) (n:Int) (s:T2) (f:Int) (h:Int),ds=[.ref p,.int n,enc s,.int f,.int h]/\G p=some (.ins "Curl" [])/\Q .ff (ck G p (ob (.cu n s f h)))
theorem yO(ds)(G)(Q)(h:gR ds G Q @f):oZ (@f) @q (aJ 5 ds) G:=by
 obtain⟨p,n,s,f,h,rfl,g,q⟩:=h;unfold oZ;simp only[ends,aJ,av,aF,ai,aq,aw,ay,bZ,sS,ak,af,ae];refine Gb g ?_;refine Gb az ?_;refine Gb az ?_;refine Gb az ?_;simp only[oF];exact q
def oY:da :=
 (aU (jg ["Part"] "name" @d @g)
 (jg ["Part"] "second" @d @l))
def gQ:di:=λds G Q _=>∃(p:Nat) (a:Int) (b:Int),ds=[.ref p,.int a,.int b]/\G p=some (.ins "Part" [])/\Q .ff (ck G p (ob (.pa a b)))
theorem yN(ds)(G)(Q)(h:gQ ds G Q @f):oY (@f) @q (aJ 3 ds) G:=by
 obtain⟨p,a,b,rfl,g,q⟩:=h;unfold oY;simp only[ends,aJ,av,aF,ai,aq,aw,ay,bZ,sS,ak,af,ae];refine Gb g ?_;refine Gb az ?_;simp only[oF];exact q
def qO:da :=
 (aU (jg ["Lay"] "name" @d @g)
 (aU (jg ["Lay"] "second" @d @l)
 (aU (jg ["Lay"] "over" @d (ak 3))
 (aU (jg ["Lay"] "under" @d (ak 4))
 (aU (jg ["Lay"] "turned" @d (ak 5))
 (jg ["Lay"] "hand" @d (ak 6)))))))
def iz:di:=λds G Q _=>∃(p:Nat) (a:Int) (b:Int) (o:T2) (u:T2) (t:Int) (h:Int),ds=[.ref p,.int a,.int b,enc o,enc u,.int t,.int h]/\G p=some (.ins "Lay" [])/\Q .ff (ck G p (ob (.la a b o u t h)))
theorem zZ(ds)(G)(Q)(h:iz ds G Q @f):qO (@f) @q (aJ 7 ds) G:=by
 obtain⟨p,a,b,o,u,t,h,rfl,g,q⟩:=h;unfold qO;simp only[ends,aJ,av,aF,ai,aq,aw,ay,bZ,sS,ak,af,ae];refine Gb g ?_;refine Gb az ?_;refine Gb az ?_;refine Gb az ?_;refine Gb az ?_;refine Gb az ?_;simp only[oF];exact q
def oh:da :=
 (aU (jg ["Slide"] "name" @d @g)
 (aU (jg ["Slide"] "second" @d @l)
 (aU (jg ["Slide"] "third" @d (ak 3))
 (jg ["Slide"] "turn" @d (ak 4)))))
def gm:di:=λds G Q _=>∃(p:Nat) (a:Int) (b:Int) (c:Int) (t:Int),ds=[.ref p,.int a,.int b,.int c,.int t]/\G p=some (.ins "Slide" [])/\Q .ff (ck G p (ob (.sl a b c t)))
theorem xS(ds)(G)(Q)(h:gm ds G Q @f):oh (@f) @q (aJ 5 ds) G:=by
 obtain⟨p,a,b,c,t,rfl,g,q⟩:=h;unfold oh;simp only[ends,aJ,av,aF,ai,aq,aw,ay,bZ,sS,ak,af,ae];refine Gb g ?_;refine Gb az ?_;refine Gb az ?_;refine Gb az ?_;simp only[oF];exact q
end Mo
namespace Mo
open K2.P
theorem DL{neg:Bool}{a:Str}{G:Gp}{Q:DK}(q:Q (.bl (!neg)) G)(ha:autoParam (a.cps.all (·<0x110000)=true) Ak._auto_1):ic neg (.str a) (.str a) G Q:=⟨_,_,.str a ha,.str a ha,by
 have:jf (.str a) (.str a)=true:=by show(a == a)=true;exact beq_self_eq_true a
 rw[this];cases neg<;>exact q⟩
theorem uP{neg:Bool}{a b:Str}{G:Gp}{Q:DK}(q:Q (.bl neg) G)(h:autoParam ((a == b)=false) Ak._auto_1)(ha:autoParam (a.cps.all (·<0x110000)=true) Ak._auto_1)(hb:autoParam (b.cps.all (·<0x110000)=true) Ak._auto_1):ic neg (.str a) (.str b) G Q:=⟨_,_,.str a ha,.str b hb,by
 have:jf (.str a) (.str b)=false:=h;rw[this];cases neg<;>exact q⟩
theorem P5(s:T2):(enc s:D)=.tup [.int s.a,.int s.b]:=rfl
def AZ:da :=
 (aU (bF (bX (aG @G (aG cK @d @C) (dC (.str "uncurl")))) (bc (b5 (gv "Uncurl" fR (ah (aG cK @d @s) aA)))) aX)
 (aU (bF (bX (aG @G (aG cK @d @C) (dC (.str "curl")))) (bc (b5 (gv "Curl" gR (ah (aG cK @d @s) (ah (aG cK @d @N) (ah (aG cK @d (dC (.int 3))) (ah (aG cK @d (dC (.int 4))) aA))))))) aX)
 (aU (bF (bX (aG @G (aG cK @d @C) (dC (.str "part")))) (bc (b5 (gv "Part" gQ (ah (aG cK @d @s) (ah (aG cK @d @N) aA))))) aX)
 (aU (bF (bX (aG @G (aG cK @d @C) (dC (.str "lay")))) (bc (b5 (gv "Lay" iz (ah (aG cK @d @s) (ah (aG cK @d @N) (ah (aG cK @d (dC (.int 3))) (ah (aG cK @d (dC (.int 4))) (ah (aG cK @d (dC (.int 5))) (ah (aG cK @d (dC (.int 6))) aA))))))))) aX)
 (aU (bF (bX (aG @G (aG cK @d @C) (dC (.str "slide")))) (bc (b5 (gv "Slide" gm (ah (aG cK @d @s) (ah (aG cK @d @N) (ah (aG cK @d (dC (.int 3))) (ah (aG cK @d (dC (.int 4))) aA))))))) aX)
 dJ)))))
def mO:di:=λds G Q _=>∃m:tj,ds=[td m]/\∀p,G p=none->Q (.ref p) (ck G p (ob m))
theorem JK(ds)(G)(Q)(h:mO ds G Q @f):AZ (@f) @q (aJ 1 ds) G:=by
 obtain⟨m,rfl,q⟩:=h;unfold AZ;cases m with
 |un n=>
  simp only[ends,aJ,td,wd,ar,av,aF,ai,aq,aw,ay,bZ,bF,bc,b5,gv,ah,aG,ak,ae,dC,aA,bG,rz,aX,aY,rB];refine DL ?_;simp only[aI,aC,if_true];exact λp hp=>⟨p,n,rfl,az,rfl,cF (by rw[oF];exact q p hp)⟩
 |cu n s f h=>
  simp only[ends,aJ,td,wd,ar,av,aF,ai,aq,aw,ay,bZ,bF,bc,b5,gv,ah,aG,ak,ae,dC,aA,bG,rz,aX,aY,rB];refine uP ?_;simp only[aC,ag,if_false];refine DL ?_;simp only[aI,aC,if_true];exact λp hp=>⟨p,n,s,f,h,rfl,az,rfl,cF (by rw[oF];exact q p hp)⟩
 |pa a b=>
  simp only[ends,aJ,td,wd,ar,av,aF,ai,aq,aw,ay,bZ,bF,bc,b5,gv,ah,aG,ak,ae,dC,aA,bG,rz,aX,aY,rB];refine uP ?_;simp only[aC,ag,if_false];refine uP ?_;simp only[aC,ag,if_false];refine DL ?_;simp only[aI,aC,if_true];exact λp hp=>⟨p,a,b,rfl,az,rfl,cF (by rw[oF];exact q p hp)⟩
 |la a b o u t h=>
  simp only[ends,aJ,td,wd,ar,av,aF,ai,aq,aw,ay,bZ,bF,bc,b5,gv,ah,aG,ak,ae,dC,aA,bG,rz,aX,aY,rB];refine uP ?_;simp only[aC,ag,if_false];refine uP ?_;simp only[aC,ag,if_false];refine uP ?_;simp only[aC,ag,if_false];refine DL ?_;simp only[aI,aC,if_true];exact λp hp=>⟨p,a,b,o,u,t,h,rfl,az,rfl,cF (by rw[oF];exact q p hp)⟩
 |sl a b c t=>
  simp only[ends,aJ,td,wd,ar,av,aF,ai,aq,aw,ay,bZ,bF,bc,b5,gv,ah,aG,ak,ae,dC,aA,bG,rz,aX,aY,rB];refine uP ?_;simp only[aC,ag,if_false];refine uP ?_;simp only[aC,ag,if_false];refine uP ?_;simp only[aC,ag,if_false];refine uP ?_;simp only[aC,ag,if_false];refine DL ?_;simp only[aI,aC,if_true];exact λp hp=>⟨p,a,b,c,t,rfl,az,rfl,cF (by rw[oF];exact q p hp)⟩
end Mo
namespace Mo
open K2.P
open K2.lF (gw nV zE)
def wj:da :=
 (bc (b5 (DS (E8 "int" @d) (K8 (E8 "bool" @d)))))
def ql:di:=λds G Q _=>∃i:Int,ds=[.int i]/\Q (.bl true) G
theorem Fn(ds)(G)(Q)(h:ql ds G Q @f):wj (@f) @q (aJ 1 ds) G:=by
 obtain⟨i,rfl,q⟩:=h;unfold wj;simp only[bc,b5,aJ,av,aF,ai,aq,aw,ay,ends,ny,pM,mz,ak,ae,pE,aC];simpa using cF q
def cA:da :=
 (aU (bF (sT (iG (bX (E8 "tuple" @d))) (bX (aG (ic true) (gJ iL (ah @d aA)) (gJ iL (ah @g aA))))) (bc (b5 (dC (.bl false)))) aX)
 (aU (c4 (ig @d) (aE 2) (bF (iG (bX (aO ql (ah @l aA)))) (bc (b5 (dC (.bl false)))) aX))
 (bc (b5 (aG @G @d @g)))))
def bW:di:=λds G Q _=>∃ns:@I,ds=[tI ns,tI ns]/\Q (.bl true) G
theorem cL(ds)(G)(Q)(h:bW ds G Q @f):cA (@f) @q (aJ 3 ds) G:=by
 obtain⟨ns,rfl,q⟩:=h;unfold cA;simp only[ends,aJ,av,aF,ai,aq,aN,aw,ay,bZ,bF,sT,iG,bc,b5,dC,aX,if_true,aY,aG,gJ,ah,ak,ae,aA,af,pP,mz,pD,beq_self_eq_true,aC,aK,ag,if_false];refine b7 (α:=Int) (@c) ?_;simp only[decide_true,aK,if_true,c4,cq,ak,ae,tO,aC,ag,if_false];refine cT (f:=D.int) (xs:=ns) (λpre τ G'=>G=G'/\∃a,τ=[some (tI ns),some (tI ns),a]) ⟨rfl,_,rfl⟩ @Y ?_ ?_
 .rintro pre i post τ G' N e ⟨rfl,a,rfl⟩ hN;simp only[aE,bF,iG,ao,aj,bc,b5,dC,aX,aY,aO,ah,ak,af,ae,aA];refine⟨i,rfl,?_⟩;simp only[aC,aK,ag,if_false];exact hN _ _ ⟨rfl,_,rfl⟩
 .rintro τ G' ⟨rfl,a,rfl⟩;simp only[bc,b5,aG,ak,ae,af];refine⟨_,_,.tI ns,.tI ns,?_⟩;rw[Wu];simp only[decide_true,if_false,ag];exact cF q
theorem WO(m):(ar m).length<=10:=by cases m<;>exact dg rfl
end Mo
namespace nQ
open K2.P
def jy:@B->T3
 |[]=>⟨0,0,0⟩
 |a::r=>r.foldl (λm x=>if cy.lt x m=true then x else m) a
theorem lM(h:r≠[]):jy r∈r:=by
 cases r with
 |nil=>exact absurd rfl h
 |cons a r=>exact(lj r a).1
theorem tN(hy:y∈r):Co (jy r) y=true:=by
 cases r with
 |nil=>cases hy
 |cons a r=>exact(lj r a).2 y hy
def bR(r:@B):@B:=r.drop (r.idxOf (jy r))++r.take (r.idxOf (jy r))
theorem nC{x:D}{G:Gp}{r:@B}{Q:DK}(hi:itemsOf x G=some (r.map enc))(kO:r≠[])(q:Q (enc (jy r)) G):Hn [x] G Q :=
 Fy.mn hi kO λm hm hl=>by
  have:m=jy r:=Bq _ _ (hl _ (lM kO)) (tN hm);rw[this];exact q
theorem jK{x:D}{G:Gp}{r:@B}{Q:DK}(ht:pY x G)(hi:itemsOf x G=some (r.map enc))(kO:r≠[])(q:Q (.int ((r.idxOf (jy r):Nat):Int)) G):oI x [enc (jy r)] G Q:=by
 refine⟨ht,r.map enc,enc (jy r),r.map enc,hi,Enc.sn G 8 _ (@c),vg G 7 (@c) r,?_⟩;have e:(r.map enc).findIdx? (jf · (enc (jy r)))=some (r.idxOf (jy r)):=by
  have hf:(λy:T3=>jf (enc y) (enc (jy r)))=λy=>y == jy r:=by
   funext y;rw[Enc.eqv];by_cases h:y=jy r<;>simp[h]
  rw[List.findIdx?_map];show List.findIdx? (λy=>jf (enc y) (enc (jy r))) r=_;rw[hf];have hm:=lM kO;rw[List.idxOf];rw[List.findIdx?_eq_some_iff_findIdx_eq];exact⟨List.findIdx_lt_length.mpr ⟨_,hm,by simp⟩,rfl⟩
 rw[e];exact q
end nQ
namespace P
variable {rows:Rows}
def Cw(rows:Rows)(s:T2):Nat:=(((rows.zipIdx 0).find? λp=>decide (s∈bS p.1 (p.2:Int))).map (·.2)).getD 0
def kj:di:=λds G Q _=>∃(rows:Rows) (s:T2),ds=[@L,enc s]/\((∀r∈rows,r.length<=1000)/\∃p∈rows.zipIdx 0,s∈bS p.1 (p.2:Int))/\Q (.int (Cw rows s)) G
def we:da :=
 (aU (c4 (Bw @d) (kI (ez (aE 2) (ez (aE 3) lh))) (bF (bX (aG (uN false) @g (aO jR (ah (ak 3) (ah @l aA))))) (bc (b5 @l)) aX))
 dJ)
theorem Fj(ds)(G)(Q)(h:kj ds G Q @f):we (@f) @q (aJ 4 ds) G:=by
 obtain⟨rows,s,rfl,⟨hr,hs⟩,q⟩:=h;unfold we;refine bp (λτ G'=>False) ?_ (λ_ _ h=>h.elim);intro N hN;simp only[c4,Bw,ak,aJ,av,aF,ai,aq,aN,aw,ay,ae,ends];refine zj ?_;rw[Hh];refine cT (xs:=rows.zipIdx 0) (λpre τ G'=>G=G'/\(∃a b,τ=[@p,some (enc s),a,b])/\∀p∈pre,s∉bS p.1 (p.2:Int)) ⟨rfl,⟨_,_,rfl⟩,λ_ h=>by cases h⟩ @Y ?_ ?_
 .rintro pre x post τ G' N2 e ⟨rfl,⟨a,b,rfl⟩,hp⟩ nP;obtain⟨lf,rt,e1,e2,e3⟩:=vT e;simp only[kI,ez,aE,lh,bF,ao,aj,bc,b5,ak,af,ae,aX,aY,aG,aO,ah,aA];refine⟨x.1,(x.2:Int),rfl,hr x.1 (by rw[e1];simp),?_⟩;refine jF (@c) ?_;simp only[ag,if_false,aC];by_cases hx:s∈bS x.1 (x.2:Int)
  .simp only[hx,decide_true,ag,if_false,if_true];have:Cw rows s=x.2:=by
    unfold Cw;have:(rows.zipIdx 0).find? (λp=>decide (s∈bS p.1 (p.2:Int)))=some x:=by
     rw[e,mD];have:pre.find? (λp=>decide (s∈bS p.1 (p.2:Int)))=none:=by
      rw[lS];intro p h;simpa using hp p h
     rw[this];simp[hx]
    rw[this];rfl
   rw[<-this];exact cF q
  .simp only[hx,decide_false,ag,if_false];refine nP _ _ ⟨rfl,⟨_,_,rfl⟩,λp h=>?_⟩;rcases List.mem_append.mp h with h |h
   .exact hp p h
   .rw[List.mem_singleton.mp h];exact hx
 .rintro τ G' ⟨rfl,_,hp⟩;obtain⟨p,h1,h2⟩:=hs;exact absurd h2 (hp p h1)
theorem Hk:Qb i t E K τ G=t E {K with nx:=λuw G1=>match uw[i]? with
 |some (some d)=>D5 G1 d λt G2=>K.nx (uw.set i (some t)) G2
 |_=>False} τ G:=rfl
end P
namespace K3
open K2.P K2.lF
theorem qo{α:Type} [@V] [Enc α]{neg:Bool}{x:α}{xs:@H}{a:Nat}{G:Gp}{Q:DK}(hd:Enc.dep α<=7)(h:G a=some (.lst (xs.map enc)))(q:Q (.bl (if neg then !decide (x∈xs) else decide (x∈xs))) G):uN neg (enc x) (@m) G Q:=by
 unfold uN;simp only[h];refine⟨_,_,Enc.sn G 8 x (@e),vg G 7 hd xs,?_⟩;rw[Fg];exact q
theorem yB:bF c a b E K τ G=c E τ G λk G1=>if k=true then a E K τ G1 else b E K τ G1:=rfl
end K3
namespace K3
open K2.P K2.lF
noncomputable def T8(n:Int):Int:=n % 999+1
noncomputable def fit(n:Int):Nat->Int
 |0=>n
 |k+1=>T8 (fit n k)
theorem oO(h1:1<=n)(h2:n<=999):∀k:Nat,fit n k=(n-1+k) % 999+1
 |0=>by show n=_;lia
 |k+1=>by
  show T8 (fit n k)=_;rw[oO h1 h2 k];unfold T8;lia
theorem fI:∀(xs ys:@I),xs.Nodup->(∀x∈xs,x∈ys)->xs.length<=ys.length
 |[],_,_,_=>eB _
 |x::xs,ys,hn,h=>by
  rw[c5] at hn;have:=fI xs (ys.erase x) hn.2 λy hy=>(yR (show y≠x from λz=>hn.1 (by rw[<-z];exact hy))).mpr (h y (aP _ hy));have hx:=h x @k;rw[tE hx] at this;have:=vN hx;rw[ai];lia
theorem xw{ns:@I}(h1:1<=n)(h2:n<=999)(hl:ns.length<=500):∃k,k<=ns.length/\fit n k∉ns:=by
 apply e9;intro Nu;have oN:∀k,k<=ns.length->fit n k∈ns:=λk hk=>e9 λz=>Nu ⟨k,hk,z⟩;have nd:((dG (ns.length+1)).map λk=>fit n k).Nodup:=by
  refine List.pairwise_iff_getElem.mpr λi j hi hj hij=>?_;simp only[ax,c6] at hi hj;rw[cP,cP,lQ,lQ,oO h1 h2,oO h1 h2];lia
 have:=fI _ ns nd λx hx=>by
  obtain⟨k,hk,rfl⟩:=List.mem_map.mp hx;exact oN k (by have:=List.mem_range.mp hk;lia)
 simp at this;lia
noncomputable def ins(r:@B)(k:Nat)(p:T3):@B:=r.take k++p::r.drop k
theorem GJ(r)(k)(p):(ins r k p).Perm (p::r):=NW p r k
theorem SD(r)(k)(p):(r.map enc).take k++enc p::(r.map enc).drop k=(ins r k p).map (enc:T3->D):=by
 unfold ins;rw[aH,av,uo,ur]
structure DF(L:@B):Prop where
 nd:(L.map T3.s).Nodup
 way:∀p∈L,p.b=0\/p.b=1
 hand:∀p∈L,p.c=1\/p.c=-1
 ue:∀p∈L,(⟨p.a,1-p.b,p.c⟩:T3)∈L
theorem DF.perm(h:DF L)(p:L'.Perm L):DF L' :=
 ⟨(p.map _).nodup_iff.mpr h.nd,λx hx=>h.way x (p.mem_iff.mp hx),λx hx=>h.hand x (p.mem_iff.mp hx),λx hx=>p.mem_iff.mpr (h.ue x (p.mem_iff.mp hx))⟩
theorem DF.add(h:DF L)(hm:m∉L.map (·.a))(hh:hd=1\/hd=-1):DF (⟨m,1,hd⟩::⟨m,0,hd⟩::L):=by
 have no:∀w,(⟨m,w⟩:T2)∉L.map T3.s:=λw z=>by
  obtain⟨p,hp,e⟩:=List.mem_map.mp z;exact hm (List.mem_map.mpr ⟨p,hp,by have:=congrArg T2.a e;exact this⟩)
 refine⟨?_,?_,?_,?_⟩
 .rw[av,av,c5,c5];refine⟨λz=>?_,no 0,h.nd⟩;rcases List.mem_cons.mp z with e |z
  .have:=congrArg T2.b e;exact absurd (show(1:Int)=0 from this) (@c)
  .exact no 1 z
 .intro p hp;rcases List.mem_cons.mp hp with rfl |hp
  .exact .inr rfl
  .rcases List.mem_cons.mp hp with rfl |hp
   .exact @E
   .exact h.way p hp
 .intro p hp;rcases List.mem_cons.mp hp with rfl |hp
  .exact hh
  .rcases List.mem_cons.mp hp with rfl |hp
   .exact hh
   .exact h.hand p hp
 .intro p hp;rcases List.mem_cons.mp hp with rfl |hp
  .exact aP _ aQ
  .rcases List.mem_cons.mp hp with rfl |hp
   .exact aQ
   .exact aP _ (aP _ (h.ue p hp))
theorem HR.at_(h:HR G G' p0 as rs){j:Int}(j1:0<=j)(j2:j<rs.length):∃a r,as[j.toNat]?=some a/\rs[j.toNat]?=some r/\G' a=some (.lst (r.map enc))/\mH (as.map D.ref) j=some (@m):=by
 have hj:j.toNat<as.length:=by have:=h.len;lia
 refine⟨as[j.toNat],rs[j.toNat]'(@e),bo hj,bo _,h.at' _ _ _ (bo hj) (bo _),?_⟩;rw[eY _ j1 (by rw[ax];have:=h.len;lia),cP]
end K3
namespace rh
open K2.P
open K2.nQ (bR jy)
noncomputable def kH(r:@B)(k:Nat):@B:=r.drop k++r.take k
theorem U4{r:@B}{k:Nat}{G:Gp}{Q:DK}{d:D}(hd:IsL G d (r.map enc))(hk:k<=r.length)(hl:r.length<=1000)(q:Q (enc (kH r k)) G):
  Oj d (some (k:Int)) none G λx G1=>Oj d none (some (k:Int)) G1 λy G2=>iK x y G2 λz G3=>D5 G3 z Q:=by
 refine lW hd ?_;rw[oz,BV r k hk];intro p hp;refine lW (hd.mono (.new hp)) ?_;rw[oz,JD r k hk];intro p2 oq;have Wa:p≠p2:=λz=>by rw[<-z,az] at oq;cases oq
 have g1:ck (ck G p (.lst ((r.drop k).map enc))) p2 (.lst ((r.take k).map enc)) p=some (.lst ((r.drop k).map enc)):=by rw[dm Wa,az]
 have gl:cO G (ck (ck G p (.lst ((r.drop k).map enc))) p2 (.lst ((r.take k).map enc))):=(cO.new hp).trans (.new oq);show BZ _ _ _ _;unfold BZ;rw[jx (IsL.ref (ds:=(r.drop k).map enc) g1),jx (IsL.ref (ds:=(r.take k).map enc) az)];refine⟨Cn (by simp;lia),λp3 GN=>?_⟩;refine ij (xs:=kH r k) (gl.trans (.new GN)) (gl.free GN) ?_ q;rw[az];unfold kH;rw[aH]
end rh
namespace rh
open K2.P
open K2.nQ (bR jy lM tN)
theorem kG(r)(k):(kH r k).Perm r:=by
 unfold kH;exact List.perm_append_comm.trans (by rw[cH])
theorem Em(hx:x=jy r)(e:r=a++x::b)(hn:x∉a):bR r=x::b++a:=by
 have hi:r.idxOf (jy r)=a.length:=by
  rw[<-hx,e,Dc,if_neg hn,yS];simp
 unfold bR;rw[hi,e,JZ,JY]
theorem Mw(p:r'.Perm r)(kO:r≠[]):jy r'=jy r:=by
 have abt:r'≠[]:=λz=>kO (by rw[z] at p;exact p.symm.eq_nil);exact Bq _ _ (tN (p.mem_iff.mpr (lM kO))) (tN (p.mem_iff.mp (lM abt)))
theorem mS(hn:(r.map T3.s).Nodup)(k):bR (kH r k)=bR r:=by
 by_cases kO:r=[]
 .subst kO;unfold kH;simp
 have nd:r.Nodup:=by
  refine List.Pairwise.imp ?_ (List.pairwise_map.mp hn);intro a b h e;exact h (congrArg _ e)
 have hl:=Mw (kG r k) kO;obtain⟨a,b,e⟩:=eD (lM kO);generalize hx:jy r=x at e;rw[hx] at hl;have hnd:(a++x::b).Nodup:=by rw[<-e];exact nd
 rw[eR] at hnd;have ha:x∉a:=λz=>hnd.2.2 x z x aQ rfl;have hb:x∉b:=(List.nodup_cons.mp hnd.2.1).1;rw[Em hx.symm e ha];by_cases hk:k<=a.length
 .have e2:kH r k=a.drop k++x::(b++a.take k):=by
   unfold kH;rw[e,List.drop_append_of_le_length hk,FD hk];simp
  rw[Em hl.symm e2 λz=>ha (Q0 z)];simp only[aw,bM,cH]
 .obtain⟨j,rfl⟩:∃j,k=a.length+(j+1):=⟨k-a.length-1,@e⟩;have e2:kH r (a.length+(j+1))=(b.drop j++a)++x::b.take j:=by
   unfold kH;rw[e,List.drop_length_add_append,List.take_length_add_append,List.drop_succ_cons,List.take_succ_cons];simp
  rw[Em hl.symm e2 λz=>(List.mem_append.mp z).elim (λz=>hb (Q0 z)) ha];simp only[aw,<-bM,cH]
inductive Ro:Rows->Rows->Prop
 |nil:Ro [] []
 |cons {r x:@B} {rs xs:Rows}:(∃k,k<=r.length/\x=kH r k)->Ro rs xs->Ro (r::rs) (x::xs)
end rh
namespace rh
open K2.P
open K2.nQ (bR jy lM tN)
open K2.lF (nV gw HR HR.fz)
open K2.K3 (DF)
theorem Ru{r:@B}{k:Nat}{G:Gp}{Q:DK}{d:D}(hd:IsL G d (r.map enc))(hk:k<=r.length)(hl:r.length<=1000)(q:∀p G1,cO G G1->G p=none->G1 p=some (.lst ((kH r k).map enc))->Q (.ref p) G1):
  Oj d (some (k:Int)) none G λx G1=>Oj d none (some (k:Int)) G1 λy G2=>iK x y G2 Q:=by
 refine lW hd ?_;rw[oz,BV r k hk];intro p hp;refine lW (hd.mono (.new hp)) ?_;rw[oz,JD r k hk];intro p2 oq;have Wa:p≠p2:=λz=>by rw[<-z,az] at oq;cases oq
 have g1:ck (ck G p (.lst ((r.drop k).map enc))) p2 (.lst ((r.take k).map enc)) p=some (.lst ((r.drop k).map enc)):=by rw[dm Wa,az]
 have gl:cO G (ck (ck G p (.lst ((r.drop k).map enc))) p2 (.lst ((r.take k).map enc))):=(cO.new hp).trans (.new oq);show BZ _ _ _ _;unfold BZ;rw[jx (IsL.ref (ds:=(r.drop k).map enc) g1),jx (IsL.ref (ds:=(r.take k).map enc) az)];refine⟨Cn (by simp;lia),λp3 GN=>?_⟩;refine q _ _ (gl.trans (.new GN)) (gl.free GN) ?_;rw[az];unfold kH;rw[aH]
end rh
end K2
end
section
namespace K2
open Enc (enc)
namespace tm
open K2.P K2.rh
open K2.nQ (bR jy lM tN)
open K2.K3 (DF)
theorem ib(a b):kH (a++b) a.length=b++a:=by unfold kH;rw[JZ,JY]
theorem nW(hk:k<=r.length)(hj:j<=r.length):∃i,i<=r.length/\kH (kH r k) j=kH r i:=by
 obtain⟨a,b,rfl,rfl⟩:∃a b,r=a++b/\k=a.length:=⟨r.take k,r.drop k,(cH k r).symm,by rw[cz];lia⟩;rw[ib];rw[aM] at hj;by_cases h:j<=b.length
 .obtain⟨b1,b2,rfl,rfl⟩:∃b1 b2,b=b1++b2/\j=b1.length:=⟨b.take j,b.drop j,(cH j b).symm,by rw[cz];lia⟩;refine⟨(a++b1).length,by simp,?_⟩;rw[bM,ib,<-bM a b1 b2,ib,bM]
 .obtain⟨i,rfl⟩:∃i,j=b.length+i:=⟨j-b.length,@e⟩;obtain⟨a1,a2,rfl,rfl⟩:∃a1 a2,a=a1++a2/\i=a1.length:=⟨a.take i,a.drop i,(cH i a).symm,by rw[cz];lia⟩;refine⟨a1.length,by simp,?_⟩;rw[<-bM,show b.length+a1.length=(b++a1).length by simp,ib,bM a1 a2 b,ib,bM]
theorem mT(hk:k<=r.length):∃i,i<=(kH r k).length/\r=kH (kH r k) i:=by
 obtain⟨a,b,rfl,rfl⟩:∃a b,r=a++b/\k=a.length:=⟨r.take k,r.drop k,(cH k r).symm,by rw[cz];lia⟩;rw[ib];exact⟨b.length,by simp,(ib b a).symm⟩
theorem nX(r)(k):(kH r k).length=r.length:=(kG r k).length_eq
theorem dE:∀rows:Rows,Ro rows rows
 |[]=>.nil
 |r::rows=>.cons ⟨0,eB _,by unfold kH;simp⟩ (dE rows)
theorem eP(h1:Ro r1 r2):Ro r2 r3->Ro r1 r3:=by
 induction h1 generalizing r3 with
 |nil=>intro h;exact h
 | cons q _ ih=>
  intro h;cases h with
  |cons q2 h2=>
   obtain⟨k,hk,rfl⟩:=q;obtain⟨j,hj,rfl⟩:=q2;rw[nX] at hj;exact .cons (nW hk hj) (ih h2)
theorem fG(h:Ro r1 r2):Ro r2 r1:=by
 induction h with
 |nil=>exact .nil
 |cons q _ ih=>
  obtain⟨k,hk,rfl⟩:=q;exact .cons (mT hk) ih
theorem b6(rows):Ro rows (rows.map bR):=by
 induction rows with
 |nil=>exact .nil
 |cons r rows ih=>exact .cons ⟨_,oC,rfl⟩ ih
end tm
end K2
end
section
namespace K2
open PySem (Str)
open Enc (enc)
namespace Mo
open K2.P
open K2.nQ (bR)
open K2.rh (kH Ro kG mS)
open K2.tm (ib nW mT nX dE eP fG b6)
def gb(r x:@B):Prop:=∃k,k<=r.length/\x=kH r k
theorem gb.refl(r):gb r r:=⟨0,eB _,by simp[kH]⟩
theorem gb.trans(h:gb a b)(h2:gb b c):gb a c:=by
 obtain⟨k,hk,rfl⟩:=h;obtain⟨j,hj,rfl⟩:=h2;rw[nX] at hj;exact nW hk hj
theorem gb.app(a b):gb (a++b) (b++a):=⟨a.length,by simp,(ib a b).symm⟩
theorem gb.perm(h:gb a b):b.Perm a:=by
 obtain⟨k,_,rfl⟩:=h;exact kG a k
theorem gb.parts(h:gb a b):∃u v,a=u++v/\b=v++u:=by
 obtain⟨k,_,rfl⟩:=h;exact⟨a.take k,a.drop k,(cH k a).symm,rfl⟩
theorem gb.of(h1:a=u++v)(h2:b=v++u):gb a b:=by rw[h1,h2];exact .app u v
theorem gb.flat(h:gb a b):gb (a.flatMap f) (b.flatMap f):=by
 obtain⟨u,v,rfl,rfl⟩:=h.parts;exact .of (u:=u.flatMap f) (v:=v.flatMap f) (by rw[iP]) (by rw[iP])
theorem gb.S0(h:gb a b):gb (a.filter f) (b.filter f):=by
 obtain⟨u,v,rfl,rfl⟩:=h.parts;exact .of (u:=u.filter f) (v:=v.filter f) (by rw[bC]) (by rw[bC])
theorem gb.map(h:gb a b):gb (a.map f) (b.map f):=by
 obtain⟨u,v,rfl,rfl⟩:=h.parts;exact .of (u:=u.map f) (v:=v.map f) (by rw[aH]) (by rw[aH])
theorem gb.aan(h:gb a b)(nd:(a.map T3.s).Nodup):bR b=bR a:=by
 obtain⟨k,_,rfl⟩:=h;exact mS nd k
theorem Gk(r):gb r (bR r):=⟨_,oC,rfl⟩
theorem gb.nil(h:gb [] b):b=[]:=by have:=h.perm;exact this.eq_nil
theorem gb.uniq(h:gb (f::T) r)(nd:(r.map T3.s).Nodup):kH r (r.map T3.s |>.idxOf f.s)=f::T:=by
 obtain⟨u,v,e,rfl⟩:=h.parts;cases u with
 |nil=>
  rw[ay] at e;subst e;simp[kH]
 | cons g u=>
  rw[aw] at e;injection e with e1 e2
  subst e1 e2;have hn:f.s∉v.map T3.s:=λz=>by
   rw[aH,eR] at nd;exact nd.2.2 _ z _ (aQ) rfl
  have:((v++f::u).map T3.s).idxOf f.s=v.length:=by
   rw[aH,Dc,if_neg hn,av,yS];simp
  rw[this,ib];rfl
structure rC(rows:Rows):Prop where
 nd:(@ak).Nodup
 way:∀p∈rows.flatten,p.b=0\/p.b=1
theorem _root_.Internal.K2.Dr.dn(d:@J):rC rows:=⟨d.nd,d.way⟩
def yv(s:T2)(ps:@B)(p:T3):@B:=if p.s=s then p::ps else [p]
def gS(s:T2)(ps:@B)(k:Nat)(r:@B):@B:=(if s=⟨k,2⟩ then ps else [])++r.flatMap (yv s ps)
noncomputable def jm(s:T2)(ps:@B):Rows->Nat->Rows
 |[],_=>[]
 |r::rs,k=>gS s ps k r::jm s ps rs (k+1)
theorem sm(s)(ps):∀(a b:Rows) (k:Nat),jm s ps (a++b) k=jm s ps a k++jm s ps b (k+a.length)
 |[],b,k=>by simp[jm]
 |r::a,b,k=>by
  rw[aw,jm,jm,sm s ps a b (k+1),aw,ai];congr 3;lia
theorem tR:∀{r:@B},(∀p∈r,p.s≠s)->r.flatMap (yv s ps)=r
 |[],_=>rfl
 |a::r,h=>by
  rw[cJ,tR λp hp=>h p (aP _ hp)];unfold yv;rw[if_neg (h a aQ)];rfl
theorem pe:∀{R:Rows} {k:Nat},(∀p∈R.flatten,p.s≠s)->(∀j:Nat,k<=j->j<k+R.length->s≠⟨j,2⟩)->jm s ps R k=R
 |[],k,_,_=>rfl
 |r::R,k,h,h2=>by
  rw[jm,pe (λp hp=>h p (by rw[br];exact b4 _ hp)) (λj h3 h4=>h2 j (@e) (by rw[ai];lia))];unfold gS;rw[if_neg (h2 k (bb _) (by rw[ai];lia)),ay,tR λp hp=>h p (by rw[br];exact ee _ hp)]
inductive Spl (rows:Rows) (s:T2):Prop
 |at (R1 R2:Rows) (A B:@B) (x:T3) (e:rows=R1++(A++x::B)::R2) (hs:x.s=s)
 |mt (R1 R2:Rows) (e:rows=R1++[]::R2) (hs:s=⟨(R1.length:Nat),2⟩)
theorem N6:∀{rows:Rows} {k:Nat},s∈bz rows k->(∃R1 R2 A B x,rows=R1++(A++x::B)::R2/\x.s=s)\/∃R1 R2:Rows,rows=R1++[]::R2/\s=⟨((k+R1.length:Nat):Int),2⟩
 |[],_,h=>by cases h
 | r::rs,k,h=>by
  rw[bz] at h;rcases List.mem_append.mp h with h |h
  .unfold bS at h;split at h
   .rename_i e;rw[gY] at h;exact .inr ⟨[],rs,by rw[e];rfl,h⟩
   .obtain⟨x,hx,e⟩:=List.mem_map.mp h;obtain⟨A,B,e2⟩:=eD hx;exact .inl ⟨[],rs,A,B,x,by rw[e2];rfl,e⟩
  .rcases N6 h with ⟨R1,R2,A,B,x,e,e2⟩ |⟨R1,R2,e,e2⟩
   .exact .inl ⟨r::R1,R2,A,B,x,by rw[e];rfl,e2⟩
   .exact .inr ⟨r::R1,R2,by rw[e];rfl,by rw[e2,ai];congr 2;lia⟩
theorem Kc(h:s∈bz rows 0):Spl rows s:=by
 rcases N6 h with ⟨R1,R2,A,B,x,e,e2⟩ |⟨R1,R2,e,e2⟩
 .exact .at R1 R2 A B x e e2
 .exact .mt R1 R2 e (by rw[e2,nK])
theorem s_b(p:T3):p.s.b=p.b:=rfl
theorem rC.TK(d:rC rows)(h:p∈rows.flatten)(j):p.s≠⟨j,2⟩:=λe=>by
 have:=congrArg T2.b e;rw[s_b] at this;have h2:p.b=2:=this;rcases d.way p h with h |h<;>lia
theorem cS(R1 R2)(r:@B):(R1++r::R2).flatten=R1.flatten++(r++R2.flatten):=by rw[gx,br]
theorem yu(d:rC (R1++(A++x::B)::R2)):jm x.s ps (R1++(A++x::B)::R2) 0=R1++(A++x::(ps++B))::R2:=by
 have nd:=d.nd;rw[cS] at nd;simp only[aH,av,bM,aw] at nd;have nd1:=List.nodup_append.mp nd;have ZN:=List.nodup_append.mp nd1.2.1;have nd3:=List.nodup_cons.mp ZN.2.1;have hx:x∈(R1++(A++x::B)::R2).flatten:=by rw[cS];simp
 have h1:∀p∈R1.flatten,p.s≠x.s:=λp hp e=>nd1.2.2 _ (List.mem_map.mpr ⟨p,hp,e⟩) _ @k rfl;have h2:∀p∈A,p.s≠x.s:=λp hp e=>ZN.2.2 _ (List.mem_map.mpr ⟨p,hp,e⟩) _ @k rfl;have h3:∀p∈B,p.s≠x.s:=λp hp e=>nd3.1 (ee _ (List.mem_map.mpr ⟨p,hp,e⟩));have h4:∀p∈R2.flatten,p.s≠x.s:=λp hp e=>nd3.1 (b4 _ (List.mem_map.mpr ⟨p,hp,e⟩));rw[sm,jm,pe h1 λj _ _=>d.TK hx _,pe h4 λj _ _=>d.TK hx _];congr 2;unfold gS;rw[if_neg (d.TK hx _),ay,iP,cJ,tR h2,tR h3];congr 1;unfold yv;rw[if_pos rfl];rfl
theorem yt(d:rC (R1++[]::R2)):jm ⟨(R1.length:Nat),2⟩ ps (R1++[]::R2) 0=R1++ps::R2:=by
 have h1:∀p∈R1.flatten,p.s≠⟨(R1.length:Nat),2⟩:=λp hp=>d.TK (by rw[cS];simp[hp]) _;have h4:∀p∈R2.flatten,p.s≠⟨(R1.length:Nat),2⟩:=λp hp=>d.TK (by rw[cS];simp[hp]) _;have ne:∀j:Nat,j≠R1.length->(⟨(R1.length:Nat),2⟩:T2)≠⟨(j:Nat),2⟩:=λj hj e=>by
  have:=congrArg T2.a e;simp only at this;lia
 rw[sm,jm,pe h1 λj _ hj=>ne j (@e),pe h4 λj hj _=>ne j (@e)];congr 2;unfold gS;rw[if_pos (by rw[nK])];simp
theorem F7(h:s∈bS r (R1.length:Nat))(hn:∀p∈R1.zipIdx 0,s∉bS p.1 (p.2:Int)):Cw (R1++r::R2) s=R1.length:=by
 unfold Cw;rw[qX,mD];have:(List.zipIdx R1 0).find? (λp=>decide (s∈bS p.1 (p.2:Int)))=none:=List.find?_eq_none.mpr λp hp=>by simpa using hn p hp
 rw[this,Option.none_or,nR,dP];have h':s∈bS r ((0+R1.length:Nat):Int):=by rw[nK];exact h
 simp only[h',decide_true];simp
theorem NL{R:Rows}(h:p∈R.zipIdx 0):p.1∈R/\p.2<R.length:=by
 obtain⟨i,hi⟩:=oE h;rw[Q3] at hi;obtain⟨r,hr,e⟩:=Option.map_eq_some_iff.mp hi;subst e;exact⟨eS hr,by have:=(List.getElem?_eq_some_iff.mp hr).1;simpa using this⟩
theorem Ka(d:rC (R1++(A++x::B)::R2)):Cw (R1++(A++x::B)::R2) x.s=R1.length:=by
 have hx:x∈(R1++(A++x::B)::R2).flatten:=by rw[cS];simp
 refine F7 (by unfold bS;rw[if_neg @k];simp) λp hp=>?_;obtain⟨h1,h2⟩:=NL hp;unfold bS;split
 .rw[gY];exact d.TK hx _
 .intro z;obtain⟨y,hy,e⟩:=List.mem_map.mp z;have nd:=d.nd;rw[cS,aH] at nd;exact(List.nodup_append.mp nd).2.2 _ (List.mem_map.mpr ⟨y,List.mem_flatten.mpr ⟨_,h1,hy⟩,e⟩) _ @k rfl
theorem Rj(d:rC (R1++[]::R2)):Cw (R1++[]::R2) ⟨(R1.length:Nat),2⟩=R1.length:=by
 refine F7 (by unfold bS;rw[if_pos rfl];simp) λp hp=>?_;obtain⟨h1,h2⟩:=NL hp;unfold bS;split
 .rw[gY];intro e;have:=congrArg T2.a e;simp only at this;lia
 .intro z;obtain⟨y,hy,e⟩:=List.mem_map.mp z;exact d.TK (by rw[cS];exact ee _ (List.mem_flatten.mpr ⟨_,h1,hy⟩)) _ e
end Mo
namespace Mo
open K2.P
open K2.nQ (bR)
open K2.rh (kH Ro kG mS)
open K2.tm (ib nW mT nX dE eP fG b6)
def OkS(s:T2)(rows:Rows)(k:Nat):Prop:=∀(j:Nat) (r:@B),rows[j]?=some r->s=⟨((k+j:Nat):Int),2⟩->r=[]
theorem EE(d:rC rows)(h:Spl rows s):OkS s rows 0:=by
 intro j r hj e;cases h with
 | «at» R1 R2 A B x e1 hs=>
  subst e1 hs;exact absurd e (d.TK (by rw[cS];simp) _)
 |mt R1 R2 e1 hs=>
  subst e1 hs;have:=congrArg T2.a e;simp only[nK] at this;have hj':j=R1.length:=@e
  subst hj';simpa using hj.symm
theorem II(h:Ro rows rQ):∀{k:Nat},OkS s rows k->Ro (jm s ps rows k) (jm s ps rQ k):=by
 induction h with
 |nil=>intro k _;exact .nil
 |@cons r x rs xs q _ ih=>
  intro k ok;refine .cons ?_ (ih λj r' hj e=>ok (j+1) r' (by simpa using hj) (by rw[e];congr 2;lia));have q:gb r x:=q;show gb _ _;unfold gS;by_cases hs:s=⟨(k:Nat),2⟩
  .have:r=[]:=ok 0 r rfl (by simpa using hs);subst this;rw[q.nil];exact .refl _
  .rw[if_neg hs,ay,ay];exact q.flat
theorem Ro.aaY(h:Ro a b):b.length=a.length:=by
 induction h with
 |nil=>rfl
 |cons _ _ ih=>rw[ai,ai,ih]
theorem AS(h:Ro a b):∀{k:Nat},s∈bz a k->s∈bz b k:=by
 induction h with
 |nil=>intro k h;exact h
 | @cons r x rs xs q _ ih=>
  intro k h;have q:gb r x:=q;rw[bz] at h ⊢;rcases List.mem_append.mp h with h |h
  .refine ee _ ?_;unfold bS at h ⊢;by_cases hr:r=[]
   .subst hr;rw[q.nil];exact h
   .rw[if_neg hr] at h;have hx:x≠[]:=λz=>hr (by have:=q.perm;rw[z] at this;exact this.symm.eq_nil);rw[if_neg hx];exact((q.perm.map T3.s).mem_iff).mpr h
  .exact b4 _ (ih h)
theorem jE(h:Ro a b):b.flatten.Perm a.flatten:=by
 induction h with
 |nil=>exact .refl _
 |cons q _ ih=>
  have q:gb _ _:=q;rw[br,br];exact q.perm.append ih
theorem rC.ro(d:rC a)(h:Ro a b):rC b :=
 ⟨((jE h).map T3.s).nodup_iff.mpr d.nd,λp hp=>d.way p ((jE h).mem_iff.mp hp)⟩
theorem _root_.Internal.K2.Dr.ro(d:Dr a)(h:Ro a b):Dr b :=
 ⟨(d.dn.ro h).nd,(d.dn.ro h).way,λp hp=>d.hand p ((jE h).mem_iff.mp hp),λp hp=>(jE h).mem_iff.mpr (d.ue p ((jE h).mem_iff.mp hp)),by rw[(jE h).length_eq];exact d.zm,by rw[Ro.aaY h];exact d.str⟩
theorem rC.row(d:rC rows)(h:r∈rows):(r.map T3.s).Nodup:=by
 obtain⟨A,B,rfl⟩:=eD h;have:=d.nd;rw[cS,aH,aH] at this;exact(List.nodup_append.mp (List.nodup_append.mp this).2.1).1
theorem N9(h:Ro a b):(∀r∈a,(r.map T3.s).Nodup)->b.map bR=a.map bR:=by
 induction h with
 |nil=>intro _;rfl
 |cons q _ ih=>
  intro hn;have q:gb _ _:=q;rw[av,av,ih λr hr=>hn r (aP _ hr),q.aan (hn _ aQ)]
theorem rC.Gj(d:rC a)(h:Ro a b):b.map bR=a.map bR:=N9 h λr hr=>d.row hr
noncomputable def i6(ns:@I)(rows:Rows):Rows:=rows.map (pX λp=>!decide (p.a∈ns))
theorem PZ(h:Ro a b):Ro (i6 ns a) (i6 ns b):=by
 induction h with
 |nil=>exact .nil
 |cons q _ ih=>
  have q:gb _ _:=q;exact .cons (show gb _ _ from q.S0) ih
theorem tS{ns:@I}{r:@B}(h:∀p∈r,p.a∉ns):r.filter (λp=>!decide (p.a∈ns))=r:=List.filter_eq_self.mpr λp hp=>by simpa using h p hp
theorem xx{ns:@I}{r:@B}(h:∀p∈r,p.a∈ns):r.filter (λp=>!decide (p.a∈ns))=[]:=List.filter_eq_nil_iff.mpr λp hp=>by simpa using h p hp
theorem Hf{ns:@I}(hp:∀p∈ps,p.a∈ns):∀{r:@B},(∀p∈r,p.a∉ns)->(r.flatMap (yv s ps)).filter (λp=>!decide (p.a∈ns))=r
 |[],_=>rfl
 |a::r,h=>by
  rw[cJ,bC,Hf hp λp hp=>h p (aP _ hp)];have h1:([a]:@B).filter (λp=>!decide (p.a∈ns))=[a]:=tS λp hp=>by rw[List.mem_singleton.mp hp];exact h a aQ
  unfold yv;split
  .rw[show a::ps=[a]++ps from rfl,bC,h1,xx hp];rfl
  .rw[h1];rfl
theorem KU(hp:∀p∈ps,p.a∈ns):∀{rows:Rows} {k:Nat},(∀p∈rows.flatten,p.a∉ns)->i6 ns (jm s ps rows k)=rows
 |[],_,_=>rfl
 |r::rows,k,h=>by
  show(gS s ps k r).filter _::i6 ns (jm s ps rows (k+1))=_;rw[KU hp λp hp=>h p (by rw[br];exact b4 _ hp)];unfold gS;rw[bC,Hf hp λp hp=>h p (by rw[br];exact ee _ hp)];congr 1;split
  .rw[xx hp];rfl
  .rfl
theorem pb(d:rC rows)(h:Spl rows s):(jm s ps rows 0).flatten.Perm (ps++rows.flatten):=by
 cases h with
 | «at» R1 R2 A B x e hs=>
  subst e hs;rw[yu d,cS,cS];simp only[bM,aw];have:(R1.flatten++(A++x::(ps++(B++R2.flatten))))=(R1.flatten++(A++[x]))++(ps++(B++R2.flatten)):=by simp
  rw[this];have e2:ps++(R1.flatten++(A++x::(B++R2.flatten)))=ps++((R1.flatten++(A++[x]))++(B++R2.flatten)):=by simp
  rw[e2];exact HL _ _ _
 |mt R1 R2 e hs=>
  subst e hs;rw[yt d,cS,cS,ay];exact HL _ _ _
theorem lB(s)(ps):∀(rows:Rows) (k:Nat),(jm s ps rows k).length=rows.length
 |[],_=>rfl
 |r::rows,k=>by rw[jm,ai,ai,lB s ps rows (k+1)]
noncomputable def cps(n f h:Int):@B:=[⟨n,f,h⟩,⟨n,1-f,h⟩]
theorem S6(d:@J)(hs:s∈bz rows 0)(hn:∀p∈rows.flatten,p.a≠n)(hf:f=0\/f=1)(hh:h=1\/h=-1)(hl:rows.flatten.length<=22):Dr (jm s (cps n f h) rows 0):=by
 have pp:=pb (ps:=cps n f h) d.dn (Kc hs);have mem:∀p,p∈(jm s (cps n f h) rows 0).flatten↔p=⟨n,f,h⟩\/p=⟨n,1-f,h⟩\/p∈rows.flatten:=λp=>by
  rw[pp.mem_iff];simp[cps]
 have fr:∀w:Int,(⟨n,w⟩:T2)∉@ak:=λw z=>by
  obtain⟨p,hp,e⟩:=List.mem_map.mp z;exact hn p hp (congrArg T2.a e)
 refine⟨?_,?_,?_,?_,?_,?_⟩
 .rw[(pp.map T3.s).nodup_iff,aH,eR];refine⟨?_,d.nd,?_⟩
  .have:(⟨n,f⟩:T2)≠⟨n,1-f⟩:=λe=>by have:=congrArg T2.b e;simp only at this;lia
   simp[cps,T3.s,this]
  .intro a ha b hb e;subst e;simp only[cps,av,aF,bN,bf,or_false] at ha;rcases ha with rfl |rfl
   .exact fr f hb
   .exact fr (1-f) hb
 .intro p hp;rcases(mem p).mp hp with rfl |rfl |hp
  .exact hf
  .show 1-f=0\/1-f=1;lia
  .exact d.way p hp
 .intro p hp;rcases(mem p).mp hp with rfl |rfl |hp
  .exact hh
  .exact hh
  .exact d.hand p hp
 .intro p hp;rcases(mem p).mp hp with rfl |rfl |hp
  .exact(mem _).mpr (.inr (@E))
  .exact(mem _).mpr (.inl (by show(⟨n,1-(1-f),h⟩:T3)=_;congr 1;lia))
  .exact(mem _).mpr (.inr (.inr (d.ue p hp)))
 .rw[pp.length_eq,aM];simp only[cps,ai,aq];lia
 .rw[lB];exact d.str
theorem J4(h:(∃A B,r=A++p::q::B)\/(∃M,r=q::M++[p])\/(r=[p]/\q=p)):(p,q)∈r.zip (dH r):=by
 have go:∀i:Nat,r[i]?=some p->(dH r)[i]?=some q->(p,q)∈r.zip (dH r):=λi h1 h2=>eS (i:=i) (List.getElem?_zip_eq_some.mpr ⟨h1,h2⟩);rcases h with ⟨A,B,rfl⟩ |⟨M,rfl⟩ |⟨rfl,rfl⟩
 .refine go A.length @k ?_;unfold dH;rw[cm @k,List.getElem?_drop,Nat.add_comm,bL (@e)];simp
 .refine go (M.length+1) ?_ ?_
  .rw[bL @k];simp
  .unfold dH;rw[bL @k];simp
 .exact go 0 rfl rfl
theorem gb.adj(h:gb (p::q::T) r):(p,q)∈r.zip (dH r):=by
 obtain⟨u,v,e,rfl⟩:=h.parts;refine J4 ?_
 match u,e with
 |[],e=>exact .inl ⟨[],T,by simpa using e.symm⟩
 |[a],e=>
  simp at e;obtain⟨rfl,rfl⟩:=e;exact .inr (.inl ⟨T,rfl⟩)
 |a::b::u,e=>
  simp at e;obtain⟨rfl,rfl,rfl⟩:=e;exact .inl ⟨v,u,rfl⟩
theorem gb.one(h:gb [p] r):r=[p]:=by have:=h.perm;exact List.perm_singleton.mp this
theorem Ds(h:x∈r.zip (dH r)):x∈pairsOf (R1++r::R2):=by
 unfold pairsOf;rw[iP,cJ];exact b4 _ (ee _ h)
theorem gr(d:Dr (R1++r::R2))(h:gb (p::q::T) r):dM (cD (pairsOf (R1++r::R2))) p.s=some q.s:=by
 rw[Bc d];exact(IX d (Ds h.adj)).1
theorem wR(d:Dr (R1++r::R2))(h:gb [p] r):dM (cD (pairsOf (R1++r::R2))) p.s=some p.s:=by
 rw[Bc d];refine(IX d (Ds ?_)).1;rw[h.one];exact J4 (.inr (.inr @R))
structure Cu(rows:Rows)(n:Int)(s:T2)(y z:T3):Prop where
 ex:∃(R1 R2:Rows) (r M:@B),rows=R1++r::R2/\gb (y::z::M) r/\((M=[]/\s=⟨(R1.length:Nat),2⟩)\/∃M' x,M=M'++[x]/\x.s=s)/\∀p∈M,p.a≠n
theorem Zi(d:rC rows)(hs:s∈bz rows 0)(hn:∀p∈rows.flatten,p.a≠n):Cu ((jm s (cps n f h) rows 0).map bR) n s ⟨n,f,h⟩ ⟨n,1-f,h⟩:=by
 cases Kc hs with
 | «at» R1 R2 A B x e hx=>
  subst e hx;rw[yu d,aH,av];refine⟨_,_,_,B++(A++[x]),rfl,?_,.inr ⟨B++A,x,by simp,rfl⟩,λp hp=>hn p ?_⟩
  .refine gb.trans ?_ (Gk _);refine .of (u:=⟨n,f,h⟩::⟨n,1-f,h⟩::B) (v:=A++[x]) @k (by simp[cps])
  .rw[cS];simp only[lP,bN,bf,or_false] at hp ⊢;rcases hp with h |h |h
   .exact .inr (.inl (.inr (.inr h)))
   .exact .inr (.inl (.inl h))
   .exact .inr (.inl (.inr (.inl h)))
 |mt R1 R2 e hx=>
  subst e hx;rw[yt d,aH,av];exact⟨_,_,_,[],rfl,Gk _,.inl ⟨rfl,by rw[ax]⟩,λp hp=>by cases hp⟩
end Mo
namespace K3
open K2.P K2.lF
def gj:di:=λds G Q _=>∃rows:Rows,ds=[@L]/\rows.flatten.length<64/\∀p,G p=none->Q (.ref p) (ck G p (.lst ((@y).map enc)))
theorem eq_int(i j):jf (.int i) (.int j)=decide (i=j):=Enc.eqv i j
theorem Oc{rows:Rows}(h:k<rows.length):mH (rows.map (enc:@B->D)) (0+(k:Int))=some (enc rows[k]):=by
 rw[Int.zero_add,eY _ (@e) (by rw[ax];lia),cP];rfl
end K3
namespace tm
open K2.P
open K2.rh (kH Ro)
open K2.nQ (bR jy nC jK)
open K2.lF (HR HR.fz)
def Dq:da :=
 (aU (bF (iG (bX @d)) (bc (b5 (cg aA))) aX)
 (aU (aS (iZ pY oI @d (ah (gJ Hn (ah @d aA)) aA)) (aE 1))
 (bc (b5 (aG iK (lT @d (gW @g) bU) (lT @d bU (gW @g)))))))
def tH:di:=λds G Q _=>∃r:@B,ds=[enc r]/\r.length<=1000/\∀p,G p=none->Q (.ref p) (ck G p (.lst ((bR r).map enc)))
theorem D0(ds)(G)(Q)(h:tH ds G Q @f):Dq (@f) @q (aJ 2 ds) G:=by
 obtain⟨r,rfl,hl,q⟩:=h;unfold Dq;refine bp (λτ G'=>G=G'/\r≠[]/\τ=[some (enc r),none]) ?_ ?_
 .intro N hN;simp only[bF,iG,aJ,av,aF,ai,aq,aN,aw,ay,bc,b5,cg,aA,ends,aX,aY,ak,ae];cases r with
  |nil=>exact⟨@c,λp hp=>Ju (.new hp) hp az (q p hp)⟩
  |cons a t=>exact hN _ _ ⟨rfl,by simp,rfl⟩
 .rintro _ _ ⟨rfl,kO,rfl⟩;simp only[ends,bT,aS,iZ,ak,ae,ah,gJ,aA,aE,bc,b5,aG,lT,ao,aj,bU,cM,af];refine⟨trivial,nC rfl kO (jK trivial rfl kO ?_)⟩;have ZW:r.idxOf (jy r)<=r.length:=oC;refine rh.Ru (IsL.enc r) ZW hl λp G1 l f g=>?_;exact Ju l f g (q p f)
def rT:da :=
 (bc (b5 (eK 1 [] (ig @d) (aE 0) none (aO tH (ah @d aA)))))
def bA:di:=λds G Q _=>∃rows:Rows,ds=[@L]/\(rows.length<=1000/\∀r∈rows,r.length<=1000)/\∀p as G',HR G G' p as (rows.map bR)->Q (.ref p) G'
theorem sW(ds)(G)(Q)(h:bA ds G Q @f):rT (@f) @q (aJ 1 ds) G:=by
 obtain⟨rows,rfl,⟨hl,hr⟩,q⟩:=h;unfold rT;simp only[bc,b5,eK,aJ,av,aF,ai,aq,aw,ay,ends,cq,ak,ae];refine dZ ⟨Cn (by rw[ax];exact hl),?_⟩;refine gX (xs:=rows) (λpre acc τ G'=>(∃a,τ=[a])/\∃bs:List Nat,acc=bs.map D.ref/\bs.length=pre.length/\bs.Nodup/\(∀a∈bs,G a=none)/\@w/\∀(i a:Nat) (r:@B),bs[i]?=some a->pre[i]?=some r->G' a=some (.lst ((bR r).map enc))) ⟨⟨_,rfl⟩,[],rfl,rfl,i7,(λa h=>by cases h),.refl _,λi a r h=>by simp at h⟩ (λ_ _ _ _ _=>trivial) ?_ ?_
 .rintro pre r post acc τ G' N e ⟨⟨a,rfl⟩,bs,rfl,hl,nd,fr,le,MM⟩ hN;simp only[aE,aO,ah,ak,aj,ae,aA];refine⟨r,rfl,hr r (by rw[e];simp),λp hp=>?_⟩;have YI:p∉bs:=λz=>by
   obtain⟨i,hi⟩:=oE z;have h1:i<pre.length:=by rw[<-hl];exact(List.getElem?_eq_some_iff.mp hi).1
   rw[MM i p pre[i] hi (bo h1)] at hp;cases hp
  refine hN _ _ _ ⟨⟨_,rfl⟩,bs++[p],by simp,by simp[hl],?_,?_,le.trans (.new hp),?_⟩
  .rw[eR];refine⟨nd,by simp,λa h b hb e=>?_⟩;rw[gY] at hb;subst hb e;exact YI h
  .intro a h0;rcases List.mem_append.mp h0 with h |h
   .exact fr a h
   .rw[gY] at h;subst h;exact le.free hp
  .intro i b s h1 h2;by_cases hi:i<bs.length
   .rw[cm hi] at h1;rw[cm (@e)] at h2;have:b≠p:=by rintro rfl;exact YI (eS h1)
    rw[dm this];exact MM i b s h1 h2
   .rw[bL (@e)] at h1 h2;have i0:i-bs.length=0:=by have:=(List.getElem?_eq_some_iff.mp h1).1;simp at this;lia
    rw[i0] at h1;rw[<-hl,i0] at h2;simp at h1 h2;subst h1 h2;exact az
 .rintro acc τ G5 ⟨⟨a',rfl⟩,bs,rfl,hl,nd,fr,le,MM⟩ p3 GN;refine cF (q p3 bs _ ⟨le.trans (.new GN),le.free GN,az,λz=>?_,nd,fr,by rw[ax];exact hl,λi b r h1 h2=>?_⟩)
  .obtain⟨i,hi⟩:=oE z;have h1:i<rows.length:=by rw[<-hl];exact(List.getElem?_eq_some_iff.mp hi).1
   rw[MM i p3 rows[i] hi (bo h1)] at GN;cases GN
  .rw[dB] at h2;obtain⟨r',Px,rfl⟩:=Option.map_eq_some_iff.mp h2;exact(cO.new GN) _ _ (MM i b r' h1 Px)
end tm
namespace Mo
open K2.P
open K2.K3 (gj qo)
open K2.nQ (bR)
open K2.lF (HR)
open K2.tm (bA)
theorem kZ{κ α:Type} [DecidableEq κ] [Enc κ] [qF κ] [@V] [Enc α]{l:List (κ×α)}{k:κ}{v:α}{G:Gp}{Q:DK}(hv:dM l k=some v)(q:Q (enc v) G):cK (.pZ (c9 l)) (enc k) G Q:=by
 rw[Ez,GI,hv];exact⟨vo l k,q⟩
def uD:da :=
 (bc (b5 (MX (aG @G (aG cK @d @g) @l) (aG @G (aG cK @d @l) @g))))
def jo:di:=λds G Q _=>∃(l:List (T2×T2)) (a b va vb:T2),ds=[.pZ (c9 l),enc a,enc b]/\(dM l a=some va/\dM l b=some vb)/\Q (.bl (decide (va=b)||decide (vb=a))) G
theorem CV(ds)(G)(Q)(h:jo ds G Q @f):uD (@f) @q (aJ 3 ds) G:=by
 obtain⟨l,a,b,va,vb,rfl,⟨ha,hb⟩,q⟩:=h;unfold uD;simp only[bc,b5,aJ,av,aF,ai,aq,aw,ay,ends,qz,aG,ak,ae,af];refine kZ ha (b7 (@c) ?_);simp only[ag,if_false,aC];by_cases h1:va=b
 .simp only[h1,decide_true,if_true];rw[h1] at q;simp only[decide_true,QH] at q;exact cF q
 .simp only[h1,decide_false,ag,if_false];refine kZ hb (b7 (@c) ?_);simp only[h1,decide_false,uv] at q;exact cF q
def rR:da :=
 (bc (b5 (aO jo (ah (aO jI (ah @d aA)) (ah (bJ (ah @g (ah @C aA))) (ah (bJ (ah @g (ah @s aA))) aA))))))
def ki:di:=λds G Q _=>∃(rows:Rows) (n:Int) (v0 v1:T2),ds=[@L,.int n]/\(rows.flatten.length<=500/\dM @O ⟨n,0⟩=some v0/\dM @O ⟨n,1⟩=some v1)/\Q (.bl (decide (v0=⟨n,1⟩)||decide (v1=⟨n,0⟩))) G
theorem B3(ds)(G)(Q)(h:ki ds G Q @f):rR (@f) @q (aJ 2 ds) G:=by
 obtain⟨rows,n,v0,v1,rfl,⟨hl,h0,h1⟩,q⟩:=h;unfold rR;simp only[bc,b5,aO,ah,ak,aJ,av,aF,ai,aq,aw,ay,ae,aA,bJ,af,dC,ends];exact⟨rows,rfl,hl,⟨@c,@c,_,⟨n,0⟩,⟨n,1⟩,v0,v1,rfl,⟨h0,h1⟩,cF q⟩⟩
def nY:da :=
 (aU (aS (aO gj (ah @d aA)) (aE 2))
 (c4 (ig @g) (aE 3) (bF (bX (aG (uN true) (ak 3) @l)) dJ aX)))
def dW:di:=λds G Q _=>∃(rows:Rows) (d:D) (ns:@I),ds=[@L,d]/\IsL G d (ns.map enc)/\(rows.flatten.length<64/\∀n∈ns,n∈@y)/\∀G',@w->Q .ff G'
theorem xG(ds)(G)(Q)(h:dW ds G Q @f):nY (@f) @q (aJ 4 ds) G:=by
 obtain⟨rows,d,ns,rfl,hd,⟨hl,hn⟩,q⟩:=h;unfold nY;simp only[ends,aJ,av,aF,ai,aq,aN,aw,ay,bT,aS,aO,ah,ak,ae,aA,aE,ao,aj];refine⟨rows,rfl,hl,λp hp=>?_⟩;have le:=cO.new (o:=.lst ((@y).map enc)) hp;simp only[c4,cq,ak,af,ae];refine Jo (hd.mono le) λok c8=>?_;refine cT (xs:=ns) (λpre τ G'=>ck G p (.lst ((@y).map enc))=G'/\∃a,τ=[@p,some d,@K,a]) ⟨rfl,_,rfl⟩ (λ_ _ G' h=>c8 G' (by rw[h.1];exact .refl _)) ?_ ?_
 .rintro pre n post τ G' N e ⟨rfl,a,rfl⟩ hN;simp only[aE,bF,ao,aj,aX,aY,aG,ak,af,ae];refine qo (x:=n) (xs:=@y) (@c) az ?_;have:n∈@y:=hn n (by rw[e];simp);simp only[this,decide_true,aK,if_true,aC,ag,if_false];exact hN _ _ ⟨rfl,_,rfl⟩
 .rintro τ G' ⟨rfl,a,rfl⟩;exact q _ le
def qI:da :=
 (bF (iG (bX @d)) dJ aX)
def iw:di:=λds G Q _=>∃b:Bool,ds=[.bl b]/\b=true/\Q .ff G
theorem zT(ds)(G)(Q)(h:iw ds G Q @f):qI (@f) @q (aJ 1 ds) G:=by
 obtain⟨b,rfl,rfl,q⟩:=h;unfold qI;simp only[bF,iG,aJ,av,aF,ai,aq,aw,ay,ends,aX,aY,ak,ae,aC,aK,ag,if_false];exact q
def uC:da :=
 (aU (aS (aO gj (ah @d aA)) (aE 2))
 (aU (bF (bX (aG Va (aG iK (gJ iL (ah @l aA)) (gJ iL (ah @g aA))) (dC (.int 12)))) dJ aX)
 (c4 (ig @g) (aE 3) (aU (bF (bX (aG (uN false) (ak 3) @l)) dJ aX)
 (bw (iZ pY du @l (ah (ak 3) aA)))))))
def iC:di:=λds G Q _=>∃(rows:Rows) (d:D) (ns:@I),ds=[@L,d]/\IsL G d (ns.map enc)/\(rows.flatten.length<64/\(@y).length+ns.length<=12/\ns.Nodup/\∀n∈ns,n∉@y)/\∀G',@w->Q .ff G'
theorem CU(ds)(G)(Q)(h:iC ds G Q @f):uC (@f) @q (aJ 4 ds) G:=by
 obtain⟨rows,d,ns,rfl,hd,⟨hl,hm,nd,hn⟩,q⟩:=h;unfold uC;simp only[ends,aJ,av,aF,ai,aq,aN,aw,ay,bT,aS,aO,ah,ak,ae,aA,aE,ao,aj];refine⟨rows,rfl,hl,λp hp=>?_⟩;have le:=cO.new (o:=.lst ((@y).map enc)) hp;have gp:=az (G:=G) (a:=p) (o:=.lst ((@y).map enc));have ZZ:d≠.ref p:=λe=>by
  rcases hd with e1 |⟨a,e1,e2⟩
  .rw[e] at e1;cases e1
  .rw[e] at e1;cases e1;rw[hp] at e2;cases e2
 generalize ck G p (.lst ((@y).map enc))=G1 at le gp ⊢;simp only[bZ,bF,aX,aY,aG,gJ,ah,ak,af,ae,aA,dC];refine d8 (.ref gp) (d8 (hd.mono le) ?_);simp only[ax,dN,lA,aC];have:¬ ((@y).length:Int)+(ns.length:Int)>12:=@e
 simp only[this,decide_false,ag,c4,cq,ak,af,ae,if_false];refine lF.KD hd le λok Sm=>?_;refine cT (xs:=ns) (λpre τ G'=>@w/\G' p=some (.lst ((@y++pre).map enc))/\∃a,τ=[@p,some d,@K,a]) ⟨le,by rw[bH];exact gp,_,rfl⟩ (λ_ _ G' h=>Sm G' h.1) ?_ ?_
 .rintro pre n post τ G' N e ⟨l,g,a,rfl⟩ hN;simp only[aE,ao,aj,bZ,bF,aX,bw,iZ,ak,af,ae,dU,ah,aA,cb,aY,aG];refine qo (x:=n) (xs:=@y++pre) (@c) g ?_;have h1:n∉@y++pre:=λz=>by
   rcases List.mem_append.mp z with z |z
   .exact hn n (by rw[e];simp) z
   .rw[e,eR] at nd;exact nd.2.2 n z n (aQ) rfl
  simp only[ag,h1,decide_false,aI,if_false,aC,g,true_and];refine⟨?_,hN _ _ ⟨l.put hp,?_,_,rfl⟩⟩
  .have:=congrArg cU e;simp at this;exact qY (by rw[ax,aM];lia)
  .rw[az,<-bM,aH (l₁:=@y++pre)];rfl
 .rintro τ G' ⟨l,g,a,rfl⟩;exact q _ l
theorem SO:∀{a a' b b':@i},Cf G R a a'->Cf G R b b'->Cf G R (a++b) (a'++b'):=by
 intro a a' b b' h1 h2;induction a generalizing a' with
 |nil=>cases h1;exact h2
 |cons x a ih=>cases h1 with |cons h t=>exact .cons h (ih t)
theorem Pe{α:Type} [@V] [Enc α]{xs:@H}{x:α}{G:Gp}{Q:DK}(hd:Enc.dep α<=7)(h:x∈xs)(q:Q (.int ((xs.idxOf x:Nat):Int)) G):oI (enc xs) [enc x] G Q:=by
 refine⟨trivial,xs.map enc,enc x,xs.map enc,rfl,Enc.sn _ _ _ (by unfold SN;lia),vg G 7 hd xs,?_⟩;rw[He xs h];exact q
theorem EI{α:Type}{R1 R2:@H}{r:α}{f:α->D}:mH ((R1++r::R2).map f) ((R1.length:Nat):Int)=some (f r):=by
 rw[eY _ (@e) (by rw[ax];simp;lia)];simp
theorem Gd(h:s∈bz rows 0):∃p∈rows.zipIdx 0,s∈bS p.1 (p.2:Int):=by
 cases Kc h with
 | «at» R1 R2 A B x e hx=>
  subst e hx;refine⟨(A++x::B,R1.length),by rw[qX,nR];simp,?_⟩;unfold bS;rw[if_neg @k];simp
 |mt R1 R2 e hx=>
  subst e hx;refine⟨([],R1.length),by rw[qX,nR];simp,?_⟩;unfold bS;rw[if_pos rfl];simp
theorem LO(d:rC rows)(h:s∈bz rows 0):∃(R1 R2:Rows) (r:@B) (k:Nat),rows=R1++r::R2/\Cw rows s=R1.length/\s∈bS r (R1.length:Nat)/\(bS r (R1.length:Nat)).idxOf s=k/\k<=r.length/\∀ps,jm s ps rows 0=R1++(r.take (k+1)++ps++r.drop (k+1))::R2:=by
 cases Kc h with
 | «at» R1 R2 A B x e hx=>
  subst e hx;have hi:(bS (A++x::B) (R1.length:Nat)).idxOf x.s=A.length:=by
   have nd:=d.row (r:=A++x::B) @k;have hn:x.s∉A.map T3.s:=λz=>by
    rw[aH,eR] at nd;exact nd.2.2 _ z _ aQ rfl
   unfold bS;rw[if_neg @k,aH,Dc,if_neg hn,av,yS];simp
  refine⟨R1,R2,A++x::B,A.length,rfl,Ka d,by unfold bS;rw[if_neg @k];simp,hi,by simp,λps=>?_⟩;rw[yu d];have e:A++x::B=(A++[x])++B:=by simp
  have hl:A.length+1=(A++[x]).length:=by simp
  rw[e,hl,JY,JZ];simp
 |mt R1 R2 e hx=>
  subst e hx;refine⟨R1,R2,[],0,rfl,Rj d,by unfold bS;rw[if_pos rfl];simp,by unfold bS;rw[if_pos rfl];simp,bb _,λps=>?_⟩;rw[yt d];simp
theorem XW(n d i:Nat):jl n d (some (i:Int))=min i n:=by
 show(if((i:Int)<0) then((i:Int)+(n:Int)).toNat else min (i:Int).toNat n)=_;rw[if_neg (@e)];simp
theorem K9(xs:@H)(i:Nat):cut xs none (some (i:Int))=xs.take i:=by
 unfold cut;rw[XW];show(xs.drop 0).take (min i xs.length-0)=_;rw[List.drop_zero,QX];exact List.take_eq_take_iff.mpr (@e)
theorem DT(xs:@H)(i:Nat):cut xs (some (i:Int)) none=xs.drop i:=by
 unfold cut;rw[XW];show(xs.drop (min i xs.length)).take (xs.length-min i xs.length)=_;rw[jc (by rw[cZ];lia)];by_cases h:i<=xs.length
 .rw[qe h]
 .rw[Nat.min_eq_right (@e),NH (@e),NH (@e)]
def yV:da :=
 (aU (aS (aO kj (ah @d (ah @g aA))) (aE 3))
 (aU (aS (gJ oA (ah @d aA)) (aE 4))
 (aU (aS (aG iK (iZ pY oI (aO jR (ah (aG cK (ak 4) (ak 3)) (ah (ak 3) aA))) (ah @g aA)) @s) (aE 5))
 (aU (aS (aG iK (aG iK (lT (aG cK (ak 4) (ak 3)) bU (gW (ak 5))) @l) (lT (aG cK (ak 4) (ak 3)) (gW (ak 5)) bU)) (q4 (ak 4) (ak 3)))
 (bc (b5 (ak 4)))))))
def iS:di:=λds G Q _=>∃(rows:Rows) (s:T2) (d:D) (ps:@B),ds=[@L,enc s,d]/\IsL G d (ps.map enc)/\(rC rows/\s∈bz rows 0/\rows.length<=500/\(∀r∈rows,r.length<=500)/\ps.length<=100)/\Q (enc (jm s ps rows 0)) G
theorem Hz(ds)(G)(Q)(h:iS ds G Q @f):yV (@f) @q (aJ 6 ds) G:=by
 obtain⟨rows,s,d,ps,rfl,hd,⟨dn,hs,hl,hr,hps⟩,q⟩:=h;obtain⟨R1,R2,r,k,e,es,hsr,hk,ZW,abn⟩:=LO dn hs;rw[abn] at q;unfold yV;simp only[ends,aJ,av,aF,ai,aq,aN,aw,ay,bT,aS,aO,ah,ak,ae,af,aA,aE,ao,aj,gJ,aG,iZ,dC,lT,bU,cM];refine⟨rows,s,rfl,⟨λr h=>by have:=hr r h;lia,Gd hs⟩,?_⟩;rw[es];simp only[b5,aJ,ends,aY,aG,rq,ak,gJ,iZ,ah,aA,bc,Hi,bw,aS,aE,dC,aX,bJ,cg,sU,mz,qA,sT,iG,ny,qz,pM,lT,cM,bU,cq,eQ,aO,eK,dN,sk,jv,ng,iW,mY,cV,iE,fx,tJ,wJ,lA,wL,bG,mZ,fH,wI,lz,pQ,pP,pO,cb,jW,jV,iA,dU,qi,vX,vW,true_and,and_true,w8,tO,b8,aC,dI,pE,w6,pD,av,aF,aw,ay,ae,af,aj,ao,ai,aq,aN,if_true,if_false,aK,aI,ag,bT,cN];refine BY (IsL.enc rows) λp4 SG=>?_;have l1:=cO.new (o:=.lst (rows.map enc)) SG;have g4:=az (G:=G) (a:=p4) (o:=.lst (rows.map enc));generalize ck G p4 (.lst (rows.map enc))=G1 at l1 g4 ⊢;subst e;have SF:=hr r @k;refine dS (.ref g4) EI ?_;refine⟨r,_,rfl,(show r.length<=1000 by lia),?_⟩;refine⟨trivial,Pe (@c) hsr ?_⟩;rw[hk];simp only[dN,b8];have ek:((k:Nat):Int)+1=((k+1:Nat):Int):=@e
 rw[ek];refine dS (.ref g4) EI ?_;refine lW (IsL.enc r) λp1 TY=>?_;rw[K9,<-uo];have l2:=cO.new (o:=.lst ((r.take (k+1)).map enc)) TY;refine qp (.ref az) (hd.mono (l1.trans l2)) (Cn (by simp only[ax,cz];lia)) λp2 oq=>?_;have l3:=cO.new (o:=.lst ((r.take (k+1)).map enc++ps.map enc)) oq;refine dS (.ref (l3 _ _ (l2 _ _ g4))) EI ?_;refine lW (IsL.enc r) λp3 GN=>?_;rw[DT,<-ur];have l4:=cO.new (o:=.lst ((r.drop (k+1)).map enc)) GN;refine qp (.ref (l4 _ _ az)) (.ref az) (Cn (by simp only[aM,ax,cz,cZ];lia)) λp5 Nt=>?_;have e5:(r.take (k+1)).map enc++ps.map enc++(r.drop (k+1)).map enc=(r.take (k+1)++ps++r.drop (k+1)).map (enc (α:=T3)):=by simp
 rw[e5];generalize r.take (k+1)++ps++r.drop (k+1)=r' at q ⊢;have l5:=cO.new (o:=.lst (r'.map enc)) Nt;have g5:=az (G:=ck (ck (ck G1 p1 (.lst ((r.take (k+1)).map enc))) p2 (.lst ((r.take (k+1)).map enc++ps.map enc))) p3 (.lst ((r.drop (k+1)).map enc))) (a:=p5) (o:=.lst (r'.map enc));have l15:=((l2.trans l3).trans l4).trans l5;have kO:p5≠p4:=by
  rintro rfl;rw[((l2.trans l3).trans l4) _ _ g4] at Nt;cases Nt
 have hf5:G p5=none:=(l1.trans ((l2.trans l3).trans l4)).free Nt;generalize ck (ck (ck (ck G1 p1 (.lst ((r.take (k+1)).map enc))) p2 (.lst ((r.take (k+1)).map enc++ps.map enc))) p3 (.lst ((r.drop (k+1)).map enc))) p5 (.lst (r'.map enc))=G5 at l15 g5 ⊢;simp only[q4,ak,af,ae,bc,b5];unfold Gi;simp only[l15 _ _ g4];have ei:HY ((R1++r::R2).map (enc (α:=@B))).length ((R1.length:Nat):Int)=some R1.length:=by
  unfold HY;rw[if_pos (@e),if_pos (by rw[ax];simp;lia)];simp
 simp only[ei];have e6:((R1++r::R2).map enc).set R1.length (.ref p5)=R1.map enc++D.ref p5::R2.map enc:=by
  rw[aH,av];have:R1.length=(R1.map (enc (α:=@B))).length:=by rw[ax]
  rw[this,List.set_append_right _ _ (bb _)];simp
 rw[e6];have hle:cO G (ck G5 p4 (.lst (R1.map enc++D.ref p5::R2.map enc))):=(l1.trans l15).put SG;have q':Q (.dR (R1.map enc++D.dR (r'.map enc)::R2.map enc)) G:=by
  have:(enc (R1++r'::R2):D)=.dR (R1.map enc++D.dR (r'.map enc)::R2.map enc):=by rw[P4,aH];rfl
  rw[<-this];exact q
 refine ES hle SG az (SO (Cf.same _) (.cons (.ref ?_ ?_ (Cf.same _)) (Cf.same _))) q'
 .rw[dm kO];exact g5
 .simp[hf5]
theorem Kh{α:Type} [@V] [Enc α]{neg:Bool}{x:α}{xs:@H}{d:D}{G:Gp}{Q:DK}(hd:Enc.dep α<=7)(h:IsL G d (xs.map enc))(q:Q (.bl (if neg then !decide (x∈xs) else decide (x∈xs))) G):uN neg (enc x) d G Q:=by
 rcases h with rfl |⟨a,rfl,e⟩
 .exact jF hd q
 .exact qo hd e q
def wc:da :=
 (aU (aS (cg aA) (aE 2))
 (aU (c4 (ig @d) (aE 3) (bw (iZ pY du @l (ah (b5 (eK 1 [1] (ig (ak 3)) (aE 0) (some (bX (aG (uN true) (aG cK @d @C) @g))) @d)) aA))))
 (bc (b5 (aO bA (ah (b5 @l) aA))))))
def mi:di:=λds G Q _=>∃(rows:Rows) (d:D) (ns:@I),ds=[@L,d]/\IsL G d (ns.map enc)/\(rows.length<=500/\∀r∈rows,r.length<=500)/\∀p as G',HR G G' p as ((i6 ns rows).map bR)->Q (.ref p) G'
theorem Fi(ds)(G)(Q)(h:mi ds G Q @f):wc (@f) @q (aJ 4 ds) G:=by
 obtain⟨rows,d,ns,rfl,hd,⟨hl,hr⟩,q⟩:=h;unfold wc;simp only[ends,aJ,av,aF,ai,aq,aN,aw,ay,bT,aS,cg,aA,aE,ao,aj];refine⟨@c,λp hp=>?_⟩;refine bp (λτ G'=>@w/\G' p=some (.lst ((i6 ns rows).map enc))/\∃a,τ=[@p,some d,@K,a]) ?_ ?_
 .intro N hN;simp only[c4,cq,ak,ae];refine dZ ?_;refine cT (xs:=rows) (λpre τ G'=>@w/\G' p=some (.lst ((i6 ns pre).map enc))/\∃a,τ=[@p,some d,@K,a]) ⟨.new hp,az,_,rfl⟩ @Y ?_ ?_
  .rintro pre r post τ G' N2 e ⟨l,g,a,rfl⟩ nP;have SF:=hr r (by rw[e];simp);have fX:pre.length<rows.length:=by have:=congrArg cU e;simp at this;lia
   simp only[aE,bw,iZ,ak,ao,aj,af,ae,dU,g,ah,b5,eK,aA,cb,cq,true_and];refine dZ ⟨Cn (by rw[ax];lia),?_⟩;refine gX (xs:=r) (λpr acc τ G2=>G'=G2/\acc=(pr.filter λp=>!decide (p.a∈ns)).map enc/\∃b,τ=[b,some d]) ⟨rfl,rfl,_,rfl⟩ (λ_ _ _ _ _=>trivial) ?_ ?_
   .rintro pr t po acc τ G2 N3 e3 ⟨rfl,rfl,b,rfl⟩ vP;simp only[aE,iY,aj,ak,ae,aY,aG,dC,af,bG,rB];refine Kh (x:=t.a) (@c) (hd.mono l) ?_;simp only[if_true,aC];by_cases ht:t.a∈ns
    .simp only[ht,decide_true,aK,ag,if_false];exact vP _ _ _ ⟨rfl,by rw[bC];simp[ht],_,rfl⟩
    .simp only[ht,decide_false,aI,if_true];exact vP _ _ _ ⟨rfl,by rw[bC,aH];simp[ht,iY],_,rfl⟩
   .rintro acc τ G2 ⟨rfl,rfl,b,rfl⟩ p2 oq;refine ij (xs:=r.filter λp=>!decide (p.a∈ns)) (.new oq) oq az ?_;simp only[g];refine⟨qY (by rw[ax];unfold i6;rw[ax];lia),nP _ _ ⟨l.put hp,?_,_,rfl⟩⟩;rw[az];unfold i6;rw[aH,aH];rfl
  .rintro τ G' ⟨l,g,a,rfl⟩;exact hN _ _ ⟨l,g,a,rfl⟩
 .rintro _ G' ⟨l,g,a,rfl⟩;simp only[bc,b5,aO,ah,ak,af,ae,aA];refine ij (xs:=i6 ns rows) l hp g ?_;refine⟨i6 ns rows,rfl,⟨by unfold i6;rw[ax];lia,λr h=>?_⟩,λp' as G2 hr2=>cF (q p' as G2 hr2)⟩;obtain⟨r',Px,rfl⟩:=List.mem_map.mp h;have:=hr r' Px;have h2:=gZ (λp:T3=>!decide (p.a∈ns)) r';lia
end Mo
namespace Mo
open K2.P
open K2.nQ (bR)
open K2.lF (HR)
open K2.rh (kH)
open K2.tm (bA)
def Hv(i:Nat)(gone:List T2)(L:@B):T2:=(((L.map T3.s).filter λs=>!decide (s∈gone)).getLast?).getD ⟨(i:Int),2⟩
def uA:da :=
 (aU (aS (aO kj (ah @d (ah @g aA))) (aE 3))
 (aU (aS (aO jR (ah (aG cK @d (ak 3)) (ah (ak 3) aA))) (aE 4))
 (aU (aS (iZ pY oI (ak 4) (ah @g aA)) (aE 5))
 (aU (aS (eK 1 [2] (ig (aG iK (lT (ak 4) (gW (ak 5)) bU) (lT (ak 4) bU (gW (ak 5))))) (aE 0) (some (bX (aG (uN true) @d @g))) @d) (aE 6))
 (aU (bF (iG (bX (ak 6))) (bc (b5 (bJ (ah (ak 3) (ah @N aA))))) aX)
 (bc (b5 (aG cK (ak 6) (rq vi @s)))))))))
def jn:di:=λds G Q _=>∃(R1 R2:Rows) (r T:@B) (f:T3) (d:D) (gone:List T2),ds=[enc (R1++r::R2),enc f.s,d]/\IsL G d (gone.map enc)/\(rC (R1++r::R2)/\gb (f::T) r/\∀x∈R1++r::R2,x.length<=500)/\Q (enc (Hv R1.length gone (f::T))) G
theorem X0(r)(k):(kH r k).map T3.s=(r.map T3.s).drop k++(r.map T3.s).take k:=by unfold kH;rw[aH,ur,uo]
theorem CS(ds)(G)(Q)(h:jn ds G Q @f):uA (@f) @q (aJ 7 ds) G:=by
 obtain⟨R1,R2,r,T,f,d,gone,rfl,hd,⟨dn,ro,hl⟩,q⟩:=h;have T4:f∈r:=ro.perm.mem_iff.mpr aQ;obtain⟨A,B,er⟩:=eD T4;have SF:=hl r @k;have kO:r≠[]:=List.ne_nil_of_mem T4;have EN:f.s∈bz (R1++r::R2) 0:=ve (by rw[cS];simp[T4]);have w9:Cw (R1++r::R2) f.s=R1.length:=by rw[er] at dn ⊢;exact Ka dn
 have hso:bS r ((R1.length:Nat):Int)=r.map T3.s:=by unfold bS;rw[if_neg kO]
 have hu:=ro.uniq (dn.row @k);unfold uA;simp only[ends,aJ,av,aF,ai,aq,aN,aw,ay,bT,aS,aO,ah,ak,ae,af,aA,aE,ao,aj,aG,iZ,eK,cq,lT,bU,cM];refine⟨_,f.s,rfl,⟨λx h=>by have:=hl x h;lia,Gd EN⟩,?_⟩;rw[w9];refine dS (IsL.enc _) EI ?_;refine⟨r,_,rfl,(show r.length<=1000 by lia),?_⟩;rw[hso];simp only[b5,aJ,ends,aY,aG,rq,ak,gJ,iZ,ah,aA,bc,Hi,bw,aS,aE,dC,aX,bJ,cg,sU,mz,qA,sT,iG,ny,qz,pM,lT,cM,bU,cq,eQ,aO,eK,dN,sk,jv,ng,iW,mY,cV,iE,fx,tJ,wJ,lA,wL,bG,mZ,fH,wI,lz,pQ,pP,pO,cb,jW,jV,iA,dU,qi,vX,vW,true_and,and_true,w8,tO,b8,aC,dI,pE,w6,pD,av,aF,aw,ay,ae,af,aj,ao,ai,aq,aN,if_true,if_false,aK,aI,ag,bT,cN];refine⟨trivial,Pe (@c) (List.mem_map.mpr ⟨f,T4,rfl⟩) ?_⟩;generalize hk:(r.map T3.s).idxOf f.s=k at hu ⊢;simp only[b8];refine lW (IsL.enc (r.map T3.s)) λp1 TY=>?_;rw[DT,<-ur];have l1:=cO.new (o:=.lst (((r.map T3.s).drop k).map enc)) TY;refine lW (IsL.enc (r.map T3.s)) λp2 oq=>?_;rw[K9,<-uo];have l2:=cO.new (o:=.lst (((r.map T3.s).take k).map enc)) oq;refine qp (.ref (l2 _ _ az)) (.ref az) (Cn (by simp only[ax,cZ,cz];lia)) λp3 GN=>?_;have e3:((r.map T3.s).drop k).map enc++((r.map T3.s).take k).map enc=((f::T).map T3.s).map (enc (α:=T2)):=by rw[<-aH,<-X0,hu]
 rw[e3];have l3:=cO.new (o:=.lst (((f::T).map T3.s).map enc)) GN;have L:=(l1.trans l2).trans l3;have g3:=az (G:=ck (ck G p1 (.lst (((r.map T3.s).drop k).map enc))) p2 (.lst (((r.map T3.s).take k).map enc))) (a:=p3) (o:=.lst (((f::T).map T3.s).map enc));generalize ck (ck (ck G p1 (.lst (((r.map T3.s).drop k).map enc))) p2 (.lst (((r.map T3.s).take k).map enc))) p3 (.lst (((f::T).map T3.s).map enc))=G3 at L g3 ⊢;rw[Av g3];have hlen:((f::T).map T3.s).length<=1000:=by rw[ax,<-ro.perm.length_eq];lia
 refine⟨Cn (by rw[ax];exact hlen),?_⟩;refine gX (xs:=(f::T).map T3.s) (λpre acc τ G2=>G3=G2/\acc=(pre.filter λs=>!decide (s∈gone)).map enc/\∃b,τ=[b,some d]) ⟨rfl,rfl,_,rfl⟩ (λ_ _ _ _ h=>by rw[<-h.1];exact g3) ?_ ?_
 .rintro pre s post acc τ G2 N e ⟨rfl,rfl,b,rfl⟩ hN;simp only[aE,aj,ak,ae,aY,aG,af];refine Kh (x:=s) (@c) (hd.mono L) ?_;simp only[if_true,aC];by_cases ht:s∈gone
  .simp only[ht,decide_true,aK,ag,if_false];exact hN _ _ _ ⟨rfl,by rw[bC];simp[ht],_,rfl⟩
  .simp only[ht,decide_false,aI,if_true];exact hN _ _ _ ⟨rfl,by rw[bC,aH];simp[ht],_,rfl⟩
 .rintro acc τ G2 ⟨rfl,rfl,b,rfl⟩ p4 SG;have l4:=cO.new (o:=.lst ((((f::T).map T3.s).filter λs=>!decide (s∈gone)).map enc)) SG;have g4:=az (G:=G3) (a:=p4) (o:=.lst ((((f::T).map T3.s).filter λs=>!decide (s∈gone)).map enc));have L4:=L.trans l4;unfold Hv at q;generalize ((f::T).map T3.s).filter (λs=>!decide (s∈gone))=left at q l4 g4 L4 ⊢;generalize ck G3 p4 (.lst (left.map enc))=G4 at g4 L4 ⊢;simp only[bZ,bF,iG,bc,b5,bJ,ah,ak,af,ae,dC,aA,ai,aq,aX,aG,rq,fx,aY,Di g4];cases KH:left with
  |nil=>
   rw[KH] at q;simp only[aF,u7,aK,aI,if_true];exact⟨@c,jb L4 q⟩
  | cons a t=>
   rw[KH] at q;simp only[av,tF,aI,aK,ag,if_false];rw[KH] at g4;have hln:((a::t).map (enc (α:=T2))).length=t.length+1:=by simp
   refine dS (.ref g4) (x:=enc ((a::t).getLast @k)) ?_ ?_
   .unfold mH HY;rw[hln,if_neg (@e),if_pos (@e)];have:(-1+((t.length+1:Nat):Int)).toNat=t.length:=@e
    rw[this];show((a::t).map enc)[t.length]?=_;rw[dB,List.getLast_eq_getElem,bo @k];simp
   .rw[List.getLast?_eq_some_getLast (by simp:a::t≠[])] at q;exact jb L4 q
end Mo
namespace Mo
open K2.P
open K2.nQ (bR)
open K2.rh (kH Ro kG mS)
open K2.tm (ib nW mT nX dE eP fG b6)
theorem gb.begun(h:gb (M++[x]) (A++x::B))(nd:((A++x::B).map T3.s).Nodup):M=B++A:=by
 have h1:gb (x::M) (A++x::B):=gb.trans (gb.app [x] M) h;have h2:gb (x::(B++A)) (A++x::B):=gb.of (u:=x::B) (v:=A) @k @k;have e:=(h1.uniq nd).symm.trans (h2.uniq nd);injection e
theorem Er(h:gb r x):Ro (R1++r::R2) (R1++x::R2):=by
 induction R1 with
 |nil=>exact .cons h (dE R2)
 |cons a R1 ih=>exact .cons (show gb a a from .refl a) ih
theorem SS(h1:∀p∈R1.flatten,p.a∉ns)(h2:∀p∈R2.flatten,p.a∉ns):i6 ns (R1++r::R2)=R1++r.filter (λp=>!decide (p.a∈ns))::R2:=by
 have go:∀R:Rows,(∀p∈R.flatten,p.a∉ns)->R.map (pX λp=>!decide (p.a∈ns))=R:=λR h=>by
  have:R.map (pX λp=>!decide (p.a∈ns))=R.map id:=dh λr hr=>tS λp hp=>h p (List.mem_flatten.mpr ⟨r,hr,hp⟩);rw[this,uq]
 unfold i6;rw[aH,av,go R1 h1,go R2 h2]
theorem O0(nd:((R1++r::R2).flatten.map T3.s).Nodup):(∀p∈R1.flatten,∀q∈r,p.s≠q.s)/\∀p∈R2.flatten,∀q∈r,p.s≠q.s:=by
 rw[cS,aH,aH] at nd;have n1:=List.nodup_append.mp nd;have n2:=List.nodup_append.mp n1.2.1;exact⟨λp hp q hq e=>n1.2.2 _ (List.mem_map.mpr ⟨p,hp,rfl⟩) _ (ee _ (List.mem_map.mpr ⟨q,hq,e.symm⟩)) rfl,λp hp q hq e=>n2.2.2 _ (List.mem_map.mpr ⟨q,hq,rfl⟩) _ (List.mem_map.mpr ⟨p,hp,e⟩) rfl⟩
theorem Wx(d:rC rows):rC (i6 ns rows):=by
 have sub:∀rows:Rows,(i6 ns rows).flatten=rows.flatten.filter (λp=>!decide (p.a∈ns)):=by
  intro rows;induction rows with
  |nil=>rfl
  |cons r rows ih=>
   show(r.filter _++(i6 ns rows).flatten)=_;rw[ih,br,bC]
 refine⟨?_,λp hp=>?_⟩
 .rw[sub];exact Ls ((List.filter_sublist).map _) d.nd
 .rw[sub] at hp;exact d.way p (List.mem_filter.mp hp).1
theorem OV(d:rC (R1++r::R2))(ro:gb (⟨n,f,h⟩::⟨n,1-f,h⟩::M) r)(hf:f=0\/f=1):(∀p∈R1.flatten,p.a∉[n])/\∀p∈R2.flatten,p.a∉[n]:=by
 have nm:=O0 d.nd;have y1:(⟨n,f,h⟩:T3)∈r:=ro.perm.mem_iff.mpr aQ;have y2:(⟨n,1-f,h⟩:T3)∈r:=ro.perm.mem_iff.mpr (aP _ aQ);have go:∀p:T3,(p.b=0\/p.b=1)->(∀q∈r,p.s≠q.s)->p.a∉[n]:=λp hb hq z=>by
  have z:=List.mem_singleton.mp z;have:p.b=f\/p.b=1-f:=@e
  rcases this with e |e
  .exact hq _ y1 (show(⟨p.a,p.b⟩:T2)=⟨n,f⟩ by rw[z,e])
  .exact hq _ y2 (show(⟨p.a,p.b⟩:T2)=⟨n,1-f⟩ by rw[z,e])
 exact⟨λp hp=>go p (d.way p (by rw[cS];simp[hp])) (nm.1 p hp),λp hp=>go p (d.way p (by rw[cS];simp[hp])) (nm.2 p hp)⟩
theorem WC(d:rC rows)(c:Cu rows n s ⟨n,f,h⟩ ⟨n,1-f,h⟩)(hf:f=0\/f=1):s∈bz (i6 [n] rows) 0/\Ro (jm s (cps n f h) (i6 [n] rows) 0) rows:=by
 obtain⟨R1,R2,r,M,e,ro,hM,hn⟩:=c.ex;subst e;obtain⟨o1,o2⟩:=OV d ro hf;have dF:=Wx (ns:=[n]) d;rw[SS o1 o2] at dF ⊢;have Rv:gb M (r.filter λp=>!decide (p.a∈[n])):=by
  have h1:=ro.S0 (f:=λp:T3=>!decide (p.a∈[n]));have e1:(⟨n,f,h⟩::⟨n,1-f,h⟩::M:@B).filter (λp=>!decide (p.a∈[n]))=M:=by
   rw[d0 @k,d0 @k];exact tS λp hp z=>hn p hp (List.mem_singleton.mp z)
  rw[e1] at h1;exact h1
 generalize r.filter (λp=>!decide (p.a∈[n]))=r' at Rv dF ⊢;rcases hM with ⟨rfl,hs⟩ |⟨M',x,rfl,hs⟩
 .rw[Rv.nil] at dF ⊢;refine⟨?_,?_⟩
  .rw[mM,bz,hs];unfold bS;simp
  .rw[hs,yt dF];exact Er ro
 .have hx:x∈r':=Rv.perm.mem_iff.mpr @k;obtain⟨A,B,rfl⟩:=eD hx;subst hs;refine⟨ve (by rw[cS];simp),?_⟩;rw[yu dF];have eM:=Rv.begun (dF.row @k);subst eM;refine Er (gb.trans ?_ ro);exact .of (u:=A++[x]) (v:=⟨n,f,h⟩::⟨n,1-f,h⟩::B) (by simp[cps]) @k
end Mo
namespace Mo
open K2.P
open K2.nQ (bR)
open K2.lF (HR)
open K2.rh (kH Ro)
open K2.tm (bA dE)
theorem qu(h:HR G1 G' p as rs)(l:cO G G1):HR G G' p as rs :=
 ⟨l.trans h.le,l.free h.fp,h.gp,h.np,h.nd,λa ha=>l.free (h.fr a ha),h.len,h.at'⟩
theorem gV(d:@J):rows.length<=500/\(∀r∈rows,r.length<=500)/\rows.flatten.length<64:=by
 have:=d.zm;have h3:=d.str;refine⟨@e,λr hr=>?_,@e⟩;have:=lF.gT hr;lia
structure UnF(rows:Rows)(n:Int)(v0 v1:T2):Prop where
 len:rows.flatten.length<64
 nm:n∈@y
 h0:dM @O ⟨n,0⟩=some v0
 h1:dM @O ⟨n,1⟩=some v1
 ft:v0=⟨n,1⟩\/v1=⟨n,0⟩
def oW:da :=
 (aU (bw (aO dW (ah @g (ah (cg (ah (bh ["Uncurl"] "name" @d) aA)) aA))))
 (bw (aO iw (ah (aO ki (ah @g (ah (bh ["Uncurl"] "name" @d) aA))) aA))))
def fK:di:=λds G Q _=>∃(p:Nat) (n:Int) (rows:Rows) (v0 v1:T2),ds=[.ref p,@L]/\zH G p (.un n)/\UnF rows n v0 v1/\∀G',@w->Q .ff G'
theorem yL(ds)(G)(Q)(h:fK ds G Q @f):oW (@f) @q (aJ 2 ds) G:=by
 obtain⟨p,n,rows,v0,v1,rfl,g,u,q⟩:=h;have hlen:=u.len;unfold oW;simp only[ends,aJ,av,aF,ai,aq,aw,ay,cN,bw,aO,ah,ak,af,ae,cg,bh,aA];refine at_ g ⟨@c,λpl fX=>?_⟩;refine⟨rows,_,[n],rfl,.ref az,⟨u.len,λm hm=>by rw[List.mem_singleton.mp hm];exact u.nm⟩,λG1 l1=>?_⟩;have L:=(cO.new fX).trans l1;refine at_ (L _ _ g) ?_;refine⟨rows,n,v0,v1,rfl,⟨@e,u.h0,u.h1⟩,_,rfl,?_,q _ L⟩;rw[dQ,decide_eq_true_iff,decide_eq_true_iff];exact u.ft
def se:da :=
 (aU (bw (cW [("Uncurl",fK)] "refuse" @d (ah @g aA)))
 (bc (b5 (aO mi (ah @g (ah (cg (ah (bh ["Uncurl"] "name" @d) aA)) aA))))))
def eN:di:=λds G Q _=>∃(p:Nat) (n:Int) (rows:Rows) (v0 v1:T2),ds=[.ref p,@L]/\zH G p (.un n)/\(UnF rows n v0 v1/\rows.length<=500)/\∀q as G',HR G G' q as ((i6 [n] rows).map bR)->Q (.ref q) G'
theorem Ca(ds)(G)(Q)(h:eN ds G Q @f):se (@f) @q (aJ 2 ds) G:=by
 obtain⟨p,n,rows,v0,v1,rfl,g,⟨u,hl⟩,q⟩:=h;have hlen:=u.len;unfold se;simp only[ends,aJ,av,aF,ai,aq,aw,ay,cN,bw,cW,ak,ae,ah,af,aA,bc,b5,aO,cg,bh];refine⟨p,_,_,fK,rfl,g,@ag,rfl,⟨p,n,rows,v0,v1,rfl,g,u,λG1 l1=>?_⟩⟩;refine at_ (l1 _ _ g) ⟨@c,λpl fX=>?_⟩;refine⟨rows,_,[n],rfl,.ref az,⟨hl,λr hr=>by have:=lF.gT hr;lia⟩,λp' as G' hr=>cF (q p' as G' (qu hr (l1.trans (.new fX))))⟩
def sf:da :=
 (aU (bw (cW [("Uncurl",fK)] "refuse" @d (ah @g aA)))
 (aU (aS (bJ (ah (bh ["Uncurl"] "name" @d) (ah @C aA))) (aE 2))
 (aU (aS (bJ (ah (bh ["Uncurl"] "name" @d) (ah @s aA))) (aE 3))
 (aU (aS (E9 (bX (aG @G (aG cK (aO jI (ah @g aA)) @l) (ak 3))) @l (ak 3)) (aE 4))
 (aU (aS (aO jn (ah @g (ah (ak 4) (ah (cg (ah @l (ah (ak 3) aA))) aA)))) (aE 5))
 (bc (b5 (gv "Curl" gR (ah (bh ["Uncurl"] "name" @d) (ah (ak 5) (ah (aG cK (ak 4) @s) (ah (aO fQ (ah @g (ah (bh ["Uncurl"] "name" @d) aA))) aA))))))))))))
def iT:di:=λds G Q _=>∃(p:Nat) (rows:Rows) (n f h:Int) (s:T2),ds=[.ref p,@L]/\zH G p (.un n)/\(@J/\(f=0\/f=1)/\Cu rows n s ⟨n,f,h⟩ ⟨n,1-f,h⟩)/\∀f' q G',(f'=0\/f'=1)->Cu rows n s ⟨n,f',h⟩ ⟨n,1-f',h⟩->@w->G q=none->zH G' q (.cu n s f' h)->Q (.ref q) G'
theorem JE(d:@J)(hf:f=0\/f=1)(c:Cu rows n s ⟨n,f,h⟩ ⟨n,1-f,h⟩):∃v0 v1,UnF rows n v0 v1:=by
 obtain⟨R1,R2,r,M,e,ro,hM,hn⟩:=c.ex;subst e;have nx1:=gr d ro;have y1:(⟨n,f,h⟩:T3)∈r:=ro.perm.mem_iff.mpr aQ;have y2:(⟨n,1-f,h⟩:T3)∈r:=ro.perm.mem_iff.mpr (aP _ aQ);have iny:(⟨n,f,h⟩:T3)∈(R1++r::R2).flatten:=by rw[cS];simp[y1]
 have inz:(⟨n,1-f,h⟩:T3)∈(R1++r::R2).flatten:=by rw[cS];simp[y2]
 obtain⟨w,hw,_⟩:=PN inz;have nx2:=(IX d hw).1;rw[<-Bc d] at nx2;have hlen:=(gV d).2.2;rcases hf with rfl |rfl
 .exact⟨_,_,hlen,d4.mpr ⟨_,iny,rfl,rfl⟩,nx1,nx2,@E⟩
 .exact⟨_,_,hlen,d4.mpr ⟨_,inz,rfl,rfl⟩,nx2,nx1,.inr rfl⟩
theorem WQ(hg:∀t:T2,t∈gone↔t=⟨n,f⟩\/t=⟨n,1-f⟩)(hM:(M=[]/\s=⟨(i:Nat),2⟩)\/∃M' x,M=M'++[x]/\x.s=s)(hn:∀p∈M,p.a≠n):Hv i gone (⟨n,f,h⟩::⟨n,1-f,h⟩::M)=s:=by
 have e:((⟨n,f,h⟩::⟨n,1-f,h⟩::M:@B).map T3.s).filter (λt=>!decide (t∈gone))=M.map T3.s:=by
  have g1:(⟨n,f,h⟩:T3).s∈gone:=(hg _).mpr (@E);have g2:(⟨n,1-f,h⟩:T3).s∈gone:=(hg _).mpr (.inr rfl);rw[av,av,d0 (by simpa using g1),d0 (by simpa using g2)];refine List.filter_eq_self.mpr λt ht=>?_;obtain⟨p,hp,rfl⟩:=List.mem_map.mp ht;have:p.s∉gone:=λz=>by
   rcases(hg _).mp z with e |e
   .exact hn p hp (congrArg T2.a e)
   .exact hn p hp (congrArg T2.a e)
  simpa using this
 unfold Hv;rw[e];rcases hM with ⟨rfl,rfl⟩ |⟨M',x,rfl,rfl⟩
 .rfl
 .rw[aH];simp
theorem Cb(ds)(G)(Q)(h:iT ds G Q @f):sf (@f) @q (aJ 6 ds) G:=by
 obtain⟨p,rows,n,f,h,s,rfl,g,⟨d,hf,c⟩,q⟩:=h;obtain⟨v0,v1,u⟩:=JE d hf c;obtain⟨EO,Aw,zk⟩:=gV d;have YR:∃p∈rows.flatten,p.a=n/\p.c=h:=by
  obtain⟨R1,R2,r,M,e,ro,_⟩:=c.ex;subst e;exact⟨⟨n,f,h⟩,by rw[cS];simp[ro.perm.mem_iff],rfl,rfl⟩
 obtain⟨ph,hph,ea,ec⟩:=YR;have hho:handOf rows n=h:=by rw[<-ea,gK d hph,ec]
 unfold sf
 let S:Option D->ik:=λx=>[@K,@p,some (enc (⟨n,0⟩:T2)),some (enc (⟨n,1⟩:T2)),x,none]
 let X:Int->Prop:=λf'=>∃(R1 R2:Rows) (r M:@B),rows=R1++r::R2/\gb (⟨n,f',h⟩::⟨n,1-f',h⟩::M) r/\((M=[]/\s=⟨(R1.length:Nat),2⟩)\/∃M' x,M=M'++[x]/\x.s=s)/\∀p∈M,p.a≠n
 refine bp (λτ G'=>@w/\τ=[@K,@p,none,none,none,none]) ?_ ?_
 .intro N hN;simp only[bw,cW,ak,aJ,av,aF,ai,aq,aN,aw,ay,ae,ah,af,aA];exact⟨p,_,_,fK,rfl,g,@ag,rfl,⟨p,n,rows,v0,v1,rfl,g,u,λG1 l1=>hN _ _ ⟨l1,rfl⟩⟩⟩
 rintro _ G1 ⟨l1,rfl⟩;have g1:=l1 _ _ g;refine bp (λτ G'=>G1=G'/\τ=[@K,@p,some (enc (⟨n,0⟩:T2)),none,none,none]) ?_ ?_
 .intro N hN;simp only[aS,bJ,ah,bh,ak,ae,dC,aA,ai,aq,aE,ao,aj];exact at_ g1 ⟨@c,hN _ _ @R⟩
 rintro _ _ ⟨rfl,rfl⟩;refine bp (λτ G'=>G1=G'/\τ=S none) ?_ ?_
 .intro N hN;simp only[aS,bJ,ah,bh,ak,ae,dC,aA,ai,aq,aE,ao,aj];exact at_ g1 ⟨@c,hN _ _ @R⟩
 rintro _ _ ⟨rfl,rfl⟩;refine bp (λτ G'=>G1=G'/\∃f',(f'=0\/f'=1)/\X f'/\τ=S (some (enc (⟨n,f'⟩:T2)))) ?_ ?_
 .intro N hN;simp only[aS,aE,ao,aj,S];refine⟨rows,rfl,@e,?_⟩;obtain⟨R1,R2,r,M,e,ro,hM,hn⟩:=c.ex;have d':Dr (R1++r::R2):=by rw[<-e];exact d
  simp only[ak,af,ae];rcases hf with rfl |rfl
  .refine kZ (k:=(⟨n,0⟩:T2)) (v:=(⟨n,1⟩:T2)) (by rw[e];exact gr d' ro) ?_;refine b7 (x:=(⟨n,1⟩:T2)) (y:=(⟨n,1⟩:T2)) (@c) ?_;simp only[ag,decide_true,aK,if_false];exact hN _ _ ⟨rfl,0,@E,⟨R1,R2,r,M,e,ro,hM,hn⟩,rfl⟩
  .cases M with
   |nil=>
    have IF:gb [⟨n,0,h⟩,⟨n,1,h⟩] r:=gb.trans (gb.app [⟨n,0,h⟩] [⟨n,1,h⟩]) ro;refine kZ (k:=(⟨n,0⟩:T2)) (v:=(⟨n,1⟩:T2)) (by rw[e];exact gr d' IF) ?_;refine b7 (x:=(⟨n,1⟩:T2)) (y:=(⟨n,1⟩:T2)) (@c) ?_;simp only[ag,decide_true,aK,if_false];refine hN _ _ ⟨rfl,0,@E,⟨R1,R2,r,[],e,IF,?_,λp hp=>by cases hp⟩,rfl⟩;rcases hM with h |⟨M',x,e,_⟩
    .exact .inl h
    .cases M'<;>cases e
   |cons m M=>
    have IF:gb (⟨n,0,h⟩::m::(M++[⟨n,1,h⟩])) r:=gb.trans (gb.of (u:=⟨n,0,h⟩::m::M) (v:=[⟨n,1,h⟩]) @k @k) ro;refine kZ (k:=(⟨n,0⟩:T2)) (v:=m.s) (by rw[e];exact gr d' IF) ?_;refine b7 (x:=m.s) (y:=(⟨n,1⟩:T2)) (@c) ?_;have:m.s≠⟨n,1⟩:=λz=>hn m aQ (congrArg T2.a z);simp only[ag,this,decide_false,aI,if_false];exact hN _ _ ⟨rfl,1,.inr rfl,⟨R1,R2,r,m::M,e,ro,hM,hn⟩,rfl⟩
 rintro _ _ ⟨rfl,f',hf',⟨R1,R2,r,M,e,ro,hM,hn⟩,rfl⟩;have cu':Cu rows n s ⟨n,f',h⟩ ⟨n,1-f',h⟩:=⟨R1,R2,r,M,e,ro,hM,hn⟩;simp only[ends,bT,aS,aO,ah,ak,af,ae,cg,aA,ai,aq,aE,bc,b5,gv,bh,ao,aj,aG,dC,S];refine⟨@c,λpl fX=>?_⟩;have l2:=cO.new (o:=.lst [enc (⟨n,0⟩:T2),enc (⟨n,1⟩:T2)]) fX;subst e;refine⟨R1,R2,r,_,⟨n,f',h⟩,_,[⟨n,0⟩,⟨n,1⟩],rfl,.ref az,⟨d.dn,ro,Aw⟩,?_⟩;rw[WQ (n:=n) (f:=f') (h:=h) (λt=>?_) hM hn]
 .refine at_ (l2 _ _ g1) ?_;simp only[P5,bG,rz];refine at_ (l2 _ _ g1) ?_;refine⟨_,n,rfl,⟨@e,⟨ph,hph,ea⟩⟩,?_⟩;rw[hho];refine λq' Cq=>⟨q',n,s,f',h,rfl,az,rfl,cF (q f' q' _ hf' cu' ?_ ?_ ?_)⟩
  .rw[oF];exact(l1.trans l2).trans (.new Cq)
  .exact(l1.trans l2).free Cq
  .rw[oF];exact az
 .simp only[bN,bf,or_false];rcases hf' with rfl |rfl
  .exact Iff.rfl
  .exact or_comm
end Mo
namespace Mo
open K2.P
open K2.nQ (bR)
open K2.rh (kH Ro kG mS)
open K2.tm (ib nW mT nX dE eP fG b6)
def AA(gs:List T2)(rows:Rows):Rows:=rows.map (pX λp=>!decide (p.s∈gs))
theorem BK(gs):∀rows:Rows,(AA gs rows).flatten=rows.flatten.filter (λp=>!decide (p.s∈gs))
 |[]=>rfl
 |r::rows=>by
  show(r.filter _++(AA gs rows).flatten)=_;rw[BK gs rows,br,bC]
theorem P7(d:rC rows):rC (AA gs rows):=by
 refine⟨?_,λp hp=>?_⟩
 .rw[BK];exact Ls ((List.filter_sublist).map _) d.nd
 .rw[BK] at hp;exact d.way p (List.mem_filter.mp hp).1
theorem BM{gs:List T2}{r:@B}(h:∀p∈r,p.s∉gs):r.filter (λp=>!decide (p.s∈gs))=r:=List.filter_eq_self.mpr λp hp=>by simpa using h p hp
theorem SV(h1:∀p∈R1.flatten,p.s∉gs)(h2:∀p∈R2.flatten,p.s∉gs):AA gs (R1++r::R2)=R1++r.filter (λp=>!decide (p.s∈gs))::R2:=by
 have go:∀R:Rows,(∀p∈R.flatten,p.s∉gs)->R.map (pX λp=>!decide (p.s∈gs))=R:=λR h=>by
  have:R.map (pX λp=>!decide (p.s∈gs))=R.map id:=dh λr hr=>BM λp hp=>h p (List.mem_flatten.mpr ⟨r,hr,hp⟩);rw[this,uq]
 unfold AA;rw[aH,av,go R1 h1,go R2 h2]
structure Pr(rows:Rows)(s:T2)(y z:T3):Prop where
 ex:∃(R1 R2:Rows) (r M:@B),rows=R1++r::R2/\gb (y::z::M) r/\((M=[]/\s=⟨(R1.length:Nat),2⟩)\/∃M' x,M=M'++[x]/\x.s=s)
theorem U5(h:gb L r)(nd:(r.map T3.s).Nodup):(L.map T3.s).Nodup:=((h.perm.map T3.s).nodup_iff).mp nd
theorem pj(d:rC rows)(e:rows=R1++r::R2)(ro:gb (y::z::M) r):(∀p∈R1.flatten,p.s∉[y.s,z.s])/\(∀p∈R2.flatten,p.s∉[y.s,z.s])/\(∀p∈M,p.s∉[y.s,z.s])/\y.s≠z.s:=by
 subst e;have nm:=O0 d.nd;have y1:y∈r:=ro.perm.mem_iff.mpr aQ;have y2:z∈r:=ro.perm.mem_iff.mpr (aP _ aQ);have nd:=U5 ro (d.row @k);rw[av,av,c5,c5] at nd;have two:∀(p:T3),p.s≠y.s->p.s≠z.s->p.s∉[y.s,z.s]:=λp h1 h2 h=>by
  rcases List.mem_cons.mp h with h |h
  .exact h1 h
  .exact h2 (List.mem_singleton.mp h)
 refine⟨λp hp=>two p (nm.1 p hp y y1) (nm.1 p hp z y2),λp hp=>two p (nm.2 p hp y y1) (nm.2 p hp z y2),λp hp=>two p (λh=>nd.1 (aP _ (List.mem_map.mpr ⟨p,hp,h⟩))) (λh=>nd.2.1 (List.mem_map.mpr ⟨p,hp,h⟩)),λh=>nd.1 (by rw[h];exact aQ)⟩
theorem Oz(d:rC rows)(c:Pr rows s y z):s∈bz (AA [y.s,z.s] rows) 0/\Ro (jm s [y,z] (AA [y.s,z.s] rows) 0) rows:=by
 obtain⟨R1,R2,r,M,e,ro,hM⟩:=c.ex;obtain⟨o1,o2,o3,_⟩:=pj d e ro;subst e;have dF:=P7 (gs:=[y.s,z.s]) d;rw[SV o1 o2] at dF ⊢;have Rv:gb M (r.filter λp=>!decide (p.s∈[y.s,z.s])):=by
  have h1:=ro.S0 (f:=λp:T3=>!decide (p.s∈[y.s,z.s]));have e1:(y::z::M:@B).filter (λp=>!decide (p.s∈[y.s,z.s]))=M:=by
   rw[d0 @k,d0 @k];exact BM o3
  rw[e1] at h1;exact h1
 generalize r.filter (λp=>!decide (p.s∈[y.s,z.s]))=r' at Rv dF ⊢;rcases hM with ⟨rfl,hs⟩ |⟨M',x,rfl,hs⟩
 .rw[Rv.nil] at dF ⊢;refine⟨?_,?_⟩
  .rw[mM,bz,hs];unfold bS;simp
  .rw[hs,yt dF];exact Er ro
 .have hx:x∈r':=Rv.perm.mem_iff.mpr @k;obtain⟨A,B,rfl⟩:=eD hx;subst hs;refine⟨ve (by rw[cS];simp),?_⟩;rw[yu dF];have eM:=Rv.begun (dF.row @k);subst eM;refine Er (gb.trans ?_ ro);exact .of (u:=A++[x]) (v:=y::z::B) @k @k
theorem OA(d:rC rows)(hs:s∈bz rows 0):Pr (jm s [y,z] rows 0) s y z:=by
 cases Kc hs with
 | «at» R1 R2 A B x e hx=>
  subst e hx;rw[yu d];exact⟨_,_,_,B++(A++[x]),rfl,.of (u:=y::z::B) (v:=A++[x]) @k @k,.inr ⟨B++A,x,by simp,rfl⟩⟩
 |mt R1 R2 e hx=>
  subst e hx;rw[yt d];exact⟨_,_,_,[],rfl,.refl _,.inl @R⟩
theorem Gm(h:Ro (R1++r::R2) b):∃WV r' Xz,b=WV++r'::Xz/\gb r r'/\WV.length=R1.length:=by
 induction R1 generalizing b with
 |nil=>cases h with |cons q h=>exact⟨[],_,_,rfl,q,rfl⟩
 | cons a R1 ih=>
  cases h with
  |cons q h=>
   obtain⟨WV,r',Xz,rfl,hr,hl⟩:=ih h;exact⟨_::WV,r',Xz,rfl,hr,by rw[ai,ai,hl]⟩
theorem Pr.ro(c:Pr a s y z)(h:Ro a b):Pr b s y z:=by
 obtain⟨R1,R2,r,M,e,ro,hM⟩:=c.ex;subst e;obtain⟨WV,r',Xz,rfl,hr,hl⟩:=Gm h;refine⟨WV,Xz,r',M,rfl,ro.trans hr,?_⟩;rw[hl];exact hM
theorem IL(ro:gb (y::z::M) r):∃s,Pr (R1++r::R2) s y z:=by
 rcases QD M with rfl |⟨M',x,rfl⟩
 .exact⟨_,R1,R2,r,[],rfl,ro,.inl @R⟩
 .exact⟨_,R1,R2,r,M'.concat x,rfl,ro,.inr ⟨M',x,by simp,rfl⟩⟩
theorem LQ(R1 R2)(r):jm s ps (R1++r::R2) 0=jm s ps R1 0++gS s ps R1.length r::jm s ps R2 (R1.length+1):=by
 rw[sm,jm];simp
theorem RP(c:Pr rows s y z)(hu:u≠y.s)(hk:OkS u rows 0):∃s',Pr (jm u ps rows 0) s' y z:=by
 obtain⟨R1,R2,r,M,e,ro,_⟩:=c.ex;subst e;rw[LQ];have kO:u≠⟨(R1.length:Nat),2⟩:=λz0=>by
  have:=hk R1.length r @k (by rw[z0];simp);subst this;have:=ro.perm;exact absurd this.symm.eq_nil @k
 have abj:gS u ps R1.length r=r.flatMap (yv u ps):=by unfold gS;rw[if_neg kO,ay]
 rw[abj];have h2:=ro.flat (f:=yv u ps);have e1:(y::z::M).flatMap (yv u ps)=y::z::((if z.s=u then ps else [])++M.flatMap (yv u ps)):=by
  rw[cJ,cJ];unfold yv;rw[if_neg λq=>hu q.symm];split<;>simp
 rw[e1] at h2;exact IL h2
theorem KW{ns:@I}(hp:∀p∈ps,p.a∈ns):∀{r:@B},(r.flatMap (yv s ps)).filter (λp=>!decide (p.a∈ns))=r.filter (λp=>!decide (p.a∈ns))
 |[]=>rfl
 |a::r=>by
  rw[cJ,bC,KW hp,show a::r=[a]++r from rfl,bC];congr 1;unfold yv;split
  .rw[show a::ps=[a]++ps from rfl,bC,xx hp,bH]
  .rfl
theorem BJ(hp:∀p∈ps,p.a∈ns):∀{rows:Rows} {k:Nat},i6 ns (jm s ps rows k)=i6 ns rows
 |[],_=>rfl
 |r::rows,k=>by
  show(gS s ps k r).filter _::i6 ns (jm s ps rows (k+1))=r.filter _::i6 ns rows;rw[BJ hp];unfold gS;rw[bC,KW hp];congr 1;split
  .rw[xx hp];rfl
  .rfl
theorem Wq(h:∀p∈rows.flatten,p.a∉ns):i6 ns rows=rows:=by
 unfold i6;have:rows.map (pX λp=>!decide (p.a∈ns))=rows.map id:=dh λr hr=>tS λp hp=>h p (List.mem_flatten.mpr ⟨r,hr,hp⟩);rw[this,uq]
end Mo
namespace Mo
open K2.P
open K2.nQ (bR)
open K2.rh (kH Ro kG mS)
open K2.tm (ib nW mT nX dE eP fG b6)
open K2.K3 (DF)
noncomputable def sC(a b w h:Int):@B:=[⟨a,w,h⟩,⟨b,w,-h⟩]
def Dy(a b t h:Int):@B:=if t=0 then sC a b 1 h else [⟨b,1,-h⟩,⟨a,1,h⟩]
theorem sy(a b t h):(Dy a b t h).Perm (sC a b 1 h):=by
 unfold Dy sC;split
 .exact .refl _
 .exact .swap _ _ _
structure Ib(rows:Rows)(a b:Int)(o u:T2)(t h:Int):Prop where
 d:@J
 zm:rows.flatten.length<=20
 ne:a≠b
 fa:∀p∈rows.flatten,p.a≠a
 fb:∀p∈rows.flatten,p.a≠b
 ho:o∈bz rows 0
 hu:u∈bz (jm o (sC a b 0 h) rows 0) 0
 hn:u≠⟨a,0⟩
 ht:t=0\/t=1
 hh:h=1\/h=-1
def zL(rows:Rows)(a b:Int)(o:T2)(h:Int):Rows:=jm o (sC a b 0 h) rows 0
def raw(rows:Rows)(a b:Int)(o u:T2)(t h:Int):Rows:=jm u (Dy a b t h) (zL rows a b o h) 0
def laid(rows:Rows)(a b:Int)(o u:T2)(t h:Int):Rows:=(raw rows a b o u t h).map bR
theorem yi(c:Ib rows a b o u t h):rC (zL rows a b o h):=by
 have pp:=pb (ps:=sC a b 0 h) c.d.dn (Kc c.ho);have fr:∀(n:Int),(∀p∈rows.flatten,p.a≠n)->∀w:Int,(⟨n,w⟩:T2)∉@ak:=λn hn w z=>by
  obtain⟨p,hp,e⟩:=List.mem_map.mp z;exact hn p hp (congrArg T2.a e)
 refine⟨?_,λp hp=>?_⟩
 .show((jm o (sC a b 0 h) rows 0).flatten.map T3.s).Nodup;rw[(pp.map T3.s).nodup_iff,aH];show(⟨a,0⟩::⟨b,0⟩::@ak).Nodup;rw[c5,c5];refine⟨λz=>?_,fr b c.fb 0,c.d.nd⟩;rcases List.mem_cons.mp z with z |z
  .exact c.ne (congrArg T2.a z)
  .exact fr a c.fa 0 z
 .rcases List.mem_append.mp (pp.mem_iff.mp hp) with h |h
  .simp only[sC,bN,bf,or_false] at h;rcases h with rfl |rfl<;>exact @E
  .exact c.d.way p h
theorem Gu(c:Ib rows a b o u t h):(raw rows a b o u t h).flatten.Perm (⟨b,1,-h⟩::⟨b,0,-h⟩::⟨a,1,h⟩::⟨a,0,h⟩::rows.flatten):=by
 have p1:=pb (ps:=sC a b 0 h) c.d.dn (Kc c.ho);have p2:=pb (ps:=Dy a b t h) (yi c) (Kc c.hu);refine p2.trans (((sy a b t h).append p1).trans ?_);show(([⟨a,1,h⟩,⟨b,1,-h⟩]:@B)++(([⟨a,0,h⟩,⟨b,0,-h⟩]:@B)++rows.flatten)).Perm _;simp only[aw,ay];refine(vO _ _ _).trans (.cons _ ?_);refine(List.Perm.cons _ (vO _ _ _)).trans ?_;exact vO _ _ _
theorem IH(c:Ib rows a b o u t h):Dr (raw rows a b o u t h):=by
 have df:DF rows.flatten:=⟨c.d.nd,c.d.way,c.d.hand,c.d.ue⟩;have d1:=df.add (m:=a) (hd:=h) (λz=>by obtain⟨p,hp,e⟩:=List.mem_map.mp z;exact c.fa p hp e) c.hh;have d2:=d1.add (m:=b) (hd:=-h) (λz=>by
  obtain⟨p,hp,e⟩:=List.mem_map.mp z;rcases List.mem_cons.mp hp with rfl |hp
  .exact c.ne e
  .rcases List.mem_cons.mp hp with rfl |hp
   .exact c.ne e
   .exact c.fb p hp e) (by have:=c.hh;lia)
 have d3:=d2.perm (Gu c);have hf:=c.zm;refine⟨d3.nd,d3.way,d3.hand,d3.ue,?_,?_⟩
 .rw[(Gu c).length_eq];simp only[ai];lia
 .show (jm u (Dy a b t h) (jm o (sC a b 0 h) rows 0) 0).length<=3;rw[lB,lB];exact c.d.str
structure QS(rows:Rows)(a b h:Int):Prop where
 d:@J
 ne:a≠b
 hh:h=1\/h=-1
 ov:(∃s,Pr rows s ⟨a,0,h⟩ ⟨b,0,-h⟩)\/∃s,Pr rows s ⟨b,0,-h⟩ ⟨a,0,h⟩
 un:(∃s,Pr rows s ⟨a,1,h⟩ ⟨b,1,-h⟩)\/∃s,Pr rows s ⟨b,1,-h⟩ ⟨a,1,h⟩
theorem U8(c:Ib rows a b o u t h):QS (raw rows a b o u t h) a b h:=by
 have p1:Pr (zL rows a b o h) o ⟨a,0,h⟩ ⟨b,0,-h⟩:=OA c.d.dn c.ho;have p2:=RP (ps:=Dy a b t h) p1 c.hn (EE (yi c) (Kc c.hu));refine⟨IH c,c.ne,c.hh,.inl p2,?_⟩;unfold raw;rcases c.ht with rfl |rfl
 .have e:Dy a b 0 h=[⟨a,1,h⟩,⟨b,1,-h⟩]:=rfl;rw[e];exact .inl ⟨u,OA (yi c) c.hu⟩
 .have e:Dy a b 1 h=[⟨b,1,-h⟩,⟨a,1,h⟩]:=rfl;rw[e];exact .inr ⟨u,OA (yi c) c.hu⟩
theorem QS.ro(c:QS x a b h)(r:Ro x y):QS y a b h :=
 ⟨c.d.ro r,c.ne,c.hh,c.ov.imp (λ⟨s,p⟩=>⟨s,p.ro r⟩) λ⟨s,p⟩=>⟨s,p.ro r⟩,c.un.imp (λ⟨s,p⟩=>⟨s,p.ro r⟩) λ⟨s,p⟩=>⟨s,p.ro r⟩⟩
theorem Ry(c:Ib rows a b o u t h)(ns)(ha:a∈ns)(hb:b∈ns)(hn:∀n∈ns,n=a\/n=b):i6 ns (raw rows a b o u t h)=rows:=by
 have h0:∀p∈sC a b 0 h,p.a∈ns:=λp hp=>by simp only[sC,bN,bf,or_false] at hp;rcases hp with rfl |rfl<;>assumption
 have h1:∀p∈Dy a b t h,p.a∈ns:=λp hp=>by
  have hp:=(sy a b t h).mem_iff.mp hp;simp only[sC,bN,bf,or_false] at hp;rcases hp with rfl |rfl<;>assumption
 unfold raw zL;rw[BJ h1,BJ h0];exact Wq λp hp z=>by
  rcases hn _ z with e |e
  .exact c.fa p hp e
  .exact c.fb p hp e
structure Lb(rows:Rows)(a b:Int)(F O:Int)(o u:T2)(t h:Int):Prop where
 nm:(F=a/\O=b)\/(F=b/\O=a)
 ht:t=0\/t=1
 hh:h=1\/h=-1
 ho:o∈bz (i6 [a,b] rows) 0
 hn:u≠⟨F,0⟩
 ex:∃Y,Ro (jm o (sC F O 0 h) (i6 [a,b] rows) 0) Y/\rC Y/\u∈bz Y 0/\Ro (jm u (Dy F O t h) Y 0) rows
theorem SY(gs hs)(rows):AA gs (AA hs rows)=AA (gs++hs) rows:=by
 unfold AA;rw[fA];refine dh λr _=>?_;show(r.filter _).filter _=_;rw[List.filter_filter];refine tG λp _=>?_;by_cases h1:p.s∈gs<;>by_cases h2:p.s∈hs<;>simp[h1,h2]
theorem SX(d:rC rows)(h:∀s:T2,(s.b=0\/s.b=1)->(s∈gs↔s.a∈[a,b])):AA gs rows=i6 [a,b] rows:=by
 unfold AA i6;refine dh λr hr=>tG λp hp=>?_;have:=h p.s (d.way p (List.mem_flatten.mpr ⟨r,hr,hp⟩));by_cases h1:p.s∈gs
 .have h2:p.a∈[a,b]:=this.mp h1;rw[decide_eq_true h1,decide_eq_true h2]
 .have h2:¬ p.a∈[a,b]:=λz=>h1 (this.mpr z);rw[decide_eq_false h1,decide_eq_false h2]
end Mo
namespace Mo
open K2.P
open K2.nQ (bR)
open K2.rh (kH Ro kG mS)
open K2.tm (ib nW mT nX dE eP fG b6)
theorem Ks(gone:List T2):∀M:@B,(M.map T3.s).filter (λt=>!decide (t∈gone))=(M.filter λp=>!decide (p.s∈gone)).map T3.s
 |[]=>rfl
 |a::M=>by
  rw[av,vd,vd,Ks gone M];split<;>rfl
theorem Qu(hy:y.s∈gone)(hz:z.s∈gone):(M.filter (λp=>!decide (p.s∈gone))=[]/\Hv i gone (y::z::M)=⟨(i:Nat),2⟩)\/∃K' x,M.filter (λp=>!decide (p.s∈gone))=K'++[x]/\x.s=Hv i gone (y::z::M):=by
 have e:Hv i gone (y::z::M)=(((M.filter λp=>!decide (p.s∈gone)).map T3.s).getLast?).getD ⟨(i:Int),2⟩:=by
  unfold Hv;rw[av,av,d0 (by simpa using hy),d0 (by simpa using hz),Ks]
 rw[e];rcases QD (M.filter λp=>!decide (p.s∈gone)) with h |⟨K',x,h⟩
 .left;rw[h];exact⟨rfl,rfl⟩
 .right;rw[h];exact⟨K',x,by simp,by simp⟩
theorem SW(gs)(R):(AA gs R).length=R.length:=by unfold AA;rw[ax]
theorem Wr(R1 R2)(r):AA gs (R1++r::R2)=AA gs R1++r.filter (λp=>!decide (p.s∈gs))::AA gs R2:=by unfold AA;rw[aH,av]
theorem Yv(d:@J)(ne:a≠b)(nm:(F=a/\O=b)\/(F=b/\O=a))(hh:hF=1\/hF=-1)(e1:rows=R1++r::R2)(Xb:gb (⟨F,0,hF⟩::⟨O,0,-hF⟩::M) r)
  (e2:rows=S1++q::S2) (IF:gb (Lx::Ly::N) q) (hL:(t=0/\Lx=⟨F,1,hF⟩/\Ly=⟨O,1,-hF⟩)\/(t=1/\Lx=⟨O,1,-hF⟩/\Ly=⟨F,1,hF⟩))  (ZX:∀s,s∈g1↔s=⟨a,0⟩\/s=⟨b,0⟩\/s=⟨a,1⟩\/s=⟨b,1⟩) (Wc:∀s,s∈g2↔s=⟨a,1⟩\/s=⟨b,1⟩):
  Lb rows a b F O (Hv R1.length g1 (⟨F,0,hF⟩::⟨O,0,-hF⟩::M)) (Hv S1.length g2 (Lx::Ly::N)) t hF:=by
 have eq2:∀s:T2,s∈g2↔s∈[Lx.s,Ly.s]:=λs=>by
  rw[Wc];simp only[bN,bf,or_false];rcases hL with ⟨_,rfl,rfl⟩ |⟨_,rfl,rfl⟩<;>rcases nm with ⟨rfl,rfl⟩ |⟨rfl,rfl⟩<;>first |exact Iff.rfl |exact or_comm
 have abw:Dy F O t hF=[Lx,Ly]:=by
  rcases hL with ⟨rfl,rfl,rfl⟩ |⟨rfl,rfl,rfl⟩<;>rfl
 have hlb:Lx.s.b=1/\Ly.s.b=1:=by rcases hL with ⟨_,rfl,rfl⟩ |⟨_,rfl,rfl⟩<;>exact⟨rfl,rfl⟩
 have oth:=pj d.dn e2 IF;have hfe:∀L:@B,L.filter (λp=>!decide (p.s∈g2))=L.filter (λp=>!decide (p.s∈[Lx.s,Ly.s])):=λL=>tG λp _=>by
  by_cases h:p.s∈g2
  .rw[decide_eq_true h,decide_eq_true ((eq2 _).mp h)]
  .rw[decide_eq_false h,decide_eq_false λz=>h ((eq2 _).mpr z)]
 have pu:Pr rows (Hv S1.length g2 (Lx::Ly::N)) Lx Ly:=by
  refine⟨S1,S2,q,N,e2,IF,?_⟩;have:=Qu (i:=S1.length) (M:=N) ((eq2 Lx.s).mpr @k) ((eq2 Ly.s).mpr @k);rw[hfe N,BM oth.2.2.1] at this;exact this
 obtain⟨su,ru⟩:=Oz d.dn pu;have dY:=P7 (gs:=[Lx.s,Ly.s]) d.dn;have hF1:(⟨F,0,hF⟩:T3).s∈g1:=(ZX _).mpr (by rcases nm with ⟨rfl,rfl⟩ |⟨rfl,rfl⟩;exact @E;exact .inr (@E));have hO1:(⟨O,0,-hF⟩:T3).s∈g1:=(ZX _).mpr (by rcases nm with ⟨rfl,rfl⟩ |⟨rfl,rfl⟩;exact .inr (@E);exact @E);have aaD:=pj d.dn e1 Xb;have hge:M.filter (λp=>!decide (p.s∈g1))=M.filter (λp=>!decide (p.s∈[Lx.s,Ly.s])):=tG λp hp=>by
  by_cases h:p.s∈[Lx.s,Ly.s]
  .have:p.s∈g1:=(ZX _).mpr (.inr (.inr ((Wc _).mp ((eq2 _).mpr h))));rw[decide_eq_true h,decide_eq_true this]
  .have:¬ p.s∈g1:=λz=>by
    have Nu:=aaD.2.2.1 p hp;rcases(ZX _).mp z with z |z |z |z
    .refine Nu ?_;rcases nm with ⟨rfl,rfl⟩ |⟨rfl,rfl⟩
     .rw[z];exact aQ
     .rw[z];exact aP _ aQ
    .refine Nu ?_;rcases nm with ⟨rfl,rfl⟩ |⟨rfl,rfl⟩
     .rw[z];exact aP _ aQ
     .rw[z];exact aQ
    .exact h ((eq2 _).mp ((Wc _).mpr (.inl z)))
    .exact h ((eq2 _).mp ((Wc _).mpr (.inr z)))
   rw[decide_eq_false h,decide_eq_false this]
 have po:Pr (AA [Lx.s,Ly.s] rows) (Hv R1.length g1 (⟨F,0,hF⟩::⟨O,0,-hF⟩::M)) ⟨F,0,hF⟩ ⟨O,0,-hF⟩:=by
  refine⟨AA [Lx.s,Ly.s] R1,AA [Lx.s,Ly.s] R2,r.filter (λp=>!decide (p.s∈[Lx.s,Ly.s])),M.filter (λp=>!decide (p.s∈[Lx.s,Ly.s])),by rw[e1,Wr],?_,?_⟩
  .have h1:=Xb.S0 (f:=λp:T3=>!decide (p.s∈[Lx.s,Ly.s]));have n1:∀x w:Int,(⟨x,0,w⟩:T3).s∉[Lx.s,Ly.s]:=λx w z=>by
    have:(⟨x,0,w⟩:T3).s.b=1:=by
     rcases List.mem_cons.mp z with z |z
     .rw[z];exact hlb.1
     .rw[List.mem_singleton.mp z];exact hlb.2
    exact absurd this (by show ¬ (0:Int)=1;decide)
   rw[Nl (by simpa using n1 F hF),Nl (by simpa using n1 O (-hF))] at h1;exact h1
  .rw[SW];have:=Qu (i:=R1.length) (M:=M) hF1 hO1;rw[hge] at this;exact this
 obtain⟨so,ro⟩:=Oz dY po;have hz:AA [(⟨F,0,hF⟩:T3).s,(⟨O,0,-hF⟩:T3).s] (AA [Lx.s,Ly.s] rows)=i6 [a,b] rows:=by
  rw[SY];refine SX d.dn λs hs=>?_;have h2:=(eq2 s).symm.trans (Wc s);simp only[lP];rw[h2];simp only[bN,bf,or_false];obtain⟨sa,sb⟩:=s;have t2:∀x y:Int,(⟨sa,sb⟩:T2)=⟨x,y⟩↔sa=x/\sb=y:=λx y=>⟨λz=>⟨congrArg T2.a z,congrArg T2.b z⟩,λ⟨h1,h2⟩=>by rw[h1,h2]⟩;show((⟨sa,sb⟩:T2)=⟨F,0⟩\/(⟨sa,sb⟩:T2)=⟨O,0⟩)\/((⟨sa,sb⟩:T2)=⟨a,1⟩\/(⟨sa,sb⟩:T2)=⟨b,1⟩)↔sa=a\/sa=b;rw[t2,t2,t2,t2];simp only at hs;rcases nm with ⟨rfl,rfl⟩ |⟨rfl,rfl⟩<;>lia
 rw[hz] at so ro;refine⟨nm,by rcases hL with ⟨h,_⟩ |⟨h,_⟩;exact .inl h;exact .inr h,hh,so,?_,_,ro,dY,su,by rw[abw];exact ru⟩;intro Y1;obtain⟨S1',S2',q',N',e',ro',hN'⟩:=pu.ex;have d1:Dr (R1++r::R2):=by rw[<-e1];exact d
 have d2:Dr (S1'++q'::S2'):=by rw[<-e'];exact d
 have x1:=gr d1 Xb;rw[<-e1] at x1;rcases hN' with ⟨_,hs⟩ |⟨K',x,rfl,hs⟩
 .rw[Y1] at hs;have:=congrArg T2.b hs;exact absurd this (by show ¬ (0:Int)=2;decide)
 .have ro3:gb (x::Lx::(Ly::K')) q':=gb.trans (gb.of (u:=[x]) (v:=Lx::Ly::K') @k @k) ro';have x2:=gr d2 ro3;rw[<-e',hs,Y1] at x2;have x3:=x1.symm.trans x2;injection x3 with x3
  have:=congrArg T2.b x3;rw[hlb.1] at this;exact absurd this (by show ¬ (0:Int)=1;decide)
end Mo
namespace K3
open K2.P K2.lF
theorem AU:∀(rows:Rows) (k:Nat) (s:T2),s∈bz rows k↔∃p∈rows.zipIdx k,s∈bS p.1 (p.2:Int)
 |[],k,s=>by simp[bz]
 | r::rs,k,s=>by
  rw[bz,lP,AU rs,nR];constructor
  .rintro(h |⟨p,h1,h2⟩)
   .exact⟨(r,k),aQ,h⟩
   .exact⟨p,aP _ h1,h2⟩
  .rintro⟨p,h1,h2⟩;rcases List.mem_cons.mp h1 with rfl |h1
   .exact .inl h2
   .exact .inr ⟨p,h1,h2⟩
end K3
namespace Nb
open K2.P K2.lF
open K2.K3
variable {rows:Rows}
def A2:da :=
 (aU (bF (bX (aG X5 @g (gJ iL (ah @d aA)))) (bc (b5 (aG cK @d @g))) aX)
 (bc (b5 @C)))
def cx:di:=nV
theorem sZ(ds)(G)(Q)(h:cx ds G Q @f):A2 (@f) @q (aJ 2 ds) G:=zE ds G Q h
noncomputable def mixed(c:Int):Int:=c % 1000003*48271 % 1000003
def ml:di:=λds G Q _=>∃c:Int,ds=[.int c]/\Q (.int (mixed c)) G
def wu:da :=
 (bc (b5 (aG jJ (aG ud (aG jJ @d (dC (.int 1000003))) (dC (.int 48271))) (dC (.int 1000003)))))
theorem xM(ds)(G)(Q)(h:ml ds G Q @f):wu (@f) @q (aJ 1 ds) G:=by
 obtain⟨c,rfl,q⟩:=h;unfold wu;simp only[bc,b5,aG,ak,aJ,av,aF,ai,aq,aw,ay,ae,dC,ends,cV,mY];exact⟨@c,.inr ⟨@c,@c⟩,@c,cF q⟩
noncomputable def pz(L:@B):@I:=(L.filter λp=>p.b == 0).map (·.a)
def fE:di:=UW (λrows:Rows=>rows.flatten.length<=500) λrows=>pz rows.flatten
def wt:da :=
 (aU (aS (cg aA) (aE 1))
 (aU (c4 (ig @d) (aE 2) (c4 (ig @l) (aE 3) (bF (bX (aG @G (aG cK (ak 3) @s) @C)) (bw (iZ pY du @g (ah (aG cK (ak 3) @C) aA))) aX)))
 (bc (b5 @g))))
theorem mq(L):(pz L).length<=L.length:=by unfold pz;rw[ax];exact gZ _ _
theorem Kn(a b):pz (a++b)=pz a++pz b:=by unfold pz;rw[bC,aH]
theorem xK(ds)(G)(Q)(h:fE ds G Q @f):wt (@f) @q (aJ 4 ds) G:=by
 obtain⟨rows,rfl,hl,q⟩:=h;unfold wt;simp only[ends,aJ,av,aF,ai,aq,aN,aw,ay,bT,aS,cg,aA,aE,ao,aj];refine⟨@c,λp hp=>?_⟩;refine bp (λτ G'=>(∃a b,τ=[@p,@K,a,b])/\@w/\G' p=some (.lst ((pz rows.flatten).map enc))) ?_ ?_
 .intro N hN;simp only[c4,cq,ak,ae];refine dZ ?_;refine cT (xs:=rows) (λpre τ G'=>(∃a b,τ=[@p,@K,a,b])/\@w/\G' p=some (.lst ((pz pre.flatten).map enc))) ⟨⟨_,_,rfl⟩,.new hp,az⟩ @Y ?_ ?_
  .rintro pre r post τ G' N2 e ⟨⟨a,b,rfl⟩,l,gp⟩ nP;have hlen:pre.flatten.length+r.length<=rows.flatten.length:=by
    rw[e];simp only[gx,br,aM];lia
   simp only[aE,c4,ao,aj,cq,ak,af,ae];refine dZ ?_;refine cT (xs:=r) (λpp τ G'=>(∃a b,τ=[@p,@K,a,b])/\@w/\G' p=some (.lst ((pz (pre.flatten++pp)).map enc))) ⟨⟨_,_,rfl⟩,l,by rw[bH];exact gp⟩ @Y ?_ ?_
   .rintro pp t pt τ G4 N3 e4 ⟨⟨a,b,rfl⟩,l4,KN⟩ vP;have hpp:pp.length<r.length:=by have:=congrArg cU e4;simp at this;lia
    have hz:=mq (pre.flatten++pp);rw[aM] at hz;simp only[aE,iY,ao,aj,yB,bw,iZ,ak,af,ae,dU,ah,aG,dC,aA,cb,bG,rB,aX,aY,rz];refine⟨_,_,.int _,.int _,?_⟩;rw[eq_int];have eu:pz (pre.flatten++(pp++[t]))=pz (pre.flatten++pp)++pz [t]:=by rw[<-bM,Kn]
    by_cases hb:t.b=0
    .simp only[ag,hb,decide_true,aK,if_false,aC,KN,true_and,if_true];refine⟨qY (by rw[ax];lia),vP _ _ ⟨⟨_,_,rfl⟩,l4.put hp,?_⟩⟩;rw[az,eu,aH];have:pz [t]=[t.a]:=by simp[pz,hb]
     rw[this];rfl
    .simp only[ag,hb,decide_false,aI,if_false,aC];refine vP _ _ ⟨⟨_,_,rfl⟩,l4,?_⟩;have:pz [t]=[]:=by simp[pz,hb]
     rw[eu,this,bH];exact KN
   .rintro τ G4 ⟨⟨a,b,rfl⟩,l4,KN⟩;refine nP _ _ ⟨⟨_,_,rfl⟩,l4,?_⟩;have:(pre++[r]).flatten=pre.flatten++r:=by simp
    rw[this];exact KN
  .rintro τ G' ⟨⟨a,b,rfl⟩,l,gp⟩;exact hN _ _ ⟨⟨_,_,rfl⟩,l,gp⟩
 .rintro _ G' ⟨⟨a,b,rfl⟩,l,gp⟩;simp only[bc,b5,ak,af,ae];exact ij l hp gp q
def nU:di:=λds G Q _=>∃(ns:@I) (c:Int),ds=[enc ns,.int c]/\ns.length<=500/\∀m:Int,m∉ns->1<=m->m<=999->Q (.int m) G
def za:da :=
 (aU (aS (aG iK @s (aG jJ @g (dC (.int 999)))) (aE 2))
 (aU (E7 (bX (aG (uN false) @l @d)) (aS (aG iK @s (aG jJ @l (dC (.int 999)))) (aE 2)))
 (bc (b5 @l))))
theorem zD(ds)(G)(Q)(h:nU ds G Q @f):za (@f) @q (aJ 3 ds) G:=by
 obtain⟨ns,c,rfl,hl,q⟩:=h;unfold za;simp only[ends,aJ,av,aF,ai,aq,aN,aw,ay,bT,aS,aG,dC,ak,af,ae,aE,ao,aj,cV,dN];refine⟨@c,?_⟩;have b1:1<=1+c % 999:=@e
 have b2:1+c % 999<=999:=@e
 generalize 1+c % 999=n at *;refine bp (λτ G'=>G=G'/\∃m:Int,(m∉ns/\1<=m/\m<=999)/\τ=[some (enc ns),some (.int c),some (.int m)]) ?_ ?_
 .intro N hN;obtain⟨k,hk,nj⟩:=xw (ns:=ns) b1 b2 hl;have main:∀(j:Nat),j<=k->zK (bX (aG (uN false) @l @d)) (aS (aG iK @s (aG jJ @l (dC (.int 999)))) (aE 2)) (j+1) (@f) {ends Q with nx:=N} [some (enc ns),some (.int c),some (.int (fit n (k-j)))] G:=by
   intro j;induction j with
   |zero=>
    intro _;show zK _ _ (0+1) _ _ _ _;rw[zK];simp only[aS,aG,dC,ak,af,ae,aE,ends,ao,aj,cV,dN,aY];refine jF (x:=fit n (k-0)) (@c) ?_;simp only[ag,QX,nj,decide_false,aI,if_false,aC];have:=oO b1 b2 k;exact hN _ _ ⟨rfl,_,⟨nj,@e,@e⟩,rfl⟩
   | succ j ih=>
    intro hj;rw[zK];simp only[aS,aG,dC,ak,af,ae,aE,ends,ao,aj,cV,dN,aY];refine jF (x:=fit n (k-(j+1))) (@c) ?_;have hb:=oO b1 b2 (k-(j+1));by_cases hm:fit n (k-(j+1))∈ns
    .simp only[ag,hm,decide_true,aK,if_false,aC,if_true];refine⟨@c,?_⟩;have e:1+fit n (k-(j+1)) % 999=fit n (k-j):=by
      rw[show k-j=(k-(j+1))+1 by lia,Int.add_comm];rfl
     rw[e];exact ih (@e)
    .simp only[ag,hm,decide_false,aI,if_false,aC];exact hN _ _ ⟨rfl,_,⟨hm,@e,@e⟩,rfl⟩
  have:=main k (bb _);rw[QY] at this;exact⟨k+1,this⟩
 .rintro _ _ ⟨rfl,m,⟨m1,m2,m3⟩,rfl⟩;simp only[bc,b5,ak,af,ae];exact cF (q m m1 m2 m3)
structure HA(G G':Gp)(as:List Nat)(rs:Rows):Prop where
 le:@w
 nd:as.Nodup
 fr:∀a∈as,G a=none
 len:as.length=rs.length
 at':∀(i a:Nat) (r:@B),as[i]?=some a->rs[i]?=some r->G' a=some (.lst (r.map enc))
theorem HA.nil(G):HA G G [] []:=⟨.refl _,i7,(λa h=>by cases h),rfl,λi a r h=>by simp at h⟩
theorem HA.new(h:HA G G' as rs)(hp:G' p=none):p∉as:=λz=>by
 obtain⟨i,hi⟩:=oE z;have h1:i<rs.length:=by rw[<-h.len];exact(List.getElem?_eq_some_iff.mp hi).1
 rw[h.at' i p rs[i] hi (bo h1)] at hp;cases hp
theorem HA.push(h:HA G G' as rs)(hp:G' p=none)(r):HA G (ck G' p (.lst (r.map enc))) (as++[p]) (rs++[r]):=by
 have YI:=h.new hp;refine⟨h.le.trans (.new hp),?_,?_,by simp[h.len],?_⟩
 .rw[eR];refine⟨h.nd,by simp,λa ha b hb e=>?_⟩;rw[gY] at hb;subst hb e;exact YI ha
 .intro a h0;rcases List.mem_append.mp h0 with z |z
  .exact h.fr a z
  .rw[gY] at z;subst z;exact h.le.free hp
 .intro i b s h1 h2;by_cases hi:i<as.length
  .rw[cm hi] at h1;rw[cm (by rw[<-h.len];lia)] at h2;have:b≠p:=by rintro rfl;exact YI (eS h1)
   rw[dm this];exact h.at' i b s h1 h2
  .rw[bL (@e)] at h1;rw[bL (by rw[<-h.len];lia)] at h2;have i0:i-as.length=0:=by have:=(List.getElem?_eq_some_iff.mp h1).1;simp at this;lia
   rw[i0] at h1;rw[<-h.len,i0] at h2;simp at h1 h2;subst h1 h2;exact az
theorem HA.top(h:HA G G' as rs)(hp:G' p=none):HR G (ck G' p (.lst (as.map D.ref))) p as rs :=
 ⟨h.le.trans (.new hp),h.le.free hp,az,h.new hp,h.nd,h.fr,h.len,λi b r h1 h2=>(cO.new hp) _ _ (h.at' i b r h1 h2)⟩
theorem tU{rows:Rows}{G:Gp}{Q:DK}(hl:rows.length<=1000){τ:ik}(q:∀G' p as,HR G G' p as rows->Q (.ref p) G'):
  QM (@L) G λds ok G1=>ds.length<=SZ/\jO (aE 0) none (gJ oA (ah @d aA)) ok ds (@f) (vF 1 [] τ) G1 [] λxs G2=>jN G2 (.lst xs) Q:=by
 refine dZ ⟨Cn (by rw[ax];exact hl),?_⟩;refine gX (xs:=rows) (λpre acc τ G'=>(∃a,τ=[a])/\∃as:List Nat,acc=as.map D.ref/\HA G G' as pre) ⟨⟨_,rfl⟩,[],rfl,.nil G⟩ (λ_ _ _ _ _=>trivial) ?_ ?_
 .rintro pre r post acc τ G' N e ⟨⟨a,rfl⟩,as,rfl,h⟩ hN;simp only[aE,gJ,ah,ak,aj,ae,aA];refine BY (IsL.enc r) λp hp=>?_;exact hN _ _ _ ⟨⟨_,rfl⟩,as++[p],by simp,h.push hp r⟩
 .rintro acc τ G' ⟨⟨a,rfl⟩,as,rfl,h⟩ p hp;exact q _ p as (h.top hp)
def gN:di:=λds G Q _=>∃(rows:Rows) (c:Int),ds=[@L,.int c]/\(1<=rows.length/\rows.length<=3/\rows.flatten.length<=22) /\
 ∀(rQ:Rows) (m hd:Int),rQ.length=rows.length->rQ.flatten.Perm (⟨m,1,hd⟩::⟨m,0,hd⟩::rows.flatten)->m∉pz rows.flatten->(hd=1\/hd=-1)->Q (enc rQ) G
def r0:da :=
 (aU (aS (aO nU (ah (aO fE (ah @d aA)) (ah @g aA))) (aE 2))
 (aU (aS (aO ml (ah @g aA)) (aE 3))
 (aU (aS (aG CA @s (aG ud @N (aG jJ (ak 3) @N))) (aE 4))
 (aU (aS (aG wM (ak 3) @N) (aE 3))
 (aU (aS (eK 1 [] (ig @d) (aE 0) none (gJ oA (ah @d aA))) (aE 5))
 (aU (c4 (lN @N) (aE 6) (aU (aS (aG cK (ak 5) (aG jJ (ak 3) (gJ iL (ah (ak 5) aA)))) (aE 7))
 (aU (aS (aG wM (ak 3) (gJ iL (ah (ak 5) aA))) (aE 3))
 (aU (bw (iZ pY tK (ak 7) (ah (aG jJ (ak 3) (aG iK (gJ iL (ah (ak 7) aA)) @s)) (ah (bJ (ah @l (ah (ak 6) (ah (ak 4) aA)))) aA))))
 (aS (aG wM (ak 3) (gJ iL (ah (ak 7) aA))) (aE 3))))))
 (bc (b5 (ak 5)))))))))
theorem sY(ds)(G)(Q)(h:gN ds G Q @f):r0 (@f) @q (aJ 8 ds) G:=by
 obtain⟨rows,c,rfl,⟨n1,n3,hf⟩,q⟩:=h;unfold r0;simp only[ends,aJ,av,aF,ai,aq,aN,aw,ay,bT,aS,aO,ah,ak,ae,aA,af,aE,ao,aj,aG,dC,eK,cq];refine⟨rows,rfl,(show rows.flatten.length<=500 by lia),?_⟩;have ol:=mq rows.flatten;refine⟨pz rows.flatten,c,rfl,@e,λm hm m1 m2=>?_⟩;simp only[b5,aJ,ends,aY,aG,rq,ak,gJ,iZ,ah,aA,bc,Hi,bw,aS,aE,dC,aX,bJ,cg,sU,mz,qA,sT,iG,ny,qz,pM,lT,cM,bU,cq,eQ,aO,eK,dN,sk,jv,ng,iW,mY,cV,iE,fx,tJ,wJ,lA,wL,bG,mZ,fH,wI,lz,pQ,pP,pO,cb,jW,jV,iA,dU,qi,vX,vW,true_and,and_true,w8,tO,b8,aC,dI,pE,w6,pD,av,aF,aw,ay,ae,af,aj,ao,ai,aq,aN,if_true,if_false,aK,aI,ag,bT,cN];refine⟨c,rfl,?_⟩;simp only[iE,cV,mY,iW];have mx:0<=mixed c:=by unfold mixed;lia
 generalize mixed c=x at *;refine⟨@c,.inl ⟨@c,@c⟩,@c,@c,?_⟩;have hh:1-2*(x % 2)=1\/1-2*(x % 2)=-1:=@e
 generalize 1-2*(x % 2)=hd at *;have x2:0<=x / 2:=@e
 generalize x / 2=x at *;refine tU (rows:=rows) (@e) λG1 p0 as hr=>?_;refine bp (λτ G'=>(∃a b e,τ=[@p,some (.int c),some (.int m),a,some (.int hd),some (.ref p0),b,e])/\∃LN,HR G G' p0 as LN/\LN.length=rows.length/\LN.flatten.Perm (⟨m,1,hd⟩::⟨m,0,hd⟩::rows.flatten)) ?_ ?_
 .intro N hN;simp only[c4,eQ,dC,dI];refine⟨@c,@c,?_⟩;unfold fe;refine cT (xs:=dG (2:Int).toNat) (λpw τ G'=>∃LN y,0<=y/\(∃b e,τ=[@p,some (.int c),some (.int m),some (.int y),some (.int hd),some (.ref p0),b,e])/\HR G G' p0 as LN/\LN.length=rows.length/\LN.flatten.Perm ((pw.map λ(i:Nat)=>(⟨m,0+(i:Int),hd⟩:T3)).reverse++rows.flatten)) ⟨rows,x,x2,⟨_,_,rfl⟩,hr,rfl,.refl _⟩ @Y ?_ ?_
  .rintro pw w post τ G2 N2 e ⟨rs,y,y0,⟨b1,b2,rfl⟩,h2,l2,p2⟩ nP;have hw:pw.length<2:=by
    have:=congrArg cU e;rw[c6,aM,ai] at this;have h4:(2:Int).toNat=2:=rfl;lia
   simp only[aE,ao,aj,bZ,aS,aG,ak,af,ae,gJ,ah,aA,bw,iZ,dC,bJ,ai,aq];refine d8 (IsL.ref h2.gp) ?_;rw[ax,h2.len];simp only[cV];refine⟨@e,?_⟩;have j1:0<=y % (rs.length:Int):=qf _ (@e);have j2:y % (rs.length:Int)<rs.length:=lU _ (@e);generalize y % (rs.length:Int)=j at *;obtain⟨a,r,ea,er,ga,xa⟩:=HR.at_ h2 j1 j2;refine dS (IsL.ref h2.gp) xa ?_;refine d8 (IsL.ref h2.gp) ?_;rw[ax,h2.len];have y3:0<=y / (rs.length:Int):=Int.ediv_nonneg y0 (@e);simp only[dU,iE,ga,true_and];refine⟨@e,@e,?_⟩;generalize y / (rs.length:Int)=y at *;refine d8 (IsL.ref ga) ?_;rw[ax];simp only[dN,cV,jV];have k1:0<=y % ((r.length:Int)+1):=qf _ (@e);have k2:y % ((r.length:Int)+1)<(r.length:Int)+1:=lU _ (@e);refine⟨@e,@c,?_⟩;generalize y % ((r.length:Int)+1)=k at *;have rl:r.length<=24:=by
    have h3:=gT (eS er);have h4:=p2.length_eq;rw[aM,List.length_reverse,ax] at h4;lia
   simp only[ga];refine⟨k1,by rw[ax];lia,qY (by rw[ax];lia),?_⟩;rw[show(D.tup [.int m,.int (0+(w:Int)),.int hd])=enc (⟨m,0+(w:Int),hd⟩:T3) from rfl,SD];have h5:=h2.put (r':=ins r k.toNat ⟨m,0+(w:Int),hd⟩) ea;have g5:(ck G2 a (.lst ((ins r k.toNat ⟨m,0+(w:Int),hd⟩).map enc))) a=some (.lst ((ins r k.toNat ⟨m,0+(w:Int),hd⟩).map enc)):=az;generalize ck G2 a (.lst ((ins r k.toNat ⟨m,0+(w:Int),hd⟩).map enc))=G5 at *;refine d8 (IsL.ref g5) ?_;rw[ax];simp only[iE];have li:(ins r k.toNat (⟨m,0+(w:Int),hd⟩:T3)).length=r.length+1:=by
    have:=(GJ r k.toNat (⟨m,0+(w:Int),hd⟩:T3)).length_eq;rw[ai] at this;exact this
   rw[li];refine⟨@e,@e,?_⟩;refine nP _ _ ⟨_,_,Int.ediv_nonneg y3 (@e),⟨_,_,rfl⟩,h5,by rw[fB];exact l2,?_⟩;refine(Gh (GJ _ _ _) rs _ er).trans ?_;rw[aH,List.reverse_append];exact .cons _ p2
  .rintro τ G2 ⟨rs,y,y0,⟨b1,b2,rfl⟩,h2,l2,p2⟩;exact hN _ _ ⟨⟨_,_,_,rfl⟩,rs,h2,l2,p2⟩
 .rintro _ G2 ⟨⟨a,b,e,rfl⟩,rs,h2,l2,p2⟩;simp only[bc,b5,ak,af,ae];exact h2.fz (q rs m hd l2 p2 hm hh)
end Nb
namespace D3
open K2.P
open K2.Mo
open K2.nQ (bR jy nC jK)
open K2.lF (HR gw)
open K2.rh (kH Ro)
open K2.tm (bA dE)
theorem Om(a)(r):jm s ps (a++[r]) 0=jm s ps a 0++[gS s ps a.length r]:=by
 rw[sm];simp[jm]
theorem Eo:∀(r:@B),(r.flatMap (yv s ps)).length<=r.length*(ps.length+1)
 |[]=>by simp
 |a::r=>by
  rw[cJ,aM,ai,Nat.add_mul];have:=Eo (s:=s) (ps:=ps) r;have h2:(yv s ps a).length<=ps.length+1:=by unfold yv;split<;>simp
  lia
def A1:da :=
 (aU (aS (cg aA) (aE 3))
 (aU (c4 (lN (gJ iL (ah @d aA))) (aE 4) (aU (aS (cg aA) (aE 5))
 (aU (bF (bX (aG @G @g (bJ (ah (ak 4) (ah @N aA))))) (aS (gJ oA (ah @l aA)) (aE 5)) aX)
 (aU (c4 (ig (aG cK @d (ak 4))) (aE 6) (aU (bw (iZ pY du (ak 5) (ah (b5 (ak 6)) aA)))
 (bF (bX (aG @G @g (bJ (ah (aG cK (ak 6) @C) (ah (aG cK (ak 6) @s) aA))))) (aS (aG iK (ak 5) @l) (aE 5)) aX)))
 (bw (iZ pY du (ak 3) (ah (b5 (ak 5)) aA)))))))
 (bc (b5 (ak 3)))))
def fP:di:=λds G Q _=>∃(rows:Rows) (s:T2) (d:D) (ps:@B),ds=[@L,enc s,d]/\IsL G d (ps.map enc)/\(rows.length<=100/\(∀r∈rows,r.length<=100)/\ps.length<=4)/\Q (enc (jm s ps rows 0)) G
theorem B8(ds)(G)(Q)(h:fP ds G Q @f):A1 (@f) @q (aJ 7 ds) G:=by
 obtain⟨rows,s,d,ps,rfl,hd,⟨hl,hr,hps⟩,q⟩:=h;unfold A1;simp only[ends,aJ,av,aF,ai,aq,aN,aw,ay,bT,aS,cg,aA,aE,ao,aj];refine⟨@c,λp hp=>?_⟩;refine bp (λτ G'=>@w/\G' p=some (.lst ((jm s ps rows 0).map enc))/\∃a b c,τ=[@p,some (enc s),some d,@K,a,b,c]) ?_ ?_
 .intro N hN;simp only[c4,eQ,gJ,ah,ak,ae,aA];refine d8 (IsL.enc rows) ?_;simp only[ax,dI];refine⟨@e,@e,?_⟩;refine BA (λpre τ G'=>@w/\G' p=some (.lst ((jm s ps (rows.take pre.length) 0).map enc))/\∃a b c,τ=[@p,some (enc s),some d,@K,a,b,c]) ⟨.new hp,az,_,_,_,rfl⟩ @Y ?_ ?_
  .rintro pre x post τ G1 N1 e ⟨l1,g1,a,b,c,rfl⟩ Xn;obtain⟨rfl,hk⟩:=mX e;have hk:pre.length<rows.length:=by simpa using hk
   obtain⟨r,er⟩:∃r,rows[pre.length]?=some r:=⟨rows[pre.length],bo hk⟩;have SF:=hr r (eS er);have MM:mH (rows.map enc) ((pre.length:Nat):Int)=some (enc r):=by
    rw[eY _ (@e) (by rw[ax];lia)];simp only[fu,cP];rw[bo hk] at er;injection er with er
    rw[er]
   simp only[aE,ao,aj,bT,aS,cg,aA,aq];refine⟨@c,λp5 Nt=>?_⟩
   let X:@B:=if s=⟨(pre.length:Nat),2⟩ then ps else []
   let j5:D->Option D->ik:=λx c=>[@p,some (enc s),some d,@K,some (.int (pre.length:Nat)),some x,c]
   have hX:X.length<=4:=by
    show(if s=⟨(pre.length:Nat),2⟩ then ps else []).length<=4;split
    .lia
    .simp
   refine bp (λτ G2=>∃a,cO G1 G2/\G1 a=none/\G2 a=some (.lst (X.map enc))/\τ=j5 (@m) c) ?_ ?_
   .intro N hN;simp only[bF,aS,gJ,ah,ak,af,ae,aA,aE,ao,aj,aX,aY,aG,bJ,dC,ai,aq];refine⟨@c,?_⟩;refine b7 (x:=s) (y:=(⟨(pre.length:Nat),2⟩:T2)) (@c) ?_;by_cases hs:s=⟨(pre.length:Nat),2⟩
    .rw[show decide (s=(⟨(pre.length:Nat),2⟩:T2))=true from decide_eq_true hs];simp only[ag,aK,if_false,aC,if_true];refine BY (hd.mono (l1.trans (.new Nt))) λp6 ZT=>hN _ _ ⟨p6,(cO.new Nt).trans (.new ZT),(cO.new Nt).free ZT,?_,rfl⟩;show _=some (GO.lst ((if s=⟨(pre.length:Nat),2⟩ then ps else []).map enc));rw[if_pos hs];exact az
    .simp only[ag,hs,decide_false,aI,if_false,aC];refine hN _ _ ⟨p5,.new Nt,Nt,?_,rfl⟩;show _=some (GO.lst ((if s=⟨(pre.length:Nat),2⟩ then ps else []).map enc));rw[if_neg hs];exact az
   rintro _ G2 ⟨a2,l2,f2,g2,rfl⟩;refine bp (λτ G3=>∃a c,cO G1 G3/\G1 a=none/\G3 a=some (.lst ((gS s ps pre.length r).map enc))/\τ=j5 (@m) c) ?_ ?_
   .intro N hN;simp only[c4,cq,aG,ak,ae,af,j5];refine dS (IsL.enc rows) MM (dZ ?_);refine cT (xs:=r) (λpr τ G3=>∃a c,cO G1 G3/\G1 a=none/\G3 a=some (.lst ((X++pr.flatMap (yv s ps)).map enc))/\τ=j5 (@m) c) ⟨a2,c,l2,f2,by simpa using g2,rfl⟩ @Y ?_ ?_
    .rintro pr t po τ G3 N3 e3 ⟨a3,c3,l3,f3,g3,rfl⟩ vP;have fX:pr.length<r.length:=by have:=congrArg cU e3;simp at this;lia
     have hz:=Eo (s:=s) (ps:=ps) pr;have YA:pr.length*(ps.length+1)<=100*5:=Nat.mul_le_mul (@e) (@e);simp only[aE,ao,aj,cN,bw,iZ,ak,af,ae,dU,g3,ah,b5,aA,cb,true_and,j5];refine cF ?_;simp only[g3];refine⟨qY (by rw[ax,aM];lia),?_⟩;simp only[bF,iY,aS,aG,ak,af,ae,aE,ao,aj,jv,aX,aY,bJ,ah,dC,aA,ai,aq,bG,rz,rB];refine⟨@c,?_⟩;refine b7 (x:=s) (y:=t.s) (@c) ?_;have e4:(X++pr.flatMap (yv s ps)).map enc++[D.tup [.int t.a,.int t.b,.int t.c]]=(X++pr.flatMap (yv s ps)++[t]).map (enc (α:=T3)):=by rw[aH (l₁:=X++pr.flatMap (yv s ps))];rfl
     rw[e4];by_cases hs:s=t.s
     .rw[show decide (s=t.s)=true from decide_eq_true hs];simp only[ag,aK,if_false,aC,if_true];refine qp (.ref az) (hd.mono ((l1.trans l3).put (l1.free f3))) (Cn (by simp only[ax,aM,dO];lia)) λp7 hp7=>?_;refine vP _ _ ⟨p7,_,(l3.put f3).trans (.new hp7),(l3.put f3).free hp7,?_,rfl⟩;rw[az,iP,cJ,List.flatMap_nil];have:yv s ps t=t::ps:=by unfold yv;rw[if_pos hs.symm]
      rw[this,<-aH];simp
     .simp only[ag,hs,decide_false,aI,if_false,aC];refine vP _ _ ⟨a3,_,l3.put f3,f3,?_,rfl⟩;rw[az,iP,cJ,List.flatMap_nil];have:yv s ps t=[t]:=by unfold yv;rw[if_neg λz=>hs z.symm]
      rw[this,bH,bM]
    .rintro τ G3 ⟨a3,c3,l3,f3,g3,rfl⟩;exact hN _ _ ⟨a3,c3,l3,f3,g3,rfl⟩
   rintro _ G3 ⟨a3,c3,l3,f3,g3,rfl⟩;simp only[bw,iZ,ak,af,ae,dU,l3 _ _ g1,ah,b5,aA,cb,true_and,j5];have hz:=Eo (s:=s) (ps:=ps) r;have YA:r.length*(ps.length+1)<=100*5:=Nat.mul_le_mul (@e) (@e);refine ij (xs:=gS s ps pre.length r) l3 f3 g3 ?_;simp only[g1];have hrp:rows.take (pre.length+1)=rows.take pre.length++[r]:=by
    rw[List.take_succ,er];rfl
   refine⟨qY (by rw[ax,lB,cz];lia),Xn _ _ ⟨l1.put hp,?_,_,_,_,rfl⟩⟩;rw[az,aM,dO,hrp,Om,cz,qe (@e)];rw[aH (l₁:=jm s ps (rows.take pre.length) 0)];rfl
  .rintro τ G' ⟨l,g,a,b,c,rfl⟩;refine hN _ _ ⟨l,?_,a,b,c,rfl⟩;have:rows.take (fe 0 (rows.length:Int).toNat).length=rows:=by unfold fe;simp
   rw[this] at g;exact g
 .rintro _ G' ⟨l,g,a,b,c,rfl⟩;simp only[bc,b5,ak,af,ae];exact ij l hp g q
end D3
namespace D3
open K2.P
open K2.Mo
open K2.nQ (bR jy nC jK)
open K2.lF (HR gw)
open K2.rh (kH Ro)
open K2.tm (bA dE)
def wz:da :=
 (aU (aS (cg aA) (aE 1))
 (aU (c4 (ig @d) (aE 2) (aU (aS @C (aE 3))
 (aU (bF (bX @l) (aS (iZ pY oI @l (ah (gJ Hn (ah @l aA)) aA)) (aE 3)) aX)
 (bw (iZ pY du @g (ah (b5 (aG iK (lT @l (gW (ak 3)) bU) (lT @l bU (gW (ak 3))))) aA))))))
 (bc (b5 @g))))
def dq:di:=λds G Q _=>∃rows:Rows,ds=[@L]/\(rows.length<=500/\∀r∈rows,r.length<=500)/\Q (enc (rows.map bR)) G
theorem xQ(ds)(G)(Q)(h:dq ds G Q @f):wz (@f) @q (aJ 4 ds) G:=by
 obtain⟨rows,rfl,⟨hl,hr⟩,q⟩:=h;unfold wz;simp only[ends,aJ,av,aF,ai,aq,aN,aw,ay,bT,aS,cg,aA,aE,ao,aj];refine⟨@c,λp hp=>?_⟩;refine bp (λτ G'=>@w/\G' p=some (.lst ((rows.map bR).map enc))/\∃a b,τ=[@p,@K,a,b]) ?_ ?_
 .intro N hN;simp only[c4,cq,ak,ae];refine dZ ?_;refine cT (xs:=rows) (λpre τ G'=>@w/\G' p=some (.lst ((pre.map bR).map enc))/\∃a b,τ=[@p,@K,a,b]) ⟨.new hp,az,_,_,rfl⟩ @Y ?_ ?_
  .rintro pre r post τ G1 N1 e ⟨l1,g1,a,b,rfl⟩ Xn;have SF:=hr r (by rw[e];simp);have fX:pre.length<rows.length:=by have:=congrArg cU e;simp at this;lia
   simp only[aE,ao,aj,bT,aS,dC];refine bp (λτ G'=>G1=G'/\τ=[@p,@K,some (enc r),some (.int ((r.idxOf (jy r):Nat):Int))]) ?_ ?_
   .intro N hN;simp only[bF,aS,iZ,ak,af,ae,ah,gJ,aA,aE,ao,aj,aX,aY];refine AQ (IsL.enc r) ?_;cases r with
    |nil=>
     simp only[aF,u7,aK,ag,if_false];exact hN _ _ @R
    |cons x r=>
     simp only[av,tF,aI,if_true];refine⟨trivial,nC rfl @k (jK trivial rfl @k ?_)⟩;exact hN _ _ @R
   rintro _ _ ⟨rfl,rfl⟩;simp only[bw,iZ,ak,af,ae,dU,g1,ah,b5,aG,lT,bU,aA,cb,cM,b8,true_and];have ZW:r.idxOf (jy r)<=r.length:=oC;refine rh.U4 (IsL.enc r) ZW (@e) ?_;simp only[g1];refine⟨qY (by simp only[ax];lia),Xn _ _ ⟨l1.put hp,?_,_,_,rfl⟩⟩;rw[az,aH,aH];rfl
  .rintro τ G' ⟨l,g,a,b,rfl⟩;exact hN _ _ ⟨l,g,a,b,rfl⟩
 .rintro _ G' ⟨l,g,a,b,rfl⟩;simp only[bc,b5,ak,af,ae];exact ij l hp g q
end D3
namespace Ts
open K2.P
section
variable {α β:Type} [@V] [DecidableEq β]
variable {V:@H} {R:α->α->Prop}
variable {f:α->α}
theorem O1:∀(xs ys:@H),xs.Nodup->(∀x∈xs,x∈ys)->xs.length<=ys.length
 |[],_,_,_=>eB _
 |x::xs,ys,hn,h=>by
  rw[c5] at hn;have:=O1 xs (ys.erase x) hn.2 λy hy=>(yR (show y≠x from λz=>hn.1 (by rw[<-z];exact hy))).mpr (h y (aP _ hy));have hx:=h x @k;rw[tE hx] at this;have:=vN hx;rw[ai];lia
end
end Ts
namespace Ts
open K2.P
variable {rows:Rows}
theorem O2(d:@J):(@y).Nodup:=by
 unfold names;refine LF ?_;have h:(rows.flatten.filter λp=>p.b == 0).Pairwise λp q=>p.s≠q.s:=by
  have:=d.nd;unfold Lu at this;rw[tD] at this;exact this.filter _
 unfold Lu;rw[tD];refine h.imp_of_mem λ{p q} hp hq ne z=>ne ?_;have h1:p.b=0:=by simpa using (List.mem_filter.mp hp).2
 have h2:q.b=0:=by simpa using (List.mem_filter.mp hq).2
 unfold T3.s;rw[z,h1,h2]
theorem twice(d:@J):rows.flatten.length=2*(@y).length:=by
 have e0:(@y).length=(rows.flatten.filter λp=>p.b == 0).length:=by unfold names;rw[Kb,ax]
 have nd:rows.flatten.Nodup:=by
  have:=d.nd;unfold Lu at this;rw[tD] at this;exact this.imp λ{u v} q z=>q (by rw[z])
 have h1:rows.flatten.length=(rows.flatten.filter λp=>p.b == 0).length+(rows.flatten.filter λp=>!(p.b == 0)).length:=by
  rw[<-FV,<-FV];rw[List.length_eq_countP_add_countP (λp:T3=>p.b == 0) (l:=rows.flatten)];congr 1;refine List.countP_congr λx _=>?_;simp
 have TJ:∀{L:@B},L.Nodup->(L.map om).Nodup:=by
  intro L h;unfold Lu;rw[tD];exact h.imp λ{u v} q z=>q (by rw[<-TH u,z,TH])
 have a1:=O1 ((rows.flatten.filter λp=>p.b == 0).map om) (rows.flatten.filter λp=>!(p.b == 0)) (TJ (nd.filter _)) λx hx=>by
  obtain⟨p,hp,rfl⟩:=List.mem_map.mp hx;obtain⟨h1,h2⟩:=List.mem_filter.mp hp;have h2:p.b=0:=by simpa using h2
  refine List.mem_filter.mpr ⟨OW d h1,?_⟩;show(!(1-p.b == 0))=true;rw[h2];rfl
 have a2:=O1 ((rows.flatten.filter λp=>!(p.b == 0)).map om) (rows.flatten.filter λp=>p.b == 0) (TJ (nd.filter _)) λx hx=>by
  obtain⟨p,hp,rfl⟩:=List.mem_map.mp hx;obtain⟨h1,h2⟩:=List.mem_filter.mp hp;have h2:p.b≠0:=by simpa using h2
  have h3:=(d.way p h1).resolve_left h2;refine List.mem_filter.mpr ⟨OW d h1,?_⟩;show(1-p.b == 0)=true;rw[h3];rfl
 rw[ax] at a1 a2;lia
end Ts
namespace Mo
open K2.P
open K2.nQ (bR)
open K2.lF (HR)
open K2.rh (kH Ro)
open K2.tm (bA dE)
structure Zz(rows:Rows)(n:Int)(s:T2):Prop where
 d:@J
 zm:rows.flatten.length<=22
 hs:s∈bz rows 0
 fr:∀p∈rows.flatten,p.a≠n
theorem Ml(d:@J)(h:rows.flatten.length<=22):(@y).length<=11:=by
 have:=Ts.twice d;lia
theorem lL(d:rC rows)(h:s∈bz rows 0):∀r∈jm s ps rows 0,r.length<=rows.flatten.length+ps.length:=λr hr=>by
 have h1:=lF.gT hr;rw[(pb (ps:=ps) d (Kc h)).length_eq,aM] at h1;lia
def wG:da :=
 (aU (bw (aO iC (ah @g (ah (cg (ah (bh ["Curl"] "name" @d) aA)) aA))))
 (aU (aS (cg (ah (bJ (ah (bh ["Curl"] "name" @d) (ah (bh ["Curl"] "first" @d) (ah (bh ["Curl"] "hand" @d) aA)))) (ah (bJ (ah (bh ["Curl"] "name" @d) (ah (aG CA @s (bh ["Curl"] "first" @d)) (ah (bh ["Curl"] "hand" @d) aA)))) aA))) (aE 2))
 (bc (b5 (aO bA (ah (aO iS (ah @g (ah (bh ["Curl"] "spot" @d) (ah @l aA)))) aA))))))
def eO:di:=λds G Q _=>∃(p:Nat) (n:Int) (s:T2) (f h:Int) (rows:Rows),ds=[.ref p,@L]/\zH G p (.cu n s f h)/\Zz rows n s/\∀q as G',HR G G' q as ((jm s (cps n f h) rows 0).map bR)->Q (.ref q) G'
theorem Fu(ds)(G)(Q)(h:eO ds G Q @f):wG (@f) @q (aJ 3 ds) G:=by
 obtain⟨p,n,s,f,h,rows,rfl,g,c,q⟩:=h;obtain⟨EO,Aw,zk⟩:=gV c.d;have SJ:=c.zm;unfold wG;simp only[ends,aJ,av,aF,ai,aq,aN,aw,ay,cN,bw,aO,ah,ak,af,ae,cg,bh,aA,bT,aS,bJ,aG,dC,aE,bc,b5,ao,aj];refine at_ g ⟨@c,λpl fX=>?_⟩;refine⟨rows,_,[n],rfl,.ref az,⟨zk,by have:=Ml c.d c.zm;simp;lia,by simp,λm hm z=>?_⟩,λG1 l1=>?_⟩
 .rw[List.mem_singleton.mp hm] at z;obtain⟨x,hx,_,e⟩:=d4.mp z;exact c.fr x hx e
 have L:=(cO.new fX).trans l1;have g1:=L _ _ g;refine at_ g1 (at_ g1 (at_ g1 ⟨@c,at_ g1 (at_ g1 ?_)⟩));simp only[iW];refine at_ g1 ⟨@c,@c,λp2 oq=>?_⟩;have l2:=cO.new (o:=.lst ((cps n f h).map enc)) oq;refine at_ (l2 _ _ g1) ?_;refine⟨rows,s,_,cps n f h,rfl,.ref az,⟨c.d.dn,c.hs,EO,Aw,by simp[cps]⟩,?_⟩;refine⟨_,rfl,⟨by rw[lB];lia,λr hr=>?_⟩,λq' as G' hr=>cF (q q' as G' (qu hr (L.trans l2)))⟩;have:=lL (ps:=cps n f h) c.d.dn c.hs r hr;rw[show(cps n f h).length=2 from rfl] at this;lia
def wH:da :=
 (aU (bw (cW [("Curl",eO)] "done" @d (ah @g aA)))
 (bc (b5 (gv "Uncurl" fR (ah (bh ["Curl"] "name" @d) aA)))))
def kF:di:=λds G Q _=>∃(p:Nat) (n:Int) (s:T2) (f h:Int) (rows:Rows),ds=[.ref p,@L]/\zH G p (.cu n s f h)/\Zz rows n s/\∀q G',@w->G q=none->zH G' q (.un n)->Q (.ref q) G'
theorem Fv(ds)(G)(Q)(h:kF ds G Q @f):wH (@f) @q (aJ 2 ds) G:=by
 obtain⟨p,n,s,f,h,rows,rfl,g,c,q⟩:=h;unfold wH;simp only[ends,aJ,av,aF,ai,aq,aw,ay,cN,bw,cW,ak,ae,ah,af,aA,bc,b5,gv,bh];refine⟨p,_,_,eO,rfl,g,@ag,rfl,⟨p,n,s,f,h,rows,rfl,g,c,λq1 as G1 hr=>?_⟩⟩;refine at_ (hr.le _ _ g) λq' Cq=>⟨q',n,rfl,az,rfl,cF (q q' _ ?_ ?_ ?_)⟩
 .rw[oF];exact hr.le.trans (.new Cq)
 .exact hr.le.free Cq
 .rw[oF];exact az
end Mo
namespace Mo
open K2.P
open K2.nQ (bR)
open K2.lF (HR)
open K2.rh (kH Ro)
open K2.tm (bA dE b6)
def qN:da :=
 (bc (b5 (cg (ah (bJ (ah (bh ["Lay"] "name" @d) (ah @g (ah (bh ["Lay"] "hand" @d) aA)))) (ah (bJ (ah (bh ["Lay"] "second" @d) (ah @g (ah (rq vi (bh ["Lay"] "hand" @d)) aA)))) aA)))))
def cp:di:=λds G Q _=>∃(p:Nat) (a b:Int) (o u:T2) (t h w:Int),ds=[.ref p,.int w]/\zH G p (.la a b o u t h)/\∀q,G q=none->Q (.ref q) (ck G q (.lst ((sC a b w h).map enc)))
theorem zY(ds)(G)(Q)(h:cp ds G Q @f):qN (@f) @q (aJ 2 ds) G:=by
 obtain⟨p,a,b,o,u,t,h,w,rfl,g,q⟩:=h;unfold qN;simp![bc,b5,cg,ah,bJ,bh,ak,aJ,aA,rq,ends];refine at_ g (at_ g ⟨@c,at_ g (at_ g ?_)⟩);simp only[↓fx];exact⟨@c,@c,λq' Cq=>cF (q q' Cq)⟩
theorem Q9(c:Ib rows a b o u t h):(zL rows a b o h).length<=500/\∀r∈zL rows a b o h,r.length<=500:=by
 have:=c.d.str;have:=c.zm;refine⟨by unfold zL;rw[lB];lia,λr hr=>?_⟩;have:=lL (ps:=sC a b 0 h) c.d.dn c.ho r hr;rw[show(sC a b 0 h).length=2 from rfl] at this;lia
theorem Rx(c:Ib rows a b o u t h):(raw rows a b o u t h).length<=500/\∀r∈raw rows a b o u t h,r.length<=500:=by
 obtain⟨h1,h2,_⟩:=gV (IH c);exact⟨h1,h2⟩
theorem Mj(d:@J)(h:rows.flatten.length<=20):(@y).length<=10:=by
 have:=Ts.twice d;lia
def zc:da :=
 (aU (bw (aO iC (ah @g (ah (cg (ah (bh ["Lay"] "name" @d) (ah (bh ["Lay"] "second" @d) aA))) aA))))
 (aU (bF (bX (aG @G (bh ["Lay"] "under" @d) (bJ (ah (bh ["Lay"] "name" @d) (ah @C aA))))) dJ aX)
 (aU (aS (aO iS (ah @g (ah (bh ["Lay"] "over" @d) (ah (cW [("Lay",cp)] "passings" @d (ah @C aA)) aA)))) (aE 2))
 (aU (aS (E9 (bX (aG @G (bh ["Lay"] "turned" @d) @C)) (cW [("Lay",cp)] "passings" @d (ah @s aA)) (BU (cW [("Lay",cp)] "passings" @d (ah @s aA)) (gW (rq vi @s)))) (aE 3))
 (bc (b5 (aO bA (ah (aO iS (ah @l (ah (bh ["Lay"] "under" @d) (ah (ak 3) aA)))) aA))))))))
def fc:di:=λds G Q _=>∃(p:Nat) (a b:Int) (o u:T2) (t h:Int) (rows:Rows),ds=[.ref p,@L]/\zH G p (.la a b o u t h)/\Ib rows a b o u t h/\∀q as G',HR G G' q as (laid rows a b o u t h)->Q (.ref q) G'
theorem HE(ds)(G)(Q)(h:fc ds G Q @f):zc (@f) @q (aJ 4 ds) G:=by
 obtain⟨p,a,b,o,u,t,h,rows,rfl,g,c,q⟩:=h;obtain⟨EO,Aw,zk⟩:=gV c.d;unfold zc;refine bp (λτ G'=>@w/\τ=[@K,@p,none,none]) ?_ ?_
 .intro N hN;simp![bw,aO,ah,ak,aJ,aN,cg,bh,aA];refine at_ g (at_ g ⟨@c,λpl fX=>?_⟩);refine⟨rows,_,[a,b],rfl,.ref az,⟨zk,by have:=Mj c.d c.zm;simp;lia,by simp[c.ne],λm hm z=>?_⟩,λG1 l1=>hN _ _ ⟨(cO.new fX).trans l1,rfl⟩⟩;obtain⟨x,hx,_,e⟩:=d4.mp z;simp only[bN,bf,or_false] at hm;rcases hm with rfl |rfl
  .exact c.fa x hx e
  .exact c.fb x hx e
 rintro _ G1 ⟨l1,rfl⟩;have g1:=l1 _ _ g;refine bp (λτ G'=>G1=G'/\τ=[@K,@p,none,none]) ?_ ?_
 .intro N hN;simp![bF,aG,bh,ak,bJ,ah,dC,aA,ends,aX];refine at_ g1 (at_ g1 ⟨@c,?_⟩);refine b7 (x:=u) (y:=(⟨a,0⟩:T2)) (@c) ?_;rw[show decide (u=(⟨a,0⟩:T2))=false from decide_eq_false c.hn];simp!;exact hN _ _ @R
 rintro _ _ ⟨rfl,rfl⟩;refine bp (λτ G'=>@w/\τ=[@K,@p,some (enc (zL rows a b o h)),none]) ?_ ?_
 .intro N hN;simp![aS,aO,ah,ak,bh,cW,dC,aA,aE];refine at_ g1 ⟨p,_,_,cp,rfl,g1,@ag,rfl,⟨p,a,b,o,u,t,h,0,rfl,g1,λq2 Cp=>?_⟩⟩;exact⟨rows,o,_,sC a b 0 h,rfl,.ref az,⟨c.d.dn,c.ho,EO,Aw,by simp[sC]⟩,hN _ _ ⟨l1.trans (.new Cp),rfl⟩⟩
 clear g1 l1;rintro _ G1 ⟨l1,rfl⟩;have g1:=l1 _ _ g;refine bp (λτ G'=>∃q3,@w/\G' q3=some (.lst ((Dy a b t h).map enc))/\τ=[@K,@p,some (enc (zL rows a b o h)),some (.ref q3)]) ?_ ?_
 .intro N hN;simp![aS,E9,aG,bh,ak,dC,cW,ah,aA,aE];refine at_ g1 ?_;refine b7 (α:=Int) (x:=t) (y:=0) (@c) ?_;by_cases ht:t=0
  .rw[show decide (t=0)=true from decide_eq_true ht];simp!;refine⟨p,_,_,cp,rfl,g1,@ag,rfl,⟨p,a,b,o,u,t,h,1,rfl,g1,λq2 Cp=>hN _ _ ⟨q2,l1.trans (.new Cp),?_,rfl⟩⟩⟩;unfold Dy;rw[if_pos ht];exact az
  .rw[show decide (t=0)=false from decide_eq_false ht];simp![BU,cW,ak,ah,dC,aA,rq];refine⟨p,_,_,cp,rfl,g1,@ag,rfl,⟨p,a,b,o,u,t,h,1,rfl,g1,λq2 Cp=>?_⟩⟩;simp![↓b5,↓aJ,↓ends,↓aG,↓rq,↓ak,↓gJ,↓iZ,↓ah,↓aA,↓bc,↓Hi,↓bw,↓aS,↓aE,↓dC,↓aX,↓bJ,↓cg,↓sU,↓qA,↓sT,↓iG,↓pM,↓lT,↓bU,↓aO,↓eK,↓sk,↓ng,↓mY,↓tJ,↓wJ,↓wL,↓mZ,↓wI,↓pQ,↓pP,↓pO,↓jW,↓jV,↓iA,↓vX,↓vW,↓and_true,↓w8,↓tO,↓dI,↓pE,↓w6,↓pD,↓aN];refine⟨rfl,_,_,jx (.ref az),λq3 hq3=>hN _ _ ⟨q3,(l1.trans (.new Cp)).trans (.new hq3),?_,rfl⟩⟩;unfold Dy;rw[if_neg ht];exact az
 clear g1 l1;rintro _ G1 ⟨q3,l1,gq,rfl⟩;simp![bc,b5,aO,ah,ak,bh,aA,ends];refine at_ (l1 _ _ g) ?_;obtain⟨u1,u2⟩:=Q9 c;refine⟨_,u,_,Dy a b t h,rfl,.ref gq,⟨yi c,c.hu,u1,u2,by rw[(sy a b t h).length_eq];simp[sC]⟩,?_⟩;obtain⟨r1,r2⟩:=Rx c;exact⟨_,rfl,⟨cY r1 (@c),λr hr=>cY (r2 r hr) (@c)⟩,λq' as G' hr=>cF (q q' as G' (qu hr l1))⟩
def zd:da :=
 (aU (bw (cW [("Lay",fc)] "done" @d (ah @g aA)))
 (bc (b5 (gv "Part" gQ (ah (bh ["Lay"] "name" @d) (ah (bh ["Lay"] "second" @d) aA))))))
def lK:di:=λds G Q _=>∃(p:Nat) (a b:Int) (o u:T2) (t h:Int) (rows:Rows),ds=[.ref p,@L]/\zH G p (.la a b o u t h)/\Ib rows a b o u t h/\∀q G',@w->G q=none->zH G' q (.pa a b)->Q (.ref q) G'
theorem HF(ds)(G)(Q)(h:lK ds G Q @f):zd (@f) @q (aJ 2 ds) G:=by
 obtain⟨p,a,b,o,u,t,h,rows,rfl,g,c,q⟩:=h;unfold zd;simp![bw,cW,ak,aJ,ah,aA,bc,b5,gv,bh,ends];refine⟨p,_,_,fc,rfl,g,@ag,rfl,⟨p,a,b,o,u,t,h,rows,rfl,g,c,λq1 as G1 hr=>?_⟩⟩;refine at_ (hr.le _ _ g) (at_ (hr.le _ _ g) λq' Cq=>⟨q',a,b,rfl,az,rfl,cF (q q' _ ?_ ?_ ?_)⟩)
 .rw[oF];exact hr.le.trans (.new Cq)
 .exact hr.le.free Cq
 .rw[oF];exact az
def vm(rows:Rows)(n:Int):Prop:=n∈@y/\∃p∈rows.flatten,p.a=n
def IQ(rows:Rows)(a b:Int)(qh qg rp rm:T2):Bool:=!decide (@ab=handOf rows b)&&((decide (qh=⟨b,0⟩)||decide (qg=⟨a,0⟩))&&(decide (rp=⟨b,1⟩)||decide (rm=⟨a,1⟩)))
structure WW(rows:Rows)(a b:Int)(qh qg rp rm:T2):Prop where
 len:rows.flatten.length<64
 na:vm rows a
 nb:vm rows b
 h0:dM @O ⟨a,0⟩=some qh
 h1:dM @O ⟨b,0⟩=some qg
 h2:dM @O ⟨a,1⟩=some rp
 h3:dM @O ⟨b,1⟩=some rm
def wg:da :=
 (aU (bF (bX (aG @G (aO fQ (ah @d (ah @g aA))) (aO fQ (ah @d (ah @l aA))))) (bc (b5 (dC (.bl false)))) aX)
 (aU (aS (aO jI (ah @d aA)) (aE 3))
 (bc (b5 (DS (aO jo (ah (ak 3) (ah (bJ (ah @g (ah @C aA))) (ah (bJ (ah @l (ah @C aA))) aA)))) (aO jo (ah (ak 3) (ah (bJ (ah @g (ah @s aA))) (ah (bJ (ah @l (ah @s aA))) aA)))))))))
def mj:di:=λds G Q _=>∃(rows:Rows) (a b:Int) (qh qg rp rm:T2),ds=[@L,.int a,.int b]/\WW rows a b qh qg rp rm/\Q (.bl (IQ rows a b qh qg rp rm)) G
theorem Fm(ds)(G)(Q)(h:mj ds G Q @f):wg (@f) @q (aJ 4 ds) G:=by
 obtain⟨rows,a,b,qh,qg,rp,rm,rfl,c,q⟩:=h;have hl:=c.len;unfold wg;refine bp (λτ G'=>G=G'/\@ab≠handOf rows b/\τ=[@p,some (.int a),some (.int b),none]) ?_ ?_
 .intro N hN;simp![bF,aG,aO,ah,ak,aJ,aN,aA,bc,b5,dC,ends,aX];refine⟨rows,a,rfl,⟨@e,c.na.2⟩,rows,b,rfl,⟨@e,c.nb.2⟩,?_⟩;refine b7 (α:=Int) (@c) ?_;by_cases h:@ab=handOf rows b
  .rw[show decide (@ab=handOf rows b)=true from decide_eq_true h];simp!;unfold IQ at q;rw[decide_eq_true h] at q;exact cF q
  .rw[show decide (@ab=handOf rows b)=false from decide_eq_false h];simp!;exact hN _ _ ⟨rfl,h,rfl⟩
 rintro _ _ ⟨rfl,kO,rfl⟩;unfold IQ at q;rw[decide_eq_false kO,aI,jQ] at q;simp![aS,aO,ah,ak,aA,aE,bc,b5,bJ,dC,ends];refine⟨rows,rfl,@e,⟨@c,@c,_,⟨a,0⟩,⟨b,0⟩,qh,qg,rfl,⟨c.h0,c.h1⟩,?_⟩⟩;cases hb:(decide (qh=(⟨b,0⟩:T2))||decide (qg=(⟨a,0⟩:T2))) with
 |false=>
  rw[hb] at q;ext d;exact cF q
 |true=>
  rw[hb,jQ] at q;simp only[↓aC,↓if_true];exact⟨@c,@c,_,⟨a,1⟩,⟨b,1⟩,rp,rm,rfl,⟨c.h2,c.h3⟩,cF q⟩
end Mo
namespace Mo
open K2.P
open K2.nQ (bR)
open K2.lF (HR)
open K2.rh (kH Ro)
open K2.tm (bA dE b6)
def sj:da :=
 (aU (bw (aO dW (ah @g (ah (cg (ah (bh ["Part"] "name" @d) (ah (bh ["Part"] "second" @d) aA))) aA))))
 (bw (aO iw (ah (aO mj (ah @g (ah (bh ["Part"] "name" @d) (ah (bh ["Part"] "second" @d) aA)))) aA))))
def gP:di:=λds G Q _=>∃(p:Nat) (a b:Int) (rows:Rows) (qh qg rp rm:T2),ds=[.ref p,@L]/\zH G p (.pa a b)/\(WW rows a b qh qg rp rm/\IQ rows a b qh qg rp rm=true)/\∀G',@w->Q .ff G'
theorem Cd(ds)(G)(Q)(h:gP ds G Q @f):sj (@f) @q (aJ 2 ds) G:=by
 obtain⟨p,a,b,rows,qh,qg,rp,rm,rfl,g,⟨c,hp⟩,q⟩:=h;unfold sj;simp![bw,aO,ah,ak,aJ,cg,bh,aA,ends];refine at_ g (at_ g ⟨@c,λpl fX=>?_⟩);refine⟨rows,_,[a,b],rfl,.ref az,⟨c.len,λm hm=>?_⟩,λG1 l1=>?_⟩
 .simp only[bN,bf,or_false] at hm;rcases hm with rfl |rfl
  .exact c.na.1
  .exact c.nb.1
 have L:=(cO.new fX).trans l1;refine at_ (L _ _ g) (at_ (L _ _ g) ?_);exact⟨rows,a,b,qh,qg,rp,rm,rfl,c,_,rfl,hp,q _ L⟩
def wB:da :=
 (aU (bw (cW [("Part",gP)] "refuse" @d (ah @g aA)))
 (bc (b5 (aO mi (ah @g (ah (cg (ah (bh ["Part"] "name" @d) (ah (bh ["Part"] "second" @d) aA))) aA))))))
def fF:di:=λds G Q _=>∃(p:Nat) (a b:Int) (rows:Rows) (qh qg rp rm:T2),ds=[.ref p,@L]/\zH G p (.pa a b)/\(WW rows a b qh qg rp rm/\IQ rows a b qh qg rp rm=true/\rows.length<=500)/\∀q as G',HR G G' q as ((i6 [a,b] rows).map bR)->Q (.ref q) G'
theorem Fp(ds)(G)(Q)(h:fF ds G Q @f):wB (@f) @q (aJ 2 ds) G:=by
 obtain⟨p,a,b,rows,qh,qg,rp,rm,rfl,g,⟨c,hp,hl⟩,q⟩:=h;have hlen:=c.len;unfold wB;simp![bw,cW,ak,aJ,ah,aA,bc,b5,aO,cg,bh,ends];refine⟨p,_,_,gP,rfl,g,@ag,rfl,⟨p,a,b,rows,qh,qg,rp,rm,rfl,g,⟨c,hp⟩,λG1 l1=>?_⟩⟩;refine at_ (l1 _ _ g) (at_ (l1 _ _ g) ⟨@c,λpl fX=>?_⟩);exact⟨rows,_,[a,b],rfl,.ref az,⟨hl,λr hr=>by have:=lF.gT hr;lia⟩,λp' as G' hr=>cF (q p' as G' (qu hr (l1.trans (.new fX))))⟩
def oV:da :=
 (aU (bF (bX (aG @G (aG cK (aO jI (ah @d aA)) (bJ (ah @g (ah (ak 3) aA)))) (bJ (ah @l (ah (ak 3) aA))))) (bc (b5 @g)) aX)
 (bc (b5 @l)))
def ja:di:=λds G Q _=>∃(rows:Rows) (a b w:Int) (v:T2),ds=[@L,.int a,.int b,.int w]/\(rows.flatten.length<=500/\dM @O ⟨a,w⟩=some v)/\Q (.int (if v=⟨b,w⟩ then a else b)) G
theorem yK(ds)(G)(Q)(h:ja ds G Q @f):oV (@f) @q (aJ 4 ds) G:=by
 obtain⟨rows,a,b,w,v,rfl,⟨hl,hv⟩,q⟩:=h;unfold oV;refine bp (λτ G'=>G=G'/\v≠⟨b,w⟩/\τ=[@p,some (.int a),some (.int b),some (.int w)]) ?_ ?_
 .intro N hN;simp![bF,aG,aO,ah,ak,aJ,aA,bJ,bc,b5,ends,aX];refine⟨rows,rfl,hl,⟨@c,?_⟩⟩;refine kZ (k:=(⟨a,w⟩:T2)) hv ?_;refine⟨@c,b7 (x:=v) (y:=(⟨b,w⟩:T2)) (@c) ?_⟩;by_cases h:v=⟨b,w⟩
  .rw[show decide (v=(⟨b,w⟩:T2))=true from decide_eq_true h];simp!;rw[if_pos h] at q;exact cF q
  .rw[show decide (v=(⟨b,w⟩:T2))=false from decide_eq_false h];simp!;exact hN _ _ ⟨rfl,h,rfl⟩
 rintro _ _ ⟨rfl,h,rfl⟩;rw[if_neg h] at q;simp![bc,b5,ak,ends];exact cF q
theorem vZ(d:@J)(ne:a≠b)(h:(∃s,Pr rows s ⟨a,w,ha⟩ ⟨b,w,hb⟩)\/∃s,Pr rows s ⟨b,w,hb⟩ ⟨a,w,ha⟩):∃v,dM @O ⟨a,w⟩=some v/\((v=⟨b,w⟩/\∃s,Pr rows s ⟨a,w,ha⟩ ⟨b,w,hb⟩)\/(v≠⟨b,w⟩/\∃s,Pr rows s ⟨b,w,hb⟩ ⟨a,w,ha⟩)):=by
 have one:∀{s:T2} {y z:T3},Pr rows s y z->dM @O y.s=some z.s:=λc=>by
  obtain⟨R1,R2,r,M,e,ro,_⟩:=c.ex;subst e;exact gr d ro
 rcases h with ⟨s,c⟩ |⟨s,c⟩
 .exact⟨_,one c,.inl ⟨rfl,s,c⟩⟩
 .obtain⟨R1,R2,r,M,e,ro,hM⟩:=c.ex;subst e;cases M with
  |nil=>
   have IF:gb [⟨a,w,ha⟩,⟨b,w,hb⟩] r:=gb.trans (gb.app [⟨a,w,ha⟩] [⟨b,w,hb⟩]) ro;exact⟨_,gr d IF,.inl ⟨rfl,IL IF⟩⟩
  |cons m M=>
   have IF:gb (⟨a,w,ha⟩::m::(M++[⟨b,w,hb⟩])) r:=gb.trans (gb.of (u:=⟨a,w,ha⟩::m::M) (v:=[⟨b,w,hb⟩]) @k @k) ro;refine⟨_,gr d IF,.inr ⟨λz=>?_,s,c⟩⟩;have:=(pj d.dn rfl ro).2.2.1 m aQ;exact this (by rw[z];exact aQ)
theorem QS.mem(c:QS rows a b h):(⟨a,0,h⟩:T3)∈rows.flatten/\(⟨b,0,-h⟩:T3)∈rows.flatten/\(⟨a,1,h⟩:T3)∈rows.flatten/\(⟨b,1,-h⟩:T3)∈rows.flatten:=by
 have two:∀{s:T2} {y z:T3},Pr rows s y z->y∈rows.flatten/\z∈rows.flatten:=λp=>by
  obtain⟨R1,R2,r,M,e,ro,_⟩:=p.ex;subst e;have y1:=ro.perm.mem_iff.mpr (aQ);have y2:=ro.perm.mem_iff.mpr (aP _ aQ);exact⟨by rw[cS];simp[y1],by rw[cS];simp[y2]⟩
 have h1:(⟨a,0,h⟩:T3)∈rows.flatten/\(⟨b,0,-h⟩:T3)∈rows.flatten:=by
  rcases c.ov with ⟨s,p⟩ |⟨s,p⟩
  .exact two p
  .exact⟨(two p).2,(two p).1⟩
 have h2:(⟨a,1,h⟩:T3)∈rows.flatten/\(⟨b,1,-h⟩:T3)∈rows.flatten:=by
  rcases c.un with ⟨s,p⟩ |⟨s,p⟩
  .exact two p
  .exact⟨(two p).2,(two p).1⟩
 exact⟨h1.1,h1.2,h2.1,h2.2⟩
theorem IU(c:QS rows a b h):∃qh qg rp rm,WW rows a b qh qg rp rm/\IQ rows a b qh qg rp rm=true:=by
 obtain⟨m1,m2,m3,m4⟩:=c.mem;obtain⟨qh,e0,c0⟩:=vZ c.d c.ne c.ov;obtain⟨rp,e1,c1⟩:=vZ c.d c.ne c.un;obtain⟨qg,e2,c2⟩:=vZ c.d c.ne.symm c.ov.symm;obtain⟨rm,e3,c3⟩:=vZ c.d c.ne.symm c.un.symm;have one:∀{s:T2} {y z:T3},Pr rows s y z->dM @O y.s=some z.s:=λp=>by
  obtain⟨R1,R2,r,M,e,ro,_⟩:=p.ex;subst e;exact gr c.d ro
 refine⟨qh,qg,rp,rm,⟨(gV c.d).2.2,⟨d4.mpr ⟨_,m1,rfl,rfl⟩,_,m1,rfl⟩,⟨d4.mpr ⟨_,m2,rfl,rfl⟩,_,m2,rfl⟩,e0,e2,e1,e3⟩,?_⟩;have ha:@ab=h:=gK c.d m1;have hb:handOf rows b=-h:=gK c.d m2;unfold IQ;rw[ha,hb];have kO:¬ h=-h:=by have:=c.hh;lia
 rw[decide_eq_false kO,aI,jQ,bg,dQ,dQ,decide_eq_true_iff,decide_eq_true_iff,decide_eq_true_iff,decide_eq_true_iff];refine⟨?_,?_⟩
 .rcases c0 with ⟨h,_⟩ |⟨_,s,p⟩
  .exact .inl h
  .have:=one p;rw[show(⟨b,0,-h⟩:T3).s=⟨b,0⟩ from rfl,e2] at this;injection this with this
   exact .inr this
 .rcases c1 with ⟨h,_⟩ |⟨_,s,p⟩
  .exact .inl h
  .have:=one p;rw[show(⟨b,1,-h⟩:T3).s=⟨b,1⟩ from rfl,e3] at this;injection this with this
   exact .inr this
end Mo
namespace Mo
open K2.P
open K2.nQ (bR)
open K2.lF (HR)
open K2.rh (kH Ro)
open K2.tm (bA dE b6)
theorem Hu(d:@J)(ne:a≠b)(hp:(∃s,Pr rows s ⟨a,w,h⟩ ⟨b,w,-h⟩)\/∃s,Pr rows s ⟨b,w,-h⟩ ⟨a,w,h⟩):∃v F O hF s,dM @O ⟨a,w⟩=some v/\(if v=⟨b,w⟩ then a else b)=F/\((F=a/\O=b/\hF=h)\/(F=b/\O=a/\hF=-h))/\Pr rows s ⟨F,w,hF⟩ ⟨O,w,-hF⟩:=by
 obtain⟨v,e,c⟩:=vZ d ne hp;rcases c with ⟨hv,s,p⟩ |⟨hv,s,p⟩
 .exact⟨v,a,b,h,s,e,if_pos hv,.inl ⟨rfl,rfl,rfl⟩,p⟩
 .exact⟨v,b,a,-h,s,e,if_neg hv,.inr ⟨rfl,rfl,rfl⟩,by rw[show - -h=h by lia];exact p⟩
def wC:da :=
 (aU (bw (cW [("Part",gP)] "refuse" @d (ah @g aA)))
 (aU (aS (aO ja (ah @g (ah (bh ["Part"] "name" @d) (ah (bh ["Part"] "second" @d) (ah @C aA))))) (aE 2))
 (aU (aS (E9 (bX (aG @G @l (bh ["Part"] "name" @d))) (bh ["Part"] "second" @d) (bh ["Part"] "name" @d)) (aE 3))
 (aU (aS (aO ja (ah @g (ah (bh ["Part"] "name" @d) (ah (bh ["Part"] "second" @d) (ah @s aA))))) (aE 4))
 (aU (aS (cg (ah (bJ (ah (bh ["Part"] "name" @d) (ah @C aA))) (ah (bJ (ah (bh ["Part"] "second" @d) (ah @C aA))) aA))) (aE 5))
 (aU (aS (cg (ah (bJ (ah (bh ["Part"] "name" @d) (ah @s aA))) (ah (bJ (ah (bh ["Part"] "second" @d) (ah @s aA))) aA))) (aE 6))
 (aU (aS (aO jn (ah @g (ah (bJ (ah @l (ah @C aA))) (ah (aG iK (ak 5) (ak 6)) aA)))) (aE 7))
 (aU (aS (aO jn (ah @g (ah (bJ (ah (ak 4) (ah @s aA))) (ah (ak 6) aA)))) (aE 8))
 (aU (aS (E9 (bX (aG @G (ak 4) @l)) @C @s) (aE 9))
 (bc (b5 (gv "Lay" iz (ah @l (ah (ak 3) (ah (ak 7) (ah (ak 8) (ah (ak 9) (ah (aO fQ (ah @g (ah @l aA))) aA))))))))))))))))))
def kD:di:=λds G Q _=>∃(p:Nat) (a b h:Int) (rows:Rows),ds=[.ref p,@L]/\zH G p (.pa a b)/\QS rows a b h/\∀F O o u t h' q G',Lb rows a b F O o u t h'->@w->G q=none->zH G' q (.la F O o u t h')->Q (.ref q) G'
theorem Fq(ds)(G)(Q)(h:kD ds G Q @f):wC (@f) @q (aJ 10 ds) G:=by
 obtain⟨p,a,b,h,rows,rfl,g,c,q⟩:=h;obtain⟨EO,Aw,zk⟩:=gV c.d;obtain⟨qh,qg,rp,rm,pn,pf⟩:=IU c;obtain⟨v0,F,O,hF,s0,ev0,eF,nF,pF⟩:=Hu c.d c.ne c.ov;obtain⟨v1,L,L',hL,s1,ev1,eL,nL,pL⟩:=Hu c.d c.ne c.un;obtain⟨R1,R2,r,M,e1,Xb,_⟩:=pF.ex;obtain⟨S1,S2,r2,N',e2,IF,_⟩:=pL.ex;have kO:=c.ne;have hhF:hF=1\/hF=-1:=by have:=c.hh;rcases nF with ⟨_,_,rfl⟩ |⟨_,_,rfl⟩<;>lia
 have nm:(F=a/\O=b)\/(F=b/\O=a):=by rcases nF with ⟨h1,h2,_⟩ |⟨h1,h2,_⟩;exact .inl ⟨h1,h2⟩;exact .inr ⟨h1,h2⟩
 have YU:∃t:Int,(if L=F then(0:Int) else 1)=t/\((t=0/\(⟨L,1,hL⟩:T3)=⟨F,1,hF⟩/\(⟨L',1,-hL⟩:T3)=⟨O,1,-hF⟩)\/(t=1/\(⟨L,1,hL⟩:T3)=⟨O,1,-hF⟩/\(⟨L',1,-hL⟩:T3)=⟨F,1,hF⟩)):=by
  rcases nF with ⟨rfl,rfl,rfl⟩ |⟨rfl,rfl,rfl⟩<;>rcases nL with ⟨rfl,rfl,rfl⟩ |⟨rfl,rfl,rfl⟩
  .exact⟨0,if_pos rfl,.inl ⟨rfl,rfl,rfl⟩⟩
  .exact⟨1,if_neg λz=>kO z.symm,.inr ⟨rfl,rfl,by rw[show - -hF=hF by lia]⟩⟩
  .exact⟨1,if_neg kO,.inr ⟨rfl,by rw[show - -hL=hL by lia],rfl⟩⟩
  .exact⟨0,if_pos rfl,.inl ⟨rfl,rfl,rfl⟩⟩
 obtain⟨t,et,hLs⟩:=YU;have hmF:∃x∈rows.flatten,x.a=F/\x.c=hF:=by
  obtain⟨m1,m2,_,_⟩:=c.mem;rcases nF with ⟨rfl,rfl,rfl⟩ |⟨rfl,rfl,rfl⟩
  .exact⟨_,m1,rfl,rfl⟩
  .exact⟨_,m2,rfl,rfl⟩
 obtain⟨xF,hxF,eaF,ecF⟩:=hmF;have hho:handOf rows F=hF:=by rw[<-eaF,gK c.d hxF,ecF]
 unfold wC;refine bp (λτ G'=>@w/\τ=[@K,@p,none,none,none,none,none,none,none,none]) ?_ ?_
 .intro N hN;simp![bw,cW,ak,aJ,aN,ah,aA];exact⟨p,_,_,gP,rfl,g,@ag,rfl,⟨p,a,b,rows,qh,qg,rp,rm,rfl,g,⟨pn,pf⟩,λG1 l1=>hN _ _ ⟨l1,rfl⟩⟩⟩
 rintro _ G1 ⟨l1,rfl⟩;have g1:=l1 _ _ g;refine bp (λτ G'=>G1=G'/\τ=[@K,@p,some (.int F),none,none,none,none,none,none,none]) ?_ ?_
 .intro N hN;simp![aS,aO,ah,ak,bh,dC,aA,aE];refine at_ g1 (at_ g1 ⟨rows,a,b,0,v0,rfl,⟨@e,ev0⟩,?_⟩);rw[eF];exact hN _ _ @R
 rintro _ _ ⟨rfl,rfl⟩;refine bp (λτ G'=>G1=G'/\τ=[@K,@p,some (.int F),some (.int O),none,none,none,none,none,none]) ?_ ?_
 .intro N hN;simp![aS,E9,aG,ak,bh,aE];refine at_ g1 ?_;refine b7 (α:=Int) (x:=F) (y:=a) (@c) ?_;rcases nm with ⟨h1,h2⟩ |⟨h1,h2⟩
  .rw[show decide (F=a)=true from decide_eq_true h1];simp!;refine at_ g1 (hN _ _ ⟨rfl,?_⟩);rw[h2]
  .rw[show decide (F=a)=false from decide_eq_false (by rw[h1];exact kO.symm)];simp!;refine at_ g1 (hN _ _ ⟨rfl,?_⟩);rw[h2]
 rintro _ _ ⟨rfl,rfl⟩;refine bp (λτ G'=>G1=G'/\τ=[@K,@p,some (.int F),some (.int O),some (.int L),none,none,none,none,none]) ?_ ?_
 .intro N hN;simp![aS,aO,ah,ak,bh,dC,aA,aE];refine at_ g1 (at_ g1 ⟨rows,a,b,1,v1,rfl,⟨@e,ev1⟩,?_⟩);rw[eL];exact hN _ _ @R
 rintro _ _ ⟨rfl,rfl⟩
 let ov:List T2:=[⟨a,0⟩,⟨b,0⟩]
 let un:List T2:=[⟨a,1⟩,⟨b,1⟩]
 refine bp (λτ G'=>∃p5,cO G1 G'/\G' p5=some (.lst (ov.map enc))/\τ=[@K,@p,some (.int F),some (.int O),some (.int L),some (.ref p5),none,none,none,none]) ?_ ?_
 .intro N hN;simp![aS,cg,ah,bJ,bh,ak,dC,aA,aE];exact at_ g1 ⟨@c,at_ g1 ⟨@c,@c,λp5 Nt=>hN _ _ ⟨p5,.new Nt,az,rfl⟩⟩⟩
 rintro _ G2 ⟨p5,l2,g5,rfl⟩;have g2:=l2 _ _ g1;refine bp (λτ G'=>∃p6,cO G2 G'/\G' p6=some (.lst (un.map enc))/\τ=[@K,@p,some (.int F),some (.int O),some (.int L),some (.ref p5),some (.ref p6),none,none,none]) ?_ ?_
 .intro N hN;simp![aS,cg,ah,bJ,bh,ak,dC,aA,aE];exact at_ g2 ⟨@c,at_ g2 ⟨@c,@c,λp6 ZT=>hN _ _ ⟨p6,.new ZT,az,rfl⟩⟩⟩
 rintro _ G3 ⟨p6,l3,g6,rfl⟩;have L3:=(l1.trans l2).trans l3;refine bp (λτ G'=>cO G3 G'/\τ=[@K,@p,some (.int F),some (.int O),some (.int L),some (.ref p5),some (.ref p6),some (enc (Hv R1.length (ov++un) (⟨F,0,hF⟩::⟨O,0,-hF⟩::M))),none,none]) ?_ ?_
 .intro N hN;simp![aS,aO,ah,ak,bJ,dC,aA,aG,aE];refine⟨@c,?_⟩;refine Lm (.ref (l3 _ _ g5)) (.ref g6) (by simp[ov,un,SZ]) λpg hpg=>?_;have eg:ov.map enc++un.map enc=(ov++un).map (enc (α:=T2)):=by rw[aH]
  rw[eg];refine⟨R1,R2,r,_,⟨F,0,hF⟩,_,ov++un,by rw[e1];rfl,.ref az,⟨by rw[<-e1];exact c.d.dn,Xb,by rw[<-e1];exact Aw⟩,hN _ _ ⟨.new hpg,rfl⟩⟩
 rintro _ G4 ⟨l4,rfl⟩;refine bp (λτ G'=>G4=G'/\τ=[@K,@p,some (.int F),some (.int O),some (.int L),some (.ref p5),some (.ref p6),some (enc (Hv R1.length (ov++un) (⟨F,0,hF⟩::⟨O,0,-hF⟩::M))),some (enc (Hv S1.length un (⟨L,1,hL⟩::⟨L',1,-hL⟩::N'))),none]) ?_ ?_
 .intro N hN;simp![aS,aO,ah,ak,bJ,dC,aA,aE];refine⟨@c,?_⟩;exact⟨S1,S2,r2,_,⟨L,1,hL⟩,_,un,by rw[e2];rfl,.ref (l4 _ _ g6),⟨by rw[<-e2];exact c.d.dn,IF,by rw[<-e2];exact Aw⟩,hN _ _ @R⟩
 rintro _ _ ⟨rfl,rfl⟩;refine bp (λτ G'=>G4=G'/\τ=[@K,@p,some (.int F),some (.int O),some (.int L),some (.ref p5),some (.ref p6),some (enc (Hv R1.length (ov++un) (⟨F,0,hF⟩::⟨O,0,-hF⟩::M))),some (enc (Hv S1.length un (⟨L,1,hL⟩::⟨L',1,-hL⟩::N'))),some (.int t)]) ?_ ?_
 .intro N hN;simp![aS,E9,aG,ak,dC,aE];refine b7 (α:=Int) (x:=L) (y:=F) (@c) ?_;by_cases Z1:L=F
  .rw[show decide (L=F)=true from decide_eq_true Z1];rw[if_pos Z1] at et;simp!;exact hN _ _ ⟨rfl,by rw[<-et]⟩
  .rw[show decide (L=F)=false from decide_eq_false Z1];rw[if_neg Z1] at et;simp!;exact hN _ _ ⟨rfl,by rw[<-et]⟩
 rintro _ _ ⟨rfl,rfl⟩;simp![bc,b5,gv,ah,ak,aO,aA,ends];refine⟨rows,F,rfl,⟨@e,⟨xF,hxF,eaF⟩⟩,?_⟩;rw[hho];have lb:=Yv (t:=t) (g1:=ov++un) (g2:=un) c.d kO nm hhF e1 Xb e2 IF hLs (λs=>by simp[ov,un]) (λs=>by simp[un]);refine λq' Cq=>⟨q',F,O,_,_,t,hF,rfl,az,rfl,cF (q F O _ _ t hF q' _ lb ?_ ?_ ?_)⟩
 .rw[oF];exact(L3.trans l4).trans (.new Cq)
 .exact(L3.trans l4).free Cq
 .rw[oF];exact az
end Mo
namespace D3
open K2.P
open K2.Mo hiding bW cA cL
open K2.nQ (bR jy nC jK)
open K2.lF (HR gw)
open K2.rh (kH Ro)
open K2.tm (bA dE b6)
theorem wK{α:Type} [@V] [Enc α]{neg:Bool}{x:α}{xs:@H}{G:Gp}{Q:DK}(hd:Enc.dep α<=7)(q:Q (.bl (if neg then !decide (x∈xs) else decide (x∈xs))) G):uN neg (enc x) (.tup (xs.map enc)) G Q:=by
 refine⟨enc x,xs.map enc,Enc.sn _ _ _ (by unfold SN;lia),vg G 7 hd xs,?_⟩;rw[Fg];exact q
theorem Qt{r:@i}:mH (a::b::c::d::r) 3=some d:=by
 rw[eY _ (@c) (by simp;lia)];rfl
theorem Qs{r:@i}:mH (a::b::c::d::e::r) 4=some e:=by
 rw[eY _ (@c) (by simp;lia)];rfl
theorem Tx (n) (s) (f h):td (.cu n s f h)=.tup [.str "curl",.int n,enc s,.int f,.int h]:=rfl
def WN(rows:Rows)(n:Int)(s:T2)(f h:Int):Rows:=(jm s (cps n f h) rows 0).map bR
theorem wN(d:@J)(hs:s∈bz rows 0)(hp:ps.length<=4):(jm s ps rows 0).length<=500/\∀r∈jm s ps rows 0,r.length<=500:=by
 have:=d.str;have:=d.zm;refine⟨by rw[lB];lia,λr hr=>?_⟩;have:=lL (ps:=ps) d.dn hs r hr;lia
theorem BO(d:@J):rows.length<=100/\∀r∈rows,r.length<=100:=by
 have:=d.str;have:=d.zm;refine⟨@e,λr hr=>?_⟩;have:=lF.gT hr;lia
end D3
namespace Mo
open K2.P
open K2.nQ (bR)
open K2.lF (HR)
open K2.rh (kH Ro)
open K2.tm (bA dE b6)
noncomputable def Cv(x y:T2)(t:Int):T2×T2:=if t=1 then(x,y) else(y,x)
def A3:da :=
 (aU (bF (bX (aG @G @l @s)) (bc (b5 (bJ (ah @d (ah @g aA))))) aX)
 (bc (b5 (bJ (ah @g (ah @d aA))))))
def mQ:di:=λds G Q _=>∃(x y:T2) (t:Int),ds=[enc x,enc y,.int t]/\Q (enc (Cv x y t)) G
theorem JL(ds)(G)(Q)(h:mQ ds G Q @f):A3 (@f) @q (aJ 3 ds) G:=by
 obtain⟨x,y,t,rfl,q⟩:=h;unfold A3 Cv at *;simp![bF,aG,ak,aJ,dC,bc,b5,bJ,ah,aA,ends,aX];refine b7 (x:=t) (y:=(1:Int)) (@c) ?_;by_cases ht:t=1
 .rw[if_pos ht] at q;simp![ht,decide_true];exact⟨@c,cF q⟩
 .rw[if_neg ht] at q;simp![ht,decide_false];exact⟨@c,cF q⟩
def mR(rows:Rows)(a b c t:Int):List (T2×T2):=[Cv ⟨a,0⟩ ⟨b,0⟩ t,Cv ⟨a,1⟩ ⟨c,0⟩ (t*handOf rows b*handOf rows c),Cv ⟨b,1⟩ ⟨c,1⟩ (t*@ab*handOf rows c)]
structure WU(rows:Rows)(a b c t:Int):Prop where
 d:@J
 na:vm rows a
 nb:vm rows b
 nc:vm rows c
 ht:t=1\/t=-1
theorem iX(d:@J)(h:vm rows n):handOf rows n=1\/handOf rows n=-1:=by
 obtain⟨p,hp,e⟩:=h.2;rw[<-e,gK d hp];exact d.hand p hp
def rS:da :=
 (aU (aS (aO fQ (ah @d (ah @g aA))) (aE 5))
 (aU (aS (aO fQ (ah @d (ah @l aA))) (aE 6))
 (aU (aS (aO fQ (ah @d (ah (ak 3) aA))) (aE 7))
 (bc (b5 (cg (ah (aO mQ (ah (bJ (ah @g (ah @C aA))) (ah (bJ (ah @l (ah @C aA))) (ah (ak 4) aA)))) (ah (aO mQ (ah (bJ (ah @g (ah @s aA))) (ah (bJ (ah (ak 3) (ah @C aA))) (ah (aG ud (aG ud (ak 4) (ak 6)) (ak 7)) aA)))) (ah (aO mQ (ah (bJ (ah @l (ah @s aA))) (ah (bJ (ah (ak 3) (ah @s aA))) (ah (aG ud (aG ud (ak 4) (ak 5)) (ak 7)) aA)))) aA)))))))))
def kl:di:=λds G Q _=>∃(rows:Rows) (a b c t:Int),ds=[@L,.int a,.int b,.int c,.int t]/\WU rows a b c t/\Q (enc (mR rows a b c t)) G
theorem B4(ds)(G)(Q)(h:kl ds G Q @f):rS (@f) @q (aJ 8 ds) G:=by
 obtain⟨rows,a,b,c,t,rfl,⟨d,na,nb,nc,ht⟩,q⟩:=h;have ha:=iX d na;have hb:=iX d nb;have hc:=iX d nc;have hl:=d.zm;have m1:t*handOf rows b=1\/t*handOf rows b=-1:=by rcases ht with rfl |rfl<;>rcases hb with h |h<;>rw[h]<;>decide
 have m2:t*@ab=1\/t*@ab=-1:=by rcases ht with rfl |rfl<;>rcases ha with h |h<;>rw[h]<;>decide
 unfold rS;simp![aS,aO,ah,ak,aJ,aN,aA,aE,bc,b5,cg,bJ,dC,aG,ends];refine⟨rows,a,rfl,⟨@e,na.2⟩,⟨rows,b,rfl,⟨@e,nb.2⟩,⟨rows,c,rfl,⟨@e,nc.2⟩,?_⟩⟩⟩;simp![↓b5,↓aJ,↓ends,↓aG,↓rq,↓ak,↓gJ,↓iZ,↓ah,↓aA,↓bc,↓Hi,↓bw,↓aS,↓aE,↓dC,↓aX,↓bJ,↓cg,↓sU,↓qA,↓sT,↓iG,↓pM,↓lT,↓bU,↓aO,↓eK,↓sk,↓ng,↓mY,↓tJ,↓wJ,↓wL,↓mZ,↓wI,↓pQ,↓pP,↓pO,↓jW,↓jV,↓iA,↓vX,↓vW,↓and_true,↓w8,↓tO,↓dI,↓pE,↓w6,↓pD,↓aN];have mul:∀{x y:Int} {G:Gp} {Q:DK},(x=1\/x=-1)->(y=1\/y=-1)->Q (.int (x*y)) G->ud (.int x) (.int y) G Q:=λhx hy q=>by
  rcases hx with rfl |rfl<;>rcases hy with rfl |rfl<;>exact⟨.inl ⟨@c,@c⟩,q⟩
 refine⟨@c,@c,⟨⟨a,0⟩,⟨b,0⟩,t,rfl,⟨@c,@c,?_⟩⟩⟩;refine mul ht hb (mul m1 hc ?_);refine⟨⟨a,1⟩,⟨c,0⟩,_,rfl,⟨@c,@c,?_⟩⟩;refine mul ht ha (mul m2 hc ?_);refine⟨⟨b,1⟩,⟨c,1⟩,_,rfl,⟨@c,λp hp=>?_⟩⟩;exact ij (xs:=mR rows a b c t) (.new hp) hp az q
def HW(rows:Rows)(a b c t:Int):Bool:=!decide (b=a)&&(!decide (c∈[a,b])&&(mR rows a b c t).all λp=>decide (dM @O p.1=some p.2))
theorem Mi(d:@J)(h:p∈rows.flatten):∃v,dM @O p.s=some v:=by
 obtain⟨r,hr,hp⟩:=List.mem_flatten.mp h;obtain⟨R1,R2,rfl⟩:=eD hr;obtain⟨A,B,rfl⟩:=eD hp;have ro:gb (p::(B++A)) (A++p::B):=gb.of (u:=p::B) (v:=A) rfl rfl;cases Y7:B++A with
 |nil=>rw[Y7] at ro;exact⟨_,wR d ro⟩
 |cons q T=>rw[Y7] at ro;exact⟨_,gr d ro⟩
theorem Bd(d:@J)(h:vm rows n)(hw:w=0\/w=1):∃p∈rows.flatten,p.s=⟨n,w⟩:=by
 obtain⟨p,hp,hb,ha⟩:=d4.mp h.1;rcases hw with rfl |rfl
 .exact⟨p,hp,by show(⟨p.a,p.b⟩:T2)=_;rw[hb,ha]⟩
 .refine⟨_,d.ue p hp,?_⟩;show(⟨p.a,1-p.b⟩:T2)=_;rw[hb,ha];rfl
theorem k9(d:@J)(h:vm rows n)(hw:w=0\/w=1):∃v,dM @O ⟨n,w⟩=some v:=by
 obtain⟨p,hp,e⟩:=Bd d h hw;rw[<-e];exact Mi d hp
theorem UX(s:WU rows a b c t)(h:p∈mR rows a b c t):∃v,dM @O p.1=some v:=by
 unfold mR at h;simp only[bN,bf,or_false] at h;rcases h with rfl |rfl |rfl<;>(unfold Cv;split)
 .exact k9 s.d s.na (@E)
 .exact k9 s.d s.nb (@E)
 .exact k9 s.d s.na (.inr rfl)
 .exact k9 s.d s.nc (@E)
 .exact k9 s.d s.nb (.inr rfl)
 .exact k9 s.d s.nc (.inr rfl)
def uB:da :=
 (aU (bF (sT (bX (aG @G @l @g)) (bX (aG (uN false) (ak 3) (bJ (ah @g (ah @l aA)))))) (bc (b5 (dC (.bl false)))) aX)
 (aU (aS (aO jI (ah @d aA)) (aE 5))
 (bc (b5 (gJ Qm (ah (eK 2 [5] (ig (aO kl (ah @d (ah @g (ah @l (ah (ak 3) (ah (ak 4) aA))))))) (kI (ez (aE 0) (ez (aE 1) lh))) none (aG @G (aG cK @l @d) @g)) aA))))))
def ly:di:=λds G Q _=>∃(rows:Rows) (a b c t:Int),ds=[@L,.int a,.int b,.int c,.int t]/\WU rows a b c t/\Q (.bl (HW rows a b c t)) G
theorem CT(ds)(G)(Q)(h:ly ds G Q @f):uB (@f) @q (aJ 6 ds) G:=by
 obtain⟨rows,a,b,c,t,rfl,s,q⟩:=h;have hl:=s.d.zm;unfold uB;refine bp (λτ G'=>G=G'/\b≠a/\c∉[a,b]/\τ=[@p,some (.int a),some (.int b),some (.int c),some (.int t),none]) ?_ ?_
 .intro N hN;simp![bF,sT,aG,ak,aJ,aN,bc,b5,dC,ends,aX,bJ,ah,aA];refine b7 (x:=b) (y:=a) (@c) ?_;by_cases hb:b=a
  .rw[show decide (b=a)=true from decide_eq_true hb];simp!;unfold HW at q;rw[decide_eq_true hb] at q;exact cF q
  .rw[show decide (b=a)=false from decide_eq_false hb];simp!;refine⟨@c,D3.wK (x:=c) (xs:=[a,b]) (@c) ?_⟩;by_cases hc:c∈[a,b]
   .rw[show decide (c∈[a,b])=true from decide_eq_true hc];simp!;unfold HW at q;rw[decide_eq_false hb,decide_eq_true hc] at q;exact cF q
   .rw[show decide (c∈[a,b])=false from decide_eq_false hc];simp!;exact hN _ _ ⟨rfl,hb,hc,rfl⟩
 rintro _ _ ⟨rfl,hb,hc,rfl⟩;unfold HW at q;rw[decide_eq_false hb,decide_eq_false hc,aI,jQ,jQ] at q;simp![aS,aO,ah,ak,aA,aE,bc,b5,gJ,eK,ends];refine⟨rows,rfl,@e,?_⟩;refine⟨rows,a,b,c,t,rfl,s,dZ ⟨Cn (by simp[mR]),?_⟩⟩;refine gX (xs:=mR rows a b c t) (λpr acc τ G2=>G=G2/\acc=(pr.map λp=>decide (dM @O p.1=some p.2)).map D.bl/\∃x y,τ=[x,y,some (.pZ (c9 @O))]) ⟨rfl,rfl,_,_,rfl⟩ (λ_ _ _ _ _=>trivial) ?_ ?_
 .rintro pr p po acc τ G2 N3 e3 ⟨rfl,rfl,x,y,rfl⟩ vP;obtain⟨v,hv⟩:=UX s (by rw[e3];simp:p∈mR rows a b c t);show kI _ _ (.tup [enc p.1,enc p.2]) _ _ _;simp![kI,ez,aE,lh,aG,ak];refine kZ hv ?_;refine(b7 (x:=v) (y:=p.2) (@c) ?_);simp only[↓ag,↓if_false];refine vP _ _ _ ⟨rfl,?_,_,_,rfl⟩;rw[aH,aH,av,hv];simp
 .rintro acc τ G2 ⟨rfl,rfl,x,y,rfl⟩ p2 oq;refine⟨(mR rows a b c t).map λp=>decide (dM @O p.1=some p.2),by simp only[itemsOf,az],?_⟩;rw[QE];exact jb (.new oq) q
noncomputable def par:List (T2×T2)->List (T2×T2)->List (T2×T2)
 |l,[]=>l
 |l,p::ps=>par (jP (jP l p.1 p.2) p.2 p.1) ps
theorem A8(p):∀(ps l:List (T2×T2)),par l (ps++[p])=jP (jP (par l ps) p.1 p.2) p.2 p.1
 |[],_=>rfl
 |_::ps,_=>A8 p ps _
def mC(ps:List (T2×T2))(s:T2):T2:=(dM (par [] ps) s).getD s
def x9(rows:Rows)(ps:List (T2×T2))(p:T3):T3:=⟨(mC ps p.s).a,(mC ps p.s).b,handOf rows (mC ps p.s).a⟩
def chg(rows:Rows)(ps:List (T2×T2)):Rows:=rows.map (kS (x9 rows ps))
theorem pR{k v:T2}:(jP l k v).length<=l.length+1:=by
 unfold jP;split<;>simp
theorem ED:∀(ps l:List (T2×T2)),(par l ps).length<=l.length+2*ps.length
 |[],_=>by simp[par]
 |p::ps,l=>by
  have:=ED ps (jP (jP l p.1 p.2) p.2 p.1);have h1:=pR (l:=l) (k:=p.1) (v:=p.2);have h2:=pR (l:=jP l p.1 p.2) (k:=p.2) (v:=p.1);rw[par,ai];lia
def qH:da :=
 (aU (aS sU (aE 2))
 (aU (c4 (ig @g) (kI (ez (aE 3) (ez (aE 4) lh))) (aU (aS (ak 4) (q4 @l (ak 3)))
 (aS (ak 3) (q4 @l (ak 4)))))
 (aU (aS (cg aA) (aE 5))
 (aU (c4 (ig @d) (aE 6) (aU (aS (eK 1 [2] (ig (ak 6)) (aE 0) none (iZ XG Bf @g (ah (lT @d bU (gW @N)) (ah (lT @d bU (gW @N)) aA)))) (aE 7))
 (bw (iZ pY du (ak 5) (ah (b5 (eK 1 [0] (ig (ak 7)) (aE 0) none (bJ (ah (aG cK @d @C) (ah (aG cK @d @s) (ah (aO fQ (ah @g (ah (aG cK @d @C) aA))) aA)))))) aA)))))
 (bc (b5 (aO bA (ah (b5 (ak 5)) aA))))))))
def lV:di:=λds G Q _=>∃(rows:Rows) (ps:List (T2×T2)),ds=[@L,enc ps]/\(rows.length<=500/\rows.flatten.length<=500/\ps.length<=10/\∀p∈rows.flatten,∃p'∈rows.flatten,p'.a=(mC ps p.s).a)/\∀p as G',HR G G' p as ((chg rows ps).map bR)->Q (.ref p) G'
theorem zS(ds)(G)(Q)(h:lV ds G Q @f):qH (@f) @q (aJ 8 ds) G:=by
 obtain⟨rows,ps,rfl,⟨hl,hf,hps,hin⟩,q⟩:=h;unfold qH;simp only[↓bT,aS,sU,jN,aE,ends,aJ,↓av,↓aF,↓ai,↓aq,aN,↓aw,↓ay,↓ao,↓aj];intro d hd;refine bp (λτ G'=>@w/\G' d=some (.jG (c9 (par [] ps)))/\∃a b,τ=[@p,some (enc ps),some (.ref d),a,b,none,none,none]) ?_ ?_
 .intro N hN;simp![c4,ak];refine dZ ?_;refine cT (xs:=ps) (λpre τ G'=>@w/\G' d=some (.jG (c9 (par [] pre)))/\∃a b,τ=[@p,some (enc ps),some (.ref d),a,b,none,none,none]) ⟨.new hd,az,_,_,rfl⟩ @Y ?_ (λτ G' h=>hN τ G' h);rintro pre p post τ G' N2 e ⟨l,gd,a,b,rfl⟩ nP;have fX:pre.length<ps.length:=by have:=congrArg cU e;simp at this;lia
  have h1:=ED pre [];have h2:=pR (l:=par [] pre) (k:=p.1) (v:=p.2);show kI _ _ (.tup [enc p.1,enc p.2]) _ _ _;simp![kI,ez,aE,lh,aS,ak,q4];rw[aq] at h1;refine P.k8 gd (@e) ?_;refine P.k8 az (@e) ?_;refine nP _ _ ⟨(l.put hd).put hd,?_,_,_,rfl⟩;rw[az,A8]
 rintro _ G1 ⟨l1,gd,a,b,rfl⟩;refine bp (λτ G'=>∃p,G1 p=none/\@w/\G' d=some (.jG (c9 (par [] ps)))/\G' p=some (.lst [])/\τ=[@p,some (enc ps),some (.ref d),a,b,@K,none,none]) ?_ ?_
 .intro N hN;simp![aS,cg,aA,aE];refine⟨@c,λp hp=>hN _ _ ⟨p,hp,l1.trans (.new hp),cO.new hp _ _ gd,az,rfl⟩⟩
 rintro _ G2 ⟨p,fp,l2,Wm,gp,rfl⟩;have Za:=l1.free fp;have ZZ:d≠p:=by rintro rfl;rw[gp] at Wm;cases Wm
 refine bp (λτ G'=>@w/\G' p=some (.lst ((chg rows ps).map enc))/\∃x y,τ=[@p,some (enc ps),some (.ref d),a,b,@K,x,y]) ?_ ?_
 .intro N hN;simp![c4,ak];refine dZ ?_;refine cT (xs:=rows) (λpre τ G'=>@w/\G' d=some (.jG (c9 (par [] ps)))/\G' p=some (.lst ((pre.map (kS (x9 rows ps))).map enc))/\∃x y,τ=[@p,some (enc ps),some (.ref d),a,b,@K,x,y]) ⟨l2,Wm,gp,_,_,rfl⟩ @Y ?_ (λτ G' h=>hN τ G' ⟨h.1,h.2.2.1,h.2.2.2⟩);rintro pre r post τ G3 N2 e ⟨l3,PT,T7,x,y,rfl⟩ nP;have fX:pre.length<rows.length:=by have:=congrArg cU e;simp at this;lia
  have V5:∀t∈r,t∈rows.flatten:=λt ht=>List.mem_flatten.mpr ⟨r,by rw[e];simp,ht⟩;have SF:r.length<=500:=cY (lF.gT (by rw[e];simp:r∈rows)) hf;refine bp (λτ G'=>∃p7,G3 p7=none/\cO G3 G'/\G' p7=some (.lst ((r.map λt=>mC ps t.s).map enc))/\τ=[@p,some (enc ps),some (.ref d),a,b,@K,some (enc r),some (.ref p7)]) ?_ ?_
  .intro N hN;simp![aS,eK,ak,aE];refine dZ ⟨Cn (by rw[ax];lia),?_⟩;refine gX (xs:=r) (λpr acc τ G2=>G3=G2/\acc=(pr.map λt:T3=>mC ps t.s).map enc/\∃b,τ=[b,some (.ref d)]) ⟨rfl,rfl,_,rfl⟩ (λ_ _ _ _ _=>trivial) ?_ ?_
   .rintro pr t po acc τ G4 N3 e3 ⟨rfl,rfl,b,rfl⟩ vP;simp![aE,iZ,ak,↓iY,ah,lT,bU,dC,aA,↓Zh];refine⟨by simp only[PT],@c,@c,?_⟩;exact GC (k:=t.s) (e:=t.s) PT (vP _ _ _ ⟨rfl,by rw[aH,aH];rfl,_,rfl⟩)
   .rintro acc τ G4 ⟨rfl,rfl,b,rfl⟩ p2 oq;exact hN _ _ ⟨p2,oq,.new oq,az,rfl⟩
  rintro _ G4 ⟨p7,f7,l4,g7,rfl⟩;simp![bw,iZ,ak,ah,b5,eK,aA];have KN:=l4 _ _ T7;rw[Av g7];refine⟨by simp only[KN],Cn (by rw[ax,ax];lia),?_⟩;refine gX (xs:=r.map λt=>mC ps t.s) (λpr acc τ G5=>G4=G5/\acc=(pr.map λs:T2=>(⟨s.a,s.b,handOf rows s.a⟩:T3)).map enc/\∃b,τ=[b,@p]) ⟨rfl,rfl,_,rfl⟩ (λ_ _ _ _ h=>h.1 ▸ g7) ?_ ?_
  .rintro pr s po acc τ G5 N3 e3 ⟨rfl,rfl,z,rfl⟩ vP;have hs:s∈r.map λt=>mC ps t.s:=by rw[e3];simp
   obtain⟨t,ht,es⟩:=List.mem_map.mp hs;obtain⟨t',QO,e'⟩:=hin t (V5 t ht);simp![aE,bJ,ah,aG,ak,↓P5,dC,↓rB,↓rz,aO,aA];refine⟨rows,s.a,rfl,⟨@e,t',QO,by rw[e',<-es]⟩,⟨@c,vP _ _ _ ⟨rfl,by rw[aH,aH];rfl,_,rfl⟩⟩⟩
  .rintro acc τ G5 ⟨rfl,rfl,z,rfl⟩ p2 oq;refine ij (xs:=(r.map λt=>mC ps t.s).map λs:T2=>(⟨s.a,s.b,handOf rows s.a⟩:T3)) (.new oq) oq az ?_;simp only[KN];refine⟨qY (by rw[ax,ax];lia),nP _ _ ⟨(l3.trans l4).put Za,by rw[dm ZZ];exact l4 _ _ PT,?_,_,_,rfl⟩⟩;have em:(r.map λt=>mC ps t.s).map (λs:T2=>(⟨s.a,s.b,handOf rows s.a⟩:T3))=r.map (x9 rows ps):=fA;rw[az,em,aH,aH];rfl
 rintro _ G3 ⟨l3,T7,x,y,rfl⟩;simp![bc,b5,aO,ah,ak,aA];refine ij (xs:=chg rows ps) l3 Za T7 ?_;refine⟨chg rows ps,rfl,⟨by unfold chg;rw[ax];lia,λr h=>?_⟩,λp' as G2 hr2=>cF (q p' as G2 hr2)⟩;obtain⟨r',Px,rfl⟩:=List.mem_map.mp h;have:=lF.gT Px;rw[ax];lia
end Mo
namespace Mo
open K2.P
open K2.nQ (bR)
open K2.rh (kH Ro)
open K2.tm (dE b6 eP fG)
noncomputable def uW(ps:List (T2×T2)):List T2:=ps.flatMap λp=>[p.1,p.2]
theorem Hd(p)(ps):uW (p::ps)=p.1::p.2::uW ps:=rfl
theorem Aj:∀{ps l:List (T2×T2)},s∉uW ps->dM (par l ps) s=dM l s
 |[],_,_=>rfl
 |p::ps,l,h=>by
  rw[Hd,bN,bN] at h;rw[par,Aj λz=>h (.inr (.inr z)),mI,mI,if_neg λz=>h (.inr (.inl z.symm)),if_neg λz=>h (.inl z.symm)]
theorem OS:∀{ps l:List (T2×T2)},(uW ps).Nodup->∀p∈ps,dM (par l ps) p.1=some p.2/\dM (par l ps) p.2=some p.1
 |q::ps,l,nd,p,hp=>by
  rw[Hd,c5,c5,bN] at nd;obtain⟨n1,n2,n3⟩:=nd;rcases List.mem_cons.mp hp with rfl |hp
  .rw[par,Aj λz=>n1 (.inr z),Aj n2,mI,mI,mI,if_neg λz=>n1 (.inl z.symm),if_pos rfl,if_pos rfl];exact⟨rfl,rfl⟩
  .rw[par];exact OS n3 p hp
theorem lZ(nd:(uW ps).Nodup)(hp:p∈ps):mC ps p.1=p.2/\mC ps p.2=p.1:=by
 obtain⟨h1,h2⟩:=OS (l:=[]) nd p hp;unfold mC;rw[h1,h2];exact⟨rfl,rfl⟩
theorem qB(h:s∉uW ps):mC ps s=s:=by
 unfold mC;rw[Aj h];rfl
theorem lE:s∈uW ps↔∃p∈ps,s=p.1\/s=p.2:=by
 unfold uW;rw[List.mem_flatMap];simp
theorem S9(nd:(uW ps).Nodup)(h:s∈uW ps):mC ps s∈uW ps:=by
 obtain⟨p,hp,rfl |rfl⟩:=lE.mp h
 .rw[(lZ nd hp).1];exact lE.mpr ⟨p,hp,.inr rfl⟩
 .rw[(lZ nd hp).2];exact lE.mpr ⟨p,hp,@E⟩
theorem AB(nd:(uW ps).Nodup)(s):mC ps (mC ps s)=s:=by
 by_cases h:s∈uW ps
 .obtain⟨p,hp,rfl |rfl⟩:=lE.mp h
  .rw[(lZ nd hp).1,(lZ nd hp).2]
  .rw[(lZ nd hp).2,(lZ nd hp).1]
 .rw[qB h,qB h]
noncomputable def LD(ps:List (T2×T2)):List (T2×T2):=ps.map λp=>(p.2,p.1)
theorem AR:∀ps:List (T2×T2),(uW (LD ps)).Perm (uW ps)
 |[]=>.refl _
 |p::ps=>by
  show(p.2::p.1::uW (LD ps)).Perm (p.1::p.2::uW ps);exact(vO _ _ _).trans (((AR ps).cons _).cons _)
theorem Qf(nd:(uW ps).Nodup)(s):mC (LD ps) s=mC ps s:=by
 have ZO:(uW (LD ps)).Nodup:=(AR ps).nodup_iff.mpr nd;by_cases h:s∈uW ps
 .obtain⟨p,hp,e⟩:=lE.mp h;have FE:(p.2,p.1)∈LD ps:=List.mem_map.mpr ⟨p,hp,rfl⟩;have h1:=lZ nd hp;have h2:=lZ ZO FE;rcases e with rfl |rfl
  .rw[h1.1];exact h2.2
  .rw[h1.2];exact h2.1
 .rw[qB h,qB λz=>h ((AR ps).mem_iff.mp z)]
theorem Rm(DI:a≠b)(hac:a≠c)(hbc:b≠c):(uW (mR rows a b c t)).Nodup:=by
 have key:∀x y t,[(Cv x y t).1,(Cv x y t).2].Perm [x,y]:=λx y t=>by
  unfold Cv;split
  .exact .refl _
  .exact .swap _ _ _
 have hp:(uW (mR rows a b c t)).Perm [⟨a,0⟩,⟨b,0⟩,⟨a,1⟩,⟨c,0⟩,⟨b,1⟩,⟨c,1⟩]:=by
  show([_,_]++([_,_]++([_,_]++[]))).Perm ([_,_]++([_,_]++([_,_]++[])));exact(key _ _ _).append ((key _ _ _).append ((key _ _ _).append (.refl _)))
 rw[hp.nodup_iff];simp[DI,hac,hbc]
end Mo
namespace Mo
open K2.P
open K2.nQ (bR)
open K2.rh (kH Ro)
open K2.tm (dE b6 eP fG)
theorem vj(d:@J)(h:p∈rows.flatten):∃R1 R2 r,rows=R1++r::R2/\((∃q T,gb (p::q::T) r/\dM @O p.s=some q.s)\/(gb [p] r/\dM @O p.s=some p.s)):=by
 obtain⟨r,hr,hp⟩:=List.mem_flatten.mp h;obtain⟨R1,R2,rfl⟩:=eD hr;obtain⟨A,B,rfl⟩:=eD hp;have ro:gb (p::(B++A)) (A++p::B):=gb.of (u:=p::B) (v:=A) rfl rfl;refine⟨R1,R2,_,rfl,?_⟩;cases Y7:B++A with
 |nil=>rw[Y7] at ro;exact .inr ⟨ro,wR d ro⟩
 |cons q T=>rw[Y7] at ro;exact .inl ⟨q,T,ro,gr d ro⟩
theorem Su(d:Dr a)(h:Ro a b)(hp:p∈a.flatten):dM (cD (pairsOf b)) p.s=dM (cD (pairsOf a)) p.s:=by
 obtain⟨R1,R2,r,rfl,e⟩:=vj d hp;have db:=d.ro h;obtain⟨WV,r',Xz,rfl,ro,_⟩:=Gm h;rcases e with ⟨q,T,e,n⟩ |⟨e,n⟩
 .rw[n];exact gr db (e.trans ro)
 .rw[n];exact wR db (e.trans ro)
variable {rows:Rows} {ps:List (T2×T2)}
structure Sx(rows:Rows)(ps:List (T2×T2)):Prop where
 d:@J
 nd:(uW ps).Nodup
 hs:∀s∈uW ps,s∈@ak
theorem BW(rows)(ps):(chg rows ps).flatten=rows.flatten.map (x9 rows ps):=by
 unfold chg;generalize x9 rows ps=f;induction rows with
 |nil=>rfl
 |cons r rows ih=>rw[av,br,br,aH,ih]
theorem Sx.N5(x:Sx rows ps)(h:s∈@ak):mC ps s∈@ak:=by
 by_cases hs:s∈uW ps
 .exact x.hs _ (S9 x.nd hs)
 .rw[qB hs];exact h
theorem tW(x:Sx rows ps):q∈(chg rows ps).flatten↔q.s∈@ak/\q.c=handOf rows q.a:=by
 rw[BW,List.mem_map];constructor
 .rintro⟨p,hp,rfl⟩;exact⟨x.N5 (List.mem_map.mpr ⟨p,hp,rfl⟩),rfl⟩
 .rintro⟨hq,hc⟩;obtain⟨p,hp,e⟩:=List.mem_map.mp (x.N5 hq);refine⟨p,hp,?_⟩;have e2:mC ps p.s=q.s:=by rw[e,AB x.nd]
  show(⟨(mC ps p.s).a,(mC ps p.s).b,handOf rows (mC ps p.s).a⟩:T3)=q;rw[e2];show(⟨q.a,q.b,handOf rows q.a⟩:T3)=q;rw[<-hc]
theorem BX(x:Sx rows ps):Dr (chg rows ps):=by
 have d:=x.d;have at':∀q∈(chg rows ps).flatten,∃p∈rows.flatten,p.s=q.s/\p.c=q.c:=λq hq=>by
  obtain⟨h1,h2⟩:=(tW x).mp hq;obtain⟨p,hp,e⟩:=List.mem_map.mp h1;refine⟨p,hp,e,?_⟩;rw[h2,<-gK d hp];rw[show p.a=q.a from congrArg T2.a e]
 refine⟨?_,?_,?_,?_,?_,?_⟩
 .rw[BW,fA];show(rows.flatten.map λp=>mC ps p.s).Nodup;have:(rows.flatten.map λp=>mC ps p.s)=(@ak).map (mC ps):=by rw[fA];rfl
  rw[this];refine List.pairwise_map.mpr (d.nd.imp λ{s t} w9 e=>w9 ?_);have:=congrArg (mC ps) e;rw[AB x.nd,AB x.nd] at this;exact this
 .intro q hq;obtain⟨p,hp,e,_⟩:=at' q hq;have:=d.way p hp;rw[show p.b=q.b from congrArg T2.b e] at this;exact this
 .intro q hq;obtain⟨p,hp,_,e⟩:=at' q hq;have:=d.hand p hp;rw[e] at this;exact this
 .intro q hq;obtain⟨p,hp,e,ec⟩:=at' q hq;have hm:=d.ue p hp;rw[show p.a=q.a from congrArg T2.a e,show p.b=q.b from congrArg T2.b e,ec] at hm;refine(tW x).mpr ⟨List.mem_map.mpr ⟨_,hm,rfl⟩,?_⟩;exact((tW x).mp hq).2
 .rw[BW,ax];exact d.zm
 .unfold chg;rw[ax];exact d.str
theorem Qh(x:Sx rows ps)(hp:p∈rows.flatten):handOf (chg rows ps) p.a=handOf rows p.a:=by
 have hq:(⟨p.a,p.b,handOf rows p.a⟩:T3)∈(chg rows ps).flatten:=(tW x).mpr ⟨List.mem_map.mpr ⟨p,hp,rfl⟩,rfl⟩;exact gK (BX x) hq
theorem Qg(x:Sx rows ps)(hp:p∈rows.flatten)(h:dM @O p.s=some v):dM (cD (pairsOf (chg rows ps))) (mC ps p.s)=some (mC ps v):=by
 have dc:=BX x;obtain⟨R1,R2,r,e,c⟩:=vj x.d hp;have ec:chg rows ps=R1.map (kS (x9 rows ps))++r.map (x9 rows ps)::R2.map (kS (x9 rows ps)):=by
  have:chg rows ps=(R1++r::R2).map (kS (x9 rows ps)):=by rw[<-e];rfl
  rw[this,aH,av]
 rcases c with ⟨q,T,c,n⟩ |⟨c,n⟩
 .rw[h] at n;injection n with n
  rw[n];rw[ec] at dc ⊢;exact gr (p:=x9 rows ps p) (q:=x9 rows ps q) dc c.map
 .rw[h] at n;injection n with n
  rw[n];rw[ec] at dc ⊢;exact wR (p:=x9 rows ps p) dc c.map
theorem Ta(x:Sx rows ps)(e:∀s,mC ps' s=mC ps s):chg (chg rows ps) ps'=rows:=by
 show(rows.map (kS (x9 rows ps))).map (kS (x9 (chg rows ps) ps'))=rows;rw[fA]
 conv=>rhs;rw[<-uq rows]
 refine dh λr hr=>?_;show(r.map (x9 rows ps)).map (x9 (chg rows ps) ps')=r;rw[fA]
 conv=>rhs;rw[<-uq r]
 refine dh λp hp=>?_;have Xi:p∈rows.flatten:=List.mem_flatten.mpr ⟨r,hr,hp⟩;show x9 (chg rows ps) ps' (x9 rows ps p)=p;unfold x9;rw[show(T3.s ⟨(mC ps p.s).a,(mC ps p.s).b,handOf rows (mC ps p.s).a⟩:T2)=mC ps p.s from rfl,e,AB x.nd];show(⟨p.a,p.b,handOf (chg rows ps) p.a⟩:T3)=p;rw[Qh x Xi,gK x.d Xi]
end Mo
namespace Mo
open K2.P
open K2.nQ (bR)
open K2.rh (kH Ro)
open K2.tm (dE b6 eP fG)
theorem VJ(h:Ro a b):Ro (a.map (kS f)) (b.map (kS f)):=by
 induction h with
 |nil=>exact .nil
 |cons q _ ih=>
  have q:gb _ _:=q;exact .cons (show gb _ _ from q.map) ih
theorem SM(d:Dr a)(h:Ro a b)(hp:p∈a.flatten):handOf b p.a=handOf a p.a:=by
 rw[gK d hp];exact gK (d.ro h) ((jE h).mem_iff.mpr hp)
theorem WG(x:Sx a ps)(h:Ro a b):Ro (chg a ps) (chg b ps):=by
 have e:chg b ps=b.map (kS (x9 a ps)):=by
  show b.map (kS (x9 b ps))=_;refine dh λr hr=>dh λp hp=>?_;have Xi:p∈a.flatten:=(jE h).mem_iff.mp (List.mem_flatten.mpr ⟨r,hr,hp⟩);obtain⟨p',FE,e⟩:=List.mem_map.mp (x.N5 (List.mem_map.mpr ⟨p,Xi,rfl⟩));have:=SM x.d h FE;rw[show p'.a=(mC ps p.s).a from congrArg T2.a e] at this;unfold x9;rw[this]
 rw[e];exact VJ h
structure Hw(rows:Rows)(a b c t:Int):Prop where
 n:WU rows a b c t
 f:HW rows a b c t=true
variable {rows:Rows} {a b c t:Int}
theorem v9:HW rows a b c t=true↔b≠a/\c≠a/\c≠b/\∀p∈mR rows a b c t,dM @O p.1=some p.2:=by
 unfold HW;rw[bg,bg,kT];simp only[mE,decide_eq_false_iff_not,decide_eq_true_iff,bN,bf,or_false,not_or,and_assoc,ne_eq]
theorem N8(s:WU rows a b c t):∀x∈uW (mR rows a b c t),x∈@ak:=λx hx=>by
 obtain⟨p,hp,e⟩:=lE.mp hx;have six:x∈([⟨a,0⟩,⟨b,0⟩,⟨a,1⟩,⟨c,0⟩,⟨b,1⟩,⟨c,1⟩]:List T2):=by
  unfold mR Cv at hp;simp only[bN,bf,or_false] at hp;rcases hp with rfl |rfl |rfl<;>(split at e)<;>rcases e with rfl |rfl<;>simp
 have go:∀{n w:Int},vm rows n->(w=0\/w=1)->(⟨n,w⟩:T2)∈@ak:=λhn hw=>by
  obtain⟨p,hp,e⟩:=Bd s.d hn hw;exact List.mem_map.mpr ⟨p,hp,e⟩
 simp only[bN,bf,or_false] at six;rcases six with rfl |rfl |rfl |rfl |rfl |rfl
 .exact go s.na (@E)
 .exact go s.nb (@E)
 .exact go s.na (.inr rfl)
 .exact go s.nc (@E)
 .exact go s.nb (.inr rfl)
 .exact go s.nc (.inr rfl)
theorem Hw.sx(s:Hw rows a b c t):Sx rows (mR rows a b c t):=by
 obtain⟨h1,h2,h3,_⟩:=v9.mp s.f;exact⟨s.n.d,Rm (dA h1) (dA h2) (dA h3),N8 s.n⟩
theorem Ef(h:t=1\/t=-1):Cv x y (-t)=((Cv x y t).2,(Cv x y t).1):=by
 unfold Cv;rcases h with rfl |rfl<;>rfl
theorem ZH(hx:x=1\/x=-1)(hy:y=1\/y=-1)(hz:z=1\/z=-1):x*y*z=1\/x*y*z=-1:=by
 rcases hx with rfl |rfl<;>rcases hy with rfl |rfl<;>rcases hz with rfl |rfl<;>decide
theorem Gf(s:WU rows a b c t)(h:∀n,vm rows n->handOf rQ n=handOf rows n):mR rQ a b c (-t)=LD (mR rows a b c t):=by
 have ha:=iX s.d s.na;have hb:=iX s.d s.nb;have hc:=iX s.d s.nc;unfold mR;rw[h a s.na,h b s.nb,h c s.nc,Iv,Iv,Iv,Iv,Ef s.ht,Ef (ZH s.ht hb hc),Ef (ZH s.ht ha hc)];rfl
def t8(rows:Rows)(a b c t:Int):Rows:=(chg rows (mR rows a b c t)).map bR
theorem v8(rows)(a b c t):Ro (chg rows (mR rows a b c t)) (t8 rows a b c t):=b6 _
theorem Hw.dr(s:Hw rows a b c t):Dr (t8 rows a b c t):=(BX s.sx).ro (v8 ..)
theorem Gg(s:Hw rows a b c t):q∈(t8 rows a b c t).flatten↔q.s∈@ak/\q.c=handOf rows q.a:=by
 rw[(jE (v8 rows a b c t)).mem_iff];exact tW s.sx
theorem Dl(s:Hw rows a b c t)(h:vm rows n):handOf (t8 rows a b c t) n=handOf rows n:=by
 obtain⟨p,hp,rfl⟩:=h.2;have hq:(⟨p.a,p.b,handOf rows p.a⟩:T3)∈(t8 rows a b c t).flatten:=(Gg s).mpr ⟨List.mem_map.mpr ⟨p,hp,rfl⟩,rfl⟩;exact gK s.dr hq
theorem Ei(s:Hw rows a b c t)(h:vm rows n):vm (t8 rows a b c t) n:=by
 obtain⟨p,hp,hb,ha⟩:=d4.mp h.1;have hq:(⟨p.a,p.b,handOf rows p.a⟩:T3)∈(t8 rows a b c t).flatten:=(Gg s).mpr ⟨List.mem_map.mpr ⟨p,hp,rfl⟩,rfl⟩;exact⟨d4.mpr ⟨_,hq,hb,ha⟩,_,hq,ha⟩
theorem Hw.back(s:Hw rows a b c t):Hw (t8 rows a b c t) a b c (-t):=by
 obtain⟨h1,h2,h3,h4⟩:=v9.mp s.f;refine⟨⟨s.dr,Ei s s.n.na,Ei s s.n.nb,Ei s s.n.nc,by have:=s.n.ht;lia⟩,v9.mpr ⟨h1,h2,h3,?_⟩⟩;rw[Gf s.n λn hn=>Dl s hn];intro p hp;obtain⟨p',FE,rfl⟩:=List.mem_map.mp hp;obtain⟨e1,e2⟩:=lZ s.sx.nd FE;have hx:p'.1∈@ak:=s.sx.hs _ (lE.mpr ⟨p',FE,@E⟩);obtain⟨p0,Py,e0⟩:=List.mem_map.mp hx;have n1:=h4 p' FE;rw[<-e0] at n1;have n2:=Qg s.sx Py n1;rw[e0,e1,e2] at n2;have hy:p'.2∈@ak:=s.sx.hs _ (lE.mpr ⟨p',FE,.inr rfl⟩);have hq:(⟨p'.2.a,p'.2.b,handOf rows p'.2.a⟩:T3)∈(chg rows (mR rows a b c t)).flatten:=(tW s.sx).mpr ⟨hy,rfl⟩;have:=Su (BX s.sx) (v8 rows a b c t) hq;show dM (cD (pairsOf (t8 rows a b c t))) p'.2=some p'.1;rw[<-n2];exact this
theorem LH(s:Hw rows a b c t):t8 (t8 rows a b c t) a b c (-t)=rows.map bR:=by
 have e:∀z,mC (mR (t8 rows a b c t) a b c (-t)) z=mC (mR rows a b c t) z:=λz=>by
  rw[Gf s.n λn hn=>Dl s hn];exact Qf s.sx.nd z
 have hc:=Ta s.sx e;have sxc:Sx (chg rows (mR rows a b c t)) (mR (t8 rows a b c t) a b c (-t)):=⟨BX s.sx,s.back.sx.nd,λz hz=>by
  obtain⟨q,hq,e⟩:=List.mem_map.mp (s.back.sx.hs z hz);exact List.mem_map.mpr ⟨q,(jE (v8 rows a b c t)).mem_iff.mp hq,e⟩⟩
 have r:=WG sxc (v8 rows a b c t);rw[hc] at r;exact s.n.d.dn.Gj r
end Mo
namespace Mo
open K2.P
open K2.nQ (bR)
open K2.lF (HR)
open K2.rh (kH Ro)
open K2.tm (bA dE b6)
def qL:da :=
 (aU (bw (aO dW (ah @g (ah (cg (ah (bh ["Slide"] "name" @d) (ah (bh ["Slide"] "second" @d) (ah (bh ["Slide"] "third" @d) aA)))) aA))))
 (bw (aO iw (ah (aO ly (ah @g (ah (bh ["Slide"] "name" @d) (ah (bh ["Slide"] "second" @d) (ah (bh ["Slide"] "third" @d) (ah (bh ["Slide"] "turn" @d) aA)))))) aA))))
def gc:di:=λds G Q _=>∃(p:Nat) (a b c t:Int) (rows:Rows),ds=[.ref p,@L]/\zH G p (.sl a b c t)/\Hw rows a b c t/\∀G',@w->Q .ff G'
theorem zW(ds)(G)(Q)(h:gc ds G Q @f):qL (@f) @q (aJ 2 ds) G:=by
 obtain⟨p,a,b,c,t,rows,rfl,g,s,q⟩:=h;unfold qL;simp![bw,aO,ah,ak,aJ,cg,bh,aA,ends];refine at_ g (at_ g (at_ g ⟨@c,λpl fX=>?_⟩));refine⟨rows,_,[a,b,c],rfl,.ref az,⟨(gV s.n.d).2.2,λm hm=>?_⟩,λG1 l1=>?_⟩
 .simp only[bN,bf,or_false] at hm;rcases hm with rfl |rfl |rfl
  .exact s.n.na.1
  .exact s.n.nb.1
  .exact s.n.nc.1
 have L:=(cO.new fX).trans l1;refine at_ (L _ _ g) (at_ (L _ _ g) (at_ (L _ _ g) (at_ (L _ _ g) ?_)));exact⟨rows,a,b,c,t,rfl,s.n,_,rfl,s.f,q _ L⟩
def uH:da :=
 (aU (bw (cW [("Slide",gc)] "refuse" @d (ah @g aA)))
 (bc (b5 (aO lV (ah @g (ah (aO kl (ah @g (ah (bh ["Slide"] "name" @d) (ah (bh ["Slide"] "second" @d) (ah (bh ["Slide"] "third" @d) (ah (bh ["Slide"] "turn" @d) aA)))))) aA))))))
def eX:di:=λds G Q _=>∃(p:Nat) (a b c t:Int) (rows:Rows),ds=[.ref p,@L]/\zH G p (.sl a b c t)/\Hw rows a b c t/\∀q as G',HR G G' q as (t8 rows a b c t)->Q (.ref q) G'
theorem CY(ds)(G)(Q)(h:eX ds G Q @f):uH (@f) @q (aJ 2 ds) G:=by
 obtain⟨p,a,b,c,t,rows,rfl,g,s,q⟩:=h;have d:=s.n.d;unfold uH;simp![bw,cW,ak,aJ,ah,aA,bc,b5,aO,bh,ends];refine⟨p,_,_,gc,rfl,g,@ag,rfl,⟨p,a,b,c,t,rows,rfl,g,s,λG1 l1=>?_⟩⟩;refine at_ (l1 _ _ g) (at_ (l1 _ _ g) (at_ (l1 _ _ g) (at_ (l1 _ _ g) ?_)));refine⟨rows,a,b,c,t,rfl,s.n,rows,mR rows a b c t,rfl,⟨by have:=d.str;lia,by have:=d.zm;lia,by simp[mR],λx hx=>?_⟩,λp' as G' hr=>cF (q p' as G' (qu hr l1))⟩;obtain⟨y,hy,e⟩:=List.mem_map.mp (s.sx.N5 (List.mem_map.mpr ⟨x,hx,rfl⟩));exact⟨y,hy,congrArg T2.a e⟩
def uI:da :=
 (aU (bw (cW [("Slide",gc)] "refuse" @d (ah @g aA)))
 (bc (b5 (gv "Slide" gm (ah (bh ["Slide"] "name" @d) (ah (bh ["Slide"] "second" @d) (ah (bh ["Slide"] "third" @d) (ah (rq vi (bh ["Slide"] "turn" @d)) aA))))))))
def jq:di:=λds G Q _=>∃(p:Nat) (a b c t:Int) (rows:Rows),ds=[.ref p,@L]/\zH G p (.sl a b c t)/\Hw rows a b c t/\∀q G',@w->G q=none->zH G' q (.sl a b c (-t))->Q (.ref q) G'
theorem CZ(ds)(G)(Q)(h:jq ds G Q @f):uI (@f) @q (aJ 2 ds) G:=by
 obtain⟨p,a,b,c,t,rows,rfl,g,s,q⟩:=h;unfold uI;simp![bw,cW,ak,aJ,ah,aA,bc,b5,gv,bh,rq,ends];refine⟨p,_,_,gc,rfl,g,@ag,rfl,⟨p,a,b,c,t,rows,rfl,g,s,λG1 l1=>?_⟩⟩;refine at_ (l1 _ _ g) (at_ (l1 _ _ g) (at_ (l1 _ _ g) (at_ (l1 _ _ g) ?_)));simp only[↓fx];refine λq' Cq=>⟨q',a,b,c,-t,rfl,az,rfl,cF (q q' _ ?_ ?_ ?_)⟩
 .rw[oF];exact l1.trans (.new Cq)
 .exact l1.free Cq
 .rw[oF];exact az
end Mo
end K2
end
section
namespace K2
namespace Y
abbrev Po:=List (Int×Int)
noncomputable def L(g:Int->Int):Po->Int
 |[]=>0
 |p::l=>p.2*g p.1+L g l
theorem fI:∀(xs ys:@I),xs.Nodup->(∀x∈xs,x∈ys)->xs.length<=ys.length
 |[],_,_,_=>eB _
 |x::xs,ys,hn,h=>by
  rw[c5] at hn;have:=fI xs (ys.erase x) hn.2 λy hy=>(yR (show y≠x from λz=>hn.1 (by rw[<-z];exact hy))).mpr (h y (aP _ hy));have hx:=h x @k;rw[tE hx] at this;have:=vN hx;rw[ai];lia
end Y
end K2
end
section
namespace K2
open PySem (Str)
open Enc (enc)
namespace K40
open K2.P (names handOf Cw bS fQ kj)
open K2.Y (fI)
noncomputable def T8(n:Int):Int:=n % 999+1
noncomputable def fit(n:Int):Nat->Int
 |0=>n
 |k+1=>T8 (fit n k)
theorem oO(h1:1<=n)(h2:n<=999):∀k:Nat,fit n k=(n-1+k) % 999+1
 |0=>by show n=_;lia
 |k+1=>by
  show T8 (fit n k)=_;rw[oO h1 h2 k];unfold T8;lia
theorem xw{ns:@I}(h1:1<=n)(h2:n<=999)(hl:ns.length<=500):∃k,k<=ns.length/\fit n k∉ns:=by
 apply e9;intro Nu;have oN:∀k,k<=ns.length->fit n k∈ns:=λk hk=>e9 λz=>Nu ⟨k,hk,z⟩;have nd:((dG (ns.length+1)).map λk=>fit n k).Nodup:=by
  refine List.pairwise_iff_getElem.mpr λi j hi hj hij=>?_;simp only[ax,c6] at hi hj;rw[cP,cP,lQ,lQ,oO h1 h2,oO h1 h2];lia
 have:=fI _ ns nd λx hx=>by
  obtain⟨k,hk,rfl⟩:=List.mem_map.mp hx;exact oN k (by have:=List.mem_range.mp hk;lia)
 simp at this;lia
end K40
namespace Uj
open K2.P
open K2.K40 (T8)
open K2.Y (fI)
theorem yB:bF c a b E K τ G=c E τ G λk G1=>if k=true then a E K τ G1 else b E K τ G1:=rfl
theorem at2(a b c:D):mH [a,b,c] 2=some c:=rfl
def nO(L:@B):List (Int×Int):=L.foldl (λl p=>jP l p.a p.c) []
def wx:da :=
 (aU (aS sU (aE 1))
 (aU (c4 (ig @d) (aE 2) (c4 (ig @l) (aE 3) (aS (aG cK (ak 3) @N) (q4 @g (aG cK (ak 3) @C)))))
 (bc (b5 @g))))
def gk:di:=λds G Q _=>∃rows:Rows,ds=[@L]/\rows.flatten.length<=500/\Q (.pZ (c9 (nO rows.flatten))) G
theorem Tg [DecidableEq κ](l)(k:κ)(v:β):(jP l k v).length<=l.length+1:=by
 by_cases h:∃p∈l,p.1=k
 .rw[Ff h];lia
 .rw[Ht (λz=>by obtain⟨p,hp,e⟩:=List.mem_map.mp z;exact h ⟨p,hp,e⟩),aM];exact bb _
theorem sE:∀(L:@B) (l:List (Int×Int)),(L.foldl (λl p=>jP l p.a p.c) l).length<=l.length+L.length
 |[],l=>by simp
 |p::L,l=>by
  rw[jC];have h1:=sE L (jP l p.a p.c);have h2:=Tg l p.a p.c;rw[ai];lia
theorem xN(ds)(G)(Q)(h:gk ds G Q @f):wx (@f) @q (aJ 4 ds) G:=by
 obtain⟨rows,rfl,hl,q⟩:=h;unfold wx;simp only[ends,aJ,av,aF,ai,aq,aN,aw,ay,bT,aS,sU,jN,aE,ao,aj];intro p hp;refine bp (λτ G'=>(∃a b,τ=[@p,@K,a,b])/\@w/\G' p=some (.jG (c9 (nO rows.flatten)))) ?_ ?_
 .intro N hN;simp only[c4,cq,ak,ae];refine dZ ?_;refine cT (xs:=rows) (λpre τ G'=>(∃a b,τ=[@p,@K,a,b])/\@w/\G' p=some (.jG (c9 (nO pre.flatten)))) ⟨⟨_,_,rfl⟩,.new hp,az⟩ @Y ?_ ?_
  .rintro pre r post τ G' N2 e ⟨⟨a,b,rfl⟩,l,gp⟩ nP;have hlen:pre.flatten.length+r.length<=rows.flatten.length:=by
    rw[e];simp only[gx,br,aM];lia
   simp only[aE,c4,ao,aj,cq,ak,af,ae];refine dZ ?_;refine cT (xs:=r) (λpp τ G'=>(∃a b,τ=[@p,@K,a,b])/\@w/\G' p=some (.jG (c9 (nO (pre.flatten++pp))))) ⟨⟨_,_,rfl⟩,l,by rw[bH];exact gp⟩ @Y ?_ ?_
   .rintro pp t pt τ G4 N3 e4 ⟨⟨a,b,rfl⟩,l4,KN⟩ vP;have hpp:pp.length<r.length:=by have:=congrArg cU e4;simp at this;lia
    have hz:=sE (pre.flatten++pp) [];rw[aM] at hz;simp only[aE,aS,aG,ak,iY,ao,aj,af,ae,dC,q4,bG,rB,at2];refine P.k8 (k:=t.a) (v:=t.c) KN (by show(nO (pre.flatten++pp)).length<=1000;rw[aq] at hz;unfold nO;lia) ?_;refine vP _ _ ⟨⟨_,_,rfl⟩,l4.put hp,?_⟩;have eh:nO (pre.flatten++(pp++[t]))=jP (nO (pre.flatten++pp)) t.a t.c:=by
     rw[<-bM];unfold nO;exact De ..
    rw[az,eh]
   .rintro τ G4 ⟨⟨a,b,rfl⟩,l4,KN⟩;refine nP _ _ ⟨⟨_,_,rfl⟩,l4,?_⟩;rw[KN,gx,List.flatten_singleton]
  .rintro τ G' ⟨⟨a,b,rfl⟩,l,gp⟩;exact hN _ _ ⟨⟨_,_,rfl⟩,l,gp⟩
 .rintro _ G' ⟨⟨a,b,rfl⟩,l,gp⟩;simp only[bc,b5,ak,af,ae];exact Jt l hp gp q
end Uj
namespace C7
open K2.P
open K2.Mo
open K2.nQ (bR)
open K2.lF (HR)
open K2.rh (kH Ro)
open K2.tm (dE b6 eP fG)
open K2.K3 (yB)
theorem Lw(h:k<r.length):(dH r)[k]?=some (r[(k+1) % r.length]'(Nk _ (@e))):=by
 unfold dH;by_cases hk:k+1<r.length
 .rw[cm (by rw[cZ];lia),List.getElem?_drop];have:(k+1) % r.length=k+1:=Nat.mod_eq_of_lt hk;simp only[this];rw[Nat.add_comm 1 k,bo hk]
 .have e:k+1=r.length:=@e
  rw[bL (by rw[cZ];lia),cZ];have:(k+1) % r.length=0:=by rw[e,Nat.mod_self]
  simp only[this];rw[show k-(r.length-1)=0 by lia,List.getElem?_take,if_pos (@e),bo]
theorem UE{r:@B}(h):(r.zip (dH r)).take (k+1)=(r.zip (dH r)).take k++[(r[k],r[(k+1) % r.length]'(Nk _ (@e)))]:=by
 rw[List.take_succ];congr 1;have:(r.zip (dH r))[k]?=some (r[k],r[(k+1) % r.length]'(Nk _ (@e))):=List.getElem?_zip_eq_some.mpr ⟨bo h,Lw h⟩;rw[this];rfl
def y7:da :=
 (aU (aS sU (aE 1))
 (aU (c4 (ig @d) (aE 2) (c4 (lN (gJ iL (ah @l aA))) (aE 3) (aU (aS (aG cK @l (aG jJ (aG iK (ak 3) @s) (gJ iL (ah @l aA)))) (aE 4))
 (aS (bJ (ah (aG cK (ak 4) @C) (ah (aG cK (ak 4) @s) aA))) (q4 @g (bJ (ah (aG cK (aG cK @l (ak 3)) @C) (ah (aG cK (aG cK @l (ak 3)) @s) aA))))))))
 (bc (b5 @g))))
def jT:di:=λds G Q _=>∃rows:Rows,ds=[@L]/\rows.flatten.length<=500/\Q (.pZ (c9 @O)) G
theorem zA(ds)(G)(Q)(h:jT ds G Q @f):y7 (@f) @q (aJ 5 ds) G:=by
 obtain⟨rows,rfl,hl,q⟩:=h;unfold y7;simp only[↓bT,aS,sU,jN,aE,ends,aJ,↓av,↓aF,↓ai,↓aq,aN,↓aw,↓ay,↓ao,↓aj];intro d hd;refine bp (λτ G'=>(∃a b c,τ=[@p,some (.ref d),a,b,c])/\@w/\G' d=some (.jG (c9 @O))) ?_ ?_
 .intro N hN;simp![c4,ak];refine dZ ?_;refine cT (xs:=rows) (λpre τ G'=>(∃a b c,τ=[@p,some (.ref d),a,b,c])/\@w/\G' d=some (.jG (c9 (cD (pairsOf pre))))) ⟨⟨_,_,_,rfl⟩,.new hd,az⟩ @Y ?_ (λτ G' h=>hN τ G' h);rintro pre r post τ G' N2 e ⟨⟨a,b,c,rfl⟩,l,gd⟩ nP;have hr:pre.flatten.length+r.length<=rows.flatten.length:=by
   rw[e];simp only[gx,br,aM];lia
  simp![aE,c4,gJ,ah,ak,aA];refine d8 (IsL.enc r) ?_;rw[ax];simp only[↓dI];refine⟨@e,@e,?_⟩;refine BA (λpp τ G'=>(∃b c,τ=[@p,some (.ref d),some (enc r),b,c])/\@w/\G' d=some (.jG (c9 (cD (pairsOf pre++(r.zip (dH r)).take pp.length))))) ⟨⟨_,_,rfl⟩,l,by rw[aq,List.take_zero,bH];exact gd⟩ @Y ?_ ?_
  .rintro pp x post τ G4 N3 e4 ⟨⟨b,c,rfl⟩,l4,KO⟩ vP;obtain⟨rfl,hk⟩:=mX e4;have hk:pp.length<r.length:=by simpa using hk
   have hz:(pairsOf pre++(r.zip (dH r)).take pp.length).length<=1000:=by
    have:=pairs_len pre;rw[aM,cz];lia
   have a1:mH (r.map enc) ((pp.length:Nat):Int)=some (enc r[pp.length]):=by
    rw[eY _ (@e) (by rw[ax];lia)];simp only[fu,cP]
   have hm:(pp.length+1) % r.length<r.length:=Nk _ (@e);have a2:mH (r.map enc) ((((pp.length:Nat):Int)+1) % (r.length:Int))=some (enc (r[(pp.length+1) % r.length]'hm)):=by
    have e0:(((pp.length:Nat):Int)+1) % (r.length:Int)=(((pp.length+1) % r.length:Nat):Int):=rfl;rw[e0,eY _ (@e) (by rw[ax];lia)];simp only[fu,cP]
   simp![aE,aS,aG,ak,dC,gJ,ah,aA,bJ,q4];refine d8 (IsL.enc r) ?_;rw[ax];simp only[↓cV];refine⟨@e,dS (IsL.enc r) a2 ?_⟩;simp![↓iY,↓rz,↓rB];refine⟨@c,dS (IsL.enc r) a1 ?_⟩;simp only[↓iY,↓bG,↓rB];refine dS (IsL.enc r) a1 ?_;simp only[↓iY,↓bG,↓rz];refine⟨@c,?_⟩;refine P.k8 (k:=(r[pp.length]).s) (v:=(r[(pp.length+1) % r.length]'hm).s) KO (cY (Dv _) hz) ?_;refine vP _ _ ⟨⟨_,_,rfl⟩,l4.put hd,?_⟩;rw[az,aM,dO,UE hk,<-bM,Bb]
  .rintro τ G4 ⟨⟨b,c,rfl⟩,l4,KO⟩;refine nP _ _ ⟨⟨_,_,_,rfl⟩,l4,?_⟩;have e1:(fe 0 (r.length:Int).toNat).length=r.length:=by unfold fe;simp
   have e2:pairsOf (pre++[r])=pairsOf pre++r.zip (dH r):=by unfold pairsOf;simp
   rw[e1,jc (by rw[HN];lia)] at KO;rw[e2];exact KO
 .rintro _ G' ⟨⟨a,b,c,rfl⟩,l,gd⟩;simp![bc,b5,ak];exact Jt l hd gd q
open K2.Uj (nO sE)
theorem KI:∀(L:@B) (l:List (Int×Int)) (n:Int),dM (L.foldl (λl p=>jP l p.a p.c) l) n=(((L.reverse.find? λp=>decide (p.a=n)).map (·.c)).or (dM l n))
 |[],l,n=>by simp
 | p::L,l,n=>by
  rw[jC,KI L,List.reverse_cons,mD];cases h:L.reverse.find? λp=>decide (p.a=n) with
  |some q=>simp
  |none=>
   simp only[Option.map_none,Option.none_or,dP,List.find?_nil];rw[mI];by_cases c:p.a=n
   .simp[c]
   .simp[c]
theorem yD(d:@J)(h:n∈@y):dM (nO rows.flatten) n=some (handOf rows n):=by
 unfold nO;rw[KI];obtain⟨p,hp,_,e⟩:=d4.mp h;cases q:rows.flatten.reverse.find? λp=>decide (p.a=n) with
 |none=>
  have:=List.find?_eq_none.mp q p (List.mem_reverse.mpr hp);simp[e] at this
 |some r=>
  have h1:=List.mem_reverse.mp (rk q);have h2:r.a=n:=by have:=HP q;simpa using this
  subst h2;rw[gK d h1];rfl
def uG:da :=
 (bc (b5 (MX (aG @G (aG cK @d @g) @l) (aG @G (aG cK @d @l) @g))))
def gz:di:=λds G Q _=>∃(l:List (T2×T2)) (a b va vb:T2),ds=[.pZ (c9 l),enc a,enc b]/\(dM l a=some va/\dM l b=some vb)/\Q (.bl (decide (va=b)||decide (vb=a))) G
theorem uZ(ds)(G)(Q)(h:gz ds G Q @f):uG (@f) @q (aJ 3 ds) G:=by
 obtain⟨l,a,b,va,vb,rfl,⟨ha,hb⟩,q⟩:=h;unfold uG;simp![bc,b5,aG,ak,aJ,ends];refine kZ ha (b7 (@c) ?_);ext d;by_cases h1:va=b
 .simp only[h1,decide_true,↓if_true];rw[h1] at q;simp only[decide_true,QH] at q;exact cF q
 .simp![h1,decide_false];refine kZ hb (b7 (@c) ?_);simp only[h1,decide_false,uv] at q;exact cF q
def wo:da :=
 (bc (b5 (cg (ah (bJ (ah (bJ (ah @d (ah @C aA))) (ah (bJ (ah @g (ah @C aA))) aA))) (ah (bJ (ah (bJ (ah @d (ah @s aA))) (ah (bJ (ah @l (ah @C aA))) aA))) (ah (bJ (ah (bJ (ah @g (ah @s aA))) (ah (bJ (ah @l (ah @s aA))) aA))) aA))))))
noncomputable def zf(a b c:Int):List (T2×T2):=[(⟨a,0⟩,⟨b,0⟩),(⟨a,1⟩,⟨c,0⟩),(⟨b,1⟩,⟨c,1⟩)]
def ky:di:=λds G Q _=>∃(a b c:Int),ds=[.int a,.int b,.int c]/\Q (enc (zf a b c)) G
theorem xJ(ds)(G)(Q)(h:ky ds G Q @f):wo (@f) @q (aJ 3 ds) G:=by
 obtain⟨a,b,c,rfl,q⟩:=h;unfold wo;simp![bc,b5,cg,ah,bJ,ak,aJ,dC,aA,ends];refine⟨@c,@c,@c,@c,@c,@c,@c,@c,@c,@c,λp hp=>?_⟩;exact ij (xs:=zf a b c) (.new hp) hp az q
end C7
namespace C7
open K2.P
open K2.Mo
open K2.nQ (bR)
open K2.lF (HR)
open K2.Uj (nO sE)
theorem Tw (a b):td (.pa a b)=.tup [.str "part",.int a,.int b]:=rfl
theorem J9 (a b c t):td (.sl a b c t)=.tup [.str "slide",.int a,.int b,.int c,.int t]:=rfl
theorem Uc{y:D}:cut [w,x,y] (some 1) none=[x,y]:=rfl
theorem Zf{u:D}:cut [w,x,y,z,u] (some 1) none=[x,y,z,u]:=rfl
def wm:da :=
 (aU (aS (lT @l (gW @s) bU) (kI (ez (aE 3) (ez (aE 4) lh))))
 (aU (bF (sT (bX (aG @G (ak 3) (ak 4))) (sT (bX (aG @G (aG cK @g (ak 3)) (aG cK @g (ak 4)))) (iG (bX (aO gz (ah @d (ah (bJ (ah (ak 3) (ah @C aA))) (ah (bJ (ah (ak 4) (ah @C aA))) aA)))))))) (bc (b5 (dC (.bl false)))) aX)
 (bc (b5 (aO gz (ah @d (ah (bJ (ah (ak 3) (ah @s aA))) (ah (bJ (ah (ak 4) (ah @s aA))) aA))))))))
def kr:di:=λds G Q _=>∃(rows:Rows) (a b:Int) (qh qg rp rm:T2),ds=[.pZ (c9 @O),.pZ (c9 (nO rows.flatten)),td (.pa a b)]/\(@J/\WW rows a b qh qg rp rm)/\Q (.bl (!decide (a=b)&&IQ rows a b qh qg rp rm)) G
theorem xI(ds)(G)(Q)(h:kr ds G Q @f):wm (@f) @q (aJ 5 ds) G:=by
 obtain⟨rows,a,b,qh,qg,rp,rm,rfl,⟨d,c⟩,q⟩:=h;have ha:=yD d c.na.1;have hb:=yD d c.nb.1;unfold wm;rw[Tw];generalize hS:D.tup [.str "part",.int a,.int b]=S;refine bp (λτ G'=>G=G'/\τ=[some (.pZ (c9 @O)),some (.pZ (c9 (nO rows.flatten))),some S,some (.int a),some (.int b)]) ?_ ?_
 .intro N hN;subst hS;simp![aS,lT,ak,aJ,aN,dC,bU,kI,ez,↓Uc,aE,lh];exact⟨@c,hN _ _ @R⟩
 rintro _ _ ⟨rfl,rfl⟩;refine bp (λτ G'=>G=G'/\(a≠b/\@ab≠handOf rows b/\(decide (qh=⟨b,0⟩)||decide (qg=⟨a,0⟩))=true)/\τ=[some (.pZ (c9 @O)),some (.pZ (c9 (nO rows.flatten))),some S,some (.int a),some (.int b)]) ?_ ?_
 .intro N hN;simp![bF,sT,aG,ak,bc,b5,dC,ends,aX,iG,aO,ah,bJ,aA];refine b7 (x:=a) (y:=b) (@c) ?_;by_cases DI:a=b
  .rw[show decide (a=b)=true from decide_eq_true DI] at q ⊢;simp!;exact cF q
  rw[show decide (a=b)=false from decide_eq_false DI] at q ⊢;simp!;refine kZ (k:=a) ha (kZ (k:=b) hb ?_);refine b7 (x:=@ab) (y:=handOf rows b) (@c) ?_;unfold IQ at q;by_cases hh:@ab=handOf rows b
  .rw[show decide (@ab=handOf rows b)=true from decide_eq_true hh] at q ⊢;simp!;exact cF q
  rw[show decide (@ab=handOf rows b)=false from decide_eq_false hh] at q ⊢;simp!;refine⟨@c,@c,_,⟨a,0⟩,⟨b,0⟩,qh,qg,rfl,⟨c.h0,c.h1⟩,?_⟩;cases hn:(decide (qh=(⟨b,0⟩:T2))||decide (qg=(⟨a,0⟩:T2))) with
  |false=>
   rw[hn] at q;simp only[↓aC,↓aI,↓if_true];exact cF q
  |true=>
   simp!;exact hN _ _ ⟨rfl,⟨DI,hh,hn⟩,rfl⟩
 rintro _ _ ⟨rfl,⟨DI,hh,hn⟩,rfl⟩;unfold IQ at q;rw[show decide (a=b)=false from decide_eq_false DI,show decide (@ab=handOf rows b)=false from decide_eq_false hh,hn] at q;simp![bc,b5,aO,ah,ak,bJ,dC,aA,ends];exact⟨@c,@c,_,⟨a,1⟩,⟨b,1⟩,rp,rm,rfl,⟨c.h2,c.h3⟩,cF q⟩
def UO(rows:Rows)(a b c t:Int):@I:=[t,t*handOf rows b*handOf rows c,t*@ab*handOf rows c]
def Vf(rows:Rows)(p:T2×T2)(t:Int):Prop:=dM @O (Cv p.1 p.2 t).1=some (Cv p.1 p.2 t).2
theorem El:HW rows a b c t=true↔(b≠a/\c≠a/\c≠b)/\∀k:Nat,∀p u,(zf a b c)[k]?=some p->(UO rows a b c t)[k]?=some u->Vf rows p u:=by
 rw[v9];constructor
 .rintro⟨h1,h2,h3,h⟩;refine⟨⟨h1,h2,h3⟩,λk p u hp hu=>?_⟩
  match k,hp,hu with
  |0,hp,hu=>cases hp;cases hu;exact h _ (by simp[mR])
  |1,hp,hu=>cases hp;cases hu;exact h _ (by simp[mR])
  |2,hp,hu=>cases hp;cases hu;exact h _ (by simp[mR])
  |k+3,hp,_=>simp[zf] at hp
 .rintro⟨⟨h1,h2,h3⟩,h⟩;refine⟨h1,h2,h3,λp hp=>?_⟩;simp only[mR,bN,bf,or_false] at hp;rcases hp with rfl |rfl |rfl
  .exact h 0 _ _ rfl rfl
  .exact h 1 _ _ rfl rfl
  .exact h 2 _ _ rfl rfl
def uE:da :=
 (aU (aS (lT @l (gW @s) bU) (kI (ez (aE 3) (ez (aE 4) (ez (aE 5) (ez (aE 6) lh))))))
 (aU (bF (sT (bX (aG @G (ak 3) (ak 4))) (sT (bX (aG @G (ak 3) (ak 5))) (bX (aG @G (ak 4) (ak 5))))) (bc (b5 (dC (.bl false)))) aX)
 (aU (aS (aO ky (ah (ak 3) (ah (ak 4) (ah (ak 5) aA)))) (aE 7))
 (aU (aS (cg (ah (ak 6) (ah (aG ud (aG ud (ak 6) (aG cK @g (ak 4))) (aG cK @g (ak 5))) (ah (aG ud (aG ud (ak 6) (aG cK @g (ak 3))) (aG cK @g (ak 5))) aA)))) (aE 8))
 (aU (c4 (lN (dC (.int 3))) (aE 9) (aU (aS (aG cK (ak 7) (ak 9)) (kI (ez (aE 10) (ez (aE 11) lh))))
 (bF (sT (qA (bX (aG @G (aG cK (ak 8) (ak 9)) @s)) (bX (aG (ic true) (aG cK @d (ak 10)) (ak 11)))) (qA (bX (aG @G (aG cK (ak 8) (ak 9)) (rq vi @s))) (bX (aG (ic true) (aG cK @d (ak 11)) (ak 10))))) (bc (b5 (dC (.bl false)))) aX)))
 (bc (b5 (dC (.bl true)))))))))
def iD:di:=λds G Q _=>∃(rows:Rows) (a b c t:Int),ds=[.pZ (c9 @O),.pZ (c9 (nO rows.flatten)),td (.sl a b c t)]/\WU rows a b c t/\Q (.bl (HW rows a b c t)) G
theorem uY(ds)(G)(Q)(h:iD ds G Q @f):uE (@f) @q (aJ 12 ds) G:=by
 obtain⟨rows,a,b,c,t,rfl,s,q⟩:=h;have d:=s.d;have ha:=yD d s.na.1;have hb:=yD d s.nb.1;have hc:=yD d s.nc.1;have ha1:=iX d s.na;have hb1:=iX d s.nb;have Xl:=iX d s.nc;have ht:=s.ht;have mul:∀{x y:Int} {G:Gp} {Q:DK},(x=1\/x=-1)->(y=1\/y=-1)->Q (.int (x*y)) G->ud (.int x) (.int y) G Q:=λhx hy q=>by
  rcases hx with rfl |rfl<;>rcases hy with rfl |rfl<;>exact⟨.inl ⟨@c,@c⟩,q⟩
 have m1:t*handOf rows b=1\/t*handOf rows b=-1:=by rcases ht with rfl |rfl<;>rcases hb1 with h |h<;>rw[h]<;>decide
 have m2:t*@ab=1\/t*@ab=-1:=by rcases ht with rfl |rfl<;>rcases ha1 with h |h<;>rw[h]<;>decide
 unfold uE;rw[J9];generalize hS:D.tup [.str "slide",.int a,.int b,.int c,.int t]=S;generalize hN0:D.pZ (c9 @O)=NX;generalize hH0:D.pZ (c9 (nO rows.flatten))=HD;refine bp (λτ G'=>G=G'/\τ=[some NX,some HD,some S,some (.int a),some (.int b),some (.int c),some (.int t),none,none,none,none,none]) ?_ ?_
 .intro N hN;subst hS;simp![aS,lT,ak,aJ,aN,dC,bU,kI,ez,↓Zf,aE,lh];exact⟨@c,hN _ _ @R⟩
 rintro _ _ ⟨rfl,rfl⟩;refine bp (λτ G'=>G=G'/\(b≠a/\c≠a/\c≠b)/\τ=[some NX,some HD,some S,some (.int a),some (.int b),some (.int c),some (.int t),none,none,none,none,none]) ?_ ?_
 .intro N hN;have no:¬ (b≠a/\c≠a/\c≠b)->HW rows a b c t=false:=λh=>by
   cases e:HW rows a b c t with
   |false=>rfl
   |true=>exact absurd (El.mp e).1 h
  simp![bF,sT,aG,ak,bc,b5,dC,ends,aX];refine b7 (x:=a) (y:=b) (@c) ?_;by_cases h1:a=b
  .rw[show decide (a=b)=true from decide_eq_true h1];rw[no λz=>z.1 h1.symm] at q;simp!;exact cF q
  rw[show decide (a=b)=false from decide_eq_false h1];simp!;refine b7 (x:=a) (y:=c) (@c) ?_;by_cases h2:a=c
  .rw[show decide (a=c)=true from decide_eq_true h2];rw[no λz=>z.2.1 h2.symm] at q;simp!;exact cF q
  rw[show decide (a=c)=false from decide_eq_false h2];simp!;refine b7 (x:=b) (y:=c) (@c) ?_;by_cases h3:b=c
  .rw[show decide (b=c)=true from decide_eq_true h3];rw[no λz=>z.2.2 h3.symm] at q;simp!;exact cF q
  rw[show decide (b=c)=false from decide_eq_false h3];simp!;exact hN _ _ ⟨rfl,⟨dA h1,dA h2,dA h3⟩,rfl⟩
 rintro _ _ ⟨rfl,ne3,rfl⟩;refine bp (λτ G'=>G=G'/\τ=[some NX,some HD,some S,some (.int a),some (.int b),some (.int c),some (.int t),some (enc (zf a b c)),none,none,none,none]) ?_ ?_
 .intro N hN;simp![aS,aO,ah,ak,aA,aE];exact⟨a,b,c,rfl,hN _ _ @R⟩
 rintro _ _ ⟨rfl,rfl⟩;refine bp (λτ G'=>∃p8,@w/\G' p8=some (.lst ((UO rows a b c t).map enc))/\τ=[some NX,some HD,some S,some (.int a),some (.int b),some (.int c),some (.int t),some (enc (zf a b c)),some (.ref p8),none,none,none]) ?_ ?_
 .intro N hN;subst hH0;simp![aS,cg,ah,ak,aG,aA,aE];refine kZ (k:=b) hb ?_;refine mul ht hb1 ?_;refine kZ (k:=c) hc ?_;refine mul m1 Xl ?_;refine kZ (k:=a) ha ?_;refine mul ht ha1 ?_;refine kZ (k:=c) hc ?_;refine mul m2 Xl ?_;exact⟨@c,λp hp=>hN _ _ ⟨p,.new hp,az,rfl⟩⟩
 rintro _ G1 ⟨p8,l1,g8,rfl⟩;refine bp (λτ G'=>G1=G'/\HW rows a b c t=true) ?_ ?_
 .intro N hN;simp![c4,dC,↓dI,ends];refine⟨@c,@c,?_⟩;refine BA (λpre τ G'=>G1=G'/\(∀k:Nat,k<pre.length->∀p u,(zf a b c)[k]?=some p->(UO rows a b c t)[k]?=some u->Vf rows p u)/\∃x y z,τ=[some NX,some HD,some S,some (.int a),some (.int b),some (.int c),some (.int t),some (enc (zf a b c)),some (.ref p8),x,y,z]) ⟨rfl,λk hk=>absurd hk (Nat.not_lt_zero _),_,_,_,rfl⟩ @Y ?_ ?_
  .rintro pre x post τ G2 N1 e ⟨rfl,yC,y1,y2,y3,rfl⟩ Xn;obtain⟨rfl,hk⟩:=mX e;have hk:pre.length<3:=hk;have ea:∃p u,(zf a b c)[pre.length]?=some p/\(UO rows a b c t)[pre.length]?=some u/\(u=1\/u=-1)/\∃v1 v2,dM @O p.1=some v1/\dM @O p.2=some v2:=by
    have YY:pre.length=0\/pre.length=1\/pre.length=2:=@e
    rcases YY with h |h |h<;>rw[h]
    .obtain⟨v1,e1⟩:=k9 d s.na (w:=0) (@E);obtain⟨v2,e2⟩:=k9 d s.nb (w:=0) (@E);exact⟨_,_,rfl,rfl,ht,v1,v2,e1,e2⟩
    .obtain⟨v1,e1⟩:=k9 d s.na (w:=1) (.inr rfl);obtain⟨v2,e2⟩:=k9 d s.nc (w:=0) (@E);exact⟨_,_,rfl,rfl,ZH ht hb1 Xl,v1,v2,e1,e2⟩
    .obtain⟨v1,e1⟩:=k9 d s.nb (w:=1) (.inr rfl);obtain⟨v2,e2⟩:=k9 d s.nc (w:=1) (.inr rfl);exact⟨_,_,rfl,rfl,ZH ht ha1 Xl,v1,v2,e1,e2⟩
   obtain⟨p,u,ep,eu,hu,v1,v2,e1,e2⟩:=ea;have ap:mH ((zf a b c).map enc) ((pre.length:Nat):Int)=some (enc p):=by
    rw[eY _ (@e) (by rw[ax];simp[zf];lia)];simp only[fu,cP];obtain⟨_,e⟩:=List.getElem?_eq_some_iff.mp ep;rw[e]
   have au:mH ((UO rows a b c t).map enc) ((pre.length:Nat):Int)=some (enc u):=by
    rw[eY _ (@e) (by rw[ax];simp[UO];lia)];simp only[fu,cP];obtain⟨_,e⟩:=List.getElem?_eq_some_iff.mp eu;rw[e]
   have bad:¬ Vf rows p u->HW rows a b c t=false:=λh=>by
    cases e:HW rows a b c t with
    |false=>rfl
    |true=>exact absurd ((El.mp e).2 _ _ _ ep eu) h
   have good:Vf rows p u->∀k:Nat,k<(pre++[D.int (pre.length:Nat)]).length->∀p u,(zf a b c)[k]?=some p->(UO rows a b c t)[k]?=some u->Vf rows p u:=λh k hk p' u' FE QN=>by
    rw[aM,dO] at hk;by_cases hkk:k<pre.length
    .exact yC k hkk p' u' FE QN
    .have:k=pre.length:=@e
     subst this;rw[ep] at FE;rw[eu] at QN;cases FE;cases QN;exact h
   simp![aE,aS,aG,ak];refine dS (IsL.enc _) ap ?_;show kI _ _ (.tup [enc p.1,enc p.2]) _ _ _;simp![kI,ez,aE,lh,bF,sT,qA,aG,ak,dC,bc,b5,aX,rq];refine dS (.ref g8) au ?_;refine b7 (x:=u) (y:=(1:Int)) (@c) ?_;rcases hu with rfl |rfl
   .have YG:Vf rows p 1↔v1=p.2:=by
     show dM @O p.1=some p.2↔_;rw[e1];exact⟨λh=>by injection h,λh=>by rw[h]⟩
    simp![decide_true];subst hN0;refine kZ e1 ?_;refine b7 (x:=v1) (y:=p.2) (@c) ?_;by_cases hv:v1=p.2
    .rw[show decide (v1=p.2)=true from decide_eq_true hv];simp!;refine dS (.ref g8) au ?_;refine b7 (x:=(1:Int)) (y:=(-1:Int)) (@c) ?_;rw[show decide ((1:Int)=-1)=false from rfl];simp!;exact Xn _ _ ⟨rfl,good (YG.mpr hv),_,_,_,rfl⟩
    .rw[show decide (v1=p.2)=false from decide_eq_false hv];rw[bad λz=>hv (YG.mp z)] at q;simp only[↓aC,↓aI,↓if_true];exact jb l1 q
   .have YG:Vf rows p (-1)↔v2=p.1:=by
     show dM @O p.2=some p.1↔_;rw[e2];exact⟨λh=>by injection h,λh=>by rw[h]⟩
    rw[show decide ((-1:Int)=1)=false from rfl];simp!;refine dS (.ref g8) au ?_;refine b7 (x:=(-1:Int)) (y:=(-1:Int)) (@c) ?_;simp![decide_true];subst hN0;refine kZ e2 ?_;refine b7 (x:=v2) (y:=p.1) (@c) ?_;by_cases hv:v2=p.1
    .rw[show decide (v2=p.1)=true from decide_eq_true hv];simp!;exact Xn _ _ ⟨rfl,good (YG.mpr hv),_,_,_,rfl⟩
    .rw[show decide (v2=p.1)=false from decide_eq_false hv];rw[bad λz=>hv (YG.mp z)] at q;simp only[↓aC,↓aI,↓if_true];exact jb l1 q
  .rintro τ G2 ⟨rfl,h,_⟩;exact hN _ _ ⟨rfl,El.mpr ⟨ne3,λk p u hp hu=>h k (by
    have:k<(zf a b c).length:=(List.getElem?_eq_some_iff.mp hp).1;exact this) p u hp hu⟩⟩
 rintro _ _ ⟨rfl,e⟩;rw[e] at q;simp only[bc,b5,dC,ends];exact jb l1 q
end C7
namespace C7
open K2.P
open K2.Mo
open K2.nQ (bR)
open K2.lF (HR)
open K2.Uj (nO sE gk)
open K2.D3 (dq Qt Qs)
theorem Qe(nd:(uW ps).Nodup)(ZO:(uW ps').Nodup)(h:∀p∈ps,p∈ps'\/(p.2,p.1)∈ps')(hs:∀s∈uW ps',s∈uW ps)(s):mC ps s=mC ps' s:=by
 by_cases hm:s∈uW ps
 .obtain⟨p,hp,e⟩:=lE.mp hm;obtain⟨a1,a2⟩:=lZ nd hp;rcases h p hp with h |h
  .obtain⟨b1,b2⟩:=lZ ZO h;rcases e with rfl |rfl
   .rw[a1,b1]
   .rw[a2,b2]
  .obtain⟨b1,b2⟩:=lZ ZO h;rcases e with rfl |rfl
   .rw[a1];exact b2.symm
   .rw[a2];exact b1.symm
 .rw[qB hm,qB λz=>hm (hs s z)]
theorem Sw(DI:a≠b)(hac:a≠c)(hbc:b≠c):(uW (zf a b c)).Nodup:=by
 show([⟨a,0⟩,⟨b,0⟩,⟨a,1⟩,⟨c,0⟩,⟨b,1⟩,⟨c,1⟩]:List T2).Nodup;simp[DI,hac,hbc]
theorem Le(s:Hw rows a b c t)(z):mC (zf a b c) z=mC (mR rows a b c t) z:=by
 obtain⟨h1,h2,h3,_⟩:=v9.mp s.f;refine Qe (Sw (dA h1) (dA h2) (dA h3)) s.sx.nd (λp hp=>?_) (λx hx=>?_) z
 .have key:∀(x y:T2) (u:Int),Cv x y u=(x,y)\/Cv x y u=(y,x):=λx y u=>by
   unfold Cv;split
   .exact @E
   .exact .inr rfl
  have go:∀(x y:T2) (u:Int),Cv x y u∈mR rows a b c t->(x,y)∈mR rows a b c t\/(y,x)∈mR rows a b c t:=λx y u h=>by
   rcases key x y u with e |e<;>rw[e] at h
   .exact .inl h
   .exact .inr h
  simp only[zf,bN,bf,or_false] at hp;rcases hp with rfl |rfl |rfl
  .exact go _ _ t (by simp[mR])
  .exact go _ _ (t*handOf rows b*handOf rows c) (by simp[mR])
  .exact go _ _ (t*@ab*handOf rows c) (by simp[mR])
 .obtain⟨p,hp,e⟩:=lE.mp hx;unfold mR Cv at hp;show x∈([⟨a,0⟩,⟨b,0⟩,⟨a,1⟩,⟨c,0⟩,⟨b,1⟩,⟨c,1⟩]:List T2);simp only[bN,bf,or_false] at hp;rcases hp with rfl |rfl |rfl<;>(split at e)<;>rcases e with rfl |rfl<;>simp
def yZ:da :=
 (aU (aS (aO gk (ah @d aA)) (aE 2))
 (aU (aS sU (aE 3))
 (aU (c4 (ig (aO ky (ah (aG cK @g @s) (ah (aG cK @g @N) (ah (aG cK @g (dC (.int 3))) aA))))) (kI (ez (aE 4) (ez (aE 5) lh))) (aU (aS (ak 5) (q4 (ak 3) (ak 4)))
 (aS (ak 4) (q4 (ak 3) (ak 5)))))
 (aU (aS (cg aA) (aE 6))
 (aU (c4 (ig @d) (aE 7) (aU (aS (cg aA) (aE 8))
 (aU (c4 (ig (ak 7)) (aE 9) (aU (aS (iZ XG Bf (ak 3) (ah (bJ (ah (aG cK (ak 9) @C) (ah (aG cK (ak 9) @s) aA))) (ah (bJ (ah (aG cK (ak 9) @C) (ah (aG cK (ak 9) @s) aA))) aA))) (aE 10))
 (bw (iZ pY du (ak 8) (ah (b5 (bJ (ah (aG cK (ak 10) @C) (ah (aG cK (ak 10) @s) (ah (aG cK @l (aG cK (ak 10) @C)) aA))))) aA)))))
 (bw (iZ pY du (ak 6) (ah (b5 (ak 8)) aA))))))
 (bc (b5 (aO dq (ah (b5 (ak 6)) aA)))))))))
def nT:di:=λds G Q _=>∃(rows:Rows) (a b c t:Int),ds=[@L,td (.sl a b c t)]/\Hw rows a b c t/\Q (enc (t8 rows a b c t)) G
theorem zx(ds)(G)(Q)(h:nT ds G Q @f):yZ (@f) @q (aJ 11 ds) G:=by
 obtain⟨rows,a,b,c,t,rfl,s,q⟩:=h;have dr:=s.n.d;have hf:=dr.zm;have afL:=dr.str;unfold yZ;rw[J9];generalize hS:D.tup [.str "slide",.int a,.int b,.int c,.int t]=S;generalize hH:D.pZ (c9 (nO rows.flatten))=HD;refine bp (λτ G'=>G=G'/\τ=[@p,some S,some HD,none,none,none,none,none,none,none,none]) ?_ ?_
 .intro N hN;simp![aS,aO,ah,ak,aJ,aN,aA,aE];exact⟨rows,rfl,@e,by rw[hH];exact hN _ _ @R⟩
 rintro _ _ ⟨rfl,rfl⟩;refine bp (λτ G'=>∃d,G d=none/\@w/\G' d=some (.jG (c9 ([]:List (T2×T2))))/\τ=[@p,some S,some HD,some (.ref d),none,none,none,none,none,none,none]) ?_ ?_
 .intro N hN;simp![aS,sU,jN,aE];exact λd hd=>hN _ _ ⟨d,hd,.new hd,az,rfl⟩
 rintro _ G0 ⟨d,hd,l0,gd0,rfl⟩;refine bp (λτ G'=>@w/\G' d=some (.jG (c9 (par [] (zf a b c))))/\∃x y,τ=[@p,some S,some HD,some (.ref d),x,y,none,none,none,none,none]) ?_ ?_
 .intro N hN;rw[<-hS];simp![c4,aO,ah,aG,ak,dC,↓rz,↓at2,↓Qt,aA,ends];rw[hS];refine⟨a,b,c,rfl,dZ ?_⟩;refine cT (xs:=zf a b c) (λpre τ G'=>@w/\G' d=some (.jG (c9 (par [] pre)))/\∃x y,τ=[@p,some S,some HD,some (.ref d),x,y,none,none,none,none,none]) ⟨l0,gd0,_,_,rfl⟩ @Y ?_ (λτ G' h=>hN τ G' h);rintro pre p post τ G' N2 e ⟨l,gd,x,y,rfl⟩ nP;have fX:pre.length<3:=by have:=congrArg cU e;simp[zf] at this;lia
  have h1:=ED pre [];have h2:=pR (l:=par [] pre) (k:=p.1) (v:=p.2);show kI _ _ (.tup [enc p.1,enc p.2]) _ _ _;simp![kI,ez,aE,lh,aS,ak,q4];rw[aq] at h1;refine P.k8 gd (@e) ?_;refine P.k8 az (@e) ?_;refine nP _ _ ⟨(l.put hd).put hd,?_,_,_,rfl⟩;rw[az,A8]
 rintro _ G1 ⟨l1,gd,x1,y1,rfl⟩;refine bp (λτ G'=>∃p,G1 p=none/\@w/\G' d=some (.jG (c9 (par [] (zf a b c))))/\G' p=some (.lst [])/\τ=[@p,some S,some HD,some (.ref d),x1,y1,@K,none,none,none,none]) ?_ ?_
 .intro N hN;simp![aS,cg,aA,aE];exact⟨@c,λp hp=>hN _ _ ⟨p,hp,l1.trans (.new hp),cO.new hp _ _ gd,az,rfl⟩⟩
 rintro _ G2 ⟨p,fp,l2,Wm,gp,rfl⟩;have Za:=l1.free fp;have ZZ:d≠p:=by rintro rfl;rw[gp] at Wm;cases Wm
 have ech:∀t':T3,(⟨(mC (zf a b c) t'.s).a,(mC (zf a b c) t'.s).b,handOf rows (mC (zf a b c) t'.s).a⟩:T3)=x9 rows (mR rows a b c t) t':=λt'=>by
  unfold x9;rw[Le s]
 refine bp (λτ G'=>@w/\G' p=some (.lst ((chg rows (mR rows a b c t)).map enc))/\∃x y z w,τ=[@p,some S,some HD,some (.ref d),x1,y1,@K,x,y,z,w]) ?_ ?_
 .intro N hN;simp![c4,ak,ends];refine dZ ?_;refine cT (xs:=rows) (λpre τ G'=>@w/\G' d=some (.jG (c9 (par [] (zf a b c))))/\G' p=some (.lst ((pre.map (kS (x9 rows (mR rows a b c t)))).map enc))/\∃x y z w,τ=[@p,some S,some HD,some (.ref d),x1,y1,@K,x,y,z,w]) ⟨l2,Wm,gp,_,_,_,_,rfl⟩ @Y ?_ (λτ G' h=>hN τ G' ⟨h.1,h.2.2.1,h.2.2.2⟩);rintro pre r post τ G3 N2 e ⟨l3,PT,T7,x,y,z,w,rfl⟩ nP;have fX:pre.length<rows.length:=by have:=congrArg cU e;simp at this;lia
  have V5:∀t∈r,t∈rows.flatten:=λt ht=>List.mem_flatten.mpr ⟨r,by rw[e];simp,ht⟩;have SF:r.length<=24:=cY (lF.gT (by rw[e];simp:r∈rows)) hf;refine bp (λτ G'=>∃p8,G3 p8=none/\cO G3 G'/\G' p8=some (.lst [])/\τ=[@p,some S,some HD,some (.ref d),x1,y1,@K,some (enc r),some (.ref p8),z,w]) ?_ ?_
  .intro N hN;simp![aS,cg,aA,aE];exact⟨@c,λp8 hp8=>hN _ _ ⟨p8,hp8,.new hp8,az,rfl⟩⟩
  rintro _ G4 ⟨p8,f8,l4,g8,rfl⟩;refine bp (λτ G'=>cO G3 G'/\G' p8=some (.lst ((r.map (x9 rows (mR rows a b c t))).map enc))/\∃z w,τ=[@p,some S,some HD,some (.ref d),x1,y1,@K,some (enc r),some (.ref p8),z,w]) ?_ ?_
  .intro N hN;simp![c4,ak];refine dZ ?_;refine cT (xs:=r) (λpp τ G'=>cO G3 G'/\G' p8=some (.lst ((pp.map (x9 rows (mR rows a b c t))).map enc))/\∃z w,τ=[@p,some S,some HD,some (.ref d),x1,y1,@K,some (enc r),some (.ref p8),z,w]) ⟨l4,g8,_,_,rfl⟩ @Y ?_ (λτ G' h=>hN τ G' h);rintro pp t' po τ G5 N3 e3 ⟨l5,g5,z5,w5,rfl⟩ vP;have hpp:pp.length<r.length:=by have:=congrArg cU e3;simp at this;lia
   have QO:t'∈rows.flatten:=V5 t' (by rw[e3];simp);obtain⟨y',V1,ey⟩:=List.mem_map.mp (s.sx.N5 (List.mem_map.mpr ⟨t',QO,rfl⟩));rw[<-Le s] at ey;have YJ:(mC (zf a b c) t'.s).a∈@y:=by
    rw[<-ey];rcases dr.way y' V1 with h |h
    .exact d4.mpr ⟨y',V1,h,rfl⟩
    .exact d4.mpr ⟨_,dr.ue y' V1,by show 1-y'.b=0;lia,rfl⟩
   have hh:=yD dr YJ;have gd5:=l5 _ _ PT;simp![aE,aS,iZ,ak,↓iY,ah,bJ,aG,dC,↓rB,↓rz,aA,bw,b5];refine⟨by simp only[gd5],@c,@c,?_⟩;refine GC (k:=t'.s) (e:=t'.s) gd5 ?_;show _/\cK (enc (mC (zf a b c) t'.s)) _ _ _;simp![↓P5,↓rB,↓rz];refine⟨by simp only[g5],?_⟩;subst hH;refine kZ hh ⟨@c,?_⟩;refine cF ?_;simp only[g5];refine⟨qY (by rw[ax,ax];lia),vP _ _ ⟨l5.put f8,?_,_,_,rfl⟩⟩;rw[az,aH,aH,List.map_singleton,List.map_singleton,<-ech];rfl
  rintro _ G5 ⟨l5,g5,z5,w5,rfl⟩;have gp5:=l5 _ _ T7;have gd5:=l5 _ _ PT;simp![bw,iZ,ak,ah,b5,aA];refine⟨by simp only[gp5],?_⟩;refine ij (xs:=r.map (x9 rows (mR rows a b c t))) l5 f8 g5 ?_;simp only[T7];refine⟨qY (by rw[ax,ax];lia),nP _ _ ⟨l3.put Za,by rw[dm ZZ];exact PT,?_,_,_,_,_,rfl⟩⟩;rw[az,aH,aH];rfl
 rintro _ G3 ⟨l3,T7,x,y,z,w,rfl⟩;simp![bc,b5,aO,ah,ak,aA,ends];refine ij (xs:=chg rows (mR rows a b c t)) l3 Za T7 ?_;refine⟨chg rows (mR rows a b c t),rfl,⟨by unfold chg;rw[ax];lia,λr h=>?_⟩,cF q⟩;obtain⟨r',Px,rfl⟩:=List.mem_map.mp h;have:=lF.gT Px;rw[ax];lia
end C7
namespace D3
open K2.P
open K2.Mo hiding bW cA cL
open K2.nQ (bR jy nC jK)
open K2.lF (HR gw)
open K2.rh (kH Ro)
open K2.tm (bA dE b6 eP fG)
open K2.Nb (tU)
theorem JG(c:Zz rows n s)(hf:f=0\/f=1)(hh:h=1\/h=-1):Dr (WN rows n s f h) :=
 (S6 c.d c.hs c.fr hf hh c.zm).ro (b6 _)
theorem Fe(c:Zz rows n s)(hf:f=0\/f=1)(hh:h=1\/h=-1):(i6 [n] (WN rows n s f h)).map bR=rows.map bR:=by
 have h1:i6 [n] (jm s (cps n f h) rows 0)=rows:=KU (λp hp=>by simp[cps] at hp;rcases hp with rfl |rfl<;>simp) λp hp z=>c.fr p hp (List.mem_singleton.mp z);have h2:=PZ (ns:=[n]) (b6 (jm s (cps n f h) rows 0));rw[h1] at h2;exact c.d.dn.Gj h2
end D3
namespace Lo
open K2.P
open K2.Mo hiding bW cA cL
open K2.nQ (bR)
open K2.lF (HR)
open K2.K3 (Oc yB)
open K2.rh (kH Ro)
open K2.tm (bA dE b6 eP fG)
open K2.D3 (fP dq wN BO Qt Qs wK)
def fD:di:=UW (λrows:Rows=>rows.length<=100/\rows.flatten.length<=300) λrows=>bz rows 0
def qm:da :=
 (aU (aS (cg aA) (aE 1))
 (aU (c4 (lN (gJ iL (ah @d aA))) (aE 2) (aU (bF (iG (bX (aG cK @d @l))) (bw (iZ pY du @g (ah (bJ (ah @l (ah @N aA))) aA))) aX)
 (c4 (ig (aG cK @d @l)) (aE 3) (bw (iZ pY du @g (ah (bJ (ah (aG cK (ak 3) @C) (ah (aG cK (ak 3) @s) aA))) aA))))))
 (bc (b5 @g))))
theorem N0(str:rows.length<=100)(zm:rows.flatten.length<=300)(q:∀d G',G d=none->@w->G' d=some (.lst ((bz rows 0).map enc))->D5 G' (.ref d) Q):qm (@f) @q (aJ 4 [@L]) G:=by
 have sl:=AV rows;unfold qm;simp only[ends,aJ,av,aF,ai,aq,aN,aw,ay,bT,aS,cg,aA,aE,ao,aj];refine⟨@c,λd hd=>?_⟩;refine bp (λτ G'=>(∃a b,τ=[@p,some (.ref d),a,b])/\@w/\G' d=some (.lst ((bz rows 0).map enc))) ?_ ?_
 .intro N hN;simp only[c4,eQ,gJ,ah,ak,ae,aA];refine d8 (IsL.enc rows) ?_;rw[ax];simp only[dI];refine⟨@e,@e,?_⟩;unfold fe;refine cT (xs:=dG (rows.length:Int).toNat) (λks τ G'=>(∃a b,τ=[@p,some (.ref d),a,b])/\@w/\G' d=some (.lst ((bz (rows.take ks.length) 0).map enc))) ⟨⟨_,_,rfl⟩,.new hd,az⟩ @Y ?_ ?_
  .rintro ks k post τ G1 N2 e ⟨⟨a1,a2,rfl⟩,l1,gd1⟩ nP;have ek:k=ks.length:=by
    have:=congrArg (λl=>l[ks.length]?) e;simp only[bL (bb _),QY,ae] at this;have hl:=congrArg cU e;rw[c6,aM,ai] at hl;rw[List.getElem?_range (@e)] at this;injection this with this;exact this.symm
   have hk:k<rows.length:=by
    have:k∈dG (rows.length:Int).toNat:=by rw[e];simp
    have:=List.mem_range.mp this;lia
   subst ek;have et:rows.take (ks.length+1)=rows.take ks.length++[rows[ks.length]]:=by rw[List.take_add_one,bo hk];rfl
   have esp:bz (rows.take (ks.length+1)) 0=bz (rows.take ks.length) 0++bS rows[ks.length] (ks.length:Int):=by
    rw[et,mM,bz,bz,bH,cz,qe (@e),nK]
   have aaX:(bz (rows.take ks.length) 0).length+(bS rows[ks.length] (ks.length:Int)).length<=400:=by
    have h1:(bz rows 0).length<=400:=@e
    have:=mM (rows.take (ks.length+1)) (rows.drop (ks.length+1)) 0;rw[cH] at this;rw[this,aM,esp,aM] at h1;lia
   generalize hro:rows[ks.length]=r at *;have xr:mH (rows.map (enc:@B->D)) (0+(ks.length:Int))=some (enc r):=by rw[Oc hk,hro]
   generalize bz (rows.take ks.length) 0=L at *;simp only[aE,ao,aj];refine bp (λτ G'=>(∃b,τ=[@p,some (.ref d),some (.int (0+(ks.length:Int))),b])/\@w/\((r=[]/\G' d=some (.lst ((L++bS r (ks.length:Int)).map enc)))\/(r≠[]/\G' d=some (.lst (L.map enc))))) ?_ ?_
   .intro N3 vP;simp only[yB,iG,bw,iZ,ak,af,ae,dU,ah,bJ,dC,aA,ai,aq,cb,aX,aY,aG];refine dS (IsL.enc rows) xr ?_;refine AQ (IsL.enc r) ?_;cases r with
    |nil=>
     simp only[aF,u7,aK,aI,gd1,true_and,if_true];refine⟨@c,qY (by rw[ax];lia),vP _ _ ⟨⟨_,rfl⟩,l1.put hd,.inl ⟨rfl,?_⟩⟩⟩;rw[az,Int.zero_add,aH];rfl
    |cons t r=>
     simp only[av,tF,aI,aK,ag,if_false];exact vP _ _ ⟨⟨_,rfl⟩,l1,.inr ⟨by simp,gd1⟩⟩
   .rintro _ G3 ⟨⟨b,rfl⟩,l3,PT⟩;simp only[c4,cq,aG,ak,ae,af];refine dS (IsL.enc rows) xr ?_;refine dZ ?_;refine cT (xs:=r) (λpp τ G'=>(∃b,τ=[@p,some (.ref d),some (.int (0+(ks.length:Int))),b])/\@w/\((r=[]/\G' d=some (.lst ((L++bS r (ks.length:Int)).map enc)))\/(r≠[]/\G' d=some (.lst ((L++pp.map T3.s).map enc))))) ⟨⟨_,rfl⟩,l3,?_⟩ @Y ?_ ?_
    .rcases PT with h |⟨h1,h2⟩
     .exact .inl h
     .exact .inr ⟨h1,by rw[aF,bH];exact h2⟩
    .rintro pp t pt τ G4 N4 e4 ⟨⟨b,rfl⟩,l4,KO⟩ hN4;have kO:r≠[]:=by rw[e4];simp
     rcases KO with ⟨h1,_⟩ |⟨_,KO⟩
     .exact absurd h1 kO
     have eo:bS r (ks.length:Int)=r.map T3.s:=by unfold bS;rw[if_neg kO]
     have hl4:(L++pp.map T3.s).length<=1000:=by
      rw[eo,ax] at aaX;have:=congrArg cU e4;rw[aM,ai] at this;rw[aM,ax];lia
     simp only[aE,bw,iZ,ak,iY,ao,aj,af,ae,dU,KO,ah,bJ,aG,dC,aA,ai,aq,cb,bG,rz,rB,true_and];refine⟨@c,qY (by rw[ax];exact hl4),hN4 _ _ ⟨⟨_,rfl⟩,l4.put hd,.inr ⟨kO,?_⟩⟩⟩;rw[az,aH (l₁:=pp),<-bM,aH (l₁:=L++_)];rfl
    .rintro τ G4 ⟨⟨b,rfl⟩,l4,KO⟩;refine nP _ _ ⟨⟨_,_,rfl⟩,l4,?_⟩;rw[aM,ai,aq,nK,esp];rcases KO with ⟨_,h⟩ |⟨h1,h⟩
     .exact h
     .have eo:bS r (ks.length:Int)=r.map T3.s:=by unfold bS;rw[if_neg h1]
      rw[eo];exact h
  .rintro τ G' ⟨⟨a,b,rfl⟩,l,gd⟩;refine hN _ _ ⟨⟨_,_,rfl⟩,l,?_⟩;have:rows.take (dG (rows.length:Int).toNat).length=rows:=by rw[c6];simp
   rw[this] at gd;exact gd
 .rintro _ G' ⟨⟨a,b,rfl⟩,l,gd⟩;simp only[bc,b5,ak,af,ae];exact q _ _ hd l gd
theorem xH(ds)(G)(Q)(h:fD ds G Q @f):qm (@f) @q (aJ 4 ds) G:=by
 obtain⟨rows,rfl,hd,q⟩:=h;exact N0 hd.1 hd.2 λd G' hd l gd=>ij l hd gd q
theorem aaI(k)(h:r.map T3.s=r'.map T3.s):bS r k=bS r' k:=by
 unfold bS;cases r with
 |nil=>cases r' with
  |nil=>rfl
  |cons x r'=>cases h
 |cons y r=>cases r' with
  |nil=>cases h
  |cons x r'=>rw[if_neg @k,if_neg @k,h]
theorem Zb(h:ps.map T3.s=ps'.map T3.s):∀r:@B,(r.flatMap (yv s ps)).map T3.s=(r.flatMap (yv s ps')).map T3.s
 |[]=>rfl
 |p::r=>by
  rw[cJ,cJ,aH,aH,Zb h r];congr 1;unfold yv;split
  .rw[av,av,h]
  .rfl
theorem XZ(h:ps.map T3.s=ps'.map T3.s)(k)(r):(gS s ps k r).map T3.s=(gS s ps' k r).map T3.s:=by
 unfold gS;rw[aH,aH,Zb h r];split
 .rw[h]
 .rfl
theorem yr(h:ps.map T3.s=ps'.map T3.s):∀(rows:Rows) (k j:Nat),bz (jm s ps rows k) j=bz (jm s ps' rows k) j
 |[],_,_=>rfl
 |r::rows,k,j=>by
  show bS (gS s ps k r) _++bz (jm s ps rows (k+1)) (j+1)=bS (gS s ps' k r) _++bz (jm s ps' rows (k+1)) (j+1);rw[aaI _ (XZ h k r),yr h rows]
theorem Gv(d:@J)(hs:s∈bz rows 0)(hp:ps.length<=4):(jm s ps rows 0).length<=100/\(jm s ps rows 0).flatten.length<=30:=by
 have:=d.str;have:=d.zm;refine⟨by rw[lB];lia,?_⟩;rw[(pb (ps:=ps) d.dn (Kc hs)).length_eq,aM];lia
theorem Dj (a b) (o u) (t h):td (.la a b o u t h)=.tup [.str "lay",.int a,.int b,enc o,enc u,.int t,.int h]:=rfl
theorem at5{r:@i}:mH (a::b::c::d::e::f::r) 5=some f:=by
 rw[eY _ (@c) (by simp;lia)];rfl
theorem at6{r:@i}:mH (a::b::c::d::e::f::g::r) 6=some g:=by
 rw[eY _ (@c) (by simp;lia)];rfl
end Lo
namespace Lo
open K2.P
open K2.Mo hiding bW cA cL
open K2.nQ (bR)
open K2.lF (HR)
open K2.rh (kH Ro)
open K2.tm (bA dE b6 eP fG)
open K2.D3 (fP dq wN BO Qt Qs wK)
theorem MC(d:@J)(ho:o∈bz rows 0)(hu:u∈bz (zL rows a b o h) 0)(dn:rC (zL rows a b o h)):((zL rows a b o h).length<=100/\∀r∈zL rows a b o h,r.length<=100)/\(raw rows a b o u t h).length<=500/\∀r∈raw rows a b o u t h,r.length<=500:=by
 obtain⟨k1,k2⟩:=Gv (ps:=sC a b 0 h) d ho (by simp[sC]);have k1:(zL rows a b o h).length<=100:=k1;have k2:(zL rows a b o h).flatten.length<=30:=k2;refine⟨⟨k1,λr hr=>?_⟩,?_,λr hr=>?_⟩
 .have:=lF.gT hr;lia
 .unfold raw;rw[lB];lia
 .have:=lL (ps:=Dy a b t h) dn hu r hr;have e:(Dy a b t h).length=2:=(sy a b t h).length_eq;lia
def y9:da :=
 (aU (aS (cg (ah (bJ (ah (aG cK @g @s) (ah @C (ah (aG cK @g (dC (.int 6))) aA)))) (ah (bJ (ah (aG cK @g @N) (ah @C (ah (rq vi (aG cK @g (dC (.int 6)))) aA)))) aA))) (aE 2))
 (aU (aS (cg (ah (bJ (ah (aG cK @g @s) (ah @s (ah (aG cK @g (dC (.int 6))) aA)))) (ah (bJ (ah (aG cK @g @N) (ah @s (ah (rq vi (aG cK @g (dC (.int 6)))) aA)))) aA))) (aE 3))
 (aU (bF (bX (aG @G (aG cK @g (dC (.int 5))) @s)) (aS (cg (ah (aG cK (ak 3) @s) (ah (aG cK (ak 3) @C) aA))) (aE 3)) aX)
 (bc (b5 (aO dq (ah (aO fP (ah (aO fP (ah @d (ah (aG cK @g (dC (.int 3))) (ah @l aA)))) (ah (aG cK @g (dC (.int 4))) (ah (ak 3) aA)))) aA)))))))
def lJ:di:=λds G Q _=>∃(rows:Rows) (a b:Int) (o u:T2) (t h:Int),ds=[@L,td (.la a b o u t h)]/\(@J/\o∈bz rows 0/\u∈bz (zL rows a b o h) 0/\rC (zL rows a b o h)/\(t=0\/t=1)/\(h=1\/h=-1))/\Q (enc (laid rows a b o u t h)) G
theorem zC(ds)(G)(Q)(h:lJ ds G Q @f):y9 (@f) @q (aJ 4 ds) G:=by
 obtain⟨rows,a,b,o,u,t,h,rfl,⟨d,ho,hu,dn,ht,hh⟩,q⟩:=h;obtain⟨h1,h2⟩:=BO d;obtain⟨⟨k1,k2⟩,k3⟩:=MC (t:=t) d ho hu dn;have nh:h.natAbs=1:=@e
 unfold y9;rw[Dj];refine bp (λτ G'=>∃p2,@w/\G' p2=some (.lst ((sC a b 0 h).map enc))/\τ=[@p,some (td (.la a b o u t h)),some (.ref p2),none]) ?_ ?_
 .intro N hN;simp![aS,cg,ah,bJ,aG,ak,aJ,aN,dC,↓rz,↓at6,aA,↓at2,rq,aE];exact⟨@c,@c,@c,λp hp=>hN _ _ ⟨p,.new hp,az,rfl⟩⟩
 rintro _ G1 ⟨p2,l1,g2,rfl⟩;rw[Dj];refine bp (λτ G'=>∃p3,cO G1 G'/\G' p3=some (.lst ((sC a b 1 h).map enc))/\τ=[@p,some (td (.la a b o u t h)),some (.ref p2),some (.ref p3)]) ?_ ?_
 .intro N hN;simp![aS,cg,ah,bJ,aG,ak,dC,↓rz,↓at6,aA,↓at2,rq,aE];exact⟨@c,@c,@c,λp hp=>hN _ _ ⟨p,.new hp,az,rfl⟩⟩
 rintro _ G2 ⟨p3,l2,g3,rfl⟩;rw[Dj];refine bp (λτ G'=>∃p3,cO G2 G'/\G' p3=some (.lst ((Dy a b t h).map enc))/\τ=[@p,some (td (.la a b o u t h)),some (.ref p2),some (.ref p3)]) ?_ ?_
 .intro N hN;simp![bF,aG,ak,dC,↓at5,aS,cg,ah,aA,aE,aX];refine b7 (x:=t) (y:=(1:Int)) (@c) ?_;rcases ht with rfl |rfl
  .simp only[↓aC,↓ag,↓if_false];exact hN _ _ ⟨p3,.refl _,g3,rfl⟩
  .simp![decide_true];refine dS (.ref g3) (x:=enc (⟨b,1,-h⟩:T3)) (i:=1) rz ?_;refine dS (.ref g3) (x:=enc (⟨a,1,h⟩:T3)) (i:=0) rB ?_;exact⟨@c,λp hp=>hN _ _ ⟨p,.new hp,az,rfl⟩⟩
 rintro _ G3 ⟨p3,l3,g3,rfl⟩;rw[Dj];simp![bc,b5,aO,ah,ak,aG,dC,↓Qt,aA,↓Qs,ends];refine⟨rows,o,_,sC a b 0 h,rfl,.ref ((l2.trans l3) _ _ g2),⟨h1,h2,by simp[sC]⟩,?_⟩;refine⟨_,u,_,Dy a b t h,rfl,.ref g3,⟨k1,k2,by rw[(sy a b t h).length_eq];simp[sC]⟩,?_⟩;exact⟨_,rfl,k3,jb ((l1.trans l2).trans l3) q⟩
end Lo
namespace Lo
open K2.P
open K2.Mo hiding bW cA cL
open K2.nQ (bR)
open K2.lF (HR)
open K2.rh (kH Ro)
open K2.tm (bA dE b6 eP fG)
open K2.Nb (tU)
open K2.D3 (dq Qt Qs)
variable {rows:Rows} {a b:Int} {o u:T2} {t h:Int}
theorem Au(c:Ib rows a b o u t h):Dr (laid rows a b o u t h):=(IH c).ro (b6 _)
theorem EJ(c:Ib rows a b o u t h):QS (laid rows a b o u t h) a b h:=(U8 c).ro (b6 _)
theorem Bs(c:Ib rows a b o u t h)(ha:a∈ns)(hb:b∈ns)(hn:∀n∈ns,n=a\/n=b):(i6 ns (laid rows a b o u t h)).map bR=rows.map bR:=by
 have h2:=PZ (ns:=ns) (b6 (raw rows a b o u t h));rw[Ry c ns ha hb hn] at h2;exact c.d.dn.Gj h2
theorem Ib.Yw(c:Ib rows a b o u t h):@J/\o∈bz rows 0/\u∈bz (zL rows a b o h) 0/\rC (zL rows a b o h)/\(t=0\/t=1)/\(h=1\/h=-1):=⟨c.d,c.ho,c.hu,yi c,c.ht,c.hh⟩
end Lo
namespace C7
open K2.P
open K2.Mo
open K2.nQ (bR)
open K2.lF (HR)
open K2.D3 (dq fP Qt Qs wK WN wN BO Tx)
open K2.Lo (lJ Dj at5 at6)
def rX:da :=
 (aU (aS (cg aA) (aE 2))
 (aU (c4 (ig @d) (aE 3) (bw (iZ pY du @l (ah (b5 (eK 1 [1] (ig (ak 3)) (aE 0) (some (bX (aG (uN true) (aG cK @d @C) @g))) @d)) aA))))
 (bc (b5 (aO dq (ah (b5 @l) aA))))))
def kq:di:=λds G Q _=>∃(rows:Rows) (ns:@I),ds=[@L,.tup (ns.map enc)]/\(rows.length<=500/\∀r∈rows,r.length<=500)/\Q (enc ((i6 ns rows).map bR)) G
theorem sX(ds)(G)(Q)(h:kq ds G Q @f):rX (@f) @q (aJ 4 ds) G:=by
 obtain⟨rows,ns,rfl,⟨hl,hr⟩,q⟩:=h;unfold rX;simp only[↓bT,aS,cg,aA,↓aq,aE,ends,aJ,↓av,↓aF,↓ai,aN,↓aw,↓ay,↓ao,↓aj];refine⟨@c,λp hp=>?_⟩;refine bp (λτ G'=>@w/\G' p=some (.lst ((i6 ns rows).map enc))/\∃a,τ=[@p,some (.tup (ns.map enc)),@K,a]) ?_ ?_
 .intro N hN;simp![c4,ak];refine dZ ?_;refine cT (xs:=rows) (λpre τ G'=>@w/\G' p=some (.lst ((i6 ns pre).map enc))/\∃a,τ=[@p,some (.tup (ns.map enc)),@K,a]) ⟨.new hp,az,_,rfl⟩ @Y ?_ (λτ G' h=>hN τ G' h);rintro pre r post τ G' N2 e ⟨l,g,a,rfl⟩ nP;have SF:=hr r (by rw[e];simp);have fX:pre.length<rows.length:=by have:=congrArg cU e;simp at this;lia
  simp![aE,bw,iZ,ak,ah,b5,eK,aA];refine⟨by simp only[g],dZ ⟨Cn (by rw[ax];lia),?_⟩⟩;refine gX (xs:=r) (λpr acc τ G2=>G'=G2/\acc=(pr.filter λp=>!decide (p.a∈ns)).map enc/\∃b,τ=[b,some (.tup (ns.map enc))]) ⟨rfl,rfl,_,rfl⟩ (λ_ _ _ _ _=>trivial) ?_ ?_
  .rintro pr t po acc τ G2 N3 e3 ⟨rfl,rfl,b,rfl⟩ vP;simp![aE,aG,ak,↓iY,dC,↓rB];refine wK (x:=t.a) (xs:=ns) (@c) ?_;by_cases ht:t.a∈ns
   .simp![ht,decide_true];exact vP _ _ _ ⟨rfl,by rw[bC];simp[ht],_,rfl⟩
   .simp![ht,decide_false];exact vP _ _ _ ⟨rfl,by rw[bC,aH];simp[ht,iY],_,rfl⟩
  .rintro acc τ G2 ⟨rfl,rfl,b,rfl⟩ p2 oq;refine ij (xs:=r.filter λp=>!decide (p.a∈ns)) (.new oq) oq az ?_;simp only[g];refine⟨qY (by rw[ax];unfold i6;rw[ax];lia),nP _ _ ⟨l.put hp,?_,_,rfl⟩⟩;rw[az];unfold i6;rw[aH,aH];rfl
 .rintro _ G' ⟨l,g,a,rfl⟩;simp![bc,b5,aO,ah,ak,aA];refine ij (xs:=i6 ns rows) l hp g ?_;refine⟨i6 ns rows,rfl,⟨by unfold i6;rw[ax];lia,λr h=>?_⟩,cF q⟩;obtain⟨r',Px,rfl⟩:=List.mem_map.mp h;have:=hr r' Px;have h2:=gZ (λp:T3=>!decide (p.a∈ns)) r';lia
def uj(rows:Rows):tj->Prop
 |.un n=>∃(f h:Int) (s:T2),(f=0\/f=1)/\Cu rows n s ⟨n,f,h⟩ ⟨n,1-f,h⟩
 |.cu n s f h=>Zz rows n s/\(f=0\/f=1)/\(h=1\/h=-1)
 |.pa a b=>∃h,QS rows a b h
 |.la a b o u t h=>Ib rows a b o u t h
 |.sl a b c t=>Hw rows a b c t
def Kq(rows:Rows):tj->Rows
 |.un n=>(i6 [n] rows).map bR
 |.cu n s f h=>WN rows n s f h
 |.pa a b=>(i6 [a,b] rows).map bR
 |.la a b o u t h=>laid rows a b o u t h
 |.sl a b c t=>t8 rows a b c t
theorem XI (n):td (.un n)=.tup [.str "uncurl",.int n]:=rfl
theorem Zg{x:D}:cut [w,x] (some 1) none=[x]:=rfl
def y8:da :=
 (aU (bF (bX (aG @G (aG cK @g @C) (dC (.str "slide")))) (bc (b5 (aO nT (ah @d (ah @g aA))))) aX)
 (aU (bF (bX (aG @G (aG cK @g @C) (dC (.str "lay")))) (bc (b5 (aO lJ (ah @d (ah @g aA))))) aX)
 (aU (bF (bX (aG @G (aG cK @g @C) (dC (.str "curl")))) (aU (aS (cg (ah (bJ (ah (aG cK @g @s) (ah (aG cK @g (dC (.int 3))) (ah (aG cK @g (dC (.int 4))) aA)))) (ah (bJ (ah (aG cK @g @s) (ah (aG CA @s (aG cK @g (dC (.int 3)))) (ah (aG cK @g (dC (.int 4))) aA)))) aA))) (aE 2))
 (bc (b5 (aO dq (ah (aO fP (ah @d (ah (aG cK @g @N) (ah @l aA)))) aA))))) aX)
 (bc (b5 (aO kq (ah @d (ah (lT @g (gW @s) bU) aA))))))))
def lI:di:=λds G Q _=>∃(rows:Rows) (m:tj),ds=[@L,td m]/\(@J/\uj rows m)/\Q (enc (Kq rows m)) G
theorem zB(ds)(G)(Q)(h:lI ds G Q @f):y8 (@f) @q (aJ 3 ds) G:=by
 obtain⟨rows,m,rfl,⟨d,f⟩,q⟩:=h;obtain⟨EO,Aw,zk⟩:=gV d;obtain⟨h1,h2⟩:=BO d;unfold y8;cases m with
 |un n=>
  rw[XI];simp![bF,aG,ak,aJ,aN,dC,↓rB,bc,b5,aO,ah,aA,ends,aX,aS,cg,bJ,aE,lT,bU];refine uP ?_;ext d;refine uP ?_;ext d;refine uP ?_;simp![↓Zg];exact⟨@c,rows,[n],rfl,⟨EO,Aw⟩,cF q⟩
 |pa a b=>
  rw[Tw];simp![bF,aG,ak,aJ,aN,dC,↓rB,bc,b5,aO,ah,aA,ends,aX,aS,cg,bJ,aE,lT,bU];refine uP ?_;ext d;refine uP ?_;ext d;refine uP ?_;simp![↓Uc];exact⟨@c,rows,[a,b],rfl,⟨EO,Aw⟩,cF q⟩
 |cu n z w h=>
  obtain⟨c,hf,hh⟩:=f;rw[Tx];simp![bF,aG,ak,aJ,aN,dC,↓rB,bc,b5,aO,ah,aA,ends,aX,aS,cg,bJ,aE,lT,bU];refine uP ?_;ext d;refine uP ?_;ext d;refine DL ?_;simp![↓rz,↓Qt,↓Qs,↓at2];refine⟨@c,@c,@c,λp hp=>?_⟩;refine⟨rows,z,_,cps n w h,rfl,.ref az,⟨h1,h2,by simp[cps]⟩,?_⟩;exact⟨_,rfl,wN d c.hs (by simp[cps]),jb (.new hp) q⟩
 |la a b o u t h=>
  rw[Dj];simp![bF,aG,ak,aJ,aN,dC,↓rB,bc,b5,aO,ah,aA,ends,aX,aS,cg,bJ,aE,lT,bU];refine uP ?_;ext d;refine DL ?_;simp only[↓aC,↓aI,↓if_true];exact⟨rows,a,b,o,u,t,h,rfl,Lo.Ib.Yw f,cF q⟩
 |sl a b c t=>
  rw[J9];simp![bF,aG,ak,aJ,aN,dC,↓rB,bc,b5,aO,ah,aA,ends,aX,aS,cg,bJ,aE,lT,bU];refine DL ?_;simp only[↓aC,↓aI,↓if_true];exact⟨rows,a,b,c,t,rfl,f,cF q⟩
end C7
namespace C7
open K2.P
open K2.Mo
open K2.nQ (bR)
open K2.rh (kH Ro)
open K2.tm (dE b6 eP fG)
open K2.D3 (WN JG Fe)
open K2.Lo (Au EJ Bs)
theorem sO(ns):∀rows:Rows,(i6 ns rows).flatten=rows.flatten.filter (λp=>!decide (p.a∈ns))
 |[]=>rfl
 |r::rows=>by
  show r.filter _++(i6 ns rows).flatten=_;rw[sO ns rows,br,bC]
theorem oy:p∈(i6 ns rows).flatten↔p∈rows.flatten/\p.a∉ns:=by
 rw[sO,List.mem_filter];simp
theorem vD(d:@J):Dr (i6 ns rows):=by
 have hl:(i6 ns rows).flatten.length<=rows.flatten.length:=by rw[sO];exact gZ _ _
 refine⟨?_,λp hp=>d.way p (oy.mp hp).1,λp hp=>d.hand p (oy.mp hp).1,λp hp=>?_,?_,?_⟩
 .rw[sO];exact d.nd.sublist (List.filter_sublist.map _)
 .obtain⟨h1,h2⟩:=oy.mp hp;exact oy.mpr ⟨d.ue p h1,h2⟩
 .have:=d.zm;lia
 .unfold i6;rw[ax];exact d.str
inductive Bk (rows:Rows):tj->tj->Prop
 |un {n f h:Int} {s:T2}:(f=0\/f=1)->Cu rows n s ⟨n,f,h⟩ ⟨n,1-f,h⟩->Bk rows (.un n) (.cu n s f h)
 |cu {n f h:Int} {s:T2}:Bk rows (.cu n s f h) (.un n)
 |pa {a b F O t h:Int} {o u:T2}:Lb rows a b F O o u t h->Bk rows (.pa a b) (.la F O o u t h)
 |la {a b t h:Int} {o u:T2}:Bk rows (.la a b o u t h) (.pa a b)
 |sl {a b c t:Int}:Bk rows (.sl a b c t) (.sl a b c (-t))
theorem Jb(d:@J)(f:uj rows m):Dr (Kq rows m):=by
 cases m with
 |un n=>exact(vD d).ro (b6 _)
 |cu n s w h=>exact JG f.1 f.2.1 f.2.2
 |pa a b=>exact(vD d).ro (b6 _)
 |la a b o u t h=>exact Au f
 |sl a b c t=>exact f.dr
end C7
namespace C7
open K2.P
open K2.Mo
open K2.nQ (bR)
open K2.rh (kH Ro)
variable {rows:Rows}
theorem U1(d:@J)(hx:x∈rows.flatten)(hy:y∈rows.flatten)(e:x.s=y.s):x=y:=by
 have h1:=gK d hx;have h2:=gK d hy;have ea:x.a=y.a:=congrArg T2.a e;have eb:x.b=y.b:=congrArg T2.b e;rw[ea,h2] at h1;cases x;cases y;simp only at ea eb h1;rw[ea,eb,h1]
theorem EC(d:@J)(hx:x∈rows.flatten)(hy:y∈rows.flatten)(ne:x.s≠y.s)(h:dM @O x.s=some y.s):∃s,Pr rows s x y:=by
 obtain⟨R1,R2,r,e,c⟩:=vj d hx;rcases c with ⟨q,T,ro,n⟩ |⟨ro,n⟩
 .rw[h] at n;injection n with n
  have hq:q∈rows.flatten:=by
   rw[e,cS];have:=ro.perm.mem_iff.mpr (aP x (aQ (a:=q) (l:=T)));simp[this]
  have:y=q:=U1 d hy hq n;subst this;rw[e];exact IL ro
 .rw[h] at n;injection n with n
  exact absurd n.symm ne
theorem Jy(d:@J)(hn:vm rows n)(h:dM @O ⟨n,0⟩=some ⟨n,1⟩\/dM @O ⟨n,1⟩=some ⟨n,0⟩):uj rows (.un n):=by
 have go:∀{w:Int},(w=0\/w=1)->dM @O ⟨n,w⟩=some ⟨n,1-w⟩->uj rows (.un n):=λ{w} hw h=>by
  obtain⟨x,hx,ex⟩:=Bd d hn hw;have ea:x.a=n:=congrArg T2.a ex;have eb:x.b=w:=congrArg T2.b ex;have hm:=d.ue x hx;have ne:x.s≠(⟨x.a,1-x.b,x.c⟩:T3).s:=λz=>by
   have:x.b=1-x.b:=congrArg T2.b z;lia
  obtain⟨s,pr⟩:=EC d hx hm ne (by
   show dM _ x.s=some (⟨x.a,1-x.b⟩:T2);rw[ex,ea,eb];exact h)
  have e1:x=⟨n,w,x.c⟩:=by cases x;simp only at ea eb;rw[ea,eb]
  rw[ea,eb] at pr;obtain⟨R1,R2,r,M,e,ro,hM⟩:=pr.ex;obtain⟨_,_,o3,_⟩:=pj d.dn e ro;refine⟨w,x.c,s,hw,⟨R1,R2,r,M,e,by rw[e1] at ro;exact ro,hM,λp hp en=>?_⟩⟩;have Xi:p∈rows.flatten:=by
   rw[e,cS];have:=ro.perm.mem_iff.mpr (aP x (aP (⟨n,1-w,x.c⟩:T3) hp));simp[this]
  refine o3 p hp ?_;have hb:=d.way p Xi;have hs:p.s=⟨p.a,p.b⟩:=rfl;rw[hs,en,ex];show(⟨n,p.b⟩:T2)∈[⟨n,w⟩,⟨n,1-w⟩];have:p.b=w\/p.b=1-w:=@e
  rcases this with h |h<;>rw[h]<;>simp
 rcases h with h |h
 .exact go (w:=0) (@E) h
 .exact go (w:=1) (.inr rfl) h
theorem Jz(d:@J)(c:WW rows a b qh qg rp rm)(ne:a≠b)(h:IQ rows a b qh qg rp rm=true):uj rows (.pa a b):=by
 unfold IQ at h;rw[bg,bg,dQ,dQ,decide_eq_true_iff,decide_eq_true_iff,decide_eq_true_iff,decide_eq_true_iff] at h;obtain⟨hh,h0,h1⟩:=h;have hh:@ab≠handOf rows b:=by simpa using hh
 have ha:=iX d c.na;have hb:=iX d c.nb;have key:∀{w:Int} {va vb:T2},(w=0\/w=1)->dM @O ⟨a,w⟩=some va->dM @O ⟨b,w⟩=some vb->(va=⟨b,w⟩\/vb=⟨a,w⟩)->(∃s,Pr rows s ⟨a,w,@ab⟩ ⟨b,w,-@ab⟩)\/∃s,Pr rows s ⟨b,w,-@ab⟩ ⟨a,w,@ab⟩:=λ{w va vb} hw ea eb hv=>by
  obtain⟨x,hx,ex⟩:=Bd d c.na hw;obtain⟨y,hy,ey⟩:=Bd d c.nb hw;have e1:x=⟨a,w,@ab⟩:=by
   have h:=gK d hx;have i1:x.a=a:=congrArg T2.a ex;have i2:x.b=w:=congrArg T2.b ex;rw[i1] at h;cases x;simp only at i1 i2 h;rw[i1,i2,h]
  have e2:y=⟨b,w,-@ab⟩:=by
   have h:=gK d hy;have i1:y.a=b:=congrArg T2.a ey;have i2:y.b=w:=congrArg T2.b ey;rw[i1] at h;have:handOf rows b=-@ab:=@e
   rw[this] at h;cases y;simp only at i1 i2 h;rw[i1,i2,<-h]
  have nes:x.s≠y.s:=by rw[ex,ey];exact λz=>ne (congrArg T2.a z)
  rcases hv with rfl |rfl
  .left;have:=EC d hx hy nes (by rw[ex,ey];exact ea);rw[e1,e2] at this;exact this
  .right;have:=EC d hy hx nes.symm (by rw[ex,ey];exact eb);rw[e1,e2] at this;exact this
 exact⟨@ab,d,ne,ha,key (@E) c.h0 c.h1 h0,key (.inr rfl) c.h2 c.h3 h1⟩
end C7
namespace Nb
open K2.P K2.lF
open K2.K3
variable {rows:Rows}
theorem Du(df:DF rows.flatten)(h:m∉pz rows.flatten):m∉rows.flatten.map (·.a):=λz=>by
 obtain⟨p,hp,e⟩:=List.mem_map.mp z;refine h ?_;unfold pz;rcases df.way p hp with h0 |h1
 .exact List.mem_map.mpr ⟨p,List.mem_filter.mpr ⟨hp,by simp[h0]⟩,e⟩
 .exact List.mem_map.mpr ⟨_,List.mem_filter.mpr ⟨df.ue p hp,by simp[h1]⟩,e⟩
theorem EG{k:Int}(k1:1<=k)(k3:k<=3){G:Gp}{Q:DK}{τ:ik}(q:∀G' p as,HR G G' p as (aN k.toNat [])->Q (.ref p) G'):
  (fe 0 k.toNat).length<=SZ/\jO (aE 0) none (cg aA) (λ_=>True) (fe 0 k.toNat) (@f) (vF 1 [] τ) G [] λxs G2=>jN G2 (.lst xs) Q:=by
 refine⟨Cn (by unfold fe;rw[ax,c6];lia),?_⟩;unfold fe;refine gX (xs:=dG k.toNat) (λpre acc τ G'=>(∃a,τ=[a])/\∃as:List Nat,acc=as.map D.ref/\HA G G' as (aN pre.length [])) ⟨⟨_,rfl⟩,[],rfl,.nil G⟩ (λ_ _ _ _ _=>trivial) ?_ ?_
 .rintro pre x post acc τ G' N e ⟨⟨a,rfl⟩,as,rfl,h⟩ hN;simp only[aE,cg,aA,aq,aj];refine⟨@c,λp hp=>?_⟩;refine hN _ _ _ ⟨⟨_,rfl⟩,as++[p],by simp,?_⟩;have:=h.push hp [];rw[aM,dO,List.replicate_succ'];exact this
 .rintro acc τ G' ⟨⟨a,rfl⟩,as,rfl,h⟩ p hp;rw[c6] at h;exact q _ p as (h.top hp)
end Nb
namespace Tr
open K2.P
open K2.Mo hiding bW cA cL
open K2.nQ (bR)
open K2.lF (HR)
open K2.Nb (tU)
open K2.Uj (nO gk)
open K2.C7 (jT iD)
def yX:da :=
 (bc (b5 (gJ nz (ah (eK 1 [] (ig (aO kn (ah @d aA))) (aE 0) (some (bX (aG @G (aG cK @d @s) @C))) (aG cK @d @C)) aA))))
theorem zw(ds)(G)(Q)(h:K3.gj ds G Q @f):yX (@f) @q (aJ 1 ds) G:=by
 obtain⟨rows,rfl,hl,q⟩:=h;unfold yX;simp![bc,b5,gJ,ah,eK,aO,ak,aJ,aA,ends];refine⟨rows,rfl,(show rows.flatten.length<=1000 by lia),dZ ⟨Cn (by rw[ax];show rows.flatten.length<=1000;lia),?_⟩⟩;refine gX (xs:=rows.flatten) (λpre acc τ G'=>G=G'/\(∃a,τ=[a])/\acc=((pre.filter λp=>p.b == 0).map (·.a)).map enc) ⟨rfl,⟨_,rfl⟩,rfl⟩ (λ_ _ _ _ _=>trivial) ?_ ?_
 .rintro pre x post acc τ G' N e ⟨rfl,⟨a,rfl⟩,rfl⟩ hN;simp![aE,aG,ak,↓iY,dC,↓rz,↓rB];refine⟨_,_,.int _,.int _,?_⟩;simp![sP];split
  .rename_i h;refine hN _ _ _ ⟨rfl,⟨_,rfl⟩,?_⟩;simp[bC,vd,h,KZ]
  .rename_i h;refine hN _ _ _ ⟨rfl,⟨_,rfl⟩,?_⟩;simp[bC,vd,h]
 .rintro acc τ G' ⟨rfl,⟨a,rfl⟩,rfl⟩ p hp;refine zu (IsL.ref az) (by rw[ax];exact Nat.lt_of_le_of_lt (gZ _ _) hl) λp2 oq=>?_;exact Ju ((cO.new hp).trans (.new oq)) ((cO.new hp).free oq) az (q _ ((cO.new hp).free oq))
def oU:da :=
 (bF (iG (bX @d)) (fV "NoFit" (ah (dC (.str "the move does not fit")) aA)) aX)
def eV:di:=λds G Q E=>∃b:Bool,ds=[.bl b]/\b=false/\E ⟨"NoFit",[]⟩ G
theorem pT(ds)(G)(Q)(E)(h:eV ds G Q E):oU E @q (aJ 1 ds) G:=by
 obtain⟨b,rfl,rfl,q⟩:=h;unfold oU;simp![bF,iG,ak,aJ,fV,ah,dC,aA,aX,ends];exact⟨@c,q⟩
end Tr
namespace Tr
open K2.P
open K2.Mo hiding bW cA cL
open K2.lF (HR)
open K2.Nb (pz mq Kn HA)
open K2.K40 (fit xw oO)
open K2.Uj (yB)
def wy:da :=
 (aU (aS (aG iK @s (aG jJ @g (dC (.int 999)))) (aE 2))
 (aU (E7 (bX (aG (uN false) @l @d)) (aS (aG iK @s (aG jJ @l (dC (.int 999)))) (aE 2)))
 (bc (b5 @l))))
def kz:di:=λds G Q _=>∃(d:D) (ns:@I) (c:Int),ds=[d,.int c]/\IsL G d (ns.map enc)/\ns.length<=500/\∀m:Int,m∉ns->Q (.int m) G
theorem xO(ds)(G)(Q)(h:kz ds G Q @f):wy (@f) @q (aJ 3 ds) G:=by
 obtain⟨d,ns,c,rfl,hd,hl,q⟩:=h;unfold wy;simp only[↓bT,aS,aG,dC,ak,aJ,↓av,↓aF,↓ai,↓aq,aN,↓aw,↓ay,↓af,↓ae,↓cV,↓dN,aE,ends,↓ao,↓aj];refine⟨@c,?_⟩;have b1:1<=1+c % 999:=@e
 have b2:1+c % 999<=999:=@e
 generalize 1+c % 999=n at *;refine bp (λτ G'=>G=G'/\∃m:Int,m∉ns/\τ=[some d,some (.int c),some (.int m)]) ?_ ?_
 .intro N hN;obtain⟨k,hk,nj⟩:=xw (ns:=ns) b1 b2 hl;have main:∀(j:Nat),j<=k->zK (bX (aG (uN false) @l @d)) (aS (aG iK @s (aG jJ @l (dC (.int 999)))) (aE 2)) (j+1) (@f) {ends Q with nx:=N} [some d,some (.int c),some (.int (fit n (k-j)))] G:=by
   intro j;induction j with
   |zero=>
    intro _;show zK _ _ (0+1) _ _ _ _;rw[zK];simp![aG,ak,aS,dC,aE,ends];refine Kh (x:=fit n (k-0)) (@c) hd ?_;simp![QX,nj,decide_false];exact hN _ _ ⟨rfl,_,nj,rfl⟩
   | succ j ih=>
    intro hj;rw[zK];simp![aG,ak,aS,dC,aE,ends];refine Kh (x:=fit n (k-(j+1))) (@c) hd ?_;by_cases hm:fit n (k-(j+1))∈ns
    .simp![hm,decide_true];refine⟨@c,?_⟩;have e:1+fit n (k-(j+1)) % 999=fit n (k-j):=by
      rw[show k-j=(k-(j+1))+1 by lia,Int.add_comm];rfl
     rw[e];exact ih (@e)
    .simp![hm,decide_false];exact hN _ _ ⟨rfl,_,hm,rfl⟩
  have:=main k (bb _);rw[QY] at this;exact⟨k+1,this⟩
 .rintro _ _ ⟨rfl,m,m1,rfl⟩;simp![bc,b5,ak];exact cF (q m m1)
end Tr
namespace Ln
open K2.P
open K2.Mo hiding bW cA cL
open K2.nQ (bR)
open K2.lF (HR)
open K2.K3 (gj qo)
abbrev nx(rows:Rows)(s:T2):T2:=(dM @O s).getD s
def unb(rows:Rows)(n:Int):Bool:=decide (nx rows ⟨n,0⟩=⟨n,1⟩)||decide (nx rows ⟨n,1⟩=⟨n,0⟩)
def Yc(rows:Rows)(a b:Int):Bool:=IQ rows a b (nx rows ⟨a,0⟩) (nx rows ⟨b,0⟩) (nx rows ⟨a,1⟩) (nx rows ⟨b,1⟩)
def Kg (rows:Rows) (ns:@I) (b:Bool):Str:=if ns.all (·∈@y)=true then(if b=true then "" else "NoFit") else "NoName"
def Of (rows:Rows) (n:Int) (s:T2):Str:=if 12<(@y).length+1 then "TooMany" else if n∈@y then "NameTaken" else if s∈bz rows 0 then "" else "NoSpot"
def Oe (rows:Rows) (a b:Int) (o u:T2) (h:Int):Str:=if 12<(@y).length+2 then "TooMany" else if a∈@y\/b∈@y\/a=b then "NameTaken" else if o∉bz rows 0\/u=⟨a,0⟩ then "NoSpot" else if u∈bz (zL rows a b o h) 0 then "" else "NoSpot"
def yU(rows:Rows):tj->Str
 |.un n=>Kg rows [n] (unb rows n)
 |.cu n s _ _=>Of rows n s
 |.pa a b=>Kg rows [a,b] (Yc rows a b)
 |.la a b o u _ h=>Oe rows a b o u h
 |.sl a b c t=>Kg rows [a,b,c] (HW rows a b c t)
def To:tj->Prop
 |.un _=>True
 |.cu _ _ f h=>(f=0\/f=1)/\(h=1\/h=-1)
 |.pa _ _=>True
 |.la _ _ _ _ t h=>(t=0\/t=1)/\(h=1\/h=-1)
 |.sl _ _ _ t=>t=1\/t=-1
def mV:da :=
 (aU (aS (aO gj (ah @d aA)) (aE 2))
 (c4 (ig @g) (aE 3) (bF (bX (aG (uN true) (ak 3) @l)) (fV "NoName" (ah (dC (.str "no crossing has this name")) aA)) aX)))
def fO:di:=λds G Q E=>∃(rows:Rows) (d:D) (ns:@I),ds=[@L,d]/\IsL G d (ns.map enc)/\(rows.flatten.length<64/\∃n∈ns,n∉@y)/\∀G',@w->E ⟨"NoName",[]⟩ G'
theorem vI(ds)(G)(Q)(E)(h:fO ds G Q E):mV E @q (aJ 4 ds) G:=by
 obtain⟨rows,d,ns,rfl,hd,⟨hl,n0,hn0,hn⟩,q⟩:=h;unfold mV;simp only[ends,aJ,av,aF,ai,aq,aN,aw,ay,bT,aS,aO,ah,ak,ae,aA,aE,ao,aj];refine⟨rows,rfl,hl,λp hp=>?_⟩;have le:=cO.new (o:=.lst ((@y).map enc)) hp;simp only[c4,cq,ak,af,ae];refine Jo (hd.mono le) λok c8=>?_;refine cT (xs:=ns) (λpre τ G'=>ck G p (.lst ((@y).map enc))=G'/\(∀m∈pre,m∈@y)/\∃a,τ=[@p,some d,@K,a]) ⟨rfl,(λ_ h=>by cases h),_,rfl⟩ (λ_ _ G' h=>c8 G' (by rw[h.1];exact .refl _)) ?_ ?_
 .rintro pre n post τ G' N e ⟨rfl,yC,a,rfl⟩ hN;simp only[aE,bF,ao,aj,fV,ah,dC,aA,ai,aq,aX,aY,aG,ak,af,ae];refine qo (x:=n) (xs:=@y) (@c) az ?_;by_cases hm:n∈@y
  .simp only[hm,decide_true,aK,if_true,aC,ag,if_false];refine hN _ _ ⟨rfl,λm h=>?_,_,rfl⟩;rcases List.mem_append.mp h with h |h
   .exact yC m h
   .rw[List.mem_singleton.mp h];exact hm
  .simp only[hm,decide_false,aI,if_true,aC];exact⟨@c,q _ le⟩
 .rintro τ G' ⟨rfl,yC,a,rfl⟩;exact absurd (yC n0 hn0) hn
def rV:da :=
 (aU (aS (aO gj (ah @d aA)) (aE 2))
 (aU (bF (bX (aG Va (aG iK (gJ iL (ah @l aA)) (gJ iL (ah @g aA))) (dC (.int 12)))) (fV "TooMany" (ah (dC (.str "there would be too many crossings")) aA)) aX)
 (c4 (ig @g) (aE 3) (aU (bF (bX (aG (uN false) (ak 3) @l)) (fV "NameTaken" (ah (dC (.str "a crossing has this name already")) aA)) aX)
 (bw (iZ pY du @l (ah (ak 3) aA)))))))
def km:di:=λds G Q E=>∃(rows:Rows) (d:D) (ns:@I),ds=[@L,d]/\IsL G d (ns.map enc)/\rows.flatten.length<64 /\
 ((12<(@y).length+ns.length/\∀G',@w->E ⟨"TooMany",[]⟩ G')\/(((@y).length+ns.length<=12/\¬ (ns.Nodup/\∀n∈ns,n∉@y))/\∀G',@w->E ⟨"NameTaken",[]⟩ G'))
theorem B5(ds)(G)(Q)(E)(h:km ds G Q E):rV E @q (aJ 4 ds) G:=by
 obtain⟨rows,d,ns,rfl,hd,hl,h⟩:=h;unfold rV;simp only[ends,aJ,av,aF,ai,aq,aN,aw,ay,bT,aS,aO,ah,ak,ae,aA,aE,ao,aj];refine⟨rows,rfl,hl,λp hp=>?_⟩;have le:=cO.new (o:=.lst ((@y).map enc)) hp;have gp:=az (G:=G) (a:=p) (o:=.lst ((@y).map enc));generalize ck G p (.lst ((@y).map enc))=G1 at le gp ⊢;simp only[bZ,bF,fV,ah,dC,aA,ai,aq,aX,aY,aG,gJ,ak,af,ae];refine d8 (.ref gp) (d8 (hd.mono le) ?_);simp only[ax,dN,lA,aC];rcases h with ⟨hm,q⟩ |⟨⟨hm,hn⟩,q⟩
 .have:((@y).length:Int)+(ns.length:Int)>12:=@e
  simp only[this,decide_true,if_true];exact⟨@c,q _ le⟩
 have:¬ ((@y).length:Int)+(ns.length:Int)>12:=@e
 simp only[this,decide_false,ag,c4,cq,ak,af,ae,if_false];refine lF.KD hd le λok Sm=>?_;refine cT (xs:=ns) (λpre τ G'=>@w/\G' p=some (.lst ((@y++pre).map enc))/\(pre.Nodup/\∀n∈pre,n∉@y)/\∃a,τ=[@p,some d,@K,a]) ⟨le,by rw[bH];exact gp,⟨i7,λ_ h=>by cases h⟩,_,rfl⟩ (λ_ _ G' h=>Sm G' h.1) ?_ ?_
 .rintro pre n post τ G' N e ⟨l,g,⟨nd,FE⟩,a,rfl⟩ hN;simp only[aE,ao,aj,bZ,bF,fV,ah,dC,aA,ai,aq,aX,bw,iZ,ak,af,ae,dU,cb,aY,aG];refine qo (x:=n) (xs:=@y++pre) (@c) g ?_;by_cases h1:n∈@y++pre
  .simp only[ag,h1,decide_true,aK,if_false,aC,if_true];exact⟨@c,q _ l⟩
  simp only[ag,h1,decide_false,aI,if_false,aC,g,true_and];rw[lP,not_or] at h1;refine⟨?_,hN _ _ ⟨l.put hp,?_,⟨?_,λm h=>?_⟩,_,rfl⟩⟩
  .have:=congrArg cU e;simp at this;exact qY (by rw[ax,aM];lia)
  .rw[az,<-bM,aH (l₁:=@y++pre)];rfl
  .rw[eR];refine⟨nd,by simp,λx hx y hy e=>?_⟩;rw[List.mem_singleton.mp hy] at e;subst e;exact h1.2 hx
  .rcases List.mem_append.mp h with h |h
   .exact FE m h
   .rw[List.mem_singleton.mp h];exact h1.1
 .rintro τ G' ⟨l,g,hh,a,rfl⟩;exact absurd hh hn
def ux:da :=
 (aU (c4 (Bw @d) (kI (ez (aE 2) (ez (aE 3) lh))) (bF (bX (aG (uN false) @g (aO jR (ah (ak 3) (ah @l aA))))) (bc (b5 @l)) aX))
 (fV "NoSpot" (ah (dC (.str "the drawing has no such spot")) aA)))
def oG:di:=λds G Q E=>∃(rows:Rows) (s:T2),ds=[@L,enc s]/\((∀r∈rows,r.length<=500)/\s∉bz rows 0)/\E ⟨"NoSpot",[]⟩ G
theorem CQ(ds)(G)(Q)(E)(h:oG ds G Q E):ux E @q (aJ 4 ds) G:=by
 obtain⟨rows,s,rfl,⟨hr,hs⟩,q⟩:=h;unfold ux;refine bp (λτ G'=>G=G') ?_ ?_
 .intro N hN;simp only[c4,Bw,ak,aJ,av,aF,ai,aq,aN,aw,ay,ae,ends];refine zj ?_;rw[Hh];refine cT (xs:=rows.zipIdx 0) (λpre τ G'=>G=G'/\∃a b,τ=[@p,some (enc s),a,b]) ⟨rfl,_,_,rfl⟩ @Y ?_ λ_ _ h=>hN _ _ h.1;rintro pre x post τ G' N2 e ⟨rfl,a,b,rfl⟩ nP;obtain⟨lf,rt,e1,e2,e3⟩:=vT e;simp only[kI,ez,aE,lh,bF,ao,aj,bc,b5,ak,af,ae,aX,aY,aG,aO,ah,aA];refine⟨x.1,(x.2:Int),rfl,by have:=hr x.1 (by rw[e1];simp);lia,?_⟩;refine jF (@c) ?_;simp only[ag,if_false,aC];have hx:s∉bS x.1 (x.2:Int):=λz=>hs ((K3.AU rows 0 s).mpr ⟨x,by rw[e];simp,z⟩);simp only[hx,decide_false,ag,if_false];exact nP _ _ ⟨rfl,_,_,rfl⟩
 .rintro τ _ rfl;simp only[fV,ah,dC,aA,ai,aq];exact⟨@c,q⟩
def wb:da :=
 (aU (aS (kM oG (ah @d (ah @g aA))) (aE 3))
 (aU dJ
 (aU dJ
 (aU dJ
 dJ))))
def kh:di:=λds G Q E=>∃(rows:Rows) (s:T2) (d:D),ds=[@L,enc s,d]/\((∀r∈rows,r.length<=500)/\s∉bz rows 0)/\E ⟨"NoSpot",[]⟩ G
theorem Fh(ds)(G)(Q)(E)(h:kh ds G Q E):wb E @q (aJ 6 ds) G:=by
 obtain⟨rows,s,d,rfl,hs,q⟩:=h;unfold wb;simp only[ends,aJ,av,aF,ai,aq,aN,aw,ay,bT,aS,kM,ah,ak,ae,af,aA,aE,ao,aj];exact⟨rows,s,rfl,hs,q⟩
end Ln
namespace Ln
open K2.P
open K2.Mo hiding bW cA cL
open K2.nQ (bR)
open K2.lF (HR)
open K2.Tr (eV)
open K2.tm (bA)
theorem yw(h:n∈@y):vm rows n:=by
 obtain⟨p,hp,_,e⟩:=d4.mp h;exact⟨h,p,hp,e⟩
theorem uO(d:@J)(h:n∈@y)(hw:w=0\/w=1):dM @O ⟨n,w⟩=some (nx rows ⟨n,w⟩):=by
 obtain⟨v,e⟩:=k9 d (yw h) hw;unfold nx;rw[e];rfl
theorem Et    (h:Kg rows ns b≠""):(Kg rows ns b="NoName"/\∃n∈ns,n∉@y)\/(Kg rows ns b="NoFit"/\(∀n∈ns,n∈@y)/\b=false):=by
 unfold Kg at *;split at h
 .rename_i ha;cases b with
  |true=>simp at h
  |false=>
   right;rw[if_pos ha];exact⟨rfl,λn hn=>by have:=List.all_eq_true.mp ha n hn;simpa using this,rfl⟩
 .rename_i ha;left;rw[if_neg ha];refine⟨rfl,?_⟩;apply e9;intro Nu;apply ha;rw[kT];intro n hn;exact decide_eq_true (e9 λz=>Nu ⟨n,hn,z⟩)
def LG (K:tj->Prop):di:=λds G Q E=>∃(p:Nat) (m:tj) (rows:Rows),ds=[.ref p,@L]/\zH G p m/\(K m/\@J/\To m/\yU rows m≠"")/\∀G',@w->E ⟨yU rows m,[]⟩ G'
def VW:tj->Prop |.un _=>True |_=>False
def SA:tj->Prop |.cu ..=>True |_=>False
def VZ:tj->Prop |.pa ..=>True |_=>False
def Sz:tj->Prop |.la ..=>True |_=>False
def VY:tj->Prop |.sl ..=>True |_=>False
def og:da :=
 (aU (bw (gG dW fO (ah @g (ah (cg (ah (bh ["Uncurl"] "name" @d) aA)) aA))))
 (bw (kM eV (ah (aO ki (ah @g (ah (bh ["Uncurl"] "name" @d) aA))) aA))))
def fj:di:=LG VW
theorem xR(ds)(G)(Q)(E)(h:fj ds G Q E):og E @q (aJ 2 ds) G:=by
 obtain⟨p,m,rows,rfl,g,⟨k,d,_,hr⟩,q⟩:=h;cases m with
 | un n=>
  obtain⟨EO,Aw,zk⟩:=gV d;unfold og;simp![bw,gG,ah,ak,aJ,cg,bh,aA,kM,aO,ends];refine at_ g ⟨@c,λpl fX=>?_⟩;rcases Et hr with ⟨e,hn⟩ |⟨e,hn,hb⟩
  .refine .inr ⟨rows,_,[n],rfl,.ref az,⟨zk,hn⟩,λG' l=>?_⟩;have:=q G' ((cO.new fX).trans l)
   rwa[show yU rows (.un n)="NoName" from e] at this
  .refine .inl ⟨rows,_,[n],rfl,.ref az,⟨zk,hn⟩,λG1 l1=>?_⟩;have L:=(cO.new fX).trans l1;have MI:=hn n @k;refine at_ (L _ _ g) ?_;refine⟨rows,n,_,_,rfl,⟨@e,uO d MI (@E),uO d MI (.inr rfl)⟩,_,rfl,hb,?_⟩;have:=q G1 L
   rwa[show yU rows (.un n)="NoFit" from e] at this
 |_=>exact k.elim
def qJ:da :=
 (aU (bw (fW [("Uncurl",fj)] "refuse" @d (ah @g aA)))
 dJ)
def ix:di:=LG VW
theorem zU(ds)(G)(Q)(E)(h:ix ds G Q E):qJ E @q (aJ 2 ds) G:=by
 obtain⟨p,m,rows,rfl,g,hh,q⟩:=h;unfold qJ;simp![bw,fW,ak,aJ,ah,aA,ends];have k:=hh.1;cases m with
 |un n=>exact⟨p,_,_,fj,rfl,g,@ag,rfl,⟨p,_,rows,rfl,g,hh,q⟩⟩
 |_=>exact k.elim
def qK:da :=
 (aU (bw (fW [("Uncurl",fj)] "refuse" @d (ah @g aA)))
 (aU dJ
 (aU dJ
 (aU dJ
 (aU dJ
 dJ)))))
def iy:di:=LG VW
theorem zV(ds)(G)(Q)(E)(h:iy ds G Q E):qK E @q (aJ 6 ds) G:=by
 obtain⟨p,m,rows,rfl,g,hh,q⟩:=h;unfold qK;simp only[↓cN,bw,fW,ak,aJ,↓av,↓aF,↓ai,↓aq,aN,↓aw,↓ay,↓ae,ah,↓af,aA,ends];have k:=hh.1;cases m with
 |un n=>exact⟨p,_,_,fj,rfl,g,@ag,rfl,⟨p,_,rows,rfl,g,hh,q⟩⟩
 |_=>exact k.elim
theorem pan(d:@J)(ha:a∈@y)(hb:b∈@y):WW rows a b (nx rows ⟨a,0⟩) (nx rows ⟨b,0⟩) (nx rows ⟨a,1⟩) (nx rows ⟨b,1⟩) :=
 ⟨(gV d).2.2,yw ha,yw hb,uO d ha (@E),uO d hb (@E),uO d ha (.inr rfl),uO d hb (.inr rfl)⟩
def qM:da :=
 (aU (bw (gG dW fO (ah @g (ah (cg (ah (bh ["Part"] "name" @d) (ah (bh ["Part"] "second" @d) aA))) aA))))
 (bw (kM eV (ah (aO mj (ah @g (ah (bh ["Part"] "name" @d) (ah (bh ["Part"] "second" @d) aA)))) aA))))
def gf:di:=LG VZ
theorem zX(ds)(G)(Q)(E)(h:gf ds G Q E):qM E @q (aJ 2 ds) G:=by
 obtain⟨p,m,rows,rfl,g,⟨k,d,_,hr⟩,q⟩:=h;cases m with
 | pa a b=>
  obtain⟨EO,Aw,zk⟩:=gV d;unfold qM;simp![bw,gG,ah,ak,aJ,cg,bh,aA,kM,aO,ends];refine at_ g (at_ g ⟨@c,λpl fX=>?_⟩);rcases Et hr with ⟨e,hn⟩ |⟨e,hn,hb⟩
  .refine .inr ⟨rows,_,[a,b],rfl,.ref az,⟨zk,hn⟩,λG' l=>?_⟩;have:=q G' ((cO.new fX).trans l)
   rwa[show yU rows (.pa a b)="NoName" from e] at this
  .refine .inl ⟨rows,_,[a,b],rfl,.ref az,⟨zk,hn⟩,λG1 l1=>?_⟩;have L:=(cO.new fX).trans l1;refine at_ (L _ _ g) (at_ (L _ _ g) ?_);refine⟨rows,a,b,_,_,_,_,rfl,pan d (hn a @k) (hn b @k),_,rfl,hb,?_⟩;have:=q G1 L
   rwa[show yU rows (.pa a b)="NoFit" from e] at this
 |_=>exact k.elim
def uJ:da :=
 (aU (bw (fW [("Part",gf)] "refuse" @d (ah @g aA)))
 dJ)
def jr:di:=LG VZ
theorem C3(ds)(G)(Q)(E)(h:jr ds G Q E):uJ E @q (aJ 2 ds) G:=by
 obtain⟨p,m,rows,rfl,g,hh,q⟩:=h;unfold uJ;simp![bw,fW,ak,aJ,ah,aA,ends];have k:=hh.1;cases m with
 |pa a b=>exact⟨p,_,_,gf,rfl,g,@ag,rfl,⟨p,_,rows,rfl,g,hh,q⟩⟩
 |_=>exact k.elim
def uK:da :=
 (aU (bw (fW [("Part",gf)] "refuse" @d (ah @g aA)))
 (aU dJ
 (aU dJ
 (aU dJ
 (aU dJ
 (aU dJ
 (aU dJ
 (aU dJ
 (aU dJ
 dJ)))))))))
def jt:di:=LG VZ
theorem C4(ds)(G)(Q)(E)(h:jt ds G Q E):uK E @q (aJ 10 ds) G:=by
 obtain⟨p,m,rows,rfl,g,hh,q⟩:=h;unfold uK;simp only[↓cN,bw,fW,ak,aJ,↓av,↓aF,↓ai,↓aq,aN,↓aw,↓ay,↓ae,ah,↓af,aA,ends];have k:=hh.1;cases m with
 |pa a b=>exact⟨p,_,_,gf,rfl,g,@ag,rfl,⟨p,_,rows,rfl,g,hh,q⟩⟩
 |_=>exact k.elim
def oX:da :=
 (aU (bw (gG dW fO (ah @g (ah (cg (ah (bh ["Slide"] "name" @d) (ah (bh ["Slide"] "second" @d) (ah (bh ["Slide"] "third" @d) aA)))) aA))))
 (bw (kM eV (ah (aO ly (ah @g (ah (bh ["Slide"] "name" @d) (ah (bh ["Slide"] "second" @d) (ah (bh ["Slide"] "third" @d) (ah (bh ["Slide"] "turn" @d) aA)))))) aA))))
def gO:di:=LG VY
theorem yM(ds)(G)(Q)(E)(h:gO ds G Q E):oX E @q (aJ 2 ds) G:=by
 obtain⟨p,m,rows,rfl,g,⟨k,d,ok,hr⟩,q⟩:=h;cases m with
 | sl a b c t=>
  obtain⟨EO,Aw,zk⟩:=gV d;unfold oX;simp![bw,gG,ah,ak,aJ,cg,bh,aA,kM,aO,ends];refine at_ g (at_ g (at_ g ⟨@c,λpl fX=>?_⟩));rcases Et hr with ⟨e,hn⟩ |⟨e,hn,hb⟩
  .refine .inr ⟨rows,_,[a,b,c],rfl,.ref az,⟨zk,hn⟩,λG' l=>?_⟩;have:=q G' ((cO.new fX).trans l)
   rwa[show yU rows (.sl a b c t)="NoName" from e] at this
  .refine .inl ⟨rows,_,[a,b,c],rfl,.ref az,⟨zk,hn⟩,λG1 l1=>?_⟩;have L:=(cO.new fX).trans l1;refine at_ (L _ _ g) (at_ (L _ _ g) (at_ (L _ _ g) (at_ (L _ _ g) ?_)));refine⟨rows,a,b,c,t,rfl,⟨d,yw (hn a @k),yw (hn b @k),yw (hn c @k),ok⟩,_,rfl,hb,?_⟩;have:=q G1 L
   rwa[show yU rows (.sl a b c t)="NoFit" from e] at this
 |_=>exact k.elim
def si:da :=
 (aU (bw (fW [("Slide",gO)] "refuse" @d (ah @g aA)))
 dJ)
def iU:di:=LG VY
theorem tf(ds)(G)(Q)(E)(h:iU ds G Q E):si E @q (aJ 2 ds) G:=by
 obtain⟨p,m,rows,rfl,g,hh,q⟩:=h;unfold si;simp![bw,fW,ak,aJ,ah,aA,ends];have k:=hh.1;cases m with
 |sl a b c t=>exact⟨p,_,_,gO,rfl,g,@ag,rfl,⟨p,_,rows,rfl,g,hh,q⟩⟩
 |_=>exact k.elim
def A5:da :=
 (aU (bw (fW [("Slide",gO)] "refuse" @d (ah @g aA)))
 dJ)
def iV:di:=LG VY
theorem Cc(ds)(G)(Q)(E)(h:iV ds G Q E):A5 E @q (aJ 2 ds) G:=tf ds G Q E h
def uL:da :=
 (aU (bw (gG iC km (ah @g (ah (cg (ah (bh ["Curl"] "name" @d) aA)) aA))))
 (aU (aS (cg (ah (bJ (ah (bh ["Curl"] "name" @d) (ah (bh ["Curl"] "first" @d) (ah (bh ["Curl"] "hand" @d) aA)))) (ah (bJ (ah (bh ["Curl"] "name" @d) (ah (aG CA @s (bh ["Curl"] "first" @d)) (ah (bh ["Curl"] "hand" @d) aA)))) aA))) (aE 2))
 (bc (b5 (aO bA (ah (kM kh (ah @g (ah (bh ["Curl"] "spot" @d) (ah @l aA)))) aA))))))
def gA:di:=LG SA
theorem C5(ds)(G)(Q)(E)(h:gA ds G Q E):uL E @q (aJ 3 ds) G:=by
 obtain⟨p,m,rows,rfl,g,⟨k,d,ok,hr⟩,q⟩:=h;cases m with
 |cu n s f h=>
  obtain⟨EO,Aw,zk⟩:=gV d;have q:∀G',@w->E ⟨Of rows n s,[]⟩ G':=q;have hr:Of rows n s≠"":=hr;unfold uL;simp![bw,gG,ah,ak,aJ,aN,cg,bh,aA,aS,bJ,aG,dC,aE,bc,b5,aO,kM,ends];refine at_ g ⟨@c,λpl fX=>?_⟩;have l1:=cO.new (o:=.lst ([n].map enc)) fX;unfold Of at q hr;by_cases h1:12<(@y).length+1
  .rw[if_pos h1] at q;exact .inr ⟨rows,_,[n],rfl,.ref az,zk,.inl ⟨h1,λG' l=>q _ (l1.trans l)⟩⟩
  rw[if_neg h1] at q hr;by_cases h2:n∈@y
  .rw[if_pos h2] at q;exact .inr ⟨rows,_,[n],rfl,.ref az,zk,.inr ⟨⟨by simp;lia,λz=>z.2 n @k h2⟩,λG' l=>q _ (l1.trans l)⟩⟩
  rw[if_neg h2] at q hr;by_cases h3:s∈bz rows 0
  .rw[if_pos h3] at hr;exact absurd rfl hr
  rw[if_neg h3] at q;refine .inl ⟨rows,_,[n],rfl,.ref az,⟨zk,by simp;lia,by simp,λm hm=>by rw[List.mem_singleton.mp hm];exact h2⟩,λG1 l2=>?_⟩;have L:=l1.trans l2;have g1:=L _ _ g;refine at_ g1 (at_ g1 (at_ g1 ⟨@c,at_ g1 (at_ g1 ?_)⟩));simp only[↓iW];refine at_ g1 ⟨@c,@c,λp2 oq=>?_⟩;have l3:=cO.new (o:=.lst ((cps n f h).map enc)) oq;refine at_ (l3 _ _ g1) ?_;exact⟨rows,s,_,rfl,⟨Aw,h3⟩,q _ (L.trans l3)⟩
 |_=>exact k.elim
def uM:da :=
 (aU (bw (fW [("Curl",gA)] "done" @d (ah @g aA)))
 dJ)
def ju:di:=LG SA
theorem C6(ds)(G)(Q)(E)(h:ju ds G Q E):uM E @q (aJ 2 ds) G:=by
 obtain⟨p,m,rows,rfl,g,hh,q⟩:=h;unfold uM;simp![bw,fW,ak,aJ,ah,aA,ends];have k:=hh.1;cases m with
 |cu n s f h=>exact⟨p,_,_,gA,rfl,g,@ag,rfl,⟨p,_,rows,rfl,g,hh,q⟩⟩
 |_=>exact k.elim
end Ln
namespace Ln
open K2.P
open K2.Mo hiding bW cA cL
open K2.nQ (bR)
open K2.lF (HR)
open K2.tm (bA)
def wD:da :=
 (aU (bw (gG iC km (ah @g (ah (cg (ah (bh ["Lay"] "name" @d) (ah (bh ["Lay"] "second" @d) aA))) aA))))
 (aU (bF (bX (aG @G (bh ["Lay"] "under" @d) (bJ (ah (bh ["Lay"] "name" @d) (ah @C aA))))) (fV "NoSpot" (ah (dC (.str "nothing comes between the two new over passings")) aA)) aX)
 (aU (aS (gG iS kh (ah @g (ah (bh ["Lay"] "over" @d) (ah (cW [("Lay",cp)] "passings" @d (ah @C aA)) aA)))) (aE 2))
 (aU (aS (E9 (bX (aG @G (bh ["Lay"] "turned" @d) @C)) (cW [("Lay",cp)] "passings" @d (ah @s aA)) (BU (cW [("Lay",cp)] "passings" @d (ah @s aA)) (gW (rq vi @s)))) (aE 3))
 (bc (b5 (aO bA (ah (gG iS kh (ah @l (ah (bh ["Lay"] "under" @d) (ah (ak 3) aA)))) aA))))))))
def h8:di:=LG Sz
theorem Fs(ds)(G)(Q)(E)(h:h8 ds G Q E):wD E @q (aJ 4 ds) G:=by
 obtain⟨p,m,rows,rfl,g,⟨k,d,ok,hr⟩,q⟩:=h;cases m with
 | la a b o u t h=>
  obtain⟨EO,Aw,zk⟩:=gV d;have q:∀G',@w->E ⟨Oe rows a b o u h,[]⟩ G':=q;have hr:Oe rows a b o u h≠"":=hr;unfold wD;unfold Oe at q hr;by_cases h1:12<(@y).length+2
  .rw[if_pos h1] at q;simp only[↓cN,bw,gG,ah,ak,aJ,↓av,↓aF,↓ai,↓aq,aN,↓aw,↓ay,↓af,↓ae,cg,bh,aA,ends];refine at_ g (at_ g ⟨@c,λpl fX=>?_⟩);exact .inr ⟨rows,_,[a,b],rfl,.ref az,zk,.inl ⟨h1,λG' l=>q _ ((cO.new fX).trans l)⟩⟩
  rw[if_neg h1] at q hr;by_cases h2:a∈@y\/b∈@y\/a=b
  .rw[if_pos h2] at q;simp only[↓cN,bw,gG,ah,ak,aJ,↓av,↓aF,↓ai,↓aq,aN,↓aw,↓ay,↓af,↓ae,cg,bh,aA,ends];refine at_ g (at_ g ⟨@c,λpl fX=>?_⟩);refine .inr ⟨rows,_,[a,b],rfl,.ref az,zk,.inr ⟨⟨by simp;lia,λz=>?_⟩,λG' l=>q _ ((cO.new fX).trans l)⟩⟩;rcases h2 with h2 |h2 |h2
   .exact z.2 a @k h2
   .exact z.2 b @k h2
   .have:=z.1;rw[h2] at this;simp at this
  rw[if_neg h2] at q hr;rw[not_or,not_or] at h2;obtain⟨na,nb,ne⟩:=h2;refine bp (λτ G'=>@w/\τ=[@K,@p,none,none]) ?_ ?_
  .intro N hN;simp![bw,gG,ah,ak,aJ,aN,cg,bh,aA];refine at_ g (at_ g ⟨@c,λpl fX=>?_⟩);refine .inl ⟨rows,_,[a,b],rfl,.ref az,⟨zk,by simp;lia,by simp[ne],λm hm=>?_⟩,λG1 l1=>hN _ _ ⟨(cO.new fX).trans l1,rfl⟩⟩;simp only[bN,bf,or_false] at hm;rcases hm with rfl |rfl
   .exact na
   .exact nb
  rintro _ G1 ⟨l1,rfl⟩;have g1:=l1 _ _ g;by_cases hu:u=(⟨a,0⟩:T2)
  .rw[if_pos (.inr hu)] at q;simp![bF,aG,bh,ak,bJ,ah,dC,aA,fV,aX,aS,aE,bc,b5,aO,ends];refine at_ g1 (at_ g1 ⟨@c,?_⟩);refine b7 (x:=u) (y:=(⟨a,0⟩:T2)) (@c) ?_;rw[show decide (u=(⟨a,0⟩:T2))=true from decide_eq_true hu];simp!;exact⟨@c,q _ l1⟩
  refine bp (λτ G'=>G1=G'/\τ=[@K,@p,none,none]) ?_ ?_
  .intro N hN;simp![bF,aG,bh,ak,bJ,ah,dC,aA,ends,aX];refine at_ g1 (at_ g1 ⟨@c,?_⟩);refine b7 (x:=u) (y:=(⟨a,0⟩:T2)) (@c) ?_;rw[show decide (u=(⟨a,0⟩:T2))=false from decide_eq_false hu];simp!;exact hN _ _ @R
  rintro _ _ ⟨rfl,rfl⟩;by_cases ho:o∉bz rows 0
  .rw[if_pos (.inl ho)] at q;simp![aS,gG,ah,ak,bh,cW,dC,aA,aE,bc,b5,aO,ends];refine at_ g1 ⟨p,_,_,cp,rfl,g1,@ag,rfl,⟨p,a,b,o,u,t,h,0,rfl,g1,λq2 Cp=>?_⟩⟩;exact .inr ⟨rows,o,_,rfl,⟨Aw,ho⟩,q _ (l1.trans (.new Cp))⟩
  have ho:=Classical.not_not.mp ho;rw[if_neg (by rw[not_or];exact⟨λz=>z ho,hu⟩)] at q hr;by_cases hus:u∈bz (zL rows a b o h) 0
  .rw[if_pos hus] at hr;exact absurd rfl hr
  rw[if_neg hus] at q;refine bp (λτ G'=>@w/\τ=[@K,@p,some (enc (zL rows a b o h)),none]) ?_ ?_
  .intro N hN;simp![aS,gG,ah,ak,bh,cW,dC,aA,aE];refine at_ g1 ⟨p,_,_,cp,rfl,g1,@ag,rfl,⟨p,a,b,o,u,t,h,0,rfl,g1,λq2 Cp=>?_⟩⟩;exact .inl ⟨rows,o,_,sC a b 0 h,rfl,.ref az,⟨d.dn,ho,EO,Aw,by simp[sC]⟩,hN _ _ ⟨l1.trans (.new Cp),rfl⟩⟩
  clear g1 l1;rintro _ G1 ⟨l1,rfl⟩;have g1:=l1 _ _ g;refine bp (λτ G'=>∃q3,@w/\τ=[@K,@p,some (enc (zL rows a b o h)),some (.ref q3)]) ?_ ?_
  .intro N hN;simp![aS,E9,aG,bh,ak,dC,cW,ah,aA,aE];refine at_ g1 ?_;refine b7 (α:=Int) (x:=t) (y:=0) (@c) ?_;by_cases ht:t=0
   .rw[show decide (t=0)=true from decide_eq_true ht];simp!;exact⟨p,_,_,cp,rfl,g1,@ag,rfl,⟨p,a,b,o,u,t,h,1,rfl,g1,λq2 Cp=>hN _ _ ⟨q2,l1.trans (.new Cp),rfl⟩⟩⟩
   .rw[show decide (t=0)=false from decide_eq_false ht];simp![BU,cW,ak,ah,dC,aA,rq];refine⟨p,_,_,cp,rfl,g1,@ag,rfl,⟨p,a,b,o,u,t,h,1,rfl,g1,λq2 Cp=>?_⟩⟩;simp only;exact⟨rfl,_,_,jx (.ref az),λq3 hq3=>hN _ _ ⟨q3,(l1.trans (.new Cp)).trans (.new hq3),rfl⟩⟩
  clear g1 l1;rintro _ G1 ⟨q3,l1,rfl⟩;simp![bc,b5,aO,ah,gG,ak,bh,aA,ends];refine at_ (l1 _ _ g) ?_;refine .inr ⟨_,u,_,rfl,⟨λr hr=>?_,hus⟩,q _ l1⟩;have:=lL (ps:=sC a b 0 h) d.dn ho r hr;have h24:=d.zm;rw[show(sC a b 0 h).length=2 from rfl] at this;lia
 |_=>exact k.elim
def wF:da :=
 (aU (bw (fW [("Lay",h8)] "done" @d (ah @g aA)))
 dJ)
def kE:di:=LG Sz
theorem Ft(ds)(G)(Q)(E)(h:kE ds G Q E):wF E @q (aJ 2 ds) G:=by
 obtain⟨p,m,rows,rfl,g,hh,q⟩:=h;unfold wF;simp![bw,fW,ak,aJ,ah,aA,ends];have k:=hh.1;cases m with
 |la a b o u t h=>exact⟨p,_,_,h8,rfl,g,@ag,rfl,⟨p,_,rows,rfl,g,hh,q⟩⟩
 |_=>exact k.elim
noncomputable def W8:@n:=["","Curl","uncurled","parts","sli"]
def yY:da :=
 (aU (bF (bX (aG @G (aG cK @d @C) (dC (.str "uncurl")))) (bc (b5 (gv "Uncurl" fR (ah (aG cK @d @s) aA)))) aX)
 (aU (bF (bX (aG @G (aG cK @d @C) (dC (.str "curl")))) (bc (b5 (gv "Curl" gR (ah (aG cK @d @s) (ah (aG cK @d @N) (ah (aG cK @d (dC (.int 3))) (ah (aG cK @d (dC (.int 4))) aA))))))) aX)
 (aU (bF (bX (aG @G (aG cK @d @C) (dC (.str "part")))) (bc (b5 (gv "Part" gQ (ah (aG cK @d @s) (ah (aG cK @d @N) aA))))) aX)
 (aU (bF (bX (aG @G (aG cK @d @C) (dC (.str "lay")))) (bc (b5 (gv "Lay" iz (ah (aG cK @d @s) (ah (aG cK @d @N) (ah (aG cK @d (dC (.int 3))) (ah (aG cK @d (dC (.int 4))) (ah (aG cK @d (dC (.int 5))) (ah (aG cK @d (dC (.int 6))) aA))))))))) aX)
 (aU (bF (bX (aG @G (aG cK @d @C) (dC (.str "slide")))) (bc (b5 (gv "Slide" gm (ah (aG cK @d @s) (ah (aG cK @d @N) (ah (aG cK @d (dC (.int 3))) (ah (aG cK @d (dC (.int 4))) aA))))))) aX)
 (fV "NoMove" (ah (dC (.str "no move has this word")) aA)))))))
def rP:di:=λds G Q E=>∃(w:Str) (as:@i),ds=[.tup (.str w::as)]/\w∈W8/\E ⟨"NoMove",[]⟩ G
theorem HC(ds)(G)(Q)(E)(h:rP ds G Q E):yY E @q (aJ 1 ds) G:=by
 obtain⟨w,as,rfl,hw,q⟩:=h;unfold yY;have hn:∀w∈W8,∀v∈(["uncurl","curl","part","lay","slide"]:@n),(w == v)=false/\w.cps.all (·<0x110000)=true/\v.cps.all (·<0x110000)=true:=@W
 have ne:∀{v:Str} {G:Gp} {Q:DK},v∈(["uncurl","curl","part","lay","slide"]:@n)->Q (.bl false) G->ic false (.str w) (.str v) G Q:=λhv q=>let ⟨h1,h2,h3⟩:=hn w hw _ hv;uP q h1 h2 h3
 have aci:mH (D.str w::as) 0=some (.str w):=rB;simp![bF,aG,ak,aJ,dC,aci,bc,b5,ends,aX,fV,ah,aA];refine ne @k ?_;ext d;refine ne @k ?_;ext d;refine ne @k ?_;ext d;refine ne @k ?_;ext d;refine ne @k ?_;ext d;exact⟨@c,q⟩
end Ln
namespace Ln
open K2.P
open K2.Mo hiding bW cA cL
open K2.nQ (bR)
open K2.lF (HR)
open K2.C7 (uj Kq jT gz kr iD Jy Jz)
open K2.Uj (nO gk)
open K2.Nb (fE pz mq)
open K2.Lo (fD yr)
open K2.D3 (fP)
theorem oi:n∈pz rows.flatten↔n∈@y:=(rO _).mem_iff.symm
theorem wQ:(pz rows.flatten).length=(@y).length:=(Kb _).symm
theorem Qt{r:@i}:mH (a::b::c::d::r) 3=some d:=by
 rw[eY _ (@c) (by simp;lia)];rfl
theorem Qs{r:@i}:mH (a::b::c::d::e::r) 4=some e:=by
 rw[eY _ (@c) (by simp;lia)];rfl
theorem jz{G:Gp}{p:Nat}{o:GO}{d:D}{Q:DK}(hp:G p=none)(q:Q d G):D5 (ck G p o) d Q:=jb (.new hp) q
def nZ:da :=
 (aU (aS (cg (ah (aG cK @l @s) aA)) (aE 3))
 (aU (bF (bX (aG @G (aG cK @l @C) (dC (.str "lay")))) (bw (iZ pY du (ak 3) (ah (aG cK @l @N) aA))) aX)
 (aU (bF (bX (aG Va (aG iK (gJ iL (ah @g aA)) (gJ iL (ah (ak 3) aA))) (dC (.int 12)))) (bc (b5 (dC (.str "TooMany")))) aX)
 (aU (bF (sT (bX (aG (uN false) (aG cK @l @s) @g)) (qA (bX (aG @G (aG cK @l @C) (dC (.str "lay")))) (sT (bX (aG (uN false) (aG cK @l @N) @g)) (bX (aG @G (aG cK @l @s) (aG cK @l @N)))))) (bc (b5 (dC (.str "NameTaken")))) aX)
 (aU (bF (bX (aG @G (aG cK @l @C) (dC (.str "curl")))) (bc (b5 (E9 (bX (aG (uN false) (aG cK @l @N) (aO fD (ah @d aA)))) (dC (.str "")) (dC (.str "NoSpot"))))) aX)
 (aU (bF (sT (bX (aG (uN true) (aG cK @l (dC (.int 3))) (aO fD (ah @d aA)))) (bX (aG @G (aG cK @l (dC (.int 4))) (bJ (ah (aG cK @l @s) (ah @C aA)))))) (bc (b5 (dC (.str "NoSpot")))) aX)
 (aU (aS (aO fP (ah @d (ah (aG cK @l (dC (.int 3))) (ah (cg (ah (bJ (ah (aG cK @l @s) (ah @C (ah @s aA)))) (ah (bJ (ah (aG cK @l @N) (ah @C (ah (rq vi @s) aA)))) aA))) aA)))) (aE 4))
 (bc (b5 (E9 (bX (aG (uN false) (aG cK @l (dC (.int 4))) (aO fD (ah (ak 4) aA)))) (dC (.str "")) (dC (.str "NoSpot"))))))))))))
def kA:di:=λds G Q _=>∃(rows:Rows) (m:tj),ds=[@L,enc (pz rows.flatten),td m]/\(@J/\(SA m\/Sz m))/\Q (.str (yU rows m)) G
theorem xP(ds)(G)(Q)(h:kA ds G Q @f):nZ (@f) @q (aJ 5 ds) G:=by
 obtain⟨rows,m,rfl,⟨d,hm⟩,q⟩:=h;unfold nZ;obtain⟨EO,Aw,zk⟩:=gV d;have d24:=d.zm;have d3:=d.str;cases m with
 | cu n s f h=>
  have q:Q (.str (Of rows n s)) G:=q;simp![aS,cg,ah,aG,ak,aJ,td,wd,ar,aN,dC,rz,aA,aE,bF,rB,bw,iZ,gJ,bc,b5,ends,aX,sT,aO,bJ,rq,qA];refine⟨@c,λp hp=>uP ?_⟩;ext d;refine d8 (IsL.enc _) (d8 (.ref az) ?_);simp![ax,wQ];unfold Of at q;by_cases h1:12<(@y).length+1
  .have e1:((@y).length:Int)+((0+1:Nat):Int)>12:=@e
   rw[if_pos h1] at q;simp only[e1,decide_true,↓if_true];exact jz hp q
  have e1:¬ ((@y).length:Int)+((0+1:Nat):Int)>12:=@e
  rw[if_neg h1] at q;simp![e1,decide_false];refine jF (x:=n) (@c) ?_;by_cases h2:n∈@y
  .rw[if_pos h2] at q;simp![oi,h2,decide_true];exact jz hp q
  rw[if_neg h2] at q;simp![oi,h2,decide_false];refine uP ?_;ext d;refine DL ?_;simp![E9,aG,ak,dC,at2,aO,ah,aA];refine⟨rows,rfl,⟨@e,@e⟩,?_⟩;refine jF (x:=s) (@c) ?_;by_cases h3:s∈bz rows 0
  .rw[if_pos h3] at q;simp![h3,decide_true];exact jz hp q
  .rw[if_neg h3] at q;simp![h3,decide_false];exact jz hp q
 | la a b o u t h=>
  have q:Q (.str (Oe rows a b o u h)) G:=q;simp![aS,cg,ah,aG,ak,aJ,td,wd,ar,aN,dC,rz,aA,aE,bF,rB,bw,iZ,gJ,bc,b5,ends,aX,sT,aO,bJ,rq,qA];refine⟨@c,λp hp=>DL ?_⟩;simp![az,at2,oF];refine⟨@c,d8 (IsL.enc _) (d8 (.ref az) ?_)⟩;simp![ax,wQ];unfold Oe at q;by_cases h1:12<(@y).length+2
  .have e1:((@y).length:Int)+((0+1+1:Nat):Int)>12:=@e
   rw[if_pos h1] at q;simp only[e1,decide_true,↓if_true];exact jz hp q
  have e1:¬ ((@y).length:Int)+((0+1+1:Nat):Int)>12:=@e
  rw[if_neg h1] at q;simp![e1,decide_false];refine jF (x:=a) (@c) ?_;by_cases ha:a∈@y
  .rw[if_pos (.inl ha)] at q;simp![oi,ha,decide_true];exact jz hp q
  simp![oi,ha,decide_false];refine DL ?_;simp only[↓aC,↓aI,↓if_true];refine jF (x:=b) (@c) ?_;by_cases hb:b∈@y
  .rw[if_pos (.inr (.inl hb))] at q;simp![oi,hb,decide_true];exact jz hp q
  simp![oi,hb,decide_false];refine b7 (α:=Int) (x:=a) (y:=b) (@c) ?_;by_cases DI:a=b
  .rw[if_pos (.inr (.inr DI))] at q;simp![DI,decide_true];exact jz hp q
  simp![DI,decide_false];rw[if_neg (by rw[not_or,not_or];exact⟨ha,hb,DI⟩)] at q;refine uP ?_;simp![Qt,Qs];refine⟨rows,rfl,⟨@e,@e⟩,?_⟩;refine jF (x:=o) (@c) ?_;by_cases ho:o∉bz rows 0
  .rw[if_pos (.inl ho)] at q;simp![ho,decide_false];exact jz hp q
  have ho:=Classical.not_not.mp ho;simp![ho,decide_true];refine⟨@c,b7 (x:=u) (y:=(⟨a,0⟩:T2)) (@c) ?_⟩;by_cases hu:u=(⟨a,0⟩:T2)
  .rw[if_pos (.inr hu)] at q;rw[show decide (u=(⟨a,0⟩:T2))=true from decide_eq_true hu];simp!;exact jz hp q
  rw[show decide (u=(⟨a,0⟩:T2))=false from decide_eq_false hu];rw[if_neg (by rw[not_or];exact⟨λz=>z ho,hu⟩)] at q;simp![E9,aG,ak,dC,Qs,aO,ah,aA];refine⟨@c,@c,@c,λp2 oq=>?_⟩;refine⟨rows,o,_,[⟨a,0,1⟩,⟨b,0,-1⟩],rfl,.ref az,⟨@e,λr hr=>by have:=lF.gT hr;lia,by simp⟩,?_⟩;obtain⟨z1,z2⟩:=Lo.Gv (ps:=[⟨a,0,1⟩,⟨b,0,-1⟩]) d ho @k;refine⟨_,rfl,⟨z1,@e⟩,?_⟩;refine jF (x:=u) (@c) ?_;show rN (.bl (decide (u∈bz (jm o [⟨a,0,1⟩,⟨b,0,-1⟩] rows 0) 0))) _ _;rw[yr (ps:=[⟨a,0,1⟩,⟨b,0,-1⟩]) (ps':=sC a b 0 h) rfl];have q2:∀w:Str,Q (.str w) G->D5 (ck (ck G p (.lst [.int a,.int b])) p2 (.lst (([⟨a,0,1⟩,⟨b,0,-1⟩]:@B).map enc))) (.str w) Q:=λw z=>jb ((cO.new hp).trans (.new oq)) z;by_cases h3:u∈bz (zL rows a b o h) 0
  .rw[if_pos h3] at q;rw[show decide (u∈bz (jm o (sC a b 0 h) rows 0) 0)=true from decide_eq_true h3];simp only[↓aC,↓if_true];exact q2 _ q
  .rw[if_neg h3] at q;rw[show decide (u∈bz (jm o (sC a b 0 h) rows 0) 0)=false from decide_eq_false h3];ext d;exact q2 _ q
 |_=>rcases hm with hm |hm<;>exact hm.elim
def uF:da :=
 (aU (aS (aO fE (ah @d aA)) (aE 2))
 (aU (bF (sT (bX (aG @G (aG cK @g @C) (dC (.str "curl")))) (bX (aG @G (aG cK @g @C) (dC (.str "lay"))))) (bc (b5 (aO kA (ah @d (ah @l (ah @g aA)))))) aX)
 (aU (aS (gJ oA (ah (lT @g (gW @s) bU) aA)) (aE 3))
 (aU (bF (bX (aG @G (aG cK @g @C) (dC (.str "slide")))) (aS (lT (ak 3) bU (gW (dC (.int 3)))) (aE 3)) aX)
 (aU (c4 (ig (ak 3)) (aE 4) (bF (bX (aG (uN true) (ak 4) @l)) (bc (b5 (dC (.str "NoName")))) aX))
 (aU (aS (aO jT (ah @d aA)) (aE 5))
 (aU (aS (aO gk (ah @d aA)) (aE 6))
 (aU (bF (bX (aG @G (aG cK @g @C) (dC (.str "uncurl")))) (aS (aO gz (ah (ak 5) (ah (bJ (ah (aG cK @g @s) (ah @C aA))) (ah (bJ (ah (aG cK @g @s) (ah @s aA))) aA)))) (aE 7)) (bF (bX (aG @G (aG cK @g @C) (dC (.str "part")))) (aS (aO kr (ah (ak 5) (ah (ak 6) (ah @g aA)))) (aE 7)) (aS (aO iD (ah (ak 5) (ah (ak 6) (ah @g aA)))) (aE 7))))
 (bc (b5 (E9 (bX (ak 7)) (dC (.str "")) (dC (.str "NoFit")))))))))))))
def oH:di:=λds G Q _=>∃(rows:Rows) (m:tj),ds=[@L,td m]/\(@J/\To m)/\Q (.str (yU rows m)) G
noncomputable def QR:tj->@I
 |.un n=>[n] |.pa a b=>[a,b] |.sl a b c _=>[a,b,c] |_=>[]
def ftb(rows:Rows):tj->Bool
 |.un n=>unb rows n |.pa a b=>Yc rows a b |.sl a b c t=>HW rows a b c t |_=>true
theorem Qc(x)(as:@i):cut (x::as) (some 1) none=as:=by
 unfold cut jl;simp
theorem CW(ds)(G)(Q)(h:oH ds G Q @f):uF (@f) @q (aJ 8 ds) G:=by
 obtain⟨rows,m,rfl,⟨d,ok⟩,q⟩:=h;unfold uF;obtain⟨EO,Aw,zk⟩:=gV d;have d24:=d.zm;refine bp (λτ G'=>G=G'/\τ=[@p,some (td m),some (enc (pz rows.flatten)),none,none,none,none,none]) ?_ ?_
 .intro N hN;simp![aS,aO,ah,ak,aJ,aN,aA,aE];exact⟨rows,rfl,(show rows.flatten.length<=500 by lia),hN _ _ @R⟩
 rintro _ _ ⟨rfl,rfl⟩;by_cases hc:SA m\/Sz m
 .cases m with
  |cu n s f h=>
   simp![bF,sT,aG,ak,td,wd,ar,dC,rB,bc,b5,aO,ah,aA,ends,aX,aS,gJ,lT,bU,aE];refine DL ?_;simp only[↓aC,↓aI,↓if_true];exact⟨rows,.cu n s f h,rfl,⟨d,.inl trivial⟩,cF q⟩
  |la a b o u t h=>
   simp![bF,sT,aG,ak,td,wd,ar,dC,rB,bc,b5,aO,ah,aA,ends,aX,aS,gJ,lT,bU,aE];refine uP ?_;ext d;refine DL ?_;simp only[↓aC,↓aI,↓if_true];exact⟨rows,.la a b o u t h,rfl,⟨d,.inr trivial⟩,cF q⟩
  |_=>rcases hc with hc |hc<;>exact hc.elim
 refine bp (λτ G'=>G=G'/\τ=[@p,some (td m),some (enc (pz rows.flatten)),none,none,none,none,none]) ?_ ?_
 .intro N hN;cases m with
  |cu n s f h=>exact absurd (.inl trivial) hc
  |la a b o u t h=>exact absurd (.inr trivial) hc
  |_=>
   simp![bF,sT,aG,ak,td,wd,ar,dC,rB,bc,b5,aO,ah,aA,ends,aX];refine uP ?_;ext d;refine uP ?_;ext d;exact hN _ _ @R
 rintro _ _ ⟨rfl,rfl⟩;refine bp (λτ G'=>∃p,G p=none/\ck G p (.lst (ar m))=G'/\τ=[@p,some (td m),some (enc (pz rows.flatten)),@K,none,none,none,none]) ?_ ?_
 .intro N hN;simp![aS,gJ,ah,lT,ak,td,dC,bU,aA,aE];rw[Qc];refine⟨λz=>?_,λp hp=>hN _ _ ⟨p,hp,rfl,rfl⟩⟩;have:=z.1;unfold jl at this;simp at this
 rintro _ _ ⟨p3,GN,rfl,rfl⟩;have l3:=cO.new (o:=.lst (ar m)) GN;refine bp (λτ G'=>∃x,@w/\IsL G' x ((QR m).map enc)/\τ=[@p,some (td m),some (enc (pz rows.flatten)),some x,none,none,none,none]) ?_ ?_
 .intro N hN;cases m with
  |cu n s f h=>exact absurd (.inl trivial) hc
  |la a b o u t h=>exact absurd (.inr trivial) hc
  |sl a b c t=>
   simp![bF,aG,ak,td,wd,ar,dC,rB,aS,lT,bU,aE,aX];refine DL ?_;simp only[↓aC,↓aI,↓if_true];refine lW (.ref az) λp4 SG=>hN _ _ ⟨_,l3.trans (.new SG),.ref az,rfl⟩
  |un n=>
   simp![bF,aG,ak,td,wd,ar,dC,rB,aS,lT,bU,aE,aX];refine uP ?_;ext d;exact hN _ _ ⟨_,l3,.ref az,rfl⟩
  |pa a b=>
   simp![bF,aG,ak,td,wd,ar,dC,rB,aS,lT,bU,aE,aX];refine uP ?_;ext d;exact hN _ _ ⟨_,l3,.ref az,rfl⟩
 rintro _ G1 ⟨x,l1,hx,rfl⟩;have hq:∀G' w,@w->w=yU rows m->D5 G' (.str w) Q:=λG' w l e=>by subst e;exact jb l q
 have hrf:yU rows m=Kg rows (QR m) (ftb rows m):=by
  cases m with
  |cu n s f h=>exact absurd (.inl trivial) hc
  |la a b o u t h=>exact absurd (.inr trivial) hc
  |_=>rfl
 refine bp (λτ G'=>G1=G'/\(∀n∈QR m,n∈@y)/\∃a,τ=[@p,some (td m),some (enc (pz rows.flatten)),some x,a,none,none,none]) ?_ ?_
 .intro N hN;simp![c4,ak,ends];refine Jo hx λok Sm=>?_;refine cT (xs:=QR m) (λpre τ G'=>G1=G'/\(∀n∈pre,n∈@y)/\∃a,τ=[@p,some (td m),some (enc (pz rows.flatten)),some x,a,none,none,none]) ⟨rfl,(λ_ h=>by cases h),_,rfl⟩ (λ_ _ G' h=>Sm G' (by rw[h.1];exact .refl _)) ?_ λ_ _ h=>hN _ _ h;rintro pre n post τ G' N2 e ⟨rfl,yC,a,rfl⟩ nP;simp![aE,bF,aG,ak,bc,b5,dC,aX];refine jF (x:=n) (@c) ?_;by_cases hn:n∈@y
  .simp![oi,hn,decide_true];refine nP _ _ ⟨rfl,λk hk=>?_,_,rfl⟩;rcases List.mem_append.mp hk with hk |hk
   .exact yC k hk
   .rw[List.mem_singleton.mp hk];exact hn
  .simp![oi,hn,decide_false];refine hq _ _ l1 ?_;rw[hrf];unfold Kg;rw[if_neg λz=>hn (by have:=List.all_eq_true.mp z n (by rw[e];simp);simpa using this)]
 rintro _ _ ⟨rfl,oN,a4,rfl⟩;have V6:yU rows m=if ftb rows m=true then("":Str) else "NoFit":=by
  rw[hrf];unfold Kg;rw[if_pos (List.all_eq_true.mpr λn hn=>by simpa using oN n hn)]
 simp![aS,aO,ah,ak,aA,aE,ends];refine⟨rows,rfl,(show rows.flatten.length<=500 by lia),?_⟩;simp only;refine⟨rows,rfl,(show rows.flatten.length<=500 by lia),?_⟩;have fin:∀b:Bool,b=ftb rows m->if b=true then D5 G1 (.str "") Q else D5 G1 (.str "NoFit") Q:=λb e=>by
  rw[<-e] at V6;cases b with
  |true=>exact hq _ _ l1 (by rw[V6];rfl)
  |false=>exact hq _ _ l1 (by rw[V6];rfl)
 cases m with
 |cu n s f h=>exact absurd (.inl trivial) hc
 |la a b o u t h=>exact absurd (.inr trivial) hc
 |un n=>
  have hn:=oN n (by simp[QR]);simp![bF,aG,ak,td,wd,ar,dC,rB,aS,aO,ah,bJ,rz,aA,aE,bc,b5];refine DL ?_;simp only[↓aC,↓aI,↓if_true];refine⟨@c,@c,_,⟨n,0⟩,⟨n,1⟩,_,_,rfl,⟨uO d hn (@E),uO d hn (.inr rfl)⟩,?_⟩;simp![E9,ak,dC];exact fin _ rfl
 |pa a b=>
  simp![bF,aG,ak,td,wd,ar,dC,rB,aS,aO,ah,bJ,rz,aA,aE,bc,b5];refine uP ?_;ext d;refine DL ?_;simp only[↓aC,↓aI,↓if_true];refine⟨rows,a,b,_,_,_,_,rfl,⟨d,pan d (oN a (by simp[QR])) (oN b (by simp[QR]))⟩,?_⟩;simp![E9,ak,dC];refine fin _ ?_;show _=Yc rows a b;unfold Yc;by_cases e:a=b
  .subst e;unfold IQ;simp
  .simp[e]
 |sl a b c t=>
  simp![bF,aG,ak,td,wd,ar,dC,rB,aS,aO,ah,bJ,rz,aA,aE,bc,b5];refine uP ?_;ext d;refine uP ?_;ext d;refine⟨rows,a,b,c,t,rfl,⟨d,yw (oN a (by simp[QR])),yw (oN b (by simp[QR])),yw (oN c (by simp[QR])),ok⟩,?_⟩;simp![E9,ak,dC];exact fin _ rfl
end Ln
namespace Tr
open K2.P
open K2.Mo hiding bW cA cL
open K2.lF (HR gw)
open K2.D3 (Qt Qs)
open K2.C7 (J9)
open K2.Nb (gN cx pz mq EG Du)
open K2.K3 (DF)
theorem OU(df:DF L)(h:m∉pz L):m∉L.map (·.a):=by
 have e:[L].flatten=L:=by simp
 have:=Du (rows:=[L]) (by rw[e];exact df) (m:=m) (by rw[e];exact h)
 rwa[e] at this
end Tr
namespace C7
open K2.P
open K2.Mo
open K2.nQ (bR)
open K2.lF (HR)
open K2.D3 (WN)
open K2.Lo (Au)
open K2.Nb (fE pz mq)
variable {rows:Rows} {m m':tj}
def bW:di:=Mo.bW
def y4:da :=
 (aU (bF (sT (iG (bX (E8 "list" @d))) (bX (aG (ic true) (gJ iL (ah @d aA)) (gJ iL (ah @g aA))))) (bc (b5 (dC (.bl false)))) aX)
 (aU (c4 (lN (gJ iL (ah @g aA))) (aE 2) (aU (bF (sT (iG (bX (E8 "list" (aG cK @d @l)))) (bX (aG (ic true) (gJ iL (ah (aG cK @d @l) aA)) (gJ iL (ah (aG cK @g @l) aA))))) (bc (b5 (dC (.bl false)))) aX)
 (c4 (lN (gJ iL (ah (aG cK @g @l) aA))) (aE 3) (bF (iG (bX (aO bW (ah (aG cK (aG cK @d @l) (ak 3)) (ah (aG cK (aG cK @g @l) (ak 3)) aA))))) (bc (b5 (dC (.bl false)))) aX))))
 (bc (b5 (dC (.bl true))))))
def jS:di:=λds G Q _=>∃rows:Rows,ds=[@L,@L]/\(rows.length<=500/\∀r∈rows,r.length<=500)/\Q (.bl true) G
theorem zy(ds)(G)(Q)(h:jS ds G Q @f):y4 (@f) @q (aJ 4 ds) G:=by
 obtain⟨rows,rfl,⟨hl,SF⟩,q⟩:=h;unfold y4;simp![bF,sT,iG,ak,aJ,aN,bc,b5,dC,ends,aX,aG,gJ,ah,aA];refine KC (IsL.enc rows) ?_;simp![beq_self_eq_true];refine d8 (IsL.enc rows) (d8 (IsL.enc rows) ?_);simp only[ax];refine b7 (α:=Int) (@c) ?_;simp![decide_true,c4,gJ,ah,ak,aA];refine d8 (IsL.enc rows) ?_;simp only[↓dI,ax];refine⟨@e,@e,?_⟩;refine BA (λpre τ G'=>G=G'/\∃a b,τ=[@p,@p,a,b]) ⟨rfl,_,_,rfl⟩ @Y ?_ ?_
 .rintro pre x post τ G' N e ⟨rfl,a,b,rfl⟩ hN;obtain⟨rfl,hk⟩:=mX e;have hk:pre.length<rows.length:=by simpa using hk
  have a1:mH (rows.map enc) ((pre.length:Nat):Int)=some (enc rows[pre.length]):=by
   rw[eY _ (@e) (by rw[ax];lia)];simp only[fu,cP]
  have hlr:=SF _ (vc hk);generalize rows[pre.length]=r at a1 hlr;simp![aE,bF,sT,iG,aG,ak,bc,b5,dC,aX,gJ,ah,aA];refine dS (IsL.enc rows) a1 (KC (IsL.enc r) ?_);simp![beq_self_eq_true];refine dS (IsL.enc rows) a1 (d8 (IsL.enc r) ?_);refine dS (IsL.enc rows) a1 (d8 (IsL.enc r) ?_);simp only[ax];refine b7 (α:=Int) (@c) ?_;simp![decide_true,c4,gJ,ah,aG,ak,aA];refine dS (IsL.enc rows) a1 (d8 (IsL.enc r) ?_);simp only[↓dI,ax];refine⟨@e,@e,?_⟩;refine BA (λpr τ G'=>G=G'/\∃b,τ=[@p,@p,some (.int (pre.length:Nat)),b]) ⟨rfl,_,rfl⟩ @Y ?_ ?_
  .rintro pr y po τ G' N2 e2 ⟨rfl,b,rfl⟩ nP;obtain⟨rfl,hj⟩:=mX e2;have hj:pr.length<r.length:=by simpa using hj
   have a3:mH (r.map enc) ((pr.length:Nat):Int)=some (enc r[pr.length]):=by
    rw[eY _ (@e) (by rw[ax];lia)];simp only[fu,cP]
   simp![aE,bF,iG,aO,ah,aG,ak,aA,bc,b5,dC,aX];refine dS (IsL.enc rows) a1 (dS (IsL.enc r) a3 ?_);refine dS (IsL.enc rows) a1 (dS (IsL.enc r) a3 ?_);refine⟨[r[pr.length].a,r[pr.length].b,r[pr.length].c],rfl,?_⟩;simp!;exact nP _ _ ⟨rfl,_,rfl⟩
  .rintro τ G' ⟨rfl,b,rfl⟩;exact hN _ _ ⟨rfl,_,_,rfl⟩
 .rintro τ G' ⟨rfl,a,b,rfl⟩;simp only[bc,b5,dC];exact cF q
noncomputable def Xr:List (Str×di):=[("Uncurl",eN),("Curl",eO),("Part",fF),("Lay",fc),("Slide",eX)]
noncomputable def Xw:List (Str×di):=[("Uncurl",iT),("Curl",kF),("Part",kD),("Lay",lK),("Slide",jq)]
theorem BL (w:Str) (h:w="done"\/w="back"\/w="told"):(fl m).lookup w=none:=by
 rcases h with rfl |rfl |rfl<;>cases m<;>rfl
theorem BP(d:@J)(f:uj rows m):∃sp:di,((cn m,sp):Str×di)∈Xr/\∀{G:Gp} {p:Nat} {Q:DK},zH G p m->(∀x as G',HR G G' x as (Kq rows m)->Q (.ref x) G')->sp [.ref p,@L] G Q @f:=by
 have str:=d.str;cases m with
 |un n=>
  obtain⟨w,h,s,hw,c⟩:=f;obtain⟨v0,v1,u⟩:=JE d hw c;exact⟨eN,by simp[cn,Xr],λ{_ p _} g q=>⟨p,n,rows,v0,v1,rfl,g,⟨u,@e⟩,q⟩⟩
 |cu n s w h=>exact⟨eO,by simp[cn,Xr],λ{_ p _} g q=>⟨p,n,s,w,h,rows,rfl,g,f.1,q⟩⟩
 |pa a b=>
  obtain⟨h,pf⟩:=f;obtain⟨qh,qg,rp,rm,pn,ef⟩:=IU pf;exact⟨fF,by simp[cn,Xr],λ{_ p _} g q=>⟨p,a,b,rows,qh,qg,rp,rm,rfl,g,⟨pn,ef,@e⟩,q⟩⟩
 |la a b o u t h=>exact⟨fc,by simp[cn,Xr],λ{_ p _} g q=>⟨p,a,b,o,u,t,h,rows,rfl,g,f,q⟩⟩
 |sl a b c t=>exact⟨eX,by simp[cn,Xr],λ{_ p _} g q=>⟨p,a,b,c,t,rows,rfl,g,f,q⟩⟩
theorem Ho(d:@J)(f:uj rows m):∃sp:di,((cn m,sp):Str×di)∈Xw/\∀{G:Gp} {p:Nat} {Q:DK},zH G p m->(∀m' x G',Bk rows m m'->@w->G x=none->zH G' x m'->Q (.ref x) G')->sp [.ref p,@L] G Q @f:=by
 cases m with
 |un n=>
  obtain⟨w,h,s,hw,c⟩:=f;exact⟨iT,by simp[cn,Xw],λ{_ p _} g q=>⟨p,rows,n,w,h,s,rfl,g,⟨d,hw,c⟩,λw' x G' hw' c'=>q _ x G' (.un hw' c')⟩⟩
 |cu n s w h=>exact⟨kF,by simp[cn,Xw],λ{_ p _} g q=>⟨p,n,s,w,h,rows,rfl,g,f.1,λx G'=>q _ x G' .cu⟩⟩
 |pa a b=>
  obtain⟨h,pf⟩:=f;exact⟨kD,by simp[cn,Xw],λ{_ p _} g q=>⟨p,a,b,h,rows,rfl,g,pf,λF O o u t h' x G' lb=>q _ x G' (.pa lb)⟩⟩
 |la a b o u t h=>exact⟨lK,by simp[cn,Xw],λ{_ p _} g q=>⟨p,a,b,o,u,t,h,rows,rfl,g,f,λx G'=>q _ x G' .la⟩⟩
 |sl a b c t=>exact⟨jq,by simp[cn,Xw],λ{_ p _} g q=>⟨p,a,b,c,t,rows,rfl,g,f,λx G'=>q _ x G' .sl⟩⟩
end C7
namespace Ln
open K2.P
open K2.Mo hiding bW cA cL
open K2.nQ (bR)
open K2.lF (HR)
noncomputable def six:@n:=@ae
def r8:da :=
 (aU (aS (cg aA) (aE 1))
 (aU (bF (bX (qV @ae ["NoName"] @d)) (bw (iZ pY du @g (ah (dC (.str "NoName")) aA))) aX)
 (aU (bF (bX (qV @ae ["NameTaken"] @d)) (bw (iZ pY du @g (ah (dC (.str "NameTaken")) aA))) aX)
 (aU (bF (bX (qV @ae ["NoSpot"] @d)) (bw (iZ pY du @g (ah (dC (.str "NoSpot")) aA))) aX)
 (aU (bF (bX (qV @ae ["TooMany"] @d)) (bw (iZ pY du @g (ah (dC (.str "TooMany")) aA))) aX)
 (aU (bF (bX (qV @ae ["NoFit"] @d)) (bw (iZ pY du @g (ah (dC (.str "NoFit")) aA))) aX)
 (aU (bF (bX (qV @ae ["NoMove"] @d)) (bw (iZ pY du @g (ah (dC (.str "NoMove")) aA))) aX)
 (aU (bF (iG (bX (DR @ae @d))) (bw (iZ pY du @g (ah (dC (.str "no ValueError")) aA))) aX)
 (bc (b5 @g))))))))))
def kB:di:=λds G Q _=>∃c:Str,ds=[.exc c]/\c∈six/\Q (.dR [.str c]) G
theorem B9(ds)(G)(Q)(h:kB ds G Q @f):r8 (@f) @q (aJ 2 ds) G:=by
 obtain⟨c,rfl,hc,q⟩:=h;unfold r8;have tab:∀c∈six,(@ae:@n).contains c=true:=@W
 have t0:=tab c hc;have one:∀v∈six,∀w∈six,([v]:@n).contains w=decide (v=w):=@W
 simp only[↓bT,aS,cg,aA,↓aq,aE,ends,aJ,↓av,↓aF,↓ai,aN,↓aw,↓ay,↓ao,↓aj];refine⟨@c,λp hp=>?_⟩;have ne:∀v w:Str,v∈six->w∈six->v≠w->([v]:@n).contains w=false:=λv w hv hw h=>by rw[one v hv w hw];exact decide_eq_false h
 have eq:∀v:Str,v∈six->([v]:@n).contains v=true:=λv hv=>by rw[one v hv v hv];exact decide_eq_true rfl
 have ab7:∀c∈six,six.filter (λv=>decide (v=c))=[c]:=@W
 have go:∀(vs:@n) (v:Str) (r:da),v∈six->vs.length<10->r (@f) @q [some (.exc c),@K] (ck G p (.lst (((vs++[v]).filter λv=>decide (v=c)).map D.str))) ->
   aU (bF (bX (qV @ae [v] @d)) (bw (iZ pY du @g (ah (dC (.str v)) aA))) aX) r (@f) @q [some (.exc c),@K] (ck G p (.lst ((vs.filter λv=>decide (v=c)).map D.str))):=by
  intro vs v r hv hx hr;have hl:=gZ (λv=>decide (v=c)) vs;refine bp (λτ G'=>τ=[some (.exc c),@K]/\G'=ck G p (.lst (((vs++[v]).filter λv=>decide (v=c)).map D.str))) ?_ ?_
  .intro N hN;simp![bF,qV,ak,bw,iZ,ah,dC,aA,aX];refine⟨t0,?_⟩;by_cases e:v=c
   .subst e;rw[eq v hv];simp only[az,↓true_and,↓if_true];refine⟨qY (by rw[ax];lia),hN _ _ ⟨rfl,?_⟩⟩;rw[oF,bC,aH];simp
   .rw[ne v c hv hc e];simp only[↓ag,↓if_false];refine hN _ _ ⟨rfl,?_⟩;rw[bC];simp[e]
  rintro _ _ ⟨rfl,rfl⟩;exact hr
 refine go [] _ _ (@W) (@c) (go _ _ _ (@W) (@c) (go _ _ _ (@W) (@c) (go _ _ _ (@W) (@c) (go _ _ _ (@W) (@c) (go _ _ _ (@W) (@c) ?_)))));show(aU _ _:da) _ _ _ (ck G p (.lst ((six.filter λv=>decide (v=c)).map D.str)));rw[ab7 c hc];simp![bF,iG,DR,ak,bw,iZ,ah,dC,aA,bc,b5,ends,aX];exact⟨t0,ES (.new hp) hp az (Cf.same _) q⟩
open K2.C7 (uj Kq Jb Bk BP Ho BL sO oy vD)
open K2.tm (b6 eP fG dE)
open K2.rh (kH Ro)
open K2.D3 (WN JG Fe)
open K2.Lo (Au EJ Bs)
theorem Od   (h:yU rows m≠""):yU rows m∈six:=by
 have h6:∀v∈(@ae:@n),v∈six:=λv hv=>hv;have hN:∀ns b,Kg rows ns b≠""->Kg rows ns b∈six:=λns b h=>by
  rcases Et h with ⟨e,_⟩ |⟨e,_⟩<;>rw[e]<;>decide +kernel
 cases m with
 |un n=>exact hN _ _ h
 |pa a b=>exact hN _ _ h
 |sl a b c t=>exact hN _ _ h
 |cu n s f k=>
  have h:Of rows n s≠"":=h;show Of rows n s∈six;unfold Of at *
  repeat' split
  .decide +kernel
  .decide +kernel
  .rename_i h1 h2 h3;rw[if_neg h1,if_neg h2,if_pos h3] at h;exact absurd rfl h
  .decide +kernel
 |la a b o u t k=>
  have h:Oe rows a b o u k≠"":=h;show Oe rows a b o u k∈six;unfold Oe at *
  repeat' split
  .decide +kernel
  .decide +kernel
  .decide +kernel
  .rename_i h1 h2 h3 h4;rw[if_neg h1,if_neg h2,if_neg h3,if_pos h4] at h;exact absurd rfl h
  .decide +kernel
theorem PV{G:Gp}:∀(as:List Nat) (rs:Rows),as.length=rs.length->(∀a∈as,G a=none)->(∀(i a:Nat) (r:@B),as[i]?=some a->rs[i]?=some r->G' a=some (.lst (r.map enc)))->Cf G' (λa=>(G a).isNone) (as.map D.ref) (rs.map enc)
 |[],[],_,_,_=>.nil
 |[],_::_,h,_,_=>by cases h
 |_::_,[],h,_,_=>by cases h
 |a::as,r::rs,h,hf,MM=>.cons (.ref (MM 0 a r rfl rfl) (by rw[hf a aQ];rfl) (Cf.same _)) (PV as rs (by simpa using h) (λb hb=>hf b (aP _ hb)) λi b s h1 h2=>MM (i+1) b s h1 h2)
theorem KP{G G1:Gp}{p q:Nat}{as:List Nat}{rs:Rows}{Q:DK}(h:HR G G1 q as rs)(hp:G1 p=none)(k:Q (.tup [.dR [],enc rs]) G):D5 (ck G1 p (.lst [])) (.tup [.ref p,.ref q]) Q:=by
 have l:=h.le.trans (cO.new (o:=.lst []) hp);have nq:q≠p:=λe=>by rw[<-e,h.gp] at hp;cases hp
 refine Wn l (.tup (.cons (.ref az (by rw[h.le.free hp];rfl) .nil) (.cons (.ref (by rw[dm nq];exact h.gp) (by rw[h.fp];rfl) (PV as rs h.len h.fr λi a r h1 h2=>?_)) .nil))) k;have na:a≠p:=λe=>by rw[<-e,h.at' i a r h1 h2] at hp;cases hp
 rw[dm na];exact h.at' i a r h1 h2
noncomputable def Xg:List (Str×di):=[("Uncurl",ix),("Curl",gA),("Part",jr),("Lay",h8),("Slide",iU)]
noncomputable def Xv:List (Str×di):=[("Uncurl",iy),("Curl",ju),("Part",jt),("Lay",kE),("Slide",iV)]
theorem aas   (hh:@J/\To m/\yU rows m≠""):(∃sp:di,((cn m,sp):Str×di)∈Xg/\∀{G:Gp} {p:Nat} {Q:DK} {E:iM},zH G p m->(∀G',@w->E ⟨yU rows m,[]⟩ G')->sp [.ref p,@L] G Q E) /\
  ∃sp:di,((cn m,sp):Str×di)∈Xv/\∀{G:Gp} {p:Nat} {Q:DK} {E:iM},zH G p m->(∀G',@w->E ⟨yU rows m,[]⟩ G')->sp [.ref p,@L] G Q E:=by
 cases m with
 |un n=>exact⟨⟨ix,by simp[cn,Xg],λ{_ p _ _} g q=>⟨p,_,rows,rfl,g,⟨trivial,hh⟩,q⟩⟩,iy,by simp[cn,Xv],λ{_ p _ _} g q=>⟨p,_,rows,rfl,g,⟨trivial,hh⟩,q⟩⟩
 |cu n s f h=>exact⟨⟨gA,by simp[cn,Xg],λ{_ p _ _} g q=>⟨p,_,rows,rfl,g,⟨trivial,hh⟩,q⟩⟩,ju,by simp[cn,Xv],λ{_ p _ _} g q=>⟨p,_,rows,rfl,g,⟨trivial,hh⟩,q⟩⟩
 |pa a b=>exact⟨⟨jr,by simp[cn,Xg],λ{_ p _ _} g q=>⟨p,_,rows,rfl,g,⟨trivial,hh⟩,q⟩⟩,jt,by simp[cn,Xv],λ{_ p _ _} g q=>⟨p,_,rows,rfl,g,⟨trivial,hh⟩,q⟩⟩
 |la a b o u t h=>exact⟨⟨h8,by simp[cn,Xg],λ{_ p _ _} g q=>⟨p,_,rows,rfl,g,⟨trivial,hh⟩,q⟩⟩,kE,by simp[cn,Xv],λ{_ p _ _} g q=>⟨p,_,rows,rfl,g,⟨trivial,hh⟩,q⟩⟩
 |sl a b c t=>exact⟨⟨iU,by simp[cn,Xg],λ{_ p _ _} g q=>⟨p,_,rows,rfl,g,⟨trivial,hh⟩,q⟩⟩,iV,by simp[cn,Xv],λ{_ p _ _} g q=>⟨p,_,rows,rfl,g,⟨trivial,hh⟩,q⟩⟩
theorem SU(d:@J)(nd:ns.Nodup)(h:∀n∈ns,n∈@y):(i6 ns rows).flatten.length+2*ns.length<=rows.flatten.length:=by
 have h1:=Ts.twice d;have h2:=Ts.twice (vD (ns:=ns) d);have h3:=K3.fI (names (i6 ns rows)++ns) (@y) (by
  rw[eR];refine⟨Ts.O2 (vD d),nd,λx hx y hy e=>?_⟩;obtain⟨p,hp,_,e2⟩:=d4.mp hx;exact(oy.mp hp).2 (by rw[e2,e];exact hy)) λx hx=>by
  rcases List.mem_append.mp hx with hx |hx
  .obtain⟨p,hp,e1,e2⟩:=d4.mp hx;exact d4.mpr ⟨p,(oy.mp hp).1,e1,e2⟩
  .exact h x hx
 rw[aM] at h3;lia
theorem Te(d:@J)(f:uj rows m)(bk:Bk rows m m'):uj (Kq rows m) m'/\Kq (Kq rows m) m'=rows.map bR:=by
 have fl:∀ns:@I,ns.Nodup->(∀n∈ns,n∈@y)->((i6 ns rows).map bR).flatten.length+2*ns.length<=24:=λns nd h=>by
  have h1:=SU d nd h;have h2:=d.zm;rw[(jE (b6 (i6 ns rows))).length_eq];lia
 have fr:∀ns n,n∈ns->∀p∈((i6 ns rows).map bR).flatten,p.a≠n:=λns n hn p hp e=>by
  have:=(oy.mp ((jE (b6 (i6 ns rows))).mem_iff.mp hp)).2;rw[e] at this;exact this hn
 cases bk with
 | @un n w h s hw c=>
  obtain⟨EN,hro⟩:=WC d.dn c hw;have dX:Dr (i6 [n] rows):=vD d;have hh:h=1\/h=-1:=by
   obtain⟨R1,R2,r,M,e,ro,_⟩:=c.ex;have:(⟨n,w,h⟩:T3)∈rows.flatten:=by
    rw[e,cS];have:=ro.perm.mem_iff.mpr (aQ (a:=(⟨n,w,h⟩:T3)) (l:=⟨n,1-w,h⟩::M));simp[this]
   exact d.hand _ this
  obtain⟨v0,v1,uf⟩:=JE d hw c;have YU:=fl [n] @k (λk hk=>by rw[List.mem_singleton.mp hk];exact uf.nm);refine⟨⟨⟨dX.ro (b6 _),by rw[dO] at YU;show((i6 [n] rows).map bR).flatten.length<=22;lia,AS (b6 _) EN,fr [n] n @k⟩,hw,hh⟩,?_⟩;have r1:=II (s:=s) (ps:=cps n w h) (b6 (i6 [n] rows)) (EE dX.dn (Kc EN));exact d.dn.Gj (eP (fG hro) r1)
 |@cu n w h s=>
  obtain⟨c,hf,hh⟩:=f;exact⟨⟨w,h,s,hf,Zi d.dn c.hs c.fr⟩,Fe c hf hh⟩
 | @pa a b F O t h o u lb=>
  obtain⟨h',pf⟩:=f;obtain⟨nm,ht,hh,ho,hn,Y,rY,dY,hu,rU⟩:=lb;have dX:Dr (i6 [a,b] rows):=vD d;have r1:=II (s:=o) (ps:=sC F O 0 h) (b6 (i6 [a,b] rows)) (EE dX.dn (Kc ho));have r2:Ro Y (zL ((i6 [a,b] rows).map bR) F O o h):=eP (fG rY) r1;have r3:=II (s:=u) (ps:=Dy F O t h) r2 (EE dY (Kc hu));have hF:F∈[a,b]:=by rcases nm with ⟨rfl,rfl⟩ |⟨rfl,rfl⟩<;>simp
  have hO:O∈[a,b]:=by rcases nm with ⟨rfl,rfl⟩ |⟨rfl,rfl⟩<;>simp
  have kO:F≠O:=by
   rcases nm with ⟨rfl,rfl⟩ |⟨rfl,rfl⟩
   .exact pf.ne
   .exact pf.ne.symm
  obtain⟨qh,qg,rp,rm,pn,ef⟩:=IU pf;have YU:=fl [a,b] (by simp[pf.ne]) (λk hk=>by
   simp only[bN,bf,or_false] at hk;rcases hk with rfl |rfl
   .exact pn.na.1
   .exact pn.nb.1)
  refine⟨⟨dX.ro (b6 _),by rw[show([a,b]:@I).length=2 from rfl] at YU;show((i6 [a,b] rows).map bR).flatten.length<=20;lia,kO,fr _ F hF,fr _ O hO,AS (b6 _) ho,AS r2 hu,hn,ht,hh⟩,?_⟩;exact d.dn.Gj (eP (fG rU) r3)
 |@la a b t h o u=>
  exact⟨⟨h,EJ f⟩,Bs f @k @k @k⟩
 |@sl a b c t=>exact⟨f.back,LH f⟩
def wA:da :=
 (aU (aS (dC .ff) (aE 3))
 (aU (aS (dC .ff) (aE 4))
 (aU (aS (dC .ff) (aE 5))
 (aU (BS (yI (aU (aS (aO mO (ah @d aA)) (aE 6)) (bF (bX @l) (yI (aU (aS (cW [("Uncurl",iT),("Curl",kF),("Part",kD),("Lay",lK),("Slide",jq)] "back" (ak 6) (ah @g aA)) (aE 5)) aX) (sR [("Uncurl",iy),("Curl",ju),("Part",jt),("Lay",kE),("Slide",iV)] "back" (ak 6) (ah @g aA) 7 @ae (aS (ak 7) (aE 3)))) (yI (aU (aS (cW [("Uncurl",eN),("Curl",eO),("Part",fF),("Lay",fc),("Slide",eX)] "done" (ak 6) (ah (b5 @g) aA)) (aE 4)) aX) (sR [("Uncurl",ix),("Curl",gA),("Part",jr),("Lay",h8),("Slide",iU)] "done" (ak 6) (ah @g aA) 7 @ae (aS (ak 7) (aE 3)))))) (DQ rP (ah @d aA) 7 @ae (aS (ak 7) (aE 3)))))
 (aU (bF (bX (rq (EA true) (ak 3))) (bc (b5 (bJ (ah (aO kB (ah (ak 3) aA)) (ah (dC .ff) aA))))) aX)
 (aU (bF (bX @l) (aS (cW [("Uncurl",eN),("Curl",eO),("Part",fF),("Lay",fc),("Slide",eX)] "done" (ak 5) (ah (b5 (cW [("Uncurl",eN),("Curl",eO),("Part",fF),("Lay",fc),("Slide",eX)] "done" (aO mO (ah @d aA)) (ah (b5 @g) aA))) aA)) (aE 4)) aX)
 (bc (b5 (bJ (ah (cg aA) (ah (ak 4) aA)))))))))))
def kC:di:=λds G Q _=>∃(t:D) (rows:Rows) (b:Bool),ds=[t,@L,.bl b]/\@J /\
  ((∃w as,t=.tup (.str w::as)/\w∈W8/\Q (.tup [.dR [.str "NoMove"],.ff]) G) \/
   ∃m,t=td m/\To m/\((yU rows m≠""/\Q (.tup [.dR [.str (yU rows m)],.ff]) G)\/(uj rows m/\Q (.tup [.dR [],enc (if b=true then rows.map bR else Kq rows m)]) G)))
theorem Fo(ds)(G)(Q)(h:kC ds G Q @f):wA (@f) @q (aJ 8 ds) G:=by
 obtain⟨t,rows,b,rfl,d,h⟩:=h;unfold wA;have tab:∀c∈six,(@ae:@n).contains c=true:=@W
 refine bp (λτ G'=>G=G'/\τ=[some t,@p,some (.bl b),some .ff,none,none,none,none]) (λN hN=>hN _ _ @R) ?_;rintro _ _ ⟨rfl,rfl⟩;refine bp (λτ G'=>G=G'/\τ=[some t,@p,some (.bl b),some .ff,some .ff,none,none,none]) (λN hN=>hN _ _ @R) ?_;rintro _ _ ⟨rfl,rfl⟩;refine bp (λτ G'=>G=G'/\τ=[some t,@p,some (.bl b),some .ff,some .ff,some .ff,none,none]) (λN hN=>hN _ _ @R) ?_;rintro _ _ ⟨rfl,rfl⟩;have bad:∀(c:Str) (G':Gp) (x6:Option D),c∈six->@w->Q (.tup [.dR [.str c],.ff]) G ->
   aU (bF (bX (rq (EA true) (ak 3))) (bc (b5 (bJ (ah (aO kB (ah (ak 3) aA)) (ah (dC .ff) aA))))) aX)
    (aU (bF (bX @l) (aS (cW [("Uncurl",eN),("Curl",eO),("Part",fF),("Lay",fc),("Slide",eX)] "done" (ak 5) (ah (b5 (cW [("Uncurl",eN),("Curl",eO),("Part",fF),("Lay",fc),("Slide",eX)] "done" (aO mO (ah @d aA)) (ah (b5 @g) aA))) aA)) (aE 4)) aX)
     (bc (b5 (bJ (ah (cg aA) (ah (ak 4) aA)))))) (@f) @q [some t,@p,some (.bl b),some (.exc c),some .ff,some .ff,x6,none] G':=by
  intro c G' x6 hc l q;simp![bF,rq,ak,EA,bc,b5,bJ,ah,aO,aA,dC,ends,aX,aS,aE,cg];exact⟨c,rfl,hc,@c,jb l q⟩
 rcases h with ⟨w,as,rfl,hw,q⟩ |⟨m,rfl,ok,⟨hr,q⟩ |⟨f,q⟩⟩
 .refine bp (λτ G'=>G=G'/\τ=[some (.tup (.str w::as)),@p,some (.bl b),some (.exc "NoMove"),some .ff,some .ff,none,none]) ?_ ?_
  .intro N hN;simp![BS,yI,aS,aO,ah,ak,aA,aE,ends];refine .inr ?_;simp![DQ,ah,ak,aA,aS,aE];exact⟨w,as,rfl,hw,tab _ (@W),hN _ _ @R⟩
  .rintro _ _ ⟨rfl,rfl⟩;exact bad _ _ _ (@W) (.refl _) q
 .have hc:=Od hr;obtain⟨⟨sd,hd,rd⟩,sb,hb,rb⟩:=aas ⟨d,ok,hr⟩;refine bp (λτ G'=>∃x,@w/\τ=[some (td m),@p,some (.bl b),some (.exc (yU rows m)),some .ff,some .ff,x,none]) ?_ ?_
  .intro N hN;simp![BS,yI,aS,aO,ah,ak,aA,aE,ends];refine .inl ?_;refine⟨m,rfl,λp hp=>?_⟩;simp![bF,ak];cases b with
   |true=>
    simp![yI,aS,aE,aX];refine .inr ?_;simp![sR,ak,ah,aA,aS,aE];refine⟨p,_,_,sb,rfl,az,hb,BL _ (.inr (@E)),az,rb As λG' l=>⟨l _ _ As,tab _ hc,hN _ _ ⟨_,.new hp,rfl⟩⟩⟩
   |false=>
    simp![yI,aS,aE,aX];refine .inr ?_;simp![sR,ak,ah,aA,aS,aE];refine⟨p,_,_,sd,rfl,az,hd,BL _ (@E),az,rd As λG' l=>⟨l _ _ As,tab _ hc,hN _ _ ⟨_,.new hp,rfl⟩⟩⟩
  .rintro _ G1 ⟨x,l,rfl⟩;exact bad _ _ _ hc l q
 .obtain⟨sd,hsd,rd⟩:=BP d f;obtain⟨sb,hsb,rb⟩:=Ho d f;cases b with
  |false=>
   refine bp (λτ G'=>∃x6 q as,HR G G' q as (Kq rows m)/\τ=[some (td m),@p,some (.bl false),some .ff,some (.ref q),some .ff,x6,none]) ?_ ?_
   .intro N hN;simp![BS,yI,aS,aO,ah,ak,aA,aE,ends];refine .inl ?_;refine⟨m,rfl,λp hp=>?_⟩;simp![bF,ak,yI,aS,aE,aX];refine .inl ?_;simp![cW,ak,ah,b5,aA];exact⟨p,_,_,sd,rfl,az,hsd,BL _ (@E),cF (rd az λx as G' hr=>hN _ _ ⟨_,x,as,qu hr (.new hp),rfl⟩)⟩
   .rintro _ G1 ⟨x6,q',as,hr,rfl⟩;simp![bF,rq,ak,EA,bc,b5,bJ,ah,aO,aA,dC,ends,aX,aS,aE,cg];exact⟨@c,λp hp=>⟨@c,KP hr hp q⟩⟩
  |true=>
   refine bp (λτ G'=>∃x6 m' y,Bk rows m m'/\@w/\zH G' y m'/\τ=[some (td m),@p,some (.bl true),some .ff,some .ff,some (.ref y),x6,none]) ?_ ?_
   .intro N hN;simp![BS,yI,aS,aO,ah,ak,aA,aE,ends];refine .inl ?_;refine⟨m,rfl,λp hp=>?_⟩;simp![bF,ak,yI,aS,aE,aX];refine .inl ?_;simp![cW,ak,ah,aA];exact⟨p,_,_,sb,rfl,az,hsb,BL _ (.inr (@E)),rb az λm' x G' bk l hx hg=>hN _ _ ⟨_,m',x,bk,(cO.new hp).trans l,hg,rfl⟩⟩
   .rintro _ G1 ⟨x6,m',y,bk,l1,gy,rfl⟩;obtain⟨f',e'⟩:=Te d f bk;obtain⟨sd',abg,A6⟩:=BP (Jb d f) f';simp![bF,rq,ak,EA,bc,b5,bJ,ah,aO,aA,dC,ends,aX,aS,cW,aE,cg];refine⟨y,_,_,sd',rfl,gy,abg,BL _ (@E),?_⟩;refine⟨m,rfl,λp hp=>⟨p,_,_,sd,rfl,az,hsd,BL _ (@E),cF (rd az λx as G2 hr=>?_)⟩⟩;have l2:=cO.new (o:=ob m) hp;refine HR.fz hr (A6 (l2 _ _ gy) λx2 as2 G3 hr3=>?_);rw[e'] at hr3;exact⟨@c,λp4 SG=>⟨@c,KP (qu hr3 (l1.trans l2)) SG q⟩⟩
end Ln
namespace Ln
open K2.P
open K2.Mo hiding bW cA cL
open K2.lF (HR gw)
open K2.C7 (uj Kq Jy Jz)
open K2.Nb (cx fE pz mq)
open K2.Lo (fD)
open K2.Tr (kz)
theorem Hr{α:Type}(f:α->D)(xs:@H)(i)(h1:-(xs.length:Int)<=i)(h2:i<xs.length):∃x∈xs,mH (xs.map f) i=some (f x):=by
 by_cases h:0<=i
 .refine⟨xs[i.toNat]'(@e),vc _,?_⟩;rw[eY _ h (by rw[ax];exact h2),cP]
 .refine⟨xs[(i+xs.length).toNat]'(@e),vc _,?_⟩;unfold mH HY;simp only[ax];rw[if_neg (@e),if_pos (@e)];simp;exact⟨_,bo (@e),rfl⟩
theorem Bz(d:@J)(h:n∉@y):∀p∈rows.flatten,p.a≠n:=λp hp e=>h (by
 rcases d.way p hp with w |w
 .exact d4.mpr ⟨p,hp,w,e⟩
 .exact d4.mpr ⟨_,d.ue p hp,by show 1-p.b=0;lia,e⟩)
theorem Eu    (h:Kg rows ns b=""):(∀n∈ns,n∈@y)/\b=true:=by
 unfold Kg at h;split at h
 .rename_i ha;cases b with
  |true=>exact⟨λn hn=>by have:=List.all_eq_true.mp ha n hn;simpa using this,rfl⟩
  |false=>exact absurd h (@W)
 .exact absurd h (@W)
theorem P0   (d:@J) (ok:To m) (h:yU rows m=""):uj rows m:=by
 have tw:=Ts.twice d;cases m with
 |un n=>
  obtain⟨hn,hb⟩:=Eu h;have hn:=hn n @k;refine Jy d (yw hn) ?_;have h0:=uO d hn (@E);have h1:=uO d hn (.inr rfl);unfold unb at hb;rw[dQ,decide_eq_true_iff,decide_eq_true_iff] at hb;rcases hb with hb |hb
  .rw[hb] at h0;exact .inl h0
  .rw[hb] at h1;exact .inr h1
 |pa a b=>
  obtain⟨hn,hb⟩:=Eu h;refine Jz d (pan d (hn a @k) (hn b @k)) (λe=>?_) hb;subst e;unfold Yc IQ at hb;simp at hb
 |sl a b c t=>
  obtain⟨hn,hb⟩:=Eu h;exact⟨⟨d,yw (hn a @k),yw (hn b @k),yw (hn c @k),ok⟩,hb⟩
 |cu n s f k=>
  have h:Of rows n s="":=h;unfold Of at h;split at h
  .exact absurd h (@W)
  split at h
  .exact absurd h (@W)
  split at h
  .rename_i h1 h2 h3;exact⟨⟨d,@e,h3,Bz d h2⟩,ok⟩
  .exact absurd h (@W)
 |la a b o u t k=>
  have h:Oe rows a b o u k="":=h;unfold Oe at h;split at h
  .exact absurd h (@W)
  split at h
  .exact absurd h (@W)
  split at h
  .exact absurd h (@W)
  split at h
  .rename_i h1 h2 h3 h4;rw[not_or,not_or] at h2;rw[not_or] at h3;exact⟨d,@e,h2.2.2,Bz d h2.1,Bz d h2.2.1,Classical.not_not.mp h3.1,h4,h3.2,ok.1,ok.2⟩
  .exact absurd h (@W)
noncomputable def W7(w:Int):List T2:=[⟨w,0⟩,⟨w,1⟩,⟨0,2⟩,⟨1,2⟩,⟨2,2⟩,⟨3,2⟩]
noncomputable def XE(x y:Int):List T2:=[⟨x,0⟩,⟨x,1⟩,⟨y,0⟩,⟨y,1⟩]
def rZ:da :=
 (aU (aS (aO fE (ah @g aA)) (aE 2))
 (aU (aS (gJ nz (ah @l aA)) (aE 3))
 (aU (c4 (lN (dC (.int 3))) (aE 4) (bw (iZ pY du (ak 3) (ah (aO kz (ah (ak 3) (ah (aO cx (ah @d (ah (aG iK (dC (.int 3)) (ak 4)) aA))) aA))) aA))))
 (aU (aS (cg aA) (aE 5))
 (aU (c4 (lN (dC (.int 3))) (aE 4) (bw (iZ pY du (ak 5) (ah (aG cK (ak 3) (aG jJ (aO cx (ah @d (ah (aG iK (dC (.int 6)) (ak 4)) aA))) (gJ iL (ah (ak 3) aA)))) aA))))
 (aU (aS (aO cx (ah @d (ah @N aA))) (aE 6))
 (aU (aS (aG CA @s (aG ud @N (aG jJ (aG wM (ak 6) (dC (.int 5))) @N))) (aE 7))
 (aU (aS (lT (ak 5) bU (gW @N)) (MQ (ez (aE 8) (ez (aE 9) lh))))
 (aU (aS (aG iK (aO fD (ah @g aA)) (cg (ah (bJ (ah (aG cK (ak 3) (rq vi @s)) (ah @C aA))) (ah (bJ (ah (aG cK (ak 3) (rq vi @s)) (ah @s aA))) (ah (bJ (ah @C (ah @N aA))) (ah (bJ (ah @s (ah @N aA))) (ah (bJ (ah @N (ah @N aA))) (ah (bJ (ah (dC (.int 3)) (ah @N aA))) aA)))))))) (aE 10))
 (aU (aS (aG cK (ak 10) (aG jJ (aO cx (ah @d (ah (dC (.int 9)) aA))) (gJ iL (ah (ak 10) aA)))) (aE 11))
 (aU (aS (aG iK (ak 10) (cg (ah (bJ (ah (ak 8) (ah @C aA))) (ah (bJ (ah (ak 8) (ah @s aA))) (ah (bJ (ah (ak 9) (ah @C aA))) (ah (bJ (ah (ak 9) (ah @s aA))) aA)))))) (aE 10))
 (aU (aS (aG cK (ak 10) (aG CA (rq vi @s) (aG jJ (aO cx (ah @d (ah (dC (.int 10)) aA))) (gJ iL (ah (ak 10) aA))))) (aE 12))
 (aU (bF (bX (aG @G (aG jJ (ak 6) (dC (.int 5))) @C)) (bc (b5 (bJ (ah (dC (.str "uncurl")) (ah (ak 8) aA))))) aX)
 (aU (bF (bX (aG @G (aG jJ (ak 6) (dC (.int 5))) @s)) (bc (b5 (bJ (ah (dC (.str "curl")) (ah (ak 8) (ah (ak 11) (ah (aG jJ (aG wM (ak 6) (dC (.int 10))) @N) (ah (ak 7) aA)))))))) aX)
 (aU (bF (bX (aG @G (aG jJ (ak 6) (dC (.int 5))) @N)) (bc (b5 (bJ (ah (dC (.str "part")) (ah (ak 8) (ah (ak 9) aA)))))) aX)
 (aU (bF (bX (aG @G (aG jJ (ak 6) (dC (.int 5))) (dC (.int 3)))) (bc (b5 (bJ (ah (dC (.str "lay")) (ah (ak 8) (ah (ak 9) (ah (ak 11) (ah (ak 12) (ah (aG jJ (aG wM (ak 6) (dC (.int 10))) @N) (ah (ak 7) aA)))))))))) aX)
 (bc (b5 (bJ (ah (dC (.str "slide")) (ah (ak 8) (ah (ak 9) (ah (aG cK (ak 5) @N) (ah (ak 7) aA))))))))))))))))))))))))
def mP:di:=λds G Q _=>∃(ns:@I) (rows:Rows),ds=[.dR (@ad),@L]/\(@J/\ns.length<=63)/\∀m:tj,To m->Q (td m) G
theorem B7(ds)(G)(Q)(h:mP ds G Q @f):rZ (@f) @q (aJ 13 ds) G:=by
 obtain⟨ns,rows,rfl,⟨d,vt⟩,q⟩:=h;have d24:=d.zm;have d3:=d.str;have onl:=mq rows.flatten;unfold rZ;simp only[↓bT,aS,aO,ah,ak,aJ,↓av,↓aF,↓ai,↓aq,aN,↓aw,↓ay,↓af,↓ae,aA,aE,gJ,↓ao,↓aj,ends];refine⟨rows,rfl,(show rows.flatten.length<=500 by lia),?_⟩;simp only;refine zu (IsL.enc _) (@e) λp3 f3=>?_;refine bp (λτ G'=>∃(cf:@I) (a4:Option D),3<=cf.length/\cf.length<=30/\@w/\G' p3=some (.lst (cf.map enc))/\τ=[some (.dR (@ad)),@p,some (enc (pz rows.flatten)),some (.ref p3),a4,none,none,none,none,none,none,none,none]) ?_ ?_
 .intro N hN;simp![c4,dC,↓dI];refine⟨@c,@c,?_⟩;rw[show(fe 0 (Int.toNat 3))=(dG 3).map λi:Nat=>D.int (i:Int) from rfl];refine cT (xs:=dG 3) (f:=λi:Nat=>D.int (i:Int)) (λks τ G'=>∃(cf:@I) (a4:Option D),cf.length=(@y).length+ks.length/\@w/\G' p3=some (.lst (cf.map enc))/\τ=[some (.dR (@ad)),@p,some (enc (pz rows.flatten)),some (.ref p3),a4,none,none,none,none,none,none,none,none]) ⟨@y,_,rfl,.new f3,az,rfl⟩ @Y ?_ ?_
  .rintro ks w post τ G' N2 e ⟨cf,a4,hl,l,g3,rfl⟩ nP;have hks:ks.length<3:=by have:=congrArg cU e;simp at this;lia
   have hnl:(@y).length<=24:=by rw[<-wQ];lia
   simp![aE,bw,iZ,ak,g3,ah,aO,aG,dC,aA];refine⟨ns,_,rfl,@e,?_⟩;refine⟨_,cf,_,rfl,.ref g3,@e,λm _=>?_⟩;simp only[g3];refine⟨qY (by rw[ax];lia),nP _ _ ⟨cf++[m],_,by simp;lia,l.put f3,?_,rfl⟩⟩;rw[az,aH];rfl
  .rintro τ G' ⟨cf,a4,hl,l,g3,rfl⟩;have hnl:(@y).length<=24:=by rw[<-wQ];lia
   rw[c6] at hl;exact hN _ _ ⟨cf,_,@e,@e,l,g3,rfl⟩
 rintro _ G1 ⟨cf,a4,TY,oq,l1,g3,rfl⟩;simp only[↓bT,aS,cg,aA,↓aq,aE,↓ao,↓aj];refine⟨@c,λp5 f5=>?_⟩;have n35:p3≠p5:=λe=>by rw[<-e,g3] at f5;cases f5
 have f5':G p5=none:=l1.free f5;refine bp (λτ G'=>∃(x y z:Int) (a4:Option D),@w/\G' p3=some (.lst (cf.map enc))/\G' p5=some (.lst [.int x,.int y,.int z])/\τ=[some (.dR (@ad)),@p,some (enc (pz rows.flatten)),some (.ref p3),a4,some (.ref p5),none,none,none,none,none,none,none]) ?_ ?_
 .intro N hN;simp![c4,dC,↓dI];refine⟨@c,@c,?_⟩;rw[show(fe 0 (Int.toNat 3))=(dG 3).map λi:Nat=>D.int (i:Int) from rfl];refine cT (xs:=dG 3) (f:=λi:Nat=>D.int (i:Int)) (λks τ G'=>∃(xs:@I) (a4:Option D),xs.length=ks.length/\@w/\G' p3=some (.lst (cf.map enc))/\G' p5=some (.lst (xs.map D.int))/\τ=[some (.dR (@ad)),@p,some (enc (pz rows.flatten)),some (.ref p3),a4,some (.ref p5),none,none,none,none,none,none,none]) ⟨[],_,rfl,l1.trans (.new f5),by rw[dm n35];exact g3,az,rfl⟩ @Y ?_ ?_
  .rintro ks w post τ G' N2 e ⟨xs,a4,hl,l,g3,g5,rfl⟩ nP;have hks:ks.length<3:=by have:=congrArg cU e;simp at this;lia
   simp![aE,bw,iZ,ak,g5,ah,aG,aO,dC,aA,gJ];refine⟨ns,_,rfl,@e,d8 (.ref g3) ?_⟩;simp only[↓cV,ax];refine⟨@e,?_⟩;have k1:0<=gw ns (6+(w:Int)) % (cf.length:Int):=qf _ (@e);have k2:gw ns (6+(w:Int)) % (cf.length:Int)<cf.length:=lU _ (@e);obtain⟨m,_,hm⟩:=Hr D.int cf _ (@e) k2;refine dS (.ref g3) hm ?_;simp only[g5];refine⟨qY (by rw[ax];lia),nP _ _ ⟨xs++[m],_,by simp;lia,l.put f5',by rw[dm n35];exact g3,?_,rfl⟩⟩;rw[az,aH];rfl
  .rintro τ G' ⟨xs,a4,hl,l,g3,g5,rfl⟩;rw[c6] at hl
   match xs,hl,g5 with
   |[x,y,z],_,g5=>exact hN _ _ ⟨x,y,z,_,l,g3,g5,rfl⟩
 clear g3 l1 a4;rintro _ G1 ⟨x,y,z,a4,l1,g3,g5,rfl⟩;simp![aS,aO,ah,ak,dC,aA,aE,aG,lT,bU];refine⟨ns,2,rfl,@c,@c,@c,@c,.inl ⟨@c,@c⟩,?_⟩;generalize gw ns 2=bits;refine lW (.ref g5) λp6 f6=>?_;have l6:=cO.new (o:=.lst (cut [D.int x,D.int y,D.int z] none (some 2))) f6;have g36:=l6 _ _ g3;have g56:=l6 _ _ g5;have L6:=l1.trans l6;have g66:ck G1 p6 (.lst (cut [D.int x,D.int y,D.int z] none (some 2))) p6=some (.lst [.int x,.int y]):=az;generalize ck G1 p6 (.lst (cut [D.int x,D.int y,D.int z] none (some 2)))=G2 at *;simp only[MQ,jx (.ref g66),ez,aE,lh,↓bT,aS,aG,aO,ah,ak,↓ao,↓aj,↓af,↓ae,aA,cg,bJ,rq,dC,↓fx,↓ai,↓aq,gJ];refine⟨rows,rfl,⟨@e,@e⟩,?_⟩;obtain⟨w,_,hw⟩:=Hr D.int cf (-1) (@e) (@e);have sl:=AV rows;refine dS (.ref g36) hw ⟨@c,dS (.ref g36) hw ⟨@c,@c,@c,@c,@c,@c,λp7 f7=>?_⟩⟩;have l7:=cO.new (o:=.lst [D.tup [.int w,.int 0],D.tup [.int w,.int 1],D.tup [.int 0,.int 2],D.tup [.int 1,.int 2],D.tup [.int 2,.int 2],D.tup [.int 3,.int 2]]) f7;refine qp (IsL.enc (bz rows 0)) (.ref az) (Cn (by rw[ax];show _+6<=1000;lia)) λp8 f8=>?_;have l8:=cO.new (o:=.lst ((bz rows 0++W7 w).map (enc:T2->D))) f8;have e8:((bz rows 0).map (enc:T2->D))++[D.tup [.int w,.int 0],D.tup [.int w,.int 1],D.tup [.int 0,.int 2],D.tup [.int 1,.int 2],D.tup [.int 2,.int 2],D.tup [.int 3,.int 2]]=(bz rows 0++W7 w).map enc:=by rw[aH];rfl
 rw[e8];have hS:(bz rows 0++W7 w).length<=60/\1<=(bz rows 0++W7 w).length:=by rw[aM,show(W7 w).length=6 from rfl];lia
 generalize bz rows 0++W7 w=S at *;have L8:=L6.trans (l7.trans l8);refine⟨ns,9,rfl,@c,d8 (.ref az) ?_⟩;simp only[↓cV,ax,↓jv];refine⟨@e,?_⟩;have k1:0<=gw ns 9 % (S.length:Int):=qf _ (@e);have k2:gw ns 9 % (S.length:Int)<S.length:=lU _ (@e);obtain⟨o,_,ho⟩:=Hr (enc:T2->D) S _ (@e) k2;refine dS (.ref az) ho ⟨@c,@c,@c,@c,@c,λp9 f9=>?_⟩;have l9:=cO.new (o:=.lst [D.tup [.int x,.int 0],D.tup [.int x,.int 1],D.tup [.int y,.int 0],D.tup [.int y,.int 1]]) f9;have g89:=l9 _ _ (az (G:=ck G2 p7 (.lst [D.tup [.int w,.int 0],D.tup [.int w,.int 1],D.tup [.int 0,.int 2],D.tup [.int 1,.int 2],D.tup [.int 2,.int 2],D.tup [.int 3,.int 2]])) (a:=p8) (o:=.lst (S.map (enc:T2->D))));have L9:=L8.trans l9;have g59:=l9 _ _ ((l7.trans l8) _ _ g56);have g99:=az (G:=ck (ck G2 p7 (.lst [D.tup [.int w,.int 0],D.tup [.int w,.int 1],D.tup [.int 0,.int 2],D.tup [.int 1,.int 2],D.tup [.int 2,.int 2],D.tup [.int 3,.int 2]])) p8 (.lst (S.map (enc:T2->D)))) (a:=p9) (o:=.lst [D.tup [.int x,.int 0],D.tup [.int x,.int 1],D.tup [.int y,.int 0],D.tup [.int y,.int 1]]);clear l9;generalize ck (ck (ck G2 p7 _) p8 _) p9 _=G9 at *;refine qp (.ref g89) (.ref g99) (Cn (by rw[ax];show _+4<=1000;lia)) λpa fa=>?_;have ea:(S.map (enc:T2->D))++[D.tup [.int x,.int 0],D.tup [.int x,.int 1],D.tup [.int y,.int 0],D.tup [.int y,.int 1]]=(S++XE x y).map enc:=by rw[aH];rfl
 rw[ea];have hS2:(S++XE x y).length<=64/\1<=(S++XE x y).length:=by rw[aM,show(XE x y).length=4 from rfl];lia
 generalize S++XE x y=S2 at *;have La:=L9.trans (cO.new (o:=.lst (S2.map (enc:T2->D))) fa);refine⟨ns,10,rfl,@c,d8 (.ref az) ?_⟩;simp only[↓cV,ax,↓iW];refine⟨@e,?_⟩;have j1:0<=gw ns 10 % (S2.length:Int):=qf _ (@e);have j2:gw ns 10 % (S2.length:Int)<S2.length:=lU _ (@e);obtain⟨u,_,hu⟩:=Hr (enc:T2->D) S2 (-1-gw ns 10 % (S2.length:Int)) (@e) (@e);refine dS (.ref az) hu ?_;have q:∀m:tj,To m->D5 (ck G9 pa (.lst (S2.map (enc:T2->D)))) (td m) Q:=λm hm=>jb La (q m hm);have g5a:=(cO.new (o:=.lst (S2.map (enc:T2->D))) fa) _ _ g59;generalize ck G9 pa (.lst (S2.map (enc:T2->D)))=Ga at *;have hsg:1-2*(bits / 5 % 2)=1\/1-2*(bits / 5 % 2)=-1:=@e
 generalize 1-2*(bits / 5 % 2)=sg at *;have Y2:bits / 10 % 2=0\/bits / 10 % 2=1:=@e
 refine⟨@c,?_⟩;simp only[dC,bc,b5,bJ,ah,ak,↓af,↓ae,aA,↓ai,↓aq,aX];refine b7 (α:=Int) (x:=bits % 5) (y:=0) (@c) ?_;by_cases b0:bits % 5=0
 .simp only[↓ag,b0,decide_true,↓aK,↓if_false];exact⟨@c,q (.un x) trivial⟩
 simp only[↓ag,b0,decide_false,↓aI,↓if_false];refine⟨@c,?_⟩;simp only[dC,bc,b5,bJ,ah,ak,↓af,↓ae,aG,↓iE,↓cV,aA,↓ai,↓aq,aX];refine b7 (α:=Int) (x:=bits % 5) (y:=1) (@c) ?_;by_cases b1:bits % 5=1
 .simp only[↓ag,b1,decide_true,↓aK,↓if_false];exact⟨@c,@c,@c,@c,q (.cu x o (bits / 10 % 2) sg) ⟨Y2,hsg⟩⟩
 simp only[↓ag,b1,decide_false,↓aI,↓if_false];refine⟨@c,?_⟩;simp only[dC,bc,b5,bJ,ah,ak,↓af,↓ae,aA,↓ai,↓aq,aX];refine b7 (α:=Int) (x:=bits % 5) (y:=2) (@c) ?_;by_cases b2:bits % 5=2
 .simp only[↓ag,b2,decide_true,↓aK,↓if_false];exact⟨@c,q (.pa x y) trivial⟩
 simp only[↓ag,b2,decide_false,↓aI,↓if_false];refine⟨@c,?_⟩;simp![dC,bc,b5,bJ,ah,ak,aG,aA,aX];refine b7 (α:=Int) (x:=bits % 5) (y:=3) (@c) ?_;by_cases b3:bits % 5=3
 .simp![b3,decide_true];exact⟨@c,@c,@c,@c,q (.la x y o u (bits / 10 % 2) sg) ⟨Y2,hsg⟩⟩
 simp![b3,decide_false];simp only[show HU (D.bl false) Ga=some false from rfl,ag,if_false];refine dS (ds:=[.int x,.int y,.int z]) (.ref g5a) at2 ?_;exact⟨@c,q (.sl x y z sg) hsg⟩
end Ln
namespace Ln
open K2.P
open K2.Mo hiding bW cA cL
open K2.nQ (bR)
open K2.lF (HR gw)
open K2.C7 (uj Kq jS lI)
open K2.D3 (dq)
open K2.Nb (gN cx pz mq EG tU)
open K2.Tr (OU)
open K2.K3 (DF)
theorem Lh:cInt [.bl b] G Q=Q (.int (if b=true then 1 else 0)) G:=rfl
def Td (rows:Rows) (t:D) (c:Str):Prop:=(∃w as,t=.tup (.str w::as)/\w∈W8/\c="NoMove")\/∃m,t=td m/\To m/\c=yU rows m
def Og:da :=
 (aU (Qb 1 (aS (eK 1 [] (lN (aG iK @s (aG jJ (aO cx (ah @d (ah @C aA))) (dC (.int 3))))) (aE 0) none (cg aA)) (aE 1)))
 (aU (c4 (lN (aG jJ (aO cx (ah @d (ah @s aA))) (dC (.int 13)))) (aE 2) (aS (b5 (aO gN (ah @g (ah (aO cx (ah @d (ah (aG iK (dC (.int 12)) @l) aA))) aA)))) (aE 1)))
 (aU (aS (aO mP (ah @d (ah @g aA))) (aE 3))
 (aU (aS (aO oH (ah @g (ah (ak 3) aA))) (aE 4))
 (aU (aS (aG jJ (aO cx (ah @d (ah (dC (.int 11)) aA))) (dC (.int 40))) (aE 5))
 (aU (bF (bX (aG Va (ak 5) (dC (.int 34)))) (aU (aS (cg (ah (dC (.str "")) (ah (dC (.str "Curl")) (ah (dC (.str "uncurled")) (ah (dC (.str "parts")) (ah (dC (.str "sli")) aA)))))) (aE 6))
 (aU (aS (aG iK (bJ (ah (aG cK (ak 6) (aG CA (ak 5) (dC (.int 35)))) aA)) (lT (ak 3) (gW @s) bU)) (aE 3))
 (aS (dC (.str "NoMove")) (aE 4)))) aX)
 (aU (Qb 7 (aS (eK 1 [] (ig @g) (aE 0) none (gJ oA (ah @d aA))) (aE 7)))
 (aU (c4 (lN (dC (.int 4))) (aE 8) (aU (aS (aO kC (ah (ak 3) (ah (ak 7) (ah (aG @G (aG jJ (ak 8) @N) @s) aA)))) (kI (ez (aE 9) (ez (aE 10) lh))))
 (aU (bF (sT (bX (aG (ic true) (ak 9) (eK 1 [4] (lN (gJ cInt (ah (aG (ic true) (ak 4) (dC (.str ""))) aA))) (aE 0) none @g))) (bX (aG (ic true) (ak 7) @g))) (bc (b5 (dC (.bl false)))) aX)
 (aU (bF (qA (bX (aG @G (ak 4) (dC (.str "")))) (qA (bX (aG @G (aG jJ (ak 8) @N) @C)) (iG (bX (aO jS (ah (ak 10) (ah (aO lI (ah @g (ah (ak 3) aA))) aA))))))) (bc (b5 (dC (.bl false)))) aX)
 (bF (qA (bX (aG @G (ak 4) (dC (.str "")))) (qA (bX (aG @G (aG jJ (ak 8) @N) @s)) (iG (bX (aO jS (ah (ak 10) (ah (aO dq (ah @g aA)) aA))))))) (bc (b5 (dC (.bl false)))) aX)))))
 (bc (b5 (dC (.bl true))))))))))))
theorem WX(ds)(G)(Q)(h:Dk ds G Q @f):Og (@f) @q (aJ 11 ds) G:=by
 obtain⟨ns,rfl,hn,g0,q⟩:=h;have cell:∀(k:Int) (G:Gp) (Q:DK),0<=k->Q (.int (gw ns k)) G->cx [.dR (@ad),.int k] G Q @f:=λk G Q hk h=>⟨ns,k,rfl,hk,h⟩;unfold Og;refine bp (λτ G'=>G=G'/\∃n:Nat,1<=n/\n<=3/\τ=[some (.dR (@ad)),some (enc (aN n ([]:@B))),none,none,none,none,none,none,none,none,none]) ?_ ?_
 .intro N hN;rw[Hk];simp![aS,eK,aG,dC,aO,ah,ak,aJ,aN,aA,aE];refine cell 0 _ _ (@c) ?_;simp only[↓cV,↓dN,↓dI];have k1:1<=1+gw ns 0 % 3:=@e
  have k3:1+gw ns 0 % 3<=3:=@e
  refine⟨@c,?_⟩;generalize 1+gw ns 0 % 3=k at *;refine⟨@e,@e,?_⟩;refine EG k1 k3 λG' p as hr=>?_;exact hr.fz (hN _ _ ⟨rfl,k.toNat,@e,@e,rfl⟩)
 rintro _ _ ⟨rfl,n,n1,n3,rfl⟩;refine bp (λτ G'=>G=G'/\∃(rows:Rows) (a:Option D),@J/\τ=[some (.dR (@ad)),@p,a,none,none,none,none,none,none,none,none]) ?_ ?_
 .intro N hN;simp![c4,aG,aO,ah,ak,dC,aA,ends];refine cell 1 _ _ (@c) ?_;simp only[↓cV,↓dI];have j1:0<=gw ns 1 % 13:=@e
  have j2:gw ns 1 % 13<=12:=@e
  refine⟨@c,?_⟩;generalize gw ns 1 % 13=k at *;refine⟨@e,@e,?_⟩;unfold fe;refine cT (xs:=dG k.toNat) (λpre τ G'=>G=G'/\∃(rows:Rows) (a:Option D),(DF rows.flatten/\rows.flatten.length=2*pre.length/\rows.length=n)/\τ=[some (.dR (@ad)),@p,a,none,none,none,none,none,none,none,none]) ⟨rfl,aN n [],none,⟨?_,?_,by simp⟩,rfl⟩ @Y ?_ ?_
  .have:(aN n ([]:@B)).flatten=[]:=by simp
   rw[this];exact⟨i7,(λp h=>by cases h),(λp h=>by cases h),(λp h=>by cases h)⟩
  .simp
  .rintro pre x post τ G' N2 e ⟨rfl,rows,a,⟨df,fl,rn⟩,rfl⟩ nP;have yC:pre.length<12:=by
    have:=congrArg cU e;rw[c6,aM,ai] at this;lia
   simp![aE,aS,b5,aO,ah,ak,aG,dC,aA];refine cell _ _ _ (@e) ?_;refine⟨rows,_,rfl,⟨@e,@e,@e⟩,λrQ m hd h1 h2 h3 h4=>?_⟩;refine cF (nP _ _ ⟨rfl,rQ,_,⟨(df.add (OU df h3) h4).perm h2,?_,@e⟩,rfl⟩);have:=h2.length_eq;rw[ai,ai] at this;rw[aM,dO];lia
  .rintro τ G' ⟨rfl,rows,a,⟨df,fl,rn⟩,rfl⟩;rw[c6] at fl;exact hN _ _ ⟨rfl,rows,a,⟨df.nd,df.way,df.hand,df.ue,@e,@e⟩,rfl⟩
 rintro _ _ ⟨rfl,rows,a2,d,rfl⟩;have d24:=d.zm;have d3:=d.str;obtain⟨EO,Aw,zk⟩:=gV d;refine bp (λτ G'=>G=G'/\∃m,To m/\τ=[some (.dR (@ad)),@p,a2,some (td m),none,none,none,none,none,none,none]) ?_ ?_
 .intro N hN;simp![aS,aO,ah,ak,aA,aE];exact⟨ns,rows,rfl,⟨d,@e⟩,λm hm=>hN _ _ ⟨rfl,m,hm,rfl⟩⟩
 rintro _ _ ⟨rfl,m,ok,rfl⟩;refine bp (λτ G'=>G=G'/\τ=[some (.dR (@ad)),@p,a2,some (td m),some (.str (yU rows m)),none,none,none,none,none,none]) ?_ ?_
 .intro N hN;simp![aS,aO,ah,ak,aA,aE];exact⟨rows,m,rfl,⟨d,ok⟩,hN _ _ @R⟩
 rintro _ _ ⟨rfl,rfl⟩;refine bp (λτ G'=>G=G'/\∃k:Int,0<=k/\k<40/\τ=[some (.dR (@ad)),@p,a2,some (td m),some (.str (yU rows m)),some (.int k),none,none,none,none,none]) ?_ ?_
 .intro N hN;simp![aS,aG,aO,ah,ak,dC,aA,aE];refine cell _ _ _ (@c) ?_;simp only[↓cV];exact⟨@c,hN _ _ ⟨rfl,_,@e,@e,rfl⟩⟩
 rintro _ _ ⟨rfl,k,k0,k1,rfl⟩;refine bp (λτ G'=>@w/\∃t c a6,Td rows t c/\τ=[some (.dR (@ad)),@p,a2,some t,some (.str c),some (.int k),a6,none,none,none,none]) ?_ ?_
 .intro N hN;simp![bF,aG,ak,dC,aS,cg,ah,aA,aE,bJ,lT,bU,aX];by_cases hk:k>34
  .simp only[hk,decide_true,↓if_true];refine⟨@c,λp hp=>?_⟩;obtain⟨w,hw,e⟩:=Hr D.str W8 (k-35) (by show -(5:Int)<=k-35;lia) (by show k-35<(5:Int);lia);refine dS (ds:=W8.map D.str) (.ref az) e ⟨@c,?_⟩;unfold td;rw[fH,Qc];refine⟨λz=>?_,by simp,Cn (by have:=WO m;simp;lia),hN _ _ ⟨.new hp,_,_,_,.inl ⟨w,ar m,rfl,hw,rfl⟩,rfl⟩⟩;have:=z.1;unfold jl at this;simp at this
  .simp![hk,decide_false];exact hN _ _ ⟨.refl _,_,_,_,.inr ⟨m,rfl,ok,rfl⟩,rfl⟩
 rintro _ G1 ⟨l1,t,c,a6,ht,rfl⟩;refine bp (λτ G'=>G1=G'/\τ=[some (.dR (@ad)),@p,a2,some t,some (.str c),some (.int k),a6,@p,none,none,none]) ?_ ?_
 .intro N hN;rw[Hk];simp![aS,eK,ak,aE];exact tU (@e) λG' p as hr=>hr.fz (hN _ _ @R)
 rintro _ _ ⟨rfl,rfl⟩;have Xe:∀v∈six,v.cps.all (·<0x110000)=true/\(v == ("":Str))=false:=@W
 have asked:(c∈six/\∀(b:Bool) (G:Gp) (Q:DK),Q (.tup [.dR [.str c],.ff]) G->kC [t,@L,.bl b] G Q @f) \/
   (c=""/\∃m,t=td m/\uj rows m/\∀(b:Bool) (G:Gp) (Q:DK),Q (.tup [.dR [],enc (if b=true then rows.map bR else Kq rows m)]) G->kC [t,@L,.bl b] G Q @f):=by
  rcases ht with ⟨w,as,rfl,hw,rfl⟩ |⟨m,rfl,ok,rfl⟩
  .exact .inl ⟨@W,λb G Q q=>⟨_,rows,b,rfl,d,.inl ⟨w,as,rfl,hw,q⟩⟩⟩
  .by_cases hr:yU rows m=""
   .exact .inr ⟨hr,m,rfl,P0 d ok hr,λb G Q q=>⟨_,rows,b,rfl,d,.inr ⟨m,rfl,ok,.inr ⟨P0 d ok hr,q⟩⟩⟩⟩
   .exact .inl ⟨Od hr,λb G Q q=>⟨_,rows,b,rfl,d,.inr ⟨m,rfl,ok,.inl ⟨hr,q⟩⟩⟩⟩
 refine bp (λτ G'=>True) ?_ ?_
 .intro N hN;simp![c4,dC,↓dI,ends];refine⟨@c,@c,?_⟩;rw[show(fe 0 (Int.toNat 4))=(dG 4).map λi:Nat=>D.int (i:Int) from rfl];refine cT (xs:=dG 4) (f:=λi:Nat=>D.int (i:Int)) (λks τ G'=>∃a8 a9 aa,τ=[some (.dR (@ad)),@p,a2,some t,some (.str c),some (.int k),a6,@p,a8,a9,aa]) ⟨_,_,_,rfl⟩ @Y ?_ (λ_ _ _=>hN _ _ trivial);rintro ks i post τ G' N2 e ⟨a8,a9,aa,rfl⟩ nP;simp![aE,aS,aO,ah,ak,aG,dC,aA];refine⟨@c,b7 (α:=Int) (x:=(i:Int) % 2) (y:=1) (@c) ?_⟩;simp only[↓ag,↓if_false];rcases asked with ⟨hc,ask⟩ |⟨rfl,m,rfl,f,ask⟩
  .obtain⟨o1,o2⟩:=Xe c hc;have kO:∀{G:Gp} {Q:DK} {neg:Bool},Q (.bl neg) G->ic neg (.str c) (.str "") G Q:=λq=>uP q o2 o1;have sc:∀G:Gp,Sn G 7 (.str c) (.str c):=λG=>.str c o1;refine ask _ _ _ ?_;simp![kI,ez,aE,lh,bF,sT,aG,ak,eK,gJ,ah,dC,aA,bc,b5,aX,qA,iG,aO];refine kO ?_;simp only[Lh,↓reduceIte];simp only[↓dI];refine⟨@c,@c,@c,?_⟩;refine gX (f:=D.int) (xs:=[0]) (λpre acc τ G2=>G'=G2/\(∃a,τ=[a,some (.str c)])/\acc=pre.map λ_=>D.str c) ⟨rfl,⟨_,rfl⟩,rfl⟩ (λ_ _ _ _ _=>trivial) ?_ ?_
   .rintro pre x post acc τ G2 N3 e3 ⟨rfl,⟨a,rfl⟩,rfl⟩ vP;simp![aE,ak];exact vP _ _ _ ⟨rfl,⟨_,rfl⟩,by simp⟩
   rintro acc τ G2 ⟨rfl,_,rfl⟩ p hp;refine⟨_,_,.A7 (sc _) .Es,.ref az (.A7 (sc _) .Es),?_⟩;rw[show jf (.dR [.str c]) (.dR [.str c])=true by show((c == c)&&true)=true;simp];simp!;refine b7 (x:=rows) (y:=rows) (@c) ?_;simp![decide_true];refine kO ?_;ext d;refine kO ?_;ext d;exact nP _ _ ⟨_,_,_,rfl⟩
  .refine ask _ _ _ ?_;simp![kI,ez,aE,lh,bF,sT,aG,ak,eK,gJ,ah,dC,aA,bc,b5,aX,qA,iG,aO];refine DL ?_;simp only[Lh,aK,ag,if_false];simp only[↓dI];refine⟨@c,@c,@c,?_⟩;refine gX (f:=D.int) (xs:=[]) (λpre acc τ G2=>G'=G2/\acc=[]) @R (λ_ _ _ _ _=>trivial) ?_ ?_
   .rintro pre x post acc τ G2 N3 e3;cases pre<;>cases e3
   rintro acc τ G2 ⟨rfl,rfl⟩ p hp;refine⟨_,_,.Es,.ref az .Es,?_⟩;rw[show jf (.dR []) (.dR [])=true from rfl];simp!;refine b7 (x:=rows) (y:=rows) (@c) ?_;simp![decide_true];refine DL ?_;simp only[↓aC,↓aI,↓if_true];have d':=C7.Jb d f;obtain⟨z1,z2,z3⟩:=gV d';have sl:(rows.map bR).length<=500/\∀r∈rows.map bR,r.length<=500:=by
    have:=gV (d.ro (tm.b6 rows));exact⟨this.1,this.2.1⟩
   refine⟨@c,b7 (α:=Int) (x:=(i:Int) % 2) (y:=0) (@c) ?_⟩;by_cases hi:(i:Int) % 2=1
   .have hi0:¬ (i:Int) % 2=0:=@e
    simp![hi,decide_true];rw[if_neg (@c)];refine DL ?_;simp only[↓aC,↓aI,↓if_true];refine⟨@c,b7 (α:=Int) (x:=1) (y:=1) (@c) ?_⟩;simp![decide_true];refine⟨rows,rfl,⟨EO,Aw⟩,rows.map bR,rfl,sl,?_⟩;simp!;exact nP _ _ ⟨_,_,_,rfl⟩
   .have hi0:(i:Int) % 2=0:=@e
    simp![hi0,decide_true];refine⟨rows,m,rfl,⟨d,f⟩,Kq rows m,rfl,⟨z1,z2⟩,?_⟩;simp!;refine DL ?_;simp only[↓aC,↓aI,↓if_true];refine⟨@c,b7 (α:=Int) (x:=0) (y:=1) (@c) ?_⟩;ext d;exact nP _ _ ⟨_,_,_,rfl⟩
 .rintro τ G' _;simp only[bc,b5,dC,ends];exact cF (q _)
end Ln
end K2
end
namespace Fin
open PySem PySem.Spec PyProof.Rows L2 K2
open K2.D3 (fP B8 dq xQ)
open K2.Lo (lJ zC fD xH)
open K2.Tr (zw eV pT kz xO)
open K2.C7 (bW jT zA gz uZ kr xI ky xJ iD uY nT zx kq sX lI zB jS zy)
open K2.Ln
open K2.Nb (cx sZ ml xM fE xK nU zD gN sY)
open K2.K3 (gj)
open K2.Uj (gk xN)
open K2.tm (tH D0 bA sW)
open K2.Mo hiding bW
open K2.P
noncomputable abbrev nl:@n:=["ValueError","all","bool","enumerate","int","isinstance","len","list","min","range","sorted","tuple","zip"]
noncomputable abbrev fl:List (Str×Str):=[("Uncurl","name"),("Curl","name"),("Curl","spot"),("Curl","first"),("Curl","hand"),("Part","name"),("Part","second"),("Lay","name"),("Lay","second"),("Lay","over"),("Lay","under"),("Lay","turned"),("Lay","hand"),("Slide","name"),("Slide","second"),("Slide","third"),("Slide","turn")]
structure Al(K:aB):Prop where
 n:HG K nl
 F43:lx K "_law_cell_at" (top 43)
 F47:lx K "_law_free" (top 47)
 F46:lx K "_law_names" (top 46)
 F45:lx K "_law_mixed" (top 45)
 F48:lx K "_law_crossed" (top 48)
 F49:lx K "_law_spots" (top 49)
 F68:lx K "_law_told_by" (top 68)
 F50:lx K "_law_put" (top 50)
 F64:lx K "_law_due_of_new" (top 64)
 F55:lx K "_law_next" (top 55)
 F54:lx K "_law_hands" (top 54)
 F59:lx K "_law_beside" (top 59)
 F60:lx K "_law_parts" (top 60)
 F56:lx K "_law_pairs" (top 56)
 F57:lx K "_law_slides" (top 57)
 F65:lx K "_law_due_of" (top 65)
 F41:lx K "move_of" (top 41)
 F10:lx K "passings_of" (top 10)
 F13:lx K "names_of" (top 13)
 F26:lx K "refuse_unknown" (top 26)
 F27:lx K "refuse_unfit" (top 27)
 F19:lx K "neighbours" (top 19)
 F16:lx K "next_of" (top 16)
 F20:lx K "uncurl_fits" (top 20)
 F15:lx K "spots_on" (top 15)
 F17:lx K "string_of" (top 17)
 F31:lx K "spot_ahead" (top 31)
 F14:lx K "hand_of" (top 14)
 F28:lx K "refuse_new" (top 28)
 F11:lx K "seated" (top 11)
 F12:lx K "seated_rows" (top 12)
 F29:lx K "with_put" (top 29)
 F21:lx K "part_fits" (top 21)
 F32:lx K "first_in_turn" (top 32)
 F22:lx K "in_turn" (top 22)
 F23:lx K "slide_pairs" (top 23)
 F24:lx K "slide_fits" (top 24)
 F30:lx K "taken_out" (top 30)
 F33:lx K "with_changed" (top 33)
 F66:lx K "_law_classes" (top 66)
 F67:lx K "_law_asked" (top 67)
 F44:lx K "_law_whole" (top 44)
 F52:lx K "_law_wholes" (top 52)
 F53:lx K "_law_same" (top 53)
 F51:lx K "_law_begun" (top 51)
 F58:lx K "_law_slid" (top 58)
 F61:lx K "_law_laid" (top 61)
 F62:lx K "_law_without" (top 62)
 F63:lx K "_law_made" (top 63)
 pV:Tu K "Uncurl"
 FA:Tu K "Curl"
 yP:Tu K "Part"
 HI:Tu K "Lay"
 tY:Tu K "Slide"
 Qx:WY K "Uncurl"
 W0:WY K "Curl"
 WZ:WY K "Part"
 Zr:WY K "Lay"
 Tq:WY K "Slide"
 Zy:AE K "Uncurl" "__init__" "Uncurl.__init__" (x8 36 0)
 Zx:AE K "Curl" "__init__" "Curl.__init__" (x8 37 0)
 Zw:AE K "Part" "__init__" "Part.__init__" (x8 38 0)
 Zv:AE K "Lay" "__init__" "Lay.__init__" (x8 39 0)
 Zt:AE K "Slide" "__init__" "Slide.__init__" (x8 40 0)
 Uy:AE K "Uncurl" "refuse" "Uncurl.refuse" (x8 36 2)
 Uw:AE K "Uncurl" "back" "Uncurl.back" (x8 36 4)
 Uv:AE K "Curl" "done" "Curl.done" (x8 37 2)
 Uu:AE K "Curl" "back" "Curl.back" (x8 37 3)
 Ut:AE K "Part" "refuse" "Part.refuse" (x8 38 2)
 Ur:AE K "Part" "back" "Part.back" (x8 38 4)
 Zu:AE K "Lay" "passings" "Lay.passings" (x8 39 2)
 Uq:AE K "Lay" "done" "Lay.done" (x8 39 3)
 Up:AE K "Lay" "back" "Lay.back" (x8 39 4)
 Uo:AE K "Slide" "refuse" "Slide.refuse" (x8 40 2)
 Ul:AE K "Slide" "back" "Slide.back" (x8 40 4)
 Ux:AE K "Uncurl" "done" "Uncurl.done" (x8 36 3)
 Us:AE K "Part" "done" "Part.done" (x8 38 3)
 Um:AE K "Slide" "done" "Slide.done" (x8 40 3)
 l:Uk K fl
 pN:CsZ K "MOST_CROSSINGS" 12
 NN:Uh K "NoName"
 Q6:Uh K "NoFit"
 Lv:Uh K "TooMany"
 F4:Uh K "NameTaken"
 F3:Uh K "NoSpot"
 NO:Uh K "NoMove"
 i0:W3 K "NoName" @ae ["NoName"]
 i1:W3 K "NameTaken" @ae ["NameTaken"]
 i2:W3 K "NoSpot" @ae ["NoSpot"]
 i3:W3 K "TooMany" @ae ["TooMany"]
 i4:W3 K "NoFit" @ae ["NoFit"]
 i5:W3 K "NoMove" @ae ["NoMove"]
 v6:VeZ K @ae
 z7:ZA K "KnotError" @ae
section
seal FH PySem.binaryOp PySem.compareOp PySem.unaryOp ma ui dw rg CP Qw Hx AD Hy pS WR nG K2.Qm K2.cInt K2.iL K2.oA K2.Hn K2.nz K2.yI K2.qA K2.DS K2.aS K2.bh K2.aG K2.dC K2.gJ K2.aO K2.gG K2.kM K2.eK K2.ah K2.sU K2.bw K2.c4 K2.b5 K2.Qb K2.E9 K2.bF K2.E8 K2.qV K2.DR K2.cg K2.gv K2.cW K2.fW K2.iZ K2.dJ K2.aX K2.aA K2.bU K2.iG K2.K8 K2.sT K2.MX K2.gW K2.fV K2.bc K2.BU K2.aU K2.jg K2.lT K2.bX K2.BS K2.DQ K2.sR K2.bJ K2.rq K2.ak K2.E7 K2.ez K2.MQ K2.aE K2.lh K2.q4 K2.kI K2.Bw K2.lN K2.ig K2.Pq K2.du K2.tM K2.Bf K2.oI K2.tK K2.iK K2.ic K2.wM K2.Va K2.uN K2.EA K2.cK K2.X5 K2.jJ K2.ud K2.vi K2.CA
theorem cf(h:autoParam (ma X b t) Auk._auto_1):ma X b t:=h
theorem U0:ip ["_law_script","_law_drawing","_law_k","_law_told","_law_due","_law_odd","_law_words","_law_handed","_law_turn","_law_classes_here","_law_made_here"] ["_law_script"] (bK (top 69)):=scm
variable {V:Fw} (Y:zG V) (A:Al V.K)
include Y A
theorem sM:lG V 1 "_law_cell_at" ["_law_script","_law_k"] cx :=
 mf ["_law_script","_law_k"] Y A.n A.F43 sZ @v
theorem Ha:lG V 1 "_law_free" ["_law_names_here","_law_number"] nU :=
 mf ["_law_names_here","_law_number","_law_name"] Y A.n A.F47 zD @v
theorem qx:lG V 1 "_law_names" ["_law_drawing"] fE :=
 mf ["_law_drawing","_law_names_here","_law_row","_law_passing"] Y A.n A.F46 xK @v
theorem EV:lG V 1 "_law_mixed" ["_law_cell"] ml :=
 mf ["_law_cell"] Y A.n A.F45 xM @v
theorem BD:lG V 2 "_law_crossed" ["_law_drawing","_law_cell"] gN :=
 have:=Ha Y A;have:=qx Y A;have:=EV Y A;mf ["_law_drawing","_law_cell","_law_name","_law_rest","_law_hand","_law_made_here","_law_way","_law_row"] Y A.n A.F48 sY @v
theorem EW:lG V 1 "_law_free" ["_law_names_here","_law_number"] kz :=
 mf ["_law_names_here","_law_number","_law_name"] Y A.n A.F47 xO @v
theorem xm:lG V 1 "_law_spots" ["_law_drawing"] fD :=
 mf ["_law_drawing","_law_spots_here","_law_k","_law_passing"] Y A.n A.F49 xH @v
theorem BC:lG V 2 "_law_told_by" ["_law_script","_law_drawing"] mP :=
 have:=qx Y A;have:=EW Y A;have:=sM Y A;have:=xm Y A;mf ["_law_script","_law_drawing","_law_names_here","_law_pool","_law_k","_law_called","_law_bits","_law_sign","_law_one","_law_two","_law_spots_here","_law_over","_law_under"] Y A.n A.F68 B7 @v
theorem vC:lG V 1 "_law_put" ["_law_drawing","_law_spot","_law_passings"] fP :=
 mf ["_law_drawing","_law_spot","_law_passings","_law_made_here","_law_k","_law_row","_law_passing"] Y A.n A.F50 B8 @v
theorem xq:lG V 2 "_law_due_of_new" ["_law_drawing","_law_names_here","_law_told"] kA :=
 have:=xm Y A;have:=vC Y A;mf ["_law_drawing","_law_names_here","_law_told","_law_fresh","_law_laid_here"] Y A.n A.F64 xP @v
theorem GX:lG V 1 "_law_next" ["_law_drawing"] jT :=
 mf ["_law_drawing","_law_behind","_law_row","_law_k","_law_other"] Y A.n A.F55 zA @v
theorem xp:lG V 1 "_law_hands" ["_law_drawing"] gk :=
 mf ["_law_drawing","_law_hands_here","_law_row","_law_passing"] Y A.n A.F54 xN @v
theorem uU:lG V 1 "_law_beside" ["_law_behind","_law_one","_law_other"] gz :=
 mf ["_law_behind","_law_one","_law_other"] Y A.n A.F59 uZ @v
theorem EU:lG V 2 "_law_parts" ["_law_behind","_law_hands_here","_law_told"] kr :=
 have:=uU Y A;mf ["_law_behind","_law_hands_here","_law_told","_law_a","_law_b"] Y A.n A.F60 xI @v
theorem xn:lG V 1 "_law_pairs" ["_law_a","_law_b","_law_c"] ky :=
 mf ["_law_a","_law_b","_law_c"] Y A.n A.F56 xJ @v
theorem CF:lG V 2 "_law_slides" ["_law_behind","_law_hands_here","_law_told"] iD :=
 have:=xn Y A;mf ["_law_behind","_law_hands_here","_law_told","_law_a","_law_b","_law_c","_law_t","_law_pairs_here","_law_turns","_law_k","_law_one","_law_other"] Y A.n A.F57 uY @v
theorem CG:lG V 3 "_law_due_of" ["_law_drawing","_law_told"] oH :=
 have:=qx Y A;have:=xq Y A;have:=GX Y A;have:=xp Y A;have:=uU Y A;have:=EU Y A;have:=CF Y A;mf ["_law_drawing","_law_told","_law_names_here","_law_called","_law_name","_law_behind","_law_hands_here","_law_fits"] Y A.n A.F65 CW @v
theorem jM:UA V 1 "Uncurl" ["self","name"] fR :=
 have:=A.l;PY ["self","name"] Y A.n A.Qx A.Zy vJ @v
theorem lq:UA V 1 "Curl" ["self","name","spot","first","hand"] gR :=
 have:=A.l;PY ["self","name","spot","first","hand"] Y A.n A.W0 A.Zx yO @v
theorem lp:UA V 1 "Part" ["self","name","second"] gQ :=
 have:=A.l;PY ["self","name","second"] Y A.n A.WZ A.Zw yN @v
theorem lY:UA V 1 "Lay" ["self","name","second","over","under","turned","hand"] iz :=
 have:=A.l;PY ["self","name","second","over","under","turned","hand"] Y A.n A.Zr A.Zv zZ @v
theorem kK:UA V 1 "Slide" ["self","name","second","third","turn"] gm :=
 have:=A.l;PY ["self","name","second","third","turn"] Y A.n A.Tq A.Zt xS @v
theorem Jw:lG V 3 "move_of" ["told"] mO :=
 have:=jM Y A;have:=lq Y A;have:=lp Y A;have:=lY Y A;have:=kK Y A;mf ["told"] Y A.n A.F41 JK @v
theorem sJ:lG V 1 "passings_of" ["rows"] kn :=
 mf ["rows","passings","row"] Y A.n A.F10 B6 @v
theorem ou:lG V 2 "names_of" ["drawing"] gj :=
 have:=sJ Y A;mf ["drawing"] Y A.n A.F13 zw @v
theorem fk:lG V 3 "refuse_unknown" ["drawing","names"] dW :=
 have:=ou Y A;mf ["drawing","names","known","name"] Y A.n A.F26 xG @v
theorem lX:lG V 1 "refuse_unfit" ["fits"] iw :=
 mf ["fits"] Y A.n A.F27 zT @v
theorem uT:lG V 1 "neighbours" ["behind","one","other"] jo :=
 mf ["behind","one","other"] Y A.n A.F19 CV @v
theorem nk:lG V 1 "next_of" ["drawing"] jI :=
 mf ["drawing","behind","row","passing","follower"] Y A.n A.F16 JJ @v
theorem sG:lG V 2 "uncurl_fits" ["drawing","name"] ki :=
 have:=uT Y A;have:=nk Y A;mf ["drawing","name"] Y A.n A.F20 B3 @v
theorem pJ:u0 V tu 4 "Uncurl" "refuse" @P (j3 V.K fK) :=
 have:=A.l;have:=fk Y A;have:=lX Y A;have:=sG Y A;xg @P Y A.n A.pV A.Uy yL @v
theorem ot:lG V 1 "spots_on" ["row","string"] jR :=
 mf ["row","string"] Y A.n A.F15 HB @v
theorem xk:lG V 2 "string_of" ["drawing","spot"] kj :=
 have:=ot Y A;mf ["drawing","spot","string","row"] Y A.n A.F17 Fj @v
theorem uR:lG V 3 "spot_ahead" ["drawing","spot","gone"] jn :=
 have:=xk Y A;have:=ot Y A;mf ["drawing","spot","gone","string","row","start","left"] Y A.n A.F31 CS @v
theorem nu:lG V 2 "hand_of" ["drawing","name"] fQ :=
 have:=sJ Y A;mf ["drawing","name","passing"] Y A.n A.F14 JM @v
theorem BG:u0 V tu 5 "Uncurl" "back" @P (j3 V.K iT) :=
 have:=A.l;have:=pJ Y A;have:=nk Y A;have:=uR Y A;have:=lq Y A;have:=nu Y A;xg ["self","drawing","over","under","first","spot"] Y A.n A.pV A.Uw Cb @v
theorem lD:lG V 3 "refuse_new" ["drawing","names"] iC :=
 have:=A.pN;have:=ou Y A;mf ["drawing","names","taken","name"] Y A.n A.F28 CU @v
theorem MT:lG V 1 "seated" ["row"] tH :=
 mf ["row","start"] Y A.n A.F11 D0 @v
theorem gU:lG V 2 "seated_rows" ["rows"] bA :=
 have:=MT Y A;mf ["rows"] Y A.n A.F12 sW @v
theorem sF:lG V 3 "with_put" ["drawing","spot","passings"] iS :=
 have:=xk Y A;have:=ot Y A;mf ["drawing","spot","passings","string","rows","place"] Y A.n A.F29 Hz @v
theorem xu:u0 V tu 4 "Curl" "done" @P (j3 V.K eO) :=
 have:=A.l;have:=lD Y A;have:=gU Y A;have:=sF Y A;xg ["self","drawing","passings"] Y A.n A.FA A.Uv Fu @v
theorem E4:u0 V tu 5 "Curl" "back" @P (j3 V.K kF) :=
 have:=A.l;have:=xu Y A;have:=jM Y A;xg @P Y A.n A.FA A.Uu Fv @v
theorem xl:lG V 3 "part_fits" ["drawing","name","second"] mj :=
 have:=nu Y A;have:=nk Y A;have:=uT Y A;mf ["drawing","name","second","behind"] Y A.n A.F21 Fm @v
theorem sN:u0 V tu 4 "Part" "refuse" @P (j3 V.K gP) :=
 have:=A.l;have:=fk Y A;have:=lX Y A;have:=xl Y A;xg @P Y A.n A.yP A.Ut Cd @v
theorem yG:lG V 2 "first_in_turn" ["drawing","name","second","way"] ja :=
 have:=nk Y A;mf ["drawing","name","second","way"] Y A.n A.F32 yK @v
theorem E1:u0 V tu 5 "Part" "back" @P (j3 V.K kD) :=
 have:=A.l;have:=sN Y A;have:=yG Y A;have:=uR Y A;have:=lY Y A;have:=nu Y A;xg ["self","drawing","first","other","lower","overs","unders","over","under","turned"] Y A.n A.yP A.Ur Fq @v
theorem qT:u0 V tu 1 "Lay" "passings" ["self","way"] (j3 V.K cp) :=
 have:=A.l;xg ["self","way"] Y A.n A.HI A.Zu zY @v
theorem zl:u0 V tu 4 "Lay" "done" @P (j3 V.K fc) :=
 have:=A.l;have:=lD Y A;have:=sF Y A;have:=qT Y A;have:=gU Y A;xg ["self","drawing","above","unders"] Y A.n A.HI A.Uq HE @v
theorem Hb:u0 V tu 5 "Lay" "back" @P (j3 V.K lK) :=
 have:=A.l;have:=zl Y A;have:=lp Y A;xg @P Y A.n A.HI A.Up HF @v
theorem Jx:lG V 1 "in_turn" ["one","other","turn"] mQ :=
 mf ["one","other","turn"] Y A.n A.F22 JL @v
theorem sH:lG V 3 "slide_pairs" ["drawing","name","second","third","turn"] kl :=
 have:=nu Y A;have:=Jx Y A;mf ["drawing","name","second","third","turn","first_hand","second_hand","third_hand"] Y A.n A.F23 B4 @v
theorem uS:lG V 4 "slide_fits" ["drawing","name","second","third","turn"] ly :=
 have:=nk Y A;have:=sH Y A;mf ["drawing","name","second","third","turn","behind"] Y A.n A.F24 CT @v
theorem qR:u0 V tu 5 "Slide" "refuse" @P (j3 V.K gc) :=
 have:=A.l;have:=fk Y A;have:=lX Y A;have:=uS Y A;xg @P Y A.n A.tY A.Uo zW @v
theorem CI:u0 V tu 6 "Slide" "back" @P (j3 V.K jq) :=
 have:=A.l;have:=qR Y A;have:=kK Y A;xg @P Y A.n A.tY A.Ul CZ @v
theorem jL:QA V 3 "refuse_unknown" ["drawing","names"] fO :=
 have:=A.NN;have:=ou Y A;MS ["drawing","names","known","name"] Y A.n A.F26 vI @v
theorem ll:QA V 1 "refuse_unfit" ["fits"] eV :=
 have:=A.Q6;MS ["fits"] Y A.n A.F27 pT @v
theorem ow:u0 V (vK V.P V.w) 4 "Uncurl" "refuse" @P (hW V.K V.mg fj) :=
 have:=A.l;have:=fk Y A;have:=jL Y A;have:=ll Y A;have:=sG Y A;yF @P Y A.n A.pV A.Uy xR @v
theorem zP:u0 V (vK V.P V.w) 5 "Uncurl" "back" @P (hW V.K V.mg iy) :=
 have:=ow Y A;yF ["self","drawing","over","under","first","spot"] Y A.n A.pV A.Uw zV @v
theorem sI:QA V 3 "refuse_new" ["drawing","names"] km :=
 have:=A.pN;have:=A.Lv;have:=A.F4;have:=ou Y A;MS ["drawing","names","taken","name"] Y A.n A.F28 B5 @v
theorem CC:QA V 2 "string_of" ["drawing","spot"] oG :=
 have:=A.F3;have:=ot Y A;MS ["drawing","spot","string","row"] Y A.n A.F17 CQ @v
theorem xh:QA V 3 "with_put" ["drawing","spot","passings"] kh :=
 have:=CC Y A;MS ["drawing","spot","passings","string","rows","place"] Y A.n A.F29 Fh @v
theorem uV:u0 V (vK V.P V.w) 4 "Curl" "done" @P (hW V.K V.mg gA) :=
 have:=A.l;have:=lD Y A;have:=sI Y A;have:=gU Y A;have:=xh Y A;yF ["self","drawing","passings"] Y A.n A.FA A.Uv C5 @v
theorem CL:u0 V (vK V.P V.w) 5 "Curl" "back" @P (hW V.K V.mg ju) :=
 have:=uV Y A;yF @P Y A.n A.FA A.Uu C6 @v
theorem qS:u0 V (vK V.P V.w) 4 "Part" "refuse" @P (hW V.K V.mg gf) :=
 have:=A.l;have:=fk Y A;have:=jL Y A;have:=ll Y A;have:=xl Y A;yF @P Y A.n A.yP A.Ut zX @v
theorem CK:u0 V (vK V.P V.w) 5 "Part" "back" @P (hW V.K V.mg jt) :=
 have:=qS Y A;yF ["self","drawing","first","other","lower","overs","unders","over","under","turned"] Y A.n A.yP A.Ur C4 @v
theorem xt:u0 V (vK V.P V.w) 4 "Lay" "done" @P (hW V.K V.mg h8) :=
 have:=A.l;have:=A.F3;have:=lD Y A;have:=sI Y A;have:=sF Y A;have:=xh Y A;have:=qT Y A;have:=gU Y A;yF ["self","drawing","above","unders"] Y A.n A.HI A.Uq Fs @v
theorem E3:u0 V (vK V.P V.w) 5 "Lay" "back" @P (hW V.K V.mg kE) :=
 have:=xt Y A;yF @P Y A.n A.HI A.Up Ft @v
theorem pK:u0 V (vK V.P V.w) 5 "Slide" "refuse" @P (hW V.K V.mg gO) :=
 have:=A.l;have:=fk Y A;have:=jL Y A;have:=ll Y A;have:=uS Y A;yF @P Y A.n A.tY A.Uo yM @v
theorem BI:u0 V (vK V.P V.w) 6 "Slide" "back" @P (hW V.K V.mg iV) :=
 have:=pK Y A;yF @P Y A.n A.tY A.Ul Cc @v
theorem xj:lG V 3 "taken_out" ["drawing","names"] mi :=
 have:=gU Y A;mf ["drawing","names","rows","row"] Y A.n A.F30 Fi @v
theorem BF:u0 V tu 5 "Uncurl" "done" @P (j3 V.K eN) :=
 have:=A.l;have:=pJ Y A;have:=xj Y A;xg @P Y A.n A.pV A.Ux Ca @v
theorem EZ:u0 V tu 5 "Part" "done" @P (j3 V.K fF) :=
 have:=A.l;have:=sN Y A;have:=xj Y A;xg @P Y A.n A.yP A.Us Fp @v
theorem zN:lG V 3 "with_changed" ["drawing","pairs"] lV :=
 have:=nu Y A;have:=gU Y A;mf ["drawing","pairs","partner","one","other","rows","row","spots"] Y A.n A.F33 zS @v
theorem CH:u0 V tu 6 "Slide" "done" @P (j3 V.K eX) :=
 have:=A.l;have:=qR Y A;have:=zN Y A;have:=sH Y A;xg @P Y A.n A.tY A.Um CY @v
theorem zO:u0 V (vK V.P V.w) 5 "Uncurl" "done" @P (hW V.K V.mg ix) :=
 have:=ow Y A;yF @P Y A.n A.pV A.Ux zU @v
theorem CJ:u0 V (vK V.P V.w) 5 "Part" "done" @P (hW V.K V.mg jr) :=
 have:=qS Y A;yF @P Y A.n A.yP A.Us C3 @v
theorem BH:u0 V (vK V.P V.w) 6 "Slide" "done" @P (hW V.K V.mg iU) :=
 have:=pK Y A;yF @P Y A.n A.tY A.Um tf @v
theorem GU:QA V 3 "move_of" ["told"] rP :=
 have:=A.NO;have:=jM Y A;have:=lq Y A;have:=lp Y A;have:=lY Y A;have:=kK Y A;MS ["told"] Y A.n A.F41 HC @v
theorem BE:lG V 1 "_law_classes" ["_law_e"] kB :=
 have:=A.i0;have:=A.i1;have:=A.i2;have:=A.i3;have:=A.i4;have:=A.i5;have:=A.v6;mf ["_law_e","_law_found"] Y A.n A.F66 B9 @v
theorem EY:lG V 7 "_law_asked" ["_law_told","_law_drawing","_law_back"] kC :=
 have:=A.z7;have:=Jw Y A;have:=BG Y A;have:=E4 Y A;have:=E1 Y A;have:=Hb Y A;have:=CI Y A;have:=zP Y A;have:=CL Y A;have:=CK Y A;have:=E3 Y A;have:=BI Y A;have:=BF Y A;have:=xu Y A;have:=EZ Y A;have:=zl Y A;have:=CH Y A;have:=zO Y A;have:=uV Y A;have:=CJ Y A;have:=xt Y A;have:=BH Y A;have:=GU Y A;have:=BE Y A;mf ["_law_told","_law_drawing","_law_back","_law_error","_law_made_here","_law_other","_law_move","_law_e"] Y A.n A.F67 Fo @v
theorem ET:lG V 1 "_law_whole" ["_law_found"] ql :=
 mf ["_law_found"] Y A.n A.F44 Fn @v
theorem CD:lG V 2 "_law_wholes" ["_law_found","_law_due"] bW :=
 have:=ET Y A;mf ["_law_found","_law_due","_law_part"] Y A.n A.F52 cL @v
theorem GW:lG V 3 "_law_same" ["_law_found","_law_due"] jS :=
 have:=CD Y A;mf ["_law_found","_law_due","_law_k","_law_j"] Y A.n A.F53 zy @v
theorem kJ:lG V 1 "_law_begun" ["_law_drawing"] dq :=
 mf ["_law_drawing","_law_made_here","_law_row","_law_at"] Y A.n A.F51 xQ @v
theorem GV:lG V 2 "_law_slid" ["_law_drawing","_law_told"] nT :=
 have:=xp Y A;have:=xn Y A;have:=kJ Y A;mf ["_law_drawing","_law_told","_law_hands_here","_law_partner","_law_one","_law_other","_law_made_here","_law_row","_law_changed","_law_passing","_law_spot"] Y A.n A.F58 zx @v
theorem GZ:lG V 2 "_law_laid" ["_law_drawing","_law_told"] lJ :=
 have:=kJ Y A;have:=vC Y A;mf ["_law_drawing","_law_told","_law_overs","_law_unders"] Y A.n A.F61 zC @v
theorem BB:lG V 2 "_law_without" ["_law_drawing","_law_names_here"] kq :=
 have:=kJ Y A;mf ["_law_drawing","_law_names_here","_law_made_here","_law_row"] Y A.n A.F62 sX @v
theorem GY:lG V 3 "_law_made" ["_law_drawing","_law_told"] lI :=
 have:=GV Y A;have:=GZ Y A;have:=kJ Y A;have:=vC Y A;have:=BB Y A;mf ["_law_drawing","_law_told","_law_fresh"] Y A.n A.F63 zB @v
theorem Wo   (F:Qy V.K "law" "law" (top 69) f fd):lu V.P V.w V.K V.mg V.base tu 8 f fd ["_law_script"] (j3 V.K K2.Dk) :=
 have:=sM Y A;have:=BD Y A;have:=BC Y A;have:=CG Y A;have:=EY Y A;have:=GW Y A;have:=GY Y A;have:=kJ Y A;ab6 U0 Y A.n F WX @v
end
theorem all_mk {l:D9}  {K:aB}   {fl:Addr} {dl:cG} (X:K.In h) (G:h.Ns bj mg) (hfa:mg "law"=some (.ref fa)) (FL:At K "law" (top 69) fl dl) (A:Al K):
  ∃fd:cG,(∀(s:aL) (v:Value),BindsTo s fd ⟨[v],[]⟩ [("_law_script",v)])/\∀base:Heap,K.In base->base.Ns bj mg->lu l.prog w K mg base tu 8 fa fd ["_law_script"] (j3 K K2.Dk):=by
 have e:=hfa.symm.trans (PySem.W.mg_of X G FL.a);cases e;obtain⟨Fa,Fl⟩:=FL;obtain⟨oc,od,kV,doc,pm,an,fT,ct,HX,rfl,lk,KJ⟩:=Fl.ex;refine⟨jh "law" "law" (fm (top 69)) (c7 (top 69)) (bK (top 69)) .none kV doc pm an fT ct,λs v=>.of_eq rfl,λbase _ _=>?_⟩;exact Wo (V:=⟨l.prog,w,K,mg,base⟩) ⟨X,G⟩ A Fl
end Fin
end
end Internal
open Internal
open PySem PySem.W PyProof.Rows
set_option maxRecDepth 100000 in
set_option maxHeartbeats 0 in
theorem PySem.Challenge.cw_knotwise_k25_moves_refused_holds : PySem.Challenge.rw_knotwise_k25_moves_refused.Holds := by
 w_on
 refine K2.ML (q:=Fin.hQ) (K:=Fin.hK) (as:=Fin.hA) (N:=(12+(1+(2796+2534)))) Fin.Wh (by kernel_rfl) (by kernel_rfl) (λ_=>by kernel_rfl) (λ_=>by kernel_rfl) Fin.Wi (by rfl) (by rfl) (by rfl) (by rfl) Fin.Wg ⟨rfl,rfl,rfl,rfl,rfl,@W⟩ ?hw ?hc
 (case hw=>w_witness2)
 k_fill
 refine K2.Pa (l:=PySem.Challenge.rw_knotwise_k25_moves_refused) (k:=8) (x:="_law_script") rfl rfl ⟨rfl,@c,@c⟩ (λw h Y=>Y) ?F
 case F=>
  intro w mg fa h KX G YL;exact Fin.all_mk KX G YL K2.Ue ⟨(by repeat first |exact K2.Ss |refine K2.OX ?_),K2.dv,K2.dv,K2.dv,K2.dv,K2.dv,K2.dv,K2.dv,K2.dv,K2.dv,K2.dv,K2.dv,K2.dv,K2.dv,K2.dv,K2.dv,K2.dv,K2.dv,K2.dv,K2.dv,K2.dv,K2.dv,K2.dv,K2.dv,K2.dv,K2.dv,K2.dv,K2.dv,K2.dv,K2.dv,K2.dv,K2.dv,K2.dv,K2.dv,K2.dv,K2.dv,K2.dv,K2.dv,K2.dv,K2.dv,K2.dv,K2.dv,K2.dv,K2.dv,K2.dv,K2.dv,K2.dv,K2.dv,K2.dv,K2.dv,K2.fZ,K2.fZ,K2.fZ,K2.fZ,K2.fZ,K2.Be,K2.Be,K2.Be,K2.Be,K2.Be,K2.ie,K2.ie,K2.ie,K2.ie,K2.ie,K2.ie,K2.ie,K2.ie,K2.ie,K2.ie,K2.ie,K2.ie,K2.ie,K2.ie,K2.ie,K2.ie,K2.ie,K2.ie,K2.ie,(K2.fg (K2.fg (K2.fg (K2.fg (K2.fg (K2.fg (K2.fg (K2.fg (K2.fg (K2.fg (K2.fg (K2.fg (K2.fg (K2.fg (K2.fg (K2.fg (K2.fg K2.SR K2.fZ) K2.fZ) K2.fZ) K2.fZ) K2.fZ) K2.fZ) K2.fZ) K2.fZ) K2.fZ) K2.fZ) K2.fZ) K2.fZ) K2.fZ) K2.fZ) K2.fZ) K2.fZ) K2.fZ),K2.WD,K2.yh,K2.yh,K2.yh,K2.yh,K2.yh,K2.yh,⟨_,by k_is,by show _=_;first |k_is |kit_is,(K2.mem_cons (K2.mem_cons (K2.mem_cons (K2.mem_cons (K2.mem_cons (K2.mem_cons K2.oj ⟨_,by k_is,@S,(K2.cw (x:="NoMove")).xi⟩) ⟨_,by k_is,@S,(K2.cw (x:="NoFit")).xi⟩) ⟨_,by k_is,@S,(K2.cw (x:="TooMany")).xi⟩) ⟨_,by k_is,@S,(K2.cw (x:="NoSpot")).xi⟩) ⟨_,by k_is,@S,(K2.cw (x:="NameTaken")).xi⟩) ⟨_,by k_is,@S,(K2.cw (x:="NoName")).xi⟩)⟩,⟨_,by k_is,by show _=_;first |k_is |kit_is,(K2.mem_cons (K2.mem_cons (K2.mem_cons (K2.mem_cons (K2.mem_cons (K2.mem_cons K2.oj ⟨_,by k_is,@S,(K2.cw (x:="NoMove")).xi⟩) ⟨_,by k_is,@S,(K2.cw (x:="NoFit")).xi⟩) ⟨_,by k_is,@S,(K2.cw (x:="TooMany")).xi⟩) ⟨_,by k_is,@S,(K2.cw (x:="NoSpot")).xi⟩) ⟨_,by k_is,@S,(K2.cw (x:="NameTaken")).xi⟩) ⟨_,by k_is,@S,(K2.cw (x:="NoName")).xi⟩)⟩,⟨_,by k_is,by show _=_;first |k_is |kit_is,(K2.mem_cons (K2.mem_cons (K2.mem_cons (K2.mem_cons (K2.mem_cons (K2.mem_cons K2.oj ⟨_,by k_is,@S,(K2.cw (x:="NoMove")).xi⟩) ⟨_,by k_is,@S,(K2.cw (x:="NoFit")).xi⟩) ⟨_,by k_is,@S,(K2.cw (x:="TooMany")).xi⟩) ⟨_,by k_is,@S,(K2.cw (x:="NoSpot")).xi⟩) ⟨_,by k_is,@S,(K2.cw (x:="NameTaken")).xi⟩) ⟨_,by k_is,@S,(K2.cw (x:="NoName")).xi⟩)⟩,⟨_,by k_is,by show _=_;first |k_is |kit_is,(K2.mem_cons (K2.mem_cons (K2.mem_cons (K2.mem_cons (K2.mem_cons (K2.mem_cons K2.oj ⟨_,by k_is,@S,(K2.cw (x:="NoMove")).xi⟩) ⟨_,by k_is,@S,(K2.cw (x:="NoFit")).xi⟩) ⟨_,by k_is,@S,(K2.cw (x:="TooMany")).xi⟩) ⟨_,by k_is,@S,(K2.cw (x:="NoSpot")).xi⟩) ⟨_,by k_is,@S,(K2.cw (x:="NameTaken")).xi⟩) ⟨_,by k_is,@S,(K2.cw (x:="NoName")).xi⟩)⟩,⟨_,by k_is,by show _=_;first |k_is |kit_is,(K2.mem_cons (K2.mem_cons (K2.mem_cons (K2.mem_cons (K2.mem_cons (K2.mem_cons K2.oj ⟨_,by k_is,@S,(K2.cw (x:="NoMove")).xi⟩) ⟨_,by k_is,@S,(K2.cw (x:="NoFit")).xi⟩) ⟨_,by k_is,@S,(K2.cw (x:="TooMany")).xi⟩) ⟨_,by k_is,@S,(K2.cw (x:="NoSpot")).xi⟩) ⟨_,by k_is,@S,(K2.cw (x:="NameTaken")).xi⟩) ⟨_,by k_is,@S,(K2.cw (x:="NoName")).xi⟩)⟩,⟨_,by k_is,by show _=_;first |k_is |kit_is,(K2.mem_cons (K2.mem_cons (K2.mem_cons (K2.mem_cons (K2.mem_cons (K2.mem_cons K2.oj ⟨_,by k_is,@S,(K2.cw (x:="NoMove")).xi⟩) ⟨_,by k_is,@S,(K2.cw (x:="NoFit")).xi⟩) ⟨_,by k_is,@S,(K2.cw (x:="TooMany")).xi⟩) ⟨_,by k_is,@S,(K2.cw (x:="NoSpot")).xi⟩) ⟨_,by k_is,@S,(K2.cw (x:="NameTaken")).xi⟩) ⟨_,by k_is,@S,(K2.cw (x:="NoName")).xi⟩)⟩,(K2.mem_cons (K2.mem_cons (K2.mem_cons (K2.mem_cons (K2.mem_cons (K2.mem_cons K2.oj ⟨_,by k_is,@S,(K2.cw (x:="NoMove")).xi⟩) ⟨_,by k_is,@S,(K2.cw (x:="NoFit")).xi⟩) ⟨_,by k_is,@S,(K2.cw (x:="TooMany")).xi⟩) ⟨_,by k_is,@S,(K2.cw (x:="NoSpot")).xi⟩) ⟨_,by k_is,@S,(K2.cw (x:="NameTaken")).xi⟩) ⟨_,by k_is,@S,(K2.cw (x:="NoName")).xi⟩),⟨_,K2.cw,(K2.mem_cons (K2.mem_cons (K2.mem_cons (K2.mem_cons (K2.mem_cons (K2.mem_cons K2.oj ⟨_,K2.cw,K2.Dm⟩) ⟨_,K2.cw,K2.Dm⟩) ⟨_,K2.cw,K2.Dm⟩) ⟨_,K2.cw,K2.Dm⟩) ⟨_,K2.cw,K2.Dm⟩) ⟨_,K2.cw,K2.Dm⟩)⟩⟩
